import PyProof.Rows.All
import Wide.All
import OpenK.AllK
import Wide.FinOn
import Lean
import PyProof.EqAt
import PyProof.EqKinds
import PyProof.TupleCall
import PyProof.Draws
import PyProof.EnumMake
import PyProof.EnumFor
import PyProof.ZipIter
import PyProof.ListMulRoad
import PyProof.NeData
import PyProof.SumWalkG
import KE.KSortedM
import PyProof.ListRange
import PyProof.FactsAll.subtypes_4
import PySem.Challenge.RW_sharetrail_k60_home_refused
set_option Elab.async false
set_option linter.all false
set_option maxRecDepth 100000
set_option maxHeartbeats 4000000
set_option exponentiation.threshold 10000
open _root_ renaming List->Gc,Option->uo,of_decide_eq_true->vH,if_pos->va,if_neg->vf,Bool->vm,or_false->wF,Array->wK,decide_eq_true_eq->xN,decide_eq_true->xZ,String->xl,False->xt,decide_eq_false->xy,if_true->zO,beq_iff_eq->zh,if_false->AAS,not_or->AAp,beq_eq_false_iff_ne->ABu,True->AB8
open Array renaming toArray_toList->zx,length_toList->AAB
open Bool renaming and_eq_true->vE,false_ne_true->vz,or_eq_true->wQ,noConfusion->xS,false_eq_true->zC,and_false->AAX,eq_iff_iff->ABO,false_and->ABW,true_and->AB5
open False renaming elim->wt
open ForInStep renaming yield->z7
open Int renaming toNat_of_nonneg->wD,mul_pos->wV,natAbs_natCast->xE,emod_nonneg->x9,toNat_natCast->yB,natAbs_mul->yM,mul_le_mul_of_nonneg_right->yO,emod_lt_of_pos->yY,lt_of_lt_of_le->zE,lt_of_le_of_lt->AAd,mul_ediv_cancel_left->AAs,natCast_mul->ABK,mul_nonneg->ABm,mul_le_mul->ABn
open List renaming getElem?_append_left->uq,mem_cons_of_mem->uv,mem_cons->uw,getElem?_eq_getElem->ux,getElem?_set_ne->u3,mem_cons_self->vA,getElem?_eq_some_iff->vB,replicate->vC,size_toArray->vF,getElem?_map->vG,getElem?_set_self->vJ,getElem?_concat_length->vK,mem_of_getElem?->vL,not_mem_nil->vN,getD_eq_getElem?_getD->vO,mem_singleton->vQ,range->vS,map_cons->vT,length_map->vW,nil_append->vX,mem_append->vY,cons_append->vb,filterMap_cons->vc,getElem?_append_right->vo,mem_map->vp,mem_append_right->vy,map_map->v5,length_cons->wC,drop_eq_getElem_cons->wH,length_append->wM,prefix_rfl->wR,map_nil->wc,lookup_cons->wk,drop_eq_nil_of_le->xM,replicate_succ->xO,nodup_cons->xP,of_mem_zip->xQ,mem_iff_getElem?->xR,sum_cons->xT,mem_range->xW,mem_filter->xg,append_nil->xh,length_set->xi,getElem?_range->xj,any_cons->xk,getElem?_eq_none->xr,getElem?_eq_none_iff->xu,mem_or_eq_of_mem_set->xw,flatten_cons->yC,length_filterMap_le->yG,take_length->yP,getElem?_zipWith_eq_some->yR,take_of_length_le->yV,prefix_append->yW,length_nil->yb,map_append->yc,all_cons->yd,append_assoc->yf,length_range->yh,nodup_append->yi,ext_getElem?->yj,length_take->yr,all_map->yu,getElem_mem->yx,map_set->yy,getElem?_zip_eq_some->y0,mem_filterMap->zA,lookup_append->zB,getElem?_inj->zQ,mem_range'_1->zV,flatten_replicate_singleton->zW,length_filter_le->zY,all_eq_true->zl,any_eq_true->zm,map_take->zo,mem_append_left->zq,map_congr_left->AAE,zipWith->AAK,take_succ->AAZ,mapM_cons->AAb,length->AAh,getElem_take->AAm,eq_of_mem_replicate->AAu,getElem?_replicate->AAy,length_drop->AA0,forIn_cons->ABJ,length_singleton->ABS,set_append_right->ABT,forIn_nil->ABb,drop_eq_nil_iff->ABf,set_append_left->ABo,map_id->ABp,length_pos_iff->ABx,foldl->ACC
open List.MergeSort.Internal renaming splitInTwo->ACF
open Nat renaming lt_of_lt_of_le->uy,le_trans->uz,le_refl->u4,ne_of_lt->vZ,lt_of_le_of_lt->vd,pow_le_pow_right->v9,mul_le_mul_right->wB,lt_irrefl->wj,zero_le->xf,le_succ_of_le->yE,mul_comm->yU,le_of_succ_le->yg,mul_le_mul->yo,lt_trans->yt,pos_of_ne_zero->zD,mul_pos->zH,pow_lt_pow_right->zy,le_of_lt->AAF,gcd->AAJ,lt_or_ge->AAL,one_lt_two_pow->AAc,lt_succ_of_lt->AAl,mul_assoc->AAt,ne_of_gt->AA6,add_comm->ABA,zero_add->ABD,gcd_comm->ABE,pow_succ->ABF,not_lt_zero->ABN
open Ne renaming symm->wu
open Option renaming some->Fk,none->uk,bind_some->yv,map->ACE
open Option.some renaming inj->wO
open PyProof.Rows renaming slot_tuple_getitem->vg,boot_tuple->vn,firstMet->vt,envOfC->v3,boot_isinstance->wI,callWith_type1->wZ,IntsAre->xI,firstMet_succ->yp,AllBare->zF,step_dedup->zI,boot_int->zU,callWith_builtin1->zd,entry_tuple_getitem->AAC,assignInOrder_cons->AAN,slicePart_none->AAT,args_tuple_getitem->AAU,subscriptTail_builtinR->AA8,Subscript_->ABU,boot_all->ABl,codeAny_set_update_loopS->ABt,tupleItemsOf_->AB2
open PyProof.Rows.IsTup renaming new->xX
open PySem renaming Value->W1,wpAny_bind->um,Shared->ur,Addr->uu,wpAny_pure->vD,starEach->vP,Program->vR,Expr->vU,Heap->ve,Stmt->vh,World->vi,Around->vj,mem_of_lookup->vv,wpAny_newObj_type->wJ,wpAny_Call_Name_kw->wL,Scope->wX,wpAny_callSpecial?_slot->wd,wpAny_mono->we,boot_len->wq,wpAny_field->wx,Env->wy,wpAny_pyIter_tuple->xD,wpAny_call_entry->xF,wpAny_holding->xG,FuncData->xH,wpAny_pyIter_list->xJ,ExceptHandler->xU,wpAny_setField_rec->xq,wpAny_passesOwn->x8,wpAny_truthy_bool->yA,IsPair->yF,wpAny_execs_cons->yI,NameKind->yK,wpAny_getItem_str_slice->yL,wpAny_seqItems->ym,codeAny_mono->yq,wpAny_binaryOp_repeat_ref->yz,wpAny_standAt->y4,wpAny_execs_nil->y9,wpAny_pyNext_list_item->zK,Builtin->zP,wpAny_pyNext_list_end->zX,typeIs_int->ze,call_meets->zf,wpAny_updateSeq_pair->zv,post_val_or_str->AAA,wpAny_typeOf->AAG,Arguments->AAM,wpAny_call->AAO,wpAny_newFunctionEnv_cells->AAR,typeIs_str->AAW,IsZip->AAY,Keyword->AAg,wpAny_sequenceKey->AAi,wpAny_comprehension_free->AAn,wpAny_onRaise->AAo,noFill_tuple_add->AAz,wpAny_rule->AA5,IsPart->AA7,codeAny_builtin->ABL,wpAny_pyIter_listiter->ABP,codeAny_call_function->ABQ,wpAny_Expr_any->ABV,intBits_le_iff->ABe,wpAny_newFunctionEnv->ABi,seq_tuple_add->AB1,evalPart_none->AB3
open PySem.Around renaming frames_deeper->ABY,under_plainId->ABk
open PySem.AutoSeq1 renaming wpAny_loadPart'->vV
open PySem.Builtin.List renaming listTooLong->xA
open PySem.Builtin.Range renaming rangeSize->yJ,small->AAD
open PySem.Builtin.Slice renaming slicePlaces->wG,sliceAdjust->wm,sliceApplied->xo,sliceFields->AAe
open PySem.Builtin.SmallTypes renaming nextOf->vq,ownedTupleIsFree->xB,ownedTupleHandOut->y3
open PySem.Builtin.Str renaming tooLong->ABy
open PySem.Builtin.Tuple renaming tupleExact->vw,tupleItemsOf->yl,tupleTooMany->AAa
open PySem.Calls renaming spliced_cons->yQ,spliced_nil->yZ,Name_function_global->yk,loadGlobal_global->AAx,callWith_builtin->AA9,evalArgs_plain->ABZ
open PySem.Challenge renaming pw_sharetrail_k60_home_refused->AAr
open PySem.F renaming slot_list_append->vx,type_list_append->v7,slot_tuple_iterator_next->xp,slot_str_getitem->yH,called_set->yX,slot_int_rmul->ya,args_tuple_add_2->y7,entry_tuple_add->zG,slot_tuple_add->zN,slot_tuple_mul->zk,slot_list_extend->zu,args_tuple_iterator_next_1->z8,slot_zip_next->z9,entry_tuple_iterator_next->AAH,args_int_rmul_2->AAj,slot_int_index->AA1,entry_int_rmul->AA2,slot_str_upper->ABC,fills_int_mul->ABI,args_list_extend_2->ABa,args_object_init_2->ABc,excBase_ValueError->ABg,entry_list_extend->ABv,args_tuple_mul_2->ACD
open PySem.Heap renaming get?_push_of_some->tz,lt_size->vI,get?_push_size->vM,size_push->wg,get?_update_other->yT,SameBut->zJ,IsTuple->AAI,ExtBut->AAk,get?_update_self->ABR,IsList->ABd
open PySem.Heap.IsSliceOf renaming new->ACB
open PySem.Heap.SameBut renaming update->ABw
open PySem.NameKind renaming free->wU,cell->ye
open PySem.Obj renaming mapSeq->AAV
open PySem.PassesOwn renaming never->vk
open PySem.PyData renaming strOk->xv,canLayAll0->zR
open PySem.SeqAt.EqAt renaming int_str->AB6,str_int->AB7
open PySem.Shared renaming heap->yD,TypeIs->AB4
open PySem.Str renaming ofString->xC,ofString_eq_toList->ABG
open PySem.Txt renaming slice_le->ABB,upper->ABs
open PySem.Value renaming ref->wN,none->wW,type->zZ,int->AAv,str->AAw,bool->AA4,isStrOf->AB0
open PySem.W renaming Frag->Wp,kia_one->wY,nsIn->xK,envX->xV,keepIn->xY,kitOne->xn,fnOf->yS,exmOne->yn,mg_of->y8,findIn->zL,cellsFrom_some->zM,tabObj->zS,kla_fn->zT,callWith_K->AAP,codeIn->AAQ,methodObj->AAf,excIn->AAq,OpenLaw->AA3,instObj->ABH,kla_obj->ABM,lookIn->ABX,kla_callFunE->ABh,kla_codeExpr->ABj,callWith_F0->ABz,kitx_tuple->AB9,codeRec_of->ACA
open PySem.codeAmong renaming eq_def->yw
open Rat renaming intCast_eq_zero_iff->yN
open Sum renaming inl->ABq,inr->ABr
open True renaming intro->zc
noncomputable section
namespace L2
open PySem PySem.Spec PyProof.Rows
abbrev Key:=Sum Int Str
noncomputable def XT:Key->W1->vm
 | .inl k,v=>Value.isInt k v
 | .inr x,v=>AB0 x v
noncomputable def sE(w:vi):Key->Int
 | .inl k=>hashInt k
 | .inr x=>hashStr w x
theorem Dw:∀{k:Key} {v:W1},XT k v=true->(∃i t,k=ABq i/\v=AAv i t)\/(∃x t,k=ABr x/\v=AAw x t)
 | .inl i,v,h=>by
   obtain⟨t,e⟩:=Value.isInt_shape (k:=i) (v:=v) h
   exact .inl ⟨i,t,rfl,e⟩
 | .inr x,v,h=>by
   obtain⟨t,e⟩:=Value.isStrOf_shape (x:=x) (v:=v) h
   exact .inr ⟨x,t,rfl,e⟩
theorem YJ(i:Int)(t:Tok):XT (.inl i) (.int i t)=true:=by simp[XT,Value.isInt]
theorem Ys(x:Str)(t:Tok):XT (.inr x) (.str x t)=true:=by simp[XT,AB0]
theorem jI(a b:Int):decide ((ABq a:Key)=ABq b)=(a==b):=by
 by_cases e:a=b
 .subst e;simp
 .have h:¬(ABq a:Key)=ABq b:=λq=>e (Sum.inl.inj q)
  rw[xy h]
  exact(ABu.mpr e).symm
theorem jX(a b:Str):decide ((ABr a:Key)=ABr b)=decide (a=b):=by
 by_cases e:a=b
 .subst e;simp
 .have h:¬(ABr a:Key)=ABr b:=λq=>e (Sum.inr.inj q)
  rw[xy h,xy e]
theorem jH(a:Int)(b:Str):decide ((ABq a:Key)=ABr b)=false:=xy (λq=>nomatch q)
theorem lI(a:Str)(b:Int):decide ((ABr a:Key)=ABq b)=false:=xy (λq=>nomatch q)
noncomputable def Fh(prog:vR)(w:vi):PySem.KeyKind prog w Key where
 is:=XT
 hash:=sE w
 inj:=λv a b ha hb=>by
  rcases Dw ha with⟨i,t,rfl,rfl⟩|⟨x,t,rfl,rfl⟩
  .rcases Dw hb with⟨j,u,rfl,e⟩|⟨y,u,rfl,e⟩
   .injection e with e1 _;rw[e1]
   .exact nomatch e
  .rcases Dw hb with⟨j,u,rfl,e⟩|⟨y,u,rfl,e⟩
   .exact nomatch e
   .injection e with e1 _;rw[e1]
 byValue:=λk v h=>by
  rcases Dw h with⟨i,t,rfl,rfl⟩|⟨x,t,rfl,rfl⟩<;>rfl
 pyHash:=λhv h=>by
  rcases Dw hv with⟨i,t,rfl,rfl⟩|⟨x,t,rfl,rfl⟩
  .exact wpAny_pyHash_int h
  .exact wpAny_pyHash_str h
 eqBool:=λhu hv h=>by
  rcases Dw hu with⟨i,t,rfl,rfl⟩|⟨x,t,rfl,rfl⟩
  .rcases Dw hv with⟨j,u,rfl,rfl⟩|⟨y,u,rfl,rfl⟩
   .rw[jI]at h;exact wpAny_eqBool_int h
   .rw[jH]at h;exact AB6 i t y u _ _ _ _ h
  .rcases Dw hv with⟨j,u,rfl,rfl⟩|⟨y,u,rfl,rfl⟩
   .rw[lI]at h;exact AB7 x t j u _ _ _ _ h
   .rw[jX]at h;exact wpAny_eqBool_str h
 «strs» :=λk x t v h=>by
  rcases Dw h with⟨i,u,rfl,e⟩|⟨y,u,rfl,e⟩
  .exact nomatch e
  .injection e with e1 _
   subst e1
   cases v<;>rfl
theorem VO(prog:vR)(w:vi)(i:Int)(t:Tok):(Fh prog w).is (.inl i) (.int i t)=true:=YJ i t
theorem VH(prog:vR)(w:vi)(x:Str)(t:Tok):(Fh prog w).is (.inr x) (.str x t)=true:=Ys x t
end L2
namespace L2
open PySem PySem.Spec PyProof.Rows
inductive V where
 |non|bl (b:vm)|int (i:Int)|str (x:Str)|byt (b:wK UInt8)|flt (b:UInt64)|ref (a:uu)|ty (n:xl)
 deriving DecidableEq
def RelV:V->W1->Prop
 | .non,u=>u=wW
 | .bl b,u=>u=AA4 b
 | .int i,u=>∃t,u=AAv i t
 | .str x,u=>∃t,u=AAw x t
 | .byt b,u=>∃t,u=Value.bytes b t
 | .flt b,u=>∃t,u=Value.float b t
 | .ref a,u=>u=wN a
 | .ty n,u=>u=zZ n
abbrev Vals:Gc V->Gc W1->Prop:=Paired RelV
theorem Vals.length{xs:Gc V}{us:Gc W1}(r:Vals xs us):xs.length=us.length:=Paired.length r
theorem Vals.get:∀{xs:Gc V} {us:Gc W1} {i:Nat} {x:V},Vals xs us->xs[i]?=Fk x->∃u,us[i]?=Fk u/\RelV x u
 |_,_,_,_,.nil,e=>by simp at e
 |_,_,0,_,.cons r _,e=>by simp at e;subst e;exact⟨_,rfl,r⟩
 |_,_,i+1,x,.cons _ t,e=>by
  obtain⟨u,h1,h2⟩:=Vals.get (i:=i) (x:=x) t (by simpa using e)
  exact⟨u,by simpa using h1,h2⟩
theorem Vals.set{x:V}{u:W1}(r:RelV x u):∀{xs:Gc V} {us:Gc W1} (i:Nat),Vals xs us->Vals (xs.set i x) (us.set i u)
 |_,_,_,.nil=>.nil
 |_,_,0,.cons _ t=>.cons r t
 |_,_,i+1,.cons q t=>.cons q (Vals.set r i t)
theorem Vals.append:∀{xs ys:Gc V} {us ws:Gc W1},Vals xs us->Vals ys ws->Vals (xs++ys) (us++ws)
 |_,_,_,_,.nil,s=>s
 |_,_,_,_,.cons r t,s=>.cons r (Vals.append t s)
theorem Vals.take:∀{xs:Gc V} {us:Gc W1} (n:Nat),Vals xs us->Vals (xs.take n) (us.take n)
 |_,_,0,_=>.nil
 |_,_,_+1,.nil=>.nil
 |_,_,n+1,.cons r t=>.cons r (Vals.take n t)
theorem Vals.drop:∀{xs:Gc V} {us:Gc W1} (n:Nat),Vals xs us->Vals (xs.drop n) (us.drop n)
 |_,_,0,r=>r
 |_,_,_+1,.nil=>.nil
 |_,_,n+1,.cons _ t=>Vals.drop n t
theorem Vals.none_of:∀{xs:Gc V} {us:Gc W1} {i:Nat},Vals xs us->xs[i]?=uk->us[i]?=none:=λ{xs us i} r e=>by
 have h1:=r.length
 have h2:xs.length<=i:=xu.mp e
 exact xu.mpr (by lia)
def mz:uo V->uo W1->Prop
 |some v,Fk u=>RelV v u
 |none,uk=>AB8
 |_,_=>xt
def KV{κ:Type}:Gc (κ×V)->Gc (κ×W1)->Prop:=Paired λ(p:κ×V) (q:κ×W1)=>p.1=q.1/\RelV p.2 q.2
noncomputable def kV:Key->V
 | .inl i=>.int i
 | .inr x=>.str x
inductive HO where
 |lst (xs:Gc V)
 |tup (xs:Gc V)
 |dK (kvs:Gc (Key×V))|dT (kvs:Gc (Gc Key×V))
 |set (S:Int->vm) (n:Nat)
 |ins (C dx:uu) (fs:Gc (Str×V))
 |own (x:uu)
 |xd (fs:Gc (Str×V))
 |met (f x:uu)
 |rng (lo hi:Int)
 |frz (o:Obj) (u:HO)
 |tbl (ps:wK W1)
 |ext (φ:ve->Prop)
abbrev Hp:=uu->uo HO
noncomputable def upd(H:Hp)(a:uu)(o:HO):Hp:=λb=>if b=a then Fk o else H b
theorem Br{H:Hp}{a:uu}{o:HO}:upd H a o a=Fk o:=by unfold upd;rw[va rfl]
theorem Au{H:Hp}{a b:uu}{o:HO}(h:b≠a):upd H a o b=H b:=by unfold upd;rw[vf h]
theorem CF{H:Hp}{a b:uu}{o:HO}(h:H a=Fk o)(h':H b=uk):a≠b:=by
 intro e;subst e;rw[h]at h';cases h'
section
variable(P:vR)(w:vi)
def Fo(H:Hp)(h:ve)(a:uu):HO->Prop
 | .lst xs=>xs.length<=sizeLine/\∃(its:Gc W1) (n:Nat),Vals xs its/\h.get? a=Fk {cls:=.type "list",data:=.seq its.toArray n}
 | .tup xs=>xs.length<=sizeLine/\∃its:Gc W1,Vals xs its/\IsTup h a its.toArray
 | .dK kvs=>kvs.length<=sizeLine/\(a==sysModules)=false/\∃vs,KV kvs vs/\h.DictOf (Fh P w) a vs
 | .dT kvs=>kvs.length<=sizeLine/\(a==sysModules)=false/\∃xs:Gc (Gc Key×uu×W1),
    Paired (λ(p:Gc Key×V) (q:Gc Key×uu×W1)=>p.1=q.1/\H q.2.1=Fk (.tup (p.1.map kV))/\RelV p.2 q.2.2) kvs xs/\
    ∃o es ep,h.get? a=Fk o/\o.ExactDict/\o.data=.dict es ep/\es.toList=xs.map (entryOfKey (tupleKind (Fh P w)))/\(xs.map (·.1)).Nodup
 | .set S n=>h.SetOf (intKind P w) a S n
 | .ins C dx fs=>H dx=Fk (.own a)/\fs.length<=1000/\dx≠a/\h.get? a=Fk (ABH C dx)/\
    ∃mA,h.Ns1 dx mA/\(∀f,mz (fs.lookup f) (mA f))/\PySem.Within mA (fs.map (·.1))
 | .own _=>∃o,h.get? a=Fk o
 | .xd fs=>∃mA,h.Ns1 a mA/\∀f,mz (fs.lookup f) (mA f)
 | .rng lo hi=>∃t u v,h.get? a=Fk {cls:=.type "range",data:=.fields #[.int lo t,.int hi u,.int 1 v]}
 | .frz o u=>h.get? a=Fk o/\Fo H h a u
 | .tbl ps=>h.get? a=Fk {cls:=.none,data:=.fields ps}
 | .met f x=>h.get? a=Fk (AAf (.ref f) (.ref x))
 | .ext φ=>φ h/\(∃o,h.get? a=Fk o)/\∀h1 h2:ve,φ h1->(∀o,h1.get? a=Fk o->h2.get? a=Fk o)->φ h2
def HOk(H:Hp)(h:ve):Prop:=∀a o,H a=Fk o->Fo P w H h a o
end
section
variable{P:vR}{w:vi}{H H':Hp}{h h':ve}{a:uu}{o:HO}
theorem Fo.lt(x:Fo P w H h a o):a<h.objs.size:=by
 cases o with
 |lst xs=>obtain⟨_,_,_,_,e⟩:=x;exact vI e
 |tup xs=>obtain⟨_,_,_,p⟩:=x;exact p.lt
 |dK kvs=>obtain⟨_,_,_,_,o,_,_,e,_⟩:=x;exact vI e
 |dT kvs=>obtain⟨_,_,_,_,o,_,_,e,_⟩:=x;exact vI e
 |set S n=>obtain⟨o,_,_,_,e,_⟩:=x;exact vI e
 |ins C dx fs=>obtain⟨_,_,_,e,_⟩:=x;exact vI e
 |own y=>obtain⟨_,e⟩:=x;exact vI e
 |xd fs=>obtain⟨_,⟨_,_,_,e,_⟩,_⟩:=x;exact vI e
 |rng lo hi=>obtain⟨_,_,_,e⟩:=x;exact vI e
 |frz ob u=>obtain⟨e,_⟩:=x;exact vI e
 |tbl ps=>exact vI (show h.get? a=Fk _ from x)
 |met f y=>exact vI (show h.get? a=Fk _ from x)
 |ext φ=>obtain⟨_,⟨_,e⟩,_⟩:=x;exact vI e
theorem Paired.rD{α β:Type}{F G:α->β->Prop}:∀{l₁:Gc α} {l₂:Gc β},Paired F l₁ l₂->(∀a b,F a b->G a b)->Paired G l₁ l₂
 |_,_,.nil,_=>.nil
 |_,_,.cons r t,f=>.cons (f _ _ r) (Paired.rD t f)
theorem Fo.Zq(x:Fo P w H h a o)(k:∀b u,(b=a\/H b=Fk (.own a))->h.get? b=Fk u->h'.get? b=Fk u)(ho:∀b,H b=Fk (.own a)->H' b=Fk (.own a))(ht:∀b xs,H b=Fk (.tup xs)->H' b=Fk (.tup xs)):Fo P w H' h' a o:=by
 induction o with
 |lst xs=>obtain⟨z,its,n,r,e⟩:=x;exact⟨z,its,n,r,k _ _ (.inl rfl) e⟩
 |tup xs=>obtain⟨z,its,r,ob,e,c⟩:=x;exact⟨z,its,r,ob,k _ _ (.inl rfl) e,c⟩
 |dK kvs=>obtain⟨z,y,vs,r,ob,es,ep,e,c⟩:=x;exact⟨z,y,vs,r,ob,es,ep,k _ _ (.inl rfl) e,c⟩
 |dT kvs=>
  obtain⟨z,y,xs,r,ob,es,ep,e,c⟩:=x
  exact⟨z,y,xs,Paired.rD r λp q z=>⟨z.1,ht _ _ z.2.1,z.2.2⟩,ob,es,ep,k _ _ (.inl rfl) e,c⟩
 |set S n=>obtain⟨ob,es,ep,t,e,c⟩:=x;exact⟨ob,es,ep,t,k _ _ (.inl rfl) e,c⟩
 |ins C dx fs=>
  obtain⟨d,z,ne,e,mA,⟨od,es,ep,e2,c⟩,r⟩:=x
  exact⟨ho _ d,z,ne,k _ _ (.inl rfl) e,mA,⟨od,es,ep,k _ _ (.inr d) e2,c⟩,r⟩
 |own y=>obtain⟨ob,e⟩:=x;exact⟨ob,k _ _ (.inl rfl) e⟩
 |xd fs=>obtain⟨mA,⟨od,es,ep,e,c⟩,r⟩:=x;exact⟨mA,⟨od,es,ep,k _ _ (.inl rfl) e,c⟩,r⟩
 |rng lo hi=>obtain⟨t,u,v,e⟩:=x;exact⟨t,u,v,k _ _ (.inl rfl) e⟩
 |frz ob u ih=>obtain⟨e,q⟩:=x;exact⟨k _ _ (.inl rfl) e,ih q⟩
 |tbl ps=>
  have e:h.get? a=Fk {cls:=.none,data:=.fields ps}:=x
  show h'.get? a=Fk {cls:=.none,data:=.fields ps}
  exact k a _ (.inl rfl) e
 |met f y=>
  have e:h.get? a=Fk (AAf (.ref f) (.ref y)):=x
  show h'.get? a=Fk (AAf (.ref f) (.ref y))
  exact k a _ (.inl rfl) e
 |ext φ=>obtain⟨p,⟨o,e⟩,st⟩:=x;exact⟨st _ _ p λo q=>k _ _ (.inl rfl) q,⟨o,k _ _ (.inl rfl) e⟩,st⟩
theorem HOk.lt(x:HOk P w H h)(e:H a=Fk o):a<h.objs.size:=(x a o e).lt
theorem HOk.fresh(x:HOk P w H h)(e:h.objs.size<=a):H a=none:=by
 cases q:H a with
 |none=>rfl
 |some u=>exact absurd (uy (x.lt q) e) (wj _)
theorem HOk.kept(x:HOk P w H h)(k:∀b u,h.get? b=Fk u->h'.get? b=Fk u):HOk P w H h':=λa o e=>
 (x a o e).Zq (λb u _ q=>k b u q) (λ_ q=>q) λ_ _ q=>q
theorem HOk.laid(x:HOk P w H h)(k:∀b u,h.get? b=Fk u->h'.get? b=Fk u)(hp:h.objs.size<=a)(new:Fo P w (upd H a o) h' a o):HOk P w (upd H a o) h':=λb u e=>by
 have hn:=x.fresh hp
 by_cases hb:b=a
 .subst hb;rw[Br]at e;cases e;exact new
 .rw[Au hb]at e
  exact(x b u e).Zq (λc v _ q=>k c v q) (λc q=>by rw[Au (CF q hn)];exact q) λc xs q=>by rw[Au (CF q hn)];exact q
end
def Rd(H:Hp)(a:uu)(u:HO):Prop:=H a=Fk u\/∃o,H a=Fk (.frz o u)
theorem Rd.of{H:Hp}{a:uu}{u:HO}(h:H a=Fk u):Rd H a u:=.inl h
theorem Rd.ok{P:vR}{w:vi}{H:Hp}{h:ve}{a:uu}{u:HO}(r:Rd H a u)(x:HOk P w H h):Fo P w H h a u:=by
 rcases r with r|⟨o,r⟩
 .exact x a u r
 .obtain⟨_,q⟩:=x a _ r
  exact q
def Mut:uo HO->Prop
 |some (.lst _)=>AB8
 |some (.dK _)=>AB8
 |some (.dT _)=>AB8
 |some (.set _ _)=>AB8
 |some (.ins _ _ _)=>AB8
 |some (.ext _)=>AB8
 |_=>xt
section
variable{P:vR}{w:vi}{H:Hp}{h h':ve}{x e:uu}{o':HO}
theorem HOk.write(ok:HOk P w H h)(mu:Mut (H x))(he:e=x\/H e=Fk (.own x))(k:∀b u,b≠e->h.get? b=Fk u->h'.get? b=Fk u)(heo:∃u,h'.get? e=Fk u)(new:Fo P w (upd H x o') h' x o'):HOk P w (upd H x o') h':=λb u q=>by
 have nown:∀c y,H c=Fk (.own y)->c≠x:=λc y r z=>by subst z;rw[r]at mu;exact mu
 have ntup:∀c xs,H c=Fk (.tup xs)->c≠x:=λc xs r z=>by subst z;rw[r]at mu;exact mu
 by_cases hb:b=x
 .subst hb;rw[Br]at q;cases q;exact new
 .rw[Au hb]at q
  by_cases hbe:b=e
  .have q':H b=Fk (.own x):=by
    rcases he with z|z
    .exact absurd (hbe.trans z) hb
    .rw[hbe];exact z
   rw[q]at q';cases q'
   obtain⟨v,hv⟩:=heo
   exact⟨v,by rw[hbe];exact hv⟩
  .refine(ok b u q).Zq (λc v hc r=>k c v ?_ r) (λc r=>by rw[Au (nown c b r)];exact r) λc xs r=>by rw[Au (ntup c xs r)];exact r
   rcases hc with rfl|hc
   .exact hbe
   .rintro rfl
    rcases he with z|z
    .exact nown c b hc z
    .rw[hc]at z;cases z;exact hb rfl
end
structure Un(fs ex:Gc uu)(H H':Hp)(h h':ve):Prop where
 keep:∀b o,h.get? b=Fk o->H b=uk->b∉fs->b∉ex->h'.get? b=Fk o
 slot:∀b o,h.get? b=Fk o->H b=uk->b∈fs->b∉ex->∃sl,h'.get? b=Fk {o with slots:=sl}
 free:∀b o,h.get? b=Fk o->H b=uk->b∉ex->H' b=uk
 there:∀b o,h.get? b=Fk o->b∉ex->∃o',h'.get? b=Fk o'
 aW:∀b xs,H b=Fk (.tup xs)->H' b=Fk (.tup xs)
 ZZ:∀b o u,H b=Fk (.frz o u)->H' b=Fk (.frz o u)
 Zs:∀b ps,H b=Fk (.tbl ps)->∃more,H' b=Fk (.tbl (ps++more))
section
variable{fs fs' ex ex':Gc uu}{H H1 H2:Hp}{h h1 h2 h':ve}{a x e:uu}{o:HO}
theorem Un.any(u:Un fs ex H H1 h h1){b:uu}{ob:Obj}(q:h.get? b=Fk ob)(n:H b=uk)(hx:b∉ex):∃sl,h1.get? b=Fk {ob with slots:=sl}:=by
 by_cases hb:b∈fs
 .exact u.slot b ob q n hb hx
 .exact⟨ob.slots,u.keep b ob q n hb hx⟩
theorem Un.kept(k:∀b u,h.get? b=Fk u->h'.get? b=Fk u):Un fs ex H H h h':=
 ⟨λb ob q _ _ _=>k b ob q,λb ob q _ _ _=>⟨ob.slots,k b ob q⟩,λ_ _ _ n _=>n,λb ob q _=>⟨ob,k b ob q⟩,λ_ _ q=>q,λ_ _ _ q=>q,λ_ ps q=>⟨#[],by rw[q];simp⟩⟩
theorem Un.refl:Un fs ex H H h h:=Un.kept λ_ _ q=>q
theorem Un.laid(k:∀b u,h.get? b=Fk u->h'.get? b=Fk u)(hp:h.objs.size<=a)(hn:H a=uk):Un fs ex H (upd H a o) h h' where
 keep:=λb u q _ _ _=>k b u q
 slot:=λb u q _ _ _=>⟨u.slots,k b u q⟩
 free:=λb u q n _=>by rw[Au (vZ (uy (vI q) hp))];exact n
 there:=λb u q _=>⟨u,k b u q⟩
 aW:=λb xs q=>by rw[Au (CF q hn)];exact q
 ZZ:=λb u xs q=>by rw[Au (CF q hn)];exact q
 Zs:=λb ps q=>⟨#[],by rw[Au (CF q hn),q];simp⟩
theorem Un.write(mu:Mut (H x))(he:e=x\/H e=Fk (.own x))(k:∀b u,b≠e->h.get? b=Fk u->h'.get? b=Fk u)(heo:∃u,h'.get? e=Fk u):Un fs ex H (upd H x o) h h':=by
 have hx:∀b,H b=uk->b≠x:=λb n z=>by subst z;rw[n]at mu;exact mu
 have hb:∀b,H b=uk->b≠e:=λb n z=>by
  subst z
  rcases he with r|r
  .exact hx b n r
  .rw[n]at r;cases r
 have hm:∀b u,H b=Fk u->¬Mut (Fk u)->b≠x:=λb u q nm z=>by subst z;rw[q]at mu;exact nm mu
 refine⟨λb u q n _ _=>k b u (hb b n) q,λb u q n _ _=>⟨u.slots,k b u (hb b n) q⟩,λb u q n _=>by rw[Au (hx b n)];exact n,λb u q _=>?_,
  λb xs q=>by rw[Au (hm b _ q λz=>z)];exact q,λb u xs q=>by rw[Au (hm b _ q λz=>z)];exact q,λb ps q=>⟨#[],by rw[Au (hm b _ q λz=>z),q];simp⟩⟩
 by_cases hbe:b=e
 .subst hbe;exact heo
 .exact⟨u,k b u hbe q⟩
end
noncomputable def trk(h:ve)(H:Hp):Gc uu:=(vS h.objs.size).filter λa=>(H a).isSome
noncomputable def Zo(h:ve)(H:Hp):ve:=PySem.W.hideAll h (trk h H)
theorem YX(h:ve)(H:Hp):(Zo h H).objs.size=h.objs.size:=PySem.W.hideAll_size _ _
theorem ak{h:ve}{H:Hp}{b:uu}{o:Obj}(e:h.get? b=Fk o)(n:H b=uk):(Zo h H).get? b=Fk o:=
 PySem.W.hideAll_get _ e λhm=>by
  have q:(H b).isSome=true:=(xg.mp hm).2
  rw[n]at q;simp at q
theorem fB{h:ve}{H:Hp}{b:uu}{o:Obj}(e:(Zo h H).get? b=Fk o):h.get? b=Fk o/\H b=none:=by
 have e':h.get? b=Fk o:=PySem.W.of_hideAll (trk h H) e
 refine⟨e',?_⟩
 cases q:H b with
 |none=>rfl
 |some x=>
  have hm:b∈trk h H:=xg.mpr ⟨xW.mpr (vI e'),by simp[q]⟩
  have z:(Zo h H).get? b=none:=PySem.W.hideAll_none (trk h H) hm
  rw[z]at e;cases e
noncomputable def dR(g h:ve)(L:uu):Gc (uu×Obj):=(vS h.objs.size).filterMap λa=>if a=L\/(g.get? a).isSome=true then uk else(h.get? a).map λo=>(a,o)
noncomputable def rest(g h:ve)(L d:uu):Gc (uu×Obj):=(dR g h L).filter λp=>decide (p.1≠d)
end L2
namespace L2
open PySem PySem.Spec PyProof.Rows
structure Mod(K:Wp)(mg:Str->uo W1)(base:ve):Prop where
 kin:K.In base
 glob:base.Ns mainGlobals mg
 blt:∃mb,base.Ns builtinsNs mb/\∀x:Str,x≠ "__name__"->mb x=bootBuiltins x
 nolimit:base.NoLimit
structure Cx where
 prog:vR
 w:vi
 K:Wp
 mg:Str->uo W1
 base:ve
 A:vj
 N:Gc Str
 s₀:ur
 H₀:Hp
 env:Env
 outer:Gc Env
 stack:Gc Env
 ex:Gc uu
 fn:Str->vm
 calm:vm
 pn:Gc (uu×Obj)
 xe:W1->ur->Prop
noncomputable def frs(l:Gc Env):Gc uu:=l.filterMap (·.frame)
abbrev Cx.fs(X:Cx):Gc uu:=frs X.outer
def Vis(sc:wX)(x:Str):Prop:=sc.names.lookup x=Fk .local\/sc.names.lookup x=Fk .cell\/sc.names.lookup x=Fk .free
def Loc(sc:wX)(x:Str):Prop:=sc.names.lookup x=Fk .local\/sc.names.lookup x=Fk .cell
def Look(env:Env)(h:ve)(m:Str->uo W1)(x:Str)(u:W1):Prop:=
 (env.kindOf x=Fk .local/\m x=Fk u)\/((env.kindOf x=Fk .cell\/env.kindOf x=Fk .free)/\∃c,env.cells.lookup x=Fk c/\h.IsCell c (Fk u))
structure Cx.Ok(X:Cx):Prop where
 mod:Mod X.K X.mg X.base
 kind:X.env.scope.kind=.function
 glob:X.env.globals=mainGlobals
 blt:X.env.builtins=builtinsNs
 above:X.s₀.heap.objs.size<=X.env.locals
 inj:∀x y c,X.env.cells.lookup x=Fk c->X.env.cells.lookup y=Fk c->x=y
 has:∀x,(X.env.kindOf x=Fk .cell\/X.env.kindOf x=Fk .free)->∃c,X.env.cells.lookup x=Fk c
 cab:∀x c,X.fn x=true->X.env.cells.lookup x=Fk c->X.s₀.heap.objs.size<=c
 hd:X.calm=true->X.A.handled=uk
 frames:X.A.frames=Fk X.stack
 stk:X.stack=X.outer\/(X.stack=X.env::X.outer/\X.env.frame=Fk X.env.locals)
 exf:∀b∈X.ex,b≠X.env.locals/\∀x c,X.env.cells.lookup x=Fk c->c≠b
 bs:∀b o,X.base.get? b=Fk o->X.s₀.heap.get? b=Fk o/\X.H₀ b=uk
 bsz:X.base.objs.size<=X.s₀.heap.objs.size
 cn:∀b o,X.base.get? b=Fk o->b∉X.ex
 eF:∀b∈X.ex,b∉X.fs
 V8:X.s₀.heap.FunFrames X.base X.outer
 frf:∀b∈X.fs,X.H₀ b=uk
structure Inv(X:Cx)(pins:Gc (uu×Obj))(σ:Gc (uo V))(H:Hp)(s:ur):Prop where
 ok:X.Ok
 os:s.os=X.s₀.os
 bare:zF s.gens
 base:Un X.fs X.ex X.H₀ H X.s₀.heap s.heap
 loc:∃m,s.heap.Ns X.env.locals m/\∀(i:Nat) (x:Str) (v:V),X.N[i]?=Fk x->σ[i]?=Fk (Fk v)->Vis X.env.scope x->∃u,RelV v u/\Look X.env s.heap m x u
 cell:∀x c,X.env.cells.lookup x=Fk c->∃v,s.heap.IsCell c v
 free:H X.env.locals=uk
 Mw:∀x c,X.env.cells.lookup x=Fk c->H c=uk
 pin:∀p∈X.pn++pins,s.heap.get? p.1=Fk p.2/\H p.1=uk/\p.1≠X.env.locals/\p.1∉X.fs/\∀v,p.2.data≠.cell v
 hok:HOk X.prog X.w H s.heap
 len:σ.length=X.N.length
section
variable{X:Cx}{pins:Gc (uu×Obj)}{σ:Gc (uo V)}{H H':Hp}{s:ur}{h':ve}
theorem Cx.Ok.tN(ok:X.Ok){b:uu}{o:Obj}(e:X.base.get? b=Fk o):b∉X.fs:=λhb=>by
 have:=(ok.V8.mem hb).1
 rw[e]at this;cases this
theorem Inv.bs(I:Inv X pins σ H s):∀b o,X.base.get? b=Fk o->s.heap.get? b=Fk o/\H b=none:=λb o e=>
 ⟨I.base.keep b o (I.ok.bs b o e).1 (I.ok.bs b o e).2 (I.ok.tN e) (I.ok.cn b o e),I.base.free b o (I.ok.bs b o e).1 (I.ok.bs b o e).2 (I.ok.cn b o e)⟩
theorem Inv.bk(I:Inv X pins σ H s):∀b o,X.base.get? b=Fk o->s.heap.get? b=Fk o:=λb o e=>(I.bs b o e).1
theorem Inv.mod(I:Inv X pins σ H s):Mod X.K X.mg X.base:=I.ok.mod
theorem Inv.kIn(I:Inv X pins σ H s):X.K.In s.heap:=I.ok.mod.kin.keeps I.bk
theorem Inv.nolimit(I:Inv X pins σ H s):s.heap.NoLimit:=I.ok.mod.nolimit.keeps I.bk
theorem Inv.lt(I:Inv X pins σ H s):X.env.locals<s.heap.objs.size:=let⟨_,hn,_⟩:=I.loc;hn.lt
theorem Inv.sz(I:Inv X pins σ H s):X.s₀.heap.objs.size<=s.heap.objs.size:=uz I.ok.above (AAF I.lt)
theorem Inv.uJ(I:Inv X pins σ H s){a:uu}(h:s.heap.objs.size<=a):a∉X.fs:=λhb=>by
 obtain⟨_,o,ho,_⟩:=I.ok.V8.mem hb
 exact absurd (uy (vI ho) (uz I.sz h)) (wj _)
theorem Inv.cne(I:Inv X pins σ H s):∀x c,X.env.cells.lookup x=Fk c->c≠X.env.locals:=λx c e z=>by
 obtain⟨v,o,ho,hd⟩:=I.cell x c e
 obtain⟨m,⟨o',es,ep,ho',hd',_⟩,_⟩:=I.loc
 rw[z,ho']at ho;cases ho;rw[hd']at hd;cases hd
theorem Inv.V8(I:Inv X pins σ H s):s.heap.FunFrames X.base X.outer:=by
 have all:∀(l:Gc Env),(∀b∈frs l,b∈X.fs)->X.s₀.heap.FunFrames X.base l->s.heap.FunFrames X.base l:=by
  intro l
  induction l with
  |nil=>intro _ _;trivial
  |cons env r ih=>
   intro hs hl
   obtain⟨hk,⟨L,o,hf,hn,ho,hd⟩,hr⟩:=hl
   have hL:L∈X.fs:=hs L (by unfold frs;rw[vc,hf];exact vA)
   obtain⟨sl,e⟩:=I.base.slot L o ho (I.ok.frf L hL) hL λz=>I.ok.eF L z hL
   exact⟨hk,⟨L,_,hf,hn,e,hd⟩,ih (λb hb=>hs b (by unfold frs;rw[vc,hf];exact uv _ hb)) hr⟩
 exact all X.outer (λ_ hb=>hb) I.ok.V8
theorem Inv.stack(I:Inv X pins σ H s):s.heap.FunFrames X.base X.stack:=by
 rcases I.ok.stk with e|⟨e,hf⟩
 .rw[e];exact I.V8
 .rw[e]
  obtain⟨m,hn,_⟩:=I.loc
  refine .cons (by rw[I.ok.kind];decide) hf hn ?_ I.V8
  exact Heap.get?_none_of_le (uz I.ok.bsz I.ok.above)
theorem Inv.Za(I:Inv X pins σ H s):∀b∈frs X.stack,b∈X.env.locals::X.fs:=λb hb=>by
 rcases I.ok.stk with e|⟨e,hf⟩
 .rw[e]at hb;exact uv _ hb
 .rw[e]at hb
  unfold frs at hb
  rw[vc,hf]at hb
  exact hb
theorem Inv.Vh(I:Inv X pins σ H s):∀b∈frs X.stack,H b=none:=λb hb=>by
 rcases uw.mp (I.Za b hb)with e|hb
 .rw[e];exact I.free
 .obtain⟨_,o,ho,_⟩:=I.ok.V8.mem hb
  exact I.base.free b o ho (I.ok.frf b hb) λz=>I.ok.eF b z hb
theorem Inv.step{g':wK GenState}{t':Nat}{d':Drawn}{ch:Gc uu}(I:Inv X pins σ H s)(hch:∀b∈ch,(b∈X.ex\/X.s₀.heap.objs.size<=b)/\b≠X.env.locals/\(∀x c,X.env.cells.lookup x=Fk c->c≠b)/\∀p∈X.pn++pins,p.1≠b)(keep:∀b o,b≠X.env.locals->b∉X.fs->b∉ch->s.heap.get? b=Fk o->H b=uk->h'.get? b=Fk o)(slot:∀b o,b≠X.env.locals->b∈X.fs->b∉ch->s.heap.get? b=Fk o->H b=uk->∃sl,h'.get? b=Fk {o with slots:=sl})(free:∀b o,b∉ch->s.heap.get? b=Fk o->H b=uk->H' b=uk)(there:∀b o,b∉ch->s.heap.get? b=Fk o->∃o',h'.get? b=Fk o')(aW:∀b xs,H b=Fk (.tup xs)->H' b=Fk (.tup xs))(ZZ:∀b o u,H b=Fk (.frz o u)->H' b=Fk (.frz o u))(Zs:∀b ps,H b=Fk (.tbl ps)->∃more,H' b=Fk (.tbl (ps++more)))(ns:∀m,s.heap.Ns X.env.locals m->h'.Ns X.env.locals m)(hok:HOk X.prog X.w H' h')(hg:zF g'):Inv X pins σ H' {s with heap:=h',gens:=g',drawn:=d',toks:=t'}:=by
 have neL:∀b o,X.s₀.heap.get? b=Fk o->b≠X.env.locals:=λb o e=>vZ (uy (vI e) I.ok.above)
 have neC:∀b o,X.s₀.heap.get? b=Fk o->b∉X.ex->b∉ch:=λb o e hx hb=>by
  rcases(hch b hb).1 with z|z
  .exact hx z
  .exact absurd (uy (vI e) z) (wj _)
 have cellK:∀x c,X.env.cells.lookup x=Fk c->∀v,s.heap.IsCell c v->h'.IsCell c v:=λx c e v ⟨o,ho,hd⟩=>by
  have nch:c∉ch:=λz=>(hch c z).2.2.1 x c e rfl
  by_cases hc:c∈X.fs
  .obtain⟨sl,q⟩:=slot c o (I.cne x c e) hc nch ho (I.Mw x c e)
   exact⟨_,q,hd⟩
  .exact⟨o,keep c o (I.cne x c e) hc nch ho (I.Mw x c e),hd⟩
 refine⟨I.ok,I.os,hg,⟨λb o e n hb hx=>?_,λb o e n hb hx=>?_,λb o e n hx=>?_,λb o e hx=>?_,λb xs e=>aW b xs (I.base.aW b xs e),λb o xs e=>ZZ b o xs (I.base.ZZ b o xs e),λb ps e=>?_⟩,?_,λx c e=>?_,?_,λx c e=>?_,λp hp=>?_,hok,I.len⟩
 .exact keep b o (neL b o e) hb (neC b o e hx) (I.base.keep b o e n hb hx) (I.base.free b o e n hx)
 .obtain⟨sl,e1⟩:=I.base.slot b o e n hb hx
  obtain⟨sl',e2⟩:=slot b _ (neL b o e) hb (neC b o e hx) e1 (I.base.free b o e n hx)
  exact⟨sl',e2⟩
 .obtain⟨o',e1⟩:=I.base.there b o e hx
  exact free b o' (neC b o e hx) e1 (I.base.free b o e n hx)
 .obtain⟨o',e1⟩:=I.base.there b o e hx
  exact there b o' (neC b o e hx) e1
 .obtain⟨m1,e1⟩:=I.base.Zs b ps e
  obtain⟨m2,e2⟩:=Zs b _ e1
  exact⟨m1++m2,by rw[e2,Array.append_assoc]⟩
 .obtain⟨m,hn,hl⟩:=I.loc
  refine⟨m,ns m hn,λi x v e1 e2 e3=>?_⟩
  obtain⟨u,r,l⟩:=hl i x v e1 e2 e3
  refine⟨u,r,?_⟩
  rcases l with l|⟨k,c,e,z⟩
  .exact .inl l
  .exact .inr ⟨k,c,e,cellK x c e _ z⟩
 .obtain⟨v,z⟩:=I.cell x c e
  exact⟨v,cellK x c e v z⟩
 .obtain⟨m,⟨o,_,_,ho,_⟩,_⟩:=I.loc
  exact free _ o (λz=>(hch _ z).2.1 rfl) ho I.free
 .obtain⟨v,o,ho,hd⟩:=I.cell x c e
  exact free c o (λz=>(hch c z).2.2.1 x c e rfl) ho (I.Mw x c e)
 .obtain⟨e,n,ne,nf,d⟩:=I.pin p hp
  have nch:p.1∉ch:=λz=>(hch p.1 z).2.2.2 p hp rfl
  exact⟨keep p.1 p.2 ne nf nch e n,free p.1 p.2 nch e n,ne,nf,d⟩
theorem Inv.un{t':Nat}(I:Inv X pins σ H s)(u:Un X.fs [] H H' s.heap h')(hok:HOk X.prog X.w H' h'):Inv X pins σ H' {s with heap:=h',toks:=t'}:=by
 obtain⟨m,⟨o,es,ep,ho,r⟩,_⟩:=id I.loc
 obtain⟨sl,hL⟩:=u.any ho I.free (by simp)
 exact I.step (g':=s.gens) (d':=s.drawn) (ch:=[]) (λ_ z=>nomatch z) (λb o _ hb _ e n=>u.keep b o e n hb (by simp)) (λb o _ hb _ e n=>u.slot b o e n hb (by simp)) (λb o _ e n=>u.free b o e n (by simp)) (λb o _ e=>u.there b o e (by simp)) u.aW u.ZZ u.Zs (λm' hm=>by
  obtain⟨o',es',ep',ho',r'⟩:=hm
  rw[ho]at ho';cases ho'
  exact⟨_,es',ep',hL,r'⟩) hok I.bare
theorem Inv.call{g':wK GenState}{t':Nat}{d':Drawn}{ch:Gc uu}(I:Inv X pins σ H s)(u:Un (frs X.stack) ch H H' s.heap h')(hok:HOk X.prog X.w H' h')(hg:zF g')(hch:∀b∈ch,(b∈X.ex\/X.s₀.heap.objs.size<=b)/\b≠X.env.locals/\(∀x c,X.env.cells.lookup x=Fk c->c≠b)/\∀p∈X.pn++pins,p.1≠b):Inv X pins σ H' {s with heap:=h',gens:=g',drawn:=d',toks:=t'}:=by
 obtain⟨m,⟨o,es,ep,ho,r⟩,_⟩:=id I.loc
 obtain⟨sl,hL⟩:=u.any ho I.free λz=>(hch _ z).2.1 rfl
 exact I.step (ch:=ch) hch (λb o hL hb hc e n=>u.keep b o e n (λz=>(uw.mp (I.Za b z)).elim hL hb) hc) (λb o _ _ hc e n=>u.any e n hc) (λb o hc e n=>u.free b o e n hc) (λb o hc e=>u.there b o e hc) u.aW u.ZZ u.Zs (λm' hm=>by
  obtain⟨o',es',ep',ho',r'⟩:=hm
  rw[ho]at ho';cases ho'
  exact⟨_,es',ep',hL,r'⟩) hok hg
theorem Inv.turned{t':Nat}{it:uu}(I:Inv X pins σ H s)(k:∀b o,b≠it->s.heap.get? b=Fk o->h'.get? b=Fk o)(hn:H it=uk)(hL:it≠X.env.locals)(h1:it∈X.ex\/X.s₀.heap.objs.size<=it)(h2:∀x c,X.env.cells.lookup x=Fk c->c≠it)(h3:∀p∈X.pn++pins,p.1≠it):Inv X pins σ H {s with heap:=h',toks:=t'}:=by
 have nit:∀b u,H b=Fk u->b≠it:=λb u e z=>by rw[z,hn]at e;cases e
 refine I.step (g':=s.gens) (d':=s.drawn) (ch:=[it]) (λb hb=>?_) (λb o _ _ hc e _=>k b o (λz=>hc (by simp[z])) e) (λb o _ _ hc e _=>⟨o.slots,k b o (λz=>hc (by simp[z])) e⟩) (λ_ _ _ _ n=>n)
  (λb o hc e=>⟨o,k b o (λz=>hc (by simp[z])) e⟩) (λ_ _ e=>e) (λ_ _ _ e=>e) (λb ps e=>⟨#[],by rw[e];simp⟩) (λm hm=>?_) (λb u e=>?_) I.bare
 .have e:b=it:=by simpa using hb
  subst e
  exact⟨h1,hL,h2,h3⟩
 .obtain⟨o,es,ep,ho,r⟩:=hm
  exact⟨o,es,ep,k _ o (wu hL) ho,r⟩
 .refine(I.hok b u e).Zq (λc v hc q=>k c v ?_ q) (λ_ q=>q) λ_ _ q=>q
  rcases hc with z|z
  .rw[z];exact nit b u e
  .exact nit c _ z
theorem Inv.tok(I:Inv X pins σ H s)(t:Nat):Inv X pins σ H {s with toks:=t}:=I.un (h':=s.heap) (t':=t) Un.refl I.hok
theorem Inv.kept{t':Nat}(I:Inv X pins σ H s)(k:∀b u,s.heap.get? b=Fk u->h'.get? b=Fk u):Inv X pins σ H {s with heap:=h',toks:=t'}:=I.un (Un.kept k) (I.hok.kept k)
theorem Inv.laid{a:uu}{o:HO}{t':Nat}(I:Inv X pins σ H s)(k:∀b u,s.heap.get? b=Fk u->h'.get? b=Fk u)(hp:s.heap.objs.size<=a)(new:Fo X.prog X.w (upd H a o) h' a o):Inv X pins σ (upd H a o) {s with heap:=h',toks:=t'}:=I.un (Un.laid k hp (I.hok.fresh hp)) (I.hok.laid k hp new)
theorem Inv.write{x e:uu}{o:HO}{t':Nat}(I:Inv X pins σ H s)(mu:Mut (H x))(he:e=x\/H e=Fk (.own x))(k:∀b u,b≠e->s.heap.get? b=Fk u->h'.get? b=Fk u)(heo:∃u,h'.get? e=Fk u)(new:Fo X.prog X.w (upd H x o) h' x o):Inv X pins σ (upd H x o) {s with heap:=h',toks:=t'}:=I.un (Un.write mu he k heo) (I.hok.write mu he k heo new)
theorem Inv.Yj{pins':Gc (uu×Obj)}(I:Inv X pins σ H s)(h:∀p∈pins',s.heap.get? p.1=Fk p.2/\H p.1=uk/\p.1≠X.env.locals/\p.1∉X.fs/\∀v,p.2.data≠.cell v):Inv X pins' σ H s:=
 ⟨I.ok,I.os,I.bare,I.base,I.loc,I.cell,I.free,I.Mw,λp hp=>(vY.mp hp).elim (λz=>I.pin p (zq _ z)) (h p),I.hok,I.len⟩
theorem WG{N:Gc Str}(hN:N.Nodup){i j:Nat}{x:Str}(a:N[i]?=Fk x)(b:N[j]?=Fk x):i=j:=by
 obtain⟨h1,e1⟩:=vB.mp a
 obtain⟨h2,e2⟩:=vB.mp b
 exact(List.getElem_inj hN).mp (e1.trans e2.symm)
theorem UC{M:Model}{A:vj}{E:W1->ur->Prop}{i:Nat}{x:Str}{v:V}{u:W1}{Q:Unit->ur->Prop}(I:Inv X pins σ H s)(hN:X.N.Nodup)(hi:X.N[i]?=Fk x)(hx:Loc X.env.scope x)(r:RelV v u)(h:∀s',Inv X pins (σ.set i (Fk v)) H s'->(∃a,zJ a s.heap s'.heap/\(a=X.env.locals\/X.env.cells.lookup x=Fk a))->Q () s')(hf:X.fn x=true\/X.env.scope.names.lookup x=Fk .local:=by first|exact .inl rfl|exact .inr rfl|assumption):wpAny M A (storeName X.env x u) Q E s:=by
 obtain⟨m,hn,hl⟩:=id I.loc
 have hcls:(X.env.scope.kind== .class||(X.env.scope.kind== .module && X.env.locals !=X.env.globals))=false:=by rw[I.ok.kind];rfl
 have hiσ:i<σ.length:=by rw[I.len];exact(vB.mp hi).1
 have cne:=I.cne
 have tracked:∀{a:uu} {h':ve},(∃o,s.heap.get? a=Fk o/\H a=uk)->zJ a s.heap h'->HOk X.prog X.w H h':=λ{a h'} ha hs b ob e=>by
  obtain⟨_,_,hfree⟩:=ha
  refine(I.hok b ob e).Zq (λc w' hc q=>(hs.2 c ?_).trans q) (λ_ q=>q) λ_ _ q=>q
  rintro rfl
  rcases hc with rfl|hc
  .rw[hfree]at e;cases e
  .rw[hfree]at hc;cases hc
 rcases hx with hk|hk
 .refine wpAny_storeName_local hk hn (λh' hn' hs=>?_) hcls
  obtain⟨oL,_,_,hoL,_⟩:=id hn
  refine h _ ⟨I.ok,I.os,I.bare,⟨λb o e n hb hx=>?_,λb o e n hb hx=>?_,I.base.free,λb o e hx=>?_,I.base.aW,I.base.ZZ,I.base.Zs⟩,⟨_,hn',λj y v' e1 e2 e3=>?_⟩,λy c e=>?_,I.free,I.Mw,λp hp=>?_,tracked ⟨oL,hoL,I.free⟩ hs,by simpa using I.len⟩ ⟨_,hs,.inl rfl⟩
  .exact(hs.2 b (vZ (uy (vI e) I.ok.above))).trans (I.base.keep b o e n hb hx)
  .obtain⟨sl,e1⟩:=I.base.slot b o e n hb hx
   exact⟨sl,(hs.2 b (vZ (uy (vI e) I.ok.above))).trans e1⟩
  .obtain⟨o',e1⟩:=I.base.there b o e hx
   exact⟨o',(hs.2 b (vZ (uy (vI e) I.ok.above))).trans e1⟩
  .by_cases hj:j=i
   .subst hj
    rw[hi]at e1;cases e1
    rw[vJ hiσ]at e2
    cases e2
    exact⟨u,r,.inl ⟨hk,by simp⟩⟩
   .rw[u3 (wu hj)]at e2
    obtain⟨u',r',q⟩:=hl j y v' e1 e2 e3
    refine⟨u',r',?_⟩
    rcases q with⟨k,e⟩|⟨k,c,e,z⟩
    .refine .inl ⟨k,?_⟩
     have:y≠x:=λe=>hj (WG hN e1 (e▸hi))
     simp[this,e]
    .exact .inr ⟨k,c,e,z.sameBut hs (cne y c e)⟩
  .obtain⟨w',z⟩:=I.cell y c e
   exact⟨w',z.sameBut hs (cne y c e)⟩
  .obtain⟨e,n,ne,nf,d⟩:=I.pin p hp
   exact⟨(hs.2 p.1 ne).trans e,n,ne,nf,d⟩
 .have hfn:X.fn x=true:=by
   rcases hf with z|z
   .exact z
   .rw[z]at hk;cases hk
  obtain⟨c,hc⟩:=I.ok.has x (.inl hk)
  obtain⟨w',z⟩:=I.cell x c hc
  refine wpAny_storeName_cell I.ok.kind hk hc z (λh' hc' hs=>?_)
  obtain⟨oc,hoc,hocd⟩:=id z
  refine h {s with heap:=h'} ⟨I.ok,I.os,I.bare,⟨λb o e n hb hx=>?_,λb o e n hb hx=>?_,I.base.free,λb o e hx=>?_,I.base.aW,I.base.ZZ,I.base.Zs⟩,⟨m,hn.sameBut hs (wu (cne x c hc)),λj y v' e1 e2 e3=>?_⟩,λy c' e=>?_,I.free,I.Mw,λp hp=>?_,tracked ⟨oc,hoc,I.Mw x c hc⟩ hs,by simpa using I.len⟩ ⟨c,hs,.inr hc⟩
  .exact(hs.2 b (vZ (uy (vI e) (I.ok.cab x c hfn hc)))).trans (I.base.keep b o e n hb hx)
  .obtain⟨sl,e1⟩:=I.base.slot b o e n hb hx
   exact⟨sl,(hs.2 b (vZ (uy (vI e) (I.ok.cab x c hfn hc)))).trans e1⟩
  .obtain⟨o',e1⟩:=I.base.there b o e hx
   exact⟨o',(hs.2 b (vZ (uy (vI e) (I.ok.cab x c hfn hc)))).trans e1⟩
  .by_cases hj:j=i
   .subst hj
    rw[hi]at e1;cases e1
    rw[vJ hiσ]at e2
    cases e2
    exact⟨u,r,.inr ⟨.inl hk,c,hc,hc'⟩⟩
   .rw[u3 (wu hj)]at e2
    obtain⟨u',r',q⟩:=hl j y v' e1 e2 e3
    refine⟨u',r',?_⟩
    rcases q with q|⟨k,c',e,z'⟩
    .exact .inl q
    .refine .inr ⟨k,c',e,z'.sameBut hs ?_⟩
     rintro rfl
     exact hj (WG hN e1 (I.ok.inj _ _ _ e hc▸hi))
  .by_cases hcc:c'=c
   .subst hcc;exact⟨_,hc'⟩
   .obtain⟨w2,z2⟩:=I.cell y c' e
    exact⟨w2,z2.sameBut hs hcc⟩
  .obtain⟨e,n,ne,nf,d⟩:=I.pin p hp
   refine⟨(hs.2 p.1 ?_).trans e,n,ne,nf,d⟩
   intro q
   rw[q,hoc]at e
   have q':oc=p.2:=wO e
   exact d w' (by rw[<-q'];exact hocd)
theorem O6{M:Model}{A:vj}{E:W1->ur->Prop}{i:Nat}{x:Str}{v:V}{u:W1}{Q:Unit->ur->Prop}(I:Inv X pins σ H s)(hN:X.N.Nodup)(hi:X.N[i]?=Fk x)(hx:Loc X.env.scope x)(r:RelV v u)(h:∀s',Inv X pins (σ.set i (Fk v)) H s'->Q () s')(hf:X.fn x=true\/X.env.scope.names.lookup x=Fk .local:=by first|exact .inl rfl|exact .inr rfl|assumption):wpAny M A (storeName X.env x u) Q E s:=
 UC I hN hi hx r (λs' I' _=>h s' I') hf
theorem Inv.fI{s':ur}{ch:Gc uu}(I:Inv X pins σ H s)(ho:s'.os=s.os)(u:Un (frs X.stack) ch H H' s.heap s'.heap)(hok:HOk X.prog X.w H' s'.heap)(hg:zF s'.gens)(hch:∀b∈ch,(b∈X.ex\/X.s₀.heap.objs.size<=b)/\b≠X.env.locals/\(∀x c,X.env.cells.lookup x=Fk c->c≠b)/\∀p∈X.pn++pins,p.1≠b):Inv X pins σ H' s':=by
 obtain⟨h',g',d',t',o'⟩:=s'
 have e:o'=s.os:=ho
 subst e
 exact I.call (g':=g') (t':=t') (d':=d') u hok hg hch
end
abbrev XK:=W1->uo uu->Hp->Prop
abbrev St:=Gc (uo V)
abbrev VK:=V->Hp->Prop
abbrev TE:=St->Hp->VK->Prop
abbrev TT:=St->Hp->(vm->Hp->Prop)->Prop
abbrev TA:=St->Hp->(Gc V->Hp->Prop)->Prop
structure Ends where
 nx:St->Hp->Prop
 rt:VK
 bk:St->Hp->Prop:=λ_ _=>xt
 ct:St->Hp->Prop:=λ_ _=>xt
abbrev TS:=Ends->St->Hp->Prop
def EP(X:Cx)(pins:Gc (uu×Obj))(σ:St)(Q:VK)(u:W1)(s':ur):Prop:=∃v H',Inv X pins σ H' s'/\RelV v u/\Q v H'
def TP(X:Cx)(pins:Gc (uu×Obj))(σ:St)(Q:vm->Hp->Prop)(b:vm)(s':ur):Prop:=∃H',Inv X pins σ H' s'/\Q b H'
def AP(X:Cx)(pins:Gc (uu×Obj))(σ:St)(Q:Gc V->Hp->Prop)(us:Gc W1)(s':ur):Prop:=∃vs H',Inv X pins σ H' s'/\Vals vs us/\Q vs H'
def SP(X:Cx)(pins:Gc (uu×Obj))(D:Ends)(f:Flow)(s':ur):Prop:=
 match f with
 | .next=>∃σ' H',Inv X pins σ' H' s'/\D.nx σ' H'
 | .brk=>∃σ' H',Inv X pins σ' H' s'/\D.bk σ' H'
 | .cont=>∃σ' H',Inv X pins σ' H' s'/\D.ct σ' H'
 | .ret u=>∃v σ' H',Inv X pins σ' H' s'/\RelV v u/\D.rt v H'
def PE(X:Cx)(e:vU)(t:TE):Prop:=
 ∀(pins:Gc (uu×Obj)) (s:ur) (σ:St) (H:Hp) (Q:VK),Inv X pins σ H s->t σ H Q->wpAny (model X.prog X.w) X.A (eval e X.env) (EP X pins σ Q) X.xe s
def PT(X:Cx)(e:vU)(t:TT):Prop:=
 ∀(pins:Gc (uu×Obj)) (s:ur) (σ:St) (H:Hp) (Q:vm->Hp->Prop),Inv X pins σ H s->t σ H Q->wpAny (model X.prog X.w) X.A (isTrue e X.env (eval e X.env)) (TP X pins σ Q) X.xe s
def PW(X:Cx)(e:vU)(t:TT):Prop:=
 ∀(whole:Sem W1) (pins:Gc (uu×Obj)) (s:ur) (σ:St) (H:Hp) (Q:vm->Hp->Prop),Inv X pins σ H s->t σ H Q->wpAny (model X.prog X.w) X.A (isTrue e X.env whole) (TP X pins σ Q) X.xe s
theorem PW.pt{X:Cx}{e:vU}{t:TT}(h:PW X e t):PT X e t:=h _
def PA(X:Cx)(es:Gc vU)(t:TA):Prop:=
 ∀(pos:Pos) (pins:Gc (uu×Obj)) (s:ur) (σ:St) (H:Hp) (Q:Gc V->Hp->Prop),Inv X pins σ H s->t σ H Q->wpAny (model X.prog X.w) X.A (spliced (backTo pos (vP es X.env))) (AP X pins σ Q) X.xe s
def PS(X:Cx)(st:vh)(t:TS):Prop:=
 ∀(pins:Gc (uu×Obj)) (s:ur) (σ:St) (H:Hp) (D:Ends),Inv X pins σ H s->t D σ H->wpAny (model X.prog X.w) X.A (exec st X.env) (SP X pins D) X.xe s
def PSs(X:Cx)(st:Gc vh)(t:TS):Prop:=
 ∀(pins:Gc (uu×Obj)) (s:ur) (σ:St) (H:Hp) (D:Ends),Inv X pins σ H s->t D σ H->wpAny (model X.prog X.w) X.A (execs st X.env) (SP X pins D) X.xe s
theorem thn{α:Type}{t:Sem α}{Q Q':α->ur->Prop}{M:Model}{A:vj}{E:W1->ur->Prop}{s:ur}(h:wpAny M A t Q E s)(hQ:∀a s,Q a s->Q' a s):wpAny M A t Q' E s:=we h hQ λ_ _ x=>x
end L2
namespace L2
open PySem PySem.Spec PyProof.Rows
section
variable{X:Cx}
noncomputable def uR(i:Nat):TE:=λσ H Q=>∃v,σ[i]?=Fk (Fk v)/\Q v H
noncomputable def tC(v:V):TE:=λ_ H Q=>Q v H
theorem YB{i:Nat}{x:Str}{pos:Pos}(hN:X.N[i]?=Fk x)(hv:Vis X.env.scope x)(hd:(x==("__debug__":Str))=false:=by decide)(hcd:(x==("__classdict__":Str))=false:=by decide):PE X (.Name x pos) (uR i):=by
 intro pins s σ H Q I h
 obtain⟨v,e,h⟩:=h
 obtain⟨m,hn,hl⟩:=I.loc
 obtain⟨u,r,l⟩:=hl i x v hN e hv
 have fin:EP X pins σ Q u s:=⟨v,H,I,r,h⟩
 rcases l with⟨hk,hm⟩|⟨hk,c,hc,hcell⟩
 .exact wpAny_Name (wpAny_loadName_local I.ok.kind hk hn hm fin) hd
 .rcases hk with hk|hk
  .exact wpAny_Name (wpAny_loadName_cell I.ok.kind hk hc hcell fin) hd
  .exact wpAny_Name (wpAny_loadName_free I.ok.kind hk hc hcell fin hcd) hd
theorem cm{i j pos}:PE X (.Constant (.int i) j pos) (tC (.int i)):=λ_ _ _ H _ I h=>wpAny_Constant_int ⟨.int i,H,I.tok _,⟨_,rfl⟩,h⟩
theorem oW{b j pos}:PE X (.Constant (.bool b) j pos) (tC (.bl b)):=λ_ _ _ H _ I h=>Constant_bool ⟨.bl b,H,I,rfl,h⟩
theorem ie{j pos}:PE X (.Constant .none j pos) (tC .non):=λ_ _ _ H _ I h=>Constant_none ⟨.non,H,I,rfl,h⟩
theorem iV{x j pos}:PE X (.Constant (.str x) j pos) (tC (.str x)):=λ_ _ _ H _ I h=>Calls.Constant_str ⟨.str x,H,I.tok _,⟨_,rfl⟩,h⟩
def Gl(X:Cx)(x:Str):Prop:=X.env.kindOf x=Fk .globalImplicit
theorem Pj{E:W1->ur->Prop}{pins:Gc (uu×Obj)}{s:ur}{σ:St}{H:Hp}{x:Str}{u:W1}{pos:Pos}{Q:W1->ur->Prop}(I:Inv X pins σ H s)(hg:Gl X x)(hm:X.mg x=Fk u)(h:Q u s)(hd:(x==("__debug__":Str))=false:=by decide):wpAny (model X.prog X.w) X.A (eval (.Name x pos) X.env) Q E s:=
 yk I.ok.kind hg (AAx (by rw[I.ok.glob];exact I.mod.glob.keeps I.bk) hm h) hd
theorem MB{E:W1->ur->Prop}{pins:Gc (uu×Obj)}{s:ur}{σ:St}{H:Hp}{x:Str}{u:W1}{pos:Pos}{Q:W1->ur->Prop}(I:Inv X pins σ H s)(hg:Gl X x)(hm:X.mg x=uk)(hv:bootBuiltins x=Fk u)(h:Q u s)(hn:x≠ "__name__":=by decide)(hd:(x==("__debug__":Str))=false:=by decide):wpAny (model X.prog X.w) X.A (eval (.Name x pos) X.env) Q E s:=by
 obtain⟨mb,h1,h2⟩:=I.mod.blt
 exact yk I.ok.kind hg (Calls.loadGlobal_builtin (by rw[I.ok.glob];exact I.mod.glob.keeps I.bk) hm (by rw[I.ok.blt];exact h1.keeps I.bk) ((h2 x hn).trans hv) h) hd
theorem eN{x:Str}{v:V}{u:W1}{pos:Pos}(hg:Gl X x)(hm:X.mg x=Fk u)(r:RelV v u)(hd:(x==("__debug__":Str))=false:=by decide):PE X (.Name x pos) (tC v):=
 λ_ _ _ H _ I h=>Pj I hg hm ⟨v,H,I,r,h⟩ hd
theorem gJ{x:Str}{v:V}{u:W1}{pos:Pos}(hg:Gl X x)(hm:X.mg x=uk)(hv:bootBuiltins x=Fk u)(r:RelV v u)(hn:x≠ "__name__":=by decide)(hd:(x==("__debug__":Str))=false:=by decide):PE X (.Name x pos) (tC v):=
 λ_ _ _ H _ I h=>MB I hg hm hv ⟨v,H,I,r,h⟩ hn hd
variable{a b:vU}{ta tb:TE}{pos:Pos}
noncomputable def tB(t:TE):TT:=λσ H Q=>t σ H λx H1=>∃c,x=.bl c/\Q c H1
theorem jc{e:vU}{t:TE}(h:PE X e t)(he:∀whole,isTrue e X.env whole=(do let v<-whole;standAt e.pos;holding [v] (truthy v)):=by intro _;rfl):PT X e (tB t):=by
 intro pins s σ H Q I hw
 refine isTrue_plain (thn (h pins s σ H _ I hw) λv s1 ⟨x,H1,I1,r1,q1⟩=>?_) (he _)
 obtain⟨d,rfl,q⟩:=q1
 cases r1
 exact yA ⟨H1,I1,q⟩
variable{tA tB':TT}{rest:Gc vU}
noncomputable def uD(t u:TT):TT:=λσ H Q=>t σ H λc H1=>if c=true then u σ H1 Q else Q false H1
noncomputable def tOr(t u:TT):TT:=λσ H Q=>t σ H λc H1=>if c=true then Q true H1 else u σ H1 Q
noncomputable def tF(t:TT):TT:=λσ H Q=>t σ H λc H1=>Q (!c) H1
theorem gm(ha:PT X a tA):PW X (.BoolOp .And [a] pos) tA:=by
 intro wh pins s σ H Q I h
 refine isTrue_and (thn (ha pins s σ H Q I h) λc s1 e=>?_)
 cases c with
 |true=>exact isTrue_and_nil e
 |false=>exact e
theorem kD(ha:PT X a tA):PW X (.BoolOp .Or [a] pos) tA:=by
 intro wh pins s σ H Q I h
 refine isTrue_or (thn (ha pins s σ H Q I h) λc s1 e=>?_)
 cases c with
 |false=>exact isTrue_or_nil e
 |true=>exact e
theorem ig(ha:PT X a tA)(hb:PW X (.BoolOp .And (b::rest) pos) tB'):PW X (.BoolOp .And (a::b::rest) pos) (uD tA tB'):=by
 intro wh pins s σ H Q I h
 refine isTrue_and (thn (ha pins s σ H _ I h) λc s1 ⟨H1,I1,q1⟩=>?_)
 cases c with
 |true=>exact hb wh pins s1 σ H1 Q I1 q1
 |false=>exact⟨H1,I1,q1⟩
theorem pI(ha:PT X a tA)(hb:PW X (.BoolOp .Or (b::rest) pos) tB'):PW X (.BoolOp .Or (a::b::rest) pos) (tOr tA tB'):=by
 intro wh pins s σ H Q I h
 refine isTrue_or (thn (ha pins s σ H _ I h) λc s1 ⟨H1,I1,q1⟩=>?_)
 cases c with
 |true=>exact⟨H1,I1,q1⟩
 |false=>exact hb wh pins s1 σ H1 Q I1 q1
theorem ky(ha:PT X a tA):PT X (.UnaryOp .Not a pos) (tF tA):=by
 intro pins s σ H Q I h
 exact isTrue_not (ha pins s σ H (λc H1=>Q (!c) H1) I h)
noncomputable def oZ(ta tb:TE):TE:=λσ H Q=>ta σ H λx H1=>∃c,x=.bl c/\if c=true then tb σ H1 Q else Q (.bl false) H1
noncomputable def qA(ta:TE):TE:=λσ H Q=>ta σ H λx H1=>∃c,x=.bl c/\Q (.bl (!c)) H1
theorem iP{op}{t:TE}(h:PE X a t):PE X (.BoolOp op [a] pos) t:=λpins s σ H Q I hw=>BoolOp_one (h pins s σ H Q I hw)
theorem iX(ha:PE X a ta)(hb:PE X (.BoolOp .And (b::rest) pos) tb):PE X (.BoolOp .And (a::b::rest) pos) (oZ ta tb):=by
 intro pins s σ H Q I h
 refine BoolOp_and (thn (ha pins s σ H _ I h) λv s1 ⟨x,H1,I1,r1,q1⟩=>?_)
 obtain⟨c,rfl,q1⟩:=q1
 cases r1
 refine yA ?_
 cases c with
 |true=>exact hb pins s1 σ H1 Q I1 q1
 |false=>exact⟨.bl false,H1,I1,rfl,q1⟩
theorem jU(ha:PE X a ta):PE X (.UnaryOp .Not a pos) (qA ta):=by
 intro pins s σ H Q I h
 refine UnaryOp_ (thn (ha pins s σ H _ I h) λv s1 ⟨x,H1,I1,r1,q1⟩=>?_)
 obtain⟨c,rfl,q1⟩:=q1
 cases r1
 exact not_of (yA ⟨.bl (!c),H1,I1,rfl,q1⟩)
noncomputable def tIf(t:TT)(ta tb:TE):TE:=λσ H Q=>t σ H λc H1=>if c=true then ta σ H1 Q else tb σ H1 Q
theorem Zz{c:vU}(hc:PT X c tA)(ha:PE X a ta)(hb:PE X b tb):PE X (.IfExp c a b pos) (tIf tA ta tb):=by
 intro pins s σ H Q I h
 refine wpAny_IfExp (thn (hc pins s σ H _ I h) λd s1 ⟨H1,I1,q1⟩=>?_)
 cases d with
 |true=>exact ha pins s1 σ H1 Q I1 q1
 |false=>exact hb pins s1 σ H1 Q I1 q1
end
end L2
namespace L2
open PySem PySem.Spec PyProof.Rows
def SqL(K:Wp)(H:Hp)(a:uu)(xs:Gc V):Prop:=
 Rd H a (.lst xs)∨
  ∃(o:Obj) (its:wK W1) (n:Nat),K.lookup a=Fk o/\o.cls=.type "list" /\o.dict=uk/\o.data=.seq its n/\its.size<=sizeLine/\Vals xs its.toList
def SqT(K:Wp)(H:Hp)(a:uu)(xs:Gc V):Prop:=
 Rd H a (.tup xs)∨
  ∃(o:Obj) (its:wK W1) (n:Nat),K.lookup a=Fk o/\o.cls=.type "tuple" /\o.data=.seq its n/\its.size<=sizeLine/\Vals xs its.toList
noncomputable def sS:W1->uo V
 | .none=>Fk .non
 | .bool b=>Fk (.bl b)
 | .int i _=>Fk (.int i)
 | .str x _=>Fk (.str x)
 | .bytes b _=>Fk (.byt b)
 | .float b _=>Fk (.flt b)
 | .ref a=>Fk (.ref a)
 | .type n=>Fk (.ty n)
 |_=>uk
theorem RelV.abs{x:V}{u:W1}(r:RelV x u):sS u=Fk x:=by
 cases x with
 |non=>cases r;rfl
 |bl _=>cases r;rfl
 |int _=>obtain⟨t,rfl⟩:=r;rfl
 |str _=>obtain⟨t,rfl⟩:=r;rfl
 |byt _=>obtain⟨t,rfl⟩:=r;rfl
 |flt _=>obtain⟨t,rfl⟩:=r;rfl
 |ref _=>cases r;rfl
 |ty _=>cases r;rfl
theorem RelV.inj{x y:V}{u:W1}(r:RelV x u)(q:RelV y u):x=y:=wO (r.abs.symm.trans q.abs)
theorem Vals.inj:∀{xs ys:Gc V} {us:Gc W1},Vals xs us->Vals ys us->xs=ys
 |_,_,_,.nil,.nil=>rfl
 |_,_,_,.cons r t,.cons r' t'=>by rw[r.inj r',Vals.inj t t']
section
variable{X:Cx}{pins:Gc (uu×Obj)}{σ:St}{H:Hp}{s:ur}{a:uu}{xs ys:Gc V}
theorem SqL.of{K:Wp}(h:H a=Fk (.lst xs)):SqL K H a xs:=.inl (.inl h)
theorem SqT.of{K:Wp}(h:H a=Fk (.tup xs)):SqT K H a xs:=.inl (.inl h)
theorem Inv.list(I:Inv X pins σ H s)(h:SqL X.K H a xs):∃its:Gc W1,Vals xs its/\PlainL s.heap a its.toArray/\xs.length<=sizeLine:=by
 rcases h with h|⟨o,its,n,hk,hc,hd,hs,hz,r⟩
 .obtain⟨z,its,n,r,e⟩:=h.ok I.hok
  exact⟨its,r,⟨_,n,e,rfl,rfl,rfl⟩,z⟩
 .refine⟨its.toList,r,⟨o,n,I.kIn a o hk,hc,hd,by simpa using hs⟩,?_⟩
  have e:=r.length
  simp only[AAB]at e
  lia
theorem Inv.tuple(I:Inv X pins σ H s)(h:SqT X.K H a xs):∃its:Gc W1,Vals xs its/\IsTup s.heap a its.toArray/\xs.length<=sizeLine:=by
 rcases h with h|⟨o,its,n,hk,hc,hs,hz,r⟩
 .obtain⟨z,its,r,p⟩:=h.ok I.hok
  exact⟨its,r,p,z⟩
 .refine⟨its.toList,r,⟨o,I.kIn a o hk,hc,n,by simpa using hs⟩,?_⟩
  have e:=r.length
  simp only[AAB]at e
  lia
theorem Inv.WB(I:Inv X pins σ H s)(h:SqL X.K H a xs)(h':SqL X.K H a ys):xs=ys:=by
 obtain⟨its,r,⟨o,n,e,_,_,d⟩,_⟩:=I.list h
 obtain⟨its',r',⟨o',n',e',_,_,d'⟩,_⟩:=I.list h'
 rw[e]at e';cases e'
 rw[d]at d'
 injection d' with d1 _
 have:its=its':=by simpa using congrArg Array.toList d1
 subst this
 exact r.inj r'
theorem Inv.UQ(I:Inv X pins σ H s)(h:SqT X.K H a xs)(h':SqT X.K H a ys):xs=ys:=by
 obtain⟨its,r,⟨o,e,_,n,d⟩,_⟩:=I.tuple h
 obtain⟨its',r',⟨o',e',_,n',d'⟩,_⟩:=I.tuple h'
 rw[e]at e';cases e'
 rw[d]at d'
 injection d' with d1 _
 have:its=its':=by simpa using congrArg Array.toList d1
 subst this
 exact r.inj r'
end
abbrev Cx.Xa(X:Cx)(E:W1->ur->Prop):Cx:={X with xe:=E}
abbrev Cx.nox(X:Cx):Cx:=X.Xa λ_ _=>xt
theorem Cx.Ok.Xa{X:Cx}(ok:X.Ok)(E:W1->ur->Prop):(X.Xa E).Ok:=
 ⟨ok.mod,ok.kind,ok.glob,ok.blt,ok.above,ok.inj,ok.has,ok.cab,ok.hd,ok.frames,ok.stk,ok.exf,ok.bs,ok.bsz,ok.cn,ok.eF,ok.V8,ok.frf⟩
theorem Cx.Ok.OX{X:Cx}{E:W1->ur->Prop}(ok:(X.Xa E).Ok):X.Ok:=
 ⟨ok.mod,ok.kind,ok.glob,ok.blt,ok.above,ok.inj,ok.has,ok.cab,ok.hd,ok.frames,ok.stk,ok.exf,ok.bs,ok.bsz,ok.cn,ok.eF,ok.V8,ok.frf⟩
section
variable{X:Cx}{pins:Gc (uu×Obj)}{σ:St}{H:Hp}{s:ur}{E:W1->ur->Prop}
theorem Inv.Xa(I:Inv X pins σ H s)(E:W1->ur->Prop):Inv (X.Xa E) pins σ H s:=⟨I.ok.Xa E,I.os,I.bare,I.base,I.loc,I.cell,I.free,I.Mw,I.pin,I.hok,I.len⟩
theorem Inv.OX(I:Inv (X.Xa E) pins σ H s):Inv X pins σ H s:=⟨I.ok.OX,I.os,I.bare,I.base,I.loc,I.cell,I.free,I.Mw,I.pin,I.hok,I.len⟩
theorem SP.OX{D:Ends}{f:Flow}{s':ur}(h:SP (X.Xa E) pins D f s'):SP X pins D f s':=by
 cases f with
 |next=>obtain⟨σ',H',I,q⟩:=h;exact⟨σ',H',I.OX,q⟩
 |brk=>obtain⟨σ',H',I,q⟩:=h;exact⟨σ',H',I.OX,q⟩
 |cont=>obtain⟨σ',H',I,q⟩:=h;exact⟨σ',H',I.OX,q⟩
 |ret u=>obtain⟨v,σ',H',I,r,q⟩:=h;exact⟨v,σ',H',I.OX,r,q⟩
theorem PSs.nox{st:Gc vh}{t:TS}(h:PSs X.nox st t):PSs X st t:=λpins s σ H D I hw=>
 we (h pins s σ H D (I.Xa _) hw) (λ_ _ q=>q.OX) λ_ _ z=>wt z
end
section
variable{X:Cx}{st:vh}{rest:Gc vh}{t u:TS}{e:vU}{te:TE}{pos:Pos}
noncomputable def oq:TS:=λD σ H=>D.nx σ H
noncomputable def sT(t u:TS):TS:=λD σ H=>t {D with nx:=u D} σ H
theorem fN:PSs X [] oq:=λ_ _ σ H _ I h=>y9 ⟨σ,H,I,h⟩
theorem Vv(h1:PS X st t)(h2:PSs X rest u):PSs X (st::rest) (sT t u):=by
 intro pins s σ H D I h
 refine yI (thn (h1 pins s σ H {D with nx:=u D} I h) λf s1 q=>?_)
 cases f with
 |next=>
  obtain⟨σ',H',I',q⟩:=q
  exact h2 pins s1 σ' H' D I' q
 |ret v=>exact q
 |brk=>exact q
 |cont=>exact q
theorem Vi(h1:PS X st t):PSs X [st] t:=by
 intro pins s σ H D I h
 refine yI (thn (h1 pins s σ H D I h) λf s1 q=>?_)
 cases f with
 |next=>exact y9 q
 |ret v=>exact q
 |brk=>exact q
 |cont=>exact q
theorem Inv.quiet{pins:Gc (uu×Obj)}{σ:St}{H:Hp}{s:ur}(I:Inv X pins σ H s):interactive X.env=false:=by simp[interactive,I.ok.kind]
noncomputable def oY(te:TE):TS:=λD σ H=>te σ H λ_ H1=>D.nx σ H1
theorem Xo(he:PE X e te)(hs:swapsWith e uk pos.line X.env=pure false:=by rfl):PS X (.Expr e pos) (oY te):=by
 intro pins s σ H D I h
 exact ABV (thn (he pins s σ H _ I h) λv s1 ⟨x,H1,I1,r1,q1⟩=>⟨σ,H1,I1,q1⟩) I.quiet hs
noncomputable def uP(te:TE):TS:=λD σ H=>te σ H D.rt
theorem kf(he:PE X e te):PS X (.Return (Fk e) pos) (uP te):=by
 intro pins s σ H D I h
 exact wpAny_Return_some (thn (he pins s σ H _ I h) λv s1 ⟨x,H1,I1,r1,q1⟩=>⟨x,σ,H1,I1,r1,q1⟩)
noncomputable def uH(c:TT)(t u:TS):TS:=λD σ H=>c σ H λb H1=>if b=true then t D σ H1 else u D σ H1
theorem nZ{c:vU}{a b:Gc vh}{tc:TT}(hc:PT X c tc)(ha:PSs X a t)(hb:PSs X b u):PS X (.If c a b pos) (uH tc t u):=by
 intro pins s σ H D I h
 refine wpAny_If (thn (hc pins s σ H _ I h) λd s1 ⟨H1,I1,q1⟩=>?_)
 cases d with
 |true=>exact ha pins s1 σ H1 D I1 q1
 |false=>exact hb pins s1 σ H1 D I1 q1
end
abbrev TG:=V->St->Hp->(St->Hp->Prop)->Prop
abbrev TGs:=Gc V->St->Hp->(St->Hp->Prop)->Prop
def PG(X:Cx)(target:vU)(t:TG):Prop:=
 ∀(pins:Gc (uu×Obj)) (s:ur) (σ:St) (H:Hp) (v:V) (u:W1) (Q:St->Hp->Prop),Inv X pins σ H s->RelV v u->t v σ H Q->
  wpAny (model X.prog X.w) X.A (assign target X.env u) (λ_ s'=>∃σ' H',Inv X pins σ' H' s'/\Q σ' H') X.xe s
def PGs(X:Cx)(ts:Gc vU)(t:TGs):Prop:=
 ∀(pins:Gc (uu×Obj)) (s:ur) (σ:St) (H:Hp) (vs:Gc V) (us:Gc W1) (Q:St->Hp->Prop),Inv X pins σ H s->Vals vs us->t vs σ H Q->
  wpAny (model X.prog X.w) X.A (assignInOrder ((assignEach ts X.env).map (·.2)) us) (λ_ s'=>∃σ' H',Inv X pins σ' H' s'/\Q σ' H') X.xe s
abbrev jL:=V->V->V->Hp->(Hp->Prop)->Prop
def qR(X:Cx)(t:jL):Prop:=
 ∀(pins:Gc (uu×Obj)) (s:ur) (σ:St) (H:Hp) (o i v:V) (ov iv u:W1) (Q:Hp->Prop),Inv X pins σ H s->RelV o ov->RelV i iv->RelV v u->t o i v H Q->
  wpAny (model X.prog X.w) X.A (setItem ov iv u) (λ_ s'=>∃H',Inv X pins σ H' s'/\Q H') X.xe s
abbrev TIp:=V->V->Hp->VK->Prop
def PIp(X:Cx)(op:Operator)(t:TIp):Prop:=
 ∀(pins:Gc (uu×Obj)) (s:ur) (σ:St) (H:Hp) (x y:V) (v u:W1) (Q:VK),Inv X pins σ H s->RelV x v->RelV y u->t x y H Q->
  wpAny (model X.prog X.w) X.A (inplaceOp op v u) (EP X pins σ Q) X.xe s
section
variable{X:Cx}{pos:Pos}
noncomputable def gY(i:Nat):TG:=λv σ H Q=>Q (σ.set i (Fk v)) H
theorem gd{i:Nat}{x:Str}(hN:X.N.Nodup)(hi:X.N[i]?=Fk x)(hx:Loc X.env.scope x)(hf:X.fn x=true\/X.env.scope.names.lookup x=Fk .local:=by first|exact .inl rfl|exact .inr rfl|assumption):PG X (.Name x pos) (gY i):=by
 intro pins s σ H v u Q I r h
 exact wpAny_assign_Name (O6 I hN hi hx r (λs' I'=>⟨_,H,I',h⟩) hf)
noncomputable def qj:TGs:=λvs σ H Q=>vs=[]/\Q σ H
noncomputable def iy(t:TG)(u:TGs):TGs:=λvs σ H Q=>∃v r,vs=v::r/\t v σ H λσ' H'=>u r σ' H' Q
theorem eK:PGs X [] qj:=by
 intro pins s σ H vs us Q I r h
 obtain⟨e,h⟩:=h
 subst e
 cases r
 exact assignInOrder_nil ⟨σ,H,I,h⟩
theorem au{e:vU}{es:Gc vU}{t:TG}{u:TGs}(h1:PG X e t)(h2:PGs X es u)(hs:(assignEach (e::es) X.env).map (·.2)=assign e X.env::(assignEach es X.env).map (·.2):=by rfl):PGs X (e::es) (iy t u):=by
 intro pins s σ H vs us Q I r h
 obtain⟨v,vr,e1,h⟩:=h
 subst e1
 cases r with
 |cons r rr=>
  rw[hs]
  refine AAN (thn (h1 pins s σ H _ _ _ I r h) λ_ s1 ⟨σ1,H1,I1,q1⟩=>?_)
  exact h2 pins s1 σ1 H1 _ _ Q I1 rr q1
noncomputable def sR(K:Wp)(n:Nat)(t:TGs):TG:=λv σ H Q=>∃a xs,v=.ref a/\SqT K H a xs/\xs.length=n/\t xs σ H Q
theorem jq{es:Gc vU}{k:Nat}{t:TGs}{n:Nat}(hc:X.calm=true)(h:PGs X es t)(hn:(assignEach es X.env).length=n:=by rfl)(hst:(assignEach es X.env).findIdx? (·.1)=none:=by rfl):PG X (.Tuple es k pos) (sR X.K n t):=by
 intro pins s σ H v u Q I r hw
 obtain⟨a,xs,e1,hq,hl,hw⟩:=hw
 subst e1
 cases r
 obtain⟨its,rv,ht,hz⟩:=I.tuple hq
 refine assign_Tuple_tuple (I.ok.hd hc) ht (by simp[hn,<-hl,rv.length]) hst λh' hx=>?_
 have I1:Inv X pins σ H {s with heap:=h'}:=I.kept (t':=s.toks) λb o e=>hx b o (vZ (vI e)) e
 exact h pins _ σ H xs _ Q I1 (by simpa using rv) hw
noncomputable def uA(to ti:TE)(t:jL):TG:=λv σ H Q=>to σ H λo H1=>ti σ H1 λi H2=>t o i v H2 λH3=>Q σ H3
theorem lG {o i : vU} {to ti : TE} {t : jL} (ho : PE X o to) (hi : PE X i ti) (hs : qR X t) (ha : ∀ v, assign (.Subscript o i pos) X.env v = (do
      let ov ← holding [v] (eval o X.env)
      let iv ← holding [v, ov] (eval i X.env)
      standAt pos
      holding [v, ov, iv] (setItem ov iv v)
      release [v, ov, iv] []) := by intro _; rfl) : PG X (.Subscript o i pos) (uA to ti t) := by
  intro pins s σ H v u Q I r h
  rw [ha]
  refine um (xG (thn (ho pins s σ H _ I h) fun ov s1 ⟨x, H1, I1, r1, q1⟩ => ?_))
  refine um (xG (thn (hi pins s1 σ H1 _ I1 q1) fun iv s2 ⟨y, H2, I2, r2, q2⟩ => ?_))
  refine um (y4 (um (xG (thn (hs pins s2 σ H2 x y v ov iv u _ I2 r1 r2 r q2) fun _ s3 ⟨H3, I3, q3⟩ => ?_))))
  exact wpAny_release ⟨σ, H3, I3, q3⟩
noncomputable def nU(te:TE)(g:TG):TS:=λD σ H=>te σ H λx H1=>g x σ H1 D.nx
theorem cG{tg e:vU}{te:TE}{g:TG}(he:PE X e te)(hg:PG X tg g)(hs:swapsWithSole [tg] e pos.line X.env=pure false:=by rfl)(hw:swappedStores [tg] e X.env=pure none:=by rfl)(h1:(assignEach [tg] X.env).map (·.2)=[assign tg X.env]:=by rfl):PS X (.Assign [tg] e pos) (nU te g):=by
 intro pins s σ H D I h
 refine wpAny_Assign_stores (thn (he pins s σ H _ I h) λv s1 ⟨x,H1,I1,r1,q1⟩=>?_) hs hw
 rw[h1]
 exact thn (hg pins s1 σ H1 x v _ I1 r1 q1) λ_ s2 q=>q
theorem jm{i:Nat}{x:Str}{e:vU}{te:TE}{pos':Pos}(hN:X.N.Nodup)(hi:X.N[i]?=Fk x)(hx:Loc X.env.scope x)(he:PE X e te)(hs:swapsWith e (Fk (.Name x pos')) pos.line X.env=pure false:=by rfl)(hf:X.fn x=true\/X.env.scope.names.lookup x=Fk .local:=by first|exact .inl rfl|exact .inr rfl|assumption):PS X (.Assign [.Name x pos'] e pos) (nU te (gY i)):=by
 intro pins s σ H D I h
 refine wpAny_Assign_Name (thn (he pins s σ H _ I h) λv s1 ⟨y,H1,I1,r1,q1⟩=>?_) hs
 exact O6 I1 hN hi hx r1 (λs2 I2=>⟨_,H1,I2,q1⟩) hf
noncomputable def tV(i j:Nat)(ta:TA):TS:=λD σ H=>ta σ H λvs H1=>∃v w,vs=[v,w]/\D.nx ((σ.set i (Fk v)).set j (Fk w)) H1
theorem kH{i j:Nat}{x y:Str}{a b:vU}{ta:TA}{px py pt:Pos}{kt k2 pt2}(hc:X.calm=true)(hN:X.N.Nodup)(hi:X.N[i]?=Fk x)(hj:X.N[j]?=Fk y)(hij:i≠j)(hx:X.env.scope.names.lookup x=Fk .local)(hy:X.env.scope.names.lookup y=Fk .local)(ha:PA X [a,b] ta)(hw:swappedStores [.Tuple [.Name x px,.Name y py] kt pt] (.Tuple [a,b] k2 pt2) X.env=pure (Fk [x,y]))(hs:swapsWithSole [.Tuple [.Name x px,.Name y py] kt pt] (.Tuple [a,b] k2 pt2) pos.line X.env=pure false:=by rfl):PS X (.Assign [.Tuple [.Name x px,.Name y py] kt pt] (.Tuple [a,b] k2 pt2) pos) (tV i j ta):=by
 intro pins s σ H D I h
 rw[exec_Assign_arm]
 refine um (y4 ?_)
 rw[hs]
 refine um (vD ?_)
 rw[vf (by decide)]
 refine um (Tuple_ (thn (ha _ pins s σ H _ I h) λus s1 ⟨vs,H1,I1,r1,q1⟩=>?_))
 obtain⟨v,w,e1,q1⟩:=q1
 subst e1
 obtain⟨u1,u2,rfl,rv,rw'⟩:∃u1 u2,us=[u1,u2]/\RelV v u1/\RelV w u2:=by
  cases r1 with
  |cons p q=>
   cases q with
   |cons p' q'=>
    cases q'
    exact⟨_,_,rfl,p,p'⟩
 refine wJ ?_ (by show 2<=sizeLine;decide)
 have I2:Inv X pins σ H1 {s1 with heap:=s1.heap.push {cls:=.type "tuple",data:=.seq [u1,u2].toArray}}:=I1.kept (t':=s1.toks) λb o e=>tz _ e
 rw[hw]
 refine um (vD ?_)
 show wpAny (model X.prog X.w) X.A (do rule "assign.swapped-stores"; let items<-unpackItems (.ref s1.heap.objs.size) 2 uk;assignInOrder [λv=>bindName X.env y v,λv=>bindName X.env x v] items.reverse;pure Flow.next) _ _ _
 refine um (AA5 (um (unpackItems_tuple (items:= #[u1,u2]) (I.ok.hd hc) (xX s1.heap _) λh' hx'=>?_)))
 have I3:=I2.kept (h':=h') (t':=s1.toks) λb o e=>hx' b o (vZ (vI e)) e
 show wpAny _ _ (assignInOrder [λv=>bindName X.env y v,λv=>bindName X.env x v] [u2,u1] >>= λ_=>pure Flow.next) _ _ _
 refine um (AAN (wpAny_bindName (O6 I3 hN hj (.inl hy) rw' (λs2 I4=>?_) (.inr hy))))
 refine AAN (wpAny_bindName (O6 I4 hN hi (.inl hx) rv (λs3 I5=>assignInOrder_nil (vD ?_)) (.inr hx)))
 rw[List.set_comm _ _ (wu hij)]at I5
 exact⟨_,H1,I5,q1⟩
noncomputable def oU(to ti te:TE)(tget:V->V->Hp->VK->Prop)(tip:TIp)(tset:jL):TS:=λD σ H=>to σ H λo H1=>ti σ H1 λi H2=>tget o i H2 λx H3=>te σ H3 λy H4=>tip x y H4 λz H5=>tset o i z H5 λH6=>D.nx σ H6
def qh(X:Cx)(t:V->V->Hp->VK->Prop):Prop:=
 ∀(pins:Gc (uu×Obj)) (s:ur) (σ:St) (H:Hp) (o i:V) (ov iv:W1) (Q:VK),Inv X pins σ H s->RelV o ov->RelV i iv->t o i H Q->
  wpAny (model X.prog X.w) X.A (getItem ov iv) (EP X pins σ Q) X.xe s
theorem fM{o i e:vU}{to ti te:TE}{tget:V->V->Hp->VK->Prop}{tip:TIp}{tset:jL}{op:Operator}{tpos:Pos}(ho:PE X o to)(hi:PE X i ti)(hg:qh X tget)(he:PE X e te)(hp:PIp X op tip)(hs:qR X tset)(ha:∀ov iv new,augStore i ov iv new=(do holding [new,ov,iv] (setItem ov iv new);release [new,ov,iv] [];pure .next):=by intros;rfl):PS X (.AugAssign (.Subscript o i tpos) op e pos) (oU to ti te tget tip tset):=by
 intro pins s σ H D I h
 refine wpAny_AugAssign_SubscriptAny (thn (ho pins s σ H _ I h) λov s1 ⟨x1,H1,I1,r1,q1⟩=>?_) ha
 refine thn (hi pins s1 σ H1 _ I1 q1) λiv s2 ⟨x2,H2,I2,r2,q2⟩=>?_
 refine thn (hg pins s2 σ H2 x1 x2 ov iv _ I2 r1 r2 q2) λold s3 ⟨x3,H3,I3,r3,q3⟩=>?_
 refine thn (he pins s3 σ H3 _ I3 q3) λv s4 ⟨x4,H4,I4,r4,q4⟩=>?_
 refine thn (hp pins s4 σ H4 x3 x4 old v _ I4 r3 r4 q4) λnew s5 ⟨x5,H5,I5,r5,q5⟩=>?_
 exact thn (hs pins s5 σ H5 x1 x2 x5 ov iv new _ I5 r1 r2 r5 q5) λ_ s6 ⟨H6,I6,q6⟩=>⟨σ,H6,I6,q6⟩
noncomputable def ipI(f:Int->Int->Int):TIp:=λx y H Q=>∃i j,x=.int i/\y=.int j/\Q (.int (f i j)) H
theorem iw:PIp X .Sub (ipI λi j=>i-j):=by
 intro pins s σ H x y v u Q I r1 r2 h
 obtain⟨i,j,e1,e2,q⟩:=h
 subst e1;subst e2
 obtain⟨t,rfl⟩:=r1
 obtain⟨t',rfl⟩:=r2
 exact isub_int ⟨.int _,H,I.tok _,⟨_,rfl⟩,q⟩
end
section
variable{X:Cx}{pos:Pos}
noncomputable def kh(c:TT)(tb:TS):TS:=λD σ H=>∃W:Nat->St->Hp->Prop,(∃m,W m σ H)/\∀m σ H,W m σ H->
 c σ H λb H1=>if b=true then∃N:St->Hp->Prop,(∀σ' H',N σ' H'->∃m',m'<m/\W m' σ' H')/\tb {D with nx:=N,ct:=N,bk:=D.nx} σ H1 else D.nx σ H1
theorem aS{c:vU}{body:Gc vh}{tc:TT}{tb:TS}(hp:PassesOwn (model X.prog X.w) X.A X.env X.xe)(hc:PT X c tc)(hb:PSs X body tb):PS X (.While c body [] pos) (kh tc tb):=by
 intro pins s σ H D I h
 obtain⟨W,⟨m0,w0⟩,turn⟩:=h
 refine wpAny_While (codeAny_whileLoop (λn s'=>∃σ' H',Inv X pins σ' H' s'/\W n σ' H') ?_ m0 ⟨σ,H,I,w0⟩)
 rintro n s1 ⟨σ1,H1,I1,w1⟩
 refine x8 hp (thn (hc pins s1 σ1 H1 _ I1 (turn n σ1 H1 w1)) λb s2 ⟨H2,I2,q2⟩=>?_)
 cases b with
 |true=>
  obtain⟨N,hN,q2⟩:=q2
  rw[va rfl]
  refine x8 hp (thn (hb pins s2 σ1 H2 _ I2 q2) λf s3 q3=>?_)
  cases f with
  |next=>
   obtain⟨σ3,H3,I3,n3⟩:=q3
   obtain⟨m',hm,w3⟩:=hN σ3 H3 n3
   exact⟨m',hm,σ3,H3,I3,w3⟩
  |cont=>
   obtain⟨σ3,H3,I3,n3⟩:=q3
   obtain⟨m',hm,w3⟩:=hN σ3 H3 n3
   exact⟨m',hm,σ3,H3,I3,w3⟩
  |brk=>exact q3
  |ret v=>exact q3
 |false=>
  rw[vf vz]
  exact y9 ⟨σ1,H2,I2,q2⟩
end
structure It where
 go:Nat->Hp->Prop
 yld:Nat->Hp->V->Hp->Prop
 stop:Nat->Hp->Prop
def VT(X:Cx)(pins:Gc (uu×Obj))(H:Hp)(b:uu):Prop:=
 H b=uk/\b≠X.env.locals/\b∉X.fs/\(b∈X.ex\/X.s₀.heap.objs.size<=b)/\(∀x c,X.env.cells.lookup x=Fk c->c≠b)/\∀p∈X.pn++pins,p.1≠b
theorem Inv.gc{X:Cx}{pins:Gc (uu×Obj)}{σ:St}{H H':Hp}{s:ur}{b:uu}(I:Inv X pins σ H s)(hb:s.heap.objs.size<=b)(hn:H' b=uk):VT X pins H' b:=by
 refine⟨hn,AA6 (uy I.lt hb),I.uJ hb,.inr (uz I.sz hb),λx c e z=>?_,λp hp z=>?_⟩
 .obtain⟨v,q⟩:=I.cell x c e
  exact absurd (uy q.lt (by rw[z];exact hb)) (wj _)
 .exact absurd (uy (vI (I.pin p hp).1) (by rw[z];exact hb)) (wj _)
structure Turn(P:vR)(w:vi)(K:Wp)(tg:vU)(J:It)(fp:Gc uu)(it:uu)(tn:Nat->ve->Prop):Prop where
 mem:it∈fp
 obj:∀i h,tn i h->∀b∈fp,∃o,h.get? b=Fk o/\∀v,o.data≠.cell v
 keep:∀i h h',tn i h->(∀b∈fp,∀o,h.get? b=Fk o->h'.get? b=Fk o)->tn i h'
 item:∀(X:Cx),X.prog=P->X.w=w->X.K=K->X.calm=true->∀(i:Nat) (pins:Gc (uu×Obj)) (s:ur) (σ:St) (H:Hp) (E:W1->ur->Prop),Inv X pins σ H s->(∀b∈fp,VT X pins H b)->tn i s.heap->J.go i H->
  wpAny (model P w) X.A (pyNext (.ref it)) (λr s1=>∃u,r=Fk u/\
   wpAny (model P w) X.A (letOwnedTupleGo tg (.ref it) u) (λ_ s2=>∃x H',Inv X pins σ H' s2/\RelV x u/\J.yld i H x H'/\tn (i+1) s2.heap/\∀b∈fp,H' b=uk) E s1) E s
 done:∀(X:Cx),X.prog=P->X.w=w->X.K=K->X.calm=true->∀(i:Nat) (pins:Gc (uu×Obj)) (s:ur) (σ:St) (H:Hp) (E:W1->ur->Prop),Inv X pins σ H s->(∀b∈fp,VT X pins H b)->tn i s.heap->J.stop i H->
  wpAny (model P w) X.A (pyNext (.ref it)) (λr s1=>r=uk/\Inv X pins σ H s1) E s
 self:∀(A:vj) (i:Nat) (s:ur) (Q:W1->ur->Prop) (E:W1->ur->Prop),tn i s.heap->Q (.ref it) s->wpAny (model P w) A (pyIter (.ref it)) Q E s
abbrev TI:=St->Hp->(It->Hp->Prop)->Prop
def PIE(X:Cx)(pins:Gc (uu×Obj))(σ:St)(tg:vU)(R:It->Hp->Prop)(itv:W1)(s2:ur):Prop:=
 ∃(it:uu) (fp:Gc uu) (tn:Nat->ve->Prop) (J:It) (H':Hp),itv=.ref it/\Inv X pins σ H' s2/\Turn X.prog X.w X.K tg J fp it tn/\tn 0 s2.heap/\(∀b∈fp,VT X pins H' b)/\R J H'
def PI(X:Cx)(tg iter:vU)(wi:TI):Prop:=
 ∀(pins:Gc (uu×Obj)) (s:ur) (σ:St) (H:Hp) (R:It->Hp->Prop),Inv X pins σ H s->wi σ H R->
  wpAny (model X.prog X.w) X.A (eval iter X.env) (λv s1=>wpAny (model X.prog X.w) X.A (pyIter v) (PIE X pins σ tg R) X.xe s1) X.xe s
theorem eZ{M:Model}{A:vj}{E:W1->ur->Prop}{s:ur}{tg:vU}{it:uu}{u:W1}{o:Obj}{n:xl}{vs:wK W1}{Q:Unit->ur->Prop}(ho:s.heap.get? it=Fk o)(hc:o.cls=.type n)(hd:o.data=.fields vs)(hn:["enumerate","zip","dict_itemiterator","dict_reverseitemiterator","odict_iterator","itertools.zip_longest","itertools.pairwise"].contains n=false)(hQ:Q () s):wpAny M A (letOwnedTupleGo tg (.ref it) u) Q E s:=by
 unfold letOwnedTupleGo
 cases tg<;>first
  |exact vD hQ
  |(cases u<;>first
     |exact vD hQ
     |(refine um (wpAny_load ho ?_)
       rw[hc,hd]
       show wpAny M A (if(["enumerate","zip","dict_itemiterator","dict_reverseitemiterator","odict_iterator","itertools.zip_longest","itertools.pairwise"].contains n && vs[0]?==Fk (rawInt _))=true then _ else _) Q E s
       rw[vf (by intro h;rw[hn,ABW]at h;cases h)]
       exact vD hQ))
noncomputable def Itl(K:Wp)(a:uu):It:=
 ⟨λi H=>∃xs x,SqL K H a xs/\xs[i]?=Fk x,λi H x H'=>H'=H/\∀xs,SqL K H a xs->xs[i]?=Fk x,λi H=>∃xs,SqL K H a xs/\xs.length<=i⟩
noncomputable def Itt(K:Wp)(a:uu):It:=
 ⟨λi H=>∃xs x,SqT K H a xs/\xs[i]?=Fk x,λi H x H'=>H'=H/\∀xs,SqT K H a xs->xs[i]?=Fk x,λi H=>∃xs,SqT K H a xs/\xs.length<=i⟩
noncomputable def Itr(lo:Int)(n:Nat):It:=⟨λi _=>i<n,λi H x H'=>H'=H/\x=.int (lo+i),λi _=>n<=i⟩
theorem Yc{P:vR}{w:vi}{K:Wp}{tg:vU}(a it:uu):Turn P w K tg (Itl K a) [it] it (λi h=>h.IsListIter it a i) where
 mem:=by simp
 obj:=λi h st b hb=>by
  have e:b=it:=by simpa using hb
  subst e
  obtain⟨o,e,c,d⟩:=st
  exact⟨o,e,λv z=>by rw[d]at z;cases z⟩
 keep:=λi h h' st k=>st.at λo e=>k it (by simp) o e
 item:=by
  intro X hP hw hK hc i pins s σ H E I hf st hg
  subst hP hw hK
  obtain⟨xs,x,hq,hx⟩:=hg
  obtain⟨its,rv,p,hz⟩:=I.list hq
  obtain⟨u,hu,ru⟩:=rv.get hx
  obtain⟨f0,f1,f2,f3,f4,f5⟩:=hf it (by simp)
  refine zK st p.isList (x:=u) (by simpa using hu) λh' st' sb=>?_
  have I1:Inv X pins σ H {s with heap:=h'}:=I.turned (t':=s.toks) (λb o hb e=>(sb.2 b hb).trans e) f0 f1 f3 f4 f5
  obtain⟨o,e,c,d⟩:=id st'
  exact⟨u,rfl,eZ (s:={s with heap:=h'}) e c d (by decide) ⟨x,H,I1,ru,⟨rfl,λys hy=>by rw[I.WB hy hq];exact hx⟩,st',λb hb=>(hf b hb).1⟩⟩
 done:=by
  intro X hP hw hK hc i pins s σ H E I hf st hg
  subst hP hw hK
  obtain⟨xs,hq,hx⟩:=hg
  obtain⟨its,rv,p,hz⟩:=I.list hq
  obtain⟨f0,f1,f2,f3,f4,f5⟩:=hf it (by simp)
  have hl:=rv.length
  exact zX (I.ok.hd hc) st p.isList (by simp;lia) λh' eb=>⟨rfl,I.turned (t':=s.toks) (λb o hb e=>eb b o hb e) f0 f1 f3 f4 f5⟩
 self:=λ_ _ _ _ _ st h=>ABP st h
theorem XM{P:vR}{w:vi}{K:Wp}{tg:vU}(a it:uu):Turn P w K tg (Itt K a) [it] it (λi h=>h.IsTupleIter it a i) where
 mem:=by simp
 obj:=λi h st b hb=>by
  have e:b=it:=by simpa using hb
  subst e
  obtain⟨o,e,c,d⟩:=st
  exact⟨o,e,λv z=>by rw[d]at z;cases z⟩
 keep:=λi h h' st k=>st.at λo e=>k it (by simp) o e
 item:=by
  intro X hP hw hK hc i pins s σ H E I hf st hg
  subst hP hw hK
  obtain⟨xs,x,hq,hx⟩:=hg
  obtain⟨its,rv,p,hz⟩:=I.tuple hq
  obtain⟨u,hu,ru⟩:=rv.get hx
  obtain⟨f0,f1,f2,f3,f4,f5⟩:=hf it (by simp)
  refine wpAny_pyNext_tuple_item st (show s.heap.IsTuple a its.toArray from p) (x:=u) (by simpa using hu) λh' st' sb=>?_
  have I1:Inv X pins σ H {s with heap:=h'}:=I.turned (t':=s.toks) (λb o hb e=>(sb.2 b hb).trans e) f0 f1 f3 f4 f5
  obtain⟨o,e,c,d⟩:=id st'
  exact⟨u,rfl,eZ (s:={s with heap:=h'}) e c d (by decide) ⟨x,H,I1,ru,⟨rfl,λys hy=>by rw[I.UQ hy hq];exact hx⟩,st',λb hb=>(hf b hb).1⟩⟩
 done:=by
  intro X hP hw hK hc i pins s σ H E I hf st hg
  subst hP hw hK
  obtain⟨xs,hq,hx⟩:=hg
  obtain⟨its,rv,p,hz⟩:=I.tuple hq
  obtain⟨f0,f1,f2,f3,f4,f5⟩:=hf it (by simp)
  have hl:=rv.length
  exact wpAny_pyNext_tuple_end (I.ok.hd hc) st (show s.heap.IsTuple a its.toArray from p) (by simp;lia) λh' eb=>⟨rfl,I.turned (t':=s.toks) (λb o hb e=>eb b o hb e) f0 f1 f3 f4 f5⟩
 self:=λ_ _ _ _ _ st h=>wpAny_pyIter_tupleiter st h
theorem XS{P:vR}{w:vi}{K:Wp}{tg:vU}(it:uu)(lo:Int)(n:Nat):Turn P w K tg (Itr lo n) [it] it (λi h=>IsRangeIter h it (lo+(i:Nat)*1) ((n:Int)-(i:Nat)) 1) where
 mem:=by simp
 obj:=λi h st b hb=>by
  have e:b=it:=by simpa using hb
  subst e
  exact⟨_,st,λv z=>by
   have z':Data.fields _=Data.cell v:=z
   cases z'⟩
 keep:=λi h h' st k=>k it (by simp) _ st
 item:=by
  intro X hP hw hK hc i pins s σ H E I hf st hg
  subst hP hw hK
  obtain⟨f0,f1,f2,f3,f4,f5⟩:=hf it (by simp)
  have W:=Walks.range (prog:=X.prog) (w:=X.w) (I.ok.hd hc) it lo 1 n
  refine W.item i s _ _ hg st λv h' tk hv st' kk=>?_
  obtain⟨t,rfl⟩:=hv
  have I1:Inv X pins σ H {s with heap:=h',toks:=tk}:=I.turned (λb o hb e=>kk b o (by simpa using hb) e) f0 f1 f3 f4 f5
  refine⟨_,rfl,eZ (s:={s with heap:=h',toks:=tk}) (n:="range_iterator") st' rfl rfl (by decide) ⟨.int (lo+i),H,I1,⟨t,?_⟩,⟨rfl,rfl⟩,st',λb hb=>(hf b hb).1⟩⟩
  rw[Int.mul_one]
 done:=by
  intro X hP hw hK hc i pins s σ H E I hf st hg
  subst hP hw hK
  obtain⟨f0,f1,f2,f3,f4,f5⟩:=hf it (by simp)
  exact wpAny_pyNext_range_end (I.ok.hd hc) st (by have:n<=i:=hg;lia) λh' eb=>⟨rfl,I.turned (t':=s.toks) (λb o hb e=>eb b o hb e) f0 f1 f3 f4 f5⟩
 self:=λ_ _ _ _ _ st h=>wpAny_pyIter_rangeiter st h
end L2
namespace L2
open PySem PySem.Spec PyProof.Rows
section
variable{X:Cx}{tg:vU}
theorem bK{pins:Gc (uu×Obj)}{σ:St}{H:Hp}{s:ur}{R:It->Hp->Prop}{E:W1->ur->Prop}{lo hi:Int}{t u v:Tok}{tk:Nat}(I:Inv X pins σ H s)(h1: -(2^62)<=lo)(h2:lo<2^62)(h3: -(2^62)<=hi)(h4:hi<2^62)(q:R (Itr lo (hi-lo).toNat) H):wpAny (model X.prog X.w) X.A (pyIter (.ref s.heap.objs.size)) (PIE X pins σ tg R) E {s with heap:=s.heap.push {cls:=.type "range",data:=.fields #[.int lo t,.int hi u,.int 1 v]},toks:=tk}:=by
 refine wpAny_pyIter_range (IsRange.new ..) (small_one h1 h2 h3 h4) ?_
 have I1:Inv X pins σ H {s with heap:=s.heap.push {cls:=.type "range",data:=.fields #[.int lo t,.int hi u,.int 1 v]},toks:=tk}:=I.kept λb o e=>tz _ e
 refine⟨(s.heap.push {cls:=.type "range",data:=.fields #[.int lo t,.int hi u,.int 1 v]}).objs.size,[(s.heap.push {cls:=.type "range",data:=.fields #[.int lo t,.int hi u,.int 1 v]}).objs.size],_,_,H,rfl,
  I1.kept (t':=tk) λb o e=>tz _ e,XS _ lo (hi-lo).toNat,?_,λb hb=>?_,q⟩
 .have e1:lo+((0:Nat):Int)*1=lo:=by simp
  have e2:(((hi-lo).toNat:Nat):Int)-((0:Nat):Int)=yJ lo hi 1:=by rw[rangeSize_one];split<;>lia
  show IsRangeIter _ _ (lo+((0:Nat):Int)*1) ((((hi-lo).toNat:Nat):Int)-((0:Nat):Int)) 1
  rw[e1,e2]
  exact vM _ rfl
 .have e:b=(s.heap.push {cls:=.type "range",data:=.fields #[.int lo t,.int hi u,.int 1 v]}).objs.size:=by simpa using hb
  subst e
  exact I1.gc (u4 _) (I1.hok.fresh (u4 _))
noncomputable def qB(ta:TA):TI:=λσ H R=>ta σ H λvs H1=>∃j:Int,vs=[.int j]/\ -(2^62)<=j/\j<2^62/\R (Itr 0 j.toNat) H1
theorem YV{a:vU}{ta:TA}{p pos:Pos}(hg:Gl X "range")(hm:X.mg "range"=uk)(ha:PA X [a] ta)(hs:vP [a] X.env=[(false,eval a X.env)]:=by rfl):PI X tg (.Call (.Name "range" p) [a] [] pos) (qB ta):=by
 intro pins s σ H R I h
 refine Call_ (MB I hg hm boot_range (wZ (thn (ha pos pins s σ H _ I h) λus s1 ⟨vs,H1,I1,r1,q1⟩=>?_) hs rfl))
 obtain⟨j,e,q1,q2,q⟩:=q1
 subst e
 cases r1 with
 |cons r rr=>
  cases rr
  obtain⟨t,rfl⟩:=r
  exact call_range_1 (bK I1 (by lia) (by lia) q1 q2 (by simpa using q))
noncomputable def sA(wi:TI)(g:TG)(tb:TS):TS:=λD σ H=>wi σ H λJ H1=>∃W:Nat->Nat->St->Hp->Prop,(∃m,W 0 m σ H1)/\∀i m σ H,W i m σ H->
 (J.stop i H/\D.nx σ H)\/(J.go i H/\∃N:St->Hp->Prop,(∀σ' H',N σ' H'->∃m',m'<m/\W (i+1) m' σ' H')/\∀x H',J.yld i H x H'->g x σ H' λσ2 H2=>tb {D with nx:=N,ct:=N,bk:=D.nx} σ2 H2)
noncomputable def Ub(fp:Gc uu)(h:ve):Gc (uu×Obj):=fp.filterMap λb=>(h.get? b).map λo=>(b,o)
theorem Lj{fp:Gc uu}{h:ve}{b:uu}{o:Obj}(hb:b∈fp)(e:h.get? b=Fk o):(b,o)∈Ub fp h:=zA.mpr ⟨b,hb,by rw[e];rfl⟩
theorem Xp{fp:Gc uu}{h:ve}{p:uu×Obj}(hp:p∈Ub fp h):p.1∈fp/\h.get? p.1=Fk p.2:=by
 obtain⟨b,hb,e⟩:=zA.mp hp
 cases q:h.get? b with
 |none=>rw[q]at e;cases e
 |some o=>
  rw[q]at e
  have e':(b,o)=p:=wO e
  subst e'
  exact⟨hb,q⟩
theorem Inv.pinned{pins:Gc (uu×Obj)}{σ:St}{H:Hp}{s:ur}{fp:Gc uu}(I:Inv X pins σ H s)(hf:∀b∈fp,VT X pins H b)(ho:∀b∈fp,∃o,s.heap.get? b=Fk o/\∀v,o.data≠.cell v):Inv X (pins++Ub fp s.heap) σ H s:=
 I.Yj λp hp=>(vY.mp hp).elim (λz=>I.pin p (vy _ z)) λz=>by
  obtain⟨hb,e⟩:=Xp z
  obtain⟨f0,f1,f2,_⟩:=hf p.1 hb
  obtain⟨o,e',d⟩:=ho p.1 hb
  rw[e]at e';cases e'
  exact⟨e,f0,f1,f2,d⟩
theorem Inv.Oo{pins pl:Gc (uu×Obj)}{σ:St}{H:Hp}{s:ur}(I:Inv X (pins++pl) σ H s):Inv X pins σ H s:=I.Yj λp hp=>I.pin p (vy _ (zq _ hp))
theorem kR{iter:vU}{body:Gc vh}{wi:TI}{g:TG}{tb:TS}{pos:Pos}(hp:PassesOwn (model X.prog X.w) X.A X.env X.xe)(hc:X.calm=true)(hi:PI X tg iter wi)(hg:PG X tg g)(hb:PSs X body tb)(hs:∀x,foldedSetIterable iter X.env x=pure x:=by intro _;rfl):PS X (.For tg iter body [] pos) (sA wi g tb):=by
 intro pins s σ H D I h
 refine wpAny_For (thn (hi pins s σ H _ I h) λv s1 h1=>thn h1 λitv s2 h2=>?_) hs
 obtain⟨it,fp,tn,J,H2,e,I2,T,st2,f2,W,⟨m0,w0⟩,turn⟩:=h2
 subst e
 have stat:∀{H':Hp},(∀b∈fp,H' b=uk)->∀b∈fp,VT X pins H' b:=λhn b hb=>⟨hn b hb,(f2 b hb).2⟩
 refine codeAny_forLoop_any (λn s'=>∃i σ' H',Inv X pins σ' H' s'/\tn i s'.heap/\(∀b∈fp,H' b=uk)/\W i n σ' H') ?_ m0 ⟨0,σ,H2,I2,st2,λb hb=>(f2 b hb).1,w0⟩
 rintro n s3 ⟨i,σ3,H3,I3,st3,fr3,w3⟩
 rcases turn i n σ3 H3 w3 with⟨stop,qn⟩|⟨go,N,hN,step⟩
 .refine x8 hp (thn (T.done X rfl rfl rfl hc i pins s3 σ3 H3 X.xe I3 (stat fr3) st3 stop) λr s4 ⟨hr,I4⟩=>?_)
  subst hr
  exact y9 ⟨σ3,H3,I4,qn⟩
 .refine x8 hp (thn (T.item X rfl rfl rfl hc i pins s3 σ3 H3 X.xe I3 (stat fr3) st3 go) λr s4 ⟨u,hr,h4⟩=>?_)
  subst hr
  refine x8 hp (thn h4 λ_ s5 ⟨x,H5,I5,r5,y5,st5,fr5⟩=>?_)
  have I5':=I5.pinned (stat fr5) (T.obj _ _ st5)
  refine x8 hp (thn (hg _ s5 σ3 H5 x u _ I5' r5 (step x H5 y5)) λ_ s6 ⟨σ6,H6,I6,q6⟩=>?_)
  refine x8 hp (thn (hb _ s6 σ6 H6 _ I6 q6) λf s7 q7=>?_)
  have again:∀{σ7:St} {H7:Hp},Inv X (pins++Ub fp s5.heap) σ7 H7 s7->N σ7 H7->∃m,m<n/\∃i σ' H',Inv X pins σ' H' s7/\tn i s7.heap/\(∀b∈fp,H' b=uk)/\W i m σ' H':=λ{σ7 H7} I7 n7=>by
   obtain⟨m',hm,w7⟩:=hN σ7 H7 n7
   refine⟨m',hm,i+1,σ7,H7,I7.Oo,T.keep _ _ _ st5 λb hb o e=>(I7.pin (b,o) (vy _ (vy _ (Lj hb e)))).1,λb hb=>?_,w7⟩
   obtain⟨o,e,d⟩:=T.obj _ _ st5 b hb
   exact(I7.pin (b,o) (vy _ (vy _ (Lj hb e)))).2.1
  cases f with
  |next=>obtain⟨σ7,H7,I7,n7⟩:=q7;exact again I7 n7
  |cont=>obtain⟨σ7,H7,I7,n7⟩:=q7;exact again I7 n7
  |brk=>obtain⟨σ7,H7,I7,q7⟩:=q7;exact⟨σ7,H7,I7.Oo,q7⟩
  |ret v=>obtain⟨x7,σ7,H7,I7,r7,q7⟩:=q7;exact⟨x7,σ7,H7,I7.Oo,r7,q7⟩
end
end L2
namespace L2
open PySem PySem.Spec PyProof.Rows
abbrev R2:=V->V->Hp->VK->Prop
def OpR(X:Cx)(f:W1->W1->Sem W1)(r:R2):Prop:=
 ∀(pins:Gc (uu×Obj)) (s:ur) (σ:St) (H:Hp) (x y:V) (v u:W1) (Q:VK),Inv X pins σ H s->RelV x v->RelV y u->r x y H Q->
  wpAny (model X.prog X.w) X.A (f v u) (EP X pins σ Q) X.xe s
def UnR(X:Cx)(f:W1->Sem W1)(r:V->Hp->VK->Prop):Prop:=
 ∀(pins:Gc (uu×Obj)) (s:ur) (σ:St) (H:Hp) (x:V) (v:W1) (Q:VK),Inv X pins σ H s->RelV x v->r x H Q->
  wpAny (model X.prog X.w) X.A (f v) (EP X pins σ Q) X.xe s
def HR(X:Cx)(f:W1)(r:Gc V->Hp->VK->Prop):Prop:=
 ∀(pins:Gc (uu×Obj)) (s:ur) (σ:St) (H:Hp) (xs:Gc V) (us:Gc W1) (Q:VK),Inv X pins σ H s->Vals xs us->r xs H Q->
  wpAny (model X.prog X.w) X.A (call f us) (EP X pins σ Q) X.xe s
noncomputable def tOp(r:R2)(ta tb:TE):TE:=λσ H Q=>ta σ H λx H1=>tb σ H1 λy H2=>r x y H2 Q
noncomputable def tUn(r:V->Hp->VK->Prop)(ta:TE):TE:=λσ H Q=>ta σ H λx H1=>r x H1 Q
noncomputable def rI(C:Int->Int->Prop)(g:Int->Int->V):R2:=λx y H Q=>∃i j,x=.int i/\y=.int j/\C i j/\Q (g i j) H
noncomputable def rI0(g:Int->Int->V):R2:=λx y H Q=>∃i j,x=.int i/\y=.int j/\Q (g i j) H
def rU(g:Int->V):V->Hp->VK->Prop:=λx H Q=>∃i,x=.int i/\Q (g i) H
section
variable{X:Cx}{a b c:vU}{ta tb tc:TE}{pos:Pos}
theorem oG(ha:PE X a ta)(hb:PE X b tb){pins:Gc (uu×Obj)}{s:ur}{σ:St}{H:Hp}{R:V->V->Hp->Prop}(I:Inv X pins σ H s)(h:ta σ H λx H1=>tb σ H1 λy H2=>R x y H2){Q:W1->ur->Prop}{f:W1->W1->Sem W1}(hf:∀v u s2 x y H2,Inv X pins σ H2 s2->RelV x v->RelV y u->R x y H2->wpAny (model X.prog X.w) X.A (f v u) Q X.xe s2):wpAny (model X.prog X.w) X.A (eval a X.env) (λv s₁=>wpAny (model X.prog X.w) X.A (eval b X.env) (λu s₂=>wpAny (model X.prog X.w) X.A (f v u) Q X.xe s₂) X.xe s₁) X.xe s:=by
 refine thn (ha pins s σ H _ I h) λv s1 ⟨x,H1,I1,r1,q1⟩=>?_
 refine thn (hb pins s1 σ H1 _ I1 q1) λu s2 ⟨y,H2,I2,r2,q2⟩=>?_
 exact hf v u s2 x y H2 I2 r1 r2 q2
theorem pE{op:Operator}{r:R2}(ho:OpR X (binaryOp op) r)(ha:PE X a ta)(hb:PE X b tb):PE X (.BinOp a op b pos) (tOp r ta tb):=by
 intro pins s σ H Q I h
 exact wpAny_BinOp (oG ha hb I h λv u s2 x y H2 I2 rx ry q=>ho pins s2 σ H2 x y v u Q I2 rx ry q)
theorem j8{op:UnaryOp}{r:V->Hp->VK->Prop}(ho:UnR X (unaryOp op) r)(ha:PE X a ta):PE X (.UnaryOp op a pos) (tUn r ta):=by
 intro pins s σ H Q I h
 exact UnaryOp_ (thn (ha pins s σ H _ I h) λv s1 ⟨x,H1,I1,r1,q1⟩=>ho pins s1 σ H1 x v Q I1 r1 q1)
theorem opI{f:W1->W1->Sem W1}{C:Int->Int->Prop}{g:Int->Int->Int}(rule:∀(i j:Int) (t u:Tok) (s:ur) (Q:W1->ur->Prop) (E:W1->ur->Prop),C i j->Q (.int (g i j) s.toks) {s with toks:=s.toks+1}->wpAny (model X.prog X.w) X.A (f (.int i t) (.int j u)) Q E s):OpR X f (rI C λi j=>.int (g i j)):=by
 intro pins s σ H x y v u Q I rx ry h
 obtain⟨i,j,rfl,rfl,hc,q⟩:=h
 obtain⟨t,rfl⟩:=rx
 obtain⟨t',rfl⟩:=ry
 exact rule i j t t' s _ _ hc ⟨.int (g i j),H,I.tok _,⟨_,rfl⟩,q⟩
theorem qX{f:W1->W1->Sem W1}{g:Int->Int->Int}(rule:∀(i j:Int) (t u:Tok) (s:ur) (Q:W1->ur->Prop) (E:W1->ur->Prop),Q (.int (g i j) s.toks) {s with toks:=s.toks+1}->wpAny (model X.prog X.w) X.A (f (.int i t) (.int j u)) Q E s):OpR X f (rI0 λi j=>.int (g i j)):=by
 intro pins s σ H x y v u Q I rx ry h
 obtain⟨i,j,rfl,rfl,q⟩:=h
 obtain⟨t,rfl⟩:=rx
 obtain⟨t',rfl⟩:=ry
 exact rule i j t t' s _ _ ⟨.int (g i j),H,I.tok _,⟨_,rfl⟩,q⟩
theorem lR{f:W1->W1->Sem W1}{g:Int->Int->vm}(rule:∀(i j:Int) (t u:Tok) (s:ur) (Q:W1->ur->Prop) (E:W1->ur->Prop),Q (.bool (g i j)) s->wpAny (model X.prog X.w) X.A (f (.int i t) (.int j u)) Q E s):OpR X f (rI0 λi j=>.bl (g i j)):=by
 intro pins s σ H x y v u Q I rx ry h
 obtain⟨i,j,rfl,rfl,q⟩:=h
 obtain⟨t,rfl⟩:=rx
 obtain⟨t',rfl⟩:=ry
 exact rule i j t t' s _ _ ⟨.bl (g i j),H,I,rfl,q⟩
def tM(i j:Int):Prop:=0<=j/\j<=1000000/\i.natAbs<2^64
def qO(i j:Int):Prop:=(-(2^64)<i/\i<2^64)\/(-(2^64)<j/\j<2^64)
theorem qO.ok{i j:Int}(h:qO i j):IntMulOk i j:=by
 rcases h with⟨h1,h2⟩|⟨h1,h2⟩
 .exact .of_left (intBits_le_64 h1 h2)
 .exact .of_right (intBits_le_64 h1 h2)
theorem jd:OpR X (binaryOp .Add) (rI0 λi j=>.int (i+j)):=qX λ_ _ _ _ _ _ _ q=>add_int q
theorem jM:OpR X (binaryOp .Sub) (rI0 λi j=>.int (i-j)):=qX λ_ _ _ _ _ _ _ q=>sub_int q
theorem dB:OpR X (binaryOp .Mult) (rI qO λi j=>.int (i*j)):=opI λ_ _ _ _ _ _ _ hc q=>mul_int q hc.ok
theorem ir:OpR X (binaryOp .Mod) (rI (λ_ j=>0<j) λi j=>.int (i % j)):=opI λi j _ _ _ _ _ hc q=>by
 have h1:(0:Int)<j:=hc
 exact mod_int' (by lia) (by rw[Int.fmod_eq_emod_of_nonneg i (by lia)];exact q)
theorem kS:OpR X (binaryOp .Pow) (rI tM λi j=>.int (i^j.toNat)):=opI λ_ _ _ _ _ _ _ hc q=>pow_int_small hc.1 hc.2.1 hc.2.2 q
theorem unI{f:W1->Sem W1}{g:Int->Int}(rule:∀(i:Int) (t:Tok) (s:ur) (Q:W1->ur->Prop) (E:W1->ur->Prop),Q (.int (g i) s.toks) {s with toks:=s.toks+1}->wpAny (model X.prog X.w) X.A (f (.int i t)) Q E s):UnR X f (rU λi=>.int (g i)):=by
 intro pins s σ H x v Q I rx h
 obtain⟨i,rfl,q⟩:=h
 obtain⟨t,rfl⟩:=rx
 exact rule i t s _ _ ⟨.int (g i),H,I.tok _,⟨_,rfl⟩,q⟩
theorem cR:UnR X (unaryOp .USub) (rU λi=>.int (-i)):=unI λ_ _ _ _ _ q=>neg_int q
end
section
variable{X:Cx}{a b c:vU}{ta tb tc:TE}{pos:Pos}
theorem kE{pins:Gc (uu×Obj)}{σ:St}{H:Hp}{s:ur}{Q:VK}{k k':vm}(I:Inv X pins σ H s)(q:Q (.bl k) H)(e:k=k'):EP X pins σ Q (.bool k') s:=by
 subst e
 exact⟨.bl k,H,I,rfl,q⟩
theorem i0:OpR X (compareOp .Lt) (rI0 λi j=>.bl (decide (i<j))):=lR λ_ _ _ _ _ _ _ q=>lt_int q
theorem jD:OpR X (compareOp .LtE) (rI0 λi j=>.bl (decide (i<=j))):=lR λ_ _ _ _ _ _ _ q=>le_int q
theorem oP:OpR X (compareOp .Gt) (rI0 λi j=>.bl (decide (j<i))):=lR λ_ _ _ _ _ _ _ q=>gt_int q
theorem pv:OpR X (compareOp .GtE) (rI0 λi j=>.bl (decide (j<=i))):=lR λ_ _ _ _ _ _ _ q=>ge_int q
theorem hV:OpR X (compareOp .IsNot) (λx y H Q=>y=.non/\Q (.bl (!decide (x=.non))) H):=by
 intro pins s σ H x y v u Q I rx ry h
 obtain⟨rfl,q⟩:=h
 cases ry
 refine isnot_none_gen (kE I q ?_)
 cases x<;>first
  |(cases rx;rfl)
  |(obtain⟨t,rfl⟩:=rx;rfl)
theorem eS{op:CmpOp}{r:R2}(ho:OpR X (compareOp op) r)(ha:PE X a ta)(hb:PE X b tb)(hm:behindInMarks op b=false):PE X (.Compare a [op] [b] pos) (tOp r ta tb):=by
 intro pins s σ H Q I h
 exact wpAny_Compare1 (oG ha hb I h λv u s2 x y H2 I2 rx ry q=>ho pins s2 σ H2 x y v u Q I2 rx ry q) hm
noncomputable def lA(t:TE):TT:=λσ H Q=>t σ H λx H'=>∃k,x=.bl k/\Q k H'
theorem fm{op:CmpOp}{r:R2}(ho:OpR X (compareOp op) r)(ha:PE X a ta)(hb:PE X b tb)(hm:behindInMarks op b=false):PT X (.Compare a [op] [b] pos) (lA (tOp r ta tb)):=by
 intro pins s σ H Q I h
 refine wpAny_isTrue_Compare1 (thn (ha pins s σ H _ I h) λv s1 ⟨x,H1,I1,r1,q1⟩=>thn (hb pins s1 σ H1 _ I1 q1) λu s2 ⟨y,H2,I2,r2,q2⟩=>
  thn (ho pins s2 σ H2 x y v u _ I2 r1 r2 q2) λc s3 ⟨z,H3,I3,r3,k,e,q3⟩=>?_) hm
 subst e
 cases r3
 exact yA ⟨H3,I3,q3⟩
noncomputable def c7(r r':R2)(ta tb tc:TE):TE:=λσ H Q=>ta σ H λx H1=>tb σ H1 λy H2=>r x y H2 λz H3=>∃k,z=.bl k/\
 (if k=true then tc σ H3 λw' H4=>r' y w' H4 Q else Q (.bl false) H3)
theorem av{op op':CmpOp}{r r':R2}(ho:OpR X (compareOp op) r)(ho':OpR X (compareOp op') r')(ha:PE X a ta)(hb:PE X b tb)(hc:PE X c tc)(hm:lastMarks [op,op'] [b,c]=false:=by with_unfolding_all rfl):PE X (.Compare a [op,op'] [b,c] pos) (c7 r r' ta tb tc):=by
 intro pins s σ H Q I h
 refine Compare_chain (thn (ha pins s σ H _ I h) λv s1 ⟨x,H1,I1,r1,q1⟩=>chain_link (thn (hb pins s1 σ H1 _ I1 q1) λu s2 ⟨y,H2,I2,r2,q2⟩=>
  thn (ho pins s2 σ H2 x y v u _ I2 r1 r2 q2) λd s3 ⟨z,H3,I3,r3,k,e,q3⟩=>?_)) hm
 subst e
 cases r3
 refine yA ?_
 cases k with
 |false=>exact ite_ff ⟨.bl false,H3,I3,rfl,q3⟩
 |true=>exact ite_tt (chain_last (thn (hc pins s3 σ H3 _ I3 q3) λw' s4 ⟨z',H4,I4,r4,q4⟩=>ho' pins s4 σ H4 y z' u w' Q I4 r2 r4 q4))
theorem R5:(sizeLine:Nat)<2^63:=by rw[sizeLine_eq];decide
theorem W9:OpR X (binaryOp .Add) (λx y H Q=>∃i j,x=.str i/\y=.str j/\i.length+j.length<=sizeLine/\Q (.str (i++j)) H):=by
 intro pins s σ H x y v u Q I rx ry h
 obtain⟨i,j,rfl,rfl,hz,q⟩:=h
 obtain⟨t,rfl⟩:=rx
 obtain⟨t',rfl⟩:=ry
 exact add_str (λt' tk=>⟨.str (i++j),H,I.tok _,⟨_,rfl⟩,q⟩) hz
theorem vals1{x:V}{us:Gc W1}(r:Vals [x] us):∃u,us=[u]/\RelV x u:=by
 cases r with
 |cons r1 r2=>cases r2;exact⟨_,rfl,r1⟩
theorem vals2{x y:V}{us:Gc W1}(r:Vals [x,y] us):∃u w',us=[u,w']/\RelV x u/\RelV y w':=by
 cases r with
 |cons r1 r2=>
  cases r2 with
  |cons r3 r4=>cases r4;exact⟨_,_,rfl,r1,r3⟩
theorem bp:HR X (.builtin "abs") (λxs H Q=>∃i,xs=[.int i]/\Q (.int (if i<0 then-i else i)) H):=by
 intro pins s σ H xs us Q I r h
 obtain⟨i,rfl,q⟩:=h
 obtain⟨u,rfl,t,rfl⟩:=vals1 r
 exact call_abs_int λu tk=>⟨.int (if i<0 then-i else i),H,I.tok _,⟨_,rfl⟩,q⟩
theorem X0(hc:X.calm=true):HR X (.builtin "min") (λxs H Q=>∃i j,xs=[.int i,.int j]/\Q (.int (if j<i then j else i)) H):=by
 intro pins s σ H xs us Q I r h
 obtain⟨i,j,rfl,q⟩:=h
 obtain⟨u,w',rfl,⟨t,rfl⟩,⟨t',rfl⟩⟩:=vals2 r
 refine min_two_ints (I.ok.hd hc) λh' tk k=>⟨_,H,I.kept k,?_,q⟩
 by_cases hj:j<i
 .rw[va hj,va hj];exact⟨_,rfl⟩
 .rw[vf hj,vf hj];exact⟨_,rfl⟩
theorem US:HR X (.type "int") (λxs H Q=>(∃i,xs=[.int i]/\Q (.int i) H)\/∃k,xs=[.bl k]/\Q (.int (if k then 1 else 0)) H):=by
 intro pins s σ H xs us Q I r h
 rcases h with⟨i,rfl,q⟩|⟨k,rfl,q⟩
 .obtain⟨u,rfl,t,rfl⟩:=vals1 r
  exact call_int_int ⟨.int i,H,I,⟨_,rfl⟩,q⟩
 .obtain⟨u,rfl,r1⟩:=vals1 r
  cases r1
  exact call_int_bool ⟨.int (if k then 1 else 0),H,I.tok _,⟨_,rfl⟩,q⟩
theorem UL:HR X (.type "str") (λxs H Q=>∃i,xs=[.int i]/\i.natAbs.log2<1920/\Q (.str (toString i)) H):=by
 intro pins s σ H xs us Q I r h
 obtain⟨i,rfl,hz,q⟩:=h
 obtain⟨u,rfl,t,rfl⟩:=vals1 r
 exact PySem.P.str_of_int hz ⟨.str _,H,I.tok _,⟨_,rfl⟩,q⟩
end
end L2
namespace L2
open PySem PySem.Spec PyProof.Rows
structure nk(h:ve)(x dx C:uu)(mA:Str->uo W1):Prop where
 obj:h.get? x=Fk (ABH C dx)
 ns:h.Ns1 dx mA
 ne:dx≠x
theorem Xi{h:ve}{dx:uu}{mA:Str->uo W1}(n:h.Ns1 dx mA):∃od,h.get? dx=Fk od/\∀name,ABX name od=Fk (mA name):=by
 obtain⟨o,es,ep,ho,hd,hk,_,hm⟩:=n
 refine⟨o,ho,λname=>?_⟩
 have e:=hm name
 unfold nsFind findBy at e
 rw[<-Array.find?_toList]at e
 unfold ABX
 rw[hd]
 dsimp only
 split
 .rename_i y q
  rw[q]at e
  exact congrArg Fk e
 .rename_i q
  rw[q]at e
  have a:es.toList.any (·.refKey)=false:=by
   rw[List.any_eq_false]
   intro y hy
   obtain⟨z,t,hkey⟩:=hk y (Array.mem_toList_iff.mp hy)
   simp[DictEntry.refKey,hkey]
  have a':¬es.toList.any (·.refKey)=true:=by rw[a];exact vz
  rw[vf a']
  exact congrArg Fk e
theorem nk.look{h:ve}{x dx C:uu}{mA:Str->uo W1}(I:nk h x dx C mA):∃od,PySem.W.InstAt h x (ABH C dx) C (Fk od)/\∀name,ABX name od=Fk (mA name):=
 let⟨od,ho,hl⟩:=Xi I.ns
 ⟨od,⟨I.obj,rfl,rfl,ho⟩,hl⟩
section
variable{prog:vR}{w:vi}{A:vj}{E:W1->ur->Prop}{s:ur}{K:Wp}{x dx C f:uu}{mA:Str->uo W1}{name:Str}{v:W1}
end
section
variable{P:vR}{w:vi}{H H':Hp}{h h':ve}{a C dx:uu}{fs fs':Gc (Str×V)}
theorem fJ(hok:HOk P w H h)(e:H a=Fk (.ins C dx fs)):∃mA,nk h a dx C mA/\(∀f,mz (fs.lookup f) (mA f))/\PySem.Within mA (fs.map (·.1))/\fs.length<=1000/\H dx=Fk (.own a):=by
 obtain⟨d,z,ne,ob,mA,n,r,q⟩:=(show Fo P w H h a (.ins C dx fs)from hok a _ e)
 exact⟨mA,⟨ob,n,ne⟩,r,q,z,d⟩
end
structure Cls(K:Wp)(C:uu):Prop where
 pg:PySem.W.plainGet K C Str.empty=true
 hd:PySem.W.hasDictIn K C=true
 po:PySem.W.plainOver K C=true
 sa:zL K (.ref C) "__setattr__"=Fk (Fk (.builtin "object.__setattr__"))
theorem Cls.get{K:Wp}{C:uu}(c:Cls K C)(f:Str):PySem.W.plainGet K C f=true:=c.pg
structure Con(K:Wp)(C:uu)(f:Str)(v:V)(u:W1):Prop where
 at_:zL K (.ref C) f=Fk (Fk u)
 rel:RelV v u
 get:PySem.W.specialIn K u "__get__"=Fk uk
 cp:PySem.W.copiedNames.contains f=false
structure Meth(K:Wp)(C:uu)(m:Str)(f:uu):Prop where
 at_:zL K (.ref C) m=Fk (Fk (.ref f))
 fn:PySem.W.isFn K (.ref f)=true
 kp:xY K (.ref f)=true
section
variable{X:Cx}{pins:Gc (uu×Obj)}{σ:St}{H:Hp}{s:ur}{a C dx:uu}{fs:Gc (Str×V)}{f:Str}{v:V}{A:vj}{E:W1->ur->Prop}
end
section
variable{X:Cx}{o e value:vU}{f:Str}{pos pos' tpos:Pos}{ta tv:TE}
end
section
variable{X:Cx}{pins:Gc (uu×Obj)}{σ:St}{H:Hp}{s:ur}{A:vj}{E:W1->ur->Prop}{Q:W1->ur->Prop}{c:W1}{b:vm}
inductive Xc(K:Wp)(H:Hp):V->W1->Prop where
 |non:Xc K H .non (.type "NoneType")
 |bl (x:vm):Xc K H (.bl x) (.type "bool")
 |int (i:Int):Xc K H (.int i) (.type "int")
 |str (x:Str):Xc K H (.str x) (.type "str")
 |flt (x:UInt64):Xc K H (.flt x) (.type "float")
 |lst {a:uu} {xs:Gc V} (e:H a=Fk (.lst xs)):Xc K H (.ref a) (.type "list")
 |frz {a:uu} {o:Obj} {xs:Gc V} (e:H a=Fk (.frz o (.lst xs))):Xc K H (.ref a) (.type "list")
 |tup {a:uu} {xs:Gc V} (e:H a=Fk (.tup xs)):Xc K H (.ref a) (.type "tuple")
 |dK {a:uu} {kvs:Gc (Key×V)} (e:H a=Fk (.dK kvs)):Xc K H (.ref a) (.type "dict")
 |dT {a:uu} {kvs:Gc (Gc Key×V)} (e:H a=Fk (.dT kvs)):Xc K H (.ref a) (.type "dict")
 |ins {a C dx:uu} {fs:Gc (Str×V)} (e:H a=Fk (.ins C dx fs)) (cl:Cls K C) (ha:zL K (.ref C) "__class__"=Fk (Fk (.builtin "object.__class__")))
   (hn:PySem.W.specialIn K (.builtin "object.__class__") "__get__"=Fk (Fk (.builtin "getset_descriptor.__get__"))) (htk:PySem.W.takesIn K (.builtin "object.__class__")=Fk true)
   (hm:PySem.W.mroIn K C (.type "object")=Fk true):Xc K H (.ref a) (.ref C)
theorem IM{x:V}{u t:W1}(I:Inv X pins σ H s)(rx:RelV x u)(ty:Xc X.K H x t)(e:xn X.K t c=Fk b)(h:∀tk,Q (.bool b) {s with toks:=tk}):wpAny (model X.prog X.w) A (call (.builtin "isinstance") [u,c]) Q E s:=by
 cases ty with
 |non=>cases (show u=wW from rx);exact wY PySem.W.kitx_none I.kIn zc e (λz=>nomatch z) h
 |bl y=>cases (show u=AA4 y from rx);exact wY PySem.W.kitx_bool I.kIn zc e (λz=>nomatch z) h
 |int i=>obtain⟨t,q⟩:=(show∃t,u=AAv i t from rx);cases q;exact wY PySem.W.kitx_int I.kIn zc e (λz=>nomatch z) h
 |str y=>obtain⟨t,q⟩:=(show∃t,u=AAw y t from rx);cases q;exact wY PySem.W.kitx_str I.kIn zc e (λz=>nomatch z) h
 |flt y=>obtain⟨t,q⟩:=(show∃t,u=Value.float y t from rx);cases q;exact wY PySem.W.kitx_float I.kIn zc e (λz=>nomatch z) h
 | @lst a xs ea=>
   cases (show u=wN a from rx)
   obtain⟨_,_,n,_,h1⟩:=(show Fo X.prog X.w H s.heap a (.lst xs)from I.hok a _ ea)
   exact wY PySem.W.kitx_list I.kIn ⟨_,h1,rfl⟩ e (λz=>nomatch z) h
 | @frz a ob xs ea=>
   cases (show u=wN a from rx)
   obtain⟨_,_,_,n,_,h1⟩:=(show Fo X.prog X.w H s.heap a (.frz ob (.lst xs))from I.hok a _ ea)
   exact wY PySem.W.kitx_list I.kIn ⟨_,h1,rfl⟩ e (λz=>nomatch z) h
 | @tup a xs ea=>
   cases (show u=wN a from rx)
   obtain⟨_,_,_,p⟩:=(show Fo X.prog X.w H s.heap a (.tup xs)from I.hok a _ ea)
   obtain⟨o,h1,h2,_⟩:=p
   exact wY AB9 I.kIn ⟨o,h1,h2⟩ e (λz=>nomatch z) h
 | @dK a kvs ea=>
   cases (show u=wN a from rx)
   obtain⟨_,_,vs,_,p⟩:=(show Fo X.prog X.w H s.heap a (.dK kvs)from I.hok a _ ea)
   obtain⟨o,es,ep,h1,h2,_⟩:=p
   exact wY PySem.W.kitx_dict I.kIn ⟨o,h1,h2.1⟩ e (λz=>nomatch z) h
 | @dT a kvs ea=>
   cases (show u=wN a from rx)
   obtain⟨_,_,xs,_,o,es,ep,h1,h2,_⟩:=(show Fo X.prog X.w H s.heap a (.dT kvs)from I.hok a _ ea)
   exact wY PySem.W.kitx_dict I.kIn ⟨o,h1,h2.1⟩ e (λz=>nomatch z) h
 | @ins a C dx fs ea cl ha hn htk hm=>
   cases (show u=wN a from rx)
   obtain⟨mA,O,_⟩:=fJ I.hok ea
   obtain⟨od,J,_⟩:=O.look
   exact wY (PySem.W.kitx_own (cl.get _) cl.hd ha hn htk hm) I.kIn J e (λz=>nomatch z) h
end
end L2
namespace L2
open PySem PySem.Spec PyProof.Rows
structure JS(k:Nat)(A:vj):Prop where
 hd:A.handled=uk
 dp:A.depth+3*k+5<recursionLimit
 un:A.units+16*k+200<cLine
theorem JS.mono{j k:Nat}{A:vj}(r:JS k A)(h:j<=k):JS j A:=⟨r.hd,by have:=r.dp;lia,by have:=r.un;lia⟩
theorem JS.deeper{k:Nat}{A:vj}(r:JS (k+1) A)(env:Env):JS k (A.deeper env):=
 ⟨r.hd,by have:=r.dp;show A.depth+1+3*k+5<_;lia,by have:=r.un;show A.units+3+16*k+200<_;lia⟩
theorem JS.depth{k:Nat}{A:vj}(r:JS k A):A.depth<recursionLimit:=by have:=r.dp;lia
noncomputable def rQ:TA:=λ_ H Q=>Q [] H
noncomputable def ij(ta:TE)(tr:TA):TA:=λσ H Q=>ta σ H λx H1=>tr σ H1 λxs H2=>Q (x::xs) H2
section
variable{X:Cx}{e:vU}{es:Gc vU}{te:TE}{t:TA}{pos:Pos}
theorem X8:PA X [] rQ:=λ_ _ _ _ H Q I h=>yZ ⟨[],H,I,.nil,h⟩
theorem SQ(ha:PE X e te)(hr:PA X es t)(hs:vP (e::es) X.env=(false,eval e X.env)::vP es X.env:=by rfl):PA X (e::es) (ij te t):=by
 intro pos pins s σ H Q I h
 rw[hs]
 show wpAny _ _ (spliced ((false,eval e X.env)::backTo pos (vP es X.env))) _ _ s
 refine yQ (thn (ha pins s σ H _ I h) λu s1 ⟨x,H1,I1,r1,q1⟩=>?_)
 exact thn (hr pos pins s1 σ H1 _ I1 q1) λus s2 ⟨xs,H2,I2,r2,q2⟩=>⟨x::xs,H2,I2,.cons r1 r2,q2⟩
noncomputable def uL(t:TA):TE:=λσ H Q=>t σ H λxs H1=>xs.length<=sizeLine/\∀p,H1 p=uk->Q (.ref p) (upd H1 p (.tup xs))
noncomputable def se(t:TA):TE:=λσ H Q=>t σ H λxs H1=>xs.length<=sizeLine/\∀p,H1 p=uk->Q (.ref p) (upd H1 p (.lst xs))
theorem ju{x1}(h:PA X es t):PE X (.Tuple es x1 pos) (uL t):=by
 intro pins s σ H Q I hq
 refine wpAny_Tuple_spliced (thn (h pos pins s σ H _ I hq) λus s1 ⟨xs,H1,I1,r,z,q⟩=>⟨by rw[<-r.length];exact z,?_⟩)
 have hf:H1 s1.heap.objs.size=none:=I1.hok.fresh (u4 _)
 refine⟨.ref s1.heap.objs.size,upd H1 s1.heap.objs.size (.tup xs),I1.laid (t':=s1.toks) (λb u e=>tz _ e) (u4 _) ?_,rfl,q _ hf⟩
 exact⟨z,us,r,⟨_,vM _ rfl,rfl,_,rfl⟩⟩
theorem kq(h:PA X es t):PE X (.List es pos) (se t):=by
 intro pins s σ H Q I hq
 refine wpAny_List_spliced (thn (h pos pins s σ H _ I hq) λus s1 ⟨xs,H1,I1,r,z,q⟩=>⟨by rw[<-r.length];exact z,?_⟩)
 have hf:H1 s1.heap.objs.size=none:=I1.hok.fresh (u4 _)
 refine⟨.ref s1.heap.objs.size,upd H1 s1.heap.objs.size (.lst xs),I1.laid (t':=s1.toks) (λb u e=>tz _ e) (u4 _) ?_,rfl,q _ hf⟩
 exact⟨z,us,0,r,vM _ rfl⟩
end
abbrev Sp:=Gc V->Hp->VK->XK->Prop
abbrev CXT:=Gc Env->Hp->ur->XK->W1->ur->Prop
structure jW(P:vR)(w:vi)(K:Wp)(mg:Str->uo W1)(base:ve)(A:vj)(outer:Gc Env)(s:ur)(H:Hp):Prop where
 frames:A.frames=Fk outer
 mod:Mod K mg base
 bs:∀b o,base.get? b=Fk o->s.heap.get? b=Fk o/\H b=uk
 bsz:base.objs.size<=s.heap.objs.size
 V8:s.heap.FunFrames base outer
 frf:∀b∈frs outer,H b=uk
 hok:HOk P w H s.heap
 bare:zF s.gens
def CE(outer:Gc Env)(P:vR)(w:vi)(H:Hp)(s:ur)(Q:VK)(u:W1)(s':ur):Prop:=
 ∃v H',s'.os=s.os/\zF s'.gens/\Un (frs outer) [] H H' s.heap s'.heap/\HOk P w H' s'.heap/\RelV v u/\Q v H'
def CR(CX:CXT)(outer:Gc Env)(P:vR)(w:vi)(H:Hp)(s:ur)(Q:VK)(E:XK)(r:Result)(s':ur):Prop:=
 match r with
 | .ok (.ret u)=>CE outer P w H s Q u s'
 | .ok _=>xt
 | .error e=>CX outer H s E e s'
structure WH(P:vR)(w:vi)(K:Wp)(mg:Str->uo W1)(base:ve)(CX:CXT)(k:Nat)(f:uu)(fd:xH)(ps:Gc Str)(sp:Sp):Prop where
 len:∀vs H Q E,sp vs H Q E->vs.length=ps.length
 run:∀(A:vj) (outer:Gc Env) (s:ur) (H:Hp) (args:Args) (us:Gc W1) (vs:Gc V) (Q:VK) (E:XK),JS k A->jW P w K mg base A outer s H->BindsTo s fd args (ps.zip us)->Vals vs us->sp vs H Q E->
  codeAny (model P w) A (.call (.ref f) args) (CR CX outer P w H s Q E) s
section
variable{X:Cx}{pins:Gc (uu×Obj)}{σ:St}{H:Hp}{s s':ur}
theorem Inv.ia(I:Inv X pins σ H s):jW X.prog X.w X.K X.mg X.base X.A X.stack s H:=
 ⟨I.ok.frames,I.ok.mod,I.bs,uz I.ok.bsz I.sz,I.stack,I.Vh,I.hok,I.bare⟩
theorem Inv.after{Q:VK}{u:W1}(I:Inv X pins σ H s)(h:CE X.stack X.prog X.w H s Q u s'):EP X pins σ Q u s':=by
 obtain⟨v,H',os,bare,un,hok,r,q⟩:=h
 obtain⟨hh,g,d,t,os'⟩:=s'
 obtain rfl:os'=s.os:=os
 exact⟨v,H',I.call (h':=hh) (g':=g) (d':=d) (t':=t) (ch:=[]) un hok bare (λb z=>absurd z (by simp)),r,q⟩
end
noncomputable def fE(sp:Sp)(dvs:Gc V)(E:XK)(t:TA):TE:=λσ H Q=>t σ H λvs H1=>sp (vs++dvs) H1 Q E
def Binds(K:Wp)(fd:xH)(ps:Gc Str)(ds:Gc W1):Prop:=
 ∀(s:ur) (us:Gc W1),K.In s.heap->(us++ds).length=ps.length->BindsTo s fd ⟨us,[]⟩ (ps.zip (us++ds))
theorem Binds.all{K:Wp}{fd:xH}{ps:Gc Str}(h:∀us:Gc W1,us.length=ps.length->bindArgs fd ⟨us,[]⟩=pure (ps.zip us)):Binds K fd ps []:=λs us _ hl=>by
 rw[xh]at hl⊢
 exact .of_eq (h us hl)
def Passes(CX:CXT)(X:Cx)(E:XK):Prop:=∀(pins:Gc (uu×Obj)) (σ:St) (H:Hp) (s:ur) (e:W1) (s':ur),Inv X pins σ H s->CX X.stack H s E e s'->X.xe e s'
section
variable{X:Cx}{CX:CXT}{k:Nat}{f C:uu}{fd:xH}{ps:Gc Str}{sp:Sp}{dvs:Gc V}{ds:Gc W1}{E:XK}{x m:Str}{p pos apos:Pos}{e o:vU}{es:Gc vU}{ta:TE}{t:TA}
theorem kT{pins:Gc (uu×Obj)}{σ:St}{H:Hp}{s:ur}{Q:VK}{us:Gc W1}{vs:Gc V}(F:WH X.prog X.w X.K X.mg X.base CX k f fd ps sp)(hr:JS k X.A)(hb:Binds X.K fd ps ds)(hd:Vals dvs ds)(hx:Passes CX X E)(I:Inv X pins σ H s)(r:Vals vs us)(h:sp (vs++dvs) H Q E):wpAny (model X.prog X.w) X.A (call (.ref f) us) (EP X pins σ Q) X.xe s:=by
 have r2:Vals (vs++dvs) (us++ds):=r.append hd
 have hl:(us++ds).length=ps.length:=by rw[<-r2.length];exact F.len _ _ _ _ h
 refine AAO (yq (F.run X.A X.stack s H ⟨us,[]⟩ (us++ds) (vs++dvs) Q E hr I.ia (hb s us I.kIn hl) r2 h) λr s' hq=>?_)
 cases r with
 |error e=>exact hx pins σ H s e s' I hq
 |ok fl=>
  cases fl with
  |ret u=>exact I.after hq
  |next=>exact wt hq
  |brk=>exact wt hq
  |cont=>exact wt hq
theorem dJ(F:WH X.prog X.w X.K X.mg X.base CX k f fd ps sp)(hr:JS k X.A)(hg:Gl X x)(hm:X.mg x=Fk (.ref f))(hk:xY X.K (.ref f)=true)(hb:Binds X.K fd ps ds)(hd:Vals dvs ds)(hx:Passes CX X E)(ha:PA X (e::es) t)(hdb:(x==("__debug__":Str))=false:=by decide)(he:vP (e::es) X.env=(false,eval e X.env)::vP es X.env:=by rfl)(hpl:(backTo pos (vP es X.env)).any (·.1)=false:=by rfl):PE X (.Call (.Name x p) (e::es) [] pos) (fE sp dvs E t):=by
 intro pins s σ H Q I h
 refine wL (Pj I hg hm ?_ hdb)
 refine AAP (h₀:=X.base) I.ok.mod.kin hk (thn (ha pos pins s σ H _ I h) λus s1 ⟨vs,H1,I1,r,q⟩=>⟨I1.kIn,?_⟩) he hpl
 exact kT F hr hb hd hx I1 r q
structure Mk(K:Wp)(C f:uu):Prop where
 makes:PySem.W.makesIn K C=true
 init:zL K (.ref C) "__init__"=Fk (Fk (.ref f))
 fn:PySem.W.isFn K (.ref f)=true
 kp:xY K (.ref C)=true
end
section
variable{X:Cx}{CX:CXT}{k:Nat}{f C:uu}{fd:xH}{ps ks:Gc Str}{sp:Sp}{E:XK}{x m:Str}{p pos apos kpos:Pos}{e o:vU}{es:Gc vU}{kws:Gc AAg}{te ta:TE}{t tk:TA}{nm:uo Str}
structure rE(K:Wp)(fd:xH)(ps ks:Gc Str)(g:Gc W1->Gc W1->Gc W1)(gV:Gc V->Gc V->Gc V):Prop where
 to:∀(s:ur) (us ws:Gc W1),K.In s.heap->(g us ws).length=ps.length->BindsTo s fd ⟨us,ks.zip ws⟩ (ps.zip (g us ws))
 rel:∀{vs:Gc V} {us:Gc W1} {zs:Gc V} {ws:Gc W1},Vals vs us->Vals zs ws->Vals (gV vs zs) (g us ws)
variable{g:Gc W1->Gc W1->Gc W1}{gV:Gc V->Gc V->Gc V}
end
structure AQ(N P:Gc Str)(sc:wX):Prop where
 kind:sc.kind=.function
 co:sc.isCoroutine=false
 gen:sc.isGenerator=false
 nd:N.Nodup
 pre:N.take P.length=P
 par:∀x∈P,sc.names.lookup x=Fk .local\/sc.names.lookup x=Fk .cell
 jt:∀y∈sc.names,y.2≠.free
theorem U1{kindOf:Str->uo yK}{x:Str}:∀{binds:Gc (Str×W1)} {m:Str->uo W1},(∀v,(x,v)∉binds)->bindL kindOf binds m x=m x
 | [],_,_=>rfl
 |(n,v)::r,m,h=>by
  unfold bindL
  rw[U1 λw hw=>h w (uv _ hw)]
  split
  .have:x≠n:=by rintro rfl;exact h v vA
   simp[this]
  .rfl
theorem U0{kindOf:Str->uo yK}{x:Str}:∀{binds:Gc (Str×W1)} {m:Str->uo W1},(∀v,(x,v)∉binds)->bindC kindOf binds m x=m x
 | [],_,_=>rfl
 |(n,v)::r,m,h=>by
  unfold bindC
  rw[U0 λw hw=>h w (uv _ hw)]
  split
  .rfl
  .have:x≠n:=by rintro rfl;exact h v vA
   simp[this]
theorem Uo{kindOf:Str->uo yK}{x:Str}{v:W1}:∀{P:Gc Str} {vs:Gc W1} {i:Nat} {m:Str->uo W1},P.Nodup->P[i]?=Fk x->vs[i]?=Fk v->kindOf x=Fk .local->bindL kindOf (P.zip vs) m x=Fk v
 | [],_,_,_,_,h,_,_=>by simp at h
 |_::_,[],_,_,_,_,h,_=>by simp at h
 |p::P,w::vs,0,m,nd,h1,h2,hk=>by
  simp at h1 h2;subst h1;subst h2
  show bindL kindOf ((p,w)::P.zip vs) m p=_
  unfold bindL
  rw[U1 λv hv=>(xP.mp nd).1 (xQ hv).1,va hk]
  simp
 |p::P,w::vs,i+1,m,nd,h1,h2,hk=>by
  show bindL kindOf ((p,w)::P.zip vs) m x=_
  unfold bindL
  exact Uo (i:=i) (xP.mp nd).2 (by simpa using h1) (by simpa using h2) hk
theorem Ui{kindOf:Str->uo yK}{x:Str}{v:W1}:∀{P:Gc Str} {vs:Gc W1} {i:Nat} {m:Str->uo W1},P.Nodup->P[i]?=Fk x->vs[i]?=Fk v->kindOf x≠Fk .local->bindC kindOf (P.zip vs) m x=Fk v
 | [],_,_,_,_,h,_,_=>by simp at h
 |_::_,[],_,_,_,_,h,_=>by simp at h
 |p::P,w::vs,0,m,nd,h1,h2,hk=>by
  simp at h1 h2;subst h1;subst h2
  show bindC kindOf ((p,w)::P.zip vs) m p=_
  unfold bindC
  rw[U0 λv hv=>(xP.mp nd).1 (xQ hv).1,vf hk]
  simp
 |p::P,w::vs,i+1,m,nd,h1,h2,hk=>by
  show bindC kindOf ((p,w)::P.zip vs) m x=_
  unfold bindC
  exact Ui (i:=i) (xP.mp nd).2 (by simpa using h1) (by simpa using h2) hk
noncomputable def start(N:Gc Str)(vs:Gc V):St:=vs.map Fk++vC (N.length-vs.length) uk
noncomputable def OT(CX:CXT)(P:vR)(w:vi)(K:Wp)(mg:Str->uo W1)(base:ve)(N:Gc Str)(qual:Str)(scope:wX)(f:uu)(cd:W1)(A:vj)(outer:Gc Env)(s:ur)(H:Hp)(E:XK):Cx where
 prog:=P
 w:=w
 K:=K
 mg:=mg
 base:=base
 A:=A.deeper (envOfC qual scope s.heap.objs.size f cd)
 N:=N
 s₀:=s
 H₀:=H
 env:=envOfC qual scope s.heap.objs.size f cd
 outer:=outer
 stack:=envOfC qual scope s.heap.objs.size f cd::outer
 ex:=[]
 calm:=true
 fn:=λ_=>true
 pn:=[]
 xe:=λe s'=>wpAny (model P w) (A.deeper (envOfC qual scope s.heap.objs.size f cd)) (leaving (envOfC qual scope s.heap.objs.size f cd) e) (λ_ s''=>CX outer H s E e s'') (λe' s''=>CX outer H s E e' s'') s'
theorem O4{sc:wX}{n:Nat}{x:Str}(h:sc.names.lookup x=Fk .cell):∃c,(cellsFrom n sc.names []).lookup x=Fk c:=by
 have q:=zM sc.names n [] (.inl h)
 exact Option.isSome_iff_exists.mp q
theorem UO{CX:CXT}{P:vR}{w:vi}{K:Wp}{mg:Str->uo W1}{base:ve}{N ps:Gc Str}{qual:Str}{scope:wX}{f:uu}{cd:W1}{A:vj}{outer:Gc Env}{s s1:ur}{H:Hp}{E:XK}{us:Gc W1}{vs:Gc V}(S:AQ N ps scope)(hd:A.handled=uk)(e0:jW P w K mg base A outer s H)(hl:vs.length=ps.length)(r:Vals vs us)(x:InCallC s s.heap.objs.size (bindL (envOfC qual scope s.heap.objs.size f cd).kindOf (ps.zip us) λ_=>uk) (cellsFrom (s.heap.objs.size+1) scope.names []) (bindC (envOfC qual scope s.heap.objs.size f cd).kindOf (ps.zip us) λ_=>uk) s1):Inv (OT CX P w K mg base N qual scope f cd A outer s H E) [] (start N vs) H s1:=by
 have hpl:ps.length<=N.length:=by have:=congrArg AAh S.pre;rw[yr]at this;lia
 obtain⟨h1,tk,rfl,hk⟩:=x.done
 have noA:∀b:uu,b∉(OT CX P w K mg base N qual scope f cd A outer s H E).ex:=λb z=>absurd (show b∈([]:Gc uu)from z) (by simp)
 refine⟨⟨e0.mod,S.kind,rfl,rfl,u4 _,λy z c h1 h2=>?_,λy hy=>?_,λy c _ h=>?_,λ_=>hd,ABY e0.frames,.inr ⟨rfl,rfl⟩,λb z=>absurd z (noA b),e0.bs,e0.bsz,λb _ _=>noA b,λb z=>absurd z (noA b),e0.V8,e0.frf⟩,
  rfl,e0.bare,Un.kept hk,⟨_,x.toInCall.ns,λi y v h1 h2 h3=>?_⟩,λy c h=>⟨_,x.cell y c h⟩,e0.hok.fresh (u4 _),λy c h=>?_,λp hp=>absurd (show p∈([]:Gc (uu×Obj))from hp) (by simp),e0.hok.kept hk,?_⟩
 .exact name_of_addr x.apart (vv h1) (vv h2)
 .have hy:scope.names.lookup y=Fk .cell\/scope.names.lookup y=Fk .free:=hy
  rcases hy with hy|hy
  .exact O4 hy
  .exact absurd rfl (S.jt _ (vv hy))
 .exact AAF (x.above y c (vv h))
 .have hi:i<vs.length:=by
   unfold start at h2
   by_cases hi:i<vs.length
   .exact hi
   .rw[vo (by simpa using hi)]at h2
    rw[AAy]at h2
    split at h2<;>cases h2
  have ha:vs[i]?=Fk v:=by
   unfold start at h2
   rw[uq (by simpa using hi),vG]at h2
   cases e:vs[i]? with
   |none=>rw[e]at h2;cases h2
   |some a=>rw[e]at h2;cases h2;rfl
  obtain⟨u,hu,rv⟩:=r.get ha
  have hp:ps[i]?=Fk y:=by
   rw[<-S.pre,List.getElem?_take_of_lt (by lia)];exact h1
  have ndP:ps.Nodup:=by rw[<-S.pre];exact S.nd.sublist (List.take_sublist _ _)
  refine⟨u,rv,?_⟩
  rcases S.par y (vL hp)with k|k
  .exact .inl ⟨k,Uo ndP hp hu k⟩
  .obtain⟨c,e⟩:=O4 (n:=s.heap.objs.size+1) k
   refine .inr ⟨.inl k,c,e,?_⟩
   have q:=x.cell y c e
   rw[Ui ndP hp hu (by show scope.names.lookup y≠_;rw[k];decide)]at q
   exact q
 .exact e0.hok.fresh (AAF (x.above y c (vv h)))
 .unfold start
  show _=N.length
  rw[wM,vW,List.length_replicate]
  lia
theorem gh{CX:CXT}{P:vR}{w:vi}{K:Wp}{mg:Str->uo W1}{base:ve}{k:Nat}{f:uu}{name qual:Str}{params:AAM}{body:Gc vh}{scope:wX}{dV kV doc pm cdv ct oc:W1}{an od:uo uu}{osl:wK (uo W1)}{N ps:Gc Str}{sp:Sp}(lk:K.lookup f=Fk ⟨oc,od,.func (yS name qual params body scope dV kV doc pm an cdv ct),osl⟩)(hcd:AAQ K cdv qual=true)(S:AQ N ps scope)(len:∀vs H Q E,sp vs H Q E->vs.length=ps.length)(hbody:∀(A:vj) (outer:Gc Env) (s:ur) (H:Hp) (vs:Gc V) (Q:VK) (E:XK),JS k (A.deeper (envOfC qual scope s.heap.objs.size f cdv))->sp vs H Q E->∃t,PSs (OT CX P w K mg base N qual scope f cdv A outer s H E) body t/\t {nx:=λ_ H'=>Q .non H',rt:=Q} (start N vs) H):WH P w K mg base CX (k+1) f (yS name qual params body scope dV kV doc pm an cdv ct) ps sp:=by
 refine⟨len,λA outer s H args us vs Q E hr e0 hb r hsp=>?_⟩
 have hl:=len _ _ _ _ hsp
 have KX:K.In s.heap:=e0.mod.kin.keeps λb o e=>(e0.bs b o e).1
 have lim:s.heap.NoLimit:=e0.mod.nolimit.keeps λb o e=>(e0.bs b o e).1
 have hkind:∀y∈ps.zip us,scope.names.lookup y.1=Fk .local\/(scope.names.lookup y.1=Fk .cell/\((cellsFrom (s.heap.objs.size+1) scope.names []).lookup y.1).isSome=true):=λ⟨n,v⟩ hy=>by
  rcases S.par n (xQ hy).1 with q|q
  .exact .inl q
  .exact .inr ⟨q,zM _ _ _ (.inl q)⟩
 refine ABQ hr.depth (KX _ _ lk) rfl S.co S.gen rfl (ACA KX hcd) (hb _ _ _ _ ?_)
 refine AAR S.kind hkind λenv he s1 x=>?_
 subst he
 refine⟨lim.keeps x.toInCall.keep,codeAny_func ?_⟩
 obtain⟨t,ht,hq⟩:=hbody A outer s H vs Q E (hr.deeper _) hsp
 have I:Inv (OT CX P w K mg base N qual scope f cdv A outer s H E) [] (start N vs) H s1:=UO S hr.hd e0 hl r x
 refine we (ht [] s1 (start N vs) H _ I hq) (λfl s' hs=>?_) λe s' hs=>hs
 have fin:∀{σ':St} {H':Hp} {v:V} {u:W1},Inv (OT CX P w K mg base N qual scope f cdv A outer s H E) [] σ' H' s'->RelV v u->Q v H'->CE outer P w H s Q u s':=
  λ{σ' H' v u} J rv q=>⟨v,H',J.os,J.bare,J.base,J.hok,rv,q⟩
 cases fl with
 |ret u=>
  obtain⟨v,σ',H',J,rv,q⟩:=hs
  exact fin J rv q
 |next=>
  obtain⟨σ',H',J,q⟩:=hs
  exact fin (v:=V.non) (u:=wW) J rfl q
 |brk=>
  obtain⟨_,_,_,q⟩:=hs
  exact wt q
 |cont=>
  obtain⟨_,_,_,q⟩:=hs
  exact wt q
end L2
namespace L2
open PySem PySem.Spec PyProof.Rows
section
variable{X:Cx}{x:Str}{p pos:Pos}{e:vU}{es:Gc vU}{t:TA}{id T:xl}{r:Gc V->Hp->VK->Prop}
noncomputable def tCB(r:Gc V->Hp->VK->Prop)(t:TA):TE:=λσ H Q=>t σ H λvs H1=>r vs H1 Q
theorem aY(hc:HR X (.builtin id) r)(hg:Gl X x)(hm:X.mg x=uk)(hv:bootBuiltins x=Fk (.builtin id))(ha:PA X (e::es) t)(hn:x≠ "__name__":=by decide)(hdb:(x==("__debug__":Str))=false:=by decide)(he:vP (e::es) X.env=(false,eval e X.env)::vP es X.env:=by rfl)(hpl:(backTo pos (vP es X.env)).any (·.1)=false:=by rfl):PE X (.Call (.Name x p) (e::es) [] pos) (tCB r t):=by
 intro pins s σ H Q I h
 refine wL (MB I hg hm hv ?_ hn hdb)
 exact zd (thn (ha pos pins s σ H _ I h) λus s1 ⟨vs,H1,I1,r1,q1⟩=>hc pins s1 σ H1 vs us Q I1 r1 q1) he hpl
theorem Ye(hc:HR X (.type T) r)(hg:Gl X x)(hm:X.mg x=uk)(hv:bootBuiltins x=Fk (.type T))(ha:PA X (e::es) t)(hn:x≠ "__name__":=by decide)(hdb:(x==("__debug__":Str))=false:=by decide)(he:vP (e::es) X.env=(false,eval e X.env)::vP es X.env:=by rfl)(hpl:(backTo pos (vP es X.env)).any (·.1)=false:=by rfl):PE X (.Call (.Name x p) (e::es) [] pos) (tCB r t):=by
 intro pins s σ H Q I h
 refine wL (MB I hg hm hv ?_ hn hdb)
 exact wZ (thn (ha pos pins s σ H _ I h) λus s1 ⟨vs,H1,I1,r1,q1⟩=>hc pins s1 σ H1 vs us Q I1 r1 q1) he hpl
end
end L2
namespace HT
open PySem PyProof.Rows
section
open PySem.SeqAt
open PySem.AutoSeq1 (wpAny_loadPart')
open PySem.MeetsSeq PySem.MeetsSeq2 PySem.MeetsSeq3
end
section
variable{prog:vR}{w:vi}{A:vj}{E:W1->ur->Prop}{s:ur}
theorem gj{t b:uu}{vs ws:Gc W1}{Q:W1->ur->Prop}(ht:IsTup s.heap t vs.toArray)(hb:IsTup s.heap b ws.toArray)(hv:vs≠[])(h1:ws=[]->Q (.ref t) s)(h2:ws≠[]->Q (.ref s.heap.objs.size) {s with heap:=s.heap.push {cls:=.type "tuple",data:=.seq (vs++ws).toArray}})(hsz:vs.length+ws.length<=sizeLine):wpAny (model prog w) A (binaryOp .Add (.ref t) (.ref b)) Q E s:=by
 obtain⟨⟨cls,dd,data,sl⟩,ho,hc,n,hd⟩:=id ht
 obtain⟨⟨cls2,dd2,data2,sl2⟩,ho2,hc2,n2,hd2⟩:=id hb
 simp only at hc hd hc2 hd2
 subst hc hd hc2 hd2
 have e:vs.toArray++ws.toArray=(vs++ws).toArray:=by simp
 by_cases hw:ws=[]
 .exact concat_meets ⟨_,ho,rfl⟩ ⟨_,ho2,rfl⟩ AAz AB1 zN zG (y7 _ _)
   (tuple_addW1 t b vs.toArray ws.toArray n n2 dd dd2 sl sl2 (by simpa using hv) (by simp[hw])) ⟨ho,ho2,h1 hw⟩
 .refine concat_meets ⟨_,ho,rfl⟩ ⟨_,ho2,rfl⟩ AAz AB1 zN zG (y7 _ _)
   (tuple_addW2 t b vs.toArray ws.toArray n n2 dd dd2 sl sl2 (by simpa using hv) (by simpa using hw) (by rw[vF,vF];exact hsz)) ⟨ho,ho2,?_⟩
  rw[e]
  exact h2 hw
noncomputable def sIx(n d:Nat):uo Int->Nat
 |none=>d
 |some v=>if v<0 then(v+(n:Int)).toNat else min v.toNat n
theorem Vc(n d k:Nat):sIx n d (Fk (k:Int))=min k n:=by
 show(if(k:Int)<0 then((k:Int)+(n:Int)).toNat else min (k:Int).toNat n)=min k n
 rw[vf (by lia),yB]
theorem iR(n d:Nat)(hd:d<=n)(o:uo Int):sIx n d o<=n:=by
 cases o with
 |none=>exact hd
 |some v=>
  show(if v<0 then(v+(n:Int)).toNat else min v.toNat n)<=n
  by_cases hv:v<0
  .rw[va hv];lia
  .rw[vf hv];exact Nat.min_le_right _ _
theorem ZG(v:Int)(n d:Nat):(if v<0 then max (v+(n:Int)) 0 else min v (n:Int))=((sIx n d (Fk v):Nat):Int):=by
 show(if v<0 then max (v+(n:Int)) 0 else min v (n:Int))=(((if v<0 then(v+(n:Int)).toNat else min v.toNat n):Nat):Int)
 by_cases hv:v<0
 .simp only[va hv];lia
 .simp only[vf hv];lia
theorem XR(lo hi:uo Int)(n:Nat):wm lo hi 1 (n:Int)=(((sIx n 0 lo:Nat):Int),((sIx n n hi:Nat):Int)):=by
 have h1:¬((1:Int)<0):=by lia
 unfold wm
 simp only[h1,AAS]
 refine Prod.ext ?_ ?_
 .cases lo with
  |none=>rfl
  |some v=>exact ZG v n 0
 .cases hi with
  |none=>rfl
  |some v=>exact ZG v n n
theorem W0(i j:Nat):wG (i:Int) (j:Int) 1=j-i:=by
 unfold wG
 have h1:(1:Int)>0:=by lia
 simp only[h1,zO,Int.ediv_one]
 split<;>lia
theorem RI{v:W1}{o:uo Int}{Q:uo Int->ur->Prop}(p:AA7 v o)(h:Q o s):wpAny (model prog w) A (Builtin.Slice.slicePartIndex v) Q E s:=by
 cases p with
 |none=>exact AAT h
 |int i t=>exact slicePart_int h
theorem Kf{sl:uu}{vl vu:W1}{lo hi:uo Int}{n:Nat}{Q:Int×Int×Nat->ur->Prop}(hs:s.heap.IsSliceOf sl vl vu .none)(pl:AA7 vl lo)(pu:AA7 vu hi)(h:Q (((sIx n 0 lo:Nat):Int),1,sIx n n hi-sIx n 0 lo) s):wpAny (model prog w) A (xo (.ref sl) (pure (n:Int))) Q E s:=by
 obtain⟨os,hos,hcs,hds⟩:=id hs
 unfold xo AAe
 refine um (um (wx hos hds (x:=vl) rfl (um (wx hos hds (x:=vu) rfl (um (wx hos hds (x:=.none) rfl (vD ?_)))))))
 refine um (AAT ?_)
 show wpAny _ _ (if((1:Int)==0)=true then _ else _) _ _ s
 rw[vf (by decide)]
 refine um (RI pl (um (RI pu (um (vD ?_)))))
 show wpAny _ _ (match wm lo hi 1 (n:Int)with|(lo,hi)=>pure (lo,(1:Int),wG lo hi 1)) _ _ s
 rw[XR lo hi n]
 show wpAny _ _ (pure (((sIx n 0 lo:Nat):Int),(1:Int),wG ((sIx n 0 lo:Nat):Int) ((sIx n n hi:Nat):Int) 1)) _ _ s
 rw[W0]
 exact vD h
theorem b9(xs:wK W1)(i k:Nat):((vS k).filterMap λ(m:Nat)=>xs[((i:Int)+(m:Int)*1).toNat]?).toArray=((xs.toList.drop i).take k).toArray:=by
 have e:(λ(m:Nat)=>xs[((i:Int)+(m:Int)*1).toNat]?)=λm=>xs[i+m]?:=by
  funext m
  have:((i:Int)+(m:Int)*1).toNat=i+m:=by lia
  rw[this]
 rw[e]
 have:=pick_run xs i k
 rw[List.filterMap_map]at this
 have e2:((λx=>xs[x]?)∘λx=>i+x)=λm=>xs[i+m]?:=rfl
 rw[e2]at this
 rw[this]
theorem N4{t sl:uu}{items:wK W1}{vl vu:W1}{lo hi:uo Int}{Q:W1->ur->Prop}(ht:IsTup s.heap t items)(hs:s.heap.IsSliceOf sl vl vu .none)(pl:AA7 vl lo)(pu:AA7 vu hi)(hw:¬(sIx items.size 0 lo=0/\sIx items.size items.size hi=items.size))(h:Q (.ref s.heap.objs.size) {s with heap:=s.heap.push {cls:=.type "tuple",data:=.seq ((items.toList.drop (sIx items.size 0 lo)).take (sIx items.size items.size hi-sIx items.size 0 lo)).toArray}})(hsz:items.size<=sizeLine):wpAny (model prog w) A (getItem (.ref t) (.ref sl)) Q E s:=by
 have htake:sizeOk (.seq ((items.toList.drop (sIx items.size 0 lo)).take (sIx items.size items.size hi-sIx items.size 0 lo)).toArray):=by
  show((items.toList.drop (sIx items.size 0 lo)).take (sIx items.size items.size hi-sIx items.size 0 lo)).toArray.size<=sizeLine
  rw[vF,yr,AA0,AAB]
  lia
 have hj:sIx items.size items.size hi<=items.size:=iR _ _ (u4 _) hi
 obtain⟨os,hos,hcs,hds⟩:=id hs
 have hTs:s.TypeIs (.ref sl) "slice":=⟨os,hos,hcs⟩
 unfold getItem
 try with_reducible refine xG ?_
 first|refine um (vD ?_)|skip
 refine um (AAi ht.typeIs (by decide) ?_)
 refine um (wd (name:=xC "__getitem__") ht.typeIs vg
  (xF vg ht.typeIs AAC ?_ (AAU _ _)))
 show wpAny _ _ (yl (.ref t) >>= _) _ _ s
 refine um (AB2 ht ?_)
 refine um (AAG hTs ?_)
 rw[va (by decide)]
 refine um (Kf hs pl pu ?_)
 have hno:¬((((sIx items.size 0 lo:Nat):Int)==0 && (1:Int)==1 && (sIx items.size items.size hi-sIx items.size 0 lo)==items.size)=true):=by
  intro q
  rw[vE,vE]at q
  have q1:((sIx items.size 0 lo:Nat):Int)=0:=eq_of_beq q.1.1
  have q2:sIx items.size items.size hi-sIx items.size 0 lo=items.size:=eq_of_beq q.2
  exact hw ⟨by lia,by lia⟩
 show wpAny _ _ (if(((sIx items.size 0 lo:Nat):Int)==0 && (1:Int)==1 && (sIx items.size items.size hi-sIx items.size 0 lo)==items.size)=true then _ else _) _ _ s
 rw[vf hno,b9]
 first
  |exact um (m:=vw _) (wJ (vD ⟨_,rfl,vD h⟩) htake)
  |exact um (m:=vw _) (wJ (um (vD (vD ⟨_,rfl,vD h⟩))) htake)
  |exact um (um (m:=vw _) (wJ (vD (vD ⟨_,rfl,vD h⟩)) htake))
  |exact um (um (m:=vw _) (wJ (vD ⟨_,rfl,vD h⟩) htake))
end
end HT
namespace L2
open PySem PySem.Spec PyProof.Rows
abbrev TO:=St->Hp->(uo Int->Hp->Prop)->Prop
def PO(X:Cx)(e:uo vU)(t:TO):Prop:=
 ∀(pins:Gc (uu×Obj)) (s:ur) (σ:St) (H:Hp) (Q:uo Int->Hp->Prop),Inv X pins σ H s->t σ H Q->
  wpAny (model X.prog X.w) X.A (evalPart e X.env) (λu s'=>∃o H',Inv X pins σ H' s'/\AA7 u o/\Q o H') X.xe s
noncomputable def fF:TO:=λ_ H Q=>Q uk H
noncomputable def pD(t:TE):TO:=λσ H Q=>t σ H λx H1=>∃i,x=.int i/\Q (Fk i) H1
theorem intsAre_of{ns:Gc Int}:∀{us:Gc W1},Vals (ns.map V.int) us->xI us ns:=by
 induction ns with
 |nil=>intro us r;rw[wc]at r;cases r;exact .nil
 |cons n ns ih=>
  intro us r
  rw[vT]at r
  cases r with
  |cons r1 r2=>
   obtain⟨t,e⟩:=r1
   subst e
   exact .cons n t (ih r2)
section
variable{X:Cx}{e:vU}{te:TE}{lo hi:uo vU}{tl th:TO}{pos p2:Pos}
theorem Xj:PO X uk fF:=by
 intro pins s σ H Q I h
 rw[AB3]
 exact vD ⟨uk,H,I,.none,h⟩
theorem Tj(h:PE X e te):PO X (Fk e) (pD te):=by
 intro pins s σ H Q I hw
 rw[evalPart_some]
 refine thn (h pins s σ H _ I hw) λu s1 ⟨x,H1,I1,r1,q1⟩=>?_
 obtain⟨i,rfl,q⟩:=q1
 obtain⟨t,rfl⟩:=r1
 exact⟨Fk i,H1,I1,.int i t,q⟩
def SlR(X:Cx)(r:V->uo Int->uo Int->Hp->VK->Prop):Prop:=
 ∀(pins:Gc (uu×Obj)) (s:ur) (σ:St) (H:Hp) (x:V) (v vl vu:W1) (lo hi:uo Int) (sl:uu) (Q:VK),Inv X pins σ H s->RelV x v->s.heap.IsSliceOf sl vl vu .none->AA7 vl lo->AA7 vu hi->r x lo hi H Q->
  ∃T id,typeLookup (.type T) "__getitem__"=pure (Fk (.builtin id))/\s.TypeIs v T/\wpAny (model X.prog X.w) X.A (getItem v (.ref sl)) (EP X pins σ Q) X.xe s
noncomputable def tSl(r:V->uo Int->uo Int->Hp->VK->Prop)(te:TE)(tl th:TO):TE:=λσ H Q=>te σ H λx H1=>tl σ H1 λl H2=>th σ H2 λu H3=>r x l u H3 Q
theorem SH{r:V->uo Int->uo Int->Hp->VK->Prop}(hr:SlR X r)(he:PE X e te)(hl:PO X lo tl)(hu:PO X hi th):PE X (.Subscript e (.Slice lo hi uk p2) pos) (tSl r te tl th):=by
 intro pins s σ H Q I h
 refine ABU (thn (he pins s σ H _ I h) λv s1 ⟨x,H1,I1,r1,q1⟩=>?_)
 refine wpAny_Slice (thn (hl pins s1 σ H1 _ I1 q1) λvl s2 ⟨l,H2,I2,pl,q2⟩=>thn (hu pins s2 σ H2 _ I2 q2) λvu s3 ⟨u,H3,I3,pu,q3⟩=>?_)
 rw[AB3]
 refine vD ?_
 have I4:Inv X pins σ H3 {s3 with heap:=s3.heap.push {cls:=.type "slice",data:=.fields #[vl,vu,.none]}}:=I3.kept (t':=s3.toks) λb ob q=>tz _ q
 obtain⟨T,id,hT,ht,hg⟩:=hr pins {s3 with heap:=s3.heap.push {cls:=.type "slice",data:=.fields #[vl,vu,.none]}} σ H3 x v vl vu l u s3.heap.objs.size Q I4 r1 (ACB ..) pl pu q3
 show wpAny (model X.prog X.w) X.A (subscriptTail e (.Slice lo hi uk p2) v (.ref s3.heap.objs.size)) (EP X pins σ Q) X.xe {s3 with heap:=s3.heap.push {cls:=.type "slice",data:=.fields #[vl,vu,.none]}}
 exact tail_any (ops:=[.ref s3.heap.objs.size,v]) ht hT hg (by with_unfolding_all rfl)
noncomputable def cb(xs:Gc V)(lo hi:uo Int):Gc V:=(xs.drop (HT.sIx xs.length 0 lo)).take (HT.sIx xs.length xs.length hi-HT.sIx xs.length 0 lo)
theorem Pz(xs:Gc V)(lo hi:uo Int):(cb xs lo hi).length<=xs.length:=by
 unfold cb
 rw[yr,AA0]
 lia
def uB(K:Wp):V->uo Int->uo Int->Hp->VK->Prop:=λx lo hi H Q=>∃a xs,x=.ref a/\SqT K H a xs/\
 ¬(HT.sIx xs.length 0 lo=0/\HT.sIx xs.length xs.length hi=xs.length)/\∀p,H p=uk->Q (.ref p) (upd H p (.tup (cb xs lo hi)))
theorem iS:SlR X (uB X.K):=by
 intro pins s σ H x v vl vu lo hi sl Q I rx hs pl pu h
 obtain⟨a,xs,rfl,hx,hw,q⟩:=h
 cases rx
 obtain⟨its,r,ht,hz⟩:=I.tuple hx
 have hlen:its.toArray.size=xs.length:=by rw[vF];exact r.length.symm
 refine⟨"tuple",_,vg.lookup,ht.typeIs,?_⟩
 refine HT.N4 ht hs pl pu (by rw[hlen];exact hw) ?_ (by rw[hlen];exact hz)
 rw[hlen]
 refine⟨.ref s.heap.objs.size,_,I.laid (t':=s.toks) (o:=.tup (cb xs lo hi)) (λb ob q=>tz _ q) (u4 _) ?_,rfl,q _ (I.hok.fresh (u4 _))⟩
 exact⟨uz (Pz xs lo hi) hz,_,(r.drop (HT.sIx xs.length 0 lo)).take (HT.sIx xs.length xs.length hi-HT.sIx xs.length 0 lo),xX _ _⟩
noncomputable def oK(K:Wp):R2:=λx y H Q=>∃a b xs ys,x=.ref a/\y=.ref b/\SqT K H a xs/\SqT K H b ys/\xs≠[]/\xs.length+ys.length<=sizeLine/\
 (ys=[]->Q (.ref a) H)/\(ys≠[]->∀p,H p=uk->Q (.ref p) (upd H p (.tup (xs++ys))))
theorem Vals.To{xs:Gc V}{us:Gc W1}(r:Vals xs us):us=[]↔xs=[]:=by
 cases r with
 |nil=>simp
 |cons _ _=>simp
theorem gw:OpR X (binaryOp .Add) (oK X.K):=by
 intro pins s σ H x y v u Q I rx ry h
 obtain⟨a,b,xs,ys,rfl,rfl,ha,hb,hx,hz,q1,q2⟩:=h
 cases rx
 cases ry
 obtain⟨its,r1,p1,_⟩:=I.tuple ha
 obtain⟨its2,r2,p2,_⟩:=I.tuple hb
 refine HT.gj p1 p2 (λz=>hx (r1.To.mp z)) (λz=>⟨.ref a,H,I,rfl,q1 (r2.To.mp z)⟩) (λz=>?_) (by rw[<-r1.length,<-r2.length];exact hz)
 refine⟨.ref s.heap.objs.size,_,I.laid (t':=s.toks) (o:=.tup (xs++ys)) (λb ob q=>tz _ q) (u4 _) ?_,rfl,q2 (λw=>z (r2.To.mpr w)) _ (I.hok.fresh (u4 _))⟩
 exact⟨by rw[wM];exact hz,_,r1.append r2,xX _ _⟩
end
end L2
namespace L2
open PySem PySem.Spec PyProof.Rows
noncomputable def ixN(n:Nat)(i:Int):uo Nat:=if 0<=i then(if i<n then Fk i.toNat else uk)else if-(n:Int)<=i then Fk (i+n).toNat else uk
noncomputable def atI{α:Type}(xs:Gc α)(i:Int):uo α:=(ixN xs.length i).bind λj=>xs[j]?
theorem Xt{n:Nat}{i:Int}{j:Nat}(h:ixN n i=Fk j):seqIndex? i n=Fk j/\j<n/\ -(n:Int)<=i/\i<n:=by
 unfold ixN at h
 by_cases h0:0<=i
 .rw[va h0]at h
  by_cases h1:i<n
  .rw[va h1]at h
   have e:i.toNat=j:=wO h
   exact⟨by rw[seqIndex_of h0 h1,e],by lia,by lia,h1⟩
  .rw[vf h1]at h;cases h
 .rw[vf h0]at h
  by_cases h1: -(n:Int)<=i
  .rw[va h1]at h
   have e:(i+n).toNat=j:=wO h
   exact⟨by rw[seqIndex_neg (by lia) h1,e],by lia,h1,by lia⟩
  .rw[vf h1]at h;cases h
theorem Yi{α:Type}{xs:Gc α}{i:Int}{v:α}(h:atI xs i=Fk v):∃j,seqIndex? i xs.length=Fk j/\xs[j]?=Fk v/\j<xs.length/\ -(xs.length:Int)<=i/\i<xs.length:=by
 unfold atI at h
 cases e:ixN xs.length i with
 |none=>rw[e]at h;cases h
 |some j=>
  rw[e]at h
  obtain⟨h1,h2,h3,h4⟩:=Xt e
  exact⟨j,h1,h,h2,h3,h4⟩
theorem ff{α:Type}{xs:Gc α}{j:Nat}{v:α}(h:xs[j]?=Fk v):atI xs (j:Int)=Fk v:=by
 have hj:j<xs.length:=(vB.mp h).1
 have e:ixN xs.length (j:Int)=Fk j:=by
  unfold ixN
  rw[va (by lia),va (by lia)];simp
 unfold atI;rw[e];exact h
theorem SW{α:Type}(xs:Gc α)(v:α):atI (xs++[v]) (-1)=Fk v:=by
 have hl:(xs++[v]).length=xs.length+1:=by simp
 have e:ixN (xs++[v]).length (-1)=Fk xs.length:=by
  unfold ixN
  rw[hl,vf (by decide),va (by lia)]
  congr 1
  lia
 unfold atI
 rw[e]
 show(xs++[v])[xs.length]?=Fk v
 simp
def YF(b:vU):Prop:=∀o i,subscripted b false o i=operate [o,i] (getItem o i)
def IxR(X:Cx)(r:R2):Prop:=
 ∀(value slice:vU) (pins:Gc (uu×Obj)) (s:ur) (σ:St) (H:Hp) (x y:V) (v u:W1) (Q:VK),Inv X pins σ H s->RelV x v->RelV y u->r x y H Q->
  subscripted slice false v u=operate [v,u] (getItem v u)->wpAny (model X.prog X.w) X.A (subscriptTail value slice v u) (EP X pins σ Q) X.xe s
def MtR(X:Cx)(id:xl)(r:V->Gc V->Hp->VK->Prop):Prop:=
 ∀(pins:Gc (uu×Obj)) (s:ur) (σ:St) (H:Hp) (x:V) (xs:Gc V) (v:W1) (us:Gc W1) (Q:VK),Inv X pins σ H s->RelV x v->Vals xs us->r x xs H Q->
  wpAny (model X.prog X.w) X.A (call (.builtin id) (v::us)) (EP X pins σ Q) X.xe s
section
variable{X:Cx}{a b:vU}{ta tb:TE}{pos:Pos}
theorem qQ{r:R2}(hr:IxR X r)(ha:PE X a ta)(hb:PE X b tb)(hs:YF b):PE X (.Subscript a b pos) (tOp r ta tb):=by
 intro pins s σ H Q I h
 exact ABU (oG ha hb I h λv u s2 x y H2 I2 rx ry q=>hr a b pins s2 σ H2 x y v u Q I2 rx ry q (hs _ _))
noncomputable def sg(K:Wp):R2:=λx y H Q=>∃p xs i v,x=.ref p/\y=.int i/\SqL K H p xs/\atI xs i=Fk v/\Q v H
noncomputable def tS(K:Wp):R2:=λx y H Q=>∃p xs i v,x=.ref p/\y=.int i/\SqT K H p xs/\atI xs i=Fk v/\Q v H
theorem da:IxR X (sg X.K):=by
 intro value slice pins s σ H x y v u Q I rx ry h hs
 obtain⟨p,xs,i,z,rfl,rfl,hq,he,q⟩:=h
 cases rx
 obtain⟨t,rfl⟩:=ry
 obtain⟨its,r,pl,hz⟩:=I.list hq
 obtain⟨j,h1,h2,h3,h4,h5⟩:=Yi he
 obtain⟨w,ew,rw'⟩:=r.get h2
 have hl:=r.length
 have hn:=R5
 have fin:EP X pins σ Q w s:=⟨z,H,I,rw',q⟩
 by_cases h0:0<=i
 .have hj:i.toNat=j:=by
   rw[seqIndex_of h0 h5]at h1
   exact wO h1
  exact item_listR pl.isList h0 (by lia) (by rw[hj];simpa using ew) fin hs
 .have hj:(i+(its.toArray.size:Int)).toNat=j:=by
   rw[seqIndex_neg (by lia) h4]at h1
   rw[vF,<-hl]
   exact wO h1
  exact AA8 (x:=w) pl.isList.typeIs slot_list_getitem.lookup
   (wpAny_getItem_list_neg (Q:=λr s'=>r=w/\EP X pins σ Q r s') pl.isList (by lia) (by rw[vF]<;>lia) (by lia) (by rw[hj];simpa using ew) ⟨rfl,fin⟩) hs
theorem kK:IxR X (tS X.K):=by
 intro value slice pins s σ H x y v u Q I rx ry h hs
 obtain⟨p,xs,i,z,rfl,rfl,hq,he,q⟩:=h
 cases rx
 obtain⟨t,rfl⟩:=ry
 obtain⟨its,r,pl,hz⟩:=I.tuple hq
 obtain⟨j,h1,h2,h3,h4,h5⟩:=Yi he
 obtain⟨w,ew,rw'⟩:=r.get h2
 have hl:=r.length
 have hn:=R5
 have fin:EP X pins σ Q w s:=⟨z,H,I,rw',q⟩
 exact AA8 (x:=w) pl.typeIs vg.lookup
  (getItem_tuple (j:=j) (Q:=λr s'=>r=w/\EP X pins σ Q r s') pl (by lia) (by lia) (by rw[vF,<-hl];exact h1) (by simpa using ew) ⟨rfl,fin⟩) hs
theorem Wu(its:Gc W1)(n j:Nat)(u:W1):AAV (·.setIfInBounds j u) {cls:=.type "list",data:=.seq its.toArray n}={cls:=.type "list",data:=.seq (its.set j u).toArray n}:=by
 simp[AAV]
theorem Inv.lst{pins:Gc (uu×Obj)}{σ:St}{H:Hp}{s:ur}{p:uu}{xs:Gc V}(I:Inv X pins σ H s)(h:H p=Fk (.lst xs)):∃(its:Gc W1) (n:Nat),Vals xs its/\s.heap.get? p=Fk {cls:=.type "list",data:=.seq its.toArray n}/\xs.length<=sizeLine:=by
 obtain⟨z,its,n,r,e⟩:=I.hok p _ h
 exact⟨its,n,r,e,z⟩
theorem Inv.jv{pins:Gc (uu×Obj)}{σ:St}{H:Hp}{s:ur}{p:uu}{xs ys:Gc V}{its its':Gc W1}{n n':Nat}{f:Obj->Obj}(I:Inv X pins σ H s)(h:H p=Fk (.lst xs))(ho:s.heap.get? p=Fk {cls:=.type "list",data:=.seq its.toArray n})(hf:f {cls:=.type "list",data:=.seq its.toArray n}={cls:=.type "list",data:=.seq its'.toArray n'})(r:Vals ys its')(hz:ys.length<=sizeLine)(t:Nat):Inv X pins σ (upd H p (.lst ys)) {s with heap:=s.heap.update p f,toks:=t}:=by
 have e:(s.heap.update p f).get? p=Fk {cls:=.type "list",data:=.seq its'.toArray n'}:=by
  rw[ABR f ho (by rw[hf]<;>rfl),hf]
 refine I.write (x:=p) (e:=p) (by rw[h];trivial) (.inl rfl) (λb u hb q=>(yT _ _ (wu hb)).trans q) ⟨_,e⟩ ?_
 exact⟨hz,its',n',r,e⟩
def pF:V->V->V->Hp->(Hp->Prop)->Prop:=λo i v H Q=>∃p xs k j,o=.ref p/\i=.int k/\H p=Fk (.lst xs)/\ixN xs.length k=Fk j/\Q (upd H p (.lst (xs.set j v)))
theorem set_list:qR X pF:=by
 intro pins s σ H o i v ov iv u Q I ro ri rv h
 obtain⟨p,xs,k,j,rfl,rfl,hp,hj,q⟩:=h
 cases ro
 obtain⟨t,rfl⟩:=ri
 obtain⟨its,n,r,ho,hz⟩:=I.lst hp
 obtain⟨h1,h2,h3,h4⟩:=Xt hj
 have hl:=r.length
 have hn:=R5
 have I':Inv X pins σ (upd H p (.lst (xs.set j v))) {s with heap:=s.heap.update p (AAV (·.setIfInBounds j u))}:=
  I.jv hp ho (Wu its n j u) (r.set rv j) (by rw[xi];exact hz) s.toks
 by_cases h0:0<=k
 .have hk:k.toNat=j:=by
   rw[seqIndex_of h0 h4]at h1
   exact wO h1
  exact PySem.W.ki_setAt ho h0 (by lia) (by rw[vF,<-hl];exact h4) (by rw[hk];exact⟨_,I',q⟩)
 .have hk:(k+(its.toArray.size:Int)).toNat=j:=by
   rw[seqIndex_neg (by lia) h3]at h1
   rw[vF,<-hl]
   exact wO h1
  exact PySem.W.ki_setBack ho (by lia) (by rw[vF,<-hl];exact h3) (by lia) (by rw[hk];exact⟨_,I',q⟩)
theorem UI(lo hi:uo Int)(n:Nat):(sliceBounds lo hi uk n).1=((HT.sIx n 0 lo:Nat):Int)/\(sliceBounds lo hi uk n).2.1=((HT.sIx n n hi:Nat):Int)/\(sliceBounds lo hi uk n).2.2=1:=by
 refine⟨?_,?_,rfl⟩
 .cases lo with
  |none=>simp[sliceBounds,HT.sIx]
  |some i=>
   simp only[sliceBounds,HT.sIx,Option.getD_none,show(1:Int)>0 by decide,zO]
   by_cases h:i<0
   .simp only[h,zO]<;>lia
   .simp only[h,AAS]<;>lia
 .cases hi with
  |none=>simp[sliceBounds,HT.sIx]
  |some i=>
   simp only[sliceBounds,HT.sIx,Option.getD_none,show(1:Int)>0 by decide,zO]
   by_cases h:i<0
   .simp only[h,zO]<;>lia
   .simp only[h,AAS]<;>lia
theorem SE(its:Gc W1)(lo hi:uo Int):slicePick its.toArray lo hi uk=((its.drop (HT.sIx its.length 0 lo)).take (HT.sIx its.length its.length hi-HT.sIx its.length 0 lo)).toArray:=by
 obtain⟨h1,h2,h3⟩:=UI lo hi its.toArray.size
 unfold slicePick
 rw[h1,h2,h3]
 simp only[sliceRange_one,pick_run,vF]<;>rfl
def tK(K:Wp):V->uo Int->uo Int->Hp->VK->Prop:=λx lo hi H Q=>∃a xs,x=.ref a/\SqL K H a xs/\∀p,H p=uk->Q (.ref p) (upd H p (.lst (cb xs lo hi)))
theorem eJ:SlR X (tK X.K):=by
 intro pins s σ H x v vl vu lo hi sl Q I rx hs pl pu h
 obtain⟨a,xs,rfl,hx,q⟩:=h
 cases rx
 obtain⟨its,r,ht,hz⟩:=I.list hx
 have hlen:=r.length
 refine⟨"list",_,slot_list_getitem.lookup,ht.isList.typeIs,?_⟩
 refine wpAny_getItem_list_slice ht.isList hs pl pu .none (by simp) ?_ (by rw[vF]<;>lia)
 rw[SE,<-hlen]
 refine⟨.ref s.heap.objs.size,_,I.laid (t':=s.toks) (o:=.lst (cb xs lo hi)) (λb ob q=>tz _ q) (u4 _) ?_,rfl,q _ (I.hok.fresh (u4 _))⟩
 exact⟨uz (Pz xs lo hi) hz,_,0,(r.drop (HT.sIx xs.length 0 lo)).take (HT.sIx xs.length xs.length hi-HT.sIx xs.length 0 lo),vM _ rfl⟩
noncomputable def RB:V->vm
 | .non=>true
 | .bl _=>true
 | .int _=>true
 | .str _=>true
 |_=>false
noncomputable def eqV:V->V->vm
 | .non,.non=>true
 | .bl a,.bl b=>a==b
 | .bl a,.int b=>(if a then 1 else 0)==b
 | .int a,.bl b=>a==(if b then 1 else 0)
 | .int a,.int b=>a==b
 | .str a,.str b=>a==b
 |_,_=>false
theorem lF{A:vj}{s:ur}{y x:V}{u v:W1}(ry:RelV y u)(rx:RelV x v)(fy:RB y=true)(fx:RB x=true):SeqAt.EqAt A s u v (eqV y x):=by
 cases y with
 |non=>
  cases ry
  cases x with
  |non=>cases rx;exact SeqAt.EqAt.same _
  |bl b=>cases rx;exact SeqAt.EqAt.none_bool b
  |int b=>obtain⟨t,rfl⟩:=rx;exact SeqAt.EqAt.none_int b t
  |str b=>obtain⟨t,rfl⟩:=rx;exact SeqAt.EqAt.none_str b t
  |_=>exact absurd (show false=true from fx) vz
 |bl a=>
  cases ry
  cases x with
  |non=>cases rx;exact SeqAt.EqAt.bool_none a
  |bl b=>cases rx;exact SeqAt.EqAt.bool_bool a b
  |int b=>obtain⟨t,rfl⟩:=rx;exact SeqAt.EqAt.bool_int a b t
  |str b=>obtain⟨t,rfl⟩:=rx;exact SeqAt.EqAt.bool_str a b t
  |_=>exact absurd (show false=true from fx) vz
 |int a=>
  obtain⟨t',rfl⟩:=ry
  cases x with
  |non=>cases rx;exact SeqAt.EqAt.int_none a t'
  |bl b=>cases rx;exact SeqAt.EqAt.int_bool a t' b
  |int b=>obtain⟨t,rfl⟩:=rx;exact SeqAt.EqAt.int_int a t' b t
  |str b=>obtain⟨t,rfl⟩:=rx;exact AB6 a t' b t
  |_=>exact absurd (show false=true from fx) vz
 |str a=>
  obtain⟨t',rfl⟩:=ry
  cases x with
  |non=>cases rx;exact SeqAt.EqAt.str_none a t'
  |bl b=>cases rx;exact SeqAt.EqAt.str_bool a t' b
  |int b=>obtain⟨t,rfl⟩:=rx;exact AB7 a t' b t
  |str b=>obtain⟨t,rfl⟩:=rx;exact SeqAt.EqAt.str_str a t' b t
  |_=>exact absurd (show false=true from fx) vz
 |_=>exact absurd (show false=true from fy) vz
noncomputable def eqU(x:V)(u:W1):vm:=match u with
 | .none=>eqV .non x
 | .bool b=>eqV (.bl b) x
 | .int i _=>eqV (.int i) x
 | .str z _=>eqV (.str z) x
 |_=>false
theorem cx{x y:V}{u:W1}(r:RelV y u)(f:RB y=true):eqU x u=eqV y x:=by
 cases y with
 |non=>cases r;rfl
 |bl b=>cases r;rfl
 |int i=>obtain⟨t,rfl⟩:=r;rfl
 |str z=>obtain⟨t,rfl⟩:=r;rfl
 |_=>exact absurd (show false=true from f) vz
theorem PY{x:V}:∀{xs:Gc V} {us:Gc W1},Vals xs us->xs.all RB=true->us.any (eqU x)=xs.any λy=>eqV y x
 |_,_,.nil,_=>rfl
 |y::xs,u::us,.cons r t,f=>by
  rw[yd,vE]at f
  rw[xk,xk,cx r f.1,PY t f.2]
theorem M8{A:vj}{s:ur}{x:V}{v:W1}(rx:RelV x v)(fx:RB x=true):∀{xs:Gc V} {us:Gc W1},Vals xs us->xs.all RB=true->∀u∈us,SeqAt.EqAt A s u v (eqU x u)
 |_,_,.nil,_=>λu hu=>by cases hu
 |y::xs,u::us,.cons r t,f=>λu' hu=>by
  rw[yd,vE]at f
  rcases uw.mp hu with rfl|hu
  .rw[cx r f.1];exact lF r rx f.1 fx
  .exact M8 rx fx t f.2 u' hu
noncomputable def inV(x:V)(xs:Gc V):vm:=xs.any λy=>eqV y x
noncomputable def rIn(K:Wp)(neg:vm):R2:=λx y H Q=>∃p xs,y=.ref p/\(SqL K H p xs\/SqT K H p xs)/\RB x=true/\xs.all RB=true/\Q (.bl (if neg then !inV x xs else inV x xs)) H
theorem ZC:OpR X (compareOp .In) (rIn X.K false):=by
 intro pins s σ H x y v u Q I rx ry h
 obtain⟨p,xs,rfl,hq,fx,fs,q⟩:=h
 cases ry
 rcases hq with hq|hq
 .obtain⟨its,r,pl,hz⟩:=I.list hq
  refine SeqAt.in_listAt (eqU x) pl.isList (λw hw=>M8 rx fx r fs w (by simpa using hw)) ⟨.bl _,H,I,rfl,?_⟩
  rw[show its.toArray.any (eqU x)=its.any (eqU x) by simp,PY r fs]
  exact q
 .obtain⟨its,r,pl,hz⟩:=I.tuple hq
  refine SeqAt.in_tupleAt (eqU x) pl (λw hw=>M8 rx fx r fs w (by simpa using hw)) ⟨.bl _,H,I,rfl,?_⟩
  rw[show its.toArray.any (eqU x)=its.any (eqU x) by simp,PY r fs]
  exact q
theorem T8:OpR X (compareOp .NotIn) (rIn X.K true):=by
 intro pins s σ H x y v u Q I rx ry h
 obtain⟨p,xs,rfl,hq,fx,fs,q⟩:=h
 cases ry
 rcases hq with hq|hq
 .obtain⟨its,r,pl,hz⟩:=I.list hq
  refine SeqAt.notIn_listAt (eqU x) pl.isList (λw hw=>M8 rx fx r fs w (by simpa using hw)) ⟨.bl _,H,I,rfl,?_⟩
  rw[show its.toArray.any (eqU x)=its.any (eqU x) by simp,PY r fs]
  exact q
 .obtain⟨its,r,pl,hz⟩:=I.tuple hq
  refine SeqAt.notIn_tupleAt (eqU x) pl (λw hw=>M8 rx fx r fs w (by simpa using hw)) ⟨.bl _,H,I,rfl,?_⟩
  rw[show its.toArray.any (eqU x)=its.any (eqU x) by simp,PY r fs]
  exact q
theorem T5:HR X (.builtin "len") (λxs H Q=>∃p ys,xs=[.ref p]/\(SqL X.K H p ys\/SqT X.K H p ys)/\Q (.int ys.length) H):=by
 intro pins s σ H xs us Q I r h
 obtain⟨p,ys,rfl,hq,q⟩:=h
 obtain⟨u,rfl,rx⟩:=vals1 r
 cases rx
 have hn:=R5
 rcases hq with hq|hq
 .obtain⟨its,r',pl,hz⟩:=I.list hq
  have hlen:=r'.length
  exact Calls.call_len_list pl.isList (by simp only[vF]<;>lia) ⟨.int ys.length,H,I.tok _,⟨s.toks+1,by rw[vF,hlen]⟩,q⟩
 .obtain⟨its,r',pl,hz⟩:=I.tuple hq
  have hlen:=r'.length
  exact len_tuple pl (by simp only[vF]<;>lia) ⟨.int ys.length,H,I.tok _,⟨s.toks+1,by rw[vF,hlen]⟩,q⟩
theorem UK:HR X (.builtin "len") (λxs H Q=>∃z,xs=[.str z]/\z.length<=sizeLine/\Q (.int z.length) H):=by
 intro pins s σ H xs us Q I r h
 obtain⟨z,rfl,hz,q⟩:=h
 obtain⟨u,rfl,t,rfl⟩:=vals1 r
 have hn:=R5
 exact len_str (by lia) ⟨.int z.length,H,I.tok _,⟨_,rfl⟩,q⟩
theorem Ur:HR X (.type "list") (λxs H Q=>∃p ys,xs=[.ref p]/\(SqL X.K H p ys\/SqT X.K H p ys)/\∀l,H l=uk->Q (.ref l) (upd H l (.lst ys))):=by
 intro pins s σ H xs us Q I r h
 obtain⟨p,ys,rfl,hq,q⟩:=h
 obtain⟨u,rfl,rx⟩:=vals1 r
 cases rx
 have fin:∀(its:Gc W1),Vals ys its->ys.length<=sizeLine->∀(h':ve) (c':Nat),(∀b o',s.heap.get? b=Fk o'->h'.get? b=Fk o')->
   h'.get? s.heap.objs.size=Fk {cls:=.type "list",dict:=uk,data:=.seq its.toArray c',slots:= #[]}->EP X pins σ Q (.ref s.heap.objs.size) {s with heap:=h'}:=λits r' hz h' c' kp e=>
  ⟨.ref s.heap.objs.size,_,I.laid (t':=s.toks) kp (u4 _) (show Fo X.prog X.w _ h' _ (.lst ys)from⟨hz,its,c',r',e⟩),rfl,q _ (I.hok.fresh (u4 _))⟩
 rcases hq with hq|hq
 .obtain⟨its,r',pl,hz⟩:=I.list hq
  have hlen:=r'.length
  obtain⟨o,ho,hc,n,hd⟩:=pl.isList
  exact call_list_seq p (.inl rfl) ho hc hd (λh' c' kp e=>fin its r' hz h' c' kp e) (by simp only[vF]<;>lia)
 .obtain⟨its,r',pl,hz⟩:=I.tuple hq
  have hlen:=r'.length
  obtain⟨o,ho,hc,n,hd⟩:=pl
  exact call_list_seq p (.inr rfl) ho hc hd (λh' c' kp e=>fin its r' hz h' c' kp e) (by simp only[vF]<;>lia)
theorem Tg:HR X (.type "tuple") (λxs H Q=>∃p ys,xs=[.ref p]/\((SqL X.K H p ys/\∀l,H l=uk->Q (.ref l) (upd H l (.tup ys)))\/(SqT X.K H p ys/\Q (.ref p) H))):=by
 intro pins s σ H xs us Q I r h
 obtain⟨p,ys,rfl,h⟩:=h
 obtain⟨u,rfl,rx⟩:=vals1 r
 cases rx
 rcases h with⟨hq,q⟩|⟨hq,q⟩
 .obtain⟨its,r',pl,hz⟩:=I.list hq
  have hlen:=r'.length
  refine call_tuple_list pl.isList (λh' kp=>?_) (by simp only[vF]<;>lia)
  have I1:Inv X pins σ H {s with heap:=h'}:=I.kept (t':=s.toks) kp
  have I2:Inv X pins σ (upd H h'.objs.size (.tup ys)) {s with heap:=h'.push {cls:=.type "tuple",data:=.seq its.toArray}}:=
   I1.laid (t':=s.toks) (λb o e=>tz _ e) (u4 _) (show Fo X.prog X.w _ _ _ (.tup ys)from⟨hz,its,r',xX _ _⟩)
  exact⟨.ref h'.objs.size,_,I2,rfl,q _ (I1.hok.fresh (u4 _))⟩
 .obtain⟨its,r',pl,hz⟩:=I.tuple hq
  exact call_tuple_same pl ⟨.ref p,H,I,rfl,q⟩
def tyV(K:Wp)(T:xl)(x:V)(H:Hp):Prop:=match x with
 | .str _=>T="str"
 | .int _=>T="int"
 | .ref p=>(T="list" /\∃xs,SqL K H p xs)\/(T="tuple" /\∃o,K.lookup p=Fk o/\o.cls=.type "tuple" /\o.dict=uk)∨
    (T="dict" /\((∃kvs,H p=Fk (.dK kvs))\/∃kvs,H p=Fk (.dT kvs)))\/(T="set" /\∃S n,H p=Fk (.set S n))
 |_=>xt
theorem dC{pins:Gc (uu×Obj)}{σ:St}{H:Hp}{s:ur}{T:xl}{x:V}{v:W1}(I:Inv X pins σ H s)(r:RelV x v)(ty:tyV X.K T x H):s.TypeIs v T/\∀a,v=.ref a->∃ob,s.heap.get? a=Fk ob/\ob.dict=none:=by
 cases x with
 |str z=>
  obtain⟨t,rfl⟩:=r
  cases (show T="str" from ty)
  exact⟨AAW s z t,λ_ e=>nomatch e⟩
 |int i=>
  obtain⟨t,rfl⟩:=r
  cases (show T="int" from ty)
  exact⟨ze s i t,λ_ e=>nomatch e⟩
 |ref p=>
  cases r
  rcases ty with⟨rfl,xs,hq⟩|⟨rfl,o,hk,hc,hd⟩|⟨rfl,hk⟩|⟨rfl,S,n,hk⟩
  .obtain⟨its,_,pl,_⟩:=I.list hq
   refine⟨pl.isList.typeIs,λa e=>?_⟩
   cases e
   obtain⟨o,n,e,c,hd,_⟩:=pl
   exact⟨o,e,hd⟩
  .refine⟨⟨o,I.kIn p o hk,hc⟩,λa e=>?_⟩
   cases e
   exact⟨o,I.kIn _ o hk,hd⟩
  .have z:∃o,s.heap.get? p=Fk o/\o.ExactDict:=by
    rcases hk with⟨kvs,hk⟩|⟨kvs,hk⟩
    .obtain⟨_,_,_,_,o,_,_,e,ex,_⟩:=I.hok p _ hk
     exact⟨o,e,ex⟩
    .obtain⟨_,_,_,_,o,_,_,e,ex,_⟩:=I.hok p _ hk
     exact⟨o,e,ex⟩
   obtain⟨o,e,ex⟩:=z
   refine⟨⟨o,e,ex.1⟩,λa e2=>?_⟩
   cases e2
   exact⟨o,e,ex.2.1⟩
  .obtain⟨o,_,_,_,e,ex,_⟩:=I.hok p _ hk
   refine⟨⟨o,e,ex.1⟩,λa e2=>?_⟩
   cases e2
   exact⟨o,e,ex.2.1⟩
 |_=>exact wt ty
noncomputable def sM(K:Wp)(T:xl)(r:V->Gc V->Hp->VK->Prop)(to:TE):TE:=λσ H Q=>to σ H λx H1=>tyV K T x H1/\r x [] H1 Q
noncomputable def tBM(K:Wp)(T:xl)(r:V->Gc V->Hp->VK->Prop)(to:TE)(t:TA):TE:=λσ H Q=>to σ H λx H1=>tyV K T x H1/\t σ H1 λxs H2=>r x xs H2 Q
variable{o e:vU}{es:Gc vU}{to:TE}{t:TA}{name:Str}{apos cpos:Pos}{T id:xl}{r:V->Gc V->Hp->VK->Prop}
theorem jO(pa:PlainAttrs T)(slot:Slot T name id)(hty:typeOf (.builtin id)=pure (.type "method_descriptor"))(hm:MtR X id r)(ho:PE X o to)(hbase:attributeBase o name X.env (eval o X.env)=eval o X.env:=by rfl)(hline:(apos.endLine==cpos.line)=true:=by rfl):PE X (.Call (.Attribute o name apos) [] [] cpos) (sM X.K T r to):=by
 intro pins s σ H Q I h
 refine wpAny_Call_method0_late hbase hline (thn (ho pins s σ H _ I h) λv s1 ⟨x,H1,I1,r1,ty,q1⟩=>?_)
 obtain⟨h1,h2⟩:=dC I1 r1 ty
 exact⟨T,id,pa,slot,hty,h1,h2,AA9 rfl (PySem.evalArgs_none (hm pins s1 σ H1 x [] v [] Q I1 r1 .nil q1))⟩
theorem pb(pa:PlainAttrs T)(slot:Slot T name id)(hty:typeOf (.builtin id)=pure (.type "method_descriptor"))(hm:MtR X id r)(ho:PE X o to)(ha:PA X (e::es) t)(hbase:attributeBase o name X.env (eval o X.env)=eval o X.env:=by rfl)(hfew:((backTo cpos (vP (e::es) X.env)).all (λx=> !x.1) && (backToKw cpos (keywordEach [] X.env)).all (λx=>x.1.isSome) && decide ((e::es).length+([]:Gc AAg).length+(if([]:Gc AAg).isEmpty then 0 else 1)<30))=true:=by rfl)(hline:(apos.endLine==cpos.line)=true:=by rfl)(hs:vP (e::es) X.env=(false,eval e X.env)::vP es X.env:=by rfl)(hplain:(backTo cpos (vP es X.env)).any (·.1)=false:=by rfl):PE X (.Call (.Attribute o name apos) (e::es) [] cpos) (tBM X.K T r to t):=by
 intro pins s σ H Q I h
 refine wpAny_Call_method_late hbase hfew hline rfl (thn (ho pins s σ H _ I h) λv s1 ⟨x,H1,I1,r1,ty,q1⟩=>?_)
 obtain⟨h1,h2⟩:=dC I1 r1 ty
 refine⟨T,id,pa,slot,hty,h1,h2,?_⟩
 have hA:=ha cpos pins s1 σ H1 _ I1 q1
 rw[hs]at hA⊢
 refine AA9 (by show(false||(backTo cpos (vP es X.env)).any (·.1))=false;rw[hplain]<;>rfl) (ABZ ?_)
 exact thn hA λus s2 ⟨vs,H2,I2,r2,q2⟩=>hm pins s2 σ H2 x vs v us Q I2 r1 r2 q2
end
end L2
namespace L2
open PySem PySem.Spec PyProof.Rows
def MtM(X:Cx)(id:xl)(r:V->Gc V->Hp->VK->Prop):Prop:=
 ∀(pins:Gc (uu×Obj)) (s:ur) (σ:St) (H:Hp) (x:V) (xs:Gc V) (v:W1) (us:Gc W1) (Q:VK),Inv X pins σ H s->RelV x v->Vals xs us->r x xs H Q->
  wpAny (model X.prog X.w) X.A (call (.builtin id) (v::us)) (EP X pins σ Q) X.xe s
theorem Vals.one:∀{x:V} {us:Gc W1},Vals [x] us->∃u,us=[u]/\RelV x u:=λh=>by
 cases h with
 |cons r t=>cases t;exact⟨_,rfl,r⟩
theorem Vals.two:∀{x y:V} {us:Gc W1},Vals [x,y] us->∃u v,us=[u,v]/\RelV x u/\RelV y v:=λh=>by
 cases h with
 |cons r t=>
  cases t with
  |cons q t=>cases t;exact⟨_,_,rfl,r,q⟩
theorem Vals.rep{xs:Gc V}{us:Gc W1}(h:Vals xs us):∀k:Nat,Vals (vC k xs).flatten (vC k us).flatten
 |0=>.nil
 |k+1=>by
  rw[xO,xO,yC,yC]
  exact Vals.append h (Vals.rep h k)
theorem foldl_rep(its:Gc W1):∀(k:Nat) (acc:Gc W1),ACC (λx1 x2=>x1++x2) acc.toArray (vC k its.toArray)=(acc++(vC k its).flatten).toArray
 |0,acc=>by simp
 |k+1,acc=>by
  have e:acc.toArray++its.toArray=(acc++its).toArray:=by simp
  have e2:(acc++its)++(vC k its).flatten=acc++(vC (k+1) its).flatten:=by
   rw[xO,yC,yf]
  rw[<-e2,<-foldl_rep its k (acc++its),<-e,xO,List.foldl_cons]
section
variable{X:Cx}{pins:Gc (uu×Obj)}{σ:St}{H:Hp}{s:ur}{l b:uu}{xs ys zs:Gc V}
theorem Inv.oR{its its':Gc W1}{n:Nat}{f:wK W1->wK W1}{t':Nat}(I:Inv X pins σ H s)(hH:H l=Fk (.lst xs))(e:s.heap.get? l=Fk {cls:=.type "list",data:=.seq its.toArray n})(hf:f its.toArray=its'.toArray)(hv:Vals ys its')(hz:ys.length<=sizeLine):Inv X pins σ (upd H l (.lst ys)) {s with heap:=s.heap.update l (AAV f),toks:=t'}:=by
 have q:=PySem.IsL.update e f
 rw[hf]at q
 refine I.write (x:=l) (e:=l) (by rw[hH];exact trivial) (.inl rfl) (λb' u hb hu=>(yT s.heap (AAV f) (wu hb)).trans hu) ⟨_,q⟩ ?_
 exact⟨hz,its',_,hv,q⟩
theorem Inv.rH{its:Gc W1}{t':Nat}(I:Inv X pins σ H s)(hv:Vals ys its)(hz:ys.length<=sizeLine):Inv X pins σ (upd H s.heap.objs.size (.lst ys)) {s with heap:=s.heap.push {cls:=.type "list",data:=.seq its.toArray},toks:=t'}:=
 I.laid (λ_ _ q=>tz _ q) (u4 _) ⟨hz,its,0,hv,vM _ rfl⟩
theorem Inv.fresh(I:Inv X pins σ H s):H s.heap.objs.size=none:=I.hok.fresh (u4 _)
theorem Inv.cX(I:Inv X pins σ H s)(hH:H l=Fk (.lst xs)):xs.length<=sizeLine/\∃(its:Gc W1) (n:Nat),Vals xs its/\xs.length=its.length/\s.heap.get? l=Fk {cls:=.type "list",data:=.seq its.toArray n}:=by
 obtain⟨z,its,n,r,e⟩:=I.hok l _ hH
 exact⟨z,its,n,r,r.length,e⟩
theorem TV{n:Nat}(h:n<=sizeLine):xA n=false:=by
 unfold xA
 exact xy (by lia)
end
section
variable{X:Cx}
def fA:V->Gc V->Hp->VK->Prop:=λx vs H Q=>∃l xs y,x=.ref l/\vs=[y]/\H l=Fk (.lst xs)/\xs.length<sizeLine/\Q .non (upd H l (.lst (xs++[y])))
theorem Up:MtM X "list.append" fA:=by
 intro pins s σ H x vs v us Q I rx rv h
 obtain⟨l,xs,y,rfl,rfl,hH,hz,q⟩:=h
 cases rx
 obtain⟨u,rfl,ru⟩:=rv.one
 obtain⟨z,its,n,r,hl,e⟩:=I.cX hH
 refine zf vx ⟨_,e,rfl⟩ F.entry_list_append (F.args_list_append_2 _ _) (PySem.list_append l its.toArray n u (by rw[vF];lia)) ⟨e,?_⟩
 refine⟨.non,_,I.oR (its':=its++[u]) hH e (by simp) (r.append (.cons ru .nil)) ?_,rfl,q⟩
 rw[wM,ABS]
 lia
def gH:V->Gc V->Hp->VK->Prop:=λx vs H Q=>∃l b xs zs,x=.ref l/\vs=[.ref b]/\H l=Fk (.lst xs)/\H b=Fk (.lst zs)/\xs.length+zs.length<=sizeLine/\Q .non (upd H l (.lst (xs++zs)))
theorem YD:MtM X "list.extend" gH:=by
 intro pins s σ H x vs v us Q I rx rv h
 obtain⟨l,b,xs,zs,rfl,rfl,hH,hB,hz,q⟩:=h
 cases rx
 obtain⟨u,rfl,ru⟩:=rv.one
 cases ru
 obtain⟨z,its,n,r,hl,e⟩:=I.cX hH
 obtain⟨z2,its2,n2,r2,hl2,e2⟩:=I.cX hB
 have hsz:its.toArray.size+its2.toArray.size<=sizeLine:=by rw[vF,vF];lia
 have hlong:¬(!its.toArray.isEmpty && xA (its.toArray.size+its2.toArray.size))=true:=by
  rw[TV hsz,AAX]
  exact vz
 refine zf zu ⟨_,e,rfl⟩ ABv (ABa _ _)
  (AutoSeq1.list_extend_list_list_0 l its.toArray n b its2.toArray n2 hlong (by rw[vF];lia) (by lia)) ⟨e,e2,?_⟩
 refine⟨.non,_,I.oR (its':=its++its2) hH e (by simp) (r.append r2) ?_,rfl,q⟩
 rw[wM]
 lia
noncomputable def sF:R2:=λx y H Q=>∃l b xs zs,x=.ref l/\y=.ref b/\H l=Fk (.lst xs)/\H b=Fk (.lst zs)/\xs.length+zs.length<=sizeLine/\∀p,H p=uk->Q (.ref p) (upd H p (.lst (xs++zs)))
theorem kz:OpR X (binaryOp .Add) sF:=by
 intro pins s σ H x y v u Q I rx ry h
 obtain⟨l,b,xs,zs,rfl,rfl,hH,hB,hz,q⟩:=h
 cases rx
 cases ry
 obtain⟨z,its,n,r,hl,e⟩:=I.cX hH
 obtain⟨z2,its2,n2,r2,hl2,e2⟩:=I.cX hB
 refine PySem.P.add_list e e2 ?_ (by rw[vF,vF];lia)
 have ea:its.toArray++its2.toArray=(its++its2).toArray:=by simp
 rw[ea]
 exact⟨.ref _,_,I.rH (t':=s.toks) (r.append r2) (by rw[wM];lia),rfl,q _ I.fresh⟩
noncomputable def uK:R2:=λx y H Q=>∃l k xs,x=.ref l/\y=.int k/\H l=Fk (.lst xs)/\ -(2^63)<=k/\k<2^63/\xs.length*k.toNat<=sizeLine/\
 ∀p,H p=uk->Q (.ref p) (upd H p (.lst (vC k.toNat xs).flatten))
theorem len_rep{α:Type}(xs:Gc α)(k:Nat):(vC k xs).flatten.length=k*xs.length:=by
 induction k with
 |zero=>simp
 |succ k ih=>rw[xO,yC,wM,ih,Nat.succ_mul,ABA]
theorem iQ:OpR X (binaryOp .Mult) uK:=by
 intro pins s σ H x y v u Q I rx ry h
 obtain⟨l,k,xs,rfl,rfl,hH,h1,h2,hz,q⟩:=h
 cases rx
 obtain⟨t,rfl⟩:=ry
 obtain⟨z,its,n,r,hl,e⟩:=I.cX hH
 have hlen:its.toArray.size*k.toNat<=sizeLine:=by rw[vF,<-hl];exact hz
 have hcap:¬its.toArray.size*k.toNat>(2^63-1) / 8:=by
  have:(sizeLine:Nat)<=(2^63-1) / 8:=by decide
  lia
 have hfit:¬(!Builtin.List.listFitsIndex k)=true:=by
  rw[fitsIndex_both h1 h2]
  exact vz
 have hlong:¬xA (its.toArray.size*k.toNat)=true:=by
  rw[TV hlen]
  exact vz
 have hnew:ACC (λx1 x2=>x1++x2) #[] (vC (if its.toArray.isEmpty=true then 0 else k.toNat) its.toArray)=(vC k.toNat its).flatten.toArray:=by
  have f0:∀m:Nat,ACC (λx1 x2=>x1++x2) #[] (vC m its.toArray)=(vC m its).flatten.toArray:=λm=>by
   have:=foldl_rep its m []
   rw[vX]at this
   exact this
  rw[f0]
  cases its with
  |nil=>simp
  |cons a r'=>rw[vf (by simp)]
 refine yz (T:="list") (U:="int") (by decide) ⟨_,e,rfl⟩ (λs'=>ze s' k t) noFill_list_mul ABI ya repeat_list AA1.lookup
  (zf ya (ze s k t) AA2 (AAj _ _) (int___rmul___int_list k t l its.toArray n)
    ⟨e,rfl,⟨_,e,rfl⟩,zf F.slot_list_mul ⟨_,e,rfl⟩ F.entry_list_mul (F.args_list_mul_2 _ _) (AutoListH.list___mul___list_int_3 l its.toArray n k t hfit hcap hlong) ⟨e,?_⟩⟩)
 rw[hnew]
 exact⟨.ref _,_,I.rH (t':=s.toks) (r.rep k.toNat) (by rw[len_rep,yU];exact hz),rfl,q _ I.fresh⟩
end
section
variable{prog:vR}{w:vi}{A:vj}{E:W1->ur->Prop}{s:ur}
end
section
variable{X:Cx}
end
end L2
namespace Att
open PySem PySem.W PySem.Calls PyProof.Rows
theorem ints_of_wellAll{P:Params}{h:ve}:∀(ns:Gc Int) (vs:Gc W1),WellAll P h vs (ns.map WData.int)->xI vs ns:=by
 intro ns
 induction ns with
 |nil=>
  intro vs w
  rw[wc]at w
  cases w
  exact .nil
 |cons n ns ih=>
  intro vs w
  rw[vT]at w
  cases w with
  |cons a b=>
   cases a
   exact .cons _ _ (ih _ b)
theorem script_of{l:AA3}{n:Nat}(hn:l.most=Fk n){P:Params}{h:ve}{args:Gc WData}{vals:Gc W1}(hpre:l.row.toRowW.claim.pre args=true)(hwl:WellAll P h vals args):∃a vs ns,vals=[wN a]/\args=[WData.list (ns.map WData.int)]/\h.get? a=Fk {cls:=.type "list",data:=.seq vs.toArray}/\xI vs ns/\ns.length<=n:=by
 have hsh:WShape.hasAll [] args [.list .int]=true:=(pre_splitW hpre).1
 have hc:l.pre.holds [] {args:=args}=true:=(pre_splitW hpre).2
 obtain⟨d,r,rfl,h1,h2⟩:=hasAllW_cons hsh
 obtain rfl:=hasAllW_nil h2
 obtain⟨xs,rfl,h3⟩:=hasW_list h1
 obtain⟨ns,rfl⟩:=items_int h3
 have hlen:ns.length<=n:=by
  unfold OpenLaw.pre at hc
  have h4:(WTm.not (.lt (.lit (.int (n:Int))) (.len (.arg 0)))).holds [] {args:=[.list (ns.map .int)]}=true:=by
   have h4:=(holds_andW hc).1
   rw[hn]at h4
   exact h4
  have h5:=condW_of h4 (w_not (w_lt w_lit (w_len_list (w_arg rfl))))
  rw[vW]at h5
  refine Nat.le_of_not_lt λq=>?_
  have q':(n:Int)<((ns.length:Nat):Int):=by lia
  first
   |(rw[xZ q']at h5;exact absurd h5 (by decide))
   |(simp at h5;lia)
 cases hwl with
 |cons w1 w2=>
  cases w2
  cases w1 with
  |list ho hall=>exact⟨_,_,ns,rfl,rfl,ho,ints_of_wellAll ns _ hall,hlen⟩
theorem post_true(l:AA3)(args:Gc WData):l.row.toRowW.claim.post args (.bool true) args=true:=
 postW_of (r:=l.row.toRowW) (X:=(true==true))
  (show WShape.has [] (.bool true) .bool=true by first|rfl|decide|simp[WShape.has,WShape.arms,WShape.armsAll])
  (show(WTm.eq .res (.lit (.bool true))).value [] {args:=args,res:=Fk (.bool true),after:=args}=Fk (.bool (true==true))from w_eq_bool (w_res rfl) w_lit) rfl
theorem attach_call{l:AA3}{n:Nat}{q:vR}{loose:Gc Str}{XP:(Str->uo W1)->ve->Prop}{YP:vi->ve->Prop}{d:DefRec}(hn:l.most=Fk n)(hdf:d.params.defaults=[])(call:∀(w:vi) (s₀ s₁:ur) (mg mb:Str->uo W1) (fa:uu) (o:Obj) (pm cd doc:W1) (a:uu) (vs:Gc W1) (ns:Gc Int),Ground q loose [] XP w s₀ mg mb s₁.heap->YP w s₁.heap->s₁.heap.get? fa=Fk o->o.data=.func (docDef d.name d.params d.body d.scope pm cd doc)->s₁.heap.CodeRec cd d.name->mg d.name=Fk (.ref fa)->s₁.heap.get? a=Fk {cls:=.type "list",data:=.seq vs.toArray}->xI vs ns->ns.length<=n->s₁.gens= #[]->codeAny (model l.prog w) callerA (.call (.ref fa) ⟨[.ref a],[]⟩) (λr s'=>r=.ok (.ret (.bool true))/\OldK s₁.heap s'.heap/\s'.os=s₁.os/\zF s'.gens) s₁):WalkO q loose XP YP l.row.toRowW d [] (λf vs=>PySem.call f vs):=by
 intro w s₀ s₁ mg mb G Y fa o pm cd doc dV kV ho hd hcd hD hmg hg args vals as hpre hlay hrd hwl hlo
 obtain rfl:dV=.none:=Dflts.none hD hdf
 obtain rfl:kV=.none:=Dflts.noKw hD
 obtain⟨a,vs,ns,rfl,rfl,hobj,hints,hlen⟩:=script_of hn hpre hwl
 refine enter_call (yq (call w s₀ s₁ mg mb fa o pm cd doc a vs ns G Y ho (fd_plain hd) hcd hmg hobj hints hlen hg) λr s' hq=>?_)
 obtain⟨rfl,h2,h3,h4⟩:=hq
 exact⟨.inl ⟨.bool true,.bool true,[],rfl,λ_=>rfl,.bool true,post_true l _,λ_=>⟨List.Pairwise.nil,λ_ hm=>(nomatch hm)⟩⟩,h2,h3,h4⟩
section
variable{prog:vR}{w:vi}{A:vj}{E:W1->ur->Prop}{s:ur}{K:Wp}
end
end Att
namespace L2
open PySem PySem.Spec PyProof.Rows
theorem Uj:∀{vs:Gc W1} {ns:Gc Int},xI vs ns->Vals (ns.map V.int) vs
 |_,_,.nil=>.nil
 |_,_,.cons n t h=>.cons ⟨t,rfl⟩ (Uj h)
end L2
namespace L2
open PySem PySem.Spec PyProof.Rows
abbrev KOf{K:Wp}{h:ve}(_:K.In h):Wp:=K
end L2
namespace L2
open PySem PySem.Spec PyProof.Rows
noncomputable def N3(s:vh):AAM:=match s with
 | .FunctionDef _ a _ _ _ _ _ _ _ _=>a
 |_=>{posonlyargs:=[],args:=[],vararg:=uk,kwonlyargs:=[],kw_defaults:=[],kwarg:=uk,defaults:=[]}
noncomputable def D3(s:vh):Gc vh:=match s with
 | .FunctionDef _ _ b _ _ _ _ _ _ _=>b
 |_=>[]
noncomputable def AI(s:vh):wX:=match s with
 | .FunctionDef _ _ _ _ _ _ sc _ _ _=>sc
 |_=>{kind:=.function,names:=[],isGenerator:=false,isCoroutine:=false}
abbrev CX0:CXT:=λ_ _ _ _ _ _=>xt
abbrev E0:XK:=λ_ _ _=>xt
theorem pf{X:Cx}:Passes CX0 X E0:=λ_ _ _ _ _ _ _ h=>h.elim
structure Fun(K:Wp)(x qual:Str)(st:vh)(f:uu)(fd:xH):Prop where
 ex:∃(oc:W1) (od:uo uu) (kV doc pm:W1) (an:uo uu) (cdv ct:W1) (osl:wK (uo W1)),
  fd=yS x qual (N3 st) (D3 st) (AI st) .none kV doc pm an cdv ct/\K.lookup f=Fk ⟨oc,od,.func fd,osl⟩/\AAQ K cdv qual=true
 kp:xY K (.ref f)=true
section
variable{P:vR}{w:vi}{K:Wp}{mg:Str->uo W1}{base:ve}
theorem Fun.ok{x qual:Str}{st:vh}{f:uu}{fd:xH}{N ps:Gc Str}{k:Nat}{sp:Sp}(F:Fun K x qual st f fd)(S:AQ N ps (AI st))(len:∀vs H Q E,sp vs H Q E->vs.length=ps.length)(hbody:∀(cdv:W1) (A:vj) (outer:Gc Env) (s:ur) (H:Hp) (vs:Gc V) (Q:VK) (E:XK),JS k (A.deeper (envOfC qual (AI st) s.heap.objs.size f cdv))->sp vs H Q E->∃t,PSs (OT CX0 P w K mg base N qual (AI st) f cdv A outer s H E).nox (D3 st) t/\t {nx:=λ_ H'=>Q .non H',rt:=Q} (start N vs) H):WH P w K mg base CX0 (k+1) f fd ps sp:=by
 obtain⟨oc,od,kV,doc,pm,an,cdv,ct,osl,rfl,lk,hcd⟩:=F.ex
 refine gh lk hcd S len λA outer s H vs Q E hr hsp=>?_
 obtain⟨t,h,q⟩:=hbody cdv A outer s H vs Q E hr hsp
 exact⟨t,h.nox,q⟩
theorem Fun.binds{x qual:Str}{st:vh}{f:uu}{fd:xH}{ps:Gc Str}(F:Fun K x qual st f fd)(h:∀(kV doc pm:W1) (an:uo uu) (cdv ct:W1) (us:Gc W1),us.length=ps.length->bindArgs (yS x qual (N3 st) (D3 st) (AI st) .none kV doc pm an cdv ct) ⟨us,[]⟩=pure (ps.zip us)):Binds K fd ps []:=by
 obtain⟨oc,od,kV,doc,pm,an,cdv,ct,osl,rfl,lk,hcd⟩:=F.ex
 exact .all (h kV doc pm an cdv ct)
theorem iq{x qual:Str}{st:vh}{f:uu}{oc:W1}{od an:uo uu}{osl:wK (uo W1)}{kV doc pm cdv ct:W1}(l:K.lookup f=Fk ⟨oc,od,.func (yS x qual (N3 st) (D3 st) (AI st) .none kV doc pm an cdv ct),osl⟩)(c:AAQ K cdv qual=true)(k:xY K (.ref f)=true):Fun K x qual st f (yS x qual (N3 st) (D3 st) (AI st) .none kV doc pm an cdv ct):=⟨⟨oc,od,kV,doc,pm,an,cdv,ct,osl,rfl,l,c⟩,k⟩
end
section
variable{X:Cx}
end
theorem fP{A B:Prop}(h:B):if false=true then A else B:=by
 rw[vf vz]
 exact h
theorem eQ{A B:Prop}(h:A):if true=true then A else B:=by
 rw[va rfl]
 exact h
def DQ(H H':Hp):Prop:=∀b o,H b=Fk o->H' b=Fk o
end L2
end
noncomputable section
namespace L2
open PySem PySem.Spec PyProof.Rows
noncomputable def Ij(cells:Gc (Str×uu)):Gc (Str×yK)->Gc (Str×uu)->Gc (Str×uu)
 | [],cs=>cs
 |(n,k)::r,cs=>if(k==wU)=true then Ij cells r ((n,(cells.lookup n).getD 0)::cs)else Ij cells r cs
theorem Ua{env:Env}:∀(names:Gc (Str×yK)) (cs:Gc (Str×uu)),(∀y∈names,y.2=.free->∃a,env.cells.lookup y.1=Fk a)->(forIn names cs λ(x:Str×yK) r=>match x with|(name,kind)=>if(kind==wU)=true then(do let a<-cellOf env name;pure (z7 ((name,a)::r)))else pure (z7 r):Sem (Gc (Str×uu)))=pure (Ij env.cells names cs)
 | [],cs,_=>by simp[Ij]
 |(n,k)::r,cs,h=>by
  rw[ABJ]
  have ih:=λcs=>Ua r cs λy hy=>h y (uv _ hy)
  by_cases hk:(k==wU)=true
  .obtain⟨a,ha⟩:=h (n,k) vA (by simpa using hk)
   have ha':env.cells.lookup n=Fk a:=ha
   have e:cellOf env n=pure a:=by unfold cellOf;rw[ha']
   simp only[hk,zO,e,pure_bind,Ij,ha',Option.getD_some]
   exact ih _
  .simp only[hk,AAS,pure_bind,Ij]
   exact ih _
theorem TY{scope:wX}{env:Env}(h:∀y∈scope.names,y.2=.free->∃a,env.cells.lookup y.1=Fk a):closureFor scope env=pure (Ij env.cells scope.names []):=by
 unfold closureFor
 have:=Ua (env:=env) scope.names [] h
 simp only[bind_pure]at this⊢
 exact this
theorem Mx{cells:Gc (Str×uu)}{x:Str}{c:uu}:∀{names:Gc (Str×yK)} {cs:Gc (Str×uu)},(∀y∈names,y.2=.free->∃a,cells.lookup y.1=Fk a)->(Ij cells names cs).lookup x=Fk c->cs.lookup x=Fk c\/cells.lookup x=Fk c
 | [],cs,_,h=>.inl h
 |(n,k)::r,cs,hh,h=>by
  have hr:∀y∈r,y.2=.free->∃a,cells.lookup y.1=Fk a:=λy hy=>hh y (uv _ hy)
  unfold Ij at h
  by_cases hk:(k==wU)=true
  .rw[va hk]at h
   rcases Mx hr h with q|q
   .obtain⟨a,ha⟩:=hh (n,k) vA (by simpa using hk)
    have ha':cells.lookup n=Fk a:=ha
    rw[wk]at q
    cases hx:x==n with
    |true=>
     rw[hx,ha']at q
     have e:x=n:=by simpa using hx
     subst e
     cases q
     exact .inr ha'
    |false=>
     rw[hx]at q
     exact .inl q
   .exact .inr q
  .rw[vf hk]at h
   exact Mx hr h
theorem Jr{cells:Gc (Str×uu)}{x:Str}:∀{names:Gc (Str×yK)} {cs:Gc (Str×uu)},((x,wU)∈names\/∃c,cs.lookup x=Fk c)->∃c,(Ij cells names cs).lookup x=Fk c
 | [],cs,h=>h.elim (λz=>nomatch z) id
 |(n,k)::r,cs,h=>by
  unfold Ij
  by_cases hk:(k==wU)=true
  .rw[va hk]
   refine Jr ?_
   by_cases hx:x=n
   .subst hx
    exact .inr ⟨_,by rw[wk,beq_self_eq_true]⟩
   .rcases h with h|⟨c,h⟩
    .rcases uw.mp h with e|e
     .cases e;exact absurd rfl hx
     .exact .inl e
    .refine .inr ⟨c,?_⟩
     rw[wk,show(x==n)=false by simpa using hx]
     exact h
  .rw[vf hk]
   refine Jr ?_
   rcases h with h|h
   .rcases uw.mp h with e|e
    .cases e;exact absurd rfl hk
    .exact .inl e
   .exact .inr h
theorem N9{env:Env}{x:Str}:∀{names:Gc (Str×yK)},names.lookup x=Fk .free->(names.map λ(n,k)=>if(k==wU && env.scope.kind== .function && env.kindOf n==Fk .cell)then(n,ye)else(n,k)).lookup x=Fk .cell\/(names.map λ(n,k)=>if(k==wU && env.scope.kind== .function && env.kindOf n==Fk .cell)then(n,ye)else(n,k)).lookup x=Fk .free
 | [],h=>by simp at h
 |(n,k)::r,h=>by
  have ih:= @N9 env x r
  show List.lookup x ((if(k==wU && env.scope.kind== .function && env.kindOf n==Fk .cell)=true then(n,ye)else(n,k))::_)=_\/List.lookup x ((if(k==wU && env.scope.kind== .function && env.kindOf n==Fk .cell)=true then(n,ye)else(n,k))::_)=_
  cases hx:x==n with
  |true=>
   simp only[wk,hx]at h
   cases h
   by_cases hc:(wU==wU && env.scope.kind== .function && env.kindOf n==Fk .cell)=true
   .rw[va hc];simp only[wk,hx];exact .inl trivial
   .rw[vf hc];simp only[wk,hx];exact .inr trivial
  |false=>
   simp only[wk,hx]at h
   by_cases hc:(k==wU && env.scope.kind== .function && env.kindOf n==Fk .cell)=true
   .rw[va hc];simp only[wk,hx];exact ih h
   .rw[vf hc];simp only[wk,hx];exact ih h
theorem PU{env:Env}{scope:wX}{x:Str}{k':yK}(hk:k'=.cell\/k'=.free)(h:(relabel scope env).names.lookup x=Fk k'):(x,wU)∈scope.names\/(x,ye)∈scope.names:=by
 have hm:=vv h
 obtain⟨⟨n,k⟩,hy,e⟩:=vp.mp (show(x,k')∈scope.names.map _ from hm)
 by_cases hc:(k==wU && env.scope.kind== .function && env.kindOf n==Fk .cell)=true
 .simp only[hc,zO]at e
  cases e
  have:k=.free:=by
   have:=((vE _ _).mp hc).1
   exact zh.mp ((vE _ _).mp this).1
  subst this
  exact .inl hy
 .simp only[hc,AAS]at e
  cases e
  rcases hk with rfl|rfl
  .exact .inr hy
  .exact .inl hy
theorem DC:∀(names:Gc (Str×yK)) (n:Nat) (cs:Gc (Str×uu)),cellsFrom n names cs=cellsFrom n names []++cs
 | [],_,_=>rfl
 |(x,k)::r,n,cs=>by
  unfold cellsFrom
  split
  .rw[DC r _ ((x,n)::cs),DC r _ [(x,n)]];simp
  .exact DC r n cs
theorem KN{x:Str}{c:uu}:∀{names:Gc (Str×yK)} {n:Nat},(x,c)∈cellsFrom n names []->(x,ye)∈names
 | [],_,h=>nomatch h
 |(y,k)::r,n,h=>by
  unfold cellsFrom at h
  split at h
  .rename_i hk
   rw[DC]at h
   rcases vY.mp h with z|z
   .exact uv _ (KN z)
   .have e:=vQ.mp z
    cases e
    rw[zh.mp hk]
    exact vA
  .exact uv _ (KN h)
theorem Nu{M:Model}{A:vj}{E:W1->ur->Prop}{s:ur}{scope:wX}{globals:uu}{cl:Gc (Str×uu)}{qual:Str}{env:Env}{Q:Env->ur->Prop}(hQ:∀h':ve,h'.Ns s.heap.objs.size (λ_=>uk)->(∀b o,s.heap.get? b=Fk o->h'.get? b=Fk o)->CellsOk h' (s.heap.objs.size+1) (cellsFrom (s.heap.objs.size+1) scope.names [])->Q (newEnv scope s.heap.objs.size globals (cellsFrom (s.heap.objs.size+1) scope.names cl) qual uk .none (Fk env) builtinsNs) {s with heap:=h'}):wpAny M A (newFunctionEnv scope globals cl [] qual uk .none (Fk env)) Q E s:=by
 simp only[newFunctionEnv,Option.isSome_some,zO]
 refine um (wpAny_alloc ?_)
 refine um (wpAny_layCells _ (λname kind cells=>by cases hkc:kind==ye<;>simp[hkc]) _ _ _ _ ?_)
 have ok:=cellsFrom_ok scope.names (s.heap.push {cls:=.type "dict",data:=.dict #[]}) (s.heap.objs.size+1) [] ⟨λ_ _ hm=>(nomatch hm),List.Pairwise.nil⟩ (by rw[wg];exact u4 _)
 rw[wg]at ok
 rw[show({s with heap:=s.heap.push {cls:=.type "dict",data:=.dict #[]}}:ur).heap.objs.size=s.heap.objs.size+1 from wg ..]
 rw[ABb]
 refine um (vD (vD ?_))
 exact hQ _ ((Heap.Ns.new s.heap (.type "dict")).keeps (pushCells_keeps _ _)) (λb o e=>pushCells_keeps _ _ b o (tz _ e)) ok
end L2
end
noncomputable section
namespace L2
open PySem PySem.Spec PyProof.Rows
noncomputable def WM(N:Gc Str)(osc scope:wX):Gc Str->Gc (uo Nat)->vm
 | [],[]=>true
 |_::r,uk::q=>WM N osc scope r q
 |x::r,Fk i::q=>decide (N[i]?=Fk x) && (decide (osc.names.lookup x=Fk .cell)||decide (osc.names.lookup x=Fk .free)) && decide (scope.names.lookup x=Fk .free) && WM N osc scope r q
 |_,_=>false
theorem YW{N:Gc Str}{osc scope:wX}:∀{N':Gc Str} {ix:Gc (uo Nat)},WM N osc scope N' ix=true->ix.length=N'.length
 | [],[],_=>rfl
 |_::r,uk::q,h=>by
  unfold WM at h
  simp[YW h]
 |x::r,Fk i::q,h=>by
  unfold WM at h
  have:=((vE _ _).mp h).2
  simp[YW this]
 | [],_::_,h=>by simp[WM]at h
 |_::_,[],h=>by simp[WM]at h
theorem dF{N:Gc Str}{osc scope:wX}:∀{N':Gc Str} {ix:Gc (uo Nat)},WM N osc scope N' ix=true->∀{j i:Nat} {x:Str},N'[j]?=Fk x->ix[j]?=Fk (Fk i)->N[i]?=Fk x/\(osc.names.lookup x=Fk .cell\/osc.names.lookup x=Fk .free)/\scope.names.lookup x=Fk .free
 | [],[],_,j,_,_,h,_=>by simp at h
 |_::r,uk::q,h,j,i,x,h1,h2=>by
  unfold WM at h
  cases j with
  |zero=>simp at h2
  |succ j=>exact dF h (by simpa using h1) (by simpa using h2)
 |y::r,Fk k::q,h,j,i,x,h1,h2=>by
  unfold WM at h
  obtain⟨ha,hr⟩:=(vE _ _).mp h
  obtain⟨ha,h3⟩:=(vE _ _).mp ha
  obtain⟨h4,h5⟩:=(vE _ _).mp ha
  cases j with
  |zero=>
   simp at h1 h2
   subst h1 h2
   refine⟨vH h4,?_,vH h3⟩
   rcases(wQ _ _).mp h5 with z|z
   .exact .inl (vH z)
   .exact .inr (vH z)
  |succ j=>exact dF hr (by simpa using h1) (by simpa using h2)
 | [],_::_,h,_,_,_,_,_=>by simp[WM]at h
 |_::_,[],h,_,_,_,_,_=>by simp[WM]at h
structure AZ(N:Gc Str)(osc:wX)(N':Gc Str)(ix:Gc (uo Nat))(scope:wX):Prop where
 kind:scope.kind=.function
 cells:∀y∈scope.names,y.2=.cell->scope.names.lookup y.1=Fk .cell
 names:∀y∈scope.names,y.2=.local->scope.names.lookup y.1=Fk .local
 free:∀y∈scope.names,y.2=.free->(osc.names.lookup y.1=Fk .cell\/osc.names.lookup y.1=Fk .free)
 ok:WM N osc scope N' ix=true
noncomputable def sig(ix:Gc (uo Nat))(σ:St):St:=ix.map λo=>o.bind λi=>(σ[i]?).join
noncomputable def LD(X:Cx)(N':Gc Str)(scope:wX)(s:ur)(H:Hp)(fp:Gc uu):Cx where
 prog:=X.prog
 w:=X.w
 K:=X.K
 mg:=X.mg
 base:=X.base
 A:=X.A
 N:=N'
 s₀:=s
 H₀:=H
 env:=compEnvC scope (cellsFrom (s.heap.objs.size+1) scope.names (Ij X.env.cells scope.names [])) s.heap.objs.size X.env
 outer:=X.stack
 stack:=X.stack
 ex:=fp
 fn:=λx=>decide (scope.names.lookup x=Fk .cell)
 calm:=true
 pn:=[]
 xe:=λ_ _=>xt
section
variable{X:Cx}{pins:Gc (uu×Obj)}{σ:St}{H:Hp}{s:ur}{N':Gc Str}{ix:Gc (uo Nat)}{scope:wX}{fp:Gc uu}
theorem Inv.cellsOf(I:Inv X pins σ H s)(S:AZ X.N X.env.scope N' ix scope):∀y∈scope.names,y.2=.free->∃a,X.env.cells.lookup y.1=Fk a:=λy hy hk=>I.ok.has y.1 (S.free y hy hk)
theorem bI(S:AZ X.N X.env.scope N' ix scope)(hc:X.calm=true)(I:Inv X pins σ H s)(hf:∀b∈fp,VT X pins H b)(hlt:∀b∈fp,b<s.heap.objs.size){h1:ve}{m1:Str->uo W1}{tk:Nat}(hn:h1.Ns s.heap.objs.size m1)(hk:∀b o,s.heap.get? b=Fk o->h1.get? b=Fk o)(hC:CellsOk h1 (s.heap.objs.size+1) (cellsFrom (s.heap.objs.size+1) scope.names [])):Inv (LD X N' scope s H fp) [] (sig ix σ) H {s with heap:=h1,toks:=tk}:=by
 have hcl:=I.cellsOf S
 have sub:∀{x:Str} {c:uu},(Ij X.env.cells scope.names []).lookup x=Fk c->X.env.cells.lookup x=Fk c:=λ{x c} h=>by
  rcases Mx hcl h with z|z
  .simp at z
  .exact z
 have old:∀{x:Str} {c:uu},X.env.cells.lookup x=Fk c->c<s.heap.objs.size:=λ{x c} h=>by
  obtain⟨v,oc,ho,_⟩:=I.cell x c h
  exact vI ho
 have look:∀{x:Str} {c:uu},(cellsFrom (s.heap.objs.size+1) scope.names (Ij X.env.cells scope.names [])).lookup x=Fk c->(x,c)∈cellsFrom (s.heap.objs.size+1) scope.names []\/X.env.cells.lookup x=Fk c:=λ{x c} h=>by
  rw[DC,zB]at h
  cases e:(cellsFrom (s.heap.objs.size+1) scope.names []).lookup x with
  |some a=>rw[e]at h;cases h;exact .inl (vv e)
  |none=>rw[e]at h;exact .inr (sub h)
 refine⟨⟨I.ok.mod,S.kind,I.ok.glob,I.ok.blt,u4 _,λx y c h1 h2=>?_,λx hx=>?_,λx c hx h=>?_,λ_=>I.ok.hd hc,I.ok.frames,.inl rfl,λb hb=>?_,I.bs,uz I.ok.bsz I.sz,λb o e hb=>?_,λb hb hs=>?_,I.stack,I.Vh⟩,
  rfl,I.bare,Un.kept hk,⟨m1,hn,λj x v h1 h2 h3=>?_⟩,λx c h=>?_,I.hok.fresh (u4 _),λx c h=>?_,λp hp=>absurd (show p∈([]:Gc (uu×Obj))from hp) (by simp),I.hok.kept hk,?_⟩
 . -- inj
   rcases look h1 with a|a<;>rcases look h2 with b|b
   .exact name_of_addr hC.apart a b
   .exact absurd (uy (old b) (yg (hC.empty _ _ a).2)) (wj _)
   .exact absurd (uy (old a) (yg (hC.empty _ _ b).2)) (wj _)
   .exact I.ok.inj x y c a b
 . -- has
   have hx':(relabel scope X.env).names.lookup x=Fk .cell\/(relabel scope X.env).names.lookup x=Fk .free:=hx
   show∃c,(cellsFrom (s.heap.objs.size+1) scope.names (Ij X.env.cells scope.names [])).lookup x=Fk c
   rw[DC,zB]
   cases e:(cellsFrom (s.heap.objs.size+1) scope.names []).lookup x with
   |some a=>exact⟨a,rfl⟩
   |none=>
    rcases(hx'.elim (PU (.inl rfl)) (PU (.inr rfl)))with z|z
    .exact Jr (.inl z)
    .obtain⟨c,hc⟩:=O4 (n:=s.heap.objs.size+1) (S.cells _ z rfl)
     rw[e]at hc;cases hc
 . -- cab
   obtain⟨c',hc'⟩:=O4 (n:=s.heap.objs.size+1) (vH hx)
   have h:(cellsFrom (s.heap.objs.size+1) scope.names (Ij X.env.cells scope.names [])).lookup x=Fk c:=h
   rw[DC,zB,hc']at h
   cases h
   exact yg (hC.empty _ _ (vv hc')).2
 . -- exf
   refine⟨vZ (hlt b hb),λx c h=>?_⟩
   rcases look h with a|a
   .exact λe=>absurd (uy (e▸hlt b hb) (yg (hC.empty _ _ a).2)) (wj _)
   .exact(hf b hb).2.2.2.2.1 x c a
 . -- cn
   rcases(hf b hb).2.2.2.1 with z|z
   .exact I.ok.cn b o e z
   .exact absurd (uy (vI (I.ok.bs b o e).1) z) (wj _)
 . -- eF
   rcases uw.mp (I.Za b hs)with z|z
   .exact(hf b hb).2.1 z
   .exact(hf b hb).2.2.1 z
 . -- loc
   unfold sig at h2
   rw[vG]at h2
   cases e:ix[j]? with
   |none=>rw[e]at h2;cases h2
   |some o=>
    rw[e]at h2
    cases o with
    |none=>cases h2
    |some i=>
     have h2':(σ[i]?).join=Fk v:=by simpa using h2
     have h4:σ[i]?=Fk (Fk v):=by
      cases e4:σ[i]? with
      |none=>rw[e4]at h2';cases h2'
      |some q=>rw[e4]at h2';exact congrArg Fk h2'
     obtain⟨q1,q2,q3⟩:=dF S.ok h1 e
     obtain⟨m,_,hl⟩:=I.loc
     obtain⟨u,r,l⟩:=hl i x v q1 h4 (q2.elim (λz=>.inr (.inl z)) λz=>.inr (.inr z))
     refine⟨u,r,?_⟩
     rcases l with⟨l,_⟩|⟨_,c,lc,z⟩
     .have l':X.env.scope.names.lookup x=Fk .local:=l
      rcases q2 with z|z<;>(rw[z]at l';cases l')
     .refine .inr ⟨N9 q3,?_⟩
      obtain⟨c',hc'⟩:=Jr (cells:=X.env.cells) (cs:=[]) (.inl (vv q3))
      have ec:=sub hc'
      rw[lc]at ec
      cases ec
      have no:(cellsFrom (s.heap.objs.size+1) scope.names []).lookup x=none:=by
       cases e:(cellsFrom (s.heap.objs.size+1) scope.names []).lookup x with
       |none=>rfl
       |some a=>
        have q:=S.cells _ (KN (vv e)) rfl
        rw[q3]at q;cases q
      refine⟨c,(by show(cellsFrom (s.heap.objs.size+1) scope.names (Ij X.env.cells scope.names [])).lookup x=Fk c;rw[DC,zB,no];exact hc'),?_⟩
      obtain⟨oc,ho,hd⟩:=z
      exact⟨oc,hk _ _ ho,hd⟩
 .rcases look h with a|a
  .exact⟨_,(hC.empty _ _ a).1⟩
  .obtain⟨v,oc,ho,hd⟩:=I.cell x c a
   exact⟨v,oc,hk _ _ ho,hd⟩
 .rcases look h with a|a
  .exact I.hok.fresh (yg (hC.empty _ _ a).2)
  .exact I.Mw x c a
 .show(sig ix σ).length=N'.length
  unfold sig
  rw[vW]
  exact YW S.ok
end
end L2
end
noncomputable section
namespace L2
open PySem PySem.Spec PyProof.Rows
def PTs(X:Cx)(ifs:Gc vU)(t:TT):Prop:=
 ∀(pins:Gc (uu×Obj)) (s:ur) (σ:St) (H:Hp) (Q:vm->Hp->Prop),Inv X pins σ H s->t σ H Q->
  wpAny (model X.prog X.w) X.A (forIn ifs true λc r=>if r=true then do let ok<-isTrue c X.env (eval c X.env);pure (z7 ok)else pure (z7 r)) (TP X pins σ Q) X.xe s
noncomputable def qS:TT:=λ_ H Q=>Q true H
theorem fH{X:Cx}:PTs X [] qS:=λ_ _ _ H _ I h=>wpAny_tests_nil ⟨H,I,h⟩
theorem dw{X:Cx}{c:vU}{t:TT}(h:PT X c t):PTs X [c] t:=λpins s σ H Q I q=>wpAny_tests_one (h pins s σ H Q I q)
theorem bx{α:Type}{M:Model}{A:vj}{t:Sem α}{Q:α->ur->Prop}{E:W1->ur->Prop}{s:ur}(h:wpAny M A t Q (λ_ _=>xt) s):wpAny M A t Q E s:=we h (λ_ _ q=>q) λ_ _ f=>f.elim
def kn(ix:Gc (uo Nat))(g:TG)(tc:TT)(te:TE)(J:It)(σ:St)(H:Hp)(Q:VK):Prop:=
 ∀D,H D=uk->∃W:Nat->Nat->St->Hp->Gc V->Prop,(∃m,W 0 m (sig ix σ) (upd H D (.lst [])) [])/\∀i m σ H ys,W i m σ H ys->H D=Fk (.lst ys)/\
  ((J.stop i H/\Q (.ref D) H)\/(J.go i H/\ys.length<sizeLine/\∀x H',J.yld i H x H'->g x σ H' λσ2 H2=>tc σ2 H2 λb H3=>
    if b=true then te σ2 H3 λy H4=>H4 D=Fk (.lst ys)/\∃m',m'<m/\W (i+1) m' σ2 (upd H4 D (.lst (ys++[y]))) (ys++[y])else∃m',m'<m/\W (i+1) m' σ2 H3 ys))
noncomputable def fL(ix:Gc (uo Nat))(wi:TI)(g:TG)(tc:TT)(te:TE):TE:=λσ H Q=>wi σ H λJ H1=>kn ix g tc te J σ H1 Q
section
variable{X:Cx}{pins:Gc (uu×Obj)}{σ:St}{s₂:ur}{N':Gc Str}{ix:Gc (uo Nat)}{scope:wX}{elt tg iter:vU}{ifs:Gc vU}{pos:Pos}{g:TG}{tc:TT}{te:TE}
def Block(X:Cx)(N':Gc Str)(scope:wX)(tg:vU)(ifs:Gc vU)(elt:vU)(g:TG)(tc:TT)(te:TE):Prop:=
 ∀(s:ur) (H:Hp) (fp:Gc uu),PG (LD X N' scope s H fp) tg g/\PTs (LD X N' scope s H fp) ifs tc/\PE (LD X N' scope s H fp) elt te
theorem Yu {X' : Cx} {it : uu} {fp : Gc uu} {tn : Nat -> ve -> Prop} {J : It} {D : uu} {Q : VK} {R : Result -> ur -> Prop} {W : Nat -> Nat -> St -> Hp -> Gc V -> Prop} {s : ur} {e : Env} {n : Nat} (he : X'.env = e) (hx : X'.xe = fun _ _ => xt) (hcm : X'.calm = true) (T : Turn X'.prog X'.w X'.K tg J fp it tn) (hfp : ∀ H : Hp, (∀ b ∈ fp, H b = uk) -> ∀ b ∈ fp, VT X' [] H b) (hg : PG X' tg g) (ht : PTs X' ifs tc) (hb : PE X' elt te) (turn : ∀ i m σ H ys, W i m σ H ys -> H D = Fk (.lst ys) /\ ((J.stop i H /\ Q (.ref D) H) ∨ (J.go i H /\ ys.length < sizeLine /\ ∀ x H', J.yld i H x H' -> g x σ H' fun σ2 H2 => tc σ2 H2 fun b H3 =>
        if b = true then te σ2 H3 fun y H4 => H4 D = Fk (.lst ys) /\ ∃ m', m' < m /\ W (i + 1) m' σ2 (upd H4 D (.lst (ys ++ [y]))) (ys ++ [y]) else ∃ m', m' < m /\ W (i + 1) m' σ2 H3 ys)))
    (hR : ∀ s' σ' H', Inv X' [] σ' H' s' -> Q (.ref D) H' -> R (.ok .next) s')
    (h0 : ∃ i σ' H' ys, Inv X' [] σ' H' s /\ tn i s.heap /\ (∀ b ∈ fp, H' b = uk) /\ W i n σ' H' ys) :
    codeAny (model X'.prog X'.w) X'.A (.compLoop (.ListComp elt [⟨tg, iter, ifs, 0⟩] scope pos) 0 (.ref it) (.ref D) e) R s := by
  subst he
  refine codeAny_loop rfl (fun n s => ∃ i σ' H' ys, Inv X' [] σ' H' s /\ tn i s.heap /\ (∀ b ∈ fp, H' b = uk) /\ W i n σ' H' ys) (fun n s3 hI => ?_) n h0
  show wpAny _ X'.A ((compTurn (.ListComp elt [⟨tg, iter, ifs, 0⟩] scope pos) 0 (.ref it) (.ref D) X'.env).onRaise (fun x => do noteFrame x X'.env; theTreesLotGoes x)) _ _ s3
  refine wpAny_noted (bx ?_)
  rw [compTurn_list]
  obtain ⟨i, σ3, H3, ys, I3, st3, fr3, w3⟩ := hI
  obtain ⟨hD, alt⟩ := turn i n σ3 H3 ys w3
  rcases alt with ⟨stop, q⟩ | ⟨go, hlen, step⟩
  · refine um (y4 (um (thn (T.done X' rfl rfl rfl hcm i [] s3 σ3 H3 _ I3 (hfp H3 fr3) st3 stop) fun r s4 ⟨hr, I4⟩ => ?_)))
    subst hr
    exact vD (hR s4 σ3 H3 I4 q)
  · refine um (y4 (um (thn (T.item X' rfl rfl rfl hcm i [] s3 σ3 H3 _ I3 (hfp H3 fr3) st3 go) fun r s4 ⟨u, hr, h4⟩ => ?_)))
    subst hr
    refine um (thn h4 fun _ s5 ⟨x, H5, I5, r5, y5, st5, fr5⟩ => ?_)
    have I5' := I5.pinned (hfp H5 fr5) (T.obj _ _ st5)
    have hg' := hg _ s5 σ3 H5 x u _ I5' r5 (step x H5 y5)
    rw [hx] at hg'
    refine um (thn hg' fun _ s6 ⟨σ6, H6, I6, q6⟩ => ?_)
    have ht' := ht _ s6 σ6 H6 _ I6 q6
    rw [hx] at ht'
    refine um (thn ht' fun ok s7 ⟨H7, I7, q7⟩ => ?_)
    have again : ∀ {s8 : ur} {H8 : Hp} {zs : Gc V} {m' : Nat}, Inv X' ([] ++ Ub fp s5.heap) σ6 H8 s8 -> m' < n -> W (i + 1) m' σ6 H8 zs -> ∃ m, m < n /\ ∃ i σ' H' ys, Inv X' [] σ' H' s8 /\ tn i s8.heap /\ (∀ b ∈ fp, H' b = uk) /\ W i m σ' H' ys := fun {s8 H8 zs m'} I8 hm w8 => by
      refine ⟨m', hm, i + 1, σ6, H8, zs, I8.Oo, T.keep _ _ _ st5 fun b hb o e => (I8.pin (b, o) (vy _ (vy _ (Lj hb e)))).1, fun b hb => ?_, w8⟩
      obtain ⟨o, e, d⟩ := T.obj _ _ st5 b hb
      exact (I8.pin (b, o) (vy _ (vy _ (Lj hb e)))).2.1
    cases ok with
    | false =>
      rw [vf (by decide)] at q7
      obtain ⟨m', hm, w7⟩ := q7
      exact vD ⟨rfl, again I7 hm w7⟩
    | true =>
      rw [va rfl] at q7
      have hb' := hb _ s7 σ6 H7 _ I7 q7
      rw [hx] at hb'
      refine um (um (thn hb' fun v s8 ⟨y, H8, I8, r8, hD8, m', hm, w8⟩ => ?_))
      have ha := Up (X := X') _ s8 σ6 H8 (.ref D) [y] (.ref D) [v] (fun _ H9 => H9 = upd H8 D (.lst (ys ++ [y]))) I8 rfl (.cons r8 .nil) ⟨D, ys, y, rfl, rfl, hD8, hlen, rfl⟩
      rw [hx] at ha
      refine um (thn ha fun _ s9 ⟨_, H9, I9, _, e9⟩ => ?_)
      subst e9
      exact vD (vD ⟨rfl, again I9 hm w8⟩)
theorem Wc(hc:X.calm=true)(S:AZ X.N X.env.scope N' ix scope)(hb:Block X N' scope tg ifs elt g tc te){it:uu}{fp:Gc uu}{tn:Nat->ve->Prop}{J:It}{H₂:Hp}{Q:VK}{E:W1->ur->Prop}{RR:W1->uu->Result->ur->Prop}(I2:Inv X pins σ H₂ s₂)(T:Turn X.prog X.w X.K tg J fp it tn)(st2:tn 0 s₂.heap)(f2:∀b∈fp,VT X pins H₂ b)(hW:kn ix g tc te J σ H₂ Q)(hRR:∀D C H' s',Inv X pins σ H' s'->(∃m,s'.heap.Ns C m)->VT X pins H' C->Q (.ref D) H'->RR (.ref D) C (.ok .next) s'):wpAny (model X.prog X.w) X.A (newList []) (λacc s₃=>wpAny (model X.prog X.w) X.A (newFunctionEnv scope X.env.globals (Ij X.env.cells scope.names []) [] X.env.qual uk .none (Fk X.env)) (λcenv s₄=>
  codeAny (model X.prog X.w) X.A (.compStart (.ListComp elt [⟨tg,iter,ifs,0⟩] scope pos) 0 (.ref it) acc {cenv with scope:=relabel scope X.env}) (RR acc cenv.locals) s₄) E s₃) E s₂:=by
 have hD0:H₂ s₂.heap.objs.size=none:=I2.hok.fresh (u4 _)
 have hlt2:∀b∈fp,b<s₂.heap.objs.size:=λb hb=>by
  obtain⟨o,e,_⟩:=T.obj _ _ st2 b hb
  exact vI e
 refine wJ (Nu (λh₁ hns₁ hsb₁ hcl₁=>?_))
 have I3:Inv X pins σ (upd H₂ s₂.heap.objs.size (.lst [])) {s₂ with heap:=s₂.heap.push {cls:=.type "list",dict:=uk,data:=.seq ([]:Gc W1).toArray}}:=
  I2.laid (t':=s₂.toks) (λb u e=>tz _ e) (u4 _) ⟨xf _,[],0,.nil,vM _ rfl⟩
 have f3:∀b∈fp,VT X pins (upd H₂ s₂.heap.objs.size (.lst [])) b:=λb hb=>⟨by rw[Au (vZ (hlt2 b hb))];exact(f2 b hb).1,(f2 b hb).2⟩
 have k3:∀b o,s₂.heap.get? b=Fk o->(s₂.heap.push {cls:=.type "list",dict:=uk,data:=.seq ([]:Gc W1).toArray}).get? b=Fk o:=λb o e=>tz _ e
 dsimp only at hns₁ hsb₁ hcl₁⊢
 generalize hs3:({s₂ with heap:=s₂.heap.push {cls:=.type "list",dict:=uk,data:=.seq ([]:Gc W1).toArray}}:ur)=s₃ at I3
 have eh:s₂.heap.push {cls:=.type "list",dict:=uk,data:=.seq ([]:Gc W1).toArray}=s₃.heap:=by rw[<-hs3]
 have et:s₂.toks=s₃.toks:=by rw[<-hs3]
 have es:∀(h:ve) (t:Nat),({s₂ with heap:=h,toks:=t}:ur)={s₃ with heap:=h,toks:=t}:=λh t=>by rw[<-hs3]
 rw[eh]at hns₁ hsb₁ hcl₁ k3⊢
 have hlt3:∀b∈fp,b<s₃.heap.objs.size:=λb hb=>by
  obtain⟨o,e,_⟩:=T.obj _ _ st2 b hb
  exact vI (k3 b o e)
 have k4:∀b o,s₃.heap.get? b=Fk o->h₁.get? b=Fk o:=hsb₁
 obtain⟨W,⟨m0,w0⟩,turn⟩:=hW _ hD0
 have I4:∀tk,Inv (LD X N' scope s₃ (upd H₂ s₂.heap.objs.size (.lst [])) fp) [] (sig ix σ) (upd H₂ s₂.heap.objs.size (.lst [])) {s₃ with heap:=h₁,toks:=tk}:=λtk=>bI S hc I3 f3 hlt3 hns₁ k4 hcl₁
 have st4:tn 0 h₁:=T.keep _ _ _ st2 λb hb o e=>k4 b o (k3 b o e)
 obtain⟨bg,bt,be⟩:=hb s₃ (upd H₂ s₂.heap.objs.size (.lst [])) fp
 have noX:∀(H:Hp),(∀b∈fp,H b=uk)->∀b∈fp,VT (LD X N' scope s₃ (upd H₂ s₂.heap.objs.size (.lst [])) fp) [] H b:=λH hn b hb=>by
  obtain⟨_,h2,h3⟩:=f3 b hb
  refine⟨hn b hb,vZ (hlt3 b hb),λhs=>(I4 0).ok.eF b hb hs,.inl hb,λx c h=>?_,λp hp=>absurd (show p∈([]:Gc (uu×Obj))from hp) (by simp)⟩
  exact((I4 0).ok.exf b hb).2 x c h
 have fin:∀(s':ur) (σ':St) (H':Hp),Inv (LD X N' scope s₃ (upd H₂ s₂.heap.objs.size (.lst [])) fp) [] σ' H' s'->Q (.ref s₂.heap.objs.size) H'->RR (.ref s₂.heap.objs.size) s₃.heap.objs.size (.ok .next) s':=λs' σ' H' I' q=>by
  refine hRR _ _ H' s' ?_ (let⟨m,hn,_⟩:=I'.loc;⟨m,hn⟩) (I3.gc (u4 _) I'.free) q
  exact I3.fI I'.os I'.base I'.hok I'.bare λb hb=>⟨(f3 b hb).2.2.2.1,(f3 b hb).2.1,(f3 b hb).2.2.2.2.1,(f3 b hb).2.2.2.2.2⟩
 have loop:∀tk,codeAny (model X.prog X.w) X.A (.compLoop (.ListComp elt [⟨tg,iter,ifs,0⟩] scope pos) 0 (.ref it) (.ref s₂.heap.objs.size) (compEnvC scope (cellsFrom (s₃.heap.objs.size+1) scope.names (Ij X.env.cells scope.names [])) s₃.heap.objs.size X.env)) (RR (.ref s₂.heap.objs.size) s₃.heap.objs.size) {s₃ with heap:=h₁,toks:=tk}:=λtk=>
  Yu (X':=LD X N' scope s₃ (upd H₂ s₂.heap.objs.size (.lst [])) fp) (D:=s₂.heap.objs.size) (Q:=Q) (W:=W) rfl rfl rfl T noX bg bt be turn fin ⟨0,_,_,_,I4 tk,st4,λb hb=>(f3 b hb).1,w0⟩
 rw[es]
 exact codeAny_compStart_list (loop _) (T.self _ 0 _ _ _ st4 (loop _))
theorem g9{wi:TI}(hc:X.calm=true)(S:AZ X.N X.env.scope N' ix scope)(hi:PI X tg iter wi)(hb:Block X N' scope tg ifs elt g tc te)(hs:∀x,foldedSetIterable iter X.env x=pure x:=by intro _;rfl):PE X (.ListComp elt [⟨tg,iter,ifs,0⟩] scope pos) (fL ix wi g tc te):=by
 intro pins s σ H Q I h
 rw[eval_ListComp]
 refine AAn (use:=uk) rfl hs (TY (I.cellsOf S)) S.kind S.names (thn (hi pins s σ H _ I h) λv s1 h1=>thn h1 λitv s2 h2=>?_)
 obtain⟨it,fp,tn,J,H2,e,I2,T,st2,f2,hW⟩:=h2
 subst e
 refine Wc (RR:=λacc C=>compPost (model X.prog X.w) X.A X.xe uk (EP X pins σ Q) acc C) hc S hb I2 T st2 f2 hW ?_
 intro D C H' s' I' hm hC q
 obtain⟨m,hm⟩:=hm
 refine⟨m,hm,λh' hs'=>⟨.ref D,H',I'.turned (it:=C) (t':=s'.toks) (λb o hb e=>hs'.extBut b o hb e) hC.1 hC.2.1 hC.2.2.2.1 hC.2.2.2.2.1 hC.2.2.2.2.2,rfl,q⟩⟩
end
end L2
end
noncomputable section
namespace L2
open PySem PySem.Spec PyProof.Rows
section
variable{X:Cx}{N':Gc Str}{ix:Gc (uo Nat)}{scope:wX}{elt tg iter:vU}{ifs:Gc vU}{pos spos py:Pos}{g:TG}{tc:TT}{te:TE}{wi:TI}{i:Nat}{y:Str}
theorem W2(hc:X.calm=true)(hN:X.N.Nodup)(hi':X.N[i]?=Fk y)(hx:X.env.scope.names.lookup y=Fk .local)(S:AZ X.N X.env.scope N' ix scope)(hi:PI X tg iter wi)(hb:Block X N' scope tg ifs elt g tc te)(hsw:swapsWith (.ListComp elt [⟨tg,iter,ifs,0⟩] scope pos) (Fk (.Name y py)) spos.line X.env=pure true:=by rfl)(hs:∀x,foldedSetIterable iter X.env x=pure x:=by intro _;rfl):PS X (.Assign [.Name y py] (.ListComp elt [⟨tg,iter,ifs,0⟩] scope pos) spos) (nU (fL ix wi g tc te) (gY i)):=by
 intro pins s σ H D I h
 rw[exec_Assign_Name_used _ _ _ _ hsw]
 refine um (y4 (um ?_))
 show wpAny _ X.A (do let _<-comprehension (.ListComp elt [⟨tg,iter,ifs,0⟩] scope pos) scope X.env _ (newList []) false (eval iter X.env) (Fk (assign (.Name y py) X.env))) _ _ s
 refine um (we (AAn (use:=Fk (assign (.Name y py) X.env)) (Q:=λ_ s'=>SP X pins D .next s') rfl hs (TY (I.cellsOf S)) S.kind S.names
  (thn (hi pins s σ H _ I h) λv s1 h1=>thn h1 λitv s2 h2=>?_)) (λ_ s' hq=>vD (vD hq)) λ_ _ e=>e)
 obtain⟨it,fp,tn,J,H2,e,I2,T,st2,f2,hW⟩:=h2
 subst e
 refine Wc (RR:=λacc C=>compPost (model X.prog X.w) X.A X.xe (Fk (assign (.Name y py) X.env)) (λ_ s'=>SP X pins D .next s') acc C) hc S hb I2 T st2 f2 hW ?_
 intro L C H' s' I' hm hC q
 obtain⟨m,hm⟩:=hm
 show wpAny _ X.A (assign (.Name y py) X.env (.ref L)) _ _ _
 refine wpAny_assign_Name (UC I' hN hi' (.inl hx) (v:=.ref L) rfl (λs'' I'' ⟨a,sb,ha⟩=>?_) (.inr hx))
 have hCa:C≠a:=by
  rcases ha with rfl|ha
  .exact hC.2.1
  .exact wu (hC.2.2.2.2.1 y a ha)
 refine⟨m,hm.sameBut sb hCa,λh' hs'=>?_⟩
 exact⟨_,H',I''.turned (it:=C) (t':=s''.toks) (λb o hb e=>hs'.extBut b o hb e) hC.1 hC.2.1 hC.2.2.2.1 hC.2.2.2.2.1 hC.2.2.2.2.2,q⟩
end
end L2
end
noncomputable section
namespace L2
open PySem PySem.Spec PyProof.Rows
section
variable{κ:Type} [DecidableEq κ]
noncomputable def putK(kvs:Gc (κ×V))(k:κ)(v:V):Gc (κ×V):=
 if(kvs.any λkv=>decide (kv.1=k))=true then kvs.map (λkv=>if kv.1=k then(kv.1,v)else kv)else kvs++[(k,v)]
theorem VM(kvs:Gc (κ×V))(k:κ)(v:V):(putK kvs k v).length<=kvs.length+1:=by
 unfold putK
 split
 .rw[vW];lia
 .rw[wM,wC,yb];lia
theorem KV.any{kvs:Gc (κ×V)}{vs:Gc (κ×W1)}(r:KV kvs vs)(k:κ):(kvs.any λkv=>decide (kv.1=k))=vs.any λkv=>decide (kv.1=k):=by
 unfold KV at r
 induction r with
 |nil=>rfl
 |cons h t ih=>rw[xk,xk,ih,h.1]
theorem KV.kU{kvs:Gc (κ×V)}{vs:Gc (κ×W1)}(r:KV kvs vs)(k:κ){y:V}{u:W1}(ry:RelV y u):KV (kvs.map λkv=>if kv.1=k then(kv.1,y)else kv) (vs.map λkv=>if kv.1=k then(kv.1,u)else kv):=by
 unfold KV at r⊢
 induction r with
 |nil=>exact .nil
 | @cons p q ps qs h t ih=>
   rw[vT,vT]
   refine .cons ?_ ih
   obtain⟨h1,h2⟩:=h
   by_cases e:p.1=k
   .rw[va e,va (h1.symm.trans e)];exact⟨h1,ry⟩
   .rw[vf e,vf (λz=>e (h1.trans z))];exact⟨h1,h2⟩
theorem KV.put{kvs:Gc (κ×V)}{vs:Gc (κ×W1)}(r:KV kvs vs)(k:κ){y:V}{u:W1}(ry:RelV y u):KV (putK kvs k y) (stored vs k u):=by
 unfold putK stored
 rw[r.any k]
 by_cases e:(vs.any λkv=>decide (kv.1=k))=true
 .rw[va e,va e];exact r.kU k ry
 .rw[vf e,vf e];exact Paired.snoc r ⟨rfl,ry⟩
end
theorem jC{P:vR}{w:vi}{k:Key}{u:W1}(r:RelV (kV k) u):(Fh P w).is k u=true:=by
 cases k with
 |inl i=>obtain⟨t,e⟩:=(show∃t,u=AAv i t from r);subst e;exact VO P w i t
 |inr x=>obtain⟨t,e⟩:=(show∃t,u=AAw x t from r);subst e;exact VH P w x t
theorem Ul{P:vR}{w:vi}:∀{ks:Gc Key} {us:Gc W1},Vals (ks.map kV) us->ItemsAre (Fh P w) ks us
 | [],_,r=>by rw[wc]at r;cases r;exact .nil
 |k::ks,_,r=>by
  rw[vT]at r
  cases r with
  |cons h t=>exact .cons (jC h) (Ul t)
abbrev KT(H:Hp):Gc (Gc Key×V)->Gc (Gc Key×uu×W1)->Prop:=Paired λp q=>p.1=q.1/\H q.2.1=Fk (.tup (p.1.map kV))/\RelV p.2 q.2.2
section
variable{P:vR}{w:vi}{H:Hp}{h:ve}{a:uu}
theorem jB{u:HO}(ok:HOk P w H h)(e:Rd H a u):Fo P w H h a u:=e.ok ok
theorem oF{kvs:Gc (Key×V)}(ok:HOk P w H h)(e:Rd H a (.dK kvs)):kvs.length<=sizeLine/\(a==sysModules)=false/\∃vs,KV kvs vs/\h.DictOf (Fh P w) a vs:=
 show Fo P w H h a (.dK kvs)from jB ok e
theorem pU{kvs:Gc (Key×V)}(ok:HOk P w H h)(e:H a=Fk (.dK kvs)):kvs.length<=sizeLine/\(a==sysModules)=false/\∃vs,KV kvs vs/\h.DictOf (Fh P w) a vs:=oF ok (.inl e)
theorem jA{ks:Gc Key}(ok:HOk P w H h)(e:H a=Fk (.tup (ks.map kV))):(tupleKind (Fh P w)).is h ks a:=by
 obtain⟨_,its,r,o,h1,h2,n,h3⟩:=(show Fo P w H h a (.tup (ks.map kV))from ok a _ e)
 exact⟨o,its.toArray,n,h1,h2,h3,by simpa using Ul r⟩
theorem nh{kvs:Gc (Gc Key×V)}(ok:HOk P w H h)(e:Rd H a (.dT kvs)):kvs.length<=sizeLine/\(a==sysModules)=false/\∃xs,KT H kvs xs/\h.DictOfH (tupleKind (Fh P w)) a xs:=by
 obtain⟨z,y,xs,r,o,es,ep,h1,h2,h3,h4,h5⟩:=(show Fo P w H h a (.dT kvs)from jB ok e)
 refine⟨z,y,xs,r,o,es,ep,h1,h2,h3,h4,λx hx=>?_,h5⟩
 have all:∀{l:Gc (Gc Key×V)} {m:Gc (Gc Key×uu×W1)},KT H l m->∀x∈m,(tupleKind (Fh P w)).is h x.1 x.2.1:=by
  intro l m q
  induction q with
  |nil=>intro x hx;exact nomatch hx
  | @cons p q ps qs hq t ih=>
    intro x hx
    rcases uw.mp hx with e|hx
    .subst e
     exact jA ok (by rw[<-hq.1];exact hq.2.1)
    .exact ih x hx
 exact all r x hx
theorem gC{kvs:Gc (Gc Key×V)}(ok:HOk P w H h)(e:H a=Fk (.dT kvs)):kvs.length<=sizeLine/\(a==sysModules)=false/\∃xs,KT H kvs xs/\h.DictOfH (tupleKind (Fh P w)) a xs:=nh ok (.inl e)
end
section
variable{X:Cx}{pins:Gc (uu×Obj)}{σ:St}{H:Hp}{s:ur}{a:uu}{y v:V}{u r:W1}{o:uo V}{A:vj}{E:W1->ur->Prop}
theorem Inv.big(I:Inv X pins σ H s):sysModules<s.heap.objs.size:=by
 have h:mainGlobals<s.heap.objs.size:=(I.mod.glob.keeps I.bk).lt
 exact yt (by decide) h
theorem fC{h':ve}{t':Nat}{ob:HO}(I:Inv X pins σ H s)(mu:Mut (H a))(hs:zJ a s.heap h')(he:∃q,h'.get? a=Fk q)(new:Fo X.prog X.w (upd H a ob) h' a ob):Inv X pins σ (upd H a ob) {s with heap:=h',toks:=t'}:=
 I.write (x:=a) (e:=a) mu (.inl rfl) (λb q hb z=>(hs.2 b hb).trans z) he new
theorem lD{P:vR}{w:vi}{H':Hp}{h':ve}{kvs:Gc (Key×V)}{vs:Gc (Key×W1)}(z:kvs.length<=sizeLine)(hd:(a==sysModules)=false)(rel:KV kvs vs)(dd:h'.DictOf (Fh P w) a vs):Fo P w H' h' a (.dK kvs):=⟨z,hd,vs,rel,dd⟩
end
section
variable{X:Cx}{pins:Gc (uu×Obj)}{σ:St}{H:Hp}{s:ur}{a:uu}{kvs:Gc (Key×V)}{k:Key}{u:W1}{A:vj}{E:W1->ur->Prop}
end
section
variable{X:Cx}{o i e value:vU}{pos pos' tpos:Pos}{td ty tv:TE}
end
theorem bS{P:vR}{w:vi}{H:Hp}(h:ve)(hb:sysModules<h.objs.size):Fo P w H (h.push {cls:=.type "dict",data:=.dict #[]}) h.objs.size (.dK []):=
 ⟨xf _,ABu.mpr (wu (vZ hb)),[],.nil,Heap.DictOf.new h⟩
section
variable{X:Cx}{pos:Pos}
end
def WL:Gc (TE×TE)->St->Hp->(Gc (V×V)->Hp->Prop)->Prop
 | [],_,H,Q=>Q [] H
 |(tk,tv)::r,σ,H,Q=>tk σ H λx H1=>tv σ H1 λy H2=>WL r σ H2 λps H3=>Q ((x,y)::ps) H3
abbrev VV:Gc (V×V)->Gc (W1×W1)->Prop:=Paired λp q=>RelV p.1 q.1/\RelV p.2 q.2
def PPs(X:Cx)(pos:Pos)(keys:Gc (uo vU))(values:Gc vU)(trs:Gc (TE×TE)):Prop:=
 ∀(pins:Gc (uu×Obj)) (s:ur) (σ:St) (H:Hp) (Q:Gc (V×V)->Hp->Prop),Inv X pins σ H s->WL trs σ H Q->
  wpAny (model X.prog X.w) X.A (evalPairs (pairTrees keys values X.env pos)) (λvs s'=>∃ps H',Inv X pins σ H' s'/\VV ps vs/\Q ps H') X.xe s
theorem gI{X:Cx}{pos:Pos}:PPs X pos [] [] []:=λpins s σ H Q I h=>pairTrees_nil_walk ⟨[],H,I,.nil,h⟩
theorem bh{X:Cx}{pos:Pos}{k v:vU}{ks:Gc (uo vU)}{vs:Gc vU}{tk tv:TE}{trs:Gc (TE×TE)}(hk:PE X k tk)(hv:PE X v tv)(hr:PPs X pos ks vs trs):PPs X pos (Fk k::ks) (v::vs) ((tk,tv)::trs):=λpins s σ H Q I h=>
 pairTrees_cons_walk (thn (hk pins s σ H _ I h) λu s1 ⟨x,H1,I1,rx,q1⟩=>thn (hv pins s1 σ H1 _ I1 q1) λw2 s2 ⟨y,H2,I2,ry,q2⟩=>
  thn (hr pins s2 σ H2 _ I2 q2) λws s3 ⟨ps,H3,I3,rel,q3⟩=>⟨(x,y)::ps,H3,I3,.cons ⟨rx,ry⟩ rel,q3⟩)
noncomputable def Qg(kvs more:Gc (Key×V)):Gc (Key×V):=more.foldl (λacc kv=>putK acc kv.1 kv.2) kvs
theorem KV.merge:∀{more:Gc (Key×V)} {rs:Gc (Key×W1)} {kvs:Gc (Key×V)} {vs:Gc (Key×W1)},KV more rs->KV kvs vs->KV (Qg kvs more) (merged vs rs):=by
 intro more rs kvs vs r
 unfold KV at r
 induction r generalizing kvs vs with
 |nil=>intro q;exact q
 | @cons p q ps qs h t ih=>
   intro r0
   have e:KV (putK kvs p.1 p.2) (stored vs q.1 q.2):=by
    have:=r0.put p.1 h.2
    rw[<-h.1];exact this
   exact ih e
theorem NK:∀(more kvs:Gc (Key×V)),(Qg kvs more).length<=kvs.length+more.length
 | [],kvs=>by show kvs.length<=kvs.length+0;lia
 |p::r,kvs=>by
  have h1:=NK r (putK kvs p.1 p.2)
  have h2:=VM kvs p.1 p.2
  show(Qg (putK kvs p.1 p.2) r).length<=_
  rw[wC];lia
theorem RX{P:vR}{w:vi}:∀{kvs:Gc (Key×V)} {ws:Gc (W1×W1)},VV (kvs.map λkv=>(kV kv.1,kv.2)) ws->∃rs,Carries (Fh P w) ws rs/\KV kvs rs
 | [],_,r=>by rw[wc]at r;cases r;exact⟨[],zc,.nil⟩
 |p::kvs,_,r=>by
  rw[vT]at r
  cases r with
  | @cons a b as bs h t=>
    obtain⟨rs,c,q⟩:=RX (P:=P) (w:=w) t
    obtain⟨b1,b2⟩:=b
    exact⟨(p.1,b2)::rs,⟨jC h.1,rfl,c⟩,.cons ⟨rfl,h.2⟩ q⟩
noncomputable def qE(trs:Gc (TE×TE)):TE:=λσ H Q=>∀p,H p=uk->WL trs σ (upd H p (.dK [])) λps H2=>H2 p=Fk (.dK [])/\∃kvs:Gc (Key×V),ps=kvs.map (λkv=>(kV kv.1,kv.2))/\kvs.length<=15/\Q (.ref p) (upd H2 p (.dK (Qg [] kvs)))
theorem fZ{X:Cx}{pos:Pos}{keys:Gc (uo vU)}{values:Gc vU}{trs:Gc (TE×TE)}(h:PPs X pos keys values trs)(hall:keys.all (·.isSome)=true)(hl:keys.length=values.length)(h0:keys≠[])(h15:keys.length<=15):PE X (.Dict keys values pos) (qE trs):=by
 intro pins s σ H Q I q
 have hn:=I.hok.fresh (u4 s.heap.objs.size)
 have I1:=I.laid (a:=s.heap.objs.size) (o:=.dK []) (h':=s.heap.push {cls:=.type "dict",data:=.dict #[]}) (t':=s.toks) (λ_ _ q=>tz _ q) (u4 _) (bS s.heap I.big)
 refine wpAny_Dict_walk (knd:=Fh X.prog X.w) hall hl h0 h15 (thn (h pins _ σ _ _ I1 (q _ hn)) λws s2 ⟨ps,H2,I2,rel,e,kvs,ep,lk,q2⟩=>?_)
 subst ep
 obtain⟨rs,c,rk⟩:=RX (P:=X.prog) (w:=X.w) rel
 obtain⟨z,hd,vs0,r0,dd⟩:=pU I2.hok e
 cases r0
 refine⟨rs,c,dd,λh' dd' hs=>⟨.ref s.heap.objs.size,_,?_,rfl,q2⟩⟩
 have hz:(Qg [] kvs).length<=sizeLine:=by
  have h1:=NK kvs []
  rw[yb]at h1
  rw[sizeLine_eq];lia
 have he:∃q,h'.get? s.heap.objs.size=Fk q:=let⟨q,_,_,hq,_⟩:=dd';⟨q,hq⟩
 exact fC I2 (by rw[e];exact zc) hs he (lD hz hd (rk.merge .nil) dd')
structure M1(X:Cx)(o:vU)(m:Str)(apos:Pos)(e:vU)(cpos:Pos):Prop where
 base:attributeBase o m X.env (eval o X.env)=eval o X.env
 few:((backTo cpos (vP [e] X.env)).all (λx=> !x.1) && (backToKw cpos (keywordEach [] X.env)).all (λx=>x.1.isSome)
  && decide (([e]:Gc vU).length+([]:Gc AAg).length+(if([]:Gc AAg).isEmpty then 0 else 1)<30))=true
 line:(apos.endLine==cpos.line)=true
 trees:backTo cpos (vP [e] X.env)=[(false,eval e X.env)]
structure M2(X:Cx)(o:vU)(m:Str)(apos:Pos)(e f:vU)(cpos:Pos):Prop where
 base:attributeBase o m X.env (eval o X.env)=eval o X.env
 few:((backTo cpos (vP [e,f] X.env)).all (λx=> !x.1) && (backToKw cpos (keywordEach [] X.env)).all (λx=>x.1.isSome)
  && decide (([e,f]:Gc vU).length+([]:Gc AAg).length+(if([]:Gc AAg).isEmpty then 0 else 1)<30))=true
 line:(apos.endLine==cpos.line)=true
 trees:backTo cpos (vP [e,f] X.env)=[(false,eval e X.env),(false,eval f X.env)]
def IsD(H:Hp)(a:uu):Prop:=(∃kvs,Rd H a (.dK kvs))\/∃kvs,Rd H a (.dT kvs)
section
variable{X:Cx}{pins:Gc (uu×Obj)}{σ:St}{H:Hp}{s:ur}{a:uu}{y d:V}{u r:W1}{o:uo V}{A:vj}{E:W1->ur->Prop}
end
section
variable{X:Cx}{o e f:vU}{apos cpos:Pos}{td ty tx:TE}
end
section
variable{X:Cx}{pins:Gc (uu×Obj)}{σ:St}{H:Hp}{s:ur}{a:uu}{kvs:Gc (Key×V)}{A:vj}{E:W1->ur->Prop}
end
section
variable{X:Cx}{pins:Gc (uu×Obj)}{σ:St}{H:Hp}{s:ur}{a:uu}{y:V}{u:W1}{A:vj}{E:W1->ur->Prop}
end
end L2
end
noncomputable section
namespace L2
open PySem PySem.Spec PyProof.Rows
section
variable{prog:vR}{w:vi}{A:vj}{E:W1->ur->Prop}{s:ur}
theorem Wx{h:ve}{it t:uu}{i:Nat}{o:Obj}(ho:h.get? it=Fk o)(hc:o.cls=.type "tuple_iterator")(hd:o.data=.fields #[.ref t,.int i 0]){h':ve}(e:h'=h.update it (λo=>o.mapFields λa=>a.setIfInBounds 1 (rawInt ((i:Int)+1)))):h'.IsTupleIter it t (i+1):=by
 subst e
 have d:=Obj.data_mapFields hd λa=>a.setIfInBounds 1 (rawInt ((i:Int)+1))
 refine⟨_,ABR _ ho (Obj.isFreed_of_fields d),?_,?_⟩
 .rw[Obj.cls_mapFields];exact hc
 .rw[d];simp[rawInt]
theorem bq{it t:uu}{i:Nat}{items:wK W1}{x:W1}{Q:W1->ur->Prop}(hit:s.heap.IsTupleIter it t i)(ht:s.heap.IsTuple t items)(hx:items[i]?=Fk x)(hQ:∀h',h'.IsTupleIter it t (i+1)->zJ it s.heap h'->Q x {s with heap:=h'}):wpAny (model prog w) A (vq (.ref it)) Q E s:=by
 obtain⟨⟨c,dd,dt,sl⟩,ho,hc,hd⟩:=id hit
 obtain⟨⟨c2,dd2,dt2,sl2⟩,ho2,hc2,n2,hd2⟩:=id ht
 simp only at hc hd hc2 hd2
 subst hc hd hc2 hd2
 unfold vq
 refine um (wd (name:=xC "__next__") hit.typeIs xp (xF xp hit.typeIs AAH ?_ (z8 _)))
 unfold zP.«tuple_iterator.__next__»
 wp_walk using vV ho,vV ho2
 have e:items[(i:Int).toNat]?=Fk x:=by rw[yB];exact hx
 rw[e]
 refine um (wpAny_setField ho rfl (by simp) ?_)
 exact vD ⟨x,rfl,vD (hQ _ (Wx ho rfl rfl rfl) (ABw ..))⟩
theorem Zv{it t:uu}{i:Nat}{items:wK W1}{Q:W1->ur->Prop}(hh:A.handled=uk)(hit:s.heap.IsTupleIter it t i)(ht:s.heap.IsTuple t items)(hx:items[i]?=uk)(hE:∀h' e,AAk it s.heap h'->(∃o,h'.get? e=Fk o/\o.cls=.type "StopIteration")->E (.ref e) {s with heap:=h'}):wpAny (model prog w) A (vq (.ref it)) Q E s:=by
 obtain⟨⟨c,dd,dt,sl⟩,ho,hc,hd⟩:=id hit
 obtain⟨⟨c2,dd2,dt2,sl2⟩,ho2,hc2,n2,hd2⟩:=id ht
 simp only at hc hd hc2 hd2
 subst hc hd hc2 hd2
 unfold vq
 refine um (wd (name:=xC "__next__") hit.typeIs xp (xF xp hit.typeIs AAH ?_ (z8 _)))
 unfold zP.«tuple_iterator.__next__»
 wp_walk using vV ho,vV ho2
 have e:items[(i:Int).toNat]?=none:=by rw[yB];exact hx
 rw[e]
 refine um (AA5 (um (wpAny_setField ho rfl (by simp) ?_)))
 have hh1:A.in1.handled=none:=hh
 unfold Builtin.SmallTypes.stopIteration
 simp only[newExc,newTuple,raiseNew]
 wp_walk
 refine hE _ _ ?_ ⟨_,vM _ rfl,rfl⟩
 have a:=(ABw (a:=it) (h:=s.heap) (f:=Obj.mapFields λx=>x.setIfInBounds 0 wW)).extBut
 exact(a.push _).push _
theorem Zk(l:uu)(items:wK W1)(n:Nat)(dct:uo uu)(sl:wK (uo W1)):Meets (zP.«enumerate.__new__» ⟨[.type "enumerate",.ref l],[]⟩) (λ_ R s=>s.heap.get? l=Fk {cls:=.type "tuple",dict:=dct,data:=.seq items n,slots:=sl}/\R (.ok (.ret (.ref (s.heap.objs.size+1)))) {s with heap:=(s.heap.push {cls:=.type "tuple_iterator",data:=.fields #[.ref l,.int 0 0]}).push {cls:=.type "enumerate",data:=.fields #[.none,.bool false,.ref s.heap.objs.size,rawInt 0,.none,.none]}}):=
 .of_wp λprog w A R s h=>by
  obtain⟨hp,g,d,tk,os⟩:=s
  obtain⟨hl,h⟩:=h
  have hsub:=sub_enumerate
  have hT:AAI (yD ⟨hp,g,d,tk,os⟩) l items:=⟨_,hl,rfl,n,rfl⟩
  wp_walk using vV hl
  refine wpAny_stack_any λst=>vD ?_
  split
  .rename_i c _ _ _ _ _
   cases (c==zZ "enumerate")<;>(wp_walk using vV hl,xD hT)<;>(refine⟨_,rfl,?_⟩;rw[wg];exact h)
  .wp_walk using vV hl,xD hT
   refine⟨_,rfl,?_⟩
   rw[wg]
   exact h
theorem XA{l:uu}{items:wK W1}{Q:W1->ur->Prop}(hT:s.heap.IsTuple l items)(h:∀h',IsEnum h' (s.heap.objs.size+1) s.heap.objs.size 0 .none->h'.IsTupleIter s.heap.objs.size l 0->(∀b o,s.heap.get? b=Fk o->h'.get? b=Fk o)->Q (.ref (s.heap.objs.size+1)) {s with heap:=h'}):wpAny (model prog w) A (call (.type "enumerate") [.ref l]) Q E s:=by
 obtain⟨⟨c,dct,dt,sl⟩,hl,hc,n,hd⟩:=hT
 simp only at hc hd
 subst hc hd
 refine callType_new F.called_enumerate (by decide) (F.typeCall_enumerate_1 _) (F.newCall_enumerate_1 _) (λobj=>ABc obj _) F.entry_enumerate_new (Zk l items n dct sl) ⟨hl,?_⟩
 have z:=vM (s.heap.push {cls:=.type "tuple_iterator",data:=.fields #[.ref l,.int 0 0]}) (o:={cls:=.type "enumerate",data:=.fields #[.none,.bool false,.ref s.heap.objs.size,rawInt 0,.none,.none]}) rfl
 rw[wg]at z
 exact⟨⟨_,z,rfl⟩,h _ z ⟨_,tz _ (vM _ rfl),rfl,rfl⟩ λb o x=>tz _ (tz _ x)⟩
end
section
variable{X:Cx}
end
end L2
end
noncomputable section
namespace L2
open PySem PySem.Spec PyProof.Rows
structure TopD(K:Wp)(w:vi)(a:uu)(kvs:Gc (Str×V)):Prop where
 ex:∃(es:wK DictEntry) (n:Nat),K.lookup a=Fk ⟨.type "dict",uk,.dict es n, #[]⟩/\PySem.W.KeysLit w.params es.toList/\(a==sysModules)=false/\∀x,mz (kvs.lookup x) (findBy AB0 es x)
section
variable{X:Cx}
end
end L2
end
noncomputable section
namespace L2
open PySem PySem.Spec PyProof.Rows
def SIt(h:ve)(j l:uu)(i:Nat)(its:wK W1):Prop:=(h.IsListIter j l i/\h.IsList l its)\/(h.IsTupleIter j l i/\h.IsTuple l its)
section
variable{prog:vR}{w:vi}{A:vj}{E:W1->ur->Prop}{s:ur}{h h':ve}{j l:uu}{i:Nat}{its:wK W1}
theorem SIt.at(q:SIt h j l i its)(k1:∀o,h.get? j=Fk o->h'.get? j=Fk o)(k2:∀o,h.get? l=Fk o->h'.get? l=Fk o):SIt h' j l i its:=by
 rcases q with⟨a,b⟩|⟨a,b⟩
 .exact .inl ⟨a.at k1,b.at k2⟩
 .exact .inr ⟨a.at k1,let⟨o,e,r⟩:=b;⟨o,k2 o e,r⟩⟩
theorem SIt.but{c:uu}(q:SIt h j l i its)(sb:AAk c h h')(n1:j≠c)(n2:l≠c):SIt h' j l i its:=q.at (λo e=>sb _ o n1 e) λo e=>sb _ o n2 e
theorem SIt.live(q:SIt h j l i its):∃o,h.get? j=Fk o/\∀v,o.data≠.cell v:=by
 rcases q with⟨⟨o,a,b,c⟩,_⟩|⟨⟨o,a,b,c⟩,_⟩
 .exact⟨o,a,λv z=>by rw[c]at z;cases z⟩
 .exact⟨o,a,λv z=>by rw[c]at z;cases z⟩
theorem SIt.ne(q:SIt h j l i its):l≠j:=by
 rcases q with⟨⟨o,a,b,_⟩,⟨o2,a2,b2,_⟩⟩|⟨⟨o,a,b,_⟩,⟨o2,a2,b2,_⟩⟩
 .intro z;subst z;rw[a]at a2;cases a2;rw[b]at b2;injection b2 with q;exact absurd q (by decide)
 .intro z;subst z;rw[a]at a2;cases a2;rw[b]at b2;injection b2 with q;exact absurd q (by decide)
theorem Oz{x:W1}{Q:W1->ur->Prop}(q:SIt s.heap j l i its)(hx:its[i]?=Fk x)(k:∀h',SIt h' j l (i+1) its->zJ j s.heap h'->Q x {s with heap:=h'}):wpAny (model prog w) A (vq (.ref j)) Q E s:=by
 have n:=q.ne
 rcases q with⟨a,b⟩|⟨a,b⟩
 .exact wpAny_nextOf_list_item a b hx λh' a' sb=>k h' (.inl ⟨a',b.extBut sb.extBut n⟩) sb
 .exact bq a b hx λh' a' sb=>k h' (.inr ⟨a',let⟨o,e,r⟩:=b;⟨o,sb.extBut _ o n e,r⟩⟩) sb
theorem Ov{Q:W1->ur->Prop}(hh:A.handled=uk)(q:SIt s.heap j l i its)(hx:its[i]?=uk)(k:∀h' e,AAk j s.heap h'->(∃o,h'.get? e=Fk o/\o.cls=.type "StopIteration")->E (.ref e) {s with heap:=h'}):wpAny (model prog w) A (vq (.ref j)) Q E s:=by
 rcases q with⟨a,b⟩|⟨a,b⟩
 .exact wpAny_nextOf_list_end hh a b hx k
 .exact Zv hh a b hx k
theorem Xd{z ti tt j1 j2 l1 l2:uu}{m:Nat}{xs ys:wK W1}{x y u1 u2:W1}{Q:W1->ur->Prop}(D:ZipApart z ti tt j1 j2 l1 l2)(oz:AAY s.heap z ti tt .none)(oi:yF s.heap ti (.ref j1) (.ref j2))(ot:yF s.heap tt u1 u2)(q1:SIt s.heap j1 l1 m xs)(q2:SIt s.heap j2 l2 m ys)(ex:xs[m]?=Fk x)(ey:ys[m]?=Fk y)(k:∀h',AAY h' z ti tt (rawInt s.heap.objs.size)->yF h' tt x y->SIt h' j1 l1 (m+1) xs->SIt h' j2 l2 (m+1) ys->yF h' s.heap.objs.size x y->(∀c o,c≠z->c≠tt->c≠j1->c≠j2->s.heap.get? c=Fk o->h'.get? c=Fk o)->Q (.ref s.heap.objs.size) {s with heap:=h'}):wpAny (model prog w) A (zP.«zip.__next__» ⟨[.ref z],[]⟩) (λfin s'=>∃v,fin=.done (.ret v)/\Q v s') E s:=by
 show wpAny _ _ (field (.ref z) 2 >>= _) _ _ _
 refine um (wx oz rfl (x:=.bool false) rfl ?_)
 show wpAny _ _ (field (.ref z) 3 >>= _) _ _ _
 refine um (wx oz rfl (x:=.ref ti) rfl (um (ym oi rfl ?_)))
 show wpAny _ _ (xB (.ref z) >>= _) _ _ _
 refine um ?_
 unfold xB
 refine um (wx oz rfl (x:=.none) rfl (vD ?_))
 simp only[zO]
 refine um (AA5 (um (wx oz rfl (x:=.ref tt) rfl (um (xq oz (by simp) λg1 oz1 b1=>?_)))))
 have oz1:AAY g1 z ti tt .ellipsis:=oz1
 refine um ?_
 simp only[List.zipIdx_cons,List.zipIdx_nil,ABJ,ABb]
 refine um (um (AAo ?_))
 show wpAny _ _ (vq (.ref j1) >>= _) _ _ _
 refine um (Oz (q1.but b1.extBut D.i1z D.l1z) ex λg2 q12 b2=>vD ?_)
 have ot2:yF g2 tt u1 u2:=b2.extBut _ _ D.TOi1 (b1.extBut _ _ D.TOz ot)
 refine um (ym ot2 rfl (um (zv ot2 λg3 ot3 b3=>?_)))
 have ot3:yF g3 tt x u2:=ot3
 refine um (wpAny_letGo (vD (um (um (AAo ?_)))))
 show wpAny _ _ (vq (.ref j2) >>= _) _ _ _
 refine um (Oz (((q2.but b1.extBut D.i2z D.l2z).but b2.extBut D.i12.symm D.l2i1).but b3.extBut D.TOi2.symm D.l2TO) ey λg4 q24 b4=>vD ?_)
 have ot4:yF g4 tt x u2:=b4.extBut _ _ D.TOi2 ot3
 refine um (ym ot4 rfl (um (zv ot4 λg5 ot5 b5=>?_)))
 have ot5:yF g5 tt x y:=ot5
 refine um (wpAny_letGo (vD (vD (um (ym ot5 rfl (um (wpAny_newTuple ?_)))))))
 have sz:g5.objs.size=s.heap.objs.size:=by rw[b5.1,b4.1,b3.1,b2.1,b1.1]
 have oz5:AAY g5 z ti tt .ellipsis:=b5.extBut _ _ D.TOz.symm (b4.extBut _ _ D.i2z.symm (b3.extBut _ _ D.TOz.symm (b2.extBut _ _ D.i1z.symm oz1)))
 have k5:∀c o,c≠z->c≠tt->c≠j1->c≠j2->s.heap.get? c=Fk o->g5.get? c=Fk o:=λc o c1 c2 c3 c4 e=>b5.extBut _ _ c2 (b4.extBut _ _ c4 (b3.extBut _ _ c2 (b2.extBut _ _ c3 (b1.extBut _ _ c1 e))))
 have q15:SIt g5 j1 l1 (m+1) xs:=((q12.but b3.extBut D.TOi1.symm D.l1TO).but b4.extBut D.i12 D.l1i2).but b5.extBut D.TOi1.symm D.l1TO
 have q25:SIt g5 j2 l2 (m+1) ys:=q24.but b5.extBut D.TOi2.symm D.l2TO
 have zlt:z<g5.objs.size:=vI oz5
 show wpAny _ _ (y3 (.ref z) (.ref g5.objs.size) >>= _) _ _ _
 refine um ?_
 unfold y3
 have oz6:AAY (g5.push {cls:=.type "tuple",data:=.seq #[x,y]}) z ti tt .ellipsis:=tz _ oz5
 refine um (xq oz6 (by simp) λg7 oz7 b7=>?_)
 have oz7:AAY g7 z ti tt (rawInt g5.objs.size):=oz7
 refine xq oz7 (by simp) λg8 oz8 b8=>?_
 have oz8:AAY g8 z ti tt (rawInt g5.objs.size):=oz8
 have up:∀c o,c≠z->g5.get? c=Fk o->g8.get? c=Fk o:=λc o c1 e=>b8.extBut _ _ c1 (b7.extBut _ _ c1 (tz _ e))
 have op8:yF g8 g5.objs.size x y:=b8.extBut _ _ (AA6 zlt) (b7.extBut _ _ (AA6 zlt) (vM _ rfl))
 rw[sz]at oz8 op8
 refine vD ⟨_,rfl,?_⟩
 show Q (.ref g5.objs.size) _
 rw[sz]
 exact k g8 oz8 (up _ _ D.TOz ot5) (q15.at (λo e=>up _ o D.i1z e) λo e=>up _ o D.l1z e) (q25.at (λo e=>up _ o D.i2z e) λo e=>up _ o D.l2z e) op8 λc o c1 c2 c3 c4 e=>up c o c1 (k5 c o c1 c2 c3 c4 e)
theorem Z2{z ti tt j1 j2 l1 l2:uu}{m:Nat}{xs ys:wK W1}{u1 u2:W1}{Q:Fin->ur->Prop}(hh:A.handled=uk)(D:ZipApart z ti tt j1 j2 l1 l2)(oz:AAY s.heap z ti tt .none)(oi:yF s.heap ti (.ref j1) (.ref j2))(ot:yF s.heap tt u1 u2)(q1:SIt s.heap j1 l1 m xs)(q2:SIt s.heap j2 l2 m ys)(en:xs[m]?=uk\/ys[m]?=uk)(k:∀h' e,(∀c o,c≠z->c≠tt->c≠j1->c≠j2->s.heap.get? c=Fk o->h'.get? c=Fk o)->(∃o,h'.get? e=Fk o/\o.cls=.type "StopIteration")->E (.ref e) {s with heap:=h'}):wpAny (model prog w) A (zP.«zip.__next__» ⟨[.ref z],[]⟩) Q E s:=by
 show wpAny _ _ (field (.ref z) 2 >>= _) _ _ _
 refine um (wx oz rfl (x:=.bool false) rfl ?_)
 show wpAny _ _ (field (.ref z) 3 >>= _) _ _ _
 refine um (wx oz rfl (x:=.ref ti) rfl (um (ym oi rfl ?_)))
 show wpAny _ _ (xB (.ref z) >>= _) _ _ _
 refine um ?_
 unfold xB
 refine um (wx oz rfl (x:=.none) rfl (vD ?_))
 simp only[zO]
 refine um (AA5 (um (wx oz rfl (x:=.ref tt) rfl (um (xq oz (by simp) λg1 oz1 b1=>?_)))))
 have oz1:AAY g1 z ti tt .ellipsis:=oz1
 refine um ?_
 simp only[List.zipIdx_cons,List.zipIdx_nil,ABJ,ABb]
 refine um (um (AAo ?_))
 show wpAny _ _ (vq (.ref j1) >>= _) _ _ _
 cases ex:xs[m]? with
 |none=>
  refine um (Ov hh (q1.but b1.extBut D.i1z D.l1z) ex λg2 e b2 he=>?_)
  obtain⟨oe,e1,e2⟩:=he
  have oz2:AAY g2 z ti tt .ellipsis:=b2 _ _ D.i1z.symm oz1
  have nez:e≠z:=λx=>by subst x;rw[oz2]at e1;cases e1;simp at e2
  exact xq oz2 (by simp) λg3 _ b3=>k g3 e (λc o c1 _ c3 _ x=>b3.extBut _ _ c1 (b2 _ _ c3 (b1.extBut _ _ c1 x))) ⟨oe,b3.extBut _ _ nez e1,e2⟩
 |some x=>
  have ey:ys[m]?=none:=by
   rcases en with z|z
   .rw[ex]at z;cases z
   .exact z
  refine um (Oz (q1.but b1.extBut D.i1z D.l1z) ex λg2 q12 b2=>vD ?_)
  have ot2:yF g2 tt u1 u2:=b2.extBut _ _ D.TOi1 (b1.extBut _ _ D.TOz ot)
  refine um (ym ot2 rfl (um (zv ot2 λg3 ot3 b3=>?_)))
  refine um (wpAny_letGo (vD (um (um (AAo ?_)))))
  show wpAny _ _ (vq (.ref j2) >>= _) _ _ _
  refine um (Ov hh (((q2.but b1.extBut D.i2z D.l2z).but b2.extBut D.i12.symm D.l2i1).but b3.extBut D.TOi2.symm D.l2TO) ey λg4 e b4 he=>?_)
  obtain⟨oe,e1,e2⟩:=he
  have oz4:AAY g4 z ti tt .ellipsis:=b4 _ _ D.i2z.symm (b3.extBut _ _ D.TOz.symm (b2.extBut _ _ D.i1z.symm oz1))
  have nez:e≠z:=λx=>by subst x;rw[oz4]at e1;cases e1;simp at e2
  exact xq oz4 (by simp) λg5 _ b5=>k g5 e (λc o c1 c2 c3 c4 x=>b5.extBut _ _ c1 (b4 _ _ c4 (b3.extBut _ _ c2 (b2.extBut _ _ c3 (b1.extBut _ _ c1 x))))) ⟨oe,b5.extBut _ _ nez e1,e2⟩
theorem Wz{z ti tt j1 j2 l1 l2:uu}{m:Nat}{xs ys:wK W1}{x y u1 u2:W1}{Q:uo W1->ur->Prop}(D:ZipApart z ti tt j1 j2 l1 l2)(oz:AAY s.heap z ti tt .none)(oi:yF s.heap ti (.ref j1) (.ref j2))(ot:yF s.heap tt u1 u2)(q1:SIt s.heap j1 l1 m xs)(q2:SIt s.heap j2 l2 m ys)(ex:xs[m]?=Fk x)(ey:ys[m]?=Fk y)(k:∀h',AAY h' z ti tt (rawInt s.heap.objs.size)->yF h' tt x y->SIt h' j1 l1 (m+1) xs->SIt h' j2 l2 (m+1) ys->yF h' s.heap.objs.size x y->(∀c o,c≠z->c≠tt->c≠j1->c≠j2->s.heap.get? c=Fk o->h'.get? c=Fk o)->Q (Fk (.ref s.heap.objs.size)) {s with heap:=h'}):wpAny (model prog w) A (pyNext (.ref z)) Q E s:=by
 have ht:s.TypeIs (.ref z) "zip":=⟨_,oz,rfl⟩
 unfold pyNext
 exact um (wpAny_attempt (wd (name:=xC "__next__") ht z9 (xF z9 ht F.entry_zip_next
  (Xd D oz oi ot q1 q2 ex ey λh' a1 a2 a3 a4 a5 a6=>vD (k h' a1 a2 a3 a4 a5 a6)) (F.args_zip_next_1 _))))
theorem Zi{z ti tt j1 j2 l1 l2:uu}{m:Nat}{xs ys:wK W1}{u1 u2:W1}{Q:uo W1->ur->Prop}(hh:A.handled=uk)(D:ZipApart z ti tt j1 j2 l1 l2)(oz:AAY s.heap z ti tt .none)(oi:yF s.heap ti (.ref j1) (.ref j2))(ot:yF s.heap tt u1 u2)(q1:SIt s.heap j1 l1 m xs)(q2:SIt s.heap j2 l2 m ys)(en:xs[m]?=uk\/ys[m]?=uk)(k:∀h',(∀c o,c≠z->c≠tt->c≠j1->c≠j2->s.heap.get? c=Fk o->h'.get? c=Fk o)->Q uk {s with heap:=h'}):wpAny (model prog w) A (pyNext (.ref z)) Q E s:=by
 have ht:s.TypeIs (.ref z) "zip":=⟨_,oz,rfl⟩
 unfold pyNext
 refine um (wpAny_attempt (wd (name:=xC "__next__") ht z9 (xF z9 ht F.entry_zip_next
  (Z2 hh D oz oi ot q1 q2 en λh' e kp he=>?_) (F.args_zip_next_1 _))))
 obtain⟨o,e1,e2⟩:=he
 exact um (wpAny_isInstance (T:="StopIteration") (b:=true) ⟨o,e1,e2⟩ isSubtype_stop (vD (k _ kp)))
end
end L2
end
noncomputable section
namespace L2
open PySem PySem.Spec PyProof.Rows
def Q0(h:ve)(b:vm)(l:uu)(its:wK W1):Prop:=match b with|true=>h.IsTuple l its|false=>h.IsList l its
noncomputable def j5:vm->xl|true=>"tuple_iterator" |false=>"list_iterator"
noncomputable def zh1(h:ve)(b:vm)(l:uu):ve:=h.push {cls:=.type (j5 b),data:=.fields #[.ref l,.int 0 0]}
noncomputable def zh2(h:ve)(b c:vm)(l m:uu):ve:=zh1 (zh1 h b l) c m
noncomputable def zh3(h:ve)(b c:vm)(l m:uu):ve:=(zh2 h b c l m).push {cls:=.type "tuple",data:=.seq #[.ref h.objs.size,.ref (zh1 h b l).objs.size]}
noncomputable def zh4(h:ve)(b c:vm)(l m:uu):ve:=(zh3 h b c l m).push {cls:=.type "tuple",data:=.seq #[.none,.none]}
noncomputable def zh5(h:ve)(b c:vm)(l m:uu):ve:=(zh4 h b c l m).push {cls:=.type "zip",data:=.fields #[.none,.bool false,.bool false,.ref (zh2 h b c l m).objs.size,.ref (zh3 h b c l m).objs.size]}
theorem Q0.push{h:ve}{b:vm}{l:uu}{its:wK W1}(q:Q0 h b l its)(o:Obj):Q0 (h.push o) b l its:=by
 cases b
 .exact Heap.IsList.push q _
 .obtain⟨u,e,r⟩:=(show h.IsTuple l its from q)
  exact⟨u,tz _ e,r⟩
theorem aK(b c:vm)(l m:uu)(xs ys:wK W1):Meets (zP.«zip.__new__» ⟨[.type "zip",.ref l,.ref m],[]⟩) (λ_ R s=>Q0 s.heap b l xs/\Q0 s.heap c m ys/\R (.ok (.ret (.ref (zh4 s.heap b c l m).objs.size))) {s with heap:=zh5 s.heap b c l m}):=
 .of_wp λprog w A R s hyp=>by
  obtain⟨hp,gs,dr,tk,os⟩:=s
  obtain⟨i1,i2,hyp⟩:=hyp
  have hsub:=sub_zip
  have i3:Q0 (yD ⟨zh1 hp b l,gs,dr,tk,os⟩) c m ys:=Q0.push i2 _
  cases b<;>cases c
  .have a1:ABd (yD ⟨hp,gs,dr,tk,os⟩) l xs:=i1
   have a2:ABd (yD ⟨hp.push {cls:=.type "list_iterator",data:=.fields #[.ref l,.int 0 0]},gs,dr,tk,os⟩) m ys:=i3
   wp_walk using xJ a1,xJ a2
   exact⟨_,rfl,hyp⟩
  .have a1:ABd (yD ⟨hp,gs,dr,tk,os⟩) l xs:=i1
   have a2:AAI (yD ⟨hp.push {cls:=.type "list_iterator",data:=.fields #[.ref l,.int 0 0]},gs,dr,tk,os⟩) m ys:=i3
   wp_walk using xJ a1,xD a2
   exact⟨_,rfl,hyp⟩
  .have a1:AAI (yD ⟨hp,gs,dr,tk,os⟩) l xs:=i1
   have a2:ABd (yD ⟨hp.push {cls:=.type "tuple_iterator",data:=.fields #[.ref l,.int 0 0]},gs,dr,tk,os⟩) m ys:=i3
   wp_walk using xD a1,xJ a2
   exact⟨_,rfl,hyp⟩
  .have a1:AAI (yD ⟨hp,gs,dr,tk,os⟩) l xs:=i1
   have a2:AAI (yD ⟨hp.push {cls:=.type "tuple_iterator",data:=.fields #[.ref l,.int 0 0]},gs,dr,tk,os⟩) m ys:=i3
   wp_walk using xD a1,xD a2
   exact⟨_,rfl,hyp⟩
section
variable{prog:vR}{w:vi}{A:vj}{E:W1->ur->Prop}{s:ur}
theorem cF{h h':ve}{b:vm}{l j:uu}{its:wK W1}(q:Q0 h b l its)(k:∀c o,h.get? c=Fk o->h'.get? c=Fk o)(e:h'.get? j=Fk {cls:=.type (j5 b),data:=.fields #[.ref l,.int 0 0]}):SIt h' j l 0 its:=by
 cases b
 .exact .inl ⟨⟨_,e,rfl,rfl⟩,(show h.IsList l its from q).at λo z=>k _ o z⟩
 .exact .inr ⟨⟨_,e,rfl,rfl⟩,let⟨o,z,r⟩:=(show h.IsTuple l its from q);⟨o,k _ o z,r⟩⟩
theorem YR{b c:vm}{l m:uu}{xs ys:wK W1}{Q:W1->ur->Prop}(i1:Q0 s.heap b l xs)(i2:Q0 s.heap c m ys)(k:∀h',AAY h' (s.heap.objs.size+4) (s.heap.objs.size+2) (s.heap.objs.size+3) .none->yF h' (s.heap.objs.size+2) (.ref s.heap.objs.size) (.ref (s.heap.objs.size+1))->yF h' (s.heap.objs.size+3) .none .none->SIt h' s.heap.objs.size l 0 xs->SIt h' (s.heap.objs.size+1) m 0 ys->(∀c o,s.heap.get? c=Fk o->h'.get? c=Fk o)->Q (.ref (s.heap.objs.size+4)) {s with heap:=h'}):wpAny (model prog w) A (call (.type "zip") [.ref l,.ref m]) Q E s:=by
 refine callType_new F.called_zip (by decide) (F.typeCall_zip_2 _ _) (F.newCall_zip_2 _ _) (λobj=>F.args_object_init_3 obj _ _) F.entry_zip_new (aK b c l m xs ys) ⟨i1,i2,?_⟩
 have z1:(zh1 s.heap b l).objs.size=s.heap.objs.size+1:=wg ..
 have z2:(zh2 s.heap b c l m).objs.size=s.heap.objs.size+2:=by unfold zh2 zh1;rw[wg];exact congrArg (· +1) z1
 have z3:(zh3 s.heap b c l m).objs.size=s.heap.objs.size+3:=by unfold zh3;rw[wg,z2]
 have z4:(zh4 s.heap b c l m).objs.size=s.heap.objs.size+4:=by unfold zh4;rw[wg,z3]
 have kp:∀d o,s.heap.get? d=Fk o->(zh5 s.heap b c l m).get? d=Fk o:=λd o e=>by
  unfold zh5 zh4 zh3 zh2 zh1
  exact tz _ (tz _ (tz _ (tz _ (tz _ e))))
 have g5:(zh5 s.heap b c l m).get? (zh4 s.heap b c l m).objs.size=Fk _:=vM _ rfl
 have g4:(zh5 s.heap b c l m).get? (zh3 s.heap b c l m).objs.size=Fk _:=tz _ (vM _ rfl)
 have g3:(zh5 s.heap b c l m).get? (zh2 s.heap b c l m).objs.size=Fk _:=tz _ (tz _ (vM _ rfl))
 have g2:(zh5 s.heap b c l m).get? (zh1 s.heap b l).objs.size=Fk _:=tz _ (tz _ (tz _ (vM _ rfl)))
 have g1:(zh5 s.heap b c l m).get? s.heap.objs.size=Fk _:=tz _ (tz _ (tz _ (tz _ (vM _ rfl))))
 show _/\_
 rw[z2,z3,z4]at g5
 rw[z1,z2]at g3
 rw[z3]at g4
 rw[z1]at g2
 rw[z4]
 exact⟨⟨_,g5,rfl⟩,k _ g5 g3 g4 (cF i1 kp g1) (cF i2 kp g2) kp⟩
end
end L2
end
noncomputable section
namespace L2
open PySem PySem.Spec PyProof.Rows
def SqB(K:Wp)(H:Hp)(k:vm)(a:uu)(xs:Gc V):Prop:=match k with|true=>SqT K H a xs|false=>SqL K H a xs
def JIt(h:ve)(k:vm)(j l:uu)(i:Nat):Prop:=match k with|true=>h.IsTupleIter j l i|false=>h.IsListIter j l i
theorem JIt.at{h h':ve}{k:vm}{j l:uu}{i:Nat}(q:JIt h k j l i)(e:∀o,h.get? j=Fk o->h'.get? j=Fk o):JIt h' k j l i:=by
 cases k
 .exact Heap.IsListIter.at q e
 .exact Heap.IsTupleIter.at q e
theorem JIt.sit{h:ve}{k:vm}{j l:uu}{i:Nat}{its:wK W1}(q:JIt h k j l i)(p:Q0 h k l its):SIt h j l i its:=by
 cases k
 .exact .inl ⟨q,p⟩
 .exact .inr ⟨q,p⟩
theorem SIt.jit{h:ve}{k:vm}{j l:uu}{i:Nat}{its:wK W1}(q:SIt h j l i its)(p:Q0 h k l its):JIt h k j l i:=by
 rcases q with⟨q,r⟩|⟨q,r⟩
 .cases k
  .exact q
  .obtain⟨o,e,c,_⟩:=r;obtain⟨o',e',c',_⟩:=(show h.IsTuple l its from p)
   rw[e]at e';cases e';rw[c]at c';injection c' with z;exact absurd z (by decide)
 .cases k
  .obtain⟨o,e,c,_⟩:=r;obtain⟨o',e',c',_⟩:=(show h.IsList l its from p)
   rw[e]at e';cases e';rw[c]at c';injection c' with z;exact absurd z (by decide)
  .exact q
theorem Inv.sqB{X:Cx}{pins:Gc (uu×Obj)}{σ:St}{H:Hp}{s:ur}{k:vm}{a:uu}{xs:Gc V}(I:Inv X pins σ H s)(h:SqB X.K H k a xs):∃its:Gc W1,Vals xs its/\Q0 s.heap k a its.toArray:=by
 cases k
 .obtain⟨its,h1,⟨o,n,q1,q2,_,q3⟩,h3⟩:=I.list h
  exact⟨its,h1,o,q1,q2,n,q3⟩
 .obtain⟨its,h1,h2,h3⟩:=I.tuple h
  exact⟨its,h1,h2⟩
theorem Inv.VX{X:Cx}{pins:Gc (uu×Obj)}{σ:St}{H:Hp}{s:ur}{k:vm}{a:uu}{xs ys:Gc V}(I:Inv X pins σ H s)(h:SqB X.K H k a xs)(g:SqB X.K H k a ys):xs=ys:=by
 cases k
 .exact I.WB h g
 .exact I.UQ h g
noncomputable def Itz(K:Wp)(k:vm)(a:uu)(m:vm)(b:uu):It:=
 ⟨λi H=>∃(xs ys:Gc V) (x y:V),SqB K H k a xs/\SqB K H m b ys/\xs[i]?=Fk x/\ys[i]?=Fk y,
  λi H v H'=>∃(p:uu) (x y:V),H p=uk/\v=.ref p/\(∀xs,SqB K H k a xs->xs[i]?=Fk x)/\(∀ys,SqB K H m b ys->ys[i]?=Fk y)/\H'=upd H p (.tup [x,y]),
  λi H=>∃(xs ys:Gc V),SqB K H k a xs/\SqB K H m b ys/\(xs.length<=i\/ys.length<=i)⟩
structure ZSt(h:ve)(z ti tt j1 j2:uu)(k:vm)(a:uu)(m:vm)(b:uu)(i:Nat):Prop where
 oz:AAY h z ti tt .none
 oi:yF h ti (.ref j1) (.ref j2)
 ot:∃u v,yF h tt u v
 q1:JIt h k j1 a i
 q2:JIt h m j2 b i
structure ZNe(z ti tt j1 j2:uu):Prop where
 n1:ti≠z
 n2:tt≠z
 n3:j1≠z
 n4:j2≠z
 n5:ti≠tt
 n6:ti≠j1
 n7:ti≠j2
 n8:tt≠j1
 n9:tt≠j2
 n10:j1≠j2
theorem ZNe.apart{z ti tt j1 j2 a b:uu}(N:ZNe z ti tt j1 j2)(ha:a∉ [z,tt,j1,j2])(hb:b∉ [z,tt,j1,j2]):ZipApart z ti tt j1 j2 a b:=by
 simp only[uw,vN,wF,AAp]at ha hb
 exact⟨N.n1,N.n2,N.n3,N.n4,N.n5,N.n6,N.n7,N.n8,N.n9,N.n10,ha.1,ha.2.1,ha.2.2.1,ha.2.2.2,hb.1,hb.2.1,hb.2.2.1,hb.2.2.2⟩
theorem CQ{X:Cx}{pins:Gc (uu×Obj)}{σ:St}{H:Hp}{s:ur}{k:vm}{a c:uu}{xs:Gc V}(I:Inv X pins σ H s)(q:SqB X.K H k a xs)(f:VT X pins H c):a≠c:=by
 intro e
 subst e
 have rd:∀o,Rd H a o->xt:=λo r=>by
  rcases r with r|⟨_,r⟩<;>(rw[f.1]at r;cases r)
 have kk:∀o,X.K.lookup a=Fk o->xt:=λo hk=>by
  have b:=I.ok.mod.kin a o hk
  rcases f.2.2.2.1 with z|z
  .exact I.ok.cn a o b z
  .exact absurd (uy (vI (I.ok.bs a o b).1) z) (wj _)
 cases k
 .rcases(show SqL X.K H a xs from q)with q|⟨o,_,_,hk,_⟩
  .exact rd _ q
  .exact kk o hk
 .rcases(show SqT X.K H a xs from q)with q|⟨o,_,_,hk,_⟩
  .exact rd _ q
  .exact kk o hk
theorem aJ{P:vR}{w:vi}{K:Wp}{elts:Gc vU}{n:Nat}{pos:Pos}(k:vm)(a:uu)(m:vm)(b:uu)(z ti tt j1 j2:uu)(N:ZNe z ti tt j1 j2):Turn P w K (.Tuple elts n pos) (Itz K k a m b) [z,ti,tt,j1,j2] z (λi h=>ZSt h z ti tt j1 j2 k a m b i) where
 mem:=by simp
 obj:=λi h st c hc=>by
  have jl:∀{q:vm} {j l:uu},JIt h q j l i->∃o,h.get? j=Fk o/\∀v,o.data≠.cell v:=λ{q j l} x=>by
   cases q
   .obtain⟨o,e,_,d⟩:=(show h.IsListIter j l i from x)
    exact⟨o,e,λv z=>by rw[d]at z;cases z⟩
   .obtain⟨o,e,_,d⟩:=(show h.IsTupleIter j l i from x)
    exact⟨o,e,λv z=>by rw[d]at z;cases z⟩
  simp only[uw,vN,wF]at hc
  rcases hc with rfl|rfl|rfl|rfl|rfl
  .exact⟨_,st.oz,λv z=>nomatch z⟩
  .exact⟨_,st.oi,λv z=>nomatch z⟩
  .obtain⟨u,v,e⟩:=st.ot
   exact⟨_,e,λv z=>nomatch z⟩
  .exact jl st.q1
  .exact jl st.q2
 keep:=λi h h' st kp=>⟨kp z (by simp) _ st.oz,kp ti (by simp) _ st.oi,let⟨u,v,e⟩:=st.ot;⟨u,v,kp tt (by simp) _ e⟩,st.q1.at λo e=>kp j1 (by simp) o e,st.q2.at λo e=>kp j2 (by simp) o e⟩
 item:=by
  intro X hP hw hK hc i pins s σ H E I hf st hg
  subst hP hw hK
  obtain⟨xs,ys,x,y,s1,s2,e1,e2⟩:=hg
  obtain⟨i1,r1,p1⟩:=I.sqB s1
  obtain⟨i2,r2,p2⟩:=I.sqB s2
  obtain⟨u1,h1,ru1⟩:=r1.get e1
  obtain⟨u2,h2,ru2⟩:=r2.get e2
  have fz:=hf z (by simp);have fi:=hf ti (by simp);have ft:=hf tt (by simp);have f1:=hf j1 (by simp);have f2:=hf j2 (by simp)
  have ap:=N.apart (a:=a) (b:=b) (by simp[CQ I s1 fz,CQ I s1 ft,CQ I s1 f1,CQ I s1 f2]) (by simp[CQ I s2 fz,CQ I s2 ft,CQ I s2 f1,CQ I s2 f2])
  obtain⟨v1,v2,ot⟩:=st.ot
  refine Wz ap st.oz st.oi ot (st.q1.sit p1) (st.q2.sit p2) (x:=u1) (y:=u2) (by simpa using h1) (by simpa using h2) λh' oz ot' q1 q2 op kp=>⟨_,rfl,wpAny_letOwnedTupleGo_zip oz λg oz' sb=>?_⟩
  have lt:∀c o,s.heap.get? c=Fk o->c≠s.heap.objs.size:=λc o q=>vZ (vI q)
  have nz:z≠s.heap.objs.size:=lt _ _ st.oz
  have nt:tt≠s.heap.objs.size:=lt _ _ ot
  have n1:j1≠s.heap.objs.size:=by obtain⟨o,e,_⟩:=(st.q1.sit p1).live;exact lt _ _ e
  have n2:j2≠s.heap.objs.size:=by obtain⟨o,e,_⟩:=(st.q2.sit p2).live;exact lt _ _ e
  have kp2:∀c o,c≠z->c≠tt->c≠j1->c≠j2->s.heap.get? c=Fk o->g.get? c=Fk o:=λc o c1 c2 c3 c4 q=>(sb.2 c c1).trans (kp c o c1 c2 c3 c4 q)
  have fr:H s.heap.objs.size=none:=I.hok.fresh (u4 _)
  have op2:g.get? s.heap.objs.size=Fk {cls:=.type "tuple",data:=.seq #[u1,u2]}:=(sb.2 _ (wu nz)).trans op
  have ne:∀c u,c∈ [z,ti,tt,j1,j2]->∀d,H d=Fk u->d≠c:=λc u hc d q e=>by rw[e,(hf c hc).1]at q;cases q
  have kpH:∀c u,H c=Fk u->∀o,s.heap.get? c=Fk o->g.get? c=Fk o:=λc u q o e=>kp2 c o (ne z u (by simp) c q) (ne tt u (by simp) c q) (ne j1 u (by simp) c q) (ne j2 u (by simp) c q) e
  have ka:∀o,s.heap.get? a=Fk o->g.get? a=Fk o:=λo e=>kp2 a o (CQ I s1 fz) (CQ I s1 ft) (CQ I s1 f1) (CQ I s1 f2) e
  have kb:∀o,s.heap.get? b=Fk o->g.get? b=Fk o:=λo e=>kp2 b o (CQ I s2 fz) (CQ I s2 ft) (CQ I s2 f1) (CQ I s2 f2) e
  have sq:∀{q:vm} {d:uu} {is:wK W1},Q0 s.heap q d is->(∀o,s.heap.get? d=Fk o->h'.get? d=Fk o)->Q0 h' q d is:=λ{q d is} x kd=>by
   cases q
   .exact(show s.heap.IsList d is from x).at kd
   .obtain⟨o,e,r⟩:=(show s.heap.IsTuple d is from x)
    exact⟨o,kd o e,r⟩
  have ka1:∀o,s.heap.get? a=Fk o->h'.get? a=Fk o:=λo e=>kp a o (CQ I s1 fz) (CQ I s1 ft) (CQ I s1 f1) (CQ I s1 f2) e
  have kb1:∀o,s.heap.get? b=Fk o->h'.get? b=Fk o:=λo e=>kp b o (CQ I s2 fz) (CQ I s2 ft) (CQ I s2 f1) (CQ I s2 f2) e
  refine⟨.ref s.heap.objs.size,upd H s.heap.objs.size (.tup [x,y]),?_,rfl,⟨_,x,y,fr,rfl,λzs hz=>by rw[I.VX hz s1];exact e1,λzs hz=>by rw[I.VX hz s2];exact e2,rfl⟩,⟨oz',(sb.2 _ N.n1).trans (kp ti _ N.n1 N.n5 N.n6 N.n7 st.oi),⟨_,_,(sb.2 _ N.n2).trans ot'⟩,(q1.jit (sq p1 ka1)).at λo e=>(sb.2 _ N.n3).trans e,(q2.jit (sq p2 kb1)).at λo e=>(sb.2 _ N.n4).trans e⟩,?_⟩
  .show Inv X pins σ _ {s with heap:=g,gens:=s.gens,drawn:=s.drawn,toks:=s.toks}
   refine I.step (g':=s.gens) (d':=s.drawn) (ch:=[z,tt,j1,j2]) ?_ ?_ ?_ ?_ ?_ ?_ ?_ ?_ ?_ ?_ I.bare
   .intro c hc
    have q:VT X pins H c:=hf c (by simp only[uw,vN,wF]at hc ⊢; rcases hc with z|z|z|z<;>simp[z])
    exact⟨q.2.2.2.1,q.2.1,q.2.2.2.2.1,q.2.2.2.2.2⟩
   .exact λc o _ _ hc q _=>by
     simp only[uw,vN,wF,AAp]at hc
     exact kp2 c o hc.1 hc.2.1 hc.2.2.1 hc.2.2.2 q
   .exact λc o _ _ hc q _=>by
     simp only[uw,vN,wF,AAp]at hc
     exact⟨o.slots,kp2 c o hc.1 hc.2.1 hc.2.2.1 hc.2.2.2 q⟩
   .exact λc o _ q n=>by rw[Au (lt c o q)];exact n
   .exact λc o hc q=>by
     simp only[uw,vN,wF,AAp]at hc
     exact⟨o,kp2 c o hc.1 hc.2.1 hc.2.2.1 hc.2.2.2 q⟩
   .exact λc ys q=>by rw[Au (CF q fr)];exact q
   .exact λc o u q=>by rw[Au (CF q fr)];exact q
   .exact λc ps q=>⟨#[],by rw[Au (CF q fr),q];simp⟩
   .rintro mm ⟨o,es,ep,ho,r⟩
    exact⟨o,es,ep,kp2 _ o (wu fz.2.1) (wu ft.2.1) (wu f1.2.1) (wu f2.2.1) ho,r⟩
   .intro c v q
    by_cases hb:c=s.heap.objs.size
    .subst hb
     rw[Br]at q
     cases q
     exact⟨by show 2<=sizeLine;decide,[u1,u2],.cons ru1 (.cons ru2 .nil),⟨_,op2,rfl,0,rfl⟩⟩
    .rw[Au hb]at q
     refine(I.hok c v q).Zq (λd o hd r=>?_) (λd r=>by rw[Au (CF r fr)];exact r) (λd ys r=>by rw[Au (CF r fr)];exact r)
     rcases hd with e|e
     .rw[e]at r ⊢; exact kpH c v q o r
     .exact kpH d _ e o r
  .intro c hc
   have q:=hf c hc
   have:c≠s.heap.objs.size:=by
    simp only[uw,vN,wF]at hc
    rcases hc with e|e|e|e|e
    .rw[e];exact nz
    .rw[e];exact lt _ _ st.oi
    .rw[e];exact nt
    .rw[e];exact n1
    .rw[e];exact n2
   rw[Au this];exact q.1
 done:=by
  intro X hP hw hK hc i pins s σ H E I hf st hg
  subst hP hw hK
  obtain⟨xs,ys,s1,s2,e⟩:=hg
  obtain⟨i1,r1,p1⟩:=I.sqB s1
  obtain⟨i2,r2,p2⟩:=I.sqB s2
  have l1:=r1.length
  have l2:=r2.length
  have hh:X.A.in1.handled=none:=I.ok.hd hc
  have hh0:X.A.handled=none:=I.ok.hd hc
  have fz:=hf z (by simp);have fi:=hf ti (by simp);have ft:=hf tt (by simp);have f1:=hf j1 (by simp);have f2:=hf j2 (by simp)
  have ap:=N.apart (a:=a) (b:=b) (by simp[CQ I s1 fz,CQ I s1 ft,CQ I s1 f1,CQ I s1 f2]) (by simp[CQ I s2 fz,CQ I s2 ft,CQ I s2 f1,CQ I s2 f2])
  obtain⟨v1,v2,ot⟩:=st.ot
  refine Zi hh0 ap st.oz st.oi ot (st.q1.sit p1) (st.q2.sit p2) (by rcases e with e|e;exact .inl (by simp;lia);exact .inr (by simp;lia)) λh' kp=>⟨rfl,?_⟩
  have ne:∀c u,c∈ [z,ti,tt,j1,j2]->∀d,H d=Fk u->d≠c:=λc u hc d q e=>by rw[e,(hf c hc).1]at q;cases q
  show Inv X pins σ _ {s with heap:=h',gens:=s.gens,drawn:=s.drawn,toks:=s.toks}
  refine I.step (g':=s.gens) (d':=s.drawn) (ch:=[z,tt,j1,j2]) ?_ ?_ ?_ ?_ ?_ ?_ ?_ ?_ ?_ ?_ I.bare
  .intro c hc
   have q:VT X pins H c:=hf c (by simp only[uw,vN,wF]at hc ⊢; rcases hc with z|z|z|z<;>simp[z])
   exact⟨q.2.2.2.1,q.2.1,q.2.2.2.2.1,q.2.2.2.2.2⟩
  .exact λc o _ _ hc q _=>by
    simp only[uw,vN,wF,AAp]at hc
    exact kp c o hc.1 hc.2.1 hc.2.2.1 hc.2.2.2 q
  .exact λc o _ _ hc q _=>by
    simp only[uw,vN,wF,AAp]at hc
    exact⟨o.slots,kp c o hc.1 hc.2.1 hc.2.2.1 hc.2.2.2 q⟩
  .exact λc o _ q n=>n
  .exact λc o hc q=>by
    simp only[uw,vN,wF,AAp]at hc
    exact⟨o,kp c o hc.1 hc.2.1 hc.2.2.1 hc.2.2.2 q⟩
  .exact λc ys q=>q
  .exact λc o u q=>q
  .exact λc ps q=>⟨#[],by rw[q];simp⟩
  .rintro mm ⟨o,es,ep,ho,r⟩
   exact⟨o,es,ep,kp _ o (wu fz.2.1) (wu ft.2.1) (wu f1.2.1) (wu f2.2.1) ho,r⟩
  .intro c v q
   refine(I.hok c v q).Zq (λd o hd r=>?_) (λd r=>r) (λd ys r=>r)
   rcases hd with e|e
   .rw[e]at r ⊢; exact kp c o (ne z v (by simp) c q) (ne tt v (by simp) c q) (ne j1 v (by simp) c q) (ne j2 v (by simp) c q) r
   .exact kp d o (ne z _ (by simp) d e) (ne tt _ (by simp) d e) (ne j1 _ (by simp) d e) (ne j2 _ (by simp) d e) r
 self:=λ_ _ _ _ _ st h=>wpAny_pyIter_zip st.oz h
end L2
end
noncomputable section
namespace L2
open PySem PySem.Spec PyProof.Rows
theorem zne(n:Nat):ZNe (n+4) (n+2) (n+3) n (n+1):=⟨λe=>by have:n+2=n+4:=e;lia,λe=>by have:n+3=n+4:=e;lia,λe=>by have:n=n+4:=e;lia,λe=>by have:n+1=n+4:=e;lia,λe=>by have:n+2=n+3:=e;lia,λe=>by have:n+2=n:=e;lia,λe=>by have:n+2=n+1:=e;lia,λe=>by have:n+3=n:=e;lia,λe=>by have:n+3=n+1:=e;lia,λe=>by have:n=n+1:=e;lia⟩
section
variable{X:Cx}
noncomputable def sk(K:Wp)(ta:TA):TI:=λσ H R=>ta σ H λvs H1=>∃k a m b,vs=[.ref a,.ref b]/\(∃xs,SqB K H1 k a xs)/\(∃ys,SqB K H1 m b ys)/\R (Itz K k a m b) H1
theorem kL{a b:vU}{ta:TA}{p pos tp:Pos}{elts:Gc vU}{n:Nat}(hg:Gl X "zip")(hm:X.mg "zip"=uk)(ha:PA X [a,b] ta)(hs:vP [a,b] X.env=[(false,eval a X.env),(false,eval b X.env)]:=by rfl)(hs2:vP [b] X.env=[(false,eval b X.env)]:=by rfl):PI X (.Tuple elts n tp) (.Call (.Name "zip" p) [a,b] [] pos) (sk X.K ta):=by
 intro pins s σ H R I h
 refine Call_ (MB I hg hm boot_zip (wZ (thn (ha pos pins s σ H _ I h) λus s1 ⟨vs,H1,I1,r1,q1⟩=>?_) (by rw[hs,hs2]) (by rw[hs2];rfl)))
 obtain⟨k,a',m,b',e,⟨xs,hq⟩,⟨ys,hr⟩,q⟩:=q1
 subst e
 obtain⟨u,v,rfl,ru,rv⟩:=r1.two
 cases (show u=wN a' from ru)
 cases (show v=wN b' from rv)
 obtain⟨i1,v1,p1⟩:=I1.sqB hq
 obtain⟨i2,v2,p2⟩:=I1.sqB hr
 refine YR p1 p2 λh' oz oi ot q1 q2 kp=>wpAny_pyIter_zip (s:={s1 with heap:=h'}) oz ?_
 have sq:∀{q:vm} {d:uu} {is:wK W1},Q0 s1.heap q d is->Q0 h' q d is:=λ{q d is} x=>by
  cases q
  .exact(show s1.heap.IsList d is from x).at λo e=>kp _ o e
  .obtain⟨o,e,r⟩:=(show s1.heap.IsTuple d is from x)
   exact⟨o,kp _ o e,r⟩
 refine⟨s1.heap.objs.size+4,[s1.heap.objs.size+4,s1.heap.objs.size+2,s1.heap.objs.size+3,s1.heap.objs.size,s1.heap.objs.size+1],_,_,H1,rfl,I1.kept (t':=s1.toks) kp,
  aJ k a' m b' _ _ _ _ _ (zne s1.heap.objs.size),⟨oz,oi,⟨_,_,ot⟩,q1.jit (sq p1),q2.jit (sq p2)⟩,λc hc=>?_,q⟩
 simp only[uw,vN,wF]at hc
 have:s1.heap.objs.size<=c:=by rcases hc with rfl|rfl|rfl|rfl|rfl<;>first|exact u4 _|exact Nat.le_add_right _ _
 exact I1.gc this (I1.hok.fresh this)
end
end L2
end
noncomputable section
namespace L2
open PySem PySem.Spec PyProof.Rows
section
variable{prog:vR}{w:vi}{A:vj}{E:W1->ur->Prop}{s:ur}
theorem IsList.V7{h h':ve}{a:uu}{items:wK W1}(p:h.IsList a items)(k:∀o,h.get? a=Fk o->h'.get? a=Fk o):h'.IsList a items:=by
 obtain⟨o,ho,r⟩:=p
 exact⟨o,k o ho,r⟩
theorem UY{it t:uu}{items:wK W1}(hne:t≠it):∀(n i:Nat) (s:ur) (Q:Gc W1->ur->Prop),s.heap.IsListIter it t i->s.heap.IsList t items->i+n<=items.size->(∀h',h'.IsListIter it t (i+n)->zJ it s.heap h'->Q ((items.toList.drop i).take n) {s with heap:=h'})->wpAny (model prog w) A (draw (.ref it) n) Q E s
 |0,i,s,Q,hit,_,_,hQ=>by
  show wpAny _ _ (pure []) Q E s
  exact vD (by simpa using hQ s.heap hit (Heap.SameBut.refl ..))
 |n+1,i,s,Q,hit,ht,hle,hQ=>by
  have hlt:i<items.size:=by lia
  show wpAny _ _ (pyNext (.ref it) >>= _) Q E s
  refine um (zK hit ht (x:=items[i]) (by simp[hlt]) λh1 hit1 hs1=>?_)
  refine um (xG (UY hne n (i+1) _ _ hit1 (IsList.V7 ht λo e=>hs1.extBut t o hne e) (by lia) λh2 hit2 hs2=>vD ?_))
  have hd:items.toList.drop i=items[i]::items.toList.drop (i+1):=by simp[wH,hlt]
  have:=hQ h2 (by rw[show i+(n+1)=i+1+n by lia];exact hit2) (hs1.trans hs2)
  rw[hd,List.take_succ_cons]at this
  exact this
theorem Og{t:uu}{items:wK W1}{Q:Gc W1->ur->Prop}(hh:A.handled=uk)(ht:s.heap.IsList t items)(hty:s.TypeIs (.ref t) "list")(hQ:∀h',AAk s.heap.objs.size s.heap h'->Q items.toList {s with heap:=h'}):wpAny (model prog w) A (unpackItems (.ref t) items.size uk) Q E s:=by
 have hlt:t≠s.heap.objs.size:=by obtain⟨o,ho,_⟩:=ht;exact vZ (vI ho)
 unfold unpackItems
 refine um ?_
 .unfold notIterableAtAll
  refine um (wpAny_specialOf hty F.slot_list_iter.lookup ?_)
  refine vD ?_
  simp only[zC,AAS]
  refine um (xG (xJ ht ?_))
  refine um (xG (UY hlt items.size 0 _ _ ⟨_,vM _ rfl,rfl,rfl⟩ (IsList.V7 ht λo e=>tz _ e) (by lia) λh1 hit1 hs1=>?_))
  have hall:List.take items.size (List.drop 0 items.toList)=items.toList:=by
   rw[List.drop_zero];exact yV (by simp)
  rw[hall]
  rw[vf (by simp)]
  have ht1:h1.IsList t items:=IsList.V7 (IsList.V7 ht λo e=>tz _ e) λo e=>hs1.extBut t o hlt e
  refine um (xG (zX hh hit1 ht1 (by simp) λh2 he2=>?_))
  simp only[Option.isSome_none,zC,AAS]
  refine vD (hQ h2 λb o hb e=>he2 b o hb (hs1.extBut b o hb (tz _ e)))
theorem NV{env:Env}{elts:Gc vU}{x1}{pos:Pos}{t:uu}{items:wK W1}{Q:Unit->ur->Prop}(hh:A.handled=uk)(ht:s.heap.IsList t items)(hty:s.TypeIs (.ref t) "list")(hn:(assignEach elts env).length=items.size)(hstar:(assignEach elts env).findIdx? (·.1)=uk)(h:∀h',AAk s.heap.objs.size s.heap h'->wpAny (model prog w) A (assignInOrder ((assignEach elts env).map (·.2)) items.toList) Q E {s with heap:=h'}):wpAny (model prog w) A (assign (.Tuple elts x1 pos) env (.ref t)) Q E s:=by
 rw[PyProof.Rows.assign_Tuple]
 refine um (y4 ?_)
 unfold unpack
 rw[hn,hstar]
 exact um (xG (Og hh ht hty h))
end
section
variable{X:Cx}{pos:Pos}
noncomputable def uC(K:Wp)(n:Nat)(t:TGs):TG:=λv σ H Q=>∃a xs,v=.ref a/\(SqT K H a xs\/H a=Fk (.lst xs))/\xs.length=n/\t xs σ H Q
theorem kJ{es:Gc vU}{k:Nat}{t:TGs}{n:Nat}(hc:X.calm=true)(h:PGs X es t)(hn:(assignEach es X.env).length=n:=by rfl)(hst:(assignEach es X.env).findIdx? (·.1)=none:=by rfl):PG X (.Tuple es k pos) (uC X.K n t):=by
 intro pins s σ H v u Q I r hw
 obtain⟨a,xs,e1,hq,hl,hw⟩:=hw
 rcases hq with hq|hq
 .exact jq hc h hn hst pins s σ H v u Q I r ⟨a,xs,e1,hq,hl,hw⟩
 .subst e1
  cases r
  obtain⟨its,rv,p,hz⟩:=I.list (SqL.of hq)
  obtain⟨z,its2,m,rv2,_,e⟩:=I.cX hq
  refine NV (I.ok.hd hc) p.isList ⟨_,e,rfl⟩ (by simp[hn,<-hl,rv.length]) hst λh' hx=>?_
  have I1:Inv X pins σ H {s with heap:=h'}:=I.kept (t':=s.toks) λb o e=>hx b o (vZ (vI e)) e
  exact h pins _ σ H xs _ Q I1 (by simpa using rv) hw
end
end L2
end
noncomputable section
namespace L2
open PySem PySem.Spec PyProof.Rows
theorem JIt.live{h:ve}{k:vm}{j l:uu}{i:Nat}(q:JIt h k j l i):∃o,h.get? j=Fk o/\∀v,o.data≠.cell v:=by
 cases k with
 |true=>obtain⟨o,e,c,d⟩:=q;exact⟨o,e,λv z=>by rw[d]at z;cases z⟩
 |false=>obtain⟨o,e,c,d⟩:=q;exact⟨o,e,λv z=>by rw[d]at z;cases z⟩
theorem Q0.mono{h h':ve}{k:vm}{l:uu}{its:wK W1}(q:Q0 h k l its)(e:∀o,h.get? l=Fk o->h'.get? l=Fk o):Q0 h' k l its:=by
 cases k with
 |true=>obtain⟨o,ho,r⟩:=q;exact⟨o,e o ho,r⟩
 |false=>obtain⟨o,ho,r⟩:=q;exact⟨o,e o ho,r⟩
theorem ZT{prog:vR}{w:vi}{A:vj}(hh:A.handled=uk)(it t:uu)(hne:t≠it)(items:wK W1):Draws prog w A it [it,t] items.size (λi v=>items[i]?=Fk v) (λi h=>SIt h it t i items) where
 live:=λ_ _ st=>let⟨o,ho,_⟩:=st.live;⟨o,ho⟩
 frame:=λ_ _ _ st hk=>st.at (λo e=>hk it (by simp) o e) λo e=>hk t (by simp) o e
 item:=λi s Q E hi st hQ=>Oz st (x:=items[i]) (by simp[hi]) λh' a b=>hQ _ h' s.toks (by simp[hi]) a b
 done:=λs Q E st hE=>Ov hh st (by simp) hE
noncomputable def ItE(K:Wp)(kk:vm)(a:uu):It:=
 ⟨λi H=>∃xs x,SqB K H kk a xs/\xs[i]?=Fk x,λi H x H'=>∃p y,H p=uk/\x=.ref p/\(∀xs,SqB K H kk a xs->xs[i]?=Fk y)/\H'=upd H p (.tup [.int i,y]),λi H=>∃xs,SqB K H kk a xs/\xs.length<=i⟩
theorem Ww{P:vR}{w:vi}{K:Wp}{elts:Gc vU}{k:Nat}{pos:Pos}(kk:vm)(a e it:uu)(hei:e≠it):Turn P w K (.Tuple elts k pos) (ItE K kk a) [e,it] e (λi h=>(∃old,IsEnum h e it i old)/\JIt h kk it a i) where
 mem:=by simp
 obj:=λi h st b hb=>by
  obtain⟨⟨old,h1⟩,st2⟩:=st
  obtain⟨o,h2,h4⟩:=st2.live
  simp only[uw,vN,wF]at hb
  rcases hb with rfl|rfl
  .exact⟨_,h1,λv z=>nomatch z⟩
  .exact⟨o,h2,h4⟩
 keep:=λi h h' st k=>by
  obtain⟨⟨old,h1⟩,h2⟩:=st
  exact⟨⟨old,k e (by simp) _ h1⟩,h2.at λo q=>k it (by simp) o q⟩
 item:=by
  intro X hP hw hK hc i pins s σ H E I hf st hg
  subst hP hw hK
  obtain⟨xs,x,hq,hx⟩:=hg
  obtain⟨its,rv,p⟩:=I.sqB hq
  obtain⟨u,hu,ru⟩:=rv.get hx
  obtain⟨⟨old,h1⟩,h2⟩:=st
  obtain⟨oi,hi1,hi2⟩:=h2.live
  have hea:a≠e:=CQ I hq (hf e (by simp))
  have hia:a≠it:=CQ I hq (hf it (by simp))
  have hil:i<its.toArray.size:=by
   have:=(vB.mp hu).1
   simpa using this
  have hh:X.A.in1.handled=none:=I.ok.hd hc
  have D:=ZT (prog:=X.prog) (w:=X.w) hh it a hia its.toArray
  refine wpAny_pyNext_enum_itemD D h1 (h2.sit p) hil hei (by simp[hei,wu hea]) ?_
  intro y h' tk hy out st' tup size kept
  have ey:y=u:=by
   have:its[i]?=Fk y:=by simpa using hy
   rw[hu]at this
   exact(wO this).symm
  subst ey
  refine⟨_,rfl,wpAny_letOwnedTupleGo_enum out λh'' en sb=>?_⟩
  have hfe:=hf e (by simp)
  have hfi:=hf it (by simp)
  have lt:∀b o,s.heap.get? b=Fk o->b≠s.heap.objs.size:=λb o q=>vZ (vI q)
  have kept2:∀b o,b≠e->b≠it->s.heap.get? b=Fk o->h''.get? b=Fk o:=λb o b1 b2 q=>(sb.2 b b1).trans (kept b o b1 b2 q)
  have fr:H s.heap.objs.size=none:=I.hok.fresh (u4 _)
  have tup2:h''.get? s.heap.objs.size=Fk {cls:=.type "tuple",data:=.seq #[.int i tk,y]}:=(sb.2 _ (wu (lt e _ h1))).trans tup
  have ne1:∀b u,H b=Fk u->b≠e:=λb u q z=>by rw[z,hfe.1]at q;cases q
  have ne2:∀b u,H b=Fk u->b≠it:=λb u q z=>by rw[z,hfi.1]at q;cases q
  refine⟨.ref s.heap.objs.size,upd H s.heap.objs.size (.tup [.int i,x]),?_,rfl,⟨_,x,fr,rfl,λys hys=>by rw[I.VX hys hq];exact hx,rfl⟩,⟨⟨y,en⟩,?_⟩,?_⟩
  .show Inv X pins σ _ {s with heap:=h'',gens:=s.gens,drawn:=s.drawn,toks:=tk+1}
   refine I.step (g':=s.gens) (d':=s.drawn) (ch:=[e,it]) ?_ ?_ ?_ ?_ ?_ ?_ ?_ ?_ ?_ ?_ I.bare
   .intro b hb
    simp only[uw,vN,wF]at hb
    rcases hb with rfl|rfl
    .exact⟨hfe.2.2.2.1,hfe.2.1,hfe.2.2.2.2.1,hfe.2.2.2.2.2⟩
    .exact⟨hfi.2.2.2.1,hfi.2.1,hfi.2.2.2.2.1,hfi.2.2.2.2.2⟩
   .exact λb o _ _ hc q _=>kept2 b o (λz=>hc (by simp[z])) (λz=>hc (by simp[z])) q
   .exact λb o _ _ hc q _=>⟨o.slots,kept2 b o (λz=>hc (by simp[z])) (λz=>hc (by simp[z])) q⟩
   .exact λb o _ q n=>by rw[Au (lt b o q)];exact n
   .exact λb o hc q=>⟨o,kept2 b o (λz=>hc (by simp[z])) (λz=>hc (by simp[z])) q⟩
   .exact λb ys q=>by rw[Au (CF q fr)];exact q
   .exact λb o u q=>by rw[Au (CF q fr)];exact q
   .exact λb ps q=>⟨#[],by rw[Au (CF q fr),q];simp⟩
   .rintro m ⟨o,es,ep,ho,r⟩
    exact⟨o,es,ep,kept2 _ o (wu hfe.2.1) (wu hfi.2.1) ho,r⟩
   .intro b v q
    by_cases hb:b=s.heap.objs.size
    .subst hb
     rw[Br]at q
     cases q
     exact⟨by show 2<=sizeLine;decide,[.int i tk,y],.cons ⟨tk,rfl⟩ (.cons ru .nil),⟨_,tup2,rfl,0,rfl⟩⟩
    .rw[Au hb]at q
     refine(I.hok b v q).Zq (λc z hc r=>kept2 c z ?_ ?_ r) (λc r=>by rw[Au (CF r fr)];exact r) (λc ys r=>by rw[Au (CF r fr)];exact r)
     .rcases hc with z|z
      .rw[z];exact ne1 b v q
      .exact ne1 c _ z
     .rcases hc with z|z
      .rw[z];exact ne2 b v q
      .exact ne2 c _ z
  .have pa:Q0 h'' kk a its.toArray:=p.mono λo q=>kept2 a o hea hia q
   exact(st'.at (λo q=>(sb.2 it (wu hei)).trans q) λo q=>(sb.2 a hea).trans q).jit pa
  .intro b hb
   simp only[uw,vN,wF]at hb
   rcases hb with rfl|rfl
   .rw[Au (lt b _ h1)];exact hfe.1
   .rw[Au (lt b _ hi1)];exact hfi.1
 done:=by
  intro X hP hw hK hc i pins s σ H E I hf st hg
  subst hP hw hK
  obtain⟨xs,hq,hx⟩:=hg
  obtain⟨its,rv,p⟩:=I.sqB hq
  obtain⟨⟨old,h1⟩,h2⟩:=st
  have hl:=rv.length
  have hh:X.A.in1.handled=none:=I.ok.hd hc
  obtain⟨f0,f1,f2,f3,f4,f5⟩:=hf it (by simp)
  have D:Draws X.prog X.w X.A.in1 it [it,a] i (λ_ _=>AB8) (λj h=>j=i/\SIt h it a i its.toArray):=
   {live:=λ_ _ st=>let⟨o,ho,_⟩:=st.2.live;⟨o,ho⟩
    frame:=λ_ _ _ st hk=>⟨st.1,st.2.at (λo e=>hk it (by simp) o e) λo e=>hk a (by simp) o e⟩
    item:=λj s Q E hj st _=>absurd st.1 (vZ hj)
    done:=λs Q E st hE=>Ov hh st.2 (by simp;lia) hE}
  exact wpAny_pyNext_enum_endD D h1 ⟨rfl,h2.sit p⟩ λh' eb=>⟨rfl,I.turned (t':=s.toks) (λb o hb q=>eb b o hb q) f0 f1 f3 f4 f5⟩
 self:=λ_ _ _ _ _ st h=>by
  obtain⟨⟨old,h1⟩,_⟩:=st
  exact wpAny_pyIter_enum h1 h
section
variable{X:Cx}
noncomputable def jE(K:Wp)(ta:TA):TI:=λσ H R=>ta σ H λvs H1=>∃kk a,vs=[.ref a]/\(∃xs,SqB K H1 kk a xs)/\R (ItE K kk a) H1
theorem ae{a:vU}{ta:TA}{p pos tp:Pos}{elts:Gc vU}{k:Nat}(hg:Gl X "enumerate")(hm:X.mg "enumerate"=uk)(ha:PA X [a] ta)(hs:vP [a] X.env=[(false,eval a X.env)]:=by rfl):PI X (.Tuple elts k tp) (.Call (.Name "enumerate" p) [a] [] pos) (jE X.K ta):=by
 intro pins s σ H R I h
 refine Call_ (MB I hg hm boot_enumerate (callWith_type1 (thn (ha pos pins s σ H _ I h) λus s1 ⟨vs,H1,I1,r1,q1⟩=>?_) hs rfl))
 obtain⟨kk,b,e,⟨xs,hq⟩,q⟩:=q1
 subst e
 obtain⟨u,rfl,ru⟩:=r1.one
 cases (show u=wN b from ru)
 obtain⟨its,rv,pt⟩:=I1.sqB hq
 have fin:∀h':ve,IsEnum h' (s1.heap.objs.size+1) s1.heap.objs.size 0 .none->JIt h' kk s1.heap.objs.size b 0->(∀b o,s1.heap.get? b=Fk o->h'.get? b=Fk o)->wpAny (model X.prog X.w) X.A (pyIter (.ref (s1.heap.objs.size+1))) (PIE X pins σ (.Tuple elts k tp) R) X.xe {s1 with heap:=h'}:=λh' en it kp=>by
  refine wpAny_pyIter_enum (s:={s1 with heap:=h'}) en ?_
  refine⟨s1.heap.objs.size+1,[s1.heap.objs.size+1,s1.heap.objs.size],_,_,H1,rfl,I1.kept (t':=s1.toks) kp,Ww kk b (s1.heap.objs.size+1) s1.heap.objs.size (Nat.succ_ne_self _),⟨⟨_,en⟩,it⟩,λc hc=>?_,q⟩
  simp only[uw,vN,wF]at hc
  rcases hc with rfl|rfl
  .exact I1.gc (by lia) (I1.hok.fresh (by lia))
  .exact I1.gc (u4 _) (I1.hok.fresh (u4 _))
 cases kk with
 |true=>exact XA (show s1.heap.IsTuple b its.toArray from pt) λh' en it kp=>fin h' en it kp
 |false=>exact call_enumerate_list (show s1.heap.IsList b its.toArray from pt) λh' en it _ kp=>fin h' en it kp
end
end L2
end
noncomputable section
namespace St
open PySem PySem.Spec L2 PyProof.Rows
inductive Kd where
 |non|bl|int|str|tup|lst|dct
 deriving DecidableEq
noncomputable def Kd.ty:Kd->xl
 | .non=>"NoneType" | .bl=>"bool" | .int=>"int" | .str=>"str" | .tup=>"tuple" | .lst=>"list" | .dct=>"dict"
noncomputable def Kd.isA:Kd->xl->vm
 | .bl,"bool"=>true| .bl,"int"=>true| .int,"int"=>true| .str,"str"=>true| .tup,"tuple"=>true| .lst,"list"=>true| .dct,"dict"=>true
 |_,_=>false
section
variable{K:Wp}
theorem dN(k:Kd):xn K (.type k.ty) (.type "int")=Fk (k.isA "int"):=by
 cases k<;>first|rfl|(unfold xn;rfl)
theorem bf(k:Kd):xn K (.type k.ty) (.type "bool")=Fk (k.isA "bool"):=by
 cases k<;>rfl
theorem kit_tuple(k:Kd):xn K (.type k.ty) (.type "tuple")=Fk (k.isA "tuple"):=by
 cases k<;>rfl
theorem eO(k:Kd):xn K (.type k.ty) (.type "str")=Fk (k.isA "str"):=by
 cases k<;>rfl
end
structure Dfn(P:vR)(w:vi)(K:Wp)(mg:Str->uo W1)(base:ve)(x:Str)(k:Nat)(ps:Gc Str)(sp:Sp):Prop where
 ex:∃f fd,mg x=Fk (.ref f)/\xY K (.ref f)=true/\Binds K fd ps []/\WH P w K mg base CX0 k f fd ps sp
structure Src(K:Wp)(mg:Str->uo W1)(x:Str)(st:vh):Prop where
 ex:∃f fd,Fun K x x st f fd/\mg x=Fk (.ref f)
theorem qP{X:Cx}{k:Nat}{x:Str}{ps:Gc Str}{sp:Sp}{e:vU}{es:Gc vU}{t:TA}{p pos:Pos}(d:Dfn X.prog X.w X.K X.mg X.base x k ps sp)(hr:JS k X.A)(hg:Gl X x)(ha:PA X (e::es) t)(hdb:(x==("__debug__":Str))=false:=by decide)(he:vP (e::es) X.env=(false,eval e X.env)::vP es X.env:=by rfl)(hpl:(backTo pos (vP es X.env)).any (·.1)=false:=by rfl):PE X (.Call (.Name x p) (e::es) [] pos) (fE sp [] E0 t):=by
 obtain⟨f,fd,a,b,c,F⟩:=d.ex
 exact dJ F hr hg a b c .nil pf ha hdb he hpl
section
variable{X:Cx}
theorem fK{n:Nat}(h:n<2^8000):n.log2<9000:=by
 by_cases h0:n=0
 .subst h0;decide
 .exact yt ((Nat.log2_lt h0).mpr h) (by decide)
theorem Z8:OpR X (binaryOp .FloorDiv) (rI (λ_ j=>0<j/\j.natAbs<2^8000) λi j=>.int (i / j)):=opI λi j _ _ _ _ _ hc q=>by
 have h1:(0:Int)<j:=hc.1
 exact floordiv_int (by lia) (by rw[Int.fdiv_eq_ediv_of_nonneg i (by lia)];exact q) (.inl (PyProof.noPylong_of_log2 (fK hc.2)))
theorem RO{prog:vR}{w:vi}{A:vj}(hh:A.handled=uk){a it:uu}(hne:a≠it){vs:Gc W1}:Walks prog w A it [it,a] [it] vs.length (λi v=>vs[i]?=Fk v) (λi h=>h.IsListIter it a i/\h.IsList a vs.toArray) where
 sub:=λb hb=>by simp at hb;simp[hb]
 frame:=λi h h' st k=>⟨st.1.at λo e=>k it (by simp) o e,by
  obtain⟨o,ho,r⟩:=st.2
  exact⟨o,k a (by simp) o ho,r⟩⟩
 item:=λi s Q E hi st hQ=>by
  refine zK st.1 st.2 (x:=vs[i]) (by simp[hi]) λh' st' sb=>?_
  refine hQ _ h' s.toks (by simp[hi]) ⟨st',?_⟩ λb o hb e=>(sb.2 b (by simpa using hb)).trans e
  obtain⟨o,ho,r⟩:=st.2
  exact⟨o,(sb.2 a hne).trans ho,r⟩
 done:=λs Q E st hQ=>zX hh st.1 st.2 (by simp) λh' eb=>hQ h' s.toks λb o hb e=>eb b o (by simpa using hb) e
 self:=λi s Q E st hQ=>ABP st.1 hQ
theorem X6(hc:X.calm=true):HR X (.builtin "all") (λxs H Q=>∃(p:uu) (bs:Gc vm),xs=[.ref p]/\SqL X.K H p (bs.map V.bl)/\Q (.bl (bs.all id)) H):=by
 intro pins s σ H xs us Q I r h
 obtain⟨p,bs,rfl,hp,q⟩:=h
 obtain⟨u,rfl,ru⟩:=r.one
 cases (show u=wN p from ru)
 obtain⟨its,rv,pl,hz⟩:=I.list hp
 have hd:X.A.in1.handled=none:=I.ok.hd hc
 refine call_all_walk (xJ pl.isList ?_)
 have hlen:bs.length=its.length:=by have:=rv.length;simpa using this
 have hpl:=pl.isList
 have hne:p≠s.heap.objs.size:=by
  obtain⟨o,ho,_⟩:=hpl
  exact vZ (vI ho)
 refine⟨s.heap.objs.size,_,_,its.length,_,_,λi=>bs.getD i true,rfl,RO (vs:=its) hd hne,⟨⟨_,vM _ rfl,rfl,rfl⟩,?_⟩,?_,?_⟩
 .obtain⟨o,ho,r⟩:=hpl
  exact⟨o,tz _ ho,r⟩
 .intro i v s' Q' E' hv hq
  have hi:i<its.length:=(vB.mp hv).1
  have hb:(bs.map V.bl)[i]?=Fk (.bl (bs.getD i true)):=by
   rw[vG,ux (by lia)]
   simp[vO,ux (show i<bs.length by lia)]
  obtain⟨u,hu,ru⟩:=rv.get hb
  rw[hv]at hu
  cases hu
  cases (show v=AA4 _ from ru)
  exact yA hq
 .intro h' tk hk
  have e:(vS its.length).all (λi=>bs.getD i true)=bs.all id:=by
   rw[<-hlen]
   clear q hp rv hlen
   have:∀(l:Gc vm),(vS l.length).all (λi=>l.getD i true)=l.all id:=by
    intro l
    induction l with
    |nil=>rfl
    |cons b l ih=>
     rw[wC,List.range_succ_eq_map,yd,yu,yd,<-ih]
     rfl
   exact this bs
  rw[e]
  exact⟨.bl _,H,I.kept (t':=tk) λb o eb=>hk b o (by simp;exact vZ (vI eb)) (tz _ eb),rfl,q⟩
theorem Z1{ns:Gc Int}{j:Nat}(h:j<ns.length):(ns.take (j+1)).sum=(ns.take j).sum+ns.getD j 0:=by
 have e:ns.getD j 0=ns[j]:=by simp[vO,ux h]
 rw[AAZ,ux h,List.sum_append,e]
 show _+(ns[j]+0)=_
 lia
theorem PC{ns:Gc Int}:∀{j:Nat},j<=ns.length->preSum (λi=>ns.getD i 0) j=(ns.take j).sum
 |0,_=>by simp[preSum]
 |j+1,h=>by
  rw[preSum,PC (by lia),Z1 (by lia)]
theorem Vt{ns:Gc Int}(h:∀n∈ns,0<=n/\n<=1000000):0<=ns.sum/\ns.sum<=1000000*ns.length:=by
 induction ns with
 |nil=>simp
 |cons a l ih=>
  have h1:=h a (by simp)
  have h2:=ih λn hn=>h n (by simp[hn])
  rw[xT,wC]
  have:((l.length+1:Nat):Int)=(l.length:Int)+1:=by lia
  lia
end
section
variable{prog:vR}{w:vi}{A:vj}{E:W1->ur->Prop}{s:ur}
theorem Nq{t sl:uu}{items:wK W1}{vl vu:W1}{lo hi:uo Int}{Q:W1->ur->Prop}(ht:IsTup s.heap t items)(hs:s.heap.IsSliceOf sl vl vu .none)(pl:AA7 vl lo)(pu:AA7 vu hi)(hw:HT.sIx items.size 0 lo=0/\HT.sIx items.size items.size hi=items.size)(h:Q (.ref t) s):wpAny (model prog w) A (getItem (.ref t) (.ref sl)) Q E s:=by
 obtain⟨os,hos,hcs,hds⟩:=id hs
 have hTs:s.TypeIs (.ref sl) "slice":=⟨os,hos,hcs⟩
 unfold getItem
 try with_reducible refine xG ?_
 first|refine um (vD ?_)|skip
 refine um (AAi ht.typeIs (by decide) ?_)
 refine um (wd (name:=xC "__getitem__") ht.typeIs vg
  (xF vg ht.typeIs AAC ?_ (AAU _ _)))
 show wpAny _ _ (yl (.ref t) >>= _) _ _ s
 refine um (AB2 ht ?_)
 refine um (AAG hTs ?_)
 rw[va (by decide)]
 refine um (HT.Kf hs pl pu ?_)
 show wpAny _ _ (if(((HT.sIx items.size 0 lo:Nat):Int)==0 && (1:Int)==1 && (HT.sIx items.size items.size hi-HT.sIx items.size 0 lo)==items.size)=true then _ else _) _ _ s
 rw[va (by rw[hw.1,hw.2];simp)]
 unfold Builtin.Tuple.tupleIsExact
 refine um (um (AAG ht.typeIs (vD ?_)))
 rw[va (by decide)]
 exact um (AA5 (vD ⟨_,rfl,vD h⟩))
theorem Oi{sl:uu}{u:Tok}{n:Nat}{Q:Int×Int×Nat->ur->Prop}(hs:s.heap.IsSliceOf sl .none .none (.int (-1) u))(h:Q ((n:Int)-1,-1,n) s):wpAny (model prog w) A (xo (.ref sl) (pure (n:Int))) Q E s:=by
 obtain⟨os,hos,hcs,hds⟩:=id hs
 unfold xo AAe
 refine um (um (wx hos hds (x:=.none) rfl (um (wx hos hds (x:=.none) rfl (um (wx hos hds (x:=.int (-1) u) rfl (vD ?_)))))))
 refine um (slicePart_int ?_)
 show wpAny _ _ (if((-1:Int)==0)=true then _ else _) _ _ s
 rw[vf (by decide)]
 refine um (AAT (um (AAT (um (vD ?_)))))
 show wpAny _ _ (match wm uk uk (-1) (n:Int)with|(lo,hi)=>pure (lo,(-1:Int),wG lo hi (-1))) _ _ s
 have e:wm uk uk (-1) (n:Int)=((n:Int)-1,-1):=by
  unfold wm
  have h1:((-1:Int)<0):=by decide
  simp only[h1,zO]
 rw[e]
 have e2:wG ((n:Int)-1) (-1) (-1)=n:=by
  unfold wG
  have h1:¬((-1:Int)>0):=by decide
  simp only[h1,AAS]
  by_cases h0:n=0
  .subst h0;rfl
  .rw[va (by lia)]
   have:(-(-1):Int)=1:=rfl
   rw[this,Int.ediv_one]
   lia
 show wpAny _ _ (pure ((n:Int)-1,(-1:Int),wG ((n:Int)-1) (-1) (-1))) _ _ s
 rw[e2]
 exact vD h
noncomputable def SU(n:Nat)(k:Nat):Nat:=((n:Int)-1+(k:Int)*(-1)).toNat
theorem Nm{t sl:uu}{items:wK W1}{u:Tok}{Q:W1->ur->Prop}(ht:IsTup s.heap t items)(hs:s.heap.IsSliceOf sl .none .none (.int (-1) u))(hz:items.size<=sizeLine)(h:Q (.ref s.heap.objs.size) {s with heap:=s.heap.push {cls:=.type "tuple",data:=.seq ((vS items.size).filterMap λk=>items[SU items.size k]?).toArray}}):wpAny (model prog w) A (getItem (.ref t) (.ref sl)) Q E s:=by
 obtain⟨os,hos,hcs,hds⟩:=id hs
 have hTs:s.TypeIs (.ref sl) "slice":=⟨os,hos,hcs⟩
 have htake:sizeOk (.seq ((vS items.size).filterMap λk=>items[SU items.size k]?).toArray):=by
  show((vS items.size).filterMap λk=>items[SU items.size k]?).toArray.size<=sizeLine
  rw[vF]
  refine uz (yG _ _) ?_
  rw[yh]
  exact hz
 unfold getItem
 try with_reducible refine xG ?_
 first|refine um (vD ?_)|skip
 refine um (AAi ht.typeIs (by decide) ?_)
 refine um (wd (name:=xC "__getitem__") ht.typeIs vg
  (xF vg ht.typeIs AAC ?_ (AAU _ _)))
 show wpAny _ _ (yl (.ref t) >>= _) _ _ s
 refine um (AB2 ht ?_)
 refine um (AAG hTs ?_)
 rw[va (by decide)]
 refine um (Oi hs ?_)
 show wpAny _ _ (if(((items.size:Int)-1)==0 && (-1:Int)==1 && items.size==items.size)=true then _ else _) _ _ s
 rw[vf (by rw[show((-1:Int)==1)=false from rfl,AAX,ABW];decide)]
 first
  |exact um (m:=vw _) (wJ (vD ⟨_,rfl,vD h⟩) htake)
  |exact um (m:=vw _) (wJ (um (vD (vD ⟨_,rfl,vD h⟩))) htake)
  |exact um (um (m:=vw _) (wJ (vD (vD ⟨_,rfl,vD h⟩)) htake))
  |exact um (um (m:=vw _) (wJ (vD ⟨_,rfl,vD h⟩) htake))
end
section
variable{X:Cx}
def sW(K:Wp):V->uo Int->uo Int->Hp->VK->Prop:=λx lo hi H Q=>∃a xs,x=.ref a/\SqT K H a xs/\HT.sIx xs.length 0 lo=0/\HT.sIx xs.length xs.length hi=xs.length/\Q x H
theorem km:SlR X (sW X.K):=by
 intro pins s σ H x v vl vu lo hi sl Q I rx hs pl pu h
 obtain⟨a,xs,rfl,hx,h1,h2,q⟩:=h
 cases rx
 obtain⟨its,r,ht,hz⟩:=I.tuple hx
 have hlen:its.toArray.size=xs.length:=by rw[vF];exact r.length.symm
 refine⟨"tuple",_,vg.lookup,ht.typeIs,?_⟩
 exact Nq ht hs pl pu (by rw[hlen];exact⟨h1,h2⟩) ⟨.ref a,H,I,rfl,q⟩
noncomputable def oS(K:Wp):R2:=λx y H Q=>∃a b ys,x=.ref a/\y=.ref b/\SqT K H a []/\SqT K H b ys/\Q (.ref b) H
theorem fQ:OpR X (binaryOp .Add) (oS X.K):=by
 intro pins s σ H x y v u Q I rx ry h
 obtain⟨a,b,ys,rfl,rfl,ha,hb,q⟩:=h
 cases rx
 cases ry
 obtain⟨its,r1,p1,_⟩:=I.tuple ha
 obtain⟨its2,r2,p2,_⟩:=I.tuple hb
 have e0:its=[]:=r1.To.mpr rfl
 subst e0
 obtain⟨⟨cls,dd,data,sl⟩,ho,hc,n,hd⟩:=id p1
 obtain⟨⟨cls2,dd2,data2,sl2⟩,ho2,hc2,n2,hd2⟩:=id p2
 simp only at hc hd hc2 hd2
 subst hc hd hc2 hd2
 exact concat_meets ⟨_,ho,rfl⟩ ⟨_,ho2,rfl⟩ AAz AB1 zN zG (y7 _ _)
  (tuple_addW0 a b #[] its2.toArray n n2 dd dd2 sl sl2 rfl) ⟨ho,ho2,⟨.ref b,H,I,rfl,q⟩⟩
theorem Vals.pick{xs:Gc V}{us:Gc W1}(r:Vals xs us)(f:Nat->Nat):∀ks:Gc Nat,Vals (ks.filterMap λk=>xs[f k]?) (ks.filterMap λk=>us[f k]?)
 | []=>.nil
 |k::ks=>by
  have ih:=Vals.pick r f ks
  rw[vc,vc]
  cases e:xs[f k]? with
  |none=>rw[r.none_of e];exact ih
  |some x=>
   obtain⟨u,hu,ru⟩:=r.get e
   rw[hu]
   exact .cons ru ih
end
end St
end
noncomputable section
namespace Mi
open PySem PySem.Spec L2
inductive D where
 |non|bl (b:vm)|int (i:Int)|str (x:Str)|ty (n:xl)|tup (ds:Gc D)|lst (ds:Gc D)|dct (kvs:Gc (Key×D))|scr (ns:Gc Int)|ref (n:Nat)
inductive Wv where
 |val (d:D)|own (ds:Gc D)
inductive Cl where
 |lst (ds:Gc D)|dct (kvs:Gc (Key×D))|tab (x:Str)
abbrev Sto:=Gc Cl
structure Ms where
 cel:Gc uu
 tmp:Gc uu
def Ms.mem(M:Ms)(a:uu):Prop:=a∈M.cel\/a∈M.tmp
noncomputable def Ms.no:Ms:=⟨[],[]⟩
def KL(K:Wp)(a:uu)(xs:Gc V):Prop:=∃(o:Obj) (its:wK W1) (n:Nat),K.lookup a=Fk o/\o.cls=.type "list" /\o.dict=uk/\o.data=.seq its n/\its.size<=sizeLine/\Vals xs its.toList
mutual
inductive FR(K:Wp)(M:Ms)(H:Hp):V->D->Prop
 |non:FR K M H .non .non
 |bl (b:vm):FR K M H (.bl b) (.bl b)
 |int (i:Int):FR K M H (.int i) (.int i)
 |str (x:Str):FR K M H (.str x) (.str x)
 |ty (n:xl):FR K M H (.ty n) (.ty n)
 |tup {a:uu} {xs:Gc V} {ds:Gc D} (h:SqT K H a xs) (r:A6 K M H xs ds):FR K M H (.ref a) (.tup ds)
 |lst {a:uu} {xs:Gc V} {ds:Gc D} (h:H a=Fk (.lst xs)) (n:¬M.mem a) (r:A6 K M H xs ds):FR K M H (.ref a) (.lst ds)
 |scr {a:uu} {ns:Gc Int} (h:(Rd H a (.lst (ns.map V.int))/\¬M.mem a)\/KL K a (ns.map V.int)):FR K M H (.ref a) (.scr ns)
 |dct {a:uu} {kvs:Gc (Key×V)} {es:Gc (Key×D)} (h:H a=Fk (.dK kvs)) (n:¬M.mem a) (r:EF K M H kvs es):FR K M H (.ref a) (.dct es)
 |ref {a:uu} {n:Nat} (h:M.cel[n]?=Fk a):FR K M H (.ref a) (.ref n)
inductive A6(K:Wp)(M:Ms)(H:Hp):Gc V->Gc D->Prop
 |nil:A6 K M H [] []
 |cons {v:V} {d:D} {vs:Gc V} {ds:Gc D} (h:FR K M H v d) (t:A6 K M H vs ds):A6 K M H (v::vs) (d::ds)
inductive EF(K:Wp)(M:Ms)(H:Hp):Gc (Key×V)->Gc (Key×D)->Prop
 |nil:EF K M H [] []
 |cons {k:Key} {v:V} {d:D} {vs:Gc (Key×V)} {ds:Gc (Key×D)} (h:FR K M H v d) (t:EF K M H vs ds):EF K M H ((k,v)::vs) ((k,d)::ds)
end
def MOk(M:Ms)(H:Hp):Prop:=∀a,M.mem a->(∃xs,H a=Fk (.lst xs))\/(∃kvs,H a=Fk (.dK kvs))\/∃ps,H a=Fk (.tbl ps)
structure Sp1(M:Ms)(H:Hp)(M':Ms)(H':Hp):Prop where
 mo:MOk M H
 pre:M.cel <+: M'.cel
 fresh:∀a,M'.mem a->M.mem a\/H a=uk
 keep:∀a o,H a=Fk o->¬M.mem a->H' a=Fk o
structure Gr(M:Ms)(H:Hp)(M':Ms)(H':Hp):Prop where
 mo:MOk M H
 pre:M.cel <+: M'.cel
 tmp:M'.tmp=M.tmp
 fresh:∀a,a∈M'.cel->a∈M.cel\/H a=uk
 keep:∀a o,H a=Fk o->a∉M.cel->H' a=Fk o
 some:∀a,H a≠uk->H' a≠uk
section
variable{K:Wp}{M M' M2:Ms}{H H' H2:Hp}
theorem MOk.some(mo:MOk M H){a:uu}(h:M.mem a):H a≠none:=λz=>by
 rcases mo a h with⟨xs,e⟩|⟨xs,e⟩|⟨xs,e⟩<;>(rw[e]at z;cases z)
theorem Gr.st(g:Gr M H M' H'):Sp1 M H M' H':=⟨g.mo,g.pre,λa z=>z.elim (λz=>(g.fresh a z).imp .inl id) λz=>.inl (.inr (by rw[<-g.tmp];exact z)),λa o e n=>g.keep a o e λz=>n (.inl z)⟩
theorem Gr.refl(mo:MOk M H):Gr M H M H:=⟨mo,wR,rfl,λ_ z=>.inl z,λ_ _ e _=>e,λ_ e=>e⟩
theorem Gr.none(g:Gr M H M' H'){a:uu}(h:H' a=uk):H a=none:=by
 cases e:H a with
 |none=>rfl
 |some o=>exact absurd h (g.some a (by rw[e];intro z;cases z))
theorem Gr.trans(h:Gr M H M' H')(g:Gr M' H' M2 H2):Gr M H M2 H2:=
 ⟨h.mo,h.pre.trans g.pre,g.tmp.trans h.tmp,λa z=>(g.fresh a z).elim (h.fresh a) λz=>.inr (h.none z),λa o e n=>g.keep a o (h.keep a o e n) (λz=>by
   rcases h.fresh a z with z|z
   .exact n z
   .rw[e]at z;cases z),λa e=>g.some a (h.some a e)⟩
theorem Gr.grow(mo:MOk M H)(k:∀a o,H a=Fk o->H' a=Fk o):Gr M H M H':=
 ⟨mo,wR,rfl,λ_ z=>.inl z,λb u eb _=>k b u eb,λb eb z=>by
   cases h:H b with
   |none=>exact eb h
   |some o=>rw[k b o h]at z;cases z⟩
theorem N2{α:Type}{xs ys:Gc α}(h:xs <+: ys){n:Nat}{a:α}(e:xs[n]?=Fk a):ys[n]?=Fk a:=by
 obtain⟨zs,rfl⟩:=h
 rw[uq (vB.mp e).1]
 exact e
theorem aR{a:uu}{xs:Gc V}(h:SqT K H a xs)(k:∀b o,H b=Fk o->(∀ys,o≠.lst ys)->(∀ys,o≠.dK ys)->(∀ys,o≠.tbl ys)->H' b=Fk o):SqT K H' a xs:=by
 rcases h with h|h
 .rcases h with h|⟨o,h⟩
  .exact .inl (.inl (k _ _ h (λys z=>by cases z) (λys z=>by cases z) λys z=>by cases z))
  .exact .inl (.inr ⟨o,k _ _ h (λys z=>by cases z) (λys z=>by cases z) λys z=>by cases z⟩)
 .exact .inr h
theorem Sp1.sqT(g:Sp1 M H M' H'){a:uu}{xs:Gc V}(h:SqT K H a xs):SqT K H' a xs:=aR h λb o e n1 n2 n3=>g.keep b o e λz=>by
 rcases g.mo b z with⟨ys,q⟩|⟨ys,q⟩|⟨ys,q⟩
 .exact n1 ys (wO (e.symm.trans q))
 .exact n2 ys (wO (e.symm.trans q))
 .exact n3 ys (wO (e.symm.trans q))
theorem Sp1.nm(g:Sp1 M H M' H'){a:uu}{o:HO}(e:H a=Fk o)(n:¬M.mem a):¬M'.mem a:=λz=>by
 rcases g.fresh _ z with z|z
 .exact n z
 .rw[z]at e;cases e
theorem FR.step(g:Sp1 M H M' H'){v:V}{d:D}(h:FR K M H v d):FR K M' H' v d:=
 FR.rec (motive_1:=λv d _=>FR K M' H' v d) (motive_2:=λv d _=>A6 K M' H' v d) (motive_3:=λv d _=>EF K M' H' v d) .non .bl .int .str .ty (λh _ r=>.tup (g.sqT h) r) (λh n _ r=>.lst (g.keep _ _ h n) (g.nm h n) r) (λh=>by
  rcases h with⟨h,n⟩|h
  .rcases h with h|⟨o,h⟩
   .exact .scr (.inl ⟨.inl (g.keep _ _ h n),g.nm h n⟩)
   .exact .scr (.inl ⟨.inr ⟨o,g.keep _ _ h n⟩,g.nm h n⟩)
  .exact .scr (.inr h)) (λh n _ r=>.dct (g.keep _ _ h n) (g.nm h n) r) (λh=>.ref (N2 g.pre h)) .nil (λ_ _ h t=>.cons h t) .nil (λ_ _ h t=>.cons h t) h
theorem A6.ind{P:Gc V->Gc D->Prop}(n:P [] [])(c:∀{v:V} {d:D} {vs:Gc V} {ds:Gc D},FR K M H v d->P vs ds->P (v::vs) (d::ds)){vs:Gc V}{ds:Gc D}(h:A6 K M H vs ds):P vs ds:=
 A6.rec (motive_1:=λ_ _ _=>AB8) (motive_2:=λv d _=>P v d) (motive_3:=λ_ _ _=>AB8) trivial (λ_=>trivial) (λ_=>trivial) (λ_=>trivial) (λ_=>trivial) (λ_ _ _=>trivial) (λ_ _ _ _=>trivial) (λ_=>trivial) (λ_ _ _ _=>trivial) (λ_=>trivial) n (λh _ _ t=>c h t) trivial (λ_ _ _ _=>trivial) h
theorem EF.ind{P:Gc (Key×V)->Gc (Key×D)->Prop}(n:P [] [])(c:∀{k:Key} {v:V} {d:D} {vs:Gc (Key×V)} {ds:Gc (Key×D)},FR K M H v d->P vs ds->P ((k,v)::vs) ((k,d)::ds)){vs:Gc (Key×V)}{ds:Gc (Key×D)}(h:EF K M H vs ds):P vs ds:=
 EF.rec (motive_1:=λ_ _ _=>AB8) (motive_2:=λ_ _ _=>AB8) (motive_3:=λv d _=>P v d) trivial (λ_=>trivial) (λ_=>trivial) (λ_=>trivial) (λ_=>trivial) (λ_ _ _=>trivial) (λ_ _ _ _=>trivial) (λ_=>trivial) (λ_ _ _ _=>trivial) (λ_=>trivial) trivial (λ_ _ _ _=>trivial) n (λh _ _ t=>c h t) h
theorem A6.step(g:Sp1 M H M' H'){v:Gc V}{d:Gc D}(h:A6 K M H v d):A6 K M' H' v d:=h.ind .nil λh t=>.cons (h.step g) t
theorem EF.step(g:Sp1 M H M' H'){v:Gc (Key×V)}{d:Gc (Key×D)}(h:EF K M H v d):EF K M' H' v d:=h.ind .nil λh t=>.cons (h.step g) t
theorem A6.length:∀{v:Gc V} {d:Gc D},A6 K M H v d->v.length=d.length
 |_,_,.nil=>rfl
 |_,_,.cons _ t=>by simp[A6.length t]
theorem A6.get:∀{v:Gc V} {d:Gc D} {i:Nat} {y:D},A6 K M H v d->d[i]?=Fk y->∃x,v[i]?=Fk x/\FR K M H x y
 |_,_,i,y,.nil,e=>by simp at e
 |_,_,0,y,.cons h t,e=>by simp at e;subst e;exact⟨_,rfl,h⟩
 |_,_,i+1,y,.cons h t,e=>by
  obtain⟨x,h1,h2⟩:=A6.get (i:=i) t (by simpa using e)
  exact⟨x,by simpa using h1,h2⟩
theorem A6.append:∀{v v':Gc V} {d d':Gc D},A6 K M H v d->A6 K M H v' d'->A6 K M H (v++v') (d++d')
 |_,_,_,_,.nil,s=>s
 |_,_,_,_,.cons h t,s=>.cons h (A6.append t s)
theorem A6.take:∀{v:Gc V} {d:Gc D} (n:Nat),A6 K M H v d->A6 K M H (v.take n) (d.take n)
 |_,_,0,_=>.nil
 |_,_,_+1,.nil=>.nil
 |_,_,n+1,.cons h t=>.cons h (A6.take n t)
theorem A6.drop:∀{v:Gc V} {d:Gc D} (n:Nat),A6 K M H v d->A6 K M H (v.drop n) (d.drop n)
 |_,_,0,r=>r
 |_,_,_+1,.nil=>.nil
 |_,_,n+1,.cons _ t=>A6.drop n t
theorem A6.set{x:V}{y:D}(r:FR K M H x y):∀{v:Gc V} {d:Gc D} (i:Nat),A6 K M H v d->A6 K M H (v.set i x) (d.set i y)
 |_,_,_,.nil=>.nil
 |_,_,0,.cons _ t=>.cons r t
 |_,_,i+1,.cons q t=>.cons q (A6.set r i t)
end
abbrev En:=Gc (uo D)
abbrev Sg:=Gc (uo V)
structure EnR(K:Wp)(M:Ms)(E:En)(σ:Sg)(H:Hp):Prop where
 len:E.length=σ.length
 val:∀(i:Nat) (d:D),E[i]?=Fk (Fk d)->∃v,σ[i]?=Fk (Fk v)/\FR K M H v d
noncomputable def Pd(x:Str):Str:=(x++(".<locals>.":Str))++("<lambda>":Str)
def Ny(K:Wp)(c P:uu):Prop:=
 ∃o vs file tf flags tg inF text tt,K.lookup c=Fk o/\o.cls=zZ "code" /\o.data=Data.fields vs/\vs[11]?=Fk (wN P)/\vs.getD 11 wW=wN P/\vs.getD 18 wW=AAw file tf/\vs.getD 7 wW=AAv flags tg/\vs.getD 9 wW=AA4 inF/\vs.getD 10 wW=AAv text tt/\c≠P
def TabAt(K:Wp)(x:Str)(P:uu):Prop:=
 ∃f oc od fd osl c,xK K mainGlobals x=Fk (Fk (wN f))/\K.lookup f=Fk ⟨oc,od,Data.func fd,osl⟩/\fd.code=wN c/\Ny K c P
def ZO(q:Str)(o:Obj):Prop:=∃vs t,o.data=Data.fields vs/\vs[1]?=Fk (AAw q t)
structure XG(K:Wp)(H:Hp)(x:Str)(P:uu)(ps:wK W1):Prop where
 tri:PySem.TriplesOk ps.toList
 tat:TabAt K x P
 cod:∀pos cv,PySem.codeAmong pos ps.toList=Fk cv->∃c o,cv=wN c/\H c=Fk (.frz o (.own 0))/\ZO (Pd x) o
theorem XG.step{x:Str}{P:uu}{ps:wK W1}{K:Wp}{M M':Ms}{H H':Hp}(t:XG K H x P ps)(g:Sp1 M H M' H'):XG K H' x P ps:=⟨t.tri,t.tat,λpos cv e=>by
 obtain⟨c,o,h1,h2,h3⟩:=t.cod pos cv e
 refine⟨c,o,h1,g.keep _ _ h2 λz=>?_,h3⟩
 rcases g.mo c z with⟨ys,q⟩|⟨ys,q⟩|⟨ys,q⟩<;>(rw[h2]at q;cases q)⟩
def fw(K:Wp)(M:Ms)(H:Hp)(a:uu):Cl->Prop
 | .lst ds=>∃xs,H a=Fk (.lst xs)/\A6 K M H xs ds
 | .dct es=>∃kvs,H a=Fk (.dK kvs)/\EF K M H kvs es
 | .tab x=>∃ps,H a=Fk (.tbl ps)/\XG K H x a ps
structure StR(K:Wp)(M:Ms)(S:Sto)(H:Hp):Prop where
 mo:MOk M H
 nd:M.cel.Nodup
 nt:∀a∈M.tmp,a∉M.cel
 len:M.cel.length=S.length
 cell:∀(n:Nat) (a:uu) (c:Cl),M.cel[n]?=Fk a->S[n]?=Fk c->fw K M H a c
section
variable{K:Wp}{M M' M2:Ms}{H H' H2:Hp}{E:En}{σ:Sg}{S:Sto}
theorem EnR.step(r:EnR K M E σ H)(g:Sp1 M H M' H'):EnR K M' E σ H':=⟨r.len,λi d e=>by
 obtain⟨v,h1,h2⟩:=r.val i d e
 exact⟨v,h1,h2.step g⟩⟩
theorem StR.at(r:StR K M S H){n:Nat}{c:Cl}(e:S[n]?=Fk c):∃a,M.cel[n]?=Fk a/\fw K M H a c:=by
 have hn:n<M.cel.length:=by rw[r.len];exact(vB.mp e).1
 exact⟨_,ux hn,r.cell n _ c (ux hn) e⟩
theorem StR.grow(r:StR K M S H)(k:∀a o,H a=Fk o->H' a=Fk o):StR K M S H':=by
 have g:Sp1 M H M H':=⟨r.mo,wR,λ_ z=>.inl z,λa o e _=>k a o e⟩
 refine⟨λa z=>(r.mo a z).imp (λ⟨xs,e⟩=>⟨xs,k _ _ e⟩) (Or.imp (λ⟨xs,e⟩=>⟨xs,k _ _ e⟩) λ⟨xs,e⟩=>⟨xs,k _ _ e⟩),r.nd,r.nt,r.len,λn a c h1 h2=>?_⟩
 have q:=r.cell n a c h1 h2
 cases c with
 |lst ds=>obtain⟨xs,e,rr⟩:=q;exact⟨xs,k _ _ e,rr.step g⟩
 |dct ds=>obtain⟨xs,e,rr⟩:=q;exact⟨xs,k _ _ e,rr.step g⟩
 |tab ds=>obtain⟨xs,e,rr⟩:=q;exact⟨xs,k _ _ e,rr.step g⟩
theorem StR.chg(r:StR K M S H){n:Nat}{a:uu}{ds es:Gc D}{ys:Gc V}(h1:M.cel[n]?=Fk a)(h2:S[n]?=Fk (.lst ds))(hy:A6 K M H ys es):StR K M (S.set n (.lst es)) (upd H a (.lst ys))/\Gr M H M (upd H a (.lst ys)):=by
 have ha:a∈M.cel:=vL h1
 have hl:n<S.length:=(vB.mp h2).1
 have g:Gr M H M (upd H a (.lst ys)):=⟨r.mo,wR,rfl,λ_ z=>.inl z,λb o eb nb=>by rw[Au (λz=>nb (by rw[z];exact ha))];exact eb,λb eb=>by
  by_cases h:b=a
  .subst h;rw[Br];intro z;cases z
  .rw[Au h];exact eb⟩
 refine⟨⟨λb z=>?_,r.nd,r.nt,by rw[xi];exact r.len,λm b c e1 e2=>?_⟩,g⟩
 .by_cases h:b=a
  .subst h;exact .inl ⟨ys,Br⟩
  .rw[Au h];exact r.mo b z
 .by_cases h:n=m
  .subst h
   rw[h1]at e1;cases e1
   rw[vJ hl]at e2;cases e2
   exact⟨ys,Br,hy.step g.st⟩
  .rw[u3 h]at e2
   have hb:b≠a:=λz=>by
    subst z
    exact h ((zQ (vB.mp h1).1 r.nd).mp (h1.trans e1.symm))
   have q:=r.cell m b c e1 e2
   cases c with
   |lst fs=>obtain⟨xs,e,rr⟩:=q;exact⟨xs,by rw[Au hb];exact e,rr.step g.st⟩
   |dct fs=>obtain⟨xs,e,rr⟩:=q;exact⟨xs,by rw[Au hb];exact e,rr.step g.st⟩
   |tab fs=>obtain⟨xs,e,rr⟩:=q;exact⟨xs,by rw[Au hb];exact e,rr.step g.st⟩
theorem StR.dE(r:StR K M S H){a:uu}{xs:Gc V}{ds:Gc D}(e:H a=uk)(k:∀b o,H b=Fk o->H' b=Fk o)(ea:H' a=Fk (.lst xs))(rr:A6 K M H xs ds):StR K ⟨M.cel++[a],M.tmp⟩ (S++[.lst ds]) H'/\Gr M H ⟨M.cel++[a],M.tmp⟩ H':=by
 have g:Gr M H ⟨M.cel++[a],M.tmp⟩ H':=⟨r.mo,yW _ _,rfl,λb z=>by
  rcases vY.mp z with z|z
  .exact .inl z
  .simp at z;subst z;exact .inr e,λb o eb _=>k b o eb,λb eb z=>by
  cases h:H b with
  |none=>exact eb h
  |some o=>rw[k b o h]at z;cases z⟩
 have na:¬M.mem a:=λz=>r.mo.some z e
 refine⟨⟨λb z=>?_,?_,λb hb z=>?_,by simp[r.len],λm b c e1 e2=>?_⟩,g⟩
 .have z':M.mem b\/b=a:=by
   rcases z with z|z
   .rcases vY.mp z with z|z
    .exact .inl (.inl z)
    .simp at z;exact .inr z
   .exact .inl (.inr z)
  rcases z' with z|z
  .exact(r.mo b z).imp (λ⟨xs,e⟩=>⟨xs,k _ _ e⟩) (Or.imp (λ⟨xs,e⟩=>⟨xs,k _ _ e⟩) λ⟨xs,e⟩=>⟨xs,k _ _ e⟩)
  .subst z;exact .inl ⟨xs,ea⟩
 .rw[yi]
  refine⟨r.nd,by simp,λx hx y hy=>?_⟩
  simp at hy;subst hy
  exact λz=>na (.inl (by rw[<-z];exact hx))
 .rcases vY.mp z with z|z
  .exact r.nt b hb z
  .simp at z;subst z;exact na (.inr hb)
 .by_cases h:m<S.length
  .rw[uq (by rw[r.len];exact h)]at e1
   rw[uq h]at e2
   have q:=r.cell m b c e1 e2
   cases c with
   |lst fs=>obtain⟨xs,e,rr⟩:=q;exact⟨xs,k _ _ e,rr.step g.st⟩
   |dct fs=>obtain⟨xs,e,rr⟩:=q;exact⟨xs,k _ _ e,rr.step g.st⟩
   |tab fs=>obtain⟨xs,e,rr⟩:=q;exact⟨xs,k _ _ e,rr.step g.st⟩
  .have hm:m=S.length:=by
    have:=(vB.mp e2).1
    simp at this;lia
   subst hm
   rw[vo (by rw[r.len];exact u4 _)]at e1
   rw[vo (u4 _)]at e2
   rw[r.len]at e1
   simp at e1 e2
   subst e1 e2
   exact⟨xs,ea,rr.step g.st⟩
end
noncomputable def tP:uo yK->vm
 |some .local=>true
 |some .cell=>true
 |some .free=>true
 |_=>false
noncomputable def oI(sc:wX)(x:Str):vm:=tP (sc.names.lookup x)
theorem jP{sc:wX}{x:Str}(h:oI sc x=true):Vis sc x:=by
 unfold oI at h
 unfold Vis
 cases e:sc.names.lookup x with
 |none=>rw[e]at h;cases h
 |some k=>
  rw[e]at h
  cases k<;>first|(cases h;done)|simp
abbrev Ev:=En->Sto->uo (D×Sto)
noncomputable def tD(K:Wp)(f:Ev):TE:=λσ H Q=>∃M E S d S',f E S=Fk (d,S')/\EnR K M E σ H/\StR K M S H/\∀v H' M',Gr M H M' H'->StR K M' S' H'->FR K M' H' v d->Q v H'
structure DE(X:Cx)(e:vU)(f:Ev):Prop where
 pe:PE X e (tD X.K f)
theorem CP{X:Cx}{e:vU}{t t':TE}(h:PE X e t)(m:∀σ H Q,t' σ H Q->t σ H Q):PE X e t':=λpins s σ H Q I q=>h pins s σ H Q I (m _ _ _ q)
theorem Xz{X:Cx}{e:vU}{t t':TT}(h:PT X e t)(m:∀σ H Q,t' σ H Q->t σ H Q):PT X e t':=λpins s σ H Q I q=>h pins s σ H Q I (m _ _ _ q)
theorem Il{K:Wp}{f:Ev}{σ:Sg}{H:Hp}{Q Q':VK}(h:tD K f σ H Q)(m:∀v H',Q v H'->Q' v H'):tD K f σ H Q':=by
 obtain⟨M,E,S,d,S',e,r,st,q⟩:=h
 exact⟨M,E,S,d,S',e,r,st,λv H' M' g s r=>m _ _ (q v H' M' g s r)⟩
theorem BK{α β:Type}{o:uo α}{k:α->uo β}{y:β}(e:o.bind k=Fk y):∃x,o=Fk x/\k x=Fk y:=by
 cases o with
 |none=>cases e
 |some x=>exact⟨x,rfl,e⟩
theorem NR{α β:Type}{o:uo α}{k:α->β}{y:β}(e:o.map k=Fk y):∃x,o=Fk x/\k x=y:=by
 cases o with
 |none=>cases e
 |some x=>cases e;exact⟨x,rfl,rfl⟩
noncomputable def fz:Wv->D
 | .val d=>d
 | .own ds=>.lst ds
noncomputable def at?(E:En)(i:Nat):uo D:=(E[i]?).join
theorem at?_some{E:En}{i:Nat}{w:D}(h:at? E i=Fk w):E[i]?=Fk (Fk w):=by
 unfold at? at h
 cases e:E[i]? with
 |none=>rw[e]at h;cases h
 |some q=>rw[e]at h;exact congrArg Fk h
noncomputable def evs:Gc Ev->En->Sto->uo (Gc D×Sto)
 | [],_,S=>Fk ([],S)
 |f::fs,E,S=>(f E S).bind λr=>(evs fs E r.2).map λq=>(r.1::q.1,q.2)
noncomputable def tDs(K:Wp):Gc Ev->TA
 | []=>rQ
 |f::fs=>ij (tD K f) (tDs K fs)
structure DEs(X:Cx)(es:Gc vU)(fs:Gc Ev):Prop where
 pe:PA X es (tDs X.K fs)
theorem AD{X:Cx}:DEs X [] []:=⟨X8⟩
theorem AA{X:Cx}{e:vU}{es:Gc vU}{f:Ev}{fs:Gc Ev}(h:DE X e f)(t:DEs X es fs)(hs:vP (e::es) X.env=(false,eval e X.env)::vP es X.env:=by rfl):DEs X (e::es) (f::fs):=⟨SQ h.pe t.pe hs⟩
section
variable{K:Wp}{M M':Ms}{E:En}{S:Sto}{σ:Sg}{H H':Hp}
theorem JG:∀{fs:Gc Ev} {M:Ms} {S:Sto} {ds:Gc D} {S':Sto} {H:Hp} {Q:Gc V->Hp->Prop},evs fs E S=Fk (ds,S')->EnR K M E σ H->StR K M S H->(∀vs H' M',Gr M H M' H'->StR K M' S' H'->A6 K M' H' vs ds->Q vs H')->tDs K fs σ H Q
 | [],M,S,ds,S',H,Q,e,r,st,q=>by
   cases e
   exact q [] H M (.refl st.mo) st .nil
 |f::fs,M,S,ds,S',H,Q,e,r,st,q=>by
  obtain⟨⟨d,S1⟩,e1,e⟩:=BK e
  obtain⟨⟨es,S2⟩,e2,e⟩:=NR e
  cases e
  refine⟨M,E,S,d,S1,e1,r,st,λv H1 M1 g1 st1 d1=>?_⟩
  exact JG e2 (r.step g1.st) st1 λvs H2 M2 g2 st2 d2=>q _ _ M2 (g1.trans g2) st2 (.cons (d1.step g2.st) d2)
theorem PL:∀{fs:Gc Ev} {S:Sto} {ds:Gc D} {S':Sto},evs fs E S=Fk (ds,S')->ds.length=fs.length
 | [],_,_,_,e=>by cases e;rfl
 |f::fs,S,ds,S',e=>by
  obtain⟨⟨d,S1⟩,e1,e⟩:=BK e
  obtain⟨⟨es,S2⟩,e2,e⟩:=NR e
  cases e
  simp[PL e2]
def Sh(K:Wp)(M:Ms)(H:Hp)(v:V):Wv->Prop
 | .val d=>FR K M H v d
 | .own ds=>∃a xs,v=.ref a/\H a=Fk (.lst xs)/\A6 K M H xs ds
inductive Shs(K:Wp)(M:Ms)(H:Hp):Gc V->Gc Wv->Prop
 |nil:Shs K M H [] []
 |cons {v:V} {w:Wv} {vs:Gc V} {ws:Gc Wv} (h:Sh K M H v w) (t:Shs K M H vs ws):Shs K M H (v::vs) (w::ws)
noncomputable def dr(S:Sto):D->Wv
 | .ref n=>match S[n]? with
   |some (.lst ds)=>.own ds
   |_=>.val (.ref n)
 |d=>.val d
theorem eG(st:StR K M S H){v:V}{d:D}(h:FR K M H v d):Sh K M H v (dr S d):=by
 cases h with
 |ref h=>
  rename_i a n
  show Sh K M H (.ref a) (match S[n]? with|some (.lst ds)=>.own ds|_=>.val (.ref n))
  split
  .rename_i ds e
   obtain⟨xs,h1,h2⟩:=st.cell n a _ h e
   exact⟨a,xs,rfl,h1,h2⟩
  .exact .ref h
 |non=>exact .non
 |bl b=>exact .bl b
 |int b=>exact .int b
 |str b=>exact .str b
 |ty b=>exact .ty b
 |tup h r=>exact .tup h r
 |lst h n r=>exact .lst h n r
 |scr h=>exact .scr h
 |dct h n r=>exact .dct h n r
theorem cH(st:StR K M S H):∀{vs:Gc V} {ds:Gc D},A6 K M H vs ds->Shs K M H vs (ds.map (dr S))
 |_,_,.nil=>.nil
 |_,_,.cons h t=>.cons (eG st h) (cH st t)
def NwR(K:Wp)(M:Ms)(H H':Hp)(v:V):Wv->Prop
 | .val d=>FR K M H' v d
 | .own ds=>∃a xs,v=.ref a/\H a=uk/\H' a=Fk (.lst xs)/\A6 K M H xs ds
structure Nw(K:Wp)(M:Ms)(H H':Hp)(v:V)(w:Wv):Prop where
 grow:∀a o,H a=Fk o->H' a=Fk o
 rel:NwR K M H H' v w
theorem Nw.same{v:V}{d:D}(mo:MOk M H)(h:FR K M H v d):Nw K M H H v (.val d):=⟨λ_ _ e=>e,h⟩
theorem KJ{a:uu}{o:HO}(e:H a=uk):∀b u,H b=Fk u->upd H a o b=Fk u:=λb u eb=>by rw[Au (λz=>by subst z;rw[e]at eb;cases eb)];exact eb
theorem Nw.lst{a:uu}{xs:Gc V}{ds:Gc D}(mo:MOk M H)(e:H a=uk)(h:A6 K M H xs ds):Nw K M H (upd H a (.lst xs)) (.ref a) (.own ds):=⟨KJ e,a,xs,rfl,e,Br,h⟩
theorem Nw.tup{a:uu}{xs:Gc V}{ds:Gc D}(mo:MOk M H)(e:H a=uk)(h:A6 K M H xs ds):Nw K M H (upd H a (.tup xs)) (.ref a) (.val (.tup ds)):=⟨KJ e,.tup (.of Br) (h.step (Gr.grow mo (KJ e)).st)⟩
noncomputable def fin:vm->Wv->Sto->uo (D×Sto)
 |_,.val d,S=>Fk (d,S)
 |false,.own ds,S=>Fk (.lst ds,S)
 |true,.own ds,S=>Fk (.ref S.length,S++[.lst ds])
theorem Nw.fin{c:vm}{v:V}{w:Wv}{d:D}{S':Sto}(n:Nw K M H H' v w)(st:StR K M S H)(e:fin c w S=Fk (d,S')):∃M',Gr M H M' H'/\StR K M' S' H'/\FR K M' H' v d:=by
 cases w with
 |val d'=>
  cases e
  exact⟨M,.grow st.mo n.grow,st.grow n.grow,n.rel⟩
 |own ds=>
  obtain⟨a,xs,rfl,h1,h2,h3⟩:=n.rel
  cases c with
  |false=>
   cases e
   exact⟨M,.grow st.mo n.grow,st.grow n.grow,.lst h2 (λz=>st.mo.some z h1) (h3.step (Gr.grow st.mo n.grow).st)⟩
  |true=>
   cases e
   obtain⟨s1,g1⟩:=st.dE h1 n.grow h2 h3
   refine⟨_,g1,s1,.ref ?_⟩
   rw[<-st.len]
   exact vK
abbrev Op1:=Wv->uo Wv
abbrev Op2:=Wv->Wv->uo Wv
abbrev OpN:=Gc Wv->uo Wv
noncomputable def rOp(K:Wp)(op:Op2):R2:=λx y H Q=>∃M w1 w2 r,op w1 w2=Fk r/\MOk M H/\Sh K M H x w1/\Sh K M H y w2/\∀v H',Nw K M H H' v r->Q v H'
def rUn(K:Wp)(op:Op1):V->Hp->VK->Prop:=λx H Q=>∃M w r,op w=Fk r/\MOk M H/\Sh K M H x w/\∀v H',Nw K M H H' v r->Q v H'
def rN(K:Wp)(op:OpN):Gc V->Hp->VK->Prop:=λxs H Q=>∃M ws r,op ws=Fk r/\MOk M H/\Shs K M H xs ws/\∀v H',Nw K M H H' v r->Q v H'
noncomputable def Tt(c:vm)(op:OpN)(fs:Gc Ev):Ev:=λE S=>(evs fs E S).bind λr=>(op (r.1.map (dr r.2))).bind λw=>fin c w r.2
abbrev eOp:=Tt false
abbrev iM:=Tt true
noncomputable def o1(op:Op1):OpN| [a]=>op a|_=>uk
noncomputable def o2(op:Op2):OpN| [a,b]=>op a b|_=>uk
theorem Rc{c:vm}{op:OpN}{fs:Gc Ev}{Q:VK}{d:D}{S':Sto}(e:Tt c op fs E S=Fk (d,S'))(r:EnR K M E σ H)(st:StR K M S H)(h:∀v H' M',Gr M H M' H'->StR K M' S' H'->FR K M' H' v d->Q v H'):tDs K fs σ H λvs H1=>rN K op vs H1 Q:=by
 obtain⟨⟨ds,S1⟩,e1,e⟩:=BK e
 obtain⟨w,e2,e⟩:=BK e
 refine JG e1 r st λvs H1 M1 g1 st1 d1=>⟨M1,_,w,e2,st1.mo,cH st1 d1,λv H2 n=>?_⟩
 obtain⟨M2,g2,st2,d2⟩:=n.fin st1 e
 exact h v H2 M2 (g1.trans g2) st2 d2
end
theorem ik{K:Wp}{f:Op2}{x y:V}{H:Hp}{Q:VK}(h:rN K (o2 f) [x,y] H Q):rOp K f x y H Q:=by
 obtain⟨M,ws,r,e,mo,s,q⟩:=h
 cases s with
 |cons h1 s=>
  cases s with
  |cons h2 s=>
   cases s
   exact⟨M,_,_,r,e,mo,h1,h2,q⟩
theorem jn{K:Wp}{f:Op1}{x:V}{H:Hp}{Q:VK}(h:rN K (o1 f) [x] H Q):rUn K f x H Q:=by
 obtain⟨M,ws,r,e,mo,s,q⟩:=h
 cases s with
 |cons h1 s=>
  cases s
  exact⟨M,_,r,e,mo,h1,q⟩
theorem Vw{K:Wp}{c:vm}{f:Op2}{fa fb:Ev}{σ:Sg}{H:Hp}{Q:VK}(h:tD K (Tt c (o2 f) [fa,fb]) σ H Q):tOp (rOp K f) (tD K fa) (tD K fb) σ H Q:=by
 obtain⟨M,E,S,d,S',e,r,st,q⟩:=h
 have z:tD K fa σ H λx H1=>tD K fb σ H1 λy H2=>rN K (o2 f) [x,y] H2 Q:=Rc (Q:=Q) e r st q
 exact Il z λx H1 z1=>Il z1 λy H2 z2=>ik z2
theorem Xk{K:Wp}{c:vm}{f:Op1}{fa:Ev}{σ:Sg}{H:Hp}{Q:VK}(h:tD K (Tt c (o1 f) [fa]) σ H Q):tUn (rUn K f) (tD K fa) σ H Q:=by
 obtain⟨M,E,S,d,S',e,r,st,q⟩:=h
 have z:tD K fa σ H λx H1=>rN K (o1 f) [x] H1 Q:=Rc (Q:=Q) e r st q
 exact Il z λx H1 z1=>jn z1
section
variable{X:Cx}{a b e:vU}{es:Gc vU}{fa fb:Ev}{fs:Gc Ev}{pos p:Pos}{c:vm}
theorem Ab{op:Operator}{f:Op2}(ho:OpR X (binaryOp op) (rOp X.K f))(ha:DE X a fa)(hb:DE X b fb):DE X (.BinOp a op b pos) (Tt c (o2 f) [fa,fb]):=⟨CP (pE ho ha.pe hb.pe) λ_ _ _ h=>Vw h⟩
theorem Hf{op:CmpOp}{f:Op2}(ho:OpR X (compareOp op) (rOp X.K f))(ha:DE X a fa)(hb:DE X b fb)(hm:behindInMarks op b=false:=by rfl):DE X (.Compare a [op] [b] pos) (Tt c (o2 f) [fa,fb]):=⟨CP (eS ho ha.pe hb.pe hm) λ_ _ _ h=>Vw h⟩
theorem Oh{op:UnaryOp}{f:Op1}(ho:UnR X (unaryOp op) (rUn X.K f))(ha:DE X a fa):DE X (.UnaryOp op a pos) (Tt c (o1 f) [fa]):=⟨CP (j8 ho ha.pe) λ_ _ _ h=>Xk h⟩
theorem AN{f:Op2}(hr:IxR X (rOp X.K f))(ha:DE X a fa)(hb:DE X b fb)(hs:YF b:=by exact λ_ _=>rfl):DE X (.Subscript a b pos) (Tt c (o2 f) [fa,fb]):=⟨CP (qQ hr ha.pe hb.pe hs) λ_ _ _ h=>Vw h⟩
theorem Aa{id:xl}{x:Str}{f:OpN}(hc:HR X (.builtin id) (rN X.K f))(hg:Gl X x)(hm:X.mg x=uk)(hv:bootBuiltins x=Fk (.builtin id))(ha:DEs X (e::es) fs)(hn:x≠ "__name__":=by decide)(hdb:(x==("__debug__":Str))=false:=by decide)(he:vP (e::es) X.env=(false,eval e X.env)::vP es X.env:=by rfl)(hpl:(backTo pos (vP es X.env)).any (·.1)=false:=by rfl):DE X (.Call (.Name x p) (e::es) [] pos) (Tt c f fs):=⟨
 CP (aY hc hg hm hv ha.pe hn hdb he hpl) λ_ _ _ h=>by
  obtain⟨M,E,S,d,S',e,r,st,q⟩:=h
  exact Rc e r st q⟩
theorem Av{T:xl}{x:Str}{f:OpN}(hc:HR X (.type T) (rN X.K f))(hg:Gl X x)(hm:X.mg x=uk)(hv:bootBuiltins x=Fk (.type T))(ha:DEs X (e::es) fs)(hn:x≠ "__name__":=by decide)(hdb:(x==("__debug__":Str))=false:=by decide)(he:vP (e::es) X.env=(false,eval e X.env)::vP es X.env:=by rfl)(hpl:(backTo pos (vP es X.env)).any (·.1)=false:=by rfl):DE X (.Call (.Name x p) (e::es) [] pos) (Tt c f fs):=⟨
 CP (Ye hc hg hm hv ha.pe hn hdb he hpl) λ_ _ _ h=>by
  obtain⟨M,E,S,d,S',e,r,st,q⟩:=h
  exact Rc e r st q⟩
noncomputable def eC(d:D):Ev:=λ_ S=>Fk (d,S)
theorem Tz{v:V}{d:D}(h:PE X e (tC v))(r:∀K M H,FR K M H v d):DE X e (eC d):=⟨CP h λσ H Q z=>by
 obtain⟨M,E,S,w,S',e,rr,st,q⟩:=z
 cases e
 exact q _ _ M (.refl st.mo) st (r _ _ _)⟩
theorem AF{i:Int}{j:Nat}:DE X (.Constant (.int i) j pos) (eC (.int i)):=Tz cm λ_ _ _=>.int _
theorem MS{i:vm}{j:Nat}:DE X (.Constant (.bool i) j pos) (eC (.bl i)):=Tz oW λ_ _ _=>.bl _
theorem Ah{i:Str}{j:Nat}:DE X (.Constant (.str i) j pos) (eC (.str i)):=Tz iV λ_ _ _=>.str _
theorem RT{j:Nat}:DE X (.Constant .none j pos) (eC .non):=Tz ie λ_ _ _=>.non
noncomputable def eV(i:Nat):Ev:=λE S=>(at? E i).map λd=>(d,S)
theorem AB(i:Nat){x:Str}(hN:X.N[i]?=Fk x:=by rfl)(hv:oI X.env.scope x=true:=by rfl)(hd:(x==("__debug__":Str))=false:=by decide)(hcd:(x==("__classdict__":Str))=false:=by decide):DE X (.Name x pos) (eV i):=⟨CP (YB hN (jP hv) hd hcd) λσ H Q z=>by
 obtain⟨M,E,S,d,S',e,r,st,q⟩:=z
 obtain⟨d',e1,e⟩:=NR e
 cases e
 obtain⟨v,hv,rd⟩:=r.val i d (at?_some e1)
 exact⟨v,hv,q v H M (.refl st.mo) st rd⟩⟩
end
theorem Kg:fillsNumberSlot (.type "tuple") "mul"=pure false:=
 fillsNumberSlot_seq (id:="tuple.__mul__") (r:=Fk (.builtin "tuple.__rmul__")) zk.lookup (by decide+kernel) F.slot_tuple_rmul.lookup (by decide+kernel)
theorem Ob:seqRepeat? (.type "tuple")=pure (Fk (.builtin "tuple.__mul__")):=by
 unfold seqRepeat?
 rw[seqSlot_of (T:="tuple") (name:="__mul__") (id:="tuple.__mul__") zk.lookup (by decide+kernel),seqSlot_of (T:="tuple") (name:="__rmul__") (id:="tuple.__rmul__") F.slot_tuple_rmul.lookup (by decide+kernel)]
 rfl
theorem L3(a:Int)(t:Tok)(l:uu)(items:wK W1)(n:Nat)(dd:uo uu)(sl:wK (uo W1)):Meets (zP.«int.__rmul__» ⟨[.int a t,.ref l],[]⟩) (λ_ R s=>s.heap.get? l=Fk {cls:=.type "tuple",dict:=dd,data:=.seq items n,slots:=sl}/\R (.ok (.ret Value.notImplemented)) s):=
 .of_wp λprog w A R s h=>by obtain⟨hp,g,d,tk,os⟩:=s;obtain⟨hl,h⟩:=h;wp_walk;exact⟨_,rfl,h⟩
theorem YT(its:Gc W1)(m:Nat):ACC (λx1 x2=>x1++x2) #[] (vC m its.toArray)=(vC m its).flatten.toArray:=by
 have:=foldl_rep its m []
 rw[vX]at this
 exact this
theorem dh{X:Cx}:OpR X (binaryOp .Mult) (λx y H Q=>∃a xs k,x=.ref a/\y=.int k/\SqT X.K H a xs/\xs≠[]/\1<=k/\xs.length*k.toNat<=sizeLine/\(k=1->Q (.ref a) H)/\(k≠1->∀p,H p=uk->Q (.ref p) (upd H p (.tup (vC k.toNat xs).flatten)))):=by
 intro pins s σ H x y v u Q I rx ry h
 obtain⟨a,xs,k,rfl,rfl,hx,hne,hk,hz,q1,q2⟩:=h
 cases rx
 obtain⟨t,rfl⟩:=ry
 obtain⟨its,r,⟨⟨c,dd,data,sl⟩,ho,hc,n,hd⟩,hzz⟩:=I.tuple hx
 simp only at hc hd
 subst hc hd
 have hl:=r.length
 have hsz:its.toArray.size=xs.length:=by rw[vF];exact hl.symm
 have hpos:0<xs.length:=ABx.mpr hne
 have hkl:k.toNat<=sizeLine:=uz (Nat.le_mul_of_pos_left _ hpos) hz
 have hk63:k<2^63:=by
  have:(sizeLine:Nat)<2^63:=by decide
  lia
 refine yz (T:="tuple") (U:="int") (by decide) ⟨_,ho,rfl⟩ (λs'=>ze s' k t) Kg ABI ya Ob AA1.lookup
  (zf ya (ze s k t) AA2 (AAj _ _) (L3 k t a its.toArray n dd sl) ⟨ho,rfl,⟨_,ho,rfl⟩,?_⟩)
 refine xF zk ⟨_,ho,rfl⟩ F.entry_tuple_mul ?_ (ACD _ _)
 unfold zP.«tuple.__mul__»
 wp_walk using vV ho
 rw[vf (show¬(decide (k< -2^63)||decide (k≥2^63))=true by
  rw[wQ]
  rintro (z|z)
  .have:=vH z;lia
  .have:=vH z;lia)]
 wp_walk using vV ho
 by_cases h1:k=1
 .subst h1
  rw[va (show(its.toArray.isEmpty||(1:Int)==1)=true by simp)]
  wp_walk using vV ho
  exact⟨_,rfl,.ref a,H,I,rfl,q1 rfl⟩
 .have hemp:its.toArray.isEmpty=false:=by
   cases its with
   |nil=>rw[yb]at hl;lia
   |cons b bs=>rfl
  rw[vf (show¬(its.toArray.isEmpty||k==1)=true by rw[hemp];simpa using h1)]
  wp_walk using vV ho
  have hmul:((its.toArray.size:Int)*k)=((xs.length*k.toNat:Nat):Int):=by
   rw[hsz,ABK]
   congr 1
   lia
  rw[vf (show¬(decide (k<=0)||its.toArray.isEmpty)=true by
   rw[hemp,Bool.or_false]
   intro z
   have:=vH z
   lia)]
  wp_walk
  rw[vf (show¬((its.toArray.size:Int)*k>(2^63-1) / 8) by
   rw[hmul]
   have:(sizeLine:Nat)<=(2^63-1) / 8:=by decide
   lia)]
  wp_walk
  rw[vf (show¬AAa ((its.toArray.size:Int)*k)=true by
   unfold AAa
   rw[hmul]
   intro z
   have:=vH z
   lia)]
  rw[YT]
  wp_walk
  have hlen:(vC k.toNat its).flatten.length<=sizeLine:=by rw[len_rep,yU,<-hl];exact hz
  rw[vf (show¬((vC k.toNat its).flatten.toArray.size>sizeLine) by rw[vF];lia)]
  wp_walk
  refine⟨_,rfl,.ref _,_,I.laid (o:=.tup (vC k.toNat xs).flatten) (t':=s.toks) (λb ob q=>tz _ q) (u4 _) ?_,rfl,q2 h1 _ (I.hok.fresh (u4 _))⟩
  exact⟨by rw[len_rep,yU];exact hz,_,r.rep k.toNat,xX _ _⟩
mutual
noncomputable def D.py:D->PyData
 | .non=>.none| .bl b=>.bool b| .int i=>.int i| .str x=>.str x| .ty _=>.none
 | .tup ds=>.tuple (D.pys ds)| .lst ds=>.list (D.pys ds)| .dct _=>.none| .scr _=>.none| .ref _=>.none
noncomputable def D.pys:Gc D->Gc PyData
 | []=>[]
 |d::ds=>D.py d::D.pys ds
end
mutual
noncomputable def D.lay:D->vm
 | .non=>true| .bl _=>true| .int _=>true| .str x=>xv x| .ty _=>false| .dct _=>false| .scr _=>false| .ref _=>false
 | .tup ds=>D.Tv ds| .lst ds=>D.Tv ds
noncomputable def D.Tv:Gc D->vm
 | []=>true
 |d::ds=>D.lay d && D.Tv ds
end
mutual
theorem PD:∀{d:D},d.lay=true->d.py.canLay0=true
 | .non,_=>rfl
 | .bl _,_=>rfl
 | .int _,_=>rfl
 | .str x,h=>h
 | .ty _,h=>xS h
 | .dct _,h=>xS h
 | .scr _,h=>xS h
 | .ref _,h=>xS h
 | .tup ds,h=>by show zR (D.pys ds)=true;exact TM h
 | .lst ds,h=>by show zR (D.pys ds)=true;exact TM h
theorem TM:∀{ds:Gc D},D.Tv ds=true->zR (D.pys ds)=true
 | [],_=>rfl
 |d::ds,h=>by
  have h':(D.lay d && D.Tv ds)=true:=h
  rw[vE]at h'
  show(PyData.canLay0 d.py && zR (D.pys ds))=true
  rw[PD h'.1,TM h'.2];rfl
end
section
variable{X:Cx}{pins:Gc (uu×Obj)}{σ:Sg}{H:Hp}{s:ur}{M:Ms}
theorem Po(I:Inv X pins σ H s){a:uu}{xs:Gc V}(h:Rd H a (.lst xs)):∃its:Gc W1,Vals xs its/\∃o n,s.heap.get? a=Fk o/\o.cls=.type "list" /\o.data=.seq its.toArray n:=by
 obtain⟨z,its,n,r,e⟩:=h.ok I.hok
 exact⟨its,r,_,n,e,rfl,rfl⟩
theorem FR.reads(I:Inv X pins σ H s){v:V}{d:D}(h:FR X.K M H v d):∀{u:W1},RelV v u->d.lay=true->∃as,Reads s.heap u d.py as:=
 FR.rec (motive_1:=λv d _=>∀{u:W1},RelV v u->d.lay=true->∃as,Reads s.heap u d.py as) (motive_2:=λvs ds _=>∀{us:Gc W1},Vals vs us->D.Tv ds=true->∃as,ReadsAll s.heap us (D.pys ds) as) (motive_3:=λ_ _ _=>AB8)
  (λr _=>by cases r;exact⟨_,.none⟩) (λb _ r _=>by cases r;exact⟨_,.bool b⟩) (λb _ r _=>by obtain⟨t,rfl⟩:=r;exact⟨_,.int b t⟩) (λb _ r _=>by obtain⟨t,rfl⟩:=r;exact⟨_,.str b t⟩) (λ_ _ _ h=>xS h)
  (fun h _ ih _ r hl => by
    cases r
    obtain⟨its,rv,⟨o,e,hc,n,hd⟩,_⟩:=I.tuple h
    obtain⟨as,ra⟩:=ih rv hl
    exact⟨as,.tuple e hc hd ra⟩)
  (fun h _ _ ih _ r hl => by
    cases r
    obtain⟨its,rv,o,n,e,hc,hd⟩:=Po I (.inl h)
    obtain⟨as,ra⟩:=ih rv hl
    exact⟨_,.list e hc hd ra⟩)
  (λ_ _ _ h=>xS h) (λ_ _ _ _ _ _ h=>xS h) (λ_ _ _ h=>xS h)
  (fun r _ => by cases r; exact ⟨_, .nil⟩) (fun {v d vs ds} _ _ ih1 ih2 _ r hl => by
    cases r with
    |cons r1 r2=>
     have hl':(D.lay d && D.Tv ds)=true:=hl
     rw[vE]at hl'
     obtain⟨as,ra⟩:=ih1 r1 hl'.1
     obtain⟨bs,rb⟩:=ih2 r2 hl'.2
     exact⟨_,.cons ra rb⟩) trivial (λ_ _ _ _=>trivial) h
theorem A6.reads(I:Inv X pins σ H s){vs:Gc V}{ds:Gc D}(h:A6 X.K M H vs ds):∀{us:Gc W1},Vals vs us->D.Tv ds=true->∃as,ReadsAll s.heap us (D.pys ds) as:=
 h.ind (P:=λvs ds=>∀{us:Gc W1},Vals vs us->D.Tv ds=true->∃as,ReadsAll s.heap us (D.pys ds) as) (λr _=>by cases r;exact⟨_,.nil⟩) (λ{v d vs ds} h ih2 _ r hl=>by
  cases r with
  |cons r1 r2=>
   have hl':(D.lay d && D.Tv ds)=true:=hl
   rw[vE]at hl'
   obtain⟨as,ra⟩:=h.reads I r1 hl'.1
   obtain⟨bs,rb⟩:=ih2 r2 hl'.2
   exact⟨_,.cons ra rb⟩)
end
noncomputable def deq(a b:D):vm:=PyData.eqv a.py b.py
noncomputable def VZ(a b:D):vm:=a.lay && b.lay && decide (min a.py.depth b.py.depth<=60)
noncomputable def wEq:Op2:=λa b=>if VZ (fz a) (fz b)=true then Fk (.val (.bl (deq (fz a) (fz b))))else uk
noncomputable def wNe:Op2:=λa b=>if VZ (fz a) (fz b)=true then Fk (.val (.bl (!deq (fz a) (fz b))))else uk
section
variable{X:Cx}
theorem Sh.reads{pins:Gc (uu×Obj)}{σ:Sg}{H:Hp}{s:ur}{M:Ms}{v:V}{u:W1}{w:Wv}(h:Sh X.K M H v w)(I:Inv X pins σ H s)(r:RelV v u)(hl:(fz w).lay=true):∃as,Reads s.heap u (fz w).py as:=by
 cases w with
 |val d=>exact FR.reads I h r hl
 |own ds=>
  obtain⟨a,xs,rfl,h1,h2⟩:=h
  cases r
  obtain⟨its,rv,o,n,e,hc,hd⟩:=Po I (.inl h1)
  obtain⟨as,ra⟩:=A6.reads I h2 rv hl
  exact⟨_,.list e hc hd ra⟩
theorem B8(hu:X.A.units+100<cLine):OpR X (compareOp .Eq) (rOp X.K wEq):=by
 intro pins s σ H x y v u Q I rx ry h
 obtain⟨M,w1,w2,r,e,mo,s1,s2,q⟩:=h
 unfold wEq at e
 split at e
 .rename_i hk
  unfold VZ at hk
  rw[vE,vE]at hk
  cases e
  obtain⟨as,ra⟩:=s1.reads I rx hk.1.1
  obtain⟨bs,rb⟩:=s2.reads I ry hk.1.2
  have hd:=vH hk.2
  exact SeqAt.compareEq_reads ra rb (PD hk.1.1) (PD hk.1.2) (by omega) ⟨.bl _,H,I,rfl,q _ _ (.same mo (.bl _))⟩
 .cases e
theorem Jg(hu:X.A.units+100<cLine):OpR X (compareOp .NotEq) (rOp X.K wNe):=by
 intro pins s σ H x y v u Q I rx ry h
 obtain⟨M,w1,w2,r,e,mo,s1,s2,q⟩:=h
 unfold wNe at e
 split at e
 .rename_i hk
  unfold VZ at hk
  rw[vE,vE]at hk
  cases e
  obtain⟨as,ra⟩:=s1.reads I rx hk.1.1
  obtain⟨bs,rb⟩:=s2.reads I ry hk.1.2
  have hd:=vH hk.2
  exact SeqAt.compareNe_reads ra rb (PD hk.1.1) (PD hk.1.2) (by omega) ⟨.bl _,H,I,rfl,q _ _ (.same mo (.bl _))⟩
 .cases e
noncomputable def wI2(f:Int->Int->uo D):Op2
 | .val (.int i),.val (.int j)=>(f i j).map .val
 |_,_=>uk
theorem WX{g:W1->W1->Sem W1}{C:Int->Int->Prop}{h:Int->Int->V}{f:Int->Int->uo D}(o:OpR X g (rI C h))(hf:∀i j d,f i j=Fk d->C i j/\∀K M H,FR K M H (h i j) d):OpR X g (rOp X.K (wI2 f)):=by
 intro pins s σ H x y v u Q I rx ry hh
 obtain⟨M,w1,w2,r,e,mo,s1,s2,q⟩:=hh
 unfold wI2 at e
 split at e
 .cases s1
  cases s2
  rename_i i j
  cases e1:f i j with
  |none=>rw[e1]at e;cases e
  |some d=>
   rw[e1]at e
   cases e
   obtain⟨c,rd⟩:=hf i j d e1
   exact o pins s σ H _ _ v u Q I rx ry ⟨i,j,rfl,rfl,c,q _ _ (.same mo (rd _ _ _))⟩
 .cases e
theorem QB{g:W1->W1->Sem W1}{h:Int->Int->V}{f:Int->Int->uo D}(o:OpR X g (rI0 h))(hf:∀i j d,f i j=Fk d->∀K M H,FR K M H (h i j) d):OpR X g (rOp X.K (wI2 f)):=by
 intro pins s σ H x y v u Q I rx ry hh
 obtain⟨M,w1,w2,r,e,mo,s1,s2,q⟩:=hh
 unfold wI2 at e
 split at e
 .cases s1
  cases s2
  rename_i i j
  cases e1:f i j with
  |none=>rw[e1]at e;cases e
  |some d=>
   rw[e1]at e
   cases e
   exact o pins s σ H _ _ v u Q I rx ry ⟨i,j,rfl,rfl,q _ _ (.same mo (hf i j d e1 _ _ _))⟩
 .cases e
noncomputable def Qe:Op2:=wI2 λi j=>Fk (.int (i-j))
noncomputable def ck:Nat:=2^60000
noncomputable def Im:Nat:=2^8000
noncomputable def FF(i j:Int):vm:=decide (i.natAbs<2^64)||(decide (j.natAbs<2^64)||(decide (i.natAbs<ck) && decide (j.natAbs<ck)))
theorem dQ:OpR X (binaryOp .Mult) (rI (λi j=>FF i j=true) λi j=>.int (i*j)):=by
 intro pins s σ H x y v u Q I rx ry h
 obtain⟨i,j,rfl,rfl,hk,q⟩:=h
 unfold FF at hk
 rw[wQ,wQ,vE]at hk
 rcases hk with hk|hk|hk
 .have:=vH hk
  exact dB pins s σ H _ _ v u Q I rx ry ⟨i,j,rfl,rfl,.inl ⟨by omega,by omega⟩,q⟩
 .have:=vH hk
  exact dB pins s σ H _ _ v u Q I rx ry ⟨i,j,rfl,rfl,.inr ⟨by omega,by omega⟩,q⟩
 .have h1:i.natAbs<2^60000:=vH hk.1
  have h2:j.natAbs<2^60000:=vH hk.2
  obtain⟨t1,rfl⟩:=rx
  obtain⟨t2,rfl⟩:=ry
  exact PyProof.Rows.mul_int ⟨.int _,H,I.tok _,⟨_,rfl⟩,q⟩ (PyProof.Rows.mulOk_of_bits (m:=60000) (n:=60000) (ABe.mpr h1) (ABe.mpr h2) (by decide))
noncomputable def kZ:Op2:=wI2 λi j=>if FF i j=true then Fk (.int (i*j))else uk
noncomputable def Qv:Op2:=wI2 λi j=>if(decide (0<j) && decide (j.natAbs<Im))=true then Fk (.int (i / j))else uk
noncomputable def U9:Op2:=wI2 λi j=>if 0<j then Fk (.int (i % j))else uk
noncomputable def gD:Op2:=wI2 λi j=>if(decide (0<=j) && decide (j<=1000) && decide (i.natAbs<2^64))=true then Fk (.int (i^j.toNat))else uk
noncomputable def wLt:Op2:=wI2 λi j=>Fk (.bl (decide (i<j)))
noncomputable def wLe:Op2:=wI2 λi j=>Fk (.bl (decide (i<=j)))
noncomputable def wGt:Op2:=wI2 λi j=>Fk (.bl (decide (j<i)))
noncomputable def wGe:Op2:=wI2 λi j=>Fk (.bl (decide (j<=i)))
theorem Fg:OpR X (binaryOp .Sub) (rOp X.K Qe):=QB jM λi j d e K M H=>by cases e;exact .int _
theorem fG:OpR X (binaryOp .Mult) (rOp X.K kZ):=WX dQ λi j d e=>by
 split at e
 .rename_i hk
  cases e
  exact⟨hk,λ_ _ _=>.int _⟩
 .cases e
theorem JT:OpR X (binaryOp .FloorDiv) (rOp X.K Qv):=WX St.Z8 λi j d e=>by
 split at e
 .rename_i hk
  rw[vE]at hk
  cases e
  exact⟨⟨vH hk.1,vH hk.2⟩,λ_ _ _=>.int _⟩
 .cases e
theorem Ja:OpR X (binaryOp .Mod) (rOp X.K U9):=WX ir λi j d e=>by
 split at e
 .rename_i hk
  cases e
  exact⟨hk,λ_ _ _=>.int _⟩
 .cases e
theorem VC:OpR X (binaryOp .Pow) (rOp X.K gD):=WX kS λi j d e=>by
 split at e
 .rename_i hk
  rw[vE,vE]at hk
  cases e
  have:=vH hk.1.2
  exact⟨⟨vH hk.1.1,by omega,vH hk.2⟩,λ_ _ _=>.int _⟩
 .cases e
theorem MF:OpR X (compareOp .Lt) (rOp X.K wLt):=QB i0 λi j d e K M H=>by cases e;exact .bl _
theorem cJ:OpR X (compareOp .LtE) (rOp X.K wLe):=QB jD λi j d e K M H=>by cases e;exact .bl _
theorem Mp:OpR X (compareOp .Gt) (rOp X.K wGt):=QB oP λi j d e K M H=>by cases e;exact .bl _
theorem Yq:OpR X (compareOp .GtE) (rOp X.K wGe):=QB pv λi j d e K M H=>by cases e;exact .bl _
noncomputable def asL:Wv->uo (Gc D)
 | .own ds=>Fk ds
 | .val (.lst ds)=>Fk ds
 |_=>uk
noncomputable def asT:Wv->uo (Gc D)
 | .val (.tup ds)=>Fk ds
 |_=>uk
noncomputable def asC:Wv->uo (Gc D)
 | .val (.scr ns)=>Fk (ns.map .int)
 |_=>uk
noncomputable def asS(w:Wv):uo (Gc D):=(asL w).or ((asT w).or (asC w))
section
variable{K:Wp}{M:Ms}{H:Hp}{v:V}{w:Wv}{ds:Gc D}
theorem Sh.l(h:Sh K M H v w)(e:asL w=Fk ds):∃a xs,v=.ref a/\H a=Fk (.lst xs)/\A6 K M H xs ds:=by
 cases w with
 |own es=>cases e;obtain⟨a,xs,rfl,h1,h2⟩:=h;exact⟨a,xs,rfl,h1,h2⟩
 |val d=>
  cases d<;>first|(cases e;done)|skip
  cases e
  cases h with
  |lst h n r=>exact⟨_,_,rfl,h,r⟩
theorem Sh.t(h:Sh K M H v w)(e:asT w=Fk ds):∃a xs,v=.ref a/\SqT K H a xs/\A6 K M H xs ds:=by
 cases w with
 |own es=>cases e
 |val d=>
  cases d<;>first|(cases e;done)|skip
  cases e
  cases h with
  |tup h r=>exact⟨_,_,rfl,h,r⟩
theorem Ou:∀{ns:Gc Int},A6 K M H (ns.map V.int) (ns.map D.int)
 | []=>.nil
 |n::ns=>.cons (.int n) Ou
theorem Sh.c(h:Sh K M H v w)(e:asC w=Fk ds):∃a xs,v=.ref a/\SqL K H a xs/\A6 K M H xs ds:=by
 cases w with
 |own es=>cases e
 |val d=>
  cases d<;>first|(cases e;done)|skip
  cases e
  cases h with
  |scr h=>
   refine⟨_,_,rfl,?_,Ou⟩
   rcases h with h|h
   .exact .inl h.1
   .exact .inr h
theorem Sh.s(h:Sh K M H v w)(e:asS w=Fk ds):∃a xs,v=.ref a/\(SqL K H a xs\/SqT K H a xs)/\A6 K M H xs ds:=by
 unfold asS at e
 cases e1:asL w with
 |some es=>
  rw[e1]at e
  cases e
  obtain⟨a,xs,h1,h2,h3⟩:=h.l e1
  exact⟨a,xs,h1,.inl (.of h2),h3⟩
 |none=>
  rw[e1]at e
  cases e2:asT w with
  |some es=>
   rw[e2]at e
   cases e
   obtain⟨a,xs,h1,h2,h3⟩:=h.t e2
   exact⟨a,xs,h1,.inr h2,h3⟩
  |none=>
   rw[e2]at e
   obtain⟨a,xs,h1,h2,h3⟩:=h.c e
   exact⟨a,xs,h1,.inl h2,h3⟩
end
noncomputable def Kw:Op1:=λw=>match w with
 | .val (.str z)=>if z.length<=sizeLine then Fk (.val (.int z.length))else uk
 |_=>(asS w).map λds=>.val (.int ds.length)
theorem Bf:HR X (.builtin "len") (rN X.K (o1 Kw)):=by
 intro pins s σ H xs us Q I r h
 obtain⟨M,ws,w,e,mo,sh,q⟩:=h
 cases sh with
 |nil=>cases e
 |cons h1 t=>
  cases t with
  |cons h2 t=>cases e
  |nil=>
   rename_i v w1
   have e':Kw w1=Fk w:=e
   unfold Kw at e'
   split at e'
   .split at e'
    .rename_i z hz
     cases e'
     cases h1
     exact UK pins s σ H _ us Q I r ⟨z,rfl,hz,q _ _ (.same mo (.int _))⟩
    .cases e'
   .cases e1:asS w1 with
    |none=>rw[e1]at e';cases e'
    |some ds=>
     rw[e1]at e'
     cases e'
     obtain⟨a,ys,rfl,h3,h4⟩:=h1.s e1
     refine T5 pins s σ H _ us Q I r ⟨a,ys,rfl,h3,q _ _ ?_⟩
     rw[h4.length]
     exact .same mo (.int _)
noncomputable def wIx:Op2:=λa b=>match a,b with
 |a,.val (.int i)=>(asS a).bind λds=>(atI ds i).map .val
 |_,_=>uk
theorem dm{K:Wp}{M:Ms}{H:Hp}{xs:Gc V}{ds:Gc D}{i:Int}{d:D}(h:A6 K M H xs ds)(e:atI ds i=Fk d):∃x,atI xs i=Fk x/\FR K M H x d:=by
 unfold atI at e⊢
 rw[h.length]
 cases e1:ixN ds.length i with
 |none=>rw[e1]at e;cases e
 |some j=>
  rw[e1]at e
  exact h.get e
theorem AX:IxR X (rOp X.K wIx):=by
 intro value slice pins s σ H x y v u Q I rx ry h hs
 obtain⟨M,w1,w2,r,e,mo,s1,s2,q⟩:=h
 unfold wIx at e
 split at e
 .rename_i i
  cases e1:asS w1 with
  |none=>rw[e1]at e;cases e
  |some ds=>
   rw[e1]at e
   simp only[yv]at e
   cases e2:atI ds i with
   |none=>rw[e2]at e;cases e
   |some d=>
    rw[e2]at e
    cases e
    cases s2
    obtain⟨a,ys,rfl,h3,h4⟩:=s1.s e1
    obtain⟨z,h5,h6⟩:=dm h4 e2
    rcases h3 with h3|h3
    .exact da value slice pins s σ H _ _ v u Q I rx ry ⟨a,ys,i,z,rfl,rfl,h3,h5,q _ _ (.same mo h6)⟩ hs
    .exact kK value slice pins s σ H _ _ v u Q I rx ry ⟨a,ys,i,z,rfl,rfl,h3,h5,q _ _ (.same mo h6)⟩ hs
 .cases e
end
section
variable{X:Cx}
noncomputable def EA:Op2:=λa b=>match a,b with
 | .val (.int i),.val (.int j)=>Fk (.val (.int (i+j)))
 | .val (.str x),.val (.str y)=>if x.length+y.length<=sizeLine then Fk (.val (.str (x++y)))else uk
 | .val (.tup xs),.val (.tup ys)=>if xs.length+ys.length<=sizeLine then Fk (.val (.tup (xs++ys)))else uk
 |a,b=>(asL a).bind λxs=>(asL b).bind λys=>if xs.length+ys.length<=sizeLine then Fk (.own (xs++ys))else uk
theorem An:OpR X (binaryOp .Add) (rOp X.K EA):=by
 intro pins s σ H x y v u Q I rx ry h
 obtain⟨M,w1,w2,r,e,mo,s1,s2,q⟩:=h
 unfold EA at e
 split at e
 .cases e
  cases s1;cases s2
  exact jd pins s σ H _ _ v u Q I rx ry ⟨_,_,rfl,rfl,q _ _ (.same mo (.int _))⟩
 .split at e
  .cases e
   cases s1;cases s2
   exact W9 pins s σ H _ _ v u Q I rx ry ⟨_,_,rfl,rfl,by assumption,q _ _ (.same mo (.str _))⟩
  .cases e
 .split at e
  .rename_i xs ys hz
   cases e
   cases s1 with
   |tup h1 r1=>
    cases s2 with
    |tup h2 r2=>
     rename_i a xs' b ys'
     have l1:=r1.length
     have l2:=r2.length
     by_cases hx:xs'=[]
     .subst hx
      cases r1
      refine St.fQ pins s σ H _ _ v u Q I rx ry ⟨_,_,_,rfl,rfl,h1,h2,q _ _ (.same mo ?_)⟩
      exact .tup h2 r2
     .refine gw pins s σ H _ _ v u Q I rx ry ⟨_,_,_,_,rfl,rfl,h1,h2,hx,by lia,λz=>?_,λ_ p hp=>q _ _ (.tup mo hp (r1.append r2))⟩
      subst z
      cases r2
      rw[xh]at q
      exact q _ _ (.same mo (.tup h1 r1))
  .cases e
 .cases e1:asL w1 with
  |none=>rw[e1]at e;cases e
  |some xs=>
   rw[e1]at e
   cases e2:asL w2 with
   |none=>rw[e2]at e;cases e
   |some ys=>
    rw[e2]at e
    simp only[yv]at e
    split at e
    .rename_i hz
     cases e
     obtain⟨a,xs',rfl,h1,r1⟩:=s1.l e1
     obtain⟨b,ys',rfl,h2,r2⟩:=s2.l e2
     have l1:=r1.length
     have l2:=r2.length
     exact kz pins s σ H _ _ v u Q I rx ry ⟨a,b,xs',ys',rfl,rfl,h1,h2,by lia,λp hp=>q _ _ (.lst mo hp (r1.append r2))⟩
    .cases e
noncomputable def mx:Op2:=λa b=>match a,b with
 | .val (.int i),.val (.int j)=>if FF i j=true then Fk (.val (.int (i*j)))else uk
 | .val (.tup xs),.val (.int k)=>if(!xs.isEmpty && decide (1<=k) && decide (xs.length*k.toNat<=sizeLine))=true then Fk (.val (.tup (vC k.toNat xs).flatten))else uk
 |a,.val (.int k)=>(asL a).bind λxs=>if(decide (k<2^63) && decide (-(2^63)<=k) && decide (xs.length*k.toNat<=sizeLine))=true then Fk (.own (vC k.toNat xs).flatten)else uk
 |_,_=>uk
theorem A6.rep{K:Wp}{M:Ms}{H:Hp}{xs:Gc V}{ds:Gc D}(h:A6 K M H xs ds):∀n:Nat,A6 K M H (vC n xs).flatten (vC n ds).flatten
 |0=>.nil
 |n+1=>by
  rw[xO,xO,yC,yC]
  exact h.append (A6.rep h n)
theorem Yh:OpR X (binaryOp .Mult) (rOp X.K mx):=by
 intro pins s σ H x y v u Q I rx ry h
 obtain⟨M,w1,w2,r,e,mo,s1,s2,q⟩:=h
 unfold mx at e
 split at e
 .rename_i i j
  refine fG pins s σ H x y v u Q I rx ry ⟨M,_,_,r,?_,mo,s1,s2,q⟩
  unfold kZ wI2
  show ACE Wv.val (if FF i j=true then Fk (D.int (i*j))else uk)=Fk r
  split at e
  .rename_i hk
   rw[va hk]
   exact e
  .cases e
 .rename_i xs k
  split at e
  .rename_i hk
   rw[vE,vE]at hk
   cases e
   cases s2
   cases s1 with
   | @tup a ys _ h1 r1=>
     have l1:=r1.length
     have z:=vH hk.2
     have hk1:=vH hk.1.2
     have hne:ys≠[]:=λzz=>by
      subst zz
      cases r1
      exact absurd hk.1.1 (by decide)
     refine dh pins s σ H _ _ v u Q I rx ry ⟨a,ys,k,rfl,rfl,h1,hne,hk1,by rw[l1];exact z,λe1=>?_,λ_ p hp=>q _ _ (.tup mo hp (r1.rep _))⟩
     subst e1
     have:(vC (1:Int).toNat xs).flatten=xs:=by simp
     rw[this]at q
     exact q _ _ (.same mo (.tup h1 r1))
  .cases e
 .rename_i k hn hn2
  cases e1:asL w1 with
  |none=>rw[e1]at e;cases e
  |some xs=>
   rw[e1]at e
   simp only[yv]at e
   split at e
   .rename_i hk
    rw[vE,vE]at hk
    cases e
    cases s2
    obtain⟨a,xs',rfl,h1,r1⟩:=s1.l e1
    have l1:=r1.length
    have z:=vH hk.2
    exact iQ pins s σ H _ _ v u Q I rx ry ⟨a,k,xs',rfl,rfl,h1,vH hk.1.2,vH hk.1.1,by rw[l1];exact z,λp hp=>q _ _ (.lst mo hp (r1.rep _))⟩
   .cases e
 .cases e
noncomputable def NZ:Op1
 | .val (.int i)=>Fk (.val (.int (-i)))
 |_=>uk
theorem Hk:UnR X (unaryOp .USub) (rUn X.K NZ):=by
 intro pins s σ H x v Q I rx h
 obtain⟨M,w,r,e,mo,s1,q⟩:=h
 unfold NZ at e
 split at e
 .cases e
  cases s1
  exact cR pins s σ H _ v Q I rx ⟨_,rfl,q _ _ (.same mo (.int _))⟩
 .cases e
noncomputable def MK:D->vm
 | .non=>true| .bl _=>true| .int _=>true| .str _=>true
 |_=>false
theorem Sh.flat{K:Wp}{M:Ms}{H:Hp}{v:V}{w:Wv}(h:Sh K M H v w)(f:MK (fz w)=true):FR K M H v (fz w):=by
 cases w with
 |val d=>exact h
 |own ds=>cases f
noncomputable def inD(x:D)(xs:Gc D):vm:=xs.any λy=>deq y x
theorem WI{K:Wp}{M:Ms}{H:Hp}{v:V}{d:D}(h:FR K M H v d)(f:MK d=true):RB v=true:=by
 cases h<;>first|rfl|cases f
theorem gy{K:Wp}{M:Ms}{H:Hp}{v u:V}{d e:D}(h:FR K M H v d)(g:FR K M H u e)(f:MK d=true)(f':MK e=true):eqV v u=deq d e:=by
 cases h<;>first|(cases f;done)|skip
 all_goals (cases g<;>first|(cases f';done)|rfl)
theorem Uc{K:Wp}{M:Ms}{H:Hp}:∀{vs:Gc V} {ds:Gc D},A6 K M H vs ds->ds.all MK=true->vs.all RB=true
 |_,_,.nil,_=>rfl
 |_,_,.cons h t,f=>by
  rw[yd,vE]at f⊢
  exact⟨WI h f.1,Uc t f.2⟩
theorem Yp{K:Wp}{M:Ms}{H:Hp}{u:V}{e:D}(g:FR K M H u e)(f':MK e=true):∀{vs:Gc V} {ds:Gc D},A6 K M H vs ds->ds.all MK=true->inV u vs=inD e ds
 |_,_,.nil,_=>rfl
 |_,_,.cons h t,f=>by
  rw[yd,vE]at f
  have ih:=Yp g f' t f.2
  unfold inV inD at ih⊢
  rw[xk,xk,ih,gy h g f.1 f']
noncomputable def wIn(neg:vm):Op2:=λa b=>(asS b).bind λds=>if(MK (fz a) && ds.all MK)=true then Fk (.val (.bl (if neg then !inD (fz a) ds else inD (fz a) ds)))else uk
theorem cZ{M:Ms}{H:Hp}{x y:V}{w1 w2 r:Wv}{neg:vm}{Q:VK}(e:wIn neg w1 w2=Fk r)(mo:MOk M H)(s1:Sh X.K M H x w1)(s2:Sh X.K M H y w2)(q:∀v H',Nw X.K M H H' v r->Q v H'):rIn X.K neg x y H Q:=by
 unfold wIn at e
 cases e1:asS w2 with
 |none=>rw[e1]at e;cases e
 |some ds=>
  rw[e1]at e
  simp only[yv]at e
  split at e
  .rename_i hk
   rw[vE]at hk
   cases e
   obtain⟨a,xs,rfl,h3,h4⟩:=s2.s e1
   have g1:=s1.flat hk.1
   refine⟨a,xs,rfl,h3,WI g1 hk.1,Uc h4 hk.2,?_⟩
   rw[Yp g1 hk.1 h4 hk.2]
   exact q _ _ (.same mo (.bl _))
  .cases e
theorem QI:OpR X (compareOp .In) (rOp X.K (wIn false)):=by
 intro pins s σ H x y v u Q I rx ry h
 obtain⟨M,w1,w2,r,e,mo,s1,s2,q⟩:=h
 exact ZC pins s σ H _ _ v u Q I rx ry (cZ e mo s1 s2 q)
theorem Uz:OpR X (compareOp .NotIn) (rOp X.K (wIn true)):=by
 intro pins s σ H x y v u Q I rx ry h
 obtain⟨M,w1,w2,r,e,mo,s1,s2,q⟩:=h
 exact T8 pins s σ H _ _ v u Q I rx ry (cZ e mo s1 s2 q)
noncomputable def isN:Wv->vm
 | .val .non=>true
 |_=>false
noncomputable def mh(neg:vm):Op2:=λa b=>match b with
 | .val .non=>Fk (.val (.bl (if neg then !isN a else isN a)))
 |_=>uk
theorem gq{K:Wp}{M:Ms}{H:Hp}{x:V}{w:Wv}(s:Sh K M H x w):decide (x=.non)=isN w:=by
 cases w with
 |own ds=>obtain⟨a,xs,rfl,_⟩:=s;rfl
 |val d=>cases s<;>rfl
theorem bU:OpR X (compareOp .IsNot) (rOp X.K (mh true)):=by
 intro pins s σ H x y v u Q I rx ry h
 obtain⟨M,w1,w2,r,e,mo,s1,s2,q⟩:=h
 unfold mh at e
 split at e
 .cases e
  cases s2
  refine hV pins s σ H _ _ v u Q I rx ry ⟨rfl,?_⟩
  rw[gq s1]
  exact q _ _ (.same mo (.bl _))
 .cases e
theorem LX{K:Wp}{M:Ms}{H:Hp}{xs:Gc V}{ws:Gc Wv}{f:Op1}{r:Wv}(h:Shs K M H xs ws)(e:o1 f ws=Fk r):∃v w,xs=[v]/\ws=[w]/\Sh K M H v w/\f w=Fk r:=by
 cases h with
 |nil=>cases e
 |cons h1 t=>
  cases t with
  |cons h2 t=>cases e
  |nil=>exact⟨_,_,rfl,rfl,h1,e⟩
theorem Xr{K:Wp}{M:Ms}{H:Hp}{xs:Gc V}{ws:Gc Wv}{f:Op2}{r:Wv}(h:Shs K M H xs ws)(e:o2 f ws=Fk r):∃v w v' w',xs=[v,v']/\ws=[w,w']/\Sh K M H v w/\Sh K M H v' w'/\f w w'=Fk r:=by
 cases h with
 |nil=>cases e
 |cons h1 t=>
  cases t with
  |nil=>cases e
  |cons h2 t=>
   cases t with
   |cons h3 t=>cases e
   |nil=>exact⟨_,_,_,_,rfl,rfl,h1,h2,e⟩
noncomputable def iK:Op1
 | .val (.int i)=>Fk (.val (.int (if i<0 then-i else i)))
 |_=>uk
theorem Pg:HR X (.builtin "abs") (rN X.K (o1 iK)):=by
 intro pins s σ H xs us Q I r h
 obtain⟨M,ws,w,e,mo,sh,q⟩:=h
 obtain⟨v,w1,rfl,rfl,s1,e1⟩:=LX sh e
 unfold iK at e1
 split at e1
 .cases e1
  cases s1
  exact bp pins s σ H _ us Q I r ⟨_,rfl,q _ _ (.same mo (.int _))⟩
 .cases e1
noncomputable def mT:Op2:=wI2 λi j=>Fk (.int (if j<i then j else i))
theorem aQ{f:Int->Int->uo D}{a b r:Wv}(e:wI2 f a b=Fk r):∃i j d,a=.val (.int i)/\b=.val (.int j)/\f i j=Fk d/\r=.val d:=by
 unfold wI2 at e
 split at e
 .rename_i i j
  cases e1:f i j with
  |none=>rw[e1]at e;cases e
  |some d=>rw[e1]at e;cases e;exact⟨i,j,d,rfl,rfl,e1,rfl⟩
 .cases e
theorem Yy(hc:X.calm=true):HR X (.builtin "min") (rN X.K (o2 mT)):=by
 intro pins s σ H xs us Q I r h
 obtain⟨M,ws,w,e,mo,sh,q⟩:=h
 obtain⟨v,w1,v',w2,rfl,rfl,s1,s2,e1⟩:=Xr sh e
 obtain⟨i,j,d,rfl,rfl,e2,rfl⟩:=aQ e1
 cases e2;cases s1;cases s2
 exact X0 hc pins s σ H _ us Q I r ⟨_,_,rfl,q _ _ (.same mo (.int _))⟩
noncomputable def DA:Op1:=λw=>(asS w).map λds=>.val (.tup ds)
theorem A9:HR X (.type "tuple") (rN X.K (o1 DA)):=by
 intro pins s σ H xs us Q I r h
 obtain⟨M,ws,w,e,mo,sh,q⟩:=h
 obtain⟨v,w1,rfl,rfl,s1,e1⟩:=LX sh e
 unfold DA at e1
 cases e2:asS w1 with
 |none=>rw[e2]at e1;cases e1
 |some ds=>
  rw[e2]at e1
  cases e1
  obtain⟨a,ys,rfl,h3,h4⟩:=s1.s e2
  refine Tg pins s σ H _ us Q I r ⟨a,ys,rfl,?_⟩
  rcases h3 with h3|h3
  .exact .inl ⟨h3,λl hl=>q _ _ (.tup mo hl h4)⟩
  .exact .inr ⟨h3,q _ _ (.same mo (.tup h3 h4))⟩
noncomputable def Qz:Op1:=λw=>(asS w).map λds=>.own ds
theorem Lo:HR X (.type "list") (rN X.K (o1 Qz)):=by
 intro pins s σ H xs us Q I r h
 obtain⟨M,ws,w,e,mo,sh,q⟩:=h
 obtain⟨v,w1,rfl,rfl,s1,e1⟩:=LX sh e
 unfold Qz at e1
 cases e2:asS w1 with
 |none=>rw[e2]at e1;cases e1
 |some ds=>
  rw[e2]at e1
  cases e1
  obtain⟨a,ys,rfl,h3,h4⟩:=s1.s e2
  exact Ur pins s σ H _ us Q I r ⟨a,ys,rfl,h3,λl hl=>q _ _ (.lst mo hl h4)⟩
noncomputable def VF:Op1
 | .val (.int i)=>Fk (.val (.int i))
 | .val (.bl b)=>Fk (.val (.int (if b then 1 else 0)))
 |_=>uk
theorem Ik:HR X (.type "int") (rN X.K (o1 VF)):=by
 intro pins s σ H xs us Q I r h
 obtain⟨M,ws,w,e,mo,sh,q⟩:=h
 obtain⟨v,w1,rfl,rfl,s1,e1⟩:=LX sh e
 unfold VF at e1
 split at e1
 .cases e1;cases s1
  exact US pins s σ H _ us Q I r (.inl ⟨_,rfl,q _ _ (.same mo (.int _))⟩)
 .cases e1;cases s1
  exact US pins s σ H _ us Q I r (.inr ⟨_,rfl,q _ _ (.same mo (.int _))⟩)
 .cases e1
noncomputable def kj:Op1
 | .val (.int i)=>if i.natAbs.log2<1920 then Fk (.val (.str (toString i)))else uk
 |_=>uk
theorem Yo:HR X (.type "str") (rN X.K (o1 kj)):=by
 intro pins s σ H xs us Q I r h
 obtain⟨M,ws,w,e,mo,sh,q⟩:=h
 obtain⟨v,w1,rfl,rfl,s1,e1⟩:=LX sh e
 unfold kj at e1
 split at e1
 .split at e1
  .cases e1;cases s1
   exact UL pins s σ H _ us Q I r ⟨_,rfl,by assumption,q _ _ (.same mo (.str _))⟩
  .cases e1
 .cases e1
noncomputable def blD:D->uo vm
 | .bl b=>Fk b
 |_=>uk
noncomputable def bls(ds:Gc D):uo (Gc vm):=ds.mapM blD
theorem YY{K:Wp}{M:Ms}{H:Hp}:∀{vs:Gc V} {ds:Gc D} {bs:Gc vm},A6 K M H vs ds->bls ds=Fk bs->vs=bs.map V.bl
 |_,_,bs,.nil,e=>by cases e;rfl
 |_,_,bs,.cons (d:=d) (ds:=ds) h t,e=>by
  unfold bls at e
  rw[AAb]at e
  cases e1:blD d with
  |none=>rw[e1]at e;cases e
  |some b=>
   rw[e1]at e
   cases e2:ds.mapM blD with
   |none=>rw[e2]at e;cases e
   |some cs=>
    rw[e2]at e
    cases e
    have hd:d=.bl b:=by
     cases d<;>first|(cases e1;done)|skip
     cases e1;rfl
    subst hd
    cases h
    rw[vT,<-YY t e2]
noncomputable def bB:Op1:=λw=>(asL w).bind λds=>(bls ds).map λbs=>.val (.bl (bs.all id))
theorem Jn(hc:X.calm=true):HR X (.builtin "all") (rN X.K (o1 bB)):=by
 intro pins s σ H xs us Q I r h
 obtain⟨M,ws,w,e,mo,sh,q⟩:=h
 obtain⟨v,w1,rfl,rfl,s1,e1⟩:=LX sh e
 unfold bB at e1
 cases e2:asL w1 with
 |none=>rw[e2]at e1;cases e1
 |some ds=>
  rw[e2]at e1
  simp only[yv]at e1
  cases e3:bls ds with
  |none=>rw[e3]at e1;cases e1
  |some bs=>
   rw[e3]at e1
   cases e1
   obtain⟨a,ys,rfl,h3,h4⟩:=s1.l e2
   exact St.X6 hc pins s σ H _ us Q I r ⟨a,bs,rfl,by rw[<-YY h4 e3];exact .of h3,q _ _ (.same mo (.bl _))⟩
noncomputable def kdW:Wv->uo St.Kd
 | .own _=>Fk .lst
 | .val .non=>Fk .non| .val (.bl _)=>Fk .bl| .val (.int _)=>Fk .int| .val (.str _)=>Fk .str| .val (.lst _)=>Fk .lst| .val (.dct _)=>Fk .dct| .val (.tup _)=>Fk .tup
 | .val (.ty _)=>uk| .val (.scr _)=>uk| .val (.ref _)=>uk
end
section
variable{X:Cx}
theorem bO{K:Wp}(k:St.Kd):xn K (.type k.ty) (.type "list")=Fk (k.isA "list"):=by
 cases k<;>rfl
noncomputable def UW(T:xl):vm:=T== "int" ||T== "bool" ||T== "tuple" ||T== "str" ||T== "list"
theorem jf{K:Wp}{T:xl}(h:UW T=true)(k:St.Kd):xn K (.type k.ty) (.type T)=Fk (k.isA T):=by
 unfold UW at h
 simp only[wQ,zh]at h
 rcases h with(((rfl|rfl)|rfl)|rfl)|rfl
 .exact St.dN k
 .exact St.bf k
 .exact St.kit_tuple k
 .exact St.eO k
 .exact bO k
noncomputable def RD:Op2:=λa t=>match t with
 | .val (.ty T)=>if UW T=true then(kdW a).map λk=>.val (.bl (k.isA T))else uk
 |_=>uk
theorem C7:HR X (.builtin "isinstance") (rN X.K (o2 RD)):=by
 intro pins s σ H xs us Q I r h
 obtain⟨M,ws,w,e,mo,sh,q⟩:=h
 obtain⟨v,w1,v',w2,rfl,rfl,s1,s2,e1⟩:=Xr sh e
 unfold RD at e1
 split at e1
 .rename_i T
  split at e1
  .rename_i hT
   cases e2:kdW w1 with
   |none=>rw[e2]at e1;cases e1
   |some k=>
    rw[e2]at e1
    cases e1
    cases s2
    obtain⟨u1,u2,rfl,r1,r2⟩:=r.two
    cases (show u2=zZ T from r2)
    have fin:∀tk,EP X pins σ Q (.bool (k.isA T)) {s with toks:=tk}:=λtk=>⟨.bl _,H,I.tok tk,rfl,q _ _ (.same mo (.bl _))⟩
    have kk:=jf (K:=X.K) hT k
    cases w1 with
    |own ds=>
     cases e2
     obtain⟨a,ys,rfl,h1,_⟩:=s1
     exact IM I r1 (.lst h1) kk fin
    |val d=>
     have s1':FR X.K M H v d:=s1
     cases s1' with
     |non=>cases e2;exact IM I r1 .non kk fin
     |bl b=>cases e2;exact IM I r1 (.bl b) kk fin
     |int b=>cases e2;exact IM I r1 (.int b) kk fin
     |str b=>cases e2;exact IM I r1 (.str b) kk fin
     |ty b=>cases e2
     |scr h=>cases e2
     |lst h n rr=>cases e2;exact IM I r1 (.lst h) kk fin
     |dct h n rr=>cases e2;exact IM I r1 (.dK h) kk fin
     |ref h=>cases e2
     |tup h rr=>
      cases e2
      rename_i a ys ds
      cases (show u1=wN a from r1)
      obtain⟨its,_,⟨o,h1,h2,_⟩,_⟩:=I.tuple h
      exact wY AB9 I.kIn ⟨o,h1,h2⟩ kk (λz=>nomatch z) fin
  .cases e1
 .cases e1
noncomputable def Cw(fs:Gc Ev):Ev:=λE S=>(evs fs E S).bind λr=>if r.1.length<=sizeLine then Fk (.tup r.1,r.2)else uk
noncomputable def Z3(c:vm)(fs:Gc Ev):Ev:=λE S=>(evs fs E S).bind λr=>if r.1.length<=sizeLine then fin c (.own r.1) r.2 else uk
abbrev GX:=Z3 false
abbrev Ng:=Z3 true
theorem BC{es:Gc vU}{fs:Gc Ev}{k:Nat}{pos:Pos}(h:DEs X es fs):DE X (.Tuple es k pos) (Cw fs):=⟨CP (ju h.pe) λσ H Q z=>by
 obtain⟨M,E,S,d,S',e,r,st,q⟩:=z
 obtain⟨⟨ds,S1⟩,e1,e⟩:=BK e
 dsimp only at e
 split at e
 .cases e
  refine JG e1 r st λvs H1 M1 g1 st1 d1=>⟨by rw[d1.length];assumption,λp hp=>?_⟩
  have n:=Nw.tup st1.mo hp d1
  exact q _ _ M1 (g1.trans (.grow st1.mo n.grow)) (st1.grow n.grow) n.rel
 .cases e⟩
theorem Ba{c:vm}{es:Gc vU}{fs:Gc Ev}{pos:Pos}(h:DEs X es fs):DE X (.List es pos) (Z3 c fs):=⟨CP (kq h.pe) λσ H Q z=>by
 obtain⟨M,E,S,d,S',e,r,st,q⟩:=z
 obtain⟨⟨ds,S1⟩,e1,e⟩:=BK e
 dsimp only at e
 split at e
 .refine JG e1 r st λvs H1 M1 g1 st1 d1=>⟨by rw[d1.length];assumption,λp hp=>?_⟩
  obtain⟨M2,g2,st2,d2⟩:=(Nw.lst st1.mo hp d1).fin st1 e
  exact q _ _ M2 (g1.trans g2) st2 d2
 .cases e⟩
noncomputable def Iz(f g:Ev):Ev:=λE S=>(f E S).bind λr=>match r.1 with
 | .bl true=>g E r.2
 | .bl false=>Fk (.bl false,r.2)
 |_=>uk
noncomputable def eOr(f g:Ev):Ev:=λE S=>(f E S).bind λr=>match r.1 with
 | .bl false=>g E r.2
 | .bl true=>Fk (.bl true,r.2)
 |_=>uk
noncomputable def L4(f:Ev):Ev:=λE S=>(f E S).bind λr=>match r.1 with
 | .bl b=>Fk (.bl (!b),r.2)
 |_=>uk
noncomputable def eIf(c f g:Ev):Ev:=λE S=>(c E S).bind λr=>match r.1 with
 | .bl true=>f E r.2
 | .bl false=>g E r.2
 |_=>uk
theorem Wh{K:Wp}{M:Ms}{H:Hp}{v:V}{b:vm}(h:FR K M H v (.bl b)):v=.bl b:=by cases h;rfl
variable{a b c:vU}{rest:Gc vU}{f g h:Ev}{pos:Pos}
theorem JO{op:BoolOp}(h:DE X a f):DE X (.BoolOp op [a] pos) f:=⟨iP h.pe⟩
theorem Hn(ha:DE X a f)(hb:DE X (.BoolOp .And (b::rest) pos) g):DE X (.BoolOp .And (a::b::rest) pos) (Iz f g):=⟨CP (iX ha.pe hb.pe) λσ H Q z=>by
 obtain⟨M,E,S,d,S',e,r,st,q⟩:=z
 obtain⟨⟨d1,S1⟩,e1,e⟩:=BK e
 dsimp only at e
 refine⟨M,E,S,d1,S1,e1,r,st,λv H1 M1 g1 st1 r1=>?_⟩
 split at e
 .cases Wh r1
  refine⟨_,rfl,?_⟩
  refine eQ ?_
  exact⟨M1,E,S1,d,S',e,r.step g1.st,st1,λv H2 M2 g2 st2 r2=>q _ _ M2 (g1.trans g2) st2 r2⟩
 .cases e
  cases Wh r1
  refine⟨_,rfl,?_⟩
  refine fP ?_
  exact q _ _ M1 g1 st1 r1
 .cases e⟩
theorem WT(ha:DE X a f):DE X (.UnaryOp .Not a pos) (L4 f):=⟨CP (jU ha.pe) λσ H Q z=>by
 obtain⟨M,E,S,d,S',e,r,st,q⟩:=z
 obtain⟨⟨d1,S1⟩,e1,e⟩:=BK e
 dsimp only at e
 split at e
 .cases e
  refine⟨M,E,S,_,_,e1,r,st,λv H1 M1 g1 st1 r1=>?_⟩
  cases Wh r1
  exact⟨_,rfl,q _ _ M1 g1 st1 (.bl _)⟩
 .cases e⟩
noncomputable def tDT(K:Wp)(f:Ev):TT:=λσ H Q=>∃M E S b S',f E S=Fk (.bl b,S')/\EnR K M E σ H/\StR K M S H/\∀H' M',Gr M H M' H'->StR K M' S' H'->Q b H'
structure DT(X:Cx)(e:vU)(f:Ev):Prop where
 pe:PT X e (tDT X.K f)
structure DW(X:Cx)(e:vU)(f:Ev):Prop where
 pe:PW X e (tDT X.K f)
theorem DW.dt(h:DW X a f):DT X a f:=⟨PW.pt h.pe⟩
theorem gC{t:TE}(h:PT X a (lA t))(m:∀σ H Q,tD X.K f σ H Q->t σ H Q):DT X a f:=⟨Xz h λσ H Q z=>by
 obtain⟨M,E,S,b,S',e,r,st,q⟩:=z
 refine m _ _ _ ⟨M,E,S,_,S',e,r,st,λv H1 M1 g1 st1 r1=>?_⟩
 cases Wh r1
 exact⟨_,rfl,q _ M1 g1 st1⟩⟩
theorem Ep(h:DE X a f)(he:∀whole,isTrue a X.env whole=(do let v<-whole;standAt a.pos;holding [v] (truthy v)):=by intro _;rfl):DT X a f:=gC (t:=tD X.K f) (jc h.pe he) λ_ _ _ z=>z
theorem Ar{fa fb:Ev}{op:CmpOp}{f:Op2}(ho:OpR X (compareOp op) (rOp X.K f))(ha:DE X a fa)(hb:DE X b fb)(hm:behindInMarks op b=false:=by rfl):DT X (.Compare a [op] [b] pos) (eOp (o2 f) [fa,fb]):=
 gC (fm ho ha.pe hb.pe hm) λ_ _ _ h=>Vw h
theorem F5(ha:DT X a f):DT X (.UnaryOp .Not a pos) (L4 f):=⟨Xz (ky ha.pe) λσ H Q z=>by
 obtain⟨M,E,S,b,S',e,r,st,q⟩:=z
 obtain⟨⟨w1,S1⟩,e1,e⟩:=BK e
 dsimp only at e
 split at e
 .cases e
  exact⟨M,E,S,_,_,e1,r,st,q⟩
 .cases e⟩
theorem JY(ha:DT X a f):DW X (.BoolOp .And [a] pos) f:=⟨gm ha.pe⟩
theorem OK(ha:DT X a f):DW X (.BoolOp .Or [a] pos) f:=⟨kD ha.pe⟩
theorem Xl{e:vU}{t t':TT}(h:PW X e t)(m:∀σ H Q,t' σ H Q->t σ H Q):PW X e t':=λwh pins s σ H Q I q=>h wh pins s σ H Q I (m _ _ _ q)
theorem K9(ha:DT X a f)(hb:DW X (.BoolOp .And (b::rest) pos) g):DW X (.BoolOp .And (a::b::rest) pos) (Iz f g):=⟨Xl (ig ha.pe hb.pe) λσ H Q z=>by
 obtain⟨M,E,S,k,S',e,r,st,q⟩:=z
 obtain⟨⟨w1,S1⟩,e1,e⟩:=BK e
 dsimp only at e
 split at e
 .refine⟨M,E,S,_,S1,e1,r,st,λH1 M1 g1 st1=>?_⟩
  refine eQ ?_
  exact⟨M1,E,S1,k,S',e,r.step g1.st,st1,λH2 M2 g2 st2=>q _ M2 (g1.trans g2) st2⟩
 .cases e
  refine⟨M,E,S,_,_,e1,r,st,λH1 M1 g1 st1=>?_⟩
  refine fP ?_
  exact q _ M1 g1 st1
 .cases e⟩
theorem Um(ha:DT X a f)(hb:DW X (.BoolOp .Or (b::rest) pos) g):DW X (.BoolOp .Or (a::b::rest) pos) (eOr f g):=⟨Xl (pI ha.pe hb.pe) λσ H Q z=>by
 obtain⟨M,E,S,k,S',e,r,st,q⟩:=z
 obtain⟨⟨w1,S1⟩,e1,e⟩:=BK e
 dsimp only at e
 split at e
 .refine⟨M,E,S,_,S1,e1,r,st,λH1 M1 g1 st1=>?_⟩
  refine fP ?_
  exact⟨M1,E,S1,k,S',e,r.step g1.st,st1,λH2 M2 g2 st2=>q _ M2 (g1.trans g2) st2⟩
 .cases e
  refine⟨M,E,S,_,_,e1,r,st,λH1 M1 g1 st1=>?_⟩
  refine eQ ?_
  exact q _ M1 g1 st1
 .cases e⟩
theorem pW(hc:DT X c f)(ha:DE X a g)(hb:DE X b h):DE X (.IfExp c a b pos) (eIf f g h):=⟨CP (Zz hc.pe ha.pe hb.pe) λσ H Q z=>by
 obtain⟨M,E,S,d,S',e,r,st,q⟩:=z
 obtain⟨⟨w1,S1⟩,e1,e⟩:=BK e
 dsimp only at e
 split at e
 .refine⟨M,E,S,_,S1,e1,r,st,λH1 M1 g1 st1=>?_⟩
  refine eQ ?_
  exact⟨M1,E,S1,d,S',e,r.step g1.st,st1,λv H2 M2 g2 st2 r2=>q _ _ M2 (g1.trans g2) st2 r2⟩
 .refine⟨M,E,S,_,S1,e1,r,st,λH1 M1 g1 st1=>?_⟩
  refine fP ?_
  exact⟨M1,E,S1,d,S',e,r.step g1.st,st1,λv H2 M2 g2 st2 r2=>q _ _ M2 (g1.trans g2) st2 r2⟩
 .cases e⟩
end
inductive Fl where
 |nx
 |ret (d:D)
abbrev Ex:=En->Sto->uo (Fl×En×Sto)
def End(K:Wp)(M:Ms)(H:Hp)(Dn:Ends)(E':En)(S':Sto):Fl->Prop
 | .nx=>∀σ' H' M',Gr M H M' H'->EnR K M' E' σ' H'->StR K M' S' H'->Dn.nx σ' H'
 | .ret d=>∀v H' M',Gr M H M' H'->StR K M' S' H'->FR K M' H' v d->Dn.rt v H'
noncomputable def tX(K:Wp)(f:Ex):TS:=λDn σ H=>∃M E S fl E' S',f E S=Fk (fl,E',S')/\EnR K M E σ H/\StR K M S H/\End K M H Dn E' S' fl
structure DS(X:Cx)(st:vh)(f:Ex):Prop where
 pe:PS X st (tX X.K f)
structure DSs(X:Cx)(st:Gc vh)(f:Ex):Prop where
 pe:PSs X st (tX X.K f)
theorem IX{X:Cx}{e:vh}{t t':TS}(h:PS X e t)(m:∀Dn σ H,t' Dn σ H->t Dn σ H):PS X e t':=λpins s σ H Dn I q=>h pins s σ H Dn I (m _ _ _ q)
theorem V6{X:Cx}{e:Gc vh}{t t':TS}(h:PSs X e t)(m:∀Dn σ H,t' Dn σ H->t Dn σ H):PSs X e t':=λpins s σ H Dn I q=>h pins s σ H Dn I (m _ _ _ q)
theorem End.later{K:Wp}{M M1:Ms}{H H1:Hp}{Dn:Ends}{E':En}{S':Sto}{fl:Fl}(q:End K M H Dn E' S' fl)(g:Gr M H M1 H1):End K M1 H1 Dn E' S' fl:=by
 cases fl with
 |nx=>exact λσ' H' M' g' r st=>q σ' H' M' (g.trans g') r st
 |ret d=>exact λv H' M' g' st r=>q v H' M' (g.trans g') st r
noncomputable def Ad(f g:Ex):Ex:=λE S=>(f E S).bind λr=>match r.1 with
 | .nx=>g r.2.1 r.2.2
 | .ret w=>Fk (.ret w,r.2)
noncomputable def EI:Ex:=λE S=>Fk (.nx,E,S)
section
variable{X:Cx}{st:vh}{rest a b:Gc vh}{f g h:Ex}{c e:vU}{k:Ev}{pos:Pos}
theorem Ap:DSs X [] EI:=⟨V6 fN λDn σ H z=>by
 obtain⟨M,E,S,fl,E',S',e,r,st,q⟩:=z
 cases e
 exact q _ _ M (.refl st.mo) r st⟩
theorem AH(h1:DS X st f)(h2:DSs X rest g):DSs X (st::rest) (Ad f g):=⟨V6 (Vv h1.pe h2.pe) λDn σ H z=>by
 obtain⟨M,E,S,fl,E',S',e,r,st,q⟩:=z
 obtain⟨⟨f1,E1,S1⟩,e1,e⟩:=BK e
 dsimp only at e
 split at e
 .exact⟨M,E,S,.nx,E1,S1,e1,r,st,λσ1 H1 M1 g1 r1 st1=>⟨M1,E1,S1,fl,E',S',e,r1,st1,q.later g1⟩⟩
 .cases e
  exact⟨M,E,S,.ret _,_,_,e1,r,st,q⟩⟩
theorem AK(h1:DS X st f):DSs X [st] f:=⟨Vi h1.pe⟩
noncomputable def xIf(c:Ev)(f g:Ex):Ex:=λE S=>(c E S).bind λr=>match r.1 with
 | .bl true=>f E r.2
 | .bl false=>g E r.2
 |_=>uk
theorem CG(hc:DT X c k)(ha:DSs X a f)(hb:DSs X b g):DS X (.If c a b pos) (xIf k f g):=⟨IX (nZ hc.pe ha.pe hb.pe) λDn σ H z=>by
 obtain⟨M,E,S,fl,E',S',e,r,st,q⟩:=z
 obtain⟨⟨w1,S1⟩,e1,e⟩:=BK e
 dsimp only at e
 split at e
 .refine⟨M,E,S,_,S1,e1,r,st,λH1 M1 g1 st1=>?_⟩
  refine eQ ?_
  exact⟨M1,E,S1,fl,E',S',e,r.step g1.st,st1,q.later g1⟩
 .refine⟨M,E,S,_,S1,e1,r,st,λH1 M1 g1 st1=>?_⟩
  refine fP ?_
  exact⟨M1,E,S1,fl,E',S',e,r.step g1.st,st1,q.later g1⟩
 .cases e⟩
noncomputable def BE(k:Ev):Ex:=λE S=>(k E S).map λr=>(.ret r.1,E,r.2)
theorem AO(h:DE X e k):DS X (.Return (Fk e) pos) (BE k):=⟨IX (kf h.pe) λDn σ H z=>by
 obtain⟨M,E,S,fl,E',S',e,r,st,q⟩:=z
 obtain⟨⟨d,S1⟩,e1,e⟩:=NR e
 cases e
 exact⟨M,E,S,d,S1,e1,r,st,λv H1 M1 g1 st1 r1=>q _ _ M1 g1 st1 r1⟩⟩
end
section
variable{K:Wp}{M:Ms}{E:En}{σ:Sg}{H:Hp}{i:Nat}{d:D}{v:V}
theorem EnR.put(r:EnR K M E σ H)(rd:FR K M H v d):EnR K M (E.set i (Fk d)) (σ.set i (Fk v)) H:=by
 refine⟨by rw[xi,xi];exact r.len,λj e ej=>?_⟩
 by_cases h:i=j
 .subst h
  by_cases hi:i<E.length
  .rw[vJ hi]at ej
   cases ej
   exact⟨v,vJ (by rw[<-r.len];exact hi),rd⟩
  .rw[xu.mpr (by rw[xi];lia)]at ej;cases ej
 .rw[u3 h]at ej
  obtain⟨v',h1,h2⟩:=r.val j e ej
  exact⟨v',by rw[u3 h];exact h1,h2⟩
end
noncomputable def Bs(i:Nat)(k:Ev):Ex:=λE S=>(k E S).map λr=>(.nx,E.set i (Fk r.1),r.2)
theorem Ak{X:Cx}{e:vU}{k:Ev}{pos pos':Pos}(i:Nat){x:Str}(h:DE X e k)(hN:X.N.Nodup)(hi:X.N[i]?=Fk x:=by rfl)(hx:Loc X.env.scope x:=by first|exact Or.inl rfl|exact Or.inr rfl)(hs:swapsWith e (Fk (.Name x pos')) pos.line X.env=pure false:=by rfl)(hf:X.fn x=true\/X.env.scope.names.lookup x=Fk .local:=by first|exact .inl rfl|exact .inr rfl):DS X (.Assign [.Name x pos'] e pos) (Bs i k):=⟨
 IX (jm hN hi hx h.pe hs hf) λDn σ H z=>by
  obtain⟨M,E,S,fl,E',S',e,r,st,q⟩:=z
  obtain⟨⟨d,S1⟩,e1,e⟩:=NR e
  cases e
  exact⟨M,E,S,d,S1,e1,r,st,λv H1 M1 g1 st1 r1=>q _ _ M1 g1 ((r.step g1.st).put r1) st1⟩⟩
noncomputable def Ci(k:Ev):Ex:=λE S=>(k E S).map λr=>(.nx,E,r.2)
theorem BS{X:Cx}{e:vU}{k:Ev}{pos:Pos}(h:DE X e k)(hs:swapsWith e uk pos.line X.env=pure false:=by rfl):DS X (.Expr e pos) (Ci k):=⟨IX (Xo h.pe hs) λDn σ H z=>by
 obtain⟨M,E,S,fl,E',S',e,r,st,q⟩:=z
 obtain⟨⟨d,S1⟩,e1,e⟩:=NR e
 cases e
 exact⟨M,E,S,d,S1,e1,r,st,λv H1 M1 g1 st1 r1=>q _ _ M1 g1 (r.step g1.st) st1⟩⟩
noncomputable def GY(S:Sto)(n:Nat):uo (Gc D):=match S[n]? with
 |some (.lst ds)=>Fk ds
 |_=>uk
theorem Ez{S:Sto}{n:Nat}{ds:Gc D}(h:GY S n=Fk ds):S[n]?=Fk (.lst ds):=by
 unfold GY at h
 split at h
 .rename_i e
  cases h
  exact e
 .cases h
abbrev Mo:=Sto->Gc D->Gc D->uo (D×Gc D)
noncomputable def RC(op:Mo)(f:Ev)(fs:Gc Ev):Ev:=λE S=>(f E S).bind λr=>match r.1 with
 | .ref n=>(GY r.2 n).bind λ_=>(evs fs E r.2).bind λp=>(GY p.2 n).bind λds=>(op p.2 ds p.1).map λq=>(q.1,p.2.set n (.lst q.2))
 |_=>uk
def lP(K:Wp)(op:Mo):V->Gc V->Hp->VK->Prop:=λx vs H Q=>∃M S n a ds args d ds',x=.ref a/\M.cel[n]?=Fk a/\S[n]?=Fk (.lst ds)/\op S ds args=Fk (d,ds')/\StR K M S H/\A6 K M H vs args/\∀v H',StR K M (S.set n (.lst ds')) H'->Gr M H M H'->FR K M H' v d->Q v H'
section
variable{X:Cx}
theorem lC{op:Mo}{f:Ev}{fs:Gc Ev}{σ:Sg}{H:Hp}{Q:VK}(h:tD X.K (RC op f fs) σ H Q):tBM X.K "list" (lP X.K op) (tD X.K f) (tDs X.K fs) σ H Q:=by
 obtain⟨M,E,S,d,S',e,r,st,q⟩:=h
 obtain⟨⟨d1,S1⟩,e1,e⟩:=BK e
 dsimp only at e
 split at e
 .rename_i n
  obtain⟨ds0,e2,e⟩:=BK e
  obtain⟨⟨args,S2⟩,e3,e⟩:=BK e
  obtain⟨ds,e4,e⟩:=BK e
  obtain⟨⟨dd,ds'⟩,e5,e⟩:=NR e
  cases e
  refine⟨M,E,S,_,S1,e1,r,st,λv H1 M1 g1 st1 r1=>?_⟩
  cases r1 with
  |ref hc=>
   rename_i a
   obtain⟨xs,h1,h2⟩:=st1.cell n a _ hc (Ez e2)
   refine⟨.inl ⟨rfl,xs,.of h1⟩,?_⟩
   refine JG e3 (r.step g1.st) st1 λvs H2 M2 g2 st2 r2=>?_
   exact⟨M2,S2,n,a,ds,args,dd,ds',rfl,N2 g2.pre hc,Ez e4,e5,st2,r2,λv H3 st3 g3 r3=>q _ _ M2 ((g1.trans g2).trans g3) st3 r3⟩
 .cases e
theorem L9{id:xl}{name:Str}{o e:vU}{es:Gc vU}{op:Mo}{f:Ev}{fs:Gc Ev}{apos cpos:Pos}(slot:Slot "list" name id)(hty:typeOf (.builtin id)=pure (.type "method_descriptor"))(hm:MtR X id (lP X.K op))(ho:DE X o f)(ha:DEs X (e::es) fs)(hbase:attributeBase o name X.env (eval o X.env)=eval o X.env:=by rfl)(hfew:((backTo cpos (vP (e::es) X.env)).all (λx=> !x.1) && (backToKw cpos (keywordEach [] X.env)).all (λx=>x.1.isSome) && decide ((e::es).length+([]:Gc AAg).length+(if([]:Gc AAg).isEmpty then 0 else 1)<30))=true:=by rfl)(hline:(apos.endLine==cpos.line)=true:=by rfl)(hs:vP (e::es) X.env=(false,eval e X.env)::vP es X.env:=by rfl)(hplain:(backTo cpos (vP es X.env)).any (·.1)=false:=by rfl):DE X (.Call (.Attribute o name apos) (e::es) [] cpos) (RC op f fs):=⟨CP (pb PySem.F.plainAttrs_list slot hty hm ho.pe ha.pe hbase hfew hline hs hplain) λσ H Q z=>lC z⟩
noncomputable def R7:Mo
 |_,ds,[x]=>if ds.length<sizeLine then Fk (.non,ds++[x])else uk
 |_,_,_=>uk
theorem Wa{K:Wp}{M:Ms}{H:Hp}{vs:Gc V}{d:D}(h:A6 K M H vs [d]):∃v,vs=[v]/\FR K M H v d:=by
 cases h with
 |cons h t=>cases t;exact⟨_,rfl,h⟩
theorem KZ:MtR X "list.append" (lP X.K R7):=by
 intro pins s σ H x vs v us Q I rx rv h
 obtain⟨M,S,n,a,ds,args,d,ds',rfl,hc,hn,e,st,ra,q⟩:=h
 unfold R7 at e
 split at e
 .split at e
  .rename_i hz
   cases e
   obtain⟨xs,h1,h2⟩:=st.cell n a _ hc hn
   obtain⟨y,rfl,ry⟩:=Wa ra
   obtain⟨st2,g2⟩:=st.chg hc hn (h2.append (.cons ry .nil))
   exact Up pins s σ H _ _ v us Q I rx rv ⟨a,xs,y,rfl,rfl,h1,by rw[h2.length];exact hz,q _ _ st2 g2 .non⟩
  .cases e
 .cases e
end
noncomputable def RU(k f o:Ev):Ex:=λE S=>(k E S).bind λr=>(f E r.2).bind λb=>(o E b.2).bind λi=>match b.1,i.1 with
 | .ref n,.int j=>(GY i.2 n).bind λds=>(ixN ds.length j).map λm=>(.nx,E,i.2.set n (.lst (ds.set m r.1)))
 |_,_=>uk
theorem DY {X : Cx} {e t bs : vU} {k f o : Ev} {ps pos : Pos} (h : DE X e k) (hb : DE X bs f) (ht : DE X t o) (ha : ∀ v, assign (.Subscript bs t ps) X.env v = (do
      let ov ← holding [v] (eval bs X.env)
      let iv ← holding [v, ov] (eval t X.env)
      standAt ps
      holding [v, ov, iv] (setItem ov iv v)
      release [v, ov, iv] []) := by intro _; rfl)
    (hs : swapsWithSole [.Subscript bs t ps] e pos.line X.env = pure false := by rfl) (hw : swappedStores [.Subscript bs t ps] e X.env = pure none := by rfl)
    (h1 : (assignEach [.Subscript bs t ps] X.env).map (·.2) = [assign (.Subscript bs t ps) X.env] := by rfl) :
    DS X (.Assign [.Subscript bs t ps] e pos) (RU k f o) := ⟨
  IX (cG h.pe (lG hb.pe ht.pe set_list ha) hs hw h1) fun Dn σ H z => by
    obtain ⟨M, E, S, fl, E', S', e, r, st, q⟩ := z
    obtain ⟨⟨d, S1⟩, e1, e⟩ := BK e
    obtain ⟨⟨b, S2⟩, e2, e⟩ := BK e
    obtain ⟨⟨i, S3⟩, e3, e⟩ := BK e
    dsimp only at e e1 e2 e3
    split at e
    · rename_i n j _
      obtain ⟨ds, e4, e⟩ := BK e
      obtain ⟨m, e5, e⟩ := NR e
      cases e
      refine ⟨M, E, S, d, S1, e1, r, st, fun v H1 M1 g1 st1 r1 => ?_⟩
      refine ⟨M1, E, S1, _, S2, e2, r.step g1.st, st1, fun bv H2 M2 g2 st2 r2 => ?_⟩
      refine ⟨M2, E, S2, _, S3, e3, (r.step g1.st).step g2.st, st2, fun iv H3 M3 g3 st3 r3 => ?_⟩
      cases r3
      cases r2 with
      | ref hc =>
        rename_i a
        have hc3 := N2 g3.pre hc
        obtain ⟨xs, h1, h2⟩ := st3.cell n a _ hc3 (Ez e4)
        obtain ⟨st4, g4⟩ := st3.chg hc3 (Ez e4) (h2.set ((r1.step g2.st).step g3.st) m)
        have g := ((g1.trans g2).trans g3).trans g4
        exact ⟨a, xs, j, m, rfl, rfl, h1, by rw [h2.length]; exact e5, q _ _ M3 g (r.step g.st) st4⟩
    · cases e⟩
abbrev Fn:=Gc D->Sto->uo (D×Sto)
noncomputable def flD:Fl->D
 | .nx=>.non
 | .ret d=>d
noncomputable def A5(N:Nat)(body:Ex):Fn:=λds S=>(body (ds.map Fk++vC (N-ds.length) uk) S).map λr=>(flD r.1,r.2.2)
def Ao{α:Type}(a:α):α:=Classical.choose (⟨a,rfl⟩:∃x,x=a)
theorem Pm{α:Type}(a:α):Ao a=a:=Classical.choose_spec (⟨a,rfl⟩:∃x,x=a)
noncomputable def spD(K:Wp)(np:Nat)(f:Fn):Sp:=λvs H Q _=>∃M ds S d S',ds.length=np/\f ds S=Fk (d,S')/\A6 K M H vs ds/\StR K M S H/\∀v H' M',Gr M H M' H'->StR K M' S' H'->FR K M' H' v d->Q v H'
theorem UG{α:Type}{xs:Gc α}{i:Nat}{x:α}(h:(xs.map Fk)[i]?=Fk (Fk x)):xs[i]?=Fk x:=by
 rw[vG]at h
 cases e:xs[i]? with
 |none=>rw[e]at h;cases h
 |some y=>rw[e]at h;cases h;rfl
theorem ZP{α:Type}{xs:Gc (uo α)}{k i:Nat}{x:α}(h:(xs++vC k uk)[i]?=Fk (Fk x)):xs[i]?=Fk (Fk x):=by
 by_cases hi:i<xs.length
 .rw[uq hi]at h;exact h
 .rw[vo (by lia),AAy]at h
  split at h<;>cases h
theorem fS{α:Type}{xs:Gc (uo α)}{k i:Nat}{x:uo α}(h:xs[i]?=Fk x):(xs++vC k uk)[i]?=Fk x:=by
 rw[uq (vB.mp h).1];exact h
theorem EnR.args{K:Wp}{M:Ms}{H:Hp}{vs:Gc V}{ds:Gc D}(r:A6 K M H vs ds)(k:Nat):EnR K M (ds.map Fk++vC k uk) (vs.map Fk++vC k uk) H:=by
 refine⟨by simp[r.length],λi d e=>?_⟩
 obtain⟨v,h1,h2⟩:=r.get (UG (ZP e))
 exact⟨v,fS (by rw[vG,h1];rfl),h2⟩
section
variable{P:vR}{w:vi}{K:Wp}{mg:Str->uo W1}{base:ve}
theorem oA{x:Str}{st:vh}{f:uu}{fd:xH}{N ps:Gc Str}{k np:Nat}{b:Ex}(Fu:Fun K x x st f fd)(S:AQ N ps (AI st))(hp:ps.length=np)(hb:∀(cdv:W1) (A:vj) (outer:Gc wy) (s:ur) (H:Hp) (E:XK),JS k (A.deeper (v3 x (AI st) s.heap.objs.size f cdv))->DSs (OT CX0 P w K mg base N x (AI st) f cdv A outer s H E).nox (D3 st) b):WH P w K mg base CX0 (k+1) f fd ps (spD K np (Ao (A5 N.length b))):=by
 rw[Pm]
 refine Fu.ok S (λvs H Q E h=>?_) (λcdv A outer s H vs Q E hr h=>?_)
 .obtain⟨M,ds,S0,d,S',hl,_,r,_⟩:=h
  have:=r.length
  lia
 .obtain⟨M,ds,S0,d,S',hl,e,r,st,q⟩:=h
  have hlen:=r.length
  refine⟨_,(hb cdv A outer s H E hr).pe,?_⟩
  obtain⟨⟨fl,E',S1⟩,e1,e⟩:=NR e
  cases e
  refine⟨M,_,S0,fl,E',S1,e1,?_,st,?_⟩
  .rw[show L2.start N vs=vs.map Fk++vC (N.length-ds.length) uk from by unfold L2.start;rw[hlen]]
   exact .args r _
  .cases fl with
   |nx=>exact λσ' H' M' g _ st'=>q _ _ M' g st' .non
   |ret d=>exact λv H' M' g st' r'=>q _ _ M' g st' r'
theorem je{x:Str}{st:vh}{N ps:Gc Str}{k np:Nat}{b:Ex}(S:St.Src K mg x st)(sc:AQ N ps (AI st))(hp:ps.length=np)(hbi:∀f fd,Fun K x x st f fd->Binds K fd ps [])(hb:∀(f:uu) (cdv:W1) (A:vj) (outer:Gc wy) (s:ur) (H:Hp) (E:XK),JS k (A.deeper (v3 x (AI st) s.heap.objs.size f cdv))->DSs (OT CX0 P w K mg base N x (AI st) f cdv A outer s H E).nox (D3 st) b):St.Dfn P w K mg base x (k+1) ps (spD K np (Ao (A5 N.length b))):=by
 obtain⟨f,fd,Fu,hm⟩:=S.ex
 exact⟨f,fd,hm,Fu.kp,hbi f fd Fu,oA Fu sc hp λcdv A outer s H E hr=>hb f cdv A outer s H E hr⟩
end
noncomputable def AJ(f:Fn)(fs:Gc Ev):Ev:=λE S=>(evs fs E S).bind λr=>f r.1 r.2
theorem eY{K:Wp}{np:Nat}{f:Fn}{fs:Gc Ev}{σ:Sg}{H:Hp}{Q:VK}(hn:fs.length=np)(h:tD K (AJ f fs) σ H Q):fE (spD K np f) [] E0 (tDs K fs) σ H Q:=by
 obtain⟨M,E,S,d,S',e,r,st,q⟩:=h
 obtain⟨⟨ds,S1⟩,e1,e⟩:=BK e
 refine JG e1 r st λvs H1 M1 g1 st1 r1=>?_
 rw[xh]
 exact⟨M1,ds,S1,d,S',by rw[PL e1];exact hn,e,r1,st1,λv H2 M2 g2 st2 r2=>q _ _ M2 (g1.trans g2) st2 r2⟩
theorem dz{X:Cx}{k np:Nat}{x:Str}{ps:Gc Str}{f:Fn}{e:vU}{es:Gc vU}{fs:Gc Ev}{p pos:Pos}(d:St.Dfn X.prog X.w X.K X.mg X.base x k ps (spD X.K np f))(hr:JS k X.A)(hg:Gl X x)(ha:DEs X (e::es) fs)(hn:fs.length=np:=by rfl)(hdb:(x==("__debug__":Str))=false:=by decide)(he:vP (e::es) X.env=(false,eval e X.env)::vP es X.env:=by rfl)(hpl:(backTo pos (vP es X.env)).any (·.1)=false:=by rfl):DE X (.Call (.Name x p) (e::es) [] pos) (AJ f fs):=⟨CP (St.qP d hr hg ha.pe hdb he hpl) λσ H Q z=>eY hn z⟩
abbrev Tf:=D->En->Sto->uo En
noncomputable def tG(K:Wp)(t:Tf):TG:=λv σ H Q=>∃M d E E' S,t d E S=Fk E'/\EnR K M E σ H/\StR K M S H/\FR K M H v d/\∀σ',EnR K M E' σ' H->Q σ' H
structure DG(X:Cx)(tg:vU)(t:Tf):Prop where
 pe:PG X tg (tG X.K t)
noncomputable def tNm(i:Nat):Tf:=λd E _=>Fk (E.set i (Fk d))
theorem YS{X:Cx}{e:vU}{t t':TG}(h:PG X e t)(m:∀v σ H Q,t' v σ H Q->t v σ H Q):PG X e t':=λpins s σ H v u Q I r q=>h pins s σ H v u Q I r (m _ _ _ _ q)
theorem Ag{X:Cx}{pos:Pos}(i:Nat){x:Str}(hN:X.N.Nodup)(hi:X.N[i]?=Fk x:=by rfl)(hx:Loc X.env.scope x:=by first|exact Or.inl rfl|exact Or.inr rfl)(hf:X.fn x=true\/X.env.scope.names.lookup x=Fk .local:=by first|exact .inl rfl|exact .inr rfl):DG X (.Name x pos) (tNm i):=⟨YS (gd hN hi hx hf) λv σ H Q z=>by
 obtain⟨M,d,E,E',S,e,r,st,rd,q⟩:=z
 cases e
 exact q _ (r.put rd)⟩
noncomputable def tMs:Gc Tf->Gc D->En->Sto->uo En
 | [],[],E,_=>Fk E
 |t::ts,d::ds,E,S=>(t d E S).bind λE1=>tMs ts ds E1 S
 |_,_,_,_=>uk
noncomputable def tTp(ts:Gc Tf):Tf:=λd E S=>match d with
 | .tup ds=>tMs ts ds E S
 | .lst ds=>tMs ts ds E S
 | .ref n=>(GY S n).bind λds=>tMs ts ds E S
 |_=>uk
noncomputable def tGs(K:Wp):Gc Tf->TGs
 | []=>qj
 |t::ts=>iy (tG K t) (tGs K ts)
theorem V5{K:Wp}{M:Ms}{H:Hp}{S:Sto}(st:StR K M S H):∀{ts:Gc Tf} {ds:Gc D} {vs:Gc V} {E E':En} {σ:Sg} {Q:Sg->Hp->Prop},tMs ts ds E S=Fk E'->EnR K M E σ H->A6 K M H vs ds->(∀σ',EnR K M E' σ' H->Q σ' H)->tGs K ts vs σ H Q
 | [],[],_,E,E',σ,Q,e,r,rd,q=>by
   cases e
   cases rd
   exact⟨rfl,q _ r⟩
 |t::ts,d::ds,_,E,E',σ,Q,e,r,rd,q=>by
  obtain⟨E1,e1,e⟩:=BK e
  cases rd with
  |cons h1 h2=>exact⟨_,_,rfl,M,d,E,E1,S,e1,r,st,h1,λσ1 r1=>V5 st e r1 h2 q⟩
 | [],_::_,_,E,E',σ,Q,e,r,rd,q=>by cases e
 |_::_,[],_,E,E',σ,Q,e,r,rd,q=>by cases e
theorem TC:∀{ts:Gc Tf} {ds:Gc D} {E E':En} {S:Sto},tMs ts ds E S=Fk E'->ds.length=ts.length
 | [],[],_,_,_,_=>rfl
 |t::ts,d::ds,E,E',S,e=>by
  obtain⟨E1,e1,e⟩:=BK e
  simp[TC e]
 | [],_::_,_,_,_,e=>by cases e
 |_::_,[],_,_,_,e=>by cases e
structure DGs(X:Cx)(es:Gc vU)(ts:Gc Tf):Prop where
 pe:PGs X es (tGs X.K ts)
theorem Bj{X:Cx}:DGs X [] []:=⟨eK⟩
theorem AR{X:Cx}{e:vU}{es:Gc vU}{t:Tf}{ts:Gc Tf}(h:DG X e t)(g:DGs X es ts)(hs:(assignEach (e::es) X.env).map (·.2)=assign e X.env::(assignEach es X.env).map (·.2):=by rfl):DGs X (e::es) (t::ts):=⟨au h.pe g.pe hs⟩
theorem Fc{X:Cx}{k:Nat}{es:Gc vU}{ts:Gc Tf}{pos:Pos}(hc:X.calm=true)(h:DGs X es ts)(hn:(assignEach es X.env).length=ts.length:=by rfl)(hst:(assignEach es X.env).findIdx? (·.1)=none:=by rfl):DG X (.Tuple es k pos) (tTp ts):=⟨
 YS (kJ hc h.pe hn hst) λv σ H Q z=>by
  obtain⟨M,d,E,E',S,e,r,st,rd,q⟩:=z
  unfold tTp at e
  split at e
  .cases rd with
   |tup h1 h2=>exact⟨_,_,rfl,.inl h1,by rw[h2.length];exact TC e,V5 st e r h2 q⟩
  .cases rd with
   |lst h1 n h2=>exact⟨_,_,rfl,.inr h1,by rw[h2.length];exact TC e,V5 st e r h2 q⟩
  .obtain⟨ds,e1,e⟩:=BK e
   cases rd with
   |ref hc=>
    obtain⟨xs,h1,h2⟩:=st.cell _ _ _ hc (Ez e1)
    exact⟨_,_,rfl,.inr h1,by rw[h2.length];exact TC e,V5 st e r h2 q⟩
  .cases e⟩
noncomputable def Rv(t:Tf)(k:Ev):Ex:=λE S=>(k E S).bind λr=>(t r.1 E r.2).map λE'=>(.nx,E',r.2)
theorem IH{X:Cx}{tg e:vU}{t:Tf}{k:Ev}{pos:Pos}(h:DE X e k)(hg:DG X tg t)(hs:swapsWithSole [tg] e pos.line X.env=pure false:=by rfl)(hw:swappedStores [tg] e X.env=pure none:=by rfl)(h1:(assignEach [tg] X.env).map (·.2)=[assign tg X.env]:=by rfl):DS X (.Assign [tg] e pos) (Rv t k):=⟨IX (cG h.pe hg.pe hs hw h1) λDn σ H z=>by
 obtain⟨M,E,S,fl,E',S',e,r,st,q⟩:=z
 obtain⟨⟨d,S1⟩,e1,e⟩:=BK e
 obtain⟨E2,e2,e⟩:=NR e
 cases e
 exact⟨M,E,S,d,S1,e1,r,st,λv H1 M1 g1 st1 r1=>⟨M1,d,E,_,S1,e2,r.step g1.st,st1,r1,λσ' r2=>q _ _ M1 g1 r2 st1⟩⟩⟩
noncomputable def WO(i j:Nat)(f g:Ev):Ex:=λE S=>(evs [f,g] E S).bind λr=>match r.1 with
 | [d,d']=>Fk (.nx,(E.set i (Fk d)).set j (Fk d'),r.2)
 |_=>uk
theorem OQ{X:Cx}{i j:Nat}{x y:Str}{a b:vU}{f g:Ev}{px py pt:Pos}{kt k2:Nat}{pt2 pos:Pos}(hc:X.calm=true)(hN:X.N.Nodup)(hi:X.N[i]?=Fk x)(hj:X.N[j]?=Fk y)(hij:i≠j)(hx:X.env.scope.names.lookup x=Fk .local)(hy:X.env.scope.names.lookup y=Fk .local)(ha:DE X a f)(hb:DE X b g)(hw:swappedStores [.Tuple [.Name x px,.Name y py] kt pt] (.Tuple [a,b] k2 pt2) X.env=pure (Fk [x,y]):=by rfl)(hsa:vP [a,b] X.env=(false,eval a X.env)::vP [b] X.env:=by rfl)(hsb:vP [b] X.env=(false,eval b X.env)::vP [] X.env:=by rfl)(hs:swapsWithSole [.Tuple [.Name x px,.Name y py] kt pt] (.Tuple [a,b] k2 pt2) pos.line X.env=pure false:=by rfl):DS X (.Assign [.Tuple [.Name x px,.Name y py] kt pt] (.Tuple [a,b] k2 pt2) pos) (WO i j f g):=⟨by
 refine IX (kH hc hN hi hj hij hx hy (SQ ha.pe (SQ hb.pe X8 hsb) hsa) hw hs) λDn σ H z=>?_
 obtain⟨M,E,S,fl,E',S',e,r,st,q⟩:=z
 obtain⟨⟨ds,S1⟩,e1,e⟩:=BK e
 refine JG (K:=X.K) (fs:=[f,g]) e1 r st λvs H1 M1 g1 st1 r1=>?_
 dsimp only at e
 split at e
 .rename_i d d'
  cases e
  cases r1 with
  |cons h1 t=>
   cases t with
   |cons h2 t=>
    cases t
    exact⟨_,_,rfl,q _ _ M1 g1 (((r.step g1.st).put h1).put h2) st1⟩
 .cases e⟩
noncomputable def MA:Ex:=λ_ _=>uk
theorem KY{X:Cx}{st:vh}:DS X st MA:=⟨λ_ _ _ _ _ _ z=>by
 obtain⟨M,E,S,fl,E',S',e,_⟩:=z
 cases e⟩
abbrev Gd:=Gc (Nat×Gc D)
def gOk(gs:Gd)(S:Sto):Prop:=∀g∈gs,GY S g.1=Fk g.2
abbrev Sr:=En->Sto->uo ((Gc D×Gd)×Sto)
structure jx(K:Wp)(M:Ms)(H:Hp)(gs:Gd)(ds:Gc D)(J:It):Prop where
 go:∀(i:Nat) (H2:Hp) (M2:Ms) (S2:Sto),Sp1 M H M2 H2->StR K M2 S2 H2->gOk gs S2->i<ds.length->J.go i H2
 stop:∀(i:Nat) (H2:Hp) (M2:Ms) (S2:Sto),Sp1 M H M2 H2->StR K M2 S2 H2->gOk gs S2->ds.length<=i->J.stop i H2
 yld:∀(i:Nat) (H2:Hp) (M2:Ms) (S2:Sto) (x:V) (H3:Hp) (d:D),Sp1 M H M2 H2->StR K M2 S2 H2->gOk gs S2->ds[i]?=Fk d->J.yld i H2 x H3->(∀a o,H2 a=Fk o->H3 a=Fk o)/\FR K M2 H3 x d
noncomputable def tI(K:Wp)(s:Sr):TI:=λσ H R=>∃M E S ds gs S',s E S=Fk ((ds,gs),S')/\EnR K M E σ H/\StR K M S H/\∀J H' M',Gr M H M' H'->StR K M' S' H'->jx K M' H' gs ds J->R J H'
structure DI(X:Cx)(tg iter:vU)(s:Sr):Prop where
 pe:PI X tg iter (tI X.K s)
theorem TL{X:Cx}{tg e:vU}{t t':TI}(h:PI X tg e t)(m:∀σ H R,t' σ H R->t σ H R):PI X tg e t':=λpins s σ H R I q=>h pins s σ H R I (m _ _ _ q)
noncomputable def sx(K:Wp)(tl:TE):TI:=λσ H R=>tl σ H λx H1=>∃a,x=.ref a/\(((∃xs,SqL K H1 a xs)/\R (Itl K a) H1)\/((∃xs,SqT K H1 a xs)/\R (Itt K a) H1))
theorem jV{X:Cx}{tg l:vU}{tl:TE}(hl:PE X l tl):PI X tg l (sx X.K tl):=by
 intro pins s σ H R I h
 refine thn (hl pins s σ H _ I h) λv s1 ⟨x,H1,I1,r1,q1⟩=>?_
 obtain⟨a,e,q1⟩:=q1
 subst e
 cases r1
 rcases q1 with⟨⟨xs,hq⟩,q⟩|⟨⟨xs,hq⟩,q⟩
 .obtain⟨its,rv,p,hz⟩:=I1.list hq
  refine xJ p.isList ?_
  refine⟨s1.heap.objs.size,[s1.heap.objs.size],_,_,H1,rfl,I1.kept (t':=s1.toks) λb o e=>tz _ e,Yc a _,⟨_,vM _ rfl,rfl,rfl⟩,λb hb=>?_,q⟩
  have e:b=s1.heap.objs.size:=by simpa using hb
  subst e
  exact I1.gc (u4 _) (I1.hok.fresh (u4 _))
 .obtain⟨its,rv,p,hz⟩:=I1.tuple hq
  refine xD (show s1.heap.IsTuple a its.toArray from p) ?_
  refine⟨s1.heap.objs.size,[s1.heap.objs.size],_,_,H1,rfl,I1.kept (t':=s1.toks) λb o e=>tz _ e,XM a _,⟨_,vM _ rfl,rfl,rfl⟩,λb hb=>?_,q⟩
  have e:b=s1.heap.objs.size:=by simpa using hb
  subst e
  exact I1.gc (u4 _) (I1.hok.fresh (u4 _))
theorem A6.get'{K:Wp}{M:Ms}{H:Hp}{vs:Gc V}{ds:Gc D}{i:Nat}(h:A6 K M H vs ds)(hi:i<ds.length):∃x,vs[i]?=Fk x:=by
 have:=h.length
 exact⟨vs[i],ux (by omega)⟩
structure SqF(K:Wp)(M:Ms)(H:Hp)(gs:Gd)(k:vm)(a:uu)(ds:Gc D):Prop where
 keep:∀(H2:Hp) (M2:Ms) (S2:Sto),Sp1 M H M2 H2->StR K M2 S2 H2->gOk gs S2->∃xs,(if k=true then SqT K H2 a xs else SqL K H2 a xs)/\A6 K M2 H2 xs ds
noncomputable def sqD(S:Sto):D->uo (Gc D×Gd)
 | .tup ds=>Fk (ds,[])
 | .lst ds=>Fk (ds,[])
 | .ref n=>(GY S n).map λds=>(ds,[(n,ds)])
 | .scr ns=>Fk (ns.map .int,[])
 |_=>uk
theorem Wo{K:Wp}{M:Ms}{H:Hp}{S:Sto}{v:V}{d:D}{ds:Gc D}{gs:Gd}(st:StR K M S H)(h:FR K M H v d)(e:sqD S d=Fk (ds,gs)):∃k a,v=.ref a/\SqF K M H gs k a ds:=by
 cases h with
 |tup h r=>cases e;exact⟨true,_,rfl,⟨λH2 M2 S2 g _ _=>⟨_,g.sqT h,r.step g⟩⟩⟩
 |lst h n r=>cases e;exact⟨false,_,rfl,⟨λH2 M2 S2 g _ _=>⟨_,SqL.of (g.keep _ _ h n),r.step g⟩⟩⟩
 |scr h=>
  cases e
  refine⟨false,_,rfl,⟨λH2 M2 S2 g _ _=>⟨_,?_,Ou⟩⟩⟩
  rcases h with⟨h,n⟩|h
  .rcases h with h|⟨o,h⟩
   .exact .inl (.inl (g.keep _ _ h n))
   .exact .inl (.inr ⟨o,g.keep _ _ h n⟩)
  .exact .inr h
 |ref h=>
  obtain⟨es,e1,e⟩:=NR e
  cases e
  refine⟨false,_,rfl,⟨λH2 M2 S2 g st2 ok=>?_⟩⟩
  obtain⟨xs,h1,h2⟩:=st2.cell _ _ _ (N2 g.pre h) (Ez (ok _ (vQ.mpr rfl)))
  exact⟨xs,SqL.of h1,h2⟩
 |non=>cases e
 |bl b=>cases e
 |int b=>cases e
 |str b=>cases e
 |ty b=>cases e
 |dct h n r=>cases e
theorem pL{K:Wp}{M:Ms}{H:Hp}{gs:Gd}{k:vm}{a:uu}{ds:Gc D}(h:SqF K M H gs k a ds):jx K M H gs ds (if k=true then Itt K a else Itl K a):=by
 cases k with
 |true=>
  exact{
   go:=λi H2 M2 S2 g st ok hi=>let⟨xs,h1,h2⟩:=h.keep H2 M2 S2 g st ok;let⟨x,hx⟩:=h2.get' hi;⟨xs,x,h1,hx⟩
   stop:=λi H2 M2 S2 g st ok hi=>let⟨xs,h1,h2⟩:=h.keep H2 M2 S2 g st ok;⟨xs,h1,by have:=h2.length;omega⟩
   yld:=λi H2 M2 S2 x H3 d g st ok hd hy=>by
    obtain⟨xs,h1,h2⟩:=h.keep H2 M2 S2 g st ok
    obtain⟨rfl,hy⟩:=hy
    refine⟨λ_ _ e=>e,?_⟩
    have hx:=hy xs h1
    obtain⟨x',h3,h4⟩:=h2.get hd
    rw[hx]at h3;cases h3
    exact h4}
 |false=>
  exact{
   go:=λi H2 M2 S2 g st ok hi=>let⟨xs,h1,h2⟩:=h.keep H2 M2 S2 g st ok;let⟨x,hx⟩:=h2.get' hi;⟨xs,x,h1,hx⟩
   stop:=λi H2 M2 S2 g st ok hi=>let⟨xs,h1,h2⟩:=h.keep H2 M2 S2 g st ok;⟨xs,h1,by have:=h2.length;omega⟩
   yld:=λi H2 M2 S2 x H3 d g st ok hd hy=>by
    obtain⟨xs,h1,h2⟩:=h.keep H2 M2 S2 g st ok
    obtain⟨rfl,hy⟩:=hy
    refine⟨λ_ _ e=>e,?_⟩
    have hx:=hy xs h1
    obtain⟨x',h3,h4⟩:=h2.get hd
    rw[hx]at h3;cases h3
    exact h4}
noncomputable def JA(f:Ev):Sr:=λE S=>(f E S).bind λr=>(sqD r.2 r.1).map λp=>(p,r.2)
theorem TN{S:Sto}{d:D}{ds:Gc D}{gs:Gd}(e:sqD S d=Fk (ds,gs)):gOk gs S:=by
 cases d<;>first|(cases e;done)|skip
 all_goals first
  |(cases e;intro g hg;cases hg;done)
  |(obtain⟨es,e1,e⟩:=NR e
    cases e
    intro g hg
    rw[vQ.mp hg]
    exact e1)
theorem CM{X:Cx}{tg e:vU}{f:Ev}(h:DE X e f):DI X tg e (JA f):=⟨TL (jV h.pe) λσ H R z=>by
 obtain⟨M,E,S,ds,gs,S',e,r,st,q⟩:=z
 obtain⟨⟨d,S1⟩,e1,e⟩:=BK e
 obtain⟨⟨ds',gs'⟩,e2,e⟩:=NR e
 cases e
 refine⟨M,E,S,d,S1,e1,r,st,λv H1 M1 g1 st1 r1=>?_⟩
 obtain⟨k,a,rfl,sq⟩:=Wo st1 r1 e2
 obtain⟨xs,hs,_⟩:=sq.keep H1 M1 S1 (Gr.refl st1.mo).st st1 (TN e2)
 have it:=pL sq
 refine⟨a,rfl,?_⟩
 cases k with
 |true=>exact .inr ⟨⟨xs,hs⟩,q _ _ M1 g1 st1 it⟩
 |false=>exact .inl ⟨⟨xs,hs⟩,q _ _ M1 g1 st1 it⟩⟩
noncomputable def Mh(lo:Int)(n:Nat):Gc D:=(vS n).map λ(i:Nat)=>.int (lo+(i:Int))
theorem kG{K:Wp}{M:Ms}{H:Hp}{lo:Int}{n:Nat}:jx K M H [] (Mh lo n) (Itr lo n) where
 go:=λi H2 M2 S2 g st ok hi=>by
  have:i<n:=by unfold Mh at hi;simpa using hi
  exact this
 stop:=λi H2 M2 S2 g st ok hi=>by
  have:n<=i:=by unfold Mh at hi;simpa using hi
  exact this
 yld:=λi H2 M2 S2 x H3 d g st ok hd hy=>by
  obtain⟨rfl,rfl⟩:=hy
  refine⟨λ_ _ e=>e,?_⟩
  unfold Mh at hd
  rw[vG]at hd
  cases e:(vS n)[i]? with
  |none=>rw[e]at hd;cases hd
  |some j=>
   rw[e]at hd
   cases hd
   have:j=i:=by
    obtain⟨h1,h2⟩:=vB.mp e
    simpa using h2.symm
   subst this
   exact .int _
noncomputable def Ts(fs:Gc Ev):Sr:=λE S=>(evs fs E S).bind λr=>match r.1 with
 | [.int j]=>if(decide (-(2^62)<=j) && decide (j<2^62))=true then Fk ((Mh 0 j.toNat,[]),r.2)else uk
 | [.int i,.int j]=>if(decide (-(2^62)<=i) && decide (i<2^62) && decide (-(2^62)<=j) && decide (j<2^62))=true then Fk ((Mh i (j-i).toNat,[]),r.2)else uk
 |_=>uk
theorem Tc{K:Wp}{M:Ms}{H:Hp}{vs:Gc V}{j:Int}(h:A6 K M H vs [.int j]):vs=[.int j]:=by
 cases h with
 |cons h t=>cases t;cases h;rfl
theorem ZL{K:Wp}{M:Ms}{H:Hp}{vs:Gc V}{i j:Int}(h:A6 K M H vs [.int i,.int j]):vs=[.int i,.int j]:=by
 cases h with
 |cons h t=>cases h;cases Tc t;rfl
theorem IP{X:Cx}{tg a:vU}{o:Ev}{p pos:Pos}(hg:Gl X "range")(hm:X.mg "range"=uk)(ha:DEs X [a] [o])(hs:vP [a] X.env=[(false,eval a X.env)]:=by rfl):DI X tg (.Call (.Name "range" p) [a] [] pos) (Ts [o]):=⟨
 TL (YV hg hm ha.pe hs) λσ H R z=>by
  obtain⟨M,E,S,ds,gs,S',e,r,st,q⟩:=z
  obtain⟨⟨ws,S1⟩,e1,e⟩:=BK e
  have hl:=PL e1
  refine JG e1 r st λvs H1 M1 g1 st1 r1=>?_
  dsimp only at e
  split at e
  .split at e
   .rename_i j hk
    rw[vE]at hk
    cases e
    exact⟨j,Tc r1,vH hk.1,vH hk.2,q _ _ M1 g1 st1 kG⟩
   .cases e
  .simp at hl
  .cases e⟩
open Classical in
def Qd(gs:Gd)(t:Tf)(body:Ex):Gc D->En->Sto->uo (Fl×En×Sto)
 | [],E,S=>if gOk gs S then Fk (.nx,E,S)else uk
 |d::ds,E,S=>if gOk gs S then(t d E S).bind λE1=>(body E1 S).bind λr=>match r.1 with
  | .nx=>Qd gs t body ds r.2.1 r.2.2
  | .ret w=>Fk (.ret w,r.2)
  else uk
def Oq(s:Sr)(t:Tf)(body:Ex):Ex:=λE S=>(s E S).bind λr=>Qd r.1.2 t body r.1.1 E r.2
theorem UU{α:Type}{xs:Gc α}{i:Nat}{x:α}{r:Gc α}(h:xs.drop i=x::r):xs[i]?=Fk x/\xs.drop (i+1)=r/\i<xs.length:=by
 have hi:i<xs.length:=by
  by_cases hi:i<xs.length
  .exact hi
  .rw[xM (by omega)]at h;cases h
 rw[wH hi]at h
 cases h
 exact⟨ux hi,rfl,hi⟩
theorem Hb{X:Cx}{tg iter:vU}{body:Gc vh}{s:Sr}{t:Tf}{b:Ex}{pos:Pos}(hp:PassesOwn (model X.prog X.w) X.A X.env X.xe)(hc:X.calm=true)(hi:DI X tg iter s)(hg:DG X tg t)(hb:DSs X body b)(hs:∀x,foldedSetIterable iter X.env x=pure x:=by intro _;rfl):DS X (.For tg iter body [] pos) (Oq s t b):=⟨IX (kR hp hc hi.pe hg.pe hb.pe hs) λDn σ H z=>by
 obtain⟨M,E,S,fl,E',S',e,r,st,q⟩:=z
 obtain⟨⟨⟨ds,gs⟩,S1⟩,e1,e⟩:=BK e
 dsimp only at e
 refine⟨M,E,S,ds,gs,S1,e1,r,st,λJ H1 M1 g1 st1 it=>?_⟩
 refine⟨λi m σ' H'=>m=ds.length-i/\∃E2 S2 M2,Qd gs t b (ds.drop i) E2 S2=Fk (fl,E',S')/\Gr M1 H1 M2 H'/\EnR X.K M2 E2 σ' H'/\StR X.K M2 S2 H',⟨_,rfl,E,S1,M1,e,.refl st1.mo,r.step g1.st,st1⟩,λi m σ2 H2 hW=>?_⟩
 obtain⟨rfl,E2,S2,M2,e2,g2,r2,st2⟩:=hW
 cases ed:ds.drop i with
 |nil=>
  rw[ed]at e2
  unfold Qd at e2
  split at e2
  .rename_i ok
   cases e2
   left
   exact⟨it.stop i H2 M2 _ g2.st st2 ok (ABf.mp ed),q _ _ M2 (g1.trans g2) r2 st2⟩
  .cases e2
 |cons d rest=>
  obtain⟨d1,d2,d3⟩:=UU ed
  rw[ed]at e2
  unfold Qd at e2
  split at e2
  .rename_i ok
   obtain⟨E3,e3,e2⟩:=BK e2
   obtain⟨⟨f4,E4,S4⟩,e4,e2⟩:=BK e2
   dsimp only at e2
   right
   refine⟨it.go i H2 M2 S2 g2.st st2 ok d3,λσ' H'=>∃m',m'<ds.length-i/\(m'=ds.length-(i+1)/\∃E2 S2 M2,Qd gs t b (ds.drop (i+1)) E2 S2=Fk (fl,E',S')/\Gr M1 H1 M2 H'/\EnR X.K M2 E2 σ' H'/\StR X.K M2 S2 H'),λσ' H' z=>z,λx H3 hy=>?_⟩
   obtain⟨k3,rx⟩:=it.yld i H2 M2 S2 x H3 d g2.st st2 ok d1 hy
   have g3:Gr M2 H2 M2 H3:=.grow st2.mo k3
   refine⟨M2,d,E2,E3,S2,e3,r2.step g3.st,st2.grow k3,rx,λσ4 r4=>?_⟩
   refine⟨M2,E3,S2,f4,E4,S4,e4,r4,st2.grow k3,?_⟩
   split at e2
   .exact λσ6 H6 M6 g6 r6 st6=>⟨_,by omega,rfl,E4,S4,M6,by rw[d2];exact e2,(g2.trans g3).trans g6,r6,st6⟩
   .cases e2
    exact λv H6 M6 g6 st6 r6=>q _ _ M6 (((g1.trans g2).trans g3).trans g6) st6 r6
  .cases e2⟩
noncomputable def LM(c:Ev)(b:Ex):Nat->En->Sto->uo (Fl×En×Sto)
 |0,_,_=>uk
 |k+1,E,S=>(c E S).bind λr=>match r.1 with
  | .bl true=>(b E r.2).bind λp=>match p.1 with
    | .nx=>LM c b k p.2.1 p.2.2
    | .ret w=>Fk (.ret w,p.2)
  | .bl false=>Fk (.nx,E,r.2)
  |_=>uk
noncomputable def UE(fuel:En->Nat)(c:Ev)(b:Ex):Ex:=λE S=>LM c b (fuel E) E S
theorem Wq{X:Cx}{c:vU}{body:Gc vh}{k:Ev}{b:Ex}{pos:Pos}(fuel:En->Nat)(hp:PassesOwn (model X.prog X.w) X.A X.env X.xe)(hc:DT X c k)(hb:DSs X body b):DS X (.While c body [] pos) (UE fuel k b):=⟨
 IX (aS hp hc.pe hb.pe) λDn σ H z=>by
  obtain⟨M,E,S,fl,E',S',e,r,st,q⟩:=z
  refine⟨λm σ' H'=>∃E2 S2 M2,LM k b m E2 S2=Fk (fl,E',S')/\Gr M H M2 H'/\EnR X.K M2 E2 σ' H'/\StR X.K M2 S2 H',⟨fuel E,E,S,M,e,.refl st.mo,r,st⟩,λm σ2 H2 hW=>?_⟩
  obtain⟨E2,S2,M2,e2,g2,r2,st2⟩:=hW
  cases m with
  |zero=>cases e2
  |succ m=>
   obtain⟨⟨w3,S3⟩,e3,e2⟩:=BK e2
   dsimp only at e2
   split at e2
   .obtain⟨⟨f4,E4,S4⟩,e4,e2⟩:=BK e2
    refine⟨M2,E2,S2,true,S3,e3,r2,st2,λH3 M3 g3 st3=>?_⟩
    refine eQ ⟨λσ' H'=>∃m',m'<m+1/\∃E2 S2 M2,LM k b m' E2 S2=Fk (fl,E',S')/\Gr M H M2 H'/\EnR X.K M2 E2 σ' H'/\StR X.K M2 S2 H',λσ' H' z=>z,?_⟩
    refine⟨M3,E2,S3,f4,E4,S4,e4,r2.step g3.st,st3,?_⟩
    dsimp only at e2
    split at e2
    .exact λσ5 H5 M5 g5 r5 st5=>⟨m,by omega,E4,S4,M5,e2,(g2.trans g3).trans g5,r5,st5⟩
    .cases e2
     exact λv H5 M5 g5 st5 r5=>q _ _ M5 ((g2.trans g3).trans g5) st5 r5
   .cases e2
    refine⟨M2,_,S2,false,_,e3,r2,st2,λH3 M3 g3 st3=>?_⟩
    refine fP ?_
    exact q _ _ M3 (g2.trans g3) (r2.step g3.st) st3
   .cases e2⟩
noncomputable def XY(i:Nat):En->Nat:=λE=>match at? E i with
 |some (.int j)=>j.natAbs+2
 |_=>0
section
variable{K:Wp}{M M' M2:Ms}{H H' H2:Hp}{S:Sto}
structure GrX(M:Ms)(H:Hp)(M':Ms)(H':Hp):Prop where
 pre:M.cel <+: M'.cel
 fresh:∀a,a∈M'.cel->a∈M.cel\/H a=uk
 keep:∀a o,H a=Fk o->a∉M.cel->H' a=Fk o
 some:∀a,H a≠uk->H' a≠uk
theorem GrX.none(g:GrX M H M' H'){a:uu}(h:H' a=uk):H a=none:=by
 cases e:H a with
 |none=>rfl
 |some o=>exact absurd h (g.some a (by rw[e];intro z;cases z))
theorem Gr.x(g:Gr M H M' H'):GrX M H M' H':=⟨g.pre,g.fresh,g.keep,g.some⟩
theorem GrX.trans(h:GrX M H M' H')(g:GrX M' H' M2 H2):GrX M H M2 H2:=
 ⟨h.pre.trans g.pre,λa z=>(g.fresh a z).elim (h.fresh a) λz=>.inr (h.none z),λa o e n=>g.keep a o (h.keep a o e n) (λz=>by
   rcases h.fresh a z with z|z
   .exact n z
   .rw[e]at z;cases z),λa e=>g.some a (h.some a e)⟩
theorem StR.kF(r:StR K M S H){a:uu}(e:H a=uk):StR K ⟨M.cel,a::M.tmp⟩ S (upd H a (.lst []))/\GrX M H ⟨M.cel,a::M.tmp⟩ (upd H a (.lst []))/\Sp1 M H ⟨M.cel,a::M.tmp⟩ (upd H a (.lst [])):=by
 have k:∀b o,H b=Fk o->upd H a (.lst []) b=Fk o:=KJ e
 have na:¬M.mem a:=λz=>r.mo.some z e
 have s1:Sp1 M H ⟨M.cel,a::M.tmp⟩ (upd H a (.lst [])):=⟨r.mo,wR,λb z=>by
  rcases z with z|z
  .exact .inl (.inl z)
  .rcases uw.mp z with z|z
   .subst z;exact .inr e
   .exact .inl (.inr z),λb o eb _=>k b o eb⟩
 refine⟨⟨λb z=>?_,r.nd,λb hb z=>?_,r.len,λn b c h1 h2=>?_⟩,⟨wR,λb z=>.inl z,λb o eb _=>k b o eb,λb eb z=>?_⟩,s1⟩
 .by_cases h:b=a
  .subst h;exact .inl ⟨[],Br⟩
  .rw[Au h]
   refine r.mo b ?_
   rcases z with z|z
   .exact .inl z
   .rcases uw.mp z with z|z
    .exact absurd z h
    .exact .inr z
 .rcases uw.mp hb with hb|hb
  .subst hb;exact na (.inl z)
  .exact r.nt b hb z
 .have q:=r.cell n b c h1 h2
  cases c with
  |lst ds=>obtain⟨xs,e,rr⟩:=q;exact⟨xs,k _ _ e,rr.step s1⟩
  |dct ds=>obtain⟨xs,e,rr⟩:=q;exact⟨xs,k _ _ e,rr.step s1⟩
  |tab ds=>obtain⟨xs,e,rr⟩:=q;exact⟨xs,k _ _ e,rr.step s1⟩
 .cases h:H b with
  |none=>exact eb h
  |some o=>rw[k b o h]at z;cases z
theorem StR.gQ(r:StR K M S H){a:uu}{ys:Gc V}(ha:a∈M.tmp):StR K M S (upd H a (.lst ys))/\Sp1 M H M (upd H a (.lst ys)):=by
 have s1:Sp1 M H M (upd H a (.lst ys)):=⟨r.mo,wR,λb z=>.inl z,λb o eb nb=>by rw[Au (λz=>nb (by rw[z];exact .inr ha))];exact eb⟩
 refine⟨⟨λb z=>?_,r.nd,r.nt,r.len,λn b c h1 h2=>?_⟩,s1⟩
 .by_cases h:b=a
  .subst h;exact .inl ⟨ys,Br⟩
  .rw[Au h];exact r.mo b z
 .have hb:b≠a:=λz=>r.nt a ha (by rw[<-z];exact vL h1)
  have q:=r.cell n b c h1 h2
  cases c with
  |lst ds=>obtain⟨xs,e,rr⟩:=q;exact⟨xs,by rw[Au hb];exact e,rr.step s1⟩
  |dct ds=>obtain⟨xs,e,rr⟩:=q;exact⟨xs,by rw[Au hb];exact e,rr.step s1⟩
  |tab ds=>obtain⟨xs,e,rr⟩:=q;exact⟨xs,by rw[Au hb];exact e,rr.step s1⟩
theorem StR.hU{c:Gc uu}{t:Gc uu}{a:uu}{xs:Gc V}{ds:Gc D}{cf:vm}{d:D}{S':Sto}(r:StR K ⟨c,a::t⟩ S H)(nt:a∉t)(e:H a=Fk (.lst xs))(rr:A6 K ⟨c,a::t⟩ H xs ds)(ef:fin cf (.own ds) S=Fk (d,S')):∃c',StR K ⟨c',t⟩ S' H/\FR K ⟨c',t⟩ H (.ref a) d/\c <+: c'/\(∀b∈c',b∈c\/b=a):=by
 have nc:a∉c:=r.nt a vA
 cases cf with
 |false=>
  cases ef
  have s1:Sp1 ⟨c,a::t⟩ H ⟨c,t⟩ H:=⟨r.mo,wR,λb z=>.inl (z.imp id (uv _)),λ_ _ e _=>e⟩
  refine⟨c,⟨λb z=>r.mo b (z.imp id (uv _)),r.nd,λb hb=>r.nt b (uv _ hb),r.len,λn b cl h1 h2=>?_⟩,.lst e (λz=>z.elim nc nt) (rr.step s1),wR,λb z=>.inl z⟩
  have q:=r.cell n b cl h1 h2
  cases cl with
  |lst ds=>obtain⟨xs,e,rr⟩:=q;exact⟨xs,e,rr.step s1⟩
  |dct ds=>obtain⟨xs,e,rr⟩:=q;exact⟨xs,e,rr.step s1⟩
  |tab ds=>obtain⟨xs,e,rr⟩:=q;exact⟨xs,e,rr.step s1⟩
 |true=>
  cases ef
  have s1:Sp1 ⟨c,a::t⟩ H ⟨c++[a],t⟩ H:=⟨r.mo,yW _ _,λb z=>by
   rcases z with z|z
   .rcases vY.mp z with z|z
    .exact .inl (.inl z)
    .exact .inl (.inr (by rw[vQ.mp z];exact vA))
   .exact .inl (.inr (uv _ z)),λ_ _ e _=>e⟩
  have hl:c.length=S.length:=r.len
  refine⟨c++[a],⟨λb z=>?_,?_,λb hb z=>?_,by simp[hl],λn b cl h1 h2=>?_⟩,.ref ?_,yW _ _,λb z=>?_⟩
  .refine r.mo b ?_
   rcases z with z|z
   .rcases vY.mp z with z|z
    .exact .inl z
    .exact .inr (by rw[vQ.mp z];exact vA)
   .exact .inr (uv _ z)
  .rw[yi]
   refine⟨r.nd,by simp,λx hx y hy z=>?_⟩
   simp at hy;subst hy
   exact nc (by rw[<-z];exact hx)
  .rcases vY.mp z with z|z
   .exact r.nt b (uv _ hb) z
   .rw[vQ.mp z]at hb;exact nt hb
  .by_cases h:n<S.length
   .rw[uq (by rw[hl];exact h)]at h1
    rw[uq h]at h2
    have q:=r.cell n b cl h1 h2
    cases cl with
    |lst ds=>obtain⟨xs,e,rr⟩:=q;exact⟨xs,e,rr.step s1⟩
    |dct ds=>obtain⟨xs,e,rr⟩:=q;exact⟨xs,e,rr.step s1⟩
    |tab ds=>obtain⟨xs,e,rr⟩:=q;exact⟨xs,e,rr.step s1⟩
   .have hm:n=S.length:=by
     have:=(vB.mp h2).1
     simp at this;omega
    subst hm
    rw[vo (by rw[hl];exact u4 _)]at h1
    rw[vo (u4 _)]at h2
    rw[hl]at h1
    simp at h1 h2
    subst h1 h2
    exact⟨xs,e,rr.step s1⟩
  .rw[<-hl];exact vK
  .rcases vY.mp z with z|z
   .exact .inl z
   .exact .inr (vQ.mp z)
end
open Classical in
def C8(gs:Gd)(t:Tf)(c:Ev)(f:Ev):Gc D->Gc D->En->Sto->uo (Gc D×Sto)
 | [],acc,_,S=>if gOk gs S then Fk (acc,S)else uk
 |d::ds,acc,E,S=>if gOk gs S then(if acc.length<sizeLine then(t d E S).bind λE1=>(c E1 S).bind λr=>match r.1 with
   | .bl true=>(f E1 r.2).bind λp=>C8 gs t c f ds (acc++[p.1]) E1 p.2
   | .bl false=>C8 gs t c f ds acc E1 r.2
   |_=>uk
  else uk)else uk
noncomputable def Ca:Ev:=λ_ S=>Fk (.bl true,S)
noncomputable def Qi(cap:Gc Nat)(m:Nat)(E:En):En:=cap.map (at? E)++vC m uk
def RJ(cf:vm)(cap:Gc Nat)(m:Nat)(s:Sr)(t:Tf)(c:Ev)(f:Ev):Ev:=λE S=>(s E S).bind λr=>(C8 r.1.2 t c f r.1.1 [] (Qi cap m E) r.2).bind λq=>fin cf (.own q.1) q.2
noncomputable abbrev Dp:=RJ false
noncomputable abbrev UM:=RJ true
noncomputable def ixC(cap:Gc Nat)(m:Nat):Gc (uo Nat):=cap.map Fk++vC m uk
theorem EnR.cap{K:Wp}{M:Ms}{E:En}{σ:Sg}{H:Hp}(r:EnR K M E σ H)(cap:Gc Nat)(m:Nat):EnR K M (Qi cap m E) (sig (ixC cap m) σ) H:=by
 unfold Qi sig ixC
 refine⟨by simp,λi d e=>?_⟩
 have h1:=ZP e
 rw[vG]at h1
 cases e1:cap[i]? with
 |none=>rw[e1]at h1;cases h1
 |some j=>
  rw[e1]at h1
  have h2:at? E j=Fk d:=by simpa using h1
  obtain⟨v,hv,rd⟩:=r.val j d (at?_some h2)
  refine⟨v,?_,rd⟩
  have hi:i<cap.length:=(vB.mp e1).1
  rw[yc,uq (by simpa using hi),vG,vG,e1]
  show Fk ((σ[j]?).join)=Fk (Fk v)
  rw[hv]
  rfl
theorem ZA{K:Wp}{cf:vm}{cap:Gc Nat}{m:Nat}{s:Sr}{t:Tf}{c f:Ev}{σ:Sg}{H:Hp}{Q:VK}(h:tD K (RJ cf cap m s t c f) σ H Q):fL (ixC cap m) (tI K s) (tG K t) (tDT K c) (tD K f) σ H Q:=by
 obtain⟨M,E,S,d,S',e,r,st,q⟩:=h
 obtain⟨⟨⟨ds,gs⟩,S1⟩,e1,e⟩:=BK e
 obtain⟨⟨accf,Sf⟩,e3,e⟩:=BK e
 dsimp only at e e3
 refine⟨M,E,S,ds,gs,S1,e1,r,st,λJ H1 M1 g1 st1 it A0 hD=>?_⟩
 obtain⟨st0,gx0,s0⟩:=st1.kF hD
 have nt:A0∉M1.tmp:=λz=>st1.mo.some (.inr z) hD
 refine⟨λi mm σ' H' ys=>mm=ds.length-i/\∃Ei Si Mi acc,C8 gs t c f (ds.drop i) acc Ei Si=Fk (accf,Sf)/\GrX M1 H1 Mi H'/\Mi.tmp=A0::M1.tmp/\EnR K Mi Ei σ' H'/\StR K Mi Si H'/\H' A0=Fk (.lst ys)/\A6 K Mi H' ys acc,
  ⟨_,rfl,_,S1,_,[],e3,gx0,rfl,((r.step g1.st).step s0).cap cap m,st0,Br,.nil⟩,λi mm σ2 H2 ys hW=>?_⟩
 obtain⟨rfl,Ei,Si,Mi,acc,ec,gx,ht,r2,st2,hy,ry⟩:=hW
 have sp:Sp1 M1 H1 Mi H2:=⟨st1.mo,gx.pre,λa z=>by
  rcases z with z|z
  .exact(gx.fresh a z).imp .inl id
  .rw[ht]at z
   rcases uw.mp z with z|z
   .subst z;exact .inr hD
   .exact .inl (.inr z),λa o eo no=>gx.keep a o eo λz=>no (.inl z)⟩
 refine⟨hy,?_⟩
 cases ed:ds.drop i with
 |nil=>
  rw[ed]at ec
  unfold C8 at ec
  split at ec
  .rename_i ok
   cases ec
   left
   obtain⟨ci,ti⟩:=Mi
   have ht':ti=A0::M1.tmp:=ht
   subst ht'
   obtain⟨c',st',rd',pr',sub'⟩:=st2.hU nt hy ry e
   refine⟨it.stop i H2 _ _ sp st2 ok (ABf.mp ed),q _ _ ⟨c',M1.tmp⟩ (g1.trans ⟨st1.mo,gx.pre.trans pr',rfl,λa z=>?_,gx.keep,gx.some⟩) st' rd'⟩
   rcases sub' a z with z|z
   .exact gx.fresh a z
   .subst z;exact .inr hD
  .cases ec
 |cons d rest=>
  obtain⟨d1,d2,d3⟩:=UU ed
  rw[ed]at ec
  unfold C8 at ec
  split at ec
  .rename_i ok
   split at ec
   .rename_i hz
    obtain⟨E3,e4,ec⟩:=BK ec
    obtain⟨⟨w5,S5⟩,e5,ec⟩:=BK ec
    right
    refine⟨it.go i H2 Mi Si sp st2 ok d3,by rw[ry.length];exact hz,λx H3 hyl=>?_⟩
    obtain⟨k3,rx⟩:=it.yld i H2 Mi Si x H3 d sp st2 ok d1 hyl
    have g3:Gr Mi H2 Mi H3:=.grow st2.mo k3
    have st3:=st2.grow k3
    refine⟨Mi,d,Ei,E3,Si,e4,r2.step g3.st,st3,rx,λσ4 r4=>?_⟩
    have hA:A0∈Mi.tmp:=by rw[ht];exact vA
    have hy3:H3 A0=Fk (.lst ys):=k3 _ _ hy
    have ry3:A6 K Mi H3 ys acc:=ry.step g3.st
    have fin:∀{E6:En} {S6:Sto} {M6:Ms} {H6:Hp} {zs:Gc V} {acc6:Gc D},C8 gs t c f rest acc6 E6 S6=Fk (accf,Sf)->GrX M1 H1 M6 H6->M6.tmp=A0::M1.tmp->EnR K M6 E6 σ4 H6->StR K M6 S6 H6->H6 A0=Fk (.lst zs)->A6 K M6 H6 zs acc6->
      ∃m',m'<ds.length-i/\(m'=ds.length-(i+1)/\∃Ei Si Mi acc,C8 gs t c f (ds.drop (i+1)) acc Ei Si=Fk (accf,Sf)/\GrX M1 H1 Mi H6/\Mi.tmp=A0::M1.tmp/\EnR K Mi Ei σ4 H6/\StR K Mi Si H6/\H6 A0=Fk (.lst zs)/\A6 K Mi H6 zs acc):=
     λ{E6 S6 M6 H6 zs acc6} ec g6 t6 r6 st6 h6 y6=>⟨_,by omega,rfl,E6,S6,M6,acc6,by rw[d2];exact ec,g6,t6,r6,st6,h6,y6⟩
    dsimp only at ec
    split at ec
    .obtain⟨⟨w7,S7⟩,e7,ec⟩:=BK ec
     refine⟨Mi,E3,Si,true,S5,e5,r4,st3,λH5 M5 g5 st5=>?_⟩
     refine eQ ?_
     refine⟨M5,E3,S5,w7,S7,e7,r4.step g5.st,st5,λy H7 M7 g7 st7 d7=>?_⟩
     have nA:∀{M6:Ms} {H6:Hp} {S6:Sto},StR K M6 S6 H6->A0∈M6.tmp->A0∉M6.cel:=λr6 h6=>r6.nt A0 h6
     have hA5:A0∈M5.tmp:=by rw[g5.tmp];exact hA
     have hA7:A0∈M7.tmp:=by rw[g7.tmp];exact hA5
     have hy5:H5 A0=Fk (.lst ys):=g5.keep _ _ hy3 (nA st3 hA)
     have hy7:H7 A0=Fk (.lst ys):=g7.keep _ _ hy5 (nA st5 hA5)
     have ry7:A6 K M7 H7 ys acc:=(ry3.step g5.st).step g7.st
     refine⟨hy7,?_⟩
     obtain⟨st8,s8⟩:=st7.gQ (ys:=ys++[y]) hA7
     have gx7:GrX M1 H1 M7 H7:=((gx.trans g3.x).trans g5.x).trans g7.x
     have gx8:GrX M1 H1 M7 (upd H7 A0 (.lst (ys++[y]))):=⟨gx7.pre,gx7.fresh,λa o eo no=>by
      rw[Au (λz=>by subst z;rw[hD]at eo;cases eo)]
      exact gx7.keep a o eo no,λa ea=>by
      by_cases h:a=A0
      .subst h;rw[Br];intro z;cases z
      .rw[Au h];exact gx7.some a ea⟩
     exact fin ec gx8 (by rw[g7.tmp,g5.tmp];exact ht) (((r4.step g5.st).step g7.st).step s8) st8 Br ((ry7.append (.cons d7 .nil)).step s8)
    .refine⟨Mi,E3,Si,false,S5,e5,r4,st3,λH5 M5 g5 st5=>?_⟩
     refine fP ?_
     exact fin ec ((gx.trans g3.x).trans g5.x) (by rw[g5.tmp];exact ht) (r4.step g5.st) st5 (g5.keep _ _ hy3 (st3.nt A0 hA)) (ry3.step g5.st)
    .cases ec
   .cases ec
  .cases ec
structure DTs(X:Cx)(ifs:Gc vU)(c:Ev):Prop where
 pe:PTs X ifs (tDT X.K c)
theorem bT{X:Cx}{e:Gc vU}{t t':TT}(h:PTs X e t)(m:∀σ H Q,t' σ H Q->t σ H Q):PTs X e t':=λpins s σ H Q I q=>h pins s σ H Q I (m _ _ _ q)
theorem By{X:Cx}:DTs X [] Ca:=⟨bT fH λσ H Q z=>by
 obtain⟨M,E,S,b,S',e,r,st,q⟩:=z
 cases e
 exact q _ M (.refl st.mo) st⟩
theorem LF{X:Cx}{c:vU}{f:Ev}(h:DT X c f):DTs X [c] f:=⟨dw h.pe⟩
section
variable{X:Cx}{N':Gc Str}{cf:vm}{cap:Gc Nat}{m:Nat}{scope:wX}{elt tg iter:vU}{ifs:Gc vU}{pos:Pos}{s:Sr}{t:Tf}{c f:Ev}
def Blk(X:Cx)(N':Gc Str)(scope:wX)(tg:vU)(ifs:Gc vU)(elt:vU)(t:Tf)(c f:Ev):Prop:=
 ∀(s:ur) (H:Hp) (fp:Gc uu),DG (LD X N' scope s H fp) tg t/\DTs (LD X N' scope s H fp) ifs c/\DE (LD X N' scope s H fp) elt f
theorem Cg(cap:Gc Nat)(m:Nat)(N':Gc Str)(hc:X.calm=true)(S:AZ X.N X.env.scope N' (ixC cap m) scope)(hi:DI X tg iter s)(hb:Blk X N' scope tg ifs elt t c f)(hs:∀x,foldedSetIterable iter X.env x=pure x:=by intro _;rfl):DE X (.ListComp elt [⟨tg,iter,ifs,0⟩] scope pos) (RJ cf cap m s t c f):=⟨
 CP (g9 (g:=tG X.K t) (tc:=tDT X.K c) (te:=tD X.K f) hc S hi.pe (λs H fp=>⟨(hb s H fp).1.pe,(hb s H fp).2.1.pe,(hb s H fp).2.2.pe⟩) hs) λ_ _ _ h=>ZA h⟩
theorem Cs{i:Nat}{y:Str}{py spos:Pos}(cap:Gc Nat)(m:Nat)(N':Gc Str)(hc:X.calm=true)(hN:X.N.Nodup)(hi':X.N[i]?=Fk y)(hx:X.env.scope.names.lookup y=Fk .local)(S:AZ X.N X.env.scope N' (ixC cap m) scope)(hi:DI X tg iter s)(hb:Blk X N' scope tg ifs elt t c f)(hsw:swapsWith (.ListComp elt [⟨tg,iter,ifs,0⟩] scope pos) (Fk (.Name y py)) spos.line X.env=pure true:=by rfl)(hs:∀x,foldedSetIterable iter X.env x=pure x:=by intro _;rfl):DS X (.Assign [.Name y py] (.ListComp elt [⟨tg,iter,ifs,0⟩] scope pos) spos) (Bs i (RJ cf cap m s t c f)):=⟨
 IX (W2 (g:=tG X.K t) (tc:=tDT X.K c) (te:=tD X.K f) hc hN hi' hx S hi.pe (λs H fp=>⟨(hb s H fp).1.pe,(hb s H fp).2.1.pe,(hb s H fp).2.2.pe⟩) hsw hs) λDn σ H z=>by
  obtain⟨M,E,S,fl,E',S',e,r,st,q⟩:=z
  obtain⟨⟨d,S1⟩,e1,e⟩:=NR e
  cases e
  exact ZA ⟨M,E,S,d,S1,e1,r,st,λv H1 M1 g1 st1 r1=>q _ _ M1 g1 ((r.step g1.st).put r1) st1⟩⟩
end
noncomputable def Le{α:Type}(xs:Gc α)(lo hi:uo Int):Gc α:=(xs.drop (HT.sIx xs.length 0 lo)).take (HT.sIx xs.length xs.length hi-HT.sIx xs.length 0 lo)
theorem Xv{K:Wp}{M:Ms}{H:Hp}{xs:Gc V}{ds:Gc D}(h:A6 K M H xs ds)(lo hi:uo Int):A6 K M H (cb xs lo hi) (Le ds lo hi):=by
 unfold cb Le
 rw[h.length]
 exact(h.drop _).take _
theorem Yl{α:Type}{xs:Gc α}{lo hi:uo Int}(h1:HT.sIx xs.length 0 lo=0)(h2:HT.sIx xs.length xs.length hi=xs.length):Le xs lo hi=xs:=by
 unfold Le
 rw[h1,h2]
 simp
noncomputable def wSl(lo hi:uo Int):Op1:=λw=>match w with
 | .val (.tup ds)=>Fk (.val (.tup (Le ds lo hi)))
 | .val (.str z)=>if z.length<=sizeLine then Fk (.val (.str (Txt.slice z lo hi)))else uk
 |w=>(asL w).map λds=>.own (Le ds lo hi)
def sH(K:Wp):V->uo Int->uo Int->Hp->VK->Prop:=λx lo hi H Q=>∃M w r,wSl lo hi w=Fk r/\MOk M H/\Sh K M H x w/\∀v H',Nw K M H H' v r->Q v H'
theorem kM{X:Cx}:SlR X (λx lo hi H Q=>∃z,x=.str z/\z.length<=sizeLine/\Q (.str (Txt.slice z lo hi)) H):=by
 intro pins s σ H x v vl vu lo hi sl Q I rx hs pl pu h
 obtain⟨z,rfl,hz,q⟩:=h
 obtain⟨t,rfl⟩:=rx
 have fin:∀t' k,EP X pins σ Q (.str (Txt.slice z lo hi) t') {s with toks:=k}:=λt' k=>⟨.str _,H,I.tok k,⟨t',rfl⟩,q⟩
 cases pl with
 |none=>
  cases pu with
  |none=>exact⟨"str",_,yH.lookup,AAW _ _ _,yL (l:=uk) (u:=uk) (st:=uk) hs rfl (AAA ⟨uz (ABB z _ _) hz,fin⟩)⟩
  |int j u=>exact⟨"str",_,yH.lookup,AAW _ _ _,yL (l:=uk) (u:=Fk (j,u)) (st:=uk) hs rfl (AAA ⟨uz (ABB z _ _) hz,fin⟩)⟩
 |int i u'=>
  cases pu with
  |none=>exact⟨"str",_,yH.lookup,AAW _ _ _,yL (l:=Fk (i,u')) (u:=uk) (st:=uk) hs rfl (AAA ⟨uz (ABB z _ _) hz,fin⟩)⟩
  |int j u=>exact⟨"str",_,yH.lookup,AAW _ _ _,yL (l:=Fk (i,u')) (u:=Fk (j,u)) (st:=uk) hs rfl (AAA ⟨uz (ABB z _ _) hz,fin⟩)⟩
theorem ny{X:Cx}:SlR X (sH X.K):=by
 intro pins s σ H x v vl vu lo hi sl Q I rx hs pl pu h
 obtain⟨M,w,r,e,mo,sh,q⟩:=h
 unfold wSl at e
 split at e
 .rename_i ds
  cases e
  cases sh with
  |tup hx rr=>
   rename_i a xs
   have hl:=rr.length
   by_cases hw:HT.sIx xs.length 0 lo=0/\HT.sIx xs.length xs.length hi=xs.length
   .refine St.km pins s σ H _ v vl vu lo hi sl Q I rx hs pl pu ⟨a,xs,rfl,hx,hw.1,hw.2,?_⟩
    have ew:Le ds lo hi=ds:=Yl (by rw[<-hl];exact hw.1) (by rw[<-hl];exact hw.2)
    rw[ew]at q
    exact q _ _ (.same mo (.tup hx rr))
   .exact iS pins s σ H _ v vl vu lo hi sl Q I rx hs pl pu ⟨a,xs,rfl,hx,hw,λp hp=>q _ _ (.tup mo hp (Xv rr lo hi))⟩
 .split at e
  .cases e
   cases sh
   exact kM pins s σ H _ v vl vu lo hi sl Q I rx hs pl pu ⟨_,rfl,by assumption,q _ _ (.same mo (.str _))⟩
  .cases e
 .cases e1:asL w with
  |none=>rw[e1]at e;cases e
  |some ds=>
   rw[e1]at e
   cases e
   obtain⟨a,xs,rfl,h1,rr⟩:=sh.l e1
   exact eJ pins s σ H _ v vl vu lo hi sl Q I rx hs pl pu ⟨a,xs,rfl,.of h1,λp hp=>q _ _ (.lst mo hp (Xv rr lo hi))⟩
noncomputable def iF:Wv->uo Int
 | .val (.int i)=>Fk i
 |_=>uk
noncomputable def Lv(l h:vm):OpN:=λws=>match l,h,ws with
 |false,false,[a]=>wSl uk uk a
 |true,false,[a,b]=>(iF b).bind λi=>wSl (Fk i) uk a
 |false,true,[a,b]=>(iF b).bind λi=>wSl uk (Fk i) a
 |true,true,[a,b,c]=>(iF b).bind λi=>(iF c).bind λj=>wSl (Fk i) (Fk j) a
 |_,_,_=>uk
theorem Yk{K:Wp}{M:Ms}{H:Hp}{v:V}{w:Wv}{i:Int}(s:Sh K M H v w)(e:iF w=Fk i):v=.int i:=by
 cases w with
 |own ds=>cases e
 |val d=>
  cases d<;>first|(cases e;done)|skip
  cases e;cases s;rfl
section
variable{X:Cx}{e lo hi:vU}{oe ol oh:Ev}{c:vm}{pos p2:Pos}
theorem MX(h:DE X e oe)(hl:DE X lo ol):DE X (.Subscript e (.Slice (Fk lo) uk uk p2) pos) (Tt c (Lv true false) [oe,ol]):=⟨CP (SH ny h.pe (Tj hl.pe) Xj) λσ H Q z=>by
 obtain⟨M0,E,S0,w,S1,e,r,st,q⟩:=z
 have z:tD X.K oe σ H λx H1=>tD X.K ol σ H1 λy H2=>rN X.K (Lv true false) [x,y] H2 Q:=Rc (Q:=Q) e r st q
 refine Il z λx H1 z1=>Il z1 λy H2 z2=>?_
 obtain⟨M,ws,w',e1,mo,sh,q1⟩:=z2
 cases sh with
 |cons h1 t=>
  cases t with
  |cons h2 t=>
   cases t
   obtain⟨i,ei,e1⟩:=BK e1
   exact⟨i,Yk h2 ei,M,_,w',e1,mo,h1,q1⟩⟩
theorem J4(h:DE X e oe)(hh:DE X hi oh):DE X (.Subscript e (.Slice uk (Fk hi) uk p2) pos) (Tt c (Lv false true) [oe,oh]):=⟨CP (SH ny h.pe Xj (Tj hh.pe)) λσ H Q z=>by
 obtain⟨M0,E,S0,w,S1,e,r,st,q⟩:=z
 have z:tD X.K oe σ H λx H1=>tD X.K oh σ H1 λy H2=>rN X.K (Lv false true) [x,y] H2 Q:=Rc (Q:=Q) e r st q
 refine Il z λx H1 z1=>Il z1 λy H2 z2=>?_
 obtain⟨M,ws,w',e1,mo,sh,q1⟩:=z2
 cases sh with
 |cons h1 t=>
  cases t with
  |cons h2 t=>
   cases t
   obtain⟨i,ei,e1⟩:=BK e1
   exact⟨i,Yk h2 ei,M,_,w',e1,mo,h1,q1⟩⟩
theorem Y6{K:Wp}{M:Ms}{H:Hp}{S:Sto}{v:V}{d:D}{i:Int}(r:FR K M H v d)(e:iF (dr S d)=Fk i):v=.int i:=by
 cases r<;>first|(cases e;done)|skip
 .cases e;rfl
 .rename_i n h
  unfold dr at e
  dsimp only at e
  split at e<;>cases e
theorem gu(h:DE X e oe)(hl:DE X lo ol)(hh:DE X hi oh):DE X (.Subscript e (.Slice (Fk lo) (Fk hi) uk p2) pos) (Tt c (Lv true true) [oe,ol,oh]):=⟨CP (SH ny h.pe (Tj hl.pe) (Tj hh.pe)) λσ H Q z=>by
 obtain⟨M0,E,S0,w,S1,e,r,st,q⟩:=z
 obtain⟨⟨ds,S2⟩,e1,e⟩:=BK e
 obtain⟨w2,e2,e⟩:=BK e
 obtain⟨⟨d1,Sa⟩,ea,e1⟩:=BK e1
 obtain⟨⟨ds1,Sb⟩,eb,e1⟩:=NR e1
 cases e1
 obtain⟨⟨d2,Sc⟩,ec,eb⟩:=BK eb
 obtain⟨⟨ds2,Sd⟩,ed,eb⟩:=NR eb
 cases eb
 obtain⟨⟨d3,Se⟩,ee,ed⟩:=BK ed
 obtain⟨⟨ds3,Sf⟩,ef,ed⟩:=NR ed
 cases ed
 cases ef
 obtain⟨i,ei,e2⟩:=BK e2
 obtain⟨j,ej,e2⟩:=BK e2
 refine⟨M0,E,S0,d1,Sa,ea,r,st,λx H1 M1 g1 st1 r1=>?_⟩
 refine⟨M1,E,Sa,d2,Sc,ec,r.step g1.st,st1,λy H2 M2 g2 st2 r2=>⟨i,?_,?_⟩⟩
 .exact Y6 r2 ei
 refine⟨M2,E,Sc,d3,Se,ee,(r.step g1.st).step g2.st,st2,λu H3 M3 g3 st3 r3=>⟨j,?_,?_⟩⟩
 .exact Y6 r3 ej
 refine⟨M3,_,w2,e2,st3.mo,eG st3 ((r1.step g2.st).step g3.st),λv H4 n=>?_⟩
 obtain⟨M4,g4,st4,d4⟩:=n.fin st3 e
 exact q v H4 M4 (((g1.trans g2).trans g3).trans g4) st4 d4⟩
noncomputable def XX{α:Type}(xs:Gc α):Gc α:=(vS xs.length).filterMap λk=>xs[St.SU xs.length k]?
theorem dY{K:Wp}{M:Ms}{H:Hp}{xs:Gc V}{ds:Gc D}(h:A6 K M H xs ds):A6 K M H (XX xs) (XX ds):=by
 unfold XX
 rw[h.length]
 generalize vS ds.length=ks
 induction ks with
 |nil=>exact .nil
 |cons k ks ih=>
  rw[vc,vc]
  cases e:ds[St.SU ds.length k]? with
  |none=>
   have:xs[St.SU ds.length k]?=none:=by rw[xu]at e ⊢; rw[h.length];exact e
   rw[this]
   exact ih
  |some d=>
   obtain⟨x,h1,h2⟩:=h.get e
   rw[h1]
   exact .cons h2 ih
noncomputable def lJ:Op1
 | .val (.tup ds)=>Fk (.val (.tup (XX ds)))
 |_=>uk
noncomputable def om(K:Wp)(te:TE):TE:=λσ H Q=>te σ H λx H1=>∃a xs,x=.ref a/\SqT K H1 a xs/\∀p,H1 p=uk->Q (.ref p) (upd H1 p (.tup (XX xs)))
theorem eD{e:vU}{te:TE}{p1 p2 p3 pos:Pos}{k:Nat}(he:PE X e te):PE X (.Subscript e (.Slice uk uk (Fk (.UnaryOp .USub (.Constant (.int 1) k p1) p2)) p3) pos) (om X.K te):=by
 intro pins s σ H Q I h
 refine ABU (thn (he pins s σ H _ I h) λv s1 ⟨x,H1,I1,r1,q1⟩=>?_)
 obtain⟨a,xs,rfl,hx,q⟩:=q1
 cases r1
 refine wpAny_Slice ?_
 rw[AB3]
 refine vD (vD ?_)
 rw[evalPart_some]
 refine thn ((j8 (X:=X) cR (cm (i:=1) (j:=k) (pos:=p1)) (pos:=p2)) pins s1 σ H1 (λv H2=>v=.int (-1)/\H2=H1) I1 ⟨_,rfl,rfl,rfl⟩) λu s2 ⟨y,H2,I2,r2,ey,eh⟩=>?_
 subst ey eh
 obtain⟨tk,rfl⟩:=r2
 have I4:Inv X pins σ H2 {s2 with heap:=s2.heap.push {cls:=.type "slice",data:=.fields #[.none,.none,.int (-1) tk]}}:=I2.kept (t':=s2.toks) λb ob q=>tz _ q
 obtain⟨its,r,ht,hz⟩:=I4.tuple hx
 have hlen:its.toArray.size=xs.length:=by rw[vF];exact r.length.symm
 refine PyProof.Rows.tail_any (ops:=[.ref a,.ref s2.heap.objs.size]) ht.typeIs vg.lookup ?_ (by with_unfolding_all rfl)
 refine St.Nm ht (ACB ..) (by rw[hlen];exact hz) ?_
 have fr:=I4.hok.fresh (u4 _)
 refine⟨.ref _,_,I4.laid (o:=.tup (XX xs)) (λb ob q=>tz _ q) (u4 _) ?_,rfl,q _ fr⟩
 have:=St.Vals.pick r (St.SU xs.length) (vS xs.length)
 refine⟨?_,_,this,?_⟩
 .unfold XX
  refine uz (yG _ _) ?_
  rw[yh]
  exact hz
 .have e:((vS its.toArray.size).filterMap λk=>its.toArray[St.SU its.toArray.size k]?)=((vS xs.length).filterMap λk=>its[St.SU xs.length k]?):=by
   rw[hlen]
   congr 1
   funext k
   rw[List.getElem?_toArray]
  rw[e]
  exact xX _ _
theorem ji{p1 p3:Pos}{k:Nat}(h:DE X e oe):DE X (.Subscript e (.Slice uk uk (Fk (.UnaryOp .USub (.Constant (.int 1) k p1) p2)) p3) pos) (eOp (o1 lJ) [oe]):=⟨CP (eD h.pe) λσ H Q z=>by
 refine Il (Xk z) λx H1 z1=>?_
 obtain⟨M,w,r,e,mo,sh,q⟩:=z1
 unfold lJ at e
 split at e
 .cases e
  cases sh with
  |tup hx rr=>exact⟨_,_,rfl,hx,λp hp=>q _ _ (.tup mo hp (dY rr))⟩
 .cases e⟩
noncomputable def wUp:Op1
 | .val (.str z)=>if(ABs z).length<=sizeLine then Fk (.val (.str (ABs z)))else uk
 |_=>uk
theorem aA:MtR X "str.upper" (λx xs H Q=>xs=[]/\∃z,x=.str z/\(ABs z).length<=sizeLine/\Q (.str (ABs z)) H):=by
 intro pins s σ H x xs v us Q I rx rv h
 obtain⟨rfl,z,rfl,hz,q⟩:=h
 cases rv
 obtain⟨t,rfl⟩:=rx
 have hfit:ABy (ABs z).length=false:=by
  unfold ABy
  exact xy (by lia)
 exact call_gives ABC (AAW _ _ _) PySem.F.entry_str_upper (PySem.F.args_str_upper_1 _) (gives_str_upper z t hfit) ⟨hz,⟨.str _,H,I.tok _,⟨_,rfl⟩,q⟩⟩
theorem cA{o:vU}{oo:Ev}{apos cpos:Pos}(h:DE X o oo)(hbase:attributeBase o "upper" X.env (eval o X.env)=eval o X.env:=by rfl)(hline:(apos.endLine==cpos.line)=true:=by rfl):DE X (.Call (.Attribute o "upper" apos) [] [] cpos) (eOp (o1 wUp) [oo]):=⟨
 CP (jO PySem.F.plainAttrs_str ABC PySem.F.type_str_upper aA h.pe hbase hline) λσ H Q z=>by
  refine Il (Xk z) λx H1 z1=>?_
  obtain⟨M,w,r,e,mo,sh,q⟩:=z1
  unfold wUp at e
  split at e
  .split at e
   .cases e
    cases sh
    exact⟨rfl,rfl,_,rfl,by assumption,q _ _ (.same mo (.str _))⟩
   .cases e
  .cases e⟩
structure Wj(K:Wp)(mg:Str->uo W1)(x:Str)(d:D):Prop where
 ex:∃v u,mg x=Fk u/\RelV v u/\∀M H,FR K M H v d
theorem NU{x:Str}{d:D}(c:Wj X.K X.mg x d)(hg:Gl X x)(hd:(x==("__debug__":Str))=false:=by decide):DE X (.Name x pos) (eC d):=⟨by
 obtain⟨v,u,h1,h2,h3⟩:=c.ex
 exact CP (eN hg h1 h2 hd) λσ H Q z=>by
  obtain⟨M0,E,S0,w,S1,e,rr,st,q⟩:=z
  cases e
  exact q _ _ M0 (.refl st.mo) st (h3 _ _)⟩
theorem Mj{x:Str}{T:xl}(hg:Gl X x)(hm:X.mg x=uk)(hv:bootBuiltins x=Fk (.type T))(hn:x≠ "__name__":=by decide)(hd:(x==("__debug__":Str))=false:=by decide):DE X (.Name x pos) (eC (.ty T)):=
 Tz (gJ (v:=.ty T) hg hm hv rfl hn hd) λ_ _ _=>.ty T
structure uX(K:Wp)(w:vi)(mg:Str->uo W1)(x:Str)(tbl:Gc (Str×D)):Prop where
 ex:∃a kvs,mg x=Fk (.ref a)/\TopD K w a kvs/\∀k,(tbl.lookup k=uk->kvs.lookup k=uk)/\∀d,tbl.lookup k=Fk d->∃v,kvs.lookup k=Fk v/\∀M H,FR K M H v d
end
noncomputable def UJ:Nat->Gc D->Gc D
 |_,[]=>[]
 |k,d::ds=>.tup [.int k,d]::UJ (k+1) ds
theorem Ot:∀{ds:Gc D} {k i:Nat},(UJ k ds)[i]?=(ds[i]?).map λd=>.tup [.int ((k+i:Nat):Int),d]
 | [],k,i=>by simp[UJ]
 |d::ds,k,0=>by simp[UJ]
 |d::ds,k,i+1=>by
  simp only[UJ,List.getElem?_cons_succ]
  rw[Ot,show k+1+i=k+(i+1) by lia]
theorem SY:∀{ds:Gc D} {k:Nat},(UJ k ds).length=ds.length
 | [],k=>rfl
 |d::ds,k=>by simp[UJ,SY (ds:=ds)]
theorem SqF.sqB{K:Wp}{M:Ms}{H:Hp}{gs:Gd}{k:vm}{a:uu}{ds:Gc D}(h:SqF K M H gs k a ds){H2:Hp}{M2:Ms}{S2:Sto}(g:Sp1 M H M2 H2)(st:StR K M2 S2 H2)(ok:gOk gs S2):∃xs,SqB K H2 k a xs/\A6 K M2 H2 xs ds:=by
 obtain⟨xs,h1,h2⟩:=h.keep H2 M2 S2 g st ok
 refine⟨xs,?_,h2⟩
 cases k with
 |true=>exact h1
 |false=>exact h1
theorem iO{K:Wp}{M:Ms}{H:Hp}{gs:Gd}{k:vm}{a:uu}{ds:Gc D}(h:SqF K M H gs k a ds):jx K M H gs (UJ 0 ds) (ItE K k a) where
 go:=λi H2 M2 S2 g st ok hi=>by
  rw[SY]at hi
  obtain⟨xs,h1,h2⟩:=h.sqB g st ok
  obtain⟨x,hx⟩:=h2.get' hi
  exact⟨xs,x,h1,hx⟩
 stop:=λi H2 M2 S2 g st ok hi=>by
  rw[SY]at hi
  obtain⟨xs,h1,h2⟩:=h.sqB g st ok
  exact⟨xs,h1,by have:=h2.length;lia⟩
 yld:=λi H2 M2 S2 x H3 d g st ok hd hy=>by
  obtain⟨xs,h1,h2⟩:=h.sqB g st ok
  obtain⟨p,y,hp,rfl,hy,rfl⟩:=hy
  have hx:=hy xs h1
  rw[Ot]at hd
  obtain⟨d0,e,hd⟩:=NR hd
  subst hd
  obtain⟨x',h3,h4⟩:=h2.get e
  rw[hx]at h3;cases h3
  have k3:=KJ (o:=.tup [.int i,y]) hp
  refine⟨k3,.tup (.of Br) (.cons ?_ (.cons (h4.step (Gr.grow st.mo k3).st) .nil))⟩
  rw[ABD]
  exact .int _
noncomputable def iI(f:Ev):Sr:=λE S=>(f E S).bind λr=>(sqD r.2 r.1).map λp=>((UJ 0 p.1,p.2),r.2)
theorem YQ{X:Cx}{a:vU}{f:Ev}{p pos tp:Pos}{elts:Gc vU}{k:Nat}(hg:Gl X "enumerate")(hm:X.mg "enumerate"=uk)(ha:DE X a f)(hs:vP [a] X.env=[(false,eval a X.env)]:=by rfl):DI X (.Tuple elts k tp) (.Call (.Name "enumerate" p) [a] [] pos) (iI f):=⟨
 TL (ae hg hm (SQ ha.pe X8 (by rw[hs];rfl)) hs) λσ H R z=>by
  obtain⟨M,E,S,ds,gs,S',e,r,st,q⟩:=z
  obtain⟨⟨d,S1⟩,e1,e⟩:=BK e
  obtain⟨⟨ds',gs'⟩,e2,e⟩:=NR e
  cases e
  refine⟨M,E,S,d,S1,e1,r,st,λv H1 M1 g1 st1 r1=>?_⟩
  obtain⟨k,a,rfl,sq⟩:=Wo st1 r1 e2
  obtain⟨xs,hs,_⟩:=sq.sqB (Gr.refl st1.mo).st st1 (TN e2)
  exact⟨k,a,rfl,⟨xs,hs⟩,q _ _ M1 g1 st1 (iO sq)⟩⟩
noncomputable def Qk(ds es:Gc D):Gc D:=(ds.zip es).map λp=>.tup [p.1,p.2]
theorem Zw{ds es:Gc D}{i:Nat}{d:D}(h:(Qk ds es)[i]?=Fk d):∃x y,ds[i]?=Fk x/\es[i]?=Fk y/\d=.tup [x,y]:=by
 unfold Qk at h
 simp only[vG,Option.map_eq_some_iff]at h
 obtain⟨⟨x,y⟩,h1,h2⟩:=h
 rw[y0]at h1
 exact⟨x,y,h1.1,h1.2,h2.symm⟩
theorem O0{ds es:Gc D}:(Qk ds es).length=min ds.length es.length:=by simp[Qk]
theorem SqF.more{K:Wp}{M:Ms}{H:Hp}{gs gs':Gd}{k:vm}{a:uu}{ds:Gc D}(h:SqF K M H gs k a ds)(s:∀g∈gs,g∈gs'):SqF K M H gs' k a ds:=⟨λH2 M2 S2 g st ok=>h.keep H2 M2 S2 g st λx hx=>ok x (s x hx)⟩
theorem kY{K:Wp}{M:Ms}{H:Hp}{gs:Gd}{k m:vm}{a b:uu}{ds es:Gc D}(h:SqF K M H gs k a ds)(h':SqF K M H gs m b es):jx K M H gs (Qk ds es) (Itz K k a m b) where
 go:=λi H2 M2 S2 g st ok hi=>by
  rw[O0]at hi
  obtain⟨xs,h1,r⟩:=h.sqB g st ok
  obtain⟨ys,h2,r'⟩:=h'.sqB g st ok
  obtain⟨x,hx⟩:=r.get' (show i<ds.length by lia)
  obtain⟨y,hy⟩:=r'.get' (show i<es.length by lia)
  exact⟨xs,ys,x,y,h1,h2,hx,hy⟩
 stop:=λi H2 M2 S2 g st ok hi=>by
  rw[O0]at hi
  obtain⟨xs,h1,r⟩:=h.sqB g st ok
  obtain⟨ys,h2,r'⟩:=h'.sqB g st ok
  have:=r.length
  have:=r'.length
  exact⟨xs,ys,h1,h2,by lia⟩
 yld:=λi H2 M2 S2 x H3 d g st ok hd hy=>by
  obtain⟨xs,h1,r⟩:=h.sqB g st ok
  obtain⟨ys,h2,r'⟩:=h'.sqB g st ok
  obtain⟨p,x1,y1,hp,rfl,q1,q2,rfl⟩:=hy
  obtain⟨d1,d2,e1,e2,rfl⟩:=Zw hd
  have hx:=q1 xs h1
  have hy:=q2 ys h2
  obtain⟨x',h3,h4⟩:=r.get e1
  obtain⟨y',h5,h6⟩:=r'.get e2
  rw[hx]at h3;cases h3
  rw[hy]at h5;cases h5
  have k3:=KJ (o:=.tup [x1,y1]) hp
  exact⟨k3,.tup (.of Br) (.cons (h4.step (Gr.grow st.mo k3).st) (.cons (h6.step (Gr.grow st.mo k3).st) .nil))⟩
noncomputable def cU(f g:Ev):Sr:=λE S=>(evs [f,g] E S).bind λr=>match r.1 with
 | [d,e]=>(sqD r.2 d).bind λp=>(sqD r.2 e).map λq=>((Qk p.1 q.1,p.2++q.2),r.2)
 |_=>uk
theorem T4{X:Cx}{a b:vU}{f g:Ev}{p pos tp:Pos}{elts:Gc vU}{k:Nat}(hg:Gl X "zip")(hm:X.mg "zip"=uk)(ha:DE X a f)(hb:DE X b g)(hs:vP [a,b] X.env=[(false,eval a X.env),(false,eval b X.env)]:=by rfl)(hs2:vP [b] X.env=[(false,eval b X.env)]:=by rfl):DI X (.Tuple elts k tp) (.Call (.Name "zip" p) [a,b] [] pos) (cU f g):=⟨
 TL (kL hg hm (AA ha (AA hb AD hs2) (by rw[hs,hs2])).pe hs hs2) λσ H R z=>by
  obtain⟨M,E,S,ds,gs,S',e,r,st,q⟩:=z
  obtain⟨⟨ws,S1⟩,e1,e⟩:=BK e
  refine JG (fs:=[f,g]) e1 r st λvs H1 M1 g1 st1 r1=>?_
  dsimp only at e
  split at e
  .obtain⟨⟨ds1,gs1⟩,eu,e⟩:=BK e
   obtain⟨⟨ds2,gs2⟩,ee,e⟩:=NR e
   cases e
   cases r1 with
   |cons h1 t=>
    cases t with
    |cons h2 t=>
     cases t
     obtain⟨k1,a1,rfl,s1⟩:=Wo st1 h1 eu
     obtain⟨k2,a2,rfl,s2⟩:=Wo st1 h2 ee
     obtain⟨xs,hxs,_⟩:=s1.sqB (Gr.refl st1.mo).st st1 (TN eu)
     obtain⟨ys,hys,_⟩:=s2.sqB (Gr.refl st1.mo).st st1 (TN ee)
     exact⟨_,_,_,_,rfl,⟨_,hxs⟩,⟨_,hys⟩,q _ _ M1 g1 st1 (kY (s1.more λx hx=>zq _ hx) (s2.more λx hx=>vy _ hx))⟩
  .cases e⟩
noncomputable def intD:D->uo Int
 | .int i=>Fk i
 |_=>uk
noncomputable def Mg(ds:Gc D):uo (Gc Int):=ds.mapM intD
theorem Ml{K:Wp}{M:Ms}{H:Hp}:∀{vs:Gc V} {ds:Gc D} {ns:Gc Int},A6 K M H vs ds->Mg ds=Fk ns->vs=ns.map V.int
 |_,_,ns,.nil,e=>by cases e;rfl
 |_,_,ns,.cons (d:=d) (ds:=ds) h t,e=>by
  unfold Mg at e
  rw[AAb]at e
  cases e1:intD d with
  |none=>rw[e1]at e;cases e
  |some b=>
   rw[e1]at e
   cases e2:ds.mapM intD with
   |none=>rw[e2]at e;cases e
   |some cs=>
    rw[e2]at e
    cases e
    have hd:d=.int b:=by
     cases d<;>first|(cases e1;done)|skip
     cases e1;rfl
    subst hd
    cases h
    rw[vT,<-Ml t e2]
theorem Y3{X:Cx}(hc:X.calm=true):HR X (.builtin "sum") (λxs H Q=>∃(p:uu) (ns:Gc Int),xs=[.ref p]/\SqL X.K H p (ns.map V.int)/\Q (.int ns.sum) H):=by
 intro pins s σ H xs us Q I r h
 obtain⟨p,ns,rfl,hp,q⟩:=h
 obtain⟨u,rfl,ru⟩:=r.one
 cases (show u=wN p from ru)
 obtain⟨its,rv,pl,hz⟩:=I.list hp
 have hd:X.A.in1.handled=none:=I.ok.hd hc
 refine call_sum_walkG (xJ pl.isList ?_)
 have hlen:ns.length=its.length:=by have:=rv.length;simpa using this
 have hpl:=pl.isList
 have hlt:p<s.heap.objs.size:=by
  obtain⟨o,ho,_⟩:=hpl
  exact vI ho
 refine⟨s.heap.objs.size,_,_,its.length,_,_,λi=>ns.getD i 0,rfl,St.RO (vs:=its) hd (vZ hlt),⟨⟨_,vM _ rfl,rfl,rfl⟩,?_⟩,?_,?_,?_⟩
 .obtain⟨o,ho,r⟩:=hpl
  exact⟨o,tz _ ho,r⟩
 .intro b hb
  rw[wg]
  simp at hb
  rcases hb with h|h
  .rw[h];exact Nat.lt_succ_self _
  .rw[h];exact AAl hlt
 .intro i v hv
  have hi:i<its.length:=(vB.mp hv).1
  have hb:(ns.map V.int)[i]?=Fk (.int (ns.getD i 0)):=by
   rw[vG,ux (by lia)]
   simp[vO,ux (show i<ns.length by lia)]
  obtain⟨u,hu,ru⟩:=rv.get hb
  rw[hv]at hu
  cases hu
  exact ru
 .intro h' tk t' hk
  have e:preSum (λi=>ns.getD i 0) its.length=ns.sum:=by
   rw[<-hlen,St.PC (u4 _),yV (u4 _)]
  rw[e]
  exact⟨.int _,H,I.kept (t':=tk) λb o eb=>hk b o (by simp;exact vZ (vI eb)) (tz _ eb),⟨_,rfl⟩,q⟩
noncomputable def Zp:Op1:=λw=>(asL w).bind λds=>(Mg ds).map λns=>.val (.int ns.sum)
theorem LZ{X:Cx}(hc:X.calm=true):HR X (.builtin "sum") (rN X.K (o1 Zp)):=by
 intro pins s σ H xs us Q I r h
 obtain⟨M,ws,w,e,mo,sh,q⟩:=h
 obtain⟨v,w1,rfl,rfl,s1,e1⟩:=LX sh e
 obtain⟨ds,e2,e1⟩:=BK e1
 obtain⟨ns,e3,e1⟩:=NR e1
 cases e1
 obtain⟨a,ys,rfl,h3,h4⟩:=s1.l e2
 exact Y3 hc pins s σ H _ us Q I r ⟨a,ns,rfl,by rw[<-Ml h4 e3];exact .of h3,q _ _ (.same mo (.int _))⟩
noncomputable def RA(ns:Gc Int):Gc Int:=ns.mergeSort (λa b=>decide (a<=b))
theorem Ra(ns:Gc Int):(RA ns).Perm ns:=List.mergeSort_perm _ _
theorem W6(ns:Gc Int):(RA ns).Pairwise (· <= ·):=by
 have:=List.pairwise_mergeSort (le:=λ(a b:Int)=>decide (a<=b)) (λa b c h1 h2=>by simp at *; lia) (λa b=>by simp;lia) ns
 unfold RA
 exact this.imp λh=>vH h
theorem XZ{ns ms:Gc Int}(p:ms.Perm ns)(s:ms.Pairwise (· <= ·)):ms=RA ns:=PySem.W.ksm_same (p.trans (Ra ns).symm) s (W6 ns)
theorem intsAre_of:∀{ns:Gc Int} {its:Gc W1},Vals (ns.map V.int) its->xI its ns
 | [],_,.nil=>.nil
 |n::ns,_,.cons h t=>by
  obtain⟨tk,rfl⟩:=h
  exact .cons n tk (intsAre_of t)
theorem OV:∀{ns:Gc Int} {its:Gc W1},xI its ns->Vals (ns.map V.int) its
 |_,_,.nil=>.nil
 |_,_,.cons n tk t=>.cons ⟨tk,rfl⟩ (OV t)
theorem Ue{X:Cx}:HR X (.builtin "sorted") (λxs H Q=>∃(p:uu) (ns:Gc Int),xs=[.ref p]/\SqL X.K H p (ns.map V.int)/\ns.length<64/\∀q,H q=uk->Q (.ref q) (upd H q (.lst ((RA ns).map V.int)))):=by
 intro pins s σ H xs us Q I r h
 obtain⟨p,ns,rfl,hp,h64,q⟩:=h
 obtain⟨u,rfl,ru⟩:=r.one
 cases (show u=wN p from ru)
 obtain⟨its,rv,pl,hz⟩:=I.list hp
 have hlen:ns.length=its.length:=by have:=rv.length;simpa using this
 refine PyProof.Rows.sorted_ints pl.isList (intsAre_of rv) (by lia) λout ns' a1 a2 a3=>?_
 obtain⟨e,he⟩:=PyProof.Rows.sortedAll_at s.heap its out
 have hn:H (s.heap.objs.size+1)=none:=I.hok.fresh (Nat.le_succ _)
 have hs:=XZ a2 a3
 subst hs
 refine⟨.ref _,_,I.laid (a:=s.heap.objs.size+1) (o:=.lst ((RA ns).map V.int)) (t':=s.toks) (λ_ _=>PyProof.Rows.sortedAll_old) (Nat.le_succ _) ?_,rfl,q _ hn⟩
 refine⟨?_,out.toList,e,OV a1,?_⟩
 .rw[vW,(Ra ns).length_eq]
  have:(64:Nat)<=sizeLine:=by decide
  lia
 .rw[zx];exact he
noncomputable def So:Op1:=λw=>(asL w).bind λds=>(Mg ds).bind λns=>if ns.length<64 then Fk (.own ((RA ns).map D.int))else uk
theorem Ug{X:Cx}:HR X (.builtin "sorted") (rN X.K (o1 So)):=by
 intro pins s σ H xs us Q I r h
 obtain⟨M,ws,w,e,mo,sh,q⟩:=h
 obtain⟨v,w1,rfl,rfl,s1,e1⟩:=LX sh e
 obtain⟨ds,e2,e1⟩:=BK e1
 obtain⟨ns,e3,e1⟩:=BK e1
 split at e1
 .cases e1
  obtain⟨a,ys,rfl,h3,h4⟩:=s1.l e2
  exact Ue pins s σ H _ us Q I r ⟨a,ns,rfl,by rw[<-Ml h4 e3];exact .of h3,by assumption,λp hp=>q _ _ (.lst mo hp Ou)⟩
 .cases e1
theorem SV(l:uu)(items:wK W1)(n:Nat)(b:uu)(items2:wK W1)(n2:Nat)(dd:uo uu)(sl:wK (uo W1))(hs0:¬(!items.isEmpty && xA (items.size+items2.size))=true)(hs1:items.size<=sizeLine)(hs2:items.size+items2.size<=sizeLine+1):Meets (zP.«list.extend» ⟨[.ref l,.ref b],[]⟩) (λ_ R s=>s.heap.get? l=Fk {cls:=.type "list",dict:=uk,data:=.seq items n,slots:= #[]}/\s.heap.get? b=Fk {cls:=.type "tuple",dict:=dd,data:=.seq items2 n2,slots:=sl}/\R (.ok (.ret wW)) {s with heap:=s.heap.update l (AAV λx=>x++items2),toks:=s.toks}):=
 .of_wp λprog w A R s h=>by
  obtain⟨hp,g,d,tk,os⟩:=s;obtain⟨hl,hb,h⟩:=h;have f1:=AutoSeq1.idx_int;have f2:=AutoSeq1.sub_tuple_tuple;have f3:=AutoSeq1.sub_list_list;have f4:=AutoSeq1.sub_tuple_list;have f5:=AutoSeq1.sub_list_tuple
  have hz':(items++items2).size<=sizeLine+1:=by rw[Array.size_append];exact hs2
  wp_walk using(wpAny_updateSeq hl rfl (hz:=hs1) (_hz':=hz')),vV hl,vV hb;exact⟨_,rfl,h⟩
def aN(K:Wp):V->Gc V->Hp->VK->Prop:=λx vs H Q=>∃l b xs zs,x=.ref l/\vs=[.ref b]/\H l=Fk (.lst xs)/\SqT K H b zs/\xs.length+zs.length<=sizeLine/\Q .non (upd H l (.lst (xs++zs)))
theorem Wt{X:Cx}:MtM X "list.extend" (aN X.K):=by
 intro pins s σ H x vs v us Q I rx rv h
 obtain⟨l,b,xs,zs,rfl,rfl,hH,hB,hz,q⟩:=h
 cases rx
 obtain⟨u,rfl,ru⟩:=rv.one
 cases ru
 obtain⟨z,its,n,r,hl,e⟩:=I.cX hH
 obtain⟨its2,r2,⟨⟨c,dd,dt,sl⟩,e2,hc,n2,hd⟩,z2⟩:=I.tuple hB
 simp only at hc hd
 subst hc hd
 have hl2:=r2.length
 have hsz:its.toArray.size+its2.toArray.size<=sizeLine:=by rw[vF,vF];lia
 have hlong:¬(!its.toArray.isEmpty && xA (its.toArray.size+its2.toArray.size))=true:=by
  rw[TV hsz,AAX]
  exact vz
 refine zf zu ⟨_,e,rfl⟩ ABv (ABa _ _)
  (SV l its.toArray n b its2.toArray n2 dd sl hlong (by rw[vF];lia) (by lia)) ⟨e,e2,?_⟩
 refine⟨.non,_,I.oR (its':=its++its2) hH e (by simp) (r.append r2) ?_,rfl,q⟩
 rw[wM]
 lia
noncomputable def lr:Mo
 |S,ds,[x]=>match dr S x with
  | .val (.tup zs)=>if ds.length+zs.length<=sizeLine then Fk (.non,ds++zs)else uk
  |w=>(asL w).bind λzs=>if ds.length+zs.length<=sizeLine then Fk (.non,ds++zs)else uk
 |_,_,_=>uk
theorem dM{X:Cx}:MtR X "list.extend" (lP X.K lr):=by
 intro pins s σ H x vs v us Q I rx rv h
 obtain⟨M,S,n,a,ds,args,d,ds',rfl,hc,hn,e,st,ra,q⟩:=h
 unfold lr at e
 split at e
 .obtain⟨xs,h1,h2⟩:=st.cell n a _ hc hn
  obtain⟨y,rfl,ry⟩:=Wa ra
  have sy:=eG st ry
  split at e
  .rename_i ed
   rw[ed]at sy
   split at e
   .rename_i hz
    cases e
    cases sy with
    |tup hx rr=>
     obtain⟨st2,g2⟩:=st.chg hc hn (h2.append rr)
     exact Wt pins s σ H _ _ v us Q I rx rv ⟨a,_,xs,_,rfl,rfl,h1,hx,by rw[h2.length,rr.length];exact hz,q _ _ st2 g2 .non⟩
   .cases e
  .obtain⟨zs,e1,e⟩:=BK e
   split at e
   .rename_i hz
    cases e
    obtain⟨b,ys,rfl,h3,h4⟩:=sy.l e1
    obtain⟨st2,g2⟩:=st.chg hc hn (h2.append h4)
    exact YD pins s σ H _ _ v us Q I rx rv ⟨a,b,xs,ys,rfl,rfl,h1,h3,by rw[h2.length,h4.length];exact hz,q _ _ st2 g2 .non⟩
   .cases e
 .cases e
theorem aF{X:Cx}:OpR X (binaryOp .Mult) (λx y H Q=>∃a xs k,x=.ref a/\y=.int k/\SqT X.K H a xs/\xs≠[]/\k<=0/\ -(2^63)<=k/\∀p,H p=uk->Q (.ref p) (upd H p (.tup []))):=by
 intro pins s σ H x y v u Q I rx ry h
 obtain⟨a,xs,k,rfl,rfl,hx,hne,hk,hk2,q2⟩:=h
 cases rx
 obtain⟨t,rfl⟩:=ry
 obtain⟨its,r,⟨⟨c,dd,data,sl⟩,ho,hc,n,hd⟩,hzz⟩:=I.tuple hx
 simp only at hc hd
 subst hc hd
 have hl:=r.length
 have hpos:0<xs.length:=ABx.mpr hne
 refine yz (T:="tuple") (U:="int") (by decide) ⟨_,ho,rfl⟩ (λs'=>ze s' k t) Kg ABI ya Ob AA1.lookup
  (zf ya (ze s k t) AA2 (AAj _ _) (L3 k t a its.toArray n dd sl) ⟨ho,rfl,⟨_,ho,rfl⟩,?_⟩)
 refine xF zk ⟨_,ho,rfl⟩ F.entry_tuple_mul ?_ (ACD _ _)
 unfold zP.«tuple.__mul__»
 wp_walk using vV ho
 rw[vf (show¬(decide (k< -2^63)||decide (k≥2^63))=true by
  rw[wQ]
  rintro (z|z)
  .have:=vH z;lia
  .have:=vH z;lia)]
 wp_walk using vV ho
 have hemp:its.toArray.isEmpty=false:=by
  cases its with
  |nil=>rw[yb]at hl;lia
  |cons b bs=>rfl
 rw[vf (show¬(its.toArray.isEmpty||k==1)=true by
  rw[hemp,Bool.false_or]
  intro z
  have:=eq_of_beq z
  lia)]
 wp_walk using vV ho
 all_goals first
  |exact⟨_,rfl,.ref _,_,I.laid (o:=.tup []) (t':=s.toks) (λb ob q=>tz _ q) (u4 _) ⟨xf _,[],.nil,xX _ _⟩,rfl,q2 _ (I.hok.fresh (u4 _))⟩
  |(exfalso
    rename_i hh
    exact hh (by rw[wQ];exact .inl (xZ hk)))
noncomputable def B7:Op2:=λa b=>match a,b with
 | .val (.tup xs),.val (.int k)=>if(!xs.isEmpty && decide (k<=0) && decide (-(2^63)<=k))=true then Fk (.val (.tup []))else mx (.val (.tup xs)) (.val (.int k))
 |a,b=>mx a b
theorem As{X:Cx}:OpR X (binaryOp .Mult) (rOp X.K B7):=by
 intro pins s σ H x y v u Q I rx ry h
 obtain⟨M,w1,w2,r,e,mo,s1,s2,q⟩:=h
 unfold B7 at e
 split at e
 .split at e
  .rename_i xs k hk
   rw[vE,vE]at hk
   cases e
   cases s2
   cases s1 with
   | @tup a ys _ h1 r1=>
     have hne:ys≠[]:=λzz=>by
      subst zz
      cases r1
      exact absurd hk.1.1 (by decide)
     exact aF pins s σ H _ _ v u Q I rx ry ⟨a,ys,k,rfl,rfl,h1,hne,vH hk.1.2,vH hk.2,λp hp=>q _ _ (.tup mo hp .nil)⟩
  .exact Yh pins s σ H x y v u Q I rx ry ⟨M,_,_,r,e,mo,s1,s2,q⟩
 .exact Yh pins s σ H x y v u Q I rx ry ⟨M,_,_,r,e,mo,s1,s2,q⟩
theorem JW{A:vj}{k:Nat}(hr:JS k A):A.units+100<cLine:=by have:=hr.un;lia
section
variable{P:vR}{w:vi}{K:Wp}{mg:Str->uo W1}{base:ve}
theorem V4{x:Str}{st:vh}{k np:Nat}{ps:Gc Str}(S:St.Src K mg x st)(hbi:∀f fd,Fun K x x st f fd->Binds K fd ps []):St.Dfn P w K mg base x k ps (spD K np λ_ _=>uk):=by
 obtain⟨f,fd,Fu,hm⟩:=S.ex
 refine⟨f,fd,hm,Fu.kp,hbi f fd Fu,⟨λvs H Q E h=>?_,λA outer s H args us vs Q E hr h0 hb hv h=>?_⟩⟩
 .obtain⟨_,_,_,_,_,_,e,_⟩:=h;cases e
 .obtain⟨_,_,_,_,_,_,e,_⟩:=h;cases e
end
noncomputable def scE:Nat->vU->Gc wX
 |0,_=>[]
 |n+1,.ListComp e gs s _=>s::(gs.flatMap λg=>scE n g.iter)++scE n e++(gs.flatMap λg=>g.ifs.flatMap (scE n))
 |n+1,.BoolOp _ vs _=>vs.flatMap (scE n)
 |n+1,.Call f as _ _=>scE n f++as.flatMap (scE n)
 |n+1,.BinOp a _ b _=>scE n a++scE n b
 |n+1,.UnaryOp _ a _=>scE n a
 |n+1,.Compare a _ cs _=>scE n a++cs.flatMap (scE n)
 |n+1,.Subscript a b _=>scE n a++scE n b
 |n+1,.Tuple es _ _=>es.flatMap (scE n)
 |n+1,.List es _=>es.flatMap (scE n)
 |n+1,.IfExp c a b _=>scE n c++scE n a++scE n b
 |n+1,.Dict _ vs _=>vs.flatMap (scE n)
 |n+1,.Slice a b c _=>(a.toList++b.toList++c.toList).flatMap (scE n)
 |n+1,.Attribute v _ _=>scE n v
 |_,_=>[]
noncomputable def scS:Nat->vh->Gc wX
 |0,_=>[]
 |n+1,.Return (Fk e) _=>scE 30 e
 |n+1,.Assign ts e _=>ts.flatMap (scE 30)++scE 30 e
 |n+1,.AugAssign t _ e _=>scE 30 t++scE 30 e
 |n+1,.Expr e _=>scE 30 e
 |n+1,.If t a b _=>scE 30 t++a.flatMap (scS n)++b.flatMap (scS n)
 |n+1,.For _ it a b _=>scE 30 it++a.flatMap (scS n)++b.flatMap (scS n)
 |n+1,.While t a b _=>scE 30 t++a.flatMap (scS n)++b.flatMap (scS n)
 |_,_=>[]
noncomputable def LB(st:vh)(k:Nat):wX:=((D3 st).flatMap (scS 20)).getD k (AI st)
structure uh(P:vR)(w:vi)(K:Wp)(mg:Str->uo W1)(base:ve)(x:Str)(k np:Nat)(tbl:Gc (Str×Fn)):Prop where
 ex:∃a kvs,mg x=Fk (.ref a)/\TopD K w a kvs/\∀p G,tbl.lookup p=Fk G->∃f fd ps,kvs.lookup p=Fk (.ref f)/\WH P w K mg base CX0 k f fd ps (spD K np G)/\xY K (.ref f)=true/\Binds K fd ps []
section
variable{P:vR}{w:vi}{K:Wp}{mg:Str->uo W1}{base h:ve}
theorem lH{x:Str}{st:vh}{f:uu}{oc:W1}{od an:uo uu}{osl:wK (uo W1)}{kV doc pm cdv ct:W1}(X:K.In h)(G:h.Ns mainGlobals mg)(a:xK K mainGlobals x=Fk (Fk (.ref f)))(l:K.lookup f=Fk ⟨oc,od,.func (yS x x (N3 st) (D3 st) (AI st) .none kV doc pm an cdv ct),osl⟩)(c:AAQ K cdv x=true)(k:xY K (.ref f)=true):St.Src K mg x st:=
 ⟨f,_,iq l c k,y8 X G a⟩
def IsD(K:Wp)(u:W1)(d:D):Prop:=∃v,RelV v u/\∀M H,FR K M H v d
theorem Tn{i:Int}{t:Tok}:IsD K (.int i t) (.int i):=⟨.int i,⟨t,rfl⟩,λ_ _=>.int i⟩
theorem Ta{x:Str}{t:Tok}:IsD K (.str x t) (.str x):=⟨.str x,⟨t,rfl⟩,λ_ _=>.str x⟩
theorem We:∀{us:Gc W1} {ds:Gc D},Paired (λd u=>IsD K u d) ds us->∃xs,Vals xs us/\∀M H,A6 K M H xs ds
 |_,_,.nil=>⟨[],.nil,λ_ _=>.nil⟩
 |_,_,.cons h t=>by
  obtain⟨v,h1,h2⟩:=h
  obtain⟨xs,h3,h4⟩:=We t
  exact⟨v::xs,.cons h1 h3,λM H=>.cons (h2 M H) (h4 M H)⟩
theorem Vf{a:uu}{od:uo uu}{osl:wK (uo W1)}{its:Gc W1}{n:Nat}{ds:Gc D}(l:K.lookup a=Fk ⟨.type "tuple",od,.seq its.toArray n,osl⟩)(hz:its.length<=sizeLine)(r:Paired (λd u=>IsD K u d) ds its):IsD K (.ref a) (.tup ds):=by
 obtain⟨xs,h1,h2⟩:=We r
 exact⟨.ref a,rfl,λM H=>.tup (.inr ⟨_,its.toArray,n,l,rfl,rfl,by simpa using hz,by simpa using h1⟩) (h2 M H)⟩
theorem Yz{x:Str}{u:W1}{d:D}(X:K.In h)(G:h.Ns mainGlobals mg)(e:xK K mainGlobals x=Fk (Fk u))(r:IsD K u d):Wj K mg x d:=by
 obtain⟨v,h1,h2⟩:=r
 exact⟨v,u,y8 X G e,h1,h2⟩
structure uU(w:vi)(K:Wp)(mg:Str->uo W1)(x:Str)(ns:Gc (Str×Str)):Prop where
 ex:∃a kvs,mg x=Fk (.ref a)/\TopD K w a kvs/\Paired (λ(n:Str×Str) (q:Str×V)=>n.1=q.1/\∃f,q.2=.ref f/\mg n.2=Fk (.ref f)) ns kvs
end
section
variable{X:Cx}{pos:Pos}
end
theorem WA:∀{ys:Gc V} {us:Gc W1},ys.length=us.length->(∀(j:Nat) (y:V) (u:W1),ys[j]?=Fk y->us[j]?=Fk u->RelV y u)->Vals ys us
 | [],[],_,_=>.nil
 |y::ys,u::us,hl,h=>.cons (h 0 y u rfl rfl) (WA (by simpa using hl) λj y u a b=>h (j+1) y u a b)
 | [],_::_,hl,_=>by simp at hl
 |_::_,[],hl,_=>by simp at hl
noncomputable def putD(kvs:Gc (Key×D))(k:Key)(v:D):Gc (Key×D):=
 if(kvs.any λkv=>decide (kv.1=k))=true then kvs.map (λkv=>if kv.1=k then(kv.1,v)else kv)else kvs++[(k,v)]
noncomputable def RV(kvs more:Gc (Key×D)):Gc (Key×D):=more.foldl (λacc kv=>putD acc kv.1 kv.2) kvs
noncomputable def lN:D->uo Key
 | .int i=>Fk (.inl i)
 | .str x=>Fk (.inr x)
 |_=>uk
noncomputable def bY:vm->Gc (Key×D)->Sto->D×Sto
 |false,es,S=>(.dct es,S)
 |true,es,S=>(.ref S.length,S++[.dct es])
section
variable{K:Wp}{M M':Ms}{H:Hp}{S:Sto}{E:En}{σ:Sg}
theorem EF.any(k:Key):∀{kvs:Gc (Key×V)} {es:Gc (Key×D)},EF K M H kvs es->(kvs.any λkv=>decide (kv.1=k))=es.any λkv=>decide (kv.1=k)
 |_,_,.nil=>rfl
 |_,_,.cons h t=>by rw[xk,xk,EF.any k t]
theorem EF.app:∀{kvs kvs':Gc (Key×V)} {es es':Gc (Key×D)},EF K M H kvs es->EF K M H kvs' es'->EF K M H (kvs++kvs') (es++es')
 |_,_,_,_,.nil,s=>s
 |_,_,_,_,.cons h t,s=>.cons h (EF.app t s)
theorem EF.kU{k:Key}{v:V}{d:D}(r:FR K M H v d):∀{kvs:Gc (Key×V)} {es:Gc (Key×D)},EF K M H kvs es->EF K M H (kvs.map λkv=>if kv.1=k then(kv.1,v)else kv) (es.map λkv=>if kv.1=k then(kv.1,d)else kv)
 |_,_,.nil=>.nil
 |_,_,.cons (k:=k') h t=>by
  rw[vT,vT]
  by_cases e:k'=k
  .rw[va e,va e];exact .cons r (EF.kU r t)
  .rw[vf e,vf e];exact .cons h (EF.kU r t)
theorem EF.put{k:Key}{v:V}{d:D}{kvs:Gc (Key×V)}{es:Gc (Key×D)}(r:FR K M H v d)(h:EF K M H kvs es):EF K M H (putK kvs k v) (putD es k d):=by
 unfold putK putD
 rw[h.any k]
 split
 .exact h.kU r
 .exact h.app (.cons r .nil)
theorem EF.merge:∀{more:Gc (Key×V)} {more':Gc (Key×D)} {kvs:Gc (Key×V)} {es:Gc (Key×D)},EF K M H more more'->EF K M H kvs es->EF K M H (Qg kvs more) (RV es more')
 |_,_,_,_,.nil,h=>h
 |_,_,kvs,es,.cons (k:=k) (v:=v) (d:=d) (vs:=vs) (ds:=ds) r t,h=>show EF K M H (Qg (putK kvs k v) vs) (RV (putD es k d) ds)from EF.merge t (h.put r)
theorem kN{v:V}{d:D}{k:Key}(r:FR K M H v d)(e:lN d=Fk k):v=kV k:=by
 cases r<;>cases e<;>rfl
theorem StR.dn(r:StR K M S H){a:uu}(e:H a=uk):StR K ⟨M.cel,a::M.tmp⟩ S (upd H a (.dK []))/\Sp1 M H ⟨M.cel,a::M.tmp⟩ (upd H a (.dK [])):=by
 have k:∀b o,H b=Fk o->upd H a (.dK []) b=Fk o:=KJ e
 have na:¬M.mem a:=λz=>r.mo.some z e
 have s1:Sp1 M H ⟨M.cel,a::M.tmp⟩ (upd H a (.dK [])):=⟨r.mo,wR,λb z=>by
  rcases z with z|z
  .exact .inl (.inl z)
  .rcases uw.mp z with z|z
   .subst z;exact .inr e
   .exact .inl (.inr z),λb o eb _=>k b o eb⟩
 refine⟨⟨λb z=>?_,r.nd,λb hb z=>?_,r.len,λn b c h1 h2=>?_⟩,s1⟩
 .by_cases h:b=a
  .subst h;exact .inr (.inl ⟨[],Br⟩)
  .rw[Au h]
   refine r.mo b ?_
   rcases z with z|z
   .exact .inl z
   .rcases uw.mp z with z|z
    .exact absurd z h
    .exact .inr z
 .rcases uw.mp hb with hb|hb
  .subst hb;exact na (.inl z)
  .exact r.nt b hb z
 .have q:=r.cell n b c h1 h2
  cases c with
  |lst ds=>obtain⟨xs,e,rr⟩:=q;exact⟨xs,k _ _ e,rr.step s1⟩
  |dct ds=>obtain⟨xs,e,rr⟩:=q;exact⟨xs,k _ _ e,rr.step s1⟩
  |tab ds=>obtain⟨xs,e,rr⟩:=q;exact⟨xs,k _ _ e,rr.step s1⟩
theorem StR.uN{c t:Gc uu}{a:uu}{kvs:Gc (Key×V)}{es:Gc (Key×D)}(cf:vm)(r:StR K ⟨c,a::t⟩ S H)(nt:a∉t)(rr:EF K ⟨c,a::t⟩ H kvs es):∃c',StR K ⟨c',t⟩ (bY cf es S).2 (upd H a (.dK kvs))/\FR K ⟨c',t⟩ (upd H a (.dK kvs)) (.ref a) (bY cf es S).1/\c <+: c'/\(∀b∈c',b∈c\/b=a):=by
 have nc:a∉c:=r.nt a vA
 have hl:c.length=S.length:=r.len
 have ne:∀b∈c,b≠a:=λb hb z=>nc (by rw[<-z];exact hb)
 have kp:∀b o,H b=Fk o->¬Ms.mem ⟨c,a::t⟩ b->upd H a (.dK kvs) b=Fk o:=λb o eb nb=>by rw[Au (λz=>nb (.inr (by rw[z];exact vA)))];exact eb
 have old:∀{c':Gc uu},Sp1 ⟨c,a::t⟩ H ⟨c',t⟩ (upd H a (.dK kvs))->∀(n:Nat) (b:uu) (cl:Cl),c[n]?=Fk b->S[n]?=Fk cl->fw K ⟨c',t⟩ (upd H a (.dK kvs)) b cl:=λs1 n b cl h1 h2=>by
  have hb:=ne b (vL h1)
  have q:=r.cell n b cl h1 h2
  cases cl with
  |lst ds=>obtain⟨xs,e,rr⟩:=q;exact⟨xs,by rw[Au hb];exact e,rr.step s1⟩
  |dct ds=>obtain⟨xs,e,rr⟩:=q;exact⟨xs,by rw[Au hb];exact e,rr.step s1⟩
  |tab ds=>obtain⟨xs,e,rr⟩:=q;exact⟨xs,by rw[Au hb];exact e,rr.step s1⟩
 have mo:∀b,Ms.mem ⟨c,t⟩ b\/b=a->(∃xs,upd H a (.dK kvs) b=Fk (.lst xs))\/(∃ks,upd H a (.dK kvs) b=Fk (.dK ks))\/∃ps,upd H a (.dK kvs) b=Fk (.tbl ps):=λb z=>by
  by_cases h:b=a
  .subst h;exact .inr (.inl ⟨kvs,Br⟩)
  .rw[Au h]
   rcases z with z|z
   .exact r.mo b (z.imp id (uv _))
   .exact absurd z h
 cases cf with
 |false=>
  have s1:Sp1 ⟨c,a::t⟩ H ⟨c,t⟩ (upd H a (.dK kvs)):=⟨r.mo,wR,λb z=>.inl (z.imp id (uv _)),kp⟩
  exact⟨c,⟨λb z=>mo b (.inl z),r.nd,λb hb=>r.nt b (uv _ hb),r.len,old s1⟩,.dct Br (λz=>z.elim nc nt) (rr.step s1),wR,λb z=>.inl z⟩
 |true=>
  have s1:Sp1 ⟨c,a::t⟩ H ⟨c++[a],t⟩ (upd H a (.dK kvs)):=⟨r.mo,yW _ _,λb z=>by
   rcases z with z|z
   .rcases vY.mp z with z|z
    .exact .inl (.inl z)
    .exact .inl (.inr (by rw[vQ.mp z];exact vA))
   .exact .inl (.inr (uv _ z)),kp⟩
  refine⟨c++[a],⟨λb z=>mo b ?_,?_,λb hb z=>?_,by simp[bY,hl],λn b cl h1 h2=>?_⟩,.ref (by rw[<-hl];exact vK),yW _ _,λb z=>?_⟩
  .rcases z with z|z
   .rcases vY.mp z with z|z
    .exact .inl (.inl z)
    .exact .inr (vQ.mp z)
   .exact .inl (.inr z)
  .rw[yi]
   refine⟨r.nd,by simp,λx hx y hy z=>?_⟩
   simp at hy;subst hy
   exact nc (by rw[<-z];exact hx)
  .rcases vY.mp z with z|z
   .exact r.nt b (uv _ hb) z
   .rw[vQ.mp z]at hb;exact nt hb
  .have h2:(S++[Cl.dct es])[n]?=Fk cl:=h2
   by_cases h:n<S.length
   .rw[uq (by rw[hl];exact h)]at h1
    rw[uq h]at h2
    exact old s1 n b cl h1 h2
   .have hm:n=S.length:=by
     have:=(vB.mp h2).1
     simp at this;lia
    subst hm
    rw[vo (by rw[hl];exact u4 _)]at h1
    rw[vo (u4 _)]at h2
    rw[hl]at h1
    simp at h1 h2
    subst h1 h2
    exact⟨kvs,Br,rr.step s1⟩
  .rcases vY.mp z with z|z
   .exact .inl z
   .exact .inr (vQ.mp z)
noncomputable def evP:Gc (Ev×Ev)->En->Sto->uo (Gc (Key×D)×Sto)
 | [],_,S=>Fk ([],S)
 |(k,v)::r,E,S=>(k E S).bind λa=>(lN a.1).bind λkk=>(v E a.2).bind λb=>(evP r E b.2).map λq=>((kk,b.1)::q.1,q.2)
theorem cI:∀{fs:Gc (Ev×Ev)} {M:Ms} {S:Sto} {es:Gc (Key×D)} {S':Sto} {H:Hp} {Q:Gc (V×V)->Hp->Prop},evP fs E S=Fk (es,S')->EnR K M E σ H->StR K M S H->(∀kvs H' M',Gr M H M' H'->StR K M' S' H'->EF K M' H' kvs es->kvs.length=fs.length->Q (kvs.map λkv=>(kV kv.1,kv.2)) H')->WL (fs.map λx=>(tD K x.1,tD K x.2)) σ H Q
 | [],M,S,es,S',H,Q,e,r,st,q=>by
   cases e
   exact q [] H M (.refl st.mo) st .nil rfl
 |(fk,fv)::fs,M,S,es,S',H,Q,e,r,st,q=>by
  obtain⟨⟨dk,S1⟩,e1,e⟩:=BK e
  obtain⟨kk,ek,e⟩:=BK e
  obtain⟨⟨dv,S2⟩,e2,e⟩:=BK e
  obtain⟨⟨es',S3⟩,e3,e⟩:=NR e
  cases e
  refine⟨M,E,S,dk,S1,e1,r,st,λv H1 M1 g1 st1 d1=>?_⟩
  refine⟨M1,E,S1,dv,S2,e2,r.step g1.st,st1,λv2 H2 M2 g2 st2 d2=>?_⟩
  refine cI e3 ((r.step g1.st).step g2.st) st2 λkvs H3 M3 g3 st3 rk hl=>?_
  rw[kN d1 ek]
  exact q ((kk,v2)::kvs) H3 M3 ((g1.trans g2).trans g3) st3 (.cons (d2.step g3.st) rk) (by simp[hl])
end
noncomputable def YI(cf:vm)(fs:Gc (Ev×Ev)):Ev:=λE S=>(evP fs E S).map λr=>bY cf (RV [] r.1) r.2
abbrev kP:=YI false
section
variable{X:Cx}{pos:Pos}
structure DPs(X:Cx)(pos:Pos)(ks:Gc (uo vU))(vs:Gc vU)(fs:Gc (Ev×Ev)):Prop where
 pe:PPs X pos ks vs (fs.map λx=>(tD X.K x.1,tD X.K x.2))
 all:ks.all (·.isSome)=true
 len:ks.length=vs.length
 num:fs.length=vs.length
theorem gL:DPs X pos [] [] []:=⟨gI,rfl,rfl,rfl⟩
theorem Zt{k v:vU}{ks:Gc (uo vU)}{vs:Gc vU}{fk fv:Ev}{fs:Gc (Ev×Ev)}(hk:DE X k fk)(hv:DE X v fv)(h:DPs X pos ks vs fs):DPs X pos (Fk k::ks) (v::vs) ((fk,fv)::fs):=
 ⟨bh hk.pe hv.pe h.pe,by rw[yd,h.all];rfl,by rw[wC,wC,h.len],by rw[wC,wC,h.num]⟩
theorem gi{K:Wp}{M:Ms}{H:Hp}{S S':Sto}{Q:VK}{cf:vm}{p:uu}{M2:Ms}{H2:Hp}{S2:Sto}{kvs:Gc (Key×V)}{es:Gc (Key×D)}(st:StR K M S H)(hp:H p=uk)(g:Gr ⟨M.cel,p::M.tmp⟩ (upd H p (.dK [])) M2 H2)(st2:StR K M2 S2 H2)(rk:EF K M2 H2 kvs es)(q:∀v H' M',Gr M H M' H'->StR K M' (bY cf es S2).2 H'->FR K M' H' v (bY cf es S2).1->Q v H'):Q (.ref p) (upd H2 p (.dK kvs)):=by
 obtain⟨c2,t2⟩:=M2
 have ht:t2=p::M.tmp:=g.tmp
 subst ht
 have np:p∉M.tmp:=λz=>st.mo.some (.inr z) hp
 obtain⟨c',st',rd,pr,sub⟩:=st2.uN cf np rk
 refine q _ _ ⟨c',M.tmp⟩ ⟨st.mo,(show M.cel <+: c2 from g.pre).trans pr,rfl,λb z=>?_,λb o eb nb=>?_,λb eb=>?_⟩ st' rd
 .rcases sub b z with z|z
  .rcases g.fresh b z with z|z
   .exact .inl z
   .right
    by_cases h:b=p
    .rw[h];exact hp
    .rw[Au h]at z;exact z
  .right;rw[z];exact hp
 .have h:b≠p:=λz=>by rw[z,hp]at eb;cases eb
  rw[Au h]
  exact g.keep b o (by rw[Au h];exact eb) nb
 .by_cases h:b=p
  .subst h;rw[Br];intro z;cases z
  .rw[Au h]
   exact g.some b (by rw[Au h];exact eb)
theorem jN{cf:vm}{ks:Gc (uo vU)}{vs:Gc vU}{fs:Gc (Ev×Ev)}(h:DPs X pos ks vs fs)(h0:ks≠[])(h15:ks.length<=15):DE X (.Dict ks vs pos) (YI cf fs):=⟨
 CP (fZ h.pe h.all h.len h0 h15) λσ H Q z=>by
  obtain⟨M,E,S,d,S',e,r,st,q⟩:=z
  obtain⟨⟨es,S2⟩,e1,e⟩:=NR e
  intro p hp
  obtain⟨st0,s0⟩:=st.dn hp
  refine cI e1 (r.step s0) st0 λkvs H2 M2 g st2 rk hl=>⟨g.keep p _ Br (st0.nt p vA),kvs,rfl,by rw[hl,h.num,<-h.len];exact h15,?_⟩
  refine gi (cf:=cf) (S':=S') st hp g st2 (rk.merge .nil) ?_
  have e':bY cf (RV [] es) S2=(d,S'):=e
  rw[e']
  exact q⟩
end
noncomputable def hide(h:ve):Gc uu->ve
 | []=>h
 |a::l=>(hide h l).update a λo=>{o with data:=.freed}
theorem MQ{h:ve}:∀{l:Gc uu} {b:uu},b∈l->(hide h l).get? b=uk
 |a::l,b,m=>by
  by_cases e:a=b
  .subst e
   cases q:((hide h l).update a λo=>{o with data:=.freed}).get? a with
   |none=>exact q
   |some o=>
    exfalso
    obtain⟨q1,q2⟩:=Heap.get?_some_iff.mp q
    generalize hide h l=g at q1
    obtain⟨objs,lf⟩:=g
    simp only[Heap.update,Array.getElem?_modify,zO]at q1
    cases r:objs[a]? with
    |none=>rw[r]at q1;cases q1
    |some o'=>rw[r]at q1;cases q1;cases q2
  .unfold hide
   rw[yT _ _ e]
   exact MQ ((uw.mp m).resolve_left λz=>e z.symm)
theorem O5{h:ve}:∀{l:Gc uu} {b:uu},b∉l->(hide h l).get? b=h.get? b
 | [],_,_=>rfl
 |a::l,b,m=>by
  unfold hide
  rw[yT _ _ λz=>m (by rw[z];exact vA)]
  exact O5 λz=>m (uv _ z)
theorem SJ{h:ve}{l:Gc uu}:(hide h l).StaysIn h:=λb o e=>by
 by_cases m:b∈l
 .rw[MQ m]at e;cases e
 .rw[O5 m]at e;exact e
theorem O1{h base:ve}{l:Gc uu}:∀{es:Gc wy},(∀b∈frs es,b∈l)->h.FunFrames base es->h.FunFrames (hide h l) es
 | [],_,_=>trivial
 |env::r,m,hl=>by
  obtain⟨hk,⟨L,o,hf,hn,ho,hd⟩,hr⟩:=hl
  have e:frs (env::r)=L::frs r:=by unfold frs;rw[vc,hf]
  rw[e]at m
  exact⟨hk,⟨L,o,hf,MQ (m L vA),ho,hd⟩,O1 (λb z=>m b (uv _ z)) hr⟩
def Tb(old:uu->Prop)(H:Hp)(h:ve)(e:uu)(v:W1):Prop:=
 v=.none\/∃T oT ts,v=.ref T/\T≠e/\h.get? T=Fk oT/\oT.data=.fields ts/\ts[3]?=Fk .none/\H T=uk/\¬old T
structure Fly(old:uu->Prop)(H:Hp)(h:ve)(e C:uu):Prop where
 free:H e=uk
 new:¬old e
 ex:∃oe vs a0 v,h.get? e=Fk oe/\oe.cls=.ref C/\oe.data=.fields vs/\vs[0]?=Fk a0/\vs[1]?=Fk v/\Tb old H h e v
theorem Fly.imp{old old':uu->Prop}{H:Hp}{h:ve}{e C:uu}(f:Fly old H h e C)(m:∀b,old' b->old b):Fly old' H h e C:=by
 obtain⟨oe,vs,a0,v,h1,h2,h3,h4,h5,t⟩:=f.ex
 refine⟨f.free,λz=>f.new (m _ z),oe,vs,a0,v,h1,h2,h3,h4,h5,?_⟩
 rcases t with t|⟨T,oT,ts,t1,t2,t3,t4,t5,t6,t7⟩
 .exact .inl t
 .exact .inr ⟨T,oT,ts,t1,t2,t3,t4,t5,t6,λz=>t7 (m _ z)⟩
structure iN(old:uu->Prop)(H:Hp)(h:ve)(e C:uu):Prop where
 free:H e=uk
 new:¬old e
 ex:∃oe vs a0 T oT ts,h.get? e=Fk oe/\oe.cls=.ref C/\oe.data=.fields vs/\vs[0]?=Fk a0/\vs[1]?=Fk (.ref T)/\T≠e/\h.get? T=Fk oT/\oT.data=.fields ts/\ts[3]?=Fk .none/\H T=uk/\¬old T
theorem iN.fly{old:uu->Prop}{H:Hp}{h:ve}{e C:uu}(f:iN old H h e C):Fly old H h e C:=by
 obtain⟨oe,vs,a0,T,oT,ts,h1,h2,h3,h4,h5,r⟩:=f.ex
 exact⟨f.free,f.new,oe,vs,a0,.ref T,h1,h2,h3,h4,h5,.inr ⟨T,oT,ts,rfl,r⟩⟩
structure Trn(X:Cx)(old:uu->Prop)(H:Hp)(h h':ve)(e C:uu):Prop where
 keep:∀b o,h.get? b=Fk o->b∉frs X.stack->(H b≠uk\/old b\/∀vs,o.data≠.fields vs)->h'.get? b=Fk o
 slot:∀b o,h.get? b=Fk o->(∀vs,o.data≠.fields vs)->∃sl,h'.get? b=Fk {o with slots:=sl}
 fly:iN old H h' e C
theorem Fo.there{P:vR}{w:vi}{H:Hp}{h:ve}{a:uu}{o:HO}(x:Fo P w H h a o):∃ob,h.get? a=Fk ob:=by
 cases o with
 |lst xs=>obtain⟨_,_,_,_,e⟩:=x;exact⟨_,e⟩
 |tup xs=>obtain⟨_,_,_,ob,e,_⟩:=x;exact⟨_,e⟩
 |dK kvs=>obtain⟨_,_,_,_,o,_,_,e,_⟩:=x;exact⟨_,e⟩
 |dT kvs=>obtain⟨_,_,_,_,o,_,_,e,_⟩:=x;exact⟨_,e⟩
 |set S n=>obtain⟨o,_,_,_,e,_⟩:=x;exact⟨_,e⟩
 |ins C dx fs=>obtain⟨_,_,_,e,_⟩:=x;exact⟨_,e⟩
 |own y=>obtain⟨_,e⟩:=x;exact⟨_,e⟩
 |xd fs=>obtain⟨_,⟨_,_,_,e,_⟩,_⟩:=x;exact⟨_,e⟩
 |rng lo hi=>obtain⟨_,_,_,e⟩:=x;exact⟨_,e⟩
 |frz ob u=>obtain⟨e,_⟩:=x;exact⟨_,e⟩
 |tbl ps=>exact⟨_,(show h.get? a=Fk _ from x)⟩
 |met f y=>exact⟨_,(show h.get? a=Fk _ from x)⟩
 |ext φ=>obtain⟨_,⟨_,e⟩,_⟩:=x;exact⟨_,e⟩
section
variable{X:Cx}{pins:Gc (uu×Obj)}{σ:St}{H:Hp}{s:ur}{old:uu->Prop}{e C:uu}{Q:Unit->ur->Prop}{E:W1->ur->Prop}{A:vj}
theorem WK{M:Model}(I:Inv X pins σ H s)(f:Fly old H s.heap e C)(ho:∀b,old b->s.heap.get? b≠uk){a0 fl:W1}{h':ve}(l:Gc uu)(hl:∀b∈l,b∈frs X.stack\/(b=e\/(H b=uk/\¬old b/\∃o us,s.heap.get? b=Fk o/\o.data=.fields us)))  (hN:Heap.NotedW (hide s.heap l) X.stack e (.ref C) a0 fl s.heap h')(hQ:∀h',Trn X old H s.heap h' e C->Q () {s with heap:=h'}):wpAny M A (setFlight (.ref e) uk) Q E {s with heap:=h'}:=by
 have st:=I.stack
 obtain⟨oe,vs,_,v,h1,h2,h3,h4,h5,t⟩:=f.ex
 have frD:∀b∈frs X.stack,∃o,s.heap.get? b=Fk o/\∀vs,o.data≠.fields vs:=λb m=>(st.mem m).2
 obtain⟨n1,n2,n3,n4⟩:=hN
 refine wpAny_setFlight_noneW (base:=hide s.heap l) (l:=X.stack) (cls:=.ref C) (a0:=a0) (fl:=fl) n1 n2 n3 λh2' m1 m2 m3 m4=>?_
 have slot:∀b o,s.heap.get? b=Fk o->(∀vs,o.data≠.fields vs)->∃sl,h2'.get? b=Fk {o with slots:=sl}:=λb o e1 e2=>by
  obtain⟨sl,q⟩:=n4 b o e1 e2
  exact⟨sl,m4 b _ q e2⟩
 refine hQ h2' ⟨λb o e1 e2 e3=>?_,slot,f.free,f.new,?_⟩
 .have nl:b∉l:=λz=>by
   rcases hl b z with z|z|⟨z1,z2,o',us,z3,z4⟩
   .exact e2 z
   .subst z
    rw[h1]at e1;cases e1
    rcases e3 with e3|e3|e3
    .exact e3 f.free
    .exact f.new e3
    .exact e3 _ h3
   .rw[z3]at e1;cases e1
    rcases e3 with e3|e3|e3
    .exact e3 z1
    .exact z2 e3
    .exact e3 _ z4
  exact m1 b o (by rw[O5 nl];exact e1)
 .obtain⟨oe2,vs2,T,oT,ts,k1,⟨k2,k3⟩,k4,k5,k6,k7,k8,k9,k10⟩:=m3
  refine⟨oe2,vs2,a0,T,oT,ts,k1,k2,k4,k3,k5,k7,k8,k9,k10,?_⟩
  by_cases hT:T∈l
  .rcases hl T hT with z|z|z
   .exfalso
    obtain⟨o,e1,e2⟩:=frD T z
    obtain⟨sl,q⟩:=slot T o e1 e2
    rw[k8]at q;cases q
    exact e2 _ k9
   .exact absurd z k7
   .exact⟨z.1,z.2.1⟩
  .rw[O5 hT]at k6
   refine⟨?_,λz=>ho T z k6⟩
   cases q:H T with
   |none=>rfl
   |some o=>
    obtain⟨ob,z⟩:=Fo.there (I.hok T o q)
    rw[k6]at z;cases z
theorem TK{M:Model}(I:Inv X pins σ H s)(hA:A.frames=Fk X.stack)(hst:X.stack=X.env::X.outer)(hf:X.env.frame=Fk X.env.locals)(f:Fly old H s.heap e C)(ho:∀b,old b->s.heap.get? b≠uk)(hQ:∀h',Trn X old H s.heap h' e C->Q () {s with heap:=h'}):wpAny M A (noteFrame (.ref e) X.env) (λ_ s2=>wpAny M A (setFlight (.ref e) uk) Q E s2) E s:=by
 have st:=I.stack
 obtain⟨oe,vs,a0,v,h1,h2,h3,h4,h5,t⟩:=f.ex
 have fin:=λ(l:Gc uu) hl h' (hN:Heap.NotedW (hide s.heap l) X.stack e (.ref C) a0 (rawInt X.env.locals) s.heap h')=>WK (M:=M) (A:=A) (E:=E) (Q:=Q) I f ho l hl hN hQ
 have hfr:A.frames=Fk (X.env::X.outer):=by rw[hA,hst]
 rw[hst]at fin st
 rcases t with t|⟨T,oT,ts,t1,t2,t3,t4,t5,t6,t7⟩
 .subst t
  have hh:∀b∈frs (X.env::X.outer),b∈e::frs (X.env::X.outer):=λb m=>uv _ m
  unfold noteFrame
  simp only[hf]
  refine um (wx h1 h3 h5 ?_)
  rw[vf (by decide)]
  refine wpAny_entryW (base:=hide s.heap (e::frs (X.env::X.outer))) hfr (O1 hh st) hf h1 SJ (MQ vA) h3 (Array.getElem?_eq_some_iff.mp h5).1 h4 λh' hN=>?_
  rw[h2]at hN
  exact fin _ (λb m=>(uw.mp m).elim (λz=>.inr (.inl z)) λz=>.inl z) h' hN
 .subst t1
  have hh:∀b∈frs (X.env::X.outer),b∈e::T::frs (X.env::X.outer):=λb m=>uv _ (uv _ m)
  refine wpAny_noteFrame_onW (base:=hide s.heap (e::T::frs (X.env::X.outer))) (cls:=.ref C) (a0:=a0) hfr (O1 hh st) hf ?_ SJ (MQ vA) λh' hN=>?_
  .exact⟨oe,vs,T,oT,ts,h1,⟨h2,h4⟩,h3,h5,MQ (uv _ vA),t2,t3,t4,t5⟩
  .refine fin _ (λb m=>?_) h' hN
   rcases uw.mp m with z|m
   .exact .inr (.inl z)
   .rcases uw.mp m with z|m
    .subst z
     exact .inr (.inr ⟨t6,t7,oT,ts,t3,t4⟩)
    .exact .inl m
end
def iH(X:Cx)(pins:Gc (uu×Obj))(b:uu):Prop:=X.s₀.heap.get? b≠uk\/∃p∈X.pn++pins,p.1=b
section
variable{X:Cx}{pins:Gc (uu×Obj)}{σ:St}{H:Hp}{s:ur}{old:uu->Prop}{e C:uu}{h':ve}
theorem Zc(hst:X.stack=X.env::X.outer)(hf:X.env.frame=Fk X.env.locals):frs X.stack=X.env.locals::X.fs:=by
 rw[hst];unfold frs Cx.fs frs;rw[vc,hf]
theorem Ib(I:Inv X pins σ H s)(hx:X.ex=[]):∀b,iH X pins b->s.heap.get? b≠none:=λb z=>by
 rcases z with z|⟨p,m,rfl⟩
 .cases q:X.s₀.heap.get? b with
  |none=>exact absurd q z
  |some o=>
   obtain⟨o',e'⟩:=I.base.there b o q (by rw[hx];exact λz=>nomatch z)
   rw[e'];exact λz=>nomatch z
 .rw[(I.pin p m).1];exact λz=>nomatch z
theorem Vn(I:Inv X pins σ H s)(t:Trn X old H s.heap h' e C):HOk X.prog X.w H h':=λa o q=>by
 refine(I.hok a o q).Zq (λb u hb e1=>?_) (λ_ z=>z) λ_ _ z=>z
 have hn:H b≠none:=by
  rcases hb with z|z
  .subst z;rw[q];exact λz=>nomatch z
  .rw[z];exact λz=>nomatch z
 exact t.keep b u e1 (λz=>hn (I.Vh b z)) (.inl hn)
theorem ZQ(I:Inv X pins σ H s)(hst:X.stack=X.env::X.outer)(hf:X.env.frame=Fk X.env.locals)(hx:X.ex=[])(t:Trn X (iH X pins) H s.heap h' e C):Un X.fs X.ex X.H₀ H X.s₀.heap h':=by
 have hs:=Zc hst hf
 have nL:∀b o,X.s₀.heap.get? b=Fk o->b≠X.env.locals:=λb o e1=>vZ (uy (vI e1) I.ok.above)
 have od:∀b o,X.s₀.heap.get? b=Fk o->iH X pins b:=λb o e1=>.inl (by rw[e1];exact λz=>nomatch z)
 have fd:∀b o,b∈X.fs->X.s₀.heap.get? b=Fk o->∀vs,o.data≠.fields vs:=λb o hb e1 vs=>by
  obtain⟨_,o',e2,q⟩:=I.ok.V8.mem hb
  rw[e1]at e2;cases e2
  exact q vs
 refine⟨λb o e1 n hb hx'=>?_,λb o e1 n hb hx'=>?_,I.base.free,λb o e1 hx'=>?_,I.base.aW,I.base.ZZ,I.base.Zs⟩
 .refine t.keep b o (I.base.keep b o e1 n hb hx') (λz=>?_) (.inr (.inl (od b o e1)))
  rw[hs]at z
  exact(uw.mp z).elim (nL b o e1) hb
 .obtain⟨sl,q⟩:=I.base.slot b o e1 n hb hx'
  obtain⟨sl',q'⟩:=t.slot b _ q (fd b o hb e1)
  exact⟨sl',q'⟩
 .obtain⟨o',q⟩:=I.base.there b o e1 hx'
  by_cases hb:b∈frs X.stack
  .obtain⟨_,o2,q2,d⟩:=I.stack.mem hb
   obtain⟨sl,z⟩:=t.slot b o2 q2 d
   exact⟨_,z⟩
  .exact⟨o',t.keep b o' q hb (.inr (.inl (od b o e1)))⟩
theorem X7(I:Inv X pins σ H s)(hst:X.stack=X.env::X.outer)(hf:X.env.frame=Fk X.env.locals)(hx:X.ex=[])(t:Trn X (iH X pins) H s.heap h' e C):Inv X pins σ H {s with heap:=h'}:=by
 have hs:=Zc hst hf
 have cl:∀c v,s.heap.IsCell c v->h'.IsCell c v:=λc v ⟨o,ho,hd⟩=>by
  obtain⟨sl,q⟩:=t.slot c o ho λvs z=>by rw[hd]at z;cases z
  exact⟨_,q,hd⟩
 refine⟨I.ok,I.os,I.bare,ZQ I hst hf hx t,?_,λx c e1=>?_,I.free,I.Mw,λp m=>?_,Vn I t,I.len⟩
 .obtain⟨m,hn,hl⟩:=I.loc
  refine⟨m,Heap.UpToSlots.ns (λb o e1 e2=>t.slot b o e1 e2) hn,λi x v e1 e2 e3=>?_⟩
  obtain⟨u,r,l⟩:=hl i x v e1 e2 e3
  refine⟨u,r,?_⟩
  rcases l with l|⟨k,c,e4,z⟩
  .exact .inl l
  .exact .inr ⟨k,c,e4,cl c _ z⟩
 .obtain⟨v,z⟩:=I.cell x c e1
  exact⟨v,cl c v z⟩
 .obtain⟨p1,p2,p3,p4,p5⟩:=I.pin p m
  refine⟨t.keep _ _ p1 (λz=>?_) (.inr (.inl (.inr ⟨p,m,rfl⟩))),p2,p3,p4,p5⟩
  rw[hs]at z
  exact(uw.mp z).elim p3 p4
end
abbrev Rk:=uu->St->Hp->Prop
abbrev TR:=St->Hp->Rk->Prop
def XP(X:Cx)(pins:Gc (uu×Obj))(Z:Rk)(ev:W1)(s':ur):Prop:=∃e C σ' H',ev=.ref e/\Inv X pins σ' H' s'/\Z C σ' H'/\Fly (iH X pins) H' s'.heap e C
def PX(X:Cx)(st:vh)(t:TR):Prop:=∀(pins:Gc (uu×Obj)) (s:ur) (σ:St) (H:Hp) (Z:Rk),Inv X pins σ H s->t σ H Z->wpAny (model X.prog X.w) X.A (exec st X.env) (λ_ _=>xt) (XP X pins Z) s
def PXs(X:Cx)(sts:Gc vh)(t:TR):Prop:=∀(pins:Gc (uu×Obj)) (s:ur) (σ:St) (H:Hp) (Z:Rk),Inv X pins σ H s->t σ H Z->wpAny (model X.prog X.w) X.A (execs sts X.env) (λ_ _=>xt) (XP X pins Z) s
def PXe(X:Cx)(e:vU)(t:TR):Prop:=∀(pins:Gc (uu×Obj)) (s:ur) (σ:St) (H:Hp) (Z:Rk),Inv X pins σ H s->t σ H Z->wpAny (model X.prog X.w) X.A (eval e X.env) (λ_ _=>xt) (XP X pins Z) s
noncomputable def CXr(P:vR)(w:vi):CXT:=λouter H s E ev s'=>∃e C H',ev=.ref e/\s'.os=s.os/\zF s'.gens/\Un (frs outer) [] H H' s.heap s'.heap/\HOk P w H' s'.heap/\Fly (λb=>s.heap.get? b≠uk) H' s'.heap e C/\E (.ref C) uk H'
theorem bN{P:vR}{w:vi}{K:Wp}{mg:Str->uo W1}{base:ve}{N:Gc Str}{qual:Str}{scope:wX}{f:uu}{cd:W1}{A:vj}{outer:Gc wy}{s:ur}{H:Hp}{E:XK}{pins:Gc (uu×Obj)}{Z:Rk}{ev:W1}{s':ur}(h:XP (OT (CXr P w) P w K mg base N qual scope f cd A outer s H E).nox pins Z ev s')(hZ:∀C σ' H',Z C σ' H'->E (.ref C) uk H'):(OT (CXr P w) P w K mg base N qual scope f cd A outer s H E).xe ev s':=by
 obtain⟨e,C,σ',H',rfl,I,z,fl⟩:=h
 show wpAny _ _ (leaving _ (.ref e)) _ _ s'
 unfold leaving
 refine um (TK I I.ok.frames rfl rfl fl (Ib I rfl) λh' t=>?_)
 exact⟨e,C,H',rfl,I.os,I.bare,ZQ I rfl rfl rfl t,Vn I t,t.fly.fly.imp λb z=>.inl z,hZ _ _ _ z⟩
abbrev Rx:=En->Sto->uo (Str×En×Sto)
abbrev Rf:=Gc D->Sto->uo (Str×Sto)
noncomputable def tR(K:Wp)(mg:Str->uo W1)(r:Rx):TR:=λσ H Z=>∃M E S x E' S',r E S=Fk (x,E',S')/\EnR K M E σ H/\StR K M S H/\∀C σ' H' M',mg x=Fk (.ref C)->Gr M H M' H'->EnR K M' E' σ' H'->StR K M' S' H'->Z C σ' H'
structure RS(X:Cx)(st:vh)(r:Rx):Prop where
 pe:PX X st (tR X.K X.mg r)
structure RSs(X:Cx)(st:Gc vh)(r:Rx):Prop where
 pe:PXs X st (tR X.K X.mg r)
structure RE(X:Cx)(e:vU)(r:Rx):Prop where
 pe:PXe X e (tR X.K X.mg r)
noncomputable def spR(K:Wp)(mg:Str->uo W1)(np:Nat)(R:Rf):Sp:=λvs H _ E=>∃M ds S x S',ds.length=np/\R ds S=Fk (x,S')/\A6 K M H vs ds/\StR K M S H/\∀C H' M',mg x=Fk (.ref C)->Gr M H M' H'->StR K M' S' H'->E (.ref C) uk H'
noncomputable def P9(N:Nat)(r:Rx):Rf:=λds S=>(r (ds.map Fk++vC (N-ds.length) uk) S).map λq=>(q.1,q.2.2)
structure Zr(P:vR)(w:vi)(K:Wp)(mg:Str->uo W1)(base:ve)(x:Str)(k:Nat)(ps:Gc Str)(sp:Sp):Prop where
 ex:∃f fd,mg x=Fk (.ref f)/\xY K (.ref f)=true/\Binds K fd ps []/\WH P w K mg base (CXr P w) k f fd ps sp
section
variable{P:vR}{w:vi}{K:Wp}{mg:Str->uo W1}{base:ve}
theorem kI{x:Str}{st:vh}{f:uu}{fd:xH}{N ps:Gc Str}{k np:Nat}{r:Rx}(Fu:Fun K x x st f fd)(S:AQ N ps (AI st))(hp:ps.length=np)(hb:∀(cdv:W1) (A:vj) (outer:Gc wy) (s:ur) (H:Hp) (E:XK),JS k (A.deeper (v3 x (AI st) s.heap.objs.size f cdv))->RSs (OT CX0 P w K mg base N x (AI st) f cdv A outer s H E).nox (D3 st) r):WH P w K mg base (CXr P w) (k+1) f fd ps (spR K mg np (Ao (P9 N.length r))):=by
 rw[Pm]
 obtain⟨oc,od,kV,doc,pm,an,cdv,ct,osl,rfl,lk,hcd⟩:=Fu.ex
 refine gh lk hcd S (λvs H Q E h=>?_) λA outer s H vs Q E hr h=>?_
 .obtain⟨M,ds,S0,d,S',hl,_,r,_⟩:=h
  have:=r.length
  omega
 .obtain⟨M,ds,S0,y,S',hl,e,rr,st,q⟩:=h
  have hlen:=rr.length
  refine⟨λ_ σ H=>tR K mg r σ H λC _ H'=>E (.ref C) uk H',λpins s1 σ1 H1 D I h=>?_,?_⟩
  .exact we ((hb cdv A outer s H E hr).pe pins s1 σ1 H1 _ (I.Xa _) h) (λ_ _ z=>z.elim) λev s' z=>bN z λ_ _ _ z=>z
  .obtain⟨⟨y',E',S1⟩,e1,e⟩:=NR e
   cases e
   refine⟨M,_,S0,y',E',S1,e1,?_,st,λC σ' H' M' hm g _ st'=>q C H' M' hm g st'⟩
   rw[show L2.start N vs=vs.map Fk++vC (N.length-ds.length) uk from by unfold L2.start;rw[hlen]]
   exact .args rr _
theorem K1{x:Str}{st:vh}{N ps:Gc Str}{k np:Nat}{r:Rx}(S:St.Src K mg x st)(sc:AQ N ps (AI st))(hp:ps.length=np)(hbi:∀f fd,Fun K x x st f fd->Binds K fd ps [])(hb:∀(f:uu) (cdv:W1) (A:vj) (outer:Gc wy) (s:ur) (H:Hp) (E:XK),JS k (A.deeper (v3 x (AI st) s.heap.objs.size f cdv))->RSs (OT CX0 P w K mg base N x (AI st) f cdv A outer s H E).nox (D3 st) r):Zr P w K mg base x (k+1) ps (spR K mg np (Ao (P9 N.length r))):=by
 obtain⟨f,fd,Fu,hm⟩:=S.ex
 exact⟨f,fd,hm,Fu.kp,hbi f fd Fu,kI Fu sc hp λcdv A outer s H E hr=>hb f cdv A outer s H E hr⟩
end
theorem LL{X:Cx}{α:Type}{M:Model}{A:vj}{t:Sem α}{Q Q':α->ur->Prop}{E:W1->ur->Prop}{s:ur}(hn:X.xe=λ_ _=>xt)(h:wpAny M A t Q X.xe s)(hQ:∀a s,Q a s->Q' a s):wpAny M A t Q' E s:=
 we h hQ λ_ _ z=>by rw[hn]at z;exact z.elim
noncomputable def Hv(R:Rf)(fs:Gc Ev):Rx:=λE S=>(evs fs E S).bind λq=>(R q.1 q.2).map λz=>(z.1,E,z.2)
theorem Iw{X:Cx}{k np:Nat}{x:Str}{ps:Gc Str}{R:Rf}{e:vU}{es:Gc vU}{fs:Gc Ev}{p pos:Pos}(d:Zr X.prog X.w X.K X.mg X.base x k ps (spR X.K X.mg np R))(hr:JS k X.A)(hg:Gl X x)(ha:DEs X (e::es) fs)(hn:fs.length=np:=by rfl)(hxe:X.xe=λ_ _=>xt:=by rfl)(hx:X.ex=[]:=by rfl)(hdb:(x==("__debug__":Str))=false:=by decide)(he:vP (e::es) X.env=(false,eval e X.env)::vP es X.env:=by rfl)(hpl:(backTo pos (vP es X.env)).any (·.1)=false:=by rfl):RE X (.Call (.Name x p) (e::es) [] pos) (Hv R fs):=⟨by
 intro pins s σ H Z I h
 obtain⟨f,fd,hm,hk,hb,F⟩:=d.ex
 obtain⟨M,E,S,y,E',S',e0,r,st,q⟩:=h
 obtain⟨⟨ds,S1⟩,e1,e2⟩:=BK e0
 obtain⟨⟨y',S2⟩,e3,e4⟩:=NR e2
 cases e4
 refine wL (Pj I hg hm ?_ hdb)
 have ha':=ha.pe pos pins s σ H (λvs H1=>∃M1,Gr M H M1 H1/\StR X.K M1 S1 H1/\A6 X.K M1 H1 vs ds) I (JG e1 r st λvs H1 M1 g1 st1 r1=>⟨M1,g1,st1,r1⟩)
 refine AAP (h₀:=X.base) I.ok.mod.kin hk (LL hxe ha' λus s1 ⟨vs,H1,I1,rv,M1,g1,st1,r1⟩=>⟨I1.kIn,?_⟩) he hpl
 have sp:spR X.K X.mg np R vs H1 (λ_ _=>xt) (λv _ H'=>∃C,v=.ref C/\Z C σ H'):=
  ⟨M1,ds,S1,y',S2,by rw[PL e1];exact hn,e3,r1,st1,λC H' M' hc g2 st2=>⟨C,rfl,q C σ H' M' hc (g1.trans g2) ((r.step g1.st).step g2.st) st2⟩⟩
 have hl:(us++[]).length=ps.length:=by rw[xh,<-rv.length];exact F.len _ _ _ _ sp
 have hbs:=hb s1 us I1.kIn hl
 rw[xh]at hbs
 refine AAO (yq (F.run X.A X.stack s1 H1 ⟨us,[]⟩ us vs _ _ hr I1.ia hbs rv sp) λrs s' hq=>?_)
 cases rs with
 |error ev=>
  obtain⟨e,C,H',rfl,os,bare,un,hok,fly,C',hC,z⟩:=hq
  cases hC
  exact⟨e,C,σ,H',rfl,I1.fI os un hok bare (λb z=>nomatch z),z,fly.imp λb z=>Ib I1 hx b z⟩
 |ok fl=>
  cases fl with
  |ret u=>
   obtain⟨v,H',_,_,_,_,_,q⟩:=hq
   exact q.elim
  |next=>exact wt hq
  |brk=>exact wt hq
  |cont=>exact wt hq⟩
section
variable{X:Cx}{st:vh}{rest a b:Gc vh}{f g:Ex}{r r1 r2:Rx}{c e:vU}{k:Ev}{pos:Pos}
theorem MT(h:RE X e r)(hs:swapsWith e uk pos.line X.env=pure false:=by rfl):RS X (.Expr e pos) r:=⟨λpins s σ H Z I q=>ABV (we (h.pe pins s σ H Z I q) (λ_ _ z=>z) λ_ _ z=>z) I.quiet hs⟩
noncomputable def rNo:Rx:=λ_ _=>uk
theorem az:RS X st rNo:=⟨λ_ _ _ _ _ _ z=>by
 obtain⟨M,E,S,x,E',S',e,_⟩:=z
 cases e⟩
theorem NA:RSs X rest rNo:=⟨λ_ _ _ _ _ _ z=>by
 obtain⟨M,E,S,x,E',S',e,_⟩:=z
 cases e⟩
noncomputable def U8(r:Rx)(f:Ex)(r2:Rx):Rx:=λE S=>match r E S with
 |some z=>Fk z
 |none=>(f E S).bind λq=>match q.1 with
  | .nx=>r2 q.2.1 q.2.2
  | .ret _=>uk
theorem Fb(h1:RS X st r)(hb:DS X st f)(h2:RSs X rest r2)(hxe:X.xe=λ_ _=>xt:=by rfl):RSs X (st::rest) (U8 r f r2):=⟨λpins s σ H Z I z=>by
 obtain⟨M,E,S,x,E',S',e,rr,ss,q⟩:=z
 unfold U8 at e
 split at e
 .rename_i z' e1
  cases e
  refine yI (we (h1.pe pins s σ H Z I ⟨M,E,S,x,E',S',e1,rr,ss,q⟩) (λ_ _ z=>z.elim) λ_ _ z=>z)
 .obtain⟨⟨fl,E1,S1⟩,e1,e⟩:=BK e
  dsimp only at e
  split at e
  .refine yI (LL hxe (hb.pe pins s σ H {nx:=λσ' H'=>tR X.K X.mg r2 σ' H' Z,rt:=λ_ _=>xt} I ⟨M,E,S,.nx,E1,S1,e1,rr,ss,λσ' H' M' g' r' st'=>⟨M',E1,S1,x,E',S',e,r',st',λC σ2 H2 M2 hm g2=>q C σ2 H2 M2 hm (g'.trans g2)⟩⟩) λfl s1 w=>?_)
   cases fl with
   |next=>
    obtain⟨σ',H',I',q'⟩:=w
    exact h2.pe pins s1 σ' H' Z I' q'
   |ret v=>obtain⟨_,_,_,_,_,q'⟩:=w;exact q'.elim
   |brk=>obtain⟨_,_,_,q'⟩:=w;exact q'.elim
   |cont=>obtain⟨_,_,_,q'⟩:=w;exact q'.elim
  .cases e⟩
theorem J8(h1:RS X st r):RSs X [st] r:=⟨λpins s σ H Z I z=>yI (we (h1.pe pins s σ H Z I z) (λ_ _ z=>z.elim) λ_ _ z=>z)⟩
noncomputable def rIf(k:Ev)(r1 r2:Rx):Rx:=λE S=>(k E S).bind λq=>match q.1 with
 | .bl true=>r1 E q.2
 | .bl false=>r2 E q.2
 |_=>uk
theorem Yg(hc:DT X c k)(ha:RSs X a r1)(hb:RSs X b r2)(hxe:X.xe=λ_ _=>xt:=by rfl):RS X (.If c a b pos) (rIf k r1 r2):=⟨λpins s σ H Z I z=>by
 obtain⟨M,E,S,x,E',S',e,rr,ss,q⟩:=z
 obtain⟨⟨w1,S1⟩,e1,e⟩:=BK e
 dsimp only at e
 split at e
 .refine wpAny_If (LL hxe (hc.pe pins s σ H (λd H1=>d=true/\tR X.K X.mg r1 σ H1 Z) I ⟨M,E,S,_,S1,e1,rr,ss,λH1 M1 g1 st1=>⟨rfl,M1,E,S1,x,E',S',e,rr.step g1.st,st1,λC σ2 H2 M2 hm g2=>q C σ2 H2 M2 hm (g1.trans g2)⟩⟩) λd s1 w=>?_)
  obtain⟨H1,I1,rfl,q1⟩:=w
  exact ha.pe pins s1 σ H1 Z I1 q1
 .refine wpAny_If (LL hxe (hc.pe pins s σ H (λd H1=>d=false/\tR X.K X.mg r2 σ H1 Z) I ⟨M,E,S,_,S1,e1,rr,ss,λH1 M1 g1 st1=>⟨rfl,M1,E,S1,x,E',S',e,rr.step g1.st,st1,λC σ2 H2 M2 hm g2=>q C σ2 H2 M2 hm (g1.trans g2)⟩⟩) λd s1 w=>?_)
  obtain⟨H1,I1,rfl,q1⟩:=w
  exact hb.pe pins s1 σ H1 Z I1 q1
 .cases e⟩
end
abbrev VEm:Gc W1:=[.type "ValueError",.type "Exception",.type "BaseException",.type "object"]
structure XcD(K:Wp)(mg:Str->uo W1)(x:Str):Prop where
 ex:∃C,mg x=Fk (.ref C)/\AAq K C VEm "ValueError.__new__"=true
theorem aM{K:Wp}{h:ve}{mg:Str->uo W1}{x:Str}{C:uu}(X:K.In h)(G:h.Ns mainGlobals mg)(e:xK K mainGlobals x=Fk (Fk (.ref C)))(q:AAq K C VEm "ValueError.__new__"=true):XcD K mg x:=⟨C,y8 X G e,q⟩
theorem fT{K:Wp}{h:ve}{C:uu}{bmB:Gc W1}{newId:xl}(X:K.In h)(q:AAq K C bmB newId=true):∃bm N nm q bs hdct sn sub ab col dd k0 k1 k2 k3 k5 mN,h.get? C=Fk (excClassObj nm q C N bs bm hdct sn sub ab col dd k0 k1 k2 k3 k5 newId)/\h.Ns N mN/\mN "__init__"=uk/\OwnTail h bmB bm:=by
 unfold AAq at q
 split at q
 case h_2=>cases q
 rename_i dd cd sl ho
 split at q
 case h_2=>cases q
 rename_i C' bm k0 k1 k2 k3 n k5 hm hs
 simp only[vE,zh,Bool.not_eq_true']at q
 obtain⟨⟨⟨⟨⟨rfl,rfl⟩,hdel⟩,ht⟩,hok⟩,hni⟩:=q
 have hsl:sl= #[k0,k1,k2,k3,Fk (.builtin n),k5]:=Array.toList_inj.mp hs
 obtain⟨nm,bs,mro,ns,qn,hd,sn,sub,ab,col,del⟩:=cd
 dsimp only at hm hdel hok hni
 subst hm hdel hsl
 exact⟨bm,ns,nm,qn,bs,hd,sn,sub,ab,col,dd,k0,k1,k2,k3,k5,_,X _ _ ho,.of_isNs (PySem.W.isNs_of_in X hok),PySem.W.nsMap_none_of_in X hok hni,PySem.W.tail_of_in X ht⟩
noncomputable def P1(x:Str)(fs:Gc Ev):Rx:=λE S=>(evs fs E S).map λq=>(x,E,q.2)
theorem NQ{X:Cx}{x:Str}{e:vU}{es:Gc vU}{fs:Gc Ev}{np cpos pos:Pos}(hc:X.calm=true)(xc:XcD X.K X.mg x)(hg:Gl X x)(ha:DEs X (e::es) fs)(hl:fs.length<=sizeLine:=by decide)(hxe:X.xe=λ_ _=>xt:=by rfl)(hx:X.ex=[]:=by rfl)(hdb:(x==("__debug__":Str))=false:=by decide)(he:vP (e::es) X.env=(false,eval e X.env)::vP es X.env:=by rfl)(hpl:(backTo cpos (vP es X.env)).any (·.1)=false:=by rfl):RS X (.Raise (Fk (.Call (.Name x np) (e::es) [] cpos)) uk pos) (P1 x fs):=⟨by
 intro pins s σ H Z I h
 obtain⟨C,hm,hex⟩:=xc.ex
 obtain⟨M,E,S,y,E',S',e0,r,st,q⟩:=h
 obtain⟨⟨ds,S1⟩,e1,e2⟩:=NR e0
 cases e2
 obtain⟨tl,N,nm,qn,bs,hdct,sn,sub,ab,col,dd,k0,k1,k2,k3,k5,mN,hC,hN,hni,T⟩:=fT I.ok.mod.kin hex
 refine wpAny_Raise_call_subT (C:=C) (nm:=nm) (q:=qn) (N:=N) (bs:=bs) (bm:=tl) (hdct:=hdct) (sn:=sn) (sub:=sub) (ab:=ab) (col:=col) (dd:=dd) (k0:=k0) (k1:=k1) (k2:=k2) (k3:=k3) (k5:=k5)
  ABg (mN:=mN) (T.hasType ABg.hasBase) (I.ok.hd hc) (by rw[he];show(false||(backTo cpos (vP es X.env)).any (·.1))=false;rw[hpl];rfl) hni (Pj I hg hm ⟨rfl,?_⟩ hdb)
 have ha':=ha.pe cpos pins s σ H (λvs H1=>∃M1,Gr M H M1 H1/\StR X.K M1 S1 H1/\A6 X.K M1 H1 vs ds) I (JG e1 r st λvs H1 M1 g1 st1 r1=>⟨M1,g1,st1,r1⟩)
 rw[he]at ha'⊢
 refine ABZ (LL hxe ha' λus s1 ⟨vs,H1,I1,rv,M1,g1,st1,r1⟩=>?_)
 refine⟨rfl,by rw[<-rv.length,r1.length,PL e1];exact hl,I1.bk _ _ hC,hN.keeps I1.bk,T.keeps I1.bk,λh' ea hmd=>?_⟩
 obtain⟨t,w1,w2,w3⟩:=hmd.there
 refine⟨ea,C,σ,H1,rfl,I1.kept (t':=s1.toks) hmd.keeps,q C σ H1 M1 hm g1 (r.step g1.st) st1,?_,λz=>Ib I1 hx _ z hmd.new,_,_,.ref t,.none,w1,rfl,rfl,rfl,rfl,.inl rfl⟩
 cases o:H1 ea with
 |none=>rfl
 |some ho=>
  obtain⟨ob,z⟩:=Fo.there (I1.hok ea ho o)
  rw[hmd.new]at z;cases z⟩
abbrev Cx.mrk(X:Cx)(e:uu):Cx:={X with A:=X.A.mark (Fk (.ref e)),calm:=false}
section
variable{X:Cx}{pins:Gc (uu×Obj)}{σ:St}{H:Hp}{s:ur}{e:uu}
theorem j6(ok:X.Ok):(Cx.mrk X e).Ok:=⟨ok.mod,ok.kind,ok.glob,ok.blt,ok.above,ok.inj,ok.has,ok.cab,(λz=>nomatch z),ok.frames,ok.stk,ok.exf,ok.bs,ok.bsz,ok.cn,ok.eF,ok.V8,ok.frf⟩
theorem dy(I:Inv X pins σ H s):Inv (Cx.mrk X e) pins σ H s:=⟨j6 I.ok,I.os,I.bare,I.base,I.loc,I.cell,I.free,I.Mw,I.pin,I.hok,I.len⟩
theorem NF(ok:X.Ok)(I:Inv (Cx.mrk X e) pins σ H s):Inv X pins σ H s:=⟨ok,I.os,I.bare,I.base,I.loc,I.cell,I.free,I.Mw,I.pin,I.hok,I.len⟩
theorem ao{D:Ends}{f:Flow}(ok:X.Ok)(h:SP (Cx.mrk X e) pins D f s):SP X pins D f s:=by
 cases f with
 |next=>obtain⟨σ',H',I,q⟩:=h;exact⟨σ',H',NF ok I,q⟩
 |brk=>obtain⟨σ',H',I,q⟩:=h;exact⟨σ',H',NF ok I,q⟩
 |cont=>obtain⟨σ',H',I,q⟩:=h;exact⟨σ',H',NF ok I,q⟩
 |ret u=>obtain⟨v,σ',H',I,r,q⟩:=h;exact⟨v,σ',H',NF ok I,r,q⟩
end
structure HS(X:Cx)(hs:Gc xU)(g:Str->Ex):Prop where
 pe:∀(x:Str) (C:uu),X.mg x=Fk (.ref C)->∀(pins:Gc (uu×Obj)) (s:ur) (σ:St) (H:Hp) (D:Ends) (e:uu),Inv X pins σ H s->iN (iH X pins) H s.heap e C->tX X.K (g x) D σ H->
  wpAny (model X.prog X.w) X.A (handleBy (.ref e) X.env hs) (SP X pins D) (λ_ _=>xt) s
noncomputable def gNo:Str->Ex:=λ_ _ _=>uk
theorem V9{X:Cx}:HS X [] gNo:=⟨λ_ _ _ _ _ _ _ _ _ _ _ z=>by
 obtain⟨M,E,S,fl,E',S',e,_⟩:=z
 cases e⟩
structure XmD(K:Wp)(mg:Str->uo W1)(xs:Gc Str)(y:Str):Prop where
 ex:∃C',mg y=Fk (.ref C')/\∀x∈xs,∀C,mg x=Fk (.ref C)->yn K (.ref C) (.ref C')=Fk (x==y)
noncomputable def gOr(xs:Gc Str)(y:Str)(f:Ex)(g:Str->Ex):Str->Ex:=λx=>if x∈xs then(if(x==y)=true then f else g x)else MA
theorem dc{X:Cx}{pins:Gc (uu×Obj)}{σ:St}{H:Hp}{s:ur}{old:uu->Prop}{e C:uu}{Q:Unit->ur->Prop}{E:W1->ur->Prop}{A:vj}{M:Model}(I:Inv X pins σ H s)(f:iN old H s.heap e C)(ho:∀b,old b->s.heap.get? b≠uk)(hQ:∀h',Trn X old H s.heap h' e C->Q () {s with heap:=h'}):wpAny M A (setFlight (.ref e) uk) Q E s:=by
 obtain⟨oe,vs,a0,T,oT,ts,h1,h2,h3,h4,h5,t2,t3,t4,t5,t6,t7⟩:=f.ex
 have hh:∀b∈frs X.stack,b∈e::T::frs X.stack:=λb m=>uv _ (uv _ m)
 refine WK (s:=s) (h':=s.heap) (a0:=a0) (fl:=.none) I f.fly ho (e::T::frs X.stack) (λb m=>?_) ⟨SJ,O1 hh I.stack,?_,λb o e1 _=>⟨o.slots,e1⟩⟩ hQ
 .rcases uw.mp m with z|m
  .exact .inr (.inl z)
  .rcases uw.mp m with z|m
   .subst z
    exact .inr (.inr ⟨t6,t7,oT,ts,t3,t4⟩)
   .exact .inl m
 .exact⟨oe,vs,T,oT,ts,h1,⟨h2,h4⟩,h3,h5,MQ (uv _ vA),t2,t3,t4,t5⟩
theorem E8{X:Cx}{xs:Gc Str}{y:Str}{b₀:vh}{suite:Gc vh}{f:Ex}{g:Str->Ex}{np pos:Pos}{rest:Gc xU}(xm:XmD X.K X.mg xs y)(hg:Gl X y)(hf:∀e,DSs (Cx.mrk X e) (b₀::suite) f)(hr:HS X rest g)(hxe:X.xe=λ_ _=>xt:=by rfl)(hx:X.ex=[]:=by rfl)(hst:X.stack=X.env::X.outer:=by rfl)(hfr:X.env.frame=Fk X.env.locals:=by rfl)(hdb:(y==("__debug__":Str))=false:=by decide):HS X (.ExceptHandler (Fk (.Name y np)) uk (b₀::suite) pos::rest) (gOr xs y f g):=⟨by
 intro x C hm pins s σ H D e I fl z
 obtain⟨C',hm',hex⟩:=xm.ex
 have hin:x∈xs:=by
  by_cases h:x∈xs
  .exact h
  .obtain⟨M,E,S,fl,E',S',e,_⟩:=z
   unfold gOr at e
   rw[vf h]at e
   cases e
 have z':tX X.K (if(x==y)=true then f else g x) D σ H:=by
  unfold gOr at z
  rw[va hin]at z
  exact z
 have ex:=hex x hin C hm
 obtain⟨oe,vs,a0,T,oT,ts,h1,h2,_⟩:=id fl.ex
 have LT:PySem.W.Looks (model X.prog X.w) s.heap (typeOf (.ref e)) (.ref C):=by
  rw[<-h2];exact(PySem.W.Looks.ld h1).andThen .now
 refine wpAny_handleBy_cons (codeAny_handlers_test (yk I.ok.kind hg (AAx (by rw[I.ok.glob];exact I.mod.glob.keeps I.bk) hm' ?_) hdb)) (by intro q;cases q)
 refine PySem.W.exm_one I.kIn LT ex _ _ _ _ (λ_ _ q=>q) ?_
 cases hb:(x==y)with
 |true=>
  rw[va hb]at z'
  refine codeAny_handlers_suite (wpAny_passesOwnAt PassesOwnAt.never (dc I fl (Ib I hx) λh' t=>?_))
  have I':=dy (e:=e) (X7 I hst hfr hx t)
  exact wpAny_passesOwnAt PassesOwnAt.never (LL (X:=Cx.mrk X e) hxe ((hf e).pe pins _ σ H D I' z') λfl s2 w=>ao I.ok w)
 |false=>
  rw[vf (by rw[hb];decide)]at z'
  exact hr.pe x C hm pins s σ H D e I fl z'⟩
section
variable{X:Cx}{pos:Pos}
noncomputable def Vq(oa ob oc:Ev):Ev:=λE S=>(evs [oa,ob] E S).bind λr=>match r.1 with
 | [.int i,.int j]=>if i<=j then(oc E r.2).bind λp=>match p.1 with
     | .int k=>Fk (.bl (decide (j<k)),p.2)
     |_=>uk
   else Fk (.bl false,r.2)
 |_=>uk
theorem oX{K:Wp}{oa ob oc:Ev}{σ:Sg}{H:Hp}{Q:VK}(h:tD K (Vq oa ob oc) σ H Q):c7 (rI0 λi j=>.bl (decide (i<=j))) (rI0 λi j=>.bl (decide (i<j))) (tD K oa) (tD K ob) (tD K oc) σ H Q:=by
 obtain⟨M,E,S,d,S',e,r,st,q⟩:=h
 obtain⟨⟨ws,S1⟩,e1,e⟩:=BK e
 have zz:=JG (K:=K) (σ:=σ) (fs:=[oa,ob]) (Q:=λvs H2=>∃i j:Int,vs=[V.int i,V.int j]/\rI0 (λi j=>.bl (decide (i<=j))) (.int i) (.int j) H2 λz H3=>∃k,z=.bl k/\(if k=true then tD K oc σ H3 λw' H4=>rI0 (λi j=>.bl (decide (i<j))) (.int j) w' H4 Q else Q (.bl false) H3)) e1 r st (λvs H1 M1 g1 st1 r1=>by
  dsimp only at e
  split at e
  .rename_i i j
   have hv:=ZL r1
   refine⟨i,j,hv,i,j,rfl,rfl,_,rfl,?_⟩
   by_cases hij:i<=j
   .rw[va hij]at e
    rw[va (by simpa using hij)]
    obtain⟨⟨w2,S2⟩,e2,e⟩:=BK e
    dsimp only at e
    split at e
    .rename_i k
     cases e
     refine⟨M1,E,S1,_,_,e2,r.step g1.st,st1,λv H2 M2 g2 st2 r2=>?_⟩
     cases r2
     exact⟨j,k,rfl,rfl,q _ _ M2 (g1.trans g2) st2 (.bl _)⟩
    .cases e
   .rw[vf hij]at e
    cases e
    rw[vf (by simpa using hij)]
    exact q _ _ M1 g1 st1 (.bl _)
  .cases e)
 refine Il (show tD K oa σ H _ from zz) λx H1 z1=>Il z1 λy H2 z2=>?_
 obtain⟨i,j,ev,z2⟩:=z2
 cases ev
 exact z2
theorem eX{a b c:vU}{oa ob oc:Ev}(ha:DE X a oa)(hb:DE X b ob)(hc:DE X c oc)(hm:lastMarks [.LtE,.Lt] [b,c]=false:=by with_unfolding_all rfl):DE X (.Compare a [.LtE,.Lt] [b,c] pos) (Vq oa ob oc):=⟨
 CP (av jD i0 ha.pe hb.pe hc.pe hm) λ_ _ _ h=>oX h⟩
end
theorem pJ{K:Wp}{h:ve}{mg:Str->uo W1}{xs:Gc Str}{y:Str}{C':uu}(X:K.In h)(G:h.Ns mainGlobals mg)(e:xK K mainGlobals y=Fk (Fk (.ref C')))(t:∀x∈xs,∃C,xK K mainGlobals x=Fk (Fk (.ref C))/\yn K (.ref C) (.ref C')=Fk (x==y)):XmD K mg xs y:=⟨C',y8 X G e,λx hx C hm=>by
 obtain⟨C2,e2,q⟩:=t x hx
 have:=hm.symm.trans (y8 X G e2)
 cases this
 exact q⟩
theorem all_nil{p:Str->Prop}:∀x∈([]:Gc Str),p x:=λ_ z=>nomatch z
theorem all_cons{p:Str->Prop}{x:Str}{xs:Gc Str}(h:p x)(t:∀x∈xs,p x):∀y∈x::xs,p y:=λy m=>by
 rcases uw.mp m with rfl|m
 .exact h
 .exact t y m
def ng(K:Wp):V->V->Hp->VK->Prop:=λo i H Q=>∃p xs k z,o=.ref p/\i=.int k/\0<=k/\H p=Fk (.lst xs)/\xs[k.toNat]?=Fk z/\Q z H
theorem Xf{X:Cx}:qh X (ng X.K):=by
 intro pins s σ H x y v u Q I rx ry h
 obtain⟨p,xs,i,z,rfl,rfl,h0,hp,he,q⟩:=h
 cases rx
 obtain⟨t,rfl⟩:=ry
 obtain⟨its,r,pl,hz⟩:=I.list (xs:=xs) (.inl (.of hp))
 obtain⟨w,ew,rw'⟩:=r.get he
 have hl:=r.length
 have hn:=R5
 have hi:i.toNat<its.length:=(vB.mp ew).1
 exact wpAny_getItem_list pl.isList h0 (by omega) (by simpa using ew) ⟨z,H,I,rw',q⟩
noncomputable def aq(g:Int->Int->Int)(f o k:Ev):Ex:=λE S=>(f E S).bind λb=>(o E b.2).bind λi=>match b.1,i.1 with
 | .ref n,.int j=>(GY i.2 n).bind λds=>(ixN ds.length j).bind λm=>if 0<=j then match ds[m]? with
   |some (.int a)=>(k E i.2).bind λr=>match r.1 with
    | .int c=>(GY r.2 n).bind λds'=>(ixN ds'.length j).map λm'=>(.nx,E,r.2.set n (.lst (ds'.set m' (.int (g a c)))))
    |_=>uk
   |_=>uk
   else uk
 |_,_=>uk
theorem jT{X:Cx}{e t bs:vU}{k f o:Ev}{op:Operator}{g:Int->Int->Int}{ps pos:Pos}(hb:DE X bs f)(ht:DE X t o)(h:DE X e k)(hp:PIp X op (ipI g))(ha:∀ov iv new,augStore t ov iv new=(do holding [new,ov,iv] (setItem ov iv new);release [new,ov,iv] [];pure .next):=by intros;rfl):DS X (.AugAssign (.Subscript bs t ps) op e pos) (aq g f o k):=⟨
 IX (fM hb.pe ht.pe Xf h.pe hp set_list ha) λDn σ H z=>by
  obtain⟨M,E,S,fl,E',S',e,r,st,q⟩:=z
  obtain⟨⟨b,S1⟩,e1,e⟩:=BK e
  obtain⟨⟨i,S2⟩,e2,e⟩:=BK e
  dsimp only at e e1 e2
  split at e
  case h_2=>cases e
  rename_i n j _
  obtain⟨ds,e3,e⟩:=BK e
  obtain⟨m,e4,e⟩:=BK e
  split at e
  case isFalse=>cases e
  rename_i h0
  split at e
  case h_2=>cases e
  rename_i a e5
  obtain⟨⟨c,S3⟩,e6,e⟩:=BK e
  dsimp only at e e6
  split at e
  case h_2=>cases e
  rename_i c
  obtain⟨ds',e7,e⟩:=BK e
  obtain⟨m',e8,e⟩:=NR e
  cases e
  refine⟨M,E,S,_,S1,e1,r,st,λbv H1 M1 g1 st1 r1=>?_⟩
  refine⟨M1,E,S1,_,S2,e2,r.step g1.st,st1,λiv H2 M2 g2 st2 r2=>?_⟩
  cases r2
  cases r1 with
  |ref hc=>
   rename_i ad
   have hc2:=N2 g2.pre hc
   obtain⟨xs,h1,h2⟩:=st2.cell n ad _ hc2 (Ez e3)
   have hm:m=j.toNat:=by
    unfold ixN at e4
    rw[va h0]at e4
    split at e4
    .cases e4;rfl
    .cases e4
   subst hm
   obtain⟨z,e9,r9⟩:=h2.get e5
   cases r9
   refine⟨ad,xs,j,.int a,rfl,rfl,h0,h1,e9,?_⟩
   refine⟨M2,E,S2,_,S3,e6,(r.step g1.st).step g2.st,st2,λcv H3 M3 g3 st3 r3=>?_⟩
   cases r3
   refine⟨a,c,rfl,rfl,?_⟩
   have hc3:=N2 g3.pre hc2
   obtain⟨ys,h3,h4⟩:=st3.cell n ad _ hc3 (Ez e7)
   obtain⟨st4,g4⟩:=st3.chg hc3 (Ez e7) (h4.set (.int (g a c)) m')
   have gg:=((g1.trans g2).trans g3).trans g4
   exact⟨ad,ys,j,m',rfl,rfl,h3,by rw[h4.length];exact e8,q _ _ M3 gg (r.step gg.st) st4⟩⟩
abbrev sO(led:vm):Obj:={cls:=.type "set",dict:=uk,data:=.set #[] 0 (.fresh 0 0 led)}
section
variable{prog:vR}{w:vi}{A:vj}{E:W1->ur->Prop}{s:ur}{l:uu}{items:wK W1}{ns:Gc Int}
abbrev Tu(ns:Gc Int)(n:Nat):Gc Int:=vt (λi=>ns.getD i 0) n
theorem aU{led:vm}{Q:W1->ur->Prop}(hh:A.handled=uk)(hl:s.heap.IsTuple l items)(hi:xI items.toList ns)(hb:items.size+1<scanBound)(h:∀(h':ve) (tk:Nat),h'.SetOf (intKind prog w) s.heap.objs.size (λk=>(Tu ns items.size).any (· ==k)) (Tu ns items.size).length->(∀b o,s.heap.get? b=Fk o->h'.get? b=Fk o)->Q .none {s with heap:=h',toks:=tk}):codeAny (model prog w) A (.call (.builtin "set.__init__") ⟨[.ref s.heap.objs.size,.ref l],[]⟩) (wants Q E) {s with heap:=s.heap.push (sO led)}:=by
 have me:(s.heap.push (sO led)).get? s.heap.objs.size=Fk (sO led):=vM _ rfl
 have ty:AB4 {s with heap:=s.heap.push (sO led)} (.ref s.heap.objs.size) "set":=⟨_,me,rfl⟩
 have hl1:=hl.push (sO led)
 obtain⟨o,ho,hc,n,hd⟩:=id hl
 have lt:=vI ho
 refine codeAny_call_builtin yX.init.plain F.entry_set_init (check_set_init_1 ty ?_)
 have ho1:=tz (sO led) ho
 obtain⟨c0,d0,q0,l0⟩:=o
 cases hc;cases hd
 have n1:=F.sub_tuple_set
 have n2:=F.sub_tuple_frozenset
 have n3:(zZ "tuple" ==zZ "dict")=false:=by decide
 unfold zP.«set.__init__» noKeywords Builtin.Frozenset.updateFrom
 generalize pi:pyIter=it
 wp_walk
 subst pi
 refine xD hl1 (um (wpAny_runValue ?_))
 have sz:(s.heap.push (sO led)).objs.size=s.heap.objs.size+1:=wg ..
 have ap:l≠(s.heap.push (sO led)).objs.size:=by rw[sz];exact vZ (AAl lt)
 refine ABt ((Walks.tuple (by simp[hh]) _ l ap items).toS) s.heap.objs.size (by rw[sz,uw,vQ,AAp];exact⟨vZ (Nat.lt_succ_self _),AA6 lt⟩) (λi=>ns.getD i 0)
  (λi v hv=>hi.int_at i v (by rw[Array.getElem?_toList];exact hv)) hb (items.size-0) 0 _ (by omega) (xf _) ⟨⟨_,vM _ rfl,rfl,rfl⟩,hl1.push _⟩ ?_ ?_
 .exact PyProof.Rows.SetOf_congr ((PyProof.Rows.setObjOf_fresh (knd:=intKind prog w) led).setOf (tz _ me) (by unfold scanBound;omega)) (λ_=>rfl) rfl
 .rintro ⟨h',g',d',tk',os'⟩ hm hS
  have e1:g'=s.gens:=hm.gens
  have e2:d'=s.drawn:=hm.drawn
  have e3:os'=s.os:=hm.os
  subst e1 e2 e3
  refine vD (show wpAny _ _ (ret wW) _ _ _ from vD (h h' tk' hS λb u e=>?_))
  have lb:=vI e
  exact hm.heap b u (by rw[sz,uw,vQ,AAp];exact⟨vZ lb,vZ (AAl lb)⟩) (tz _ (tz _ e))
theorem Zn{Q:W1->ur->Prop}(hh:A.handled=uk)(hl:s.heap.IsTuple l items)(hi:xI items.toList ns)(hb:items.size+1<scanBound)(h:∀(h':ve) (tk:Nat),h'.SetOf (intKind prog w) s.heap.objs.size (λk=>(Tu ns items.size).any (· ==k)) (Tu ns items.size).length->(∀b o,s.heap.get? b=Fk o->h'.get? b=Fk o)->Q (.ref s.heap.objs.size) {s with heap:=h',toks:=tk}):wpAny (model prog w) A (call (.type "set") [.ref l]) Q E s:=by
 obtain⟨c,tl,mr⟩:=yX.mro
 have z1:=yX.made
 have z2:=yX.sub
 have z3:=yX.notType
 have z4:=yX.canCreate
 have z5:=F.typeCall_set_1 (.ref l)
 refine AAO (codeAny_of_tree (show wpAny _ _ (callAny (.type "set") _) _ _ _ from vD ⟨Code.quiet_builtin _ (by decide+kernel),ABL F.entry_type_call ?_⟩))
 rw[Around.under_plain (weight_type_call_type "set" [.ref l] []) rfl]
 repeat (any_goals (first|assumption|wp_step))
 refine yq (code_set_new_1 (.ref l) (E:=E) (Q₁:=λu s1=>∃led,u=.ref s.heap.objs.size/\s1={s with heap:=s.heap.push (sO led)}) λled=>⟨led,rfl,rfl⟩) ?_
 rintro (e|(_|u|_)) s1 hr
 all_goals first|exact hr|exact hr.elim|skip
 obtain⟨led,rfl,rfl⟩:=hr
 have me:(s.heap.push (sO led)).get? s.heap.objs.size=Fk (sO led):=vM _ rfl
 have ty:AB4 {s with heap:=s.heap.push (sO led)} (.ref s.heap.objs.size) "set":=⟨_,me,rfl⟩
 have y1:=yX.init.lookup
 have y2:=yX.init.bind (.ref s.heap.objs.size)
 repeat (any_goals (first|assumption|wp_step))
 refine yq (aU (E:=E) (led:=led) (Q:=λr s2=>r=.none/\∃h' tk,s2={s with heap:=h',toks:=tk}/\h'.SetOf (intKind prog w) s.heap.objs.size (λk=>(Tu ns items.size).any (· ==k)) (Tu ns items.size).length/\∀b o,s.heap.get? b=Fk o->h'.get? b=Fk o) (by simp[hh]) hl hi hb λh' tk hS hk=>⟨rfl,h',tk,rfl,hS,hk⟩) ?_
 rintro (e|(_|u|_)) s2 hr
 all_goals first|exact hr|exact hr.elim|skip
 obtain⟨rfl,h',tk,rfl,hS,hk⟩:=hr
 repeat (any_goals (first|assumption|wp_step))
 exact h _ _ hS hk
end
noncomputable def tSL(K:Wp)(ta:TA):TE:=λσ H Q=>ta σ H λvs H1=>∃(a:uu) (ns:Gc Int),vs=[.ref a]/\SqT K H1 a (ns.map V.int)/\ns.length<=1000/\Q (.int ((Tu ns ns.length).length:Int)) H1
theorem Wd:∀{ns:Gc Int} {us:Gc W1},Vals (ns.map V.int) us->xI us ns
 | [],_,h=>by cases h;exact .nil
 |n::ns,_,h=>by
  cases h with
  |cons h t=>
   obtain⟨k,rfl⟩:=h
   exact .cons n k (Wd t)
theorem oM{X:Cx}{a:vU}{ta:TA}{p p' pos pos':Pos}(hc:X.calm=true)(hgl:Gl X "len")(hml:X.mg "len"=uk)(hg:Gl X "set")(hm:X.mg "set"=uk)(ha:PA X [a] ta)(hs:vP [a] X.env=[(false,eval a X.env)]:=by rfl)(hs2:vP [Expr.Call (.Name "set" p) [a] [] pos] X.env=[(false,eval (.Call (.Name "set" p) [a] [] pos) X.env)]:=by rfl):PE X (.Call (.Name "len" p') [.Call (.Name "set" p) [a] [] pos] [] pos') (tSL X.K ta):=by
 intro pins s σ H Q I h
 refine wL (MB I hgl hml wq ?_ (by decide) (by decide))
 refine zd ?_ hs2 rfl
 rw[hs2]
 show wpAny _ _ (spliced ((false,eval (.Call (.Name "set" p) [a] [] pos) X.env)::backTo pos' [])) _ _ s
 refine yQ ?_
 refine wL (MB I hg hm PyProof.Rows.boot_set ?_ (by decide) (by decide))
 refine wZ (thn (ha pos pins s σ H _ I h) λus s1 ⟨vs,H1,I1,r1,q1⟩=>?_) hs rfl
 obtain⟨b,ns,e,hT,hz,q⟩:=q1
 subst e
 cases r1 with
 |cons r rr=>
  cases rr
  cases r
  obtain⟨its,rv,tp,_⟩:=I1.tuple hT
  have hI:=Wd rv
  have hl:its.length=ns.length:=by have:=rv.length;simpa using this.symm
  have hl2:its.toArray.size=ns.length:=by rw[vF,hl]
  refine Zn (items:=its.toArray) (ns:=ns) (I1.ok.hd hc) tp (by simpa using hI) (by rw[hl2];unfold scanBound;omega) λh' tk hS hk=>yZ ?_
  rw[hl2]at hS
  obtain⟨o,es,ep,t,ho,hex,hd,_,_,hb,hf,hn⟩:=hS
  have hsz:((es.size:Nat):Int)<2^63:=by unfold scanBound at hb;omega
  refine call_len_set ho hex hd hf hsz ⟨.int es.size,H1,I1.kept hk,⟨_,rfl⟩,?_⟩
  rw[hn]
  exact q
noncomputable def slK(r:D×Sto):uo (D×Sto):=match r.1 with
 | .tup ds=>(Mg ds).bind λns=>if ns.length<=1000 then Fk (.int ((Tu ns ns.length).length:Int),r.2)else uk
 |_=>uk
noncomputable def eSL(o:Ev):Ev:=λE S=>(o E S).bind slK
theorem eE{X:Cx}{a:vU}{o:Ev}{p p' pos pos':Pos}(hc:X.calm=true)(hgl:Gl X "len")(hml:X.mg "len"=uk)(hg:Gl X "set")(hm:X.mg "set"=uk)(ha:DEs X [a] [o])(hs:vP [a] X.env=[(false,eval a X.env)]:=by rfl)(hs2:vP [Expr.Call (.Name "set" p) [a] [] pos] X.env=[(false,eval (.Call (.Name "set" p) [a] [] pos) X.env)]:=by rfl):DE X (.Call (.Name "len" p') [.Call (.Name "set" p) [a] [] pos] [] pos') (eSL o):=⟨
 CP (oM hc hgl hml hg hm ha.pe hs hs2) λσ H Q z=>by
  obtain⟨M,E,S,d,S',e,r,st,q⟩:=z
  obtain⟨⟨w,S1⟩,e1,e⟩:=BK e
  have e1':evs [o] E S=Fk ([w],S1):=by
   show(o E S).bind (λr=>(evs [] E r.2).map λq=>(r.1::q.1,q.2))=_
   rw[e1];rfl
  refine JG e1' r st λvs H1 M1 g1 st1 r1=>?_
  unfold slK at e
  split at e
  .rename_i ds he
   have he:w=.tup ds:=he
   subst he
   obtain⟨ns,en,e⟩:=BK e
   split at e
   .rename_i hz
    cases e
    cases r1 with
    |cons r1 rn=>
     cases rn
     cases r1 with
     |tup h rs=>
      have:=Ml rs en
      subst this
      exact⟨_,ns,rfl,h,hz,q _ _ M1 g1 st1 (.int _)⟩
   .cases e
  .cases e⟩
end Mi
end
noncomputable section
namespace Mi
open PySem PySem.Spec L2 PyProof.Rows
abbrev eIx(a b:Ev):Ev:=eOp (o2 wIx) [a,b]
abbrev eI(n:Int):Ev:=eC (.int n)
theorem scM{N P:Gc Str}{sc:wX}(a:sc.kind=.function:=by rfl)(b:sc.isCoroutine=false:=by rfl)(c:sc.isGenerator=false:=by rfl)(d:N.Nodup:=by decide+kernel)(e:N.take P.length=P:=by rfl)(f:∀x∈P,sc.names.lookup x=Fk .local\/sc.names.lookup x=Fk .cell:=by decide+kernel)(g:∀y∈sc.names,y.2≠.free:=by decide+kernel):AQ N P sc:=⟨a,b,c,d,e,f,g⟩
theorem csM{N:Gc Str}{osc:wX}{N':Gc Str}{ix:Gc (uo Nat)}{scope:wX}(a:scope.kind=.function:=by rfl)(b:∀y∈scope.names,y.2=.cell->scope.names.lookup y.1=Fk .cell:=by decide+kernel)(c:∀y∈scope.names,y.2=.local->scope.names.lookup y.1=Fk .local:=by decide+kernel)(d:∀y∈scope.names,y.2=.free->(osc.names.lookup y.1=Fk .cell\/osc.names.lookup y.1=Fk .free):=by decide+kernel)(e:WM N osc scope N' ix=true:=by decide+kernel):AZ N osc N' ix scope:=⟨a,b,c,d,e⟩
theorem U7{α:Type}{us:Gc α}(h:us.length=1):∃a,us=[a]:=by
 match us,h with
 | [a],_=>exact⟨a,rfl⟩
theorem ml{α:Type}{us:Gc α}(h:us.length=2):∃a b,us=[a,b]:=by
 match us,h with
 | [a,b],_=>exact⟨a,b,rfl⟩
theorem qz{α:Type}{us:Gc α}(h:us.length=3):∃a b c,us=[a,b,c]:=by
 match us,h with
 | [a,b,c],_=>exact⟨a,b,c,rfl⟩
theorem sV{us:Gc W1}{n:Nat}(h:us.length=n):∃f:Nat->W1,us=(vS n).map f:=by
 refine⟨λi=>us.getD i .none,?_⟩
 subst h
 apply List.ext_getElem
 .simp
 .intro i h1 h2
  rw[List.getElem_map,List.getElem_range,vO,ux h1];rfl
def BnR(x:Str)(st:vh)(ps:Gc Str):Prop:=∀(kV doc pm:W1) (an:uo uu) (cdv ct:W1) (f:Nat->W1),bindArgs (yS x x (N3 st) (D3 st) (AI st) .none kV doc pm an cdv ct) ⟨(vS ps.length).map f,[]⟩=pure (ps.zip ((vS ps.length).map f))
theorem bnR{K:Wp}{x:Str}{st:vh}{ps:Gc Str}{f:uu}{fd:xH}(F:Fun K x x st f fd)(h:BnR x st ps):Binds K fd ps []:=F.binds λa b c d e g us hl=>by
 obtain⟨k,rfl⟩:=sV hl
 exact h a b c d e g k
section
variable{P:vR}{w:vi}{K:Wp}{mg:Str->uo W1}{base:ve}
theorem dfM{x:Str}{st:vh}{N ps:Gc Str}(k:Nat){np:Nat}{b:Ex}(S:St.Src K mg x st)(sc:AQ N ps (AI st))(hb:∀{f:uu} {cdv:W1} {A:vj} {outer:Gc wy} {s:ur} {H:Hp} {E:XK},JS k (A.deeper (v3 x (AI st) s.heap.objs.size f cdv))->(A.deeper (v3 x (AI st) s.heap.objs.size f cdv)).units+100<cLine->DSs (OT CX0 P w K mg base N x (AI st) f cdv A outer s H E).nox (D3 st) b)(hp:ps.length=np:=by rfl)(hbi:BnR x st ps:=by exact λ_ _ _ _ _ _ _=>rfl):St.Dfn P w K mg base x (k+1) ps (spD K np (Ao (A5 N.length b))):=je S sc hp (λ_ _ F=>bnR F hbi) λ_ _ _ _ _ _ _ hr=>hb hr (JW hr)
end
theorem deM{X:Cx}{k k' np:Nat}{x:Str}{ps:Gc Str}{f:Fn}{e:vU}{es:Gc vU}{fs:Gc Ev}{p pos:Pos}(d:St.Dfn X.prog X.w X.K X.mg X.base x k ps (spD X.K np f))(hr:JS k' X.A)(ha:DEs X (e::es) fs)(hk:k<=k':=by first|decide|omega)(hg:Gl X x:=by exact rfl)(hn:fs.length=np:=by rfl)(hdb:(x==("__debug__":Str))=false:=by decide)(he:vP (e::es) X.env=(false,eval e X.env)::vP es X.env:=by rfl)(hpl:(backTo pos (vP es X.env)).any (·.1)=false:=by rfl):DE X (.Call (.Name x p) (e::es) [] pos) (AJ f fs):=dz d (hr.mono hk) hg ha hn hdb he hpl
end Mi
end
noncomputable section
namespace Mi
open PySem PySem.Spec L2 PyProof.Rows
def BmB(mg:Str->uo W1)(base:ve):Prop:=
 ∃bm o,mg "__builtins__"=Fk (.ref bm)/\bm≠builtinsNs/\bm≠mainGlobals/\base.get? bm=Fk o/\o.cls=.type "module" /\o.dict=Fk builtinsNs/\o.data=.plain
theorem Ny.hd{K:Wp}{h:ve}{c P:uu}(k:Ny K c P)(X:K.In h):PySem.W.CodeHd h c P:=by
 obtain⟨o,vs,file,tf,flags,tg,inF,text,tt,h0,r⟩:=k
 exact⟨o,vs,file,tf,flags,tg,inF,text,tt,X _ _ h0,r⟩
theorem W4{pos:Pos}{a b:Int}{v cv:W1}{l:Gc W1}(h:TriplesOk l)(e:codeAmong pos (l++[rawInt a,rawInt b,v])=Fk cv):codeAmong pos l=Fk cv\/cv=v:=by
 induction l using TriplesOk.induct with
 |case1=>
  rw[vX,yw]at e
  unfold rawInt at e
  dsimp only at e
  split at e
  .cases e;exact .inr rfl
  .rw[yw]at e;cases e
 |case2 i t1 j t2 w r ih=>
  rw[TriplesOk.eq_def]at h
  rw[vb,vb,vb,yw]at e
  rw[yw]
  dsimp only at e h⊢
  split at e
  .rename_i z;rw[va z];exact .inl e
  .rename_i z;rw[vf z];exact ih h e
 |case3 l n1 n2=>
  rw[TriplesOk.eq_def]at h
  split at h
  .exact(n1 rfl).elim
  .exact(n2 _ _ _ _ _ _ rfl).elim
  .exact h.elim
structure VW(X:Cx)(pins:Gc (uu×Obj))(σ:Sg)(H:Hp)(s:ur)(x:Str)(P:uu)(params:AAM)(body:vU)(sc:wX)(clos:Gc (Str×uu))(f:uu)(H':Hp)(s':ur):Prop where
 inv:Inv X pins σ H' s'
 fn:∃pm c' ctv o,s'.heap.get? f=Fk (ABM "<lambda>" (Pd x) params body sc clos pm c' ctv)/\H' c'=Fk (.frz o (.own 0))/\ZO (Pd x) o
 new:s.heap.objs.size<=f
 tab:∃ps,H' P=Fk (.tbl ps)/\XG X.K H' x P ps
 keep:∀b o,H b=Fk o->b≠P->H' b=Fk o
 none:H' f=uk
theorem ba{X:Cx}{pins:Gc (uu×Obj)}{σ:Sg}{H:Hp}{s:ur}{params:AAM}{body:vU}{sc:wX}{pos:Pos}{x:Str}{c P:uu}{ps:wK W1}{clos:Gc (Str×uu)}{Q:W1->ur->Prop}{E:W1->ur->Prop}(I:Inv X pins σ H s)(hqual:X.env.qual=x++(".<locals>.":Str))(hdf:defaultsOf params X.env=([],[]))(hcl:closureFor sc X.env=pure clos)(hcode:X.env.code=.ref c)(hcd:Ny X.K c P)(bm:BmB X.mg X.base)(hP:H P=Fk (.tbl ps))(tok:XG X.K H x P ps)(hQ:∀f H' s',VW X pins σ H s x P params body sc clos f H' s'->Q (.ref f) s'):wpAny (model X.prog X.w) X.A (eval (.Lambda params body sc pos) X.env) Q E s:=by
 have hG:s.heap.Ns mainGlobals X.mg:=I.mod.glob.keeps I.bk
 have hCH:=hcd.hd I.kIn
 have hT:s.heap.get? P=Fk (zS ps):=I.hok P _ hP
 have hq:X.env.qual++("<lambda>":Str)=Pd x:=by rw[hqual];rfl
 obtain⟨b0,ob,m1,m2,m3,m4,m5,m6,m7⟩:=bm
 have nb:b0≠P:=λz=>by
  have:=(I.bs b0 ob m4).2
  rw[z,hP]at this;cases this
 have hB:s.heap.BuiltinsAt X.mg P:=⟨b0,ob,m1,m2,m3,nb,I.bk _ _ m4,m5,m6,m7⟩
 have gP:mainGlobals≠P:=λz=>by
  obtain⟨o,es,ep,ho,_⟩:=id I.mod.glob
  have:=(I.bs _ o ho).2
  rw[z,hP]at this;cases this
 refine PySem.W.kla_eval hdf ?_
 cases hh:codeAmong pos ps.toList with
 |some cv=>
  refine PySem.W.kla_makeFunctionHit hcl I.ok.glob hG hcode hCH hT tok.tri hh hB λctv h' tk kp sz=>?_
  obtain⟨c',o,rfl,hz,vs,t,n1,n2⟩:=tok.cod pos cv hh
  have hcc:s.heap.get? c'=Fk o:=(I.hok c' _ hz).1
  have kp2:∀b u,s.heap.get? b=Fk u->(h'.push {cls:=zZ "function",data:=Data.func (zT "<lambda>" (X.env.qual++("<lambda>":Str)) params body sc clos ((X.mg "__name__").getD wW) (.ref c') ctv)}).get? b=Fk u:=λb u e=>tz _ (kp b u e)
  refine hQ _ H _ ⟨I.kept (t':=tk) kp2,⟨_,c',ctv,o,by rw[<-hq];exact vM _ rfl,hz,vs,t,n1,n2⟩,sz,⟨ps,hP,tok⟩,λ_ _ e _=>e,I.hok.fresh sz⟩
 |none=>
  refine PySem.W.kla_makeFunction hcl I.ok.glob hG hcode hCH hT tok.tri hh gP hB λc' ctv h' tk ext l1 l2 crec ht=>?_
  rw[hq]at crec
  generalize hfo:(ABM "<lambda>" (X.env.qual++("<lambda>":Str)) params body sc clos ((X.mg "__name__").getD wW) c' ctv)=fo
  have hfo2:fo=ABM "<lambda>" (Pd x) params body sc clos ((X.mg "__name__").getD wW) c' ctv:=by rw[<-hfo,hq]
  obtain⟨c1,o,vs,t,ec,ho,hd,hv⟩:=id crec
  cases ec
  have kp:∀b u,b≠P->s.heap.get? b=Fk u->(h'.push fo).get? b=Fk u:=λb u n e=>tz _ (ext b u n e)
  have nH:H c'=none:=I.hok.fresh l1
  have cP:c'≠P:=λz=>by rw[z,hP]at nH;cases nH
  generalize hmo:ps++ #[rawInt ↑pos.line,rawInt ↑pos.col,wN c']=ps2 at ht
  let H':Hp:=upd (upd H c' (.frz o (.own 0))) P (.tbl ps2)
  have hk:∀b u,H b=Fk u->b≠P->H' b=Fk u:=λb u e n=>by
   show upd (upd H c' (.frz o (.own 0))) P (.tbl ps2) b=Fk u
   rw[Au n,Au (λz=>by rw[z,nH]at e;cases e)]
   exact e
  have hc1:H' c'=Fk (.frz o (.own 0)):=by
   show upd (upd H c' (.frz o (.own 0))) P (.tbl ps2) c'=_
   rw[Au cP,Br]
  have hP':H' P=Fk (.tbl ps2):=Br
  have hn:∀b,b≠P->b≠c'->H b=uk->H' b=none:=λb n1 n2 e=>by
   show upd (upd H c' (.frz o (.own 0))) P (.tbl ps2) b=uk
   rw[Au n1,Au n2];exact e
  have pP:(h'.push fo).get? P=Fk (zS ps2):=tz _ ht
  have po:(h'.push fo).get? c'=Fk o:=tz _ ho
  have fz:fo.isFreed=false:=by rw[<-hfo];rfl
  have un:Un X.fs [] H H' s.heap (h'.push fo):=by
   refine⟨λb u e n _ _=>kp b u (λz=>?_) e,λb u e n _ _=>⟨u.slots,kp b u (λz=>?_) e⟩,λb u e n _=>hn b (λz=>?_) (λz=>?_) n,λb u e _=>?_,λb xs e=>hk b _ e (λz=>?_),λb u v e=>hk b _ e (λz=>?_),λb qs e=>?_⟩
   .rw[z,hP]at n;cases n
   .rw[z,hP]at n;cases n
   .rw[z,hP]at n;cases n
   .subst z;exact absurd (uy (vI e) l1) (wj _)
   .by_cases z:b=P
    .subst z;exact⟨_,pP⟩
    .exact⟨u,kp b u z e⟩
   .rw[z,hP]at e;cases e
   .rw[z,hP]at e;cases e
   .by_cases z:b=P
    .subst z
     rw[hP]at e;cases e
     exact⟨_,by rw[hmo];exact hP'⟩
    .exact⟨#[],by rw[Array.append_empty];exact hk b _ e z⟩
  have hok:HOk X.prog X.w H' (h'.push fo):=λa u q=>by
   by_cases z:a=P
   .subst z
    rw[hP']at q;cases q
    exact pP
   .by_cases z2:a=c'
    .subst z2
     rw[hc1]at q;cases q
     exact⟨po,o,po⟩
    .have q0:H a=Fk u:=by
      have:H' a=H a:=by
       show upd (upd H c' (.frz o (.own 0))) P (.tbl ps2) a=_
       rw[Au z,Au z2]
      rw[<-this];exact q
     refine(I.hok a u q0).Zq (λb v hb e=>kp b v (λzz=>?_) e) (λb e=>hk b _ e (λzz=>?_)) λb xs e=>hk b _ e (λzz=>?_)
     .rcases hb with hb|hb
      .exact z (hb.symm.trans zz)
      .rw[zz,hP]at hb;cases hb
     .rw[zz,hP]at e;cases e
     .rw[zz,hP]at e;cases e
  have sz:s.heap.objs.size<=h'.objs.size:=AAF (vd l1 l2)
  have nF:H' h'.objs.size=none:=hn _ (λz=>by rw[<-z]at ht;exact absurd (vI ht) (wj _)) (λz=>by rw[<-z]at l2;exact wj _ l2) (I.hok.fresh sz)
  refine hQ _ H' _ ⟨I.un (t':=tk) un hok,⟨_,c',ctv,o,by rw[<-hfo2];exact vM _ fz,hc1,vs,t,hd,hv⟩,sz,⟨ps2,hP',?_⟩,hk,nF⟩
  refine⟨by rw[<-hmo];simpa using TriplesOk_snoc pos.line pos.col (.ref c') ps.toList tok.tri,tok.tat,λpos' cv e=>?_⟩
  rw[<-hmo]at e
  rcases W4 (l:=ps.toList) tok.tri (by simpa using e)with z|z
  .obtain⟨c2,o2,z1,z2,z3⟩:=tok.cod pos' cv z
   exact⟨c2,o2,z1,hk _ _ z2 (λzz=>by rw[zz,hP]at z2;cases z2),z3⟩
  .exact⟨c',o,z,hc1,vs,t,hd,hv⟩
end Mi
end
noncomputable section
namespace Mi
open PySem PySem.Spec L2
section
open PyProof.Rows (Below)
structure Qo(H:Hp)(h:ve)(x:Str)(body:vU)(sc:wX)(clos:Gc (Str×uu))(N:Gc Str)(σc:Sg)(f:uu):Prop where
 fn:∃params pm c' ctv o oc,h.get? f=Fk o/\o.data=.func (zT "<lambda>" (Pd x) params body sc clos pm (.ref c') ctv)/\H c'=Fk (.frz oc (.own 0))/\ZO (Pd x) oc/\bindArgs (zT "<lambda>" (Pd x) params body sc clos pm (.ref c') ctv) ⟨[],[]⟩=pure []
 nof:H f=uk
 cell:∀y c,clos.lookup y=Fk c->(∃v,h.IsCell c v)/\H c=uk
 inj:∀y z c,clos.lookup y=Fk c->clos.lookup z=Fk c->y=z
 has:∀y,(sc.names.lookup y=Fk .cell\/sc.names.lookup y=Fk .free)->∃c,clos.lookup y=Fk c
 val:∀(i:Nat) (y:Str) (v:V),N[i]?=Fk y->σc[i]?=Fk (Fk v)->Vis sc y->sc.names.lookup y=Fk .free/\∃c u,clos.lookup y=Fk c/\h.IsCell c (Fk u)/\RelV v u
 len:σc.length=N.length
 kind:sc.kind=.function
 co:sc.isCoroutine=false
 gen:sc.isGenerator=false
 R6:∀y∈sc.names,y.2≠.cell
theorem Qo.later{H H':Hp}{h h':ve}{x:Str}{body:vU}{sc:wX}{clos:Gc (Str×uu)}{N:Gc Str}{σc:Sg}{f:uu}{fs:Gc uu}(L:Qo H h x body sc clos N σc f)(u:Un fs [] H H' h h'):Qo H' h' x body sc clos N σc f:=by
 have cl:∀c v,h.IsCell c v->H c=uk->h'.IsCell c v:=λc v ⟨o,ho,hd⟩ n=>by
  obtain⟨sl,q⟩:=u.any ho n (by simp)
  exact⟨_,q,hd⟩
 obtain⟨params,pm,c',ctv,o,oc,h1,h2,h3,h4,h5⟩:=L.fn
 obtain⟨sl,q⟩:=u.any h1 L.nof (by simp)
 refine⟨⟨params,pm,c',ctv,_,oc,q,h2,u.ZZ _ _ _ h3,h4,h5⟩,u.free f o h1 L.nof (by simp),λy c e=>?_,L.inj,L.has,λi y v e1 e2 e3=>?_,L.len,L.kind,L.co,L.gen,L.R6⟩
 .obtain⟨⟨v,z⟩,n⟩:=L.cell y c e
  obtain⟨o',ho',_⟩:=id z
  exact⟨⟨v,cl c v z n⟩,u.free c o' ho' n (by simp)⟩
 .obtain⟨k,c,w,e,z,r⟩:=L.val i y v e1 e2 e3
  exact⟨k,c,w,e,cl c _ z (L.cell y c e).2,r⟩
noncomputable def Qx(P:vR)(w:vi)(K:Wp)(mg:Str->uo W1)(base:ve)(N:Gc Str)(x:Str)(sc:wX)(clos:Gc (Str×uu))(f c':uu)(A:vj)(outer:Gc wy)(s:ur)(H:Hp):Cx where
 prog:=P
 w:=w
 K:=K
 mg:=mg
 base:=base
 A:=A.deeper (xV (Pd x) sc s.heap.objs.size f (.ref c') clos)
 N:=N
 s₀:=s
 H₀:=H
 env:=xV (Pd x) sc s.heap.objs.size f (.ref c') clos
 outer:=outer
 stack:=xV (Pd x) sc s.heap.objs.size f (.ref c') clos::outer
 ex:=[]
 calm:=true
 fn:=λ_=>false
 pn:=[]
 xe:=λ_ _=>xt
theorem Zm{P:vR}{w:vi}{K:Wp}{mg:Str->uo W1}{base:ve}{N:Gc Str}{x:Str}{body:vU}{sc:wX}{clos:Gc (Str×uu)}{f c':uu}{A:vj}{outer:Gc wy}{s:ur}{H:Hp}{σc:Sg}{h':ve}{tk:Nat}{m:Str->uo W1}(L:Qo H s.heap x body sc clos N σc f)(hd:A.handled=uk)(e0:jW P w K mg base A outer s H)(hns:h'.Ns s.heap.objs.size m)(kp:∀b o,s.heap.get? b=Fk o->h'.get? b=Fk o):Inv (Qx P w K mg base N x sc clos f c' A outer s H) [] σc H {s with heap:=h',toks:=tk}:=by
 have noA:∀b:uu,b∉(Qx P w K mg base N x sc clos f c' A outer s H).ex:=λb z=>absurd (show b∈([]:Gc uu)from z) (by simp)
 have cl:∀c v,s.heap.IsCell c v->h'.IsCell c v:=λc v ⟨o,ho,hd⟩=>⟨o,kp _ _ ho,hd⟩
 refine⟨⟨e0.mod,L.kind,rfl,rfl,u4 _,L.inj,L.has,λy c z _=>absurd z (by intro q;cases q),λ_=>hd,ABY e0.frames,.inr ⟨rfl,rfl⟩,λb z=>absurd z (noA b),e0.bs,e0.bsz,λb _ _=>noA b,λb z=>absurd z (noA b),e0.V8,e0.frf⟩,
  rfl,e0.bare,Un.kept kp,⟨m,hns,λi y v e1 e2 e3=>?_⟩,λy c e=>?_,e0.hok.fresh (u4 _),λy c e=>(L.cell y c e).2,λp hp=>absurd (show p∈([]:Gc (uu×Obj))from hp) (by simp),e0.hok.kept kp,L.len⟩
 .obtain⟨k,c,u,e,z,r⟩:=L.val i y v e1 e2 e3
  exact⟨u,r,.inr ⟨.inr k,c,e,cl c _ z⟩⟩
 .obtain⟨⟨v,z⟩,_⟩:=L.cell y c e
  exact⟨v,cl c v z⟩
theorem iB{X:Cx}{pins:Gc (uu×Obj)}{σ:Sg}{H:Hp}{s:ur}{x:Str}{body:vU}{sc:wX}{clos:Gc (Str×uu)}{N:Gc Str}{σc:Sg}{f:uu}{k:Nat}{t:TE}{Q:VK}(I:Inv X pins σ H s)(hr:JS (k+1) X.A)(L:Qo H s.heap x body sc clos N σc f)(hb:∀c',JS k (X.A.deeper (xV (Pd x) sc s.heap.objs.size f (.ref c') clos))->PE (Qx X.prog X.w X.K X.mg X.base N x sc clos f c' X.A X.stack s H) body t)(ht:t σc H Q):wpAny (model X.prog X.w) X.A (call (.ref f) []) (EP X pins σ Q) X.xe s:=by
 obtain⟨params,pm,c',ctv,o,oc,h1,h2,h3,h4,h5⟩:=L.fn
 have cr:s.heap.CodeRec (.ref c') (Pd x):=by
  obtain⟨vs,t,n1,n2⟩:=h4
  exact⟨c',oc,vs,t,rfl,(I.hok c' _ h3).1,n1,n2⟩
 refine AAO (ABh hr.depth h1 h2 L.co L.gen rfl cr ?_)
 rw[h5]
 refine vD (ABi L.R6 (λ_ z=>nomatch z) (λh' hns sb=>?_) L.kind)
 have kp:∀b ob,s.heap.get? b=Fk ob->h'.get? b=Fk ob:=λb ob e=>by
  rw[sb.2 b (vZ (vI e))]
  exact tz _ e
 have J:=Zm (c':=c') (tk:=s.toks+0) L hr.hd I.ia hns kp
 refine⟨I.nolimit.keeps kp,ABj (we (hb c' (hr.deeper _) [] _ σc H Q J ht) (λu s' z=>?_) λ_ _ z=>z.elim)⟩
 obtain⟨v,H',J',rv,q⟩:=z
 exact I.after ⟨v,H',J'.os,J'.bare,J'.base,J'.hok,rv,q⟩
theorem bM{X:Cx}{pins:Gc (uu×Obj)}{σ:Sg}{H:Hp}{s:ur}{x:Str}{body:vU}{sc:wX}{clos:Gc (Str×uu)}{N:Gc Str}{σc:Sg}{f:uu}{k:Nat}{t:TR}{Z:Rk}(I:Inv X pins σ H s)(hr:JS (k+1) X.A)(L:Qo H s.heap x body sc clos N σc f)(hx:X.ex=[])(hb:∀c',JS k (X.A.deeper (xV (Pd x) sc s.heap.objs.size f (.ref c') clos))->PXe (Qx X.prog X.w X.K X.mg X.base N x sc clos f c' X.A X.stack s H) body t)(ht:t σc H λC _ H'=>Z C σ H'):wpAny (model X.prog X.w) X.A (call (.ref f) []) (λ_ _=>xt) (XP X pins Z) s:=by
 obtain⟨params,pm,c',ctv,o,oc,h1,h2,h3,h4,h5⟩:=L.fn
 have cr:s.heap.CodeRec (.ref c') (Pd x):=by
  obtain⟨vs,t,n1,n2⟩:=h4
  exact⟨c',oc,vs,t,rfl,(I.hok c' _ h3).1,n1,n2⟩
 refine AAO (ABh hr.depth h1 h2 L.co L.gen rfl cr ?_)
 rw[h5]
 refine vD (ABi L.R6 (λ_ z=>nomatch z) (λh' hns sb=>?_) L.kind)
 have kp:∀b ob,s.heap.get? b=Fk ob->h'.get? b=Fk ob:=λb ob e=>by
  rw[sb.2 b (vZ (vI e))]
  exact tz _ e
 have J:=Zm (c':=c') (tk:=s.toks+0) L hr.hd I.ia hns kp
 refine⟨I.nolimit.keeps kp,ABj (we (hb c' (hr.deeper _) [] _ σc H _ J ht) (λ_ _ z=>z.elim) λev s' z=>?_)⟩
 obtain⟨e,C,σ',H',rfl,J',z,fl⟩:=z
 unfold leaving
 refine um (TK J' J'.ok.frames rfl rfl fl (Ib J' rfl) λh2 t=>?_)
 have un:=ZQ J' rfl rfl rfl t
 have ok2:=Vn J' t
 have fl2:=t.fly.fly
 show XP X pins Z (.ref e) _
 exact⟨e,C,σ,H',rfl,I.fI J'.os un ok2 J'.bare (λb z=>nomatch z),z,fl2.imp λb z=>.inl (Ib I hx b z)⟩
theorem bD{X:Cx}{x:Str}{body:vU}{sc:wX}{clos:Gc (Str×uu)}{N:Gc Str}{σc:Sg}{f:uu}{k i:Nat}{t:TE}{y:Str}{p pos:Pos}(hr:JS (k+1) X.A)(hx:X.ex=[])(L:Qo X.H₀ X.s₀.heap x body sc clos N σc f)(hb:∀c' s H,JS k (X.A.deeper (xV (Pd x) sc s.heap.objs.size f (.ref c') clos))->PE (Qx X.prog X.w X.K X.mg X.base N x sc clos f c' X.A X.stack s H) body t)(hN:X.N[i]?=Fk y)(hv:Vis X.env.scope y)(hd:(y==("__debug__":Str))=false:=by decide)(hcd:(y==("__classdict__":Str))=false:=by decide):PE X (.Call (.Name y p) [] [] pos) (λσ H Q=>σ[i]?=Fk (Fk (.ref f))/\t σc H Q):=by
 intro pins s σ H Q I h
 refine wL (thn (YB hN hv hd hcd pins s σ H (λv H1=>v=.ref f/\H1=H) I ⟨.ref f,h.1,rfl,rfl⟩) λu s1 z=>?_)
 obtain⟨v,H1,I1,rv,rfl,rfl⟩:=z
 obtain rfl:u=.ref f:=rv
 have un:=I1.base
 rw[hx]at un
 have L1:=L.later un
 obtain⟨params,pm,c',ctv,o,oc,h1,h2,_⟩:=L1.fn
 refine ABz ⟨o.cls,o.dict,_,o.slots,by rw[h1];obtain⟨c,d,dt,sl⟩:=o;cases h2;rfl⟩ ?_
 exact iB I1 hr L1 (λc'=>hb c' s1 H1) h.2
theorem aZ{X:Cx}{x:Str}{body:vU}{sc:wX}{clos:Gc (Str×uu)}{N:Gc Str}{σc:Sg}{f:uu}{k i:Nat}{t:TR}{y:Str}{p pos:Pos}(hr:JS (k+1) X.A)(hx:X.ex=[])(L:Qo X.H₀ X.s₀.heap x body sc clos N σc f)(hb:∀c' s H,JS k (X.A.deeper (xV (Pd x) sc s.heap.objs.size f (.ref c') clos))->PXe (Qx X.prog X.w X.K X.mg X.base N x sc clos f c' X.A X.stack s H) body t)(hN:X.N[i]?=Fk y)(hv:Vis X.env.scope y)(hxe:X.xe=λ_ _=>xt)(hd:(y==("__debug__":Str))=false:=by decide)(hcd:(y==("__classdict__":Str))=false:=by decide):PXe X (.Call (.Name y p) [] [] pos) (λσ H Z=>σ[i]?=Fk (Fk (.ref f))/\t σc H λC _ H'=>Z C σ H'):=by
 intro pins s σ H Z I h
 refine wL (LL hxe (YB hN hv hd hcd pins s σ H (λv H1=>v=.ref f/\H1=H) I ⟨.ref f,h.1,rfl,rfl⟩) λu s1 z=>?_)
 obtain⟨v,H1,I1,rv,rfl,rfl⟩:=z
 obtain rfl:u=.ref f:=rv
 have un:=I1.base
 rw[hx]at un
 have L1:=L.later un
 obtain⟨params,pm,c',ctv,o,oc,h1,h2,_⟩:=L1.fn
 refine ABz ⟨o.cls,o.dict,_,o.slots,by rw[h1];obtain⟨c,d,dt,sl⟩:=o;cases h2;rfl⟩ ?_
 exact bM I1 hr L1 hx (λc'=>hb c' s1 H1) h.2
end
structure KP(N:Gc Str)(osc:wX)(N':Gc Str)(KI:Gc Nat)(sc:wX):Prop where
 kind:sc.kind=.function
 co:sc.isCoroutine=false
 gen:sc.isGenerator=false
 R6:∀y∈sc.names,y.2≠.cell
 free:∀y∈sc.names,y.2=.free->osc.names.lookup y.1=Fk .cell
 len:KI.length=N'.length
 KI:∀z∈N'.zip KI,N[z.2]?=Fk z.1/\osc.names.lookup z.1=Fk .cell/\sc.names.lookup z.1=Fk .free
noncomputable def VB{α:Type}(KI:Gc Nat)(σ:Gc (uo α)):Gc (uo α):=KI.map λi=>(σ[i]?).join
theorem Wi{α:Type}{KI:Gc Nat}{σ:Gc (uo α)}{j:Nat}{v:α}(h:(VB KI σ)[j]?=Fk (Fk v)):∃i,KI[j]?=Fk i/\σ[i]?=Fk (Fk v):=by
 unfold VB at h
 rw[vG]at h
 cases e:KI[j]? with
 |none=>rw[e]at h;cases h
 |some i=>
  rw[e]at h
  refine⟨i,rfl,?_⟩
  have h':(σ[i]?).join=Fk v:=by simpa using h
  cases e2:σ[i]? with
  |none=>rw[e2]at h';cases h'
  |some o=>rw[e2]at h';simpa using h'
theorem bC{α:Type}{KI:Gc Nat}{σ:Gc (uo α)}{i j:Nat}{v:α}(h:KI[j]?=Fk i)(e:σ[i]?=Fk (Fk v)):(VB KI σ)[j]?=Fk (Fk v):=by
 unfold VB
 rw[vG,h]
 simp[e]
theorem EnR.Qi{K:Wp}{M:Ms}{E:En}{σ:Sg}{H:Hp}(r:EnR K M E σ H)(KI:Gc Nat):EnR K M (VB KI E) (VB KI σ) H:=⟨by simp[VB],λj d e=>by
 obtain⟨i,h1,h2⟩:=Wi e
 obtain⟨v,h3,h4⟩:=r.val i d h2
 exact⟨v,bC h1 h3,h4⟩⟩
theorem ja{X:Cx}{pins:Gc (uu×Obj)}{σ:Sg}{H H':Hp}{s s':ur}{x:Str}{P f:uu}{params:AAM}{body:vU}{sc:wX}{N':Gc Str}{KI:Gc Nat}(LS:KP X.N X.env.scope N' KI sc)(M:VW X pins σ H s x P params body sc (Ij X.env.cells sc.names []) f H' s')(hp:∀pm c' ctv,bindArgs (zT "<lambda>" (Pd x) params body sc (Ij X.env.cells sc.names []) pm (.ref c') ctv) ⟨[],[]⟩=pure []):Qo H' s'.heap x body sc (Ij X.env.cells sc.names []) N' (VB KI σ) f:=by
 have I:=M.inv
 have hcl:∀y∈sc.names,y.2=.free->∃a,X.env.cells.lookup y.1=Fk a:=λy hy hf=>I.ok.has y.1 (.inl (LS.free y hy hf))
 have sub:∀{y:Str} {c:uu},(Ij X.env.cells sc.names []).lookup y=Fk c->X.env.cells.lookup y=Fk c:=λ{y c} h=>by
  rcases Mx hcl h with z|z
  .cases z
  .exact z
 obtain⟨pm,c',ctv,o,h1,h2,h3⟩:=M.fn
 refine⟨⟨params,pm,c',ctv,_,o,h1,rfl,h2,h3,hp pm c' ctv⟩,M.none,λy c e=>⟨I.cell y c (sub e),I.Mw y c (sub e)⟩,λy z c e1 e2=>I.ok.inj y z c (sub e1) (sub e2),λy h=>?_,λj y v e1 e2 e3=>?_,by simp[VB,LS.len],LS.kind,LS.co,LS.gen,LS.R6⟩
 .rcases h with h|h
  .exact absurd rfl (LS.R6 _ (vv h))
  .exact Jr (.inl (vv h))
 .obtain⟨i,q1,q2⟩:=Wi e2
  have hz:(y,i)∈N'.zip KI:=xR.mpr ⟨j,by rw[y0];exact⟨e1,q1⟩⟩
  obtain⟨p1,p2,p3⟩:=LS.KI _ hz
  refine⟨p3,?_⟩
  obtain⟨m,_,hl⟩:=I.loc
  obtain⟨u,ru,lk⟩:=hl i y v p1 q2 (.inr (.inl p2))
  rcases lk with⟨k,_⟩|⟨_,c,ec,ic⟩
  .have:X.env.scope.names.lookup y=Fk .local:=k
   rw[p2]at this;cases this
  .obtain⟨c2,ec2⟩:=Jr (cells:=X.env.cells) (cs:=[]) (.inl (vv p3))
   have:=sub ec2
   rw[ec]at this;cases this
   exact⟨c,u,ec2,ic,ru⟩
theorem gB{X:Cx}{body:Gc vh}{h₀:xU}{hs:Gc xU}{tb:TS}{tr:TR}{g:Str->Ex}{pos:Pos}(hb:PSs X body tb)(hr:PXs X body tr)(hh:HS X (h₀::hs) g)(hxe:X.xe=λ_ _=>xt)(hx:X.ex=[])(hst:X.stack=X.env::X.outer)(hfr:X.env.frame=Fk X.env.locals):PS X (.Try body (h₀::hs) [] [] pos) (λD σ H=>tb D σ H\/∃x,tr σ H λC σ' H'=>X.mg x=Fk (.ref C)/\tX X.K (g x) D σ' H'):=by
 intro pins s σ H D I z
 rcases z with z|⟨x,z⟩
 .refine wpAny_Try_except (LL hxe (hb pins s σ H D I z) λf s1 w=>?_)
  cases f with
  |next=>exact y9 w
  |ret u=>exact w
  |brk=>exact w
  |cont=>exact w
 .refine wpAny_Try_except (we (hr pins s σ H _ I z) (λ_ _ z=>z.elim) λev s1 w=>?_)
  obtain⟨ea,C,σ',H',rfl,I',⟨hm,z'⟩,fly⟩:=w
  refine TK I' I'.ok.frames hst hfr fly (Ib I' hx) λh' t=>?_
  have I2:=X7 I' hst hfr hx t
  exact we (hh.pe x C hm pins _ σ' H' D ea I2 t.fly z') (λ_ _ z=>z) λ_ _ z=>z.elim
theorem jh{X:Cx}{pins:Gc (uu×Obj)}{σ:Sg}{H:Hp}{s:ur}{k:Nat}{f:uu}{fd:xH}{x:Str}{st:vh}{N ps:Gc Str}{us:Gc W1}{vs:Gc V}{Q:VK}(Fu:Fun X.K x x st f fd)(S:AQ N ps (AI st))(Bi:Binds X.K fd ps [])(hr:JS (k+1) X.A)(I:Inv X pins σ H s)(r:Vals vs us)(hl:vs.length=ps.length)(hbody:∀cdv,JS k (X.A.deeper (v3 x (AI st) s.heap.objs.size f cdv))->∃t,PSs (OT CX0 X.prog X.w X.K X.mg X.base N x (AI st) f cdv X.A X.stack s H E0).nox (D3 st) t/\t {nx:=λ_ H'=>Q .non H',rt:=Q} (L2.start N vs) H):wpAny (model X.prog X.w) X.A (call (.ref f) us) (EP X pins σ Q) X.xe s:=by
 obtain⟨oc,od,kV,doc,pm,an,cdv,ct,osl,rfl,lk,hcd⟩:=Fu.ex
 have hl2:(us++[]).length=ps.length:=by rw[xh,<-r.length];exact hl
 have hb:=Bi s us I.kIn hl2
 rw[xh]at hb
 have lim:=I.nolimit
 have hkind:∀y∈ps.zip us,(AI st).names.lookup y.1=Fk .local\/((AI st).names.lookup y.1=Fk .cell/\((cellsFrom (s.heap.objs.size+1) (AI st).names []).lookup y.1).isSome=true):=λ⟨n,v⟩ hy=>by
  rcases S.par n (xQ hy).1 with q|q
  .exact .inl q
  .exact .inr ⟨q,zM _ _ _ (.inl q)⟩
 refine AAO (ABQ hr.depth (I.kIn _ _ lk) rfl S.co S.gen rfl (ACA I.kIn hcd) (hb _ _ _ _ ?_))
 refine AAR S.kind hkind λenv he s1 x1=>?_
 subst he
 refine⟨lim.keeps x1.toInCall.keep,codeAny_func ?_⟩
 obtain⟨t,ht,hq⟩:=hbody cdv (hr.deeper _)
 have J:Inv (OT CX0 X.prog X.w X.K X.mg X.base N x (AI st) f cdv X.A X.stack s H E0) [] (L2.start N vs) H s1:=UO S hr.hd I.ia hl r x1
 have J':Inv (OT CX0 X.prog X.w X.K X.mg X.base N x (AI st) f cdv X.A X.stack s H E0).nox [] (L2.start N vs) H s1:=J.Xa _
 refine we (ht [] s1 (L2.start N vs) H _ J' hq) (λfl s' hs=>?_) λe s' hs=>hs.elim
 have fin:∀{σ':Sg} {H':Hp} {v:V} {u:W1},Inv (OT CX0 X.prog X.w X.K X.mg X.base N x (AI st) f cdv X.A X.stack s H E0).nox [] σ' H' s'->RelV v u->Q v H'->EP X pins σ Q u s':=
  λ{σ' H' v u} J rv q=>I.after ⟨v,H',J.os,J.bare,J.base,J.hok,rv,q⟩
 cases fl with
 |ret u=>
  obtain⟨v,σ',H',J,rv,q⟩:=hs
  exact fin J rv q
 |next=>
  obtain⟨σ',H',J,q⟩:=hs
  exact fin (v:=V.non) (u:=wW) J rfl q
 |brk=>
  obtain⟨_,_,_,q⟩:=hs
  exact wt q
 |cont=>
  obtain⟨_,_,_,q⟩:=hs
  exact wt q
noncomputable def Qt(x:Str):Cl->vm
 | .tab y=>y==x
 |_=>false
noncomputable def WV(x:Str)(KI:Gc Nat)(F:Ev)(R:Rx)(c0:D)(h:Str->Ex):Ev:=λE S=>
 if S.any (Qt x)=true then
  match F (VB KI E) S with
  |some q=>Fk (c0,q.2)
  |none=>(R (VB KI E) S).bind λq=>(h q.1 [uk] q.2.2).bind λz=>match z.1 with| .ret d=>Fk (d,z.2.2)| .nx=>uk
 else uk
theorem Vg{x:Str}:∀{S:Sto},S.any (Qt x)=true->∃n:Nat,S[n]?=Fk (Cl.tab x)
 | [],h=>by cases h
 |c::S,h=>by
  rw[xk,wQ]at h
  rcases h with h|h
  .cases c with
   |tab y=>have e:y=x:=eq_of_beq h;exact⟨0,by rw[e];rfl⟩
   |lst ds=>cases h
   |dct ds=>cases h
  .obtain⟨n,e⟩:=Vg h
   exact⟨n+1,e⟩
noncomputable def UX(p:Str)(np cp ep tp rp:Pos)(h₀:xU)(hs:Gc xU)(ret:vU):Gc vh:=
 [.Try [.Expr (.Call (.Name p np) [] [] cp) ep] (h₀::hs) [] [] tp,.Return (Fk ret) rp]
theorem bQ{X:Cx}{pins:Gc (uu×Obj)}{σ:Sg}{H:Hp}{s:ur}{k:Nat}{fg f:uu}{fd:xH}{g p x:Str}{st:vh}{body ret:vU}{sc:wX}{clos:Gc (Str×uu)}{N':Gc Str}{σc:Sg}{Q:VK}{np cp ep tp rp:Pos}{h₀:xU}{hs:Gc xU}{hd:Str->Ex}{F:Ev}{R:Rx}{c0:D}(I:Inv X pins σ H s)(Fu:Fun X.K g g st fg fd)(S:AQ [p] [p] (AI st))(Bi:Binds X.K fd [p] [])(hr:JS (k+3) X.A)(L:Qo H s.heap x body sc clos N' σc f)(eb:D3 st=UX p np cp ep tp rp h₀ hs ret)(hv:Vis (AI st) p)(hd1:(p==("__debug__":Str))=false)(hd2:(p==("__classdict__":Str))=false)(hb:∀(c':uu) (A:vj) (outer:Gc wy) (s:ur) (H:Hp),JS k (A.deeper (xV (Pd x) sc s.heap.objs.size f (.ref c') clos))->DE (Qx X.prog X.w X.K X.mg X.base N' x sc clos f c' A outer s H) body F)(hx:∀(c':uu) (A:vj) (outer:Gc wy) (s:ur) (H:Hp),JS k (A.deeper (xV (Pd x) sc s.heap.objs.size f (.ref c') clos))->RE (Qx X.prog X.w X.K X.mg X.base N' x sc clos f c' A outer s H) body R)(hh:∀(cdv:W1) (A:vj) (outer:Gc wy) (s:ur) (H:Hp),HS (OT CX0 X.prog X.w X.K X.mg X.base [p] g (AI st) fg cdv A outer s H E0).nox (h₀::hs) hd)(hret:∀(cdv:W1) (A:vj) (outer:Gc wy) (s:ur) (H:Hp),DE (OT CX0 X.prog X.w X.K X.mg X.base [p] g (AI st) fg cdv A outer s H E0).nox ret (eC c0))(h:∃M E S,EnR X.K M E σc H/\StR X.K M S H/\((∃d S',F E S=Fk (d,S')/\∀v H' M',Gr M H M' H'->StR X.K M' S' H'->FR X.K M' H' v c0->Q v H')\/∃y E' S' d E2 S2,R E S=Fk (y,E',S')/\hd y [uk] S'=Fk (.ret d,E2,S2)/\∀v H' M',Gr M H M' H'->StR X.K M' S2 H'->FR X.K M' H' v d->Q v H')):wpAny (model X.prog X.w) X.A (call (.ref fg) [.ref f]) (EP X pins σ Q) X.xe s:=by
 refine jh (k:=k+2) (vs:=[.ref f]) Fu S Bi hr I (.cons rfl .nil) rfl λcdv hrg=>?_
 have hrl:JS (k+1) (X.A.deeper (v3 g (AI st) s.heap.objs.size fg cdv)):=hrg.mono (by lia)
 let Xg:=(OT CX0 X.prog X.w X.K X.mg X.base [p] g (AI st) fg cdv X.A X.stack s H E0).nox
 have p1:=bD (X:=Xg) (t:=tD X.K F) (i:=0) (y:=p) (p:=np) (pos:=cp) hrl rfl L (λc' s H z=>(hb c' Xg.A Xg.stack s H z).pe) rfl hv hd1 hd2
 have p2:=aZ (X:=Xg) (t:=tR X.K X.mg R) (i:=0) (y:=p) (p:=np) (pos:=cp) hrl rfl L (λc' s H z=>(hx c' Xg.A Xg.stack s H z).pe) rfl hv rfl hd1 hd2
 have q1:PSs Xg [.Expr (.Call (.Name p np) [] [] cp) ep] _:=Vi (Xo p1 rfl)
 have q0:PX Xg (.Expr (.Call (.Name p np) [] [] cp) ep) (λσ H Z=>σ[0]?=Fk (Fk (.ref f))/\tR X.K X.mg R σc H λC _ H'=>Z C σ H'):=λpins s σ H Z I q=>ABV (we (p2 pins s σ H Z I q) (λ_ _ z=>z) λ_ _ z=>z) I.quiet rfl
 have q2:PXs Xg [.Expr (.Call (.Name p np) [] [] cp) ep] (λσ H Z=>σ[0]?=Fk (Fk (.ref f))/\tR X.K X.mg R σc H λC _ H'=>Z C σ H'):=λpins s σ H Z I q=>
  yI (we (q0 pins s σ H Z I q) (λ_ _ z=>wt z) λ_ _ z=>z)
 have q3:=Vv (gB (pos:=tp) q1 q2 (hh cdv X.A X.stack s H) rfl rfl rfl rfl) (Vi (AO (pos:=rp) (hret cdv X.A X.stack s H)).pe)
 refine⟨_,by rw[eb];exact q3,?_⟩
 obtain⟨M,E,S0,r,sr,w⟩:=h
 rcases w with⟨d,S',e,q⟩|⟨y,E',S',d,E2,S2,e,e2,q⟩
 .refine .inl ⟨rfl,M,E,S0,d,S',e,r,sr,λv H' M' gr st' rd=>?_⟩
  refine⟨M',[uk],S',.ret c0,[uk],S',rfl,⟨rfl,λi d e=>by match i,e with|0,e=>cases e⟩,st',λv2 H2 M2 g2 st2 r2=>?_⟩
  exact q v2 H2 M2 (gr.trans g2) st2 r2
 .refine .inr ⟨y,rfl,M,E,S0,y,E',S',e,r,sr,λC σ' H' M' hm gr er st'=>⟨hm,?_⟩⟩
  refine⟨M',[uk],S',.ret d,E2,S2,e2,⟨rfl,λi d e=>by match i,e with|0,e=>cases e⟩,st',λv2 H2 M2 g2 st2 r2=>?_⟩
  exact q v2 H2 M2 (gr.trans g2) st2 r2
theorem jZ{X:Cx}{pins:Gc (uu×Obj)}{σ:Sg}{H H':Hp}{s s':ur}{x:Str}{P f:uu}{params:AAM}{body:vU}{sc:wX}{clos:Gc (Str×uu)}{M:Ms}{S:Sto}{n:Nat}(st:StR X.K M S H)(h1:M.cel[n]?=Fk P)(h2:S[n]?=Fk (Cl.tab x))(k:VW X pins σ H s x P params body sc clos f H' s'):StR X.K M S H'/\Gr M H M H':=by
 have hP:P∈M.cel:=vL h1
 obtain⟨ps,t1,t2⟩:=k.tab
 have g:Gr M H M H':=⟨st.mo,wR,rfl,λ_ z=>.inl z,λa o e na=>k.keep a o e λz=>na (by rw[z];exact hP),λa e=>by
  by_cases z:a=P
  .subst z;rw[t1];intro z;cases z
  .cases q:H a with
   |none=>exact absurd q e
   |some o=>rw[k.keep a o q z];intro z;cases z⟩
 refine⟨⟨λb z=>?_,st.nd,st.nt,st.len,λm b c e1 e2=>?_⟩,g⟩
 .by_cases hb:b=P
  .subst hb;exact .inr (.inr ⟨ps,t1⟩)
  .exact(st.mo b z).imp (λ⟨xs,e⟩=>⟨xs,k.keep _ _ e hb⟩) (Or.imp (λ⟨xs,e⟩=>⟨xs,k.keep _ _ e hb⟩) λ⟨xs,e⟩=>⟨xs,k.keep _ _ e hb⟩)
 .by_cases hb:b=P
  .subst hb
   have hm:n=m:=(zQ (vB.mp h1).1 st.nd).mp (h1.trans e1.symm)
   subst hm
   rw[h2]at e2;cases e2
   exact⟨ps,t1,t2⟩
  .have q:=st.cell m b c e1 e2
   cases c with
   |lst ds=>obtain⟨xs,e,rr⟩:=q;exact⟨xs,k.keep _ _ e hb,rr.step g.st⟩
   |dct ds=>obtain⟨xs,e,rr⟩:=q;exact⟨xs,k.keep _ _ e hb,rr.step g.st⟩
   |tab ds=>obtain⟨xs,e,rr⟩:=q;exact⟨xs,k.keep _ _ e hb,rr.step g.st⟩
def Yd(X:Cx)(x:Str):Prop:=∀P,TabAt X.K x P->X.K.In X.base->X.base.Ns mainGlobals X.mg->∃c,X.env.code=.ref c/\Ny X.K c P
theorem WU{X:Cx}{k:Nat}{g p x:Str}{st:vh}{body ret:vU}{sc:wX}{params:AAM}{N':Gc Str}{KI:Gc Nat}{gp pl pos np cp ep tp rp:Pos}{h₀:xU}{hs:Gc xU}{hd:Str->Ex}{F:Ev}{R:Rx}{c0:D}(G:St.Src X.K X.mg g st)(S:AQ [p] [p] (AI st))(LS:KP X.N X.env.scope N' KI sc)(ci:Yd X x)(bm:BmB X.mg X.base)(hr:JS (k+3) X.A)(hg:Gl X g)(hb:∀(f c':uu) (clos:Gc (Str×uu)) (A:vj) (outer:Gc wy) (s:ur) (H:Hp),JS k (A.deeper (xV (Pd x) sc s.heap.objs.size f (.ref c') clos))->DE (Qx X.prog X.w X.K X.mg X.base N' x sc clos f c' A outer s H) body F)(hx:∀(f c':uu) (clos:Gc (Str×uu)) (A:vj) (outer:Gc wy) (s:ur) (H:Hp),JS k (A.deeper (xV (Pd x) sc s.heap.objs.size f (.ref c') clos))->RE (Qx X.prog X.w X.K X.mg X.base N' x sc clos f c' A outer s H) body R)(hh:∀(fg:uu) (cdv:W1) (A:vj) (outer:Gc wy) (s:ur) (H:Hp),HS (OT CX0 X.prog X.w X.K X.mg X.base [p] g (AI st) fg cdv A outer s H E0).nox (h₀::hs) hd)(hret:∀(fg:uu) (cdv:W1) (A:vj) (outer:Gc wy) (s:ur) (H:Hp),DE (OT CX0 X.prog X.w X.K X.mg X.base [p] g (AI st) fg cdv A outer s H E0).nox ret (eC c0))(eb:D3 st=UX p np cp ep tp rp h₀ hs ret:=by rfl)(hv:Vis (AI st) p:=by first|exact Or.inl rfl|exact Or.inr (Or.inl rfl))(hqual:X.env.qual=x++(".<locals>.":Str):=by rfl)(hdf:defaultsOf params X.env=([],[]):=by rfl)(hp:∀clos pm c' ctv,bindArgs (zT "<lambda>" (Pd x) params body sc clos pm (.ref c') ctv) ⟨[],[]⟩=pure []:=by intro _ _ _ _;rfl)(hbi:BnR g st [p]:=by exact λ_ _ _ _ _ _ _=>rfl)(hdb:(g==("__debug__":Str))=false:=by decide)(hd1:(p==("__debug__":Str))=false:=by decide)(hd2:(p==("__classdict__":Str))=false:=by decide)(he:vP [Expr.Lambda params body sc pl] X.env=[(false,eval (.Lambda params body sc pl) X.env)]:=by rfl):DE X (.Call (.Name g gp) [.Lambda params body sc pl] [] pos) (WV x KI F R c0 hd):=⟨by
 intro pins s σ H Q I h
 obtain⟨M,E,S0,d,S',e,r,sr,q⟩:=h
 unfold WV at e
 split at e
 case isFalse=>cases e
 rename_i hany
 obtain⟨n,hn⟩:=Vg hany
 obtain⟨P,hc,ps,hP,tok⟩:=sr.at hn
 obtain⟨c,hcode,hcd⟩:=ci P tok.tat I.ok.mod.kin I.ok.mod.glob
 obtain⟨fg,fd,Fu,hm⟩:=G.ex
 have hcl:∀y∈sc.names,y.2=.free->∃a,X.env.cells.lookup y.1=Fk a:=λy hy hf=>I.ok.has y.1 (.inl (LS.free y hy hf))
 refine wL (Pj I hg hm ?_ hdb)
 refine AAP (h₀:=X.base) I.ok.mod.kin Fu.kp ?_ he rfl
 rw[he]
 show wpAny _ _ (spliced ((false,eval (.Lambda params body sc pl) X.env)::backTo pos [])) _ _ s
 refine yQ (ba I hqual hdf (TY hcl) hcode hcd bm hP tok λf H' s1 mk=>?_)
 refine yZ ⟨mk.inv.kIn,?_⟩
 obtain⟨sr1,g1⟩:=jZ sr hc hn mk
 have L:=ja LS mk λpm c' ctv=>hp _ pm c' ctv
 refine bQ mk.inv Fu S (bnR Fu hbi) hr L eb hv hd1 hd2 (λc'=>hb f c' _) (λc'=>hx f c' _) (hh fg) (hret fg) ⟨M,VB KI E,S0,(r.step g1.st).Qi KI,sr1,?_⟩
 split at e
 .rename_i w ew
  cases e
  exact .inl ⟨w.1,w.2,ew,λv H2 M2 g2 st2 rd=>q v H2 M2 (g1.trans g2) st2 rd⟩
 .obtain⟨⟨y,E',S1⟩,e1,e⟩:=BK e
  obtain⟨⟨fl,E2,S2⟩,e2,e⟩:=BK e
  cases fl with
  |nx=>cases e
  |ret w=>
   cases e
   exact .inr ⟨y,E',S1,_,E2,S2,e1,e2,λv H2 M2 g2 st2 rd=>q v H2 M2 (g1.trans g2) st2 rd⟩⟩
section
variable{P:vR}{w:vi}{K:Wp}{mg:Str->uo W1}{base:ve}
theorem fnL{x:Str}{st:vh}{f:uu}{fd:xH}{N ps:Gc Str}{k np:Nat}{b:Ex}(Fu:Fun K x x st f fd)(hm:mg x=Fk (.ref f))(S:AQ N ps (AI st))(hp:ps.length=np)(hb:∀{cdv:W1} {A:vj} {outer:Gc wy} {s:ur} {H:Hp} {E:XK},Yd (OT CX0 P w K mg base N x (AI st) f cdv A outer s H E).nox x->JS k (A.deeper (v3 x (AI st) s.heap.objs.size f cdv))->(A.deeper (v3 x (AI st) s.heap.objs.size f cdv)).units+100<cLine->DSs (OT CX0 P w K mg base N x (AI st) f cdv A outer s H E).nox (D3 st) b):WH P w K mg base CX0 (k+1) f fd ps (spD K np (Ao (A5 N.length b))):=by
 rw[Pm]
 obtain⟨oc,od,kV,doc,pm,an,cdv,ct,osl,rfl,lk,hcd⟩:=Fu.ex
 refine gh lk hcd S (λvs H Q E h=>?_) (λA outer s H vs Q E hr h=>?_)
 .obtain⟨M,ds,S0,d,S',hl,_,r,_⟩:=h
  have:=r.length
  lia
 .obtain⟨M,ds,S0,d,S',hl,e,r,st,q⟩:=h
  have hlen:=r.length
  refine⟨_,(hb (cdv:=cdv) (A:=A) (outer:=outer) (s:=s) (H:=H) (E:=E) (λP0 ta kin glob=>?_) hr (JW hr)).pe.nox,?_⟩
  .obtain⟨f0,oc0,od0,fd0,osl0,c,t1,t2,t3,t4⟩:=ta
   have:=y8 kin glob t1
   have e0:Fk (wN f0)=Fk (wN f):=this.symm.trans hm
   cases e0
   have t2':K.lookup f=_:=t2
   rw[lk]at t2'
   cases t2'
   exact⟨c,t3,t4⟩
  obtain⟨⟨fl,E',S1⟩,e1,e⟩:=NR e
  cases e
  refine⟨M,_,S0,fl,E',S1,e1,?_,st,?_⟩
  .rw[show L2.start N vs=vs.map Fk++vC (N.length-ds.length) uk from by unfold L2.start;rw[hlen]]
   exact .args r _
  .cases fl with
   |nx=>exact λσ' H' M' g _ st'=>q _ _ M' g st' .non
   |ret d=>exact λv H' M' g st' r'=>q _ _ M' g st' r'
theorem dfL{x:Str}{st:vh}{N ps:Gc Str}(k:Nat){np:Nat}{b:Ex}(S:St.Src K mg x st)(sc:AQ N ps (AI st))(hb:∀{f:uu} {cdv:W1} {A:vj} {outer:Gc wy} {s:ur} {H:Hp} {E:XK},Yd (OT CX0 P w K mg base N x (AI st) f cdv A outer s H E).nox x->JS k (A.deeper (v3 x (AI st) s.heap.objs.size f cdv))->(A.deeper (v3 x (AI st) s.heap.objs.size f cdv)).units+100<cLine->DSs (OT CX0 P w K mg base N x (AI st) f cdv A outer s H E).nox (D3 st) b)(hp:ps.length=np:=by rfl)(hbi:BnR x st ps:=by exact λ_ _ _ _ _ _ _=>rfl):St.Dfn P w K mg base x (k+1) ps (spD K np (Ao (A5 N.length b))):=by
 obtain⟨f,fd,Fu,hm⟩:=S.ex
 exact⟨f,fd,hm,Fu.kp,bnR Fu hbi,fnL Fu hm sc hp λci hr hu=>hb ci hr hu⟩
end
end Mi
end
noncomputable section
namespace Mi
open PySem PySem.Spec L2 PyProof.Rows
theorem Vo{K:Wp}{h:ve}{c P:uu}(k:Ny K c P)(X:K.In h):isCodeTable h P:=by
 obtain⟨o,vs,file,tf,flags,tg,inF,text,tt,h0,h1,h2,h3,_⟩:=k
 exact⟨c,o,vs,X _ _ h0,h1,h2,h3⟩
noncomputable def XQ(T:Gc (Str×uu)):Sto:=T.map λz=>Cl.tab z.1
theorem Y8{P:vR}{w:vi}{K:Wp}{mg mb:Str->uo W1}{k:Nat}{fa a:uu}{fd:xH}{x:Str}{Fn0:Fn}{s₁:ur}{vs:Gc W1}{ns:Gc Int}{T:Gc (Str×uu)}(KX:K.In s₁.heap)(hns:s₁.heap.Ns mainGlobals mg)(hb:s₁.heap.Ns builtinsNs mb)(hbb:∀x:Str,x≠ "__name__"->mb x=bootBuiltins x)(hlim:s₁.heap.NoLimit)(hg:s₁.gens= #[])(ha:s₁.heap.get? a=Fk {cls:=.type "list",data:=.seq vs.toArray})(hi:xI vs ns)(hl:ns.length<=sizeLine)(hr:JS k callerA)(hT:∀z∈T,TabAt K z.1 z.2/\K.lookup z.2=uk/\s₁.heap.get? z.2=Fk (zS #[]))(nd:(T.map (·.2)).Nodup)(bmn:∃bm ob,mg "__builtins__"=Fk (.ref bm)/\bm≠builtinsNs/\s₁.heap.get? bm=Fk ob/\ob.cls=.type "module" /\ob.dict=Fk builtinsNs/\ob.data=.plain)(F:∀base:ve,K.In base->base.Ns mainGlobals mg->BmB mg base->WH P w K mg base CX0 k fa fd [x] (spD K 1 Fn0))(hbind:∀(s:ur) (u:W1),BindsTo s fd ⟨[u],[]⟩ [(x,u)])(hlaw:∃S,Fn0 [.scr ns] (XQ T)=Fk (.bl true,S)):codeAny (model P w) callerA (.call (.ref fa) ⟨[.ref a],[]⟩) (λr s'=>r=.ok (.ret (.bool true))/\OldK s₁.heap s'.heap/\s'.os=s₁.os/\zF s'.gens) s₁:=by
 have rv:=Uj hi
 have lenV:=hi.length
 have aT:∀z∈T,z.2≠a:=λz hz e=>by
  have:=(hT z hz).2.2
  rw[e,ha]at this;cases this
 have core:∀H:Hp,SqL K H a (ns.map V.int)->HOk P w H s₁.heap->(∀b,H b≠uk->b=a\/∃z∈T,z.2=b)->(∀b,H b≠uk->K.lookup b=uk)->(∀z∈T,H z.2=Fk (.tbl #[]))->(H a=uk\/∃o xs,H a=Fk (.frz o (.lst xs)))->
   codeAny (model P w) callerA (.call (.ref fa) ⟨[.ref a],[]⟩) (λr s'=>r=.ok (.ret (.bool true))/\OldK s₁.heap s'.heap/\s'.os=s₁.os/\zF s'.gens) s₁:=by
  intro H hS hok hA hK hTb hF
  have base_of:∀{b:uu} {o:Obj},s₁.heap.get? b=Fk o->H b=uk->(Zo s₁.heap H).get? b=Fk o:=λe n=>ak e n
  have noA:∀{b:uu} {o:Obj},s₁.heap.get? b=Fk o->(∀x n,o.data≠.seq x n)->(∀x,o.data≠.fields x)->H b=none:=λ{b o} e d1 d2=>by
   cases q:H b with
   |none=>rfl
   |some u=>
    rcases hA b (by rw[q];simp)with z|⟨z,hz,z2⟩
    .subst z
     rw[ha]at e;cases e
     exact absurd rfl (d1 _ _)
    .subst z2
     rw[(hT z hz).2.2]at e;cases e
     exact absurd rfl (d2 _)
  have nsK:∀{b:uu} {m:Str->uo W1},s₁.heap.Ns b m->(Zo s₁.heap H).Ns b m:=λ{b m} ⟨o,es,ep,e,d,r⟩=>⟨o,es,ep,base_of e (noA e (λ_ _ z=>by rw[d]at z;cases z) λ_ z=>by rw[d]at z;cases z),d,r⟩
  have hKb:K.In (Zo s₁.heap H):=λb o e=>base_of (KX b o e) (by
   cases q:H b with
   |none=>rfl
   |some u=>rw[hK b (by rw[q];simp)]at e;cases e)
  have hM:Mod K mg (Zo s₁.heap H):=⟨hKb,nsK hns,⟨mb,nsK hb,hbb⟩,let⟨mc,h1,h2⟩:=hlim;⟨mc,nsK h1,h2⟩⟩
  have e0:jW P w K mg (Zo s₁.heap H) callerA [] s₁ H:=⟨rfl,hM,λb o e=>fB e,Nat.le_of_eq (YX _ _),trivial,λb hb=>absurd (show b∈([]:Gc uu)from hb) (by simp),hok,.of_eq hg⟩
  have hbm:BmB mg (Zo s₁.heap H):=by
   obtain⟨bm,ob,m1,m2,m3,m4,m5,m6⟩:=bmn
   refine⟨bm,ob,m1,m2,λz=>?_,base_of m3 (noA m3 (λ_ _ z=>by rw[m6]at z;cases z) λ_ z=>by rw[m6]at z;cases z),m4,m5,m6⟩
   obtain⟨o,es,ep,e,d,_⟩:=hns
   rw[z,e]at m3;cases m3
   rw[d]at m6;cases m6
  obtain⟨S',hS'⟩:=hlaw
  have nm:¬Ms.mem ⟨T.map (·.2),[]⟩ a:=λz=>by
   rcases z with z|z
   .obtain⟨q,hq,e⟩:=vp.mp z
    exact aT q hq e
   .cases z
  have st:StR K ⟨T.map (·.2),[]⟩ (XQ T) H:=by
   refine⟨λb z=>?_,nd,λb z=>(nomatch z),by simp[XQ],λn b c e1 e2=>?_⟩
   .rcases z with z|z
    .obtain⟨q,hq,e⟩:=vp.mp z
     subst e
     exact .inr (.inr ⟨_,hTb q hq⟩)
    .cases z
   .have e1':(T.map (·.2))[n]?=Fk b:=e1
    have e2':(T.map λz=>Cl.tab z.1)[n]?=Fk c:=e2
    rw[vG]at e1' e2'
    cases q:T[n]? with
    |none=>rw[q]at e1';cases e1'
    |some z=>
     rw[q]at e1' e2'
     cases e1';cases e2'
     have hz:=vL q
     exact⟨#[],hTb z hz,trivial,(hT z hz).1,λpos cv e=>by rw[yw]at e;cases e⟩
  refine yq ((F _ hKb (nsK hns) hbm).run callerA [] s₁ H ⟨[.ref a],[]⟩ [.ref a] [.ref a] (λv _=>v=.bl true) (λ_ _ _=>xt) hr e0 (hbind s₁ (.ref a)) (.cons rfl .nil) ⟨⟨T.map (·.2),[]⟩,[.scr ns],XQ T,_,S',rfl,hS',.cons (.scr ?_) .nil,st,λv H' M' g st' r'=>by cases r';rfl⟩) λr s' h=>?_
  .rcases hS with z|z
   .exact .inl ⟨z,nm⟩
   .exact .inr z
  cases r with
  |error e=>exact wt h
  |ok fl=>
   cases fl with
   |next=>exact wt h
   |brk=>exact wt h
   |cont=>exact wt h
   |ret u=>
    obtain⟨v,H',os,bare,un,hok',r',q⟩:=h
    have q':v=.bl true:=q
    subst q'
    obtain rfl:u=AA4 true:=r'
    refine⟨rfl,⟨λb o e=>?_,λb o e=>un.there b o e (by simp)⟩,os,bare⟩
    cases q:H b with
    |none=>exact .inl (un.keep b o e q (by intro z;exact absurd (show b∈([]:Gc uu)from z) (by simp)) (by simp))
    |some u=>
     rcases hA b (by rw[q];simp)with z|⟨z,hz,z2⟩
     .subst z
      rcases hF with z|⟨ob,xs,z⟩
      .rw[q]at z;cases z
      .have z2:=un.ZZ b ob _ z
       obtain⟨e1,_⟩:=hok b _ z
       obtain⟨e2,_⟩:=hok' b _ z2
       rw[e]at e1;cases e1
       exact .inl e2
     .subst z2
      obtain⟨t1,t2,t3⟩:=hT z hz
      rw[t3]at e;cases e
      obtain⟨more,em⟩:=un.Zs _ _ (hTb z hz)
      have e2:s'.heap.get? z.2=Fk (zS (#[]++more)):=hok' _ _ em
      obtain⟨_,_,_,_,_,c,_,_,_,hc⟩:=t1
      exact .inr (.inl ⟨Vo hc KX,rfl, #[],more,rfl,e2⟩)
 cases hk:K.lookup a with
 |some o=>
  have e:=KX a o hk
  rw[ha]at e
  cases e
  refine core (λb=>if∃z∈T,z.2=b then Fk (.tbl #[])else uk) (.inr ⟨_,vs.toArray,_,hk,rfl,rfl,rfl,by rw[vF,lenV];exact hl,by simpa using rv⟩) (λb u z=>?_) (λb z=>?_) (λb z=>?_) (λz hz=>va ⟨z,hz,rfl⟩) (.inl (vf λ⟨z,hz,e⟩=>aT z hz e))
  .by_cases hb:∃z∈T,z.2=b
   .have z':=(va hb).symm.trans z
    cases z'
    obtain⟨y,hy,rfl⟩:=hb
    exact(hT y hy).2.2
   .have z':=(vf hb).symm.trans z
    cases z'
  .by_cases hb:∃z∈T,z.2=b
   .exact .inr hb
   .exact absurd (vf hb) z
  .by_cases hb:∃z∈T,z.2=b
   .obtain⟨y,hy,rfl⟩:=hb;exact(hT y hy).2.1
   .exact absurd (vf hb) z
 |none=>
  refine core (λb=>if b=a then Fk (.frz {cls:=.type "list",data:=.seq vs.toArray} (.lst (ns.map V.int)))else if∃z∈T,z.2=b then Fk (.tbl #[])else uk) (.inl (.inr ⟨{cls:=.type "list",data:=.seq vs.toArray},va rfl⟩)) (λb u z=>?_) (λb z=>?_) (λb z=>?_) (λz hz=>(vf (aT z hz)).trans (va ⟨z,hz,rfl⟩)) (.inr ⟨_,_,va rfl⟩)
  .by_cases hb:b=a
   .have z':=(va hb).symm.trans z
    cases z'
    subst hb
    exact⟨ha,by rw[vW];exact hl,vs,_,rv,ha⟩
   .have z':=(vf hb).symm.trans z
    by_cases hc:∃z∈T,z.2=b
    .have z'':=(va hc).symm.trans z'
     cases z''
     obtain⟨y,hy,rfl⟩:=hc
     exact(hT y hy).2.2
    .have z'':=(vf hc).symm.trans z'
     cases z''
  .by_cases hb:b=a
   .exact .inl hb
   .by_cases hc:∃z∈T,z.2=b
    .exact .inr hc
    .exact absurd ((vf hb).trans (vf hc)) z
  .by_cases hb:b=a
   .rw[hb];exact hk
   .by_cases hc:∃z∈T,z.2=b
    .obtain⟨y,hy,rfl⟩:=hc;exact(hT y hy).2.1
    .exact absurd ((vf hb).trans (vf hc)) z
theorem nV{l:AA3}{q:vR}{loose:Gc Str}{XP:(Str->uo W1)->ve->Prop}{YP:vi->ve->Prop}{d:DefRec}{K:Params->Wp}{x:Str}{k:Nat}{Fn0:Fn}(T:Gc (Str×uu))(hn:l.most=Fk 63)(hdf:d.params.defaults=[])(hr:JS k callerA)(hY:∀(w:vi) (h:ve),YP w h->(K w.params).In h/\∀z∈T,h.get? z.2=Fk (zS #[]))(nd:(T.map (·.2)).Nodup)(F:∀(w:vi) (mg:Str->uo W1) (fa:uu) (h:ve),(K w.params).In h->h.Ns mainGlobals mg->mg d.name=Fk (.ref fa)->(∀z∈T,TabAt (K w.params) z.1 z.2/\(K w.params).lookup z.2=uk)/\∃fd:xH,(∀(s:ur) (u:W1),BindsTo s fd ⟨[u],[]⟩ [(x,u)])/\∀base:ve,(K w.params).In base->base.Ns mainGlobals mg->BmB mg base->WH l.prog w (K w.params) mg base CX0 k fa fd [x] (spD (K w.params) 1 Fn0))(hlaw:∀ns:Gc Int,ns.length<=63->∃S,Fn0 [.scr ns] (XQ T)=Fk (.bl true,S)):PySem.W.WalkO q loose XP YP l.row.toRowW d [] (λf vs=>PySem.call f vs):=by
 refine Att.attach_call hn hdf λw s₀ s₁ mg mb fa o pm cd doc a vs ns G Y ho hd hcd hmg hobj hints hlen hg=>?_
 obtain⟨KX,Y2⟩:=hY w _ Y
 obtain⟨hT,fd,hb,hF⟩:=F w mg fa _ KX G.T.g hmg
 exact Y8 KX G.T.g G.T.b G.T.builtins G.T.nolimit hg hobj hints (uz hlen (by decide)) hr (λz hz=>⟨(hT z hz).1,(hT z hz).2,Y2 z hz⟩) nd G.T.bmain hF hb (hlaw ns hlen)
end Mi
end
noncomputable section
namespace Mi
open PySem PySem.Spec L2
noncomputable def laE:Nat->vU->Gc wX
 |0,_=>[]
 |n+1,.Lambda _ _ s _=>[s]
 |n+1,.BoolOp _ vs _=>vs.flatMap (laE n)
 |n+1,.Call f as _ _=>laE n f++as.flatMap (laE n)
 |n+1,.UnaryOp _ a _=>laE n a
 |n+1,.Compare a _ cs _=>laE n a++cs.flatMap (laE n)
 |n+1,.Tuple es _ _=>es.flatMap (laE n)
 |n+1,.List es _=>es.flatMap (laE n)
 |_,_=>[]
noncomputable def laS:Nat->vh->Gc wX
 |0,_=>[]
 |n+1,.Return (Fk e) _=>laE 30 e
 |n+1,.Assign ts e _=>laE 30 e
 |n+1,.Expr e _=>laE 30 e
 |n+1,.If t a b _=>laE 30 t++a.flatMap (laS n)++b.flatMap (laS n)
 |n+1,.For _ it a b _=>laE 30 it++a.flatMap (laS n)++b.flatMap (laS n)
 |n+1,.While t a b _=>laE 30 t++a.flatMap (laS n)++b.flatMap (laS n)
 |_,_=>[]
noncomputable def nR(st:vh)(k:Nat):wX:=((D3 st).flatMap (laS 20)).getD k (AI st)
theorem lsM{N:Gc Str}{osc:wX}{N':Gc Str}{KI:Gc Nat}{sc:wX}(a:sc.kind=.function:=by rfl)(b:sc.isCoroutine=false:=by rfl)(c:sc.isGenerator=false:=by rfl)(d:∀y∈sc.names,y.2≠.cell:=by decide+kernel)(e:∀y∈sc.names,y.2=.free->osc.names.lookup y.1=Fk .cell:=by decide+kernel)(f:KI.length=N'.length:=by rfl)(g:∀z∈N'.zip KI,N[z.2]?=Fk z.1/\osc.names.lookup z.1=Fk .cell/\sc.names.lookup z.1=Fk .free:=by decide+kernel):KP N osc N' KI sc:=⟨a,b,c,d,e,f,g⟩
section
open AutoSeq1 (wpAny_loadPart')
section
variable{prog:vR}{w:vi}{A:vj}{E:W1->ur->Prop}{s:ur}
theorem VI {Q : Gc W1 -> ur -> Prop} {r : uu} {a b c : Int} {t u v : Tok} {n : Nat} (hh : A.handled = uk) (hr : IsRange s.heap r a b c t u v) (hsmall : AAD a b c = true) (hn : yJ a b c = n) (hlen : n ≤ 2 ^ 24) (hQ : ∀ h' tk acc, (∀ b o, s.heap.get? b = Fk o -> h'.get? b = Fk o) -> ItemsOf (fun i v => ∃ t, v = .int (a + i * c) t) acc n -> Q acc.toList { s with heap := h', toks := tk }) : wpAny (model prog w) A (collect (.ref r)) Q E s := by
  unfold collect
  refine um (wpAny_runValue (ABL F.entry_proto_collect ?_))
  rw [ABk F.plain_proto_collect _]
  show wpAny _ A.in1 (newList [] >>= fun l => again (.builtin "list.__iadd__" ⟨[l, .ref r], []⟩)) _ _ s
  refine um (wJ ?_)
  refine vD ⟨plainId_quiet F.plain_list_iadd _, ABL F.entry_list_iadd ?_⟩
  rw [ABk F.plain_list_iadd _]
  show wpAny _ A.in1 (Builtin.List.listExtendWith (.ref s.heap.objs.size) (.ref r) (.ref s.heap.objs.size)) _ _ _
  have hS : (s.heap.push { cls := .type "list", data := .seq ([] : Gc W1).toArray }).get? s.heap.objs.size = Fk { cls := .type "list", data := .seq #[] 0 } := vM _ rfl
  have fin' : ∀ h' tk acc' c', (∀ b o, b ≠ s.heap.objs.size -> (s.heap.push { cls := .type "list", data := .seq ([] : Gc W1).toArray }).get? b = Fk o -> h'.get? b = Fk o) -> h'.get? s.heap.objs.size = Fk { cls := .type "list", dict := uk, data := .seq acc' c', slots := #[] } -> ItemsOf (fun i v => ∃ t, v = .int (a + i * c) t) acc' n ->
      wpAny (model prog w) A (match wN s.heap.objs.size with
      | wN a => do
        match (← load a).data with
          | Data.seq xs _ => pure xs.toList
          | _ => unsupported "internal:collect"
      | _ => unsupported "internal:collect") Q E { s with heap := h', toks := tk } := fun h' tk acc' c' hk hg hi => by
    show wpAny _ A (load s.heap.objs.size >>= _) _ _ _
    refine um (wpAny_load hg ?_)
    exact vD (hQ h' tk acc' (fun b o e => hk b o (vZ (vI e)) (tz _ e)) hi)
  refine we (wpAny_extend_range (A := A) (R := fun q s' => q = .ok (.ret (.ref s.heap.objs.size)) /\ ∃ h' tk acc' c', s' = { s with heap := h', toks := tk } /\ (∀ b o, b ≠ s.heap.objs.size -> (s.heap.push { cls := .type "list", data := .seq ([] : Gc W1).toArray }).get? b = Fk o -> h'.get? b = Fk o) /\ h'.get? s.heap.objs.size = Fk { cls := .type "list", dict := uk, data := .seq acc' c', slots := #[] } /\ ItemsOf (fun i v => ∃ t, v = .int (a + i * c) t) acc' n) hh (tz _ hr) hsmall hn hlen _ _ _ hS fun h' tk acc' c' k1 k2 k3 => ⟨rfl, h', tk, acc', c', rfl, k1, k2, k3⟩) (fun fin s' h => ?_) (fun e s' h => ?_)
  · cases fin with
    | done f =>
      obtain ⟨e, h', tk, acc', c', rfl, k1, k2, k3⟩ := h
      cases e
      exact fin' _ _ _ _ k1 k2 k3
    | again c' => exact ⟨h.1, yq h.2 fun r s'' hr => by obtain ⟨rfl, h', tk, acc', c', rfl, k1, k2, k3⟩ := hr; exact fin' _ _ _ _ k1 k2 k3⟩
  · exact absurd h.1 (by simp)
end
theorem bH{r:uu}{a b c:Int}{t u v:Tok}{n:Nat}(hsmall:AAD a b c=true)(hn:yJ a b c=n)(hlen:n<=2^24):Meets (zP.«tuple.__new__» ⟨[.type "tuple",.ref r],[]⟩) (λA R s=>A.handled=uk/\IsRange s.heap r a b c t u v/\∀(h':ve) (tk:Nat) (acc:wK W1),(∀b o,s.heap.get? b=Fk o->h'.get? b=Fk o)->ItemsOf (λi v=>∃t,v=.int (a+i*c) t) acc n->R (.ok (.ret (.ref h'.objs.size))) {s with heap:=h'.push {cls:=.type "tuple",data:=.seq acc},toks:=tk}):=
 .of_wp λprog w A R s h=>by
  obtain⟨hh,hr,h⟩:=h
  have hsub:=sub_tuple_self
  have hinit:=init_tuple_lookup
  have hmh:=madeHere_tuple
  have hT:AB4 s (.ref r) "range":=⟨_,hr,rfl⟩
  have hh1:A.in1.handled=none:=hh
  wp_walk using AAG hT,VI hh1 hr hsmall hn hlen
  intro h' tk acc hk hi
  show wpAny _ _ (vw acc.toList.toArray >>= λv=>ret v) _ _ _
  unfold vw
  refine um (wJ ?_ (by show acc.toList.toArray.size<=sizeLine;simp only[zx];rw[hi.1,sizeLine_eq];exact uz hlen (by decide)))
  refine vD ⟨_,rfl,?_⟩
  have e:acc.toList.toArray=acc:=by simp
  rw[e]
  exact h h' tk acc hk hi
section
variable{prog:vR}{w:vi}{A:vj}{E:W1->ur->Prop}{s:ur}
theorem dZ{Q:W1->ur->Prop}{r:uu}{a b c:Int}{t u v:Tok}{n:Nat}(hh:A.handled=uk)(hr:IsRange s.heap r a b c t u v)(hsmall:AAD a b c=true)(hn:yJ a b c=n)(hlen:n<=2^24)(h:∀(h':ve) (tk:Nat) (acc:wK W1),(∀b o,s.heap.get? b=Fk o->h'.get? b=Fk o)->ItemsOf (λi v=>∃t,v=.int (a+i*c) t) acc n->Q (.ref h'.objs.size) {s with heap:=h'.push {cls:=.type "tuple",data:=.seq acc},toks:=tk}):wpAny (model prog w) A (call (.type "tuple") [.ref r]) Q E s:=
 callType_new F.called_tuple (by decide) (F.typeCall_tuple_1 _) (F.newCall_tuple_1 _) (λobj=>ABc obj _) F.entry_tuple_new
  (bH hsmall hn hlen) ⟨hh,hr,λh' tk acc hk hi=>⟨⟨_,vM _ rfl,rfl⟩,h h' tk acc hk hi⟩⟩
end
noncomputable def tTR(ta:TA):TE:=λσ H Q=>ta σ H λvs H1=>∃j:Int,vs=[.int j]/\0<=j/\j<=1000/\∀l,H1 l=uk->Q (.ref l) (upd H1 l (.tup ((vS j.toNat).map λ(i:Nat)=>V.int i)))
theorem nT{X:Cx}{a:vU}{ta:TA}{p p' pos pos':Pos}(hc:X.calm=true)(hgl:Gl X "tuple")(hml:X.mg "tuple"=uk)(hg:Gl X "range")(hm:X.mg "range"=uk)(ha:PA X [a] ta)(hs:vP [a] X.env=[(false,eval a X.env)]:=by rfl)(hs2:vP [Expr.Call (.Name "range" p) [a] [] pos] X.env=[(false,eval (.Call (.Name "range" p) [a] [] pos) X.env)]:=by rfl):PE X (.Call (.Name "tuple" p') [.Call (.Name "range" p) [a] [] pos] [] pos') (tTR ta):=by
 intro pins s σ H Q I h
 refine wL (MB I hgl hml vn ?_ (by decide) (by decide))
 refine wZ ?_ hs2 rfl
 rw[hs2]
 show wpAny _ _ (spliced ((false,eval (.Call (.Name "range" p) [a] [] pos) X.env)::backTo pos' [])) _ _ s
 refine yQ ?_
 refine wL (MB I hg hm PyProof.Rows.boot_range ?_ (by decide) (by decide))
 refine wZ (thn (ha pos pins s σ H _ I h) λus s1 ⟨vs,H1,I1,r1,q1⟩=>?_) hs rfl
 obtain⟨j,e,j0,j1,q⟩:=q1
 subst e
 cases r1 with
 |cons r rr=>
  cases rr
  obtain⟨t,rfl⟩:=r
  refine call_range_1 (yZ ?_)
  have hz:j.toNat<=2^24:=by lia
  refine dZ (n:=j.toNat) (I1.ok.hd hc) (IsRange.new ..) (small_one (by lia) (by lia) (by lia) (by lia)) (by rw[rangeSize_one];split<;>lia) hz λh' tk acc' hk hacc=>?_
  have kp:∀b o,s1.heap.get? b=Fk o->h'.get? b=Fk o:=λb o e=>hk b o (tz _ e)
  have rv:Vals ((vS j.toNat).map λ(i:Nat)=>V.int i) acc'.toList:=WA (by simp[hacc.1]) λi y u hy hu=>by
   have hi:i<j.toNat:=by
    have:=(vB.mp hy).1
    simpa using this
   rw[vG,xj hi]at hy
   cases hy
   obtain⟨tk',rfl⟩:=hacc.2 i u (by simpa using hu)
   exact⟨tk',by simp⟩
  have I2:Inv X pins σ H1 {s1 with heap:=h',toks:=tk}:=I1.kept (t':=tk) kp
  exact⟨.ref h'.objs.size,_,I2.laid (t':=tk) (o:=.tup ((vS j.toNat).map λ(i:Nat)=>V.int i)) (λb o e=>tz _ e) (u4 _) ⟨by rw[vW,yh];exact hz,acc'.toList,rv,by rw[zx];exact xX _ _⟩,rfl,q _ (I2.hok.fresh (u4 _))⟩
noncomputable def trK(r:D×Sto):uo (D×Sto):=match r.1 with
 | .int j=>if(decide (0<=j) && decide (j<=1000))=true then fin false (.val (.tup (Mh 0 j.toNat))) r.2 else uk
 |_=>uk
noncomputable def eTR(o:Ev):Ev:=λE S=>(o E S).bind trK
theorem qN{X:Cx}{a:vU}{o:Ev}{p p' pos pos':Pos}(hc:X.calm=true)(hgl:Gl X "tuple")(hml:X.mg "tuple"=uk)(hg:Gl X "range")(hm:X.mg "range"=uk)(ha:DEs X [a] [o])(hs:vP [a] X.env=[(false,eval a X.env)]:=by rfl)(hs2:vP [Expr.Call (.Name "range" p) [a] [] pos] X.env=[(false,eval (.Call (.Name "range" p) [a] [] pos) X.env)]:=by rfl):DE X (.Call (.Name "tuple" p') [.Call (.Name "range" p) [a] [] pos] [] pos') (eTR o):=⟨
 CP (nT hc hgl hml hg hm ha.pe hs hs2) λσ H Q z=>by
  obtain⟨M,E,S,d,S',e,r,st,q⟩:=z
  obtain⟨⟨w,S1⟩,e1,e⟩:=BK e
  have e1':evs [o] E S=Fk ([w],S1):=by
   show(o E S).bind (λr=>(evs [] E r.2).map λq=>(r.1::q.1,q.2))=_
   rw[e1];rfl
  refine JG e1' r st λvs H1 M1 g1 st1 r1=>?_
  unfold trK at e
  split at e
  .rename_i j he
   have he:w=.int j:=he
   subst he
   split at e
   .rename_i hk
    rw[vE]at hk
    refine⟨j,Tc r1,vH hk.1,vH hk.2,λl hl=>?_⟩
    have rd:A6 X.K M1 H1 ((vS j.toNat).map λ(i:Nat)=>V.int i) (Mh 0 j.toNat):=by
     have er:Mh 0 j.toNat=(vS j.toNat).map λ(i:Nat)=>D.int i:=by simp[Mh]
     rw[er]
     generalize vS j.toNat=xs
     induction xs with
     |nil=>exact .nil
     |cons x xs ih=>exact .cons (.int x) ih
    obtain⟨M2,g2,st2,d2⟩:=(Nw.tup st1.mo hl rd).fin st1 e
    exact q _ _ M2 (g1.trans g2) st2 d2
   .cases e
  .cases e⟩
end
section
open PyProof.Rows (boot_isinstance boot_int boot_bool boot_tuple boot_str boot_list boot_abs boot_all boot_any boot_sum boot_max boot_min boot_range boot_enumerate boot_zip boot_sorted boot_set boot_divmod)
noncomputable def ET:D:=.tup [.int 0,.int 1]
noncomputable def ZY:D:=.tup [.int 1,.int 1]
noncomputable def DR:D:=.tup [.str "bring",.str "pool",.str "swap",.str "trade"]
def F2:Ex:=(BE (Iz (eOp (o2 RD) [eV 0,eC (.ty "int")]) (L4 (eOp (o2 RD) [eV 0,eC (.ty "bool")]))))
def Dv:Fn:=Ao (A5 1 F2)
def Gx:Ex:=(BE (Iz (AJ Dv [eV 0]) (eOp (o2 wGe) [eV 0,eV 1])))
def Ek:Fn:=Ao (A5 2 Gx)
def D1:Ex:=(BE (Iz (AJ Ek [eV 0,eV 1]) (eOp (o2 wLe) [eV 0,eV 2])))
def BN:Fn:=Ao (A5 3 D1)
def Hq:Ex:=(Ad (WO 0 1 (eOp (o1 iK) [eV 0]) (eOp (o1 iK) [eV 1]))
    (Ad (UE (XY 1) (eOp (o2 wNe) [eV 1,eI 0]) (WO 0 1 (eV 1) (eOp (o2 U9) [eV 0,eV 1])))
    (BE (eV 0))))
def DX:Fn:=Ao (A5 2 Hq)
def Rp:Ex:=(Ad (Bs 2 (AJ DX [eV 0,eV 1]))
    (BE (Cw [eOp (o2 Qv) [eV 0,eV 2],eOp (o2 Qv) [eV 1,eV 2]])))
def EC:Fn:=Ao (A5 3 Rp)
def WE:Ex:=(BE (AJ EC [eOp (o2 EA) [eOp (o2 B7) [eIx (eV 0) (eI 0),eIx (eV 1) (eI 1)],eOp (o2 B7) [eIx (eV 1) (eI 0),eIx (eV 0) (eI 1)]],eOp (o2 B7) [eIx (eV 0) (eI 1),eIx (eV 1) (eI 1)]]))
def JQ:Fn:=Ao (A5 2 WE)
def WW:Ex:=(BE (AJ EC [eOp (o2 Qe) [eOp (o2 B7) [eIx (eV 0) (eI 0),eIx (eV 1) (eI 1)],eOp (o2 B7) [eIx (eV 1) (eI 0),eIx (eV 0) (eI 1)]],eOp (o2 B7) [eIx (eV 0) (eI 1),eIx (eV 1) (eI 1)]]))
def Ll:Fn:=Ao (A5 2 WW)
def U6:Ex:=(BE (AJ EC [eOp (o2 B7) [eIx (eV 0) (eI 0),eIx (eV 1) (eI 0)],eOp (o2 B7) [eIx (eV 0) (eI 1),eIx (eV 1) (eI 1)]]))
def Dc:Fn:=Ao (A5 2 U6)
def Uy:Ex:=(Ad (Bs 4 (eOp (o2 EA) [eOp (o2 B7) [eOp (o2 B7) [eIx (eV 0) (eI 0),eIx (eV 2) (eI 1)],eV 1],eOp (o2 B7) [eOp (o2 B7) [eIx (eV 2) (eI 0),eIx (eV 0) (eI 1)],eV 3]]))
    (BE (AJ EC [eV 4,eOp (o2 B7) [eOp (o2 B7) [eIx (eV 0) (eI 1),eIx (eV 2) (eI 1)],eOp (o2 EA) [eV 1,eV 3]]])))
def LA:Fn:=Ao (A5 5 Uy)
def MH:Ex:=(BE (Iz (eOp (o2 wLt) [eV 1,eOp (o1 Kw) [eV 0]]) (eOp (o2 wGe) [eIx (eIx (eV 0) (eV 1)) (eI 1),eV 2])))
def DO:Fn:=Ao (A5 3 MH)
def OJ:Ex:=(BE (Iz (AJ DO [eV 0,eV 1,eI 1]) (Iz (AJ DO [eV 0,eV 2,eI 1]) (eOp (o2 wEq) [eIx (eIx (eV 0) (eV 1)) (eI 0),eIx (eIx (eV 0) (eV 2)) (eI 0)]))))
def JJ:Fn:=Ao (A5 3 OJ)
def OY:Ex:=(BE (Iz (AJ DO [eV 0,eV 1,eV 2]) (eOp (o2 wNe) [eIx (eIx (eV 0) (eV 1)) (eI 0),eV 3])))
def HK:Fn:=Ao (A5 4 OY)
def Ft:Ex:=(Ad (Bs 3 (eIx (eV 2) (eI 0)))
    (Ad (xIf (eOp (o2 wEq) [eV 3,eC (.str "pool")]) (BE (AJ JJ [eV 0,eIx (eV 2) (eI 1),eIx (eV 2) (eI 2)])) EI)
    (Ad (xIf (eOp (o2 wEq) [eV 3,eC (.str "swap")]) (BE (AJ HK [eV 0,eIx (eV 2) (eI 1),eIx (eV 2) (eI 2),eIx (eV 2) (eI 3)])) EI)
    (Ad (xIf (eOp (o2 wEq) [eV 3,eC (.str "trade")]) (Ad (Bs 4 (Dp [] 1 (JA (eV 1)) (tNm 0) (eOp (o2 wEq) [eIx (eV 0) (eI 0),eC (.str "trade")]) (eIx (eV 0) (eI 1))))
    (BE (Iz (eOp (o2 (wIn true)) [eIx (eV 2) (eI 1),eV 4]) (AJ HK [eV 0,eIx (eV 2) (eI 2),eIx (eV 2) (eI 3),eIx (eV 2) (eI 4)])))) EI)
    (Ad (xIf (eOp (o2 (wIn false)) [eV 3,Cw [eC (.str "spoil"),eC (.str "throw")]]) (BE (AJ DO [eV 0,eIx (eV 2) (eI 1),eIx (eV 2) (eI 2)])) EI)
    (BE (eC (.bl true))))))))
def Dk:Fn:=Ao (A5 5 Ft)
def Ke:Ex:=(Ad (Rv (tTp [tNm 3,tNm 4]) (eIx (eV 0) (eV 1)))
    (BE (eOp (o2 EA) [eOp (o2 EA) [eOp (Lv false true) [eV 0,eV 1],GX [Cw [eV 3,eOp (o2 Qe) [eV 4,eV 2]]]],eOp (Lv true false) [eV 0,eOp (o2 EA) [eV 1,eI 1]]])))
def CW:Fn:=Ao (A5 5 Ke)
def CO:Ex:=(Ad (Bs 2 (eIx (eV 1) (eI 0)))
    (Ad (xIf (eOp (o2 wEq) [eV 2,eC (.str "bring")]) (BE (eOp (o2 EA) [eV 0,GX [Cw [eIx (eV 1) (eI 2),eIx (eV 1) (eI 3)]]])) EI)
    (Ad (xIf (eOp (o2 wEq) [eV 2,eC (.str "pool")]) (Ad (Rv (tTp [tNm 3,tNm 4]) (eIx (eV 0) (eIx (eV 1) (eI 1))))
    (Ad (Bs 5 (eIx (eIx (eV 0) (eIx (eV 1) (eI 2))) (eI 1)))
    (BE (eOp (o2 EA) [AJ CW [AJ CW [eV 0,eIx (eV 1) (eI 1),eV 4],eIx (eV 1) (eI 2),eV 5],GX [Cw [eV 3,eOp (o2 EA) [eV 4,eV 5]]]])))) EI)
    (Ad (xIf (eOp (o2 (wIn false)) [eV 2,Cw [eC (.str "swap"),eC (.str "trade")]]) (Ad (Rv (tTp [tNm 6,tNm 7,tNm 3,tNm 8]) (eOp (Lv true false) [eV 1,eOp (o1 NZ) [eI 4]]))
    (BE (eOp (o2 EA) [AJ CW [eV 0,eV 6,eV 7],GX [Cw [eV 3,eV 8]]]))) EI)
    (Ad (xIf (eOp (o2 (wIn false)) [eV 2,Cw [eC (.str "spoil"),eC (.str "throw")]]) (BE (AJ CW [eV 0,eIx (eV 1) (eI 1),eIx (eV 1) (eI 2)])) EI)
    (BE (eV 0)))))))
def Ay:Fn:=Ao (A5 9 CO)
def Jw:Ex:=(BE (Dp [] 1 (JA (eIx (eV 0) (eI 1))) (tNm 0) Ca (Cw [eIx (eV 0) (eI 0),eIx (eV 0) (eI 1)])))
def Cq:Fn:=Ao (A5 1 Jw)
def GI:Ex:=(Ad (Bs 1 (eIx (eV 0) (eI 0)))
    (Ad (xIf (eOp (o2 wEq) [eV 1,eC (.str "pool")]) (BE (eOp (o1 So) [GX [eIx (eV 0) (eI 1),eIx (eV 0) (eI 2)]])) EI)
    (Ad (xIf (eOp (o2 (wIn false)) [eV 1,Cw [eC (.str "swap"),eC (.str "trade")]]) (BE (GX [eIx (eV 0) (eOp (o1 NZ) [eI 4])])) EI)
    (BE (GX [])))))
def C3:Fn:=Ao (A5 2 GI)
def LQ:Ex:=(Ad (Bs 1 (AJ Cq [eV 0]))
    (Ad (Bs 2 (eIx (eV 0) (eI 2)))
    (Ad (Oq (iI (eV 2)) (tTp [tNm 3,tNm 4]) (Ad (xIf (L4 (AJ Dk [eV 1,eOp (Lv false true) [eV 2,eV 3],eV 4])) (BE (eV 3)) EI)
    (Bs 1 (AJ Ay [eV 1,eV 4]))))
    (BE (eC .non)))))
def F6:Fn:=Ao (A5 5 LQ)
def Jt:Ex:=(Ad (Bs 1 (AJ F6 [eV 0]))
    (xIf (eOp (o2 (mh true)) [eV 1,eC .non]) MA EI))
def A8:Fn:=Ao (A5 2 Jt)
def MI:Ex:=(BE (eOp (o1 DA) [Dp [1] 1 (Ts [eV 0]) (tNm 1) Ca (eIf (eOp (o2 wEq) [eV 1,eV 0]) (eC ZY) (eC ET))]))
def HB:Fn:=Ao (A5 2 MI)
def Km:Ex:=(BE (eOp (o1 DA) [Dp [1,3] 2 (cU (eV 0) (eV 2)) (tTp [tNm 2,tNm 3]) Ca (AJ LA [eV 2,eV 0,eV 3,eV 1])]))
def Cc:Fn:=Ao (A5 4 Km)
def ES:Ex:=(Ad (Bs 3 (AJ C3 [eV 2]))
    (Ad (xIf (eOp (o2 wEq) [eOp (o1 Kw) [eV 3],eI 1]) (BE (eIx (eV 1) (eIx (eV 3) (eI 0)))) EI)
    (Ad (Rv (tTp [tNm 4,tNm 5]) (eV 3))
    (BE (AJ Cc [eIx (eV 1) (eV 4),eIx (eIx (eV 0) (eV 4)) (eI 1),eIx (eV 1) (eV 5),eIx (eIx (eV 0) (eV 5)) (eI 1)])))))
def Bv:Fn:=Ao (A5 6 ES)
def Kj:Ex:=(BE (eOp (o2 EA) [eOp (o1 Zp) [Dp [2] 2 (JA (eV 1)) (tTp [tNm 1,tNm 2]) Ca (eOp (o2 B7) [eV 2,eIx (eV 0) (eV 1)])],eOp (o2 B7) [eIx (eV 0) (eI 2),eIx (eV 2) (eOp (o1 NZ) [eI 1])]]))
def FW:Fn:=Ao (A5 3 Kj)
def LR:Ex:=(Ad (Rv (tTp [tNm 3,tNm 4,tNm 5]) (eOp (Lv true false) [eV 2,eI 1]))
    (BE (AJ EC [eOp (o2 B7) [eV 4,eIx (eV 5) (eIx (eIx (eV 1) (eV 3)) (eI 0))],AJ FW [eV 0,eV 1,eV 5]])))
def GW:Fn:=Ao (A5 6 LR)
def Jx:Ex:=(Ad (Rv (tTp [tNm 5,tNm 6]) (AJ GW [eV 0,eV 1,eV 3]))
    (BE (AJ Cc [eV 4,eOp (o2 Qe) [eV 6,eV 5],eIx (eV 2) (eIx (eV 3) (eI 1)),eV 5])))
def Eu:Fn:=Ao (A5 7 Jx)
def LC:Ex:=(Ad (Rv (tTp [tNm 2,tNm 3,tNm 4]) (eOp (Lv true false) [eV 0,eI 1]))
    (Ad (Bs 5 (AJ Dc [eIx (eV 1) (eV 2),eV 4]))
    (Ad (Bs 6 (iM (o1 Qz) [eV 1]))
    (Ad (RU (AJ Ll [eIx (eV 1) (eV 2),eV 5]) (eV 6) (eV 2))
    (Ad (RU (AJ JQ [eIx (eV 1) (eV 3),eV 5]) (eV 6) (eV 3))
    (BE (eOp (o1 DA) [eV 6])))))))
def F9:Fn:=Ao (A5 7 LC)
def Bo:Ex:=(Ad (xIf (eOp (o2 wEq) [eIx (eV 3) (eI 0),eC (.str "throw")]) (BE (AJ Eu [eV 0,eV 1,eV 2,eV 3,eV 4])) EI)
    (Ad (xIf (eOp (o2 wEq) [eIx (eV 3) (eI 0),eC (.str "sell")]) (BE (AJ F9 [eV 3,eV 4])) EI)
    (BE (eV 4))))
def Aw:Fn:=Ao (A5 5 Bo)
def Bq:Ex:=(Ad (Bs 4 (Dp [0,1,2,3] 1 (JA (eV 2)) (tNm 4) Ca (AJ Aw [eV 0,eV 1,eV 2,eV 3,eV 4])))
    (Ad (xIf (eOp (o2 wEq) [eIx (eV 3) (eI 0),eC (.str "bring")]) (BE (eOp (o2 EA) [eV 4,GX [AJ HB [eIx (eV 0) (eI 0),eIx (eV 3) (eI 1)]]])) EI)
    (Ad (xIf (eOp (o2 (wIn false)) [eIx (eV 3) (eI 0),eC DR]) (BE (eOp (o2 EA) [eV 4,GX [AJ Bv [eV 1,eV 2,eV 3]]])) EI)
    (BE (eV 4)))))
def BB:Fn:=Ao (A5 5 Bq)
def OB:Ex:=(Ad (Rv (tTp [tNm 2,tNm 3,tNm 4]) (eV 0))
    (Ad (Bs 5 (AJ Cq [eV 0]))
    (Ad (Bs 6 (Dp [] 1 (JA (eV 3)) (tNm 0) Ca (eIx (eV 0) (eI 2))))
    (Ad (Bs 7 (eIx (eV 2) (eI 3)))
    (Ad (Oq (JA (eOp (Lv false true) [eV 4,eV 1])) (tNm 8) (Ad (Bs 7 (AJ Aw [eV 2,eV 5,eV 6,eV 8,eV 7]))
    (Ad (Bs 6 (AJ BB [eV 2,eV 5,eV 6,eV 8]))
    (Bs 5 (AJ Ay [eV 5,eV 8])))))
    (BE (Cw [eV 5,eV 6,eV 7])))))))
def JC:Fn:=Ao (A5 9 OB)
def KW:Ex:=(Ad (xIf (eOp (o2 wLt) [eV 1,eOp (o1 Kw) [eV 0]]) (BE (eIx (eV 0) (eV 1))) EI)
    (BE (eI 0)))
def D2:Fn:=Ao (A5 2 KW)
def Uv:Ex:=(BE (Ng [eV 0,eOp (o1 VF) [eOp (o2 wGe) [eV 0,eOp (o2 gD) [eI 10,eI 18]]],eI 0,eOp (o2 U9) [eV 0,eI 1000000007]]))
def La:Fn:=Ao (A5 1 Uv)
def Lq:Ex:=(Ad (xIf (Iz (eOp (o2 wEq) [eIx (eV 0) (eI 1),eI 1]) (eOp (o2 wGt) [eIx (eV 0) (eI 0),eI 0])) (Ad (Bs 2 (eOp (o2 U9) [eIx (eV 0) (eI 0),eV 1]))
    (Ad (RU (eOp (o2 Qv) [eIx (eV 0) (eI 0),eV 1]) (eV 0) (eI 0))
    (BE (eV 2)))) EI)
    (Ad (RU (eOp (o2 EA) [eIx (eV 0) (eI 2),eI 1]) (eV 0) (eI 2))
    (Ad (Bs 3 (eOp (o2 U9) [eOp (o2 B7) [eOp (o2 EA) [eIx (eV 0) (eI 3),eI 17],eOp (o2 EA) [eI 69621,eOp (o2 B7) [eI 2,eIx (eV 0) (eI 2)]]],eI 2147483647]))
    (Ad (Bs 3 (eOp (o2 U9) [eOp (o2 EA) [eOp (o2 EA) [eOp (o2 B7) [eV 3,eV 3],eOp (o2 B7) [eI 40503,eIx (eV 0) (eI 2)]],eI 5],eI 2147483629]))
    (BE (eOp (o2 U9) [eOp (o2 Qv) [eOp (o2 U9) [eOp (o2 B7) [eV 3,eI 48271],eI 2147483647],eI 32],eV 1]))))))
def AL:Fn:=Ao (A5 4 Lq)
def OO:Ex:=(Ad (UE (XY 1) (eOp (o2 wGt) [eV 1,eI 0]) (WO 0 1 (eV 1) (eOp (o2 U9) [eV 0,eV 1])))
    (BE (eV 0)))
def JR:Fn:=Ao (A5 2 OO)
def RN:Ex:=(Ad (Bs 2 (AJ JR [eOp (o1 iK) [eV 0],eV 1]))
    (BE (Cw [eOp (o2 Qv) [eV 0,eV 2],eOp (o2 Qv) [eV 1,eV 2]])))
def Cp:Fn:=Ao (A5 3 RN)
def RH:Ex:=(BE (AJ Cp [eOp (o2 EA) [eOp (o2 B7) [eIx (eV 0) (eI 0),eIx (eV 1) (eI 1)],eOp (o2 B7) [eIx (eV 1) (eI 0),eIx (eV 0) (eI 1)]],eOp (o2 B7) [eIx (eV 0) (eI 1),eIx (eV 1) (eI 1)]]))
def Dj:Fn:=Ao (A5 2 RH)
def PJ:Ex:=(BE (AJ Cp [eOp (o2 B7) [eIx (eV 0) (eI 0),eIx (eV 1) (eI 0)],eOp (o2 B7) [eIx (eV 0) (eI 1),eIx (eV 1) (eI 1)]]))
def BR:Fn:=Ao (A5 2 PJ)
def R9:Ex:=(BE (AJ Dj [eV 0,Cw [eOp (o2 Qe) [eI 0,eIx (eV 1) (eI 0)],eIx (eV 1) (eI 1)]]))
def Fs:Fn:=Ao (A5 2 R9)
def MV:Ex:=(Ad (Bs 2 (UM [0] 1 (Ts [eV 1]) (tNm 1) Ca (eIx (GX [eI 0,eI 1,AJ AL [eV 0,eI 4],AJ AL [eV 0,eI 9]]) (AJ AL [eV 0,eI 4]))))
    (Ad (xIf (eOp (o2 wEq) [eOp (o1 Zp) [eV 2],eI 0]) (RU (eI 1) (eV 2) (AJ AL [eV 0,eV 1])) EI)
    (BE (eOp (o1 DA) [Dp [2] 1 (JA (eV 2)) (tNm 1) Ca (AJ Cp [eV 1,eOp (o1 Zp) [eV 0]])]))))
def Ff:Fn:=Ao (A5 3 MV)
def LY:Ex:=(Ad (Bs 1 (eOp (o2 EA) [eOp (o2 gD) [eI 10,eI 30],AJ AL [eV 0,eI 99]]))
    (BE (eIx (GX [eOp (o2 EA) [eI 1,AJ AL [eV 0,eI 4]],eOp (o2 EA) [eI 1,AJ AL [eV 0,eI 40]],eOp (o2 EA) [eI 1,AJ AL [eV 0,eI 999]],eV 1]) (eOp (o2 Qv) [AJ AL [eV 0,eI 7],eI 2]))))
def Bn:Fn:=Ao (A5 2 LY)
def O9:Ex:=(Ad (WO 1 2 (eOp (o2 EA) [eI 1,AJ AL [eV 0,eI 4]]) (eOp (o2 EA) [eI 1,AJ AL [eV 0,eI 5]]))
    (Ad (Bs 3 (eIx (GX [eOp (o2 EA) [eI 1,AJ AL [eV 0,eI 3]],eOp (o2 EA) [eI 1,AJ AL [eV 0,eI 20]]]) (AJ AL [eV 0,eI 2])))
    (BE (Cw [eV 1,eV 2,eV 3,AJ Ff [eV 0,eV 1],AJ AL [eV 0,eI 10],AJ AL [eV 0,eI 10]]))))
def KA:Fn:=Ao (A5 4 O9)
def Pw:Ex:=(Ad (Bs 2 (Ng []))
    (Ad (Oq (Ts [eIx (GX [eI 0,eI 1,AJ AL [eV 0,eI 5]]) (AJ AL [eV 0,eI 3])]) (tNm 3) (Ci (RC R7 (eV 2) [Cw [AJ AL [eV 0,eIx (eV 1) (eI 1)],AJ Bn [eV 0],AJ Ff [eV 0,eIx (eV 1) (eI 0)]]])))
    (BE (eOp (o1 DA) [eV 2]))))
def KO:Fn:=Ao (A5 4 Pw)
def PF:Ex:=(Ad (Bs 1 (eOp (o2 EA) [eI 1,AJ AL [eV 0,eI 12]]))
    (BE (AJ Cp [eOp (o2 EA) [eI 1,AJ AL [eV 0,eV 1]],eV 1])))
def Ir:Fn:=Ao (A5 2 PF)
def Od:Ex:=(BE (eOp (o1 DA) [Dp [0] 1 (Ts [eV 1]) (tNm 1) Ca (eOp (o2 EA) [eI 1,eIx (GX [AJ AL [eV 0,eI 3],AJ AL [eV 0,eI 99]]) (AJ AL [eV 0,eI 2])])]))
def Fw:Fn:=Ao (A5 2 Od)
def PK:Ex:=(BE (Ng [UM [] 1 (JA (eIx (eV 0) (eI 1))) (tNm 0) Ca (iM (o1 Qz) [eV 0]),eOp (o1 DA) [eIx (eIx (eV 0) (eI 0)) (eI 3)],Ng []]))
def Gf:Fn:=Ao (A5 1 PK)
def OS:Ex:=(Ad (Bs 2 (Ng []))
    (Ad (Oq (cU (eIx (eV 0) (eI 2)) (eIx (eV 1) (eI 2))) (tTp [tNm 3,tNm 4]) (Ad (Bs 5 (AJ Dj [AJ BR [Cw [eIx (eV 0) (eI 1),eI 1],eV 3],AJ BR [Cw [eIx (eV 1) (eI 1),eI 1],eV 4]]))
    (Ci (RC R7 (eV 2) [AJ BR [eV 5,AJ Cp [eI 1,eOp (o2 EA) [eIx (eV 0) (eI 1),eIx (eV 1) (eI 1)]]]]))))
    (BE (eOp (o1 DA) [eV 2]))))
def JI:Fn:=Ao (A5 6 OS)
def R0:Ex:=(Ad (Bs 3 (eIx (eV 2) (eI 3)))
    (Ad (Bs 4 (eOp (o2 EA) [eOp (o1 Zp) [Dp [3] 3 (JA (eV 1)) (tTp [tNm 1,tNm 2,tNm 3]) Ca (eOp (o2 B7) [eV 2,eIx (eV 0) (eV 1)])],eOp (o2 B7) [eIx (eV 0) (eI 2),eIx (eV 3) (eOp (o1 NZ) [eI 1])]]))
    (BE (AJ Cp [eOp (o2 B7) [eIx (eV 2) (eI 2),eIx (eV 3) (eIx (eIx (eV 1) (eIx (eV 2) (eI 1))) (eI 0))],eV 4]))))
def Lm:Fn:=Ao (A5 5 R0)
def Pe:Ex:=(Ad (Bs 3 (Ng []))
    (Ad (Oq (cU (eV 0) (eV 2)) (tTp [tNm 4,tNm 5]) (Ci (RC R7 (eV 3) [AJ Dj [AJ BR [eV 4,AJ Fs [Cw [eI 1,eI 1],eV 1]],AJ BR [eV 5,eV 1]]])))
    (BE (eOp (o1 DA) [eV 3]))))
def Gz:Fn:=Ao (A5 6 Pe)
def Rr:Ex:=(Ad (Bs 2 (iM (o1 Qz) [eV 0]))
    (Ad (Bs 3 (AJ BR [eIx (eV 2) (eIx (eV 1) (eI 1)),eIx (eV 1) (eI 3)]))
    (Ad (RU (AJ Fs [eIx (eV 2) (eIx (eV 1) (eI 1)),eV 3]) (eV 2) (eIx (eV 1) (eI 1)))
    (Ad (RU (AJ Dj [eIx (eV 2) (eIx (eV 1) (eI 2)),eV 3]) (eV 2) (eIx (eV 1) (eI 2)))
    (BE (eOp (o1 DA) [eV 2]))))))
def H0:Fn:=Ao (A5 4 Rr)
def Nd:Ex:=(Ad (Rv (tTp [tNm 3,tNm 4,tNm 5]) (eV 1))
    (xIf (eOp (o2 wEq) [eIx (eV 2) (eI 0),eC (.str "throw")]) (Ad (WO 6 7 (AJ Lm [eV 0,eV 3,eV 2]) (eIx (eIx (eV 3) (eIx (eV 2) (eI 1))) (eI 2)))
    (Ad (RU (eOp (o2 Qe) [eIx (eIx (eV 3) (eIx (eV 2) (eI 1))) (eI 1),eIx (eV 2) (eI 2)]) (eIx (eV 3) (eIx (eV 2) (eI 1))) (eI 1))
    (Ad (Oq (JA (eV 3)) (tNm 8) (RU (AJ Gz [eIx (eV 8) (eI 2),eV 6,eV 7]) (eV 8) (eI 2)))
    (RU (AJ Gz [eV 4,eV 6,eV 7]) (eV 1) (eI 1))))) (Ad (Oq (JA (eV 3)) (tNm 8) (RU (AJ H0 [eIx (eV 8) (eI 2),eV 2]) (eV 8) (eI 2)))
    (RU (AJ H0 [eV 4,eV 2]) (eV 1) (eI 1)))))
def Hx:Fn:=Ao (A5 9 Nd)
def JD:Ex:=(Ad (Rv (tTp [tNm 3,tNm 4,tNm 5]) (eV 1))
    (Ad (Bs 6 (eIx (eV 2) (eI 0)))
    (xIf (eOp (o2 wEq) [eV 6,eC (.str "bring")]) (Ci (RC R7 (eV 3) [Ng [eIx (eV 2) (eI 2),eIx (eV 2) (eI 3),eOp (o1 DA) [Dp [2] 1 (Ts [eIx (eV 0) (eI 0)]) (tNm 1) Ca (Cw [eOp (o1 VF) [eOp (o2 wEq) [eV 1,eIx (eV 0) (eI 1)]],eI 1])]]])) (xIf (eOp (o2 wEq) [eV 6,eC (.str "pool")]) (Ad (WO 7 8 (eIx (eV 3) (eIx (eV 2) (eI 1))) (eIx (eV 3) (eIx (eV 2) (eI 2))))
    (Ad (Ci (RC R7 (eV 3) [Ng [eIx (eV 7) (eI 0),eOp (o2 EA) [eIx (eV 7) (eI 1),eIx (eV 8) (eI 1)],AJ JI [eV 7,eV 8]]]))
    (Ad (RU (eI 0) (eV 7) (eI 1))
    (RU (eI 0) (eV 8) (eI 1))))) (xIf (eOp (o2 (wIn false)) [eV 6,Cw [eC (.str "swap"),eC (.str "trade")]]) (Ad (Rv (tTp [tNm 9,tNm 10,tNm 11,tNm 12]) (eOp (Lv true false) [eV 2,eOp (o1 NZ) [eI 4]]))
    (Ad (RU (eOp (o2 Qe) [eIx (eIx (eV 3) (eV 9)) (eI 1),eV 10]) (eIx (eV 3) (eV 9)) (eI 1))
    (Ad (Ci (RC R7 (eV 3) [Ng [eV 11,eV 12,eIx (eIx (eV 3) (eV 9)) (eI 2)]]))
    (Ci (RC lr (eV 5) [eOp (o2 B7) [eOp (Lv true true) [eV 2,eI 1,eI 2],eOp (o1 VF) [eOp (o2 wEq) [eV 6,eC (.str "trade")]]]]))))) (xIf (eOp (o2 wEq) [eV 6,eC (.str "spoil")]) (RU (eOp (o2 Qe) [eIx (eIx (eV 3) (eIx (eV 2) (eI 1))) (eI 1),eIx (eV 2) (eI 2)]) (eIx (eV 3) (eIx (eV 2) (eI 1))) (eI 1)) (Ci (AJ Hx [eV 0,eV 1,eV 2]))))))))
def CL:Fn:=Ao (A5 13 JD)
def SA:Ex:=(Ad (Rv (tTp [tNm 3,tNm 4,tNm 5]) (eV 2))
    (Ad (Bs 6 (Dp [] 2 (iI (eV 3)) (tTp [tNm 0,tNm 1]) (eOp (o2 wGt) [eIx (eV 1) (eI 1),eI 0]) (eV 0)))
    (Ad (Bs 7 (AJ AL [eV 0,eI 12]))
    (Ad (xIf (eOr (eOp (o2 wLt) [eV 7,eI 2]) (eOp (o2 wEq) [eV 6,GX []])) (BE (Cw [eC (.str "bring"),AJ AL [eV 0,eIx (eV 1) (eI 0)],AJ AL [eV 0,eIx (eV 1) (eI 1)],AJ Bn [eV 0]])) EI)
    (Ad (Bs 8 (eIx (eV 6) (AJ AL [eV 0,eOp (o1 Kw) [eV 6]])))
    (Ad (Bs 9 (eOp (o2 EA) [eI 1,AJ AL [eV 0,eOp (o2 mT) [eIx (eIx (eV 3) (eV 8)) (eI 1),eI 2000]]]))
    (Ad (xIf (eOp (o2 wLt) [eV 7,eI 5]) (Ad (Bs 10 (Dp [3,8] 1 (JA (eV 6)) (tNm 2) (Iz (eOp (o2 wNe) [eV 2,eV 1]) (eOp (o2 wEq) [eIx (eIx (eV 0) (eV 2)) (eI 0),eIx (eIx (eV 0) (eV 1)) (eI 0)])) (eV 2)))
    (xIf (eOp (o2 wNe) [eV 10,GX []]) (BE (Cw [eC (.str "pool"),eV 8,eIx (eV 10) (AJ AL [eV 0,eOp (o1 Kw) [eV 10]])])) EI)) EI)
    (Ad (xIf (Iz (eOp (o2 wLt) [eV 7,eI 8]) (eOp (o2 wGt) [eIx (eV 1) (eI 1),eI 1])) (Ad (Bs 11 (eOp (o2 U9) [eOp (o2 EA) [eOp (o2 EA) [eIx (eIx (eV 3) (eV 8)) (eI 0),eI 1],AJ AL [eV 0,eOp (o2 Qe) [eIx (eV 1) (eI 1),eI 1]]],eIx (eV 1) (eI 1)]))
    (Ad (Bs 12 (Dp [5] 1 (Ts [eI 10]) (tNm 1) (eOp (o2 (wIn true)) [eV 1,eV 0]) (eV 1)))
    (Ad (xIf (Iz (eOp (o2 wEq) [eV 7,eI 7]) (eOp (o2 wNe) [eV 12,GX []])) (BE (Cw [eC (.str "trade"),eIx (eV 12) (AJ AL [eV 0,eOp (o1 Kw) [eV 12]]),eV 8,eV 9,eV 11,AJ Bn [eV 0]])) EI)
    (BE (Cw [eC (.str "swap"),eV 8,eV 9,eV 11,AJ Bn [eV 0]]))))) EI)
    (Ad (xIf (eOp (o2 wEq) [eV 7,eI 8]) (BE (Cw [eC (.str "spoil"),eV 8,eV 9])) EI)
    (Ad (xIf (Iz (eOp (o2 wEq) [eV 7,eI 9]) (eOp (o2 wGt) [eIx (eV 1) (eI 0),eI 1])) (Ad (Bs 13 (AJ AL [eV 0,eIx (eV 1) (eI 0)]))
    (BE (Cw [eC (.str "sell"),eV 13,eOp (o2 U9) [eOp (o2 EA) [eOp (o2 EA) [eV 13,eI 1],AJ AL [eV 0,eOp (o2 Qe) [eIx (eV 1) (eI 0),eI 1]]],eIx (eV 1) (eI 0)],AJ Ir [eV 0]]))) EI)
    (BE (Cw [eC (.str "throw"),eV 8,eV 9,AJ Fw [eV 0,eOp (o2 EA) [eIx (eV 1) (eI 1),eI 1]]]))))))))))))
def Gw:Fn:=Ao (A5 14 SA)
def Rh:Ex:=(Ad (Bs 2 (AJ KA [eV 0]))
    (Ad (Bs 3 (AJ KO [eV 0,eV 2]))
    (Ad (WO 4 5 (AJ Gf [Cw [eV 2,eV 3,Cw []]]) (Ng []))
    (Ad (Oq (Ts [AJ AL [eV 0,eOp (o2 EA) [eV 1,eI 1]]]) (tNm 6) (Ad (Bs 7 (AJ Gw [eV 0,eV 2,eV 4]))
    (xIf (eOr (eOp (o2 wNe) [eIx (eV 7) (eI 0),eC (.str "throw")]) (eOp (o2 wLt) [eOp (o1 Kw) [Dp [] 1 (JA (eV 5)) (tNm 0) (eOp (o2 wEq) [eIx (eV 0) (eI 0),eC (.str "throw")]) (eV 0)],eI 3])) (Ad (Ci (AJ CL [eV 2,eV 4,eV 7]))
    (Ci (RC R7 (eV 5) [eV 7]))) EI)))
    (BE (Cw [eV 2,eV 3,eOp (o1 DA) [eV 5]]))))))
def IA:Fn:=Ao (A5 8 Rh)
def OA:Ex:=(Ad (Bs 1 (AJ Gf [eV 0]))
    (Ad (Bs 2 (Ng [Cw [Dp [] 1 (JA (eIx (eV 1) (eI 0))) (tNm 0) Ca (eOp (o1 DA) [eV 0]),eOp (o1 DA) [eIx (eV 1) (eI 1)]]]))
    (Ad (Oq (JA (eIx (eV 0) (eI 2))) (tNm 3) (Ad (Ci (AJ CL [eIx (eV 0) (eI 0),eV 1,eV 3]))
    (Ci (RC R7 (eV 2) [Cw [Dp [] 1 (JA (eIx (eV 1) (eI 0))) (tNm 0) Ca (eOp (o1 DA) [eV 0]),eOp (o1 DA) [eIx (eV 1) (eI 1)]]]))))
    (BE (eV 2)))))
def Fz:Fn:=Ao (A5 4 OA)
def KH:Ex:=(BE (Iz (eOp (o2 RD) [eV 0,eC (.ty "int")]) (Iz (L4 (eOp (o2 RD) [eV 0,eC (.ty "bool")])) (Vq (eI 0) (eV 0) (eV 1)))))
def Bm:Fn:=Ao (A5 2 KH)
def G9:Ex:=(Ad (xIf (eOr (L4 (eOp (o2 RD) [eV 0,eC (.ty "tuple")])) (L4 (eOp (o1 bB) [Dp [1] 1 (JA (eV 0)) (tNm 1) Ca (AJ Bm [eV 1,eV 0])]))) (BE (eC (.bl false))) EI)
    (BE (eOp (o2 wEq) [eSL (eV 0),eOp (o1 Kw) [eV 0]])))
def DP:Fn:=Ao (A5 2 G9)
def FT:Ex:=(Ad (xIf (eOr (L4 (eOp (o2 RD) [eV 0,eC (.ty "tuple")])) (eOp (o2 wNe) [eOp (o1 Kw) [eV 0],eV 1])) (BE (eC (.bl false))) EI)
    (BE (eOp (o1 bB) [Dp [] 1 (JA (eV 0)) (tNm 0) Ca (Iz (AJ Bm [eV 0,eI 100]) (eOp (o2 wGt) [eV 0,eI 0]))])))
def Bh:Fn:=Ao (A5 2 FT)
def Nb:Ex:=(Ad (xIf (eOp (o2 wLe) [eIx (eV 1) (eI 0),eI 0]) (BE (eC ET)) EI)
    (BE (AJ Dc [eV 1,AJ EC [eIx (eV 0) (eI 5),eI 10]])))
def Hy:Fn:=Ao (A5 2 Nb)
def Ud:Ex:=(Ad (Bs 1 (eC ET))
    (Ad (Oq (JA (eV 0)) (tNm 2) (Bs 1 (AJ JQ [eV 1,eV 2])))
    (BE (eV 1))))
def J2:Fn:=Ao (A5 3 Ud)
def Rm:Ex:=(Ad (Rv (tTp [tNm 3,tNm 4,tNm 5]) (eV 0))
    (Ad (Bs 6 (Dp [1,2] 3 (JA (eV 4)) (tTp [tNm 2,tNm 3,tNm 4]) Ca (AJ Dc [Cw [eOp (o2 B7) [eV 3,eIx (eV 1) (eV 2)],eI 1],eIx (eV 4) (eV 0)])))
    (Ad (Bs 7 (Dp [1,2] 1 (JA (eV 5)) (tNm 2) (Iz (eOp (o2 wEq) [eIx (eV 2) (eI 0),eC (.str "bring")]) (eOp (o2 wEq) [eIx (eV 2) (eI 1),eV 0])) (eOp (o2 B7) [eIx (eV 2) (eI 3),eIx (eV 1) (eIx (eV 2) (eI 2))])))
    (BE (AJ JQ [AJ J2 [eV 6],Cw [eOp (o1 Zp) [eV 7],eI 1]])))))
def Lc:Fn:=Ao (A5 8 Rm)
def Ck:Ex:=(BE (AJ BN [eV 1,eI 0,eOp (o2 Qe) [eIx (eV 0) (eI 0),eI 1]]))
def A3:Fn:=Ao (A5 2 Ck)
def C5:Ex:=(xIf (L4 (AJ A3 [eIx (eV 0) (eI 0),eV 1])) MA EI)
def Ac:Fn:=Ao (A5 2 C5)
def EY:Ex:=(BE (Iz (eOp (o2 RD) [eV 0,eC (.ty "tuple")]) (eOp (o2 wEq) [eOp (o1 Kw) [eV 0],eV 1])))
def DZ:Fn:=Ao (A5 2 EY)
def FN:Ex:=(BE (Iz (AJ DZ [eV 0,eV 1]) (eOp (o1 bB) [Dp [] 1 (JA (eV 0)) (tNm 0) Ca (AJ BN [eV 0,eI 1,eI 99])])))
def Cj:Fn:=Ao (A5 2 FN)
def DV:Ex:=(xIf (L4 (AJ Cj [eV 1,eIx (eIx (eV 0) (eI 0)) (eI 1)])) MA EI)
def Aq:Fn:=Ao (A5 2 DV)
def N7:Ex:=(Ad (Bs 1 (eIx (eIx (eV 0) (eI 0)) (eI 4)))
    (Ad (Rv (tTp [tNm 2,tNm 3,tNm 4]) (AJ JC [eV 0,eOp (o1 Kw) [eIx (eV 0) (eI 2)]]))
    (Ad (Bs 5 (Ng []))
    (Ad (Oq (cU (eV 2) (eV 3)) (tTp [tTp [tNm 7,tNm 8],tNm 6]) (Ad (Bs 9 (AJ Cc [eV 6,eOp (o2 Qe) [eI 10,eV 1],eV 4,eV 1]))
    (Ci (RC R7 (eV 5) [eOp (o1 DA) [Dp [8] 1 (JA (eV 9)) (tNm 1) Ca (AJ Dc [Cw [eV 0,eI 1],eV 1])]]))))
    (BE (eV 5))))))
def Eo:Fn:=Ao (A5 10 N7)
def PR:Ex:=(Ad (Bs 2 (AJ Cq [eV 0]))
    (Ad (Oq (JA (eOp (Lv false true) [eIx (eV 0) (eI 2),eV 1])) (tNm 3) (Bs 2 (AJ Ay [eV 2,eV 3])))
    (BE (eV 2))))
def IK:Fn:=Ao (A5 4 PR)
def Jl:Ex:=(Ad (Bs 3 (AJ IK [eV 0,eOp (o1 Kw) [eIx (eV 0) (eI 2)]]))
    (BE (AJ J2 [Dp [1,2] 3 (cU (eV 3) (AJ Eo [eV 0])) (tTp [tTp [tNm 3,tNm 4],tNm 2]) Ca (AJ Dc [Cw [eIx (eV 1) (eV 3),eI 1],eIx (eV 2) (eV 0)])])))
def Es:Fn:=Ao (A5 4 Jl)
def FL:Ex:=(Ad (Ci (AJ A8 [eV 0]))
    (Ad (Ci (AJ Ac [eV 0,eV 1]))
    (Ad (Ci (AJ Aq [eV 0,eV 2]))
    (Ad (Ci (AJ Aq [eV 0,eV 3]))
    (Ad (Bs 4 (AJ Lc [eV 0,eV 1,eV 2]))
    (Ad (Bs 5 (AJ Es [eV 0,eV 1,eV 3]))
    (Ad (Bs 6 (AJ Ll [eV 5,eV 4]))
    (BE (Cw [eV 4,eV 5,eV 6,AJ Hy [eIx (eV 0) (eI 0),eV 6]])))))))))
def BX:Fn:=Ao (A5 7 FL)
def ME:Ex:=(BE (eOp (o2 EA) [eOp (o1 Kw) [eIx (eV 0) (eI 1)],eOp (o1 Kw) [Dp [] 1 (JA (eOp (Lv false true) [eIx (eV 0) (eI 2),eV 1])) (tNm 0) (eOp (o2 (wIn false)) [eIx (eV 0) (eI 0),eC DR]) (eV 0)]]))
def FI:Fn:=Ao (A5 2 ME)
def F8:Ex:=(xIf (L4 (AJ BN [eV 1,eI 0,eOp (o2 Qe) [AJ FI [eV 0,eOp (o1 Kw) [eIx (eV 0) (eI 2)]],eI 1]])) MA EI)
def Bz:Fn:=Ao (A5 2 F8)
def Lb:Ex:=(Ad (Ci (AJ A8 [eV 0]))
    (Ad (Ci (AJ Ac [eV 0,eV 1]))
    (Ad (Ci (AJ Bz [eV 0,eV 2]))
    (BE (eIx (eIx (AJ Eo [eV 0]) (eV 2)) (eV 1))))))
def EB:Fn:=Ao (A5 3 Lb)
def Kh:Ex:=(BE (eOp (o2 Qv) [eIx (eV 0) (eI 0),eIx (eV 0) (eI 1)]))
def D6:Fn:=Ao (A5 1 Kh)
def OC:Ex:=(Ad (Bs 2 (Dp [1] 2 (iI (eV 0)) (tTp [tNm 1,tNm 2]) Ca (Cw [eV 1,AJ D6 [eIx (eV 2) (eV 0)]])))
    (BE (UM [] 2 (JA (eV 2)) (tTp [tNm 0,tNm 1]) (eOp (o2 wGt) [eV 1,eI 0]) (Cw [eV 0,eV 1]))))
def Ds:Fn:=Ao (A5 3 OC)
def LP:Ex:=(Ad (Ci (AJ A8 [eV 0]))
    (Ad (Ci (AJ Ac [eV 0,eV 1]))
    (BE (AJ Ds [AJ Eo [eV 0],eV 1]))))
def Dt:Fn:=Ao (A5 2 LP)
def Eb:Rx:=(rIf (L4 (AJ A3 [eIx (eV 0) (eI 0),eV 1])) (P1 "NoPartner" [eC (.str "the train has no such partner")]) rNo)
def BF:Rf:=Ao (P9 2 Eb)
def E9:Rx:=(rIf (L4 (AJ Cj [eV 1,eIx (eIx (eV 0) (eI 0)) (eI 1)])) (P1 "NoPrices" [eC (.str "these are no prices of the train's kinds")]) rNo)
def Bc:Rf:=Ao (P9 2 E9)
def G8:Rx:=(U8 rNo (Ci (AJ A8 [eV 0]))
    (U8 (Hv BF [eV 0,eV 1]) (Ci (AJ Ac [eV 0,eV 1]))
    (U8 (Hv Bc [eV 0,eV 2]) (Ci (AJ Aq [eV 0,eV 2]))
    (U8 (Hv Bc [eV 0,eV 3]) (Ci (AJ Aq [eV 0,eV 3]))
    rNo))))
def CK:Rf:=Ao (P9 7 G8)
def JB:Rx:=(rIf (L4 (AJ BN [eV 1,eI 0,eOp (o2 Qe) [AJ FI [eV 0,eOp (o1 Kw) [eIx (eV 0) (eI 2)]],eI 1]])) (P1 "NoLoad" [eC (.str "the book makes no load of this number")]) rNo)
def EG:Rf:=Ao (P9 2 JB)
def NW:Rx:=(U8 rNo (Ci (AJ A8 [eV 0]))
    (U8 (Hv BF [eV 0,eV 1]) (Ci (AJ Ac [eV 0,eV 1]))
    (U8 (Hv EG [eV 0,eV 2]) (Ci (AJ Bz [eV 0,eV 2]))
    rNo)))
def G4:Rf:=Ao (P9 3 NW)
def OG:Rx:=(U8 rNo (Ci (AJ A8 [eV 0]))
    (U8 (Hv BF [eV 0,eV 1]) (Ci (AJ Ac [eV 0,eV 1]))
    rNo))
def HW:Rf:=Ao (P9 2 OG)
def Ie:Ex:=(Ad (Bs 5 (eIx (GX [eC (.str "partner"),eC (.str "none")]) (eOp (o1 VF) [AJ Bm [eV 1,eIx (eIx (eV 0) (eI 0)) (eI 0)]])))
    (Ad (xIf (eOp (o2 wNe) [WV "_law_partner_right" [0,1] (AJ Dt [eV 0,eV 1]) (Hv HW [eV 0,eV 1]) (.str "none") (gOr ["NoPartner","NoLoad","NoPrices","NoOrder"] "NoPartner" (BE (eC (.str "partner"))) (gOr ["NoPartner","NoLoad","NoPrices","NoOrder"] "NoLoad" (BE (eC (.str "load"))) (gOr ["NoPartner","NoLoad","NoPrices","NoOrder"] "NoPrices" (BE (eC (.str "prices"))) (gOr ["NoPartner","NoLoad","NoPrices","NoOrder"] "NoOrder" (BE (eC (.str "order"))) gNo)))),eV 5]) (BE (eC (.bl false))) EI)
    (Ad (Bs 6 (eOp (o1 Kw) [eIx (eIx (AJ Fz [eV 0]) (eOp (o1 NZ) [eI 1])) (eI 0)]))
    (Ad (Bs 7 (eIx (GX [eV 5,eC (.str "load")]) (eOp (o1 VF) [Iz (eOp (o2 wEq) [eV 5,eC (.str "none")]) (L4 (AJ Bm [eV 2,eV 6]))])))
    (Ad (xIf (eOp (o2 wNe) [WV "_law_partner_right" [0,1,2] (AJ EB [eV 0,eV 1,eV 2]) (Hv G4 [eV 0,eV 1,eV 2]) (.str "none") (gOr ["NoPartner","NoLoad","NoPrices","NoOrder"] "NoPartner" (BE (eC (.str "partner"))) (gOr ["NoPartner","NoLoad","NoPrices","NoOrder"] "NoLoad" (BE (eC (.str "load"))) (gOr ["NoPartner","NoLoad","NoPrices","NoOrder"] "NoPrices" (BE (eC (.str "prices"))) (gOr ["NoPartner","NoLoad","NoPrices","NoOrder"] "NoOrder" (BE (eC (.str "order"))) gNo)))),eV 7]) (BE (eC (.bl false))) EI)
    (Ad (Bs 8 (Iz (AJ Bh [eV 3,eIx (eIx (eV 0) (eI 0)) (eI 1)]) (AJ Bh [eV 4,eIx (eIx (eV 0) (eI 0)) (eI 1)])))
    (Ad (Bs 7 (eIx (GX [eV 5,eC (.str "prices")]) (eOp (o1 VF) [Iz (eOp (o2 wEq) [eV 5,eC (.str "none")]) (L4 (eV 8))])))
    (BE (eOp (o2 wEq) [WV "_law_partner_right" [0,1,3,4] (AJ BX [eV 0,eV 1,eV 2,eV 3]) (Hv CK [eV 0,eV 1,eV 2,eV 3]) (.str "none") (gOr ["NoPartner","NoLoad","NoPrices","NoOrder"] "NoPartner" (BE (eC (.str "partner"))) (gOr ["NoPartner","NoLoad","NoPrices","NoOrder"] "NoLoad" (BE (eC (.str "load"))) (gOr ["NoPartner","NoLoad","NoPrices","NoOrder"] "NoPrices" (BE (eC (.str "prices"))) (gOr ["NoPartner","NoLoad","NoPrices","NoOrder"] "NoOrder" (BE (eC (.str "order"))) gNo)))),eV 7])))))))))
def BI:Fn:=Ao (A5 9 Ie)
def ON:Ex:=(BE (eOp (o1 DA) [Dp [0] 1 (Ts [eV 1]) (tNm 1) Ca (eOp (o2 EA) [eI 1,eIx (GX [AJ AL [eV 0,eI 4],AJ AL [eV 0,eI 99]]) (AJ AL [eV 0,eI 2])])]))
def Eg:Fn:=Ao (A5 2 ON)
def Mc(rec:Fn):Ex:=(Ad (Bs 2 (AJ AL [eV 0,eI 12]))
    (Ad (xIf (eOr (eOp (o2 wLt) [eV 2,eI 8]) (eOp (o2 wEq) [eV 1,eI 0])) (BE (eIx (GX [eC .non,eC (.bl true),eC (.bl false),eI 0,eI 1,eOp (o1 NZ) [eI 1],eI 9,eOp (o2 gD) [eI 10,eI 39],eC (.str ""),eC (.str "a"),Cw [],GX []]) (AJ AL [eV 0,eI 12]))) EI)
    (Ad (Bs 3 (Dp [0,1] 1 (Ts [AJ AL [eV 0,eI 4]]) (tNm 2) Ca (AJ rec [eV 0,eOp (o2 Qe) [eV 1,eI 1]])))
    (Ad (xIf (eOp (o2 wEq) [eV 2,eI 8]) (BE (eV 3)) EI)
    (Ad (xIf (eOp (o2 wEq) [eV 2,eI 9]) (BE (kP [((eC (.str "a")),(eV 3))])) EI)
    (BE (eOp (o1 DA) [eV 3])))))))
def Am:Nat->Fn
 |0=>λ_ _=>uk
 |n+1=>Ao (A5 4 (Mc (Am n)))
def JN(rec:Fn):Ex:=(Ad (xIf (Iz (eOp (o2 RD) [eV 1,eC (.ty "tuple")]) (Iz (eOp (o2 wNe) [eV 1,Cw []]) (eOp (o2 wGt) [AJ AL [eV 0,eI 6],eI 0]))) (Ad (Bs 2 (AJ AL [eV 0,eOp (o1 Kw) [eV 1]]))
    (BE (eOp (o2 EA) [eOp (o2 EA) [eOp (Lv false true) [eV 1,eV 2],Cw [AJ rec [eV 0,eIx (eV 1) (eV 2)]]],eOp (Lv true false) [eV 1,eOp (o2 EA) [eV 2,eI 1]]]))) EI)
    (Ad (Bs 3 (AJ AL [eV 0,eI 8]))
    (Ad (xIf (Iz (eOp (o2 RD) [eV 1,eC (.ty "tuple")]) (eOp (o2 wLt) [eV 3,eI 4])) (BE (eIx (GX [eOp (o2 EA) [eV 1,eOp (Lv true false) [eV 1,eOp (o1 NZ) [eI 1]]],eOp (Lv false true) [eV 1,eOp (o1 NZ) [eI 1]],eOp (o1 Qz) [eV 1],eOp (o1 lJ) [eV 1]]) (eV 3))) EI)
    (Ad (xIf (Iz (eOp (o2 RD) [eV 1,eC (.ty "int")]) (eOp (o2 wLt) [eV 3,eI 4])) (BE (eIx (GX [eOp (o2 EA) [eV 1,eI 1],eOp (o2 Qe) [eV 1,eI 1],eOp (o2 wGt) [eV 1,eI 0],eOp (o1 kj) [eV 1]]) (eV 3))) EI)
    (Ad (xIf (Iz (eOp (o2 RD) [eV 1,eC (.ty "str")]) (eOp (o2 wLt) [eV 3,eI 4])) (BE (eIx (GX [eOp (o2 EA) [eV 1,eC (.str "a")],eOp (o1 wUp) [eV 1],eOp (Lv false true) [eV 1,eOp (o1 NZ) [eI 1]],eOp (o2 EA) [eC (.str "1"),eV 1]]) (eV 3))) EI)
    (BE (AJ (Am 8) [eV 0,eI 2])))))))
def B4:Nat->Fn
 |0=>λ_ _=>uk
 |n+1=>Ao (A5 4 (JN (B4 n)))
def Cv:Ex:=(Ad (xIf (eOr (L4 (eOp (o2 RD) [eV 1,eC (.ty "tuple")])) (L4 (eOp (o1 bB) [Dp [0] 1 (JA (eV 1)) (tNm 1) Ca (AJ A3 [eIx (eV 0) (eI 0),eV 1])]))) MA EI)
    (xIf (eOp (o2 wNe) [eSL (eV 1),eOp (o1 Kw) [eV 1]]) MA EI))
def BG:Fn:=Ao (A5 2 Cv)
def Me:Ex:=(Ad (Ci (AJ A8 [eV 0]))
    (Ad (Ci (AJ BG [eV 0,eV 1]))
    (Ad (Bs 2 (AJ Eo [eV 0]))
    (Ad (Bs 3 (UM [2] 1 (JA (eV 1)) (tNm 1) Ca (AJ Ds [eV 0,eV 1])))
    (Ad (Bs 4 (UM [] 2 (JA (AJ IK [eV 0,eOp (o1 Kw) [eIx (eV 0) (eI 2)]])) (tTp [tNm 0,tNm 1]) Ca (eV 1)))
    (Ad (Oq (JA (eV 3)) (tNm 5) (Oq (JA (eV 5)) (tTp [tNm 6,tNm 7]) (aq (λi j=>i-j) (eV 4) (eV 6) (eV 7))))
    (BE (Cw [eV 3,eOp (o1 DA) [eV 4]]))))))))
def Em:Fn:=Ao (A5 8 Me)
def D0:Rx:=(U8 (rIf (eOr (L4 (eOp (o2 RD) [eV 1,eC (.ty "tuple")])) (L4 (eOp (o1 bB) [Dp [0] 1 (JA (eV 1)) (tNm 1) Ca (AJ A3 [eIx (eV 0) (eI 0),eV 1])]))) (P1 "NoOrder" [eC (.str "this is no tuple of partners")]) rNo) (xIf (eOr (L4 (eOp (o2 RD) [eV 1,eC (.ty "tuple")])) (L4 (eOp (o1 bB) [Dp [0] 1 (JA (eV 1)) (tNm 1) Ca (AJ A3 [eIx (eV 0) (eI 0),eV 1])]))) MA EI)
    (rIf (eOp (o2 wNe) [eSL (eV 1),eOp (o1 Kw) [eV 1]]) (P1 "NoOrder" [eC (.str "a partner settles once")]) rNo))
def CC:Rf:=Ao (P9 2 D0)
def O7:Rx:=(U8 rNo (Ci (AJ A8 [eV 0]))
    (U8 (Hv CC [eV 0,eV 1]) (Ci (AJ BG [eV 0,eV 1]))
    rNo))
def IV:Rf:=Ao (P9 8 O7)
def ZE:Ex:=(Ad (Bs 1 (AJ La [AJ D2 [eV 0,eI 0]]))
    (Ad (Bs 2 (AJ IA [eV 1,eI 6]))
    (Ad (Rv (tTp [tNm 3,tNm 4]) (eOp (Lv false true) [eIx (eV 2) (eI 0),eI 2]))
    (Ad (Oq (Ts [eI 12]) (tNm 5) (Ad (Bs 6 (eIx (GX [AJ AL [eV 1,eV 3],AJ AL [eV 1,eI 6],eC (.bl true),AJ (Am 8) [eV 1,eI 2]]) (AJ AL [eV 1,eI 4])))
    (Ad (Bs 7 (eIx (GX [AJ AL [eV 1,eI 12],eOp (o1 NZ) [eI 1],AJ (Am 8) [eV 1,eI 2]]) (AJ AL [eV 1,eI 3])))
    (Ad (Bs 8 (GX [AJ Eg [eV 1,eV 4],AJ (B4 8) [eV 1,AJ Eg [eV 1,eV 4]],AJ (Am 8) [eV 1,eI 2]]))
    (Ad (WO 9 10 (eIx (eV 8) (AJ AL [eV 1,eI 3])) (eIx (eV 8) (AJ AL [eV 1,eI 3])))
    (xIf (L4 (AJ BI [eV 2,eV 6,eV 7,eV 9,eV 10])) (BE (eC (.bl false))) EI))))))
    (Ad (Oq (JA (Cw [eOp (o2 B7) [Cw [eI 0],eV 4],eOp (o2 B7) [Cw [eI 100],eV 4],eOp (o2 B7) [Cw [eC (.bl true)],eV 4],eOp (o2 B7) [Cw [eI 1],eOp (o2 EA) [eV 4,eI 1]],eOp (o2 B7) [GX [eI 1],eV 4],eC .non])) (tNm 8) (Ad (xIf (L4 (AJ BI [eV 2,eI 0,eI 0,eV 8,eC .non])) (BE (eC (.bl false))) EI)
    (xIf (L4 (AJ BI [eV 2,eI 0,eI 0,eOp (o2 B7) [Cw [eI 1],eV 4],eV 8])) (BE (eC (.bl false))) EI)))
    (Ad (Bs 11 (Dp [1,3] 1 (Ts [eI 8]) (tNm 2) Ca (AJ (B4 8) [eV 0,eTR (eV 1)])))
    (Ad (Oq (JA (eOp (o2 EA) [eV 11,GX [Cw [],Cw [eI 0,eI 0],Cw [eV 3],GX [eI 0],Cw [eC (.bl true)],eC .non,eI 0,eC (.str "0"),Cw [eOp (o1 NZ) [eI 1]],AJ (Am 8) [eV 1,eI 2]]])) (tNm 12) (Ad (Bs 13 (eIx (GX [eC (.str "order"),eC (.str "none")]) (eOp (o1 VF) [AJ DP [eV 12,eV 3]])))
    (xIf (eOp (o2 wNe) [WV "law" [2,12] (AJ Em [eV 0,eV 1]) (Hv IV [eV 0,eV 1]) (.str "none") (gOr ["NoPartner","NoLoad","NoPrices","NoOrder"] "NoPartner" (BE (eC (.str "partner"))) (gOr ["NoPartner","NoLoad","NoPrices","NoOrder"] "NoLoad" (BE (eC (.str "load"))) (gOr ["NoPartner","NoLoad","NoPrices","NoOrder"] "NoPrices" (BE (eC (.str "prices"))) (gOr ["NoPartner","NoLoad","NoPrices","NoOrder"] "NoOrder" (BE (eC (.str "order"))) gNo)))),eV 13]) (BE (eC (.bl false))) EI)))
    (BE (eC (.bl true))))))))))
def QY:Fn:=Ao (A5 14 ZE)
end
section
open PyProof.Rows (boot_isinstance boot_int boot_bool boot_tuple boot_str boot_list boot_abs boot_all boot_any boot_sum boot_max boot_min boot_range boot_enumerate boot_zip boot_sorted boot_set boot_divmod)
noncomputable def top(i:Nat):vh:=AAr.main.body.getD i (.Pass ⟨0,0,0,0⟩)
abbrev Hj:vh:=top 3
abbrev IQ:vh:=top 4
abbrev GL:vh:=top 5
abbrev Ce:vh:=top 6
abbrev Jv:vh:=top 7
abbrev Mq:vh:=top 8
abbrev NN:vh:=top 9
abbrev LH:vh:=top 10
abbrev LN:vh:=top 11
abbrev K7:vh:=top 12
abbrev EO:vh:=top 22
abbrev FE:vh:=top 23
abbrev DM:vh:=top 24
abbrev FG:vh:=top 25
abbrev HC:vh:=top 26
abbrev HN:vh:=top 27
abbrev G5:vh:=top 28
abbrev D7:vh:=top 29
abbrev EM:vh:=top 30
abbrev B9:vh:=top 31
abbrev Iv:vh:=top 32
abbrev GA:vh:=top 33
abbrev ER:vh:=top 34
abbrev Dg:vh:=top 35
abbrev DH:vh:=top 36
abbrev Bw:vh:=top 37
abbrev BU:vh:=top 38
abbrev Bd:vh:=top 39
abbrev DL:vh:=top 41
abbrev Cb:vh:=top 42
abbrev EJ:vh:=top 43
abbrev CV:vh:=top 44
abbrev Er:vh:=top 45
abbrev Df:vh:=top 46
abbrev Ec:vh:=top 47
abbrev Dl:vh:=top 48
abbrev CD:vh:=top 49
abbrev EX:vh:=top 50
abbrev BH:vh:=top 52
abbrev EK:vh:=top 53
abbrev Ey:vh:=top 54
abbrev CA:vh:=top 55
abbrev Ji:vh:=top 56
abbrev Gp:vh:=top 57
abbrev DN:vh:=top 58
abbrev D5:vh:=top 59
abbrev C6:vh:=top 60
abbrev Cu:vh:=top 61
abbrev Ee:vh:=top 62
abbrev K5:vh:=top 64
abbrev GV:vh:=top 65
abbrev Jc:vh:=top 66
abbrev HQ:vh:=top 67
abbrev J0:vh:=top 68
abbrev Dz:vh:=top 69
abbrev IZ:vh:=top 70
abbrev Hg:vh:=top 71
abbrev Ia:vh:=top 72
abbrev Fp:vh:=top 73
abbrev Io:vh:=top 74
abbrev Ej:vh:=top 75
abbrev Dh:vh:=top 76
abbrev Jk:vh:=top 77
abbrev IT:vh:=top 78
abbrev Hh:vh:=top 79
abbrev Gn:vh:=top 80
abbrev Jo:vh:=top 81
abbrev Iq:vh:=top 82
abbrev Jf:vh:=top 83
abbrev Jd:vh:=top 84
abbrev Ka:vh:=top 85
abbrev Gk:vh:=top 86
abbrev Fe:vh:=top 87
abbrev Ed:vh:=top 88
abbrev HM:vh:=top 89
abbrev Iu:vh:=top 90
abbrev DF:vh:=top 92
abbrev CZ:vh:=top 93
abbrev Az:vh:=top 94
abbrev DK:vh:=top 95
abbrev JX:vh:=top 96
abbrev Iy:vh:=top 91
theorem Lp:AQ ["_law_call"] ["_law_call"] (AI Iy):=scM
section
variable(P:vR)(w:vi)(K:Wp)(mg:Str->uo W1)(base:ve)
abbrev OH:Prop:=St.Dfn P w K mg base "is_whole" 1 ["thing"] (spD K 1 Dv)
abbrev Pu:Prop:=St.Dfn P w K mg base "is_from" 2 ["thing","low"] (spD K 2 Ek)
abbrev F7:Prop:=St.Dfn P w K mg base "is_within" 3 ["thing","low","high"] (spD K 3 BN)
abbrev Hm:Prop:=St.Dfn P w K mg base "greatest_divisor" 1 ["one","other"] (spD K 2 DX)
abbrev Gy:Prop:=St.Dfn P w K mg base "lowest" 2 ["top","bottom"] (spD K 2 EC)
abbrev Oy:Prop:=St.Dfn P w K mg base "plus" 3 ["one","other"] (spD K 2 JQ)
abbrev Ow:Prop:=St.Dfn P w K mg base "less" 3 ["one","other"] (spD K 2 Ll)
abbrev Jq:Prop:=St.Dfn P w K mg base "times" 3 ["one","other"] (spD K 2 Dc)
abbrev T7:Prop:=St.Dfn P w K mg base "mixed" 3 ["one","weight","other","more"] (spD K 4 LA)
abbrev Pk:Prop:=St.Dfn P w K mg base "total" 4 ["amounts"] (spD K 1 J2)
abbrev K3:Prop:=St.Dfn P w K mg base "is_tuple_of" 1 ["thing","many"] (spD K 2 DZ)
abbrev FD:Prop:=St.Dfn P w K mg base "is_partner" 4 ["train","thing"] (spD K 2 A3)
abbrev JZ:Prop:=St.Dfn P w K mg base "are_values" 4 ["thing","many"] (spD K 2 Cj)
abbrev G6:Prop:=St.Dfn P w K mg base "has_pieces" 1 ["held","load","pieces"] (spD K 3 DO)
abbrev OR:Prop:=St.Dfn P w K mg base "can_pool" 2 ["held","load","other"] (spD K 3 JJ)
abbrev OI:Prop:=St.Dfn P w K mg base "can_swap" 2 ["held","load","given","kind"] (spD K 4 HK)
abbrev Rq:Prop:=St.Dfn P w K mg base "can_do" 3 ["held","done","deed"] (spD K 3 Dk)
abbrev Ki:Prop:=St.Dfn P w K mg base "held_without" 1 ["held","load","pieces"] (spD K 3 CW)
abbrev GP:Prop:=St.Dfn P w K mg base "held_behind" 2 ["held","deed"] (spD K 2 Ay)
abbrev Et:Prop:=St.Dfn P w K mg base "held_at_first" 1 ["book"] (spD K 1 Cq)
abbrev J7:Prop:=St.Dfn P w K mg base "held_by" 3 ["book","many"] (spD K 2 IK)
abbrev NB:Prop:=St.Dfn P w K mg base "made_from" 1 ["deed"] (spD K 1 C3)
abbrev LU:Prop:=St.Dfn P w K mg base "first_wrong" 4 ["book"] (spD K 1 F6)
abbrev BZ:Prop:=St.Dfn P w K mg base "refuse_undone" 5 ["book"] (spD K 1 A8)
abbrev Jb:Prop:=St.Dfn P w K mg base "many_loads" 1 ["book","many"] (spD K 2 FI)
abbrev GU:Prop:=St.Dfn P w K mg base "refuse_no_load" 4 ["book","load"] (spD K 2 Bz)
abbrev BQ:Prop:=St.Dfn P w K mg base "refuse_no_partner" 5 ["book","partner"] (spD K 2 Ac)
abbrev E5:Prop:=St.Dfn P w K mg base "refuse_no_prices" 5 ["book","prices"] (spD K 2 Aq)
abbrev L8:Prop:=St.Dfn P w K mg base "all_to_one" 1 ["many","one"] (spD K 2 HB)
abbrev FQ:Prop:=St.Dfn P w K mg base "mixed_shares" 4 ["shares","weight","others","more"] (spD K 4 Cc)
abbrev K6:Prop:=St.Dfn P w K mg base "made_shares" 5 ["held","shares","deed"] (spD K 3 Bv)
abbrev Kl:Prop:=St.Dfn P w K mg base "worth_of_all" 1 ["train","held","worths"] (spD K 3 FW)
abbrev LG:Prop:=St.Dfn P w K mg base "part_thrown" 3 ["train","held","deed"] (spD K 3 GW)
abbrev Js:Prop:=St.Dfn P w K mg base "thrown_shares" 5 ["train","held","owners","deed","shares"] (spD K 5 Eu)
abbrev K8:Prop:=St.Dfn P w K mg base "sold_shares" 4 ["deed","shares"] (spD K 2 F9)
abbrev Gv:Prop:=St.Dfn P w K mg base "shares_behind" 6 ["train","held","owners","deed","shares"] (spD K 5 Aw)
abbrev Jp:Prop:=St.Dfn P w K mg base "owners_behind" 7 ["train","held","owners","deed"] (spD K 4 BB)
abbrev N6:Prop:=St.Dfn P w K mg base "state_by" 8 ["book","many"] (spD K 2 JC)
abbrev Fd:Prop:=St.Dfn P w K mg base "refuse_no_order" 5 ["book","order"] (spD K 2 BG)
abbrev Du:Prop:=St.Dfn P w K mg base "all_dues" 9 ["book"] (spD K 1 Eo)
abbrev Nh:Prop:=St.Dfn P w K mg base "put_in" 5 ["book","partner","prices"] (spD K 3 Lc)
abbrev Gj:Prop:=St.Dfn P w K mg base "worth_of_dues" 10 ["book","partner","prices"] (spD K 3 Es)
abbrev Nv:Prop:=St.Dfn P w K mg base "cut_of" 4 ["train","gain"] (spD K 2 Hy)
abbrev RY:Prop:=St.Dfn P w K mg base "due_of" 10 ["book","partner","load"] (spD K 3 EB)
abbrev MG:Prop:=St.Dfn P w K mg base "account_of" 11 ["book","partner","ahead","later"] (spD K 4 BX)
abbrev Kk:Prop:=St.Dfn P w K mg base "whole_pieces" 1 ["due"] (spD K 1 D6)
abbrev He:Prop:=St.Dfn P w K mg base "taken_by" 2 ["dues","partner"] (spD K 2 Ds)
abbrev PZ:Prop:=St.Dfn P w K mg base "settled" 10 ["book","order"] (spD K 2 Em)
abbrev OZ:Prop:=St.Dfn P w K mg base "takes_of" 10 ["book","partner"] (spD K 2 Dt)
abbrev Uk:Prop:=St.Dfn P w K mg base "_law_pen" 1 ["_law_cell"] (spD K 1 La)
abbrev NO:Prop:=St.Dfn P w K mg base "_law_cell_at" 1 ["_law_script","_law_k"] (spD K 2 D2)
abbrev Cr:Prop:=St.Dfn P w K mg base "_law_draw" 1 ["_law_pen_here","_law_bound"] (spD K 2 AL)
abbrev OP:Prop:=St.Dfn P w K mg base "_law_common" 1 ["_law_one","_law_other"] (spD K 2 JR)
abbrev Gu:Prop:=St.Dfn P w K mg base "_law_made" 2 ["_law_top","_law_bottom"] (spD K 2 Cp)
abbrev MO:Prop:=St.Dfn P w K mg base "_law_whole" 3 ["_law_pen_here","_law_many"] (spD K 2 Ff)
abbrev QW:Prop:=St.Dfn P w K mg base "_law_train" 4 ["_law_pen_here"] (spD K 1 KA)
abbrev K0:Prop:=St.Dfn P w K mg base "_law_pieces" 2 ["_law_pen_here"] (spD K 1 Bn)
abbrev Ph:Prop:=St.Dfn P w K mg base "_law_first" 4 ["_law_pen_here","_law_train_here"] (spD K 2 KO)
abbrev MY:Prop:=St.Dfn P w K mg base "_law_begun" 1 ["_law_book_here"] (spD K 1 Gf)
abbrev Pa:Prop:=St.Dfn P w K mg base "_law_share" 3 ["_law_pen_here"] (spD K 1 Ir)
abbrev OF:Prop:=St.Dfn P w K mg base "_law_worths" 2 ["_law_pen_here","_law_many"] (spD K 2 Fw)
abbrev RQ:Prop:=St.Dfn P w K mg base "_law_deed" 4 ["_law_pen_here","_law_train_here","_law_state"] (spD K 3 Gw)
abbrev Jm:Prop:=St.Dfn P w K mg base "_law_plus" 3 ["_law_one","_law_other"] (spD K 2 Dj)
abbrev KC:Prop:=St.Dfn P w K mg base "_law_times" 3 ["_law_one","_law_other"] (spD K 2 BR)
abbrev OE:Prop:=St.Dfn P w K mg base "_law_pooled" 4 ["_law_one","_law_other"] (spD K 2 JI)
abbrev RZ:Prop:=St.Dfn P w K mg base "_law_cost" 3 ["_law_train_here","_law_loads","_law_deed_here"] (spD K 3 Lm)
abbrev Nx:Prop:=St.Dfn P w K mg base "_law_less" 4 ["_law_one","_law_other"] (spD K 2 Fs)
abbrev Py:Prop:=St.Dfn P w K mg base "_law_borne" 5 ["_law_shares","_law_part","_law_owners"] (spD K 3 Gz)
abbrev Ro:Prop:=St.Dfn P w K mg base "_law_sold" 5 ["_law_shares","_law_deed_here"] (spD K 2 H0)
abbrev Rb:Prop:=St.Dfn P w K mg base "_law_turn" 6 ["_law_train_here","_law_state","_law_deed_here"] (spD K 3 Hx)
abbrev Sl:Prop:=St.Dfn P w K mg base "_law_do" 7 ["_law_train_here","_law_state","_law_deed_here"] (spD K 3 CL)
abbrev Rl:Prop:=St.Dfn P w K mg base "_law_book" 8 ["_law_pen_here","_law_most"] (spD K 2 IA)
abbrev P5(n:Nat):Prop:=St.Dfn P w K mg base "_law_thing" (2+n) ["_law_pen_here","_law_deep"] (spD K 2 (Am n))
abbrev OL:Prop:=St.Dfn P w K mg base "_law_prices" 2 ["_law_pen_here","_law_many"] (spD K 2 Eg)
abbrev UD(n:Nat):Prop:=St.Dfn P w K mg base "_law_spoilt" (11+n) ["_law_pen_here","_law_thing_here"] (spD K 2 (B4 n))
abbrev KR:Prop:=St.Dfn P w K mg base "_law_is_in" 1 ["_law_thing_here","_law_many"] (spD K 2 Bm)
abbrev N8:Prop:=St.Dfn P w K mg base "_law_states" 8 ["_law_book_here"] (spD K 1 Fz)
abbrev Kq:Prop:=St.Dfn P w K mg base "_law_are_prices" 2 ["_law_thing_here","_law_many"] (spD K 2 Bh)
abbrev IJ:Prop:=St.Dfn P w K mg base "_law_partner_right" 15 ["_law_book_here","_law_partner","_law_load","_law_ahead","_law_later"] (spD K 5 BI)
abbrev MC:Prop:=St.Dfn P w K mg base "_law_is_order" 2 ["_law_thing_here","_law_many"] (spD K 2 DP)
abbrev JM:Prop:=Zr P w K mg base "refuse_no_load" 4 ["book","load"] (spR K mg 2 EG)
abbrev C9:Prop:=Zr P w K mg base "refuse_no_partner" 5 ["book","partner"] (spR K mg 2 BF)
abbrev Hu:Prop:=Zr P w K mg base "refuse_no_prices" 5 ["book","prices"] (spR K mg 2 Bc)
abbrev Ig:Prop:=Zr P w K mg base "refuse_no_order" 5 ["book","order"] (spR K mg 2 CC)
abbrev R8:Prop:=Zr P w K mg base "due_of" 10 ["book","partner","load"] (spR K mg 3 G4)
abbrev MD:Prop:=Zr P w K mg base "account_of" 11 ["book","partner","ahead","later"] (spR K mg 4 CK)
abbrev Qf:Prop:=Zr P w K mg base "settled" 10 ["book","order"] (spR K mg 2 IV)
abbrev OW:Prop:=Zr P w K mg base "takes_of" 10 ["book","partner"] (spR K mg 2 HW)
end
structure Bts(mg:Str->uo W1):Prop where
 abs:mg "abs"=uk
 all:mg "all"=uk
 bool:mg "bool"=uk
 enumerate:mg "enumerate"=uk
 int:mg "int"=uk
 isi:mg "isinstance"=uk
 len:mg "len"=uk
 list:mg "list"=uk
 min:mg "min"=uk
 range:mg "range"=uk
 set:mg "set"=uk
 sorted:mg "sorted"=uk
 str:mg "str"=uk
 sum:mg "sum"=uk
 tuple:mg "tuple"=uk
 zip:mg "zip"=uk
end
section
open PyProof.Rows (boot_isinstance boot_int boot_bool boot_tuple boot_str boot_list boot_abs boot_all boot_any boot_sum boot_max boot_min boot_range boot_enumerate boot_zip boot_sorted boot_set boot_divmod)
variable{P:vR}{w:vi}{K:Wp}{mg:Str->uo W1}{base:ve}
theorem Tp:AQ ["thing"] ["thing"] (AI Hj):=scM
theorem Hc  (S:St.Src K mg "is_whole" Hj)(B:Bts mg):OH P w K mg base:=by
 refine dfM 0 S Tp λhr hu=>?_
 exact(AK (AO (Hn (Aa C7 rfl B.isi wI (AA (AB 0) (AA (Mj rfl B.int zU) AD))) (JO (WT (Aa C7 rfl B.isi wI (AA (AB 0) (AA (Mj rfl B.bool boot_bool) AD))))))))
theorem UH:AQ ["thing","low"] ["thing","low"] (AI IQ):=scM
theorem IW  (S:St.Src K mg "is_from" IQ)(Hc:OH P w K mg base):Pu P w K mg base:=by
 refine dfM 1 S UH λhr hu=>?_
 exact(AK (AO (Hn (deM Hc hr (AA (AB 0) AD)) (JO (Hf Yq (AB 0) (AB 1))))))
theorem Q6:AQ ["thing","low","high"] ["thing","low","high"] (AI GL):=scM
theorem BM  (S:St.Src K mg "is_within" GL)(IW:Pu P w K mg base):F7 P w K mg base:=by
 refine dfM 2 S Q6 λhr hu=>?_
 exact(AK (AO (Hn (deM IW hr (AA (AB 0) (AA (AB 1) AD))) (JO (Hf cJ (AB 0) (AB 2))))))
theorem Ef:AQ ["one","other"] ["one","other"] (AI Ce):=scM
theorem Cd  (S:St.Src K mg "greatest_divisor" Ce)(B:Bts mg):Hm P w K mg base:=by
 refine dfM 0 S Ef λhr hu=>?_
 exact(AH (OQ (i:=0) (j:=1) rfl Ef.nd rfl rfl (by decide) rfl rfl (Aa Pg rfl B.abs boot_abs (AA (AB 0) AD)) (Aa Pg rfl B.abs boot_abs (AA (AB 1) AD)))
      (AH (Wq (XY 1) vk (Ar (Jg hu) (AB 1) AF) (AK (OQ (i:=0) (j:=1) rfl Ef.nd rfl rfl (by decide) rfl rfl (AB 1) (Ab Ja (AB 0) (AB 1)))))
      (AK (AO (AB 0)))))
theorem QF:AQ ["top","bottom","divisor"] ["top","bottom"] (AI Jv):=scM
theorem BO  (S:St.Src K mg "lowest" Jv)(Cd:Hm P w K mg base):Gy P w K mg base:=by
 refine dfM 1 S QF λhr hu=>?_
 exact(AH (Ak 2 (deM Cd hr (AA (AB 0) (AA (AB 1) AD))) QF.nd)
      (AK (AO (BC (AA (Ab JT (AB 0) (AB 2)) (AA (Ab JT (AB 1) (AB 2)) AD))))))
theorem Y9:AQ ["one","other"] ["one","other"] (AI Mq):=scM
theorem GR  (S:St.Src K mg "plus" Mq)(BO:Gy P w K mg base):Oy P w K mg base:=by
 refine dfM 2 S Y9 λhr hu=>?_
 exact(AK (AO (deM BO hr (AA (Ab An (Ab As (AN AX (AB 0) AF) (AN AX (AB 1) AF)) (Ab As (AN AX (AB 1) AF) (AN AX (AB 0) AF))) (AA (Ab As (AN AX (AB 0) AF) (AN AX (AB 1) AF)) AD)))))
end
section
open PyProof.Rows (boot_isinstance boot_int boot_bool boot_tuple boot_str boot_list boot_abs boot_all boot_any boot_sum boot_max boot_min boot_range boot_enumerate boot_zip boot_sorted boot_set boot_divmod)
variable{P:vR}{w:vi}{K:Wp}{mg:Str->uo W1}{base:ve}
theorem Ya:AQ ["one","other"] ["one","other"] (AI NN):=scM
theorem G7  (S:St.Src K mg "less" NN)(BO:Gy P w K mg base):Ow P w K mg base:=by
 refine dfM 2 S Ya λhr hu=>?_
 exact(AK (AO (deM BO hr (AA (Ab Fg (Ab As (AN AX (AB 0) AF) (AN AX (AB 1) AF)) (Ab As (AN AX (AB 1) AF) (AN AX (AB 0) AF))) (AA (Ab As (AN AX (AB 0) AF) (AN AX (AB 1) AF)) AD)))))
theorem XO:AQ ["one","other"] ["one","other"] (AI LH):=scM
theorem CN  (S:St.Src K mg "times" LH)(BO:Gy P w K mg base):Jq P w K mg base:=by
 refine dfM 2 S XO λhr hu=>?_
 exact(AK (AO (deM BO hr (AA (Ab As (AN AX (AB 0) AF) (AN AX (AB 1) AF)) (AA (Ab As (AN AX (AB 0) AF) (AN AX (AB 1) AF)) AD)))))
theorem Rz:AQ ["one","weight","other","more","top"] ["one","weight","other","more"] (AI LN):=scM
theorem Kz  (S:St.Src K mg "mixed" LN)(BO:Gy P w K mg base):T7 P w K mg base:=by
 refine dfM 2 S Rz λhr hu=>?_
 exact(AH (Ak 4 (Ab An (Ab As (Ab As (AN AX (AB 0) AF) (AN AX (AB 2) AF)) (AB 1)) (Ab As (Ab As (AN AX (AB 2) AF) (AN AX (AB 0) AF)) (AB 3))) Rz.nd)
      (AK (AO (deM BO hr (AA (AB 4) (AA (Ab As (Ab As (AN AX (AB 0) AF) (AN AX (AB 2) AF)) (Ab An (AB 1) (AB 3))) AD))))))
theorem Ln:AQ ["amounts","together","amount"] ["amounts"] (AI K7):=scM
theorem HZ  (S:St.Src K mg "total" K7)(Dm:Wj K mg "NOTHING" ET)(GR:Oy P w K mg base):Pk P w K mg base:=by
 refine dfM 3 S Ln λhr hu=>?_
 exact(AH (Ak 1 (NU Dm rfl) Ln.nd)
      (AH (Hb vk rfl (CM (AB 0)) (Ag 2 Ln.nd) (AK (Ak 1 (deM GR hr (AA (AB 1) (AA (AB 2) AD))) Ln.nd)))
      (AK (AO (AB 1)))))
theorem Of:AQ ["thing","many"] ["thing","many"] (AI EO):=scM
theorem El  (S:St.Src K mg "is_tuple_of" EO)(B:Bts mg):K3 P w K mg base:=by
 refine dfM 0 S Of λhr hu=>?_
 exact(AK (AO (Hn (Aa C7 rfl B.isi wI (AA (AB 0) (AA (Mj rfl B.tuple vn) AD))) (JO (Hf (B8 hu) (Aa Bf rfl B.len wq (AA (AB 0) AD)) (AB 1))))))
theorem Pc:AQ ["train","thing"] ["train","thing"] (AI FE):=scM
theorem A7  (S:St.Src K mg "is_partner" FE)(BM:F7 P w K mg base):FD P w K mg base:=by
 refine dfM 3 S Pc λhr hu=>?_
 exact(AK (AO (deM BM hr (AA (AB 1) (AA AF (AA (Ab Fg (AN AX (AB 0) AF) AF) AD))))))
end
section
open PyProof.Rows (boot_isinstance boot_int boot_bool boot_tuple boot_str boot_list boot_abs boot_all boot_any boot_sum boot_max boot_min boot_range boot_enumerate boot_zip boot_sorted boot_set boot_divmod)
variable{P:vR}{w:vi}{K:Wp}{mg:Str->uo W1}{base:ve}
theorem PM:AQ ["thing","many"] ["thing","many"] (AI DM):=scM
theorem Nj:AZ ["thing","many"] (AI DM) ["value"] (ixC [] 1) (LB DM 0):=csM
theorem NT:(["value"]:Gc Str).Nodup:=by decide+kernel
theorem Co  (S:St.Src K mg "are_values" DM)(B:Bts mg)(BM:F7 P w K mg base)(El:K3 P w K mg base):JZ P w K mg base:=by
 refine dfM 3 S PM λhr hu=>?_
 exact(AK (AO (Hn (deM El hr (AA (AB 0) (AA (AB 1) AD))) (JO (Aa (Jn rfl) rfl B.all ABl (AA (Cg [] 1 ["value"] rfl Nj (CM (AB 0)) (λs H fp=>⟨Ag 0 NT,By,deM BM hr (AA (AB 0) (AA AF (AA AF AD)))⟩)) AD))))))
theorem QU:AQ ["held","load","pieces"] ["held","load","pieces"] (AI FG):=scM
theorem BY  (S:St.Src K mg "has_pieces" FG)(B:Bts mg):G6 P w K mg base:=by
 refine dfM 0 S QU λhr hu=>?_
 exact(AK (AO (Hn (Hf MF (AB 1) (Aa Bf rfl B.len wq (AA (AB 0) AD))) (JO (Hf Yq (AN AX (AN AX (AB 0) (AB 1)) AF) (AB 2))))))
theorem Td:AQ ["held","load","other"] ["held","load","other"] (AI HC):=scM
theorem Ha  (S:St.Src K mg "can_pool" HC)(BY:G6 P w K mg base):OR P w K mg base:=by
 refine dfM 1 S Td λhr hu=>?_
 exact(AK (AO (Hn (deM BY hr (AA (AB 0) (AA (AB 1) (AA AF AD)))) (Hn (deM BY hr (AA (AB 0) (AA (AB 2) (AA AF AD)))) (JO (Hf (B8 hu) (AN AX (AN AX (AB 0) (AB 1)) AF) (AN AX (AN AX (AB 0) (AB 2)) AF)))))))
theorem TX:AQ ["held","load","given","kind"] ["held","load","given","kind"] (AI HN):=scM
theorem F4  (S:St.Src K mg "can_swap" HN)(BY:G6 P w K mg base):OI P w K mg base:=by
 refine dfM 1 S TX λhr hu=>?_
 exact(AK (AO (Hn (deM BY hr (AA (AB 0) (AA (AB 1) (AA (AB 2) AD)))) (JO (Hf (Jg hu) (AN AX (AN AX (AB 0) (AB 1)) AF) (AB 3))))))
theorem MP:AQ ["held","done","deed","word","numbers"] ["held","done","deed"] (AI G5):=scM
theorem Te:AZ ["held","done","deed","word","numbers"] (AI G5) ["other"] (ixC [] 1) (LB G5 0):=csM
theorem SR:(["other"]:Gc Str).Nodup:=by decide+kernel
theorem Jj  (S:St.Src K mg "can_do" G5)(BY:G6 P w K mg base)(Ha:OR P w K mg base)(F4:OI P w K mg base):Rq P w K mg base:=by
 refine dfM 2 S MP λhr hu=>?_
 exact(AH (Ak 3 (AN AX (AB 2) AF) MP.nd)
      (AH (CG (Ar (B8 hu) (AB 3) Ah) (AK (AO (deM Ha hr (AA (AB 0) (AA (AN AX (AB 2) AF) (AA (AN AX (AB 2) AF) AD)))))) Ap)
      (AH (CG (Ar (B8 hu) (AB 3) Ah) (AK (AO (deM F4 hr (AA (AB 0) (AA (AN AX (AB 2) AF) (AA (AN AX (AB 2) AF) (AA (AN AX (AB 2) AF) AD))))))) Ap)
      (AH (CG (Ar (B8 hu) (AB 3) Ah) (AH (Cs [] 1 ["other"] rfl MP.nd rfl rfl Te (CM (AB 1)) (λs H fp=>⟨Ag 0 SR,LF (Ar (B8 hu) (AN AX (AB 0) AF) Ah),AN AX (AB 0) AF⟩))
      (AK (AO (Hn (Hf Uz (AN AX (AB 2) AF) (AB 4)) (JO (deM F4 hr (AA (AB 0) (AA (AN AX (AB 2) AF) (AA (AN AX (AB 2) AF) (AA (AN AX (AB 2) AF) AD)))))))))) Ap)
      (AH (CG (Ar QI (AB 3) (BC (AA Ah (AA Ah AD)))) (AK (AO (deM BY hr (AA (AB 0) (AA (AN AX (AB 2) AF) (AA (AN AX (AB 2) AF) AD)))))) Ap)
      (AK (AO MS)))))))
theorem Ge:AQ ["held","load","pieces","kind","there"] ["held","load","pieces"] (AI D7):=scM
theorem B5  (S:St.Src K mg "held_without" D7):Ki P w K mg base:=by
 refine dfM 0 S Ge λhr hu=>?_
 exact(AH (IH (AN AX (AB 0) (AB 1)) (Fc rfl (AR (Ag 3 Ge.nd) (AR (Ag 4 Ge.nd) Bj))))
      (AK (AO (Ab An (Ab An (J4 (AB 0) (AB 1)) (Ba (AA (BC (AA (AB 3) (AA (Ab Fg (AB 4) (AB 2)) AD))) AD))) (MX (AB 0) (Ab An (AB 1) AF))))))
end
section
open PyProof.Rows (boot_isinstance boot_int boot_bool boot_tuple boot_str boot_list boot_abs boot_all boot_any boot_sum boot_max boot_min boot_range boot_enumerate boot_zip boot_sorted boot_set boot_divmod)
variable{P:vR}{w:vi}{K:Wp}{mg:Str->uo W1}{base:ve}
theorem Bg:AQ ["held","deed","word","kind","pieces","more","load","given","got"] ["held","deed"] (AI EM):=scM
theorem BV  (S:St.Src K mg "held_behind" EM)(B5:Ki P w K mg base):GP P w K mg base:=by
 refine dfM 1 S Bg λhr hu=>?_
 exact(AH (Ak 2 (AN AX (AB 1) AF) Bg.nd)
      (AH (CG (Ar (B8 hu) (AB 2) Ah) (AK (AO (Ab An (AB 0) (Ba (AA (BC (AA (AN AX (AB 1) AF) (AA (AN AX (AB 1) AF) AD))) AD))))) Ap)
      (AH (CG (Ar (B8 hu) (AB 2) Ah) (AH (IH (AN AX (AB 0) (AN AX (AB 1) AF)) (Fc rfl (AR (Ag 3 Bg.nd) (AR (Ag 4 Bg.nd) Bj))))
      (AH (Ak 5 (AN AX (AN AX (AB 0) (AN AX (AB 1) AF)) AF) Bg.nd)
      (AK (AO (Ab An (deM B5 hr (AA (deM B5 hr (AA (AB 0) (AA (AN AX (AB 1) AF) (AA (AB 4) AD)))) (AA (AN AX (AB 1) AF) (AA (AB 5) AD)))) (Ba (AA (BC (AA (AB 3) (AA (Ab An (AB 4) (AB 5)) AD))) AD))))))) Ap)
      (AH (CG (Ar QI (AB 2) (BC (AA Ah (AA Ah AD)))) (AH (IH (MX (AB 1) (Oh Hk AF)) (Fc rfl (AR (Ag 6 Bg.nd) (AR (Ag 7 Bg.nd) (AR (Ag 3 Bg.nd) (AR (Ag 8 Bg.nd) Bj))))))
      (AK (AO (Ab An (deM B5 hr (AA (AB 0) (AA (AB 6) (AA (AB 7) AD)))) (Ba (AA (BC (AA (AB 3) (AA (AB 8) AD))) AD)))))) Ap)
      (AH (CG (Ar QI (AB 2) (BC (AA Ah (AA Ah AD)))) (AK (AO (deM B5 hr (AA (AB 0) (AA (AN AX (AB 1) AF) (AA (AN AX (AB 1) AF) AD)))))) Ap)
      (AK (AO (AB 0))))))))
theorem NP:AQ ["book"] ["book"] (AI B9):=scM
theorem Lu:AZ ["book"] (AI B9) ["load"] (ixC [] 1) (LB B9 0):=csM
theorem Ls:(["load"]:Gc Str).Nodup:=by decide+kernel
theorem BA  (S:St.Src K mg "held_at_first" B9):Et P w K mg base:=by
 refine dfM 0 S NP λhr hu=>?_
 exact(AK (AO (Cg [] 1 ["load"] rfl Lu (CM (AN AX (AB 0) AF)) (λs H fp=>⟨Ag 0 Ls,By,BC (AA (AN AX (AB 0) AF) (AA (AN AX (AB 0) AF) AD))⟩))))
theorem JP:AQ ["book","many","held","deed"] ["book","many"] (AI Iv):=scM
theorem DJ  (S:St.Src K mg "held_by" Iv)(BV:GP P w K mg base)(BA:Et P w K mg base):J7 P w K mg base:=by
 refine dfM 2 S JP λhr hu=>?_
 exact(AH (Ak 2 (deM BA hr (AA (AB 0) AD)) JP.nd)
      (AH (Hb vk rfl (CM (J4 (AN AX (AB 0) AF) (AB 1))) (Ag 3 JP.nd) (AK (Ak 2 (deM BV hr (AA (AB 2) (AA (AB 3) AD))) JP.nd)))
      (AK (AO (AB 2)))))
theorem Ly:AQ ["deed","word"] ["deed"] (AI GA):=scM
theorem GK  (S:St.Src K mg "made_from" GA)(B:Bts mg):NB P w K mg base:=by
 refine dfM 0 S Ly λhr hu=>?_
 exact(AH (Ak 1 (AN AX (AB 0) AF) Ly.nd)
      (AH (CG (Ar (B8 hu) (AB 1) Ah) (AK (AO (Aa Ug rfl B.sorted boot_sorted (AA (Ba (AA (AN AX (AB 0) AF) (AA (AN AX (AB 0) AF) AD))) AD)))) Ap)
      (AH (CG (Ar QI (AB 1) (BC (AA Ah (AA Ah AD)))) (AK (AO (Ba (AA (AN AX (AB 0) (Oh Hk AF)) AD)))) Ap)
      (AK (AO (Ba AD))))))
theorem C0:AQ ["book","held","deeds","at","deed"] ["book"] (AI ER):=scM
theorem Ea  (S:St.Src K mg "first_wrong" ER)(B:Bts mg)(Jj:Rq P w K mg base)(BV:GP P w K mg base)(BA:Et P w K mg base):LU P w K mg base:=by
 refine dfM 3 S C0 λhr hu=>?_
 exact(AH (Ak 1 (deM BA hr (AA (AB 0) AD)) C0.nd)
      (AH (Ak 2 (AN AX (AB 0) AF) C0.nd)
      (AH (Hb vk rfl (YQ rfl B.enumerate (AB 2)) (Fc rfl (AR (Ag 3 C0.nd) (AR (Ag 4 C0.nd) Bj))) (AH (CG (F5 (Ep (deM Jj hr (AA (AB 1) (AA (J4 (AB 2) (AB 3)) (AA (AB 4) AD)))))) (AK (AO (AB 3))) Ap)
      (AK (Ak 1 (deM BV hr (AA (AB 1) (AA (AB 4) AD))) C0.nd))))
      (AK (AO RT)))))
theorem JE:AQ ["book","wrong"] ["book"] (AI Dg):=scM
theorem AV  (S:St.Src K mg "refuse_undone" Dg)(Ea:LU P w K mg base):BZ P w K mg base:=by
 refine dfM 4 S JE λhr hu=>?_
 exact(AH (Ak 1 (deM Ea hr (AA (AB 0) AD)) JE.nd)
      (AK (CG (Ar bU (AB 1) RT) (AK KY) Ap)))
end
section
open PyProof.Rows (boot_isinstance boot_int boot_bool boot_tuple boot_str boot_list boot_abs boot_all boot_any boot_sum boot_max boot_min boot_range boot_enumerate boot_zip boot_sorted boot_set boot_divmod)
variable{P:vR}{w:vi}{K:Wp}{mg:Str->uo W1}{base:ve}
theorem QQ:AQ ["book","many"] ["book","many"] (AI DH):=scM
theorem Nz:AZ ["book","many"] (AI DH) ["deed"] (ixC [] 1) (LB DH 0):=csM
theorem Nn:(["deed"]:Gc Str).Nodup:=by decide+kernel
theorem Cn  (S:St.Src K mg "many_loads" DH)(B:Bts mg)(HA:Wj K mg "MAKERS" DR):Jb P w K mg base:=by
 refine dfM 0 S QQ λhr hu=>?_
 exact(AK (AO (Ab An (Aa Bf rfl B.len wq (AA (AN AX (AB 0) AF) AD)) (Aa Bf rfl B.len wq (AA (Cg [] 1 ["deed"] rfl Nz (CM (J4 (AN AX (AB 0) AF) (AB 1))) (λs H fp=>⟨Ag 0 Nn,LF (Ar QI (AN AX (AB 0) AF) (NU HA rfl)),AB 0⟩)) AD)))))
theorem Ic:AQ ["book","load"] ["book","load"] (AI Bw):=scM
theorem DB  (S:St.Src K mg "refuse_no_load" Bw)(B:Bts mg)(BM:F7 P w K mg base)(Cn:Jb P w K mg base)(J9:XcD K mg "NoLoad"):JM P w K mg base:=by
 refine K1 (k:=3) S Ic rfl (λf fd F=>F.binds λ_ _ _ _ _ _ us hl=>match us,hl with| [_,_],_=>rfl) λf cdv A outer s H E hr=>?_
 have hu:=JW hr
 exact(J8 (Yg (F5 (Ep (deM BM hr (AA (AB 1) (AA AF (AA (Ab Fg (deM Cn hr (AA (AB 0) (AA (Aa Bf rfl B.len wq (AA (AN AX (AB 0) AF) AD)) AD))) AF) AD)))))) (J8 (NQ rfl J9 rfl (AA Ah AD))) NA))
theorem Be  (S:St.Src K mg "refuse_no_load" Bw)(B:Bts mg)(BM:F7 P w K mg base)(Cn:Jb P w K mg base):GU P w K mg base:=by
 refine dfM 3 S Ic λhr hu=>?_
 exact(AK (CG (F5 (Ep (deM BM hr (AA (AB 1) (AA AF (AA (Ab Fg (deM Cn hr (AA (AB 0) (AA (Aa Bf rfl B.len wq (AA (AN AX (AB 0) AF) AD)) AD))) AF) AD)))))) (AK KY) Ap))
theorem GZ:AQ ["book","partner"] ["book","partner"] (AI BU):=scM
theorem Aj  (S:St.Src K mg "refuse_no_partner" BU)(A7:FD P w K mg base)(Fm:XcD K mg "NoPartner"):C9 P w K mg base:=by
 refine K1 (k:=4) S GZ rfl (λf fd F=>F.binds λ_ _ _ _ _ _ us hl=>match us,hl with| [_,_],_=>rfl) λf cdv A outer s H E hr=>?_
 have hu:=JW hr
 exact(J8 (Yg (F5 (Ep (deM A7 hr (AA (AN AX (AB 0) AF) (AA (AB 1) AD))))) (J8 (NQ rfl Fm rfl (AA Ah AD))) NA))
theorem AU  (S:St.Src K mg "refuse_no_partner" BU)(A7:FD P w K mg base):BQ P w K mg base:=by
 refine dfM 4 S GZ λhr hu=>?_
 exact(AK (CG (F5 (Ep (deM A7 hr (AA (AN AX (AB 0) AF) (AA (AB 1) AD))))) (AK KY) Ap))
theorem HU:AQ ["book","prices"] ["book","prices"] (AI Bd):=scM
theorem B1  (S:St.Src K mg "refuse_no_prices" Bd)(Co:JZ P w K mg base)(Gs:XcD K mg "NoPrices"):Hu P w K mg base:=by
 refine K1 (k:=4) S HU rfl (λf fd F=>F.binds λ_ _ _ _ _ _ us hl=>match us,hl with| [_,_],_=>rfl) λf cdv A outer s H E hr=>?_
 have hu:=JW hr
 exact(J8 (Yg (F5 (Ep (deM Co hr (AA (AB 1) (AA (AN AX (AN AX (AB 0) AF) AF) AD))))) (J8 (NQ rfl Gs rfl (AA Ah AD))) NA))
theorem A4  (S:St.Src K mg "refuse_no_prices" Bd)(Co:JZ P w K mg base):E5 P w K mg base:=by
 refine dfM 4 S HU λhr hu=>?_
 exact(AK (CG (F5 (Ep (deM Co hr (AA (AB 1) (AA (AN AX (AN AX (AB 0) AF) AF) AD))))) (AK KY) Ap))
theorem QC:AQ ["many","one"] ["many","one"] (AI DL):=scM
theorem Nr:AZ ["many","one"] (AI DL) ["one","at"] (ixC [1] 1) (LB DL 0):=csM
theorem Na:(["one","at"]:Gc Str).Nodup:=by decide+kernel
theorem FO  (S:St.Src K mg "all_to_one" DL)(B:Bts mg)(VU:Wj K mg "ALL" ZY)(Dm:Wj K mg "NOTHING" ET):L8 P w K mg base:=by
 refine dfM 0 S QC λhr hu=>?_
 exact(AK (AO (Av A9 rfl B.tuple vn (AA (Cg [1] 1 ["one","at"] rfl Nr (IP rfl B.range (AA (AB 0) AD)) (λs H fp=>⟨Ag 1 Na,By,pW (Ar (B8 hu) (AB 1) (AB 0)) (NU VU rfl) (NU Dm rfl)⟩)) AD))))
theorem N5:AQ ["shares","weight","others","more"] ["shares","weight","others","more"] (AI Cb):=scM
theorem Md:AZ ["shares","weight","others","more"] (AI Cb) ["weight","more","share","other"] (ixC [1,3] 2) (LB Cb 0):=csM
theorem IE:(["weight","more","share","other"]:Gc Str).Nodup:=by decide+kernel
theorem BJ  (S:St.Src K mg "mixed_shares" Cb)(B:Bts mg)(Kz:T7 P w K mg base):FQ P w K mg base:=by
 refine dfM 3 S N5 λhr hu=>?_
 exact(AK (AO (Av A9 rfl B.tuple vn (AA (Cg [1,3] 2 ["weight","more","share","other"] rfl Md (T4 rfl B.zip (AB 0) (AB 2)) (λs H fp=>⟨Fc rfl (AR (Ag 2 IE) (AR (Ag 3 IE) Bj)),By,deM Kz hr (AA (AB 2) (AA (AB 0) (AA (AB 3) (AA (AB 1) AD))))⟩)) AD))))
end
section
open PyProof.Rows (boot_isinstance boot_int boot_bool boot_tuple boot_str boot_list boot_abs boot_all boot_any boot_sum boot_max boot_min boot_range boot_enumerate boot_zip boot_sorted boot_set boot_divmod)
variable{P:vR}{w:vi}{K:Wp}{mg:Str->uo W1}{base:ve}
theorem FY:AQ ["held","shares","deed","sources","load","other"] ["held","shares","deed"] (AI EJ):=scM
theorem EU  (S:St.Src K mg "made_shares" EJ)(B:Bts mg)(GK:NB P w K mg base)(BJ:FQ P w K mg base):K6 P w K mg base:=by
 refine dfM 4 S FY λhr hu=>?_
 exact(AH (Ak 3 (deM GK hr (AA (AB 2) AD)) FY.nd)
      (AH (CG (Ar (B8 hu) (Aa Bf rfl B.len wq (AA (AB 3) AD)) AF) (AK (AO (AN AX (AB 1) (AN AX (AB 3) AF)))) Ap)
      (AH (IH (AB 3) (Fc rfl (AR (Ag 4 FY.nd) (AR (Ag 5 FY.nd) Bj))))
      (AK (AO (deM BJ hr (AA (AN AX (AB 1) (AB 4)) (AA (AN AX (AN AX (AB 0) (AB 4)) AF) (AA (AN AX (AB 1) (AB 5)) (AA (AN AX (AN AX (AB 0) (AB 5)) AF) AD))))))))))
theorem Ni:AQ ["train","held","worths"] ["train","held","worths"] (AI CV):=scM
theorem Mb:AZ ["train","held","worths"] (AI CV) ["worths","kind","pieces"] (ixC [2] 2) (LB CV 0):=csM
theorem Ih:(["worths","kind","pieces"]:Gc Str).Nodup:=by decide+kernel
theorem D8  (S:St.Src K mg "worth_of_all" CV)(B:Bts mg):Kl P w K mg base:=by
 refine dfM 0 S Ni λhr hu=>?_
 exact(AK (AO (Ab An (Aa (LZ rfl) rfl B.sum boot_sum (AA (Cg [2] 2 ["worths","kind","pieces"] rfl Mb (CM (AB 1)) (λs H fp=>⟨Fc rfl (AR (Ag 1 Ih) (AR (Ag 2 Ih) Bj)),By,Ab As (AB 2) (AN AX (AB 0) (AB 1))⟩)) AD)) (Ab As (AN AX (AB 0) AF) (AN AX (AB 2) (Oh Hk AF))))))
theorem FU:AQ ["train","held","deed","load","pieces","worths"] ["train","held","deed"] (AI Er):=scM
theorem EW  (S:St.Src K mg "part_thrown" Er)(BO:Gy P w K mg base)(D8:Kl P w K mg base):LG P w K mg base:=by
 refine dfM 2 S FU λhr hu=>?_
 exact(AH (IH (MX (AB 2) AF) (Fc rfl (AR (Ag 3 FU.nd) (AR (Ag 4 FU.nd) (AR (Ag 5 FU.nd) Bj)))))
      (AK (AO (deM BO hr (AA (Ab As (AB 4) (AN AX (AB 5) (AN AX (AN AX (AB 1) (AB 3)) AF))) (AA (deM D8 hr (AA (AB 0) (AA (AB 1) (AA (AB 5) AD)))) AD))))))
theorem GG:AQ ["train","held","owners","deed","shares","top","bottom"] ["train","held","owners","deed","shares"] (AI Df):=scM
theorem Di  (S:St.Src K mg "thrown_shares" Df)(BJ:FQ P w K mg base)(EW:LG P w K mg base):Js P w K mg base:=by
 refine dfM 4 S GG λhr hu=>?_
 exact(AH (IH (deM EW hr (AA (AB 0) (AA (AB 1) (AA (AB 3) AD)))) (Fc rfl (AR (Ag 5 GG.nd) (AR (Ag 6 GG.nd) Bj))))
      (AK (AO (deM BJ hr (AA (AB 4) (AA (Ab Fg (AB 6) (AB 5)) (AA (AN AX (AB 2) (AN AX (AB 3) AF)) (AA (AB 5) AD))))))))
theorem Cy:AQ ["deed","shares","partner","other","sold","passed","changed"] ["deed","shares"] (AI Ec):=scM
theorem EV  (S:St.Src K mg "sold_shares" Ec)(B:Bts mg)(GR:Oy P w K mg base)(G7:Ow P w K mg base)(CN:Jq P w K mg base):K8 P w K mg base:=by
 refine dfM 3 S Cy λhr hu=>?_
 exact(AH (IH (MX (AB 0) AF) (Fc rfl (AR (Ag 2 Cy.nd) (AR (Ag 3 Cy.nd) (AR (Ag 4 Cy.nd) Bj)))))
      (AH (Ak 5 (deM CN hr (AA (AN AX (AB 1) (AB 2)) (AA (AB 4) AD))) Cy.nd)
      (AH (Ak 6 (Av Lo rfl B.list boot_list (AA (AB 1) AD)) Cy.nd)
      (AH (DY (deM G7 hr (AA (AN AX (AB 1) (AB 2)) (AA (AB 5) AD))) (AB 6) (AB 2))
      (AH (DY (deM GR hr (AA (AN AX (AB 1) (AB 3)) (AA (AB 5) AD))) (AB 6) (AB 3))
      (AK (AO (Av A9 rfl B.tuple vn (AA (AB 6) AD)))))))))
theorem Mt:AQ ["train","held","owners","deed","shares"] ["train","held","owners","deed","shares"] (AI Dl):=scM
theorem Bp  (S:St.Src K mg "shares_behind" Dl)(Di:Js P w K mg base)(EV:K8 P w K mg base):Gv P w K mg base:=by
 refine dfM 5 S Mt λhr hu=>?_
 exact(AH (CG (Ar (B8 hu) (AN AX (AB 3) AF) Ah) (AK (AO (deM Di hr (AA (AB 0) (AA (AB 1) (AA (AB 2) (AA (AB 3) (AA (AB 4) AD)))))))) Ap)
      (AH (CG (Ar (B8 hu) (AN AX (AB 3) AF) Ah) (AK (AO (deM EV hr (AA (AB 3) (AA (AB 4) AD))))) Ap)
      (AK (AO (AB 4)))))
end
section
open PyProof.Rows (boot_isinstance boot_int boot_bool boot_tuple boot_str boot_list boot_abs boot_all boot_any boot_sum boot_max boot_min boot_range boot_enumerate boot_zip boot_sorted boot_set boot_divmod)
variable{P:vR}{w:vi}{K:Wp}{mg:Str->uo W1}{base:ve}
theorem JL:AQ ["train","held","owners","deed","behind"] ["train","held","owners","deed"] (AI CD):=scM
theorem Lx:AZ ["train","held","owners","deed","behind"] (AI CD) ["train","held","owners","deed","shares"] (ixC [0,1,2,3] 1) (LB CD 0):=csM
theorem Lr:(["train","held","owners","deed","shares"]:Gc Str).Nodup:=by decide+kernel
theorem Dd  (S:St.Src K mg "owners_behind" CD)(HA:Wj K mg "MAKERS" DR)(FO:L8 P w K mg base)(EU:K6 P w K mg base)(Bp:Gv P w K mg base):Jp P w K mg base:=by
 refine dfM 6 S JL λhr hu=>?_
 exact(AH (Cs [0,1,2,3] 1 ["train","held","owners","deed","shares"] rfl JL.nd rfl rfl Lx (CM (AB 2)) (λs H fp=>⟨Ag 4 Lr,By,deM Bp hr (AA (AB 0) (AA (AB 1) (AA (AB 2) (AA (AB 3) (AA (AB 4) AD)))))⟩))
      (AH (CG (Ar (B8 hu) (AN AX (AB 3) AF) Ah) (AK (AO (Ab An (AB 4) (Ba (AA (deM FO hr (AA (AN AX (AB 0) AF) (AA (AN AX (AB 3) AF) AD))) AD))))) Ap)
      (AH (CG (Ar QI (AN AX (AB 3) AF) (NU HA rfl)) (AK (AO (Ab An (AB 4) (Ba (AA (deM EU hr (AA (AB 1) (AA (AB 2) (AA (AB 3) AD)))) AD))))) Ap)
      (AK (AO (AB 4))))))
theorem B0:AQ ["book","many","train","first","deeds","held","owners","holders","deed"] ["book","many"] (AI EX):=scM
theorem QX:AZ ["book","many","train","first","deeds","held","owners","holders","deed"] (AI EX) ["load"] (ixC [] 1) (LB EX 0):=csM
theorem QO:(["load"]:Gc Str).Nodup:=by decide+kernel
theorem HJ  (S:St.Src K mg "state_by" EX)(BV:GP P w K mg base)(BA:Et P w K mg base)(Bp:Gv P w K mg base)(Dd:Jp P w K mg base):N6 P w K mg base:=by
 refine dfM 7 S B0 λhr hu=>?_
 exact(AH (IH (AB 0) (Fc rfl (AR (Ag 2 B0.nd) (AR (Ag 3 B0.nd) (AR (Ag 4 B0.nd) Bj)))))
      (AH (Ak 5 (deM BA hr (AA (AB 0) AD)) B0.nd)
      (AH (Cs [] 1 ["load"] rfl B0.nd rfl rfl QX (CM (AB 3)) (λs H fp=>⟨Ag 0 QO,By,AN AX (AB 0) AF⟩))
      (AH (Ak 7 (AN AX (AB 2) AF) B0.nd)
      (AH (Hb vk rfl (CM (J4 (AB 4) (AB 1))) (Ag 8 B0.nd) (AH (Ak 7 (deM Bp hr (AA (AB 2) (AA (AB 5) (AA (AB 6) (AA (AB 8) (AA (AB 7) AD)))))) B0.nd)
      (AH (Ak 6 (deM Dd hr (AA (AB 2) (AA (AB 5) (AA (AB 6) (AA (AB 8) AD))))) B0.nd)
      (AK (Ak 5 (deM BV hr (AA (AB 5) (AA (AB 8) AD))) B0.nd)))))
      (AK (AO (BC (AA (AB 5) (AA (AB 6) (AA (AB 7) AD)))))))))))
theorem Hs:AQ ["book","order"] ["book","order"] (AI BH):=scM
theorem EE:AZ ["book","order"] (AI BH) ["book","partner"] (ixC [0] 1) (LB BH 0):=csM
theorem ED:(["book","partner"]:Gc Str).Nodup:=by decide+kernel
theorem Ct  (S:St.Src K mg "refuse_no_order" BH)(B:Bts mg)(A7:FD P w K mg base)(HH:XcD K mg "NoOrder"):Ig P w K mg base:=by
 refine K1 (k:=4) S Hs rfl (λf fd F=>F.binds λ_ _ _ _ _ _ us hl=>match us,hl with| [_,_],_=>rfl) λf cdv A outer s H E hr=>?_
 have hu:=JW hr
 exact(Fb (Yg (DW.dt (Um (F5 (Ep (Aa C7 rfl B.isi wI (AA (AB 1) (AA (Mj rfl B.tuple vn) AD))))) (OK (F5 (Ep (Aa (Jn rfl) rfl B.all ABl (AA (Cg [0] 1 ["book","partner"] rfl EE (CM (AB 1)) (λs H fp=>⟨Ag 1 ED,By,deM A7 hr (AA (AN AX (AB 0) AF) (AA (AB 1) AD))⟩)) AD))))))) (J8 (NQ rfl HH rfl (AA Ah AD))) NA) (CG (DW.dt (Um (F5 (Ep (Aa C7 rfl B.isi wI (AA (AB 1) (AA (Mj rfl B.tuple vn) AD))))) (OK (F5 (Ep (Aa (Jn rfl) rfl B.all ABl (AA (Cg [0] 1 ["book","partner"] rfl EE (CM (AB 1)) (λs H fp=>⟨Ag 1 ED,By,deM A7 hr (AA (AN AX (AB 0) AF) (AA (AB 1) AD))⟩)) AD))))))) (AK KY) Ap)
      (J8 (Yg (Ar (Jg hu) (eE rfl rfl B.len rfl B.set (AA (AB 1) AD)) (Aa Bf rfl B.len wq (AA (AB 1) AD))) (J8 (NQ rfl HH rfl (AA Ah AD))) NA)))
theorem BW  (S:St.Src K mg "refuse_no_order" BH)(B:Bts mg)(A7:FD P w K mg base):Fd P w K mg base:=by
 refine dfM 4 S Hs λhr hu=>?_
 exact(AH (CG (DW.dt (Um (F5 (Ep (Aa C7 rfl B.isi wI (AA (AB 1) (AA (Mj rfl B.tuple vn) AD))))) (OK (F5 (Ep (Aa (Jn rfl) rfl B.all ABl (AA (Cg [0] 1 ["book","partner"] rfl EE (CM (AB 1)) (λs H fp=>⟨Ag 1 ED,By,deM A7 hr (AA (AN AX (AB 0) AF) (AA (AB 1) AD))⟩)) AD))))))) (AK KY) Ap)
      (AK (CG (Ar (Jg hu) (eE rfl rfl B.len rfl B.set (AA (AB 1) AD)) (Aa Bf rfl B.len wq (AA (AB 1) AD))) (AK KY) Ap)))
theorem CJ:AQ ["book","hire","held","owners","holders","dues","shares","kind","pieces","parts"] ["book"] (AI EK):=scM
theorem PQ:AZ ["book","hire","held","owners","holders","dues","shares","kind","pieces","parts"] (AI EK) ["pieces","part"] (ixC [8] 1) (LB EK 0):=csM
theorem Px:(["pieces","part"]:Gc Str).Nodup:=by decide+kernel
theorem A1  (S:St.Src K mg "all_dues" EK)(B:Bts mg)(CN:Jq P w K mg base)(BJ:FQ P w K mg base)(HJ:N6 P w K mg base):Du P w K mg base:=by
 refine dfM 8 S CJ λhr hu=>?_
 exact(AH (Ak 1 (AN AX (AN AX (AB 0) AF) AF) CJ.nd)
      (AH (IH (deM HJ hr (AA (AB 0) (AA (Aa Bf rfl B.len wq (AA (AN AX (AB 0) AF) AD)) AD))) (Fc rfl (AR (Ag 2 CJ.nd) (AR (Ag 3 CJ.nd) (AR (Ag 4 CJ.nd) Bj)))))
      (AH (Ak 5 (Ba AD) CJ.nd)
      (AH (Hb vk rfl (T4 rfl B.zip (AB 2) (AB 3)) (Fc rfl (AR (Fc rfl (AR (Ag 7 CJ.nd) (AR (Ag 8 CJ.nd) Bj))) (AR (Ag 6 CJ.nd) Bj))) (AH (Ak 9 (deM BJ hr (AA (AB 6) (AA (Ab Fg AF (AB 1)) (AA (AB 4) (AA (AB 1) AD))))) CJ.nd)
      (AK (BS (L9 vx v7 KZ (AB 5) (AA (Av A9 rfl B.tuple vn (AA (Cg [8] 1 ["pieces","part"] rfl PQ (CM (AB 9)) (λs H fp=>⟨Ag 1 Px,By,deM CN hr (AA (BC (AA (AB 0) (AA AF AD))) (AA (AB 1) AD))⟩)) AD)) AD))))))
      (AK (AO (AB 5)))))))
theorem G3:AQ ["book","partner","prices","train","first","deeds","amounts","brought"] ["book","partner","prices"] (AI Ey):=scM
theorem SK:AZ ["book","partner","prices","train","first","deeds","amounts","brought"] (AI Ey) ["partner","prices","kind","pieces","owners"] (ixC [1,2] 3) (LB Ey 0):=csM
theorem J6:(["partner","prices","kind","pieces","owners"]:Gc Str).Nodup:=by decide+kernel
theorem TJ:AZ ["book","partner","prices","train","first","deeds","amounts","brought"] (AI Ey) ["partner","prices","deed"] (ixC [1,2] 1) (LB Ey 1):=csM
theorem SN:(["partner","prices","deed"]:Gc Str).Nodup:=by decide+kernel
theorem Gh  (S:St.Src K mg "put_in" Ey)(B:Bts mg)(GR:Oy P w K mg base)(CN:Jq P w K mg base)(HZ:Pk P w K mg base):Nh P w K mg base:=by
 refine dfM 4 S G3 λhr hu=>?_
 exact(AH (IH (AB 0) (Fc rfl (AR (Ag 3 G3.nd) (AR (Ag 4 G3.nd) (AR (Ag 5 G3.nd) Bj)))))
      (AH (Cs [1,2] 3 ["partner","prices","kind","pieces","owners"] rfl G3.nd rfl rfl SK (CM (AB 4)) (λs H fp=>⟨Fc rfl (AR (Ag 2 J6) (AR (Ag 3 J6) (AR (Ag 4 J6) Bj))),By,deM CN hr (AA (BC (AA (Ab As (AB 3) (AN AX (AB 1) (AB 2))) (AA AF AD))) (AA (AN AX (AB 4) (AB 0)) AD))⟩))
      (AH (Cs [1,2] 1 ["partner","prices","deed"] rfl G3.nd rfl rfl TJ (CM (AB 5)) (λs H fp=>⟨Ag 2 SN,LF (DW.dt (K9 (Ar (B8 hu) (AN AX (AB 2) AF) Ah) (JY (Ar (B8 hu) (AN AX (AB 2) AF) (AB 0))))),Ab As (AN AX (AB 2) AF) (AN AX (AB 1) (AN AX (AB 2) AF))⟩))
      (AK (AO (deM GR hr (AA (deM HZ hr (AA (AB 6) AD)) (AA (BC (AA (Aa (LZ rfl) rfl B.sum boot_sum (AA (AB 7) AD)) (AA AF AD))) AD))))))))
theorem JK:AQ ["book","partner","prices","held"] ["book","partner","prices"] (AI CA):=scM
theorem Lw:AZ ["book","partner","prices","held"] (AI CA) ["partner","prices","dues","kind","pieces"] (ixC [1,2] 3) (LB CA 0):=csM
theorem FA:(["partner","prices","dues","kind","pieces"]:Gc Str).Nodup:=by decide+kernel
theorem CI  (S:St.Src K mg "worth_of_dues" CA)(B:Bts mg)(CN:Jq P w K mg base)(HZ:Pk P w K mg base)(DJ:J7 P w K mg base)(A1:Du P w K mg base):Gj P w K mg base:=by
 refine dfM 9 S JK λhr hu=>?_
 exact(AH (Ak 3 (deM DJ hr (AA (AB 0) (AA (Aa Bf rfl B.len wq (AA (AN AX (AB 0) AF) AD)) AD))) JK.nd)
      (AK (AO (deM HZ hr (AA (Cg [1,2] 3 ["partner","prices","dues","kind","pieces"] rfl Lw (T4 rfl B.zip (AB 3) (deM A1 hr (AA (AB 0) AD))) (λs H fp=>⟨Fc rfl (AR (Fc rfl (AR (Ag 3 FA) (AR (Ag 4 FA) Bj))) (AR (Ag 2 FA) Bj)),By,deM CN hr (AA (BC (AA (AN AX (AB 1) (AB 3)) (AA AF AD))) (AA (AN AX (AB 2) (AB 0)) AD))⟩)) AD)))))
end
section
open PyProof.Rows (boot_isinstance boot_int boot_bool boot_tuple boot_str boot_list boot_abs boot_all boot_any boot_sum boot_max boot_min boot_range boot_enumerate boot_zip boot_sorted boot_set boot_divmod)
variable{P:vR}{w:vi}{K:Wp}{mg:Str->uo W1}{base:ve}
theorem Vj:AQ ["train","gain"] ["train","gain"] (AI Ji):=scM
theorem Gi  (S:St.Src K mg "cut_of" Ji)(Dm:Wj K mg "NOTHING" ET)(BO:Gy P w K mg base)(CN:Jq P w K mg base):Nv P w K mg base:=by
 refine dfM 3 S Vj λhr hu=>?_
 exact(AH (CG (Ar cJ (AN AX (AB 1) AF) AF) (AK (AO (NU Dm rfl))) Ap)
      (AK (AO (deM CN hr (AA (AB 1) (AA (deM BO hr (AA (AN AX (AB 0) AF) (AA AF AD))) AD))))))
theorem QT:AQ ["book","partner","load"] ["book","partner","load"] (AI Gp):=scM
theorem Je  (S:St.Src K mg "due_of" Gp)(AV:BZ P w K mg base)(Be:GU P w K mg base)(AU:BQ P w K mg base)(A1:Du P w K mg base)(DB:JM P w K mg base)(Aj:C9 P w K mg base):R8 P w K mg base:=by
 refine K1 (k:=9) S QT rfl (λf fd F=>F.binds λ_ _ _ _ _ _ us hl=>match us,hl with| [_,_,_],_=>rfl) λf cdv A outer s H E hr=>?_
 have hu:=JW hr
 exact(Fb az (BS (deM AV hr (AA (AB 0) AD)))
      (Fb (MT (Iw Aj (hr.mono (by decide)) rfl (AA (AB 0) (AA (AB 1) AD)))) (BS (deM AU hr (AA (AB 0) (AA (AB 1) AD))))
      (Fb (MT (Iw DB (hr.mono (by decide)) rfl (AA (AB 0) (AA (AB 2) AD)))) (BS (deM Be hr (AA (AB 0) (AA (AB 2) AD))))
      NA)))
theorem Ju  (S:St.Src K mg "due_of" Gp)(AV:BZ P w K mg base)(Be:GU P w K mg base)(AU:BQ P w K mg base)(A1:Du P w K mg base):RY P w K mg base:=by
 refine dfM 9 S QT λhr hu=>?_
 exact(AH (BS (deM AV hr (AA (AB 0) AD)))
      (AH (BS (deM AU hr (AA (AB 0) (AA (AB 1) AD))))
      (AH (BS (deM Be hr (AA (AB 0) (AA (AB 2) AD))))
      (AK (AO (AN AX (AN AX (deM A1 hr (AA (AB 0) AD)) (AB 2)) (AB 1)))))))
theorem EZ:AQ ["book","partner","ahead","later","put","worth","gain"] ["book","partner","ahead","later"] (AI DN):=scM
theorem FJ  (S:St.Src K mg "account_of" DN)(G7:Ow P w K mg base)(AV:BZ P w K mg base)(AU:BQ P w K mg base)(A4:E5 P w K mg base)(Gh:Nh P w K mg base)(CI:Gj P w K mg base)(Gi:Nv P w K mg base)(Aj:C9 P w K mg base)(B1:Hu P w K mg base):MD P w K mg base:=by
 refine K1 (k:=10) S EZ rfl (λf fd F=>F.binds λ_ _ _ _ _ _ us hl=>match us,hl with| [_,_,_,_],_=>rfl) λf cdv A outer s H E hr=>?_
 have hu:=JW hr
 exact(Fb az (BS (deM AV hr (AA (AB 0) AD)))
      (Fb (MT (Iw Aj (hr.mono (by decide)) rfl (AA (AB 0) (AA (AB 1) AD)))) (BS (deM AU hr (AA (AB 0) (AA (AB 1) AD))))
      (Fb (MT (Iw B1 (hr.mono (by decide)) rfl (AA (AB 0) (AA (AB 2) AD)))) (BS (deM A4 hr (AA (AB 0) (AA (AB 2) AD))))
      (Fb (MT (Iw B1 (hr.mono (by decide)) rfl (AA (AB 0) (AA (AB 3) AD)))) (BS (deM A4 hr (AA (AB 0) (AA (AB 3) AD))))
      NA))))
theorem FK  (S:St.Src K mg "account_of" DN)(G7:Ow P w K mg base)(AV:BZ P w K mg base)(AU:BQ P w K mg base)(A4:E5 P w K mg base)(Gh:Nh P w K mg base)(CI:Gj P w K mg base)(Gi:Nv P w K mg base):MG P w K mg base:=by
 refine dfM 10 S EZ λhr hu=>?_
 exact(AH (BS (deM AV hr (AA (AB 0) AD)))
      (AH (BS (deM AU hr (AA (AB 0) (AA (AB 1) AD))))
      (AH (BS (deM A4 hr (AA (AB 0) (AA (AB 2) AD))))
      (AH (BS (deM A4 hr (AA (AB 0) (AA (AB 3) AD))))
      (AH (Ak 4 (deM Gh hr (AA (AB 0) (AA (AB 1) (AA (AB 2) AD)))) EZ.nd)
      (AH (Ak 5 (deM CI hr (AA (AB 0) (AA (AB 1) (AA (AB 3) AD)))) EZ.nd)
      (AH (Ak 6 (deM G7 hr (AA (AB 5) (AA (AB 4) AD))) EZ.nd)
      (AK (AO (BC (AA (AB 4) (AA (AB 5) (AA (AB 6) (AA (deM Gi hr (AA (AN AX (AB 0) AF) (AA (AB 6) AD))) AD))))))))))))))
theorem N0:AQ ["due"] ["due"] (AI D5):=scM
theorem D4  (S:St.Src K mg "whole_pieces" D5):Kk P w K mg base:=by
 refine dfM 0 S N0 λhr hu=>?_
 exact(AK (AO (Ab JT (AN AX (AB 0) AF) (AN AX (AB 0) AF))))
theorem Mr:AQ ["dues","partner","takes"] ["dues","partner"] (AI C6):=scM
theorem PV:AZ ["dues","partner","takes"] (AI C6) ["partner","load","each"] (ixC [1] 2) (LB C6 0):=csM
theorem K4:(["partner","load","each"]:Gc Str).Nodup:=by decide+kernel
theorem QG:AZ ["dues","partner","takes"] (AI C6) ["load","pieces"] (ixC [] 2) (LB C6 1):=csM
theorem K2:(["load","pieces"]:Gc Str).Nodup:=by decide+kernel
theorem B6  (S:St.Src K mg "taken_by" C6)(B:Bts mg)(D4:Kk P w K mg base):He P w K mg base:=by
 refine dfM 1 S Mr λhr hu=>?_
 exact(AH (Cs [1] 2 ["partner","load","each"] rfl Mr.nd rfl rfl PV (YQ rfl B.enumerate (AB 0)) (λs H fp=>⟨Fc rfl (AR (Ag 1 K4) (AR (Ag 2 K4) Bj)),By,BC (AA (AB 1) (AA (deM D4 hr (AA (AN AX (AB 2) (AB 0)) AD)) AD))⟩))
      (AK (AO (Cg [] 2 ["load","pieces"] rfl QG (CM (AB 2)) (λs H fp=>⟨Fc rfl (AR (Ag 0 K2) (AR (Ag 1 K2) Bj)),LF (Ar Mp (AB 1) AF),BC (AA (AB 0) (AA (AB 1) AD))⟩)))))
theorem Dr:AQ ["book","order","dues","taken","left","takes","load","pieces"] ["book","order"] (AI Cu):=scM
theorem Qs:AZ ["book","order","dues","taken","left","takes","load","pieces"] (AI Cu) ["dues","partner"] (ixC [2] 1) (LB Cu 0):=csM
theorem Qw:(["dues","partner"]:Gc Str).Nodup:=by decide+kernel
theorem RG:AZ ["book","order","dues","taken","left","takes","load","pieces"] (AI Cu) ["kind","pieces"] (ixC [] 2) (LB Cu 1):=csM
theorem L7:(["kind","pieces"]:Gc Str).Nodup:=by decide+kernel
theorem Ii  (S:St.Src K mg "settled" Cu)(B:Bts mg)(DJ:J7 P w K mg base)(AV:BZ P w K mg base)(BW:Fd P w K mg base)(A1:Du P w K mg base)(B6:He P w K mg base)(Ct:Ig P w K mg base):Qf P w K mg base:=by
 refine K1 (k:=9) S Dr rfl (λf fd F=>F.binds λ_ _ _ _ _ _ us hl=>match us,hl with| [_,_],_=>rfl) λf cdv A outer s H E hr=>?_
 have hu:=JW hr
 exact(Fb az (BS (deM AV hr (AA (AB 0) AD)))
      (Fb (MT (Iw Ct (hr.mono (by decide)) rfl (AA (AB 0) (AA (AB 1) AD)))) (BS (deM BW hr (AA (AB 0) (AA (AB 1) AD))))
      NA))
theorem Ip  (S:St.Src K mg "settled" Cu)(B:Bts mg)(DJ:J7 P w K mg base)(AV:BZ P w K mg base)(BW:Fd P w K mg base)(A1:Du P w K mg base)(B6:He P w K mg base):PZ P w K mg base:=by
 refine dfM 9 S Dr λhr hu=>?_
 exact(AH (BS (deM AV hr (AA (AB 0) AD)))
      (AH (BS (deM BW hr (AA (AB 0) (AA (AB 1) AD))))
      (AH (Ak 2 (deM A1 hr (AA (AB 0) AD)) Dr.nd)
      (AH (Cs [2] 1 ["dues","partner"] rfl Dr.nd rfl rfl Qs (CM (AB 1)) (λs H fp=>⟨Ag 1 Qw,By,deM B6 hr (AA (AB 0) (AA (AB 1) AD))⟩))
      (AH (Cs [] 2 ["kind","pieces"] rfl Dr.nd rfl rfl RG (CM (deM DJ hr (AA (AB 0) (AA (Aa Bf rfl B.len wq (AA (AN AX (AB 0) AF) AD)) AD)))) (λs H fp=>⟨Fc rfl (AR (Ag 0 L7) (AR (Ag 1 L7) Bj)),By,AB 1⟩))
      (AH (Hb vk rfl (CM (AB 3)) (Ag 5 Dr.nd) (AK (Hb vk rfl (CM (AB 5)) (Fc rfl (AR (Ag 6 Dr.nd) (AR (Ag 7 Dr.nd) Bj))) (AK (jT (AB 4) (AB 6) (AB 7) iw)))))
      (AK (AO (BC (AA (AB 3) (AA (Av A9 rfl B.tuple vn (AA (AB 4) AD)) AD)))))))))))
end
section
open PyProof.Rows (boot_isinstance boot_int boot_bool boot_tuple boot_str boot_list boot_abs boot_all boot_any boot_sum boot_max boot_min boot_range boot_enumerate boot_zip boot_sorted boot_set boot_divmod)
variable{P:vR}{w:vi}{K:Wp}{mg:Str->uo W1}{base:ve}
theorem NH:AQ ["book","partner"] ["book","partner"] (AI Ee):=scM
theorem Hi  (S:St.Src K mg "takes_of" Ee)(AV:BZ P w K mg base)(AU:BQ P w K mg base)(A1:Du P w K mg base)(B6:He P w K mg base)(Aj:C9 P w K mg base):OW P w K mg base:=by
 refine K1 (k:=9) S NH rfl (λf fd F=>F.binds λ_ _ _ _ _ _ us hl=>match us,hl with| [_,_],_=>rfl) λf cdv A outer s H E hr=>?_
 have hu:=JW hr
 exact(Fb az (BS (deM AV hr (AA (AB 0) AD)))
      (Fb (MT (Iw Aj (hr.mono (by decide)) rfl (AA (AB 0) (AA (AB 1) AD)))) (BS (deM AU hr (AA (AB 0) (AA (AB 1) AD))))
      NA))
theorem HP  (S:St.Src K mg "takes_of" Ee)(AV:BZ P w K mg base)(AU:BQ P w K mg base)(A1:Du P w K mg base)(B6:He P w K mg base):OZ P w K mg base:=by
 refine dfM 9 S NH λhr hu=>?_
 exact(AH (BS (deM AV hr (AA (AB 0) AD)))
      (AH (BS (deM AU hr (AA (AB 0) (AA (AB 1) AD))))
      (AK (AO (deM B6 hr (AA (deM A1 hr (AA (AB 0) AD)) (AA (AB 1) AD)))))))
theorem XB:AQ ["_law_cell"] ["_law_cell"] (AI K5):=scM
theorem LI  (S:St.Src K mg "_law_pen" K5)(B:Bts mg):Uk P w K mg base:=by
 refine dfM 0 S XB λhr hu=>?_
 exact(AK (AO (Ba (AA (AB 0) (AA (Av Ik rfl B.int zU (AA (Hf Yq (AB 0) (Ab VC AF AF)) AD)) (AA AF (AA (Ab Ja (AB 0) AF) AD)))))))
theorem Qu:AQ ["_law_script","_law_k"] ["_law_script","_law_k"] (AI GV):=scM
theorem GD  (S:St.Src K mg "_law_cell_at" GV)(B:Bts mg):NO P w K mg base:=by
 refine dfM 0 S Qu λhr hu=>?_
 exact(AH (CG (Ar MF (AB 1) (Aa Bf rfl B.len wq (AA (AB 0) AD))) (AK (AO (AN AX (AB 0) (AB 1)))) Ap)
      (AK (AO AF)))
theorem KQ:AQ ["_law_pen_here","_law_bound","_law_found","_law_stir"] ["_law_pen_here","_law_bound"] (AI Jc):=scM
theorem AM  (S:St.Src K mg "_law_draw" Jc):Cr P w K mg base:=by
 refine dfM 0 S KQ λhr hu=>?_
 exact(AH (CG (DW.dt (K9 (Ar (B8 hu) (AN AX (AB 0) AF) AF) (JY (Ar Mp (AN AX (AB 0) AF) AF)))) (AH (Ak 2 (Ab Ja (AN AX (AB 0) AF) (AB 1)) KQ.nd)
      (AH (DY (Ab JT (AN AX (AB 0) AF) (AB 1)) (AB 0) AF)
      (AK (AO (AB 2))))) Ap)
      (AH (DY (Ab An (AN AX (AB 0) AF) AF) (AB 0) AF)
      (AH (Ak 3 (Ab Ja (Ab As (Ab An (AN AX (AB 0) AF) AF) (Ab An AF (Ab As AF (AN AX (AB 0) AF)))) AF) KQ.nd)
      (AH (Ak 3 (Ab Ja (Ab An (Ab An (Ab As (AB 3) (AB 3)) (Ab As AF (AN AX (AB 0) AF))) AF) AF) KQ.nd)
      (AK (AO (Ab Ja (Ab JT (Ab Ja (Ab As (AB 3) AF) AF) AF) (AB 1))))))))
theorem NC:AQ ["_law_one","_law_other"] ["_law_one","_law_other"] (AI HQ):=scM
theorem HI  (S:St.Src K mg "_law_common" HQ):OP P w K mg base:=by
 refine dfM 0 S NC λhr hu=>?_
 exact(AH (Wq (XY 1) vk (Ar Mp (AB 1) AF) (AK (OQ (i:=0) (j:=1) rfl NC.nd rfl rfl (by decide) rfl rfl (AB 1) (Ab Ja (AB 0) (AB 1)))))
      (AK (AO (AB 0))))
theorem Qc:AQ ["_law_top","_law_bottom","_law_by"] ["_law_top","_law_bottom"] (AI J0):=scM
theorem BP  (S:St.Src K mg "_law_made" J0)(B:Bts mg)(HI:OP P w K mg base):Gu P w K mg base:=by
 refine dfM 1 S Qc λhr hu=>?_
 exact(AH (Ak 2 (deM HI hr (AA (Aa Pg rfl B.abs boot_abs (AA (AB 0) AD)) (AA (AB 1) AD))) Qc.nd)
      (AK (AO (BC (AA (Ab JT (AB 0) (AB 2)) (AA (Ab JT (AB 1) (AB 2)) AD))))))
end
section
open PyProof.Rows (boot_isinstance boot_int boot_bool boot_tuple boot_str boot_list boot_abs boot_all boot_any boot_sum boot_max boot_min boot_range boot_enumerate boot_zip boot_sorted boot_set boot_divmod)
variable{P:vR}{w:vi}{K:Wp}{mg:Str->uo W1}{base:ve}
theorem Oc:AQ ["_law_pen_here","_law_many","_law_weights"] ["_law_pen_here","_law_many"] (AI Dz):=scM
theorem Q9:AZ ["_law_pen_here","_law_many","_law_weights"] (AI Dz) ["_law_pen_here","_law_one"] (ixC [0] 1) (LB Dz 0):=csM
theorem Qp:(["_law_pen_here","_law_one"]:Gc Str).Nodup:=by decide+kernel
theorem Q7:AZ ["_law_pen_here","_law_many","_law_weights"] (AI Dz) ["_law_weights","_law_weight"] (ixC [2] 1) (LB Dz 1):=csM
theorem Ql:(["_law_weights","_law_weight"]:Gc Str).Nodup:=by decide+kernel
theorem EL  (S:St.Src K mg "_law_whole" Dz)(B:Bts mg)(AM:Cr P w K mg base)(BP:Gu P w K mg base):MO P w K mg base:=by
 refine dfM 2 S Oc λhr hu=>?_
 exact(AH (Ak 2 (Cg [0] 1 ["_law_pen_here","_law_one"] rfl Q9 (IP rfl B.range (AA (AB 1) AD)) (λs H fp=>⟨Ag 1 Qp,By,AN AX (Ba (AA AF (AA AF (AA (deM AM hr (AA (AB 0) (AA AF AD))) (AA (deM AM hr (AA (AB 0) (AA AF AD))) AD))))) (deM AM hr (AA (AB 0) (AA AF AD)))⟩)) Oc.nd)
      (AH (CG (Ar (B8 hu) (Aa (LZ rfl) rfl B.sum boot_sum (AA (AB 2) AD)) AF) (AK (DY AF (AB 2) (deM AM hr (AA (AB 0) (AA (AB 1) AD))))) Ap)
      (AK (AO (Av A9 rfl B.tuple vn (AA (Cg [2] 1 ["_law_weights","_law_weight"] rfl Q7 (CM (AB 2)) (λs H fp=>⟨Ag 1 Ql,By,deM BP hr (AA (AB 1) (AA (Aa (LZ rfl) rfl B.sum boot_sum (AA (AB 0) AD)) AD))⟩)) AD))))))
theorem Kx:AQ ["_law_pen_here","_law_partners","_law_kinds","_law_beasts"] ["_law_pen_here"] (AI IZ):=scM
theorem IS  (S:St.Src K mg "_law_train" IZ)(AM:Cr P w K mg base)(EL:MO P w K mg base):QW P w K mg base:=by
 refine dfM 3 S Kx λhr hu=>?_
 exact(AH (OQ (i:=1) (j:=2) rfl Kx.nd rfl rfl (by decide) rfl rfl (Ab An AF (deM AM hr (AA (AB 0) (AA AF AD)))) (Ab An AF (deM AM hr (AA (AB 0) (AA AF AD)))))
      (AH (Ak 3 (AN AX (Ba (AA (Ab An AF (deM AM hr (AA (AB 0) (AA AF AD)))) (AA (Ab An AF (deM AM hr (AA (AB 0) (AA AF AD)))) AD))) (deM AM hr (AA (AB 0) (AA AF AD)))) Kx.nd)
      (AK (AO (BC (AA (AB 1) (AA (AB 2) (AA (AB 3) (AA (deM EL hr (AA (AB 0) (AA (AB 1) AD))) (AA (deM AM hr (AA (AB 0) (AA AF AD))) (AA (deM AM hr (AA (AB 0) (AA AF AD))) AD)))))))))))
theorem Mu:AQ ["_law_pen_here","_law_great"] ["_law_pen_here"] (AI Hg):=scM
theorem Cm  (S:St.Src K mg "_law_pieces" Hg)(AM:Cr P w K mg base):K0 P w K mg base:=by
 refine dfM 1 S Mu λhr hu=>?_
 exact(AH (Ak 1 (Ab An (Ab VC AF AF) (deM AM hr (AA (AB 0) (AA AF AD)))) Mu.nd)
      (AK (AO (AN AX (Ba (AA (Ab An AF (deM AM hr (AA (AB 0) (AA AF AD)))) (AA (Ab An AF (deM AM hr (AA (AB 0) (AA AF AD)))) (AA (Ab An AF (deM AM hr (AA (AB 0) (AA AF AD)))) (AA (AB 1) AD))))) (Ab JT (deM AM hr (AA (AB 0) (AA AF AD))) AF)))))
theorem LK:AQ ["_law_pen_here","_law_train_here","_law_found","_law_k"] ["_law_pen_here","_law_train_here"] (AI Ia):=scM
theorem IF  (S:St.Src K mg "_law_first" Ia)(B:Bts mg)(AM:Cr P w K mg base)(EL:MO P w K mg base)(Cm:K0 P w K mg base):Ph P w K mg base:=by
 refine dfM 3 S LK λhr hu=>?_
 exact(AH (Ak 2 (Ba AD) LK.nd)
      (AH (Hb vk rfl (IP rfl B.range (AA (AN AX (Ba (AA AF (AA AF (AA (deM AM hr (AA (AB 0) (AA AF AD))) AD)))) (deM AM hr (AA (AB 0) (AA AF AD)))) AD)) (Ag 3 LK.nd) (AK (BS (L9 vx v7 KZ (AB 2) (AA (BC (AA (deM AM hr (AA (AB 0) (AA (AN AX (AB 1) AF) AD))) (AA (deM Cm hr (AA (AB 0) AD)) (AA (deM EL hr (AA (AB 0) (AA (AN AX (AB 1) AF) AD))) AD)))) AD)))))
      (AK (AO (Av A9 rfl B.tuple vn (AA (AB 2) AD))))))
theorem U5:AQ ["_law_book_here"] ["_law_book_here"] (AI Fp):=scM
theorem Qm:AZ ["_law_book_here"] (AI Fp) ["_law_load"] (ixC [] 1) (LB Fp 0):=csM
theorem Qy:(["_law_load"]:Gc Str).Nodup:=by decide+kernel
theorem EN  (S:St.Src K mg "_law_begun" Fp)(B:Bts mg):MY P w K mg base:=by
 refine dfM 0 S U5 λhr hu=>?_
 exact(AK (AO (Ba (AA (Cg [] 1 ["_law_load"] rfl Qm (CM (AN AX (AB 0) AF)) (λs H fp=>⟨Ag 0 Qy,By,Av Lo rfl B.list boot_list (AA (AB 0) AD)⟩)) (AA (Av A9 rfl B.tuple vn (AA (AN AX (AN AX (AB 0) AF) AF) AD)) (AA (Ba AD) AD))))))
theorem Oa:AQ ["_law_pen_here","_law_bottom"] ["_law_pen_here"] (AI Io):=scM
theorem IL  (S:St.Src K mg "_law_share" Io)(AM:Cr P w K mg base)(BP:Gu P w K mg base):Pa P w K mg base:=by
 refine dfM 2 S Oa λhr hu=>?_
 exact(AH (Ak 1 (Ab An AF (deM AM hr (AA (AB 0) (AA AF AD)))) Oa.nd)
      (AK (AO (deM BP hr (AA (Ab An AF (deM AM hr (AA (AB 0) (AA (AB 1) AD)))) (AA (AB 1) AD))))))
end
section
open PyProof.Rows (boot_isinstance boot_int boot_bool boot_tuple boot_str boot_list boot_abs boot_all boot_any boot_sum boot_max boot_min boot_range boot_enumerate boot_zip boot_sorted boot_set boot_divmod)
variable{P:vR}{w:vi}{K:Wp}{mg:Str->uo W1}{base:ve}
theorem SX:AQ ["_law_pen_here","_law_many"] ["_law_pen_here","_law_many"] (AI Ej):=scM
theorem Pp:AZ ["_law_pen_here","_law_many"] (AI Ej) ["_law_pen_here","_law_one"] (ixC [0] 1) (LB Ej 0):=csM
theorem QS:(["_law_pen_here","_law_one"]:Gc Str).Nodup:=by decide+kernel
theorem HE  (S:St.Src K mg "_law_worths" Ej)(B:Bts mg)(AM:Cr P w K mg base):OF P w K mg base:=by
 refine dfM 1 S SX λhr hu=>?_
 exact(AK (AO (Av A9 rfl B.tuple vn (AA (Cg [0] 1 ["_law_pen_here","_law_one"] rfl Pp (IP rfl B.range (AA (AB 1) AD)) (λs H fp=>⟨Ag 1 QS,By,Ab An AF (AN AX (Ba (AA (deM AM hr (AA (AB 0) (AA AF AD))) (AA (deM AM hr (AA (AB 0) (AA AF AD))) AD))) (deM AM hr (AA (AB 0) (AA AF AD))))⟩)) AD))))
theorem CY:AQ ["_law_pen_here","_law_train_here","_law_state","_law_loads","_law_holders","_law_numbers","_law_full","_law_way","_law_load","_law_some","_law_same","_law_kind","_law_left","_law_partner"] ["_law_pen_here","_law_train_here","_law_state"] (AI Dh):=scM
theorem Sk:AZ ["_law_pen_here","_law_train_here","_law_state","_law_loads","_law_holders","_law_numbers","_law_full","_law_way","_law_load","_law_some","_law_same","_law_kind","_law_left","_law_partner"] (AI Dh) ["_law_at","_law_load"] (ixC [] 2) (LB Dh 0):=csM
theorem NL:(["_law_at","_law_load"]:Gc Str).Nodup:=by decide+kernel
theorem Sn:AZ ["_law_pen_here","_law_train_here","_law_state","_law_loads","_law_holders","_law_numbers","_law_full","_law_way","_law_load","_law_some","_law_same","_law_kind","_law_left","_law_partner"] (AI Dh) ["_law_loads","_law_load","_law_at"] (ixC [3,8] 1) (LB Dh 1):=csM
theorem Sw:(["_law_loads","_law_load","_law_at"]:Gc Str).Nodup:=by decide+kernel
theorem TB:AZ ["_law_pen_here","_law_train_here","_law_state","_law_loads","_law_holders","_law_numbers","_law_full","_law_way","_law_load","_law_some","_law_same","_law_kind","_law_left","_law_partner"] (AI Dh) ["_law_numbers","_law_number"] (ixC [5] 1) (LB Dh 2):=csM
theorem SO:(["_law_numbers","_law_number"]:Gc Str).Nodup:=by decide+kernel
theorem J3  (S:St.Src K mg "_law_deed" Dh)(B:Bts mg)(AM:Cr P w K mg base)(Cm:K0 P w K mg base)(IL:Pa P w K mg base)(HE:OF P w K mg base):RQ P w K mg base:=by
 refine dfM 3 S CY λhr hu=>?_
 exact(AH (IH (AB 2) (Fc rfl (AR (Ag 3 CY.nd) (AR (Ag 4 CY.nd) (AR (Ag 5 CY.nd) Bj)))))
      (AH (Cs [] 2 ["_law_at","_law_load"] rfl CY.nd rfl rfl Sk (YQ rfl B.enumerate (AB 3)) (λs H fp=>⟨Fc rfl (AR (Ag 0 NL) (AR (Ag 1 NL) Bj)),LF (Ar Mp (AN AX (AB 1) AF) AF),AB 0⟩))
      (AH (Ak 7 (deM AM hr (AA (AB 0) (AA AF AD))) CY.nd)
      (AH (CG (DW.dt (Um (Ar MF (AB 7) AF) (OK (Ar (B8 hu) (AB 6) (Ba AD))))) (AK (AO (BC (AA Ah (AA (deM AM hr (AA (AB 0) (AA (AN AX (AB 1) AF) AD))) (AA (deM AM hr (AA (AB 0) (AA (AN AX (AB 1) AF) AD))) (AA (deM Cm hr (AA (AB 0) AD)) AD))))))) Ap)
      (AH (Ak 8 (AN AX (AB 6) (deM AM hr (AA (AB 0) (AA (Aa Bf rfl B.len wq (AA (AB 6) AD)) AD)))) CY.nd)
      (AH (Ak 9 (Ab An AF (deM AM hr (AA (AB 0) (AA (Aa (Yy rfl) rfl B.min boot_min (AA (AN AX (AN AX (AB 3) (AB 8)) AF) (AA AF AD))) AD)))) CY.nd)
      (AH (CG (Ar MF (AB 7) AF) (AH (Cs [3,8] 1 ["_law_loads","_law_load","_law_at"] rfl CY.nd rfl rfl Sn (CM (AB 6)) (λs H fp=>⟨Ag 2 Sw,LF (DW.dt (K9 (Ar (Jg hu) (AB 2) (AB 1)) (JY (Ar (B8 hu) (AN AX (AN AX (AB 0) (AB 2)) AF) (AN AX (AN AX (AB 0) (AB 1)) AF))))),AB 2⟩))
      (AK (CG (Ar (Jg hu) (AB 10) (Ba AD)) (AK (AO (BC (AA Ah (AA (AB 8) (AA (AN AX (AB 10) (deM AM hr (AA (AB 0) (AA (Aa Bf rfl B.len wq (AA (AB 10) AD)) AD)))) AD)))))) Ap))) Ap)
      (AH (CG (DW.dt (K9 (Ar MF (AB 7) AF) (JY (Ar Mp (AN AX (AB 1) AF) AF)))) (AH (Ak 11 (Ab Ja (Ab An (Ab An (AN AX (AN AX (AB 3) (AB 8)) AF) AF) (deM AM hr (AA (AB 0) (AA (Ab Fg (AN AX (AB 1) AF) AF) AD)))) (AN AX (AB 1) AF)) CY.nd)
      (AH (Cs [5] 1 ["_law_numbers","_law_number"] rfl CY.nd rfl rfl TB (IP rfl B.range (AA AF AD)) (λs H fp=>⟨Ag 1 SO,LF (Ar Uz (AB 1) (AB 0)),AB 1⟩))
      (AH (CG (DW.dt (K9 (Ar (B8 hu) (AB 7) AF) (JY (Ar (Jg hu) (AB 12) (Ba AD))))) (AK (AO (BC (AA Ah (AA (AN AX (AB 12) (deM AM hr (AA (AB 0) (AA (Aa Bf rfl B.len wq (AA (AB 12) AD)) AD)))) (AA (AB 8) (AA (AB 9) (AA (AB 11) (AA (deM Cm hr (AA (AB 0) AD)) AD))))))))) Ap)
      (AK (AO (BC (AA Ah (AA (AB 8) (AA (AB 9) (AA (AB 11) (AA (deM Cm hr (AA (AB 0) AD)) AD))))))))))) Ap)
      (AH (CG (Ar (B8 hu) (AB 7) AF) (AK (AO (BC (AA Ah (AA (AB 8) (AA (AB 9) AD)))))) Ap)
      (AH (CG (DW.dt (K9 (Ar (B8 hu) (AB 7) AF) (JY (Ar Mp (AN AX (AB 1) AF) AF)))) (AH (Ak 13 (deM AM hr (AA (AB 0) (AA (AN AX (AB 1) AF) AD))) CY.nd)
      (AK (AO (BC (AA Ah (AA (AB 13) (AA (Ab Ja (Ab An (Ab An (AB 13) AF) (deM AM hr (AA (AB 0) (AA (Ab Fg (AN AX (AB 1) AF) AF) AD)))) (AN AX (AB 1) AF)) (AA (deM IL hr (AA (AB 0) AD)) AD)))))))) Ap)
      (AK (AO (BC (AA Ah (AA (AB 8) (AA (AB 9) (AA (deM HE hr (AA (AB 0) (AA (Ab An (AN AX (AB 1) AF) AF) AD))) AD)))))))))))))))))
theorem Vd:AQ ["_law_one","_law_other"] ["_law_one","_law_other"] (AI Jk):=scM
theorem CS  (S:St.Src K mg "_law_plus" Jk)(BP:Gu P w K mg base):Jm P w K mg base:=by
 refine dfM 2 S Vd λhr hu=>?_
 exact(AK (AO (deM BP hr (AA (Ab An (Ab As (AN AX (AB 0) AF) (AN AX (AB 1) AF)) (Ab As (AN AX (AB 1) AF) (AN AX (AB 0) AF))) (AA (Ab As (AN AX (AB 0) AF) (AN AX (AB 1) AF)) AD)))))
theorem U3:AQ ["_law_one","_law_other"] ["_law_one","_law_other"] (AI IT):=scM
theorem Bx  (S:St.Src K mg "_law_times" IT)(BP:Gu P w K mg base):KC P w K mg base:=by
 refine dfM 2 S U3 λhr hu=>?_
 exact(AK (AO (deM BP hr (AA (Ab As (AN AX (AB 0) AF) (AN AX (AB 1) AF)) (AA (Ab As (AN AX (AB 0) AF) (AN AX (AB 1) AF)) AD)))))
theorem GS:AQ ["_law_one","_law_other","_law_found","_law_mine","_law_its","_law_both"] ["_law_one","_law_other"] (AI Hh):=scM
theorem HF  (S:St.Src K mg "_law_pooled" Hh)(B:Bts mg)(BP:Gu P w K mg base)(CS:Jm P w K mg base)(Bx:KC P w K mg base):OE P w K mg base:=by
 refine dfM 3 S GS λhr hu=>?_
 exact(AH (Ak 2 (Ba AD) GS.nd)
      (AH (Hb vk rfl (T4 rfl B.zip (AN AX (AB 0) AF) (AN AX (AB 1) AF)) (Fc rfl (AR (Ag 3 GS.nd) (AR (Ag 4 GS.nd) Bj))) (AH (Ak 5 (deM CS hr (AA (deM Bx hr (AA (BC (AA (AN AX (AB 0) AF) (AA AF AD))) (AA (AB 3) AD))) (AA (deM Bx hr (AA (BC (AA (AN AX (AB 1) AF) (AA AF AD))) (AA (AB 4) AD))) AD))) GS.nd)
      (AK (BS (L9 vx v7 KZ (AB 2) (AA (deM Bx hr (AA (AB 5) (AA (deM BP hr (AA AF (AA (Ab An (AN AX (AB 0) AF) (AN AX (AB 1) AF)) AD))) AD))) AD))))))
      (AK (AO (Av A9 rfl B.tuple vn (AA (AB 2) AD))))))
theorem MZ:AQ ["_law_train_here","_law_loads","_law_deed_here","_law_worths_here","_law_whole_here"] ["_law_train_here","_law_loads","_law_deed_here"] (AI Gn):=scM
theorem SS:AZ ["_law_train_here","_law_loads","_law_deed_here","_law_worths_here","_law_whole_here"] (AI Gn) ["_law_worths_here","_law_kind","_law_pieces_here","_law_owners"] (ixC [3] 3) (LB Gn 0):=csM
theorem KU:(["_law_worths_here","_law_kind","_law_pieces_here","_law_owners"]:Gc Str).Nodup:=by decide+kernel
theorem J1  (S:St.Src K mg "_law_cost" Gn)(B:Bts mg)(BP:Gu P w K mg base):RZ P w K mg base:=by
 refine dfM 2 S MZ λhr hu=>?_
 exact(AH (Ak 3 (AN AX (AB 2) AF) MZ.nd)
      (AH (Ak 4 (Ab An (Aa (LZ rfl) rfl B.sum boot_sum (AA (Cg [3] 3 ["_law_worths_here","_law_kind","_law_pieces_here","_law_owners"] rfl SS (CM (AB 1)) (λs H fp=>⟨Fc rfl (AR (Ag 1 KU) (AR (Ag 2 KU) (AR (Ag 3 KU) Bj))),By,Ab As (AB 2) (AN AX (AB 0) (AB 1))⟩)) AD)) (Ab As (AN AX (AB 0) AF) (AN AX (AB 3) (Oh Hk AF)))) MZ.nd)
      (AK (AO (deM BP hr (AA (Ab As (AN AX (AB 2) AF) (AN AX (AB 3) (AN AX (AN AX (AB 1) (AN AX (AB 2) AF)) AF))) (AA (AB 4) AD)))))))
end
section
open PyProof.Rows (boot_isinstance boot_int boot_bool boot_tuple boot_str boot_list boot_abs boot_all boot_any boot_sum boot_max boot_min boot_range boot_enumerate boot_zip boot_sorted boot_set boot_divmod)
variable{P:vR}{w:vi}{K:Wp}{mg:Str->uo W1}{base:ve}
theorem VP:AQ ["_law_one","_law_other"] ["_law_one","_law_other"] (AI Jo):=scM
theorem Fy  (S:St.Src K mg "_law_less" Jo)(CS:Jm P w K mg base):Nx P w K mg base:=by
 refine dfM 3 S VP λhr hu=>?_
 exact(AK (AO (deM CS hr (AA (AB 0) (AA (BC (AA (Ab Fg AF (AN AX (AB 1) AF)) (AA (AN AX (AB 1) AF) AD))) AD)))))
theorem JU:AQ ["_law_shares","_law_part","_law_owners","_law_found","_law_mine","_law_its"] ["_law_shares","_law_part","_law_owners"] (AI Iq):=scM
theorem Gg  (S:St.Src K mg "_law_borne" Iq)(B:Bts mg)(CS:Jm P w K mg base)(Bx:KC P w K mg base)(Fy:Nx P w K mg base):Py P w K mg base:=by
 refine dfM 4 S JU λhr hu=>?_
 exact(AH (Ak 3 (Ba AD) JU.nd)
      (AH (Hb vk rfl (T4 rfl B.zip (AB 0) (AB 2)) (Fc rfl (AR (Ag 4 JU.nd) (AR (Ag 5 JU.nd) Bj))) (AK (BS (L9 vx v7 KZ (AB 3) (AA (deM CS hr (AA (deM Bx hr (AA (AB 4) (AA (deM Fy hr (AA (BC (AA AF (AA AF AD))) (AA (AB 1) AD))) AD))) (AA (deM Bx hr (AA (AB 5) (AA (AB 1) AD))) AD))) AD)))))
      (AK (AO (Av A9 rfl B.tuple vn (AA (AB 3) AD))))))
theorem MN:AQ ["_law_shares","_law_deed_here","_law_found","_law_passes"] ["_law_shares","_law_deed_here"] (AI Jf):=scM
theorem Hz  (S:St.Src K mg "_law_sold" Jf)(B:Bts mg)(CS:Jm P w K mg base)(Bx:KC P w K mg base)(Fy:Nx P w K mg base):Ro P w K mg base:=by
 refine dfM 4 S MN λhr hu=>?_
 exact(AH (Ak 2 (Av Lo rfl B.list boot_list (AA (AB 0) AD)) MN.nd)
      (AH (Ak 3 (deM Bx hr (AA (AN AX (AB 2) (AN AX (AB 1) AF)) (AA (AN AX (AB 1) AF) AD))) MN.nd)
      (AH (DY (deM Fy hr (AA (AN AX (AB 2) (AN AX (AB 1) AF)) (AA (AB 3) AD))) (AB 2) (AN AX (AB 1) AF))
      (AH (DY (deM CS hr (AA (AN AX (AB 2) (AN AX (AB 1) AF)) (AA (AB 3) AD))) (AB 2) (AN AX (AB 1) AF))
      (AK (AO (Av A9 rfl B.tuple vn (AA (AB 2) AD))))))))
theorem Fi:AQ ["_law_train_here","_law_state","_law_deed_here","_law_loads","_law_holders","_law_numbers","_law_part","_law_owners","_law_load"] ["_law_train_here","_law_state","_law_deed_here"] (AI Jd):=scM
theorem Jz  (S:St.Src K mg "_law_turn" Jd)(J1:RZ P w K mg base)(Gg:Py P w K mg base)(Hz:Ro P w K mg base):Rb P w K mg base:=by
 refine dfM 5 S Fi λhr hu=>?_
 exact(AH (IH (AB 1) (Fc rfl (AR (Ag 3 Fi.nd) (AR (Ag 4 Fi.nd) (AR (Ag 5 Fi.nd) Bj)))))
      (AK (CG (Ar (B8 hu) (AN AX (AB 2) AF) Ah) (AH (OQ (i:=6) (j:=7) rfl Fi.nd rfl rfl (by decide) rfl rfl (deM J1 hr (AA (AB 0) (AA (AB 3) (AA (AB 2) AD)))) (AN AX (AN AX (AB 3) (AN AX (AB 2) AF)) AF))
      (AH (DY (Ab Fg (AN AX (AN AX (AB 3) (AN AX (AB 2) AF)) AF) (AN AX (AB 2) AF)) (AN AX (AB 3) (AN AX (AB 2) AF)) AF)
      (AH (Hb vk rfl (CM (AB 3)) (Ag 8 Fi.nd) (AK (DY (deM Gg hr (AA (AN AX (AB 8) AF) (AA (AB 6) (AA (AB 7) AD)))) (AB 8) AF)))
      (AK (DY (deM Gg hr (AA (AB 4) (AA (AB 6) (AA (AB 7) AD)))) (AB 1) AF))))) (AH (Hb vk rfl (CM (AB 3)) (Ag 8 Fi.nd) (AK (DY (deM Hz hr (AA (AN AX (AB 8) AF) (AA (AB 2) AD))) (AB 8) AF)))
      (AK (DY (deM Hz hr (AA (AB 4) (AA (AB 2) AD))) (AB 1) AF))))))
theorem FC:AQ ["_law_train_here","_law_state","_law_deed_here","_law_loads","_law_holders","_law_numbers","_law_word","_law_one","_law_other","_law_load","_law_given","_law_kind","_law_got"] ["_law_train_here","_law_state","_law_deed_here"] (AI Ka):=scM
theorem Vk:AZ ["_law_train_here","_law_state","_law_deed_here","_law_loads","_law_holders","_law_numbers","_law_word","_law_one","_law_other","_law_load","_law_given","_law_kind","_law_got"] (AI Ka) ["_law_deed_here","_law_one"] (ixC [2] 1) (LB Ka 0):=csM
theorem Va:(["_law_deed_here","_law_one"]:Gc Str).Nodup:=by decide+kernel
theorem JF  (S:St.Src K mg "_law_do" Ka)(B:Bts mg)(HF:OE P w K mg base)(Jz:Rb P w K mg base):Sl P w K mg base:=by
 refine dfM 6 S FC λhr hu=>?_
 exact(AH (IH (AB 1) (Fc rfl (AR (Ag 3 FC.nd) (AR (Ag 4 FC.nd) (AR (Ag 5 FC.nd) Bj)))))
      (AH (Ak 6 (AN AX (AB 2) AF) FC.nd)
      (AK (CG (Ar (B8 hu) (AB 6) Ah) (AK (BS (L9 vx v7 KZ (AB 3) (AA (Ba (AA (AN AX (AB 2) AF) (AA (AN AX (AB 2) AF) (AA (Av A9 rfl B.tuple vn (AA (Cg [2] 1 ["_law_deed_here","_law_one"] rfl Vk (IP rfl B.range (AA (AN AX (AB 0) AF) AD)) (λs H fp=>⟨Ag 1 Va,By,BC (AA (Av Ik rfl B.int zU (AA (Hf (B8 hu) (AB 1) (AN AX (AB 0) AF)) AD)) (AA AF AD))⟩)) AD)) AD)))) AD)))) (AK (CG (Ar (B8 hu) (AB 6) Ah) (AH (OQ (i:=7) (j:=8) rfl FC.nd rfl rfl (by decide) rfl rfl (AN AX (AB 3) (AN AX (AB 2) AF)) (AN AX (AB 3) (AN AX (AB 2) AF)))
      (AH (BS (L9 vx v7 KZ (AB 3) (AA (Ba (AA (AN AX (AB 7) AF) (AA (Ab An (AN AX (AB 7) AF) (AN AX (AB 8) AF)) (AA (deM HF hr (AA (AB 7) (AA (AB 8) AD))) AD)))) AD)))
      (AH (DY AF (AB 7) AF)
      (AK (DY AF (AB 8) AF))))) (AK (CG (Ar QI (AB 6) (BC (AA Ah (AA Ah AD)))) (AH (IH (MX (AB 2) (Oh Hk AF)) (Fc rfl (AR (Ag 9 FC.nd) (AR (Ag 10 FC.nd) (AR (Ag 11 FC.nd) (AR (Ag 12 FC.nd) Bj))))))
      (AH (DY (Ab Fg (AN AX (AN AX (AB 3) (AB 9)) AF) (AB 10)) (AN AX (AB 3) (AB 9)) AF)
      (AH (BS (L9 vx v7 KZ (AB 3) (AA (Ba (AA (AB 11) (AA (AB 12) (AA (AN AX (AN AX (AB 3) (AB 9)) AF) AD)))) AD)))
      (AK (BS (L9 zu PySem.F.type_list_extend dM (AB 5) (AA (Ab As (gu (AB 2) AF AF) (Av Ik rfl B.int zU (AA (Hf (B8 hu) (AB 6) Ah) AD))) AD))))))) (AK (CG (Ar (B8 hu) (AB 6) Ah) (AK (DY (Ab Fg (AN AX (AN AX (AB 3) (AN AX (AB 2) AF)) AF) (AN AX (AB 2) AF)) (AN AX (AB 3) (AN AX (AB 2) AF)) AF)) (AK (BS (deM Jz hr (AA (AB 0) (AA (AB 1) (AA (AB 2) AD))))))))))))))))
theorem Gq:AQ ["_law_pen_here","_law_most","_law_train_here","_law_first_here","_law_state","_law_deeds","_law_k","_law_deed_here"] ["_law_pen_here","_law_most"] (AI Gk):=scM
theorem SM:AZ ["_law_pen_here","_law_most","_law_train_here","_law_first_here","_law_state","_law_deeds","_law_k","_law_deed_here"] (AI Gk) ["_law_one"] (ixC [] 1) (LB Gk 0):=csM
theorem TF:(["_law_one"]:Gc Str).Nodup:=by decide+kernel
theorem Jy  (S:St.Src K mg "_law_book" Gk)(B:Bts mg)(AM:Cr P w K mg base)(IS:QW P w K mg base)(IF:Ph P w K mg base)(EN:MY P w K mg base)(J3:RQ P w K mg base)(JF:Sl P w K mg base):Rl P w K mg base:=by
 refine dfM 7 S Gq λhr hu=>?_
 exact(AH (Ak 2 (deM IS hr (AA (AB 0) AD)) Gq.nd)
      (AH (Ak 3 (deM IF hr (AA (AB 0) (AA (AB 2) AD))) Gq.nd)
      (AH (OQ (i:=4) (j:=5) rfl Gq.nd rfl rfl (by decide) rfl rfl (deM EN hr (AA (BC (AA (AB 2) (AA (AB 3) (AA (BC AD) AD)))) AD)) (Ba AD))
      (AH (Hb vk rfl (IP rfl B.range (AA (deM AM hr (AA (AB 0) (AA (Ab An (AB 1) AF) AD))) AD)) (Ag 6 Gq.nd) (AH (Ak 7 (deM J3 hr (AA (AB 0) (AA (AB 2) (AA (AB 4) AD)))) Gq.nd)
      (AK (CG (DW.dt (Um (Ar (Jg hu) (AN AX (AB 7) AF) Ah) (OK (Ar MF (Aa Bf rfl B.len wq (AA (Cg [] 1 ["_law_one"] rfl SM (CM (AB 5)) (λs H fp=>⟨Ag 0 TF,LF (Ar (B8 hu) (AN AX (AB 0) AF) Ah),AB 0⟩)) AD)) AF)))) (AH (BS (deM JF hr (AA (AB 2) (AA (AB 4) (AA (AB 7) AD)))))
      (AK (BS (L9 vx v7 KZ (AB 5) (AA (AB 7) AD))))) Ap))))
      (AK (AO (BC (AA (AB 2) (AA (AB 3) (AA (Av A9 rfl B.tuple vn (AA (AB 5) AD)) AD))))))))))
end
section
open PyProof.Rows (boot_isinstance boot_int boot_bool boot_tuple boot_str boot_list boot_abs boot_all boot_any boot_sum boot_max boot_min boot_range boot_enumerate boot_zip boot_sorted boot_set boot_divmod)
variable{P:vR}{w:vi}{K:Wp}{mg:Str->uo W1}{base:ve}
theorem Ky:AQ ["_law_pen_here","_law_deep","_law_way","_law_parts"] ["_law_pen_here","_law_deep"] (AI Fe):=scM
theorem Qr:AZ ["_law_pen_here","_law_deep","_law_way","_law_parts"] (AI Fe) ["_law_pen_here","_law_deep","_law_k"] (ixC [0,1] 1) (LB Fe 0):=csM
theorem Qn:(["_law_pen_here","_law_deep","_law_k"]:Gc Str).Nodup:=by decide+kernel
theorem Bk  (S:St.Src K mg "_law_thing" Fe)(B:Bts mg)(AM:Cr P w K mg base):∀n:Nat,n<=8->St.Dfn P w K mg base "_law_thing" (2+n) ["_law_pen_here","_law_deep"] (spD K 2 (Am n))
 |0,_=>V4 S (λf fd F=>F.binds λ_ _ _ _ _ _ us hl=>match us,hl with| [_,_],_=>rfl)
 |n+1,hn=>by
  have Bk:=Bk S B AM n (by omega)
  refine dfM (2+n) S Ky λhr hu=>?_
  exact(AH (Ak 2 (deM AM hr (AA (AB 0) (AA AF AD))) Ky.nd)
   (AH (CG (DW.dt (Um (Ar MF (AB 2) AF) (OK (Ar (B8 hu) (AB 1) AF)))) (AK (AO (AN AX (Ba (AA RT (AA MS (AA MS (AA AF (AA AF (AA (Oh Hk AF) (AA AF (AA (Ab VC AF AF) (AA Ah (AA Ah (AA (BC AD) (AA (Ba AD) AD))))))))))))) (deM AM hr (AA (AB 0) (AA AF AD)))))) Ap)
   (AH (Cs [0,1] 1 ["_law_pen_here","_law_deep","_law_k"] rfl Ky.nd rfl rfl Qr (IP rfl B.range (AA (deM AM hr (AA (AB 0) (AA AF AD))) AD)) (λs H fp=>⟨Ag 2 Qn,By,deM Bk hr (AA (AB 0) (AA (Ab Fg (AB 1) AF) AD))⟩))
   (AH (CG (Ar (B8 hu) (AB 2) AF) (AK (AO (AB 3))) Ap)
   (AH (CG (Ar (B8 hu) (AB 2) AF) (AK (AO (jN (Zt Ah (AB 3) gL) (List.cons_ne_nil _ _) (by decide)))) Ap)
   (AK (AO (Av A9 rfl B.tuple vn (AA (AB 3) AD)))))))))
theorem Sq:AQ ["_law_pen_here","_law_many"] ["_law_pen_here","_law_many"] (AI Ed):=scM
theorem QH:AZ ["_law_pen_here","_law_many"] (AI Ed) ["_law_pen_here","_law_one"] (ixC [0] 1) (LB Ed 0):=csM
theorem QK:(["_law_pen_here","_law_one"]:Gc Str).Nodup:=by decide+kernel
theorem Fv  (S:St.Src K mg "_law_prices" Ed)(B:Bts mg)(AM:Cr P w K mg base):OL P w K mg base:=by
 refine dfM 1 S Sq λhr hu=>?_
 exact(AK (AO (Av A9 rfl B.tuple vn (AA (Cg [0] 1 ["_law_pen_here","_law_one"] rfl QH (IP rfl B.range (AA (AB 1) AD)) (λs H fp=>⟨Ag 1 QK,By,Ab An AF (AN AX (Ba (AA (deM AM hr (AA (AB 0) (AA AF AD))) (AA (deM AM hr (AA (AB 0) (AA AF AD))) AD))) (deM AM hr (AA (AB 0) (AA AF AD))))⟩)) AD))))
theorem KS:AQ ["_law_pen_here","_law_thing_here","_law_at","_law_way"] ["_law_pen_here","_law_thing_here"] (AI HM):=scM
theorem C4  (S:St.Src K mg "_law_spoilt" HM)(B:Bts mg)(AM:Cr P w K mg base)(Bk:P5 P w K mg base 8):∀n:Nat,n<=8->St.Dfn P w K mg base "_law_spoilt" (11+n) ["_law_pen_here","_law_thing_here"] (spD K 2 (B4 n))
 |0,_=>V4 S (λf fd F=>F.binds λ_ _ _ _ _ _ us hl=>match us,hl with| [_,_],_=>rfl)
 |n+1,hn=>by
  have C4:=C4 S B AM Bk n (by omega)
  refine dfM (11+n) S KS λhr hu=>?_
  exact(AH (CG (DW.dt (K9 (Ep (Aa C7 rfl B.isi wI (AA (AB 1) (AA (Mj rfl B.tuple vn) AD)))) (K9 (Ar (Jg hu) (AB 1) (BC AD)) (JY (Ar Mp (deM AM hr (AA (AB 0) (AA AF AD))) AF))))) (AH (Ak 2 (deM AM hr (AA (AB 0) (AA (Aa Bf rfl B.len wq (AA (AB 1) AD)) AD))) KS.nd)
   (AK (AO (Ab An (Ab An (J4 (AB 1) (AB 2)) (BC (AA (deM C4 hr (AA (AB 0) (AA (AN AX (AB 1) (AB 2)) AD))) AD))) (MX (AB 1) (Ab An (AB 2) AF)))))) Ap)
   (AH (Ak 3 (deM AM hr (AA (AB 0) (AA AF AD))) KS.nd)
   (AH (CG (DW.dt (K9 (Ep (Aa C7 rfl B.isi wI (AA (AB 1) (AA (Mj rfl B.tuple vn) AD)))) (JY (Ar MF (AB 3) AF)))) (AK (AO (AN AX (Ba (AA (Ab An (AB 1) (MX (AB 1) (Oh Hk AF))) (AA (J4 (AB 1) (Oh Hk AF)) (AA (Av Lo rfl B.list boot_list (AA (AB 1) AD)) (AA (ji (AB 1)) AD))))) (AB 3)))) Ap)
   (AH (CG (DW.dt (K9 (Ep (Aa C7 rfl B.isi wI (AA (AB 1) (AA (Mj rfl B.int zU) AD)))) (JY (Ar MF (AB 3) AF)))) (AK (AO (AN AX (Ba (AA (Ab An (AB 1) AF) (AA (Ab Fg (AB 1) AF) (AA (Hf Mp (AB 1) AF) (AA (Av Yo rfl B.str boot_str (AA (AB 1) AD)) AD))))) (AB 3)))) Ap)
   (AH (CG (DW.dt (K9 (Ep (Aa C7 rfl B.isi wI (AA (AB 1) (AA (Mj rfl B.str boot_str) AD)))) (JY (Ar MF (AB 3) AF)))) (AK (AO (AN AX (Ba (AA (Ab An (AB 1) Ah) (AA (cA (AB 1)) (AA (J4 (AB 1) (Oh Hk AF)) (AA (Ab An Ah (AB 1)) AD))))) (AB 3)))) Ap)
   (AK (AO (deM Bk hr (AA (AB 0) (AA AF AD))))))))))
theorem UP:AQ ["_law_thing_here","_law_many"] ["_law_thing_here","_law_many"] (AI Iu):=scM
theorem CU  (S:St.Src K mg "_law_is_in" Iu)(B:Bts mg):KR P w K mg base:=by
 refine dfM 0 S UP λhr hu=>?_
 exact(AK (AO (Hn (Aa C7 rfl B.isi wI (AA (AB 0) (AA (Mj rfl B.int zU) AD))) (Hn (WT (Aa C7 rfl B.isi wI (AA (AB 0) (AA (Mj rfl B.bool boot_bool) AD)))) (JO (eX AF (AB 0) (AB 1)))))))
theorem Hw:AQ ["_law_book_here","_law_state","_law_found","_law_deed_here"] ["_law_book_here"] (AI DF):=scM
theorem P2:AZ ["_law_book_here","_law_state","_law_found","_law_deed_here"] (AI DF) ["_law_load"] (ixC [] 1) (LB DF 0):=csM
theorem PH:(["_law_load"]:Gc Str).Nodup:=by decide+kernel
theorem Pt:AZ ["_law_book_here","_law_state","_law_found","_law_deed_here"] (AI DF) ["_law_load"] (ixC [] 1) (LB DF 1):=csM
theorem QE:(["_law_load"]:Gc Str).Nodup:=by decide+kernel
theorem HG  (S:St.Src K mg "_law_states" DF)(B:Bts mg)(EN:MY P w K mg base)(JF:Sl P w K mg base):N8 P w K mg base:=by
 refine dfM 7 S Hw λhr hu=>?_
 exact(AH (Ak 1 (deM EN hr (AA (AB 0) AD)) Hw.nd)
      (AH (Ak 2 (Ba (AA (BC (AA (Cg [] 1 ["_law_load"] rfl P2 (CM (AN AX (AB 1) AF)) (λs H fp=>⟨Ag 0 PH,By,Av A9 rfl B.tuple vn (AA (AB 0) AD)⟩)) (AA (Av A9 rfl B.tuple vn (AA (AN AX (AB 1) AF) AD)) AD))) AD)) Hw.nd)
      (AH (Hb vk rfl (CM (AN AX (AB 0) AF)) (Ag 3 Hw.nd) (AH (BS (deM JF hr (AA (AN AX (AB 0) AF) (AA (AB 1) (AA (AB 3) AD)))))
      (AK (BS (L9 vx v7 KZ (AB 2) (AA (BC (AA (Cg [] 1 ["_law_load"] rfl Pt (CM (AN AX (AB 1) AF)) (λs H fp=>⟨Ag 0 QE,By,Av A9 rfl B.tuple vn (AA (AB 0) AD)⟩)) (AA (Av A9 rfl B.tuple vn (AA (AN AX (AB 1) AF) AD)) AD))) AD))))))
      (AK (AO (AB 2))))))
theorem NS:AQ ["_law_thing_here","_law_many"] ["_law_thing_here","_law_many"] (AI CZ):=scM
theorem MU:AZ ["_law_thing_here","_law_many"] (AI CZ) ["_law_one"] (ixC [] 1) (LB CZ 0):=csM
theorem Mf:(["_law_one"]:Gc Str).Nodup:=by decide+kernel
theorem C1  (S:St.Src K mg "_law_are_prices" CZ)(B:Bts mg)(CU:KR P w K mg base):Kq P w K mg base:=by
 refine dfM 1 S NS λhr hu=>?_
 exact(AH (CG (DW.dt (Um (F5 (Ep (Aa C7 rfl B.isi wI (AA (AB 0) (AA (Mj rfl B.tuple vn) AD))))) (OK (Ar (Jg hu) (Aa Bf rfl B.len wq (AA (AB 0) AD)) (AB 1))))) (AK (AO MS)) Ap)
      (AK (AO (Aa (Jn rfl) rfl B.all ABl (AA (Cg [] 1 ["_law_one"] rfl MU (CM (AB 0)) (λs H fp=>⟨Ag 0 Mf,By,Hn (deM CU hr (AA (AB 0) (AA AF AD))) (JO (Hf Mp (AB 0) AF))⟩)) AD)))))
end
section
open PyProof.Rows (boot_isinstance boot_int boot_bool boot_tuple boot_str boot_list boot_abs boot_all boot_any boot_sum boot_max boot_min boot_range boot_enumerate boot_zip boot_sorted boot_set boot_divmod)
variable{P:vR}{w:vi}{K:Wp}{mg:Str->uo W1}{base:ve}
theorem B3:AQ ["_law_book_here","_law_partner","_law_load","_law_ahead","_law_later","_law_due","_law_loads","_law_last","_law_fit"] ["_law_book_here","_law_partner","_law_load","_law_ahead","_law_later"] (AI Az):=scM
theorem Ks:KP ["_law_book_here","_law_partner","_law_load","_law_ahead","_law_later","_law_due","_law_loads","_law_last","_law_fit"] (AI Az) ["_law_book_here","_law_partner"] [0,1] (nR Az 0):=lsM
theorem Kr:KP ["_law_book_here","_law_partner","_law_load","_law_ahead","_law_later","_law_due","_law_loads","_law_last","_law_fit"] (AI Az) ["_law_book_here","_law_partner","_law_load"] [0,1,2] (nR Az 1):=lsM
theorem Kt:KP ["_law_book_here","_law_partner","_law_load","_law_ahead","_law_later","_law_due","_law_loads","_law_last","_law_fit"] (AI Az) ["_law_book_here","_law_partner","_law_ahead","_law_later"] [0,1,3,4] (nR Az 2):=lsM
theorem Bl  (S:St.Src K mg "_law_partner_right" Az)(bm:BmB mg base)(S_law_why:St.Src K mg "_law_why" Iy)(B:Bts mg)(Ju:RY P w K mg base)(FK:MG P w K mg base)(HP:OZ P w K mg base)(CU:KR P w K mg base)(HG:N8 P w K mg base)(C1:Kq P w K mg base)(FX:XmD K mg ["NoPartner","NoLoad","NoPrices","NoOrder"] "NoLoad")(D9:XmD K mg ["NoPartner","NoLoad","NoPrices","NoOrder"] "NoOrder")(CT:XmD K mg ["NoPartner","NoLoad","NoPrices","NoOrder"] "NoPartner")(Cz:XmD K mg ["NoPartner","NoLoad","NoPrices","NoOrder"] "NoPrices")(Je:R8 P w K mg base)(FJ:MD P w K mg base)(Hi:OW P w K mg base):IJ P w K mg base:=by
 refine dfL 14 S B3 λci hr hu=>?_
 exact(AH (Ak 5 (AN AX (Ba (AA Ah (AA Ah AD))) (Av Ik rfl B.int zU (AA (deM CU hr (AA (AB 1) (AA (AN AX (AN AX (AB 0) AF) AF) AD))) AD))) B3.nd)
      (AH (CG (Ar (Jg hu) (WU (k:=10) S_law_why Lp Ks ci bm (hr.mono (by decide)) rfl (λf c' clos A outer s H hr=>(deM HP hr (AA (AB 0) (AA (AB 1) AD)))) (λf c' clos A outer s H hr=>(Iw Hi (hr.mono (by decide)) rfl (AA (AB 0) (AA (AB 1) AD)))) (λ_ _ _ _ _ _=>(E8 CT rfl (λ_=>AK (AO Ah)) (E8 FX rfl (λ_=>AK (AO Ah)) (E8 Cz rfl (λ_=>AK (AO Ah)) (E8 D9 rfl (λ_=>AK (AO Ah)) V9))))) (λ_ _ _ _ _ _=>Ah)) (AB 5)) (AK (AO MS)) Ap)
      (AH (Ak 6 (Aa Bf rfl B.len wq (AA (AN AX (AN AX (deM HG hr (AA (AB 0) AD)) (Oh Hk AF)) AF) AD)) B3.nd)
      (AH (Ak 7 (AN AX (Ba (AA (AB 5) (AA Ah AD))) (Av Ik rfl B.int zU (AA (Hn (Hf (B8 hu) (AB 5) Ah) (JO (WT (deM CU hr (AA (AB 2) (AA (AB 6) AD)))))) AD))) B3.nd)
      (AH (CG (Ar (Jg hu) (WU (k:=10) S_law_why Lp Kr ci bm (hr.mono (by decide)) rfl (λf c' clos A outer s H hr=>(deM Ju hr (AA (AB 0) (AA (AB 1) (AA (AB 2) AD))))) (λf c' clos A outer s H hr=>(Iw Je (hr.mono (by decide)) rfl (AA (AB 0) (AA (AB 1) (AA (AB 2) AD))))) (λ_ _ _ _ _ _=>(E8 CT rfl (λ_=>AK (AO Ah)) (E8 FX rfl (λ_=>AK (AO Ah)) (E8 Cz rfl (λ_=>AK (AO Ah)) (E8 D9 rfl (λ_=>AK (AO Ah)) V9))))) (λ_ _ _ _ _ _=>Ah)) (AB 7)) (AK (AO MS)) Ap)
      (AH (Ak 8 (Hn (deM C1 hr (AA (AB 3) (AA (AN AX (AN AX (AB 0) AF) AF) AD))) (JO (deM C1 hr (AA (AB 4) (AA (AN AX (AN AX (AB 0) AF) AF) AD))))) B3.nd)
      (AH (Ak 7 (AN AX (Ba (AA (AB 5) (AA Ah AD))) (Av Ik rfl B.int zU (AA (Hn (Hf (B8 hu) (AB 5) Ah) (JO (WT (AB 8)))) AD))) B3.nd)
      (AK (AO (Hf (B8 hu) (WU (k:=11) S_law_why Lp Kt ci bm (hr.mono (by decide)) rfl (λf c' clos A outer s H hr=>(deM FK hr (AA (AB 0) (AA (AB 1) (AA (AB 2) (AA (AB 3) AD)))))) (λf c' clos A outer s H hr=>(Iw FJ (hr.mono (by decide)) rfl (AA (AB 0) (AA (AB 1) (AA (AB 2) (AA (AB 3) AD)))))) (λ_ _ _ _ _ _=>(E8 CT rfl (λ_=>AK (AO Ah)) (E8 FX rfl (λ_=>AK (AO Ah)) (E8 Cz rfl (λ_=>AK (AO Ah)) (E8 D9 rfl (λ_=>AK (AO Ah)) V9))))) (λ_ _ _ _ _ _=>Ah)) (AB 7)))))))))))
theorem Pl:AQ ["_law_thing_here","_law_many"] ["_law_thing_here","_law_many"] (AI DK):=scM
theorem Nf:AZ ["_law_thing_here","_law_many"] (AI DK) ["_law_many","_law_one"] (ixC [1] 1) (LB DK 0):=csM
theorem Np:(["_law_many","_law_one"]:Gc Str).Nodup:=by decide+kernel
theorem FP  (S:St.Src K mg "_law_is_order" DK)(B:Bts mg)(CU:KR P w K mg base):MC P w K mg base:=by
 refine dfM 1 S Pl λhr hu=>?_
 exact(AH (CG (DW.dt (Um (F5 (Ep (Aa C7 rfl B.isi wI (AA (AB 0) (AA (Mj rfl B.tuple vn) AD))))) (OK (F5 (Ep (Aa (Jn rfl) rfl B.all ABl (AA (Cg [1] 1 ["_law_many","_law_one"] rfl Nf (CM (AB 0)) (λs H fp=>⟨Ag 1 Np,By,deM CU hr (AA (AB 1) (AA (AB 0) AD))⟩)) AD))))))) (AK (AO MS)) Ap)
      (AK (AO (Hf (B8 hu) (eE rfl rfl B.len rfl B.set (AA (AB 0) AD)) (Aa Bf rfl B.len wq (AA (AB 0) AD))))))
theorem EH:AQ ["_law_script","_law_pen_here","_law_book_here","_law_many","_law_kinds","_law_turn_here","_law_partner","_law_load","_law_prices_here","_law_ahead","_law_later","_law_orders","_law_order","_law_due"] ["_law_script"] (AI JX):=scM
theorem XW:AZ ["_law_script","_law_pen_here","_law_book_here","_law_many","_law_kinds","_law_turn_here","_law_partner","_law_load","_law_prices_here","_law_ahead","_law_later","_law_orders","_law_order","_law_due"] (AI JX) ["_law_pen_here","_law_many","_law_turn_here"] (ixC [1,3] 1) (LB JX 0):=csM
theorem W8:(["_law_pen_here","_law_many","_law_turn_here"]:Gc Str).Nodup:=by decide+kernel
theorem XH:KP ["_law_script","_law_pen_here","_law_book_here","_law_many","_law_kinds","_law_turn_here","_law_partner","_law_load","_law_prices_here","_law_ahead","_law_later","_law_orders","_law_order","_law_due"] (AI JX) ["_law_book_here","_law_order"] [2,12] (nR JX 0):=lsM
end
theorem nr{α:Sort _}{a b:α}(h:a=b):a=b:=h
@[simp high] theorem Bt{α β:Type}(a:α)(f:α->Option β):(some a).bind f=f a:=Eq.mp (congrArg (λz=>z=f a) rfl) (Eq.refl (f a))
@[simp high] theorem pG{α β:Type}(a:α)(f:α->β):(some a).map f=some (f a):=Eq.mp (congrArg (λz=>z=some (f a)) rfl) (Eq.refl (some (f a)))
section
variable{E:En}{S:Sto}{op:OpN}{f g c:Ev}{d:D}{i:Nat}{w:Wv}{a b e h r':D}{r:Gc D}{fs:Gc Ev}
@[simp] theorem ug{o:Option D}{E:En}:at? (o::E) 0=o:=nr rfl
@[simp] theorem uV{o:Option D}{E:En}{i:Nat}:at? (o::E) (i+1)=at? E i:=nr rfl
@[simp] theorem rh:eC d E S=some (d,S):=nr rfl
@[simp] theorem qc:eV i E S=(at? E i).map λd=>(d,S):=nr rfl
@[simp] theorem dU:evs [] E S=some ([],S):=nr rfl
@[simp] theorem FV:evs (f::fs) E S=(f E S).bind λr=>(evs fs E r.2).map λq=>(r.1::q.1,q.2):=nr rfl
@[simp] theorem Xe{cf:Bool}:Tt cf op fs E S=(evs fs E S).bind λr=>(op (r.1.map (dr r.2))).bind λw=>fin cf w r.2:=nr rfl
@[simp] theorem sJ{cf:Bool}:fin cf (.val d) S=some (d,S):=by cases cf<;>rfl
@[simp] theorem uM:fin false (.own r) S=some (.lst r,S):=nr rfl
@[simp] theorem sX:fin true (.own r) S=some (.ref S.length,S++[.lst r]):=nr rfl
@[simp] theorem rX:dr S .non=.val .non:=nr rfl
@[simp] theorem tH{b:Bool}:dr S (.bl b)=.val (.bl b):=nr rfl
@[simp] theorem qk{i:Int}:dr S (.int i)=.val (.int i):=nr rfl
@[simp] theorem rM{x:Str}:dr S (.str x)=.val (.str x):=nr rfl
@[simp] theorem tJ{x:String}:dr S (.ty x)=.val (.ty x):=nr rfl
@[simp] theorem qu:dr S (.tup r)=.val (.tup r):=nr rfl
@[simp] theorem qr:dr S (.lst r)=.val (.lst r):=nr rfl
@[simp] theorem rG{ns:List Int}:dr S (.scr ns)=.val (.scr ns):=nr rfl
@[simp] theorem qp{ns:List (Key×D)}:dr S (.dct ns)=.val (.dct ns):=nr rfl
theorem Bb{n:Nat}(h:S[n]?=Fk (.lst r)):dr S (.ref n)=.own r:=by
 show(match S[n]? with|some (.lst ds)=>Wv.own ds|_=>.val (.ref n))=_
 rw[h]
theorem AY{n:Nat}(h:S[n]?=Fk (.lst r)):GY S n=Fk r:=by
 unfold GY
 rw[h]
@[simp] theorem qV:fz (.val d)=d:=nr rfl
noncomputable def og(g:Ev)(E:En)(r:D×Sto):uo (D×Sto):=match r.1 with| .bl true=>g E r.2| .bl false=>Fk (.bl false,r.2)|_=>uk
noncomputable def orK(g:Ev)(E:En)(r:D×Sto):uo (D×Sto):=match r.1 with| .bl false=>g E r.2| .bl true=>Fk (.bl true,r.2)|_=>uk
noncomputable def qY(r:D×Sto):uo (D×Sto):=match r.1 with| .bl b=>Fk (.bl (!b),r.2)|_=>uk
noncomputable def ifK(f g:Ev)(E:En)(r:D×Sto):uo (D×Sto):=match r.1 with| .bl true=>f E r.2| .bl false=>g E r.2|_=>uk
@[simp] theorem rA:og g E (.bl true,S)=g E S:=nr rfl
@[simp] theorem rF:og g E (.bl false,S)=some (.bl false,S):=nr rfl
@[simp] theorem tq:orK g E (.bl false,S)=g E S:=nr rfl
@[simp] theorem sN:orK g E (.bl true,S)=some (.bl true,S):=nr rfl
@[simp] theorem qi{b:Bool}:qY (.bl b,S)=some (.bl (!b),S):=nr rfl
@[simp] theorem uE:ifK f g E (.bl true,S)=f E S:=nr rfl
@[simp] theorem tW:ifK f g E (.bl false,S)=g E S:=nr rfl
@[simp] theorem mQ:Iz f g E S=(f E S).bind (og g E):=nr rfl
@[simp] theorem Ve:eOr f g E S=(f E S).bind (orK g E):=nr rfl
@[simp] theorem lV:L4 f E S=(f E S).bind qY:=nr rfl
@[simp] theorem qJ:eIf c f g E S=(c E S).bind (ifK f g E):=nr rfl
@[simp] theorem lX:Cw fs E S=(evs fs E S).bind λr=>if r.1.length<=sizeLine then some (.tup r.1,r.2)else none:=nr rfl
@[simp] theorem m9{cf:Bool}:Z3 cf fs E S=(evs fs E S).bind λr=>if r.1.length<=sizeLine then fin cf (.own r.1) r.2 else none:=nr rfl
@[simp] theorem kW{F:Fn}:AJ F fs E S=(evs fs E S).bind λr=>F r.1 r.2:=nr rfl
noncomputable def q8(op:Mo)(fs:Gc Ev)(E:En)(r:D×Sto):uo (D×Sto):=match r.1 with
 | .ref n=>(GY r.2 n).bind λ_=>(evs fs E r.2).bind λp=>(GY p.2 n).bind λds=>(op p.2 ds p.1).map λq=>(q.1,p.2.set n (.lst q.2))
 |_=>uk
@[simp] theorem mX{op:Mo}{n:Nat}:q8 op fs E (.ref n,S)=(GY S n).bind λ_=>(evs fs E S).bind λp=>(GY p.2 n).bind λds=>(op p.2 ds p.1).map λq=>(q.1,p.2.set n (.lst q.2)):=nr rfl
@[simp] theorem lL{op:Mo}:RC op f fs E S=(f E S).bind (q8 op fs E):=nr rfl
@[simp] theorem mv:R7 S r [d]=if r.length<sizeLine then some (.non,r++[d])else none:=nr rfl
variable{x y:Ex}
noncomputable def iE(y:Ex)(r:Fl×En×Sto):uo (Fl×En×Sto):=match r.1 with| .nx=>y r.2.1 r.2.2| .ret w=>Fk (.ret w,r.2)
noncomputable def pK(x y:Ex)(E:En)(r:D×Sto):uo (Fl×En×Sto):=match r.1 with| .bl true=>x E r.2| .bl false=>y E r.2|_=>uk
@[simp] theorem ZF:iE y (.nx,E,S)=y E S:=nr rfl
@[simp] theorem lY{w:D}:iE y (.ret w,E,S)=some (.ret w,E,S):=nr rfl
@[simp] theorem qw:pK x y E (.bl true,S)=x E S:=nr rfl
@[simp] theorem qW:pK x y E (.bl false,S)=y E S:=nr rfl
@[simp] theorem Wb:Ad x y E S=(x E S).bind (iE y):=nr rfl
@[simp] theorem mR:EI E S=some (.nx,E,S):=nr rfl
@[simp] theorem YG:xIf c x y E S=(c E S).bind (pK x y E):=nr rfl
@[simp] theorem nG:BE f E S=(f E S).map λr=>(.ret r.1,E,r.2):=nr rfl
@[simp] theorem a9:Bs i f E S=(f E S).map λr=>(.nx,E.set i (some r.1),r.2):=nr rfl
@[simp] theorem Zl:Ci f E S=(f E S).map λr=>(.nx,E,r.2):=nr rfl
noncomputable def rL(d b:D)(E:En)(i:D×Sto):uo (Fl×En×Sto):=match b,i.1 with
 | .ref n,.int j=>(GY i.2 n).bind λds=>(ixN ds.length j).map λm=>(.nx,E,i.2.set n (.lst (ds.set m d)))
 |_,_=>uk
@[simp] theorem nO{n:Nat}{j:Int}:rL d (.ref n) E (.int j,S)=(GY S n).bind λds=>(ixN ds.length j).map λm=>(.nx,E,S.set n (.lst (ds.set m d))):=nr rfl
@[simp] theorem nJ{k o:Ev}:RU k f o E S=(k E S).bind λr=>(f E r.2).bind λb=>(o E b.2).bind (rL r.1 b.1 E):=nr rfl
@[simp] theorem aH{t:Tf}:Rv t f E S=(f E S).bind λr=>(t r.1 E r.2).map λE'=>(.nx,E',r.2):=nr rfl
@[simp] theorem mW{i j:Nat}:WO i j f g E S=(f E S).bind λr=>(g E r.2).map λq=>(.nx,(E.set i (some r.1)).set j (some q.1),q.2):=by
  unfold WO
  rw[FV]
  cases f E S with
  |none=>rfl
  |some r=>
   rw[Bt,Bt,FV]
   cases g E r.2 with
   |none=>rfl
   |some q=>rfl
@[simp] theorem fV:tNm i d E S=some (E.set i (some d)):=nr rfl
@[simp] theorem qI{ts:List Tf}{ds:List D}:tTp ts (.tup ds) E S=tMs ts ds E S:=nr rfl
@[simp] theorem pN{ts:List Tf}{ds:List D}:tTp ts (.lst ds) E S=tMs ts ds E S:=nr rfl
@[simp] theorem pS{ts:List Tf}{n:Nat}:tTp ts (.ref n) E S=(GY S n).bind λds=>tMs ts ds E S:=nr rfl
@[simp] theorem nj:tMs [] [] E S=some E:=nr rfl
@[simp] theorem mE{t:Tf}{ts:List Tf}{ds:List D}:tMs (t::ts) (d::ds) E S=(t d E S).bind λE1=>tMs ts ds E1 S:=nr rfl
@[simp] theorem lE{N:Nat}{ds:List D}:Ao (A5 N x) ds S=(x (ds.map some++List.replicate (N-ds.length) none) S).map λr=>(flD r.1,r.2.2):=by rw[Pm];rfl
@[simp] theorem rf:flD .nx=.non:=nr rfl
@[simp] theorem qF:flD (.ret d)=d:=nr rfl
@[simp] theorem oC{i j:Int}:EA (.val (.int i)) (.val (.int j))=some (.val (.int (i+j))):=nr rfl
@[simp] theorem qC{xs ys:List D}:EA (.val (.tup xs)) (.val (.tup ys))=if xs.length+ys.length<=sizeLine then some (.val (.tup (xs++ys)))else none:=nr rfl
@[simp] theorem pY{xs ys:List D}:EA (.val (.lst xs)) (.val (.lst ys))=if xs.length+ys.length<=sizeLine then some (.own (xs++ys))else none:=nr rfl
@[simp] theorem mZ{i j:Int}:B7 (.val (.int i)) (.val (.int j))=if FF i j=true then some (.val (.int (i*j)))else none:=nr rfl
@[simp] theorem SG{k:Int}:B7 (.val (.tup r)) (.val (.int k))=if(!r.isEmpty && decide (k<=0) && decide (-(2^63)<=k))=true then some (.val (.tup []))else if(!r.isEmpty && decide (1<=k) && decide (r.length*k.toNat<=sizeLine))=true then some (.val (.tup (List.replicate k.toNat r).flatten))else none:=nr rfl
@[simp] theorem Vs{k:Int}:B7 (.val (.lst r)) (.val (.int k))=if(decide (k<2^63) && decide (-(2^63)<=k) && decide (r.length*k.toNat<=sizeLine))=true then some (.own (List.replicate k.toNat r).flatten)else none:=nr rfl
@[simp] theorem pz:asS (.own r)=some r:=nr rfl
@[simp] theorem pX:asS (.val (.lst r))=some r:=nr rfl
@[simp] theorem qH:asS (.val (.tup r))=some r:=nr rfl
@[simp] theorem oH{ns:List Int}:asS (.val (.scr ns))=some (ns.map .int):=nr rfl
@[simp] theorem eT{j:Int}:wIx w (.val (.int j))=(asS w).bind λds=>(atI ds j).map .val:=nr rfl
theorem Fq{α:Type}{xs:Gc α}{n:Nat}{x:α}(h:xs[n]?=Fk x):atI xs (n:Int)=Fk x:=ff h
theorem cS{α:Type}{xs:Gc α}{i:Int}(h0:0<=i)(h1:i<xs.length):atI xs i=Fk (xs[i.toNat]'(by lia)):=by
 have:atI xs ((i.toNat:Nat):Int)=Fk (xs[i.toNat]'(by lia)):=Fq (ux (by lia))
 rwa [wD h0]at this
@[simp] theorem sC:atI (a::r) 0=some a:=Fq (n:=0) rfl
@[simp] theorem tU:atI (a::b::r) 1=some b:=Fq (n:=1) rfl
@[simp] theorem uG:atI (a::b::e::r) 2=some e:=Fq (n:=2) rfl
@[simp] theorem uQ:atI (a::b::e::h::r) 3=some h:=Fq (n:=3) rfl
@[simp] theorem rz{k:D}:atI (a::b::e::h::k::r) 4=some k:=Fq (n:=4) rfl
@[simp] theorem sf{k l:D}:atI (a::b::e::h::k::l::r) 5=some l:=Fq (n:=5) rfl
theorem QA{n k:Nat}(h:k<n):ixN n (k:Int)=Fk k:=by
 unfold ixN
 simp
 lia
theorem Wl{n:Nat}{i:Int}(h0:0<=i)(h1:i<n):ixN n i=Fk i.toNat:=by
 have:=QA (n:=n) (k:=i.toNat) (by lia)
 rwa [wD h0]at this
@[simp] theorem sQ{n:Nat}:ixN (n+1) 0=some 0:=Wl (by decide) (by lia)
@[simp] theorem si{n:Nat}:ixN (n+2) 1=some 1:=Wl (by decide) (by lia)
@[simp] theorem sD{n:Nat}:ixN (n+3) 2=some 2:=Wl (by decide) (by lia)
@[simp] theorem rB{i j:Int}:deq (.int i) (.int j)=(i==j):=nr rfl
@[simp] theorem nS{i j:Int}:VZ (.int i) (.int j)=true:=nr rfl
@[simp] theorem pk{w':Wv}:wEq w w'=if VZ (fz w) (fz w')=true then some (.val (.bl (deq (fz w) (fz w'))))else none:=nr rfl
@[simp] theorem pQ{w':Wv}:wNe w w'=if VZ (fz w) (fz w')=true then some (.val (.bl (!deq (fz w) (fz w'))))else none:=nr rfl
@[simp] theorem qT{i j:Int}:wLt (.val (.int i)) (.val (.int j))=some (.val (.bl (decide (i<j)))):=nr rfl
@[simp] theorem nX{i j:Int}:wLe (.val (.int i)) (.val (.int j))=some (.val (.bl (decide (i<=j)))):=nr rfl
@[simp] theorem pR{i j:Int}:wGt (.val (.int i)) (.val (.int j))=some (.val (.bl (decide (j<i)))):=nr rfl
@[simp] theorem qK{i j:Int}:wGe (.val (.int i)) (.val (.int j))=some (.val (.bl (decide (j<=i)))):=nr rfl
@[simp] theorem mF{i j:Int}:Qe (.val (.int i)) (.val (.int j))=some (.val (.int (i-j))):=nr rfl
@[simp] theorem mD{i:Int}:NZ (.val (.int i))=some (.val (.int (-i))):=nr rfl
@[simp] theorem nE{i j:Int}:U9 (.val (.int i)) (.val (.int j))=(if 0<j then some (.val (.int (i % j)))else none):=by
  show ACE Wv.val (if 0<j then Fk (D.int (i % j))else uk)=_
  split<;>rfl
@[simp] theorem iW{i j:Int}:Qv (.val (.int i)) (.val (.int j))=(if(decide (0<j) && decide (j.natAbs<Im))=true then some (.val (.int (i / j)))else none):=by
  show ACE Wv.val (if(decide (0<j) && decide (j.natAbs<Im))=true then Fk (D.int (i / j))else uk)=_
  split<;>rfl
@[simp] theorem md{i j:Int}:gD (.val (.int i)) (.val (.int j))=if(decide (0<=j) && decide (j<=1000) && decide (i.natAbs<2^64))=true then some (.val (.int (i^j.toNat)))else none:=by
  show ACE Wv.val (if(decide (0<=j) && decide (j<=1000) && decide (i.natAbs<2^64))=true then Fk (D.int (i^j.toNat))else uk)=_
  split<;>rfl
@[simp] theorem nB{i:Int}:iK (.val (.int i))=some (.val (.int (i.natAbs:Int))):=by
  show Fk (Wv.val (D.int (if i<0 then-i else i)))=_
  congr 3
  split<;>lia
@[simp] theorem bL:Kw (.val (.lst r))=some (.val (.int r.length)):=nr rfl
@[simp] theorem mV:Kw (.val (.tup r))=some (.val (.int r.length)):=nr rfl
@[simp] theorem mG{ns:List Int}:Kw (.val (.scr ns))=some (.val (.int ns.length)):=by
  show Fk (Wv.val (D.int ((ns.map D.int).length:Nat)))=_
  rw[vW]
@[simp] theorem iJ:DA w=(asS w).map λds=>.val (.tup ds):=nr rfl
@[simp] theorem iZ:Qz w=(asS w).map λds=>.own ds:=nr rfl
@[simp] theorem qa{b:Bool}:VF (.val (.bl b))=some (.val (.int (if b then 1 else 0))):=nr rfl
@[simp] theorem nK{i j:Int}:mT (.val (.int i)) (.val (.int j))=some (.val (.int (if j<i then j else i))):=nr rfl
@[simp] theorem mn{T:String}:RD w (.val (.ty T))=if UW T=true then(kdW w).map λk=>.val (.bl (k.isA T))else none:=nr rfl
@[simp] theorem oD:UW "int"=true:=by decide
@[simp] theorem lT:UW "bool"=true:=by decide
@[simp] theorem jS:UW "tuple"=true:=by decide
@[simp] theorem qG:UW "str"=true:=by decide
@[simp] theorem lW:bB (.val (.lst r))=(bls r).map λbs=>.val (.bl (bs.all id)):=nr rfl
theorem AS{n:Nat}(h:n<=1000):n<=sizeLine:=uz h (by decide)
@[simp] theorem sz1:(1:Nat)<=sizeLine:=AS (by decide)
@[simp] theorem sz2:(2:Nat)<=sizeLine:=AS (by decide)
@[simp] theorem sz3:(3:Nat)<=sizeLine:=AS (by decide)
@[simp] theorem sz4:(4:Nat)<=sizeLine:=AS (by decide)
@[simp] theorem sz5:(5:Nat)<=sizeLine:=AS (by decide)
@[simp] theorem sz6:(6:Nat)<=sizeLine:=AS (by decide)
@[simp] theorem LJ:Ca E S=some (.bl true,S):=nr rfl
@[simp] theorem nD{s:Sr}{t:Tf}{b:Ex}:Oq s t b E S=(s E S).bind λr=>Qd r.1.2 t b r.1.1 E r.2:=nr rfl
@[simp] theorem Af:gOk [] S:=λ_ h=>(nomatch h)
theorem Lg{gs:Gd}{t:Tf}{b:Ex}(h:gOk gs S):Qd gs t b [] E S=Fk (.nx,E,S):=by
 unfold Qd
 rw[va h]
theorem Ze {gs : Gd} {t : Tf} {b : Ex} {ds : Gc D} (h : gOk gs S) : Qd gs t b (d :: ds) E S = (t d E S).bind fun E1 => (b E1 S).bind fun r => match r.1 with
    | .nx => Qd gs t b ds r.2.1 r.2.2
    | .ret w => Fk (.ret w, r.2) := by
  rw [Qd, va h]
  all_goals rfl
theorem ID{gs:Gd}{t:Tf}{b:Ex}{ds:Gc D}(h:gOk gs S):Qd gs t b (d::ds) E S=(t d E S).bind λE1=>(b E1 S).bind (iE (Qd gs t b ds)):=by
 rw[Ze h]
 rfl
@[simp] theorem mH:JA f E S=(f E S).bind λr=>(sqD r.2 r.1).map λp=>(p,r.2):=nr rfl
@[simp] theorem ou:sqD S (.tup r)=some (r,[]):=nr rfl
@[simp] theorem nv:sqD S (.lst r)=some (r,[]):=nr rfl
theorem Gm{n:Nat}(h:S[n]?=Fk (.lst r)):sqD S (.ref n)=Fk (r,[(n,r)]):=by
 show(GY S n).map (λds=>(ds,[(n,ds)]))=_
 rw[AY h]
 rfl
@[simp] theorem lZ:iI f E S=(f E S).bind λr=>(sqD r.2 r.1).map λp=>((UJ 0 p.1,p.2),r.2):=nr rfl
@[simp] theorem mJ:cU f g E S=(f E S).bind λr=>(g E r.2).bind λq=>(sqD q.2 r.1).bind λa=>(sqD q.2 q.1).map λb=>((Qk a.1 b.1,a.2++b.2),q.2):=by
  unfold cU
  rw[FV]
  cases f E S with
  |none=>rfl
  |some r=>
   rw[Bt,Bt,FV]
   cases g E r.2 with
   |none=>rfl
   |some q=>rfl
noncomputable def Ma(j:Int):vm:=decide (-(2^62)<=j) && decide (j<2^62)
theorem GB{j:Int}(h: -1000000<=j)(g:j<=1000000):Ma j=true:=by
 unfold Ma
 rw[vE]
 exact⟨xZ (by lia),xZ (by lia)⟩
noncomputable def rK(S:Sto):D->uo ((Gc D×Gd)×Sto)
 | .int j=>if Ma j=true then Fk ((Mh 0 j.toNat,[]),S)else uk
 |_=>uk
@[simp] theorem m8{j:Int}:rK S (.int j)=if Ma j=true then some ((Mh 0 j.toNat,[]),S)else none:=nr rfl
@[simp] theorem mq:Ts [f] E S=(f E S).bind λr=>rK r.2 r.1:=by
  unfold Ts
  rw[FV]
  cases f E S with
  |none=>rfl
  |some r=>
   obtain⟨d,S1⟩:=r
   rw[Bt,dU,pG,Bt,Bt]
   cases d<;>rfl
@[simp] theorem iY{cf:Bool}{cap:List Nat}{m:Nat}{s:Sr}{t:Tf}:RJ cf cap m s t c f E S=(s E S).bind λr=>(C8 r.1.2 t c f r.1.1 [] (Qi cap m E) r.2).bind λq=>fin cf (.own q.1) q.2:=nr rfl
@[simp] theorem mO{cap:List Nat}{m:Nat}:Qi cap m E=cap.map (at? E)++List.replicate m none:=nr rfl
theorem MM{α:Type}(p:α->vm):∀xs:Gc α,bls (xs.map λx=>.bl (p x))=Fk (xs.map p)
 | []=>rfl
 |x::xs=>by
  have ih:=MM p xs
  unfold bls at ih⊢
  rw[vT,AAb,ih]
  rfl
@[simp] theorem XD{i:Int}:Mg (.int i::r)=(Mg r).map λns=>i::ns:=by
  unfold Mg
  rw[AAb]
  show(do let r1<-Fk i;let rs<-List.mapM intD r;pure (r1::rs))=_
  cases List.mapM intD r<;>rfl
theorem HY:∀(ns:Gc Int),Mg (ns.map D.int)=Fk ns
 | []=>rfl
 |n::ns=>by rw[vT,XD,HY ns];rfl
@[simp] theorem lh:Zp (.own r)=(Mg r).map λns=>.val (.int ns.sum):=nr rfl
@[simp] theorem lQ:Zp (.val (.lst r))=(Mg r).map λns=>.val (.int ns.sum):=nr rfl
@[simp] theorem qx:mh true w (.val .non)=some (.val (.bl (!isN w))):=nr rfl
@[simp] theorem sZ{i:Int}{w:Wv}:Lv true false [w,.val (.int i)]=wSl (some i) none w:=nr rfl
@[simp] theorem uI{i:Int}{w:Wv}:Lv false true [w,.val (.int i)]=wSl none (some i) w:=nr rfl
@[simp] theorem sY{i j:Int}{w:Wv}:Lv true true [w,.val (.int i),.val (.int j)]=wSl (some i) (some j) w:=nr rfl
@[simp] theorem oj{lo hi:Option Int}:wSl lo hi (.val (.tup r))=some (.val (.tup (Le r lo hi))):=nr rfl
end
structure DQ(A:Gc Nat)(S S':Sto):Prop where
 len:S.length<=S'.length
 keep:∀n,n<S.length->n∉A->S'[n]?=S[n]?
theorem DQ.refl{A:Gc Nat}{S:Sto}:DQ A S S:=⟨u4 _,λ_ _ _=>rfl⟩
theorem DQ.trans{A:Gc Nat}{S S' S2:Sto}(h:DQ A S S')(g:DQ A S' S2):DQ A S S2:=⟨uz h.len g.len,λn hn ha=>(g.keep n (uy hn h.len) ha).trans (h.keep n hn ha)⟩
theorem DQ.mono{A B:Gc Nat}{S S':Sto}(h:DQ A S S')(s:∀n∈A,n∈B):DQ B S S':=⟨h.len,λn hn hb=>h.keep n hn λz=>hb (s n z)⟩
theorem DQ.get{A:Gc Nat}{S S':Sto}(h:DQ A S S'){n:Nat}{c:Cl}(e:S[n]?=Fk c)(ha:n∉A):S'[n]?=Fk c:=by
 rw[h.keep n (vB.mp e).1 ha];exact e
theorem DQ.app{A:Gc Nat}{S T:Sto}:DQ A S (S++T):=⟨by simp,λn hn _=>uq hn⟩
theorem DQ.set{A:Gc Nat}{S:Sto}{n:Nat}{c:Cl}(h:n∈A):DQ A S (S.set n c):=⟨by simp,λm hm ha=>u3 (λz=>ha (by rw[<-z];exact h))⟩
theorem DQ.new{A:Gc Nat}{S S' S2:Sto}(h:DQ A S S')(g:DQ (A++B) S' S2)(hb:∀n∈B,S.length<=n):DQ A S S2:=⟨uz h.len g.len,λn hn ha=>(g.keep n (uy hn h.len) (λz=>by
 rcases vY.mp z with z|z
 .exact ha z
 .have:=hb n z;lia)).trans (h.keep n hn ha)⟩
theorem Ax{S:Sto}{n:Nat}{c:Cl}(h:S[n]?=Fk c):n<S.length:=(vB.mp h).1
section
variable{E:En}{S:Sto}{f g h k l m:Ev}{cf:vm}{F:Fn}
@[simp high] theorem nI{op:Op1}:Tt cf (o1 op) [f] E S=(f E S).bind λr=>(op (dr r.2 r.1)).bind λw=>fin cf w r.2:=by
  rw[Xe,FV];cases f E S<;>rfl
@[simp high] theorem bG{op:Op2}:Tt cf (o2 op) [f,g] E S=(f E S).bind λr=>(g E r.2).bind λq=>(op (dr q.2 r.1) (dr q.2 q.1)).bind λw=>fin cf w q.2:=by
  rw[Xe,FV]
  cases f E S with
  |none=>rfl
  |some r=>rw[Bt,Bt,FV];cases g E r.2<;>rfl
theorem q9:evs [f] E S=(f E S).bind λr=>Fk ([r.1],r.2):=by rw[FV];cases f E S<;>rfl
theorem qm:evs [f,g] E S=(f E S).bind λr=>(g E r.2).bind λq=>Fk ([r.1,q.1],q.2):=by
 rw[FV];cases f E S with
 |none=>rfl
 |some r=>rw[Bt,Bt,q9];cases g E r.2<;>rfl
theorem rO:evs [f,g,h] E S=(f E S).bind λr=>(g E r.2).bind λq=>(h E q.2).bind λu=>Fk ([r.1,q.1,u.1],u.2):=by
 rw[FV];cases f E S with
 |none=>rfl
 |some r=>rw[Bt,Bt,qm];cases g E r.2 with
  |none=>rfl
  |some q=>rw[Bt,Bt];cases h E q.2<;>rfl
theorem tu:evs [f,g,h,k] E S=(f E S).bind λr=>(g E r.2).bind λq=>(h E q.2).bind λu=>(k E u.2).bind λv=>Fk ([r.1,q.1,u.1,v.1],v.2):=by
 rw[FV];cases f E S with
 |none=>rfl
 |some r=>rw[Bt,Bt,rO];cases g E r.2 with
  |none=>rfl
  |some q=>rw[Bt,Bt];cases h E q.2 with
   |none=>rfl
   |some u=>rw[Bt,Bt];cases k E u.2<;>rfl
@[simp high] theorem sG:evs [f] E S=(f E S).bind λr=>some ([r.1],r.2):=q9
@[simp high] theorem sv:evs [f,g] E S=(f E S).bind λr=>(g E r.2).bind λq=>some ([r.1,q.1],q.2):=qm
@[simp high] theorem uF:evs [f,g,h] E S=(f E S).bind λr=>(g E r.2).bind λq=>(h E q.2).bind λu=>some ([r.1,q.1,u.1],u.2):=rO
@[simp high] theorem tT:evs [f,g,h,k] E S=(f E S).bind λr=>(g E r.2).bind λq=>(h E q.2).bind λu=>(k E u.2).bind λv=>some ([r.1,q.1,u.1,v.1],v.2):=tu
@[simp high] theorem uT{d:D}:eV 0 (some d::E) S=some (d,S):=nr rfl
@[simp high] theorem ua{d:D}{o0:Option D}:eV 1 (o0::some d::E) S=some (d,S):=nr rfl
@[simp high] theorem uZ{d:D}{o0 o1:Option D}:eV 2 (o0::o1::some d::E) S=some (d,S):=nr rfl
@[simp high] theorem uf{d:D}{o0 o1 o2:Option D}:eV 3 (o0::o1::o2::some d::E) S=some (d,S):=nr rfl
@[simp high] theorem ub{d:D}{o0 o1 o2 o3:Option D}:eV 4 (o0::o1::o2::o3::some d::E) S=some (d,S):=nr rfl
@[simp high] theorem uW{d:D}{o0 o1 o2 o3 o4:Option D}:eV 5 (o0::o1::o2::o3::o4::some d::E) S=some (d,S):=nr rfl
@[simp high] theorem ui{d:D}{o0 o1 o2 o3 o4 o5:Option D}:eV 6 (o0::o1::o2::o3::o4::o5::some d::E) S=some (d,S):=nr rfl
@[simp high] theorem ue{d:D}{o0 o1 o2 o3 o4 o5 o6:Option D}:eV 7 (o0::o1::o2::o3::o4::o5::o6::some d::E) S=some (d,S):=nr rfl
@[simp high] theorem uj{d:D}{o0 o1 o2 o3 o4 o5 o6 o7:Option D}:eV 8 (o0::o1::o2::o3::o4::o5::o6::o7::some d::E) S=some (d,S):=nr rfl
@[simp high] theorem uS{d:D}{o0 o1 o2 o3 o4 o5 o6 o7 o8:Option D}:eV 9 (o0::o1::o2::o3::o4::o5::o6::o7::o8::some d::E) S=some (d,S):=nr rfl
@[simp high] theorem su{d:D}{o0 o1 o2 o3 o4 o5 o6 o7 o8 o9:Option D}:eV 10 (o0::o1::o2::o3::o4::o5::o6::o7::o8::o9::some d::E) S=some (d,S):=nr rfl
@[simp high] theorem rm{d:D}{o0 o1 o2 o3 o4 o5 o6 o7 o8 o9 o10:Option D}:eV 11 (o0::o1::o2::o3::o4::o5::o6::o7::o8::o9::o10::some d::E) S=some (d,S):=nr rfl
@[simp high] theorem sU{d:D}{o0 o1 o2 o3 o4 o5 o6 o7 o8 o9 o10 o11:Option D}:eV 12 (o0::o1::o2::o3::o4::o5::o6::o7::o8::o9::o10::o11::some d::E) S=some (d,S):=nr rfl
@[simp high] theorem sI{d:D}{o0 o1 o2 o3 o4 o5 o6 o7 o8 o9 o10 o11 o12:Option D}:eV 13 (o0::o1::o2::o3::o4::o5::o6::o7::o8::o9::o10::o11::o12::some d::E) S=some (d,S):=nr rfl
@[simp 20000] theorem qv{op:Op2}{d:D}:Tt cf (o2 op) [f,eC d] E S=(f E S).bind λr=>(op (dr r.2 r.1) (dr r.2 d)).bind λw=>fin cf w r.2:=by
  rw[bG];cases f E S<;>rfl
@[simp high] theorem mS{i:Nat}{y:Ex}:Ad (Bs i f) y E S=(f E S).bind λr=>y (E.set i (some r.1)) r.2:=by
  rw[Wb,a9];cases f E S<;>rfl
@[simp high] theorem mU{y:Ex}:Ad (Ci f) y E S=(f E S).bind λr=>y E r.2:=by
  rw[Wb,Zl];cases f E S<;>rfl
end
section
theorem mulL{i j:Int}(h: -18446744073709551616<i)(g:i<18446744073709551616):FF i j=true:=by
 unfold FF
 rw[wQ]
 exact .inl (xZ (by lia))
theorem mulR{i j:Int}(h: -18446744073709551616<j)(g:j<18446744073709551616):FF i j=true:=by
 unfold FF
 rw[wQ,wQ]
 exact .inr (.inl (xZ (by lia)))
theorem Eh{n k:Nat}(h:n<2^k)(hk:k<=8000):n<Im:=uy h (v9 (by decide) hk)
theorem Fx{n:Int}(h0:0<n)(h1:n<1152921504606846976):n.natAbs<Im:=Eh (k:=60) (show n.natAbs<2^60 by lia) (by decide)
variable{S:Sto}
noncomputable def VA(a b:Int):Int:=((AAJ a.natAbs b.natAbs:Nat):Int)
theorem Qb{c:Ev}{b:Ex}{k:Nat}{E:En}:LM c b (k+1) E S=(c E S).bind λr=>match r.1 with
 | .bl true=>(b E r.2).bind λp=>match p.1 with
   | .nx=>LM c b k p.2.1 p.2.2
   | .ret w=>Fk (.ret w,p.2)
 | .bl false=>Fk (.nx,E,r.2)
 |_=>none:=rfl
theorem WY{c:Ev}{b:Ex}{k:Nat}{E E2:En}{S1 S2:Sto}(e1:c E S=Fk (.bl true,S1))(e2:b E S1=Fk (.nx,E2,S2)):LM c b (k+1) E S=LM c b k E2 S2:=by
 rw[Qb,e1]
 show(b E S1).bind _=_
 rw[e2]
 rfl
theorem WZ{c:Ev}{b:Ex}{k:Nat}{E:En}{S1:Sto}(e1:c E S=Fk (.bl false,S1)):LM c b (k+1) E S=Fk (.nx,E,S1):=by
 rw[Qb,e1]
 rfl
theorem Vr:∀(k:Nat) (x y:Nat),y<k->LM (eOp (o2 wNe) [eV 1,eC (.int 0)]) (WO 0 1 (eV 1) (eOp (o2 U9) [eV 0,eV 1])) k [Fk (.int x),Fk (.int y)] S=Fk (.nx,[Fk (.int (AAJ x y:Nat)),Fk (.int 0)],S)
 |0,x,y,h=>absurd h (ABN _)
 |k+1,x,y,h=>by
  by_cases hy:y=0
  .subst hy
   rw[WZ (S1:=S) (by simp)]
   simp
  .have hy2:(((y:Nat):Int)==0)=false:=by simpa using hy
   have ih:=Vr k y (x % y) (by have:=Nat.mod_lt x (zD hy);lia)
   rw[show((x % y:Nat):Int)=(x:Int) % (y:Int) by lia]at ih
   have hy4:0<y:=zD hy
   rw[WY (S1:=S) (S2:=S) (E2:=[Fk (.int y),Fk (.int ((x:Int) % (y:Int)))]) (by simp[hy2]) (by simp[hy4]),ih]
   rw[ABE x y,Nat.gcd_rec y x,ABE]
theorem ib(a b:Int):DX [.int a,.int b] S=Fk (.int (VA a b),S):=by
 have:=Vr (S:=S) (b.natAbs+2) a.natAbs b.natAbs (by lia)
 simp[DX,Hq,UE,XY,this,VA]
theorem O8:∀(k:Nat) (x y:Nat),y<k->LM (eOp (o2 wGt) [eV 1,eC (.int 0)]) (WO 0 1 (eV 1) (eOp (o2 U9) [eV 0,eV 1])) k [Fk (.int x),Fk (.int y)] S=Fk (.nx,[Fk (.int (AAJ x y:Nat)),Fk (.int 0)],S)
 |0,x,y,h=>absurd h (ABN _)
 |k+1,x,y,h=>by
  by_cases hy:y=0
  .subst hy
   rw[WZ (S1:=S) (by simp)]
   simp
  .have ih:=O8 k y (x % y) (by have:=Nat.mod_lt x (zD hy);lia)
   rw[show((x % y:Nat):Int)=(x:Int) % (y:Int) by lia]at ih
   have hy4:0<y:=zD hy
   rw[WY (S1:=S) (S2:=S) (E2:=[Fk (.int y),Fk (.int ((x:Int) % (y:Int)))]) (by simp[hy4]) (by simp[hy4]),ih]
   rw[ABE x y,Nat.gcd_rec y x,ABE]
theorem Xy(a b:Int)(ha:0<=a)(hb:0<=b):JR [.int a,.int b] S=Fk (.int (VA a b),S):=by
 have:=O8 (S:=S) (b.natAbs+2) a.natAbs b.natAbs (by lia)
 have e1:((a.natAbs:Nat):Int)=a:=by lia
 have e2:((b.natAbs:Nat):Int)=b:=by lia
 rw[e1,e2]at this
 simp[JR,OO,UE,XY,this,VA]
noncomputable def lowP(t b:Int):Int×Int:=(t / VA t b,b / VA t b)
theorem WD{t b:Int}(h:0<b):0<VA t b:=by
 unfold VA
 have:0<AAJ t.natAbs b.natAbs:=Nat.gcd_pos_of_pos_right _ (by lia)
 lia
theorem Yr{t b:Int}(h:0<b):(VA t b).natAbs<=b.natAbs:=by
 unfold VA
 have:AAJ t.natAbs b.natAbs<=b.natAbs:=Nat.gcd_le_right _ (by lia)
 lia
noncomputable def amD(p:Int×Int):D:=.tup [.int p.1,.int p.2]
theorem NI{t b:Int}(h:0<b)(hb:b.natAbs<Im):EC [.int t,.int b] S=Fk (amD (lowP t b),S):=by
 have h1:=WD (t:=t) h
 have h2:(VA t b).natAbs<Im:=vd (Yr h) hb
 simp[EC,Rp,ib,h1,h2,amD,lowP]
theorem cB{t b:Int}:VA (t.natAbs:Int) b=VA t b:=by
 unfold VA
 rw[xE]
theorem Vl{t b:Int}(h:0<b)(hb:b.natAbs<Im):Cp [.int t,.int b] S=Fk (amD (lowP t b),S):=by
 have h1:=WD (t:=t) h
 have h2:(VA t b).natAbs<Im:=vd (Yr h) hb
 have h3:=Xy (S:=S) (t.natAbs:Int) b (by lia) (by lia)
 rw[cB]at h3
 simp[Cp,RN,h3,h1,h2,amD,lowP]
noncomputable def aD(q:Rat):D:=.tup [.int q.num,.int q.den]
def Sz(k:Nat)(q:Rat):Prop:=q.num.natAbs<2^k/\q.den<2^k
theorem GN(q:Rat):(q.num:Rat) / (q.den:Rat)=q:=by
 rw[<-Rat.mkRat_eq_div,Rat.mkRat_self]
theorem MJ(q:Rat):(q.den:Rat)≠0:=by
 have:=q.den_nz
 exact_mod_cast this
theorem Qh(t:Int)(n:Nat)(h:0<n):((t:Rat) / (n:Rat)).num=t / (AAJ t.natAbs n:Nat)/\((t:Rat) / (n:Rat)).den=n / AAJ t.natAbs n:=by
 have e:(t:Rat) / (n:Rat)=mkRat t n:=by rw[Rat.mkRat_eq_div]
 rw[e,Rat.mkRat_def,dif_neg (by lia),Rat.normalize_eq]
 exact⟨rfl,rfl⟩
theorem MR{t b:Int}(h:0<b):amD (lowP t b)=aD ((t:Rat) / (b:Rat)):=by
 obtain⟨n,rfl⟩:∃n:Nat,b=n:=⟨b.natAbs,by lia⟩
 obtain⟨h1,h2⟩:=Qh t n (by lia)
 unfold amD aD lowP VA
 rw[show(((n:Nat):Int):Rat)=((n:Nat):Rat)from rfl,h1,h2]
 simp
theorem QZ{t b:Int}{k:Nat}(h:0<b)(ht:t.natAbs<2^k)(hb:b.natAbs<2^k):Sz k ((t:Rat) / (b:Rat)):=by
 obtain⟨n,rfl⟩:∃n:Nat,b=n:=⟨b.natAbs,by lia⟩
 obtain⟨h1,h2⟩:=Qh t n (by lia)
 unfold Sz
 rw[show(((n:Nat):Int):Rat)=((n:Nat):Rat)from rfl,h1,h2]
 exact⟨vd (Int.natAbs_ediv_le_natAbs _ _) ht,vd (Nat.div_le_self _ _) (by simpa using hb)⟩
theorem CH{a b j k:Nat}(ha:a<2^j)(hb:b<2^k):a*b<2^(j+k):=by
 rw[Nat.pow_add]
 exact Nat.mul_lt_mul'' ha hb
theorem KG{i j:Int}{k m:Nat}(hi:i.natAbs<2^k)(hj:j.natAbs<2^m)(h:k<=60000)(g:m<=60000):FF i j=true:=by
 unfold FF
 rw[wQ,wQ,vE]
 exact .inr (.inr ⟨xZ (uy hi (v9 (by decide) h)),xZ (uy hj (v9 (by decide) g))⟩)
theorem Sz.mono{k m:Nat}{q:Rat}(h:Sz k q)(g:k<=m):Sz m q:=by
 have:=v9 (n:=2) (by decide) g
 exact⟨by have:=h.1;lia,by have:=h.2;lia⟩
theorem den_pos(q:Rat):0<(q.den:Int):=by have:=q.den_pos;lia
theorem gW{x:Int}{n m:Nat}(h:x.natAbs<2^n)(g:n<=m):x.natAbs<2^m:=uy h (v9 (by decide) g)
section
variable{p q:Rat}{j k:Nat}
theorem F3(hp:Sz j p)(hq:Sz k q):(p.num*q.den+q.num*p.den).natAbs<2^(j+k+1)/\((p.den:Int)*q.den).natAbs<2^(j+k)/\(p.num*q.den-q.num*p.den).natAbs<2^(j+k+1):=by
 have a1:=CH hp.1 hq.2
 have a2:=CH hq.1 hp.2
 have a3:=CH hp.2 hq.2
 rw[ABA k j]at a2
 have e:2^(j+k+1)=2^(j+k)+2^(j+k):=by rw[ABF];lia
 refine⟨?_,?_,?_⟩
 .refine vd (Int.natAbs_add_le _ _) ?_
  rw[yM,yM,xE,xE,e]
  lia
 .rw[yM,xE,xE];exact a3
 .refine vd (Int.natAbs_sub_le _ _) ?_
  rw[yM,yM,xE,xE,e]
  lia
theorem Ss:(((p.num*q.den+q.num*p.den:Int):Rat) / (((p.den:Int)*q.den:Int):Rat))=p+q:=by
 have h1:=GN p;have h2:=GN q
 have d1:=MJ p;have d2:=MJ q
 push_cast
 grind
theorem Wn:(((p.num*q.den-q.num*p.den:Int):Rat) / (((p.den:Int)*q.den:Int):Rat))=p-q:=by
 have h1:=GN p;have h2:=GN q
 have d1:=MJ p;have d2:=MJ q
 push_cast
 grind
theorem QJ:(((p.num*q.num:Int):Rat) / (((p.den:Int)*q.den:Int):Rat))=p*q:=by
 have h1:=GN p;have h2:=GN q
 have d1:=MJ p;have d2:=MJ q
 push_cast
 grind
theorem dA(hp:Sz j p)(hq:Sz k q):Sz (j+k+1) (p+q):=by
 rw[<-Ss]
 have:=F3 hp hq
 exact QZ (wV (den_pos _) (den_pos _)) this.1 (gW this.2.1 (by lia))
theorem cW(hp:Sz j p)(hq:Sz k q):Sz (j+k+1) (p-q):=by
 rw[<-Wn]
 have:=F3 hp hq
 exact QZ (wV (den_pos _) (den_pos _)) this.2.2 (gW this.2.1 (by lia))
theorem Rj(hp:Sz j p)(hq:Sz k q):Sz (j+k) (p*q):=by
 rw[<-QJ]
 have:=F3 hp hq
 exact QZ (wV (den_pos _) (den_pos _)) (by rw[yM];exact CH hp.1 hq.1) this.2.1
end
section
variable{p q:Rat}{j k:Nat}
theorem Ry(hp:Sz j p)(hq:Sz k q)(hj:j+k<=7990):FF p.num q.den=true/\FF q.num p.den=true/\FF p.den q.den=true/\FF p.num q.num=true:=by
 refine⟨KG hp.1 (by simpa using hq.2) (by lia) (by lia),KG hq.1 (by simpa using hp.2) (by lia) (by lia),KG (by simpa using hp.2) (by simpa using hq.2) (by lia) (by lia),KG hp.1 hq.1 (by lia) (by lia)⟩
theorem gF(hp:Sz j p)(hq:Sz k q)(hj:j+k<=7990):JQ [aD p,aD q] S=Fk ((aD (p+q)),S):=by
 obtain⟨m1,m2,m3,m4⟩:=Ry hp hq (by lia)
 have b:=F3 hp hq
 have l:=NI (S:=S) (t:=p.num*q.den+q.num*p.den) (b:=p.den*q.den) (wV (den_pos _) (den_pos _)) (Eh b.2.1 (by lia))
 rw[MR (wV (den_pos _) (den_pos _)),Ss]at l
 simp only[aD]at l⊢
 simp[JQ,WE,m1,m2,m3,l]
theorem jw(hp:Sz j p)(hq:Sz k q)(hj:j+k<=7990):Ll [aD p,aD q] S=Fk ((aD (p-q)),S):=by
 obtain⟨m1,m2,m3,m4⟩:=Ry hp hq (by lia)
 have b:=F3 hp hq
 have l:=NI (S:=S) (t:=p.num*q.den-q.num*p.den) (b:=p.den*q.den) (wV (den_pos _) (den_pos _)) (Eh b.2.1 (by lia))
 rw[MR (wV (den_pos _) (den_pos _)),Wn]at l
 simp only[aD]at l⊢
 simp[Ll,WW,m1,m2,m3,l]
theorem Uq(hp:Sz j p)(hq:Sz k q)(hj:j+k<=7990):Dc [aD p,aD q] S=Fk ((aD (p*q)),S):=by
 obtain⟨m1,m2,m3,m4⟩:=Ry hp hq (by lia)
 have b:=F3 hp hq
 have l:=NI (S:=S) (t:=p.num*q.num) (b:=p.den*q.den) (wV (den_pos _) (den_pos _)) (Eh b.2.1 (by lia))
 rw[MR (wV (den_pos _) (den_pos _)),QJ]at l
 simp only[aD]at l⊢
 simp[Dc,U6,m3,m4,l]
theorem V0(hp:Sz j p)(hq:Sz k q)(hj:j+k<=7990):Dj [aD p,aD q] S=Fk ((aD (p+q)),S):=by
 obtain⟨m1,m2,m3,m4⟩:=Ry hp hq (by lia)
 have b:=F3 hp hq
 have l:=Vl (S:=S) (t:=p.num*q.den+q.num*p.den) (b:=p.den*q.den) (wV (den_pos _) (den_pos _)) (Eh b.2.1 (by lia))
 rw[MR (wV (den_pos _) (den_pos _)),Ss]at l
 simp only[aD]at l⊢
 simp[Dj,RH,m1,m2,m3,l]
theorem NX(hp:Sz j p)(hq:Sz k q)(hj:j+k<=7990):BR [aD p,aD q] S=Fk ((aD (p*q)),S):=by
 obtain⟨m1,m2,m3,m4⟩:=Ry hp hq (by lia)
 have b:=F3 hp hq
 have l:=Vl (S:=S) (t:=p.num*q.num) (b:=p.den*q.den) (wV (den_pos _) (den_pos _)) (Eh b.2.1 (by lia))
 rw[MR (wV (den_pos _) (den_pos _)),QJ]at l
 simp only[aD]at l⊢
 simp[BR,PJ,m3,m4,l]
theorem j4:aD (-q)=.tup [.int (0-q.num),.int q.den]:=by
 unfold aD
 rw[show(-q).num=0-q.num by simp,show(-q).den=q.den by simp]
theorem kC(hq:Sz k q):Sz k (-q):=by
 unfold Sz
 rw[show(-q).num= -q.num by simp,show(-q).den=q.den by simp,Int.natAbs_neg]
 exact hq
theorem cT(hp:Sz j p)(hq:Sz k q)(hj:j+k<=7990):Fs [aD p,aD q] S=Fk ((aD (p-q)),S):=by
 have l:=V0 (S:=S) hp (kC hq) hj
 rw[j4]at l
 rw[Rat.sub_eq_add_neg]
 simp only[aD]at l⊢
 simp at l
 simp[Fs,R9,l]
end
theorem VG{t b:Int}(h:0<b)(hb:b.natAbs<Im):EC [.int t,.int b] S=Fk ((aD (t / b)),S):=by
 rw[NI h hb,MR h]
theorem Zy{t b:Int}(h:0<b)(hb:b.natAbs<Im):Cp [.int t,.int b] S=Fk ((aD (t / b)),S):=by
 rw[Vl h hb,MR h]
theorem Lk{a b:Int}{k:Nat}(ha:a.natAbs<2^k)(hb:b.natAbs<2^k):(a+b).natAbs<2^(k+1):=by
 have e:2^(k+1)=2^k+2^k:=by rw[ABF];lia
 have:=Int.natAbs_add_le a b
 lia
theorem Mv{a b:Int}{j k:Nat}(ha:a.natAbs<2^j)(hb:b.natAbs<2^k):(a*b).natAbs<2^(j+k):=by
 rw[yM];exact CH ha hb
theorem Xq{p q:Rat}{w m:Int}(h:0<w+m):((p.num*q.den*w+q.num*p.den*m:Int):Rat) / (((p.den:Int)*q.den*(w+m):Int):Rat)=(p*w+q*m) / (w+m):=by
 have h1:=GN p;have h2:=GN q
 have d1:=MJ p;have d2:=MJ q
 have d3:((w:Rat)+(m:Rat))≠0:=by
  intro e
  have:((w+m:Int):Rat)=0:=by push_cast;exact e
  have:=yN.mp this
  lia
 push_cast
 grind
section
variable{p q:Rat}{w m:Int}{j k n:Nat}
theorem Z5(hp:Sz j p)(hq:Sz k q)(hw:w.natAbs<2^n)(hm:m.natAbs<2^n):(p.num*q.den*w+q.num*p.den*m).natAbs<2^(j+k+n+1)/\((p.den:Int)*q.den*(w+m)).natAbs<2^(j+k+(n+1)):=by
 have d1:((p.den:Int)).natAbs<2^j:=by simpa using hp.2
 have d2:((q.den:Int)).natAbs<2^k:=by simpa using hq.2
 refine⟨Lk (Mv (Mv hp.1 d2) hw) ?_,Mv (Mv d1 d2) (Lk hw hm)⟩
 have:=Mv (Mv hq.1 d1) hm
 rwa [ABA k j]at this
theorem jb(hp:Sz j p)(hq:Sz k q)(hw:w.natAbs<2^n)(hm:m.natAbs<2^n)(h:0<w+m)(hj:j+k+n+1<=7990):LA [aD p,.int w,aD q,.int m] S=Fk ((aD ((p*w+q*m) / (w+m))),S):=by
 obtain⟨m1,m2,m3,m4⟩:=Ry hp hq (by lia)
 have d1:((p.den:Int)).natAbs<2^j:=by simpa using hp.2
 have d2:((q.den:Int)).natAbs<2^k:=by simpa using hq.2
 have b:=Z5 hp hq hw hm
 have m5:FF (p.num*q.den) w=true:=KG (Mv hp.1 d2) hw (by lia) (by lia)
 have m6:FF (q.num*p.den) m=true:=KG (Mv hq.1 d1) hm (by lia) (by lia)
 have m7:FF ((p.den:Int)*q.den) (w+m)=true:=KG (Mv d1 d2) (Lk hw hm) (by lia) (by lia)
 have l:=VG (S:=S) (t:=p.num*q.den*w+q.num*p.den*m) (b:=p.den*q.den*(w+m)) (wV (wV (den_pos _) (den_pos _)) h) (Eh b.2 (by lia))
 rw[Xq h]at l
 simp only[aD]at l⊢
 simp[LA,Uy,m1,m2,m3,m5,m6,m7,l]
end
end
section
variable{S:Sto}{p:Nat}
theorem cQ{r:Gc D}(h:p<S.length):dr (S.set p (.lst r)) (.ref p)=.own r:=Bb (vJ h)
def Pen(ds:Gc D):Prop:=∃a b c d:Int,ds=[.int a,.int b,.int c,.int d]/\0<=d/\d<1000000007
def Dx(p:Nat)(S:Sto):Prop:=∃ds,S[p]?=Fk (.lst ds)/\Pen ds
structure Pn(p:Nat)(S S':Sto):Prop where
 same:DQ [p] S S'
 pen:Dx p S'
theorem Pn.trans{S S' S2:Sto}(h:Pn p S S')(g:Pn p S' S2):Pn p S S2:=⟨h.same.trans g.same,g.pen⟩
theorem Pn.get{S S':Sto}(h:Pn p S S'){n:Nat}{c:Cl}(e:S[n]?=Fk c)(ha:n≠p):S'[n]?=Fk c:=h.same.get e (by simpa using ha)
theorem Pn.refl(h:Dx p S):Pn p S S:=⟨.refl,h⟩
theorem Dx.lt(h:Dx p S):p<S.length:=by obtain⟨ds,e,_⟩:=h;exact Ax e
theorem Dx.app(h:Dx p S)(T:Sto):Dx p (S++T):=by obtain⟨ds,e,hp⟩:=h;exact⟨ds,by rw[uq (Ax e)];exact e,hp⟩
theorem Al(h:Dx p S){n:Int}(h0:0<n)(h1:n<1152921504606846976):∃r S',AL [.ref p,.int n] S=Fk (.int r,S')/\0<=r/\r<n/\Pn p S S':=by
 obtain⟨ds,hp,a,b,c,d,rfl,hd0,hd1⟩:=h
 have hl:=Ax hp
 have hs:=Fx h0 h1
 have hr:=Bb hp
 have hc:=AY hp
 by_cases hb:b=1/\0<a
 .obtain⟨rfl,ha⟩:=hb
  refine⟨a % n,S.set p (.lst [.int (a / n),.int 1,.int c,.int d]),?_,x9 _ (by lia),yY _ h0,.set (by simp),_,vJ hl,_,_,_,_,rfl,hd0,hd1⟩
  simp[AL,Lq,ha,h0,hs,hr,hc]
 .have m1:FF (d+17) (69621+2*(c+1))=true:=mulL (by lia) (by lia)
  have m2:FF 2 (c+1)=true:=mulL (by decide) (by decide)
  generalize ht:(d+17)*(69621+2*(c+1)) % 2147483647=t at*
  have t0:0<=t:=by rw[<-ht];exact x9 _ (by decide)
  have t1:t<2147483647:=by rw[<-ht];exact yY _ (by decide)
  have m3:FF t t=true:=mulL (by lia) (by lia)
  have m4:FF 40503 (c+1)=true:=mulL (by decide) (by decide)
  generalize hu:(t*t+40503*(c+1)+5) % 2147483629=u at*
  have u0:0<=u:=by rw[<-hu];exact x9 _ (by decide)
  have u1:u<2147483629:=by rw[<-hu];exact yY _ (by decide)
  have m5:FF u 48271=true:=mulL (by lia) (by lia)
  have d32:(32:Int).natAbs<Im:=Fx (by decide) (by decide)
  have d32':(32:Nat)<Im:=d32
  refine⟨u*48271 % 2147483647 / 32 % n,S.set p (.lst [.int a,.int b,.int (c+1),.int d]),?_,x9 _ (by lia),yY _ h0,.set (by simp),_,vJ hl,_,_,_,_,rfl,hd0,hd1⟩
  by_cases hb1:b=1
  .subst hb1
   have ha:¬0<a:=λz=>hb ⟨rfl,z⟩
   simp[AL,Lq,ha,h0,hs,hr,hc,cQ,hl,m1,m2,m3,m4,m5,ht,hu,d32']
  .have hb2:(b==1)=false:=by simpa using hb1
   simp[AL,Lq,hb2,h0,hs,hr,hc,cQ,hl,m1,m2,m3,m4,m5,ht,hu,d32']
theorem ku(c:Int):∃p S',La [.int c] S=Fk (.ref p,S')/\Dx p S'/\DQ [] S S'/\S.length<=p:=by
 refine⟨S.length,S++[.lst [.int c,.int (if(10:Int)^18<=c then 1 else 0),.int 0,.int (c % 1000000007)]],?_,⟨_,vK,_,_,_,_,rfl,x9 _ (by decide),yY _ (by decide)⟩,.app,u4 _⟩
 simp[La,Uv]
theorem GH{gs:Gd}{t:Tf}{c f:Ev}{acc:Gc D}{E:En}(h:gOk gs S):C8 gs t c f [] acc E S=Fk (acc,S):=by
 unfold C8
 rw[va h]
theorem Rt {gs : Gd} {t : Tf} {c f : Ev} {d : D} {ds acc : Gc D} {E : En} (h : gOk gs S) (hz : acc.length < sizeLine) : C8 gs t c f (d :: ds) acc E S = (t d E S).bind fun E1 => (c E1 S).bind fun r => match r.1 with
      | .bl true => (f E1 r.2).bind fun p => C8 gs t c f ds (acc ++ [p.1]) E1 p.2
      | .bl false => C8 gs t c f ds acc E1 r.2
      | _ => none := by
  rw [C8, va h, va hz]
  all_goals rfl
theorem Kb{gs:Gd}{t:Tf}{c f:Ev}{d:D}{ds acc:Gc D}{E E1:En}{S1:Sto}(h:gOk gs S)(hz:acc.length<sizeLine)(e1:t d E S=Fk E1)(e2:c E1 S=Fk (.bl true,S1)):C8 gs t c f (d::ds) acc E S=(f E1 S1).bind λp=>C8 gs t c f ds (acc++[p.1]) E1 p.2:=by
 rw[Rt h hz,e1]
 show(c E1 S).bind _=_
 rw[e2]
 rfl
theorem GF{gs:Gd}{t:Tf}{c f:Ev}{d:D}{ds acc:Gc D}{E E1:En}{S1:Sto}(h:gOk gs S)(hz:acc.length<sizeLine)(e1:t d E S=Fk E1)(e2:c E1 S=Fk (.bl false,S1)):C8 gs t c f (d::ds) acc E S=C8 gs t c f ds acc E1 S1:=by
 rw[Rt h hz,e1]
 show(c E1 S).bind _=_
 rw[e2]
 rfl
theorem Lh{gs:Gd}{t:Tf}{f:Ev}{C:En}{m:Nat}{I:Sto->Prop}{R:D->D->Prop}(hg:∀S,I S->gOk gs S):∀{ds acc:Gc D} {os:En} {S:Sto},os.length=m->I S->acc.length+ds.length<=sizeLine->(∀d∈ds,∀os S,os.length=m->I S->∃us y S',us.length=m/\t d (C++os) S=Fk (C++us)/\f (C++us) S=Fk (y,S')/\I S'/\R d y)->∃ys S',C8 gs t Ca f ds acc (C++os) S=Fk (acc++ys,S')/\I S'/\ys.length=ds.length/\Paired R ds ys
 | [],acc,os,S,ho,hI,hz,h=>⟨[],S,by rw[GH (hg S hI)];simp,hI,rfl,.nil⟩
 |d::ds,acc,os,S,ho,hI,hz,h=>by
  obtain⟨us,y,S1,hu,e1,e2,I1,r1⟩:=h d vA os S ho hI
  obtain⟨ys,S2,e3,I2,l2,r2⟩:=Lh hg (ds:=ds) (acc:=acc++[y]) (os:=us) (S:=S1) hu I1 (by simp at hz ⊢; lia) λd' hd=>h d' (uv _ hd)
  refine⟨y::ys,S2,?_,I2,by simp[l2],.cons r1 r2⟩
  rw[Kb (hg S hI) (by simp at hz;lia) e1 LJ,e2,Bt,e3]
  simp
theorem comp_map{gs:Gd}{t:Tf}{f:Ev}{C:En}{m:Nat}{g:D->D}{S:Sto}(hg:gOk gs S):∀{ds acc:Gc D} {os:En},os.length=m->acc.length+ds.length<=sizeLine->(∀d∈ds,∀os,os.length=m->∃us,us.length=m/\t d (C++os) S=Fk (C++us)/\f (C++us) S=Fk (g d,S))->C8 gs t Ca f ds acc (C++os) S=Fk (acc++ds.map g,S)
 | [],acc,os,ho,hz,h=>by rw[GH hg];simp
 |d::ds,acc,os,ho,hz,h=>by
  obtain⟨us,hu,e1,e2⟩:=h d vA os ho
  rw[Kb hg (by simp at hz;lia) e1 LJ,e2,Bt]
  rw[comp_map hg hu (by simp at hz ⊢; lia) λd' hd=>h d' (uv _ hd)]
  simp
theorem IY{gs:Gd}{t:Tf}{b:Ex}{I:Gc D->En->Sto->Prop}(hg:∀ds E S,I ds E S->gOk gs S):∀{ds:Gc D} {E:En} {S:Sto},I ds E S->(∀d ds E S,I (d::ds) E S->∃E1 E2 S2,t d E S=Fk E1/\b E1 S=Fk (.nx,E2,S2)/\I ds E2 S2)->∃E' S',Qd gs t b ds E S=Fk (.nx,E',S')/\I [] E' S'
 | [],E,S,hI,h=>⟨E,S,Lg (hg _ _ _ hI),hI⟩
 |d::ds,E,S,hI,h=>by
  obtain⟨E1,E2,S2,e1,e2,I2⟩:=h d ds E S hI
  obtain⟨E',S',e3,I3⟩:=IY hg I2 h
  exact⟨E',S',by rw[ID (hg _ _ _ hI),e1];simp[e2,e3],I3⟩
theorem pick{xs:Gc D}{r:Int}(h0:0<=r)(h1:r<xs.length):∃x,atI xs r=Fk x/\x∈xs:=⟨_,cS h0 h1,yx _⟩
theorem IC{α β:Type}{P:β->Prop}:∀{xs:Gc α} {ys:Gc β},Paired (λ_ y=>P y) xs ys->∀y∈ys,P y
 |_,_,.nil,y,h=>by cases h
 |_,_,.cons r t,y,h=>by
  rcases uw.mp h with h|h
  .rw[h];exact r
  .exact IC t y h
theorem Ew{lo:Int}{n:Nat}:(Mh lo n).length=n:=by simp[Mh]
end
def Ok(G B:Nat)(r:Rat):Prop:=∃z:Nat,r*(G:Rat)=(z:Rat)/\z<=B
theorem Ri{n:Nat}(h:0<n):(n:Rat)≠0:=by
 have:n≠0:=by lia
 exact_mod_cast this
theorem Ok.sz{G B k:Nat}{r:Rat}(h:Ok G B r)(hG:0<G)(g:G<2^k)(b:B<2^k):Sz k r:=by
 obtain⟨z,e,hz⟩:=h
 have e2:r=((z:Int):Rat) / ((G:Int):Rat):=by
  have:=Ri hG
  rw[show(((z:Nat):Int):Rat)=(z:Rat)from rfl,show(((G:Nat):Int):Rat)=(G:Rat)from rfl,<-e]
  grind
 rw[e2]
 exact QZ (by lia) (by simpa using vd hz b) (by simpa using g)
theorem Ok.up{G B t B':Nat}{r:Rat}(h:Ok G B r)(hB:B*t<=B'):Ok (G*t) B' r:=by
 obtain⟨z,e,hz⟩:=h
 refine⟨z*t,?_,uz (wB t hz) hB⟩
 push_cast
 rw[<-e]
 grind
theorem Ok.zero{G B:Nat}:Ok G B 0:=⟨0,by simp,xf _⟩
theorem Ok.one{G B:Nat}(h:G<=B):Ok G B 1:=⟨G,by simp,h⟩
theorem Ok.mix{G B a b t:Nat}{r o:Rat}(hr:Ok G B r)(ho:Ok G B o)(ht:a+b=t)(h0:0<t):Ok (G*t) (B*t) ((r*(a:Rat)+o*(b:Rat)) / (t:Rat)):=by
 obtain⟨z,e1,h1⟩:=hr
 obtain⟨y,e2,h2⟩:=ho
 refine⟨z*a+y*b,?_,?_⟩
 .have:=Ri h0
  push_cast
  rw[<-e1,<-e2]
  grind
 .rw[<-ht,Nat.mul_add]
  exact Nat.add_le_add (wB a h1) (wB b h2)
structure Tr where
 p:Nat
 k:Nat
 b:Nat
 ho:Gc Rat
 h:Int
 l:Int
structure Ld where
 k:Nat
 n:Int
 ow:Gc Rat
structure Stt where
 AE:Gc Ld
 hold:Gc Rat
 nums:Gc Int
inductive Ai where
 |HV (p k:Nat) (n:Int)
 |Ox (a b:Nat)
 |swap (l:Nat) (g:Int) (k:Nat) (n:Int)
 |IG (t:Int) (l:Nat) (g:Int) (k:Nat) (n:Int)
 |Ku (l:Nat) (n:Int)
 |thr (l:Nat) (n:Int) (ws:Gc Int)
 |Nt (p q:Nat) (s:Rat)
noncomputable def shD(rs:Gc Rat):D:=.tup (rs.map aD)
noncomputable def Tr.d(t:Tr):D:=.tup [.int t.p,.int t.k,.int t.b,shD t.ho,.int t.h,.int t.l]
noncomputable def Ld.d(l:Ld):D:=.tup [.int l.k,.int l.n,shD l.ow]
noncomputable def Ai.d:Ai->D
 | .HV p k n=>.tup [.str "bring",.int p,.int k,.int n]
 | .Ox a b=>.tup [.str "pool",.int a,.int b]
 | .swap l g k n=>.tup [.str "swap",.int l,.int g,.int k,.int n]
 | .IG t l g k n=>.tup [.str "trade",.int t,.int l,.int g,.int k,.int n]
 | .Ku l n=>.tup [.str "spoil",.int l,.int n]
 | .thr l n ws=>.tup [.str "throw",.int l,.int n,.tup (ws.map .int)]
 | .Nt p q s=>.tup [.str "sell",.int p,.int q,aD s]
noncomputable def Kv(x:Rat)(os ss:Gc Rat):Gc Rat:=AAK (λs o=>s*(1-x)+o*x) ss os
noncomputable def KD(p q:Nat)(s:Rat)(ss:Gc Rat):Gc Rat:=(ss.set p (ss.getD p 0-ss.getD p 0*s)).set q (ss.getD q 0+ss.getD p 0*s)
noncomputable def Dy(n m:Int)(ss os:Gc Rat):Gc Rat:=AAK (λs o=>(s*n+o*m) / (n+m:Int)) ss os
noncomputable def Gb(t:Tr)(ls:Gc Ld)(ws:Gc Int):Int:=(ls.map λl=>l.n*ws.getD l.k 0).sum+t.b*ws.getD t.k 0
noncomputable def ML(t:Tr)(ls:Gc Ld)(l:Nat)(n:Int)(ws:Gc Int):Rat:=((n*ws.getD ((ls[l]?.map (·.k)).getD 0) 0:Int):Rat) / (Gb t ls ws:Rat)
noncomputable def AW(ls:Gc Ld)(l:Nat):Ld:=ls.getD l ⟨0,0,[]⟩
noncomputable def less(ls:Gc Ld)(l:Nat)(n:Int):Gc Ld:=ls.set l {AW ls l with n:=(AW ls l).n-n}
noncomputable def ZH(p i:Nat):Gc Rat:=(vS p).map λj=>if j=i then 1 else 0
noncomputable def step(t:Tr)(s:Stt):Ai->Stt
 | .HV p k n=>{s with AE:=s.AE++[⟨k,n,ZH t.p p⟩]}
 | .Ox a b=>{s with AE:=less (less s.AE a (AW s.AE a).n) b (AW s.AE b).n++[⟨(AW s.AE a).k,(AW s.AE a).n+(AW s.AE b).n,Dy (AW s.AE a).n (AW s.AE b).n (AW s.AE a).ow (AW s.AE b).ow⟩]}
 | .swap l g k n=>{s with AE:=less s.AE l g++[⟨k,n,(AW s.AE l).ow⟩]}
 | .IG u l g k n=>{s with AE:=less s.AE l g++[⟨k,n,(AW s.AE l).ow⟩],nums:=s.nums++[u]}
 | .Ku l n=>{s with AE:=less s.AE l n}
 | .thr l n ws=>{s with AE:=(less s.AE l n).map λx=>{x with ow:=Kv (ML t s.AE l n ws) (AW s.AE l).ow x.ow},hold:=Kv (ML t s.AE l n ws) (AW s.AE l).ow s.hold}
 | .Nt p q x=>{s with AE:=s.AE.map λy=>{y with ow:=KD p q x y.ow},hold:=KD p q x s.hold}
def Oe(t:Tr):Prop:=1<=t.p/\t.p<=4/\1<=t.k/\t.k<=5/\1<=t.b/\t.b<=20
def Can(t:Tr)(s:Stt):Ai->Prop
 | .HV p k n=>p<t.p/\k<t.k/\1<=n/\n<2^131
 | .Ox a b=>a≠b/\a<s.AE.length/\b<s.AE.length/\0<(AW s.AE a).n/\0<(AW s.AE b).n/\(AW s.AE a).k=(AW s.AE b).k
 | .swap l g k n=>l<s.AE.length/\1<=g/\g<=(AW s.AE l).n/\k<t.k/\k≠(AW s.AE l).k/\1<=n/\n<2^131
 | .IG u l g k n=>l<s.AE.length/\1<=g/\g<=(AW s.AE l).n/\k<t.k/\k≠(AW s.AE l).k/\1<=n/\n<2^131/\u∉s.nums/\0<=u/\u<=9
 | .Ku l n=>l<s.AE.length/\1<=n/\n<=(AW s.AE l).n
 | .thr l n ws=>l<s.AE.length/\1<=n/\n<=(AW s.AE l).n/\ws.length=t.k+1/\∀w∈ws,1<=w/\w<=99
 | .Nt p q x=>p≠q/\p<t.p/\q<t.p/\0<x.num/\x.num<=x.den/\x.den<=12
structure JV(t:Tr)(k:Nat)(s:Stt):Prop where
 len:s.AE.length<=4+k
 kind:∀l∈s.AE,l.k<t.k
 pcs:∀l∈s.AE,0<=l.n/\l.n<2^(131+k)
 own:∀l∈s.AE,l.ow.length=t.p
 hold:s.hold.length=t.p
 nm:s.nums.length<=k
 gb:∃G B:Nat,0<G/\G<=B/\B<2^(30+170*k)/\(∀l∈s.AE,∀r∈l.ow,Ok G B r)/\∀r∈s.hold,Ok G B r
theorem JV.sz{t:Tr}{k:Nat}{s:Stt}(h:JV t k s):(∀l∈s.AE,∀r∈l.ow,Sz (30+170*k) r)/\∀r∈s.hold,Sz (30+170*k) r:=by
 obtain⟨G,B,g0,gb,b,h1,h2⟩:=h.gb
 exact⟨λl hl r hr=>(h1 l hl r hr).sz g0 (vd gb b) b,λr hr=>(h2 r hr).sz g0 (vd gb b) b⟩
theorem BD{ls:Gc Ld}{l:Nat}(h:l<ls.length):AW ls l∈ls:=by
 unfold AW
 rw[vO,ux h]
 exact yx h
theorem GJ{ls:Gc Ld}{l:Nat}(h:l<ls.length):ls[l]?=Fk (AW ls l):=by
 unfold AW
 rw[vO,ux h]
 rfl
theorem SD{ls:Gc Ld}{l:Nat}{n:Int}{x:Ld}(h:x∈less ls l n)(hl:l<ls.length):x∈ls\/x={AW ls l with n:=(AW ls l).n-n}:=by
 unfold less at h
 rcases xw h with h|h
 .exact .inl h
 .exact .inr h
theorem FZ{ls:Gc Ld}{l:Nat}{n:Int}:(less ls l n).length=ls.length:=by simp[less]
section
variable{S:Sto}{p:Nat}
theorem Nl{P:Int->Prop}:∀{ys:Gc D},(∀y∈ys,∃i:Int,y=.int i/\P i)->∃ns:Gc Int,ys=ns.map D.int/\∀n∈ns,P n
 | [],_=>⟨[],rfl,λn h=>by cases h⟩
 |y::ys,h=>by
  obtain⟨i,rfl,hi⟩:=h y vA
  obtain⟨ns,rfl,hn⟩:=Nl (P:=P) (ys:=ys) λz hz=>h z (uv _ hz)
  exact⟨i::ns,rfl,λn hn'=>by
   rcases uw.mp hn' with e|e
   .rw[e];exact hi
   .exact hn n e⟩
theorem U2{ns:Gc Int}(h:∀n∈ns,0<=n/\n<=8):0<=ns.sum/\ns.sum<=8*ns.length/\∀n∈ns,n<=ns.sum:=by
 induction ns with
 |nil=>simp
 |cons a l ih=>
  have h1:=h a vA
  obtain⟨i1,i2,i3⟩:=ih λn hn=>h n (uv _ hn)
  rw[xT,wC]
  refine⟨by lia,by push_cast;lia,λn hn=>?_⟩
  rcases uw.mp hn with e|e
  .lia
  .have:=i3 n e;lia
theorem W3 (h : Dx p S) {n : Nat} (hn : n ≤ 20) : ∃ (ns : Gc Int) (S' : Sto), C8 [] (tNm 1) Ca (eOp (o2 wIx) [(GX [(eC (.int 0)), (eC (.int 1)), (AJ AL [(eV 0), (eC (.int 4))]), (AJ AL [(eV 0), (eC (.int 9))])]), (AJ AL [(eV 0), (eC (.int 4))])]) (Mh 0 n) [] [Fk (.ref p), uk] S = Fk (ns.map D.int, S') /\ Pn p S S' /\ ns.length = n /\ ∀ i ∈ ns, 0 ≤ i /\ i ≤ 8 := by
  obtain ⟨ys, S', e, hI, l, r⟩ := Lh (gs := []) (t := tNm 1) (f := eOp (o2 wIx) [(GX [(eC (.int 0)), (eC (.int 1)), (AJ AL [(eV 0), (eC (.int 4))]), (AJ AL [(eV 0), (eC (.int 9))])]), (AJ AL [(eV 0), (eC (.int 4))])]) (C := [Fk (.ref p)]) (m := 1) (I := Pn p S) (R := fun _ y => ∃ i : Int, y = .int i /\ 0 ≤ i /\ i ≤ 8)
    (fun _ _ => Af) (ds := Mh 0 n) (acc := []) (os := [uk]) rfl (Pn.refl h) (by rw [Ew]; simp; exact AS (by lia)) fun d _ os S0 ho I0 => by
      obtain ⟨o, rfl⟩ := U7 ho
      obtain ⟨r1, S1, e1, a1, b1, p1⟩ := Al I0.pen (n := 4) (by decide) (by decide)
      obtain ⟨r2, S2, e2, a2, b2, p2⟩ := Al p1.pen (n := 9) (by decide) (by decide)
      obtain ⟨r3, S3, e3, a3, b3, p3⟩ := Al p2.pen (n := 4) (by decide) (by decide)
      obtain ⟨x, ex, hx⟩ := pick (xs := [.int 0, .int 1, .int r1, .int r2]) (r := r3) a3 (by simpa using b3)
      refine ⟨[Fk d], x, S3, rfl, by simp, by simp [e1, e2, e3, ex], ((I0.trans p1).trans p2).trans p3, ?_⟩
      simp only [uw, vN, wF] at hx
      rcases hx with rfl | rfl | rfl | rfl
      · exact ⟨0, rfl, by decide, by decide⟩
      · exact ⟨1, rfl, by decide, by decide⟩
      · exact ⟨r1, rfl, by lia, by lia⟩
      · exact ⟨r2, rfl, by lia, by lia⟩
  obtain ⟨ns, rfl, hns⟩ := Nl (IC r)
  exact ⟨ns, S', by simpa using e, hI, by simpa [Ew] using l, hns⟩
noncomputable def L0(ns:Gc Int):Gc Rat:=ns.map λ(n:Int)=>(n:Rat) / (ns.sum:Rat)
theorem Qa{ns:Gc Int}(h:∀n∈ns,0<=n/\n<=8)(hs:0<ns.sum):∀r∈L0 ns,Ok ns.sum.toNat ns.sum.toNat r:=by
 intro r hr
 obtain⟨n,hn,rfl⟩:=vp.mp hr
 have h1:=h n hn
 have h2:=(U2 h).2.2 n hn
 refine⟨n.toNat,?_,by lia⟩
 have e1:((ns.sum.toNat:Nat):Rat)=(ns.sum:Rat):=by
  have:((ns.sum.toNat:Nat):Int)=ns.sum:=by lia
  exact congrArg (λz:Int=>(z:Rat)) this
 have e2:((n.toNat:Nat):Rat)=(n:Rat):=by
  have:((n.toNat:Nat):Int)=n:=by lia
  exact congrArg (λz:Int=>(z:Rat)) this
 rw[e1,e2]
 have:(ns.sum:Rat)≠0:=by
  intro z
  have:=yN.mp z
  lia
 grind
theorem Y4{s:Rat}:∀{ns:Gc Int},(ns.map λ(n:Int)=>(n:Rat) / s).sum=(ns.sum:Rat) / s
 | []=>by simp;grind
 |n::ns=>by
  rw[vT,xT,xT,Y4 (ns:=ns)]
  push_cast
  grind
theorem Ut{ns:Gc Int}(hs:0<ns.sum):(L0 ns).sum=1:=by
 unfold L0
 rw[Y4]
 have:(ns.sum:Rat)≠0:=by
  intro z
  have:=yN.mp z
  lia
 grind
theorem V3{ns:Gc Int}{q:Nat}(hq:S[q]?=Fk (.lst (ns.map D.int)))(hl:ns.length<=20)(hn:∀n∈ns,0<=n/\n<=8)(hs:0<ns.sum):C8 [(q,ns.map D.int)] (tNm 1) Ca (AJ Cp [eV 1,eOp (o1 Zp) [eV 0]]) (ns.map D.int) [] [Fk (.ref q),uk] S=Fk ((L0 ns).map aD,S):=by
 obtain⟨s1,s2,s3⟩:=U2 hn
 have:=comp_map (gs:=[(q,ns.map D.int)]) (t:=tNm 1) (f:=AJ Cp [eV 1,eOp (o1 Zp) [eV 0]]) (C:=[Fk (.ref q)]) (m:=1) (g:=λd=>match d with| .int n=>aD ((n:Rat) / (ns.sum:Rat))|d=>d) (S:=S) (λg hg=>by rw[vQ.mp hg];exact AY hq) (ds:=ns.map D.int) (acc:=[]) (os:=[uk]) rfl (by simp;exact AS (by lia)) λd hd os ho=>by
  obtain⟨o,rfl⟩:=U7 ho
  obtain⟨i,hi,rfl⟩:=vp.mp hd
  have m:=Zy (S:=S) (t:=i) hs (Fx (by lia) (by lia))
  exact⟨[Fk (.int i)],rfl,by simp,by simp[Bb hq,HY,m]⟩
 have e2:(ns.map D.int).map (λd=>match d with| .int n=>aD ((n:Rat) / (ns.sum:Rat))|d=>d)=(L0 ns).map aD:=by
  unfold L0
  rw[v5,v5]
  rfl
 rw[e2]at this
 simpa using this
theorem WN(h:Dx p S){n:Nat}(h1:1<=n)(h2:n<=4):∃rs S',Ff [.ref p,.int n] S=Fk (shD rs,S')/\Pn p S S'/\(rs.length=n/\rs.sum=1)/\∃G:Nat,0<G/\G<=32/\∀r∈rs,Ok G G r:=by
 obtain⟨ns,S1,e1,p1,l1,i1⟩:=W3 (n:=n) h (by lia)
 obtain⟨s1,s2,s3⟩:=U2 i1
 have hq:(S1++[Cl.lst (ns.map D.int)])[S1.length]?=Fk (.lst (ns.map D.int)):=vK
 have pp:Dx p (S1++[Cl.lst (ns.map D.int)]):=p1.pen.app _
 have hlt:=p1.pen.lt
 have r1:Ma (n:Int)=true:=GB (by lia) (by lia)
 by_cases hz:ns.sum=0
 .obtain⟨r,S2,e2,a2,b2,p2⟩:=Al pp (n:=n) (by lia) (by lia)
  have hq2:S2[S1.length]?=Fk (.lst (ns.map D.int)):=p2.get hq (by lia)
  have hn':∀x∈ns.set r.toNat 1,0<=x/\x<=8:=λx hx=>by
   rcases xw hx with hx|rfl
   .exact i1 x hx
   .exact⟨by decide,by decide⟩
  have hs':0<(ns.set r.toNat 1).sum:=by
   have:=(U2 hn').2.2 1 (List.mem_set (by lia) 1)
   lia
  have hq3:(S2.set S1.length (.lst ((ns.set r.toNat 1).map D.int)))[S1.length]?=Fk (.lst ((ns.set r.toNat 1).map D.int)):=vJ (Ax hq2)
  have e3:=V3 hq3 (by simp;lia) hn' hs'
  have ix:ixN ns.length r=Fk r.toNat:=Wl a2 (by lia)
  refine⟨L0 (ns.set r.toNat 1),S2.set S1.length (.lst ((ns.set r.toNat 1).map D.int)),?_,⟨?_,?_⟩,⟨by simp[L0,l1],Ut hs'⟩,_,(show 0<(ns.set r.toNat 1).sum.toNat by lia),?_,Qa hn' hs'⟩
  .have sq3:=Gm hq3
   rw[yy]at e3 sq3 hq3
   simp[Ff,MV,r1,e1,Bb hq,HY,hz,e2,AY hq2,ix,sq3,e3,shD]
  .have g:DQ [p] S (S1++[Cl.lst (ns.map D.int)]):=p1.same.trans .app
   refine⟨uz (g.trans p2.same).len (by simp),λm hm hmp=>?_⟩
   rw[u3 (by have:=p1.same.len;lia)]
   exact(g.trans p2.same).keep m hm hmp
  .obtain⟨ds,ed,hd⟩:=p2.pen
   exact⟨ds,by rw[u3 (by lia)];exact ed,hd⟩
  .have:=(U2 hn').2.1
   rw[xi]at this
   lia
 .have hz':(ns.sum==0)=false:=by simpa using hz
  have e3:=V3 hq (by lia) i1 (by lia)
  refine⟨L0 ns,S1++[Cl.lst (ns.map D.int)],?_,⟨p1.same.trans .app,pp⟩,⟨by simp[L0,l1],Ut (by lia)⟩,_,(show 0<ns.sum.toNat by lia),by lia,Qa i1 (by lia)⟩
  have sq3:=Gm hq
  simp[Ff,MV,r1,e1,Bb hq,HY,hz',sq3,e3,shD]
end
section
variable{S:Sto}{p:Nat}
theorem gT:(2:Nat)<Im:=Fx (n:=2) (by decide) (by decide)
theorem Ru(h:Dx p S):∃n S',Bn [.ref p] S=Fk (.int n,S')/\Pn p S S'/\1<=n/\n<2^130:=by
 obtain⟨r1,S1,e1,a1,b1,p1⟩:=Al h (n:=99) (by decide) (by decide)
 obtain⟨r2,S2,e2,a2,b2,p2⟩:=Al p1.pen (n:=4) (by decide) (by decide)
 obtain⟨r3,S3,e3,a3,b3,p3⟩:=Al p2.pen (n:=40) (by decide) (by decide)
 obtain⟨r4,S4,e4,a4,b4,p4⟩:=Al p3.pen (n:=999) (by decide) (by decide)
 obtain⟨r5,S5,e5,a5,b5,p5⟩:=Al p4.pen (n:=7) (by decide) (by decide)
 have pp:=(((p1.trans p2).trans p3).trans p4).trans p5
 have d2:=gT
 have go:∀g:Int,1<=g->g<2^130->∃n:Int,atI [D.int (1+r2),.int (1+r3),.int (1+r4),.int g] (r5 / 2)=Fk (.int n)/\1<=n/\n<2^130:=λg g1 g2=>by
  obtain⟨x,ex,hx⟩:=pick (xs:=[D.int (1+r2),.int (1+r3),.int (1+r4),.int g]) (r:=r5 / 2) (by lia) (by simp;lia)
  simp only[uw,vN,wF]at hx
  rcases hx with rfl|rfl|rfl|rfl
  .exact⟨_,ex,by lia,by lia⟩
  .exact⟨_,ex,by lia,by lia⟩
  .exact⟨_,ex,by lia,by lia⟩
  .exact⟨_,ex,g1,g2⟩
 first
  |(obtain⟨n,en,n1,n2⟩:=go (10^39+r1) (by lia) (by lia)
    exact⟨n,S5,by simp[Bn,LY,e1,e2,e3,e4,e5,d2]at en ⊢; simp[en],pp,n1,n2⟩)
  |(obtain⟨n,en,n1,n2⟩:=go (10^30+r1) (by lia) (by lia)
    exact⟨n,S5,by simp[Bn,LY,e1,e2,e3,e4,e5,d2]at en ⊢; simp[en],pp,n1,n2⟩)
theorem P4(h:Dx p S):∃n S',Bn [.ref p] S=Fk (.int n,S')/\Pn p S S'/\1<=n/\n<2^131:=by
 obtain⟨n,S',a,b,c,d⟩:=Ru h
 exact⟨n,S',a,b,c,Int.lt_trans d (by decide)⟩
theorem Kn{r:Int}(h:0<=r):∃m:Nat,r=m:=⟨r.toNat,by lia⟩
def Yn(t:Tr):Prop:=0<=t.h/\t.h<=9/\0<=t.l/\t.l<=9
theorem Yw(h:Dx p S):∃t S',KA [.ref p] S=Fk (Tr.d t,S')/\Pn p S S'/\Oe t/\((t.ho.length=t.p/\t.ho.sum=1)/\Yn t)/\∃G:Nat,0<G/\G<=32/\∀r∈t.ho,Ok G G r:=by
 obtain⟨r1,S1,e1,a1,b1,p1⟩:=Al h (n:=4) (by decide) (by decide)
 obtain⟨r2,S2,e2,a2,b2,p2⟩:=Al p1.pen (n:=5) (by decide) (by decide)
 obtain⟨r3,S3,e3,a3,b3,p3⟩:=Al p2.pen (n:=3) (by decide) (by decide)
 obtain⟨r4,S4,e4,a4,b4,p4⟩:=Al p3.pen (n:=20) (by decide) (by decide)
 obtain⟨r5,S5,e5,a5,b5,p5⟩:=Al p4.pen (n:=2) (by decide) (by decide)
 obtain⟨m1,rfl⟩:=Kn a1
 obtain⟨m2,rfl⟩:=Kn a2
 obtain⟨b,eb,hb1,hb2⟩:∃b:Nat,atI [D.int (1+r3),.int (1+r4)] r5=Fk (.int b)/\1<=b/\b<=20:=by
  obtain⟨x,ex,hx⟩:=pick (xs:=[D.int (1+r3),.int (1+r4)]) (r:=r5) a5 (by simpa using b5)
  obtain⟨m3,rfl⟩:=Kn a3
  obtain⟨m4,rfl⟩:=Kn a4
  simp only[uw,vN,wF]at hx
  rcases hx with rfl|rfl
  .exact⟨1+m3,by rw[ex];simp,by lia,by lia⟩
  .exact⟨1+m4,by rw[ex];simp,by lia,by lia⟩
 obtain⟨rs,S6,e6,p6,l6,G,g0,g1,g2⟩:=WN p5.pen (n:=1+m1) (by lia) (by lia)
 obtain⟨r7,S7,e7,a7,b7,p7⟩:=Al p6.pen (n:=10) (by decide) (by decide)
 obtain⟨r8,S8,e8,a8,b8,p8⟩:=Al p7.pen (n:=10) (by decide) (by decide)
 rw[show((1+m1:Nat):Int)=1+(m1:Int) by lia]at e6
 refine⟨⟨1+m1,1+m2,b,rs,r7,r8⟩,S8,?_,((((((p1.trans p2).trans p3).trans p4).trans p5).trans p6).trans p7).trans p8,⟨by simp,by simp;lia,by simp,by simp;lia,hb1,hb2⟩,⟨l6,a7,by show r7<=9;lia,a8,by show r8<=9;lia⟩,G,g0,g1,g2⟩
 simp[KA,O9,e1,e2,e3,e4,e5,eb,e6,e7,e8,Tr.d]
theorem Z0(h:Dx p S):∃x S',Ir [.ref p] S=Fk (aD x,S')/\Pn p S S'/\0<x.num/\x.num<=x.den/\x.den<=12:=by
 obtain⟨r1,S1,e1,a1,b1,p1⟩:=Al h (n:=12) (by decide) (by decide)
 obtain⟨r2,S2,e2,a2,b2,p2⟩:=Al p1.pen (n:=1+r1) (by lia) (by lia)
 have m:=Zy (S:=S2) (t:=1+r2) (b:=1+r1) (by lia) (Fx (by lia) (by lia))
 obtain⟨m1,rfl⟩:=Kn a1
 obtain⟨m2,rfl⟩:=Kn a2
 have rp:=Qh (1+(m2:Int)) (1+m1) (by lia)
 have eb:(((1+(m1:Int):Int)):Rat)=(((1+m1:Nat)):Rat):=by
  have:(1+(m1:Int))=((1+m1:Nat):Int):=by lia
  rw[this];rfl
 have en:(1+(m2:Int)).natAbs=1+m2:=by lia
 have gp:0<AAJ (1+m2) (1+m1):=Nat.gcd_pos_of_pos_left _ (by lia)
 obtain⟨q,hq⟩:=Nat.gcd_dvd_left (1+m2) (1+m1)
 obtain⟨q',hq'⟩:=Nat.gcd_dvd_right (1+m2) (1+m1)
 refine⟨((1+(m2:Int):Int):Rat) / ((1+(m1:Int):Int):Rat),S2,?_,p1.trans p2,?_,?_,?_⟩
 .simp[Ir,PF,e1,e2,m]
 .rw[eb,rp.1,en]
  generalize AAJ (1+m2) (1+m1)=g at*
  have:(1+(m2:Int))=((g*q:Nat):Int):=by lia
  rw[this,ABK,AAs _ (by lia)]
  have:q≠0:=λz=>by subst z;lia
  lia
 .rw[eb,rp.1,rp.2,en]
  generalize AAJ (1+m2) (1+m1)=g at*
  have t1:(1+(m2:Int))=((g*q:Nat):Int):=by lia
  rw[t1,ABK,AAs _ (by lia),hq',Nat.mul_div_cancel_left _ gp]
  have:q<=q':=by
   have:g*q<=g*q':=by lia
   exact Nat.le_of_mul_le_mul_left this gp
  lia
 .rw[eb,rp.2]
  exact uz (Nat.div_le_self _ _) (by lia)
theorem Zj (h : Dx p S) {n : Nat} (hn : n ≤ 6) : ∃ (ws : Gc Int) (S' : Sto), Fw [.ref p, .int n] S = Fk (.tup (ws.map .int), S') /\ Pn p S S' /\ ws.length = n /\ ∀ w ∈ ws, 1 ≤ w /\ w ≤ 99 := by
  obtain ⟨ys, S', e, hI, l, r⟩ := Lh (gs := []) (t := tNm 1) (f := (eOp (o2 EA) [(eC (.int 1)), (eOp (o2 wIx) [(GX [(AJ AL [(eV 0), (eC (.int 3))]), (AJ AL [(eV 0), (eC (.int 99))])]), (AJ AL [(eV 0), (eC (.int 2))])])])) (C := [Fk (.ref p)]) (m := 1) (I := Pn p S) (R := fun _ y => ∃ i : Int, y = .int i /\ 1 ≤ i /\ i ≤ 99)
    (fun _ _ => Af) (ds := Mh 0 n) (acc := []) (os := [uk]) rfl (Pn.refl h) (by rw [Ew]; simp; exact AS (by lia)) fun d _ os S0 ho I0 => by
      obtain ⟨o, rfl⟩ := U7 ho
      obtain ⟨r1, S1, e1, a1, b1, p1⟩ := Al I0.pen (n := 3) (by decide) (by decide)
      obtain ⟨r2, S2, e2, a2, b2, p2⟩ := Al p1.pen (n := 99) (by decide) (by decide)
      obtain ⟨r3, S3, e3, a3, b3, p3⟩ := Al p2.pen (n := 2) (by decide) (by decide)
      obtain ⟨x, ex, hx⟩ := pick (xs := [.int r1, .int r2]) (r := r3) a3 (by simpa using b3)
      simp only [uw, vN, wF] at hx
      rcases hx with rfl | rfl
      · exact ⟨[Fk d], .int (1 + r1), S3, rfl, by simp, by simp [e1, e2, e3, ex], ((I0.trans p1).trans p2).trans p3, _, rfl, by lia, by lia⟩
      · exact ⟨[Fk d], .int (1 + r2), S3, rfl, by simp, by simp [e1, e2, e3, ex], ((I0.trans p1).trans p2).trans p3, _, rfl, by lia, by lia⟩
  obtain ⟨ns, rfl, hns⟩ := Nl (IC r)
  have r1 : Ma (n : Int) = true := GB (by lia) (by lia)
  have e' : C8 [] (tNm 1) Ca (eOp (o2 EA) [(eC (.int 1)), (eOp (o2 wIx) [(GX [(AJ AL [(eV 0), (eC (.int 3))]), (AJ AL [(eV 0), (eC (.int 99))])]), (AJ AL [(eV 0), (eC (.int 2))])])]) (Mh 0 n) [] [Fk (.ref p), uk] S = Fk (ns.map D.int, S') := by simpa using e
  exact ⟨ns, S', by simp [Fw, Od, r1, e'], hI, by simpa [Ew] using l, hns⟩
def Kc(t:Tr)(ls:Gc Ld):Prop:=(∀l∈ls,l.k<t.k/\1<=l.n/\l.n<2^131/\l.ow.length=t.p/\l.ow.sum=1)/\∃G:Nat,0<G/\G<=32^ls.length/\∀l∈ls,∀r∈l.ow,Ok G G r
theorem Kc.snoc{t:Tr}{ls:Gc Ld}{l:Ld}(h:Kc t ls)(h1:l.k<t.k/\1<=l.n/\l.n<2^131/\l.ow.length=t.p/\l.ow.sum=1){g:Nat}(g0:0<g)(g1:g<=32)(g2:∀r∈l.ow,Ok g g r):Kc t (ls++[l]):=by
 obtain⟨ha,G,G0,G1,G2⟩:=h
 refine⟨λx hx=>?_,G*g,zH G0 g0,?_,λx hx r hr=>?_⟩
 .rcases vY.mp hx with hx|hx
  .exact ha x hx
  .rw[vQ.mp hx];exact h1
 .rw[wM,ABS,ABF]
  exact yo G1 g1
 .rcases vY.mp hx with hx|hx
  .exact(G2 x hx r hr).up (u4 _)
  .rw[vQ.mp hx]at hr
   have:=(g2 r hr).up (t:=G) (B':=G*g) (by rw[yU];exact u4 _)
   rwa [yU g G]at this
end
section
variable{S:Sto}{p:Nat}
theorem Kc.nil{t:Tr}:Kc t []:=⟨λl hl=>(nomatch hl),1,by decide,by simp,λl hl=>(nomatch hl)⟩
theorem aL(h:Dx p S){t:Tr}(ht:Oe t):∃(ls:Gc Ld) (S':Sto),KO [.ref p,t.d] S=Fk (.tup (ls.map Ld.d),S')/\Pn p S S'/\Kc t ls/\ls.length<=4:=by
 obtain⟨t1,t2,t3,t4,t5,t6⟩:=ht
 have hlt:=h.lt
 have hq:(S++[Cl.lst []])[S.length]?=Fk (.lst []):=vK
 obtain⟨r1,S1,e1,a1,b1,p1⟩:=Al (h.app [Cl.lst []]) (n:=5) (by decide) (by decide)
 obtain⟨r2,S2,e2,a2,b2,p2⟩:=Al p1.pen (n:=3) (by decide) (by decide)
 obtain⟨n,en,hn⟩:∃n:Nat,atI [D.int 0,.int 1,.int r1] r2=Fk (.int n)/\n<=4:=by
  obtain⟨x,ex,hx⟩:=pick (xs:=[D.int 0,.int 1,.int r1]) (r:=r2) a2 (by simpa using b2)
  simp only[uw,vN,wF]at hx
  rcases hx with rfl|rfl|rfl
  .exact⟨0,ex,by decide⟩
  .exact⟨1,ex,by decide⟩
  .exact⟨r1.toNat,by rw[ex,wD a1],by lia⟩
 have q2:S2[S.length]?=Fk (.lst []):=(p1.trans p2).get hq (by lia)
 have rn:Ma (n:Int)=true:=GB (by lia) (by lia)
 obtain⟨E',S',ef,ls,o,rfl,f1,f2,f3,f4,f5⟩:=IY (gs:=[]) (t:=tNm 3) (b:=Ci (RC R7 (eV 2) [Cw [AJ AL [eV 0,eOp (o2 wIx) [eV 1,eC (.int 1)]],AJ Bn [eV 0],AJ Ff [eV 0,eOp (o2 wIx) [eV 1,eC (.int 0)]]]]))
  (I:=λds E S'=>∃(ls:Gc Ld) (o:uo D),E=[Fk (.ref p),Fk t.d,Fk (.ref S.length),o]/\S'[S.length]?=Fk (.lst (ls.map Ld.d))/\Dx p S'/\DQ [p] S S'/\Kc t ls/\ls.length+ds.length<=4)
  (λ_ _ _ _=>Af) (ds:=Mh 0 n) (E:=[Fk (.ref p),Fk t.d,Fk (.ref S.length),uk]) (S:=S2)
  ⟨[],uk,rfl,q2,p2.pen,DQ.app.trans (p1.trans p2).same,Kc.nil,by simp[Ew];exact hn⟩ (by
    rintro d ds E S0 ⟨ls,o,rfl,i1,i2,i3,i4,i5⟩
    obtain⟨x1,T1,g1,c1,d1,k1⟩:=Al i2 (n:=t.k) (by lia) (by lia)
    obtain⟨x2,T2,g2,k2,c2,d2⟩:=P4 k1.pen
    obtain⟨rs,T3,g3,k3,l3,G,G0,G1,G2⟩:=WN k2.pen (n:=t.p) t1 t2
    obtain⟨m1,rfl⟩:=Kn c1
    have kk:=(k1.trans k2).trans k3
    have j1:T3[S.length]?=Fk (.lst (ls.map Ld.d)):=kk.get i1 (by lia)
    have hz:ls.length<sizeLine:=uy (show ls.length<5 by lia) (AS (by decide))
    refine⟨[Fk (.ref p),Fk t.d,Fk (.ref S.length),Fk d],[Fk (.ref p),Fk t.d,Fk (.ref S.length),Fk d],T3.set S.length (.lst ((ls++[Ld.mk m1 x2 rs]).map Ld.d)),by simp,?_,ls++[Ld.mk m1 x2 rs],Fk d,rfl,vJ (Ax j1),?_,?_,i4.snoc (l:=Ld.mk m1 x2 rs) ⟨show m1<t.k by lia,c2,d2,l3⟩ G0 G1 G2,by simp at i5 ⊢; lia⟩
    .have e3:atI [D.int t.p,.int t.k,.int t.b,shD t.ho,.int t.h,.int t.l] 1=Fk (.int t.k):=by simp
     simp[Tr.d,g1,g2,g3,AY i1,AY j1,hz,Ld.d]
    .obtain⟨ds',ed,hd⟩:=kk.pen
     exact⟨ds',by rw[u3 (by lia)];exact ed,hd⟩
    .refine⟨uz (i3.trans kk.same).len (by simp),λm hm hmp=>?_⟩
     rw[u3 (by lia)]
     exact(i3.trans kk.same).keep m hm hmp)
 refine⟨ls,S',?_,⟨f3,f2⟩,f4,by simpa using f5⟩
 simp[KO,Pw,e1,e2,en,rn,ef,Bb f1]
noncomputable def De(x:Ld):Cl:=.lst [.int x.k,.int x.n,shD x.ow]
structure SAt(S:Sto)(s l m:Nat)(as:Gc Nat)(st:Stt):Prop where
 root:S[s]?=Fk (.lst [.ref l,shD st.hold,.ref m])
 lo:S[l]?=Fk (.lst (as.map .ref))
 nu:S[m]?=Fk (.lst (st.nums.map .int))
 ld:∀(i a:Nat) (x:Ld),as[i]?=Fk a->st.AE[i]?=Fk x->S[a]?=Fk (De x)
 len:as.length=st.AE.length
 nd:(s::l::m::as).Nodup
theorem cE:∀{ls:Gc Ld} {acc:Gc D} {o:uo D} {S:Sto},acc.length+ls.length<=100->C8 [] (tNm 0) Ca (iM (o1 Qz) [eV 0]) (ls.map Ld.d) acc [o] S=Fk (acc++(List.range' S.length ls.length).map D.ref,S++ls.map De)
 | [],acc,o,S,h=>by rw[wc,GH Af];simp
 |x::ls,acc,o,S,h=>by
  rw[vT,Kb (E1:=[Fk x.d]) Af (uy (show acc.length<101 by simp at h;lia) (AS (by decide))) (by simp) LJ]
  have:iM (o1 Qz) [eV 0] [Fk x.d] S=Fk (.ref S.length,S++[De x]):=by simp[Ld.d,De]
  rw[this,Bt,cE (by simp at h ⊢; lia)]
  simp[List.range'_succ]
theorem getElem?_at{α:Type}{xs:Gc α}{x:α}{n:Nat}(h:n=xs.length):(xs++[x])[n]?=Fk x:=by subst h;exact vK
theorem WC{t:Tr}{ls:Gc Ld}{x:D}(hl:ls.length<=20):∃s l m as S',Gf [.tup [t.d,.tup (ls.map Ld.d),x]] S=Fk (.ref s,S')/\SAt S' s l m as ⟨ls,t.ho,[]⟩/\DQ [] S S'/\(∀n∈s::l::m::as,S.length<=n):=by
 have e:=cE (ls:=ls) (acc:=[]) (o:=uk) (S:=S) (by simp;lia)
 refine⟨S.length+ls.length+2,S.length+ls.length,S.length+ls.length+1,List.range' S.length ls.length,S++ls.map De++[.lst ((List.range' S.length ls.length).map D.ref)]++[.lst []]++[.lst [.ref (S.length+ls.length),shD t.ho,.ref (S.length+ls.length+1)]],?_,⟨?_,?_,?_,?_,?_,?_⟩,?_,?_⟩
 .simp[Gf,PK,Tr.d,e,shD]
  lia
 .exact getElem?_at (by simp;lia)
 .rw[uq (by simp),uq (by simp)]
  exact getElem?_at (by simp)
 .rw[uq (by simp;lia)]
  exact getElem?_at (by simp;lia)
 .intro i a y ha hy
  have hi:i<ls.length:=(vB.mp hy).1
  have:a=S.length+i:=by
   rw[List.getElem?_range' hi]at ha
   simp at ha;lia
  subst this
  rw[uq (by simp;lia),uq (by simp;lia),uq (by simp;lia),vo (by lia)]
  have hy':ls[i]?=Fk y:=hy
  simp[hy']
 .simp
 .rw[xP,xP,xP]
  refine⟨?_,?_,?_,List.nodup_range'⟩
  .simp only[uw,zV];lia
  .simp only[uw,zV];lia
  .simp only[zV];lia
 .rw[yf,yf,yf]
  exact .app
 .intro n hn
  simp only[uw,zV]at hn
  lia
end
section
variable{S:Sto}{p:Nat}
@[simp] theorem tE{rs:List Rat}{S:Sto}:sqD S (shD rs)=some (rs.map aD,[]):=nr rfl
@[simp] theorem tL{rs:List Rat}{S:Sto}:dr S (shD rs)=.val (shD rs):=nr rfl
@[simp] theorem qq{rs:List Rat}:asS (.val (shD rs))=some (rs.map aD):=nr rfl
@[simp] theorem pM{S:Sto}{r:List D}:dr (S++[.lst r]) (.ref S.length)=.own r:=Bb List.getElem?_concat_length
@[simp] theorem iL{S:Sto}{r:List D}:GY (S++[.lst r]) S.length=some r:=AY List.getElem?_concat_length
theorem set_same{S:Sto}{q:Nat}{c:Cl}(h:S[q]?=Fk c):S.set q c=S:=by
 apply yj
 intro i
 by_cases e:q=i
 .subst e;rw[vJ (Ax h),h]
 .rw[u3 e]
theorem VE{gs:Gd}{t:Tf}{b:Ex}{C:En}{m q:Nat}{h:D->D}{I:Sto->Prop}(hg:∀S,I S->gOk gs S)(hI:∀S c,I S->I (S.set q c)):∀{ds acc:Gc D} {os:En} {S:Sto},os.length=m->I S->S[q]?=Fk (.lst acc)->acc.length+ds.length<=1000->(∀d∈ds,∀os S acc,os.length=m->I S->S[q]?=Fk (.lst acc)->acc.length<sizeLine->∃us us',t d (C++os) S=Fk (C++us)/\b (C++us) S=Fk (.nx,C++us',S.set q (.lst (acc++[h d])))/\us'.length=m)->∃os',os'.length=m/\Qd gs t b ds (C++os) S=Fk (.nx,C++os',S.set q (.lst (acc++ds.map h)))
 | [],acc,os,S,ho,hS,hq,hz,H=>⟨os,ho,by
     rw[Lg (hg S hS)]
     have:S.set q (.lst (acc++List.map h []))=S:=by
      rw[wc,xh]
      exact set_same hq
     rw[this]⟩
 |d::ds,acc,os,S,ho,hS,hq,hz,H=>by
  have hl:=Ax hq
  obtain⟨us,us',e1,e2,hu⟩:=H d vA os S acc ho hS hq (uy (show acc.length<1001 by simp at hz;lia) (uz (by decide) (show 1001<=sizeLine by decide)))
  obtain⟨os',ho',e3⟩:=VE hg hI (ds:=ds) (acc:=acc++[h d]) (os:=us') (S:=S.set q (.lst (acc++[h d]))) hu (hI S _ hS) (vJ hl) (by simp at hz ⊢; lia) λd' hd=>H d' (uv _ hd)
  refine⟨os',ho',?_⟩
  rw[ID (hg S hS),e1,Bt,e2,Bt,ZF,e3,List.set_set]
  simp
noncomputable def un:D->Rat
 | .tup [.int n,.int d]=>(n:Rat) / (d:Rat)
 |_=>0
theorem dj(r:Rat):un (aD r)=r:=GN r
noncomputable def VR(f:Rat->Rat->Rat):D->D
 | .tup [a,b]=>aD (f (un a) (un b))
 |d=>d
theorem SF{f:Rat->Rat->Rat}:∀{ss os:Gc Rat},(Qk (ss.map aD) (os.map aD)).map (VR f)=(AAK f ss os).map aD
 | [],os=>by simp[Qk]
 |s::ss,[]=>by simp[Qk]
 |s::ss,o::os=>by
  have ih:=SF (f:=f) (ss:=ss) (os:=os)
  unfold Qk at ih⊢
  simp only[vT,List.zip_cons_cons,List.zipWith_cons_cons]at ih⊢
  rw[ih]
  simp[VR,dj]
theorem Ym{ss os:Gc Rat}{d:D}(h:d∈Qk (ss.map aD) (os.map aD)):∃s∈ss,∃o∈os,d=.tup [aD s,aD o]:=by
 unfold Qk at h
 obtain⟨⟨a,b⟩,h1,rfl⟩:=vp.mp h
 have h2:=xQ h1
 obtain⟨s,hs,rfl⟩:=vp.mp h2.1
 obtain⟨o,ho,rfl⟩:=vp.mp h2.2
 exact⟨s,hs,o,ho,rfl⟩
theorem j9:aD 1=.tup [.int 1,.int 1]:=rfl
theorem UR(n:Int):aD (n:Rat)=.tup [.int n,.int 1]:=by
 unfold aD
 simp
theorem Pq{n:Int}{k:Nat}(h:n.natAbs<2^k)(hk:1<=k):Sz k (n:Rat):=by
 unfold Sz
 have:1<2^k:=AAc (by lia)
 simp[h,this]
theorem cL{k:Nat}(hk:1<=k):Sz k (1:Rat):=by
 have:1<2^k:=AAc (by lia)
 exact⟨by simpa using this,by simpa using this⟩
theorem Vu{x:Rat}{ss os:Gc Rat}{j i:Nat}(hs:∀r∈ss,Sz j r)(ho:∀r∈os,Sz j r)(hx:Sz i x)(hj:2*j+2*i<=7900)(hl:ss.length<=10):∃S',Gz [shD ss,aD x,shD os] S=Fk (shD (Kv x os ss),S')/\DQ [] S S':=by
 have hq:(S++[Cl.lst []])[S.length]?=Fk (.lst []):=vK
 obtain⟨os',ho',e⟩:=VE (gs:=[]) (t:=tTp [tNm 4,tNm 5]) (b:=Ci (RC R7 (eV 3) [AJ Dj [AJ BR [eV 4,AJ Fs [Cw [eC (.int 1),eC (.int 1)],eV 1]],AJ BR [eV 5,eV 1]]])) (C:=[Fk (shD ss),Fk (aD x),Fk (shD os),Fk (.ref S.length)]) (m:=2) (q:=S.length) (h:=VR λs o=>s*(1-x)+o*x) (I:=λ_=>AB8) (λ_ _=>Af) (λ_ _ _=>trivial)
  (ds:=Qk (ss.map aD) (os.map aD)) (acc:=[]) (os:=[uk,uk]) (S:=S++[Cl.lst []]) rfl trivial hq (by simp[O0];lia) (by
    intro d hd os0 S0 acc h0 _ hq0 hz
    obtain⟨o1,o2,rfl⟩:=ml h0
    obtain⟨s,hs',o,ho',rfl⟩:=Ym hd
    have l1:=cT (S:=S0) (cL (k:=1) (by decide)) hx (by lia)
    have s1:=(cW (cL (k:=1) (by decide)) hx)
    have l2:=NX (S:=S0) (hs s hs') s1 (by lia)
    have l3:=NX (S:=S0) (ho o ho') hx (by lia)
    have l4:=V0 (S:=S0) (Rj (hs s hs') s1) (Rj (ho o ho') hx) (by lia)
    rw[j9]at l1
    refine⟨[Fk (aD s),Fk (aD o)],[Fk (aD s),Fk (aD o)],by simp,?_,rfl⟩
    simp[l1,l2,l3,l4,AY hq0,hz,VR,dj])
 rw[SF]at e
 refine⟨(S++[Cl.lst []]).set S.length (.lst ((Kv x os ss).map aD)),?_,?_⟩
 .have e':Qd [] (tTp [tNm 4,tNm 5]) (Ci (RC R7 (eV 3) [AJ Dj [AJ BR [eV 4,AJ Fs [Cw [eC (.int 1),eC (.int 1)],eV 1]],AJ BR [eV 5,eV 1]]])) (Qk (ss.map aD) (os.map aD)) [Fk (shD ss),Fk (aD x),Fk (shD os),Fk (.ref S.length),uk,uk] (S++[Cl.lst []])=Fk (.nx,[Fk (shD ss),Fk (aD x),Fk (shD os),Fk (.ref S.length)]++os',(S++[Cl.lst []]).set S.length (.lst ((Kv x os ss).map aD))):=by simpa[Kv]using e
  simp[Gz,Pe,e']
  rfl
 .refine⟨by simp,λn hn _=>?_⟩
  rw[u3 (by lia),uq hn]
end
section
variable{S:Sto}{p:Nat}
theorem getD_get{α:Type}{xs:Gc α}{n:Nat}{d:α}(h:n<xs.length):xs[n]?=Fk (xs.getD n d):=by
 rw[vO,ux h]
 rfl
theorem getD_mem{α:Type}{xs:Gc α}{n:Nat}{d:α}(h:n<xs.length):xs.getD n d∈xs:=vL (getD_get h)
theorem Pr{ss:Gc Rat}{n:Nat}(h:n<ss.length):atI (ss.map aD) (n:Int)=Fk (aD (ss.getD n 0)):=Fq (by rw[vG,getD_get h];rfl)
theorem c9{ss:Gc Rat}{n:Nat}(h:n<ss.length):ixN (ss.map aD).length (n:Int)=Fk n:=QA (by simpa using h)
theorem YE{p q:Nat}{x:Rat}{ss:Gc Rat}{j i:Nat}(hs:∀r∈ss,Sz j r)(hx:Sz i x)(hj:2*j+i<=7900)(hp:p<ss.length)(hq:q<ss.length)(hpq:p≠q):∃S',H0 [shD ss,(Ai.Nt p q x).d] S=Fk (shD (KD p q x ss),S')/\DQ [] S S':=by
 have sp:=hs _ (getD_mem (d:=0) hp)
 have sq:=hs _ (getD_mem (d:=0) hq)
 have l1:∀S,BR [aD (ss.getD p 0),aD x] S=Fk (aD (ss.getD p 0*x),S):=λS=>NX sp hx (by lia)
 have s1:=Rj sp hx
 have l2:∀S,Fs [aD (ss.getD p 0),aD (ss.getD p 0*x)] S=Fk (aD (ss.getD p 0-ss.getD p 0*x),S):=λS=>cT sp s1 (by lia)
 have l3:∀S,Dj [aD (ss.getD q 0),aD (ss.getD p 0*x)] S=Fk (aD (ss.getD q 0+ss.getD p 0*x),S):=λS=>V0 sq s1 (by lia)
 have a1:=Pr hp
 have i1:=c9 hp
 have i2:ixN (((ss.map aD).set p (aD (ss.getD p 0-ss.getD p 0*x))).length) (q:Int)=Fk q:=QA (by simpa using hq)
 have a2:atI ((ss.map aD).set p (aD (ss.getD p 0-ss.getD p 0*x))) (q:Int)=Fk (aD (ss.getD q 0)):=Fq (by
  rw[u3 hpq,vG,getD_get hq];rfl)
 refine⟨S++[.lst ((KD p q x ss).map aD)],?_,.app⟩
 simp only[xi,vW]at i1 i2
 have em:(KD p q x ss).map aD=((ss.map aD).set p (aD (ss.getD p 0-ss.getD p 0*x))).set q (aD (ss.getD q 0+ss.getD p 0*x)):=by rw[KD,yy,yy]
 unfold shD
 rw[em]
 generalize aD (ss.getD p 0-ss.getD p 0*x)=d1 at*
 generalize aD (ss.getD q 0+ss.getD p 0*x)=d2 at*
 generalize aD (ss.getD p 0*x)=d3 at*
 generalize aD (ss.getD p 0)=d4 at*
 generalize aD (ss.getD q 0)=d5 at*
 simp[H0,Rr,Ai.d,a1,l1,l2,l3,i1,i2,a2]
theorem Yv{x y:Ld}{a b:Nat}{j i:Nat}(ha:S[a]?=Fk (De x))(hb:S[b]?=Fk (De y))(hs:∀r∈x.ow,Sz j r)(ho:∀r∈y.ow,Sz j r)(hx:x.n.natAbs<2^i)(hy:y.n.natAbs<2^i)(h0:0<x.n+y.n)(h1:1<=i)(hj:2*j+4*i<=7900)(hl:x.ow.length<=10):∃S',JI [.ref a,.ref b] S=Fk (shD (Dy x.n y.n x.ow y.ow),S')/\DQ [] S S':=by
 have la:=Ax ha
 have lb:=Ax hb
 have hq:(S++[Cl.lst []])[S.length]?=Fk (.lst []):=vK
 have ha':(S++[Cl.lst []])[a]?=Fk (De x):=by rw[uq la];exact ha
 have hb':(S++[Cl.lst []])[b]?=Fk (De y):=by rw[uq lb];exact hb
 obtain⟨os',ho',e⟩:=VE (gs:=[]) (t:=tTp [tNm 3,tNm 4]) (b:=Ad (Bs 5 (AJ Dj [AJ BR [Cw [eOp (o2 wIx) [eV 0,eC (.int 1)],eC (.int 1)],eV 3],AJ BR [Cw [eOp (o2 wIx) [eV 1,eC (.int 1)],eC (.int 1)],eV 4]]))
  (Ci (RC R7 (eV 2) [AJ BR [eV 5,AJ Cp [eC (.int 1),eOp (o2 EA) [eOp (o2 wIx) [eV 0,eC (.int 1)],eOp (o2 wIx) [eV 1,eC (.int 1)]]]]]))) (C:=[Fk (.ref a),Fk (.ref b),Fk (.ref S.length)]) (m:=3) (q:=S.length) (h:=VR λs o=>(s*x.n+o*y.n) / (x.n+y.n:Int)) (I:=λS'=>S'[a]?=Fk (De x)/\S'[b]?=Fk (De y)) (λ_ _=>Af) (λS' c h=>⟨by rw[u3 (by lia)];exact h.1,by rw[u3 (by lia)];exact h.2⟩)
  (ds:=Qk (x.ow.map aD) (y.ow.map aD)) (acc:=[]) (os:=[uk,uk,uk]) (S:=S++[Cl.lst []]) rfl ⟨ha',hb'⟩ hq (by simp[O0];lia) (by
    intro d hd os0 S0 acc h0' hI hq0 hz
    obtain⟨o1,o2,o3,rfl⟩:=qz h0'
    obtain⟨s,hs',o,ho',rfl⟩:=Ym hd
    have d1:=Bb hI.1
    have d2:=Bb hI.2
    have z1:=Pq hx h1
    have z2:=Pq hy h1
    have l1:=NX (S:=S0) z1 (hs s hs') (by lia)
    have l2:=NX (S:=S0) z2 (ho o ho') (by lia)
    have s1:=Rj z1 (hs s hs')
    have s2:=Rj z2 (ho o ho')
    have l3:=V0 (S:=S0) s1 s2 (by lia)
    have b1:=Lk hx hy
    have l4:=Zy (S:=S0) (t:=1) h0 (Eh b1 (by lia))
    have s4:Sz (i+1) (((1:Int):Rat) / ((x.n+y.n:Int):Rat)):=QZ h0 (show(1:Int).natAbs<2^(i+1)from AAc (by lia)) b1
    have l5:=NX (S:=S0) (dA s1 s2) s4 (by lia)
    rw[UR]at l1 l2
    refine⟨[Fk (aD s),Fk (aD o),o3],[Fk (aD s),Fk (aD o),Fk (aD (x.n*s+y.n*o))],by simp,?_,rfl⟩
    have ev:(((x.n:Rat)*s+(y.n:Rat)*o)*(((1:Int):Rat) / ((x.n+y.n:Int):Rat)))=(s*x.n+o*y.n) / (x.n+y.n:Int):=by
     push_cast
     grind
    rw[ev]at l5
    have lf:(VR λs o=>(s*x.n+o*y.n) / (x.n+y.n:Int)) (.tup [aD s,aD o])=aD ((s*x.n+o*y.n) / (x.n+y.n:Int)):=by simp only[VR,dj]
    rw[lf]
    generalize aD ((s*x.n+o*y.n) / (x.n+y.n:Int))=e5 at*
    generalize aD (((1:Int):Rat) / ((x.n+y.n:Int):Rat))=e4 at*
    generalize aD (x.n*s+y.n*o)=e3 at*
    simp[d1,d2,De,l1,l2,l3,l4,l5,AY hq0,hz])
 rw[SF]at e
 refine⟨(S++[Cl.lst []]).set S.length (.lst ((Dy x.n y.n x.ow y.ow).map aD)),?_,?_⟩
 .have e':=e
  simp only[vb,vX]at e'
  have d1:=Bb ha'
  have d2:=Bb hb'
  change Qd _ _ _ _ _ _=Fk (_,_,List.set _ _ (Cl.lst (List.map aD (Dy x.n y.n x.ow y.ow))))at e'
  generalize Dy x.n y.n x.ow y.ow=rs at*
  simp[JI,OS,d1,d2,e',shD]
 .refine⟨by simp,λn hn _=>?_⟩
  rw[u3 (by lia),uq hn]
end
section
variable{S:Sto}{p:Nat}
theorem Cf{α:Type}{gs:Gd}{t:Tf}{f:Ev}{C:En}{m:Nat}{e g:α->D}{S:Sto}(hg:gOk gs S):∀{xs:Gc α} {acc:Gc D} {os:En},os.length=m->acc.length+xs.length<=sizeLine->(∀x∈xs,∀os,os.length=m->∃us,us.length=m/\t (e x) (C++os) S=Fk (C++us)/\f (C++us) S=Fk (g x,S))->C8 gs t Ca f (xs.map e) acc (C++os) S=Fk (acc++xs.map g,S)
 | [],acc,os,ho,hz,h=>by rw[wc,GH hg];simp
 |x::xs,acc,os,ho,hz,h=>by
  obtain⟨us,hu,e1,e2⟩:=h x vA os ho
  rw[vT,Kb hg (by simp at hz;lia) e1 LJ,e2,Bt]
  rw[Cf hg hu (by simp at hz ⊢; lia) λx' hx=>h x' (uv _ hx)]
  simp
theorem Hd{α:Type}{gs:Gd}{t:Tf}{c f:Ev}{C:En}{m:Nat}{e g:α->D}{b:α->vm}{S:Sto}(hg:gOk gs S):∀{xs:Gc α} {acc:Gc D} {os:En},os.length=m->acc.length+xs.length<=sizeLine->(∀x∈xs,∀os,os.length=m->∃us,us.length=m/\t (e x) (C++os) S=Fk (C++us)/\c (C++us) S=Fk (.bl (b x),S)/\f (C++us) S=Fk (g x,S))->C8 gs t c f (xs.map e) acc (C++os) S=Fk (acc++(xs.filter b).map g,S)
 | [],acc,os,ho,hz,h=>by rw[wc,GH hg];simp
 |x::xs,acc,os,ho,hz,h=>by
  obtain⟨us,hu,e1,e2,e3⟩:=h x vA os ho
  cases hb:b x with
  |true=>
   rw[hb]at e2
   rw[vT,Kb hg (by simp at hz;lia) e1 e2,e3,Bt,Hd hg hu (by simp at hz ⊢; lia) λd' hd=>h d' (uv _ hd)]
   simp[hb]
  |false=>
   rw[hb]at e2
   rw[vT,GF hg (by simp at hz;lia) e1 e2,Hd hg hu (by simp at hz ⊢; lia) λd' hd=>h d' (uv _ hd)]
   simp[hb]
theorem Vz{as:Gc Nat}{ls:Gc Ld}(h:as.length=ls.length):as.map D.ref=(as.zip ls).map λz=>D.ref z.1:=by
 have:as=(as.zip ls).map Prod.fst:=(List.map_fst_zip (by lia)).symm
 conv=>lhs;rw[this]
 rw[v5];rfl
theorem Yf{β:Type}{as:Gc Nat}{ls:Gc Ld}(h:as.length=ls.length)(g:Ld->β):ls.map g=(as.zip ls).map λz=>g z.2:=by
 have:ls=(as.zip ls).map Prod.snd:=(List.map_snd_zip (by lia)).symm
 conv=>lhs;rw[this]
 rw[v5];rfl
section
variable{s l m:Nat}{as:Gc Nat}{st:Stt}
theorem SAt.rP(h:SAt S s l m as st){z:Nat×Ld}(hz:z∈as.zip st.AE):S[z.1]?=Fk (De z.2):=by
 obtain⟨i,hi⟩:=xR.mp hz
 have:=y0.mp hi
 exact h.ld i z.1 z.2 this.1 this.2
theorem SAt.at(h:SAt S s l m as st){i:Nat}(hi:i<st.AE.length):∃a,as[i]?=Fk a/\S[a]?=Fk (De (AW st.AE i))/\atI (as.map D.ref) (i:Int)=Fk (.ref a):=by
 have h1:i<as.length:=by rw[h.len];exact hi
 refine⟨as[i],ux h1,h.ld i _ _ (ux h1) (GJ hi),Fq (by rw[vG,ux h1];rfl)⟩
theorem SAt.guard(h:SAt S s l m as st):gOk [(l,as.map D.ref)] S:=by
 intro g hg
 simp only[uw,vN,wF]at hg
 subst hg
 exact AY h.lo
end
theorem Vt{M:Int}(hM:0<=M):∀{xs:Gc Int},(∀x∈xs,0<=x/\x<=M)->0<=xs.sum/\xs.sum<=xs.length*M
 | [],_=>by simp
 |x::xs,h=>by
  have h1:=h x vA
  have h2:=Vt hM λy hy=>h y (uv _ hy)
  simp only[xT,wC]
  refine⟨by lia,?_⟩
  have:((xs.length+1:Nat):Int)*M=xs.length*M+M:=by push_cast;grind
  lia
theorem RM:∀{xs:Gc Int} {y:Int},(∀x∈xs,0<=x)->y∈xs->y<=xs.sum
 |x::xs,y,h,hy=>by
  have h1:=h x vA
  have h2:0<=xs.sum:=by
   clear hy
   induction xs with
   |nil=>simp
   |cons z zs ih=>
    have:=h z (by simp)
    have:=ih λw hw=>h w (by simp at hw ⊢; rcases hw with hw|hw<;>simp[hw])
    simp only[xT];lia
  simp only[xT]
  rcases uw.mp hy with e|e
  .lia
  .have:=RM (λz hz=>h z (uv _ hz)) e
   lia
section
variable{t:Tr}{k:Nat}{st:Stt}{ws:Gc Int}{n:Int}{l:Nat}
theorem LV{i:Nat}(hw:∀w∈ws,1<=w/\w<=99)(hi:i<ws.length):1<=ws.getD i 0/\ws.getD i 0<=99:=hw _ (getD_mem hi)
theorem Pb{i:Nat}(hi:i<ws.length):atI (ws.map D.int) (i:Int)=Fk (.int (ws.getD i 0)):=Fq (by rw[vG,getD_get hi];rfl)
theorem SW(hi:ws.length=k+1):atI (ws.map D.int) (-1:Int)=Fk (.int (ws.getD k 0)):=by
 have ix:ixN (ws.map D.int).length (-1)=Fk k:=by
  rw[vW,hi]
  unfold ixN
  simp
  lia
 unfold atI
 rw[ix]
 show(ws.map D.int)[k]?=_
 rw[vG,getD_get (d:=(0:Int)) (by lia)]
 rfl
theorem ND(ht:Oe t)(h:JV t k st)(hk:k<=20)(hl:ws.length=t.k+1)(hw:∀w∈ws,1<=w/\w<=99):0<Gb t st.AE ws/\Gb t st.AE ws<2^(145+k):=by
 obtain⟨t1,t2,t3,t4,t5,t6⟩:=ht
 have hP:(0:Int)<=2^(131+k):=Int.le_of_lt (Int.pow_pos (by decide))
 have hs:=Vt (M:=2^(131+k)*99) (by lia) (xs:=st.AE.map λl=>l.n*ws.getD l.k 0) (by
  intro x hx
  obtain⟨y,hy,rfl⟩:=vp.mp hx
  have h1:=h.pcs y hy
  have h2:=LV hw (i:=y.k) (by have:=h.kind y hy;lia)
  refine⟨ABm h1.1 (by lia),ABn (by lia) h2.2 (by lia) hP⟩)
 have hb:=LV hw (i:=t.k) (by lia)
 have hlen:=h.len
 rw[vW]at hs
 have h3:(st.AE.length:Int)*(2^(131+k)*99)<=24*(2^(131+k)*99):=yO (by lia) (by lia)
 have h4:(1:Int)<=t.b*ws.getD t.k 0:=by
  have:0<(t.b:Int)*ws.getD t.k 0:=wV (by lia) (by lia)
  lia
 have h5:t.b*ws.getD t.k 0<=20*99:=ABn (by lia) hb.2 (by lia) (by decide)
 have h6:(2:Int)^(145+k)=2^(131+k)*16384:=by rw[show 145+k=(131+k)+14 by lia,Int.pow_add];rfl
 have h7:(1:Int)<=2^(131+k):=by have:(0:Int)<2^(131+k):=Int.pow_pos (by decide);lia
 have h7':(2:Int)^11<=2^(131+k):=by
  have:(2^11:Nat)<=2^(131+k):=v9 (by decide) (by lia)
  exact_mod_cast this
 unfold Gb
 rw[h6]
 generalize (2:Int)^(131+k)=P at*
 lia
theorem Yb(ht:Oe t)(h:JV t k st)(hl:ws.length=t.k+1)(hw:∀w∈ws,1<=w/\w<=99)(hi:l<st.AE.length)(h1:1<=n)(h2:n<=(AW st.AE l).n):0<n*ws.getD (AW st.AE l).k 0/\n*ws.getD (AW st.AE l).k 0<Gb t st.AE ws:=by
 obtain⟨t1,t2,t3,t4,t5,t6⟩:=ht
 have hw1:=LV hw (i:=(AW st.AE l).k) (by have:=h.kind _ (BD hi);lia)
 have hb:=LV hw (i:=t.k) (by lia)
 have h4:(1:Int)<=t.b*ws.getD t.k 0:=by
  have:0<(t.b:Int)*ws.getD t.k 0:=wV (by lia) (by lia)
  lia
 have h5:=RM (xs:=st.AE.map λl=>l.n*ws.getD l.k 0) (y:=(AW st.AE l).n*ws.getD (AW st.AE l).k 0) (by
  intro x hx
  obtain⟨y,hy,rfl⟩:=vp.mp hx
  have h1:=h.pcs y hy
  have h2:=LV hw (i:=y.k) (by have:=h.kind y hy;lia)
  exact ABm h1.1 (by lia)) (vp.mpr ⟨_,BD hi,rfl⟩)
 have h6:n*ws.getD (AW st.AE l).k 0<=(AW st.AE l).n*ws.getD (AW st.AE l).k 0:=yO h2 (by lia)
 refine⟨wV (by lia) (by lia),?_⟩
 unfold Gb
 lia
theorem Om(hi:l<st.AE.length):ML t st.AE l n ws=((n*ws.getD (AW st.AE l).k 0:Int):Rat) / (Gb t st.AE ws:Rat):=by
 unfold ML
 rw[GJ hi]
 rfl
theorem GQ{x:Int}{j:Nat}(h0:0<=x)(h1:x<2^j):x.natAbs<2^j:=by
 have:((x.natAbs:Nat):Int)<((2^j:Nat):Int):=by
  rw[Int.natAbs_of_nonneg h0];push_cast;exact h1
 exact_mod_cast this
theorem Yx(ht:Oe t)(h:JV t k st)(hk:k<=20)(hl:ws.length=t.k+1)(hw:∀w∈ws,1<=w/\w<=99)(hi:l<st.AE.length)(h1:1<=n)(h2:n<=(AW st.AE l).n):Sz (145+k) (ML t st.AE l n ws):=by
 have a:=ND ht h hk hl hw
 have b:=Yb ht h hl hw hi h1 h2
 rw[Om hi]
 exact QZ a.1 (GQ (by lia) (by lia)) (GQ (by lia) a.2)
theorem iA{s r m:Nat}{as:Gc Nat}(hS:SAt S s r m as st)(ht:Oe t)(h:JV t k st)(hk:k<=20)(hl:ws.length=t.k+1)(hw:∀w∈ws,1<=w/\w<=99)(hi:l<st.AE.length)(h1:1<=n)(h2:n<=(AW st.AE l).n):Lm [t.d,.ref r,(Ai.thr l n ws).d] S=Fk (aD (ML t st.AE l n ws),S):=by
 have a:=ND ht h hk hl hw
 obtain⟨x,x1,x2,x3⟩:=hS.at hi
 have hlen:=h.len
 have e:=Cf (gs:=[(r,as.map D.ref)]) (t:=tTp [tNm 1,tNm 2,tNm 3]) (f:=eOp (o2 B7) [eV 2,eOp (o2 wIx) [eV 0,eV 1]]) (C:=[Fk (.tup (ws.map D.int))]) (m:=3) (e:=λz:Nat×Ld=>D.ref z.1) (g:=λz=>D.int (z.2.n*ws.getD z.2.k 0)) hS.guard (xs:=as.zip st.AE) (acc:=[]) (os:=[uk,uk,uk]) rfl (uz (show _<=24 by simp;lia) (AS (by decide))) (by
  intro z hz os ho
  obtain⟨q1,q2,q3,rfl⟩:=qz ho
  have c1:=hS.rP hz
  have hm:z.2∈st.AE:=(xQ (a:=z.1) (b:=z.2) hz).2
  have hk:=h.kind _ hm
  have w1:=Pb (ws:=ws) (i:=z.2.k) (by lia)
  have w2:=LV hw (i:=z.2.k) (by lia)
  have m1:FF z.2.n (ws.getD z.2.k 0)=true:=mulR (by lia) (by lia)
  generalize ws.getD z.2.k 0=wz at*
  refine⟨[Fk (.int z.2.k),Fk (.int z.2.n),Fk (shD z.2.ow)],rfl,?_,?_⟩
  .simp[AY c1,De]
  .simp[w1,m1])
 rw[<-Vz hS.len,<-Yf hS.len (λx=>D.int (x.n*ws.getD x.k 0))]at e
 have e':=e
 simp only[vb,vX]at e'
 rw[Om hi]
 have es:Mg (st.AE.map λx=>D.int (x.n*ws.getD x.k 0))=Fk (st.AE.map λx=>x.n*ws.getD x.k 0):=by
  have:=HY (st.AE.map λx=>x.n*ws.getD x.k 0)
  rwa [v5]at this
 have w1:=Pb (ws:=ws) (i:=(AW st.AE l).k) (by have:=h.kind _ (BD hi);lia)
 have w3:=LV hw (i:=(AW st.AE l).k) (by have:=h.kind _ (BD hi);lia)
 have w2:=SW hl
 have w4:=LV hw (i:=t.k) (by lia)
 have m1:FF n (ws.getD (AW st.AE l).k 0)=true:=mulR (by lia) (by lia)
 have m2:FF (t.b:Int) (ws.getD t.k 0)=true:=mulR (by lia) (by lia)
 have l1:=Zy (S:=S) (t:=n*ws.getD (AW st.AE l).k 0) a.1 (Eh (GQ (by lia) a.2) (by lia))
 have e2:Gb t st.AE ws=(st.AE.map λx=>x.n*ws.getD x.k 0).sum+t.b*ws.getD t.k 0:=rfl
 rw[e2]at l1⊢
 generalize aD (((n*ws.getD (AW st.AE l).k 0:Int):Rat) / (((st.AE.map λx=>x.n*ws.getD x.k 0).sum+t.b*ws.getD t.k 0:Int):Rat))=R at*
 generalize (st.AE.map λx=>x.n*ws.getD x.k 0)=es' at*
 generalize (st.AE.map λx=>D.int (x.n*ws.getD x.k 0))=es2 at*
 generalize ws.getD (AW st.AE l).k 0=wa at*
 generalize ws.getD t.k 0=wb at*
 have dx:=Bb x2
 have dl:=Bb hS.lo
 simp[Lm,R0,Ai.d,Tr.d,Gm hS.lo,e',es,w2,m2,dl,x3,dx,De,w1,m1,l1]
theorem Xh{G B:Nat}(ht:Oe t)(h:JV t k st)(hk:k<=20)(hl:ws.length=t.k+1)(hw:∀w∈ws,1<=w/\w<=99)(hi:l<st.AE.length)(h1:1<=n)(h2:n<=(AW st.AE l).n){os ss:Gc Rat}(ho:∀r∈os,Ok G B r)(hs:∀r∈ss,Ok G B r):∀r∈Kv (ML t st.AE l n ws) os ss,Ok (G*(Gb t st.AE ws).toNat) (B*(Gb t st.AE ws).toNat) r:=by
 have a:=ND ht h hk hl hw
 have b:=Yb ht h hl hw hi h1 h2
 intro r hr
 unfold Kv at hr
 rw[xR]at hr
 obtain⟨i,hi'⟩:=hr
 rw[yR]at hi'
 obtain⟨x,y,hx,hy,rfl⟩:=hi'
 rw[Om hi]
 generalize n*ws.getD (AW st.AE l).k 0=c at*
 generalize Gb t st.AE ws=W at*
 have:=Ok.mix (a:=(W-c).toNat) (b:=c.toNat) (t:=W.toNat) (hs x (vL hx)) (ho y (vL hy)) (by lia) (by lia)
 have e1:(((W-c).toNat:Nat):Rat)=(W:Rat)-(c:Rat):=by
  have:(((W-c).toNat:Nat):Int)=W-c:=wD (by lia)
  have:((((W-c).toNat:Nat):Int):Rat)=((W-c:Int):Rat):=by rw[this]
  push_cast at this
  exact this
 have e2:((c.toNat:Nat):Rat)=(c:Rat):=by
  have:((c.toNat:Nat):Int)=c:=wD (by lia)
  have:(((c.toNat:Nat):Int):Rat)=(c:Rat):=by rw[this]
  exact this
 have e3:((W.toNat:Nat):Rat)=(W:Rat):=by
  have:((W.toNat:Nat):Int)=W:=wD (by lia)
  have:(((W.toNat:Nat):Int):Rat)=(W:Rat):=by rw[this]
  exact this
 rw[e1,e2,e3]at this
 have ne:(W:Rat)≠0:=by
  intro z
  have:=yN.mp z
  lia
 have ev:(x*((W:Rat)-(c:Rat))+y*(c:Rat)) / (W:Rat)=x*(1-(c:Rat) / (W:Rat))+y*((c:Rat) / (W:Rat)):=by grind
 rw[ev]at this
 exact this
end
end
section
variable{S:Sto}
theorem dG{x y:Str}(h:xv x=true)(g:xv y=true):VZ (.str x) (.str y)=true:=by
 unfold VZ
 show(xv x && xv y && _)=true
 rw[h,g]
 rfl
theorem gU(c:Char):c.toNat<1114112:=by
 have h:c.toNat.isValidChar:=c.valid
 rcases h with h|h
 .exact yt h (by decide)
 .exact h.2
theorem Oj{x:xl}:xv (xC x)=true:=by
 unfold xv xC
 simp
 intro c hc
 rw[cpsOfBytes_string]at hc
 obtain⟨ch,_,rfl⟩:=vp.mp hc
 exact gU ch
theorem Ux:∀{a b:Gc Char},a.map Char.toNat=b.map Char.toNat->a=b
 | [],[],_=>rfl
 |x::a,y::b,h=>by
  rw[vT,vT]at h
  injection h with h1 h2
  rw[Char.toNat_inj.mp h1,Ux h2]
 | [],_::_,h=>nomatch h
 |_::_,[],h=>nomatch h
theorem dg{x y:xl}(h:xC x=xC y):x=y:=by
 rw[ABG,ABG]at h
 injection h with h
 exact String.toList_inj.mp (Ux (by simpa using h))
@[simp] theorem uY(x y:String):VZ (.str (Str.ofString x)) (.str (Str.ofString y))=true:=dG Oj Oj
@[simp] theorem uc(x y:String):deq (.str (Str.ofString x)) (.str (Str.ofString y))=decide (x=y):=by
  show(xC x==xC y)=_
  rw[ABO,zh,xN]
  exact⟨dg,λz=>by rw[z]⟩
@[simp] theorem Z7:wIn false (.val (.str "bring")) (.val (.tup [.str "spoil",.str "throw"]))=some (.val (.bl false)):=nr rfl
@[simp] theorem pq:wIn false (.val (.str "bring")) (.val DR)=some (.val (.bl true)):=nr rfl
@[simp] theorem rT:wIn false (.val (.str "pool")) (.val DR)=some (.val (.bl true)):=nr rfl
@[simp] theorem fe:wIn false (.val (.str "swap")) (.val (.tup [.str "swap",.str "trade"]))=some (.val (.bl true)):=nr rfl
@[simp] theorem qb:wIn false (.val (.str "swap")) (.val DR)=some (.val (.bl true)):=nr rfl
@[simp] theorem cq:wIn false (.val (.str "trade")) (.val (.tup [.str "swap",.str "trade"]))=some (.val (.bl true)):=nr rfl
@[simp] theorem oE:wIn false (.val (.str "trade")) (.val DR)=some (.val (.bl true)):=nr rfl
@[simp] theorem cV:wIn false (.val (.str "spoil")) (.val (.tup [.str "swap",.str "trade"]))=some (.val (.bl false)):=nr rfl
@[simp] theorem bA:wIn false (.val (.str "spoil")) (.val (.tup [.str "spoil",.str "throw"]))=some (.val (.bl true)):=nr rfl
@[simp] theorem qD:wIn false (.val (.str "spoil")) (.val DR)=some (.val (.bl false)):=nr rfl
@[simp] theorem cg:wIn false (.val (.str "throw")) (.val (.tup [.str "swap",.str "trade"]))=some (.val (.bl false)):=nr rfl
@[simp] theorem bW:wIn false (.val (.str "throw")) (.val (.tup [.str "spoil",.str "throw"]))=some (.val (.bl true)):=nr rfl
@[simp] theorem nW:wIn false (.val (.str "throw")) (.val DR)=some (.val (.bl false)):=nr rfl
@[simp] theorem gn:wIn false (.val (.str "sell")) (.val (.tup [.str "swap",.str "trade"]))=some (.val (.bl false)):=nr rfl
@[simp] theorem cN:wIn false (.val (.str "sell")) (.val (.tup [.str "spoil",.str "throw"]))=some (.val (.bl false)):=nr rfl
@[simp] theorem ql:wIn false (.val (.str "sell")) (.val DR)=some (.val (.bl false)):=nr rfl
@[simp] theorem kA:dr S DR=.val DR:=nr rfl
section
variable{a b c d e f:D}{r:Gc D}
@[simp] theorem mK:Le [a,b,c,d,e] (some (-4)) none=[b,c,d,e]:=nr rfl
@[simp] theorem lO:Le [a,b,c,d,e,f] (some (-4)) none=[c,d,e,f]:=nr rfl
@[simp] theorem qL:Le [a,b,c,d] (some 1) none=[b,c,d]:=nr rfl
@[simp] theorem l7:Le [a,b,c,d,e] (some 1) (some 2)=[b]:=nr rfl
@[simp] theorem lK:Le [a,b,c,d,e,f] (some 1) (some 2)=[b]:=nr rfl
@[simp] theorem mC{ds zs:List D}:lr S ds [.tup zs]=if ds.length+zs.length<=sizeLine then some (.non,ds++zs)else none:=nr rfl
end
end
section
variable{S S':Sto}{s l m:Nat}{as:Gc Nat}{st:Stt}
theorem SAt.same(h:SAt S s l m as st)(g:DQ A S S')(hA:∀n∈A,n∉s::l::m::as):SAt S' s l m as st where
 root:=g.get h.root λz=>hA _ z (by simp)
 lo:=g.get h.lo λz=>hA _ z (by simp)
 nu:=g.get h.nu λz=>hA _ z (by simp)
 ld:=λi a x ha hx=>g.get (h.ld i a x ha hx) λz=>hA _ z (by simp[vL ha])
 len:=h.len
 nd:=h.nd
theorem SAt.XF(h:SAt S s l m as st)(g:DQ [] S S'):SAt S' s l m as st:=h.same g λ_ z=>(nomatch z)
theorem SAt.ne(h:SAt S s l m as st):s≠l/\s≠m/\l≠m/\s∉as/\l∉as/\m∉as/\as.Nodup:=by
 have:=h.nd
 simp only[xP,uw,AAp]at this
 obtain⟨⟨a,b,c⟩,⟨d,e⟩,f,g⟩:=this
 exact⟨a,b,d,c,e,f,g⟩
theorem SAt.Vm(h:SAt S s l m as st){i a:Nat}{y:Ld}(ha:as[i]?=Fk a):SAt (S.set a (De y)) s l m as {st with AE:=st.AE.set i y}:=by
 obtain⟨n1,n2,n3,n4,n5,n6,n7⟩:=h.ne
 have ma:=vL ha
 have q1:a≠s:=λe=>n4 (e▸ma)
 have q2:a≠l:=λe=>n5 (e▸ma)
 have q3:a≠m:=λe=>n6 (e▸ma)
 have hi:i<as.length:=(vB.mp ha).1
 have hi':i<st.AE.length:=by rw[<-h.len];exact hi
 refine⟨by rw[u3 q1];exact h.root,by rw[u3 q2];exact h.lo,by rw[u3 q3];exact h.nu,?_,by simp[h.len],h.nd⟩
 intro j b x hb hx
 by_cases e:i=j
 .subst e
  rw[ha]at hb
  cases hb
  have hx':(st.AE.set i y)[i]?=Fk x:=hx
  rw[vJ hi']at hx'
  cases hx'
  have hl:a<S.length:=Ax (h.ld i a _ ha (ux hi'))
  exact vJ hl
 .have hx':(st.AE.set i y)[j]?=Fk x:=hx
  rw[u3 e]at hx'
  have:a≠b:=by
   intro z
   subst z
   exact e ((zQ hi n7).mp (ha.trans hb.symm))
  rw[u3 this]
  exact h.ld j b x hb hx'
theorem SAt.lts(h:SAt S s l m as st):∀n∈s::l::m::as,n<S.length:=by
 intro n hn
 simp only[uw]at hn
 rcases hn with rfl|rfl|rfl|hn
 .exact Ax h.root
 .exact Ax h.lo
 .exact Ax h.nu
 .obtain⟨i,hi⟩:=xR.mp hn
  have:i<st.AE.length:=by rw[<-h.len];exact(vB.mp hi).1
  exact Ax (h.ld i n _ hi (ux this))
theorem SAt.app(h:SAt S s l m as st)(y:Ld):SAt ((S++[De y]).set l (.lst (as.map D.ref++[.ref S.length]))) s l m (as++[S.length]) {st with AE:=st.AE++[y]}:=by
 obtain⟨n1,n2,n3,n4,n5,n6,n7⟩:=h.ne
 have lt:=h.lts
 have ls:=lt s (by simp);have ll:=lt l (by simp);have lm:=lt m (by simp)
 have la:∀a∈as,a<S.length:=λa ha=>lt a (by simp[ha])
 refine⟨?_,?_,?_,?_,by simp[h.len],?_⟩
 .rw[u3 (wu n1),uq ls];exact h.root
 .rw[vJ (by simp;lia)];simp
 .rw[u3 n3,uq lm];exact h.nu
 .intro i a x ha hx
  by_cases e:i<as.length
  .rw[uq e]at ha
   have hx':(st.AE++[y])[i]?=Fk x:=hx
   rw[uq (by rw[<-h.len];exact e)]at hx'
   have ma:=vL ha
   rw[u3 (show l≠a by rintro rfl;exact n5 ma),uq (la a ma)]
   exact h.ld i a x ha hx'
  .have hx':(st.AE++[y])[i]?=Fk x:=hx
   have:i=as.length:=by
    have:=(vB.mp ha).1
    simp at this;lia
   subst this
   rw[vK]at ha
   cases ha
   rw[h.len,vK]at hx'
   cases hx'
   rw[u3 (by lia),vK]
 .have:(s::l::m::(as++[S.length]))=(s::l::m::as)++[S.length]:=by simp
  rw[this,yi]
  refine⟨h.nd,by simp,?_⟩
  intro a ha b hb e
  simp only[uw,vN,wF]at hb
  have:=lt a ha
  lia
theorem SAt.hold(h:SAt S s l m as st)(rs:Gc Rat):SAt (S.set s (.lst [.ref l,shD rs,.ref m])) s l m as {st with hold:=rs}:=by
 obtain⟨n1,n2,n3,n4,n5,n6,n7⟩:=h.ne
 refine⟨vJ (h.lts s (by simp)),by rw[u3 n1];exact h.lo,by rw[u3 n2];exact h.nu,?_,h.len,h.nd⟩
 intro i a x ha hx
 rw[u3 (show s≠a by rintro rfl;exact n4 (vL ha))]
 exact h.ld i a x ha hx
theorem SAt.nums(h:SAt S s l m as st)(us:Gc Int):SAt (S.set m (.lst (us.map D.int))) s l m as {st with nums:=us}:=by
 obtain⟨n1,n2,n3,n4,n5,n6,n7⟩:=h.ne
 refine⟨by rw[u3 (wu n2)];exact h.root,by rw[u3 (wu n3)];exact h.lo,vJ (h.lts m (by simp)),?_,h.len,h.nd⟩
 intro i a x ha hx
 rw[u3 (show m≠a by rintro rfl;exact n6 (vL ha))]
 exact h.ld i a x ha hx
theorem UT{f:Ld->Ld}{body:Ex}{C:En}{i8:Nat}{o0:uo D}(h:SAt S s l m as st)(hi:C.length=i8)(hb:∀(S':Sto) (a:Nat) (x:Ld),x∈st.AE->S'[a]?=Fk (De x)->∃S2,body (C++[Fk (.ref a)]) S'=Fk (.nx,C++[Fk (.ref a)],S2.set a (De (f x)))/\DQ [] S' S2):∃o S',Qd [(l,as.map D.ref)] (tNm i8) body (as.map D.ref) (C++[o0]) S=Fk (.nx,C++[o],S')/\SAt S' s l m as {st with AE:=st.AE.map f}/\DQ as S S':=by
 obtain⟨E',S',e,i,o,i1,i2,rfl,i3,i4⟩:=IY (gs:=[(l,as.map D.ref)]) (t:=tNm i8) (b:=body)
  (I:=λds E S'=>∃(i:Nat) (o:uo D),ds=(as.drop i).map D.ref/\i<=as.length/\E=C++[o]/\SAt S' s l m as {st with AE:=(st.AE.take i).map f++st.AE.drop i}/\DQ as S S')
  (λds E S' hI=>by obtain⟨i,o,_,_,_,h1,_⟩:=hI;exact h1.guard) (ds:=as.map D.ref) (E:=C++[o0]) (S:=S)
  ⟨0,o0,by simp,xf _,rfl,by simpa using h,.refl⟩ (by
    rintro d ds E S1 ⟨i,o,i1,i2,rfl,i3,i4⟩
    have hlt:i<as.length:=by
     rcases AAL i as.length with w|w
     .exact w
     .rw[xM w]at i1;cases i1
    rw[wH hlt,vT]at i1
    injection i1 with e1 e2
    subst e1 e2
    have hl2:i<st.AE.length:=by rw[<-h.len];exact hlt
    have ha:=ux hlt
    have hx:((st.AE.take i).map f++st.AE.drop i)[i]?=Fk st.AE[i]:=by
     rw[vo (by simp;lia)]
     simp[Nat.min_eq_left (AAF hl2)]
    obtain⟨S2,e3,g3⟩:=hb S1 as[i] st.AE[i] (yx hl2) (i3.ld i _ _ ha hx)
    have k:=(i3.XF g3).Vm (y:=f st.AE[i]) ha
    refine⟨C++[Fk (.ref as[i])],C++[Fk (.ref as[i])],S2.set as[i] (De (f st.AE[i])),?_,e3,i+1,Fk (.ref as[i]),rfl,hlt,rfl,?_,?_⟩
    .rw[fV]
     congr 1
     subst hi
     rw[ABT _ _ (u4 _)]
     simp
    .have:((st.AE.take i).map f++st.AE.drop i).set i (f st.AE[i])=(st.AE.take (i+1)).map f++st.AE.drop (i+1):=by
      rw[ABT _ _ (by simp;lia)]
      have e0:i-((st.AE.take i).map f).length=0:=by simp;lia
      rw[e0,wH hl2,List.set_cons_zero,List.take_succ_eq_append_getElem hl2,yc]
      simp
     rw[<-this]
     exact k
    .exact(i4.trans (g3.mono λ_ z=>(nomatch z))).trans (.set (yx hlt)))
 refine⟨o,S',e,?_,i4⟩
 have hz:i=as.length:=by
  have:=congrArg AAh i1
  simp at this
  lia
 have:(st.AE.take i).map f++st.AE.drop i=st.AE.map f:=by
  rw[hz,h.len];simp
 rw[this]at i3
 exact i3
end
section
variable{S S':Sto}{s l m:Nat}{as:Gc Nat}{st:Stt}{t:Tr}{k:Nat}
theorem gS{i:Nat}{n:Int}{j:Nat}(hi:i<st.AE.length)(h:∀x∈st.AE,∀r∈x.ow,Sz j r):∀x∈less st.AE i n,∀r∈x.ow,Sz j r:=by
 intro x hx
 rcases SD hx hi with h1|h1
 .exact h x h1
 .rw[h1];exact h (AW st.AE i) (BD hi)
theorem YH{i:Nat}{n:Int}{j:Nat}(hi:i<st.AE.length)(h:∀x∈st.AE,x.ow.length=j):∀x∈less st.AE i n,x.ow.length=j:=by
 intro x hx
 rcases SD hx hi with h1|h1
 .exact h x h1
 .rw[h1];exact h (AW st.AE i) (BD hi)
theorem bP(hS:SAt S s l m as st)(ht:Oe t)(h:JV t k st)(hk:k<=16){i:Nat}{n:Int}{ws:Gc Int}(hc:Can t st (.thr i n ws)):∃S',Hx [t.d,.ref s,(Ai.thr i n ws).d] S=Fk (.non,S')/\SAt S' s l m as (step t st (.thr i n ws))/\DQ (s::l::m::as) S S':=by
 obtain⟨hi,h1,h2,hl,hw⟩:=hc
 have cO:=iA hS ht h (by lia) hl hw hi h1 h2
 have cz:=Yx ht h (by lia) hl hw hi h1 h2
 have sz:=h.sz
 obtain⟨a,a1,a2,a3⟩:=hS.at hi
 have hS1:=hS.Vm (y:=⟨(AW st.AE i).k,(AW st.AE i).n-n,(AW st.AE i).ow⟩) a1
 have o1:=sz.1 _ (BD hi)
 have tp:=ht.2.1
 have hdef:step t st (.thr i n ws)={st with AE:=(less st.AE i n).map λx=>{x with ow:=Kv (ML t st.AE i n ws) (AW st.AE i).ow x.ow},hold:=Kv (ML t st.AE i n ws) (AW st.AE i).ow st.hold}:=rfl
 rw[hdef]
 generalize hX:ML t st.AE i n ws=X at*
 obtain⟨o,S2,f1,f2,f3⟩:=UT (f:=λx=>{x with ow:=Kv X (AW st.AE i).ow x.ow}) (body:=RU (AJ Gz [eOp (o2 wIx) [eV 8,eC (.int 2)],eV 6,eV 7]) (eV 8) (eC (.int 2))) (C:=[Fk t.d,Fk (.ref s),Fk (Ai.thr i n ws).d,Fk (.ref l),Fk (shD st.hold),Fk (.ref m),Fk (aD X),Fk (shD (AW st.AE i).ow)]) (i8:=8) (o0:=uk) hS1 rfl (by
  intro S' b x hx hb
  obtain⟨S2,e2,g2⟩:=Vu (S:=S') (x:=X) (ss:=x.ow) (os:=(AW st.AE i).ow) (j:=30+170*k) (i:=145+k) (gS (n:=n) hi sz.1 x hx) o1 cz (by lia) (by rw[YH (n:=n) hi h.own x hx];lia)
  have hb2:=g2.get hb (by simp)
  refine⟨S2,?_,g2⟩
  simp[Bb hb,De,e2,AY hb2])
 obtain⟨S3,e3,g3⟩:=Vu (S:=S2) (x:=X) (ss:=st.hold) (os:=(AW st.AE i).ow) (j:=30+170*k) (i:=145+k) sz.2 o1 cz (by lia) (by rw[h.hold];lia)
 have f4:=(f2.XF g3)
 have rt:=f4.root
 refine⟨S3.set s (.lst [.ref l,shD (Kv X (AW st.AE i).ow st.hold),.ref m]),?_,f4.hold _,?_⟩
 .have f1':=f1
  simp only[vb,vX]at f1'
  have rt':GY S3 s=Fk [.ref l,shD st.hold,.ref m]:=AY rt
  have r0:=AY hS.root
  have lo:=Bb hS.lo
  have xx:=Bb a2
  have c2:=AY a2
  have sq1:=Gm hS1.lo
  simp only[De]at f1' sq1 c2 xx
  simp only[Ai.d]at f1' cO⊢
  simp[Hx,Nd,r0,cO,lo,a3,xx,c2,sq1,f1',e3,rt']
 .have q1:DQ (s::l::m::as) S (S.set a (De ⟨(AW st.AE i).k,(AW st.AE i).n-n,(AW st.AE i).ow⟩)):=.set (by simp[vL a1])
  exact((q1.trans (f3.mono λn hn=>by simp[hn])).trans (g3.mono λ_ z=>(nomatch z))).trans (.set (by simp))
theorem ZJ(hS:SAt S s l m as st)(ht:Oe t)(h:JV t k st)(hk:k<=16){p q:Nat}{x:Rat}(hc:Can t st (.Nt p q x)):∃S',Hx [t.d,.ref s,(Ai.Nt p q x).d] S=Fk (.non,S')/\SAt S' s l m as (step t st (.Nt p q x))/\DQ (s::l::m::as) S S':=by
 obtain⟨hpq,hp,hq,x1,x2,x3⟩:=hc
 have sz:=h.sz
 have hx:Sz 4 x:=by
  refine⟨?_,by lia⟩
  show x.num.natAbs<16
  lia
 have hdef:step t st (.Nt p q x)={st with AE:=st.AE.map λy=>{y with ow:=KD p q x y.ow},hold:=KD p q x st.hold}:=rfl
 rw[hdef]
 obtain⟨o,S2,f1,f2,f3⟩:=UT (f:=λy=>{y with ow:=KD p q x y.ow}) (body:=RU (AJ H0 [eOp (o2 wIx) [eV 8,eC (.int 2)],eV 2]) (eV 8) (eC (.int 2))) (C:=[Fk t.d,Fk (.ref s),Fk (Ai.Nt p q x).d,Fk (.ref l),Fk (shD st.hold),Fk (.ref m),uk,uk]) (i8:=8) (o0:=uk) hS rfl (by
  intro S' b y hy hb
  obtain⟨S2,e2,g2⟩:=YE (S:=S') (p:=p) (q:=q) (x:=x) (ss:=y.ow) (j:=30+170*k) (i:=4) (sz.1 y hy) hx (by lia) (by rw[h.own y hy];exact hp) (by rw[h.own y hy];exact hq) hpq
  have hb2:=g2.get hb (by simp)
  refine⟨S2,?_,g2⟩
  simp[Bb hb,De,e2,AY hb2])
 obtain⟨S3,e3,g3⟩:=YE (S:=S2) (p:=p) (q:=q) (x:=x) (ss:=st.hold) (j:=30+170*k) (i:=4) sz.2 hx (by lia) (by rw[h.hold];exact hp) (by rw[h.hold];exact hq) hpq
 have f4:=(f2.XF g3)
 have rt:=f4.root
 refine⟨S3.set s (.lst [.ref l,shD (KD p q x st.hold),.ref m]),?_,f4.hold _,?_⟩
 .have f1':=f1
  simp only[vb,vX]at f1'
  have rt':GY S3 s=Fk [.ref l,shD st.hold,.ref m]:=AY rt
  have r0:=AY hS.root
  have sq1:=Gm hS.lo
  simp only[Ai.d]at f1' e3⊢
  simp[Hx,Nd,r0,sq1,f1',e3,rt']
 .exact((f3.mono λn hn=>by simp[hn]).trans (g3.mono λ_ z=>(nomatch z))).trans (.set (by simp))
end
section
variable{S S':Sto}{s l m:Nat}{as:Gc Nat}{st:Stt}{t:Tr}{k:Nat}
theorem VQ{ls:Gc Ld}{l:Nat}{n:Int}:less ls l n=ls.set l ⟨(AW ls l).k,(AW ls l).n-n,(AW ls l).ow⟩:=rfl
theorem Wk{P p:Nat}{cond:Int}{C:En}{dd:D}{f:Ev}(hP:P<=50)(hf:∀(i:Nat),f [Fk dd,Fk (.int i)] S=Fk (aD (if i=p then 1 else 0),S)):C8 [] (tNm 1) Ca f (Mh 0 P) [] [Fk dd,uk] S=Fk ((ZH P p).map aD,S):=by
 have:=Cf (gs:=[]) (t:=tNm 1) (f:=f) (C:=[Fk dd]) (m:=1) (e:=λi:Nat=>D.int (0+(i:Int))) (g:=λi=>aD (if i=p then 1 else 0)) (S:=S) Af (xs:=vS P) (acc:=[]) (os:=[uk]) rfl (uz (show _<=50 by simp;lia) (AS (by decide))) (by
  intro i _ os ho
  obtain⟨o,rfl⟩:=U7 ho
  refine⟨[Fk (.int i)],rfl,by simp,hf i⟩)
 simp only[vb,vX]at this
 rw[ZH,v5]
 exact this
theorem bu(hS:SAt S s l m as st)(ht:Oe t)(h:JV t k st)(hk:k<=16){p kd:Nat}{n:Int}(hc:Can t st (.HV p kd n)):∃S' as',CL [t.d,.ref s,(Ai.HV p kd n).d] S=Fk (.non,S')/\SAt S' s l m as' (step t st (.HV p kd n))/\DQ (s::l::m::as) S S'/\∀n∈as',n∈as\/S.length<=n:=by
 have tp:=ht.2.1
 have e:=Wk (S:=S) (P:=t.p) (p:=p) (cond:=0) (C:=[]) (dd:=(Ai.HV p kd n).d) (f:=Cw [eOp (o1 VF) [eOp (o2 wEq) [eV 1,eOp (o2 wIx) [eV 0,eC (.int 1)]]],eC (.int 1)]) (by lia) (by
  intro i
  by_cases hi:i=p
  .subst hi;simp[Ai.d];rfl
  .have:((i:Int)==(p:Int))=false:=by simp;lia
   simp[Ai.d,this,hi];rfl)
 have rn:Ma (t.p:Int)=true:=GB (by lia) (by lia)
 have hz:as.length<sizeLine:=uy (show as.length<50 by rw[hS.len];have:=h.len;lia) (AS (by decide))
 refine⟨_,_,?_,hS.app ⟨kd,n,ZH t.p p⟩,?_,?_⟩
 .have r0:=AY hS.root
  have c0:=AY hS.lo
  have c1:GY (S++[De ⟨kd,n,ZH t.p p⟩]) l=Fk (as.map D.ref):=AY (by rw[uq (Ax hS.lo)];exact hS.lo)
  simp only[De]at c1⊢
  simp only[Ai.d]at e⊢
  simp[CL,JD,r0,Tr.d,rn,e,c0,shD]at c1⊢
  simp[c1,hz]
 .exact DQ.app.trans (.set (by simp))
 .intro n hn
  rcases vY.mp hn with w|w
  .exact .inl w
  .simp at w;exact .inr (by lia)
theorem aG(hS:SAt S s l m as st)(ht:Oe t)(h:JV t k st)(hk:k<=16){i:Nat}{n:Int}(hc:Can t st (.Ku i n)):∃S' as',CL [t.d,.ref s,(Ai.Ku i n).d] S=Fk (.non,S')/\SAt S' s l m as' (step t st (.Ku i n))/\DQ (s::l::m::as) S S'/\∀n∈as',n∈as\/S.length<=n:=by
 obtain⟨hi,h1,h2⟩:=hc
 obtain⟨a,a1,a2,a3⟩:=hS.at hi
 refine⟨_,as,?_,hS.Vm (y:=⟨(AW st.AE i).k,(AW st.AE i).n-n,(AW st.AE i).ow⟩) a1,.set (by simp[vL a1]),λn hn=>.inl hn⟩
 have r0:=AY hS.root
 have lo:=Bb hS.lo
 have xx:=Bb a2
 have c2:=AY a2
 simp only[De]at c2 xx⊢
 simp[CL,JD,Ai.d,r0,lo,a3,xx,c2]
theorem jY(hS:SAt S s l m as st)(ht:Oe t)(h:JV t k st)(hk:k<=16){i:Nat}{n:Int}{ws:Gc Int}(hc:Can t st (.thr i n ws)):∃S' as',CL [t.d,.ref s,(Ai.thr i n ws).d] S=Fk (.non,S')/\SAt S' s l m as' (step t st (.thr i n ws))/\DQ (s::l::m::as) S S'/\∀n∈as',n∈as\/S.length<=n:=by
 obtain⟨S',e,g1,g2⟩:=bP hS ht h hk hc
 refine⟨S',as,?_,g1,g2,λn hn=>.inl hn⟩
 have r0:=AY hS.root
 simp only[Ai.d]at e⊢
 simp[CL,JD,r0,e]
theorem hO(hS:SAt S s l m as st)(ht:Oe t)(h:JV t k st)(hk:k<=16){p q:Nat}{x:Rat}(hc:Can t st (.Nt p q x)):∃S' as',CL [t.d,.ref s,(Ai.Nt p q x).d] S=Fk (.non,S')/\SAt S' s l m as' (step t st (.Nt p q x))/\DQ (s::l::m::as) S S'/\∀n∈as',n∈as\/S.length<=n:=by
 obtain⟨S',e,g1,g2⟩:=ZJ hS ht h hk hc
 refine⟨S',as,?_,g1,g2,λn hn=>.inl hn⟩
 have r0:=AY hS.root
 simp only[Ai.d]at e⊢
 simp[CL,JD,r0,e]
theorem fO(hS:SAt S s l m as st)(ht:Oe t)(h:JV t k st)(hk:k<=16){i kd:Nat}{g n:Int}(hc:Can t st (.swap i g kd n)):∃S' as',CL [t.d,.ref s,(Ai.swap i g kd n).d] S=Fk (.non,S')/\SAt S' s l m as' (step t st (.swap i g kd n))/\DQ (s::l::m::as) S S'/\∀n∈as',n∈as\/S.length<=n:=by
 obtain⟨hi,h1,h2,h3,h4,h5,h6⟩:=hc
 obtain⟨a,a1,a2,a3⟩:=hS.at hi
 have hS1:=hS.Vm (y:=⟨(AW st.AE i).k,(AW st.AE i).n-g,(AW st.AE i).ow⟩) a1
 have hS2:=hS1.app ⟨kd,n,(AW st.AE i).ow⟩
 have hz:as.length<sizeLine:=uy (show as.length<50 by rw[hS.len];have:=h.len;lia) (AS (by decide))
 have hz2:st.nums.length<=sizeLine:=uz (show _<=20 by have:=h.nm;lia) (AS (by decide))
 refine⟨_,_,?_,hS2,?_,?_⟩
 .have r0:=AY hS.root
  have lo:=Bb hS.lo
  have xx:=Bb a2
  have c2:=AY a2
  have lo1:=Bb hS1.lo
  have co1:=AY hS1.lo
  have x1:=Bb (vJ (a:=De ⟨(AW st.AE i).k,(AW st.AE i).n-g,(AW st.AE i).ow⟩) (Ax a2))
  have c4:GY ((S.set a (De ⟨(AW st.AE i).k,(AW st.AE i).n-g,(AW st.AE i).ow⟩))++[De ⟨kd,n,(AW st.AE i).ow⟩]) l=Fk (as.map D.ref):=AY (by rw[uq (Ax hS1.lo)];exact hS1.lo)
  have nu:=hS2.nu
  have c5:=AY nu
  have st5:∀{T:Sto},T[m]?=Fk (.lst (st.nums.map D.int))->T.set m (.lst (st.nums.map D.int))=T:=λh=>set_same h
  have st6:=st5 nu
  simp only[De]at c2 xx lo1 co1 x1 c4 c5 st6⊢
  have hz':(as.map D.ref).length<sizeLine:=by simpa using hz
  generalize (as.map D.ref)=refs at*
  simp[CL,JD,Ai.d,r0,lo,a3,xx,c2,lo1,x1,co1]at c4 c5 st6⊢
  simp[c4,hz',c5,hz2,st6]
 .exact((DQ.set (by simp[vL a1])).trans .app).trans (.set (by simp))
 .intro n hn
  rcases vY.mp hn with w|w
  .exact .inl w
  .simp at w;exact .inr (by lia)
theorem bR(hS:SAt S s l m as st)(ht:Oe t)(h:JV t k st)(hk:k<=16){i kd:Nat}{u g n:Int}(hc:Can t st (.IG u i g kd n)):∃S' as',CL [t.d,.ref s,(Ai.IG u i g kd n).d] S=Fk (.non,S')/\SAt S' s l m as' (step t st (.IG u i g kd n))/\DQ (s::l::m::as) S S'/\∀n∈as',n∈as\/S.length<=n:=by
 obtain⟨hi,h1,h2,h3,h4,h5,h6,h7,h8⟩:=hc
 obtain⟨a,a1,a2,a3⟩:=hS.at hi
 have hS1:=hS.Vm (y:=⟨(AW st.AE i).k,(AW st.AE i).n-g,(AW st.AE i).ow⟩) a1
 have hS2:=hS1.app ⟨kd,n,(AW st.AE i).ow⟩
 have hz:as.length<sizeLine:=uy (show as.length<50 by rw[hS.len];have:=h.len;lia) (AS (by decide))
 have hz2:st.nums.length+1<=sizeLine:=uz (show _<=20 by have:=h.nm;lia) (AS (by decide))
 refine⟨_,_,?_,hS2.nums (st.nums++[u]),?_,?_⟩
 .have r0:=AY hS.root
  have lo:=Bb hS.lo
  have xx:=Bb a2
  have c2:=AY a2
  have lo1:=Bb hS1.lo
  have co1:=AY hS1.lo
  have x1:=Bb (vJ (a:=De ⟨(AW st.AE i).k,(AW st.AE i).n-g,(AW st.AE i).ow⟩) (Ax a2))
  have c4:GY ((S.set a (De ⟨(AW st.AE i).k,(AW st.AE i).n-g,(AW st.AE i).ow⟩))++[De ⟨kd,n,(AW st.AE i).ow⟩]) l=Fk (as.map D.ref):=AY (by rw[uq (Ax hS1.lo)];exact hS1.lo)
  have nu:=hS2.nu
  have c5:=AY nu
  simp only[De]at c2 xx lo1 co1 x1 c4 c5⊢
  have hz':(as.map D.ref).length<sizeLine:=by simpa using hz
  generalize (as.map D.ref)=refs at*
  simp[CL,JD,Ai.d,r0,lo,a3,xx,c2,lo1,x1,co1]at c4 c5⊢
  simp[c4,hz',c5,hz2]
 .exact(((DQ.set (by simp[vL a1])).trans .app).trans (.set (by simp))).trans (.set (by simp))
 .intro n hn
  rcases vY.mp hn with w|w
  .exact .inl w
  .simp at w;exact .inr (by lia)
theorem gR(hS:SAt S s l m as st)(ht:Oe t)(h:JV t k st)(hk:k<=16){i j:Nat}(hc:Can t st (.Ox i j)):∃S' as',CL [t.d,.ref s,(Ai.Ox i j).d] S=Fk (.non,S')/\SAt S' s l m as' (step t st (.Ox i j))/\DQ (s::l::m::as) S S'/\∀n∈as',n∈as\/S.length<=n:=by
 obtain⟨hij,hi,hj,h1,h2,h3⟩:=hc
 obtain⟨a,a1,a2,a3⟩:=hS.at hi
 obtain⟨b,b1,b2,b3⟩:=hS.at hj
 have sz:=h.sz
 have pi:=h.pcs _ (BD hi)
 have pj:=h.pcs _ (BD hj)
 obtain⟨S1,e1,g1⟩:=Yv (S:=S) (x:=AW st.AE i) (y:=AW st.AE j) (j:=30+170*k) (i:=131+k) a2 b2 (sz.1 _ (BD hi)) (sz.1 _ (BD hj)) (GQ pi.1 pi.2) (GQ pj.1 pj.2) (by lia) (by lia) (by lia) (by rw[h.own _ (BD hi)];have:=ht.2.1;lia)
 have hS1:=hS.XF g1
 have hab:a≠b:=by
  rintro rfl
  exact hij ((zQ (vB.mp a1).1 hS.ne.2.2.2.2.2.2).mp (a1.trans b1.symm))
 have hS2:=hS1.app ⟨(AW st.AE i).k,(AW st.AE i).n+(AW st.AE j).n,Dy (AW st.AE i).n (AW st.AE j).n (AW st.AE i).ow (AW st.AE j).ow⟩
 have ai:i<as.length:=(vB.mp a1).1
 have bj:j<as.length:=(vB.mp b1).1
 have a1':(as++[S1.length])[i]?=Fk a:=by rw[uq ai];exact a1
 have b1':(as++[S1.length])[j]?=Fk b:=by rw[uq bj];exact b1
 have hS3:=hS2.Vm (y:=⟨(AW st.AE i).k,0,(AW st.AE i).ow⟩) a1'
 have hS4:=hS3.Vm (y:=⟨(AW st.AE j).k,0,(AW st.AE j).ow⟩) b1'
 have hz:as.length<sizeLine:=uy (show as.length<50 by rw[hS.len];have:=h.len;lia) (AS (by decide))
 have est:step t st (.Ox i j)={st with AE:=((st.AE++[Ld.mk (AW st.AE i).k ((AW st.AE i).n+(AW st.AE j).n) (Dy (AW st.AE i).n (AW st.AE j).n (AW st.AE i).ow (AW st.AE j).ow)]).set i ⟨(AW st.AE i).k,0,(AW st.AE i).ow⟩).set j ⟨(AW st.AE j).k,0,(AW st.AE j).ow⟩}:=by
  have e0:AW (less st.AE i (AW st.AE i).n) j=AW st.AE j:=by
   unfold AW less
   rw[vO,u3 hij,<-vO]
  have e1:less st.AE i (AW st.AE i).n=st.AE.set i ⟨(AW st.AE i).k,0,(AW st.AE i).ow⟩:=by
   unfold less
   rw[Int.sub_self]
  have e2:less (less st.AE i (AW st.AE i).n) j (AW st.AE j).n=(st.AE.set i ⟨(AW st.AE i).k,0,(AW st.AE i).ow⟩).set j ⟨(AW st.AE j).k,0,(AW st.AE j).ow⟩:=by
   rw[VQ (ls:=less st.AE i (AW st.AE i).n),e0,Int.sub_self,e1]
  show{st with AE:=less (less st.AE i (AW st.AE i).n) j (AW st.AE j).n++_}=_
  rw[e2,ABo _ _ hi,ABo _ _ (by simpa using hj)]
 refine⟨_,_,?_,est▸hS4,?_,?_⟩
 .have r0:=AY hS.root
  have lo:=Bb hS.lo
  have c0:=AY hS.lo
  have xa:=Bb a2
  have xb:=Bb b2
  have c1:=AY hS1.lo
  have c4:GY (S1++[De ⟨(AW st.AE i).k,(AW st.AE i).n+(AW st.AE j).n,Dy (AW st.AE i).n (AW st.AE j).n (AW st.AE i).ow (AW st.AE j).ow⟩]) l=Fk (as.map D.ref):=AY (by rw[uq (Ax hS1.lo)];exact hS1.lo)
  have c5:=AY (hS2.ld i a (AW st.AE i) a1' (by show(st.AE++_)[i]?=_;rw[uq hi];exact GJ hi))
  have c6:=AY (hS3.ld j b (AW st.AE j) b1' (by show((st.AE++_).set i _)[j]?=_;rw[u3 hij,uq hj];exact GJ hj))
  simp only[De]at xa xb c4 c5 c6⊢
  have hz':(as.map D.ref).length<sizeLine:=by simpa using hz
  generalize (as.map D.ref)=refs at*
  generalize Dy (AW st.AE i).n (AW st.AE j).n (AW st.AE i).ow (AW st.AE j).ow=pr at*
  simp[CL,JD,Ai.d,r0,lo,a3,b3,xa,xb,c0,e1]at c4 c5 c6⊢
  simp[c4,hz',c5,c6]
 .exact(((g1.mono λ_ z=>(nomatch z)).trans .app).trans (.set (by simp))).trans ((DQ.set (by simp[vL a1])).trans (.set (by simp[vL b1])))
 .intro n hn
  rcases vY.mp hn with w|w
  .exact .inl w
  .simp at w;subst w;exact .inr g1.len
theorem j7(hS:SAt S s l m as st)(ht:Oe t)(h:JV t k st)(hk:k<=16){d:Ai}(hc:Can t st d):∃S' as',CL [t.d,.ref s,d.d] S=Fk (.non,S')/\SAt S' s l m as' (step t st d)/\DQ (s::l::m::as) S S'/\∀n∈as',n∈as\/S.length<=n:=by
 cases d with
 |HV=>exact bu hS ht h hk hc
 |Ox=>exact gR hS ht h hk hc
 |swap=>exact fO hS ht h hk hc
 |IG=>exact bR hS ht h hk hc
 |Ku=>exact aG hS ht h hk hc
 |thr=>exact jY hS ht h hk hc
 |Nt=>exact hO hS ht h hk hc
end
section
variable{st:Stt}{t:Tr}{k:Nat}
theorem GO{a b:Nat}(h:a<=b):2^a<=2^b:=v9 (by decide) h
theorem NM{a b:Nat}(h:a<=b):(2:Int)^a<=2^b:=by
 have:=GO h
 exact_mod_cast this
theorem II{c:Int}(h:0<=c):((c.toNat:Nat):Rat)=(c:Rat):=by
 have:((c.toNat:Nat):Int)=c:=wD h
 have:(((c.toNat:Nat):Int):Rat)=(c:Rat):=by rw[this]
 exact this
theorem Xw{B T k j:Nat}(hB:B<2^(30+170*k))(hT:T<2^j)(hj:j<=170):B*T<2^(30+170*(k+1)):=by
 have:=CH hB hT
 exact uy this (GO (by lia))
theorem kl{G B P p:Nat}(h:G<=B):∀r∈ZH P p,Ok G B r:=by
 intro r hr
 obtain⟨i,_,rfl⟩:=vp.mp hr
 split
 .exact Ok.one h
 .exact Ok.zero
theorem YU{G B:Nat}{n m:Int}{ss os:Gc Rat}(hn:0<n)(hm:0<m)(hs:∀r∈ss,Ok G B r)(ho:∀r∈os,Ok G B r):∀r∈Dy n m ss os,Ok (G*(n+m).toNat) (B*(n+m).toNat) r:=by
 intro r hr
 unfold Dy at hr
 rw[xR]at hr
 obtain⟨i,hi'⟩:=hr
 rw[yR]at hi'
 obtain⟨x,y,hx,hy,rfl⟩:=hi'
 have:=Ok.mix (a:=n.toNat) (b:=m.toNat) (t:=(n+m).toNat) (hs x (vL hx)) (ho y (vL hy)) (by lia) (by lia)
 rwa [II (by lia),II (by lia),II (by lia)]at this
theorem Xx{G B p q:Nat}{x:Rat}{ss:Gc Rat}(hp:p<ss.length)(hq:q<ss.length)(x1:0<x.num)(x2:x.num<=x.den)(hs:∀r∈ss,Ok G B r):∀r∈KD p q x ss,Ok (G*x.den) (2*B*x.den) r:=by
 have dp:=x.den_pos
 have hsp:=hs _ (getD_mem (d:=0) hp)
 have hsq:=hs _ (getD_mem (d:=0) hq)
 have xs:=GN x
 have ex:(x.num:Rat)=((x.num.toNat:Nat):Rat):=(II (by lia)).symm
 have nz:=MJ x
 intro r hr
 unfold KD at hr
 rcases xw hr with hr|hr
 .rcases xw hr with hr|hr
  .exact(hs r hr).up (by rw[AAt];lia)
  .rw[hr]
   obtain⟨z,e,hz⟩:=Ok.mix (a:=x.den-x.num.toNat) (b:=x.num.toNat) (t:=x.den) hsp (Ok.zero (G:=G) (B:=B)) (by lia) dp
   refine⟨z,?_,uz hz (by rw[AAt];lia)⟩
   rw[<-e]
   have e2:((x.den-x.num.toNat:Nat):Rat)=(x.den:Rat)-(x.num:Rat):=by
    have:(((x.den-x.num.toNat:Nat):Int):Rat)=((x.den-x.num:Int):Rat):=by
     congr 1;lia
    push_cast at this
    exact this
   rw[e2]
   generalize ss.getD p 0=sp at*
   congr 1
   grind
 .rw[hr]
  obtain⟨z,e1,hz⟩:=hsp
  obtain⟨y,e2,hy⟩:=hsq
  refine⟨y*x.den+z*x.num.toNat,?_,?_⟩
  .generalize ss.getD p 0=sp at*
   generalize ss.getD q 0=sq at*
   push_cast
   rw[<-ex,<-e1,<-e2]
   grind
  .have h1:y*x.den<=B*x.den:=wB _ hy
   have h2:z*x.num.toNat<=B*x.den:=yo hz (by lia)
   rw[AAt];lia
theorem Fj{f:Rat->Rat->Rat}{a b:Gc Rat}{n:Nat}(h:a.length=n)(g:b.length=n):(AAK f a b).length=n:=by rw[List.length_zipWith,h,g];lia
theorem Li{P:Ld->Prop}{i:Nat}{n:Int}(hi:i<st.AE.length)(h:∀x∈st.AE,P x)(g:P ⟨(AW st.AE i).k,(AW st.AE i).n-n,(AW st.AE i).ow⟩):∀x∈less st.AE i n,P x:=by
 intro x hx
 rcases SD hx hi with h1|h1
 .exact h x h1
 .rw[h1];exact g
theorem SI{P:Ld->Prop}{ls:Gc Ld}{y:Ld}(h:∀x∈ls,P x)(g:P y):∀x∈ls++[y],P x:=by
 intro x hx
 rcases vY.mp hx with w|w
 .exact h x w
 .simp at w;rw[w];exact g
structure LOk(t:Tr)(k G B:Nat)(x:Ld):Prop where
 kd:x.k<t.k
 n0:0<=x.n
 n1:x.n<2^(131+k)
 own:x.ow.length=t.p
 ok:∀r∈x.ow,Ok G B r
theorem LOk.up{G B T B':Nat}{x:Ld}(h:LOk t k G B x)(hT:B*T<=B'):LOk t (k+1) (G*T) B' x:=⟨h.kd,h.n0,zE h.n1 (NM (by lia)),h.own,λr hr=>(h.ok r hr).up hT⟩
theorem LOk.up1{G B:Nat}{x:Ld}(h:LOk t k G B x):LOk t (k+1) G B x:=⟨h.kd,h.n0,zE h.n1 (NM (by lia)),h.own,h.ok⟩
theorem LOk.less{G B:Nat}{x:Ld}{n:Int}(h:LOk t k G B x)(h0:0<=n)(h1:n<=x.n):LOk t k G B ⟨x.k,x.n-n,x.ow⟩:=⟨h.kd,show 0<=x.n-n by lia,show x.n-n<_ by have:=h.n1;lia,h.own,h.ok⟩
theorem JV.of{G B:Nat}(h1:st.AE.length<=4+k)(h2:∀x∈st.AE,LOk t k G B x)(h3:st.hold.length=t.p)(h4:st.nums.length<=k)(g0:0<G)(g1:G<=B)(g2:B<2^(30+170*k))(h5:∀r∈st.hold,Ok G B r):JV t k st:=⟨h1,λx hx=>(h2 x hx).kd,λx hx=>⟨(h2 x hx).n0,(h2 x hx).n1⟩,λx hx=>(h2 x hx).own,h3,h4,G,B,g0,g1,g2,λx hx=>(h2 x hx).ok,h5⟩
theorem lu{n:Int}(h:n<2^131):n<2^(131+k):=zE h (NM (by lia))
theorem aV(ht:Oe t)(h:JV t k st)(hk:k<=16){d:Ai}(hc:Can t st d):JV t (k+1) (step t st d):=by
 obtain⟨G,B,g0,g1,g2,hl,hh⟩:=h.gb
 have L:∀x∈st.AE,LOk t k G B x:=λx hx=>⟨h.kind x hx,(h.pcs x hx).1,(h.pcs x hx).2,h.own x hx,hl x hx⟩
 have g2':B<2^(30+170*(k+1)):=uy g2 (GO (by lia))
 have hlen:=h.len
 have hnm:=h.nm
 cases d with
 |HV p kd n=>
  obtain⟨h1,h2,h3,h4⟩:=hc
  refine JV.of (G:=G) (B:=B) (by simp[step];lia) (SI (λx hx=>(L x hx).up1) ⟨h2,by show 0<=n;lia,lu h4,by simp[ZH],kl g1⟩) h.hold (yE hnm) g0 g1 g2' hh
 |Ox i j=>
  obtain⟨hij,hi,hj,h1,h2,h3⟩:=hc
  have li:=L _ (BD hi)
  have lj:=L _ (BD hj)
  have tl:((AW st.AE i).n+(AW st.AE j).n).toNat<2^(132+k):=by
   have a:=li.n1;have b:=lj.n1
   have e:(2:Int)^(132+k)=2^(131+k)*2:=by rw[show 132+k=(131+k)+1 by lia,Int.pow_succ]
   have:(((AW st.AE i).n+(AW st.AE j).n).toNat:Int)<((2^(132+k):Nat):Int):=by
    rw[wD (by lia)]
    push_cast
    rw[e];lia
   exact_mod_cast this
  have t0:0<((AW st.AE i).n+(AW st.AE j).n).toNat:=by lia
  refine JV.of (G:=G*((AW st.AE i).n+(AW st.AE j).n).toNat) (B:=B*((AW st.AE i).n+(AW st.AE j).n).toNat) (by simp[step,FZ];lia) (SI ?_ ⟨li.kd,by show 0<=(AW st.AE i).n+(AW st.AE j).n;lia,?_,?_,YU h1 h2 li.ok lj.ok⟩) h.hold (yE hnm) (zH g0 t0) (wB _ g1) (Xw g2 tl (by lia)) (λr hr=>(hh r hr).up (u4 _))
  .have e0:AW (less st.AE i (AW st.AE i).n) j=AW st.AE j:=by
    unfold AW less
    rw[vO,u3 hij,<-vO]
   have A:=Li (P:=LOk t (k+1) (G*((AW st.AE i).n+(AW st.AE j).n).toNat) (B*((AW st.AE i).n+(AW st.AE j).n).toNat)) (n:=(AW st.AE i).n) hi (λx hx=>(L x hx).up (u4 _)) ((li.up (u4 _)).less (by lia) (Int.le_refl _))
   have A2:=Li (st:={st with AE:=less st.AE i (AW st.AE i).n}) (i:=j) (n:=(AW st.AE j).n) (by simpa[FZ]using hj) A (by
    show LOk _ _ _ _ ⟨(AW (less st.AE i (AW st.AE i).n) j).k,(AW (less st.AE i (AW st.AE i).n) j).n-_,(AW (less st.AE i (AW st.AE i).n) j).ow⟩
    rw[e0]
    exact(lj.up (u4 _)).less (by lia) (Int.le_refl _))
   exact A2
  .show(AW st.AE i).n+(AW st.AE j).n<2^(131+(k+1))
   have a:=li.n1;have b:=lj.n1
   rw[show 131+(k+1)=(131+k)+1 by lia,Int.pow_succ];lia
  .exact Fj li.own lj.own
 |swap i g kd n=>
  obtain⟨hi,h1,h2,h3,h4,h5,h6⟩:=hc
  have li:=L _ (BD hi)
  refine JV.of (G:=G) (B:=B) (by simp[step,FZ];lia) (SI (Li hi (λx hx=>(L x hx).up1) (li.up1.less (by lia) h2)) ⟨h3,by show 0<=n;lia,lu h6,li.own,li.ok⟩) h.hold (yE hnm) g0 g1 g2' hh
 |IG u i g kd n=>
  obtain⟨hi,h1,h2,h3,h4,h5,h6,h7⟩:=hc
  have li:=L _ (BD hi)
  refine JV.of (G:=G) (B:=B) (by simp[step,FZ];lia) (SI (Li hi (λx hx=>(L x hx).up1) (li.up1.less (by lia) h2)) ⟨h3,by show 0<=n;lia,lu h6,li.own,li.ok⟩) h.hold (by simp[step];lia) g0 g1 g2' hh
 |Ku i n=>
  obtain⟨hi,h1,h2⟩:=hc
  have li:=L _ (BD hi)
  refine JV.of (G:=G) (B:=B) (by simp[step,FZ];lia) (Li hi (λx hx=>(L x hx).up1) (li.up1.less (by lia) h2)) h.hold (yE hnm) g0 g1 g2' hh
 |thr i n ws=>
  obtain⟨hi,h1,h2,h3,h4⟩:=hc
  have li:=L _ (BD hi)
  have W:=ND ht h (by lia) h3 h4
  have wl:(Gb t st.AE ws).toNat<2^(145+k):=by
   have:((Gb t st.AE ws).toNat:Int)<((2^(145+k):Nat):Int):=by
    rw[wD (by lia)];push_cast;exact W.2
   exact_mod_cast this
  have bo:=λ{ss:Gc Rat} (hs:∀r∈ss,Ok G B r)=>Xh ht h (by lia) h3 h4 hi h1 h2 li.ok hs
  refine JV.of (G:=G*(Gb t st.AE ws).toNat) (B:=B*(Gb t st.AE ws).toNat) (by simp[step,FZ];lia) ?_ (Fj h.hold li.own) (yE hnm) (zH g0 (by lia)) (wB _ g1) (Xw g2 wl (by lia)) (bo hh)
  intro x hx
  obtain⟨y,hy,rfl⟩:=vp.mp hx
  have ly:=Li (P:=LOk t k G B) hi L (li.less (n:=n) (by lia) h2) y hy
  exact⟨ly.kd,ly.n0,ly.up1.n1,Fj ly.own li.own,bo ly.ok⟩
 |Nt p q x=>
  obtain⟨h1,h2,h3,h4,h5,h6⟩:=hc
  have dp:=x.den_pos
  refine JV.of (G:=G*x.den) (B:=2*B*x.den) (by simp[step];lia) ?_ (by simp[step,KD,h.hold]) (yE hnm) (zH g0 dp) (wB _ (by lia)) ?_ (Xx (by rw[h.hold];exact h2) (by rw[h.hold];exact h3) h4 h5 hh)
  .intro y hy
   obtain⟨z,hz,rfl⟩:=vp.mp hy
   have lz:=L z hz
   exact⟨lz.kd,lz.n0,lz.up1.n1,by simp[KD,lz.own],Xx (by rw[lz.own];exact h2) (by rw[lz.own];exact h3) h4 h5 lz.ok⟩
  .have:=Xw (B:=B) (T:=2*x.den) (j:=5) g2 (by lia) (by lia)
   rw[show 2*B*x.den=B*(2*x.den) by rw[<-AAt,yU 2 B]]
   exact this
end
theorem TU{α:Type}{f:α->D}:∀{xs:Gc α},(∀x∈xs,(f x).lay=true)->D.Tv (xs.map f)=true
 | [],_=>rfl
 |x::xs,h=>by
  show((f x).lay && D.Tv (xs.map f))=true
  rw[h x vA,TU λy hy=>h y (uv _ hy)]
  rfl
theorem aO{ds:Gc D}(h:D.Tv ds=true):VZ (.lst ds) (.lst [])=true:=by
 unfold VZ
 show(D.Tv ds && true && _)=true
 rw[h]
 simp only[AB5,xN]
 exact uz (Nat.min_le_right _ _) (by decide)
noncomputable def Jh(is:Gc Nat):Gc D:=is.map λ(i:Nat)=>D.int i
theorem QD{is:Gc Nat}:VZ (.lst (Jh is)) (.lst [])=true:=aO (TU λ_ _=>rfl)
theorem aj{d:D}{ds:Gc D}:deq (.lst (d::ds)) (.lst [])=false:=rfl
theorem gv:deq (.lst []) (.lst [])=true:=rfl
theorem Su{is:Gc Nat}:deq (.lst (Jh is)) (.lst [])=is.isEmpty:=by
 cases is with
 |nil=>exact gv
 |cons i is=>exact aj
theorem PN{ds:Gc D}:UJ 0 ds=(vS ds.length).map λ(i:Nat)=>D.tup [.int i,ds.getD i .non]:=by
 apply yj
 intro i
 rw[Ot,vG]
 by_cases h:i<ds.length
 .rw[ux h,xj h]
  simp[ux h]
 .rw[xr (by lia),xr (by simp;lia)]
  rfl
theorem NG{is:Gc Nat}:(Jh is).length=is.length:=by simp[Jh]
theorem QL{is:Gc Nat}{r:Int}(h0:0<=r)(h1:r<is.length):∃i∈is,atI (Jh is) r=Fk (.int (i:Nat)):=by
 have h2:r.toNat<is.length:=by lia
 refine⟨is[r.toNat],yx h2,?_⟩
 have:=cS (xs:=Jh is) h0 (by rw[NG];exact h1)
 rw[this]
 simp[Jh]
theorem Zg{x K:Int}(h0:0<=x)(h1:x<2*K):x % K=if x<K then x else x-K:=by
 split
 .exact Int.emod_eq_of_lt h0 (by assumption)
 .have:x % K=(x-K) % K:=by rw[Int.sub_emod_right]
  rw[this]
  exact Int.emod_eq_of_lt (by lia) (by lia)
section
variable{S:Sto}{p s l m:Nat}{as:Gc Nat}{st:Stt}{t:Tr}{k:Nat}
noncomputable def Dq(st:Stt):Gc Nat:=(vS st.AE.length).filter λi=>decide (0<(AW st.AE i).n)
theorem dq(hS:SAt S s l m as st)(hl:st.AE.length<=50):C8 [(l,as.map D.ref)] (tTp [tNm 0,tNm 1]) (eOp (o2 wGt) [eOp (o2 wIx) [eV 1,eC (.int 1)],eC (.int 0)]) (eV 0) (UJ 0 (as.map D.ref)) [] [uk,uk] S=Fk (Jh (Dq st),S):=by
 have:=Hd (gs:=[(l,as.map D.ref)]) (t:=tTp [tNm 0,tNm 1]) (c:=eOp (o2 wGt) [eOp (o2 wIx) [eV 1,eC (.int 1)],eC (.int 0)]) (f:=eV 0) (C:=[]) (m:=2) (e:=λi:Nat=>D.tup [.int i,(as.map D.ref).getD i .non]) (g:=λi:Nat=>D.int i) (b:=λi=>decide (0<(AW st.AE i).n)) (S:=S) hS.guard (xs:=vS st.AE.length) (acc:=[]) (os:=[uk,uk]) rfl (uz (show _<=50 by simp;lia) (AS (by decide))) (by
  intro i hi os ho
  obtain⟨o1,o2,rfl⟩:=ml ho
  obtain⟨a,a1,a2,a3⟩:=hS.at (xW.mp hi)
  have e:(as.map D.ref).getD i .non=.ref a:=by simp[a1]
  rw[e]
  refine⟨[Fk (.int i),Fk (.ref a)],rfl,by simp,?_,by simp⟩
  simp[Bb a2,De])
 rw[PN,vW,hS.len]
 exact this
theorem O2{i:Nat}(h:i∈Dq st):i<st.AE.length/\0<(AW st.AE i).n:=by
 unfold Dq at h
 rw[xg]at h
 exact⟨xW.mp h.1,by simpa using h.2⟩
noncomputable def Ht(st:Stt)(j:Nat):Gc Nat:=(Dq st).filter λi=> !(i==j) && ((AW st.AE i).k==(AW st.AE j).k)
theorem Sy:(Dq st).length<=st.AE.length:=by
 unfold Dq
 exact uz (zY _ _) (by simp)
theorem aP{a b:Nat}:((a:Int)==(b:Int))=(a==b):=by
 by_cases h:a=b
 .subst h;simp
 .have:((a:Int)==(b:Int))=false:=by simp;lia
  rw[this];simp[h]
theorem dH(hS:SAt S s l m as st)(hl:st.AE.length<=50){j:Nat}(hj:j∈Dq st):C8 [] (tNm 2) (Iz (eOp (o2 wNe) [eV 2,eV 1]) (eOp (o2 wEq) [eOp (o2 wIx) [eOp (o2 wIx) [eV 0,eV 2],eC (.int 0)],eOp (o2 wIx) [eOp (o2 wIx) [eV 0,eV 1],eC (.int 0)]])) (eV 2) (Jh (Dq st)) [] [Fk (.ref l),Fk (.int j),uk] S=Fk (Jh (Ht st j),S):=by
 have fl:=Sy (st:=st)
 exact Hd (gs:=[]) (t:=tNm 2) (f:=eV 2) (C:=[Fk (.ref l),Fk (.int j)]) (m:=1) (e:=λi:Nat=>D.int i) (g:=λi:Nat=>D.int i) (b:=λi=> !(i==j) && ((AW st.AE i).k==(AW st.AE j).k)) (S:=S) Af (xs:=Dq st) (acc:=[]) (os:=[uk]) rfl (uz (show _<=50 by simp;lia) (AS (by decide))) (by
  intro i hi os ho
  obtain⟨o1,rfl⟩:=U7 ho
  obtain⟨a,a1,a2,a3⟩:=hS.at (O2 hi).1
  obtain⟨b,b1,b2,b3⟩:=hS.at (O2 hj).1
  refine⟨[Fk (.int i)],rfl,by simp,?_,by simp⟩
  by_cases e:i=j
  .subst e
   simp
  .have e':((i:Int)==(j:Int))=false:=by simp;lia
   have e2:(i==j)=false:=by simp[e]
   simp[e',e2,Bb hS.lo,a3,b3,Bb a2,Bb b2,De,aP])
theorem bc{i j:Nat}(h:i∈Ht st j):i∈Dq st/\i≠j/\(AW st.AE i).k=(AW st.AE j).k:=by
 unfold Ht at h
 rw[xg]at h
 simp at h
 exact⟨h.1,h.2.1,h.2.2⟩
noncomputable def IU(st:Stt):Gc Nat:=(vS 10).filter λi=> !(st.nums.any λu=>u==(i:Int))
theorem Wf{us:Gc Int}{i:Int}:inD (.int i) (us.map D.int)=us.any λu=>u==i:=by
 unfold inD
 rw[List.any_map]
 rfl
@[simp] theorem nY{b:Bool}{w:Wv}{r:List D}:wIn b w (.own r)=if(MK (fz w) && r.all MK)=true then some (.val (.bl (if b then !inD (fz w) r else inD (fz w) r)))else none:=nr rfl
@[simp] theorem pZ{b:Bool}{w:Wv}{r:List D}:wIn b w (.val (.lst r))=if(MK (fz w) && r.all MK)=true then some (.val (.bl (if b then !inD (fz w) r else inD (fz w) r)))else none:=nr rfl
theorem UB{us:Gc Int}:(us.map D.int).all MK=true:=by
 rw[yu,zl]
 intro x _;rfl
@[simp] theorem qy{i:Int}:MK (.int i)=true:=nr rfl
theorem eW(hS:SAt S s l m as st):C8 [] (tNm 1) (eOp (o2 (wIn true)) [eV 1,eV 0]) (eV 1) (Mh 0 10) [] [Fk (.ref m),uk] S=Fk (Jh (IU st),S):=by
 exact Hd (gs:=[]) (t:=tNm 1) (f:=eV 1) (C:=[Fk (.ref m)]) (m:=1) (e:=λi:Nat=>D.int (0+(i:Int))) (g:=λi:Nat=>D.int i) (b:=λi=> !(st.nums.any λu=>u==(i:Int))) (S:=S) Af (xs:=vS 10) (acc:=[]) (os:=[uk]) rfl (uz (show _<=50 by simp) (AS (by decide))) (by
  intro i hi os ho
  obtain⟨o1,rfl⟩:=U7 ho
  refine⟨[Fk (.int i)],rfl,by simp,?_,by simp⟩
  have nu:=Bb hS.nu
  have fi:=UB (us:=st.nums)
  have ii:=Wf (us:=st.nums) (i:=(i:Int))
  generalize st.nums.map D.int=ud at*
  generalize (st.nums.any λu=>u==(i:Int))=bb at*
  simp[nu,fi,ii])
theorem Z4{i:Nat}(h:i∈IU st):(i:Int)∉st.nums/\i<=9:=by
 unfold IU at h
 rw[xg]at h
 have h1:=xW.mp h.1
 refine⟨?_,by lia⟩
 intro z
 have h2:=h.2
 have:(st.nums.any λu=>u==(i:Int))=true:=zm.mpr ⟨_,z,by simp⟩
 rw[this]at h2
 cases h2
theorem aI:(IU st).length<=10:=by
 unfold IU
 exact uz (zY _ _) (by simp)
theorem bV{j:Nat}:(Ht st j).length<=st.AE.length:=by
 unfold Ht
 exact uz (zY _ _) Sy
end
section
variable{S:Sto}{p s l m:Nat}{as:Gc Nat}{st:Stt}{t:Tr}{k:Nat}
def Zb:Ex:=(Ad (xIf (Iz (eOp (o2 wEq) [eV 7,eC (.int 7)]) (eOp (o2 wNe) [eV 12,GX []])) (BE (Cw [eC (.str "trade"),eOp (o2 wIx) [eV 12,AJ AL [eV 0,eOp (o1 Kw) [eV 12]]],eV 8,eV 9,eV 11,AJ Bn [eV 0]])) EI)
    (BE (Cw [eC (.str "swap"),eV 8,eV 9,eV 11,AJ Bn [eV 0]])))
def XU:Ex:=(Ad (xIf (eOp (o2 wEq) [eV 7,eC (.int 8)]) (BE (Cw [eC (.str "spoil"),eV 8,eV 9])) EI)
    (Ad (xIf (Iz (eOp (o2 wEq) [eV 7,eC (.int 9)]) (eOp (o2 wGt) [eOp (o2 wIx) [eV 1,eC (.int 0)],eC (.int 1)])) (Ad (Bs 13 (AJ AL [eV 0,eOp (o2 wIx) [eV 1,eC (.int 0)]]))
    (BE (Cw [eC (.str "sell"),eV 13,eOp (o2 U9) [eOp (o2 EA) [eOp (o2 EA) [eV 13,eC (.int 1)],AJ AL [eV 0,eOp (o2 Qe) [eOp (o2 wIx) [eV 1,eC (.int 0)],eC (.int 1)]]],eOp (o2 wIx) [eV 1,eC (.int 0)]],AJ Ir [eV 0]]))) EI)
    (BE (Cw [eC (.str "throw"),eV 8,eV 9,AJ Fw [eV 0,eOp (o2 EA) [eOp (o2 wIx) [eV 1,eC (.int 1)],eC (.int 1)]]]))))
def T6:Ex:=(Ad (xIf (Iz (eOp (o2 wLt) [eV 7,eC (.int 8)]) (eOp (o2 wGt) [eOp (o2 wIx) [eV 1,eC (.int 1)],eC (.int 1)])) (Ad (Bs 11 (eOp (o2 U9) [eOp (o2 EA) [eOp (o2 EA) [eOp (o2 wIx) [eOp (o2 wIx) [eV 3,eV 8],eC (.int 0)],eC (.int 1)],AJ AL [eV 0,eOp (o2 Qe) [eOp (o2 wIx) [eV 1,eC (.int 1)],eC (.int 1)]]],eOp (o2 wIx) [eV 1,eC (.int 1)]]))
    (Ad (Bs 12 (Dp [5] 1 (Ts [eC (.int 10)]) (tNm 1) (eOp (o2 (wIn true)) [eV 1,eV 0]) (eV 1)))
    Zb)) EI) XU)
def Y1:Ex:=(xIf (eOp (o2 wLt) [eV 7,eC (.int 5)]) (Ad (Bs 10 (Dp [3,8] 1 (JA (eV 6)) (tNm 2) (Iz (eOp (o2 wNe) [eV 2,eV 1]) (eOp (o2 wEq) [eOp (o2 wIx) [eOp (o2 wIx) [eV 0,eV 2],eC (.int 0)],eOp (o2 wIx) [eOp (o2 wIx) [eV 0,eV 1],eC (.int 0)]])) (eV 2)))
    (xIf (eOp (o2 wNe) [eV 10,GX []]) (BE (Cw [eC (.str "pool"),eV 8,eOp (o2 wIx) [eV 10,AJ AL [eV 0,eOp (o1 Kw) [eV 10]]]])) EI)) EI)
def Sm:Ai->Prop
 | .IG _ _ g _ n=>g<=2000/\n<2^130
 |_=>AB8
def bX:Ex:=(Ad (xIf (eOr (eOp (o2 wLt) [eV 7,eC (.int 2)]) (eOp (o2 wEq) [eV 6,GX []])) (BE (Cw [eC (.str "bring"),AJ AL [eV 0,eOp (o2 wIx) [eV 1,eC (.int 0)]],AJ AL [eV 0,eOp (o2 wIx) [eV 1,eC (.int 1)]],AJ Bn [eV 0]])) EI)
    (Ad (Bs 8 (eOp (o2 wIx) [eV 6,AJ AL [eV 0,eOp (o1 Kw) [eV 6]]]))
    (Ad (Bs 9 (eOp (o2 EA) [eC (.int 1),AJ AL [eV 0,eOp (o2 mT) [eOp (o2 wIx) [eOp (o2 wIx) [eV 3,eV 8],eC (.int 1)],eC (.int 2000)]]]))
    (Ad Y1 T6))))
theorem bF:SA=(Ad (Rv (tTp [tNm 3,tNm 4,tNm 5]) (eV 2)) (Ad (Bs 6 (Dp [] 2 (iI (eV 3)) (tTp [tNm 0,tNm 1]) (eOp (o2 wGt) [eOp (o2 wIx) [eV 1,eC (.int 1)],eC (.int 0)]) (eV 0))) (Ad (Bs 7 (AJ AL [eV 0,eC (.int 12)])) bX))):=rfl
theorem af(hp:Dx p S)(hS:SAt S s l m as st)(hps:p∉s::l::m::as)(ht:Oe t)(h:JV t k st)(hk:k<=16):∃d S',Gw [.ref p,t.d,.ref s] S=Fk (Ai.d d,S')/\Pn p S S'/\Can t st d/\Sm d:=by
 obtain⟨t1,t2,t3,t4,t5,t6⟩:=ht
 have hlen:=h.len
 have st':∀{S':Sto},Pn p S S'->SAt S' s l m as st:=λg=>hS.same g.same (by simpa using hps)
 have r0:=AY hS.root
 have cf:=dq hS (by lia)
 have fl:=Sy (st:=st)
 have sq:=Gm hS.lo
 obtain⟨way,S1,e1,a1,b1,p1⟩:=Al hp (n:=12) (by decide) (by decide)
 have okF:=QD (is:=Dq st)
 have dqF:=Su (is:=Dq st)
 have pr0:Gw [.ref p,t.d,.ref s] S=(bX [Fk (.ref p),Fk t.d,Fk (.ref s),Fk (.ref l),Fk (shD st.hold),Fk (.ref m),Fk (.lst (Jh (Dq st))),Fk (.int way),uk,uk,uk,uk,uk,uk] S1).map λr=>(flD r.1,r.2.2):=by
  simp[Gw,bF,r0,sq,cf,e1]
 by_cases hb:way<2\/(Dq st).isEmpty=true
 .obtain⟨x2,S2,e2,a2,b2,p2⟩:=Al p1.pen (n:=t.p) (by lia) (by lia)
  obtain⟨x3,S3,e3,a3,b3,p3⟩:=Al p2.pen (n:=t.k) (by lia) (by lia)
  obtain⟨x4,S4,e4,p4,a4,b4⟩:=P4 p3.pen
  obtain⟨x2,rfl⟩:=Kn a2
  obtain⟨x3,rfl⟩:=Kn a3
  refine⟨.HV x2 x3 x4,S4,?_,((p1.trans p2).trans p3).trans p4,⟨by lia,by lia,a4,b4⟩,trivial⟩
  rw[pr0]
  have ho:∀(x y:Ex),xIf (eOr (eOp (o2 wLt) [eV 7,eC (.int 2)]) (eOp (o2 wEq) [eV 6,GX []])) x y [Fk (.ref p),Fk t.d,Fk (.ref s),Fk (.ref l),Fk (shD st.hold),Fk (.ref m),Fk (.lst (Jh (Dq st))),Fk (.int way),uk,uk,uk,uk,uk,uk] S1=x [Fk (.ref p),Fk t.d,Fk (.ref s),Fk (.ref l),Fk (shD st.hold),Fk (.ref m),Fk (.lst (Jh (Dq st))),Fk (.int way),uk,uk,uk,uk,uk,uk] S1:=by
   intro x y
   by_cases hw:way<2
   .simp[hw]
   .simp[hw,okF,dqF,hb.resolve_left hw]
  simp[bX,-YG,ho]
  simp[Tr.d,e2,e3,e4,Ai.d]
 .have hw2:¬way<2:=λz=>hb (.inl z)
  have hf:(Dq st).isEmpty=false:=by
   cases z:(Dq st).isEmpty with
   |true=>exact absurd (.inr z) hb
   |false=>rfl
  have hfl:0<(Dq st).length:=by
   cases z:Dq st with
   |nil=>rw[z]at hf;cases hf
   |cons a b=>simp
  obtain⟨rl,S2,e2,a2,b2,p2⟩:=Al p1.pen (n:=(Dq st).length) (by lia) (by lia)
  obtain⟨i,mi,ei⟩:=QL a2 b2
  have fi:=O2 mi
  have hS1:=st' p1
  have hS2:=st' (p1.trans p2)
  obtain⟨a,x1,x2,x3⟩:=hS2.at fi.1
  have n1:=fi.2
  obtain⟨rs,S3,e3,a3,b3,p3⟩:=Al p2.pen (n:=if 2000<(AW st.AE i).n then 2000 else(AW st.AE i).n) (by split<;>lia) (by split<;>lia)
  have hsome:1<=1+rs/\1+rs<=(AW st.AE i).n:=by split at b3<;>lia
  have p23:=(p1.trans p2).trans p3
  have hS3:=st' p23
  have lo2:=Bb hS2.lo
  have lo3:=Bb hS3.lo
  have x2':=Bb x2
  have x4:S3[a]?=Fk (De (AW st.AE i)):=hS3.ld i a _ x1 (GJ fi.1)
  have x4':=Bb x4
  have kd:=h.kind _ (BD fi.1)
  have nl:=NG (is:=Dq st)
  have cs:=dH hS3 (by lia) mi
  have okS:=QD (is:=Ht st i)
  have dqS:=Su (is:=Ht st i)
  have sl:=bV (st:=st) (j:=i)
  have nls:=NG (is:=Ht st i)
  have pre:Gw [.ref p,t.d,.ref s] S=((Y1 [Fk (.ref p),Fk t.d,Fk (.ref s),Fk (.ref l),Fk (shD st.hold),Fk (.ref m),Fk (.lst (Jh (Dq st))),Fk (.int way),Fk (.int i),Fk (.int (1+rs)),uk,uk,uk,uk] S3).bind (iE T6)).map λr=>(flD r.1,r.2.2):=by
   rw[pr0]
   simp[bX,hw2,okF,dqF,hf,nl,e2,ei,lo2,x3,x2',e3]
  have tail:∀o10,(way<5->(Ht st i).isEmpty=true)->∃d S',(T6 [Fk (.ref p),Fk t.d,Fk (.ref s),Fk (.ref l),Fk (shD st.hold),Fk (.ref m),Fk (.lst (Jh (Dq st))),Fk (.int way),Fk (.int i),Fk (.int (1+rs)),o10,uk,uk,uk] S3).map (λr=>(flD r.1,r.2.2))=Fk (Ai.d d,S')/\Pn p S S'/\Can t st d/\Sm d:=by
   intro o10 _
   generalize hE:([Fk (.ref p),Fk t.d,Fk (.ref s),Fk (.ref l),Fk (shD st.hold),Fk (.ref m),Fk (.lst (Jh (Dq st))),Fk (.int way),Fk (.int i),Fk (.int (1+rs)),o10,uk,uk,uk]:En)=E
   clear pre cs okS dqS
   by_cases hsw:way<8/\1<t.k
   .obtain⟨hw8,hk1⟩:=hsw
    have hk1':(1:Int)<t.k:=by lia
    obtain⟨rk,S4,e4,a4,b4,p4⟩:=Al p3.pen (n:=(t.k:Int)-1) (by lia) (by lia)
    have hS4:=st' (p23.trans p4)
    have hmod:=Zg (x:=((AW st.AE i).k:Int)+1+rk) (K:=t.k) (by lia) (by lia)
    obtain⟨kd2,ekd⟩:∃q:Nat,((AW st.AE i).k+1+rk) % (t.k:Int)=(q:Int):=⟨_,(wD (x9 _ (by lia))).symm⟩
    have hkd:kd2<t.k/\kd2≠(AW st.AE i).k:=by
     rw[ekd]at hmod
     split at hmod<;>lia
    have kp:0<t.k:=by lia
    have cl:=eW hS4
    have okL:=QD (is:=IU st)
    have dqL:=Su (is:=IU st)
    have ll:=aI (st:=st)
    have nll:=NG (is:=IU st)
    have rt:Ma 10=true:=GB (by decide) (by decide)
    have mid:T6 E S3=(Zb [Fk (.ref p),Fk t.d,Fk (.ref s),Fk (.ref l),Fk (shD st.hold),Fk (.ref m),Fk (.lst (Jh (Dq st))),Fk (.int way),Fk (.int i),Fk (.int (1+rs)),o10,Fk (.int kd2),Fk (.lst (Jh (IU st))),uk] S4).bind (iE XU):=by
     subst hE
     simp[T6,Tr.d,x3,hw8,hk1',lo3,x4',e4,kp,ekd,rt,cl]
    rw[mid]
    clear mid hE
    by_cases htr:way=7/\(IU st).isEmpty=false
    .obtain⟨hw7,hle⟩:=htr
     have hll:0<(IU st).length:=by
      cases z:IU st with
      |nil=>rw[z]at hle;cases hle
      |cons a b=>simp
     obtain⟨ru,S5,e5,a5,b5,p5⟩:=Al p4.pen (n:=(IU st).length) (by lia) (by lia)
     obtain⟨u,mu,eu⟩:=QL a5 b5
     obtain⟨x6,S6,e6,p6,a6,b6⟩:=Ru p5.pen
     have fu:=Z4 mu
     refine⟨.IG u i (1+rs) kd2 x6,S6,?_,((p23.trans p4).trans p5).trans p6,⟨fi.1,hsome.1,hsome.2,hkd.1,hkd.2,a6,Int.lt_trans b6 (by decide),fu.1,by lia,by lia⟩,by split at b3<;>lia,b6⟩
     subst hw7
     simp[Zb,okL,dqL,hle,nll,e5,eu,e6,Ai.d]
    .obtain⟨x6,S6,e6,p6,a6,b6⟩:=P4 p4.pen
     refine⟨.swap i (1+rs) kd2 x6,S6,?_,(p23.trans p4).trans p6,⟨fi.1,hsome.1,hsome.2,hkd.1,hkd.2,a6,b6⟩,trivial⟩
     by_cases h7:way=7
     .subst h7
      have hle:(IU st).isEmpty=true:=by
       cases z:(IU st).isEmpty with
       |true=>rfl
       |false=>exact absurd ⟨rfl,z⟩ htr
      simp[Zb,okL,dqL,hle,e6,Ai.d]
     .have h7':(way==7)=false:=by simpa using h7
      simp[Zb,h7',e6,Ai.d]
   .have sw:T6 E S3=XU E S3:=by
     subst hE
     by_cases w8:way<8
     .have hk1:¬(1:Int)<t.k:=by lia
      simp[T6,Tr.d,w8,hk1]
     .simp[T6,w8]
    rw[sw]
    clear sw
    by_cases h8:way=8
    .subst h8
     refine⟨.Ku i (1+rs),S3,?_,p23,⟨fi.1,hsome.1,hsome.2⟩,trivial⟩
     subst hE
     simp[XU,Ai.d]
    .have h8':(way==8)=false:=by simpa using h8
     by_cases h9:way=9/\1<t.p
     .obtain⟨h9,hP⟩:=h9
      subst h9
      have hP':(1:Int)<t.p:=by lia
      obtain⟨rp,S4,e4,a4,b4,p4⟩:=Al p3.pen (n:=t.p) (by lia) (by lia)
      obtain⟨rq,S5,e5,a5,b5,p5⟩:=Al p4.pen (n:=(t.p:Int)-1) (by lia) (by lia)
      obtain⟨sh,S6,e6,p6,a6,b6,c6⟩:=Z0 p5.pen
      have hmod:=Zg (x:=rp+1+rq) (K:=t.p) (by lia) (by lia)
      obtain⟨q,eq⟩:∃q:Nat,(rp+1+rq) % (t.p:Int)=(q:Int):=⟨_,(wD (x9 _ (by lia))).symm⟩
      obtain⟨rp,rfl⟩:=Kn a4
      have hq:q<t.p/\q≠rp:=by
       rw[eq]at hmod
       split at hmod<;>lia
      have pp:0<t.p:=by lia
      refine⟨.Nt rp q sh,S6,?_,((p23.trans p4).trans p5).trans p6,⟨λz=>hq.2 z.symm,by lia,hq.1,a6,b6,c6⟩,trivial⟩
      subst hE
      simp[XU,Tr.d,hP',e4,e5,pp,eq,e6,Ai.d]
     .have s9:∀(x y:Ex) (T:Sto),xIf (Iz (eOp (o2 wEq) [eV 7,eC (.int 9)]) (eOp (o2 wGt) [eOp (o2 wIx) [eV 1,eC (.int 0)],eC (.int 1)])) x y E T=y E T:=by
       intro x y T
       subst hE
       by_cases z:way=9
       .have hP:¬(1:Int)<t.p:=by have:¬1<t.p:=λw=>h9 ⟨z,w⟩;lia
        subst z
        simp[Tr.d,hP]
       .have z':(way==9)=false:=by simpa using z
        simp[z']
      obtain⟨ws,S4,e4,p4,a4,b4⟩:=Zj p3.pen (n:=t.k+1) (by lia)
      have e4':Fw [.ref p,.int ((t.k:Int)+1)] S3=Fk (.tup (ws.map .int),S4):=e4
      refine⟨.thr i (1+rs) ws,S4,?_,p23.trans p4,⟨fi.1,hsome.1,hsome.2,a4,b4⟩,trivial⟩
      have s8:∀(x y:Ex) (T:Sto),xIf (eOp (o2 wEq) [eV 7,eC (.int 8)]) x y E T=y E T:=by
       intro x y T
       subst hE
       simp[h8']
      simp[XU,-YG,s8,s9]
      subst hE
      simp[Tr.d,e4',Ai.d]
  by_cases hpool:way<5/\(Ht st i).isEmpty=false
  .obtain⟨hw5,hse⟩:=hpool
   have hsl:0<(Ht st i).length:=by
    cases z:Ht st i with
    |nil=>rw[z]at hse;cases hse
    |cons a b=>simp
   obtain⟨rj,S4,e4,a4,b4,p4⟩:=Al p3.pen (n:=(Ht st i).length) (by lia) (by lia)
   obtain⟨j,mj,ej⟩:=QL a4 b4
   have fj:=bc mj
   have fj':=O2 fj.1
   refine⟨.Ox i j,S4,?_,p23.trans p4,⟨λz=>fj.2.1 z.symm,fi.1,fj'.1,n1,fj'.2,fj.2.2.symm⟩,trivial⟩
   rw[pre]
   simp[Y1,hw5,cs,okS,dqS,hse,nls,e4,ej,Ai.d]
  .by_cases w5:way<5
   .have hse:(Ht st i).isEmpty=true:=by
     cases z:(Ht st i).isEmpty with
     |true=>rfl
     |false=>exact absurd ⟨w5,z⟩ hpool
    obtain⟨d,S',e,pn,hc⟩:=tail (Fk (.lst (Jh (Ht st i)))) (λ_=>hse)
    refine⟨d,S',?_,pn,hc⟩
    rw[pre,<-e]
    simp[Y1,w5,cs,okS,dqS,hse]
   .obtain⟨d,S',e,pn,hc⟩:=tail uk (λz=>absurd z w5)
    refine⟨d,S',?_,pn,hc⟩
    rw[pre,<-e]
    simp[Y1,w5]
end
noncomputable def runs(t:Tr)(st:Stt)(ds:Gc Ai):Stt:=ds.foldl (step t) st
def Q8(t:Tr):Stt->Gc Ai->Prop
 |_,[]=>AB8
 |st,d::ds=>Can t st d/\Q8 t (step t st d) ds
theorem Rn{t:Tr}{d:Ai}:∀{ds:Gc Ai} {st:Stt},Q8 t st ds->Can t (runs t st ds) d->Q8 t st (ds++[d])
 | [],st,_,h=>⟨h,trivial⟩
 |x::ds,st,h,g=>⟨h.1,Rn h.2 g⟩
theorem Mm{t:Tr}:∀{ds:Gc Ai} {st:Stt} {i:Nat} {d:Ai},Q8 t st ds->ds[i]?=Fk d->Can t (runs t st (ds.take i)) d
 |x::ds,st,0,d,h,g=>by
  simp at g;subst g
  exact h.1
 |x::ds,st,i+1,d,h,g=>by
  simp at g
  show Can t (runs t (step t st x) (ds.take i)) d
  exact Mm h.2 g
theorem UN{t:Tr}{st:Stt}{ds:Gc Ai}{d:Ai}:runs t st (ds++[d])=step t (runs t st ds) d:=by simp[runs]
theorem My{t:Tr}{st:Stt}{ds:Gc Ai}{i:Nat}{d:Ai}(h:ds[i]?=Fk d):runs t st (ds.take (i+1))=step t (runs t st (ds.take i)) d:=by
 rw[AAZ,h]
 exact UN
theorem Tq{t:Tr}(ht:Oe t):∀{ds:Gc Ai} {st:Stt} {k:Nat},JV t k st->Q8 t st ds->k+ds.length<=17->JV t (k+ds.length) (runs t st ds)
 | [],st,k,h,_,_=>h
 |d::ds,st,k,h,g,hl=>by
  have:=Tq ht (ds:=ds) (aV ht h (by simp at hl;lia) g.1) g.2 (by simp at hl;lia)
  rw[show k+(d::ds).length=k+1+ds.length by simp;lia]
  exact this
theorem Rg{t:Tr}:∀{ds:Gc Ai} {st:Stt} {i:Nat},Q8 t st ds->Q8 t st (ds.take i)
 | [],st,i,h=>by simp;exact trivial
 |d::ds,st,0,h=>trivial
 |d::ds,st,i+1,h=>⟨h.1,Rg h.2⟩
noncomputable def st0(t:Tr)(ls:Gc Ld):Stt:=⟨ls,t.ho,[]⟩
structure Bu(t:Tr)(ls:Gc Ld)(ds:Gc Ai):Prop where
 tr:Oe t
 inv:JV t 0 (st0 t ls)
 good:Q8 t (st0 t ls) ds
 len:ds.length<=16
theorem Bu.at{t:Tr}{ls:Gc Ld}{ds:Gc Ai}(h:Bu t ls ds)(i:Nat):JV t (ds.take i).length (runs t (st0 t ls) (ds.take i)):=by
 have:=Tq h.tr (ds:=ds.take i) h.inv (Rg h.good) (by have:=h.len;simp;lia)
 rwa [ABD]at this
noncomputable def Ae(t:Tr)(ls:Gc Ld)(ds:Gc Ai):D:=.tup [t.d,.tup (ls.map Ld.d),.tup (ds.map Ai.d)]
theorem Xn{t:Tr}{ls:Gc Ld}(h:Kc t ls)(hl:ls.length<=4)(h1:t.ho.length=t.p){g:Nat}(g0:0<g)(g1:g<=32)(g2:∀r∈t.ho,Ok g g r):JV t 0 (st0 t ls):=by
 obtain⟨ha,G,G0,G1,G2⟩:=h
 have hG:G<=32^4:=uz G1 (v9 (by decide) hl)
 have hB:G*g<2^30:=by
  have:=yo hG g1
  lia
 refine JV.of (G:=G*g) (B:=G*g) (by simpa[st0]using hl) ?_ h1 (u4 _) (zH G0 g0) (u4 _) hB ?_
 .intro x hx
  have:=ha x hx
  exact⟨this.1,by lia,lu this.2.2.1,this.2.2.2.1,λr hr=>(G2 x hx r hr).up (u4 _)⟩
 .intro r hr
  have:=(g2 r hr).up (t:=G) (B':=G*g) (by rw[yU];exact u4 _)
  rwa [yU g G]at this
noncomputable def M9:Ai->vm
 | .thr .. =>true
 |_=>false
section
variable{S:Sto}{p:Nat}
theorem bE(d:Ai)(E:En)(h:E=[Fk d.d]):eOp (o2 wEq) [eOp (o2 wIx) [eV 0,eC (.int 0)],eC (.str "throw")] E S=Fk (.bl (M9 d),S):=by
 subst h
 cases d<;>simp[Ai.d,M9]
theorem tO{q:Nat}{ds:Gc Ai}(hq:S[q]?=Fk (.lst (ds.map Ai.d)))(hl:ds.length<=50):C8 [(q,ds.map Ai.d)] (tNm 0) (eOp (o2 wEq) [eOp (o2 wIx) [eV 0,eC (.int 0)],eC (.str "throw")]) (eV 0) (ds.map Ai.d) [] [uk] S=Fk ((ds.filter M9).map Ai.d,S):=
 Hd (gs:=[(q,ds.map Ai.d)]) (t:=tNm 0) (f:=eV 0) (C:=[]) (m:=1) (e:=Ai.d) (g:=Ai.d) (b:=M9) (S:=S) (λg hg=>by rw[vQ.mp hg];exact AY hq) (xs:=ds) (acc:=[]) (os:=[uk]) rfl (uz (show _<=50 by simp;lia) (AS (by decide))) (by
  intro d _ os ho
  obtain⟨o1,rfl⟩:=U7 ho
  exact⟨[Fk d.d],rfl,by simp,bE d _ rfl,by simp⟩)
theorem aE{M:Nat}(hM:M<=16)(h:Dx p S):∃t ls ds S',IA [.ref p,.int M] S=Fk (Ae t ls ds,S')/\(Bu t ls ds/\ds.length<=M/\(∀d∈ds,Sm d)/\Yn t)/\((∀l∈ls,l.ow.sum=1)/\t.ho.sum=1)/\Dx p S'/\∀n c,S[n]?=Fk c->n≠p->S'[n]?=Fk c:=by
 obtain⟨t,S1,e1,p1,ht,⟨hh,hhr⟩,g,g0,g1,g2⟩:=Yw h
 obtain⟨ls,S2,e2,p2,hf,hl⟩:=aL p1.pen ht
 have hi:=Xn hf hl hh.1 g0 g1 g2
 obtain⟨s,l,m,as,S3,e3,hS,sm,hn⟩:=WC (S:=S2) (t:=t) (ls:=ls) (x:=.tup []) (by lia)
 have lp:=p2.pen.lt
 have l02:S.length<=S2.length:=uz p1.same.len p2.same.len
 have pen3:Dx p S3:=by
  obtain⟨ds,e,hp⟩:=p2.pen
  exact⟨ds,sm.get e (by simp),hp⟩
 have hq:(S3++[Cl.lst []])[S3.length]?=Fk (.lst []):=vK
 obtain⟨rn,S4,e4,a4,b4,p4⟩:=Al (pen3.app [Cl.lst []]) (n:=(M:Int)+1) (by lia) (by lia)
 have lt3:=hS.lts
 have pn:p∉s::l::m::as:=λz=>by have:=hn p z;lia
 have qn:S3.length∉s::l::m::as:=λz=>by have:=lt3 _ z;lia
 have hpq:S3.length≠p:=by have:=pen3.lt;lia
 have hS4:SAt S4 s l m as (st0 t ls):=(hS.XF (.app)).same p4.same (by simpa using pn)
 have hq4:S4[S3.length]?=Fk (.lst []):=p4.get hq hpq
 obtain⟨rn,rfl⟩:=Kn a4
 have rk:Ma (rn:Int)=true:=GB (by lia) (by lia)
 have lqS:S.length<=S3.length:=uz l02 sm.len
 generalize hQ:S3.length=q at*
 obtain⟨E',S',ef,ds,as',o6,o7,rfl,f1,f2,f3,f4,f5,f6,f7,f8,f9,f10⟩:=IY (gs:=[]) (t:=tNm 6) (b:=Ad (Bs 7 (AJ Gw [eV 0,eV 2,eV 4]))
  (xIf (eOr (eOp (o2 wNe) [eOp (o2 wIx) [eV 7,eC (.int 0)],eC (.str "throw")]) (eOp (o2 wLt) [eOp (o1 Kw) [Dp [] 1 (JA (eV 5)) (tNm 0) (eOp (o2 wEq) [eOp (o2 wIx) [eV 0,eC (.int 0)],eC (.str "throw")]) (eV 0)],eC (.int 3)])) (Ad (Ci (AJ CL [eV 2,eV 4,eV 7]))
  (Ci (RC R7 (eV 5) [eV 7]))) EI))
  (I:=λrs E S'=>∃(ds:Gc Ai) (as':Gc Nat) (o6 o7:uo D),E=[Fk (.ref p),Fk (.int M),Fk t.d,Fk (.tup (ls.map Ld.d)),Fk (.ref s),Fk (.ref q),o6,o7]/\S'[q]?=Fk (.lst (ds.map Ai.d))/\Dx p S'/\SAt S' s l m as' (runs t (st0 t ls) ds)/\Q8 t (st0 t ls) ds/\ds.length+rs.length<=M/\p∉s::l::m::as'/\q∉s::l::m::as'/\(∀n∈s::l::m::as',S.length<=n)/\(∀n c,S[n]?=Fk c->n≠p->S'[n]?=Fk c)/\∀d∈ds,Sm d)
  (λ_ _ _ _=>Af) (ds:=Mh 0 rn) (E:=[Fk (.ref p),Fk (.int M),Fk t.d,Fk (.tup (ls.map Ld.d)),Fk (.ref s),Fk (.ref q),uk,uk]) (S:=S4)
  ⟨[],as,uk,uk,rfl,hq4,p4.pen,hS4,trivial,by rw[Ew];simp;lia,pn,qn,λn z=>uz l02 (hn n z),λn c e ne=>p4.get (DQ.get (A:=[]) .app (sm.get (p2.get (p1.get e ne) ne) (by simp)) (by simp)) ne,λ_ z=>nomatch z⟩ (by
    rintro dd rs E T ⟨ds,as',o6,o7,rfl,i1,i2,i3,i4,i5,i6,i7,i8,i9,i10⟩
    simp only[wC]at i5
    have inv:=Tq ht hi i4 (by lia)
    rw[ABD]at inv
    obtain⟨d,T1,d1,d2,d3,d4⟩:=af i2 i3 i6 ht inv (by lia)
    have lS:S.length<=T1.length:=by have:=i8 s vA;have:=Ax i3.root;have:=d2.same.len;lia
    have j3:=i3.same d2.same (by simpa using i6)
    have j1:T1[q]?=Fk (.lst (ds.map Ai.d)):=d2.get i1 hpq
    have tc:=tO j1 (by lia)
    have w1:∀(c:Ev),eOr (eOp (o2 wNe) [eOp (o2 wIx) [eV 7,eC (.int 0)],eC (.str "throw")]) c [Fk (.ref p),Fk (.int M),Fk t.d,Fk (.tup (ls.map Ld.d)),Fk (.ref s),Fk (.ref q),Fk dd,Fk d.d] T1=if M9 d=true then c [Fk (.ref p),Fk (.int M),Fk t.d,Fk (.tup (ls.map Ld.d)),Fk (.ref s),Fk (.ref q),Fk dd,Fk d.d] T1 else Fk (.bl true,T1):=by
     intro c
     cases d<;>simp[Ai.d,M9]
    by_cases hb:M9 d=false\/(ds.filter M9).length<3
    .obtain⟨T2,as2,k1,k2,k3,k4⟩:=j7 j3 ht inv (by lia) d3
     have lt:=j3.lts
     have q2:T2[q]?=Fk (.lst (ds.map Ai.d)):=k3.get j1 i7
     have hz:ds.length<sizeLine:=uy (show ds.length<50 by lia) (AS (by decide))
     refine⟨_,[Fk (.ref p),Fk (.int M),Fk t.d,Fk (.tup (ls.map Ld.d)),Fk (.ref s),Fk (.ref q),Fk dd,Fk d.d],T2.set q (.lst ((ds++[d]).map Ai.d)),by simp;rfl,?_,ds++[d],as2,Fk dd,Fk d.d,rfl,vJ (Ax q2),?_,?_,Rn i4 d3,by simp;lia,?_,?_,?_,?_,λx hx=>(vY.mp hx).elim (i10 x) λz=>by rw[vQ.mp z];exact d4⟩
     .have kk:=AY q2
      have sq:=Gm j1
      have hz':(ds.map Ai.d).length<sizeLine:=by simpa using hz
      have hfin:(ds++[d]).map Ai.d=ds.map Ai.d++[d.d]:=by simp
      rw[hfin]
      generalize hDD:ds.map Ai.d=DD at*
      cases ht':M9 d with
      |false=>
       simp[d1,-Ve,w1,ht',k1,kk,hz']
      |true=>
       have h3:((ds.filter M9).length:Int)<3:=by
        have:=hb.resolve_left (by rw[ht'];simp)
        lia
       simp[d1,-Ve,w1,ht',sq,tc,h3,k1,kk,hz']
     .obtain⟨pd,pe,ph⟩:=d2.pen
      exact⟨pd,by rw[u3 hpq];exact k3.get pe i6,ph⟩
     .rw[UN]
      exact k2.same (A:=[q]) (.set (by simp)) (by
       intro n hn z
       simp at hn;subst hn
       simp only[uw]at z i7
       rcases z with z|z|z|z
       .exact i7 (.inl z)
       .exact i7 (.inr (.inl z))
       .exact i7 (.inr (.inr (.inl z)))
       .rcases k4 _ z with w|w
        .exact i7 (.inr (.inr (.inr w)))
        .have:=Ax j1;lia)
     .intro z
      simp only[uw]at z i6
      rcases z with z|z|z|z
      .exact i6 (.inl z)
      .exact i6 (.inr (.inl z))
      .exact i6 (.inr (.inr (.inl z)))
      .rcases k4 _ z with w|w
       .exact i6 (.inr (.inr (.inr w)))
       .have:=d2.pen.lt;lia
     .intro z
      simp only[uw]at z i7
      rcases z with z|z|z|z
      .exact i7 (.inl z)
      .exact i7 (.inr (.inl z))
      .exact i7 (.inr (.inr (.inl z)))
      .rcases k4 _ z with w|w
       .exact i7 (.inr (.inr (.inr w)))
       .have:=Ax j1;lia
     .intro n z
      simp only[uw]at z i8
      rcases z with z|z|z|z
      .exact i8 n (.inl z)
      .exact i8 n (.inr (.inl z))
      .exact i8 n (.inr (.inr (.inl z)))
      .rcases k4 _ z with w|w
       .exact i8 n (.inr (.inr (.inr w)))
       .exact uz lS w
     .intro n c e ne
      have ln:n<S.length:=Ax e
      rw[u3 (λz=>by have:=lqS;lia)]
      exact k3.get (d2.get (i9 n c e ne) ne) λz=>by have:=i8 n z;lia
    .have ht':M9 d=true:=by
      cases z:M9 d with
      |true=>rfl
      |false=>exact absurd (.inl z) hb
     have h3:¬((ds.filter M9).length:Int)<3:=by
      have:¬(ds.filter M9).length<3:=λz=>hb (.inr z)
      lia
     refine⟨_,[Fk (.ref p),Fk (.int M),Fk t.d,Fk (.tup (ls.map Ld.d)),Fk (.ref s),Fk (.ref q),Fk dd,Fk d.d],T1,by simp;rfl,?_,ds,as',Fk dd,Fk d.d,rfl,j1,d2.pen,j3,i4,by lia,i6,i7,i8,λn c e ne=>d2.get (i9 n c e ne) ne,i10⟩
     have sq:=Gm j1
     generalize hDD:ds.map Ai.d=DD at*
     simp[d1,-Ve,w1,ht',sq,tc,h3])
 refine⟨t,ls,ds,S',?_,⟨⟨ht,hi,f4,by simp at f5;lia⟩,by simpa using f5,f10,hhr⟩,⟨λx hx=>(hf.1 x hx).2.2.2.2,hh.2⟩,f2,f9⟩
 have df:=Bb f1
 simp[IA,Rh,e1,e2,e3,hQ,e4,rk,ef,df,Ae]
end
noncomputable def stD(st:Stt):D:=.tup [.lst (st.AE.map Ld.d),shD st.hold]
section
variable{S:Sto}{s l m:Nat}{as:Gc Nat}{st:Stt}
theorem du(hS:SAt S s l m as st)(hl:st.AE.length<=50):C8 [(l,as.map D.ref)] (tNm 0) Ca (eOp (o1 DA) [eV 0]) (as.map D.ref) [] [uk] S=Fk (st.AE.map Ld.d,S):=by
 have e:=Cf (gs:=[(l,as.map D.ref)]) (t:=tNm 0) (f:=eOp (o1 DA) [eV 0]) (C:=[]) (m:=1) (e:=λz:Nat×Ld=>D.ref z.1) (g:=λz=>Ld.d z.2) hS.guard (xs:=as.zip st.AE) (acc:=[]) (os:=[uk]) rfl (uz (show _<=50 by simp;lia) (AS (by decide))) (by
  intro z hz os ho
  obtain⟨q1,rfl⟩:=U7 ho
  refine⟨[Fk (.ref z.1)],rfl,by simp,?_⟩
  simp[Bb (hS.rP hz),Ld.d])
 rw[<-Vz hS.len,<-Yf hS.len Ld.d]at e
 exact e
theorem QP{rs:Gc Rat}:D.tup (rs.map aD)=shD rs:=rfl
def YK:Ev:=Cw [Dp [] 1 (JA (eOp (o2 wIx) [eV 1,eC (.int 0)])) (tNm 0) Ca (eOp (o1 DA) [eV 0]),eOp (o1 DA) [eOp (o2 wIx) [eV 1,eC (.int 1)]]]
theorem Vx{E:En}(hS:SAt S s l m as st)(hl:st.AE.length<=50)(hE:at? E 1=Fk (.ref s)):YK E S=Fk (stD st,S):=by
 have r:=Bb hS.root
 have sq:=Gm hS.lo
 have e:=du hS hl
 simp[YK,hE,r,sq,e,QP,stD]
theorem XJ{t:Tr}{ls:Gc Ld}{ds:Gc Ai}(h:Bu t ls ds):∃q S',Fz [Ae t ls ds] S=Fk (.ref q,S')/\S'[q]?=Fk (.lst ((vS (ds.length+1)).map λj=>stD (runs t (st0 t ls) (ds.take j))))/\DQ [] S S':=by
 have hl0:=h.inv.len
 have hl1:ls.length<=4:=hl0
 obtain⟨s,l,m,as,S1,e1,hS,sm,hn⟩:=WC (S:=S) (t:=t) (ls:=ls) (x:=.tup (ds.map Ai.d)) (by lia)
 have hS:SAt S1 s l m as (st0 t ls):=hS
 have lt:=hS.lts
 have hS1:SAt (S1++[Cl.lst [stD (st0 t ls)]]) s l m as (st0 t ls):=hS.XF .app
 have hq:(S1++[Cl.lst [stD (st0 t ls)]])[S1.length]?=Fk (.lst [stD (st0 t ls)]):=vK
 have qn:S1.length∉s::l::m::as:=λz=>by have:=lt _ z;lia
 have sn0:=λ{E:En} (hE:at? E 1=Fk (.ref s))=>Vx (E:=E) hS (show ls.length<=50 by lia) hE
 have lSq:=sm.len
 generalize hQ:S1.length=q at*
 obtain⟨E',S',ef,i,as',o,f1,f2,rfl,f3,f4,f5,f6,f7⟩:=IY (gs:=[]) (t:=tNm 3) (b:=Ad (Ci (AJ CL [eOp (o2 wIx) [eV 0,eC (.int 0)],eV 1,eV 3]))
  (Ci (RC R7 (eV 2) [YK])))
  (I:=λrs E S'=>∃(i:Nat) (as':Gc Nat) (o:uo D),rs=(ds.drop i).map Ai.d/\i<=ds.length/\E=[Fk (Ae t ls ds),Fk (.ref s),Fk (.ref q),o]/\S'[q]?=Fk (.lst ((vS (i+1)).map λj=>stD (runs t (st0 t ls) (ds.take j))))/\SAt S' s l m as' (runs t (st0 t ls) (ds.take i))/\q∉s::l::m::as'/\(∀n∈s::l::m::as',S.length<=n)/\DQ [] S S')
  (λ_ _ _ _=>Af) (ds:=ds.map Ai.d) (E:=[Fk (Ae t ls ds),Fk (.ref s),Fk (.ref q),uk]) (S:=S1++[Cl.lst [stD (st0 t ls)]])
  ⟨0,as,uk,by simp,xf _,rfl,by rw[hq];rfl,hS1,qn,hn,sm.trans .app⟩ (by
    rintro dd rs E T ⟨i,as',o,i1,i2,rfl,i3,i4,i5,i6,i7⟩
    have hlt:i<ds.length:=by
     rcases AAL i ds.length with w|w
     .exact w
     .rw[xM w]at i1;cases i1
    rw[wH hlt,vT]at i1
    injection i1 with z1 z2
    subst z1 z2
    have inv:=h.at i
    have il:(ds.take i).length<=16:=by have:=h.len;simp;lia
    have can:=Mm h.good (ux hlt)
    obtain⟨T2,as2,k1,k2,k3,k4⟩:=j7 i4 h.tr inv il can
    have q2:=k3.get i3 i5
    rw[<-My (ux hlt)]at k2
    have inv2:=(h.at (i+1)).len
    have il2:(ds.take (i+1)).length<=16:=by have:=h.len;simp;lia
    have sn:=Vx (E:=[Fk (Ae t ls ds),Fk (.ref s),Fk (.ref q),Fk ds[i].d]) k2 (by lia) rfl
    have kk:=AY q2
    have q5:q∉s::l::m::as2:=by
     intro z
     simp only[uw]at z i5
     rcases z with z|z|z|z
     .exact i5 (.inl z)
     .exact i5 (.inr (.inl z))
     .exact i5 (.inr (.inr (.inl z)))
     .rcases k4 _ z with w|w
      .exact i5 (.inr (.inr (.inr w)))
      .have:=Ax i3;lia
    have q6:∀n∈s::l::m::as2,S.length<=n:=by
     intro n hz
     simp only[uw]at hz i6
     rcases hz with z|z|z|z
     .exact i6 n (.inl z)
     .exact i6 n (.inr (.inl z))
     .exact i6 n (.inr (.inr (.inl z)))
     .rcases k4 _ z with w|w
      .exact i6 n (.inr (.inr (.inr w)))
      .exact uz i7.len w
    have q7:DQ [] S T2:=DQ.new (A:=[]) i7 k3 i6
    refine⟨_,[Fk (Ae t ls ds),Fk (.ref s),Fk (.ref q),Fk ds[i].d],T2.set q (.lst ((vS (i+1+1)).map λj=>stD (runs t (st0 t ls) (ds.take j)))),by simp;rfl,?_,i+1,as2,Fk ds[i].d,rfl,hlt,rfl,vJ (Ax q2),k2.same (A:=[q]) (.set (by simp)) (by simpa using q5),q5,q6,DQ.new (A:=[]) (B:=[q]) q7 (.set (by simp)) (by intro n hn';simp at hn';lia)⟩
    have hz:((vS (i+1)).map λj=>stD (runs t (st0 t ls) (ds.take j))).length<sizeLine:=uy (show _<50 by have:=h.len;simp;lia) (AS (by decide))
    have hfin:((vS (i+1+1)).map λj=>stD (runs t (st0 t ls) (ds.take j)))=((vS (i+1)).map λj=>stD (runs t (st0 t ls) (ds.take j)))++[stD (runs t (st0 t ls) (ds.take (i+1)))]:=by
     rw[List.range_succ,yc];rfl
    rw[hfin]
    generalize ((vS (i+1)).map λj=>stD (runs t (st0 t ls) (ds.take j)))=DD at*
    generalize stD (runs t (st0 t ls) (ds.take (i+1)))=d2 at*
    simp only[Ae]at sn⊢
    simp[k1,kk,sn,hz])
 have hz:i=ds.length:=by
  have:=congrArg AAh f1
  simp at this
  lia
 subst hz
 refine⟨q,S',?_,f3,f7⟩
 have eb:OA=(Ad (Bs 1 (AJ Gf [eV 0]))
  (Ad (Bs 2 (Ng [YK]))
  (Ad (Oq (JA (eOp (o2 wIx) [eV 0,eC (.int 2)])) (tNm 3) (Ad (Ci (AJ CL [eOp (o2 wIx) [eV 0,eC (.int 0)],eV 1,eV 3]))
  (Ci (RC R7 (eV 2) [YK]))))
  (BE (eV 2))))):=rfl
 have s1:=sn0 (E:=[Fk (Ae t ls ds),Fk (.ref s),uk,uk]) rfl
 unfold Fz
 rw[eb]
 simp only[Ae]at s1 ef⊢
 simp[e1,s1,hQ,ef]
end
theorem Vc{n m d:Nat}(h:n<=m):HT.sIx m d (Fk (n:Int))=n:=by
 unfold HT.sIx
 have:¬((n:Int)<0):=by lia
 simp[this]
 lia
theorem Mn{α:Type}{ds:Gc α}{n:Nat}(h:n<=ds.length):Le ds uk (Fk (n:Int))=ds.take n:=by
 unfold Le
 rw[Vc h]
 simp[HT.sIx]
theorem Zu{α:Type}{ds:Gc α}{n:Nat}(h:n<=ds.length):Le ds (Fk (n:Int)) uk=ds.drop n:=by
 unfold Le
 rw[Vc h]
 simp[HT.sIx]
 exact yV (by simp)
noncomputable def hD(x:Ld):D:=.tup [.int x.k,.int x.n]
noncomputable def CB(ls:Gc Ld):D:=.lst (ls.map hD)
noncomputable def OU(ls:Gc Ld):D:=.lst (ls.map λx=>shD x.ow)
section
variable{S:Sto}{ls:Gc Ld}{i j:Nat}{n:Int}
@[simp] theorem qM:dr S (CB ls)=.val (CB ls):=nr rfl
@[simp] theorem rY:dr S (OU ls)=.val (OU ls):=nr rfl
@[simp] theorem nC:asS (.val (CB ls))=some (ls.map hD):=nr rfl
@[simp] theorem mI:asS (.val (OU ls))=some (ls.map λx=>shD x.ow):=nr rfl
@[simp] theorem mY:Kw (.val (CB ls))=some (.val (.int ls.length)):=by
  show Kw (.val (.lst (ls.map hD)))=_
  rw[bL,vW]
theorem Hl(hi:i<ls.length):atI (ls.map hD) (i:Int)=Fk (hD (AW ls i)):=Fq (by rw[vG,GJ hi];rfl)
theorem P7(hi:i<ls.length):atI (ls.map λx=>shD x.ow) (i:Int)=Fk (shD (AW ls i).ow):=Fq (by rw[vG,GJ hi];rfl)
@[simp] theorem tY{x:Ld}:dr S (hD x)=.val (.tup [.int x.k,.int x.n]):=nr rfl
@[simp] theorem rJ{ts:List Tf}{x:Ld}{E:En}:tTp ts (hD x) E S=tMs ts [.int x.k,.int x.n] E S:=nr rfl
theorem Uu(hi:i<ls.length)(hn:n<=(AW ls i).n):DO [CB ls,.int i,.int n] S=Fk (.bl true,S):=by
 have hi':(i:Int)<ls.length:=by lia
 simp[DO,MH,hi',hi,Hl hi,hn]
theorem Vp(hi:i<ls.length)(hj:j<ls.length)(h1:0<(AW ls i).n)(h2:0<(AW ls j).n)(hk:(AW ls i).k=(AW ls j).k):JJ [CB ls,.int i,.int j] S=Fk (.bl true,S):=by
 have e1:=Uu (S:=S) (n:=1) hi (by lia)
 have e2:=Uu (S:=S) (n:=1) hj (by lia)
 simp[JJ,OJ,e1,e2,Hl hi,Hl hj,hk]
theorem PB{k:Nat}(hi:i<ls.length)(hn:n<=(AW ls i).n)(hk:k≠(AW ls i).k):HK [CB ls,.int i,.int n,.int k] S=Fk (.bl true,S):=by
 have e1:=Uu (S:=S) hi hn
 have e2:(((AW ls i).k:Int)==(k:Int))=false:=by simp;lia
 simp[HK,OY,e1,Hl hi,e2]
theorem aX{lo hi:uo Int}:wSl lo hi (.val (CB ls))=Fk (.own (Le (ls.map hD) lo hi)):=nr rfl
theorem IB(hi:i<ls.length)(hl:ls.length<=60):CW [CB ls,.int i,.int n] S=Fk (CB (less ls i n),S):=by
 have c1:=Mn (ds:=ls.map hD) (n:=i) (by simp;lia)
 have c2:Le (ls.map hD) (Fk ((i:Int)+1)) uk=(ls.map hD).drop (i+1):=by
  have:=Zu (ds:=ls.map hD) (n:=i+1) (by simp;lia)
  simpa using this
 have ef:CB (less ls i n)=.lst ((ls.map hD).take i++[.tup [.int (AW ls i).k,.int ((AW ls i).n-n)]]++(ls.map hD).drop (i+1)):=by
  rw[VQ,CB,yy,List.set_eq_take_append_cons_drop,va (by simpa using hi)]
  simp[hD]
 have z1:(List.take i (ls.map hD)).length+1<=sizeLine:=uz (show _<=100 by simp;lia) (AS (by decide))
 have z2:(List.take i (ls.map hD)++[D.tup [.int (AW ls i).k,.int ((AW ls i).n-n)]]).length+(List.drop (i+1) (ls.map hD)).length<=sizeLine:=uz (show _<=100 by simp;lia) (AS (by decide))
 rw[ef]
 have ah:=Hl hi
 have ws:=λ{lo hi:uo Int}=>aX (ls:=ls) (lo:=lo) (hi:=hi)
 generalize List.take i (ls.map hD)=A at*
 generalize List.drop (i+1) (ls.map hD)=B at*
 simp only[wM,wC,yb]at z2
 simp[CW,Ke,ah,ws,c1,c2,z1,z2]
end
section
variable{S:Sto}{st:Stt}{t:Tr}{k:Nat}
@[simp] theorem HX{ls:List Ld}{r:List D}:EA (.val (CB ls)) (.val (.lst r))=if(ls.map hD).length+r.length<=sizeLine then some (.own (ls.map hD++r))else none:=nr rfl
theorem O3{ls:Gc Ld}{y:Ld}:D.lst (ls.map hD++[.tup [.int y.k,.int y.n]])=CB (ls++[y]):=by simp[CB,hD]
theorem QN(h:JV t k st)(hk:k<=17){d:Ai}(hc:Can t st d):Ay [CB st.AE,d.d] S=Fk (CB (step t st d).AE,S):=by
 have hlen:=h.len
 have hz:(st.AE.map hD).length+1<=sizeLine:=uz (show _<=100 by simp;lia) (AS (by decide))
 have hz2:∀{i:Nat} {n:Int},((less st.AE i n).map hD).length+1<=sizeLine:=λ{i n}=>uz (show _<=100 by simp[FZ];lia) (AS (by decide))
 cases d with
 |HV p kd n=>
  have e:=O3 (ls:=st.AE) (y:=⟨kd,n,ZH t.p p⟩)
  show _=Fk (CB (st.AE++[⟨kd,n,ZH t.p p⟩]),S)
  rw[<-e]
  have wA:=HX (ls:=st.AE) (r:=[.tup [.int kd,.int n]])
  rw[va (by simpa using hz)]at wA
  simp[Ay,CO,Ai.d,-HX,wA]
 |Ox i j=>
  obtain⟨hij,hi,hj,h1,h2,h3⟩:=hc
  have e0:AW (less st.AE i (AW st.AE i).n) j=AW st.AE j:=by
   unfold AW less
   rw[vO,u3 hij,<-vO]
  have w1:=IB (S:=S) (n:=(AW st.AE i).n) hi (by lia)
  have w2:=IB (S:=S) (ls:=less st.AE i (AW st.AE i).n) (i:=j) (n:=(AW st.AE j).n) (by rw[FZ];exact hj) (by rw[FZ];lia)
  have z3:((less (less st.AE i (AW st.AE i).n) j (AW st.AE j).n).map hD).length+1<=sizeLine:=uz (show _<=100 by simp[FZ];lia) (AS (by decide))
  have e:=O3 (ls:=less (less st.AE i (AW st.AE i).n) j (AW st.AE j).n) (y:=⟨(AW st.AE i).k,(AW st.AE i).n+(AW st.AE j).n,Dy (AW st.AE i).n (AW st.AE j).n (AW st.AE i).ow (AW st.AE j).ow⟩)
  show _=Fk (CB (less (less st.AE i (AW st.AE i).n) j (AW st.AE j).n++[_]),S)
  rw[<-e]
  have a1:=Hl hi
  have a2:=Hl hj
  have wA:=HX (ls:=less (less st.AE i (AW st.AE i).n) j (AW st.AE j).n) (r:=[.tup [.int (AW st.AE i).k,.int ((AW st.AE i).n+(AW st.AE j).n)]])
  rw[va (by simpa using z3)]at wA
  generalize (less (less st.AE i (AW st.AE i).n) j (AW st.AE j).n).map hD=A at*
  simp[Ay,CO,Ai.d,a1,a2,w1,w2,-HX,wA]
 |swap i g kd n=>
  obtain⟨hi,h1,h2,h3,h4,h5,h6⟩:=hc
  have w1:=IB (S:=S) (n:=g) hi (by lia)
  have e:=O3 (ls:=less st.AE i g) (y:=⟨kd,n,(AW st.AE i).ow⟩)
  show _=Fk (CB (less st.AE i g++[⟨kd,n,(AW st.AE i).ow⟩]),S)
  rw[<-e]
  have wA:=HX (ls:=less st.AE i g) (r:=[.tup [.int kd,.int n]])
  rw[va (by simpa using hz2)]at wA
  simp[Ay,CO,Ai.d,w1,-HX,wA]
 |IG u i g kd n=>
  obtain⟨hi,h1,h2,h3,h4,h5,h6,h7⟩:=hc
  have w1:=IB (S:=S) (n:=g) hi (by lia)
  have e:=O3 (ls:=less st.AE i g) (y:=⟨kd,n,(AW st.AE i).ow⟩)
  show _=Fk (CB (less st.AE i g++[⟨kd,n,(AW st.AE i).ow⟩]),S)
  rw[<-e]
  have wA:=HX (ls:=less st.AE i g) (r:=[.tup [.int kd,.int n]])
  rw[va (by simpa using hz2)]at wA
  simp[Ay,CO,Ai.d,w1,-HX,wA]
 |Ku i n=>
  obtain⟨hi,h1,h2⟩:=hc
  have w1:=IB (S:=S) (n:=n) hi (by lia)
  show _=Fk (CB (less st.AE i n),S)
  simp[Ay,CO,Ai.d,w1]
 |thr i n ws=>
  obtain⟨hi,h1,h2,h3,h4⟩:=hc
  have w1:=IB (S:=S) (n:=n) hi (by lia)
  have e:CB (step t st (.thr i n ws)).AE=CB (less st.AE i n):=by
   show D.lst (((less st.AE i n).map _).map hD)=_
   rw[v5];rfl
  rw[e]
  simp[Ay,CO,Ai.d,w1]
 |Nt p q x=>
  have e:CB (step t st (.Nt p q x)).AE=CB st.AE:=by
   show D.lst ((st.AE.map _).map hD)=_
   rw[v5];rfl
  rw[e]
  simp[Ay,CO,Ai.d]
noncomputable def Ko:Ai->uo Int
 | .IG u .. =>Fk u
 |_=>uk
theorem ZM{ls:Gc Ld}:∀{ds:Gc Ai},(runs t (st0 t ls) ds).nums=ds.filterMap Ko:=by
 intro ds
 have:∀(ds:Gc Ai) (st:Stt),(runs t st ds).nums=st.nums++ds.filterMap Ko:=by
  intro ds
  induction ds with
  |nil=>intro st;simp[runs]
  |cons d ds ih=>
   intro st
   show(runs t (step t st d) ds).nums=_
   rw[ih]
   cases d<;>simp[step,Ko,vc]
 rw[this];rfl
theorem OM:∀{ds:Gc Ai} {acc:Gc D} {o:uo D},acc.length+ds.length<=100->C8 [] (tNm 0) (eOp (o2 wEq) [eOp (o2 wIx) [eV 0,eC (.int 0)],eC (.str "trade")]) (eOp (o2 wIx) [eV 0,eC (.int 1)]) (ds.map Ai.d) acc [o] S=Fk (acc++(ds.filterMap Ko).map D.int,S)
 | [],acc,o,h=>by rw[wc,GH Af];simp
 |d::ds,acc,o,h=>by
  have hz:acc.length<sizeLine:=uy (show acc.length<101 by simp at h;lia) (AS (by decide))
  have ht:tNm 0 d.d [o] S=Fk [Fk d.d]:=by simp
  rw[vT]
  cases d with
  |IG u i g kd n=>
   rw[Kb Af hz ht (S1:=S) (by simp[Ai.d])]
   have:eOp (o2 wIx) [eV 0,eC (.int 1)] [Fk (Ai.IG u i g kd n).d] S=Fk (.int u,S):=by simp[Ai.d]
   rw[this,Bt,OM (by simp at h ⊢; lia)]
   simp[Ko,vc]
  |HV=>rw[GF Af hz ht (S1:=S) (by simp[Ai.d]),OM (by simp at h ⊢; lia)];simp[Ko,vc]
  |Ox=>rw[GF Af hz ht (S1:=S) (by simp[Ai.d]),OM (by simp at h ⊢; lia)];simp[Ko,vc]
  |swap=>rw[GF Af hz ht (S1:=S) (by simp[Ai.d]),OM (by simp at h ⊢; lia)];simp[Ko,vc]
  |Ku=>rw[GF Af hz ht (S1:=S) (by simp[Ai.d]),OM (by simp at h ⊢; lia)];simp[Ko,vc]
  |thr=>rw[GF Af hz ht (S1:=S) (by simp[Ai.d]),OM (by simp at h ⊢; lia)];simp[Ko,vc]
  |Nt=>rw[GF Af hz ht (S1:=S) (by simp[Ai.d]),OM (by simp at h ⊢; lia)];simp[Ko,vc]
theorem YA{ds:Gc Ai}{d:Ai}(hd:ds.length<=50)(hn:st.nums=ds.filterMap Ko)(hc:Can t st d):Dk [CB st.AE,.tup (ds.map Ai.d),d.d] S=Fk (.bl true,S):=by
 cases d with
 |HV p kd n=>simp[Dk,Ft,Ai.d]
 |Ox i j=>
  obtain⟨hij,hi,hj,h1,h2,h3⟩:=hc
  have e:=Vp (S:=S) hi hj h1 h2 h3
  simp[Dk,Ft,Ai.d,e]
 |swap i g kd n=>
  obtain⟨hi,h1,h2,h3,h4,h5,h6⟩:=hc
  have e:=PB (S:=S) (k:=kd) hi h2 h4
  simp[Dk,Ft,Ai.d,e]
 |IG u i g kd n=>
  obtain⟨hi,h1,h2,h3,h4,h5,h6,h7,h8⟩:=hc
  have e:=PB (S:=S) (k:=kd) hi h2 h4
  have tc:=OM (S:=S) (ds:=ds) (acc:=[]) (o:=uk) (by simp;lia)
  rw[<-hn]at tc
  have fi:=UB (us:=st.nums)
  have ii:=Wf (us:=st.nums) (i:=u)
  have iu:(st.nums.any λx=>x==u)=false:=by
   rw[List.any_eq_false]
   intro x hx z
   have:x=u:=by simpa using z
   exact h7 (this▸hx)
  rw[iu]at ii
  generalize st.nums.map D.int=ud at*
  simp[Dk,Ft,Ai.d,tc,fi,ii,e]
 |Ku i n=>
  obtain⟨hi,h1,h2⟩:=hc
  have e:=Uu (S:=S) hi h2
  simp[Dk,Ft,Ai.d,e]
 |thr i n ws=>
  obtain⟨hi,h1,h2,h3,h4⟩:=hc
  have e:=Uu (S:=S) hi h2
  simp[Dk,Ft,Ai.d,e]
 |Nt p q x=>simp[Dk,Ft,Ai.d]
end
section
variable{S:Sto}{st:Stt}{t:Tr}{k:Nat}
theorem ay{ss os:Gc Rat}:Qk (ss.map aD) (os.map aD)=(ss.zip os).map λz=>D.tup [aD z.1,aD z.2]:=by
 unfold Qk
 rw[List.zip_map,v5]
 rfl
noncomputable def UZ(w m:Int)(ss os:Gc Rat):Gc Rat:=AAK (λs o=>(s*w+o*m) / (w+m)) ss os
theorem GC{w m:Int}{ss os:Gc Rat}{j n:Nat}(hs:∀r∈ss,Sz j r)(ho:∀r∈os,Sz j r)(hw:w.natAbs<2^n)(hm:m.natAbs<2^n)(h:0<w+m)(hj:2*j+n+1<=7990)(hl:ss.length<=50):Cc [shD ss,.int w,shD os,.int m] S=Fk (shD (UZ w m ss os),S):=by
 have e:=Cf (gs:=[]) (t:=tTp [tNm 2,tNm 3]) (f:=AJ LA [eV 2,eV 0,eV 3,eV 1]) (C:=[Fk (.int w),Fk (.int m)]) (m:=2) (e:=λz:Rat×Rat=>D.tup [aD z.1,aD z.2]) (g:=λz=>aD ((z.1*w+z.2*m) / (w+m))) (S:=S) Af (xs:=ss.zip os) (acc:=[]) (os:=[uk,uk]) rfl (uz (show _<=50 by simp;lia) (AS (by decide))) (by
  intro z hz os' ho'
  obtain⟨q1,q2,rfl⟩:=ml ho'
  have hm2:=xQ (a:=z.1) (b:=z.2) hz
  have l:=jb (S:=S) (hs _ hm2.1) (ho _ hm2.2) hw hm h (by lia)
  refine⟨[Fk (aD z.1),Fk (aD z.2)],rfl,by simp,?_⟩
  simp[l])
 rw[<-ay]at e
 have em:(ss.zip os).map (λz=>aD ((z.1*w+z.2*m) / (w+m)))=(UZ w m ss os).map aD:=by
  unfold UZ
  rw[<-List.map_uncurry_zip_eq_zipWith,v5]
  rfl
 rw[em]at e
 simp only[vb,vX]at e
 simp[Cc,Km,e,QP]
theorem TQ{P p:Nat}(hP:P<=50):HB [.int P,.int p] S=Fk (shD (ZH P p),S):=by
 have e:=Wk (S:=S) (P:=P) (p:=p) (cond:=0) (C:=[]) (dd:=.int p) (f:=eIf (eOp (o2 wEq) [eV 1,eV 0]) (eC ZY) (eC ET)) hP (by
  intro i
  by_cases hi:i=p
  .subst hi;simp;rfl
  .have:((i:Int)==(p:Int))=false:=by simp;lia
   simp[this,hi];rfl)
 have rn:Ma (P:Int)=true:=GB (by lia) (by lia)
 simp[HB,MI,rn,e,QP]
theorem QV{n m:Int}{ss os:Gc Rat}:UZ n m ss os=Dy n m ss os:=by
 unfold UZ Dy
 congr 1
 funext s o
 push_cast
 rfl
theorem Vb{n m:Int}{ss os:Gc Rat}:Dy n m ss os=Dy m n os ss:=by
 unfold Dy
 rw[List.zipWith_comm]
 congr 1
 funext o s
 push_cast
 grind
@[simp] theorem Zf{a b:Int}:RA [a,b]=if a<=b then [a,b]else [b,a]:=by
  unfold RA
  simp[List.mergeSort,ACF,List.merge]
@[simp] theorem eM{a b:Int}:So (.val (.lst [.int a,.int b]))=some (.own ((if a<=b then [a,b]else [b,a]).map D.int)):=by
  have:So (.val (.lst [.int a,.int b]))=Fk (.own ((RA [a,b]).map D.int)):=rfl
  rw[this,Zf]
@[simp] theorem nN{a b c d e:D}:atI [a,b,c,d,e] (-4)=some b:=nr rfl
@[simp] theorem lM{a b c d e f:D}:atI [a,b,c,d,e,f] (-4)=some c:=nr rfl
theorem ZU{i j:Nat}(ht:Oe t)(h:JV t k st)(hk:k<=17)(hc:Can t st (.Ox i j)):Bv [CB st.AE,OU st.AE,(Ai.Ox i j).d] S=Fk (shD (Dy (AW st.AE i).n (AW st.AE j).n (AW st.AE i).ow (AW st.AE j).ow),S):=by
 obtain⟨hij,hi,hj,h1,h2,h3⟩:=hc
 have sz:=h.sz
 have pi:=h.pcs _ (BD hi)
 have pj:=h.pcs _ (BD hj)
 have ti:=h.own _ (BD hi)
 have tj:=h.own _ (BD hj)
 have zi:=sz.1 _ (BD hi)
 have zj:=sz.1 _ (BD hj)
 have hp:t.p<=10:=by have:=ht.2.1;lia
 .by_cases hle:i<=j
  .have hle':(i:Int)<=j:=by lia
   have e:=GC (S:=S) (j:=30+170*k) (n:=131+k) zi zj (GQ pi.1 pi.2) (GQ pj.1 pj.2) (by lia) (by lia) (by lia)
   rw[QV]at e
   have a1:=Hl hi
   have a2:=Hl hj
   have b1:=P7 hi
   have b2:=P7 hj
   have mf:C3 [(Ai.Ox i j).d] S=Fk (.lst [.int i,.int j],S):=by
    simp[C3,GI,Ai.d,hle,hle']
   simp only[Ai.d]at mf⊢
   simp[Bv,ES,mf,a1,a2,b1,b2,e]
  .have hle':¬(i:Int)<=j:=by lia
   have e:=GC (S:=S) (j:=30+170*k) (n:=131+k) zj zi (GQ pj.1 pj.2) (GQ pi.1 pi.2) (by lia) (by lia) (by lia)
   rw[QV,Vb]at e
   have a1:=Hl hi
   have a2:=Hl hj
   have b1:=P7 hi
   have b2:=P7 hj
   have mf:C3 [(Ai.Ox i j).d] S=Fk (.lst [.int j,.int i],S):=by
    simp[C3,GI,Ai.d,hle,hle']
   simp only[Ai.d]at mf⊢
   simp[Bv,ES,mf,a1,a2,b1,b2,e]
theorem Xu{i kd:Nat}{g n:Int}(hi:i<st.AE.length):Bv [CB st.AE,OU st.AE,(Ai.swap i g kd n).d] S=Fk (shD (AW st.AE i).ow,S):=by
 have b1:=P7 hi
 simp[Bv,ES,C3,GI,Ai.d,b1]
theorem Wy{i kd:Nat}{u g n:Int}(hi:i<st.AE.length):Bv [CB st.AE,OU st.AE,(Ai.IG u i g kd n).d] S=Fk (shD (AW st.AE i).ow,S):=by
 have b1:=P7 hi
 simp[Bv,ES,C3,GI,Ai.d,b1]
theorem Zx{ws:Gc Int}(h:JV t k st)(hk:k<=17)(hl:ws.length=t.k+1)(hw:∀w∈ws,1<=w/\w<=99):FW [t.d,CB st.AE,.tup (ws.map D.int)] S=Fk (.int (Gb t st.AE ws),S):=by
 have hlen:=h.len
 have e:=Cf (gs:=[]) (t:=tTp [tNm 1,tNm 2]) (f:=eOp (o2 B7) [eV 2,eOp (o2 wIx) [eV 0,eV 1]]) (C:=[Fk (.tup (ws.map D.int))]) (m:=2) (e:=hD) (g:=λx=>D.int (x.n*ws.getD x.k 0)) (S:=S) Af (xs:=st.AE) (acc:=[]) (os:=[uk,uk]) rfl (uz (show _<=50 by simp;lia) (AS (by decide))) (by
  intro x hx os ho
  obtain⟨q1,q2,rfl⟩:=ml ho
  have hkk:=h.kind _ hx
  have w1:=Pb (ws:=ws) (i:=x.k) (by lia)
  have w2:=LV hw (i:=x.k) (by lia)
  have m1:FF x.n (ws.getD x.k 0)=true:=mulR (by lia) (by lia)
  generalize ws.getD x.k 0=wz at*
  refine⟨[Fk (.int x.k),Fk (.int x.n)],rfl,by simp,?_⟩
  simp[w1,m1])
 simp only[vb,vX]at e
 have es:Mg (st.AE.map λx=>D.int (x.n*ws.getD x.k 0))=Fk (st.AE.map λx=>x.n*ws.getD x.k 0):=by
  have:=HY (st.AE.map λx=>x.n*ws.getD x.k 0)
  rwa [v5]at this
 have w2:=SW hl
 have w4:=LV hw (i:=t.k) (by lia)
 have m2:FF (t.b:Int) (ws.getD t.k 0)=true:=mulR (by lia) (by lia)
 have e2:Gb t st.AE ws=(st.AE.map λx=>x.n*ws.getD x.k 0).sum+t.b*ws.getD t.k 0:=rfl
 rw[e2]
 have sq:sqD S (CB st.AE)=Fk (st.AE.map hD,[]):=rfl
 generalize (st.AE.map λx=>x.n*ws.getD x.k 0)=es' at*
 generalize (st.AE.map λx=>D.int (x.n*ws.getD x.k 0))=es2 at*
 generalize ws.getD t.k 0=wb at*
 simp[FW,Kj,Tr.d,sq,e,es,w2,m2]
theorem dW{i:Nat}{n:Int}{ws:Gc Int}(ht:Oe t)(h:JV t k st)(hk:k<=17)(hc:Can t st (.thr i n ws)):GW [t.d,CB st.AE,(Ai.thr i n ws).d] S=Fk (aD (ML t st.AE i n ws),S):=by
 obtain⟨hi,h1,h2,hl,hw⟩:=hc
 have a:=ND ht h (by lia) hl hw
 have w1:=Pb (ws:=ws) (i:=(AW st.AE i).k) (by have:=h.kind _ (BD hi);lia)
 have w3:=LV hw (i:=(AW st.AE i).k) (by have:=h.kind _ (BD hi);lia)
 have m1:FF n (ws.getD (AW st.AE i).k 0)=true:=mulR (by lia) (by lia)
 have l1:=VG (S:=S) (t:=n*ws.getD (AW st.AE i).k 0) a.1 (Eh (GQ (by lia) a.2) (by lia))
 have wo:=Zx (S:=S) h hk hl hw
 have ah:=Hl hi
 rw[Om hi]
 generalize aD (((n*ws.getD (AW st.AE i).k 0:Int):Rat) / (Gb t st.AE ws:Rat))=R at*
 generalize ws.getD (AW st.AE i).k 0=wa at*
 simp[GW,LR,Ai.d,ah,w1,m1,wo,l1]
theorem ZD{X:Rat}{ss os:Gc Rat}:UZ ((X.den:Int)-X.num) X.num ss os=Kv X os ss:=by
 unfold UZ Kv
 congr 1
 funext s o
 have h1:=GN X
 have h2:=MJ X
 push_cast
 have e:((X.den:Rat)-(X.num:Rat)+(X.num:Rat))=(X.den:Rat):=by grind
 rw[e]
 grind
theorem ZK{i:Nat}{n:Int}{ws:Gc Int}{ss:Gc Rat}(ht:Oe t)(h:JV t k st)(hk:k<=17)(hc:Can t st (.thr i n ws))(hs:∀r∈ss,Sz (30+170*k) r)(hl:ss.length<=50):Eu [t.d,CB st.AE,OU st.AE,(Ai.thr i n ws).d,shD ss] S=Fk (shD (Kv (ML t st.AE i n ws) (AW st.AE i).ow ss),S):=by
 have pt:=dW (S:=S) ht h hk hc
 obtain⟨hi,h1,h2,hl',hw⟩:=hc
 have cz:=Yx ht h (by lia) hl' hw hi h1 h2
 have b1:=P7 hi
 generalize ML t st.AE i n ws=X at*
 have d0:=den_pos X
 have c2:=cz.2
 have e:=GC (S:=S) (w:=(X.den:Int)-X.num) (m:=X.num) (j:=30+170*k) (n:=146+k) hs (h.sz.1 _ (BD hi)) (by
  have c1:=cz.1
  have:2^(146+k)=2^(145+k)*2:=by rw[show 146+k=(145+k)+1 by lia,ABF]
  generalize 2^(145+k)=P at*
  lia) (gW cz.1 (by lia)) (by lia) (by lia) hl
 rw[ZD]at e
 generalize Kv X (AW st.AE i).ow ss=rs at*
 simp only[aD,Ai.d]at pt⊢
 simp[Eu,Jx,pt,b1,e]
theorem Y0{p q:Nat}{x:Rat}{ss:Gc Rat}{j i:Nat}(hs:∀r∈ss,Sz j r)(hx:Sz i x)(hj:2*j+i<=7900)(hp:p<ss.length)(hq:q<ss.length)(hpq:p≠q):∃S',F9 [(Ai.Nt p q x).d,shD ss] S=Fk (shD (KD p q x ss),S')/\DQ [] S S':=by
 have sp:=hs _ (getD_mem (d:=0) hp)
 have sq:=hs _ (getD_mem (d:=0) hq)
 have l1:∀S,Dc [aD (ss.getD p 0),aD x] S=Fk (aD (ss.getD p 0*x),S):=λS=>Uq sp hx (by lia)
 have s1:=Rj sp hx
 have l2:∀S,Ll [aD (ss.getD p 0),aD (ss.getD p 0*x)] S=Fk (aD (ss.getD p 0-ss.getD p 0*x),S):=λS=>jw sp s1 (by lia)
 have l3:∀S,JQ [aD (ss.getD q 0),aD (ss.getD p 0*x)] S=Fk (aD (ss.getD q 0+ss.getD p 0*x),S):=λS=>gF sq s1 (by lia)
 have a1:=Pr hp
 have a2:=Pr hq
 have i1:=c9 hp
 have i2:ixN (((ss.map aD).set p (aD (ss.getD p 0-ss.getD p 0*x))).length) (q:Int)=Fk q:=QA (by simpa using hq)
 refine⟨S++[.lst ((KD p q x ss).map aD)],?_,.app⟩
 simp only[xi,vW]at i1 i2
 have em:(KD p q x ss).map aD=((ss.map aD).set p (aD (ss.getD p 0-ss.getD p 0*x))).set q (aD (ss.getD q 0+ss.getD p 0*x)):=by rw[KD,yy,yy]
 unfold shD
 rw[em]
 generalize aD (ss.getD p 0-ss.getD p 0*x)=d1 at*
 generalize aD (ss.getD q 0+ss.getD p 0*x)=d2 at*
 generalize aD (ss.getD p 0*x)=d3 at*
 generalize aD (ss.getD p 0)=d4 at*
 generalize aD (ss.getD q 0)=d5 at*
 simp[F9,LC,Ai.d,a1,a2,l1,l2,l3,i1,i2]
end
theorem Uh{α:Type}{gs:Gd}{t:Tf}{f:Ev}{C:En}{m:Nat}{e g:α->D}(hg:∀S,gOk gs S):∀{xs:Gc α} {acc:Gc D} {os:En} {S:Sto},os.length=m->acc.length+xs.length<=sizeLine->(∀x∈xs,∀os S,os.length=m->∃us S',us.length=m/\t (e x) (C++os) S=Fk (C++us)/\f (C++us) S=Fk (g x,S')/\DQ [] S S')->∃S',C8 gs t Ca f (xs.map e) acc (C++os) S=Fk (acc++xs.map g,S')/\DQ [] S S'
 | [],acc,os,S,ho,hz,h=>⟨S,by rw[wc,GH (hg S)];simp,.refl⟩
 |x::xs,acc,os,S,ho,hz,h=>by
  obtain⟨us,S1,hu,e1,e2,s1⟩:=h x vA os S ho
  obtain⟨S2,e3,s2⟩:=Uh hg (xs:=xs) (acc:=acc++[g x]) (os:=us) (S:=S1) hu (by simp at hz ⊢; lia) λx' hx=>h x' (uv _ hx)
  refine⟨S2,?_,s1.trans s2⟩
  rw[vT,Kb (hg S) (by simp at hz;lia) e1 LJ,e2,Bt,e3]
  simp
section
variable{S:Sto}{st:Stt}{t:Tr}{k:Nat}
noncomputable def shB(t:Tr)(st:Stt):Ai->Gc Rat->Gc Rat
 | .thr i n ws,ss=>Kv (ML t st.AE i n ws) (AW st.AE i).ow ss
 | .Nt p q x,ss=>KD p q x ss
 |_,ss=>ss
theorem Uw{d:Ai}{ss:Gc Rat}(ht:Oe t)(h:JV t k st)(hk:k<=17)(hc:Can t st d)(hs:∀r∈ss,Sz (30+170*k) r)(hl:ss.length=t.p):∃S',Aw [t.d,CB st.AE,OU st.AE,d.d,shD ss] S=Fk (shD (shB t st d ss),S')/\DQ [] S S':=by
 have tp:=ht.2.1
 cases d with
 |thr i n ws=>
  have e:=ZK (S:=S) ht h hk hc hs (by lia)
  refine⟨S,?_,.refl⟩
  simp only[Ai.d]at e⊢
  simp[Aw,Bo,e,shB]
 |Nt p q x=>
  obtain⟨hpq,hp,hq,x1,x2,x3⟩:=hc
  have hx:Sz 4 x:=by
   refine⟨?_,by lia⟩
   show x.num.natAbs<16
   lia
  obtain⟨S',e,sm⟩:=Y0 (S:=S) (p:=p) (q:=q) hs hx (by lia) (by lia) (by lia) hpq
  refine⟨S',?_,sm⟩
  simp only[Ai.d]at e⊢
  simp[Aw,Bo,e,shB]
 |HV p kd n=>exact⟨S,by simp[Aw,Bo,Ai.d,shB],.refl⟩
 |Ox i j=>exact⟨S,by simp[Aw,Bo,Ai.d,shB],.refl⟩
 |swap i g kd n=>exact⟨S,by simp[Aw,Bo,Ai.d,shB],.refl⟩
 |IG u i g kd n=>exact⟨S,by simp[Aw,Bo,Ai.d,shB],.refl⟩
 |Ku i n=>exact⟨S,by simp[Aw,Bo,Ai.d,shB],.refl⟩
theorem Y5{d:Ai}:(step t st d).hold=shB t st d st.hold:=by cases d<;>rfl
theorem Nc{i:Nat}{n:Int}{ls:Gc Ld}(hi:i<ls.length){β:Type}(f:Gc Rat->β):(less ls i n).map (λx=>f x.ow)=ls.map λx=>f x.ow:=by
 rw[VQ,yy]
 have:(ls.map λx=>f x.ow)[i]?=Fk (f (AW ls i).ow):=by rw[vG,GJ hi];rfl
 apply yj
 intro j
 by_cases e:i=j
 .subst e;rw[vJ (by simpa using hi),this]
 .rw[u3 e]
@[simp] theorem qZ{ls:List Ld}:sqD S (OU ls)=some (ls.map λx=>shD x.ow,[]):=nr rfl
theorem ZN{d:Ai}(ht:Oe t)(h:JV t k st)(hk:k<=17)(hc:Can t st d):∃S',BB [t.d,CB st.AE,OU st.AE,d.d] S=Fk (OU (step t st d).AE,S')/\DQ [] S S':=by
 have hlen:=h.len
 have sz:=h.sz
 have tp:=ht.2.1
 obtain⟨S',e,sm⟩:=Uh (gs:=[]) (t:=tNm 4) (f:=AJ Aw [eV 0,eV 1,eV 2,eV 3,eV 4]) (C:=[Fk t.d,Fk (CB st.AE),Fk (OU st.AE),Fk d.d]) (m:=1) (e:=λx:Ld=>shD x.ow) (g:=λx=>shD (shB t st d x.ow)) (λ_=>Af) (xs:=st.AE) (acc:=[]) (os:=[uk]) (S:=S) rfl (uz (show _<=50 by simp;lia) (AS (by decide))) (by
  intro x hx os S0 ho
  obtain⟨q1,rfl⟩:=U7 ho
  obtain⟨S1,e1,s1⟩:=Uw (S:=S0) (d:=d) (ss:=x.ow) ht h hk hc (sz.1 x hx) (h.own x hx)
  refine⟨[Fk (shD x.ow)],S1,rfl,by simp,?_,s1⟩
  simp[e1])
 simp only[vb,vX]at e
 refine⟨S',?_,sm⟩
 have hz:(st.AE.map λx=>shD (shB t st d x.ow)).length+1<=sizeLine:=uz (show _<=100 by simp;lia) (AS (by decide))
 cases d with
 |HV p kd n=>
  have a1:=TQ (S:=S') (P:=t.p) (p:=p) (by lia)
  have ef:OU (step t st (.HV p kd n)).AE=.lst ((st.AE.map λx=>shD (shB t st (.HV p kd n) x.ow))++[shD (ZH t.p p)]):=by simp[OU,step,shB]
  rw[ef]
  generalize (st.AE.map λx=>shD (shB t st (.HV p kd n) x.ow))=A at*
  simp only[Ai.d,Tr.d]at e⊢
  simp[BB,Bq,e,a1,hz]
 |Ox i j=>
  have a1:=ZU (S:=S') ht h hk hc
  obtain⟨hij,hi,hj,h1,h2,h3⟩:=hc
  have e0:AW (less st.AE i (AW st.AE i).n) j=AW st.AE j:=by
   unfold AW less
   rw[vO,u3 hij,<-vO]
  have ef:OU (step t st (.Ox i j)).AE=.lst ((st.AE.map λx=>shD (shB t st (.Ox i j) x.ow))++[shD (Dy (AW st.AE i).n (AW st.AE j).n (AW st.AE i).ow (AW st.AE j).ow)]):=by
   show D.lst ((less (less st.AE i (AW st.AE i).n) j (AW st.AE j).n++[_]).map λx:Ld=>shD x.ow)=_
   rw[yc,Nc (by rw[FZ];exact hj),Nc hi]
   rfl
  rw[ef]
  generalize (st.AE.map λx=>shD (shB t st (.Ox i j) x.ow))=A at*
  simp only[Ai.d]at e a1⊢
  simp[BB,Bq,e,a1,hz]
 |swap i g kd n=>
  have hi:=hc.1
  have a1:=Xu (S:=S') (st:=st) (i:=i) (kd:=kd) (g:=g) (n:=n) hi
  have ef:OU (step t st (.swap i g kd n)).AE=.lst ((st.AE.map λx=>shD (shB t st (.swap i g kd n) x.ow))++[shD (AW st.AE i).ow]):=by
   show D.lst ((less st.AE i g++[_]).map λx:Ld=>shD x.ow)=_
   rw[yc,Nc hi]
   rfl
  rw[ef]
  generalize (st.AE.map λx=>shD (shB t st (.swap i g kd n) x.ow))=A at*
  simp only[Ai.d]at e a1⊢
  simp[BB,Bq,e,a1,hz]
 |IG u i g kd n=>
  have hi:=hc.1
  have a1:=Wy (S:=S') (st:=st) (i:=i) (kd:=kd) (u:=u) (g:=g) (n:=n) hi
  have ef:OU (step t st (.IG u i g kd n)).AE=.lst ((st.AE.map λx=>shD (shB t st (.IG u i g kd n) x.ow))++[shD (AW st.AE i).ow]):=by
   show D.lst ((less st.AE i g++[_]).map λx:Ld=>shD x.ow)=_
   rw[yc,Nc hi]
   rfl
  rw[ef]
  generalize (st.AE.map λx=>shD (shB t st (.IG u i g kd n) x.ow))=A at*
  simp only[Ai.d]at e a1⊢
  simp[BB,Bq,e,a1,hz]
 |Ku i n=>
  have ef:OU (step t st (.Ku i n)).AE=.lst (st.AE.map λx=>shD (shB t st (.Ku i n) x.ow)):=by
   show D.lst ((less st.AE i n).map λx:Ld=>shD x.ow)=_
   rw[Nc hc.1]
   rfl
  rw[ef]
  generalize (st.AE.map λx=>shD (shB t st (.Ku i n) x.ow))=A at*
  simp only[Ai.d]at e⊢
  simp[BB,Bq,e]
 |thr i n ws=>
  have ef:OU (step t st (.thr i n ws)).AE=.lst (st.AE.map λx=>shD (shB t st (.thr i n ws) x.ow)):=by
   show D.lst (((less st.AE i n).map _).map λx:Ld=>shD x.ow)=_
   rw[v5]
   exact congrArg D.lst (Nc hc.1 (λo=>shD (Kv (ML t st.AE i n ws) (AW st.AE i).ow o)))
  rw[ef]
  generalize (st.AE.map λx=>shD (shB t st (.thr i n ws) x.ow))=A at*
  simp only[Ai.d]at e⊢
  simp[BB,Bq,e]
 |Nt p q x=>
  have ef:OU (step t st (.Nt p q x)).AE=.lst (st.AE.map λy=>shD (shB t st (.Nt p q x) y.ow)):=by
   show D.lst ((st.AE.map _).map λy:Ld=>shD y.ow)=_
   rw[v5]
   rfl
  rw[ef]
  generalize (st.AE.map λy=>shD (shB t st (.Nt p q x) y.ow))=A at*
  simp only[Ai.d]at e⊢
  simp[BB,Bq,e]
@[simp] theorem pT{ls:List Ld}:sqD S (CB ls)=some (ls.map hD,[]):=nr rfl
theorem NY{ls:Gc Ld}{x y:D}(hl:ls.length<=50):Cq [.tup [x,.tup (ls.map Ld.d),y]] S=Fk (CB ls,S):=by
 have e:=Cf (gs:=[]) (t:=tNm 0) (f:=Cw [eOp (o2 wIx) [eV 0,eC (.int 0)],eOp (o2 wIx) [eV 0,eC (.int 1)]]) (C:=[]) (m:=1) (e:=Ld.d) (g:=hD) (S:=S) Af (xs:=ls) (acc:=[]) (os:=[uk]) rfl (uz (show _<=50 by simp;lia) (AS (by decide))) (by
  intro x hx os ho
  obtain⟨q1,rfl⟩:=U7 ho
  refine⟨[Fk x.d],rfl,by simp,?_⟩
  simp[Ld.d,hD])
 simp only[vX]at e
 simp[Cq,Jw,e,CB]
theorem Xm{ls:Gc Ld}(hl:ls.length<=50):C8 [] (tNm 0) Ca (eOp (o2 wIx) [eV 0,eC (.int 2)]) (ls.map Ld.d) [] [uk] S=Fk (ls.map λx=>shD x.ow,S):=
 Cf (gs:=[]) (t:=tNm 0) (f:=eOp (o2 wIx) [eV 0,eC (.int 2)]) (C:=[]) (m:=1) (e:=Ld.d) (g:=λx=>shD x.ow) (S:=S) Af (xs:=ls) (acc:=[]) (os:=[uk]) rfl (uz (show _<=50 by simp;lia) (AS (by decide))) (by
  intro x hx os ho
  obtain⟨q1,rfl⟩:=U7 ho
  refine⟨[Fk x.d],rfl,by simp,?_⟩
  simp[Ld.d])
theorem bZ{ls:Gc Ld}{ds:Gc Ai}{n:Nat}(h:Bu t ls ds)(hn:n<=ds.length):∃S',JC [Ae t ls ds,.int n] S=Fk (.tup [CB (runs t (st0 t ls) (ds.take n)).AE,OU (runs t (st0 t ls) (ds.take n)).AE,shD (runs t (st0 t ls) (ds.take n)).hold],S')/\DQ [] S S':=by
 have hl0:ls.length<=4:=h.inv.len
 have ct:Le (ds.map Ai.d) uk (Fk (n:Int))=(ds.take n).map Ai.d:=by rw[Mn (by simpa using hn),zo]
 obtain⟨E',S',ef,i,o,f1,f2,rfl,f3⟩:=IY (gs:=[]) (t:=tNm 8) (b:=Ad (Bs 7 (AJ Aw [eV 2,eV 5,eV 6,eV 8,eV 7]))
  (Ad (Bs 6 (AJ BB [eV 2,eV 5,eV 6,eV 8]))
  (Bs 5 (AJ Ay [eV 5,eV 8]))))
  (I:=λrs E S'=>∃(i:Nat) (o:uo D),rs=((ds.take n).drop i).map Ai.d/\i<=n/\E=[Fk (Ae t ls ds),Fk (.int n),Fk t.d,Fk (.tup (ls.map Ld.d)),Fk (.tup (ds.map Ai.d)),Fk (CB (runs t (st0 t ls) (ds.take i)).AE),Fk (OU (runs t (st0 t ls) (ds.take i)).AE),Fk (shD (runs t (st0 t ls) (ds.take i)).hold),o]/\DQ [] S S')
  (λ_ _ _ _=>Af) (ds:=(ds.take n).map Ai.d) (E:=[Fk (Ae t ls ds),Fk (.int n),Fk t.d,Fk (.tup (ls.map Ld.d)),Fk (.tup (ds.map Ai.d)),Fk (CB ls),Fk (OU ls),Fk (shD t.ho),uk]) (S:=S)
  ⟨0,uk,by simp,xf _,by simp[runs,st0],.refl⟩ (by
    rintro dd rs E T ⟨i,o,i1,i2,rfl,i3⟩
    have hlt:i<(ds.take n).length:=by
     rcases AAL i (ds.take n).length with w|w
     .exact w
     .rw[xM w]at i1;cases i1
    rw[wH hlt,vT]at i1
    injection i1 with z1 z2
    subst z1 z2
    have hlt':i<ds.length:=by simp at hlt;lia
    have hin:i<n:=by simp at hlt;lia
    have hg:(ds.take n)[i]=ds[i]:=AAm
    rw[hg]
    have inv:=h.at i
    have il:(ds.take i).length<=16:=by have:=h.len;simp;lia
    have can:=Mm h.good (ux hlt')
    obtain⟨T1,e1,s1⟩:=Uw (S:=T) h.tr inv (by lia) can inv.sz.2 inv.hold
    obtain⟨T2,e2,s2⟩:=ZN (S:=T1) h.tr inv (by lia) can
    have e3:=QN (S:=T2) inv (by lia) can
    have rt:=My (t:=t) (st:=st0 t ls) (ux hlt')
    refine⟨_,[Fk (Ae t ls ds),Fk (.int n),Fk t.d,Fk (.tup (ls.map Ld.d)),Fk (.tup (ds.map Ai.d)),Fk (CB (runs t (st0 t ls) (ds.take (i+1))).AE),Fk (OU (runs t (st0 t ls) (ds.take (i+1))).AE),Fk (shD (runs t (st0 t ls) (ds.take (i+1))).hold),Fk ds[i].d],T2,by simp;rfl,?_,i+1,Fk ds[i].d,rfl,hin,rfl,(i3.trans s1).trans s2⟩
    rw[rt]
    rw[<-Y5]at e1
    simp[e1,e2,e3])
 have hz:i=n:=by
  have:=congrArg AAh f1
  simp at this
  lia
 subst hz
 refine⟨S',?_,f3⟩
 have fh:=NY (S:=S) (ls:=ls) (x:=t.d) (y:=.tup (ds.map Ai.d)) (by lia)
 have fo:=Xm (S:=S) (ls:=ls) (by lia)
 have fo':D.lst (ls.map λx=>shD x.ow)=OU ls:=rfl
 have th:atI [D.int t.p,D.int t.k,D.int t.b,shD t.ho,D.int t.h,D.int t.l] 3=Fk (shD t.ho):=by simp
 simp only[Ae]at ef⊢
 have td:wIx (.val t.d) (.val (.int 3))=Fk (.val (shD t.ho)):=by simp[Tr.d]
 have dt:dr S t.d=.val t.d:=rfl
 rw[zo]at ef ct
 simp[JC,OB,fh,fo,fo',-eT,td,dt,ct,ef]
theorem Qq{ls:Gc Ld}{ds:Gc Ai}(h:Bu t ls ds):F6 [Ae t ls ds] S=Fk (.non,S):=by
 have hl0:ls.length<=4:=h.inv.len
 have hd:=h.len
 obtain⟨E',S',ef,i,o1,o2,f1,f2,rfl,rfl⟩:=IY (gs:=[]) (t:=tTp [tNm 3,tNm 4]) (b:=Ad (xIf (L4 (AJ Dk [eV 1,eOp (Lv false true) [eV 2,eV 3],eV 4])) (BE (eV 3)) EI)
  (Bs 1 (AJ Ay [eV 1,eV 4])))
  (I:=λrs E S'=>∃(i:Nat) (o1 o2:uo D),rs=(UJ 0 (ds.map Ai.d)).drop i/\i<=ds.length/\E=[Fk (Ae t ls ds),Fk (CB (runs t (st0 t ls) (ds.take i)).AE),Fk (.tup (ds.map Ai.d)),o1,o2]/\S'=S)
  (λ_ _ _ _=>Af) (ds:=UJ 0 (ds.map Ai.d)) (E:=[Fk (Ae t ls ds),Fk (CB ls),Fk (.tup (ds.map Ai.d)),uk,uk]) (S:=S)
  ⟨0,uk,uk,by simp,xf _,by simp[runs,st0],rfl⟩ (by
    rintro dd rs E T ⟨i,o1,o2,i1,i2,rfl,rfl⟩
    have el:(UJ 0 (ds.map Ai.d)).length=ds.length:=by rw[PN];simp
    have hlt:i<ds.length:=by
     rcases AAL i ds.length with w|w
     .exact w
     .rw[xM (by lia)]at i1;cases i1
    rw[wH (by lia)]at i1
    injection i1 with z1 z2
    have hd1:dd=.tup [.int i,ds[i].d]:=by
     have:=Ot (ds:=ds.map Ai.d) (k:=0) (i:=i)
     rw[ux (by lia),<-z1,vG,ux hlt]at this
     simpa using this
    subst z2
    subst hd1
    have inv:=h.at i
    have il:(ds.take i).length<=16:=by simp;lia
    have can:=Mm h.good (ux hlt)
    have cd:=YA (S:=T) (ds:=ds.take i) (by lia) ZM can
    have e3:=QN (S:=T) inv (by lia) can
    have rt:=My (t:=t) (st:=st0 t ls) (ux hlt)
    have ct:=Mn (ds:=ds.map Ai.d) (n:=i) (by simp;lia)
    rw[zo]at cd
    refine⟨_,[Fk (Ae t ls ds),Fk (CB (runs t (st0 t ls) (ds.take (i+1))).AE),Fk (.tup (ds.map Ai.d)),Fk (.int i),Fk ds[i].d],T,by simp;rfl,?_,i+1,Fk (.int i),Fk ds[i].d,rfl,hlt,rfl,rfl⟩
    rw[rt]
    simp[ct,cd,e3])
 have fh:=NY (S:=S') (ls:=ls) (x:=t.d) (y:=.tup (ds.map Ai.d)) (by lia)
 simp only[Ae]at ef⊢
 simp[F6,LQ,fh,ef]
theorem FH{ls:Gc Ld}{ds:Gc Ai}(h:Bu t ls ds):A8 [Ae t ls ds] S=Fk (.non,S):=by
 have e:=Qq (S:=S) h
 simp[A8,Jt,e,isN]
end
section
variable{S:Sto}
theorem de{ns:Gc Int}{k:Nat}:∃c,D2 [.scr ns,.int k] S=Fk (.int c,S):=by
 by_cases h:k<ns.length
 .have h':(k:Int)<ns.length:=by lia
  refine⟨ns[k],?_⟩
  have e:atI (ns.map D.int) (k:Int)=Fk (.int ns[k]):=Fq (by rw[vG,ux h];rfl)
  simp[D2,KW,h,h',e]
 .have h':¬(k:Int)<ns.length:=by lia
  exact⟨0,by simp[D2,KW,h,h']⟩
end
theorem Ok.add{G B C:Nat}{r q:Rat}(h:Ok G B r)(g:Ok G C q):Ok G (B+C) (r+q):=by
 obtain⟨z,e1,h1⟩:=h
 obtain⟨y,e2,h2⟩:=g
 refine⟨z+y,?_,Nat.add_le_add h1 h2⟩
 push_cast
 rw[<-e1,<-e2]
 grind
theorem Ok.pH{G B N:Nat}{r:Rat}{n:Int}(h:Ok G B r)(h0:0<=n)(h1:n<=N):Ok G (B*N) ((n:Rat)*r):=by
 obtain⟨z,e,hz⟩:=h
 refine⟨z*n.toNat,?_,yo hz (by lia)⟩
 push_cast
 rw[II h0,<-e]
 grind
theorem WQ{F:Fn}(hF:∀{j k:Nat} {p q:Rat} (S:Sto),Sz j p->Sz k q->j+k<=7990->F [aD p,aD q] S=Fk (aD (p+q),S)){gs:Gd}{S:Sto}(hg:gOk gs S){X:uo D}{G B K:Nat}(hG:0<G)(gK:G<2^K)(hK:2*K<=7990):∀{rs:Gc Rat} {acc:Rat} {m:Nat} {o:uo D},Ok G (m*B) acc->(∀r∈rs,Ok G B r)->(m+rs.length)*B<2^K->∃o',Qd gs (tNm 2) (Bs 1 (AJ F [eV 1,eV 2])) (rs.map aD) [X,Fk (aD acc),o] S=Fk (.nx,[X,Fk (aD (acc+rs.sum)),o'],S)
 | [],acc,m,o,ha,hr,hb=>⟨o,by
     rw[wc,Lg hg,List.sum_nil]
     have:acc+0=acc:=by grind
     rw[this]⟩
 |r::rs,acc,m,o,ha,hr,hb=>by
  have h1:=hr r vA
  have b1:(m+1)*B<=(m+(r::rs).length)*B:=wB _ (by simp)
  have mb:(m+1)*B=m*B+B:=by rw[Nat.succ_mul]
  have za:Sz K acc:=ha.sz hG gK (by lia)
  have zr:Sz K r:=h1.sz hG gK (by lia)
  have e:=hF S za zr (by lia)
  have ha2:Ok G ((m+1)*B) (acc+r):=by rw[mb];exact ha.add h1
  obtain⟨o',ih⟩:=WQ hF hg hG gK hK (X:=X) (B:=B) (rs:=rs) (acc:=acc+r) (m:=m+1) (o:=Fk (aD r)) ha2 (λq hq=>hr q (uv _ hq)) (by
   have:m+1+rs.length=m+(r::rs).length:=by simp;lia
   rw[this];exact hb)
  refine⟨o',?_⟩
  have ea:acc+(r::rs).sum=acc+r+rs.sum:=by rw[xT];grind
  rw[vT,ID hg,ea,<-ih]
  simp[e]
theorem YM:aD 0=.tup [.int 0,.int 1]:=rfl
theorem X5{α:Type}{t:Tf}{b:Ex}{C:En}{m q:Nat}{e h:α->D}:∀{xs:Gc α} {acc:Gc D} {os:En} {S:Sto},os.length=m->S[q]?=Fk (.lst acc)->acc.length+xs.length<=1000->(∀x∈xs,∀os S acc,os.length=m->S[q]?=Fk (.lst acc)->acc.length<sizeLine->∃us us' S',t (e x) (C++os) S=Fk (C++us)/\b (C++us) S=Fk (.nx,C++us',S'.set q (.lst (acc++[h x])))/\us'.length=m/\DQ [] S S')->∃os' S',os'.length=m/\Qd [] t b (xs.map e) (C++os) S=Fk (.nx,C++os',S')/\S'[q]?=Fk (.lst (acc++xs.map h))/\DQ [q] S S'
 | [],acc,os,S,ho,hq,hz,H=>⟨os,S,ho,by rw[wc,Lg Af],by simpa using hq,.refl⟩
 |x::xs,acc,os,S,ho,hq,hz,H=>by
  obtain⟨us,us',S1,e1,e2,hu,sm⟩:=H x vA os S acc ho hq (uy (show acc.length<1001 by simp at hz;lia) (by decide))
  have q1:=sm.get hq (by simp)
  obtain⟨os',S2,ho',e3,q2,s2⟩:=X5 (t:=t) (b:=b) (C:=C) (e:=e) (h:=h) (xs:=xs) (acc:=acc++[h x]) (os:=us') (S:=S1.set q (.lst (acc++[h x]))) hu (vJ (Ax q1)) (by simp at hz ⊢; lia) λx' hx=>H x' (uv _ hx)
  refine⟨os',S2,ho',?_,by simpa using q2,((sm.mono λ_ z=>(nomatch z)).trans (.set (by simp))).trans s2⟩
  rw[vT,ID Af,e1,Bt,e2,Bt,ZF,e3]
noncomputable def QM(t:Tr)(st:Stt)(x:Ld):Gc Rat:=UZ (10-t.h) t.h x.ow st.hold
noncomputable def Hr(t:Tr)(st:Stt)(x:Ld):Gc Rat:=(QM t st x).map λr=>(x.n:Rat)*r
abbrev HOk:=Yn
theorem V1{t:Tr}(hh:HOk t){st:Stt}{x:Ld}{G B:Nat}(h1:∀r∈x.ow,Ok G B r)(h2:∀r∈st.hold,Ok G B r):∀r∈QM t st x,Ok (G*10) (B*10) r:=by
 intro r hr
 unfold QM UZ at hr
 rw[xR]at hr
 obtain⟨i,hi'⟩:=hr
 rw[yR]at hi'
 obtain⟨s,o,hs,ho,rfl⟩:=hi'
 obtain⟨a1,a2,_,_⟩:=hh
 have:=Ok.mix (a:=(10-t.h).toNat) (b:=t.h.toNat) (t:=10) (h1 s (vL hs)) (h2 o (vL ho)) (by lia) (by decide)
 rw[II (by lia),II (by lia)]at this
 have e:(((10-t.h:Int):Rat)+(t.h:Rat))=((10:Nat):Rat):=by push_cast;grind
 rw[e]
 exact this
theorem cK{t:Tr}(hh:HOk t){st:Stt}{x:Ld}{G B N:Nat}(h1:∀r∈x.ow,Ok G B r)(h2:∀r∈st.hold,Ok G B r)(n0:0<=x.n)(n1:x.n<=N):∀r∈Hr t st x,Ok (G*10) (B*10*N) r:=by
 intro r hr
 obtain⟨y,hy,rfl⟩:=vp.mp hr
 exact(V1 hh h1 h2 y hy).pH n0 n1
section
variable{S:Sto}{t:Tr}{ls:Gc Ld}{ds:Gc Ai}
theorem Bu.fin(h:Bu t ls ds):JV t 16 (runs t (st0 t ls) ds):=by
 have:=h.at ds.length
 rw[yP]at this
 obtain⟨G,B,g0,gb,b,h1,h2⟩:=this.gb
 have hd:=h.len
 exact⟨by have:=this.len;lia,this.kind,λx hx=>⟨(this.pcs x hx).1,zE (this.pcs x hx).2 (NM (by lia))⟩,this.own,this.hold,by have:=this.nm;lia,G,B,g0,gb,uy b (GO (by lia)),h1,h2⟩
theorem Rw{n:Nat}(h:Bu t ls ds)(hn:n<=ds.length):IK [Ae t ls ds,.int n] S=Fk (CB (runs t (st0 t ls) (ds.take n)).AE,S):=by
 have hl0:ls.length<=4:=h.inv.len
 have ct:Le (ds.map Ai.d) uk (Fk (n:Int))=(ds.take n).map Ai.d:=by rw[Mn (by simpa using hn),zo]
 obtain⟨E',S',ef,i,o,f1,f2,rfl,rfl⟩:=IY (gs:=[]) (t:=tNm 3) (b:=Bs 2 (AJ Ay [eV 2,eV 3]))
  (I:=λrs E S'=>∃(i:Nat) (o:uo D),rs=((ds.take n).drop i).map Ai.d/\i<=n/\E=[Fk (Ae t ls ds),Fk (.int n),Fk (CB (runs t (st0 t ls) (ds.take i)).AE),o]/\S'=S)
  (λ_ _ _ _=>Af) (ds:=(ds.take n).map Ai.d) (E:=[Fk (Ae t ls ds),Fk (.int n),Fk (CB ls),uk]) (S:=S)
  ⟨0,uk,by simp,xf _,by simp[runs,st0],rfl⟩ (by
    rintro dd rs E T ⟨i,o,i1,i2,rfl,rfl⟩
    have hlt:i<(ds.take n).length:=by
     rcases AAL i (ds.take n).length with w|w
     .exact w
     .rw[xM w]at i1;cases i1
    rw[wH hlt,vT]at i1
    injection i1 with z1 z2
    subst z1 z2
    have hlt':i<ds.length:=by simp at hlt;lia
    have hin:i<n:=by simp at hlt;lia
    have hg:(ds.take n)[i]=ds[i]:=AAm
    rw[hg]
    have inv:=h.at i
    have il:(ds.take i).length<=16:=by have:=h.len;simp;lia
    have can:=Mm h.good (ux hlt')
    have e3:=QN (S:=T) inv (by lia) can
    have rt:=My (t:=t) (st:=st0 t ls) (ux hlt')
    refine⟨_,[Fk (Ae t ls ds),Fk (.int n),Fk (CB (runs t (st0 t ls) (ds.take (i+1))).AE),Fk ds[i].d],T,by simp;rfl,?_,i+1,Fk ds[i].d,rfl,hin,rfl,rfl⟩
    rw[rt]
    simp[e3])
 have hz:i=n:=by
  have:=congrArg AAh f1
  simp at this
  lia
 subst hz
 have fh:=NY (S:=S') (ls:=ls) (x:=t.d) (y:=.tup (ds.map Ai.d)) (by lia)
 rw[zo]at ef ct
 simp only[Ae]at ef⊢
 simp[IK,PR,fh,ct,ef]
theorem J5(h:Bu t ls ds)(hh:HOk t):∃q S',Eo [Ae t ls ds] S=Fk (.ref q,S')/\S'[q]?=Fk (.lst ((runs t (st0 t ls) ds).AE.map λx=>shD (Hr t (runs t (st0 t ls) ds) x)))/\DQ [] S S'/\S.length<=q:=by
 obtain⟨S1,e1,s1⟩:=bZ (S:=S) h (n:=ds.length) (u4 _)
 rw[yP]at e1
 have inv:=h.fin
 have hlen:=inv.len
 have sz:=inv.sz
 have tp:=h.tr.2.1
 obtain⟨G,B,g0,gb,bb,k1,k2⟩:=inv.gb
 generalize runs t (st0 t ls) ds=st at*
 have hq:(S1++[Cl.lst []])[S1.length]?=Fk (.lst []):=vK
 have ez:Qk (st.AE.map hD) (st.AE.map λx=>shD x.ow)=st.AE.map λx=>.tup [hD x,shD x.ow]:=by
  unfold Qk
  rw[List.zip_map',v5]
  rfl
 have hh':=hh
 obtain⟨a1,a2,_,_⟩:=hh
 obtain⟨os',S2,ho',e2,q2,s2⟩:=X5 (t:=tTp [tTp [tNm 7,tNm 8],tNm 6]) (b:=Ad (Bs 9 (AJ Cc [eV 6,eOp (o2 Qe) [eC (.int 10),eV 1],eV 4,eV 1]))
  (Ci (RC R7 (eV 5) [eOp (o1 DA) [Dp [8] 1 (JA (eV 9)) (tNm 1) Ca (AJ Dc [Cw [eV 0,eC (.int 1)],eV 1])]]))) (C:=[Fk (Ae t ls ds),Fk (.int t.h),Fk (CB st.AE),Fk (OU st.AE),Fk (shD st.hold),Fk (.ref S1.length)]) (m:=4) (q:=S1.length) (e:=λx:Ld=>D.tup [hD x,shD x.ow]) (h:=λx=>shD (Hr t st x)) (xs:=st.AE) (acc:=[]) (os:=[uk,uk,uk,uk]) (S:=S1++[Cl.lst []]) rfl hq (by simp;lia) (by
    intro x hx os S0 acc ho hq0 hz
    obtain⟨o1,o2,o3,o4,rfl⟩:∃o1 o2 o3 o4,os=[o1,o2,o3,o4]:=by
     match os,ho with
     | [a,b,c,d],_=>exact⟨a,b,c,d,rfl⟩
    have px:=inv.pcs x hx
    have hw:(10-t.h).natAbs<2^4:=by show _<16;lia
    have hm:t.h.natAbs<2^4:=by show _<16;lia
    have ms:=GC (S:=S0) (w:=10-t.h) (m:=t.h) (j:=30+170*16) (n:=4) (sz.1 x hx) sz.2 hw hm (by lia) (by decide) (by rw[inv.own x hx];lia)
    have zp:∀r∈UZ (10-t.h) t.h x.ow st.hold,Sz (30+170*16+4) r:=λr hr=>(V1 hh' (k1 x hx) k2 r hr).sz (zH g0 (by decide)) (by
     have:=CH (vd gb bb) (show 10<2^4 by decide)
     exact this) (CH bb (show 10<2^4 by decide))
    have cz:=Cf (gs:=[]) (t:=tNm 1) (f:=AJ Dc [Cw [eV 0,eC (.int 1)],eV 1]) (C:=[Fk (.int x.n)]) (m:=1) (e:=aD) (g:=λr=>aD ((x.n:Rat)*r)) (S:=S0) Af (xs:=UZ (10-t.h) t.h x.ow st.hold) (acc:=[]) (os:=[uk]) rfl (uz (show _<=50 by rw[yb,ABD,UZ,Fj (inv.own x hx) inv.hold];lia) (AS (by decide))) (by
     intro r hr os ho
     obtain⟨o,rfl⟩:∃o,os=[o]:=by
      match os,ho with
      | [a],_=>exact⟨a,rfl⟩
     have l:=Uq (S:=S0) (Pq (GQ px.1 px.2) (by decide)) (zp r hr) (by decide)
     rw[UR]at l
     refine⟨[Fk (aD r)],rfl,by simp,?_⟩
     simp[l])
    have ed:(UZ (10-t.h) t.h x.ow st.hold).map (λr=>aD ((x.n:Rat)*r))=(Hr t st x).map aD:=by
     unfold Hr QM
     rw[v5];rfl
    rw[ed]at cz
    simp only[vb,vX]at cz
    refine⟨[Fk (shD x.ow),Fk (.int x.k),Fk (.int x.n),o4],[Fk (shD x.ow),Fk (.int x.k),Fk (.int x.n),Fk (shD (UZ (10-t.h) t.h x.ow st.hold))],S0,by simp,?_,rfl,.refl⟩
    simp[ms,AY hq0,cz,QP,hz])
 refine⟨S1.length,S2,?_,by simpa using q2,?_,s1.len⟩
 .rw[<-ez]at e2
  simp only[vb,vX]at e2
  simp only[Ae]at e1 e2⊢
  have tdd:wIx (.val t.d) (.val (.int 4))=Fk (.val (.int t.h)):=by simp[Tr.d]
  have dt:∀T:Sto,dr T t.d=.val t.d:=λ_=>rfl
  have c4:atI [D.int (t.p:Int),D.int (t.k:Int),D.int (t.b:Int),shD t.ho,D.int t.h,D.int t.l] 4=Fk (.int t.h):=by simp
  have ast:asS (.val t.d)=Fk [D.int (t.p:Int),D.int (t.k:Int),D.int (t.b:Int),shD t.ho,D.int t.h,D.int t.l]:=rfl
  simp[Eo,N7,dt,ast,e1,e2]
 .refine⟨uz s1.len (uz (by simp) s2.len),λn hn _=>?_⟩
  have l1:=s1.len
  rw[s2.keep n (by simp;lia) (by simp;lia),uq (by lia)]
  exact s1.keep n hn (by simp)
end
section
variable{S:Sto}{t:Tr}{ls:Gc Ld}{ds:Gc Ai}
theorem fX{α:Type}{xs:Gc α}{x:α}{k:Nat}(hl:xs.length=k+1)(h:xs[k]?=Fk x):atI xs (-1:Int)=Fk x:=by
 have ix:ixN xs.length (-1)=Fk k:=by
  rw[hl]
  unfold ixN
  simp
  lia
 unfold atI
 rw[ix]
 exact h
theorem Ws(h:Bu t ls ds):∃q S' L,Fz [Ae t ls ds] S=Fk (.ref q,S')/\S'[q]?=Fk (.lst L)/\atI L (-1)=Fk (stD (runs t (st0 t ls) ds))/\DQ [] S S':=by
 obtain⟨q,S',e,hq,sm⟩:=XJ (S:=S) h
 refine⟨q,S',_,e,hq,fX (k:=ds.length) (by simp) ?_,sm⟩
 rw[vG,xj (by lia)]
 simp
theorem sL{n:Int}(h0:0<=n)(h1:n<=10):Sz 4 ((n:Rat) / ((10:Int):Rat)):=QZ (by decide) (show n.natAbs<16 by lia) (by decide)
noncomputable def iG:Ai->vm
 | .HV .. =>true
 | .Ox .. =>true
 | .swap .. =>true
 | .IG .. =>true
 |_=>false
theorem Vy:∀{ds:Gc Ai} {st:Stt},(runs t st ds).AE.length=st.AE.length+(ds.filter iG).length
 | [],st=>by simp[runs]
 |d::ds,st=>by
  show(runs t (step t st d) ds).AE.length=_
  rw[Vy]
  cases d<;>simp[step,iG,FZ,List.filter_cons]<;>lia
theorem mkC(hl:ds.length<=50):C8 [] (tNm 0) (eOp (o2 (wIn false)) [eOp (o2 wIx) [eV 0,eC (.int 0)],eC DR]) (eV 0) (ds.map Ai.d) [] [uk] S=Fk ((ds.filter iG).map Ai.d,S):=
 Hd (gs:=[]) (t:=tNm 0) (f:=eV 0) (C:=[]) (m:=1) (e:=Ai.d) (g:=Ai.d) (b:=iG) (S:=S) Af (xs:=ds) (acc:=[]) (os:=[uk]) rfl (uz (show _<=50 by simp;lia) (AS (by decide))) (by
  intro d _ os ho
  obtain⟨o1,rfl⟩:∃o1,os=[o1]:=by
   match os,ho with
   | [a],_=>exact⟨a,rfl⟩
  refine⟨[Fk d.d],rfl,by simp,?_,by simp⟩
  cases d<;>simp[Ai.d,iG])
theorem Xs(h:Bu t ls ds):FI [Ae t ls ds,.int ds.length] S=Fk (.int (runs t (st0 t ls) ds).AE.length,S):=by
 have hd:=h.len
 have ct:Le (ds.map Ai.d) uk (Fk (ds.length:Int))=ds.map Ai.d:=by rw[Mn (by simp),yV (by simp)]
 have mc:=mkC (S:=S) (ds:=ds) (by lia)
 have e:((runs t (st0 t ls) ds).AE.length:Int)=(ls.length:Int)+((ds.filter iG).length:Int):=by rw[Vy];simp[st0]
 rw[e]
 simp[FI,ME,Ae,ct,mc]
theorem N1{p:Nat}(hp:p<t.p):Ac [Ae t ls ds,.int p] S=Fk (.non,S):=by
 have k1:St.Kd.int.isA "int"=true:=by decide
 have k2:St.Kd.int.isA "bool"=false:=by decide
 have h1:(p:Int)<=(t.p:Int)-1:=by lia
 simp[Ac,C5,A3,Ck,k1,k2,BN,D1,Ek,Gx,Dv,F2,Ae,kdW,Tr.d,h1]
theorem gf{i:Nat}(h:Bu t ls ds)(hi:i<(runs t (st0 t ls) ds).AE.length):Bz [Ae t ls ds,.int i] S=Fk (.non,S):=by
 have k1:St.Kd.int.isA "int"=true:=by decide
 have k2:St.Kd.int.isA "bool"=false:=by decide
 have m:=Xs (S:=S) h
 have h1:(i:Int)<=((runs t (st0 t ls) ds).AE.length:Int)-1:=by lia
 generalize ((runs t (st0 t ls) ds).AE.length:Int)=L at*
 simp only[Ae]at m⊢
 simp[Bz,F8,m,k1,k2,BN,D1,Ek,Gx,Dv,F2,kdW,h1]
theorem X9{p i:Nat}(h:Bu t ls ds)(hh:HOk t)(hp:p<t.p)(hi:i<(runs t (st0 t ls) ds).AE.length):∃S',EB [Ae t ls ds,.int p,.int i] S=Fk (aD ((Hr t (runs t (st0 t ls) ds) (AW (runs t (st0 t ls) ds).AE i)).getD p 0),S')/\DQ [] S S':=by
 obtain⟨q,S1,e1,c1,s1,_⟩:=J5 (S:=S) h hh
 have r1:=FH (S:=S) h
 have r2:=N1 (S:=S) (ls:=ls) (ds:=ds) hp
 have r3:=gf (S:=S) h hi
 have inv:=h.fin
 generalize runs t (st0 t ls) ds=st at*
 have a1:atI (st.AE.map λx=>shD (Hr t st x)) (i:Int)=Fk (shD (Hr t st (AW st.AE i))):=Fq (by rw[vG,GJ hi];rfl)
 have hl:(Hr t st (AW st.AE i)).length=t.p:=by
  unfold Hr QM
  rw[vW,UZ,Fj (inv.own _ (BD hi)) inv.hold]
 have a2:=Pr (ss:=Hr t st (AW st.AE i)) (n:=p) (by rw[hl];exact hp)
 refine⟨S1,?_,s1⟩
 generalize aD ((Hr t st (AW st.AE i)).getD p 0)=R at*
 simp[EB,Lb,r1,r2,r3,e1,Bb c1,a1,a2]
end
section
variable{S:Sto}
theorem Wm{rs:Gc Rat}{G B K:Nat}(hG:0<G)(gK:G<2^K)(hK:2*K<=7990)(hr:∀r∈rs,Ok G B r)(hb:rs.length*B<2^K):J2 [.lst (rs.map aD)] S=Fk (aD rs.sum,S):=by
 obtain⟨o',e⟩:=WQ (F:=JQ) (λS h1 h2 h3=>gF h1 h2 h3) (gs:=[]) (S:=S) Af (X:=Fk (.lst (rs.map aD))) (B:=B) hG gK hK (rs:=rs) (acc:=0) (m:=0) (o:=uk) (by rw[Nat.zero_mul];exact Ok.zero) hr (by simpa using hb)
 have ez:(0:Rat)+rs.sum=rs.sum:=by grind
 rw[ez,YM]at e
 simp[J2,Ud,ET,e]
end
noncomputable def RL(ls:Gc Ld)(p:Nat)(ws:Gc Int):Gc Rat:=ls.map λx=>((x.n*ws.getD x.k 0:Int):Rat)*x.ow.getD p 0
noncomputable def brI(p:Nat)(ws:Gc Int):Ai->uo Int
 | .HV q k n=>if q=p then Fk (n*ws.getD k 0)else uk
 |_=>uk
noncomputable def br(p:Nat)(ws:Gc Int)(ds:Gc Ai):Gc Int:=ds.filterMap (brI p ws)
noncomputable def dD(ls:Gc Ld)(ds:Gc Ai)(p:Nat)(ws:Gc Int):Rat:=(RL ls p ws).sum+((br p ws ds).sum:Int)
structure Pri(t:Tr)(ws:Gc Int):Prop where
 len:ws.length=t.k
 rng:∀w∈ws,1<=w/\w<=99
theorem Ok.sum{G B:Nat}:∀{rs:Gc Rat},(∀r∈rs,Ok G B r)->Ok G (rs.length*B) rs.sum
 | [],_=>by simp;exact Ok.zero
 |r::rs,h=>by
  rw[xT,wC,Nat.succ_mul,ABA]
  exact(h r vA).add (Ok.sum λq hq=>h q (uv _ hq))
section
variable{S:Sto}{t:Tr}{ls:Gc Ld}{ds:Gc Ai}{p:Nat}{ws:Gc Int}
theorem Nk:∀{ds:Gc Ai} {st:Stt},Q8 t st ds->∀q k n,Ai.HV q k n∈ds->k<t.k/\1<=n/\n<2^131
 | [],st,h,q,k,n,hm=>by cases hm
 |d::ds,st,h,q,k,n,hm=>by
  rcases uw.mp hm with e|e
  .subst e
   have:=h.1
   exact⟨this.2.1,this.2.2.1,this.2.2.2⟩
  .exact Nk h.2 q k n e
theorem w99{w:Int}{n:Int}(h1:1<=w)(h2:w<=99)(n0:0<=n)(n1:n<2^131):0<=n*w/\n*w<=((2^138:Nat):Int):=by
 refine⟨ABm n0 (by lia),?_⟩
 have:n*w<=2^131*99:=ABn (by lia) h2 (by lia) (by decide)
 exact Int.le_trans this (by decide)
theorem pA(h:Bu t ls ds)(hw:Pri t ws):∀i∈br p ws ds,0<=i/\i<=((2^138:Nat):Int):=by
 intro i hi
 obtain⟨d,hd,e⟩:=zA.mp hi
 cases d with
 |HV q k n=>
  simp only[brI]at e
  split at e
  .cases e
   have g:=Nk h.good q k n hd
   have w:=LV hw.rng (i:=k) (by rw[hw.len];exact g.1)
   exact w99 w.1 w.2 (by lia) g.2.2
  .cases e
 |_=>cases e
theorem cj(h:Bu t ls ds)(hw:Pri t ws):0<=(br p ws ds).sum/\(br p ws ds).sum<=16*((2^138:Nat):Int):=by
 have b:=Vt (M:=((2^138:Nat):Int)) (by decide) (pA (p:=p) h hw)
 have l:(br p ws ds).length<=16:=uz (yG _ _) h.len
 refine⟨b.1,Int.le_trans b.2 (yO (by lia) (by decide))⟩
theorem YZ(h:Bu t ls ds)(hw:Pri t ws)(hp:p<t.p):∃G B:Nat,0<G/\G<=B/\B<2^30/\∀r∈RL ls p ws,Ok G (B*2^138) r:=by
 obtain⟨G,B,g0,gb,bb,k1,k2⟩:=h.inv.gb
 refine⟨G,B,g0,gb,bb,λr hr=>?_⟩
 obtain⟨x,hx,rfl⟩:=vp.mp hr
 have px:=h.inv.pcs x hx
 have kx:=h.inv.kind x hx
 have w:=LV hw.rng (i:=x.k) (by rw[hw.len];exact kx)
 have b:=w99 w.1 w.2 px.1 px.2
 exact(k1 x hx _ (getD_mem (by rw[h.inv.own x hx];exact hp))).pH b.1 b.2
theorem XC(h:Bu t ls ds)(hw:Pri t ws)(hp:p<t.p){x:Ld}(hx:x∈ls):FF x.n (ws.getD x.k 0)=true/\atI (ws.map D.int) (x.k:Int)=Fk (.int (ws.getD x.k 0))/\atI (x.ow.map aD) (p:Int)=Fk (aD (x.ow.getD p 0))/\Sz 139 ((x.n*ws.getD x.k 0:Int):Rat)/\Sz 30 (x.ow.getD p 0):=by
 have px:=h.inv.pcs x hx
 have kx:=h.inv.kind x hx
 have ox:=h.inv.own x hx
 have hk:x.k<ws.length:=by rw[hw.len];exact kx
 have w:=LV hw.rng hk
 have b:=w99 w.1 w.2 px.1 px.2
 have hpx:p<x.ow.length:=by rw[ox];exact hp
 refine⟨mulR (by lia) (by lia),Pb hk,Pr hpx,Pq (GQ b.1 (AAd b.2 (by decide))) (by decide),h.inv.sz.1 x hx _ (getD_mem hpx)⟩
theorem YL(h:Bu t ls ds)(hw:Pri t ws)(hp:p<t.p):Lc [Ae t ls ds,.int p,.tup (ws.map D.int)] S=Fk (aD (dD ls ds p ws),S):=by
 have hl0:ls.length<=4:=h.inv.len
 have hd:=h.len
 have c1:=Cf (gs:=[]) (t:=tTp [tNm 2,tNm 3,tNm 4]) (f:=AJ Dc [Cw [eOp (o2 B7) [eV 3,eOp (o2 wIx) [eV 1,eV 2]],eC (.int 1)],eOp (o2 wIx) [eV 4,eV 0]]) (C:=[Fk (.int p),Fk (.tup (ws.map D.int))]) (m:=3) (e:=Ld.d) (g:=λx=>aD (((x.n*ws.getD x.k 0:Int):Rat)*x.ow.getD p 0)) (S:=S) Af (xs:=ls) (acc:=[]) (os:=[uk,uk,uk]) rfl (uz (show _<=50 by simp;lia) (AS (by decide))) (by
  intro x hx os ho
  obtain⟨q1,q2,q3,rfl⟩:∃q1 q2 q3,os=[q1,q2,q3]:=by
   match os,ho with
   | [a,b,c],_=>exact⟨a,b,c,rfl⟩
  obtain⟨m1,w1,a1,z1,z2⟩:=XC h hw hp hx
  have l:=Uq (S:=S) z1 z2 (by decide)
  rw[UR]at l
  refine⟨[Fk (.int x.k),Fk (.int x.n),Fk (shD x.ow)],rfl,by simp[Ld.d],?_⟩
  generalize ws.getD x.k 0=wz at*
  generalize aD (((x.n*wz:Int):Rat)*x.ow.getD p 0)=R at*
  generalize aD (x.ow.getD p 0)=R2 at*
  simp[w1,m1,a1,l])
 have e1:ls.map (λx=>aD (((x.n*ws.getD x.k 0:Int):Rat)*x.ow.getD p 0))=(RL ls p ws).map aD:=by
  unfold RL;rw[v5];rfl
 rw[e1]at c1
 simp only[vb,vX]at c1
 have c2:∀{es:Gc Ai} {acc:Gc D} {o:uo D},(∀d∈es,d∈ds)->acc.length+es.length<=100->C8 [] (tNm 2) (Iz (eOp (o2 wEq) [eOp (o2 wIx) [eV 2,eC (.int 0)],eC (.str "bring")]) (eOp (o2 wEq) [eOp (o2 wIx) [eV 2,eC (.int 1)],eV 0])) (eOp (o2 B7) [eOp (o2 wIx) [eV 2,eC (.int 3)],eOp (o2 wIx) [eV 1,eOp (o2 wIx) [eV 2,eC (.int 2)]]]) (es.map Ai.d) acc [Fk (.int p),Fk (.tup (ws.map D.int)),o] S=Fk (acc++(br p ws es).map D.int,S):=by
  intro es
  induction es with
  |nil=>intro acc o _ _;rw[wc,GH Af];simp[br]
  |cons d es ih=>
   intro acc o hm hz
   have hs:acc.length<sizeLine:=uy (show acc.length<101 by simp at hz;lia) (AS (by decide))
   have tt:tNm 2 d.d [Fk (.int p),Fk (.tup (ws.map D.int)),o] S=Fk [Fk (.int p),Fk (.tup (ws.map D.int)),Fk d.d]:=by simp
   have ih':=λ{acc:Gc D} (hz:acc.length+es.length<=100)=>ih (acc:=acc) (o:=Fk d.d) (λx hx=>hm x (uv _ hx)) hz
   rw[vT]
   cases d with
   |HV q k n=>
    have g:=Nk h.good q k n (hm _ vA)
    have hk:k<ws.length:=by rw[hw.len];exact g.1
    have w:=LV hw.rng hk
    have aw:=Pb hk
    have mo:FF n (ws.getD k 0)=true:=mulR (by lia) (by lia)
    by_cases e:q=p
    .have e':((q:Int)==(p:Int))=true:=by simp[e]
     have eb:br p ws (.HV q k n::es)=(n*ws.getD k 0)::br p ws es:=by simp[br,brI,e]
     rw[eb]
     generalize ws.getD k 0=wz at*
     rw[Kb Af hs tt (S1:=S) (by simp[Ai.d,e'])]
     have ev:eOp (o2 B7) [eOp (o2 wIx) [eV 2,eC (.int 3)],eOp (o2 wIx) [eV 1,eOp (o2 wIx) [eV 2,eC (.int 2)]]] [Fk (.int p),Fk (.tup (ws.map D.int)),Fk (Ai.HV q k n).d] S=Fk (.int (n*wz),S):=by simp[Ai.d,aw,mo]
     rw[ev,Bt,ih' (by simp at hz ⊢; lia)]
     simp
    .have e':((q:Int)==(p:Int))=false:=by simp;lia
     have eb:br p ws (.HV q k n::es)=br p ws es:=by simp[br,brI,e]
     rw[eb,GF Af hs tt (S1:=S) (by simp[Ai.d,e']),ih' (by simp at hz ⊢; lia)]
   |Ox=>rw[GF Af hs tt (S1:=S) (by simp[Ai.d]),ih' (by simp at hz ⊢; lia)];rfl
   |swap=>rw[GF Af hs tt (S1:=S) (by simp[Ai.d]),ih' (by simp at hz ⊢; lia)];rfl
   |IG=>rw[GF Af hs tt (S1:=S) (by simp[Ai.d]),ih' (by simp at hz ⊢; lia)];rfl
   |Ku=>rw[GF Af hs tt (S1:=S) (by simp[Ai.d]),ih' (by simp at hz ⊢; lia)];rfl
   |thr=>rw[GF Af hs tt (S1:=S) (by simp[Ai.d]),ih' (by simp at hz ⊢; lia)];rfl
   |Nt=>rw[GF Af hs tt (S1:=S) (by simp[Ai.d]),ih' (by simp at hz ⊢; lia)];rfl
 have c2':=c2 (es:=ds) (acc:=[]) (o:=uk) (λ_ z=>z) (by simp;lia)
 simp only[vX]at c2'
 obtain⟨G,B,g0,gb,bb,ko⟩:=YZ h hw hp
 have hlen:(RL ls p ws).length<=4:=by simpa[RL]using hl0
 have b4:(RL ls p ws).length*(B*2^138)<2^200:=by
  have h1:(RL ls p ws).length*(B*2^138)<=4*(2^30*2^138):=yo hlen (wB _ (by lia))
  exact vd h1 (by decide)
 have gK:G<2^200:=vd gb (yt bb (by decide))
 have tt:=Wm (S:=S) (rs:=RL ls p ws) g0 gK (by decide) ko b4
 have zt:Sz 200 (RL ls p ws).sum:=by
  have:Ok G ((RL ls p ws).length*(B*2^138)) (RL ls p ws).sum:=Ok.sum ko
  exact this.sz g0 gK b4
 have bs:=cj (p:=p) h hw
 have zb:Sz 143 (((br p ws ds).sum:Int):Rat):=Pq (GQ bs.1 (AAd bs.2 (by decide))) (by decide)
 have pl:=gF (S:=S) zt zb (by decide)
 rw[UR]at pl
 have es:=HY (br p ws ds)
 show _=Fk (aD ((RL ls p ws).sum+((br p ws ds).sum:Int)),S)
 generalize aD ((RL ls p ws).sum+((br p ws ds).sum:Int))=R at*
 generalize aD (RL ls p ws).sum=R2 at*
 simp[Lc,Rm,Ae,c1,c2',tt,es,pl]
end
section
variable{S:Sto}{t:Tr}{ls:Gc Ld}{ds:Gc Ai}{p:Nat}{ws:Gc Int}
noncomputable def Ga(t:Tr)(st:Stt)(p:Nat)(ws:Gc Int):Gc Rat:=st.AE.map λx=>((ws.getD x.k 0:Int):Rat)*(Hr t st x).getD p 0
theorem ZR{st:Stt}{x:Ld}(h1:x.ow.length=t.p)(h2:st.hold.length=t.p):(Hr t st x).length=t.p:=by
 unfold Hr QM
 rw[vW,UZ,Fj h1 h2]
theorem Us(h:Bu t ls ds)(hh:HOk t)(hw:Pri t ws)(hp:p<t.p):∃G B:Nat,0<G/\G<2^2760/\B<2^2910/\(∀x∈(runs t (st0 t ls) ds).AE,Ok G B ((Hr t (runs t (st0 t ls) ds) x).getD p 0))/\∀r∈Ga t (runs t (st0 t ls) ds) p ws,Ok G (B*99) r:=by
 have inv:=h.fin
 obtain⟨G,B,g0,gb,bb,k1,k2⟩:=inv.gb
 generalize runs t (st0 t ls) ds=st at*
 have due:∀x∈st.AE,Ok (G*10) (B*10*2^147) ((Hr t st x).getD p 0):=λx hx=>by
  have px:=inv.pcs x hx
  have e:((2^147:Nat):Int)=2^(131+16):=by decide
  have h2:x.n<=((2^147:Nat):Int):=by rw[e];exact Int.le_of_lt px.2
  exact cK hh (k1 x hx) k2 px.1 h2 _ (getD_mem (by rw[ZR (inv.own x hx) inv.hold];exact hp))
 have g10:G*10<2^(30+170*16+4):=CH (vd gb bb) (by decide)
 have b10:B*10<2^(30+170*16+4):=CH bb (by decide)
 have b11:B*10*2^147<2^(30+170*16+4+148):=CH b10 (by decide)
 refine⟨G*10,B*10*2^147,zH g0 (by decide),uy g10 (GO (by decide)),uy b11 (GO (by decide)),due,λr hr=>?_⟩
 obtain⟨x,hx,rfl⟩:=vp.mp hr
 have w:=LV hw.rng (i:=x.k) (by rw[hw.len];exact inv.kind x hx)
 exact(due x hx).pH (by lia) (by lia)
theorem UA(h:Bu t ls ds)(hh:HOk t)(hw:Pri t ws)(hp:p<t.p):(∀S,J2 [.lst ((Ga t (runs t (st0 t ls) ds) p ws).map aD)] S=Fk (aD (Ga t (runs t (st0 t ls) ds) p ws).sum,S))/\Sz 2930 (Ga t (runs t (st0 t ls) ds) p ws).sum:=by
 obtain⟨G,B,g0,gk,bk,_,ko⟩:=Us h hh hw hp
 have inv:=h.fin
 have hl:(Ga t (runs t (st0 t ls) ds) p ws).length<=20:=by simpa[Ga]using inv.len
 have b:(Ga t (runs t (st0 t ls) ds) p ws).length*(B*99)<2^2930:=by
  have h1:(Ga t (runs t (st0 t ls) ds) p ws).length*(B*99)<=20*(B*99):=wB _ hl
  have h2:B*1980<2^(2910+11):=CH bk (by decide)
  have h3:2^(2910+11)<=2^2930:=GO (by decide)
  have:20*(B*99)=B*1980:=by lia
  lia
 have gk':G<2^2930:=uy gk (GO (by decide))
 exact⟨λS=>Wm g0 gk' (by decide) ko b,(Ok.sum ko).sz g0 gk' b⟩
theorem XE(h:Bu t ls ds)(hh:HOk t)(hw:Pri t ws)(hp:p<t.p){x:Ld}(hx:x∈(runs t (st0 t ls) ds).AE):atI (ws.map D.int) (x.k:Int)=Fk (.int (ws.getD x.k 0))/\Sz 7 ((ws.getD x.k 0:Int):Rat)/\Sz 2910 ((Hr t (runs t (st0 t ls) ds) x).getD p 0)/\atI ((Hr t (runs t (st0 t ls) ds) x).map aD) (p:Int)=Fk (aD ((Hr t (runs t (st0 t ls) ds) x).getD p 0)):=by
 obtain⟨G,B,g0,gk,bk,due,_⟩:=Us h hh hw hp
 have inv:=h.fin
 have hk:x.k<ws.length:=by rw[hw.len];exact inv.kind x hx
 have w:=LV hw.rng hk
 refine⟨Pb hk,Pq (show _<128 by lia) (by decide),(due x hx).sz g0 (uy gk (GO (by decide))) bk,Pr (by rw[ZR (inv.own x hx) inv.hold];exact hp)⟩
theorem TZ(h:Bu t ls ds)(hh:HOk t)(hw:Pri t ws)(hp:p<t.p):∃S',Es [Ae t ls ds,.int p,.tup (ws.map D.int)] S=Fk (aD (Ga t (runs t (st0 t ls) ds) p ws).sum,S')/\DQ [] S S':=by
 have hb:=Rw (S:=S) h (n:=ds.length) (u4 _)
 rw[yP]at hb
 obtain⟨q,S1,e1,c1,s1,_⟩:=J5 (S:=S) h hh
 have tt:=(UA h hh hw hp).1
 have bits:=λ{x:Ld} hx=>XE (x:=x) h hh hw hp hx
 have inv:=h.fin
 have hlen:=inv.len
 generalize runs t (st0 t ls) ds=st at*
 have ez:Qk (st.AE.map hD) (st.AE.map λx=>shD (Hr t st x))=st.AE.map λx=>.tup [hD x,shD (Hr t st x)]:=by
  unfold Qk
  rw[List.zip_map',v5]
  rfl
 have cc:=Cf (gs:=[(q,st.AE.map λx=>shD (Hr t st x))]) (t:=tTp [tTp [tNm 3,tNm 4],tNm 2]) (f:=AJ Dc [Cw [eOp (o2 wIx) [eV 1,eV 3],eC (.int 1)],eOp (o2 wIx) [eV 2,eV 0]]) (C:=[Fk (.int p),Fk (.tup (ws.map D.int))]) (m:=3) (e:=λx:Ld=>D.tup [hD x,shD (Hr t st x)]) (g:=λx=>aD (((ws.getD x.k 0:Int):Rat)*(Hr t st x).getD p 0)) (S:=S1) (λg hg=>by rw[vQ.mp hg];exact AY c1) (xs:=st.AE) (acc:=[]) (os:=[uk,uk,uk]) rfl (uz (show _<=50 by simp;lia) (AS (by decide))) (by
  intro x hx os ho
  obtain⟨q1,q2,q3,rfl⟩:∃q1 q2 q3,os=[q1,q2,q3]:=by
   match os,ho with
   | [a,b,c],_=>exact⟨a,b,c,rfl⟩
  obtain⟨w1,z1,z2,a2⟩:=bits hx
  have l:=Uq (S:=S1) z1 z2 (by decide)
  rw[UR]at l
  refine⟨[Fk (shD (Hr t st x)),Fk (.int x.k),Fk (.int x.n)],rfl,by simp,?_⟩
  generalize aD (((ws.getD x.k 0:Int):Rat)*(Hr t st x).getD p 0)=R at*
  generalize aD ((Hr t st x).getD p 0)=R2 at*
  generalize ws.getD x.k 0=wz at*
  simp[w1,a2,l])
 have e2:st.AE.map (λx=>aD (((ws.getD x.k 0:Int):Rat)*(Hr t st x).getD p 0))=(Ga t st p ws).map aD:=by
  unfold Ga;rw[v5];rfl
 rw[e2,<-ez]at cc
 simp only[vb,vX]at cc
 refine⟨S1,?_,s1⟩
 have sqh:∀T:Sto,sqD T (CB st.AE)=Fk (st.AE.map hD,[]):=λ_=>rfl
 simp only[Ae]at hb e1⊢
 have tt':=tt S1
 generalize aD (Ga t st p ws).sum=R at*
 simp[Es,Jl,hb,e1,sqh,Gm c1,cc,tt']
end
section
variable{S:Sto}{t:Tr}{ls:Gc Ld}{ds:Gc Ai}{p:Nat}{ws vs:Gc Int}
theorem U4(hw:Pri t ws)(hk:t.k<=5):Aq [Ae t ls ds,.tup (ws.map D.int)] S=Fk (.non,S):=by
 have k1:St.Kd.int.isA "int"=true:=by decide
 have k2:St.Kd.int.isA "bool"=false:=by decide
 have k3:St.Kd.tup.isA "tuple"=true:=by decide
 have c:=Cf (gs:=[]) (t:=tNm 0) (f:=AJ BN [eV 0,eC (.int 1),eC (.int 99)]) (C:=[]) (m:=1) (e:=D.int) (g:=λ_=>D.bl true) (S:=S) Af (xs:=ws) (acc:=[]) (os:=[uk]) rfl (uz (show _<=50 by simp[hw.len];lia) (AS (by decide))) (by
  intro w hw' os ho
  obtain⟨o,rfl⟩:∃o,os=[o]:=by
   match os,ho with
   | [a],_=>exact⟨a,rfl⟩
  have r:=hw.rng w hw'
  refine⟨[Fk (.int w)],rfl,by simp,?_⟩
  simp[BN,D1,Ek,Gx,Dv,F2,kdW,k1,k2,r.1,r.2])
 have b:=MM (λ_:Int=>true) ws
 simp only[vX]at c
 have hl:=hw.len
 have hall:((ws.map λ_:Int=>true).all id)=true:=by
  rw[yu,zl]
  intro x _;rfl
 generalize ws.map (λ_:Int=>D.bl true)=B at*
 generalize ws.map (λ_:Int=>true)=B2 at*
 simp[Aq,DV,Cj,FN,DZ,EY,Ae,Tr.d,kdW,k3,hl,c,b,hall]
noncomputable def jr(t:Tr)(g:Rat):Rat:=if g.num<=0 then 0 else g*((t.l:Rat) / ((10:Int):Rat))
noncomputable def rR(t:Tr)(ls:Gc Ld)(ds:Gc Ai)(p:Nat)(ws vs:Gc Int):D:=.tup [aD (dD ls ds p ws),aD (Ga t (runs t (st0 t ls) ds) p vs).sum,aD ((Ga t (runs t (st0 t ls) ds) p vs).sum-dD ls ds p ws),aD (jr t ((Ga t (runs t (st0 t ls) ds) p vs).sum-dD ls ds p ws))]
theorem kB(h:Bu t ls ds)(hw:Pri t ws)(hp:p<t.p):Sz 344 (dD ls ds p ws):=by
 have hl0:ls.length<=4:=h.inv.len
 obtain⟨G,B,g0,gb,bb,ko⟩:=YZ h hw hp
 have hlen:(RL ls p ws).length<=4:=by simpa[RL]using hl0
 have b4:(RL ls p ws).length*(B*2^138)<2^200:=by
  have h1:(RL ls p ws).length*(B*2^138)<=4*(2^30*2^138):=yo hlen (wB _ (by lia))
  exact vd h1 (by decide)
 have gK:G<2^200:=vd gb (yt bb (by decide))
 have zt:Sz 200 (RL ls p ws).sum:=(Ok.sum ko).sz g0 gK b4
 have bs:=cj (p:=p) h hw
 have zb:Sz 143 (((br p ws ds).sum:Int):Rat):=Pq (GQ bs.1 (AAd bs.2 (by decide))) (by decide)
 exact dA zt zb
theorem iU{g:Rat}(hh:HOk t)(hg:Sz 3300 g):Hy [t.d,aD g] S=Fk (aD (jr t g),S):=by
 obtain⟨_,_,a3,a4⟩:=hh
 have l:=VG (S:=S) (t:=t.l) (b:=10) (by decide) (Fx (by decide) (by decide))
 have z:=sL (n:=t.l) a3 (by lia)
 have tm:=Uq (S:=S) hg z (by decide)
 by_cases h:g.num<=0
 .have e:jr t g=0:=va h
  rw[e,YM]
  have ag:atI [D.int g.num,.int g.den] 0=Fk (.int g.num):=by simp
  show Hy [t.d,.tup [.int g.num,.int g.den]] S=_
  simp[Hy,Nb,h,ET]
 .have e:jr t g=g*((t.l:Rat) / ((10:Int):Rat)):=vf h
  rw[e]
  generalize aD (g*((t.l:Rat) / ((10:Int):Rat)))=R at*
  generalize aD ((t.l:Rat) / ((10:Int):Rat))=R2 at*
  simp only[aD]at tm⊢
  simp[Hy,Nb,Tr.d,h,l,tm]
theorem W5(h:Bu t ls ds)(hh:HOk t)(hw:Pri t ws)(hv:Pri t vs)(hp:p<t.p):∃S',BX [Ae t ls ds,.int p,.tup (ws.map D.int),.tup (vs.map D.int)] S=Fk (rR t ls ds p ws vs,S')/\DQ [] S S':=by
 have r1:=FH (S:=S) h
 have r2:=N1 (S:=S) (ls:=ls) (ds:=ds) hp
 have r3:=U4 (S:=S) (ls:=ls) (ds:=ds) hw h.tr.2.2.2.1
 have r4:=U4 (S:=S) (ls:=ls) (ds:=ds) hv h.tr.2.2.2.1
 have e1:=YL (S:=S) h hw hp
 obtain⟨S1,e2,s1⟩:=TZ (S:=S) h hh hv hp
 have zp:=kB h hw hp
 have zw:=(UA h hh hv hp).2
 have l:=jw (S:=S1) zw zp (by decide)
 have zg:=cW zw zp
 have c:=iU (S:=S1) hh (zg.mono (by decide))
 refine⟨S1,?_,s1⟩
 unfold rR
 generalize aD (jr t ((Ga t (runs t (st0 t ls) ds) p vs).sum-dD ls ds p ws))=R1 at*
 generalize aD ((Ga t (runs t (st0 t ls) ds) p vs).sum-dD ls ds p ws)=R2 at*
 generalize aD (Ga t (runs t (st0 t ls) ds) p vs).sum=R3 at*
 generalize aD (dD ls ds p ws)=R4 at*
 have dt:∀T:Sto,dr T t.d=.val t.d:=λ_=>rfl
 simp only[Ae]at r1 r2 r3 r4 e1 e2⊢
 simp[BX,FL,r1,r2,r3,r4,e1,e2,l,c]
end
noncomputable def flI(r:Rat):Int:=r.num / (r.den:Int)
theorem Yt{r d:Rat}(hg:0<d)(hz:0<=r*d):0<=r:=by
 rcases Rat.le_total (a:=0) (b:=r)with w|w
 .exact w
 .have:=Rat.mul_le_mul_of_nonneg_right w (Rat.le_of_lt hg)
  rw[Rat.zero_mul]at this
  have e0:=Rat.le_antisymm this hz
  have:r=0:=by grind
  rw[this]
  exact Rat.le_refl
theorem Ok.num{G B:Nat}{r:Rat}(hG:0<G)(h:Ok G B r):0<=r.num:=by
 obtain⟨z,e,_⟩:=h
 have hg:(0:Rat)<(G:Rat):=by exact_mod_cast hG
 have hz:(0:Rat)<=(z:Rat):=by exact_mod_cast xf z
 rw[Rat.num_nonneg]
 exact Yt hg (by rw[e];exact hz)
theorem Ok.fl{G B:Nat}{r:Rat}(hG:0<G)(h:Ok G B r):0<=flI r:=Int.ediv_nonneg (h.num hG) (by lia)
section
variable{S:Sto}{t:Tr}{ls:Gc Ld}{ds:Gc Ai}{st:Stt}
theorem oO{r:Rat}{k:Nat}(h:Sz k r)(hk:k<=8000):D6 [aD r] S=Fk (.int (flI r),S):=by
 have h1:0<(r.den:Int):=den_pos r
 have h2:((r.den:Nat):Int).natAbs<Im:=by
  rw[xE]
  exact Eh h.2 hk
 unfold aD flI
 generalize hd:((r.den:Nat):Int)=d at*
 simp[D6,Kh,h1,h2]
theorem dI(h:Bu t ls ds)(hh:HOk t):∃G B:Nat,0<G/\G<2^2760/\B<2^2905/\∀x∈(runs t (st0 t ls) ds).AE,∀r∈Hr t (runs t (st0 t ls) ds) x,Ok G B r:=by
 have inv:=h.fin
 obtain⟨G,B,g0,gb,bb,k1,k2⟩:=inv.gb
 refine⟨G*10,B*10*2^147,by lia,?_,?_,λx hx=>cK hh (k1 x hx) k2 (inv.pcs x hx).1 ?_⟩
 .have:G<2^(30+170*16):=vd gb bb
  exact uy (CH this (show 10<2^4 by decide)) (v9 (by decide) (by decide))
 .have:=CH (CH bb (show 10<2^4 by decide)) (show 2^147<2^148 by exact zy (by decide) (by decide))
  exact uy this (v9 (by decide) (by decide))
 .have:=(inv.pcs x hx).2
  have e:((2^147:Nat):Int)=2^(131+16):=by decide
  lia
structure Xb(t:Tr)(st:Stt)(x:Ld):Prop where
 len:(Hr t st x).length<=4
 rS:(Hr t st x).length=t.p
 ok:∃G B:Nat,0<G/\G<2^2760/\B<2^2905/\∀r∈Hr t st x,Ok G B r
theorem YO(h:Bu t ls ds)(hh:HOk t):∀x∈(runs t (st0 t ls) ds).AE,Xb t (runs t (st0 t ls) ds) x:=by
 intro x hx
 have inv:=h.fin
 have tp:=h.tr.2.1
 obtain⟨G,B,g0,gg,bb,k⟩:=dI h hh
 have hl:(Hr t (runs t (st0 t ls) ds) x).length=t.p:=by
  unfold Hr QM
  rw[vW,UZ,Fj (inv.own x hx) inv.hold]
 exact⟨by lia,hl,⟨G,B,g0,gg,bb,k x hx⟩⟩
theorem Xb.sz{st:Stt}{x:Ld}(h:Xb t st x):∀r∈Hr t st x,Sz 2906 r:=by
 obtain⟨G,B,g0,gg,bb,k⟩:=h.ok
 exact λr hr=>(k r hr).sz g0 (yt gg (zy (by decide) (by decide))) (yt bb (zy (by decide) (by decide)))
theorem Xb.fl{st:Stt}{x:Ld}(h:Xb t st x):∀r∈Hr t st x,0<=flI r:=by
 obtain⟨G,B,g0,gg,bb,k⟩:=h.ok
 exact λr hr=>(k r hr).fl g0
noncomputable def duI(t:Tr)(st:Stt)(p i:Nat):Rat:=(Hr t st (AW st.AE i)).getD p 0
noncomputable def tkI(t:Tr)(st:Stt)(p i:Nat):Int:=flI (duI t st p i)
theorem Z9{β:Type}{ls:Gc Ld}(f:Ld->β):(vS ls.length).map (λi=>f (AW ls i))=ls.map f:=by
 apply yj
 intro i
 rw[vG,vG]
 by_cases h:i<ls.length
 .rw[xj h,GJ h];rfl
 .rw[xr (by simp;lia),xr (by lia)];rfl
theorem jj{ls:Gc Ld}(f:Ld->D):UJ 0 (ls.map f)=(vS ls.length).map λ(i:Nat)=>D.tup [.int i,f (AW ls i)]:=by
 rw[PN,vW]
 apply AAE
 intro i hi
 have h:i<ls.length:=xW.mp hi
 rw[vO,vG,GJ h]
 rfl
theorem YN{p i:Nat}(hm:∀x∈st.AE,Xb t st x)(hp:p<t.p)(hi:i<st.AE.length):duI t st p i∈Hr t st (AW st.AE i):=getD_mem (by rw[(hm _ (BD hi)).rS];exact hp)
def Sx(t:Tr)(st:Stt)(p:Nat):Gc Nat:=(vS st.AE.length).filter λi=>decide (0<tkI t st p i)
noncomputable def cC(t:Tr)(st:Stt)(p i:Nat):D:=.tup [.int i,.int (tkI t st p i)]
noncomputable def fnZ(n:Nat)(v:Nat->Int):Gc D:=(vS n).map λj=>.int (v j)
theorem fD{n i:Nat}{v:Nat->Int}{z:Int}(hi:i<n):(fnZ n v).set i (.int z)=fnZ n (λj=>if j=i then z else v j):=by
 apply yj
 intro j
 rw[List.getElem?_set]
 unfold fnZ
 rw[vG,vG,vW,yh]
 by_cases h:j<n
 .rw[xj h]
  by_cases e:i=j
  .subst e;simp[h]
  .have e':¬j=i:=λz=>e z.symm
   simp[e,e']
 .have:¬i=j:=by lia
  rw[xr (by simp;lia)]
  simp[this]
theorem js{n i:Nat}{v:Nat->Int}(hi:i<n):(fnZ n v)[i]?=Fk (.int (v i)):=by
 unfold fnZ
 rw[vG,xj hi]
 rfl
theorem Mz{n:Nat}{v w:Nat->Int}(h:∀j<n,v j=w j):fnZ n v=fnZ n w:=by
 unfold fnZ
 apply AAE
 intro j hj
 rw[h j (xW.mp hj)]
end
section
variable{S:Sto}{t:Tr}{ls:Gc Ld}{ds:Gc Ai}{st:Stt}
def NJ(t:Tr)(st:Stt)(p:Nat):Gc D:=(Sx t st p).map (cC t st p)
theorem P6{p qd:Nat}(hm:∀x∈st.AE,Xb t st x)(hl:st.AE.length<=20)(hp:p<t.p)(hq:S[qd]?=Fk (.lst (st.AE.map λx=>shD (Hr t st x)))):Ds [.ref qd,.int p] S=Fk (.ref S.length,S++[.lst (NJ t st p)]):=by
 have gz:gOk [(qd,st.AE.map λx=>shD (Hr t st x))] S:=λg hg=>by rw[vQ.mp hg];exact AY hq
 have k1:=Cf (gs:=[(qd,st.AE.map λx=>shD (Hr t st x))]) (t:=tTp [tNm 1,tNm 2]) (f:=Cw [eV 1,AJ D6 [eOp (o2 wIx) [eV 2,eV 0]]]) (C:=[Fk (.int p)]) (m:=2) (e:=λi:Nat=>D.tup [.int i,shD (Hr t st (AW st.AE i))]) (g:=cC t st p) (S:=S) gz (xs:=vS st.AE.length) (acc:=[]) (os:=[uk,uk]) rfl (uz (show _<=50 by simp;lia) (AS (by decide))) (by
  intro i hi os ho
  obtain⟨x1,x2,rfl⟩:∃x1 x2,os=[x1,x2]:=by
   match os,ho with
   | [a,b],_=>exact⟨a,b,rfl⟩
  have hi':i<st.AE.length:=xW.mp hi
  have hx:=hm _ (BD hi')
  have w:=oO (S:=S) (hx.sz _ (YN hm hp hi')) (by decide)
  have at1:=Pr (ss:=Hr t st (AW st.AE i)) (n:=p) (by rw[hx.rS];exact hp)
  refine⟨[Fk (.int i),Fk (shD (Hr t st (AW st.AE i)))],rfl,by simp,?_⟩
  show _=Fk (D.tup [.int i,.int (flI (duI t st p i))],S)
  change atI ((Hr t st (AW st.AE i)).map aD) (p:Int)=Fk (aD (duI t st p i))at at1
  generalize flI (duI t st p i)=z at*
  generalize aD (duI t st p i)=R at*
  simp[QP,at1,w])
 have ee:UJ 0 (st.AE.map λx=>shD (Hr t st x))=(vS st.AE.length).map λ(i:Nat)=>D.tup [.int i,shD (Hr t st (AW st.AE i))]:=jj _
 rw[<-ee]at k1
 have k2:=Hd (gs:=[]) (t:=tTp [tNm 0,tNm 1]) (c:=eOp (o2 wGt) [eV 1,eC (.int 0)]) (f:=Cw [eV 0,eV 1]) (C:=[]) (m:=2) (e:=cC t st p) (g:=cC t st p) (b:=λi=>decide (0<tkI t st p i)) (S:=S) Af (xs:=vS st.AE.length) (acc:=[]) (os:=[uk,uk]) rfl (uz (show _<=50 by simp;lia) (AS (by decide))) (by
  intro i hi os ho
  obtain⟨x1,x2,rfl⟩:∃x1 x2,os=[x1,x2]:=by
   match os,ho with
   | [a,b],_=>exact⟨a,b,rfl⟩
  exact⟨[Fk (.int i),Fk (.int (tkI t st p i))],rfl,by simp[cC],by simp,by simp[cC]⟩)
 have sq:=Gm hq
 simp only[vX,vb]at k1 k2
 unfold NJ Sx
 generalize (vS st.AE.length).map (cC t st p)=R at*
 generalize ((vS st.AE.length).filter λi=>decide (0<tkI t st p i)).map (cC t st p)=R2 at*
 generalize (st.AE.map λx=>shD (Hr t st x))=DU at*
 simp[Ds,OC,sq,Qi,k1,k2]
theorem Ti{p:Nat}(hp:p<t.p):A3 [t.d,.int p] S=Fk (.bl true,S):=by
 have k1:St.Kd.int.isA "int"=true:=by decide
 have k2:St.Kd.int.isA "bool"=false:=by decide
 have h1:(p:Int)<=(t.p:Int)-1:=by lia
 simp[A3,Ck,k1,k2,BN,D1,Ek,Gx,Dv,F2,kdW,Tr.d,h1]
theorem VL{p:Nat}(h:Bu t ls ds)(hh:HOk t)(hst:runs t (st0 t ls) ds=st)(hm:∀x∈st.AE,Xb t st x)(hp:p<t.p):∃q S',Dt [Ae t ls ds,.int p] S=Fk (.ref q,S')/\S'[q]?=Fk (.lst (NJ t st p))/\DQ [] S S'/\S.length<=q:=by
 have r1:=FH (S:=S) h
 have r2:=N1 (S:=S) (ls:=ls) (ds:=ds) hp
 obtain⟨qd,S1,e1,c1,s1,l1⟩:=J5 (S:=S) h hh
 have hlen:=h.fin.len
 rw[hst]at c1 hlen
 have tb:=P6 (S:=S1) hm (by lia) hp c1
 refine⟨S1.length,S1++[.lst (NJ t st p)],?_,vK,s1.trans .app,s1.len⟩
 generalize NJ t st p=R at*
 generalize Ae t ls ds=bk at*
 simp[Dt,LP,r1,r2,e1,tb]
theorem V2{ns:Gc Int}(hn:ns.Nodup):∀k,k<=ns.length->Tu ns k=ns.take k
 |0,_=>rfl
 |k+1,hk=>by
  have hlt:k<ns.length:=by lia
  show vt _ (k+1)=_
  rw[yp]
  have ih:=V2 hn k (by lia)
  change vt _ k=_ at ih
  rw[ih]
  have eg:ns.getD k 0=ns[k]:=by rw[vO,ux hlt];rfl
  have hno:(ns.take k).any (· ==ns.getD k 0)=false:=by
   rw[Bool.eq_false_iff]
   intro z
   obtain⟨x,hx,e⟩:=zm.mp z
   have e:x=ns.getD k 0:=by simpa using e
   rw[eg]at e
   subst e
   obtain⟨i,hi,ei⟩:=List.mem_iff_getElem.mp hx
   rw[yr]at hi
   rw[AAm]at ei
   exact List.pairwise_iff_getElem.mp hn i k (by lia) hlt (by lia) ei
  unfold zI
  rw[vf (by rw[hno];decide),eg,AAZ,ux hlt]
  rfl
theorem fc{ns:Gc Int}(hn:ns.Nodup):(Tu ns ns.length).length=ns.length:=by rw[V2 hn _ (u4 _),yP]
noncomputable def Lz(is:Gc Nat):Gc D:=is.map λi:Nat=>D.int i
theorem pO(is:Gc Nat):Mg (Lz is)=Fk (is.map λi:Nat=>(i:Int)):=by
 have:=HY (is.map λi:Nat=>(i:Int))
 rw[v5]at this
 exact this
structure gE(t:Tr)(is:Gc Nat):Prop where
 nd:is.Nodup
 lt:∀i∈is,i<t.p
 len:is.length<=4
theorem kX{is:Gc Nat}(ho:gE t is):BG [Ae t ls ds,.tup (Lz is)] S=Fk (.non,S):=by
 have hl:=ho.len
 have k1:St.Kd.tup.isA "tuple"=true:=by decide
 have c:=Cf (gs:=[]) (t:=tNm 1) (f:=AJ A3 [eOp (o2 wIx) [eV 0,eC (.int 0)],eV 1]) (C:=[Fk (Ae t ls ds)]) (m:=1) (e:=λi:Nat=>D.int i) (g:=λ_=>D.bl true) (S:=S) Af (xs:=is) (acc:=[]) (os:=[uk]) rfl (uz (show _<=50 by simp;lia) (AS (by decide))) (by
  intro i hi os ho'
  obtain⟨x1,rfl⟩:∃x1,os=[x1]:=by
   match os,ho' with
   | [a],_=>exact⟨a,rfl⟩
  have p:=Ti (S:=S) (ho.lt i hi)
  refine⟨[Fk (.int i)],rfl,by simp,?_⟩
  simp[Ae,p])
 have al:bls (is.map λ_=>D.bl true)=Fk (is.map λ_=>true):=MM (λ_:Nat=>true) is
 have aa:(is.map λ_=>true).all id=true:=by simp
 have nd:(is.map λi:Nat=>(i:Int)).Nodup:=ho.nd.map _ λa b hab z=>hab (by exact_mod_cast z)
 have sl:slK (.tup (Lz is),S)=Fk (.int (is.length:Int),S):=by
  unfold slK
  simp only
  rw[pO]
  show(if _ then _ else _)=_
  have m:=fc nd
  rw[vW]at m
  rw[va (by rw[vW];lia),vW,m]
 have es:∀(o:Ev) (E:En) (T:Sto),eSL o E T=(o E T).bind slK:=λ_ _ _=>rfl
 have wl:Kw (.val (.tup (Lz is)))=Fk (.val (.int is.length)):=by
  show Fk (Wv.val (.int ((Lz is).length:Int)))=_
  unfold Lz
  rw[vW]
 change C8 [] (tNm 1) Ca _ (Lz is) [] [Fk (Ae t ls ds),uk] S=Fk (is.map λ_=>D.bl true,S)at c
 have sq:sqD S (.tup (Lz is))=Fk (Lz is,[]):=nr rfl
 have ki:kdW (.val (.tup (Lz is)))=Fk St.Kd.tup:=nr rfl
 generalize Ae t ls ds=bk at*
 generalize Lz is=OD at*
 generalize is.map (λ_=>D.bl true)=BL at*
 simp[BG,Cv,k1,ki,sq,Qi,c,al,aa,es,sl,wl]
end
section
variable{S:Sto}{t:Tr}{ls:Gc Ld}{ds:Gc Ai}{st:Stt}
theorem dP{g:Int->Int->Int}{f o k:Ev}{E:En}{q:Nat}{j a c:Int}{m:Nat}{L:Gc D}(h1:f E S=Fk (.ref q,S))(h2:o E S=Fk (.int j,S))(h3:GY S q=Fk L)(h4:ixN L.length j=Fk m)(h5:0<=j)(h6:L[m]?=Fk (.int a))(h7:k E S=Fk (.int c,S)):aq g f o k E S=Fk (.nx,E,S.set q (.lst (L.set m (.int (g a c))))):=by
 unfold aq
 rw[h1,Bt,h2,Bt]
 simp only
 rw[h3,Bt,h4,Bt,va h5,h6]
 simp only
 rw[h7,Bt]
 simp only
 rw[h3,Bt,h4]
 rfl
theorem WJ{q r n:Nat}{d:Nat->Int}{L:Gc D}{a0 a1 a2 a3 a5:uo D}(hne:r≠q):∀{is:Gc Nat} {v:Nat->Int} {o6 o7:uo D} {S:Sto},is.Nodup->(∀i∈is,i<n)->S[q]?=Fk (.lst (fnZ n v))->S[r]?=Fk (.lst L)->∃u6 u7 S',Qd [(r,L)] (tTp [tNm 6,tNm 7]) (aq (λi j=>i-j) (eV 4) (eV 6) (eV 7)) (is.map λi:Nat=>D.tup [.int i,.int (d i)]) [a0,a1,a2,a3,Fk (.ref q),a5,o6,o7] S=Fk (.nx,[a0,a1,a2,a3,Fk (.ref q),a5,u6,u7],S')/\S'[q]?=Fk (.lst (fnZ n λj=>if j∈is then v j-d j else v j))/\DQ [q] S S'
 | [],v,o6,o7,S,hd,hi,hq,hr=>⟨o6,o7,S,by rw[wc,Lg (λg hg=>by rw[vQ.mp hg];exact AY hr)],by simpa using hq,.refl⟩
 |i::is,v,o6,o7,S,hd,hi,hq,hr=>by
  have hin:=hi i vA
  obtain⟨hn,hd'⟩:=xP.mp hd
  have lq:=Ax hq
  obtain⟨u6,u7,S',e,c,s⟩:=WJ (q:=q) (r:=r) (n:=n) (d:=d) (L:=L) (a0:=a0) (a1:=a1) (a2:=a2) (a3:=a3) (a5:=a5) hne (is:=is) (v:=λj=>if j=i then v i-d i else v j) (o6:=Fk (.int i)) (o7:=Fk (.int (d i))) (S:=S.set q (.lst (fnZ n λj=>if j=i then v i-d i else v j))) hd' (λj hj=>hi j (uv _ hj)) (vJ lq) (by rw[u3 (wu hne)];exact hr)
  refine⟨u6,u7,S',?_,?_,.trans (.set (by simp)) s⟩
  .rw[vT,ID (λg hg=>by rw[vQ.mp hg];exact AY hr)]
   have ix:ixN (fnZ n v).length (i:Int)=Fk i:=QA (by simpa[fnZ]using hin)
   have fs:=fD (v:=v) (z:=v i-d i) hin
   have ag:=dP (S:=S) (g:=λi j=>i-j) (f:=eV 4) (o:=eV 6) (k:=eV 7) (E:=[a0,a1,a2,a3,Fk (.ref q),a5,Fk (.int i),Fk (.int (d i))]) (q:=q) (j:=(i:Int)) (a:=v i) (c:=d i) (m:=i) (L:=fnZ n v) (by simp) (by simp) (AY hq) ix (by lia) (js hin) (by simp)
   rw[fs]at ag
   generalize aq (λi j=>i-j) (eV 4) (eV 6) (eV 7)=AG at*
   simp[ag,e]
  .have:(fnZ n λj=>if j∈is then(if j=i then v i-d i else v j)-d j else if j=i then v i-d i else v j)=fnZ n λj=>if j∈i::is then v j-d j else v j:=by
    apply Mz
    intro j _
    by_cases e1:j=i
    .subst e1;simp[hn]
    .by_cases e2:j∈is
     .simp[e1,e2]
     .simp[e1,e2]
   rw[<-this]
   exact c
theorem jo{p:Nat}{v:Nat->Int}(hm:∀x∈st.AE,Xb t st x)(hp:p<t.p):(fnZ st.AE.length λj=>if j∈Sx t st p then v j-tkI t st p j else v j)=fnZ st.AE.length λj=>v j-tkI t st p j:=by
 apply Mz
 intro j hj
 have f0:0<=tkI t st p j:=(hm _ (BD hj)).fl _ (YN hm hp hj)
 by_cases h0:0<tkI t st p j
 .have:j∈Sx t st p:=xg.mpr ⟨xW.mpr hj,by simpa using h0⟩
  rw[va this]
 .have:j∉Sx t st p:=λz=>h0 (by simpa using(xg.mp z).2)
  rw[vf this]
  lia
theorem gG{p:Nat}:(Sx t st p).Nodup:=List.Pairwise.filter _ List.nodup_range
theorem eU{p:Nat}:∀i∈Sx t st p,i<st.AE.length:=λi hi=>xW.mp (xg.mp hi).1
def di(t:Tr)(st:Stt)(is:Gc Nat)(v:Nat->Int)(j:Nat):Int:=v j-(is.map λp=>tkI t st p j).sum
theorem Pf{q qt:Nat}{LT:Gc D}{a0 a1 a2 a3:uo D}(hm:∀x∈st.AE,Xb t st x)(hqt:qt≠q):∀{ps:Gc (Nat×Nat)} {v:Nat->Int} {o5 o6 o7:uo D} {S:Sto},(∀z∈ps,z.1<t.p/\S[z.2]?=Fk (.lst (NJ t st z.1))/\z.2≠q)->S[q]?=Fk (.lst (fnZ st.AE.length v))->S[qt]?=Fk (.lst LT)->∃u5 u6 u7 S',Qd [(qt,LT)] (tNm 5) (Oq (JA (eV 5)) (tTp [tNm 6,tNm 7]) (aq (λi j=>i-j) (eV 4) (eV 6) (eV 7))) (ps.map λz=>D.ref z.2) [a0,a1,a2,a3,Fk (.ref q),o5,o6,o7] S=Fk (.nx,[a0,a1,a2,a3,Fk (.ref q),u5,u6,u7],S')/\S'[q]?=Fk (.lst (fnZ st.AE.length (di t st (ps.map (·.1)) v)))/\DQ [q] S S'
 | [],v,o5,o6,o7,S,hz,hq,ht=>⟨o5,o6,o7,S,by rw[wc,Lg (λg hg=>by rw[vQ.mp hg];exact AY ht)],by
     have:fnZ st.AE.length (di t st (List.map (·.1) ([]:Gc (Nat×Nat))) v)=fnZ st.AE.length v:=Mz λj _=>by simp[di]
     rw[this];exact hq,.refl⟩
 |(p,r)::ps,v,o5,o6,o7,S,hz,hq,ht=>by
  obtain⟨hp,hr,hrq⟩:=hz (p,r) vA
  obtain⟨u6,u7,S1,e1,c1,s1⟩:=WJ (q:=q) (r:=r) (n:=st.AE.length) (d:=tkI t st p) (L:=NJ t st p) (a0:=a0) (a1:=a1) (a2:=a2) (a3:=a3) (a5:=Fk (.ref r)) hrq (is:=Sx t st p) (v:=v) (o6:=o6) (o7:=o7) (S:=S) gG eU hq hr
  rw[jo hm hp]at c1
  obtain⟨w5,w6,w7,S2,e2,c2,s2⟩:=Pf hm hqt (LT:=LT) (a0:=a0) (a1:=a1) (a2:=a2) (a3:=a3) (ps:=ps) (v:=λj=>v j-tkI t st p j) (o5:=Fk (.ref r)) (o6:=u6) (o7:=u7) (S:=S1) (λz hz'=>by
   obtain⟨z1,z2,z3⟩:=hz z (uv _ hz')
   exact⟨z1,s1.get z2 (by simpa using z3),z3⟩) c1 (s1.get ht (by simpa using hqt))
  refine⟨w5,w6,w7,S2,?_,?_,s1.trans s2⟩
  .rw[vT,ID (λg hg=>by rw[vQ.mp hg];exact AY ht)]
   have sq:=Gm hr
   have er:(Sx t st p).map (λi:Nat=>D.tup [.int i,.int (tkI t st p i)])=NJ t st p:=rfl
   rw[er]at e1
   generalize NJ t st p=RW at*
   generalize aq (λi j=>i-j) (eV 4) (eV 6) (eV 7)=AG at*
   simp[sq,e1,e2]
  .have:fnZ st.AE.length (di t st (ps.map (·.1)) λj=>v j-tkI t st p j)=fnZ st.AE.length (di t st (((p,r)::ps).map (·.1)) v):=Mz λj _=>by
    simp only[di,vT,xT]
    lia
   rw[<-this]
   exact c2
theorem cM{qd:Nat}(hm:∀x∈st.AE,Xb t st x)(hl:st.AE.length<=20):∀{is:Gc Nat} {acc:Gc D} {o:uo D} {S:Sto},(∀i∈is,i<t.p)->acc.length+is.length<=100->S[qd]?=Fk (.lst (st.AE.map λx=>shD (Hr t st x)))->∃(ps:Gc (Nat×Nat)) (S':Sto),C8 [] (tNm 1) Ca (AJ Ds [eV 0,eV 1]) (Lz is) acc [Fk (.ref qd),o] S=Fk (acc++ps.map λz=>D.ref z.2,S')/\ps.map (·.1)=is/\(∀z∈ps,S'[z.2]?=Fk (.lst (NJ t st z.1))/\S.length<=z.2)/\DQ [] S S'
 | [],acc,o,S,hi,hz,hq=>⟨[],S,by
     show C8 _ _ _ _ [] _ _ _=_
     rw[GH Af];simp,rfl,λz hz=>(nomatch hz),.refl⟩
 |i::is,acc,o,S,hi,hz,hq=>by
  have tb:=P6 (S:=S) hm hl (hi i vA) hq
  obtain⟨ps,S',e,h1,h2,h3⟩:=cM hm hl (is:=is) (acc:=acc++[D.ref S.length]) (o:=Fk (.int i)) (S:=S++[.lst (NJ t st i)]) (λj hj=>hi j (uv _ hj)) (by simp at hz ⊢; lia) (by rw[uq (Ax hq)];exact hq)
  have hsz:acc.length<sizeLine:=uy (show acc.length<101 by simp at hz;lia) (AS (by decide))
  refine⟨(i,S.length)::ps,S',?_,by rw[vT,h1],?_,DQ.trans .app h3⟩
  .show C8 [] (tNm 1) Ca (AJ Ds [eV 0,eV 1]) (D.int i::Lz is) acc [Fk (.ref qd),o] S=_
   rw[Kb Af hsz (E1:=[Fk (.ref qd),Fk (.int i)]) (S1:=S) (by simp) (by simp)]
   have ev:(AJ Ds [eV 0,eV 1]) [Fk (.ref qd),Fk (.int i)] S=Fk (.ref S.length,S++[.lst (NJ t st i)]):=by simp[tb]
   rw[ev,Bt,e]
   simp
  .intro z hz'
   rcases uw.mp hz' with rfl|hz'
   .exact⟨h3.get vK (by simp),u4 _⟩
   .have:=h2 z hz'
    exact⟨this.1,uz (by simp) this.2⟩
theorem qU(hl:st.AE.length<=20):C8 [] (tTp [tNm 0,tNm 1]) Ca (eV 1) (st.AE.map hD) [] [uk,uk] S=Fk (fnZ st.AE.length (λj=>(AW st.AE j).n),S):=by
 have k0:=Cf (gs:=[]) (t:=tTp [tNm 0,tNm 1]) (f:=eV 1) (C:=[]) (m:=2) (e:=hD) (g:=λx=>D.int x.n) (S:=S) Af (xs:=st.AE) (acc:=[]) (os:=[uk,uk]) rfl (uz (show _<=50 by simp;lia) (AS (by decide))) (by
  intro x hx os ho
  obtain⟨x1,x2,rfl⟩:∃x1 x2,os=[x1,x2]:=by
   match os,ho with
   | [a,b],_=>exact⟨a,b,rfl⟩
  exact⟨[Fk (.int x.k),Fk (.int x.n)],rfl,by simp[hD],by simp⟩)
 rw[<-Z9 (λx=>D.int x.n)]at k0
 exact k0
def oy(t:Tr)(st:Stt)(is:Gc Nat):Gc D:=fnZ st.AE.length (di t st is λj=>(AW st.AE j).n)
theorem Wr{is:Gc Nat}(h:Bu t ls ds)(hh:HOk t)(hst:runs t (st0 t ls) ds=st)(hm:∀x∈st.AE,Xb t st x)(ho:gE t is):∃(qt:Nat) (ps:Gc (Nat×Nat)) (S':Sto),Em [Ae t ls ds,.tup (Lz is)] S=Fk (.tup [.ref qt,.tup (oy t st is)],S')/\S'[qt]?=Fk (.lst (ps.map λz=>D.ref z.2))/\ps.map (·.1)=is/\(∀z∈ps,S'[z.2]?=Fk (.lst (NJ t st z.1)))/\DQ [] S S'/\S.length<=qt:=by
 have r1:=FH (S:=S) h
 have r2:=kX (S:=S) (ls:=ls) (ds:=ds) ho
 obtain⟨qd,S1,e1,c1,s1,l1⟩:=J5 (S:=S) h hh
 have hlen:=h.fin.len
 rw[hst]at c1 hlen
 have hil:=ho.len
 obtain⟨ps,S2,e2,p1,p2,s2⟩:=cM hm (by lia) (is:=is) (acc:=[]) (o:=uk) (S:=S1) ho.lt (by simp;lia) c1
 have hb:=Rw (S:=S2++[Cl.lst (ps.map λz=>D.ref z.2)]) h (n:=ds.length) (u4 _)
 rw[yP,hst]at hb
 have hc:=qU (S:=S2++[Cl.lst (ps.map λz=>D.ref z.2)]) (st:=st) (by lia)
 have lq:(S2++[Cl.lst (ps.map λz=>D.ref z.2)]).length=S2.length+1:=by simp
 have g1:(S2++[Cl.lst (ps.map λz=>D.ref z.2)]++[Cl.lst (fnZ st.AE.length λj=>(AW st.AE j).n)])[S2.length+1]?=Fk (.lst (fnZ st.AE.length λj=>(AW st.AE j).n)):=by
  rw[<-lq];exact vK
 have g2:(S2++[Cl.lst (ps.map λz=>D.ref z.2)]++[Cl.lst (fnZ st.AE.length λj=>(AW st.AE j).n)])[S2.length]?=Fk (.lst (ps.map λz=>D.ref z.2)):=by
  rw[uq (by simp)];exact vK
 have g3:∀z∈ps,z.1<t.p/\(S2++[Cl.lst (ps.map λz=>D.ref z.2)]++[Cl.lst (fnZ st.AE.length λj=>(AW st.AE j).n)])[z.2]?=Fk (.lst (NJ t st z.1))/\z.2≠S2.length+1:=λz hz=>by
  have w:=(p2 z hz).1
  have lw:=Ax w
  refine⟨ho.lt _ (by rw[<-p1];exact vp.mpr ⟨z,hz,rfl⟩),?_,by lia⟩
  rw[uq (by simp;lia),uq lw]
  exact w
 obtain⟨u5,u6,u7,S3,e3,c3,s3⟩:=Pf (q:=S2.length+1) (qt:=S2.length) (LT:=ps.map λz=>D.ref z.2) (a0:=Fk (Ae t ls ds)) (a1:=Fk (.tup (Lz is))) (a2:=Fk (.ref qd)) (a3:=Fk (.ref S2.length)) hm (by lia) (ps:=ps) (v:=λj=>(AW st.AE j).n) (o5:=uk) (o6:=uk) (o7:=uk) g3 g1 g2
 rw[p1]at c3
 change _=Fk (Cl.lst (oy t st is))at c3
 refine⟨S2.length,ps,S3,?_,s3.get g2 (by simp),p1,λz hz=>s3.get (g3 z hz).2.1 (by simpa using(g3 z hz).2.2),?_,uz s1.len s2.len⟩
 .have sq:=Gm g2
  have so:∀T,sqD T (.tup (Lz is))=Fk (Lz is,[]):=λ_=>nr rfl
  have sh:∀T,sqD T (CB st.AE)=Fk (st.AE.map hD,[]):=λ_=>nr rfl
  have d3:=Bb c3
  simp only[vX]at e2
  generalize hHD:CB st.AE=HD at*
  generalize st.AE.map hD=HL at*
  generalize (ps.map λz=>D.ref z.2)=RF at*
  generalize (fnZ st.AE.length λj=>(AW st.AE j).n)=F0 at*
  generalize oy t st is=F1 at*
  generalize Lz is=OD at*
  generalize hAG:aq (λi j=>i-j) (eV 4) (eV 6) (eV 7)=AG at*
  simp only[Ae]at r1 r2 e1 hb e3⊢
  simp only[yf,vb,vX]at sq e3
  simp[Em,Me,r1,r2,e1,so,Qi,e2,hb,sh,hc,sq,hAG,e3,d3]
 .have l2:=s2.len
  have l1:=s1.len
  have l3:=s3.len
  simp at l3
  refine⟨by lia,λn hn _=>?_⟩
  rw[s3.keep n (by simp;lia) (by simp;lia),uq (by simp;lia),uq (by lia),s2.keep n (by lia) (by simp)]
  exact s1.keep n hn (by simp)
end
section
variable{E:En}{S:Sto}{f g k o:Ev}{d:D}{es:Gc (Key×D)}
@[simp] theorem oJ:evP [] E S=some ([],S):=nr rfl
@[simp] theorem nQ{r:List (Ev×Ev)}:evP ((k,f)::r) E S=(k E S).bind λa=>(lN a.1).bind λkk=>(f E a.2).bind λb=>(evP r E b.2).map λq=>((kk,b.1)::q.1,q.2):=nr rfl
@[simp] theorem nM{x:Str}:lN (.str x)=some (.inr x):=nr rfl
@[simp] theorem jF{cf:Bool}{fs:List (Ev×Ev)}:YI cf fs E S=(evP fs E S).map λr=>bY cf (RV [] r.1) r.2:=nr rfl
@[simp] theorem qg:bY false es S=(.dct es,S):=nr rfl
end
inductive Th:D->Prop
 |non:Th .non
 |bl (b:vm):Th (.bl b)
 |int (i:Int):Th (.int i)
 |str (x:Str) (h:xv x=true):Th (.str x)
 |tup {ds:Gc D} (h:∀d∈ds,Th d) (l:ds.length<=1000):Th (.tup ds)
 |lst {ds:Gc D} (h:∀d∈ds,Th d) (l:ds.length<=1000):Th (.lst ds)
 |dct (kvs:Gc (Key×D)):Th (.dct kvs)
section
variable{S:Sto}{p:Nat}
@[simp] theorem qe:kdW (.val .non)=some .non:=nr rfl
@[simp] theorem uO{b:Bool}:kdW (.val (.bl b))=some .bl:=nr rfl
@[simp] theorem rW{i:Int}:kdW (.val (.int i))=some .int:=nr rfl
@[simp] theorem rC{x:Str}:kdW (.val (.str x))=some .str:=nr rfl
@[simp] theorem rZ{ds:List D}:kdW (.val (.tup ds))=some .tup:=nr rfl
@[simp] theorem rV{ds:List D}:kdW (.val (.lst ds))=some .lst:=nr rfl
@[simp] theorem rg{ds:List (Key×D)}:kdW (.val (.dct ds))=some .dct:=nr rfl
theorem W7{n:Nat}:Am (n+1)=Ao (A5 4 (Mc (Am n))):=rfl
noncomputable def consts:Gc D:=[.non,.bl true,.bl false,.int 0,.int 1,.int (-1),.int 9,.int (10^39),.str "",.str "a",.tup [],.lst []]
theorem ZI:∀x∈consts,Th x:=by
 intro x hx
 simp only[consts,uw,vN,wF]at hx
 rcases hx with rfl|rfl|rfl|rfl|rfl|rfl|rfl|rfl|rfl|rfl|rfl|rfl
 .exact .non
 .exact .bl _
 .exact .bl _
 .exact .int _
 .exact .int _
 .exact .int _
 .exact .int _
 .exact .int _
 .exact .str _ (by decide+kernel)
 .exact .str _ (by decide+kernel)
 .exact .tup (λd hd=>by cases hd) (by decide)
 .exact .lst (λd hd=>by cases hd) (by decide)
def YC:Ev:=(GX [eC .non,eC (.bl true),eC (.bl false),eC (.int 0),eC (.int 1),eOp (o1 NZ) [eC (.int 1)],eC (.int 9),eOp (o2 gD) [eC (.int 10),eC (.int 39)],eC (.str ""),eC (.str "a"),Cw [],GX []])
theorem Zh{E:En}:YC E S=Fk (.lst consts,S):=by
 have n1:NZ (.val (.int 1))=Fk (.val (.int (-1))):=rfl
 have p1:gD (.val (.int 10)) (.val (.int 39))=Fk (.val (.int (10^39))):=by with_unfolding_all rfl
 have sz:(12:Nat)<=sizeLine:=AS (by decide)
 simp[YC,n1,p1,consts,sz]
theorem Lf:∀{n d:Nat},d<n->∀{S:Sto},Dx p S->∃X S',Am n [.ref p,.int d] S=Fk (X,S')/\Th X/\Pn p S S'
 |0,d,h,_,_=>absurd h (by lia)
 |n+1,d,h,S,hp=>by
  obtain⟨way,S1,e1,w0,w1,p1⟩:=Al hp (n:=12) (by decide) (by decide)
  rw[W7]
  have eb:Mc (Am n)=(Ad (Bs 2 (AJ AL [eV 0,eC (.int 12)]))
  (Ad (xIf (eOr (eOp (o2 wLt) [eV 2,eC (.int 8)]) (eOp (o2 wEq) [eV 1,eC (.int 0)])) (BE (eOp (o2 wIx) [YC,AJ AL [eV 0,eC (.int 12)]])) EI)
  (Ad (Bs 3 (Dp [0,1] 1 (Ts [AJ AL [eV 0,eC (.int 4)]]) (tNm 2) Ca (AJ (Am n) [eV 0,eOp (o2 Qe) [eV 1,eC (.int 1)]])))
  (Ad (xIf (eOp (o2 wEq) [eV 2,eC (.int 8)]) (BE (eV 3)) EI)
  (Ad (xIf (eOp (o2 wEq) [eV 2,eC (.int 9)]) (BE (kP [((eC (.str "a")),(eV 3))])) EI)
  (BE (eOp (o1 DA) [eV 3]))))))):=rfl
  rw[eb]
  by_cases c:way<8\/d=0
  .obtain⟨r,S2,e2,r0,r1,p2⟩:=Al p1.pen (n:=12) (by decide) (by decide)
   obtain⟨x,ax,hx⟩:=pick (xs:=consts) r0 (by simpa[consts]using r1)
   refine⟨x,S2,?_,ZI x hx,p1.trans p2⟩
   have k:=λE=>Zh (S:=S1) (E:=E)
   rcases Decidable.em (way<8)with c1|c1
   .simp[e1,c1,k,e2,ax]
   .have c2:d=0:=c.resolve_left c1
    subst c2
    simp[e1,c1,k,e2,ax]
  .have c1:¬way<8:=λz=>c (.inl z)
   have c2:¬d=0:=λz=>c (.inr z)
   obtain⟨r,S2,e2,r0,r1,p2⟩:=Al p1.pen (n:=4) (by decide) (by decide)
   obtain⟨k,rfl⟩:=Kn r0
   have rk:Ma (k:Int)=true:=GB (by lia) (by lia)
   obtain⟨ys,S3,e3,i3,l3,r3⟩:=Lh (gs:=[]) (t:=tNm 2) (f:=AJ (Am n) [eV 0,eOp (o2 Qe) [eV 1,eC (.int 1)]]) (C:=[Fk (.ref p),Fk (.int d)]) (m:=1) (I:=λT=>Pn p S2 T) (R:=λ_ y=>Th y) (λ_ _=>Af) (ds:=Mh 0 k) (acc:=[]) (os:=[uk]) (S:=S2) rfl (.refl p2.pen) (AS (by simp[Ew];lia)) (by
    intro dd hd os T ho hI
    match os,ho with
    | [a],_=>
    obtain⟨X,T',ex,hX,hP⟩:=Lf (n:=n) (d:=d-1) (by lia) hI.pen
    refine⟨[Fk dd],X,T',rfl,by simp,?_,hI.trans hP,hX⟩
    have ec:(d:Int)-1=((d-1:Nat):Int):=by lia
    simp[ec,ex])
   have th:=IC r3
   have ly:ys.length<=1000:=by rw[l3,Ew];lia
   have pn:=(p1.trans p2).trans i3
   simp only[vX,vb]at e3
   have c2':((d:Int)==0)=false:=by simpa using c2
   have tn:(k:Int).toNat=k:=by lia
   by_cases w8:way=8
   .subst w8
    refine⟨.lst ys,S3,?_,.lst th ly,pn⟩
    simp[e1,c2',e2,rk,Qi,e3,tn]
   .have w8':(way==8)=false:=by simpa using w8
    by_cases w9:way=9
    .subst w9
     refine⟨.dct (RV [] [(.inr "a",.lst ys)]),S3,?_,.dct _,pn⟩
     simp[e1,c2',e2,rk,Qi,e3,tn]
    .have w9':(way==9)=false:=by simpa using w9
     refine⟨.tup ys,S3,?_,.tup th ly,pn⟩
     simp[e1,c1,c2',e2,rk,Qi,e3,tn,w8',w9']
theorem Ol{L:Gc D}{lo hi:uo Int}{x:D}(h:x∈Le L lo hi):x∈L:=List.mem_of_mem_drop (List.mem_of_mem_take h)
theorem JH{L:Gc D}{lo hi:uo Int}:(Le L lo hi).length<=L.length:=by
 unfold Le
 simp[yr,AA0]
 lia
theorem aC{xs:Gc D}{x:D}(h:x∈XX xs):x∈xs:=by
 unfold XX at h
 obtain⟨k,_,hk⟩:=zA.mp h
 exact vL hk
theorem aB{xs:Gc D}:(XX xs).length<=xs.length:=by
 unfold XX
 refine uz (yG _ _) ?_
 rw[yh]
 exact u4 _
@[simp] theorem jz{xs:List D}:lJ (.val (.tup xs))=some (.val (.tup (XX xs))):=nr rfl
inductive Sj:Nat->D->Prop
 |int {n:Nat} {i:Int} (h:i.natAbs.log2<1920):Sj n (.int i)
 |tup {n:Nat} {ds:Gc D} (h:∀d∈ds,Sj n d) (l:ds.length<=100):Sj (n+1) (.tup ds)
theorem Sj.th:∀{n:Nat} {d:D},Sj n d->Th d
 |_,_,.int h=>.int _
 |_,_,.tup h l=>.tup (λd hd=>Sj.th (h d hd)) (by lia)
theorem Sj.lay:∀{n:Nat} {d:D},Sj n d->d.lay=true
 |_,_,.int h=>rfl
 |_,_,.tup (ds:=ds) h l=>by
  show D.Tv ds=true
  have:=TU (f:=id) (xs:=ds) λd hd=>Sj.lay (h d hd)
  simpa using this
@[simp] theorem jR{i:Int}:kj (.val (.int i))=if i.natAbs.log2<1920 then some (.val (.str (toString i)))else none:=nr rfl
@[simp] theorem mw{z:Str}:wUp (.val (.str z))=if(Txt.upper z).length<=sizeLine then some (.val (.str (Txt.upper z)))else none:=nr rfl
theorem fq{xs ys:Gc D}(hx:∀d∈xs,Th d)(hy:∀d∈ys,Th d)(l:xs.length+ys.length<=1000):Th (.tup (xs++ys)):=.tup (λd hd=>(vY.mp hd).elim (hx d) (hy d)) (by simpa using l)
theorem ZS{ds:Gc D}(h:D.Tv ds=true):VZ (.tup ds) (.tup [])=true:=by
 unfold VZ
 show(D.Tv ds && true && decide (min (D.tup ds).py.depth (D.tup []).py.depth<=60))=true
 rw[h]
 have:(D.tup []).py.depth<=60:=by decide
 rw[xZ (by lia)]
 rfl
theorem ar{ds:Gc D}:deq (.tup ds) (.tup [])=ds.isEmpty:=by
 cases ds<;>rfl
theorem qo{r:Int}(h0:0<=r)(h1:r<4):r=0\/r=1\/r=2\/r=3:=by lia
theorem bw{n:Nat}:B4 (n+1)=Ao (A5 4 (JN (B4 n))):=rfl
def spT:Ex:=(Ad (Bs 3 (AJ AL [eV 0,eC (.int 8)]))
    (Ad (xIf (Iz (eOp (o2 RD) [eV 1,eC (.ty "tuple")]) (eOp (o2 wLt) [eV 3,eC (.int 4)])) (BE (eOp (o2 wIx) [GX [eOp (o2 EA) [eV 1,eOp (Lv true false) [eV 1,eOp (o1 NZ) [eC (.int 1)]]],eOp (Lv false true) [eV 1,eOp (o1 NZ) [eC (.int 1)]],eOp (o1 Qz) [eV 1],eOp (o1 lJ) [eV 1]],eV 3])) EI)
    (Ad (xIf (Iz (eOp (o2 RD) [eV 1,eC (.ty "int")]) (eOp (o2 wLt) [eV 3,eC (.int 4)])) (BE (eOp (o2 wIx) [GX [eOp (o2 EA) [eV 1,eC (.int 1)],eOp (o2 Qe) [eV 1,eC (.int 1)],eOp (o2 wGt) [eV 1,eC (.int 0)],eOp (o1 kj) [eV 1]],eV 3])) EI)
    (Ad (xIf (Iz (eOp (o2 RD) [eV 1,eC (.ty "str")]) (eOp (o2 wLt) [eV 3,eC (.int 4)])) (BE (eOp (o2 wIx) [GX [eOp (o2 EA) [eV 1,eC (.str "a")],eOp (o1 wUp) [eV 1],eOp (Lv false true) [eV 1,eOp (o1 NZ) [eC (.int 1)]],eOp (o2 EA) [eC (.str "1"),eV 1]],eV 3])) EI)
    (BE (AJ (Am 8) [eV 0,eC (.int 2)]))))))
theorem T9{rec:Fn}:JN rec=(Ad (xIf (Iz (eOp (o2 RD) [eV 1,eC (.ty "tuple")]) (Iz (eOp (o2 wNe) [eV 1,Cw []]) (eOp (o2 wGt) [AJ AL [eV 0,eC (.int 6)],eC (.int 0)]))) (Ad (Bs 2 (AJ AL [eV 0,eOp (o1 Kw) [eV 1]])) (BE (eOp (o2 EA) [eOp (o2 EA) [eOp (Lv false true) [eV 1,eV 2],Cw [AJ rec [eV 0,eOp (o2 wIx) [eV 1,eV 2]]]],eOp (Lv true false) [eV 1,eOp (o2 EA) [eV 2,eC (.int 1)]]]))) EI) spT):=rfl
theorem LW:∀(N k:Nat) {d:D} {S:Sto},k<N->Sj k d->Dx p S->∃X S',B4 N [.ref p,d] S=Fk (X,S')/\Th X/\Pn p S S'
 |0,k,d,S,h,_,_=>absurd h (ABN _)
 |N+1,k,d,S,hk,sd,h=>by
  have rest:∀{T:Sto},Dx p T->∃X T',Am 8 [.ref p,.int 2] T=Fk (X,T')/\Th X/\Pn p T T':=λhq=>Lf (n:=8) (d:=2) (by decide) hq
  have hl:=sd.lay
  have s4:(4:Nat)<=sizeLine:=AS (by decide)
  have n1:NZ (.val (.int 1))=Fk (.val (.int (-1))):=rfl
  rw[bw]
  cases sd with
  | @int _ i hi=>
    obtain⟨r1,S1,e1,a1,b1,p1⟩:=Al h (n:=8) (by decide) (by decide)
    by_cases c:r1<4
    .have lg:=hi
     have q:(atI [D.int (i+1),.int (i-1),.bl (decide (0<i)),.str (toString i)] r1).map (λx=>(x,S1))=Ao (A5 4 (JN (B4 N))) [.ref p,.int i] S:=by
      simp[T9,spT,St.Kd.isA,e1,c,lg,s4]
      generalize atI _ r1=o
      cases o<;>rfl
     rcases qo a1 c with rfl|rfl|rfl|rfl
     .exact⟨.int (i+1),S1,q.symm,.int _,p1⟩
     .exact⟨.int (i-1),S1,q.symm,.int _,p1⟩
     .exact⟨.bl (decide (0<i)),S1,q.symm,.bl _,p1⟩
     .exact⟨.str (toString i),S1,q.symm,.str _ Oj,p1⟩
    .obtain⟨w,q',ew,tw,pw⟩:=rest p1.pen
     exact⟨w,q',by simp[T9,spT,St.Kd.isA,e1,c,ew],tw,p1.trans pw⟩
  | @tup k' xs hx lx=>
    have tx:∀d∈xs,Th d:=λd hd=>(hx d hd).th
    have ways:∀{T:Sto},Dx p T->∃X T' r,AL [.ref p,.int 8] T=Fk (.int r,T')/\Pn p T T'/\Th X/\((r<4/\atI [D.tup (xs++Le xs (Fk (-1)) uk),.tup (Le xs uk (Fk (-1))),.lst xs,.tup (XX xs)] r=Fk X)\/(¬r<4/\∃T'',Am 8 [.ref p,.int 2] T'=Fk (X,T'')/\Pn p T' T'')):=by
     intro T hq
     obtain⟨r1,d1,e1,a1,b1,p1⟩:=Al hq (n:=8) (by decide) (by decide)
     by_cases c:r1<4
     .rcases qo a1 c with rfl|rfl|rfl|rfl
      .exact⟨_,d1,0,e1,p1,fq tx (λd hd=>tx d (Ol hd)) (by have:=JH (L:=xs) (lo:=Fk (-1)) (hi:=uk);lia),.inl ⟨by decide,rfl⟩⟩
      .exact⟨_,d1,1,e1,p1,.tup (λd hd=>tx d (Ol hd)) (by have:=JH (L:=xs) (lo:=uk) (hi:=Fk (-1));lia),.inl ⟨by decide,rfl⟩⟩
      .exact⟨_,d1,2,e1,p1,.lst tx (by lia),.inl ⟨by decide,rfl⟩⟩
      .exact⟨_,d1,3,e1,p1,.tup (λd hd=>tx d (aC hd)) (by have:=aB (xs:=xs);lia),.inl ⟨by decide,rfl⟩⟩
     .obtain⟨w,q',ew,tw,pw⟩:=rest p1.pen
      exact⟨w,d1,r1,e1,p1,tw,.inr ⟨c,q',ew,pw⟩⟩
    have z1:xs.length+(Le xs (Fk (-1)) uk).length<=sizeLine:=AS (by have:=JH (L:=xs) (lo:=Fk (-1)) (hi:=uk);lia)
    have hlay:D.Tv xs=true:=hl
    have eo:=ZS hlay
    have en:=ar (ds:=xs)
    have tl:∀{T:Sto},Dx p T->∃X T',(spT [Fk (.ref p),Fk (.tup xs),uk,uk] T).map (λr=>(flD r.1,r.2.2))=Fk (X,T')/\Th X/\Pn p T T':=by
     intro T hq
     obtain⟨X,T',r,e1,p1,tw,alt⟩:=ways hq
     rcases alt with⟨c,ed⟩|⟨c,q'',ew,pw⟩
     .exact⟨X,T',by simp[spT,St.Kd.isA,e1,c,z1,ed,s4,n1],tw,p1⟩
     .exact⟨X,q'',by simp[spT,St.Kd.isA,e1,c,ew],tw,p1.trans pw⟩
    by_cases hemp:xs.isEmpty=true
    .obtain⟨X,T',e1,tw,p1⟩:=tl h
     exact⟨X,T',by simp[T9,St.Kd.isA,eo,en,hemp,e1],tw,p1⟩
    .have hemp:xs.isEmpty=false:=by simpa using hemp
     have hpos:0<xs.length:=by
      cases xs with
      |nil=>cases hemp
      |cons a b=>simp
     obtain⟨r0,S0,e0,a0,b0,p0⟩:=Al h (n:=6) (by decide) (by decide)
     by_cases c0:0<r0
     .obtain⟨r1,S1,e1,a1,b1,p1⟩:=Al p0.pen (n:=(xs.length:Int)) (by lia) (by lia)
      obtain⟨y,ey,hy⟩:=pick (xs:=xs) (r:=r1) a1 b1
      obtain⟨X,S2,ew,tw,pw⟩:=LW N k' (by lia) (hx y hy) p1.pen
      have z2:(Le xs uk (Fk r1)).length+1<=sizeLine:=AS (by have:=JH (L:=xs) (lo:=uk) (hi:=Fk r1);lia)
      have z3:(Le xs uk (Fk r1)).length+1+(Le xs (Fk (r1+1)) uk).length<=sizeLine:=AS (by have:=JH (L:=xs) (lo:=uk) (hi:=Fk r1);have:=JH (L:=xs) (lo:=Fk (r1+1)) (hi:=uk);lia)
      have s1:(1:Nat)<=sizeLine:=AS (by decide)
      refine⟨.tup (Le xs uk (Fk r1)++X::Le xs (Fk (r1+1)) uk),S2,by simp[T9,St.Kd.isA,eo,en,hemp,e0,c0,e1,ey,ew,z2,z3,s1],?_,(p0.trans p1).trans pw⟩
      refine .tup (λd hd=>?_) (by
       have:=JH (L:=xs) (lo:=uk) (hi:=Fk r1)
       have:=JH (L:=xs) (lo:=Fk (r1+1)) (hi:=uk)
       rw[wM,wC]
       lia)
      rcases vY.mp hd with hd|hd
      .exact tx d (Ol hd)
      .rcases uw.mp hd with rfl|hd
       .exact tw
       .exact tx d (Ol hd)
     .obtain⟨X,T',e1,tw,p1⟩:=tl p0.pen
      exact⟨X,T',by simp[T9,St.Kd.isA,eo,en,hemp,e0,c0,e1],tw,p0.trans p1⟩
theorem RK (h : Dx p S) {n : Nat} (hn : n ≤ 6) : ∃ (ws : Gc Int) (S' : Sto), Eg [.ref p, .int n] S = Fk (.tup (ws.map .int), S') /\ Pn p S S' /\ ws.length = n /\ ∀ w ∈ ws, 1 ≤ w /\ w ≤ 99 := by
  obtain ⟨ys, S', e, hI, l, r⟩ := Lh (gs := []) (t := tNm 1) (f := (eOp (o2 EA) [(eC (.int 1)), (eOp (o2 wIx) [(GX [(AJ AL [(eV 0), (eC (.int 4))]), (AJ AL [(eV 0), (eC (.int 99))])]), (AJ AL [(eV 0), (eC (.int 2))])])])) (C := [Fk (.ref p)]) (m := 1) (I := Pn p S) (R := fun _ y => ∃ i : Int, y = .int i /\ 1 ≤ i /\ i ≤ 99)
    (fun _ _ => Af) (ds := Mh 0 n) (acc := []) (os := [uk]) rfl (Pn.refl h) (by rw [Ew]; simp; exact AS (by lia)) fun d _ os S0 ho I0 => by
      obtain ⟨o, rfl⟩ : ∃ o, os = [o] := by
        match os, ho with
        | [o], _ => exact ⟨o, rfl⟩
      obtain ⟨r1, S1, e1, a1, b1, p1⟩ := Al I0.pen (n := 4) (by decide) (by decide)
      obtain ⟨r2, S2, e2, a2, b2, p2⟩ := Al p1.pen (n := 99) (by decide) (by decide)
      obtain ⟨r3, S3, e3, a3, b3, p3⟩ := Al p2.pen (n := 2) (by decide) (by decide)
      obtain ⟨x, ex, hx⟩ := pick (xs := [.int r1, .int r2]) (r := r3) a3 (by simpa using b3)
      simp only [uw, vN, wF] at hx
      rcases hx with rfl | rfl
      · exact ⟨[Fk d], .int (1 + r1), S3, rfl, by simp, by simp [e1, e2, e3, ex], ((I0.trans p1).trans p2).trans p3, _, rfl, by lia, by lia⟩
      · exact ⟨[Fk d], .int (1 + r2), S3, rfl, by simp, by simp [e1, e2, e3, ex], ((I0.trans p1).trans p2).trans p3, _, rfl, by lia, by lia⟩
  obtain ⟨ns, rfl, hns⟩ := Nl (IC r)
  have r1 : Ma (n : Int) = true := GB (by lia) (by lia)
  have e' : C8 [] (tNm 1) Ca (eOp (o2 EA) [(eC (.int 1)), (eOp (o2 wIx) [(GX [(AJ AL [(eV 0), (eC (.int 4))]), (AJ AL [(eV 0), (eC (.int 99))])]), (AJ AL [(eV 0), (eC (.int 2))])])]) (Mh 0 n) [] [Fk (.ref p), uk] S = Fk (ns.map D.int, S') := by simpa using e
  exact ⟨ns, S', by simp [Eg, ON, r1, e'], hI, by simpa [Ew] using l, hns⟩
end
theorem TH{x:Str}{KI:Gc Nat}{F:Ev}{R:Rx}{c0:D}{h:Str->Ex}{E:En}{S S':Sto}{d:D}(hT:S.any (Qt x)=true)(e:F (VB KI E) S=Fk (d,S')):WV x KI F R c0 h E S=Fk (c0,S'):=by
 unfold WV
 rw[va hT,e]
theorem MW{x:Str}{KI:Gc Nat}{F:Ev}{R:Rx}{c0 d:D}{h:Str->Ex}{E E' E2:En}{S S1 S2:Sto}{y:Str}(hT:S.any (Qt x)=true)(e:F (VB KI E) S=uk)(e1:R (VB KI E) S=Fk (y,E',S1))(e2:h y [uk] S1=Fk (.ret d,E2,S2)):WV x KI F R c0 h E S=Fk (d,S2):=by
 unfold WV
 rw[va hT,e]
 dsimp only
 rw[e1]
 show((h y [uk] S1).bind λz=>match z.1 with| .ret d=>Fk (d,z.2.2)| .nx=>uk)=_
 rw[e2]
 rfl
section
variable{S:Sto}
theorem call2{F:Fn}{a b:D}:AJ F [eV 0,eV 1] [Fk a,Fk b] S=F [a,b] S:=by simp
theorem tab_of{x:Str}{n:Nat}(h:S[n]?=Fk (Cl.tab x)):S.any (Qt x)=true:=zm.mpr ⟨_,vL h,by unfold Qt;simp⟩
theorem tab_keep{x:Str}{S':Sto}(h:S.any (Qt x)=true)(g:DQ [] S S'):S'.any (Qt x)=true:=by
 obtain⟨n,e⟩:=Vg h
 exact tab_of (g.get e (by simp))
end
section
variable{E:En}{S:Sto}{r r1 r2:Rx}{f:Ex}{k:Ev}{R:Rf}{fs:Gc Ev}{x:Str}
noncomputable def nxR(r2:Rx)(q:Fl×En×Sto):uo (Str×En×Sto):=match q.1 with
 | .nx=>r2 q.2.1 q.2.2
 | .ret _=>uk
@[simp] theorem qf:nxR r2 (.nx,E,S)=r2 E S:=nr rfl
@[simp] theorem mM:U8 r f r2 E S=(r E S).or ((f E S).bind (nxR r2)):=by
  unfold U8
  cases r E S with
  |some z=>exact nr rfl
  |none=>exact nr rfl
@[simp] theorem oQ:rNo E S=none:=nr rfl
noncomputable def ifR(r1 r2:Rx)(E:En)(q:D×Sto):uo (Str×En×Sto):=match q.1 with
 | .bl true=>r1 E q.2
 | .bl false=>r2 E q.2
 |_=>uk
@[simp] theorem sP:ifR r1 r2 E (.bl true,S)=r1 E S:=nr rfl
@[simp] theorem tQ:ifR r1 r2 E (.bl false,S)=r2 E S:=nr rfl
@[simp] theorem oB:rIf k r1 r2 E S=(k E S).bind (ifR r1 r2 E):=nr rfl
@[simp] theorem iz:Hv R fs E S=(evs fs E S).bind λq=>(R q.1 q.2).map λz=>(z.1,E,z.2):=nr rfl
@[simp] theorem iC:P1 x fs E S=(evs fs E S).map λq=>(x,E,q.2):=nr rfl
theorem VJ{N:Nat}{ds:Gc D}:Ao (P9 N r) ds S=(r (ds.map Fk++vC (N-ds.length) uk) S).map λq=>(q.1,q.2.2):=by
 rw[Pm];rfl
@[simp] theorem iD:MA E S=none:=nr rfl
end
section
variable{S:Sto}{d:D}
theorem jJ{oa ob oc:Ev}{E:En}{i j:Int}{S1:Sto}(e1:evs [oa,ob] E S=Fk ([.int i,.int j],S1))(h:¬i<=j):Vq oa ob oc E S=Fk (.bl false,S1):=by
 unfold Vq
 rw[e1]
 simp[h]
theorem lB{oa ob oc:Ev}{E:En}{i j k:Int}{S1 S2:Sto}(e1:evs [oa,ob] E S=Fk ([.int i,.int j],S1))(h:i<=j)(e2:oc E S1=Fk (.int k,S2)):Vq oa ob oc E S=Fk (.bl (decide (j<k)),S2):=by
 unfold Vq
 rw[e1]
 simp[h,e2]
noncomputable def inW(lo hi:Int):D->vm
 | .int i=>decide (lo<=i) && decide (i<=hi)
 |_=>false
noncomputable def thI:D->vm
 | .int _=>true
 |_=>false
noncomputable def thF(lo:Int):D->vm
 | .int i=>decide (lo<=i)
 |_=>false
theorem Z6(h:Th d):Dv [d] S=Fk ((.bl (thI d)),S):=by
 cases h<;>simp[Dv,F2,St.Kd.isA,thI]
theorem gA(h:Th d)(lo:Int):Ek [d,.int lo] S=Fk ((.bl (thF lo d)),S):=by
 have w:=Z6 (S:=S) h
 cases h<;>simp[Ek,Gx,w,thI,thF]
theorem LO(h:Th d)(lo hi:Int):BN [d,.int lo,.int hi] S=Fk ((.bl (inW lo hi d)),S):=by
 have w:=gA (S:=S) h lo
 cases h with
 |int i=>by_cases c:lo<=i<;>simp[BN,D1,w,thF,inW,c]
 |_=>simp[BN,D1,w,thF,inW]
theorem Wg(h:Th d)(n:Int):Bm [d,.int n] S=Fk ((.bl (inW 0 (n-1) d)),S):=by
 cases h with
 |int i=>
  by_cases c:0<=i
  .have e:=lB (S:=S) (oa:=eI 0) (ob:=eV 0) (oc:=eV 1) (E:=[Fk (.int i),Fk (.int n)]) (i:=0) (j:=i) (k:=n) (S1:=S) (S2:=S) (by simp) c (by simp)
   have z:decide (i<n)=decide (i<=n-1):=by rw[decide_eq_decide];lia
   rw[z]at e
   simp[Bm,KH,St.Kd.isA,e,inW,c]
  .have e:=jJ (S:=S) (oa:=eI 0) (ob:=eV 0) (oc:=eV 1) (E:=[Fk (.int i),Fk (.int n)]) (i:=0) (j:=i) (S1:=S) (by simp) c
   simp[Bm,KH,St.Kd.isA,e,inW,c]
 |_=>simp[Bm,KH,St.Kd.isA,inW]
noncomputable def Qj(k:Int):D->vm
 | .tup ds=>decide ((ds.length:Int)=k) && ds.all (inW 1 99)
 |_=>false
theorem Tw(h:Th d)(k:Int):Cj [d,.int k] S=Fk (.bl (Qj k d),S):=by
 cases h with
 | @tup ds hd hl=>
   have c:=Cf (gs:=[]) (t:=tNm 0) (f:=AJ BN [eV 0,eI 1,eI 99]) (C:=[]) (m:=1) (e:=id) (g:=λd=>D.bl (inW 1 99 d)) (S:=S) Af (xs:=ds) (acc:=[]) (os:=[uk]) rfl (uz (show _<=1000 by simpa using hl) (AS (by decide))) (by
    intro x hx os ho
    obtain⟨q1,rfl⟩:=U7 ho
    have w:=LO (S:=S) (hd x hx) 1 99
    exact⟨[Fk x],rfl,by simp,by simp[w]⟩)
   have al:bls (ds.map λd=>D.bl (inW 1 99 d))=Fk (ds.map (inW 1 99)):=MM (inW 1 99) ds
   have aa:(ds.map (inW 1 99)).all id=ds.all (inW 1 99):=by simp[yu]
   simp only[ABp,vX]at c
   generalize (ds.map λd=>D.bl (inW 1 99 d))=BL at*
   have sq:sqD S (.tup ds)=Fk (ds,[]):=nr rfl
   by_cases e:(ds.length:Int)=k
   .simp[Cj,FN,DZ,EY,St.Kd.isA,sq,Qi,c,al,aa,Qj,e]
   .have e':((ds.length:Int)==k)=false:=by simpa using e
    simp[Cj,FN,DZ,EY,St.Kd.isA,Qj,e,e']
 |_=>simp[Cj,FN,DZ,EY,St.Kd.isA,Qj]
theorem ZV(h:Th d)(k:Int):Bh [d,.int k] S=Fk (.bl (Qj k d),S):=by
 cases h with
 | @tup ds hd hl=>
   have c:=Cf (gs:=[]) (t:=tNm 0) (f:=Iz (AJ Bm [eV 0,eI 100]) (eOp (o2 wGt) [eV 0,eI 0])) (C:=[]) (m:=1) (e:=id) (g:=λd=>D.bl (inW 1 99 d)) (S:=S) Af (xs:=ds) (acc:=[]) (os:=[uk]) rfl (uz (show _<=1000 by simpa using hl) (AS (by decide))) (by
    intro x hx os ho
    obtain⟨q1,rfl⟩:=U7 ho
    have w:=Wg (S:=S) (hd x hx) 100
    refine⟨[Fk x],rfl,by simp,?_⟩
    cases hd x hx with
    |int i=>
     by_cases c1:0<=i
     .by_cases c2:i<=99
      .have e1:decide (0<i)=(decide (1<=i) && decide (i<=99)):=by simp[c2];lia
       simp[w,inW,c1,c2,<-e1]
       lia
      .simp[w,inW,c1,c2]
     .have c3:¬1<=i:=by lia
      simp[w,inW,c1,c3]
    |_=>simp[w,inW])
   have al:bls (ds.map λd=>D.bl (inW 1 99 d))=Fk (ds.map (inW 1 99)):=MM (inW 1 99) ds
   have aa:(ds.map (inW 1 99)).all id=ds.all (inW 1 99):=by simp[yu]
   simp only[ABp,vX]at c
   generalize (ds.map λd=>D.bl (inW 1 99 d))=BL at*
   have sq:sqD S (.tup ds)=Fk (ds,[]):=nr rfl
   by_cases e:(ds.length:Int)=k
   .simp[Bh,FT,St.Kd.isA,sq,Qi,c,al,aa,Qj,e]
   .have e':((ds.length:Int)==k)=false:=by simpa using e
    simp[Bh,FT,St.Kd.isA,Qj,e,e']
 |_=>simp[Bh,FT,St.Kd.isA,Qj]
end
section
variable{S:Sto}{t:Tr}{ls:Gc Ld}{ds:Gc Ai}{X:D}
theorem ZW(h:Qj t.k X=true):∃ws:Gc Int,X=.tup (ws.map D.int)/\Pri t ws:=by
 cases X with
 |tup L=>
  simp only[Qj,vE,xN,zl]at h
  obtain⟨ns,e,hn⟩:=Nl (ys:=L) (P:=λi=>1<=i/\i<=99) λd hd=>by
   have:=h.2 d hd
   cases d with
   |int i=>simp only[inW,vE,xN]at this;exact⟨i,rfl,this⟩
   |_=>cases this
  subst e
  exact⟨ns,rfl,by have:=h.1;rw[vW]at this;exact_mod_cast this,hn⟩
 |_=>cases h
theorem jQ(h:Th X)(w:inW 0 (t.p-1) X=true):Ac [Ae t ls ds,X] S=Fk (.non,S)/\BF [Ae t ls ds,X] S=none:=by
 have e:=LO (S:=S) h 0 (t.p-1)
 rw[w]at e
 constructor
 .simp[Ac,C5,A3,Ck,Ae,Tr.d,e]
 .simp[BF,Eb,VJ,A3,Ck,Ae,Tr.d,e]
theorem fY(h:Th X)(w:inW 0 (t.p-1) X=false):Ac [Ae t ls ds,X] S=uk/\BF [Ae t ls ds,X] S=Fk (("NoPartner":Str),S):=by
 have e:=LO (S:=S) h 0 (t.p-1)
 rw[w]at e
 constructor
 .simp[Ac,C5,A3,Ck,Ae,Tr.d,e]
 .simp[BF,Eb,VJ,A3,Ck,Ae,Tr.d,e]
theorem tZ(hb:Bu t ls ds)(h:Th X)(w:inW 0 ((runs t (st0 t ls) ds).AE.length-1) X=false):Bz [Ae t ls ds,X] S=uk/\EG [Ae t ls ds,X] S=Fk (("NoLoad":Str),S):=by
 have e:=LO (S:=S) h 0 ((runs t (st0 t ls) ds).AE.length-1)
 rw[w]at e
 have m:=Xs (S:=S) hb
 generalize ((runs t (st0 t ls) ds).AE.length:Int)=L at*
 simp only[Ae]at m⊢
 constructor
 .simp[Bz,F8,m,e]
 .simp[EG,JB,VJ,m,e]
theorem pC(h:Th X)(w:Qj t.k X=true):Aq [Ae t ls ds,X] S=Fk (.non,S)/\Bc [Ae t ls ds,X] S=none:=by
 have e:=Tw (S:=S) h t.k
 rw[w]at e
 constructor
 .simp[Aq,DV,Ae,Tr.d,e]
 .simp[Bc,E9,VJ,Ae,Tr.d,e]
theorem jg(h:Th X)(w:Qj t.k X=false):Aq [Ae t ls ds,X] S=uk/\Bc [Ae t ls ds,X] S=Fk (("NoPrices":Str),S):=by
 have e:=Tw (S:=S) h t.k
 rw[w]at e
 constructor
 .simp[Aq,DV,Ae,Tr.d,e]
 .simp[Bc,E9,VJ,Ae,Tr.d,e]
end
noncomputable def hdW:Str->Ex:=gOr ["NoPartner","NoLoad","NoPrices","NoOrder"] "NoPartner" (BE (eC (.str "partner"))) (gOr ["NoPartner","NoLoad","NoPrices","NoOrder"] "NoLoad" (BE (eC (.str "load"))) (gOr ["NoPartner","NoLoad","NoPrices","NoOrder"] "NoPrices" (BE (eC (.str "prices"))) (gOr ["NoPartner","NoLoad","NoPrices","NoOrder"] "NoOrder" (BE (eC (.str "order"))) gNo)))
section
variable{S:Sto}
theorem bz{xs:Gc Str}{y:Str}{f:Ex}{g:Str->Ex}{E:En}(h:y∈xs):gOr xs y f g y E S=f E S:=by
 unfold gOr
 rw[va h,va (by simp)]
theorem XI{xs:Gc Str}{x y:Str}{f:Ex}{g:Str->Ex}{E:En}(h:x∈xs)(e:(x==y)=false):gOr xs y f g x E S=g x E S:=by
 unfold gOr
 rw[va h,e]
 rfl
theorem Y7:hdW "NoPartner" [uk] S=Fk (.ret (.str "partner"),[uk],S):=by
 unfold hdW
 rw[bz (by simp)]
 simp
theorem ni:hdW "NoLoad" [uk] S=Fk (.ret (.str "load"),[uk],S):=by
 unfold hdW
 rw[XI (by simp) (by decide+kernel),bz (by simp)]
 simp
theorem cu:hdW "NoPrices" [uk] S=Fk (.ret (.str "prices"),[uk],S):=by
 unfold hdW
 rw[XI (by simp) (by decide+kernel),XI (by simp) (by decide+kernel),bz (by simp)]
 simp
theorem jy:hdW "NoOrder" [uk] S=Fk (.ret (.str "order"),[uk],S):=by
 unfold hdW
 rw[XI (by simp) (by decide+kernel),XI (by simp) (by decide+kernel),XI (by simp) (by decide+kernel),bz (by simp)]
 simp
end
section
variable{S:Sto}{t:Tr}{ls:Gc Ld}{ds:Gc Ai}{P L A B:D}{e0 e1 e2 e3 e4 e5 e6 e7 e8:uo D}
noncomputable def inP(t:Tr)(P:D):vm:=inW 0 (t.p-1) P
def kO(t:Tr)(ls:Gc Ld)(ds:Gc Ai)(L:D):vm:=inW 0 ((runs t (st0 t ls) ds).AE.length-1) L
theorem c8{lo hi:Int}{X:D}(h:inW lo hi X=true):∃i:Int,X=.int i/\lo<=i/\i<=hi:=by
 cases X with
 |int i=>simp only[inW,vE,xN]at h;exact⟨i,rfl,h⟩
 |_=>cases h
theorem Sv{n:Nat}{X:D}(h:inW 0 ((n:Int)-1) X=true):∃i:Nat,X=.int i/\i<n:=by
 obtain⟨i,rfl,h0,h1⟩:=c8 h
 obtain⟨k,rfl⟩:=Int.eq_ofNat_of_zero_le h0
 exact⟨k,rfl,by lia⟩
abbrev dS(S:Sto):Prop:=S.any (Qt "_law_partner_right")=true
def la1:Ev:=WV "_law_partner_right" [0,1] (AJ Dt [eV 0,eV 1]) (Hv HW [eV 0,eV 1]) (.str "none") hdW
def la2:Ev:=WV "_law_partner_right" [0,1,2] (AJ EB [eV 0,eV 1,eV 2]) (Hv G4 [eV 0,eV 1,eV 2]) (.str "none") hdW
def la3:Ev:=WV "_law_partner_right" [0,1,3,4] (AJ BX [eV 0,eV 1,eV 2,eV 3]) (Hv CK [eV 0,eV 1,eV 2,eV 3]) (.str "none") hdW
theorem kr(hT:dS S)(h:Bu t ls ds)(hh:Yn t)(hP:Th P):∃S',la1 [Fk (Ae t ls ds),Fk P,e2,e3,e4,e5,e6,e7,e8] S=Fk (.str (if inP t P=true then "none" else "partner"),S')/\DQ [] S S':=by
 cases w:inP t P with
 |true=>
  obtain⟨i,rfl,hi⟩:=Sv w
  obtain⟨q,S',e,_,s,_⟩:=VL (S:=S) h hh rfl (YO h hh) hi
  refine⟨S',?_,s⟩
  rw[va rfl]
  exact TH hT (show AJ Dt _ [Fk (Ae t ls ds),Fk (.int i)] S=_ from call2.trans e)
 |false=>
  obtain⟨n1,n2⟩:=fY (S:=S) (ls:=ls) (ds:=ds) hP w
  have r1:=FH (S:=S) h
  refine⟨S,?_,.refl⟩
  rw[vf (by simp)]
  generalize Ae t ls ds=bk at*
  refine MW (y:="NoPartner") hT (show AJ Dt _ [Fk bk,Fk P] S=_ from ?_) (show Hv HW _ [Fk bk,Fk P] S=Fk (_,[Fk bk,Fk P],S)from ?_) Y7
  .simp[Dt,LP,r1,n1]
  .simp[HW,OG,VJ,r1,n2]
theorem jG(hT:dS S)(h:Bu t ls ds)(hh:Yn t)(hP:Th P)(hL:Th L):∃S',la2 [Fk (Ae t ls ds),Fk P,Fk L,e3,e4,e5,e6,e7,e8] S=Fk (.str (if inP t P=true then(if kO t ls ds L=true then "none" else "load")else "partner"),S')/\DQ [] S S':=by
 cases w:inP t P with
 |true=>
  rw[va rfl]
  cases w2:kO t ls ds L with
  |true=>
   obtain⟨i,rfl,hi⟩:=Sv w
   obtain⟨j,rfl,hj⟩:=Sv w2
   obtain⟨S',e,s⟩:=X9 (S:=S) h hh hi hj
   refine⟨S',?_,s⟩
   rw[va rfl]
   generalize Ae t ls ds=bk at*
   exact TH hT (show AJ EB _ [Fk bk,Fk (.int i),Fk (.int j)] S=_ by simp[e];rfl)
  |false=>
   obtain⟨m1,m2⟩:=jQ (S:=S) (ls:=ls) (ds:=ds) hP w
   obtain⟨n1,n2⟩:=tZ (S:=S) h hL w2
   have r1:=FH (S:=S) h
   refine⟨S,?_,.refl⟩
   rw[vf (by simp)]
   generalize Ae t ls ds=bk at*
   refine MW (y:="NoLoad") hT (show AJ EB _ [Fk bk,Fk P,Fk L] S=_ from ?_) (show Hv G4 _ [Fk bk,Fk P,Fk L] S=Fk (_,[Fk bk,Fk P,Fk L],S)from ?_) ni
   .simp[EB,Lb,r1,m1,n1]
   .simp[G4,NW,VJ,r1,m1,m2,n2]
 |false=>
  obtain⟨n1,n2⟩:=fY (S:=S) (ls:=ls) (ds:=ds) hP w
  have r1:=FH (S:=S) h
  refine⟨S,?_,.refl⟩
  rw[vf (by simp)]
  generalize Ae t ls ds=bk at*
  refine MW (y:="NoPartner") hT (show AJ EB _ [Fk bk,Fk P,Fk L] S=_ from ?_) (show Hv G4 _ [Fk bk,Fk P,Fk L] S=Fk (_,[Fk bk,Fk P,Fk L],S)from ?_) Y7
  .simp[EB,Lb,r1,n1]
  .simp[G4,NW,VJ,r1,n2]
theorem kg(hT:dS S)(h:Bu t ls ds)(hh:Yn t)(hP:Th P)(hA:Th A)(hB:Th B):∃S',la3 [Fk (Ae t ls ds),Fk P,e2,Fk A,Fk B,e5,e6,e7,e8] S=Fk (.str (if inP t P=true then(if(Qj t.k A && Qj t.k B)=true then "none" else "prices")else "partner"),S')/\DQ [] S S':=by
 cases w:inP t P with
 |true=>
  rw[va rfl]
  obtain⟨m1,m2⟩:=jQ (S:=S) (ls:=ls) (ds:=ds) hP w
  have r1:=FH (S:=S) h
  cases wa:Qj t.k A with
  |true=>
   cases wb:Qj t.k B with
   |true=>
    obtain⟨i,rfl,hi⟩:=Sv w
    obtain⟨ws,rfl,hw⟩:=ZW wa
    obtain⟨vs,rfl,hv⟩:=ZW wb
    obtain⟨S',e,s⟩:=W5 (S:=S) h hh hw hv hi
    refine⟨S',?_,s⟩
    rw[va (show(true && true)=true from rfl)]
    generalize Ae t ls ds=bk at*
    generalize ws.map D.int=WS at*
    generalize vs.map D.int=VS at*
    exact TH hT (show AJ BX _ [Fk bk,Fk (.int i),Fk (.tup WS),Fk (.tup VS)] S=_ by simp[e];rfl)
   |false=>
    obtain⟨a1,a2⟩:=pC (S:=S) (ls:=ls) (ds:=ds) hA wa
    obtain⟨b1,b2⟩:=jg (S:=S) (ls:=ls) (ds:=ds) hB wb
    refine⟨S,?_,.refl⟩
    rw[vf (by simp)]
    generalize Ae t ls ds=bk at*
    refine MW (y:="NoPrices") hT (show AJ BX _ [Fk bk,Fk P,Fk A,Fk B] S=_ from ?_) (show Hv CK _ [Fk bk,Fk P,Fk A,Fk B] S=Fk (_,[Fk bk,Fk P,Fk A,Fk B],S)from ?_) cu
    .simp[BX,FL,r1,m1,a1,b1]
    .simp[CK,G8,VJ,r1,m1,m2,a1,a2,b2]
  |false=>
   obtain⟨a1,a2⟩:=jg (S:=S) (ls:=ls) (ds:=ds) hA wa
   refine⟨S,?_,.refl⟩
   rw[vf (by simp)]
   generalize Ae t ls ds=bk at*
   refine MW (y:="NoPrices") hT (show AJ BX _ [Fk bk,Fk P,Fk A,Fk B] S=_ from ?_) (show Hv CK _ [Fk bk,Fk P,Fk A,Fk B] S=Fk (_,[Fk bk,Fk P,Fk A,Fk B],S)from ?_) cu
   .simp[BX,FL,r1,m1,a1]
   .simp[CK,G8,VJ,r1,m1,m2,a2]
 |false=>
  obtain⟨n1,n2⟩:=fY (S:=S) (ls:=ls) (ds:=ds) hP w
  have r1:=FH (S:=S) h
  refine⟨S,?_,.refl⟩
  rw[vf (by simp)]
  generalize Ae t ls ds=bk at*
  refine MW (y:="NoPartner") hT (show AJ BX _ [Fk bk,Fk P,Fk A,Fk B] S=_ from ?_) (show Hv CK _ [Fk bk,Fk P,Fk A,Fk B] S=Fk (_,[Fk bk,Fk P,Fk A,Fk B],S)from ?_) Y7
  .simp[BX,FL,r1,n1]
  .simp[CK,G8,VJ,r1,n2]
end
section
variable{S:Sto}{t:Tr}{ls:Gc Ld}{ds:Gc Ai}{P L A B:D}
theorem QR(hT:dS S)(h:Bu t ls ds)(hh:Yn t)(hP:Th P)(hL:Th L)(hA:Th A)(hB:Th B):∃S',BI [Ae t ls ds,P,L,A,B] S=Fk (.bl true,S')/\DQ [] S S':=by
 have i1:=Wg (S:=S) hP t.p
 have i1':Bm [P,.int t.p] S=Fk (.bl (inP t P),S):=i1
 obtain⟨S1,l1,s1⟩:=kr (S:=S) (e2:=Fk L) (e3:=Fk A) (e4:=Fk B) (e5:=Fk (.str (if inP t P=true then "none" else "partner"))) (e6:=uk) (e7:=uk) (e8:=uk) hT h hh hP
 obtain⟨q,S2,SL,st1,st2,st3,s2⟩:=Ws (S:=S1) h
 have hT2:dS S2:=tab_keep (tab_keep hT s1) s2
 have i2:=Wg (S:=S2) hL (runs t (st0 t ls) ds).AE.length
 have i2':Bm [L,.int (runs t (st0 t ls) ds).AE.length] S2=Fk (.bl (kO t ls ds L),S2):=i2
 obtain⟨S3,l2,s3⟩:=jG (S:=S2) (e3:=Fk A) (e4:=Fk B) (e5:=Fk (.str (if inP t P=true then "none" else "partner"))) (e6:=Fk (.int (runs t (st0 t ls) ds).AE.length)) (e7:=Fk (.str (if inP t P=true then(if kO t ls ds L=true then "none" else "load")else "partner"))) (e8:=uk) hT2 h hh hP hL
 have i3:=ZV (S:=S3) hA t.k
 have i4:=ZV (S:=S3) hB t.k
 obtain⟨S4,l3,s4⟩:=kg (S:=S3) (e2:=Fk L) (e5:=Fk (.str (if inP t P=true then "none" else "partner"))) (e6:=Fk (.int (runs t (st0 t ls) ds).AE.length)) (e7:=Fk (.str (if inP t P=true then(if(Qj t.k A && Qj t.k B)=true then "none" else "prices")else "partner"))) (e8:=Fk (.bl (Qj t.k A && Qj t.k B))) (tab_keep hT2 s3) h hh hP hA hB
 refine⟨S4,?_,((s1.trans s2).trans s3).trans s4⟩
 have eb:Ie=(Ad (Bs 5 (eIx (GX [eC (.str "partner"),eC (.str "none")]) (eOp (o1 VF) [AJ Bm [eV 1,eIx (eIx (eV 0) (eI 0)) (eI 0)]])))
  (Ad (xIf (eOp (o2 wNe) [la1,eV 5]) (BE (eC (.bl false))) EI)
  (Ad (Bs 6 (eOp (o1 Kw) [eIx (eIx (AJ Fz [eV 0]) (eOp (o1 NZ) [eI 1])) (eI 0)]))
  (Ad (Bs 7 (eIx (GX [eV 5,eC (.str "load")]) (eOp (o1 VF) [Iz (eOp (o2 wEq) [eV 5,eC (.str "none")]) (L4 (AJ Bm [eV 2,eV 6]))])))
  (Ad (xIf (eOp (o2 wNe) [la2,eV 7]) (BE (eC (.bl false))) EI)
  (Ad (Bs 8 (Iz (AJ Bh [eV 3,eIx (eIx (eV 0) (eI 0)) (eI 1)]) (AJ Bh [eV 4,eIx (eIx (eV 0) (eI 0)) (eI 1)])))
  (Ad (Bs 7 (eIx (GX [eV 5,eC (.str "prices")]) (eOp (o1 VF) [Iz (eOp (o2 wEq) [eV 5,eC (.str "none")]) (L4 (eV 8))])))
  (BE (eOp (o2 wEq) [la3,eV 7]))))))))):=rfl
 unfold BI
 rw[eb]
 have d2:=Bb st2
 have z0:NZ (.val (.int 1))=Fk (.val (.int (-1))):=rfl
 have s2':(2:Nat)<=sizeLine:=AS (by decide)
 have n2:(stD (runs t (st0 t ls) ds))=stD (runs t (st0 t ls) ds):=rfl
 unfold stD at st3
 have ll:(List.map Ld.d (runs t (st0 t ls) ds).AE).length=(runs t (st0 t ls) ds).AE.length:=vW ..
 simp only[Ae,Tr.d]at l1 st1 l2 l3⊢
 generalize inP t P=a at*
 generalize kO t ls ds L=b at*
 generalize Qj t.k A=c at*
 generalize Qj t.k B=d at*
 generalize (runs t (st0 t ls) ds).AE.length=N at*
 cases a<;>cases b<;>cases c<;>cases d<;>simp only[zC,Bool.and_true,AAX,AB5,ABW,reduceIte]at l1 l2 l3<;>simp[i1',l1,st1,d2,z0,st3,i2',l2,i3,i4,l3,s2',ll]
end
theorem cY{ns:Gc Int}:∀k,(Tu ns k).length<=k
 |0=>u4 _
 |k+1=>by
  show(vt _ (k+1)).length<=_
  rw[yp]
  have ih:=cY (ns:=ns) k
  change (vt _ k).length<=_ at ih
  generalize vt _ k=L at*
  unfold zI
  split
  .lia
  .simp;lia
theorem cw{ns:Gc Int}:∀k,k<=ns.length->(Tu ns k).length=k->Tu ns k=ns.take k/\(ns.take k).Nodup
 |0,_,_=>⟨rfl,by simp⟩
 |k+1,hk,e=>by
  have hlt:k<ns.length:=by lia
  have hle:=cY (ns:=ns) k
  have ih:=cw (ns:=ns) k (by lia)
  change (vt _ (k+1)).length=_ at e
  show vt _ (k+1)=_/\_
  rw[yp]at e⊢
  change (vt _ k).length<=_ at hle
  change (vt _ k).length=_->vt _ k=_/\_ at ih
  generalize vt _ k=L at*
  have eg:ns.getD k 0=ns[k]:=by rw[vO,ux hlt];rfl
  unfold zI at e⊢
  split at e
  .lia
  .rename_i c
   rw[vf c]
   obtain⟨rfl,h2⟩:=ih (by simp at e;lia)
   rw[eg]at c⊢
   rw[AAZ,ux hlt]
   refine⟨rfl,yi.mpr ⟨h2,by simp,λa ha b hb z=>?_⟩⟩
   simp at hb
   subst hb
   subst z
   exact c (zm.mpr ⟨_,ha,by simp⟩)
theorem Zd:∀{n:Nat} {l:Gc Nat},l.Nodup->(∀i∈l,i<n)->l.length<=n
 |0,l,_,h=>by
  cases l with
  |nil=>exact u4 _
  |cons a b=>exact absurd (h a vA) (by lia)
 |n+1,l,hn,h=>by
  by_cases m:n∈l
  .have:=Zd (n:=n) (hn.erase n) λi hi=>by
    have h1:=h i (List.mem_of_mem_erase hi)
    have h2:i≠n:=(hn.mem_erase_iff.mp hi).1
    lia
   rw[List.length_erase_of_mem m]at this
   lia
  .have:=Zd (n:=n) hn λi hi=>by
    have h1:=h i hi
    have h2:i≠n:=λz=>m (z▸hi)
    lia
   lia
section
variable{S:Sto}{t:Tr}{ls:Gc Ld}{ds:Gc Ai}{X:D}{n:Nat}
noncomputable def oN(ds:Gc D):vm:=match Mg ds with
 |some ns=>decide ((Tu ns ns.length).length=ns.length)
 |none=>false
noncomputable def XN(n:Int):D->vm
 | .tup ds=>ds.all (inW 0 (n-1)) && oN ds
 |_=>false
theorem VY{L:Gc D}(h:L.all (inW 0 ((n:Int)-1))=true):∃is:Gc Nat,L=Lz is/\∀i∈is,i<n:=by
 rw[zl]at h
 obtain⟨ns,e,hn⟩:=Nl (ys:=L) (P:=λi=>0<=i/\i<=(n:Int)-1) λd hd=>c8 (h d hd)
 refine⟨ns.map Int.toNat,?_,λi hi=>?_⟩
 .rw[e]
  unfold Lz
  rw[v5]
  refine AAE λi hi=>?_
  have:=(hn i hi).1
  show D.int i=D.int ((i.toNat:Nat):Int)
  rw[show((i.toNat:Nat):Int)=i by lia]
 .obtain⟨j,hj,rfl⟩:=vp.mp hi
  have:=hn j hj
  lia
theorem VD(is:Gc Nat):oN (Lz is)=decide ((Tu (is.map λi:Nat=>(i:Int)) is.length).length=is.length):=by
 unfold oN
 rw[pO]
 simp
theorem ke(is:Gc Nat)(hl:is.length<=1000):slK (.tup (Lz is),S)=Fk (.int ((Tu (is.map λi:Nat=>(i:Int)) is.length).length:Int),S):=by
 unfold slK
 simp only
 rw[pO]
 show(if _ then _ else _)=_
 rw[va (by rw[vW];exact hl),vW]
theorem gO(h:XN t.p X=true)(ht:t.p<=4):∃is:Gc Nat,X=.tup (Lz is)/\gE t is:=by
 cases X with
 |tup L=>
  simp only[XN,vE]at h
  obtain⟨is,rfl,hi⟩:=VY h.1
  have h2:=h.2
  rw[VD,xN]at h2
  have nd:=(cw (ns:=is.map λi:Nat=>(i:Int)) is.length (by simp) h2).2
  rw[show is.length=(is.map λi:Nat=>(i:Int)).length by simp,yP]at nd
  have nd':is.Nodup:=List.Pairwise.of_map (λi:Nat=>(i:Int)) (λa b hab z=>hab (by rw[z])) nd
  exact⟨is,rfl,nd',hi,uz (Zd nd' hi) ht⟩
 |_=>cases h
theorem VN{o:Ev}{E:En}:eSL o E S=(o E S).bind slK:=rfl
theorem hJ(h:Th X):DP [X,.int n] S=Fk (.bl (XN n X),S):=by
 cases h with
 | @tup L hd hl=>
   have c:=Cf (gs:=[]) (t:=tNm 1) (f:=AJ Bm [eV 1,eV 0]) (C:=[Fk (.int n)]) (m:=1) (e:=id) (g:=λd=>D.bl (inW 0 ((n:Int)-1) d)) (S:=S) Af (xs:=L) (acc:=[]) (os:=[uk]) rfl (uz (show _<=1000 by simpa using hl) (AS (by decide))) (by
    intro x hx os ho
    obtain⟨q1,rfl⟩:=U7 ho
    have w:=Wg (S:=S) (hd x hx) n
    exact⟨[Fk x],rfl,by simp,by simp[w]⟩)
   have al:bls (L.map λd=>D.bl (inW 0 ((n:Int)-1) d))=Fk (L.map (inW 0 ((n:Int)-1))):=MM _ L
   have aa:(L.map (inW 0 ((n:Int)-1))).all id=L.all (inW 0 ((n:Int)-1)):=by simp[yu]
   simp only[ABp,vX,vb]at c
   have sq:sqD S (.tup L)=Fk (L,[]):=nr rfl
   generalize (L.map λd=>D.bl (inW 0 ((n:Int)-1) d))=BL at*
   cases w:L.all (inW 0 ((n:Int)-1))with
   |true=>
    obtain⟨is,rfl,hi⟩:=VY w
    have hl':is.length<=1000:=by simpa[Lz]using hl
    have sl:=ke (S:=S) is hl'
    have ob:=VD is
    have le:(Lz is).length=is.length:=by simp[Lz]
    rw[w]at aa
    generalize Lz is=OD at*
    generalize (Tu (is.map λi:Nat=>(i:Int)) is.length).length=M at*
    have ee:((M:Int)==(is.length:Int))=decide (M=is.length):=by
     rw[ABO,zh,xN]
     exact Int.ofNat_inj
    simp[DP,G9,St.Kd.isA,sq,Qi,c,al,aa,XN,w,ob,VN,sl,le,ee]
   |false=>
    rw[w]at aa
    simp[DP,G9,St.Kd.isA,sq,Qi,c,al,aa,XN,w]
 |_=>simp[DP,G9,St.Kd.isA,XN]
theorem oV(h:Th X)(w0:XN t.p X=false):BG [Ae t ls ds,X] S=uk/\CC [Ae t ls ds,X] S=Fk (("NoOrder":Str),S):=by
 cases h with
 | @tup L hd hl=>
   have c:=Cf (gs:=[]) (t:=tNm 1) (f:=AJ A3 [eIx (eV 0) (eI 0),eV 1]) (C:=[Fk (Ae t ls ds)]) (m:=1) (e:=id) (g:=λd=>D.bl (inW 0 ((t.p:Int)-1) d)) (S:=S) Af (xs:=L) (acc:=[]) (os:=[uk]) rfl (uz (show _<=1000 by simpa using hl) (AS (by decide))) (by
    intro x hx os ho
    obtain⟨q1,rfl⟩:=U7 ho
    have w:=LO (S:=S) (hd x hx) 0 (t.p-1)
    exact⟨[Fk x],rfl,by simp,by simp[Ae,Tr.d,A3,Ck,w]⟩)
   have al:bls (L.map λd=>D.bl (inW 0 ((t.p:Int)-1) d))=Fk (L.map (inW 0 ((t.p:Int)-1))):=MM _ L
   have aa:(L.map (inW 0 ((t.p:Int)-1))).all id=L.all (inW 0 ((t.p:Int)-1)):=by simp[yu]
   simp only[ABp,vX,vb]at c
   have sq:sqD S (.tup L)=Fk (L,[]):=nr rfl
   generalize (L.map λd=>D.bl (inW 0 ((t.p:Int)-1) d))=BL at*
   generalize Ae t ls ds=bk at*
   cases w:L.all (inW 0 ((t.p:Int)-1))with
   |true=>
    obtain⟨is,rfl,hi⟩:=VY w
    have hl':is.length<=1000:=by simpa[Lz]using hl
    have sl:=ke (S:=S) is hl'
    have ob:=VD is
    have le:(Lz is).length=is.length:=by simp[Lz]
    rw[w]at aa
    simp only[XN,w,AB5,ob]at w0
    generalize Lz is=OD at*
    generalize (Tu (is.map λi:Nat=>(i:Int)) is.length).length=M at*
    have ee:((M:Int)==(is.length:Int))=false:=by
     rw[<-w0,ABO,zh,xN]
     exact Int.ofNat_inj
    constructor
    .simp[BG,Cv,St.Kd.isA,sq,Qi,c,al,aa,VN,sl,le,ee]
    .simp[CC,D0,VJ,St.Kd.isA,sq,Qi,c,al,aa,VN,sl,le,ee]
   |false=>
    rw[w]at aa
    constructor
    .simp[BG,Cv,St.Kd.isA,sq,Qi,c,al,aa]
    .simp[CC,D0,VJ,St.Kd.isA,sq,Qi,c,al,aa]
 |_=>
  generalize Ae t ls ds=bk at*
  constructor
  .simp[BG,Cv,St.Kd.isA]
  .simp[CC,D0,VJ,St.Kd.isA]
def laO:Ev:=WV "law" [2,12] (AJ Em [eV 0,eV 1]) (Hv IV [eV 0,eV 1]) (.str "none") hdW
variable{e0 e1 e3 e4 e5 e6 e7 e8 e9 e10 e11 e13:uo D}
theorem kc(hT:S.any (Qt "law")=true)(h:Bu t ls ds)(hh:Yn t)(hX:Th X):∃S',laO [e0,e1,Fk (Ae t ls ds),e3,e4,e5,e6,e7,e8,e9,e10,e11,Fk X,e13] S=Fk (.str (if XN t.p X=true then "none" else "order"),S')/\DQ [] S S':=by
 cases w:XN t.p X with
 |true=>
  obtain⟨is,rfl,ho⟩:=gO w h.tr.2.1
  obtain⟨qt,ps,S',e,_,_,_,s,_⟩:=Wr (S:=S) h hh rfl (YO h hh) ho
  refine⟨S',?_,s⟩
  rw[va rfl]
  exact TH hT (show AJ Em _ [Fk (Ae t ls ds),Fk (.tup (Lz is))] S=_ from call2.trans e)
 |false=>
  obtain⟨n1,n2⟩:=oV (S:=S) (ls:=ls) (ds:=ds) hX w
  have r1:=FH (S:=S) h
  refine⟨S,?_,.refl⟩
  rw[vf (by simp)]
  generalize Ae t ls ds=bk at*
  refine MW (y:="NoOrder") hT (show AJ Em _ [Fk bk,Fk X] S=_ from ?_) (show Hv IV _ [Fk bk,Fk X] S=Fk (_,[Fk bk,Fk X],S)from ?_) jy
  .simp[Em,Me,r1,n1]
  .simp[IV,O7,VJ,r1,n2]
end
def Kp(p:Nat)(S S':Sto):Prop:=∀n c,S[n]?=Fk c->n≠p->S'[n]?=Fk c
section
variable{S:Sto}{t:Tr}{ls:Gc Ld}{ds:Gc Ai}{p:Nat}
theorem Kp.trans{S1 S2:Sto}(h:Kp p S S1)(g:Kp p S1 S2):Kp p S S2:=λn c e ne=>g n c (h n c e ne) ne
theorem Pn.kp{S':Sto}(h:Pn p S S'):Kp p S S':=λn c e ne=>h.get e ne
theorem DQ.kp{S':Sto}(h:DQ [] S S'):Kp p S S':=λn c e ne=>h.get e (by simp)
theorem Dx.same{S':Sto}(h:Dx p S)(g:DQ [] S S'):Dx p S':=by
 obtain⟨ds,e,hp⟩:=h
 exact⟨ds,g.get e (by simp),hp⟩
theorem gM{ws:Gc Int}(h:ws.length<=1000):Th (.tup (ws.map D.int)):=.tup (λd hd=>by
 obtain⟨i,_,rfl⟩:=vp.mp hd
 exact .int _) (by simpa using h)
theorem Tx{d:D}{n:Nat}(h:Th d)(l:n<=1000):Th (.tup (vC n d)):=.tup (λx hx=>by rw[AAu hx];exact h) (by simpa using l)
theorem fR{d:D}{n:Nat}(h:Th d)(l:n<=1000):Th (.lst (vC n d)):=.lst (λx hx=>by rw[AAu hx];exact h) (by simpa using l)
theorem cy{n:Nat}(h:n<=1000):n.log2<1920:=by
 by_cases z:n=0
 .subst z;decide
 .rw[Nat.log2_lt z]
  exact vd h (uy (show 1000<2^10 by decide) (v9 (by decide) (by decide)))
theorem gN{ws:Gc Int}(h:ws.length<=100)(hw:∀w∈ws,w.natAbs<=1000):Sj 1 (.tup (ws.map D.int)):=.tup (λd hd=>by
 obtain⟨i,hi,rfl⟩:=vp.mp hd
 exact .int (cy (hw i hi))) (by simpa using h)
def nP:Ex:=(Ad (Bs 6 (eIx (GX [AJ AL [eV 1,eV 3],AJ AL [eV 1,eI 6],eC (.bl true),AJ (Am 8) [eV 1,eI 2]]) (AJ AL [eV 1,eI 4])))
    (Ad (Bs 7 (eIx (GX [AJ AL [eV 1,eI 12],eOp (o1 NZ) [eI 1],AJ (Am 8) [eV 1,eI 2]]) (AJ AL [eV 1,eI 3])))
    (Ad (Bs 8 (GX [AJ Eg [eV 1,eV 4],AJ (B4 8) [eV 1,AJ Eg [eV 1,eV 4]],AJ (Am 8) [eV 1,eI 2]]))
    (Ad (WO 9 10 (eIx (eV 8) (AJ AL [eV 1,eI 3])) (eIx (eV 8) (AJ AL [eV 1,eI 3])))
    (xIf (L4 (AJ BI [eV 2,eV 6,eV 7,eV 9,eV 10])) (BE (eC (.bl false))) EI)))))
variable{e0 e5 e6 e7 e8 e9 e10 e11 e12 e13:uo D}
theorem dO(hT:∃i,i≠p/\S[i]?=Fk (Cl.tab "_law_partner_right"))(h:Bu t ls ds)(hh:Yn t)(hp:Dx p S):∃u6 u7 u8 u9 u10 S',nP [e0,Fk (.ref p),Fk (Ae t ls ds),Fk (.int t.p),Fk (.int t.k),e5,e6,e7,e8,e9,e10,e11,e12,e13] S=Fk (.nx,[e0,Fk (.ref p),Fk (Ae t ls ds),Fk (.int t.p),Fk (.int t.k),e5,u6,u7,u8,u9,u10,e11,e12,e13],S')/\Dx p S'/\Kp p S S':=by
 obtain⟨t1,t2,t3,t4,t5,t6⟩:=h.tr
 obtain⟨r1,S1,d1,a1,b1,p1⟩:=Al hp (n:=(t.p:Int)) (by lia) (by lia)
 obtain⟨r2,S2,d2,a2,b2,p2⟩:=Al p1.pen (n:=6) (by decide) (by decide)
 obtain⟨X1,S3,d3,h3,p3⟩:=Lf (n:=8) (d:=2) (by decide) p2.pen
 obtain⟨r4,S4,d4,a4,b4,p4⟩:=Al p3.pen (n:=4) (by decide) (by decide)
 obtain⟨P,eP,mP⟩:=pick (xs:=[.int r1,.int r2,.bl true,X1]) (r:=r4) a4 (by simpa using b4)
 have hP:Th P:=by
  simp only[uw,vN,wF]at mP
  rcases mP with rfl|rfl|rfl|rfl
  .exact .int _
  .exact .int _
  .exact .bl _
  .exact h3
 obtain⟨r5,S5,d5,a5,b5,p5⟩:=Al p4.pen (n:=12) (by decide) (by decide)
 obtain⟨X2,S6,d6,h6,p6⟩:=Lf (n:=8) (d:=2) (by decide) p5.pen
 obtain⟨r7,S7,d7,a7,b7,p7⟩:=Al p6.pen (n:=3) (by decide) (by decide)
 obtain⟨L,eL,mL⟩:=pick (xs:=[.int r5,.int (-1),X2]) (r:=r7) a7 (by simpa using b7)
 have hL:Th L:=by
  simp only[uw,vN,wF]at mL
  rcases mL with rfl|rfl|rfl
  .exact .int _
  .exact .int _
  .exact h6
 obtain⟨ws,S8,d8,p8,l8,w8⟩:=RK p7.pen (n:=t.k) (by lia)
 obtain⟨vs,S9,d9,p9,l9,w9⟩:=RK p8.pen (n:=t.k) (by lia)
 obtain⟨X3,S10,d10,h10,p10⟩:=LW 8 1 (by decide) (gN (ws:=vs) (by lia) (λw hw=>by have:=w9 w hw;lia)) p9.pen
 obtain⟨X4,S11,d11,h11,p11⟩:=Lf (n:=8) (d:=2) (by decide) p10.pen
 obtain⟨r12,S12,d12,a12,b12,p12⟩:=Al p11.pen (n:=3) (by decide) (by decide)
 obtain⟨r13,S13,d13,a13,b13,p13⟩:=Al p12.pen (n:=3) (by decide) (by decide)
 have thA:∀x∈ [.tup (ws.map D.int),X3,X4],Th x:=λx hx=>by
  simp only[uw,vN,wF]at hx
  rcases hx with rfl|rfl|rfl
  .exact gM (by lia)
  .exact h10
  .exact h11
 obtain⟨A,eA,mA⟩:=pick (xs:=[.tup (ws.map D.int),X3,X4]) (r:=r12) a12 (by simpa using b12)
 obtain⟨B,eB,mB⟩:=pick (xs:=[.tup (ws.map D.int),X3,X4]) (r:=r13) a13 (by simpa using b13)
 have pn:=(((((((((((p1.trans p2).trans p3).trans p4).trans p5).trans p6).trans p7).trans p8).trans p9).trans p10).trans p11).trans p12).trans p13
 obtain⟨i,ip,iT⟩:=hT
 have hT13:dS S13:=tab_of (pn.get iT ip)
 obtain⟨S',ep,sp⟩:=QR (S:=S13) hT13 h hh hP hL (thA A mA) (thA B mB)
 have s3:(3:Nat)<=sizeLine:=AS (by decide)
 have s4:(4:Nat)<=sizeLine:=AS (by decide)
 have n1:NZ (.val (.int 1))=Fk (.val (.int (-1))):=rfl
 refine⟨Fk P,Fk L,Fk (.lst [.tup (ws.map D.int),X3,X4]),Fk A,Fk B,S',?_,p13.pen.same sp,pn.kp.trans sp.kp⟩
 have d3':Am 8 [.ref p,.int 2] S2=Fk (X1,S3):=d3
 have d6':Am 8 [.ref p,.int 2] S5=Fk (X2,S6):=d6
 have d11':Am 8 [.ref p,.int 2] S10=Fk (X4,S11):=d11
 generalize Ae t ls ds=bk at*
 generalize ws.map D.int=WS at*
 generalize vs.map D.int=VS at*
 simp[nP,d1,d2,d3',d4,eP,d5,d6',d7,eL,d8,d9,d10,d11',d12,d13,eA,eB,ep,s3,s4,n1]
def my:Ex:=(Ad (xIf (L4 (AJ BI [eV 2,eI 0,eI 0,eV 8,eC .non])) (BE (eC (.bl false))) EI)
    (xIf (L4 (AJ BI [eV 2,eI 0,eI 0,eOp (o2 B7) [Cw [eI 1],eV 4],eV 8])) (BE (eC (.bl false))) EI))
theorem P8{d:D}{k:Nat}{i:Int}(e:i=k)(h1:1<=k)(h2:k<=100):B7 (.val (.tup [d])) (.val (.int i))=Fk (.val (.tup (vC k d))):=by
 subst e
 have hz:k<=sizeLine:=uz h2 (AS (by decide))
 have e1:¬(k:Int)<=0:=by lia
 have e2:(1:Int)<=k:=by lia
 rw[SG,vf (by simp;lia),va (by simp[hz];lia),yB,zW]
theorem fW{d:D}{k:Nat}{i:Int}(e:i=k)(h1:1<=k)(h2:k<=100):B7 (.val (.lst [d])) (.val (.int i))=Fk (.own (vC k d)):=by
 subst e
 have hz:k<=sizeLine:=uz h2 (AS (by decide))
 have e1:(k:Int)<2^63:=by lia
 have e2: -(2^63)<=(k:Int):=by lia
 rw[Vs,va (by simp[hz];lia),yB,zW]
theorem dX{X:D}(hX:Th X)(hT:∃i,i≠p/\S[i]?=Fk (Cl.tab "_law_partner_right"))(h:Bu t ls ds)(hh:Yn t):∃S',my [e0,Fk (.ref p),Fk (Ae t ls ds),Fk (.int t.p),Fk (.int t.k),e5,e6,e7,Fk X,e9,e10,e11,e12,e13] S=Fk (.nx,[e0,Fk (.ref p),Fk (Ae t ls ds),Fk (.int t.p),Fk (.int t.k),e5,e6,e7,Fk X,e9,e10,e11,e12,e13],S')/\DQ [] S S':=by
 obtain⟨t1,t2,t3,t4,t5,t6⟩:=h.tr
 obtain⟨i,ip,iT⟩:=hT
 have hT:dS S:=tab_of iT
 obtain⟨S1,q1,s1⟩:=QR (S:=S) (P:=.int 0) (L:=.int 0) (A:=X) (B:=.non) hT h hh (.int _) (.int _) hX .non
 obtain⟨S2,q2,s2⟩:=QR (S:=S1) (P:=.int 0) (L:=.int 0) (A:=.tup (vC t.k (.int 1))) (B:=X) (tab_keep hT s1) h hh (.int _) (.int _) (Tx (.int _) (by lia)) hX
 have rt:=P8 (d:=.int 1) (k:=t.k) (i:=t.k) rfl (by lia) (by lia)
 have z1:(1:Nat)<=sizeLine:=AS (by decide)
 refine⟨S2,?_,s1.trans s2⟩
 generalize Ae t ls ds=bk at*
 generalize vC t.k (D.int 1)=RP at*
 simp[my,q1,q2,-SG,rt,z1]
def pB:Ev:=(Cw [eOp (o2 B7) [Cw [eI 0],eV 4],eOp (o2 B7) [Cw [eI 100],eV 4],eOp (o2 B7) [Cw [eC (.bl true)],eV 4],eOp (o2 B7) [Cw [eI 1],eOp (o2 EA) [eV 4,eI 1]],eOp (o2 B7) [GX [eI 1],eV 4],eC .non])
theorem gZ{e1 e2 e3:uo D}(h:Bu t ls ds):∃L,pB [e0,e1,e2,e3,Fk (.int t.k),e5,e6,e7,e8,e9,e10,e11,e12,e13] S=Fk (.tup L,S)/\∀d∈L,Th d:=by
 obtain⟨t1,t2,t3,t4,t5,t6⟩:=h.tr
 have z1:(1:Nat)<=sizeLine:=AS (by decide)
 have z6:(6:Nat)<=sizeLine:=AS (by decide)
 have m1:=P8 (d:=.int 0) (k:=t.k) (i:=t.k) rfl (by lia) (by lia)
 have m2:=P8 (d:=.int 100) (k:=t.k) (i:=t.k) rfl (by lia) (by lia)
 have m3:=P8 (d:=.bl true) (k:=t.k) (i:=t.k) rfl (by lia) (by lia)
 have m4:=P8 (d:=.int 1) (k:=t.k+1) (i:=(t.k:Int)+1) (by lia) (by lia) (by lia)
 have m5:=fW (d:=.int 1) (k:=t.k) (i:=t.k) rfl (by lia) (by lia)
 refine⟨[.tup (vC t.k (.int 0)),.tup (vC t.k (.int 100)),.tup (vC t.k (.bl true)),.tup (vC (t.k+1) (.int 1)),.lst (vC t.k (.int 1)),.non],?_,λd hd=>?_⟩
 .generalize vC (t.k+1) (D.int 1)=Q4 at*
  generalize vC t.k (D.int 0)=Q1 at*
  generalize vC t.k (D.int 100)=Q2 at*
  generalize vC t.k (D.bl true)=Q3 at*
  generalize vC t.k (D.int 1)=Q5 at*
  simp[pB,-SG,-Vs,m1,m2,m3,m4,m5,z1,z6]
 .simp only[uw,vN,wF]at hd
  rcases hd with rfl|rfl|rfl|rfl|rfl|rfl
  .exact Tx (.int _) (by lia)
  .exact Tx (.int _) (by lia)
  .exact Tx (.bl _) (by lia)
  .exact Tx (.int _) (by lia)
  .exact fR (.int _) (by lia)
  .exact .non
def lU:Ex:=(Ad (Bs 13 (eIx (GX [eC (.str "order"),eC (.str "none")]) (eOp (o1 VF) [AJ DP [eV 12,eV 3]])))
    (xIf (eOp (o2 wNe) [laO,eV 13]) (BE (eC (.bl false))) EI))
theorem eR{X:D}(hX:Th X)(hT:∃i,i≠p/\S[i]?=Fk (Cl.tab "law"))(h:Bu t ls ds)(hh:Yn t):∃u13 S',lU [e0,Fk (.ref p),Fk (Ae t ls ds),Fk (.int t.p),Fk (.int t.k),e5,e6,e7,e8,e9,e10,e11,Fk X,e13] S=Fk (.nx,[e0,Fk (.ref p),Fk (Ae t ls ds),Fk (.int t.p),Fk (.int t.k),e5,e6,e7,e8,e9,e10,e11,Fk X,u13],S')/\DQ [] S S':=by
 obtain⟨i,ip,iT⟩:=hT
 have lo:=hJ (S:=S) (n:=t.p) hX
 obtain⟨S',ls1,s1⟩:=kc (S:=S) (t:=t) (ls:=ls) (ds:=ds) (e0:=e0) (e1:=Fk (.ref p)) (e3:=Fk (.int t.p)) (e4:=Fk (.int t.k)) (e5:=e5) (e6:=e6) (e7:=e7) (e8:=e8) (e9:=e9) (e10:=e10) (e11:=e11) (e13:=Fk (.str (if XN t.p X=true then "none" else "order"))) (tab_of iT) h hh hX
 have s2':(2:Nat)<=sizeLine:=AS (by decide)
 refine⟨Fk (.str (if XN t.p X=true then "none" else "order")),S',?_,s1⟩
 generalize Ae t ls ds=bk at*
 generalize XN t.p X=b at*
 cases b<;>simp only[zC,reduceIte]at ls1⊢ <;>simp[lU,lo,ls1,s2']
def nq:Ev:=(eOp (o2 EA) [eV 11,GX [Cw [],Cw [eI 0,eI 0],Cw [eV 3],GX [eI 0],Cw [eC (.bl true)],eC .non,eI 0,eC (.str "0"),Cw [eOp (o1 NZ) [eI 1]],AJ (Am 8) [eV 1,eI 2]]])
theorem eH{e2 e4:uo D}{L:Gc D}(hL:∀d∈L,Th d)(l8:L.length=8)(hp:Dx p S):∃M S',nq [e0,Fk (.ref p),e2,Fk (.int t.p),e4,e5,e6,e7,e8,e9,e10,Fk (.lst L),e12,e13] S=Fk (.lst M,S')/\(∀d∈M,Th d)/\Pn p S S':=by
 obtain⟨X,S',e,hX,pn⟩:=Lf (n:=8) (d:=2) (by decide) hp
 have e':Am 8 [.ref p,.int 2] S=Fk (X,S'):=e
 have z0:(0:Nat)<=sizeLine:=xf _
 have z1:(1:Nat)<=sizeLine:=AS (by decide)
 have z2:(2:Nat)<=sizeLine:=AS (by decide)
 have z10:(10:Nat)<=sizeLine:=AS (by decide)
 have z18:L.length+10<=sizeLine:=by rw[l8];exact AS (by decide)
 have n1:NZ (.val (.int 1))=Fk (.val (.int (-1))):=rfl
 have one:∀{d:D},Th d->Th (.tup [d]):=λh=>.tup (λx hx=>by rw[vQ.mp hx];exact h) (by simp)
 refine⟨L++[.tup [],.tup [.int 0,.int 0],.tup [.int t.p],.lst [.int 0],.tup [.bl true],.non,.int 0,.str "0",.tup [.int (-1)],X],S',?_,λd hd=>?_,pn⟩
 .simp[nq,e',z0,z1,z2,z10,z18,n1]
 .rcases vY.mp hd with z|z
  .exact hL d z
  .simp only[uw,vN,wF]at z
   rcases z with rfl|rfl|rfl|rfl|rfl|rfl|rfl|rfl|rfl|rfl
   .exact .tup (λx hx=>by cases hx) (by simp)
   .exact .tup (λx hx=>by
     simp only[uw,vN,wF]at hx
     rcases hx with rfl|rfl<;>exact .int _) (by simp)
   .exact one (.int _)
   .exact .lst (λx hx=>by rw[vQ.mp hx];exact .int _) (by simp)
   .exact one (.bl _)
   .exact .non
   .exact .int _
   .exact .str _ Oj
   .exact one (.int _)
   .exact hX
def pV:Ev:=(Dp [1,3] 1 (Ts [eI 8]) (tNm 2) Ca (AJ (B4 8) [eV 0,eTR (eV 1)]))
theorem gX{o:Ev}{E:En}:eTR o E S=(o E S).bind trK:=rfl
theorem kQ{n:Nat}(h:n<=1000):trK (.int n,S)=Fk (.tup (Mh 0 n),S):=by
 unfold trK
 dsimp only
 rw[va (by simp;lia),yB]
 rfl
theorem fU {e2 e4 : uo D} (h4 : t.p ≤ 4) (hp : Dx p S) : ∃ L S', pV [e0, Fk (.ref p), e2, Fk (.int t.p), e4, e5, e6, e7, e8, e9, e10, e11, e12, e13] S = Fk (.lst L, S') /\ (∀ d ∈ L, Th d) /\ L.length = 8 /\ Pn p S S' := by
  obtain ⟨ys, S', e, hI, l, r⟩ := Lh (gs := []) (t := tNm 2) (f := AJ (B4 8) [(eV 0), (eTR (eV 1))]) (C := [Fk (.ref p), Fk (.int t.p)]) (m := 1) (I := Pn p S) (R := fun _ y => Th y)
    (fun _ _ => Af) (ds := Mh 0 (8 : Int).toNat) (acc := []) (os := [uk]) rfl (Pn.refl hp) (by rw [Ew]; simp; exact AS (by decide)) fun d _ os S0 ho I0 => by
      obtain ⟨o, rfl⟩ := U7 ho
      have sj : Sj 1 (.tup (Mh 0 t.p)) := .tup (fun d hd => by
        obtain ⟨k, hk, rfl⟩ := vp.mp hd
        have : k < t.p := by simpa using hk
        exact .int (cy (by simp; lia))) (by rw [Ew]; lia)
      obtain ⟨X, S1, e1, h1, p1⟩ := LW 8 1 (by decide) sj I0.pen
      have tn := kQ (S := S0) (n := t.p) (by lia)
      refine ⟨[Fk d], X, S1, rfl, by simp, ?_, I0.trans p1, h1⟩
      generalize Mh 0 t.p = RR at *
      simp [gX, tn, e1]
  have r8 : Ma 8 = true := GB (by lia) (by lia)
  simp only [vX, vb] at e
  refine ⟨ys, S', ?_, IC r, by simpa [Ew] using l, hI⟩
  simp [pV, r8, Qi] at e ⊢
  simp [e]
end
theorem jK(ns:Gc Int)(hl:ns.length<=63):∃S',QY [.scr ns] [Cl.tab "_law_partner_right",Cl.tab "law"]=Fk (.bl true,S'):=by
 obtain⟨c,ec⟩:=de (S:=[Cl.tab "_law_partner_right",Cl.tab "law"]) (ns:=ns) (k:=0)
 obtain⟨p,S1,e1,p1,s1,l1⟩:=ku (S:=[Cl.tab "_law_partner_right",Cl.tab "law"]) c
 have p0:0≠p:=by simp at l1;lia
 have p0':1≠p:=by simp at l1;lia
 have t1:S1[0]?=Fk (Cl.tab "_law_partner_right"):=s1.get rfl (by simp)
 have u1:S1[1]?=Fk (Cl.tab "law"):=s1.get rfl (by simp)
 obtain⟨t,ls,ds,S2,e2,⟨hb,_,_,hh⟩,_,p2,k2⟩:=aE (M:=6) (by decide) p1
 have t2:=k2 0 _ t1 p0
 have u2:=k2 1 _ u1 p0'
 have r12:Ma 12=true:=GB (by lia) (by lia)
 obtain⟨E3,S3,f3,o5,o6,o7,o8,o9,o10,rfl,p3,k3⟩:=IY (gs:=[]) (t:=tNm 5) (b:=nP)
  (I:=λrs E S'=>∃o5 o6 o7 o8 o9 o10:uo D,E=[Fk (.scr ns),Fk (.ref p),Fk (Ae t ls ds),Fk (.int t.p),Fk (.int t.k),o5,o6,o7,o8,o9,o10,uk,uk,uk]/\Dx p S'/\Kp p S2 S')
  (fun _ _ _ _ => Af) (ds := Mh 0 (12 : Int).toNat) (E := [Fk (.scr ns), Fk (.ref p), Fk (Ae t ls ds), Fk (.int t.p), Fk (.int t.k), uk, uk, uk, uk, uk, uk, uk, uk, uk]) (S := S2) ⟨uk, uk, uk, uk, uk, uk, rfl, p2, fun _ _ e _ => e⟩ (by
    rintro dd rs E T ⟨o5,o6,o7,o8,o9,o10,rfl,i1,i2⟩
    obtain⟨u6,u7,u8,u9,u10,T',e,j1,j2⟩:=dO (e0:=Fk (.scr ns)) (e5:=Fk dd) (e6:=o6) (e7:=o7) (e8:=o8) (e9:=o9) (e10:=o10) (e11:=uk) (e12:=uk) (e13:=uk) ⟨0,p0,i2 0 _ t2 p0⟩ hb hh i1
    exact⟨_,_,T',rfl,e,Fk dd,u6,u7,u8,u9,u10,rfl,j1,i2.trans j2⟩)
 obtain⟨L2,e4,hL2⟩:=gZ (S:=S3) (e0:=Fk (.scr ns)) (e1:=Fk (.ref p)) (e2:=Fk (Ae t ls ds)) (e3:=Fk (.int t.p)) (e5:=o5) (e6:=o6) (e7:=o7) (e8:=o8) (e9:=o9) (e10:=o10) (e11:=uk) (e12:=uk) (e13:=uk) hb
 obtain⟨E4,S4,f4,v8,rfl,p4,k4,_⟩:=IY (gs:=[]) (t:=tNm 8) (b:=my)
  (I:=λrs E S'=>∃o8:uo D,E=[Fk (.scr ns),Fk (.ref p),Fk (Ae t ls ds),Fk (.int t.p),Fk (.int t.k),o5,o6,o7,o8,o9,o10,uk,uk,uk]/\Dx p S'/\Kp p S2 S'/\∀d∈rs,Th d)
  (fun _ _ _ _ => Af) (ds := L2) (E := [Fk (.scr ns), Fk (.ref p), Fk (Ae t ls ds), Fk (.int t.p), Fk (.int t.k), o5, o6, o7, o8, o9, o10, uk, uk, uk]) (S := S3) ⟨o8, rfl, p3, k3, hL2⟩ (by
    rintro dd rs E T ⟨o8,rfl,i1,i2,i3⟩
    obtain⟨T',e,sm⟩:=dX (p:=p) (e0:=Fk (.scr ns)) (e5:=o5) (e6:=o6) (e7:=o7) (e9:=o9) (e10:=o10) (e11:=uk) (e12:=uk) (e13:=uk) (i3 dd vA) ⟨0,p0,i2 0 _ t2 p0⟩ hb hh
    exact⟨_,_,T',rfl,e,Fk dd,rfl,i1.same sm,i2.trans sm.kp,λd hd=>i3 d (uv _ hd)⟩)
 obtain⟨L5,S5,e5,hL5,l5,p5⟩:=fU (S:=S4) (t:=t) (e0:=Fk (.scr ns)) (e2:=Fk (Ae t ls ds)) (e4:=Fk (.int t.k)) (e5:=o5) (e6:=o6) (e7:=o7) (e8:=v8) (e9:=o9) (e10:=o10) (e11:=uk) (e12:=uk) (e13:=uk) hb.tr.2.1 p4
 obtain⟨L6,S6,e6,hL6,p6⟩:=eH (S:=S5) (t:=t) (e0:=Fk (.scr ns)) (e2:=Fk (Ae t ls ds)) (e4:=Fk (.int t.k)) (e5:=o5) (e6:=o6) (e7:=o7) (e8:=v8) (e9:=o9) (e10:=o10) (e12:=uk) (e13:=uk) hL5 l5 p5.pen
 have k6:Kp p S2 S6:=(k4.trans p5.kp).trans p6.kp
 obtain⟨E7,S7,f7,v12,v13,rfl,k7,_⟩:=IY (gs:=[]) (t:=tNm 12) (b:=lU)
  (I:=λrs E S'=>∃o12 o13:uo D,E=[Fk (.scr ns),Fk (.ref p),Fk (Ae t ls ds),Fk (.int t.p),Fk (.int t.k),o5,o6,o7,v8,o9,o10,Fk (.lst L5),o12,o13]/\Kp p S2 S'/\∀d∈rs,Th d)
  (fun _ _ _ _ => Af) (ds := L6) (E := [Fk (.scr ns), Fk (.ref p), Fk (Ae t ls ds), Fk (.int t.p), Fk (.int t.k), o5, o6, o7, v8, o9, o10, Fk (.lst L5), uk, uk]) (S := S6) ⟨uk, uk, rfl, k6, hL6⟩ (by
    rintro dd rs E T ⟨o12,o13,rfl,i2,i3⟩
    obtain⟨u13,T',e,sm⟩:=eR (p:=p) (e0:=Fk (.scr ns)) (e5:=o5) (e6:=o6) (e7:=o7) (e8:=v8) (e9:=o9) (e10:=o10) (e11:=Fk (.lst L5)) (e13:=o13) (i3 dd vA) ⟨1,p0',i2 1 _ u2 p0'⟩ hb hh
    exact⟨_,_,T',rfl,e,Fk dd,u13,rfl,i2.trans sm.kp,λd hd=>i3 d (uv _ hd)⟩)
 refine⟨S7,?_⟩
 have eb:ZE=(Ad (Bs 1 (AJ La [AJ D2 [eV 0,eI 0]]))
  (Ad (Bs 2 (AJ IA [eV 1,eI 6]))
  (Ad (Rv (tTp [tNm 3,tNm 4]) (eOp (Lv false true) [eIx (eV 2) (eI 0),eI 2]))
  (Ad (Oq (Ts [eI 12]) (tNm 5) nP)
  (Ad (Oq (JA pB) (tNm 8) my)
  (Ad (Bs 11 pV)
  (Ad (Oq (JA nq) (tNm 12) lU)
  (BE (eC (.bl true)))))))))):=rfl
 unfold QY
 rw[eb]
 have ec':D2 [.scr ns,.int 0] [Cl.tab "_law_partner_right",Cl.tab "law"]=Fk (.int c,[Cl.tab "_law_partner_right",Cl.tab "law"]):=ec
 have e2':IA [.ref p,.int 6] S1=Fk (Ae t ls ds,S2):=e2
 have cut:∀T,(Rv (tTp [tNm 3,tNm 4]) (eOp (Lv false true) [eIx (eV 2) (eI 0),eI 2])) [Fk (.scr ns),Fk (.ref p),Fk (Ae t ls ds),uk,uk,uk,uk,uk,uk,uk,uk,uk,uk,uk] T=Fk (.nx,[Fk (.scr ns),Fk (.ref p),Fk (Ae t ls ds),Fk (.int t.p),Fk (.int t.k),uk,uk,uk,uk,uk,uk,uk,uk,uk],T):=λT=>by
  have cl:Le [D.int t.p,.int t.k,.int t.b,shD t.ho,.int t.h,.int t.l] uk (Fk 2)=[.int t.p,.int t.k]:=rfl
  simp[Ae,Tr.d,cl]
 generalize Ae t ls ds=bk at*
 rw[show((12:Int).toNat)=12 from rfl]at f3
 simp[ec',e1,e2',-aH,cut,r12,f3,e4,f4,e5,e6,f7]
open PyProof.Rows (boot_isinstance boot_int boot_bool boot_tuple boot_str boot_list boot_abs boot_all boot_any boot_sum boot_max boot_min boot_range boot_enumerate boot_zip boot_sorted boot_set boot_divmod)
theorem WR{K:Wp}{h:ve}{mg:Str->uo W1}{xs:Gc Str}{y:Str}{C':uu}(X:K.In h)(G:h.Ns mainGlobals mg)(e:xK K mainGlobals y=Fk (Fk (.ref C')))(t:∀x∈xs,∃C b,xK K mainGlobals x=Fk (Fk (.ref C))/\yn K (.ref C) (.ref C')=Fk b/\(x==y)=b):XmD K mg xs y:=pJ X G e λx hx=>by
 obtain⟨C,b,h1,h2,h3⟩:=t x hx
 exact⟨C,h1,by rw[h3];exact h2⟩
theorem Ho{K:Wp}{xs:Gc Str}{x y:Str}{C C':uu}{b:vm}(h1:xK K mainGlobals x=Fk (Fk (.ref C)))(h2:yn K (.ref C) (.ref C')=Fk b)(h3:(x==y)=b)(t:∀z∈xs,∃C b,xK K mainGlobals z=Fk (Fk (.ref C))/\yn K (.ref C) (.ref C')=Fk b/\(z==y)=b):∀z∈x::xs,∃C b,xK K mainGlobals z=Fk (Fk (.ref C))/\yn K (.ref C) (.ref C')=Fk b/\(z==y)=b:=λz m=>by
 rcases uw.mp m with e|m
 .rw[e];exact⟨C,b,h1,h2,h3⟩
 .exact t z m
structure All(w:vi)(K:Wp)(mg:Str->uo W1):Prop where
 bt:Bts mg
 VU:Wj K mg "ALL" ZY
 HA:Wj K mg "MAKERS" DR
 Dm:Wj K mg "NOTHING" ET
 J9:XcD K mg "NoLoad"
 HH:XcD K mg "NoOrder"
 Fm:XcD K mg "NoPartner"
 Gs:XcD K mg "NoPrices"
 FX:XmD K mg ["NoPartner","NoLoad","NoPrices","NoOrder"] "NoLoad"
 D9:XmD K mg ["NoPartner","NoLoad","NoPrices","NoOrder"] "NoOrder"
 CT:XmD K mg ["NoPartner","NoLoad","NoPrices","NoOrder"] "NoPartner"
 Cz:XmD K mg ["NoPartner","NoLoad","NoPrices","NoOrder"] "NoPrices"
 Hj:St.Src K mg "is_whole" Hj
 IQ:St.Src K mg "is_from" IQ
 GL:St.Src K mg "is_within" GL
 Ce:St.Src K mg "greatest_divisor" Ce
 Jv:St.Src K mg "lowest" Jv
 Mq:St.Src K mg "plus" Mq
 NN:St.Src K mg "less" NN
 LH:St.Src K mg "times" LH
 LN:St.Src K mg "mixed" LN
 K7:St.Src K mg "total" K7
 EO:St.Src K mg "is_tuple_of" EO
 FE:St.Src K mg "is_partner" FE
 DM:St.Src K mg "are_values" DM
 FG:St.Src K mg "has_pieces" FG
 HC:St.Src K mg "can_pool" HC
 HN:St.Src K mg "can_swap" HN
 G5:St.Src K mg "can_do" G5
 D7:St.Src K mg "held_without" D7
 EM:St.Src K mg "held_behind" EM
 B9:St.Src K mg "held_at_first" B9
 Iv:St.Src K mg "held_by" Iv
 GA:St.Src K mg "made_from" GA
 ER:St.Src K mg "first_wrong" ER
 Dg:St.Src K mg "refuse_undone" Dg
 DH:St.Src K mg "many_loads" DH
 Bw:St.Src K mg "refuse_no_load" Bw
 BU:St.Src K mg "refuse_no_partner" BU
 Bd:St.Src K mg "refuse_no_prices" Bd
 DL:St.Src K mg "all_to_one" DL
 Cb:St.Src K mg "mixed_shares" Cb
 EJ:St.Src K mg "made_shares" EJ
 CV:St.Src K mg "worth_of_all" CV
 Er:St.Src K mg "part_thrown" Er
 Df:St.Src K mg "thrown_shares" Df
 Ec:St.Src K mg "sold_shares" Ec
 Dl:St.Src K mg "shares_behind" Dl
 CD:St.Src K mg "owners_behind" CD
 EX:St.Src K mg "state_by" EX
 BH:St.Src K mg "refuse_no_order" BH
 EK:St.Src K mg "all_dues" EK
 Ey:St.Src K mg "put_in" Ey
 CA:St.Src K mg "worth_of_dues" CA
 Ji:St.Src K mg "cut_of" Ji
 Gp:St.Src K mg "due_of" Gp
 DN:St.Src K mg "account_of" DN
 D5:St.Src K mg "whole_pieces" D5
 C6:St.Src K mg "taken_by" C6
 Cu:St.Src K mg "settled" Cu
 Ee:St.Src K mg "takes_of" Ee
 K5:St.Src K mg "_law_pen" K5
 GV:St.Src K mg "_law_cell_at" GV
 Jc:St.Src K mg "_law_draw" Jc
 HQ:St.Src K mg "_law_common" HQ
 J0:St.Src K mg "_law_made" J0
 Dz:St.Src K mg "_law_whole" Dz
 IZ:St.Src K mg "_law_train" IZ
 Hg:St.Src K mg "_law_pieces" Hg
 Ia:St.Src K mg "_law_first" Ia
 Fp:St.Src K mg "_law_begun" Fp
 Io:St.Src K mg "_law_share" Io
 Ej:St.Src K mg "_law_worths" Ej
 Dh:St.Src K mg "_law_deed" Dh
 Jk:St.Src K mg "_law_plus" Jk
 IT:St.Src K mg "_law_times" IT
 Hh:St.Src K mg "_law_pooled" Hh
 Gn:St.Src K mg "_law_cost" Gn
 Jo:St.Src K mg "_law_less" Jo
 Iq:St.Src K mg "_law_borne" Iq
 Jf:St.Src K mg "_law_sold" Jf
 Jd:St.Src K mg "_law_turn" Jd
 Ka:St.Src K mg "_law_do" Ka
 Gk:St.Src K mg "_law_book" Gk
 Fe:St.Src K mg "_law_thing" Fe
 Ed:St.Src K mg "_law_prices" Ed
 HM:St.Src K mg "_law_spoilt" HM
 Iu:St.Src K mg "_law_is_in" Iu
 DF:St.Src K mg "_law_states" DF
 CZ:St.Src K mg "_law_are_prices" CZ
 Az:St.Src K mg "_law_partner_right" Az
 DK:St.Src K mg "_law_is_order" DK
 JX:St.Src K mg "law" JX
 Iy:St.Src K mg "_law_why" Iy
section
variable{P:vR}{w:vi}{K:Wp}{mg:Str->uo W1}{base:ve}
theorem bJ{f:uu}{fd:xH}(F:Fun K "law" "law" JX f fd)(hm:mg "law"=Fk (.ref f))(bm:BmB mg base)(S_law_why:St.Src K mg "_law_why" Iy)(B:Bts mg)(Ip:PZ P w K mg base)(LI:Uk P w K mg base)(GD:NO P w K mg base)(AM:Cr P w K mg base)(Jy:Rl P w K mg base)(Bk:P5 P w K mg base 8)(Fv:OL P w K mg base)(C4:UD P w K mg base 8)(Bl:IJ P w K mg base)(FP:MC P w K mg base)(FX:XmD K mg ["NoPartner","NoLoad","NoPrices","NoOrder"] "NoLoad")(D9:XmD K mg ["NoPartner","NoLoad","NoPrices","NoOrder"] "NoOrder")(CT:XmD K mg ["NoPartner","NoLoad","NoPrices","NoOrder"] "NoPartner")(Cz:XmD K mg ["NoPartner","NoLoad","NoPrices","NoOrder"] "NoPrices")(Ii:Qf P w K mg base):WH P w K mg base CX0 20 f fd ["_law_script"] (spD K 1 QY):=by
 refine fnL (k:=19) F hm EH rfl λci hr hu=>?_
 exact(AH (Ak 1 (deM LI hr (AA (deM GD hr (AA (AB 0) (AA AF AD))) AD)) EH.nd)
      (AH (Ak 2 (deM Jy hr (AA (AB 1) (AA AF AD))) EH.nd)
      (AH (IH (J4 (AN AX (AB 2) AF) AF) (Fc rfl (AR (Ag 3 EH.nd) (AR (Ag 4 EH.nd) Bj))))
      (AH (Hb vk rfl (IP rfl B.range (AA AF AD)) (Ag 5 EH.nd) (AH (Ak 6 (AN AX (Ba (AA (deM AM hr (AA (AB 1) (AA (AB 3) AD))) (AA (deM AM hr (AA (AB 1) (AA AF AD))) (AA MS (AA (deM Bk hr (AA (AB 1) (AA AF AD))) AD))))) (deM AM hr (AA (AB 1) (AA AF AD)))) EH.nd)
      (AH (Ak 7 (AN AX (Ba (AA (deM AM hr (AA (AB 1) (AA AF AD))) (AA (Oh Hk AF) (AA (deM Bk hr (AA (AB 1) (AA AF AD))) AD)))) (deM AM hr (AA (AB 1) (AA AF AD)))) EH.nd)
      (AH (Ak 8 (Ba (AA (deM Fv hr (AA (AB 1) (AA (AB 4) AD))) (AA (deM C4 hr (AA (AB 1) (AA (deM Fv hr (AA (AB 1) (AA (AB 4) AD))) AD))) (AA (deM Bk hr (AA (AB 1) (AA AF AD))) AD)))) EH.nd)
      (AH (OQ (i:=9) (j:=10) rfl EH.nd rfl rfl (by decide) rfl rfl (AN AX (AB 8) (deM AM hr (AA (AB 1) (AA AF AD)))) (AN AX (AB 8) (deM AM hr (AA (AB 1) (AA AF AD)))))
      (AK (CG (F5 (Ep (deM Bl hr (AA (AB 2) (AA (AB 6) (AA (AB 7) (AA (AB 9) (AA (AB 10) AD)))))))) (AK (AO MS)) Ap)))))))
      (AH (Hb vk rfl (CM (BC (AA (Ab As (BC (AA AF AD)) (AB 4)) (AA (Ab As (BC (AA AF AD)) (AB 4)) (AA (Ab As (BC (AA MS AD)) (AB 4)) (AA (Ab As (BC (AA AF AD)) (Ab An (AB 4) AF)) (AA (Ab As (Ba (AA AF AD)) (AB 4)) (AA RT AD)))))))) (Ag 8 EH.nd) (AH (CG (F5 (Ep (deM Bl hr (AA (AB 2) (AA AF (AA AF (AA (AB 8) (AA RT AD)))))))) (AK (AO MS)) Ap)
      (AK (CG (F5 (Ep (deM Bl hr (AA (AB 2) (AA AF (AA AF (AA (Ab As (BC (AA AF AD)) (AB 4)) (AA (AB 8) AD)))))))) (AK (AO MS)) Ap))))
      (AH (Cs [1,3] 1 ["_law_pen_here","_law_many","_law_turn_here"] rfl EH.nd rfl rfl XW (IP rfl B.range (AA AF AD)) (λs H fp=>⟨Ag 2 W8,By,deM C4 hr (AA (AB 0) (AA (qN rfl rfl B.tuple rfl B.range (AA (AB 1) AD)) AD))⟩))
      (AH (Hb vk rfl (CM (Ab An (AB 11) (Ba (AA (BC AD) (AA (BC (AA AF (AA AF AD))) (AA (BC (AA (AB 3) AD)) (AA (Ba (AA AF AD)) (AA (BC (AA MS AD)) (AA RT (AA AF (AA Ah (AA (BC (AA (Oh Hk AF) AD)) (AA (deM Bk hr (AA (AB 1) (AA AF AD))) AD))))))))))))) (Ag 12 EH.nd) (AH (Ak 13 (AN AX (Ba (AA Ah (AA Ah AD))) (Av Ik rfl B.int zU (AA (deM FP hr (AA (AB 12) (AA (AB 3) AD))) AD))) EH.nd)
      (AK (CG (Ar (Jg hu) (WU (k:=10) S_law_why Lp XH ci bm (hr.mono (by decide)) rfl (λf c' clos A outer s H hr=>(deM Ip hr (AA (AB 0) (AA (AB 1) AD)))) (λf c' clos A outer s H hr=>(Iw Ii (hr.mono (by decide)) rfl (AA (AB 0) (AA (AB 1) AD)))) (λ_ _ _ _ _ _=>(E8 CT rfl (λ_=>AK (AO Ah)) (E8 FX rfl (λ_=>AK (AO Ah)) (E8 Cz rfl (λ_=>AK (AO Ah)) (E8 D9 rfl (λ_=>AK (AO Ah)) V9))))) (λ_ _ _ _ _ _=>Ah)) (AB 13)) (AK (AO MS)) Ap))))
      (AK (AO MS)))))))))
theorem jk{f:uu}{fd:xH}(F:Fun K "law" "law" JX f fd)(hm:mg "law"=Fk (.ref f))(bm:BmB mg base)(T:All w K mg):WH P w K mg base CX0 20 f fd ["_law_script"] (spD K 1 QY):=by
 have B:=T.bt
 have VU:=T.VU
 have HA:=T.HA
 have Dm:=T.Dm
 have J9:=T.J9
 have HH:=T.HH
 have Fm:=T.Fm
 have Gs:=T.Gs
 have FX:=T.FX
 have D9:=T.D9
 have CT:=T.CT
 have Cz:=T.Cz
 have Hc:=Hc (P:=P) (w:=w) (base:=base) T.Hj B
 have IW:=IW (P:=P) (w:=w) (base:=base) T.IQ Hc
 have BM:=BM (P:=P) (w:=w) (base:=base) T.GL IW
 have Cd:=Cd (P:=P) (w:=w) (base:=base) T.Ce B
 have BO:=BO (P:=P) (w:=w) (base:=base) T.Jv Cd
 have GR:=GR (P:=P) (w:=w) (base:=base) T.Mq BO
 have G7:=G7 (P:=P) (w:=w) (base:=base) T.NN BO
 have CN:=CN (P:=P) (w:=w) (base:=base) T.LH BO
 have Kz:=Kz (P:=P) (w:=w) (base:=base) T.LN BO
 have HZ:=HZ (P:=P) (w:=w) (base:=base) T.K7 Dm GR
 have El:=El (P:=P) (w:=w) (base:=base) T.EO B
 have A7:=A7 (P:=P) (w:=w) (base:=base) T.FE BM
 have Co:=Co (P:=P) (w:=w) (base:=base) T.DM B BM El
 have BY:=BY (P:=P) (w:=w) (base:=base) T.FG B
 have Ha:=Ha (P:=P) (w:=w) (base:=base) T.HC BY
 have F4:=F4 (P:=P) (w:=w) (base:=base) T.HN BY
 have Jj:=Jj (P:=P) (w:=w) (base:=base) T.G5 BY Ha F4
 have B5:=B5 (P:=P) (w:=w) (base:=base) T.D7
 have BV:=BV (P:=P) (w:=w) (base:=base) T.EM B5
 have BA:=BA (P:=P) (w:=w) (base:=base) T.B9
 have DJ:=DJ (P:=P) (w:=w) (base:=base) T.Iv BV BA
 have GK:=GK (P:=P) (w:=w) (base:=base) T.GA B
 have Ea:=Ea (P:=P) (w:=w) (base:=base) T.ER B Jj BV BA
 have AV:=AV (P:=P) (w:=w) (base:=base) T.Dg Ea
 have Cn:=Cn (P:=P) (w:=w) (base:=base) T.DH B HA
 have DB:=DB (P:=P) (w:=w) (base:=base) T.Bw B BM Cn J9
 have Be:=Be (P:=P) (w:=w) (base:=base) T.Bw B BM Cn
 have Aj:=Aj (P:=P) (w:=w) (base:=base) T.BU A7 Fm
 have AU:=AU (P:=P) (w:=w) (base:=base) T.BU A7
 have B1:=B1 (P:=P) (w:=w) (base:=base) T.Bd Co Gs
 have A4:=A4 (P:=P) (w:=w) (base:=base) T.Bd Co
 have FO:=FO (P:=P) (w:=w) (base:=base) T.DL B VU Dm
 have BJ:=BJ (P:=P) (w:=w) (base:=base) T.Cb B Kz
 have EU:=EU (P:=P) (w:=w) (base:=base) T.EJ B GK BJ
 have D8:=D8 (P:=P) (w:=w) (base:=base) T.CV B
 have EW:=EW (P:=P) (w:=w) (base:=base) T.Er BO D8
 have Di:=Di (P:=P) (w:=w) (base:=base) T.Df BJ EW
 have EV:=EV (P:=P) (w:=w) (base:=base) T.Ec B GR G7 CN
 have Bp:=Bp (P:=P) (w:=w) (base:=base) T.Dl Di EV
 have Dd:=Dd (P:=P) (w:=w) (base:=base) T.CD HA FO EU Bp
 have HJ:=HJ (P:=P) (w:=w) (base:=base) T.EX BV BA Bp Dd
 have Ct:=Ct (P:=P) (w:=w) (base:=base) T.BH B A7 HH
 have BW:=BW (P:=P) (w:=w) (base:=base) T.BH B A7
 have A1:=A1 (P:=P) (w:=w) (base:=base) T.EK B CN BJ HJ
 have Gh:=Gh (P:=P) (w:=w) (base:=base) T.Ey B GR CN HZ
 have CI:=CI (P:=P) (w:=w) (base:=base) T.CA B CN HZ DJ A1
 have Gi:=Gi (P:=P) (w:=w) (base:=base) T.Ji Dm BO CN
 have Je:=Je (P:=P) (w:=w) (base:=base) T.Gp AV Be AU A1 DB Aj
 have Ju:=Ju (P:=P) (w:=w) (base:=base) T.Gp AV Be AU A1
 have FJ:=FJ (P:=P) (w:=w) (base:=base) T.DN G7 AV AU A4 Gh CI Gi Aj B1
 have FK:=FK (P:=P) (w:=w) (base:=base) T.DN G7 AV AU A4 Gh CI Gi
 have D4:=D4 (P:=P) (w:=w) (base:=base) T.D5
 have B6:=B6 (P:=P) (w:=w) (base:=base) T.C6 B D4
 have Ii:=Ii (P:=P) (w:=w) (base:=base) T.Cu B DJ AV BW A1 B6 Ct
 have Ip:=Ip (P:=P) (w:=w) (base:=base) T.Cu B DJ AV BW A1 B6
 have Hi:=Hi (P:=P) (w:=w) (base:=base) T.Ee AV AU A1 B6 Aj
 have HP:=HP (P:=P) (w:=w) (base:=base) T.Ee AV AU A1 B6
 have LI:=LI (P:=P) (w:=w) (base:=base) T.K5 B
 have GD:=GD (P:=P) (w:=w) (base:=base) T.GV B
 have AM:=AM (P:=P) (w:=w) (base:=base) T.Jc
 have HI:=HI (P:=P) (w:=w) (base:=base) T.HQ
 have BP:=BP (P:=P) (w:=w) (base:=base) T.J0 B HI
 have EL:=EL (P:=P) (w:=w) (base:=base) T.Dz B AM BP
 have IS:=IS (P:=P) (w:=w) (base:=base) T.IZ AM EL
 have Cm:=Cm (P:=P) (w:=w) (base:=base) T.Hg AM
 have IF:=IF (P:=P) (w:=w) (base:=base) T.Ia B AM EL Cm
 have EN:=EN (P:=P) (w:=w) (base:=base) T.Fp B
 have IL:=IL (P:=P) (w:=w) (base:=base) T.Io AM BP
 have HE:=HE (P:=P) (w:=w) (base:=base) T.Ej B AM
 have J3:=J3 (P:=P) (w:=w) (base:=base) T.Dh B AM Cm IL HE
 have CS:=CS (P:=P) (w:=w) (base:=base) T.Jk BP
 have Bx:=Bx (P:=P) (w:=w) (base:=base) T.IT BP
 have HF:=HF (P:=P) (w:=w) (base:=base) T.Hh B BP CS Bx
 have J1:=J1 (P:=P) (w:=w) (base:=base) T.Gn B BP
 have Fy:=Fy (P:=P) (w:=w) (base:=base) T.Jo CS
 have Gg:=Gg (P:=P) (w:=w) (base:=base) T.Iq B CS Bx Fy
 have Hz:=Hz (P:=P) (w:=w) (base:=base) T.Jf B CS Bx Fy
 have Jz:=Jz (P:=P) (w:=w) (base:=base) T.Jd J1 Gg Hz
 have JF:=JF (P:=P) (w:=w) (base:=base) T.Ka B HF Jz
 have Jy:=Jy (P:=P) (w:=w) (base:=base) T.Gk B AM IS IF EN J3 JF
 have Bk:=Bk (P:=P) (w:=w) (base:=base) T.Fe B AM 8 (by decide)
 have Fv:=Fv (P:=P) (w:=w) (base:=base) T.Ed B AM
 have C4:=C4 (P:=P) (w:=w) (base:=base) T.HM B AM Bk 8 (by decide)
 have CU:=CU (P:=P) (w:=w) (base:=base) T.Iu B
 have HG:=HG (P:=P) (w:=w) (base:=base) T.DF B EN JF
 have C1:=C1 (P:=P) (w:=w) (base:=base) T.CZ B CU
 have Bl:=Bl (P:=P) (w:=w) (base:=base) T.Az bm T.Iy B Ju FK HP CU HG C1 FX D9 CT Cz Je FJ Hi
 have FP:=FP (P:=P) (w:=w) (base:=base) T.DK B CU
 exact bJ (P:=P) (w:=w) (base:=base) F hm bm T.Iy B Ip LI GD AM Jy Bk Fv C4 Bl FP FX D9 CT Cz Ii
end
theorem cD{K:Wp}{x:Str}{P f c:uu}{oc oc2:W1}{od od2:uo uu}{osl osl2:wK (uo W1)}{fd:xH}{vs:wK W1}{file:Str}{tf tg tt:Tok}{flags text:Int}{inF:vm}(e1:xK K mainGlobals x=Fk (Fk (.ref f)))(e2:K.lookup f=Fk ⟨oc,od,.func fd,osl⟩)(e3:fd.code=.ref c)(e4:K.lookup c=Fk ⟨oc2,od2,.fields vs,osl2⟩)(h0:oc2=.type "code")(h11:vs[11]?=Fk (.ref P))(h11':vs.getD 11 wW=.ref P)(h18:vs.getD 18 wW=.str file tf)(h7:vs.getD 7 wW=.int flags tg)(h9:vs.getD 9 wW=.bool inF)(h10:vs.getD 10 wW=.int text tt)(ne:c≠P):TabAt K x P:=
 ⟨f,oc,od,fd,osl,c,e1,e2,e3,_,vs,file,tf,flags,tg,inF,text,tt,e4,h0,rfl,h11,h11',h18,h7,h9,h10,ne⟩
theorem ZX{P:uu}:∀{K:Wp},P∉K.map (·.1)->K.lookup P=uk
 | [],_=>rfl
 |(a,o)::K,h=>by
  rw[vT,uw,AAp]at h
  have:(P==a)=false:=by simpa using h.1
  rw[wk,this]
  exact ZX h.2
theorem walk{l:AA3}{q:vR}{loose:Gc Str}{XP:(Str->uo W1)->ve->Prop}{d:DefRec}{K:Params->Wp}{as:Gc uu}{ea:∀(P:Params),as=List.map (λx=>x.fst) (K P)}{ts:Gc uu}(hn:l.most=Fk 63)(hdf:d.params.defaults=[])(na:∀P∈ts,P∉as)(nd:(((["_law_partner_right","law"]:Gc Str).zip ts).map (·.2)).Nodup)(hl:XQ ((["_law_partner_right","law"]:Gc Str).zip ts)=[Cl.tab "_law_partner_right",Cl.tab "law"])(hd:d.name="law")(F:∀(w:vi) (mg:Str->uo W1) (h:ve),(K w.params).In h->h.Ns mainGlobals mg->(∀z∈(["_law_partner_right","law"]:Gc Str).zip ts,TabAt (K w.params) z.1 z.2)/\All w (K w.params) mg):PySem.W.WalkO q loose XP (PySem.W.kmHook K as ea ts).says l.row.toRowW d [] (λf vs=>PySem.call f vs):=by
 refine nV (x:="_law_script") (k:=20) (Fn0:=QY) ((["_law_partner_right","law"]:Gc Str).zip ts) hn hdf ⟨rfl,by decide,by decide⟩ (λw h Y=>⟨Y.1,λz hz=>Y.2 _ (xQ hz).2⟩) nd (λw mg fa h KX G hmg=>?_) λns hns=>by rw[hl];exact jK ns hns
 obtain⟨hT,T⟩:=F w mg h KX G
 refine⟨λz hz=>⟨hT z hz,ZX (by rw[<-ea];exact na _ (xQ hz).2)⟩,?_⟩
 obtain⟨f,fd,F,hm⟩:=T.JX.ex
 rw[hd]at hmg
 have e:=hmg.symm.trans hm
 cases e
 refine⟨fd,λs v=>?_,λbase _ _ bm=>jk (P:=l.prog) (w:=w) (base:=base) F hm bm T⟩
 obtain⟨oc,od,kV,doc,pm,an,cdv,ct,osl,hfd,_⟩:=F.ex
 subst hfd
 exact .of_eq rfl
end Mi
end
noncomputable section
namespace PySem.W.Fast
theorem tw3325231108984038322:1=1:=rfl
theorem tw14425518788940814620:1=1:=rfl
theorem tw11373666901710944080:1=1:=rfl
theorem tw13187550736815588749:1=1:=rfl
theorem tw1491839014233901665:1=1:=rfl
theorem tw16909882161622227295:1=1:=rfl
theorem tw3941488213579728922:1=1:=rfl
theorem tw16803397081742316957:1=1:=rfl
theorem tw3990615410463867133:1=1:=rfl
theorem tw2042009057365112246:1=1:=rfl
theorem tw14851159250579533093:1=1:=rfl
theorem tw7048317021568566779:1=1:=rfl
theorem tw3380310694412275793:1=1:=rfl
theorem tw16521348961693457997:1=1:=rfl
theorem tw15247293256400709377:1=1:=rfl
theorem tw9491776301202081118:1=1:=rfl
theorem tw4618905967798739304:1=1:=rfl
theorem tw14426973405129764912:1=1:=rfl
theorem tw1128786384539878558:1=1:=rfl
theorem tw16455812027454860431:1=1:=rfl
theorem tw5847304492137420998:1=1:=rfl
theorem tw10269224187957541737:1=1:=rfl
theorem tw1786025852159771591:1=1:=rfl
theorem tw7375923148488402255:1=1:=rfl
theorem tw17225886638208108968:1=1:=rfl
theorem tw15243662670573454706:1=1:=rfl
theorem tw9350542715586455529:1=1:=rfl
theorem tw5722988977622291101:1=1:=rfl
theorem tw14581846448568054573:1=1:=rfl
theorem tw6348915937788628773:1=1:=rfl
theorem tw6944529894063373704:1=1:=rfl
theorem tw15610912740281719645:1=1:=rfl
theorem tw6039655380032317579:1=1:=rfl
theorem tw15777064508161785256:1=1:=rfl
theorem tw14103236152881699625:1=1:=rfl
theorem tw16706109166670138778:1=1:=rfl
theorem tw6156214807259091499:1=1:=rfl
theorem tw15740135192774363940:1=1:=rfl
theorem tw4023353143541166738:1=1:=rfl
theorem tw3224259938827163963:1=1:=rfl
theorem tw7846934679608822974:1=1:=rfl
theorem tw14228717991927856395:1=1:=rfl
theorem tw14186583983265976757:1=1:=rfl
theorem tw8106607019959529330:1=1:=rfl
theorem tw11778850245988259953:1=1:=rfl
theorem tw675811618403144571:1=1:=rfl
theorem tw15715924717055868032:1=1:=rfl
theorem tw1014736221776979057:1=1:=rfl
theorem tw1772627814360236121:1=1:=rfl
theorem tw12889553897754284755:1=1:=rfl
theorem tw17442672903637431486:1=1:=rfl
theorem tw8369319293617184982:1=1:=rfl
theorem tw11296810413450605637:1=1:=rfl
theorem tw7382533825287947832:1=1:=rfl
theorem tw233951091678805562:1=1:=rfl
theorem tw14704778324348301070:1=1:=rfl
theorem tw12542650161256392663:1=1:=rfl
theorem tw12039449723162491842:1=1:=rfl
theorem tw6979791634241200374:1=1:=rfl
theorem tw17661986713746119217:1=1:=rfl
theorem tw6223734723624769548:1=1:=rfl
theorem tw11436128944534731601:1=1:=rfl
theorem tw5332626046282424892:1=1:=rfl
theorem tw896792107873098472:1=1:=rfl
theorem tw13666856573300381368:1=1:=rfl
theorem tw15061499464942672679:1=1:=rfl
theorem tw11862519186182075904:1=1:=rfl
theorem tw14618871875527861916:1=1:=rfl
theorem tw6777924606992726563:1=1:=rfl
theorem tw10006678171487290234:1=1:=rfl
theorem tw13651140983995872473:1=1:=rfl
theorem tw4920297125151043733:1=1:=rfl
theorem tw1549429340035232160:1=1:=rfl
theorem tw8685987228693607253:1=1:=rfl
theorem tw14681441456294300444:1=1:=rfl
theorem tw11526796720982251547:1=1:=rfl
theorem tw10867616089584478334:1=1:=rfl
theorem tw2657989738976946328:1=1:=rfl
theorem tw15164918958882519006:1=1:=rfl
theorem tw12457981443936572843:1=1:=rfl
theorem tw1092370549079307094:1=1:=rfl
theorem tw185381569636519279:1=1:=rfl
theorem tw4707134611488806222:1=1:=rfl
theorem tw9002287585748433026:1=1:=rfl
theorem tw11432467791419200508:1=1:=rfl
theorem tw10167828605048166117:1=1:=rfl
theorem tw7724648730858782424:1=1:=rfl
theorem tw18361095073209604626:1=1:=rfl
theorem tw11658281984103623589:1=1:=rfl
theorem tw10248402159159566539:1=1:=rfl
theorem tw8586398410733113841:1=1:=rfl
theorem tw14797422032383709846:1=1:=rfl
theorem tw17470953627030911073:1=1:=rfl
theorem tw2943581100483023391:1=1:=rfl
theorem tw17746329915867200541:1=1:=rfl
theorem tw2024770239056572514:1=1:=rfl
theorem tw5744381223260745770:1=1:=rfl
theorem tw6922510896749173362:1=1:=rfl
theorem tw11647447809539594102:1=1:=rfl
theorem tw2536832342782984262:1=1:=rfl
theorem tw12472437472382177922:1=1:=rfl
theorem tw14295652828695030166:1=1:=rfl
theorem tw8326109464096204851:1=1:=rfl
theorem tw704434437790729212:1=1:=rfl
theorem tw12547359770416147043:1=1:=rfl
theorem tw6646969723824440988:1=1:=rfl
theorem tw3984585564384657804:1=1:=rfl
theorem tw17309487315783905069:1=1:=rfl
theorem tw16159303278349426962:1=1:=rfl
theorem tw13636814111435015292:1=1:=rfl
theorem tw16146308450338266071:1=1:=rfl
theorem tw10991849604175687909:1=1:=rfl
theorem tw9806152038114846633:1=1:=rfl
theorem tw5877262948140733742:1=1:=rfl
theorem tw7894908759464029914:1=1:=rfl
theorem tw1471897704612673522:1=1:=rfl
theorem tw17559619115361623258:1=1:=rfl
theorem tw13354309979265106252:1=1:=rfl
theorem tw15020164026257290367:1=1:=rfl
theorem tw17215587491178698001:1=1:=rfl
theorem tw14375725823487737592:1=1:=rfl
theorem tw17929593076246932359:1=1:=rfl
theorem tw7799206016723427747:1=1:=rfl
theorem tw11269094781915485399:1=1:=rfl
theorem tw4287822615726177831:1=1:=rfl
theorem tw7569978666957032682:1=1:=rfl
theorem tw14069043048926824273:1=1:=rfl
theorem tw11358574808928326414:1=1:=rfl
theorem tw17610098747650420936:1=1:=rfl
theorem tw17835557878170756092:1=1:=rfl
theorem tw14595614889713901640:1=1:=rfl
theorem tw6721371245994645798:1=1:=rfl
theorem tw12692614124982362660:1=1:=rfl
theorem tw11756295756723514146:1=1:=rfl
theorem tw14734412003225758686:1=1:=rfl
theorem tw7163384731904180138:1=1:=rfl
theorem tw2936187649738089044:1=1:=rfl
theorem tw6044690122532086396:1=1:=rfl
theorem tw7096516850316693182:1=1:=rfl
theorem tw9127168243181320315:1=1:=rfl
theorem tw573507268126239386:1=1:=rfl
theorem tw9874909191214206555:1=1:=rfl
theorem tw2191959967431326364:1=1:=rfl
theorem tw5030806814765111380:1=1:=rfl
theorem tw10597708800556784375:1=1:=rfl
theorem tw12780199248617571632:1=1:=rfl
theorem tw15809470433888982496:1=1:=rfl
theorem tw9079565992924330247:1=1:=rfl
theorem tw18033230933967630024:1=1:=rfl
theorem tw3114938708905566892:1=1:=rfl
theorem tw15963425289123298536:1=1:=rfl
theorem tw14996166421677367826:1=1:=rfl
theorem tw16175200177742292601:1=1:=rfl
theorem tw8318432663573101464:1=1:=rfl
theorem tw11291211166096977904:1=1:=rfl
theorem tw3813715921170087881:1=1:=rfl
theorem tw11109409356288362931:1=1:=rfl
theorem tw4894417886410534589:1=1:=rfl
theorem tw9074206045660467962:1=1:=rfl
theorem tw1369031382813640258:1=1:=rfl
theorem tw1603277490593869625:1=1:=rfl
theorem tw1141017082971812197:1=1:=rfl
theorem tw16271008633404709002:1=1:=rfl
theorem tw4749085688968491452:1=1:=rfl
theorem tw12503134404959333001:1=1:=rfl
theorem tw6889516154749013178:1=1:=rfl
theorem tw17738141695061054032:1=1:=rfl
theorem tw15681958045531060190:1=1:=rfl
theorem tw1893788422578457963:1=1:=rfl
theorem tw2060063868810697161:1=1:=rfl
theorem tw9327447948669963735:1=1:=rfl
theorem tw1535464402120733909:1=1:=rfl
theorem tw5046448647516063900:1=1:=rfl
theorem tw8475128295147258553:1=1:=rfl
theorem tw15459032871454244947:1=1:=rfl
theorem tw9371638943319867815:1=1:=rfl
theorem tw11836929160164700969:1=1:=rfl
theorem tw12534558982591335648:1=1:=rfl
theorem tw3798664350315237265:1=1:=rfl
theorem tw12225597073166371322:1=1:=rfl
theorem tw7249390044869824294:1=1:=rfl
theorem tw3768567819640228432:1=1:=rfl
theorem tw1336701905010013101:1=1:=rfl
theorem tw14192103274923738002:1=1:=rfl
theorem tw15495634841713926930:1=1:=rfl
theorem tw1777749498074929164:1=1:=rfl
theorem tw7852520121011055617:1=1:=rfl
theorem tw15104142652854159204:1=1:=rfl
theorem tw3285424088598377452:1=1:=rfl
theorem tw5430464278715341233:1=1:=rfl
theorem tw16423071352108893105:1=1:=rfl
theorem tw9399338509426623199:1=1:=rfl
theorem tw3755026632266867225:1=1:=rfl
theorem tw10461487722421734389:1=1:=rfl
theorem tw17280196550976600382:1=1:=rfl
theorem tw8992734888493407980:1=1:=rfl
theorem tw7753776404829907668:1=1:=rfl
theorem tw15181388841484687849:1=1:=rfl
theorem tw7172220379630012285:1=1:=rfl
theorem tw9516006116121187907:1=1:=rfl
theorem tw16989878019363648940:1=1:=rfl
theorem tw7090800074749920919:1=1:=rfl
theorem tw463155565664022252:1=1:=rfl
theorem tw10446869289318003274:1=1:=rfl
theorem tw12859709308882881097:1=1:=rfl
theorem tw6758940234783506034:1=1:=rfl
theorem tw5710152821290946451:1=1:=rfl
theorem tw12472565022754989134:1=1:=rfl
theorem tw2668915129174720208:1=1:=rfl
theorem tw7725642658070802473:1=1:=rfl
theorem tw8235429917516408908:1=1:=rfl
theorem tw12139568609030453319:1=1:=rfl
theorem tw9026561649400990197:1=1:=rfl
theorem tw624300311139570832:1=1:=rfl
theorem tw3138598055093417965:1=1:=rfl
theorem tw13963104449543282656:1=1:=rfl
theorem tw17354586111004334642:1=1:=rfl
theorem tw3755583625790672340:1=1:=rfl
theorem tw13792357882710178166:1=1:=rfl
theorem tw12479714214438042722:1=1:=rfl
theorem tw12578942731058442969:1=1:=rfl
theorem tw17366905489429968452:1=1:=rfl
theorem tw6795428789151233070:1=1:=rfl
theorem tw9188517608174705951:1=1:=rfl
theorem tw1742043267008414084:1=1:=rfl
theorem tw2893423709184894439:1=1:=rfl
theorem tw7601201894884656972:1=1:=rfl
theorem tw2802567731644114569:1=1:=rfl
theorem tw4621151990849711794:1=1:=rfl
theorem tw7628881355399055399:1=1:=rfl
theorem tw11170851811788128932:1=1:=rfl
theorem tw12882481855262967700:1=1:=rfl
theorem tw9791617550996835370:1=1:=rfl
theorem tw4027321394938255843:1=1:=rfl
theorem tw8302112475622890665:1=1:=rfl
theorem tw9776146059630114083:1=1:=rfl
theorem tw17779763532152018785:1=1:=rfl
theorem tw3295942882075383682:1=1:=rfl
theorem tw8624445018641025746:1=1:=rfl
theorem tw5503187205705189791:1=1:=rfl
theorem tw15233934296787575244:1=1:=rfl
theorem tw4873874992223897304:1=1:=rfl
theorem tw13188503090988336310:1=1:=rfl
theorem tw15196894190203785835:1=1:=rfl
theorem tw9825564470852587865:1=1:=rfl
theorem tw4539884273622515735:1=1:=rfl
theorem tw15882668989509384986:1=1:=rfl
theorem tw3277122336623573852:1=1:=rfl
theorem tw18184650795573030935:1=1:=rfl
theorem tw17407917049744071268:1=1:=rfl
theorem tw3278236792544125105:1=1:=rfl
theorem tw748662024003801735:1=1:=rfl
theorem tw5361870518678373448:1=1:=rfl
theorem tw11387020972366962200:1=1:=rfl
theorem tw6384940133761836470:1=1:=rfl
theorem tw4412335413230936477:1=1:=rfl
theorem tw11694053348986720027:1=1:=rfl
theorem tw3969427308828029923:1=1:=rfl
theorem tw11854349487230168382:1=1:=rfl
theorem tw10889730163170004241:1=1:=rfl
theorem tw8439215249397993982:1=1:=rfl
theorem tw9712746642813464884:1=1:=rfl
theorem tw16930839962852281238:1=1:=rfl
theorem tw12666730947063778900:1=1:=rfl
theorem tw2561491626489727503:1=1:=rfl
theorem tw7401809127886086173:1=1:=rfl
theorem tw8041172705536196478:1=1:=rfl
theorem tw8169448827722169608:1=1:=rfl
theorem tw18397773660470060968:1=1:=rfl
theorem tw9042277824851301788:1=1:=rfl
theorem tw1836857733458983363:1=1:=rfl
theorem tw16987316940930379687:1=1:=rfl
theorem tw10535009929926912095:1=1:=rfl
theorem tw4441618943659265356:1=1:=rfl
theorem tw10098356896644460737:1=1:=rfl
theorem tw12311369891275008265:1=1:=rfl
theorem tw16641615688430152834:1=1:=rfl
theorem tw11884240296073703242:1=1:=rfl
theorem tw2681599761245961166:1=1:=rfl
theorem tw12012347349791789442:1=1:=rfl
theorem tw14347720670966141647:1=1:=rfl
theorem tw12846550057873114344:1=1:=rfl
theorem tw1417956099290703554:1=1:=rfl
theorem tw9314410535014951202:1=1:=rfl
theorem tw10710231773922414819:1=1:=rfl
theorem tw113399156163492689:1=1:=rfl
theorem tw17459049985184311232:1=1:=rfl
theorem tw1155214947921863445:1=1:=rfl
theorem tw13964750610686715845:1=1:=rfl
theorem tw2077287000135587798:1=1:=rfl
theorem tw9913553888535195903:1=1:=rfl
theorem tw16190957130187269436:1=1:=rfl
theorem tw4520841251280323497:1=1:=rfl
theorem tw4727344831953228977:1=1:=rfl
theorem tw13733202335651828356:1=1:=rfl
theorem tw14037396913835571027:1=1:=rfl
theorem tw114891668051351289:1=1:=rfl
theorem tw1561852894121795094:1=1:=rfl
theorem tw14688799795201645848:1=1:=rfl
theorem tw4398388454674692419:1=1:=rfl
theorem tw823148855733309715:1=1:=rfl
theorem tw12845414623288423641:1=1:=rfl
theorem tw13662176085053705291:1=1:=rfl
theorem tw12831766573075581602:1=1:=rfl
theorem tw4720520012735028485:1=1:=rfl
theorem tw8310221987084555781:1=1:=rfl
theorem tw10715285543497010056:1=1:=rfl
theorem tw11302824954248662375:1=1:=rfl
theorem tw4555441003124984997:1=1:=rfl
theorem tw5013994357698137822:1=1:=rfl
theorem tw4217181947887829378:1=1:=rfl
theorem tw4322031634444007537:1=1:=rfl
theorem tw16833647068316707446:1=1:=rfl
theorem tw1045754277117241208:1=1:=rfl
theorem tw13693104205081175263:1=1:=rfl
theorem tw16428308822887507536:1=1:=rfl
theorem tw11993439315203254806:1=1:=rfl
theorem tw6839644507342306485:1=1:=rfl
theorem tw16270770169489407056:1=1:=rfl
theorem tw13843351623125489021:1=1:=rfl
theorem tw7998974759300947084:1=1:=rfl
theorem tw884558891757665890:1=1:=rfl
theorem tw677906875588643265:1=1:=rfl
theorem tw15416684921451117073:1=1:=rfl
theorem tw3798578634646583144:1=1:=rfl
theorem tw10344481604155975030:1=1:=rfl
theorem tw9931976803415697858:1=1:=rfl
theorem tw4831880650781245990:1=1:=rfl
theorem tw5715083544725884975:1=1:=rfl
theorem tw12428143799291548032:1=1:=rfl
theorem tw2584739336225806865:1=1:=rfl
theorem tw10421092831669483875:1=1:=rfl
theorem tw14617363612831938611:1=1:=rfl
theorem tw16963332920382021329:1=1:=rfl
theorem tw1831853656752985979:1=1:=rfl
theorem tw6658594168347835599:1=1:=rfl
theorem tw14264175722167951088:1=1:=rfl
theorem tw1162077069391486795:1=1:=rfl
theorem tw14389045499444214188:1=1:=rfl
theorem tw8453967195707209396:1=1:=rfl
theorem tw13962355975303146628:1=1:=rfl
theorem tw2362729739088505954:1=1:=rfl
theorem tw11482269592791698769:1=1:=rfl
theorem tw2221537190122241754:1=1:=rfl
theorem tw18068331528477798833:1=1:=rfl
theorem tw6878519971076095871:1=1:=rfl
theorem tw12026806886451577919:1=1:=rfl
theorem tw4779322098034891587:1=1:=rfl
theorem tw6217993355176933383:1=1:=rfl
theorem tw12038397217682978221:1=1:=rfl
theorem tw15755182665347877124:1=1:=rfl
theorem tw648617774465389465:1=1:=rfl
theorem tw11892856975644513499:1=1:=rfl
theorem tw10729588601337837852:1=1:=rfl
theorem tw11580438422411093262:1=1:=rfl
theorem tw3987468753289399352:1=1:=rfl
theorem tw9458370271999718934:1=1:=rfl
theorem tw3205849175985168708:1=1:=rfl
theorem tw8913602610825557944:1=1:=rfl
theorem tw2027579869074693277:1=1:=rfl
theorem tw6161405960119462099:1=1:=rfl
theorem tw11294953714940158259:1=1:=rfl
theorem tw6035520428357809767:1=1:=rfl
theorem tw2032360621716113643:1=1:=rfl
theorem tw15540552246555534969:1=1:=rfl
theorem tw12123297130992940835:1=1:=rfl
theorem tw17745349146999217859:1=1:=rfl
theorem tw13791049379638596158:1=1:=rfl
theorem tw11116897359015393003:1=1:=rfl
theorem tw12802738895438988368:1=1:=rfl
theorem tw16939085788301826764:1=1:=rfl
theorem tw519133358590191277:1=1:=rfl
theorem tw17199119550785505102:1=1:=rfl
theorem tw12471012096671682976:1=1:=rfl
theorem tw14677355945229242009:1=1:=rfl
theorem tw568743109014559696:1=1:=rfl
theorem tw10794029841277982582:1=1:=rfl
theorem tw844001269531194322:1=1:=rfl
theorem tw15700766140141015745:1=1:=rfl
theorem tw13080934008413094944:1=1:=rfl
theorem tw17165167825164367644:1=1:=rfl
theorem tw14866868223993671782:1=1:=rfl
theorem tw3361202325677269740:1=1:=rfl
theorem tw7202765574973877786:1=1:=rfl
theorem tw5834778703255643316:1=1:=rfl
theorem tw12148672658729019694:1=1:=rfl
theorem tw9036001018578858629:1=1:=rfl
theorem tw7803299305331325866:1=1:=rfl
theorem tw4902231266183598615:1=1:=rfl
theorem tw1724448812578747357:1=1:=rfl
theorem tw7918869922693089300:1=1:=rfl
theorem tw15819904743370771971:1=1:=rfl
theorem tw1801138899810989534:1=1:=rfl
theorem tw13868740119072739902:1=1:=rfl
theorem tw15963356813539694781:1=1:=rfl
theorem tw1363690447074474884:1=1:=rfl
theorem tw2708018324049265926:1=1:=rfl
theorem tw11138416757813666684:1=1:=rfl
theorem tw10232256986645983026:1=1:=rfl
theorem tw12485857645773588597:1=1:=rfl
theorem tw5016010742345929636:1=1:=rfl
theorem tw14603424301663933396:1=1:=rfl
theorem tw2139308974419669377:1=1:=rfl
theorem tw10237012563650677193:1=1:=rfl
theorem tw13401471901670305029:1=1:=rfl
theorem tw18405442686541310158:1=1:=rfl
theorem tw9434489205504172301:1=1:=rfl
theorem tw1749298941446553647:1=1:=rfl
theorem tw5615588376300399470:1=1:=rfl
theorem tw17866474579568462192:1=1:=rfl
theorem tw2667491876853226767:1=1:=rfl
theorem tw7686359555779688194:1=1:=rfl
theorem tw17985948831702712913:1=1:=rfl
theorem tw13065818005146926623:1=1:=rfl
theorem tw9458754374820649960:1=1:=rfl
theorem tw9473279864857787086:1=1:=rfl
theorem tw9782741998275787119:1=1:=rfl
theorem tw9903417529995798862:1=1:=rfl
theorem tw9609234567261723503:1=1:=rfl
theorem tw9448592155599930674:1=1:=rfl
end PySem.W.Fast
open PySem PySem.W PyProof.Rows
set_option maxRecDepth 100000 in
set_option maxHeartbeats 0 in
theorem PySem.Challenge.cw_sharetrail_k60_home_refused_holds : PySem.Challenge.rw_sharetrail_k60_home_refused.Holds := by
 w_on;o_law;k_head;(case hw=>w_witness2)
 k_fill
 refine Mi.walk (l:=PySem.Challenge.rw_sharetrail_k60_home_refused) rfl rfl (by decide) (by decide) rfl rfl ?F
 case F=>
  intro w mg h KX G
  refine⟨?T,?_⟩
  case T=>
   intro z hz
   rcases List.mem_cons.mp hz with e|hz
   .subst e
    refine' Mi.cD ?t1 ?t2 ?t3 ?t4 ?t5 ?t6 ?t7 ?t8 ?t9 ?t10 ?t11 ?t12
    (case t1=>k_is)
    (case t2=>k_is)
    (case t3=>rfl)
    (case t4=>k_is)
    (case t5=>rfl)
    (case t6=>rfl)
    (case t7=>rfl)
    (case t8=>rfl)
    (case t9=>rfl)
    (case t10=>rfl)
    (case t11=>rfl)
    (case t12=>decide)
   rcases List.mem_cons.mp hz with e|hz
   .subst e
    refine' Mi.cD ?t1x ?t2x ?t3x ?t4x ?t5x ?t6x ?t7x ?t8x ?t9x ?t10x ?t11x ?t12x
    (case t1x=>k_is)
    (case t2x=>k_is)
    (case t3x=>rfl)
    (case t4x=>k_is)
    (case t5x=>rfl)
    (case t6x=>rfl)
    (case t7x=>rfl)
    (case t8x=>rfl)
    (case t9x=>rfl)
    (case t10x=>rfl)
    (case t11x=>rfl)
    (case t12x=>decide)
   cases hz
  have VU:Mi.Wj (L2.KOf KX) mg "ALL" Mi.ZY:=by
   dsimp only[L2.KOf]
   refine' Mi.Yz KX G ?e ?r
   (case e=>k_is)
   case r=>
    refine' Mi.Vf ?l ?z ?r
    (case l=>k_is)
    (case z=>decide)
    case r=>
     refine' Paired.cons ?_ ?_
     .exact Mi.Tn
     refine' Paired.cons ?_ ?_
     .exact Mi.Tn
     exact Paired.nil
  have HA:Mi.Wj (L2.KOf KX) mg "MAKERS" Mi.DR:=by
   dsimp only[L2.KOf]
   refine' Mi.Yz KX G ?e ?r
   (case e=>k_is)
   case r=>
    refine' Mi.Vf ?l ?z ?r
    (case l=>k_is)
    (case z=>decide)
    case r=>
     refine' Paired.cons ?_ ?_
     .exact Mi.Ta
     refine' Paired.cons ?_ ?_
     .exact Mi.Ta
     refine' Paired.cons ?_ ?_
     .exact Mi.Ta
     refine' Paired.cons ?_ ?_
     .exact Mi.Ta
     exact Paired.nil
  have Dm:Mi.Wj (L2.KOf KX) mg "NOTHING" Mi.ET:=by
   dsimp only[L2.KOf]
   refine' Mi.Yz KX G ?e ?r
   (case e=>k_is)
   case r=>
    refine' Mi.Vf ?l ?z ?r
    (case l=>k_is)
    (case z=>decide)
    case r=>
     refine' Paired.cons ?_ ?_
     .exact Mi.Tn
     refine' Paired.cons ?_ ?_
     .exact Mi.Tn
     exact Paired.nil
  have J9:Mi.XcD (L2.KOf KX) mg "NoLoad":=by
   dsimp only[L2.KOf]
   refine' Mi.aM KX G ?xce ?xcq
   (case xce=>k_is)
   (case xcq=>k_exc)
  have HH:Mi.XcD (L2.KOf KX) mg "NoOrder":=by
   dsimp only[L2.KOf]
   refine' Mi.aM KX G ?xce ?xcq
   (case xce=>k_is)
   (case xcq=>k_exc)
  have Fm:Mi.XcD (L2.KOf KX) mg "NoPartner":=by
   dsimp only[L2.KOf]
   refine' Mi.aM KX G ?xce ?xcq
   (case xce=>k_is)
   (case xcq=>k_exc)
  have Gs:Mi.XcD (L2.KOf KX) mg "NoPrices":=by
   dsimp only[L2.KOf]
   refine' Mi.aM KX G ?xce ?xcq
   (case xce=>k_is)
   (case xcq=>k_exc)
  have FX:Mi.XmD (L2.KOf KX) mg ["NoPartner","NoLoad","NoPrices","NoOrder"] "NoLoad":=by
   dsimp only[L2.KOf]
   refine' Mi.WR KX G ?xme ?xmt
   (case xme=>k_is)
   case xmt=>
    refine' Mi.Ho ?xma ?xmb ?xmc ?_
    (case xma=>k_is)
    (case xmb=>kts_exm)
    (case xmc=>decide)
    refine' Mi.Ho ?xma ?xmb ?xmc ?_
    (case xma=>k_is)
    (case xmb=>kts_exm)
    (case xmc=>decide)
    refine' Mi.Ho ?xma ?xmb ?xmc ?_
    (case xma=>k_is)
    (case xmb=>kts_exm)
    (case xmc=>decide)
    refine' Mi.Ho ?xma ?xmb ?xmc ?_
    (case xma=>k_is)
    (case xmb=>kts_exm)
    (case xmc=>decide)
    exact Mi.all_nil
  have D9:Mi.XmD (L2.KOf KX) mg ["NoPartner","NoLoad","NoPrices","NoOrder"] "NoOrder":=by
   dsimp only[L2.KOf]
   refine' Mi.WR KX G ?xme ?xmt
   (case xme=>k_is)
   case xmt=>
    refine' Mi.Ho ?xma ?xmb ?xmc ?_
    (case xma=>k_is)
    (case xmb=>kts_exm)
    (case xmc=>decide)
    refine' Mi.Ho ?xma ?xmb ?xmc ?_
    (case xma=>k_is)
    (case xmb=>kts_exm)
    (case xmc=>decide)
    refine' Mi.Ho ?xma ?xmb ?xmc ?_
    (case xma=>k_is)
    (case xmb=>kts_exm)
    (case xmc=>decide)
    refine' Mi.Ho ?xma ?xmb ?xmc ?_
    (case xma=>k_is)
    (case xmb=>kts_exm)
    (case xmc=>decide)
    exact Mi.all_nil
  have CT:Mi.XmD (L2.KOf KX) mg ["NoPartner","NoLoad","NoPrices","NoOrder"] "NoPartner":=by
   dsimp only[L2.KOf]
   refine' Mi.WR KX G ?xme ?xmt
   (case xme=>k_is)
   case xmt=>
    refine' Mi.Ho ?xma ?xmb ?xmc ?_
    (case xma=>k_is)
    (case xmb=>kts_exm)
    (case xmc=>decide)
    refine' Mi.Ho ?xma ?xmb ?xmc ?_
    (case xma=>k_is)
    (case xmb=>kts_exm)
    (case xmc=>decide)
    refine' Mi.Ho ?xma ?xmb ?xmc ?_
    (case xma=>k_is)
    (case xmb=>kts_exm)
    (case xmc=>decide)
    refine' Mi.Ho ?xma ?xmb ?xmc ?_
    (case xma=>k_is)
    (case xmb=>kts_exm)
    (case xmc=>decide)
    exact Mi.all_nil
  have Cz:Mi.XmD (L2.KOf KX) mg ["NoPartner","NoLoad","NoPrices","NoOrder"] "NoPrices":=by
   dsimp only[L2.KOf]
   refine' Mi.WR KX G ?xme ?xmt
   (case xme=>k_is)
   case xmt=>
    refine' Mi.Ho ?xma ?xmb ?xmc ?_
    (case xma=>k_is)
    (case xmb=>kts_exm)
    (case xmc=>decide)
    refine' Mi.Ho ?xma ?xmb ?xmc ?_
    (case xma=>k_is)
    (case xmb=>kts_exm)
    (case xmc=>decide)
    refine' Mi.Ho ?xma ?xmb ?xmc ?_
    (case xma=>k_is)
    (case xmb=>kts_exm)
    (case xmc=>decide)
    refine' Mi.Ho ?xma ?xmb ?xmc ?_
    (case xma=>k_is)
    (case xmb=>kts_exm)
    (case xmc=>decide)
    exact Mi.all_nil
  have z_abs:mg "abs"=none:=by
   refine' PySem.W.mg_none_of KX G ?z
   (case z=>k_is)
  have z_all:mg "all"=none:=by
   refine' PySem.W.mg_none_of KX G ?z
   (case z=>k_is)
  have z_bool:mg "bool"=none:=by
   refine' PySem.W.mg_none_of KX G ?z
   (case z=>k_is)
  have z_enumerate:mg "enumerate"=none:=by
   refine' PySem.W.mg_none_of KX G ?z
   (case z=>k_is)
  have z_int:mg "int"=none:=by
   refine' PySem.W.mg_none_of KX G ?z
   (case z=>k_is)
  have z_isinstance:mg "isinstance"=none:=by
   refine' PySem.W.mg_none_of KX G ?z
   (case z=>k_is)
  have z_len:mg "len"=none:=by
   refine' PySem.W.mg_none_of KX G ?z
   (case z=>k_is)
  have z_list:mg "list"=none:=by
   refine' PySem.W.mg_none_of KX G ?z
   (case z=>k_is)
  have z_min:mg "min"=none:=by
   refine' PySem.W.mg_none_of KX G ?z
   (case z=>k_is)
  have z_range:mg "range"=none:=by
   refine' PySem.W.mg_none_of KX G ?z
   (case z=>k_is)
  have z_set:mg "set"=none:=by
   refine' PySem.W.mg_none_of KX G ?z
   (case z=>k_is)
  have z_sorted:mg "sorted"=none:=by
   refine' PySem.W.mg_none_of KX G ?z
   (case z=>k_is)
  have z_str:mg "str"=none:=by
   refine' PySem.W.mg_none_of KX G ?z
   (case z=>k_is)
  have z_sum:mg "sum"=none:=by
   refine' PySem.W.mg_none_of KX G ?z
   (case z=>k_is)
  have z_tuple:mg "tuple"=none:=by
   refine' PySem.W.mg_none_of KX G ?z
   (case z=>k_is)
  have z_zip:mg "zip"=none:=by
   refine' PySem.W.mg_none_of KX G ?z
   (case z=>k_is)
  refine⟨⟨z_abs,z_all,z_bool,z_enumerate,z_int,z_isinstance,z_len,z_list,z_min,z_range,z_set,z_sorted,z_str,z_sum,z_tuple,z_zip⟩,VU,HA,Dm,J9,HH,Fm,Gs,FX,D9,CT,Cz,?_,?_,?_,?_,?_,?_,?_,?_,?_,?_,?_,?_,?_,?_,?_,?_,?_,?_,?_,?_,?_,?_,?_,?_,?_,?_,?_,?_,?_,?_,?_,?_,?_,?_,?_,?_,?_,?_,?_,?_,?_,?_,?_,?_,?_,?_,?_,?_,?_,?_,?_,?_,?_,?_,?_,?_,?_,?_,?_,?_,?_,?_,?_,?_,?_,?_,?_,?_,?_,?_,?_,?_,?_,?_,?_,?_,?_,?_,?_,?_,?_,?_⟩
  all_goals (refine' Mi.lH KX G ?a ?l ?c ?k;(case a=>k_is);(case l=>k_is);(case c=>k_is);(case k=>k_is))
end
