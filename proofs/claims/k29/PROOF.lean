import PyProof.Rows.All
import Wide.All
import OpenK.AllK
import Wide.FinOn
import Lean
import PyProof.EqAt
import PyProof.EqKinds
import PyProof.TupleCall
import PyProof.Draws
import PyProof.EnumMake
import PyProof.EnumFor
import PyProof.ZipIter
import PyProof.ListMulRoad
import PyProof.NeData
import PyProof.SumWalkG
import PyProof.FactsAll.subtypes_4
import PySem.Challenge.RW_sharetrail_k29_whole_pieces_and_their_ro
set_option Elab.async false
set_option linter.all false
set_option maxRecDepth 100000
set_option maxHeartbeats 4000000
set_option exponentiation.threshold 10000
open _root_ renaming List->KE,Option->tY,of_decide_eq_true->uO,if_pos->uZ,if_neg->uh,Array->uu,Bool->uv,or_false->vg,decide_eq_true->wK,String->xD,decide_eq_false->xG,False->xy,beq_iff_eq->yV,if_false->yi,if_true->yj,beq_eq_false_iff_ne->zN,DecidableEq->zl,not_or->AAX
open Array renaming length_toList->vq,toArray_toList->yB,getD->AAZ,getElem?_map->ABc
open Bool renaming and_eq_true->uP,false_ne_true->vC,or_eq_true->vc,noConfusion->v5,false_eq_true->xh
open False renaming elim->xc
open ForInStep renaming yield->zH
open Int renaming toNat_of_nonneg->vF,mul_pos->vY,natAbs_natCast->wH,toNat_natCast->wN,emod_nonneg->xI,natAbs_mul->xZ,emod_lt_of_pos->xn,lt_of_lt_of_le->yX,mul_le_mul_of_nonneg_right->y7,mul_ediv_cancel_left->AAC,pow_succ->AAg,natCast_mul->AAn,le_refl->ABD
open List renaming mem_cons_of_mem->tf,getD_eq_getElem?_getD->tu,getElem?_append_left->tz,getElem?_eq_getElem->t7,map_cons->t8,mem_cons_self->uD,getElem?_set_ne->uE,mem_cons->uF,getElem?_set_self->uG,getElem?_eq_some_iff->uI,range->uJ,getElem?_concat_length->uL,size_toArray->uM,getElem?_map->uN,replicate->uQ,mem_of_getElem?->uS,mem_append->uU,nil_append->uV,length_map->uX,not_mem_nil->uY,sum_cons->ub,map_map->uc,cons_append->uj,mem_singleton->uk,mem_map->um,length_cons->uq,mem_append_right->uw,getElem?_append_right->u3,map_nil->u4,getElem?_eq_none->vB,drop_eq_getElem_cons->vD,filterMap_cons->vJ,length_append->vL,prefix_rfl->vT,map_append->vU,replicate_succ->vd,map_congr_left->vf,take_of_length_le->vn,drop_eq_nil_of_le->vo,filter_cons->vp,length_filter_le->vv,lookup_cons->vy,getElem?_range->wB,length_set->wC,pairwise_cons->wG,mem_filter->wR,nodup_cons->wU,map_set->wd,any_cons->wg,getElem_mem->wm,ext_getElem->wq,mem_or_eq_of_mem_set->xF,mem_append_left->xJ,flatten_cons->xK,append_assoc->xM,any_eq_true->xY,prefix_append->xk,of_mem_zip->xq,find?_cons->xt,mem_iff_getElem?->xw,nodup_append->x8,mem_range'_1->x9,length_nil->yU,lookup_append->yW,length->yY,getElem?_inj->yl,pairwise_lt_range->yn,zipWith->yq,ext_getElem?->yr,zipIdx_cons->yy,all_cons->y8,range'->zD,getElem?_zipWith_eq_some->zE,append_nil->zG,mem_range->zS,getElem?_eq_none_iff->zf,getElem?_zip_eq_some->zg,length_range->z6,map_take->AAD,set_eq_of_length_le->AAE,length_take->AAG,getElem?_replicate->AAH,zipWith_cons_cons->AAf,range_succ_eq_map->AAh,foldl_cons->AAj,forIn_cons->AAl,sum_append->AAm,length_singleton->AAq,set_append_right->AAt,forIn_nil->AAy,take_succ->AA2,drop_eq_nil_iff->AA4,pairwise_append->AA5,length_eraseIdx->AA8,set_append_left->ABC,mem_of_mem_take->ABE,getElem?_append->ABF,mem_iff_getElem->ABG,length_pos_iff->ABL,Pairwise->ABR,mem_filterMap->ABU,foldl->ABX,set_cons_zero->ABd
open List.MergeSort.Internal renaming splitInTwo->ABe
open List.Pairwise renaming nil->zv,sublist->AAr
open List.Perm renaming refl->yp
open Nat renaming le_refl->tw,lt_of_lt_of_le->t9,le_trans->uA,ne_of_lt->uR,pow_le_pow_right->ux,mul_le_mul_right->uy,lt_of_le_of_lt->vM,lt_irrefl->vV,lt_succ_of_lt->vX,zero_le->ve,le_succ_of_le->vh,le_of_lt->wI,lt_succ_self->wk,mul_comm->xg,pos_of_ne_zero->xm,lt_or_ge->xo,le_of_succ_le->x5,mul_pos->yD,mul_le_mul->yE,lt_trans->yI,zero_add->yK,ne_of_gt->yd,mul_assoc->y9,gcd->zR,one_lt_two_pow->ze,le_succ->zw,add_comm->AAU,gcd_comm->AAd,pow_succ->AAe,mod_lt->ABb
open Ne renaming symm->vZ
open Option renaming some->Gc,bind_some->y0,map_eq_some_iff->AAV,isSome_some->ABY,map->ABa
open Option.some renaming inj->vS
open PyProof.Rows renaming slot_tuple_getitem->vI,boot_tuple->va,IntsAre->wM,step_dedup->wV,callWith_type1->wZ,envOfC->yP,assignInOrder_cons->zU,AllBare->zq,subscriptTail_builtinR->AAR,boot_int->ABB,entry_tuple_getitem->ABJ,args_tuple_getitem->ABW
open PyProof.Rows.F renaming plain_set_update_loop->yb,entry_set_update_loop->AAM
open PyProof.Rows.IsTup renaming new->yN
open PySem renaming wpAny_bind->Wp,Value->tW,Shared->tZ,wpAny_pure->tq,Addr->uC,Program->uT,starEach->uW,Expr->ui,World->ur,Heap->uz,Around->u5,wpAny_call_entry->u9,wpAny_callSpecial?_slot->vA,Stmt->vE,wpAny_newObj_type->vG,wpAny_holding->vK,mem_of_lookup->vP,wpAny_pyIter_list->v8,boot_len->v9,wpAny_pyIter_tuple->wF,Builtin->wJ,wpAny_seqItems->wL,codeAny_builtin->wW,FuncData->wX,wpAny_field->we,wpAny_setField->w9,wpAny_setField_rec->xA,Scope->xC,wpAny_passesOwn->xH,wpAny_setState_of->xO,wpAny_rule->xP,IsPair->xS,wpAny_setEntries_of->xV,wpAny_getItem_str_slice->xW,wpAny_Call_Name_kw->xf,NameKind->xp,wpAny_updateSeq->xu,wpAny_mono->yA,wpAny_typeOf->yH,wpAny_isInstance->yJ,wpAny_binaryOp_repeat_ref->yM,wpAny_standAt->yQ,wpAny_attempt->yS,plainId_quiet->yT,wpAny_truthy_bool->yc,wpAny_pyNext_list_item->ye,codeAny_mono->yg,fits_of_scanBound->yo,wpAny_pyNext_list_end->yt,typeIs_int->yw,call_meets->yx,wpAny_updateSeq_pair->zC,wpAny_execs_nil->zF,wpAny_specialOf->zI,post_val_or_str->zL,tupleKind_room_in1->zY,IsZip->zZ,wpAny_fieldsOf->zd,Keyword->zt,wpAny_setEpoch_of->z0,wpAny_comprehension_free->z7,wpAny_onRaise->z8,wpAny_newList->AAB,noFill_tuple_add->AAI,wpAny_askSetting->AAN,IsPart->AAQ,typeIs_str->AAS,ElemsOf->AAa,wpAny_pyIter_listiter->AAp,builtinLookup_eq_fast->AAs,wpAny_letGo->AAz,isSubtype_stop->AA0,intBits_le_iff->AA3,wpAny_runValue->AA6,isSubtype_type->AA7,codeAny_extend_loopS->ABA,ItemsOf->ABI,seq_tuple_add->ABP
open PySem.Around renaming under_plainId->v7
open PySem.AutoSeq1 renaming wpAny_loadPart'->ua
open PySem.Builtin.List renaming listExtendWith->vO,listTooLong->vw,listLengthHint->wc,listSameRef->xU,listItems->AAc
open PySem.Builtin.Slice renaming slicePlaces->xE,sliceAdjust->yL,sliceApplied->zW
open PySem.Builtin.SmallTypes renaming nextOf->u6,ownedTupleIsFree->vx,ownedTupleHandOut->yO
open PySem.Builtin.Tuple renaming tupleExact->xR,tupleItemsOf->zX,tupleTooMany->zc
open PySem.Calls renaming spliced_cons->yF,call_function_entry->zM,spliced_nil->zO,Name_function_global->zT,callWith_builtin->AAT,evalArgs_plain->AAw
open PySem.Challenge renaming pw_sharetrail_k29_whole_pieces_and_their_ro->yv
open PySem.F renaming slot_list_append->ue,type_list_append->uf,slot_tuple_iterator_next->wy,slot_str_getitem->xT,called_set->xl,slot_int_rmul->xr,plain_list_iadd->yC,args_tuple_add_2->yR,entry_tuple_add->yZ,slot_tuple_add->yh,slot_dict_get->yu,slot_tuple_mul->yz,slot_list_extend->zA,args_tuple_iterator_next_1->zJ,slot_zip_next->zK,entry_tuple_iterator_next->zP,args_int_rmul_2->zu,entry_proto_collect->z9,plain_proto_collect->AAA,slot_int_index->AAJ,entry_int_rmul->AAK,args_dict_get_3->AAL,entry_dict_get->AAW,fills_int_mul->AAk,args_list_extend_2->AAx,entry_list_iadd->AA9,entry_list_extend->ABK,plain_extend_loop->ABM,args_tuple_mul_2->ABZ
open PySem.Heap renaming get?_push_of_some->tV,get?_push_size->uH,lt_size->uK,size_push->uo,get?_update_self->u7,get?_update_other->vm,SameBut->wY,ExtBut->ya,IsTuple->zQ,IsList->AA1
open PySem.Heap.SameBut renaming update->vR
open PySem.NameKind renaming free->vW,cell->xv
open PySem.Obj renaming data_mapFields->vk,mapSeq->vt,isFreed_of_fields->xB,cls_mapFields->yk,putSet->AAb,mapFields->ABQ
open PySem.Paired renaming length->ABO
open PySem.PassesOwn renaming never->ug
open PySem.PyData renaming strOk->vz,canLayAll0->ym,depthAll->AAo
open PySem.SeqAt.EqAt renaming int_str->ABS,str_int->ABT
open PySem.SetTable renaming below->vH,grown->xX
open PySem.SetTable.probe renaming go->zy
open PySem.Shared renaming heap->xN
open PySem.Str renaming ofString->vQ
open PySem.Txt renaming slice_le->AAY
open PySem.Value renaming ref->vN,none->wQ,isInt_shape->zh,int->AAF,type->AAO,isInt->AAu,isStrOf->ABN
open PySem.W renaming Frag->tU,kia_one->vb,keepIn->wt,kitOne->wu,fnOf->yG,findIn->yf,OpenLaw->zB,codeIn->zV,methodObj->zp,cellsFrom_some->AAP,instObj->AAi,lookIn->AAv,kitx_tuple->ABV
open Rat renaming intCast_eq_zero_iff->wO
open Sum renaming inl->wD,inr->ABH
open True renaming intro->xQ
noncomputable section
namespace L2
open PySem PySem.Spec PyProof.Rows
abbrev Key:=Sum Int Str
noncomputable def TK:Key->tW->uv
 | .inl k,v=>AAu k v
 | .inr x,v=>ABN x v
noncomputable def sW(w:ur):Key->Int
 | .inl k=>hashInt k
 | .inr x=>hashStr w x
theorem Cr:∀{k:Key} {v:tW},TK k v=true->(∃i t,k=wD i/\v=AAF i t)\/(∃x t,k=ABH x/\v=Value.str x t)
 | .inl i,v,h=>by
   obtain⟨t,e⟩:=zh (k:=i) (v:=v) h
   exact .inl ⟨i,t,rfl,e⟩
 | .inr x,v,h=>by
   obtain⟨t,e⟩:=Value.isStrOf_shape (x:=x) (v:=v) h
   exact .inr ⟨x,t,rfl,e⟩
theorem Xe(i:Int)(t:Tok):TK (.inl i) (.int i t)=true:=by simp[TK,AAu]
theorem Xc(x:Str)(t:Tok):TK (.inr x) (.str x t)=true:=by simp[TK,ABN]
theorem iJ(a b:Int):decide ((wD a:Key)=wD b)=(a==b):=by
 by_cases e:a=b
 .subst e;simp
 .have h:¬(wD a:Key)=wD b:=λq=>e (Sum.inl.inj q)
  rw[xG h]
  exact(zN.mpr e).symm
theorem jh(a b:Str):decide ((ABH a:Key)=ABH b)=decide (a=b):=by
 by_cases e:a=b
 .subst e;simp
 .have h:¬(ABH a:Key)=ABH b:=λq=>e (Sum.inr.inj q)
  rw[xG h,xG e]
theorem jr(a:Int)(b:Str):decide ((wD a:Key)=ABH b)=false:=xG (λq=>nomatch q)
theorem jZ(a:Str)(b:Int):decide ((ABH a:Key)=wD b)=false:=xG (λq=>nomatch q)
noncomputable def DO(prog:uT)(w:ur):PySem.KeyKind prog w Key where
 is:=TK
 hash:=sW w
 inj:=λv a b ha hb=>by
  rcases Cr ha with⟨i,t,rfl,rfl⟩|⟨x,t,rfl,rfl⟩
  .rcases Cr hb with⟨j,u,rfl,e⟩|⟨y,u,rfl,e⟩
   .injection e with e1 _;rw[e1]
   .exact nomatch e
  .rcases Cr hb with⟨j,u,rfl,e⟩|⟨y,u,rfl,e⟩
   .exact nomatch e
   .injection e with e1 _;rw[e1]
 byValue:=λk v h=>by
  rcases Cr h with⟨i,t,rfl,rfl⟩|⟨x,t,rfl,rfl⟩<;>rfl
 pyHash:=λhv h=>by
  rcases Cr hv with⟨i,t,rfl,rfl⟩|⟨x,t,rfl,rfl⟩
  .exact wpAny_pyHash_int h
  .exact wpAny_pyHash_str h
 eqBool:=λhu hv h=>by
  rcases Cr hu with⟨i,t,rfl,rfl⟩|⟨x,t,rfl,rfl⟩
  .rcases Cr hv with⟨j,u,rfl,rfl⟩|⟨y,u,rfl,rfl⟩
   .rw[iJ]at h;exact wpAny_eqBool_int h
   .rw[jr]at h;exact ABS i t y u _ _ _ _ h
  .rcases Cr hv with⟨j,u,rfl,rfl⟩|⟨y,u,rfl,rfl⟩
   .rw[jZ]at h;exact ABT x t j u _ _ _ _ h
   .rw[jh]at h;exact wpAny_eqBool_str h
 «strs» :=λk x t v h=>by
  rcases Cr h with⟨i,u,rfl,e⟩|⟨y,u,rfl,e⟩
  .exact nomatch e
  .injection e with e1 _
   subst e1
   cases v<;>rfl
theorem Sy(prog:uT)(w:ur)(i:Int)(t:Tok):(DO prog w).is (.inl i) (.int i t)=true:=Xe i t
theorem Tt(prog:uT)(w:ur)(x:Str)(t:Tok):(DO prog w).is (.inr x) (.str x t)=true:=Xc x t
end L2
namespace L2
open PySem PySem.Spec PyProof.Rows
inductive V where
 |non|bl (b:uv)|int (i:Int)|str (x:Str)|byt (b:uu UInt8)|flt (b:UInt64)|ref (a:uC)|ty (n:xD)
 deriving zl
def RelV:V->tW->Prop
 | .non,u=>u=wQ
 | .bl b,u=>u=Value.bool b
 | .int i,u=>∃t,u=AAF i t
 | .str x,u=>∃t,u=Value.str x t
 | .byt b,u=>∃t,u=Value.bytes b t
 | .flt b,u=>∃t,u=Value.float b t
 | .ref a,u=>u=vN a
 | .ty n,u=>u=AAO n
abbrev Vals:KE V->KE tW->Prop:=Paired RelV
theorem Vals.length{xs:KE V}{us:KE tW}(r:Vals xs us):xs.length=us.length:=ABO r
theorem Vals.get:∀{xs:KE V} {us:KE tW} {i:Nat} {x:V},Vals xs us->xs[i]?=Gc x->∃u,us[i]?=Gc u/\RelV x u
 |_,_,_,_,.nil,e=>by simp at e
 |_,_,0,_,.cons r _,e=>by simp at e;subst e;exact⟨_,rfl,r⟩
 |_,_,i+1,x,.cons _ t,e=>by
  obtain⟨u,h1,h2⟩:=Vals.get (i:=i) (x:=x) t (by simpa using e)
  exact⟨u,by simpa using h1,h2⟩
theorem Vals.set{x:V}{u:tW}(r:RelV x u):∀{xs:KE V} {us:KE tW} (i:Nat),Vals xs us->Vals (xs.set i x) (us.set i u)
 |_,_,_,.nil=>.nil
 |_,_,0,.cons _ t=>.cons r t
 |_,_,i+1,.cons q t=>.cons q (Vals.set r i t)
theorem Vals.append:∀{xs ys:KE V} {us ws:KE tW},Vals xs us->Vals ys ws->Vals (xs++ys) (us++ws)
 |_,_,_,_,.nil,s=>s
 |_,_,_,_,.cons r t,s=>.cons r (Vals.append t s)
theorem Vals.take:∀{xs:KE V} {us:KE tW} (n:Nat),Vals xs us->Vals (xs.take n) (us.take n)
 |_,_,0,_=>.nil
 |_,_,_+1,.nil=>.nil
 |_,_,n+1,.cons r t=>.cons r (Vals.take n t)
theorem Vals.drop:∀{xs:KE V} {us:KE tW} (n:Nat),Vals xs us->Vals (xs.drop n) (us.drop n)
 |_,_,0,r=>r
 |_,_,_+1,.nil=>.nil
 |_,_,n+1,.cons _ t=>Vals.drop n t
def VG:tY V->tY tW->Prop
 |some v,Gc u=>RelV v u
 |none,none=>True
 |_,_=>xy
def KV{κ:Type}:KE (κ×V)->KE (κ×tW)->Prop:=Paired λ(p:κ×V) (q:κ×tW)=>p.1=q.1/\RelV p.2 q.2
noncomputable def kV:Key->V
 | .inl i=>.int i
 | .inr x=>.str x
inductive HO where
 |lst (xs:KE V)
 |tup (xs:KE V)
 |dK (kvs:KE (Key×V))|dT (kvs:KE (KE Key×V))
 |set (S:Int->uv) (n:Nat)
 |ins (C dx:uC) (fs:KE (Str×V))
 |own (x:uC)
 |xd (fs:KE (Str×V))
 |met (f x:uC)
 |rng (lo hi:Int)
 |frz (o:Obj) (u:HO)
 |tbl (ps:uu tW)
 |ext (φ:uz->Prop)
abbrev Hp:=uC->tY HO
noncomputable def upd(H:Hp)(a:uC)(o:HO):Hp:=λb=>if b=a then Gc o else H b
theorem BM{H:Hp}{a:uC}{o:HO}:upd H a o a=Gc o:=by unfold upd;rw[uZ rfl]
theorem An{H:Hp}{a b:uC}{o:HO}(h:b≠a):upd H a o b=H b:=by unfold upd;rw[uh h]
theorem YZ{H:Hp}{a:uC}{o u:HO}:upd (upd H a o) a u=upd H a u:=by
 funext b;unfold upd;split<;>rfl
theorem nE{H:Hp}{a b:uC}{o u:HO}(h:H a=Gc o)(h':H b=Gc u)(d:o≠u):a≠b:=by
 intro e;subst e;rw[h]at h';exact d (vS h')
theorem Bq{H:Hp}{a b:uC}{o:HO}(h:H a=Gc o)(h':H b=none):a≠b:=by
 intro e;subst e;rw[h]at h';cases h'
section
variable(P:uT)(w:ur)
def Fb(H:Hp)(h:uz)(a:uC):HO->Prop
 | .lst xs=>xs.length<=sizeLine/\∃(its:KE tW) (n:Nat),Vals xs its/\h.get? a=Gc {cls:=.type "list",data:=.seq its.toArray n}
 | .tup xs=>xs.length<=sizeLine/\∃its:KE tW,Vals xs its/\IsTup h a its.toArray
 | .dK kvs=>kvs.length<=sizeLine/\(a==sysModules)=false/\∃vs,KV kvs vs/\h.DictOf (DO P w) a vs
 | .dT kvs=>kvs.length<=sizeLine/\(a==sysModules)=false/\∃xs:KE (KE Key×uC×tW),
    Paired (λ(p:KE Key×V) (q:KE Key×uC×tW)=>p.1=q.1/\H q.2.1=Gc (.tup (p.1.map kV))/\RelV p.2 q.2.2) kvs xs/\
    ∃o es ep,h.get? a=Gc o/\o.ExactDict/\o.data=.dict es ep/\es.toList=xs.map (entryOfKey (tupleKind (DO P w)))/\(xs.map (·.1)).Nodup
 | .set S n=>h.SetOf (intKind P w) a S n
 | .ins C dx fs=>H dx=Gc (.own a)/\fs.length<=1000/\dx≠a/\h.get? a=Gc (AAi C dx)/\
    ∃mA,h.Ns1 dx mA/\(∀f,VG (fs.lookup f) (mA f))/\PySem.Within mA (fs.map (·.1))
 | .own _=>∃o,h.get? a=Gc o
 | .xd fs=>∃mA,h.Ns1 a mA/\∀f,VG (fs.lookup f) (mA f)
 | .rng lo hi=>∃t u v,h.get? a=Gc {cls:=.type "range",data:=.fields #[.int lo t,.int hi u,.int 1 v]}
 | .frz o u=>h.get? a=Gc o/\Fb H h a u
 | .tbl ps=>h.get? a=Gc {cls:=.none,data:=.fields ps}
 | .met f x=>h.get? a=Gc (zp (.ref f) (.ref x))
 | .ext φ=>φ h/\(∃o,h.get? a=Gc o)/\∀h1 h2:uz,φ h1->(∀o,h1.get? a=Gc o->h2.get? a=Gc o)->φ h2
def HOk(H:Hp)(h:uz):Prop:=∀a o,H a=Gc o->Fb P w H h a o
end
section
variable{P:uT}{w:ur}{H H':Hp}{h h':uz}{a:uC}{o:HO}
theorem Fb.lt(x:Fb P w H h a o):a<h.objs.size:=by
 cases o with
 |lst xs=>obtain⟨_,_,_,_,e⟩:=x;exact uK e
 |tup xs=>obtain⟨_,_,_,p⟩:=x;exact p.lt
 |dK kvs=>obtain⟨_,_,_,_,o,_,_,e,_⟩:=x;exact uK e
 |dT kvs=>obtain⟨_,_,_,_,o,_,_,e,_⟩:=x;exact uK e
 |set S n=>obtain⟨o,_,_,_,e,_⟩:=x;exact uK e
 |ins C dx fs=>obtain⟨_,_,_,e,_⟩:=x;exact uK e
 |own y=>obtain⟨_,e⟩:=x;exact uK e
 |xd fs=>obtain⟨_,⟨_,_,_,e,_⟩,_⟩:=x;exact uK e
 |rng lo hi=>obtain⟨_,_,_,e⟩:=x;exact uK e
 |frz ob u=>obtain⟨e,_⟩:=x;exact uK e
 |tbl ps=>exact uK (show h.get? a=Gc _ from x)
 |met f y=>exact uK (show h.get? a=Gc _ from x)
 |ext φ=>obtain⟨_,⟨_,e⟩,_⟩:=x;exact uK e
theorem Paired.ox{α β:Type}{F G:α->β->Prop}:∀{l₁:KE α} {l₂:KE β},Paired F l₁ l₂->(∀a b,F a b->G a b)->Paired G l₁ l₂
 |_,_,.nil,_=>.nil
 |_,_,.cons r t,f=>.cons (f _ _ r) (Paired.ox t f)
theorem Fb.cQ(x:Fb P w H h a o)(k:∀b u,(b=a\/H b=Gc (.own a))->h.get? b=Gc u->h'.get? b=Gc u)(ho:∀b,H b=Gc (.own a)->H' b=Gc (.own a))(ht:∀b xs,H b=Gc (.tup xs)->H' b=Gc (.tup xs)):Fb P w H' h' a o:=by
 induction o with
 |lst xs=>obtain⟨z,its,n,r,e⟩:=x;exact⟨z,its,n,r,k _ _ (.inl rfl) e⟩
 |tup xs=>obtain⟨z,its,r,ob,e,c⟩:=x;exact⟨z,its,r,ob,k _ _ (.inl rfl) e,c⟩
 |dK kvs=>obtain⟨z,y,vs,r,ob,es,ep,e,c⟩:=x;exact⟨z,y,vs,r,ob,es,ep,k _ _ (.inl rfl) e,c⟩
 |dT kvs=>
  obtain⟨z,y,xs,r,ob,es,ep,e,c⟩:=x
  exact⟨z,y,xs,Paired.ox r λp q z=>⟨z.1,ht _ _ z.2.1,z.2.2⟩,ob,es,ep,k _ _ (.inl rfl) e,c⟩
 |set S n=>obtain⟨ob,es,ep,t,e,c⟩:=x;exact⟨ob,es,ep,t,k _ _ (.inl rfl) e,c⟩
 |ins C dx fs=>
  obtain⟨d,z,ne,e,mA,⟨od,es,ep,e2,c⟩,r⟩:=x
  exact⟨ho _ d,z,ne,k _ _ (.inl rfl) e,mA,⟨od,es,ep,k _ _ (.inr d) e2,c⟩,r⟩
 |own y=>obtain⟨ob,e⟩:=x;exact⟨ob,k _ _ (.inl rfl) e⟩
 |xd fs=>obtain⟨mA,⟨od,es,ep,e,c⟩,r⟩:=x;exact⟨mA,⟨od,es,ep,k _ _ (.inl rfl) e,c⟩,r⟩
 |rng lo hi=>obtain⟨t,u,v,e⟩:=x;exact⟨t,u,v,k _ _ (.inl rfl) e⟩
 |frz ob u ih=>obtain⟨e,q⟩:=x;exact⟨k _ _ (.inl rfl) e,ih q⟩
 |tbl ps=>
  have e:h.get? a=Gc {cls:=.none,data:=.fields ps}:=x
  show h'.get? a=Gc {cls:=.none,data:=.fields ps}
  exact k a _ (.inl rfl) e
 |met f y=>
  have e:h.get? a=Gc (zp (.ref f) (.ref y)):=x
  show h'.get? a=Gc (zp (.ref f) (.ref y))
  exact k a _ (.inl rfl) e
 |ext φ=>obtain⟨p,⟨o,e⟩,st⟩:=x;exact⟨st _ _ p λo q=>k _ _ (.inl rfl) q,⟨o,k _ _ (.inl rfl) e⟩,st⟩
theorem HOk.lt(x:HOk P w H h)(e:H a=Gc o):a<h.objs.size:=(x a o e).lt
theorem HOk.fresh(x:HOk P w H h)(e:h.objs.size<=a):H a=none:=by
 cases q:H a with
 |none=>rfl
 |some u=>exact absurd (t9 (x.lt q) e) (vV _)
theorem HOk.kept(x:HOk P w H h)(k:∀b u,h.get? b=Gc u->h'.get? b=Gc u):HOk P w H h':=λa o e=>
 (x a o e).cQ (λb u _ q=>k b u q) (λ_ q=>q) λ_ _ q=>q
theorem HOk.laid(x:HOk P w H h)(k:∀b u,h.get? b=Gc u->h'.get? b=Gc u)(hp:h.objs.size<=a)(new:Fb P w (upd H a o) h' a o):HOk P w (upd H a o) h':=λb u e=>by
 have hn:=x.fresh hp
 by_cases hb:b=a
 .subst hb;rw[BM]at e;cases e;exact new
 .rw[An hb]at e
  exact(x b u e).cQ (λc v _ q=>k c v q) (λc q=>by rw[An (Bq q hn)];exact q) λc xs q=>by rw[An (Bq q hn)];exact q
end
def Rd(H:Hp)(a:uC)(u:HO):Prop:=H a=Gc u\/∃o,H a=Gc (.frz o u)
theorem Rd.ok{P:uT}{w:ur}{H:Hp}{h:uz}{a:uC}{u:HO}(r:Rd H a u)(x:HOk P w H h):Fb P w H h a u:=by
 rcases r with r|⟨o,r⟩
 .exact x a u r
 .obtain⟨_,q⟩:=x a _ r
  exact q
def Mut:tY HO->Prop
 |some (.lst _)=>True
 |some (.dK _)=>True
 |some (.dT _)=>True
 |some (.set _ _)=>True
 |some (.ins _ _ _)=>True
 |some (.ext _)=>True
 |_=>xy
section
variable{P:uT}{w:ur}{H:Hp}{h h':uz}{x e:uC}{o':HO}
theorem HOk.write(ok:HOk P w H h)(mu:Mut (H x))(he:e=x\/H e=Gc (.own x))(k:∀b u,b≠e->h.get? b=Gc u->h'.get? b=Gc u)(heo:∃u,h'.get? e=Gc u)(new:Fb P w (upd H x o') h' x o'):HOk P w (upd H x o') h':=λb u q=>by
 have nown:∀c y,H c=Gc (.own y)->c≠x:=λc y r z=>by subst z;rw[r]at mu;exact mu
 have ntup:∀c xs,H c=Gc (.tup xs)->c≠x:=λc xs r z=>by subst z;rw[r]at mu;exact mu
 by_cases hb:b=x
 .subst hb;rw[BM]at q;cases q;exact new
 .rw[An hb]at q
  by_cases hbe:b=e
  .have q':H b=Gc (.own x):=by
    rcases he with z|z
    .exact absurd (hbe.trans z) hb
    .rw[hbe];exact z
   rw[q]at q';cases q'
   obtain⟨v,hv⟩:=heo
   exact⟨v,by rw[hbe];exact hv⟩
  .refine(ok b u q).cQ (λc v hc r=>k c v ?_ r) (λc r=>by rw[An (nown c b r)];exact r) λc xs r=>by rw[An (ntup c xs r)];exact r
   rcases hc with rfl|hc
   .exact hbe
   .rintro rfl
    rcases he with z|z
    .exact nown c b hc z
    .rw[hc]at z;cases z;exact hb rfl
end
structure Un(fs ex:KE uC)(H H':Hp)(h h':uz):Prop where
 keep:∀b o,h.get? b=Gc o->H b=none->b∉fs->b∉ex->h'.get? b=Gc o
 slot:∀b o,h.get? b=Gc o->H b=none->b∈fs->b∉ex->∃sl,h'.get? b=Gc {o with slots:=sl}
 free:∀b o,h.get? b=Gc o->H b=none->b∉ex->H' b=none
 there:∀b o,h.get? b=Gc o->b∉ex->∃o',h'.get? b=Gc o'
 bu:∀b xs,H b=Gc (.tup xs)->H' b=Gc (.tup xs)
 Z3:∀b o u,H b=Gc (.frz o u)->H' b=Gc (.frz o u)
 cV:∀b ps,H b=Gc (.tbl ps)->∃more,H' b=Gc (.tbl (ps++more))
section
variable{fs fs' ex ex':KE uC}{H H1 H2:Hp}{h h1 h2 h':uz}{a x e:uC}{o:HO}
theorem Un.any(u:Un fs ex H H1 h h1){b:uC}{ob:Obj}(q:h.get? b=Gc ob)(n:H b=none)(hx:b∉ex):∃sl,h1.get? b=Gc {ob with slots:=sl}:=by
 by_cases hb:b∈fs
 .exact u.slot b ob q n hb hx
 .exact⟨ob.slots,u.keep b ob q n hb hx⟩
theorem Un.kept(k:∀b u,h.get? b=Gc u->h'.get? b=Gc u):Un fs ex H H h h':=
 ⟨λb ob q _ _ _=>k b ob q,λb ob q _ _ _=>⟨ob.slots,k b ob q⟩,λ_ _ _ n _=>n,λb ob q _=>⟨ob,k b ob q⟩,λ_ _ q=>q,λ_ _ _ q=>q,λ_ ps q=>⟨#[],by rw[q];simp⟩⟩
theorem Un.refl:Un fs ex H H h h:=Un.kept λ_ _ q=>q
theorem Un.laid(k:∀b u,h.get? b=Gc u->h'.get? b=Gc u)(hp:h.objs.size<=a)(hn:H a=none):Un fs ex H (upd H a o) h h' where
 keep:=λb u q _ _ _=>k b u q
 slot:=λb u q _ _ _=>⟨u.slots,k b u q⟩
 free:=λb u q n _=>by rw[An (uR (t9 (uK q) hp))];exact n
 there:=λb u q _=>⟨u,k b u q⟩
 bu:=λb xs q=>by rw[An (Bq q hn)];exact q
 Z3:=λb u xs q=>by rw[An (Bq q hn)];exact q
 cV:=λb ps q=>⟨#[],by rw[An (Bq q hn),q];simp⟩
theorem Un.write(mu:Mut (H x))(he:e=x\/H e=Gc (.own x))(k:∀b u,b≠e->h.get? b=Gc u->h'.get? b=Gc u)(heo:∃u,h'.get? e=Gc u):Un fs ex H (upd H x o) h h':=by
 have hx:∀b,H b=none->b≠x:=λb n z=>by subst z;rw[n]at mu;exact mu
 have hb:∀b,H b=none->b≠e:=λb n z=>by
  subst z
  rcases he with r|r
  .exact hx b n r
  .rw[n]at r;cases r
 have hm:∀b u,H b=Gc u->¬Mut (Gc u)->b≠x:=λb u q nm z=>by subst z;rw[q]at mu;exact nm mu
 refine⟨λb u q n _ _=>k b u (hb b n) q,λb u q n _ _=>⟨u.slots,k b u (hb b n) q⟩,λb u q n _=>by rw[An (hx b n)];exact n,λb u q _=>?_,
  λb xs q=>by rw[An (hm b _ q λz=>z)];exact q,λb u xs q=>by rw[An (hm b _ q λz=>z)];exact q,λb ps q=>⟨#[],by rw[An (hm b _ q λz=>z),q];simp⟩⟩
 by_cases hbe:b=e
 .subst hbe;exact heo
 .exact⟨u,k b u hbe q⟩
end
noncomputable def trk(h:uz)(H:Hp):KE uC:=(uJ h.objs.size).filter λa=>(H a).isSome
noncomputable def bI(h:uz)(H:Hp):uz:=PySem.W.hideAll h (trk h H)
theorem WM(h:uz)(H:Hp):(bI h H).objs.size=h.objs.size:=PySem.W.hideAll_size _ _
theorem bT{h:uz}{H:Hp}{b:uC}{o:Obj}(e:h.get? b=Gc o)(n:H b=none):(bI h H).get? b=Gc o:=
 PySem.W.hideAll_get _ e λhm=>by
  have q:(H b).isSome=true:=(wR.mp hm).2
  rw[n]at q;simp at q
theorem eF{h:uz}{H:Hp}{b:uC}{o:Obj}(e:(bI h H).get? b=Gc o):h.get? b=Gc o/\H b=none:=by
 have e':h.get? b=Gc o:=PySem.W.of_hideAll (trk h H) e
 refine⟨e',?_⟩
 cases q:H b with
 |none=>rfl
 |some x=>
  have hm:b∈trk h H:=wR.mpr ⟨zS.mpr (uK e'),by simp[q]⟩
  have z:(bI h H).get? b=none:=PySem.W.hideAll_none (trk h H) hm
  rw[z]at e;cases e
noncomputable def fS(g h:uz)(L:uC):KE (uC×Obj):=(uJ h.objs.size).filterMap λa=>if a=L\/(g.get? a).isSome=true then none else(h.get? a).map λo=>(a,o)
noncomputable def rest(g h:uz)(L d:uC):KE (uC×Obj):=(fS g h L).filter λp=>decide (p.1≠d)
end L2
namespace L2
open PySem PySem.Spec PyProof.Rows
structure Mod(K:tU)(mg:Str->tY tW)(base:uz):Prop where
 kin:K.In base
 glob:base.Ns mainGlobals mg
 blt:∃mb,base.Ns builtinsNs mb/\∀x:Str,x≠ "__name__"->mb x=bootBuiltins x
 nolimit:base.NoLimit
structure Cx where
 prog:uT
 w:ur
 K:tU
 mg:Str->tY tW
 base:uz
 A:u5
 N:KE Str
 s₀:tZ
 H₀:Hp
 env:Env
 outer:KE Env
 stack:KE Env
 ex:KE uC
 fn:Str->uv
 calm:uv
 pn:KE (uC×Obj)
 xe:tW->tZ->Prop
noncomputable def frs(l:KE Env):KE uC:=l.filterMap (·.frame)
abbrev Cx.fs(X:Cx):KE uC:=frs X.outer
def Vis(sc:xC)(x:Str):Prop:=sc.names.lookup x=Gc .local\/sc.names.lookup x=Gc .cell\/sc.names.lookup x=Gc .free
def Loc(sc:xC)(x:Str):Prop:=sc.names.lookup x=Gc .local\/sc.names.lookup x=Gc .cell
def Look(env:Env)(h:uz)(m:Str->tY tW)(x:Str)(u:tW):Prop:=
 (env.kindOf x=Gc .local/\m x=Gc u)\/((env.kindOf x=Gc .cell\/env.kindOf x=Gc .free)/\∃c,env.cells.lookup x=Gc c/\h.IsCell c (Gc u))
structure Cx.Ok(X:Cx):Prop where
 mod:Mod X.K X.mg X.base
 kind:X.env.scope.kind=.function
 glob:X.env.globals=mainGlobals
 blt:X.env.builtins=builtinsNs
 above:X.s₀.heap.objs.size<=X.env.locals
 inj:∀x y c,X.env.cells.lookup x=Gc c->X.env.cells.lookup y=Gc c->x=y
 has:∀x,(X.env.kindOf x=Gc .cell\/X.env.kindOf x=Gc .free)->∃c,X.env.cells.lookup x=Gc c
 cab:∀x c,X.fn x=true->X.env.cells.lookup x=Gc c->X.s₀.heap.objs.size<=c
 hd:X.calm=true->X.A.handled=none
 frames:X.A.frames=Gc X.stack
 stk:X.stack=X.outer\/(X.stack=X.env::X.outer/\X.env.frame=Gc X.env.locals)
 exf:∀b∈X.ex,b≠X.env.locals/\∀x c,X.env.cells.lookup x=Gc c->c≠b
 bs:∀b o,X.base.get? b=Gc o->X.s₀.heap.get? b=Gc o/\X.H₀ b=none
 bsz:X.base.objs.size<=X.s₀.heap.objs.size
 dU:∀b o,X.base.get? b=Gc o->b∉X.ex
 gg:∀b∈X.ex,b∉X.fs
 Wy:X.s₀.heap.FunFrames X.base X.outer
 frf:∀b∈X.fs,X.H₀ b=none
structure Inv(X:Cx)(pins:KE (uC×Obj))(σ:KE (tY V))(H:Hp)(s:tZ):Prop where
 ok:X.Ok
 os:s.os=X.s₀.os
 bare:zq s.gens
 base:Un X.fs X.ex X.H₀ H X.s₀.heap s.heap
 loc:∃m,s.heap.Ns X.env.locals m/\∀(i:Nat) (x:Str) (v:V),X.N[i]?=Gc x->σ[i]?=Gc (Gc v)->Vis X.env.scope x->∃u,RelV v u/\Look X.env s.heap m x u
 cell:∀x c,X.env.cells.lookup x=Gc c->∃v,s.heap.IsCell c v
 free:H X.env.locals=none
 PC:∀x c,X.env.cells.lookup x=Gc c->H c=none
 pin:∀p∈X.pn++pins,s.heap.get? p.1=Gc p.2/\H p.1=none/\p.1≠X.env.locals/\p.1∉X.fs/\∀v,p.2.data≠.cell v
 hok:HOk X.prog X.w H s.heap
 len:σ.length=X.N.length
section
variable{X:Cx}{pins:KE (uC×Obj)}{σ:KE (tY V)}{H H':Hp}{s:tZ}{h':uz}
theorem Cx.Ok.sV(ok:X.Ok){b:uC}{o:Obj}(e:X.base.get? b=Gc o):b∉X.fs:=λhb=>by
 have:=(ok.Wy.mem hb).1
 rw[e]at this;cases this
theorem Inv.bs(I:Inv X pins σ H s):∀b o,X.base.get? b=Gc o->s.heap.get? b=Gc o/\H b=none:=λb o e=>
 ⟨I.base.keep b o (I.ok.bs b o e).1 (I.ok.bs b o e).2 (I.ok.sV e) (I.ok.dU b o e),I.base.free b o (I.ok.bs b o e).1 (I.ok.bs b o e).2 (I.ok.dU b o e)⟩
theorem Inv.bk(I:Inv X pins σ H s):∀b o,X.base.get? b=Gc o->s.heap.get? b=Gc o:=λb o e=>(I.bs b o e).1
theorem Inv.mod(I:Inv X pins σ H s):Mod X.K X.mg X.base:=I.ok.mod
theorem Inv.kIn(I:Inv X pins σ H s):X.K.In s.heap:=I.ok.mod.kin.keeps I.bk
theorem Inv.lt(I:Inv X pins σ H s):X.env.locals<s.heap.objs.size:=let⟨_,hn,_⟩:=I.loc;hn.lt
theorem Inv.sz(I:Inv X pins σ H s):X.s₀.heap.objs.size<=s.heap.objs.size:=uA I.ok.above (wI I.lt)
theorem Inv.qz(I:Inv X pins σ H s){a:uC}(h:s.heap.objs.size<=a):a∉X.fs:=λhb=>by
 obtain⟨_,o,ho,_⟩:=I.ok.Wy.mem hb
 exact absurd (t9 (uK ho) (uA I.sz h)) (vV _)
theorem Inv.cne(I:Inv X pins σ H s):∀x c,X.env.cells.lookup x=Gc c->c≠X.env.locals:=λx c e z=>by
 obtain⟨v,o,ho,hd⟩:=I.cell x c e
 obtain⟨m,⟨o',es,ep,ho',hd',_⟩,_⟩:=I.loc
 rw[z,ho']at ho;cases ho;rw[hd']at hd;cases hd
theorem Inv.Wy(I:Inv X pins σ H s):s.heap.FunFrames X.base X.outer:=by
 have all:∀(l:KE Env),(∀b∈frs l,b∈X.fs)->X.s₀.heap.FunFrames X.base l->s.heap.FunFrames X.base l:=by
  intro l
  induction l with
  |nil=>intro _ _;trivial
  |cons env r ih=>
   intro hs hl
   obtain⟨hk,⟨L,o,hf,hn,ho,hd⟩,hr⟩:=hl
   have hL:L∈X.fs:=hs L (by unfold frs;rw[vJ,hf];exact uD)
   obtain⟨sl,e⟩:=I.base.slot L o ho (I.ok.frf L hL) hL λz=>I.ok.gg L z hL
   exact⟨hk,⟨L,_,hf,hn,e,hd⟩,ih (λb hb=>hs b (by unfold frs;rw[vJ,hf];exact tf _ hb)) hr⟩
 exact all X.outer (λ_ hb=>hb) I.ok.Wy
theorem Inv.stack(I:Inv X pins σ H s):s.heap.FunFrames X.base X.stack:=by
 rcases I.ok.stk with e|⟨e,hf⟩
 .rw[e];exact I.Wy
 .rw[e]
  obtain⟨m,hn,_⟩:=I.loc
  refine .cons (by rw[I.ok.kind];decide) hf hn ?_ I.Wy
  exact Heap.get?_none_of_le (uA I.ok.bsz I.ok.above)
theorem Inv.XC(I:Inv X pins σ H s):∀b∈frs X.stack,b∈X.env.locals::X.fs:=λb hb=>by
 rcases I.ok.stk with e|⟨e,hf⟩
 .rw[e]at hb;exact tf _ hb
 .rw[e]at hb
  unfold frs at hb
  rw[vJ,hf]at hb
  exact hb
theorem Inv.Wz(I:Inv X pins σ H s):∀b∈frs X.stack,H b=none:=λb hb=>by
 rcases uF.mp (I.XC b hb)with e|hb
 .rw[e];exact I.free
 .obtain⟨_,o,ho,_⟩:=I.ok.Wy.mem hb
  exact I.base.free b o ho (I.ok.frf b hb) λz=>I.ok.gg b z hb
theorem Inv.step{g':uu GenState}{t':Nat}{d':Drawn}{ch:KE uC}(I:Inv X pins σ H s)(hch:∀b∈ch,(b∈X.ex\/X.s₀.heap.objs.size<=b)/\b≠X.env.locals/\(∀x c,X.env.cells.lookup x=Gc c->c≠b)/\∀p∈X.pn++pins,p.1≠b)(keep:∀b o,b≠X.env.locals->b∉X.fs->b∉ch->s.heap.get? b=Gc o->H b=none->h'.get? b=Gc o)(slot:∀b o,b≠X.env.locals->b∈X.fs->b∉ch->s.heap.get? b=Gc o->H b=none->∃sl,h'.get? b=Gc {o with slots:=sl})(free:∀b o,b∉ch->s.heap.get? b=Gc o->H b=none->H' b=none)(there:∀b o,b∉ch->s.heap.get? b=Gc o->∃o',h'.get? b=Gc o')(bu:∀b xs,H b=Gc (.tup xs)->H' b=Gc (.tup xs))(Z3:∀b o u,H b=Gc (.frz o u)->H' b=Gc (.frz o u))(cV:∀b ps,H b=Gc (.tbl ps)->∃more,H' b=Gc (.tbl (ps++more)))(ns:∀m,s.heap.Ns X.env.locals m->h'.Ns X.env.locals m)(hok:HOk X.prog X.w H' h')(hg:zq g'):Inv X pins σ H' {s with heap:=h',gens:=g',drawn:=d',toks:=t'}:=by
 have neL:∀b o,X.s₀.heap.get? b=Gc o->b≠X.env.locals:=λb o e=>uR (t9 (uK e) I.ok.above)
 have neC:∀b o,X.s₀.heap.get? b=Gc o->b∉X.ex->b∉ch:=λb o e hx hb=>by
  rcases(hch b hb).1 with z|z
  .exact hx z
  .exact absurd (t9 (uK e) z) (vV _)
 have cellK:∀x c,X.env.cells.lookup x=Gc c->∀v,s.heap.IsCell c v->h'.IsCell c v:=λx c e v ⟨o,ho,hd⟩=>by
  have nch:c∉ch:=λz=>(hch c z).2.2.1 x c e rfl
  by_cases hc:c∈X.fs
  .obtain⟨sl,q⟩:=slot c o (I.cne x c e) hc nch ho (I.PC x c e)
   exact⟨_,q,hd⟩
  .exact⟨o,keep c o (I.cne x c e) hc nch ho (I.PC x c e),hd⟩
 refine⟨I.ok,I.os,hg,⟨λb o e n hb hx=>?_,λb o e n hb hx=>?_,λb o e n hx=>?_,λb o e hx=>?_,λb xs e=>bu b xs (I.base.bu b xs e),λb o xs e=>Z3 b o xs (I.base.Z3 b o xs e),λb ps e=>?_⟩,?_,λx c e=>?_,?_,λx c e=>?_,λp hp=>?_,hok,I.len⟩
 .exact keep b o (neL b o e) hb (neC b o e hx) (I.base.keep b o e n hb hx) (I.base.free b o e n hx)
 .obtain⟨sl,e1⟩:=I.base.slot b o e n hb hx
  obtain⟨sl',e2⟩:=slot b _ (neL b o e) hb (neC b o e hx) e1 (I.base.free b o e n hx)
  exact⟨sl',e2⟩
 .obtain⟨o',e1⟩:=I.base.there b o e hx
  exact free b o' (neC b o e hx) e1 (I.base.free b o e n hx)
 .obtain⟨o',e1⟩:=I.base.there b o e hx
  exact there b o' (neC b o e hx) e1
 .obtain⟨m1,e1⟩:=I.base.cV b ps e
  obtain⟨m2,e2⟩:=cV b _ e1
  exact⟨m1++m2,by rw[e2,Array.append_assoc]⟩
 .obtain⟨m,hn,hl⟩:=I.loc
  refine⟨m,ns m hn,λi x v e1 e2 e3=>?_⟩
  obtain⟨u,r,l⟩:=hl i x v e1 e2 e3
  refine⟨u,r,?_⟩
  rcases l with l|⟨k,c,e,z⟩
  .exact .inl l
  .exact .inr ⟨k,c,e,cellK x c e _ z⟩
 .obtain⟨v,z⟩:=I.cell x c e
  exact⟨v,cellK x c e v z⟩
 .obtain⟨m,⟨o,_,_,ho,_⟩,_⟩:=I.loc
  exact free _ o (λz=>(hch _ z).2.1 rfl) ho I.free
 .obtain⟨v,o,ho,hd⟩:=I.cell x c e
  exact free c o (λz=>(hch c z).2.2.1 x c e rfl) ho (I.PC x c e)
 .obtain⟨e,n,ne,nf,d⟩:=I.pin p hp
  have nch:p.1∉ch:=λz=>(hch p.1 z).2.2.2 p hp rfl
  exact⟨keep p.1 p.2 ne nf nch e n,free p.1 p.2 nch e n,ne,nf,d⟩
theorem Inv.un{t':Nat}(I:Inv X pins σ H s)(u:Un X.fs [] H H' s.heap h')(hok:HOk X.prog X.w H' h'):Inv X pins σ H' {s with heap:=h',toks:=t'}:=by
 obtain⟨m,⟨o,es,ep,ho,r⟩,_⟩:=id I.loc
 obtain⟨sl,hL⟩:=u.any ho I.free (by simp)
 exact I.step (g':=s.gens) (d':=s.drawn) (ch:=[]) (λ_ z=>nomatch z) (λb o _ hb _ e n=>u.keep b o e n hb (by simp)) (λb o _ hb _ e n=>u.slot b o e n hb (by simp)) (λb o _ e n=>u.free b o e n (by simp)) (λb o _ e=>u.there b o e (by simp)) u.bu u.Z3 u.cV (λm' hm=>by
  obtain⟨o',es',ep',ho',r'⟩:=hm
  rw[ho]at ho';cases ho'
  exact⟨_,es',ep',hL,r'⟩) hok I.bare
theorem Inv.call{g':uu GenState}{t':Nat}{d':Drawn}{ch:KE uC}(I:Inv X pins σ H s)(u:Un (frs X.stack) ch H H' s.heap h')(hok:HOk X.prog X.w H' h')(hg:zq g')(hch:∀b∈ch,(b∈X.ex\/X.s₀.heap.objs.size<=b)/\b≠X.env.locals/\(∀x c,X.env.cells.lookup x=Gc c->c≠b)/\∀p∈X.pn++pins,p.1≠b):Inv X pins σ H' {s with heap:=h',gens:=g',drawn:=d',toks:=t'}:=by
 obtain⟨m,⟨o,es,ep,ho,r⟩,_⟩:=id I.loc
 obtain⟨sl,hL⟩:=u.any ho I.free λz=>(hch _ z).2.1 rfl
 exact I.step (ch:=ch) hch (λb o hL hb hc e n=>u.keep b o e n (λz=>(uF.mp (I.XC b z)).elim hL hb) hc) (λb o _ _ hc e n=>u.any e n hc) (λb o hc e n=>u.free b o e n hc) (λb o hc e=>u.there b o e hc) u.bu u.Z3 u.cV (λm' hm=>by
  obtain⟨o',es',ep',ho',r'⟩:=hm
  rw[ho]at ho';cases ho'
  exact⟨_,es',ep',hL,r'⟩) hok hg
theorem Inv.turned{t':Nat}{it:uC}(I:Inv X pins σ H s)(k:∀b o,b≠it->s.heap.get? b=Gc o->h'.get? b=Gc o)(hn:H it=none)(hL:it≠X.env.locals)(h1:it∈X.ex\/X.s₀.heap.objs.size<=it)(h2:∀x c,X.env.cells.lookup x=Gc c->c≠it)(h3:∀p∈X.pn++pins,p.1≠it):Inv X pins σ H {s with heap:=h',toks:=t'}:=by
 have nit:∀b u,H b=Gc u->b≠it:=λb u e z=>by rw[z,hn]at e;cases e
 refine I.step (g':=s.gens) (d':=s.drawn) (ch:=[it]) (λb hb=>?_) (λb o _ _ hc e _=>k b o (λz=>hc (by simp[z])) e) (λb o _ _ hc e _=>⟨o.slots,k b o (λz=>hc (by simp[z])) e⟩) (λ_ _ _ _ n=>n)
  (λb o hc e=>⟨o,k b o (λz=>hc (by simp[z])) e⟩) (λ_ _ e=>e) (λ_ _ _ e=>e) (λb ps e=>⟨#[],by rw[e];simp⟩) (λm hm=>?_) (λb u e=>?_) I.bare
 .have e:b=it:=by simpa using hb
  subst e
  exact⟨h1,hL,h2,h3⟩
 .obtain⟨o,es,ep,ho,r⟩:=hm
  exact⟨o,es,ep,k _ o (vZ hL) ho,r⟩
 .refine(I.hok b u e).cQ (λc v hc q=>k c v ?_ q) (λ_ q=>q) λ_ _ q=>q
  rcases hc with z|z
  .rw[z];exact nit b u e
  .exact nit c _ z
theorem Inv.tok(I:Inv X pins σ H s)(t:Nat):Inv X pins σ H {s with toks:=t}:=I.un (h':=s.heap) (t':=t) Un.refl I.hok
theorem Inv.kept{t':Nat}(I:Inv X pins σ H s)(k:∀b u,s.heap.get? b=Gc u->h'.get? b=Gc u):Inv X pins σ H {s with heap:=h',toks:=t'}:=I.un (Un.kept k) (I.hok.kept k)
theorem Inv.laid{a:uC}{o:HO}{t':Nat}(I:Inv X pins σ H s)(k:∀b u,s.heap.get? b=Gc u->h'.get? b=Gc u)(hp:s.heap.objs.size<=a)(new:Fb X.prog X.w (upd H a o) h' a o):Inv X pins σ (upd H a o) {s with heap:=h',toks:=t'}:=I.un (Un.laid k hp (I.hok.fresh hp)) (I.hok.laid k hp new)
theorem Inv.write{x e:uC}{o:HO}{t':Nat}(I:Inv X pins σ H s)(mu:Mut (H x))(he:e=x\/H e=Gc (.own x))(k:∀b u,b≠e->s.heap.get? b=Gc u->h'.get? b=Gc u)(heo:∃u,h'.get? e=Gc u)(new:Fb X.prog X.w (upd H x o) h' x o):Inv X pins σ (upd H x o) {s with heap:=h',toks:=t'}:=I.un (Un.write mu he k heo) (I.hok.write mu he k heo new)
theorem Inv.YB{pins':KE (uC×Obj)}(I:Inv X pins σ H s)(h:∀p∈pins',s.heap.get? p.1=Gc p.2/\H p.1=none/\p.1≠X.env.locals/\p.1∉X.fs/\∀v,p.2.data≠.cell v):Inv X pins' σ H s:=
 ⟨I.ok,I.os,I.bare,I.base,I.loc,I.cell,I.free,I.PC,λp hp=>(uU.mp hp).elim (λz=>I.pin p (xJ _ z)) (h p),I.hok,I.len⟩
theorem T5{N:KE Str}(hN:N.Nodup){i j:Nat}{x:Str}(a:N[i]?=Gc x)(b:N[j]?=Gc x):i=j:=by
 obtain⟨h1,e1⟩:=uI.mp a
 obtain⟨h2,e2⟩:=uI.mp b
 exact(List.getElem_inj hN).mp (e1.trans e2.symm)
theorem Ro{M:Model}{A:u5}{E:tW->tZ->Prop}{i:Nat}{x:Str}{v:V}{u:tW}{Q:Unit->tZ->Prop}(I:Inv X pins σ H s)(hN:X.N.Nodup)(hi:X.N[i]?=Gc x)(hx:Loc X.env.scope x)(r:RelV v u)(h:∀s',Inv X pins (σ.set i (Gc v)) H s'->(∃a,wY a s.heap s'.heap/\(a=X.env.locals\/X.env.cells.lookup x=Gc a))->Q () s')(hf:X.fn x=true\/X.env.scope.names.lookup x=Gc .local:=by first|exact .inl rfl|exact .inr rfl|assumption):wpAny M A (storeName X.env x u) Q E s:=by
 obtain⟨m,hn,hl⟩:=id I.loc
 have hcls:(X.env.scope.kind== .class||(X.env.scope.kind== .module && X.env.locals !=X.env.globals))=false:=by rw[I.ok.kind];rfl
 have hiσ:i<σ.length:=by rw[I.len];exact(uI.mp hi).1
 have cne:=I.cne
 have tracked:∀{a:uC} {h':uz},(∃o,s.heap.get? a=Gc o/\H a=none)->wY a s.heap h'->HOk X.prog X.w H h':=λ{a h'} ha hs b ob e=>by
  obtain⟨_,_,hfree⟩:=ha
  refine(I.hok b ob e).cQ (λc w' hc q=>(hs.2 c ?_).trans q) (λ_ q=>q) λ_ _ q=>q
  rintro rfl
  rcases hc with rfl|hc
  .rw[hfree]at e;cases e
  .rw[hfree]at hc;cases hc
 rcases hx with hk|hk
 .refine wpAny_storeName_local hk hn (λh' hn' hs=>?_) hcls
  obtain⟨oL,_,_,hoL,_⟩:=id hn
  refine h _ ⟨I.ok,I.os,I.bare,⟨λb o e n hb hx=>?_,λb o e n hb hx=>?_,I.base.free,λb o e hx=>?_,I.base.bu,I.base.Z3,I.base.cV⟩,⟨_,hn',λj y v' e1 e2 e3=>?_⟩,λy c e=>?_,I.free,I.PC,λp hp=>?_,tracked ⟨oL,hoL,I.free⟩ hs,by simpa using I.len⟩ ⟨_,hs,.inl rfl⟩
  .exact(hs.2 b (uR (t9 (uK e) I.ok.above))).trans (I.base.keep b o e n hb hx)
  .obtain⟨sl,e1⟩:=I.base.slot b o e n hb hx
   exact⟨sl,(hs.2 b (uR (t9 (uK e) I.ok.above))).trans e1⟩
  .obtain⟨o',e1⟩:=I.base.there b o e hx
   exact⟨o',(hs.2 b (uR (t9 (uK e) I.ok.above))).trans e1⟩
  .by_cases hj:j=i
   .subst hj
    rw[hi]at e1;cases e1
    rw[uG hiσ]at e2
    cases e2
    exact⟨u,r,.inl ⟨hk,by simp⟩⟩
   .rw[uE (vZ hj)]at e2
    obtain⟨u',r',q⟩:=hl j y v' e1 e2 e3
    refine⟨u',r',?_⟩
    rcases q with⟨k,e⟩|⟨k,c,e,z⟩
    .refine .inl ⟨k,?_⟩
     have:y≠x:=λe=>hj (T5 hN e1 (e▸hi))
     simp[this,e]
    .exact .inr ⟨k,c,e,z.sameBut hs (cne y c e)⟩
  .obtain⟨w',z⟩:=I.cell y c e
   exact⟨w',z.sameBut hs (cne y c e)⟩
  .obtain⟨e,n,ne,nf,d⟩:=I.pin p hp
   exact⟨(hs.2 p.1 ne).trans e,n,ne,nf,d⟩
 .have hfn:X.fn x=true:=by
   rcases hf with z|z
   .exact z
   .rw[z]at hk;cases hk
  obtain⟨c,hc⟩:=I.ok.has x (.inl hk)
  obtain⟨w',z⟩:=I.cell x c hc
  refine wpAny_storeName_cell I.ok.kind hk hc z (λh' hc' hs=>?_)
  obtain⟨oc,hoc,hocd⟩:=id z
  refine h {s with heap:=h'} ⟨I.ok,I.os,I.bare,⟨λb o e n hb hx=>?_,λb o e n hb hx=>?_,I.base.free,λb o e hx=>?_,I.base.bu,I.base.Z3,I.base.cV⟩,⟨m,hn.sameBut hs (vZ (cne x c hc)),λj y v' e1 e2 e3=>?_⟩,λy c' e=>?_,I.free,I.PC,λp hp=>?_,tracked ⟨oc,hoc,I.PC x c hc⟩ hs,by simpa using I.len⟩ ⟨c,hs,.inr hc⟩
  .exact(hs.2 b (uR (t9 (uK e) (I.ok.cab x c hfn hc)))).trans (I.base.keep b o e n hb hx)
  .obtain⟨sl,e1⟩:=I.base.slot b o e n hb hx
   exact⟨sl,(hs.2 b (uR (t9 (uK e) (I.ok.cab x c hfn hc)))).trans e1⟩
  .obtain⟨o',e1⟩:=I.base.there b o e hx
   exact⟨o',(hs.2 b (uR (t9 (uK e) (I.ok.cab x c hfn hc)))).trans e1⟩
  .by_cases hj:j=i
   .subst hj
    rw[hi]at e1;cases e1
    rw[uG hiσ]at e2
    cases e2
    exact⟨u,r,.inr ⟨.inl hk,c,hc,hc'⟩⟩
   .rw[uE (vZ hj)]at e2
    obtain⟨u',r',q⟩:=hl j y v' e1 e2 e3
    refine⟨u',r',?_⟩
    rcases q with q|⟨k,c',e,z'⟩
    .exact .inl q
    .refine .inr ⟨k,c',e,z'.sameBut hs ?_⟩
     rintro rfl
     exact hj (T5 hN e1 (I.ok.inj _ _ _ e hc▸hi))
  .by_cases hcc:c'=c
   .subst hcc;exact⟨_,hc'⟩
   .obtain⟨w2,z2⟩:=I.cell y c' e
    exact⟨w2,z2.sameBut hs hcc⟩
  .obtain⟨e,n,ne,nf,d⟩:=I.pin p hp
   refine⟨(hs.2 p.1 ?_).trans e,n,ne,nf,d⟩
   intro q
   rw[q,hoc]at e
   have q':oc=p.2:=vS e
   exact d w' (by rw[<-q'];exact hocd)
theorem NP{M:Model}{A:u5}{E:tW->tZ->Prop}{i:Nat}{x:Str}{v:V}{u:tW}{Q:Unit->tZ->Prop}(I:Inv X pins σ H s)(hN:X.N.Nodup)(hi:X.N[i]?=Gc x)(hx:Loc X.env.scope x)(r:RelV v u)(h:∀s',Inv X pins (σ.set i (Gc v)) H s'->Q () s')(hf:X.fn x=true\/X.env.scope.names.lookup x=Gc .local:=by first|exact .inl rfl|exact .inr rfl|assumption):wpAny M A (storeName X.env x u) Q E s:=
 Ro I hN hi hx r (λs' I' _=>h s' I') hf
theorem Inv.my{s':tZ}{ch:KE uC}(I:Inv X pins σ H s)(ho:s'.os=s.os)(u:Un (frs X.stack) ch H H' s.heap s'.heap)(hok:HOk X.prog X.w H' s'.heap)(hg:zq s'.gens)(hch:∀b∈ch,(b∈X.ex\/X.s₀.heap.objs.size<=b)/\b≠X.env.locals/\(∀x c,X.env.cells.lookup x=Gc c->c≠b)/\∀p∈X.pn++pins,p.1≠b):Inv X pins σ H' s':=by
 obtain⟨h',g',d',t',o'⟩:=s'
 have e:o'=s.os:=ho
 subst e
 exact I.call (g':=g') (t':=t') (d':=d') u hok hg hch
end
abbrev XK:=tW->tY uC->Hp->Prop
abbrev St:=KE (tY V)
abbrev VK:=V->Hp->Prop
abbrev TE:=St->Hp->VK->Prop
abbrev TT:=St->Hp->(uv->Hp->Prop)->Prop
abbrev TA:=St->Hp->(KE V->Hp->Prop)->Prop
structure Ends where
 nx:St->Hp->Prop
 rt:VK
 bk:St->Hp->Prop:=λ_ _=>xy
 ct:St->Hp->Prop:=λ_ _=>xy
abbrev TS:=Ends->St->Hp->Prop
def EP(X:Cx)(pins:KE (uC×Obj))(σ:St)(Q:VK)(u:tW)(s':tZ):Prop:=∃v H',Inv X pins σ H' s'/\RelV v u/\Q v H'
def TP(X:Cx)(pins:KE (uC×Obj))(σ:St)(Q:uv->Hp->Prop)(b:uv)(s':tZ):Prop:=∃H',Inv X pins σ H' s'/\Q b H'
def AP(X:Cx)(pins:KE (uC×Obj))(σ:St)(Q:KE V->Hp->Prop)(us:KE tW)(s':tZ):Prop:=∃vs H',Inv X pins σ H' s'/\Vals vs us/\Q vs H'
def SP(X:Cx)(pins:KE (uC×Obj))(D:Ends)(f:Flow)(s':tZ):Prop:=
 match f with
 | .next=>∃σ' H',Inv X pins σ' H' s'/\D.nx σ' H'
 | .brk=>∃σ' H',Inv X pins σ' H' s'/\D.bk σ' H'
 | .cont=>∃σ' H',Inv X pins σ' H' s'/\D.ct σ' H'
 | .ret u=>∃v σ' H',Inv X pins σ' H' s'/\RelV v u/\D.rt v H'
def PE(X:Cx)(e:ui)(t:TE):Prop:=
 ∀(pins:KE (uC×Obj)) (s:tZ) (σ:St) (H:Hp) (Q:VK),Inv X pins σ H s->t σ H Q->wpAny (model X.prog X.w) X.A (eval e X.env) (EP X pins σ Q) X.xe s
def PT(X:Cx)(e:ui)(t:TT):Prop:=
 ∀(pins:KE (uC×Obj)) (s:tZ) (σ:St) (H:Hp) (Q:uv->Hp->Prop),Inv X pins σ H s->t σ H Q->wpAny (model X.prog X.w) X.A (isTrue e X.env (eval e X.env)) (TP X pins σ Q) X.xe s
def PW(X:Cx)(e:ui)(t:TT):Prop:=
 ∀(whole:Sem tW) (pins:KE (uC×Obj)) (s:tZ) (σ:St) (H:Hp) (Q:uv->Hp->Prop),Inv X pins σ H s->t σ H Q->wpAny (model X.prog X.w) X.A (isTrue e X.env whole) (TP X pins σ Q) X.xe s
theorem PW.pt{X:Cx}{e:ui}{t:TT}(h:PW X e t):PT X e t:=h _
def PA(X:Cx)(es:KE ui)(t:TA):Prop:=
 ∀(pos:Pos) (pins:KE (uC×Obj)) (s:tZ) (σ:St) (H:Hp) (Q:KE V->Hp->Prop),Inv X pins σ H s->t σ H Q->wpAny (model X.prog X.w) X.A (spliced (backTo pos (uW es X.env))) (AP X pins σ Q) X.xe s
def PS(X:Cx)(st:vE)(t:TS):Prop:=
 ∀(pins:KE (uC×Obj)) (s:tZ) (σ:St) (H:Hp) (D:Ends),Inv X pins σ H s->t D σ H->wpAny (model X.prog X.w) X.A (exec st X.env) (SP X pins D) X.xe s
def PSs(X:Cx)(st:KE vE)(t:TS):Prop:=
 ∀(pins:KE (uC×Obj)) (s:tZ) (σ:St) (H:Hp) (D:Ends),Inv X pins σ H s->t D σ H->wpAny (model X.prog X.w) X.A (execs st X.env) (SP X pins D) X.xe s
theorem thn{α:Type}{t:Sem α}{Q Q':α->tZ->Prop}{M:Model}{A:u5}{E:tW->tZ->Prop}{s:tZ}(h:wpAny M A t Q E s)(hQ:∀a s,Q a s->Q' a s):wpAny M A t Q' E s:=yA h hQ λ_ _ x=>x
end L2
namespace L2
open PySem PySem.Spec PyProof.Rows
section
variable{X:Cx}
noncomputable def sL(i:Nat):TE:=λσ H Q=>∃v,σ[i]?=Gc (Gc v)/\Q v H
noncomputable def tC(v:V):TE:=λ_ H Q=>Q v H
theorem js{i:Nat}{x:Str}{pos:Pos}(hN:X.N[i]?=Gc x)(hv:Vis X.env.scope x)(hd:(x==("__debug__":Str))=false:=by decide)(hcd:(x==("__classdict__":Str))=false:=by decide):PE X (.Name x pos) (sL i):=by
 intro pins s σ H Q I h
 obtain⟨v,e,h⟩:=h
 obtain⟨m,hn,hl⟩:=I.loc
 obtain⟨u,r,l⟩:=hl i x v hN e hv
 have fin:EP X pins σ Q u s:=⟨v,H,I,r,h⟩
 rcases l with⟨hk,hm⟩|⟨hk,c,hc,hcell⟩
 .exact wpAny_Name (wpAny_loadName_local I.ok.kind hk hn hm fin) hd
 .rcases hk with hk|hk
  .exact wpAny_Name (wpAny_loadName_cell I.ok.kind hk hc hcell fin) hd
  .exact wpAny_Name (wpAny_loadName_free I.ok.kind hk hc hcell fin hcd) hd
theorem jv{i j pos}:PE X (.Constant (.int i) j pos) (tC (.int i)):=λ_ _ _ H _ I h=>wpAny_Constant_int ⟨.int i,H,I.tok _,⟨_,rfl⟩,h⟩
theorem nC{b j pos}:PE X (.Constant (.bool b) j pos) (tC (.bl b)):=λ_ _ _ H _ I h=>Constant_bool ⟨.bl b,H,I,rfl,h⟩
theorem jX{j pos}:PE X (.Constant .none j pos) (tC .non):=λ_ _ _ H _ I h=>Constant_none ⟨.non,H,I,rfl,h⟩
theorem ig{x j pos}:PE X (.Constant (.str x) j pos) (tC (.str x)):=λ_ _ _ H _ I h=>Calls.Constant_str ⟨.str x,H,I.tok _,⟨_,rfl⟩,h⟩
def Gl(X:Cx)(x:Str):Prop:=X.env.kindOf x=Gc .globalImplicit
theorem YV{E:tW->tZ->Prop}{pins:KE (uC×Obj)}{s:tZ}{σ:St}{H:Hp}{x:Str}{u:tW}{pos:Pos}{Q:tW->tZ->Prop}(I:Inv X pins σ H s)(hg:Gl X x)(hm:X.mg x=Gc u)(h:Q u s)(hd:(x==("__debug__":Str))=false:=by decide):wpAny (model X.prog X.w) X.A (eval (.Name x pos) X.env) Q E s:=
 zT I.ok.kind hg (Calls.loadGlobal_global (by rw[I.ok.glob];exact I.mod.glob.keeps I.bk) hm h) hd
theorem MN{E:tW->tZ->Prop}{pins:KE (uC×Obj)}{s:tZ}{σ:St}{H:Hp}{x:Str}{u:tW}{pos:Pos}{Q:tW->tZ->Prop}(I:Inv X pins σ H s)(hg:Gl X x)(hm:X.mg x=none)(hv:bootBuiltins x=Gc u)(h:Q u s)(hn:x≠ "__name__":=by decide)(hd:(x==("__debug__":Str))=false:=by decide):wpAny (model X.prog X.w) X.A (eval (.Name x pos) X.env) Q E s:=by
 obtain⟨mb,h1,h2⟩:=I.mod.blt
 exact zT I.ok.kind hg (Calls.loadGlobal_builtin (by rw[I.ok.glob];exact I.mod.glob.keeps I.bk) hm (by rw[I.ok.blt];exact h1.keeps I.bk) ((h2 x hn).trans hv) h) hd
theorem eJ{x:Str}{v:V}{u:tW}{pos:Pos}(hg:Gl X x)(hm:X.mg x=Gc u)(r:RelV v u)(hd:(x==("__debug__":Str))=false:=by decide):PE X (.Name x pos) (tC v):=
 λ_ _ _ H _ I h=>YV I hg hm ⟨v,H,I,r,h⟩ hd
theorem ff{x:Str}{v:V}{u:tW}{pos:Pos}(hg:Gl X x)(hm:X.mg x=none)(hv:bootBuiltins x=Gc u)(r:RelV v u)(hn:x≠ "__name__":=by decide)(hd:(x==("__debug__":Str))=false:=by decide):PE X (.Name x pos) (tC v):=
 λ_ _ _ H _ I h=>MN I hg hm hv ⟨v,H,I,r,h⟩ hn hd
variable{a b:ui}{ta tb:TE}{pos:Pos}
noncomputable def tB(t:TE):TT:=λσ H Q=>t σ H λx H1=>∃c,x=.bl c/\Q c H1
theorem jk{e:ui}{t:TE}(h:PE X e t)(he:∀whole,isTrue e X.env whole=(do let v<-whole;standAt e.pos;holding [v] (truthy v)):=by intro _;rfl):PT X e (tB t):=by
 intro pins s σ H Q I hw
 refine isTrue_plain (thn (h pins s σ H _ I hw) λv s1 ⟨x,H1,I1,r1,q1⟩=>?_) (he _)
 obtain⟨d,rfl,q⟩:=q1
 cases r1
 exact yc ⟨H1,I1,q⟩
variable{tA tB':TT}{rest:KE ui}
noncomputable def q9(t u:TT):TT:=λσ H Q=>t σ H λc H1=>if c=true then u σ H1 Q else Q false H1
noncomputable def tOr(t u:TT):TT:=λσ H Q=>t σ H λc H1=>if c=true then Q true H1 else u σ H1 Q
noncomputable def ql(t:TT):TT:=λσ H Q=>t σ H λc H1=>Q (!c) H1
theorem fY(ha:PT X a tA):PW X (.BoolOp .And [a] pos) tA:=by
 intro wh pins s σ H Q I h
 refine isTrue_and (thn (ha pins s σ H Q I h) λc s1 e=>?_)
 cases c with
 |true=>exact isTrue_and_nil e
 |false=>exact e
theorem kE(ha:PT X a tA):PW X (.BoolOp .Or [a] pos) tA:=by
 intro wh pins s σ H Q I h
 refine isTrue_or (thn (ha pins s σ H Q I h) λc s1 e=>?_)
 cases c with
 |false=>exact isTrue_or_nil e
 |true=>exact e
theorem jS(ha:PT X a tA)(hb:PW X (.BoolOp .And (b::rest) pos) tB'):PW X (.BoolOp .And (a::b::rest) pos) (q9 tA tB'):=by
 intro wh pins s σ H Q I h
 refine isTrue_and (thn (ha pins s σ H _ I h) λc s1 ⟨H1,I1,q1⟩=>?_)
 cases c with
 |true=>exact hb wh pins s1 σ H1 Q I1 q1
 |false=>exact⟨H1,I1,q1⟩
theorem oM(ha:PT X a tA)(hb:PW X (.BoolOp .Or (b::rest) pos) tB'):PW X (.BoolOp .Or (a::b::rest) pos) (tOr tA tB'):=by
 intro wh pins s σ H Q I h
 refine isTrue_or (thn (ha pins s σ H _ I h) λc s1 ⟨H1,I1,q1⟩=>?_)
 cases c with
 |true=>exact⟨H1,I1,q1⟩
 |false=>exact hb wh pins s1 σ H1 Q I1 q1
theorem iV(ha:PT X a tA):PT X (.UnaryOp .Not a pos) (ql tA):=by
 intro pins s σ H Q I h
 exact isTrue_not (ha pins s σ H (λc H1=>Q (!c) H1) I h)
noncomputable def mR(ta tb:TE):TE:=λσ H Q=>ta σ H λx H1=>∃c,x=.bl c/\if c=true then tb σ H1 Q else Q (.bl false) H1
noncomputable def mQ(ta:TE):TE:=λσ H Q=>ta σ H λx H1=>∃c,x=.bl c/\Q (.bl (!c)) H1
theorem hV{op}{t:TE}(h:PE X a t):PE X (.BoolOp op [a] pos) t:=λpins s σ H Q I hw=>BoolOp_one (h pins s σ H Q I hw)
theorem iA(ha:PE X a ta)(hb:PE X (.BoolOp .And (b::rest) pos) tb):PE X (.BoolOp .And (a::b::rest) pos) (mR ta tb):=by
 intro pins s σ H Q I h
 refine BoolOp_and (thn (ha pins s σ H _ I h) λv s1 ⟨x,H1,I1,r1,q1⟩=>?_)
 obtain⟨c,rfl,q1⟩:=q1
 cases r1
 refine yc ?_
 cases c with
 |true=>exact hb pins s1 σ H1 Q I1 q1
 |false=>exact⟨.bl false,H1,I1,rfl,q1⟩
theorem jC(ha:PE X a ta):PE X (.UnaryOp .Not a pos) (mQ ta):=by
 intro pins s σ H Q I h
 refine UnaryOp_ (thn (ha pins s σ H _ I h) λv s1 ⟨x,H1,I1,r1,q1⟩=>?_)
 obtain⟨c,rfl,q1⟩:=q1
 cases r1
 exact not_of (yc ⟨.bl (!c),H1,I1,rfl,q1⟩)
noncomputable def tIf(t:TT)(ta tb:TE):TE:=λσ H Q=>t σ H λc H1=>if c=true then ta σ H1 Q else tb σ H1 Q
theorem bW{c:ui}(hc:PT X c tA)(ha:PE X a ta)(hb:PE X b tb):PE X (.IfExp c a b pos) (tIf tA ta tb):=by
 intro pins s σ H Q I h
 refine wpAny_IfExp (thn (hc pins s σ H _ I h) λd s1 ⟨H1,I1,q1⟩=>?_)
 cases d with
 |true=>exact ha pins s1 σ H1 Q I1 q1
 |false=>exact hb pins s1 σ H1 Q I1 q1
end
end L2
namespace L2
open PySem PySem.Spec PyProof.Rows
def SqL(K:tU)(H:Hp)(a:uC)(xs:KE V):Prop:=
 Rd H a (.lst xs)∨
  ∃(o:Obj) (its:uu tW) (n:Nat),K.lookup a=Gc o/\o.cls=.type "list" /\o.dict=none/\o.data=.seq its n/\its.size<=sizeLine/\Vals xs its.toList
def SqT(K:tU)(H:Hp)(a:uC)(xs:KE V):Prop:=
 Rd H a (.tup xs)∨
  ∃(o:Obj) (its:uu tW) (n:Nat),K.lookup a=Gc o/\o.cls=.type "tuple" /\o.data=.seq its n/\its.size<=sizeLine/\Vals xs its.toList
noncomputable def qj:tW->tY V
 | .none=>Gc .non
 | .bool b=>Gc (.bl b)
 | .int i _=>Gc (.int i)
 | .str x _=>Gc (.str x)
 | .bytes b _=>Gc (.byt b)
 | .float b _=>Gc (.flt b)
 | .ref a=>Gc (.ref a)
 | .type n=>Gc (.ty n)
 |_=>none
theorem RelV.abs{x:V}{u:tW}(r:RelV x u):qj u=Gc x:=by
 cases x with
 |non=>cases r;rfl
 |bl _=>cases r;rfl
 |int _=>obtain⟨t,rfl⟩:=r;rfl
 |str _=>obtain⟨t,rfl⟩:=r;rfl
 |byt _=>obtain⟨t,rfl⟩:=r;rfl
 |flt _=>obtain⟨t,rfl⟩:=r;rfl
 |ref _=>cases r;rfl
 |ty _=>cases r;rfl
theorem RelV.inj{x y:V}{u:tW}(r:RelV x u)(q:RelV y u):x=y:=vS (r.abs.symm.trans q.abs)
theorem Vals.inj:∀{xs ys:KE V} {us:KE tW},Vals xs us->Vals ys us->xs=ys
 |_,_,_,.nil,.nil=>rfl
 |_,_,_,.cons r t,.cons r' t'=>by rw[r.inj r',Vals.inj t t']
section
variable{X:Cx}{pins:KE (uC×Obj)}{σ:St}{H:Hp}{s:tZ}{a:uC}{xs ys:KE V}
theorem SqL.of{K:tU}(h:H a=Gc (.lst xs)):SqL K H a xs:=.inl (.inl h)
theorem SqT.of{K:tU}(h:H a=Gc (.tup xs)):SqT K H a xs:=.inl (.inl h)
theorem Inv.list(I:Inv X pins σ H s)(h:SqL X.K H a xs):∃its:KE tW,Vals xs its/\PlainL s.heap a its.toArray/\xs.length<=sizeLine:=by
 rcases h with h|⟨o,its,n,hk,hc,hd,hs,hz,r⟩
 .obtain⟨z,its,n,r,e⟩:=h.ok I.hok
  exact⟨its,r,⟨_,n,e,rfl,rfl,rfl⟩,z⟩
 .refine⟨its.toList,r,⟨o,n,I.kIn a o hk,hc,hd,by simpa using hs⟩,?_⟩
  have e:=r.length
  simp only[vq]at e
  lia
theorem Inv.tuple(I:Inv X pins σ H s)(h:SqT X.K H a xs):∃its:KE tW,Vals xs its/\IsTup s.heap a its.toArray/\xs.length<=sizeLine:=by
 rcases h with h|⟨o,its,n,hk,hc,hs,hz,r⟩
 .obtain⟨z,its,r,p⟩:=h.ok I.hok
  exact⟨its,r,p,z⟩
 .refine⟨its.toList,r,⟨o,I.kIn a o hk,hc,n,by simpa using hs⟩,?_⟩
  have e:=r.length
  simp only[vq]at e
  lia
theorem Inv.UX(I:Inv X pins σ H s)(h:SqL X.K H a xs)(h':SqL X.K H a ys):xs=ys:=by
 obtain⟨its,r,⟨o,n,e,_,_,d⟩,_⟩:=I.list h
 obtain⟨its',r',⟨o',n',e',_,_,d'⟩,_⟩:=I.list h'
 rw[e]at e';cases e'
 rw[d]at d'
 injection d' with d1 _
 have:its=its':=by simpa using congrArg Array.toList d1
 subst this
 exact r.inj r'
theorem Inv.SR(I:Inv X pins σ H s)(h:SqT X.K H a xs)(h':SqT X.K H a ys):xs=ys:=by
 obtain⟨its,r,⟨o,e,_,n,d⟩,_⟩:=I.tuple h
 obtain⟨its',r',⟨o',e',_,n',d'⟩,_⟩:=I.tuple h'
 rw[e]at e';cases e'
 rw[d]at d'
 injection d' with d1 _
 have:its=its':=by simpa using congrArg Array.toList d1
 subst this
 exact r.inj r'
end
abbrev Cx.Yq(X:Cx)(E:tW->tZ->Prop):Cx:={X with xe:=E}
abbrev Cx.nox(X:Cx):Cx:=X.Yq λ_ _=>xy
theorem Cx.Ok.Yq{X:Cx}(ok:X.Ok)(E:tW->tZ->Prop):(X.Yq E).Ok:=
 ⟨ok.mod,ok.kind,ok.glob,ok.blt,ok.above,ok.inj,ok.has,ok.cab,ok.hd,ok.frames,ok.stk,ok.exf,ok.bs,ok.bsz,ok.dU,ok.gg,ok.Wy,ok.frf⟩
theorem Cx.Ok.MM{X:Cx}{E:tW->tZ->Prop}(ok:(X.Yq E).Ok):X.Ok:=
 ⟨ok.mod,ok.kind,ok.glob,ok.blt,ok.above,ok.inj,ok.has,ok.cab,ok.hd,ok.frames,ok.stk,ok.exf,ok.bs,ok.bsz,ok.dU,ok.gg,ok.Wy,ok.frf⟩
section
variable{X:Cx}{pins:KE (uC×Obj)}{σ:St}{H:Hp}{s:tZ}{E:tW->tZ->Prop}
theorem Inv.Yq(I:Inv X pins σ H s)(E:tW->tZ->Prop):Inv (X.Yq E) pins σ H s:=⟨I.ok.Yq E,I.os,I.bare,I.base,I.loc,I.cell,I.free,I.PC,I.pin,I.hok,I.len⟩
theorem Inv.MM(I:Inv (X.Yq E) pins σ H s):Inv X pins σ H s:=⟨I.ok.MM,I.os,I.bare,I.base,I.loc,I.cell,I.free,I.PC,I.pin,I.hok,I.len⟩
theorem SP.MM{D:Ends}{f:Flow}{s':tZ}(h:SP (X.Yq E) pins D f s'):SP X pins D f s':=by
 cases f with
 |next=>obtain⟨σ',H',I,q⟩:=h;exact⟨σ',H',I.MM,q⟩
 |brk=>obtain⟨σ',H',I,q⟩:=h;exact⟨σ',H',I.MM,q⟩
 |cont=>obtain⟨σ',H',I,q⟩:=h;exact⟨σ',H',I.MM,q⟩
 |ret u=>obtain⟨v,σ',H',I,r,q⟩:=h;exact⟨v,σ',H',I.MM,r,q⟩
theorem PSs.nox{st:KE vE}{t:TS}(h:PSs X.nox st t):PSs X st t:=λpins s σ H D I hw=>
 yA (h pins s σ H D (I.Yq _) hw) (λ_ _ q=>q.MM) λ_ _ z=>xc z
end
section
variable{X:Cx}{st:vE}{rest:KE vE}{t u:TS}{e:ui}{te:TE}{pos:Pos}
noncomputable def oB:TS:=λD σ H=>D.nx σ H
noncomputable def sF(t u:TS):TS:=λD σ H=>t {D with nx:=u D} σ H
theorem fG:PSs X [] oB:=λ_ _ σ H _ I h=>zF ⟨σ,H,I,h⟩
theorem Z2(h1:PS X st t)(h2:PSs X rest u):PSs X (st::rest) (sF t u):=by
 intro pins s σ H D I h
 refine wpAny_execs_cons (thn (h1 pins s σ H {D with nx:=u D} I h) λf s1 q=>?_)
 cases f with
 |next=>
  obtain⟨σ',H',I',q⟩:=q
  exact h2 pins s1 σ' H' D I' q
 |ret v=>exact q
 |brk=>exact q
 |cont=>exact q
theorem dm(h1:PS X st t):PSs X [st] t:=by
 intro pins s σ H D I h
 refine wpAny_execs_cons (thn (h1 pins s σ H D I h) λf s1 q=>?_)
 cases f with
 |next=>exact zF q
 |ret v=>exact q
 |brk=>exact q
 |cont=>exact q
theorem Inv.quiet{pins:KE (uC×Obj)}{σ:St}{H:Hp}{s:tZ}(I:Inv X pins σ H s):interactive X.env=false:=by simp[interactive,I.ok.kind]
noncomputable def og(te:TE):TS:=λD σ H=>te σ H λ_ H1=>D.nx σ H1
theorem eE(he:PE X e te)(hs:swapsWith e none pos.line X.env=pure false:=by rfl):PS X (.Expr e pos) (og te):=by
 intro pins s σ H D I h
 exact wpAny_Expr_any (thn (he pins s σ H _ I h) λv s1 ⟨x,H1,I1,r1,q1⟩=>⟨σ,H1,I1,q1⟩) I.quiet hs
noncomputable def sX(te:TE):TS:=λD σ H=>te σ H D.rt
theorem jn(he:PE X e te):PS X (.Return (Gc e) pos) (sX te):=by
 intro pins s σ H D I h
 exact wpAny_Return_some (thn (he pins s σ H _ I h) λv s1 ⟨x,H1,I1,r1,q1⟩=>⟨x,σ,H1,I1,r1,q1⟩)
noncomputable def qh(c:TT)(t u:TS):TS:=λD σ H=>c σ H λb H1=>if b=true then t D σ H1 else u D σ H1
theorem ng{c:ui}{a b:KE vE}{tc:TT}(hc:PT X c tc)(ha:PSs X a t)(hb:PSs X b u):PS X (.If c a b pos) (qh tc t u):=by
 intro pins s σ H D I h
 refine wpAny_If (thn (hc pins s σ H _ I h) λd s1 ⟨H1,I1,q1⟩=>?_)
 cases d with
 |true=>exact ha pins s1 σ H1 D I1 q1
 |false=>exact hb pins s1 σ H1 D I1 q1
end
abbrev TG:=V->St->Hp->(St->Hp->Prop)->Prop
abbrev TGs:=KE V->St->Hp->(St->Hp->Prop)->Prop
def PG(X:Cx)(target:ui)(t:TG):Prop:=
 ∀(pins:KE (uC×Obj)) (s:tZ) (σ:St) (H:Hp) (v:V) (u:tW) (Q:St->Hp->Prop),Inv X pins σ H s->RelV v u->t v σ H Q->
  wpAny (model X.prog X.w) X.A (assign target X.env u) (λ_ s'=>∃σ' H',Inv X pins σ' H' s'/\Q σ' H') X.xe s
def PGs(X:Cx)(ts:KE ui)(t:TGs):Prop:=
 ∀(pins:KE (uC×Obj)) (s:tZ) (σ:St) (H:Hp) (vs:KE V) (us:KE tW) (Q:St->Hp->Prop),Inv X pins σ H s->Vals vs us->t vs σ H Q->
  wpAny (model X.prog X.w) X.A (assignInOrder ((assignEach ts X.env).map (·.2)) us) (λ_ s'=>∃σ' H',Inv X pins σ' H' s'/\Q σ' H') X.xe s
abbrev oR:=V->V->V->Hp->(Hp->Prop)->Prop
def qf(X:Cx)(t:oR):Prop:=
 ∀(pins:KE (uC×Obj)) (s:tZ) (σ:St) (H:Hp) (o i v:V) (ov iv u:tW) (Q:Hp->Prop),Inv X pins σ H s->RelV o ov->RelV i iv->RelV v u->t o i v H Q->
  wpAny (model X.prog X.w) X.A (setItem ov iv u) (λ_ s'=>∃H',Inv X pins σ H' s'/\Q H') X.xe s
section
variable{X:Cx}{pos:Pos}
noncomputable def gJ(i:Nat):TG:=λv σ H Q=>Q (σ.set i (Gc v)) H
theorem dQ{i:Nat}{x:Str}(hN:X.N.Nodup)(hi:X.N[i]?=Gc x)(hx:Loc X.env.scope x)(hf:X.fn x=true\/X.env.scope.names.lookup x=Gc .local:=by first|exact .inl rfl|exact .inr rfl|assumption):PG X (.Name x pos) (gJ i):=by
 intro pins s σ H v u Q I r h
 exact wpAny_assign_Name (NP I hN hi hx r (λs' I'=>⟨_,H,I',h⟩) hf)
noncomputable def qb:TGs:=λvs σ H Q=>vs=[]/\Q σ H
noncomputable def jj(t:TG)(u:TGs):TGs:=λvs σ H Q=>∃v r,vs=v::r/\t v σ H λσ' H'=>u r σ' H' Q
theorem de:PGs X [] qb:=by
 intro pins s σ H vs us Q I r h
 obtain⟨e,h⟩:=h
 subst e
 cases r
 exact assignInOrder_nil ⟨σ,H,I,h⟩
theorem bG{e:ui}{es:KE ui}{t:TG}{u:TGs}(h1:PG X e t)(h2:PGs X es u)(hs:(assignEach (e::es) X.env).map (·.2)=assign e X.env::(assignEach es X.env).map (·.2):=by rfl):PGs X (e::es) (jj t u):=by
 intro pins s σ H vs us Q I r h
 obtain⟨v,vr,e1,h⟩:=h
 subst e1
 cases r with
 |cons r rr=>
  rw[hs]
  refine zU (thn (h1 pins s σ H _ _ _ I r h) λ_ s1 ⟨σ1,H1,I1,q1⟩=>?_)
  exact h2 pins s1 σ1 H1 _ _ Q I1 rr q1
noncomputable def rP(K:tU)(n:Nat)(t:TGs):TG:=λv σ H Q=>∃a xs,v=.ref a/\SqT K H a xs/\xs.length=n/\t xs σ H Q
theorem iN{es:KE ui}{k:Nat}{t:TGs}{n:Nat}(hc:X.calm=true)(h:PGs X es t)(hn:(assignEach es X.env).length=n:=by rfl)(hst:(assignEach es X.env).findIdx? (·.1)=none:=by rfl):PG X (.Tuple es k pos) (rP X.K n t):=by
 intro pins s σ H v u Q I r hw
 obtain⟨a,xs,e1,hq,hl,hw⟩:=hw
 subst e1
 cases r
 obtain⟨its,rv,ht,hz⟩:=I.tuple hq
 refine assign_Tuple_tuple (I.ok.hd hc) ht (by simp[hn,<-hl,rv.length]) hst λh' hx=>?_
 have I1:Inv X pins σ H {s with heap:=h'}:=I.kept (t':=s.toks) λb o e=>hx b o (uR (uK e)) e
 exact h pins _ σ H xs _ Q I1 (by simpa using rv) hw
noncomputable def sZ(to ti:TE)(t:oR):TG:=λv σ H Q=>to σ H λo H1=>ti σ H1 λi H2=>t o i v H2 λH3=>Q σ H3
theorem kF {o i : ui} {to ti : TE} {t : oR} (ho : PE X o to) (hi : PE X i ti) (hs : qf X t) (ha : ∀ v, assign (.Subscript o i pos) X.env v = (do
      let ov ← holding [v] (eval o X.env)
      let iv ← holding [v, ov] (eval i X.env)
      standAt pos
      holding [v, ov, iv] (setItem ov iv v)
      release [v, ov, iv] []) := by intro _; rfl) : PG X (.Subscript o i pos) (sZ to ti t) := by
  intro pins s σ H v u Q I r h
  rw [ha]
  refine Wp (vK (thn (ho pins s σ H _ I h) fun ov s1 ⟨x, H1, I1, r1, q1⟩ => ?_))
  refine Wp (vK (thn (hi pins s1 σ H1 _ I1 q1) fun iv s2 ⟨y, H2, I2, r2, q2⟩ => ?_))
  refine Wp (yQ (Wp (vK (thn (hs pins s2 σ H2 x y v ov iv u _ I2 r1 r2 r q2) fun _ s3 ⟨H3, I3, q3⟩ => ?_))))
  exact wpAny_release ⟨σ, H3, I3, q3⟩
noncomputable def pF(te:TE)(g:TG):TS:=λD σ H=>te σ H λx H1=>g x σ H1 D.nx
theorem bw{tg e:ui}{te:TE}{g:TG}(he:PE X e te)(hg:PG X tg g)(hs:swapsWithSole [tg] e pos.line X.env=pure false:=by rfl)(hw:swappedStores [tg] e X.env=pure none:=by rfl)(h1:(assignEach [tg] X.env).map (·.2)=[assign tg X.env]:=by rfl):PS X (.Assign [tg] e pos) (pF te g):=by
 intro pins s σ H D I h
 refine wpAny_Assign_stores (thn (he pins s σ H _ I h) λv s1 ⟨x,H1,I1,r1,q1⟩=>?_) hs hw
 rw[h1]
 exact thn (hg pins s1 σ H1 x v _ I1 r1 q1) λ_ s2 q=>q
theorem jG{i:Nat}{x:Str}{e:ui}{te:TE}{pos':Pos}(hN:X.N.Nodup)(hi:X.N[i]?=Gc x)(hx:Loc X.env.scope x)(he:PE X e te)(hs:swapsWith e (Gc (.Name x pos')) pos.line X.env=pure false:=by rfl)(hf:X.fn x=true\/X.env.scope.names.lookup x=Gc .local:=by first|exact .inl rfl|exact .inr rfl|assumption):PS X (.Assign [.Name x pos'] e pos) (pF te (gJ i)):=by
 intro pins s σ H D I h
 refine wpAny_Assign_Name (thn (he pins s σ H _ I h) λv s1 ⟨y,H1,I1,r1,q1⟩=>?_) hs
 exact NP I1 hN hi hx r1 (λs2 I2=>⟨_,H1,I2,q1⟩) hf
noncomputable def rH(i j:Nat)(ta:TA):TS:=λD σ H=>ta σ H λvs H1=>∃v w,vs=[v,w]/\D.nx ((σ.set i (Gc v)).set j (Gc w)) H1
theorem jw{i j:Nat}{x y:Str}{a b:ui}{ta:TA}{px py pt:Pos}{kt k2 pt2}(hc:X.calm=true)(hN:X.N.Nodup)(hi:X.N[i]?=Gc x)(hj:X.N[j]?=Gc y)(hij:i≠j)(hx:X.env.scope.names.lookup x=Gc .local)(hy:X.env.scope.names.lookup y=Gc .local)(ha:PA X [a,b] ta)(hw:swappedStores [.Tuple [.Name x px,.Name y py] kt pt] (.Tuple [a,b] k2 pt2) X.env=pure (Gc [x,y]))(hs:swapsWithSole [.Tuple [.Name x px,.Name y py] kt pt] (.Tuple [a,b] k2 pt2) pos.line X.env=pure false:=by rfl):PS X (.Assign [.Tuple [.Name x px,.Name y py] kt pt] (.Tuple [a,b] k2 pt2) pos) (rH i j ta):=by
 intro pins s σ H D I h
 rw[exec_Assign_arm]
 refine Wp (yQ ?_)
 rw[hs]
 refine Wp (tq ?_)
 rw[uh (by decide)]
 refine Wp (Tuple_ (thn (ha _ pins s σ H _ I h) λus s1 ⟨vs,H1,I1,r1,q1⟩=>?_))
 obtain⟨v,w,e1,q1⟩:=q1
 subst e1
 obtain⟨u1,u2,rfl,rv,rw'⟩:∃u1 u2,us=[u1,u2]/\RelV v u1/\RelV w u2:=by
  cases r1 with
  |cons p q=>
   cases q with
   |cons p' q'=>
    cases q'
    exact⟨_,_,rfl,p,p'⟩
 refine vG ?_ (by show 2<=sizeLine;decide)
 have I2:Inv X pins σ H1 {s1 with heap:=s1.heap.push {cls:=.type "tuple",data:=.seq [u1,u2].toArray}}:=I1.kept (t':=s1.toks) λb o e=>tV _ e
 rw[hw]
 refine Wp (tq ?_)
 show wpAny (model X.prog X.w) X.A (do rule "assign.swapped-stores"; let items<-unpackItems (.ref s1.heap.objs.size) 2 none;assignInOrder [λv=>bindName X.env y v,λv=>bindName X.env x v] items.reverse;pure Flow.next) _ _ _
 refine Wp (xP (Wp (unpackItems_tuple (items:= #[u1,u2]) (I.ok.hd hc) (yN s1.heap _) λh' hx'=>?_)))
 have I3:=I2.kept (h':=h') (t':=s1.toks) λb o e=>hx' b o (uR (uK e)) e
 show wpAny _ _ (assignInOrder [λv=>bindName X.env y v,λv=>bindName X.env x v] [u2,u1] >>= λ_=>pure Flow.next) _ _ _
 refine Wp (zU (wpAny_bindName (NP I3 hN hj (.inl hy) rw' (λs2 I4=>?_) (.inr hy))))
 refine zU (wpAny_bindName (NP I4 hN hi (.inl hx) rv (λs3 I5=>assignInOrder_nil (tq ?_)) (.inr hx)))
 rw[List.set_comm _ _ (vZ hij)]at I5
 exact⟨_,H1,I5,q1⟩
end
section
variable{X:Cx}{pos:Pos}
noncomputable def gy(c:TT)(tb:TS):TS:=λD σ H=>∃W:Nat->St->Hp->Prop,(∃m,W m σ H)/\∀m σ H,W m σ H->
 c σ H λb H1=>if b=true then∃N:St->Hp->Prop,(∀σ' H',N σ' H'->∃m',m'<m/\W m' σ' H')/\tb {D with nx:=N,ct:=N,bk:=D.nx} σ H1 else D.nx σ H1
theorem Zr{c:ui}{body:KE vE}{tc:TT}{tb:TS}(hp:PassesOwn (model X.prog X.w) X.A X.env X.xe)(hc:PT X c tc)(hb:PSs X body tb):PS X (.While c body [] pos) (gy tc tb):=by
 intro pins s σ H D I h
 obtain⟨W,⟨m0,w0⟩,turn⟩:=h
 refine wpAny_While (codeAny_whileLoop (λn s'=>∃σ' H',Inv X pins σ' H' s'/\W n σ' H') ?_ m0 ⟨σ,H,I,w0⟩)
 rintro n s1 ⟨σ1,H1,I1,w1⟩
 refine xH hp (thn (hc pins s1 σ1 H1 _ I1 (turn n σ1 H1 w1)) λb s2 ⟨H2,I2,q2⟩=>?_)
 cases b with
 |true=>
  obtain⟨N,hN,q2⟩:=q2
  rw[uZ rfl]
  refine xH hp (thn (hb pins s2 σ1 H2 _ I2 q2) λf s3 q3=>?_)
  cases f with
  |next=>
   obtain⟨σ3,H3,I3,n3⟩:=q3
   obtain⟨m',hm,w3⟩:=hN σ3 H3 n3
   exact⟨m',hm,σ3,H3,I3,w3⟩
  |cont=>
   obtain⟨σ3,H3,I3,n3⟩:=q3
   obtain⟨m',hm,w3⟩:=hN σ3 H3 n3
   exact⟨m',hm,σ3,H3,I3,w3⟩
  |brk=>exact q3
  |ret v=>exact q3
 |false=>
  rw[uh vC]
  exact zF ⟨σ1,H2,I2,q2⟩
end
structure It where
 go:Nat->Hp->Prop
 yld:Nat->Hp->V->Hp->Prop
 stop:Nat->Hp->Prop
def Ss(X:Cx)(pins:KE (uC×Obj))(H:Hp)(b:uC):Prop:=
 H b=none/\b≠X.env.locals/\b∉X.fs/\(b∈X.ex\/X.s₀.heap.objs.size<=b)/\(∀x c,X.env.cells.lookup x=Gc c->c≠b)/\∀p∈X.pn++pins,p.1≠b
theorem Inv.fC{X:Cx}{pins:KE (uC×Obj)}{σ:St}{H H':Hp}{s:tZ}{b:uC}(I:Inv X pins σ H s)(hb:s.heap.objs.size<=b)(hn:H' b=none):Ss X pins H' b:=by
 refine⟨hn,yd (t9 I.lt hb),I.qz hb,.inr (uA I.sz hb),λx c e z=>?_,λp hp z=>?_⟩
 .obtain⟨v,q⟩:=I.cell x c e
  exact absurd (t9 q.lt (by rw[z];exact hb)) (vV _)
 .exact absurd (t9 (uK (I.pin p hp).1) (by rw[z];exact hb)) (vV _)
structure Turn(P:uT)(w:ur)(K:tU)(tg:ui)(J:It)(fp:KE uC)(it:uC)(tn:Nat->uz->Prop):Prop where
 mem:it∈fp
 obj:∀i h,tn i h->∀b∈fp,∃o,h.get? b=Gc o/\∀v,o.data≠.cell v
 keep:∀i h h',tn i h->(∀b∈fp,∀o,h.get? b=Gc o->h'.get? b=Gc o)->tn i h'
 item:∀(X:Cx),X.prog=P->X.w=w->X.K=K->X.calm=true->∀(i:Nat) (pins:KE (uC×Obj)) (s:tZ) (σ:St) (H:Hp) (E:tW->tZ->Prop),Inv X pins σ H s->(∀b∈fp,Ss X pins H b)->tn i s.heap->J.go i H->
  wpAny (model P w) X.A (pyNext (.ref it)) (λr s1=>∃u,r=Gc u/\
   wpAny (model P w) X.A (letOwnedTupleGo tg (.ref it) u) (λ_ s2=>∃x H',Inv X pins σ H' s2/\RelV x u/\J.yld i H x H'/\tn (i+1) s2.heap/\∀b∈fp,H' b=none) E s1) E s
 done:∀(X:Cx),X.prog=P->X.w=w->X.K=K->X.calm=true->∀(i:Nat) (pins:KE (uC×Obj)) (s:tZ) (σ:St) (H:Hp) (E:tW->tZ->Prop),Inv X pins σ H s->(∀b∈fp,Ss X pins H b)->tn i s.heap->J.stop i H->
  wpAny (model P w) X.A (pyNext (.ref it)) (λr s1=>r=none/\Inv X pins σ H s1) E s
 self:∀(A:u5) (i:Nat) (s:tZ) (Q:tW->tZ->Prop) (E:tW->tZ->Prop),tn i s.heap->Q (.ref it) s->wpAny (model P w) A (pyIter (.ref it)) Q E s
abbrev TI:=St->Hp->(It->Hp->Prop)->Prop
def PIE(X:Cx)(pins:KE (uC×Obj))(σ:St)(tg:ui)(R:It->Hp->Prop)(itv:tW)(s2:tZ):Prop:=
 ∃(it:uC) (fp:KE uC) (tn:Nat->uz->Prop) (J:It) (H':Hp),itv=.ref it/\Inv X pins σ H' s2/\Turn X.prog X.w X.K tg J fp it tn/\tn 0 s2.heap/\(∀b∈fp,Ss X pins H' b)/\R J H'
def PI(X:Cx)(tg iter:ui)(wi:TI):Prop:=
 ∀(pins:KE (uC×Obj)) (s:tZ) (σ:St) (H:Hp) (R:It->Hp->Prop),Inv X pins σ H s->wi σ H R->
  wpAny (model X.prog X.w) X.A (eval iter X.env) (λv s1=>wpAny (model X.prog X.w) X.A (pyIter v) (PIE X pins σ tg R) X.xe s1) X.xe s
theorem gE{M:Model}{A:u5}{E:tW->tZ->Prop}{s:tZ}{tg:ui}{it:uC}{u:tW}{o:Obj}{n:xD}{vs:uu tW}{Q:Unit->tZ->Prop}(ho:s.heap.get? it=Gc o)(hc:o.cls=.type n)(hd:o.data=.fields vs)(hn:["enumerate","zip","dict_itemiterator","dict_reverseitemiterator","odict_iterator","itertools.zip_longest","itertools.pairwise"].contains n=false)(hQ:Q () s):wpAny M A (letOwnedTupleGo tg (.ref it) u) Q E s:=by
 unfold letOwnedTupleGo
 cases tg<;>first
  |exact tq hQ
  |(cases u<;>first
     |exact tq hQ
     |(refine Wp (wpAny_load ho ?_)
       rw[hc,hd]
       show wpAny M A (if(["enumerate","zip","dict_itemiterator","dict_reverseitemiterator","odict_iterator","itertools.zip_longest","itertools.pairwise"].contains n && vs[0]?==Gc (rawInt _))=true then _ else _) Q E s
       rw[uh (by intro h;rw[hn,Bool.false_and]at h;cases h)]
       exact tq hQ))
noncomputable def Itl(K:tU)(a:uC):It:=
 ⟨λi H=>∃xs x,SqL K H a xs/\xs[i]?=Gc x,λi H x H'=>H'=H/\∀xs,SqL K H a xs->xs[i]?=Gc x,λi H=>∃xs,SqL K H a xs/\xs.length<=i⟩
noncomputable def Itt(K:tU)(a:uC):It:=
 ⟨λi H=>∃xs x,SqT K H a xs/\xs[i]?=Gc x,λi H x H'=>H'=H/\∀xs,SqT K H a xs->xs[i]?=Gc x,λi H=>∃xs,SqT K H a xs/\xs.length<=i⟩
noncomputable def Itr(lo:Int)(n:Nat):It:=⟨λi _=>i<n,λi H x H'=>H'=H/\x=.int (lo+i),λi _=>n<=i⟩
theorem XA{P:uT}{w:ur}{K:tU}{tg:ui}(a it:uC):Turn P w K tg (Itl K a) [it] it (λi h=>h.IsListIter it a i) where
 mem:=by simp
 obj:=λi h st b hb=>by
  have e:b=it:=by simpa using hb
  subst e
  obtain⟨o,e,c,d⟩:=st
  exact⟨o,e,λv z=>by rw[d]at z;cases z⟩
 keep:=λi h h' st k=>st.at λo e=>k it (by simp) o e
 item:=by
  intro X hP hw hK hc i pins s σ H E I hf st hg
  subst hP hw hK
  obtain⟨xs,x,hq,hx⟩:=hg
  obtain⟨its,rv,p,hz⟩:=I.list hq
  obtain⟨u,hu,ru⟩:=rv.get hx
  obtain⟨f0,f1,f2,f3,f4,f5⟩:=hf it (by simp)
  refine ye st p.isList (x:=u) (by simpa using hu) λh' st' sb=>?_
  have I1:Inv X pins σ H {s with heap:=h'}:=I.turned (t':=s.toks) (λb o hb e=>(sb.2 b hb).trans e) f0 f1 f3 f4 f5
  obtain⟨o,e,c,d⟩:=id st'
  exact⟨u,rfl,gE (s:={s with heap:=h'}) e c d (by decide) ⟨x,H,I1,ru,⟨rfl,λys hy=>by rw[I.UX hy hq];exact hx⟩,st',λb hb=>(hf b hb).1⟩⟩
 done:=by
  intro X hP hw hK hc i pins s σ H E I hf st hg
  subst hP hw hK
  obtain⟨xs,hq,hx⟩:=hg
  obtain⟨its,rv,p,hz⟩:=I.list hq
  obtain⟨f0,f1,f2,f3,f4,f5⟩:=hf it (by simp)
  have hl:=rv.length
  exact yt (I.ok.hd hc) st p.isList (by simp;lia) λh' eb=>⟨rfl,I.turned (t':=s.toks) (λb o hb e=>eb b o hb e) f0 f1 f3 f4 f5⟩
 self:=λ_ _ _ _ _ st h=>AAp st h
theorem Vu{P:uT}{w:ur}{K:tU}{tg:ui}(a it:uC):Turn P w K tg (Itt K a) [it] it (λi h=>h.IsTupleIter it a i) where
 mem:=by simp
 obj:=λi h st b hb=>by
  have e:b=it:=by simpa using hb
  subst e
  obtain⟨o,e,c,d⟩:=st
  exact⟨o,e,λv z=>by rw[d]at z;cases z⟩
 keep:=λi h h' st k=>st.at λo e=>k it (by simp) o e
 item:=by
  intro X hP hw hK hc i pins s σ H E I hf st hg
  subst hP hw hK
  obtain⟨xs,x,hq,hx⟩:=hg
  obtain⟨its,rv,p,hz⟩:=I.tuple hq
  obtain⟨u,hu,ru⟩:=rv.get hx
  obtain⟨f0,f1,f2,f3,f4,f5⟩:=hf it (by simp)
  refine wpAny_pyNext_tuple_item st (show s.heap.IsTuple a its.toArray from p) (x:=u) (by simpa using hu) λh' st' sb=>?_
  have I1:Inv X pins σ H {s with heap:=h'}:=I.turned (t':=s.toks) (λb o hb e=>(sb.2 b hb).trans e) f0 f1 f3 f4 f5
  obtain⟨o,e,c,d⟩:=id st'
  exact⟨u,rfl,gE (s:={s with heap:=h'}) e c d (by decide) ⟨x,H,I1,ru,⟨rfl,λys hy=>by rw[I.SR hy hq];exact hx⟩,st',λb hb=>(hf b hb).1⟩⟩
 done:=by
  intro X hP hw hK hc i pins s σ H E I hf st hg
  subst hP hw hK
  obtain⟨xs,hq,hx⟩:=hg
  obtain⟨its,rv,p,hz⟩:=I.tuple hq
  obtain⟨f0,f1,f2,f3,f4,f5⟩:=hf it (by simp)
  have hl:=rv.length
  exact wpAny_pyNext_tuple_end (I.ok.hd hc) st (show s.heap.IsTuple a its.toArray from p) (by simp;lia) λh' eb=>⟨rfl,I.turned (t':=s.toks) (λb o hb e=>eb b o hb e) f0 f1 f3 f4 f5⟩
 self:=λ_ _ _ _ _ st h=>wpAny_pyIter_tupleiter st h
theorem Vi{P:uT}{w:ur}{K:tU}{tg:ui}(it:uC)(lo:Int)(n:Nat):Turn P w K tg (Itr lo n) [it] it (λi h=>IsRangeIter h it (lo+(i:Nat)*1) ((n:Int)-(i:Nat)) 1) where
 mem:=by simp
 obj:=λi h st b hb=>by
  have e:b=it:=by simpa using hb
  subst e
  exact⟨_,st,λv z=>by
   have z':Data.fields _=Data.cell v:=z
   cases z'⟩
 keep:=λi h h' st k=>k it (by simp) _ st
 item:=by
  intro X hP hw hK hc i pins s σ H E I hf st hg
  subst hP hw hK
  obtain⟨f0,f1,f2,f3,f4,f5⟩:=hf it (by simp)
  have W:=Walks.range (prog:=X.prog) (w:=X.w) (I.ok.hd hc) it lo 1 n
  refine W.item i s _ _ hg st λv h' tk hv st' kk=>?_
  obtain⟨t,rfl⟩:=hv
  have I1:Inv X pins σ H {s with heap:=h',toks:=tk}:=I.turned (λb o hb e=>kk b o (by simpa using hb) e) f0 f1 f3 f4 f5
  refine⟨_,rfl,gE (s:={s with heap:=h',toks:=tk}) (n:="range_iterator") st' rfl rfl (by decide) ⟨.int (lo+i),H,I1,⟨t,?_⟩,⟨rfl,rfl⟩,st',λb hb=>(hf b hb).1⟩⟩
  rw[Int.mul_one]
 done:=by
  intro X hP hw hK hc i pins s σ H E I hf st hg
  subst hP hw hK
  obtain⟨f0,f1,f2,f3,f4,f5⟩:=hf it (by simp)
  exact wpAny_pyNext_range_end (I.ok.hd hc) st (by have:n<=i:=hg;lia) λh' eb=>⟨rfl,I.turned (t':=s.toks) (λb o hb e=>eb b o hb e) f0 f1 f3 f4 f5⟩
 self:=λ_ _ _ _ _ st h=>wpAny_pyIter_rangeiter st h
end L2
namespace L2
open PySem PySem.Spec PyProof.Rows
section
variable{X:Cx}{tg:ui}
theorem av{pins:KE (uC×Obj)}{σ:St}{H:Hp}{s:tZ}{R:It->Hp->Prop}{E:tW->tZ->Prop}{lo hi:Int}{t u v:Tok}{tk:Nat}(I:Inv X pins σ H s)(h1: -(2^62)<=lo)(h2:lo<2^62)(h3: -(2^62)<=hi)(h4:hi<2^62)(q:R (Itr lo (hi-lo).toNat) H):wpAny (model X.prog X.w) X.A (pyIter (.ref s.heap.objs.size)) (PIE X pins σ tg R) E {s with heap:=s.heap.push {cls:=.type "range",data:=.fields #[.int lo t,.int hi u,.int 1 v]},toks:=tk}:=by
 refine wpAny_pyIter_range (IsRange.new ..) (small_one h1 h2 h3 h4) ?_
 have I1:Inv X pins σ H {s with heap:=s.heap.push {cls:=.type "range",data:=.fields #[.int lo t,.int hi u,.int 1 v]},toks:=tk}:=I.kept λb o e=>tV _ e
 refine⟨(s.heap.push {cls:=.type "range",data:=.fields #[.int lo t,.int hi u,.int 1 v]}).objs.size,[(s.heap.push {cls:=.type "range",data:=.fields #[.int lo t,.int hi u,.int 1 v]}).objs.size],_,_,H,rfl,
  I1.kept (t':=tk) λb o e=>tV _ e,Vi _ lo (hi-lo).toNat,?_,λb hb=>?_,q⟩
 .have e1:lo+((0:Nat):Int)*1=lo:=by simp
  have e2:(((hi-lo).toNat:Nat):Int)-((0:Nat):Int)=Builtin.Range.rangeSize lo hi 1:=by rw[rangeSize_one];split<;>lia
  show IsRangeIter _ _ (lo+((0:Nat):Int)*1) ((((hi-lo).toNat:Nat):Int)-((0:Nat):Int)) 1
  rw[e1,e2]
  exact uH _ rfl
 .have e:b=(s.heap.push {cls:=.type "range",data:=.fields #[.int lo t,.int hi u,.int 1 v]}).objs.size:=by simpa using hb
  subst e
  exact I1.fC (tw _) (I1.hok.fresh (tw _))
noncomputable def pG(ta:TA):TI:=λσ H R=>ta σ H λvs H1=>∃j:Int,vs=[.int j]/\ -(2^62)<=j/\j<2^62/\R (Itr 0 j.toNat) H1
theorem WH{a:ui}{ta:TA}{p pos:Pos}(hg:Gl X "range")(hm:X.mg "range"=none)(ha:PA X [a] ta)(hs:uW [a] X.env=[(false,eval a X.env)]:=by rfl):PI X tg (.Call (.Name "range" p) [a] [] pos) (pG ta):=by
 intro pins s σ H R I h
 refine Call_ (MN I hg hm boot_range (wZ (thn (ha pos pins s σ H _ I h) λus s1 ⟨vs,H1,I1,r1,q1⟩=>?_) hs rfl))
 obtain⟨j,e,q1,q2,q⟩:=q1
 subst e
 cases r1 with
 |cons r rr=>
  cases rr
  obtain⟨t,rfl⟩:=r
  exact call_range_1 (av I1 (by lia) (by lia) q1 q2 (by simpa using q))
noncomputable def se(wi:TI)(g:TG)(tb:TS):TS:=λD σ H=>wi σ H λJ H1=>∃W:Nat->Nat->St->Hp->Prop,(∃m,W 0 m σ H1)/\∀i m σ H,W i m σ H->
 (J.stop i H/\D.nx σ H)\/(J.go i H/\∃N:St->Hp->Prop,(∀σ' H',N σ' H'->∃m',m'<m/\W (i+1) m' σ' H')/\∀x H',J.yld i H x H'->g x σ H' λσ2 H2=>tb {D with nx:=N,ct:=N,bk:=D.nx} σ2 H2)
noncomputable def Rb(fp:KE uC)(h:uz):KE (uC×Obj):=fp.filterMap λb=>(h.get? b).map λo=>(b,o)
theorem Jw{fp:KE uC}{h:uz}{b:uC}{o:Obj}(hb:b∈fp)(e:h.get? b=Gc o):(b,o)∈Rb fp h:=ABU.mpr ⟨b,hb,by rw[e];rfl⟩
theorem Xu{fp:KE uC}{h:uz}{p:uC×Obj}(hp:p∈Rb fp h):p.1∈fp/\h.get? p.1=Gc p.2:=by
 obtain⟨b,hb,e⟩:=ABU.mp hp
 cases q:h.get? b with
 |none=>rw[q]at e;cases e
 |some o=>
  rw[q]at e
  have e':(b,o)=p:=vS e
  subst e'
  exact⟨hb,q⟩
theorem Inv.pinned{pins:KE (uC×Obj)}{σ:St}{H:Hp}{s:tZ}{fp:KE uC}(I:Inv X pins σ H s)(hf:∀b∈fp,Ss X pins H b)(ho:∀b∈fp,∃o,s.heap.get? b=Gc o/\∀v,o.data≠.cell v):Inv X (pins++Rb fp s.heap) σ H s:=
 I.YB λp hp=>(uU.mp hp).elim (λz=>I.pin p (uw _ z)) λz=>by
  obtain⟨hb,e⟩:=Xu z
  obtain⟨f0,f1,f2,_⟩:=hf p.1 hb
  obtain⟨o,e',d⟩:=ho p.1 hb
  rw[e]at e';cases e'
  exact⟨e,f0,f1,f2,d⟩
theorem Inv.M8{pins pl:KE (uC×Obj)}{σ:St}{H:Hp}{s:tZ}(I:Inv X (pins++pl) σ H s):Inv X pins σ H s:=I.YB λp hp=>I.pin p (uw _ (xJ _ hp))
theorem iK{iter:ui}{body:KE vE}{wi:TI}{g:TG}{tb:TS}{pos:Pos}(hp:PassesOwn (model X.prog X.w) X.A X.env X.xe)(hc:X.calm=true)(hi:PI X tg iter wi)(hg:PG X tg g)(hb:PSs X body tb)(hs:∀x,foldedSetIterable iter X.env x=pure x:=by intro _;rfl):PS X (.For tg iter body [] pos) (se wi g tb):=by
 intro pins s σ H D I h
 refine wpAny_For (thn (hi pins s σ H _ I h) λv s1 h1=>thn h1 λitv s2 h2=>?_) hs
 obtain⟨it,fp,tn,J,H2,e,I2,T,st2,f2,W,⟨m0,w0⟩,turn⟩:=h2
 subst e
 have stat:∀{H':Hp},(∀b∈fp,H' b=none)->∀b∈fp,Ss X pins H' b:=λhn b hb=>⟨hn b hb,(f2 b hb).2⟩
 refine codeAny_forLoop_any (λn s'=>∃i σ' H',Inv X pins σ' H' s'/\tn i s'.heap/\(∀b∈fp,H' b=none)/\W i n σ' H') ?_ m0 ⟨0,σ,H2,I2,st2,λb hb=>(f2 b hb).1,w0⟩
 rintro n s3 ⟨i,σ3,H3,I3,st3,fr3,w3⟩
 rcases turn i n σ3 H3 w3 with⟨stop,qn⟩|⟨go,N,hN,step⟩
 .refine xH hp (thn (T.done X rfl rfl rfl hc i pins s3 σ3 H3 X.xe I3 (stat fr3) st3 stop) λr s4 ⟨hr,I4⟩=>?_)
  subst hr
  exact zF ⟨σ3,H3,I4,qn⟩
 .refine xH hp (thn (T.item X rfl rfl rfl hc i pins s3 σ3 H3 X.xe I3 (stat fr3) st3 go) λr s4 ⟨u,hr,h4⟩=>?_)
  subst hr
  refine xH hp (thn h4 λ_ s5 ⟨x,H5,I5,r5,y5,st5,fr5⟩=>?_)
  have I5':=I5.pinned (stat fr5) (T.obj _ _ st5)
  refine xH hp (thn (hg _ s5 σ3 H5 x u _ I5' r5 (step x H5 y5)) λ_ s6 ⟨σ6,H6,I6,q6⟩=>?_)
  refine xH hp (thn (hb _ s6 σ6 H6 _ I6 q6) λf s7 q7=>?_)
  have again:∀{σ7:St} {H7:Hp},Inv X (pins++Rb fp s5.heap) σ7 H7 s7->N σ7 H7->∃m,m<n/\∃i σ' H',Inv X pins σ' H' s7/\tn i s7.heap/\(∀b∈fp,H' b=none)/\W i m σ' H':=λ{σ7 H7} I7 n7=>by
   obtain⟨m',hm,w7⟩:=hN σ7 H7 n7
   refine⟨m',hm,i+1,σ7,H7,I7.M8,T.keep _ _ _ st5 λb hb o e=>(I7.pin (b,o) (uw _ (uw _ (Jw hb e)))).1,λb hb=>?_,w7⟩
   obtain⟨o,e,d⟩:=T.obj _ _ st5 b hb
   exact(I7.pin (b,o) (uw _ (uw _ (Jw hb e)))).2.1
  cases f with
  |next=>obtain⟨σ7,H7,I7,n7⟩:=q7;exact again I7 n7
  |cont=>obtain⟨σ7,H7,I7,n7⟩:=q7;exact again I7 n7
  |brk=>obtain⟨σ7,H7,I7,q7⟩:=q7;exact⟨σ7,H7,I7.M8,q7⟩
  |ret v=>obtain⟨x7,σ7,H7,I7,r7,q7⟩:=q7;exact⟨x7,σ7,H7,I7.M8,r7,q7⟩
end
end L2
namespace L2
open PySem PySem.Spec PyProof.Rows
abbrev R2:=V->V->Hp->VK->Prop
def OpR(X:Cx)(f:tW->tW->Sem tW)(r:R2):Prop:=
 ∀(pins:KE (uC×Obj)) (s:tZ) (σ:St) (H:Hp) (x y:V) (v u:tW) (Q:VK),Inv X pins σ H s->RelV x v->RelV y u->r x y H Q->
  wpAny (model X.prog X.w) X.A (f v u) (EP X pins σ Q) X.xe s
def UnR(X:Cx)(f:tW->Sem tW)(r:V->Hp->VK->Prop):Prop:=
 ∀(pins:KE (uC×Obj)) (s:tZ) (σ:St) (H:Hp) (x:V) (v:tW) (Q:VK),Inv X pins σ H s->RelV x v->r x H Q->
  wpAny (model X.prog X.w) X.A (f v) (EP X pins σ Q) X.xe s
def Fi(X:Cx)(f:tW)(r:KE V->Hp->VK->Prop):Prop:=
 ∀(pins:KE (uC×Obj)) (s:tZ) (σ:St) (H:Hp) (xs:KE V) (us:KE tW) (Q:VK),Inv X pins σ H s->Vals xs us->r xs H Q->
  wpAny (model X.prog X.w) X.A (call f us) (EP X pins σ Q) X.xe s
noncomputable def tOp(r:R2)(ta tb:TE):TE:=λσ H Q=>ta σ H λx H1=>tb σ H1 λy H2=>r x y H2 Q
noncomputable def tUn(r:V->Hp->VK->Prop)(ta:TE):TE:=λσ H Q=>ta σ H λx H1=>r x H1 Q
noncomputable def rI(C:Int->Int->Prop)(g:Int->Int->V):R2:=λx y H Q=>∃i j,x=.int i/\y=.int j/\C i j/\Q (g i j) H
noncomputable def rI0(g:Int->Int->V):R2:=λx y H Q=>∃i j,x=.int i/\y=.int j/\Q (g i j) H
def rU(g:Int->V):V->Hp->VK->Prop:=λx H Q=>∃i,x=.int i/\Q (g i) H
section
variable{X:Cx}{a b c:ui}{ta tb tc:TE}{pos:Pos}
theorem oT(ha:PE X a ta)(hb:PE X b tb){pins:KE (uC×Obj)}{s:tZ}{σ:St}{H:Hp}{R:V->V->Hp->Prop}(I:Inv X pins σ H s)(h:ta σ H λx H1=>tb σ H1 λy H2=>R x y H2){Q:tW->tZ->Prop}{f:tW->tW->Sem tW}(hf:∀v u s2 x y H2,Inv X pins σ H2 s2->RelV x v->RelV y u->R x y H2->wpAny (model X.prog X.w) X.A (f v u) Q X.xe s2):wpAny (model X.prog X.w) X.A (eval a X.env) (λv s₁=>wpAny (model X.prog X.w) X.A (eval b X.env) (λu s₂=>wpAny (model X.prog X.w) X.A (f v u) Q X.xe s₂) X.xe s₁) X.xe s:=by
 refine thn (ha pins s σ H _ I h) λv s1 ⟨x,H1,I1,r1,q1⟩=>?_
 refine thn (hb pins s1 σ H1 _ I1 q1) λu s2 ⟨y,H2,I2,r2,q2⟩=>?_
 exact hf v u s2 x y H2 I2 r1 r2 q2
theorem mI{op:Operator}{r:R2}(ho:OpR X (binaryOp op) r)(ha:PE X a ta)(hb:PE X b tb):PE X (.BinOp a op b pos) (tOp r ta tb):=by
 intro pins s σ H Q I h
 exact wpAny_BinOp (oT ha hb I h λv u s2 x y H2 I2 rx ry q=>ho pins s2 σ H2 x y v u Q I2 rx ry q)
theorem nv{op:UnaryOp}{r:V->Hp->VK->Prop}(ho:UnR X (unaryOp op) r)(ha:PE X a ta):PE X (.UnaryOp op a pos) (tUn r ta):=by
 intro pins s σ H Q I h
 exact UnaryOp_ (thn (ha pins s σ H _ I h) λv s1 ⟨x,H1,I1,r1,q1⟩=>ho pins s1 σ H1 x v Q I1 r1 q1)
theorem opI{f:tW->tW->Sem tW}{C:Int->Int->Prop}{g:Int->Int->Int}(rule:∀(i j:Int) (t u:Tok) (s:tZ) (Q:tW->tZ->Prop) (E:tW->tZ->Prop),C i j->Q (.int (g i j) s.toks) {s with toks:=s.toks+1}->wpAny (model X.prog X.w) X.A (f (.int i t) (.int j u)) Q E s):OpR X f (rI C λi j=>.int (g i j)):=by
 intro pins s σ H x y v u Q I rx ry h
 obtain⟨i,j,rfl,rfl,hc,q⟩:=h
 obtain⟨t,rfl⟩:=rx
 obtain⟨t',rfl⟩:=ry
 exact rule i j t t' s _ _ hc ⟨.int (g i j),H,I.tok _,⟨_,rfl⟩,q⟩
theorem qL{f:tW->tW->Sem tW}{g:Int->Int->Int}(rule:∀(i j:Int) (t u:Tok) (s:tZ) (Q:tW->tZ->Prop) (E:tW->tZ->Prop),Q (.int (g i j) s.toks) {s with toks:=s.toks+1}->wpAny (model X.prog X.w) X.A (f (.int i t) (.int j u)) Q E s):OpR X f (rI0 λi j=>.int (g i j)):=by
 intro pins s σ H x y v u Q I rx ry h
 obtain⟨i,j,rfl,rfl,q⟩:=h
 obtain⟨t,rfl⟩:=rx
 obtain⟨t',rfl⟩:=ry
 exact rule i j t t' s _ _ ⟨.int (g i j),H,I.tok _,⟨_,rfl⟩,q⟩
theorem kz{f:tW->tW->Sem tW}{g:Int->Int->uv}(rule:∀(i j:Int) (t u:Tok) (s:tZ) (Q:tW->tZ->Prop) (E:tW->tZ->Prop),Q (.bool (g i j)) s->wpAny (model X.prog X.w) X.A (f (.int i t) (.int j u)) Q E s):OpR X f (rI0 λi j=>.bl (g i j)):=by
 intro pins s σ H x y v u Q I rx ry h
 obtain⟨i,j,rfl,rfl,q⟩:=h
 obtain⟨t,rfl⟩:=rx
 obtain⟨t',rfl⟩:=ry
 exact rule i j t t' s _ _ ⟨.bl (g i j),H,I,rfl,q⟩
def rC(i j:Int):Prop:=0<=j/\j<=1000000/\i.natAbs<2^64
def om(i j:Int):Prop:=(-(2^64)<i/\i<2^64)\/(-(2^64)<j/\j<2^64)
theorem om.ok{i j:Int}(h:om i j):IntMulOk i j:=by
 rcases h with⟨h1,h2⟩|⟨h1,h2⟩
 .exact .of_left (intBits_le_64 h1 h2)
 .exact .of_right (intBits_le_64 h1 h2)
theorem gz:OpR X (binaryOp .Add) (rI0 λi j=>.int (i+j)):=qL λ_ _ _ _ _ _ _ q=>add_int q
theorem ju:OpR X (binaryOp .Sub) (rI0 λi j=>.int (i-j)):=qL λ_ _ _ _ _ _ _ q=>sub_int q
theorem dD:OpR X (binaryOp .Mult) (rI om λi j=>.int (i*j)):=opI λ_ _ _ _ _ _ _ hc q=>mul_int q hc.ok
theorem j7:OpR X (binaryOp .Mod) (rI (λ_ j=>0<j) λi j=>.int (i % j)):=opI λi j _ _ _ _ _ hc q=>by
 have h1:(0:Int)<j:=hc
 exact mod_int' (by lia) (by rw[Int.fmod_eq_emod_of_nonneg i (by lia)];exact q)
theorem jg:OpR X (binaryOp .Pow) (rI rC λi j=>.int (i^j.toNat)):=opI λ_ _ _ _ _ _ _ hc q=>pow_int_small hc.1 hc.2.1 hc.2.2 q
theorem unI{f:tW->Sem tW}{g:Int->Int}(rule:∀(i:Int) (t:Tok) (s:tZ) (Q:tW->tZ->Prop) (E:tW->tZ->Prop),Q (.int (g i) s.toks) {s with toks:=s.toks+1}->wpAny (model X.prog X.w) X.A (f (.int i t)) Q E s):UnR X f (rU λi=>.int (g i)):=by
 intro pins s σ H x v Q I rx h
 obtain⟨i,rfl,q⟩:=h
 obtain⟨t,rfl⟩:=rx
 exact rule i t s _ _ ⟨.int (g i),H,I.tok _,⟨_,rfl⟩,q⟩
theorem jL:UnR X (unaryOp .USub) (rU λi=>.int (-i)):=unI λ_ _ _ _ _ q=>neg_int q
end
section
variable{X:Cx}{a b c:ui}{ta tb tc:TE}{pos:Pos}
theorem jM{pins:KE (uC×Obj)}{σ:St}{H:Hp}{s:tZ}{Q:VK}{k k':uv}(I:Inv X pins σ H s)(q:Q (.bl k) H)(e:k=k'):EP X pins σ Q (.bool k') s:=by
 subst e
 exact⟨.bl k,H,I,rfl,q⟩
theorem mO:OpR X (compareOp .Lt) (rI0 λi j=>.bl (decide (i<j))):=kz λ_ _ _ _ _ _ _ q=>lt_int q
theorem mM:OpR X (compareOp .LtE) (rI0 λi j=>.bl (decide (i<=j))):=kz λ_ _ _ _ _ _ _ q=>le_int q
theorem nW:OpR X (compareOp .Gt) (rI0 λi j=>.bl (decide (j<i))):=kz λ_ _ _ _ _ _ _ q=>gt_int q
theorem pD:OpR X (compareOp .GtE) (rI0 λi j=>.bl (decide (j<=i))):=kz λ_ _ _ _ _ _ _ q=>ge_int q
theorem fg:OpR X (compareOp .IsNot) (λx y H Q=>y=.non/\Q (.bl (!decide (x=.non))) H):=by
 intro pins s σ H x y v u Q I rx ry h
 obtain⟨rfl,q⟩:=h
 cases ry
 refine isnot_none_gen (jM I q ?_)
 cases x<;>first
  |(cases rx;rfl)
  |(obtain⟨t,rfl⟩:=rx;rfl)
theorem fF{op:CmpOp}{r:R2}(ho:OpR X (compareOp op) r)(ha:PE X a ta)(hb:PE X b tb)(hm:behindInMarks op b=false):PE X (.Compare a [op] [b] pos) (tOp r ta tb):=by
 intro pins s σ H Q I h
 exact wpAny_Compare1 (oT ha hb I h λv u s2 x y H2 I2 rx ry q=>ho pins s2 σ H2 x y v u Q I2 rx ry q) hm
noncomputable def iW(t:TE):TT:=λσ H Q=>t σ H λx H'=>∃k,x=.bl k/\Q k H'
theorem eM{op:CmpOp}{r:R2}(ho:OpR X (compareOp op) r)(ha:PE X a ta)(hb:PE X b tb)(hm:behindInMarks op b=false):PT X (.Compare a [op] [b] pos) (iW (tOp r ta tb)):=by
 intro pins s σ H Q I h
 refine wpAny_isTrue_Compare1 (thn (ha pins s σ H _ I h) λv s1 ⟨x,H1,I1,r1,q1⟩=>thn (hb pins s1 σ H1 _ I1 q1) λu s2 ⟨y,H2,I2,r2,q2⟩=>
  thn (ho pins s2 σ H2 x y v u _ I2 r1 r2 q2) λc s3 ⟨z,H3,I3,r3,k,e,q3⟩=>?_) hm
 subst e
 cases r3
 exact yc ⟨H3,I3,q3⟩
theorem RN:(sizeLine:Nat)<2^63:=by rw[sizeLine_eq];decide
theorem VR:OpR X (binaryOp .Add) (λx y H Q=>∃i j,x=.str i/\y=.str j/\i.length+j.length<=sizeLine/\Q (.str (i++j)) H):=by
 intro pins s σ H x y v u Q I rx ry h
 obtain⟨i,j,rfl,rfl,hz,q⟩:=h
 obtain⟨t,rfl⟩:=rx
 obtain⟨t',rfl⟩:=ry
 exact add_str (λt' tk=>⟨.str (i++j),H,I.tok _,⟨_,rfl⟩,q⟩) hz
theorem vals1{x:V}{us:KE tW}(r:Vals [x] us):∃u,us=[u]/\RelV x u:=by
 cases r with
 |cons r1 r2=>cases r2;exact⟨_,rfl,r1⟩
theorem vals2{x y:V}{us:KE tW}(r:Vals [x,y] us):∃u w',us=[u,w']/\RelV x u/\RelV y w':=by
 cases r with
 |cons r1 r2=>
  cases r2 with
  |cons r3 r4=>cases r4;exact⟨_,_,rfl,r1,r3⟩
theorem Zo:Fi X (.builtin "abs") (λxs H Q=>∃i,xs=[.int i]/\Q (.int (if i<0 then-i else i)) H):=by
 intro pins s σ H xs us Q I r h
 obtain⟨i,rfl,q⟩:=h
 obtain⟨u,rfl,t,rfl⟩:=vals1 r
 exact call_abs_int λu tk=>⟨.int (if i<0 then-i else i),H,I.tok _,⟨_,rfl⟩,q⟩
theorem W8(hc:X.calm=true):Fi X (.builtin "max") (λxs H Q=>∃i j,xs=[.int i,.int j]/\Q (.int (if j>i then j else i)) H):=by
 intro pins s σ H xs us Q I r h
 obtain⟨i,j,rfl,q⟩:=h
 obtain⟨u,w',rfl,⟨t,rfl⟩,⟨t',rfl⟩⟩:=vals2 r
 refine max_two_ints (I.ok.hd hc) λh' tk k=>⟨_,H,I.kept k,?_,q⟩
 by_cases hj:j>i
 .rw[uZ hj,uZ hj];exact⟨_,rfl⟩
 .rw[uh hj,uh hj];exact⟨_,rfl⟩
theorem Ww(hc:X.calm=true):Fi X (.builtin "min") (λxs H Q=>∃i j,xs=[.int i,.int j]/\Q (.int (if j<i then j else i)) H):=by
 intro pins s σ H xs us Q I r h
 obtain⟨i,j,rfl,q⟩:=h
 obtain⟨u,w',rfl,⟨t,rfl⟩,⟨t',rfl⟩⟩:=vals2 r
 refine min_two_ints (I.ok.hd hc) λh' tk k=>⟨_,H,I.kept k,?_,q⟩
 by_cases hj:j<i
 .rw[uZ hj,uZ hj];exact⟨_,rfl⟩
 .rw[uh hj,uh hj];exact⟨_,rfl⟩
theorem SI:Fi X (.type "int") (λxs H Q=>(∃i,xs=[.int i]/\Q (.int i) H)\/∃k,xs=[.bl k]/\Q (.int (if k then 1 else 0)) H):=by
 intro pins s σ H xs us Q I r h
 rcases h with⟨i,rfl,q⟩|⟨k,rfl,q⟩
 .obtain⟨u,rfl,t,rfl⟩:=vals1 r
  exact call_int_int ⟨.int i,H,I,⟨_,rfl⟩,q⟩
 .obtain⟨u,rfl,r1⟩:=vals1 r
  cases r1
  exact call_int_bool ⟨.int (if k then 1 else 0),H,I.tok _,⟨_,rfl⟩,q⟩
end
end L2
namespace L2
open PySem PySem.Spec PyProof.Rows
structure mq(h:uz)(x dx C:uC)(mA:Str->tY tW):Prop where
 obj:h.get? x=Gc (AAi C dx)
 ns:h.Ns1 dx mA
 ne:dx≠x
theorem WT{h:uz}{dx:uC}{mA:Str->tY tW}(n:h.Ns1 dx mA):∃od,h.get? dx=Gc od/\∀name,AAv name od=Gc (mA name):=by
 obtain⟨o,es,ep,ho,hd,hk,_,hm⟩:=n
 refine⟨o,ho,λname=>?_⟩
 have e:=hm name
 unfold nsFind findBy at e
 rw[<-Array.find?_toList]at e
 unfold AAv
 rw[hd]
 dsimp only
 split
 .rename_i y q
  rw[q]at e
  exact congrArg Gc e
 .rename_i q
  rw[q]at e
  have a:es.toList.any (·.refKey)=false:=by
   rw[List.any_eq_false]
   intro y hy
   obtain⟨z,t,hkey⟩:=hk y (Array.mem_toList_iff.mp hy)
   simp[DictEntry.refKey,hkey]
  have a':¬es.toList.any (·.refKey)=true:=by rw[a];exact vC
  rw[uh a']
  exact congrArg Gc e
theorem mq.look{h:uz}{x dx C:uC}{mA:Str->tY tW}(I:mq h x dx C mA):∃od,PySem.W.InstAt h x (AAi C dx) C (Gc od)/\∀name,AAv name od=Gc (mA name):=
 let⟨od,ho,hl⟩:=WT I.ns
 ⟨od,⟨I.obj,rfl,rfl,ho⟩,hl⟩
section
variable{prog:uT}{w:ur}{A:u5}{E:tW->tZ->Prop}{s:tZ}{K:tU}{x dx C f:uC}{mA:Str->tY tW}{name:Str}{v:tW}
end
theorem VG.some_of{v:V}{o:tY tW}(r:VG (Gc v) o):∃u,o=Gc u/\RelV v u:=by
 cases o with
 |none=>exact(show xy from r).elim
 |some u=>exact⟨u,rfl,r⟩
section
variable{P:uT}{w:ur}{H H':Hp}{h h':uz}{a C dx:uC}{fs fs':KE (Str×V)}
theorem eA(hok:HOk P w H h)(e:H a=Gc (.ins C dx fs)):∃mA,mq h a dx C mA/\(∀f,VG (fs.lookup f) (mA f))/\PySem.Within mA (fs.map (·.1))/\fs.length<=1000/\H dx=Gc (.own a):=by
 obtain⟨d,z,ne,ob,mA,n,r,q⟩:=(show Fb P w H h a (.ins C dx fs)from hok a _ e)
 exact⟨mA,⟨ob,n,ne⟩,r,q,z,d⟩
end
structure Cls(K:tU)(C:uC):Prop where
 pg:PySem.W.plainGet K C Str.empty=true
 hd:PySem.W.hasDictIn K C=true
 po:PySem.W.plainOver K C=true
 sa:yf K (.ref C) "__setattr__"=Gc (Gc (.builtin "object.__setattr__"))
theorem Cls.get{K:tU}{C:uC}(c:Cls K C)(f:Str):PySem.W.plainGet K C f=true:=c.pg
structure Con(K:tU)(C:uC)(f:Str)(v:V)(u:tW):Prop where
 at_:yf K (.ref C) f=Gc (Gc u)
 rel:RelV v u
 get:PySem.W.specialIn K u "__get__"=Gc none
 cp:PySem.W.copiedNames.contains f=false
structure Meth(K:tU)(C:uC)(m:Str)(f:uC):Prop where
 at_:yf K (.ref C) m=Gc (Gc (.ref f))
 fn:PySem.W.isFn K (.ref f)=true
 kp:wt K (.ref f)=true
section
variable{X:Cx}{pins:KE (uC×Obj)}{σ:St}{H:Hp}{s:tZ}{a C dx:uC}{fs:KE (Str×V)}{f:Str}{v:V}{A:u5}{E:tW->tZ->Prop}
end
section
variable{X:Cx}{o e value:ui}{f:Str}{pos pos' tpos:Pos}{ta tv:TE}
end
section
variable{X:Cx}{pins:KE (uC×Obj)}{σ:St}{H:Hp}{s:tZ}{A:u5}{E:tW->tZ->Prop}{Q:tW->tZ->Prop}{c:tW}{b:uv}
inductive V6(K:tU)(H:Hp):V->tW->Prop where
 |non:V6 K H .non (.type "NoneType")
 |bl (x:uv):V6 K H (.bl x) (.type "bool")
 |int (i:Int):V6 K H (.int i) (.type "int")
 |str (x:Str):V6 K H (.str x) (.type "str")
 |flt (x:UInt64):V6 K H (.flt x) (.type "float")
 |lst {a:uC} {xs:KE V} (e:H a=Gc (.lst xs)):V6 K H (.ref a) (.type "list")
 |frz {a:uC} {o:Obj} {xs:KE V} (e:H a=Gc (.frz o (.lst xs))):V6 K H (.ref a) (.type "list")
 |tup {a:uC} {xs:KE V} (e:H a=Gc (.tup xs)):V6 K H (.ref a) (.type "tuple")
 |dK {a:uC} {kvs:KE (Key×V)} (e:H a=Gc (.dK kvs)):V6 K H (.ref a) (.type "dict")
 |dT {a:uC} {kvs:KE (KE Key×V)} (e:H a=Gc (.dT kvs)):V6 K H (.ref a) (.type "dict")
 |ins {a C dx:uC} {fs:KE (Str×V)} (e:H a=Gc (.ins C dx fs)) (cl:Cls K C) (ha:yf K (.ref C) "__class__"=Gc (Gc (.builtin "object.__class__")))
   (hn:PySem.W.specialIn K (.builtin "object.__class__") "__get__"=Gc (Gc (.builtin "getset_descriptor.__get__"))) (htk:PySem.W.takesIn K (.builtin "object.__class__")=Gc true)
   (hm:PySem.W.mroIn K C (.type "object")=Gc true):V6 K H (.ref a) (.ref C)
theorem Gi{x:V}{u t:tW}(I:Inv X pins σ H s)(rx:RelV x u)(ty:V6 X.K H x t)(e:wu X.K t c=Gc b)(h:∀tk,Q (.bool b) {s with toks:=tk}):wpAny (model X.prog X.w) A (call (.builtin "isinstance") [u,c]) Q E s:=by
 cases ty with
 |non=>cases (show u=wQ from rx);exact vb PySem.W.kitx_none I.kIn xQ e (λz=>nomatch z) h
 |bl y=>cases (show u=Value.bool y from rx);exact vb PySem.W.kitx_bool I.kIn xQ e (λz=>nomatch z) h
 |int i=>obtain⟨t,q⟩:=(show∃t,u=AAF i t from rx);cases q;exact vb PySem.W.kitx_int I.kIn xQ e (λz=>nomatch z) h
 |str y=>obtain⟨t,q⟩:=(show∃t,u=Value.str y t from rx);cases q;exact vb PySem.W.kitx_str I.kIn xQ e (λz=>nomatch z) h
 |flt y=>obtain⟨t,q⟩:=(show∃t,u=Value.float y t from rx);cases q;exact vb PySem.W.kitx_float I.kIn xQ e (λz=>nomatch z) h
 | @lst a xs ea=>
   cases (show u=vN a from rx)
   obtain⟨_,_,n,_,h1⟩:=(show Fb X.prog X.w H s.heap a (.lst xs)from I.hok a _ ea)
   exact vb PySem.W.kitx_list I.kIn ⟨_,h1,rfl⟩ e (λz=>nomatch z) h
 | @frz a ob xs ea=>
   cases (show u=vN a from rx)
   obtain⟨_,_,_,n,_,h1⟩:=(show Fb X.prog X.w H s.heap a (.frz ob (.lst xs))from I.hok a _ ea)
   exact vb PySem.W.kitx_list I.kIn ⟨_,h1,rfl⟩ e (λz=>nomatch z) h
 | @tup a xs ea=>
   cases (show u=vN a from rx)
   obtain⟨_,_,_,p⟩:=(show Fb X.prog X.w H s.heap a (.tup xs)from I.hok a _ ea)
   obtain⟨o,h1,h2,_⟩:=p
   exact vb ABV I.kIn ⟨o,h1,h2⟩ e (λz=>nomatch z) h
 | @dK a kvs ea=>
   cases (show u=vN a from rx)
   obtain⟨_,_,vs,_,p⟩:=(show Fb X.prog X.w H s.heap a (.dK kvs)from I.hok a _ ea)
   obtain⟨o,es,ep,h1,h2,_⟩:=p
   exact vb PySem.W.kitx_dict I.kIn ⟨o,h1,h2.1⟩ e (λz=>nomatch z) h
 | @dT a kvs ea=>
   cases (show u=vN a from rx)
   obtain⟨_,_,xs,_,o,es,ep,h1,h2,_⟩:=(show Fb X.prog X.w H s.heap a (.dT kvs)from I.hok a _ ea)
   exact vb PySem.W.kitx_dict I.kIn ⟨o,h1,h2.1⟩ e (λz=>nomatch z) h
 | @ins a C dx fs ea cl ha hn htk hm=>
   cases (show u=vN a from rx)
   obtain⟨mA,O,_⟩:=eA I.hok ea
   obtain⟨od,J,_⟩:=O.look
   exact vb (PySem.W.kitx_own (cl.get _) cl.hd ha hn htk hm) I.kIn J e (λz=>nomatch z) h
end
end L2
namespace L2
open PySem PySem.Spec PyProof.Rows
structure Ol(k:Nat)(A:u5):Prop where
 hd:A.handled=none
 dp:A.depth+3*k+5<recursionLimit
 un:A.units+16*k+200<cLine
theorem Ol.mono{j k:Nat}{A:u5}(r:Ol k A)(h:j<=k):Ol j A:=⟨r.hd,by have:=r.dp;lia,by have:=r.un;lia⟩
theorem Ol.deeper{k:Nat}{A:u5}(r:Ol (k+1) A)(env:Env):Ol k (A.deeper env):=
 ⟨r.hd,by have:=r.dp;show A.depth+1+3*k+5<_;lia,by have:=r.un;show A.units+3+16*k+200<_;lia⟩
theorem Ol.depth{k:Nat}{A:u5}(r:Ol k A):A.depth<recursionLimit:=by have:=r.dp;lia
noncomputable def qB:TA:=λ_ H Q=>Q [] H
noncomputable def gr(ta:TE)(tr:TA):TA:=λσ H Q=>ta σ H λx H1=>tr σ H1 λxs H2=>Q (x::xs) H2
section
variable{X:Cx}{e:ui}{es:KE ui}{te:TE}{t:TA}{pos:Pos}
theorem Yc:PA X [] qB:=λ_ _ _ _ H Q I h=>zO ⟨[],H,I,.nil,h⟩
theorem Qb(ha:PE X e te)(hr:PA X es t)(hs:uW (e::es) X.env=(false,eval e X.env)::uW es X.env:=by rfl):PA X (e::es) (gr te t):=by
 intro pos pins s σ H Q I h
 rw[hs]
 show wpAny _ _ (spliced ((false,eval e X.env)::backTo pos (uW es X.env))) _ _ s
 refine yF (thn (ha pins s σ H _ I h) λu s1 ⟨x,H1,I1,r1,q1⟩=>?_)
 exact thn (hr pos pins s1 σ H1 _ I1 q1) λus s2 ⟨xs,H2,I2,r2,q2⟩=>⟨x::xs,H2,I2,.cons r1 r2,q2⟩
noncomputable def r9(t:TA):TE:=λσ H Q=>t σ H λxs H1=>xs.length<=sizeLine/\∀p,H1 p=none->Q (.ref p) (upd H1 p (.tup xs))
noncomputable def rZ(t:TA):TE:=λσ H Q=>t σ H λxs H1=>xs.length<=sizeLine/\∀p,H1 p=none->Q (.ref p) (upd H1 p (.lst xs))
theorem jQ{x1}(h:PA X es t):PE X (.Tuple es x1 pos) (r9 t):=by
 intro pins s σ H Q I hq
 refine wpAny_Tuple_spliced (thn (h pos pins s σ H _ I hq) λus s1 ⟨xs,H1,I1,r,z,q⟩=>⟨by rw[<-r.length];exact z,?_⟩)
 have hf:H1 s1.heap.objs.size=none:=I1.hok.fresh (tw _)
 refine⟨.ref s1.heap.objs.size,upd H1 s1.heap.objs.size (.tup xs),I1.laid (t':=s1.toks) (λb u e=>tV _ e) (tw _) ?_,rfl,q _ hf⟩
 exact⟨z,us,r,⟨_,uH _ rfl,rfl,_,rfl⟩⟩
theorem iz(h:PA X es t):PE X (.List es pos) (rZ t):=by
 intro pins s σ H Q I hq
 refine wpAny_List_spliced (thn (h pos pins s σ H _ I hq) λus s1 ⟨xs,H1,I1,r,z,q⟩=>⟨by rw[<-r.length];exact z,?_⟩)
 have hf:H1 s1.heap.objs.size=none:=I1.hok.fresh (tw _)
 refine⟨.ref s1.heap.objs.size,upd H1 s1.heap.objs.size (.lst xs),I1.laid (t':=s1.toks) (λb u e=>tV _ e) (tw _) ?_,rfl,q _ hf⟩
 exact⟨z,us,0,r,uH _ rfl⟩
end
abbrev Sp:=KE V->Hp->VK->XK->Prop
abbrev CXT:=KE Env->Hp->tZ->XK->tW->tZ->Prop
structure kS(P:uT)(w:ur)(K:tU)(mg:Str->tY tW)(base:uz)(A:u5)(outer:KE Env)(s:tZ)(H:Hp):Prop where
 frames:A.frames=Gc outer
 mod:Mod K mg base
 bs:∀b o,base.get? b=Gc o->s.heap.get? b=Gc o/\H b=none
 bsz:base.objs.size<=s.heap.objs.size
 Wy:s.heap.FunFrames base outer
 frf:∀b∈frs outer,H b=none
 hok:HOk P w H s.heap
 bare:zq s.gens
def CE(outer:KE Env)(P:uT)(w:ur)(H:Hp)(s:tZ)(Q:VK)(u:tW)(s':tZ):Prop:=
 ∃v H',s'.os=s.os/\zq s'.gens/\Un (frs outer) [] H H' s.heap s'.heap/\HOk P w H' s'.heap/\RelV v u/\Q v H'
def CR(CX:CXT)(outer:KE Env)(P:uT)(w:ur)(H:Hp)(s:tZ)(Q:VK)(E:XK)(r:Result)(s':tZ):Prop:=
 match r with
 | .ok (.ret u)=>CE outer P w H s Q u s'
 | .ok _=>xy
 | .error e=>CX outer H s E e s'
structure Rm(P:uT)(w:ur)(K:tU)(mg:Str->tY tW)(base:uz)(CX:CXT)(k:Nat)(f:uC)(fd:wX)(ps:KE Str)(sp:Sp):Prop where
 len:∀vs H Q E,sp vs H Q E->vs.length=ps.length
 run:∀(A:u5) (outer:KE Env) (s:tZ) (H:Hp) (args:Args) (us:KE tW) (vs:KE V) (Q:VK) (E:XK),Ol k A->kS P w K mg base A outer s H->BindsTo s fd args (ps.zip us)->Vals vs us->sp vs H Q E->
  codeAny (model P w) A (.call (.ref f) args) (CR CX outer P w H s Q E) s
theorem Rm.imp{P:uT}{w:ur}{K:tU}{mg:Str->tY tW}{base:uz}{CX:CXT}{k:Nat}{f:uC}{fd:wX}{ps:KE Str}{sp sp':Sp}(F:Rm P w K mg base CX k f fd ps sp)(h:∀vs H Q E,sp' vs H Q E->sp vs H Q E):Rm P w K mg base CX k f fd ps sp':=
 ⟨λvs H Q E q=>F.len vs H Q E (h _ _ _ _ q),λA outer s H args us vs Q E hr he hb hv hs=>F.run A outer s H args us vs Q E hr he hb hv (h _ _ _ _ hs)⟩
section
variable{X:Cx}{pins:KE (uC×Obj)}{σ:St}{H:Hp}{s s':tZ}
theorem Inv.rE(I:Inv X pins σ H s):kS X.prog X.w X.K X.mg X.base X.A X.stack s H:=
 ⟨I.ok.frames,I.ok.mod,I.bs,uA I.ok.bsz I.sz,I.stack,I.Wz,I.hok,I.bare⟩
theorem Inv.after{Q:VK}{u:tW}(I:Inv X pins σ H s)(h:CE X.stack X.prog X.w H s Q u s'):EP X pins σ Q u s':=by
 obtain⟨v,H',os,bare,un,hok,r,q⟩:=h
 obtain⟨hh,g,d,t,os'⟩:=s'
 obtain rfl:os'=s.os:=os
 exact⟨v,H',I.call (h':=hh) (g':=g) (d':=d) (t':=t) (ch:=[]) un hok bare (λb z=>absurd z (by simp)),r,q⟩
end
noncomputable def gF(sp:Sp)(dvs:KE V)(E:XK)(t:TA):TE:=λσ H Q=>t σ H λvs H1=>sp (vs++dvs) H1 Q E
def Binds(K:tU)(fd:wX)(ps:KE Str)(ds:KE tW):Prop:=
 ∀(s:tZ) (us:KE tW),K.In s.heap->(us++ds).length=ps.length->BindsTo s fd ⟨us,[]⟩ (ps.zip (us++ds))
theorem Binds.all{K:tU}{fd:wX}{ps:KE Str}(h:∀us:KE tW,us.length=ps.length->bindArgs fd ⟨us,[]⟩=pure (ps.zip us)):Binds K fd ps []:=λs us _ hl=>by
 rw[zG]at hl⊢
 exact .of_eq (h us hl)
def Passes(CX:CXT)(X:Cx)(E:XK):Prop:=∀(pins:KE (uC×Obj)) (σ:St) (H:Hp) (s:tZ) (e:tW) (s':tZ),Inv X pins σ H s->CX X.stack H s E e s'->X.xe e s'
section
variable{X:Cx}{CX:CXT}{k:Nat}{f C:uC}{fd:wX}{ps:KE Str}{sp:Sp}{dvs:KE V}{ds:KE tW}{E:XK}{x m:Str}{p pos apos:Pos}{e o:ui}{es:KE ui}{ta:TE}{t:TA}
theorem kA{pins:KE (uC×Obj)}{σ:St}{H:Hp}{s:tZ}{Q:VK}{us:KE tW}{vs:KE V}(F:Rm X.prog X.w X.K X.mg X.base CX k f fd ps sp)(hr:Ol k X.A)(hb:Binds X.K fd ps ds)(hd:Vals dvs ds)(hx:Passes CX X E)(I:Inv X pins σ H s)(r:Vals vs us)(h:sp (vs++dvs) H Q E):wpAny (model X.prog X.w) X.A (call (.ref f) us) (EP X pins σ Q) X.xe s:=by
 have r2:Vals (vs++dvs) (us++ds):=r.append hd
 have hl:(us++ds).length=ps.length:=by rw[<-r2.length];exact F.len _ _ _ _ h
 refine wpAny_call (yg (F.run X.A X.stack s H ⟨us,[]⟩ (us++ds) (vs++dvs) Q E hr I.rE (hb s us I.kIn hl) r2 h) λr s' hq=>?_)
 cases r with
 |error e=>exact hx pins σ H s e s' I hq
 |ok fl=>
  cases fl with
  |ret u=>exact I.after hq
  |next=>exact xc hq
  |brk=>exact xc hq
  |cont=>exact xc hq
theorem fN(F:Rm X.prog X.w X.K X.mg X.base CX k f fd ps sp)(hr:Ol k X.A)(hg:Gl X x)(hm:X.mg x=Gc (.ref f))(hk:wt X.K (.ref f)=true)(hb:Binds X.K fd ps ds)(hd:Vals dvs ds)(hx:Passes CX X E)(ha:PA X (e::es) t)(hdb:(x==("__debug__":Str))=false:=by decide)(he:uW (e::es) X.env=(false,eval e X.env)::uW es X.env:=by rfl)(hpl:(backTo pos (uW es X.env)).any (·.1)=false:=by rfl):PE X (.Call (.Name x p) (e::es) [] pos) (gF sp dvs E t):=by
 intro pins s σ H Q I h
 refine xf (YV I hg hm ?_ hdb)
 refine PySem.W.callWith_K (h₀:=X.base) I.ok.mod.kin hk (thn (ha pos pins s σ H _ I h) λus s1 ⟨vs,H1,I1,r,q⟩=>⟨I1.kIn,?_⟩) he hpl
 exact kA F hr hb hd hx I1 r q
structure Mk(K:tU)(C f:uC):Prop where
 makes:PySem.W.makesIn K C=true
 init:yf K (.ref C) "__init__"=Gc (Gc (.ref f))
 fn:PySem.W.isFn K (.ref f)=true
 kp:wt K (.ref C)=true
end
section
variable{X:Cx}{CX:CXT}{k:Nat}{f C:uC}{fd:wX}{ps ks:KE Str}{sp:Sp}{E:XK}{x m:Str}{p pos apos kpos:Pos}{e o:ui}{es:KE ui}{kws:KE zt}{te ta:TE}{t tk:TA}{nm:tY Str}
structure qH(K:tU)(fd:wX)(ps ks:KE Str)(g:KE tW->KE tW->KE tW)(gV:KE V->KE V->KE V):Prop where
 to:∀(s:tZ) (us ws:KE tW),K.In s.heap->(g us ws).length=ps.length->BindsTo s fd ⟨us,ks.zip ws⟩ (ps.zip (g us ws))
 rel:∀{vs:KE V} {us:KE tW} {zs:KE V} {ws:KE tW},Vals vs us->Vals zs ws->Vals (gV vs zs) (g us ws)
variable{g:KE tW->KE tW->KE tW}{gV:KE V->KE V->KE V}
end
structure AS(N P:KE Str)(sc:xC):Prop where
 kind:sc.kind=.function
 co:sc.isCoroutine=false
 gen:sc.isGenerator=false
 nd:N.Nodup
 pre:N.take P.length=P
 par:∀x∈P,sc.names.lookup x=Gc .local\/sc.names.lookup x=Gc .cell
 ic:∀y∈sc.names,y.2≠.free
theorem RI{kindOf:Str->tY xp}{x:Str}:∀{binds:KE (Str×tW)} {m:Str->tY tW},(∀v,(x,v)∉binds)->bindL kindOf binds m x=m x
 | [],_,_=>rfl
 |(n,v)::r,m,h=>by
  unfold bindL
  rw[RI λw hw=>h w (tf _ hw)]
  split
  .have:x≠n:=by rintro rfl;exact h v uD
   simp[this]
  .rfl
theorem RX{kindOf:Str->tY xp}{x:Str}:∀{binds:KE (Str×tW)} {m:Str->tY tW},(∀v,(x,v)∉binds)->bindC kindOf binds m x=m x
 | [],_,_=>rfl
 |(n,v)::r,m,h=>by
  unfold bindC
  rw[RX λw hw=>h w (tf _ hw)]
  split
  .rfl
  .have:x≠n:=by rintro rfl;exact h v uD
   simp[this]
theorem SJ{kindOf:Str->tY xp}{x:Str}{v:tW}:∀{P:KE Str} {vs:KE tW} {i:Nat} {m:Str->tY tW},P.Nodup->P[i]?=Gc x->vs[i]?=Gc v->kindOf x=Gc .local->bindL kindOf (P.zip vs) m x=Gc v
 | [],_,_,_,_,h,_,_=>by simp at h
 |_::_,[],_,_,_,_,h,_=>by simp at h
 |p::P,w::vs,0,m,nd,h1,h2,hk=>by
  simp at h1 h2;subst h1;subst h2
  show bindL kindOf ((p,w)::P.zip vs) m p=_
  unfold bindL
  rw[RI λv hv=>(wU.mp nd).1 (xq hv).1,uZ hk]
  simp
 |p::P,w::vs,i+1,m,nd,h1,h2,hk=>by
  show bindL kindOf ((p,w)::P.zip vs) m x=_
  unfold bindL
  exact SJ (i:=i) (wU.mp nd).2 (by simpa using h1) (by simpa using h2) hk
theorem RM{kindOf:Str->tY xp}{x:Str}{v:tW}:∀{P:KE Str} {vs:KE tW} {i:Nat} {m:Str->tY tW},P.Nodup->P[i]?=Gc x->vs[i]?=Gc v->kindOf x≠Gc .local->bindC kindOf (P.zip vs) m x=Gc v
 | [],_,_,_,_,h,_,_=>by simp at h
 |_::_,[],_,_,_,_,h,_=>by simp at h
 |p::P,w::vs,0,m,nd,h1,h2,hk=>by
  simp at h1 h2;subst h1;subst h2
  show bindC kindOf ((p,w)::P.zip vs) m p=_
  unfold bindC
  rw[RX λv hv=>(wU.mp nd).1 (xq hv).1,uh hk]
  simp
 |p::P,w::vs,i+1,m,nd,h1,h2,hk=>by
  show bindC kindOf ((p,w)::P.zip vs) m x=_
  unfold bindC
  exact RM (i:=i) (wU.mp nd).2 (by simpa using h1) (by simpa using h2) hk
noncomputable def start(N:KE Str)(vs:KE V):St:=vs.map Gc++uQ (N.length-vs.length) none
noncomputable def ZD(CX:CXT)(P:uT)(w:ur)(K:tU)(mg:Str->tY tW)(base:uz)(N:KE Str)(qual:Str)(scope:xC)(f:uC)(cd:tW)(A:u5)(outer:KE Env)(s:tZ)(H:Hp)(E:XK):Cx where
 prog:=P
 w:=w
 K:=K
 mg:=mg
 base:=base
 A:=A.deeper (envOfC qual scope s.heap.objs.size f cd)
 N:=N
 s₀:=s
 H₀:=H
 env:=envOfC qual scope s.heap.objs.size f cd
 outer:=outer
 stack:=envOfC qual scope s.heap.objs.size f cd::outer
 ex:=[]
 calm:=true
 fn:=λ_=>true
 pn:=[]
 xe:=λe s'=>wpAny (model P w) (A.deeper (envOfC qual scope s.heap.objs.size f cd)) (leaving (envOfC qual scope s.heap.objs.size f cd) e) (λ_ s''=>CX outer H s E e s'') (λe' s''=>CX outer H s E e' s'') s'
theorem NK{sc:xC}{n:Nat}{x:Str}(h:sc.names.lookup x=Gc .cell):∃c,(cellsFrom n sc.names []).lookup x=Gc c:=by
 have q:=AAP sc.names n [] (.inl h)
 exact Option.isSome_iff_exists.mp q
theorem WL{CX:CXT}{P:uT}{w:ur}{K:tU}{mg:Str->tY tW}{base:uz}{N ps:KE Str}{qual:Str}{scope:xC}{f:uC}{cd:tW}{A:u5}{outer:KE Env}{s s1:tZ}{H:Hp}{E:XK}{us:KE tW}{vs:KE V}(S:AS N ps scope)(hd:A.handled=none)(e0:kS P w K mg base A outer s H)(hl:vs.length=ps.length)(r:Vals vs us)(x:InCallC s s.heap.objs.size (bindL (envOfC qual scope s.heap.objs.size f cd).kindOf (ps.zip us) λ_=>none) (cellsFrom (s.heap.objs.size+1) scope.names []) (bindC (envOfC qual scope s.heap.objs.size f cd).kindOf (ps.zip us) λ_=>none) s1):Inv (ZD CX P w K mg base N qual scope f cd A outer s H E) [] (start N vs) H s1:=by
 have hpl:ps.length<=N.length:=by have:=congrArg yY S.pre;rw[AAG]at this;lia
 obtain⟨h1,tk,rfl,hk⟩:=x.done
 have noA:∀b:uC,b∉(ZD CX P w K mg base N qual scope f cd A outer s H E).ex:=λb z=>absurd (show b∈([]:KE uC)from z) (by simp)
 refine⟨⟨e0.mod,S.kind,rfl,rfl,tw _,λy z c h1 h2=>?_,λy hy=>?_,λy c _ h=>?_,λ_=>hd,Around.frames_deeper e0.frames,.inr ⟨rfl,rfl⟩,λb z=>absurd z (noA b),e0.bs,e0.bsz,λb _ _=>noA b,λb z=>absurd z (noA b),e0.Wy,e0.frf⟩,
  rfl,e0.bare,Un.kept hk,⟨_,x.toInCall.ns,λi y v h1 h2 h3=>?_⟩,λy c h=>⟨_,x.cell y c h⟩,e0.hok.fresh (tw _),λy c h=>?_,λp hp=>absurd (show p∈([]:KE (uC×Obj))from hp) (by simp),e0.hok.kept hk,?_⟩
 .exact name_of_addr x.apart (vP h1) (vP h2)
 .have hy:scope.names.lookup y=Gc .cell\/scope.names.lookup y=Gc .free:=hy
  rcases hy with hy|hy
  .exact NK hy
  .exact absurd rfl (S.ic _ (vP hy))
 .exact wI (x.above y c (vP h))
 .have hi:i<vs.length:=by
   unfold start at h2
   by_cases hi:i<vs.length
   .exact hi
   .rw[u3 (by simpa using hi)]at h2
    rw[AAH]at h2
    split at h2<;>cases h2
  have ha:vs[i]?=Gc v:=by
   unfold start at h2
   rw[tz (by simpa using hi),uN]at h2
   cases e:vs[i]? with
   |none=>rw[e]at h2;cases h2
   |some a=>rw[e]at h2;cases h2;rfl
  obtain⟨u,hu,rv⟩:=r.get ha
  have hp:ps[i]?=Gc y:=by
   rw[<-S.pre,List.getElem?_take_of_lt (by lia)];exact h1
  have ndP:ps.Nodup:=by rw[<-S.pre];exact S.nd.sublist (List.take_sublist _ _)
  refine⟨u,rv,?_⟩
  rcases S.par y (uS hp)with k|k
  .exact .inl ⟨k,SJ ndP hp hu k⟩
  .obtain⟨c,e⟩:=NK (n:=s.heap.objs.size+1) k
   refine .inr ⟨.inl k,c,e,?_⟩
   have q:=x.cell y c e
   rw[RM ndP hp hu (by show scope.names.lookup y≠_;rw[k];decide)]at q
   exact q
 .exact e0.hok.fresh (wI (x.above y c (vP h)))
 .unfold start
  show _=N.length
  rw[vL,uX,List.length_replicate]
  lia
theorem oH{CX:CXT}{P:uT}{w:ur}{K:tU}{mg:Str->tY tW}{base:uz}{k:Nat}{f:uC}{name qual:Str}{params:Arguments}{body:KE vE}{scope:xC}{dV kV doc pm cdv ct oc:tW}{an od:tY uC}{osl:uu (tY tW)}{N ps:KE Str}{sp:Sp}(lk:K.lookup f=Gc ⟨oc,od,.func (yG name qual params body scope dV kV doc pm an cdv ct),osl⟩)(hcd:zV K cdv qual=true)(S:AS N ps scope)(len:∀vs H Q E,sp vs H Q E->vs.length=ps.length)(hbody:∀(A:u5) (outer:KE Env) (s:tZ) (H:Hp) (vs:KE V) (Q:VK) (E:XK),Ol k (A.deeper (envOfC qual scope s.heap.objs.size f cdv))->sp vs H Q E->∃t,PSs (ZD CX P w K mg base N qual scope f cdv A outer s H E) body t/\t {nx:=λ_ H'=>Q .non H',rt:=Q} (start N vs) H):Rm P w K mg base CX (k+1) f (yG name qual params body scope dV kV doc pm an cdv ct) ps sp:=by
 refine⟨len,λA outer s H args us vs Q E hr e0 hb r hsp=>?_⟩
 have hl:=len _ _ _ _ hsp
 have KX:K.In s.heap:=e0.mod.kin.keeps λb o e=>(e0.bs b o e).1
 have lim:s.heap.NoLimit:=e0.mod.nolimit.keeps λb o e=>(e0.bs b o e).1
 have hkind:∀y∈ps.zip us,scope.names.lookup y.1=Gc .local\/(scope.names.lookup y.1=Gc .cell/\((cellsFrom (s.heap.objs.size+1) scope.names []).lookup y.1).isSome=true):=λ⟨n,v⟩ hy=>by
  rcases S.par n (xq hy).1 with q|q
  .exact .inl q
  .exact .inr ⟨q,AAP _ _ _ (.inl q)⟩
 refine codeAny_call_function hr.depth (KX _ _ lk) rfl S.co S.gen rfl (PySem.W.codeRec_of KX hcd) (hb _ _ _ _ ?_)
 refine wpAny_newFunctionEnv_cells S.kind hkind λenv he s1 x=>?_
 subst he
 refine⟨lim.keeps x.toInCall.keep,codeAny_func ?_⟩
 obtain⟨t,ht,hq⟩:=hbody A outer s H vs Q E (hr.deeper _) hsp
 have I:Inv (ZD CX P w K mg base N qual scope f cdv A outer s H E) [] (start N vs) H s1:=WL S hr.hd e0 hl r x
 refine yA (ht [] s1 (start N vs) H _ I hq) (λfl s' hs=>?_) λe s' hs=>hs
 have fin:∀{σ':St} {H':Hp} {v:V} {u:tW},Inv (ZD CX P w K mg base N qual scope f cdv A outer s H E) [] σ' H' s'->RelV v u->Q v H'->CE outer P w H s Q u s':=
  λ{σ' H' v u} J rv q=>⟨v,H',J.os,J.bare,J.base,J.hok,rv,q⟩
 cases fl with
 |ret u=>
  obtain⟨v,σ',H',J,rv,q⟩:=hs
  exact fin J rv q
 |next=>
  obtain⟨σ',H',J,q⟩:=hs
  exact fin (v:=V.non) (u:=wQ) J rfl q
 |brk=>
  obtain⟨_,_,_,q⟩:=hs
  exact xc q
 |cont=>
  obtain⟨_,_,_,q⟩:=hs
  exact xc q
end L2
namespace L2
open PySem PySem.Spec PyProof.Rows
section
variable{X:Cx}{x:Str}{p pos:Pos}{e:ui}{es:KE ui}{t:TA}{id T:xD}{r:KE V->Hp->VK->Prop}
noncomputable def tCB(r:KE V->Hp->VK->Prop)(t:TA):TE:=λσ H Q=>t σ H λvs H1=>r vs H1 Q
theorem Ud(hc:Fi X (.builtin id) r)(hg:Gl X x)(hm:X.mg x=none)(hv:bootBuiltins x=Gc (.builtin id))(ha:PA X (e::es) t)(hn:x≠ "__name__":=by decide)(hdb:(x==("__debug__":Str))=false:=by decide)(he:uW (e::es) X.env=(false,eval e X.env)::uW es X.env:=by rfl)(hpl:(backTo pos (uW es X.env)).any (·.1)=false:=by rfl):PE X (.Call (.Name x p) (e::es) [] pos) (tCB r t):=by
 intro pins s σ H Q I h
 refine xf (MN I hg hm hv ?_ hn hdb)
 exact PyProof.Rows.callWith_builtin1 (thn (ha pos pins s σ H _ I h) λus s1 ⟨vs,H1,I1,r1,q1⟩=>hc pins s1 σ H1 vs us Q I1 r1 q1) he hpl
theorem Nb(hc:Fi X (.type T) r)(hg:Gl X x)(hm:X.mg x=none)(hv:bootBuiltins x=Gc (.type T))(ha:PA X (e::es) t)(hn:x≠ "__name__":=by decide)(hdb:(x==("__debug__":Str))=false:=by decide)(he:uW (e::es) X.env=(false,eval e X.env)::uW es X.env:=by rfl)(hpl:(backTo pos (uW es X.env)).any (·.1)=false:=by rfl):PE X (.Call (.Name x p) (e::es) [] pos) (tCB r t):=by
 intro pins s σ H Q I h
 refine xf (MN I hg hm hv ?_ hn hdb)
 exact wZ (thn (ha pos pins s σ H _ I h) λus s1 ⟨vs,H1,I1,r1,q1⟩=>hc pins s1 σ H1 vs us Q I1 r1 q1) he hpl
end
end L2
namespace HT
open PySem PyProof.Rows
section
open PySem.SeqAt
open PySem.AutoSeq1 (wpAny_loadPart')
open PySem.MeetsSeq PySem.MeetsSeq2 PySem.MeetsSeq3
end
section
variable{prog:uT}{w:ur}{A:u5}{E:tW->tZ->Prop}{s:tZ}
theorem fQ{t b:uC}{vs ws:KE tW}{Q:tW->tZ->Prop}(ht:IsTup s.heap t vs.toArray)(hb:IsTup s.heap b ws.toArray)(hv:vs≠[])(h1:ws=[]->Q (.ref t) s)(h2:ws≠[]->Q (.ref s.heap.objs.size) {s with heap:=s.heap.push {cls:=.type "tuple",data:=.seq (vs++ws).toArray}})(hsz:vs.length+ws.length<=sizeLine):wpAny (model prog w) A (binaryOp .Add (.ref t) (.ref b)) Q E s:=by
 obtain⟨⟨cls,dd,data,sl⟩,ho,hc,n,hd⟩:=id ht
 obtain⟨⟨cls2,dd2,data2,sl2⟩,ho2,hc2,n2,hd2⟩:=id hb
 simp only at hc hd hc2 hd2
 subst hc hd hc2 hd2
 have e:vs.toArray++ws.toArray=(vs++ws).toArray:=by simp
 by_cases hw:ws=[]
 .exact concat_meets ⟨_,ho,rfl⟩ ⟨_,ho2,rfl⟩ AAI ABP yh yZ (yR _ _)
   (tuple_addW1 t b vs.toArray ws.toArray n n2 dd dd2 sl sl2 (by simpa using hv) (by simp[hw])) ⟨ho,ho2,h1 hw⟩
 .refine concat_meets ⟨_,ho,rfl⟩ ⟨_,ho2,rfl⟩ AAI ABP yh yZ (yR _ _)
   (tuple_addW2 t b vs.toArray ws.toArray n n2 dd dd2 sl sl2 (by simpa using hv) (by simpa using hw) (by rw[uM,uM];exact hsz)) ⟨ho,ho2,?_⟩
  rw[e]
  exact h2 hw
noncomputable def sIx(n d:Nat):tY Int->Nat
 |none=>d
 |some v=>if v<0 then(v+(n:Int)).toNat else min v.toNat n
theorem Sl(n d k:Nat):sIx n d (Gc (k:Int))=min k n:=by
 show(if(k:Int)<0 then((k:Int)+(n:Int)).toNat else min (k:Int).toNat n)=min k n
 rw[uh (by lia),wN]
theorem kC(n d:Nat)(hd:d<=n)(o:tY Int):sIx n d o<=n:=by
 cases o with
 |none=>exact hd
 |some v=>
  show(if v<0 then(v+(n:Int)).toNat else min v.toNat n)<=n
  by_cases hv:v<0
  .rw[uZ hv];lia
  .rw[uh hv];exact Nat.min_le_right _ _
theorem WO(v:Int)(n d:Nat):(if v<0 then max (v+(n:Int)) 0 else min v (n:Int))=((sIx n d (Gc v):Nat):Int):=by
 show(if v<0 then max (v+(n:Int)) 0 else min v (n:Int))=(((if v<0 then(v+(n:Int)).toNat else min v.toNat n):Nat):Int)
 by_cases hv:v<0
 .simp only[uZ hv];lia
 .simp only[uh hv];lia
theorem VJ(lo hi:tY Int)(n:Nat):yL lo hi 1 (n:Int)=(((sIx n 0 lo:Nat):Int),((sIx n n hi:Nat):Int)):=by
 have h1:¬((1:Int)<0):=by lia
 unfold yL
 simp only[h1,yi]
 refine Prod.ext ?_ ?_
 .cases lo with
  |none=>rfl
  |some v=>exact WO v n 0
 .cases hi with
  |none=>rfl
  |some v=>exact WO v n n
theorem VN(i j:Nat):xE (i:Int) (j:Int) 1=j-i:=by
 unfold xE
 have h1:(1:Int)>0:=by lia
 simp only[h1,yj,Int.ediv_one]
 split<;>lia
theorem Po{v:tW}{o:tY Int}{Q:tY Int->tZ->Prop}(p:AAQ v o)(h:Q o s):wpAny (model prog w) A (Builtin.Slice.slicePartIndex v) Q E s:=by
 cases p with
 |none=>exact slicePart_none h
 |int i t=>exact slicePart_int h
theorem Iq{sl:uC}{vl vu:tW}{lo hi:tY Int}{n:Nat}{Q:Int×Int×Nat->tZ->Prop}(hs:s.heap.IsSliceOf sl vl vu .none)(pl:AAQ vl lo)(pu:AAQ vu hi)(h:Q (((sIx n 0 lo:Nat):Int),1,sIx n n hi-sIx n 0 lo) s):wpAny (model prog w) A (zW (.ref sl) (pure (n:Int))) Q E s:=by
 obtain⟨os,hos,hcs,hds⟩:=id hs
 unfold zW Builtin.Slice.sliceFields
 refine Wp (Wp (we hos hds (x:=vl) rfl (Wp (we hos hds (x:=vu) rfl (Wp (we hos hds (x:=.none) rfl (tq ?_)))))))
 refine Wp (slicePart_none ?_)
 show wpAny _ _ (if((1:Int)==0)=true then _ else _) _ _ s
 rw[uh (by decide)]
 refine Wp (Po pl (Wp (Po pu (Wp (tq ?_)))))
 show wpAny _ _ (match yL lo hi 1 (n:Int)with|(lo,hi)=>pure (lo,(1:Int),xE lo hi 1)) _ _ s
 rw[VJ lo hi n]
 show wpAny _ _ (pure (((sIx n 0 lo:Nat):Int),(1:Int),xE ((sIx n 0 lo:Nat):Int) ((sIx n n hi:Nat):Int) 1)) _ _ s
 rw[VN]
 exact tq h
theorem bK(xs:uu tW)(i k:Nat):((uJ k).filterMap λ(m:Nat)=>xs[((i:Int)+(m:Int)*1).toNat]?).toArray=((xs.toList.drop i).take k).toArray:=by
 have e:(λ(m:Nat)=>xs[((i:Int)+(m:Int)*1).toNat]?)=λm=>xs[i+m]?:=by
  funext m
  have:((i:Int)+(m:Int)*1).toNat=i+m:=by lia
  rw[this]
 rw[e]
 have:=pick_run xs i k
 rw[List.filterMap_map]at this
 have e2:((λx=>xs[x]?)∘λx=>i+x)=λm=>xs[i+m]?:=rfl
 rw[e2]at this
 rw[this]
theorem L7{t sl:uC}{items:uu tW}{vl vu:tW}{lo hi:tY Int}{Q:tW->tZ->Prop}(ht:IsTup s.heap t items)(hs:s.heap.IsSliceOf sl vl vu .none)(pl:AAQ vl lo)(pu:AAQ vu hi)(hw:¬(sIx items.size 0 lo=0/\sIx items.size items.size hi=items.size))(h:Q (.ref s.heap.objs.size) {s with heap:=s.heap.push {cls:=.type "tuple",data:=.seq ((items.toList.drop (sIx items.size 0 lo)).take (sIx items.size items.size hi-sIx items.size 0 lo)).toArray}})(hsz:items.size<=sizeLine):wpAny (model prog w) A (getItem (.ref t) (.ref sl)) Q E s:=by
 have htake:sizeOk (.seq ((items.toList.drop (sIx items.size 0 lo)).take (sIx items.size items.size hi-sIx items.size 0 lo)).toArray):=by
  show((items.toList.drop (sIx items.size 0 lo)).take (sIx items.size items.size hi-sIx items.size 0 lo)).toArray.size<=sizeLine
  rw[uM,AAG,List.length_drop,vq]
  lia
 have hj:sIx items.size items.size hi<=items.size:=kC _ _ (tw _) hi
 obtain⟨os,hos,hcs,hds⟩:=id hs
 have hTs:s.TypeIs (.ref sl) "slice":=⟨os,hos,hcs⟩
 unfold getItem
 try with_reducible refine vK ?_
 first|refine Wp (tq ?_)|skip
 refine Wp (wpAny_sequenceKey ht.typeIs (by decide) ?_)
 refine Wp (vA (name:=vQ "__getitem__") ht.typeIs vI
  (u9 vI ht.typeIs ABJ ?_ (ABW _ _)))
 show wpAny _ _ (zX (.ref t) >>= _) _ _ s
 refine Wp (tupleItemsOf_ ht ?_)
 refine Wp (yH hTs ?_)
 rw[uZ (by decide)]
 refine Wp (Iq hs pl pu ?_)
 have hno:¬((((sIx items.size 0 lo:Nat):Int)==0 && (1:Int)==1 && (sIx items.size items.size hi-sIx items.size 0 lo)==items.size)=true):=by
  intro q
  rw[uP,uP]at q
  have q1:((sIx items.size 0 lo:Nat):Int)=0:=eq_of_beq q.1.1
  have q2:sIx items.size items.size hi-sIx items.size 0 lo=items.size:=eq_of_beq q.2
  exact hw ⟨by lia,by lia⟩
 show wpAny _ _ (if(((sIx items.size 0 lo:Nat):Int)==0 && (1:Int)==1 && (sIx items.size items.size hi-sIx items.size 0 lo)==items.size)=true then _ else _) _ _ s
 rw[uh hno,bK]
 first
  |exact Wp (m:=xR _) (vG (tq ⟨_,rfl,tq h⟩) htake)
  |exact Wp (m:=xR _) (vG (Wp (tq (tq ⟨_,rfl,tq h⟩))) htake)
  |exact Wp (Wp (m:=xR _) (vG (tq (tq ⟨_,rfl,tq h⟩)) htake))
  |exact Wp (Wp (m:=xR _) (vG (tq ⟨_,rfl,tq h⟩) htake))
end
end HT
namespace L2
open PySem PySem.Spec PyProof.Rows
abbrev TO:=St->Hp->(tY Int->Hp->Prop)->Prop
def PO(X:Cx)(e:tY ui)(t:TO):Prop:=
 ∀(pins:KE (uC×Obj)) (s:tZ) (σ:St) (H:Hp) (Q:tY Int->Hp->Prop),Inv X pins σ H s->t σ H Q->
  wpAny (model X.prog X.w) X.A (evalPart e X.env) (λu s'=>∃o H',Inv X pins σ H' s'/\AAQ u o/\Q o H') X.xe s
noncomputable def fO:TO:=λ_ H Q=>Q none H
noncomputable def oX(t:TE):TO:=λσ H Q=>t σ H λx H1=>∃i,x=.int i/\Q (Gc i) H1
theorem intsAre_of{ns:KE Int}:∀{us:KE tW},Vals (ns.map V.int) us->wM us ns:=by
 induction ns with
 |nil=>intro us r;rw[u4]at r;cases r;exact .nil
 |cons n ns ih=>
  intro us r
  rw[t8]at r
  cases r with
  |cons r1 r2=>
   obtain⟨t,e⟩:=r1
   subst e
   exact .cons n t (ih r2)
section
variable{X:Cx}{e:ui}{te:TE}{lo hi:tY ui}{tl th:TO}{pos p2:Pos}
theorem WY:PO X none fO:=by
 intro pins s σ H Q I h
 rw[evalPart_none]
 exact tq ⟨none,H,I,.none,h⟩
theorem Q0(h:PE X e te):PO X (Gc e) (oX te):=by
 intro pins s σ H Q I hw
 rw[evalPart_some]
 refine thn (h pins s σ H _ I hw) λu s1 ⟨x,H1,I1,r1,q1⟩=>?_
 obtain⟨i,rfl,q⟩:=q1
 obtain⟨t,rfl⟩:=r1
 exact⟨Gc i,H1,I1,.int i t,q⟩
def SlR(X:Cx)(r:V->tY Int->tY Int->Hp->VK->Prop):Prop:=
 ∀(pins:KE (uC×Obj)) (s:tZ) (σ:St) (H:Hp) (x:V) (v vl vu:tW) (lo hi:tY Int) (sl:uC) (Q:VK),Inv X pins σ H s->RelV x v->s.heap.IsSliceOf sl vl vu .none->AAQ vl lo->AAQ vu hi->r x lo hi H Q->
  ∃T id,typeLookup (.type T) "__getitem__"=pure (Gc (.builtin id))/\s.TypeIs v T/\wpAny (model X.prog X.w) X.A (getItem v (.ref sl)) (EP X pins σ Q) X.xe s
noncomputable def tSl(r:V->tY Int->tY Int->Hp->VK->Prop)(te:TE)(tl th:TO):TE:=λσ H Q=>te σ H λx H1=>tl σ H1 λl H2=>th σ H2 λu H3=>r x l u H3 Q
theorem QO{r:V->tY Int->tY Int->Hp->VK->Prop}(hr:SlR X r)(he:PE X e te)(hl:PO X lo tl)(hu:PO X hi th):PE X (.Subscript e (.Slice lo hi none p2) pos) (tSl r te tl th):=by
 intro pins s σ H Q I h
 refine Subscript_ (thn (he pins s σ H _ I h) λv s1 ⟨x,H1,I1,r1,q1⟩=>?_)
 refine wpAny_Slice (thn (hl pins s1 σ H1 _ I1 q1) λvl s2 ⟨l,H2,I2,pl,q2⟩=>thn (hu pins s2 σ H2 _ I2 q2) λvu s3 ⟨u,H3,I3,pu,q3⟩=>?_)
 rw[evalPart_none]
 refine tq ?_
 have I4:Inv X pins σ H3 {s3 with heap:=s3.heap.push {cls:=.type "slice",data:=.fields #[vl,vu,.none]}}:=I3.kept (t':=s3.toks) λb ob q=>tV _ q
 obtain⟨T,id,hT,ht,hg⟩:=hr pins {s3 with heap:=s3.heap.push {cls:=.type "slice",data:=.fields #[vl,vu,.none]}} σ H3 x v vl vu l u s3.heap.objs.size Q I4 r1 (Heap.IsSliceOf.new ..) pl pu q3
 show wpAny (model X.prog X.w) X.A (subscriptTail e (.Slice lo hi none p2) v (.ref s3.heap.objs.size)) (EP X pins σ Q) X.xe {s3 with heap:=s3.heap.push {cls:=.type "slice",data:=.fields #[vl,vu,.none]}}
 exact tail_any (ops:=[.ref s3.heap.objs.size,v]) ht hT hg (by with_unfolding_all rfl)
noncomputable def b9(xs:KE V)(lo hi:tY Int):KE V:=(xs.drop (HT.sIx xs.length 0 lo)).take (HT.sIx xs.length xs.length hi-HT.sIx xs.length 0 lo)
theorem OU(xs:KE V)(lo hi:tY Int):(b9 xs lo hi).length<=xs.length:=by
 unfold b9
 rw[AAG,List.length_drop]
 lia
def rF(K:tU):V->tY Int->tY Int->Hp->VK->Prop:=λx lo hi H Q=>∃a xs,x=.ref a/\SqT K H a xs/\
 ¬(HT.sIx xs.length 0 lo=0/\HT.sIx xs.length xs.length hi=xs.length)/\∀p,H p=none->Q (.ref p) (upd H p (.tup (b9 xs lo hi)))
theorem jW:SlR X (rF X.K):=by
 intro pins s σ H x v vl vu lo hi sl Q I rx hs pl pu h
 obtain⟨a,xs,rfl,hx,hw,q⟩:=h
 cases rx
 obtain⟨its,r,ht,hz⟩:=I.tuple hx
 have hlen:its.toArray.size=xs.length:=by rw[uM];exact r.length.symm
 refine⟨"tuple",_,vI.lookup,ht.typeIs,?_⟩
 refine HT.L7 ht hs pl pu (by rw[hlen];exact hw) ?_ (by rw[hlen];exact hz)
 rw[hlen]
 refine⟨.ref s.heap.objs.size,_,I.laid (t':=s.toks) (o:=.tup (b9 xs lo hi)) (λb ob q=>tV _ q) (tw _) ?_,rfl,q _ (I.hok.fresh (tw _))⟩
 exact⟨uA (OU xs lo hi) hz,_,(r.drop (HT.sIx xs.length 0 lo)).take (HT.sIx xs.length xs.length hi-HT.sIx xs.length 0 lo),yN _ _⟩
noncomputable def mL(K:tU):R2:=λx y H Q=>∃a b xs ys,x=.ref a/\y=.ref b/\SqT K H a xs/\SqT K H b ys/\xs≠[]/\xs.length+ys.length<=sizeLine/\
 (ys=[]->Q (.ref a) H)/\(ys≠[]->∀p,H p=none->Q (.ref p) (upd H p (.tup (xs++ys))))
theorem Vals.QG{xs:KE V}{us:KE tW}(r:Vals xs us):us=[]↔xs=[]:=by
 cases r with
 |nil=>simp
 |cons _ _=>simp
theorem fZ:OpR X (binaryOp .Add) (mL X.K):=by
 intro pins s σ H x y v u Q I rx ry h
 obtain⟨a,b,xs,ys,rfl,rfl,ha,hb,hx,hz,q1,q2⟩:=h
 cases rx
 cases ry
 obtain⟨its,r1,p1,_⟩:=I.tuple ha
 obtain⟨its2,r2,p2,_⟩:=I.tuple hb
 refine HT.fQ p1 p2 (λz=>hx (r1.QG.mp z)) (λz=>⟨.ref a,H,I,rfl,q1 (r2.QG.mp z)⟩) (λz=>?_) (by rw[<-r1.length,<-r2.length];exact hz)
 refine⟨.ref s.heap.objs.size,_,I.laid (t':=s.toks) (o:=.tup (xs++ys)) (λb ob q=>tV _ q) (tw _) ?_,rfl,q2 (λw=>z (r2.QG.mpr w)) _ (I.hok.fresh (tw _))⟩
 exact⟨by rw[vL];exact hz,_,r1.append r2,yN _ _⟩
end
end L2
namespace L2
open PySem PySem.Spec PyProof.Rows
noncomputable def ixN(n:Nat)(i:Int):tY Nat:=if 0<=i then(if i<n then Gc i.toNat else none)else if-(n:Int)<=i then Gc (i+n).toNat else none
noncomputable def atI{α:Type}(xs:KE α)(i:Int):tY α:=(ixN xs.length i).bind λj=>xs[j]?
theorem XS{n:Nat}{i:Int}{j:Nat}(h:ixN n i=Gc j):seqIndex? i n=Gc j/\j<n/\ -(n:Int)<=i/\i<n:=by
 unfold ixN at h
 by_cases h0:0<=i
 .rw[uZ h0]at h
  by_cases h1:i<n
  .rw[uZ h1]at h
   have e:i.toNat=j:=vS h
   exact⟨by rw[seqIndex_of h0 h1,e],by lia,by lia,h1⟩
  .rw[uh h1]at h;cases h
 .rw[uh h0]at h
  by_cases h1: -(n:Int)<=i
  .rw[uZ h1]at h
   have e:(i+n).toNat=j:=vS h
   exact⟨by rw[seqIndex_neg (by lia) h1,e],by lia,h1,by lia⟩
  .rw[uh h1]at h;cases h
theorem YR{α:Type}{xs:KE α}{i:Int}{v:α}(h:atI xs i=Gc v):∃j,seqIndex? i xs.length=Gc j/\xs[j]?=Gc v/\j<xs.length/\ -(xs.length:Int)<=i/\i<xs.length:=by
 unfold atI at h
 cases e:ixN xs.length i with
 |none=>rw[e]at h;cases h
 |some j=>
  rw[e]at h
  obtain⟨h1,h2,h3,h4⟩:=XS e
  exact⟨j,h1,h,h2,h3,h4⟩
theorem gL{α:Type}{xs:KE α}{j:Nat}{v:α}(h:xs[j]?=Gc v):atI xs (j:Int)=Gc v:=by
 have hj:j<xs.length:=(uI.mp h).1
 have e:ixN xs.length (j:Int)=Gc j:=by
  unfold ixN
  rw[uZ (by lia),uZ (by lia)];simp
 unfold atI;rw[e];exact h
theorem Q6{α:Type}(xs:KE α)(v:α):atI (xs++[v]) (-1)=Gc v:=by
 have hl:(xs++[v]).length=xs.length+1:=by simp
 have e:ixN (xs++[v]).length (-1)=Gc xs.length:=by
  unfold ixN
  rw[hl,uh (by decide),uZ (by lia)]
  congr 1
  lia
 unfold atI
 rw[e]
 show(xs++[v])[xs.length]?=Gc v
 simp
def YC(b:ui):Prop:=∀o i,subscripted b false o i=operate [o,i] (getItem o i)
def IxR(X:Cx)(r:R2):Prop:=
 ∀(value slice:ui) (pins:KE (uC×Obj)) (s:tZ) (σ:St) (H:Hp) (x y:V) (v u:tW) (Q:VK),Inv X pins σ H s->RelV x v->RelV y u->r x y H Q->
  subscripted slice false v u=operate [v,u] (getItem v u)->wpAny (model X.prog X.w) X.A (subscriptTail value slice v u) (EP X pins σ Q) X.xe s
def MtR(X:Cx)(id:xD)(r:V->KE V->Hp->VK->Prop):Prop:=
 ∀(pins:KE (uC×Obj)) (s:tZ) (σ:St) (H:Hp) (x:V) (xs:KE V) (v:tW) (us:KE tW) (Q:VK),Inv X pins σ H s->RelV x v->Vals xs us->r x xs H Q->
  wpAny (model X.prog X.w) X.A (call (.builtin id) (v::us)) (EP X pins σ Q) X.xe s
section
variable{X:Cx}{a b:ui}{ta tb:TE}{pos:Pos}
theorem pA{r:R2}(hr:IxR X r)(ha:PE X a ta)(hb:PE X b tb)(hs:YC b):PE X (.Subscript a b pos) (tOp r ta tb):=by
 intro pins s σ H Q I h
 exact Subscript_ (oT ha hb I h λv u s2 x y H2 I2 rx ry q=>hr a b pins s2 σ H2 x y v u Q I2 rx ry q (hs _ _))
noncomputable def qx(K:tU):R2:=λx y H Q=>∃p xs i v,x=.ref p/\y=.int i/\SqL K H p xs/\atI xs i=Gc v/\Q v H
noncomputable def qk(K:tU):R2:=λx y H Q=>∃p xs i v,x=.ref p/\y=.int i/\SqT K H p xs/\atI xs i=Gc v/\Q v H
theorem fA:IxR X (qx X.K):=by
 intro value slice pins s σ H x y v u Q I rx ry h hs
 obtain⟨p,xs,i,z,rfl,rfl,hq,he,q⟩:=h
 cases rx
 obtain⟨t,rfl⟩:=ry
 obtain⟨its,r,pl,hz⟩:=I.list hq
 obtain⟨j,h1,h2,h3,h4,h5⟩:=YR he
 obtain⟨w,ew,rw'⟩:=r.get h2
 have hl:=r.length
 have hn:=RN
 have fin:EP X pins σ Q w s:=⟨z,H,I,rw',q⟩
 by_cases h0:0<=i
 .have hj:i.toNat=j:=by
   rw[seqIndex_of h0 h5]at h1
   exact vS h1
  exact item_listR pl.isList h0 (by lia) (by rw[hj];simpa using ew) fin hs
 .have hj:(i+(its.toArray.size:Int)).toNat=j:=by
   rw[seqIndex_neg (by lia) h4]at h1
   rw[uM,<-hl]
   exact vS h1
  exact AAR (x:=w) pl.isList.typeIs slot_list_getitem.lookup
   (wpAny_getItem_list_neg (Q:=λr s'=>r=w/\EP X pins σ Q r s') pl.isList (by lia) (by rw[uM]<;>lia) (by lia) (by rw[hj];simpa using ew) ⟨rfl,fin⟩) hs
theorem j6:IxR X (qk X.K):=by
 intro value slice pins s σ H x y v u Q I rx ry h hs
 obtain⟨p,xs,i,z,rfl,rfl,hq,he,q⟩:=h
 cases rx
 obtain⟨t,rfl⟩:=ry
 obtain⟨its,r,pl,hz⟩:=I.tuple hq
 obtain⟨j,h1,h2,h3,h4,h5⟩:=YR he
 obtain⟨w,ew,rw'⟩:=r.get h2
 have hl:=r.length
 have hn:=RN
 have fin:EP X pins σ Q w s:=⟨z,H,I,rw',q⟩
 exact AAR (x:=w) pl.typeIs vI.lookup
  (getItem_tuple (j:=j) (Q:=λr s'=>r=w/\EP X pins σ Q r s') pl (by lia) (by lia) (by rw[uM,<-hl];exact h1) (by simpa using ew) ⟨rfl,fin⟩) hs
theorem Vc(its:KE tW)(n j:Nat)(u:tW):vt (·.setIfInBounds j u) {cls:=.type "list",data:=.seq its.toArray n}={cls:=.type "list",data:=.seq (its.set j u).toArray n}:=by
 simp[vt]
theorem Inv.lst{pins:KE (uC×Obj)}{σ:St}{H:Hp}{s:tZ}{p:uC}{xs:KE V}(I:Inv X pins σ H s)(h:H p=Gc (.lst xs)):∃(its:KE tW) (n:Nat),Vals xs its/\s.heap.get? p=Gc {cls:=.type "list",data:=.seq its.toArray n}/\xs.length<=sizeLine:=by
 obtain⟨z,its,n,r,e⟩:=I.hok p _ h
 exact⟨its,n,r,e,z⟩
theorem Inv.jT{pins:KE (uC×Obj)}{σ:St}{H:Hp}{s:tZ}{p:uC}{xs ys:KE V}{its its':KE tW}{n n':Nat}{f:Obj->Obj}(I:Inv X pins σ H s)(h:H p=Gc (.lst xs))(ho:s.heap.get? p=Gc {cls:=.type "list",data:=.seq its.toArray n})(hf:f {cls:=.type "list",data:=.seq its.toArray n}={cls:=.type "list",data:=.seq its'.toArray n'})(r:Vals ys its')(hz:ys.length<=sizeLine)(t:Nat):Inv X pins σ (upd H p (.lst ys)) {s with heap:=s.heap.update p f,toks:=t}:=by
 have e:(s.heap.update p f).get? p=Gc {cls:=.type "list",data:=.seq its'.toArray n'}:=by
  rw[u7 f ho (by rw[hf]<;>rfl),hf]
 refine I.write (x:=p) (e:=p) (by rw[h];trivial) (.inl rfl) (λb u hb q=>(vm _ _ (vZ hb)).trans q) ⟨_,e⟩ ?_
 exact⟨hz,its',n',r,e⟩
def nO:V->V->V->Hp->(Hp->Prop)->Prop:=λo i v H Q=>∃p xs k j,o=.ref p/\i=.int k/\H p=Gc (.lst xs)/\ixN xs.length k=Gc j/\Q (upd H p (.lst (xs.set j v)))
theorem set_list:qf X nO:=by
 intro pins s σ H o i v ov iv u Q I ro ri rv h
 obtain⟨p,xs,k,j,rfl,rfl,hp,hj,q⟩:=h
 cases ro
 obtain⟨t,rfl⟩:=ri
 obtain⟨its,n,r,ho,hz⟩:=I.lst hp
 obtain⟨h1,h2,h3,h4⟩:=XS hj
 have hl:=r.length
 have hn:=RN
 have I':Inv X pins σ (upd H p (.lst (xs.set j v))) {s with heap:=s.heap.update p (vt (·.setIfInBounds j u))}:=
  I.jT hp ho (Vc its n j u) (r.set rv j) (by rw[wC];exact hz) s.toks
 by_cases h0:0<=k
 .have hk:k.toNat=j:=by
   rw[seqIndex_of h0 h4]at h1
   exact vS h1
  exact PySem.W.ki_setAt ho h0 (by lia) (by rw[uM,<-hl];exact h4) (by rw[hk];exact⟨_,I',q⟩)
 .have hk:(k+(its.toArray.size:Int)).toNat=j:=by
   rw[seqIndex_neg (by lia) h3]at h1
   rw[uM,<-hl]
   exact vS h1
  exact PySem.W.ki_setBack ho (by lia) (by rw[uM,<-hl];exact h3) (by lia) (by rw[hk];exact⟨_,I',q⟩)
theorem R3(lo hi:tY Int)(n:Nat):(sliceBounds lo hi none n).1=((HT.sIx n 0 lo:Nat):Int)/\(sliceBounds lo hi none n).2.1=((HT.sIx n n hi:Nat):Int)/\(sliceBounds lo hi none n).2.2=1:=by
 refine⟨?_,?_,rfl⟩
 .cases lo with
  |none=>simp[sliceBounds,HT.sIx]
  |some i=>
   simp only[sliceBounds,HT.sIx,Option.getD_none,show(1:Int)>0 by decide,yj]
   by_cases h:i<0
   .simp only[h,yj]<;>lia
   .simp only[h,yi]<;>lia
 .cases hi with
  |none=>simp[sliceBounds,HT.sIx]
  |some i=>
   simp only[sliceBounds,HT.sIx,Option.getD_none,show(1:Int)>0 by decide,yj]
   by_cases h:i<0
   .simp only[h,yj]<;>lia
   .simp only[h,yi]<;>lia
theorem QA(its:KE tW)(lo hi:tY Int):slicePick its.toArray lo hi none=((its.drop (HT.sIx its.length 0 lo)).take (HT.sIx its.length its.length hi-HT.sIx its.length 0 lo)).toArray:=by
 obtain⟨h1,h2,h3⟩:=R3 lo hi its.toArray.size
 unfold slicePick
 rw[h1,h2,h3]
 simp only[sliceRange_one,pick_run,uM]<;>rfl
def qu(K:tU):V->tY Int->tY Int->Hp->VK->Prop:=λx lo hi H Q=>∃a xs,x=.ref a/\SqL K H a xs/\∀p,H p=none->Q (.ref p) (upd H p (.lst (b9 xs lo hi)))
theorem fw:SlR X (qu X.K):=by
 intro pins s σ H x v vl vu lo hi sl Q I rx hs pl pu h
 obtain⟨a,xs,rfl,hx,q⟩:=h
 cases rx
 obtain⟨its,r,ht,hz⟩:=I.list hx
 have hlen:=r.length
 refine⟨"list",_,slot_list_getitem.lookup,ht.isList.typeIs,?_⟩
 refine wpAny_getItem_list_slice ht.isList hs pl pu .none (by simp) ?_ (by rw[uM]<;>lia)
 rw[QA,<-hlen]
 refine⟨.ref s.heap.objs.size,_,I.laid (t':=s.toks) (o:=.lst (b9 xs lo hi)) (λb ob q=>tV _ q) (tw _) ?_,rfl,q _ (I.hok.fresh (tw _))⟩
 exact⟨uA (OU xs lo hi) hz,_,0,(r.drop (HT.sIx xs.length 0 lo)).take (HT.sIx xs.length xs.length hi-HT.sIx xs.length 0 lo),uH _ rfl⟩
noncomputable def O9:V->uv
 | .non=>true
 | .bl _=>true
 | .int _=>true
 | .str _=>true
 |_=>false
noncomputable def eqV:V->V->uv
 | .non,.non=>true
 | .bl a,.bl b=>a==b
 | .bl a,.int b=>(if a then 1 else 0)==b
 | .int a,.bl b=>a==(if b then 1 else 0)
 | .int a,.int b=>a==b
 | .str a,.str b=>a==b
 |_,_=>false
theorem jN{A:u5}{s:tZ}{y x:V}{u v:tW}(ry:RelV y u)(rx:RelV x v)(fy:O9 y=true)(fx:O9 x=true):SeqAt.EqAt A s u v (eqV y x):=by
 cases y with
 |non=>
  cases ry
  cases x with
  |non=>cases rx;exact SeqAt.EqAt.same _
  |bl b=>cases rx;exact SeqAt.EqAt.none_bool b
  |int b=>obtain⟨t,rfl⟩:=rx;exact SeqAt.EqAt.none_int b t
  |str b=>obtain⟨t,rfl⟩:=rx;exact SeqAt.EqAt.none_str b t
  |_=>exact absurd (show false=true from fx) vC
 |bl a=>
  cases ry
  cases x with
  |non=>cases rx;exact SeqAt.EqAt.bool_none a
  |bl b=>cases rx;exact SeqAt.EqAt.bool_bool a b
  |int b=>obtain⟨t,rfl⟩:=rx;exact SeqAt.EqAt.bool_int a b t
  |str b=>obtain⟨t,rfl⟩:=rx;exact SeqAt.EqAt.bool_str a b t
  |_=>exact absurd (show false=true from fx) vC
 |int a=>
  obtain⟨t',rfl⟩:=ry
  cases x with
  |non=>cases rx;exact SeqAt.EqAt.int_none a t'
  |bl b=>cases rx;exact SeqAt.EqAt.int_bool a t' b
  |int b=>obtain⟨t,rfl⟩:=rx;exact SeqAt.EqAt.int_int a t' b t
  |str b=>obtain⟨t,rfl⟩:=rx;exact ABS a t' b t
  |_=>exact absurd (show false=true from fx) vC
 |str a=>
  obtain⟨t',rfl⟩:=ry
  cases x with
  |non=>cases rx;exact SeqAt.EqAt.str_none a t'
  |bl b=>cases rx;exact SeqAt.EqAt.str_bool a t' b
  |int b=>obtain⟨t,rfl⟩:=rx;exact ABT a t' b t
  |str b=>obtain⟨t,rfl⟩:=rx;exact SeqAt.EqAt.str_str a t' b t
  |_=>exact absurd (show false=true from fx) vC
 |_=>exact absurd (show false=true from fy) vC
noncomputable def eqU(x:V)(u:tW):uv:=match u with
 | .none=>eqV .non x
 | .bool b=>eqV (.bl b) x
 | .int i _=>eqV (.int i) x
 | .str z _=>eqV (.str z) x
 |_=>false
theorem cM{x y:V}{u:tW}(r:RelV y u)(f:O9 y=true):eqU x u=eqV y x:=by
 cases y with
 |non=>cases r;rfl
 |bl b=>cases r;rfl
 |int i=>obtain⟨t,rfl⟩:=r;rfl
 |str z=>obtain⟨t,rfl⟩:=r;rfl
 |_=>exact absurd (show false=true from f) vC
theorem Nv{x:V}:∀{xs:KE V} {us:KE tW},Vals xs us->xs.all O9=true->us.any (eqU x)=xs.any λy=>eqV y x
 |_,_,.nil,_=>rfl
 |y::xs,u::us,.cons r t,f=>by
  rw[y8,uP]at f
  rw[wg,wg,cM r f.1,Nv t f.2]
theorem Lk{A:u5}{s:tZ}{x:V}{v:tW}(rx:RelV x v)(fx:O9 x=true):∀{xs:KE V} {us:KE tW},Vals xs us->xs.all O9=true->∀u∈us,SeqAt.EqAt A s u v (eqU x u)
 |_,_,.nil,_=>λu hu=>by cases hu
 |y::xs,u::us,.cons r t,f=>λu' hu=>by
  rw[y8,uP]at f
  rcases uF.mp hu with rfl|hu
  .rw[cM r f.1];exact jN r rx f.1 fx
  .exact Lk rx fx t f.2 u' hu
noncomputable def inV(x:V)(xs:KE V):uv:=xs.any λy=>eqV y x
noncomputable def rIn(K:tU)(neg:uv):R2:=λx y H Q=>∃p xs,y=.ref p/\(SqL K H p xs\/SqT K H p xs)/\O9 x=true/\xs.all O9=true/\Q (.bl (if neg then !inV x xs else inV x xs)) H
theorem YO:OpR X (compareOp .In) (rIn X.K false):=by
 intro pins s σ H x y v u Q I rx ry h
 obtain⟨p,xs,rfl,hq,fx,fs,q⟩:=h
 cases ry
 rcases hq with hq|hq
 .obtain⟨its,r,pl,hz⟩:=I.list hq
  refine SeqAt.in_listAt (eqU x) pl.isList (λw hw=>Lk rx fx r fs w (by simpa using hw)) ⟨.bl _,H,I,rfl,?_⟩
  rw[show its.toArray.any (eqU x)=its.any (eqU x) by simp,Nv r fs]
  exact q
 .obtain⟨its,r,pl,hz⟩:=I.tuple hq
  refine SeqAt.in_tupleAt (eqU x) pl (λw hw=>Lk rx fx r fs w (by simpa using hw)) ⟨.bl _,H,I,rfl,?_⟩
  rw[show its.toArray.any (eqU x)=its.any (eqU x) by simp,Nv r fs]
  exact q
theorem SS:OpR X (compareOp .NotIn) (rIn X.K true):=by
 intro pins s σ H x y v u Q I rx ry h
 obtain⟨p,xs,rfl,hq,fx,fs,q⟩:=h
 cases ry
 rcases hq with hq|hq
 .obtain⟨its,r,pl,hz⟩:=I.list hq
  refine SeqAt.notIn_listAt (eqU x) pl.isList (λw hw=>Lk rx fx r fs w (by simpa using hw)) ⟨.bl _,H,I,rfl,?_⟩
  rw[show its.toArray.any (eqU x)=its.any (eqU x) by simp,Nv r fs]
  exact q
 .obtain⟨its,r,pl,hz⟩:=I.tuple hq
  refine SeqAt.notIn_tupleAt (eqU x) pl (λw hw=>Lk rx fx r fs w (by simpa using hw)) ⟨.bl _,H,I,rfl,?_⟩
  rw[show its.toArray.any (eqU x)=its.any (eqU x) by simp,Nv r fs]
  exact q
theorem RY:Fi X (.builtin "len") (λxs H Q=>∃p ys,xs=[.ref p]/\(SqL X.K H p ys\/SqT X.K H p ys)/\Q (.int ys.length) H):=by
 intro pins s σ H xs us Q I r h
 obtain⟨p,ys,rfl,hq,q⟩:=h
 obtain⟨u,rfl,rx⟩:=vals1 r
 cases rx
 have hn:=RN
 rcases hq with hq|hq
 .obtain⟨its,r',pl,hz⟩:=I.list hq
  have hlen:=r'.length
  exact Calls.call_len_list pl.isList (by simp only[uM]<;>lia) ⟨.int ys.length,H,I.tok _,⟨s.toks+1,by rw[uM,hlen]⟩,q⟩
 .obtain⟨its,r',pl,hz⟩:=I.tuple hq
  have hlen:=r'.length
  exact len_tuple pl (by simp only[uM]<;>lia) ⟨.int ys.length,H,I.tok _,⟨s.toks+1,by rw[uM,hlen]⟩,q⟩
theorem RU:Fi X (.builtin "len") (λxs H Q=>∃z,xs=[.str z]/\z.length<=sizeLine/\Q (.int z.length) H):=by
 intro pins s σ H xs us Q I r h
 obtain⟨z,rfl,hz,q⟩:=h
 obtain⟨u,rfl,t,rfl⟩:=vals1 r
 have hn:=RN
 exact len_str (by lia) ⟨.int z.length,H,I.tok _,⟨_,rfl⟩,q⟩
theorem Rt:Fi X (.type "list") (λxs H Q=>∃p ys,xs=[.ref p]/\(SqL X.K H p ys\/SqT X.K H p ys)/\∀l,H l=none->Q (.ref l) (upd H l (.lst ys))):=by
 intro pins s σ H xs us Q I r h
 obtain⟨p,ys,rfl,hq,q⟩:=h
 obtain⟨u,rfl,rx⟩:=vals1 r
 cases rx
 have fin:∀(its:KE tW),Vals ys its->ys.length<=sizeLine->∀(h':uz) (c':Nat),(∀b o',s.heap.get? b=Gc o'->h'.get? b=Gc o')->
   h'.get? s.heap.objs.size=Gc {cls:=.type "list",dict:=none,data:=.seq its.toArray c',slots:= #[]}->EP X pins σ Q (.ref s.heap.objs.size) {s with heap:=h'}:=λits r' hz h' c' kp e=>
  ⟨.ref s.heap.objs.size,_,I.laid (t':=s.toks) kp (tw _) (show Fb X.prog X.w _ h' _ (.lst ys)from⟨hz,its,c',r',e⟩),rfl,q _ (I.hok.fresh (tw _))⟩
 rcases hq with hq|hq
 .obtain⟨its,r',pl,hz⟩:=I.list hq
  have hlen:=r'.length
  obtain⟨o,ho,hc,n,hd⟩:=pl.isList
  exact call_list_seq p (.inl rfl) ho hc hd (λh' c' kp e=>fin its r' hz h' c' kp e) (by simp only[uM]<;>lia)
 .obtain⟨its,r',pl,hz⟩:=I.tuple hq
  have hlen:=r'.length
  obtain⟨o,ho,hc,n,hd⟩:=pl
  exact call_list_seq p (.inr rfl) ho hc hd (λh' c' kp e=>fin its r' hz h' c' kp e) (by simp only[uM]<;>lia)
theorem Q5:Fi X (.type "tuple") (λxs H Q=>∃p ys,xs=[.ref p]/\((SqL X.K H p ys/\∀l,H l=none->Q (.ref l) (upd H l (.tup ys)))\/(SqT X.K H p ys/\Q (.ref p) H))):=by
 intro pins s σ H xs us Q I r h
 obtain⟨p,ys,rfl,h⟩:=h
 obtain⟨u,rfl,rx⟩:=vals1 r
 cases rx
 rcases h with⟨hq,q⟩|⟨hq,q⟩
 .obtain⟨its,r',pl,hz⟩:=I.list hq
  have hlen:=r'.length
  refine call_tuple_list pl.isList (λh' kp=>?_) (by simp only[uM]<;>lia)
  have I1:Inv X pins σ H {s with heap:=h'}:=I.kept (t':=s.toks) kp
  have I2:Inv X pins σ (upd H h'.objs.size (.tup ys)) {s with heap:=h'.push {cls:=.type "tuple",data:=.seq its.toArray}}:=
   I1.laid (t':=s.toks) (λb o e=>tV _ e) (tw _) (show Fb X.prog X.w _ _ _ (.tup ys)from⟨hz,its,r',yN _ _⟩)
  exact⟨.ref h'.objs.size,_,I2,rfl,q _ (I1.hok.fresh (tw _))⟩
 .obtain⟨its,r',pl,hz⟩:=I.tuple hq
  exact call_tuple_same pl ⟨.ref p,H,I,rfl,q⟩
def tyV(K:tU)(T:xD)(x:V)(H:Hp):Prop:=match x with
 | .str _=>T="str"
 | .int _=>T="int"
 | .ref p=>(T="list" /\∃xs,SqL K H p xs)\/(T="tuple" /\∃o,K.lookup p=Gc o/\o.cls=.type "tuple" /\o.dict=none)∨
    (T="dict" /\((∃kvs,H p=Gc (.dK kvs))\/∃kvs,H p=Gc (.dT kvs)))\/(T="set" /\∃S n,H p=Gc (.set S n))
 |_=>xy
theorem jf{pins:KE (uC×Obj)}{σ:St}{H:Hp}{s:tZ}{T:xD}{x:V}{v:tW}(I:Inv X pins σ H s)(r:RelV x v)(ty:tyV X.K T x H):s.TypeIs v T/\∀a,v=.ref a->∃ob,s.heap.get? a=Gc ob/\ob.dict=none:=by
 cases x with
 |str z=>
  obtain⟨t,rfl⟩:=r
  cases (show T="str" from ty)
  exact⟨AAS s z t,λ_ e=>nomatch e⟩
 |int i=>
  obtain⟨t,rfl⟩:=r
  cases (show T="int" from ty)
  exact⟨yw s i t,λ_ e=>nomatch e⟩
 |ref p=>
  cases r
  rcases ty with⟨rfl,xs,hq⟩|⟨rfl,o,hk,hc,hd⟩|⟨rfl,hk⟩|⟨rfl,S,n,hk⟩
  .obtain⟨its,_,pl,_⟩:=I.list hq
   refine⟨pl.isList.typeIs,λa e=>?_⟩
   cases e
   obtain⟨o,n,e,c,hd,_⟩:=pl
   exact⟨o,e,hd⟩
  .refine⟨⟨o,I.kIn p o hk,hc⟩,λa e=>?_⟩
   cases e
   exact⟨o,I.kIn _ o hk,hd⟩
  .have z:∃o,s.heap.get? p=Gc o/\o.ExactDict:=by
    rcases hk with⟨kvs,hk⟩|⟨kvs,hk⟩
    .obtain⟨_,_,_,_,o,_,_,e,ex,_⟩:=I.hok p _ hk
     exact⟨o,e,ex⟩
    .obtain⟨_,_,_,_,o,_,_,e,ex,_⟩:=I.hok p _ hk
     exact⟨o,e,ex⟩
   obtain⟨o,e,ex⟩:=z
   refine⟨⟨o,e,ex.1⟩,λa e2=>?_⟩
   cases e2
   exact⟨o,e,ex.2.1⟩
  .obtain⟨o,_,_,_,e,ex,_⟩:=I.hok p _ hk
   refine⟨⟨o,e,ex.1⟩,λa e2=>?_⟩
   cases e2
   exact⟨o,e,ex.2.1⟩
 |_=>exact xc ty
noncomputable def tBM(K:tU)(T:xD)(r:V->KE V->Hp->VK->Prop)(to:TE)(t:TA):TE:=λσ H Q=>to σ H λx H1=>tyV K T x H1/\t σ H1 λxs H2=>r x xs H2 Q
variable{o e:ui}{es:KE ui}{to:TE}{t:TA}{name:Str}{apos cpos:Pos}{T id:xD}{r:V->KE V->Hp->VK->Prop}
theorem mZ(pa:PlainAttrs T)(slot:Slot T name id)(hty:typeOf (.builtin id)=pure (.type "method_descriptor"))(hm:MtR X id r)(ho:PE X o to)(ha:PA X (e::es) t)(hbase:attributeBase o name X.env (eval o X.env)=eval o X.env:=by rfl)(hfew:((backTo cpos (uW (e::es) X.env)).all (λx=> !x.1) && (backToKw cpos (keywordEach [] X.env)).all (λx=>x.1.isSome) && decide ((e::es).length+([]:KE zt).length+(if([]:KE zt).isEmpty then 0 else 1)<30))=true:=by rfl)(hline:(apos.endLine==cpos.line)=true:=by rfl)(hs:uW (e::es) X.env=(false,eval e X.env)::uW es X.env:=by rfl)(hplain:(backTo cpos (uW es X.env)).any (·.1)=false:=by rfl):PE X (.Call (.Attribute o name apos) (e::es) [] cpos) (tBM X.K T r to t):=by
 intro pins s σ H Q I h
 refine wpAny_Call_method_late hbase hfew hline rfl (thn (ho pins s σ H _ I h) λv s1 ⟨x,H1,I1,r1,ty,q1⟩=>?_)
 obtain⟨h1,h2⟩:=jf I1 r1 ty
 refine⟨T,id,pa,slot,hty,h1,h2,?_⟩
 have hA:=ha cpos pins s1 σ H1 _ I1 q1
 rw[hs]at hA⊢
 refine AAT (by show(false||(backTo cpos (uW es X.env)).any (·.1))=false;rw[hplain]<;>rfl) (AAw ?_)
 exact thn hA λus s2 ⟨vs,H2,I2,r2,q2⟩=>hm pins s2 σ H2 x vs v us Q I2 r1 r2 q2
end
end L2
namespace L2
open PySem PySem.Spec PyProof.Rows
def MtM(X:Cx)(id:xD)(r:V->KE V->Hp->VK->Prop):Prop:=
 ∀(pins:KE (uC×Obj)) (s:tZ) (σ:St) (H:Hp) (x:V) (xs:KE V) (v:tW) (us:KE tW) (Q:VK),Inv X pins σ H s->RelV x v->Vals xs us->r x xs H Q->
  wpAny (model X.prog X.w) X.A (call (.builtin id) (v::us)) (EP X pins σ Q) X.xe s
theorem Vals.one:∀{x:V} {us:KE tW},Vals [x] us->∃u,us=[u]/\RelV x u
 |_,_,.cons r .nil=>⟨_,rfl,r⟩
theorem Vals.two:∀{x y:V} {us:KE tW},Vals [x,y] us->∃u v,us=[u,v]/\RelV x u/\RelV y v
 |_,_,_,.cons r (.cons q .nil)=>⟨_,_,rfl,r,q⟩
theorem Vals.rep{xs:KE V}{us:KE tW}(h:Vals xs us):∀k:Nat,Vals (uQ k xs).flatten (uQ k us).flatten
 |0=>.nil
 |k+1=>by
  rw[vd,vd,xK,xK]
  exact Vals.append h (Vals.rep h k)
theorem foldl_rep(its:KE tW):∀(k:Nat) (acc:KE tW),ABX (λx1 x2=>x1++x2) acc.toArray (uQ k its.toArray)=(acc++(uQ k its).flatten).toArray
 |0,acc=>by simp
 |k+1,acc=>by
  have e:acc.toArray++its.toArray=(acc++its).toArray:=by simp
  have e2:(acc++its)++(uQ k its).flatten=acc++(uQ (k+1) its).flatten:=by
   rw[vd,xK,xM]
  rw[<-e2,<-foldl_rep its k (acc++its),<-e,vd,AAj]
section
variable{X:Cx}{pins:KE (uC×Obj)}{σ:St}{H:Hp}{s:tZ}{l b:uC}{xs ys zs:KE V}
theorem Inv.oF{its its':KE tW}{n:Nat}{f:uu tW->uu tW}{t':Nat}(I:Inv X pins σ H s)(hH:H l=Gc (.lst xs))(e:s.heap.get? l=Gc {cls:=.type "list",data:=.seq its.toArray n})(hf:f its.toArray=its'.toArray)(hv:Vals ys its')(hz:ys.length<=sizeLine):Inv X pins σ (upd H l (.lst ys)) {s with heap:=s.heap.update l (vt f),toks:=t'}:=by
 have q:=PySem.IsL.update e f
 rw[hf]at q
 refine I.write (x:=l) (e:=l) (by rw[hH];exact trivial) (.inl rfl) (λb' u hb hu=>(vm s.heap (vt f) (vZ hb)).trans hu) ⟨_,q⟩ ?_
 exact⟨hz,its',_,hv,q⟩
theorem Inv.qK{its:KE tW}{t':Nat}(I:Inv X pins σ H s)(hv:Vals ys its)(hz:ys.length<=sizeLine):Inv X pins σ (upd H s.heap.objs.size (.lst ys)) {s with heap:=s.heap.push {cls:=.type "list",data:=.seq its.toArray},toks:=t'}:=
 I.laid (λ_ _ q=>tV _ q) (tw _) ⟨hz,its,0,hv,uH _ rfl⟩
theorem Inv.fresh(I:Inv X pins σ H s):H s.heap.objs.size=none:=I.hok.fresh (tw _)
theorem Inv.cj(I:Inv X pins σ H s)(hH:H l=Gc (.lst xs)):xs.length<=sizeLine/\∃(its:KE tW) (n:Nat),Vals xs its/\xs.length=its.length/\s.heap.get? l=Gc {cls:=.type "list",data:=.seq its.toArray n}:=by
 obtain⟨z,its,n,r,e⟩:=I.hok l _ hH
 exact⟨z,its,n,r,r.length,e⟩
theorem QY{n:Nat}(h:n<=sizeLine):vw n=false:=by
 unfold vw
 exact xG (by lia)
end
section
variable{X:Cx}
def dY:V->KE V->Hp->VK->Prop:=λx vs H Q=>∃l xs y,x=.ref l/\vs=[y]/\H l=Gc (.lst xs)/\xs.length<sizeLine/\Q .non (upd H l (.lst (xs++[y])))
theorem Rf:MtM X "list.append" dY:=by
 intro pins s σ H x vs v us Q I rx rv h
 obtain⟨l,xs,y,rfl,rfl,hH,hz,q⟩:=h
 cases rx
 obtain⟨u,rfl,ru⟩:=rv.one
 obtain⟨z,its,n,r,hl,e⟩:=I.cj hH
 refine yx ue ⟨_,e,rfl⟩ F.entry_list_append (F.args_list_append_2 _ _) (PySem.list_append l its.toArray n u (by rw[uM];lia)) ⟨e,?_⟩
 refine⟨.non,_,I.oF (its':=its++[u]) hH e (by simp) (r.append (.cons ru .nil)) ?_,rfl,q⟩
 rw[vL,AAq]
 lia
def eP:V->KE V->Hp->VK->Prop:=λx vs H Q=>∃l b xs zs,x=.ref l/\vs=[.ref b]/\H l=Gc (.lst xs)/\H b=Gc (.lst zs)/\xs.length+zs.length<=sizeLine/\Q .non (upd H l (.lst (xs++zs)))
theorem Xo:MtM X "list.extend" eP:=by
 intro pins s σ H x vs v us Q I rx rv h
 obtain⟨l,b,xs,zs,rfl,rfl,hH,hB,hz,q⟩:=h
 cases rx
 obtain⟨u,rfl,ru⟩:=rv.one
 cases ru
 obtain⟨z,its,n,r,hl,e⟩:=I.cj hH
 obtain⟨z2,its2,n2,r2,hl2,e2⟩:=I.cj hB
 have hsz:its.toArray.size+its2.toArray.size<=sizeLine:=by rw[uM,uM];lia
 have hlong:¬(!its.toArray.isEmpty && vw (its.toArray.size+its2.toArray.size))=true:=by
  rw[QY hsz,Bool.and_false]
  exact vC
 refine yx zA ⟨_,e,rfl⟩ ABK (AAx _ _)
  (AutoSeq1.list_extend_list_list_0 l its.toArray n b its2.toArray n2 hlong (by rw[uM];lia) (by lia)) ⟨e,e2,?_⟩
 refine⟨.non,_,I.oF (its':=its++its2) hH e (by simp) (r.append r2) ?_,rfl,q⟩
 rw[vL]
 lia
noncomputable def rA:R2:=λx y H Q=>∃l b xs zs,x=.ref l/\y=.ref b/\H l=Gc (.lst xs)/\H b=Gc (.lst zs)/\xs.length+zs.length<=sizeLine/\∀p,H p=none->Q (.ref p) (upd H p (.lst (xs++zs)))
theorem i9:OpR X (binaryOp .Add) rA:=by
 intro pins s σ H x y v u Q I rx ry h
 obtain⟨l,b,xs,zs,rfl,rfl,hH,hB,hz,q⟩:=h
 cases rx
 cases ry
 obtain⟨z,its,n,r,hl,e⟩:=I.cj hH
 obtain⟨z2,its2,n2,r2,hl2,e2⟩:=I.cj hB
 refine PySem.P.add_list e e2 ?_ (by rw[uM,uM];lia)
 have ea:its.toArray++its2.toArray=(its++its2).toArray:=by simp
 rw[ea]
 exact⟨.ref _,_,I.qK (t':=s.toks) (r.append r2) (by rw[vL];lia),rfl,q _ I.fresh⟩
noncomputable def qt:R2:=λx y H Q=>∃l k xs,x=.ref l/\y=.int k/\H l=Gc (.lst xs)/\ -(2^63)<=k/\k<2^63/\xs.length*k.toNat<=sizeLine/\
 ∀p,H p=none->Q (.ref p) (upd H p (.lst (uQ k.toNat xs).flatten))
theorem len_rep{α:Type}(xs:KE α)(k:Nat):(uQ k xs).flatten.length=k*xs.length:=by
 induction k with
 |zero=>simp
 |succ k ih=>rw[vd,xK,vL,ih,Nat.succ_mul,AAU]
theorem jz:OpR X (binaryOp .Mult) qt:=by
 intro pins s σ H x y v u Q I rx ry h
 obtain⟨l,k,xs,rfl,rfl,hH,h1,h2,hz,q⟩:=h
 cases rx
 obtain⟨t,rfl⟩:=ry
 obtain⟨z,its,n,r,hl,e⟩:=I.cj hH
 have hlen:its.toArray.size*k.toNat<=sizeLine:=by rw[uM,<-hl];exact hz
 have hcap:¬its.toArray.size*k.toNat>(2^63-1) / 8:=by
  have:(sizeLine:Nat)<=(2^63-1) / 8:=by decide
  lia
 have hfit:¬(!Builtin.List.listFitsIndex k)=true:=by
  rw[fitsIndex_both h1 h2]
  exact vC
 have hlong:¬vw (its.toArray.size*k.toNat)=true:=by
  rw[QY hlen]
  exact vC
 have hnew:ABX (λx1 x2=>x1++x2) #[] (uQ (if its.toArray.isEmpty=true then 0 else k.toNat) its.toArray)=(uQ k.toNat its).flatten.toArray:=by
  have f0:∀m:Nat,ABX (λx1 x2=>x1++x2) #[] (uQ m its.toArray)=(uQ m its).flatten.toArray:=λm=>by
   have:=foldl_rep its m []
   rw[uV]at this
   exact this
  rw[f0]
  cases its with
  |nil=>simp
  |cons a r'=>rw[uh (by simp)]
 refine yM (T:="list") (U:="int") (by decide) ⟨_,e,rfl⟩ (λs'=>yw s' k t) noFill_list_mul AAk xr repeat_list AAJ.lookup
  (yx xr (yw s k t) AAK (zu _ _) (int___rmul___int_list k t l its.toArray n)
    ⟨e,rfl,⟨_,e,rfl⟩,yx F.slot_list_mul ⟨_,e,rfl⟩ F.entry_list_mul (F.args_list_mul_2 _ _) (AutoListH.list___mul___list_int_3 l its.toArray n k t hfit hcap hlong) ⟨e,?_⟩⟩)
 rw[hnew]
 exact⟨.ref _,_,I.qK (t':=s.toks) (r.rep k.toNat) (by rw[len_rep,xg];exact hz),rfl,q _ I.fresh⟩
end
section
variable{prog:uT}{w:ur}{A:u5}{E:tW->tZ->Prop}{s:tZ}
end
section
variable{X:Cx}
end
end L2
namespace Att
open PySem PySem.W PySem.Calls PyProof.Rows
theorem ints_of_wellAll{P:Params}{h:uz}:∀(ns:KE Int) (vs:KE tW),WellAll P h vs (ns.map WData.int)->wM vs ns:=by
 intro ns
 induction ns with
 |nil=>
  intro vs w
  rw[u4]at w
  cases w
  exact .nil
 |cons n ns ih=>
  intro vs w
  rw[t8]at w
  cases w with
  |cons a b=>
   cases a
   exact .cons _ _ (ih _ b)
theorem script_of{l:zB}{n:Nat}(hn:l.most=Gc n){P:Params}{h:uz}{args:KE WData}{vals:KE tW}(hpre:l.row.toRowW.claim.pre args=true)(hwl:WellAll P h vals args):∃a vs ns,vals=[vN a]/\args=[WData.list (ns.map WData.int)]/\h.get? a=Gc {cls:=.type "list",data:=.seq vs.toArray}/\wM vs ns/\ns.length<=n:=by
 have hsh:WShape.hasAll [] args [.list .int]=true:=(pre_splitW hpre).1
 have hc:l.pre.holds [] {args:=args}=true:=(pre_splitW hpre).2
 obtain⟨d,r,rfl,h1,h2⟩:=hasAllW_cons hsh
 obtain rfl:=hasAllW_nil h2
 obtain⟨xs,rfl,h3⟩:=hasW_list h1
 obtain⟨ns,rfl⟩:=items_int h3
 have hlen:ns.length<=n:=by
  unfold OpenLaw.pre at hc
  have h4:(WTm.not (.lt (.lit (.int (n:Int))) (.len (.arg 0)))).holds [] {args:=[.list (ns.map .int)]}=true:=by
   have h4:=(holds_andW hc).1
   rw[hn]at h4
   exact h4
  have h5:=condW_of h4 (w_not (w_lt w_lit (w_len_list (w_arg rfl))))
  rw[uX]at h5
  refine Nat.le_of_not_lt λq=>?_
  have q':(n:Int)<((ns.length:Nat):Int):=by lia
  first
   |(rw[wK q']at h5;exact absurd h5 (by decide))
   |(simp at h5;lia)
 cases hwl with
 |cons w1 w2=>
  cases w2
  cases w1 with
  |list ho hall=>exact⟨_,_,ns,rfl,rfl,ho,ints_of_wellAll ns _ hall,hlen⟩
theorem post_true(l:zB)(args:KE WData):l.row.toRowW.claim.post args (.bool true) args=true:=
 postW_of (r:=l.row.toRowW) (X:=(true==true))
  (show WShape.has [] (.bool true) .bool=true by first|rfl|decide|simp[WShape.has,WShape.arms,WShape.armsAll])
  (show(WTm.eq .res (.lit (.bool true))).value [] {args:=args,res:=Gc (.bool true),after:=args}=Gc (.bool (true==true))from w_eq_bool (w_res rfl) w_lit) rfl
theorem attach_call{l:zB}{n:Nat}{q:uT}{loose:KE Str}{XP:(Str->tY tW)->uz->Prop}{YP:ur->uz->Prop}{d:DefRec}(hn:l.most=Gc n)(hdf:d.params.defaults=[])(call:∀(w:ur) (s₀ s₁:tZ) (mg mb:Str->tY tW) (fa:uC) (o:Obj) (pm cd doc:tW) (a:uC) (vs:KE tW) (ns:KE Int),Ground q loose [] XP w s₀ mg mb s₁.heap->YP w s₁.heap->s₁.heap.get? fa=Gc o->o.data=.func (docDef d.name d.params d.body d.scope pm cd doc)->s₁.heap.CodeRec cd d.name->mg d.name=Gc (.ref fa)->s₁.heap.get? a=Gc {cls:=.type "list",data:=.seq vs.toArray}->wM vs ns->ns.length<=n->s₁.gens= #[]->codeAny (model l.prog w) callerA (.call (.ref fa) ⟨[.ref a],[]⟩) (λr s'=>r=.ok (.ret (.bool true))/\OldK s₁.heap s'.heap/\s'.os=s₁.os/\zq s'.gens) s₁):WalkO q loose XP YP l.row.toRowW d [] (λf vs=>PySem.call f vs):=by
 intro w s₀ s₁ mg mb G Y fa o pm cd doc dV kV ho hd hcd hD hmg hg args vals as hpre hlay hrd hwl hlo
 obtain rfl:dV=.none:=Dflts.none hD hdf
 obtain rfl:kV=.none:=Dflts.noKw hD
 obtain⟨a,vs,ns,rfl,rfl,hobj,hints,hlen⟩:=script_of hn hpre hwl
 refine enter_call (yg (call w s₀ s₁ mg mb fa o pm cd doc a vs ns G Y ho (fd_plain hd) hcd hmg hobj hints hlen hg) λr s' hq=>?_)
 obtain⟨rfl,h2,h3,h4⟩:=hq
 exact⟨.inl ⟨.bool true,.bool true,[],rfl,λ_=>rfl,.bool true,post_true l _,λ_=>⟨zv,λ_ hm=>(nomatch hm)⟩⟩,h2,h3,h4⟩
section
variable{prog:uT}{w:ur}{A:u5}{E:tW->tZ->Prop}{s:tZ}{K:tU}
end
end Att
namespace L2
open PySem PySem.Spec PyProof.Rows
theorem R5:∀{vs:KE tW} {ns:KE Int},wM vs ns->Vals (ns.map V.int) vs
 |_,_,.nil=>.nil
 |_,_,.cons n t h=>.cons ⟨t,rfl⟩ (R5 h)
def nL(H:Hp):Prop:=∀b,H b=none\/∃o xs,H b=Gc (.frz o (.lst xs))
theorem ax{P:uT}{w:ur}{K:tU}{mg mb:Str->tY tW}{CX:CXT}{k:Nat}{fa a:uC}{fd:wX}{x:Str}{sp:Sp}{s₁:tZ}{vs:KE tW}{ns:KE Int}(KX:K.In s₁.heap)(hns:s₁.heap.Ns mainGlobals mg)(hb:s₁.heap.Ns builtinsNs mb)(hbb:∀x:Str,x≠ "__name__"->mb x=bootBuiltins x)(hlim:s₁.heap.NoLimit)(hg:s₁.gens= #[])(ha:s₁.heap.get? a=Gc {cls:=.type "list",data:=.seq vs.toArray})(hi:wM vs ns)(hl:ns.length<=sizeLine)(hr:Ol k callerA)(F:∀base:uz,K.In base->base.Ns mainGlobals mg->Rm P w K mg base CX k fa fd [x] sp)(hbind:∀(s:tZ) (u:tW),BindsTo s fd ⟨[u],[]⟩ [(x,u)])(hsp:∀H:Hp,nL H->SqL K H a (ns.map V.int)->sp [.ref a] H (λv _=>v=.bl true) λ_ _ _=>xy)(hCX:∀H e s',CX [] H s₁ (λ_ _ _=>xy) e s'->xy):codeAny (model P w) callerA (.call (.ref fa) ⟨[.ref a],[]⟩) (λr s'=>r=.ok (.ret (.bool true))/\OldK s₁.heap s'.heap/\s'.os=s₁.os/\zq s'.gens) s₁:=by
 have rv:=R5 hi
 have lenV:=hi.length
 have core:∀H:Hp,nL H->SqL K H a (ns.map V.int)->HOk P w H s₁.heap->(∀b,H b≠none->b=a)->(H a≠none->K.lookup a=none)->
   codeAny (model P w) callerA (.call (.ref fa) ⟨[.ref a],[]⟩) (λr s'=>r=.ok (.ret (.bool true))/\OldK s₁.heap s'.heap/\s'.os=s₁.os/\zq s'.gens) s₁:=by
  intro H hO hS hok hA hK
  have base_of:∀{b:uC} {o:Obj},s₁.heap.get? b=Gc o->H b=none->(bI s₁.heap H).get? b=Gc o:=λe n=>bT e n
  have noA:∀{b:uC} {o:Obj} {es:uu DictEntry} {ep:Nat},s₁.heap.get? b=Gc o->o.data=.dict es ep->H b=none:=λ{b o es ep} e d=>by
   cases q:H b with
   |none=>rfl
   |some u=>
    have e':b=a:=hA b (by rw[q];simp)
    subst e'
    rw[ha]at e;cases e
    have d':Data.seq vs.toArray _=Data.dict es ep:=d
    cases d'
  have nsK:∀{b:uC} {m:Str->tY tW},s₁.heap.Ns b m->(bI s₁.heap H).Ns b m:=λ{b m} ⟨o,es,ep,e,d,r⟩=>⟨o,es,ep,base_of e (noA e d),d,r⟩
  have hKb:K.In (bI s₁.heap H):=λb o e=>base_of (KX b o e) (by
   cases q:H b with
   |none=>rfl
   |some u=>
    have e':b=a:=hA b (by rw[q];simp)
    subst e'
    rw[hK (by rw[q];simp)]at e;cases e)
  have hM:Mod K mg (bI s₁.heap H):=⟨hKb,nsK hns,⟨mb,nsK hb,hbb⟩,let⟨mc,h1,h2⟩:=hlim;⟨mc,nsK h1,h2⟩⟩
  have e0:kS P w K mg (bI s₁.heap H) callerA [] s₁ H:=⟨rfl,hM,λb o e=>eF e,Nat.le_of_eq (WM _ _),trivial,λb hb=>absurd (show b∈([]:KE uC)from hb) (by simp),hok,.of_eq hg⟩
  refine yg ((F _ hKb (nsK hns)).run callerA [] s₁ H ⟨[.ref a],[]⟩ [.ref a] [.ref a] _ _ hr e0 (hbind s₁ (.ref a)) (.cons rfl .nil) (hsp H hO hS)) λr s' h=>?_
  cases r with
  |error e=>exact(hCX H e s' h).elim
  |ok fl=>
   cases fl with
   |next=>exact xc h
   |brk=>exact xc h
   |cont=>exact xc h
   |ret u=>
    obtain⟨v,H',os,bare,un,hok',r',q⟩:=h
    have q':v=.bl true:=q
    subst q'
    obtain rfl:u=Value.bool true:=r'
    refine⟨rfl,OldK.of_keep λb o e=>?_,os,bare⟩
    cases q:H b with
    |none=>exact un.keep b o e q (by intro z;exact absurd (show b∈([]:KE uC)from z) (by simp)) (by simp)
    |some u=>
     rcases hO b with z|⟨ob,xs,z⟩
     .rw[q]at z;cases z
     .have z2:=un.Z3 b ob _ z
      obtain⟨e1,_⟩:=hok b _ z
      obtain⟨e2,_⟩:=hok' b _ z2
      rw[e]at e1;cases e1
      exact e2
 cases hk:K.lookup a with
 |some o=>
  have e:=KX a o hk
  rw[ha]at e
  cases e
  refine core (λ_=>none) (λ_=>.inl rfl) (.inr ⟨_,vs.toArray,_,hk,rfl,rfl,rfl,by rw[uM,lenV];exact hl,by simpa using rv⟩) (λb u z=>by have z':(none:tY HO)=Gc u:=z;cases z') (λb z=>absurd rfl z) λz=>absurd rfl z
 |none=>
  refine core (λb=>if b=a then Gc (.frz {cls:=.type "list",data:=.seq vs.toArray} (.lst (ns.map V.int)))else none) (λb=>?_) (.inl (.inr ⟨{cls:=.type "list",data:=.seq vs.toArray},uZ rfl⟩)) (λb u z=>?_) (λb z=>?_) λ_=>hk
  .by_cases hb:b=a
   .exact .inr ⟨_,_,uZ hb⟩
   .exact .inl (uh hb)
  .by_cases hb:b=a
   .have z':=(uZ hb).symm.trans z
    cases z'
    subst hb
    exact⟨ha,by rw[uX];exact hl,vs,_,rv,ha⟩
   .have z':=(uh hb).symm.trans z
    cases z'
  .by_cases hb:b=a
   .exact hb
   .exact absurd (uh hb) z
end L2
namespace L2
open PySem PySem.Spec PyProof.Rows
abbrev KOf{K:tU}{h:uz}(_:K.In h):tU:=K
theorem du{l:zB}{n k:Nat}{q:uT}{loose:KE Str}{XP:(Str->tY tW)->uz->Prop}{YP:ur->uz->Prop}{d:DefRec}{K:Params->tU}{CX:ur->CXT}{sp:ur->Sp}{x:Str}(hn:l.most=Gc n)(hn2:n<=sizeLine)(hdf:d.params.defaults=[])(hr:Ol k callerA)(hY:∀(w:ur) (h:uz),YP w h->(K w.params).In h)(F:∀(w:ur) (mg:Str->tY tW) (fa:uC) (h:uz),(K w.params).In h->h.Ns mainGlobals mg->mg d.name=Gc (.ref fa)->∃fd:wX,(∀(s:tZ) (u:tW),BindsTo s fd ⟨[u],[]⟩ [(x,u)])/\∀base:uz,(K w.params).In base->base.Ns mainGlobals mg->Rm l.prog w (K w.params) mg base (CX w) k fa fd [x] (sp w))(hsp:∀(w:ur) (H:Hp) (a:uC) (ns:KE Int),ns.length<=n->nL H->SqL (K w.params) H a (ns.map V.int)->sp w [.ref a] H (λv _=>v=.bl true) λ_ _ _=>xy)(hCX:∀(w:ur) (H:Hp) (s:tZ) (e:tW) (s':tZ),CX w [] H s (λ_ _ _=>xy) e s'->xy):PySem.W.WalkO q loose XP YP l.row.toRowW d [] (λf vs=>PySem.call f vs):=by
 refine Att.attach_call hn hdf λw s₀ s₁ mg mb fa o pm cd doc a vs ns G Y ho hd hcd hmg hobj hints hlen hg=>?_
 have KX:=hY w _ Y
 obtain⟨fd,hb,hF⟩:=F w mg fa _ KX G.T.g hmg
 exact ax KX G.T.g G.T.b G.T.builtins G.T.nolimit hg hobj hints (uA hlen hn2) hr hF hb (λH hO hS=>hsp w H a ns hlen hO hS) λH e s'=>hCX w H s₁ e s'
end L2
namespace L2
open PySem PySem.Spec PyProof.Rows
noncomputable def OQ(s:vE):Arguments:=match s with
 | .FunctionDef _ a _ _ _ _ _ _ _ _=>a
 |_=>{posonlyargs:=[],args:=[],vararg:=none,kwonlyargs:=[],kw_defaults:=[],kwarg:=none,defaults:=[]}
noncomputable def Hb(s:vE):KE vE:=match s with
 | .FunctionDef _ _ b _ _ _ _ _ _ _=>b
 |_=>[]
noncomputable def AH(s:vE):xC:=match s with
 | .FunctionDef _ _ _ _ _ _ sc _ _ _=>sc
 |_=>{kind:=.function,names:=[],isGenerator:=false,isCoroutine:=false}
abbrev CX0:CXT:=λ_ _ _ _ _ _=>xy
abbrev E0:XK:=λ_ _ _=>xy
theorem pJ{X:Cx}:Passes CX0 X E0:=λ_ _ _ _ _ _ _ h=>h.elim
structure Fun(K:tU)(x qual:Str)(st:vE)(f:uC)(fd:wX):Prop where
 ex:∃(oc:tW) (od:tY uC) (kV doc pm:tW) (an:tY uC) (cdv ct:tW) (osl:uu (tY tW)),
  fd=yG x qual (OQ st) (Hb st) (AH st) .none kV doc pm an cdv ct/\K.lookup f=Gc ⟨oc,od,.func fd,osl⟩/\zV K cdv qual=true
 kp:wt K (.ref f)=true
section
variable{P:uT}{w:ur}{K:tU}{mg:Str->tY tW}{base:uz}
theorem Fun.ok{x qual:Str}{st:vE}{f:uC}{fd:wX}{N ps:KE Str}{k:Nat}{sp:Sp}(F:Fun K x qual st f fd)(S:AS N ps (AH st))(len:∀vs H Q E,sp vs H Q E->vs.length=ps.length)(hbody:∀(cdv:tW) (A:u5) (outer:KE Env) (s:tZ) (H:Hp) (vs:KE V) (Q:VK) (E:XK),Ol k (A.deeper (envOfC qual (AH st) s.heap.objs.size f cdv))->sp vs H Q E->∃t,PSs (ZD CX0 P w K mg base N qual (AH st) f cdv A outer s H E).nox (Hb st) t/\t {nx:=λ_ H'=>Q .non H',rt:=Q} (start N vs) H):Rm P w K mg base CX0 (k+1) f fd ps sp:=by
 obtain⟨oc,od,kV,doc,pm,an,cdv,ct,osl,rfl,lk,hcd⟩:=F.ex
 refine oH lk hcd S len λA outer s H vs Q E hr hsp=>?_
 obtain⟨t,h,q⟩:=hbody cdv A outer s H vs Q E hr hsp
 exact⟨t,h.nox,q⟩
theorem Fun.binds{x qual:Str}{st:vE}{f:uC}{fd:wX}{ps:KE Str}(F:Fun K x qual st f fd)(h:∀(kV doc pm:tW) (an:tY uC) (cdv ct:tW) (us:KE tW),us.length=ps.length->bindArgs (yG x qual (OQ st) (Hb st) (AH st) .none kV doc pm an cdv ct) ⟨us,[]⟩=pure (ps.zip us)):Binds K fd ps []:=by
 obtain⟨oc,od,kV,doc,pm,an,cdv,ct,osl,rfl,lk,hcd⟩:=F.ex
 exact .all (h kV doc pm an cdv ct)
theorem jB{x qual:Str}{st:vE}{f:uC}{oc:tW}{od an:tY uC}{osl:uu (tY tW)}{kV doc pm cdv ct:tW}(l:K.lookup f=Gc ⟨oc,od,.func (yG x qual (OQ st) (Hb st) (AH st) .none kV doc pm an cdv ct),osl⟩)(c:zV K cdv qual=true)(k:wt K (.ref f)=true):Fun K x qual st f (yG x qual (OQ st) (Hb st) (AH st) .none kV doc pm an cdv ct):=⟨⟨oc,od,kV,doc,pm,an,cdv,ct,osl,rfl,l,c⟩,k⟩
end
section
variable{X:Cx}
end
theorem eR{A B:Prop}(h:B):if false=true then A else B:=by
 rw[uh vC]
 exact h
theorem gZ{A B:Prop}(h:A):if true=true then A else B:=by
 rw[uZ rfl]
 exact h
def Bv(H H':Hp):Prop:=∀b o,H b=Gc o->H' b=Gc o
end L2
end
noncomputable section
namespace L2
open PySem PySem.Spec PyProof.Rows
noncomputable def Ij(cells:KE (Str×uC)):KE (Str×xp)->KE (Str×uC)->KE (Str×uC)
 | [],cs=>cs
 |(n,k)::r,cs=>if(k==vW)=true then Ij cells r ((n,(cells.lookup n).getD 0)::cs)else Ij cells r cs
theorem Rx{env:Env}:∀(names:KE (Str×xp)) (cs:KE (Str×uC)),(∀y∈names,y.2=.free->∃a,env.cells.lookup y.1=Gc a)->(forIn names cs λ(x:Str×xp) r=>match x with|(name,kind)=>if(kind==vW)=true then(do let a<-cellOf env name;pure (zH ((name,a)::r)))else pure (zH r):Sem (KE (Str×uC)))=pure (Ij env.cells names cs)
 | [],cs,_=>by simp[Ij]
 |(n,k)::r,cs,h=>by
  rw[AAl]
  have ih:=λcs=>Rx r cs λy hy=>h y (tf _ hy)
  by_cases hk:(k==vW)=true
  .obtain⟨a,ha⟩:=h (n,k) uD (by simpa using hk)
   have ha':env.cells.lookup n=Gc a:=ha
   have e:cellOf env n=pure a:=by unfold cellOf;rw[ha']
   simp only[hk,yj,e,pure_bind,Ij,ha',Option.getD_some]
   exact ih _
  .simp only[hk,yi,pure_bind,Ij]
   exact ih _
theorem UD{scope:xC}{env:Env}(h:∀y∈scope.names,y.2=.free->∃a,env.cells.lookup y.1=Gc a):closureFor scope env=pure (Ij env.cells scope.names []):=by
 unfold closureFor
 have:=Rx (env:=env) scope.names [] h
 simp only[bind_pure]at this⊢
 exact this
theorem N8{cells:KE (Str×uC)}{x:Str}{c:uC}:∀{names:KE (Str×xp)} {cs:KE (Str×uC)},(∀y∈names,y.2=.free->∃a,cells.lookup y.1=Gc a)->(Ij cells names cs).lookup x=Gc c->cs.lookup x=Gc c\/cells.lookup x=Gc c
 | [],cs,_,h=>.inl h
 |(n,k)::r,cs,hh,h=>by
  have hr:∀y∈r,y.2=.free->∃a,cells.lookup y.1=Gc a:=λy hy=>hh y (tf _ hy)
  unfold Ij at h
  by_cases hk:(k==vW)=true
  .rw[uZ hk]at h
   rcases N8 hr h with q|q
   .obtain⟨a,ha⟩:=hh (n,k) uD (by simpa using hk)
    have ha':cells.lookup n=Gc a:=ha
    rw[vy]at q
    cases hx:x==n with
    |true=>
     rw[hx,ha']at q
     have e:x=n:=by simpa using hx
     subst e
     cases q
     exact .inr ha'
    |false=>
     rw[hx]at q
     exact .inl q
   .exact .inr q
  .rw[uh hk]at h
   exact N8 hr h
theorem Lf{cells:KE (Str×uC)}{x:Str}:∀{names:KE (Str×xp)} {cs:KE (Str×uC)},((x,vW)∈names\/∃c,cs.lookup x=Gc c)->∃c,(Ij cells names cs).lookup x=Gc c
 | [],cs,h=>h.elim (λz=>nomatch z) id
 |(n,k)::r,cs,h=>by
  unfold Ij
  by_cases hk:(k==vW)=true
  .rw[uZ hk]
   refine Lf ?_
   by_cases hx:x=n
   .subst hx
    exact .inr ⟨_,by rw[vy,beq_self_eq_true]⟩
   .rcases h with h|⟨c,h⟩
    .rcases uF.mp h with e|e
     .cases e;exact absurd rfl hx
     .exact .inl e
    .refine .inr ⟨c,?_⟩
     rw[vy,show(x==n)=false by simpa using hx]
     exact h
  .rw[uh hk]
   refine Lf ?_
   rcases h with h|h
   .rcases uF.mp h with e|e
    .cases e;exact absurd rfl hk
    .exact .inl e
   .exact .inr h
theorem Mj{env:Env}{x:Str}:∀{names:KE (Str×xp)},names.lookup x=Gc .free->(names.map λ(n,k)=>if(k==vW && env.scope.kind== .function && env.kindOf n==Gc .cell)then(n,xv)else(n,k)).lookup x=Gc .cell\/(names.map λ(n,k)=>if(k==vW && env.scope.kind== .function && env.kindOf n==Gc .cell)then(n,xv)else(n,k)).lookup x=Gc .free
 | [],h=>by simp at h
 |(n,k)::r,h=>by
  have ih:= @Mj env x r
  show List.lookup x ((if(k==vW && env.scope.kind== .function && env.kindOf n==Gc .cell)=true then(n,xv)else(n,k))::_)=_\/List.lookup x ((if(k==vW && env.scope.kind== .function && env.kindOf n==Gc .cell)=true then(n,xv)else(n,k))::_)=_
  cases hx:x==n with
  |true=>
   simp only[vy,hx]at h
   cases h
   by_cases hc:(vW==vW && env.scope.kind== .function && env.kindOf n==Gc .cell)=true
   .rw[uZ hc];simp only[vy,hx];exact .inl trivial
   .rw[uh hc];simp only[vy,hx];exact .inr trivial
  |false=>
   simp only[vy,hx]at h
   by_cases hc:(k==vW && env.scope.kind== .function && env.kindOf n==Gc .cell)=true
   .rw[uZ hc];simp only[vy,hx];exact ih h
   .rw[uh hc];simp only[vy,hx];exact ih h
theorem OO{env:Env}{scope:xC}{x:Str}{k':xp}(hk:k'=.cell\/k'=.free)(h:(relabel scope env).names.lookup x=Gc k'):(x,vW)∈scope.names\/(x,xv)∈scope.names:=by
 have hm:=vP h
 obtain⟨⟨n,k⟩,hy,e⟩:=um.mp (show(x,k')∈scope.names.map _ from hm)
 by_cases hc:(k==vW && env.scope.kind== .function && env.kindOf n==Gc .cell)=true
 .simp only[hc,yj]at e
  cases e
  have:k=.free:=by
   have:=((uP _ _).mp hc).1
   exact yV.mp ((uP _ _).mp this).1
  subst this
  exact .inl hy
 .simp only[hc,yi]at e
  cases e
  rcases hk with rfl|rfl
  .exact .inr hy
  .exact .inl hy
theorem Ce:∀(names:KE (Str×xp)) (n:Nat) (cs:KE (Str×uC)),cellsFrom n names cs=cellsFrom n names []++cs
 | [],_,_=>rfl
 |(x,k)::r,n,cs=>by
  unfold cellsFrom
  split
  .rw[Ce r _ ((x,n)::cs),Ce r _ [(x,n)]];simp
  .exact Ce r n cs
theorem IV{x:Str}{c:uC}:∀{names:KE (Str×xp)} {n:Nat},(x,c)∈cellsFrom n names []->(x,xv)∈names
 | [],_,h=>nomatch h
 |(y,k)::r,n,h=>by
  unfold cellsFrom at h
  split at h
  .rename_i hk
   rw[Ce]at h
   rcases uU.mp h with z|z
   .exact tf _ (IV z)
   .have e:=uk.mp z
    cases e
    rw[yV.mp hk]
    exact uD
  .exact tf _ (IV h)
theorem MD{M:Model}{A:u5}{E:tW->tZ->Prop}{s:tZ}{scope:xC}{globals:uC}{cl:KE (Str×uC)}{qual:Str}{env:Env}{Q:Env->tZ->Prop}(hQ:∀h':uz,h'.Ns s.heap.objs.size (λ_=>none)->(∀b o,s.heap.get? b=Gc o->h'.get? b=Gc o)->CellsOk h' (s.heap.objs.size+1) (cellsFrom (s.heap.objs.size+1) scope.names [])->Q (newEnv scope s.heap.objs.size globals (cellsFrom (s.heap.objs.size+1) scope.names cl) qual none .none (Gc env) builtinsNs) {s with heap:=h'}):wpAny M A (newFunctionEnv scope globals cl [] qual none .none (Gc env)) Q E s:=by
 simp only[newFunctionEnv,ABY,yj]
 refine Wp (wpAny_alloc ?_)
 refine Wp (wpAny_layCells _ (λname kind cells=>by cases hkc:kind==xv<;>simp[hkc]) _ _ _ _ ?_)
 have ok:=cellsFrom_ok scope.names (s.heap.push {cls:=.type "dict",data:=.dict #[]}) (s.heap.objs.size+1) [] ⟨λ_ _ hm=>(nomatch hm),zv⟩ (by rw[uo];exact tw _)
 rw[uo]at ok
 rw[show({s with heap:=s.heap.push {cls:=.type "dict",data:=.dict #[]}}:tZ).heap.objs.size=s.heap.objs.size+1 from uo ..]
 rw[AAy]
 refine Wp (tq (tq ?_))
 exact hQ _ ((Heap.Ns.new s.heap (.type "dict")).keeps (pushCells_keeps _ _)) (λb o e=>pushCells_keeps _ _ b o (tV _ e)) ok
end L2
end
noncomputable section
namespace L2
open PySem PySem.Spec PyProof.Rows
noncomputable def Uz(N:KE Str)(osc scope:xC):KE Str->KE (tY Nat)->uv
 | [],[]=>true
 |_::r,none::q=>Uz N osc scope r q
 |x::r,Gc i::q=>decide (N[i]?=Gc x) && (decide (osc.names.lookup x=Gc .cell)||decide (osc.names.lookup x=Gc .free)) && decide (scope.names.lookup x=Gc .free) && Uz N osc scope r q
 |_,_=>false
theorem YN{N:KE Str}{osc scope:xC}:∀{N':KE Str} {ix:KE (tY Nat)},Uz N osc scope N' ix=true->ix.length=N'.length
 | [],[],_=>rfl
 |_::r,none::q,h=>by
  unfold Uz at h
  simp[YN h]
 |x::r,Gc i::q,h=>by
  unfold Uz at h
  have:=((uP _ _).mp h).2
  simp[YN this]
 | [],_::_,h=>by simp[Uz]at h
 |_::_,[],h=>by simp[Uz]at h
theorem fU{N:KE Str}{osc scope:xC}:∀{N':KE Str} {ix:KE (tY Nat)},Uz N osc scope N' ix=true->∀{j i:Nat} {x:Str},N'[j]?=Gc x->ix[j]?=Gc (Gc i)->N[i]?=Gc x/\(osc.names.lookup x=Gc .cell\/osc.names.lookup x=Gc .free)/\scope.names.lookup x=Gc .free
 | [],[],_,j,_,_,h,_=>by simp at h
 |_::r,none::q,h,j,i,x,h1,h2=>by
  unfold Uz at h
  cases j with
  |zero=>simp at h2
  |succ j=>exact fU h (by simpa using h1) (by simpa using h2)
 |y::r,Gc k::q,h,j,i,x,h1,h2=>by
  unfold Uz at h
  obtain⟨ha,hr⟩:=(uP _ _).mp h
  obtain⟨ha,h3⟩:=(uP _ _).mp ha
  obtain⟨h4,h5⟩:=(uP _ _).mp ha
  cases j with
  |zero=>
   simp at h1 h2
   subst h1 h2
   refine⟨uO h4,?_,uO h3⟩
   rcases(vc _ _).mp h5 with z|z
   .exact .inl (uO z)
   .exact .inr (uO z)
  |succ j=>exact fU hr (by simpa using h1) (by simpa using h2)
 | [],_::_,h,_,_,_,_,_=>by simp[Uz]at h
 |_::_,[],h,_,_,_,_,_=>by simp[Uz]at h
structure AY(N:KE Str)(osc:xC)(N':KE Str)(ix:KE (tY Nat))(scope:xC):Prop where
 kind:scope.kind=.function
 cells:∀y∈scope.names,y.2=.cell->scope.names.lookup y.1=Gc .cell
 names:∀y∈scope.names,y.2=.local->scope.names.lookup y.1=Gc .local
 free:∀y∈scope.names,y.2=.free->(osc.names.lookup y.1=Gc .cell\/osc.names.lookup y.1=Gc .free)
 ok:Uz N osc scope N' ix=true
noncomputable def sig(ix:KE (tY Nat))(σ:St):St:=ix.map λo=>o.bind λi=>(σ[i]?).join
noncomputable def JX(X:Cx)(N':KE Str)(scope:xC)(s:tZ)(H:Hp)(fp:KE uC):Cx where
 prog:=X.prog
 w:=X.w
 K:=X.K
 mg:=X.mg
 base:=X.base
 A:=X.A
 N:=N'
 s₀:=s
 H₀:=H
 env:=compEnvC scope (cellsFrom (s.heap.objs.size+1) scope.names (Ij X.env.cells scope.names [])) s.heap.objs.size X.env
 outer:=X.stack
 stack:=X.stack
 ex:=fp
 fn:=λx=>decide (scope.names.lookup x=Gc .cell)
 calm:=true
 pn:=[]
 xe:=λ_ _=>xy
section
variable{X:Cx}{pins:KE (uC×Obj)}{σ:St}{H:Hp}{s:tZ}{N':KE Str}{ix:KE (tY Nat)}{scope:xC}{fp:KE uC}
theorem Inv.cellsOf(I:Inv X pins σ H s)(S:AY X.N X.env.scope N' ix scope):∀y∈scope.names,y.2=.free->∃a,X.env.cells.lookup y.1=Gc a:=λy hy hk=>I.ok.has y.1 (S.free y hy hk)
theorem Zs(S:AY X.N X.env.scope N' ix scope)(hc:X.calm=true)(I:Inv X pins σ H s)(hf:∀b∈fp,Ss X pins H b)(hlt:∀b∈fp,b<s.heap.objs.size){h1:uz}{m1:Str->tY tW}{tk:Nat}(hn:h1.Ns s.heap.objs.size m1)(hk:∀b o,s.heap.get? b=Gc o->h1.get? b=Gc o)(hC:CellsOk h1 (s.heap.objs.size+1) (cellsFrom (s.heap.objs.size+1) scope.names [])):Inv (JX X N' scope s H fp) [] (sig ix σ) H {s with heap:=h1,toks:=tk}:=by
 have hcl:=I.cellsOf S
 have sub:∀{x:Str} {c:uC},(Ij X.env.cells scope.names []).lookup x=Gc c->X.env.cells.lookup x=Gc c:=λ{x c} h=>by
  rcases N8 hcl h with z|z
  .simp at z
  .exact z
 have old:∀{x:Str} {c:uC},X.env.cells.lookup x=Gc c->c<s.heap.objs.size:=λ{x c} h=>by
  obtain⟨v,oc,ho,_⟩:=I.cell x c h
  exact uK ho
 have look:∀{x:Str} {c:uC},(cellsFrom (s.heap.objs.size+1) scope.names (Ij X.env.cells scope.names [])).lookup x=Gc c->(x,c)∈cellsFrom (s.heap.objs.size+1) scope.names []\/X.env.cells.lookup x=Gc c:=λ{x c} h=>by
  rw[Ce,yW]at h
  cases e:(cellsFrom (s.heap.objs.size+1) scope.names []).lookup x with
  |some a=>rw[e]at h;cases h;exact .inl (vP e)
  |none=>rw[e]at h;exact .inr (sub h)
 refine⟨⟨I.ok.mod,S.kind,I.ok.glob,I.ok.blt,tw _,λx y c h1 h2=>?_,λx hx=>?_,λx c hx h=>?_,λ_=>I.ok.hd hc,I.ok.frames,.inl rfl,λb hb=>?_,I.bs,uA I.ok.bsz I.sz,λb o e hb=>?_,λb hb hs=>?_,I.stack,I.Wz⟩,
  rfl,I.bare,Un.kept hk,⟨m1,hn,λj x v h1 h2 h3=>?_⟩,λx c h=>?_,I.hok.fresh (tw _),λx c h=>?_,λp hp=>absurd (show p∈([]:KE (uC×Obj))from hp) (by simp),I.hok.kept hk,?_⟩
 . -- inj
   rcases look h1 with a|a<;>rcases look h2 with b|b
   .exact name_of_addr hC.apart a b
   .exact absurd (t9 (old b) (x5 (hC.empty _ _ a).2)) (vV _)
   .exact absurd (t9 (old a) (x5 (hC.empty _ _ b).2)) (vV _)
   .exact I.ok.inj x y c a b
 . -- has
   have hx':(relabel scope X.env).names.lookup x=Gc .cell\/(relabel scope X.env).names.lookup x=Gc .free:=hx
   show∃c,(cellsFrom (s.heap.objs.size+1) scope.names (Ij X.env.cells scope.names [])).lookup x=Gc c
   rw[Ce,yW]
   cases e:(cellsFrom (s.heap.objs.size+1) scope.names []).lookup x with
   |some a=>exact⟨a,rfl⟩
   |none=>
    rcases(hx'.elim (OO (.inl rfl)) (OO (.inr rfl)))with z|z
    .exact Lf (.inl z)
    .obtain⟨c,hc⟩:=NK (n:=s.heap.objs.size+1) (S.cells _ z rfl)
     rw[e]at hc;cases hc
 . -- cab
   obtain⟨c',hc'⟩:=NK (n:=s.heap.objs.size+1) (uO hx)
   have h:(cellsFrom (s.heap.objs.size+1) scope.names (Ij X.env.cells scope.names [])).lookup x=Gc c:=h
   rw[Ce,yW,hc']at h
   cases h
   exact x5 (hC.empty _ _ (vP hc')).2
 . -- exf
   refine⟨uR (hlt b hb),λx c h=>?_⟩
   rcases look h with a|a
   .exact λe=>absurd (t9 (e▸hlt b hb) (x5 (hC.empty _ _ a).2)) (vV _)
   .exact(hf b hb).2.2.2.2.1 x c a
 . -- dU
   rcases(hf b hb).2.2.2.1 with z|z
   .exact I.ok.dU b o e z
   .exact absurd (t9 (uK (I.ok.bs b o e).1) z) (vV _)
 . -- gg
   rcases uF.mp (I.XC b hs)with z|z
   .exact(hf b hb).2.1 z
   .exact(hf b hb).2.2.1 z
 . -- loc
   unfold sig at h2
   rw[uN]at h2
   cases e:ix[j]? with
   |none=>rw[e]at h2;cases h2
   |some o=>
    rw[e]at h2
    cases o with
    |none=>cases h2
    |some i=>
     have h2':(σ[i]?).join=Gc v:=by simpa using h2
     have h4:σ[i]?=Gc (Gc v):=by
      cases e4:σ[i]? with
      |none=>rw[e4]at h2';cases h2'
      |some q=>rw[e4]at h2';exact congrArg Gc h2'
     obtain⟨q1,q2,q3⟩:=fU S.ok h1 e
     obtain⟨m,_,hl⟩:=I.loc
     obtain⟨u,r,l⟩:=hl i x v q1 h4 (q2.elim (λz=>.inr (.inl z)) λz=>.inr (.inr z))
     refine⟨u,r,?_⟩
     rcases l with⟨l,_⟩|⟨_,c,lc,z⟩
     .have l':X.env.scope.names.lookup x=Gc .local:=l
      rcases q2 with z|z<;>(rw[z]at l';cases l')
     .refine .inr ⟨Mj q3,?_⟩
      obtain⟨c',hc'⟩:=Lf (cells:=X.env.cells) (cs:=[]) (.inl (vP q3))
      have ec:=sub hc'
      rw[lc]at ec
      cases ec
      have no:(cellsFrom (s.heap.objs.size+1) scope.names []).lookup x=none:=by
       cases e:(cellsFrom (s.heap.objs.size+1) scope.names []).lookup x with
       |none=>rfl
       |some a=>
        have q:=S.cells _ (IV (vP e)) rfl
        rw[q3]at q;cases q
      refine⟨c,(by show(cellsFrom (s.heap.objs.size+1) scope.names (Ij X.env.cells scope.names [])).lookup x=Gc c;rw[Ce,yW,no];exact hc'),?_⟩
      obtain⟨oc,ho,hd⟩:=z
      exact⟨oc,hk _ _ ho,hd⟩
 .rcases look h with a|a
  .exact⟨_,(hC.empty _ _ a).1⟩
  .obtain⟨v,oc,ho,hd⟩:=I.cell x c a
   exact⟨v,oc,hk _ _ ho,hd⟩
 .rcases look h with a|a
  .exact I.hok.fresh (x5 (hC.empty _ _ a).2)
  .exact I.PC x c a
 .show(sig ix σ).length=N'.length
  unfold sig
  rw[uX]
  exact YN S.ok
end
end L2
end
noncomputable section
namespace L2
open PySem PySem.Spec PyProof.Rows
def PTs(X:Cx)(ifs:KE ui)(t:TT):Prop:=
 ∀(pins:KE (uC×Obj)) (s:tZ) (σ:St) (H:Hp) (Q:uv->Hp->Prop),Inv X pins σ H s->t σ H Q->
  wpAny (model X.prog X.w) X.A (forIn ifs true λc r=>if r=true then do let ok<-isTrue c X.env (eval c X.env);pure (zH ok)else pure (zH r)) (TP X pins σ Q) X.xe s
noncomputable def pR:TT:=λ_ H Q=>Q true H
theorem gO{X:Cx}:PTs X [] pR:=λ_ _ _ H _ I h=>wpAny_tests_nil ⟨H,I,h⟩
theorem gG{X:Cx}{c:ui}{t:TT}(h:PT X c t):PTs X [c] t:=λpins s σ H Q I q=>wpAny_tests_one (h pins s σ H Q I q)
theorem ag{α:Type}{M:Model}{A:u5}{t:Sem α}{Q:α->tZ->Prop}{E:tW->tZ->Prop}{s:tZ}(h:wpAny M A t Q (λ_ _=>xy) s):wpAny M A t Q E s:=yA h (λ_ _ q=>q) λ_ _ f=>f.elim
def iX(ix:KE (tY Nat))(g:TG)(tc:TT)(te:TE)(J:It)(σ:St)(H:Hp)(Q:VK):Prop:=
 ∀D,H D=none->∃W:Nat->Nat->St->Hp->KE V->Prop,(∃m,W 0 m (sig ix σ) (upd H D (.lst [])) [])/\∀i m σ H ys,W i m σ H ys->H D=Gc (.lst ys)/\
  ((J.stop i H/\Q (.ref D) H)\/(J.go i H/\ys.length<sizeLine/\∀x H',J.yld i H x H'->g x σ H' λσ2 H2=>tc σ2 H2 λb H3=>
    if b=true then te σ2 H3 λy H4=>H4 D=Gc (.lst ys)/\∃m',m'<m/\W (i+1) m' σ2 (upd H4 D (.lst (ys++[y]))) (ys++[y])else∃m',m'<m/\W (i+1) m' σ2 H3 ys))
noncomputable def eX(ix:KE (tY Nat))(wi:TI)(g:TG)(tc:TT)(te:TE):TE:=λσ H Q=>wi σ H λJ H1=>iX ix g tc te J σ H1 Q
section
variable{X:Cx}{pins:KE (uC×Obj)}{σ:St}{s₂:tZ}{N':KE Str}{ix:KE (tY Nat)}{scope:xC}{elt tg iter:ui}{ifs:KE ui}{pos:Pos}{g:TG}{tc:TT}{te:TE}
def Block(X:Cx)(N':KE Str)(scope:xC)(tg:ui)(ifs:KE ui)(elt:ui)(g:TG)(tc:TT)(te:TE):Prop:=
 ∀(s:tZ) (H:Hp) (fp:KE uC),PG (JX X N' scope s H fp) tg g/\PTs (JX X N' scope s H fp) ifs tc/\PE (JX X N' scope s H fp) elt te
theorem Wn {X' : Cx} {it : uC} {fp : KE uC} {tn : Nat -> uz -> Prop} {J : It} {D : uC} {Q : VK} {R : Result -> tZ -> Prop} {W : Nat -> Nat -> St -> Hp -> KE V -> Prop} {s : tZ} {e : Env} {n : Nat} (he : X'.env = e) (hx : X'.xe = fun _ _ => xy) (hcm : X'.calm = true) (T : Turn X'.prog X'.w X'.K tg J fp it tn) (hfp : ∀ H : Hp, (∀ b ∈ fp, H b = none) -> ∀ b ∈ fp, Ss X' [] H b) (hg : PG X' tg g) (ht : PTs X' ifs tc) (hb : PE X' elt te) (turn : ∀ i m σ H ys, W i m σ H ys -> H D = Gc (.lst ys) /\ ((J.stop i H /\ Q (.ref D) H) ∨ (J.go i H /\ ys.length < sizeLine /\ ∀ x H', J.yld i H x H' -> g x σ H' fun σ2 H2 => tc σ2 H2 fun b H3 =>
        if b = true then te σ2 H3 fun y H4 => H4 D = Gc (.lst ys) /\ ∃ m', m' < m /\ W (i + 1) m' σ2 (upd H4 D (.lst (ys ++ [y]))) (ys ++ [y]) else ∃ m', m' < m /\ W (i + 1) m' σ2 H3 ys)))
    (hR : ∀ s' σ' H', Inv X' [] σ' H' s' -> Q (.ref D) H' -> R (.ok .next) s')
    (h0 : ∃ i σ' H' ys, Inv X' [] σ' H' s /\ tn i s.heap /\ (∀ b ∈ fp, H' b = none) /\ W i n σ' H' ys) :
    codeAny (model X'.prog X'.w) X'.A (.compLoop (.ListComp elt [⟨tg, iter, ifs, 0⟩] scope pos) 0 (.ref it) (.ref D) e) R s := by
  subst he
  refine codeAny_loop rfl (fun n s => ∃ i σ' H' ys, Inv X' [] σ' H' s /\ tn i s.heap /\ (∀ b ∈ fp, H' b = none) /\ W i n σ' H' ys) (fun n s3 hI => ?_) n h0
  show wpAny _ X'.A ((compTurn (.ListComp elt [⟨tg, iter, ifs, 0⟩] scope pos) 0 (.ref it) (.ref D) X'.env).onRaise (fun x => do noteFrame x X'.env; theTreesLotGoes x)) _ _ s3
  refine wpAny_noted (ag ?_)
  rw [compTurn_list]
  obtain ⟨i, σ3, H3, ys, I3, st3, fr3, w3⟩ := hI
  obtain ⟨hD, alt⟩ := turn i n σ3 H3 ys w3
  rcases alt with ⟨stop, q⟩ | ⟨go, hlen, step⟩
  · refine Wp (yQ (Wp (thn (T.done X' rfl rfl rfl hcm i [] s3 σ3 H3 _ I3 (hfp H3 fr3) st3 stop) fun r s4 ⟨hr, I4⟩ => ?_)))
    subst hr
    exact tq (hR s4 σ3 H3 I4 q)
  · refine Wp (yQ (Wp (thn (T.item X' rfl rfl rfl hcm i [] s3 σ3 H3 _ I3 (hfp H3 fr3) st3 go) fun r s4 ⟨u, hr, h4⟩ => ?_)))
    subst hr
    refine Wp (thn h4 fun _ s5 ⟨x, H5, I5, r5, y5, st5, fr5⟩ => ?_)
    have I5' := I5.pinned (hfp H5 fr5) (T.obj _ _ st5)
    have hg' := hg _ s5 σ3 H5 x u _ I5' r5 (step x H5 y5)
    rw [hx] at hg'
    refine Wp (thn hg' fun _ s6 ⟨σ6, H6, I6, q6⟩ => ?_)
    have ht' := ht _ s6 σ6 H6 _ I6 q6
    rw [hx] at ht'
    refine Wp (thn ht' fun ok s7 ⟨H7, I7, q7⟩ => ?_)
    have again : ∀ {s8 : tZ} {H8 : Hp} {zs : KE V} {m' : Nat}, Inv X' ([] ++ Rb fp s5.heap) σ6 H8 s8 -> m' < n -> W (i + 1) m' σ6 H8 zs -> ∃ m, m < n /\ ∃ i σ' H' ys, Inv X' [] σ' H' s8 /\ tn i s8.heap /\ (∀ b ∈ fp, H' b = none) /\ W i m σ' H' ys := fun {s8 H8 zs m'} I8 hm w8 => by
      refine ⟨m', hm, i + 1, σ6, H8, zs, I8.M8, T.keep _ _ _ st5 fun b hb o e => (I8.pin (b, o) (uw _ (uw _ (Jw hb e)))).1, fun b hb => ?_, w8⟩
      obtain ⟨o, e, d⟩ := T.obj _ _ st5 b hb
      exact (I8.pin (b, o) (uw _ (uw _ (Jw hb e)))).2.1
    cases ok with
    | false =>
      rw [uh (by decide)] at q7
      obtain ⟨m', hm, w7⟩ := q7
      exact tq ⟨rfl, again I7 hm w7⟩
    | true =>
      rw [uZ rfl] at q7
      have hb' := hb _ s7 σ6 H7 _ I7 q7
      rw [hx] at hb'
      refine Wp (Wp (thn hb' fun v s8 ⟨y, H8, I8, r8, hD8, m', hm, w8⟩ => ?_))
      have ha := Rf (X := X') _ s8 σ6 H8 (.ref D) [y] (.ref D) [v] (fun _ H9 => H9 = upd H8 D (.lst (ys ++ [y]))) I8 rfl (.cons r8 .nil) ⟨D, ys, y, rfl, rfl, hD8, hlen, rfl⟩
      rw [hx] at ha
      refine Wp (thn ha fun _ s9 ⟨_, H9, I9, _, e9⟩ => ?_)
      subst e9
      exact tq (tq ⟨rfl, again I9 hm w8⟩)
theorem Uo(hc:X.calm=true)(S:AY X.N X.env.scope N' ix scope)(hb:Block X N' scope tg ifs elt g tc te){it:uC}{fp:KE uC}{tn:Nat->uz->Prop}{J:It}{H₂:Hp}{Q:VK}{E:tW->tZ->Prop}{RR:tW->uC->Result->tZ->Prop}(I2:Inv X pins σ H₂ s₂)(T:Turn X.prog X.w X.K tg J fp it tn)(st2:tn 0 s₂.heap)(f2:∀b∈fp,Ss X pins H₂ b)(hW:iX ix g tc te J σ H₂ Q)(hRR:∀D C H' s',Inv X pins σ H' s'->(∃m,s'.heap.Ns C m)->Ss X pins H' C->Q (.ref D) H'->RR (.ref D) C (.ok .next) s'):wpAny (model X.prog X.w) X.A (newList []) (λacc s₃=>wpAny (model X.prog X.w) X.A (newFunctionEnv scope X.env.globals (Ij X.env.cells scope.names []) [] X.env.qual none .none (Gc X.env)) (λcenv s₄=>
  codeAny (model X.prog X.w) X.A (.compStart (.ListComp elt [⟨tg,iter,ifs,0⟩] scope pos) 0 (.ref it) acc {cenv with scope:=relabel scope X.env}) (RR acc cenv.locals) s₄) E s₃) E s₂:=by
 have hD0:H₂ s₂.heap.objs.size=none:=I2.hok.fresh (tw _)
 have hlt2:∀b∈fp,b<s₂.heap.objs.size:=λb hb=>by
  obtain⟨o,e,_⟩:=T.obj _ _ st2 b hb
  exact uK e
 refine vG (MD (λh₁ hns₁ hsb₁ hcl₁=>?_))
 have I3:Inv X pins σ (upd H₂ s₂.heap.objs.size (.lst [])) {s₂ with heap:=s₂.heap.push {cls:=.type "list",dict:=none,data:=.seq ([]:KE tW).toArray}}:=
  I2.laid (t':=s₂.toks) (λb u e=>tV _ e) (tw _) ⟨ve _,[],0,.nil,uH _ rfl⟩
 have f3:∀b∈fp,Ss X pins (upd H₂ s₂.heap.objs.size (.lst [])) b:=λb hb=>⟨by rw[An (uR (hlt2 b hb))];exact(f2 b hb).1,(f2 b hb).2⟩
 have k3:∀b o,s₂.heap.get? b=Gc o->(s₂.heap.push {cls:=.type "list",dict:=none,data:=.seq ([]:KE tW).toArray}).get? b=Gc o:=λb o e=>tV _ e
 dsimp only at hns₁ hsb₁ hcl₁⊢
 generalize hs3:({s₂ with heap:=s₂.heap.push {cls:=.type "list",dict:=none,data:=.seq ([]:KE tW).toArray}}:tZ)=s₃ at I3
 have eh:s₂.heap.push {cls:=.type "list",dict:=none,data:=.seq ([]:KE tW).toArray}=s₃.heap:=by rw[<-hs3]
 have et:s₂.toks=s₃.toks:=by rw[<-hs3]
 have es:∀(h:uz) (t:Nat),({s₂ with heap:=h,toks:=t}:tZ)={s₃ with heap:=h,toks:=t}:=λh t=>by rw[<-hs3]
 rw[eh]at hns₁ hsb₁ hcl₁ k3⊢
 have hlt3:∀b∈fp,b<s₃.heap.objs.size:=λb hb=>by
  obtain⟨o,e,_⟩:=T.obj _ _ st2 b hb
  exact uK (k3 b o e)
 have k4:∀b o,s₃.heap.get? b=Gc o->h₁.get? b=Gc o:=hsb₁
 obtain⟨W,⟨m0,w0⟩,turn⟩:=hW _ hD0
 have I4:∀tk,Inv (JX X N' scope s₃ (upd H₂ s₂.heap.objs.size (.lst [])) fp) [] (sig ix σ) (upd H₂ s₂.heap.objs.size (.lst [])) {s₃ with heap:=h₁,toks:=tk}:=λtk=>Zs S hc I3 f3 hlt3 hns₁ k4 hcl₁
 have st4:tn 0 h₁:=T.keep _ _ _ st2 λb hb o e=>k4 b o (k3 b o e)
 obtain⟨bg,bt,be⟩:=hb s₃ (upd H₂ s₂.heap.objs.size (.lst [])) fp
 have noX:∀(H:Hp),(∀b∈fp,H b=none)->∀b∈fp,Ss (JX X N' scope s₃ (upd H₂ s₂.heap.objs.size (.lst [])) fp) [] H b:=λH hn b hb=>by
  obtain⟨_,h2,h3⟩:=f3 b hb
  refine⟨hn b hb,uR (hlt3 b hb),λhs=>(I4 0).ok.gg b hb hs,.inl hb,λx c h=>?_,λp hp=>absurd (show p∈([]:KE (uC×Obj))from hp) (by simp)⟩
  exact((I4 0).ok.exf b hb).2 x c h
 have fin:∀(s':tZ) (σ':St) (H':Hp),Inv (JX X N' scope s₃ (upd H₂ s₂.heap.objs.size (.lst [])) fp) [] σ' H' s'->Q (.ref s₂.heap.objs.size) H'->RR (.ref s₂.heap.objs.size) s₃.heap.objs.size (.ok .next) s':=λs' σ' H' I' q=>by
  refine hRR _ _ H' s' ?_ (let⟨m,hn,_⟩:=I'.loc;⟨m,hn⟩) (I3.fC (tw _) I'.free) q
  exact I3.my I'.os I'.base I'.hok I'.bare λb hb=>⟨(f3 b hb).2.2.2.1,(f3 b hb).2.1,(f3 b hb).2.2.2.2.1,(f3 b hb).2.2.2.2.2⟩
 have loop:∀tk,codeAny (model X.prog X.w) X.A (.compLoop (.ListComp elt [⟨tg,iter,ifs,0⟩] scope pos) 0 (.ref it) (.ref s₂.heap.objs.size) (compEnvC scope (cellsFrom (s₃.heap.objs.size+1) scope.names (Ij X.env.cells scope.names [])) s₃.heap.objs.size X.env)) (RR (.ref s₂.heap.objs.size) s₃.heap.objs.size) {s₃ with heap:=h₁,toks:=tk}:=λtk=>
  Wn (X':=JX X N' scope s₃ (upd H₂ s₂.heap.objs.size (.lst [])) fp) (D:=s₂.heap.objs.size) (Q:=Q) (W:=W) rfl rfl rfl T noX bg bt be turn fin ⟨0,_,_,_,I4 tk,st4,λb hb=>(f3 b hb).1,w0⟩
 rw[es]
 exact codeAny_compStart_list (loop _) (T.self _ 0 _ _ _ st4 (loop _))
theorem fe{wi:TI}(hc:X.calm=true)(S:AY X.N X.env.scope N' ix scope)(hi:PI X tg iter wi)(hb:Block X N' scope tg ifs elt g tc te)(hs:∀x,foldedSetIterable iter X.env x=pure x:=by intro _;rfl):PE X (.ListComp elt [⟨tg,iter,ifs,0⟩] scope pos) (eX ix wi g tc te):=by
 intro pins s σ H Q I h
 rw[eval_ListComp]
 refine z7 (use:=none) rfl hs (UD (I.cellsOf S)) S.kind S.names (thn (hi pins s σ H _ I h) λv s1 h1=>thn h1 λitv s2 h2=>?_)
 obtain⟨it,fp,tn,J,H2,e,I2,T,st2,f2,hW⟩:=h2
 subst e
 refine Uo (RR:=λacc C=>compPost (model X.prog X.w) X.A X.xe none (EP X pins σ Q) acc C) hc S hb I2 T st2 f2 hW ?_
 intro D C H' s' I' hm hC q
 obtain⟨m,hm⟩:=hm
 refine⟨m,hm,λh' hs'=>⟨.ref D,H',I'.turned (it:=C) (t':=s'.toks) (λb o hb e=>hs'.extBut b o hb e) hC.1 hC.2.1 hC.2.2.2.1 hC.2.2.2.2.1 hC.2.2.2.2.2,rfl,q⟩⟩
end
end L2
end
noncomputable section
namespace L2
open PySem PySem.Spec PyProof.Rows
section
variable{X:Cx}{N':KE Str}{ix:KE (tY Nat)}{scope:xC}{elt tg iter:ui}{ifs:KE ui}{pos spos py:Pos}{g:TG}{tc:TT}{te:TE}{wi:TI}{i:Nat}{y:Str}
theorem Vr(hc:X.calm=true)(hN:X.N.Nodup)(hi':X.N[i]?=Gc y)(hx:X.env.scope.names.lookup y=Gc .local)(S:AY X.N X.env.scope N' ix scope)(hi:PI X tg iter wi)(hb:Block X N' scope tg ifs elt g tc te)(hsw:swapsWith (.ListComp elt [⟨tg,iter,ifs,0⟩] scope pos) (Gc (.Name y py)) spos.line X.env=pure true:=by rfl)(hs:∀x,foldedSetIterable iter X.env x=pure x:=by intro _;rfl):PS X (.Assign [.Name y py] (.ListComp elt [⟨tg,iter,ifs,0⟩] scope pos) spos) (pF (eX ix wi g tc te) (gJ i)):=by
 intro pins s σ H D I h
 rw[exec_Assign_Name_used _ _ _ _ hsw]
 refine Wp (yQ (Wp ?_))
 show wpAny _ X.A (do let _<-comprehension (.ListComp elt [⟨tg,iter,ifs,0⟩] scope pos) scope X.env _ (newList []) false (eval iter X.env) (Gc (assign (.Name y py) X.env))) _ _ s
 refine Wp (yA (z7 (use:=Gc (assign (.Name y py) X.env)) (Q:=λ_ s'=>SP X pins D .next s') rfl hs (UD (I.cellsOf S)) S.kind S.names
  (thn (hi pins s σ H _ I h) λv s1 h1=>thn h1 λitv s2 h2=>?_)) (λ_ s' hq=>tq (tq hq)) λ_ _ e=>e)
 obtain⟨it,fp,tn,J,H2,e,I2,T,st2,f2,hW⟩:=h2
 subst e
 refine Uo (RR:=λacc C=>compPost (model X.prog X.w) X.A X.xe (Gc (assign (.Name y py) X.env)) (λ_ s'=>SP X pins D .next s') acc C) hc S hb I2 T st2 f2 hW ?_
 intro L C H' s' I' hm hC q
 obtain⟨m,hm⟩:=hm
 show wpAny _ X.A (assign (.Name y py) X.env (.ref L)) _ _ _
 refine wpAny_assign_Name (Ro I' hN hi' (.inl hx) (v:=.ref L) rfl (λs'' I'' ⟨a,sb,ha⟩=>?_) (.inr hx))
 have hCa:C≠a:=by
  rcases ha with rfl|ha
  .exact hC.2.1
  .exact vZ (hC.2.2.2.2.1 y a ha)
 refine⟨m,hm.sameBut sb hCa,λh' hs'=>?_⟩
 exact⟨_,H',I''.turned (it:=C) (t':=s''.toks) (λb o hb e=>hs'.extBut b o hb e) hC.1 hC.2.1 hC.2.2.2.1 hC.2.2.2.2.1 hC.2.2.2.2.2,q⟩
end
end L2
end
noncomputable section
namespace L2
open PySem PySem.Spec PyProof.Rows
section
variable{κ:Type} [zl κ]
noncomputable def V3(kvs:KE (κ×V))(k:κ):tY V:=(kvs.find? λkv=>decide (kv.1=k)).map (·.2)
noncomputable def putK(kvs:KE (κ×V))(k:κ)(v:V):KE (κ×V):=
 if(kvs.any λkv=>decide (kv.1=k))=true then kvs.map (λkv=>if kv.1=k then(kv.1,v)else kv)else kvs++[(k,v)]
theorem NF{p:κ×V}{r:KE (κ×V)}{k:κ}(e:p.1=k):V3 (p::r) k=Gc p.2:=by simp[V3,xt,e]
theorem NQ{p:κ×V}{r:KE (κ×V)}{k:κ}(e:¬p.1=k):V3 (p::r) k=V3 r k:=by simp[V3,xt,e]
theorem Ui(k:κ):∀kvs:KE (κ×V),(kvs.any λkv=>decide (kv.1=k))=(V3 kvs k).isSome
 | []=>rfl
 |p::r=>by
  rw[wg]
  by_cases e:p.1=k
  .simp only[NF e,wK e,Bool.true_or,ABY]
  .rw[NQ e,xG e,Bool.false_or];exact Ui k r
theorem Kl(kvs:KE (κ×V))(k:κ)(v:V):(putK kvs k v).length<=kvs.length+1:=by
 unfold putK
 split
 .rw[uX];lia
 .rw[vL,uq,yU];lia
theorem VG.W4{o:tY V}{u:tY tW}(r:VG o u):o.isSome=u.isSome:=by
 cases o with
 |none=>cases u with
  |none=>rfl
  |some _=>exact(show xy from r).elim
 |some _=>cases u with
  |none=>exact(show xy from r).elim
  |some _=>rfl
theorem VG.getD{o:tY V}{u:tY tW}{d:V}{d':tW}(r:VG o u)(rd:RelV d d'):RelV (o.getD d) (u.getD d'):=by
 cases o with
 |none=>cases u with
  |none=>exact rd
  |some _=>exact(show xy from r).elim
 |some _=>cases u with
  |none=>exact(show xy from r).elim
  |some _=>exact r
theorem KV.val{kvs:KE (κ×V)}{vs:KE (κ×tW)}(r:KV kvs vs)(k:κ):VG (V3 kvs k) (valueAt vs k):=by
 unfold KV at r
 induction r with
 |nil=>exact xQ
 | @cons p q ps qs h t ih=>
   obtain⟨h1,h2⟩:=h
   by_cases e:p.1=k
   .have e':q.1=k:=h1.symm.trans e
    have b:valueAt (q::qs) k=Gc q.2:=by simp[valueAt,xt,e']
    rw[NF e,b];exact h2
   .have e':¬q.1=k:=λz=>e (h1.trans z)
    have b:valueAt (q::qs) k=valueAt qs k:=by simp[valueAt,xt,e']
    rw[NQ e,b];exact ih
theorem KV.any{kvs:KE (κ×V)}{vs:KE (κ×tW)}(r:KV kvs vs)(k:κ):(kvs.any λkv=>decide (kv.1=k))=vs.any λkv=>decide (kv.1=k):=by
 unfold KV at r
 induction r with
 |nil=>rfl
 |cons h t ih=>rw[wg,wg,ih,h.1]
theorem KV.dZ{kvs:KE (κ×V)}{vs:KE (κ×tW)}(r:KV kvs vs)(k:κ){y:V}{u:tW}(ry:RelV y u):KV (kvs.map λkv=>if kv.1=k then(kv.1,y)else kv) (vs.map λkv=>if kv.1=k then(kv.1,u)else kv):=by
 unfold KV at r⊢
 induction r with
 |nil=>exact .nil
 | @cons p q ps qs h t ih=>
   rw[t8,t8]
   refine .cons ?_ ih
   obtain⟨h1,h2⟩:=h
   by_cases e:p.1=k
   .rw[uZ e,uZ (h1.symm.trans e)];exact⟨h1,ry⟩
   .rw[uh e,uh (λz=>e (h1.trans z))];exact⟨h1,h2⟩
theorem KV.put{kvs:KE (κ×V)}{vs:KE (κ×tW)}(r:KV kvs vs)(k:κ){y:V}{u:tW}(ry:RelV y u):KV (putK kvs k y) (stored vs k u):=by
 unfold putK stored
 rw[r.any k]
 by_cases e:(vs.any λkv=>decide (kv.1=k))=true
 .rw[uZ e,uZ e];exact r.dZ k ry
 .rw[uh e,uh e];exact Paired.snoc r ⟨rfl,ry⟩
theorem KV.keys{kvs:KE (κ×V)}{vs:KE (κ×tW)}(r:KV kvs vs):kvs.map (·.1)=vs.map (·.1):=by
 unfold KV at r
 induction r with
 |nil=>rfl
 |cons h t ih=>rw[t8,t8,ih,h.1]
theorem KV.length{kvs:KE (κ×V)}{vs:KE (κ×tW)}(r:KV kvs vs):kvs.length=vs.length:=ABO r
end
theorem X5{P:uT}{w:ur}{k:Key}{u:tW}(r:RelV (kV k) u):(DO P w).is k u=true:=by
 cases k with
 |inl i=>obtain⟨t,e⟩:=(show∃t,u=AAF i t from r);subst e;exact Sy P w i t
 |inr x=>obtain⟨t,e⟩:=(show∃t,u=Value.str x t from r);subst e;exact Tt P w x t
theorem Rj{P:uT}{w:ur}:∀{ks:KE Key} {us:KE tW},Vals (ks.map kV) us->ItemsAre (DO P w) ks us
 | [],_,r=>by rw[u4]at r;cases r;exact .nil
 |k::ks,_,r=>by
  rw[t8]at r
  cases r with
  |cons h t=>exact .cons (X5 h) (Rj t)
abbrev KT(H:Hp):KE (KE Key×V)->KE (KE Key×uC×tW)->Prop:=Paired λp q=>p.1=q.1/\H q.2.1=Gc (.tup (p.1.map kV))/\RelV p.2 q.2.2
theorem KT.val{H:Hp}{kvs:KE (KE Key×V)}{xs:KE (KE Key×uC×tW)}(r:KT H kvs xs)(k:KE Key):VG (V3 kvs k) ((atKey xs k).map (·.2)):=by
 induction r with
 |nil=>exact xQ
 | @cons p q ps qs h t ih=>
   obtain⟨h1,_,h2⟩:=h
   by_cases e:p.1=k
   .have e':q.1=k:=h1.symm.trans e
    have b:atKey (q::qs) k=Gc q.2:=by simp[atKey,xt,e']
    rw[NF e,b];exact h2
   .have e':¬q.1=k:=λz=>e (h1.trans z)
    have b:atKey (q::qs) k=atKey qs k:=by simp[atKey,xt,e']
    rw[NQ e,b];exact ih
theorem KT.dZ{H:Hp}{kvs:KE (KE Key×V)}{xs:KE (KE Key×uC×tW)}(r:KT H kvs xs)(k:KE Key){y:V}{u:tW}(ry:RelV y u):KT H (kvs.map λkv=>if kv.1=k then(kv.1,y)else kv) (xs.map (putAt k u)):=by
 induction r with
 |nil=>exact .nil
 | @cons p q ps qs h t ih=>
   rw[t8,t8]
   refine .cons ?_ ih
   obtain⟨h1,h2,h3⟩:=h
   unfold putAt
   by_cases e:p.1=k
   .rw[uZ e,uZ (h1.symm.trans e)];exact⟨h1,h2,ry⟩
   .rw[uh e,uh (λz=>e (h1.trans z))];exact⟨h1,h2,h3⟩
theorem KT.put{H:Hp}{kvs:KE (KE Key×V)}{xs:KE (KE Key×uC×tW)}(r:KT H kvs xs)(k:KE Key){b:uC}{y:V}{u:tW}(hb:H b=Gc (.tup (k.map kV)))(ry:RelV y u):KT H (putK kvs k y) (storedH xs k b u):=by
 have e:(kvs.any λkv=>decide (kv.1=k))=(atKey xs k).isSome:=by
  rw[Ui,(r.val k).W4,Option.isSome_map]
 unfold putK storedH
 rw[e]
 by_cases q:(atKey xs k).isSome=true
 .rw[uZ q,uZ q];exact r.dZ k ry
 .rw[uh q,uh q];exact Paired.snoc r ⟨rfl,hb,ry⟩
theorem KT.keeps{H H':Hp}{kvs:KE (KE Key×V)}{xs:KE (KE Key×uC×tW)}(r:KT H kvs xs)(ht:∀b ys,H b=Gc (.tup ys)->H' b=Gc (.tup ys)):KT H' kvs xs:=
 Paired.ox r λ_ _ z=>⟨z.1,ht _ _ z.2.1,z.2.2⟩
section
variable{P:uT}{w:ur}{H:Hp}{h:uz}{a:uC}
theorem hZ{u:HO}(ok:HOk P w H h)(e:Rd H a u):Fb P w H h a u:=e.ok ok
theorem VI{kvs:KE (Key×V)}(ok:HOk P w H h)(e:Rd H a (.dK kvs)):kvs.length<=sizeLine/\(a==sysModules)=false/\∃vs,KV kvs vs/\h.DictOf (DO P w) a vs:=
 show Fb P w H h a (.dK kvs)from hZ ok e
theorem aJ{kvs:KE (Key×V)}(ok:HOk P w H h)(e:H a=Gc (.dK kvs)):kvs.length<=sizeLine/\(a==sysModules)=false/\∃vs,KV kvs vs/\h.DictOf (DO P w) a vs:=VI ok (.inl e)
theorem Uv{ks:KE Key}(ok:HOk P w H h)(e:H a=Gc (.tup (ks.map kV))):(tupleKind (DO P w)).is h ks a:=by
 obtain⟨_,its,r,o,h1,h2,n,h3⟩:=(show Fb P w H h a (.tup (ks.map kV))from ok a _ e)
 exact⟨o,its.toArray,n,h1,h2,h3,by simpa using Rj r⟩
theorem Xk{kvs:KE (KE Key×V)}(ok:HOk P w H h)(e:Rd H a (.dT kvs)):kvs.length<=sizeLine/\(a==sysModules)=false/\∃xs,KT H kvs xs/\h.DictOfH (tupleKind (DO P w)) a xs:=by
 obtain⟨z,y,xs,r,o,es,ep,h1,h2,h3,h4,h5⟩:=(show Fb P w H h a (.dT kvs)from hZ ok e)
 refine⟨z,y,xs,r,o,es,ep,h1,h2,h3,h4,λx hx=>?_,h5⟩
 have all:∀{l:KE (KE Key×V)} {m:KE (KE Key×uC×tW)},KT H l m->∀x∈m,(tupleKind (DO P w)).is h x.1 x.2.1:=by
  intro l m q
  induction q with
  |nil=>intro x hx;exact nomatch hx
  | @cons p q ps qs hq t ih=>
    intro x hx
    rcases uF.mp hx with e|hx
    .subst e
     exact Uv ok (by rw[<-hq.1];exact hq.2.1)
    .exact ih x hx
 exact all r x hx
theorem ZF{kvs:KE (KE Key×V)}(ok:HOk P w H h)(e:H a=Gc (.dT kvs)):kvs.length<=sizeLine/\(a==sysModules)=false/\∃xs,KT H kvs xs/\h.DictOfH (tupleKind (DO P w)) a xs:=Xk ok (.inl e)
end
def fT(H:Hp)(a:uC)(y:V)(r:tY V):Prop:=
 (∃kvs k,Rd H a (.dK kvs)/\y=kV k/\r=V3 kvs k)\/∃kvs k b,Rd H a (.dT kvs)/\y=.ref b/\H b=Gc (.tup (k.map kV))/\r=V3 kvs k
def lN(H:Hp)(a:uC)(y v:V)(H':Hp):Prop:=
 (∃kvs k,H a=Gc (.dK kvs)/\y=kV k/\kvs.length<sizeLine/\H'=upd H a (.dK (putK kvs k v)))∨
 ∃kvs k b,H a=Gc (.dT kvs)/\y=.ref b/\H b=Gc (.tup (k.map kV))/\kvs.length<sizeLine/\H'=upd H a (.dT (putK kvs k v))
theorem fT.k{H:Hp}{a:uC}{kvs:KE (Key×V)}{k:Key}(e:H a=Gc (.dK kvs)):fT H a (kV k) (V3 kvs k):=.inl ⟨kvs,k,.inl e,rfl,rfl⟩
theorem lN.k{H:Hp}{a:uC}{kvs:KE (Key×V)}{k:Key}{v:V}(e:H a=Gc (.dK kvs))(hl:kvs.length<sizeLine):lN H a (kV k) v (upd H a (.dK (putK kvs k v))):=.inl ⟨kvs,k,e,rfl,hl,rfl⟩
section
variable{X:Cx}{pins:KE (uC×Obj)}{σ:St}{H:Hp}{s:tZ}{a:uC}{y v:V}{u r:tW}{o:tY V}{A:u5}{E:tW->tZ->Prop}
theorem Inv.big(I:Inv X pins σ H s):sysModules<s.heap.objs.size:=by
 have h:mainGlobals<s.heap.objs.size:=(I.mod.glob.keeps I.bk).lt
 exact yI (by decide) h
theorem Wu{Q:tW->tZ->Prop}(hu:A.units+1<cLine)(I:Inv X pins σ H s)(g:fT H a y (Gc v))(ry:RelV y u)(h:∀w' s',Inv X pins σ H s'->RelV v w'->Q w' s'):wpAny (model X.prog X.w) A (getItem (.ref a) u) Q E s:=by
 rcases g with⟨kvs,k,e,ey,l⟩|⟨kvs,k,b,e,ey,eb,l⟩
 .subst ey
  obtain⟨z,hd,vs,rel,dd⟩:=VI I.hok e
  obtain⟨w',hw,rw'⟩:=VG.some_of (v:=v) (o:=valueAt vs k) (by rw[l];exact rel.val k)
  exact wpAny_getItem_of (X5 ry) dd.mapOf hw (h w' _ (I.tok _) rw')
 .subst ey
  cases (show u=vN b from ry)
  obtain⟨z,hd,xs,rel,dd⟩:=Xk I.hok e
  obtain⟨w',hw,rw'⟩:=VG.some_of (v:=v) (o:=(atKey xs k).map (·.2)) (by rw[l];exact rel.val k)
  obtain⟨p,hp,hp2⟩:=AAV.mp hw
  refine wpAny_getItem_heap (zY hu) (Uv I.hok eb) dd hp ?_
  rw[hp2]
  exact h w' _ (I.tok _) rw'
theorem TN{h':uz}{t':Nat}{ob:HO}(I:Inv X pins σ H s)(mu:Mut (H a))(hs:wY a s.heap h')(he:∃q,h'.get? a=Gc q)(new:Fb X.prog X.w (upd H a ob) h' a ob):Inv X pins σ (upd H a ob) {s with heap:=h',toks:=t'}:=
 I.write (x:=a) (e:=a) mu (.inl rfl) (λb q hb z=>(hs.2 b hb).trans z) he new
theorem XG{P:uT}{w:ur}{H':Hp}{h':uz}{kvs:KE (Key×V)}{vs:KE (Key×tW)}(z:kvs.length<=sizeLine)(hd:(a==sysModules)=false)(rel:KV kvs vs)(dd:h'.DictOf (DO P w) a vs):Fb P w H' h' a (.dK kvs):=⟨z,hd,vs,rel,dd⟩
theorem YQ{H':Hp}{Q:Unit->tZ->Prop}(hu:A.units+1<cLine)(I:Inv X pins σ H s)(g:lN H a y v H')(ry:RelV y u)(rv:RelV v r)(h:∀s',Inv X pins σ H' s'->Q () s'):wpAny (model X.prog X.w) A (setItem (.ref a) u r) Q E s:=by
 rcases g with⟨kvs,k,e,ey,l,eH⟩|⟨kvs,k,b,e,ey,eb,l,eH⟩
 .subst ey eH
  obtain⟨z,hd,vs,rel,dd⟩:=aJ I.hok e
  have hz:vs.length<=sizeLine:=by rw[<-rel.length];exact z
  have hl:(putK kvs k v).length<=sizeLine:=by have:=Kl kvs k v;lia
  refine wpAny_setItem_pairs (hsz:=hz) (X5 ry) dd λh' dd' hs=>h _ ?_
  have he:∃q,h'.get? a=Gc q:=let⟨q,_,_,hq,_⟩:=dd';⟨q,hq⟩
  exact TN I (by rw[e];exact xQ) hs he (XG hl hd (rel.put k rv) dd')
 .subst ey eH
  cases (show u=vN b from ry)
  obtain⟨z,hd,xs,rel,dd⟩:=ZF I.hok e
  have hz:xs.length<=sizeLine:=by rw[<-ABO rel];exact z
  have hl:(putK kvs k v).length<=sizeLine:=by have:=Kl kvs k v;lia
  refine wpAny_setItem_heap (hsz:=hz) (zY hu) (Uv I.hok eb) dd λh' dd' hs=>h _ ?_
  obtain⟨q,es,ep,hq,h2,h3,h4,_,h5⟩:=dd'
  refine TN I (by rw[e];exact xQ) hs ⟨q,hq⟩ ⟨hl,hd,_,(rel.put k eb rv).keeps λc ys ec=>?_,q,es,ep,hq,h2,h3,h4,h5⟩
  rw[An (nE ec e (λz=>nomatch z))]
  exact ec
end
section
variable{X:Cx}{pins:KE (uC×Obj)}{σ:St}{H:Hp}{s:tZ}{a:uC}{kvs:KE (Key×V)}{k:Key}{u:tW}{A:u5}{E:tW->tZ->Prop}
end
def pQ(i:ui):Prop:=∀ov iv,subscripted i false ov iv=operate [ov,iv] (getItem ov iv)
theorem dR{prog:uT}{w:ur}{A:u5}{E:tW->tZ->Prop}{s:tZ}{env:Env}{value slice:ui}{pos:Pos}{T id:xD}{Q:tW->tZ->Prop}(hl:typeLookup (.type T) "__getitem__"=pure (Gc (.builtin id)))(hs:pQ slice)(h:wpAny (model prog w) A (eval value env) (λo s₁=>wpAny (model prog w) A (eval slice env) (λi s₂=>s₂.TypeIs o T/\wpAny (model prog w) A (getItem o i) Q E s₂) E s₁) E s):wpAny (model prog w) A (eval (.Subscript value slice pos) env) Q E s:=by
 refine Subscript_ (yA h (λo s₁ h₁=>yA h₁ (λi s₂ h₂=>?_) λ_ _ x=>x) λ_ _ x=>x)
 obtain⟨hT,h₂⟩:=h₂
 unfold subscriptTail
 refine Wp ?_
 rw[getitemInPython_of_ne hT.not_modules]
 refine Wp (zI hT hl ?_)
 have fin:wpAny (model prog w) A (subscripted slice false o i) (λr s₃=>wpAny (model prog w) A (letTemporaryGo value o r >>= λ_=>pure r) Q E s₃) E s₂:=by
  rw[hs o i]
  exact wpAny_operating (yA h₂ (λr s₃ h₃=>Wp (wpAny_letTemporaryGo (tq h₃))) λ_ _ x=>x)
 first
  |exact tq (Wp fin)
  |exact Wp (tq (Wp fin))
  |exact Wp fin
theorem TH{X:Cx}{pins:KE (uC×Obj)}{σ:St}{H:Hp}{s:tZ}{a:uC}{y:V}{o:tY V}(I:Inv X pins σ H s)(g:fT H a y o):s.TypeIs (.ref a) "dict":=by
 rcases g with⟨kvs,k,e,_,_⟩|⟨kvs,k,b,e,_,_,_⟩
 .obtain⟨_,_,vs,_,dd⟩:=VI I.hok e
  exact dd.typeIs
 .obtain⟨_,_,xs,_,dd⟩:=Xk I.hok e
  exact dd.typeIs
noncomputable def mw(td ty:TE):TE:=λσ H Q=>td σ H λx H1=>ty σ H1 λy H2=>∃a v,x=.ref a/\fT H2 a y (Gc v)/\Q v H2
noncomputable def mS(td ty tv:TE):TS:=λD σ H=>tv σ H λv H1=>td σ H1 λx H2=>ty σ H2 λy H3=>∃a H4,x=.ref a/\lN H3 a y v H4/\D.nx σ H4
section
variable{X:Cx}{o i e value:ui}{pos pos' tpos:Pos}{td ty tv:TE}
theorem d8(hu:X.A.units+1<cLine)(ho:PE X o td)(hi:PE X i ty)(hs:pQ i):PE X (.Subscript o i pos) (mw td ty):=by
 intro pins s σ H Q I h
 refine dR PySem.F.slot_dict_getitem.lookup hs (thn (ho pins s σ H _ I h) λu s1 ⟨x,H1,I1,rx,q1⟩=>thn (hi pins s1 σ H1 _ I1 q1) λiv s2 ⟨y,H2,I2,ry,a,v,ex,g,q2⟩=>?_)
 subst ex
 obtain rfl:u=vN a:=rx
 exact⟨TH I2 g,Wu hu I2 g ry λw' s3 I3 rw'=>⟨v,H2,I3,rw',q2⟩⟩
theorem fP(hu:X.A.units+1<cLine)(ho:PE X o td)(hi:PE X i ty)(hv:PE X value tv)(hs:swapsWith value (Gc (.Subscript o i pos')) pos.line X.env=pure false):PS X (.Assign [.Subscript o i pos'] value pos) (mS td ty tv):=by
 intro pins s σ H D I h
 refine wpAny_Assign_Subscript (thn (hv pins s σ H _ I h) λr s1 ⟨v,H1,I1,rv,q1⟩=>thn (ho pins s1 σ H1 _ I1 q1) λu s2 ⟨x,H2,I2,rx,q2⟩=>thn (hi pins s2 σ H2 _ I2 q2) λiv s3 ⟨y,H3,I3,ry,a,H4,ex,g,q3⟩=>?_) hs
 subst ex
 obtain rfl:u=vN a:=rx
 exact YQ hu I3 g ry rv λs4 I4=>⟨σ,H4,I4,q3⟩
end
theorem U8{P:uT}{w:ur}{H:Hp}(h:uz)(hb:sysModules<h.objs.size):Fb P w H (h.push {cls:=.type "dict",data:=.dict #[]}) h.objs.size (.dK []):=
 ⟨ve _,zN.mpr (vZ (uR hb)),[],.nil,Heap.DictOf.new h⟩
noncomputable def i0:TE:=λ_ H Q=>∀p,H p=none->Q (.ref p) (upd H p (.dK []))
section
variable{X:Cx}{pos:Pos}
theorem aI:PE X (.Dict [] [] pos) i0:=λpins s σ H Q I h=>
 wpAny_Dict_empty ⟨.ref s.heap.objs.size,_,I.laid (a:=s.heap.objs.size) (o:=.dK []) (t':=s.toks) (λ_ _ q=>tV _ q) (tw _) (U8 s.heap I.big),rfl,h _ (I.hok.fresh (tw _))⟩
end
def UR:KE (TE×TE)->St->Hp->(KE (V×V)->Hp->Prop)->Prop
 | [],_,H,Q=>Q [] H
 |(tk,tv)::r,σ,H,Q=>tk σ H λx H1=>tv σ H1 λy H2=>UR r σ H2 λps H3=>Q ((x,y)::ps) H3
abbrev VV:KE (V×V)->KE (tW×tW)->Prop:=Paired λp q=>RelV p.1 q.1/\RelV p.2 q.2
def PPs(X:Cx)(pos:Pos)(keys:KE (tY ui))(values:KE ui)(trs:KE (TE×TE)):Prop:=
 ∀(pins:KE (uC×Obj)) (s:tZ) (σ:St) (H:Hp) (Q:KE (V×V)->Hp->Prop),Inv X pins σ H s->UR trs σ H Q->
  wpAny (model X.prog X.w) X.A (evalPairs (pairTrees keys values X.env pos)) (λvs s'=>∃ps H',Inv X pins σ H' s'/\VV ps vs/\Q ps H') X.xe s
theorem fK{X:Cx}{pos:Pos}:PPs X pos [] [] []:=λpins s σ H Q I h=>pairTrees_nil_walk ⟨[],H,I,.nil,h⟩
theorem bA{X:Cx}{pos:Pos}{k v:ui}{ks:KE (tY ui)}{vs:KE ui}{tk tv:TE}{trs:KE (TE×TE)}(hk:PE X k tk)(hv:PE X v tv)(hr:PPs X pos ks vs trs):PPs X pos (Gc k::ks) (v::vs) ((tk,tv)::trs):=λpins s σ H Q I h=>
 pairTrees_cons_walk (thn (hk pins s σ H _ I h) λu s1 ⟨x,H1,I1,rx,q1⟩=>thn (hv pins s1 σ H1 _ I1 q1) λw2 s2 ⟨y,H2,I2,ry,q2⟩=>
  thn (hr pins s2 σ H2 _ I2 q2) λws s3 ⟨ps,H3,I3,rel,q3⟩=>⟨(x,y)::ps,H3,I3,.cons ⟨rx,ry⟩ rel,q3⟩)
noncomputable def OG(kvs more:KE (Key×V)):KE (Key×V):=more.foldl (λacc kv=>putK acc kv.1 kv.2) kvs
theorem KV.merge:∀{more:KE (Key×V)} {rs:KE (Key×tW)} {kvs:KE (Key×V)} {vs:KE (Key×tW)},KV more rs->KV kvs vs->KV (OG kvs more) (merged vs rs):=by
 intro more rs kvs vs r
 unfold KV at r
 induction r generalizing kvs vs with
 |nil=>intro q;exact q
 | @cons p q ps qs h t ih=>
   intro r0
   have e:KV (putK kvs p.1 p.2) (stored vs q.1 q.2):=by
    have:=r0.put p.1 h.2
    rw[<-h.1];exact this
   exact ih e
theorem LR:∀(more kvs:KE (Key×V)),(OG kvs more).length<=kvs.length+more.length
 | [],kvs=>by show kvs.length<=kvs.length+0;lia
 |p::r,kvs=>by
  have h1:=LR r (putK kvs p.1 p.2)
  have h2:=Kl kvs p.1 p.2
  show(OG (putK kvs p.1 p.2) r).length<=_
  rw[uq];lia
theorem P5{P:uT}{w:ur}:∀{kvs:KE (Key×V)} {ws:KE (tW×tW)},VV (kvs.map λkv=>(kV kv.1,kv.2)) ws->∃rs,Carries (DO P w) ws rs/\KV kvs rs
 | [],_,r=>by rw[u4]at r;cases r;exact⟨[],xQ,.nil⟩
 |p::kvs,_,r=>by
  rw[t8]at r
  cases r with
  | @cons a b as bs h t=>
    obtain⟨rs,c,q⟩:=P5 (P:=P) (w:=w) t
    obtain⟨b1,b2⟩:=b
    exact⟨(p.1,b2)::rs,⟨X5 h.1,rfl,c⟩,.cons ⟨rfl,h.2⟩ q⟩
noncomputable def mY(trs:KE (TE×TE)):TE:=λσ H Q=>∀p,H p=none->UR trs σ (upd H p (.dK [])) λps H2=>H2 p=Gc (.dK [])/\∃kvs:KE (Key×V),ps=kvs.map (λkv=>(kV kv.1,kv.2))/\kvs.length<=15/\Q (.ref p) (upd H2 p (.dK (OG [] kvs)))
theorem gX{X:Cx}{pos:Pos}{keys:KE (tY ui)}{values:KE ui}{trs:KE (TE×TE)}(h:PPs X pos keys values trs)(hall:keys.all (·.isSome)=true)(hl:keys.length=values.length)(h0:keys≠[])(h15:keys.length<=15):PE X (.Dict keys values pos) (mY trs):=by
 intro pins s σ H Q I q
 have hn:=I.hok.fresh (tw s.heap.objs.size)
 have I1:=I.laid (a:=s.heap.objs.size) (o:=.dK []) (h':=s.heap.push {cls:=.type "dict",data:=.dict #[]}) (t':=s.toks) (λ_ _ q=>tV _ q) (tw _) (U8 s.heap I.big)
 refine wpAny_Dict_walk (knd:=DO X.prog X.w) hall hl h0 h15 (thn (h pins _ σ _ _ I1 (q _ hn)) λws s2 ⟨ps,H2,I2,rel,e,kvs,ep,lk,q2⟩=>?_)
 subst ep
 obtain⟨rs,c,rk⟩:=P5 (P:=X.prog) (w:=X.w) rel
 obtain⟨z,hd,vs0,r0,dd⟩:=aJ I2.hok e
 cases r0
 refine⟨rs,c,dd,λh' dd' hs=>⟨.ref s.heap.objs.size,_,?_,rfl,q2⟩⟩
 have hz:(OG [] kvs).length<=sizeLine:=by
  have h1:=LR kvs []
  rw[yU]at h1
  rw[sizeLine_eq];lia
 have he:∃q,h'.get? s.heap.objs.size=Gc q:=let⟨q,_,_,hq,_⟩:=dd';⟨q,hq⟩
 exact TN I2 (by rw[e];exact xQ) hs he (XG hz hd (rk.merge .nil) dd')
structure M1(X:Cx)(o:ui)(m:Str)(apos:Pos)(e:ui)(cpos:Pos):Prop where
 base:attributeBase o m X.env (eval o X.env)=eval o X.env
 few:((backTo cpos (uW [e] X.env)).all (λx=> !x.1) && (backToKw cpos (keywordEach [] X.env)).all (λx=>x.1.isSome)
  && decide (([e]:KE ui).length+([]:KE zt).length+(if([]:KE zt).isEmpty then 0 else 1)<30))=true
 line:(apos.endLine==cpos.line)=true
 trees:backTo cpos (uW [e] X.env)=[(false,eval e X.env)]
structure M2(X:Cx)(o:ui)(m:Str)(apos:Pos)(e f:ui)(cpos:Pos):Prop where
 base:attributeBase o m X.env (eval o X.env)=eval o X.env
 few:((backTo cpos (uW [e,f] X.env)).all (λx=> !x.1) && (backToKw cpos (keywordEach [] X.env)).all (λx=>x.1.isSome)
  && decide (([e,f]:KE ui).length+([]:KE zt).length+(if([]:KE zt).isEmpty then 0 else 1)<30))=true
 line:(apos.endLine==cpos.line)=true
 trees:backTo cpos (uW [e,f] X.env)=[(false,eval e X.env),(false,eval f X.env)]
def IsD(H:Hp)(a:uC):Prop:=(∃kvs,Rd H a (.dK kvs))\/∃kvs,Rd H a (.dT kvs)
theorem iY{X:Cx}{pins:KE (uC×Obj)}{σ:St}{H:Hp}{s:tZ}{a:uC}(I:Inv X pins σ H s)(d:IsD H a):s.TypeIs (.ref a) "dict" /\(∀b,vN a=.ref b->∃ob,s.heap.get? b=Gc ob/\ob.dict=none)/\(a==sysModules)=false:=by
 rcases d with⟨kvs,e⟩|⟨kvs,e⟩
 .obtain⟨_,hd,vs,_,dd⟩:=VI I.hok e
  refine⟨dd.typeIs,λb q=>?_,hd⟩
  cases q
  obtain⟨ob,_,_,h1,h2,_⟩:=dd
  exact⟨ob,h1,h2.2.1⟩
 .obtain⟨_,hd,xs,_,dd⟩:=Xk I.hok e
  refine⟨dd.typeIs,λb q=>?_,hd⟩
  cases q
  obtain⟨ob,_,_,h1,h2,_⟩:=dd
  exact⟨ob,h1,h2.2.1⟩
section
variable{X:Cx}{pins:KE (uC×Obj)}{σ:St}{H:Hp}{s:tZ}{a:uC}{y d:V}{u r:tW}{o:tY V}{A:u5}{E:tW->tZ->Prop}
theorem ja{Q:tW->tZ->Prop}(hu:A.units+1<cLine)(I:Inv X pins σ H s)(g:fT H a y o)(ry:RelV y u)(rd:RelV d r)(h:∀w' s',Inv X pins σ H s'->RelV (o.getD d) w'->Q w' s'):wpAny (model X.prog X.w) A (call (.builtin "dict.get") [.ref a,u,r]) Q E s:=by
 rcases g with⟨kvs,k,e,ey,l⟩|⟨kvs,k,b,e,ey,eb,l⟩
 .subst ey
  obtain⟨z,hd,vs,rel,dd⟩:=VI I.hok e
  refine call_meetsIn yu dd.typeIs AAW (AAL _ _ _) (meets_dict_get_default (DO X.prog X.w) a (X5 ry) hd r) ⟨_,dd.mapOf,h _ _ (I.tok _) ?_⟩
  rw[l]
  exact(rel.val k).getD rd
 .subst ey
  cases (show u=vN b from ry)
  obtain⟨z,hd,xs,rel,dd⟩:=Xk I.hok e
  refine call_meetsIn yu dd.typeIs AAW (AAL _ _ _) (meetsH_dict_get_default (tupleKind (DO X.prog X.w)) a b hd r) ⟨zY hu,k,xs,Uv I.hok eb,dd,h _ _ (I.tok _) ?_⟩
  rw[l]
  exact(rel.val k).getD rd
end
noncomputable def jy(td ty tx:TE):TE:=λσ H Q=>td σ H λx H1=>∃a,x=.ref a/\IsD H1 a/\ty σ H1 λy H2=>tx σ H2 λz H3=>∃o,fT H3 a y o/\Q (o.getD z) H3
section
variable{X:Cx}{o e f:ui}{apos cpos:Pos}{td ty tx:TE}
theorem bF(hu:X.A.units+1<cLine)(ho:PE X o td)(he:PE X e ty)(hf:PE X f tx)(m:M2 X o "get" apos e f cpos):PE X (.Call (.Attribute o "get" apos) [e,f] [] cpos) (jy td ty tx):=by
 intro pins s σ H Q I h
 refine wpAny_Call_method m.base m.few m.line PySem.F.plainAttrs_dict yu PySem.F.type_dict_get (thn (ho pins s σ H _ I h) λu s1 ⟨x,H1,I1,rx,a,ex,d,q1⟩=>?_)
 subst ex
 obtain rfl:u=vN a:=rx
 obtain⟨t1,t2,_⟩:=iY I1 d
 refine⟨t1,t2,?_⟩
 rw[m.trees]
 refine AAT rfl (AAw (yF (thn (he pins s1 σ H1 _ I1 q1) λiv s2 ⟨y,H2,I2,ry,q2⟩=>
  yF (thn (hf pins s2 σ H2 _ I2 q2) λfv s3 ⟨z,H3,I3,rz,ov,g,q3⟩=>zO ?_))))
 exact ja hu I3 g ry rz λw' s4 I4 rw'=>⟨_,H3,I4,rw',q3⟩
end
section
variable{X:Cx}{pins:KE (uC×Obj)}{σ:St}{H:Hp}{s:tZ}{a:uC}{kvs:KE (Key×V)}{A:u5}{E:tW->tZ->Prop}
theorem ZR{Q:tW->tZ->Prop}(I:Inv X pins σ H s)(e:Rd H a (.dK kvs))(h:∀p s',H p=none->Inv X pins σ (upd H p (.dK kvs)) s'->Q (.ref p) s'):wpAny (model X.prog X.w) A (call (.type "dict") [.ref a]) Q E s:=by
 obtain⟨z,hd,vs,rel,dd⟩:=VI I.hok e
 refine kt_call_dict hd dd (by rw[<-rel.length];exact z) λh' dd' hs=>?_
 refine h _ _ (I.hok.fresh (tw _)) (I.laid (a:=s.heap.objs.size) (o:=.dK kvs) (t':=s.toks) (λb q hq=>?_) (tw _) (XG z (zN.mpr (vZ (uR I.big))) rel dd'))
 exact(hs.2 b (uR (uK hq))).trans (tV _ hq)
end
section
variable{X:Cx}{pins:KE (uC×Obj)}{σ:St}{H:Hp}{s:tZ}{a:uC}{y:V}{u:tW}{A:u5}{E:tW->tZ->Prop}
end
end L2
end
noncomputable section
namespace L2
open PySem PySem.Spec PyProof.Rows
section
variable{prog:uT}{w:ur}{A:u5}{E:tW->tZ->Prop}{s:tZ}
theorem VZ{h:uz}{it t:uC}{i:Nat}{o:Obj}(ho:h.get? it=Gc o)(hc:o.cls=.type "tuple_iterator")(hd:o.data=.fields #[.ref t,.int i 0]){h':uz}(e:h'=h.update it (λo=>o.mapFields λa=>a.setIfInBounds 1 (rawInt ((i:Int)+1)))):h'.IsTupleIter it t (i+1):=by
 subst e
 have d:=vk hd λa=>a.setIfInBounds 1 (rawInt ((i:Int)+1))
 refine⟨_,u7 _ ho (xB d),?_,?_⟩
 .rw[yk];exact hc
 .rw[d];simp[rawInt]
theorem aM{it t:uC}{i:Nat}{items:uu tW}{x:tW}{Q:tW->tZ->Prop}(hit:s.heap.IsTupleIter it t i)(ht:s.heap.IsTuple t items)(hx:items[i]?=Gc x)(hQ:∀h',h'.IsTupleIter it t (i+1)->wY it s.heap h'->Q x {s with heap:=h'}):wpAny (model prog w) A (u6 (.ref it)) Q E s:=by
 obtain⟨⟨c,dd,dt,sl⟩,ho,hc,hd⟩:=id hit
 obtain⟨⟨c2,dd2,dt2,sl2⟩,ho2,hc2,n2,hd2⟩:=id ht
 simp only at hc hd hc2 hd2
 subst hc hd hc2 hd2
 unfold u6
 refine Wp (vA (name:=vQ "__next__") hit.typeIs wy (u9 wy hit.typeIs zP ?_ (zJ _)))
 unfold wJ.«tuple_iterator.__next__»
 wp_walk using ua ho,ua ho2
 have e:items[(i:Int).toNat]?=Gc x:=by rw[wN];exact hx
 rw[e]
 refine Wp (w9 ho rfl (by simp) ?_)
 exact tq ⟨x,rfl,tq (hQ _ (VZ ho rfl rfl rfl) (vR ..))⟩
theorem ZY{it t:uC}{i:Nat}{items:uu tW}{Q:tW->tZ->Prop}(hh:A.handled=none)(hit:s.heap.IsTupleIter it t i)(ht:s.heap.IsTuple t items)(hx:items[i]?=none)(hE:∀h' e,ya it s.heap h'->(∃o,h'.get? e=Gc o/\o.cls=.type "StopIteration")->E (.ref e) {s with heap:=h'}):wpAny (model prog w) A (u6 (.ref it)) Q E s:=by
 obtain⟨⟨c,dd,dt,sl⟩,ho,hc,hd⟩:=id hit
 obtain⟨⟨c2,dd2,dt2,sl2⟩,ho2,hc2,n2,hd2⟩:=id ht
 simp only at hc hd hc2 hd2
 subst hc hd hc2 hd2
 unfold u6
 refine Wp (vA (name:=vQ "__next__") hit.typeIs wy (u9 wy hit.typeIs zP ?_ (zJ _)))
 unfold wJ.«tuple_iterator.__next__»
 wp_walk using ua ho,ua ho2
 have e:items[(i:Int).toNat]?=none:=by rw[wN];exact hx
 rw[e]
 refine Wp (xP (Wp (w9 ho rfl (by simp) ?_)))
 have hh1:A.in1.handled=none:=hh
 unfold Builtin.SmallTypes.stopIteration
 simp only[newExc,newTuple,raiseNew]
 wp_walk
 refine hE _ _ ?_ ⟨_,uH _ rfl,rfl⟩
 have a:=(vR (a:=it) (h:=s.heap) (f:=ABQ λx=>x.setIfInBounds 0 wQ)).extBut
 exact(a.push _).push _
theorem YX(l:uC)(items:uu tW)(n:Nat)(dct:tY uC)(sl:uu (tY tW)):Meets (wJ.«enumerate.__new__» ⟨[.type "enumerate",.ref l],[]⟩) (λ_ R s=>s.heap.get? l=Gc {cls:=.type "tuple",dict:=dct,data:=.seq items n,slots:=sl}/\R (.ok (.ret (.ref (s.heap.objs.size+1)))) {s with heap:=(s.heap.push {cls:=.type "tuple_iterator",data:=.fields #[.ref l,.int 0 0]}).push {cls:=.type "enumerate",data:=.fields #[.none,.bool false,.ref s.heap.objs.size,rawInt 0,.none,.none]}}):=
 .of_wp λprog w A R s h=>by
  obtain⟨hp,g,d,tk,os⟩:=s
  obtain⟨hl,h⟩:=h
  have hsub:=sub_enumerate
  have hT:zQ (xN ⟨hp,g,d,tk,os⟩) l items:=⟨_,hl,rfl,n,rfl⟩
  wp_walk using ua hl
  refine wpAny_stack_any λst=>tq ?_
  split
  .rename_i c _ _ _ _ _
   cases (c==AAO "enumerate")<;>(wp_walk using ua hl,wF hT)<;>(refine⟨_,rfl,?_⟩;rw[uo];exact h)
  .wp_walk using ua hl,wF hT
   refine⟨_,rfl,?_⟩
   rw[uo]
   exact h
theorem Vo{l:uC}{items:uu tW}{Q:tW->tZ->Prop}(hT:s.heap.IsTuple l items)(h:∀h',IsEnum h' (s.heap.objs.size+1) s.heap.objs.size 0 .none->h'.IsTupleIter s.heap.objs.size l 0->(∀b o,s.heap.get? b=Gc o->h'.get? b=Gc o)->Q (.ref (s.heap.objs.size+1)) {s with heap:=h'}):wpAny (model prog w) A (call (.type "enumerate") [.ref l]) Q E s:=by
 obtain⟨⟨c,dct,dt,sl⟩,hl,hc,n,hd⟩:=hT
 simp only at hc hd
 subst hc hd
 refine callType_new F.called_enumerate (by decide) (F.typeCall_enumerate_1 _) (F.newCall_enumerate_1 _) (λobj=>F.args_object_init_2 obj _) F.entry_enumerate_new (YX l items n dct sl) ⟨hl,?_⟩
 have z:=uH (s.heap.push {cls:=.type "tuple_iterator",data:=.fields #[.ref l,.int 0 0]}) (o:={cls:=.type "enumerate",data:=.fields #[.none,.bool false,.ref s.heap.objs.size,rawInt 0,.none,.none]}) rfl
 rw[uo]at z
 exact⟨⟨_,z,rfl⟩,h _ z ⟨_,tV _ (uH _ rfl),rfl,rfl⟩ λb o x=>tV _ (tV _ x)⟩
end
section
variable{X:Cx}
end
end L2
end
noncomputable section
namespace L2
open PySem PySem.Spec PyProof.Rows
structure TopD(K:tU)(w:ur)(a:uC)(kvs:KE (Str×V)):Prop where
 ex:∃(es:uu DictEntry) (n:Nat),K.lookup a=Gc ⟨.type "dict",none,.dict es n, #[]⟩/\PySem.W.KeysLit w.params es.toList/\(a==sysModules)=false/\∀x,VG (kvs.lookup x) (findBy ABN es x)
section
variable{X:Cx}
end
end L2
end
noncomputable section
namespace L2
open PySem PySem.Spec PyProof.Rows
def SIt(h:uz)(j l:uC)(i:Nat)(its:uu tW):Prop:=(h.IsListIter j l i/\h.IsList l its)\/(h.IsTupleIter j l i/\h.IsTuple l its)
section
variable{prog:uT}{w:ur}{A:u5}{E:tW->tZ->Prop}{s:tZ}{h h':uz}{j l:uC}{i:Nat}{its:uu tW}
theorem SIt.at(q:SIt h j l i its)(k1:∀o,h.get? j=Gc o->h'.get? j=Gc o)(k2:∀o,h.get? l=Gc o->h'.get? l=Gc o):SIt h' j l i its:=by
 rcases q with⟨a,b⟩|⟨a,b⟩
 .exact .inl ⟨a.at k1,b.at k2⟩
 .exact .inr ⟨a.at k1,let⟨o,e,r⟩:=b;⟨o,k2 o e,r⟩⟩
theorem SIt.but{c:uC}(q:SIt h j l i its)(sb:ya c h h')(n1:j≠c)(n2:l≠c):SIt h' j l i its:=q.at (λo e=>sb _ o n1 e) λo e=>sb _ o n2 e
theorem SIt.live(q:SIt h j l i its):∃o,h.get? j=Gc o/\∀v,o.data≠.cell v:=by
 rcases q with⟨⟨o,a,b,c⟩,_⟩|⟨⟨o,a,b,c⟩,_⟩
 .exact⟨o,a,λv z=>by rw[c]at z;cases z⟩
 .exact⟨o,a,λv z=>by rw[c]at z;cases z⟩
theorem SIt.ne(q:SIt h j l i its):l≠j:=by
 rcases q with⟨⟨o,a,b,_⟩,⟨o2,a2,b2,_⟩⟩|⟨⟨o,a,b,_⟩,⟨o2,a2,b2,_⟩⟩
 .intro z;subst z;rw[a]at a2;cases a2;rw[b]at b2;injection b2 with q;exact absurd q (by decide)
 .intro z;subst z;rw[a]at a2;cases a2;rw[b]at b2;injection b2 with q;exact absurd q (by decide)
theorem NM{x:tW}{Q:tW->tZ->Prop}(q:SIt s.heap j l i its)(hx:its[i]?=Gc x)(k:∀h',SIt h' j l (i+1) its->wY j s.heap h'->Q x {s with heap:=h'}):wpAny (model prog w) A (u6 (.ref j)) Q E s:=by
 have n:=q.ne
 rcases q with⟨a,b⟩|⟨a,b⟩
 .exact wpAny_nextOf_list_item a b hx λh' a' sb=>k h' (.inl ⟨a',b.extBut sb.extBut n⟩) sb
 .exact aM a b hx λh' a' sb=>k h' (.inr ⟨a',let⟨o,e,r⟩:=b;⟨o,sb.extBut _ o n e,r⟩⟩) sb
theorem NA{Q:tW->tZ->Prop}(hh:A.handled=none)(q:SIt s.heap j l i its)(hx:its[i]?=none)(k:∀h' e,ya j s.heap h'->(∃o,h'.get? e=Gc o/\o.cls=.type "StopIteration")->E (.ref e) {s with heap:=h'}):wpAny (model prog w) A (u6 (.ref j)) Q E s:=by
 rcases q with⟨a,b⟩|⟨a,b⟩
 .exact wpAny_nextOf_list_end hh a b hx k
 .exact ZY hh a b hx k
theorem W3{z ti tt j1 j2 l1 l2:uC}{m:Nat}{xs ys:uu tW}{x y u1 u2:tW}{Q:tW->tZ->Prop}(D:ZipApart z ti tt j1 j2 l1 l2)(oz:zZ s.heap z ti tt .none)(oi:xS s.heap ti (.ref j1) (.ref j2))(ot:xS s.heap tt u1 u2)(q1:SIt s.heap j1 l1 m xs)(q2:SIt s.heap j2 l2 m ys)(ex:xs[m]?=Gc x)(ey:ys[m]?=Gc y)(k:∀h',zZ h' z ti tt (rawInt s.heap.objs.size)->xS h' tt x y->SIt h' j1 l1 (m+1) xs->SIt h' j2 l2 (m+1) ys->xS h' s.heap.objs.size x y->(∀c o,c≠z->c≠tt->c≠j1->c≠j2->s.heap.get? c=Gc o->h'.get? c=Gc o)->Q (.ref s.heap.objs.size) {s with heap:=h'}):wpAny (model prog w) A (wJ.«zip.__next__» ⟨[.ref z],[]⟩) (λfin s'=>∃v,fin=.done (.ret v)/\Q v s') E s:=by
 show wpAny _ _ (field (.ref z) 2 >>= _) _ _ _
 refine Wp (we oz rfl (x:=.bool false) rfl ?_)
 show wpAny _ _ (field (.ref z) 3 >>= _) _ _ _
 refine Wp (we oz rfl (x:=.ref ti) rfl (Wp (wL oi rfl ?_)))
 show wpAny _ _ (vx (.ref z) >>= _) _ _ _
 refine Wp ?_
 unfold vx
 refine Wp (we oz rfl (x:=.none) rfl (tq ?_))
 simp only[yj]
 refine Wp (xP (Wp (we oz rfl (x:=.ref tt) rfl (Wp (xA oz (by simp) λg1 oz1 b1=>?_)))))
 have oz1:zZ g1 z ti tt .ellipsis:=oz1
 refine Wp ?_
 simp only[yy,List.zipIdx_nil,AAl,AAy]
 refine Wp (Wp (z8 ?_))
 show wpAny _ _ (u6 (.ref j1) >>= _) _ _ _
 refine Wp (NM (q1.but b1.extBut D.i1z D.l1z) ex λg2 q12 b2=>tq ?_)
 have ot2:xS g2 tt u1 u2:=b2.extBut _ _ D.TOi1 (b1.extBut _ _ D.TOz ot)
 refine Wp (wL ot2 rfl (Wp (zC ot2 λg3 ot3 b3=>?_)))
 have ot3:xS g3 tt x u2:=ot3
 refine Wp (AAz (tq (Wp (Wp (z8 ?_)))))
 show wpAny _ _ (u6 (.ref j2) >>= _) _ _ _
 refine Wp (NM (((q2.but b1.extBut D.i2z D.l2z).but b2.extBut D.i12.symm D.l2i1).but b3.extBut D.TOi2.symm D.l2TO) ey λg4 q24 b4=>tq ?_)
 have ot4:xS g4 tt x u2:=b4.extBut _ _ D.TOi2 ot3
 refine Wp (wL ot4 rfl (Wp (zC ot4 λg5 ot5 b5=>?_)))
 have ot5:xS g5 tt x y:=ot5
 refine Wp (AAz (tq (tq (Wp (wL ot5 rfl (Wp (wpAny_newTuple ?_)))))))
 have sz:g5.objs.size=s.heap.objs.size:=by rw[b5.1,b4.1,b3.1,b2.1,b1.1]
 have oz5:zZ g5 z ti tt .ellipsis:=b5.extBut _ _ D.TOz.symm (b4.extBut _ _ D.i2z.symm (b3.extBut _ _ D.TOz.symm (b2.extBut _ _ D.i1z.symm oz1)))
 have k5:∀c o,c≠z->c≠tt->c≠j1->c≠j2->s.heap.get? c=Gc o->g5.get? c=Gc o:=λc o c1 c2 c3 c4 e=>b5.extBut _ _ c2 (b4.extBut _ _ c4 (b3.extBut _ _ c2 (b2.extBut _ _ c3 (b1.extBut _ _ c1 e))))
 have q15:SIt g5 j1 l1 (m+1) xs:=((q12.but b3.extBut D.TOi1.symm D.l1TO).but b4.extBut D.i12 D.l1i2).but b5.extBut D.TOi1.symm D.l1TO
 have q25:SIt g5 j2 l2 (m+1) ys:=q24.but b5.extBut D.TOi2.symm D.l2TO
 have zlt:z<g5.objs.size:=uK oz5
 show wpAny _ _ (yO (.ref z) (.ref g5.objs.size) >>= _) _ _ _
 refine Wp ?_
 unfold yO
 have oz6:zZ (g5.push {cls:=.type "tuple",data:=.seq #[x,y]}) z ti tt .ellipsis:=tV _ oz5
 refine Wp (xA oz6 (by simp) λg7 oz7 b7=>?_)
 have oz7:zZ g7 z ti tt (rawInt g5.objs.size):=oz7
 refine xA oz7 (by simp) λg8 oz8 b8=>?_
 have oz8:zZ g8 z ti tt (rawInt g5.objs.size):=oz8
 have up:∀c o,c≠z->g5.get? c=Gc o->g8.get? c=Gc o:=λc o c1 e=>b8.extBut _ _ c1 (b7.extBut _ _ c1 (tV _ e))
 have op8:xS g8 g5.objs.size x y:=b8.extBut _ _ (yd zlt) (b7.extBut _ _ (yd zlt) (uH _ rfl))
 rw[sz]at oz8 op8
 refine tq ⟨_,rfl,?_⟩
 show Q (.ref g5.objs.size) _
 rw[sz]
 exact k g8 oz8 (up _ _ D.TOz ot5) (q15.at (λo e=>up _ o D.i1z e) λo e=>up _ o D.l1z e) (q25.at (λo e=>up _ o D.i2z e) λo e=>up _ o D.l2z e) op8 λc o c1 c2 c3 c4 e=>up c o c1 (k5 c o c1 c2 c3 c4 e)
theorem aL{z ti tt j1 j2 l1 l2:uC}{m:Nat}{xs ys:uu tW}{u1 u2:tW}{Q:Fin->tZ->Prop}(hh:A.handled=none)(D:ZipApart z ti tt j1 j2 l1 l2)(oz:zZ s.heap z ti tt .none)(oi:xS s.heap ti (.ref j1) (.ref j2))(ot:xS s.heap tt u1 u2)(q1:SIt s.heap j1 l1 m xs)(q2:SIt s.heap j2 l2 m ys)(en:xs[m]?=none\/ys[m]?=none)(k:∀h' e,(∀c o,c≠z->c≠tt->c≠j1->c≠j2->s.heap.get? c=Gc o->h'.get? c=Gc o)->(∃o,h'.get? e=Gc o/\o.cls=.type "StopIteration")->E (.ref e) {s with heap:=h'}):wpAny (model prog w) A (wJ.«zip.__next__» ⟨[.ref z],[]⟩) Q E s:=by
 show wpAny _ _ (field (.ref z) 2 >>= _) _ _ _
 refine Wp (we oz rfl (x:=.bool false) rfl ?_)
 show wpAny _ _ (field (.ref z) 3 >>= _) _ _ _
 refine Wp (we oz rfl (x:=.ref ti) rfl (Wp (wL oi rfl ?_)))
 show wpAny _ _ (vx (.ref z) >>= _) _ _ _
 refine Wp ?_
 unfold vx
 refine Wp (we oz rfl (x:=.none) rfl (tq ?_))
 simp only[yj]
 refine Wp (xP (Wp (we oz rfl (x:=.ref tt) rfl (Wp (xA oz (by simp) λg1 oz1 b1=>?_)))))
 have oz1:zZ g1 z ti tt .ellipsis:=oz1
 refine Wp ?_
 simp only[yy,List.zipIdx_nil,AAl,AAy]
 refine Wp (Wp (z8 ?_))
 show wpAny _ _ (u6 (.ref j1) >>= _) _ _ _
 cases ex:xs[m]? with
 |none=>
  refine Wp (NA hh (q1.but b1.extBut D.i1z D.l1z) ex λg2 e b2 he=>?_)
  obtain⟨oe,e1,e2⟩:=he
  have oz2:zZ g2 z ti tt .ellipsis:=b2 _ _ D.i1z.symm oz1
  have nez:e≠z:=λx=>by subst x;rw[oz2]at e1;cases e1;simp at e2
  exact xA oz2 (by simp) λg3 _ b3=>k g3 e (λc o c1 _ c3 _ x=>b3.extBut _ _ c1 (b2 _ _ c3 (b1.extBut _ _ c1 x))) ⟨oe,b3.extBut _ _ nez e1,e2⟩
 |some x=>
  have ey:ys[m]?=none:=by
   rcases en with z|z
   .rw[ex]at z;cases z
   .exact z
  refine Wp (NM (q1.but b1.extBut D.i1z D.l1z) ex λg2 q12 b2=>tq ?_)
  have ot2:xS g2 tt u1 u2:=b2.extBut _ _ D.TOi1 (b1.extBut _ _ D.TOz ot)
  refine Wp (wL ot2 rfl (Wp (zC ot2 λg3 ot3 b3=>?_)))
  refine Wp (AAz (tq (Wp (Wp (z8 ?_)))))
  show wpAny _ _ (u6 (.ref j2) >>= _) _ _ _
  refine Wp (NA hh (((q2.but b1.extBut D.i2z D.l2z).but b2.extBut D.i12.symm D.l2i1).but b3.extBut D.TOi2.symm D.l2TO) ey λg4 e b4 he=>?_)
  obtain⟨oe,e1,e2⟩:=he
  have oz4:zZ g4 z ti tt .ellipsis:=b4 _ _ D.i2z.symm (b3.extBut _ _ D.TOz.symm (b2.extBut _ _ D.i1z.symm oz1))
  have nez:e≠z:=λx=>by subst x;rw[oz4]at e1;cases e1;simp at e2
  exact xA oz4 (by simp) λg5 _ b5=>k g5 e (λc o c1 c2 c3 c4 x=>b5.extBut _ _ c1 (b4 _ _ c4 (b3.extBut _ _ c2 (b2.extBut _ _ c3 (b1.extBut _ _ c1 x))))) ⟨oe,b5.extBut _ _ nez e1,e2⟩
theorem Vf{z ti tt j1 j2 l1 l2:uC}{m:Nat}{xs ys:uu tW}{x y u1 u2:tW}{Q:tY tW->tZ->Prop}(D:ZipApart z ti tt j1 j2 l1 l2)(oz:zZ s.heap z ti tt .none)(oi:xS s.heap ti (.ref j1) (.ref j2))(ot:xS s.heap tt u1 u2)(q1:SIt s.heap j1 l1 m xs)(q2:SIt s.heap j2 l2 m ys)(ex:xs[m]?=Gc x)(ey:ys[m]?=Gc y)(k:∀h',zZ h' z ti tt (rawInt s.heap.objs.size)->xS h' tt x y->SIt h' j1 l1 (m+1) xs->SIt h' j2 l2 (m+1) ys->xS h' s.heap.objs.size x y->(∀c o,c≠z->c≠tt->c≠j1->c≠j2->s.heap.get? c=Gc o->h'.get? c=Gc o)->Q (Gc (.ref s.heap.objs.size)) {s with heap:=h'}):wpAny (model prog w) A (pyNext (.ref z)) Q E s:=by
 have ht:s.TypeIs (.ref z) "zip":=⟨_,oz,rfl⟩
 unfold pyNext
 exact Wp (yS (vA (name:=vQ "__next__") ht zK (u9 zK ht F.entry_zip_next
  (W3 D oz oi ot q1 q2 ex ey λh' a1 a2 a3 a4 a5 a6=>tq (k h' a1 a2 a3 a4 a5 a6)) (F.args_zip_next_1 _))))
theorem XX{z ti tt j1 j2 l1 l2:uC}{m:Nat}{xs ys:uu tW}{u1 u2:tW}{Q:tY tW->tZ->Prop}(hh:A.handled=none)(D:ZipApart z ti tt j1 j2 l1 l2)(oz:zZ s.heap z ti tt .none)(oi:xS s.heap ti (.ref j1) (.ref j2))(ot:xS s.heap tt u1 u2)(q1:SIt s.heap j1 l1 m xs)(q2:SIt s.heap j2 l2 m ys)(en:xs[m]?=none\/ys[m]?=none)(k:∀h',(∀c o,c≠z->c≠tt->c≠j1->c≠j2->s.heap.get? c=Gc o->h'.get? c=Gc o)->Q none {s with heap:=h'}):wpAny (model prog w) A (pyNext (.ref z)) Q E s:=by
 have ht:s.TypeIs (.ref z) "zip":=⟨_,oz,rfl⟩
 unfold pyNext
 refine Wp (yS (vA (name:=vQ "__next__") ht zK (u9 zK ht F.entry_zip_next
  (aL hh D oz oi ot q1 q2 en λh' e kp he=>?_) (F.args_zip_next_1 _))))
 obtain⟨o,e1,e2⟩:=he
 exact Wp (yJ (T:="StopIteration") (b:=true) ⟨o,e1,e2⟩ AA0 (tq (k _ kp)))
end
end L2
end
noncomputable section
namespace L2
open PySem PySem.Spec PyProof.Rows
def Oq(h:uz)(b:uv)(l:uC)(its:uu tW):Prop:=match b with|true=>h.IsTuple l its|false=>h.IsList l its
noncomputable def iy:uv->xD|true=>"tuple_iterator" |false=>"list_iterator"
noncomputable def zh1(h:uz)(b:uv)(l:uC):uz:=h.push {cls:=.type (iy b),data:=.fields #[.ref l,.int 0 0]}
noncomputable def zh2(h:uz)(b c:uv)(l m:uC):uz:=zh1 (zh1 h b l) c m
noncomputable def zh3(h:uz)(b c:uv)(l m:uC):uz:=(zh2 h b c l m).push {cls:=.type "tuple",data:=.seq #[.ref h.objs.size,.ref (zh1 h b l).objs.size]}
noncomputable def zh4(h:uz)(b c:uv)(l m:uC):uz:=(zh3 h b c l m).push {cls:=.type "tuple",data:=.seq #[.none,.none]}
noncomputable def zh5(h:uz)(b c:uv)(l m:uC):uz:=(zh4 h b c l m).push {cls:=.type "zip",data:=.fields #[.none,.bool false,.bool false,.ref (zh2 h b c l m).objs.size,.ref (zh3 h b c l m).objs.size]}
theorem Oq.push{h:uz}{b:uv}{l:uC}{its:uu tW}(q:Oq h b l its)(o:Obj):Oq (h.push o) b l its:=by
 cases b
 .exact Heap.IsList.push q _
 .obtain⟨u,e,r⟩:=(show h.IsTuple l its from q)
  exact⟨u,tV _ e,r⟩
theorem Z1(b c:uv)(l m:uC)(xs ys:uu tW):Meets (wJ.«zip.__new__» ⟨[.type "zip",.ref l,.ref m],[]⟩) (λ_ R s=>Oq s.heap b l xs/\Oq s.heap c m ys/\R (.ok (.ret (.ref (zh4 s.heap b c l m).objs.size))) {s with heap:=zh5 s.heap b c l m}):=
 .of_wp λprog w A R s hyp=>by
  obtain⟨hp,gs,dr,tk,os⟩:=s
  obtain⟨i1,i2,hyp⟩:=hyp
  have hsub:=sub_zip
  have i3:Oq (xN ⟨zh1 hp b l,gs,dr,tk,os⟩) c m ys:=Oq.push i2 _
  cases b<;>cases c
  .have a1:AA1 (xN ⟨hp,gs,dr,tk,os⟩) l xs:=i1
   have a2:AA1 (xN ⟨hp.push {cls:=.type "list_iterator",data:=.fields #[.ref l,.int 0 0]},gs,dr,tk,os⟩) m ys:=i3
   wp_walk using v8 a1,v8 a2
   exact⟨_,rfl,hyp⟩
  .have a1:AA1 (xN ⟨hp,gs,dr,tk,os⟩) l xs:=i1
   have a2:zQ (xN ⟨hp.push {cls:=.type "list_iterator",data:=.fields #[.ref l,.int 0 0]},gs,dr,tk,os⟩) m ys:=i3
   wp_walk using v8 a1,wF a2
   exact⟨_,rfl,hyp⟩
  .have a1:zQ (xN ⟨hp,gs,dr,tk,os⟩) l xs:=i1
   have a2:AA1 (xN ⟨hp.push {cls:=.type "tuple_iterator",data:=.fields #[.ref l,.int 0 0]},gs,dr,tk,os⟩) m ys:=i3
   wp_walk using wF a1,v8 a2
   exact⟨_,rfl,hyp⟩
  .have a1:zQ (xN ⟨hp,gs,dr,tk,os⟩) l xs:=i1
   have a2:zQ (xN ⟨hp.push {cls:=.type "tuple_iterator",data:=.fields #[.ref l,.int 0 0]},gs,dr,tk,os⟩) m ys:=i3
   wp_walk using wF a1,wF a2
   exact⟨_,rfl,hyp⟩
section
variable{prog:uT}{w:ur}{A:u5}{E:tW->tZ->Prop}{s:tZ}
theorem dB{h h':uz}{b:uv}{l j:uC}{its:uu tW}(q:Oq h b l its)(k:∀c o,h.get? c=Gc o->h'.get? c=Gc o)(e:h'.get? j=Gc {cls:=.type (iy b),data:=.fields #[.ref l,.int 0 0]}):SIt h' j l 0 its:=by
 cases b
 .exact .inl ⟨⟨_,e,rfl,rfl⟩,(show h.IsList l its from q).at λo z=>k _ o z⟩
 .exact .inr ⟨⟨_,e,rfl,rfl⟩,let⟨o,z,r⟩:=(show h.IsTuple l its from q);⟨o,k _ o z,r⟩⟩
theorem XO{b c:uv}{l m:uC}{xs ys:uu tW}{Q:tW->tZ->Prop}(i1:Oq s.heap b l xs)(i2:Oq s.heap c m ys)(k:∀h',zZ h' (s.heap.objs.size+4) (s.heap.objs.size+2) (s.heap.objs.size+3) .none->xS h' (s.heap.objs.size+2) (.ref s.heap.objs.size) (.ref (s.heap.objs.size+1))->xS h' (s.heap.objs.size+3) .none .none->SIt h' s.heap.objs.size l 0 xs->SIt h' (s.heap.objs.size+1) m 0 ys->(∀c o,s.heap.get? c=Gc o->h'.get? c=Gc o)->Q (.ref (s.heap.objs.size+4)) {s with heap:=h'}):wpAny (model prog w) A (call (.type "zip") [.ref l,.ref m]) Q E s:=by
 refine callType_new F.called_zip (by decide) (F.typeCall_zip_2 _ _) (F.newCall_zip_2 _ _) (λobj=>F.args_object_init_3 obj _ _) F.entry_zip_new (Z1 b c l m xs ys) ⟨i1,i2,?_⟩
 have z1:(zh1 s.heap b l).objs.size=s.heap.objs.size+1:=uo ..
 have z2:(zh2 s.heap b c l m).objs.size=s.heap.objs.size+2:=by unfold zh2 zh1;rw[uo];exact congrArg (· +1) z1
 have z3:(zh3 s.heap b c l m).objs.size=s.heap.objs.size+3:=by unfold zh3;rw[uo,z2]
 have z4:(zh4 s.heap b c l m).objs.size=s.heap.objs.size+4:=by unfold zh4;rw[uo,z3]
 have kp:∀d o,s.heap.get? d=Gc o->(zh5 s.heap b c l m).get? d=Gc o:=λd o e=>by
  unfold zh5 zh4 zh3 zh2 zh1
  exact tV _ (tV _ (tV _ (tV _ (tV _ e))))
 have g5:(zh5 s.heap b c l m).get? (zh4 s.heap b c l m).objs.size=Gc _:=uH _ rfl
 have g4:(zh5 s.heap b c l m).get? (zh3 s.heap b c l m).objs.size=Gc _:=tV _ (uH _ rfl)
 have g3:(zh5 s.heap b c l m).get? (zh2 s.heap b c l m).objs.size=Gc _:=tV _ (tV _ (uH _ rfl))
 have g2:(zh5 s.heap b c l m).get? (zh1 s.heap b l).objs.size=Gc _:=tV _ (tV _ (tV _ (uH _ rfl)))
 have g1:(zh5 s.heap b c l m).get? s.heap.objs.size=Gc _:=tV _ (tV _ (tV _ (tV _ (uH _ rfl))))
 show _/\_
 rw[z2,z3,z4]at g5
 rw[z1,z2]at g3
 rw[z3]at g4
 rw[z1]at g2
 rw[z4]
 exact⟨⟨_,g5,rfl⟩,k _ g5 g3 g4 (dB i1 kp g1) (dB i2 kp g2) kp⟩
end
end L2
end
noncomputable section
namespace L2
open PySem PySem.Spec PyProof.Rows
def SqB(K:tU)(H:Hp)(k:uv)(a:uC)(xs:KE V):Prop:=match k with|true=>SqT K H a xs|false=>SqL K H a xs
def JIt(h:uz)(k:uv)(j l:uC)(i:Nat):Prop:=match k with|true=>h.IsTupleIter j l i|false=>h.IsListIter j l i
theorem JIt.at{h h':uz}{k:uv}{j l:uC}{i:Nat}(q:JIt h k j l i)(e:∀o,h.get? j=Gc o->h'.get? j=Gc o):JIt h' k j l i:=by
 cases k
 .exact Heap.IsListIter.at q e
 .exact Heap.IsTupleIter.at q e
theorem JIt.sit{h:uz}{k:uv}{j l:uC}{i:Nat}{its:uu tW}(q:JIt h k j l i)(p:Oq h k l its):SIt h j l i its:=by
 cases k
 .exact .inl ⟨q,p⟩
 .exact .inr ⟨q,p⟩
theorem SIt.jit{h:uz}{k:uv}{j l:uC}{i:Nat}{its:uu tW}(q:SIt h j l i its)(p:Oq h k l its):JIt h k j l i:=by
 rcases q with⟨q,r⟩|⟨q,r⟩
 .cases k
  .exact q
  .obtain⟨o,e,c,_⟩:=r;obtain⟨o',e',c',_⟩:=(show h.IsTuple l its from p)
   rw[e]at e';cases e';rw[c]at c';injection c' with z;exact absurd z (by decide)
 .cases k
  .obtain⟨o,e,c,_⟩:=r;obtain⟨o',e',c',_⟩:=(show h.IsList l its from p)
   rw[e]at e';cases e';rw[c]at c';injection c' with z;exact absurd z (by decide)
  .exact q
theorem Inv.sqB{X:Cx}{pins:KE (uC×Obj)}{σ:St}{H:Hp}{s:tZ}{k:uv}{a:uC}{xs:KE V}(I:Inv X pins σ H s)(h:SqB X.K H k a xs):∃its:KE tW,Vals xs its/\Oq s.heap k a its.toArray:=by
 cases k
 .obtain⟨its,h1,⟨o,n,q1,q2,_,q3⟩,h3⟩:=I.list h
  exact⟨its,h1,o,q1,q2,n,q3⟩
 .obtain⟨its,h1,h2,h3⟩:=I.tuple h
  exact⟨its,h1,h2⟩
theorem Inv.Tj{X:Cx}{pins:KE (uC×Obj)}{σ:St}{H:Hp}{s:tZ}{k:uv}{a:uC}{xs ys:KE V}(I:Inv X pins σ H s)(h:SqB X.K H k a xs)(g:SqB X.K H k a ys):xs=ys:=by
 cases k
 .exact I.UX h g
 .exact I.SR h g
noncomputable def Itz(K:tU)(k:uv)(a:uC)(m:uv)(b:uC):It:=
 ⟨λi H=>∃(xs ys:KE V) (x y:V),SqB K H k a xs/\SqB K H m b ys/\xs[i]?=Gc x/\ys[i]?=Gc y,
  λi H v H'=>∃(p:uC) (x y:V),H p=none/\v=.ref p/\(∀xs,SqB K H k a xs->xs[i]?=Gc x)/\(∀ys,SqB K H m b ys->ys[i]?=Gc y)/\H'=upd H p (.tup [x,y]),
  λi H=>∃(xs ys:KE V),SqB K H k a xs/\SqB K H m b ys/\(xs.length<=i\/ys.length<=i)⟩
structure ZSt(h:uz)(z ti tt j1 j2:uC)(k:uv)(a:uC)(m:uv)(b:uC)(i:Nat):Prop where
 oz:zZ h z ti tt .none
 oi:xS h ti (.ref j1) (.ref j2)
 ot:∃u v,xS h tt u v
 q1:JIt h k j1 a i
 q2:JIt h m j2 b i
structure ZNe(z ti tt j1 j2:uC):Prop where
 n1:ti≠z
 n2:tt≠z
 n3:j1≠z
 n4:j2≠z
 n5:ti≠tt
 n6:ti≠j1
 n7:ti≠j2
 n8:tt≠j1
 n9:tt≠j2
 n10:j1≠j2
theorem ZNe.apart{z ti tt j1 j2 a b:uC}(N:ZNe z ti tt j1 j2)(ha:a∉ [z,tt,j1,j2])(hb:b∉ [z,tt,j1,j2]):ZipApart z ti tt j1 j2 a b:=by
 simp only[uF,uY,vg,AAX]at ha hb
 exact⟨N.n1,N.n2,N.n3,N.n4,N.n5,N.n6,N.n7,N.n8,N.n9,N.n10,ha.1,ha.2.1,ha.2.2.1,ha.2.2.2,hb.1,hb.2.1,hb.2.2.1,hb.2.2.2⟩
theorem B8{X:Cx}{pins:KE (uC×Obj)}{σ:St}{H:Hp}{s:tZ}{k:uv}{a c:uC}{xs:KE V}(I:Inv X pins σ H s)(q:SqB X.K H k a xs)(f:Ss X pins H c):a≠c:=by
 intro e
 subst e
 have rd:∀o,Rd H a o->xy:=λo r=>by
  rcases r with r|⟨_,r⟩<;>(rw[f.1]at r;cases r)
 have kk:∀o,X.K.lookup a=Gc o->xy:=λo hk=>by
  have b:=I.ok.mod.kin a o hk
  rcases f.2.2.2.1 with z|z
  .exact I.ok.dU a o b z
  .exact absurd (t9 (uK (I.ok.bs a o b).1) z) (vV _)
 cases k
 .rcases(show SqL X.K H a xs from q)with q|⟨o,_,_,hk,_⟩
  .exact rd _ q
  .exact kk o hk
 .rcases(show SqT X.K H a xs from q)with q|⟨o,_,_,hk,_⟩
  .exact rd _ q
  .exact kk o hk
theorem Z7{P:uT}{w:ur}{K:tU}{elts:KE ui}{n:Nat}{pos:Pos}(k:uv)(a:uC)(m:uv)(b:uC)(z ti tt j1 j2:uC)(N:ZNe z ti tt j1 j2):Turn P w K (.Tuple elts n pos) (Itz K k a m b) [z,ti,tt,j1,j2] z (λi h=>ZSt h z ti tt j1 j2 k a m b i) where
 mem:=by simp
 obj:=λi h st c hc=>by
  have jl:∀{q:uv} {j l:uC},JIt h q j l i->∃o,h.get? j=Gc o/\∀v,o.data≠.cell v:=λ{q j l} x=>by
   cases q
   .obtain⟨o,e,_,d⟩:=(show h.IsListIter j l i from x)
    exact⟨o,e,λv z=>by rw[d]at z;cases z⟩
   .obtain⟨o,e,_,d⟩:=(show h.IsTupleIter j l i from x)
    exact⟨o,e,λv z=>by rw[d]at z;cases z⟩
  simp only[uF,uY,vg]at hc
  rcases hc with rfl|rfl|rfl|rfl|rfl
  .exact⟨_,st.oz,λv z=>nomatch z⟩
  .exact⟨_,st.oi,λv z=>nomatch z⟩
  .obtain⟨u,v,e⟩:=st.ot
   exact⟨_,e,λv z=>nomatch z⟩
  .exact jl st.q1
  .exact jl st.q2
 keep:=λi h h' st kp=>⟨kp z (by simp) _ st.oz,kp ti (by simp) _ st.oi,let⟨u,v,e⟩:=st.ot;⟨u,v,kp tt (by simp) _ e⟩,st.q1.at λo e=>kp j1 (by simp) o e,st.q2.at λo e=>kp j2 (by simp) o e⟩
 item:=by
  intro X hP hw hK hc i pins s σ H E I hf st hg
  subst hP hw hK
  obtain⟨xs,ys,x,y,s1,s2,e1,e2⟩:=hg
  obtain⟨i1,r1,p1⟩:=I.sqB s1
  obtain⟨i2,r2,p2⟩:=I.sqB s2
  obtain⟨u1,h1,ru1⟩:=r1.get e1
  obtain⟨u2,h2,ru2⟩:=r2.get e2
  have fz:=hf z (by simp);have fi:=hf ti (by simp);have ft:=hf tt (by simp);have f1:=hf j1 (by simp);have f2:=hf j2 (by simp)
  have ap:=N.apart (a:=a) (b:=b) (by simp[B8 I s1 fz,B8 I s1 ft,B8 I s1 f1,B8 I s1 f2]) (by simp[B8 I s2 fz,B8 I s2 ft,B8 I s2 f1,B8 I s2 f2])
  obtain⟨v1,v2,ot⟩:=st.ot
  refine Vf ap st.oz st.oi ot (st.q1.sit p1) (st.q2.sit p2) (x:=u1) (y:=u2) (by simpa using h1) (by simpa using h2) λh' oz ot' q1 q2 op kp=>⟨_,rfl,wpAny_letOwnedTupleGo_zip oz λg oz' sb=>?_⟩
  have lt:∀c o,s.heap.get? c=Gc o->c≠s.heap.objs.size:=λc o q=>uR (uK q)
  have nz:z≠s.heap.objs.size:=lt _ _ st.oz
  have nt:tt≠s.heap.objs.size:=lt _ _ ot
  have n1:j1≠s.heap.objs.size:=by obtain⟨o,e,_⟩:=(st.q1.sit p1).live;exact lt _ _ e
  have n2:j2≠s.heap.objs.size:=by obtain⟨o,e,_⟩:=(st.q2.sit p2).live;exact lt _ _ e
  have kp2:∀c o,c≠z->c≠tt->c≠j1->c≠j2->s.heap.get? c=Gc o->g.get? c=Gc o:=λc o c1 c2 c3 c4 q=>(sb.2 c c1).trans (kp c o c1 c2 c3 c4 q)
  have fr:H s.heap.objs.size=none:=I.hok.fresh (tw _)
  have op2:g.get? s.heap.objs.size=Gc {cls:=.type "tuple",data:=.seq #[u1,u2]}:=(sb.2 _ (vZ nz)).trans op
  have ne:∀c u,c∈ [z,ti,tt,j1,j2]->∀d,H d=Gc u->d≠c:=λc u hc d q e=>by rw[e,(hf c hc).1]at q;cases q
  have kpH:∀c u,H c=Gc u->∀o,s.heap.get? c=Gc o->g.get? c=Gc o:=λc u q o e=>kp2 c o (ne z u (by simp) c q) (ne tt u (by simp) c q) (ne j1 u (by simp) c q) (ne j2 u (by simp) c q) e
  have ka:∀o,s.heap.get? a=Gc o->g.get? a=Gc o:=λo e=>kp2 a o (B8 I s1 fz) (B8 I s1 ft) (B8 I s1 f1) (B8 I s1 f2) e
  have kb:∀o,s.heap.get? b=Gc o->g.get? b=Gc o:=λo e=>kp2 b o (B8 I s2 fz) (B8 I s2 ft) (B8 I s2 f1) (B8 I s2 f2) e
  have sq:∀{q:uv} {d:uC} {is:uu tW},Oq s.heap q d is->(∀o,s.heap.get? d=Gc o->h'.get? d=Gc o)->Oq h' q d is:=λ{q d is} x kd=>by
   cases q
   .exact(show s.heap.IsList d is from x).at kd
   .obtain⟨o,e,r⟩:=(show s.heap.IsTuple d is from x)
    exact⟨o,kd o e,r⟩
  have ka1:∀o,s.heap.get? a=Gc o->h'.get? a=Gc o:=λo e=>kp a o (B8 I s1 fz) (B8 I s1 ft) (B8 I s1 f1) (B8 I s1 f2) e
  have kb1:∀o,s.heap.get? b=Gc o->h'.get? b=Gc o:=λo e=>kp b o (B8 I s2 fz) (B8 I s2 ft) (B8 I s2 f1) (B8 I s2 f2) e
  refine⟨.ref s.heap.objs.size,upd H s.heap.objs.size (.tup [x,y]),?_,rfl,⟨_,x,y,fr,rfl,λzs hz=>by rw[I.Tj hz s1];exact e1,λzs hz=>by rw[I.Tj hz s2];exact e2,rfl⟩,⟨oz',(sb.2 _ N.n1).trans (kp ti _ N.n1 N.n5 N.n6 N.n7 st.oi),⟨_,_,(sb.2 _ N.n2).trans ot'⟩,(q1.jit (sq p1 ka1)).at λo e=>(sb.2 _ N.n3).trans e,(q2.jit (sq p2 kb1)).at λo e=>(sb.2 _ N.n4).trans e⟩,?_⟩
  .show Inv X pins σ _ {s with heap:=g,gens:=s.gens,drawn:=s.drawn,toks:=s.toks}
   refine I.step (g':=s.gens) (d':=s.drawn) (ch:=[z,tt,j1,j2]) ?_ ?_ ?_ ?_ ?_ ?_ ?_ ?_ ?_ ?_ I.bare
   .intro c hc
    have q:Ss X pins H c:=hf c (by simp only[uF,uY,vg]at hc ⊢; rcases hc with z|z|z|z<;>simp[z])
    exact⟨q.2.2.2.1,q.2.1,q.2.2.2.2.1,q.2.2.2.2.2⟩
   .exact λc o _ _ hc q _=>by
     simp only[uF,uY,vg,AAX]at hc
     exact kp2 c o hc.1 hc.2.1 hc.2.2.1 hc.2.2.2 q
   .exact λc o _ _ hc q _=>by
     simp only[uF,uY,vg,AAX]at hc
     exact⟨o.slots,kp2 c o hc.1 hc.2.1 hc.2.2.1 hc.2.2.2 q⟩
   .exact λc o _ q n=>by rw[An (lt c o q)];exact n
   .exact λc o hc q=>by
     simp only[uF,uY,vg,AAX]at hc
     exact⟨o,kp2 c o hc.1 hc.2.1 hc.2.2.1 hc.2.2.2 q⟩
   .exact λc ys q=>by rw[An (Bq q fr)];exact q
   .exact λc o u q=>by rw[An (Bq q fr)];exact q
   .exact λc ps q=>⟨#[],by rw[An (Bq q fr),q];simp⟩
   .rintro mm ⟨o,es,ep,ho,r⟩
    exact⟨o,es,ep,kp2 _ o (vZ fz.2.1) (vZ ft.2.1) (vZ f1.2.1) (vZ f2.2.1) ho,r⟩
   .intro c v q
    by_cases hb:c=s.heap.objs.size
    .subst hb
     rw[BM]at q
     cases q
     exact⟨by show 2<=sizeLine;decide,[u1,u2],.cons ru1 (.cons ru2 .nil),⟨_,op2,rfl,0,rfl⟩⟩
    .rw[An hb]at q
     refine(I.hok c v q).cQ (λd o hd r=>?_) (λd r=>by rw[An (Bq r fr)];exact r) (λd ys r=>by rw[An (Bq r fr)];exact r)
     rcases hd with e|e
     .rw[e]at r ⊢; exact kpH c v q o r
     .exact kpH d _ e o r
  .intro c hc
   have q:=hf c hc
   have:c≠s.heap.objs.size:=by
    simp only[uF,uY,vg]at hc
    rcases hc with e|e|e|e|e
    .rw[e];exact nz
    .rw[e];exact lt _ _ st.oi
    .rw[e];exact nt
    .rw[e];exact n1
    .rw[e];exact n2
   rw[An this];exact q.1
 done:=by
  intro X hP hw hK hc i pins s σ H E I hf st hg
  subst hP hw hK
  obtain⟨xs,ys,s1,s2,e⟩:=hg
  obtain⟨i1,r1,p1⟩:=I.sqB s1
  obtain⟨i2,r2,p2⟩:=I.sqB s2
  have l1:=r1.length
  have l2:=r2.length
  have hh:X.A.in1.handled=none:=I.ok.hd hc
  have hh0:X.A.handled=none:=I.ok.hd hc
  have fz:=hf z (by simp);have fi:=hf ti (by simp);have ft:=hf tt (by simp);have f1:=hf j1 (by simp);have f2:=hf j2 (by simp)
  have ap:=N.apart (a:=a) (b:=b) (by simp[B8 I s1 fz,B8 I s1 ft,B8 I s1 f1,B8 I s1 f2]) (by simp[B8 I s2 fz,B8 I s2 ft,B8 I s2 f1,B8 I s2 f2])
  obtain⟨v1,v2,ot⟩:=st.ot
  refine XX hh0 ap st.oz st.oi ot (st.q1.sit p1) (st.q2.sit p2) (by rcases e with e|e;exact .inl (by simp;lia);exact .inr (by simp;lia)) λh' kp=>⟨rfl,?_⟩
  have ne:∀c u,c∈ [z,ti,tt,j1,j2]->∀d,H d=Gc u->d≠c:=λc u hc d q e=>by rw[e,(hf c hc).1]at q;cases q
  show Inv X pins σ _ {s with heap:=h',gens:=s.gens,drawn:=s.drawn,toks:=s.toks}
  refine I.step (g':=s.gens) (d':=s.drawn) (ch:=[z,tt,j1,j2]) ?_ ?_ ?_ ?_ ?_ ?_ ?_ ?_ ?_ ?_ I.bare
  .intro c hc
   have q:Ss X pins H c:=hf c (by simp only[uF,uY,vg]at hc ⊢; rcases hc with z|z|z|z<;>simp[z])
   exact⟨q.2.2.2.1,q.2.1,q.2.2.2.2.1,q.2.2.2.2.2⟩
  .exact λc o _ _ hc q _=>by
    simp only[uF,uY,vg,AAX]at hc
    exact kp c o hc.1 hc.2.1 hc.2.2.1 hc.2.2.2 q
  .exact λc o _ _ hc q _=>by
    simp only[uF,uY,vg,AAX]at hc
    exact⟨o.slots,kp c o hc.1 hc.2.1 hc.2.2.1 hc.2.2.2 q⟩
  .exact λc o _ q n=>n
  .exact λc o hc q=>by
    simp only[uF,uY,vg,AAX]at hc
    exact⟨o,kp c o hc.1 hc.2.1 hc.2.2.1 hc.2.2.2 q⟩
  .exact λc ys q=>q
  .exact λc o u q=>q
  .exact λc ps q=>⟨#[],by rw[q];simp⟩
  .rintro mm ⟨o,es,ep,ho,r⟩
   exact⟨o,es,ep,kp _ o (vZ fz.2.1) (vZ ft.2.1) (vZ f1.2.1) (vZ f2.2.1) ho,r⟩
  .intro c v q
   refine(I.hok c v q).cQ (λd o hd r=>?_) (λd r=>r) (λd ys r=>r)
   rcases hd with e|e
   .rw[e]at r ⊢; exact kp c o (ne z v (by simp) c q) (ne tt v (by simp) c q) (ne j1 v (by simp) c q) (ne j2 v (by simp) c q) r
   .exact kp d o (ne z _ (by simp) d e) (ne tt _ (by simp) d e) (ne j1 _ (by simp) d e) (ne j2 _ (by simp) d e) r
 self:=λ_ _ _ _ _ st h=>wpAny_pyIter_zip st.oz h
end L2
end
noncomputable section
namespace L2
open PySem PySem.Spec PyProof.Rows
theorem zne(n:Nat):ZNe (n+4) (n+2) (n+3) n (n+1):=⟨λe=>by have:n+2=n+4:=e;lia,λe=>by have:n+3=n+4:=e;lia,λe=>by have:n=n+4:=e;lia,λe=>by have:n+1=n+4:=e;lia,λe=>by have:n+2=n+3:=e;lia,λe=>by have:n+2=n:=e;lia,λe=>by have:n+2=n+1:=e;lia,λe=>by have:n+3=n:=e;lia,λe=>by have:n+3=n+1:=e;lia,λe=>by have:n=n+1:=e;lia⟩
section
variable{X:Cx}
noncomputable def sM(K:tU)(ta:TA):TI:=λσ H R=>ta σ H λvs H1=>∃k a m b,vs=[.ref a,.ref b]/\(∃xs,SqB K H1 k a xs)/\(∃ys,SqB K H1 m b ys)/\R (Itz K k a m b) H1
theorem jc{a b:ui}{ta:TA}{p pos tp:Pos}{elts:KE ui}{n:Nat}(hg:Gl X "zip")(hm:X.mg "zip"=none)(ha:PA X [a,b] ta)(hs:uW [a,b] X.env=[(false,eval a X.env),(false,eval b X.env)]:=by rfl)(hs2:uW [b] X.env=[(false,eval b X.env)]:=by rfl):PI X (.Tuple elts n tp) (.Call (.Name "zip" p) [a,b] [] pos) (sM X.K ta):=by
 intro pins s σ H R I h
 refine Call_ (MN I hg hm boot_zip (wZ (thn (ha pos pins s σ H _ I h) λus s1 ⟨vs,H1,I1,r1,q1⟩=>?_) (by rw[hs,hs2]) (by rw[hs2];rfl)))
 obtain⟨k,a',m,b',e,⟨xs,hq⟩,⟨ys,hr⟩,q⟩:=q1
 subst e
 obtain⟨u,v,rfl,ru,rv⟩:=r1.two
 cases (show u=vN a' from ru)
 cases (show v=vN b' from rv)
 obtain⟨i1,v1,p1⟩:=I1.sqB hq
 obtain⟨i2,v2,p2⟩:=I1.sqB hr
 refine XO p1 p2 λh' oz oi ot q1 q2 kp=>wpAny_pyIter_zip (s:={s1 with heap:=h'}) oz ?_
 have sq:∀{q:uv} {d:uC} {is:uu tW},Oq s1.heap q d is->Oq h' q d is:=λ{q d is} x=>by
  cases q
  .exact(show s1.heap.IsList d is from x).at λo e=>kp _ o e
  .obtain⟨o,e,r⟩:=(show s1.heap.IsTuple d is from x)
   exact⟨o,kp _ o e,r⟩
 refine⟨s1.heap.objs.size+4,[s1.heap.objs.size+4,s1.heap.objs.size+2,s1.heap.objs.size+3,s1.heap.objs.size,s1.heap.objs.size+1],_,_,H1,rfl,I1.kept (t':=s1.toks) kp,
  Z7 k a' m b' _ _ _ _ _ (zne s1.heap.objs.size),⟨oz,oi,⟨_,_,ot⟩,q1.jit (sq p1),q2.jit (sq p2)⟩,λc hc=>?_,q⟩
 simp only[uF,uY,vg]at hc
 have:s1.heap.objs.size<=c:=by rcases hc with rfl|rfl|rfl|rfl|rfl<;>first|exact tw _|exact Nat.le_add_right _ _
 exact I1.fC this (I1.hok.fresh this)
end
end L2
end
noncomputable section
namespace L2
open PySem PySem.Spec PyProof.Rows
section
variable{prog:uT}{w:ur}{A:u5}{E:tW->tZ->Prop}{s:tZ}
theorem IsList.U9{h h':uz}{a:uC}{items:uu tW}(p:h.IsList a items)(k:∀o,h.get? a=Gc o->h'.get? a=Gc o):h'.IsList a items:=by
 obtain⟨o,ho,r⟩:=p
 exact⟨o,k o ho,r⟩
theorem RB{it t:uC}{items:uu tW}(hne:t≠it):∀(n i:Nat) (s:tZ) (Q:KE tW->tZ->Prop),s.heap.IsListIter it t i->s.heap.IsList t items->i+n<=items.size->(∀h',h'.IsListIter it t (i+n)->wY it s.heap h'->Q ((items.toList.drop i).take n) {s with heap:=h'})->wpAny (model prog w) A (draw (.ref it) n) Q E s
 |0,i,s,Q,hit,_,_,hQ=>by
  show wpAny _ _ (pure []) Q E s
  exact tq (by simpa using hQ s.heap hit (Heap.SameBut.refl ..))
 |n+1,i,s,Q,hit,ht,hle,hQ=>by
  have hlt:i<items.size:=by lia
  show wpAny _ _ (pyNext (.ref it) >>= _) Q E s
  refine Wp (ye hit ht (x:=items[i]) (by simp[hlt]) λh1 hit1 hs1=>?_)
  refine Wp (vK (RB hne n (i+1) _ _ hit1 (IsList.U9 ht λo e=>hs1.extBut t o hne e) (by lia) λh2 hit2 hs2=>tq ?_))
  have hd:items.toList.drop i=items[i]::items.toList.drop (i+1):=by simp[vD,hlt]
  have:=hQ h2 (by rw[show i+(n+1)=i+1+n by lia];exact hit2) (hs1.trans hs2)
  rw[hd,List.take_succ_cons]at this
  exact this
theorem Mu{t:uC}{items:uu tW}{Q:KE tW->tZ->Prop}(hh:A.handled=none)(ht:s.heap.IsList t items)(hty:s.TypeIs (.ref t) "list")(hQ:∀h',ya s.heap.objs.size s.heap h'->Q items.toList {s with heap:=h'}):wpAny (model prog w) A (unpackItems (.ref t) items.size none) Q E s:=by
 have hlt:t≠s.heap.objs.size:=by obtain⟨o,ho,_⟩:=ht;exact uR (uK ho)
 unfold unpackItems
 refine Wp ?_
 .unfold notIterableAtAll
  refine Wp (zI hty F.slot_list_iter.lookup ?_)
  refine tq ?_
  simp only[xh,yi]
  refine Wp (vK (v8 ht ?_))
  refine Wp (vK (RB hlt items.size 0 _ _ ⟨_,uH _ rfl,rfl,rfl⟩ (IsList.U9 ht λo e=>tV _ e) (by lia) λh1 hit1 hs1=>?_))
  have hall:List.take items.size (List.drop 0 items.toList)=items.toList:=by
   rw[List.drop_zero];exact vn (by simp)
  rw[hall]
  rw[uh (by simp)]
  have ht1:h1.IsList t items:=IsList.U9 (IsList.U9 ht λo e=>tV _ e) λo e=>hs1.extBut t o hlt e
  refine Wp (vK (yt hh hit1 ht1 (by simp) λh2 he2=>?_))
  simp only[Option.isSome_none,xh,yi]
  refine tq (hQ h2 λb o hb e=>he2 b o hb (hs1.extBut b o hb (tV _ e)))
theorem Ly{env:Env}{elts:KE ui}{x1}{pos:Pos}{t:uC}{items:uu tW}{Q:Unit->tZ->Prop}(hh:A.handled=none)(ht:s.heap.IsList t items)(hty:s.TypeIs (.ref t) "list")(hn:(assignEach elts env).length=items.size)(hstar:(assignEach elts env).findIdx? (·.1)=none)(h:∀h',ya s.heap.objs.size s.heap h'->wpAny (model prog w) A (assignInOrder ((assignEach elts env).map (·.2)) items.toList) Q E {s with heap:=h'}):wpAny (model prog w) A (assign (.Tuple elts x1 pos) env (.ref t)) Q E s:=by
 rw[PyProof.Rows.assign_Tuple]
 refine Wp (yQ ?_)
 unfold unpack
 rw[hn,hstar]
 exact Wp (vK (Mu hh ht hty h))
end
section
variable{X:Cx}{pos:Pos}
noncomputable def rW(K:tU)(n:Nat)(t:TGs):TG:=λv σ H Q=>∃a xs,v=.ref a/\(SqT K H a xs\/H a=Gc (.lst xs))/\xs.length=n/\t xs σ H Q
theorem ib{es:KE ui}{k:Nat}{t:TGs}{n:Nat}(hc:X.calm=true)(h:PGs X es t)(hn:(assignEach es X.env).length=n:=by rfl)(hst:(assignEach es X.env).findIdx? (·.1)=none:=by rfl):PG X (.Tuple es k pos) (rW X.K n t):=by
 intro pins s σ H v u Q I r hw
 obtain⟨a,xs,e1,hq,hl,hw⟩:=hw
 rcases hq with hq|hq
 .exact iN hc h hn hst pins s σ H v u Q I r ⟨a,xs,e1,hq,hl,hw⟩
 .subst e1
  cases r
  obtain⟨its,rv,p,hz⟩:=I.list (SqL.of hq)
  obtain⟨z,its2,m,rv2,_,e⟩:=I.cj hq
  refine Ly (I.ok.hd hc) p.isList ⟨_,e,rfl⟩ (by simp[hn,<-hl,rv.length]) hst λh' hx=>?_
  have I1:Inv X pins σ H {s with heap:=h'}:=I.kept (t':=s.toks) λb o e=>hx b o (uR (uK e)) e
  exact h pins _ σ H xs _ Q I1 (by simpa using rv) hw
end
end L2
end
noncomputable section
namespace L2
open PySem PySem.Spec PyProof.Rows
theorem JIt.live{h:uz}{k:uv}{j l:uC}{i:Nat}(q:JIt h k j l i):∃o,h.get? j=Gc o/\∀v,o.data≠.cell v:=by
 cases k with
 |true=>obtain⟨o,e,c,d⟩:=q;exact⟨o,e,λv z=>by rw[d]at z;cases z⟩
 |false=>obtain⟨o,e,c,d⟩:=q;exact⟨o,e,λv z=>by rw[d]at z;cases z⟩
theorem Oq.mono{h h':uz}{k:uv}{l:uC}{its:uu tW}(q:Oq h k l its)(e:∀o,h.get? l=Gc o->h'.get? l=Gc o):Oq h' k l its:=by
 cases k with
 |true=>obtain⟨o,ho,r⟩:=q;exact⟨o,e o ho,r⟩
 |false=>obtain⟨o,ho,r⟩:=q;exact⟨o,e o ho,r⟩
theorem Yb{prog:uT}{w:ur}{A:u5}(hh:A.handled=none)(it t:uC)(hne:t≠it)(items:uu tW):Draws prog w A it [it,t] items.size (λi v=>items[i]?=Gc v) (λi h=>SIt h it t i items) where
 live:=λ_ _ st=>let⟨o,ho,_⟩:=st.live;⟨o,ho⟩
 frame:=λ_ _ _ st hk=>st.at (λo e=>hk it (by simp) o e) λo e=>hk t (by simp) o e
 item:=λi s Q E hi st hQ=>NM st (x:=items[i]) (by simp[hi]) λh' a b=>hQ _ h' s.toks (by simp[hi]) a b
 done:=λs Q E st hE=>NA hh st (by simp) hE
noncomputable def ItE(K:tU)(kk:uv)(a:uC):It:=
 ⟨λi H=>∃xs x,SqB K H kk a xs/\xs[i]?=Gc x,λi H x H'=>∃p y,H p=none/\x=.ref p/\(∀xs,SqB K H kk a xs->xs[i]?=Gc y)/\H'=upd H p (.tup [.int i,y]),λi H=>∃xs,SqB K H kk a xs/\xs.length<=i⟩
theorem Vq{P:uT}{w:ur}{K:tU}{elts:KE ui}{k:Nat}{pos:Pos}(kk:uv)(a e it:uC)(hei:e≠it):Turn P w K (.Tuple elts k pos) (ItE K kk a) [e,it] e (λi h=>(∃old,IsEnum h e it i old)/\JIt h kk it a i) where
 mem:=by simp
 obj:=λi h st b hb=>by
  obtain⟨⟨old,h1⟩,st2⟩:=st
  obtain⟨o,h2,h4⟩:=st2.live
  simp only[uF,uY,vg]at hb
  rcases hb with rfl|rfl
  .exact⟨_,h1,λv z=>nomatch z⟩
  .exact⟨o,h2,h4⟩
 keep:=λi h h' st k=>by
  obtain⟨⟨old,h1⟩,h2⟩:=st
  exact⟨⟨old,k e (by simp) _ h1⟩,h2.at λo q=>k it (by simp) o q⟩
 item:=by
  intro X hP hw hK hc i pins s σ H E I hf st hg
  subst hP hw hK
  obtain⟨xs,x,hq,hx⟩:=hg
  obtain⟨its,rv,p⟩:=I.sqB hq
  obtain⟨u,hu,ru⟩:=rv.get hx
  obtain⟨⟨old,h1⟩,h2⟩:=st
  obtain⟨oi,hi1,hi2⟩:=h2.live
  have hea:a≠e:=B8 I hq (hf e (by simp))
  have hia:a≠it:=B8 I hq (hf it (by simp))
  have hil:i<its.toArray.size:=by
   have:=(uI.mp hu).1
   simpa using this
  have hh:X.A.in1.handled=none:=I.ok.hd hc
  have D:=Yb (prog:=X.prog) (w:=X.w) hh it a hia its.toArray
  refine wpAny_pyNext_enum_itemD D h1 (h2.sit p) hil hei (by simp[hei,vZ hea]) ?_
  intro y h' tk hy out st' tup size kept
  have ey:y=u:=by
   have:its[i]?=Gc y:=by simpa using hy
   rw[hu]at this
   exact(vS this).symm
  subst ey
  refine⟨_,rfl,wpAny_letOwnedTupleGo_enum out λh'' en sb=>?_⟩
  have hfe:=hf e (by simp)
  have hfi:=hf it (by simp)
  have lt:∀b o,s.heap.get? b=Gc o->b≠s.heap.objs.size:=λb o q=>uR (uK q)
  have kept2:∀b o,b≠e->b≠it->s.heap.get? b=Gc o->h''.get? b=Gc o:=λb o b1 b2 q=>(sb.2 b b1).trans (kept b o b1 b2 q)
  have fr:H s.heap.objs.size=none:=I.hok.fresh (tw _)
  have tup2:h''.get? s.heap.objs.size=Gc {cls:=.type "tuple",data:=.seq #[.int i tk,y]}:=(sb.2 _ (vZ (lt e _ h1))).trans tup
  have ne1:∀b u,H b=Gc u->b≠e:=λb u q z=>by rw[z,hfe.1]at q;cases q
  have ne2:∀b u,H b=Gc u->b≠it:=λb u q z=>by rw[z,hfi.1]at q;cases q
  refine⟨.ref s.heap.objs.size,upd H s.heap.objs.size (.tup [.int i,x]),?_,rfl,⟨_,x,fr,rfl,λys hys=>by rw[I.Tj hys hq];exact hx,rfl⟩,⟨⟨y,en⟩,?_⟩,?_⟩
  .show Inv X pins σ _ {s with heap:=h'',gens:=s.gens,drawn:=s.drawn,toks:=tk+1}
   refine I.step (g':=s.gens) (d':=s.drawn) (ch:=[e,it]) ?_ ?_ ?_ ?_ ?_ ?_ ?_ ?_ ?_ ?_ I.bare
   .intro b hb
    simp only[uF,uY,vg]at hb
    rcases hb with rfl|rfl
    .exact⟨hfe.2.2.2.1,hfe.2.1,hfe.2.2.2.2.1,hfe.2.2.2.2.2⟩
    .exact⟨hfi.2.2.2.1,hfi.2.1,hfi.2.2.2.2.1,hfi.2.2.2.2.2⟩
   .exact λb o _ _ hc q _=>kept2 b o (λz=>hc (by simp[z])) (λz=>hc (by simp[z])) q
   .exact λb o _ _ hc q _=>⟨o.slots,kept2 b o (λz=>hc (by simp[z])) (λz=>hc (by simp[z])) q⟩
   .exact λb o _ q n=>by rw[An (lt b o q)];exact n
   .exact λb o hc q=>⟨o,kept2 b o (λz=>hc (by simp[z])) (λz=>hc (by simp[z])) q⟩
   .exact λb ys q=>by rw[An (Bq q fr)];exact q
   .exact λb o u q=>by rw[An (Bq q fr)];exact q
   .exact λb ps q=>⟨#[],by rw[An (Bq q fr),q];simp⟩
   .rintro m ⟨o,es,ep,ho,r⟩
    exact⟨o,es,ep,kept2 _ o (vZ hfe.2.1) (vZ hfi.2.1) ho,r⟩
   .intro b v q
    by_cases hb:b=s.heap.objs.size
    .subst hb
     rw[BM]at q
     cases q
     exact⟨by show 2<=sizeLine;decide,[.int i tk,y],.cons ⟨tk,rfl⟩ (.cons ru .nil),⟨_,tup2,rfl,0,rfl⟩⟩
    .rw[An hb]at q
     refine(I.hok b v q).cQ (λc z hc r=>kept2 c z ?_ ?_ r) (λc r=>by rw[An (Bq r fr)];exact r) (λc ys r=>by rw[An (Bq r fr)];exact r)
     .rcases hc with z|z
      .rw[z];exact ne1 b v q
      .exact ne1 c _ z
     .rcases hc with z|z
      .rw[z];exact ne2 b v q
      .exact ne2 c _ z
  .have pa:Oq h'' kk a its.toArray:=p.mono λo q=>kept2 a o hea hia q
   exact(st'.at (λo q=>(sb.2 it (vZ hei)).trans q) λo q=>(sb.2 a hea).trans q).jit pa
  .intro b hb
   simp only[uF,uY,vg]at hb
   rcases hb with rfl|rfl
   .rw[An (lt b _ h1)];exact hfe.1
   .rw[An (lt b _ hi1)];exact hfi.1
 done:=by
  intro X hP hw hK hc i pins s σ H E I hf st hg
  subst hP hw hK
  obtain⟨xs,hq,hx⟩:=hg
  obtain⟨its,rv,p⟩:=I.sqB hq
  obtain⟨⟨old,h1⟩,h2⟩:=st
  have hl:=rv.length
  have hh:X.A.in1.handled=none:=I.ok.hd hc
  obtain⟨f0,f1,f2,f3,f4,f5⟩:=hf it (by simp)
  have D:Draws X.prog X.w X.A.in1 it [it,a] i (λ_ _=>True) (λj h=>j=i/\SIt h it a i its.toArray):=
   {live:=λ_ _ st=>let⟨o,ho,_⟩:=st.2.live;⟨o,ho⟩
    frame:=λ_ _ _ st hk=>⟨st.1,st.2.at (λo e=>hk it (by simp) o e) λo e=>hk a (by simp) o e⟩
    item:=λj s Q E hj st _=>absurd st.1 (uR hj)
    done:=λs Q E st hE=>NA hh st.2 (by simp;lia) hE}
  exact wpAny_pyNext_enum_endD D h1 ⟨rfl,h2.sit p⟩ λh' eb=>⟨rfl,I.turned (t':=s.toks) (λb o hb q=>eb b o hb q) f0 f1 f3 f4 f5⟩
 self:=λ_ _ _ _ _ st h=>by
  obtain⟨⟨old,h1⟩,_⟩:=st
  exact wpAny_pyIter_enum h1 h
section
variable{X:Cx}
noncomputable def iR(K:tU)(ta:TA):TI:=λσ H R=>ta σ H λvs H1=>∃kk a,vs=[.ref a]/\(∃xs,SqB K H1 kk a xs)/\R (ItE K kk a) H1
theorem aU{a:ui}{ta:TA}{p pos tp:Pos}{elts:KE ui}{k:Nat}(hg:Gl X "enumerate")(hm:X.mg "enumerate"=none)(ha:PA X [a] ta)(hs:uW [a] X.env=[(false,eval a X.env)]:=by rfl):PI X (.Tuple elts k tp) (.Call (.Name "enumerate" p) [a] [] pos) (iR X.K ta):=by
 intro pins s σ H R I h
 refine Call_ (MN I hg hm boot_enumerate (callWith_type1 (thn (ha pos pins s σ H _ I h) λus s1 ⟨vs,H1,I1,r1,q1⟩=>?_) hs rfl))
 obtain⟨kk,b,e,⟨xs,hq⟩,q⟩:=q1
 subst e
 obtain⟨u,rfl,ru⟩:=r1.one
 cases (show u=vN b from ru)
 obtain⟨its,rv,pt⟩:=I1.sqB hq
 have fin:∀h':uz,IsEnum h' (s1.heap.objs.size+1) s1.heap.objs.size 0 .none->JIt h' kk s1.heap.objs.size b 0->(∀b o,s1.heap.get? b=Gc o->h'.get? b=Gc o)->wpAny (model X.prog X.w) X.A (pyIter (.ref (s1.heap.objs.size+1))) (PIE X pins σ (.Tuple elts k tp) R) X.xe {s1 with heap:=h'}:=λh' en it kp=>by
  refine wpAny_pyIter_enum (s:={s1 with heap:=h'}) en ?_
  refine⟨s1.heap.objs.size+1,[s1.heap.objs.size+1,s1.heap.objs.size],_,_,H1,rfl,I1.kept (t':=s1.toks) kp,Vq kk b (s1.heap.objs.size+1) s1.heap.objs.size (Nat.succ_ne_self _),⟨⟨_,en⟩,it⟩,λc hc=>?_,q⟩
  simp only[uF,uY,vg]at hc
  rcases hc with rfl|rfl
  .exact I1.fC (by lia) (I1.hok.fresh (by lia))
  .exact I1.fC (tw _) (I1.hok.fresh (tw _))
 cases kk with
 |true=>exact Vo (show s1.heap.IsTuple b its.toArray from pt) λh' en it kp=>fin h' en it kp
 |false=>exact call_enumerate_list (show s1.heap.IsList b its.toArray from pt) λh' en it _ kp=>fin h' en it kp
end
end L2
end
noncomputable section
namespace St
open PySem PySem.Spec L2 PyProof.Rows
inductive Kd where
 |non|bl|int|str|tup|lst|dct
 deriving zl
noncomputable def Kd.ty:Kd->xD
 | .non=>"NoneType" | .bl=>"bool" | .int=>"int" | .str=>"str" | .tup=>"tuple" | .lst=>"list" | .dct=>"dict"
noncomputable def Kd.isA:Kd->xD->uv
 | .bl,"bool"=>true| .bl,"int"=>true| .int,"int"=>true| .str,"str"=>true| .tup,"tuple"=>true| .lst,"list"=>true| .dct,"dict"=>true
 |_,_=>false
section
variable{K:tU}
theorem gW(k:Kd):wu K (.type k.ty) (.type "int")=Gc (k.isA "int"):=by
 cases k<;>first|rfl|(unfold wu;rfl)
theorem aF(k:Kd):wu K (.type k.ty) (.type "bool")=Gc (k.isA "bool"):=by
 cases k<;>rfl
theorem kit_tuple(k:Kd):wu K (.type k.ty) (.type "tuple")=Gc (k.isA "tuple"):=by
 cases k<;>rfl
theorem fX(k:Kd):wu K (.type k.ty) (.type "str")=Gc (k.isA "str"):=by
 cases k<;>rfl
end
structure Dfn(P:uT)(w:ur)(K:tU)(mg:Str->tY tW)(base:uz)(x:Str)(k:Nat)(ps:KE Str)(sp:Sp):Prop where
 ex:∃f fd,mg x=Gc (.ref f)/\wt K (.ref f)=true/\Binds K fd ps []/\Rm P w K mg base CX0 k f fd ps sp
structure Src(K:tU)(mg:Str->tY tW)(x:Str)(st:vE):Prop where
 ex:∃f fd,Fun K x x st f fd/\mg x=Gc (.ref f)
theorem m9{X:Cx}{k:Nat}{x:Str}{ps:KE Str}{sp:Sp}{e:ui}{es:KE ui}{t:TA}{p pos:Pos}(d:Dfn X.prog X.w X.K X.mg X.base x k ps sp)(hr:Ol k X.A)(hg:Gl X x)(ha:PA X (e::es) t)(hdb:(x==("__debug__":Str))=false:=by decide)(he:uW (e::es) X.env=(false,eval e X.env)::uW es X.env:=by rfl)(hpl:(backTo pos (uW es X.env)).any (·.1)=false:=by rfl):PE X (.Call (.Name x p) (e::es) [] pos) (gF sp [] E0 t):=by
 obtain⟨f,fd,a,b,c,F⟩:=d.ex
 exact fN F hr hg a b c .nil pJ ha hdb he hpl
section
variable{X:Cx}
theorem eN{n:Nat}(h:n<2^8000):n.log2<9000:=by
 by_cases h0:n=0
 .subst h0;decide
 .exact yI ((Nat.log2_lt h0).mpr h) (by decide)
theorem Z8:OpR X (binaryOp .FloorDiv) (rI (λ_ j=>0<j/\j.natAbs<2^8000) λi j=>.int (i / j)):=opI λi j _ _ _ _ _ hc q=>by
 have h1:(0:Int)<j:=hc.1
 exact floordiv_int (by lia) (by rw[Int.fdiv_eq_ediv_of_nonneg i (by lia)];exact q) (.inl (PyProof.noPylong_of_log2 (eN hc.2)))
theorem Vb{prog:uT}{w:ur}{A:u5}(hh:A.handled=none){a it:uC}(hne:a≠it){vs:KE tW}:Walks prog w A it [it,a] [it] vs.length (λi v=>vs[i]?=Gc v) (λi h=>h.IsListIter it a i/\h.IsList a vs.toArray) where
 sub:=λb hb=>by simp at hb;simp[hb]
 frame:=λi h h' st k=>⟨st.1.at λo e=>k it (by simp) o e,by
  obtain⟨o,ho,r⟩:=st.2
  exact⟨o,k a (by simp) o ho,r⟩⟩
 item:=λi s Q E hi st hQ=>by
  refine ye st.1 st.2 (x:=vs[i]) (by simp[hi]) λh' st' sb=>?_
  refine hQ _ h' s.toks (by simp[hi]) ⟨st',?_⟩ λb o hb e=>(sb.2 b (by simpa using hb)).trans e
  obtain⟨o,ho,r⟩:=st.2
  exact⟨o,(sb.2 a hne).trans ho,r⟩
 done:=λs Q E st hQ=>yt hh st.1 st.2 (by simp) λh' eb=>hQ h' s.toks λb o hb e=>eb b o (by simpa using hb) e
 self:=λi s Q E st hQ=>AAp st.1 hQ
theorem au{ns:KE Int}{j:Nat}(h:j<ns.length):(ns.take (j+1)).sum=(ns.take j).sum+ns.getD j 0:=by
 have e:ns.getD j 0=ns[j]:=by simp[tu,t7 h]
 rw[AA2,t7 h,AAm,e]
 show _+(ns[j]+0)=_
 lia
theorem Nj{ns:KE Int}:∀{j:Nat},j<=ns.length->preSum (λi=>ns.getD i 0) j=(ns.take j).sum
 |0,_=>by simp[preSum]
 |j+1,h=>by
  rw[preSum,Nj (by lia),au (by lia)]
theorem Xd{ns:KE Int}(h:∀n∈ns,0<=n/\n<=1000000):0<=ns.sum/\ns.sum<=1000000*ns.length:=by
 induction ns with
 |nil=>simp
 |cons a l ih=>
  have h1:=h a (by simp)
  have h2:=ih λn hn=>h n (by simp[hn])
  rw[ub,uq]
  have:((l.length+1:Nat):Int)=(l.length:Int)+1:=by lia
  lia
end
section
variable{prog:uT}{w:ur}{A:u5}{E:tW->tZ->Prop}{s:tZ}
theorem Lu{t sl:uC}{items:uu tW}{vl vu:tW}{lo hi:tY Int}{Q:tW->tZ->Prop}(ht:IsTup s.heap t items)(hs:s.heap.IsSliceOf sl vl vu .none)(pl:AAQ vl lo)(pu:AAQ vu hi)(hw:HT.sIx items.size 0 lo=0/\HT.sIx items.size items.size hi=items.size)(h:Q (.ref t) s):wpAny (model prog w) A (getItem (.ref t) (.ref sl)) Q E s:=by
 obtain⟨os,hos,hcs,hds⟩:=id hs
 have hTs:s.TypeIs (.ref sl) "slice":=⟨os,hos,hcs⟩
 unfold getItem
 try with_reducible refine vK ?_
 first|refine Wp (tq ?_)|skip
 refine Wp (wpAny_sequenceKey ht.typeIs (by decide) ?_)
 refine Wp (vA (name:=vQ "__getitem__") ht.typeIs vI
  (u9 vI ht.typeIs ABJ ?_ (ABW _ _)))
 show wpAny _ _ (zX (.ref t) >>= _) _ _ s
 refine Wp (tupleItemsOf_ ht ?_)
 refine Wp (yH hTs ?_)
 rw[uZ (by decide)]
 refine Wp (HT.Iq hs pl pu ?_)
 show wpAny _ _ (if(((HT.sIx items.size 0 lo:Nat):Int)==0 && (1:Int)==1 && (HT.sIx items.size items.size hi-HT.sIx items.size 0 lo)==items.size)=true then _ else _) _ _ s
 rw[uZ (by rw[hw.1,hw.2];simp)]
 unfold Builtin.Tuple.tupleIsExact
 refine Wp (Wp (yH ht.typeIs (tq ?_)))
 rw[uZ (by decide)]
 exact Wp (xP (tq ⟨_,rfl,tq h⟩))
end
section
variable{X:Cx}
def rX(K:tU):V->tY Int->tY Int->Hp->VK->Prop:=λx lo hi H Q=>∃a xs,x=.ref a/\SqT K H a xs/\HT.sIx xs.length 0 lo=0/\HT.sIx xs.length xs.length hi=xs.length/\Q x H
theorem iF:SlR X (rX X.K):=by
 intro pins s σ H x v vl vu lo hi sl Q I rx hs pl pu h
 obtain⟨a,xs,rfl,hx,h1,h2,q⟩:=h
 cases rx
 obtain⟨its,r,ht,hz⟩:=I.tuple hx
 have hlen:its.toArray.size=xs.length:=by rw[uM];exact r.length.symm
 refine⟨"tuple",_,vI.lookup,ht.typeIs,?_⟩
 exact Lu ht hs pl pu (by rw[hlen];exact⟨h1,h2⟩) ⟨.ref a,H,I,rfl,q⟩
noncomputable def pC(K:tU):R2:=λx y H Q=>∃a b ys,x=.ref a/\y=.ref b/\SqT K H a []/\SqT K H b ys/\Q (.ref b) H
theorem dg:OpR X (binaryOp .Add) (pC X.K):=by
 intro pins s σ H x y v u Q I rx ry h
 obtain⟨a,b,ys,rfl,rfl,ha,hb,q⟩:=h
 cases rx
 cases ry
 obtain⟨its,r1,p1,_⟩:=I.tuple ha
 obtain⟨its2,r2,p2,_⟩:=I.tuple hb
 have e0:its=[]:=r1.QG.mpr rfl
 subst e0
 obtain⟨⟨cls,dd,data,sl⟩,ho,hc,n,hd⟩:=id p1
 obtain⟨⟨cls2,dd2,data2,sl2⟩,ho2,hc2,n2,hd2⟩:=id p2
 simp only at hc hd hc2 hd2
 subst hc hd hc2 hd2
 exact concat_meets ⟨_,ho,rfl⟩ ⟨_,ho2,rfl⟩ AAI ABP yh yZ (yR _ _)
  (tuple_addW0 a b #[] its2.toArray n n2 dd dd2 sl sl2 rfl) ⟨ho,ho2,⟨.ref b,H,I,rfl,q⟩⟩
end
end St
end
noncomputable section
namespace Mi
open PySem PySem.Spec L2
inductive D where
 |non|bl (b:uv)|int (i:Int)|str (x:Str)|ty (n:xD)|tup (ds:KE D)|lst (ds:KE D)|dct (kvs:KE (Key×D))|scr (ns:KE Int)|ref (n:Nat)
inductive Wv where
 |val (d:D)|own (ds:KE D)
inductive Cl where
 |lst (ds:KE D)|dct (kvs:KE (Key×D))
abbrev Sto:=KE Cl
structure Ms where
 cel:KE uC
 tmp:KE uC
def Ms.mem(M:Ms)(a:uC):Prop:=a∈M.cel\/a∈M.tmp
noncomputable def Ms.no:Ms:=⟨[],[]⟩
theorem Ms.cA{a:uC}:¬Ms.no.mem a:=λz=>z.elim (λz=>by cases z) λz=>by cases z
def KL(K:tU)(a:uC)(xs:KE V):Prop:=∃(o:Obj) (its:uu tW) (n:Nat),K.lookup a=Gc o/\o.cls=.type "list" /\o.dict=none/\o.data=.seq its n/\its.size<=sizeLine/\Vals xs its.toList
mutual
inductive Ed(K:tU)(M:Ms)(H:Hp):V->D->Prop
 |non:Ed K M H .non .non
 |bl (b:uv):Ed K M H (.bl b) (.bl b)
 |int (i:Int):Ed K M H (.int i) (.int i)
 |str (x:Str):Ed K M H (.str x) (.str x)
 |ty (n:xD):Ed K M H (.ty n) (.ty n)
 |tup {a:uC} {xs:KE V} {ds:KE D} (h:SqT K H a xs) (r:A6 K M H xs ds):Ed K M H (.ref a) (.tup ds)
 |lst {a:uC} {xs:KE V} {ds:KE D} (h:H a=Gc (.lst xs)) (n:¬M.mem a) (r:A6 K M H xs ds):Ed K M H (.ref a) (.lst ds)
 |scr {a:uC} {ns:KE Int} (h:(Rd H a (.lst (ns.map V.int))/\¬M.mem a)\/KL K a (ns.map V.int)):Ed K M H (.ref a) (.scr ns)
 |dct {a:uC} {kvs:KE (Key×V)} {es:KE (Key×D)} (h:H a=Gc (.dK kvs)) (n:¬M.mem a) (r:CY K M H kvs es):Ed K M H (.ref a) (.dct es)
 |ref {a:uC} {n:Nat} (h:M.cel[n]?=Gc a):Ed K M H (.ref a) (.ref n)
inductive A6(K:tU)(M:Ms)(H:Hp):KE V->KE D->Prop
 |nil:A6 K M H [] []
 |cons {v:V} {d:D} {vs:KE V} {ds:KE D} (h:Ed K M H v d) (t:A6 K M H vs ds):A6 K M H (v::vs) (d::ds)
inductive CY(K:tU)(M:Ms)(H:Hp):KE (Key×V)->KE (Key×D)->Prop
 |nil:CY K M H [] []
 |cons {k:Key} {v:V} {d:D} {vs:KE (Key×V)} {ds:KE (Key×D)} (h:Ed K M H v d) (t:CY K M H vs ds):CY K M H ((k,v)::vs) ((k,d)::ds)
end
def MOk(M:Ms)(H:Hp):Prop:=∀a,M.mem a->(∃xs,H a=Gc (.lst xs))\/∃kvs,H a=Gc (.dK kvs)
structure Sp1(M:Ms)(H:Hp)(M':Ms)(H':Hp):Prop where
 mo:MOk M H
 pre:M.cel <+: M'.cel
 fresh:∀a,M'.mem a->M.mem a\/H a=none
 keep:∀a o,H a=Gc o->¬M.mem a->H' a=Gc o
structure Gr(M:Ms)(H:Hp)(M':Ms)(H':Hp):Prop where
 mo:MOk M H
 pre:M.cel <+: M'.cel
 tmp:M'.tmp=M.tmp
 fresh:∀a,a∈M'.cel->a∈M.cel\/H a=none
 keep:∀a o,H a=Gc o->a∉M.cel->H' a=Gc o
 some:∀a,H a≠none->H' a≠none
section
variable{K:tU}{M M' M2:Ms}{H H' H2:Hp}
theorem MOk.some(mo:MOk M H){a:uC}(h:M.mem a):H a≠none:=λz=>by
 rcases mo a h with⟨xs,e⟩|⟨xs,e⟩<;>(rw[e]at z;cases z)
theorem Gr.st(g:Gr M H M' H'):Sp1 M H M' H':=⟨g.mo,g.pre,λa z=>z.elim (λz=>(g.fresh a z).imp .inl id) λz=>.inl (.inr (by rw[<-g.tmp];exact z)),λa o e n=>g.keep a o e λz=>n (.inl z)⟩
theorem Gr.refl(mo:MOk M H):Gr M H M H:=⟨mo,vT,rfl,λ_ z=>.inl z,λ_ _ e _=>e,λ_ e=>e⟩
theorem Gr.none(g:Gr M H M' H'){a:uC}(h:H' a=none):H a=none:=by
 cases e:H a with
 |none=>rfl
 |some o=>exact absurd h (g.some a (by rw[e];intro z;cases z))
theorem Gr.trans(h:Gr M H M' H')(g:Gr M' H' M2 H2):Gr M H M2 H2:=
 ⟨h.mo,h.pre.trans g.pre,g.tmp.trans h.tmp,λa z=>(g.fresh a z).elim (h.fresh a) λz=>.inr (h.none z),λa o e n=>g.keep a o (h.keep a o e n) (λz=>by
   rcases h.fresh a z with z|z
   .exact n z
   .rw[e]at z;cases z),λa e=>g.some a (h.some a e)⟩
theorem Gr.grow(mo:MOk M H)(k:∀a o,H a=Gc o->H' a=Gc o):Gr M H M H':=
 ⟨mo,vT,rfl,λ_ z=>.inl z,λb u eb _=>k b u eb,λb eb z=>by
   cases h:H b with
   |none=>exact eb h
   |some o=>rw[k b o h]at z;cases z⟩
theorem NS{α:Type}{xs ys:KE α}(h:xs <+: ys){n:Nat}{a:α}(e:xs[n]?=Gc a):ys[n]?=Gc a:=by
 obtain⟨zs,rfl⟩:=h
 rw[tz (uI.mp e).1]
 exact e
theorem bM{a:uC}{xs:KE V}(h:SqT K H a xs)(k:∀b o,H b=Gc o->(∀ys,o≠.lst ys)->(∀ys,o≠.dK ys)->H' b=Gc o):SqT K H' a xs:=by
 rcases h with h|h
 .rcases h with h|⟨o,h⟩
  .exact .inl (.inl (k _ _ h (λys z=>by cases z) λys z=>by cases z))
  .exact .inl (.inr ⟨o,k _ _ h (λys z=>by cases z) λys z=>by cases z⟩)
 .exact .inr h
theorem Sp1.sqT(g:Sp1 M H M' H'){a:uC}{xs:KE V}(h:SqT K H a xs):SqT K H' a xs:=bM h λb o e n1 n2=>g.keep b o e λz=>by
 rcases g.mo b z with⟨ys,q⟩|⟨ys,q⟩
 .exact n1 ys (vS (e.symm.trans q))
 .exact n2 ys (vS (e.symm.trans q))
theorem Sp1.nm(g:Sp1 M H M' H'){a:uC}{o:HO}(e:H a=Gc o)(n:¬M.mem a):¬M'.mem a:=λz=>by
 rcases g.fresh _ z with z|z
 .exact n z
 .rw[z]at e;cases e
mutual
theorem Ed.step(g:Sp1 M H M' H'):∀{v:V} {d:D},Ed K M H v d->Ed K M' H' v d
 |_,_,.non=>.non
 |_,_,.bl b=>.bl b
 |_,_,.int b=>.int b
 |_,_,.str b=>.str b
 |_,_,.ty b=>.ty b
 |_,_,.tup h r=>.tup (g.sqT h) (A6.step g r)
 |_,_,.lst (a:=a) (xs:=xs) h n r=>.lst (g.keep _ _ h n) (g.nm h n) (A6.step g r)
 |_,_,.scr (a:=a) (ns:=ns) h=>by
  rcases h with⟨h,n⟩|h
  .rcases h with h|⟨o,h⟩
   .exact .scr (.inl ⟨.inl (g.keep _ _ h n),g.nm h n⟩)
   .exact .scr (.inl ⟨.inr ⟨o,g.keep _ _ h n⟩,g.nm h n⟩)
  .exact .scr (.inr h)
 |_,_,.dct (a:=a) h n r=>.dct (g.keep _ _ h n) (g.nm h n) (CY.step g r)
 |_,_,.ref h=>.ref (NS g.pre h)
theorem A6.step(g:Sp1 M H M' H'):∀{v:KE V} {d:KE D},A6 K M H v d->A6 K M' H' v d
 |_,_,.nil=>.nil
 |_,_,.cons h t=>.cons (Ed.step g h) (A6.step g t)
theorem CY.step(g:Sp1 M H M' H'):∀{v:KE (Key×V)} {d:KE (Key×D)},CY K M H v d->CY K M' H' v d
 |_,_,.nil=>.nil
 |_,_,.cons h t=>.cons (Ed.step g h) (CY.step g t)
end
theorem A6.length:∀{v:KE V} {d:KE D},A6 K M H v d->v.length=d.length
 |_,_,.nil=>rfl
 |_,_,.cons _ t=>by simp[A6.length t]
theorem A6.get:∀{v:KE V} {d:KE D} {i:Nat} {y:D},A6 K M H v d->d[i]?=Gc y->∃x,v[i]?=Gc x/\Ed K M H x y
 |_,_,i,y,.nil,e=>by simp at e
 |_,_,0,y,.cons h t,e=>by simp at e;subst e;exact⟨_,rfl,h⟩
 |_,_,i+1,y,.cons h t,e=>by
  obtain⟨x,h1,h2⟩:=A6.get (i:=i) t (by simpa using e)
  exact⟨x,by simpa using h1,h2⟩
theorem A6.append:∀{v v':KE V} {d d':KE D},A6 K M H v d->A6 K M H v' d'->A6 K M H (v++v') (d++d')
 |_,_,_,_,.nil,s=>s
 |_,_,_,_,.cons h t,s=>.cons h (A6.append t s)
theorem A6.take:∀{v:KE V} {d:KE D} (n:Nat),A6 K M H v d->A6 K M H (v.take n) (d.take n)
 |_,_,0,_=>.nil
 |_,_,_+1,.nil=>.nil
 |_,_,n+1,.cons h t=>.cons h (A6.take n t)
theorem A6.drop:∀{v:KE V} {d:KE D} (n:Nat),A6 K M H v d->A6 K M H (v.drop n) (d.drop n)
 |_,_,0,r=>r
 |_,_,_+1,.nil=>.nil
 |_,_,n+1,.cons _ t=>A6.drop n t
theorem A6.set{x:V}{y:D}(r:Ed K M H x y):∀{v:KE V} {d:KE D} (i:Nat),A6 K M H v d->A6 K M H (v.set i x) (d.set i y)
 |_,_,_,.nil=>.nil
 |_,_,0,.cons _ t=>.cons r t
 |_,_,i+1,.cons q t=>.cons q (A6.set r i t)
end
abbrev En:=KE (tY D)
abbrev Sg:=KE (tY V)
structure EnR(K:tU)(M:Ms)(E:En)(σ:Sg)(H:Hp):Prop where
 len:E.length=σ.length
 val:∀(i:Nat) (d:D),E[i]?=Gc (Gc d)->∃v,σ[i]?=Gc (Gc v)/\Ed K M H v d
def gv(K:tU)(M:Ms)(H:Hp)(a:uC):Cl->Prop
 | .lst ds=>∃xs,H a=Gc (.lst xs)/\A6 K M H xs ds
 | .dct es=>∃kvs,H a=Gc (.dK kvs)/\CY K M H kvs es
structure StR(K:tU)(M:Ms)(S:Sto)(H:Hp):Prop where
 mo:MOk M H
 nd:M.cel.Nodup
 nt:∀a∈M.tmp,a∉M.cel
 len:M.cel.length=S.length
 cell:∀(n:Nat) (a:uC) (c:Cl),M.cel[n]?=Gc a->S[n]?=Gc c->gv K M H a c
section
variable{K:tU}{M M' M2:Ms}{H H' H2:Hp}{E:En}{σ:Sg}{S:Sto}
theorem EnR.step(r:EnR K M E σ H)(g:Sp1 M H M' H'):EnR K M' E σ H':=⟨r.len,λi d e=>by
 obtain⟨v,h1,h2⟩:=r.val i d e
 exact⟨v,h1,h2.step g⟩⟩
theorem StR.grow(r:StR K M S H)(k:∀a o,H a=Gc o->H' a=Gc o):StR K M S H':=by
 have g:Sp1 M H M H':=⟨r.mo,vT,λ_ z=>.inl z,λa o e _=>k a o e⟩
 refine⟨λa z=>(r.mo a z).imp (λ⟨xs,e⟩=>⟨xs,k _ _ e⟩) λ⟨xs,e⟩=>⟨xs,k _ _ e⟩,r.nd,r.nt,r.len,λn a c h1 h2=>?_⟩
 have q:=r.cell n a c h1 h2
 cases c with
 |lst ds=>obtain⟨xs,e,rr⟩:=q;exact⟨xs,k _ _ e,rr.step g⟩
 |dct ds=>obtain⟨xs,e,rr⟩:=q;exact⟨xs,k _ _ e,rr.step g⟩
theorem StR.chg(r:StR K M S H){n:Nat}{a:uC}{ds es:KE D}{ys:KE V}(h1:M.cel[n]?=Gc a)(h2:S[n]?=Gc (.lst ds))(hy:A6 K M H ys es):StR K M (S.set n (.lst es)) (upd H a (.lst ys))/\Gr M H M (upd H a (.lst ys)):=by
 have ha:a∈M.cel:=uS h1
 have hl:n<S.length:=(uI.mp h2).1
 have g:Gr M H M (upd H a (.lst ys)):=⟨r.mo,vT,rfl,λ_ z=>.inl z,λb o eb nb=>by rw[An (λz=>nb (by rw[z];exact ha))];exact eb,λb eb=>by
  by_cases h:b=a
  .subst h;rw[BM];intro z;cases z
  .rw[An h];exact eb⟩
 refine⟨⟨λb z=>?_,r.nd,r.nt,by rw[wC];exact r.len,λm b c e1 e2=>?_⟩,g⟩
 .by_cases h:b=a
  .subst h;exact .inl ⟨ys,BM⟩
  .rw[An h];exact r.mo b z
 .by_cases h:n=m
  .subst h
   rw[h1]at e1;cases e1
   rw[uG hl]at e2;cases e2
   exact⟨ys,BM,hy.step g.st⟩
  .rw[uE h]at e2
   have hb:b≠a:=λz=>by
    subst z
    exact h ((yl (uI.mp h1).1 r.nd).mp (h1.trans e1.symm))
   have q:=r.cell m b c e1 e2
   cases c with
   |lst fs=>obtain⟨xs,e,rr⟩:=q;exact⟨xs,by rw[An hb];exact e,rr.step g.st⟩
   |dct fs=>obtain⟨xs,e,rr⟩:=q;exact⟨xs,by rw[An hb];exact e,rr.step g.st⟩
theorem StR.eK(r:StR K M S H){a:uC}{xs:KE V}{ds:KE D}(e:H a=none)(k:∀b o,H b=Gc o->H' b=Gc o)(ea:H' a=Gc (.lst xs))(rr:A6 K M H xs ds):StR K ⟨M.cel++[a],M.tmp⟩ (S++[.lst ds]) H'/\Gr M H ⟨M.cel++[a],M.tmp⟩ H':=by
 have g:Gr M H ⟨M.cel++[a],M.tmp⟩ H':=⟨r.mo,xk _ _,rfl,λb z=>by
  rcases uU.mp z with z|z
  .exact .inl z
  .simp at z;subst z;exact .inr e,λb o eb _=>k b o eb,λb eb z=>by
  cases h:H b with
  |none=>exact eb h
  |some o=>rw[k b o h]at z;cases z⟩
 have na:¬M.mem a:=λz=>r.mo.some z e
 refine⟨⟨λb z=>?_,?_,λb hb z=>?_,by simp[r.len],λm b c e1 e2=>?_⟩,g⟩
 .have z':M.mem b\/b=a:=by
   rcases z with z|z
   .rcases uU.mp z with z|z
    .exact .inl (.inl z)
    .simp at z;exact .inr z
   .exact .inl (.inr z)
  rcases z' with z|z
  .exact(r.mo b z).imp (λ⟨xs,e⟩=>⟨xs,k _ _ e⟩) λ⟨xs,e⟩=>⟨xs,k _ _ e⟩
  .subst z;exact .inl ⟨xs,ea⟩
 .rw[x8]
  refine⟨r.nd,by simp,λx hx y hy=>?_⟩
  simp at hy;subst hy
  exact λz=>na (.inl (by rw[<-z];exact hx))
 .rcases uU.mp z with z|z
  .exact r.nt b hb z
  .simp at z;subst z;exact na (.inr hb)
 .by_cases h:m<S.length
  .rw[tz (by rw[r.len];exact h)]at e1
   rw[tz h]at e2
   have q:=r.cell m b c e1 e2
   cases c with
   |lst fs=>obtain⟨xs,e,rr⟩:=q;exact⟨xs,k _ _ e,rr.step g.st⟩
   |dct fs=>obtain⟨xs,e,rr⟩:=q;exact⟨xs,k _ _ e,rr.step g.st⟩
  .have hm:m=S.length:=by
    have:=(uI.mp e2).1
    simp at this;lia
   subst hm
   rw[u3 (by rw[r.len];exact tw _)]at e1
   rw[u3 (tw _)]at e2
   rw[r.len]at e1
   simp at e1 e2
   subst e1 e2
   exact⟨xs,ea,rr.step g.st⟩
end
abbrev Ev:=En->Sto->tY (D×Sto)
noncomputable def tD(K:tU)(f:Ev):TE:=λσ H Q=>∃M E S d S',f E S=Gc (d,S')/\EnR K M E σ H/\StR K M S H/\∀v H' M',Gr M H M' H'->StR K M' S' H'->Ed K M' H' v d->Q v H'
structure DE(X:Cx)(e:ui)(f:Ev):Prop where
 pe:PE X e (tD X.K f)
theorem Bi{X:Cx}{e:ui}{t t':TE}(h:PE X e t)(m:∀σ H Q,t' σ H Q->t σ H Q):PE X e t':=λpins s σ H Q I q=>h pins s σ H Q I (m _ _ _ q)
theorem YL{X:Cx}{e:ui}{t t':TT}(h:PT X e t)(m:∀σ H Q,t' σ H Q->t σ H Q):PT X e t':=λpins s σ H Q I q=>h pins s σ H Q I (m _ _ _ q)
theorem Km{K:tU}{f:Ev}{σ:Sg}{H:Hp}{Q Q':VK}(h:tD K f σ H Q)(m:∀v H',Q v H'->Q' v H'):tD K f σ H Q':=by
 obtain⟨M,E,S,d,S',e,r,st,q⟩:=h
 exact⟨M,E,S,d,S',e,r,st,λv H' M' g s r=>m _ _ (q v H' M' g s r)⟩
theorem A5{α β:Type}{o:tY α}{k:α->tY β}{y:β}(e:o.bind k=Gc y):∃x,o=Gc x/\k x=Gc y:=by
 cases o with
 |none=>cases e
 |some x=>exact⟨x,rfl,e⟩
theorem Lp{α β:Type}{o:tY α}{k:α->β}{y:β}(e:o.map k=Gc y):∃x,o=Gc x/\k x=y:=by
 cases o with
 |none=>cases e
 |some x=>cases e;exact⟨x,rfl,rfl⟩
noncomputable def fz:Wv->D
 | .val d=>d
 | .own ds=>.lst ds
noncomputable def at?(E:En)(i:Nat):tY D:=(E[i]?).join
theorem at?_some{E:En}{i:Nat}{w:D}(h:at? E i=Gc w):E[i]?=Gc (Gc w):=by
 unfold at? at h
 cases e:E[i]? with
 |none=>rw[e]at h;cases h
 |some q=>rw[e]at h;exact congrArg Gc h
noncomputable def evs:KE Ev->En->Sto->tY (KE D×Sto)
 | [],_,S=>Gc ([],S)
 |f::fs,E,S=>(f E S).bind λr=>(evs fs E r.2).map λq=>(r.1::q.1,q.2)
noncomputable def tDs(K:tU):KE Ev->TA
 | []=>qB
 |f::fs=>gr (tD K f) (tDs K fs)
structure DEs(X:Cx)(es:KE ui)(fs:KE Ev):Prop where
 pe:PA X es (tDs X.K fs)
theorem AE{X:Cx}:DEs X [] []:=⟨Yc⟩
theorem AA{X:Cx}{e:ui}{es:KE ui}{f:Ev}{fs:KE Ev}(h:DE X e f)(t:DEs X es fs)(hs:uW (e::es) X.env=(false,eval e X.env)::uW es X.env:=by rfl):DEs X (e::es) (f::fs):=⟨Qb h.pe t.pe hs⟩
section
variable{K:tU}{M M':Ms}{E:En}{S:Sto}{σ:Sg}{H H':Hp}
theorem JF:∀{fs:KE Ev} {M:Ms} {S:Sto} {ds:KE D} {S':Sto} {H:Hp} {Q:KE V->Hp->Prop},evs fs E S=Gc (ds,S')->EnR K M E σ H->StR K M S H->(∀vs H' M',Gr M H M' H'->StR K M' S' H'->A6 K M' H' vs ds->Q vs H')->tDs K fs σ H Q
 | [],M,S,ds,S',H,Q,e,r,st,q=>by
   cases e
   exact q [] H M (.refl st.mo) st .nil
 |f::fs,M,S,ds,S',H,Q,e,r,st,q=>by
  obtain⟨⟨d,S1⟩,e1,e⟩:=A5 e
  obtain⟨⟨es,S2⟩,e2,e⟩:=Lp e
  cases e
  refine⟨M,E,S,d,S1,e1,r,st,λv H1 M1 g1 st1 d1=>?_⟩
  exact JF e2 (r.step g1.st) st1 λvs H2 M2 g2 st2 d2=>q _ _ M2 (g1.trans g2) st2 (.cons (d1.step g2.st) d2)
theorem TJ:∀{fs:KE Ev} {S:Sto} {ds:KE D} {S':Sto},evs fs E S=Gc (ds,S')->ds.length=fs.length
 | [],_,_,_,e=>by cases e;rfl
 |f::fs,S,ds,S',e=>by
  obtain⟨⟨d,S1⟩,e1,e⟩:=A5 e
  obtain⟨⟨es,S2⟩,e2,e⟩:=Lp e
  cases e
  simp[TJ e2]
def Sh(K:tU)(M:Ms)(H:Hp)(v:V):Wv->Prop
 | .val d=>Ed K M H v d
 | .own ds=>∃a xs,v=.ref a/\H a=Gc (.lst xs)/\A6 K M H xs ds
inductive Shs(K:tU)(M:Ms)(H:Hp):KE V->KE Wv->Prop
 |nil:Shs K M H [] []
 |cons {v:V} {w:Wv} {vs:KE V} {ws:KE Wv} (h:Sh K M H v w) (t:Shs K M H vs ws):Shs K M H (v::vs) (w::ws)
noncomputable def dr(S:Sto):D->Wv
 | .ref n=>match S[n]? with
   |some (.lst ds)=>.own ds
   |_=>.val (.ref n)
 |d=>.val d
theorem da(st:StR K M S H){v:V}{d:D}(h:Ed K M H v d):Sh K M H v (dr S d):=by
 cases h with
 |ref h=>
  rename_i a n
  show Sh K M H (.ref a) (match S[n]? with|some (.lst ds)=>.own ds|_=>.val (.ref n))
  split
  .rename_i ds e
   obtain⟨xs,h1,h2⟩:=st.cell n a _ h e
   exact⟨a,xs,rfl,h1,h2⟩
  .exact .ref h
 |non=>exact .non
 |bl b=>exact .bl b
 |int b=>exact .int b
 |str b=>exact .str b
 |ty b=>exact .ty b
 |tup h r=>exact .tup h r
 |lst h n r=>exact .lst h n r
 |scr h=>exact .scr h
 |dct h n r=>exact .dct h n r
theorem bp(st:StR K M S H):∀{vs:KE V} {ds:KE D},A6 K M H vs ds->Shs K M H vs (ds.map (dr S))
 |_,_,.nil=>.nil
 |_,_,.cons h t=>.cons (da st h) (bp st t)
def NwR(K:tU)(M:Ms)(H H':Hp)(v:V):Wv->Prop
 | .val d=>Ed K M H' v d
 | .own ds=>∃a xs,v=.ref a/\H a=none/\H' a=Gc (.lst xs)/\A6 K M H xs ds
structure Nw(K:tU)(M:Ms)(H H':Hp)(v:V)(w:Wv):Prop where
 grow:∀a o,H a=Gc o->H' a=Gc o
 rel:NwR K M H H' v w
theorem Nw.same{v:V}{d:D}(mo:MOk M H)(h:Ed K M H v d):Nw K M H H v (.val d):=⟨λ_ _ e=>e,h⟩
theorem IS{a:uC}{o:HO}(e:H a=none):∀b u,H b=Gc u->upd H a o b=Gc u:=λb u eb=>by rw[An (λz=>by subst z;rw[e]at eb;cases eb)];exact eb
theorem Nw.lst{a:uC}{xs:KE V}{ds:KE D}(mo:MOk M H)(e:H a=none)(h:A6 K M H xs ds):Nw K M H (upd H a (.lst xs)) (.ref a) (.own ds):=⟨IS e,a,xs,rfl,e,BM,h⟩
theorem Nw.tup{a:uC}{xs:KE V}{ds:KE D}(mo:MOk M H)(e:H a=none)(h:A6 K M H xs ds):Nw K M H (upd H a (.tup xs)) (.ref a) (.val (.tup ds)):=⟨IS e,.tup (.of BM) (h.step (Gr.grow mo (IS e)).st)⟩
noncomputable def fin:uv->Wv->Sto->tY (D×Sto)
 |_,.val d,S=>Gc (d,S)
 |false,.own ds,S=>Gc (.lst ds,S)
 |true,.own ds,S=>Gc (.ref S.length,S++[.lst ds])
theorem Nw.fin{c:uv}{v:V}{w:Wv}{d:D}{S':Sto}(n:Nw K M H H' v w)(st:StR K M S H)(e:fin c w S=Gc (d,S')):∃M',Gr M H M' H'/\StR K M' S' H'/\Ed K M' H' v d:=by
 cases w with
 |val d'=>
  cases e
  exact⟨M,.grow st.mo n.grow,st.grow n.grow,n.rel⟩
 |own ds=>
  obtain⟨a,xs,rfl,h1,h2,h3⟩:=n.rel
  cases c with
  |false=>
   cases e
   exact⟨M,.grow st.mo n.grow,st.grow n.grow,.lst h2 (λz=>st.mo.some z h1) (h3.step (Gr.grow st.mo n.grow).st)⟩
  |true=>
   cases e
   obtain⟨s1,g1⟩:=st.eK h1 n.grow h2 h3
   refine⟨_,g1,s1,.ref ?_⟩
   rw[<-st.len]
   exact uL
abbrev Op1:=Wv->tY Wv
abbrev Op2:=Wv->Wv->tY Wv
abbrev OpN:=KE Wv->tY Wv
noncomputable def rOp(K:tU)(op:Op2):R2:=λx y H Q=>∃M w1 w2 r,op w1 w2=Gc r/\MOk M H/\Sh K M H x w1/\Sh K M H y w2/\∀v H',Nw K M H H' v r->Q v H'
def rUn(K:tU)(op:Op1):V->Hp->VK->Prop:=λx H Q=>∃M w r,op w=Gc r/\MOk M H/\Sh K M H x w/\∀v H',Nw K M H H' v r->Q v H'
def rN(K:tU)(op:OpN):KE V->Hp->VK->Prop:=λxs H Q=>∃M ws r,op ws=Gc r/\MOk M H/\Shs K M H xs ws/\∀v H',Nw K M H H' v r->Q v H'
noncomputable def Qw(c:uv)(op:OpN)(fs:KE Ev):Ev:=λE S=>(evs fs E S).bind λr=>(op (r.1.map (dr r.2))).bind λw=>fin c w r.2
abbrev eOp:=Qw false
abbrev gm:=Qw true
noncomputable def o1(op:Op1):OpN| [a]=>op a|_=>none
noncomputable def o2(op:Op2):OpN| [a,b]=>op a b|_=>none
theorem OC{c:uv}{op:OpN}{fs:KE Ev}{Q:VK}{d:D}{S':Sto}(e:Qw c op fs E S=Gc (d,S'))(r:EnR K M E σ H)(st:StR K M S H)(h:∀v H' M',Gr M H M' H'->StR K M' S' H'->Ed K M' H' v d->Q v H'):tDs K fs σ H λvs H1=>rN K op vs H1 Q:=by
 obtain⟨⟨ds,S1⟩,e1,e⟩:=A5 e
 obtain⟨w,e2,e⟩:=A5 e
 refine JF e1 r st λvs H1 M1 g1 st1 d1=>⟨M1,_,w,e2,st1.mo,bp st1 d1,λv H2 n=>?_⟩
 obtain⟨M2,g2,st2,d2⟩:=n.fin st1 e
 exact h v H2 M2 (g1.trans g2) st2 d2
end
theorem jH{K:tU}{f:Op2}{x y:V}{H:Hp}{Q:VK}(h:rN K (o2 f) [x,y] H Q):rOp K f x y H Q:=by
 obtain⟨M,ws,r,e,mo,s,q⟩:=h
 cases s with
 |cons h1 s=>
  cases s with
  |cons h2 s=>
   cases s
   exact⟨M,_,_,r,e,mo,h1,h2,q⟩
theorem ia{K:tU}{f:Op1}{x:V}{H:Hp}{Q:VK}(h:rN K (o1 f) [x] H Q):rUn K f x H Q:=by
 obtain⟨M,ws,r,e,mo,s,q⟩:=h
 cases s with
 |cons h1 s=>
  cases s
  exact⟨M,_,r,e,mo,h1,q⟩
theorem Uh{K:tU}{c:uv}{f:Op2}{fa fb:Ev}{σ:Sg}{H:Hp}{Q:VK}(h:tD K (Qw c (o2 f) [fa,fb]) σ H Q):tOp (rOp K f) (tD K fa) (tD K fb) σ H Q:=by
 obtain⟨M,E,S,d,S',e,r,st,q⟩:=h
 have z:tD K fa σ H λx H1=>tD K fb σ H1 λy H2=>rN K (o2 f) [x,y] H2 Q:=OC (Q:=Q) e r st q
 exact Km z λx H1 z1=>Km z1 λy H2 z2=>jH z2
theorem j0{K:tU}{c:uv}{f:Op1}{fa:Ev}{σ:Sg}{H:Hp}{Q:VK}(h:tD K (Qw c (o1 f) [fa]) σ H Q):tUn (rUn K f) (tD K fa) σ H Q:=by
 obtain⟨M,E,S,d,S',e,r,st,q⟩:=h
 have z:tD K fa σ H λx H1=>rN K (o1 f) [x] H1 Q:=OC (Q:=Q) e r st q
 exact Km z λx H1 z1=>ia z1
section
variable{X:Cx}{a b e:ui}{es:KE ui}{fa fb:Ev}{fs:KE Ev}{pos p:Pos}{c:uv}
theorem Ah{op:Operator}{f:Op2}(ho:OpR X (binaryOp op) (rOp X.K f))(ha:DE X a fa)(hb:DE X b fb):DE X (.BinOp a op b pos) (Qw c (o2 f) [fa,fb]):=⟨Bi (mI ho ha.pe hb.pe) λ_ _ _ h=>Uh h⟩
theorem JA{op:CmpOp}{f:Op2}(ho:OpR X (compareOp op) (rOp X.K f))(ha:DE X a fa)(hb:DE X b fb)(hm:behindInMarks op b=false:=by rfl):DE X (.Compare a [op] [b] pos) (Qw c (o2 f) [fa,fb]):=⟨Bi (fF ho ha.pe hb.pe hm) λ_ _ _ h=>Uh h⟩
theorem Vt{op:UnaryOp}{f:Op1}(ho:UnR X (unaryOp op) (rUn X.K f))(ha:DE X a fa):DE X (.UnaryOp op a pos) (Qw c (o1 f) [fa]):=⟨Bi (nv ho ha.pe) λ_ _ _ h=>j0 h⟩
theorem AJ{f:Op2}(hr:IxR X (rOp X.K f))(ha:DE X a fa)(hb:DE X b fb)(hs:YC b:=by exact λ_ _=>rfl):DE X (.Subscript a b pos) (Qw c (o2 f) [fa,fb]):=⟨Bi (pA hr ha.pe hb.pe hs) λ_ _ _ h=>Uh h⟩
theorem Av{id:xD}{x:Str}{f:OpN}(hc:Fi X (.builtin id) (rN X.K f))(hg:Gl X x)(hm:X.mg x=none)(hv:bootBuiltins x=Gc (.builtin id))(ha:DEs X (e::es) fs)(hn:x≠ "__name__":=by decide)(hdb:(x==("__debug__":Str))=false:=by decide)(he:uW (e::es) X.env=(false,eval e X.env)::uW es X.env:=by rfl)(hpl:(backTo pos (uW es X.env)).any (·.1)=false:=by rfl):DE X (.Call (.Name x p) (e::es) [] pos) (Qw c f fs):=⟨
 Bi (Ud hc hg hm hv ha.pe hn hdb he hpl) λ_ _ _ h=>by
  obtain⟨M,E,S,d,S',e,r,st,q⟩:=h
  exact OC e r st q⟩
theorem Aw{T:xD}{x:Str}{f:OpN}(hc:Fi X (.type T) (rN X.K f))(hg:Gl X x)(hm:X.mg x=none)(hv:bootBuiltins x=Gc (.type T))(ha:DEs X (e::es) fs)(hn:x≠ "__name__":=by decide)(hdb:(x==("__debug__":Str))=false:=by decide)(he:uW (e::es) X.env=(false,eval e X.env)::uW es X.env:=by rfl)(hpl:(backTo pos (uW es X.env)).any (·.1)=false:=by rfl):DE X (.Call (.Name x p) (e::es) [] pos) (Qw c f fs):=⟨
 Bi (Nb hc hg hm hv ha.pe hn hdb he hpl) λ_ _ _ h=>by
  obtain⟨M,E,S,d,S',e,r,st,q⟩:=h
  exact OC e r st q⟩
noncomputable def eC(d:D):Ev:=λ_ S=>Gc (d,S)
theorem SG{v:V}{d:D}(h:PE X e (tC v))(r:∀K M H,Ed K M H v d):DE X e (eC d):=⟨Bi h λσ H Q z=>by
 obtain⟨M,E,S,w,S',e,rr,st,q⟩:=z
 cases e
 exact q _ _ M (.refl st.mo) st (r _ _ _)⟩
theorem AF{i:Int}{j:Nat}:DE X (.Constant (.int i) j pos) (eC (.int i)):=SG jv λ_ _ _=>.int _
theorem Wk{i:uv}{j:Nat}:DE X (.Constant (.bool i) j pos) (eC (.bl i)):=SG nC λ_ _ _=>.bl _
theorem BH{i:Str}{j:Nat}:DE X (.Constant (.str i) j pos) (eC (.str i)):=SG ig λ_ _ _=>.str _
theorem bx{j:Nat}:DE X (.Constant .none j pos) (eC .non):=SG jX λ_ _ _=>.non
noncomputable def eV(i:Nat):Ev:=λE S=>(at? E i).map λd=>(d,S)
theorem AB(i:Nat){x:Str}(hN:X.N[i]?=Gc x:=by rfl)(hv:Vis X.env.scope x:=by first|exact Or.inl rfl|exact Or.inr (Or.inl rfl)|exact Or.inr (Or.inr rfl))(hd:(x==("__debug__":Str))=false:=by decide)(hcd:(x==("__classdict__":Str))=false:=by decide):DE X (.Name x pos) (eV i):=⟨Bi (js hN hv hd hcd) λσ H Q z=>by
 obtain⟨M,E,S,d,S',e,r,st,q⟩:=z
 obtain⟨d',e1,e⟩:=Lp e
 cases e
 obtain⟨v,hv,rd⟩:=r.val i d (at?_some e1)
 exact⟨v,hv,q v H M (.refl st.mo) st rd⟩⟩
end
theorem Iy:fillsNumberSlot (.type "tuple") "mul"=pure false:=
 fillsNumberSlot_seq (id:="tuple.__mul__") (r:=Gc (.builtin "tuple.__rmul__")) yz.lookup (by decide+kernel) F.slot_tuple_rmul.lookup (by decide+kernel)
theorem Mb:seqRepeat? (.type "tuple")=pure (Gc (.builtin "tuple.__mul__")):=by
 unfold seqRepeat?
 rw[seqSlot_of (T:="tuple") (name:="__mul__") (id:="tuple.__mul__") yz.lookup (by decide+kernel),seqSlot_of (T:="tuple") (name:="__rmul__") (id:="tuple.__rmul__") F.slot_tuple_rmul.lookup (by decide+kernel)]
 rfl
theorem KG(a:Int)(t:Tok)(l:uC)(items:uu tW)(n:Nat)(dd:tY uC)(sl:uu (tY tW)):Meets (wJ.«int.__rmul__» ⟨[.int a t,.ref l],[]⟩) (λ_ R s=>s.heap.get? l=Gc {cls:=.type "tuple",dict:=dd,data:=.seq items n,slots:=sl}/\R (.ok (.ret Value.notImplemented)) s):=
 .of_wp λprog w A R s h=>by obtain⟨hp,g,d,tk,os⟩:=s;obtain⟨hl,h⟩:=h;wp_walk;exact⟨_,rfl,h⟩
theorem Q9(its:KE tW)(m:Nat):ABX (λx1 x2=>x1++x2) #[] (uQ m its.toArray)=(uQ m its).flatten.toArray:=by
 have:=foldl_rep its m []
 rw[uV]at this
 exact this
theorem gU{X:Cx}:OpR X (binaryOp .Mult) (λx y H Q=>∃a xs k,x=.ref a/\y=.int k/\SqT X.K H a xs/\xs≠[]/\1<=k/\xs.length*k.toNat<=sizeLine/\(k=1->Q (.ref a) H)/\(k≠1->∀p,H p=none->Q (.ref p) (upd H p (.tup (uQ k.toNat xs).flatten)))):=by
 intro pins s σ H x y v u Q I rx ry h
 obtain⟨a,xs,k,rfl,rfl,hx,hne,hk,hz,q1,q2⟩:=h
 cases rx
 obtain⟨t,rfl⟩:=ry
 obtain⟨its,r,⟨⟨c,dd,data,sl⟩,ho,hc,n,hd⟩,hzz⟩:=I.tuple hx
 simp only at hc hd
 subst hc hd
 have hl:=r.length
 have hsz:its.toArray.size=xs.length:=by rw[uM];exact hl.symm
 have hpos:0<xs.length:=ABL.mpr hne
 have hkl:k.toNat<=sizeLine:=uA (Nat.le_mul_of_pos_left _ hpos) hz
 have hk63:k<2^63:=by
  have:(sizeLine:Nat)<2^63:=by decide
  lia
 refine yM (T:="tuple") (U:="int") (by decide) ⟨_,ho,rfl⟩ (λs'=>yw s' k t) Iy AAk xr Mb AAJ.lookup
  (yx xr (yw s k t) AAK (zu _ _) (KG k t a its.toArray n dd sl) ⟨ho,rfl,⟨_,ho,rfl⟩,?_⟩)
 refine u9 yz ⟨_,ho,rfl⟩ F.entry_tuple_mul ?_ (ABZ _ _)
 unfold wJ.«tuple.__mul__»
 wp_walk using ua ho
 rw[uh (show¬(decide (k< -2^63)||decide (k≥2^63))=true by
  rw[vc]
  rintro (z|z)
  .have:=uO z;lia
  .have:=uO z;lia)]
 wp_walk using ua ho
 by_cases h1:k=1
 .subst h1
  rw[uZ (show(its.toArray.isEmpty||(1:Int)==1)=true by simp)]
  wp_walk using ua ho
  exact⟨_,rfl,.ref a,H,I,rfl,q1 rfl⟩
 .have hemp:its.toArray.isEmpty=false:=by
   cases its with
   |nil=>rw[yU]at hl;lia
   |cons b bs=>rfl
  rw[uh (show¬(its.toArray.isEmpty||k==1)=true by rw[hemp];simpa using h1)]
  wp_walk using ua ho
  have hmul:((its.toArray.size:Int)*k)=((xs.length*k.toNat:Nat):Int):=by
   rw[hsz,AAn]
   congr 1
   lia
  rw[uh (show¬(decide (k<=0)||its.toArray.isEmpty)=true by
   rw[hemp,Bool.or_false]
   intro z
   have:=uO z
   lia)]
  wp_walk
  rw[uh (show¬((its.toArray.size:Int)*k>(2^63-1) / 8) by
   rw[hmul]
   have:(sizeLine:Nat)<=(2^63-1) / 8:=by decide
   lia)]
  wp_walk
  rw[uh (show¬zc ((its.toArray.size:Int)*k)=true by
   unfold zc
   rw[hmul]
   intro z
   have:=uO z
   lia)]
  rw[Q9]
  wp_walk
  have hlen:(uQ k.toNat its).flatten.length<=sizeLine:=by rw[len_rep,xg,<-hl];exact hz
  rw[uh (show¬((uQ k.toNat its).flatten.toArray.size>sizeLine) by rw[uM];lia)]
  wp_walk
  refine⟨_,rfl,.ref _,_,I.laid (o:=.tup (uQ k.toNat xs).flatten) (t':=s.toks) (λb ob q=>tV _ q) (tw _) ?_,rfl,q2 h1 _ (I.hok.fresh (tw _))⟩
  exact⟨by rw[len_rep,xg];exact hz,_,r.rep k.toNat,yN _ _⟩
mutual
noncomputable def D.py:D->PyData
 | .non=>.none| .bl b=>.bool b| .int i=>.int i| .str x=>.str x| .ty _=>.none
 | .tup ds=>.tuple (D.pys ds)| .lst ds=>.list (D.pys ds)| .dct _=>.none| .scr _=>.none| .ref _=>.none
noncomputable def D.pys:KE D->KE PyData
 | []=>[]
 |d::ds=>D.py d::D.pys ds
end
mutual
noncomputable def D.lay:D->uv
 | .non=>true| .bl _=>true| .int _=>true| .str x=>vz x| .ty _=>false| .dct _=>false| .scr _=>false| .ref _=>false
 | .tup ds=>D.Rq ds| .lst ds=>D.Rq ds
noncomputable def D.Rq:KE D->uv
 | []=>true
 |d::ds=>D.lay d && D.Rq ds
end
mutual
theorem Lr:∀{d:D},d.lay=true->d.py.canLay0=true
 | .non,_=>rfl
 | .bl _,_=>rfl
 | .int _,_=>rfl
 | .str x,h=>h
 | .ty _,h=>v5 h
 | .dct _,h=>v5 h
 | .scr _,h=>v5 h
 | .ref _,h=>v5 h
 | .tup ds,h=>by show ym (D.pys ds)=true;exact QX h
 | .lst ds,h=>by show ym (D.pys ds)=true;exact QX h
theorem QX:∀{ds:KE D},D.Rq ds=true->ym (D.pys ds)=true
 | [],_=>rfl
 |d::ds,h=>by
  have h':(D.lay d && D.Rq ds)=true:=h
  rw[uP]at h'
  show(PyData.canLay0 d.py && ym (D.pys ds))=true
  rw[Lr h'.1,QX h'.2];rfl
end
section
variable{X:Cx}{pins:KE (uC×Obj)}{σ:Sg}{H:Hp}{s:tZ}{M:Ms}
theorem Oh(I:Inv X pins σ H s){a:uC}{xs:KE V}(h:Rd H a (.lst xs)):∃its:KE tW,Vals xs its/\∃o n,s.heap.get? a=Gc o/\o.cls=.type "list" /\o.data=.seq its.toArray n:=by
 obtain⟨z,its,n,r,e⟩:=h.ok I.hok
 exact⟨its,r,_,n,e,rfl,rfl⟩
mutual
theorem Ed.reads(I:Inv X pins σ H s):∀{v:V} {d:D} {u:tW},Ed X.K M H v d->RelV v u->d.lay=true->∃as,Reads s.heap u d.py as
 |_,_,_,.non,r,_=>by cases r;exact⟨_,.none⟩
 |_,_,_,.bl b,r,_=>by cases r;exact⟨_,.bool b⟩
 |_,_,_,.int b,r,_=>by obtain⟨t,rfl⟩:=r;exact⟨_,.int b t⟩
 |_,_,_,.str b,r,_=>by obtain⟨t,rfl⟩:=r;exact⟨_,.str b t⟩
 |_,_,_,.ty _,_,h=>v5 h
 |_,_,_,.dct _ _ _,_,h=>v5 h
 |_,_,_,.ref _,_,h=>v5 h
 |_,_,_,.scr _,_,h=>v5 h
 |_,_,_,.tup h rs,r,hl=>by
  cases r
  obtain⟨its,rv,⟨o,e,hc,n,hd⟩,_⟩:=I.tuple h
  obtain⟨as,ra⟩:=A6.reads I rs rv hl
  exact⟨as,.tuple e hc hd ra⟩
 |_,_,_,.lst h _ rs,r,hl=>by
  cases r
  obtain⟨its,rv,o,n,e,hc,hd⟩:=Oh I (.inl h)
  obtain⟨as,ra⟩:=A6.reads I rs rv hl
  exact⟨_,.list e hc hd ra⟩
theorem A6.reads(I:Inv X pins σ H s):∀{vs:KE V} {ds:KE D} {us:KE tW},A6 X.K M H vs ds->Vals vs us->D.Rq ds=true->∃as,ReadsAll s.heap us (D.pys ds) as
 |_,_,_,.nil,r,_=>by cases r;exact⟨_,.nil⟩
 |_,_,_,.cons (d:=d) (ds:=ds) h t,r,hl=>by
  cases r with
  |cons r1 r2=>
   have hl':(D.lay d && D.Rq ds)=true:=hl
   rw[uP]at hl'
   obtain⟨as,ra⟩:=Ed.reads I h r1 hl'.1
   obtain⟨bs,rb⟩:=A6.reads I t r2 hl'.2
   exact⟨_,.cons ra rb⟩
end
end
noncomputable def deq(a b:D):uv:=PyData.eqv a.py b.py
noncomputable def Eo(a b:D):uv:=a.lay && b.lay && decide (min a.py.depth b.py.depth<=60)
noncomputable def wEq:Op2:=λa b=>if Eo (fz a) (fz b)=true then Gc (.val (.bl (deq (fz a) (fz b))))else none
noncomputable def wNe:Op2:=λa b=>if Eo (fz a) (fz b)=true then Gc (.val (.bl (!deq (fz a) (fz b))))else none
section
variable{X:Cx}
theorem Sh.reads{pins:KE (uC×Obj)}{σ:Sg}{H:Hp}{s:tZ}{M:Ms}{v:V}{u:tW}{w:Wv}(h:Sh X.K M H v w)(I:Inv X pins σ H s)(r:RelV v u)(hl:(fz w).lay=true):∃as,Reads s.heap u (fz w).py as:=by
 cases w with
 |val d=>exact Ed.reads I h r hl
 |own ds=>
  obtain⟨a,xs,rfl,h1,h2⟩:=h
  cases r
  obtain⟨its,rv,o,n,e,hc,hd⟩:=Oh I (.inl h1)
  obtain⟨as,ra⟩:=A6.reads I h2 rv hl
  exact⟨_,.list e hc hd ra⟩
theorem Bu(hu:X.A.units+100<cLine):OpR X (compareOp .Eq) (rOp X.K wEq):=by
 intro pins s σ H x y v u Q I rx ry h
 obtain⟨M,w1,w2,r,e,mo,s1,s2,q⟩:=h
 unfold wEq at e
 split at e
 .rename_i hk
  unfold Eo at hk
  rw[uP,uP]at hk
  cases e
  obtain⟨as,ra⟩:=s1.reads I rx hk.1.1
  obtain⟨bs,rb⟩:=s2.reads I ry hk.1.2
  have hd:=uO hk.2
  exact SeqAt.compareEq_reads ra rb (Lr hk.1.1) (Lr hk.1.2) (by omega) ⟨.bl _,H,I,rfl,q _ _ (.same mo (.bl _))⟩
 .cases e
theorem Lb(hu:X.A.units+100<cLine):OpR X (compareOp .NotEq) (rOp X.K wNe):=by
 intro pins s σ H x y v u Q I rx ry h
 obtain⟨M,w1,w2,r,e,mo,s1,s2,q⟩:=h
 unfold wNe at e
 split at e
 .rename_i hk
  unfold Eo at hk
  rw[uP,uP]at hk
  cases e
  obtain⟨as,ra⟩:=s1.reads I rx hk.1.1
  obtain⟨bs,rb⟩:=s2.reads I ry hk.1.2
  have hd:=uO hk.2
  exact SeqAt.compareNe_reads ra rb (Lr hk.1.1) (Lr hk.1.2) (by omega) ⟨.bl _,H,I,rfl,q _ _ (.same mo (.bl _))⟩
 .cases e
noncomputable def wI2(f:Int->Int->tY D):Op2
 | .val (.int i),.val (.int j)=>(f i j).map .val
 |_,_=>none
theorem Us{g:tW->tW->Sem tW}{C:Int->Int->Prop}{h:Int->Int->V}{f:Int->Int->tY D}(o:OpR X g (rI C h))(hf:∀i j d,f i j=Gc d->C i j/\∀K M H,Ed K M H (h i j) d):OpR X g (rOp X.K (wI2 f)):=by
 intro pins s σ H x y v u Q I rx ry hh
 obtain⟨M,w1,w2,r,e,mo,s1,s2,q⟩:=hh
 unfold wI2 at e
 split at e
 .cases s1
  cases s2
  rename_i i j
  cases e1:f i j with
  |none=>rw[e1]at e;cases e
  |some d=>
   rw[e1]at e
   cases e
   obtain⟨c,rd⟩:=hf i j d e1
   exact o pins s σ H _ _ v u Q I rx ry ⟨i,j,rfl,rfl,c,q _ _ (.same mo (rd _ _ _))⟩
 .cases e
theorem OX{g:tW->tW->Sem tW}{h:Int->Int->V}{f:Int->Int->tY D}(o:OpR X g (rI0 h))(hf:∀i j d,f i j=Gc d->∀K M H,Ed K M H (h i j) d):OpR X g (rOp X.K (wI2 f)):=by
 intro pins s σ H x y v u Q I rx ry hh
 obtain⟨M,w1,w2,r,e,mo,s1,s2,q⟩:=hh
 unfold wI2 at e
 split at e
 .cases s1
  cases s2
  rename_i i j
  cases e1:f i j with
  |none=>rw[e1]at e;cases e
  |some d=>
   rw[e1]at e
   cases e
   exact o pins s σ H _ _ v u Q I rx ry ⟨i,j,rfl,rfl,q _ _ (.same mo (hf i j d e1 _ _ _))⟩
 .cases e
noncomputable def U1:Op2:=wI2 λi j=>Gc (.int (i-j))
noncomputable def cR:Nat:=2^60000
noncomputable def HP:Nat:=2^8000
noncomputable def Ep(i j:Int):uv:=decide (i.natAbs<2^64)||(decide (j.natAbs<2^64)||(decide (i.natAbs<cR) && decide (j.natAbs<cR)))
theorem fJ:OpR X (binaryOp .Mult) (rI (λi j=>Ep i j=true) λi j=>.int (i*j)):=by
 intro pins s σ H x y v u Q I rx ry h
 obtain⟨i,j,rfl,rfl,hk,q⟩:=h
 unfold Ep at hk
 rw[vc,vc,uP]at hk
 rcases hk with hk|hk|hk
 .have:=uO hk
  exact dD pins s σ H _ _ v u Q I rx ry ⟨i,j,rfl,rfl,.inl ⟨by omega,by omega⟩,q⟩
 .have:=uO hk
  exact dD pins s σ H _ _ v u Q I rx ry ⟨i,j,rfl,rfl,.inr ⟨by omega,by omega⟩,q⟩
 .have h1:i.natAbs<2^60000:=uO hk.1
  have h2:j.natAbs<2^60000:=uO hk.2
  obtain⟨t1,rfl⟩:=rx
  obtain⟨t2,rfl⟩:=ry
  exact PyProof.Rows.mul_int ⟨.int _,H,I.tok _,⟨_,rfl⟩,q⟩ (PyProof.Rows.mulOk_of_bits (m:=60000) (n:=60000) (AA3.mpr h1) (AA3.mpr h2) (by decide))
noncomputable def iT:Op2:=wI2 λi j=>if Ep i j=true then Gc (.int (i*j))else none
noncomputable def P9:Op2:=wI2 λi j=>if(decide (0<j) && decide (j.natAbs<HP))=true then Gc (.int (i / j))else none
noncomputable def SV:Op2:=wI2 λi j=>if 0<j then Gc (.int (i % j))else none
noncomputable def lr:Op2:=wI2 λi j=>if(decide (0<=j) && decide (j<=1000) && decide (i.natAbs<2^64))=true then Gc (.int (i^j.toNat))else none
noncomputable def wLt:Op2:=wI2 λi j=>Gc (.bl (decide (i<j)))
noncomputable def wLe:Op2:=wI2 λi j=>Gc (.bl (decide (i<=j)))
noncomputable def wGt:Op2:=wI2 λi j=>Gc (.bl (decide (j<i)))
noncomputable def wGe:Op2:=wI2 λi j=>Gc (.bl (decide (j<=i)))
theorem He:OpR X (binaryOp .Sub) (rOp X.K U1):=OX ju λi j d e K M H=>by cases e;exact .int _
theorem dO:OpR X (binaryOp .Mult) (rOp X.K iT):=Us fJ λi j d e=>by
 split at e
 .rename_i hk
  cases e
  exact⟨hk,λ_ _ _=>.int _⟩
 .cases e
theorem IX:OpR X (binaryOp .FloorDiv) (rOp X.K P9):=Us St.Z8 λi j d e=>by
 split at e
 .rename_i hk
  rw[uP]at hk
  cases e
  exact⟨⟨uO hk.1,uO hk.2⟩,λ_ _ _=>.int _⟩
 .cases e
theorem HZ:OpR X (binaryOp .Mod) (rOp X.K SV):=Us j7 λi j d e=>by
 split at e
 .rename_i hk
  cases e
  exact⟨hk,λ_ _ _=>.int _⟩
 .cases e
theorem Xy:OpR X (binaryOp .Pow) (rOp X.K lr):=Us jg λi j d e=>by
 split at e
 .rename_i hk
  rw[uP,uP]at hk
  cases e
  have:=uO hk.1.2
  exact⟨⟨uO hk.1.1,by omega,uO hk.2⟩,λ_ _ _=>.int _⟩
 .cases e
theorem Pf:OpR X (compareOp .Lt) (rOp X.K wLt):=OX mO λi j d e K M H=>by cases e;exact .bl _
theorem ik:OpR X (compareOp .LtE) (rOp X.K wLe):=OX mM λi j d e K M H=>by cases e;exact .bl _
theorem SQ:OpR X (compareOp .Gt) (rOp X.K wGt):=OX nW λi j d e K M H=>by cases e;exact .bl _
theorem Xj:OpR X (compareOp .GtE) (rOp X.K wGe):=OX pD λi j d e K M H=>by cases e;exact .bl _
noncomputable def asL:Wv->tY (KE D)
 | .own ds=>Gc ds
 | .val (.lst ds)=>Gc ds
 |_=>none
noncomputable def asT:Wv->tY (KE D)
 | .val (.tup ds)=>Gc ds
 |_=>none
noncomputable def asC:Wv->tY (KE D)
 | .val (.scr ns)=>Gc (ns.map .int)
 |_=>none
noncomputable def asS(w:Wv):tY (KE D):=(asL w).or ((asT w).or (asC w))
section
variable{K:tU}{M:Ms}{H:Hp}{v:V}{w:Wv}{ds:KE D}
theorem Sh.l(h:Sh K M H v w)(e:asL w=Gc ds):∃a xs,v=.ref a/\H a=Gc (.lst xs)/\A6 K M H xs ds:=by
 cases w with
 |own es=>cases e;obtain⟨a,xs,rfl,h1,h2⟩:=h;exact⟨a,xs,rfl,h1,h2⟩
 |val d=>
  cases d<;>first|(cases e;done)|skip
  cases e
  cases h with
  |lst h n r=>exact⟨_,_,rfl,h,r⟩
theorem Sh.t(h:Sh K M H v w)(e:asT w=Gc ds):∃a xs,v=.ref a/\SqT K H a xs/\A6 K M H xs ds:=by
 cases w with
 |own es=>cases e
 |val d=>
  cases d<;>first|(cases e;done)|skip
  cases e
  cases h with
  |tup h r=>exact⟨_,_,rfl,h,r⟩
theorem Ic:∀{ns:KE Int},A6 K M H (ns.map V.int) (ns.map D.int)
 | []=>.nil
 |n::ns=>.cons (.int n) Ic
theorem Sh.c(h:Sh K M H v w)(e:asC w=Gc ds):∃a xs,v=.ref a/\SqL K H a xs/\A6 K M H xs ds:=by
 cases w with
 |own es=>cases e
 |val d=>
  cases d<;>first|(cases e;done)|skip
  cases e
  cases h with
  |scr h=>
   refine⟨_,_,rfl,?_,Ic⟩
   rcases h with h|h
   .exact .inl h.1
   .exact .inr h
theorem Sh.s(h:Sh K M H v w)(e:asS w=Gc ds):∃a xs,v=.ref a/\(SqL K H a xs\/SqT K H a xs)/\A6 K M H xs ds:=by
 unfold asS at e
 cases e1:asL w with
 |some es=>
  rw[e1]at e
  cases e
  obtain⟨a,xs,h1,h2,h3⟩:=h.l e1
  exact⟨a,xs,h1,.inl (.of h2),h3⟩
 |none=>
  rw[e1]at e
  cases e2:asT w with
  |some es=>
   rw[e2]at e
   cases e
   obtain⟨a,xs,h1,h2,h3⟩:=h.t e2
   exact⟨a,xs,h1,.inr h2,h3⟩
  |none=>
   rw[e2]at e
   obtain⟨a,xs,h1,h2,h3⟩:=h.c e
   exact⟨a,xs,h1,.inl h2,h3⟩
end
noncomputable def HN:Op1:=λw=>match w with
 | .val (.str z)=>if z.length<=sizeLine then Gc (.val (.int z.length))else none
 |_=>(asS w).map λds=>.val (.int ds.length)
theorem BW:Fi X (.builtin "len") (rN X.K (o1 HN)):=by
 intro pins s σ H xs us Q I r h
 obtain⟨M,ws,w,e,mo,sh,q⟩:=h
 cases sh with
 |nil=>cases e
 |cons h1 t=>
  cases t with
  |cons h2 t=>cases e
  |nil=>
   rename_i v w1
   have e':HN w1=Gc w:=e
   unfold HN at e'
   split at e'
   .split at e'
    .rename_i z hz
     cases e'
     cases h1
     exact RU pins s σ H _ us Q I r ⟨z,rfl,hz,q _ _ (.same mo (.int _))⟩
    .cases e'
   .cases e1:asS w1 with
    |none=>rw[e1]at e';cases e'
    |some ds=>
     rw[e1]at e'
     cases e'
     obtain⟨a,ys,rfl,h3,h4⟩:=h1.s e1
     refine RY pins s σ H _ us Q I r ⟨a,ys,rfl,h3,q _ _ ?_⟩
     rw[h4.length]
     exact .same mo (.int _)
noncomputable def wIx:Op2:=λa b=>match a,b with
 |a,.val (.int i)=>(asS a).bind λds=>(atI ds i).map .val
 |_,_=>none
theorem fD{K:tU}{M:Ms}{H:Hp}{xs:KE V}{ds:KE D}{i:Int}{d:D}(h:A6 K M H xs ds)(e:atI ds i=Gc d):∃x,atI xs i=Gc x/\Ed K M H x d:=by
 unfold atI at e⊢
 rw[h.length]
 cases e1:ixN ds.length i with
 |none=>rw[e1]at e;cases e
 |some j=>
  rw[e1]at e
  exact h.get e
theorem AW:IxR X (rOp X.K wIx):=by
 intro value slice pins s σ H x y v u Q I rx ry h hs
 obtain⟨M,w1,w2,r,e,mo,s1,s2,q⟩:=h
 unfold wIx at e
 split at e
 .rename_i i
  cases e1:asS w1 with
  |none=>rw[e1]at e;cases e
  |some ds=>
   rw[e1]at e
   simp only[y0]at e
   cases e2:atI ds i with
   |none=>rw[e2]at e;cases e
   |some d=>
    rw[e2]at e
    cases e
    cases s2
    obtain⟨a,ys,rfl,h3,h4⟩:=s1.s e1
    obtain⟨z,h5,h6⟩:=fD h4 e2
    rcases h3 with h3|h3
    .exact fA value slice pins s σ H _ _ v u Q I rx ry ⟨a,ys,i,z,rfl,rfl,h3,h5,q _ _ (.same mo h6)⟩ hs
    .exact j6 value slice pins s σ H _ _ v u Q I rx ry ⟨a,ys,i,z,rfl,rfl,h3,h5,q _ _ (.same mo h6)⟩ hs
 .cases e
end
section
variable{X:Cx}
noncomputable def Ek:Op2:=λa b=>match a,b with
 | .val (.int i),.val (.int j)=>Gc (.val (.int (i+j)))
 | .val (.str x),.val (.str y)=>if x.length+y.length<=sizeLine then Gc (.val (.str (x++y)))else none
 | .val (.tup xs),.val (.tup ys)=>if xs.length+ys.length<=sizeLine then Gc (.val (.tup (xs++ys)))else none
 |a,b=>(asL a).bind λxs=>(asL b).bind λys=>if xs.length+ys.length<=sizeLine then Gc (.own (xs++ys))else none
theorem Ao:OpR X (binaryOp .Add) (rOp X.K Ek):=by
 intro pins s σ H x y v u Q I rx ry h
 obtain⟨M,w1,w2,r,e,mo,s1,s2,q⟩:=h
 unfold Ek at e
 split at e
 .cases e
  cases s1;cases s2
  exact gz pins s σ H _ _ v u Q I rx ry ⟨_,_,rfl,rfl,q _ _ (.same mo (.int _))⟩
 .split at e
  .cases e
   cases s1;cases s2
   exact VR pins s σ H _ _ v u Q I rx ry ⟨_,_,rfl,rfl,by assumption,q _ _ (.same mo (.str _))⟩
  .cases e
 .split at e
  .rename_i xs ys hz
   cases e
   cases s1 with
   |tup h1 r1=>
    cases s2 with
    |tup h2 r2=>
     rename_i a xs' b ys'
     have l1:=r1.length
     have l2:=r2.length
     by_cases hx:xs'=[]
     .subst hx
      cases r1
      refine St.dg pins s σ H _ _ v u Q I rx ry ⟨_,_,_,rfl,rfl,h1,h2,q _ _ (.same mo ?_)⟩
      exact .tup h2 r2
     .refine fZ pins s σ H _ _ v u Q I rx ry ⟨_,_,_,_,rfl,rfl,h1,h2,hx,by lia,λz=>?_,λ_ p hp=>q _ _ (.tup mo hp (r1.append r2))⟩
      subst z
      cases r2
      rw[zG]at q
      exact q _ _ (.same mo (.tup h1 r1))
  .cases e
 .cases e1:asL w1 with
  |none=>rw[e1]at e;cases e
  |some xs=>
   rw[e1]at e
   cases e2:asL w2 with
   |none=>rw[e2]at e;cases e
   |some ys=>
    rw[e2]at e
    simp only[y0]at e
    split at e
    .rename_i hz
     cases e
     obtain⟨a,xs',rfl,h1,r1⟩:=s1.l e1
     obtain⟨b,ys',rfl,h2,r2⟩:=s2.l e2
     have l1:=r1.length
     have l2:=r2.length
     exact i9 pins s σ H _ _ v u Q I rx ry ⟨a,b,xs',ys',rfl,rfl,h1,h2,by lia,λp hp=>q _ _ (.lst mo hp (r1.append r2))⟩
    .cases e
noncomputable def kf:Op2:=λa b=>match a,b with
 | .val (.int i),.val (.int j)=>if Ep i j=true then Gc (.val (.int (i*j)))else none
 | .val (.tup xs),.val (.int k)=>if(!xs.isEmpty && decide (1<=k) && decide (xs.length*k.toNat<=sizeLine))=true then Gc (.val (.tup (uQ k.toNat xs).flatten))else none
 |a,.val (.int k)=>(asL a).bind λxs=>if(decide (k<2^63) && decide (-(2^63)<=k) && decide (xs.length*k.toNat<=sizeLine))=true then Gc (.own (uQ k.toNat xs).flatten)else none
 |_,_=>none
theorem A6.rep{K:tU}{M:Ms}{H:Hp}{xs:KE V}{ds:KE D}(h:A6 K M H xs ds):∀n:Nat,A6 K M H (uQ n xs).flatten (uQ n ds).flatten
 |0=>.nil
 |n+1=>by
  rw[vd,vd,xK,xK]
  exact h.append (A6.rep h n)
theorem Xm:OpR X (binaryOp .Mult) (rOp X.K kf):=by
 intro pins s σ H x y v u Q I rx ry h
 obtain⟨M,w1,w2,r,e,mo,s1,s2,q⟩:=h
 unfold kf at e
 split at e
 .rename_i i j
  refine dO pins s σ H x y v u Q I rx ry ⟨M,_,_,r,?_,mo,s1,s2,q⟩
  unfold iT wI2
  show ABa Wv.val (if Ep i j=true then Gc (D.int (i*j))else none)=Gc r
  split at e
  .rename_i hk
   rw[uZ hk]
   exact e
  .cases e
 .rename_i xs k
  split at e
  .rename_i hk
   rw[uP,uP]at hk
   cases e
   cases s2
   cases s1 with
   | @tup a ys _ h1 r1=>
     have l1:=r1.length
     have z:=uO hk.2
     have hk1:=uO hk.1.2
     have hne:ys≠[]:=λzz=>by
      subst zz
      cases r1
      exact absurd hk.1.1 (by decide)
     refine gU pins s σ H _ _ v u Q I rx ry ⟨a,ys,k,rfl,rfl,h1,hne,hk1,by rw[l1];exact z,λe1=>?_,λ_ p hp=>q _ _ (.tup mo hp (r1.rep _))⟩
     subst e1
     have:(uQ (1:Int).toNat xs).flatten=xs:=by simp
     rw[this]at q
     exact q _ _ (.same mo (.tup h1 r1))
  .cases e
 .rename_i k hn hn2
  cases e1:asL w1 with
  |none=>rw[e1]at e;cases e
  |some xs=>
   rw[e1]at e
   simp only[y0]at e
   split at e
   .rename_i hk
    rw[uP,uP]at hk
    cases e
    cases s2
    obtain⟨a,xs',rfl,h1,r1⟩:=s1.l e1
    have l1:=r1.length
    have z:=uO hk.2
    exact jz pins s σ H _ _ v u Q I rx ry ⟨a,k,xs',rfl,rfl,h1,uO hk.1.2,uO hk.1.1,by rw[l1];exact z,λp hp=>q _ _ (.lst mo hp (r1.rep _))⟩
   .cases e
 .cases e
noncomputable def Ys:Op1
 | .val (.int i)=>Gc (.val (.int (-i)))
 |_=>none
theorem MG:UnR X (unaryOp .USub) (rUn X.K Ys):=by
 intro pins s σ H x v Q I rx h
 obtain⟨M,w,r,e,mo,s1,q⟩:=h
 unfold Ys at e
 split at e
 .cases e
  cases s1
  exact jL pins s σ H _ v Q I rx ⟨_,rfl,q _ _ (.same mo (.int _))⟩
 .cases e
noncomputable def Kj:D->uv
 | .non=>true| .bl _=>true| .int _=>true| .str _=>true
 |_=>false
theorem Sh.flat{K:tU}{M:Ms}{H:Hp}{v:V}{w:Wv}(h:Sh K M H v w)(f:Kj (fz w)=true):Ed K M H v (fz w):=by
 cases w with
 |val d=>exact h
 |own ds=>cases f
noncomputable def inD(x:D)(xs:KE D):uv:=xs.any λy=>deq y x
theorem U7{K:tU}{M:Ms}{H:Hp}{v:V}{d:D}(h:Ed K M H v d)(f:Kj d=true):O9 v=true:=by
 cases h<;>first|rfl|cases f
theorem dW{K:tU}{M:Ms}{H:Hp}{v u:V}{d e:D}(h:Ed K M H v d)(g:Ed K M H u e)(f:Kj d=true)(f':Kj e=true):eqV v u=deq d e:=by
 cases h<;>first|(cases f;done)|skip
 all_goals (cases g<;>first|(cases f';done)|rfl)
theorem RH{K:tU}{M:Ms}{H:Hp}:∀{vs:KE V} {ds:KE D},A6 K M H vs ds->ds.all Kj=true->vs.all O9=true
 |_,_,.nil,_=>rfl
 |_,_,.cons h t,f=>by
  rw[y8,uP]at f⊢
  exact⟨U7 h f.1,RH t f.2⟩
theorem Wg{K:tU}{M:Ms}{H:Hp}{u:V}{e:D}(g:Ed K M H u e)(f':Kj e=true):∀{vs:KE V} {ds:KE D},A6 K M H vs ds->ds.all Kj=true->inV u vs=inD e ds
 |_,_,.nil,_=>rfl
 |_,_,.cons h t,f=>by
  rw[y8,uP]at f
  have ih:=Wg g f' t f.2
  unfold inV inD at ih⊢
  rw[wg,wg,ih,dW h g f.1 f']
noncomputable def wIn(neg:uv):Op2:=λa b=>(asS b).bind λds=>if(Kj (fz a) && ds.all Kj)=true then Gc (.val (.bl (if neg then !inD (fz a) ds else inD (fz a) ds)))else none
theorem cx{M:Ms}{H:Hp}{x y:V}{w1 w2 r:Wv}{neg:uv}{Q:VK}(e:wIn neg w1 w2=Gc r)(mo:MOk M H)(s1:Sh X.K M H x w1)(s2:Sh X.K M H y w2)(q:∀v H',Nw X.K M H H' v r->Q v H'):rIn X.K neg x y H Q:=by
 unfold wIn at e
 cases e1:asS w2 with
 |none=>rw[e1]at e;cases e
 |some ds=>
  rw[e1]at e
  simp only[y0]at e
  split at e
  .rename_i hk
   rw[uP]at hk
   cases e
   obtain⟨a,xs,rfl,h3,h4⟩:=s2.s e1
   have g1:=s1.flat hk.1
   refine⟨a,xs,rfl,h3,U7 g1 hk.1,RH h4 hk.2,?_⟩
   rw[Wg g1 hk.1 h4 hk.2]
   exact q _ _ (.same mo (.bl _))
  .cases e
theorem Io:OpR X (compareOp .In) (rOp X.K (wIn false)):=by
 intro pins s σ H x y v u Q I rx ry h
 obtain⟨M,w1,w2,r,e,mo,s1,s2,q⟩:=h
 exact YO pins s σ H _ _ v u Q I rx ry (cx e mo s1 s2 q)
theorem Ri:OpR X (compareOp .NotIn) (rOp X.K (wIn true)):=by
 intro pins s σ H x y v u Q I rx ry h
 obtain⟨M,w1,w2,r,e,mo,s1,s2,q⟩:=h
 exact SS pins s σ H _ _ v u Q I rx ry (cx e mo s1 s2 q)
noncomputable def isN:Wv->uv
 | .val .non=>true
 |_=>false
noncomputable def lu(neg:uv):Op2:=λa b=>match b with
 | .val .non=>Gc (.val (.bl (if neg then !isN a else isN a)))
 |_=>none
theorem er{K:tU}{M:Ms}{H:Hp}{x:V}{w:Wv}(s:Sh K M H x w):decide (x=.non)=isN w:=by
 cases w with
 |own ds=>obtain⟨a,xs,rfl,_⟩:=s;rfl
 |val d=>cases s<;>rfl
theorem aO:OpR X (compareOp .IsNot) (rOp X.K (lu true)):=by
 intro pins s σ H x y v u Q I rx ry h
 obtain⟨M,w1,w2,r,e,mo,s1,s2,q⟩:=h
 unfold lu at e
 split at e
 .cases e
  cases s2
  refine fg pins s σ H _ _ v u Q I rx ry ⟨rfl,?_⟩
  rw[er s1]
  exact q _ _ (.same mo (.bl _))
 .cases e
theorem KZ{K:tU}{M:Ms}{H:Hp}{xs:KE V}{ws:KE Wv}{f:Op1}{r:Wv}(h:Shs K M H xs ws)(e:o1 f ws=Gc r):∃v w,xs=[v]/\ws=[w]/\Sh K M H v w/\f w=Gc r:=by
 cases h with
 |nil=>cases e
 |cons h1 t=>
  cases t with
  |cons h2 t=>cases e
  |nil=>exact⟨_,_,rfl,rfl,h1,e⟩
theorem Te{K:tU}{M:Ms}{H:Hp}{xs:KE V}{ws:KE Wv}{f:Op2}{r:Wv}(h:Shs K M H xs ws)(e:o2 f ws=Gc r):∃v w v' w',xs=[v,v']/\ws=[w,w']/\Sh K M H v w/\Sh K M H v' w'/\f w w'=Gc r:=by
 cases h with
 |nil=>cases e
 |cons h1 t=>
  cases t with
  |nil=>cases e
  |cons h2 t=>
   cases t with
   |cons h3 t=>cases e
   |nil=>exact⟨_,_,_,_,rfl,rfl,h1,h2,e⟩
noncomputable def gi:Op1
 | .val (.int i)=>Gc (.val (.int (if i<0 then-i else i)))
 |_=>none
theorem N9:Fi X (.builtin "abs") (rN X.K (o1 gi)):=by
 intro pins s σ H xs us Q I r h
 obtain⟨M,ws,w,e,mo,sh,q⟩:=h
 obtain⟨v,w1,rfl,rfl,s1,e1⟩:=KZ sh e
 unfold gi at e1
 split at e1
 .cases e1
  cases s1
  exact Zo pins s σ H _ us Q I r ⟨_,rfl,q _ _ (.same mo (.int _))⟩
 .cases e1
noncomputable def kX:Op2:=wI2 λi j=>Gc (.int (if j>i then j else i))
noncomputable def gq:Op2:=wI2 λi j=>Gc (.int (if j<i then j else i))
theorem UY{f:Int->Int->tY D}{a b r:Wv}(e:wI2 f a b=Gc r):∃i j d,a=.val (.int i)/\b=.val (.int j)/\f i j=Gc d/\r=.val d:=by
 unfold wI2 at e
 split at e
 .rename_i i j
  cases e1:f i j with
  |none=>rw[e1]at e;cases e
  |some d=>rw[e1]at e;cases e;exact⟨i,j,d,rfl,rfl,e1,rfl⟩
 .cases e
theorem X2(hc:X.calm=true):Fi X (.builtin "max") (rN X.K (o2 kX)):=by
 intro pins s σ H xs us Q I r h
 obtain⟨M,ws,w,e,mo,sh,q⟩:=h
 obtain⟨v,w1,v',w2,rfl,rfl,s1,s2,e1⟩:=Te sh e
 obtain⟨i,j,d,rfl,rfl,e2,rfl⟩:=UY e1
 cases e2;cases s1;cases s2
 exact W8 hc pins s σ H _ us Q I r ⟨_,_,rfl,q _ _ (.same mo (.int _))⟩
theorem R4(hc:X.calm=true):Fi X (.builtin "min") (rN X.K (o2 gq)):=by
 intro pins s σ H xs us Q I r h
 obtain⟨M,ws,w,e,mo,sh,q⟩:=h
 obtain⟨v,w1,v',w2,rfl,rfl,s1,s2,e1⟩:=Te sh e
 obtain⟨i,j,d,rfl,rfl,e2,rfl⟩:=UY e1
 cases e2;cases s1;cases s2
 exact Ww hc pins s σ H _ us Q I r ⟨_,_,rfl,q _ _ (.same mo (.int _))⟩
noncomputable def Ck:Op1:=λw=>(asS w).map λds=>.val (.tup ds)
theorem Ay:Fi X (.type "tuple") (rN X.K (o1 Ck)):=by
 intro pins s σ H xs us Q I r h
 obtain⟨M,ws,w,e,mo,sh,q⟩:=h
 obtain⟨v,w1,rfl,rfl,s1,e1⟩:=KZ sh e
 unfold Ck at e1
 cases e2:asS w1 with
 |none=>rw[e2]at e1;cases e1
 |some ds=>
  rw[e2]at e1
  cases e1
  obtain⟨a,ys,rfl,h3,h4⟩:=s1.s e2
  refine Q5 pins s σ H _ us Q I r ⟨a,ys,rfl,?_⟩
  rcases h3 with h3|h3
  .exact .inl ⟨h3,λl hl=>q _ _ (.tup mo hl h4)⟩
  .exact .inr ⟨h3,q _ _ (.same mo (.tup h3 h4))⟩
noncomputable def Rz:Op1:=λw=>(asS w).map λds=>.own ds
theorem Lx:Fi X (.type "list") (rN X.K (o1 Rz)):=by
 intro pins s σ H xs us Q I r h
 obtain⟨M,ws,w,e,mo,sh,q⟩:=h
 obtain⟨v,w1,rfl,rfl,s1,e1⟩:=KZ sh e
 unfold Rz at e1
 cases e2:asS w1 with
 |none=>rw[e2]at e1;cases e1
 |some ds=>
  rw[e2]at e1
  cases e1
  obtain⟨a,ys,rfl,h3,h4⟩:=s1.s e2
  exact Rt pins s σ H _ us Q I r ⟨a,ys,rfl,h3,λl hl=>q _ _ (.lst mo hl h4)⟩
noncomputable def V5:Op1
 | .val (.int i)=>Gc (.val (.int i))
 | .val (.bl b)=>Gc (.val (.int (if b then 1 else 0)))
 |_=>none
theorem Jd:Fi X (.type "int") (rN X.K (o1 V5)):=by
 intro pins s σ H xs us Q I r h
 obtain⟨M,ws,w,e,mo,sh,q⟩:=h
 obtain⟨v,w1,rfl,rfl,s1,e1⟩:=KZ sh e
 unfold V5 at e1
 split at e1
 .cases e1;cases s1
  exact SI pins s σ H _ us Q I r (.inl ⟨_,rfl,q _ _ (.same mo (.int _))⟩)
 .cases e1;cases s1
  exact SI pins s σ H _ us Q I r (.inr ⟨_,rfl,q _ _ (.same mo (.int _))⟩)
 .cases e1
noncomputable def kdW:Wv->tY St.Kd
 | .own _=>Gc .lst
 | .val .non=>Gc .non| .val (.bl _)=>Gc .bl| .val (.int _)=>Gc .int| .val (.str _)=>Gc .str| .val (.lst _)=>Gc .lst| .val (.dct _)=>Gc .dct| .val (.tup _)=>Gc .tup
 | .val (.ty _)=>none| .val (.scr _)=>none| .val (.ref _)=>none
end
section
variable{X:Cx}
theorem ZC{K:tU}(k:St.Kd):wu K (.type k.ty) (.type "list")=Gc (k.isA "list"):=by
 cases k<;>rfl
noncomputable def Ve(T:xD):uv:=T== "int" ||T== "bool" ||T== "tuple" ||T== "str" ||T== "list"
theorem iM{K:tU}{T:xD}(h:Ve T=true)(k:St.Kd):wu K (.type k.ty) (.type T)=Gc (k.isA T):=by
 unfold Ve at h
 simp only[vc,yV]at h
 rcases h with(((rfl|rfl)|rfl)|rfl)|rfl
 .exact St.gW k
 .exact St.aF k
 .exact St.kit_tuple k
 .exact St.fX k
 .exact ZC k
noncomputable def jx:Op2:=λa t=>match t with
 | .val (.ty T)=>if Ve T=true then(kdW a).map λk=>.val (.bl (k.isA T))else none
 |_=>none
theorem Rc:Fi X (.builtin "isinstance") (rN X.K (o2 jx)):=by
 intro pins s σ H xs us Q I r h
 obtain⟨M,ws,w,e,mo,sh,q⟩:=h
 obtain⟨v,w1,v',w2,rfl,rfl,s1,s2,e1⟩:=Te sh e
 unfold jx at e1
 split at e1
 .rename_i T
  split at e1
  .rename_i hT
   cases e2:kdW w1 with
   |none=>rw[e2]at e1;cases e1
   |some k=>
    rw[e2]at e1
    cases e1
    cases s2
    obtain⟨u1,u2,rfl,r1,r2⟩:=r.two
    cases (show u2=AAO T from r2)
    have fin:∀tk,EP X pins σ Q (.bool (k.isA T)) {s with toks:=tk}:=λtk=>⟨.bl _,H,I.tok tk,rfl,q _ _ (.same mo (.bl _))⟩
    have kk:=iM (K:=X.K) hT k
    cases w1 with
    |own ds=>
     cases e2
     obtain⟨a,ys,rfl,h1,_⟩:=s1
     exact Gi I r1 (.lst h1) kk fin
    |val d=>
     have s1':Ed X.K M H v d:=s1
     cases s1' with
     |non=>cases e2;exact Gi I r1 .non kk fin
     |bl b=>cases e2;exact Gi I r1 (.bl b) kk fin
     |int b=>cases e2;exact Gi I r1 (.int b) kk fin
     |str b=>cases e2;exact Gi I r1 (.str b) kk fin
     |ty b=>cases e2
     |scr h=>cases e2
     |lst h n rr=>cases e2;exact Gi I r1 (.lst h) kk fin
     |dct h n rr=>cases e2;exact Gi I r1 (.dK h) kk fin
     |ref h=>cases e2
     |tup h rr=>
      cases e2
      rename_i a ys ds
      cases (show u1=vN a from r1)
      obtain⟨its,_,⟨o,h1,h2,_⟩,_⟩:=I.tuple h
      exact vb ABV I.kIn ⟨o,h1,h2⟩ kk (λz=>nomatch z) fin
  .cases e1
 .cases e1
noncomputable def CS(fs:KE Ev):Ev:=λE S=>(evs fs E S).bind λr=>if r.1.length<=sizeLine then Gc (.tup r.1,r.2)else none
noncomputable def ZP(c:uv)(fs:KE Ev):Ev:=λE S=>(evs fs E S).bind λr=>if r.1.length<=sizeLine then fin c (.own r.1) r.2 else none
abbrev Lj:=ZP false
abbrev J8:=ZP true
theorem A8{es:KE ui}{fs:KE Ev}{k:Nat}{pos:Pos}(h:DEs X es fs):DE X (.Tuple es k pos) (CS fs):=⟨Bi (jQ h.pe) λσ H Q z=>by
 obtain⟨M,E,S,d,S',e,r,st,q⟩:=z
 obtain⟨⟨ds,S1⟩,e1,e⟩:=A5 e
 dsimp only at e
 split at e
 .cases e
  refine JF e1 r st λvs H1 M1 g1 st1 d1=>⟨by rw[d1.length];assumption,λp hp=>?_⟩
  have n:=Nw.tup st1.mo hp d1
  exact q _ _ M1 (g1.trans (.grow st1.mo n.grow)) (st1.grow n.grow) n.rel
 .cases e⟩
theorem CI{c:uv}{es:KE ui}{fs:KE Ev}{pos:Pos}(h:DEs X es fs):DE X (.List es pos) (ZP c fs):=⟨Bi (iz h.pe) λσ H Q z=>by
 obtain⟨M,E,S,d,S',e,r,st,q⟩:=z
 obtain⟨⟨ds,S1⟩,e1,e⟩:=A5 e
 dsimp only at e
 split at e
 .refine JF e1 r st λvs H1 M1 g1 st1 d1=>⟨by rw[d1.length];assumption,λp hp=>?_⟩
  obtain⟨M2,g2,st2,d2⟩:=(Nw.lst st1.mo hp d1).fin st1 e
  exact q _ _ M2 (g1.trans g2) st2 d2
 .cases e⟩
noncomputable def OF(f g:Ev):Ev:=λE S=>(f E S).bind λr=>match r.1 with
 | .bl true=>g E r.2
 | .bl false=>Gc (.bl false,r.2)
 |_=>none
noncomputable def eOr(f g:Ev):Ev:=λE S=>(f E S).bind λr=>match r.1 with
 | .bl false=>g E r.2
 | .bl true=>Gc (.bl true,r.2)
 |_=>none
noncomputable def cN(f:Ev):Ev:=λE S=>(f E S).bind λr=>match r.1 with
 | .bl b=>Gc (.bl (!b),r.2)
 |_=>none
noncomputable def eIf(c f g:Ev):Ev:=λE S=>(c E S).bind λr=>match r.1 with
 | .bl true=>f E r.2
 | .bl false=>g E r.2
 |_=>none
theorem U4{K:tU}{M:Ms}{H:Hp}{v:V}{b:uv}(h:Ed K M H v (.bl b)):v=.bl b:=by cases h;rfl
variable{a b c:ui}{rest:KE ui}{f g h:Ev}{pos:Pos}
theorem Ny{op:BoolOp}(h:DE X a f):DE X (.BoolOp op [a] pos) f:=⟨hV h.pe⟩
theorem MI(ha:DE X a f)(hb:DE X (.BoolOp .And (b::rest) pos) g):DE X (.BoolOp .And (a::b::rest) pos) (OF f g):=⟨Bi (iA ha.pe hb.pe) λσ H Q z=>by
 obtain⟨M,E,S,d,S',e,r,st,q⟩:=z
 obtain⟨⟨d1,S1⟩,e1,e⟩:=A5 e
 dsimp only at e
 refine⟨M,E,S,d1,S1,e1,r,st,λv H1 M1 g1 st1 r1=>?_⟩
 split at e
 .cases U4 r1
  refine⟨_,rfl,?_⟩
  refine gZ ?_
  exact⟨M1,E,S1,d,S',e,r.step g1.st,st1,λv H2 M2 g2 st2 r2=>q _ _ M2 (g1.trans g2) st2 r2⟩
 .cases e
  cases U4 r1
  refine⟨_,rfl,?_⟩
  refine eR ?_
  exact q _ _ M1 g1 st1 r1
 .cases e⟩
theorem iw(ha:DE X a f):DE X (.UnaryOp .Not a pos) (cN f):=⟨Bi (jC ha.pe) λσ H Q z=>by
 obtain⟨M,E,S,d,S',e,r,st,q⟩:=z
 obtain⟨⟨d1,S1⟩,e1,e⟩:=A5 e
 dsimp only at e
 split at e
 .cases e
  refine⟨M,E,S,_,_,e1,r,st,λv H1 M1 g1 st1 r1=>?_⟩
  cases U4 r1
  exact⟨_,rfl,q _ _ M1 g1 st1 (.bl _)⟩
 .cases e⟩
noncomputable def tDT(K:tU)(f:Ev):TT:=λσ H Q=>∃M E S b S',f E S=Gc (.bl b,S')/\EnR K M E σ H/\StR K M S H/\∀H' M',Gr M H M' H'->StR K M' S' H'->Q b H'
structure DT(X:Cx)(e:ui)(f:Ev):Prop where
 pe:PT X e (tDT X.K f)
structure DW(X:Cx)(e:ui)(f:Ev):Prop where
 pe:PW X e (tDT X.K f)
theorem DW.dt(h:DW X a f):DT X a f:=⟨PW.pt h.pe⟩
theorem ZF{t:TE}(h:PT X a (iW t))(m:∀σ H Q,tD X.K f σ H Q->t σ H Q):DT X a f:=⟨YL h λσ H Q z=>by
 obtain⟨M,E,S,b,S',e,r,st,q⟩:=z
 refine m _ _ _ ⟨M,E,S,_,S',e,r,st,λv H1 M1 g1 st1 r1=>?_⟩
 cases U4 r1
 exact⟨_,rfl,q _ M1 g1 st1⟩⟩
theorem WU(h:DE X a f)(he:∀whole,isTrue a X.env whole=(do let v<-whole;standAt a.pos;holding [v] (truthy v)):=by intro _;rfl):DT X a f:=ZF (t:=tD X.K f) (jk h.pe he) λ_ _ _ z=>z
theorem Am{fa fb:Ev}{op:CmpOp}{f:Op2}(ho:OpR X (compareOp op) (rOp X.K f))(ha:DE X a fa)(hb:DE X b fb)(hm:behindInMarks op b=false:=by rfl):DT X (.Compare a [op] [b] pos) (eOp (o2 f) [fa,fb]):=
 ZF (eM ho ha.pe hb.pe hm) λ_ _ _ h=>Uh h
theorem W0(ha:DT X a f):DT X (.UnaryOp .Not a pos) (cN f):=⟨YL (iV ha.pe) λσ H Q z=>by
 obtain⟨M,E,S,b,S',e,r,st,q⟩:=z
 obtain⟨⟨w1,S1⟩,e1,e⟩:=A5 e
 dsimp only at e
 split at e
 .cases e
  exact⟨M,E,S,_,_,e1,r,st,q⟩
 .cases e⟩
theorem NZ(ha:DT X a f):DW X (.BoolOp .And [a] pos) f:=⟨fY ha.pe⟩
theorem dG(ha:DT X a f):DW X (.BoolOp .Or [a] pos) f:=⟨kE ha.pe⟩
theorem Wc{e:ui}{t t':TT}(h:PW X e t)(m:∀σ H Q,t' σ H Q->t σ H Q):PW X e t':=λwh pins s σ H Q I q=>h wh pins s σ H Q I (m _ _ _ q)
theorem SN(ha:DT X a f)(hb:DW X (.BoolOp .And (b::rest) pos) g):DW X (.BoolOp .And (a::b::rest) pos) (OF f g):=⟨Wc (jS ha.pe hb.pe) λσ H Q z=>by
 obtain⟨M,E,S,k,S',e,r,st,q⟩:=z
 obtain⟨⟨w1,S1⟩,e1,e⟩:=A5 e
 dsimp only at e
 split at e
 .refine⟨M,E,S,_,S1,e1,r,st,λH1 M1 g1 st1=>?_⟩
  refine gZ ?_
  exact⟨M1,E,S1,k,S',e,r.step g1.st,st1,λH2 M2 g2 st2=>q _ M2 (g1.trans g2) st2⟩
 .cases e
  refine⟨M,E,S,_,_,e1,r,st,λH1 M1 g1 st1=>?_⟩
  refine eR ?_
  exact q _ M1 g1 st1
 .cases e⟩
theorem jd(ha:DT X a f)(hb:DW X (.BoolOp .Or (b::rest) pos) g):DW X (.BoolOp .Or (a::b::rest) pos) (eOr f g):=⟨Wc (oM ha.pe hb.pe) λσ H Q z=>by
 obtain⟨M,E,S,k,S',e,r,st,q⟩:=z
 obtain⟨⟨w1,S1⟩,e1,e⟩:=A5 e
 dsimp only at e
 split at e
 .refine⟨M,E,S,_,S1,e1,r,st,λH1 M1 g1 st1=>?_⟩
  refine eR ?_
  exact⟨M1,E,S1,k,S',e,r.step g1.st,st1,λH2 M2 g2 st2=>q _ M2 (g1.trans g2) st2⟩
 .cases e
  refine⟨M,E,S,_,_,e1,r,st,λH1 M1 g1 st1=>?_⟩
  refine gZ ?_
  exact q _ M1 g1 st1
 .cases e⟩
theorem oZ(hc:DT X c f)(ha:DE X a g)(hb:DE X b h):DE X (.IfExp c a b pos) (eIf f g h):=⟨Bi (bW hc.pe ha.pe hb.pe) λσ H Q z=>by
 obtain⟨M,E,S,d,S',e,r,st,q⟩:=z
 obtain⟨⟨w1,S1⟩,e1,e⟩:=A5 e
 dsimp only at e
 split at e
 .refine⟨M,E,S,_,S1,e1,r,st,λH1 M1 g1 st1=>?_⟩
  refine gZ ?_
  exact⟨M1,E,S1,d,S',e,r.step g1.st,st1,λv H2 M2 g2 st2 r2=>q _ _ M2 (g1.trans g2) st2 r2⟩
 .refine⟨M,E,S,_,S1,e1,r,st,λH1 M1 g1 st1=>?_⟩
  refine eR ?_
  exact⟨M1,E,S1,d,S',e,r.step g1.st,st1,λv H2 M2 g2 st2 r2=>q _ _ M2 (g1.trans g2) st2 r2⟩
 .cases e⟩
end
inductive Fl where
 |nx
 |ret (d:D)
abbrev Ex:=En->Sto->tY (Fl×En×Sto)
def End(K:tU)(M:Ms)(H:Hp)(Dn:Ends)(E':En)(S':Sto):Fl->Prop
 | .nx=>∀σ' H' M',Gr M H M' H'->EnR K M' E' σ' H'->StR K M' S' H'->Dn.nx σ' H'
 | .ret d=>∀v H' M',Gr M H M' H'->StR K M' S' H'->Ed K M' H' v d->Dn.rt v H'
noncomputable def tX(K:tU)(f:Ex):TS:=λDn σ H=>∃M E S fl E' S',f E S=Gc (fl,E',S')/\EnR K M E σ H/\StR K M S H/\End K M H Dn E' S' fl
structure DS(X:Cx)(st:vE)(f:Ex):Prop where
 pe:PS X st (tX X.K f)
structure DSs(X:Cx)(st:KE vE)(f:Ex):Prop where
 pe:PSs X st (tX X.K f)
theorem Gy{X:Cx}{e:vE}{t t':TS}(h:PS X e t)(m:∀Dn σ H,t' Dn σ H->t Dn σ H):PS X e t':=λpins s σ H Dn I q=>h pins s σ H Dn I (m _ _ _ q)
theorem Ue{X:Cx}{e:KE vE}{t t':TS}(h:PSs X e t)(m:∀Dn σ H,t' Dn σ H->t Dn σ H):PSs X e t':=λpins s σ H Dn I q=>h pins s σ H Dn I (m _ _ _ q)
theorem End.later{K:tU}{M M1:Ms}{H H1:Hp}{Dn:Ends}{E':En}{S':Sto}{fl:Fl}(q:End K M H Dn E' S' fl)(g:Gr M H M1 H1):End K M1 H1 Dn E' S' fl:=by
 cases fl with
 |nx=>exact λσ' H' M' g' r st=>q σ' H' M' (g.trans g') r st
 |ret d=>exact λv H' M' g' st r=>q v H' M' (g.trans g') st r
noncomputable def Ad(f g:Ex):Ex:=λE S=>(f E S).bind λr=>match r.1 with
 | .nx=>g r.2.1 r.2.2
 | .ret w=>Gc (.ret w,r.2)
noncomputable def FV:Ex:=λE S=>Gc (.nx,E,S)
section
variable{X:Cx}{st:vE}{rest a b:KE vE}{f g h:Ex}{c e:ui}{k:Ev}{pos:Pos}
theorem BA:DSs X [] FV:=⟨Ue fG λDn σ H z=>by
 obtain⟨M,E,S,fl,E',S',e,r,st,q⟩:=z
 cases e
 exact q _ _ M (.refl st.mo) r st⟩
theorem AG(h1:DS X st f)(h2:DSs X rest g):DSs X (st::rest) (Ad f g):=⟨Ue (Z2 h1.pe h2.pe) λDn σ H z=>by
 obtain⟨M,E,S,fl,E',S',e,r,st,q⟩:=z
 obtain⟨⟨f1,E1,S1⟩,e1,e⟩:=A5 e
 dsimp only at e
 split at e
 .exact⟨M,E,S,.nx,E1,S1,e1,r,st,λσ1 H1 M1 g1 r1 st1=>⟨M1,E1,S1,fl,E',S',e,r1,st1,q.later g1⟩⟩
 .cases e
  exact⟨M,E,S,.ret _,_,_,e1,r,st,q⟩⟩
theorem AI(h1:DS X st f):DSs X [st] f:=⟨dm h1.pe⟩
noncomputable def xIf(c:Ev)(f g:Ex):Ex:=λE S=>(c E S).bind λr=>match r.1 with
 | .bl true=>f E r.2
 | .bl false=>g E r.2
 |_=>none
theorem CW(hc:DT X c k)(ha:DSs X a f)(hb:DSs X b g):DS X (.If c a b pos) (xIf k f g):=⟨Gy (ng hc.pe ha.pe hb.pe) λDn σ H z=>by
 obtain⟨M,E,S,fl,E',S',e,r,st,q⟩:=z
 obtain⟨⟨w1,S1⟩,e1,e⟩:=A5 e
 dsimp only at e
 split at e
 .refine⟨M,E,S,_,S1,e1,r,st,λH1 M1 g1 st1=>?_⟩
  refine gZ ?_
  exact⟨M1,E,S1,fl,E',S',e,r.step g1.st,st1,q.later g1⟩
 .refine⟨M,E,S,_,S1,e1,r,st,λH1 M1 g1 st1=>?_⟩
  refine eR ?_
  exact⟨M1,E,S1,fl,E',S',e,r.step g1.st,st1,q.later g1⟩
 .cases e⟩
noncomputable def By(k:Ev):Ex:=λE S=>(k E S).map λr=>(.ret r.1,E,r.2)
theorem AX(h:DE X e k):DS X (.Return (Gc e) pos) (By k):=⟨Gy (jn h.pe) λDn σ H z=>by
 obtain⟨M,E,S,fl,E',S',e,r,st,q⟩:=z
 obtain⟨⟨d,S1⟩,e1,e⟩:=Lp e
 cases e
 exact⟨M,E,S,d,S1,e1,r,st,λv H1 M1 g1 st1 r1=>q _ _ M1 g1 st1 r1⟩⟩
end
section
variable{K:tU}{M:Ms}{E:En}{σ:Sg}{H:Hp}{i:Nat}{d:D}{v:V}
theorem EnR.put(r:EnR K M E σ H)(rd:Ed K M H v d):EnR K M (E.set i (Gc d)) (σ.set i (Gc v)) H:=by
 refine⟨by rw[wC,wC];exact r.len,λj e ej=>?_⟩
 by_cases h:i=j
 .subst h
  by_cases hi:i<E.length
  .rw[uG hi]at ej
   cases ej
   exact⟨v,uG (by rw[<-r.len];exact hi),rd⟩
  .rw[zf.mpr (by rw[wC];lia)]at ej;cases ej
 .rw[uE h]at ej
  obtain⟨v',h1,h2⟩:=r.val j e ej
  exact⟨v',by rw[uE h];exact h1,h2⟩
end
noncomputable def Bm(i:Nat)(k:Ev):Ex:=λE S=>(k E S).map λr=>(.nx,E.set i (Gc r.1),r.2)
theorem Aj{X:Cx}{e:ui}{k:Ev}{pos pos':Pos}(i:Nat){x:Str}(h:DE X e k)(hN:X.N.Nodup)(hi:X.N[i]?=Gc x:=by rfl)(hx:Loc X.env.scope x:=by first|exact Or.inl rfl|exact Or.inr rfl)(hs:swapsWith e (Gc (.Name x pos')) pos.line X.env=pure false:=by rfl)(hf:X.fn x=true\/X.env.scope.names.lookup x=Gc .local:=by first|exact .inl rfl|exact .inr rfl):DS X (.Assign [.Name x pos'] e pos) (Bm i k):=⟨
 Gy (jG hN hi hx h.pe hs hf) λDn σ H z=>by
  obtain⟨M,E,S,fl,E',S',e,r,st,q⟩:=z
  obtain⟨⟨d,S1⟩,e1,e⟩:=Lp e
  cases e
  exact⟨M,E,S,d,S1,e1,r,st,λv H1 M1 g1 st1 r1=>q _ _ M1 g1 ((r.step g1.st).put r1) st1⟩⟩
noncomputable def CP(k:Ev):Ex:=λE S=>(k E S).map λr=>(.nx,E,r.2)
theorem B3{X:Cx}{e:ui}{k:Ev}{pos:Pos}(h:DE X e k)(hs:swapsWith e none pos.line X.env=pure false:=by rfl):DS X (.Expr e pos) (CP k):=⟨Gy (eE h.pe hs) λDn σ H z=>by
 obtain⟨M,E,S,fl,E',S',e,r,st,q⟩:=z
 obtain⟨⟨d,S1⟩,e1,e⟩:=Lp e
 cases e
 exact⟨M,E,S,d,S1,e1,r,st,λv H1 M1 g1 st1 r1=>q _ _ M1 g1 (r.step g1.st) st1⟩⟩
noncomputable def GJ(S:Sto)(n:Nat):tY (KE D):=match S[n]? with
 |some (.lst ds)=>Gc ds
 |_=>none
theorem Gg{S:Sto}{n:Nat}{ds:KE D}(h:GJ S n=Gc ds):S[n]?=Gc (.lst ds):=by
 unfold GJ at h
 split at h
 .rename_i e
  cases h
  exact e
 .cases h
abbrev Mo:=Sto->KE D->KE D->tY (D×KE D)
noncomputable def KD(op:Mo)(f:Ev)(fs:KE Ev):Ev:=λE S=>(f E S).bind λr=>match r.1 with
 | .ref n=>(GJ r.2 n).bind λ_=>(evs fs E r.2).bind λp=>(GJ p.2 n).bind λds=>(op p.2 ds p.1).map λq=>(q.1,p.2.set n (.lst q.2))
 |_=>none
def kK(K:tU)(op:Mo):V->KE V->Hp->VK->Prop:=λx vs H Q=>∃M S n a ds args d ds',x=.ref a/\M.cel[n]?=Gc a/\S[n]?=Gc (.lst ds)/\op S ds args=Gc (d,ds')/\StR K M S H/\A6 K M H vs args/\∀v H',StR K M (S.set n (.lst ds')) H'->Gr M H M H'->Ed K M H' v d->Q v H'
section
variable{X:Cx}
theorem ie{op:Mo}{f:Ev}{fs:KE Ev}{σ:Sg}{H:Hp}{Q:VK}(h:tD X.K (KD op f fs) σ H Q):tBM X.K "list" (kK X.K op) (tD X.K f) (tDs X.K fs) σ H Q:=by
 obtain⟨M,E,S,d,S',e,r,st,q⟩:=h
 obtain⟨⟨d1,S1⟩,e1,e⟩:=A5 e
 dsimp only at e
 split at e
 .rename_i n
  obtain⟨ds0,e2,e⟩:=A5 e
  obtain⟨⟨args,S2⟩,e3,e⟩:=A5 e
  obtain⟨ds,e4,e⟩:=A5 e
  obtain⟨⟨dd,ds'⟩,e5,e⟩:=Lp e
  cases e
  refine⟨M,E,S,_,S1,e1,r,st,λv H1 M1 g1 st1 r1=>?_⟩
  cases r1 with
  |ref hc=>
   rename_i a
   obtain⟨xs,h1,h2⟩:=st1.cell n a _ hc (Gg e2)
   refine⟨.inl ⟨rfl,xs,.of h1⟩,?_⟩
   refine JF e3 (r.step g1.st) st1 λvs H2 M2 g2 st2 r2=>?_
   exact⟨M2,S2,n,a,ds,args,dd,ds',rfl,NS g2.pre hc,Gg e4,e5,st2,r2,λv H3 st3 g3 r3=>q _ _ M2 ((g1.trans g2).trans g3) st3 r3⟩
 .cases e
theorem GR{id:xD}{name:Str}{o e:ui}{es:KE ui}{op:Mo}{f:Ev}{fs:KE Ev}{apos cpos:Pos}(slot:Slot "list" name id)(hty:typeOf (.builtin id)=pure (.type "method_descriptor"))(hm:MtR X id (kK X.K op))(ho:DE X o f)(ha:DEs X (e::es) fs)(hbase:attributeBase o name X.env (eval o X.env)=eval o X.env:=by rfl)(hfew:((backTo cpos (uW (e::es) X.env)).all (λx=> !x.1) && (backToKw cpos (keywordEach [] X.env)).all (λx=>x.1.isSome) && decide ((e::es).length+([]:KE zt).length+(if([]:KE zt).isEmpty then 0 else 1)<30))=true:=by rfl)(hline:(apos.endLine==cpos.line)=true:=by rfl)(hs:uW (e::es) X.env=(false,eval e X.env)::uW es X.env:=by rfl)(hplain:(backTo cpos (uW es X.env)).any (·.1)=false:=by rfl):DE X (.Call (.Attribute o name apos) (e::es) [] cpos) (KD op f fs):=⟨Bi (mZ PySem.F.plainAttrs_list slot hty hm ho.pe ha.pe hbase hfew hline hs hplain) λσ H Q z=>ie z⟩
noncomputable def KJ:Mo
 |_,ds,[x]=>if ds.length<sizeLine then Gc (.non,ds++[x])else none
 |_,_,_=>none
theorem Uj{K:tU}{M:Ms}{H:Hp}{vs:KE V}{d:D}(h:A6 K M H vs [d]):∃v,vs=[v]/\Ed K M H v d:=by
 cases h with
 |cons h t=>cases t;exact⟨_,rfl,h⟩
theorem EU:MtR X "list.append" (kK X.K KJ):=by
 intro pins s σ H x vs v us Q I rx rv h
 obtain⟨M,S,n,a,ds,args,d,ds',rfl,hc,hn,e,st,ra,q⟩:=h
 unfold KJ at e
 split at e
 .split at e
  .rename_i hz
   cases e
   obtain⟨xs,h1,h2⟩:=st.cell n a _ hc hn
   obtain⟨y,rfl,ry⟩:=Uj ra
   obtain⟨st2,g2⟩:=st.chg hc hn (h2.append (.cons ry .nil))
   exact Rf pins s σ H _ _ v us Q I rx rv ⟨a,xs,y,rfl,rfl,h1,by rw[h2.length];exact hz,q _ _ st2 g2 .non⟩
  .cases e
 .cases e
end
noncomputable def Om(k f o:Ev):Ex:=λE S=>(k E S).bind λr=>(f E r.2).bind λb=>(o E b.2).bind λi=>match b.1,i.1 with
 | .ref n,.int j=>(GJ i.2 n).bind λds=>(ixN ds.length j).map λm=>(.nx,E,i.2.set n (.lst (ds.set m r.1)))
 |_,_=>none
theorem Cn {X : Cx} {e t bs : ui} {k f o : Ev} {ps pos : Pos} (h : DE X e k) (hb : DE X bs f) (ht : DE X t o) (ha : ∀ v, assign (.Subscript bs t ps) X.env v = (do
      let ov ← holding [v] (eval bs X.env)
      let iv ← holding [v, ov] (eval t X.env)
      standAt ps
      holding [v, ov, iv] (setItem ov iv v)
      release [v, ov, iv] []) := by intro _; rfl)
    (hs : swapsWithSole [.Subscript bs t ps] e pos.line X.env = pure false := by rfl) (hw : swappedStores [.Subscript bs t ps] e X.env = pure none := by rfl)
    (h1 : (assignEach [.Subscript bs t ps] X.env).map (·.2) = [assign (.Subscript bs t ps) X.env] := by rfl) :
    DS X (.Assign [.Subscript bs t ps] e pos) (Om k f o) := ⟨
  Gy (bw h.pe (kF hb.pe ht.pe set_list ha) hs hw h1) fun Dn σ H z => by
    obtain ⟨M, E, S, fl, E', S', e, r, st, q⟩ := z
    obtain ⟨⟨d, S1⟩, e1, e⟩ := A5 e
    obtain ⟨⟨b, S2⟩, e2, e⟩ := A5 e
    obtain ⟨⟨i, S3⟩, e3, e⟩ := A5 e
    dsimp only at e e1 e2 e3
    split at e
    · rename_i n j _
      obtain ⟨ds, e4, e⟩ := A5 e
      obtain ⟨m, e5, e⟩ := Lp e
      cases e
      refine ⟨M, E, S, d, S1, e1, r, st, fun v H1 M1 g1 st1 r1 => ?_⟩
      refine ⟨M1, E, S1, _, S2, e2, r.step g1.st, st1, fun bv H2 M2 g2 st2 r2 => ?_⟩
      refine ⟨M2, E, S2, _, S3, e3, (r.step g1.st).step g2.st, st2, fun iv H3 M3 g3 st3 r3 => ?_⟩
      cases r3
      cases r2 with
      | ref hc =>
        rename_i a
        have hc3 := NS g3.pre hc
        obtain ⟨xs, h1, h2⟩ := st3.cell n a _ hc3 (Gg e4)
        obtain ⟨st4, g4⟩ := st3.chg hc3 (Gg e4) (h2.set ((r1.step g2.st).step g3.st) m)
        have g := ((g1.trans g2).trans g3).trans g4
        exact ⟨a, xs, j, m, rfl, rfl, h1, by rw [h2.length]; exact e5, q _ _ M3 g (r.step g.st) st4⟩
    · cases e⟩
abbrev Fn:=KE D->Sto->tY (D×Sto)
noncomputable def flD:Fl->D
 | .nx=>.non
 | .ret d=>d
noncomputable def BD(N:Nat)(body:Ex):Fn:=λds S=>(body (ds.map Gc++uQ (N-ds.length) none) S).map λr=>(flD r.1,r.2.2)
def BB{α:Type}(a:α):α:=Classical.choose (⟨a,rfl⟩:∃x,x=a)
theorem YH{α:Type}(a:α):BB a=a:=Classical.choose_spec (⟨a,rfl⟩:∃x,x=a)
noncomputable def spD(K:tU)(np:Nat)(f:Fn):Sp:=λvs H Q _=>∃M ds S d S',ds.length=np/\f ds S=Gc (d,S')/\A6 K M H vs ds/\StR K M S H/\∀v H' M',Gr M H M' H'->StR K M' S' H'->Ed K M' H' v d->Q v H'
theorem Ry{α:Type}{xs:KE α}{i:Nat}{x:α}(h:(xs.map Gc)[i]?=Gc (Gc x)):xs[i]?=Gc x:=by
 rw[uN]at h
 cases e:xs[i]? with
 |none=>rw[e]at h;cases h
 |some y=>rw[e]at h;cases h;rfl
theorem V9{α:Type}{xs:KE (tY α)}{k i:Nat}{x:α}(h:(xs++uQ k none)[i]?=Gc (Gc x)):xs[i]?=Gc (Gc x):=by
 by_cases hi:i<xs.length
 .rw[tz hi]at h;exact h
 .rw[u3 (by lia),AAH]at h
  split at h<;>cases h
theorem dP{α:Type}{xs:KE (tY α)}{k i:Nat}{x:tY α}(h:xs[i]?=Gc x):(xs++uQ k none)[i]?=Gc x:=by
 rw[tz (uI.mp h).1];exact h
theorem EnR.args{K:tU}{M:Ms}{H:Hp}{vs:KE V}{ds:KE D}(r:A6 K M H vs ds)(k:Nat):EnR K M (ds.map Gc++uQ k none) (vs.map Gc++uQ k none) H:=by
 refine⟨by simp[r.length],λi d e=>?_⟩
 obtain⟨v,h1,h2⟩:=r.get (Ry (V9 e))
 exact⟨v,dP (by rw[uN,h1];rfl),h2⟩
section
variable{P:uT}{w:ur}{K:tU}{mg:Str->tY tW}{base:uz}
theorem iq{x:Str}{st:vE}{f:uC}{fd:wX}{N ps:KE Str}{k np:Nat}{b:Ex}(Fu:Fun K x x st f fd)(S:AS N ps (AH st))(hp:ps.length=np)(hb:∀(cdv:tW) (A:u5) (outer:KE PySem.Env) (s:tZ) (H:Hp) (E:XK),Ol k (A.deeper (yP x (AH st) s.heap.objs.size f cdv))->DSs (ZD CX0 P w K mg base N x (AH st) f cdv A outer s H E).nox (Hb st) b):Rm P w K mg base CX0 (k+1) f fd ps (spD K np (BB (BD N.length b))):=by
 rw[YH]
 refine Fu.ok S (λvs H Q E h=>?_) (λcdv A outer s H vs Q E hr h=>?_)
 .obtain⟨M,ds,S0,d,S',hl,_,r,_⟩:=h
  have:=r.length
  lia
 .obtain⟨M,ds,S0,d,S',hl,e,r,st,q⟩:=h
  have hlen:=r.length
  refine⟨_,(hb cdv A outer s H E hr).pe,?_⟩
  obtain⟨⟨fl,E',S1⟩,e1,e⟩:=Lp e
  cases e
  refine⟨M,_,S0,fl,E',S1,e1,?_,st,?_⟩
  .rw[show L2.start N vs=vs.map Gc++uQ (N.length-ds.length) none from by unfold L2.start;rw[hlen]]
   exact .args r _
  .cases fl with
   |nx=>exact λσ' H' M' g _ st'=>q _ _ M' g st' .non
   |ret d=>exact λv H' M' g st' r'=>q _ _ M' g st' r'
theorem jD{x:Str}{st:vE}{N ps:KE Str}{k np:Nat}{b:Ex}(S:St.Src K mg x st)(sc:AS N ps (AH st))(hp:ps.length=np)(hbi:∀f fd,Fun K x x st f fd->Binds K fd ps [])(hb:∀(f:uC) (cdv:tW) (A:u5) (outer:KE PySem.Env) (s:tZ) (H:Hp) (E:XK),Ol k (A.deeper (yP x (AH st) s.heap.objs.size f cdv))->DSs (ZD CX0 P w K mg base N x (AH st) f cdv A outer s H E).nox (Hb st) b):St.Dfn P w K mg base x (k+1) ps (spD K np (BB (BD N.length b))):=by
 obtain⟨f,fd,Fu,hm⟩:=S.ex
 exact⟨f,fd,hm,Fu.kp,hbi f fd Fu,iq Fu sc hp λcdv A outer s H E hr=>hb f cdv A outer s H E hr⟩
end
noncomputable def AK(f:Fn)(fs:KE Ev):Ev:=λE S=>(evs fs E S).bind λr=>f r.1 r.2
theorem fW{K:tU}{np:Nat}{f:Fn}{fs:KE Ev}{σ:Sg}{H:Hp}{Q:VK}(hn:fs.length=np)(h:tD K (AK f fs) σ H Q):gF (spD K np f) [] E0 (tDs K fs) σ H Q:=by
 obtain⟨M,E,S,d,S',e,r,st,q⟩:=h
 obtain⟨⟨ds,S1⟩,e1,e⟩:=A5 e
 refine JF e1 r st λvs H1 M1 g1 st1 r1=>?_
 rw[zG]
 exact⟨M1,ds,S1,d,S',by rw[TJ e1];exact hn,e,r1,st1,λv H2 M2 g2 st2 r2=>q _ _ M2 (g1.trans g2) st2 r2⟩
theorem d6{X:Cx}{k np:Nat}{x:Str}{ps:KE Str}{f:Fn}{e:ui}{es:KE ui}{fs:KE Ev}{p pos:Pos}(d:St.Dfn X.prog X.w X.K X.mg X.base x k ps (spD X.K np f))(hr:Ol k X.A)(hg:Gl X x)(ha:DEs X (e::es) fs)(hn:fs.length=np:=by rfl)(hdb:(x==("__debug__":Str))=false:=by decide)(he:uW (e::es) X.env=(false,eval e X.env)::uW es X.env:=by rfl)(hpl:(backTo pos (uW es X.env)).any (·.1)=false:=by rfl):DE X (.Call (.Name x p) (e::es) [] pos) (AK f fs):=⟨Bi (St.m9 d hr hg ha.pe hdb he hpl) λσ H Q z=>fW hn z⟩
abbrev Tf:=D->En->Sto->tY En
noncomputable def tG(K:tU)(t:Tf):TG:=λv σ H Q=>∃M d E E' S,t d E S=Gc E'/\EnR K M E σ H/\StR K M S H/\Ed K M H v d/\∀σ',EnR K M E' σ' H->Q σ' H
structure DG(X:Cx)(tg:ui)(t:Tf):Prop where
 pe:PG X tg (tG X.K t)
noncomputable def tNm(i:Nat):Tf:=λd E _=>Gc (E.set i (Gc d))
theorem Xx{X:Cx}{e:ui}{t t':TG}(h:PG X e t)(m:∀v σ H Q,t' v σ H Q->t v σ H Q):PG X e t':=λpins s σ H v u Q I r q=>h pins s σ H v u Q I r (m _ _ _ _ q)
theorem Ab{X:Cx}{pos:Pos}(i:Nat){x:Str}(hN:X.N.Nodup)(hi:X.N[i]?=Gc x:=by rfl)(hx:Loc X.env.scope x:=by first|exact Or.inl rfl|exact Or.inr rfl)(hf:X.fn x=true\/X.env.scope.names.lookup x=Gc .local:=by first|exact .inl rfl|exact .inr rfl):DG X (.Name x pos) (tNm i):=⟨Xx (dQ hN hi hx hf) λv σ H Q z=>by
 obtain⟨M,d,E,E',S,e,r,st,rd,q⟩:=z
 cases e
 exact q _ (r.put rd)⟩
noncomputable def tMs:KE Tf->KE D->En->Sto->tY En
 | [],[],E,_=>Gc E
 |t::ts,d::ds,E,S=>(t d E S).bind λE1=>tMs ts ds E1 S
 |_,_,_,_=>none
noncomputable def tTp(ts:KE Tf):Tf:=λd E S=>match d with
 | .tup ds=>tMs ts ds E S
 | .lst ds=>tMs ts ds E S
 | .ref n=>(GJ S n).bind λds=>tMs ts ds E S
 |_=>none
noncomputable def tGs(K:tU):KE Tf->TGs
 | []=>qb
 |t::ts=>jj (tG K t) (tGs K ts)
theorem U3{K:tU}{M:Ms}{H:Hp}{S:Sto}(st:StR K M S H):∀{ts:KE Tf} {ds:KE D} {vs:KE V} {E E':En} {σ:Sg} {Q:Sg->Hp->Prop},tMs ts ds E S=Gc E'->EnR K M E σ H->A6 K M H vs ds->(∀σ',EnR K M E' σ' H->Q σ' H)->tGs K ts vs σ H Q
 | [],[],_,E,E',σ,Q,e,r,rd,q=>by
   cases e
   cases rd
   exact⟨rfl,q _ r⟩
 |t::ts,d::ds,_,E,E',σ,Q,e,r,rd,q=>by
  obtain⟨E1,e1,e⟩:=A5 e
  cases rd with
  |cons h1 h2=>exact⟨_,_,rfl,M,d,E,E1,S,e1,r,st,h1,λσ1 r1=>U3 st e r1 h2 q⟩
 | [],_::_,_,E,E',σ,Q,e,r,rd,q=>by cases e
 |_::_,[],_,E,E',σ,Q,e,r,rd,q=>by cases e
theorem QZ:∀{ts:KE Tf} {ds:KE D} {E E':En} {S:Sto},tMs ts ds E S=Gc E'->ds.length=ts.length
 | [],[],_,_,_,_=>rfl
 |t::ts,d::ds,E,E',S,e=>by
  obtain⟨E1,e1,e⟩:=A5 e
  simp[QZ e]
 | [],_::_,_,_,_,e=>by cases e
 |_::_,[],_,_,_,e=>by cases e
structure DGs(X:Cx)(es:KE ui)(ts:KE Tf):Prop where
 pe:PGs X es (tGs X.K ts)
theorem BI{X:Cx}:DGs X [] []:=⟨de⟩
theorem AN{X:Cx}{e:ui}{es:KE ui}{t:Tf}{ts:KE Tf}(h:DG X e t)(g:DGs X es ts)(hs:(assignEach (e::es) X.env).map (·.2)=assign e X.env::(assignEach es X.env).map (·.2):=by rfl):DGs X (e::es) (t::ts):=⟨bG h.pe g.pe hs⟩
theorem Dw{X:Cx}{k:Nat}{es:KE ui}{ts:KE Tf}{pos:Pos}(hc:X.calm=true)(h:DGs X es ts)(hn:(assignEach es X.env).length=ts.length:=by rfl)(hst:(assignEach es X.env).findIdx? (·.1)=none:=by rfl):DG X (.Tuple es k pos) (tTp ts):=⟨
 Xx (ib hc h.pe hn hst) λv σ H Q z=>by
  obtain⟨M,d,E,E',S,e,r,st,rd,q⟩:=z
  unfold tTp at e
  split at e
  .cases rd with
   |tup h1 h2=>exact⟨_,_,rfl,.inl h1,by rw[h2.length];exact QZ e,U3 st e r h2 q⟩
  .cases rd with
   |lst h1 n h2=>exact⟨_,_,rfl,.inr h1,by rw[h2.length];exact QZ e,U3 st e r h2 q⟩
  .obtain⟨ds,e1,e⟩:=A5 e
   cases rd with
   |ref hc=>
    obtain⟨xs,h1,h2⟩:=st.cell _ _ _ hc (Gg e1)
    exact⟨_,_,rfl,.inr h1,by rw[h2.length];exact QZ e,U3 st e r h2 q⟩
  .cases e⟩
noncomputable def O4(t:Tf)(k:Ev):Ex:=λE S=>(k E S).bind λr=>(t r.1 E r.2).map λE'=>(.nx,E',r.2)
theorem GU{X:Cx}{tg e:ui}{t:Tf}{k:Ev}{pos:Pos}(h:DE X e k)(hg:DG X tg t)(hs:swapsWithSole [tg] e pos.line X.env=pure false:=by rfl)(hw:swappedStores [tg] e X.env=pure none:=by rfl)(h1:(assignEach [tg] X.env).map (·.2)=[assign tg X.env]:=by rfl):DS X (.Assign [tg] e pos) (O4 t k):=⟨Gy (bw h.pe hg.pe hs hw h1) λDn σ H z=>by
 obtain⟨M,E,S,fl,E',S',e,r,st,q⟩:=z
 obtain⟨⟨d,S1⟩,e1,e⟩:=A5 e
 obtain⟨E2,e2,e⟩:=Lp e
 cases e
 exact⟨M,E,S,d,S1,e1,r,st,λv H1 M1 g1 st1 r1=>⟨M1,d,E,_,S1,e2,r.step g1.st,st1,r1,λσ' r2=>q _ _ M1 g1 r2 st1⟩⟩⟩
noncomputable def Qm(i j:Nat)(f g:Ev):Ex:=λE S=>(evs [f,g] E S).bind λr=>match r.1 with
 | [d,d']=>Gc (.nx,(E.set i (Gc d)).set j (Gc d'),r.2)
 |_=>none
theorem JW{X:Cx}{i j:Nat}{x y:Str}{a b:ui}{f g:Ev}{px py pt:Pos}{kt k2:Nat}{pt2 pos:Pos}(hc:X.calm=true)(hN:X.N.Nodup)(hi:X.N[i]?=Gc x)(hj:X.N[j]?=Gc y)(hij:i≠j)(hx:X.env.scope.names.lookup x=Gc .local)(hy:X.env.scope.names.lookup y=Gc .local)(ha:DE X a f)(hb:DE X b g)(hw:swappedStores [.Tuple [.Name x px,.Name y py] kt pt] (.Tuple [a,b] k2 pt2) X.env=pure (Gc [x,y]):=by rfl)(hsa:uW [a,b] X.env=(false,eval a X.env)::uW [b] X.env:=by rfl)(hsb:uW [b] X.env=(false,eval b X.env)::uW [] X.env:=by rfl)(hs:swapsWithSole [.Tuple [.Name x px,.Name y py] kt pt] (.Tuple [a,b] k2 pt2) pos.line X.env=pure false:=by rfl):DS X (.Assign [.Tuple [.Name x px,.Name y py] kt pt] (.Tuple [a,b] k2 pt2) pos) (Qm i j f g):=⟨by
 refine Gy (jw hc hN hi hj hij hx hy (Qb ha.pe (Qb hb.pe Yc hsb) hsa) hw hs) λDn σ H z=>?_
 obtain⟨M,E,S,fl,E',S',e,r,st,q⟩:=z
 obtain⟨⟨ds,S1⟩,e1,e⟩:=A5 e
 refine JF (K:=X.K) (fs:=[f,g]) e1 r st λvs H1 M1 g1 st1 r1=>?_
 dsimp only at e
 split at e
 .rename_i d d'
  cases e
  cases r1 with
  |cons h1 t=>
   cases t with
   |cons h2 t=>
    cases t
    exact⟨_,_,rfl,q _ _ M1 g1 (((r.step g1.st).put h1).put h2) st1⟩
 .cases e⟩
noncomputable def UG:Ex:=λ_ _=>none
theorem P8{X:Cx}{st:vE}:DS X st UG:=⟨λ_ _ _ _ _ _ z=>by
 obtain⟨M,E,S,fl,E',S',e,_⟩:=z
 cases e⟩
abbrev Gd:=KE (Nat×KE D)
def gOk(gs:Gd)(S:Sto):Prop:=∀g∈gs,GJ S g.1=Gc g.2
abbrev Sr:=En->Sto->tY ((KE D×Gd)×Sto)
structure iU(K:tU)(M:Ms)(H:Hp)(gs:Gd)(ds:KE D)(J:It):Prop where
 go:∀(i:Nat) (H2:Hp) (M2:Ms) (S2:Sto),Sp1 M H M2 H2->StR K M2 S2 H2->gOk gs S2->i<ds.length->J.go i H2
 stop:∀(i:Nat) (H2:Hp) (M2:Ms) (S2:Sto),Sp1 M H M2 H2->StR K M2 S2 H2->gOk gs S2->ds.length<=i->J.stop i H2
 yld:∀(i:Nat) (H2:Hp) (M2:Ms) (S2:Sto) (x:V) (H3:Hp) (d:D),Sp1 M H M2 H2->StR K M2 S2 H2->gOk gs S2->ds[i]?=Gc d->J.yld i H2 x H3->(∀a o,H2 a=Gc o->H3 a=Gc o)/\Ed K M2 H3 x d
noncomputable def tI(K:tU)(s:Sr):TI:=λσ H R=>∃M E S ds gs S',s E S=Gc ((ds,gs),S')/\EnR K M E σ H/\StR K M S H/\∀J H' M',Gr M H M' H'->StR K M' S' H'->iU K M' H' gs ds J->R J H'
structure DI(X:Cx)(tg iter:ui)(s:Sr):Prop where
 pe:PI X tg iter (tI X.K s)
theorem Qh{X:Cx}{tg e:ui}{t t':TI}(h:PI X tg e t)(m:∀σ H R,t' σ H R->t σ H R):PI X tg e t':=λpins s σ H R I q=>h pins s σ H R I (m _ _ _ q)
noncomputable def rD(K:tU)(tl:TE):TI:=λσ H R=>tl σ H λx H1=>∃a,x=.ref a/\(((∃xs,SqL K H1 a xs)/\R (Itl K a) H1)\/((∃xs,SqT K H1 a xs)/\R (Itt K a) H1))
theorem jR{X:Cx}{tg l:ui}{tl:TE}(hl:PE X l tl):PI X tg l (rD X.K tl):=by
 intro pins s σ H R I h
 refine thn (hl pins s σ H _ I h) λv s1 ⟨x,H1,I1,r1,q1⟩=>?_
 obtain⟨a,e,q1⟩:=q1
 subst e
 cases r1
 rcases q1 with⟨⟨xs,hq⟩,q⟩|⟨⟨xs,hq⟩,q⟩
 .obtain⟨its,rv,p,hz⟩:=I1.list hq
  refine v8 p.isList ?_
  refine⟨s1.heap.objs.size,[s1.heap.objs.size],_,_,H1,rfl,I1.kept (t':=s1.toks) λb o e=>tV _ e,XA a _,⟨_,uH _ rfl,rfl,rfl⟩,λb hb=>?_,q⟩
  have e:b=s1.heap.objs.size:=by simpa using hb
  subst e
  exact I1.fC (tw _) (I1.hok.fresh (tw _))
 .obtain⟨its,rv,p,hz⟩:=I1.tuple hq
  refine wF (show s1.heap.IsTuple a its.toArray from p) ?_
  refine⟨s1.heap.objs.size,[s1.heap.objs.size],_,_,H1,rfl,I1.kept (t':=s1.toks) λb o e=>tV _ e,Vu a _,⟨_,uH _ rfl,rfl,rfl⟩,λb hb=>?_,q⟩
  have e:b=s1.heap.objs.size:=by simpa using hb
  subst e
  exact I1.fC (tw _) (I1.hok.fresh (tw _))
theorem A6.get'{K:tU}{M:Ms}{H:Hp}{vs:KE V}{ds:KE D}{i:Nat}(h:A6 K M H vs ds)(hi:i<ds.length):∃x,vs[i]?=Gc x:=by
 have:=h.length
 exact⟨vs[i],t7 (by omega)⟩
structure SqF(K:tU)(M:Ms)(H:Hp)(gs:Gd)(k:uv)(a:uC)(ds:KE D):Prop where
 keep:∀(H2:Hp) (M2:Ms) (S2:Sto),Sp1 M H M2 H2->StR K M2 S2 H2->gOk gs S2->∃xs,(if k=true then SqT K H2 a xs else SqL K H2 a xs)/\A6 K M2 H2 xs ds
noncomputable def sqD(S:Sto):D->tY (KE D×Gd)
 | .tup ds=>Gc (ds,[])
 | .lst ds=>Gc (ds,[])
 | .ref n=>(GJ S n).map λds=>(ds,[(n,ds)])
 | .scr ns=>Gc (ns.map .int,[])
 |_=>none
theorem T6{K:tU}{M:Ms}{H:Hp}{S:Sto}{v:V}{d:D}{ds:KE D}{gs:Gd}(st:StR K M S H)(h:Ed K M H v d)(e:sqD S d=Gc (ds,gs)):∃k a,v=.ref a/\SqF K M H gs k a ds:=by
 cases h with
 |tup h r=>cases e;exact⟨true,_,rfl,⟨λH2 M2 S2 g _ _=>⟨_,g.sqT h,r.step g⟩⟩⟩
 |lst h n r=>cases e;exact⟨false,_,rfl,⟨λH2 M2 S2 g _ _=>⟨_,SqL.of (g.keep _ _ h n),r.step g⟩⟩⟩
 |scr h=>
  cases e
  refine⟨false,_,rfl,⟨λH2 M2 S2 g _ _=>⟨_,?_,Ic⟩⟩⟩
  rcases h with⟨h,n⟩|h
  .rcases h with h|⟨o,h⟩
   .exact .inl (.inl (g.keep _ _ h n))
   .exact .inl (.inr ⟨o,g.keep _ _ h n⟩)
  .exact .inr h
 |ref h=>
  obtain⟨es,e1,e⟩:=Lp e
  cases e
  refine⟨false,_,rfl,⟨λH2 M2 S2 g st2 ok=>?_⟩⟩
  obtain⟨xs,h1,h2⟩:=st2.cell _ _ _ (NS g.pre h) (Gg (ok _ (uk.mpr rfl)))
  exact⟨xs,SqL.of h1,h2⟩
 |non=>cases e
 |bl b=>cases e
 |int b=>cases e
 |str b=>cases e
 |ty b=>cases e
 |dct h n r=>cases e
theorem nZ{K:tU}{M:Ms}{H:Hp}{gs:Gd}{k:uv}{a:uC}{ds:KE D}(h:SqF K M H gs k a ds):iU K M H gs ds (if k=true then Itt K a else Itl K a):=by
 cases k with
 |true=>
  exact{
   go:=λi H2 M2 S2 g st ok hi=>let⟨xs,h1,h2⟩:=h.keep H2 M2 S2 g st ok;let⟨x,hx⟩:=h2.get' hi;⟨xs,x,h1,hx⟩
   stop:=λi H2 M2 S2 g st ok hi=>let⟨xs,h1,h2⟩:=h.keep H2 M2 S2 g st ok;⟨xs,h1,by have:=h2.length;omega⟩
   yld:=λi H2 M2 S2 x H3 d g st ok hd hy=>by
    obtain⟨xs,h1,h2⟩:=h.keep H2 M2 S2 g st ok
    obtain⟨rfl,hy⟩:=hy
    refine⟨λ_ _ e=>e,?_⟩
    have hx:=hy xs h1
    obtain⟨x',h3,h4⟩:=h2.get hd
    rw[hx]at h3;cases h3
    exact h4}
 |false=>
  exact{
   go:=λi H2 M2 S2 g st ok hi=>let⟨xs,h1,h2⟩:=h.keep H2 M2 S2 g st ok;let⟨x,hx⟩:=h2.get' hi;⟨xs,x,h1,hx⟩
   stop:=λi H2 M2 S2 g st ok hi=>let⟨xs,h1,h2⟩:=h.keep H2 M2 S2 g st ok;⟨xs,h1,by have:=h2.length;omega⟩
   yld:=λi H2 M2 S2 x H3 d g st ok hd hy=>by
    obtain⟨xs,h1,h2⟩:=h.keep H2 M2 S2 g st ok
    obtain⟨rfl,hy⟩:=hy
    refine⟨λ_ _ e=>e,?_⟩
    have hx:=hy xs h1
    obtain⟨x',h3,h4⟩:=h2.get hd
    rw[hx]at h3;cases h3
    exact h4}
noncomputable def GI(f:Ev):Sr:=λE S=>(f E S).bind λr=>(sqD r.2 r.1).map λp=>(p,r.2)
theorem QQ{S:Sto}{d:D}{ds:KE D}{gs:Gd}(e:sqD S d=Gc (ds,gs)):gOk gs S:=by
 cases d<;>first|(cases e;done)|skip
 all_goals first
  |(cases e;intro g hg;cases hg;done)
  |(obtain⟨es,e1,e⟩:=Lp e
    cases e
    intro g hg
    rw[uk.mp hg]
    exact e1)
theorem B9{X:Cx}{tg e:ui}{f:Ev}(h:DE X e f):DI X tg e (GI f):=⟨Qh (jR h.pe) λσ H R z=>by
 obtain⟨M,E,S,ds,gs,S',e,r,st,q⟩:=z
 obtain⟨⟨d,S1⟩,e1,e⟩:=A5 e
 obtain⟨⟨ds',gs'⟩,e2,e⟩:=Lp e
 cases e
 refine⟨M,E,S,d,S1,e1,r,st,λv H1 M1 g1 st1 r1=>?_⟩
 obtain⟨k,a,rfl,sq⟩:=T6 st1 r1 e2
 obtain⟨xs,hs,_⟩:=sq.keep H1 M1 S1 (Gr.refl st1.mo).st st1 (QQ e2)
 have it:=nZ sq
 refine⟨a,rfl,?_⟩
 cases k with
 |true=>exact .inr ⟨⟨xs,hs⟩,q _ _ M1 g1 st1 it⟩
 |false=>exact .inl ⟨⟨xs,hs⟩,q _ _ M1 g1 st1 it⟩⟩
noncomputable def K4(lo:Int)(n:Nat):KE D:=(uJ n).map λ(i:Nat)=>.int (lo+(i:Int))
theorem iS{K:tU}{M:Ms}{H:Hp}{lo:Int}{n:Nat}:iU K M H [] (K4 lo n) (Itr lo n) where
 go:=λi H2 M2 S2 g st ok hi=>by
  have:i<n:=by unfold K4 at hi;simpa using hi
  exact this
 stop:=λi H2 M2 S2 g st ok hi=>by
  have:n<=i:=by unfold K4 at hi;simpa using hi
  exact this
 yld:=λi H2 M2 S2 x H3 d g st ok hd hy=>by
  obtain⟨rfl,rfl⟩:=hy
  refine⟨λ_ _ e=>e,?_⟩
  unfold K4 at hd
  rw[uN]at hd
  cases e:(uJ n)[i]? with
  |none=>rw[e]at hd;cases hd
  |some j=>
   rw[e]at hd
   cases hd
   have:j=i:=by
    obtain⟨h1,h2⟩:=uI.mp e
    simpa using h2.symm
   subst this
   exact .int _
noncomputable def My(fs:KE Ev):Sr:=λE S=>(evs fs E S).bind λr=>match r.1 with
 | [.int j]=>if(decide (-(2^62)<=j) && decide (j<2^62))=true then Gc ((K4 0 j.toNat,[]),r.2)else none
 | [.int i,.int j]=>if(decide (-(2^62)<=i) && decide (i<2^62) && decide (-(2^62)<=j) && decide (j<2^62))=true then Gc ((K4 i (j-i).toNat,[]),r.2)else none
 |_=>none
theorem Zf{K:tU}{M:Ms}{H:Hp}{vs:KE V}{j:Int}(h:A6 K M H vs [.int j]):vs=[.int j]:=by
 cases h with
 |cons h t=>cases t;cases h;rfl
theorem EX{X:Cx}{tg a:ui}{o:Ev}{p pos:Pos}(hg:Gl X "range")(hm:X.mg "range"=none)(ha:DEs X [a] [o])(hs:uW [a] X.env=[(false,eval a X.env)]:=by rfl):DI X tg (.Call (.Name "range" p) [a] [] pos) (My [o]):=⟨
 Qh (WH hg hm ha.pe hs) λσ H R z=>by
  obtain⟨M,E,S,ds,gs,S',e,r,st,q⟩:=z
  obtain⟨⟨ws,S1⟩,e1,e⟩:=A5 e
  have hl:=TJ e1
  refine JF e1 r st λvs H1 M1 g1 st1 r1=>?_
  dsimp only at e
  split at e
  .split at e
   .rename_i j hk
    rw[uP]at hk
    cases e
    exact⟨j,Zf r1,uO hk.1,uO hk.2,q _ _ M1 g1 st1 iS⟩
   .cases e
  .simp at hl
  .cases e⟩
open Classical in
def Jx(gs:Gd)(t:Tf)(body:Ex):KE D->En->Sto->tY (Fl×En×Sto)
 | [],E,S=>if gOk gs S then Gc (.nx,E,S)else none
 |d::ds,E,S=>if gOk gs S then(t d E S).bind λE1=>(body E1 S).bind λr=>match r.1 with
  | .nx=>Jx gs t body ds r.2.1 r.2.2
  | .ret w=>Gc (.ret w,r.2)
  else none
def JI(s:Sr)(t:Tf)(body:Ex):Ex:=λE S=>(s E S).bind λr=>Jx r.1.2 t body r.1.1 E r.2
theorem R7{α:Type}{xs:KE α}{i:Nat}{x:α}{r:KE α}(h:xs.drop i=x::r):xs[i]?=Gc x/\xs.drop (i+1)=r/\i<xs.length:=by
 have hi:i<xs.length:=by
  by_cases hi:i<xs.length
  .exact hi
  .rw[vo (by omega)]at h;cases h
 rw[vD hi]at h
 cases h
 exact⟨t7 hi,rfl,hi⟩
theorem Dt{X:Cx}{tg iter:ui}{body:KE vE}{s:Sr}{t:Tf}{b:Ex}{pos:Pos}(hp:PassesOwn (model X.prog X.w) X.A X.env X.xe)(hc:X.calm=true)(hi:DI X tg iter s)(hg:DG X tg t)(hb:DSs X body b)(hs:∀x,foldedSetIterable iter X.env x=pure x:=by intro _;rfl):DS X (.For tg iter body [] pos) (JI s t b):=⟨Gy (iK hp hc hi.pe hg.pe hb.pe hs) λDn σ H z=>by
 obtain⟨M,E,S,fl,E',S',e,r,st,q⟩:=z
 obtain⟨⟨⟨ds,gs⟩,S1⟩,e1,e⟩:=A5 e
 dsimp only at e
 refine⟨M,E,S,ds,gs,S1,e1,r,st,λJ H1 M1 g1 st1 it=>?_⟩
 refine⟨λi m σ' H'=>m=ds.length-i/\∃E2 S2 M2,Jx gs t b (ds.drop i) E2 S2=Gc (fl,E',S')/\Gr M1 H1 M2 H'/\EnR X.K M2 E2 σ' H'/\StR X.K M2 S2 H',⟨_,rfl,E,S1,M1,e,.refl st1.mo,r.step g1.st,st1⟩,λi m σ2 H2 hW=>?_⟩
 obtain⟨rfl,E2,S2,M2,e2,g2,r2,st2⟩:=hW
 cases ed:ds.drop i with
 |nil=>
  rw[ed]at e2
  unfold Jx at e2
  split at e2
  .rename_i ok
   cases e2
   left
   exact⟨it.stop i H2 M2 _ g2.st st2 ok (AA4.mp ed),q _ _ M2 (g1.trans g2) r2 st2⟩
  .cases e2
 |cons d rest=>
  obtain⟨d1,d2,d3⟩:=R7 ed
  rw[ed]at e2
  unfold Jx at e2
  split at e2
  .rename_i ok
   obtain⟨E3,e3,e2⟩:=A5 e2
   obtain⟨⟨f4,E4,S4⟩,e4,e2⟩:=A5 e2
   dsimp only at e2
   right
   refine⟨it.go i H2 M2 S2 g2.st st2 ok d3,λσ' H'=>∃m',m'<ds.length-i/\(m'=ds.length-(i+1)/\∃E2 S2 M2,Jx gs t b (ds.drop (i+1)) E2 S2=Gc (fl,E',S')/\Gr M1 H1 M2 H'/\EnR X.K M2 E2 σ' H'/\StR X.K M2 S2 H'),λσ' H' z=>z,λx H3 hy=>?_⟩
   obtain⟨k3,rx⟩:=it.yld i H2 M2 S2 x H3 d g2.st st2 ok d1 hy
   have g3:Gr M2 H2 M2 H3:=.grow st2.mo k3
   refine⟨M2,d,E2,E3,S2,e3,r2.step g3.st,st2.grow k3,rx,λσ4 r4=>?_⟩
   refine⟨M2,E3,S2,f4,E4,S4,e4,r4,st2.grow k3,?_⟩
   split at e2
   .exact λσ6 H6 M6 g6 r6 st6=>⟨_,by omega,rfl,E4,S4,M6,by rw[d2];exact e2,(g2.trans g3).trans g6,r6,st6⟩
   .cases e2
    exact λv H6 M6 g6 st6 r6=>q _ _ M6 (((g1.trans g2).trans g3).trans g6) st6 r6
  .cases e2⟩
noncomputable def Jo(c:Ev)(b:Ex):Nat->En->Sto->tY (Fl×En×Sto)
 |0,_,_=>none
 |k+1,E,S=>(c E S).bind λr=>match r.1 with
  | .bl true=>(b E r.2).bind λp=>match p.1 with
    | .nx=>Jo c b k p.2.1 p.2.2
    | .ret w=>Gc (.ret w,p.2)
  | .bl false=>Gc (.nx,E,r.2)
  |_=>none
noncomputable def Ru(fuel:En->Nat)(c:Ev)(b:Ex):Ex:=λE S=>Jo c b (fuel E) E S
theorem UJ{X:Cx}{c:ui}{body:KE vE}{k:Ev}{b:Ex}{pos:Pos}(fuel:En->Nat)(hp:PassesOwn (model X.prog X.w) X.A X.env X.xe)(hc:DT X c k)(hb:DSs X body b):DS X (.While c body [] pos) (Ru fuel k b):=⟨
 Gy (Zr hp hc.pe hb.pe) λDn σ H z=>by
  obtain⟨M,E,S,fl,E',S',e,r,st,q⟩:=z
  refine⟨λm σ' H'=>∃E2 S2 M2,Jo k b m E2 S2=Gc (fl,E',S')/\Gr M H M2 H'/\EnR X.K M2 E2 σ' H'/\StR X.K M2 S2 H',⟨fuel E,E,S,M,e,.refl st.mo,r,st⟩,λm σ2 H2 hW=>?_⟩
  obtain⟨E2,S2,M2,e2,g2,r2,st2⟩:=hW
  cases m with
  |zero=>cases e2
  |succ m=>
   obtain⟨⟨w3,S3⟩,e3,e2⟩:=A5 e2
   dsimp only at e2
   split at e2
   .obtain⟨⟨f4,E4,S4⟩,e4,e2⟩:=A5 e2
    refine⟨M2,E2,S2,true,S3,e3,r2,st2,λH3 M3 g3 st3=>?_⟩
    refine gZ ⟨λσ' H'=>∃m',m'<m+1/\∃E2 S2 M2,Jo k b m' E2 S2=Gc (fl,E',S')/\Gr M H M2 H'/\EnR X.K M2 E2 σ' H'/\StR X.K M2 S2 H',λσ' H' z=>z,?_⟩
    refine⟨M3,E2,S3,f4,E4,S4,e4,r2.step g3.st,st3,?_⟩
    dsimp only at e2
    split at e2
    .exact λσ5 H5 M5 g5 r5 st5=>⟨m,by omega,E4,S4,M5,e2,(g2.trans g3).trans g5,r5,st5⟩
    .cases e2
     exact λv H5 M5 g5 st5 r5=>q _ _ M5 ((g2.trans g3).trans g5) st5 r5
   .cases e2
    refine⟨M2,_,S2,false,_,e3,r2,st2,λH3 M3 g3 st3=>?_⟩
    refine eR ?_
    exact q _ _ M3 (g2.trans g3) (r2.step g3.st) st3
   .cases e2⟩
noncomputable def Vy(i:Nat):En->Nat:=λE=>match at? E i with
 |some (.int j)=>j.natAbs+2
 |_=>0
section
variable{K:tU}{M M' M2:Ms}{H H' H2:Hp}{S:Sto}
structure GrX(M:Ms)(H:Hp)(M':Ms)(H':Hp):Prop where
 pre:M.cel <+: M'.cel
 fresh:∀a,a∈M'.cel->a∈M.cel\/H a=none
 keep:∀a o,H a=Gc o->a∉M.cel->H' a=Gc o
 some:∀a,H a≠none->H' a≠none
theorem GrX.none(g:GrX M H M' H'){a:uC}(h:H' a=none):H a=none:=by
 cases e:H a with
 |none=>rfl
 |some o=>exact absurd h (g.some a (by rw[e];intro z;cases z))
theorem Gr.x(g:Gr M H M' H'):GrX M H M' H':=⟨g.pre,g.fresh,g.keep,g.some⟩
theorem GrX.trans(h:GrX M H M' H')(g:GrX M' H' M2 H2):GrX M H M2 H2:=
 ⟨h.pre.trans g.pre,λa z=>(g.fresh a z).elim (h.fresh a) λz=>.inr (h.none z),λa o e n=>g.keep a o (h.keep a o e n) (λz=>by
   rcases h.fresh a z with z|z
   .exact n z
   .rw[e]at z;cases z),λa e=>g.some a (h.some a e)⟩
theorem StR.jq(r:StR K M S H){a:uC}(e:H a=none):StR K ⟨M.cel,a::M.tmp⟩ S (upd H a (.lst []))/\GrX M H ⟨M.cel,a::M.tmp⟩ (upd H a (.lst []))/\Sp1 M H ⟨M.cel,a::M.tmp⟩ (upd H a (.lst [])):=by
 have k:∀b o,H b=Gc o->upd H a (.lst []) b=Gc o:=IS e
 have na:¬M.mem a:=λz=>r.mo.some z e
 have s1:Sp1 M H ⟨M.cel,a::M.tmp⟩ (upd H a (.lst [])):=⟨r.mo,vT,λb z=>by
  rcases z with z|z
  .exact .inl (.inl z)
  .rcases uF.mp z with z|z
   .subst z;exact .inr e
   .exact .inl (.inr z),λb o eb _=>k b o eb⟩
 refine⟨⟨λb z=>?_,r.nd,λb hb z=>?_,r.len,λn b c h1 h2=>?_⟩,⟨vT,λb z=>.inl z,λb o eb _=>k b o eb,λb eb z=>?_⟩,s1⟩
 .by_cases h:b=a
  .subst h;exact .inl ⟨[],BM⟩
  .rw[An h]
   refine r.mo b ?_
   rcases z with z|z
   .exact .inl z
   .rcases uF.mp z with z|z
    .exact absurd z h
    .exact .inr z
 .rcases uF.mp hb with hb|hb
  .subst hb;exact na (.inl z)
  .exact r.nt b hb z
 .have q:=r.cell n b c h1 h2
  cases c with
  |lst ds=>obtain⟨xs,e,rr⟩:=q;exact⟨xs,k _ _ e,rr.step s1⟩
  |dct ds=>obtain⟨xs,e,rr⟩:=q;exact⟨xs,k _ _ e,rr.step s1⟩
 .cases h:H b with
  |none=>exact eb h
  |some o=>rw[k b o h]at z;cases z
theorem StR.eO(r:StR K M S H){a:uC}{ys:KE V}(ha:a∈M.tmp):StR K M S (upd H a (.lst ys))/\Sp1 M H M (upd H a (.lst ys)):=by
 have s1:Sp1 M H M (upd H a (.lst ys)):=⟨r.mo,vT,λb z=>.inl z,λb o eb nb=>by rw[An (λz=>nb (by rw[z];exact .inr ha))];exact eb⟩
 refine⟨⟨λb z=>?_,r.nd,r.nt,r.len,λn b c h1 h2=>?_⟩,s1⟩
 .by_cases h:b=a
  .subst h;exact .inl ⟨ys,BM⟩
  .rw[An h];exact r.mo b z
 .have hb:b≠a:=λz=>r.nt a ha (by rw[<-z];exact uS h1)
  have q:=r.cell n b c h1 h2
  cases c with
  |lst ds=>obtain⟨xs,e,rr⟩:=q;exact⟨xs,by rw[An hb];exact e,rr.step s1⟩
  |dct ds=>obtain⟨xs,e,rr⟩:=q;exact⟨xs,by rw[An hb];exact e,rr.step s1⟩
theorem StR.eW{c:KE uC}{t:KE uC}{a:uC}{xs:KE V}{ds:KE D}{cf:uv}{d:D}{S':Sto}(r:StR K ⟨c,a::t⟩ S H)(nt:a∉t)(e:H a=Gc (.lst xs))(rr:A6 K ⟨c,a::t⟩ H xs ds)(ef:fin cf (.own ds) S=Gc (d,S')):∃c',StR K ⟨c',t⟩ S' H/\Ed K ⟨c',t⟩ H (.ref a) d/\c <+: c'/\(∀b∈c',b∈c\/b=a):=by
 have nc:a∉c:=r.nt a uD
 cases cf with
 |false=>
  cases ef
  have s1:Sp1 ⟨c,a::t⟩ H ⟨c,t⟩ H:=⟨r.mo,vT,λb z=>.inl (z.imp id (tf _)),λ_ _ e _=>e⟩
  refine⟨c,⟨λb z=>r.mo b (z.imp id (tf _)),r.nd,λb hb=>r.nt b (tf _ hb),r.len,λn b cl h1 h2=>?_⟩,.lst e (λz=>z.elim nc nt) (rr.step s1),vT,λb z=>.inl z⟩
  have q:=r.cell n b cl h1 h2
  cases cl with
  |lst ds=>obtain⟨xs,e,rr⟩:=q;exact⟨xs,e,rr.step s1⟩
  |dct ds=>obtain⟨xs,e,rr⟩:=q;exact⟨xs,e,rr.step s1⟩
 |true=>
  cases ef
  have s1:Sp1 ⟨c,a::t⟩ H ⟨c++[a],t⟩ H:=⟨r.mo,xk _ _,λb z=>by
   rcases z with z|z
   .rcases uU.mp z with z|z
    .exact .inl (.inl z)
    .exact .inl (.inr (by rw[uk.mp z];exact uD))
   .exact .inl (.inr (tf _ z)),λ_ _ e _=>e⟩
  have hl:c.length=S.length:=r.len
  refine⟨c++[a],⟨λb z=>?_,?_,λb hb z=>?_,by simp[hl],λn b cl h1 h2=>?_⟩,.ref ?_,xk _ _,λb z=>?_⟩
  .refine r.mo b ?_
   rcases z with z|z
   .rcases uU.mp z with z|z
    .exact .inl z
    .exact .inr (by rw[uk.mp z];exact uD)
   .exact .inr (tf _ z)
  .rw[x8]
   refine⟨r.nd,by simp,λx hx y hy z=>?_⟩
   simp at hy;subst hy
   exact nc (by rw[<-z];exact hx)
  .rcases uU.mp z with z|z
   .exact r.nt b (tf _ hb) z
   .rw[uk.mp z]at hb;exact nt hb
  .by_cases h:n<S.length
   .rw[tz (by rw[hl];exact h)]at h1
    rw[tz h]at h2
    have q:=r.cell n b cl h1 h2
    cases cl with
    |lst ds=>obtain⟨xs,e,rr⟩:=q;exact⟨xs,e,rr.step s1⟩
    |dct ds=>obtain⟨xs,e,rr⟩:=q;exact⟨xs,e,rr.step s1⟩
   .have hm:n=S.length:=by
     have:=(uI.mp h2).1
     simp at this;omega
    subst hm
    rw[u3 (by rw[hl];exact tw _)]at h1
    rw[u3 (tw _)]at h2
    rw[hl]at h1
    simp at h1 h2
    subst h1 h2
    exact⟨xs,e,rr.step s1⟩
  .rw[<-hl];exact uL
  .rcases uU.mp z with z|z
   .exact .inl z
   .exact .inr (uk.mp z)
end
open Classical in
def CU(gs:Gd)(t:Tf)(c:Ev)(f:Ev):KE D->KE D->En->Sto->tY (KE D×Sto)
 | [],acc,_,S=>if gOk gs S then Gc (acc,S)else none
 |d::ds,acc,E,S=>if gOk gs S then(if acc.length<sizeLine then(t d E S).bind λE1=>(c E1 S).bind λr=>match r.1 with
   | .bl true=>(f E1 r.2).bind λp=>CU gs t c f ds (acc++[p.1]) E1 p.2
   | .bl false=>CU gs t c f ds acc E1 r.2
   |_=>none
  else none)else none
noncomputable def Bx:Ev:=λ_ S=>Gc (.bl true,S)
noncomputable def ZU(cap:KE Nat)(m:Nat)(E:En):En:=cap.map (at? E)++uQ m none
def PL(cf:uv)(cap:KE Nat)(m:Nat)(s:Sr)(t:Tf)(c:Ev)(f:Ev):Ev:=λE S=>(s E S).bind λr=>(CU r.1.2 t c f r.1.1 [] (ZU cap m E) r.2).bind λq=>fin cf (.own q.1) q.2
noncomputable abbrev CT:=PL false
noncomputable abbrev PM:=PL true
noncomputable def ixC(cap:KE Nat)(m:Nat):KE (tY Nat):=cap.map Gc++uQ m none
theorem EnR.cap{K:tU}{M:Ms}{E:En}{σ:Sg}{H:Hp}(r:EnR K M E σ H)(cap:KE Nat)(m:Nat):EnR K M (ZU cap m E) (sig (ixC cap m) σ) H:=by
 unfold ZU sig ixC
 refine⟨by simp,λi d e=>?_⟩
 have h1:=V9 e
 rw[uN]at h1
 cases e1:cap[i]? with
 |none=>rw[e1]at h1;cases h1
 |some j=>
  rw[e1]at h1
  have h2:at? E j=Gc d:=by simpa using h1
  obtain⟨v,hv,rd⟩:=r.val j d (at?_some h2)
  refine⟨v,?_,rd⟩
  have hi:i<cap.length:=(uI.mp e1).1
  rw[vU,tz (by simpa using hi),uN,uN,e1]
  show Gc ((σ[j]?).join)=Gc (Gc v)
  rw[hv]
  rfl
theorem YW{K:tU}{cf:uv}{cap:KE Nat}{m:Nat}{s:Sr}{t:Tf}{c f:Ev}{σ:Sg}{H:Hp}{Q:VK}(h:tD K (PL cf cap m s t c f) σ H Q):eX (ixC cap m) (tI K s) (tG K t) (tDT K c) (tD K f) σ H Q:=by
 obtain⟨M,E,S,d,S',e,r,st,q⟩:=h
 obtain⟨⟨⟨ds,gs⟩,S1⟩,e1,e⟩:=A5 e
 obtain⟨⟨accf,Sf⟩,e3,e⟩:=A5 e
 dsimp only at e e3
 refine⟨M,E,S,ds,gs,S1,e1,r,st,λJ H1 M1 g1 st1 it A0 hD=>?_⟩
 obtain⟨st0,gx0,s0⟩:=st1.jq hD
 have nt:A0∉M1.tmp:=λz=>st1.mo.some (.inr z) hD
 refine⟨λi mm σ' H' ys=>mm=ds.length-i/\∃Ei Si Mi acc,CU gs t c f (ds.drop i) acc Ei Si=Gc (accf,Sf)/\GrX M1 H1 Mi H'/\Mi.tmp=A0::M1.tmp/\EnR K Mi Ei σ' H'/\StR K Mi Si H'/\H' A0=Gc (.lst ys)/\A6 K Mi H' ys acc,
  ⟨_,rfl,_,S1,_,[],e3,gx0,rfl,((r.step g1.st).step s0).cap cap m,st0,BM,.nil⟩,λi mm σ2 H2 ys hW=>?_⟩
 obtain⟨rfl,Ei,Si,Mi,acc,ec,gx,ht,r2,st2,hy,ry⟩:=hW
 have sp:Sp1 M1 H1 Mi H2:=⟨st1.mo,gx.pre,λa z=>by
  rcases z with z|z
  .exact(gx.fresh a z).imp .inl id
  .rw[ht]at z
   rcases uF.mp z with z|z
   .subst z;exact .inr hD
   .exact .inl (.inr z),λa o eo no=>gx.keep a o eo λz=>no (.inl z)⟩
 refine⟨hy,?_⟩
 cases ed:ds.drop i with
 |nil=>
  rw[ed]at ec
  unfold CU at ec
  split at ec
  .rename_i ok
   cases ec
   left
   obtain⟨ci,ti⟩:=Mi
   have ht':ti=A0::M1.tmp:=ht
   subst ht'
   obtain⟨c',st',rd',pr',sub'⟩:=st2.eW nt hy ry e
   refine⟨it.stop i H2 _ _ sp st2 ok (AA4.mp ed),q _ _ ⟨c',M1.tmp⟩ (g1.trans ⟨st1.mo,gx.pre.trans pr',rfl,λa z=>?_,gx.keep,gx.some⟩) st' rd'⟩
   rcases sub' a z with z|z
   .exact gx.fresh a z
   .subst z;exact .inr hD
  .cases ec
 |cons d rest=>
  obtain⟨d1,d2,d3⟩:=R7 ed
  rw[ed]at ec
  unfold CU at ec
  split at ec
  .rename_i ok
   split at ec
   .rename_i hz
    obtain⟨E3,e4,ec⟩:=A5 ec
    obtain⟨⟨w5,S5⟩,e5,ec⟩:=A5 ec
    right
    refine⟨it.go i H2 Mi Si sp st2 ok d3,by rw[ry.length];exact hz,λx H3 hyl=>?_⟩
    obtain⟨k3,rx⟩:=it.yld i H2 Mi Si x H3 d sp st2 ok d1 hyl
    have g3:Gr Mi H2 Mi H3:=.grow st2.mo k3
    have st3:=st2.grow k3
    refine⟨Mi,d,Ei,E3,Si,e4,r2.step g3.st,st3,rx,λσ4 r4=>?_⟩
    have hA:A0∈Mi.tmp:=by rw[ht];exact uD
    have hy3:H3 A0=Gc (.lst ys):=k3 _ _ hy
    have ry3:A6 K Mi H3 ys acc:=ry.step g3.st
    have fin:∀{E6:En} {S6:Sto} {M6:Ms} {H6:Hp} {zs:KE V} {acc6:KE D},CU gs t c f rest acc6 E6 S6=Gc (accf,Sf)->GrX M1 H1 M6 H6->M6.tmp=A0::M1.tmp->EnR K M6 E6 σ4 H6->StR K M6 S6 H6->H6 A0=Gc (.lst zs)->A6 K M6 H6 zs acc6->
      ∃m',m'<ds.length-i/\(m'=ds.length-(i+1)/\∃Ei Si Mi acc,CU gs t c f (ds.drop (i+1)) acc Ei Si=Gc (accf,Sf)/\GrX M1 H1 Mi H6/\Mi.tmp=A0::M1.tmp/\EnR K Mi Ei σ4 H6/\StR K Mi Si H6/\H6 A0=Gc (.lst zs)/\A6 K Mi H6 zs acc):=
     λ{E6 S6 M6 H6 zs acc6} ec g6 t6 r6 st6 h6 y6=>⟨_,by omega,rfl,E6,S6,M6,acc6,by rw[d2];exact ec,g6,t6,r6,st6,h6,y6⟩
    dsimp only at ec
    split at ec
    .obtain⟨⟨w7,S7⟩,e7,ec⟩:=A5 ec
     refine⟨Mi,E3,Si,true,S5,e5,r4,st3,λH5 M5 g5 st5=>?_⟩
     refine gZ ?_
     refine⟨M5,E3,S5,w7,S7,e7,r4.step g5.st,st5,λy H7 M7 g7 st7 d7=>?_⟩
     have nA:∀{M6:Ms} {H6:Hp} {S6:Sto},StR K M6 S6 H6->A0∈M6.tmp->A0∉M6.cel:=λr6 h6=>r6.nt A0 h6
     have hA5:A0∈M5.tmp:=by rw[g5.tmp];exact hA
     have hA7:A0∈M7.tmp:=by rw[g7.tmp];exact hA5
     have hy5:H5 A0=Gc (.lst ys):=g5.keep _ _ hy3 (nA st3 hA)
     have hy7:H7 A0=Gc (.lst ys):=g7.keep _ _ hy5 (nA st5 hA5)
     have ry7:A6 K M7 H7 ys acc:=(ry3.step g5.st).step g7.st
     refine⟨hy7,?_⟩
     obtain⟨st8,s8⟩:=st7.eO (ys:=ys++[y]) hA7
     have gx7:GrX M1 H1 M7 H7:=((gx.trans g3.x).trans g5.x).trans g7.x
     have gx8:GrX M1 H1 M7 (upd H7 A0 (.lst (ys++[y]))):=⟨gx7.pre,gx7.fresh,λa o eo no=>by
      rw[An (λz=>by subst z;rw[hD]at eo;cases eo)]
      exact gx7.keep a o eo no,λa ea=>by
      by_cases h:a=A0
      .subst h;rw[BM];intro z;cases z
      .rw[An h];exact gx7.some a ea⟩
     exact fin ec gx8 (by rw[g7.tmp,g5.tmp];exact ht) (((r4.step g5.st).step g7.st).step s8) st8 BM ((ry7.append (.cons d7 .nil)).step s8)
    .refine⟨Mi,E3,Si,false,S5,e5,r4,st3,λH5 M5 g5 st5=>?_⟩
     refine eR ?_
     exact fin ec ((gx.trans g3.x).trans g5.x) (by rw[g5.tmp];exact ht) (r4.step g5.st) st5 (g5.keep _ _ hy3 (st3.nt A0 hA)) (ry3.step g5.st)
    .cases ec
   .cases ec
  .cases ec
structure DTs(X:Cx)(ifs:KE ui)(c:Ev):Prop where
 pe:PTs X ifs (tDT X.K c)
theorem Z5{X:Cx}{e:KE ui}{t t':TT}(h:PTs X e t)(m:∀σ H Q,t' σ H Q->t σ H Q):PTs X e t':=λpins s σ H Q I q=>h pins s σ H Q I (m _ _ _ q)
theorem B4{X:Cx}:DTs X [] Bx:=⟨Z5 gO λσ H Q z=>by
 obtain⟨M,E,S,b,S',e,r,st,q⟩:=z
 cases e
 exact q _ M (.refl st.mo) st⟩
theorem HA{X:Cx}{c:ui}{f:Ev}(h:DT X c f):DTs X [c] f:=⟨gG h.pe⟩
section
variable{X:Cx}{N':KE Str}{cf:uv}{cap:KE Nat}{m:Nat}{scope:xC}{elt tg iter:ui}{ifs:KE ui}{pos:Pos}{s:Sr}{t:Tf}{c f:Ev}
def Blk(X:Cx)(N':KE Str)(scope:xC)(tg:ui)(ifs:KE ui)(elt:ui)(t:Tf)(c f:Ev):Prop:=
 ∀(s:tZ) (H:Hp) (fp:KE uC),DG (JX X N' scope s H fp) tg t/\DTs (JX X N' scope s H fp) ifs c/\DE (JX X N' scope s H fp) elt f
theorem Bj(cap:KE Nat)(m:Nat)(N':KE Str)(hc:X.calm=true)(S:AY X.N X.env.scope N' (ixC cap m) scope)(hi:DI X tg iter s)(hb:Blk X N' scope tg ifs elt t c f)(hs:∀x,foldedSetIterable iter X.env x=pure x:=by intro _;rfl):DE X (.ListComp elt [⟨tg,iter,ifs,0⟩] scope pos) (PL cf cap m s t c f):=⟨
 Bi (fe (g:=tG X.K t) (tc:=tDT X.K c) (te:=tD X.K f) hc S hi.pe (λs H fp=>⟨(hb s H fp).1.pe,(hb s H fp).2.1.pe,(hb s H fp).2.2.pe⟩) hs) λ_ _ _ h=>YW h⟩
theorem Dv{i:Nat}{y:Str}{py spos:Pos}(cap:KE Nat)(m:Nat)(N':KE Str)(hc:X.calm=true)(hN:X.N.Nodup)(hi':X.N[i]?=Gc y)(hx:X.env.scope.names.lookup y=Gc .local)(S:AY X.N X.env.scope N' (ixC cap m) scope)(hi:DI X tg iter s)(hb:Blk X N' scope tg ifs elt t c f)(hsw:swapsWith (.ListComp elt [⟨tg,iter,ifs,0⟩] scope pos) (Gc (.Name y py)) spos.line X.env=pure true:=by rfl)(hs:∀x,foldedSetIterable iter X.env x=pure x:=by intro _;rfl):DS X (.Assign [.Name y py] (.ListComp elt [⟨tg,iter,ifs,0⟩] scope pos) spos) (Bm i (PL cf cap m s t c f)):=⟨
 Gy (Vr (g:=tG X.K t) (tc:=tDT X.K c) (te:=tD X.K f) hc hN hi' hx S hi.pe (λs H fp=>⟨(hb s H fp).1.pe,(hb s H fp).2.1.pe,(hb s H fp).2.2.pe⟩) hsw hs) λDn σ H z=>by
  obtain⟨M,E,S,fl,E',S',e,r,st,q⟩:=z
  obtain⟨⟨d,S1⟩,e1,e⟩:=Lp e
  cases e
  exact YW ⟨M,E,S,d,S1,e1,r,st,λv H1 M1 g1 st1 r1=>q _ _ M1 g1 ((r.step g1.st).put r1) st1⟩⟩
end
noncomputable def Nl{α:Type}(xs:KE α)(lo hi:tY Int):KE α:=(xs.drop (HT.sIx xs.length 0 lo)).take (HT.sIx xs.length xs.length hi-HT.sIx xs.length 0 lo)
theorem Wi{K:tU}{M:Ms}{H:Hp}{xs:KE V}{ds:KE D}(h:A6 K M H xs ds)(lo hi:tY Int):A6 K M H (b9 xs lo hi) (Nl ds lo hi):=by
 unfold b9 Nl
 rw[h.length]
 exact(h.drop _).take _
theorem X1{α:Type}{xs:KE α}{lo hi:tY Int}(h1:HT.sIx xs.length 0 lo=0)(h2:HT.sIx xs.length xs.length hi=xs.length):Nl xs lo hi=xs:=by
 unfold Nl
 rw[h1,h2]
 simp
noncomputable def wSl(lo hi:tY Int):Op1:=λw=>match w with
 | .val (.tup ds)=>Gc (.val (.tup (Nl ds lo hi)))
 | .val (.str z)=>if z.length<=sizeLine then Gc (.val (.str (Txt.slice z lo hi)))else none
 |w=>(asL w).map λds=>.own (Nl ds lo hi)
def qi(K:tU):V->tY Int->tY Int->Hp->VK->Prop:=λx lo hi H Q=>∃M w r,wSl lo hi w=Gc r/\MOk M H/\Sh K M H x w/\∀v H',Nw K M H H' v r->Q v H'
theorem kG{X:Cx}:SlR X (λx lo hi H Q=>∃z,x=.str z/\z.length<=sizeLine/\Q (.str (Txt.slice z lo hi)) H):=by
 intro pins s σ H x v vl vu lo hi sl Q I rx hs pl pu h
 obtain⟨z,rfl,hz,q⟩:=h
 obtain⟨t,rfl⟩:=rx
 have fin:∀t' k,EP X pins σ Q (.str (Txt.slice z lo hi) t') {s with toks:=k}:=λt' k=>⟨.str _,H,I.tok k,⟨t',rfl⟩,q⟩
 cases pl with
 |none=>
  cases pu with
  |none=>exact⟨"str",_,xT.lookup,AAS _ _ _,xW (l:=none) (u:=none) (st:=none) hs rfl (zL ⟨uA (AAY z _ _) hz,fin⟩)⟩
  |int j u=>exact⟨"str",_,xT.lookup,AAS _ _ _,xW (l:=none) (u:=Gc (j,u)) (st:=none) hs rfl (zL ⟨uA (AAY z _ _) hz,fin⟩)⟩
 |int i u'=>
  cases pu with
  |none=>exact⟨"str",_,xT.lookup,AAS _ _ _,xW (l:=Gc (i,u')) (u:=none) (st:=none) hs rfl (zL ⟨uA (AAY z _ _) hz,fin⟩)⟩
  |int j u=>exact⟨"str",_,xT.lookup,AAS _ _ _,xW (l:=Gc (i,u')) (u:=Gc (j,u)) (st:=none) hs rfl (zL ⟨uA (AAY z _ _) hz,fin⟩)⟩
theorem nH{X:Cx}:SlR X (qi X.K):=by
 intro pins s σ H x v vl vu lo hi sl Q I rx hs pl pu h
 obtain⟨M,w,r,e,mo,sh,q⟩:=h
 unfold wSl at e
 split at e
 .rename_i ds
  cases e
  cases sh with
  |tup hx rr=>
   rename_i a xs
   have hl:=rr.length
   by_cases hw:HT.sIx xs.length 0 lo=0/\HT.sIx xs.length xs.length hi=xs.length
   .refine St.iF pins s σ H _ v vl vu lo hi sl Q I rx hs pl pu ⟨a,xs,rfl,hx,hw.1,hw.2,?_⟩
    have ew:Nl ds lo hi=ds:=X1 (by rw[<-hl];exact hw.1) (by rw[<-hl];exact hw.2)
    rw[ew]at q
    exact q _ _ (.same mo (.tup hx rr))
   .exact jW pins s σ H _ v vl vu lo hi sl Q I rx hs pl pu ⟨a,xs,rfl,hx,hw,λp hp=>q _ _ (.tup mo hp (Wi rr lo hi))⟩
 .split at e
  .cases e
   cases sh
   exact kG pins s σ H _ v vl vu lo hi sl Q I rx hs pl pu ⟨_,rfl,by assumption,q _ _ (.same mo (.str _))⟩
  .cases e
 .cases e1:asL w with
  |none=>rw[e1]at e;cases e
  |some ds=>
   rw[e1]at e
   cases e
   obtain⟨a,xs,rfl,h1,rr⟩:=sh.l e1
   exact fw pins s σ H _ v vl vu lo hi sl Q I rx hs pl pu ⟨a,xs,rfl,.of h1,λp hp=>q _ _ (.lst mo hp (Wi rr lo hi))⟩
noncomputable def gn:Wv->tY Int
 | .val (.int i)=>Gc i
 |_=>none
noncomputable def Oc(l h:uv):OpN:=λws=>match l,h,ws with
 |false,false,[a]=>wSl none none a
 |true,false,[a,b]=>(gn b).bind λi=>wSl (Gc i) none a
 |false,true,[a,b]=>(gn b).bind λi=>wSl none (Gc i) a
 |true,true,[a,b,c]=>(gn b).bind λi=>(gn c).bind λj=>wSl (Gc i) (Gc j) a
 |_,_,_=>none
theorem XI{K:tU}{M:Ms}{H:Hp}{v:V}{w:Wv}{i:Int}(s:Sh K M H v w)(e:gn w=Gc i):v=.int i:=by
 cases w with
 |own ds=>cases e
 |val d=>
  cases d<;>first|(cases e;done)|skip
  cases e;cases s;rfl
section
variable{X:Cx}{e lo hi:ui}{oe ol oh:Ev}{c:uv}{pos p2:Pos}
theorem L0(h:DE X e oe)(hl:DE X lo ol):DE X (.Subscript e (.Slice (Gc lo) none none p2) pos) (Qw c (Oc true false) [oe,ol]):=⟨Bi (QO nH h.pe (Q0 hl.pe) WY) λσ H Q z=>by
 obtain⟨M0,E,S0,w,S1,e,r,st,q⟩:=z
 have z:tD X.K oe σ H λx H1=>tD X.K ol σ H1 λy H2=>rN X.K (Oc true false) [x,y] H2 Q:=OC (Q:=Q) e r st q
 refine Km z λx H1 z1=>Km z1 λy H2 z2=>?_
 obtain⟨M,ws,w',e1,mo,sh,q1⟩:=z2
 cases sh with
 |cons h1 t=>
  cases t with
  |cons h2 t=>
   cases t
   obtain⟨i,ei,e1⟩:=A5 e1
   exact⟨i,XI h2 ei,M,_,w',e1,mo,h1,q1⟩⟩
theorem Lz(h:DE X e oe)(hh:DE X hi oh):DE X (.Subscript e (.Slice none (Gc hi) none p2) pos) (Qw c (Oc false true) [oe,oh]):=⟨Bi (QO nH h.pe WY (Q0 hh.pe)) λσ H Q z=>by
 obtain⟨M0,E,S0,w,S1,e,r,st,q⟩:=z
 have z:tD X.K oe σ H λx H1=>tD X.K oh σ H1 λy H2=>rN X.K (Oc false true) [x,y] H2 Q:=OC (Q:=Q) e r st q
 refine Km z λx H1 z1=>Km z1 λy H2 z2=>?_
 obtain⟨M,ws,w',e1,mo,sh,q1⟩:=z2
 cases sh with
 |cons h1 t=>
  cases t with
  |cons h2 t=>
   cases t
   obtain⟨i,ei,e1⟩:=A5 e1
   exact⟨i,XI h2 ei,M,_,w',e1,mo,h1,q1⟩⟩
theorem Xs{K:tU}{M:Ms}{H:Hp}{S:Sto}{v:V}{d:D}{i:Int}(r:Ed K M H v d)(e:gn (dr S d)=Gc i):v=.int i:=by
 cases r<;>first|(cases e;done)|skip
 .cases e;rfl
 .rename_i n h
  unfold dr at e
  dsimp only at e
  split at e<;>cases e
theorem fM(h:DE X e oe)(hl:DE X lo ol)(hh:DE X hi oh):DE X (.Subscript e (.Slice (Gc lo) (Gc hi) none p2) pos) (Qw c (Oc true true) [oe,ol,oh]):=⟨Bi (QO nH h.pe (Q0 hl.pe) (Q0 hh.pe)) λσ H Q z=>by
 obtain⟨M0,E,S0,w,S1,e,r,st,q⟩:=z
 obtain⟨⟨ds,S2⟩,e1,e⟩:=A5 e
 obtain⟨w2,e2,e⟩:=A5 e
 obtain⟨⟨d1,Sa⟩,ea,e1⟩:=A5 e1
 obtain⟨⟨ds1,Sb⟩,eb,e1⟩:=Lp e1
 cases e1
 obtain⟨⟨d2,Sc⟩,ec,eb⟩:=A5 eb
 obtain⟨⟨ds2,Sd⟩,ed,eb⟩:=Lp eb
 cases eb
 obtain⟨⟨d3,Se⟩,ee,ed⟩:=A5 ed
 obtain⟨⟨ds3,Sf⟩,ef,ed⟩:=Lp ed
 cases ed
 cases ef
 obtain⟨i,ei,e2⟩:=A5 e2
 obtain⟨j,ej,e2⟩:=A5 e2
 refine⟨M0,E,S0,d1,Sa,ea,r,st,λx H1 M1 g1 st1 r1=>?_⟩
 refine⟨M1,E,Sa,d2,Sc,ec,r.step g1.st,st1,λy H2 M2 g2 st2 r2=>⟨i,?_,?_⟩⟩
 .exact Xs r2 ei
 refine⟨M2,E,Sc,d3,Se,ee,(r.step g1.st).step g2.st,st2,λu H3 M3 g3 st3 r3=>⟨j,?_,?_⟩⟩
 .exact Xs r3 ej
 refine⟨M3,_,w2,e2,st3.mo,da st3 ((r1.step g2.st).step g3.st),λv H4 n=>?_⟩
 obtain⟨M4,g4,st4,d4⟩:=n.fin st3 e
 exact q v H4 M4 (((g1.trans g2).trans g3).trans g4) st4 d4⟩
structure Sk(K:tU)(mg:Str->tY tW)(x:Str)(d:D):Prop where
 ex:∃v u,mg x=Gc u/\RelV v u/\∀M H,Ed K M H v d
theorem KY{x:Str}{d:D}(c:Sk X.K X.mg x d)(hg:Gl X x)(hd:(x==("__debug__":Str))=false:=by decide):DE X (.Name x pos) (eC d):=⟨by
 obtain⟨v,u,h1,h2,h3⟩:=c.ex
 exact Bi (eJ hg h1 h2 hd) λσ H Q z=>by
  obtain⟨M0,E,S0,w,S1,e,rr,st,q⟩:=z
  cases e
  exact q _ _ M0 (.refl st.mo) st (h3 _ _)⟩
theorem gu{x:Str}{T:xD}(hg:Gl X x)(hm:X.mg x=none)(hv:bootBuiltins x=Gc (.type T))(hn:x≠ "__name__":=by decide)(hd:(x==("__debug__":Str))=false:=by decide):DE X (.Name x pos) (eC (.ty T)):=
 SG (ff (v:=.ty T) hg hm hv rfl hn hd) λ_ _ _=>.ty T
structure tR(K:tU)(w:ur)(mg:Str->tY tW)(x:Str)(tbl:KE (Str×D)):Prop where
 ex:∃a kvs,mg x=Gc (.ref a)/\TopD K w a kvs/\∀k,(tbl.lookup k=none->kvs.lookup k=none)/\∀d,tbl.lookup k=Gc d->∃v,kvs.lookup k=Gc v/\∀M H,Ed K M H v d
end
noncomputable def NI:Nat->KE D->KE D
 |_,[]=>[]
 |k,d::ds=>.tup [.int k,d]::NI (k+1) ds
theorem M9:∀{ds:KE D} {k i:Nat},(NI k ds)[i]?=(ds[i]?).map λd=>.tup [.int ((k+i:Nat):Int),d]
 | [],k,i=>by simp[NI]
 |d::ds,k,0=>by simp[NI]
 |d::ds,k,i+1=>by
  simp only[NI,List.getElem?_cons_succ]
  rw[M9,show k+1+i=k+(i+1) by lia]
theorem QT:∀{ds:KE D} {k:Nat},(NI k ds).length=ds.length
 | [],k=>rfl
 |d::ds,k=>by simp[NI,QT (ds:=ds)]
theorem SqF.sqB{K:tU}{M:Ms}{H:Hp}{gs:Gd}{k:uv}{a:uC}{ds:KE D}(h:SqF K M H gs k a ds){H2:Hp}{M2:Ms}{S2:Sto}(g:Sp1 M H M2 H2)(st:StR K M2 S2 H2)(ok:gOk gs S2):∃xs,SqB K H2 k a xs/\A6 K M2 H2 xs ds:=by
 obtain⟨xs,h1,h2⟩:=h.keep H2 M2 S2 g st ok
 refine⟨xs,?_,h2⟩
 cases k with
 |true=>exact h1
 |false=>exact h1
theorem iB{K:tU}{M:Ms}{H:Hp}{gs:Gd}{k:uv}{a:uC}{ds:KE D}(h:SqF K M H gs k a ds):iU K M H gs (NI 0 ds) (ItE K k a) where
 go:=λi H2 M2 S2 g st ok hi=>by
  rw[QT]at hi
  obtain⟨xs,h1,h2⟩:=h.sqB g st ok
  obtain⟨x,hx⟩:=h2.get' hi
  exact⟨xs,x,h1,hx⟩
 stop:=λi H2 M2 S2 g st ok hi=>by
  rw[QT]at hi
  obtain⟨xs,h1,h2⟩:=h.sqB g st ok
  exact⟨xs,h1,by have:=h2.length;lia⟩
 yld:=λi H2 M2 S2 x H3 d g st ok hd hy=>by
  obtain⟨xs,h1,h2⟩:=h.sqB g st ok
  obtain⟨p,y,hp,rfl,hy,rfl⟩:=hy
  have hx:=hy xs h1
  rw[M9]at hd
  obtain⟨d0,e,hd⟩:=Lp hd
  subst hd
  obtain⟨x',h3,h4⟩:=h2.get e
  rw[hx]at h3;cases h3
  have k3:=IS (o:=.tup [.int i,y]) hp
  refine⟨k3,.tup (.of BM) (.cons ?_ (.cons (h4.step (Gr.grow st.mo k3).st) .nil))⟩
  rw[yK]
  exact .int _
noncomputable def UA(f:Ev):Sr:=λE S=>(f E S).bind λr=>(sqD r.2 r.1).map λp=>((NI 0 p.1,p.2),r.2)
theorem Oe{X:Cx}{a:ui}{f:Ev}{p pos tp:Pos}{elts:KE ui}{k:Nat}(hg:Gl X "enumerate")(hm:X.mg "enumerate"=none)(ha:DE X a f)(hs:uW [a] X.env=[(false,eval a X.env)]:=by rfl):DI X (.Tuple elts k tp) (.Call (.Name "enumerate" p) [a] [] pos) (UA f):=⟨
 Qh (aU hg hm (Qb ha.pe Yc (by rw[hs];rfl)) hs) λσ H R z=>by
  obtain⟨M,E,S,ds,gs,S',e,r,st,q⟩:=z
  obtain⟨⟨d,S1⟩,e1,e⟩:=A5 e
  obtain⟨⟨ds',gs'⟩,e2,e⟩:=Lp e
  cases e
  refine⟨M,E,S,d,S1,e1,r,st,λv H1 M1 g1 st1 r1=>?_⟩
  obtain⟨k,a,rfl,sq⟩:=T6 st1 r1 e2
  obtain⟨xs,hs,_⟩:=sq.sqB (Gr.refl st1.mo).st st1 (QQ e2)
  exact⟨k,a,rfl,⟨xs,hs⟩,q _ _ M1 g1 st1 (iB sq)⟩⟩
noncomputable def Pm(ds es:KE D):KE D:=(ds.zip es).map λp=>.tup [p.1,p.2]
theorem aE{ds es:KE D}{i:Nat}{d:D}(h:(Pm ds es)[i]?=Gc d):∃x y,ds[i]?=Gc x/\es[i]?=Gc y/\d=.tup [x,y]:=by
 unfold Pm at h
 simp only[uN,AAV]at h
 obtain⟨⟨x,y⟩,h1,h2⟩:=h
 rw[zg]at h1
 exact⟨x,y,h1.1,h1.2,h2.symm⟩
theorem NO{ds es:KE D}:(Pm ds es).length=min ds.length es.length:=by simp[Pm]
theorem SqF.more{K:tU}{M:Ms}{H:Hp}{gs gs':Gd}{k:uv}{a:uC}{ds:KE D}(h:SqF K M H gs k a ds)(s:∀g∈gs,g∈gs'):SqF K M H gs' k a ds:=⟨λH2 M2 S2 g st ok=>h.keep H2 M2 S2 g st λx hx=>ok x (s x hx)⟩
theorem ip{K:tU}{M:Ms}{H:Hp}{gs:Gd}{k m:uv}{a b:uC}{ds es:KE D}(h:SqF K M H gs k a ds)(h':SqF K M H gs m b es):iU K M H gs (Pm ds es) (Itz K k a m b) where
 go:=λi H2 M2 S2 g st ok hi=>by
  rw[NO]at hi
  obtain⟨xs,h1,r⟩:=h.sqB g st ok
  obtain⟨ys,h2,r'⟩:=h'.sqB g st ok
  obtain⟨x,hx⟩:=r.get' (show i<ds.length by lia)
  obtain⟨y,hy⟩:=r'.get' (show i<es.length by lia)
  exact⟨xs,ys,x,y,h1,h2,hx,hy⟩
 stop:=λi H2 M2 S2 g st ok hi=>by
  rw[NO]at hi
  obtain⟨xs,h1,r⟩:=h.sqB g st ok
  obtain⟨ys,h2,r'⟩:=h'.sqB g st ok
  have:=r.length
  have:=r'.length
  exact⟨xs,ys,h1,h2,by lia⟩
 yld:=λi H2 M2 S2 x H3 d g st ok hd hy=>by
  obtain⟨xs,h1,r⟩:=h.sqB g st ok
  obtain⟨ys,h2,r'⟩:=h'.sqB g st ok
  obtain⟨p,x1,y1,hp,rfl,q1,q2,rfl⟩:=hy
  obtain⟨d1,d2,e1,e2,rfl⟩:=aE hd
  have hx:=q1 xs h1
  have hy:=q2 ys h2
  obtain⟨x',h3,h4⟩:=r.get e1
  obtain⟨y',h5,h6⟩:=r'.get e2
  rw[hx]at h3;cases h3
  rw[hy]at h5;cases h5
  have k3:=IS (o:=.tup [x1,y1]) hp
  exact⟨k3,.tup (.of BM) (.cons (h4.step (Gr.grow st.mo k3).st) (.cons (h6.step (Gr.grow st.mo k3).st) .nil))⟩
noncomputable def fI(f g:Ev):Sr:=λE S=>(evs [f,g] E S).bind λr=>match r.1 with
 | [d,e]=>(sqD r.2 d).bind λp=>(sqD r.2 e).map λq=>((Pm p.1 q.1,p.2++q.2),r.2)
 |_=>none
theorem Uy{X:Cx}{a b:ui}{f g:Ev}{p pos tp:Pos}{elts:KE ui}{k:Nat}(hg:Gl X "zip")(hm:X.mg "zip"=none)(ha:DE X a f)(hb:DE X b g)(hs:uW [a,b] X.env=[(false,eval a X.env),(false,eval b X.env)]:=by rfl)(hs2:uW [b] X.env=[(false,eval b X.env)]:=by rfl):DI X (.Tuple elts k tp) (.Call (.Name "zip" p) [a,b] [] pos) (fI f g):=⟨
 Qh (jc hg hm (AA ha (AA hb AE hs2) (by rw[hs,hs2])).pe hs hs2) λσ H R z=>by
  obtain⟨M,E,S,ds,gs,S',e,r,st,q⟩:=z
  obtain⟨⟨ws,S1⟩,e1,e⟩:=A5 e
  refine JF (fs:=[f,g]) e1 r st λvs H1 M1 g1 st1 r1=>?_
  dsimp only at e
  split at e
  .obtain⟨⟨ds1,gs1⟩,eu,e⟩:=A5 e
   obtain⟨⟨ds2,gs2⟩,ee,e⟩:=Lp e
   cases e
   cases r1 with
   |cons h1 t=>
    cases t with
    |cons h2 t=>
     cases t
     obtain⟨k1,a1,rfl,s1⟩:=T6 st1 h1 eu
     obtain⟨k2,a2,rfl,s2⟩:=T6 st1 h2 ee
     obtain⟨xs,hxs,_⟩:=s1.sqB (Gr.refl st1.mo).st st1 (QQ eu)
     obtain⟨ys,hys,_⟩:=s2.sqB (Gr.refl st1.mo).st st1 (QQ ee)
     exact⟨_,_,_,_,rfl,⟨_,hxs⟩,⟨_,hys⟩,q _ _ M1 g1 st1 (ip (s1.more λx hx=>xJ _ hx) (s2.more λx hx=>uw _ hx))⟩
  .cases e⟩
noncomputable def intD:D->tY Int
 | .int i=>Gc i
 |_=>none
noncomputable def LQ(ds:KE D):tY (KE Int):=ds.mapM intD
theorem LK{K:tU}{M:Ms}{H:Hp}:∀{vs:KE V} {ds:KE D} {ns:KE Int},A6 K M H vs ds->LQ ds=Gc ns->vs=ns.map V.int
 |_,_,ns,.nil,e=>by cases e;rfl
 |_,_,ns,.cons (d:=d) (ds:=ds) h t,e=>by
  unfold LQ at e
  rw[List.mapM_cons]at e
  cases e1:intD d with
  |none=>rw[e1]at e;cases e
  |some b=>
   rw[e1]at e
   cases e2:ds.mapM intD with
   |none=>rw[e2]at e;cases e
   |some cs=>
    rw[e2]at e
    cases e
    have hd:d=.int b:=by
     cases d<;>first|(cases e1;done)|skip
     cases e1;rfl
    subst hd
    cases h
    rw[t8,<-LK t e2]
theorem XJ{X:Cx}(hc:X.calm=true):Fi X (.builtin "sum") (λxs H Q=>∃(p:uC) (ns:KE Int),xs=[.ref p]/\SqL X.K H p (ns.map V.int)/\Q (.int ns.sum) H):=by
 intro pins s σ H xs us Q I r h
 obtain⟨p,ns,rfl,hp,q⟩:=h
 obtain⟨u,rfl,ru⟩:=r.one
 cases (show u=vN p from ru)
 obtain⟨its,rv,pl,hz⟩:=I.list hp
 have hd:X.A.in1.handled=none:=I.ok.hd hc
 refine call_sum_walkG (v8 pl.isList ?_)
 have hlen:ns.length=its.length:=by have:=rv.length;simpa using this
 have hpl:=pl.isList
 have hlt:p<s.heap.objs.size:=by
  obtain⟨o,ho,_⟩:=hpl
  exact uK ho
 refine⟨s.heap.objs.size,_,_,its.length,_,_,λi=>ns.getD i 0,rfl,St.Vb (vs:=its) hd (uR hlt),⟨⟨_,uH _ rfl,rfl,rfl⟩,?_⟩,?_,?_,?_⟩
 .obtain⟨o,ho,r⟩:=hpl
  exact⟨o,tV _ ho,r⟩
 .intro b hb
  rw[uo]
  simp at hb
  rcases hb with h|h
  .rw[h];exact wk _
  .rw[h];exact vX hlt
 .intro i v hv
  have hi:i<its.length:=(uI.mp hv).1
  have hb:(ns.map V.int)[i]?=Gc (.int (ns.getD i 0)):=by
   rw[uN,t7 (by lia)]
   simp[tu,t7 (show i<ns.length by lia)]
  obtain⟨u,hu,ru⟩:=rv.get hb
  rw[hv]at hu
  cases hu
  exact ru
 .intro h' tk t' hk
  have e:preSum (λi=>ns.getD i 0) its.length=ns.sum:=by
   rw[<-hlen,St.Nj (tw _),vn (tw _)]
  rw[e]
  exact⟨.int _,H,I.kept (t':=tk) λb o eb=>hk b o (by simp;exact uR (uK eb)) (tV _ eb),⟨_,rfl⟩,q⟩
noncomputable def XW:Op1:=λw=>(asL w).bind λds=>(LQ ds).map λns=>.val (.int ns.sum)
theorem JP{X:Cx}(hc:X.calm=true):Fi X (.builtin "sum") (rN X.K (o1 XW)):=by
 intro pins s σ H xs us Q I r h
 obtain⟨M,ws,w,e,mo,sh,q⟩:=h
 obtain⟨v,w1,rfl,rfl,s1,e1⟩:=KZ sh e
 obtain⟨ds,e2,e1⟩:=A5 e1
 obtain⟨ns,e3,e1⟩:=Lp e1
 cases e1
 obtain⟨a,ys,rfl,h3,h4⟩:=s1.l e2
 exact XJ hc pins s σ H _ us Q I r ⟨a,ns,rfl,by rw[<-LK h4 e3];exact .of h3,q _ _ (.same mo (.int _))⟩
noncomputable def HE(ns:KE Int):KE Int:=ns.mergeSort (λa b=>decide (a<=b))
theorem GZ(ns:KE Int):(HE ns).Perm ns:=List.mergeSort_perm _ _
theorem Pt(ns:KE Int):(HE ns).Pairwise (· <= ·):=by
 have:=List.pairwise_mergeSort (le:=λ(a b:Int)=>decide (a<=b)) (λa b c h1 h2=>by simp at *; lia) (λa b=>by simp;lia) ns
 unfold HE
 exact this.imp λh=>uO h
theorem J4{ns ms:KE Int}(p:ms.Perm ns)(s:ms.Pairwise (· <= ·)):ms=HE ns:=PySem.W.ksm_same (p.trans (GZ ns).symm) s (Pt ns)
theorem intsAre_of:∀{ns:KE Int} {its:KE tW},Vals (ns.map V.int) its->wM its ns
 | [],_,.nil=>.nil
 |n::ns,_,.cons h t=>by
  obtain⟨tk,rfl⟩:=h
  exact .cons n tk (intsAre_of t)
theorem F3:∀{ns:KE Int} {its:KE tW},wM its ns->Vals (ns.map V.int) its
 |_,_,.nil=>.nil
 |_,_,.cons n tk t=>.cons ⟨tk,rfl⟩ (F3 t)
theorem SO{X:Cx}:Fi X (.builtin "sorted") (λxs H Q=>∃(p:uC) (ns:KE Int),xs=[.ref p]/\SqL X.K H p (ns.map V.int)/\ns.length<64/\∀q,H q=none->Q (.ref q) (upd H q (.lst ((HE ns).map V.int)))):=by
 intro pins s σ H xs us Q I r h
 obtain⟨p,ns,rfl,hp,h64,q⟩:=h
 obtain⟨u,rfl,ru⟩:=r.one
 cases (show u=vN p from ru)
 obtain⟨its,rv,pl,hz⟩:=I.list hp
 have hlen:ns.length=its.length:=by have:=rv.length;simpa using this
 refine PyProof.Rows.sorted_ints pl.isList (intsAre_of rv) (by lia) λout ns' a1 a2 a3=>?_
 obtain⟨e,he⟩:=PyProof.Rows.sortedAll_at s.heap its out
 have hn:H (s.heap.objs.size+1)=none:=I.hok.fresh (zw _)
 have hs:=J4 a2 a3
 subst hs
 refine⟨.ref _,_,I.laid (a:=s.heap.objs.size+1) (o:=.lst ((HE ns).map V.int)) (t':=s.toks) (λ_ _=>PyProof.Rows.sortedAll_old) (zw _) ?_,rfl,q _ hn⟩
 refine⟨?_,out.toList,e,F3 a1,?_⟩
 .rw[uX,(GZ ns).length_eq]
  have:(64:Nat)<=sizeLine:=by decide
  lia
 .rw[yB];exact he
noncomputable def Qe:Op1:=λw=>(asL w).bind λds=>(LQ ds).bind λns=>if ns.length<64 then Gc (.own ((HE ns).map D.int))else none
theorem SE{X:Cx}:Fi X (.builtin "sorted") (rN X.K (o1 Qe)):=by
 intro pins s σ H xs us Q I r h
 obtain⟨M,ws,w,e,mo,sh,q⟩:=h
 obtain⟨v,w1,rfl,rfl,s1,e1⟩:=KZ sh e
 obtain⟨ds,e2,e1⟩:=A5 e1
 obtain⟨ns,e3,e1⟩:=A5 e1
 split at e1
 .cases e1
  obtain⟨a,ys,rfl,h3,h4⟩:=s1.l e2
  exact SO pins s σ H _ us Q I r ⟨a,ns,rfl,by rw[<-LK h4 e3];exact .of h3,by assumption,λp hp=>q _ _ (.lst mo hp Ic)⟩
 .cases e1
theorem P6(l:uC)(items:uu tW)(n:Nat)(b:uC)(items2:uu tW)(n2:Nat)(dd:tY uC)(sl:uu (tY tW))(hs0:¬(!items.isEmpty && vw (items.size+items2.size))=true)(hs1:items.size<=sizeLine)(hs2:items.size+items2.size<=sizeLine+1):Meets (wJ.«list.extend» ⟨[.ref l,.ref b],[]⟩) (λ_ R s=>s.heap.get? l=Gc {cls:=.type "list",dict:=none,data:=.seq items n,slots:= #[]}/\s.heap.get? b=Gc {cls:=.type "tuple",dict:=dd,data:=.seq items2 n2,slots:=sl}/\R (.ok (.ret wQ)) {s with heap:=s.heap.update l (vt λx=>x++items2),toks:=s.toks}):=
 .of_wp λprog w A R s h=>by
  obtain⟨hp,g,d,tk,os⟩:=s;obtain⟨hl,hb,h⟩:=h;have f1:=AutoSeq1.idx_int;have f2:=AutoSeq1.sub_tuple_tuple;have f3:=AutoSeq1.sub_list_list;have f4:=AutoSeq1.sub_tuple_list;have f5:=AutoSeq1.sub_list_tuple
  have hz':(items++items2).size<=sizeLine+1:=by rw[Array.size_append];exact hs2
  wp_walk using(xu hl rfl (hz:=hs1) (_hz':=hz')),ua hl,ua hb;exact⟨_,rfl,h⟩
def Zg(K:tU):V->KE V->Hp->VK->Prop:=λx vs H Q=>∃l b xs zs,x=.ref l/\vs=[.ref b]/\H l=Gc (.lst xs)/\SqT K H b zs/\xs.length+zs.length<=sizeLine/\Q .non (upd H l (.lst (xs++zs)))
theorem Vh{X:Cx}:MtM X "list.extend" (Zg X.K):=by
 intro pins s σ H x vs v us Q I rx rv h
 obtain⟨l,b,xs,zs,rfl,rfl,hH,hB,hz,q⟩:=h
 cases rx
 obtain⟨u,rfl,ru⟩:=rv.one
 cases ru
 obtain⟨z,its,n,r,hl,e⟩:=I.cj hH
 obtain⟨its2,r2,⟨⟨c,dd,dt,sl⟩,e2,hc,n2,hd⟩,z2⟩:=I.tuple hB
 simp only at hc hd
 subst hc hd
 have hl2:=r2.length
 have hsz:its.toArray.size+its2.toArray.size<=sizeLine:=by rw[uM,uM];lia
 have hlong:¬(!its.toArray.isEmpty && vw (its.toArray.size+its2.toArray.size))=true:=by
  rw[QY hsz,Bool.and_false]
  exact vC
 refine yx zA ⟨_,e,rfl⟩ ABK (AAx _ _)
  (P6 l its.toArray n b its2.toArray n2 dd sl hlong (by rw[uM];lia) (by lia)) ⟨e,e2,?_⟩
 refine⟨.non,_,I.oF (its':=its++its2) hH e (by simp) (r.append r2) ?_,rfl,q⟩
 rw[vL]
 lia
noncomputable def mD:Mo
 |S,ds,[x]=>match dr S x with
  | .val (.tup zs)=>if ds.length+zs.length<=sizeLine then Gc (.non,ds++zs)else none
  |w=>(asL w).bind λzs=>if ds.length+zs.length<=sizeLine then Gc (.non,ds++zs)else none
 |_,_,_=>none
theorem eg{X:Cx}:MtR X "list.extend" (kK X.K mD):=by
 intro pins s σ H x vs v us Q I rx rv h
 obtain⟨M,S,n,a,ds,args,d,ds',rfl,hc,hn,e,st,ra,q⟩:=h
 unfold mD at e
 split at e
 .obtain⟨xs,h1,h2⟩:=st.cell n a _ hc hn
  obtain⟨y,rfl,ry⟩:=Uj ra
  have sy:=da st ry
  split at e
  .rename_i ed
   rw[ed]at sy
   split at e
   .rename_i hz
    cases e
    cases sy with
    |tup hx rr=>
     obtain⟨st2,g2⟩:=st.chg hc hn (h2.append rr)
     exact Vh pins s σ H _ _ v us Q I rx rv ⟨a,_,xs,_,rfl,rfl,h1,hx,by rw[h2.length,rr.length];exact hz,q _ _ st2 g2 .non⟩
   .cases e
  .obtain⟨zs,e1,e⟩:=A5 e
   split at e
   .rename_i hz
    cases e
    obtain⟨b,ys,rfl,h3,h4⟩:=sy.l e1
    obtain⟨st2,g2⟩:=st.chg hc hn (h2.append h4)
    exact Xo pins s σ H _ _ v us Q I rx rv ⟨a,b,xs,ys,rfl,rfl,h1,h3,by rw[h2.length,h4.length];exact hz,q _ _ st2 g2 .non⟩
   .cases e
 .cases e
theorem Za{X:Cx}:OpR X (binaryOp .Mult) (λx y H Q=>∃a xs k,x=.ref a/\y=.int k/\SqT X.K H a xs/\xs≠[]/\k<=0/\ -(2^63)<=k/\∀p,H p=none->Q (.ref p) (upd H p (.tup []))):=by
 intro pins s σ H x y v u Q I rx ry h
 obtain⟨a,xs,k,rfl,rfl,hx,hne,hk,hk2,q2⟩:=h
 cases rx
 obtain⟨t,rfl⟩:=ry
 obtain⟨its,r,⟨⟨c,dd,data,sl⟩,ho,hc,n,hd⟩,hzz⟩:=I.tuple hx
 simp only at hc hd
 subst hc hd
 have hl:=r.length
 have hpos:0<xs.length:=ABL.mpr hne
 refine yM (T:="tuple") (U:="int") (by decide) ⟨_,ho,rfl⟩ (λs'=>yw s' k t) Iy AAk xr Mb AAJ.lookup
  (yx xr (yw s k t) AAK (zu _ _) (KG k t a its.toArray n dd sl) ⟨ho,rfl,⟨_,ho,rfl⟩,?_⟩)
 refine u9 yz ⟨_,ho,rfl⟩ F.entry_tuple_mul ?_ (ABZ _ _)
 unfold wJ.«tuple.__mul__»
 wp_walk using ua ho
 rw[uh (show¬(decide (k< -2^63)||decide (k≥2^63))=true by
  rw[vc]
  rintro (z|z)
  .have:=uO z;lia
  .have:=uO z;lia)]
 wp_walk using ua ho
 have hemp:its.toArray.isEmpty=false:=by
  cases its with
  |nil=>rw[yU]at hl;lia
  |cons b bs=>rfl
 rw[uh (show¬(its.toArray.isEmpty||k==1)=true by
  rw[hemp,Bool.false_or]
  intro z
  have:=eq_of_beq z
  lia)]
 wp_walk using ua ho
 all_goals first
  |exact⟨_,rfl,.ref _,_,I.laid (o:=.tup []) (t':=s.toks) (λb ob q=>tV _ q) (tw _) ⟨ve _,[],.nil,yN _ _⟩,rfl,q2 _ (I.hok.fresh (tw _))⟩
  |(exfalso
    rename_i hh
    exact hh (by rw[vc];exact .inl (wK hk)))
noncomputable def C7:Op2:=λa b=>match a,b with
 | .val (.tup xs),.val (.int k)=>if(!xs.isEmpty && decide (k<=0) && decide (-(2^63)<=k))=true then Gc (.val (.tup []))else kf (.val (.tup xs)) (.val (.int k))
 |a,b=>kf a b
theorem A4{X:Cx}:OpR X (binaryOp .Mult) (rOp X.K C7):=by
 intro pins s σ H x y v u Q I rx ry h
 obtain⟨M,w1,w2,r,e,mo,s1,s2,q⟩:=h
 unfold C7 at e
 split at e
 .split at e
  .rename_i xs k hk
   rw[uP,uP]at hk
   cases e
   cases s2
   cases s1 with
   | @tup a ys _ h1 r1=>
     have hne:ys≠[]:=λzz=>by
      subst zz
      cases r1
      exact absurd hk.1.1 (by decide)
     exact Za pins s σ H _ _ v u Q I rx ry ⟨a,ys,k,rfl,rfl,h1,hne,uO hk.1.2,uO hk.2,λp hp=>q _ _ (.tup mo hp .nil)⟩
  .exact Xm pins s σ H x y v u Q I rx ry ⟨M,_,_,r,e,mo,s1,s2,q⟩
 .exact Xm pins s σ H x y v u Q I rx ry ⟨M,_,_,r,e,mo,s1,s2,q⟩
theorem X7{A:u5}{k:Nat}(hr:Ol k A):A.units+100<cLine:=by have:=hr.un;lia
section
variable{P:uT}{w:ur}{K:tU}{mg:Str->tY tW}{base:uz}
end
noncomputable def scE:Nat->ui->KE xC
 |0,_=>[]
 |n+1,.ListComp e gs s _=>s::(gs.flatMap λg=>scE n g.iter)++scE n e++(gs.flatMap λg=>g.ifs.flatMap (scE n))
 |n+1,.BoolOp _ vs _=>vs.flatMap (scE n)
 |n+1,.Call f as _ _=>scE n f++as.flatMap (scE n)
 |n+1,.BinOp a _ b _=>scE n a++scE n b
 |n+1,.UnaryOp _ a _=>scE n a
 |n+1,.Compare a _ cs _=>scE n a++cs.flatMap (scE n)
 |n+1,.Subscript a b _=>scE n a++scE n b
 |n+1,.Tuple es _ _=>es.flatMap (scE n)
 |n+1,.List es _=>es.flatMap (scE n)
 |n+1,.IfExp c a b _=>scE n c++scE n a++scE n b
 |n+1,.Dict _ vs _=>vs.flatMap (scE n)
 |n+1,.Slice a b c _=>(a.toList++b.toList++c.toList).flatMap (scE n)
 |n+1,.Attribute v _ _=>scE n v
 |_,_=>[]
noncomputable def scS:Nat->vE->KE xC
 |0,_=>[]
 |n+1,.Return (Gc e) _=>scE 30 e
 |n+1,.Assign ts e _=>ts.flatMap (scE 30)++scE 30 e
 |n+1,.AugAssign t _ e _=>scE 30 t++scE 30 e
 |n+1,.Expr e _=>scE 30 e
 |n+1,.If t a b _=>scE 30 t++a.flatMap (scS n)++b.flatMap (scS n)
 |n+1,.For _ it a b _=>scE 30 it++a.flatMap (scS n)++b.flatMap (scS n)
 |n+1,.While t a b _=>scE 30 t++a.flatMap (scS n)++b.flatMap (scS n)
 |_,_=>[]
noncomputable def IJ(st:vE)(k:Nat):xC:=((Hb st).flatMap (scS 20)).getD k (AH st)
structure tM(P:uT)(w:ur)(K:tU)(mg:Str->tY tW)(base:uz)(x:Str)(k np:Nat)(tbl:KE (Str×Fn)):Prop where
 ex:∃a kvs,mg x=Gc (.ref a)/\TopD K w a kvs/\∀p G,tbl.lookup p=Gc G->∃f fd ps,kvs.lookup p=Gc (.ref f)/\Rm P w K mg base CX0 k f fd ps (spD K np G)/\wt K (.ref f)=true/\Binds K fd ps []
section
variable{P:uT}{w:ur}{K:tU}{mg:Str->tY tW}{base h:uz}
theorem iI{x:Str}{st:vE}{f:uC}{oc:tW}{od an:tY uC}{osl:uu (tY tW)}{kV doc pm cdv ct:tW}(X:K.In h)(G:h.Ns mainGlobals mg)(a:PySem.W.nsIn K mainGlobals x=Gc (Gc (.ref f)))(l:K.lookup f=Gc ⟨oc,od,.func (yG x x (OQ st) (Hb st) (AH st) .none kV doc pm an cdv ct),osl⟩)(c:zV K cdv x=true)(k:wt K (.ref f)=true):St.Src K mg x st:=
 ⟨f,_,jB l c k,PySem.W.mg_of X G a⟩
def IsD(K:tU)(u:tW)(d:D):Prop:=∃v,RelV v u/\∀M H,Ed K M H v d
theorem Q3{i:Int}{t:Tok}:IsD K (.int i t) (.int i):=⟨.int i,⟨t,rfl⟩,λ_ _=>.int i⟩
theorem QP{x:Str}{t:Tok}:IsD K (.str x t) (.str x):=⟨.str x,⟨t,rfl⟩,λ_ _=>.str x⟩
theorem Ul:∀{us:KE tW} {ds:KE D},Paired (λd u=>IsD K u d) ds us->∃xs,Vals xs us/\∀M H,A6 K M H xs ds
 |_,_,.nil=>⟨[],.nil,λ_ _=>.nil⟩
 |_,_,.cons h t=>by
  obtain⟨v,h1,h2⟩:=h
  obtain⟨xs,h3,h4⟩:=Ul t
  exact⟨v::xs,.cons h1 h3,λM H=>.cons (h2 M H) (h4 M H)⟩
theorem TY{a:uC}{od:tY uC}{osl:uu (tY tW)}{its:KE tW}{n:Nat}{ds:KE D}(l:K.lookup a=Gc ⟨.type "tuple",od,.seq its.toArray n,osl⟩)(hz:its.length<=sizeLine)(r:Paired (λd u=>IsD K u d) ds its):IsD K (.ref a) (.tup ds):=by
 obtain⟨xs,h1,h2⟩:=Ul r
 exact⟨.ref a,rfl,λM H=>.tup (.inr ⟨_,its.toArray,n,l,rfl,rfl,by simpa using hz,by simpa using h1⟩) (h2 M H)⟩
theorem X8{x:Str}{u:tW}{d:D}(X:K.In h)(G:h.Ns mainGlobals mg)(e:PySem.W.nsIn K mainGlobals x=Gc (Gc u))(r:IsD K u d):Sk K mg x d:=by
 obtain⟨v,h1,h2⟩:=r
 exact⟨v,u,PySem.W.mg_of X G e,h1,h2⟩
structure tN(w:ur)(K:tU)(mg:Str->tY tW)(x:Str)(ns:KE (Str×Str)):Prop where
 ex:∃a kvs,mg x=Gc (.ref a)/\TopD K w a kvs/\Paired (λ(n:Str×Str) (q:Str×V)=>n.1=q.1/\∃f,q.2=.ref f/\mg n.2=Gc (.ref f)) ns kvs
noncomputable def eL(K:tU):Sp:=λvs H Q _=>∃(a:uC) (ns:KE Int),vs=[.ref a]/\SqL K H a (ns.map V.int)/\ns.length<=63/\∀H',Q (.bl true) H'
theorem hJ{k:Nat}{f:uC}{fd:wX}{x:Str}{F:Fn}(Fk:Rm P w K mg base CX0 k f fd [x] (spD K 1 F))(h:∀ns:KE Int,ns.length<=63->∃S,F [.scr ns] []=Gc (.bl true,S)):Rm P w K mg base CX0 k f fd [x] (eL K):=by
 refine Fk.imp λvs H Q E z=>?_
 obtain⟨a,ns,rfl,hs,hl,q⟩:=z
 obtain⟨S,e⟩:=h ns hl
 refine⟨Ms.no,[.scr ns],[],_,S,rfl,e,.cons (.scr ?_) .nil,⟨λa z=>absurd z Ms.cA,List.nodup_nil,λa z=>(nomatch z),rfl,λn a c z=>by simp[Ms.no]at z⟩,λv H' M' g st r=>?_⟩
 .rcases hs with hs|hs
  .exact .inl ⟨hs,Ms.cA⟩
  .exact .inr hs
 .cases r
  exact q H'
end
noncomputable def putD(kvs:KE (Key×D))(k:Key)(v:D):KE (Key×D):=
 if(kvs.any λkv=>decide (kv.1=k))=true then kvs.map (λkv=>if kv.1=k then(kv.1,v)else kv)else kvs++[(k,v)]
noncomputable def K5(kvs more:KE (Key×D)):KE (Key×D):=more.foldl (λacc kv=>putD acc kv.1 kv.2) kvs
noncomputable def Ta:KE (Key×D)->Key->tY D
 | [],_=>none
 |(j,d)::r,k=>if j=k then Gc d else Ta r k
noncomputable def Yr:D->tY Key
 | .int i=>Gc (.inl i)
 | .str x=>Gc (.inr x)
 |_=>none
noncomputable def SU(S:Sto):D->tY (KE (Key×D))
 | .dct es=>Gc es
 | .ref n=>match S[n]? with
   |some (.dct es)=>Gc es
   |_=>none
 |_=>none
noncomputable def UI:uv->KE (Key×D)->Sto->D×Sto
 |false,es,S=>(.dct es,S)
 |true,es,S=>(.ref S.length,S++[.dct es])
section
variable{K:tU}{M M':Ms}{H:Hp}{S:Sto}{E:En}{σ:Sg}
theorem CY.any(k:Key):∀{kvs:KE (Key×V)} {es:KE (Key×D)},CY K M H kvs es->(kvs.any λkv=>decide (kv.1=k))=es.any λkv=>decide (kv.1=k)
 |_,_,.nil=>rfl
 |_,_,.cons h t=>by rw[wg,wg,CY.any k t]
theorem CY.app:∀{kvs kvs':KE (Key×V)} {es es':KE (Key×D)},CY K M H kvs es->CY K M H kvs' es'->CY K M H (kvs++kvs') (es++es')
 |_,_,_,_,.nil,s=>s
 |_,_,_,_,.cons h t,s=>.cons h (CY.app t s)
theorem CY.dZ{k:Key}{v:V}{d:D}(r:Ed K M H v d):∀{kvs:KE (Key×V)} {es:KE (Key×D)},CY K M H kvs es->CY K M H (kvs.map λkv=>if kv.1=k then(kv.1,v)else kv) (es.map λkv=>if kv.1=k then(kv.1,d)else kv)
 |_,_,.nil=>.nil
 |_,_,.cons (k:=k') h t=>by
  rw[t8,t8]
  by_cases e:k'=k
  .rw[uZ e,uZ e];exact .cons r (CY.dZ r t)
  .rw[uh e,uh e];exact .cons h (CY.dZ r t)
theorem CY.put{k:Key}{v:V}{d:D}{kvs:KE (Key×V)}{es:KE (Key×D)}(r:Ed K M H v d)(h:CY K M H kvs es):CY K M H (putK kvs k v) (putD es k d):=by
 unfold putK putD
 rw[h.any k]
 split
 .exact h.dZ r
 .exact h.app (.cons r .nil)
theorem CY.merge:∀{more:KE (Key×V)} {more':KE (Key×D)} {kvs:KE (Key×V)} {es:KE (Key×D)},CY K M H more more'->CY K M H kvs es->CY K M H (OG kvs more) (K5 es more')
 |_,_,_,_,.nil,h=>h
 |_,_,kvs,es,.cons (k:=k) (v:=v) (d:=d) (vs:=vs) (ds:=ds) r t,h=>show CY K M H (OG (putK kvs k v) vs) (K5 (putD es k d) ds)from CY.merge t (h.put r)
theorem CY.val(k:Key):∀{kvs:KE (Key×V)} {es:KE (Key×D)},CY K M H kvs es->(V3 kvs k=none/\Ta es k=none)\/∃v d,V3 kvs k=Gc v/\Ta es k=Gc d/\Ed K M H v d
 |_,_,.nil=>.inl ⟨rfl,rfl⟩
 |_,_,.cons (k:=k') (d:=d) (v:=v) (ds:=ds) h t=>by
  by_cases e:k'=k
  .exact .inr ⟨v,d,NF e,by simp[Ta,e],h⟩
  .rw[NQ e]
   have:Ta ((k',d)::ds) k=Ta ds k:=by simp[Ta,e]
   rw[this]
   exact CY.val k t
theorem CY.length:∀{v:KE (Key×V)} {d:KE (Key×D)},CY K M H v d->v.length=d.length
 |_,_,.nil=>rfl
 |_,_,.cons _ t=>by simp[CY.length t]
theorem Uu{v:V}{d:D}{k:Key}(r:Ed K M H v d)(e:Yr d=Gc k):v=kV k:=by
 cases r<;>cases e<;>rfl
theorem P1{v:V}{d:D}{es:KE (Key×D)}(st:StR K M S H)(r:Ed K M H v d)(e:SU S d=Gc es):∃a kvs,v=.ref a/\H a=Gc (.dK kvs)/\CY K M H kvs es:=by
 cases r with
 |dct h n r=>cases e;exact⟨_,_,rfl,h,r⟩
 |ref h=>
  rename_i a n
  unfold SU at e
  dsimp only at e
  split at e
  .rename_i es' e'
   cases e
   obtain⟨kvs,h1,h2⟩:=st.cell n a _ h e'
   exact⟨a,kvs,rfl,h1,h2⟩
  .cases e
 |_=>cases e
theorem StR.sU(r:StR K M S H){n:Nat}{a:uC}{ds es:KE (Key×D)}{ys:KE (Key×V)}(h1:M.cel[n]?=Gc a)(h2:S[n]?=Gc (.dct ds))(hy:CY K M H ys es):StR K M (S.set n (.dct es)) (upd H a (.dK ys))/\Gr M H M (upd H a (.dK ys)):=by
 have ha:a∈M.cel:=uS h1
 have hl:n<S.length:=(uI.mp h2).1
 have g:Gr M H M (upd H a (.dK ys)):=⟨r.mo,vT,rfl,λ_ z=>.inl z,λb o eb nb=>by rw[An (λz=>nb (by rw[z];exact ha))];exact eb,λb eb=>by
  by_cases h:b=a
  .subst h;rw[BM];intro z;cases z
  .rw[An h];exact eb⟩
 refine⟨⟨λb z=>?_,r.nd,r.nt,by rw[wC];exact r.len,λm b c e1 e2=>?_⟩,g⟩
 .by_cases h:b=a
  .subst h;exact .inr ⟨ys,BM⟩
  .rw[An h];exact r.mo b z
 .by_cases h:n=m
  .subst h
   rw[h1]at e1;cases e1
   rw[uG hl]at e2;cases e2
   exact⟨ys,BM,hy.step g.st⟩
  .rw[uE h]at e2
   have hb:b≠a:=λz=>by
    subst z
    exact h ((yl (uI.mp h1).1 r.nd).mp (h1.trans e1.symm))
   have q:=r.cell m b c e1 e2
   cases c with
   |lst fs=>obtain⟨xs,e,rr⟩:=q;exact⟨xs,by rw[An hb];exact e,rr.step g.st⟩
   |dct fs=>obtain⟨xs,e,rr⟩:=q;exact⟨xs,by rw[An hb];exact e,rr.step g.st⟩
theorem StR.dn(r:StR K M S H){a:uC}(e:H a=none):StR K ⟨M.cel,a::M.tmp⟩ S (upd H a (.dK []))/\Sp1 M H ⟨M.cel,a::M.tmp⟩ (upd H a (.dK [])):=by
 have k:∀b o,H b=Gc o->upd H a (.dK []) b=Gc o:=IS e
 have na:¬M.mem a:=λz=>r.mo.some z e
 have s1:Sp1 M H ⟨M.cel,a::M.tmp⟩ (upd H a (.dK [])):=⟨r.mo,vT,λb z=>by
  rcases z with z|z
  .exact .inl (.inl z)
  .rcases uF.mp z with z|z
   .subst z;exact .inr e
   .exact .inl (.inr z),λb o eb _=>k b o eb⟩
 refine⟨⟨λb z=>?_,r.nd,λb hb z=>?_,r.len,λn b c h1 h2=>?_⟩,s1⟩
 .by_cases h:b=a
  .subst h;exact .inr ⟨[],BM⟩
  .rw[An h]
   refine r.mo b ?_
   rcases z with z|z
   .exact .inl z
   .rcases uF.mp z with z|z
    .exact absurd z h
    .exact .inr z
 .rcases uF.mp hb with hb|hb
  .subst hb;exact na (.inl z)
  .exact r.nt b hb z
 .have q:=r.cell n b c h1 h2
  cases c with
  |lst ds=>obtain⟨xs,e,rr⟩:=q;exact⟨xs,k _ _ e,rr.step s1⟩
  |dct ds=>obtain⟨xs,e,rr⟩:=q;exact⟨xs,k _ _ e,rr.step s1⟩
theorem StR.sE{c t:KE uC}{a:uC}{kvs:KE (Key×V)}{es:KE (Key×D)}(cf:uv)(r:StR K ⟨c,a::t⟩ S H)(nt:a∉t)(rr:CY K ⟨c,a::t⟩ H kvs es):∃c',StR K ⟨c',t⟩ (UI cf es S).2 (upd H a (.dK kvs))/\Ed K ⟨c',t⟩ (upd H a (.dK kvs)) (.ref a) (UI cf es S).1/\c <+: c'/\(∀b∈c',b∈c\/b=a):=by
 have nc:a∉c:=r.nt a uD
 have hl:c.length=S.length:=r.len
 have ne:∀b∈c,b≠a:=λb hb z=>nc (by rw[<-z];exact hb)
 have kp:∀b o,H b=Gc o->¬Ms.mem ⟨c,a::t⟩ b->upd H a (.dK kvs) b=Gc o:=λb o eb nb=>by rw[An (λz=>nb (.inr (by rw[z];exact uD)))];exact eb
 have old:∀{c':KE uC},Sp1 ⟨c,a::t⟩ H ⟨c',t⟩ (upd H a (.dK kvs))->∀(n:Nat) (b:uC) (cl:Cl),c[n]?=Gc b->S[n]?=Gc cl->gv K ⟨c',t⟩ (upd H a (.dK kvs)) b cl:=λs1 n b cl h1 h2=>by
  have hb:=ne b (uS h1)
  have q:=r.cell n b cl h1 h2
  cases cl with
  |lst ds=>obtain⟨xs,e,rr⟩:=q;exact⟨xs,by rw[An hb];exact e,rr.step s1⟩
  |dct ds=>obtain⟨xs,e,rr⟩:=q;exact⟨xs,by rw[An hb];exact e,rr.step s1⟩
 have mo:∀b,Ms.mem ⟨c,t⟩ b\/b=a->(∃xs,upd H a (.dK kvs) b=Gc (.lst xs))\/∃ks,upd H a (.dK kvs) b=Gc (.dK ks):=λb z=>by
  by_cases h:b=a
  .subst h;exact .inr ⟨kvs,BM⟩
  .rw[An h]
   rcases z with z|z
   .exact r.mo b (z.imp id (tf _))
   .exact absurd z h
 cases cf with
 |false=>
  have s1:Sp1 ⟨c,a::t⟩ H ⟨c,t⟩ (upd H a (.dK kvs)):=⟨r.mo,vT,λb z=>.inl (z.imp id (tf _)),kp⟩
  exact⟨c,⟨λb z=>mo b (.inl z),r.nd,λb hb=>r.nt b (tf _ hb),r.len,old s1⟩,.dct BM (λz=>z.elim nc nt) (rr.step s1),vT,λb z=>.inl z⟩
 |true=>
  have s1:Sp1 ⟨c,a::t⟩ H ⟨c++[a],t⟩ (upd H a (.dK kvs)):=⟨r.mo,xk _ _,λb z=>by
   rcases z with z|z
   .rcases uU.mp z with z|z
    .exact .inl (.inl z)
    .exact .inl (.inr (by rw[uk.mp z];exact uD))
   .exact .inl (.inr (tf _ z)),kp⟩
  refine⟨c++[a],⟨λb z=>mo b ?_,?_,λb hb z=>?_,by simp[UI,hl],λn b cl h1 h2=>?_⟩,.ref (by rw[<-hl];exact uL),xk _ _,λb z=>?_⟩
  .rcases z with z|z
   .rcases uU.mp z with z|z
    .exact .inl (.inl z)
    .exact .inr (uk.mp z)
   .exact .inl (.inr z)
  .rw[x8]
   refine⟨r.nd,by simp,λx hx y hy z=>?_⟩
   simp at hy;subst hy
   exact nc (by rw[<-z];exact hx)
  .rcases uU.mp z with z|z
   .exact r.nt b (tf _ hb) z
   .rw[uk.mp z]at hb;exact nt hb
  .have h2:(S++[Cl.dct es])[n]?=Gc cl:=h2
   by_cases h:n<S.length
   .rw[tz (by rw[hl];exact h)]at h1
    rw[tz h]at h2
    exact old s1 n b cl h1 h2
   .have hm:n=S.length:=by
     have:=(uI.mp h2).1
     simp at this;lia
    subst hm
    rw[u3 (by rw[hl];exact tw _)]at h1
    rw[u3 (tw _)]at h2
    rw[hl]at h1
    simp at h1 h2
    subst h1 h2
    exact⟨kvs,BM,rr.step s1⟩
  .rcases uU.mp z with z|z
   .exact .inl z
   .exact .inr (uk.mp z)
noncomputable def evP:KE (Ev×Ev)->En->Sto->tY (KE (Key×D)×Sto)
 | [],_,S=>Gc ([],S)
 |(k,v)::r,E,S=>(k E S).bind λa=>(Yr a.1).bind λkk=>(v E a.2).bind λb=>(evP r E b.2).map λq=>((kk,b.1)::q.1,q.2)
theorem bY:∀{fs:KE (Ev×Ev)} {M:Ms} {S:Sto} {es:KE (Key×D)} {S':Sto} {H:Hp} {Q:KE (V×V)->Hp->Prop},evP fs E S=Gc (es,S')->EnR K M E σ H->StR K M S H->(∀kvs H' M',Gr M H M' H'->StR K M' S' H'->CY K M' H' kvs es->kvs.length=fs.length->Q (kvs.map λkv=>(kV kv.1,kv.2)) H')->UR (fs.map λx=>(tD K x.1,tD K x.2)) σ H Q
 | [],M,S,es,S',H,Q,e,r,st,q=>by
   cases e
   exact q [] H M (.refl st.mo) st .nil rfl
 |(fk,fv)::fs,M,S,es,S',H,Q,e,r,st,q=>by
  obtain⟨⟨dk,S1⟩,e1,e⟩:=A5 e
  obtain⟨kk,ek,e⟩:=A5 e
  obtain⟨⟨dv,S2⟩,e2,e⟩:=A5 e
  obtain⟨⟨es',S3⟩,e3,e⟩:=Lp e
  cases e
  refine⟨M,E,S,dk,S1,e1,r,st,λv H1 M1 g1 st1 d1=>?_⟩
  refine⟨M1,E,S1,dv,S2,e2,r.step g1.st,st1,λv2 H2 M2 g2 st2 d2=>?_⟩
  refine bY e3 ((r.step g1.st).step g2.st) st2 λkvs H3 M3 g3 st3 rk hl=>?_
  rw[Uu d1 ek]
  exact q ((kk,v2)::kvs) H3 M3 ((g1.trans g2).trans g3) st3 (.cons (d2.step g3.st) rk) (by simp[hl])
end
noncomputable def R8(cf:uv)(fs:KE (Ev×Ev)):Ev:=λE S=>(evP fs E S).map λr=>UI cf (K5 [] r.1) r.2
abbrev WA:=R8 false
abbrev UH:=R8 true
section
variable{X:Cx}{pos:Pos}
structure DPs(X:Cx)(pos:Pos)(ks:KE (tY ui))(vs:KE ui)(fs:KE (Ev×Ev)):Prop where
 pe:PPs X pos ks vs (fs.map λx=>(tD X.K x.1,tD X.K x.2))
 all:ks.all (·.isSome)=true
 len:ks.length=vs.length
 num:fs.length=vs.length
theorem XR:DPs X pos [] [] []:=⟨fK,rfl,rfl,rfl⟩
theorem UN{k v:ui}{ks:KE (tY ui)}{vs:KE ui}{fk fv:Ev}{fs:KE (Ev×Ev)}(hk:DE X k fk)(hv:DE X v fv)(h:DPs X pos ks vs fs):DPs X pos (Gc k::ks) (v::vs) ((fk,fv)::fs):=
 ⟨bA hk.pe hv.pe h.pe,by rw[y8,h.all];rfl,by rw[uq,uq,h.len],by rw[uq,uq,h.num]⟩
theorem Tc{K:tU}{M:Ms}{H:Hp}{S S':Sto}{Q:VK}{cf:uv}{p:uC}{M2:Ms}{H2:Hp}{S2:Sto}{kvs:KE (Key×V)}{es:KE (Key×D)}(st:StR K M S H)(hp:H p=none)(g:Gr ⟨M.cel,p::M.tmp⟩ (upd H p (.dK [])) M2 H2)(st2:StR K M2 S2 H2)(rk:CY K M2 H2 kvs es)(q:∀v H' M',Gr M H M' H'->StR K M' (UI cf es S2).2 H'->Ed K M' H' v (UI cf es S2).1->Q v H'):Q (.ref p) (upd H2 p (.dK kvs)):=by
 obtain⟨c2,t2⟩:=M2
 have ht:t2=p::M.tmp:=g.tmp
 subst ht
 have np:p∉M.tmp:=λz=>st.mo.some (.inr z) hp
 obtain⟨c',st',rd,pr,sub⟩:=st2.sE cf np rk
 refine q _ _ ⟨c',M.tmp⟩ ⟨st.mo,(show M.cel <+: c2 from g.pre).trans pr,rfl,λb z=>?_,λb o eb nb=>?_,λb eb=>?_⟩ st' rd
 .rcases sub b z with z|z
  .rcases g.fresh b z with z|z
   .exact .inl z
   .right
    by_cases h:b=p
    .rw[h];exact hp
    .rw[An h]at z;exact z
  .right;rw[z];exact hp
 .have h:b≠p:=λz=>by rw[z,hp]at eb;cases eb
  rw[An h]
  exact g.keep b o (by rw[An h];exact eb) nb
 .by_cases h:b=p
  .subst h;rw[BM];intro z;cases z
  .rw[An h]
   exact g.some b (by rw[An h];exact eb)
theorem cU{cf:uv}{ks:KE (tY ui)}{vs:KE ui}{fs:KE (Ev×Ev)}(h:DPs X pos ks vs fs)(h0:ks≠[])(h15:ks.length<=15):DE X (.Dict ks vs pos) (R8 cf fs):=⟨
 Bi (gX h.pe h.all h.len h0 h15) λσ H Q z=>by
  obtain⟨M,E,S,d,S',e,r,st,q⟩:=z
  obtain⟨⟨es,S2⟩,e1,e⟩:=Lp e
  intro p hp
  obtain⟨st0,s0⟩:=st.dn hp
  refine bY e1 (r.step s0) st0 λkvs H2 M2 g st2 rk hl=>⟨g.keep p _ BM (st0.nt p uD),kvs,rfl,by rw[hl,h.num,<-h.len];exact h15,?_⟩
  refine Tc (cf:=cf) (S':=S') st hp g st2 (rk.merge .nil) ?_
  have e':UI cf (K5 [] es) S2=(d,S'):=e
  rw[e']
  exact q⟩
theorem iD{cf:uv}:DE X (.Dict [] [] pos) (R8 cf []):=⟨
 Bi aI λσ H Q z=>by
  obtain⟨M,E,S,d,S',e,r,st,q⟩:=z
  obtain⟨⟨es,S2⟩,e1,e⟩:=Lp e
  cases e1
  intro p hp
  obtain⟨st0,s0⟩:=st.dn hp
  have:=Tc (cf:=cf) (S':=S') (Q:=Q) (kvs:=[]) (es:=[]) st hp (.refl st0.mo) st0 .nil (by
   have e':UI cf [] S=(d,S'):=e
   rw[e'];exact q)
  rw[YZ]at this
  exact this⟩
noncomputable def ZA(fd fk fx:Ev):Ev:=λE S=>(fd E S).bind λa=>(SU a.2 a.1).bind λ_=>(fk E a.2).bind λb=>(fx E b.2).bind λc=>(SU c.2 a.1).bind λes=>(Yr b.1).map λk=>((Ta es k).getD c.1,c.2)
theorem XE{o e f:ui}{fd fk fx:Ev}{apos cpos:Pos}(hu:X.A.units+100<cLine)(ho:DE X o fd)(hk:DE X e fk)(hx:DE X f fx)(m:M2 X o "get" apos e f cpos):DE X (.Call (.Attribute o "get" apos) [e,f] [] cpos) (ZA fd fk fx):=⟨
 Bi (bF (by lia) ho.pe hk.pe hx.pe m) λσ H Q z=>by
  obtain⟨M,E,S,d,S',e,r,st,q⟩:=z
  obtain⟨⟨a,S1⟩,e1,e⟩:=A5 e
  obtain⟨es1,ed,e⟩:=A5 e
  obtain⟨⟨b,S2⟩,e2,e⟩:=A5 e
  obtain⟨⟨c,S3⟩,e3,e⟩:=A5 e
  obtain⟨es,ed3,e⟩:=A5 e
  obtain⟨k,ek,e⟩:=Lp e
  cases e
  refine⟨M,E,S,a,S1,e1,r,st,λv H1 M1 g1 st1 d1=>?_⟩
  obtain⟨p,kvs,rfl,hp,_⟩:=P1 st1 d1 ed
  refine⟨p,rfl,.inl ⟨kvs,.inl hp⟩,M1,E,S1,b,S2,e2,r.step g1.st,st1,λv2 H2 M2 g2 st2 d2=>?_⟩
  refine⟨M2,E,S2,c,S3,e3,(r.step g1.st).step g2.st,st2,λv3 H3 M3 g3 st3 d3=>?_⟩
  obtain⟨p',kvs3,e4,hp3,rk⟩:=P1 st3 ((d1.step g2.st).step g3.st) ed3
  cases e4
  rw[Uu d2 ek]
  refine⟨_,.k hp3,?_⟩
  rcases rk.val k with⟨h1,h2⟩|⟨v,d,h1,h2,h3⟩
  .rw[h1];rw[h2]at q;exact q _ _ M3 ((g1.trans g2).trans g3) st3 d3
  .rw[h1];rw[h2]at q;exact q _ _ M3 ((g1.trans g2).trans g3) st3 h3⟩
noncomputable def Q8(k f o:Ev):Ex:=λE S=>(k E S).bind λr=>(f E r.2).bind λb=>(o E b.2).bind λi=>(Yr i.1).bind λkk=>match b.1 with
 | .ref n=>match i.2[n]? with
   |some (.dct es)=>if es.length<1000 then Gc (.nx,E,i.2.set n (.dct (putD es kk r.1)))else none
   |_=>none
 |_=>none
theorem Tg{e t bs:ui}{k f o:Ev}{ps pos:Pos}(hu:X.A.units+100<cLine)(h:DE X e k)(hb:DE X bs f)(ht:DE X t o)(hs:swapsWith e (Gc (.Subscript bs t ps)) pos.line X.env=pure false:=by rfl):DS X (.Assign [.Subscript bs t ps] e pos) (Q8 k f o):=⟨
 Gy (fP (by lia) hb.pe ht.pe h.pe hs) λDn σ H z=>by
  obtain⟨M,E,S,fl,E',S',e,r,st,q⟩:=z
  obtain⟨⟨d,S1⟩,e1,e⟩:=A5 e
  obtain⟨⟨b,S2⟩,e2,e⟩:=A5 e
  obtain⟨⟨i,S3⟩,e3,e⟩:=A5 e
  obtain⟨kk,ek,e⟩:=A5 e
  dsimp only at e e1 e2 e3 ek
  split at e
  . 
   split at e
   .rename_i es e4
    split at e
    .rename_i hl
     cases e
     refine⟨M,E,S,d,S1,e1,r,st,λv H1 M1 g1 st1 r1=>?_⟩
     refine⟨M1,E,S1,_,S2,e2,r.step g1.st,st1,λbv H2 M2 g2 st2 r2=>?_⟩
     refine⟨M2,E,S2,_,S3,e3,(r.step g1.st).step g2.st,st2,λiv H3 M3 g3 st3 r3=>?_⟩
     rw[Uu r3 ek]
     cases r2 with
     |ref hc=>
      rename_i a
      have hc3:=NS g3.pre hc
      obtain⟨kvs,h1,h2⟩:=st3.cell _ a _ hc3 e4
      obtain⟨st4,g4⟩:=st3.sU hc3 e4 (CY.put (k:=kk) ((r1.step g2.st).step g3.st) h2)
      have g:=((g1.trans g2).trans g3).trans g4
      exact⟨a,_,rfl,.k h1 (by rw[h2.length,sizeLine_eq];lia),q _ _ M3 g (r.step g.st) st4⟩
    .cases e
   .cases e
  .cases e⟩
end
abbrev sO(led:uv):Obj:={cls:=.type "set",dict:=none,data:=.set #[] 0 (.fresh 0 0 led)}
section
variable{prog:uT}{w:ur}{A:u5}{E:tW->tZ->Prop}{s:tZ}{l:uC}{items:uu tW}{ns:KE Int}
abbrev Ye(ns:KE Int)(n:Nat):KE Int:=PyProof.Rows.firstMet (λi=>ns.getD i 0) n
end
end Mi
end
noncomputable section
namespace Mi
open PySem
abbrev Ris(xs:uu Nat):Prop:=xs.toList.Pairwise (· < ·)
theorem Ris.lt{xs:uu Nat}(h:Ris xs){i k:Nat}(a:i<k)(b:k<xs.size):xs[i]'(yI a b)<xs[k]:=by
 have:=List.pairwise_iff_getElem.mp h i k (by simpa using yI a b) (by simpa using b) a
 simpa using this
structure Blw(xs:uu Nat)(j r:Nat):Prop where
 le:r<=xs.size
 lo:∀i (h:i<xs.size),i<r->xs[i]<j
 hi:∀i (h:i<xs.size),r<=i->j<=xs[i]
theorem Qa{xs:uu Nat}(hx:Ris xs)(j:Nat):∀fuel lo hi,hi-lo<=fuel->lo<=hi->hi<=xs.size->(∀i (h:i<xs.size),i<lo->xs[i]<j)->(∀i (h:i<xs.size),hi<=i->j<=xs[i])->Blw xs j (SetTable.below.go xs j fuel lo hi)
 |0,lo,hi,f,a,b,c,d=>by
  have:lo=hi:=by lia
  subst this
  exact⟨b,c,d⟩
 |fuel+1,lo,hi,f,a,b,c,d=>by
  unfold SetTable.below.go
  by_cases q:lo<hi
  .rw[uZ q]
   have ml:(lo+hi) / 2<xs.size:=by lia
   have e:xs.getD ((lo+hi) / 2) j=xs[(lo+hi) / 2]:=by simp[AAZ,ml]
   dsimp only
   by_cases z:xs.getD ((lo+hi) / 2) j<j
   .rw[uZ z]
    rw[e]at z
    refine Qa hx j fuel _ _ (by lia) (by lia) b (λi h l=>?_) d
    by_cases k:i=(lo+hi) / 2
    .subst k;exact z
    .exact yI (hx.lt (show i<(lo+hi) / 2 by lia) ml) z
   .rw[uh z]
    rw[e]at z
    refine Qa hx j fuel _ _ (by lia) (by lia) (by lia) c (λi h l=>?_)
    by_cases k:i=(lo+hi) / 2
    .subst k;lia
    .have:=hx.lt (show(lo+hi) / 2<i by lia) h;lia
  .rw[uh q]
   have:lo=hi:=by lia
   subst this
   exact⟨b,c,d⟩
theorem Qd{xs:uu Nat}(hx:Ris xs)(j:Nat):Blw xs j (vH xs j):=
 Qa hx j _ _ _ (by lia) (ve _) (tw _) (λi _ h=>absurd h (by lia)) (λi h l=>absurd h (by lia))
theorem below_at{xs:uu Nat}(hx:Ris xs){k:Nat}(hk:k<xs.size):vH xs xs[k]=k:=by
 have b:=Qd hx xs[k]
 rcases Nat.lt_trichotomy (vH xs xs[k]) k with h|h|h
 .have:=b.hi _ (by lia) (tw _);have:=hx.lt h hk;lia
 .exact h
 .have:=b.lo k hk h;lia
noncomputable def slotAt(xs:uu Nat)(i:Nat):Nat:=if i=0 then 0 else xs.getD (i-1) 0+1
theorem Vn{xs:uu Nat}(hx:Ris xs){i:Nat}(hi:i<=xs.size):vH xs (slotAt xs i)=i:=by
 have b:=Qd hx (slotAt xs i)
 have bl:=b.le
 by_cases z:i=0
 .subst z
  rcases Nat.eq_zero_or_pos (vH xs (slotAt xs 0))with h|h
  .exact h
  .have:=b.lo 0 (by lia) h;simp[slotAt]at this
 .have e:slotAt xs i=xs[i-1]'(by lia)+1:=by
   have:i-1<xs.size:=by lia
   simp[slotAt,z,AAZ,this]
  rcases Nat.lt_trichotomy (vH xs (slotAt xs i)) i with h|h|h
  .have:=b.hi (i-1) (by lia) (by lia);lia
  .exact h
  .have h1:=b.lo i (by lia) h;have h2:=hx.lt (show i-1<i by lia) (show i<xs.size by lia);lia
theorem Ris.insert{xs:uu Nat}(hx:Ris xs){j:Nat}(hj:xs[vH xs j]?≠Gc j):Ris (SetTable.insertAt xs (vH xs j) j):=by
 have b:=Qd hx j
 have nj:∀k (hk:k<xs.size),xs[k]≠j:=λk hk e=>hj (by rw[<-e,below_at hx hk,Array.getElem?_eq_getElem hk])
 show ABR _ _
 rw[SetTable.toList_insertAt,AA5,wG]
 have tk:∀a∈xs.toList.take (vH xs j),a<j:=λa ha=>by
  obtain⟨i,hi,rfl⟩:=List.mem_take_iff_getElem.mp ha
  have q:i<xs.size:=by simp at hi;lia
  simpa using b.lo i q (by lia)
 have dr:∀a∈xs.toList.drop (vH xs j),j<a:=λa ha=>by
  obtain⟨i,hi,rfl⟩:=List.mem_drop_iff_getElem.mp ha
  have q:vH xs j+i<xs.size:=by simp at hi;lia
  have:=b.hi _ q (by lia)
  have:=nj _ q
  simp only[Array.getElem_toList]
  lia
 refine⟨AAr (List.take_sublist _ _) hx,⟨dr,AAr (List.drop_sublist _ _) hx⟩,λa ha c hc=>?_⟩
 rcases uF.mp hc with rfl|hc
 .exact tk a ha
 .exact yI (tk a ha) (dr c hc)
theorem WD(n:Nat):Ris (Array.range n):=by
 show ABR _ _
 rw[Array.toList_range];exact yn
structure TOk(t:SetTable)(led:uv):Prop where
 dum:t.dummies= #[]
 ris:Ris t.place
 led:t.led=led
theorem TOk.fresh(led:uv):TOk (.fresh 0 0 led) led:=⟨rfl,zv,rfl⟩
theorem TOk.standIn{t:SetTable}{led:uv}(h:TOk t led)(n:Nat):TOk (t.standIn n) led:=⟨rfl,WD n,h.led⟩
theorem TOk.orStandIn{t:SetTable}{led:uv}(h:TOk t led)(n:Nat):TOk (t.orStandIn n) led:=by
 unfold SetTable.orStandIn;split
 .exact h
 .exact h.standIn n
theorem TOk.plain{t:SetTable}{led:uv}(h:TOk t led)(b:uv):TOk {t with plain:=b} led:=⟨h.dum,h.ris,h.led⟩
theorem Xw(j:Nat):SetTable.has #[] j=false:=by simp[SetTable.has]
theorem VA{t:SetTable}(hd:t.dummies= #[])(f:Nat->Int)(h:Int):∀fuel (p:SetTable.Probe) {j d},p.dummy=none->zy t f h fuel p=Gc (.empty j d)->d=none/\t.place[vH t.place j]?≠Gc j
 |0,p,j,d,_,e=>by simp[zy]at e
 |fuel+1,p,j,d,pn,e=>by
  unfold zy at e
  have an:(t.advance p).dummy=none:=by unfold SetTable.advance;split<;>exact pn
  cases q:t.slot p.j with
  |empty=>
   rw[q]at e
   dsimp only at e
   injection e with e
   injection e with e1 e2
   subst e1 e2
   refine⟨pn,λz=>?_⟩
   unfold SetTable.slot at q
   rw[uZ (by rw[z];simp)]at q
   exact SetTable.Slot.noConfusion q
  |dummy=>
   unfold SetTable.slot at q
   rw[hd,Xw]at q
   dsimp only at q
   split at q<;>simp at q
  |live i=>
   rw[q]at e
   dsimp only at e
   split at e
   .simp at e
   .exact VA hd f h fuel _ an e
theorem gB{t:SetTable}{led:uv}(h:TOk t led){x:Int}{j:Nat}{b:uv}(e:t.freeSlot x=Gc (j,b)):t.place[vH t.place j]?≠Gc j:=by
 unfold SetTable.freeSlot at e
 split at e
 .rename_i j' d q
  unfold SetTable.probe at q
  obtain⟨rfl,n⟩:=VA h.dum _ x _ _ rfl q
  simp at e
  obtain⟨rfl,_⟩:=e
  exact n
 .simp at e
theorem TOk.put{t:SetTable}{led:uv}(h:TOk t led){j:Nat}(n:t.place[vH t.place j]?≠Gc j):TOk (t.put j).1 led:=by
 refine⟨?_,h.ris.insert n,h.led⟩
 show(if SetTable.has t.dummies j=true then _ else t.dummies)=_
 rw[h.dum,Xw];rfl
theorem TOk.layNew{t:SetTable}{led:uv}(h:TOk t led)(es:uu (Int×tW))(x:Int)(v:tW):TOk (layNew t es x v).2.1 led:=by
 unfold PySem.layNew
 split
 .rename_i j b e
  exact(h.put (gB h e)).orStandIn _
 .exact h.standIn _
theorem TOk.oY{t:SetTable}{led:uv}(h:TOk t led)(es:uu (Int×tW))(n:Nat):TOk (relayAll t es n).2.1 led:=by
 unfold relayAll
 split
 .rename_i t' order e
  dsimp only
  split
  .unfold SetTable.relaid SetTable.laid at e
   cases q:SetTable.layClean (SetTable.sizeAbove n-1) (es.map (·.1))with
   |none=>rw[q]at e;simp at e
   |some owner=>
    rw[q]at e
    simp at e
    obtain⟨rfl,_⟩:=e
    refine⟨rfl,?_,h.led⟩
    show ABR _ _
    simp only[List.map_filterMap]
    refine List.Pairwise.filterMap _ (λa a' l b hb b' hb'=>?_) yn
    simp at hb hb'
    obtain⟨_,_,rfl⟩:=hb
    obtain⟨_,_,rfl⟩:=hb'
    exact l
  .exact h.standIn _
 .exact h.standIn _
end Mi
end
noncomputable section
namespace Mi
open PySem PySem.Spec L2 PyProof.Rows
noncomputable def iOf:Int×tW->Int|(_,.int n _)=>n|_=>0
abbrev vls(es:KE (Int×tW)):KE Int:=es.map iOf
abbrev byT(w:ur):uv:=w.params.followText "set-order"
section
variable{prog:uT}{w:ur}{A:u5}{E:tW->tZ->Prop}{s:tZ}
def Mq(prog:uT)(w:ur)(h:uz)(a:uC)(L:KE Int):Prop:=
 ∃o es ep t,h.get? a=Gc o/\o.ExactSet/\o.data=.set es ep t/\AAa (intKind prog w) es.toList/\(vls es.toList).Perm L/\es.size<scanBound/\t.fits es.size=true/\TOk t (!byT w)
theorem Mq.at{h h':uz}{a:uC}{L:KE Int}(x:Mq prog w h a L)(k:∀o,h.get? a=Gc o->h'.get? a=Gc o):Mq prog w h' a L:=
 let⟨o,es,ep,t,ho,r⟩:=x;⟨o,es,ep,t,k o ho,r⟩
theorem cv{e:Int×tW}{es:KE (Int×tW)}(h:AAa (intKind prog w) es)(he:e∈es)(k:Int):(intKind prog w).is k e.2=true↔iOf e=k:=by
 obtain⟨⟨k',q,_⟩,_⟩:=h e he
 obtain⟨t,hv⟩:=zh q
 obtain⟨x,v⟩:=e
 dsimp only at hv
 subst hv
 show AAu k (.int k' t)=true↔k'=k
 simp[AAu]
theorem WB{es:KE (Int×tW)}(h:AAa (intKind prog w) es)(k:Int):(∃e∈es,(intKind prog w).is k e.2=true)↔k∈vls es:=by
 rw[um]
 exact⟨λ⟨e,he,q⟩=>⟨e,he,(cv h he k).mp q⟩,λ⟨e,he,q⟩=>⟨e,he,(cv h he k).mpr q⟩⟩
theorem P2{h:uz}{a:uC}{o:Obj}{es:uu (Int×tW)}{ep:Nat}{t:SetTable}(ho:h.get? a=Gc o)(hex:o.ExactSet)(hd:o.data=.set es ep t){es':uu (Int×tW)}{t':SetTable}{L:KE Int}(hel:AAa (intKind prog w) es'.toList)(hp:(vls es'.toList).Perm L)(hb:es'.size<scanBound)(hf:t'.fits es'.size=true)(ht:TOk t' (!byT w)):(h.update a (AAb es' t')).get? a=Gc {o with data:=.set es' (ep+1) t'}/\Mq prog w (h.update a (AAb es' t')) a L:=by
 have hg:(h.update a (AAb es' t')).get? a=Gc {o with data:=.set es' (ep+1) t'}:=by
  have:=u7 (AAb es' t') ho (by rw[putSet_of es' t' hd];rfl)
  rw[putSet_of es' t' hd]at this;exact this
 exact⟨hg,_,es',ep+1,t',hg,hex,rfl,hel,hp,hb,hf,ht⟩
theorem UU{g:uv->Sem Unit}(hg:∀(b:uv) (s₁:tZ) (Q':Unit->tZ->Prop),Q' () s₁->wpAny (model prog w) A (g b) Q' E s₁){a:uC}{o:Obj}{es:uu (Int×tW)}{ep:Nat}{t:SetTable}(ho:s.heap.get? a=Gc o)(hex:o.ExactSet)(hd:o.data=.set es ep t){es1:uu (Int×tW)}{t2:SetTable}{L:KE Int}(hel1:AAa (intKind prog w) es1.toList)(hp1:(vls es1.toList).Perm L)(hb1:es1.size<scanBound)(hf2:t2.fits es1.size=true)(ht:TOk t2 (!byT w)){wasDummy:uv}{R:tY uv->tZ->Prop}(h:∀h',wY a s.heap h'->Mq prog w h' a L->R (Gc true) {s with heap:=h'}):wpAny (model prog w) A (do
        storeSet a es1 t2
        if(!wasDummy && t2.tooFull)=true then do
           g (relayAll t2 es1 (xX es1.size)).2.2
           storeSet a (relayAll t2 es1 (xX es1.size)).1 (relayAll t2 es1 (xX es1.size)).2.1
           pure (Gc true)
         else pure (Gc true)) R E s:=by
 refine Wp (wpAny_storeSet_of ho hd ?_ (yo hb1))
 obtain⟨ho1,hS1⟩:=P2 ho hex hd hel1 hp1 hb1 hf2 ht
 have hsb1:=vR s.heap a (AAb es1 t2)
 split
 .have hp:=relayAll_perm t2 es1 (xX es1.size)
  have hfr:=relayAll_fits t2 es1 (xX es1.size)
  have htr:=ht.oY es1 (xX es1.size)
  generalize hRl:relayAll t2 es1 (xX es1.size)=Rl at hp hfr htr⊢
  obtain⟨es2,t3,gave2⟩:=Rl
  dsimp only at hp hfr htr⊢
  have hel2:AAa (intKind prog w) es2.toList:=hel1.perm hp
  have hsz:es2.size=es1.size:=by rw[<-vq,hp.length_eq,vq]
  have hb2:es2.size<scanBound:=by rw[hsz];exact hb1
  refine Wp (hg _ _ _ ?_)
  refine Wp (wpAny_storeSet_of ho1 rfl ?_ (yo hb2))
  obtain⟨_,hS2⟩:=P2 ho1 hex rfl hel2 ((hp.map iOf).trans hp1) hb2 hfr htr
  exact tq (h _ (hsb1.trans (vR _ a _)) hS2)
 .exact tq (h _ hsb1 hS1)
theorem gN{a:uC}{L:KE Int}{k:Int}{u:Tok}{Q:uv->tZ->Prop}(hS:Mq prog w s.heap a L)(hroom:L.length+1<scanBound)(h:∀h' b,wY a s.heap h'->Mq prog w h' a (wV L k)->Q b {s with heap:=h'}):wpAny (model prog w) A (setAddHashed a (.int k u) ((intKind prog w).hash k)) Q E s:=by
 obtain⟨o,es,ep,t,ho,hex,hd,hel,hp,hb,hf,ht⟩:=hS
 have hkey:=intKind_is prog w k u
 have hsc:(AAF k u).scannable=true:=rfl
 have hn:es.size=L.length:=by have:=hp.length_eq;simpa using this
 have hb1:es.size+1<scanBound:=by rw[hn];exact hroom
 unfold setAddHashed setAddHashedIn
 refine vK (Wp (xO ho hd hf ?_))
 dsimp only
 rw[byScan_of hsc hb hel]
 simp only[↓reduceIte]
 unfold setAddByScan
 refine Wp ?_
 refine Wp (xP ?_)
 refine Wp (wpAny_setScan_of hkey ho hd hf hel ?_)
 cases hr:List.findIdx? (λe=>(intKind prog w).is k e.2) es.toList with
 |some j=>
  dsimp only
  obtain⟨hj,hpj,_⟩:=List.findIdx?_eq_some_iff_getElem.mp hr
  have kin:k∈L:=hp.mem_iff.mp ((WB hel k).mp ⟨es.toList[j],wm hj,hpj⟩)
  refine tq (tq ?_)
  have e:s={s with heap:=s.heap}:=by cases s;rfl
  rw[e]
  refine h s.heap _ (Heap.SameBut.refl a s.heap) ?_
  rw[show wV L k=L by unfold wV;rw[uZ (xY.mpr ⟨k,kin,by simp⟩)]]
  exact⟨o,es,ep,t,ho,hex,hd,hel,hp,hb,hf,ht⟩
 |none=>
  dsimp only
  have kno:k∉L:=λz=>by
   obtain⟨e,he,q⟩:=(WB hel k).mpr (hp.mem_iff.mpr z)
   have:=List.findIdx?_eq_none_iff.mp hr e he;rw[q]at this;exact v5 this
  have sd:wV L k=L++[k]:=by
   unfold wV
   rw[uh (λz=>by obtain⟨x,hx,e⟩:=xY.mp z;exact kno (by rw[<-eq_of_beq e];exact hx))]
  rw[sd]at h
  have hgw:∀(b:uv) {s₁:tZ} {Q':Unit->tZ->Prop},Q' () s₁->wpAny (model prog w) A (match b with|true=>rule "set.scan.the-table-gave-way" |false=>pure ()) Q' E s₁:=
   λb s₁ Q' hq=>by cases b<;>first|exact tq hq|exact xP hq
  have hperm:=layNew_perm t es ((intKind prog w).hash k) (.int k u)
  have hfits:=layNew_fits t es ((intKind prog w).hash k) (.int k u)
  have hto:=ht.layNew es ((intKind prog w).hash k) (.int k u)
  generalize hL:layNew t es ((intKind prog w).hash k) (.int k u)=L1 at hperm hfits hto⊢
  obtain⟨es1,t1,wasDummy,gave⟩:=L1
  dsimp only at hperm hfits hto⊢
  rw[Array.toList_push]at hperm
  have hel1:AAa (intKind prog w) es1.toList:=(hel.push hkey hsc).perm hperm
  have hp1:(vls es1.toList).Perm (L++[k]):=(hperm.map iOf).trans (by rw[vU];exact hp.append_right _)
  have hb1':es1.size<scanBound:=by rw[<-vq,hperm.length_eq,vL,vq];simpa using hb1
  refine Wp (hgw _ ?_)
  split
  .refine Wp ?_
   rw[hashByValue_scannable 8 hsc]
   refine tq ?_
   refine UU ?_ ho hex hd hel1 hp1 hb1' ?_ ?_ ?_
   .intro b s₁ Q' hq;cases b<;>first|exact tq hq|exact xP hq
   .split
    .exact hfits
    .exact SetTable.fits_plain_off hfits
   .split
    .exact hto
    .exact hto.plain _
   .intro h' hsb hS';dsimp only;exact tq (h h' _ hsb hS')
  .refine Wp (tq ?_)
   simp only[↓reduceIte]
   refine UU ?_ ho hex hd hel1 hp1 hb1' hfits hto ?_
   .intro b s₁ Q' hq;cases b<;>first|exact tq hq|exact xP hq
   .intro h' hsb hS';dsimp only;exact tq (h h' _ hsb hS')
end
section
variable{prog:uT}{w:ur}{A:u5}{R:Result->tZ->Prop}{I:uC}{fp wr:KE uC}{G:uu GenState->uu GenState->Prop}{n:Nat}{P:Nat->tW->Prop}{St:Nat->tZ->Prop}
theorem SF(W:WalksS prog w A.in1 I fp wr G n P St)(S:uC)(hSf:S∉fp)(val:Nat->Int)(hval:∀i v,P i v->∃t,v=.int (val i) t)(hb:n+1<scanBound):∀(k i:Nat) (s:tZ),n-i=k->i<=n->St i s->Mq prog w s.heap S (firstMet val i)->(∀s',Moved (S::wr) G s s'->Mq prog w s'.heap S (firstMet val n)->R (.ok (.ret .none)) s')->codeAny (model prog w) A (.builtin "set.update.loop" ⟨[.ref S,.ref I],[]⟩) R s:=by
 have hSw:S∉wr:=λh=>hSf (W.sub _ h)
 have hsub:∀b∈wr,b∈S::wr:=λb hb=>tf _ hb
 intro k
 induction k with
 |zero=>
  intro i s hk hi hst hS hR
  have hin:i=n:=by lia
  subst hin
  refine wW AAM ?_
  rw[v7 yb _]
  show wpAny _ A.in1 (pyNext (.ref I) >>= _) _ _ s
  refine Wp (W.done s _ _ hst λs' hm=>?_)
  show wpAny _ A.in1 (ret wQ) _ _ s'
  exact tq (hR s' (hm.mono hsub) (hS.at λo e=>hm.heap S _ hSw e))
 |succ k ih=>
  intro i s hk hi hst hS hR
  have hlt:i<n:=by lia
  refine wW AAM ?_
  rw[v7 yb _]
  show wpAny _ A.in1 (pyNext (.ref I) >>= _) _ _ s
  refine Wp (W.item i s _ _ hlt hst λv s' hP hst' hm=>?_)
  obtain⟨t,rfl⟩:=hval i v hP
  have hS':Mq prog w s'.heap S (firstMet val i):=hS.at λo e=>hm.heap S _ hSw e
  show wpAny _ A.in1 (holding [AAF (val i) t] (setAdd S (.int (val i) t)) >>= _) _ _ s'
  refine Wp (vK ?_)
  unfold setAdd
  refine vK ?_
  refine Wp ((intKind prog w).pyHash (k:=val i) (intKind_is _ _ _ _) ?_)
  have hroom:(firstMet val i).length+1<scanBound:=by have:=firstMet_length_le val i;lia
  refine gN (s:={s' with toks:=s'.toks+1}) hS' hroom λh' bb hsb hS2=>?_
  rw[<-firstMet_succ]at hS2
  refine tq ⟨yT yb _,ih (i+1) _ (by lia) hlt (W.frame _ s' _ _ hst' (zw _) λb hb o e=>?_) hS2 λs'' hm'' hS''=>?_⟩
  .rw[hsb.2 b (λh:b=S=>hSf (by rw[<-h];exact hb))];exact e
  .refine hR s'' (Moved.trans W.gtrans ((hm.mono hsub).then_heap (zw _) λb o hb e=>?_) hm'') hS''
   rw[hsb.2 b (λh:b=S=>hb (by rw[h];exact uD))];exact e
end
section
variable{prog:uT}{w:ur}{A:u5}{E:tW->tZ->Prop}{s:tZ}
theorem ZI(a:tW){Q₁:tW->tZ->Prop}(h:Q₁ (.ref s.heap.objs.size) {s with heap:=s.heap.push (sO (!byT w))}):codeAny (model prog w) A (.call (.builtin "set.__new__") ⟨[.type "set",a],[]⟩) (wants Q₁ E) s:=by
 refine codeAny_of_tree ?_
 show wpAny _ A.in1 (do checkBuiltinCall "set.__new__" ⟨[.type "set",a],[]⟩;again (.builtin "set.__new__" ⟨[.type "set",a],[]⟩)) _ _ s
 refine Wp (wpAny_of_eq (F.newCall_set_1 a) (tq ⟨yT F.plain_set_new _,wW F.entry_set_new ?_⟩))
 rw[v7 F.plain_set_new _]
 unfold wJ.«set.__new__» Builtin.Frozenset.newClass
 have hsub:=sub_set_self
 obtain⟨hp,g,d,tk,os⟩:=s
 dsimp only
 wp_walk
 refine AAN (tq ?_)
 dsimp only
 simp only[newObj]
 refine Wp (wpAny_alloc (tq ?_))
 exact tq h
end
end Mi
end
noncomputable section
namespace Mi
open PySem PySem.Spec L2 PyProof.Rows
section
variable{prog:uT}{w:ur}{A:u5}{E:tW->tZ->Prop}{s:tZ}{l:uC}{items:uu tW}{ns:KE Int}
theorem Mq.fresh{h:uz}{a:uC}(e:h.get? a=Gc (sO (!byT w))):Mq prog w h a []:=
 ⟨_, #[],0,_,e,⟨rfl,rfl,rfl⟩,rfl,λe he=>by simp at he,by exact yp _,by decide,by rfl,TOk.fresh _⟩
theorem V8{Q:tW->tZ->Prop}(hh:A.handled=none)(hl:s.heap.IsList l items)(hi:wM items.toList ns)(hb:items.size+1<scanBound)(h:∀(h':uz) (tk:Nat),Mq prog w h' s.heap.objs.size (Ye ns items.size)->(∀b o,s.heap.get? b=Gc o->h'.get? b=Gc o)->Q .none {s with heap:=h',toks:=tk}):codeAny (model prog w) A (.call (.builtin "set.__init__") ⟨[.ref s.heap.objs.size,.ref l],[]⟩) (wants Q E) {s with heap:=s.heap.push (sO (!byT w))}:=by
 generalize hled:(!byT w)=led
 have me:(s.heap.push (sO led)).get? s.heap.objs.size=Gc (sO led):=uH _ rfl
 have ty:Shared.TypeIs {s with heap:=s.heap.push (sO led)} (.ref s.heap.objs.size) "set":=⟨_,me,rfl⟩
 have hl1:=hl.push (sO led)
 obtain⟨o,ho,hc,n,hd⟩:=id hl
 have lt:=uK ho
 refine codeAny_call_builtin xl.init.plain F.entry_set_init (check_set_init_1 ty ?_)
 have ho1:=tV (sO led) ho
 obtain⟨c0,d0,q0,l0⟩:=o
 cases hc;cases hd
 have n1:=F.sub_list_set
 have n2:=F.sub_list_frozenset
 have n3:(AAO "list" ==AAO "dict")=false:=by decide
 unfold wJ.«set.__init__» noKeywords Builtin.Frozenset.updateFrom
 generalize pi:pyIter=it
 wp_walk
 subst pi
 refine v8 hl1 (Wp (AA6 ?_))
 have sz:(s.heap.push (sO led)).objs.size=s.heap.objs.size+1:=uo ..
 have ap:l≠(s.heap.push (sO led)).objs.size:=by rw[sz];exact uR (vX lt)
 refine SF ((Walks.list (by simp[hh]) _ l ap items).toS) s.heap.objs.size (by rw[sz,uF,uk,AAX];exact⟨uR (wk _),yd lt⟩) (λi=>ns.getD i 0)
  (λi v hv=>hi.int_at i v (by rw[Array.getElem?_toList];exact hv)) hb (items.size-0) 0 _ (by lia) (ve _) ⟨⟨_,uH _ rfl,rfl,rfl⟩,hl1.push _⟩ ?_ ?_
 .exact Mq.fresh (by rw[hled];exact tV _ me)
 .rintro ⟨h',g',d',tk',os'⟩ hm hS
  have e1:g'=s.gens:=hm.gens
  have e2:d'=s.drawn:=hm.drawn
  have e3:os'=s.os:=hm.os
  subst e1 e2 e3
  refine tq (show wpAny _ _ (ret wQ) _ _ _ from tq (h h' tk' hS λb u e=>?_))
  have lb:=uK e
  exact hm.heap b u (by rw[sz,uF,uk,AAX];exact⟨uR lb,uR (vX lb)⟩) (tV _ (tV _ e))
theorem WV{Q:tW->tZ->Prop}(hh:A.handled=none)(hl:s.heap.IsList l items)(hi:wM items.toList ns)(hb:items.size+1<scanBound)(h:∀(h':uz) (tk:Nat),Mq prog w h' s.heap.objs.size (Ye ns items.size)->(∀b o,s.heap.get? b=Gc o->h'.get? b=Gc o)->Q (.ref s.heap.objs.size) {s with heap:=h',toks:=tk}):wpAny (model prog w) A (call (.type "set") [.ref l]) Q E s:=by
 obtain⟨c,tl,mr⟩:=xl.mro
 have z1:=xl.made
 have z2:=xl.sub
 have z3:=xl.notType
 have z4:=xl.canCreate
 have z5:=F.typeCall_set_1 (.ref l)
 refine wpAny_call (codeAny_of_tree (show wpAny _ _ (callAny (.type "set") _) _ _ _ from tq ⟨Code.quiet_builtin _ (by decide+kernel),wW F.entry_type_call ?_⟩))
 rw[Around.under_plain (weight_type_call_type "set" [.ref l] []) rfl]
 repeat (any_goals (first|assumption|wp_step))
 refine yg (ZI (.ref l) (E:=E) (Q₁:=λu s1=>u=.ref s.heap.objs.size/\s1={s with heap:=s.heap.push (sO (!byT w))}) ⟨rfl,rfl⟩) ?_
 rintro (e|(_|u|_)) s1 hr
 all_goals first|exact hr|exact hr.elim|skip
 obtain⟨rfl,rfl⟩:=hr
 have me:(s.heap.push (sO (!byT w))).get? s.heap.objs.size=Gc (sO (!byT w)):=uH _ rfl
 have ty:Shared.TypeIs {s with heap:=s.heap.push (sO (!byT w))} (.ref s.heap.objs.size) "set":=⟨_,me,rfl⟩
 have y1:=xl.init.lookup
 have y2:=xl.init.bind (.ref s.heap.objs.size)
 repeat (any_goals (first|assumption|wp_step))
 refine yg (V8 (E:=E) (Q:=λr s2=>r=.none/\∃h' tk,s2={s with heap:=h',toks:=tk}/\Mq prog w h' s.heap.objs.size (Ye ns items.size)/\∀b o,s.heap.get? b=Gc o->h'.get? b=Gc o) (by simp[hh]) hl hi hb λh' tk hS hk=>⟨rfl,h',tk,rfl,hS,hk⟩) ?_
 rintro (e|(_|u|_)) s2 hr
 all_goals first|exact hr|exact hr.elim|skip
 obtain⟨rfl,h',tk,rfl,hS,hk⟩:=hr
 repeat (any_goals (first|assumption|wp_step))
 exact h _ _ hS hk
end
end Mi
end
noncomputable section
namespace Mi
open PySem PySem.Spec L2 PyProof.Rows
section
variable{prog:uT}{w:ur}{A:u5}{E:tW->tZ->Prop}{s:tZ}{a:uC}{es:uu (Int×tW)}{ep:Nat}{t:SetTable}
def Mw(h:uz)(a:uC)(es:uu (Int×tW))(ep:Nat)(t:SetTable):Prop:=∃o,h.get? a=Gc o/\o.ExactSet/\o.data=.set es ep t/\t.fits es.size=true
theorem Mw.at{h h':uz}(x:Mw h a es ep t)(k:∀o,h.get? a=Gc o->h'.get? a=Gc o):Mw h' a es ep t:=let⟨o,ho,r⟩:=x;⟨o,k o ho,r⟩
theorem Ks{Q:uv->tZ->Prop}(h:Q (byT w) s):wpAny (model prog w) A setsByText Q E s:=by
 unfold setsByText
 exact Wp (AAN (tq h))
theorem WS{slot i:Nat}{Q:tY (tW×Nat)->tZ->Prop}(hb:byT w=true)(x:Mw s.heap a es ep t)(h:Q (((pickOrder (w.params.setOrder a ep) es)[i]?).map λe=>(e.2,slot)) s):wpAny (model prog w) A (setNext a slot i ep) Q E s:=by
 obtain⟨o,ho,hex,hd,hf⟩:=x
 unfold setNext
 refine Wp (xO ho hd hf (Wp (Ks ?_)))
 rw[hb]
 simp only[yj,bne_self_eq_false,xh,yi]
 unfold setWalk
 refine Wp (Wp (xO ho hd hf (Wp (Ks ?_))))
 rw[hb]
 exact Wp (AAN (tq (tq h)))
theorem Vj{slot i:Nat}{Q:tY (tW×Nat)->tZ->Prop}(hb:byT w=false)(x:Mw s.heap a es ep t)(hp:(!t.plain && decide (es.size>1))=false)(hl:t.led=true)(h:Q (match es[vH t.place slot]?,t.place[vH t.place slot]? with|some (_,x),Gc j=>Gc (x,j+1)|_,_=>none) s):wpAny (model prog w) A (setNext a slot i ep) Q E s:=by
 obtain⟨o,ho,hex,hd,hf⟩:=x
 unfold setNext
 refine Wp (xO ho hd hf (Wp (Ks ?_)))
 rw[hb]
 simp only[xh,yi]
 rw[uh (show¬_ from by show¬((!t.plain && decide (es.size>1))=true);rw[hp];simp)]
 refine Wp ?_
 show wpAny _ _ (if(!t.led && !es.isEmpty)=true then unsupported _ else pure ()) _ _ _
 rw[hl]
 exact tq (tq h)
theorem Be:Slot "set_iterator" "__next__" "set_iterator.__next__":=
 .of (owner:="set_iterator") (n:="__next__") (by rw[typeLookup_type,AAs];kernel_rfl) (by decide+kernel) (by decide+kernel) (by decide+kernel)
  (by first|exact .inl (by decide+kernel)|exact .inr (by decide+kernel)) (by rw[AA7];kernel_rfl)
theorem GX:entryFor table "set_iterator.__next__"=Gc wJ.«set_iterator.__next__» :=entryFor_of_tree (by kernel_rfl)
theorem Uw : Manifest.owners.lookup (String.ofList ['r', 'o', 't', 'a', 'r', 'e', 't', 'i', '_', 't', 'e', 's'].reverse) = Gc Manifest.sig_set_iterator := by kernel_rfl
theorem HU(a:tW):argsOk "set_iterator.__next__" ⟨[a],[]⟩:=by
 unfold argsOk; rw [signature?_of (id := "set_iterator.__next__") (n := ['_', '_', 't', 'x', 'e', 'n', '_', '_']) (o := ['r', 'o', 't', 'a', 'r', 'e', 't', 'i', '_', 't', 'e', 's']) (by kernel_rfl) Uw]; kernel_rfl
theorem MV:Slot "set_iterator" "__iter__" "set_iterator.__iter__":=
 .of (owner:="set_iterator") (n:="__iter__") (by rw[typeLookup_type,AAs];kernel_rfl) (by decide+kernel) (by decide+kernel) (by decide+kernel)
  (by first|exact .inl (by decide+kernel)|exact .inr (by decide+kernel)) (by rw[AA7];kernel_rfl)
theorem SH(a:tW):argsOk "set_iterator.__iter__" ⟨[a],[]⟩:=by
 unfold argsOk; rw [signature?_of (id := "set_iterator.__iter__") (n := ['_', '_', 'r', 'e', 't', 'i', '_', '_']) (o := ['r', 'o', 't', 'a', 'r', 'e', 't', 'i', '_', 't', 'e', 's']) (by kernel_rfl) Uw]; kernel_rfl
theorem Qu:entryFor table "set_iterator.__iter__"=Gc wJ.«dict_keyiterator.__iter__» :=
 entryFor_alias (id':="dict_keyiterator.__iter__") (by kernel_rfl) (by first|rfl|decide+kernel|(unfold String.splitOn;simp+decide [String.splitOnAux])) (by decide+kernel) (by kernel_rfl)
theorem Ow:entryFor table "set.__iter__"=Gc wJ.«frozenset.__iter__» :=
 entryFor_alias (id':="frozenset.__iter__") (by kernel_rfl) rfl (by decide+kernel) (by kernel_rfl)
def SIt(h:uz)(I a:uC)(f:tW)(i n ep:Nat):Prop:=∃o,h.get? I=Gc o/\o.cls=.type "set_iterator" /\o.data=.fields #[f,.int i 0,.ref a,.int n 0,.int ep 0]
variable{I:uC}{i n:Nat}{f:tW}
theorem SIt.typeIs(x:SIt s.heap I a f i n ep):s.TypeIs (.ref I) "set_iterator":=let⟨o,ho,c,_⟩:=x;⟨o,ho,c⟩
theorem SIt.at{h h':uz}(x:SIt h I a f i n ep)(k:∀o,h.get? I=Gc o->h'.get? I=Gc o):SIt h' I a f i n ep:=let⟨o,ho,r⟩:=x;⟨o,k o ho,r⟩
theorem XH{Q:tW->tZ->Prop}(x:SIt s.heap I a f i n ep)(h:Q (.ref I) s):wpAny (model prog w) A (pyIter (.ref I)) Q E s:=by
 refine wpAny_pyIter_slot x.typeIs MV (u9 MV x.typeIs Qu ?_ (SH _))
 show wpAny _ _ (ret (.ref I)) _ _ s
 exact tq ⟨_,rfl,"set_iterator",_,x.typeIs,Be.lookup,h⟩
theorem VQ{k nx:Nat}{v:tW}{Q:tY tW->tZ->Prop}(hit:SIt s.heap I a (.int k 0) i es.size ep)(hs:Mw s.heap a es ep t)(hN:∀{A:u5} {Q:tY (tW×Nat)->tZ->Prop} {E:tW->tZ->Prop},Q (Gc (v,nx)) s->wpAny (model prog w) A (setNext a k i ep) Q E s)(hQ:∀h',SIt h' I a (.int nx 0) (i+1) es.size ep->wY I s.heap h'->Q (Gc v) {s with heap:=h'}):wpAny (model prog w) A (pyNext (.ref I)) Q E s:=by
 obtain⟨o,ho,hc,hd⟩:=id hit
 obtain⟨os,hos,hex,hds,hf⟩:=id hs
 unfold pyNext
 refine Wp (yS (vA (name:=vQ "__next__") hit.typeIs Be
  (u9 Be hit.typeIs GX ?_ (HU _))))
 unfold wJ.«set_iterator.__next__»
 refine Wp (m:=slotArgs "__next__" 0 _) (tq (Wp (zd ho hd ?_)))
 show wpAny _ _ (setEntries a >>= _) _ _ _
 refine Wp (xV hos hds hf ?_)
 rw[uh (by simp)]
 show wpAny _ _ (setNext a k i ep >>= _) _ _ _
 refine Wp (hN ?_)
 show wpAny _ _ (setField (.ref I) 0 (rawInt nx) >>= λ_=>setField (.ref I) 1 (rawInt (i+1)) >>= λ_=>ret v) _ _ _
 refine Wp (w9 ho hd (by simp) ?_)
 have ho1:=u7 (ABQ (·.setIfInBounds 0 (rawInt nx))) ho (xB (vk hd _))
 have hd1:=vk hd (·.setIfInBounds 0 (rawInt nx))
 refine Wp (w9 ho1 hd1 (by simp) (tq ⟨v,rfl,tq (hQ _ ?_ ((vR ..).trans (vR ..)))⟩))
 exact⟨_,u7 _ ho1 (xB (vk hd1 _)),(yk ..).trans ((yk ..).trans hc),by
  rw[vk hd1];simp[rawInt]⟩
end
end Mi
end
noncomputable section
namespace Mi
open PySem PySem.Spec L2 PyProof.Rows
section
variable{prog:uT}{w:ur}{A:u5}{E:tW->tZ->Prop}{s:tZ}{a:uC}{es:uu (Int×tW)}{ep:Nat}{t:SetTable}{I:uC}{i n:Nat}{f:tW}
theorem WG{k:Nat}{Q:tY tW->tZ->Prop}(hh:A.handled=none)(hit:SIt s.heap I a (.int k 0) i es.size ep)(hs:Mw s.heap a es ep t)(hN:∀{A:u5} {Q:tY (tW×Nat)->tZ->Prop} {E:tW->tZ->Prop},Q none s->wpAny (model prog w) A (setNext a k i ep) Q E s)(hQ:∀h',ya I s.heap h'->Q none {s with heap:=h'}):wpAny (model prog w) A (pyNext (.ref I)) Q E s:=by
 obtain⟨o,ho,hc,hd⟩:=id hit
 obtain⟨os,hos,hex,hds,hf⟩:=id hs
 unfold pyNext
 refine Wp (yS (vA (name:=vQ "__next__") hit.typeIs Be
  (u9 Be hit.typeIs GX ?_ (HU _))))
 unfold wJ.«set_iterator.__next__»
 refine Wp (m:=slotArgs "__next__" 0 _) (tq (Wp (zd ho hd ?_)))
 show wpAny _ _ (setEntries a >>= _) _ _ _
 refine Wp (xV hos hds hf ?_)
 rw[uh (by simp)]
 show wpAny _ _ (setNext a k i ep >>= _) _ _ _
 refine Wp (hN ?_)
 show wpAny _ _ (setField (.ref I) 2 .none >>= λ_=>newExc (.type "StopIteration") [] >>= λe=>raiseNew e) _ _ _
 refine Wp (w9 ho hd (by simp) ?_)
 refine Wp ?_
 simp only[newExc,newTuple]
 refine Wp (vG ?_ (by size_fits))
 refine Wp (m:=firstArgMember _ _) (wpAny_of_eq (a:=wQ) (by first|rfl|(simp only[firstArgMember];rfl)) ?_)
 refine vG ?_ (by size_fits)
 simp only[raiseNew]
 refine Wp (wpAny_handled ?_)
 rw[show A.in1.handled=none from hh]
 refine Wp (tq (wpAny_throw ?_))
 refine Wp (yJ (T:="StopIteration") (b:=true) ⟨_,uH _ rfl,rfl⟩ AA0 ?_)
 exact tq (hQ _ (((vR ..).extBut.push _).push _))
theorem VS{T:uC}{pl:uu tW}{k:Nat}{e:Int×tW}{Q:tY tW->tZ->Prop}(hit:SIt s.heap I a (.ref T) i es.size ep)(hs:Mw s.heap a es ep t)(hT:s.heap.IsTuple T pl)(hp:pl[i]?=Gc (.int k 0))(he:es[k]?=Gc e)(hQ:∀h',SIt h' I a (.ref T) (i+1) es.size ep->wY I s.heap h'->Q (Gc e.2) {s with heap:=h'}):wpAny (model prog w) A (pyNext (.ref I)) Q E s:=by
 obtain⟨o,ho,hc,hd⟩:=id hit
 obtain⟨os,hos,hex,hds,hf⟩:=id hs
 obtain⟨ot,hot,_,nt,hdt⟩:=id hT
 unfold pyNext
 refine Wp (yS (vA (name:=vQ "__next__") hit.typeIs Be
  (u9 Be hit.typeIs GX ?_ (HU _))))
 unfold wJ.«set_iterator.__next__»
 refine Wp (m:=slotArgs "__next__" 0 _) (tq (Wp (zd ho hd ?_)))
 show wpAny _ _ (setEntries a >>= _) _ _ _
 refine Wp (xV hos hds hf ?_)
 rw[uh (by simp)]
 show wpAny _ _ (seqItems? (.ref T) >>= _) _ _ _
 refine Wp (wL hot hdt ?_)
 simp only[wN,hp]
 refine Wp (m:=setNextDrawn a k ep) ?_
 unfold setNextDrawn
 refine Wp (xO hos hds hf ?_)
 simp only[bne_self_eq_false,xh,yi,he]
 refine tq ?_
 show wpAny _ _ (setField (.ref I) 1 (rawInt (i+1)) >>= λ_=>ret e.2) _ _ _
 refine Wp (w9 ho hd (by simp) (tq ⟨e.2,rfl,tq (hQ _ ?_ (vR ..))⟩))
 exact⟨_,u7 _ ho (xB (vk hd _)),(yk ..).trans hc,by
  rw[vk hd];simp[rawInt]⟩
theorem XU{T:uC}{pl:uu tW}{Q:tY tW->tZ->Prop}(hh:A.handled=none)(hit:SIt s.heap I a (.ref T) i es.size ep)(hs:Mw s.heap a es ep t)(hT:s.heap.IsTuple T pl)(hp:pl[i]?=none)(hQ:∀h',ya I s.heap h'->Q none {s with heap:=h'}):wpAny (model prog w) A (pyNext (.ref I)) Q E s:=by
 obtain⟨o,ho,hc,hd⟩:=id hit
 obtain⟨os,hos,hex,hds,hf⟩:=id hs
 obtain⟨ot,hot,_,nt,hdt⟩:=id hT
 unfold pyNext
 refine Wp (yS (vA (name:=vQ "__next__") hit.typeIs Be
  (u9 Be hit.typeIs GX ?_ (HU _))))
 unfold wJ.«set_iterator.__next__»
 refine Wp (m:=slotArgs "__next__" 0 _) (tq (Wp (zd ho hd ?_)))
 show wpAny _ _ (setEntries a >>= _) _ _ _
 refine Wp (xV hos hds hf ?_)
 rw[uh (by simp)]
 show wpAny _ _ (seqItems? (.ref T) >>= _) _ _ _
 refine Wp (wL hot hdt ?_)
 simp only[wN,hp]
 show wpAny _ _ (setField (.ref I) 0 (rawInt 0) >>= λ_=>setField (.ref I) 2 .none >>= λ_=>newExc (.type "StopIteration") [] >>= λe=>raiseNew e) _ _ _
 refine Wp (w9 ho hd (by simp) ?_)
 have ho1:=u7 (ABQ (·.setIfInBounds 0 (rawInt 0))) ho (xB (vk hd _))
 have hd1:=vk hd (·.setIfInBounds 0 (rawInt 0))
 refine Wp (w9 ho1 hd1 (by simp) ?_)
 refine Wp ?_
 simp only[newExc,newTuple]
 refine Wp (vG ?_ (by size_fits))
 refine Wp (m:=firstArgMember _ _) (wpAny_of_eq (a:=wQ) (by first|rfl|(simp only[firstArgMember];rfl)) ?_)
 refine vG ?_ (by size_fits)
 simp only[raiseNew]
 refine Wp (wpAny_handled ?_)
 rw[show A.in1.handled=none from hh]
 refine Wp (tq (wpAny_throw ?_))
 refine Wp (yJ (T:="StopIteration") (b:=true) ⟨_,uH _ rfl,rfl⟩ AA0 ?_)
 exact tq (hQ _ ((((vR ..).trans (vR ..)).extBut.push _).push _))
theorem dI(hh:A.handled=none)(I a:uC)(hne:a≠I)(es:uu (Int×tW))(ep:Nat)(t:SetTable)(g:Nat->Nat)(items:uu tW)(hN:∀(s:tZ) (i:Nat) {A:u5} {Q:tY (tW×Nat)->tZ->Prop} {E:tW->tZ->Prop},Mw s.heap a es ep t->i<=items.size->Q (items[i]?.map λx=>(x,g (i+1))) s->wpAny (model prog w) A (setNext a (g i) i ep) Q E s):Walks prog w A I [I,a] [I] items.size (λi v=>items[i]?=Gc v) (λi h=>SIt h I a (.int (g i) 0) i es.size ep/\Mw h a es ep t) where
 sub:=λb hb=>by simp at hb;simp[hb]
 frame:=λ_ _ _ st hk=>⟨st.1.at λo e=>hk I (by simp) o e,st.2.at λo e=>hk a (by simp) o e⟩
 item:=λi s Q E hi st hQ=>by
  have e:items[i]?=Gc items[i]:=by simp[hi]
  refine VQ st.1 st.2 (v:=items[i]) (nx:=g (i+1)) (λq=>hN s i st.2 (wI hi) (by rw[e];exact q)) λh' hit' hs'=>?_
  exact hQ _ h' s.toks (by simp[hi]) ⟨hit',st.2.at λo e=>hs'.extBut a o hne e⟩ λb o hb e=>hs'.extBut b o (λh=>hb (by simp[h])) e
 done:=λs Q E st hQ=>WG hh st.1 st.2 (λq=>hN s items.size st.2 (tw _) (by simpa using q)) λh' he'=>hQ h' s.toks λb o hb e=>he' b o (λh=>hb (by simp[h])) e
 self:=λ_ _ _ _ st hQ=>XH st.1 hQ
theorem ir(hh:A.handled=none)(I a T:uC)(hne:a≠I)(hnT:T≠I)(es:uu (Int×tW))(ep:Nat)(t:SetTable)(ks:KE Nat)(items:uu tW)(hz:items.size=ks.length)(hk:∀(i k:Nat),ks[i]?=Gc k->∃e:Int×tW,es[k]?=Gc e/\items[i]?=Gc e.2):Walks prog w A I [I,a,T] [I] items.size (λi v=>items[i]?=Gc v) (λi h=>SIt h I a (.ref T) i es.size ep/\Mw h a es ep t/\h.IsTuple T (ks.map λ(i:Nat)=>rawInt i).toArray) where
 sub:=λb hb=>by simp at hb;simp[hb]
 frame:=λ_ _ _ st hk=>⟨st.1.at λo e=>hk I (by simp) o e,st.2.1.at λo e=>hk a (by simp) o e,st.2.2.at λo e=>hk T (by simp) o e⟩
 item:=λi s Q E hi st hQ=>by
  have hi':i<ks.length:=by omega
  obtain⟨e,he,hv⟩:=hk i ks[i] (by simp[hi'])
  refine VS st.1 st.2.1 st.2.2 (k:=ks[i]) (by simp[hi',rawInt]) he λh' hit' hs'=>?_
  exact hQ _ h' s.toks hv ⟨hit',st.2.1.at λo e=>hs'.extBut a o hne e,st.2.2.at λo e=>hs'.extBut T o hnT e⟩ λb o hb e=>hs'.extBut b o (λh=>hb (by simp[h])) e
 done:=λs Q E st hQ=>XU hh st.1 st.2.1 st.2.2 (by simp[hz]) λh' he'=>hQ h' s.toks λb o hb e=>he' b o (λh=>hb (by simp[h])) e
 self:=λ_ _ _ _ st hQ=>XH st.1 hQ
end
end Mi
end
noncomputable section
namespace Mi
open PySem PySem.Spec L2 PyProof.Rows
theorem Lq{α:Type}:∀(l:KE α) (i:Nat) (h:i<l.length),(l[i]::l.eraseIdx i).Perm l
 |x::l,0,h=>yp _
 |x::l,i+1,h=>(List.Perm.swap _ _ _).trans (List.Perm.cons _ (Lq l i (by simpa using h)))
theorem Wq{α:Type}(nx:Nat->Nat):∀(fuel k:Nat) (left:KE α) (out:uu α),left.length<=fuel->(pickOrder.go nx fuel k left out).toList.Perm (out.toList++left)
 |0,k,left,out,h=>by
  cases left with
  |nil=>simp[pickOrder.go]
  |cons x l=>simp at h
 |fuel+1,k,left,out,h=>by
  unfold pickOrder.go
  cases e:left[nx k % left.length]? with
  |none=>
   cases left with
   |nil=>simp
   |cons x l=>
    rw[zf]at e
    exact absurd (ABb (nx k) (Nat.succ_pos l.length)) (by simpa using e)
  |some x=>
   obtain⟨lt,rfl⟩:=uI.mp e
   refine(Wq nx fuel (k+1) _ _ (by rw[AA8];simp[lt];omega)).trans ?_
   rw[Array.toList_push,xM]
   exact List.Perm.append_left _ (Lq _ _ lt)
theorem Wh{α:Type}(nx:Nat->Nat)(xs:uu α):(pickOrder nx xs).toList.Perm xs.toList:=by
 have:=Wq nx xs.size 0 xs.toList #[] (by simp)
 unfold pickOrder
 simpa using this
section
variable{prog:uT}{w:ur}{A:u5}{E:tW->tZ->Prop}{s:tZ}{a:uC}
theorem wp_choose{M:Model}{src:Source}{n:Nat}{Q:Nat->tZ->Prop}(hn:n≠0)(h:∀i d,i<n->Q i {s with drawn:=d}):wpAny M A (choose src n) Q E s:=
 λ_ _ _=>⟨hn,h _ _ (ABb _ (xm hn))⟩
theorem RF{α:Type}:∀(n:Nat) (xs:KE α) (s:tZ) {Q:KE α->tZ->Prop},xs.length<=n->(∀ys d,ys.Perm xs->Q ys {s with drawn:=d})->wpAny (model prog w) A (drawOrder n xs) Q E s
 |0,xs,s,Q,hl,h=>by
  cases xs with
  |nil=>exact tq (h [] s.drawn (yp _))
  |cons x l=>simp at hl
 |n+1,[],s,Q,hl,h=>tq (h [] s.drawn (yp _))
 |n+1,x::l,s,Q,hl,h=>by
  unfold drawOrder
  refine Wp (wp_choose (by simp) λi d hi=>?_)
  have e:(x::l)[i]?=Gc (x::l)[i]:=by simp[hi]
  rw[e]
  refine Wp (RF n _ _ (by rw[AA8,uZ hi];simp at hl ⊢; omega) λys d' p=>tq (h _ d' ?_))
  exact(List.Perm.cons _ p).trans (Lq _ _ hi)
theorem QD{es:KE (Int×tW)}(h:AAa (intKind prog w) es):wM (es.map (·.2)) (vls es):=by
 induction es with
 |nil=>exact .nil
 |cons e l ih=>
  obtain⟨⟨k,q,_⟩,_⟩:=h.head
  obtain⟨t,hv⟩:=zh q
  obtain⟨x,v⟩:=e
  dsimp only at hv
  subst hv
  exact .cons _ _ (ih h.tail)
theorem XQ{L:KE Int}{Q:tW->tZ->Prop}(hS:Mq prog w s.heap a L)(h:∀(I:uC) (fp:KE uC) (items:uu tW) (St:Nat->uz->Prop) (ms:KE Int) (h':uz) (d':Drawn),(∀A':u5,A'.handled=none->Walks prog w A' I fp [I] items.size (λi v=>items[i]?=Gc v) St)->St 0 h'->(∀b∈fp,b<h'.objs.size)->(∀b∈fp,b=a\/s.heap.objs.size<=b)->s.heap.objs.size<=I->wM items.toList ms->ms.Perm L->(∀b o,s.heap.get? b=Gc o->h'.get? b=Gc o)->Q (.ref I) {s with heap:=h',drawn:=d'}):wpAny (model prog w) A (pyIter (.ref a)) Q E s:=by
 obtain⟨o,es,ep,t,ho,hex,hd,hel,hp,hb,hf,ht⟩:=hS
 have ty:s.TypeIs (.ref a) "set":=⟨o,ho,hex.1⟩
 have la:=uK ho
 have ps:t.place.size=es.size:=by simp only[SetTable.fits,uP,yV]at hf;exact hf.1
 refine wpAny_pyIter_slot ty F.slot_set_iter (u9 F.slot_set_iter ty Ow ?_ (F.args_set_iter_1 _))
 unfold wJ.«frozenset.__iter__»
 refine Wp (m:=Builtin.Frozenset.slot0 "__iter__" _) (tq ?_)
 refine Wp (m:=Builtin.Frozenset.sizeOf a) (Wp (xV ho hd hf (tq ?_)))
 refine Wp (m:=setDrawn a) ?_
 unfold setDrawn
 refine Wp (xO ho hd hf (Wp (Ks (tq ?_))))
 show wpAny _ _ (if(!byT w && (!t.plain && decide (es.size>1)))=true then _ else _) _ _ _
 cases hbt:byT w with
 |true=>
  rw[uh (by simp)]
  refine Wp (tq (Wp (z0 ho hd hf (Wp (vG ?_)))))
  refine tq ⟨_,rfl,"set_iterator",_,⟨_,uH _ rfl,rfl⟩,Be.lookup,?_⟩
  have pk:=Wh (w.params.setOrder a ep) es
  refine h _ [s.heap.objs.size,a] ((pickOrder (w.params.setOrder a ep) es).map (·.2)) _ (vls (pickOrder (w.params.setOrder a ep) es).toList) _ _
   (λA' hh=>dI hh _ a (uR la) es ep t (λ_=>0) _ λs i A Q E x hi q=>WS hbt x (by simpa[Function.comp_def]using q))
   ⟨⟨_,uH _ rfl,rfl,rfl⟩,o,tV _ ho,hex,hd,hf⟩ ?_ (λb hb=>by simp at hb;rcases hb with rfl|rfl<;>simp) (tw _) ?_ ((pk.map iOf).trans hp) (λb o e=>tV _ e)
  .intro b hb
   rw[uo]
   simp at hb
   rcases hb with rfl|rfl
   .exact wk _
   .exact vX la
  .rw[Array.toList_map]
   exact QD (hel.perm pk)
 |false=>
  rw[hbt]at ht
  cases hpl:(!t.plain && decide (es.size>1))with
  |false=>
   rw[uh (by simp)]
   refine Wp (tq (Wp (z0 ho hd hf (Wp (vG ?_)))))
   refine tq ⟨_,rfl,"set_iterator",_,⟨_,uH _ rfl,rfl⟩,Be.lookup,?_⟩
   refine h _ [s.heap.objs.size,a] (es.map (·.2)) _ (vls es.toList) _ _
    (λA' hh=>dI hh _ a (uR la) es ep t (slotAt t.place) _ λs i A Q E x hi q=>Vj hbt x hpl (by rw[ht.led];rfl) ?_)
    ⟨⟨_,uH _ rfl,rfl,rfl⟩,o,tV _ ho,hex,hd,hf⟩ ?_ (λb hb=>by simp at hb;rcases hb with rfl|rfl<;>simp) (tw _) ?_ hp (λb o e=>tV _ e)
   .have hi':i<=es.size:=by simpa using hi
    rw[Vn ht.ris (by omega)]
    by_cases z:i<es.size
    .have z':i<t.place.size:=by omega
     have e1:es[i]?=Gc es[i]:=by simp[z]
     have e2:t.place[i]?=Gc t.place[i]:=by simp[z']
     rw[ABc,e1]at q
     have e3:slotAt t.place (i+1)=t.place[i]+1:=by simp[slotAt,AAZ,z']
     rw[e1,e2]
     simp only[Option.map_some,e3]at q
     exact q
    .have e1:es[i]?=none:=by simp;omega
     rw[ABc,e1]at q
     rw[e1]
     exact q
   .intro b hb
    rw[uo]
    simp at hb
    rcases hb with rfl|rfl
    .exact wk _
    .exact vX la
   .rw[Array.toList_map]
    exact QD hel
  |true=>
   rw[uZ (by simp)]
   refine Wp (RF _ _ _ (Nat.le_of_eq z6) λks d pks=>Wp (wpAny_newTuple ?_ ?_))
   .refine Wp (z0 (tV _ ho) hd hf (Wp (vG ?_)))
    refine tq ⟨_,rfl,"set_iterator",_,⟨_,uH _ rfl,rfl⟩,Be.lookup,?_⟩
    have kl:ks.length=es.size:=by have:=pks.length_eq;simpa using this
    have al:(uJ es.size).map (λk=>es.getD k (0,.none))=es.toList:=by
     apply wq
     .simp
     .intro i h1 h2
      simp at h1 h2
      simp[AAZ,h2]
    have pe:(ks.map (λk=>es.getD k (0,.none))).Perm es.toList:=by rw[<-al];exact pks.map _
    refine h _ [(s.heap.push _).objs.size,a,s.heap.objs.size] ((ks.map (λk=>es.getD k (0,.none))).map (·.2)).toArray _ (vls (ks.map (λk=>es.getD k (0,.none)))) _ _
     (λA' hh=>ir hh _ a s.heap.objs.size (by rw[uo];exact uR (vX la)) (by rw[uo];exact uR (wk _)) es ep t ks _ (by simp) λi k e=>?_)
     ⟨⟨_,uH _ rfl,rfl,rfl⟩,⟨o,tV _ (tV _ ho),hex,hd,hf⟩,⟨_,tV _ (uH _ rfl),rfl,_,rfl⟩⟩ ?_ (λb hb=>by rw[uo]at hb;simp at hb;rcases hb with rfl|rfl|rfl<;>simp) (by rw[uo];exact zw _) ?_ ((pe.map iOf).trans hp) (λb o e=>tV _ (tV _ e))
    .have km:k<es.size:=by
      have:k∈uJ es.size:=pks.mem_iff.mp (uS e)
      simpa using this
     exact⟨es[k],by simp[km],by simp[e,AAZ,km]⟩
    .intro b hb
     rw[uo,uo]
     rw[uo]at hb
     simp at hb
     rcases hb with rfl|rfl|rfl
     .exact wk _
     .exact vX (vX la)
     .exact vX (wk _)
    .exact QD (hel.perm pe)
   .rw[uX,pks.length_eq,z6];exact yo hb
end
end Mi
end
noncomputable section
namespace Mi
open PySem PySem.Spec L2 PyProof.Rows
section
variable{prog:uT}{w:ur}{A:u5}{E:tW->tZ->Prop}{s:tZ}{a:uC}{L:KE Int}
theorem Mq.typeIs(x:Mq prog w s.heap a L):s.TypeIs (.ref a) "set":=let⟨o,_,_,_,ho,e,_⟩:=x;⟨o,ho,e.1⟩
theorem Zl{items acc:uu tW}(h:ABI (λi v=>items[i]?=Gc v) acc items.size):acc=items:=by
 apply Array.ext
 .exact h.1
 .intro i h1 h2
  have:=h.2 i acc[i] (by simp)
  simpa[h2]using this.symm
theorem aH{Q:uv->tZ->Prop}(x:s.TypeIs (.ref a) "set")(h:Q false s):wpAny (model prog w) A (wc (.ref a)) Q E s:=by
 unfold wc
 refine Wp (zI x F.slot_set_len.lookup ?_)
 generalize hid:("set.__len__":xD)=id0
 wp_delta
 rw[show splitId id0=Gc ("set","__len__")from by subst hid;decide+kernel]
 subst hid
 refine Wp (yJ (b:=true) x sub_set_self ?_)
 rw[uh (by decide)]
 dsimp only
 rw[uZ (by decide+kernel)]
 refine Wp (yH (T:="set") x ?_)
 exact tq h
theorem SK{Q:KE tW->tZ->Prop}(hh:A.handled=none)(hS:Mq prog w s.heap a L)(h:∀(vs:KE tW) (ms:KE Int) (h':uz) (d':Drawn) (tk:Nat),wM vs ms->ms.Perm L->(∀b o,s.heap.get? b=Gc o->h'.get? b=Gc o)->s.heap.objs.size<=h'.objs.size->Q vs {s with heap:=h',drawn:=d',toks:=tk}):wpAny (model prog w) A (collect (.ref a)) Q E s:=by
 have lb:L.length<scanBound:=by
  obtain⟨o,es,ep,t,ho,hex,hd,hel,hp,hb,hf,ht⟩:=hS
  have:=hp.length_eq
  simp at this
  lia
 unfold collect
 refine Wp (AA6 (wW z9 ?_))
 rw[v7 AAA _]
 show wpAny _ A.in1 (newList [] >>= λl=>again (.builtin "list.__iadd__" ⟨[l,.ref a],[]⟩)) _ _ s
 refine Wp (AAB ?_)
 refine tq ⟨yT yC _,wW AA9 ?_⟩
 rw[v7 yC _]
 show wpAny _ A.in1 (vO (.ref s.heap.objs.size) (.ref a) (.ref s.heap.objs.size)) _ _ {s with heap:=s.heap.push (seqObj "list" #[] 0)}
 have hS1:Mq prog w (s.heap.push (seqObj "list" #[] 0)) a L:=hS.at λo e=>tV _ e
 have la:a<s.heap.objs.size:=by obtain⟨o,es,ep,t,ho,r⟩:=hS;exact uK ho
 have me:(s.heap.push (seqObj "list" #[] 0)).get? s.heap.objs.size=Gc (seqObj "list" #[] 0):=uH _ rfl
 have h1:xU (.ref s.heap.objs.size) (.ref a)=false:=by simp[xU];exact yd la
 unfold vO
 refine Wp (yH (T:="set") (Mq.typeIs (s:={s with heap:=s.heap.push (seqObj "list" #[] 0)}) hS1) ?_)
 rw[uh (by rw[h1];decide)]
 refine Wp (XQ (s:={s with heap:=s.heap.push (seqObj "list" #[] 0)}) hS1 λI fp items St ms h2 d2 W st fpl fpn Ip im pm kp=>?_)
 have hS2:Mq prog w h2 a L:=hS1.at λo e=>kp a o e
 refine Wp (vK (aH (Mq.typeIs (s:={s with heap:=h2,drawn:=d2}) hS2) ?_))
 rw[uZ (by decide+kernel)]
 have Ip':s.heap.objs.size<I:=by rw[show _=s.heap.objs.size+1 from uo ..]at Ip;exact Ip
 have hSf:s.heap.objs.size∉fp:=λz=>by
  rcases fpn _ z with e|e
  .exact yd la e
  .rw[show _=s.heap.objs.size+1 from uo ..]at e;exact vV _ e
 have m2:=kp _ _ me
 have hn:items.size<=sizeLine:=by
  have e1:=im.length
  have e2:=pm.length_eq
  simp at e1
  have:=yo lb
  lia
 refine Wp (xP (Wp ?_))
 show wpAny _ A.in1 (updateSeq s.heap.objs.size (·.push .none) >>= λ_=>updateSeq s.heap.objs.size (·.pop)) _ _ _
 refine Wp (xu (s:={s with heap:=h2,drawn:=d2}) m2 rfl ?_)
 have m3:=u7 (vt (·.push wQ)) m2 rfl
 refine xu m3 rfl ?_
 have m4:=u7 (vt (·.pop)) m3 rfl
 have oth:∀b o,b≠s.heap.objs.size->h2.get? b=Gc o->
   ((h2.update s.heap.objs.size (vt (·.push wQ))).update s.heap.objs.size (vt (·.pop))).get? b=Gc o:=
  λb o hb e=>(vm _ _ (vZ hb)).trans ((vm _ _ (vZ hb)).trans e)
 have W1:=(W A.in1 (by simp[hh])).toS
 refine tq ⟨yT ABM _,ABA W1 hn _ hSf _ items.size 0 _ _ _ rfl (ve _) ?_ m4 (ItemsOf.nil _) λs' acc' c' hm hS' hacc=>?_⟩
 .exact(W A.in1 (by simp[hh])).frame 0 _ _ st λb hb o e=>oth b o (λz=>hSf (z▸hb)) e
 .have ea:=Zl hacc
  subst ea
  obtain⟨h',g',d',tk',os'⟩:=s'
  have e1:g'=s.gens:=hm.gens
  have e2:d'=d2:=hm.drawn
  have e3:os'=s.os:=hm.os
  subst e1 e2 e3
  refine Wp (wpAny_load hS' (tq (h _ ms _ _ _ im pm (λb o e=>?_) (wI (uK hS')))))
  have lb:=uK e
  exact hm.heap b o (by simp;exact⟨uR lb,uR (yI lb Ip')⟩) (oth b o (uR lb) (kp b o (tV _ e)))
end
end Mi
end
noncomputable section
namespace Mi
open PySem PySem.Spec L2 PyProof.Rows
section
variable{prog:uT}{w:ur}{A:u5}{E:tW->tZ->Prop}{s:tZ}{a:uC}{L:KE Int}
theorem TF{Q:tW->tZ->Prop}(hh:A.handled=none)(hS:Mq prog w s.heap a L)(h64:L.length<64)(h:∀(p:uC) (out:uu tW) (e:Nat) (ms:KE Int) (h':uz) (d':Drawn) (tk:Nat),s.heap.objs.size<=p->h'.get? p=Gc (seqObj "list" out e)->wM out.toList ms->ms.Perm L->ms.Pairwise (· <= ·)->(∀b o,s.heap.get? b=Gc o->h'.get? b=Gc o)->Q (.ref p) {s with heap:=h',drawn:=d',toks:=tk}):wpAny (model prog w) A (call (.builtin "sorted") [.ref a]) Q E s:=by
 refine zM kind_sorted plain_sorted entry_sorted (args_sorted1 _) ?_
 unfold wJ.«sorted»
 refine Wp (m:=checkCount "sorted" 1 1 _) (tq (Wp (SK (by simp[hh]) hS λvs ms h' d' tk im pm kp lz=>Wp (AAB ?_ ?_))))
 .have at1:(h'.push (seqObj "list" vs.toArray 0)).get? h'.objs.size=Gc (seqObj "list" vs.toArray 0):=uH _ rfl
  have vl:vs.length<64:=by rw[im.length,pm.length_eq];exact h64
  show wpAny _ _ _ _ _ {s with heap:=h'.push (seqObj "list" vs.toArray 0),drawn:=d',toks:=tk}
  refine Wp (vK (u9 slot_list_sort ⟨_,at1,rfl⟩ entry_list_sort (list_sort_tree at1 im vl λout ns' a1 a2 a3=>⟨_,rfl,tq ⟨_,rfl,?_⟩⟩) (args_list_sort _)))
  obtain⟨e,he⟩:=sortedHeap_at (out:=out) at1
  refine h _ out e ns' _ d' tk lz he a1 (a2.trans pm) a3 λb o q=>?_
  have lb:b<h'.objs.size:=uK (kp b o q)
  rw[sortedHeap_old (uR lb) (by rw[uo];exact vX lb)]
  exact tV _ (kp b o q)
 .have:vs.length<64:=by rw[im.length,pm.length_eq];exact h64
  exact uA (wI this) (by decide)
end
theorem aV{X:Cx}{pins:KE (uC×Obj)}{σ:KE (tY V)}{H:Hp}{s:tZ}(I:Inv X pins σ H s)(d:Drawn):Inv X pins σ H {s with drawn:=d}:=
 I.step (g':=s.gens) (d':=d) (t':=s.toks) (ch:=[]) (λ_ z=>nomatch z) (λ_ _ _ _ _ e _=>e) (λb o _ _ _ e _=>⟨o.slots,e⟩) (λ_ _ _ _ n=>n) (λb o _ e=>⟨o,e⟩) (λ_ _ e=>e) (λ_ _ _ e=>e) (λb ps e=>⟨#[],by rw[e];simp⟩) (λ_ m=>m) I.hok I.bare
noncomputable def wSS:Op1:=λw=>(asL w).bind λds=>(LQ ds).bind λns=>if ns.length<=1000/\(Ye ns ns.length).length<64 then Gc (.own ((HE (Ye ns ns.length)).map D.int))else none
theorem mK{X:Cx}{a:ui}{ta:TA}{p p' pos pos':Pos}(hc:X.calm=true)(hgl:Gl X "sorted")(hml:X.mg "sorted"=none)(hg:Gl X "set")(hm:X.mg "set"=none)(ha:PA X [a] ta)(hs:uW [a] X.env=[(false,eval a X.env)]:=by rfl)(hs2:uW [Expr.Call (.Name "set" p) [a] [] pos] X.env=[(false,eval (.Call (.Name "set" p) [a] [] pos) X.env)]:=by rfl):PE X (.Call (.Name "sorted" p') [.Call (.Name "set" p) [a] [] pos] [] pos') (λσ H Q=>ta σ H λvs H1=>rN X.K (o1 wSS) vs H1 Q):=by
 intro pins s σ H Q I h
 refine xf (MN I hgl hml boot_sorted ?_ (by decide) (by decide))
 refine callWith_builtin1 ?_ hs2 rfl
 rw[hs2]
 show wpAny _ _ (spliced ((false,eval (.Call (.Name "set" p) [a] [] pos) X.env)::backTo pos' [])) _ _ s
 refine yF ?_
 refine xf (MN I hg hm PyProof.Rows.boot_set ?_ (by decide) (by decide))
 refine wZ (thn (ha pos pins s σ H _ I h) λus s1 ⟨vs,H1,I1,r1,q1⟩=>?_) hs rfl
 obtain⟨M,ws,w,e,mo,sh,q⟩:=q1
 obtain⟨v,w1,rfl,rfl,sh1,e1⟩:=KZ sh e
 obtain⟨ds,e2,e1⟩:=A5 e1
 obtain⟨ns,e3,e1⟩:=A5 e1
 split at e1
 .rename_i hz
  cases e1
  obtain⟨b,ys,rfl,h3,h4⟩:=sh1.l e2
  have hL:SqL X.K H1 b (ns.map V.int):=by rw[<-LK h4 e3];exact .of h3
  obtain⟨u,rfl,ru⟩:=r1.one
  cases (show u=vN b from ru)
  obtain⟨its,rv,pl,_⟩:=I1.list hL
  have hl:its.length=ns.length:=by have:=rv.length;simpa using this.symm
  have hl2:its.toArray.size=ns.length:=by rw[uM,hl]
  refine WV (items:=its.toArray) (ns:=ns) (I1.ok.hd hc) pl.isList (by simpa using intsAre_of rv) (by rw[hl2];unfold scanBound;lia) λh' tk hS hk=>zO ?_
  rw[hl2]at hS
  refine TF (s:={s1 with heap:=h',toks:=tk}) (I1.ok.hd hc) hS hz.2 λp out e ms h2 d2 tk2 lp hp a1 a2 a3 kp=>?_
  have hs':=J4 a2 a3
  subst hs'
  have k2:∀b o,s1.heap.get? b=Gc o->h2.get? b=Gc o:=λb o z=>kp b o (hk b o z)
  have lp2:s1.heap.objs.size<=p:=by
   obtain⟨_,_,_,_,ho,_⟩:=hS
   exact uA (wI (uK ho)) lp
  have hn:H1 p=none:=I1.hok.fresh lp2
  refine⟨.ref _,_,aV (I1.laid (a:=p) (o:=.lst ((HE (Ye ns ns.length)).map V.int)) (t':=tk2) k2 lp2 ?_) d2,rfl,q _ _ (.lst mo hn Ic)⟩
  refine⟨?_,out.toList,e,F3 a1,?_⟩
  .rw[uX,(GZ _).length_eq]
   have:(64:Nat)<=sizeLine:=by decide
   lia
  .rw[yB];exact hp
 .cases e1
theorem nS{X:Cx}{a:ui}{o:Ev}{c:uv}{p p' pos pos':Pos}(hc:X.calm=true)(hgl:Gl X "sorted")(hml:X.mg "sorted"=none)(hg:Gl X "set")(hm:X.mg "set"=none)(ha:DEs X [a] [o])(hs:uW [a] X.env=[(false,eval a X.env)]:=by rfl)(hs2:uW [Expr.Call (.Name "set" p) [a] [] pos] X.env=[(false,eval (.Call (.Name "set" p) [a] [] pos) X.env)]:=by rfl):DE X (.Call (.Name "sorted" p') [.Call (.Name "set" p) [a] [] pos] [] pos') (Qw c (o1 wSS) [o]):=⟨
 Bi (mK hc hgl hml hg hm ha.pe hs hs2) λ_ _ _ h=>by
  obtain⟨M,E,S,d,S',e,r,st,q⟩:=h
  exact OC e r st q⟩
end Mi
end
noncomputable section
namespace Mi
open PySem PySem.Spec L2 PyProof.Rows
section
variable{prog:uT}{w:ur}{A:u5}{E:tW->tZ->Prop}{s:tZ}{K:Type} [zl K] {knd:KeyKind prog w K}{d:uC}{kvs:KE (K×tW)}
abbrev gj(knd:KeyKind prog w K)(kvs:KE (K×tW)):Nat->tW->Prop:=λi v=>∃k x,kvs[i]?=Gc (k,x)/\knd.is k v=true
theorem Xr{Q:uv->tZ->Prop}(x:s.TypeIs (.ref d) "dict")(h:Q false s):wpAny (model prog w) A (wc (.ref d)) Q E s:=by
 unfold wc
 refine Wp (zI x F.slot_dict_len.lookup ?_)
 generalize hid:("dict.__len__":xD)=id0
 wp_delta
 rw[show splitId id0=Gc ("dict","__len__")from by subst hid;decide+kernel]
 subst hid
 refine Wp (yJ (b:=true) x (by rw[AA7];kernel_rfl) ?_)
 rw[uh (by decide)]
 dsimp only
 rw[uZ (by decide+kernel)]
 refine Wp (yH (T:="dict") x ?_)
 exact tq h
theorem OS{R:Result->tZ->Prop}{S:uC}{res:tW}{c₀:Nat}(hh:A.handled=none)(hd:(d==sysModules)=false)(D:s.heap.DictOf knd d kvs)(hn:kvs.length<=sizeLine)(hS:s.heap.get? S=Gc {cls:=.type "list",data:=.seq #[] c₀})(hR:∀h' tk acc' c',(∀b o,b≠S->s.heap.get? b=Gc o->h'.get? b=Gc o)->h'.get? S=Gc {cls:=.type "list",dict:=none,data:=.seq acc' c',slots:= #[]}->ABI (gj knd kvs) acc' kvs.length->R (.ok (.ret res)) {s with heap:=h',toks:=tk}):wpAny (model prog w) A.in1 (vO (.ref S) (.ref d) res) (λfin s'=>match fin with| .done f=>R (.ok f) s'| .again c'=>c'.quiet=true/\codeAny (model prog w) A c' R s') (λe s'=>R (.error e) s') s:=by
 obtain⟨ep,D⟩:=D.dictAt
 have ty:s.TypeIs (.ref d) "dict":=D.dictOf.typeIs
 have ld:=D.lt_size
 have lS:=uK hS
 have hSd:S≠d:=λe=>by
  subst e
  obtain⟨o,es,ho,hc,_⟩:=id D
  rw[hS]at ho;cases ho
  exact absurd hc.1 (by simp)
 have h1:xU (.ref S) (.ref d)=false:=by simp[xU,hSd]
 unfold vO
 refine Wp (yH (T:="dict") ty ?_)
 rw[uh (by rw[h1];decide)]
 refine Wp (wpAny_pyIter_dict hd D ?_)
 generalize hkI:({cls:=.type "dict_keyiterator",data:=.fields #[.ref d,.int 0 0,.int kvs.length 0,.int ep 0]}:Obj)=kI
 have D1:=D.push kI
 refine Wp (vK (Xr (Heap.DictOf.typeIs (s:={s with heap:=s.heap.push _}) D1.dictOf) ?_))
 rw[uZ (by decide+kernel)]
 have S1:=tV kI hS
 refine Wp (xP (Wp ?_))
 show wpAny _ A.in1 (updateSeq S (·.push .none) >>= λ_=>updateSeq S (·.pop)) _ _ _
 refine Wp (xu S1 rfl ?_)
 have m3:=u7 (vt (·.push wQ)) S1 rfl
 refine xu (hz:=by seq_fits) m3 rfl ?_
 have m4:=u7 (vt (·.pop)) m3 rfl
 have oth:∀(h2:uz) b o,b≠S->h2.get? b=Gc o->
   ((h2.update S (vt (·.push wQ))).update S (vt (·.pop))).get? b=Gc o:=
  λh2 b o hb e=>(vm _ _ (vZ hb)).trans ((vm _ _ (vZ hb)).trans e)
 have W:=Walks.dictKeys (knd:=knd) (A:=A.in1) (by simp[hh]) s.heap.objs.size d (uR ld) kvs ep
 have hSf:S∉ [s.heap.objs.size,d]:=by simp;exact⟨uR lS,hSd⟩
 refine tq ⟨yT ABM _,ABA W.toS hn _ hSf _ kvs.length 0 _ _ _ rfl (ve _) ?_ m4 (ItemsOf.nil _) λs' acc' c' hm hS' hacc=>?_⟩
 .exact W.frame 0 (s.heap.push kI) _ ⟨⟨kI,uH _ (by rw[<-hkI];rfl),by rw[<-hkI],by rw[<-hkI];rfl⟩,D1⟩ λb hb o e=>oth (s.heap.push kI) b o (λz=>hSf (z▸hb)) e
 .obtain⟨h',g',d',tk',os'⟩:=s'
  have e1:g'=s.gens:=hm.gens
  have e2:d'=s.drawn:=hm.drawn
  have e3:os'=s.os:=hm.os
  subst e1 e2 e3
  refine hR h' tk' acc' c' (λb o nb e=>?_) hS' hacc
  have lb:=uK e
  have q2:=oth (s.heap.push kI) b o nb (tV kI e)
  have q3:b∉S:: [s.heap.objs.size]:=by simp;exact⟨nb,uR lb⟩
  exact hm.heap b o q3 q2
theorem Vx{Q:tW->tZ->Prop}(hh:A.handled=none)(hd:(d==sysModules)=false)(D:s.heap.DictOf knd d kvs)(hn:kvs.length<=sizeLine)(hQ:∀h' tk acc' c',(∀b o,s.heap.get? b=Gc o->h'.get? b=Gc o)->h'.get? s.heap.objs.size=Gc {cls:=.type "list",dict:=none,data:=.seq acc' c',slots:= #[]}->ABI (gj knd kvs) acc' kvs.length->Q (.ref s.heap.objs.size) {s with heap:=h',toks:=tk}):wpAny (model prog w) A (call (.type "list") [.ref d]) Q E s:=by
 refine callType_codes (Q₁:=λobj s₁=>obj=.ref s.heap.objs.size/\s₁={s with heap:=s.heap.push {cls:=.type "list",data:=.seq #[]}}) F.called_list (F.typeCall_list_1 _) F.entry_list_init
  (code_list_new _ ⟨rfl,rfl⟩) λobj s₁ h₁=>?_
 obtain⟨rfl,rfl⟩:=h₁
 have hS:(s.heap.push {cls:=.type "list",data:=.seq #[]}).get? s.heap.objs.size=Gc {cls:=.type "list",data:=.seq #[]}:=uH _ rfl
 refine⟨⟨_,hS,rfl⟩,F.args_list_init_2 _ _,?_⟩
 show wpAny _ _ (do let old<-AAc (.ref s.heap.objs.size);Builtin.List.listUpdate (.ref s.heap.objs.size) (λ_=> #[]);letGo old.toList.reverse;vO (.ref s.heap.objs.size) (.ref d) .none) _ _ _
 refine Wp ?_
 unfold AAc
 refine Wp (wL hS rfl (tq ?_))
 show wpAny _ _ (updateSeq s.heap.objs.size (λ_=> #[]) >>= λ_=>letGo (#[]:uu tW).toList.reverse >>= λ_=>vO (.ref s.heap.objs.size) (.ref d) .none) _ _ _
 refine Wp (xu hS rfl ?_)
 have hS₂:=u7 (vt (λ_=>(#[]:uu tW))) hS rfl
 have oth:∀b o,b≠s.heap.objs.size->(s.heap.push {cls:=.type "list",data:=.seq #[]}).get? b=Gc o->((s.heap.push {cls:=.type "list",data:=.seq #[]}).update s.heap.objs.size (vt (λ_=>(#[]:uu tW)))).get? b=Gc o:=
  λb o hb e=>(vm _ _ (vZ hb)).trans e
 refine Wp (AAz ?_)
 have ld:d<s.heap.objs.size:=by obtain⟨_,_,_,ho,_⟩:=id D;exact uK ho
 have D2:Heap.DictOf knd ((s.heap.push {cls:=.type "list",data:=.seq #[]}).update s.heap.objs.size (vt (λ_=>(#[]:uu tW)))) d kvs:=by
  obtain⟨o,es,ep,ho,r⟩:=id D
  exact⟨o,es,ep,oth d o (uR ld) (tV _ ho),r⟩
 refine OS (A:=A.in1) hh hd D2 hn hS₂ λh' tk acc' c' hk hS' hacc=>⟨rfl,hQ h' tk acc' c' (λb o e=>?_) hS' hacc⟩
 have nb:=uR (uK e)
 exact hk b o nb (oth b o nb (tV _ e))
end
end Mi
end
noncomputable section
namespace Mi
open PySem PySem.Spec L2 PyProof.Rows
noncomputable def O8:KE (Key×D)->tY (KE Int)
 | []=>Gc []
 |(.inl n,_)::r=>(O8 r).map (n:: ·)
 |(.inr _,_)::_=>none
theorem OP{K:tU}{M:Ms}{H:Hp}:∀{kvs:KE (Key×V)} {es:KE (Key×D)} {ns:KE Int},CY K M H kvs es->O8 es=Gc ns->kvs.map (·.1)=ns.map wD
 |_,_,ns,.nil,e=>by cases e;rfl
 |_,_,ns,.cons (k:=k) h t,e=>by
  cases k with
  |inl n=>
   obtain⟨ms,e1,e⟩:=Lp e
   cases e
   rw[t8,t8,OP t e1]
  |inr x=>cases e
theorem PF:∀{l:KE tW} {vs:KE (Key×tW)} {ns:KE Int},l.length=vs.length->(∀(j:Nat) v,l[j]?=Gc v->∃k x,vs[j]?=Gc (k,x)/\TK k v=true)->vs.map (·.1)=ns.map wD->wM l ns
 | [],[],ns,_,_,e=>by cases ns with
   |nil=>exact .nil
   |cons n ns=>cases e
 |v::l,(k,x)::vs,[],_,_,e=>by cases e
 |v::l,(k,x)::vs,n::ns,hl,h,e=>by
  rw[t8,t8]at e
  injection e with e1 e2
  obtain⟨k',x',q,z⟩:=h 0 v rfl
  cases q
  dsimp only at e1
  subst e1
  rcases Cr z with⟨i,t,e3,rfl⟩|⟨y,t,e3,rfl⟩
  .cases e3
   exact .cons _ _ (PF (by simpa using hl) (λj v q=>h (j+1) v (by simpa using q)) e2)
  .cases e3
 | [],(k,x)::vs,ns,hl,_,e=>by simp at hl
 |v::l,[],ns,hl,_,e=>by simp at hl
theorem N7{X:Cx}{acc:uu tW}{vs:KE (Key×tW)}{kvs:KE (Key×V)}{ns:KE Int}(h:ABI (gj (DO X.prog X.w) vs) acc vs.length)(r:KV kvs vs)(e:kvs.map (·.1)=ns.map wD):wM acc.toList ns:=
 PF (by simpa using h.1) (λj v q=>h.2 j v (by simpa using q)) (by rw[<-r.keys];exact e)
theorem ZW{X:Cx}(hc:X.calm=true):Fi X (.type "list") (λxs H Q=>∃(a:uC) (kvs:KE (Key×V)) (ns:KE Int),xs=[.ref a]/\H a=Gc (.dK kvs)/\kvs.map (·.1)=ns.map wD/\∀q,H q=none->Q (.ref q) (upd H q (.lst (ns.map V.int)))):=by
 intro pins s σ H xs us Q I r h
 obtain⟨a,kvs,ns,rfl,ha,hk,q⟩:=h
 obtain⟨u,rfl,ru⟩:=r.one
 cases (show u=vN a from ru)
 obtain⟨z,hd,vs,rel,dd⟩:=aJ I.hok ha
 refine Vx (I.ok.hd hc) hd dd (by rw[<-rel.length];exact z) λh' tk acc' c' k at' hacc=>?_
 have hi:=N7 hacc rel hk
 refine⟨.ref _,_,I.laid (a:=s.heap.objs.size) (o:=.lst (ns.map V.int)) (t':=tk) k (tw _) ?_,rfl,q _ (I.hok.fresh (tw _))⟩
 refine⟨?_,acc'.toList,c',F3 hi,?_⟩
 .rw[uX,<-hi.length,vq,hacc.1,<-rel.length];exact z
 .rw[yB];exact at'
noncomputable def eLK(c:uv)(f:Ev):Ev:=λE S=>(f E S).bind λa=>(SU a.2 a.1).bind λes=>(O8 es).bind λns=>fin c (.own (ns.map D.int)) a.2
theorem Su{o:Ev}{E:En}{S S1:Sto}{w:D}(e1:o E S=Gc (w,S1)):evs [o] E S=Gc ([w],S1):=by
 show(o E S).bind (λr=>(evs [] E r.2).map λq=>(r.1::q.1,q.2))=_
 rw[e1];rfl
theorem iH{X:Cx}{a:ui}{o:Ev}{c:uv}{p pos:Pos}(hc:X.calm=true)(hg:Gl X "list")(hm:X.mg "list"=none)(ha:DEs X [a] [o])(hs:uW [a] X.env=[(false,eval a X.env)]:=by rfl):DE X (.Call (.Name "list" p) [a] [] pos) (eLK c o):=⟨
 Bi (Nb (ZW hc) hg hm boot_list ha.pe (by decide) (by decide) hs rfl) λσ H Q z=>by
  obtain⟨M,E,S,d,S',e,r,st,q⟩:=z
  obtain⟨⟨w,S1⟩,e1,e⟩:=A5 e
  obtain⟨es,ed,e⟩:=A5 e
  obtain⟨ns,en,e⟩:=A5 e
  refine JF (Su e1) r st λvs H1 M1 g1 st1 r1=>?_
  cases r1 with
  |cons r1 rn=>
   cases rn
   obtain⟨a,kvs,rfl,h,rk⟩:=P1 st1 r1 ed
   refine⟨a,kvs,ns,rfl,h,OP rk en,λp hp=>?_⟩
   obtain⟨M2,g2,st2,d2⟩:=(Nw.lst st1.mo hp Ic).fin st1 e
   exact q _ _ M2 (g1.trans g2) st2 d2⟩
theorem Ra {prog : uT} {w : ur} {A : u5} {E : tW -> tZ -> Prop} {s : tZ} {K : Type} [zl K] {knd : PySem.KeyKind prog w K} {d : uC} {kvs : KE (K × tW)} {Q : KE tW -> tZ -> Prop} (hh : A.handled = none) (hd : (d == sysModules) = false) (D : s.heap.DictOf knd d kvs) (hn : kvs.length ≤ sizeLine) (h : ∀ h' tk acc', (∀ b o, s.heap.get? b = Gc o -> h'.get? b = Gc o) -> s.heap.objs.size ≤ h'.objs.size -> ABI (gj knd kvs) acc' kvs.length -> Q acc'.toList { s with heap := h', toks := tk }) : wpAny (model prog w) A (collect (.ref d)) Q E s := by
  unfold collect
  refine Wp (AA6 (wW z9 ?_))
  rw [v7 AAA _]
  show wpAny _ A.in1 (newList [] >>= fun l => again (.builtin "list.__iadd__" ⟨[l, .ref d], []⟩)) _ _ s
  refine Wp (AAB ?_)
  refine tq ⟨yT yC _, wW AA9 ?_⟩
  rw [v7 yC _]
  show wpAny _ A.in1 (vO (.ref s.heap.objs.size) (.ref d) (.ref s.heap.objs.size)) _ _ { s with heap := s.heap.push (seqObj "list" #[] 0) }
  have me : (s.heap.push (seqObj "list" #[] 0)).get? s.heap.objs.size = Gc { cls := .type "list", data := .seq #[] 0 } := uH _ rfl
  have D2 : Heap.DictOf knd (s.heap.push (seqObj "list" #[] 0)) d kvs := by
    obtain ⟨o, es, ep, ho, r⟩ := id D
    exact ⟨o, es, ep, tV _ ho, r⟩
  have Z := OS (A := A) (res := .ref s.heap.objs.size) (R := fun r s' => ∃ h' tk acc' c', r = .ok (.ret (.ref s.heap.objs.size)) /\ s' = { s with heap := h', toks := tk } /\ (∀ b o, s.heap.get? b = Gc o -> h'.get? b = Gc o) /\ h'.get? s.heap.objs.size = Gc { cls := .type "list", dict := none, data := .seq acc' c', slots := #[] } /\ ABI (gj knd kvs) acc' kvs.length) (s := { s with heap := s.heap.push (seqObj "list" #[] 0) }) hh hd D2 hn me fun h' tk acc' c' hk hS' hacc => ⟨h', tk, acc', c', rfl, rfl, fun b o e => hk b o (uR (uK e)) (tV _ e), hS', hacc⟩
  have fn : ∀ (r : Result) (s' : tZ), (∃ h' tk acc' c', r = Except.ok (Flow.ret (.ref s.heap.objs.size)) /\ s' = { s with heap := h', toks := tk } /\ (∀ b o, s.heap.get? b = Gc o -> h'.get? b = Gc o) /\ h'.get? s.heap.objs.size = Gc { cls := .type "list", dict := none, data := .seq acc' c', slots := #[] } /\ ABI (gj knd kvs) acc' kvs.length) -> r = .ok (.ret (.ref s.heap.objs.size)) /\ wpAny (model prog w) A (do
      let o ← load s.heap.objs.size
      match o.data with
      | .seq xs _ => pure xs.toList
      | _ => unsupported "internal:collect") Q E s' := by
    rintro r s' ⟨h', tk, acc', c', rfl, rfl, kp, hS', hacc⟩
    exact ⟨rfl, Wp (wpAny_load hS' (tq (h h' tk acc' kp (wI (uK hS')) hacc)))⟩
  refine yA Z (fun f s' y => ?_) (fun e s' y => ?_)
  · cases f with
    | done f =>
      obtain ⟨e, q⟩ := fn _ _ y
      cases e
      exact q
    | again c' =>
      refine ⟨y.1, yg y.2 fun r s' y => ?_⟩
      obtain ⟨e, q⟩ := fn _ _ y
      cases e
      exact q
  · obtain ⟨e, q⟩ := fn _ _ y
    cases e
theorem aN{X:Cx}(hc:X.calm=true):Fi X (.builtin "sorted") (λxs H Q=>∃(a:uC) (kvs:KE (Key×V)) (ns:KE Int),xs=[.ref a]/\H a=Gc (.dK kvs)/\kvs.map (·.1)=ns.map wD/\ns.length<64/\∀q,H q=none->Q (.ref q) (upd H q (.lst ((HE ns).map V.int)))):=by
 intro pins s σ H xs us Q I r h
 obtain⟨a,kvs,ns,rfl,ha,hk,h64,q⟩:=h
 obtain⟨u,rfl,ru⟩:=r.one
 cases (show u=vN a from ru)
 obtain⟨z,hd,vs,rel,dd⟩:=aJ I.hok ha
 refine zM kind_sorted plain_sorted entry_sorted (args_sorted1 _) ?_
 unfold wJ.«sorted»
 refine Wp (m:=checkCount "sorted" 1 1 _) (tq (Wp (Ra (by simp[I.ok.hd hc]) hd dd (by rw[<-rel.length];exact z) λh' tk acc' kp lz hacc=>Wp (AAB ?_ ?_))))
 .have hi:=N7 hacc rel hk
  have at1:(h'.push (seqObj "list" acc'.toList.toArray 0)).get? h'.objs.size=Gc (seqObj "list" acc'.toList.toArray 0):=uH _ rfl
  have vl:acc'.toList.length<64:=by rw[hi.length];exact h64
  show wpAny _ _ _ _ _ {s with heap:=h'.push (seqObj "list" acc'.toList.toArray 0),toks:=tk}
  refine Wp (vK (u9 slot_list_sort ⟨_,at1,rfl⟩ entry_list_sort (list_sort_tree at1 hi vl λout ns' a1 a2 a3=>⟨_,rfl,tq ⟨_,rfl,?_⟩⟩) (args_list_sort _)))
  obtain⟨e,he⟩:=sortedHeap_at (out:=out) at1
  have hs:=J4 a2 a3
  subst hs
  refine⟨.ref _,_,I.laid (a:=h'.objs.size) (o:=.lst ((HE ns).map V.int)) (t':=tk) (λb o w=>?_) lz ?_,rfl,q _ (I.hok.fresh lz)⟩
  .have lb:b<h'.objs.size:=uK (kp b o w)
   rw[sortedHeap_old (uR lb) (by rw[uo];exact vX lb)]
   exact tV _ (kp b o w)
  .refine⟨?_,out.toList,e,F3 a1,?_⟩
   .rw[uX,(GZ ns).length_eq]
    have:(64:Nat)<=sizeLine:=by decide
    lia
   .rw[yB];exact he
 .have hi:=N7 hacc rel hk
  rw[hi.length]
  exact uA (wI h64) (by decide)
noncomputable def eSK(c:uv)(f:Ev):Ev:=λE S=>(f E S).bind λa=>(SU a.2 a.1).bind λes=>(O8 es).bind λns=>if ns.length<64 then fin c (.own ((HE ns).map D.int)) a.2 else none
theorem nJ{X:Cx}{a:ui}{o:Ev}{c:uv}{p pos:Pos}(hc:X.calm=true)(hg:Gl X "sorted")(hm:X.mg "sorted"=none)(ha:DEs X [a] [o])(hs:uW [a] X.env=[(false,eval a X.env)]:=by rfl):DE X (.Call (.Name "sorted" p) [a] [] pos) (eSK c o):=⟨
 Bi (Ud (aN hc) hg hm boot_sorted ha.pe (by decide) (by decide) hs rfl) λσ H Q z=>by
  obtain⟨M,E,S,d,S',e,r,st,q⟩:=z
  obtain⟨⟨w,S1⟩,e1,e⟩:=A5 e
  obtain⟨es,ed,e⟩:=A5 e
  obtain⟨ns,en,e⟩:=A5 e
  split at e
  .rename_i hl
   refine JF (Su e1) r st λvs H1 M1 g1 st1 r1=>?_
   cases r1 with
   |cons r1 rn=>
    cases rn
    obtain⟨a,kvs,rfl,h,rk⟩:=P1 st1 r1 ed
    refine⟨a,kvs,ns,rfl,h,OP rk en,hl,λp hp=>?_⟩
    obtain⟨M2,g2,st2,d2⟩:=(Nw.lst st1.mo hp Ic).fin st1 e
    exact q _ _ M2 (g1.trans g2) st2 d2
  .cases e⟩
theorem Vg:bootBuiltins "dict"=Gc (.type "dict"):=by decide+kernel
theorem Zb{X:Cx}:Fi X (.type "dict") (λxs H Q=>∃(a:uC) (kvs:KE (Key×V)),xs=[.ref a]/\H a=Gc (.dK kvs)/\∀q,H q=none->Q (.ref q) (upd H q (.dK kvs))):=by
 intro pins s σ H xs us Q I r h
 obtain⟨a,kvs,rfl,ha,q⟩:=h
 obtain⟨u,rfl,ru⟩:=r.one
 cases (show u=vN a from ru)
 exact ZR I (.inl ha) λp s' hp I'=>⟨.ref p,_,I',rfl,q p hp⟩
noncomputable def eDC(c:uv)(f:Ev):Ev:=λE S=>(f E S).bind λa=>(SU a.2 a.1).map λes=>UI c es a.2
theorem oC{X:Cx}{a:ui}{o:Ev}{c:uv}{p pos:Pos}(hg:Gl X "dict")(hm:X.mg "dict"=none)(hv:bootBuiltins "dict"=Gc (.type "dict"))(ha:DEs X [a] [o])(hs:uW [a] X.env=[(false,eval a X.env)]:=by rfl):DE X (.Call (.Name "dict" p) [a] [] pos) (eDC c o):=⟨
 Bi (Nb Zb hg hm hv ha.pe (by decide) (by decide) hs rfl) λσ H Q z=>by
  obtain⟨M,E,S,d,S',e,r,st,q⟩:=z
  obtain⟨⟨w,S1⟩,e1,e⟩:=A5 e
  obtain⟨es,ed,e⟩:=Lp e
  refine JF (Su e1) r st λvs H1 M1 g1 st1 r1=>?_
  cases r1 with
  |cons r1 rn=>
   cases rn
   obtain⟨a,kvs,rfl,h,rk⟩:=P1 st1 r1 ed
   refine⟨a,kvs,rfl,h,λp hp=>?_⟩
   obtain⟨st0,s0⟩:=st1.dn hp
   have:=Tc (cf:=c) (S':=S') (Q:=Q) (kvs:=kvs) (es:=es) st1 hp (.refl st0.mo) st0 (rk.step s0) (by
    have e':UI c es S1=(d,S'):=e
    rw[e'];exact λv H' M' g2 st2 d2=>q v H' M' (g1.trans g2) st2 d2)
   rw[YZ]at this
   exact this⟩
noncomputable def eDI(fd fk:Ev):Ev:=λE S=>(fd E S).bind λa=>(fk E a.2).bind λb=>(SU b.2 a.1).bind λes=>(Yr b.1).bind λk=>(Ta es k).map λd=>(d,b.2)
theorem nP{X:Cx}{o i:ui}{fd fk:Ev}{pos:Pos}(hu:X.A.units+100<cLine)(ho:DE X o fd)(hk:DE X i fk)(hs:pQ i:=by exact λ_ _=>rfl):DE X (.Subscript o i pos) (eDI fd fk):=⟨
 Bi (d8 (by lia) ho.pe hk.pe hs) λσ H Q z=>by
  obtain⟨M,E,S,d,S',e,r,st,q⟩:=z
  obtain⟨⟨a,S1⟩,e1,e⟩:=A5 e
  obtain⟨⟨b,S2⟩,e2,e⟩:=A5 e
  obtain⟨es,ed,e⟩:=A5 e
  obtain⟨k,ek,e⟩:=A5 e
  obtain⟨dd,ev,e⟩:=Lp e
  cases e
  refine⟨M,E,S,a,S1,e1,r,st,λv H1 M1 g1 st1 d1=>?_⟩
  refine⟨M1,E,S1,b,S2,e2,r.step g1.st,st1,λv2 H2 M2 g2 st2 d2=>?_⟩
  obtain⟨p,kvs,rfl,hp,rk⟩:=P1 st2 (d1.step g2.st) ed
  rw[Uu d2 ek]
  rcases rk.val k with⟨h1,h2⟩|⟨v,d',h1,h2,h3⟩
  .rw[h2]at ev;cases ev
  .rw[h2]at ev
   cases ev
   refine⟨p,v,rfl,?_,q _ _ M2 (g1.trans g2) st2 h3⟩
   rw[<-h1];exact .k hp⟩
end Mi
end
noncomputable section
namespace Mi
open PySem PySem.Spec L2 PyProof.Rows
abbrev eIx(a b:Ev):Ev:=eOp (o2 wIx) [a,b]
abbrev eI(n:Int):Ev:=eC (.int n)
theorem scM{N P:KE Str}{sc:xC}(a:sc.kind=.function:=by rfl)(b:sc.isCoroutine=false:=by rfl)(c:sc.isGenerator=false:=by rfl)(d:N.Nodup:=by decide+kernel)(e:N.take P.length=P:=by rfl)(f:∀x∈P,sc.names.lookup x=Gc .local\/sc.names.lookup x=Gc .cell:=by decide+kernel)(g:∀y∈sc.names,y.2≠.free:=by decide+kernel):AS N P sc:=⟨a,b,c,d,e,f,g⟩
theorem csM{N:KE Str}{osc:xC}{N':KE Str}{ix:KE (tY Nat)}{scope:xC}(a:scope.kind=.function:=by rfl)(b:∀y∈scope.names,y.2=.cell->scope.names.lookup y.1=Gc .cell:=by decide+kernel)(c:∀y∈scope.names,y.2=.local->scope.names.lookup y.1=Gc .local:=by decide+kernel)(d:∀y∈scope.names,y.2=.free->(osc.names.lookup y.1=Gc .cell\/osc.names.lookup y.1=Gc .free):=by decide+kernel)(e:Uz N osc scope N' ix=true:=by decide+kernel):AY N osc N' ix scope:=⟨a,b,c,d,e⟩
theorem len0{α:Type}{us:KE α}(h:us.length=0):us=[]:=by
 match us,h with
 | [],_=>rfl
theorem ON{α:Type}{us:KE α}(h:us.length=1):∃a,us=[a]:=by
 match us,h with
 | [a],_=>exact⟨a,rfl⟩
theorem YF{α:Type}{us:KE α}(h:us.length=2):∃a b,us=[a,b]:=by
 match us,h with
 | [a,b],_=>exact⟨a,b,rfl⟩
theorem oD{α:Type}{us:KE α}(h:us.length=3):∃a b c,us=[a,b,c]:=by
 match us,h with
 | [a,b,c],_=>exact⟨a,b,c,rfl⟩
theorem rY{α:Type}{us:KE α}(h:us.length=4):∃a b c d,us=[a,b,c,d]:=by
 match us,h with
 | [a,b,c,d],_=>exact⟨a,b,c,d,rfl⟩
theorem rf{α:Type}{us:KE α}(h:us.length=5):∃a b c d e,us=[a,b,c,d,e]:=by
 match us,h with
 | [a,b,c,d,e],_=>exact⟨a,b,c,d,e,rfl⟩
theorem sR{α:Type}{us:KE α}(h:us.length=6):∃a b c d e f,us=[a,b,c,d,e,f]:=by
 match us,h with
 | [a,b,c,d,e,f],_=>exact⟨a,b,c,d,e,f,rfl⟩
section
variable{P:uT}{w:ur}{K:tU}{mg:Str->tY tW}{base:uz}
theorem dfM {x : Str} {st : vE} {N ps : KE Str} (k : Nat) {np : Nat} {b : Ex} (S : St.Src K mg x st) (sc : AS N ps (AH st)) (hb : ∀ {f : uC} {cdv : tW} {A : u5} {outer : KE PySem.Env} {s : tZ} {H : Hp} {E : XK}, Ol k (A.deeper (yP x (AH st) s.heap.objs.size f cdv)) -> (A.deeper (yP x (AH st) s.heap.objs.size f cdv)).units + 100 < cLine -> DSs (ZD CX0 P w K mg base N x (AH st) f cdv A outer s H E).nox (Hb st) b) (hp : ps.length = np := by rfl) (hbi : ∀ f fd, Fun K x x st f fd -> Binds K fd ps [] := by
      first
      | exact fun f fd F => F.binds fun _ _ _ _ _ _ us hl => by obtain ⟨_, rfl⟩ := ON hl; rfl
      | exact fun f fd F => F.binds fun _ _ _ _ _ _ us hl => by obtain ⟨_, _, rfl⟩ := YF hl; rfl
      | exact fun f fd F => F.binds fun _ _ _ _ _ _ us hl => by obtain ⟨_, _, _, rfl⟩ := oD hl; rfl
      | exact fun f fd F => F.binds fun _ _ _ _ _ _ us hl => by obtain ⟨_, _, _, _, rfl⟩ := rY hl; rfl
      | exact fun f fd F => F.binds fun _ _ _ _ _ _ us hl => by obtain ⟨_, _, _, _, _, rfl⟩ := rf hl; rfl
      | exact fun f fd F => F.binds fun _ _ _ _ _ _ us hl => by obtain rfl := len0 hl; rfl
      | exact fun f fd F => F.binds fun _ _ _ _ _ _ us hl => by obtain ⟨_, _, _, _, _, _, rfl⟩ := sR hl; rfl) :
    St.Dfn P w K mg base x (k + 1) ps (spD K np (BB (BD N.length b))) := jD S sc hp hbi fun _ _ _ _ _ _ _ hr => hb hr (X7 hr)
end
theorem deM{X:Cx}{k k' np:Nat}{x:Str}{ps:KE Str}{f:Fn}{e:ui}{es:KE ui}{fs:KE Ev}{p pos:Pos}(d:St.Dfn X.prog X.w X.K X.mg X.base x k ps (spD X.K np f))(hr:Ol k' X.A)(ha:DEs X (e::es) fs)(hk:k<=k':=by first|decide|omega)(hg:Gl X x:=by exact rfl)(hn:fs.length=np:=by rfl)(hdb:(x==("__debug__":Str))=false:=by decide)(he:uW (e::es) X.env=(false,eval e X.env)::uW es X.env:=by rfl)(hpl:(backTo pos (uW es X.env)).any (·.1)=false:=by rfl):DE X (.Call (.Name x p) (e::es) [] pos) (AK f fs):=d6 d (hr.mono hk) hg ha hn hdb he hpl
end Mi
end
noncomputable section
namespace Mi
open PySem PySem.Spec L2
section
open PyProof.Rows (boot_isinstance boot_int boot_bool boot_tuple boot_str boot_list boot_abs boot_all boot_any boot_sum boot_max boot_min boot_range boot_enumerate boot_zip boot_sorted boot_set boot_divmod)
noncomputable def E5:D:=.tup [.int 0,.int 1]
noncomputable def Wd:D:=.tup [.int 1,.int 1]
noncomputable def Bl:D:=.tup [.str "bring",.str "pool",.str "swap",.str "trade"]
def Jl:Ex:=(By (OF (eOp (o2 jx) [eV 0,eC (.ty "int")]) (cN (eOp (o2 jx) [eV 0,eC (.ty "bool")]))))
def HX:Fn:=BB (BD 1 Jl)
def Kq:Ex:=(By (OF (AK HX [eV 0]) (eOp (o2 wGe) [eV 0,eV 1])))
def Ii:Fn:=BB (BD 2 Kq)
def Ik:Ex:=(By (OF (AK Ii [eV 0,eV 1]) (eOp (o2 wLe) [eV 0,eV 2])))
def Ew:Fn:=BB (BD 3 Ik)
def GQ:Ex:=(Ad (Qm 0 1 (eOp (o1 gi) [eV 0]) (eOp (o1 gi) [eV 1]))
    (Ad (Ru (Vy 1) (eOp (o2 wNe) [eV 1,eI 0]) (Qm 0 1 (eV 1) (eOp (o2 SV) [eV 0,eV 1])))
    (By (eV 0))))
def Ct:Fn:=BB (BD 2 GQ)
def PK:Ex:=(Ad (Bm 2 (AK Ct [eV 0,eV 1]))
    (By (CS [eOp (o2 P9) [eV 0,eV 2],eOp (o2 P9) [eV 1,eV 2]])))
def D7:Fn:=BB (BD 3 PK)
def US:Ex:=(By (AK D7 [eOp (o2 Ek) [eOp (o2 C7) [eIx (eV 0) (eI 0),eIx (eV 1) (eI 1)],eOp (o2 C7) [eIx (eV 1) (eI 0),eIx (eV 0) (eI 1)]],eOp (o2 C7) [eIx (eV 0) (eI 1),eIx (eV 1) (eI 1)]]))
def Ie:Fn:=BB (BD 2 US)
def Tz:Ex:=(By (AK D7 [eOp (o2 U1) [eOp (o2 C7) [eIx (eV 0) (eI 0),eIx (eV 1) (eI 1)],eOp (o2 C7) [eIx (eV 1) (eI 0),eIx (eV 0) (eI 1)]],eOp (o2 C7) [eIx (eV 0) (eI 1),eIx (eV 1) (eI 1)]]))
def LH:Fn:=BB (BD 2 Tz)
def Rp:Ex:=(By (AK D7 [eOp (o2 C7) [eIx (eV 0) (eI 0),eIx (eV 1) (eI 0)],eOp (o2 C7) [eIx (eV 0) (eI 1),eIx (eV 1) (eI 1)]]))
def G3:Fn:=BB (BD 2 Rp)
def SD:Ex:=(Ad (Bm 4 (eOp (o2 Ek) [eOp (o2 C7) [eOp (o2 C7) [eIx (eV 0) (eI 0),eIx (eV 2) (eI 1)],eV 1],eOp (o2 C7) [eOp (o2 C7) [eIx (eV 2) (eI 0),eIx (eV 0) (eI 1)],eV 3]]))
    (By (AK D7 [eV 4,eOp (o2 C7) [eOp (o2 C7) [eIx (eV 0) (eI 1),eIx (eV 2) (eI 1)],eOp (o2 Ek) [eV 1,eV 3]]])))
def Jr:Fn:=BB (BD 5 SD)
def KH:Ex:=(By (OF (eOp (o2 wLt) [eV 1,eOp (o1 HN) [eV 0]]) (eOp (o2 wGe) [eIx (eIx (eV 0) (eV 1)) (eI 1),eV 2])))
def Co:Fn:=BB (BD 3 KH)
def MZ:Ex:=(By (OF (AK Co [eV 0,eV 1,eI 1]) (OF (AK Co [eV 0,eV 2,eI 1]) (eOp (o2 wEq) [eIx (eIx (eV 0) (eV 1)) (eI 0),eIx (eIx (eV 0) (eV 2)) (eI 0)]))))
def HS:Fn:=BB (BD 3 MZ)
def Mm:Ex:=(By (OF (AK Co [eV 0,eV 1,eV 2]) (eOp (o2 wNe) [eIx (eIx (eV 0) (eV 1)) (eI 0),eV 3])))
def F9:Fn:=BB (BD 4 Mm)
def Eb:Ex:=(Ad (Bm 3 (eIx (eV 2) (eI 0)))
    (Ad (xIf (eOp (o2 wEq) [eV 3,eC (.str "pool")]) (By (AK HS [eV 0,eIx (eV 2) (eI 1),eIx (eV 2) (eI 2)])) FV)
    (Ad (xIf (eOp (o2 wEq) [eV 3,eC (.str "swap")]) (By (AK F9 [eV 0,eIx (eV 2) (eI 1),eIx (eV 2) (eI 2),eIx (eV 2) (eI 3)])) FV)
    (Ad (xIf (eOp (o2 wEq) [eV 3,eC (.str "trade")]) (Ad (Bm 4 (CT [] 1 (GI (eV 1)) (tNm 0) (eOp (o2 wEq) [eIx (eV 0) (eI 0),eC (.str "trade")]) (eIx (eV 0) (eI 1))))
    (By (OF (eOp (o2 (wIn true)) [eIx (eV 2) (eI 1),eV 4]) (AK F9 [eV 0,eIx (eV 2) (eI 2),eIx (eV 2) (eI 3),eIx (eV 2) (eI 4)])))) FV)
    (Ad (xIf (eOp (o2 (wIn false)) [eV 3,CS [eC (.str "spoil"),eC (.str "throw")]]) (By (AK Co [eV 0,eIx (eV 2) (eI 1),eIx (eV 2) (eI 2)])) FV)
    (By (eC (.bl true))))))))
def C0:Fn:=BB (BD 5 Eb)
def Iv:Ex:=(Ad (O4 (tTp [tNm 3,tNm 4]) (eIx (eV 0) (eV 1)))
    (By (eOp (o2 Ek) [eOp (o2 Ek) [eOp (Oc false true) [eV 0,eV 1],Lj [CS [eV 3,eOp (o2 U1) [eV 4,eV 2]]]],eOp (Oc true false) [eV 0,eOp (o2 Ek) [eV 1,eI 1]]])))
def CA:Fn:=BB (BD 5 Iv)
def B6:Ex:=(Ad (Bm 2 (eIx (eV 1) (eI 0)))
    (Ad (xIf (eOp (o2 wEq) [eV 2,eC (.str "bring")]) (By (eOp (o2 Ek) [eV 0,Lj [CS [eIx (eV 1) (eI 2),eIx (eV 1) (eI 3)]]])) FV)
    (Ad (xIf (eOp (o2 wEq) [eV 2,eC (.str "pool")]) (Ad (O4 (tTp [tNm 3,tNm 4]) (eIx (eV 0) (eIx (eV 1) (eI 1))))
    (Ad (Bm 5 (eIx (eIx (eV 0) (eIx (eV 1) (eI 2))) (eI 1)))
    (By (eOp (o2 Ek) [AK CA [AK CA [eV 0,eIx (eV 1) (eI 1),eV 4],eIx (eV 1) (eI 2),eV 5],Lj [CS [eV 3,eOp (o2 Ek) [eV 4,eV 5]]]])))) FV)
    (Ad (xIf (eOp (o2 (wIn false)) [eV 2,CS [eC (.str "swap"),eC (.str "trade")]]) (Ad (O4 (tTp [tNm 6,tNm 7,tNm 3,tNm 8]) (eOp (Oc true false) [eV 1,eOp (o1 Ys) [eI 4]]))
    (By (eOp (o2 Ek) [AK CA [eV 0,eV 6,eV 7],Lj [CS [eV 3,eV 8]]]))) FV)
    (Ad (xIf (eOp (o2 (wIn false)) [eV 2,CS [eC (.str "spoil"),eC (.str "throw")]]) (By (AK CA [eV 0,eIx (eV 1) (eI 1),eIx (eV 1) (eI 2)])) FV)
    (By (eV 0)))))))
def Af:Fn:=BB (BD 9 B6)
def Hr:Ex:=(By (CT [] 1 (GI (eIx (eV 0) (eI 1))) (tNm 0) Bx (CS [eIx (eV 0) (eI 0),eIx (eV 0) (eI 1)])))
def BS:Fn:=BB (BD 1 Hr)
def BJ:Ex:=(Ad (Bm 1 (eIx (eV 0) (eI 0)))
    (Ad (xIf (eOp (o2 wEq) [eV 1,eC (.str "pool")]) (By (eOp (o1 Qe) [Lj [eIx (eV 0) (eI 1),eIx (eV 0) (eI 2)]])) FV)
    (Ad (xIf (eOp (o2 (wIn false)) [eV 1,CS [eC (.str "swap"),eC (.str "trade")]]) (By (Lj [eIx (eV 0) (eOp (o1 Ys) [eI 4])])) FV)
    (By (Lj [])))))
def Ag:Fn:=BB (BD 2 BJ)
def JK:Ex:=(Ad (Bm 1 (AK BS [eV 0]))
    (Ad (Bm 2 (eIx (eV 0) (eI 2)))
    (Ad (JI (UA (eV 2)) (tTp [tNm 3,tNm 4]) (Ad (xIf (cN (AK C0 [eV 1,eOp (Oc false true) [eV 2,eV 3],eV 4])) (By (eV 3)) FV)
    (Bm 1 (AK Af [eV 1,eV 4]))))
    (By (eC .non)))))
def Eu:Fn:=BB (BD 5 JK)
def Hh:Ex:=(Ad (Bm 1 (AK Eu [eV 0]))
    (xIf (eOp (o2 (lu true)) [eV 1,eC .non]) UG FV))
def CN:Fn:=BB (BD 2 Hh)
def GV:Ex:=(xIf (cN (AK Ew [eV 1,eI 0,eOp (o1 HN) [eIx (eV 0) (eI 2)]])) UG FV)
def CH:Fn:=BB (BD 2 GV)
def KR:Ex:=(By (eOp (o1 Ck) [CT [1] 1 (My [eV 0]) (tNm 1) Bx (eIf (eOp (o2 wEq) [eV 1,eV 0]) (eC Wd) (eC E5))]))
def Bz:Fn:=BB (BD 2 KR)
def JB:Ex:=(By (eOp (o1 Ck) [CT [1,3] 2 (fI (eV 0) (eV 2)) (tTp [tNm 2,tNm 3]) Bx (AK Jr [eV 2,eV 0,eV 3,eV 1])]))
def DK:Fn:=BB (BD 4 JB)
def Bc:Ex:=(Ad (Bm 3 (AK Ag [eV 2]))
    (Ad (xIf (eOp (o2 wEq) [eOp (o1 HN) [eV 3],eI 1]) (By (eIx (eV 1) (eIx (eV 3) (eI 0)))) FV)
    (Ad (O4 (tTp [tNm 4,tNm 5]) (eV 3))
    (By (AK DK [eIx (eV 1) (eV 4),eIx (eIx (eV 0) (eV 4)) (eI 1),eIx (eV 1) (eV 5),eIx (eIx (eV 0) (eV 5)) (eI 1)])))))
def Ae:Fn:=BB (BD 6 Bc)
def Iz:Ex:=(By (eOp (o2 Ek) [eOp (o1 XW) [CT [2] 2 (GI (eV 1)) (tTp [tNm 1,tNm 2]) Bx (eOp (o2 C7) [eV 2,eIx (eV 0) (eV 1)])],eOp (o2 C7) [eIx (eV 0) (eI 2),eIx (eV 2) (eOp (o1 Ys) [eI 1])]]))
def EO:Fn:=BB (BD 3 Iz)
def Jt:Ex:=(Ad (O4 (tTp [tNm 3,tNm 4,tNm 5]) (eOp (Oc true false) [eV 2,eI 1]))
    (By (AK D7 [eOp (o2 C7) [eV 4,eIx (eV 5) (eIx (eIx (eV 1) (eV 3)) (eI 0))],AK EO [eV 0,eV 1,eV 5]])))
def Er:Fn:=BB (BD 6 Jt)
def Hi:Ex:=(Ad (O4 (tTp [tNm 5,tNm 6]) (AK Er [eV 0,eV 1,eV 3]))
    (By (AK DK [eV 4,eOp (o2 U1) [eV 6,eV 5],eIx (eV 2) (eIx (eV 3) (eI 1)),eV 5])))
def D5:Fn:=BB (BD 7 Hi)
def Jg:Ex:=(Ad (O4 (tTp [tNm 2,tNm 3,tNm 4]) (eOp (Oc true false) [eV 0,eI 1]))
    (Ad (Bm 5 (AK G3 [eIx (eV 1) (eV 2),eV 4]))
    (Ad (Bm 6 (gm (o1 Rz) [eV 1]))
    (Ad (Om (AK LH [eIx (eV 1) (eV 2),eV 5]) (eV 6) (eV 2))
    (Ad (Om (AK Ie [eIx (eV 1) (eV 3),eV 5]) (eV 6) (eV 3))
    (By (eOp (o1 Ck) [eV 6])))))))
def FE:Fn:=BB (BD 7 Jg)
def BP:Ex:=(Ad (xIf (eOp (o2 wEq) [eIx (eV 3) (eI 0),eC (.str "throw")]) (By (AK D5 [eV 0,eV 1,eV 2,eV 3,eV 4])) FV)
    (Ad (xIf (eOp (o2 wEq) [eIx (eV 3) (eI 0),eC (.str "sell")]) (By (AK FE [eV 3,eV 4])) FV)
    (By (eV 4))))
def Ak:Fn:=BB (BD 5 BP)
def BV:Ex:=(Ad (Bm 4 (CT [0,1,2,3] 1 (GI (eV 2)) (tNm 4) Bx (AK Ak [eV 0,eV 1,eV 2,eV 3,eV 4])))
    (Ad (xIf (eOp (o2 wEq) [eIx (eV 3) (eI 0),eC (.str "bring")]) (By (eOp (o2 Ek) [eV 4,Lj [AK Bz [eIx (eV 0) (eI 0),eIx (eV 3) (eI 1)]]])) FV)
    (Ad (xIf (eOp (o2 (wIn false)) [eIx (eV 3) (eI 0),eC Bl]) (By (eOp (o2 Ek) [eV 4,Lj [AK Ae [eV 1,eV 2,eV 3]]])) FV)
    (By (eV 4)))))
def Az:Fn:=BB (BD 5 BV)
def Ma:Ex:=(Ad (O4 (tTp [tNm 2,tNm 3,tNm 4]) (eV 0))
    (Ad (Bm 5 (AK BS [eV 0]))
    (Ad (Bm 6 (CT [] 1 (GI (eV 3)) (tNm 0) Bx (eIx (eV 0) (eI 2))))
    (Ad (Bm 7 (eIx (eV 2) (eI 3)))
    (Ad (JI (GI (eOp (Oc false true) [eV 4,eV 1])) (tNm 8) (Ad (Bm 7 (AK Ak [eV 2,eV 5,eV 6,eV 8,eV 7]))
    (Ad (Bm 6 (AK Az [eV 2,eV 5,eV 6,eV 8]))
    (Bm 5 (AK Af [eV 5,eV 8])))))
    (By (CS [eV 5,eV 6,eV 7])))))))
def HK:Fn:=BB (BD 9 Ma)
def IL:Ex:=(Ad (xIf (eOp (o2 wLt) [eV 1,eOp (o1 HN) [eV 0]]) (By (eIx (eV 0) (eV 1))) FV)
    (By (eI 0)))
def Du:Fn:=BB (BD 2 IL)
def RQ:Ex:=(By (J8 [eV 0,eOp (o1 V5) [eOp (o2 wGe) [eV 0,eOp (o2 lr) [eI 10,eI 18]]],eI 0,eOp (o2 SV) [eV 0,eI 1000000007]]))
def Ju:Fn:=BB (BD 1 RQ)
def J5:Ex:=(Ad (xIf (OF (eOp (o2 wEq) [eIx (eV 0) (eI 1),eI 1]) (eOp (o2 wGt) [eIx (eV 0) (eI 0),eI 0])) (Ad (Bm 2 (eOp (o2 SV) [eIx (eV 0) (eI 0),eV 1]))
    (Ad (Om (eOp (o2 P9) [eIx (eV 0) (eI 0),eV 1]) (eV 0) (eI 0))
    (By (eV 2)))) FV)
    (Ad (Om (eOp (o2 Ek) [eIx (eV 0) (eI 2),eI 1]) (eV 0) (eI 2))
    (Ad (Bm 3 (eOp (o2 SV) [eOp (o2 C7) [eOp (o2 Ek) [eIx (eV 0) (eI 3),eI 17],eOp (o2 Ek) [eI 69621,eOp (o2 C7) [eI 2,eIx (eV 0) (eI 2)]]],eI 2147483647]))
    (Ad (Bm 3 (eOp (o2 SV) [eOp (o2 Ek) [eOp (o2 Ek) [eOp (o2 C7) [eV 3,eV 3],eOp (o2 C7) [eI 40503,eIx (eV 0) (eI 2)]],eI 5],eI 2147483629]))
    (By (eOp (o2 SV) [eOp (o2 P9) [eOp (o2 SV) [eOp (o2 C7) [eV 3,eI 48271],eI 2147483647],eI 32],eV 1]))))))
def AL:Fn:=BB (BD 4 J5)
def MH:Ex:=(Ad (Ru (Vy 1) (eOp (o2 wGt) [eV 1,eI 0]) (Qm 0 1 (eV 1) (eOp (o2 SV) [eV 0,eV 1])))
    (By (eV 0)))
def HR:Fn:=BB (BD 2 MH)
def PN:Ex:=(Ad (Bm 2 (AK HR [eOp (o1 gi) [eV 0],eV 1]))
    (By (CS [eOp (o2 P9) [eV 0,eV 2],eOp (o2 P9) [eV 1,eV 2]])))
def Bp:Fn:=BB (BD 3 PN)
def Pd:Ex:=(By (AK Bp [eOp (o2 Ek) [eOp (o2 C7) [eIx (eV 0) (eI 0),eIx (eV 1) (eI 1)],eOp (o2 C7) [eIx (eV 1) (eI 0),eIx (eV 0) (eI 1)]],eOp (o2 C7) [eIx (eV 0) (eI 1),eIx (eV 1) (eI 1)]]))
def Bt:Fn:=BB (BD 2 Pd)
def OE:Ex:=(By (AK Bp [eOp (o2 C7) [eIx (eV 0) (eI 0),eIx (eV 1) (eI 0)],eOp (o2 C7) [eIx (eV 0) (eI 1),eIx (eV 1) (eI 1)]]))
def Aa:Fn:=BB (BD 2 OE)
def PX:Ex:=(By (AK Bt [eV 0,CS [eOp (o2 U1) [eI 0,eIx (eV 1) (eI 0)],eIx (eV 1) (eI 1)]]))
def Em:Fn:=BB (BD 2 PX)
def Kp:Ex:=(Ad (Bm 2 (PM [0] 1 (My [eV 1]) (tNm 1) Bx (eIx (Lj [eI 0,eI 1,AK AL [eV 0,eI 4],AK AL [eV 0,eI 9]]) (AK AL [eV 0,eI 4]))))
    (Ad (xIf (eOp (o2 wEq) [eOp (o1 XW) [eV 2],eI 0]) (Om (eI 1) (eV 2) (AK AL [eV 0,eV 1])) FV)
    (By (eOp (o1 Ck) [CT [2] 1 (GI (eV 2)) (tNm 1) Bx (AK Bp [eV 1,eOp (o1 XW) [eV 0]])]))))
def Ea:Fn:=BB (BD 3 Kp)
def JM:Ex:=(Ad (Bm 1 (eOp (o2 Ek) [eOp (o2 lr) [eI 10,eI 30],AK AL [eV 0,eI 99]]))
    (By (eIx (Lj [eOp (o2 Ek) [eI 1,AK AL [eV 0,eI 4]],eOp (o2 Ek) [eI 1,AK AL [eV 0,eI 40]],eOp (o2 Ek) [eI 1,AK AL [eV 0,eI 999]],eV 1]) (eOp (o2 P9) [AK AL [eV 0,eI 7],eI 2]))))
def Bg:Fn:=BB (BD 2 JM)
def Of:Ex:=(Ad (Qm 1 2 (eOp (o2 Ek) [eI 1,AK AL [eV 0,eI 4]]) (eOp (o2 Ek) [eI 1,AK AL [eV 0,eI 5]]))
    (Ad (Bm 3 (eIx (Lj [eOp (o2 Ek) [eI 1,AK AL [eV 0,eI 3]],eOp (o2 Ek) [eI 1,AK AL [eV 0,eI 20]]]) (AK AL [eV 0,eI 2])))
    (By (CS [eV 1,eV 2,eV 3,AK Ea [eV 0,eV 1],AK AL [eV 0,eI 10],AK AL [eV 0,eI 10]]))))
def IQ:Fn:=BB (BD 4 Of)
def Oi:Ex:=(Ad (Bm 2 (J8 []))
    (Ad (JI (My [eIx (Lj [eI 0,eI 1,AK AL [eV 0,eI 5]]) (AK AL [eV 0,eI 3])]) (tNm 3) (CP (KD KJ (eV 2) [CS [AK AL [eV 0,eIx (eV 1) (eI 1)],AK Bg [eV 0],AK Ea [eV 0,eIx (eV 1) (eI 0)]]])))
    (By (eOp (o1 Ck) [eV 2]))))
def Il:Fn:=BB (BD 4 Oi)
def N4:Ex:=(Ad (Bm 1 (eOp (o2 Ek) [eI 1,AK AL [eV 0,eI 12]]))
    (By (AK Bp [eOp (o2 Ek) [eI 1,AK AL [eV 0,eV 1]],eV 1])))
def Gx:Fn:=BB (BD 2 N4)
def MJ:Ex:=(By (eOp (o1 Ck) [CT [0] 1 (My [eV 1]) (tNm 1) Bx (eOp (o2 Ek) [eI 1,eIx (Lj [AK AL [eV 0,eI 3],AK AL [eV 0,eI 99]]) (AK AL [eV 0,eI 2])])]))
def El:Fn:=BB (BD 2 MJ)
def OI:Ex:=(By (J8 [PM [] 1 (GI (eIx (eV 0) (eI 1))) (tNm 0) Bx (gm (o1 Rz) [eV 0]),eOp (o1 Ck) [eIx (eIx (eV 0) (eI 0)) (eI 3)],J8 []]))
def Dl:Fn:=BB (BD 1 OI)
def MY:Ex:=(Ad (Bm 2 (J8 []))
    (Ad (JI (fI (eIx (eV 0) (eI 2)) (eIx (eV 1) (eI 2))) (tTp [tNm 3,tNm 4]) (Ad (Bm 5 (AK Bt [AK Aa [CS [eIx (eV 0) (eI 1),eI 1],eV 3],AK Aa [CS [eIx (eV 1) (eI 1),eI 1],eV 4]]))
    (CP (KD KJ (eV 2) [AK Aa [eV 5,AK Bp [eI 1,eOp (o2 Ek) [eIx (eV 0) (eI 1),eIx (eV 1) (eI 1)]]]]))))
    (By (eOp (o1 Ck) [eV 2]))))
def HV:Fn:=BB (BD 6 MY)
def Pa:Ex:=(Ad (Bm 3 (eIx (eV 2) (eI 3)))
    (Ad (Bm 4 (eOp (o2 Ek) [eOp (o1 XW) [CT [3] 3 (GI (eV 1)) (tTp [tNm 1,tNm 2,tNm 3]) Bx (eOp (o2 C7) [eV 2,eIx (eV 0) (eV 1)])],eOp (o2 C7) [eIx (eV 0) (eI 2),eIx (eV 3) (eOp (o1 Ys) [eI 1])]]))
    (By (AK Bp [eOp (o2 C7) [eIx (eV 2) (eI 2),eIx (eV 3) (eIx (eIx (eV 1) (eIx (eV 2) (eI 1))) (eI 0))],eV 4]))))
def J3:Fn:=BB (BD 5 Pa)
def Nx:Ex:=(Ad (Bm 3 (J8 []))
    (Ad (JI (fI (eV 0) (eV 2)) (tTp [tNm 4,tNm 5]) (CP (KD KJ (eV 3) [AK Bt [AK Aa [eV 4,AK Em [CS [eI 1,eI 1],eV 1]],AK Aa [eV 5,eV 1]]])))
    (By (eOp (o1 Ck) [eV 3]))))
def FW:Fn:=BB (BD 6 Nx)
def Pz:Ex:=(Ad (Bm 2 (gm (o1 Rz) [eV 0]))
    (Ad (Bm 3 (AK Aa [eIx (eV 2) (eIx (eV 1) (eI 1)),eIx (eV 1) (eI 3)]))
    (Ad (Om (AK Em [eIx (eV 2) (eIx (eV 1) (eI 1)),eV 3]) (eV 2) (eIx (eV 1) (eI 1)))
    (Ad (Om (AK Bt [eIx (eV 2) (eIx (eV 1) (eI 2)),eV 3]) (eV 2) (eIx (eV 1) (eI 2)))
    (By (eOp (o1 Ck) [eV 2]))))))
def Gf:Fn:=BB (BD 4 Pz)
def L8:Ex:=(Ad (O4 (tTp [tNm 3,tNm 4,tNm 5]) (eV 1))
    (xIf (eOp (o2 wEq) [eIx (eV 2) (eI 0),eC (.str "throw")]) (Ad (Qm 6 7 (AK J3 [eV 0,eV 3,eV 2]) (eIx (eIx (eV 3) (eIx (eV 2) (eI 1))) (eI 2)))
    (Ad (Om (eOp (o2 U1) [eIx (eIx (eV 3) (eIx (eV 2) (eI 1))) (eI 1),eIx (eV 2) (eI 2)]) (eIx (eV 3) (eIx (eV 2) (eI 1))) (eI 1))
    (Ad (JI (GI (eV 3)) (tNm 8) (Om (AK FW [eIx (eV 8) (eI 2),eV 6,eV 7]) (eV 8) (eI 2)))
    (Om (AK FW [eV 4,eV 6,eV 7]) (eV 1) (eI 1))))) (Ad (JI (GI (eV 3)) (tNm 8) (Om (AK Gf [eIx (eV 8) (eI 2),eV 2]) (eV 8) (eI 2)))
    (Om (AK Gf [eV 4,eV 2]) (eV 1) (eI 1)))))
def Ga:Fn:=BB (BD 9 L8)
def HJ:Ex:=(Ad (O4 (tTp [tNm 3,tNm 4,tNm 5]) (eV 1))
    (Ad (Bm 6 (eIx (eV 2) (eI 0)))
    (xIf (eOp (o2 wEq) [eV 6,eC (.str "bring")]) (CP (KD KJ (eV 3) [J8 [eIx (eV 2) (eI 2),eIx (eV 2) (eI 3),eOp (o1 Ck) [CT [2] 1 (My [eIx (eV 0) (eI 0)]) (tNm 1) Bx (CS [eOp (o1 V5) [eOp (o2 wEq) [eV 1,eIx (eV 0) (eI 1)]],eI 1])]]])) (xIf (eOp (o2 wEq) [eV 6,eC (.str "pool")]) (Ad (Qm 7 8 (eIx (eV 3) (eIx (eV 2) (eI 1))) (eIx (eV 3) (eIx (eV 2) (eI 2))))
    (Ad (CP (KD KJ (eV 3) [J8 [eIx (eV 7) (eI 0),eOp (o2 Ek) [eIx (eV 7) (eI 1),eIx (eV 8) (eI 1)],AK HV [eV 7,eV 8]]]))
    (Ad (Om (eI 0) (eV 7) (eI 1))
    (Om (eI 0) (eV 8) (eI 1))))) (xIf (eOp (o2 (wIn false)) [eV 6,CS [eC (.str "swap"),eC (.str "trade")]]) (Ad (O4 (tTp [tNm 9,tNm 10,tNm 11,tNm 12]) (eOp (Oc true false) [eV 2,eOp (o1 Ys) [eI 4]]))
    (Ad (Om (eOp (o2 U1) [eIx (eIx (eV 3) (eV 9)) (eI 1),eV 10]) (eIx (eV 3) (eV 9)) (eI 1))
    (Ad (CP (KD KJ (eV 3) [J8 [eV 11,eV 12,eIx (eIx (eV 3) (eV 9)) (eI 2)]]))
    (CP (KD mD (eV 5) [eOp (o2 C7) [eOp (Oc true true) [eV 2,eI 1,eI 2],eOp (o1 V5) [eOp (o2 wEq) [eV 6,eC (.str "trade")]]]]))))) (xIf (eOp (o2 wEq) [eV 6,eC (.str "spoil")]) (Om (eOp (o2 U1) [eIx (eIx (eV 3) (eIx (eV 2) (eI 1))) (eI 1),eIx (eV 2) (eI 2)]) (eIx (eV 3) (eIx (eV 2) (eI 1))) (eI 1)) (CP (AK Ga [eV 0,eV 1,eV 2]))))))))
def BZ:Fn:=BB (BD 13 HJ)
def Pq:Ex:=(Ad (O4 (tTp [tNm 3,tNm 4,tNm 5]) (eV 2))
    (Ad (Bm 6 (CT [] 2 (UA (eV 3)) (tTp [tNm 0,tNm 1]) (eOp (o2 wGt) [eIx (eV 1) (eI 1),eI 0]) (eV 0)))
    (Ad (Bm 7 (AK AL [eV 0,eI 12]))
    (Ad (xIf (eOr (eOp (o2 wLt) [eV 7,eI 2]) (eOp (o2 wEq) [eV 6,Lj []])) (By (CS [eC (.str "bring"),AK AL [eV 0,eIx (eV 1) (eI 0)],AK AL [eV 0,eIx (eV 1) (eI 1)],AK Bg [eV 0]])) FV)
    (Ad (Bm 8 (eIx (eV 6) (AK AL [eV 0,eOp (o1 HN) [eV 6]])))
    (Ad (Bm 9 (eOp (o2 Ek) [eI 1,AK AL [eV 0,eOp (o2 gq) [eIx (eIx (eV 3) (eV 8)) (eI 1),eI 2000]]]))
    (Ad (xIf (eOp (o2 wLt) [eV 7,eI 5]) (Ad (Bm 10 (CT [3,8] 1 (GI (eV 6)) (tNm 2) (OF (eOp (o2 wNe) [eV 2,eV 1]) (eOp (o2 wEq) [eIx (eIx (eV 0) (eV 2)) (eI 0),eIx (eIx (eV 0) (eV 1)) (eI 0)])) (eV 2)))
    (xIf (eOp (o2 wNe) [eV 10,Lj []]) (By (CS [eC (.str "pool"),eV 8,eIx (eV 10) (AK AL [eV 0,eOp (o1 HN) [eV 10]])])) FV)) FV)
    (Ad (xIf (OF (eOp (o2 wLt) [eV 7,eI 8]) (eOp (o2 wGt) [eIx (eV 1) (eI 1),eI 1])) (Ad (Bm 11 (eOp (o2 SV) [eOp (o2 Ek) [eOp (o2 Ek) [eIx (eIx (eV 3) (eV 8)) (eI 0),eI 1],AK AL [eV 0,eOp (o2 U1) [eIx (eV 1) (eI 1),eI 1]]],eIx (eV 1) (eI 1)]))
    (Ad (Bm 12 (CT [5] 1 (My [eI 10]) (tNm 1) (eOp (o2 (wIn true)) [eV 1,eV 0]) (eV 1)))
    (Ad (xIf (OF (eOp (o2 wEq) [eV 7,eI 7]) (eOp (o2 wNe) [eV 12,Lj []])) (By (CS [eC (.str "trade"),eIx (eV 12) (AK AL [eV 0,eOp (o1 HN) [eV 12]]),eV 8,eV 9,eV 11,AK Bg [eV 0]])) FV)
    (By (CS [eC (.str "swap"),eV 8,eV 9,eV 11,AK Bg [eV 0]]))))) FV)
    (Ad (xIf (eOp (o2 wEq) [eV 7,eI 8]) (By (CS [eC (.str "spoil"),eV 8,eV 9])) FV)
    (Ad (xIf (OF (eOp (o2 wEq) [eV 7,eI 9]) (eOp (o2 wGt) [eIx (eV 1) (eI 0),eI 1])) (Ad (Bm 13 (AK AL [eV 0,eIx (eV 1) (eI 0)]))
    (By (CS [eC (.str "sell"),eV 13,eOp (o2 SV) [eOp (o2 Ek) [eOp (o2 Ek) [eV 13,eI 1],AK AL [eV 0,eOp (o2 U1) [eIx (eV 1) (eI 0),eI 1]]],eIx (eV 1) (eI 0)],AK Gx [eV 0]]))) FV)
    (By (CS [eC (.str "throw"),eV 8,eV 9,AK El [eV 0,eOp (o2 Ek) [eIx (eV 1) (eI 1),eI 1]]]))))))))))))
def Eg:Fn:=BB (BD 14 Pq)
def Pc:Ex:=(Ad (Bm 2 (AK IQ [eV 0]))
    (Ad (Bm 3 (AK Il [eV 0,eV 2]))
    (Ad (Qm 4 5 (AK Dl [CS [eV 2,eV 3,CS []]]) (J8 []))
    (Ad (JI (My [AK AL [eV 0,eOp (o2 Ek) [eV 1,eI 1]]]) (tNm 6) (Ad (Bm 7 (AK Eg [eV 0,eV 2,eV 4]))
    (xIf (eOr (eOp (o2 wNe) [eIx (eV 7) (eI 0),eC (.str "throw")]) (eOp (o2 wLt) [eOp (o1 HN) [CT [] 1 (GI (eV 5)) (tNm 0) (eOp (o2 wEq) [eIx (eV 0) (eI 0),eC (.str "throw")]) (eV 0)],eI 3])) (Ad (CP (AK BZ [eV 2,eV 4,eV 7]))
    (CP (KD KJ (eV 5) [eV 7]))) FV)))
    (By (CS [eV 2,eV 3,eOp (o1 Ck) [eV 5]]))))))
def IB:Fn:=BB (BD 8 Pc)
def MO:Ex:=(Ad (Bm 1 (AK Dl [eV 0]))
    (Ad (Bm 2 (J8 [CS [CT [] 1 (GI (eIx (eV 1) (eI 0))) (tNm 0) Bx (eOp (o1 Ck) [eV 0]),eOp (o1 Ck) [eIx (eV 1) (eI 1)]]]))
    (Ad (JI (GI (eIx (eV 0) (eI 2))) (tNm 3) (Ad (CP (AK BZ [eIx (eV 0) (eI 0),eV 1,eV 3]))
    (CP (KD KJ (eV 2) [CS [CT [] 1 (GI (eIx (eV 1) (eI 0))) (tNm 0) Bx (eOp (o1 Ck) [eV 0]),eOp (o1 Ck) [eIx (eV 1) (eI 1)]]]))))
    (By (eV 2)))))
def GF:Fn:=BB (BD 4 MO)
def La:Ex:=(Ad (Qm 1 2 (AK Dl [eV 0]) (PM [] 1 (My [eOp (o1 HN) [eIx (eV 0) (eI 1)]]) (tNm 0) Bx (WA [((eV 0),(CS [eI 1,eI 1]))])))
    (Ad (JI (GI (eIx (eV 0) (eI 2))) (tNm 3) (Ad (xIf (eOp (o2 wEq) [eIx (eV 3) (eI 0),eC (.str "bring")]) (CP (KD KJ (eV 2) [WA [((eOp (o1 HN) [eV 2]),(CS [eI 1,eI 1]))]])) (xIf (eOp (o2 wEq) [eIx (eV 3) (eI 0),eC (.str "pool")]) (Ad (O4 (tTp [tNm 4,tNm 5]) (eOp (Oc true false) [eV 3,eI 1]))
    (Ad (Qm 6 7 (eIx (eIx (eIx (eV 1) (eI 0)) (eV 4)) (eI 1)) (eIx (eIx (eIx (eV 1) (eI 0)) (eV 5)) (eI 1)))
    (Ad (Bm 8 (UH []))
    (Ad (JI (GI (eOp (o1 wSS) [eOp (o2 Ek) [eLK false (eIx (eV 2) (eV 4)),eLK false (eIx (eV 2) (eV 5))]])) (tNm 9) (Ad (Bm 10 (AK Aa [CS [eV 6,eI 1],ZA (eIx (eV 2) (eV 4)) (eV 9) (CS [eI 0,eI 1])]))
    (Ad (Bm 10 (AK Bt [eV 10,AK Aa [CS [eV 7,eI 1],ZA (eIx (eV 2) (eV 5)) (eV 9) (CS [eI 0,eI 1])]]))
    (Q8 (AK Aa [eV 10,AK Bp [eI 1,eOp (o2 Ek) [eV 6,eV 7]]]) (eV 8) (eV 9)))))
    (CP (KD KJ (eV 2) [eV 8])))))) (xIf (eOp (o2 (wIn false)) [eIx (eV 3) (eI 0),CS [eC (.str "swap"),eC (.str "trade")]]) (CP (KD KJ (eV 2) [eDC false (eIx (eV 2) (eIx (eV 3) (eOp (o1 Ys) [eI 4])))])) FV)))
    (CP (AK BZ [eIx (eV 0) (eI 0),eV 1,eV 3]))))
    (By (eV 2))))
def E7:Fn:=BB (BD 11 La)
def Np:Ex:=(Ad (Bm 1 (UH []))
    (Ad (JI (UA (eIx (eV 0) (eI 1))) (tTp [tNm 2,tNm 3]) (Q8 (eIx (eV 3) (eI 2)) (eV 1) (eV 2)))
    (Ad (Bm 4 (eOp (o1 HN) [eIx (eV 0) (eI 1)]))
    (Ad (JI (GI (eIx (eV 0) (eI 2))) (tNm 5) (Ad (xIf (eOp (o2 wEq) [eIx (eV 5) (eI 0),eC (.str "bring")]) (Q8 (eOp (o1 Ck) [CT [5] 1 (My [eIx (eIx (eV 0) (eI 0)) (eI 0)]) (tNm 1) Bx (CS [eOp (o1 V5) [eOp (o2 wEq) [eV 1,eIx (eV 0) (eI 1)]],eI 1])]) (eV 1) (eV 4)) FV)
    (Bm 4 (eOp (o2 Ek) [eV 4,eOp (o1 V5) [eOp (o2 (wIn false)) [eIx (eV 5) (eI 0),CS [eC (.str "bring"),eC (.str "pool"),eC (.str "swap"),eC (.str "trade")]]]]))))
    (By (eV 1))))))
def EW:Fn:=BB (BD 6 Np)
def Rr:Ex:=(Ad (Bm 1 (CS [eI 0,eI 1]))
    (Ad (JI (GI (eV 0)) (tNm 2) (Bm 1 (AK Bt [eV 1,eV 2])))
    (By (eV 1))))
def DH:Fn:=BB (BD 3 Rr)
def KU:Ex:=(By (eOp (o2 Ek) [eOp (o1 HN) [eIx (eV 0) (eI 1)],eOp (o1 HN) [CT [] 1 (GI (eOp (Oc false true) [eIx (eV 0) (eI 2),eV 1])) (tNm 0) (eOp (o2 (wIn false)) [eIx (eV 0) (eI 0),eC Bl]) (eV 0)]]))
def EG:Fn:=BB (BD 2 KU)
def JT:Ex:=(Ad (Bm 1 (AK EG [eV 0,eOp (o1 HN) [eIx (eV 0) (eI 2)]]))
    (Ad (Bm 2 (AK BS [eV 0]))
    (Ad (Bm 3 (PM [1] 1 (My [eOp (o1 HN) [eV 2]]) (tNm 1) Bx (AK Bz [eV 0,eV 1])))
    (Ad (JI (GI (eIx (eV 0) (eI 2))) (tNm 4) (Ad (xIf (eOp (o2 wEq) [eIx (eV 4) (eI 0),eC (.str "bring")]) (CP (KD KJ (eV 3) [AK Bz [eV 1,eOp (o1 HN) [eV 3]]])) (xIf (eOp (o2 (wIn false)) [eIx (eV 4) (eI 0),eC Bl]) (CP (KD KJ (eV 3) [AK Ae [eV 2,eV 3,eV 4]])) FV))
    (Bm 2 (AK Af [eV 2,eV 4]))))
    (By (eV 3))))))
def FA:Fn:=BB (BD 5 JT)
def Jj:Ex:=(Ad (Qm 1 2 (eIx (eV 0) (eI 1)) (eIx (eV 0) (eI 2)))
    (By (eOp (o2 Ek) [CT [] 1 (GI (eV 1)) (tNm 0) Bx (Lj []),CT [] 1 (GI (eV 2)) (tNm 0) (eOp (o2 (wIn false)) [eIx (eV 0) (eI 0),eC Bl]) (AK Ag [eV 0])])))
def E8:Fn:=BB (BD 3 Jj)
def Nm:Ex:=(Ad (Bm 2 (AK BS [eV 0]))
    (Ad (JI (GI (eOp (Oc false true) [eIx (eV 0) (eI 2),eV 1])) (tNm 3) (Bm 2 (AK Af [eV 2,eV 3])))
    (By (eV 2))))
def HD:Fn:=BB (BD 4 Nm)
def H0:Ex:=(Ad (Bm 3 (gm (o2 C7) [Lj [eC E5],eV 0]))
    (Ad (JI (fI (eV 1) (eV 2)) (tTp [tTp [tNm 5,tNm 6],tNm 4]) (Om (AK Ie [eIx (eV 3) (eV 5),AK G3 [CS [eV 6,eI 1],eV 4]]) (eV 3) (eV 5)))
    (By (eOp (o1 Ck) [eV 3]))))
def Br:Fn:=BB (BD 7 H0)
def K9:Ex:=(Ad (CP (AK CN [eV 0]))
    (Ad (Bm 1 (AK HD [eV 0,eOp (o1 HN) [eIx (eV 0) (eI 2)]]))
    (Ad (Bm 2 (AK FA [eV 0]))
    (Ad (Bm 3 (CT [] 2 (UA (AK E8 [eV 0])) (tTp [tNm 0,tNm 1]) (eOp (o2 wEq) [eOp (o1 HN) [eV 1],eI 0]) (eV 0)))
    (By (CT [0,1,2] 1 (GI (eV 3)) (tNm 3) Bx (CS [eV 3,AK Br [eIx (eIx (eV 0) (eI 0)) (eI 1),eV 1,CT [3] 1 (GI (eV 2)) (tNm 1) Bx (eIx (eV 1) (eV 0))]])))))))
def FI:Fn:=BB (BD 4 K9)
def MX:Ex:=(Ad (CP (AK CN [eV 0]))
    (Ad (CP (AK CH [eV 0,eV 1]))
    (Ad (Bm 2 (AK HD [eV 0,eV 1]))
    (By (eOp (o1 Ck) [CT [2] 1 (My [eIx (eIx (eV 0) (eI 0)) (eI 1)]) (tNm 1) Bx (eOp (o1 XW) [CT [1] 2 (GI (eV 0)) (tTp [tNm 1,tNm 2]) (eOp (o2 wEq) [eV 1,eV 0]) (eV 2)])])))))
def GD:Fn:=BB (BD 3 MX)
def KP:Ex:=(By (AK Ew [eV 1,eI 0,eOp (o2 U1) [eIx (eV 0) (eI 0),eI 1]]))
def HY:Fn:=BB (BD 2 KP)
def GC:Ex:=(xIf (cN (AK HY [eIx (eV 0) (eI 0),eV 1])) UG FV)
def Cg:Fn:=BB (BD 2 GC)
def JN:Ex:=(Ad (O4 (tTp [tNm 2,tNm 3]) (eOp (Oc false true) [eIx (eV 0) (eI 0),eI 2]))
    (Ad (O4 (tTp [tNm 4,tNm 5,tNm 6]) (AK HK [eV 0,eV 1]))
    (By (CT [3,4,5] 1 (My [eV 2]) (tNm 3) Bx (AK Br [eV 0,eV 1,CT [3] 1 (GI (eV 2)) (tNm 1) Bx (eIx (eV 1) (eV 0))])))))
def E9:Fn:=BB (BD 7 JN)
def LS:Ex:=(Ad (CP (AK CN [eV 0]))
    (Ad (CP (AK CH [eV 0,eV 1]))
    (Ad (CP (AK Cg [eV 0,eV 2]))
    (By (eIx (AK E9 [eV 0,eV 1]) (eV 2))))))
def FD:Fn:=BB (BD 3 LS)
def YI:Ex:=(Ad (JI (My [eOp (o2 kX) [eI 1,eOp (o2 gq) [eOp (o1 HN) [eV 0],eI 3]]]) (tNm 1) (Ad (Bm 2 (AK Ju [AK Du [eV 0,eV 1]]))
    (Ad (Bm 3 (AK IB [eV 2,eI 16]))
    (Ad (Qm 4 5 (eIx (eV 3) (eI 0)) (eOp (o1 HN) [eIx (eV 3) (eI 2)]))
    (Ad (O4 (tTp [tNm 6,tNm 7]) (CS [eIx (eIx (AK GF [eV 3]) (eV 5)) (eI 0),AK E7 [eV 3]]))
    (Ad (Bm 8 (J8 []))
    (Ad (JI (GI (eSK false (AK EW [eV 3]))) (tNm 9) (Ad (Bm 10 (J8 []))
    (Ad (JI (My [eIx (eV 4) (eI 1)]) (tNm 11) (Ad (Bm 12 (CT [7,9,11] 2 (UA (eV 6)) (tTp [tNm 3,tNm 4]) (eOp (o2 wEq) [eIx (eV 4) (eI 0),eV 2]) (CS [eIx (eV 4) (eI 1),ZA (eIx (eV 0) (eV 3)) (eV 1) (CS [eI 0,eI 1])])))
    (CP (KD KJ (eV 10) [AK DH [CT [] 2 (GI (eV 12)) (tTp [tNm 0,tNm 1]) Bx (AK Aa [CS [eV 0,eI 1],eV 1])]]))))
    (CP (KD KJ (eV 8) [CS [eV 9,eOp (o1 Ck) [eV 10]]])))))
    (Ad (xIf (eOp (o2 wNe) [AK FI [eV 3],eV 8]) (By (eC (.bl false))) FV)
    (Ad (JI (UA (AK GD [eV 3,eV 5])) (tTp [tNm 11,tNm 13]) (xIf (eOp (o2 wNe) [AK DH [CT [11] 2 (GI (eV 8)) (tTp [tNm 1,tNm 2]) Bx (eIx (eV 2) (eV 0))],CS [eV 13,eI 1]]) (By (eC (.bl false))) FV))
    (xIf (eOp (o2 wEq) [CT [] 1 (GI (eIx (eV 3) (eI 2))) (tNm 0) (eOp (o2 (wIn false)) [eIx (eV 0) (eI 0),CS [eC (.str "throw"),eC (.str "sell")]]) (eV 0),Lj []]) (Ad (Bm 14 (AK EW [eV 3]))
    (JI (My [eIx (eV 4) (eI 0)]) (tNm 15) (JI (UA (AK FD [eV 3,eV 5,eV 15])) (tTp [tNm 11,tNm 16]) (xIf (eOp (o2 wNe) [AK DH [CT [11,14,15] 2 (GI (eV 8)) (tTp [tNm 3,tNm 4]) Bx (AK Aa [eIx (eV 4) (eV 0),eIx (eDI (eV 1) (eV 3)) (eV 2)])],eV 16]) (By (eC (.bl false))) FV)))) FV))))))))))
    (By (eC (.bl true))))
def P7:Fn:=BB (BD 17 YI)
end
section
open PyProof.Rows (boot_isinstance boot_int boot_bool boot_tuple boot_str boot_list boot_abs boot_all boot_any boot_sum boot_max boot_min boot_range boot_enumerate boot_zip boot_sorted boot_set boot_divmod)
noncomputable def top(i:Nat):vE:=yv.main.body.getD i (.Pass ⟨0,0,0,0⟩)
noncomputable def gC(sc osc:xC):xC:={sc with names:=sc.names.map λ(n,k)=>if(k== .free && osc.kind== .function && osc.names.lookup n==Gc .cell)then(n,.cell)else(n,k)}
abbrev GA:vE:=top 3
abbrev Gn:vE:=top 4
abbrev FO:vE:=top 5
abbrev CF:vE:=top 6
abbrev IE:vE:=top 7
abbrev Lc:vE:=top 8
abbrev Ky:vE:=top 9
abbrev Jn:vE:=top 10
abbrev Ji:vE:=top 11
abbrev EM:vE:=top 19
abbrev EF:vE:=top 20
abbrev F8:vE:=top 21
abbrev F7:vE:=top 22
abbrev FY:vE:=top 23
abbrev DN:vE:=top 24
abbrev De:vE:=top 25
abbrev Bo:vE:=top 26
abbrev G8:vE:=top 27
abbrev Es:vE:=top 28
abbrev DV:vE:=top 29
abbrev C4:vE:=top 30
abbrev Cp:vE:=top 31
abbrev CJ:vE:=top 32
abbrev B2:vE:=top 33
abbrev Cq:vE:=top 35
abbrev CB:vE:=top 36
abbrev Dk:vE:=top 37
abbrev CD:vE:=top 38
abbrev Dj:vE:=top 39
abbrev C2:vE:=top 40
abbrev Ds:vE:=top 41
abbrev C5:vE:=top 42
abbrev Bs:vE:=top 43
abbrev Dm:vE:=top 44
abbrev Cy:vE:=top 45
abbrev BL:vE:=top 46
abbrev FN:vE:=top 47
abbrev Bb:vE:=top 49
abbrev CO:vE:=top 50
abbrev BO:vE:=top 51
abbrev CL:vE:=top 53
abbrev FG:vE:=top 55
abbrev JS:vE:=top 56
abbrev II:vE:=top 57
abbrev GG:vE:=top 58
abbrev Hn:vE:=top 59
abbrev Hw:vE:=top 60
abbrev Gm:vE:=top 61
abbrev ID:vE:=top 62
abbrev Jh:vE:=top 63
abbrev DC:vE:=top 64
abbrev F2:vE:=top 65
abbrev G7:vE:=top 66
abbrev Gk:vE:=top 67
abbrev Gz:vE:=top 68
abbrev DY:vE:=top 69
abbrev EY:vE:=top 70
abbrev Fv:vE:=top 73
abbrev FZ:vE:=top 74
abbrev Gs:vE:=top 75
abbrev IF:vE:=top 76
abbrev IG:vE:=top 77
abbrev IM:vE:=top 78
abbrev Cw:vE:=top 79
abbrev FT:vE:=top 80
abbrev Ci:vE:=top 81
abbrev C9:vE:=top 83
abbrev EZ:vE:=top 84
abbrev EA:vE:=top 85
section
variable(P:uT)(w:ur)(K:tU)(mg:Str->tY tW)(base:uz)
abbrev Ml:Prop:=St.Dfn P w K mg base "is_whole" 1 ["thing"] (spD K 1 HX)
abbrev Oa:Prop:=St.Dfn P w K mg base "is_from" 2 ["thing","low"] (spD K 2 Ii)
abbrev Ig:Prop:=St.Dfn P w K mg base "is_within" 3 ["thing","low","high"] (spD K 3 Ew)
abbrev GW:Prop:=St.Dfn P w K mg base "greatest_divisor" 1 ["one","other"] (spD K 2 Ct)
abbrev Ge:Prop:=St.Dfn P w K mg base "lowest" 2 ["top","bottom"] (spD K 2 D7)
abbrev QM:Prop:=St.Dfn P w K mg base "plus" 3 ["one","other"] (spD K 2 Ie)
abbrev VC:Prop:=St.Dfn P w K mg base "less" 3 ["one","other"] (spD K 2 LH)
abbrev Ng:Prop:=St.Dfn P w K mg base "times" 3 ["one","other"] (spD K 2 G3)
abbrev RK:Prop:=St.Dfn P w K mg base "mixed" 3 ["one","weight","other","more"] (spD K 4 Jr)
abbrev KN:Prop:=St.Dfn P w K mg base "is_partner" 4 ["train","thing"] (spD K 2 HY)
abbrev Fp:Prop:=St.Dfn P w K mg base "has_pieces" 1 ["held","load","pieces"] (spD K 3 Co)
abbrev Mh:Prop:=St.Dfn P w K mg base "can_pool" 2 ["held","load","other"] (spD K 3 HS)
abbrev MK:Prop:=St.Dfn P w K mg base "can_swap" 2 ["held","load","given","kind"] (spD K 4 F9)
abbrev PZ:Prop:=St.Dfn P w K mg base "can_do" 3 ["held","done","deed"] (spD K 3 C0)
abbrev Ir:Prop:=St.Dfn P w K mg base "held_without" 1 ["held","load","pieces"] (spD K 3 CA)
abbrev DZ:Prop:=St.Dfn P w K mg base "held_behind" 2 ["held","deed"] (spD K 2 Af)
abbrev C1:Prop:=St.Dfn P w K mg base "held_at_first" 1 ["book"] (spD K 1 BS)
abbrev Ke:Prop:=St.Dfn P w K mg base "held_by" 3 ["book","many"] (spD K 2 HD)
abbrev IZ:Prop:=St.Dfn P w K mg base "made_from" 1 ["deed"] (spD K 1 Ag)
abbrev JJ:Prop:=St.Dfn P w K mg base "first_wrong" 4 ["book"] (spD K 1 Eu)
abbrev Dy:Prop:=St.Dfn P w K mg base "refuse_undone" 5 ["book"] (spD K 1 CN)
abbrev KS:Prop:=St.Dfn P w K mg base "many_loads" 1 ["book","many"] (spD K 2 EG)
abbrev EB:Prop:=St.Dfn P w K mg base "refuse_no_number" 4 ["book","many"] (spD K 2 CH)
abbrev Fs:Prop:=St.Dfn P w K mg base "refuse_no_partner" 5 ["book","partner"] (spD K 2 Cg)
abbrev Hc:Prop:=St.Dfn P w K mg base "all_to_one" 1 ["many","one"] (spD K 2 Bz)
abbrev GL:Prop:=St.Dfn P w K mg base "mixed_shares" 4 ["shares","weight","others","more"] (spD K 4 DK)
abbrev Gj:Prop:=St.Dfn P w K mg base "made_shares" 5 ["held","shares","deed"] (spD K 3 Ae)
abbrev Iu:Prop:=St.Dfn P w K mg base "worth_of_all" 1 ["train","held","worths"] (spD K 3 EO)
abbrev Jf:Prop:=St.Dfn P w K mg base "part_thrown" 3 ["train","held","deed"] (spD K 3 Er)
abbrev IA:Prop:=St.Dfn P w K mg base "thrown_shares" 5 ["train","held","owners","deed","shares"] (spD K 5 D5)
abbrev Jc:Prop:=St.Dfn P w K mg base "sold_shares" 4 ["deed","shares"] (spD K 2 FE)
abbrev Fh:Prop:=St.Dfn P w K mg base "shares_behind" 6 ["train","held","owners","deed","shares"] (spD K 5 Ak)
abbrev Hq:Prop:=St.Dfn P w K mg base "owners_behind" 7 ["train","held","owners","deed"] (spD K 4 Az)
abbrev Md:Prop:=St.Dfn P w K mg base "state_by" 8 ["book","many"] (spD K 2 HK)
abbrev Ff:Prop:=St.Dfn P w K mg base "sums_by_kinds" 4 ["kinds","held","shares"] (spD K 3 Br)
abbrev Jk:Prop:=St.Dfn P w K mg base "theirs_told" 9 ["book","many"] (spD K 2 E9)
abbrev LN:Prop:=St.Dfn P w K mg base "theirs_by" 10 ["book","many","partner"] (spD K 3 FD)
abbrev Jp:Prop:=St.Dfn P w K mg base "all_sources" 2 ["book"] (spD K 1 E8)
abbrev JV:Prop:=St.Dfn P w K mg base "all_origins" 6 ["book"] (spD K 1 FA)
abbrev LW:Prop:=St.Dfn P w K mg base "come_home" 7 ["book"] (spD K 1 FI)
abbrev Me:Prop:=St.Dfn P w K mg base "stock_by" 6 ["book","many"] (spD K 2 GD)
abbrev Kv:Prop:=St.Dfn P w K mg base "_law_cell_at" 1 ["_law_script","_law_k"] (spD K 2 Du)
abbrev Rv:Prop:=St.Dfn P w K mg base "_law_pen" 1 ["_law_cell"] (spD K 1 Ju)
abbrev Dx:Prop:=St.Dfn P w K mg base "_law_draw" 1 ["_law_pen_here","_law_bound"] (spD K 2 AL)
abbrev ML:Prop:=St.Dfn P w K mg base "_law_common" 1 ["_law_one","_law_other"] (spD K 2 HR)
abbrev Eh:Prop:=St.Dfn P w K mg base "_law_made" 2 ["_law_top","_law_bottom"] (spD K 2 Bp)
abbrev FU:Prop:=St.Dfn P w K mg base "_law_plus" 3 ["_law_one","_law_other"] (spD K 2 Bt)
abbrev Fd:Prop:=St.Dfn P w K mg base "_law_times" 3 ["_law_one","_law_other"] (spD K 2 Aa)
abbrev Lw:Prop:=St.Dfn P w K mg base "_law_less" 4 ["_law_one","_law_other"] (spD K 2 Em)
abbrev R9:Prop:=St.Dfn P w K mg base "_law_sum" 4 ["_law_some"] (spD K 1 DH)
abbrev Ka:Prop:=St.Dfn P w K mg base "_law_whole" 3 ["_law_pen_here","_law_many"] (spD K 2 Ea)
abbrev Jv:Prop:=St.Dfn P w K mg base "_law_pieces" 2 ["_law_pen_here"] (spD K 1 Bg)
abbrev Nk:Prop:=St.Dfn P w K mg base "_law_train" 4 ["_law_pen_here"] (spD K 1 IQ)
abbrev OT:Prop:=St.Dfn P w K mg base "_law_first" 4 ["_law_pen_here","_law_train_here"] (spD K 2 Il)
abbrev Nd:Prop:=St.Dfn P w K mg base "_law_share" 3 ["_law_pen_here"] (spD K 1 Gx)
abbrev MQ:Prop:=St.Dfn P w K mg base "_law_worths" 2 ["_law_pen_here","_law_many"] (spD K 2 El)
abbrev IP:Prop:=St.Dfn P w K mg base "_law_begun" 1 ["_law_book_here"] (spD K 1 Dl)
abbrev MT:Prop:=St.Dfn P w K mg base "_law_pooled" 4 ["_law_one","_law_other"] (spD K 2 HV)
abbrev PJ:Prop:=St.Dfn P w K mg base "_law_cost" 3 ["_law_train_here","_law_loads","_law_deed_here"] (spD K 3 J3)
abbrev Nq:Prop:=St.Dfn P w K mg base "_law_borne" 5 ["_law_shares","_law_part","_law_owners"] (spD K 3 FW)
abbrev Py:Prop:=St.Dfn P w K mg base "_law_sold" 5 ["_law_shares","_law_deed_here"] (spD K 2 Gf)
abbrev Pl:Prop:=St.Dfn P w K mg base "_law_turn" 6 ["_law_train_here","_law_state","_law_deed_here"] (spD K 3 Ga)
abbrev NL:Prop:=St.Dfn P w K mg base "_law_do" 7 ["_law_train_here","_law_state","_law_deed_here"] (spD K 3 BZ)
abbrev P4:Prop:=St.Dfn P w K mg base "_law_deed" 4 ["_law_pen_here","_law_train_here","_law_state"] (spD K 3 Eg)
abbrev Pk:Prop:=St.Dfn P w K mg base "_law_book" 8 ["_law_pen_here","_law_most"] (spD K 2 IB)
abbrev Mc:Prop:=St.Dfn P w K mg base "_law_states" 8 ["_law_book_here"] (spD K 1 GF)
abbrev Ll:Prop:=St.Dfn P w K mg base "_law_origins" 8 ["_law_book_here"] (spD K 1 E7)
abbrev Na:Prop:=St.Dfn P w K mg base "_law_roots" 1 ["_law_book_here"] (spD K 1 EW)
end
structure Bts(mg:Str->tY tW):Prop where
 abs:mg "abs"=none
 bool:mg "bool"=none
 dict:mg "dict"=none
 enumerate:mg "enumerate"=none
 int:mg "int"=none
 isi:mg "isinstance"=none
 len:mg "len"=none
 list:mg "list"=none
 max:mg "max"=none
 min:mg "min"=none
 range:mg "range"=none
 set:mg "set"=none
 sorted:mg "sorted"=none
 sum:mg "sum"=none
 tuple:mg "tuple"=none
 zip:mg "zip"=none
end
section
open PyProof.Rows (boot_isinstance boot_int boot_bool boot_tuple boot_str boot_list boot_abs boot_all boot_any boot_sum boot_max boot_min boot_range boot_enumerate boot_zip boot_sorted boot_set boot_divmod)
variable{P:uT}{w:ur}{K:tU}{mg:Str->tY tW}{base:uz}
theorem QC:AS ["thing"] ["thing"] (AH GA):=scM
theorem Fw  (S:St.Src K mg "is_whole" GA)(B:Bts mg):Ml P w K mg base:=by
 refine dfM 0 S QC λhr hu=>?_
 exact(AI (AX (MI (Av Rc rfl B.isi boot_isinstance (AA (AB 0) (AA (gu rfl B.int ABB) AE))) (Ny (iw (Av Rc rfl B.isi boot_isinstance (AA (AB 0) (AA (gu rfl B.bool boot_bool) AE))))))))
theorem RV:AS ["thing","low"] ["thing","low"] (AH Gn):=scM
theorem G6  (S:St.Src K mg "is_from" Gn)(Fw:Ml P w K mg base):Oa P w K mg base:=by
 refine dfM 1 S RV λhr hu=>?_
 exact(AI (AX (MI (deM Fw hr (AA (AB 0) AE)) (Ny (JA Xj (AB 0) (AB 1))))))
theorem O7:AS ["thing","low","high"] ["thing","low","high"] (AH FO):=scM
theorem Cd  (S:St.Src K mg "is_within" FO)(G6:Oa P w K mg base):Ig P w K mg base:=by
 refine dfM 2 S O7 λhr hu=>?_
 exact(AI (AX (MI (deM G6 hr (AA (AB 0) (AA (AB 1) AE))) (Ny (JA ik (AB 0) (AB 2))))))
theorem Di:AS ["one","other"] ["one","other"] (AH CF):=scM
theorem CG  (S:St.Src K mg "greatest_divisor" CF)(B:Bts mg):GW P w K mg base:=by
 refine dfM 0 S Di λhr hu=>?_
 exact(AG (JW (i:=0) (j:=1) rfl Di.nd rfl rfl (by decide) rfl rfl (Av N9 rfl B.abs boot_abs (AA (AB 0) AE)) (Av N9 rfl B.abs boot_abs (AA (AB 1) AE)))
      (AG (UJ (Vy 1) ug (Am (Lb hu) (AB 1) AF) (AI (JW (i:=0) (j:=1) rfl Di.nd rfl rfl (by decide) rfl rfl (AB 1) (Ah HZ (AB 0) (AB 1)))))
      (AI (AX (AB 0)))))
theorem Ob:AS ["top","bottom","divisor"] ["top","bottom"] (AH IE):=scM
theorem BQ  (S:St.Src K mg "lowest" IE)(CG:GW P w K mg base):Ge P w K mg base:=by
 refine dfM 1 S Ob λhr hu=>?_
 exact(AG (Aj 2 (deM CG hr (AA (AB 0) (AA (AB 1) AE))) Ob.nd)
      (AI (AX (A8 (AA (Ah IX (AB 0) (AB 2)) (AA (Ah IX (AB 1) (AB 2)) AE))))))
theorem XY:AS ["one","other"] ["one","other"] (AH Lc):=scM
theorem HM  (S:St.Src K mg "plus" Lc)(BQ:Ge P w K mg base):QM P w K mg base:=by
 refine dfM 2 S XY λhr hu=>?_
 exact(AI (AX (deM BQ hr (AA (Ah Ao (Ah A4 (AJ AW (AB 0) AF) (AJ AW (AB 1) AF)) (Ah A4 (AJ AW (AB 1) AF) (AJ AW (AB 0) AF))) (AA (Ah A4 (AJ AW (AB 0) AF) (AJ AW (AB 1) AF)) AE)))))
end
section
open PyProof.Rows (boot_isinstance boot_int boot_bool boot_tuple boot_str boot_list boot_abs boot_all boot_any boot_sum boot_max boot_min boot_range boot_enumerate boot_zip boot_sorted boot_set boot_divmod)
variable{P:uT}{w:ur}{K:tU}{mg:Str->tY tW}{base:uz}
theorem Xv:AS ["one","other"] ["one","other"] (AH Ky):=scM
theorem Lg  (S:St.Src K mg "less" Ky)(BQ:Ge P w K mg base):VC P w K mg base:=by
 refine dfM 2 S Xv λhr hu=>?_
 exact(AI (AX (deM BQ hr (AA (Ah He (Ah A4 (AJ AW (AB 0) AF) (AJ AW (AB 1) AF)) (Ah A4 (AJ AW (AB 1) AF) (AJ AW (AB 0) AF))) (AA (Ah A4 (AJ AW (AB 0) AF) (AJ AW (AB 1) AF)) AE)))))
theorem Vw:AS ["one","other"] ["one","other"] (AH Jn):=scM
theorem Ft  (S:St.Src K mg "times" Jn)(BQ:Ge P w K mg base):Ng P w K mg base:=by
 refine dfM 2 S Vw λhr hu=>?_
 exact(AI (AX (deM BQ hr (AA (Ah A4 (AJ AW (AB 0) AF) (AJ AW (AB 1) AF)) (AA (Ah A4 (AJ AW (AB 0) AF) (AJ AW (AB 1) AF)) AE)))))
theorem Pr:AS ["one","weight","other","more","top"] ["one","weight","other","more"] (AH Ji):=scM
theorem Js  (S:St.Src K mg "mixed" Ji)(BQ:Ge P w K mg base):RK P w K mg base:=by
 refine dfM 2 S Pr λhr hu=>?_
 exact(AG (Aj 4 (Ah Ao (Ah A4 (Ah A4 (AJ AW (AB 0) AF) (AJ AW (AB 2) AF)) (AB 1)) (Ah A4 (Ah A4 (AJ AW (AB 2) AF) (AJ AW (AB 0) AF)) (AB 3))) Pr.nd)
      (AI (AX (deM BQ hr (AA (AB 4) (AA (Ah A4 (Ah A4 (AJ AW (AB 0) AF) (AJ AW (AB 2) AF)) (Ah Ao (AB 1) (AB 3))) AE))))))
theorem NW:AS ["train","thing"] ["train","thing"] (AH EM):=scM
theorem EE  (S:St.Src K mg "is_partner" EM)(Cd:Ig P w K mg base):KN P w K mg base:=by
 refine dfM 3 S NW λhr hu=>?_
 exact(AI (AX (deM Cd hr (AA (AB 1) (AA AF (AA (Ah He (AJ AW (AB 0) AF) AF) AE))))))
theorem OB:AS ["held","load","pieces"] ["held","load","pieces"] (AH EF):=scM
theorem BG  (S:St.Src K mg "has_pieces" EF)(B:Bts mg):Fp P w K mg base:=by
 refine dfM 0 S OB λhr hu=>?_
 exact(AI (AX (MI (JA Pf (AB 1) (Av BW rfl B.len v9 (AA (AB 0) AE))) (Ny (JA Xj (AJ AW (AJ AW (AB 0) (AB 1)) AF) (AB 2))))))
theorem Qn:AS ["held","load","other"] ["held","load","other"] (AH F8):=scM
theorem F0  (S:St.Src K mg "can_pool" F8)(BG:Fp P w K mg base):Mh P w K mg base:=by
 refine dfM 1 S Qn λhr hu=>?_
 exact(AI (AX (MI (deM BG hr (AA (AB 0) (AA (AB 1) (AA AF AE)))) (MI (deM BG hr (AA (AB 0) (AA (AB 2) (AA AF AE)))) (Ny (JA (Bu hu) (AJ AW (AJ AW (AB 0) (AB 1)) AF) (AJ AW (AJ AW (AB 0) (AB 2)) AF)))))))
end
section
open PyProof.Rows (boot_isinstance boot_int boot_bool boot_tuple boot_str boot_list boot_abs boot_all boot_any boot_sum boot_max boot_min boot_range boot_enumerate boot_zip boot_sorted boot_set boot_divmod)
variable{P:uT}{w:ur}{K:tU}{mg:Str->tY tW}{base:uz}
theorem Qf:AS ["held","load","given","kind"] ["held","load","given","kind"] (AH F7):=scM
theorem Ec  (S:St.Src K mg "can_swap" F7)(BG:Fp P w K mg base):MK P w K mg base:=by
 refine dfM 1 S Qf λhr hu=>?_
 exact(AI (AX (MI (deM BG hr (AA (AB 0) (AA (AB 1) (AA (AB 2) AE)))) (Ny (JA (Lb hu) (AJ AW (AJ AW (AB 0) (AB 1)) AF) (AB 3))))))
theorem Kh:AS ["held","done","deed","word","numbers"] ["held","done","deed"] (AH FY):=scM
theorem Qy:AY ["held","done","deed","word","numbers"] (AH FY) ["other"] (ixC [] 1) (IJ FY 0):=csM
theorem Qo:(["other"]:KE Str).Nodup:=by decide+kernel
theorem Hz  (S:St.Src K mg "can_do" FY)(BG:Fp P w K mg base)(F0:Mh P w K mg base)(Ec:MK P w K mg base):PZ P w K mg base:=by
 refine dfM 2 S Kh λhr hu=>?_
 exact(AG (Aj 3 (AJ AW (AB 2) AF) Kh.nd)
      (AG (CW (Am (Bu hu) (AB 3) BH) (AI (AX (deM F0 hr (AA (AB 0) (AA (AJ AW (AB 2) AF) (AA (AJ AW (AB 2) AF) AE)))))) BA)
      (AG (CW (Am (Bu hu) (AB 3) BH) (AI (AX (deM Ec hr (AA (AB 0) (AA (AJ AW (AB 2) AF) (AA (AJ AW (AB 2) AF) (AA (AJ AW (AB 2) AF) AE))))))) BA)
      (AG (CW (Am (Bu hu) (AB 3) BH) (AG (Dv [] 1 ["other"] rfl Kh.nd rfl rfl Qy (B9 (AB 1)) (λs H fp=>⟨Ab 0 Qo,HA (Am (Bu hu) (AJ AW (AB 0) AF) BH),AJ AW (AB 0) AF⟩))
      (AI (AX (MI (JA Ri (AJ AW (AB 2) AF) (AB 4)) (Ny (deM Ec hr (AA (AB 0) (AA (AJ AW (AB 2) AF) (AA (AJ AW (AB 2) AF) (AA (AJ AW (AB 2) AF) AE)))))))))) BA)
      (AG (CW (Am Io (AB 3) (A8 (AA BH (AA BH AE)))) (AI (AX (deM BG hr (AA (AB 0) (AA (AJ AW (AB 2) AF) (AA (AJ AW (AB 2) AF) AE)))))) BA)
      (AI (AX Wk)))))))
theorem Fc:AS ["held","load","pieces","kind","there"] ["held","load","pieces"] (AH DN):=scM
theorem Bf  (S:St.Src K mg "held_without" DN):Ir P w K mg base:=by
 refine dfM 0 S Fc λhr hu=>?_
 exact(AG (GU (AJ AW (AB 0) (AB 1)) (Dw rfl (AN (Ab 3 Fc.nd) (AN (Ab 4 Fc.nd) BI))))
      (AI (AX (Ah Ao (Ah Ao (Lz (AB 0) (AB 1)) (CI (AA (A8 (AA (AB 3) (AA (Ah He (AB 4) (AB 2)) AE))) AE))) (L0 (AB 0) (Ah Ao (AB 1) AF))))))
theorem BN:AS ["held","deed","word","kind","pieces","more","load","given","got"] ["held","deed"] (AH De):=scM
theorem Aq  (S:St.Src K mg "held_behind" De)(Bf:Ir P w K mg base):DZ P w K mg base:=by
 refine dfM 1 S BN λhr hu=>?_
 exact(AG (Aj 2 (AJ AW (AB 1) AF) BN.nd)
      (AG (CW (Am (Bu hu) (AB 2) BH) (AI (AX (Ah Ao (AB 0) (CI (AA (A8 (AA (AJ AW (AB 1) AF) (AA (AJ AW (AB 1) AF) AE))) AE))))) BA)
      (AG (CW (Am (Bu hu) (AB 2) BH) (AG (GU (AJ AW (AB 0) (AJ AW (AB 1) AF)) (Dw rfl (AN (Ab 3 BN.nd) (AN (Ab 4 BN.nd) BI))))
      (AG (Aj 5 (AJ AW (AJ AW (AB 0) (AJ AW (AB 1) AF)) AF) BN.nd)
      (AI (AX (Ah Ao (deM Bf hr (AA (deM Bf hr (AA (AB 0) (AA (AJ AW (AB 1) AF) (AA (AB 4) AE)))) (AA (AJ AW (AB 1) AF) (AA (AB 5) AE)))) (CI (AA (A8 (AA (AB 3) (AA (Ah Ao (AB 4) (AB 5)) AE))) AE))))))) BA)
      (AG (CW (Am Io (AB 2) (A8 (AA BH (AA BH AE)))) (AG (GU (L0 (AB 1) (Vt MG AF)) (Dw rfl (AN (Ab 6 BN.nd) (AN (Ab 7 BN.nd) (AN (Ab 3 BN.nd) (AN (Ab 8 BN.nd) BI))))))
      (AI (AX (Ah Ao (deM Bf hr (AA (AB 0) (AA (AB 6) (AA (AB 7) AE)))) (CI (AA (A8 (AA (AB 3) (AA (AB 8) AE))) AE)))))) BA)
      (AG (CW (Am Io (AB 2) (A8 (AA BH (AA BH AE)))) (AI (AX (deM Bf hr (AA (AB 0) (AA (AJ AW (AB 1) AF) (AA (AJ AW (AB 1) AF) AE)))))) BA)
      (AI (AX (AB 0))))))))
theorem Lh:AS ["book"] ["book"] (AH Bo):=scM
theorem KA:AY ["book"] (AH Bo) ["load"] (ixC [] 1) (IJ Bo 0):=csM
theorem J9:(["load"]:KE Str).Nodup:=by decide+kernel
theorem Ai  (S:St.Src K mg "held_at_first" Bo):C1 P w K mg base:=by
 refine dfM 0 S Lh λhr hu=>?_
 exact(AI (AX (Bj [] 1 ["load"] rfl KA (B9 (AJ AW (AB 0) AF)) (λs H fp=>⟨Ab 0 J9,B4,A8 (AA (AJ AW (AB 0) AF) (AA (AJ AW (AB 0) AF) AE))⟩))))
theorem HQ:AS ["book","many","held","deed"] ["book","many"] (AH G8):=scM
theorem Dh  (S:St.Src K mg "held_by" G8)(Aq:DZ P w K mg base)(Ai:C1 P w K mg base):Ke P w K mg base:=by
 refine dfM 2 S HQ λhr hu=>?_
 exact(AG (Aj 2 (deM Ai hr (AA (AB 0) AE)) HQ.nd)
      (AG (Dt ug rfl (B9 (Lz (AJ AW (AB 0) AF) (AB 1))) (Ab 3 HQ.nd) (AI (Aj 2 (deM Aq hr (AA (AB 2) (AA (AB 3) AE))) HQ.nd)))
      (AI (AX (AB 2)))))
end
section
open PyProof.Rows (boot_isinstance boot_int boot_bool boot_tuple boot_str boot_list boot_abs boot_all boot_any boot_sum boot_max boot_min boot_range boot_enumerate boot_zip boot_sorted boot_set boot_divmod)
variable{P:uT}{w:ur}{K:tU}{mg:Str->tY tW}{base:uz}
theorem KI:AS ["deed","word"] ["deed"] (AH Es):=scM
theorem Cf  (S:St.Src K mg "made_from" Es)(B:Bts mg):IZ P w K mg base:=by
 refine dfM 0 S KI λhr hu=>?_
 exact(AG (Aj 1 (AJ AW (AB 0) AF) KI.nd)
      (AG (CW (Am (Bu hu) (AB 1) BH) (AI (AX (Av SE rfl B.sorted boot_sorted (AA (CI (AA (AJ AW (AB 0) AF) (AA (AJ AW (AB 0) AF) AE))) AE)))) BA)
      (AG (CW (Am Io (AB 1) (A8 (AA BH (AA BH AE)))) (AI (AX (CI (AA (AJ AW (AB 0) (Vt MG AF)) AE)))) BA)
      (AI (AX (CI AE))))))
theorem Cb:AS ["book","held","deeds","at","deed"] ["book"] (AH DV):=scM
theorem DR  (S:St.Src K mg "first_wrong" DV)(B:Bts mg)(Hz:PZ P w K mg base)(Aq:DZ P w K mg base)(Ai:C1 P w K mg base):JJ P w K mg base:=by
 refine dfM 3 S Cb λhr hu=>?_
 exact(AG (Aj 1 (deM Ai hr (AA (AB 0) AE)) Cb.nd)
      (AG (Aj 2 (AJ AW (AB 0) AF) Cb.nd)
      (AG (Dt ug rfl (Oe rfl B.enumerate (AB 2)) (Dw rfl (AN (Ab 3 Cb.nd) (AN (Ab 4 Cb.nd) BI))) (AG (CW (W0 (WU (deM Hz hr (AA (AB 1) (AA (Lz (AB 2) (AB 3)) (AA (AB 4) AE)))))) (AI (AX (AB 3))) BA)
      (AI (Aj 1 (deM Aq hr (AA (AB 1) (AA (AB 4) AE))) Cb.nd))))
      (AI (AX bx)))))
theorem HI:AS ["book","wrong"] ["book"] (AH C4):=scM
theorem A1  (S:St.Src K mg "refuse_undone" C4)(DR:JJ P w K mg base):Dy P w K mg base:=by
 refine dfM 4 S HI λhr hu=>?_
 exact(AG (Aj 1 (deM DR hr (AA (AB 0) AE)) HI.nd)
      (AI (CW (Am aO (AB 1) bx) (AI P8) BA)))
theorem N3:AS ["book","many"] ["book","many"] (AH Cp):=scM
theorem Lv:AY ["book","many"] (AH Cp) ["deed"] (ixC [] 1) (IJ Cp 0):=csM
theorem L5:(["deed"]:KE Str).Nodup:=by decide+kernel
theorem EH  (S:St.Src K mg "many_loads" Cp)(B:Bts mg)(Cs:Sk K mg "MAKERS" Bl):KS P w K mg base:=by
 refine dfM 0 S N3 λhr hu=>?_
 exact(AI (AX (Ah Ao (Av BW rfl B.len v9 (AA (AJ AW (AB 0) AF) AE)) (Av BW rfl B.len v9 (AA (Bj [] 1 ["deed"] rfl Lv (B9 (Lz (AJ AW (AB 0) AF) (AB 1))) (λs H fp=>⟨Ab 0 L5,HA (Am Io (AJ AW (AB 0) AF) (KY Cs rfl)),AB 0⟩)) AE)))))
theorem JY:AS ["book","many"] ["book","many"] (AH CJ):=scM
theorem A9  (S:St.Src K mg "refuse_no_number" CJ)(B:Bts mg)(Cd:Ig P w K mg base):EB P w K mg base:=by
 refine dfM 3 S JY λhr hu=>?_
 exact(AI (CW (W0 (WU (deM Cd hr (AA (AB 1) (AA AF (AA (Av BW rfl B.len v9 (AA (AJ AW (AB 0) AF) AE)) AE)))))) (AI P8) BA))
theorem JH:AS ["book","partner"] ["book","partner"] (AH B2):=scM
theorem B5  (S:St.Src K mg "refuse_no_partner" B2)(EE:KN P w K mg base):Fs P w K mg base:=by
 refine dfM 4 S JH λhr hu=>?_
 exact(AI (CW (W0 (WU (deM EE hr (AA (AJ AW (AB 0) AF) (AA (AB 1) AE))))) (AI P8) BA))
end
section
open PyProof.Rows (boot_isinstance boot_int boot_bool boot_tuple boot_str boot_list boot_abs boot_all boot_any boot_sum boot_max boot_min boot_range boot_enumerate boot_zip boot_sorted boot_set boot_divmod)
variable{P:uT}{w:ur}{K:tU}{mg:Str->tY tW}{base:uz}
theorem Nc:AS ["many","one"] ["many","one"] (AH Cq):=scM
theorem MB:AY ["many","one"] (AH Cq) ["one","at"] (ixC [1] 1) (IJ Cq 0):=csM
theorem ME:(["one","at"]:KE Str).Nodup:=by decide+kernel
theorem Bw  (S:St.Src K mg "all_to_one" Cq)(B:Bts mg)(Sn:Sk K mg "ALL" Wd)(EK:Sk K mg "NOTHING" E5):Hc P w K mg base:=by
 refine dfM 0 S Nc λhr hu=>?_
 exact(AI (AX (Aw Ay rfl B.tuple va (AA (Bj [1] 1 ["one","at"] rfl MB (EX rfl B.range (AA (AB 0) AE)) (λs H fp=>⟨Ab 1 ME,B4,oZ (Am (Bu hu) (AB 1) (AB 0)) (KY Sn rfl) (KY EK rfl)⟩)) AE))))
theorem L9:AS ["shares","weight","others","more"] ["shares","weight","others","more"] (AH CB):=scM
theorem Kc:AY ["shares","weight","others","more"] (AH CB) ["weight","more","share","other"] (ixC [1,3] 2) (IJ CB 0):=csM
theorem Gu:(["weight","more","share","other"]:KE Str).Nodup:=by decide+kernel
theorem Bh  (S:St.Src K mg "mixed_shares" CB)(B:Bts mg)(Js:RK P w K mg base):GL P w K mg base:=by
 refine dfM 3 S L9 λhr hu=>?_
 exact(AI (AX (Aw Ay rfl B.tuple va (AA (Bj [1,3] 2 ["weight","more","share","other"] rfl Kc (Uy rfl B.zip (AB 0) (AB 2)) (λs H fp=>⟨Dw rfl (AN (Ab 2 Gu) (AN (Ab 3 Gu) BI)),B4,deM Js hr (AA (AB 2) (AA (AB 0) (AA (AB 3) (AA (AB 1) AE))))⟩)) AE))))
theorem ES:AS ["held","shares","deed","sources","load","other"] ["held","shares","deed"] (AH Dk):=scM
theorem B1  (S:St.Src K mg "made_shares" Dk)(B:Bts mg)(Cf:IZ P w K mg base)(Bh:GL P w K mg base):Gj P w K mg base:=by
 refine dfM 4 S ES λhr hu=>?_
 exact(AG (Aj 3 (deM Cf hr (AA (AB 2) AE)) ES.nd)
      (AG (CW (Am (Bu hu) (Av BW rfl B.len v9 (AA (AB 3) AE)) AF) (AI (AX (AJ AW (AB 1) (AJ AW (AB 3) AF)))) BA)
      (AG (GU (AB 3) (Dw rfl (AN (Ab 4 ES.nd) (AN (Ab 5 ES.nd) BI))))
      (AI (AX (deM Bh hr (AA (AJ AW (AB 1) (AB 4)) (AA (AJ AW (AJ AW (AB 0) (AB 4)) AF) (AA (AJ AW (AB 1) (AB 5)) (AA (AJ AW (AJ AW (AB 0) (AB 5)) AF) AE))))))))))
theorem L6:AS ["train","held","worths"] ["train","held","worths"] (AH CD):=scM
theorem Kg:AY ["train","held","worths"] (AH CD) ["worths","kind","pieces"] (ixC [2] 2) (IJ CD 0):=csM
theorem Gq:(["worths","kind","pieces"]:KE Str).Nodup:=by decide+kernel
theorem DM  (S:St.Src K mg "worth_of_all" CD)(B:Bts mg):Iu P w K mg base:=by
 refine dfM 0 S L6 λhr hu=>?_
 exact(AI (AX (Ah Ao (Av (JP rfl) rfl B.sum boot_sum (AA (Bj [2] 2 ["worths","kind","pieces"] rfl Kg (B9 (AB 1)) (λs H fp=>⟨Dw rfl (AN (Ab 1 Gq) (AN (Ab 2 Gq) BI)),B4,Ah A4 (AB 2) (AJ AW (AB 0) (AB 1))⟩)) AE)) (Ah A4 (AJ AW (AB 0) AF) (AJ AW (AB 2) (Vt MG AF))))))
theorem EN:AS ["train","held","deed","load","pieces","worths"] ["train","held","deed"] (AH Dj):=scM
theorem Dd  (S:St.Src K mg "part_thrown" Dj)(BQ:Ge P w K mg base)(DM:Iu P w K mg base):Jf P w K mg base:=by
 refine dfM 2 S EN λhr hu=>?_
 exact(AG (GU (L0 (AB 2) AF) (Dw rfl (AN (Ab 3 EN.nd) (AN (Ab 4 EN.nd) (AN (Ab 5 EN.nd) BI)))))
      (AI (AX (deM BQ hr (AA (Ah A4 (AB 4) (AJ AW (AB 5) (AJ AW (AJ AW (AB 1) (AB 3)) AF))) (AA (deM DM hr (AA (AB 0) (AA (AB 1) (AA (AB 5) AE)))) AE))))))
theorem FC:AS ["train","held","owners","deed","shares","top","bottom"] ["train","held","owners","deed","shares"] (AH C2):=scM
theorem C6  (S:St.Src K mg "thrown_shares" C2)(Bh:GL P w K mg base)(Dd:Jf P w K mg base):IA P w K mg base:=by
 refine dfM 4 S FC λhr hu=>?_
 exact(AG (GU (deM Dd hr (AA (AB 0) (AA (AB 1) (AA (AB 3) AE)))) (Dw rfl (AN (Ab 5 FC.nd) (AN (Ab 6 FC.nd) BI))))
      (AI (AX (deM Bh hr (AA (AB 4) (AA (Ah He (AB 6) (AB 5)) (AA (AJ AW (AB 2) (AJ AW (AB 3) AF)) (AA (AB 5) AE))))))))
end
section
open PyProof.Rows (boot_isinstance boot_int boot_bool boot_tuple boot_str boot_list boot_abs boot_all boot_any boot_sum boot_max boot_min boot_range boot_enumerate boot_zip boot_sorted boot_set boot_divmod)
variable{P:uT}{w:ur}{K:tU}{mg:Str->tY tW}{base:uz}
theorem CZ:AS ["deed","shares","partner","other","sold","passed","changed"] ["deed","shares"] (AH Ds):=scM
theorem DX  (S:St.Src K mg "sold_shares" Ds)(B:Bts mg)(HM:QM P w K mg base)(Lg:VC P w K mg base)(Ft:Ng P w K mg base):Jc P w K mg base:=by
 refine dfM 3 S CZ λhr hu=>?_
 exact(AG (GU (L0 (AB 0) AF) (Dw rfl (AN (Ab 2 CZ.nd) (AN (Ab 3 CZ.nd) (AN (Ab 4 CZ.nd) BI)))))
      (AG (Aj 5 (deM Ft hr (AA (AJ AW (AB 1) (AB 2)) (AA (AB 4) AE))) CZ.nd)
      (AG (Aj 6 (Aw Lx rfl B.list boot_list (AA (AB 1) AE)) CZ.nd)
      (AG (Cn (deM Lg hr (AA (AJ AW (AB 1) (AB 2)) (AA (AB 5) AE))) (AB 6) (AB 2))
      (AG (Cn (deM HM hr (AA (AJ AW (AB 1) (AB 3)) (AA (AB 5) AE))) (AB 6) (AB 3))
      (AI (AX (Aw Ay rfl B.tuple va (AA (AB 6) AE)))))))))
theorem LX:AS ["train","held","owners","deed","shares"] ["train","held","owners","deed","shares"] (AH C5):=scM
theorem BU  (S:St.Src K mg "shares_behind" C5)(C6:IA P w K mg base)(DX:Jc P w K mg base):Fh P w K mg base:=by
 refine dfM 5 S LX λhr hu=>?_
 exact(AG (CW (Am (Bu hu) (AJ AW (AB 3) AF) BH) (AI (AX (deM C6 hr (AA (AB 0) (AA (AB 1) (AA (AB 2) (AA (AB 3) (AA (AB 4) AE)))))))) BA)
      (AG (CW (Am (Bu hu) (AJ AW (AB 3) AF) BH) (AI (AX (deM DX hr (AA (AB 3) (AA (AB 4) AE))))) BA)
      (AI (AX (AB 4)))))
theorem HG:AS ["train","held","owners","deed","behind"] ["train","held","owners","deed"] (AH Bs):=scM
theorem J6:AY ["train","held","owners","deed","behind"] (AH Bs) ["train","held","owners","deed","shares"] (ixC [0,1,2,3] 1) (IJ Bs 0):=csM
theorem J7:(["train","held","owners","deed","shares"]:KE Str).Nodup:=by decide+kernel
theorem Cv  (S:St.Src K mg "owners_behind" Bs)(Cs:Sk K mg "MAKERS" Bl)(Bw:Hc P w K mg base)(B1:Gj P w K mg base)(BU:Fh P w K mg base):Hq P w K mg base:=by
 refine dfM 6 S HG λhr hu=>?_
 exact(AG (Dv [0,1,2,3] 1 ["train","held","owners","deed","shares"] rfl HG.nd rfl rfl J6 (B9 (AB 2)) (λs H fp=>⟨Ab 4 J7,B4,deM BU hr (AA (AB 0) (AA (AB 1) (AA (AB 2) (AA (AB 3) (AA (AB 4) AE)))))⟩))
      (AG (CW (Am (Bu hu) (AJ AW (AB 3) AF) BH) (AI (AX (Ah Ao (AB 4) (CI (AA (deM Bw hr (AA (AJ AW (AB 0) AF) (AA (AJ AW (AB 3) AF) AE))) AE))))) BA)
      (AG (CW (Am Io (AJ AW (AB 3) AF) (KY Cs rfl)) (AI (AX (Ah Ao (AB 4) (CI (AA (deM B1 hr (AA (AB 1) (AA (AB 2) (AA (AB 3) AE)))) AE))))) BA)
      (AI (AX (AB 4))))))
theorem Ba:AS ["book","many","train","first","deeds","held","owners","holders","deed"] ["book","many"] (AH Dm):=scM
theorem Oj:AY ["book","many","train","first","deeds","held","owners","holders","deed"] (AH Dm) ["load"] (ixC [] 1) (IJ Dm 0):=csM
theorem OM:(["load"]:KE Str).Nodup:=by decide+kernel
theorem F4  (S:St.Src K mg "state_by" Dm)(Aq:DZ P w K mg base)(Ai:C1 P w K mg base)(BU:Fh P w K mg base)(Cv:Hq P w K mg base):Md P w K mg base:=by
 refine dfM 7 S Ba λhr hu=>?_
 exact(AG (GU (AB 0) (Dw rfl (AN (Ab 2 Ba.nd) (AN (Ab 3 Ba.nd) (AN (Ab 4 Ba.nd) BI)))))
      (AG (Aj 5 (deM Ai hr (AA (AB 0) AE)) Ba.nd)
      (AG (Dv [] 1 ["load"] rfl Ba.nd rfl rfl Oj (B9 (AB 3)) (λs H fp=>⟨Ab 0 OM,B4,AJ AW (AB 0) AF⟩))
      (AG (Aj 7 (AJ AW (AB 2) AF) Ba.nd)
      (AG (Dt ug rfl (B9 (Lz (AB 4) (AB 1))) (Ab 8 Ba.nd) (AG (Aj 7 (deM BU hr (AA (AB 2) (AA (AB 5) (AA (AB 6) (AA (AB 8) (AA (AB 7) AE)))))) Ba.nd)
      (AG (Aj 6 (deM Cv hr (AA (AB 2) (AA (AB 5) (AA (AB 6) (AA (AB 8) AE))))) Ba.nd)
      (AI (Aj 5 (deM Aq hr (AA (AB 5) (AA (AB 8) AE))) Ba.nd)))))
      (AI (AX (A8 (AA (AB 5) (AA (AB 6) (AA (AB 7) AE)))))))))))
theorem Cj:AS ["kinds","held","shares","sums","share","kind","pieces"] ["kinds","held","shares"] (AH Cy):=scM
theorem BR  (S:St.Src K mg "sums_by_kinds" Cy)(B:Bts mg)(EK:Sk K mg "NOTHING" E5)(HM:QM P w K mg base)(Ft:Ng P w K mg base):Ff P w K mg base:=by
 refine dfM 3 S Cj λhr hu=>?_
 exact(AG (Aj 3 (Ah A4 (CI (AA (KY EK rfl) AE)) (AB 0)) Cj.nd)
      (AG (Dt ug rfl (Uy rfl B.zip (AB 1) (AB 2)) (Dw rfl (AN (Dw rfl (AN (Ab 5 Cj.nd) (AN (Ab 6 Cj.nd) BI))) (AN (Ab 4 Cj.nd) BI))) (AI (Cn (deM HM hr (AA (AJ AW (AB 3) (AB 5)) (AA (deM Ft hr (AA (A8 (AA (AB 6) (AA AF AE))) (AA (AB 4) AE))) AE))) (AB 3) (AB 5))))
      (AI (AX (Aw Ay rfl B.tuple va (AA (AB 3) AE))))))
theorem Cc:AS ["book","many","partners","kinds","held","owners","holders"] ["book","many"] (AH BL):=scM
theorem LZ:AY ["book","many","partners","kinds","held","owners","holders"] (AH BL) ["kinds","held","owners","partner"] (ixC [3,4,5] 1) (IJ BL 0):=csM
theorem LU:(["kinds","held","owners","partner"]:KE Str).Nodup:=by decide+kernel
theorem K6:AY ["kinds","held","owners","partner"] (gC (IJ BL 0) (AH BL)) ["partner","shares"] (ixC [3] 1) (IJ BL 1):=csM
theorem LF:(["partner","shares"]:KE Str).Nodup:=by decide+kernel
theorem Dq  (S:St.Src K mg "theirs_told" BL)(B:Bts mg)(F4:Md P w K mg base)(BR:Ff P w K mg base):Jk P w K mg base:=by
 refine dfM 8 S Cc λhr hu=>?_
 exact(AG (GU (Lz (AJ AW (AB 0) AF) AF) (Dw rfl (AN (Ab 2 Cc.nd) (AN (Ab 3 Cc.nd) BI))))
      (AG (GU (deM F4 hr (AA (AB 0) (AA (AB 1) AE))) (Dw rfl (AN (Ab 4 Cc.nd) (AN (Ab 5 Cc.nd) (AN (Ab 6 Cc.nd) BI)))))
      (AI (AX (Bj [3,4,5] 1 ["kinds","held","owners","partner"] rfl LZ (EX rfl B.range (AA (AB 2) AE)) (λs H fp=>⟨Ab 3 LU,B4,deM BR hr (AA (AB 0) (AA (AB 1) (AA (Bj [3] 1 ["partner","shares"] rfl K6 (B9 (AB 2)) (λs H fp=>⟨Ab 1 LF,B4,AJ AW (AB 1) (AB 0)⟩)) AE)))⟩))))))
end
section
open PyProof.Rows (boot_isinstance boot_int boot_bool boot_tuple boot_str boot_list boot_abs boot_all boot_any boot_sum boot_max boot_min boot_range boot_enumerate boot_zip boot_sorted boot_set boot_divmod)
variable{P:uT}{w:ur}{K:tU}{mg:Str->tY tW}{base:uz}
theorem O1:AS ["book","many","partner"] ["book","many","partner"] (AH FN):=scM
theorem Ez  (S:St.Src K mg "theirs_by" FN)(A1:Dy P w K mg base)(A9:EB P w K mg base)(B5:Fs P w K mg base)(Dq:Jk P w K mg base):LN P w K mg base:=by
 refine dfM 9 S O1 λhr hu=>?_
 exact(AG (B3 (deM A1 hr (AA (AB 0) AE)))
      (AG (B3 (deM A9 hr (AA (AB 0) (AA (AB 1) AE))))
      (AG (B3 (deM B5 hr (AA (AB 0) (AA (AB 2) AE))))
      (AI (AX (AJ AW (deM Dq hr (AA (AB 0) (AA (AB 1) AE))) (AB 2)))))))
theorem JC:AS ["book","first","deeds"] ["book"] (AH Bb):=scM
theorem K0:AY ["book","first","deeds"] (AH Bb) ["load"] (ixC [] 1) (IJ Bb 0):=csM
theorem LP:(["load"]:KE Str).Nodup:=by decide+kernel
theorem Ln:AY ["book","first","deeds"] (AH Bb) ["deed"] (ixC [] 1) (IJ Bb 1):=csM
theorem LV:(["deed"]:KE Str).Nodup:=by decide+kernel
theorem Dc  (S:St.Src K mg "all_sources" Bb)(Cs:Sk K mg "MAKERS" Bl)(Cf:IZ P w K mg base):Jp P w K mg base:=by
 refine dfM 1 S JC λhr hu=>?_
 exact(AG (JW (i:=1) (j:=2) rfl JC.nd rfl rfl (by decide) rfl rfl (AJ AW (AB 0) AF) (AJ AW (AB 0) AF))
      (AI (AX (Ah Ao (Bj [] 1 ["load"] rfl K0 (B9 (AB 1)) (λs H fp=>⟨Ab 0 LP,B4,CI AE⟩)) (Bj [] 1 ["deed"] rfl Ln (B9 (AB 2)) (λs H fp=>⟨Ab 0 LV,HA (Am Io (AJ AW (AB 0) AF) (KY Cs rfl)),deM Cf hr (AA (AB 0) AE)⟩))))))
theorem Ca:AS ["book","many","held","origins","deed"] ["book"] (AH CO):=scM
theorem K7:AY ["book","many","held","origins","deed"] (AH CO) ["many","root"] (ixC [1] 1) (IJ CO 0):=csM
theorem K1:(["many","root"]:KE Str).Nodup:=by decide+kernel
theorem Dg  (S:St.Src K mg "all_origins" CO)(B:Bts mg)(Cs:Sk K mg "MAKERS" Bl)(Aq:DZ P w K mg base)(Ai:C1 P w K mg base)(EH:KS P w K mg base)(Bw:Hc P w K mg base)(B1:Gj P w K mg base):JV P w K mg base:=by
 refine dfM 5 S Ca λhr hu=>?_
 exact(AG (Aj 1 (deM EH hr (AA (AB 0) (AA (Av BW rfl B.len v9 (AA (AJ AW (AB 0) AF) AE)) AE))) Ca.nd)
      (AG (Aj 2 (deM Ai hr (AA (AB 0) AE)) Ca.nd)
      (AG (Dv [1] 1 ["many","root"] rfl Ca.nd rfl rfl K7 (EX rfl B.range (AA (Av BW rfl B.len v9 (AA (AB 2) AE)) AE)) (λs H fp=>⟨Ab 1 K1,B4,deM Bw hr (AA (AB 0) (AA (AB 1) AE))⟩))
      (AG (Dt ug rfl (B9 (AJ AW (AB 0) AF)) (Ab 4 Ca.nd) (AG (CW (Am (Bu hu) (AJ AW (AB 4) AF) BH) (AI (B3 (GR ue uf EU (AB 3) (AA (deM Bw hr (AA (AB 1) (AA (Av BW rfl B.len v9 (AA (AB 3) AE)) AE))) AE)))) (AI (CW (Am Io (AJ AW (AB 4) AF) (KY Cs rfl)) (AI (B3 (GR ue uf EU (AB 3) (AA (deM B1 hr (AA (AB 2) (AA (AB 3) (AA (AB 4) AE)))) AE)))) BA)))
      (AI (Aj 2 (deM Aq hr (AA (AB 2) (AA (AB 4) AE))) Ca.nd))))
      (AI (AX (AB 3)))))))
theorem Fo:AS ["book","held","origins","roots"] ["book"] (AH BO):=scM
theorem Mx:AY ["book","held","origins","roots"] (AH BO) ["load","sources"] (ixC [] 2) (IJ BO 0):=csM
theorem Iw:(["load","sources"]:KE Str).Nodup:=by decide+kernel
theorem Mt:AY ["book","held","origins","roots"] (AH BO) ["book","held","origins","root"] (ixC [0,1,2] 1) (IJ BO 1):=csM
theorem Mp:(["book","held","origins","root"]:KE Str).Nodup:=by decide+kernel
theorem Mz:AY ["book","held","origins","root"] (gC (IJ BO 1) (AH BO)) ["root","shares"] (ixC [3] 1) (IJ BO 2):=csM
theorem Mv:(["root","shares"]:KE Str).Nodup:=by decide+kernel
theorem FL  (S:St.Src K mg "come_home" BO)(B:Bts mg)(Dh:Ke P w K mg base)(A1:Dy P w K mg base)(BR:Ff P w K mg base)(Dc:Jp P w K mg base)(Dg:JV P w K mg base):LW P w K mg base:=by
 refine dfM 6 S Fo λhr hu=>?_
 exact(AG (B3 (deM A1 hr (AA (AB 0) AE)))
      (AG (Aj 1 (deM Dh hr (AA (AB 0) (AA (Av BW rfl B.len v9 (AA (AJ AW (AB 0) AF) AE)) AE))) Fo.nd)
      (AG (Aj 2 (deM Dg hr (AA (AB 0) AE)) Fo.nd)
      (AG (Dv [] 2 ["load","sources"] rfl Fo.nd rfl rfl Mx (Oe rfl B.enumerate (deM Dc hr (AA (AB 0) AE))) (λs H fp=>⟨Dw rfl (AN (Ab 0 Iw) (AN (Ab 1 Iw) BI)),HA (Am (Bu hu) (Av BW rfl B.len v9 (AA (AB 1) AE)) AF),AB 0⟩))
      (AI (AX (Bj [0,1,2] 1 ["book","held","origins","root"] rfl Mt (B9 (AB 3)) (λs H fp=>⟨Ab 3 Mp,B4,A8 (AA (AB 3) (AA (deM BR hr (AA (AJ AW (AJ AW (AB 0) AF) AF) (AA (AB 1) (AA (Bj [3] 1 ["root","shares"] rfl Mz (B9 (AB 2)) (λs H fp=>⟨Ab 1 Mv,B4,AJ AW (AB 1) (AB 0)⟩)) AE)))) AE))⟩))))))))
theorem Le:AS ["book","many","held"] ["book","many"] (AH CL):=scM
theorem NX:AY ["book","many","held"] (AH CL) ["held","kind"] (ixC [2] 1) (IJ CL 0):=csM
theorem Nz:(["held","kind"]:KE Str).Nodup:=by decide+kernel
theorem Nt:AY ["held","kind"] (gC (IJ CL 0) (AH CL)) ["kind","other","pieces"] (ixC [1] 2) (IJ CL 1):=csM
theorem Jm:(["kind","other","pieces"]:KE Str).Nodup:=by decide+kernel
theorem Fq  (S:St.Src K mg "stock_by" CL)(B:Bts mg)(Dh:Ke P w K mg base)(A1:Dy P w K mg base)(A9:EB P w K mg base):Me P w K mg base:=by
 refine dfM 5 S Le λhr hu=>?_
 exact(AG (B3 (deM A1 hr (AA (AB 0) AE)))
      (AG (B3 (deM A9 hr (AA (AB 0) (AA (AB 1) AE))))
      (AG (Aj 2 (deM Dh hr (AA (AB 0) (AA (AB 1) AE))) Le.nd)
      (AI (AX (Aw Ay rfl B.tuple va (AA (Bj [2] 1 ["held","kind"] rfl NX (EX rfl B.range (AA (AJ AW (AJ AW (AB 0) AF) AF) AE)) (λs H fp=>⟨Ab 1 Nz,B4,Av (JP rfl) rfl B.sum boot_sum (AA (Bj [1] 2 ["kind","other","pieces"] rfl Nt (B9 (AB 0)) (λs H fp=>⟨Dw rfl (AN (Ab 1 Jm) (AN (Ab 2 Jm) BI)),HA (Am (Bu hu) (AB 1) (AB 0)),AB 2⟩)) AE)⟩)) AE)))))))
theorem PB:AS ["_law_script","_law_k"] ["_law_script","_law_k"] (AH FG):=scM
theorem FH  (S:St.Src K mg "_law_cell_at" FG)(B:Bts mg):Kv P w K mg base:=by
 refine dfM 0 S PB λhr hu=>?_
 exact(AG (CW (Am Pf (AB 1) (Av BW rfl B.len v9 (AA (AB 0) AE))) (AI (AX (AJ AW (AB 0) (AB 1)))) BA)
      (AI (AX AF)))
end
section
open PyProof.Rows (boot_isinstance boot_int boot_bool boot_tuple boot_str boot_list boot_abs boot_all boot_any boot_sum boot_max boot_min boot_range boot_enumerate boot_zip boot_sorted boot_set boot_divmod)
variable{P:uT}{w:ur}{K:tU}{mg:Str->tY tW}{base:uz}
theorem VL:AS ["_law_cell"] ["_law_cell"] (AH JS):=scM
theorem JL  (S:St.Src K mg "_law_pen" JS)(B:Bts mg):Rv P w K mg base:=by
 refine dfM 0 S VL λhr hu=>?_
 exact(AI (AX (CI (AA (AB 0) (AA (Aw Jd rfl B.int ABB (AA (JA Xj (AB 0) (Ah Xy AF AF)) AE)) (AA AF (AA (Ah HZ (AB 0) AF) AE)))))))
theorem Ib:AS ["_law_pen_here","_law_bound","_law_found","_law_stir"] ["_law_pen_here","_law_bound"] (AH II):=scM
theorem AQ  (S:St.Src K mg "_law_draw" II):Dx P w K mg base:=by
 refine dfM 0 S Ib λhr hu=>?_
 exact(AG (CW (DW.dt (SN (Am (Bu hu) (AJ AW (AB 0) AF) AF) (NZ (Am SQ (AJ AW (AB 0) AF) AF)))) (AG (Aj 2 (Ah HZ (AJ AW (AB 0) AF) (AB 1)) Ib.nd)
      (AG (Cn (Ah IX (AJ AW (AB 0) AF) (AB 1)) (AB 0) AF)
      (AI (AX (AB 2))))) BA)
      (AG (Cn (Ah Ao (AJ AW (AB 0) AF) AF) (AB 0) AF)
      (AG (Aj 3 (Ah HZ (Ah A4 (Ah Ao (AJ AW (AB 0) AF) AF) (Ah Ao AF (Ah A4 AF (AJ AW (AB 0) AF)))) AF) Ib.nd)
      (AG (Aj 3 (Ah HZ (Ah Ao (Ah Ao (Ah A4 (AB 3) (AB 3)) (Ah A4 AF (AJ AW (AB 0) AF))) AF) AF) Ib.nd)
      (AI (AX (Ah HZ (Ah IX (Ah HZ (Ah A4 (AB 3) AF) AF) AF) (AB 1))))))))
theorem Kx:AS ["_law_one","_law_other"] ["_law_one","_law_other"] (AH GG):=scM
theorem Fy  (S:St.Src K mg "_law_common" GG):ML P w K mg base:=by
 refine dfM 0 S Kx λhr hu=>?_
 exact(AG (UJ (Vy 1) ug (Am SQ (AB 1) AF) (AI (JW (i:=0) (j:=1) rfl Kx.nd rfl rfl (by decide) rfl rfl (AB 1) (Ah HZ (AB 0) (AB 1)))))
      (AI (AX (AB 0))))
theorem Od:AS ["_law_top","_law_bottom","_law_by"] ["_law_top","_law_bottom"] (AH Hn):=scM
theorem A3  (S:St.Src K mg "_law_made" Hn)(B:Bts mg)(Fy:ML P w K mg base):Eh P w K mg base:=by
 refine dfM 1 S Od λhr hu=>?_
 exact(AG (Aj 2 (deM Fy hr (AA (Av N9 rfl B.abs boot_abs (AA (AB 0) AE)) (AA (AB 1) AE))) Od.nd)
      (AI (AX (A8 (AA (Ah IX (AB 0) (AB 2)) (AA (Ah IX (AB 1) (AB 2)) AE))))))
theorem Tv:AS ["_law_one","_law_other"] ["_law_one","_law_other"] (AH Hw):=scM
theorem BE  (S:St.Src K mg "_law_plus" Hw)(A3:Eh P w K mg base):FU P w K mg base:=by
 refine dfM 2 S Tv λhr hu=>?_
 exact(AI (AX (deM A3 hr (AA (Ah Ao (Ah A4 (AJ AW (AB 0) AF) (AJ AW (AB 1) AF)) (Ah A4 (AJ AW (AB 1) AF) (AJ AW (AB 0) AF))) (AA (Ah A4 (AJ AW (AB 0) AF) (AJ AW (AB 1) AF)) AE)))))
theorem RS:AS ["_law_one","_law_other"] ["_law_one","_law_other"] (AH Gm):=scM
theorem Al  (S:St.Src K mg "_law_times" Gm)(A3:Eh P w K mg base):Fd P w K mg base:=by
 refine dfM 2 S RS λhr hu=>?_
 exact(AI (AX (deM A3 hr (AA (Ah A4 (AJ AW (AB 0) AF) (AJ AW (AB 1) AF)) (AA (Ah A4 (AJ AW (AB 0) AF) (AJ AW (AB 1) AF)) AE)))))
end
section
open PyProof.Rows (boot_isinstance boot_int boot_bool boot_tuple boot_str boot_list boot_abs boot_all boot_any boot_sum boot_max boot_min boot_range boot_enumerate boot_zip boot_sorted boot_set boot_divmod)
variable{P:uT}{w:ur}{K:tU}{mg:Str->tY tW}{base:uz}
theorem S9:AS ["_law_one","_law_other"] ["_law_one","_law_other"] (AH ID):=scM
theorem Ej  (S:St.Src K mg "_law_less" ID)(BE:FU P w K mg base):Lw P w K mg base:=by
 refine dfM 3 S S9 λhr hu=>?_
 exact(AI (AX (deM BE hr (AA (AB 0) (AA (A8 (AA (Ah He AF (AJ AW (AB 1) AF)) (AA (AJ AW (AB 1) AF) AE))) AE)))))
theorem J2:AS ["_law_some","_law_found","_law_one"] ["_law_some"] (AH Jh):=scM
theorem G9  (S:St.Src K mg "_law_sum" Jh)(BE:FU P w K mg base):R9 P w K mg base:=by
 refine dfM 3 S J2 λhr hu=>?_
 exact(AG (Aj 1 (A8 (AA AF (AA AF AE))) J2.nd)
      (AG (Dt ug rfl (B9 (AB 0)) (Ab 2 J2.nd) (AI (Aj 1 (deM BE hr (AA (AB 1) (AA (AB 2) AE))) J2.nd)))
      (AI (AX (AB 1)))))
theorem Mf:AS ["_law_pen_here","_law_many","_law_weights"] ["_law_pen_here","_law_many"] (AH DC):=scM
theorem O0:AY ["_law_pen_here","_law_many","_law_weights"] (AH DC) ["_law_pen_here","_law_one"] (ixC [0] 1) (IJ DC 0):=csM
theorem Oz:(["_law_pen_here","_law_one"]:KE Str).Nodup:=by decide+kernel
theorem Oo:AY ["_law_pen_here","_law_many","_law_weights"] (AH DC) ["_law_weights","_law_weight"] (ixC [2] 1) (IJ DC 1):=csM
theorem Ov:(["_law_weights","_law_weight"]:KE Str).Nodup:=by decide+kernel
theorem Dr  (S:St.Src K mg "_law_whole" DC)(B:Bts mg)(AQ:Dx P w K mg base)(A3:Eh P w K mg base):Ka P w K mg base:=by
 refine dfM 2 S Mf λhr hu=>?_
 exact(AG (Aj 2 (Bj [0] 1 ["_law_pen_here","_law_one"] rfl O0 (EX rfl B.range (AA (AB 1) AE)) (λs H fp=>⟨Ab 1 Oz,B4,AJ AW (CI (AA AF (AA AF (AA (deM AQ hr (AA (AB 0) (AA AF AE))) (AA (deM AQ hr (AA (AB 0) (AA AF AE))) AE))))) (deM AQ hr (AA (AB 0) (AA AF AE)))⟩)) Mf.nd)
      (AG (CW (Am (Bu hu) (Av (JP rfl) rfl B.sum boot_sum (AA (AB 2) AE)) AF) (AI (Cn AF (AB 2) (deM AQ hr (AA (AB 0) (AA (AB 1) AE))))) BA)
      (AI (AX (Aw Ay rfl B.tuple va (AA (Bj [2] 1 ["_law_weights","_law_weight"] rfl Oo (B9 (AB 2)) (λs H fp=>⟨Ab 1 Ov,B4,deM A3 hr (AA (AB 1) (AA (Av (JP rfl) rfl B.sum boot_sum (AA (AB 0) AE)) AE))⟩)) AE))))))
theorem LL:AS ["_law_pen_here","_law_great"] ["_law_pen_here"] (AH F2):=scM
theorem CM  (S:St.Src K mg "_law_pieces" F2)(AQ:Dx P w K mg base):Jv P w K mg base:=by
 refine dfM 1 S LL λhr hu=>?_
 exact(AG (Aj 1 (Ah Ao (Ah Xy AF AF) (deM AQ hr (AA (AB 0) (AA AF AE)))) LL.nd)
      (AI (AX (AJ AW (CI (AA (Ah Ao AF (deM AQ hr (AA (AB 0) (AA AF AE)))) (AA (Ah Ao AF (deM AQ hr (AA (AB 0) (AA AF AE)))) (AA (Ah Ao AF (deM AQ hr (AA (AB 0) (AA AF AE)))) (AA (AB 1) AE))))) (Ah IX (deM AQ hr (AA (AB 0) (AA AF AE))) AF)))))
theorem JU:AS ["_law_pen_here","_law_partners","_law_kinds","_law_beasts"] ["_law_pen_here"] (AH G7):=scM
theorem Gv  (S:St.Src K mg "_law_train" G7)(AQ:Dx P w K mg base)(Dr:Ka P w K mg base):Nk P w K mg base:=by
 refine dfM 3 S JU λhr hu=>?_
 exact(AG (JW (i:=1) (j:=2) rfl JU.nd rfl rfl (by decide) rfl rfl (Ah Ao AF (deM AQ hr (AA (AB 0) (AA AF AE)))) (Ah Ao AF (deM AQ hr (AA (AB 0) (AA AF AE)))))
      (AG (Aj 3 (AJ AW (CI (AA (Ah Ao AF (deM AQ hr (AA (AB 0) (AA AF AE)))) (AA (Ah Ao AF (deM AQ hr (AA (AB 0) (AA AF AE)))) AE))) (deM AQ hr (AA (AB 0) (AA AF AE)))) JU.nd)
      (AI (AX (A8 (AA (AB 1) (AA (AB 2) (AA (AB 3) (AA (deM Dr hr (AA (AB 0) (AA (AB 1) AE))) (AA (deM AQ hr (AA (AB 0) (AA AF AE))) (AA (deM AQ hr (AA (AB 0) (AA AF AE))) AE)))))))))))
theorem JR:AS ["_law_pen_here","_law_train_here","_law_found","_law_k"] ["_law_pen_here","_law_train_here"] (AH Gk):=scM
theorem HB  (S:St.Src K mg "_law_first" Gk)(B:Bts mg)(AQ:Dx P w K mg base)(Dr:Ka P w K mg base)(CM:Jv P w K mg base):OT P w K mg base:=by
 refine dfM 3 S JR λhr hu=>?_
 exact(AG (Aj 2 (CI AE) JR.nd)
      (AG (Dt ug rfl (EX rfl B.range (AA (AJ AW (CI (AA AF (AA AF (AA (deM AQ hr (AA (AB 0) (AA AF AE))) AE)))) (deM AQ hr (AA (AB 0) (AA AF AE)))) AE)) (Ab 3 JR.nd) (AI (B3 (GR ue uf EU (AB 2) (AA (A8 (AA (deM AQ hr (AA (AB 0) (AA (AJ AW (AB 1) AF) AE))) (AA (deM CM hr (AA (AB 0) AE)) (AA (deM Dr hr (AA (AB 0) (AA (AJ AW (AB 1) AF) AE))) AE)))) AE)))))
      (AI (AX (Aw Ay rfl B.tuple va (AA (AB 2) AE))))))
end
section
open PyProof.Rows (boot_isinstance boot_int boot_bool boot_tuple boot_str boot_list boot_abs boot_all boot_any boot_sum boot_max boot_min boot_range boot_enumerate boot_zip boot_sorted boot_set boot_divmod)
variable{P:uT}{w:ur}{K:tU}{mg:Str->tY tW}{base:uz}
theorem MU:AS ["_law_pen_here","_law_bottom"] ["_law_pen_here"] (AH Gz):=scM
theorem HC  (S:St.Src K mg "_law_share" Gz)(AQ:Dx P w K mg base)(A3:Eh P w K mg base):Nd P w K mg base:=by
 refine dfM 2 S MU λhr hu=>?_
 exact(AG (Aj 1 (Ah Ao AF (deM AQ hr (AA (AB 0) (AA AF AE)))) MU.nd)
      (AI (AX (deM A3 hr (AA (Ah Ao AF (deM AQ hr (AA (AB 0) (AA (AB 1) AE)))) (AA (AB 1) AE))))))
theorem QV:AS ["_law_pen_here","_law_many"] ["_law_pen_here","_law_many"] (AH DY):=scM
theorem OR:AY ["_law_pen_here","_law_many"] (AH DY) ["_law_pen_here","_law_one"] (ixC [0] 1) (IJ DY 0):=csM
theorem Nn:(["_law_pen_here","_law_one"]:KE Str).Nodup:=by decide+kernel
theorem F1  (S:St.Src K mg "_law_worths" DY)(B:Bts mg)(AQ:Dx P w K mg base):MQ P w K mg base:=by
 refine dfM 1 S QV λhr hu=>?_
 exact(AI (AX (Aw Ay rfl B.tuple va (AA (Bj [0] 1 ["_law_pen_here","_law_one"] rfl OR (EX rfl B.range (AA (AB 1) AE)) (λs H fp=>⟨Ab 1 Nn,B4,Ah Ao AF (AJ AW (CI (AA (deM AQ hr (AA (AB 0) (AA AF AE))) (AA (deM AQ hr (AA (AB 0) (AA AF AE))) AE))) (deM AQ hr (AA (AB 0) (AA AF AE))))⟩)) AE))))
theorem RJ:AS ["_law_book_here"] ["_law_book_here"] (AH EY):=scM
theorem O5:AY ["_law_book_here"] (AH EY) ["_law_load"] (ixC [] 1) (IJ EY 0):=csM
theorem Ox:(["_law_load"]:KE Str).Nodup:=by decide+kernel
theorem CQ  (S:St.Src K mg "_law_begun" EY)(B:Bts mg):IP P w K mg base:=by
 refine dfM 0 S RJ λhr hu=>?_
 exact(AI (AX (CI (AA (Bj [] 1 ["_law_load"] rfl O5 (B9 (AJ AW (AB 0) AF)) (λs H fp=>⟨Ab 0 Ox,B4,Aw Lx rfl B.list boot_list (AA (AB 0) AE)⟩)) (AA (Aw Ay rfl B.tuple va (AA (AJ AW (AJ AW (AB 0) AF) AF) AE)) (AA (CI AE) AE))))))
theorem FP:AS ["_law_one","_law_other","_law_found","_law_mine","_law_its","_law_both"] ["_law_one","_law_other"] (AH Fv):=scM
theorem F6  (S:St.Src K mg "_law_pooled" Fv)(B:Bts mg)(A3:Eh P w K mg base)(BE:FU P w K mg base)(Al:Fd P w K mg base):MT P w K mg base:=by
 refine dfM 3 S FP λhr hu=>?_
 exact(AG (Aj 2 (CI AE) FP.nd)
      (AG (Dt ug rfl (Uy rfl B.zip (AJ AW (AB 0) AF) (AJ AW (AB 1) AF)) (Dw rfl (AN (Ab 3 FP.nd) (AN (Ab 4 FP.nd) BI))) (AG (Aj 5 (deM BE hr (AA (deM Al hr (AA (A8 (AA (AJ AW (AB 0) AF) (AA AF AE))) (AA (AB 3) AE))) (AA (deM Al hr (AA (A8 (AA (AJ AW (AB 1) AF) (AA AF AE))) (AA (AB 4) AE))) AE))) FP.nd)
      (AI (B3 (GR ue uf EU (AB 2) (AA (deM Al hr (AA (AB 5) (AA (deM A3 hr (AA AF (AA (Ah Ao (AJ AW (AB 0) AF) (AJ AW (AB 1) AF)) AE))) AE))) AE))))))
      (AI (AX (Aw Ay rfl B.tuple va (AA (AB 2) AE))))))
theorem Kk:AS ["_law_train_here","_law_loads","_law_deed_here","_law_worths_here","_law_whole_here"] ["_law_train_here","_law_loads","_law_deed_here"] (AH FZ):=scM
theorem QJ:AY ["_law_train_here","_law_loads","_law_deed_here","_law_worths_here","_law_whole_here"] (AH FZ) ["_law_worths_here","_law_kind","_law_pieces_here","_law_owners"] (ixC [3] 3) (IJ FZ 0):=csM
theorem Im:(["_law_worths_here","_law_kind","_law_pieces_here","_law_owners"]:KE Str).Nodup:=by decide+kernel
theorem IH  (S:St.Src K mg "_law_cost" FZ)(B:Bts mg)(A3:Eh P w K mg base):PJ P w K mg base:=by
 refine dfM 2 S Kk λhr hu=>?_
 exact(AG (Aj 3 (AJ AW (AB 2) AF) Kk.nd)
      (AG (Aj 4 (Ah Ao (Av (JP rfl) rfl B.sum boot_sum (AA (Bj [3] 3 ["_law_worths_here","_law_kind","_law_pieces_here","_law_owners"] rfl QJ (B9 (AB 1)) (λs H fp=>⟨Dw rfl (AN (Ab 1 Im) (AN (Ab 2 Im) (AN (Ab 3 Im) BI))),B4,Ah A4 (AB 2) (AJ AW (AB 0) (AB 1))⟩)) AE)) (Ah A4 (AJ AW (AB 0) AF) (AJ AW (AB 3) (Vt MG AF)))) Kk.nd)
      (AI (AX (deM A3 hr (AA (Ah A4 (AJ AW (AB 2) AF) (AJ AW (AB 3) (AJ AW (AJ AW (AB 1) (AJ AW (AB 2) AF)) AF))) (AA (AB 4) AE)))))))
theorem HL:AS ["_law_shares","_law_part","_law_owners","_law_found","_law_mine","_law_its"] ["_law_shares","_law_part","_law_owners"] (AH Gs):=scM
theorem Fj  (S:St.Src K mg "_law_borne" Gs)(B:Bts mg)(BE:FU P w K mg base)(Al:Fd P w K mg base)(Ej:Lw P w K mg base):Nq P w K mg base:=by
 refine dfM 4 S HL λhr hu=>?_
 exact(AG (Aj 3 (CI AE) HL.nd)
      (AG (Dt ug rfl (Uy rfl B.zip (AB 0) (AB 2)) (Dw rfl (AN (Ab 4 HL.nd) (AN (Ab 5 HL.nd) BI))) (AI (B3 (GR ue uf EU (AB 3) (AA (deM BE hr (AA (deM Al hr (AA (AB 4) (AA (deM Ej hr (AA (A8 (AA AF (AA AF AE))) (AA (AB 1) AE))) AE))) (AA (deM Al hr (AA (AB 5) (AA (AB 1) AE))) AE))) AE)))))
      (AI (AX (Aw Ay rfl B.tuple va (AA (AB 3) AE))))))
end
section
open PyProof.Rows (boot_isinstance boot_int boot_bool boot_tuple boot_str boot_list boot_abs boot_all boot_any boot_sum boot_max boot_min boot_range boot_enumerate boot_zip boot_sorted boot_set boot_divmod)
variable{P:uT}{w:ur}{K:tU}{mg:Str->tY tW}{base:uz}
theorem Kn:AS ["_law_shares","_law_deed_here","_law_found","_law_passes"] ["_law_shares","_law_deed_here"] (AH IF):=scM
theorem Gb  (S:St.Src K mg "_law_sold" IF)(B:Bts mg)(BE:FU P w K mg base)(Al:Fd P w K mg base)(Ej:Lw P w K mg base):Py P w K mg base:=by
 refine dfM 4 S Kn λhr hu=>?_
 exact(AG (Aj 2 (Aw Lx rfl B.list boot_list (AA (AB 0) AE)) Kn.nd)
      (AG (Aj 3 (deM Al hr (AA (AJ AW (AB 2) (AJ AW (AB 1) AF)) (AA (AJ AW (AB 1) AF) AE))) Kn.nd)
      (AG (Cn (deM Ej hr (AA (AJ AW (AB 2) (AJ AW (AB 1) AF)) (AA (AB 3) AE))) (AB 2) (AJ AW (AB 1) AF))
      (AG (Cn (deM BE hr (AA (AJ AW (AB 2) (AJ AW (AB 1) AF)) (AA (AB 3) AE))) (AB 2) (AJ AW (AB 1) AF))
      (AI (AX (Aw Ay rfl B.tuple va (AA (AB 2) AE))))))))
theorem ET:AS ["_law_train_here","_law_state","_law_deed_here","_law_loads","_law_holders","_law_numbers","_law_part","_law_owners","_law_load"] ["_law_train_here","_law_state","_law_deed_here"] (AH IG):=scM
theorem Hg  (S:St.Src K mg "_law_turn" IG)(IH:PJ P w K mg base)(Fj:Nq P w K mg base)(Gb:Py P w K mg base):Pl P w K mg base:=by
 refine dfM 5 S ET λhr hu=>?_
 exact(AG (GU (AB 1) (Dw rfl (AN (Ab 3 ET.nd) (AN (Ab 4 ET.nd) (AN (Ab 5 ET.nd) BI)))))
      (AI (CW (Am (Bu hu) (AJ AW (AB 2) AF) BH) (AG (JW (i:=6) (j:=7) rfl ET.nd rfl rfl (by decide) rfl rfl (deM IH hr (AA (AB 0) (AA (AB 3) (AA (AB 2) AE)))) (AJ AW (AJ AW (AB 3) (AJ AW (AB 2) AF)) AF))
      (AG (Cn (Ah He (AJ AW (AJ AW (AB 3) (AJ AW (AB 2) AF)) AF) (AJ AW (AB 2) AF)) (AJ AW (AB 3) (AJ AW (AB 2) AF)) AF)
      (AG (Dt ug rfl (B9 (AB 3)) (Ab 8 ET.nd) (AI (Cn (deM Fj hr (AA (AJ AW (AB 8) AF) (AA (AB 6) (AA (AB 7) AE)))) (AB 8) AF)))
      (AI (Cn (deM Fj hr (AA (AB 4) (AA (AB 6) (AA (AB 7) AE)))) (AB 1) AF))))) (AG (Dt ug rfl (B9 (AB 3)) (Ab 8 ET.nd) (AI (Cn (deM Gb hr (AA (AJ AW (AB 8) AF) (AA (AB 2) AE))) (AB 8) AF)))
      (AI (Cn (deM Gb hr (AA (AB 4) (AA (AB 2) AE))) (AB 1) AF))))))
theorem EL:AS ["_law_train_here","_law_state","_law_deed_here","_law_loads","_law_holders","_law_numbers","_law_word","_law_one","_law_other","_law_load","_law_given","_law_kind","_law_got"] ["_law_train_here","_law_state","_law_deed_here"] (AH IM):=scM
theorem TB:AY ["_law_train_here","_law_state","_law_deed_here","_law_loads","_law_holders","_law_numbers","_law_word","_law_one","_law_other","_law_load","_law_given","_law_kind","_law_got"] (AH IM) ["_law_deed_here","_law_one"] (ixC [2] 1) (IJ IM 0):=csM
theorem TZ:(["_law_deed_here","_law_one"]:KE Str).Nodup:=by decide+kernel
theorem FJ  (S:St.Src K mg "_law_do" IM)(B:Bts mg)(F6:MT P w K mg base)(Hg:Pl P w K mg base):NL P w K mg base:=by
 refine dfM 6 S EL λhr hu=>?_
 exact(AG (GU (AB 1) (Dw rfl (AN (Ab 3 EL.nd) (AN (Ab 4 EL.nd) (AN (Ab 5 EL.nd) BI)))))
      (AG (Aj 6 (AJ AW (AB 2) AF) EL.nd)
      (AI (CW (Am (Bu hu) (AB 6) BH) (AI (B3 (GR ue uf EU (AB 3) (AA (CI (AA (AJ AW (AB 2) AF) (AA (AJ AW (AB 2) AF) (AA (Aw Ay rfl B.tuple va (AA (Bj [2] 1 ["_law_deed_here","_law_one"] rfl TB (EX rfl B.range (AA (AJ AW (AB 0) AF) AE)) (λs H fp=>⟨Ab 1 TZ,B4,A8 (AA (Aw Jd rfl B.int ABB (AA (JA (Bu hu) (AB 1) (AJ AW (AB 0) AF)) AE)) (AA AF AE))⟩)) AE)) AE)))) AE)))) (AI (CW (Am (Bu hu) (AB 6) BH) (AG (JW (i:=7) (j:=8) rfl EL.nd rfl rfl (by decide) rfl rfl (AJ AW (AB 3) (AJ AW (AB 2) AF)) (AJ AW (AB 3) (AJ AW (AB 2) AF)))
      (AG (B3 (GR ue uf EU (AB 3) (AA (CI (AA (AJ AW (AB 7) AF) (AA (Ah Ao (AJ AW (AB 7) AF) (AJ AW (AB 8) AF)) (AA (deM F6 hr (AA (AB 7) (AA (AB 8) AE))) AE)))) AE)))
      (AG (Cn AF (AB 7) AF)
      (AI (Cn AF (AB 8) AF))))) (AI (CW (Am Io (AB 6) (A8 (AA BH (AA BH AE)))) (AG (GU (L0 (AB 2) (Vt MG AF)) (Dw rfl (AN (Ab 9 EL.nd) (AN (Ab 10 EL.nd) (AN (Ab 11 EL.nd) (AN (Ab 12 EL.nd) BI))))))
      (AG (Cn (Ah He (AJ AW (AJ AW (AB 3) (AB 9)) AF) (AB 10)) (AJ AW (AB 3) (AB 9)) AF)
      (AG (B3 (GR ue uf EU (AB 3) (AA (CI (AA (AB 11) (AA (AB 12) (AA (AJ AW (AJ AW (AB 3) (AB 9)) AF) AE)))) AE)))
      (AI (B3 (GR zA PySem.F.type_list_extend eg (AB 5) (AA (Ah A4 (fM (AB 2) AF AF) (Aw Jd rfl B.int ABB (AA (JA (Bu hu) (AB 6) BH) AE))) AE))))))) (AI (CW (Am (Bu hu) (AB 6) BH) (AI (Cn (Ah He (AJ AW (AJ AW (AB 3) (AJ AW (AB 2) AF)) AF) (AJ AW (AB 2) AF)) (AJ AW (AB 3) (AJ AW (AB 2) AF)) AF)) (AI (B3 (deM Hg hr (AA (AB 0) (AA (AB 1) (AA (AB 2) AE))))))))))))))))
theorem CC:AS ["_law_pen_here","_law_train_here","_law_state","_law_loads","_law_holders","_law_numbers","_law_full","_law_way","_law_load","_law_some","_law_same","_law_kind","_law_left","_law_partner"] ["_law_pen_here","_law_train_here","_law_state"] (AH Cw):=scM
theorem Qi:AY ["_law_pen_here","_law_train_here","_law_state","_law_loads","_law_holders","_law_numbers","_law_full","_law_way","_law_load","_law_some","_law_same","_law_kind","_law_left","_law_partner"] (AH Cw) ["_law_at","_law_load"] (ixC [] 2) (IJ Cw 0):=csM
theorem K3:(["_law_at","_law_load"]:KE Str).Nodup:=by decide+kernel
theorem Qc:AY ["_law_pen_here","_law_train_here","_law_state","_law_loads","_law_holders","_law_numbers","_law_full","_law_way","_law_load","_law_some","_law_same","_law_kind","_law_left","_law_partner"] (AH Cw) ["_law_loads","_law_load","_law_at"] (ixC [3,8] 1) (IJ Cw 1):=csM
theorem QB:(["_law_loads","_law_load","_law_at"]:KE Str).Nodup:=by decide+kernel
theorem QK:AY ["_law_pen_here","_law_train_here","_law_state","_law_loads","_law_holders","_law_numbers","_law_full","_law_way","_law_load","_law_some","_law_same","_law_kind","_law_left","_law_partner"] (AH Cw) ["_law_numbers","_law_number"] (ixC [5] 1) (IJ Cw 2):=csM
theorem Q2:(["_law_numbers","_law_number"]:KE Str).Nodup:=by decide+kernel
theorem Hs  (S:St.Src K mg "_law_deed" Cw)(B:Bts mg)(AQ:Dx P w K mg base)(CM:Jv P w K mg base)(HC:Nd P w K mg base)(F1:MQ P w K mg base):P4 P w K mg base:=by
 refine dfM 3 S CC λhr hu=>?_
 exact(AG (GU (AB 2) (Dw rfl (AN (Ab 3 CC.nd) (AN (Ab 4 CC.nd) (AN (Ab 5 CC.nd) BI)))))
      (AG (Dv [] 2 ["_law_at","_law_load"] rfl CC.nd rfl rfl Qi (Oe rfl B.enumerate (AB 3)) (λs H fp=>⟨Dw rfl (AN (Ab 0 K3) (AN (Ab 1 K3) BI)),HA (Am SQ (AJ AW (AB 1) AF) AF),AB 0⟩))
      (AG (Aj 7 (deM AQ hr (AA (AB 0) (AA AF AE))) CC.nd)
      (AG (CW (DW.dt (jd (Am Pf (AB 7) AF) (dG (Am (Bu hu) (AB 6) (CI AE))))) (AI (AX (A8 (AA BH (AA (deM AQ hr (AA (AB 0) (AA (AJ AW (AB 1) AF) AE))) (AA (deM AQ hr (AA (AB 0) (AA (AJ AW (AB 1) AF) AE))) (AA (deM CM hr (AA (AB 0) AE)) AE))))))) BA)
      (AG (Aj 8 (AJ AW (AB 6) (deM AQ hr (AA (AB 0) (AA (Av BW rfl B.len v9 (AA (AB 6) AE)) AE)))) CC.nd)
      (AG (Aj 9 (Ah Ao AF (deM AQ hr (AA (AB 0) (AA (Av (R4 rfl) rfl B.min boot_min (AA (AJ AW (AJ AW (AB 3) (AB 8)) AF) (AA AF AE))) AE)))) CC.nd)
      (AG (CW (Am Pf (AB 7) AF) (AG (Dv [3,8] 1 ["_law_loads","_law_load","_law_at"] rfl CC.nd rfl rfl Qc (B9 (AB 6)) (λs H fp=>⟨Ab 2 QB,HA (DW.dt (SN (Am (Lb hu) (AB 2) (AB 1)) (NZ (Am (Bu hu) (AJ AW (AJ AW (AB 0) (AB 2)) AF) (AJ AW (AJ AW (AB 0) (AB 1)) AF))))),AB 2⟩))
      (AI (CW (Am (Lb hu) (AB 10) (CI AE)) (AI (AX (A8 (AA BH (AA (AB 8) (AA (AJ AW (AB 10) (deM AQ hr (AA (AB 0) (AA (Av BW rfl B.len v9 (AA (AB 10) AE)) AE)))) AE)))))) BA))) BA)
      (AG (CW (DW.dt (SN (Am Pf (AB 7) AF) (NZ (Am SQ (AJ AW (AB 1) AF) AF)))) (AG (Aj 11 (Ah HZ (Ah Ao (Ah Ao (AJ AW (AJ AW (AB 3) (AB 8)) AF) AF) (deM AQ hr (AA (AB 0) (AA (Ah He (AJ AW (AB 1) AF) AF) AE)))) (AJ AW (AB 1) AF)) CC.nd)
      (AG (Dv [5] 1 ["_law_numbers","_law_number"] rfl CC.nd rfl rfl QK (EX rfl B.range (AA AF AE)) (λs H fp=>⟨Ab 1 Q2,HA (Am Ri (AB 1) (AB 0)),AB 1⟩))
      (AG (CW (DW.dt (SN (Am (Bu hu) (AB 7) AF) (NZ (Am (Lb hu) (AB 12) (CI AE))))) (AI (AX (A8 (AA BH (AA (AJ AW (AB 12) (deM AQ hr (AA (AB 0) (AA (Av BW rfl B.len v9 (AA (AB 12) AE)) AE)))) (AA (AB 8) (AA (AB 9) (AA (AB 11) (AA (deM CM hr (AA (AB 0) AE)) AE))))))))) BA)
      (AI (AX (A8 (AA BH (AA (AB 8) (AA (AB 9) (AA (AB 11) (AA (deM CM hr (AA (AB 0) AE)) AE))))))))))) BA)
      (AG (CW (Am (Bu hu) (AB 7) AF) (AI (AX (A8 (AA BH (AA (AB 8) (AA (AB 9) AE)))))) BA)
      (AG (CW (DW.dt (SN (Am (Bu hu) (AB 7) AF) (NZ (Am SQ (AJ AW (AB 1) AF) AF)))) (AG (Aj 13 (deM AQ hr (AA (AB 0) (AA (AJ AW (AB 1) AF) AE))) CC.nd)
      (AI (AX (A8 (AA BH (AA (AB 13) (AA (Ah HZ (Ah Ao (Ah Ao (AB 13) AF) (deM AQ hr (AA (AB 0) (AA (Ah He (AJ AW (AB 1) AF) AF) AE)))) (AJ AW (AB 1) AF)) (AA (deM HC hr (AA (AB 0) AE)) AE)))))))) BA)
      (AI (AX (A8 (AA BH (AA (AB 8) (AA (AB 9) (AA (deM F1 hr (AA (AB 0) (AA (Ah Ao (AJ AW (AB 1) AF) AF) AE))) AE)))))))))))))))))
theorem FR:AS ["_law_pen_here","_law_most","_law_train_here","_law_first_here","_law_state","_law_deeds","_law_k","_law_deed_here"] ["_law_pen_here","_law_most"] (AH FT):=scM
theorem Qv:AY ["_law_pen_here","_law_most","_law_train_here","_law_first_here","_law_state","_law_deeds","_law_k","_law_deed_here"] (AH FT) ["_law_one"] (ixC [] 1) (IJ FT 0):=csM
theorem Qp:(["_law_one"]:KE Str).Nodup:=by decide+kernel
theorem Hl  (S:St.Src K mg "_law_book" FT)(B:Bts mg)(AQ:Dx P w K mg base)(Gv:Nk P w K mg base)(HB:OT P w K mg base)(CQ:IP P w K mg base)(FJ:NL P w K mg base)(Hs:P4 P w K mg base):Pk P w K mg base:=by
 refine dfM 7 S FR λhr hu=>?_
 exact(AG (Aj 2 (deM Gv hr (AA (AB 0) AE)) FR.nd)
      (AG (Aj 3 (deM HB hr (AA (AB 0) (AA (AB 2) AE))) FR.nd)
      (AG (JW (i:=4) (j:=5) rfl FR.nd rfl rfl (by decide) rfl rfl (deM CQ hr (AA (A8 (AA (AB 2) (AA (AB 3) (AA (A8 AE) AE)))) AE)) (CI AE))
      (AG (Dt ug rfl (EX rfl B.range (AA (deM AQ hr (AA (AB 0) (AA (Ah Ao (AB 1) AF) AE))) AE)) (Ab 6 FR.nd) (AG (Aj 7 (deM Hs hr (AA (AB 0) (AA (AB 2) (AA (AB 4) AE)))) FR.nd)
      (AI (CW (DW.dt (jd (Am (Lb hu) (AJ AW (AB 7) AF) BH) (dG (Am Pf (Av BW rfl B.len v9 (AA (Bj [] 1 ["_law_one"] rfl Qv (B9 (AB 5)) (λs H fp=>⟨Ab 0 Qp,HA (Am (Bu hu) (AJ AW (AB 0) AF) BH),AB 0⟩)) AE)) AF)))) (AG (B3 (deM FJ hr (AA (AB 2) (AA (AB 4) (AA (AB 7) AE)))))
      (AI (B3 (GR ue uf EU (AB 5) (AA (AB 7) AE))))) BA))))
      (AI (AX (A8 (AA (AB 2) (AA (AB 3) (AA (Aw Ay rfl B.tuple va (AA (AB 5) AE)) AE))))))))))
theorem GY:AS ["_law_book_here","_law_state","_law_found","_law_deed_here"] ["_law_book_here"] (AH Ci):=scM
theorem OK:AY ["_law_book_here","_law_state","_law_found","_law_deed_here"] (AH Ci) ["_law_load"] (ixC [] 1) (IJ Ci 0):=csM
theorem OH:(["_law_load"]:KE Str).Nodup:=by decide+kernel
theorem NY:AY ["_law_book_here","_law_state","_law_found","_law_deed_here"] (AH Ci) ["_law_load"] (ixC [] 1) (IJ Ci 1):=csM
theorem OV:(["_law_load"]:KE Str).Nodup:=by decide+kernel
theorem F5  (S:St.Src K mg "_law_states" Ci)(B:Bts mg)(CQ:IP P w K mg base)(FJ:NL P w K mg base):Mc P w K mg base:=by
 refine dfM 7 S GY λhr hu=>?_
 exact(AG (Aj 1 (deM CQ hr (AA (AB 0) AE)) GY.nd)
      (AG (Aj 2 (CI (AA (A8 (AA (Bj [] 1 ["_law_load"] rfl OK (B9 (AJ AW (AB 1) AF)) (λs H fp=>⟨Ab 0 OH,B4,Aw Ay rfl B.tuple va (AA (AB 0) AE)⟩)) (AA (Aw Ay rfl B.tuple va (AA (AJ AW (AB 1) AF) AE)) AE))) AE)) GY.nd)
      (AG (Dt ug rfl (B9 (AJ AW (AB 0) AF)) (Ab 3 GY.nd) (AG (B3 (deM FJ hr (AA (AJ AW (AB 0) AF) (AA (AB 1) (AA (AB 3) AE)))))
      (AI (B3 (GR ue uf EU (AB 2) (AA (A8 (AA (Bj [] 1 ["_law_load"] rfl NY (B9 (AJ AW (AB 1) AF)) (λs H fp=>⟨Ab 0 OV,B4,Aw Ay rfl B.tuple va (AA (AB 0) AE)⟩)) (AA (Aw Ay rfl B.tuple va (AA (AJ AW (AB 1) AF) AE)) AE))) AE))))))
      (AI (AX (AB 2))))))
end
section
open PyProof.Rows (boot_isinstance boot_int boot_bool boot_tuple boot_str boot_list boot_abs boot_all boot_any boot_sum boot_max boot_min boot_range boot_enumerate boot_zip boot_sorted boot_set boot_divmod)
variable{P:uT}{w:ur}{K:tU}{mg:Str->tY tW}{base:uz}
theorem BX:AS ["_law_book_here","_law_state","_law_found","_law_deed_here","_law_one","_law_other","_law_mine","_law_its","_law_row","_law_root","_law_both"] ["_law_book_here"] (AH C9):=scM
theorem Mn:AY ["_law_book_here","_law_state","_law_found","_law_deed_here","_law_one","_law_other","_law_mine","_law_its","_law_row","_law_root","_law_both"] (AH C9) ["_law_load"] (ixC [] 1) (IJ C9 0):=csM
theorem Mr:(["_law_load"]:KE Str).Nodup:=by decide+kernel
theorem FF  (S:St.Src K mg "_law_origins" C9)(B:Bts mg)(A3:Eh P w K mg base)(BE:FU P w K mg base)(Al:Fd P w K mg base)(CQ:IP P w K mg base)(FJ:NL P w K mg base):Ll P w K mg base:=by
 refine dfM 7 S BX λhr hu=>?_
 exact(AG (JW (i:=1) (j:=2) rfl BX.nd rfl rfl (by decide) rfl rfl (deM CQ hr (AA (AB 0) AE)) (Bj [] 1 ["_law_load"] rfl Mn (EX rfl B.range (AA (Av BW rfl B.len v9 (AA (AJ AW (AB 0) AF) AE)) AE)) (λs H fp=>⟨Ab 0 Mr,B4,cU (UN (AB 0) (A8 (AA AF (AA AF AE))) XR) (List.cons_ne_nil _ _) (by decide)⟩)))
      (AG (Dt ug rfl (B9 (AJ AW (AB 0) AF)) (Ab 3 BX.nd) (AG (CW (Am (Bu hu) (AJ AW (AB 3) AF) BH) (AI (B3 (GR ue uf EU (AB 2) (AA (cU (UN (Av BW rfl B.len v9 (AA (AB 2) AE)) (A8 (AA AF (AA AF AE))) XR) (List.cons_ne_nil _ _) (by decide)) AE)))) (AI (CW (Am (Bu hu) (AJ AW (AB 3) AF) BH) (AG (GU (L0 (AB 3) AF) (Dw rfl (AN (Ab 4 BX.nd) (AN (Ab 5 BX.nd) BI))))
      (AG (JW (i:=6) (j:=7) rfl BX.nd rfl rfl (by decide) rfl rfl (AJ AW (AJ AW (AJ AW (AB 1) AF) (AB 4)) AF) (AJ AW (AJ AW (AJ AW (AB 1) AF) (AB 5)) AF))
      (AG (Aj 8 iD BX.nd)
      (AG (Dt ug rfl (B9 (nS rfl rfl B.sorted rfl B.set (AA (Ah Ao (iH rfl rfl B.list (AA (AJ AW (AB 2) (AB 4)) AE)) (iH rfl rfl B.list (AA (AJ AW (AB 2) (AB 5)) AE))) AE))) (Ab 9 BX.nd) (AG (Aj 10 (deM Al hr (AA (A8 (AA (AB 6) (AA AF AE))) (AA (XE hu (AJ AW (AB 2) (AB 4)) (AB 9) (A8 (AA AF (AA AF AE))) ⟨rfl,rfl,rfl,rfl⟩) AE))) BX.nd)
      (AG (Aj 10 (deM BE hr (AA (AB 10) (AA (deM Al hr (AA (A8 (AA (AB 7) (AA AF AE))) (AA (XE hu (AJ AW (AB 2) (AB 5)) (AB 9) (A8 (AA AF (AA AF AE))) ⟨rfl,rfl,rfl,rfl⟩) AE))) AE))) BX.nd)
      (AI (Tg hu (deM Al hr (AA (AB 10) (AA (deM A3 hr (AA AF (AA (Ah Ao (AB 6) (AB 7)) AE))) AE))) (AB 8) (AB 9))))))
      (AI (B3 (GR ue uf EU (AB 2) (AA (AB 8) AE)))))))) (AI (CW (Am Io (AJ AW (AB 3) AF) (A8 (AA BH (AA BH AE)))) (AI (B3 (GR ue uf EU (AB 2) (AA (oC rfl B.dict Vg (AA (AJ AW (AB 2) (AJ AW (AB 3) (Vt MG AF))) AE)) AE)))) BA)))))
      (AI (B3 (deM FJ hr (AA (AJ AW (AB 0) AF) (AA (AB 1) (AA (AB 3) AE))))))))
      (AI (AX (AB 2)))))
theorem DU:AS ["_law_book_here","_law_found","_law_load","_law_row","_law_many","_law_deed_here"] ["_law_book_here"] (AH EZ):=scM
theorem O3:AY ["_law_book_here","_law_found","_law_load","_law_row","_law_many","_law_deed_here"] (AH EZ) ["_law_deed_here","_law_one"] (ixC [5] 1) (IJ EZ 0):=csM
theorem Ou:(["_law_deed_here","_law_one"]:KE Str).Nodup:=by decide+kernel
theorem Fg  (S:St.Src K mg "_law_roots" EZ)(B:Bts mg):Na P w K mg base:=by
 refine dfM 0 S DU λhr hu=>?_
 exact(AG (Aj 1 iD DU.nd)
      (AG (Dt ug rfl (Oe rfl B.enumerate (AJ AW (AB 0) AF)) (Dw rfl (AN (Ab 2 DU.nd) (AN (Ab 3 DU.nd) BI))) (AI (Tg hu (AJ AW (AB 3) AF) (AB 1) (AB 2))))
      (AG (Aj 4 (Av BW rfl B.len v9 (AA (AJ AW (AB 0) AF) AE)) DU.nd)
      (AG (Dt ug rfl (B9 (AJ AW (AB 0) AF)) (Ab 5 DU.nd) (AG (CW (Am (Bu hu) (AJ AW (AB 5) AF) BH) (AI (Tg hu (Aw Ay rfl B.tuple va (AA (Bj [5] 1 ["_law_deed_here","_law_one"] rfl O3 (EX rfl B.range (AA (AJ AW (AJ AW (AB 0) AF) AF) AE)) (λs H fp=>⟨Ab 1 Ou,B4,A8 (AA (Aw Jd rfl B.int ABB (AA (JA (Bu hu) (AB 1) (AJ AW (AB 0) AF)) AE)) (AA AF AE))⟩)) AE)) (AB 1) (AB 4))) BA)
      (AI (Aj 4 (Ah Ao (AB 4) (Aw Jd rfl B.int ABB (AA (JA Io (AJ AW (AB 5) AF) (A8 (AA BH (AA BH (AA BH (AA BH AE)))))) AE))) DU.nd))))
      (AI (AX (AB 1)))))))
theorem CV:AS ["_law_script","_law_k","_law_pen_here","_law_book_here","_law_train_here","_law_many","_law_loads","_law_shares","_law_due","_law_root","_law_parts","_law_kind","_law_some","_law_pieces_here","_law_whose","_law_partner","_law_amount"] ["_law_script"] (AH EA):=scM
theorem Vm:AY ["_law_script","_law_k","_law_pen_here","_law_book_here","_law_train_here","_law_many","_law_loads","_law_shares","_law_due","_law_root","_law_parts","_law_kind","_law_some","_law_pieces_here","_law_whose","_law_partner","_law_amount"] (AH EA) ["_law_shares","_law_root","_law_kind","_law_at","_law_load"] (ixC [7,9,11] 2) (IJ EA 0):=csM
theorem Px:(["_law_shares","_law_root","_law_kind","_law_at","_law_load"]:KE Str).Nodup:=by decide+kernel
theorem VU:AY ["_law_script","_law_k","_law_pen_here","_law_book_here","_law_train_here","_law_many","_law_loads","_law_shares","_law_due","_law_root","_law_parts","_law_kind","_law_some","_law_pieces_here","_law_whose","_law_partner","_law_amount"] (AH EA) ["_law_pieces_here","_law_share_here"] (ixC [] 2) (IJ EA 1):=csM
theorem PH:(["_law_pieces_here","_law_share_here"]:KE Str).Nodup:=by decide+kernel
theorem Vs:AY ["_law_script","_law_k","_law_pen_here","_law_book_here","_law_train_here","_law_many","_law_loads","_law_shares","_law_due","_law_root","_law_parts","_law_kind","_law_some","_law_pieces_here","_law_whose","_law_partner","_law_amount"] (AH EA) ["_law_kind","_law_root","_law_parts"] (ixC [11] 2) (IJ EA 2):=csM
theorem Pu:(["_law_kind","_law_root","_law_parts"]:KE Str).Nodup:=by decide+kernel
theorem Vl:AY ["_law_script","_law_k","_law_pen_here","_law_book_here","_law_train_here","_law_many","_law_loads","_law_shares","_law_due","_law_root","_law_parts","_law_kind","_law_some","_law_pieces_here","_law_whose","_law_partner","_law_amount"] (AH EA) ["_law_deed_here"] (ixC [] 1) (IJ EA 3):=csM
theorem Vp:(["_law_deed_here"]:KE Str).Nodup:=by decide+kernel
theorem VW:AY ["_law_script","_law_k","_law_pen_here","_law_book_here","_law_train_here","_law_many","_law_loads","_law_shares","_law_due","_law_root","_law_parts","_law_kind","_law_some","_law_pieces_here","_law_whose","_law_partner","_law_amount"] (AH EA) ["_law_kind","_law_whose","_law_partner","_law_root","_law_parts"] (ixC [11,14,15] 2) (IJ EA 4):=csM
theorem PV:(["_law_kind","_law_whose","_law_partner","_law_root","_law_parts"]:KE Str).Nodup:=by decide+kernel
end
theorem nr{α:Sort _}{a b:α}(h:a=b):a=b:=h
@[simp high] theorem Ap{α β:Type}(a:α)(f:α->Option β):(some a).bind f=f a:=Eq.mp (congrArg (λz=>z=f a) rfl) (Eq.refl (f a))
@[simp high] theorem nG{α β:Type}(a:α)(f:α->β):(some a).map f=some (f a):=Eq.mp (congrArg (λz=>z=some (f a)) rfl) (Eq.refl (some (f a)))
section
variable{E:En}{S:Sto}{op:OpN}{f g c:Ev}{d:D}{i:Nat}{w:Wv}{a b e h r':D}{r:KE D}{fs:KE Ev}
@[simp] theorem tK{o:Option D}{E:En}:at? (o::E) 0=o:=nr rfl
@[simp] theorem sv{o:Option D}{E:En}{i:Nat}:at? (o::E) (i+1)=at? E i:=nr rfl
@[simp] theorem qY:eC d E S=some (d,S):=nr rfl
@[simp] theorem pT:eV i E S=(at? E i).map λd=>(d,S):=nr rfl
@[simp] theorem gd:evs [] E S=some ([],S):=nr rfl
@[simp] theorem ER:evs (f::fs) E S=(f E S).bind λr=>(evs fs E r.2).map λq=>(r.1::q.1,q.2):=nr rfl
@[simp] theorem Wf{cf:Bool}:Qw cf op fs E S=(evs fs E S).bind λr=>(op (r.1.map (dr r.2))).bind λw=>fin cf w r.2:=nr rfl
@[simp] theorem sY{cf:Bool}:fin cf (.val d) S=some (d,S):=by cases cf<;>rfl
@[simp] theorem sf:fin false (.own r) S=some (.lst r,S):=nr rfl
@[simp] theorem qm:fin true (.own r) S=some (.ref S.length,S++[.lst r]):=nr rfl
@[simp] theorem pv:dr S .non=.val .non:=nr rfl
@[simp] theorem rQ{b:Bool}:dr S (.bl b)=.val (.bl b):=nr rfl
@[simp] theorem pq{i:Int}:dr S (.int i)=.val (.int i):=nr rfl
@[simp] theorem qc{x:Str}:dr S (.str x)=.val (.str x):=nr rfl
@[simp] theorem sP{x:String}:dr S (.ty x)=.val (.ty x):=nr rfl
@[simp] theorem pV:dr S (.tup r)=.val (.tup r):=nr rfl
@[simp] theorem qC:dr S (.lst r)=.val (.lst r):=nr rfl
@[simp] theorem qQ{ns:List Int}:dr S (.scr ns)=.val (.scr ns):=nr rfl
theorem As{n:Nat}(h:S[n]?=Gc (.lst r)):dr S (.ref n)=.own r:=by
 show(match S[n]? with|some (.lst ds)=>Wv.own ds|_=>.val (.ref n))=_
 rw[h]
theorem AV{n:Nat}(h:S[n]?=Gc (.lst r)):GJ S n=Gc r:=by
 unfold GJ
 rw[h]
@[simp] theorem qE:fz (.val d)=d:=nr rfl
@[simp] theorem qZ:fz (.own r)=.lst r:=nr rfl
noncomputable def oP(g:Ev)(E:En)(r:D×Sto):tY (D×Sto):=match r.1 with| .bl true=>g E r.2| .bl false=>Gc (.bl false,r.2)|_=>none
noncomputable def orK(g:Ev)(E:En)(r:D×Sto):tY (D×Sto):=match r.1 with| .bl false=>g E r.2| .bl true=>Gc (.bl true,r.2)|_=>none
noncomputable def pb(r:D×Sto):tY (D×Sto):=match r.1 with| .bl b=>Gc (.bl (!b),r.2)|_=>none
noncomputable def ifK(f g:Ev)(E:En)(r:D×Sto):tY (D×Sto):=match r.1 with| .bl true=>f E r.2| .bl false=>g E r.2|_=>none
@[simp] theorem qM:oP g E (.bl true,S)=g E S:=nr rfl
@[simp] theorem pU:oP g E (.bl false,S)=some (.bl false,S):=nr rfl
@[simp] theorem rS:orK g E (.bl false,S)=g E S:=nr rfl
@[simp] theorem qy:orK g E (.bl true,S)=some (.bl true,S):=nr rfl
@[simp] theorem qU{b:Bool}:pb (.bl b,S)=some (.bl (!b),S):=nr rfl
@[simp] theorem sS:ifK f g E (.bl true,S)=f E S:=nr rfl
@[simp] theorem qr:ifK f g E (.bl false,S)=g E S:=nr rfl
@[simp] theorem kU:OF f g E S=(f E S).bind (oP g E):=nr rfl
@[simp] theorem Tn:eOr f g E S=(f E S).bind (orK g E):=nr rfl
@[simp] theorem lP:cN f E S=(f E S).bind pb:=nr rfl
@[simp] theorem nh:eIf c f g E S=(c E S).bind (ifK f g E):=nr rfl
@[simp] theorem kh:CS fs E S=(evs fs E S).bind λr=>if r.1.length<=sizeLine then some (.tup r.1,r.2)else none:=nr rfl
@[simp] theorem kW{cf:Bool}:ZP cf fs E S=(evs fs E S).bind λr=>if r.1.length<=sizeLine then fin cf (.own r.1) r.2 else none:=nr rfl
@[simp] theorem ij{F:Fn}:AK F fs E S=(evs fs E S).bind λr=>F r.1 r.2:=nr rfl
noncomputable def pS(op:Mo)(fs:KE Ev)(E:En)(r:D×Sto):tY (D×Sto):=match r.1 with
 | .ref n=>(GJ r.2 n).bind λ_=>(evs fs E r.2).bind λp=>(GJ p.2 n).bind λds=>(op p.2 ds p.1).map λq=>(q.1,p.2.set n (.lst q.2))
 |_=>none
@[simp] theorem l9{op:Mo}{n:Nat}:pS op fs E (.ref n,S)=(GJ S n).bind λ_=>(evs fs E S).bind λp=>(GJ p.2 n).bind λds=>(op p.2 ds p.1).map λq=>(q.1,p.2.set n (.lst q.2)):=nr rfl
@[simp] theorem ke{op:Mo}:KD op f fs E S=(f E S).bind (pS op fs E):=nr rfl
@[simp] theorem lx:KJ S r [d]=if r.length<sizeLine then some (.non,r++[d])else none:=nr rfl
variable{x y:Ex}
noncomputable def iO(y:Ex)(r:Fl×En×Sto):tY (Fl×En×Sto):=match r.1 with| .nx=>y r.2.1 r.2.2| .ret w=>Gc (.ret w,r.2)
noncomputable def oV(x y:Ex)(E:En)(r:D×Sto):tY (Fl×En×Sto):=match r.1 with| .bl true=>x E r.2| .bl false=>y E r.2|_=>none
@[simp] theorem Fe:iO y (.nx,E,S)=y E S:=nr rfl
@[simp] theorem ku{w:D}:iO y (.ret w,E,S)=some (.ret w,E,S):=nr rfl
@[simp] theorem pW:oV x y E (.bl true,S)=x E S:=nr rfl
@[simp] theorem qG:oV x y E (.bl false,S)=y E S:=nr rfl
@[simp] theorem QU:Ad x y E S=(x E S).bind (iO y):=nr rfl
@[simp] theorem kO:FV E S=some (.nx,E,S):=nr rfl
@[simp] theorem Sv:xIf c x y E S=(c E S).bind (oV x y E):=nr rfl
@[simp] theorem kP:By f E S=(f E S).map λr=>(.ret r.1,E,r.2):=nr rfl
@[simp] theorem Zx:Bm i f E S=(f E S).map λr=>(.nx,E.set i (some r.1),r.2):=nr rfl
@[simp] theorem Xa:CP f E S=(f E S).map λr=>(.nx,E,r.2):=nr rfl
noncomputable def qA(d b:D)(E:En)(i:D×Sto):tY (Fl×En×Sto):=match b,i.1 with
 | .ref n,.int j=>(GJ i.2 n).bind λds=>(ixN ds.length j).map λm=>(.nx,E,i.2.set n (.lst (ds.set m d)))
 |_,_=>none
@[simp] theorem kZ{n:Nat}{j:Int}:qA d (.ref n) E (.int j,S)=(GJ S n).bind λds=>(ixN ds.length j).map λm=>(.nx,E,S.set n (.lst (ds.set m d))):=nr rfl
@[simp] theorem k0{k o:Ev}:Om k f o E S=(k E S).bind λr=>(f E r.2).bind λb=>(o E b.2).bind (qA r.1 b.1 E):=nr rfl
@[simp] theorem lL{t:Tf}:O4 t f E S=(f E S).bind λr=>(t r.1 E r.2).map λE'=>(.nx,E',r.2):=nr rfl
@[simp] theorem mB{i j:Nat}:Qm i j f g E S=(f E S).bind λr=>(g E r.2).map λq=>(.nx,(E.set i (some r.1)).set j (some q.1),q.2):=by
  unfold Qm
  rw[ER]
  cases f E S with
  |none=>rfl
  |some r=>
   rw[Ap,Ap,ER]
   cases g E r.2 with
   |none=>rfl
   |some q=>rfl
@[simp] theorem dS:tNm i d E S=some (E.set i (some d)):=nr rfl
@[simp] theorem mJ{ts:List Tf}{ds:List D}:tTp ts (.tup ds) E S=tMs ts ds E S:=nr rfl
@[simp] theorem m8{ts:List Tf}{ds:List D}:tTp ts (.lst ds) E S=tMs ts ds E S:=nr rfl
@[simp] theorem mT{ts:List Tf}{n:Nat}:tTp ts (.ref n) E S=(GJ S n).bind λds=>tMs ts ds E S:=nr rfl
@[simp] theorem nB:tMs [] [] E S=some E:=nr rfl
@[simp] theorem kQ{t:Tf}{ts:List Tf}{ds:List D}:tMs (t::ts) (d::ds) E S=(t d E S).bind λE1=>tMs ts ds E1 S:=nr rfl
@[simp] theorem jt{N:Nat}{ds:List D}:BB (BD N x) ds S=(x (ds.map some++List.replicate (N-ds.length) none) S).map λr=>(flD r.1,r.2.2):=by rw[YH];rfl
@[simp] theorem qP:flD .nx=.non:=nr rfl
@[simp] theorem ou:flD (.ret d)=d:=nr rfl
@[simp] theorem ni{i j:Int}:Ek (.val (.int i)) (.val (.int j))=some (.val (.int (i+j))):=nr rfl
@[simp] theorem nT{xs ys:List D}:Ek (.val (.lst xs)) (.val (.lst ys))=if xs.length+ys.length<=sizeLine then some (.own (xs++ys))else none:=nr rfl
@[simp] theorem kq{i j:Int}:C7 (.val (.int i)) (.val (.int j))=if Ep i j=true then some (.val (.int (i*j)))else none:=nr rfl
@[simp] theorem lR{k:Int}:C7 (.val (.tup r)) (.val (.int k))=if(!r.isEmpty && decide (k<=0) && decide (-(2^63)<=k))=true then some (.val (.tup []))else if(!r.isEmpty && decide (1<=k) && decide (r.length*k.toNat<=sizeLine))=true then some (.val (.tup (List.replicate k.toNat r).flatten))else none:=nr rfl
@[simp] theorem VF{k:Int}:C7 (.val (.lst r)) (.val (.int k))=if(decide (k<2^63) && decide (-(2^63)<=k) && decide (r.length*k.toNat<=sizeLine))=true then some (.own (List.replicate k.toNat r).flatten)else none:=nr rfl
@[simp] theorem nM:asS (.own r)=some r:=nr rfl
@[simp] theorem pK:asS (.val (.lst r))=some r:=nr rfl
@[simp] theorem pO:asS (.val (.tup r))=some r:=nr rfl
@[simp] theorem pB{ns:List Int}:asS (.val (.scr ns))=some (ns.map .int):=nr rfl
@[simp] theorem YK{j:Int}:wIx w (.val (.int j))=(asS w).bind λds=>(atI ds j).map .val:=nr rfl
theorem DF{α:Type}{xs:KE α}{n:Nat}{x:α}(h:xs[n]?=Gc x):atI xs (n:Int)=Gc x:=gL h
theorem dH{α:Type}{xs:KE α}{i:Int}(h0:0<=i)(h1:i<xs.length):atI xs i=Gc (xs[i.toNat]'(by lia)):=by
 have:atI xs ((i.toNat:Nat):Int)=Gc (xs[i.toNat]'(by lia)):=DF (t7 (by lia))
 rwa [vF h0]at this
@[simp] theorem rR:atI (a::r) 0=some a:=DF (n:=0) rfl
@[simp] theorem rO:atI (a::b::r) 1=some b:=DF (n:=1) rfl
@[simp] theorem su:atI (a::b::e::r) 2=some e:=DF (n:=2) rfl
@[simp] theorem rV:atI (a::b::e::h::r) 3=some h:=DF (n:=3) rfl
@[simp] theorem sJ{k:D}:atI (a::b::e::h::k::r) 4=some k:=DF (n:=4) rfl
theorem Nu{n k:Nat}(h:k<n):ixN n (k:Int)=Gc k:=by
 unfold ixN
 simp
 lia
theorem Ug{n:Nat}{i:Int}(h0:0<=i)(h1:i<n):ixN n i=Gc i.toNat:=by
 have:=Nu (n:=n) (k:=i.toNat) (by lia)
 rwa [vF h0]at this
@[simp] theorem sg{n:Nat}:ixN (n+1) 0=some 0:=Ug (by decide) (by lia)
@[simp] theorem qg{n:Nat}:ixN (n+2) 1=some 1:=Ug (by decide) (by lia)
@[simp] theorem rJ{n:Nat}:ixN (n+3) 2=some 2:=Ug (by decide) (by lia)
@[simp] theorem pY{i j:Int}:deq (.int i) (.int j)=(i==j):=nr rfl
@[simp] theorem pH{i j:Int}:Eo (.int i) (.int j)=true:=nr rfl
@[simp] theorem pN{w':Wv}:wEq w w'=if Eo (fz w) (fz w')=true then some (.val (.bl (deq (fz w) (fz w'))))else none:=nr rfl
@[simp] theorem oO{w':Wv}:wNe w w'=if Eo (fz w) (fz w')=true then some (.val (.bl (!deq (fz w) (fz w'))))else none:=nr rfl
@[simp] theorem oW{i j:Int}:wLt (.val (.int i)) (.val (.int j))=some (.val (.bl (decide (i<j)))):=nr rfl
@[simp] theorem oI{i j:Int}:wLe (.val (.int i)) (.val (.int j))=some (.val (.bl (decide (i<=j)))):=nr rfl
@[simp] theorem oQ{i j:Int}:wGt (.val (.int i)) (.val (.int j))=some (.val (.bl (decide (j<i)))):=nr rfl
@[simp] theorem oo{i j:Int}:wGe (.val (.int i)) (.val (.int j))=some (.val (.bl (decide (j<=i)))):=nr rfl
@[simp] theorem lZ{i j:Int}:U1 (.val (.int i)) (.val (.int j))=some (.val (.int (i-j))):=nr rfl
@[simp] theorem lg{i:Int}:Ys (.val (.int i))=some (.val (.int (-i))):=nr rfl
@[simp] theorem kj{i j:Int}:SV (.val (.int i)) (.val (.int j))=(if 0<j then some (.val (.int (i % j)))else none):=by
  show ABa Wv.val (if 0<j then Gc (D.int (i % j))else none)=_
  split<;>rfl
@[simp] theorem j5{i j:Int}:P9 (.val (.int i)) (.val (.int j))=(if(decide (0<j) && decide (j.natAbs<HP))=true then some (.val (.int (i / j)))else none):=by
  show ABa Wv.val (if(decide (0<j) && decide (j.natAbs<HP))=true then Gc (D.int (i / j))else none)=_
  split<;>rfl
@[simp] theorem kY{i j:Int}:lr (.val (.int i)) (.val (.int j))=if(decide (0<=j) && decide (j<=1000) && decide (i.natAbs<2^64))=true then some (.val (.int (i^j.toNat)))else none:=by
  show ABa Wv.val (if(decide (0<=j) && decide (j<=1000) && decide (i.natAbs<2^64))=true then Gc (D.int (i^j.toNat))else none)=_
  split<;>rfl
@[simp] theorem lW{i:Int}:gi (.val (.int i))=some (.val (.int (i.natAbs:Int))):=by
  show Gc (Wv.val (D.int (if i<0 then-i else i)))=_
  congr 3
  split<;>lia
@[simp] theorem lB:HN (.own r)=some (.val (.int r.length)):=nr rfl
@[simp] theorem ZN:HN (.val (.lst r))=some (.val (.int r.length)):=nr rfl
@[simp] theorem lE:HN (.val (.tup r))=some (.val (.int r.length)):=nr rfl
@[simp] theorem kM{ns:List Int}:HN (.val (.scr ns))=some (.val (.int ns.length)):=by
  show Gc (Wv.val (D.int ((ns.map D.int).length:Nat)))=_
  rw[uX]
@[simp] theorem gk:Ck w=(asS w).map λds=>.val (.tup ds):=nr rfl
@[simp] theorem jI:Rz w=(asS w).map λds=>.own ds:=nr rfl
@[simp] theorem qN{b:Bool}:V5 (.val (.bl b))=some (.val (.int (if b then 1 else 0))):=nr rfl
@[simp] theorem kr{i j:Int}:kX (.val (.int i)) (.val (.int j))=some (.val (.int (if j>i then j else i))):=nr rfl
@[simp] theorem kc{i j:Int}:gq (.val (.int i)) (.val (.int j))=some (.val (.int (if j<i then j else i))):=nr rfl
@[simp] theorem kN{T:String}:jx w (.val (.ty T))=if Ve T=true then(kdW w).map λk=>.val (.bl (k.isA T))else none:=nr rfl
@[simp] theorem nF:Ve "int"=true:=by decide
@[simp] theorem kR:Ve "bool"=true:=by decide
theorem AO{n:Nat}(h:n<=1000):n<=sizeLine:=uA h (by decide)
@[simp] theorem sz1:(1:Nat)<=sizeLine:=AO (by decide)
@[simp] theorem sz2:(2:Nat)<=sizeLine:=AO (by decide)
@[simp] theorem sz3:(3:Nat)<=sizeLine:=AO (by decide)
@[simp] theorem sz4:(4:Nat)<=sizeLine:=AO (by decide)
@[simp] theorem sz5:(5:Nat)<=sizeLine:=AO (by decide)
@[simp] theorem sz6:(6:Nat)<=sizeLine:=AO (by decide)
@[simp] theorem Hx:Bx E S=some (.bl true,S):=nr rfl
@[simp] theorem lX{s:Sr}{t:Tf}{b:Ex}:JI s t b E S=(s E S).bind λr=>Jx r.1.2 t b r.1.1 E r.2:=nr rfl
@[simp] theorem AZ:gOk [] S:=λ_ h=>(nomatch h)
theorem Dz{gs:Gd}{t:Tf}{b:Ex}(h:gOk gs S):Jx gs t b [] E S=Gc (.nx,E,S):=by
 unfold Jx
 rw[uZ h]
theorem Xi {gs : Gd} {t : Tf} {b : Ex} {ds : KE D} (h : gOk gs S) : Jx gs t b (d :: ds) E S = (t d E S).bind fun E1 => (b E1 S).bind fun r => match r.1 with
    | .nx => Jx gs t b ds r.2.1 r.2.2
    | .ret w => Gc (.ret w, r.2) := by
  rw [Jx, uZ h]
  all_goals rfl
theorem B7{gs:Gd}{t:Tf}{b:Ex}{ds:KE D}(h:gOk gs S):Jx gs t b (d::ds) E S=(t d E S).bind λE1=>(b E1 S).bind (iO (Jx gs t b ds)):=by
 rw[Xi h]
 rfl
@[simp] theorem lD:GI f E S=(f E S).bind λr=>(sqD r.2 r.1).map λp=>(p,r.2):=nr rfl
@[simp] theorem oE:sqD S (.tup r)=some (r,[]):=nr rfl
@[simp] theorem pE:sqD S (.lst r)=some (r,[]):=nr rfl
theorem G4{n:Nat}(h:S[n]?=Gc (.lst r)):sqD S (.ref n)=Gc (r,[(n,r)]):=by
 show(GJ S n).map (λds=>(ds,[(n,ds)]))=_
 rw[AV h]
 rfl
@[simp] theorem l8:UA f E S=(f E S).bind λr=>(sqD r.2 r.1).map λp=>((NI 0 p.1,p.2),r.2):=nr rfl
@[simp] theorem lC:fI f g E S=(f E S).bind λr=>(g E r.2).bind λq=>(sqD q.2 r.1).bind λa=>(sqD q.2 q.1).map λb=>((Pm a.1 b.1,a.2++b.2),q.2):=by
  unfold fI
  rw[ER]
  cases f E S with
  |none=>rfl
  |some r=>
   rw[Ap,Ap,ER]
   cases g E r.2 with
   |none=>rfl
   |some q=>rfl
noncomputable def IK(j:Int):uv:=decide (-(2^62)<=j) && decide (j<2^62)
theorem DB{j:Int}(h: -1000000<=j)(g:j<=1000000):IK j=true:=by
 unfold IK
 rw[uP]
 exact⟨wK (by lia),wK (by lia)⟩
noncomputable def qS(S:Sto):D->tY ((KE D×Gd)×Sto)
 | .int j=>if IK j=true then Gc ((K4 0 j.toNat,[]),S)else none
 |_=>none
@[simp] theorem l7{j:Int}:qS S (.int j)=if IK j=true then some ((K4 0 j.toNat,[]),S)else none:=nr rfl
@[simp] theorem ko:My [f] E S=(f E S).bind λr=>qS r.2 r.1:=by
  unfold My
  rw[ER]
  cases f E S with
  |none=>rfl
  |some r=>
   obtain⟨d,S1⟩:=r
   rw[Ap,gd,nG,Ap,Ap]
   cases d<;>rfl
@[simp] theorem jU{cf:Bool}{cap:List Nat}{m:Nat}{s:Sr}{t:Tf}:PL cf cap m s t c f E S=(s E S).bind λr=>(CU r.1.2 t c f r.1.1 [] (ZU cap m E) r.2).bind λq=>fin cf (.own q.1) q.2:=nr rfl
@[simp] theorem lK{cap:List Nat}{m:Nat}:ZU cap m E=cap.map (at? E)++List.replicate m none:=nr rfl
@[simp] theorem Vd{i:Int}:LQ (.int i::r)=(LQ r).map λns=>i::ns:=by
  unfold LQ
  rw[List.mapM_cons]
  show(do let r1<-Gc i;let rs<-List.mapM intD r;pure (r1::rs))=_
  cases List.mapM intD r<;>rfl
theorem GB:∀(ns:KE Int),LQ (ns.map D.int)=Gc ns
 | []=>rfl
 |n::ns=>by rw[t8,Vd,GB ns];rfl
@[simp] theorem kx:XW (.own r)=(LQ r).map λns=>.val (.int ns.sum):=nr rfl
@[simp] theorem lH:XW (.val (.lst r))=(LQ r).map λns=>.val (.int ns.sum):=nr rfl
@[simp] theorem qO:lu true w (.val .non)=some (.val (.bl (!isN w))):=nr rfl
@[simp] theorem sI{i:Int}{w:Wv}:Oc true false [w,.val (.int i)]=wSl (some i) none w:=nr rfl
@[simp] theorem rK{i:Int}{w:Wv}:Oc false true [w,.val (.int i)]=wSl none (some i) w:=nr rfl
@[simp] theorem sH{i j:Int}{w:Wv}:Oc true true [w,.val (.int i),.val (.int j)]=wSl (some i) (some j) w:=nr rfl
@[simp] theorem mX{lo hi:Option Int}:wSl lo hi (.val (.tup r))=some (.val (.tup (Nl r lo hi))):=nr rfl
end
structure Bv(A:KE Nat)(S S':Sto):Prop where
 len:S.length<=S'.length
 keep:∀n,n<S.length->n∉A->S'[n]?=S[n]?
theorem Bv.refl{A:KE Nat}{S:Sto}:Bv A S S:=⟨tw _,λ_ _ _=>rfl⟩
theorem Bv.trans{A:KE Nat}{S S' S2:Sto}(h:Bv A S S')(g:Bv A S' S2):Bv A S S2:=⟨uA h.len g.len,λn hn ha=>(g.keep n (t9 hn h.len) ha).trans (h.keep n hn ha)⟩
theorem Bv.mono{A B:KE Nat}{S S':Sto}(h:Bv A S S')(s:∀n∈A,n∈B):Bv B S S':=⟨h.len,λn hn hb=>h.keep n hn λz=>hb (s n z)⟩
theorem Bv.get{A:KE Nat}{S S':Sto}(h:Bv A S S'){n:Nat}{c:Cl}(e:S[n]?=Gc c)(ha:n∉A):S'[n]?=Gc c:=by
 rw[h.keep n (uI.mp e).1 ha];exact e
theorem Bv.app{A:KE Nat}{S T:Sto}:Bv A S (S++T):=⟨by simp,λn hn _=>tz hn⟩
theorem Bv.set{A:KE Nat}{S:Sto}{n:Nat}{c:Cl}(h:n∈A):Bv A S (S.set n c):=⟨by simp,λm hm ha=>uE (λz=>ha (by rw[<-z];exact h))⟩
theorem Bv.new{A:KE Nat}{S S' S2:Sto}(h:Bv A S S')(g:Bv (A++B) S' S2)(hb:∀n∈B,S.length<=n):Bv A S S2:=⟨uA h.len g.len,λn hn ha=>(g.keep n (t9 hn h.len) (λz=>by
 rcases uU.mp z with z|z
 .exact ha z
 .have:=hb n z;lia)).trans (h.keep n hn ha)⟩
theorem Ac{S:Sto}{n:Nat}{c:Cl}(h:S[n]?=Gc c):n<S.length:=(uI.mp h).1
section
variable{E:En}{S:Sto}{f g h k l m:Ev}{cf:uv}{F:Fn}
@[simp high] theorem kL{op:Op1}:Qw cf (o1 op) [f] E S=(f E S).bind λr=>(op (dr r.2 r.1)).bind λw=>fin cf w r.2:=by
  rw[Wf,ER];cases f E S<;>rfl
@[simp high] theorem ZT{op:Op2}:Qw cf (o2 op) [f,g] E S=(f E S).bind λr=>(g E r.2).bind λq=>(op (dr q.2 r.1) (dr q.2 q.1)).bind λw=>fin cf w q.2:=by
  rw[Wf,ER]
  cases f E S with
  |none=>rfl
  |some r=>rw[Ap,Ap,ER];cases g E r.2<;>rfl
theorem p9:evs [f] E S=(f E S).bind λr=>Gc ([r.1],r.2):=by rw[ER];cases f E S<;>rfl
theorem qX:evs [f,g] E S=(f E S).bind λr=>(g E r.2).bind λq=>Gc ([r.1,q.1],q.2):=by
 rw[ER];cases f E S with
 |none=>rfl
 |some r=>rw[Ap,Ap,p9];cases g E r.2<;>rfl
theorem pZ:evs [f,g,h] E S=(f E S).bind λr=>(g E r.2).bind λq=>(h E q.2).bind λu=>Gc ([r.1,q.1,u.1],u.2):=by
 rw[ER];cases f E S with
 |none=>rfl
 |some r=>rw[Ap,Ap,qX];cases g E r.2 with
  |none=>rfl
  |some q=>rw[Ap,Ap];cases h E q.2<;>rfl
theorem q8:evs [f,g,h,k] E S=(f E S).bind λr=>(g E r.2).bind λq=>(h E q.2).bind λu=>(k E u.2).bind λv=>Gc ([r.1,q.1,u.1,v.1],v.2):=by
 rw[ER];cases f E S with
 |none=>rfl
 |some r=>rw[Ap,Ap,pZ];cases g E r.2 with
  |none=>rfl
  |some q=>rw[Ap,Ap];cases h E q.2 with
   |none=>rfl
   |some u=>rw[Ap,Ap];cases k E u.2<;>rfl
@[simp high] theorem rL:evs [f] E S=(f E S).bind λr=>some ([r.1],r.2):=p9
@[simp high] theorem rh:evs [f,g] E S=(f E S).bind λr=>(g E r.2).bind λq=>some ([r.1,q.1],q.2):=qX
@[simp high] theorem rm:evs [f,g,h] E S=(f E S).bind λr=>(g E r.2).bind λq=>(h E q.2).bind λu=>some ([r.1,q.1,u.1],u.2):=pZ
@[simp high] theorem sQ:evs [f,g,h,k] E S=(f E S).bind λr=>(g E r.2).bind λq=>(h E q.2).bind λu=>(k E u.2).bind λv=>some ([r.1,q.1,u.1,v.1],v.2):=q8
@[simp high] theorem tF{d:D}:eV 0 (some d::E) S=some (d,S):=nr rfl
@[simp high] theorem tT{d:D}{o0:Option D}:eV 1 (o0::some d::E) S=some (d,S):=nr rfl
@[simp high] theorem tH{d:D}{o0 o1:Option D}:eV 2 (o0::o1::some d::E) S=some (d,S):=nr rfl
@[simp high] theorem tQ{d:D}{o0 o1 o2:Option D}:eV 3 (o0::o1::o2::some d::E) S=some (d,S):=nr rfl
@[simp high] theorem tL{d:D}{o0 o1 o2 o3:Option D}:eV 4 (o0::o1::o2::o3::some d::E) S=some (d,S):=nr rfl
@[simp high] theorem tP{d:D}{o0 o1 o2 o3 o4:Option D}:eV 5 (o0::o1::o2::o3::o4::some d::E) S=some (d,S):=nr rfl
@[simp high] theorem tJ{d:D}{o0 o1 o2 o3 o4 o5:Option D}:eV 6 (o0::o1::o2::o3::o4::o5::some d::E) S=some (d,S):=nr rfl
@[simp high] theorem tE{d:D}{o0 o1 o2 o3 o4 o5 o6:Option D}:eV 7 (o0::o1::o2::o3::o4::o5::o6::some d::E) S=some (d,S):=nr rfl
@[simp high] theorem sx{d:D}{o0 o1 o2 o3 o4 o5 o6 o7:Option D}:eV 8 (o0::o1::o2::o3::o4::o5::o6::o7::some d::E) S=some (d,S):=nr rfl
@[simp high] theorem tS{d:D}{o0 o1 o2 o3 o4 o5 o6 o7 o8:Option D}:eV 9 (o0::o1::o2::o3::o4::o5::o6::o7::o8::some d::E) S=some (d,S):=nr rfl
@[simp high] theorem rG{d:D}{o0 o1 o2 o3 o4 o5 o6 o7 o8 o9:Option D}:eV 10 (o0::o1::o2::o3::o4::o5::o6::o7::o8::o9::some d::E) S=some (d,S):=nr rfl
@[simp high] theorem rT{d:D}{o0 o1 o2 o3 o4 o5 o6 o7 o8 o9 o10:Option D}:eV 11 (o0::o1::o2::o3::o4::o5::o6::o7::o8::o9::o10::some d::E) S=some (d,S):=nr rfl
@[simp high] theorem qo{d:D}{o0 o1 o2 o3 o4 o5 o6 o7 o8 o9 o10 o11:Option D}:eV 12 (o0::o1::o2::o3::o4::o5::o6::o7::o8::o9::o10::o11::some d::E) S=some (d,S):=nr rfl
@[simp high] theorem sN{d:D}{o0 o1 o2 o3 o4 o5 o6 o7 o8 o9 o10 o11 o12:Option D}:eV 13 (o0::o1::o2::o3::o4::o5::o6::o7::o8::o9::o10::o11::o12::some d::E) S=some (d,S):=nr rfl
@[simp high] theorem qp{d:D}{o0 o1 o2 o3 o4 o5 o6 o7 o8 o9 o10 o11 o12 o13 o14:Option D}:eV 15 (o0::o1::o2::o3::o4::o5::o6::o7::o8::o9::o10::o11::o12::o13::o14::some d::E) S=some (d,S):=nr rfl
@[simp high] theorem sA{d:D}{o0 o1 o2 o3 o4 o5 o6 o7 o8 o9 o10 o11 o12 o13 o14 o15:Option D}:eV 16 (o0::o1::o2::o3::o4::o5::o6::o7::o8::o9::o10::o11::o12::o13::o14::o15::some d::E) S=some (d,S):=nr rfl
@[simp 20000] theorem pz{op:Op2}{d:D}:Qw cf (o2 op) [f,eC d] E S=(f E S).bind λr=>(op (dr r.2 r.1) (dr r.2 d)).bind λw=>fin cf w r.2:=by
  rw[ZT];cases f E S<;>rfl
@[simp high] theorem lT{i:Nat}{y:Ex}:Ad (Bm i f) y E S=(f E S).bind λr=>y (E.set i (some r.1)) r.2:=by
  rw[QU,Zx];cases f E S<;>rfl
@[simp high] theorem mE{y:Ex}:Ad (CP f) y E S=(f E S).bind λr=>y E r.2:=by
  rw[QU,Xa];cases f E S<;>rfl
end
section
theorem mulL{i j:Int}(h: -18446744073709551616<i)(g:i<18446744073709551616):Ep i j=true:=by
 unfold Ep
 rw[vc]
 exact .inl (wK (by lia))
theorem mulR{i j:Int}(h: -18446744073709551616<j)(g:j<18446744073709551616):Ep i j=true:=by
 unfold Ep
 rw[vc,vc]
 exact .inr (.inl (wK (by lia)))
theorem DP{n k:Nat}(h:n<2^k)(hk:k<=8000):n<HP:=t9 h (ux (by decide) hk)
theorem Fx{n:Int}(h0:0<n)(h1:n<1152921504606846976):n.natAbs<HP:=DP (k:=60) (show n.natAbs<2^60 by lia) (by decide)
variable{S:Sto}
noncomputable def SW(a b:Int):Int:=((zR a.natAbs b.natAbs:Nat):Int)
theorem OY{c:Ev}{b:Ex}{k:Nat}{E:En}:Jo c b (k+1) E S=(c E S).bind λr=>match r.1 with
 | .bl true=>(b E r.2).bind λp=>match p.1 with
   | .nx=>Jo c b k p.2.1 p.2.2
   | .ret w=>Gc (.ret w,p.2)
 | .bl false=>Gc (.nx,E,r.2)
 |_=>none:=rfl
theorem Uc{c:Ev}{b:Ex}{k:Nat}{E E2:En}{S1 S2:Sto}(e1:c E S=Gc (.bl true,S1))(e2:b E S1=Gc (.nx,E2,S2)):Jo c b (k+1) E S=Jo c b k E2 S2:=by
 rw[OY,e1]
 show(b E S1).bind _=_
 rw[e2]
 rfl
theorem Ub{c:Ev}{b:Ex}{k:Nat}{E:En}{S1:Sto}(e1:c E S=Gc (.bl false,S1)):Jo c b (k+1) E S=Gc (.nx,E,S1):=by
 rw[OY,e1]
 rfl
theorem T8:∀(k:Nat) (x y:Nat),y<k->Jo (eOp (o2 wNe) [eV 1,eC (.int 0)]) (Qm 0 1 (eV 1) (eOp (o2 SV) [eV 0,eV 1])) k [Gc (.int x),Gc (.int y)] S=Gc (.nx,[Gc (.int (zR x y:Nat)),Gc (.int 0)],S)
 |0,x,y,h=>absurd h (Nat.not_lt_zero _)
 |k+1,x,y,h=>by
  by_cases hy:y=0
  .subst hy
   rw[Ub (S1:=S) (by simp)]
   simp
  .have hy2:(((y:Nat):Int)==0)=false:=by simpa using hy
   have ih:=T8 k y (x % y) (by have:=ABb x (xm hy);lia)
   rw[show((x % y:Nat):Int)=(x:Int) % (y:Int) by lia]at ih
   have hy4:0<y:=xm hy
   rw[Uc (S1:=S) (S2:=S) (E2:=[Gc (.int y),Gc (.int ((x:Int) % (y:Int)))]) (by simp[hy2]) (by simp[hy4]),ih]
   rw[AAd x y,Nat.gcd_rec y x,AAd]
theorem iL(a b:Int):Ct [.int a,.int b] S=Gc (.int (SW a b),S):=by
 have:=T8 (S:=S) (b.natAbs+2) a.natAbs b.natAbs (by lia)
 simp[Ct,GQ,Ru,Vy,this,SW]
theorem N0:∀(k:Nat) (x y:Nat),y<k->Jo (eOp (o2 wGt) [eV 1,eC (.int 0)]) (Qm 0 1 (eV 1) (eOp (o2 SV) [eV 0,eV 1])) k [Gc (.int x),Gc (.int y)] S=Gc (.nx,[Gc (.int (zR x y:Nat)),Gc (.int 0)],S)
 |0,x,y,h=>absurd h (Nat.not_lt_zero _)
 |k+1,x,y,h=>by
  by_cases hy:y=0
  .subst hy
   rw[Ub (S1:=S) (by simp)]
   simp
  .have ih:=N0 k y (x % y) (by have:=ABb x (xm hy);lia)
   rw[show((x % y:Nat):Int)=(x:Int) % (y:Int) by lia]at ih
   have hy4:0<y:=xm hy
   rw[Uc (S1:=S) (S2:=S) (E2:=[Gc (.int y),Gc (.int ((x:Int) % (y:Int)))]) (by simp[hy4]) (by simp[hy4]),ih]
   rw[AAd x y,Nat.gcd_rec y x,AAd]
theorem Ws(a b:Int)(ha:0<=a)(hb:0<=b):HR [.int a,.int b] S=Gc (.int (SW a b),S):=by
 have:=N0 (S:=S) (b.natAbs+2) a.natAbs b.natAbs (by lia)
 have e1:((a.natAbs:Nat):Int)=a:=by lia
 have e2:((b.natAbs:Nat):Int)=b:=by lia
 rw[e1,e2]at this
 simp[HR,MH,Ru,Vy,this,SW]
noncomputable def lowP(t b:Int):Int×Int:=(t / SW t b,b / SW t b)
theorem UZ{t b:Int}(h:0<b):0<SW t b:=by
 unfold SW
 have:0<zR t.natAbs b.natAbs:=Nat.gcd_pos_of_pos_right _ (by lia)
 lia
theorem YE{t b:Int}(h:0<b):(SW t b).natAbs<=b.natAbs:=by
 unfold SW
 have:zR t.natAbs b.natAbs<=b.natAbs:=Nat.gcd_le_right _ (by lia)
 lia
noncomputable def amD(p:Int×Int):D:=.tup [.int p.1,.int p.2]
theorem Kt{t b:Int}(h:0<b)(hb:b.natAbs<HP):D7 [.int t,.int b] S=Gc (amD (lowP t b),S):=by
 have h1:=UZ (t:=t) h
 have h2:(SW t b).natAbs<HP:=vM (YE h) hb
 simp[D7,PK,iL,h1,h2,amD,lowP]
theorem aK{t b:Int}:SW (t.natAbs:Int) b=SW t b:=by
 unfold SW
 rw[wH]
theorem Ti{t b:Int}(h:0<b)(hb:b.natAbs<HP):Bp [.int t,.int b] S=Gc (amD (lowP t b),S):=by
 have h1:=UZ (t:=t) h
 have h2:(SW t b).natAbs<HP:=vM (YE h) hb
 have h3:=Ws (S:=S) (t.natAbs:Int) b (by lia) (by lia)
 rw[aK]at h3
 simp[Bp,PN,h3,h1,h2,amD,lowP]
noncomputable def aD(q:Rat):D:=.tup [.int q.num,.int q.den]
def Sz(k:Nat)(q:Rat):Prop:=q.num.natAbs<2^k/\q.den<2^k
theorem Et(q:Rat):(q.num:Rat) / (q.den:Rat)=q:=by
 rw[<-Rat.mkRat_eq_div,Rat.mkRat_self]
theorem KQ(q:Rat):(q.den:Rat)≠0:=by
 have:=q.den_nz
 exact_mod_cast this
theorem OD(t:Int)(n:Nat)(h:0<n):((t:Rat) / (n:Rat)).num=t / (zR t.natAbs n:Nat)/\((t:Rat) / (n:Rat)).den=n / zR t.natAbs n:=by
 have e:(t:Rat) / (n:Rat)=mkRat t n:=by rw[Rat.mkRat_eq_div]
 rw[e,Rat.mkRat_def,dif_neg (by lia),Rat.normalize_eq]
 exact⟨rfl,rfl⟩
theorem KW{t b:Int}(h:0<b):amD (lowP t b)=aD ((t:Rat) / (b:Rat)):=by
 obtain⟨n,rfl⟩:∃n:Nat,b=n:=⟨b.natAbs,by lia⟩
 obtain⟨h1,h2⟩:=OD t n (by lia)
 unfold amD aD lowP SW
 rw[show(((n:Nat):Int):Rat)=((n:Nat):Rat)from rfl,h1,h2]
 simp
theorem N5{t b:Int}{k:Nat}(h:0<b)(ht:t.natAbs<2^k)(hb:b.natAbs<2^k):Sz k ((t:Rat) / (b:Rat)):=by
 obtain⟨n,rfl⟩:∃n:Nat,b=n:=⟨b.natAbs,by lia⟩
 obtain⟨h1,h2⟩:=OD t n (by lia)
 unfold Sz
 rw[show(((n:Nat):Int):Rat)=((n:Nat):Rat)from rfl,h1,h2]
 exact⟨vM (Int.natAbs_ediv_le_natAbs _ _) ht,vM (Nat.div_le_self _ _) (by simpa using hb)⟩
theorem Ee{a b j k:Nat}(ha:a<2^j)(hb:b<2^k):a*b<2^(j+k):=by
 rw[Nat.pow_add]
 exact Nat.mul_lt_mul'' ha hb
theorem IU{i j:Int}{k m:Nat}(hi:i.natAbs<2^k)(hj:j.natAbs<2^m)(h:k<=60000)(g:m<=60000):Ep i j=true:=by
 unfold Ep
 rw[vc,vc,uP]
 exact .inr (.inr ⟨wK (t9 hi (ux (by decide) h)),wK (t9 hj (ux (by decide) g))⟩)
theorem Sz.mono{k m:Nat}{q:Rat}(h:Sz k q)(g:k<=m):Sz m q:=by
 have:=ux (n:=2) (by decide) g
 exact⟨by have:=h.1;lia,by have:=h.2;lia⟩
theorem den_pos(q:Rat):0<(q.den:Int):=by have:=q.den_pos;lia
theorem gA{x:Int}{n m:Nat}(h:x.natAbs<2^n)(g:n<=m):x.natAbs<2^m:=t9 h (ux (by decide) g)
section
variable{p q:Rat}{j k:Nat}
theorem Ef(hp:Sz j p)(hq:Sz k q):(p.num*q.den+q.num*p.den).natAbs<2^(j+k+1)/\((p.den:Int)*q.den).natAbs<2^(j+k)/\(p.num*q.den-q.num*p.den).natAbs<2^(j+k+1):=by
 have a1:=Ee hp.1 hq.2
 have a2:=Ee hq.1 hp.2
 have a3:=Ee hp.2 hq.2
 rw[AAU k j]at a2
 have e:2^(j+k+1)=2^(j+k)+2^(j+k):=by rw[AAe];lia
 refine⟨?_,?_,?_⟩
 .refine vM (Int.natAbs_add_le _ _) ?_
  rw[xZ,xZ,wH,wH,e]
  lia
 .rw[xZ,wH,wH];exact a3
 .refine vM (Int.natAbs_sub_le _ _) ?_
  rw[xZ,xZ,wH,wH,e]
  lia
theorem Qq:(((p.num*q.den+q.num*p.den:Int):Rat) / (((p.den:Int)*q.den:Int):Rat))=p+q:=by
 have h1:=Et p;have h2:=Et q
 have d1:=KQ p;have d2:=KQ q
 push_cast
 grind
theorem UM:(((p.num*q.den-q.num*p.den:Int):Rat) / (((p.den:Int)*q.den:Int):Rat))=p-q:=by
 have h1:=Et p;have h2:=Et q
 have d1:=KQ p;have d2:=KQ q
 push_cast
 grind
theorem NU:(((p.num*q.num:Int):Rat) / (((p.den:Int)*q.den:Int):Rat))=p*q:=by
 have h1:=Et p;have h2:=Et q
 have d1:=KQ p;have d2:=KQ q
 push_cast
 grind
theorem cc(hp:Sz j p)(hq:Sz k q):Sz (j+k+1) (p+q):=by
 rw[<-Qq]
 have:=Ef hp hq
 exact N5 (vY (den_pos _) (den_pos _)) this.1 (gA this.2.1 (by lia))
theorem jE(hp:Sz j p)(hq:Sz k q):Sz (j+k+1) (p-q):=by
 rw[<-UM]
 have:=Ef hp hq
 exact N5 (vY (den_pos _) (den_pos _)) this.2.2 (gA this.2.1 (by lia))
theorem MR(hp:Sz j p)(hq:Sz k q):Sz (j+k) (p*q):=by
 rw[<-NU]
 have:=Ef hp hq
 exact N5 (vY (den_pos _) (den_pos _)) (by rw[xZ];exact Ee hp.1 hq.1) this.2.1
end
section
variable{p q:Rat}{j k:Nat}
theorem Pe(hp:Sz j p)(hq:Sz k q)(hj:j+k<=7990):Ep p.num q.den=true/\Ep q.num p.den=true/\Ep p.den q.den=true/\Ep p.num q.num=true:=by
 refine⟨IU hp.1 (by simpa using hq.2) (by lia) (by lia),IU hq.1 (by simpa using hp.2) (by lia) (by lia),IU (by simpa using hp.2) (by simpa using hq.2) (by lia) (by lia),IU hp.1 hq.1 (by lia) (by lia)⟩
theorem iP(hp:Sz j p)(hq:Sz k q)(hj:j+k<=7990):Ie [aD p,aD q] S=Gc ((aD (p+q)),S):=by
 obtain⟨m1,m2,m3,m4⟩:=Pe hp hq (by lia)
 have b:=Ef hp hq
 have l:=Kt (S:=S) (t:=p.num*q.den+q.num*p.den) (b:=p.den*q.den) (vY (den_pos _) (den_pos _)) (DP b.2.1 (by lia))
 rw[KW (vY (den_pos _) (den_pos _)),Qq]at l
 simp only[aD]at l⊢
 simp[Ie,US,m1,m2,m3,l]
theorem oS(hp:Sz j p)(hq:Sz k q)(hj:j+k<=7990):LH [aD p,aD q] S=Gc ((aD (p-q)),S):=by
 obtain⟨m1,m2,m3,m4⟩:=Pe hp hq (by lia)
 have b:=Ef hp hq
 have l:=Kt (S:=S) (t:=p.num*q.den-q.num*p.den) (b:=p.den*q.den) (vY (den_pos _) (den_pos _)) (DP b.2.1 (by lia))
 rw[KW (vY (den_pos _) (den_pos _)),UM]at l
 simp only[aD]at l⊢
 simp[LH,Tz,m1,m2,m3,l]
theorem c8(hp:Sz j p)(hq:Sz k q)(hj:j+k<=7990):G3 [aD p,aD q] S=Gc ((aD (p*q)),S):=by
 obtain⟨m1,m2,m3,m4⟩:=Pe hp hq (by lia)
 have b:=Ef hp hq
 have l:=Kt (S:=S) (t:=p.num*q.num) (b:=p.den*q.den) (vY (den_pos _) (den_pos _)) (DP b.2.1 (by lia))
 rw[KW (vY (den_pos _) (den_pos _)),NU]at l
 simp only[aD]at l⊢
 simp[G3,Rp,m3,m4,l]
theorem Pw(hp:Sz j p)(hq:Sz k q)(hj:j+k<=7990):Bt [aD p,aD q] S=Gc ((aD (p+q)),S):=by
 obtain⟨m1,m2,m3,m4⟩:=Pe hp hq (by lia)
 have b:=Ef hp hq
 have l:=Ti (S:=S) (t:=p.num*q.den+q.num*p.den) (b:=p.den*q.den) (vY (den_pos _) (den_pos _)) (DP b.2.1 (by lia))
 rw[KW (vY (den_pos _) (den_pos _)),Qq]at l
 simp only[aD]at l⊢
 simp[Bt,Pd,m1,m2,m3,l]
theorem G5(hp:Sz j p)(hq:Sz k q)(hj:j+k<=7990):Aa [aD p,aD q] S=Gc ((aD (p*q)),S):=by
 obtain⟨m1,m2,m3,m4⟩:=Pe hp hq (by lia)
 have b:=Ef hp hq
 have l:=Ti (S:=S) (t:=p.num*q.num) (b:=p.den*q.den) (vY (den_pos _) (den_pos _)) (DP b.2.1 (by lia))
 rw[KW (vY (den_pos _) (den_pos _)),NU]at l
 simp only[aD]at l⊢
 simp[Aa,OE,m3,m4,l]
theorem jF:aD (-q)=.tup [.int (0-q.num),.int q.den]:=by
 unfold aD
 rw[show(-q).num=0-q.num by simp,show(-q).den=q.den by simp]
theorem j4(hq:Sz k q):Sz k (-q):=by
 unfold Sz
 rw[show(-q).num= -q.num by simp,show(-q).den=q.den by simp,Int.natAbs_neg]
 exact hq
theorem cS(hp:Sz j p)(hq:Sz k q)(hj:j+k<=7990):Em [aD p,aD q] S=Gc ((aD (p-q)),S):=by
 have l:=Pw (S:=S) hp (j4 hq) hj
 rw[jF]at l
 rw[Rat.sub_eq_add_neg]
 simp only[aD]at l⊢
 simp at l
 simp[Em,PX,l]
end
theorem Yd{t b:Int}(h:0<b)(hb:b.natAbs<HP):D7 [.int t,.int b] S=Gc ((aD (t / b)),S):=by
 rw[Kt h hb,KW h]
theorem WE{t b:Int}(h:0<b)(hb:b.natAbs<HP):Bp [.int t,.int b] S=Gc ((aD (t / b)),S):=by
 rw[Ti h hb,KW h]
theorem Hk{a b:Int}{k:Nat}(ha:a.natAbs<2^k)(hb:b.natAbs<2^k):(a+b).natAbs<2^(k+1):=by
 have e:2^(k+1)=2^k+2^k:=by rw[AAe];lia
 have:=Int.natAbs_add_le a b
 lia
theorem K8{a b:Int}{j k:Nat}(ha:a.natAbs<2^j)(hb:b.natAbs<2^k):(a*b).natAbs<2^(j+k):=by
 rw[xZ];exact Ee ha hb
theorem Wj{p q:Rat}{w m:Int}(h:0<w+m):((p.num*q.den*w+q.num*p.den*m:Int):Rat) / (((p.den:Int)*q.den*(w+m):Int):Rat)=(p*w+q*m) / (w+m):=by
 have h1:=Et p;have h2:=Et q
 have d1:=KQ p;have d2:=KQ q
 have d3:((w:Rat)+(m:Rat))≠0:=by
  intro e
  have:((w+m:Int):Rat)=0:=by push_cast;exact e
  have:=wO.mp this
  lia
 push_cast
 grind
section
variable{p q:Rat}{w m:Int}{j k n:Nat}
theorem bC(hp:Sz j p)(hq:Sz k q)(hw:w.natAbs<2^n)(hm:m.natAbs<2^n):(p.num*q.den*w+q.num*p.den*m).natAbs<2^(j+k+n+1)/\((p.den:Int)*q.den*(w+m)).natAbs<2^(j+k+(n+1)):=by
 have d1:((p.den:Int)).natAbs<2^j:=by simpa using hp.2
 have d2:((q.den:Int)).natAbs<2^k:=by simpa using hq.2
 refine⟨Hk (K8 (K8 hp.1 d2) hw) ?_,K8 (K8 d1 d2) (Hk hw hm)⟩
 have:=K8 (K8 hq.1 d1) hm
 rwa [AAU k j]at this
theorem jm(hp:Sz j p)(hq:Sz k q)(hw:w.natAbs<2^n)(hm:m.natAbs<2^n)(h:0<w+m)(hj:j+k+n+1<=7990):Jr [aD p,.int w,aD q,.int m] S=Gc ((aD ((p*w+q*m) / (w+m))),S):=by
 obtain⟨m1,m2,m3,m4⟩:=Pe hp hq (by lia)
 have d1:((p.den:Int)).natAbs<2^j:=by simpa using hp.2
 have d2:((q.den:Int)).natAbs<2^k:=by simpa using hq.2
 have b:=bC hp hq hw hm
 have m5:Ep (p.num*q.den) w=true:=IU (K8 hp.1 d2) hw (by lia) (by lia)
 have m6:Ep (q.num*p.den) m=true:=IU (K8 hq.1 d1) hm (by lia) (by lia)
 have m7:Ep ((p.den:Int)*q.den) (w+m)=true:=IU (K8 d1 d2) (Hk hw hm) (by lia) (by lia)
 have l:=Yd (S:=S) (t:=p.num*q.den*w+q.num*p.den*m) (b:=p.den*q.den*(w+m)) (vY (vY (den_pos _) (den_pos _)) h) (DP b.2 (by lia))
 rw[Wj h]at l
 simp only[aD]at l⊢
 simp[Jr,SD,m1,m2,m3,m5,m6,m7,l]
end
end
section
variable{S:Sto}{p:Nat}
theorem cF{r:KE D}(h:p<S.length):dr (S.set p (.lst r)) (.ref p)=.own r:=As (uG h)
def Pen(ds:KE D):Prop:=∃a b c d:Int,ds=[.int a,.int b,.int c,.int d]/\0<=d/\d<1000000007
def Gw(p:Nat)(S:Sto):Prop:=∃ds,S[p]?=Gc (.lst ds)/\Pen ds
structure Pn(p:Nat)(S S':Sto):Prop where
 same:Bv [p] S S'
 pen:Gw p S'
theorem Pn.trans{S S' S2:Sto}(h:Pn p S S')(g:Pn p S' S2):Pn p S S2:=⟨h.same.trans g.same,g.pen⟩
theorem Pn.get{S S':Sto}(h:Pn p S S'){n:Nat}{c:Cl}(e:S[n]?=Gc c)(ha:n≠p):S'[n]?=Gc c:=h.same.get e (by simpa using ha)
theorem Pn.refl(h:Gw p S):Pn p S S:=⟨.refl,h⟩
theorem Gw.lt(h:Gw p S):p<S.length:=by obtain⟨ds,e,_⟩:=h;exact Ac e
theorem Gw.app(h:Gw p S)(T:Sto):Gw p (S++T):=by obtain⟨ds,e,hp⟩:=h;exact⟨ds,by rw[tz (Ac e)];exact e,hp⟩
theorem BF(h:Gw p S){n:Int}(h0:0<n)(h1:n<1152921504606846976):∃r S',AL [.ref p,.int n] S=Gc (.int r,S')/\0<=r/\r<n/\Pn p S S':=by
 obtain⟨ds,hp,a,b,c,d,rfl,hd0,hd1⟩:=h
 have hl:=Ac hp
 have hs:=Fx h0 h1
 have hr:=As hp
 have hc:=AV hp
 by_cases hb:b=1/\0<a
 .obtain⟨rfl,ha⟩:=hb
  refine⟨a % n,S.set p (.lst [.int (a / n),.int 1,.int c,.int d]),?_,xI _ (by lia),xn _ h0,.set (by simp),_,uG hl,_,_,_,_,rfl,hd0,hd1⟩
  simp[AL,J5,ha,h0,hs,hr,hc]
 .have m1:Ep (d+17) (69621+2*(c+1))=true:=mulL (by lia) (by lia)
  have m2:Ep 2 (c+1)=true:=mulL (by decide) (by decide)
  generalize ht:(d+17)*(69621+2*(c+1)) % 2147483647=t at*
  have t0:0<=t:=by rw[<-ht];exact xI _ (by decide)
  have t1:t<2147483647:=by rw[<-ht];exact xn _ (by decide)
  have m3:Ep t t=true:=mulL (by lia) (by lia)
  have m4:Ep 40503 (c+1)=true:=mulL (by decide) (by decide)
  generalize hu:(t*t+40503*(c+1)+5) % 2147483629=u at*
  have u0:0<=u:=by rw[<-hu];exact xI _ (by decide)
  have u1:u<2147483629:=by rw[<-hu];exact xn _ (by decide)
  have m5:Ep u 48271=true:=mulL (by lia) (by lia)
  have d32:(32:Int).natAbs<HP:=Fx (by decide) (by decide)
  have d32':(32:Nat)<HP:=d32
  refine⟨u*48271 % 2147483647 / 32 % n,S.set p (.lst [.int a,.int b,.int (c+1),.int d]),?_,xI _ (by lia),xn _ h0,.set (by simp),_,uG hl,_,_,_,_,rfl,hd0,hd1⟩
  by_cases hb1:b=1
  .subst hb1
   have ha:¬0<a:=λz=>hb ⟨rfl,z⟩
   simp[AL,J5,ha,h0,hs,hr,hc,cF,hl,m1,m2,m3,m4,m5,ht,hu,d32']
  .have hb2:(b==1)=false:=by simpa using hb1
   simp[AL,J5,hb2,h0,hs,hr,hc,cF,hl,m1,m2,m3,m4,m5,ht,hu,d32']
theorem jO(c:Int):∃p S',Ju [.int c] S=Gc (.ref p,S')/\Gw p S'/\Bv [] S S'/\S.length<=p:=by
 refine⟨S.length,S++[.lst [.int c,.int (if(10:Int)^18<=c then 1 else 0),.int 0,.int (c % 1000000007)]],?_,⟨_,uL,_,_,_,_,rfl,xI _ (by decide),xn _ (by decide)⟩,.app,tw _⟩
 simp[Ju,RQ]
theorem GH{gs:Gd}{t:Tf}{c f:Ev}{acc:KE D}{E:En}(h:gOk gs S):CU gs t c f [] acc E S=Gc (acc,S):=by
 unfold CU
 rw[uZ h]
theorem Pp {gs : Gd} {t : Tf} {c f : Ev} {d : D} {ds acc : KE D} {E : En} (h : gOk gs S) (hz : acc.length < sizeLine) : CU gs t c f (d :: ds) acc E S = (t d E S).bind fun E1 => (c E1 S).bind fun r => match r.1 with
      | .bl true => (f E1 r.2).bind fun p => CU gs t c f ds (acc ++ [p.1]) E1 p.2
      | .bl false => CU gs t c f ds acc E1 r.2
      | _ => none := by
  rw [CU, uZ h, uZ hz]
  all_goals rfl
theorem Jq{gs:Gd}{t:Tf}{c f:Ev}{d:D}{ds acc:KE D}{E E1:En}{S1:Sto}(h:gOk gs S)(hz:acc.length<sizeLine)(e1:t d E S=Gc E1)(e2:c E1 S=Gc (.bl true,S1)):CU gs t c f (d::ds) acc E S=(f E1 S1).bind λp=>CU gs t c f ds (acc++[p.1]) E1 p.2:=by
 rw[Pp h hz,e1]
 show(c E1 S).bind _=_
 rw[e2]
 rfl
theorem Ko{gs:Gd}{t:Tf}{c f:Ev}{d:D}{ds acc:KE D}{E E1:En}{S1:Sto}(h:gOk gs S)(hz:acc.length<sizeLine)(e1:t d E S=Gc E1)(e2:c E1 S=Gc (.bl false,S1)):CU gs t c f (d::ds) acc E S=CU gs t c f ds acc E1 S1:=by
 rw[Pp h hz,e1]
 show(c E1 S).bind _=_
 rw[e2]
 rfl
theorem Qg{gs:Gd}{t:Tf}{f:Ev}{C:En}{m:Nat}{I:Sto->Prop}{R:D->D->Prop}(hg:∀S,I S->gOk gs S):∀{ds acc:KE D} {os:En} {S:Sto},os.length=m->I S->acc.length+ds.length<=sizeLine->(∀d∈ds,∀os S,os.length=m->I S->∃us y S',us.length=m/\t d (C++os) S=Gc (C++us)/\f (C++us) S=Gc (y,S')/\I S'/\R d y)->∃ys S',CU gs t Bx f ds acc (C++os) S=Gc (acc++ys,S')/\I S'/\ys.length=ds.length/\Paired R ds ys
 | [],acc,os,S,ho,hI,hz,h=>⟨[],S,by rw[GH (hg S hI)];simp,hI,rfl,.nil⟩
 |d::ds,acc,os,S,ho,hI,hz,h=>by
  obtain⟨us,y,S1,hu,e1,e2,I1,r1⟩:=h d uD os S ho hI
  obtain⟨ys,S2,e3,I2,l2,r2⟩:=Qg hg (ds:=ds) (acc:=acc++[y]) (os:=us) (S:=S1) hu I1 (by simp at hz ⊢; lia) λd' hd=>h d' (tf _ hd)
  refine⟨y::ys,S2,?_,I2,by simp[l2],.cons r1 r2⟩
  rw[Jq (hg S hI) (by simp at hz;lia) e1 Hx,e2,Ap,e3]
  simp
theorem comp_map{gs:Gd}{t:Tf}{f:Ev}{C:En}{m:Nat}{g:D->D}{S:Sto}(hg:gOk gs S):∀{ds acc:KE D} {os:En},os.length=m->acc.length+ds.length<=sizeLine->(∀d∈ds,∀os,os.length=m->∃us,us.length=m/\t d (C++os) S=Gc (C++us)/\f (C++us) S=Gc (g d,S))->CU gs t Bx f ds acc (C++os) S=Gc (acc++ds.map g,S)
 | [],acc,os,ho,hz,h=>by rw[GH hg];simp
 |d::ds,acc,os,ho,hz,h=>by
  obtain⟨us,hu,e1,e2⟩:=h d uD os ho
  rw[Jq hg (by simp at hz;lia) e1 Hx,e2,Ap]
  rw[comp_map hg hu (by simp at hz ⊢; lia) λd' hd=>h d' (tf _ hd)]
  simp
theorem Ha{gs:Gd}{t:Tf}{b:Ex}{I:KE D->En->Sto->Prop}(hg:∀ds E S,I ds E S->gOk gs S):∀{ds:KE D} {E:En} {S:Sto},I ds E S->(∀d ds E S,I (d::ds) E S->∃E1 E2 S2,t d E S=Gc E1/\b E1 S=Gc (.nx,E2,S2)/\I ds E2 S2)->∃E' S',Jx gs t b ds E S=Gc (.nx,E',S')/\I [] E' S'
 | [],E,S,hI,h=>⟨E,S,Dz (hg _ _ _ hI),hI⟩
 |d::ds,E,S,hI,h=>by
  obtain⟨E1,E2,S2,e1,e2,I2⟩:=h d ds E S hI
  obtain⟨E',S',e3,I3⟩:=Ha hg I2 h
  exact⟨E',S',by rw[B7 (hg _ _ _ hI),e1];simp[e2,e3],I3⟩
theorem pick{xs:KE D}{r:Int}(h0:0<=r)(h1:r<xs.length):∃x,atI xs r=Gc x/\x∈xs:=⟨_,dH h0 h1,wm _⟩
theorem L3{α β:Type}{P:β->Prop}:∀{xs:KE α} {ys:KE β},Paired (λ_ y=>P y) xs ys->∀y∈ys,P y
 |_,_,.nil,y,h=>by cases h
 |_,_,.cons r t,y,h=>by
  rcases uF.mp h with h|h
  .rw[h];exact r
  .exact L3 t y h
theorem J1{lo:Int}{n:Nat}:(K4 lo n).length=n:=by simp[K4]
end
def Ok(G B:Nat)(r:Rat):Prop:=∃z:Nat,r*(G:Rat)=(z:Rat)/\z<=B
theorem PQ{n:Nat}(h:0<n):(n:Rat)≠0:=by
 have:n≠0:=by lia
 exact_mod_cast this
theorem Ok.sz{G B k:Nat}{r:Rat}(h:Ok G B r)(hG:0<G)(g:G<2^k)(b:B<2^k):Sz k r:=by
 obtain⟨z,e,hz⟩:=h
 have e2:r=((z:Int):Rat) / ((G:Int):Rat):=by
  have:=PQ hG
  rw[show(((z:Nat):Int):Rat)=(z:Rat)from rfl,show(((G:Nat):Int):Rat)=(G:Rat)from rfl,<-e]
  grind
 rw[e2]
 exact N5 (by lia) (by simpa using vM hz b) (by simpa using g)
theorem Ok.up{G B t B':Nat}{r:Rat}(h:Ok G B r)(hB:B*t<=B'):Ok (G*t) B' r:=by
 obtain⟨z,e,hz⟩:=h
 refine⟨z*t,?_,uA (uy t hz) hB⟩
 push_cast
 rw[<-e]
 grind
theorem Ok.zero{G B:Nat}:Ok G B 0:=⟨0,by simp,ve _⟩
theorem Ok.one{G B:Nat}(h:G<=B):Ok G B 1:=⟨G,by simp,h⟩
theorem Ok.mix{G B a b t:Nat}{r o:Rat}(hr:Ok G B r)(ho:Ok G B o)(ht:a+b=t)(h0:0<t):Ok (G*t) (B*t) ((r*(a:Rat)+o*(b:Rat)) / (t:Rat)):=by
 obtain⟨z,e1,h1⟩:=hr
 obtain⟨y,e2,h2⟩:=ho
 refine⟨z*a+y*b,?_,?_⟩
 .have:=PQ h0
  push_cast
  rw[<-e1,<-e2]
  grind
 .rw[<-ht,Nat.mul_add]
  exact Nat.add_le_add (uy a h1) (uy b h2)
structure Tr where
 p:Nat
 k:Nat
 b:Nat
 ho:KE Rat
 h:Int
 l:Int
structure Ld where
 k:Nat
 n:Int
 ow:KE Rat
structure Stt where
 AD:KE Ld
 hold:KE Rat
 nums:KE Int
inductive AR where
 |DL (p k:Nat) (n:Int)
 |GS (a b:Nat)
 |swap (l:Nat) (g:Int) (k:Nat) (n:Int)
 |DQ (t:Int) (l:Nat) (g:Int) (k:Nat) (n:Int)
 |Ey (l:Nat) (n:Int)
 |thr (l:Nat) (n:Int) (ws:KE Int)
 |JE (p q:Nat) (s:Rat)
noncomputable def shD(rs:KE Rat):D:=.tup (rs.map aD)
noncomputable def Tr.d(t:Tr):D:=.tup [.int t.p,.int t.k,.int t.b,shD t.ho,.int t.h,.int t.l]
noncomputable def Ld.d(l:Ld):D:=.tup [.int l.k,.int l.n,shD l.ow]
noncomputable def AR.d:AR->D
 | .DL p k n=>.tup [.str "bring",.int p,.int k,.int n]
 | .GS a b=>.tup [.str "pool",.int a,.int b]
 | .swap l g k n=>.tup [.str "swap",.int l,.int g,.int k,.int n]
 | .DQ t l g k n=>.tup [.str "trade",.int t,.int l,.int g,.int k,.int n]
 | .Ey l n=>.tup [.str "spoil",.int l,.int n]
 | .thr l n ws=>.tup [.str "throw",.int l,.int n,.tup (ws.map .int)]
 | .JE p q s=>.tup [.str "sell",.int p,.int q,aD s]
noncomputable def Hv(x:Rat)(os ss:KE Rat):KE Rat:=yq (λs o=>s*(1-x)+o*x) ss os
noncomputable def HF(p q:Nat)(s:Rat)(ss:KE Rat):KE Rat:=(ss.set p (ss.getD p 0-ss.getD p 0*s)).set q (ss.getD q 0+ss.getD p 0*s)
noncomputable def Ax(n m:Int)(ss os:KE Rat):KE Rat:=yq (λs o=>(s*n+o*m) / (n+m:Int)) ss os
noncomputable def FQ(t:Tr)(ls:KE Ld)(ws:KE Int):Int:=(ls.map λl=>l.n*ws.getD l.k 0).sum+t.b*ws.getD t.k 0
noncomputable def Ki(t:Tr)(ls:KE Ld)(l:Nat)(n:Int)(ws:KE Int):Rat:=((n*ws.getD ((ls[l]?.map (·.k)).getD 0) 0:Int):Rat) / (FQ t ls ws:Rat)
noncomputable def AM(ls:KE Ld)(l:Nat):Ld:=ls.getD l ⟨0,0,[]⟩
noncomputable def less(ls:KE Ld)(l:Nat)(n:Int):KE Ld:=ls.set l {AM ls l with n:=(AM ls l).n-n}
noncomputable def Ia(p i:Nat):KE Rat:=(uJ p).map λj=>if j=i then 1 else 0
noncomputable def step(t:Tr)(s:Stt):AR->Stt
 | .DL p k n=>{s with AD:=s.AD++[⟨k,n,Ia t.p p⟩]}
 | .GS a b=>{s with AD:=less (less s.AD a (AM s.AD a).n) b (AM s.AD b).n++[⟨(AM s.AD a).k,(AM s.AD a).n+(AM s.AD b).n,Ax (AM s.AD a).n (AM s.AD b).n (AM s.AD a).ow (AM s.AD b).ow⟩]}
 | .swap l g k n=>{s with AD:=less s.AD l g++[⟨k,n,(AM s.AD l).ow⟩]}
 | .DQ u l g k n=>{s with AD:=less s.AD l g++[⟨k,n,(AM s.AD l).ow⟩],nums:=s.nums++[u]}
 | .Ey l n=>{s with AD:=less s.AD l n}
 | .thr l n ws=>{s with AD:=(less s.AD l n).map λx=>{x with ow:=Hv (Ki t s.AD l n ws) (AM s.AD l).ow x.ow},hold:=Hv (Ki t s.AD l n ws) (AM s.AD l).ow s.hold}
 | .JE p q x=>{s with AD:=s.AD.map λy=>{y with ow:=HF p q x y.ow},hold:=HF p q x s.hold}
def JO(t:Tr):Prop:=1<=t.p/\t.p<=4/\1<=t.k/\t.k<=5/\1<=t.b/\t.b<=20
def Can(t:Tr)(s:Stt):AR->Prop
 | .DL p k n=>p<t.p/\k<t.k/\1<=n/\n<2^131
 | .GS a b=>a≠b/\a<s.AD.length/\b<s.AD.length/\0<(AM s.AD a).n/\0<(AM s.AD b).n/\(AM s.AD a).k=(AM s.AD b).k
 | .swap l g k n=>l<s.AD.length/\1<=g/\g<=(AM s.AD l).n/\k<t.k/\k≠(AM s.AD l).k/\1<=n/\n<2^131
 | .DQ u l g k n=>l<s.AD.length/\1<=g/\g<=(AM s.AD l).n/\k<t.k/\k≠(AM s.AD l).k/\1<=n/\n<2^131/\u∉s.nums/\0<=u/\u<=9
 | .Ey l n=>l<s.AD.length/\1<=n/\n<=(AM s.AD l).n
 | .thr l n ws=>l<s.AD.length/\1<=n/\n<=(AM s.AD l).n/\ws.length=t.k+1/\∀w∈ws,1<=w/\w<=99
 | .JE p q x=>p≠q/\p<t.p/\q<t.p/\0<x.num/\x.num<=x.den/\x.den<=12
structure ED(t:Tr)(k:Nat)(s:Stt):Prop where
 len:s.AD.length<=4+k
 kind:∀l∈s.AD,l.k<t.k
 pcs:∀l∈s.AD,0<=l.n/\l.n<2^(131+k)
 own:∀l∈s.AD,l.ow.length=t.p
 hold:s.hold.length=t.p
 nm:s.nums.length<=k
 gb:∃G B:Nat,0<G/\G<=B/\B<2^(30+170*k)/\(∀l∈s.AD,∀r∈l.ow,Ok G B r)/\∀r∈s.hold,Ok G B r
theorem ED.sz{t:Tr}{k:Nat}{s:Stt}(h:ED t k s):(∀l∈s.AD,∀r∈l.ow,Sz (30+170*k) r)/\∀r∈s.hold,Sz (30+170*k) r:=by
 obtain⟨G,B,g0,gb,b,h1,h2⟩:=h.gb
 exact⟨λl hl r hr=>(h1 l hl r hr).sz g0 (vM gb b) b,λr hr=>(h2 r hr).sz g0 (vM gb b) b⟩
theorem AU{ls:KE Ld}{l:Nat}(h:l<ls.length):AM ls l∈ls:=by
 unfold AM
 rw[tu,t7 h]
 exact wm h
theorem DA{ls:KE Ld}{l:Nat}(h:l<ls.length):ls[l]?=Gc (AM ls l):=by
 unfold AM
 rw[tu,t7 h]
 rfl
theorem LA{ls:KE Ld}{l:Nat}{n:Int}{x:Ld}(h:x∈less ls l n)(hl:l<ls.length):x∈ls\/x={AM ls l with n:=(AM ls l).n-n}:=by
 unfold less at h
 rcases xF h with h|h
 .exact .inl h
 .exact .inr h
theorem Ar{ls:KE Ld}{l:Nat}{n:Int}:(less ls l n).length=ls.length:=by simp[less]
section
variable{S:Sto}{p:Nat}
theorem Sq{P:Int->Prop}:∀{ys:KE D},(∀y∈ys,∃i:Int,y=.int i/\P i)->∃ns:KE Int,ys=ns.map D.int/\∀n∈ns,P n
 | [],_=>⟨[],rfl,λn h=>by cases h⟩
 |y::ys,h=>by
  obtain⟨i,rfl,hi⟩:=h y uD
  obtain⟨ns,rfl,hn⟩:=Sq (P:=P) (ys:=ys) λz hz=>h z (tf _ hz)
  exact⟨i::ns,rfl,λn hn'=>by
   rcases uF.mp hn' with e|e
   .rw[e];exact hi
   .exact hn n e⟩
theorem RZ{ns:KE Int}(h:∀n∈ns,0<=n/\n<=8):0<=ns.sum/\ns.sum<=8*ns.length/\∀n∈ns,n<=ns.sum:=by
 induction ns with
 |nil=>simp
 |cons a l ih=>
  have h1:=h a uD
  obtain⟨i1,i2,i3⟩:=ih λn hn=>h n (tf _ hn)
  rw[ub,uq]
  refine⟨by lia,by push_cast;lia,λn hn=>?_⟩
  rcases uF.mp hn with e|e
  .lia
  .have:=i3 n e;lia
theorem VM (h : Gw p S) {n : Nat} (hn : n ≤ 20) : ∃ (ns : KE Int) (S' : Sto), CU [] (tNm 1) Bx (eOp (o2 wIx) [(Lj [(eC (.int 0)), (eC (.int 1)), (AK AL [(eV 0), (eC (.int 4))]), (AK AL [(eV 0), (eC (.int 9))])]), (AK AL [(eV 0), (eC (.int 4))])]) (K4 0 n) [] [Gc (.ref p), none] S = Gc (ns.map D.int, S') /\ Pn p S S' /\ ns.length = n /\ ∀ i ∈ ns, 0 ≤ i /\ i ≤ 8 := by
  obtain ⟨ys, S', e, hI, l, r⟩ := Qg (gs := []) (t := tNm 1) (f := eOp (o2 wIx) [(Lj [(eC (.int 0)), (eC (.int 1)), (AK AL [(eV 0), (eC (.int 4))]), (AK AL [(eV 0), (eC (.int 9))])]), (AK AL [(eV 0), (eC (.int 4))])]) (C := [Gc (.ref p)]) (m := 1) (I := Pn p S) (R := fun _ y => ∃ i : Int, y = .int i /\ 0 ≤ i /\ i ≤ 8)
    (fun _ _ => AZ) (ds := K4 0 n) (acc := []) (os := [none]) rfl (Pn.refl h) (by rw [J1]; simp; exact AO (by lia)) fun d _ os S0 ho I0 => by
      obtain ⟨o, rfl⟩ := ON ho
      obtain ⟨r1, S1, e1, a1, b1, p1⟩ := BF I0.pen (n := 4) (by decide) (by decide)
      obtain ⟨r2, S2, e2, a2, b2, p2⟩ := BF p1.pen (n := 9) (by decide) (by decide)
      obtain ⟨r3, S3, e3, a3, b3, p3⟩ := BF p2.pen (n := 4) (by decide) (by decide)
      obtain ⟨x, ex, hx⟩ := pick (xs := [.int 0, .int 1, .int r1, .int r2]) (r := r3) a3 (by simpa using b3)
      refine ⟨[Gc d], x, S3, rfl, by simp, by simp [e1, e2, e3, ex], ((I0.trans p1).trans p2).trans p3, ?_⟩
      simp only [uF, uY, vg] at hx
      rcases hx with rfl | rfl | rfl | rfl
      · exact ⟨0, rfl, by decide, by decide⟩
      · exact ⟨1, rfl, by decide, by decide⟩
      · exact ⟨r1, rfl, by lia, by lia⟩
      · exact ⟨r2, rfl, by lia, by lia⟩
  obtain ⟨ns, rfl, hns⟩ := Sq (L3 r)
  exact ⟨ns, S', by simpa using e, hI, by simpa [J1] using l, hns⟩
noncomputable def KO(ns:KE Int):KE Rat:=ns.map λ(n:Int)=>(n:Rat) / (ns.sum:Rat)
theorem OA{ns:KE Int}(h:∀n∈ns,0<=n/\n<=8)(hs:0<ns.sum):∀r∈KO ns,Ok ns.sum.toNat ns.sum.toNat r:=by
 intro r hr
 obtain⟨n,hn,rfl⟩:=um.mp hr
 have h1:=h n hn
 have h2:=(RZ h).2.2 n hn
 refine⟨n.toNat,?_,by lia⟩
 have e1:((ns.sum.toNat:Nat):Rat)=(ns.sum:Rat):=by
  have:((ns.sum.toNat:Nat):Int)=ns.sum:=by lia
  exact congrArg (λz:Int=>(z:Rat)) this
 have e2:((n.toNat:Nat):Rat)=(n:Rat):=by
  have:((n.toNat:Nat):Int)=n:=by lia
  exact congrArg (λz:Int=>(z:Rat)) this
 rw[e1,e2]
 have:(ns.sum:Rat)≠0:=by
  intro z
  have:=wO.mp z
  lia
 grind
theorem WJ{s:Rat}:∀{ns:KE Int},(ns.map λ(n:Int)=>(n:Rat) / s).sum=(ns.sum:Rat) / s
 | []=>by simp;grind
 |n::ns=>by
  rw[t8,ub,ub,WJ (ns:=ns)]
  push_cast
  grind
theorem SM{ns:KE Int}(hs:0<ns.sum):(KO ns).sum=1:=by
 unfold KO
 rw[WJ]
 have:(ns.sum:Rat)≠0:=by
  intro z
  have:=wO.mp z
  lia
 grind
theorem Up{ns:KE Int}{q:Nat}(hq:S[q]?=Gc (.lst (ns.map D.int)))(hl:ns.length<=20)(hn:∀n∈ns,0<=n/\n<=8)(hs:0<ns.sum):CU [(q,ns.map D.int)] (tNm 1) Bx (AK Bp [eV 1,eOp (o1 XW) [eV 0]]) (ns.map D.int) [] [Gc (.ref q),none] S=Gc ((KO ns).map aD,S):=by
 obtain⟨s1,s2,s3⟩:=RZ hn
 have:=comp_map (gs:=[(q,ns.map D.int)]) (t:=tNm 1) (f:=AK Bp [eV 1,eOp (o1 XW) [eV 0]]) (C:=[Gc (.ref q)]) (m:=1) (g:=λd=>match d with| .int n=>aD ((n:Rat) / (ns.sum:Rat))|d=>d) (S:=S) (λg hg=>by rw[uk.mp hg];exact AV hq) (ds:=ns.map D.int) (acc:=[]) (os:=[none]) rfl (by simp;exact AO (by lia)) λd hd os ho=>by
  obtain⟨o,rfl⟩:=ON ho
  obtain⟨i,hi,rfl⟩:=um.mp hd
  have m:=WE (S:=S) (t:=i) hs (Fx (by lia) (by lia))
  exact⟨[Gc (.int i)],rfl,by simp,by simp[As hq,GB,m]⟩
 have e2:(ns.map D.int).map (λd=>match d with| .int n=>aD ((n:Rat) / (ns.sum:Rat))|d=>d)=(KO ns).map aD:=by
  unfold KO
  rw[uc,uc]
  rfl
 rw[e2]at this
 simpa using this
theorem Ua(h:Gw p S){n:Nat}(h1:1<=n)(h2:n<=4):∃rs S',Ea [.ref p,.int n] S=Gc (shD rs,S')/\Pn p S S'/\(rs.length=n/\rs.sum=1)/\∃G:Nat,0<G/\G<=32/\∀r∈rs,Ok G G r:=by
 obtain⟨ns,S1,e1,p1,l1,i1⟩:=VM (n:=n) h (by lia)
 obtain⟨s1,s2,s3⟩:=RZ i1
 have hq:(S1++[Cl.lst (ns.map D.int)])[S1.length]?=Gc (.lst (ns.map D.int)):=uL
 have pp:Gw p (S1++[Cl.lst (ns.map D.int)]):=p1.pen.app _
 have hlt:=p1.pen.lt
 have r1:IK (n:Int)=true:=DB (by lia) (by lia)
 by_cases hz:ns.sum=0
 .obtain⟨r,S2,e2,a2,b2,p2⟩:=BF pp (n:=n) (by lia) (by lia)
  have hq2:S2[S1.length]?=Gc (.lst (ns.map D.int)):=p2.get hq (by lia)
  have hn':∀x∈ns.set r.toNat 1,0<=x/\x<=8:=λx hx=>by
   rcases xF hx with hx|rfl
   .exact i1 x hx
   .exact⟨by decide,by decide⟩
  have hs':0<(ns.set r.toNat 1).sum:=by
   have:=(RZ hn').2.2 1 (List.mem_set (by lia) 1)
   lia
  have hq3:(S2.set S1.length (.lst ((ns.set r.toNat 1).map D.int)))[S1.length]?=Gc (.lst ((ns.set r.toNat 1).map D.int)):=uG (Ac hq2)
  have e3:=Up hq3 (by simp;lia) hn' hs'
  have ix:ixN ns.length r=Gc r.toNat:=Ug a2 (by lia)
  refine⟨KO (ns.set r.toNat 1),S2.set S1.length (.lst ((ns.set r.toNat 1).map D.int)),?_,⟨?_,?_⟩,⟨by simp[KO,l1],SM hs'⟩,_,(show 0<(ns.set r.toNat 1).sum.toNat by lia),?_,OA hn' hs'⟩
  .have sq3:=G4 hq3
   rw[wd]at e3 sq3 hq3
   simp[Ea,Kp,r1,e1,As hq,GB,hz,e2,AV hq2,ix,sq3,e3,shD]
  .have g:Bv [p] S (S1++[Cl.lst (ns.map D.int)]):=p1.same.trans .app
   refine⟨uA (g.trans p2.same).len (by simp),λm hm hmp=>?_⟩
   rw[uE (by have:=p1.same.len;lia)]
   exact(g.trans p2.same).keep m hm hmp
  .obtain⟨ds,ed,hd⟩:=p2.pen
   exact⟨ds,by rw[uE (by lia)];exact ed,hd⟩
  .have:=(RZ hn').2.1
   rw[wC]at this
   lia
 .have hz':(ns.sum==0)=false:=by simpa using hz
  have e3:=Up hq (by lia) i1 (by lia)
  refine⟨KO ns,S1++[Cl.lst (ns.map D.int)],?_,⟨p1.same.trans .app,pp⟩,⟨by simp[KO,l1],SM (by lia)⟩,_,(show 0<ns.sum.toNat by lia),by lia,OA i1 (by lia)⟩
  have sq3:=G4 hq
  simp[Ea,Kp,r1,e1,As hq,GB,hz',sq3,e3,shD]
end
section
variable{S:Sto}{p:Nat}
theorem eU:(2:Nat)<HP:=Fx (n:=2) (by decide) (by decide)
theorem LG(h:Gw p S):∃n S',Bg [.ref p] S=Gc (.int n,S')/\Pn p S S'/\1<=n/\n<2^131:=by
 obtain⟨r1,S1,e1,a1,b1,p1⟩:=BF h (n:=99) (by decide) (by decide)
 obtain⟨r2,S2,e2,a2,b2,p2⟩:=BF p1.pen (n:=4) (by decide) (by decide)
 obtain⟨r3,S3,e3,a3,b3,p3⟩:=BF p2.pen (n:=40) (by decide) (by decide)
 obtain⟨r4,S4,e4,a4,b4,p4⟩:=BF p3.pen (n:=999) (by decide) (by decide)
 obtain⟨r5,S5,e5,a5,b5,p5⟩:=BF p4.pen (n:=7) (by decide) (by decide)
 have pp:=(((p1.trans p2).trans p3).trans p4).trans p5
 have d2:=eU
 have go:∀g:Int,1<=g->g<2^131->∃n:Int,atI [D.int (1+r2),.int (1+r3),.int (1+r4),.int g] (r5 / 2)=Gc (.int n)/\1<=n/\n<2^131:=λg g1 g2=>by
  obtain⟨x,ex,hx⟩:=pick (xs:=[D.int (1+r2),.int (1+r3),.int (1+r4),.int g]) (r:=r5 / 2) (by lia) (by simp;lia)
  simp only[uF,uY,vg]at hx
  rcases hx with rfl|rfl|rfl|rfl
  .exact⟨_,ex,by lia,by lia⟩
  .exact⟨_,ex,by lia,by lia⟩
  .exact⟨_,ex,by lia,by lia⟩
  .exact⟨_,ex,g1,g2⟩
 first
  |(obtain⟨n,en,n1,n2⟩:=go (10^39+r1) (by lia) (by lia)
    exact⟨n,S5,by simp[Bg,JM,e1,e2,e3,e4,e5,d2]at en ⊢; simp[en],pp,n1,n2⟩)
  |(obtain⟨n,en,n1,n2⟩:=go (10^30+r1) (by lia) (by lia)
    exact⟨n,S5,by simp[Bg,JM,e1,e2,e3,e4,e5,d2]at en ⊢; simp[en],pp,n1,n2⟩)
theorem Jb{r:Int}(h:0<=r):∃m:Nat,r=m:=⟨r.toNat,by lia⟩
theorem bR(h:Gw p S):∃t S',IQ [.ref p] S=Gc (Tr.d t,S')/\Pn p S S'/\JO t/\(t.ho.length=t.p/\t.ho.sum=1)/\∃G:Nat,0<G/\G<=32/\∀r∈t.ho,Ok G G r:=by
 obtain⟨r1,S1,e1,a1,b1,p1⟩:=BF h (n:=4) (by decide) (by decide)
 obtain⟨r2,S2,e2,a2,b2,p2⟩:=BF p1.pen (n:=5) (by decide) (by decide)
 obtain⟨r3,S3,e3,a3,b3,p3⟩:=BF p2.pen (n:=3) (by decide) (by decide)
 obtain⟨r4,S4,e4,a4,b4,p4⟩:=BF p3.pen (n:=20) (by decide) (by decide)
 obtain⟨r5,S5,e5,a5,b5,p5⟩:=BF p4.pen (n:=2) (by decide) (by decide)
 obtain⟨m1,rfl⟩:=Jb a1
 obtain⟨m2,rfl⟩:=Jb a2
 obtain⟨b,eb,hb1,hb2⟩:∃b:Nat,atI [D.int (1+r3),.int (1+r4)] r5=Gc (.int b)/\1<=b/\b<=20:=by
  obtain⟨x,ex,hx⟩:=pick (xs:=[D.int (1+r3),.int (1+r4)]) (r:=r5) a5 (by simpa using b5)
  obtain⟨m3,rfl⟩:=Jb a3
  obtain⟨m4,rfl⟩:=Jb a4
  simp only[uF,uY,vg]at hx
  rcases hx with rfl|rfl
  .exact⟨1+m3,by rw[ex];simp,by lia,by lia⟩
  .exact⟨1+m4,by rw[ex];simp,by lia,by lia⟩
 obtain⟨rs,S6,e6,p6,l6,G,g0,g1,g2⟩:=Ua p5.pen (n:=1+m1) (by lia) (by lia)
 obtain⟨r7,S7,e7,a7,b7,p7⟩:=BF p6.pen (n:=10) (by decide) (by decide)
 obtain⟨r8,S8,e8,a8,b8,p8⟩:=BF p7.pen (n:=10) (by decide) (by decide)
 rw[show((1+m1:Nat):Int)=1+(m1:Int) by lia]at e6
 refine⟨⟨1+m1,1+m2,b,rs,r7,r8⟩,S8,?_,((((((p1.trans p2).trans p3).trans p4).trans p5).trans p6).trans p7).trans p8,⟨by simp,by simp;lia,by simp,by simp;lia,hb1,hb2⟩,l6,G,g0,g1,g2⟩
 simp[IQ,Of,e1,e2,e3,e4,e5,eb,e6,e7,e8,Tr.d]
theorem Ze(h:Gw p S):∃x S',Gx [.ref p] S=Gc (aD x,S')/\Pn p S S'/\0<x.num/\x.num<=x.den/\x.den<=12:=by
 obtain⟨r1,S1,e1,a1,b1,p1⟩:=BF h (n:=12) (by decide) (by decide)
 obtain⟨r2,S2,e2,a2,b2,p2⟩:=BF p1.pen (n:=1+r1) (by lia) (by lia)
 have m:=WE (S:=S2) (t:=1+r2) (b:=1+r1) (by lia) (Fx (by lia) (by lia))
 obtain⟨m1,rfl⟩:=Jb a1
 obtain⟨m2,rfl⟩:=Jb a2
 have rp:=OD (1+(m2:Int)) (1+m1) (by lia)
 have eb:(((1+(m1:Int):Int)):Rat)=(((1+m1:Nat)):Rat):=by
  have:(1+(m1:Int))=((1+m1:Nat):Int):=by lia
  rw[this];rfl
 have en:(1+(m2:Int)).natAbs=1+m2:=by lia
 have gp:0<zR (1+m2) (1+m1):=Nat.gcd_pos_of_pos_left _ (by lia)
 obtain⟨q,hq⟩:=Nat.gcd_dvd_left (1+m2) (1+m1)
 obtain⟨q',hq'⟩:=Nat.gcd_dvd_right (1+m2) (1+m1)
 refine⟨((1+(m2:Int):Int):Rat) / ((1+(m1:Int):Int):Rat),S2,?_,p1.trans p2,?_,?_,?_⟩
 .simp[Gx,N4,e1,e2,m]
 .rw[eb,rp.1,en]
  generalize zR (1+m2) (1+m1)=g at*
  have:(1+(m2:Int))=((g*q:Nat):Int):=by lia
  rw[this,AAn,AAC _ (by lia)]
  have:q≠0:=λz=>by subst z;lia
  lia
 .rw[eb,rp.1,rp.2,en]
  generalize zR (1+m2) (1+m1)=g at*
  have t1:(1+(m2:Int))=((g*q:Nat):Int):=by lia
  rw[t1,AAn,AAC _ (by lia),hq',Nat.mul_div_cancel_left _ gp]
  have:q<=q':=by
   have:g*q<=g*q':=by lia
   exact Nat.le_of_mul_le_mul_left this gp
  lia
 .rw[eb,rp.2]
  exact uA (Nat.div_le_self _ _) (by lia)
theorem WN (h : Gw p S) {n : Nat} (hn : n ≤ 6) : ∃ (ws : KE Int) (S' : Sto), El [.ref p, .int n] S = Gc (.tup (ws.map .int), S') /\ Pn p S S' /\ ws.length = n /\ ∀ w ∈ ws, 1 ≤ w /\ w ≤ 99 := by
  obtain ⟨ys, S', e, hI, l, r⟩ := Qg (gs := []) (t := tNm 1) (f := (eOp (o2 Ek) [(eC (.int 1)), (eOp (o2 wIx) [(Lj [(AK AL [(eV 0), (eC (.int 3))]), (AK AL [(eV 0), (eC (.int 99))])]), (AK AL [(eV 0), (eC (.int 2))])])])) (C := [Gc (.ref p)]) (m := 1) (I := Pn p S) (R := fun _ y => ∃ i : Int, y = .int i /\ 1 ≤ i /\ i ≤ 99)
    (fun _ _ => AZ) (ds := K4 0 n) (acc := []) (os := [none]) rfl (Pn.refl h) (by rw [J1]; simp; exact AO (by lia)) fun d _ os S0 ho I0 => by
      obtain ⟨o, rfl⟩ := ON ho
      obtain ⟨r1, S1, e1, a1, b1, p1⟩ := BF I0.pen (n := 3) (by decide) (by decide)
      obtain ⟨r2, S2, e2, a2, b2, p2⟩ := BF p1.pen (n := 99) (by decide) (by decide)
      obtain ⟨r3, S3, e3, a3, b3, p3⟩ := BF p2.pen (n := 2) (by decide) (by decide)
      obtain ⟨x, ex, hx⟩ := pick (xs := [.int r1, .int r2]) (r := r3) a3 (by simpa using b3)
      simp only [uF, uY, vg] at hx
      rcases hx with rfl | rfl
      · exact ⟨[Gc d], .int (1 + r1), S3, rfl, by simp, by simp [e1, e2, e3, ex], ((I0.trans p1).trans p2).trans p3, _, rfl, by lia, by lia⟩
      · exact ⟨[Gc d], .int (1 + r2), S3, rfl, by simp, by simp [e1, e2, e3, ex], ((I0.trans p1).trans p2).trans p3, _, rfl, by lia, by lia⟩
  obtain ⟨ns, rfl, hns⟩ := Sq (L3 r)
  have r1 : IK (n : Int) = true := DB (by lia) (by lia)
  have e' : CU [] (tNm 1) Bx (eOp (o2 Ek) [(eC (.int 1)), (eOp (o2 wIx) [(Lj [(AK AL [(eV 0), (eC (.int 3))]), (AK AL [(eV 0), (eC (.int 99))])]), (AK AL [(eV 0), (eC (.int 2))])])]) (K4 0 n) [] [Gc (.ref p), none] S = Gc (ns.map D.int, S') := by simpa using e
  exact ⟨ns, S', by simp [El, MJ, r1, e'], hI, by simpa [J1] using l, hns⟩
def IT(t:Tr)(ls:KE Ld):Prop:=(∀l∈ls,l.k<t.k/\1<=l.n/\l.n<2^131/\l.ow.length=t.p/\l.ow.sum=1)/\∃G:Nat,0<G/\G<=32^ls.length/\∀l∈ls,∀r∈l.ow,Ok G G r
theorem IT.snoc{t:Tr}{ls:KE Ld}{l:Ld}(h:IT t ls)(h1:l.k<t.k/\1<=l.n/\l.n<2^131/\l.ow.length=t.p/\l.ow.sum=1){g:Nat}(g0:0<g)(g1:g<=32)(g2:∀r∈l.ow,Ok g g r):IT t (ls++[l]):=by
 obtain⟨ha,G,G0,G1,G2⟩:=h
 refine⟨λx hx=>?_,G*g,yD G0 g0,?_,λx hx r hr=>?_⟩
 .rcases uU.mp hx with hx|hx
  .exact ha x hx
  .rw[uk.mp hx];exact h1
 .rw[vL,AAq,AAe]
  exact yE G1 g1
 .rcases uU.mp hx with hx|hx
  .exact(G2 x hx r hr).up (tw _)
  .rw[uk.mp hx]at hr
   have:=(g2 r hr).up (t:=G) (B':=G*g) (by rw[xg];exact tw _)
   rwa [xg g G]at this
end
section
variable{S:Sto}{p:Nat}
theorem IT.nil{t:Tr}:IT t []:=⟨λl hl=>(nomatch hl),1,by decide,by simp,λl hl=>(nomatch hl)⟩
theorem bS(h:Gw p S){t:Tr}(ht:JO t):∃(ls:KE Ld) (S':Sto),Il [.ref p,t.d] S=Gc (.tup (ls.map Ld.d),S')/\Pn p S S'/\IT t ls/\ls.length<=4:=by
 obtain⟨t1,t2,t3,t4,t5,t6⟩:=ht
 have hlt:=h.lt
 have hq:(S++[Cl.lst []])[S.length]?=Gc (.lst []):=uL
 obtain⟨r1,S1,e1,a1,b1,p1⟩:=BF (h.app [Cl.lst []]) (n:=5) (by decide) (by decide)
 obtain⟨r2,S2,e2,a2,b2,p2⟩:=BF p1.pen (n:=3) (by decide) (by decide)
 obtain⟨n,en,hn⟩:∃n:Nat,atI [D.int 0,.int 1,.int r1] r2=Gc (.int n)/\n<=4:=by
  obtain⟨x,ex,hx⟩:=pick (xs:=[D.int 0,.int 1,.int r1]) (r:=r2) a2 (by simpa using b2)
  simp only[uF,uY,vg]at hx
  rcases hx with rfl|rfl|rfl
  .exact⟨0,ex,by decide⟩
  .exact⟨1,ex,by decide⟩
  .exact⟨r1.toNat,by rw[ex,vF a1],by lia⟩
 have q2:S2[S.length]?=Gc (.lst []):=(p1.trans p2).get hq (by lia)
 have rn:IK (n:Int)=true:=DB (by lia) (by lia)
 obtain⟨E',S',ef,ls,o,rfl,f1,f2,f3,f4,f5⟩:=Ha (gs:=[]) (t:=tNm 3) (b:=CP (KD KJ (eV 2) [CS [AK AL [eV 0,eOp (o2 wIx) [eV 1,eC (.int 1)]],AK Bg [eV 0],AK Ea [eV 0,eOp (o2 wIx) [eV 1,eC (.int 0)]]]]))
  (I:=λds E S'=>∃(ls:KE Ld) (o:tY D),E=[Gc (.ref p),Gc t.d,Gc (.ref S.length),o]/\S'[S.length]?=Gc (.lst (ls.map Ld.d))/\Gw p S'/\Bv [p] S S'/\IT t ls/\ls.length+ds.length<=4)
  (λ_ _ _ _=>AZ) (ds:=K4 0 n) (E:=[Gc (.ref p),Gc t.d,Gc (.ref S.length),none]) (S:=S2)
  ⟨[],none,rfl,q2,p2.pen,Bv.app.trans (p1.trans p2).same,IT.nil,by simp[J1];exact hn⟩ (by
    rintro d ds E S0 ⟨ls,o,rfl,i1,i2,i3,i4,i5⟩
    obtain⟨x1,T1,g1,c1,d1,k1⟩:=BF i2 (n:=t.k) (by lia) (by lia)
    obtain⟨x2,T2,g2,k2,c2,d2⟩:=LG k1.pen
    obtain⟨rs,T3,g3,k3,l3,G,G0,G1,G2⟩:=Ua k2.pen (n:=t.p) t1 t2
    obtain⟨m1,rfl⟩:=Jb c1
    have kk:=(k1.trans k2).trans k3
    have j1:T3[S.length]?=Gc (.lst (ls.map Ld.d)):=kk.get i1 (by lia)
    have hz:ls.length<sizeLine:=t9 (show ls.length<5 by lia) (AO (by decide))
    refine⟨[Gc (.ref p),Gc t.d,Gc (.ref S.length),Gc d],[Gc (.ref p),Gc t.d,Gc (.ref S.length),Gc d],T3.set S.length (.lst ((ls++[Ld.mk m1 x2 rs]).map Ld.d)),by simp,?_,ls++[Ld.mk m1 x2 rs],Gc d,rfl,uG (Ac j1),?_,?_,i4.snoc (l:=Ld.mk m1 x2 rs) ⟨show m1<t.k by lia,c2,d2,l3⟩ G0 G1 G2,by simp at i5 ⊢; lia⟩
    .have e3:atI [D.int t.p,.int t.k,.int t.b,shD t.ho,.int t.h,.int t.l] 1=Gc (.int t.k):=by simp
     simp[Tr.d,g1,g2,g3,AV i1,AV j1,hz,Ld.d]
    .obtain⟨ds',ed,hd⟩:=kk.pen
     exact⟨ds',by rw[uE (by lia)];exact ed,hd⟩
    .refine⟨uA (i3.trans kk.same).len (by simp),λm hm hmp=>?_⟩
     rw[uE (by lia)]
     exact(i3.trans kk.same).keep m hm hmp)
 refine⟨ls,S',?_,⟨f3,f2⟩,f4,by simpa using f5⟩
 simp[Il,Oi,e1,e2,en,rn,ef,As f1]
noncomputable def C3(x:Ld):Cl:=.lst [.int x.k,.int x.n,shD x.ow]
structure SAt(S:Sto)(s l m:Nat)(as:KE Nat)(st:Stt):Prop where
 root:S[s]?=Gc (.lst [.ref l,shD st.hold,.ref m])
 lo:S[l]?=Gc (.lst (as.map .ref))
 nu:S[m]?=Gc (.lst (st.nums.map .int))
 ld:∀(i a:Nat) (x:Ld),as[i]?=Gc a->st.AD[i]?=Gc x->S[a]?=Gc (C3 x)
 len:as.length=st.AD.length
 nd:(s::l::m::as).Nodup
theorem cE:∀{ls:KE Ld} {acc:KE D} {o:tY D} {S:Sto},acc.length+ls.length<=100->CU [] (tNm 0) Bx (gm (o1 Rz) [eV 0]) (ls.map Ld.d) acc [o] S=Gc (acc++(zD S.length ls.length).map D.ref,S++ls.map C3)
 | [],acc,o,S,h=>by rw[u4,GH AZ];simp
 |x::ls,acc,o,S,h=>by
  rw[t8,Jq (E1:=[Gc x.d]) AZ (t9 (show acc.length<101 by simp at h;lia) (AO (by decide))) (by simp) Hx]
  have:gm (o1 Rz) [eV 0] [Gc x.d] S=Gc (.ref S.length,S++[C3 x]):=by simp[Ld.d,C3]
  rw[this,Ap,cE (by simp at h ⊢; lia)]
  simp[List.range'_succ]
theorem getElem?_at{α:Type}{xs:KE α}{x:α}{n:Nat}(h:n=xs.length):(xs++[x])[n]?=Gc x:=by subst h;exact uL
theorem QS{t:Tr}{ls:KE Ld}{x:D}(hl:ls.length<=20):∃s l m as S',Dl [.tup [t.d,.tup (ls.map Ld.d),x]] S=Gc (.ref s,S')/\SAt S' s l m as ⟨ls,t.ho,[]⟩/\Bv [] S S'/\(∀n∈s::l::m::as,S.length<=n):=by
 have e:=cE (ls:=ls) (acc:=[]) (o:=none) (S:=S) (by simp;lia)
 refine⟨S.length+ls.length+2,S.length+ls.length,S.length+ls.length+1,zD S.length ls.length,S++ls.map C3++[.lst ((zD S.length ls.length).map D.ref)]++[.lst []]++[.lst [.ref (S.length+ls.length),shD t.ho,.ref (S.length+ls.length+1)]],?_,⟨?_,?_,?_,?_,?_,?_⟩,?_,?_⟩
 .simp[Dl,OI,Tr.d,e,shD]
  lia
 .exact getElem?_at (by simp;lia)
 .rw[tz (by simp),tz (by simp)]
  exact getElem?_at (by simp)
 .rw[tz (by simp;lia)]
  exact getElem?_at (by simp;lia)
 .intro i a y ha hy
  have hi:i<ls.length:=(uI.mp hy).1
  have:a=S.length+i:=by
   rw[List.getElem?_range' hi]at ha
   simp at ha;lia
  subst this
  rw[tz (by simp;lia),tz (by simp;lia),tz (by simp;lia),u3 (by lia)]
  have hy':ls[i]?=Gc y:=hy
  simp[hy']
 .simp
 .rw[wU,wU,wU]
  refine⟨?_,?_,?_,List.nodup_range'⟩
  .simp only[uF,x9];lia
  .simp only[uF,x9];lia
  .simp only[x9];lia
 .rw[xM,xM,xM]
  exact .app
 .intro n hn
  simp only[uF,x9]at hn
  lia
end
section
variable{S:Sto}{p:Nat}
@[simp] theorem sD{rs:List Rat}{S:Sto}:sqD S (shD rs)=some (rs.map aD,[]):=nr rfl
@[simp] theorem qv{rs:List Rat}{S:Sto}:dr S (shD rs)=.val (shD rs):=nr rfl
@[simp] theorem qI{rs:List Rat}:asS (.val (shD rs))=some (rs.map aD):=nr rfl
@[simp] theorem nY{S:Sto}{r:List D}:dr (S++[.lst r]) (.ref S.length)=.own r:=As List.getElem?_concat_length
@[simp] theorem gh{S:Sto}{r:List D}:GJ (S++[.lst r]) S.length=some r:=AV List.getElem?_concat_length
theorem set_same{S:Sto}{q:Nat}{c:Cl}(h:S[q]?=Gc c):S.set q c=S:=by
 apply yr
 intro i
 by_cases e:q=i
 .subst e;rw[uG (Ac h),h]
 .rw[uE e]
theorem Sx{gs:Gd}{t:Tf}{b:Ex}{C:En}{m q:Nat}{h:D->D}{I:Sto->Prop}(hg:∀S,I S->gOk gs S)(hI:∀S c,I S->I (S.set q c)):∀{ds acc:KE D} {os:En} {S:Sto},os.length=m->I S->S[q]?=Gc (.lst acc)->acc.length+ds.length<=1000->(∀d∈ds,∀os S acc,os.length=m->I S->S[q]?=Gc (.lst acc)->acc.length<sizeLine->∃us us',t d (C++os) S=Gc (C++us)/\b (C++us) S=Gc (.nx,C++us',S.set q (.lst (acc++[h d])))/\us'.length=m)->∃os',os'.length=m/\Jx gs t b ds (C++os) S=Gc (.nx,C++os',S.set q (.lst (acc++ds.map h)))
 | [],acc,os,S,ho,hS,hq,hz,H=>⟨os,ho,by
     rw[Dz (hg S hS)]
     have:S.set q (.lst (acc++List.map h []))=S:=by
      rw[u4,zG]
      exact set_same hq
     rw[this]⟩
 |d::ds,acc,os,S,ho,hS,hq,hz,H=>by
  have hl:=Ac hq
  obtain⟨us,us',e1,e2,hu⟩:=H d uD os S acc ho hS hq (t9 (show acc.length<1001 by simp at hz;lia) (uA (by decide) (show 1001<=sizeLine by decide)))
  obtain⟨os',ho',e3⟩:=Sx hg hI (ds:=ds) (acc:=acc++[h d]) (os:=us') (S:=S.set q (.lst (acc++[h d]))) hu (hI S _ hS) (uG hl) (by simp at hz ⊢; lia) λd' hd=>H d' (tf _ hd)
  refine⟨os',ho',?_⟩
  rw[B7 (hg S hS),e1,Ap,e2,Ap,Fe,e3,List.set_set]
  simp
noncomputable def un:D->Rat
 | .tup [.int n,.int d]=>(n:Rat) / (d:Rat)
 |_=>0
theorem fB(r:Rat):un (aD r)=r:=Et r
noncomputable def TQ(f:Rat->Rat->Rat):D->D
 | .tup [a,b]=>aD (f (un a) (un b))
 |d=>d
theorem QE{f:Rat->Rat->Rat}:∀{ss os:KE Rat},(Pm (ss.map aD) (os.map aD)).map (TQ f)=(yq f ss os).map aD
 | [],os=>by simp[Pm]
 |s::ss,[]=>by simp[Pm]
 |s::ss,o::os=>by
  have ih:=QE (f:=f) (ss:=ss) (os:=os)
  unfold Pm at ih⊢
  simp only[t8,List.zip_cons_cons,AAf]at ih⊢
  rw[ih]
  simp[TQ,fB]
theorem V7{ss os:KE Rat}{d:D}(h:d∈Pm (ss.map aD) (os.map aD)):∃s∈ss,∃o∈os,d=.tup [aD s,aD o]:=by
 unfold Pm at h
 obtain⟨⟨a,b⟩,h1,rfl⟩:=um.mp h
 have h2:=xq h1
 obtain⟨s,hs,rfl⟩:=um.mp h2.1
 obtain⟨o,ho,rfl⟩:=um.mp h2.2
 exact⟨s,hs,o,ho,rfl⟩
theorem bq:aD 1=.tup [.int 1,.int 1]:=rfl
theorem NR(n:Int):aD (n:Rat)=.tup [.int n,.int 1]:=by
 unfold aD
 simp
theorem Um{n:Int}{k:Nat}(h:n.natAbs<2^k)(hk:1<=k):Sz k (n:Rat):=by
 unfold Sz
 have:1<2^k:=ze (by lia)
 simp[h,this]
theorem dJ{k:Nat}(hk:1<=k):Sz k (1:Rat):=by
 have:1<2^k:=ze (by lia)
 exact⟨by simpa using this,by simpa using this⟩
theorem T9{x:Rat}{ss os:KE Rat}{j i:Nat}(hs:∀r∈ss,Sz j r)(ho:∀r∈os,Sz j r)(hx:Sz i x)(hj:2*j+2*i<=7900)(hl:ss.length<=10):∃S',FW [shD ss,aD x,shD os] S=Gc (shD (Hv x os ss),S')/\Bv [] S S':=by
 have hq:(S++[Cl.lst []])[S.length]?=Gc (.lst []):=uL
 obtain⟨os',ho',e⟩:=Sx (gs:=[]) (t:=tTp [tNm 4,tNm 5]) (b:=CP (KD KJ (eV 3) [AK Bt [AK Aa [eV 4,AK Em [CS [eC (.int 1),eC (.int 1)],eV 1]],AK Aa [eV 5,eV 1]]])) (C:=[Gc (shD ss),Gc (aD x),Gc (shD os),Gc (.ref S.length)]) (m:=2) (q:=S.length) (h:=TQ λs o=>s*(1-x)+o*x) (I:=λ_=>True) (λ_ _=>AZ) (λ_ _ _=>trivial)
  (ds:=Pm (ss.map aD) (os.map aD)) (acc:=[]) (os:=[none,none]) (S:=S++[Cl.lst []]) rfl trivial hq (by simp[NO];lia) (by
    intro d hd os0 S0 acc h0 _ hq0 hz
    obtain⟨o1,o2,rfl⟩:=YF h0
    obtain⟨s,hs',o,ho',rfl⟩:=V7 hd
    have l1:=cS (S:=S0) (dJ (k:=1) (by decide)) hx (by lia)
    have s1:=(jE (dJ (k:=1) (by decide)) hx)
    have l2:=G5 (S:=S0) (hs s hs') s1 (by lia)
    have l3:=G5 (S:=S0) (ho o ho') hx (by lia)
    have l4:=Pw (S:=S0) (MR (hs s hs') s1) (MR (ho o ho') hx) (by lia)
    rw[bq]at l1
    refine⟨[Gc (aD s),Gc (aD o)],[Gc (aD s),Gc (aD o)],by simp,?_,rfl⟩
    simp[l1,l2,l3,l4,AV hq0,hz,TQ,fB])
 rw[QE]at e
 refine⟨(S++[Cl.lst []]).set S.length (.lst ((Hv x os ss).map aD)),?_,?_⟩
 .have e':Jx [] (tTp [tNm 4,tNm 5]) (CP (KD KJ (eV 3) [AK Bt [AK Aa [eV 4,AK Em [CS [eC (.int 1),eC (.int 1)],eV 1]],AK Aa [eV 5,eV 1]]])) (Pm (ss.map aD) (os.map aD)) [Gc (shD ss),Gc (aD x),Gc (shD os),Gc (.ref S.length),none,none] (S++[Cl.lst []])=Gc (.nx,[Gc (shD ss),Gc (aD x),Gc (shD os),Gc (.ref S.length)]++os',(S++[Cl.lst []]).set S.length (.lst ((Hv x os ss).map aD))):=by simpa[Hv]using e
  simp[FW,Nx,e']
  rfl
 .refine⟨by simp,λn hn _=>?_⟩
  rw[uE (by lia),tz hn]
end
section
variable{S:Sto}{p:Nat}
theorem getD_get{α:Type}{xs:KE α}{n:Nat}{d:α}(h:n<xs.length):xs[n]?=Gc (xs.getD n d):=by
 rw[tu,t7 h]
 rfl
theorem getD_mem{α:Type}{xs:KE α}{n:Nat}{d:α}(h:n<xs.length):xs.getD n d∈xs:=uS (getD_get h)
theorem UW{ss:KE Rat}{n:Nat}(h:n<ss.length):atI (ss.map aD) (n:Int)=Gc (aD (ss.getD n 0)):=DF (by rw[uN,getD_get h];rfl)
theorem cu{ss:KE Rat}{n:Nat}(h:n<ss.length):ixN (ss.map aD).length (n:Int)=Gc n:=Nu (by simpa using h)
theorem Wl{p q:Nat}{x:Rat}{ss:KE Rat}{j i:Nat}(hs:∀r∈ss,Sz j r)(hx:Sz i x)(hj:2*j+i<=7900)(hp:p<ss.length)(hq:q<ss.length)(hpq:p≠q):∃S',Gf [shD ss,(AR.JE p q x).d] S=Gc (shD (HF p q x ss),S')/\Bv [] S S':=by
 have sp:=hs _ (getD_mem (d:=0) hp)
 have sq:=hs _ (getD_mem (d:=0) hq)
 have l1:∀S,Aa [aD (ss.getD p 0),aD x] S=Gc (aD (ss.getD p 0*x),S):=λS=>G5 sp hx (by lia)
 have s1:=MR sp hx
 have l2:∀S,Em [aD (ss.getD p 0),aD (ss.getD p 0*x)] S=Gc (aD (ss.getD p 0-ss.getD p 0*x),S):=λS=>cS sp s1 (by lia)
 have l3:∀S,Bt [aD (ss.getD q 0),aD (ss.getD p 0*x)] S=Gc (aD (ss.getD q 0+ss.getD p 0*x),S):=λS=>Pw sq s1 (by lia)
 have a1:=UW hp
 have i1:=cu hp
 have i2:ixN (((ss.map aD).set p (aD (ss.getD p 0-ss.getD p 0*x))).length) (q:Int)=Gc q:=Nu (by simpa using hq)
 have a2:atI ((ss.map aD).set p (aD (ss.getD p 0-ss.getD p 0*x))) (q:Int)=Gc (aD (ss.getD q 0)):=DF (by
  rw[uE hpq,uN,getD_get hq];rfl)
 refine⟨S++[.lst ((HF p q x ss).map aD)],?_,.app⟩
 simp only[wC,uX]at i1 i2
 have em:(HF p q x ss).map aD=((ss.map aD).set p (aD (ss.getD p 0-ss.getD p 0*x))).set q (aD (ss.getD q 0+ss.getD p 0*x)):=by rw[HF,wd,wd]
 unfold shD
 rw[em]
 generalize aD (ss.getD p 0-ss.getD p 0*x)=d1 at*
 generalize aD (ss.getD q 0+ss.getD p 0*x)=d2 at*
 generalize aD (ss.getD p 0*x)=d3 at*
 generalize aD (ss.getD p 0)=d4 at*
 generalize aD (ss.getD q 0)=d5 at*
 simp[Gf,Pz,AR.d,a1,l1,l2,l3,i1,i2,a2]
theorem W5{x y:Ld}{a b:Nat}{j i:Nat}(ha:S[a]?=Gc (C3 x))(hb:S[b]?=Gc (C3 y))(hs:∀r∈x.ow,Sz j r)(ho:∀r∈y.ow,Sz j r)(hx:x.n.natAbs<2^i)(hy:y.n.natAbs<2^i)(h0:0<x.n+y.n)(h1:1<=i)(hj:2*j+4*i<=7900)(hl:x.ow.length<=10):∃S',HV [.ref a,.ref b] S=Gc (shD (Ax x.n y.n x.ow y.ow),S')/\Bv [] S S':=by
 have la:=Ac ha
 have lb:=Ac hb
 have hq:(S++[Cl.lst []])[S.length]?=Gc (.lst []):=uL
 have ha':(S++[Cl.lst []])[a]?=Gc (C3 x):=by rw[tz la];exact ha
 have hb':(S++[Cl.lst []])[b]?=Gc (C3 y):=by rw[tz lb];exact hb
 obtain⟨os',ho',e⟩:=Sx (gs:=[]) (t:=tTp [tNm 3,tNm 4]) (b:=Ad (Bm 5 (AK Bt [AK Aa [CS [eOp (o2 wIx) [eV 0,eC (.int 1)],eC (.int 1)],eV 3],AK Aa [CS [eOp (o2 wIx) [eV 1,eC (.int 1)],eC (.int 1)],eV 4]]))
  (CP (KD KJ (eV 2) [AK Aa [eV 5,AK Bp [eC (.int 1),eOp (o2 Ek) [eOp (o2 wIx) [eV 0,eC (.int 1)],eOp (o2 wIx) [eV 1,eC (.int 1)]]]]]))) (C:=[Gc (.ref a),Gc (.ref b),Gc (.ref S.length)]) (m:=3) (q:=S.length) (h:=TQ λs o=>(s*x.n+o*y.n) / (x.n+y.n:Int)) (I:=λS'=>S'[a]?=Gc (C3 x)/\S'[b]?=Gc (C3 y)) (λ_ _=>AZ) (λS' c h=>⟨by rw[uE (by lia)];exact h.1,by rw[uE (by lia)];exact h.2⟩)
  (ds:=Pm (x.ow.map aD) (y.ow.map aD)) (acc:=[]) (os:=[none,none,none]) (S:=S++[Cl.lst []]) rfl ⟨ha',hb'⟩ hq (by simp[NO];lia) (by
    intro d hd os0 S0 acc h0' hI hq0 hz
    obtain⟨o1,o2,o3,rfl⟩:=oD h0'
    obtain⟨s,hs',o,ho',rfl⟩:=V7 hd
    have d1:=As hI.1
    have d2:=As hI.2
    have z1:=Um hx h1
    have z2:=Um hy h1
    have l1:=G5 (S:=S0) z1 (hs s hs') (by lia)
    have l2:=G5 (S:=S0) z2 (ho o ho') (by lia)
    have s1:=MR z1 (hs s hs')
    have s2:=MR z2 (ho o ho')
    have l3:=Pw (S:=S0) s1 s2 (by lia)
    have b1:=Hk hx hy
    have l4:=WE (S:=S0) (t:=1) h0 (DP b1 (by lia))
    have s4:Sz (i+1) (((1:Int):Rat) / ((x.n+y.n:Int):Rat)):=N5 h0 (show(1:Int).natAbs<2^(i+1)from ze (by lia)) b1
    have l5:=G5 (S:=S0) (cc s1 s2) s4 (by lia)
    rw[NR]at l1 l2
    refine⟨[Gc (aD s),Gc (aD o),o3],[Gc (aD s),Gc (aD o),Gc (aD (x.n*s+y.n*o))],by simp,?_,rfl⟩
    have ev:(((x.n:Rat)*s+(y.n:Rat)*o)*(((1:Int):Rat) / ((x.n+y.n:Int):Rat)))=(s*x.n+o*y.n) / (x.n+y.n:Int):=by
     push_cast
     grind
    rw[ev]at l5
    have lf:(TQ λs o=>(s*x.n+o*y.n) / (x.n+y.n:Int)) (.tup [aD s,aD o])=aD ((s*x.n+o*y.n) / (x.n+y.n:Int)):=by simp only[TQ,fB]
    rw[lf]
    generalize aD ((s*x.n+o*y.n) / (x.n+y.n:Int))=e5 at*
    generalize aD (((1:Int):Rat) / ((x.n+y.n:Int):Rat))=e4 at*
    generalize aD (x.n*s+y.n*o)=e3 at*
    simp[d1,d2,C3,l1,l2,l3,l4,l5,AV hq0,hz])
 rw[QE]at e
 refine⟨(S++[Cl.lst []]).set S.length (.lst ((Ax x.n y.n x.ow y.ow).map aD)),?_,?_⟩
 .have e':=e
  simp only[uj,uV]at e'
  have d1:=As ha'
  have d2:=As hb'
  change Jx _ _ _ _ _ _=Gc (_,_,List.set _ _ (Cl.lst (List.map aD (Ax x.n y.n x.ow y.ow))))at e'
  generalize Ax x.n y.n x.ow y.ow=rs at*
  simp[HV,MY,d1,d2,e',shD]
 .refine⟨by simp,λn hn _=>?_⟩
  rw[uE (by lia),tz hn]
end
section
variable{S:Sto}{p:Nat}
theorem Cm{α:Type}{gs:Gd}{t:Tf}{f:Ev}{C:En}{m:Nat}{e g:α->D}{S:Sto}(hg:gOk gs S):∀{xs:KE α} {acc:KE D} {os:En},os.length=m->acc.length+xs.length<=sizeLine->(∀x∈xs,∀os,os.length=m->∃us,us.length=m/\t (e x) (C++os) S=Gc (C++us)/\f (C++us) S=Gc (g x,S))->CU gs t Bx f (xs.map e) acc (C++os) S=Gc (acc++xs.map g,S)
 | [],acc,os,ho,hz,h=>by rw[u4,GH hg];simp
 |x::xs,acc,os,ho,hz,h=>by
  obtain⟨us,hu,e1,e2⟩:=h x uD os ho
  rw[t8,Jq hg (by simp at hz;lia) e1 Hx,e2,Ap]
  rw[Cm hg hu (by simp at hz ⊢; lia) λx' hx=>h x' (tf _ hx)]
  simp
theorem DJ{α:Type}{gs:Gd}{t:Tf}{c f:Ev}{C:En}{m:Nat}{e g:α->D}{b:α->uv}{S:Sto}(hg:gOk gs S):∀{xs:KE α} {acc:KE D} {os:En},os.length=m->acc.length+xs.length<=sizeLine->(∀x∈xs,∀os,os.length=m->∃us,us.length=m/\t (e x) (C++os) S=Gc (C++us)/\c (C++us) S=Gc (.bl (b x),S)/\f (C++us) S=Gc (g x,S))->CU gs t c f (xs.map e) acc (C++os) S=Gc (acc++(xs.filter b).map g,S)
 | [],acc,os,ho,hz,h=>by rw[u4,GH hg];simp
 |x::xs,acc,os,ho,hz,h=>by
  obtain⟨us,hu,e1,e2,e3⟩:=h x uD os ho
  cases hb:b x with
  |true=>
   rw[hb]at e2
   rw[t8,Jq hg (by simp at hz;lia) e1 e2,e3,Ap,DJ hg hu (by simp at hz ⊢; lia) λd' hd=>h d' (tf _ hd)]
   simp[hb]
  |false=>
   rw[hb]at e2
   rw[t8,Ko hg (by simp at hz;lia) e1 e2,DJ hg hu (by simp at hz ⊢; lia) λd' hd=>h d' (tf _ hd)]
   simp[hb]
theorem Ux{as:KE Nat}{ls:KE Ld}(h:as.length=ls.length):as.map D.ref=(as.zip ls).map λz=>D.ref z.1:=by
 have:as=(as.zip ls).map Prod.fst:=(List.map_fst_zip (by lia)).symm
 conv=>lhs;rw[this]
 rw[uc];rfl
theorem YG{β:Type}{as:KE Nat}{ls:KE Ld}(h:as.length=ls.length)(g:Ld->β):ls.map g=(as.zip ls).map λz=>g z.2:=by
 have:ls=(as.zip ls).map Prod.snd:=(List.map_snd_zip (by lia)).symm
 conv=>lhs;rw[this]
 rw[uc];rfl
section
variable{s l m:Nat}{as:KE Nat}{st:Stt}
theorem SAt.pf(h:SAt S s l m as st){z:Nat×Ld}(hz:z∈as.zip st.AD):S[z.1]?=Gc (C3 z.2):=by
 obtain⟨i,hi⟩:=xw.mp hz
 have:=zg.mp hi
 exact h.ld i z.1 z.2 this.1 this.2
theorem SAt.at(h:SAt S s l m as st){i:Nat}(hi:i<st.AD.length):∃a,as[i]?=Gc a/\S[a]?=Gc (C3 (AM st.AD i))/\atI (as.map D.ref) (i:Int)=Gc (.ref a):=by
 have h1:i<as.length:=by rw[h.len];exact hi
 refine⟨as[i],t7 h1,h.ld i _ _ (t7 h1) (DA hi),DF (by rw[uN,t7 h1];rfl)⟩
theorem SAt.guard(h:SAt S s l m as st):gOk [(l,as.map D.ref)] S:=by
 intro g hg
 simp only[uF,uY,vg]at hg
 subst hg
 exact AV h.lo
end
theorem Xd{M:Int}(hM:0<=M):∀{xs:KE Int},(∀x∈xs,0<=x/\x<=M)->0<=xs.sum/\xs.sum<=xs.length*M
 | [],_=>by simp
 |x::xs,h=>by
  have h1:=h x uD
  have h2:=Xd hM λy hy=>h y (tf _ hy)
  simp only[ub,uq]
  refine⟨by lia,?_⟩
  have:((xs.length+1:Nat):Int)*M=xs.length*M+M:=by push_cast;grind
  lia
theorem PR:∀{xs:KE Int} {y:Int},(∀x∈xs,0<=x)->y∈xs->y<=xs.sum
 |x::xs,y,h,hy=>by
  have h1:=h x uD
  have h2:0<=xs.sum:=by
   clear hy
   induction xs with
   |nil=>simp
   |cons z zs ih=>
    have:=h z (by simp)
    have:=ih λw hw=>h w (by simp at hw ⊢; rcases hw with hw|hw<;>simp[hw])
    simp only[ub];lia
  simp only[ub]
  rcases uF.mp hy with e|e
  .lia
  .have:=PR (λz hz=>h z (tf _ hz)) e
   lia
section
variable{t:Tr}{k:Nat}{st:Stt}{ws:KE Int}{n:Int}{l:Nat}
theorem OZ{i:Nat}(hw:∀w∈ws,1<=w/\w<=99)(hi:i<ws.length):1<=ws.getD i 0/\ws.getD i 0<=99:=hw _ (getD_mem hi)
theorem UE{i:Nat}(hi:i<ws.length):atI (ws.map D.int) (i:Int)=Gc (.int (ws.getD i 0)):=DF (by rw[uN,getD_get hi];rfl)
theorem Q6(hi:ws.length=k+1):atI (ws.map D.int) (-1:Int)=Gc (.int (ws.getD k 0)):=by
 have ix:ixN (ws.map D.int).length (-1)=Gc k:=by
  rw[uX,hi]
  unfold ixN
  simp
  lia
 unfold atI
 rw[ix]
 show(ws.map D.int)[k]?=_
 rw[uN,getD_get (d:=(0:Int)) (by lia)]
 rfl
theorem LO(ht:JO t)(h:ED t k st)(hk:k<=20)(hl:ws.length=t.k+1)(hw:∀w∈ws,1<=w/\w<=99):0<FQ t st.AD ws/\FQ t st.AD ws<2^(145+k):=by
 obtain⟨t1,t2,t3,t4,t5,t6⟩:=ht
 have hP:(0:Int)<=2^(131+k):=Int.le_of_lt (Int.pow_pos (by decide))
 have hs:=Xd (M:=2^(131+k)*99) (by lia) (xs:=st.AD.map λl=>l.n*ws.getD l.k 0) (by
  intro x hx
  obtain⟨y,hy,rfl⟩:=um.mp hx
  have h1:=h.pcs y hy
  have h2:=OZ hw (i:=y.k) (by have:=h.kind y hy;lia)
  refine⟨Int.mul_nonneg h1.1 (by lia),Int.mul_le_mul (by lia) h2.2 (by lia) hP⟩)
 have hb:=OZ hw (i:=t.k) (by lia)
 have hlen:=h.len
 rw[uX]at hs
 have h3:(st.AD.length:Int)*(2^(131+k)*99)<=24*(2^(131+k)*99):=y7 (by lia) (by lia)
 have h4:(1:Int)<=t.b*ws.getD t.k 0:=by
  have:0<(t.b:Int)*ws.getD t.k 0:=vY (by lia) (by lia)
  lia
 have h5:t.b*ws.getD t.k 0<=20*99:=Int.mul_le_mul (by lia) hb.2 (by lia) (by decide)
 have h6:(2:Int)^(145+k)=2^(131+k)*16384:=by rw[show 145+k=(131+k)+14 by lia,Int.pow_add];rfl
 have h7:(1:Int)<=2^(131+k):=by have:(0:Int)<2^(131+k):=Int.pow_pos (by decide);lia
 have h7':(2:Int)^11<=2^(131+k):=by
  have:(2^11:Nat)<=2^(131+k):=ux (by decide) (by lia)
  exact_mod_cast this
 unfold FQ
 rw[h6]
 generalize (2:Int)^(131+k)=P at*
 lia
theorem W7(ht:JO t)(h:ED t k st)(hl:ws.length=t.k+1)(hw:∀w∈ws,1<=w/\w<=99)(hi:l<st.AD.length)(h1:1<=n)(h2:n<=(AM st.AD l).n):0<n*ws.getD (AM st.AD l).k 0/\n*ws.getD (AM st.AD l).k 0<FQ t st.AD ws:=by
 obtain⟨t1,t2,t3,t4,t5,t6⟩:=ht
 have hw1:=OZ hw (i:=(AM st.AD l).k) (by have:=h.kind _ (AU hi);lia)
 have hb:=OZ hw (i:=t.k) (by lia)
 have h4:(1:Int)<=t.b*ws.getD t.k 0:=by
  have:0<(t.b:Int)*ws.getD t.k 0:=vY (by lia) (by lia)
  lia
 have h5:=PR (xs:=st.AD.map λl=>l.n*ws.getD l.k 0) (y:=(AM st.AD l).n*ws.getD (AM st.AD l).k 0) (by
  intro x hx
  obtain⟨y,hy,rfl⟩:=um.mp hx
  have h1:=h.pcs y hy
  have h2:=OZ hw (i:=y.k) (by have:=h.kind y hy;lia)
  exact Int.mul_nonneg h1.1 (by lia)) (um.mpr ⟨_,AU hi,rfl⟩)
 have h6:n*ws.getD (AM st.AD l).k 0<=(AM st.AD l).n*ws.getD (AM st.AD l).k 0:=y7 h2 (by lia)
 refine⟨vY (by lia) (by lia),?_⟩
 unfold FQ
 lia
theorem ND(hi:l<st.AD.length):Ki t st.AD l n ws=((n*ws.getD (AM st.AD l).k 0:Int):Rat) / (FQ t st.AD ws:Rat):=by
 unfold Ki
 rw[DA hi]
 rfl
theorem EV{x:Int}{j:Nat}(h0:0<=x)(h1:x<2^j):x.natAbs<2^j:=by
 have:((x.natAbs:Nat):Int)<((2^j:Nat):Int):=by
  rw[Int.natAbs_of_nonneg h0];push_cast;exact h1
 exact_mod_cast this
theorem Wx(ht:JO t)(h:ED t k st)(hk:k<=20)(hl:ws.length=t.k+1)(hw:∀w∈ws,1<=w/\w<=99)(hi:l<st.AD.length)(h1:1<=n)(h2:n<=(AM st.AD l).n):Sz (145+k) (Ki t st.AD l n ws):=by
 have a:=LO ht h hk hl hw
 have b:=W7 ht h hl hw hi h1 h2
 rw[ND hi]
 exact N5 a.1 (EV (by lia) (by lia)) (EV (by lia) a.2)
theorem gR{s r m:Nat}{as:KE Nat}(hS:SAt S s r m as st)(ht:JO t)(h:ED t k st)(hk:k<=20)(hl:ws.length=t.k+1)(hw:∀w∈ws,1<=w/\w<=99)(hi:l<st.AD.length)(h1:1<=n)(h2:n<=(AM st.AD l).n):J3 [t.d,.ref r,(AR.thr l n ws).d] S=Gc (aD (Ki t st.AD l n ws),S):=by
 have a:=LO ht h hk hl hw
 obtain⟨x,x1,x2,x3⟩:=hS.at hi
 have hlen:=h.len
 have e:=Cm (gs:=[(r,as.map D.ref)]) (t:=tTp [tNm 1,tNm 2,tNm 3]) (f:=eOp (o2 C7) [eV 2,eOp (o2 wIx) [eV 0,eV 1]]) (C:=[Gc (.tup (ws.map D.int))]) (m:=3) (e:=λz:Nat×Ld=>D.ref z.1) (g:=λz=>D.int (z.2.n*ws.getD z.2.k 0)) hS.guard (xs:=as.zip st.AD) (acc:=[]) (os:=[none,none,none]) rfl (uA (show _<=24 by simp;lia) (AO (by decide))) (by
  intro z hz os ho
  obtain⟨q1,q2,q3,rfl⟩:=oD ho
  have c1:=hS.pf hz
  have hm:z.2∈st.AD:=(xq (a:=z.1) (b:=z.2) hz).2
  have hk:=h.kind _ hm
  have w1:=UE (ws:=ws) (i:=z.2.k) (by lia)
  have w2:=OZ hw (i:=z.2.k) (by lia)
  have m1:Ep z.2.n (ws.getD z.2.k 0)=true:=mulR (by lia) (by lia)
  generalize ws.getD z.2.k 0=wz at*
  refine⟨[Gc (.int z.2.k),Gc (.int z.2.n),Gc (shD z.2.ow)],rfl,?_,?_⟩
  .simp[AV c1,C3]
  .simp[w1,m1])
 rw[<-Ux hS.len,<-YG hS.len (λx=>D.int (x.n*ws.getD x.k 0))]at e
 have e':=e
 simp only[uj,uV]at e'
 rw[ND hi]
 have es:LQ (st.AD.map λx=>D.int (x.n*ws.getD x.k 0))=Gc (st.AD.map λx=>x.n*ws.getD x.k 0):=by
  have:=GB (st.AD.map λx=>x.n*ws.getD x.k 0)
  rwa [uc]at this
 have w1:=UE (ws:=ws) (i:=(AM st.AD l).k) (by have:=h.kind _ (AU hi);lia)
 have w3:=OZ hw (i:=(AM st.AD l).k) (by have:=h.kind _ (AU hi);lia)
 have w2:=Q6 hl
 have w4:=OZ hw (i:=t.k) (by lia)
 have m1:Ep n (ws.getD (AM st.AD l).k 0)=true:=mulR (by lia) (by lia)
 have m2:Ep (t.b:Int) (ws.getD t.k 0)=true:=mulR (by lia) (by lia)
 have l1:=WE (S:=S) (t:=n*ws.getD (AM st.AD l).k 0) a.1 (DP (EV (by lia) a.2) (by lia))
 have e2:FQ t st.AD ws=(st.AD.map λx=>x.n*ws.getD x.k 0).sum+t.b*ws.getD t.k 0:=rfl
 rw[e2]at l1⊢
 generalize aD (((n*ws.getD (AM st.AD l).k 0:Int):Rat) / (((st.AD.map λx=>x.n*ws.getD x.k 0).sum+t.b*ws.getD t.k 0:Int):Rat))=R at*
 generalize (st.AD.map λx=>x.n*ws.getD x.k 0)=es' at*
 generalize (st.AD.map λx=>D.int (x.n*ws.getD x.k 0))=es2 at*
 generalize ws.getD (AM st.AD l).k 0=wa at*
 generalize ws.getD t.k 0=wb at*
 have dx:=As x2
 have dl:=As hS.lo
 simp[J3,Pa,AR.d,Tr.d,G4 hS.lo,e',es,w2,m2,dl,x3,dx,C3,w1,m1,l1]
theorem Xh{G B:Nat}(ht:JO t)(h:ED t k st)(hk:k<=20)(hl:ws.length=t.k+1)(hw:∀w∈ws,1<=w/\w<=99)(hi:l<st.AD.length)(h1:1<=n)(h2:n<=(AM st.AD l).n){os ss:KE Rat}(ho:∀r∈os,Ok G B r)(hs:∀r∈ss,Ok G B r):∀r∈Hv (Ki t st.AD l n ws) os ss,Ok (G*(FQ t st.AD ws).toNat) (B*(FQ t st.AD ws).toNat) r:=by
 have a:=LO ht h hk hl hw
 have b:=W7 ht h hl hw hi h1 h2
 intro r hr
 unfold Hv at hr
 rw[xw]at hr
 obtain⟨i,hi'⟩:=hr
 rw[zE]at hi'
 obtain⟨x,y,hx,hy,rfl⟩:=hi'
 rw[ND hi]
 generalize n*ws.getD (AM st.AD l).k 0=c at*
 generalize FQ t st.AD ws=W at*
 have:=Ok.mix (a:=(W-c).toNat) (b:=c.toNat) (t:=W.toNat) (hs x (uS hx)) (ho y (uS hy)) (by lia) (by lia)
 have e1:(((W-c).toNat:Nat):Rat)=(W:Rat)-(c:Rat):=by
  have:(((W-c).toNat:Nat):Int)=W-c:=vF (by lia)
  have:((((W-c).toNat:Nat):Int):Rat)=((W-c:Int):Rat):=by rw[this]
  push_cast at this
  exact this
 have e2:((c.toNat:Nat):Rat)=(c:Rat):=by
  have:((c.toNat:Nat):Int)=c:=vF (by lia)
  have:(((c.toNat:Nat):Int):Rat)=(c:Rat):=by rw[this]
  exact this
 have e3:((W.toNat:Nat):Rat)=(W:Rat):=by
  have:((W.toNat:Nat):Int)=W:=vF (by lia)
  have:(((W.toNat:Nat):Int):Rat)=(W:Rat):=by rw[this]
  exact this
 rw[e1,e2,e3]at this
 have ne:(W:Rat)≠0:=by
  intro z
  have:=wO.mp z
  lia
 have ev:(x*((W:Rat)-(c:Rat))+y*(c:Rat)) / (W:Rat)=x*(1-(c:Rat) / (W:Rat))+y*((c:Rat) / (W:Rat)):=by grind
 rw[ev]at this
 exact this
end
end
section
variable{S:Sto}
theorem Au{x y:Str}(h:vz x=true)(g:vz y=true):Eo (.str x) (.str y)=true:=by
 unfold Eo
 show(vz x && vz y && _)=true
 rw[h,g]
 rfl
theorem D0:vz (vQ "bring")=true:=by decide+kernel
theorem GO:vz (vQ "pool")=true:=by decide+kernel
theorem GN:vz (vQ "swap")=true:=by decide+kernel
theorem D6:vz (vQ "trade")=true:=by decide+kernel
theorem Fm:vz (vQ "spoil")=true:=by decide+kernel
theorem D8:vz (vQ "throw")=true:=by decide+kernel
theorem FX:vz (vQ "sell")=true:=by decide+kernel
@[simp] theorem Y7:Eo (.str (Str.ofString "bring")) (.str (Str.ofString "bring"))=true:=Au D0 D0
@[simp] theorem Yv:deq (.str (Str.ofString "bring")) (.str (Str.ofString "bring"))=true:=nr rfl
@[simp] theorem Zn:Eo (.str (Str.ofString "bring")) (.str (Str.ofString "pool"))=true:=Au D0 GO
@[simp] theorem Zi:deq (.str (Str.ofString "bring")) (.str (Str.ofString "pool"))=false:=nr rfl
@[simp] theorem aq:Eo (.str (Str.ofString "bring")) (.str (Str.ofString "swap"))=true:=Au D0 GN
@[simp] theorem Zy:deq (.str (Str.ofString "bring")) (.str (Str.ofString "swap"))=false:=nr rfl
@[simp] theorem Yj:Eo (.str (Str.ofString "bring")) (.str (Str.ofString "trade"))=true:=Au D0 D6
@[simp] theorem Yg:deq (.str (Str.ofString "bring")) (.str (Str.ofString "trade"))=false:=nr rfl
@[simp] theorem Y6:Eo (.str (Str.ofString "bring")) (.str (Str.ofString "throw"))=true:=Au D0 D8
@[simp] theorem Yn:deq (.str (Str.ofString "bring")) (.str (Str.ofString "throw"))=false:=nr rfl
@[simp] theorem Zc:Eo (.str (Str.ofString "bring")) (.str (Str.ofString "sell"))=true:=Au D0 FX
@[simp] theorem aB:deq (.str (Str.ofString "bring")) (.str (Str.ofString "sell"))=false:=nr rfl
@[simp] theorem bc:wIn false (.val (.str "bring")) (.val (.tup [.str "swap",.str "trade"]))=some (.val (.bl false)):=nr rfl
@[simp] theorem ak:wIn false (.val (.str "bring")) (.val (.tup [.str "spoil",.str "throw"]))=some (.val (.bl false)):=nr rfl
@[simp] theorem mG:wIn false (.val (.str "bring")) (.val Bl)=some (.val (.bl true)):=nr rfl
@[simp] theorem bD:Eo (.str (Str.ofString "pool")) (.str (Str.ofString "bring"))=true:=Au GO D0
@[simp] theorem aW:deq (.str (Str.ofString "pool")) (.str (Str.ofString "bring"))=false:=nr rfl
@[simp] theorem cy:Eo (.str (Str.ofString "pool")) (.str (Str.ofString "pool"))=true:=Au GO GO
@[simp] theorem cW:deq (.str (Str.ofString "pool")) (.str (Str.ofString "pool"))=true:=nr rfl
@[simp] theorem ay:Eo (.str (Str.ofString "pool")) (.str (Str.ofString "trade"))=true:=Au GO D6
@[simp] theorem ZZ:deq (.str (Str.ofString "pool")) (.str (Str.ofString "trade"))=false:=nr rfl
@[simp] theorem bB:Eo (.str (Str.ofString "pool")) (.str (Str.ofString "throw"))=true:=Au GO D8
@[simp] theorem ZE:deq (.str (Str.ofString "pool")) (.str (Str.ofString "throw"))=false:=nr rfl
@[simp] theorem cZ:Eo (.str (Str.ofString "pool")) (.str (Str.ofString "sell"))=true:=Au GO FX
@[simp] theorem cG:deq (.str (Str.ofString "pool")) (.str (Str.ofString "sell"))=false:=nr rfl
@[simp] theorem qW:wIn false (.val (.str "pool")) (.val Bl)=some (.val (.bl true)):=nr rfl
@[simp] theorem ZQ:Eo (.str (Str.ofString "swap")) (.str (Str.ofString "bring"))=true:=Au GN D0
@[simp] theorem aY:deq (.str (Str.ofString "swap")) (.str (Str.ofString "bring"))=false:=nr rfl
@[simp] theorem cC:Eo (.str (Str.ofString "swap")) (.str (Str.ofString "pool"))=true:=Au GN GO
@[simp] theorem cL:deq (.str (Str.ofString "swap")) (.str (Str.ofString "pool"))=false:=nr rfl
@[simp] theorem dM:Eo (.str (Str.ofString "swap")) (.str (Str.ofString "swap"))=true:=Au GN GN
@[simp] theorem cK:deq (.str (Str.ofString "swap")) (.str (Str.ofString "swap"))=true:=nr rfl
@[simp] theorem aX:Eo (.str (Str.ofString "swap")) (.str (Str.ofString "trade"))=true:=Au GN D6
@[simp] theorem ZS:deq (.str (Str.ofString "swap")) (.str (Str.ofString "trade"))=false:=nr rfl
@[simp] theorem ZO:Eo (.str (Str.ofString "swap")) (.str (Str.ofString "throw"))=true:=Au GN D8
@[simp] theorem Zv:deq (.str (Str.ofString "swap")) (.str (Str.ofString "throw"))=false:=nr rfl
@[simp] theorem cB:Eo (.str (Str.ofString "swap")) (.str (Str.ofString "sell"))=true:=Au GN FX
@[simp] theorem cI:deq (.str (Str.ofString "swap")) (.str (Str.ofString "sell"))=false:=nr rfl
@[simp] theorem dN:wIn false (.val (.str "swap")) (.val (.tup [.str "swap",.str "trade"]))=some (.val (.bl true)):=nr rfl
@[simp] theorem qV:wIn false (.val (.str "swap")) (.val Bl)=some (.val (.bl true)):=nr rfl
@[simp] theorem Y8:Eo (.str (Str.ofString "trade")) (.str (Str.ofString "bring"))=true:=Au D6 D0
@[simp] theorem Yh:deq (.str (Str.ofString "trade")) (.str (Str.ofString "bring"))=false:=nr rfl
@[simp] theorem Z0:Eo (.str (Str.ofString "trade")) (.str (Str.ofString "pool"))=true:=Au D6 GO
@[simp] theorem aQ:deq (.str (Str.ofString "trade")) (.str (Str.ofString "pool"))=false:=nr rfl
@[simp] theorem bP:Eo (.str (Str.ofString "trade")) (.str (Str.ofString "swap"))=true:=Au D6 GN
@[simp] theorem Zu:deq (.str (Str.ofString "trade")) (.str (Str.ofString "swap"))=false:=nr rfl
@[simp] theorem Yw:Eo (.str (Str.ofString "trade")) (.str (Str.ofString "trade"))=true:=Au D6 D6
@[simp] theorem Yx:deq (.str (Str.ofString "trade")) (.str (Str.ofString "trade"))=true:=nr rfl
@[simp] theorem Y1:Eo (.str (Str.ofString "trade")) (.str (Str.ofString "throw"))=true:=Au D6 D8
@[simp] theorem Ym:deq (.str (Str.ofString "trade")) (.str (Str.ofString "throw"))=false:=nr rfl
@[simp] theorem aw:Eo (.str (Str.ofString "trade")) (.str (Str.ofString "sell"))=true:=Au D6 FX
@[simp] theorem ZV:deq (.str (Str.ofString "trade")) (.str (Str.ofString "sell"))=false:=nr rfl
@[simp] theorem bZ:wIn false (.val (.str "trade")) (.val (.tup [.str "swap",.str "trade"]))=some (.val (.bl true)):=nr rfl
@[simp] theorem oA:wIn false (.val (.str "trade")) (.val Bl)=some (.val (.bl true)):=nr rfl
@[simp] theorem Yi:Eo (.str (Str.ofString "spoil")) (.str (Str.ofString "bring"))=true:=Au Fm D0
@[simp] theorem Yz:deq (.str (Str.ofString "spoil")) (.str (Str.ofString "bring"))=false:=nr rfl
@[simp] theorem bU:Eo (.str (Str.ofString "spoil")) (.str (Str.ofString "pool"))=true:=Au Fm GO
@[simp] theorem bL:deq (.str (Str.ofString "spoil")) (.str (Str.ofString "pool"))=false:=nr rfl
@[simp] theorem ZM:Eo (.str (Str.ofString "spoil")) (.str (Str.ofString "swap"))=true:=Au Fm GN
@[simp] theorem bE:deq (.str (Str.ofString "spoil")) (.str (Str.ofString "swap"))=false:=nr rfl
@[simp] theorem Y9:Eo (.str (Str.ofString "spoil")) (.str (Str.ofString "trade"))=true:=Au Fm D6
@[simp] theorem Yy:deq (.str (Str.ofString "spoil")) (.str (Str.ofString "trade"))=false:=nr rfl
@[simp] theorem Yk:Eo (.str (Str.ofString "spoil")) (.str (Str.ofString "spoil"))=true:=Au Fm Fm
@[simp] theorem Y4:deq (.str (Str.ofString "spoil")) (.str (Str.ofString "spoil"))=true:=nr rfl
@[simp] theorem Y5:Eo (.str (Str.ofString "spoil")) (.str (Str.ofString "throw"))=true:=Au Fm D8
@[simp] theorem Yu:deq (.str (Str.ofString "spoil")) (.str (Str.ofString "throw"))=false:=nr rfl
@[simp] theorem Zj:Eo (.str (Str.ofString "spoil")) (.str (Str.ofString "sell"))=true:=Au Fm FX
@[simp] theorem bQ:deq (.str (Str.ofString "spoil")) (.str (Str.ofString "sell"))=false:=nr rfl
@[simp] theorem cY:wIn false (.val (.str "spoil")) (.val (.tup [.str "swap",.str "trade"]))=some (.val (.bl false)):=nr rfl
@[simp] theorem Zt:wIn false (.val (.str "spoil")) (.val (.tup [.str "spoil",.str "throw"]))=some (.val (.bl true)):=nr rfl
@[simp] theorem ny:wIn false (.val (.str "spoil")) (.val Bl)=some (.val (.bl false)):=nr rfl
@[simp] theorem Yl:Eo (.str (Str.ofString "throw")) (.str (Str.ofString "bring"))=true:=Au D8 D0
@[simp] theorem Yo:deq (.str (Str.ofString "throw")) (.str (Str.ofString "bring"))=false:=nr rfl
@[simp] theorem Z4:Eo (.str (Str.ofString "throw")) (.str (Str.ofString "pool"))=true:=Au D8 GO
@[simp] theorem ZX:deq (.str (Str.ofString "throw")) (.str (Str.ofString "pool"))=false:=nr rfl
@[simp] theorem Zz:Eo (.str (Str.ofString "throw")) (.str (Str.ofString "swap"))=true:=Au D8 GN
@[simp] theorem Zp:deq (.str (Str.ofString "throw")) (.str (Str.ofString "swap"))=false:=nr rfl
@[simp] theorem Yf:Eo (.str (Str.ofString "throw")) (.str (Str.ofString "trade"))=true:=Au D8 D6
@[simp] theorem Y3:deq (.str (Str.ofString "throw")) (.str (Str.ofString "trade"))=false:=nr rfl
@[simp] theorem Yt:Eo (.str (Str.ofString "throw")) (.str (Str.ofString "spoil"))=true:=Au D8 Fm
@[simp] theorem Yp:deq (.str (Str.ofString "throw")) (.str (Str.ofString "spoil"))=false:=nr rfl
@[simp] theorem Y2:Eo (.str (Str.ofString "throw")) (.str (Str.ofString "throw"))=true:=Au D8 D8
@[simp] theorem Y0:deq (.str (Str.ofString "throw")) (.str (Str.ofString "throw"))=true:=nr rfl
@[simp] theorem dF:wIn false (.val (.str "throw")) (.val (.tup [.str "swap",.str "trade"]))=some (.val (.bl false)):=nr rfl
@[simp] theorem Zm:wIn false (.val (.str "throw")) (.val (.tup [.str "spoil",.str "throw"]))=some (.val (.bl true)):=nr rfl
@[simp] theorem nU:wIn false (.val (.str "throw")) (.val Bl)=some (.val (.bl false)):=nr rfl
@[simp] theorem bN:Eo (.str (Str.ofString "sell")) (.str (Str.ofString "bring"))=true:=Au FX D0
@[simp] theorem aG:deq (.str (Str.ofString "sell")) (.str (Str.ofString "bring"))=false:=nr rfl
@[simp] theorem cm:Eo (.str (Str.ofString "sell")) (.str (Str.ofString "pool"))=true:=Au FX GO
@[simp] theorem c7:deq (.str (Str.ofString "sell")) (.str (Str.ofString "pool"))=false:=nr rfl
@[simp] theorem bz:Eo (.str (Str.ofString "sell")) (.str (Str.ofString "swap"))=true:=Au FX GN
@[simp] theorem dE:deq (.str (Str.ofString "sell")) (.str (Str.ofString "swap"))=false:=nr rfl
@[simp] theorem aR:Eo (.str (Str.ofString "sell")) (.str (Str.ofString "trade"))=true:=Au FX D6
@[simp] theorem aP:deq (.str (Str.ofString "sell")) (.str (Str.ofString "trade"))=false:=nr rfl
@[simp] theorem ZG:Eo (.str (Str.ofString "sell")) (.str (Str.ofString "spoil"))=true:=Au FX Fm
@[simp] theorem Zw:deq (.str (Str.ofString "sell")) (.str (Str.ofString "spoil"))=false:=nr rfl
@[simp] theorem Zq:Eo (.str (Str.ofString "sell")) (.str (Str.ofString "throw"))=true:=Au FX D8
@[simp] theorem bJ:deq (.str (Str.ofString "sell")) (.str (Str.ofString "throw"))=false:=nr rfl
@[simp] theorem cg:Eo (.str (Str.ofString "sell")) (.str (Str.ofString "sell"))=true:=Au FX FX
@[simp] theorem cX:deq (.str (Str.ofString "sell")) (.str (Str.ofString "sell"))=true:=nr rfl
@[simp] theorem gT:wIn false (.val (.str "sell")) (.val (.tup [.str "swap",.str "trade"]))=some (.val (.bl false)):=nr rfl
@[simp] theorem cn:wIn false (.val (.str "sell")) (.val (.tup [.str "spoil",.str "throw"]))=some (.val (.bl false)):=nr rfl
@[simp] theorem pX:wIn false (.val (.str "sell")) (.val Bl)=some (.val (.bl false)):=nr rfl
@[simp] theorem gw:dr S Bl=.val Bl:=nr rfl
section
variable{a b c d e f:D}{r:KE D}
@[simp] theorem kg:Nl [a,b,c,d,e] (some (-4)) none=[b,c,d,e]:=nr rfl
@[simp] theorem lG:Nl [a,b,c,d,e,f] (some (-4)) none=[c,d,e,f]:=nr rfl
@[simp] theorem oJ:Nl [a,b,c,d] (some 1) none=[b,c,d]:=nr rfl
@[simp] theorem kT:Nl [a,b,c,d,e] (some 1) (some 2)=[b]:=nr rfl
@[simp] theorem lV:Nl [a,b,c,d,e,f] (some 1) (some 2)=[b]:=nr rfl
@[simp] theorem lJ{ds zs:List D}:mD S ds [.tup zs]=if ds.length+zs.length<=sizeLine then some (.non,ds++zs)else none:=nr rfl
end
end
section
variable{S S':Sto}{s l m:Nat}{as:KE Nat}{st:Stt}
theorem SAt.same(h:SAt S s l m as st)(g:Bv A S S')(hA:∀n∈A,n∉s::l::m::as):SAt S' s l m as st where
 root:=g.get h.root λz=>hA _ z (by simp)
 lo:=g.get h.lo λz=>hA _ z (by simp)
 nu:=g.get h.nu λz=>hA _ z (by simp)
 ld:=λi a x ha hx=>g.get (h.ld i a x ha hx) λz=>hA _ z (by simp[uS ha])
 len:=h.len
 nd:=h.nd
theorem SAt.Tq(h:SAt S s l m as st)(g:Bv [] S S'):SAt S' s l m as st:=h.same g λ_ z=>(nomatch z)
theorem SAt.ne(h:SAt S s l m as st):s≠l/\s≠m/\l≠m/\s∉as/\l∉as/\m∉as/\as.Nodup:=by
 have:=h.nd
 simp only[wU,uF,AAX]at this
 obtain⟨⟨a,b,c⟩,⟨d,e⟩,f,g⟩:=this
 exact⟨a,b,d,c,e,f,g⟩
theorem SAt.Th(h:SAt S s l m as st){i a:Nat}{y:Ld}(ha:as[i]?=Gc a):SAt (S.set a (C3 y)) s l m as {st with AD:=st.AD.set i y}:=by
 obtain⟨n1,n2,n3,n4,n5,n6,n7⟩:=h.ne
 have ma:=uS ha
 have q1:a≠s:=λe=>n4 (e▸ma)
 have q2:a≠l:=λe=>n5 (e▸ma)
 have q3:a≠m:=λe=>n6 (e▸ma)
 have hi:i<as.length:=(uI.mp ha).1
 have hi':i<st.AD.length:=by rw[<-h.len];exact hi
 refine⟨by rw[uE q1];exact h.root,by rw[uE q2];exact h.lo,by rw[uE q3];exact h.nu,?_,by simp[h.len],h.nd⟩
 intro j b x hb hx
 by_cases e:i=j
 .subst e
  rw[ha]at hb
  cases hb
  have hx':(st.AD.set i y)[i]?=Gc x:=hx
  rw[uG hi']at hx'
  cases hx'
  have hl:a<S.length:=Ac (h.ld i a _ ha (t7 hi'))
  exact uG hl
 .have hx':(st.AD.set i y)[j]?=Gc x:=hx
  rw[uE e]at hx'
  have:a≠b:=by
   intro z
   subst z
   exact e ((yl hi n7).mp (ha.trans hb.symm))
  rw[uE this]
  exact h.ld j b x hb hx'
theorem SAt.lts(h:SAt S s l m as st):∀n∈s::l::m::as,n<S.length:=by
 intro n hn
 simp only[uF]at hn
 rcases hn with rfl|rfl|rfl|hn
 .exact Ac h.root
 .exact Ac h.lo
 .exact Ac h.nu
 .obtain⟨i,hi⟩:=xw.mp hn
  have:i<st.AD.length:=by rw[<-h.len];exact(uI.mp hi).1
  exact Ac (h.ld i n _ hi (t7 this))
theorem SAt.app(h:SAt S s l m as st)(y:Ld):SAt ((S++[C3 y]).set l (.lst (as.map D.ref++[.ref S.length]))) s l m (as++[S.length]) {st with AD:=st.AD++[y]}:=by
 obtain⟨n1,n2,n3,n4,n5,n6,n7⟩:=h.ne
 have lt:=h.lts
 have ls:=lt s (by simp);have ll:=lt l (by simp);have lm:=lt m (by simp)
 have la:∀a∈as,a<S.length:=λa ha=>lt a (by simp[ha])
 refine⟨?_,?_,?_,?_,by simp[h.len],?_⟩
 .rw[uE (vZ n1),tz ls];exact h.root
 .rw[uG (by simp;lia)];simp
 .rw[uE n3,tz lm];exact h.nu
 .intro i a x ha hx
  by_cases e:i<as.length
  .rw[tz e]at ha
   have hx':(st.AD++[y])[i]?=Gc x:=hx
   rw[tz (by rw[<-h.len];exact e)]at hx'
   have ma:=uS ha
   rw[uE (show l≠a by rintro rfl;exact n5 ma),tz (la a ma)]
   exact h.ld i a x ha hx'
  .have hx':(st.AD++[y])[i]?=Gc x:=hx
   have:i=as.length:=by
    have:=(uI.mp ha).1
    simp at this;lia
   subst this
   rw[uL]at ha
   cases ha
   rw[h.len,uL]at hx'
   cases hx'
   rw[uE (by lia),uL]
 .have:(s::l::m::(as++[S.length]))=(s::l::m::as)++[S.length]:=by simp
  rw[this,x8]
  refine⟨h.nd,by simp,?_⟩
  intro a ha b hb e
  simp only[uF,uY,vg]at hb
  have:=lt a ha
  lia
theorem SAt.hold(h:SAt S s l m as st)(rs:KE Rat):SAt (S.set s (.lst [.ref l,shD rs,.ref m])) s l m as {st with hold:=rs}:=by
 obtain⟨n1,n2,n3,n4,n5,n6,n7⟩:=h.ne
 refine⟨uG (h.lts s (by simp)),by rw[uE n1];exact h.lo,by rw[uE n2];exact h.nu,?_,h.len,h.nd⟩
 intro i a x ha hx
 rw[uE (show s≠a by rintro rfl;exact n4 (uS ha))]
 exact h.ld i a x ha hx
theorem SAt.nums(h:SAt S s l m as st)(us:KE Int):SAt (S.set m (.lst (us.map D.int))) s l m as {st with nums:=us}:=by
 obtain⟨n1,n2,n3,n4,n5,n6,n7⟩:=h.ne
 refine⟨by rw[uE (vZ n2)];exact h.root,by rw[uE (vZ n3)];exact h.lo,uG (h.lts m (by simp)),?_,h.len,h.nd⟩
 intro i a x ha hx
 rw[uE (show m≠a by rintro rfl;exact n6 (uS ha))]
 exact h.ld i a x ha hx
theorem Rn{f:Ld->Ld}{body:Ex}{C:En}{i8:Nat}{o0:tY D}(h:SAt S s l m as st)(hi:C.length=i8)(hb:∀(S':Sto) (a:Nat) (x:Ld),x∈st.AD->S'[a]?=Gc (C3 x)->∃S2,body (C++[Gc (.ref a)]) S'=Gc (.nx,C++[Gc (.ref a)],S2.set a (C3 (f x)))/\Bv [] S' S2):∃o S',Jx [(l,as.map D.ref)] (tNm i8) body (as.map D.ref) (C++[o0]) S=Gc (.nx,C++[o],S')/\SAt S' s l m as {st with AD:=st.AD.map f}/\Bv as S S':=by
 obtain⟨E',S',e,i,o,i1,i2,rfl,i3,i4⟩:=Ha (gs:=[(l,as.map D.ref)]) (t:=tNm i8) (b:=body)
  (I:=λds E S'=>∃(i:Nat) (o:tY D),ds=(as.drop i).map D.ref/\i<=as.length/\E=C++[o]/\SAt S' s l m as {st with AD:=(st.AD.take i).map f++st.AD.drop i}/\Bv as S S')
  (λds E S' hI=>by obtain⟨i,o,_,_,_,h1,_⟩:=hI;exact h1.guard) (ds:=as.map D.ref) (E:=C++[o0]) (S:=S)
  ⟨0,o0,by simp,ve _,rfl,by simpa using h,.refl⟩ (by
    rintro d ds E S1 ⟨i,o,i1,i2,rfl,i3,i4⟩
    have hlt:i<as.length:=by
     rcases xo i as.length with w|w
     .exact w
     .rw[vo w]at i1;cases i1
    rw[vD hlt,t8]at i1
    injection i1 with e1 e2
    subst e1 e2
    have hl2:i<st.AD.length:=by rw[<-h.len];exact hlt
    have ha:=t7 hlt
    have hx:((st.AD.take i).map f++st.AD.drop i)[i]?=Gc st.AD[i]:=by
     rw[u3 (by simp;lia)]
     simp[Nat.min_eq_left (wI hl2)]
    obtain⟨S2,e3,g3⟩:=hb S1 as[i] st.AD[i] (wm hl2) (i3.ld i _ _ ha hx)
    have k:=(i3.Tq g3).Th (y:=f st.AD[i]) ha
    refine⟨C++[Gc (.ref as[i])],C++[Gc (.ref as[i])],S2.set as[i] (C3 (f st.AD[i])),?_,e3,i+1,Gc (.ref as[i]),rfl,hlt,rfl,?_,?_⟩
    .rw[dS]
     congr 1
     subst hi
     rw[AAt _ _ (tw _)]
     simp
    .have:((st.AD.take i).map f++st.AD.drop i).set i (f st.AD[i])=(st.AD.take (i+1)).map f++st.AD.drop (i+1):=by
      rw[AAt _ _ (by simp;lia)]
      have e0:i-((st.AD.take i).map f).length=0:=by simp;lia
      rw[e0,vD hl2,ABd,List.take_succ_eq_append_getElem hl2,vU]
      simp
     rw[<-this]
     exact k
    .exact(i4.trans (g3.mono λ_ z=>(nomatch z))).trans (.set (wm hlt)))
 refine⟨o,S',e,?_,i4⟩
 have hz:i=as.length:=by
  have:=congrArg yY i1
  simp at this
  lia
 have:(st.AD.take i).map f++st.AD.drop i=st.AD.map f:=by
  rw[hz,h.len];simp
 rw[this]at i3
 exact i3
end
section
variable{S S':Sto}{s l m:Nat}{as:KE Nat}{st:Stt}{t:Tr}{k:Nat}
theorem eY{i:Nat}{n:Int}{j:Nat}(hi:i<st.AD.length)(h:∀x∈st.AD,∀r∈x.ow,Sz j r):∀x∈less st.AD i n,∀r∈x.ow,Sz j r:=by
 intro x hx
 rcases LA hx hi with h1|h1
 .exact h x h1
 .rw[h1];exact h (AM st.AD i) (AU hi)
theorem Xb{i:Nat}{n:Int}{j:Nat}(hi:i<st.AD.length)(h:∀x∈st.AD,x.ow.length=j):∀x∈less st.AD i n,x.ow.length=j:=by
 intro x hx
 rcases LA hx hi with h1|h1
 .exact h x h1
 .rw[h1];exact h (AM st.AD i) (AU hi)
theorem aC(hS:SAt S s l m as st)(ht:JO t)(h:ED t k st)(hk:k<=16){i:Nat}{n:Int}{ws:KE Int}(hc:Can t st (.thr i n ws)):∃S',Ga [t.d,.ref s,(AR.thr i n ws).d] S=Gc (.non,S')/\SAt S' s l m as (step t st (.thr i n ws))/\Bv (s::l::m::as) S S':=by
 obtain⟨hi,h1,h2,hl,hw⟩:=hc
 have cO:=gR hS ht h (by lia) hl hw hi h1 h2
 have cz:=Wx ht h (by lia) hl hw hi h1 h2
 have sz:=h.sz
 obtain⟨a,a1,a2,a3⟩:=hS.at hi
 have hS1:=hS.Th (y:=⟨(AM st.AD i).k,(AM st.AD i).n-n,(AM st.AD i).ow⟩) a1
 have o1:=sz.1 _ (AU hi)
 have tp:=ht.2.1
 have hdef:step t st (.thr i n ws)={st with AD:=(less st.AD i n).map λx=>{x with ow:=Hv (Ki t st.AD i n ws) (AM st.AD i).ow x.ow},hold:=Hv (Ki t st.AD i n ws) (AM st.AD i).ow st.hold}:=rfl
 rw[hdef]
 generalize hX:Ki t st.AD i n ws=X at*
 obtain⟨o,S2,f1,f2,f3⟩:=Rn (f:=λx=>{x with ow:=Hv X (AM st.AD i).ow x.ow}) (body:=Om (AK FW [eOp (o2 wIx) [eV 8,eC (.int 2)],eV 6,eV 7]) (eV 8) (eC (.int 2))) (C:=[Gc t.d,Gc (.ref s),Gc (AR.thr i n ws).d,Gc (.ref l),Gc (shD st.hold),Gc (.ref m),Gc (aD X),Gc (shD (AM st.AD i).ow)]) (i8:=8) (o0:=none) hS1 rfl (by
  intro S' b x hx hb
  obtain⟨S2,e2,g2⟩:=T9 (S:=S') (x:=X) (ss:=x.ow) (os:=(AM st.AD i).ow) (j:=30+170*k) (i:=145+k) (eY (n:=n) hi sz.1 x hx) o1 cz (by lia) (by rw[Xb (n:=n) hi h.own x hx];lia)
  have hb2:=g2.get hb (by simp)
  refine⟨S2,?_,g2⟩
  simp[As hb,C3,e2,AV hb2])
 obtain⟨S3,e3,g3⟩:=T9 (S:=S2) (x:=X) (ss:=st.hold) (os:=(AM st.AD i).ow) (j:=30+170*k) (i:=145+k) sz.2 o1 cz (by lia) (by rw[h.hold];lia)
 have f4:=(f2.Tq g3)
 have rt:=f4.root
 refine⟨S3.set s (.lst [.ref l,shD (Hv X (AM st.AD i).ow st.hold),.ref m]),?_,f4.hold _,?_⟩
 .have f1':=f1
  simp only[uj,uV]at f1'
  have rt':GJ S3 s=Gc [.ref l,shD st.hold,.ref m]:=AV rt
  have r0:=AV hS.root
  have lo:=As hS.lo
  have xx:=As a2
  have c2:=AV a2
  have sq1:=G4 hS1.lo
  simp only[C3]at f1' sq1 c2 xx
  simp only[AR.d]at f1' cO⊢
  simp[Ga,L8,r0,cO,lo,a3,xx,c2,sq1,f1',e3,rt']
 .have q1:Bv (s::l::m::as) S (S.set a (C3 ⟨(AM st.AD i).k,(AM st.AD i).n-n,(AM st.AD i).ow⟩)):=.set (by simp[uS a1])
  exact((q1.trans (f3.mono λn hn=>by simp[hn])).trans (g3.mono λ_ z=>(nomatch z))).trans (.set (by simp))
theorem WR(hS:SAt S s l m as st)(ht:JO t)(h:ED t k st)(hk:k<=16){p q:Nat}{x:Rat}(hc:Can t st (.JE p q x)):∃S',Ga [t.d,.ref s,(AR.JE p q x).d] S=Gc (.non,S')/\SAt S' s l m as (step t st (.JE p q x))/\Bv (s::l::m::as) S S':=by
 obtain⟨hpq,hp,hq,x1,x2,x3⟩:=hc
 have sz:=h.sz
 have hx:Sz 4 x:=by
  refine⟨?_,by lia⟩
  show x.num.natAbs<16
  lia
 have hdef:step t st (.JE p q x)={st with AD:=st.AD.map λy=>{y with ow:=HF p q x y.ow},hold:=HF p q x st.hold}:=rfl
 rw[hdef]
 obtain⟨o,S2,f1,f2,f3⟩:=Rn (f:=λy=>{y with ow:=HF p q x y.ow}) (body:=Om (AK Gf [eOp (o2 wIx) [eV 8,eC (.int 2)],eV 2]) (eV 8) (eC (.int 2))) (C:=[Gc t.d,Gc (.ref s),Gc (AR.JE p q x).d,Gc (.ref l),Gc (shD st.hold),Gc (.ref m),none,none]) (i8:=8) (o0:=none) hS rfl (by
  intro S' b y hy hb
  obtain⟨S2,e2,g2⟩:=Wl (S:=S') (p:=p) (q:=q) (x:=x) (ss:=y.ow) (j:=30+170*k) (i:=4) (sz.1 y hy) hx (by lia) (by rw[h.own y hy];exact hp) (by rw[h.own y hy];exact hq) hpq
  have hb2:=g2.get hb (by simp)
  refine⟨S2,?_,g2⟩
  simp[As hb,C3,e2,AV hb2])
 obtain⟨S3,e3,g3⟩:=Wl (S:=S2) (p:=p) (q:=q) (x:=x) (ss:=st.hold) (j:=30+170*k) (i:=4) sz.2 hx (by lia) (by rw[h.hold];exact hp) (by rw[h.hold];exact hq) hpq
 have f4:=(f2.Tq g3)
 have rt:=f4.root
 refine⟨S3.set s (.lst [.ref l,shD (HF p q x st.hold),.ref m]),?_,f4.hold _,?_⟩
 .have f1':=f1
  simp only[uj,uV]at f1'
  have rt':GJ S3 s=Gc [.ref l,shD st.hold,.ref m]:=AV rt
  have r0:=AV hS.root
  have sq1:=G4 hS.lo
  simp only[AR.d]at f1' e3⊢
  simp[Ga,L8,r0,sq1,f1',e3,rt']
 .exact((f3.mono λn hn=>by simp[hn]).trans (g3.mono λ_ z=>(nomatch z))).trans (.set (by simp))
end
section
variable{S S':Sto}{s l m:Nat}{as:KE Nat}{st:Stt}{t:Tr}{k:Nat}
theorem SY{ls:KE Ld}{l:Nat}{n:Int}:less ls l n=ls.set l ⟨(AM ls l).k,(AM ls l).n-n,(AM ls l).ow⟩:=rfl
theorem QN{P p:Nat}{cond:Int}{C:En}{dd:D}{f:Ev}(hP:P<=50)(hf:∀(i:Nat),f [Gc dd,Gc (.int i)] S=Gc (aD (if i=p then 1 else 0),S)):CU [] (tNm 1) Bx f (K4 0 P) [] [Gc dd,none] S=Gc ((Ia P p).map aD,S):=by
 have:=Cm (gs:=[]) (t:=tNm 1) (f:=f) (C:=[Gc dd]) (m:=1) (e:=λi:Nat=>D.int (0+(i:Int))) (g:=λi=>aD (if i=p then 1 else 0)) (S:=S) AZ (xs:=uJ P) (acc:=[]) (os:=[none]) rfl (uA (show _<=50 by simp;lia) (AO (by decide))) (by
  intro i _ os ho
  obtain⟨o,rfl⟩:=ON ho
  refine⟨[Gc (.int i)],rfl,by simp,hf i⟩)
 simp only[uj,uV]at this
 rw[Ia,uc]
 exact this
theorem aZ(hS:SAt S s l m as st)(ht:JO t)(h:ED t k st)(hk:k<=16){p kd:Nat}{n:Int}(hc:Can t st (.DL p kd n)):∃S' as',BZ [t.d,.ref s,(AR.DL p kd n).d] S=Gc (.non,S')/\SAt S' s l m as' (step t st (.DL p kd n))/\Bv (s::l::m::as) S S'/\∀n∈as',n∈as\/S.length<=n:=by
 have tp:=ht.2.1
 have e:=QN (S:=S) (P:=t.p) (p:=p) (cond:=0) (C:=[]) (dd:=(AR.DL p kd n).d) (f:=CS [eOp (o1 V5) [eOp (o2 wEq) [eV 1,eOp (o2 wIx) [eV 0,eC (.int 1)]]],eC (.int 1)]) (by lia) (by
  intro i
  by_cases hi:i=p
  .subst hi;simp[AR.d];rfl
  .have:((i:Int)==(p:Int))=false:=by simp;lia
   simp[AR.d,this,hi];rfl)
 have rn:IK (t.p:Int)=true:=DB (by lia) (by lia)
 have hz:as.length<sizeLine:=t9 (show as.length<50 by rw[hS.len];have:=h.len;lia) (AO (by decide))
 refine⟨_,_,?_,hS.app ⟨kd,n,Ia t.p p⟩,?_,?_⟩
 .have r0:=AV hS.root
  have c0:=AV hS.lo
  have c1:GJ (S++[C3 ⟨kd,n,Ia t.p p⟩]) l=Gc (as.map D.ref):=AV (by rw[tz (Ac hS.lo)];exact hS.lo)
  simp only[C3]at c1⊢
  simp only[AR.d]at e⊢
  simp[BZ,HJ,r0,Tr.d,rn,e,c0,shD]at c1⊢
  simp[c1,hz]
 .exact Bv.app.trans (.set (by simp))
 .intro n hn
  rcases uU.mp hn with w|w
  .exact .inl w
  .simp at w;exact .inr (by lia)
theorem Zk(hS:SAt S s l m as st)(ht:JO t)(h:ED t k st)(hk:k<=16){i:Nat}{n:Int}(hc:Can t st (.Ey i n)):∃S' as',BZ [t.d,.ref s,(AR.Ey i n).d] S=Gc (.non,S')/\SAt S' s l m as' (step t st (.Ey i n))/\Bv (s::l::m::as) S S'/\∀n∈as',n∈as\/S.length<=n:=by
 obtain⟨hi,h1,h2⟩:=hc
 obtain⟨a,a1,a2,a3⟩:=hS.at hi
 refine⟨_,as,?_,hS.Th (y:=⟨(AM st.AD i).k,(AM st.AD i).n-n,(AM st.AD i).ow⟩) a1,.set (by simp[uS a1]),λn hn=>.inl hn⟩
 have r0:=AV hS.root
 have lo:=As hS.lo
 have xx:=As a2
 have c2:=AV a2
 simp only[C3]at c2 xx⊢
 simp[BZ,HJ,AR.d,r0,lo,a3,xx,c2]
theorem jK(hS:SAt S s l m as st)(ht:JO t)(h:ED t k st)(hk:k<=16){i:Nat}{n:Int}{ws:KE Int}(hc:Can t st (.thr i n ws)):∃S' as',BZ [t.d,.ref s,(AR.thr i n ws).d] S=Gc (.non,S')/\SAt S' s l m as' (step t st (.thr i n ws))/\Bv (s::l::m::as) S S'/\∀n∈as',n∈as\/S.length<=n:=by
 obtain⟨S',e,g1,g2⟩:=aC hS ht h hk hc
 refine⟨S',as,?_,g1,g2,λn hn=>.inl hn⟩
 have r0:=AV hS.root
 simp only[AR.d]at e⊢
 simp[BZ,HJ,r0,e]
theorem eD(hS:SAt S s l m as st)(ht:JO t)(h:ED t k st)(hk:k<=16){p q:Nat}{x:Rat}(hc:Can t st (.JE p q x)):∃S' as',BZ [t.d,.ref s,(AR.JE p q x).d] S=Gc (.non,S')/\SAt S' s l m as' (step t st (.JE p q x))/\Bv (s::l::m::as) S S'/\∀n∈as',n∈as\/S.length<=n:=by
 obtain⟨S',e,g1,g2⟩:=WR hS ht h hk hc
 refine⟨S',as,?_,g1,g2,λn hn=>.inl hn⟩
 have r0:=AV hS.root
 simp only[AR.d]at e⊢
 simp[BZ,HJ,r0,e]
theorem fL(hS:SAt S s l m as st)(ht:JO t)(h:ED t k st)(hk:k<=16){i kd:Nat}{g n:Int}(hc:Can t st (.swap i g kd n)):∃S' as',BZ [t.d,.ref s,(AR.swap i g kd n).d] S=Gc (.non,S')/\SAt S' s l m as' (step t st (.swap i g kd n))/\Bv (s::l::m::as) S S'/\∀n∈as',n∈as\/S.length<=n:=by
 obtain⟨hi,h1,h2,h3,h4,h5,h6⟩:=hc
 obtain⟨a,a1,a2,a3⟩:=hS.at hi
 have hS1:=hS.Th (y:=⟨(AM st.AD i).k,(AM st.AD i).n-g,(AM st.AD i).ow⟩) a1
 have hS2:=hS1.app ⟨kd,n,(AM st.AD i).ow⟩
 have hz:as.length<sizeLine:=t9 (show as.length<50 by rw[hS.len];have:=h.len;lia) (AO (by decide))
 have hz2:st.nums.length<=sizeLine:=uA (show _<=20 by have:=h.nm;lia) (AO (by decide))
 refine⟨_,_,?_,hS2,?_,?_⟩
 .have r0:=AV hS.root
  have lo:=As hS.lo
  have xx:=As a2
  have c2:=AV a2
  have lo1:=As hS1.lo
  have co1:=AV hS1.lo
  have x1:=As (uG (a:=C3 ⟨(AM st.AD i).k,(AM st.AD i).n-g,(AM st.AD i).ow⟩) (Ac a2))
  have c4:GJ ((S.set a (C3 ⟨(AM st.AD i).k,(AM st.AD i).n-g,(AM st.AD i).ow⟩))++[C3 ⟨kd,n,(AM st.AD i).ow⟩]) l=Gc (as.map D.ref):=AV (by rw[tz (Ac hS1.lo)];exact hS1.lo)
  have nu:=hS2.nu
  have c5:=AV nu
  have st5:∀{T:Sto},T[m]?=Gc (.lst (st.nums.map D.int))->T.set m (.lst (st.nums.map D.int))=T:=λh=>set_same h
  have st6:=st5 nu
  simp only[C3]at c2 xx lo1 co1 x1 c4 c5 st6⊢
  have hz':(as.map D.ref).length<sizeLine:=by simpa using hz
  generalize (as.map D.ref)=refs at*
  simp[BZ,HJ,AR.d,r0,lo,a3,xx,c2,lo1,x1,co1]at c4 c5 st6⊢
  simp[c4,hz',c5,hz2,st6]
 .exact((Bv.set (by simp[uS a1])).trans .app).trans (.set (by simp))
 .intro n hn
  rcases uU.mp hn with w|w
  .exact .inl w
  .simp at w;exact .inr (by lia)
theorem Zh(hS:SAt S s l m as st)(ht:JO t)(h:ED t k st)(hk:k<=16){i kd:Nat}{u g n:Int}(hc:Can t st (.DQ u i g kd n)):∃S' as',BZ [t.d,.ref s,(AR.DQ u i g kd n).d] S=Gc (.non,S')/\SAt S' s l m as' (step t st (.DQ u i g kd n))/\Bv (s::l::m::as) S S'/\∀n∈as',n∈as\/S.length<=n:=by
 obtain⟨hi,h1,h2,h3,h4,h5,h6,h7,h8⟩:=hc
 obtain⟨a,a1,a2,a3⟩:=hS.at hi
 have hS1:=hS.Th (y:=⟨(AM st.AD i).k,(AM st.AD i).n-g,(AM st.AD i).ow⟩) a1
 have hS2:=hS1.app ⟨kd,n,(AM st.AD i).ow⟩
 have hz:as.length<sizeLine:=t9 (show as.length<50 by rw[hS.len];have:=h.len;lia) (AO (by decide))
 have hz2:st.nums.length+1<=sizeLine:=uA (show _<=20 by have:=h.nm;lia) (AO (by decide))
 refine⟨_,_,?_,hS2.nums (st.nums++[u]),?_,?_⟩
 .have r0:=AV hS.root
  have lo:=As hS.lo
  have xx:=As a2
  have c2:=AV a2
  have lo1:=As hS1.lo
  have co1:=AV hS1.lo
  have x1:=As (uG (a:=C3 ⟨(AM st.AD i).k,(AM st.AD i).n-g,(AM st.AD i).ow⟩) (Ac a2))
  have c4:GJ ((S.set a (C3 ⟨(AM st.AD i).k,(AM st.AD i).n-g,(AM st.AD i).ow⟩))++[C3 ⟨kd,n,(AM st.AD i).ow⟩]) l=Gc (as.map D.ref):=AV (by rw[tz (Ac hS1.lo)];exact hS1.lo)
  have nu:=hS2.nu
  have c5:=AV nu
  simp only[C3]at c2 xx lo1 co1 x1 c4 c5⊢
  have hz':(as.map D.ref).length<sizeLine:=by simpa using hz
  generalize (as.map D.ref)=refs at*
  simp[BZ,HJ,AR.d,r0,lo,a3,xx,c2,lo1,x1,co1]at c4 c5⊢
  simp[c4,hz',c5,hz2]
 .exact(((Bv.set (by simp[uS a1])).trans .app).trans (.set (by simp))).trans (.set (by simp))
 .intro n hn
  rcases uU.mp hn with w|w
  .exact .inl w
  .simp at w;exact .inr (by lia)
theorem gH(hS:SAt S s l m as st)(ht:JO t)(h:ED t k st)(hk:k<=16){i j:Nat}(hc:Can t st (.GS i j)):∃S' as',BZ [t.d,.ref s,(AR.GS i j).d] S=Gc (.non,S')/\SAt S' s l m as' (step t st (.GS i j))/\Bv (s::l::m::as) S S'/\∀n∈as',n∈as\/S.length<=n:=by
 obtain⟨hij,hi,hj,h1,h2,h3⟩:=hc
 obtain⟨a,a1,a2,a3⟩:=hS.at hi
 obtain⟨b,b1,b2,b3⟩:=hS.at hj
 have sz:=h.sz
 have pi:=h.pcs _ (AU hi)
 have pj:=h.pcs _ (AU hj)
 obtain⟨S1,e1,g1⟩:=W5 (S:=S) (x:=AM st.AD i) (y:=AM st.AD j) (j:=30+170*k) (i:=131+k) a2 b2 (sz.1 _ (AU hi)) (sz.1 _ (AU hj)) (EV pi.1 pi.2) (EV pj.1 pj.2) (by lia) (by lia) (by lia) (by rw[h.own _ (AU hi)];have:=ht.2.1;lia)
 have hS1:=hS.Tq g1
 have hab:a≠b:=by
  rintro rfl
  exact hij ((yl (uI.mp a1).1 hS.ne.2.2.2.2.2.2).mp (a1.trans b1.symm))
 have hS2:=hS1.app ⟨(AM st.AD i).k,(AM st.AD i).n+(AM st.AD j).n,Ax (AM st.AD i).n (AM st.AD j).n (AM st.AD i).ow (AM st.AD j).ow⟩
 have ai:i<as.length:=(uI.mp a1).1
 have bj:j<as.length:=(uI.mp b1).1
 have a1':(as++[S1.length])[i]?=Gc a:=by rw[tz ai];exact a1
 have b1':(as++[S1.length])[j]?=Gc b:=by rw[tz bj];exact b1
 have hS3:=hS2.Th (y:=⟨(AM st.AD i).k,0,(AM st.AD i).ow⟩) a1'
 have hS4:=hS3.Th (y:=⟨(AM st.AD j).k,0,(AM st.AD j).ow⟩) b1'
 have hz:as.length<sizeLine:=t9 (show as.length<50 by rw[hS.len];have:=h.len;lia) (AO (by decide))
 have est:step t st (.GS i j)={st with AD:=((st.AD++[Ld.mk (AM st.AD i).k ((AM st.AD i).n+(AM st.AD j).n) (Ax (AM st.AD i).n (AM st.AD j).n (AM st.AD i).ow (AM st.AD j).ow)]).set i ⟨(AM st.AD i).k,0,(AM st.AD i).ow⟩).set j ⟨(AM st.AD j).k,0,(AM st.AD j).ow⟩}:=by
  have e0:AM (less st.AD i (AM st.AD i).n) j=AM st.AD j:=by
   unfold AM less
   rw[tu,uE hij,<-tu]
  have e1:less st.AD i (AM st.AD i).n=st.AD.set i ⟨(AM st.AD i).k,0,(AM st.AD i).ow⟩:=by
   unfold less
   rw[Int.sub_self]
  have e2:less (less st.AD i (AM st.AD i).n) j (AM st.AD j).n=(st.AD.set i ⟨(AM st.AD i).k,0,(AM st.AD i).ow⟩).set j ⟨(AM st.AD j).k,0,(AM st.AD j).ow⟩:=by
   rw[SY (ls:=less st.AD i (AM st.AD i).n),e0,Int.sub_self,e1]
  show{st with AD:=less (less st.AD i (AM st.AD i).n) j (AM st.AD j).n++_}=_
  rw[e2,ABC _ _ hi,ABC _ _ (by simpa using hj)]
 refine⟨_,_,?_,est▸hS4,?_,?_⟩
 .have r0:=AV hS.root
  have lo:=As hS.lo
  have c0:=AV hS.lo
  have xa:=As a2
  have xb:=As b2
  have c1:=AV hS1.lo
  have c4:GJ (S1++[C3 ⟨(AM st.AD i).k,(AM st.AD i).n+(AM st.AD j).n,Ax (AM st.AD i).n (AM st.AD j).n (AM st.AD i).ow (AM st.AD j).ow⟩]) l=Gc (as.map D.ref):=AV (by rw[tz (Ac hS1.lo)];exact hS1.lo)
  have c5:=AV (hS2.ld i a (AM st.AD i) a1' (by show(st.AD++_)[i]?=_;rw[tz hi];exact DA hi))
  have c6:=AV (hS3.ld j b (AM st.AD j) b1' (by show((st.AD++_).set i _)[j]?=_;rw[uE hij,tz hj];exact DA hj))
  simp only[C3]at xa xb c4 c5 c6⊢
  have hz':(as.map D.ref).length<sizeLine:=by simpa using hz
  generalize (as.map D.ref)=refs at*
  generalize Ax (AM st.AD i).n (AM st.AD j).n (AM st.AD i).ow (AM st.AD j).ow=pr at*
  simp[BZ,HJ,AR.d,r0,lo,a3,b3,xa,xb,c0,e1]at c4 c5 c6⊢
  simp[c4,hz',c5,c6]
 .exact(((g1.mono λ_ z=>(nomatch z)).trans .app).trans (.set (by simp))).trans ((Bv.set (by simp[uS a1])).trans (.set (by simp[uS b1])))
 .intro n hn
  rcases uU.mp hn with w|w
  .exact .inl w
  .simp at w;subst w;exact .inr g1.len
theorem gc(hS:SAt S s l m as st)(ht:JO t)(h:ED t k st)(hk:k<=16){d:AR}(hc:Can t st d):∃S' as',BZ [t.d,.ref s,d.d] S=Gc (.non,S')/\SAt S' s l m as' (step t st d)/\Bv (s::l::m::as) S S'/\∀n∈as',n∈as\/S.length<=n:=by
 cases d with
 |DL=>exact aZ hS ht h hk hc
 |GS=>exact gH hS ht h hk hc
 |swap=>exact fL hS ht h hk hc
 |DQ=>exact Zh hS ht h hk hc
 |Ey=>exact Zk hS ht h hk hc
 |thr=>exact jK hS ht h hk hc
 |JE=>exact eD hS ht h hk hc
end
section
variable{st:Stt}{t:Tr}{k:Nat}
theorem Je{a b:Nat}(h:a<=b):2^a<=2^b:=ux (by decide) h
theorem K2{a b:Nat}(h:a<=b):(2:Int)^a<=2^b:=by
 have:=Je h
 exact_mod_cast this
theorem JQ{c:Int}(h:0<=c):((c.toNat:Nat):Rat)=(c:Rat):=by
 have:((c.toNat:Nat):Int)=c:=vF h
 have:(((c.toNat:Nat):Int):Rat)=(c:Rat):=by rw[this]
 exact this
theorem Uk{B T k j:Nat}(hB:B<2^(30+170*k))(hT:T<2^j)(hj:j<=170):B*T<2^(30+170*(k+1)):=by
 have:=Ee hB hT
 exact t9 this (Je (by lia))
theorem UP{G B P p:Nat}(h:G<=B):∀r∈Ia P p,Ok G B r:=by
 intro r hr
 obtain⟨i,_,rfl⟩:=um.mp hr
 split
 .exact Ok.one h
 .exact Ok.zero
theorem RE{G B:Nat}{n m:Int}{ss os:KE Rat}(hn:0<n)(hm:0<m)(hs:∀r∈ss,Ok G B r)(ho:∀r∈os,Ok G B r):∀r∈Ax n m ss os,Ok (G*(n+m).toNat) (B*(n+m).toNat) r:=by
 intro r hr
 unfold Ax at hr
 rw[xw]at hr
 obtain⟨i,hi'⟩:=hr
 rw[zE]at hi'
 obtain⟨x,y,hx,hy,rfl⟩:=hi'
 have:=Ok.mix (a:=n.toNat) (b:=m.toNat) (t:=(n+m).toNat) (hs x (uS hx)) (ho y (uS hy)) (by lia) (by lia)
 rwa [JQ (by lia),JQ (by lia),JQ (by lia)]at this
theorem X0{G B p q:Nat}{x:Rat}{ss:KE Rat}(hp:p<ss.length)(hq:q<ss.length)(x1:0<x.num)(x2:x.num<=x.den)(hs:∀r∈ss,Ok G B r):∀r∈HF p q x ss,Ok (G*x.den) (2*B*x.den) r:=by
 have dp:=x.den_pos
 have hsp:=hs _ (getD_mem (d:=0) hp)
 have hsq:=hs _ (getD_mem (d:=0) hq)
 have xs:=Et x
 have ex:(x.num:Rat)=((x.num.toNat:Nat):Rat):=(JQ (by lia)).symm
 have nz:=KQ x
 intro r hr
 unfold HF at hr
 rcases xF hr with hr|hr
 .rcases xF hr with hr|hr
  .exact(hs r hr).up (by rw[y9];lia)
  .rw[hr]
   obtain⟨z,e,hz⟩:=Ok.mix (a:=x.den-x.num.toNat) (b:=x.num.toNat) (t:=x.den) hsp (Ok.zero (G:=G) (B:=B)) (by lia) dp
   refine⟨z,?_,uA hz (by rw[y9];lia)⟩
   rw[<-e]
   have e2:((x.den-x.num.toNat:Nat):Rat)=(x.den:Rat)-(x.num:Rat):=by
    have:(((x.den-x.num.toNat:Nat):Int):Rat)=((x.den-x.num:Int):Rat):=by
     congr 1;lia
    push_cast at this
    exact this
   rw[e2]
   generalize ss.getD p 0=sp at*
   congr 1
   grind
 .rw[hr]
  obtain⟨z,e1,hz⟩:=hsp
  obtain⟨y,e2,hy⟩:=hsq
  refine⟨y*x.den+z*x.num.toNat,?_,?_⟩
  .generalize ss.getD p 0=sp at*
   generalize ss.getD q 0=sq at*
   push_cast
   rw[<-ex,<-e1,<-e2]
   grind
  .have h1:y*x.den<=B*x.den:=uy _ hy
   have h2:z*x.num.toNat<=B*x.den:=yE hz (by lia)
   rw[y9];lia
theorem IW{f:Rat->Rat->Rat}{a b:KE Rat}{n:Nat}(h:a.length=n)(g:b.length=n):(yq f a b).length=n:=by rw[List.length_zipWith,h,g];lia
theorem FK{P:Ld->Prop}{i:Nat}{n:Int}(hi:i<st.AD.length)(h:∀x∈st.AD,P x)(g:P ⟨(AM st.AD i).k,(AM st.AD i).n-n,(AM st.AD i).ow⟩):∀x∈less st.AD i n,P x:=by
 intro x hx
 rcases LA hx hi with h1|h1
 .exact h x h1
 .rw[h1];exact g
theorem JZ{P:Ld->Prop}{ls:KE Ld}{y:Ld}(h:∀x∈ls,P x)(g:P y):∀x∈ls++[y],P x:=by
 intro x hx
 rcases uU.mp hx with w|w
 .exact h x w
 .simp at w;rw[w];exact g
structure LOk(t:Tr)(k G B:Nat)(x:Ld):Prop where
 kd:x.k<t.k
 n0:0<=x.n
 n1:x.n<2^(131+k)
 own:x.ow.length=t.p
 ok:∀r∈x.ow,Ok G B r
theorem LOk.up{G B T B':Nat}{x:Ld}(h:LOk t k G B x)(hT:B*T<=B'):LOk t (k+1) (G*T) B' x:=⟨h.kd,h.n0,yX h.n1 (K2 (by lia)),h.own,λr hr=>(h.ok r hr).up hT⟩
theorem LOk.up1{G B:Nat}{x:Ld}(h:LOk t k G B x):LOk t (k+1) G B x:=⟨h.kd,h.n0,yX h.n1 (K2 (by lia)),h.own,h.ok⟩
theorem LOk.less{G B:Nat}{x:Ld}{n:Int}(h:LOk t k G B x)(h0:0<=n)(h1:n<=x.n):LOk t k G B ⟨x.k,x.n-n,x.ow⟩:=⟨h.kd,show 0<=x.n-n by lia,show x.n-n<_ by have:=h.n1;lia,h.own,h.ok⟩
theorem ED.of{G B:Nat}(h1:st.AD.length<=4+k)(h2:∀x∈st.AD,LOk t k G B x)(h3:st.hold.length=t.p)(h4:st.nums.length<=k)(g0:0<G)(g1:G<=B)(g2:B<2^(30+170*k))(h5:∀r∈st.hold,Ok G B r):ED t k st:=⟨h1,λx hx=>(h2 x hx).kd,λx hx=>⟨(h2 x hx).n0,(h2 x hx).n1⟩,λx hx=>(h2 x hx).own,h3,h4,G,B,g0,g1,g2,λx hx=>(h2 x hx).ok,h5⟩
theorem fc{n:Int}(h:n<2^131):n<2^(131+k):=yX h (K2 (by lia))
theorem NH(ht:JO t)(h:ED t k st)(hk:k<=16){d:AR}(hc:Can t st d):ED t (k+1) (step t st d):=by
 obtain⟨G,B,g0,g1,g2,hl,hh⟩:=h.gb
 have L:∀x∈st.AD,LOk t k G B x:=λx hx=>⟨h.kind x hx,(h.pcs x hx).1,(h.pcs x hx).2,h.own x hx,hl x hx⟩
 have g2':B<2^(30+170*(k+1)):=t9 g2 (Je (by lia))
 have hlen:=h.len
 have hnm:=h.nm
 cases d with
 |DL p kd n=>
  obtain⟨h1,h2,h3,h4⟩:=hc
  refine ED.of (G:=G) (B:=B) (by simp[step];lia) (JZ (λx hx=>(L x hx).up1) ⟨h2,by show 0<=n;lia,fc h4,by simp[Ia],UP g1⟩) h.hold (vh hnm) g0 g1 g2' hh
 |GS i j=>
  obtain⟨hij,hi,hj,h1,h2,h3⟩:=hc
  have li:=L _ (AU hi)
  have lj:=L _ (AU hj)
  have tl:((AM st.AD i).n+(AM st.AD j).n).toNat<2^(132+k):=by
   have a:=li.n1;have b:=lj.n1
   have e:(2:Int)^(132+k)=2^(131+k)*2:=by rw[show 132+k=(131+k)+1 by lia,AAg]
   have:(((AM st.AD i).n+(AM st.AD j).n).toNat:Int)<((2^(132+k):Nat):Int):=by
    rw[vF (by lia)]
    push_cast
    rw[e];lia
   exact_mod_cast this
  have t0:0<((AM st.AD i).n+(AM st.AD j).n).toNat:=by lia
  refine ED.of (G:=G*((AM st.AD i).n+(AM st.AD j).n).toNat) (B:=B*((AM st.AD i).n+(AM st.AD j).n).toNat) (by simp[step,Ar];lia) (JZ ?_ ⟨li.kd,by show 0<=(AM st.AD i).n+(AM st.AD j).n;lia,?_,?_,RE h1 h2 li.ok lj.ok⟩) h.hold (vh hnm) (yD g0 t0) (uy _ g1) (Uk g2 tl (by lia)) (λr hr=>(hh r hr).up (tw _))
  .have e0:AM (less st.AD i (AM st.AD i).n) j=AM st.AD j:=by
    unfold AM less
    rw[tu,uE hij,<-tu]
   have A:=FK (P:=LOk t (k+1) (G*((AM st.AD i).n+(AM st.AD j).n).toNat) (B*((AM st.AD i).n+(AM st.AD j).n).toNat)) (n:=(AM st.AD i).n) hi (λx hx=>(L x hx).up (tw _)) ((li.up (tw _)).less (by lia) (ABD _))
   have A2:=FK (st:={st with AD:=less st.AD i (AM st.AD i).n}) (i:=j) (n:=(AM st.AD j).n) (by simpa[Ar]using hj) A (by
    show LOk _ _ _ _ ⟨(AM (less st.AD i (AM st.AD i).n) j).k,(AM (less st.AD i (AM st.AD i).n) j).n-_,(AM (less st.AD i (AM st.AD i).n) j).ow⟩
    rw[e0]
    exact(lj.up (tw _)).less (by lia) (ABD _))
   exact A2
  .show(AM st.AD i).n+(AM st.AD j).n<2^(131+(k+1))
   have a:=li.n1;have b:=lj.n1
   rw[show 131+(k+1)=(131+k)+1 by lia,AAg];lia
  .exact IW li.own lj.own
 |swap i g kd n=>
  obtain⟨hi,h1,h2,h3,h4,h5,h6⟩:=hc
  have li:=L _ (AU hi)
  refine ED.of (G:=G) (B:=B) (by simp[step,Ar];lia) (JZ (FK hi (λx hx=>(L x hx).up1) (li.up1.less (by lia) h2)) ⟨h3,by show 0<=n;lia,fc h6,li.own,li.ok⟩) h.hold (vh hnm) g0 g1 g2' hh
 |DQ u i g kd n=>
  obtain⟨hi,h1,h2,h3,h4,h5,h6,h7⟩:=hc
  have li:=L _ (AU hi)
  refine ED.of (G:=G) (B:=B) (by simp[step,Ar];lia) (JZ (FK hi (λx hx=>(L x hx).up1) (li.up1.less (by lia) h2)) ⟨h3,by show 0<=n;lia,fc h6,li.own,li.ok⟩) h.hold (by simp[step];lia) g0 g1 g2' hh
 |Ey i n=>
  obtain⟨hi,h1,h2⟩:=hc
  have li:=L _ (AU hi)
  refine ED.of (G:=G) (B:=B) (by simp[step,Ar];lia) (FK hi (λx hx=>(L x hx).up1) (li.up1.less (by lia) h2)) h.hold (vh hnm) g0 g1 g2' hh
 |thr i n ws=>
  obtain⟨hi,h1,h2,h3,h4⟩:=hc
  have li:=L _ (AU hi)
  have W:=LO ht h (by lia) h3 h4
  have wl:(FQ t st.AD ws).toNat<2^(145+k):=by
   have:((FQ t st.AD ws).toNat:Int)<((2^(145+k):Nat):Int):=by
    rw[vF (by lia)];push_cast;exact W.2
   exact_mod_cast this
  have bo:=λ{ss:KE Rat} (hs:∀r∈ss,Ok G B r)=>Xh ht h (by lia) h3 h4 hi h1 h2 li.ok hs
  refine ED.of (G:=G*(FQ t st.AD ws).toNat) (B:=B*(FQ t st.AD ws).toNat) (by simp[step,Ar];lia) ?_ (IW h.hold li.own) (vh hnm) (yD g0 (by lia)) (uy _ g1) (Uk g2 wl (by lia)) (bo hh)
  intro x hx
  obtain⟨y,hy,rfl⟩:=um.mp hx
  have ly:=FK (P:=LOk t k G B) hi L (li.less (n:=n) (by lia) h2) y hy
  exact⟨ly.kd,ly.n0,ly.up1.n1,IW ly.own li.own,bo ly.ok⟩
 |JE p q x=>
  obtain⟨h1,h2,h3,h4,h5,h6⟩:=hc
  have dp:=x.den_pos
  refine ED.of (G:=G*x.den) (B:=2*B*x.den) (by simp[step];lia) ?_ (by simp[step,HF,h.hold]) (vh hnm) (yD g0 dp) (uy _ (by lia)) ?_ (X0 (by rw[h.hold];exact h2) (by rw[h.hold];exact h3) h4 h5 hh)
  .intro y hy
   obtain⟨z,hz,rfl⟩:=um.mp hy
   have lz:=L z hz
   exact⟨lz.kd,lz.n0,lz.up1.n1,by simp[HF,lz.own],X0 (by rw[lz.own];exact h2) (by rw[lz.own];exact h3) h4 h5 lz.ok⟩
  .have:=Uk (B:=B) (T:=2*x.den) (j:=5) g2 (by lia) (by lia)
   rw[show 2*B*x.den=B*(2*x.den) by rw[<-y9,xg 2 B]]
   exact this
end
theorem Jy{α:Type}{f:α->D}:∀{xs:KE α},(∀x∈xs,(f x).lay=true)->D.Rq (xs.map f)=true
 | [],_=>rfl
 |x::xs,h=>by
  show((f x).lay && D.Rq (xs.map f))=true
  rw[h x uD,Jy λy hy=>h y (tf _ hy)]
  rfl
theorem U5{ds:KE D}(h:D.Rq ds=true):Eo (.lst ds) (.lst [])=true:=by
 unfold Eo
 show(D.Rq ds && true && _)=true
 rw[h]
 simp only[Bool.true_and,decide_eq_true_eq]
 exact uA (Nat.min_le_right _ _) (by decide)
noncomputable def Bn(is:KE Nat):KE D:=is.map λ(i:Nat)=>D.int i
theorem Og{is:KE Nat}:Eo (.lst (Bn is)) (.lst [])=true:=U5 (Jy λ_ _=>rfl)
theorem Uq{d:D}{ds:KE D}:deq (.lst (d::ds)) (.lst [])=false:=rfl
theorem WW:deq (.lst []) (.lst [])=true:=rfl
theorem Qz{is:KE Nat}:deq (.lst (Bn is)) (.lst [])=is.isEmpty:=by
 cases is with
 |nil=>exact WW
 |cons i is=>exact Uq
theorem LC{ds:KE D}:NI 0 ds=(uJ ds.length).map λ(i:Nat)=>D.tup [.int i,ds.getD i .non]:=by
 apply yr
 intro i
 rw[M9,uN]
 by_cases h:i<ds.length
 .rw[t7 h,wB h]
  simp[t7 h]
 .rw[vB (by lia),vB (by simp;lia)]
  rfl
theorem LY{is:KE Nat}:(Bn is).length=is.length:=by simp[Bn]
theorem OW{is:KE Nat}{r:Int}(h0:0<=r)(h1:r<is.length):∃i∈is,atI (Bn is) r=Gc (.int (i:Nat)):=by
 have h2:r.toNat<is.length:=by lia
 refine⟨is[r.toNat],wm h2,?_⟩
 have:=dH (xs:=Bn is) h0 (by rw[LY];exact h1)
 rw[this]
 simp[Bn]
theorem X3{x K:Int}(h0:0<=x)(h1:x<2*K):x % K=if x<K then x else x-K:=by
 split
 .exact Int.emod_eq_of_lt h0 (by assumption)
 .have:x % K=(x-K) % K:=by rw[Int.sub_emod_right]
  rw[this]
  exact Int.emod_eq_of_lt (by lia) (by lia)
section
variable{S:Sto}{p s l m:Nat}{as:KE Nat}{st:Stt}{t:Tr}{k:Nat}
noncomputable def Cz(st:Stt):KE Nat:=(uJ st.AD.length).filter λi=>decide (0<(AM st.AD i).n)
theorem fV(hS:SAt S s l m as st)(hl:st.AD.length<=50):CU [(l,as.map D.ref)] (tTp [tNm 0,tNm 1]) (eOp (o2 wGt) [eOp (o2 wIx) [eV 1,eC (.int 1)],eC (.int 0)]) (eV 0) (NI 0 (as.map D.ref)) [] [none,none] S=Gc (Bn (Cz st),S):=by
 have:=DJ (gs:=[(l,as.map D.ref)]) (t:=tTp [tNm 0,tNm 1]) (c:=eOp (o2 wGt) [eOp (o2 wIx) [eV 1,eC (.int 1)],eC (.int 0)]) (f:=eV 0) (C:=[]) (m:=2) (e:=λi:Nat=>D.tup [.int i,(as.map D.ref).getD i .non]) (g:=λi:Nat=>D.int i) (b:=λi=>decide (0<(AM st.AD i).n)) (S:=S) hS.guard (xs:=uJ st.AD.length) (acc:=[]) (os:=[none,none]) rfl (uA (show _<=50 by simp;lia) (AO (by decide))) (by
  intro i hi os ho
  obtain⟨o1,o2,rfl⟩:=YF ho
  obtain⟨a,a1,a2,a3⟩:=hS.at (zS.mp hi)
  have e:(as.map D.ref).getD i .non=.ref a:=by simp[a1]
  rw[e]
  refine⟨[Gc (.int i),Gc (.ref a)],rfl,by simp,?_,by simp⟩
  simp[As a2,C3])
 rw[LC,uX,hS.len]
 exact this
theorem NB{i:Nat}(h:i∈Cz st):i<st.AD.length/\0<(AM st.AD i).n:=by
 unfold Cz at h
 rw[wR]at h
 exact⟨zS.mp h.1,by simpa using h.2⟩
noncomputable def GP(st:Stt)(j:Nat):KE Nat:=(Cz st).filter λi=> !(i==j) && ((AM st.AD i).k==(AM st.AD j).k)
theorem QH:(Cz st).length<=st.AD.length:=by
 unfold Cz
 exact uA (vv _ _) (by simp)
theorem aT{a b:Nat}:((a:Int)==(b:Int))=(a==b):=by
 by_cases h:a=b
 .subst h;simp
 .have:((a:Int)==(b:Int))=false:=by simp;lia
  rw[this];simp[h]
theorem eG(hS:SAt S s l m as st)(hl:st.AD.length<=50){j:Nat}(hj:j∈Cz st):CU [] (tNm 2) (OF (eOp (o2 wNe) [eV 2,eV 1]) (eOp (o2 wEq) [eOp (o2 wIx) [eOp (o2 wIx) [eV 0,eV 2],eC (.int 0)],eOp (o2 wIx) [eOp (o2 wIx) [eV 0,eV 1],eC (.int 0)]])) (eV 2) (Bn (Cz st)) [] [Gc (.ref l),Gc (.int j),none] S=Gc (Bn (GP st j),S):=by
 have fl:=QH (st:=st)
 exact DJ (gs:=[]) (t:=tNm 2) (f:=eV 2) (C:=[Gc (.ref l),Gc (.int j)]) (m:=1) (e:=λi:Nat=>D.int i) (g:=λi:Nat=>D.int i) (b:=λi=> !(i==j) && ((AM st.AD i).k==(AM st.AD j).k)) (S:=S) AZ (xs:=Cz st) (acc:=[]) (os:=[none]) rfl (uA (show _<=50 by simp;lia) (AO (by decide))) (by
  intro i hi os ho
  obtain⟨o1,rfl⟩:=ON ho
  obtain⟨a,a1,a2,a3⟩:=hS.at (NB hi).1
  obtain⟨b,b1,b2,b3⟩:=hS.at (NB hj).1
  refine⟨[Gc (.int i)],rfl,by simp,?_,by simp⟩
  by_cases e:i=j
  .subst e
   simp
  .have e':((i:Int)==(j:Int))=false:=by simp;lia
   have e2:(i==j)=false:=by simp[e]
   simp[e',e2,As hS.lo,a3,b3,As a2,As b2,C3,aT])
theorem aA{i j:Nat}(h:i∈GP st j):i∈Cz st/\i≠j/\(AM st.AD i).k=(AM st.AD j).k:=by
 unfold GP at h
 rw[wR]at h
 simp at h
 exact⟨h.1,h.2.1,h.2.2⟩
noncomputable def HW(st:Stt):KE Nat:=(uJ 10).filter λi=> !(st.nums.any λu=>u==(i:Int))
theorem Ur{us:KE Int}{i:Int}:inD (.int i) (us.map D.int)=us.any λu=>u==i:=by
 unfold inD
 rw[List.any_map]
 rfl
@[simp] theorem mh{b:Bool}{w:Wv}{r:List D}:wIn b w (.own r)=if(Kj (fz w) && r.all Kj)=true then some (.val (.bl (if b then !inD (fz w) r else inD (fz w) r)))else none:=nr rfl
@[simp] theorem mN{b:Bool}{w:Wv}{r:List D}:wIn b w (.val (.lst r))=if(Kj (fz w) && r.all Kj)=true then some (.val (.bl (if b then !inD (fz w) r else inD (fz w) r)))else none:=nr rfl
theorem RP{us:KE Int}:(us.map D.int).all Kj=true:=by
 rw[List.all_map,List.all_eq_true]
 intro x _;rfl
@[simp] theorem qT{i:Int}:Kj (.int i)=true:=nr rfl
theorem gI(hS:SAt S s l m as st):CU [] (tNm 1) (eOp (o2 (wIn true)) [eV 1,eV 0]) (eV 1) (K4 0 10) [] [Gc (.ref m),none] S=Gc (Bn (HW st),S):=by
 exact DJ (gs:=[]) (t:=tNm 1) (f:=eV 1) (C:=[Gc (.ref m)]) (m:=1) (e:=λi:Nat=>D.int (0+(i:Int))) (g:=λi:Nat=>D.int i) (b:=λi=> !(st.nums.any λu=>u==(i:Int))) (S:=S) AZ (xs:=uJ 10) (acc:=[]) (os:=[none]) rfl (uA (show _<=50 by simp) (AO (by decide))) (by
  intro i hi os ho
  obtain⟨o1,rfl⟩:=ON ho
  refine⟨[Gc (.int i)],rfl,by simp,?_,by simp⟩
  have nu:=As hS.nu
  have fi:=RP (us:=st.nums)
  have ii:=Ur (us:=st.nums) (i:=(i:Int))
  generalize st.nums.map D.int=ud at*
  generalize (st.nums.any λu=>u==(i:Int))=bb at*
  simp[nu,fi,ii])
theorem Z9{i:Nat}(h:i∈HW st):(i:Int)∉st.nums/\i<=9:=by
 unfold HW at h
 rw[wR]at h
 have h1:=zS.mp h.1
 refine⟨?_,by lia⟩
 intro z
 have h2:=h.2
 have:(st.nums.any λu=>u==(i:Int))=true:=xY.mpr ⟨_,z,by simp⟩
 rw[this]at h2
 cases h2
theorem bO:(HW st).length<=10:=by
 unfold HW
 exact uA (vv _ _) (by simp)
theorem Zd{j:Nat}:(GP st j).length<=st.AD.length:=by
 unfold GP
 exact uA (vv _ _) QH
end
section
variable{S:Sto}{p s l m:Nat}{as:KE Nat}{st:Stt}{t:Tr}{k:Nat}
def Q4:Ex:=(Ad (xIf (OF (eOp (o2 wLt) [eV 7,eC (.int 8)]) (eOp (o2 wGt) [eOp (o2 wIx) [eV 1,eC (.int 1)],eC (.int 1)])) (Ad (Bm 11 (eOp (o2 SV) [eOp (o2 Ek) [eOp (o2 Ek) [eOp (o2 wIx) [eOp (o2 wIx) [eV 3,eV 8],eC (.int 0)],eC (.int 1)],AK AL [eV 0,eOp (o2 U1) [eOp (o2 wIx) [eV 1,eC (.int 1)],eC (.int 1)]]],eOp (o2 wIx) [eV 1,eC (.int 1)]]))
    (Ad (Bm 12 (CT [5] 1 (My [eC (.int 10)]) (tNm 1) (eOp (o2 (wIn true)) [eV 1,eV 0]) (eV 1)))
    (Ad (xIf (OF (eOp (o2 wEq) [eV 7,eC (.int 7)]) (eOp (o2 wNe) [eV 12,Lj []])) (By (CS [eC (.str "trade"),eOp (o2 wIx) [eV 12,AK AL [eV 0,eOp (o1 HN) [eV 12]]],eV 8,eV 9,eV 11,AK Bg [eV 0]])) FV)
    (By (CS [eC (.str "swap"),eV 8,eV 9,eV 11,AK Bg [eV 0]]))))) FV)
    (Ad (xIf (eOp (o2 wEq) [eV 7,eC (.int 8)]) (By (CS [eC (.str "spoil"),eV 8,eV 9])) FV)
    (Ad (xIf (OF (eOp (o2 wEq) [eV 7,eC (.int 9)]) (eOp (o2 wGt) [eOp (o2 wIx) [eV 1,eC (.int 0)],eC (.int 1)])) (Ad (Bm 13 (AK AL [eV 0,eOp (o2 wIx) [eV 1,eC (.int 0)]]))
    (By (CS [eC (.str "sell"),eV 13,eOp (o2 SV) [eOp (o2 Ek) [eOp (o2 Ek) [eV 13,eC (.int 1)],AK AL [eV 0,eOp (o2 U1) [eOp (o2 wIx) [eV 1,eC (.int 0)],eC (.int 1)]]],eOp (o2 wIx) [eV 1,eC (.int 0)]],AK Gx [eV 0]]))) FV)
    (By (CS [eC (.str "throw"),eV 8,eV 9,AK El [eV 0,eOp (o2 Ek) [eOp (o2 wIx) [eV 1,eC (.int 1)],eC (.int 1)]]])))))
def W9:Ex:=(xIf (eOp (o2 wLt) [eV 7,eC (.int 5)]) (Ad (Bm 10 (CT [3,8] 1 (GI (eV 6)) (tNm 2) (OF (eOp (o2 wNe) [eV 2,eV 1]) (eOp (o2 wEq) [eOp (o2 wIx) [eOp (o2 wIx) [eV 0,eV 2],eC (.int 0)],eOp (o2 wIx) [eOp (o2 wIx) [eV 0,eV 1],eC (.int 0)]])) (eV 2)))
    (xIf (eOp (o2 wNe) [eV 10,Lj []]) (By (CS [eC (.str "pool"),eV 8,eOp (o2 wIx) [eV 10,AK AL [eV 0,eOp (o1 HN) [eV 10]]]])) FV)) FV)
theorem Qk:Pq=(Ad (O4 (tTp [tNm 3,tNm 4,tNm 5]) (eV 2)) (Ad (Bm 6 (CT [] 2 (UA (eV 3)) (tTp [tNm 0,tNm 1]) (eOp (o2 wGt) [eOp (o2 wIx) [eV 1,eC (.int 1)],eC (.int 0)]) (eV 0))) (Ad (Bm 7 (AK AL [eV 0,eC (.int 12)])) (Ad (xIf (eOr (eOp (o2 wLt) [eV 7,eC (.int 2)]) (eOp (o2 wEq) [eV 6,Lj []])) (By (CS [eC (.str "bring"),AK AL [eV 0,eOp (o2 wIx) [eV 1,eC (.int 0)]],AK AL [eV 0,eOp (o2 wIx) [eV 1,eC (.int 1)]],AK Bg [eV 0]])) FV) (Ad (Bm 8 (eOp (o2 wIx) [eV 6,AK AL [eV 0,eOp (o1 HN) [eV 6]]])) (Ad (Bm 9 (eOp (o2 Ek) [eC (.int 1),AK AL [eV 0,eOp (o2 gq) [eOp (o2 wIx) [eOp (o2 wIx) [eV 3,eV 8],eC (.int 1)],eC (.int 2000)]]])) (Ad W9 Q4))))))):=rfl
theorem fm(hp:Gw p S)(hS:SAt S s l m as st)(hps:p∉s::l::m::as)(ht:JO t)(h:ED t k st)(hk:k<=16):∃d S',Eg [.ref p,t.d,.ref s] S=Gc (AR.d d,S')/\Pn p S S'/\Can t st d:=by
 obtain⟨t1,t2,t3,t4,t5,t6⟩:=ht
 have hlen:=h.len
 have st':∀{S':Sto},Pn p S S'->SAt S' s l m as st:=λg=>hS.same g.same (by simpa using hps)
 have r0:=AV hS.root
 have cf:=fV hS (by lia)
 have fl:=QH (st:=st)
 have sq:=G4 hS.lo
 obtain⟨way,S1,e1,a1,b1,p1⟩:=BF hp (n:=12) (by decide) (by decide)
 have okF:=Og (is:=Cz st)
 have dqF:=Qz (is:=Cz st)
 by_cases hb:way<2\/(Cz st).isEmpty=true
 .obtain⟨x2,S2,e2,a2,b2,p2⟩:=BF p1.pen (n:=t.p) (by lia) (by lia)
  obtain⟨x3,S3,e3,a3,b3,p3⟩:=BF p2.pen (n:=t.k) (by lia) (by lia)
  obtain⟨x4,S4,e4,p4,a4,b4⟩:=LG p3.pen
  obtain⟨x2,rfl⟩:=Jb a2
  obtain⟨x3,rfl⟩:=Jb a3
  refine⟨.DL x2 x3 x4,S4,?_,((p1.trans p2).trans p3).trans p4,by lia,by lia,a4,b4⟩
  by_cases hw:way<2
  .simp[Eg,Qk,r0,sq,cf,e1,Tr.d,hw,e2,e3,e4,AR.d]
  .have hf:=hb.resolve_left hw
   simp[Eg,Qk,r0,sq,cf,e1,Tr.d,hw,okF,dqF,hf,e2,e3,e4,AR.d]
 .have hw2:¬way<2:=λz=>hb (.inl z)
  have hf:(Cz st).isEmpty=false:=by
   cases z:(Cz st).isEmpty with
   |true=>exact absurd (.inr z) hb
   |false=>rfl
  have hfl:0<(Cz st).length:=by
   cases z:Cz st with
   |nil=>rw[z]at hf;cases hf
   |cons a b=>simp
  obtain⟨rl,S2,e2,a2,b2,p2⟩:=BF p1.pen (n:=(Cz st).length) (by lia) (by lia)
  obtain⟨i,mi,ei⟩:=OW a2 b2
  have fi:=NB mi
  have hS1:=st' p1
  have hS2:=st' (p1.trans p2)
  obtain⟨a,x1,x2,x3⟩:=hS2.at fi.1
  have n1:=fi.2
  obtain⟨rs,S3,e3,a3,b3,p3⟩:=BF p2.pen (n:=if 2000<(AM st.AD i).n then 2000 else(AM st.AD i).n) (by split<;>lia) (by split<;>lia)
  have hsome:1<=1+rs/\1+rs<=(AM st.AD i).n:=by split at b3<;>lia
  have p23:=(p1.trans p2).trans p3
  have hS3:=st' p23
  have lo2:=As hS2.lo
  have lo3:=As hS3.lo
  have x2':=As x2
  have x4:S3[a]?=Gc (C3 (AM st.AD i)):=hS3.ld i a _ x1 (DA fi.1)
  have x4':=As x4
  have kd:=h.kind _ (AU fi.1)
  have nl:=LY (is:=Cz st)
  have cs:=eG hS3 (by lia) mi
  have okS:=Og (is:=GP st i)
  have dqS:=Qz (is:=GP st i)
  have sl:=Zd (st:=st) (j:=i)
  have nls:=LY (is:=GP st i)
  have pre:Eg [.ref p,t.d,.ref s] S=((W9 [Gc (.ref p),Gc t.d,Gc (.ref s),Gc (.ref l),Gc (shD st.hold),Gc (.ref m),Gc (.lst (Bn (Cz st))),Gc (.int way),Gc (.int i),Gc (.int (1+rs)),none,none,none,none] S3).bind (iO Q4)).map λr=>(flD r.1,r.2.2):=by
   simp[Eg,Qk,r0,sq,cf,e1,hw2,okF,dqF,hf,nl,e2,ei,lo2,x3,x2',e3]
  have tail:∀o10,(way<5->(GP st i).isEmpty=true)->∃d S',(Q4 [Gc (.ref p),Gc t.d,Gc (.ref s),Gc (.ref l),Gc (shD st.hold),Gc (.ref m),Gc (.lst (Bn (Cz st))),Gc (.int way),Gc (.int i),Gc (.int (1+rs)),o10,none,none,none] S3).map (λr=>(flD r.1,r.2.2))=Gc (AR.d d,S')/\Pn p S S'/\Can t st d:=by
   intro o10 _
   clear pre cs okS dqS
   by_cases hsw:way<8/\1<t.k
   .obtain⟨hw8,hk1⟩:=hsw
    have hk1':(1:Int)<t.k:=by lia
    obtain⟨rk,S4,e4,a4,b4,p4⟩:=BF p3.pen (n:=(t.k:Int)-1) (by lia) (by lia)
    have hS4:=st' (p23.trans p4)
    have hmod:=X3 (x:=((AM st.AD i).k:Int)+1+rk) (K:=t.k) (by lia) (by lia)
    obtain⟨kd2,ekd⟩:∃q:Nat,((AM st.AD i).k+1+rk) % (t.k:Int)=(q:Int):=⟨_,(vF (xI _ (by lia))).symm⟩
    have hkd:kd2<t.k/\kd2≠(AM st.AD i).k:=by
     rw[ekd]at hmod
     split at hmod<;>lia
    have kp:0<t.k:=by lia
    have cl:=gI hS4
    have okL:=Og (is:=HW st)
    have dqL:=Qz (is:=HW st)
    have ll:=bO (st:=st)
    have nll:=LY (is:=HW st)
    have rt:IK 10=true:=DB (by decide) (by decide)
    by_cases htr:way=7/\(HW st).isEmpty=false
    .obtain⟨hw7,hle⟩:=htr
     have hll:0<(HW st).length:=by
      cases z:HW st with
      |nil=>rw[z]at hle;cases hle
      |cons a b=>simp
     obtain⟨ru,S5,e5,a5,b5,p5⟩:=BF p4.pen (n:=(HW st).length) (by lia) (by lia)
     obtain⟨u,mu,eu⟩:=OW a5 b5
     obtain⟨x6,S6,e6,p6,a6,b6⟩:=LG p5.pen
     have fu:=Z9 mu
     refine⟨.DQ u i (1+rs) kd2 x6,S6,?_,((p23.trans p4).trans p5).trans p6,fi.1,hsome.1,hsome.2,hkd.1,hkd.2,a6,b6,fu.1,by lia,by lia⟩
     subst hw7
     simp[Q4,Tr.d,x3,hk1',lo3,x4',e4,kp,ekd,rt,cl,okL,dqL,hle,nll,e5,eu,e6,AR.d]
    .obtain⟨x6,S6,e6,p6,a6,b6⟩:=LG p4.pen
     refine⟨.swap i (1+rs) kd2 x6,S6,?_,(p23.trans p4).trans p6,fi.1,hsome.1,hsome.2,hkd.1,hkd.2,a6,b6⟩
     by_cases h7:way=7
     .subst h7
      have hle:(HW st).isEmpty=true:=by
       cases z:(HW st).isEmpty with
       |true=>rfl
       |false=>exact absurd ⟨rfl,z⟩ htr
      simp[Q4,Tr.d,x3,hk1',lo3,x4',e4,kp,ekd,rt,cl,okL,dqL,hle,nll,e6,AR.d]
     .have h7':(way==7)=false:=by simpa using h7
      simp[Q4,Tr.d,x3,hw8,hk1',lo3,x4',e4,kp,ekd,rt,cl,h7',e6,AR.d]
   .have sw:∀(x y:Ex) (T:Sto),xIf (OF (eOp (o2 wLt) [eV 7,eC (.int 8)]) (eOp (o2 wGt) [eOp (o2 wIx) [eV 1,eC (.int 1)],eC (.int 1)])) x y [Gc (.ref p),Gc t.d,Gc (.ref s),Gc (.ref l),Gc (shD st.hold),Gc (.ref m),Gc (.lst (Bn (Cz st))),Gc (.int way),Gc (.int i),Gc (.int (1+rs)),o10,none,none,none] T=y [Gc (.ref p),Gc t.d,Gc (.ref s),Gc (.ref l),Gc (shD st.hold),Gc (.ref m),Gc (.lst (Bn (Cz st))),Gc (.int way),Gc (.int i),Gc (.int (1+rs)),o10,none,none,none] T:=by
     intro x y T
     by_cases w8:way<8
     .have hk1:¬(1:Int)<t.k:=by lia
      simp[Tr.d,w8,hk1]
     .simp[w8]
    by_cases h8:way=8
    .subst h8
     refine⟨.Ey i (1+rs),S3,?_,p23,fi.1,hsome.1,hsome.2⟩
     simp[Q4,-Sv,sw]
     simp[AR.d]
    .have h8':(way==8)=false:=by simpa using h8
     by_cases h9:way=9/\1<t.p
     .obtain⟨h9,hP⟩:=h9
      subst h9
      have hP':(1:Int)<t.p:=by lia
      obtain⟨rp,S4,e4,a4,b4,p4⟩:=BF p3.pen (n:=t.p) (by lia) (by lia)
      obtain⟨rq,S5,e5,a5,b5,p5⟩:=BF p4.pen (n:=(t.p:Int)-1) (by lia) (by lia)
      obtain⟨sh,S6,e6,p6,a6,b6,c6⟩:=Ze p5.pen
      have hmod:=X3 (x:=rp+1+rq) (K:=t.p) (by lia) (by lia)
      obtain⟨q,eq⟩:∃q:Nat,(rp+1+rq) % (t.p:Int)=(q:Int):=⟨_,(vF (xI _ (by lia))).symm⟩
      obtain⟨rp,rfl⟩:=Jb a4
      have hq:q<t.p/\q≠rp:=by
       rw[eq]at hmod
       split at hmod<;>lia
      have pp:0<t.p:=by lia
      refine⟨.JE rp q sh,S6,?_,((p23.trans p4).trans p5).trans p6,λz=>hq.2 z.symm,by lia,hq.1,a6,b6,c6⟩
      simp[Q4,-Sv,sw]
      simp[Tr.d,hP',e4,e5,pp,eq,e6,AR.d]
     .have s9:∀(x y:Ex) (T:Sto),xIf (OF (eOp (o2 wEq) [eV 7,eC (.int 9)]) (eOp (o2 wGt) [eOp (o2 wIx) [eV 1,eC (.int 0)],eC (.int 1)])) x y [Gc (.ref p),Gc t.d,Gc (.ref s),Gc (.ref l),Gc (shD st.hold),Gc (.ref m),Gc (.lst (Bn (Cz st))),Gc (.int way),Gc (.int i),Gc (.int (1+rs)),o10,none,none,none] T=y [Gc (.ref p),Gc t.d,Gc (.ref s),Gc (.ref l),Gc (shD st.hold),Gc (.ref m),Gc (.lst (Bn (Cz st))),Gc (.int way),Gc (.int i),Gc (.int (1+rs)),o10,none,none,none] T:=by
       intro x y T
       by_cases z:way=9
       .have hP:¬(1:Int)<t.p:=by have:¬1<t.p:=λw=>h9 ⟨z,w⟩;lia
        subst z
        simp[Tr.d,hP]
       .have z':(way==9)=false:=by simpa using z
        simp[z']
      obtain⟨ws,S4,e4,p4,a4,b4⟩:=WN p3.pen (n:=t.k+1) (by lia)
      have e4':El [.ref p,.int ((t.k:Int)+1)] S3=Gc (.tup (ws.map .int),S4):=e4
      refine⟨.thr i (1+rs) ws,S4,?_,p23.trans p4,fi.1,hsome.1,hsome.2,a4,b4⟩
      have s8:∀(x y:Ex) (T:Sto),xIf (eOp (o2 wEq) [eV 7,eC (.int 8)]) x y [Gc (.ref p),Gc t.d,Gc (.ref s),Gc (.ref l),Gc (shD st.hold),Gc (.ref m),Gc (.lst (Bn (Cz st))),Gc (.int way),Gc (.int i),Gc (.int (1+rs)),o10,none,none,none] T=y [Gc (.ref p),Gc t.d,Gc (.ref s),Gc (.ref l),Gc (shD st.hold),Gc (.ref m),Gc (.lst (Bn (Cz st))),Gc (.int way),Gc (.int i),Gc (.int (1+rs)),o10,none,none,none] T:=by
       intro x y T
       simp[h8']
      simp[Q4,-Sv,sw,s8,s9]
      simp[Tr.d,e4',AR.d]
  by_cases hpool:way<5/\(GP st i).isEmpty=false
  .obtain⟨hw5,hse⟩:=hpool
   have hsl:0<(GP st i).length:=by
    cases z:GP st i with
    |nil=>rw[z]at hse;cases hse
    |cons a b=>simp
   obtain⟨rj,S4,e4,a4,b4,p4⟩:=BF p3.pen (n:=(GP st i).length) (by lia) (by lia)
   obtain⟨j,mj,ej⟩:=OW a4 b4
   have fj:=aA mj
   have fj':=NB fj.1
   refine⟨.GS i j,S4,?_,p23.trans p4,λz=>fj.2.1 z.symm,fi.1,fj'.1,n1,fj'.2,fj.2.2.symm⟩
   rw[pre]
   simp[W9,hw5,cs,okS,dqS,hse,nls,e4,ej,AR.d]
  .by_cases w5:way<5
   .have hse:(GP st i).isEmpty=true:=by
     cases z:(GP st i).isEmpty with
     |true=>rfl
     |false=>exact absurd ⟨w5,z⟩ hpool
    obtain⟨d,S',e,pn,hc⟩:=tail (Gc (.lst (Bn (GP st i)))) (λ_=>hse)
    refine⟨d,S',?_,pn,hc⟩
    rw[pre,<-e]
    simp[W9,w5,cs,okS,dqS,hse]
   .obtain⟨d,S',e,pn,hc⟩:=tail none (λz=>absurd z w5)
    refine⟨d,S',?_,pn,hc⟩
    rw[pre,<-e]
    simp[W9,w5]
end
noncomputable def runs(t:Tr)(st:Stt)(ds:KE AR):Stt:=ds.foldl (step t) st
def MC(t:Tr):Stt->KE AR->Prop
 |_,[]=>True
 |st,d::ds=>Can t st d/\MC t (step t st d) ds
theorem Pg{t:Tr}{d:AR}:∀{ds:KE AR} {st:Stt},MC t st ds->Can t (runs t st ds) d->MC t st (ds++[d])
 | [],st,_,h=>⟨h,trivial⟩
 |x::ds,st,h,g=>⟨h.1,Pg h.2 g⟩
theorem LJ{t:Tr}:∀{ds:KE AR} {st:Stt} {i:Nat} {d:AR},MC t st ds->ds[i]?=Gc d->Can t (runs t st (ds.take i)) d
 |x::ds,st,0,d,h,g=>by
  simp at g;subst g
  exact h.1
 |x::ds,st,i+1,d,h,g=>by
  simp at g
  show Can t (runs t (step t st x) (ds.take i)) d
  exact LJ h.2 g
theorem RA{t:Tr}{st:Stt}{ds:KE AR}{d:AR}:runs t st (ds++[d])=step t (runs t st ds) d:=by simp[runs]
theorem LM{t:Tr}{st:Stt}{ds:KE AR}{i:Nat}{d:AR}(h:ds[i]?=Gc d):runs t st (ds.take (i+1))=step t (runs t st (ds.take i)) d:=by
 rw[AA2,h]
 exact RA
theorem Qj{t:Tr}(ht:JO t):∀{ds:KE AR} {st:Stt} {k:Nat},ED t k st->MC t st ds->k+ds.length<=17->ED t (k+ds.length) (runs t st ds)
 | [],st,k,h,_,_=>h
 |d::ds,st,k,h,g,hl=>by
  have:=Qj ht (ds:=ds) (NH ht h (by simp at hl;lia) g.1) g.2 (by simp at hl;lia)
  rw[show k+(d::ds).length=k+1+ds.length by simp;lia]
  exact this
theorem PU{t:Tr}:∀{ds:KE AR} {st:Stt} {i:Nat},MC t st ds->MC t st (ds.take i)
 | [],st,i,h=>by simp;exact trivial
 |d::ds,st,0,h=>trivial
 |d::ds,st,i+1,h=>⟨h.1,PU h.2⟩
noncomputable def st0(t:Tr)(ls:KE Ld):Stt:=⟨ls,t.ho,[]⟩
structure CK(t:Tr)(ls:KE Ld)(ds:KE AR):Prop where
 tr:JO t
 inv:ED t 0 (st0 t ls)
 good:MC t (st0 t ls) ds
 len:ds.length<=16
theorem CK.at{t:Tr}{ls:KE Ld}{ds:KE AR}(h:CK t ls ds)(i:Nat):ED t (ds.take i).length (runs t (st0 t ls) (ds.take i)):=by
 have:=Qj h.tr (ds:=ds.take i) h.inv (PU h.good) (by have:=h.len;simp;lia)
 rwa [yK]at this
noncomputable def BC(t:Tr)(ls:KE Ld)(ds:KE AR):D:=.tup [t.d,.tup (ls.map Ld.d),.tup (ds.map AR.d)]
theorem X6{t:Tr}{ls:KE Ld}(h:IT t ls)(hl:ls.length<=4)(h1:t.ho.length=t.p){g:Nat}(g0:0<g)(g1:g<=32)(g2:∀r∈t.ho,Ok g g r):ED t 0 (st0 t ls):=by
 obtain⟨ha,G,G0,G1,G2⟩:=h
 have hG:G<=32^4:=uA G1 (ux (by decide) hl)
 have hB:G*g<2^30:=by
  have:=yE hG g1
  lia
 refine ED.of (G:=G*g) (B:=G*g) (by simpa[st0]using hl) ?_ h1 (tw _) (yD G0 g0) (tw _) hB ?_
 .intro x hx
  have:=ha x hx
  exact⟨this.1,by lia,fc this.2.2.1,this.2.2.2.1,λr hr=>(G2 x hx r hr).up (tw _)⟩
 .intro r hr
  have:=(g2 r hr).up (t:=G) (B':=G*g) (by rw[xg];exact tw _)
  rwa [xg g G]at this
noncomputable def KC:AR->uv
 | .thr .. =>true
 |_=>false
section
variable{S:Sto}{p:Nat}
theorem Z6(d:AR)(E:En)(h:E=[Gc d.d]):eOp (o2 wEq) [eOp (o2 wIx) [eV 0,eC (.int 0)],eC (.str "throw")] E S=Gc (.bl (KC d),S):=by
 subst h
 cases d<;>simp[AR.d,KC]
theorem qq{q:Nat}{ds:KE AR}(hq:S[q]?=Gc (.lst (ds.map AR.d)))(hl:ds.length<=50):CU [(q,ds.map AR.d)] (tNm 0) (eOp (o2 wEq) [eOp (o2 wIx) [eV 0,eC (.int 0)],eC (.str "throw")]) (eV 0) (ds.map AR.d) [] [none] S=Gc ((ds.filter KC).map AR.d,S):=
 DJ (gs:=[(q,ds.map AR.d)]) (t:=tNm 0) (f:=eV 0) (C:=[]) (m:=1) (e:=AR.d) (g:=AR.d) (b:=KC) (S:=S) (λg hg=>by rw[uk.mp hg];exact AV hq) (xs:=ds) (acc:=[]) (os:=[none]) rfl (uA (show _<=50 by simp;lia) (AO (by decide))) (by
  intro d _ os ho
  obtain⟨o1,rfl⟩:=ON ho
  exact⟨[Gc d.d],rfl,by simp,Z6 d _ rfl,by simp⟩)
theorem fq{M:Nat}(hM:M<=16)(h:Gw p S):∃t ls ds S',IB [.ref p,.int M] S=Gc (BC t ls ds,S')/\(CK t ls ds/\ds.length<=M)/\((∀l∈ls,l.ow.sum=1)/\t.ho.sum=1)/\Gw p S':=by
 obtain⟨t,S1,e1,p1,ht,hh,g,g0,g1,g2⟩:=bR h
 obtain⟨ls,S2,e2,p2,hf,hl⟩:=bS p1.pen ht
 have hi:=X6 hf hl hh.1 g0 g1 g2
 obtain⟨s,l,m,as,S3,e3,hS,sm,hn⟩:=QS (S:=S2) (t:=t) (ls:=ls) (x:=.tup []) (by lia)
 have lp:=p2.pen.lt
 have pen3:Gw p S3:=by
  obtain⟨ds,e,hp⟩:=p2.pen
  exact⟨ds,sm.get e (by simp),hp⟩
 have hq:(S3++[Cl.lst []])[S3.length]?=Gc (.lst []):=uL
 obtain⟨rn,S4,e4,a4,b4,p4⟩:=BF (pen3.app [Cl.lst []]) (n:=(M:Int)+1) (by lia) (by lia)
 have lt3:=hS.lts
 have pn:p∉s::l::m::as:=λz=>by have:=hn p z;lia
 have qn:S3.length∉s::l::m::as:=λz=>by have:=lt3 _ z;lia
 have hpq:S3.length≠p:=by have:=pen3.lt;lia
 have hS4:SAt S4 s l m as (st0 t ls):=(hS.Tq (.app)).same p4.same (by simpa using pn)
 have hq4:S4[S3.length]?=Gc (.lst []):=p4.get hq hpq
 obtain⟨rn,rfl⟩:=Jb a4
 have rk:IK (rn:Int)=true:=DB (by lia) (by lia)
 generalize hQ:S3.length=q at*
 obtain⟨E',S',ef,ds,as',o6,o7,rfl,f1,f2,f3,f4,f5,f6,f7⟩:=Ha (gs:=[]) (t:=tNm 6) (b:=Ad (Bm 7 (AK Eg [eV 0,eV 2,eV 4]))
  (xIf (eOr (eOp (o2 wNe) [eOp (o2 wIx) [eV 7,eC (.int 0)],eC (.str "throw")]) (eOp (o2 wLt) [eOp (o1 HN) [CT [] 1 (GI (eV 5)) (tNm 0) (eOp (o2 wEq) [eOp (o2 wIx) [eV 0,eC (.int 0)],eC (.str "throw")]) (eV 0)],eC (.int 3)])) (Ad (CP (AK BZ [eV 2,eV 4,eV 7]))
  (CP (KD KJ (eV 5) [eV 7]))) FV))
  (I:=λrs E S'=>∃(ds:KE AR) (as':KE Nat) (o6 o7:tY D),E=[Gc (.ref p),Gc (.int M),Gc t.d,Gc (.tup (ls.map Ld.d)),Gc (.ref s),Gc (.ref q),o6,o7]/\S'[q]?=Gc (.lst (ds.map AR.d))/\Gw p S'/\SAt S' s l m as' (runs t (st0 t ls) ds)/\MC t (st0 t ls) ds/\ds.length+rs.length<=M/\p∉s::l::m::as'/\q∉s::l::m::as')
  (λ_ _ _ _=>AZ) (ds:=K4 0 rn) (E:=[Gc (.ref p),Gc (.int M),Gc t.d,Gc (.tup (ls.map Ld.d)),Gc (.ref s),Gc (.ref q),none,none]) (S:=S4)
  ⟨[],as,none,none,rfl,hq4,p4.pen,hS4,trivial,by rw[J1];simp;lia,pn,qn⟩ (by
    rintro dd rs E T ⟨ds,as',o6,o7,rfl,i1,i2,i3,i4,i5,i6,i7⟩
    simp only[uq]at i5
    have inv:=Qj ht hi i4 (by lia)
    rw[yK]at inv
    obtain⟨d,T1,d1,d2,d3⟩:=fm i2 i3 i6 ht inv (by lia)
    have j3:=i3.same d2.same (by simpa using i6)
    have j1:T1[q]?=Gc (.lst (ds.map AR.d)):=d2.get i1 hpq
    have tc:=qq j1 (by lia)
    by_cases hb:KC d=false\/(ds.filter KC).length<3
    .obtain⟨T2,as2,k1,k2,k3,k4⟩:=gc j3 ht inv (by lia) d3
     have lt:=j3.lts
     have q2:T2[q]?=Gc (.lst (ds.map AR.d)):=k3.get j1 i7
     have hz:ds.length<sizeLine:=t9 (show ds.length<50 by lia) (AO (by decide))
     refine⟨_,[Gc (.ref p),Gc (.int M),Gc t.d,Gc (.tup (ls.map Ld.d)),Gc (.ref s),Gc (.ref q),Gc dd,Gc d.d],T2.set q (.lst ((ds++[d]).map AR.d)),by simp;rfl,?_,ds++[d],as2,Gc dd,Gc d.d,rfl,uG (Ac q2),?_,?_,Pg i4 d3,by simp;lia,?_,?_⟩
     .have kk:=AV q2
      have w1:∀(c:Ev),eOr (eOp (o2 wNe) [eOp (o2 wIx) [eV 7,eC (.int 0)],eC (.str "throw")]) c [Gc (.ref p),Gc (.int M),Gc t.d,Gc (.tup (ls.map Ld.d)),Gc (.ref s),Gc (.ref q),Gc dd,Gc d.d] T1=if KC d=true then c [Gc (.ref p),Gc (.int M),Gc t.d,Gc (.tup (ls.map Ld.d)),Gc (.ref s),Gc (.ref q),Gc dd,Gc d.d] T1 else Gc (.bl true,T1):=by
       intro c
       cases d<;>simp[AR.d,KC]
      have sq:=G4 j1
      have hz':(ds.map AR.d).length<sizeLine:=by simpa using hz
      have hfin:(ds++[d]).map AR.d=ds.map AR.d++[d.d]:=by simp
      rw[hfin]
      generalize hDD:ds.map AR.d=DD at*
      cases ht':KC d with
      |false=>
       simp[d1,-Tn,w1,ht',k1,kk,hz']
      |true=>
       have h3:((ds.filter KC).length:Int)<3:=by
        have:=hb.resolve_left (by rw[ht'];simp)
        lia
       simp[d1,-Tn,w1,ht',sq,tc,h3,k1,kk,hz']
     .obtain⟨pd,pe,ph⟩:=d2.pen
      exact⟨pd,by rw[uE hpq];exact k3.get pe i6,ph⟩
     .rw[RA]
      exact k2.same (A:=[q]) (.set (by simp)) (by
       intro n hn z
       simp at hn;subst hn
       simp only[uF]at z i7
       rcases z with z|z|z|z
       .exact i7 (.inl z)
       .exact i7 (.inr (.inl z))
       .exact i7 (.inr (.inr (.inl z)))
       .rcases k4 _ z with w|w
        .exact i7 (.inr (.inr (.inr w)))
        .have:=Ac j1;lia)
     .intro z
      simp only[uF]at z i6
      rcases z with z|z|z|z
      .exact i6 (.inl z)
      .exact i6 (.inr (.inl z))
      .exact i6 (.inr (.inr (.inl z)))
      .rcases k4 _ z with w|w
       .exact i6 (.inr (.inr (.inr w)))
       .have:=d2.pen.lt;lia
     .intro z
      simp only[uF]at z i7
      rcases z with z|z|z|z
      .exact i7 (.inl z)
      .exact i7 (.inr (.inl z))
      .exact i7 (.inr (.inr (.inl z)))
      .rcases k4 _ z with w|w
       .exact i7 (.inr (.inr (.inr w)))
       .have:=Ac j1;lia
    .have ht':KC d=true:=by
      cases z:KC d with
      |true=>rfl
      |false=>exact absurd (.inl z) hb
     have h3:¬((ds.filter KC).length:Int)<3:=by
      have:¬(ds.filter KC).length<3:=λz=>hb (.inr z)
      lia
     refine⟨_,[Gc (.ref p),Gc (.int M),Gc t.d,Gc (.tup (ls.map Ld.d)),Gc (.ref s),Gc (.ref q),Gc dd,Gc d.d],T1,by simp;rfl,?_,ds,as',Gc dd,Gc d.d,rfl,j1,d2.pen,j3,i4,by lia,i6,i7⟩
     have w1:∀(c:Ev),eOr (eOp (o2 wNe) [eOp (o2 wIx) [eV 7,eC (.int 0)],eC (.str "throw")]) c [Gc (.ref p),Gc (.int M),Gc t.d,Gc (.tup (ls.map Ld.d)),Gc (.ref s),Gc (.ref q),Gc dd,Gc d.d] T1=if KC d=true then c [Gc (.ref p),Gc (.int M),Gc t.d,Gc (.tup (ls.map Ld.d)),Gc (.ref s),Gc (.ref q),Gc dd,Gc d.d] T1 else Gc (.bl true,T1):=by
      intro c
      cases d<;>simp[AR.d,KC]
     have sq:=G4 j1
     generalize hDD:ds.map AR.d=DD at*
     simp[d1,-Tn,w1,ht',sq,tc,h3])
 refine⟨t,ls,ds,S',?_,⟨⟨ht,hi,f4,by simp at f5;lia⟩,by simpa using f5⟩,⟨λx hx=>(hf.1 x hx).2.2.2.2,hh.2⟩,f2⟩
 have df:=As f1
 simp[IB,Pc,e1,e2,e3,hQ,e4,rk,ef,df,BC]
end
noncomputable def stD(st:Stt):D:=.tup [.lst (st.AD.map Ld.d),shD st.hold]
section
variable{S:Sto}{s l m:Nat}{as:KE Nat}{st:Stt}
theorem eQ(hS:SAt S s l m as st)(hl:st.AD.length<=50):CU [(l,as.map D.ref)] (tNm 0) Bx (eOp (o1 Ck) [eV 0]) (as.map D.ref) [] [none] S=Gc (st.AD.map Ld.d,S):=by
 have e:=Cm (gs:=[(l,as.map D.ref)]) (t:=tNm 0) (f:=eOp (o1 Ck) [eV 0]) (C:=[]) (m:=1) (e:=λz:Nat×Ld=>D.ref z.1) (g:=λz=>Ld.d z.2) hS.guard (xs:=as.zip st.AD) (acc:=[]) (os:=[none]) rfl (uA (show _<=50 by simp;lia) (AO (by decide))) (by
  intro z hz os ho
  obtain⟨q1,rfl⟩:=ON ho
  refine⟨[Gc (.ref z.1)],rfl,by simp,?_⟩
  simp[As (hS.pf hz),Ld.d])
 rw[<-Ux hS.len,<-YG hS.len Ld.d]at e
 exact e
theorem Sj{rs:KE Rat}:D.tup (rs.map aD)=shD rs:=rfl
def XD:Ev:=CS [CT [] 1 (GI (eOp (o2 wIx) [eV 1,eC (.int 0)])) (tNm 0) Bx (eOp (o1 Ck) [eV 0]),eOp (o1 Ck) [eOp (o2 wIx) [eV 1,eC (.int 1)]]]
theorem VE{E:En}(hS:SAt S s l m as st)(hl:st.AD.length<=50)(hE:at? E 1=Gc (.ref s)):XD E S=Gc (stD st,S):=by
 have r:=As hS.root
 have sq:=G4 hS.lo
 have e:=eQ hS hl
 simp[XD,hE,r,sq,e,Sj,stD]
theorem VP{t:Tr}{ls:KE Ld}{ds:KE AR}(h:CK t ls ds):∃q S',GF [BC t ls ds] S=Gc (.ref q,S')/\S'[q]?=Gc (.lst ((uJ (ds.length+1)).map λj=>stD (runs t (st0 t ls) (ds.take j))))/\Bv [] S S':=by
 have hl0:=h.inv.len
 have hl1:ls.length<=4:=hl0
 obtain⟨s,l,m,as,S1,e1,hS,sm,hn⟩:=QS (S:=S) (t:=t) (ls:=ls) (x:=.tup (ds.map AR.d)) (by lia)
 have hS:SAt S1 s l m as (st0 t ls):=hS
 have lt:=hS.lts
 have hS1:SAt (S1++[Cl.lst [stD (st0 t ls)]]) s l m as (st0 t ls):=hS.Tq .app
 have hq:(S1++[Cl.lst [stD (st0 t ls)]])[S1.length]?=Gc (.lst [stD (st0 t ls)]):=uL
 have qn:S1.length∉s::l::m::as:=λz=>by have:=lt _ z;lia
 have sn0:=λ{E:En} (hE:at? E 1=Gc (.ref s))=>VE (E:=E) hS (show ls.length<=50 by lia) hE
 have lSq:=sm.len
 generalize hQ:S1.length=q at*
 obtain⟨E',S',ef,i,as',o,f1,f2,rfl,f3,f4,f5,f6,f7⟩:=Ha (gs:=[]) (t:=tNm 3) (b:=Ad (CP (AK BZ [eOp (o2 wIx) [eV 0,eC (.int 0)],eV 1,eV 3]))
  (CP (KD KJ (eV 2) [XD])))
  (I:=λrs E S'=>∃(i:Nat) (as':KE Nat) (o:tY D),rs=(ds.drop i).map AR.d/\i<=ds.length/\E=[Gc (BC t ls ds),Gc (.ref s),Gc (.ref q),o]/\S'[q]?=Gc (.lst ((uJ (i+1)).map λj=>stD (runs t (st0 t ls) (ds.take j))))/\SAt S' s l m as' (runs t (st0 t ls) (ds.take i))/\q∉s::l::m::as'/\(∀n∈s::l::m::as',S.length<=n)/\Bv [] S S')
  (λ_ _ _ _=>AZ) (ds:=ds.map AR.d) (E:=[Gc (BC t ls ds),Gc (.ref s),Gc (.ref q),none]) (S:=S1++[Cl.lst [stD (st0 t ls)]])
  ⟨0,as,none,by simp,ve _,rfl,by rw[hq];rfl,hS1,qn,hn,sm.trans .app⟩ (by
    rintro dd rs E T ⟨i,as',o,i1,i2,rfl,i3,i4,i5,i6,i7⟩
    have hlt:i<ds.length:=by
     rcases xo i ds.length with w|w
     .exact w
     .rw[vo w]at i1;cases i1
    rw[vD hlt,t8]at i1
    injection i1 with z1 z2
    subst z1 z2
    have inv:=h.at i
    have il:(ds.take i).length<=16:=by have:=h.len;simp;lia
    have can:=LJ h.good (t7 hlt)
    obtain⟨T2,as2,k1,k2,k3,k4⟩:=gc i4 h.tr inv il can
    have q2:=k3.get i3 i5
    rw[<-LM (t7 hlt)]at k2
    have inv2:=(h.at (i+1)).len
    have il2:(ds.take (i+1)).length<=16:=by have:=h.len;simp;lia
    have sn:=VE (E:=[Gc (BC t ls ds),Gc (.ref s),Gc (.ref q),Gc ds[i].d]) k2 (by lia) rfl
    have kk:=AV q2
    have q5:q∉s::l::m::as2:=by
     intro z
     simp only[uF]at z i5
     rcases z with z|z|z|z
     .exact i5 (.inl z)
     .exact i5 (.inr (.inl z))
     .exact i5 (.inr (.inr (.inl z)))
     .rcases k4 _ z with w|w
      .exact i5 (.inr (.inr (.inr w)))
      .have:=Ac i3;lia
    have q6:∀n∈s::l::m::as2,S.length<=n:=by
     intro n hz
     simp only[uF]at hz i6
     rcases hz with z|z|z|z
     .exact i6 n (.inl z)
     .exact i6 n (.inr (.inl z))
     .exact i6 n (.inr (.inr (.inl z)))
     .rcases k4 _ z with w|w
      .exact i6 n (.inr (.inr (.inr w)))
      .exact uA i7.len w
    have q7:Bv [] S T2:=Bv.new (A:=[]) i7 k3 i6
    refine⟨_,[Gc (BC t ls ds),Gc (.ref s),Gc (.ref q),Gc ds[i].d],T2.set q (.lst ((uJ (i+1+1)).map λj=>stD (runs t (st0 t ls) (ds.take j)))),by simp;rfl,?_,i+1,as2,Gc ds[i].d,rfl,hlt,rfl,uG (Ac q2),k2.same (A:=[q]) (.set (by simp)) (by simpa using q5),q5,q6,Bv.new (A:=[]) (B:=[q]) q7 (.set (by simp)) (by intro n hn';simp at hn';lia)⟩
    have hz:((uJ (i+1)).map λj=>stD (runs t (st0 t ls) (ds.take j))).length<sizeLine:=t9 (show _<50 by have:=h.len;simp;lia) (AO (by decide))
    have hfin:((uJ (i+1+1)).map λj=>stD (runs t (st0 t ls) (ds.take j)))=((uJ (i+1)).map λj=>stD (runs t (st0 t ls) (ds.take j)))++[stD (runs t (st0 t ls) (ds.take (i+1)))]:=by
     rw[List.range_succ,vU];rfl
    rw[hfin]
    generalize ((uJ (i+1)).map λj=>stD (runs t (st0 t ls) (ds.take j)))=DD at*
    generalize stD (runs t (st0 t ls) (ds.take (i+1)))=d2 at*
    simp only[BC]at sn⊢
    simp[k1,kk,sn,hz])
 have hz:i=ds.length:=by
  have:=congrArg yY f1
  simp at this
  lia
 subst hz
 refine⟨q,S',?_,f3,f7⟩
 have eb:MO=(Ad (Bm 1 (AK Dl [eV 0]))
  (Ad (Bm 2 (J8 [XD]))
  (Ad (JI (GI (eOp (o2 wIx) [eV 0,eC (.int 2)])) (tNm 3) (Ad (CP (AK BZ [eOp (o2 wIx) [eV 0,eC (.int 0)],eV 1,eV 3]))
  (CP (KD KJ (eV 2) [XD]))))
  (By (eV 2))))):=rfl
 have s1:=sn0 (E:=[Gc (BC t ls ds),Gc (.ref s),none,none]) rfl
 unfold GF
 rw[eb]
 simp only[BC]at s1 ef⊢
 simp[e1,s1,hQ,ef]
end
theorem Sl{n m d:Nat}(h:n<=m):HT.sIx m d (Gc (n:Int))=n:=by
 unfold HT.sIx
 have:¬((n:Int)<0):=by lia
 simp[this]
 lia
theorem Kw{α:Type}{ds:KE α}{n:Nat}(h:n<=ds.length):Nl ds none (Gc (n:Int))=ds.take n:=by
 unfold Nl
 rw[Sl h]
 simp[HT.sIx]
theorem ab{α:Type}{ds:KE α}{n:Nat}(h:n<=ds.length):Nl ds (Gc (n:Int)) none=ds.drop n:=by
 unfold Nl
 rw[Sl h]
 simp[HT.sIx]
 exact vn (by simp)
noncomputable def hD(x:Ld):D:=.tup [.int x.k,.int x.n]
noncomputable def A7(ls:KE Ld):D:=.lst (ls.map hD)
noncomputable def MF(ls:KE Ld):D:=.lst (ls.map λx=>shD x.ow)
section
variable{S:Sto}{ls:KE Ld}{i j:Nat}{n:Int}
@[simp] theorem oU:dr S (A7 ls)=.val (A7 ls):=nr rfl
@[simp] theorem qR:dr S (MF ls)=.val (MF ls):=nr rfl
@[simp] theorem lA:asS (.val (A7 ls))=some (ls.map hD):=nr rfl
@[simp] theorem k6:asS (.val (MF ls))=some (ls.map λx=>shD x.ow):=nr rfl
@[simp] theorem lF:HN (.val (A7 ls))=some (.val (.int ls.length)):=by
  show HN (.val (.lst (ls.map hD)))=_
  rw[ZN,uX]
theorem EC(hi:i<ls.length):atI (ls.map hD) (i:Int)=Gc (hD (AM ls i)):=DF (by rw[uN,DA hi];rfl)
theorem Hj(hi:i<ls.length):atI (ls.map λx=>shD x.ow) (i:Int)=Gc (shD (AM ls i).ow):=DF (by rw[uN,DA hi];rfl)
@[simp] theorem sC{x:Ld}:dr S (hD x)=.val (.tup [.int x.k,.int x.n]):=nr rfl
@[simp] theorem qe{ts:List Tf}{x:Ld}{E:En}:tTp ts (hD x) E S=tMs ts [.int x.k,.int x.n] E S:=nr rfl
theorem RD(hi:i<ls.length)(hn:n<=(AM ls i).n):Co [A7 ls,.int i,.int n] S=Gc (.bl true,S):=by
 have hi':(i:Int)<ls.length:=by lia
 simp[Co,KH,hi',hi,EC hi,hn]
theorem To(hi:i<ls.length)(hj:j<ls.length)(h1:0<(AM ls i).n)(h2:0<(AM ls j).n)(hk:(AM ls i).k=(AM ls j).k):HS [A7 ls,.int i,.int j] S=Gc (.bl true,S):=by
 have e1:=RD (S:=S) (n:=1) hi (by lia)
 have e2:=RD (S:=S) (n:=1) hj (by lia)
 simp[HS,MZ,e1,e2,EC hi,EC hj,hk]
theorem NV{k:Nat}(hi:i<ls.length)(hn:n<=(AM ls i).n)(hk:k≠(AM ls i).k):F9 [A7 ls,.int i,.int n,.int k] S=Gc (.bl true,S):=by
 have e1:=RD (S:=S) hi hn
 have e2:(((AM ls i).k:Int)==(k:Int))=false:=by simp;lia
 simp[F9,Mm,e1,EC hi,e2]
theorem bX{lo hi:tY Int}:wSl lo hi (.val (A7 ls))=Gc (.own (Nl (ls.map hD) lo hi)):=nr rfl
theorem Gh(hi:i<ls.length)(hl:ls.length<=60):CA [A7 ls,.int i,.int n] S=Gc (A7 (less ls i n),S):=by
 have c1:=Kw (ds:=ls.map hD) (n:=i) (by simp;lia)
 have c2:Nl (ls.map hD) (Gc ((i:Int)+1)) none=(ls.map hD).drop (i+1):=by
  have:=ab (ds:=ls.map hD) (n:=i+1) (by simp;lia)
  simpa using this
 have ef:A7 (less ls i n)=.lst ((ls.map hD).take i++[.tup [.int (AM ls i).k,.int ((AM ls i).n-n)]]++(ls.map hD).drop (i+1)):=by
  rw[SY,A7,wd,List.set_eq_take_append_cons_drop,uZ (by simpa using hi)]
  simp[hD]
 have z1:(List.take i (ls.map hD)).length+1<=sizeLine:=uA (show _<=100 by simp;lia) (AO (by decide))
 have z2:(List.take i (ls.map hD)++[D.tup [.int (AM ls i).k,.int ((AM ls i).n-n)]]).length+(List.drop (i+1) (ls.map hD)).length<=sizeLine:=uA (show _<=100 by simp;lia) (AO (by decide))
 rw[ef]
 have ah:=EC hi
 have ws:=λ{lo hi:tY Int}=>bX (ls:=ls) (lo:=lo) (hi:=hi)
 generalize List.take i (ls.map hD)=A at*
 generalize List.drop (i+1) (ls.map hD)=B at*
 simp only[vL,uq,yU]at z2
 simp[CA,Iv,ah,ws,c1,c2,z1,z2]
end
section
variable{S:Sto}{st:Stt}{t:Tr}{k:Nat}
@[simp] theorem Fz{ls:List Ld}{r:List D}:Ek (.val (A7 ls)) (.val (.lst r))=if(ls.map hD).length+r.length<=sizeLine then some (.own (ls.map hD++r))else none:=nr rfl
theorem NG{ls:KE Ld}{y:Ld}:D.lst (ls.map hD++[.tup [.int y.k,.int y.n]])=A7 (ls++[y]):=by simp[A7,hD]
theorem Kz(h:ED t k st)(hk:k<=17){d:AR}(hc:Can t st d):Af [A7 st.AD,d.d] S=Gc (A7 (step t st d).AD,S):=by
 have hlen:=h.len
 have hz:(st.AD.map hD).length+1<=sizeLine:=uA (show _<=100 by simp;lia) (AO (by decide))
 have hz2:∀{i:Nat} {n:Int},((less st.AD i n).map hD).length+1<=sizeLine:=λ{i n}=>uA (show _<=100 by simp[Ar];lia) (AO (by decide))
 cases d with
 |DL p kd n=>
  have e:=NG (ls:=st.AD) (y:=⟨kd,n,Ia t.p p⟩)
  show _=Gc (A7 (st.AD++[⟨kd,n,Ia t.p p⟩]),S)
  rw[<-e]
  have wA:=Fz (ls:=st.AD) (r:=[.tup [.int kd,.int n]])
  rw[uZ (by simpa using hz)]at wA
  simp[Af,B6,AR.d,-Fz,wA]
 |GS i j=>
  obtain⟨hij,hi,hj,h1,h2,h3⟩:=hc
  have e0:AM (less st.AD i (AM st.AD i).n) j=AM st.AD j:=by
   unfold AM less
   rw[tu,uE hij,<-tu]
  have w1:=Gh (S:=S) (n:=(AM st.AD i).n) hi (by lia)
  have w2:=Gh (S:=S) (ls:=less st.AD i (AM st.AD i).n) (i:=j) (n:=(AM st.AD j).n) (by rw[Ar];exact hj) (by rw[Ar];lia)
  have z3:((less (less st.AD i (AM st.AD i).n) j (AM st.AD j).n).map hD).length+1<=sizeLine:=uA (show _<=100 by simp[Ar];lia) (AO (by decide))
  have e:=NG (ls:=less (less st.AD i (AM st.AD i).n) j (AM st.AD j).n) (y:=⟨(AM st.AD i).k,(AM st.AD i).n+(AM st.AD j).n,Ax (AM st.AD i).n (AM st.AD j).n (AM st.AD i).ow (AM st.AD j).ow⟩)
  show _=Gc (A7 (less (less st.AD i (AM st.AD i).n) j (AM st.AD j).n++[_]),S)
  rw[<-e]
  have a1:=EC hi
  have a2:=EC hj
  have wA:=Fz (ls:=less (less st.AD i (AM st.AD i).n) j (AM st.AD j).n) (r:=[.tup [.int (AM st.AD i).k,.int ((AM st.AD i).n+(AM st.AD j).n)]])
  rw[uZ (by simpa using z3)]at wA
  generalize (less (less st.AD i (AM st.AD i).n) j (AM st.AD j).n).map hD=A at*
  simp[Af,B6,AR.d,a1,a2,w1,w2,-Fz,wA]
 |swap i g kd n=>
  obtain⟨hi,h1,h2,h3,h4,h5,h6⟩:=hc
  have w1:=Gh (S:=S) (n:=g) hi (by lia)
  have e:=NG (ls:=less st.AD i g) (y:=⟨kd,n,(AM st.AD i).ow⟩)
  show _=Gc (A7 (less st.AD i g++[⟨kd,n,(AM st.AD i).ow⟩]),S)
  rw[<-e]
  have wA:=Fz (ls:=less st.AD i g) (r:=[.tup [.int kd,.int n]])
  rw[uZ (by simpa using hz2)]at wA
  simp[Af,B6,AR.d,w1,-Fz,wA]
 |DQ u i g kd n=>
  obtain⟨hi,h1,h2,h3,h4,h5,h6,h7⟩:=hc
  have w1:=Gh (S:=S) (n:=g) hi (by lia)
  have e:=NG (ls:=less st.AD i g) (y:=⟨kd,n,(AM st.AD i).ow⟩)
  show _=Gc (A7 (less st.AD i g++[⟨kd,n,(AM st.AD i).ow⟩]),S)
  rw[<-e]
  have wA:=Fz (ls:=less st.AD i g) (r:=[.tup [.int kd,.int n]])
  rw[uZ (by simpa using hz2)]at wA
  simp[Af,B6,AR.d,w1,-Fz,wA]
 |Ey i n=>
  obtain⟨hi,h1,h2⟩:=hc
  have w1:=Gh (S:=S) (n:=n) hi (by lia)
  show _=Gc (A7 (less st.AD i n),S)
  simp[Af,B6,AR.d,w1]
 |thr i n ws=>
  obtain⟨hi,h1,h2,h3,h4⟩:=hc
  have w1:=Gh (S:=S) (n:=n) hi (by lia)
  have e:A7 (step t st (.thr i n ws)).AD=A7 (less st.AD i n):=by
   show D.lst (((less st.AD i n).map _).map hD)=_
   rw[uc];rfl
  rw[e]
  simp[Af,B6,AR.d,w1]
 |JE p q x=>
  have e:A7 (step t st (.JE p q x)).AD=A7 st.AD:=by
   show D.lst ((st.AD.map _).map hD)=_
   rw[uc];rfl
  rw[e]
  simp[Af,B6,AR.d]
noncomputable def JD:AR->tY Int
 | .DQ u .. =>Gc u
 |_=>none
theorem Wt{ls:KE Ld}:∀{ds:KE AR},(runs t (st0 t ls) ds).nums=ds.filterMap JD:=by
 intro ds
 have:∀(ds:KE AR) (st:Stt),(runs t st ds).nums=st.nums++ds.filterMap JD:=by
  intro ds
  induction ds with
  |nil=>intro st;simp[runs]
  |cons d ds ih=>
   intro st
   show(runs t (step t st d) ds).nums=_
   rw[ih]
   cases d<;>simp[step,JD,vJ]
 rw[this];rfl
theorem MS:∀{ds:KE AR} {acc:KE D} {o:tY D},acc.length+ds.length<=100->CU [] (tNm 0) (eOp (o2 wEq) [eOp (o2 wIx) [eV 0,eC (.int 0)],eC (.str "trade")]) (eOp (o2 wIx) [eV 0,eC (.int 1)]) (ds.map AR.d) acc [o] S=Gc (acc++(ds.filterMap JD).map D.int,S)
 | [],acc,o,h=>by rw[u4,GH AZ];simp
 |d::ds,acc,o,h=>by
  have hz:acc.length<sizeLine:=t9 (show acc.length<101 by simp at h;lia) (AO (by decide))
  have ht:tNm 0 d.d [o] S=Gc [Gc d.d]:=by simp
  rw[t8]
  cases d with
  |DQ u i g kd n=>
   rw[Jq AZ hz ht (S1:=S) (by simp[AR.d])]
   have:eOp (o2 wIx) [eV 0,eC (.int 1)] [Gc (AR.DQ u i g kd n).d] S=Gc (.int u,S):=by simp[AR.d]
   rw[this,Ap,MS (by simp at h ⊢; lia)]
   simp[JD,vJ]
  |DL=>rw[Ko AZ hz ht (S1:=S) (by simp[AR.d]),MS (by simp at h ⊢; lia)];simp[JD,vJ]
  |GS=>rw[Ko AZ hz ht (S1:=S) (by simp[AR.d]),MS (by simp at h ⊢; lia)];simp[JD,vJ]
  |swap=>rw[Ko AZ hz ht (S1:=S) (by simp[AR.d]),MS (by simp at h ⊢; lia)];simp[JD,vJ]
  |Ey=>rw[Ko AZ hz ht (S1:=S) (by simp[AR.d]),MS (by simp at h ⊢; lia)];simp[JD,vJ]
  |thr=>rw[Ko AZ hz ht (S1:=S) (by simp[AR.d]),MS (by simp at h ⊢; lia)];simp[JD,vJ]
  |JE=>rw[Ko AZ hz ht (S1:=S) (by simp[AR.d]),MS (by simp at h ⊢; lia)];simp[JD,vJ]
theorem Xn{ds:KE AR}{d:AR}(hd:ds.length<=50)(hn:st.nums=ds.filterMap JD)(hc:Can t st d):C0 [A7 st.AD,.tup (ds.map AR.d),d.d] S=Gc (.bl true,S):=by
 cases d with
 |DL p kd n=>simp[C0,Eb,AR.d]
 |GS i j=>
  obtain⟨hij,hi,hj,h1,h2,h3⟩:=hc
  have e:=To (S:=S) hi hj h1 h2 h3
  simp[C0,Eb,AR.d,e]
 |swap i g kd n=>
  obtain⟨hi,h1,h2,h3,h4,h5,h6⟩:=hc
  have e:=NV (S:=S) (k:=kd) hi h2 h4
  simp[C0,Eb,AR.d,e]
 |DQ u i g kd n=>
  obtain⟨hi,h1,h2,h3,h4,h5,h6,h7,h8⟩:=hc
  have e:=NV (S:=S) (k:=kd) hi h2 h4
  have tc:=MS (S:=S) (ds:=ds) (acc:=[]) (o:=none) (by simp;lia)
  rw[<-hn]at tc
  have fi:=RP (us:=st.nums)
  have ii:=Ur (us:=st.nums) (i:=u)
  have iu:(st.nums.any λx=>x==u)=false:=by
   rw[List.any_eq_false]
   intro x hx z
   have:x=u:=by simpa using z
   exact h7 (this▸hx)
  rw[iu]at ii
  generalize st.nums.map D.int=ud at*
  simp[C0,Eb,AR.d,tc,fi,ii,e]
 |Ey i n=>
  obtain⟨hi,h1,h2⟩:=hc
  have e:=RD (S:=S) hi h2
  simp[C0,Eb,AR.d,e]
 |thr i n ws=>
  obtain⟨hi,h1,h2,h3,h4⟩:=hc
  have e:=RD (S:=S) hi h2
  simp[C0,Eb,AR.d,e]
 |JE p q x=>simp[C0,Eb,AR.d]
end
section
variable{S:Sto}{st:Stt}{t:Tr}{k:Nat}
theorem ZL{ss os:KE Rat}:Pm (ss.map aD) (os.map aD)=(ss.zip os).map λz=>D.tup [aD z.1,aD z.2]:=by
 unfold Pm
 rw[List.zip_map,uc]
 rfl
noncomputable def gY(w m:Int)(ss os:KE Rat):KE Rat:=yq (λs o=>(s*w+o*m) / (w+m)) ss os
theorem Df{w m:Int}{ss os:KE Rat}{j n:Nat}(hs:∀r∈ss,Sz j r)(ho:∀r∈os,Sz j r)(hw:w.natAbs<2^n)(hm:m.natAbs<2^n)(h:0<w+m)(hj:2*j+n+1<=7990)(hl:ss.length<=50):DK [shD ss,.int w,shD os,.int m] S=Gc (shD (gY w m ss os),S):=by
 have e:=Cm (gs:=[]) (t:=tTp [tNm 2,tNm 3]) (f:=AK Jr [eV 2,eV 0,eV 3,eV 1]) (C:=[Gc (.int w),Gc (.int m)]) (m:=2) (e:=λz:Rat×Rat=>D.tup [aD z.1,aD z.2]) (g:=λz=>aD ((z.1*w+z.2*m) / (w+m))) (S:=S) AZ (xs:=ss.zip os) (acc:=[]) (os:=[none,none]) rfl (uA (show _<=50 by simp;lia) (AO (by decide))) (by
  intro z hz os' ho'
  obtain⟨q1,q2,rfl⟩:=YF ho'
  have hm2:=xq (a:=z.1) (b:=z.2) hz
  have l:=jm (S:=S) (hs _ hm2.1) (ho _ hm2.2) hw hm h (by lia)
  refine⟨[Gc (aD z.1),Gc (aD z.2)],rfl,by simp,?_⟩
  simp[l])
 rw[<-ZL]at e
 have em:(ss.zip os).map (λz=>aD ((z.1*w+z.2*m) / (w+m)))=(gY w m ss os).map aD:=by
  unfold gY
  rw[<-List.map_uncurry_zip_eq_zipWith,uc]
  rfl
 rw[em]at e
 simp only[uj,uV]at e
 simp[DK,JB,e,Sj]
theorem Ih{P p:Nat}(hP:P<=50):Bz [.int P,.int p] S=Gc (shD (Ia P p),S):=by
 have e:=QN (S:=S) (P:=P) (p:=p) (cond:=0) (C:=[]) (dd:=.int p) (f:=eIf (eOp (o2 wEq) [eV 1,eV 0]) (eC Wd) (eC E5)) hP (by
  intro i
  by_cases hi:i=p
  .subst hi;simp;rfl
  .have:((i:Int)==(p:Int))=false:=by simp;lia
   simp[this,hi];rfl)
 have rn:IK (P:Int)=true:=DB (by lia) (by lia)
 simp[Bz,KR,rn,e,Sj]
theorem IY{n m:Int}{ss os:KE Rat}:gY n m ss os=Ax n m ss os:=by
 unfold gY Ax
 congr 1
 funext s o
 push_cast
 rfl
theorem Nr{n m:Int}{ss os:KE Rat}:Ax n m ss os=Ax m n os ss:=by
 unfold Ax
 rw[List.zipWith_comm]
 congr 1
 funext o s
 push_cast
 grind
@[simp] theorem XM{a b:Int}:HE [a,b]=if a<=b then [a,b]else [b,a]:=by
  unfold HE
  simp[List.mergeSort,ABe,List.merge]
@[simp] theorem eS{a b:Int}:Qe (.val (.lst [.int a,.int b]))=some (.own ((if a<=b then [a,b]else [b,a]).map D.int)):=by
  have:Qe (.val (.lst [.int a,.int b]))=Gc (.own ((HE [a,b]).map D.int)):=rfl
  rw[this,XM]
@[simp] theorem k9{a b c d e:D}:atI [a,b,c,d,e] (-4)=some b:=nr rfl
@[simp] theorem k8{a b c d e f:D}:atI [a,b,c,d,e,f] (-4)=some c:=nr rfl
theorem Wr{i j:Nat}(ht:JO t)(h:ED t k st)(hk:k<=17)(hc:Can t st (.GS i j)):Ae [A7 st.AD,MF st.AD,(AR.GS i j).d] S=Gc (shD (Ax (AM st.AD i).n (AM st.AD j).n (AM st.AD i).ow (AM st.AD j).ow),S):=by
 obtain⟨hij,hi,hj,h1,h2,h3⟩:=hc
 have sz:=h.sz
 have pi:=h.pcs _ (AU hi)
 have pj:=h.pcs _ (AU hj)
 have ti:=h.own _ (AU hi)
 have tj:=h.own _ (AU hj)
 have zi:=sz.1 _ (AU hi)
 have zj:=sz.1 _ (AU hj)
 have hp:t.p<=10:=by have:=ht.2.1;lia
 .by_cases hle:i<=j
  .have hle':(i:Int)<=j:=by lia
   have e:=Df (S:=S) (j:=30+170*k) (n:=131+k) zi zj (EV pi.1 pi.2) (EV pj.1 pj.2) (by lia) (by lia) (by lia)
   rw[IY]at e
   have a1:=EC hi
   have a2:=EC hj
   have b1:=Hj hi
   have b2:=Hj hj
   have mf:Ag [(AR.GS i j).d] S=Gc (.lst [.int i,.int j],S):=by
    simp[Ag,BJ,AR.d,hle,hle']
   simp only[AR.d]at mf⊢
   simp[Ae,Bc,mf,a1,a2,b1,b2,e]
  .have hle':¬(i:Int)<=j:=by lia
   have e:=Df (S:=S) (j:=30+170*k) (n:=131+k) zj zi (EV pj.1 pj.2) (EV pi.1 pi.2) (by lia) (by lia) (by lia)
   rw[IY,Nr]at e
   have a1:=EC hi
   have a2:=EC hj
   have b1:=Hj hi
   have b2:=Hj hj
   have mf:Ag [(AR.GS i j).d] S=Gc (.lst [.int j,.int i],S):=by
    simp[Ag,BJ,AR.d,hle,hle']
   simp only[AR.d]at mf⊢
   simp[Ae,Bc,mf,a1,a2,b1,b2,e]
theorem YJ{i kd:Nat}{g n:Int}(hi:i<st.AD.length):Ae [A7 st.AD,MF st.AD,(AR.swap i g kd n).d] S=Gc (shD (AM st.AD i).ow,S):=by
 have b1:=Hj hi
 simp[Ae,Bc,Ag,BJ,AR.d,b1]
theorem Vk{i kd:Nat}{u g n:Int}(hi:i<st.AD.length):Ae [A7 st.AD,MF st.AD,(AR.DQ u i g kd n).d] S=Gc (shD (AM st.AD i).ow,S):=by
 have b1:=Hj hi
 simp[Ae,Bc,Ag,BJ,AR.d,b1]
theorem ae{ws:KE Int}(h:ED t k st)(hk:k<=17)(hl:ws.length=t.k+1)(hw:∀w∈ws,1<=w/\w<=99):EO [t.d,A7 st.AD,.tup (ws.map D.int)] S=Gc (.int (FQ t st.AD ws),S):=by
 have hlen:=h.len
 have e:=Cm (gs:=[]) (t:=tTp [tNm 1,tNm 2]) (f:=eOp (o2 C7) [eV 2,eOp (o2 wIx) [eV 0,eV 1]]) (C:=[Gc (.tup (ws.map D.int))]) (m:=2) (e:=hD) (g:=λx=>D.int (x.n*ws.getD x.k 0)) (S:=S) AZ (xs:=st.AD) (acc:=[]) (os:=[none,none]) rfl (uA (show _<=50 by simp;lia) (AO (by decide))) (by
  intro x hx os ho
  obtain⟨q1,q2,rfl⟩:=YF ho
  have hkk:=h.kind _ hx
  have w1:=UE (ws:=ws) (i:=x.k) (by lia)
  have w2:=OZ hw (i:=x.k) (by lia)
  have m1:Ep x.n (ws.getD x.k 0)=true:=mulR (by lia) (by lia)
  generalize ws.getD x.k 0=wz at*
  refine⟨[Gc (.int x.k),Gc (.int x.n)],rfl,by simp,?_⟩
  simp[w1,m1])
 simp only[uj,uV]at e
 have es:LQ (st.AD.map λx=>D.int (x.n*ws.getD x.k 0))=Gc (st.AD.map λx=>x.n*ws.getD x.k 0):=by
  have:=GB (st.AD.map λx=>x.n*ws.getD x.k 0)
  rwa [uc]at this
 have w2:=Q6 hl
 have w4:=OZ hw (i:=t.k) (by lia)
 have m2:Ep (t.b:Int) (ws.getD t.k 0)=true:=mulR (by lia) (by lia)
 have e2:FQ t st.AD ws=(st.AD.map λx=>x.n*ws.getD x.k 0).sum+t.b*ws.getD t.k 0:=rfl
 rw[e2]
 have sq:sqD S (A7 st.AD)=Gc (st.AD.map hD,[]):=rfl
 generalize (st.AD.map λx=>x.n*ws.getD x.k 0)=es' at*
 generalize (st.AD.map λx=>D.int (x.n*ws.getD x.k 0))=es2 at*
 generalize ws.getD t.k 0=wb at*
 simp[EO,Iz,Tr.d,sq,e,es,w2,m2]
theorem gD{i:Nat}{n:Int}{ws:KE Int}(ht:JO t)(h:ED t k st)(hk:k<=17)(hc:Can t st (.thr i n ws)):Er [t.d,A7 st.AD,(AR.thr i n ws).d] S=Gc (aD (Ki t st.AD i n ws),S):=by
 obtain⟨hi,h1,h2,hl,hw⟩:=hc
 have a:=LO ht h (by lia) hl hw
 have w1:=UE (ws:=ws) (i:=(AM st.AD i).k) (by have:=h.kind _ (AU hi);lia)
 have w3:=OZ hw (i:=(AM st.AD i).k) (by have:=h.kind _ (AU hi);lia)
 have m1:Ep n (ws.getD (AM st.AD i).k 0)=true:=mulR (by lia) (by lia)
 have l1:=Yd (S:=S) (t:=n*ws.getD (AM st.AD i).k 0) a.1 (DP (EV (by lia) a.2) (by lia))
 have wo:=ae (S:=S) h hk hl hw
 have ah:=EC hi
 rw[ND hi]
 generalize aD (((n*ws.getD (AM st.AD i).k 0:Int):Rat) / (FQ t st.AD ws:Rat))=R at*
 generalize ws.getD (AM st.AD i).k 0=wa at*
 simp[Er,Jt,AR.d,ah,w1,m1,wo,l1]
theorem XZ{X:Rat}{ss os:KE Rat}:gY ((X.den:Int)-X.num) X.num ss os=Hv X os ss:=by
 unfold gY Hv
 congr 1
 funext s o
 have h1:=Et X
 have h2:=KQ X
 push_cast
 have e:((X.den:Rat)-(X.num:Rat)+(X.num:Rat))=(X.den:Rat):=by grind
 rw[e]
 grind
theorem Xf{i:Nat}{n:Int}{ws:KE Int}{ss:KE Rat}(ht:JO t)(h:ED t k st)(hk:k<=17)(hc:Can t st (.thr i n ws))(hs:∀r∈ss,Sz (30+170*k) r)(hl:ss.length<=50):D5 [t.d,A7 st.AD,MF st.AD,(AR.thr i n ws).d,shD ss] S=Gc (shD (Hv (Ki t st.AD i n ws) (AM st.AD i).ow ss),S):=by
 have pt:=gD (S:=S) ht h hk hc
 obtain⟨hi,h1,h2,hl',hw⟩:=hc
 have cz:=Wx ht h (by lia) hl' hw hi h1 h2
 have b1:=Hj hi
 generalize Ki t st.AD i n ws=X at*
 have d0:=den_pos X
 have c2:=cz.2
 have e:=Df (S:=S) (w:=(X.den:Int)-X.num) (m:=X.num) (j:=30+170*k) (n:=146+k) hs (h.sz.1 _ (AU hi)) (by
  have c1:=cz.1
  have:2^(146+k)=2^(145+k)*2:=by rw[show 146+k=(145+k)+1 by lia,AAe]
  generalize 2^(145+k)=P at*
  lia) (gA cz.1 (by lia)) (by lia) (by lia) hl
 rw[XZ]at e
 generalize Hv X (AM st.AD i).ow ss=rs at*
 simp only[aD,AR.d]at pt⊢
 simp[D5,Hi,pt,b1,e]
theorem WX{p q:Nat}{x:Rat}{ss:KE Rat}{j i:Nat}(hs:∀r∈ss,Sz j r)(hx:Sz i x)(hj:2*j+i<=7900)(hp:p<ss.length)(hq:q<ss.length)(hpq:p≠q):∃S',FE [(AR.JE p q x).d,shD ss] S=Gc (shD (HF p q x ss),S')/\Bv [] S S':=by
 have sp:=hs _ (getD_mem (d:=0) hp)
 have sq:=hs _ (getD_mem (d:=0) hq)
 have l1:∀S,G3 [aD (ss.getD p 0),aD x] S=Gc (aD (ss.getD p 0*x),S):=λS=>c8 sp hx (by lia)
 have s1:=MR sp hx
 have l2:∀S,LH [aD (ss.getD p 0),aD (ss.getD p 0*x)] S=Gc (aD (ss.getD p 0-ss.getD p 0*x),S):=λS=>oS sp s1 (by lia)
 have l3:∀S,Ie [aD (ss.getD q 0),aD (ss.getD p 0*x)] S=Gc (aD (ss.getD q 0+ss.getD p 0*x),S):=λS=>iP sq s1 (by lia)
 have a1:=UW hp
 have a2:=UW hq
 have i1:=cu hp
 have i2:ixN (((ss.map aD).set p (aD (ss.getD p 0-ss.getD p 0*x))).length) (q:Int)=Gc q:=Nu (by simpa using hq)
 refine⟨S++[.lst ((HF p q x ss).map aD)],?_,.app⟩
 simp only[wC,uX]at i1 i2
 have em:(HF p q x ss).map aD=((ss.map aD).set p (aD (ss.getD p 0-ss.getD p 0*x))).set q (aD (ss.getD q 0+ss.getD p 0*x)):=by rw[HF,wd,wd]
 unfold shD
 rw[em]
 generalize aD (ss.getD p 0-ss.getD p 0*x)=d1 at*
 generalize aD (ss.getD q 0+ss.getD p 0*x)=d2 at*
 generalize aD (ss.getD p 0*x)=d3 at*
 generalize aD (ss.getD p 0)=d4 at*
 generalize aD (ss.getD q 0)=d5 at*
 simp[FE,Jg,AR.d,a1,a2,l1,l2,l3,i1,i2]
end
theorem RO{α:Type}{gs:Gd}{t:Tf}{f:Ev}{C:En}{m:Nat}{e g:α->D}(hg:∀S,gOk gs S):∀{xs:KE α} {acc:KE D} {os:En} {S:Sto},os.length=m->acc.length+xs.length<=sizeLine->(∀x∈xs,∀os S,os.length=m->∃us S',us.length=m/\t (e x) (C++os) S=Gc (C++us)/\f (C++us) S=Gc (g x,S')/\Bv [] S S')->∃S',CU gs t Bx f (xs.map e) acc (C++os) S=Gc (acc++xs.map g,S')/\Bv [] S S'
 | [],acc,os,S,ho,hz,h=>⟨S,by rw[u4,GH (hg S)];simp,.refl⟩
 |x::xs,acc,os,S,ho,hz,h=>by
  obtain⟨us,S1,hu,e1,e2,s1⟩:=h x uD os S ho
  obtain⟨S2,e3,s2⟩:=RO hg (xs:=xs) (acc:=acc++[g x]) (os:=us) (S:=S1) hu (by simp at hz ⊢; lia) λx' hx=>h x' (tf _ hx)
  refine⟨S2,?_,s1.trans s2⟩
  rw[t8,Jq (hg S) (by simp at hz;lia) e1 Hx,e2,Ap,e3]
  simp
section
variable{S:Sto}{st:Stt}{t:Tr}{k:Nat}
noncomputable def shB(t:Tr)(st:Stt):AR->KE Rat->KE Rat
 | .thr i n ws,ss=>Hv (Ki t st.AD i n ws) (AM st.AD i).ow ss
 | .JE p q x,ss=>HF p q x ss
 |_,ss=>ss
theorem RC{d:AR}{ss:KE Rat}(ht:JO t)(h:ED t k st)(hk:k<=17)(hc:Can t st d)(hs:∀r∈ss,Sz (30+170*k) r)(hl:ss.length=t.p):∃S',Ak [t.d,A7 st.AD,MF st.AD,d.d,shD ss] S=Gc (shD (shB t st d ss),S')/\Bv [] S S':=by
 have tp:=ht.2.1
 cases d with
 |thr i n ws=>
  have e:=Xf (S:=S) ht h hk hc hs (by lia)
  refine⟨S,?_,.refl⟩
  simp only[AR.d]at e⊢
  simp[Ak,BP,e,shB]
 |JE p q x=>
  obtain⟨hpq,hp,hq,x1,x2,x3⟩:=hc
  have hx:Sz 4 x:=by
   refine⟨?_,by lia⟩
   show x.num.natAbs<16
   lia
  obtain⟨S',e,sm⟩:=WX (S:=S) (p:=p) (q:=q) hs hx (by lia) (by lia) (by lia) hpq
  refine⟨S',?_,sm⟩
  simp only[AR.d]at e⊢
  simp[Ak,BP,e,shB]
 |DL p kd n=>exact⟨S,by simp[Ak,BP,AR.d,shB],.refl⟩
 |GS i j=>exact⟨S,by simp[Ak,BP,AR.d,shB],.refl⟩
 |swap i g kd n=>exact⟨S,by simp[Ak,BP,AR.d,shB],.refl⟩
 |DQ u i g kd n=>exact⟨S,by simp[Ak,BP,AR.d,shB],.refl⟩
 |Ey i n=>exact⟨S,by simp[Ak,BP,AR.d,shB],.refl⟩
theorem X4{d:AR}:(step t st d).hold=shB t st d st.hold:=by cases d<;>rfl
theorem MA{i:Nat}{n:Int}{ls:KE Ld}(hi:i<ls.length){β:Type}(f:KE Rat->β):(less ls i n).map (λx=>f x.ow)=ls.map λx=>f x.ow:=by
 rw[SY,wd]
 have:(ls.map λx=>f x.ow)[i]?=Gc (f (AM ls i).ow):=by rw[uN,DA hi];rfl
 apply yr
 intro j
 by_cases e:i=j
 .subst e;rw[uG (by simpa using hi),this]
 .rw[uE e]
@[simp] theorem qa{ls:List Ld}:sqD S (MF ls)=some (ls.map λx=>shD x.ow,[]):=nr rfl
theorem XB{d:AR}(ht:JO t)(h:ED t k st)(hk:k<=17)(hc:Can t st d):∃S',Az [t.d,A7 st.AD,MF st.AD,d.d] S=Gc (MF (step t st d).AD,S')/\Bv [] S S':=by
 have hlen:=h.len
 have sz:=h.sz
 have tp:=ht.2.1
 obtain⟨S',e,sm⟩:=RO (gs:=[]) (t:=tNm 4) (f:=AK Ak [eV 0,eV 1,eV 2,eV 3,eV 4]) (C:=[Gc t.d,Gc (A7 st.AD),Gc (MF st.AD),Gc d.d]) (m:=1) (e:=λx:Ld=>shD x.ow) (g:=λx=>shD (shB t st d x.ow)) (λ_=>AZ) (xs:=st.AD) (acc:=[]) (os:=[none]) (S:=S) rfl (uA (show _<=50 by simp;lia) (AO (by decide))) (by
  intro x hx os S0 ho
  obtain⟨q1,rfl⟩:=ON ho
  obtain⟨S1,e1,s1⟩:=RC (S:=S0) (d:=d) (ss:=x.ow) ht h hk hc (sz.1 x hx) (h.own x hx)
  refine⟨[Gc (shD x.ow)],S1,rfl,by simp,?_,s1⟩
  simp[e1])
 simp only[uj,uV]at e
 refine⟨S',?_,sm⟩
 have hz:(st.AD.map λx=>shD (shB t st d x.ow)).length+1<=sizeLine:=uA (show _<=100 by simp;lia) (AO (by decide))
 cases d with
 |DL p kd n=>
  have a1:=Ih (S:=S') (P:=t.p) (p:=p) (by lia)
  have ef:MF (step t st (.DL p kd n)).AD=.lst ((st.AD.map λx=>shD (shB t st (.DL p kd n) x.ow))++[shD (Ia t.p p)]):=by simp[MF,step,shB]
  rw[ef]
  generalize (st.AD.map λx=>shD (shB t st (.DL p kd n) x.ow))=A at*
  simp only[AR.d,Tr.d]at e⊢
  simp[Az,BV,e,a1,hz]
 |GS i j=>
  have a1:=Wr (S:=S') ht h hk hc
  obtain⟨hij,hi,hj,h1,h2,h3⟩:=hc
  have e0:AM (less st.AD i (AM st.AD i).n) j=AM st.AD j:=by
   unfold AM less
   rw[tu,uE hij,<-tu]
  have ef:MF (step t st (.GS i j)).AD=.lst ((st.AD.map λx=>shD (shB t st (.GS i j) x.ow))++[shD (Ax (AM st.AD i).n (AM st.AD j).n (AM st.AD i).ow (AM st.AD j).ow)]):=by
   show D.lst ((less (less st.AD i (AM st.AD i).n) j (AM st.AD j).n++[_]).map λx:Ld=>shD x.ow)=_
   rw[vU,MA (by rw[Ar];exact hj),MA hi]
   rfl
  rw[ef]
  generalize (st.AD.map λx=>shD (shB t st (.GS i j) x.ow))=A at*
  simp only[AR.d]at e a1⊢
  simp[Az,BV,e,a1,hz]
 |swap i g kd n=>
  have hi:=hc.1
  have a1:=YJ (S:=S') (st:=st) (i:=i) (kd:=kd) (g:=g) (n:=n) hi
  have ef:MF (step t st (.swap i g kd n)).AD=.lst ((st.AD.map λx=>shD (shB t st (.swap i g kd n) x.ow))++[shD (AM st.AD i).ow]):=by
   show D.lst ((less st.AD i g++[_]).map λx:Ld=>shD x.ow)=_
   rw[vU,MA hi]
   rfl
  rw[ef]
  generalize (st.AD.map λx=>shD (shB t st (.swap i g kd n) x.ow))=A at*
  simp only[AR.d]at e a1⊢
  simp[Az,BV,e,a1,hz]
 |DQ u i g kd n=>
  have hi:=hc.1
  have a1:=Vk (S:=S') (st:=st) (i:=i) (kd:=kd) (u:=u) (g:=g) (n:=n) hi
  have ef:MF (step t st (.DQ u i g kd n)).AD=.lst ((st.AD.map λx=>shD (shB t st (.DQ u i g kd n) x.ow))++[shD (AM st.AD i).ow]):=by
   show D.lst ((less st.AD i g++[_]).map λx:Ld=>shD x.ow)=_
   rw[vU,MA hi]
   rfl
  rw[ef]
  generalize (st.AD.map λx=>shD (shB t st (.DQ u i g kd n) x.ow))=A at*
  simp only[AR.d]at e a1⊢
  simp[Az,BV,e,a1,hz]
 |Ey i n=>
  have ef:MF (step t st (.Ey i n)).AD=.lst (st.AD.map λx=>shD (shB t st (.Ey i n) x.ow)):=by
   show D.lst ((less st.AD i n).map λx:Ld=>shD x.ow)=_
   rw[MA hc.1]
   rfl
  rw[ef]
  generalize (st.AD.map λx=>shD (shB t st (.Ey i n) x.ow))=A at*
  simp only[AR.d]at e⊢
  simp[Az,BV,e]
 |thr i n ws=>
  have ef:MF (step t st (.thr i n ws)).AD=.lst (st.AD.map λx=>shD (shB t st (.thr i n ws) x.ow)):=by
   show D.lst (((less st.AD i n).map _).map λx:Ld=>shD x.ow)=_
   rw[uc]
   exact congrArg D.lst (MA hc.1 (λo=>shD (Hv (Ki t st.AD i n ws) (AM st.AD i).ow o)))
  rw[ef]
  generalize (st.AD.map λx=>shD (shB t st (.thr i n ws) x.ow))=A at*
  simp only[AR.d]at e⊢
  simp[Az,BV,e]
 |JE p q x=>
  have ef:MF (step t st (.JE p q x)).AD=.lst (st.AD.map λy=>shD (shB t st (.JE p q x) y.ow)):=by
   show D.lst ((st.AD.map _).map λy:Ld=>shD y.ow)=_
   rw[uc]
   rfl
  rw[ef]
  generalize (st.AD.map λy=>shD (shB t st (.JE p q x) y.ow))=A at*
  simp only[AR.d]at e⊢
  simp[Az,BV,e]
@[simp] theorem pL{ls:List Ld}:sqD S (A7 ls)=some (ls.map hD,[]):=nr rfl
theorem J0{ls:KE Ld}{x y:D}(hl:ls.length<=50):BS [.tup [x,.tup (ls.map Ld.d),y]] S=Gc (A7 ls,S):=by
 have e:=Cm (gs:=[]) (t:=tNm 0) (f:=CS [eOp (o2 wIx) [eV 0,eC (.int 0)],eOp (o2 wIx) [eV 0,eC (.int 1)]]) (C:=[]) (m:=1) (e:=Ld.d) (g:=hD) (S:=S) AZ (xs:=ls) (acc:=[]) (os:=[none]) rfl (uA (show _<=50 by simp;lia) (AO (by decide))) (by
  intro x hx os ho
  obtain⟨q1,rfl⟩:=ON ho
  refine⟨[Gc x.d],rfl,by simp,?_⟩
  simp[Ld.d,hD])
 simp only[uV]at e
 simp[BS,Hr,e,A7]
theorem YU{ls:KE Ld}(hl:ls.length<=50):CU [] (tNm 0) Bx (eOp (o2 wIx) [eV 0,eC (.int 2)]) (ls.map Ld.d) [] [none] S=Gc (ls.map λx=>shD x.ow,S):=
 Cm (gs:=[]) (t:=tNm 0) (f:=eOp (o2 wIx) [eV 0,eC (.int 2)]) (C:=[]) (m:=1) (e:=Ld.d) (g:=λx=>shD x.ow) (S:=S) AZ (xs:=ls) (acc:=[]) (os:=[none]) rfl (uA (show _<=50 by simp;lia) (AO (by decide))) (by
  intro x hx os ho
  obtain⟨q1,rfl⟩:=ON ho
  refine⟨[Gc x.d],rfl,by simp,?_⟩
  simp[Ld.d])
theorem ar{ls:KE Ld}{ds:KE AR}{n:Nat}(h:CK t ls ds)(hn:n<=ds.length):∃S',HK [BC t ls ds,.int n] S=Gc (.tup [A7 (runs t (st0 t ls) (ds.take n)).AD,MF (runs t (st0 t ls) (ds.take n)).AD,shD (runs t (st0 t ls) (ds.take n)).hold],S')/\Bv [] S S':=by
 have hl0:ls.length<=4:=h.inv.len
 have ct:Nl (ds.map AR.d) none (Gc (n:Int))=(ds.take n).map AR.d:=by rw[Kw (by simpa using hn),AAD]
 obtain⟨E',S',ef,i,o,f1,f2,rfl,f3⟩:=Ha (gs:=[]) (t:=tNm 8) (b:=Ad (Bm 7 (AK Ak [eV 2,eV 5,eV 6,eV 8,eV 7]))
  (Ad (Bm 6 (AK Az [eV 2,eV 5,eV 6,eV 8]))
  (Bm 5 (AK Af [eV 5,eV 8]))))
  (I:=λrs E S'=>∃(i:Nat) (o:tY D),rs=((ds.take n).drop i).map AR.d/\i<=n/\E=[Gc (BC t ls ds),Gc (.int n),Gc t.d,Gc (.tup (ls.map Ld.d)),Gc (.tup (ds.map AR.d)),Gc (A7 (runs t (st0 t ls) (ds.take i)).AD),Gc (MF (runs t (st0 t ls) (ds.take i)).AD),Gc (shD (runs t (st0 t ls) (ds.take i)).hold),o]/\Bv [] S S')
  (λ_ _ _ _=>AZ) (ds:=(ds.take n).map AR.d) (E:=[Gc (BC t ls ds),Gc (.int n),Gc t.d,Gc (.tup (ls.map Ld.d)),Gc (.tup (ds.map AR.d)),Gc (A7 ls),Gc (MF ls),Gc (shD t.ho),none]) (S:=S)
  ⟨0,none,by simp,ve _,by simp[runs,st0],.refl⟩ (by
    rintro dd rs E T ⟨i,o,i1,i2,rfl,i3⟩
    have hlt:i<(ds.take n).length:=by
     rcases xo i (ds.take n).length with w|w
     .exact w
     .rw[vo w]at i1;cases i1
    rw[vD hlt,t8]at i1
    injection i1 with z1 z2
    subst z1 z2
    have hlt':i<ds.length:=by simp at hlt;lia
    have hin:i<n:=by simp at hlt;lia
    have hg:(ds.take n)[i]=ds[i]:=List.getElem_take
    rw[hg]
    have inv:=h.at i
    have il:(ds.take i).length<=16:=by have:=h.len;simp;lia
    have can:=LJ h.good (t7 hlt')
    obtain⟨T1,e1,s1⟩:=RC (S:=T) h.tr inv (by lia) can inv.sz.2 inv.hold
    obtain⟨T2,e2,s2⟩:=XB (S:=T1) h.tr inv (by lia) can
    have e3:=Kz (S:=T2) inv (by lia) can
    have rt:=LM (t:=t) (st:=st0 t ls) (t7 hlt')
    refine⟨_,[Gc (BC t ls ds),Gc (.int n),Gc t.d,Gc (.tup (ls.map Ld.d)),Gc (.tup (ds.map AR.d)),Gc (A7 (runs t (st0 t ls) (ds.take (i+1))).AD),Gc (MF (runs t (st0 t ls) (ds.take (i+1))).AD),Gc (shD (runs t (st0 t ls) (ds.take (i+1))).hold),Gc ds[i].d],T2,by simp;rfl,?_,i+1,Gc ds[i].d,rfl,hin,rfl,(i3.trans s1).trans s2⟩
    rw[rt]
    rw[<-X4]at e1
    simp[e1,e2,e3])
 have hz:i=n:=by
  have:=congrArg yY f1
  simp at this
  lia
 subst hz
 refine⟨S',?_,f3⟩
 have fh:=J0 (S:=S) (ls:=ls) (x:=t.d) (y:=.tup (ds.map AR.d)) (by lia)
 have fo:=YU (S:=S) (ls:=ls) (by lia)
 have fo':D.lst (ls.map λx=>shD x.ow)=MF ls:=rfl
 have th:atI [D.int t.p,D.int t.k,D.int t.b,shD t.ho,D.int t.h,D.int t.l] 3=Gc (shD t.ho):=by simp
 simp only[BC]at ef⊢
 have td:wIx (.val t.d) (.val (.int 3))=Gc (.val (shD t.ho)):=by simp[Tr.d]
 have dt:dr S t.d=.val t.d:=rfl
 rw[AAD]at ef ct
 simp[HK,Ma,fh,fo,fo',-YK,td,dt,ct,ef]
theorem O6{ls:KE Ld}{ds:KE AR}(h:CK t ls ds):Eu [BC t ls ds] S=Gc (.non,S):=by
 have hl0:ls.length<=4:=h.inv.len
 have hd:=h.len
 obtain⟨E',S',ef,i,o1,o2,f1,f2,rfl,rfl⟩:=Ha (gs:=[]) (t:=tTp [tNm 3,tNm 4]) (b:=Ad (xIf (cN (AK C0 [eV 1,eOp (Oc false true) [eV 2,eV 3],eV 4])) (By (eV 3)) FV)
  (Bm 1 (AK Af [eV 1,eV 4])))
  (I:=λrs E S'=>∃(i:Nat) (o1 o2:tY D),rs=(NI 0 (ds.map AR.d)).drop i/\i<=ds.length/\E=[Gc (BC t ls ds),Gc (A7 (runs t (st0 t ls) (ds.take i)).AD),Gc (.tup (ds.map AR.d)),o1,o2]/\S'=S)
  (λ_ _ _ _=>AZ) (ds:=NI 0 (ds.map AR.d)) (E:=[Gc (BC t ls ds),Gc (A7 ls),Gc (.tup (ds.map AR.d)),none,none]) (S:=S)
  ⟨0,none,none,by simp,ve _,by simp[runs,st0],rfl⟩ (by
    rintro dd rs E T ⟨i,o1,o2,i1,i2,rfl,rfl⟩
    have el:(NI 0 (ds.map AR.d)).length=ds.length:=by rw[LC];simp
    have hlt:i<ds.length:=by
     rcases xo i ds.length with w|w
     .exact w
     .rw[vo (by lia)]at i1;cases i1
    rw[vD (by lia)]at i1
    injection i1 with z1 z2
    have hd1:dd=.tup [.int i,ds[i].d]:=by
     have:=M9 (ds:=ds.map AR.d) (k:=0) (i:=i)
     rw[t7 (by lia),<-z1,uN,t7 hlt]at this
     simpa using this
    subst z2
    subst hd1
    have inv:=h.at i
    have il:(ds.take i).length<=16:=by simp;lia
    have can:=LJ h.good (t7 hlt)
    have cd:=Xn (S:=T) (ds:=ds.take i) (by lia) Wt can
    have e3:=Kz (S:=T) inv (by lia) can
    have rt:=LM (t:=t) (st:=st0 t ls) (t7 hlt)
    have ct:=Kw (ds:=ds.map AR.d) (n:=i) (by simp;lia)
    rw[AAD]at cd
    refine⟨_,[Gc (BC t ls ds),Gc (A7 (runs t (st0 t ls) (ds.take (i+1))).AD),Gc (.tup (ds.map AR.d)),Gc (.int i),Gc ds[i].d],T,by simp;rfl,?_,i+1,Gc (.int i),Gc ds[i].d,rfl,hlt,rfl,rfl⟩
    rw[rt]
    simp[ct,cd,e3])
 have fh:=J0 (S:=S') (ls:=ls) (x:=t.d) (y:=.tup (ds.map AR.d)) (by lia)
 simp only[BC]at ef⊢
 simp[Eu,JK,fh,ef]
theorem OL{ls:KE Ld}{ds:KE AR}(h:CK t ls ds):CN [BC t ls ds] S=Gc (.non,S):=by
 have e:=O6 (S:=S) h
 simp[CN,Hh,e,isN]
theorem Rg{ls:KE Ld}{ds:KE AR}{n:Nat}(hn:n<=ds.length):CH [BC t ls ds,.int n] S=Gc (.non,S):=by
 have h1:(n:Int)<=ds.length:=by lia
 have k1:St.Kd.int.isA "int"=true:=by decide
 have k2:St.Kd.int.isA "bool"=false:=by decide
 simp[k1,k2,CH,GV,Ew,Ik,Ii,Kq,HX,Jl,BC,kdW,h1]
end
theorem nI{n:Nat}:∀{ds:KE D},(∀d∈ds,d.py.depth<=n)->AAo (D.pys ds)<=n
 | [],_=>by simp[D.pys,AAo]
 |d::ds,h=>by
  have h1:=h d uD
  have h2:=nI λe he=>h e (tf _ he)
  simp only[D.pys,AAo]
  lia
theorem nN{n:Nat}{ds:KE D}(h:∀d∈ds,d.py.depth<=n):(D.lst ds).py.depth<=n+1:=by
 have:=nI h
 simp only[D.py,PyData.depth]
 lia
theorem gS{n:Nat}{ds:KE D}(h:∀d∈ds,d.py.depth<=n):(D.tup ds).py.depth<=n+1:=by
 have:=nI h
 simp only[D.py,PyData.depth]
 lia
theorem kD{i:Int}{n:Nat}:(D.int i).py.depth<=n+1:=by
 simp only[D.py,PyData.depth]
 lia
theorem oG{r:Rat}:(aD r).py.depth<=2:=gS (n:=1) (by
 intro d hd
 simp only[uF,uY,vg]at hd
 rcases hd with rfl|rfl<;>exact kD)
theorem sG{rs:KE Rat}:(shD rs).py.depth<=3:=gS (n:=2) (by
 intro d hd
 obtain⟨r,_,rfl⟩:=um.mp hd
 exact oG)
theorem Rw{r:Rat}:(aD r).lay=true:=rfl
theorem iQ{rs:KE Rat}:(shD rs).lay=true:=Jy λ_ _=>Rw
theorem N6{d:D}(h:d.lay=true)(g:d.py.depth<=60):Eo d d=true:=by
 unfold Eo
 rw[h]
 simp only[Bool.true_and,decide_eq_true_eq]
 lia
theorem Q1{d:D}(h:d.lay=true):deq d d=true:=PySem.SeqAt.eqv_refl _ (Lr h)
section
variable{S:Sto}
theorem eT{ns:KE Int}{k:Nat}:∃c,Du [.scr ns,.int k] S=Gc (.int c,S):=by
 by_cases h:k<ns.length
 .have h':(k:Int)<ns.length:=by lia
  refine⟨ns[k],?_⟩
  have e:atI (ns.map D.int) (k:Int)=Gc (.int ns[k]):=DF (by rw[uN,t7 h];rfl)
  simp[Du,IL,h,h',e]
 .have h':¬(k:Int)<ns.length:=by lia
  exact⟨0,by simp[Du,IL,h,h']⟩
end
theorem Ok.add{G B C:Nat}{r q:Rat}(h:Ok G B r)(g:Ok G C q):Ok G (B+C) (r+q):=by
 obtain⟨z,e1,h1⟩:=h
 obtain⟨y,e2,h2⟩:=g
 refine⟨z+y,?_,Nat.add_le_add h1 h2⟩
 push_cast
 rw[<-e1,<-e2]
 grind
theorem Ok.mono{G B C:Nat}{r:Rat}(h:Ok G B r)(g:B<=C):Ok G C r:=by
 obtain⟨z,e,hz⟩:=h
 exact⟨z,e,uA hz g⟩
theorem Ok.qJ{G B N:Nat}{r:Rat}{n:Int}(h:Ok G B r)(h0:0<=n)(h1:n<=N):Ok G (B*N) ((n:Rat)*r):=by
 obtain⟨z,e,hz⟩:=h
 refine⟨z*n.toNat,?_,yE hz (by lia)⟩
 push_cast
 rw[JQ h0,<-e]
 grind
theorem Ok.int{G:Nat}{n:Int}{N:Nat}(h0:0<=n)(h1:n<=N):Ok G (G*N) (n:Rat):=by
 have:=(Ok.one (G:=G) (B:=G) (tw _)).qJ (N:=N) h0 h1
 have e:(n:Rat)*1=(n:Rat):=by grind
 rwa [e]at this
theorem UT{F:Fn}(hF:∀{j k:Nat} {p q:Rat} (S:Sto),Sz j p->Sz k q->j+k<=7990->F [aD p,aD q] S=Gc (aD (p+q),S)){gs:Gd}{S:Sto}(hg:gOk gs S){X:tY D}{G B K:Nat}(hG:0<G)(gK:G<2^K)(hK:2*K<=7990):∀{rs:KE Rat} {acc:Rat} {m:Nat} {o:tY D},Ok G (m*B) acc->(∀r∈rs,Ok G B r)->(m+rs.length)*B<2^K->∃o',Jx gs (tNm 2) (Bm 1 (AK F [eV 1,eV 2])) (rs.map aD) [X,Gc (aD acc),o] S=Gc (.nx,[X,Gc (aD (acc+rs.sum)),o'],S)
 | [],acc,m,o,ha,hr,hb=>⟨o,by
     rw[u4,Dz hg,List.sum_nil]
     have:acc+0=acc:=by grind
     rw[this]⟩
 |r::rs,acc,m,o,ha,hr,hb=>by
  have h1:=hr r uD
  have b1:(m+1)*B<=(m+(r::rs).length)*B:=uy _ (by simp)
  have mb:(m+1)*B=m*B+B:=by rw[Nat.succ_mul]
  have za:Sz K acc:=ha.sz hG gK (by lia)
  have zr:Sz K r:=h1.sz hG gK (by lia)
  have e:=hF S za zr (by lia)
  have ha2:Ok G ((m+1)*B) (acc+r):=by rw[mb];exact ha.add h1
  obtain⟨o',ih⟩:=UT hF hg hG gK hK (X:=X) (B:=B) (rs:=rs) (acc:=acc+r) (m:=m+1) (o:=Gc (aD r)) ha2 (λq hq=>hr q (tf _ hq)) (by
   have:m+1+rs.length=m+(r::rs).length:=by simp;lia
   rw[this];exact hb)
  refine⟨o',?_⟩
  have ea:acc+(r::rs).sum=acc+r+rs.sum:=by rw[ub];grind
  rw[t8,B7 hg,ea,<-ih]
  simp[e]
theorem QL:aD 0=.tup [.int 0,.int 1]:=rfl
noncomputable def ownAt(x:Ld)(p:Nat):Rat:=x.ow.getD p 0
noncomputable def kindS(ls:KE Ld)(p kd:Nat):Rat:=((ls.filter λx=>x.k==kd).map λx=>(x.n:Rat)*ownAt x p).sum
noncomputable def BY(k:Nat)(ls:KE Ld)(p:Nat):KE Rat:=(uJ k).map (kindS ls p)
theorem Vz{ls:KE Ld}{x:Ld}{p kd:Nat}:kindS (ls++[x]) p kd=if x.k=kd then kindS ls p kd+(x.n:Rat)*ownAt x p else kindS ls p kd:=by
 unfold kindS
 rw[List.filter_append,vU,AAm]
 by_cases h:x.k=kd
 .simp[h];grind
 .simp[h];grind
theorem IC{ls:KE Ld}{x:Ld}{p kd:Nat}:kindS (x::ls) p kd=(if x.k=kd then(x.n:Rat)*ownAt x p else 0)+kindS ls p kd:=by
 unfold kindS
 rw[vp]
 by_cases h:x.k=kd
 .simp[h]
 .simp[h];grind
theorem Tw{k:Nat}{ls:KE Ld}{x:Ld}{p:Nat}:BY k (ls++[x]) p=(BY k ls p).set x.k (kindS ls p x.k+(x.n:Rat)*ownAt x p):=by
 unfold BY
 apply wq
 .simp
 .intro i h1 h2
  rw[List.getElem_set]
  simp only[List.getElem_map,List.getElem_range,Vz]
  by_cases h:x.k=i
  .subst h;simp
  .simp[h]
structure Bd(ls:KE Ld)(G B N K:Nat):Prop where
 g0:0<G
 gK:G<2^K
 hK:2*K<=7000
 own:∀l∈ls,∀r∈l.ow,Ok G B r
 pcs:∀l∈ls,0<=l.n/\l.n<=N
 hB:B<2^K
 hN:N<2^K
 hb:200*(B*N)<2^K
 len:ls.length<=30
section
variable{S:Sto}{ls:KE Ld}{G B N K:Nat}
theorem Bd.at(h:Bd ls G B N K){x:Ld}(hx:x∈ls)(p:Nat):Ok G B (ownAt x p):=by
 unfold ownAt
 rw[tu]
 cases e:x.ow[p]? with
 |none=>exact Ok.zero
 |some r=>exact h.own x hx r (uS e)
theorem Bd.mul(h:Bd ls G B N K){x:Ld}(hx:x∈ls)(p:Nat):Ok G (B*N) ((x.n:Rat)*ownAt x p):=(h.at hx p).qJ (h.pcs x hx).1 (h.pcs x hx).2
theorem VB{G C:Nat}{p kd:Nat}:∀{ls:KE Ld},(∀l∈ls,Ok G C ((l.n:Rat)*ownAt l p))->Ok G (ls.length*C) (kindS ls p kd)
 | [],_=>Ok.zero
 |x::ls,h=>by
  rw[IC]
  have ih:=VB (kd:=kd) (ls:=ls) λl hl=>h l (tf _ hl)
  have h1:Ok G C (if x.k=kd then(x.n:Rat)*ownAt x p else 0):=by
   split
   .exact h x uD
   .exact Ok.zero
  have:=h1.add ih
  rw[uq,Nat.succ_mul,AAU]
  exact this
theorem Bd.kind(h:Bd ls G B N K){p kd:Nat}:Ok G (30*(B*N)) (kindS ls p kd):=(VB λl hl=>h.mul hl p).mono (uy _ h.len)
theorem Bd.take(h:Bd ls G B N K)(i:Nat):Bd (ls.take i) G B N K:=⟨h.g0,h.gK,h.hK,λl hl=>h.own l (ABE hl),λl hl=>h.pcs l (ABE hl),h.hB,h.hN,h.hb,by have:=h.len;simp;lia⟩
theorem Bd.nSz(h:Bd ls G B N K){x:Ld}(hx:x∈ls):Sz K (x.n:Rat):=by
 have o:=Ok.int (G:=1) (h.pcs x hx).1 (h.pcs x hx).2
 refine o.sz (by decide) ?_ (by rw[Nat.one_mul];exact h.hN)
 have:=h.gK;have:=h.g0;lia
theorem W6{n:Nat}:K4 0 (n:Int).toNat=(uJ n).map λ(i:Nat)=>D.int i:=by simp[K4]
theorem VY{k p:Nat}:(BY k [] p).map aD=uQ k (.tup [.int 0,.int 1]):=by
 apply wq
 .simp[BY]
 .intro i h1 h2
  simp[BY,kindS,QL]
end
theorem Nh{α:Type}{gs:Gd}{t:Tf}{f:Ev}{C:En}{m:Nat}{e g:α->D}{S0:Sto}(hg:∀S,Bv [] S0 S->gOk gs S):∀{xs:KE α} {acc:KE D} {os:En} {S:Sto},os.length=m->Bv [] S0 S->acc.length+xs.length<=sizeLine->(∀x∈xs,∀os S,os.length=m->Bv [] S0 S->∃us S',us.length=m/\t (e x) (C++os) S=Gc (C++us)/\f (C++us) S=Gc (g x,S')/\Bv [] S0 S')->∃S',CU gs t Bx f (xs.map e) acc (C++os) S=Gc (acc++xs.map g,S')/\Bv [] S0 S'
 | [],acc,os,S,ho,hS,hz,h=>⟨S,by rw[u4,GH (hg S hS)];simp,hS⟩
 |x::xs,acc,os,S,ho,hS,hz,h=>by
  obtain⟨us,S1,hu,e1,e2,s1⟩:=h x uD os S ho hS
  obtain⟨S2,e3,s2⟩:=Nh hg (acc:=acc++[g x]) hu s1 (by simp at hz ⊢; lia) λx' hx=>h x' (tf _ hx)
  refine⟨S2,?_,s2⟩
  rw[t8,Jq (hg S hS) (by simp at hz;lia) e1 Hx,e2,Ap,e3]
  simp
theorem ED.bd{t:Tr}{k:Nat}{s:Stt}(h:ED t k s)(hk:k<=16):∃G B N K,Bd s.AD G B N K:=by
 obtain⟨G,B,g0,gb,b,h1,h2⟩:=h.gb
 have hB:B<2^2750:=t9 b (ux (by decide) (by lia))
 have hB':B<2^3000:=t9 hB (ux (by decide) (by decide))
 have hN:(2^147:Nat)<2^148:=Nat.pow_lt_pow_right (by decide) (by decide)
 refine⟨G,B,2^147,3000,g0,vM gb hB',by decide,h1,λl hl=>?_,hB',t9 hN (ux (by decide) (by decide)),?_,by have:=h.len;lia⟩
 .have:=h.pcs l hl
  refine⟨this.1,?_⟩
  have e:(2:Int)^(131+k)<=((2^147:Nat):Int):=by
   have:(2:Nat)^(131+k)<=2^147:=ux (by decide) (by lia)
   exact_mod_cast this
  lia
 .have:=Ee (show 200<2^8 by decide) (Ee hB hN)
  exact t9 this (ux (by decide) (by decide))
section
variable{S:Sto}{t:Tr}{ls:KE Ld}{ds:KE AR}{n:Nat}
theorem cH{x:Ld}{p:Nat}(h:p<x.ow.length):atI (x.ow.map aD) (p:Int)=Gc (aD (ownAt x p)):=DF (by
 rw[uN,t7 h]
 simp[ownAt,tu,t7 h])
theorem pM{ls:KE Ld}{p:Nat}{T:Sto}(h:∀l∈ls,p<l.ow.length)(hl:ls.length<=30):CU [] (tNm 1) Bx (eOp (o2 wIx) [eV 1,eV 0]) (ls.map λx=>shD x.ow) [] [Gc (.int p),none] T=Gc (ls.map (λx=>aD (ownAt x p)),T):=
 Cm (gs:=[]) (t:=tNm 1) (f:=eOp (o2 wIx) [eV 1,eV 0]) (C:=[Gc (.int p)]) (m:=1) (e:=λx:Ld=>shD x.ow) (g:=λx=>aD (ownAt x p)) (S:=T) AZ (xs:=ls) (acc:=[]) (os:=[none]) rfl (uA (show _<=50 by simp;lia) (AO (by decide))) (by
  intro x hx os ho
  obtain⟨o1,rfl⟩:=ON ho
  have a:=cH (h x hx)
  refine⟨[Gc (shD x.ow)],rfl,by simp,?_⟩
  simp[shD,a])
end
def cw(ls:KE Ld):Prop:=∀l∈ls,l.ow.sum=1
theorem TR{a b:Rat}:∀{ss os:KE Rat},ss.length=os.length->(yq (λs o=>s*a+o*b) ss os).sum=ss.sum*a+os.sum*b
 | [],[],_=>by simp;grind
 |s::ss,o::os,h=>by
  rw[AAf,ub,ub,ub,TR (by simpa using h)]
  grind
theorem WQ{x:Rat}{os ss:KE Rat}(h:ss.length=os.length)(h1:ss.sum=1)(h2:os.sum=1):(Hv x os ss).sum=1:=by
 unfold Hv
 rw[TR h,h1,h2]
 grind
theorem VO{n m:Int}{ss os:KE Rat}(h:ss.length=os.length)(h1:ss.sum=1)(h2:os.sum=1)(h0:0<n+m):(Ax n m ss os).sum=1:=by
 have hc:((n+m:Int):Rat)≠0:=by
  intro z
  have:=wO.mp z
  lia
 have e:(λ(s o:Rat)=>(s*n+o*m) / ((n+m:Int):Rat))=λs o=>s*((n:Rat) / ((n+m:Int):Rat))+o*((m:Rat) / ((n+m:Int):Rat)):=by
  funext s o
  grind
 unfold Ax
 rw[e,TR h,h1,h2]
 push_cast at hc⊢
 grind
theorem Sm{v:Rat}:∀{l:KE Rat} {i:Nat},i<l.length->(l.set i v).sum=l.sum-l.getD i 0+v
 |a::l,0,_=>by
  rw[ABd,ub,ub]
  simp
  grind
 |a::l,i+1,h=>by
  rw[List.set_cons_succ,ub,ub,Sm (by simpa using h)]
  simp
  grind
theorem ZK{p q:Nat}{x:Rat}{ss:KE Rat}(hpq:p≠q)(hp:p<ss.length)(hq:q<ss.length):(HF p q x ss).sum=ss.sum:=by
 unfold HF
 rw[Sm (by simpa using hq),Sm hp]
 have:(ss.set p (ss.getD p 0-ss.getD p 0*x)).getD q 0=ss.getD q 0:=by
  rw[tu,uE hpq,<-tu]
 rw[this]
 grind
theorem Tb{i:Nat}:∀{n:Nat},(Ia n i).sum=if i<n then 1 else 0
 |0=>by simp[Ia]
 |n+1=>by
  have ih:=Tb (i:=i) (n:=n)
  unfold Ia at ih⊢
  rw[List.range_succ,vU,AAm,ih]
  by_cases h:n=i
  .subst h;simp;grind
  .have:i<n+1↔i<n:=by lia
   simp[h,this]
   grind
section
variable{t:Tr}{k:Nat}{st:Stt}{d:AR}
theorem Ht{ls:KE Ld}(h:cw ls){l:Nat}{n:Int}(hl:l<ls.length):cw (less ls l n):=λx hx=>by
 rcases LA hx hl with hx|rfl
 .exact h x hx
 .exact(h (AM ls l) (AU hl):)
theorem Lm{ls:KE Ld}(h:cw ls){y:Ld}(hy:y.ow.sum=1):cw (ls++[y]):=λx hx=>by
 rcases uU.mp hx with hx|hx
 .exact h x hx
 .rw[uk.mp hx];exact hy
theorem Xp(h:ED t k st)(hc:Can t st d)(ho:cw st.AD):cw (step t st d).AD:=by
 cases d with
 |DL p kd n=>
  refine Lm ho ?_
  rw[Tb,uZ hc.1]
 |GS i j=>
  obtain⟨hij,hi,hj,h1,h2,h3⟩:=hc
  refine Lm (Ht (Ht ho hi) (by rw[Ar];exact hj)) ?_
  exact VO (by rw[h.own _ (AU hi),h.own _ (AU hj)]) (ho _ (AU hi)) (ho _ (AU hj)) (by lia)
 |swap i g kd n=>exact Lm (Ht ho hc.1) (ho (AM st.AD i) (AU hc.1):)
 |DQ u i g kd n=>exact Lm (Ht ho hc.1) (ho (AM st.AD i) (AU hc.1):)
 |Ey i n=>exact Ht ho hc.1
 |thr i n ws=>
  intro x hx
  obtain⟨y,hy,rfl⟩:=um.mp hx
  have hl:=hc.1
  have ly:y.ow.length=t.p:=by
   rcases LA hy hl with hy|rfl
   .exact h.own y hy
   .exact(h.own (AM st.AD i) (AU hl):)
  exact WQ (by rw[ly,h.own _ (AU hl)]) (Ht ho hl y hy) (ho _ (AU hl))
 |JE p q x=>
  intro y hy
  obtain⟨z,hz,rfl⟩:=um.mp hy
  obtain⟨h1,h2,h3,_⟩:=hc
  have:=h.own z hz
  show(HF p q x z.ow).sum=1
  rw[ZK h1 (by lia) (by lia)]
  exact ho z hz
end
noncomputable def Hu(ls:KE Ld)(kd:Nat):Int:=((ls.filter λx=>x.k==kd).map λx=>x.n).sum
theorem sum_add{f g:Nat->Rat}:∀{xs:KE Nat},(xs.map λp=>f p+g p).sum=(xs.map f).sum+(xs.map g).sum
 | []=>by simp;grind
 |x::xs=>by
  rw[t8,t8,t8,ub,ub,ub,sum_add]
  grind
theorem YA{c:Rat}{f:Nat->Rat}:∀{xs:KE Nat},(xs.map λp=>c*f p).sum=c*(xs.map f).sum
 | []=>by simp
 |x::xs=>by
  rw[t8,t8,ub,ub,YA]
  grind
theorem QF:∀{xs:KE Nat},(xs.map λ_=>(0:Rat)).sum=0
 | []=>rfl
 |x::xs=>by rw[t8,ub,QF];grind
theorem Xq{x:Ld}{P:Nat}(h:x.ow.length=P):(uJ P).map (ownAt x)=x.ow:=by
 apply wq
 .simp[h]
 .intro i h1 h2
  simp[ownAt,tu,t7 h2]
theorem PY{P kd:Nat}:∀{ls:KE Ld},(∀l∈ls,l.ow.length=P)->cw ls->((uJ P).map λp=>kindS ls p kd).sum=(Hu ls kd:Rat)
 | [],_,_=>by
   have:(λp=>kindS [] p kd)=λ_=>(0:Rat):=rfl
   rw[this,QF];rfl
 |x::ls,h,o=>by
  have ih:=PY (kd:=kd) (ls:=ls) (λl hl=>h l (tf _ hl)) λl hl=>o l (tf _ hl)
  have e:(λp=>kindS (x::ls) p kd)=λp=>(if x.k=kd then(x.n:Rat)*ownAt x p else 0)+kindS ls p kd:=by
   funext p;exact IC
  rw[e,sum_add,ih]
  unfold Hu
  rw[vp]
  by_cases hk:x.k=kd
  .have:((uJ P).map λp=>(if x.k=kd then(x.n:Rat)*ownAt x p else 0))=(uJ P).map λp=>(x.n:Rat)*ownAt x p:=by simp[hk]
   rw[this,YA,Xq (h x uD),o x uD]
   simp[hk]
  .have:((uJ P).map λp=>(if x.k=kd then(x.n:Rat)*ownAt x p else 0))=(uJ P).map λ_=>0:=by simp[hk]
   rw[this,QF]
   simp[hk]
   grind
noncomputable def Hf:AR->uv
 | .DL .. =>true
 | .GS .. =>true
 | .swap .. =>true
 | .DQ .. =>true
 |_=>false
noncomputable def tO(t:Tr)(M:Nat):Tr:={t with p:=M}
noncomputable def JG(i:Nat):AR->tY AR
 | .DL _ k n=>Gc (.DL i k n)
 | .GS a b=>Gc (.GS a b)
 | .swap l g k n=>Gc (.swap l g k n)
 | .DQ _ l g k n=>Gc (.swap l g k n)
 | .Ey l n=>Gc (.Ey l n)
 | .thr l n _=>Gc (.Ey l n)
 | .JE _ _ _=>none
noncomputable def Cu(t:Tr)(M:Nat)(s:Stt)(d:AR):Stt:=match JG s.AD.length d with
 |some d'=>step (tO t M) s d'
 |none=>s
noncomputable def TV(t:Tr)(M:Nat)(s:Stt)(ds:KE AR):Stt:=ds.foldl (Cu t M) s
noncomputable def MW(M:Nat)(ls:KE Ld):Stt:=⟨(uJ ls.length).map λi=>⟨(AM ls i).k,(AM ls i).n,Ia M i⟩,uQ M 0,[]⟩
noncomputable def kn(x:Ld):Nat×Int:=(x.k,x.n)
def Hd(s o:Stt):Prop:=s.AD.map kn=o.AD.map kn
section
variable{t:Tr}{M k:Nat}{s o:Stt}{d:AR}
theorem Hd.len(h:Hd s o):s.AD.length=o.AD.length:=by have:=congrArg yY h;simpa using this
theorem Hd.at(h:Hd s o){i:Nat}(hi:i<s.AD.length):(AM s.AD i).k=(AM o.AD i).k/\(AM s.AD i).n=(AM o.AD i).n:=by
 have hj:i<o.AD.length:=by rw[<-h.len];exact hi
 have e:=congrArg (λl=>l[i]?) h
 simp only[uN,DA hi,DA hj,Option.map_some]at e
 injection e with e
 exact⟨congrArg Prod.fst e,congrArg Prod.snd e⟩
theorem Hd.held(h:Hd s o):A7 s.AD=A7 o.AD:=by
 have e:∀ls:KE Ld,ls.map hD=(ls.map kn).map λz=>D.tup [.int z.1,.int z.2]:=λls=>by rw[uc];rfl
 unfold A7
 rw[e,e,h]
theorem XN{ls:KE Ld}{i:Nat}{n:Int}:(less ls i n).map kn=(ls.map kn).set i ((AM ls i).k,(AM ls i).n-n):=by
 unfold less
 rw[wd]
 rfl
theorem L4{ls os:KE Ld}{i:Nat}{n:Int}(h:ls.map kn=os.map kn)(hk:(AM ls i).k=(AM os i).k)(hn:(AM ls i).n=(AM os i).n):(less ls i n).map kn=(less os i n).map kn:=by
 rw[XN,XN,h,hk,hn]
theorem Hy{ls:KE Ld}{i j:Nat}{n:Int}(h:i≠j):AM (less ls i n) j=AM ls j:=by
 unfold AM less
 rw[tu,uE h,<-tu]
theorem Qr{ls os:KE Ld}{x y:Ld}(h:ls.map kn=os.map kn)(e:kn x=kn y):(ls++[x]).map kn=(os++[y]).map kn:=by
 rw[vU,vU,h];simp[e]
theorem Hd.step(h:Hd s o)(hc:Can t s d):Hd (Mi.step t s d) (Cu t M o d):=by
 cases d with
 |DL p kd n=>exact Qr h rfl
 |GS i j=>
  obtain⟨hij,hi,hj,h1,h2,h3⟩:=hc
  have ai:=h.at hi
  have aj:=h.at hj
  refine Qr ?_ (by show((AM s.AD i).k,(AM s.AD i).n+(AM s.AD j).n)=((AM o.AD i).k,(AM o.AD i).n+(AM o.AD j).n);rw[ai.1,ai.2,aj.2])
  rw[ai.2,aj.2]
  exact L4 (L4 h ai.1 ai.2) (by rw[Hy hij,Hy hij];exact aj.1) (by rw[Hy hij,Hy hij];exact aj.2)
 |swap i g kd n=>exact Qr (L4 h (h.at hc.1).1 (h.at hc.1).2) rfl
 |DQ u i g kd n=>exact Qr (L4 h (h.at hc.1).1 (h.at hc.1).2) rfl
 |Ey i n=>exact L4 h (h.at hc.1).1 (h.at hc.1).2
 |thr i n ws=>
  have e:∀(f:Ld->KE Rat) (ls:KE Ld),(ls.map λx=>({x with ow:=f x}:Ld)).map kn=ls.map kn:=λf ls=>by rw[uc];rfl
  show((less s.AD i n).map λx=>_).map kn=(less o.AD i n).map kn
  rw[e]
  exact L4 h (h.at hc.1).1 (h.at hc.1).2
 |JE p q x=>
  have e:∀(f:Ld->KE Rat) (ls:KE Ld),(ls.map λx=>({x with ow:=f x}:Ld)).map kn=ls.map kn:=λf ls=>by rw[uc];rfl
  show(s.AD.map λy=>_).map kn=o.AD.map kn
  rw[e]
  exact h
theorem YS(h:Hd s o)(hc:Can t s d)(hM:Hf d=true->o.AD.length<M){d':AR}(e:JG o.AD.length d=Gc d'):Can (tO t M) o d':=by
 have hl:=h.len
 cases d with
 |DL p kd n=>cases e;exact⟨hM rfl,hc.2⟩
 |GS i j=>
  cases e
  obtain⟨hij,hi,hj,h1,h2,h3⟩:=hc
  have ai:=h.at hi
  have aj:=h.at hj
  exact⟨hij,by lia,by lia,by rw[<-ai.2];exact h1,by rw[<-aj.2];exact h2,by rw[<-ai.1,<-aj.1];exact h3⟩
 |swap i g kd n=>
  cases e
  have ai:=h.at hc.1
  obtain⟨h1,h2,h3,h4,h5,h6⟩:=hc
  exact⟨by lia,h2,by rw[<-ai.2];exact h3,h4,by rw[<-ai.1];exact h5,h6⟩
 |DQ u i g kd n=>
  cases e
  have ai:=h.at hc.1
  obtain⟨h1,h2,h3,h4,h5,h6,h7,_⟩:=hc
  exact⟨by lia,h2,by rw[<-ai.2];exact h3,h4,by rw[<-ai.1];exact h5,h6,h7⟩
 |Ey i n=>
  cases e
  have ai:=h.at hc.1
  exact⟨by have:=hc.1;lia,hc.2.1,by rw[<-ai.2];exact hc.2.2⟩
 |thr i n ws=>
  cases e
  have ai:=h.at hc.1
  exact⟨by have:=hc.1;lia,hc.2.1,by rw[<-ai.2];exact hc.2.2.1⟩
 |JE p q x=>cases e
theorem Xg(h:ED t k s)(hk:k<=37)(hd:∀{i n ws},d≠.thr i n ws)(hs:∀{p q x},d≠.JE p q x)(hc:Can t s d):ED t (k+1) (step t s d):=by
 obtain⟨G,B,g0,g1,g2,hl,hh⟩:=h.gb
 have L:∀x∈s.AD,LOk t k G B x:=λx hx=>⟨h.kind x hx,(h.pcs x hx).1,(h.pcs x hx).2,h.own x hx,hl x hx⟩
 have g2':B<2^(30+170*(k+1)):=t9 g2 (Je (by lia))
 have hlen:=h.len
 have hnm:=h.nm
 cases d with
 |DL p kd n=>
  obtain⟨h1,h2,h3,h4⟩:=hc
  refine ED.of (G:=G) (B:=B) (by simp[step];lia) (JZ (λx hx=>(L x hx).up1) ⟨h2,by show 0<=n;lia,fc h4,by simp[Ia],UP g1⟩) h.hold (vh hnm) g0 g1 g2' hh
 |GS i j=>
  obtain⟨hij,hi,hj,h1,h2,h3⟩:=hc
  have li:=L _ (AU hi)
  have lj:=L _ (AU hj)
  have tl:((AM s.AD i).n+(AM s.AD j).n).toNat<2^(132+k):=by
   have a:=li.n1;have b:=lj.n1
   have e:(2:Int)^(132+k)=2^(131+k)*2:=by rw[show 132+k=(131+k)+1 by lia,AAg]
   have:(((AM s.AD i).n+(AM s.AD j).n).toNat:Int)<((2^(132+k):Nat):Int):=by
    rw[vF (by lia)]
    push_cast
    rw[e];lia
   exact_mod_cast this
  have t0:0<((AM s.AD i).n+(AM s.AD j).n).toNat:=by lia
  refine ED.of (G:=G*((AM s.AD i).n+(AM s.AD j).n).toNat) (B:=B*((AM s.AD i).n+(AM s.AD j).n).toNat) (by simp[step,Ar];lia) (JZ ?_ ⟨li.kd,by show 0<=(AM s.AD i).n+(AM s.AD j).n;lia,?_,?_,RE h1 h2 li.ok lj.ok⟩) h.hold (vh hnm) (yD g0 t0) (uy _ g1) (Uk g2 tl (by lia)) (λr hr=>(hh r hr).up (tw _))
  .have A:=FK (P:=LOk t (k+1) (G*((AM s.AD i).n+(AM s.AD j).n).toNat) (B*((AM s.AD i).n+(AM s.AD j).n).toNat)) (n:=(AM s.AD i).n) hi (λx hx=>(L x hx).up (tw _)) ((li.up (tw _)).less (by lia) (ABD _))
   have A2:=FK (st:={s with AD:=less s.AD i (AM s.AD i).n}) (i:=j) (n:=(AM s.AD j).n) (by simpa[Ar]using hj) A (by
    show LOk _ _ _ _ ⟨(AM (less s.AD i (AM s.AD i).n) j).k,(AM (less s.AD i (AM s.AD i).n) j).n-_,(AM (less s.AD i (AM s.AD i).n) j).ow⟩
    rw[Hy hij]
    exact(lj.up (tw _)).less (by lia) (ABD _))
   exact A2
  .show(AM s.AD i).n+(AM s.AD j).n<2^(131+(k+1))
   have a:=li.n1;have b:=lj.n1
   rw[show 131+(k+1)=(131+k)+1 by lia,AAg];lia
  .exact IW li.own lj.own
 |swap i g kd n=>
  obtain⟨hi,h1,h2,h3,h4,h5,h6⟩:=hc
  have li:=L _ (AU hi)
  refine ED.of (G:=G) (B:=B) (by simp[step,Ar];lia) (JZ (FK hi (λx hx=>(L x hx).up1) (li.up1.less (by lia) h2)) ⟨h3,by show 0<=n;lia,fc h6,li.own,li.ok⟩) h.hold (vh hnm) g0 g1 g2' hh
 |DQ u i g kd n=>
  obtain⟨hi,h1,h2,h3,h4,h5,h6,h7⟩:=hc
  have li:=L _ (AU hi)
  refine ED.of (G:=G) (B:=B) (by simp[step,Ar];lia) (JZ (FK hi (λx hx=>(L x hx).up1) (li.up1.less (by lia) h2)) ⟨h3,by show 0<=n;lia,fc h6,li.own,li.ok⟩) h.hold (by simp[step];lia) g0 g1 g2' hh
 |Ey i n=>
  obtain⟨hi,h1,h2⟩:=hc
  have li:=L _ (AU hi)
  refine ED.of (G:=G) (B:=B) (by simp[step,Ar];lia) (FK hi (λx hx=>(L x hx).up1) (li.up1.less (by lia) h2)) h.hold (vh hnm) g0 g1 g2' hh
 |thr i n ws=>exact absurd rfl hd
 |JE p q x=>exact absurd rfl hs
end
section
variable{S:Sto}{t:Tr}{ls:KE Ld}{ds:KE AR}{k M:Nat}{s o:Stt}{d:AR}
theorem Jz:∀{ds:KE AR} {st:Stt},(runs t st ds).AD.length=st.AD.length+(ds.filter Hf).length
 | [],st=>by simp[runs]
 |d::ds,st=>by
  show(runs t (step t st d) ds).AD.length=_
  rw[Jz]
  cases d<;>simp[step,Hf,Ar,vp]<;>lia
abbrev owL(s:Stt):KE D:=s.AD.map λx=>shD x.ow
theorem Vv{q i j:Nat}(hq:S[q]?=Gc (.lst (owL s)))(h:ED t k s)(hk:k<=17)(hp:t.p<=50)(hc:Can t s (.GS i j)):Ae [A7 s.AD,.ref q,(AR.GS i j).d] S=Gc (shD (Ax (AM s.AD i).n (AM s.AD j).n (AM s.AD i).ow (AM s.AD j).ow),S):=by
 obtain⟨hij,hi,hj,h1,h2,h3⟩:=hc
 have sz:=h.sz
 have pi:=h.pcs _ (AU hi)
 have pj:=h.pcs _ (AU hj)
 have ti:=h.own _ (AU hi)
 have tj:=h.own _ (AU hj)
 have zi:=sz.1 _ (AU hi)
 have zj:=sz.1 _ (AU hj)
 have cq:=As hq
 by_cases hle:i<=j
 .have hle':(i:Int)<=j:=by lia
  have e:=Df (S:=S) (j:=30+170*k) (n:=131+k) zi zj (EV pi.1 pi.2) (EV pj.1 pj.2) (by lia) (by lia) (by lia)
  rw[IY]at e
  have a1:=EC hi
  have a2:=EC hj
  have b1:=Hj hi
  have b2:=Hj hj
  have mf:Ag [(AR.GS i j).d] S=Gc (.lst [.int i,.int j],S):=by
   simp[Ag,BJ,AR.d,hle,hle']
  simp only[AR.d]at mf⊢
  simp[Ae,Bc,mf,cq,a1,a2,b1,b2,e]
 .have hle':¬(i:Int)<=j:=by lia
  have e:=Df (S:=S) (j:=30+170*k) (n:=131+k) zj zi (EV pj.1 pj.2) (EV pi.1 pi.2) (by lia) (by lia) (by lia)
  rw[IY,Nr]at e
  have a1:=EC hi
  have a2:=EC hj
  have b1:=Hj hi
  have b2:=Hj hj
  have mf:Ag [(AR.GS i j).d] S=Gc (.lst [.int j,.int i],S):=by
   simp[Ag,BJ,AR.d,hle,hle']
  simp only[AR.d]at mf⊢
  simp[Ae,Bc,mf,cq,a1,a2,b1,b2,e]
theorem Va{q i kd:Nat}{g n:Int}(hq:S[q]?=Gc (.lst (owL s)))(hi:i<s.AD.length){H:D}:Ae [H,.ref q,(AR.swap i g kd n).d] S=Gc (shD (AM s.AD i).ow,S):=by
 have b1:=Hj hi
 have cq:=As hq
 simp[Ae,Bc,Ag,BJ,AR.d,cq,b1]
theorem TU{q i kd:Nat}{u g n:Int}(hq:S[q]?=Gc (.lst (owL s)))(hi:i<s.AD.length){H:D}:Ae [H,.ref q,(AR.DQ u i g kd n).d] S=Gc (shD (AM s.AD i).ow,S):=by
 have b1:=Hj hi
 have cq:=As hq
 simp[Ae,Bc,Ag,BJ,AR.d,cq,b1]
theorem Li{ls:KE Ld}{i:Nat}{n:Int}:(less ls i n).map (λx=>shD x.ow)=ls.map λx=>shD x.ow:=by
 unfold less
 rw[wd]
 by_cases hi:i<ls.length
 .refine yr λj=>?_
  by_cases e:i=j
  .subst e
   rw[uG (by simpa using hi),uN,DA hi];rfl
  .rw[uE e]
 .rw[AAE (by simp;lia)]
end
section
variable{S:Sto}{t:Tr}{ls:KE Ld}{ds:KE AR}{k M:Nat}{s o:Stt}{d:AR}
theorem ED.up(h:ED t k s):ED t (k+1) s:=by
 obtain⟨G,B,g0,g1,g2,hl,hh⟩:=h.gb
 exact ED.of (G:=G) (B:=B) (by have:=h.len;lia) (λx hx=>LOk.up1 ⟨h.kind x hx,(h.pcs x hx).1,(h.pcs x hx).2,h.own x hx,hl x hx⟩) h.hold (by have:=h.nm;lia) g0 g1 (t9 g2 (Je (by lia))) hh
structure OJ(t:Tr)(M k:Nat)(s o:Stt):Prop where
 hd:Hd s o
 inv:ED (tO t M) k o
 ones:cw o.AD
theorem OJ.step(h:OJ t M k s o)(hk:k<=37)(hc:Can t s d)(hM:Hf d=true->o.AD.length<M):OJ t M (k+1) (Mi.step t s d) (Cu t M o d):=by
 refine⟨h.hd.step hc,?_,?_⟩
 .unfold Cu
  cases e:JG o.AD.length d with
  |none=>exact h.inv.up
  |some d'=>
   have c:=YS h.hd hc hM e
   refine Xg h.inv hk ?_ ?_ c
   .intro i n ws z;subst z;cases d<;>cases e
   .intro i n ws z;subst z;cases d<;>cases e
 .unfold Cu
  cases e:JG o.AD.length d with
  |none=>exact h.ones
  |some d'=>exact Xp h.inv (YS h.hd hc hM e) h.ones
def orB:Ex:=(Ad (xIf (eOp (o2 wEq) [eOp (o2 wIx) [eV 4,eC (.int 0)],eC (.str "bring")]) (CP (KD KJ (eV 3) [AK Bz [eV 1,eOp (o1 HN) [eV 3]]])) (xIf (eOp (o2 (wIn false)) [eOp (o2 wIx) [eV 4,eC (.int 0)],eC Bl]) (CP (KD KJ (eV 3) [AK Ae [eV 2,eV 3,eV 4]])) FV))
    (Bm 2 (AK Af [eV 2,eV 4])))
theorem jP{q:Nat}{bk:tY D}(hs:ED t k s)(hk:k<=17)(h:OJ t M k s o)(hc:Can t s d)(hM:Hf d=true->o.AD.length<M)(hM2:M<=50)(hq:S[q]?=Gc (.lst (owL o))):orB [bk,Gc (.int M),Gc (A7 o.AD),Gc (.ref q),Gc d.d] S=Gc (.nx,[bk,Gc (.int M),Gc (A7 (Cu t M o d).AD),Gc (.ref q),Gc d.d],S.set q (.lst (owL (Cu t M o d)))):=by
 have hz:(owL o).length<sizeLine:=t9 (show _<50 by have:=h.inv.len;simp;lia) (AO (by decide))
 have cq:=AV hq
 have dq:=As hq
 have bh:∀T,Af [A7 o.AD,d.d] T=Gc (A7 (Cu t M o d).AD,T):=λT=>by
  rw[<-h.hd.held,<-(h.hd.step (M:=M) hc).held]
  exact Kz hs hk hc
 have hl:((owL o).length:Int)=(o.AD.length:Int):=by simp
 cases d with
 |DL p kd n=>
  have e:=Ih (S:=S) (P:=M) (p:=o.AD.length) hM2
  have eo:owL (Cu t M o (.DL p kd n))=owL o++[shD (Ia M o.AD.length)]:=by simp[owL,Cu,JG,step,tO]
  rw[eo]
  simp only[AR.d]at bh⊢
  rw[<-hl]at e
  generalize owL o=W at*
  simp[orB,cq,dq,e,hz,bh]
 |GS i j=>
  have c:=YS h.hd hc hM rfl
  have e:=Vv hq h.inv hk hM2 c
  have eo:owL (Cu t M o (.GS i j))=owL o++[shD (Ax (AM o.AD i).n (AM o.AD j).n (AM o.AD i).ow (AM o.AD j).ow)]:=by simp[owL,Cu,JG,step,Li]
  rw[eo]
  simp only[AR.d]at bh e⊢
  generalize owL o=W at*
  simp[orB,cq,dq,e,hz,bh]
 |swap i g kd n=>
  have hi:i<o.AD.length:=by rw[<-h.hd.len];exact hc.1
  have e:=Va (g:=g) (kd:=kd) (n:=n) hq hi (H:=A7 o.AD)
  have eo:owL (Cu t M o (.swap i g kd n))=owL o++[shD (AM o.AD i).ow]:=by simp[owL,Cu,JG,step,Li]
  rw[eo]
  simp only[AR.d]at bh e⊢
  generalize owL o=W at*
  simp[orB,cq,dq,e,hz,bh]
 |DQ u i g kd n=>
  have hi:i<o.AD.length:=by rw[<-h.hd.len];exact hc.1
  have e:=TU (u:=u) (g:=g) (kd:=kd) (n:=n) hq hi (H:=A7 o.AD)
  have eo:owL (Cu t M o (.DQ u i g kd n))=owL o++[shD (AM o.AD i).ow]:=by simp[owL,Cu,JG,step,Li]
  rw[eo]
  simp only[AR.d]at bh e⊢
  generalize owL o=W at*
  simp[orB,cq,dq,e,hz,bh]
 |Ey i n=>
  have eo:owL (Cu t M o (.Ey i n))=owL o:=by simp[owL,Cu,JG,step,Li]
  rw[eo,set_same hq]
  simp only[AR.d]at bh⊢
  simp[orB,bh]
 |thr i n ws=>
  have eo:owL (Cu t M o (.thr i n ws))=owL o:=by simp[owL,Cu,JG,step,Li]
  rw[eo,set_same hq]
  simp only[AR.d]at bh⊢
  simp[orB,bh]
 |JE p q' x=>
  have eo:owL (Cu t M o (.JE p q' x))=owL o:=by simp[owL,Cu,JG]
  rw[eo,set_same hq]
  simp only[AR.d]at bh⊢
  simp[orB,bh]
end
section
variable{S:Sto}{t:Tr}{ls:KE Ld}{ds:KE AR}{k M:Nat}{s o:Stt}{d:AR}
theorem Qx(hd:Hd s o)(hM:(runs t s (d::ds)).AD.length<=M):Hf d=true->o.AD.length<M:=λe=>by
 rw[Jz,vp,uZ e,hd.len]at hM
 simp at hM
 lia
theorem OJ.runs(ht:JO t):∀{ds:KE AR} {s o:Stt} {k:Nat},OJ t M k s o->MC t s ds->k+ds.length<=37->(Mi.runs t s ds).AD.length<=M->OJ t M (k+ds.length) (Mi.runs t s ds) (TV t M o ds)
 | [],s,o,k,h,_,_,_=>h
 |d::ds,s,o,k,h,hg,hk,hM=>by
  have hl:(d::ds).length=ds.length+1:=rfl
  have:=OJ.runs ht (ds:=ds) (h.step (by lia) hg.1 (Qx h.hd hM)) hg.2 (by lia) hM
  rw[show k+(d::ds).length=k+1+ds.length by lia]
  exact this
theorem Wb(ht:JO t)(hM2:M<=50){q:Nat}{bk:tY D}:∀{ds:KE AR} {s o:Stt} {k:Nat} {S:Sto} {o4:tY D},ED t k s->OJ t M k s o->MC t s ds->k+ds.length<=16->(runs t s ds).AD.length<=M->S[q]?=Gc (.lst (owL o))->∃o4' S',Jx [] (tNm 4) orB (ds.map AR.d) [bk,Gc (.int M),Gc (A7 o.AD),Gc (.ref q),o4] S=Gc (.nx,[bk,Gc (.int M),Gc (A7 (TV t M o ds).AD),Gc (.ref q),o4'],S')/\S'[q]?=Gc (.lst (owL (TV t M o ds)))/\Bv [q] S S'
 | [],s,o,k,S,o4,_,h,_,_,_,hq=>⟨o4,S,by rw[u4,Dz AZ];rfl,hq,.refl⟩
 |d::ds,s,o,k,S,o4,hs,h,hg,hk,hM,hq=>by
  have hl:(d::ds).length=ds.length+1:=rfl
  have hm:=Qx h.hd hM
  have e:=jP (bk:=bk) hs (by lia) h hg.1 hm hM2 hq
  obtain⟨o4',S',e2,q2,s2⟩:=Wb ht hM2 (ds:=ds) (bk:=bk) (S:=S.set q (.lst (owL (Cu t M o d)))) (o4:=Gc d.d) (NH ht hs (by lia) hg.1) (h.step (by lia) hg.1 hm) hg.2 (by lia) hM (uG (Ac hq))
  refine⟨o4',S',?_,q2,(Bv.set (by simp)).trans s2⟩
  have tn:tNm 4 d.d [bk,Gc (.int M),Gc (A7 o.AD),Gc (.ref q),o4] S=Gc [bk,Gc (.int M),Gc (A7 o.AD),Gc (.ref q),Gc d.d]:=rfl
  rw[t8,B7 AZ,tn,Ap,e,Ap,Fe,e2]
  rfl
theorem bH(f:Nat×Int->Nat×Int):(uJ ls.length).map (λi=>((AM ls i).k,(AM ls i).n))=ls.map kn:=by
 apply wq
 .simp
 .intro i h1 h2
  simp at h1
  have e:=DA h1
  rw[t7 h1]at e
  injection e with e
  simp[kn,<-e]
theorem LI(h:CK t ls ds)(hM:ls.length<=M):OJ t M 0 (st0 t ls) (MW M ls):=by
 have hl:=h.inv.len
 refine⟨?_,?_,?_⟩
 .show ls.map kn=((uJ ls.length).map _).map kn
  rw[uc]
  exact(bH id).symm
 .refine ED.of (G:=1) (B:=1) (by have hl':ls.length<=4:=hl;simp[MW];lia) (λx hx=>?_) (by simp[MW,tO]) (by simp[MW]) (by decide) (by decide) (by decide) (λr hr=>?_)
  .obtain⟨i,hi,rfl⟩:=um.mp hx
   have hi':i<ls.length:=by simpa using hi
   have m:=AU hi'
   exact⟨h.inv.kind (AM ls i) m,(h.inv.pcs (AM ls i) m).1,(h.inv.pcs (AM ls i) m).2,by simp[Ia,tO],UP (tw _)⟩
  .have:r=0:=List.eq_of_mem_replicate hr
   rw[this];exact Ok.zero
 .intro x hx
  obtain⟨i,hi,rfl⟩:=um.mp hx
  have hi':i<ls.length:=by simpa using hi
  show(Ia M i).sum=1
  rw[Tb,uZ (by lia)]
noncomputable def manyN(ls:KE Ld)(ds:KE AR):Nat:=ls.length+(ds.filter Hf).length
theorem mkC(hl:ds.length<=50):CU [] (tNm 0) (eOp (o2 (wIn false)) [eOp (o2 wIx) [eV 0,eC (.int 0)],eC Bl]) (eV 0) (ds.map AR.d) [] [none] S=Gc ((ds.filter Hf).map AR.d,S):=
 DJ (gs:=[]) (t:=tNm 0) (f:=eV 0) (C:=[]) (m:=1) (e:=AR.d) (g:=AR.d) (b:=Hf) (S:=S) AZ (xs:=ds) (acc:=[]) (os:=[none]) rfl (uA (show _<=50 by simp;lia) (AO (by decide))) (by
  intro d _ os ho
  obtain⟨o1,rfl⟩:=ON ho
  refine⟨[Gc d.d],rfl,by simp,?_,by simp⟩
  cases d<;>simp[AR.d,Hf])
theorem af(h:CK t ls ds):EG [BC t ls ds,.int ds.length] S=Gc (.int (manyN ls ds),S):=by
 have hd:=h.len
 have ct:Nl (ds.map AR.d) none (Gc (ds.length:Int))=ds.map AR.d:=by rw[Kw (by simp),vn (by simp)]
 have mc:=mkC (S:=S) (ds:=ds) (by lia)
 have e:(manyN ls ds:Int)=(ls.length:Int)+((ds.filter Hf).length:Int):=by unfold manyN;lia
 rw[e]
 simp[EG,KU,BC,ct,mc]
noncomputable def Kr(t:Tr)(ls:KE Ld)(ds:KE AR):Stt:=TV t (manyN ls ds) (MW (manyN ls ds) ls) ds
theorem Td(h:CK t ls ds):manyN ls ds<=20:=by
 have:=h.len
 have:=h.inv.len
 have:=vv Hf ds
 have:(st0 t ls).AD.length=ls.length:=rfl
 unfold manyN;lia
theorem U6(h:CK t ls ds):OJ t (manyN ls ds) ds.length (runs t (st0 t ls) ds) (Kr t ls ds):=by
 have hd:=h.len
 have:=OJ.runs (M:=manyN ls ds) h.tr (LI h (by unfold manyN;lia)) h.good (by lia) (by rw[Jz];exact tw _)
 rwa [yK]at this
theorem Ot(h:CK t ls ds):∃q S',FA [BC t ls ds] S=Gc (.ref q,S')/\S'[q]?=Gc (.lst (owL (Kr t ls ds)))/\Bv [] S S'/\S.length<=q:=by
 have hd:=h.len
 have hl:ls.length<=4:=h.inv.len
 have mm:=Td h
 have m:=af (S:=S) h
 have fh:=J0 (S:=S) (ls:=ls) (x:=t.d) (y:=.tup (ds.map AR.d)) (by lia)
 have c1:=Cm (gs:=[]) (t:=tNm 1) (f:=AK Bz [eV 0,eV 1]) (C:=[Gc (.int (manyN ls ds))]) (m:=1) (e:=λi:Nat=>D.int (0+(i:Int))) (g:=λi=>shD (Ia (manyN ls ds) i)) (S:=S) AZ (xs:=uJ ls.length) (acc:=[]) (os:=[none]) rfl (uA (show _<=50 by simp;lia) (AO (by decide))) (by
  intro i _ os ho
  obtain⟨o1,rfl⟩:=ON ho
  have e:=Ih (S:=S) (P:=manyN ls ds) (p:=i) (by lia)
  exact⟨[Gc (.int i)],by simp,by simp,by simp[e]⟩)
 have ow0:(uJ ls.length).map (λi=>shD (Ia (manyN ls ds) i))=owL (MW (manyN ls ds) ls):=by
  unfold owL MW;rw[uc];rfl
 have rn:IK (ls.length:Int)=true:=DB (by lia) (by lia)
 have h0:A7 ls=A7 (MW (manyN ls ds) ls).AD:=(LI h (M:=manyN ls ds) (by unfold manyN;lia)).hd.held
 obtain⟨o4,S',e2,q2,s2⟩:=Wb (M:=manyN ls ds) h.tr (by lia) (q:=S.length) (bk:=Gc (BC t ls ds)) (o4:=none) h.inv (LI h (by unfold manyN;lia)) h.good (by lia) (by rw[Jz];exact tw _) (S:=S++[Cl.lst (owL (MW (manyN ls ds) ls))]) uL
 refine⟨S.length,S',?_,q2,Bv.new (A:=[]) (B:=[S.length]) .app s2 (by simp),tw _⟩
 have eb:JT=(Ad (Bm 1 (AK EG [eV 0,eOp (o1 HN) [eOp (o2 wIx) [eV 0,eC (.int 2)]]]))
  (Ad (Bm 2 (AK BS [eV 0]))
  (Ad (Bm 3 (PM [1] 1 (My [eOp (o1 HN) [eV 2]]) (tNm 1) Bx (AK Bz [eV 0,eV 1])))
  (Ad (JI (GI (eOp (o2 wIx) [eV 0,eC (.int 2)])) (tNm 4) orB)
  (By (eV 3)))))):=rfl
 unfold FA
 rw[eb]
 simp only[uV,uj]at c1
 rw[ow0]at c1
 rw[<-h0]at e2
 have lh:HN (.val (A7 ls))=Gc (.val (.int ls.length)):=by
  show Gc (Wv.val (.int ((ls.map hD).length:Int)))=_
  simp
 have rg:(uJ ls.length).map (λi:Nat=>D.int (0+(i:Int)))=K4 0 ls.length:=by simp[K4]
 rw[rg]at c1
 simp only[BC]at m fh e2⊢
 generalize owL (MW (manyN ls ds) ls)=W at*
 simp[m,fh,lh,rn,c1,e2]
end
section
variable{S:Sto}{ls:KE Ld}{G B N K:Nat}
theorem Xt{k:Nat}(hk:k<=20){p:Nat}(hkind:∀l∈ls,l.k<k)(h:Bd ls G B N K):∃S',Br [.int k,A7 ls,.lst (ls.map λx=>aD (ownAt x p))] S=Gc (shD (BY k ls p),S')/\Bv [] S S':=by
 have ez:Pm (ls.map hD) (ls.map λx=>aD (ownAt x p))=ls.map λx=>.tup [hD x,aD (ownAt x p)]:=by
  unfold Pm
  rw[List.zip_map',uc]
  rfl
 have hq:(S++[Cl.lst ((BY k [] p).map aD)])[S.length]?=Gc (.lst ((BY k [] p).map aD)):=uL
 generalize hQ:S.length=q at*
 obtain⟨E',S',ef,i,o4,o5,o6,f1,f2,rfl,f3,f4⟩:=Ha (gs:=[]) (t:=tTp [tTp [tNm 5,tNm 6],tNm 4]) (b:=Om (AK Ie [eOp (o2 wIx) [eV 3,eV 5],AK G3 [CS [eV 6,eC (.int 1)],eV 4]]) (eV 3) (eV 5))
  (I:=λrs E S'=>∃(i:Nat) (o4 o5 o6:tY D),rs=(ls.drop i).map (λx=>D.tup [hD x,aD (ownAt x p)])/\i<=ls.length/\E=[Gc (.int k),Gc (A7 ls),Gc (.lst (ls.map λx=>aD (ownAt x p))),Gc (.ref q),o4,o5,o6]/\S'[q]?=Gc (.lst ((BY k (ls.take i) p).map aD))/\Bv [] S S')
  (λ_ _ _ _=>AZ) (ds:=ls.map λx=>D.tup [hD x,aD (ownAt x p)]) (E:=[Gc (.int k),Gc (A7 ls),Gc (.lst (ls.map λx=>aD (ownAt x p))),Gc (.ref q),none,none,none]) (S:=S++[Cl.lst ((BY k [] p).map aD)])
  ⟨0,none,none,none,by simp,ve _,rfl,by simpa using hq,.app⟩ (by
    rintro dd rs E T ⟨i,o4,o5,o6,i1,i2,rfl,i3,i4⟩
    have hlt:i<ls.length:=by
     rcases xo i ls.length with w|w
     .exact w
     .rw[vo w]at i1;cases i1
    rw[vD hlt,t8]at i1
    injection i1 with z1 z2
    subst z1 z2
    have hm:ls[i]∈ls:=wm hlt
    have htk:ls.take (i+1)=ls.take i++[ls[i]]:=by rw[AA2,t7 hlt];rfl
    have tm:=c8 (S:=T) (h.nSz hm) ((h.at hm p).sz h.g0 h.gK h.hB) (by have:=h.hK;lia)
    rw[NR]at tm
    have zb:30*(B*N)<2^K:=by have:=h.hb;lia
    have zb1:B*N<2^K:=by have:=h.hb;lia
    have pl:=iP (S:=T) ((h.take i).kind (p:=p) (kd:=ls[i].k)|>.sz h.g0 h.gK zb) ((h.mul hm p).sz h.g0 h.gK zb1) (by have:=h.hK;lia)
    have hkd:=hkind _ hm
    have at1:atI ((BY k (ls.take i) p).map aD) (ls[i].k:Int)=Gc (aD (kindS (ls.take i) p ls[i].k)):=DF (by
     rw[uN,BY,uN,wB hkd];rfl)
    have ix1:ixN ((BY k (ls.take i) p).map aD).length (ls[i].k:Int)=Gc ls[i].k:=Nu (by simp[BY];exact hkd)
    have ef:((BY k (ls.take i) p).map aD).set ls[i].k (aD (kindS (ls.take i) p ls[i].k+(ls[i].n:Rat)*ownAt ls[i] p))=(BY k (ls.take (i+1)) p).map aD:=by rw[htk,Tw,wd]
    have dq:=As i3
    have cq:=AV i3
    generalize (BY k (ls.take i) p).map aD=V at*
    generalize hx:ls[i]=x at*
    generalize aD (kindS (ls.take i) p x.k+(x.n:Rat)*ownAt x p)=D1 at*
    generalize aD ((x.n:Rat)*ownAt x p)=D2 at*
    generalize aD (kindS (ls.take i) p x.k)=D3 at*
    have lq:=i4.len
    refine⟨_,[Gc (.int k),Gc (A7 ls),Gc (.lst (ls.map λx=>aD (ownAt x p))),Gc (.ref q),Gc (aD (ownAt x p)),Gc (.int x.k),Gc (.int x.n)],T.set q (.lst (V.set x.k D1)),by simp;rfl,?_,i+1,_,_,_,rfl,hlt,rfl,by rw[<-ef];exact uG (Ac i3),Bv.new (A:=[]) (B:=[q]) i4 (.set (by simp)) (by intro n hn';simp at hn';lia)⟩
    generalize aD (ownAt x p)=D4 at*
    simp[dq,at1,tm,pl,cq,ix1])
 have hz:i=ls.length:=by
  have:=congrArg yY f1
  simp at this
  lia
 subst hz
 rw[List.take_length]at f3
 refine⟨S',?_,f4⟩
 have m1:C7 (.val (.lst [E5])) (.val (.int k))=Gc (.own ((BY k [] p).map aD)):=by
  have hs:k<=sizeLine:=AO (by lia)
  have h1:(k:Int)<2^63:=by lia
  have h2: -(2:Int)^63<=k:=by lia
  rw[VY,VF,uZ (by simp[hs];lia)]
  simp[Q9,E5]
 have df:=As f3
 generalize (BY k [] p).map aD=V0 at*
 rw[show shD (BY k ls p)=.tup ((BY k ls p).map aD)from rfl]
 generalize (BY k ls p).map aD=V1 at*
 have dh:sqD (S++[Cl.lst V0]) (A7 ls)=Gc (ls.map hD,[]):=nr rfl
 simp[Br,H0,-VF,m1,hQ,dh,ez,ef,df]
end
section
variable{S:Sto}{t:Tr}{ls L:KE Ld}{ds:KE AR}{n p i q:Nat}{x:Rat}
theorem Pb(h:CK t ls ds)(hn:n<=ds.length):HD [BC t ls ds,.int n] S=Gc (A7 (runs t (st0 t ls) (ds.take n)).AD,S):=by
 have hl0:ls.length<=4:=h.inv.len
 have hd:=h.len
 have ct:=Kw (ds:=ds.map AR.d) (n:=n) (by simp;lia)
 obtain⟨E',S',ef,i,o,f1,f2,rfl,rfl⟩:=Ha (gs:=[]) (t:=tNm 3) (b:=Bm 2 (AK Af [eV 2,eV 3]))
  (I:=λrs E S'=>∃(i:Nat) (o:tY D),rs=((ds.take n).drop i).map AR.d/\i<=n/\E=[Gc (BC t ls ds),Gc (.int n),Gc (A7 (runs t (st0 t ls) (ds.take i)).AD),o]/\S'=S)
  (λ_ _ _ _=>AZ) (ds:=(ds.take n).map AR.d) (E:=[Gc (BC t ls ds),Gc (.int n),Gc (A7 ls),none]) (S:=S)
  ⟨0,none,by simp,ve _,by simp[runs,st0],rfl⟩ (by
    rintro dd rs E T ⟨i,o,i1,i2,rfl,rfl⟩
    have hlt:i<(ds.take n).length:=by
     rcases xo i (ds.take n).length with w|w
     .exact w
     .rw[vo w]at i1;cases i1
    rw[vD hlt,t8]at i1
    injection i1 with z1 z2
    subst z1 z2
    have hlt':i<ds.length:=by simp at hlt;lia
    have hin:i<n:=by simp at hlt;lia
    have hg:(ds.take n)[i]=ds[i]:=List.getElem_take
    rw[hg]
    have can:=LJ h.good (t7 hlt')
    have il:(ds.take i).length<=16:=by simp;lia
    have e3:=Kz (S:=T) (h.at i) (by lia) can
    have rt:=LM (t:=t) (st:=st0 t ls) (t7 hlt')
    refine⟨_,[Gc (BC t ls ds),Gc (.int n),Gc (A7 (runs t (st0 t ls) (ds.take (i+1))).AD),Gc ds[i].d],T,by simp;rfl,?_,i+1,Gc ds[i].d,rfl,hin,rfl,rfl⟩
    rw[rt]
    simp[e3])
 have hz:i=n:=by
  have:=congrArg yY f1
  simp at this
  lia
 subst hz
 have fh:=J0 (S:=S') (ls:=ls) (x:=t.d) (y:=.tup (ds.map AR.d)) (by lia)
 simp only[BC]at ef⊢
 rw[AAD]at ef
 simp[HD,Nm,fh,ct,ef]
theorem ji{L:KE Ld}{kd:Nat}{T:Sto}(hl:L.length<=30):CU [] (tTp [tNm 1,tNm 2]) (eOp (o2 wEq) [eV 1,eV 0]) (eV 2) (L.map hD) [] [Gc (.int kd),none,none] T=Gc ((((L.filter λx=>x.k==kd).map λx=>x.n).map D.int),T):=by
 have e:=DJ (gs:=[]) (t:=tTp [tNm 1,tNm 2]) (c:=eOp (o2 wEq) [eV 1,eV 0]) (f:=eV 2) (C:=[Gc (.int kd)]) (m:=2) (e:=hD) (g:=λx=>D.int x.n) (b:=λx=>x.k==kd) (S:=T) AZ (xs:=L) (acc:=[]) (os:=[none,none]) rfl (uA (show _<=50 by simp;lia) (AO (by decide))) (by
  intro x hx os ho
  obtain⟨o1,o2,rfl⟩:=YF ho
  refine⟨[Gc (.int x.k),Gc (.int x.n)],rfl,by simp,?_,by simp⟩
  have:((x.k:Int)==(kd:Int))=(x.k==kd):=by
   rw[Bool.eq_iff_iff,yV,yV]
   lia
  simp[this])
 rw[uc]
 exact e
theorem ao(h:CK t ls ds)(hn:n<=ds.length):GD [BC t ls ds,.int n] S=Gc (.tup ((uJ t.k).map λkd=>.int (Hu (runs t (st0 t ls) (ds.take n)).AD kd)),S):=by
 have r1:=OL (S:=S) h
 have r2:=Rg (S:=S) (t:=t) (ls:=ls) hn
 have hb:=Pb (S:=S) h hn
 have il:(ds.take n).length<=16:=by have:=h.len;simp;lia
 have inv:=(h.at n).len
 obtain⟨t1,t2,t3,t4,t5,t6⟩:=h.tr
 generalize (runs t (st0 t ls) (ds.take n)).AD=L at*
 have e:=Cm (gs:=[]) (t:=tNm 1) (f:=eOp (o1 XW) [CT [1] 2 (GI (eV 0)) (tTp [tNm 1,tNm 2]) (eOp (o2 wEq) [eV 1,eV 0]) (eV 2)]) (C:=[Gc (A7 L)]) (m:=1) (e:=λp:Nat=>D.int p) (g:=λkd=>D.int (Hu L kd)) (S:=S) AZ (xs:=uJ t.k) (acc:=[]) (os:=[none]) rfl (uA (show _<=50 by simp;lia) (AO (by decide))) (by
  intro kd hk os ho
  obtain⟨o1,rfl⟩:=ON ho
  have sc:=ji (L:=L) (kd:=kd) (T:=S) (by lia)
  refine⟨[Gc (.int kd)],rfl,by simp,?_⟩
  have dh:sqD S (A7 L)=Gc (L.map hD,[]):=nr rfl
  have is:=GB ((L.filter λx=>x.k==kd).map λx=>x.n)
  generalize (((L.filter λx=>x.k==kd).map λx=>x.n).map D.int)=Z at*
  simp[dh,ZU,sc,is,Hu])
 rw[<-W6]at e
 have rk:IK (t.k:Int)=true:=DB (by lia) (by lia)
 have td:wIx (.val t.d) (.val (.int 1))=Gc (.val (.int t.k)):=by simp[Tr.d]
 have dt:dr S t.d=.val t.d:=rfl
 simp only[uV,uj,wN]at e
 simp only[BC]at r1 r2 hb⊢
 have tb:wIx (.val (.tup [t.d,.tup (ls.map Ld.d),.tup (ds.map AR.d)])) (.val (.int 0))=Gc (.val t.d):=by simp
 simp[GD,MX,r1,r2,hb,-YK,tb,td,dt,rk,ZU,e]
end
noncomputable def V4:AR->KE Nat
 | .GS a b=>if a<=b then [a,b]else [b,a]
 | .swap l _ _ _=>[l]
 | .DQ _ l _ _ _=>[l]
 |_=>[]
noncomputable def nD(is:KE Nat):D:=.lst (Bn is)
noncomputable def PD(n:Nat)(ds:KE AR):KE (KE Nat):=uQ n []++(ds.filter Hf).map V4
section
variable{S:Sto}{t:Tr}{ls:KE Ld}{ds:KE AR}{k M:Nat}{s o:Stt}{d:AR}
theorem fH{a b:Nat}:(if(a:Int)<=(b:Int)then [(a:Int),(b:Int)]else [(b:Int),(a:Int)]).map D.int=Bn (if a<=b then [a,b]else [b,a]):=by
 by_cases h:a<=b
 .have:(a:Int)<=(b:Int):=by lia
  rw[uZ h,uZ this];rfl
 .have:¬(a:Int)<=(b:Int):=by lia
  rw[uh h,uh this];rfl
theorem ZJ{d:AR}:Ag [d.d] S=Gc (nD (V4 d),S):=by
 have sz:(1:Nat)<=sizeLine:=AO (by decide)
 have sz2:(2:Nat)<=sizeLine:=AO (by decide)
 cases d with
 |GS a b=>
  have e:=fH (a:=a) (b:=b)
  show _=Gc (D.lst (Bn (if a<=b then [a,b]else [b,a])),S)
  rw[<-e]
  simp[Ag,BJ,AR.d,sz2]
 |swap l g k n=>simp[Ag,BJ,AR.d,V4,nD,Bn,sz]
 |DQ u l g k n=>simp[Ag,BJ,AR.d,V4,nD,Bn,sz]
 |_=>simp[Ag,BJ,AR.d,V4,nD,Bn]
theorem YY:(PD ls.length ds).map nD=(ls.map λ_=>D.lst [])++(ds.filter Hf).map λd=>nD (V4 d):=by
 unfold PD
 rw[vU,uc]
 congr 1
 rw[List.map_replicate]
 induction ls with
 |nil=>rfl
 |cons x ls ih=>rw[uq,vd,t8,ih];rfl
theorem O2(h:CK t ls ds):E8 [BC t ls ds] S=Gc (.lst ((PD ls.length ds).map nD),S):=by
 have hd:=h.len
 have hl:ls.length<=4:=h.inv.len
 have c1:=Cm (gs:=[]) (t:=tNm 0) (f:=Lj []) (C:=[]) (m:=1) (e:=Ld.d) (g:=λ_=>D.lst []) (S:=S) AZ (xs:=ls) (acc:=[]) (os:=[none]) rfl (uA (show _<=50 by simp;lia) (AO (by decide))) (by
  intro x hx os ho
  obtain⟨x1,rfl⟩:=ON ho
  exact⟨[Gc x.d],rfl,by simp,by simp⟩)
 have c2:=DJ (gs:=[]) (t:=tNm 0) (c:=eOp (o2 (wIn false)) [eOp (o2 wIx) [eV 0,eC (.int 0)],eC Bl]) (f:=AK Ag [eV 0]) (C:=[]) (m:=1) (e:=AR.d) (g:=λd=>nD (V4 d)) (b:=Hf) (S:=S) AZ (xs:=ds) (acc:=[]) (os:=[none]) rfl (uA (show _<=50 by simp;lia) (AO (by decide))) (by
  intro d hd os ho
  obtain⟨x1,rfl⟩:=ON ho
  refine⟨[Gc d.d],rfl,by simp,?_,?_⟩
  .cases d<;>simp[AR.d,Hf]
  .have e:=ZJ (S:=S) (d:=d)
   simp[e])
 have sz:(ls.map λ_=>D.lst []).length+((ds.filter Hf).map λd=>nD (V4 d)).length<=sizeLine:=uA (show _<=50 by
  have:=vv Hf ds
  rw[uX,uX];lia) (AO (by decide))
 rw[YY]
 simp only[uV]at c1 c2
 generalize (ls.map λ_=>D.lst [])=A at*
 generalize ((ds.filter Hf).map λd=>nD (V4 d))=B at*
 simp[E8,Jj,BC,c1,c2,sz]
noncomputable def SA:AR->uv
 | .DL .. =>true
 |_=>false
noncomputable def rts:Nat->KE AR->KE Nat
 |_,[]=>[]
 |n,d::ds=>if SA d=true then n::rts (n+1) ds else rts (if Hf d=true then n+1 else n) ds
noncomputable def C8(ls:KE Ld)(ds:KE AR):KE Nat:=uJ ls.length++rts ls.length ds
noncomputable def YT:Nat->KE (KE Nat)->KE Nat
 |_,[]=>[]
 |n,r::rs=>if r.isEmpty=true then n::YT (n+1) rs else YT (n+1) rs
theorem XF:∀{ds:KE AR} {n:Nat},YT n ((ds.filter Hf).map V4)=rts n ds
 | [],n=>rfl
 |d::ds,n=>by
  have ih:= @XF ds
  cases d with
  |GS a b=>
   have:(V4 (.GS a b)).isEmpty=false:=by show(if a<=b then [a,b]else [b,a]).isEmpty=false;split<;>rfl
   simp[vp,Hf,YT,rts,SA,ih,this]
  |_=>simp[vp,Hf,YT,rts,SA,ih,V4]
theorem VH{rs:KE (KE Nat)}:∀{m n:Nat},YT n (uQ m []++rs)=(uJ m).map (n+ ·)++YT (n+m) rs
 |0,n=>by simp
 |m+1,n=>by
  rw[vd,uj,YT,uZ (show([]:KE Nat).isEmpty=true from rfl),VH,AAh,t8,uc,uj]
  congr 1
  .congr 2
   .funext i;simp;lia
   .lia
theorem Xz:YT 0 (PD ls.length ds)=C8 ls ds:=by
 unfold PD C8
 rw[VH,yK,XF]
 congr 1
 conv=>rhs;rw[<-List.map_id (uJ ls.length)]
 apply vf;intro i _;simp
end
section
variable{S:Sto}{t:Tr}{ls:KE Ld}{ds:KE AR}{k M:Nat}{s o:Stt}{d:AR}
theorem YD:∀{rows:KE (KE Nat)} {n:Nat},NI n (rows.map nD)=(rows.zipIdx n).map λz=>D.tup [.int z.2,nD z.1]
 | [],n=>rfl
 |r::rs,n=>by
  rw[t8,NI,yy,t8,YD]
theorem Tx:∀{rows:KE (KE Nat)} {n:Nat},(((rows.zipIdx n).filter λz=>z.1.isEmpty).map λz=>D.int z.2)=Bn (YT n rows)
 | [],n=>rfl
 |r::rs,n=>by
  rw[yy,vp,YT]
  have ih:= @Tx rs (n+1)
  cases e:r.isEmpty
  .simpa[e]using ih
  .simp only[e,yj]
   rw[t8,ih];rfl
theorem WK(h:CK t ls ds):(PD ls.length ds).length<=20:=by
 have:=Td h
 unfold manyN at this
 simp[PD];lia
theorem nq(h:CK t ls ds):CU [] (tTp [tNm 0,tNm 1]) (eOp (o2 wEq) [eOp (o1 HN) [eV 1],eC (.int 0)]) (eV 0) (NI 0 ((PD ls.length ds).map nD)) [] [none,none] S=Gc (Bn (C8 ls ds),S):=by
 have hr:=WK h
 have e:=DJ (gs:=[]) (t:=tTp [tNm 0,tNm 1]) (c:=eOp (o2 wEq) [eOp (o1 HN) [eV 1],eC (.int 0)]) (f:=eV 0) (C:=[]) (m:=2) (e:=λz:KE Nat×Nat=>D.tup [.int z.2,nD z.1]) (g:=λz=>D.int z.2) (b:=λz=>z.1.isEmpty) (S:=S) AZ (xs:=(PD ls.length ds).zipIdx 0) (acc:=[]) (os:=[none,none]) rfl (uA (show _<=50 by simp;lia) (AO (by decide))) (by
  intro z _ os ho
  obtain⟨q1,q2,rfl⟩:=YF ho
  refine⟨[Gc (.int z.2),Gc (nD z.1)],rfl,rfl,?_,by simp⟩
  obtain⟨r,i⟩:=z
  cases r with
  |nil=>simp[nD,Bn]
  |cons a r=>
   have:((r.length:Int)+1==0)=false:=by simp;lia
   simp[nD,Bn,this])
 rw[<-YD,Tx,Xz]at e
 simpa using e
theorem j9{q p:Nat}{T:Sto}(hq:T[q]?=Gc (.lst (owL o)))(h:∀l∈o.AD,p<l.ow.length)(hl:o.AD.length<=30):CU [(q,owL o)] (tNm 1) Bx (eOp (o2 wIx) [eV 1,eV 0]) (owL o) [] [Gc (.int p),none] T=Gc (o.AD.map (λx=>aD (ownAt x p)),T):=
 Cm (gs:=[(q,owL o)]) (t:=tNm 1) (f:=eOp (o2 wIx) [eV 1,eV 0]) (C:=[Gc (.int p)]) (m:=1) (e:=λx:Ld=>shD x.ow) (g:=λx=>aD (ownAt x p)) (S:=T) (by simp[gOk,AV hq]) (xs:=o.AD) (acc:=[]) (os:=[none]) rfl (uA (show _<=50 by simp;lia) (AO (by decide))) (by
  intro x hx os ho
  obtain⟨o1,rfl⟩:=ON ho
  have a:=cH (h x hx)
  refine⟨[Gc (shD x.ow)],rfl,by simp,?_⟩
  simp[shD,a])
noncomputable def LB(t:Tr)(ls:KE Ld)(ds:KE AR):KE D:=(C8 ls ds).map λr:Nat=>D.tup [.int r,shD (BY t.k (Kr t ls ds).AD r)]
theorem U0:∀{ds:KE AR} {n r:Nat},r∈rts n ds->n<=r/\r<n+(ds.filter Hf).length
 | [],n,r,h=>nomatch h
 |d::ds,n,r,h=>by
  have ih:= @U0 ds
  unfold rts at h
  rw[vp]
  split at h
  .rename_i hb
   have hm:Hf d=true:=by cases d<;>first|rfl|(simp[SA]at hb)
   rw[uZ hm]
   simp only[uq]
   rcases uF.mp h with rfl|h
   .lia
   .have:=ih h;lia
  .split at h
   .rename_i hm
    rw[uZ hm]
    have:=ih h
    simp only[uq]
    lia
   .rename_i hm
    rw[uh hm]
    exact ih h
theorem QR{r:Nat}(h:r∈C8 ls ds):r<manyN ls ds:=by
 unfold C8 at h
 unfold manyN
 rcases uU.mp h with h|h
 .have:r<ls.length:=by simpa using h
  lia
 .exact(U0 h).2
theorem Ja(h:CK t ls ds):(C8 ls ds).length<=20:=by
 have hl:ls.length<=4:=h.inv.len
 have hd:=h.len
 have:∀{ds:KE AR} {n:Nat},(rts n ds).length<=ds.length:=by
  intro ds
  induction ds with
  |nil=>intro n;exact tw _
  |cons d ds ih=>
   intro n
   unfold rts
   split
   .have:= @ih (n+1);simp;lia
   .have:= @ih (if Hf d=true then n+1 else n);simp;lia
 have:= @this ds ls.length
 simp[C8];lia
theorem RT(h:CK t ls ds):∃S',FI [BC t ls ds] S=Gc (.lst (LB t ls ds),S')/\Bv [] S S':=by
 have hd:=h.len
 have r1:=OL (S:=S) h
 have r2:=Pb (S:=S) h (tw _)
 rw[vn (tw _)]at r2
 obtain⟨q,S1,e1,q1,s1,l1⟩:=Ot (S:=S) h
 have src:=O2 (S:=S1) h
 have rc:=nq (S:=S1) h
 have oj:=U6 h
 have hh:=oj.hd.held
 rw[hh]at r2
 have own:∀l∈(Kr t ls ds).AD,l.ow.length=manyN ls ds:=oj.inv.own
 have hl30:(Kr t ls ds).AD.length<=30:=by have:=oj.inv.len;lia
 obtain⟨G,B,N,K,bd⟩:=oj.inv.bd hd
 have tk:t.k<=5:=h.tr.2.2.2.1
 have kd:∀l∈(Kr t ls ds).AD,l.k<t.k:=oj.inv.kind
 obtain⟨S2,e2,s2⟩:=Nh (gs:=[]) (t:=tNm 3) (f:=CS [eV 3,AK Br [eOp (o2 wIx) [eOp (o2 wIx) [eV 0,eC (.int 0)],eC (.int 1)],eV 1,CT [3] 1 (GI (eV 2)) (tNm 1) Bx (eOp (o2 wIx) [eV 1,eV 0])]]) (C:=[Gc (BC t ls ds),Gc (A7 (Kr t ls ds).AD),Gc (.ref q)]) (m:=1) (e:=λr:Nat=>D.int r) (g:=λr:Nat=>D.tup [.int r,shD (BY t.k (Kr t ls ds).AD r)]) (S0:=S1) (λ_ _=>AZ) (xs:=C8 ls ds) (acc:=[]) (os:=[none]) (S:=S1) rfl .refl (uA (show _<=50 by have:=Ja h;simp;lia) (AO (by decide))) (by
  intro r hr os T ho hT
  obtain⟨x1,rfl⟩:=ON ho
  have hq:=hT.get q1 (by simp)
  have hlt:=QR hr
  have pc:=j9 (o:=Kr t ls ds) (p:=r) hq (λl hl=>by rw[own l hl];exact hlt) hl30
  obtain⟨T2,e3,s3⟩:=Xt (S:=T) (k:=t.k) (by lia) (p:=r) kd bd
  refine⟨[Gc (.int r)],T2,rfl,rfl,?_,hT.trans s3⟩
  have cq:=AV hq
  generalize owL (Kr t ls ds)=W at*
  generalize A7 (Kr t ls ds).AD=HH at*
  generalize (Kr t ls ds).AD.map (λx=>aD (ownAt x r))=V at*
  have sq:sqD T (.ref q)=Gc (W,[(q,W)]):=by simp[sqD,cq]
  have sz2:(2:Nat)<=sizeLine:=AO (by decide)
  simp[BC,Tr.d,sq,pc,e3,sz2])
 refine⟨S2,?_,s1.trans s2⟩
 simp only[BC]at r1 r2 e1 src rc e2⊢
 simp only[uV,uj]at e2
 have en:(C8 ls ds).map (λr:Nat=>D.int r)=Bn (C8 ls ds):=rfl
 rw[en]at e2
 unfold LB
 generalize A7 (Kr t ls ds).AD=HH at*
 generalize (PD ls.length ds).map nD=RR at*
 generalize Bn (C8 ls ds)=NN at*
 simp[FI,K9,r1,r2,e1,src,rc,e2]
end
section
variable{E:En}{S:Sto}{f g k o:Ev}{d:D}{es:KE (Key×D)}
@[simp] theorem nK:evP [] E S=some ([],S):=nr rfl
@[simp] theorem lU{r:List (Ev×Ev)}:evP ((k,f)::r) E S=(k E S).bind λa=>(Yr a.1).bind λkk=>(f E a.2).bind λb=>(evP r E b.2).map λq=>((kk,b.1)::q.1,q.2):=nr rfl
@[simp] theorem ZH{x:Int}:Yr (.int x)=some (.inl x):=nr rfl
@[simp] theorem jA{cf:Bool}{fs:List (Ev×Ev)}:R8 cf fs E S=(evP fs E S).map λr=>UI cf (K5 [] r.1) r.2:=nr rfl
@[simp] theorem qF:UI true es S=(.ref S.length,S++[.dct es]):=nr rfl
@[simp] theorem qD:UI false es S=(.dct es,S):=nr rfl
@[simp] theorem mF:ZA f k o E S=(f E S).bind λa=>(SU a.2 a.1).bind λ_=>(k E a.2).bind λb=>(o E b.2).bind λc=>(SU c.2 a.1).bind λes=>(Yr b.1).map λk=>((Ta es k).getD c.1,c.2):=nr rfl
theorem Qs{n:Nat}(h:S[n]?=Gc (.dct es)):SU S (.ref n)=Gc es:=by
 unfold SU
 dsimp only
 rw[h]
noncomputable def dX(d b:D)(E:En)(i:D×Sto):tY (Fl×En×Sto):=(Yr i.1).bind λkk=>match b with
 | .ref n=>match i.2[n]? with
   |some (.dct es)=>if es.length<1000 then Gc (.nx,E,i.2.set n (.dct (putD es kk d)))else none
   |_=>none
 |_=>none
@[simp] theorem jV:Q8 k f o E S=(k E S).bind λr=>(f E r.2).bind λb=>(o E b.2).bind (dX r.1 b.1 E):=nr rfl
theorem QW{n:Nat}{i:D}{kk:Key}(h:S[n]?=Gc (.dct es))(hk:Yr i=Gc kk)(hl:es.length<1000):dX d (.ref n) E (i,S)=Gc (.nx,E,S.set n (.dct (putD es kk d))):=by
 unfold dX
 rw[hk,Ap]
 dsimp only
 rw[h]
 dsimp only
 rw[uZ hl]
end
section
variable{S:Sto}{t:Tr}{ls:KE Ld}{ds:KE AR}{k M:Nat}{s o:Stt}{d:AR}
theorem VD{es:KE (Key×D)}{k:Key}{v:D}(h:∀kv∈es,kv.1≠k):putD es k v=es++[(k,v)]:=by
 unfold putD
 rw[uh]
 intro z
 obtain⟨kv,hm,e⟩:=xY.mp z
 exact h kv hm (by simpa using e)
def Kb(n:Nat)(es:KE (Key×D)):Prop:=∀kv∈es,∃j:Nat,kv.1=wD (j:Int)/\j<n
theorem Kb.put{n:Nat}{es:KE (Key×D)}{v:D}(h:Kb n es):putD es (.inl (n:Int)) v=es++[(.inl (n:Int),v)]:=VD λkv hm e=>by
 obtain⟨j,e1,hj⟩:=h kv hm
 rw[e1]at e
 injection e with e
 lia
theorem Kb.snoc{n:Nat}{es:KE (Key×D)}{v:D}(h:Kb n es):Kb (n+1) (es++[(.inl (n:Int),v)]):=λkv hm=>by
 rcases uU.mp hm with hm|hm
 .obtain⟨j,e,hj⟩:=h kv hm;exact⟨j,e,by lia⟩
 .simp at hm;rw[hm];exact⟨n,rfl,by lia⟩
theorem Kb.mono{n m:Nat}{es:KE (Key×D)}(h:Kb n es)(g:n<=m):Kb m es:=λkv hm=>by
 obtain⟨j,e,hj⟩:=h kv hm;exact⟨j,e,by lia⟩
noncomputable def Lo(ws:KE (Nat×KE Rat)):KE (Key×D):=ws.map λz=>(.inl (z.1:Int),shD z.2)
noncomputable def Q7(P:Nat):Nat->KE AR->KE (Nat×KE Rat)
 |_,[]=>[]
 |n,.DL p _ _::ds=>(n,Ia P p)::Q7 P (n+1) ds
 |n,d::ds=>Q7 P (if Hf d=true then n+1 else n) ds
noncomputable def Tu:Nat->KE Ld->KE (Nat×KE Rat)
 |_,[]=>[]
 |n,x::xs=>(n,x.ow)::Tu (n+1) xs
noncomputable def D9(t:Tr)(ls:KE Ld)(ds:KE AR):KE (Nat×KE Rat):=Tu 0 ls++Q7 t.p ls.length ds
def lM:Ex:=Q8 (eOp (o2 wIx) [eV 3,eC (.int 2)]) (eV 1) (eV 2)
theorem UK{q:Nat}{bk a4 a5:tY D}:∀{xs:KE Ld} {n:Nat} {es:KE (Key×D)} {S:Sto} {a2 a3:tY D},S[q]?=Gc (.dct es)->Kb n es->es.length+xs.length<=100->∃a2' a3' S',Jx [] (tTp [tNm 2,tNm 3]) lM (NI n (xs.map Ld.d)) [bk,Gc (.ref q),a2,a3,a4,a5] S=Gc (.nx,[bk,Gc (.ref q),a2',a3',a4,a5],S')/\S'[q]?=Gc (.dct (es++Lo (Tu n xs)))/\Kb (n+xs.length) (es++Lo (Tu n xs))/\Bv [q] S S'
 | [],n,es,S,a2,a3,hq,hk,_=>⟨a2,a3,S,by rw[u4,NI,Dz AZ],by simpa[Lo,Tu]using hq,by simpa[Lo,Tu]using hk,.refl⟩
 |x::xs,n,es,S,a2,a3,hq,hk,hl=>by
  simp only[uq]at hl
  have e1:tTp [tNm 2,tNm 3] (.tup [.int n,x.d]) [bk,Gc (.ref q),a2,a3,a4,a5] S=Gc [bk,Gc (.ref q),Gc (.int n),Gc x.d,a4,a5]:=rfl
  have e2:lM [bk,Gc (.ref q),Gc (.int n),Gc x.d,a4,a5] S=Gc (.nx,[bk,Gc (.ref q),Gc (.int n),Gc x.d,a4,a5],S.set q (.dct (es++[(.inl (n:Int),shD x.ow)]))):=by
   have sk:=QW (d:=shD x.ow) (E:=[bk,Gc (.ref q),Gc (.int n),Gc x.d,a4,a5]) (i:=.int n) (kk:=.inl (n:Int)) hq rfl (by lia)
   rw[hk.put]at sk
   simp only[Ld.d]at sk⊢
   simp[lM,sk]
  obtain⟨a2',a3',S',e3,q3,k3,s3⟩:=UK (xs:=xs) (n:=n+1) (bk:=bk) (a4:=a4) (a5:=a5) (a2:=Gc (.int n)) (a3:=Gc x.d) (S:=S.set q (.dct (es++[(.inl (n:Int),shD x.ow)]))) (uG (Ac hq)) hk.snoc (by simp;lia)
  have ew:es++[(.inl (n:Int),shD x.ow)]++Lo (Tu (n+1) xs)=es++Lo (Tu n (x::xs)):=by simp[Lo,Tu]
  rw[ew]at q3 k3
  refine⟨a2',a3',S',?_,q3,k3.mono (by simp;lia),(Bv.set (by simp)).trans s3⟩
  rw[t8,NI,B7 AZ,e1,Ap,e2,Ap,Fe,e3]
@[simp] theorem lI:wIn false (.val (.str "bring")) (.val (.tup [.str "bring",.str "pool",.str "swap",.str "trade"]))=some (.val (.bl true)):=nr rfl
@[simp] theorem mx:wIn false (.val (.str "pool")) (.val (.tup [.str "bring",.str "pool",.str "swap",.str "trade"]))=some (.val (.bl true)):=nr rfl
@[simp] theorem mH:wIn false (.val (.str "swap")) (.val (.tup [.str "bring",.str "pool",.str "swap",.str "trade"]))=some (.val (.bl true)):=nr rfl
@[simp] theorem mC:wIn false (.val (.str "trade")) (.val (.tup [.str "bring",.str "pool",.str "swap",.str "trade"]))=some (.val (.bl true)):=nr rfl
@[simp] theorem lQ:wIn false (.val (.str "spoil")) (.val (.tup [.str "bring",.str "pool",.str "swap",.str "trade"]))=some (.val (.bl false)):=nr rfl
@[simp] theorem k7:wIn false (.val (.str "throw")) (.val (.tup [.str "bring",.str "pool",.str "swap",.str "trade"]))=some (.val (.bl false)):=nr rfl
@[simp] theorem oq:wIn false (.val (.str "sell")) (.val (.tup [.str "bring",.str "pool",.str "swap",.str "trade"]))=some (.val (.bl false)):=nr rfl
def g9:Ex:=(Ad (xIf (eOp (o2 wEq) [eOp (o2 wIx) [eV 5,eC (.int 0)],eC (.str "bring")]) (Q8 (eOp (o1 Ck) [CT [5] 1 (My [eOp (o2 wIx) [eOp (o2 wIx) [eV 0,eC (.int 0)],eC (.int 0)]]) (tNm 1) Bx (CS [eOp (o1 V5) [eOp (o2 wEq) [eV 1,eOp (o2 wIx) [eV 0,eC (.int 1)]]],eC (.int 1)])]) (eV 1) (eV 4)) FV)
    (Bm 4 (eOp (o2 Ek) [eV 4,eOp (o1 V5) [eOp (o2 (wIn false)) [eOp (o2 wIx) [eV 5,eC (.int 0)],CS [eC (.str "bring"),eC (.str "pool"),eC (.str "swap"),eC (.str "trade")]]]])))
theorem fE{q n:Nat}{es:KE (Key×D)}{a2 a3:tY D}(ht:JO t)(hq:S[q]?=Gc (.dct es))(hk:Kb n es)(hl:es.length<100){X:D}:g9 [Gc (.tup [t.d,X,.tup (ds.map AR.d)]),Gc (.ref q),a2,a3,Gc (.int n),Gc d.d] S=Gc (.nx,[Gc (.tup [t.d,X,.tup (ds.map AR.d)]),Gc (.ref q),a2,a3,Gc (.int ((if Hf d=true then n+1 else n:Nat):Int)),Gc d.d],if SA d=true then S.set q (.dct (es++Lo (Q7 t.p n [d])))else S):=by
 cases d with
 |DL p kd m=>
  have tp:=ht.2.1
  have e:=QN (S:=S) (P:=t.p) (p:=p) (cond:=0) (C:=[]) (dd:=(AR.DL p kd m).d) (f:=CS [eOp (o1 V5) [eOp (o2 wEq) [eV 1,eOp (o2 wIx) [eV 0,eC (.int 1)]]],eC (.int 1)]) (by lia) (by
   intro i
   by_cases hi:i=p
   .subst hi;simp[AR.d];rfl
   .have:((i:Int)==(p:Int))=false:=by simp;lia
    simp[AR.d,this,hi];rfl)
  have rn:IK (t.p:Int)=true:=DB (by lia) (by lia)
  have sk:=QW (d:=shD (Ia t.p p)) (E:=[Gc (.tup [t.d,X,.tup (ds.map AR.d)]),Gc (.ref q),a2,a3,Gc (.int n),Gc (AR.DL p kd m).d]) (i:=.int n) (kk:=.inl (n:Int)) hq rfl (by lia)
  rw[hk.put]at sk
  simp only[AR.d,Tr.d,shD]at e sk⊢
  simp[g9,Hf,SA,Q7,Lo,shD,rn,e,sk]
 |_=>simp[g9,AR.d,Hf,SA]
end
section
variable{S:Sto}{t:Tr}{ls:KE Ld}{ds:KE AR}{k M:Nat}{s o:Stt}{d:AR}
theorem Nf{P n:Nat}:Q7 P n (d::ds)=(if SA d=true then Q7 P n [d]else [])++Q7 P (if Hf d=true then n+1 else n) ds:=by
 cases d<;>simp[Q7,SA,Hf]
theorem T4{a b:KE (Nat×KE Rat)}:Lo (a++b)=Lo a++Lo b:=by simp[Lo]
theorem QI(ht:JO t){q:Nat}{X:D}{a2 a3:tY D}{DS:KE AR}:∀{ds:KE AR} {n:Nat} {es:KE (Key×D)} {S:Sto} {a5:tY D},S[q]?=Gc (.dct es)->Kb n es->es.length+ds.length<100->∃n' a5' S',Jx [] (tNm 5) g9 (ds.map AR.d) [Gc (.tup [t.d,X,.tup (DS.map AR.d)]),Gc (.ref q),a2,a3,Gc (.int (n:Int)),a5] S=Gc (.nx,[Gc (.tup [t.d,X,.tup (DS.map AR.d)]),Gc (.ref q),a2,a3,n',a5'],S')/\S'[q]?=Gc (.dct (es++Lo (Q7 t.p n ds)))/\Bv [q] S S'
 | [],n,es,S,a5,hq,hk,_=>⟨_,a5,S,by rw[u4,Dz AZ],by simpa[Lo,Q7]using hq,.refl⟩
 |d::ds,n,es,S,a5,hq,hk,hl=>by
  simp only[uq]at hl
  have e1:tNm 5 d.d [Gc (.tup [t.d,X,.tup (DS.map AR.d)]),Gc (.ref q),a2,a3,Gc (.int (n:Int)),a5] S=Gc [Gc (.tup [t.d,X,.tup (DS.map AR.d)]),Gc (.ref q),a2,a3,Gc (.int (n:Int)),Gc d.d]:=rfl
  have e2:=fE (d:=d) (ds:=DS) (a2:=a2) (a3:=a3) (X:=X) ht hq hk (by lia)
  rw[Nf,T4]
  cases hb:SA d with
  |true=>
   have hm:Hf d=true:=by cases d<;>first|rfl|(simp[SA]at hb)
   have hw:∃v,Lo (Q7 t.p n [d])=[(.inl (n:Int),v)]:=by
    cases d<;>first|exact⟨_,rfl⟩|(simp[SA]at hb)
   obtain⟨v,hw⟩:=hw
   rw[hb,uZ rfl,hm,uZ rfl]at e2
   rw[uZ rfl,hm,uZ rfl]
   rw[hw]at e2⊢
   obtain⟨n',a5',S',e3,q3,s3⟩:=QI ht (ds:=ds) (n:=n+1) (X:=X) (a2:=a2) (a3:=a3) (DS:=DS) (a5:=Gc d.d) (S:=S.set q (.dct (es++[(.inl (n:Int),v)]))) (uG (Ac hq)) hk.snoc (by simp;lia)
   refine⟨n',a5',S',?_,by rw[<-xM];exact q3,(Bv.set (by simp)).trans s3⟩
   rw[t8,B7 AZ,e1,Ap,e2,Ap,Fe,e3]
  |false=>
   have hN:n<=(if Hf d=true then n+1 else n):=by split<;>lia
   generalize (if Hf d=true then n+1 else n)=N at*
   rw[hb,uh (by simp)]at e2
   rw[uh (by simp)]
   obtain⟨n',a5',S',e3,q3,s3⟩:=QI ht (ds:=ds) (n:=N) (X:=X) (a2:=a2) (a3:=a3) (DS:=DS) (a5:=Gc d.d) (S:=S) hq (hk.mono hN) (by lia)
   refine⟨n',a5',S',?_,by simpa[Lo]using q3,s3⟩
   rw[t8,B7 AZ,e1,Ap,e2,Ap,Fe,e3]
theorem MP(h:CK t ls ds):∃q S',EW [BC t ls ds] S=Gc (.ref q,S')/\S'[q]?=Gc (.dct (Lo (D9 t ls ds)))/\Bv [] S S'/\S.length<=q:=by
 have hd:=h.len
 have hl:ls.length<=4:=h.inv.len
 have h0:(S++[Cl.dct []])[S.length]?=Gc (.dct []):=uL
 obtain⟨a2,a3,S1,e1,q1,k1,s1⟩:=UK (xs:=ls) (n:=0) (es:=[]) (q:=S.length) (bk:=Gc (BC t ls ds)) (a4:=none) (a5:=none) (a2:=none) (a3:=none) h0 (λ_ z=>nomatch z) (by simp;lia)
 rw[yK]at k1
 rw[uV]at q1 k1
 have fl:∀{xs:KE Ld} {n:Nat},(Tu n xs).length=xs.length:=by
  intro xs
  induction xs with
  |nil=>intro n;rfl
  |cons x xs ih=>intro n;simp[Tu,ih]
 obtain⟨n',a5,S2,e2,q2,s2⟩:=QI h.tr (ds:=ds) (n:=ls.length) (X:=.tup (ls.map Ld.d)) (a2:=a2) (a3:=a3) (DS:=ds) (a5:=none) q1 k1 (by simp[Lo,fl];lia)
 refine⟨S.length,S2,?_,by rw[D9,T4];exact q2,Bv.new (A:=[]) (B:=[S.length]) .app (s1.trans s2) (by simp),tw _⟩
 have eb:Np=(Ad (Bm 1 (UH []))
  (Ad (JI (UA (eOp (o2 wIx) [eV 0,eC (.int 1)])) (tTp [tNm 2,tNm 3]) lM)
  (Ad (Bm 4 (eOp (o1 HN) [eOp (o2 wIx) [eV 0,eC (.int 1)]]))
  (Ad (JI (GI (eOp (o2 wIx) [eV 0,eC (.int 2)])) (tNm 5) g9)
  (By (eV 1)))))):=rfl
 unfold EW
 rw[eb]
 have mn:K5 [] []=[]:=rfl
 simp only[BC]at e1 e2⊢
 simp[mn,e1,e2]
theorem RL:∀{xs:KE Ld} {n:Nat},(Tu n xs).map (·.1)=(uJ xs.length).map (n+ ·)
 | [],n=>rfl
 |x::xs,n=>by
  rw[Tu,t8,RL,uq,AAh,t8,uc]
  congr 1
  apply vf;intro i _;simp;lia
theorem Rk{P:Nat}:∀{ds:KE AR} {n:Nat},(Q7 P n ds).map (·.1)=rts n ds
 | [],n=>rfl
 |d::ds,n=>by
  have ih:= @Rk P ds
  cases d<;>simp[Q7,rts,SA,Hf,ih]
theorem Gp:(D9 t ls ds).map (·.1)=C8 ls ds:=by
 unfold D9 C8
 rw[vU,RL,Rk]
 congr 1
 conv=>rhs;rw[<-List.map_id (uJ ls.length)]
 apply vf;intro i _;simp
theorem Ts:∀{ds:KE AR} {n:Nat},(rts n ds).Pairwise (· < ·)
 | [],n=>.nil
 |d::ds,n=>by
  unfold rts
  split
  .refine wG.mpr ⟨λr hr=>?_,Ts⟩
   have:=U0 hr;lia
  .exact Ts
theorem Ni:(C8 ls ds).Pairwise (· < ·):=by
 unfold C8
 refine AA5.mpr ⟨yn,Ts,λa ha b hb=>?_⟩
 have:a<ls.length:=by simpa using ha
 have:=U0 hb
 lia
theorem R6:∀{ws:KE (Nat×KE Rat)},O8 (Lo ws)=Gc (ws.map λz=>(z.1:Int))
 | []=>rfl
 |z::ws=>by
  show(O8 (Lo ws)).map _=_
  rw[R6];rfl
theorem Tp:(HE ((D9 t ls ds).map λz=>(z.1:Int))).map D.int=Bn (C8 ls ds):=by
 have e:((D9 t ls ds).map λz=>(z.1:Int))=(C8 ls ds).map λ(n:Nat)=>(n:Int):=by rw[<-Gp,uc];rfl
 have p:((C8 ls ds).map λ(n:Nat)=>(n:Int)).Pairwise (· <= ·):=by
  rw[List.pairwise_map]
  exact Ni.imp λh=>by lia
 have:=J4 (yp ((C8 ls ds).map λ(n:Nat)=>(n:Int))) p
 rw[e,<-this]
 unfold Bn
 rw[uc];rfl
end
end Mi
end
noncomputable section
namespace Mi
open PySem PySem.Spec L2 PyProof.Rows
theorem RG:∀{l σ:KE Int},σ.Nodup->(l.foldl wV σ).Nodup
 | [],σ,h=>h
 |x::l,σ,h=>by
  rw[AAj]
  refine RG ?_
  unfold wV
  split
  .exact h
  .rename_i z
   refine x8.mpr ⟨h,by simp,λa ha b hb e=>z ?_⟩
   simp at hb
   subst hb
   subst e
   exact xY.mpr ⟨a,ha,by simp⟩
theorem Ya{x:Int}:∀{l σ:KE Int},x∈l.foldl wV σ↔x∈σ\/x∈l
 | [],σ=>by simp
 |y::l,σ=>by
  rw[AAj,Ya,uF]
  have:x∈wV σ y↔x∈σ\/x=y:=by
   unfold wV
   split
   .rename_i z
    obtain⟨w,hw,e⟩:=xY.mp z
    have e:w=y:=by simpa using e
    subst e
    exact⟨.inl,λh=>h.elim id λe=>e▸hw⟩
   .rw[uU,uk]
  rw[this,or_assoc]
theorem Xl{ns:KE Int}:Ye ns ns.length=ns.foldl wV []:=by
 show((uJ ns.length).map _).foldl wV []=_
 congr 1
 apply wq
 .simp
 .intro i h1 h2
  simp at h1
  simp[tu,h1]
theorem Wa{M:Nat}:∀{l:KE Nat} {a:Nat},l.Pairwise (· < ·)->(∀x∈l,a<=x/\x<M)->l.length<=M-a
 | [],a,_,_=>ve _
 |x::l,a,p,h=>by
  rw[wG]at p
  have hx:=h x uD
  have:=Wa (a:=x+1) p.2 λy hy=>⟨p.1 y hy,(h y (tf _ hy)).2⟩
  simp;lia
theorem dy(k1 k2:KE Nat):∃ks:KE Nat,HE (Ye ((k1++k2).map λ(n:Nat)=>(n:Int)) ((k1++k2).map λ(n:Nat)=>(n:Int)).length)=ks.map (λ(n:Nat)=>(n:Int))/\ks.Pairwise (· < ·)/\∀r,r∈ks↔r∈k1\/r∈k2:=by
 rw[Xl]
 generalize hL:((k1++k2).map λ(n:Nat)=>(n:Int)).foldl wV []=L
 have nd:L.Nodup:=by rw[<-hL];exact RG .nil
 have mem:∀x,x∈L↔ ∃r,(r∈k1\/r∈k2)/\(r:Int)=x:=λx=>by
  rw[<-hL,Ya,um]
  simp only[uY,false_or,uU]
 have pm:=GZ L
 have so:=Pt L
 refine⟨(HE L).map Int.toNat,?_,?_,λr=>?_⟩
 .rw[uc]
  conv=>lhs;rw[<-List.map_id (HE L)]
  refine vf λx hx=>?_
  obtain⟨r,_,rfl⟩:=(mem x).mp (pm.mem_iff.mp hx)
  simp
 .have nd2:(HE L).Nodup:=pm.nodup_iff.mpr nd
  rw[List.pairwise_map]
  refine List.Pairwise.imp_of_mem ?_ (List.pairwise_and_iff.mpr ⟨so,nd2⟩)
  rintro x y hx hy ⟨h1,h2⟩
  obtain⟨r,_,rfl⟩:=(mem x).mp (pm.mem_iff.mp hx)
  obtain⟨q,_,rfl⟩:=(mem y).mp (pm.mem_iff.mp hy)
  simp
  lia
 .rw[um]
  constructor
  .rintro ⟨x,hx,rfl⟩
   obtain⟨r,hr,rfl⟩:=(mem x).mp (pm.mem_iff.mp hx)
   simpa using hr
  .intro hr
   exact⟨(r:Int),pm.mem_iff.mpr ((mem _).mpr ⟨r,hr,rfl⟩),by simp⟩
noncomputable def ent(ow:KE Rat)(r:Nat):Key×D:=(.inl (r:Int),aD (ow.getD r 0))
def DOk(M:Nat)(es:KE (Key×D))(ow:KE Rat):Prop:=∃ks:KE Nat,es=ks.map (ent ow)/\ks.length<=M/\(∀r∈ks,r<M)/\∀r,r∉ks->ow.getD r 0=0
theorem WC{ow:KE Rat}{r:Nat}:∀{ks:KE Nat},Ta (ks.map (ent ow)) (.inl (r:Int))=if r∈ks then Gc (aD (ow.getD r 0))else none
 | []=>rfl
 |x::ks=>by
  rw[t8]
  show(if wD (x:Int)=(wD (r:Int):Key)then Gc (aD (ow.getD x 0))else Ta (ks.map (ent ow)) (.inl (r:Int)))=_
  rw[WC]
  by_cases e:x=r
  .subst e;simp
  .have e':¬(wD (x:Int)=(wD (r:Int):Key)):=λz=>by injection z with z;lia
   have e2:¬r=x:=λz=>e z.symm
   rw[uh e']
   simp[e2]
theorem DOk.val{M r:Nat}{es:KE (Key×D)}{ow:KE Rat}(h:DOk M es ow):(Ta es (.inl (r:Int))).getD (aD 0)=aD (ow.getD r 0):=by
 obtain⟨ks,rfl,_,_,h0⟩:=h
 rw[WC]
 split
 .rfl
 .rename_i z;rw[h0 r z];rfl
theorem NT{ow:KE Rat}:∀{ks:KE Nat},O8 (ks.map (ent ow))=Gc (ks.map λ(n:Nat)=>(n:Int))
 | []=>rfl
 |k::ks=>by
  show(O8 (ks.map (ent ow))).map _=_
  rw[NT];rfl
end Mi
end
noncomputable section
namespace Mi
open PySem PySem.Spec L2 PyProof.Rows
section
variable{S:Sto}{t:Tr}{ls:KE Ld}{ds:KE AR}{k M:Nat}{s o:Stt}{d:AR}
def DAt(S:Sto)(x:D)(es:KE (Key×D)):Prop:=x=.dct es\/∃n,x=.ref n/\S[n]?=Gc (.dct es)
theorem DAt.dd{x:D}{es:KE (Key×D)}(h:DAt S x es):SU S x=Gc es:=by
 rcases h with rfl|⟨n,rfl,e⟩
 .rfl
 .exact Qs e
theorem DAt.same{S':Sto}{A:KE Nat}{x:D}{es:KE (Key×D)}(h:DAt S x es)(g:Bv A S S')(hA:∀n∈A,S[n]?≠Gc (.dct es)):DAt S' x es:=by
 rcases h with rfl|⟨n,rfl,e⟩
 .exact .inl rfl
 .exact .inr ⟨n,rfl,g.get e λz=>hA n z e⟩
def ilB:Ex:=(Ad (Bm 10 (AK Aa [CS [eV 6,eC (.int 1)],ZA (eOp (o2 wIx) [eV 2,eV 4]) (eV 9) (CS [eC (.int 0),eC (.int 1)])]))
    (Ad (Bm 10 (AK Bt [eV 10,AK Aa [CS [eV 7,eC (.int 1)],ZA (eOp (o2 wIx) [eV 2,eV 5]) (eV 9) (CS [eC (.int 0),eC (.int 1)])]]))
    (Q8 (AK Aa [eV 10,AK Bp [eC (.int 1),eOp (o2 Ek) [eV 6,eV 7]]]) (eV 8) (eV 9))))
theorem dc{n m:Int}{a b:Rat}(h:0<n+m):((n:Rat)*a+(m:Rat)*b)*((1:Int) / ((n+m:Int):Rat))=(a*n+b*m) / ((n+m:Int):Rat):=by
 have:((n+m:Int):Rat)≠0:=by
  intro z
  have:(n+m:Int)=0:=by exact_mod_cast z
  lia
 push_cast
 grind
theorem Hm{n m:Int}{a b:KE Rat}{r:Nat}(ha:r<a.length)(hb:r<b.length):(Ax n m a b).getD r 0=(a.getD r 0*n+b.getD r 0*m) / ((n+m:Int):Rat):=by
 unfold Ax
 simp[tu,List.getElem?_zipWith,ha,hb]
theorem j8{q w i j r:Nat}{n m:Int}{xs:KE D}{xi xj:D}{ei ej es:KE (Key×D)}{a b:KE Rat}{z:Nat}{a0 a1 a3 a10:tY D}(hq:S[q]?=Gc (.lst xs))(hw:S[w]?=Gc (.dct es))(hi:atI xs (i:Int)=Gc xi)(hj:atI xs (j:Int)=Gc xj)(di:DAt S xi ei)(dj:DAt S xj ej)(oi:DOk M ei a)(oj:DOk M ej b)(ra:r<a.length)(rb:r<b.length)(sa:∀x∈a,Sz z x)(sb:∀x∈b,Sz z x)(hz:2*z<=7000)(hn:n.natAbs<2^150)(hm:m.natAbs<2^150)(h0:0<n+m)(hnew:∀kv∈es,kv.1≠wD (r:Int))(hl:es.length<1000):∃c,ilB [a0,a1,Gc (.ref q),a3,Gc (.int i),Gc (.int j),Gc (.int n),Gc (.int m),Gc (.ref w),Gc (.int r),a10] S=Gc (.nx,[a0,a1,Gc (.ref q),a3,Gc (.int i),Gc (.int j),Gc (.int n),Gc (.int m),Gc (.ref w),Gc (.int r),c],S.set w (.dct (es++[ent (Ax n m a b) r]))):=by
 have dq:=As hq
 have vi:=oi.val (r:=r)
 have vj:=oj.val (r:=r)
 rw[QL]at vi vj
 have si:=sa _ (getD_mem (d:=0) ra)
 have sj:=sb _ (getD_mem (d:=0) rb)
 have zn:=Um hn (by decide)
 have zm:=Um hm (by decide)
 have t1:=G5 (S:=S) zn si (by lia)
 have t2:=G5 (S:=S) zm sj (by lia)
 have p1:=MR zn si
 have p2:=MR zm sj
 have t3:=Pw (S:=S) p1 p2 (by lia)
 have nm1:(n+m).natAbs<2^151:=Hk hn hm
 have t4:=WE (S:=S) (t:=1) h0 (DP nm1 (by decide))
 have z4:Sz 151 (((1:Int):Rat) / ((n+m:Int):Rat)):=N5 h0 (t9 (show(1:Int).natAbs<2^1 by decide) (ux (by decide) (by decide))) nm1
 have t5:=G5 (S:=S) (cc p1 p2) z4 (by lia)
 rw[dc h0,<-Hm ra rb]at t5
 rw[NR]at t1 t2
 have sk:=λE=>QW (d:=aD ((Ax n m a b).getD r 0)) (E:=E) (i:=.int r) (kk:=.inl (r:Int)) hw rfl hl
 rw[VD hnew]at sk
 have d1:=di.dd
 have d2:=dj.dd
 refine⟨Gc (aD ((n:Rat)*a.getD r 0+(m:Rat)*b.getD r 0)),?_⟩
 generalize ((n:Rat)*a.getD r 0)=A at*
 generalize ((m:Rat)*b.getD r 0)=B at*
 generalize (((1:Int):Rat) / ((n+m:Int):Rat))=C at*
 have sz2:(2:Nat)<=sizeLine:=AO (by decide)
 unfold ent
 generalize a.getD r 0=A0 at*
 generalize b.getD r 0=B0 at*
 generalize (Ax n m a b).getD r 0=P0 at*
 simp[ilB,dq,hi,hj,d1,d2,vi,vj,t1,t2,t3,t4,t5,sk,sz2]
end
end Mi
end
noncomputable section
namespace Mi
open PySem PySem.Spec L2 PyProof.Rows
section
variable{S:Sto}{t:Tr}{ls:KE Ld}{ds:KE AR}{k M:Nat}{s o:Stt}{d:AR}
theorem DAt.keep{S':Sto}{A:KE Nat}{x:D}{es:KE (Key×D)}(h:DAt S x es)(g:Bv A S S')(hA:∀n∈A,x≠.ref n):DAt S' x es:=by
 rcases h with rfl|⟨n,rfl,e⟩
 .exact .inl rfl
 .exact .inr ⟨n,rfl,g.get e λz=>hA n z rfl⟩
theorem We{S0:Sto}{q w i j:Nat}{n m:Int}{xs:KE D}{xi xj:D}{ei ej:KE (Key×D)}{a b:KE Rat}{z:Nat}{a0 a1 a3:tY D}(hq:S0[q]?=Gc (.lst xs))(qw:q≠w)(hi:atI xs (i:Int)=Gc xi)(hj:atI xs (j:Int)=Gc xj)(di:DAt S0 xi ei)(dj:DAt S0 xj ej)(wi:xi≠.ref w)(wj:xj≠.ref w)(oi:DOk M ei a)(oj:DOk M ej b)(la:a.length=M)(lb:b.length=M)(sa:∀x∈a,Sz z x)(sb:∀x∈b,Sz z x)(hz:2*z<=7000)(hn:n.natAbs<2^150)(hm:m.natAbs<2^150)(h0:0<n+m):∀{ks done:KE Nat} {T:Sto} {a9 a10:tY D},T[w]?=Gc (.dct (done.map (ent (Ax n m a b))))->Bv [w] S0 T->(∀r∈ks,r<M)->ks.Pairwise (· < ·)->(∀x∈done,∀r∈ks,x<r)->done.length+ks.length<=100->∃a9' a10' T',Jx [] (tNm 9) ilB (Bn ks) [a0,a1,Gc (.ref q),a3,Gc (.int i),Gc (.int j),Gc (.int n),Gc (.int m),Gc (.ref w),a9,a10] T=Gc (.nx,[a0,a1,Gc (.ref q),a3,Gc (.int i),Gc (.int j),Gc (.int n),Gc (.int m),Gc (.ref w),a9',a10'],T')/\T'[w]?=Gc (.dct ((done++ks).map (ent (Ax n m a b))))/\Bv [w] S0 T'
 | [],done,T,a9,a10,hw,hs,_,_,_,_=>⟨a9,a10,T,by rw[Bn,u4,Dz AZ],by simpa using hw,hs⟩
 |r::ks,done,T,a9,a10,hw,hs,hr,hp,hd,hl=>by
  rw[wG]at hp
  simp only[uq]at hl
  have hq':=hs.get hq (by simpa using qw)
  have di':=di.keep hs (λn hn=>by simp at hn;rw[hn];exact wi)
  have dj':=dj.keep hs (λn hn=>by simp at hn;rw[hn];exact wj)
  have rM:=hr r uD
  have hnew:∀kv∈done.map (ent (Ax n m a b)),kv.1≠wD (r:Int):=λkv hk e=>by
   obtain⟨x,hx,rfl⟩:=um.mp hk
   have:=hd x hx r uD
   have e:(wD (x:Int):Key)=wD (r:Int):=e
   injection e with e
   lia
  obtain⟨c,e2⟩:=j8 (a0:=a0) (a1:=a1) (a3:=a3) (a10:=a10) hq' hw hi hj di' dj' oi oj (by lia) (by lia) sa sb hz hn hm h0 hnew (by simp;lia)
  have em:done.map (ent (Ax n m a b))++[ent (Ax n m a b) r]=(done++[r]).map (ent (Ax n m a b)):=by simp
  rw[em]at e2
  obtain⟨a9',a10',T',e3,w3,s3⟩:=We hq qw hi hj di dj wi wj oi oj la lb sa sb hz hn hm h0 (ks:=ks) (done:=done++[r]) (T:=T.set w (.dct ((done++[r]).map (ent (Ax n m a b))))) (a9:=Gc (.int r)) (a10:=c) (a0:=a0) (a1:=a1) (a3:=a3) (uG (Ac hw)) (hs.trans (.set (by simp))) (λx hx=>hr x (tf _ hx)) hp.2 (λx hx y hy=>by
   rcases uU.mp hx with hx|hx
   .exact hd x hx y (tf _ hy)
   .simp at hx;rw[hx];exact hp.1 y hy) (by simp;lia)
  refine⟨a9',a10',T',?_,by simpa using w3,s3⟩
  have e1:tNm 9 (.int (r:Int)) [a0,a1,Gc (.ref q),a3,Gc (.int i),Gc (.int j),Gc (.int n),Gc (.int m),Gc (.ref w),a9,a10] T=Gc [a0,a1,Gc (.ref q),a3,Gc (.int i),Gc (.int j),Gc (.int n),Gc (.int m),Gc (.ref w),Gc (.int r),a10]:=rfl
  show Jx [] (tNm 9) ilB (.int (r:Int)::Bn ks) _ T=_
  rw[B7 AZ,e1,Ap,e2,Ap,Fe,e3]
structure OAt(S:Sto)(q M:Nat)(xs:KE D)(o:Stt):Prop where
 cell:S[q]?=Gc (.lst xs)
 len:xs.length=o.AD.length
 at':∀(i:Nat) x,xs[i]?=Gc x->∃es,DAt S x es/\DOk M es (AM o.AD i).ow
theorem OAt.get{q:Nat}{xs:KE D}(h:OAt S q M xs o){i:Nat}(hi:i<o.AD.length):∃x es,xs[i]?=Gc x/\atI xs (i:Int)=Gc x/\DAt S x es/\DOk M es (AM o.AD i).ow:=by
 have hx:i<xs.length:=by rw[h.len];exact hi
 have e:xs[i]?=Gc xs[i]:=t7 hx
 obtain⟨es,a,b⟩:=h.at' i _ e
 exact⟨_,es,e,DF e,a,b⟩
theorem OAt.keep{S':Sto}{A:KE Nat}{q:Nat}{xs:KE D}(h:OAt S q M xs o)(g:Bv A S S')(hq:q∉A)(hA:∀n∈A,∀es,S[n]?≠Gc (.dct es)):OAt S' q M xs o:=
 ⟨g.get h.cell hq,h.len,λi x e=>by obtain⟨es,a,b⟩:=h.at' i x e;exact⟨es,a.same g λn hn=>hA n hn es,b⟩⟩
theorem Dp{ls:KE Ld}{y:Ld}{i:Nat}:AM (ls++[y]) i=if i<ls.length then AM ls i else if i=ls.length then y else⟨0,0,[]⟩:=by
 unfold AM
 rw[tu,tu,ABF]
 split
 .rfl
 .split
  .rename_i h1 h2;subst h2;simp
  .rename_i h1 h2
   rw[vB (by simp;lia)];rfl
theorem Bk{ls:KE Ld}{i j:Nat}{n:Int}:(AM (less ls i n) j).ow=(AM ls j).ow:=by
 by_cases e:i=j
 .subst e
  unfold less
  by_cases hi:i<ls.length
  .unfold AM;simp[tu,hi]
  .rw[AAE (by lia)]
 .rw[Hy e]
end
end Mi
end
noncomputable section
namespace Mi
open PySem PySem.Spec L2 PyProof.Rows
section
variable{S:Sto}{t:Tr}{ls:KE Ld}{ds:KE AR}{k M q:Nat}{s o o':Stt}{d:AR}{xs:KE D}
theorem OAt.snoc(h:OAt S q M xs o){x:D}{es:KE (Key×D)}(hx:DAt S x es)(hd:DOk M es (AM o'.AD o.AD.length).ow)(hl:o'.AD.length=o.AD.length+1)(ho:∀i,i<o.AD.length->(AM o'.AD i).ow=(AM o.AD i).ow):OAt (S.set q (.lst (xs++[x]))) q M (xs++[x]) o':=by
 have nd:∀n∈ [q],∀es,S[n]?≠Gc (.dct es):=λn hn es e=>by
  simp at hn;rw[hn,h.cell]at e;cases e
 have sm:Bv [q] S (S.set q (.lst (xs++[x]))):=.set (by simp)
 refine⟨uG (Ac h.cell),by simp[h.len,hl],λi y e=>?_⟩
 rw[ABF]at e
 split at e
 .rename_i hi
  obtain⟨e1,a,b⟩:=h.at' i y e
  exact⟨e1,a.same sm (λn hn=>nd n hn e1),by rw[ho i (by rw[<-h.len];exact hi)];exact b⟩
 .rename_i hi
  have hi':i=xs.length:=by
   rcases xo xs.length i with w|w
   .rw[vB (by simp;lia)]at e;cases e
   .lia
  subst hi'
  simp at e
  subst e
  refine⟨es,hx.same sm (λn hn=>nd n hn es),?_⟩
  rw[h.len];exact hd
theorem OAt.ows(h:OAt S q M xs o)(hl:o'.AD.length=o.AD.length)(ho:∀i,(AM o'.AD i).ow=(AM o.AD i).ow):OAt S q M xs o':=
 ⟨h.cell,by rw[h.len,hl],λi x e=>by obtain⟨es,a,b⟩:=h.at' i x e;exact⟨es,a,by rw[ho];exact b⟩⟩
theorem Kf{M L r:Nat}:(Ia M L).getD r 0=if r<M/\r=L then 1 else 0:=by
 unfold Ia
 rw[tu,uN]
 by_cases h:r<M
 .simp[h]
 .rw[vB (by simp;lia)];simp[h]
theorem DOk.one{M L:Nat}(h:L<M):DOk M [(.inl (L:Int),.tup [.int 1,.int 1])] (Ia M L):=by
 refine⟨[L],?_,by simp;lia,by simpa using h,λr hr=>?_⟩
 .simp only[t8,u4,ent]
  rw[Kf,uZ ⟨h,rfl⟩,bq]
 .rw[Kf,uh (by simp at hr;lia)]
def olP:Ex:=(Ad (O4 (tTp [tNm 4,tNm 5]) (eOp (Oc true false) [eV 3,eC (.int 1)]))
    (Ad (Qm 6 7 (eOp (o2 wIx) [eOp (o2 wIx) [eOp (o2 wIx) [eV 1,eC (.int 0)],eV 4],eC (.int 1)]) (eOp (o2 wIx) [eOp (o2 wIx) [eOp (o2 wIx) [eV 1,eC (.int 0)],eV 5],eC (.int 1)]))
    (Ad (Bm 8 (UH []))
    (Ad (JI (GI (eOp (o1 wSS) [eOp (o2 Ek) [eLK false (eOp (o2 wIx) [eV 2,eV 4]),eLK false (eOp (o2 wIx) [eV 2,eV 5])]])) (tNm 9) ilB)
    (CP (KD KJ (eV 2) [eV 8]))))))
def olA:Ex:=(xIf (eOp (o2 wEq) [eOp (o2 wIx) [eV 3,eC (.int 0)],eC (.str "bring")]) (CP (KD KJ (eV 2) [WA [((eOp (o1 HN) [eV 2]),(CS [eC (.int 1),eC (.int 1)]))]])) (xIf (eOp (o2 wEq) [eOp (o2 wIx) [eV 3,eC (.int 0)],eC (.str "pool")]) olP (xIf (eOp (o2 (wIn false)) [eOp (o2 wIx) [eV 3,eC (.int 0)],CS [eC (.str "swap"),eC (.str "trade")]]) (CP (KD KJ (eV 2) [eDC false (eOp (o2 wIx) [eV 2,eOp (o2 wIx) [eV 3,eOp (o1 Ys) [eC (.int 4)]]])])) FV)))
@[simp] theorem mv{c:Bool}{f:Ev}{E:En}:eLK c f E S=(f E S).bind λa=>(SU a.2 a.1).bind λes=>(O8 es).bind λns=>fin c (.own (ns.map D.int)) a.2:=nr rfl
@[simp] theorem pI{c:Bool}{f:Ev}{E:En}:eDC c f E S=(f E S).bind λa=>(SU a.2 a.1).map λes=>UI c es a.2:=nr rfl
theorem iE{sr:Nat}{bk:tY D}{us:En}(hus:us.length=7)(h:OAt S q M xs o)(hk:o.AD.length<=50)(hM:Hf d=true->o.AD.length<M)(hnp:∀i j,d≠.GS i j)(hc:Can t s d)(hd:Hd s o):∃xs' S',olA ([bk,Gc (.ref sr),Gc (.ref q),Gc d.d]++us) S=Gc (.nx,[bk,Gc (.ref sr),Gc (.ref q),Gc d.d]++us,S')/\OAt S' q M xs' (Cu t M o d)/\Bv [q] S S':=by
 obtain⟨a4,a5,a6,a7,a8,a9,a10,rfl⟩:∃a4 a5 a6 a7 a8 a9 a10,us=[a4,a5,a6,a7,a8,a9,a10]:=by
  match us,hus with
  | [a,b,c,d,e,f,g],_=>exact⟨a,b,c,d,e,f,g,rfl⟩
 have hz:xs.length<sizeLine:=t9 (show _<51 by rw[h.len];lia) (AO (by decide))
 have cq:=AV h.cell
 have dq:=As h.cell
 have sz2:(2:Nat)<=sizeLine:=AO (by decide)
 cases d with
 |DL p kd n=>
  have m1:K5 [] [((.inl (xs.length:Int):Key),D.tup [.int 1,.int 1])]=[((.inl (xs.length:Int):Key),D.tup [.int 1,.int 1])]:=rfl
  refine⟨_,_,?_,h.snoc (o':=Cu t M o (.DL p kd n)) (x:=.dct [(.inl (xs.length:Int),.tup [.int 1,.int 1])]) (.inl rfl) ?_ ?_ ?_,.set (by simp)⟩
  .simp[olA,AR.d,cq,dq,hz,sz2,m1]
  .show DOk M _ (AM (o.AD++[_]) o.AD.length).ow
   rw[Dp,uh (vV _),uZ rfl,h.len]
   exact DOk.one (hM rfl)
  .simp[Cu,JG,step]
  .intro i hi
   show(AM (o.AD++[_]) i).ow=_
   rw[Dp,uZ hi]
 |GS i j=>exact absurd rfl (hnp i j)
 |swap i g kd n=>
  have hi:i<o.AD.length:=by rw[<-hd.len];exact hc.1
  obtain⟨x,es,e1,e2,e3,e4⟩:=h.get hi
  have dx:=e3.dd
  refine⟨_,_,?_,h.snoc (o':=Cu t M o (.swap i g kd n)) (x:=.dct es) (es:=es) (.inl rfl) ?_ ?_ ?_,.set (by simp)⟩
  .simp[olA,AR.d,cq,dq,hz,e2,dx]
  .show DOk M _ (AM (less o.AD i g++[_]) o.AD.length).ow
   rw[Dp,Ar,uh (vV _),uZ rfl]
   exact e4
  .simp[Cu,JG,step,Ar]
  .intro j hj
   show(AM (less o.AD i g++[_]) j).ow=_
   rw[Dp,Ar,uZ hj,Bk]
 |DQ u i g kd n=>
  have hi:i<o.AD.length:=by rw[<-hd.len];exact hc.1
  obtain⟨x,es,e1,e2,e3,e4⟩:=h.get hi
  have dx:=e3.dd
  refine⟨_,_,?_,h.snoc (o':=Cu t M o (.DQ u i g kd n)) (x:=.dct es) (es:=es) (.inl rfl) ?_ ?_ ?_,.set (by simp)⟩
  .simp[olA,AR.d,cq,dq,hz,e2,dx]
  .show DOk M _ (AM (less o.AD i g++[_]) o.AD.length).ow
   rw[Dp,Ar,uh (vV _),uZ rfl]
   exact e4
  .simp[Cu,JG,step,Ar]
  .intro j hj
   show(AM (less o.AD i g++[_]) j).ow=_
   rw[Dp,Ar,uZ hj,Bk]
 |Ey i n=>exact⟨xs,S,by simp[olA,AR.d],h.ows (by simp[Cu,JG,step,Ar]) (λj=>by show(AM (less o.AD i n) j).ow=_;rw[Bk]),.refl⟩
 |thr i n ws=>exact⟨xs,S,by simp[olA,AR.d],h.ows (by simp[Cu,JG,step,Ar]) (λj=>by show(AM (less o.AD i n) j).ow=_;rw[Bk]),.refl⟩
 |JE p p' x=>exact⟨xs,S,by simp[olA,AR.d],h.ows rfl (λj=>rfl),.refl⟩
end
end Mi
end
noncomputable section
namespace Mi
open PySem PySem.Spec L2 PyProof.Rows
section
variable{S:Sto}{t:Tr}{ls:KE Ld}{ds:KE AR}{k M q:Nat}{s o o':Stt}{d:AR}{xs:KE D}
@[simp] theorem pP{a b c:D}:Nl [a,b,c] (some 1) none=[b,c]:=nr rfl
theorem je{k1 k2 ks:KE Nat}(hs:HE (Ye ((k1++k2).map λ(n:Nat)=>(n:Int)) ((k1++k2).map λ(n:Nat)=>(n:Int)).length)=ks.map (λ(n:Nat)=>(n:Int)))(h1:k1.length+k2.length<=1000)(h2:ks.length<64):wSS (.val (.lst ((k1.map λ(n:Nat)=>(n:Int)).map D.int++(k2.map λ(n:Nat)=>(n:Int)).map D.int)))=Gc (.own (Bn ks)):=by
 have e:(k1.map λ(n:Nat)=>(n:Int)).map D.int++(k2.map λ(n:Nat)=>(n:Int)).map D.int=((k1++k2).map λ(n:Nat)=>(n:Int)).map D.int:=by simp
 rw[e]
 show(LQ _).bind _=_
 rw[GB,Ap]
 have l2:(Ye ((k1++k2).map λ(n:Nat)=>(n:Int)) ((k1++k2).map λ(n:Nat)=>(n:Int)).length).length=ks.length:=by
  rw[<-(GZ _).length_eq,hs,uX]
 rw[uZ ⟨by simpa using h1,by rw[l2];exact h2⟩,hs,Bn,uc]
 rfl
theorem jY{sr l m:Nat}{as:KE Nat}{bk:tY D}{us:En}{i j:Nat}(hus:us.length=7)(hS:SAt S sr l m as s)(h:OAt S q M xs o)(inv:ED (tO t M) k o)(hk:k<=16)(hM:o.AD.length<M)(hM2:M<=40)(hc:Can t s (.GS i j))(hd:Hd s o):∃us' xs' S',us'.length=7/\olP ([bk,Gc (.ref sr),Gc (.ref q),Gc (AR.GS i j).d]++us) S=Gc (.nx,[bk,Gc (.ref sr),Gc (.ref q),Gc (AR.GS i j).d]++us',S')/\OAt S' q M xs' (Cu t M o (.GS i j))/\Bv [q] S S':=by
 obtain⟨a4,a5,a6,a7,a8,a9,a10,rfl⟩:∃a4 a5 a6 a7 a8 a9 a10,us=[a4,a5,a6,a7,a8,a9,a10]:=by
  match us,hus with
  | [a,b,c,d,e,f,g],_=>exact⟨a,b,c,d,e,f,g,rfl⟩
 have co:=YS (M:=M) hd hc (λ_=>hM) rfl
 obtain⟨hij,hi,hj,h1,h2,h3⟩:=hc
 obtain⟨_,hi',hj',h1',h2',_⟩:=co
 have ai:=hd.at hi
 have aj:=hd.at hj
 obtain⟨xi,ei,x1,x2,x3,x4⟩:=h.get hi'
 obtain⟨xj,ej,y1,y2,y3,y4⟩:=h.get hj'
 obtain⟨k1,rfl,kl1,kb1,kz1⟩:=id x4
 obtain⟨k2,rfl,kl2,kb2,kz2⟩:=id y4
 obtain⟨ks,ss,pw,mem⟩:=dy k1 k2
 have own:=inv.own
 have la:(AM o.AD i).ow.length=M:=own _ (AU hi')
 have lb:(AM o.AD j).ow.length=M:=own _ (AU hj')
 have ksM:∀r∈ks,r<M:=λr hr=>((mem r).mp hr).elim (kb1 r) (kb2 r)
 have ksl:ks.length<=M:=by
  have:=Wa (a:=0) pw λx hx=>⟨ve _,ksM x hx⟩
  lia
 have wss:=je ss (by lia) (by lia)
 have s0:Bv [] S (S++[Cl.dct []]):=.app
 have w0:(S++[Cl.dct []])[S.length]?=Gc (.dct []):=uL
 have h0:OAt (S++[Cl.dct []]) q M xs o:=h.keep s0 (by simp) (λ_ z=>nomatch z)
 have x30:=x3.keep s0 (λ_ z=>nomatch z)
 have y30:=y3.keep s0 (λ_ z=>nomatch z)
 have qw:q≠S.length:=λe=>by have:=Ac h.cell;lia
 have wx:∀{x:D} {es:KE (Key×D)},DAt S x es->x≠.ref S.length:=λ{x es} hx e=>by
  rcases hx with rfl|⟨n,rfl,z⟩
  .cases e
  .injection e with e
   have:=Ac z;lia
 have pi:=inv.pcs _ (AU hi')
 have pj:=inv.pcs _ (AU hj')
 have up:∀{x:Int},0<=x->x<2^(131+k)->x.natAbs<2^150:=λ{x} a b=>EV a (yX b (K2 (by lia)))
 have sz:=inv.sz.1
 obtain⟨a9',a10',T,e5,w5,s5⟩:=We (z:=30+170*k) (a0:=bk) (a1:=Gc (.ref sr)) (a3:=Gc (AR.GS i j).d) (a9:=a9) (a10:=a10) (n:=(AM o.AD i).n) (m:=(AM o.AD j).n) h0.cell qw x2 y2 x30 y30 (wx x3) (wx y3) x4 y4 la lb (sz _ (AU hi')) (sz _ (AU hj')) (by lia) (up pi.1 pi.2) (up pj.1 pj.2) (by lia) (ks:=ks) (done:=[]) (T:=S++[Cl.dct []]) w0 .refl ksM pw (λ_ z=>nomatch z) (by simp;lia)
 rw[uV]at w5
 have sT:Bv [] S T:=Bv.new (A:=[]) (B:=[S.length]) .app s5 (by simp)
 have hT:OAt T q M xs o:=h.keep sT (by simp) (λ_ z=>nomatch z)
 have hz:xs.length<sizeLine:=t9 (show _<51 by rw[h.len];lia) (AO (by decide))
 have snoc:=hT.snoc (o':=Cu t M o (.GS i j)) (x:=.ref S.length) (.inr ⟨_,rfl,w5⟩) (by
  show DOk M _ (AM (less (less o.AD i _) j _++[_]) o.AD.length).ow
  rw[Dp,Ar,Ar,uh (vV _),uZ rfl]
  refine⟨ks,rfl,ksl,ksM,λr hr=>?_⟩
  have hr1:r∉k1:=λz=>hr ((mem r).mpr (.inl z))
  have hr2:r∉k2:=λz=>hr ((mem r).mpr (.inr z))
  by_cases hrM:r<M
  .rw[Hm (by lia) (by lia),kz1 r hr1,kz2 r hr2]
   grind
  .rw[tu,vB (by unfold Ax;simp;lia)];rfl) (by simp[Cu,JG,step,Ar]) (λr hr=>by
  show(AM (less (less o.AD i _) j _++[_]) r).ow=_
  rw[Dp,Ar,Ar,uZ hr,Bk,Bk])
 refine⟨[Gc (.int i),Gc (.int j),Gc (.int (AM o.AD i).n),Gc (.int (AM o.AD j).n),Gc (.ref S.length),a9',a10'],_,_,rfl,?_,snoc,(sT.mono λ_ z=>nomatch z).trans (.set (by simp))⟩
 obtain⟨ca,ca1,ca2,ca3⟩:=hS.at hi
 obtain⟨cb,cb1,cb2,cb3⟩:=hS.at hj
 have r0:=As hS.root
 have l0:=As hS.lo
 have a0:=As (show S[ca]?=Gc (.lst _)from ca2)
 have b0:=As (show S[cb]?=Gc (.lst _)from cb2)
 have dq0:=As h0.cell
 have d1:=x30.dd
 have d2:=y30.dd
 have ke1:=NT (ow:=(AM o.AD i).ow) (ks:=k1)
 have ke2:=NT (ow:=(AM o.AD j).ow) (ks:=k2)
 have cT:=AV hT.cell
 have za:((k1.map λ(n:Nat)=>(n:Int)).map D.int).length+((k2.map λ(n:Nat)=>(n:Int)).map D.int).length<=sizeLine:=uA (show _<=100 by simp;lia) (AO (by decide))
 have mn:K5 [] []=[]:=rfl
 rw[ai.2,aj.2]at*
 generalize k1.map (ent (AM o.AD i).ow)=EI at*
 generalize k2.map (ent (AM o.AD j).ow)=EJ at*
 generalize (k1.map λ(n:Nat)=>(n:Int))=N1 at*
 generalize (k2.map λ(n:Nat)=>(n:Int))=N2 at*
 simp only[uX]at za
 generalize Bn ks=NN at*
 simp only[AR.d,uj,uV]at e5⊢
 simp[olP,r0,l0,a0,b0,ca3,cb3,mn,dq0,x2,y2,d1,d2,ke1,ke2,za,wss,e5,cT,hz]
end
end Mi
end
noncomputable section
namespace Mi
open PySem PySem.Spec L2 PyProof.Rows
section
variable{S:Sto}{t:Tr}{ls:KE Ld}{ds:KE AR}{k M q:Nat}{s o o':Stt}{d:AR}{xs:KE D}
theorem SAt.lst{sr l m:Nat}{as:KE Nat}(h:SAt S sr l m as s):∀n∈sr::l::m::as,∀es,S[n]?≠Gc (.dct es):=by
 intro n hn es e
 simp only[uF]at hn
 rcases hn with rfl|rfl|rfl|hn
 .rw[h.root]at e;cases e
 .rw[h.lo]at e;cases e
 .rw[h.nu]at e;cases e
 .obtain⟨i,hi,rfl⟩:=ABG.mp hn
  have hi2:i<s.AD.length:=by rw[<-h.len];exact hi
  rw[h.ld i as[i] _ (t7 hi) (DA hi2)]at e
  cases e
def orL:Ex:=Ad olA (CP (AK BZ [eOp (o2 wIx) [eV 0,eC (.int 0)],eV 1,eV 3]))
theorem gM{sr l m:Nat}{as:KE Nat}{bk:tY D}{us:En}(hus:us.length=7)(hS:SAt S sr l m as s)(h:OAt S q M xs o)(oj:OJ t M k s o)(hk:k<=16)(hM:Hf d=true->o.AD.length<M)(hM2:M<=40)(hc:Can t s d):∃us' xs' S',us'.length=7/\olA ([bk,Gc (.ref sr),Gc (.ref q),Gc d.d]++us) S=Gc (.nx,[bk,Gc (.ref sr),Gc (.ref q),Gc d.d]++us',S')/\OAt S' q M xs' (Cu t M o d)/\Bv [q] S S':=by
 have hl:o.AD.length<=50:=by have:=oj.inv.len;lia
 by_cases hp:∃i j,d=.GS i j
 .obtain⟨i,j,rfl⟩:=hp
  obtain⟨us',xs',S',e0,e1,e2,e3⟩:=jY (bk:=bk) hus hS h oj.inv hk (hM rfl) hM2 hc oj.hd
  refine⟨us',xs',S',e0,?_,e2,e3⟩
  rw[<-e1]
  simp[olA,AR.d]
 .obtain⟨xs',S',e1,e2,e3⟩:=iE (bk:=bk) (sr:=sr) hus h hl hM (λi j e=>hp ⟨i,j,e⟩) hc oj.hd
  exact⟨us,xs',S',hus,e1,e2,e3⟩
theorem iC{sr l m:Nat}{as:KE Nat}{us:En}{X Y:D}(ht:JO t)(hus:us.length=7)(hs:ED t k s)(hS:SAt S sr l m as s)(h:OAt S q M xs o)(hq:q∉sr::l::m::as)(oj:OJ t M k s o)(hk:k<=16)(hM:Hf d=true->o.AD.length<M)(hM2:M<=40)(hc:Can t s d):∃us' xs' S' as',us'.length=7/\orL ([Gc (.tup [t.d,X,Y]),Gc (.ref sr),Gc (.ref q),Gc d.d]++us) S=Gc (.nx,[Gc (.tup [t.d,X,Y]),Gc (.ref sr),Gc (.ref q),Gc d.d]++us',S')/\SAt S' sr l m as' (step t s d)/\OAt S' q M xs' (Cu t M o d)/\q∉sr::l::m::as'/\(∀n∈as',n∈as\/S.length<=n)/\Bv (q::sr::l::m::as) S S':=by
 obtain⟨us',xs',S1,e0,e1,h1,s1⟩:=gM (bk:=Gc (.tup [t.d,X,Y])) hus hS h oj hk hM hM2 hc
 have hS1:=hS.same s1 (λn hn=>by simp at hn;rw[hn];exact hq)
 obtain⟨S2,as',k1,k2,k3,k4⟩:=gc hS1 ht hs hk hc
 have h2:=h1.keep k3 hq hS1.lst
 have l1:=s1.len
 have hq':q∉sr::l::m::as':=by
  intro z
  simp only[uF]at z hq
  rcases z with z|z|z|z
  .exact hq (.inl z)
  .exact hq (.inr (.inl z))
  .exact hq (.inr (.inr (.inl z)))
  .rcases k4 _ z with w|w
   .exact hq (.inr (.inr (.inr w)))
   .have:=Ac h1.cell;lia
 refine⟨us',xs',S2,as',e0,?_,k2,h2,hq',λn hn=>(k4 n hn).imp id λw=>by lia,(s1.mono λn hn=>by simp at hn;simp[hn]).trans (k3.mono λn hn=>tf _ hn)⟩
 unfold orL
 rw[QU,e1,Ap,Fe]
 simp[k1]
theorem T7{sr l m:Nat}{X Y:D}(ht:JO t)(hM2:M<=40){S0:Sto}:∀{ds:KE AR} {s o:Stt} {k:Nat} {S:Sto} {as:KE Nat} {xs:KE D} {us:En} {a3:tY D},us.length=7->ED t k s->SAt S sr l m as s->OAt S q M xs o->q∉sr::l::m::as->OJ t M k s o->MC t s ds->k+ds.length<=16->(runs t s ds).AD.length<=M->(∀n∈q::sr::l::m::as,S0.length<=n)->Bv [] S0 S->∃us' a3' xs' S',Jx [] (tNm 3) orL (ds.map AR.d) ([Gc (.tup [t.d,X,Y]),Gc (.ref sr),Gc (.ref q),a3]++us) S=Gc (.nx,[Gc (.tup [t.d,X,Y]),Gc (.ref sr),Gc (.ref q),a3']++us',S')/\OAt S' q M xs' (TV t M o ds)/\Bv [] S0 S'
 | [],s,o,k,S,as,xs,us,a3,_,_,_,h,_,_,_,_,_,_,hm=>⟨us,a3,xs,S,by rw[u4,Dz AZ],h,hm⟩
 |d::ds,s,o,k,S,as,xs,us,a3,hus,hs,hS,h,hq,oj,hg,hk,hM,hn,hm=>by
  have hl:(d::ds).length=ds.length+1:=rfl
  have hr:=Qx oj.hd hM
  obtain⟨us1,xs1,S1,as1,c0,c1,c2,c3,c4,c5,c6⟩:=iC (X:=X) (Y:=Y) ht hus hs hS h hq oj (by lia) hr hM2 hg.1
  have m1:Bv [] S0 S1:=Bv.new (A:=[]) hm c6 hn
  have n1:∀n∈q::sr::l::m::as1,S0.length<=n:=by
   intro n hz
   simp only[uF]at hz hn
   rcases hz with z|z|z|z|z
   .exact hn n (.inl z)
   .exact hn n (.inr (.inl z))
   .exact hn n (.inr (.inr (.inl z)))
   .exact hn n (.inr (.inr (.inr (.inl z))))
   .rcases c5 n z with w|w
    .exact hn n (.inr (.inr (.inr (.inr w))))
    .exact uA hm.len w
  obtain⟨us2,a32,xs2,S2,e2,h2,m2⟩:=T7 ht hM2 (X:=X) (Y:=Y) (ds:=ds) (a3:=Gc d.d) c0 (NH ht hs (by lia) hg.1) c2 c3 c4 (oj.step (by lia) hg.1 hr) hg.2 (by lia) hM n1 m1
  refine⟨us2,a32,xs2,S2,?_,h2,m2⟩
  have tn:tNm 3 d.d ([Gc (.tup [t.d,X,Y]),Gc (.ref sr),Gc (.ref q),a3]++us) S=Gc ([Gc (.tup [t.d,X,Y]),Gc (.ref sr),Gc (.ref q),Gc d.d]++us):=rfl
  rw[t8,B7 AZ,tn,Ap,c1,Ap,Fe,e2]
theorem Oy(h:CK t ls ds):∃q xs S',E7 [BC t ls ds] S=Gc (.ref q,S')/\OAt S' q (manyN ls ds) xs (Kr t ls ds)/\Bv [] S S'/\S.length<=q:=by
 have hd:=h.len
 have hl:ls.length<=4:=h.inv.len
 have mm:=Td h
 obtain⟨sr,l,m,as,S1,e1,hS,sm,hn⟩:=QS (S:=S) (t:=t) (ls:=ls) (x:=.tup (ds.map AR.d)) (by lia)
 have hS:SAt S1 sr l m as (st0 t ls):=hS
 have lt:=hS.lts
 have sz2:(2:Nat)<=sizeLine:=AO (by decide)
 have c1:=Cm (gs:=[]) (t:=tNm 0) (f:=WA [((eV 0),(CS [eC (.int 1),eC (.int 1)]))]) (C:=[]) (m:=1) (e:=λi:Nat=>D.int (0+(i:Int))) (g:=λi:Nat=>D.dct [(.inl (i:Int),.tup [.int 1,.int 1])]) (S:=S1) AZ (xs:=uJ ls.length) (acc:=[]) (os:=[none]) rfl (uA (show _<=50 by simp;lia) (AO (by decide))) (by
  intro i _ os ho
  obtain⟨o1,rfl⟩:=ON ho
  have m1:K5 [] [((.inl (i:Int):Key),D.tup [.int 1,.int 1])]=[((.inl (i:Int):Key),D.tup [.int 1,.int 1])]:=rfl
  exact⟨[Gc (.int i)],by simp,by simp,by simp[sz2,m1]⟩)
 have rg:(uJ ls.length).map (λi:Nat=>D.int (0+(i:Int)))=K4 0 ls.length:=by simp[K4]
 rw[rg]at c1
 simp only[uV]at c1
 have rn:IK (ls.length:Int)=true:=DB (by lia) (by lia)
 have oa:OAt (S1++[Cl.lst ((uJ ls.length).map λi:Nat=>D.dct [(.inl (i:Int),.tup [.int 1,.int 1])])]) S1.length (manyN ls ds) ((uJ ls.length).map λi:Nat=>D.dct [(.inl (i:Int),.tup [.int 1,.int 1])]) (MW (manyN ls ds) ls):=by
  refine⟨uL,by simp[MW],λi x e=>?_⟩
  have hi:i<ls.length:=by
   rcases xo i ls.length with w|w
   .exact w
   .rw[vB (by simpa using w)]at e;cases e
  rw[uN,wB hi]at e
  simp at e
  subst e
  refine⟨_,.inl rfl,?_⟩
  have:(AM (MW (manyN ls ds) ls).AD i).ow=Ia (manyN ls ds) i:=by
   unfold AM MW
   simp[tu,hi]
  rw[this]
  exact DOk.one (by unfold manyN;lia)
 have hSa:=hS.Tq (S':=S1++[Cl.lst ((uJ ls.length).map λi:Nat=>D.dct [(.inl (i:Int),.tup [.int 1,.int 1])])]) .app
 have qn:S1.length∉sr::l::m::as:=λz=>by have:=lt _ z;lia
 have lSq:=sm.len
 obtain⟨us,a3,xs,S2,e2,h2,m2⟩:=T7 (M:=manyN ls ds) (X:=.tup (ls.map Ld.d)) (Y:=.tup (ds.map AR.d)) h.tr (by lia) (S0:=S) (us:=[none,none,none,none,none,none,none]) (a3:=none) rfl h.inv hSa oa qn (LI h (by unfold manyN;lia)) h.good (by lia) (by rw[Jz];exact tw _) (λn hz=>by
  rcases uF.mp hz with z|z
  .lia
  .exact hn n z) (sm.trans .app)
 refine⟨S1.length,xs,S2,?_,h2,m2,lSq⟩
 have eb:La=(Ad (Qm 1 2 (AK Dl [eV 0]) (PM [] 1 (My [eOp (o1 HN) [eOp (o2 wIx) [eV 0,eC (.int 1)]]]) (tNm 0) Bx (WA [((eV 0),(CS [eC (.int 1),eC (.int 1)]))])))
  (Ad (JI (GI (eOp (o2 wIx) [eV 0,eC (.int 2)])) (tNm 3) orL)
  (By (eV 2)))):=rfl
 unfold E7
 rw[eb]
 simp only[BC]at e1⊢
 simp only[uj,uV]at e2
 generalize ((uJ ls.length).map λi:Nat=>D.dct [(.inl (i:Int),.tup [.int 1,.int 1])])=W at*
 simp[e1,rn,c1,e2]
end
end Mi
end
noncomputable section
namespace Mi
open PySem PySem.Spec L2 PyProof.Rows
section
variable{S:Sto}{t:Tr}{ls:KE Ld}{ds:KE AR}{k M q:Nat}{s o o':Stt}{d:AR}{xs:KE D}
def Sup(R:KE Nat)(o:Stt):Prop:=∀i r,r∉R->(AM o.AD i).ow.getD r 0=0
theorem NC{a:KE Rat}{r:Nat}(h:a.length<=r):a.getD r 0=0:=by
 rw[tu,vB h];rfl
theorem TL{n m:Int}{a b:KE Rat}{r:Nat}(ha:a.getD r 0=0)(hb:b.getD r 0=0):(Ax n m a b).getD r 0=0:=by
 by_cases h:r<a.length/\r<b.length
 .rw[Hm h.1 h.2,ha,hb];grind
 .exact NC (by unfold Ax;simp;lia)
theorem Ql{ls:KE Ld}{y:Ld}{i r:Nat}{P:Rat->Prop}(h0:P 0)(h:∀i,P ((AM ls i).ow.getD r 0))(hy:P (y.ow.getD r 0)):P ((AM (ls++[y]) i).ow.getD r 0):=by
 rw[Dp]
 split
 .exact h i
 .split
  .exact hy
  .exact h0
theorem Sup.step{R:KE Nat}(h:Sup R o)(hb:SA d=true->o.AD.length∈R):Sup R (Cu t M o d):=by
 intro i r hr
 cases d with
 |DL p kd n=>
  show(AM (o.AD++[_]) i).ow.getD r 0=0
  refine Ql (P:=λx=>x=0) rfl (λi=>h i r hr) ?_
  show(Ia M o.AD.length).getD r 0=0
  rw[Kf,uh]
  rintro ⟨_,rfl⟩
  exact hr (hb rfl)
 |GS a b=>
  show(AM (less (less o.AD a _) b _++[_]) i).ow.getD r 0=0
  refine Ql (P:=λx=>x=0) rfl (λi=>by rw[Bk,Bk];exact h i r hr) ?_
  exact TL (h a r hr) (h b r hr)
 |swap l g kd n=>
  show(AM (less o.AD l g++[_]) i).ow.getD r 0=0
  exact Ql (P:=λx=>x=0) rfl (λi=>by rw[Bk];exact h i r hr) (h l r hr)
 |DQ u l g kd n=>
  show(AM (less o.AD l g++[_]) i).ow.getD r 0=0
  exact Ql (P:=λx=>x=0) rfl (λi=>by rw[Bk];exact h i r hr) (h l r hr)
 |Ey l n=>show(AM (less o.AD l n) i).ow.getD r 0=0;rw[Bk];exact h i r hr
 |thr l n ws=>show(AM (less o.AD l n) i).ow.getD r 0=0;rw[Bk];exact h i r hr
 |JE p p' x=>exact h i r hr
theorem Rh:(Cu t M o d).AD.length=if Hf d=true then o.AD.length+1 else o.AD.length:=by
 cases d<;>simp[Cu,JG,step,Hf,Ar]
theorem Sup.runs{R:KE Nat}:∀{ds:KE AR} {o:Stt},Sup R o->(∀r∈rts o.AD.length ds,r∈R)->Sup R (TV t M o ds)
 | [],o,h,_=>h
 |d::ds,o,h,hr=>by
  refine Sup.runs (ds:=ds) (h.step λhb=>hr _ (by unfold rts;rw[uZ hb];exact uD)) λr hm=>hr r ?_
  rw[Rh]at hm
  unfold rts
  split
  .rename_i hb
   have hmk:Hf d=true:=by cases d<;>first|rfl|(simp[SA]at hb)
   rw[uZ hmk]at hm
   exact tf _ hm
  .exact hm
theorem eZ:Sup (C8 ls ds) (Kr t ls ds):=by
 refine Sup.runs (λi r hr=>?_) (λr hr=>?_)
 .by_cases hi:i<ls.length
  .have:(AM (MW (manyN ls ds) ls).AD i).ow=Ia (manyN ls ds) i:=by
    unfold AM MW
    simp[tu,hi]
   rw[this,Kf,uh]
   rintro ⟨_,rfl⟩
   exact hr (xJ _ (by simpa using hi))
  .have:AM (MW (manyN ls ds) ls).AD i=⟨0,0,[]⟩:=by
    unfold AM
    rw[tu,vB (by simp[MW];lia)];rfl
   rw[this];rfl
 .have e:(MW (manyN ls ds) ls).AD.length=ls.length:=by simp[MW]
  rw[e]at hr
  exact uw _ hr
noncomputable def Mg(W:KE (Nat×KE Rat))(x:KE Rat)(p:Nat):Rat:=(W.map λz=>x.getD z.1 0*z.2.getD p 0).sum
theorem R0{W:KE (Nat×KE Rat)}{x:KE Rat}{p:Nat}(h:∀z∈W,x.getD z.1 0=0):Mg W x p=0:=by
 unfold Mg
 induction W with
 |nil=>rfl
 |cons z W ih=>
  rw[t8,ub,h z uD,ih λz hz=>h z (tf _ hz)]
  grind
theorem Qt{L:Nat}{v:KE Rat}{p:Nat}(hL:L<M):∀{W:KE (Nat×KE Rat)},(W.map (·.1)).Pairwise (· < ·)->(L,v)∈W->Mg W (Ia M L) p=v.getD p 0
 |z::W,hp,hm=>by
  rw[t8,wG]at hp
  unfold Mg
  rw[t8,ub]
  rcases uF.mp hm with rfl|hm
  .have:=R0 (W:=W) (x:=Ia M L) (p:=p) λz hz=>by
    have:=hp.1 z.1 (um.mpr ⟨z,hz,rfl⟩)
    rw[Kf,uh]
    rintro ⟨_,e⟩
    dsimp only at this
    lia
   unfold Mg at this
   rw[this,Kf,uZ ⟨hL,rfl⟩]
   grind
  .have ih:=Qt (p:=p) hL hp.2 hm
   unfold Mg at ih
   have lt:=hp.1 L (um.mpr ⟨_,hm,rfl⟩)
   rw[ih,Kf,uh (by lia)]
   grind
theorem R1{n m:Int}{a b:KE Rat}{p:Nat}(h:(n+m:Int)≠0)(la:a.length=M)(lb:b.length=M):∀{W:KE (Nat×KE Rat)},(∀z∈W,z.1<M)->Mg W (Ax n m a b) p=(Mg W a p*n+Mg W b p*m) / ((n+m:Int):Rat)
 | [],_=>by simp[Mg];grind
 |z::W,hz=>by
  have ih:=R1 (p:=p) h la lb λz' hz'=>hz z' (tf _ hz')
  have h1:=hz z uD
  unfold Mg at ih⊢
  simp only[t8,ub]
  rw[ih,Hm (by lia) (by lia)]
  have nz:((n+m:Int):Rat)≠0:=by exact_mod_cast h
  grind
end
end Mi
end
noncomputable section
namespace Mi
open PySem PySem.Spec L2 PyProof.Rows
section
variable{S:Sto}{t:Tr}{ls:KE Ld}{ds:KE AR}{k M q:Nat}{s o o':Stt}{d:AR}{xs:KE D}{W:KE (Nat×KE Rat)}{p kd:Nat}
theorem Pj{r:Nat}:∀{ls:KE Ld},(∀l∈ls,l.ow.getD r 0=0)->kindS ls r kd=0
 | [],_=>rfl
 |x::ls,h=>by
  rw[IC,Pj λl hl=>h l (tf _ hl)]
  have:ownAt x r=0:=h x uD
  rw[this]
  split<;>grind
theorem So{f:Nat->Rat}:∀{n a:Nat} {R:KE Nat},R.Pairwise (· < ·)->(∀r∈R,a<=r/\r<a+n)->(∀r,r∉R->f r=0)->(R.map f).sum=((zD a n).map f).sum
 |0,a,R,_,h,_=>by
  cases R with
  |nil=>rfl
  |cons r R=>have:=h r uD;lia
 |n+1,a,R,hp,h,h0=>by
  rw[List.range'_succ,t8,ub]
  by_cases ha:a∈R
  .cases R with
   |nil=>cases ha
   |cons r R=>
    rw[wG]at hp
    have e:r=a:=by
     rcases uF.mp ha with z|z
     .exact z.symm
     .have:=hp.1 a z;have:=(h r uD).1;lia
    subst e
    rw[t8,ub]
    congr 1
    have ih:=So (f:=λx=>if x=r then 0 else f x) (n:=n) (a:=r+1) hp.2 (λx hx=>⟨hp.1 x hx,by have:=(h x (tf _ hx)).2;lia⟩) (λx hx=>by
     split
     .rfl
     .rename_i z;exact h0 x (by simp[z,hx]))
    have e1:R.map (λx=>if x=r then 0 else f x)=R.map f:=vf λx hx=>by
     have:=hp.1 x hx
     rw[uh (by lia)]
    have e2:(zD (r+1) n).map (λx=>if x=r then 0 else f x)=(zD (r+1) n).map f:=vf λx hx=>by
     have:=(x9.mp hx).1
     rw[uh (by lia)]
    rw[e1,e2]at ih
    exact ih
  .rw[h0 a ha,So (f:=f) (n:=n) (a:=a+1) hp (λx hx=>by
    have:=h x hx
    have:x≠a:=λz=>ha (z▸hx)
    lia) h0]
   grind
theorem UC:∀{sl ol:KE Ld},sl.map kn=ol.map kn->Hu sl kd=Hu ol kd
 | [],[],_=>rfl
 | [],_::_,h=>by cases h
 |_::_,[],h=>by cases h
 |x::sl,y::ol,h=>by
  rw[t8,t8]at h
  injection h with h1 h2
  have ih:=UC h2
  have hk:x.k=y.k:=congrArg Prod.fst h1
  have hn:x.n=y.n:=congrArg Prod.snd h1
  unfold Hu at ih⊢
  rw[vp,vp,hk]
  split
  .rw[t8,t8,ub,ub,hn,ih]
  .exact ih
theorem TM(h:CK t ls ds):((C8 ls ds).map λr=>kindS (Kr t ls ds).AD r kd).sum=(Hu (runs t (st0 t ls) ds).AD kd:Rat):=by
 have oj:=U6 h
 have tot:=PY (P:=manyN ls ds) (kd:=kd) oj.inv.own oj.ones
 rw[UC oj.hd,<-tot,List.range_eq_range']
 refine So Ni (λr hr=>⟨ve _,by have:=QR hr;lia⟩) λr hr=>Pj λl hl=>?_
 obtain⟨i,hi,rfl⟩:=ABG.mp hl
 have:=eZ (t:=t) i r hr
 rw[show AM (Kr t ls ds).AD i=(Kr t ls ds).AD[i] by unfold AM;simp[tu,hi]]at this
 exact this
def Lin(W:KE (Nat×KE Rat))(p:Nat)(s o:Stt):Prop:=∀i,(AM s.AD i).ow.getD p 0=Mg W (AM o.AD i).ow p
noncomputable def UL:AR->uv
 | .thr .. =>true
 | .JE .. =>true
 |_=>false
theorem UB:Mg W [] p=0:=R0 λ_ _=>rfl
theorem NJ{sl ol:KE Ld}{x y:Ld}(hl:sl.length=ol.length)(h:∀i,(AM sl i).ow.getD p 0=Mg W (AM ol i).ow p)(hx:x.ow.getD p 0=Mg W y.ow p)(i:Nat):(AM (sl++[x]) i).ow.getD p 0=Mg W (AM (ol++[y]) i).ow p:=by
 rw[Dp,Dp,hl]
 split
 .exact h i
 .split
  .exact hx
  .exact UB.symm
theorem Lin.step(h:Lin W p s o)(oj:OJ t M k s o)(hs:ED t k s)(hc:Can t s d)(hn:UL d=false)(hW:∀z∈W,z.1<M)(hp:(W.map (·.1)).Pairwise (· < ·))(hM:Hf d=true->o.AD.length<M)(hb:∀p0 kd n,d=.DL p0 kd n->(o.AD.length,Ia t.p p0)∈W):Lin W p (Mi.step t s d) (Cu t M o d):=by
 have hl:=oj.hd.len
 cases d with
 |DL p0 kd n=>exact NJ hl h (by
   show(Ia t.p p0).getD p 0=Mg W (Ia M o.AD.length) p
   rw[Qt (hM rfl) hp (hb p0 kd n rfl)])
 |GS i j=>
  have co:=YS (M:=M) oj.hd hc hM rfl
  obtain⟨_,hi',hj',h1',h2',_⟩:=co
  obtain⟨hij,hi,hj,h1,h2,h3⟩:=hc
  have ai:=oj.hd.at hi
  have aj:=oj.hd.at hj
  refine NJ (by simp[Ar,hl]) (λr=>by rw[Bk,Bk,Bk,Bk];exact h r) ?_
  show(Ax _ _ (AM s.AD i).ow (AM s.AD j).ow).getD p 0=Mg W (Ax _ _ (AM o.AD i).ow (AM o.AD j).ow) p
  rw[R1 (by lia) (oj.inv.own _ (AU hi')) (oj.inv.own _ (AU hj')) hW,<-h i,<-h j,ai.2,aj.2]
  have li:=hs.own _ (AU hi)
  have lj:=hs.own _ (AU hj)
  by_cases hpp:p<t.p
  .rw[Hm (by lia) (by lia)]
  .rw[NC (show(AM s.AD i).ow.length<=p by lia),NC (show(AM s.AD j).ow.length<=p by lia),NC (by unfold Ax;simp;lia)]
   grind
 |swap l g kd n=>exact NJ (by simp[Ar,hl]) (λr=>by rw[Bk,Bk];exact h r) (h l)
 |DQ u l g kd n=>exact NJ (by simp[Ar,hl]) (λr=>by rw[Bk,Bk];exact h r) (h l)
 |Ey l n=>exact λr=>by show(AM (less s.AD l n) r).ow.getD p 0=Mg W (AM (less o.AD l n) r).ow p;rw[Bk,Bk];exact h r
 |thr l n ws=>cases hn
 |JE a b x=>cases hn
theorem U2:∀{sl ol:KE Ld},sl.map kn=ol.map kn->(∀i,(AM sl i).ow.getD p 0=Mg W (AM ol i).ow p)->kindS sl p kd=(W.map λz=>kindS ol z.1 kd*z.2.getD p 0).sum
 | [],[],_,_=>by
   have:∀W:KE (Nat×KE Rat),(W.map λz=>kindS [] z.1 kd*z.2.getD p 0).sum=0:=λW=>by
    induction W with
    |nil=>rfl
    |cons z W ih=>
     rw[t8,ub,ih]
     have:kindS [] z.1 kd=0:=rfl
     rw[this];grind
   rw[this];rfl
 | [],_::_,h,_=>by cases h
 |_::_,[],h,_=>by cases h
 |x::sl,y::ol,h,g=>by
  rw[t8,t8]at h
  injection h with h1 h2
  have ih:=U2 h2 λi=>g (i+1)
  have hk:x.k=y.k:=congrArg Prod.fst h1
  have hn:x.n=y.n:=congrArg Prod.snd h1
  have g0:x.ow.getD p 0=Mg W y.ow p:=g 0
  rw[IC,ih,hk]
  have key:∀W:KE (Nat×KE Rat),(W.map λz=>kindS (y::ol) z.1 kd*z.2.getD p 0).sum=(if y.k=kd then(y.n:Rat)*Mg W y.ow p else 0)+(W.map λz=>kindS ol z.1 kd*z.2.getD p 0).sum:=λW=>by
   induction W with
   |nil=>simp[Mg];grind
   |cons z W ih=>
    rw[t8,ub,ih,t8,ub,IC]
    have e:Mg (z::W) y.ow p=y.ow.getD z.1 0*z.2.getD p 0+Mg W y.ow p:=by unfold Mg;rw[t8,ub]
    have e2:ownAt y z.1=y.ow.getD z.1 0:=rfl
    rw[e,e2]
    split<;>grind
  rw[key,hn]
  have:ownAt x p=x.ow.getD p 0:=rfl
  rw[this,g0]
end
end Mi
end
noncomputable section
namespace Mi
open PySem PySem.Spec L2 PyProof.Rows
section
variable{S:Sto}{t:Tr}{ls:KE Ld}{ds:KE AR}{k M q:Nat}{s o o':Stt}{d:AR}{xs:KE D}{W:KE (Nat×KE Rat)}{p kd:Nat}
theorem Lin.runs(ht:JO t)(hW:∀z∈W,z.1<M)(hp:(W.map (·.1)).Pairwise (· < ·)):∀{ds:KE AR} {s o:Stt} {k:Nat},Lin W p s o->OJ t M k s o->ED t k s->MC t s ds->k+ds.length<=17->(Mi.runs t s ds).AD.length<=M->(∀d∈ds,UL d=false)->(∀z∈Q7 t.p o.AD.length ds,z∈W)->Lin W p (Mi.runs t s ds) (TV t M o ds)
 | [],s,o,k,h,_,_,_,_,_,_,_=>h
 |d::ds,s,o,k,h,oj,hs,hg,hk,hM,hn,hr=>by
  have hl:(d::ds).length=ds.length+1:=rfl
  have room:=Qx oj.hd hM
  refine Lin.runs ht hW hp (ds:=ds) (h.step oj hs hg.1 (hn d uD) hW hp room ?_) (oj.step (by lia) hg.1 room) (NH ht hs (by lia) hg.1) hg.2 (by lia) hM (λx hx=>hn x (tf _ hx)) λz hz=>hr z ?_
  .rintro p0 kd n rfl
   exact hr _ (by simp[Q7])
  .rw[Rh]at hz
   rw[Nf]
   exact uw _ hz
theorem UQ:∀{xs:KE Ld} {n i:Nat},i<xs.length->(n+i,(AM xs i).ow)∈Tu n xs
 |x::xs,n,0,_=>uD
 |x::xs,n,i+1,h=>by
  have:=UQ (xs:=xs) (n:=n+1) (i:=i) (by simpa using h)
  rw[show n+1+i=n+(i+1) by lia]at this
  exact tf _ this
theorem Wm:∀z∈D9 t ls ds,z.1<manyN ls ds:=λz hz=>QR (by rw[<-Gp (t:=t)];exact um.mpr ⟨z,hz,rfl⟩)
theorem Ls:((D9 t ls ds).map (·.1)).Pairwise (· < ·):=by rw[Gp];exact Ni
theorem gQ(h:CK t ls ds)(hn:∀d∈ds,UL d=false):Lin (D9 t ls ds) p (runs t (st0 t ls) ds) (Kr t ls ds):=by
 have hd:=h.len
 refine Lin.runs h.tr Wm Ls (k:=0) (λi=>?_) (LI h (by unfold manyN;lia)) h.inv h.good (by lia) (by rw[Jz];exact tw _) hn λz hz=>?_
 .by_cases hi:i<ls.length
  .have:(AM (MW (manyN ls ds) ls).AD i).ow=Ia (manyN ls ds) i:=by
    unfold AM MW
    simp[tu,hi]
   rw[this]
   have m:=UQ (n:=0) hi
   rw[yK]at m
   rw[Qt (by unfold manyN;lia) Ls (xJ _ m)]
   rfl
  .have:AM (MW (manyN ls ds) ls).AD i=⟨0,0,[]⟩:=by
    unfold AM
    rw[tu,vB (by simp[MW];lia)];rfl
   rw[this,show AM (st0 t ls).AD i=⟨0,0,[]⟩ by unfold AM;rw[tu,vB (by show ls.length<=i;lia)];rfl]
   exact UB.symm
 .have e:(MW (manyN ls ds) ls).AD.length=ls.length:=by simp[MW]
  rw[e]at hz
  exact uw _ hz
theorem TX(h:CK t ls ds)(hn:∀d∈ds,UL d=false):kindS (runs t (st0 t ls) ds).AD p kd=((D9 t ls ds).map λz=>kindS (Kr t ls ds).AD z.1 kd*z.2.getD p 0).sum:=
 U2 (U6 h).hd (gQ h hn)
end
end Mi
end
noncomputable section
namespace Mi
open PySem PySem.Spec L2
section
variable{S:Sto}
theorem SX{rs:KE Rat}{G B K:Nat}(hG:0<G)(gK:G<2^K)(hK:2*K<=7990)(hr:∀r∈rs,Ok G B r)(hb:rs.length*B<2^K):DH [.lst (rs.map aD)] S=Gc (aD rs.sum,S):=by
 obtain⟨o',e⟩:=UT (F:=Bt) (λS h1 h2 h3=>Pw h1 h2 h3) (gs:=[]) (S:=S) AZ (X:=Gc (.lst (rs.map aD))) (B:=B) hG gK hK (rs:=rs) (acc:=0) (m:=0) (o:=none) (by rw[Nat.zero_mul];exact Ok.zero) hr (by simpa using hb)
 have ez:(0:Rat)+rs.sum=rs.sum:=by grind
 rw[ez,QL]at e
 simp[DH,Rr,e]
end
section
variable{S:Sto}{L:KE Ld}{G B N K p kd:Nat}
noncomputable def TC(L:KE Ld)(p kd:Nat):KE Rat:=(L.filter λx=>x.k==kd).map λx=>(x.n:Rat)*ownAt x p
theorem dz(h:Bd L G B N K):DH [.lst ((TC L p kd).map aD)] S=Gc (aD (kindS L p kd),S):=by
 refine SX (B:=B*N) h.g0 h.gK (by have:=h.hK;lia) (λr hr=>?_) ?_
 .obtain⟨x,hx,rfl⟩:=um.mp hr
  exact h.mul ((wR.mp hx).1) p
 .have l1:(TC L p kd).length<=30:=by
   rw[TC,uX]
   exact uA (vv _ _) h.len
  have:=uy (B*N) l1
  have:=h.hb
  lia
end
end Mi
end
noncomputable section
namespace Mi
open PySem PySem.Spec L2 PyProof.Rows
section
variable{S:Sto}{t:Tr}{ls:KE Ld}{ds:KE AR}{k M qs:Nat}{s o o':Stt}{d:AR}{xs:KE D}{p kd r:Nat}{G B N K:Nat}
theorem YM{ls:KE Ld}:(uJ ls.length).map (AM ls)=ls:=by
 apply wq
 .simp
 .intro i h1 h2
  simp at h1
  have e:=DA h1
  rw[t7 h1]at e
  injection e with e
  simp[e]
theorem d9{ls:KE Ld}:NI 0 (ls.map Ld.d)=(uJ ls.length).map λ(i:Nat)=>D.tup [.int i,(AM ls i).d]:=by
 rw[LC,uX]
 refine vf λi hi=>?_
 have hi:i<ls.length:=by simpa using hi
 rw[tu,uN,DA hi]
 rfl
noncomputable def Sw(ls:KE Ld)(r kd:Nat):KE D:=(ls.filter λx=>x.k==kd).map λx=>D.tup [.int x.n,aD (ownAt x r)]
theorem fR:((uJ o.AD.length).filter λi=>(AM o.AD i).k==kd).map (λi=>D.tup [.int (AM o.AD i).n,aD (ownAt (AM o.AD i) r)])=Sw o.AD r kd:=by
 unfold Sw
 conv=>rhs;rw[<-YM (ls:=o.AD)]
 rw[List.filter_map,uc]
 rfl
theorem nV(hd:Hd s o)(h:OAt S qs M xs o)(hl:o.AD.length<=50):CU [] (tTp [tNm 3,tNm 4]) (eOp (o2 wEq) [eOp (o2 wIx) [eV 4,eC (.int 0)],eV 2]) (CS [eOp (o2 wIx) [eV 4,eC (.int 1)],ZA (eOp (o2 wIx) [eV 0,eV 3]) (eV 1) (CS [eC (.int 0),eC (.int 1)])]) (NI 0 (s.AD.map Ld.d)) [] [Gc (.ref qs),Gc (.int r),Gc (.int kd),none,none] S=Gc (Sw o.AD r kd,S):=by
 have hlen:=hd.len
 have e:=DJ (gs:=[]) (t:=tTp [tNm 3,tNm 4]) (c:=eOp (o2 wEq) [eOp (o2 wIx) [eV 4,eC (.int 0)],eV 2]) (f:=CS [eOp (o2 wIx) [eV 4,eC (.int 1)],ZA (eOp (o2 wIx) [eV 0,eV 3]) (eV 1) (CS [eC (.int 0),eC (.int 1)])]) (C:=[Gc (.ref qs),Gc (.int r),Gc (.int kd)]) (m:=2) (e:=λ(i:Nat)=>D.tup [.int i,(AM s.AD i).d]) (g:=λi=>D.tup [.int (AM o.AD i).n,aD (ownAt (AM o.AD i) r)]) (b:=λi=>(AM o.AD i).k==kd) (S:=S) AZ (xs:=uJ o.AD.length) (acc:=[]) (os:=[none,none]) rfl (uA (show _<=50 by simp;lia) (AO (by decide))) (by
  intro i hi os ho
  obtain⟨q1,q2,rfl⟩:=YF ho
  have hi:i<o.AD.length:=by simpa using hi
  have ai:=hd.at (i:=i) (by lia)
  obtain⟨x,es,x1,x2,x3,x4⟩:=h.get hi
  have dq:=As h.cell
  have dx:=x3.dd
  have v:=x4.val (r:=r)
  rw[QL]at v
  have sz2:(2:Nat)<=sizeLine:=AO (by decide)
  refine⟨[Gc (.int i),Gc (AM s.AD i).d],rfl,rfl,?_,?_⟩
  .have:((AM o.AD i).k==kd)=(((AM o.AD i).k:Int)==(kd:Int)):=by
    rw[Bool.eq_iff_iff,yV,yV]
    lia
   rw[this]
   simp[Ld.d,ai.1]
  .unfold ownAt
   generalize (AM o.AD i).ow.getD r 0=A0 at*
   simp[Ld.d,ai.2,dq,x2,dx,v,sz2])
 rw[fR,<-hlen,<-d9]at e
 simpa using e
theorem jb(h:Bd o.AD G B N K):CU [] (tTp [tNm 0,tNm 1]) Bx (AK Aa [CS [eV 0,eC (.int 1)],eV 1]) (Sw o.AD r kd) [] [none,none] S=Gc ((TC o.AD r kd).map aD,S):=by
 have hl:=h.len
 have hK:=h.hK
 have e:=Cm (gs:=[]) (t:=tTp [tNm 0,tNm 1]) (f:=AK Aa [CS [eV 0,eC (.int 1)],eV 1]) (C:=[]) (m:=2) (e:=λx:Ld=>D.tup [.int x.n,aD (ownAt x r)]) (g:=λx=>aD ((x.n:Rat)*ownAt x r)) (S:=S) AZ (xs:=o.AD.filter λx=>x.k==kd) (acc:=[]) (os:=[none,none]) rfl (uA (show _<=50 by have:=vv (λx:Ld=>x.k==kd) o.AD;simp;lia) (AO (by decide))) (by
  intro x hx os ho
  obtain⟨q1,q2,rfl⟩:=YF ho
  have hx:x∈o.AD:=(wR.mp hx).1
  have zx:=h.nSz hx
  have zo:=(h.at hx r).sz h.g0 h.gK h.hB
  have t1:=G5 (S:=S) zx zo (by lia)
  rw[NR]at t1
  have sz2:(2:Nat)<=sizeLine:=AO (by decide)
  refine⟨[Gc (.int x.n),Gc (aD (ownAt x r))],rfl,rfl,?_⟩
  generalize ownAt x r=A0 at*
  simp[t1,sz2])
 have em:(o.AD.filter λx=>x.k==kd).map (λx=>aD ((x.n:Rat)*ownAt x r))=(TC o.AD r kd).map aD:=by
  unfold TC;rw[uc];rfl
 rw[em]at e
 simpa[Sw]using e
end
end Mi
end
noncomputable section
namespace Mi
open PySem PySem.Spec L2 PyProof.Rows
section
variable{S:Sto}{t:Tr}{ls:KE Ld}{ds:KE AR}{k M qs:Nat}{s o o':Stt}{d:AR}{xs:KE D}{p kd r:Nat}{G B N K:Nat}
def kB:Ex:=(Ad (Bm 12 (CT [7,9,11] 2 (UA (eV 6)) (tTp [tNm 3,tNm 4]) (eOp (o2 wEq) [eOp (o2 wIx) [eV 4,eC (.int 0)],eV 2]) (CS [eOp (o2 wIx) [eV 4,eC (.int 1)],ZA (eOp (o2 wIx) [eV 0,eV 3]) (eV 1) (CS [eC (.int 0),eC (.int 1)])])))
    (CP (KD KJ (eV 10) [AK DH [CT [] 2 (GI (eV 12)) (tTp [tNm 0,tNm 1]) Bx (AK Aa [CS [eV 0,eC (.int 1)],eV 1])]])))
variable{e0 e1 e2 e3 e4 e5 e8 e13 e14 e15 e16:tY D}
theorem mP{P:Nat}{acc:KE D}{e12:tY D}(hd:Hd s o)(h:OAt S qs M xs o)(bd:Bd o.AD G B N K)(hP:S[P]?=Gc (.lst acc))(hz:acc.length<100):∃e12',kB [e0,e1,e2,e3,e4,e5,Gc (.lst (s.AD.map Ld.d)),Gc (.ref qs),e8,Gc (.int r),Gc (.ref P),Gc (.int kd),e12,e13,e14,e15,e16] S=Gc (.nx,[e0,e1,e2,e3,e4,e5,Gc (.lst (s.AD.map Ld.d)),Gc (.ref qs),e8,Gc (.int r),Gc (.ref P),Gc (.int kd),e12',e13,e14,e15,e16],S.set P (.lst (acc++[aD (kindS o.AD r kd)]))):=by
 have c1:=nV (r:=r) (kd:=kd) hd h (by have:=bd.len;lia)
 have c2:=jb (S:=S) (r:=r) (kd:=kd) bd
 have sm:=dz (S:=S) (p:=r) (kd:=kd) bd
 have cP:=AV hP
 have hz':acc.length<sizeLine:=t9 hz (AO (by decide))
 refine⟨Gc (.lst (Sw o.AD r kd)),?_⟩
 generalize Sw o.AD r kd=V1 at*
 generalize (TC o.AD r kd).map aD=V2 at*
 generalize s.AD.map Ld.d=LD at*
 simp[kB,c1,c2,sm,cP,hz']
theorem dC{P:Nat}(hd:Hd s o)(bd:Bd o.AD G B N K)(hPq:qs≠P):∀{ks:KE Nat} {acc:KE D} {S:Sto} {e11 e12:tY D},OAt S qs M xs o->S[P]?=Gc (.lst acc)->acc.length+ks.length<=100->∃e11' e12' S',Jx [] (tNm 11) kB (Bn ks) [e0,e1,e2,e3,e4,e5,Gc (.lst (s.AD.map Ld.d)),Gc (.ref qs),e8,Gc (.int r),Gc (.ref P),e11,e12,e13,e14,e15,e16] S=Gc (.nx,[e0,e1,e2,e3,e4,e5,Gc (.lst (s.AD.map Ld.d)),Gc (.ref qs),e8,Gc (.int r),Gc (.ref P),e11',e12',e13,e14,e15,e16],S')/\S'[P]?=Gc (.lst (acc++ks.map λkd=>aD (kindS o.AD r kd)))/\Bv [P] S S'
 | [],acc,S,e11,e12,h,hP,_=>⟨e11,e12,S,by rw[Bn,u4,Dz AZ],by simpa using hP,.refl⟩
 |kd::ks,acc,S,e11,e12,h,hP,hz=>by
  simp only[uq]at hz
  obtain⟨e12',e⟩:=mP (r:=r) (kd:=kd) (e0:=e0) (e1:=e1) (e2:=e2) (e3:=e3) (e4:=e4) (e5:=e5) (e8:=e8) (e12:=e12) (e13:=e13) (e14:=e14) (e15:=e15) (e16:=e16) hd h bd hP (by lia)
  have sm:Bv [P] S (S.set P (.lst (acc++[aD (kindS o.AD r kd)]))):=.set (by simp)
  have h':=h.keep sm (by simpa using hPq) (λn hn es z=>by simp at hn;rw[hn,hP]at z;cases z)
  obtain⟨a,b,S',ee3,q3,s3⟩:=dC hd bd hPq (ks:=ks) (acc:=acc++[aD (kindS o.AD r kd)]) (e11:=Gc (.int kd)) (e12:=e12') h' (uG (Ac hP)) (by simp;lia)
  refine⟨a,b,S',?_,by simpa using q3,sm.trans s3⟩
  show Jx [] (tNm 11) kB (.int (kd:Int)::Bn ks) _ S=_
  have tn:tNm 11 (.int (kd:Int)) [e0,e1,e2,e3,e4,e5,Gc (.lst (s.AD.map Ld.d)),Gc (.ref qs),e8,Gc (.int r),Gc (.ref P),e11,e12,e13,e14,e15,e16] S=Gc [e0,e1,e2,e3,e4,e5,Gc (.lst (s.AD.map Ld.d)),Gc (.ref qs),e8,Gc (.int r),Gc (.ref P),Gc (.int kd),e12,e13,e14,e15,e16]:=rfl
  rw[B7 AZ]
  rw[tn,Ap,e,Ap,Fe,ee3]
def rB:Ex:=(Ad (Bm 10 (J8 []))
    (Ad (JI (My [eOp (o2 wIx) [eV 4,eC (.int 1)]]) (tNm 11) kB)
    (CP (KD KJ (eV 8) [CS [eV 9,eOp (o1 Ck) [eV 10]]]))))
noncomputable def GK(t:Tr)(o:Stt)(r:Nat):D:=.tup [.int r,shD (BY t.k o.AD r)]
theorem nX{qd:Nat}{acc:KE D}{e10 e11 e12:tY D}(ht:JO t)(hd:Hd s o)(h:OAt S qs M xs o)(bd:Bd o.AD G B N K)(hD:S[qd]?=Gc (.lst acc))(hz:acc.length<100):∃e10' e11' e12' S',rB [e0,e1,e2,e3,Gc t.d,e5,Gc (.lst (s.AD.map Ld.d)),Gc (.ref qs),Gc (.ref qd),Gc (.int r),e10,e11,e12,e13,e14,e15,e16] S=Gc (.nx,[e0,e1,e2,e3,Gc t.d,e5,Gc (.lst (s.AD.map Ld.d)),Gc (.ref qs),Gc (.ref qd),Gc (.int r),e10',e11',e12',e13,e14,e15,e16],S'.set qd (.lst (acc++[GK t o r])))/\Bv [] S S':=by
 have tk:t.k<=5:=ht.2.2.2.1
 have s0:Bv [] S (S++[Cl.lst []]):=.app
 have h0:=h.keep s0 (by simp) (λ_ z=>nomatch z)
 have hPq:qs≠S.length:=λe=>by have:=Ac h.cell;lia
 obtain⟨a,b,S1,e,q1,s1⟩:=dC (r:=r) (e0:=e0) (e1:=e1) (e2:=e2) (e3:=e3) (e4:=Gc t.d) (e5:=e5) (e8:=Gc (.ref qd)) (e11:=e11) (e12:=e12) (e13:=e13) (e14:=e14) (e15:=e15) (e16:=e16) hd bd hPq (ks:=uJ t.k) (acc:=[]) h0 uL (by simp;lia)
 have sT:Bv [] S S1:=Bv.new (A:=[]) (B:=[S.length]) .app s1 (by simp)
 have hD1:=sT.get hD (by simp)
 refine⟨Gc (.ref S.length),a,b,S1,?_,sT⟩
 have rn:IK (t.k:Int)=true:=DB (by lia) (by lia)
 have rg:K4 0 t.k=Bn (uJ t.k):=by simp[K4,Bn]
 have cD:=AV hD1
 have dq:=As q1
 have hz':acc.length<sizeLine:=t9 hz (AO (by decide))
 have sz2:(2:Nat)<=sizeLine:=AO (by decide)
 have eh:GK t o r=.tup [.int r,.tup ((uJ t.k).map λkd=>aD (kindS o.AD r kd))]:=by
  unfold GK BY shD;rw[uc];rfl
 rw[eh]
 rw[uV]at dq
 generalize ((uJ t.k).map λkd=>aD (kindS o.AD r kd))=V at*
 generalize s.AD.map Ld.d=LD at*
 generalize Bn (uJ t.k)=NN at*
 simp only[Tr.d]at e⊢
 simp[rB,rn,rg,e,cD,dq,hz',sz2]
end
end Mi
end
noncomputable section
namespace Mi
open PySem PySem.Spec L2 PyProof.Rows
section
variable{S:Sto}{t:Tr}{ls:KE Ld}{ds:KE AR}{k M qs:Nat}{s o o':Stt}{d:AR}{xs:KE D}{p kd r:Nat}{G B N K:Nat}
variable{e0 e1 e2 e3 e4 e5 e8 e13 e14 e15 e16:tY D}
theorem ck{qd:Nat}(ht:JO t)(hd:Hd s o)(bd:Bd o.AD G B N K)(hq:qs≠qd):∀{rs:KE Nat} {acc:KE D} {S:Sto} {e9 e10 e11 e12:tY D},OAt S qs M xs o->S[qd]?=Gc (.lst acc)->acc.length+rs.length<=100->∃e9' e10' e11' e12' S',Jx [] (tNm 9) rB (Bn rs) [e0,e1,e2,e3,Gc t.d,e5,Gc (.lst (s.AD.map Ld.d)),Gc (.ref qs),Gc (.ref qd),e9,e10,e11,e12,e13,e14,e15,e16] S=Gc (.nx,[e0,e1,e2,e3,Gc t.d,e5,Gc (.lst (s.AD.map Ld.d)),Gc (.ref qs),Gc (.ref qd),e9',e10',e11',e12',e13,e14,e15,e16],S')/\S'[qd]?=Gc (.lst (acc++rs.map (GK t o)))/\Bv [qd] S S'
 | [],acc,S,e9,e10,e11,e12,h,hD,_=>⟨e9,e10,e11,e12,S,by rw[Bn,u4,Dz AZ],by simpa using hD,.refl⟩
 |r::rs,acc,S,e9,e10,e11,e12,h,hD,hz=>by
  simp only[uq]at hz
  obtain⟨b10,b11,b12,S1,ee,s1⟩:=nX (r:=r) (e0:=e0) (e1:=e1) (e2:=e2) (e3:=e3) (e5:=e5) (e10:=e10) (e11:=e11) (e12:=e12) (e13:=e13) (e14:=e14) (e15:=e15) (e16:=e16) ht hd h bd hD (by lia)
  have h1:=h.keep s1 (by simp) (λ_ z=>nomatch z)
  have hD1:=s1.get hD (by simp)
  have sm:Bv [qd] S1 (S1.set qd (.lst (acc++[GK t o r]))):=.set (by simp)
  have h2:=h1.keep sm (by simpa using hq) (λn hn es z=>by simp at hn;rw[hn,hD1]at z;cases z)
  obtain⟨c9,c10,c11,c12,S',ee3,q3,s3⟩:=ck ht hd bd hq (rs:=rs) (acc:=acc++[GK t o r]) (e9:=Gc (.int r)) (e10:=b10) (e11:=b11) (e12:=b12) h2 (uG (Ac hD1)) (by simp;lia)
  refine⟨c9,c10,c11,c12,S',?_,by simpa using q3,((s1.mono λ_ z=>nomatch z).trans sm).trans s3⟩
  show Jx [] (tNm 9) rB (.int (r:Int)::Bn rs) _ S=_
  have tn:tNm 9 (.int (r:Int)) [e0,e1,e2,e3,Gc t.d,e5,Gc (.lst (s.AD.map Ld.d)),Gc (.ref qs),Gc (.ref qd),e9,e10,e11,e12,e13,e14,e15,e16] S=Gc [e0,e1,e2,e3,Gc t.d,e5,Gc (.lst (s.AD.map Ld.d)),Gc (.ref qs),Gc (.ref qd),Gc (.int r),e10,e11,e12,e13,e14,e15,e16]:=rfl
  rw[B7 AZ,tn,Ap,ee,Ap,Fe,ee3]
theorem Ku:LB t ls ds=(C8 ls ds).map (GK t (Kr t ls ds)):=rfl
theorem XT{r:Nat}(h:kd<t.k):atI ((BY t.k o.AD r).map aD) (kd:Int)=Gc (aD (kindS o.AD r kd)):=DF (by
 unfold BY
 rw[uc,uN,wB h];rfl)
theorem oK{qd:Nat}{rs:KE Nat}(hD:S[qd]?=Gc (.lst (rs.map (GK t o))))(hkd:kd<t.k)(hl:rs.length<=50):CU [(qd,rs.map (GK t o))] (tTp [tNm 1,tNm 2]) Bx (eOp (o2 wIx) [eV 2,eV 0]) (rs.map (GK t o)) [] [Gc (.int kd),none,none] S=Gc ((rs.map λr=>kindS o.AD r kd).map aD,S):=by
 have e:=Cm (gs:=[(qd,rs.map (GK t o))]) (t:=tTp [tNm 1,tNm 2]) (f:=eOp (o2 wIx) [eV 2,eV 0]) (C:=[Gc (.int kd)]) (m:=2) (e:=GK t o) (g:=λr=>aD (kindS o.AD r kd)) (S:=S) (by simp[gOk,AV hD]) (xs:=rs) (acc:=[]) (os:=[none,none]) rfl (uA (show _<=50 by simp;lia) (AO (by decide))) (by
  intro r _ os ho
  obtain⟨q1,q2,rfl⟩:=YF ho
  have a:=XT (o:=o) (r:=r) hkd
  refine⟨[Gc (.int r),Gc (shD (BY t.k o.AD r))],rfl,rfl,?_⟩
  simp[shD,a])
 rw[uc]
 simp only[uV,uj]at e
 exact e
theorem X9:∀{W:KE (Nat×KE Rat)} {z:Nat×KE Rat},(W.map (·.1)).Pairwise (· < ·)->z∈W->Ta (Lo W) (.inl (z.1:Int))=Gc (shD z.2)
 |y::W,z,hp,hm=>by
  rw[t8,wG]at hp
  show(if(wD (y.1:Int):Key)=wD (z.1:Int)then Gc (shD y.2)else Ta (Lo W) (.inl (z.1:Int)))=_
  rcases uF.mp hm with rfl|hm
  .rw[uZ rfl]
  .have:=hp.1 z.1 (um.mpr ⟨z,hm,rfl⟩)
   rw[uh (λe=>by injection e with e;lia),X9 hp.2 hm]
end
end Mi
end
noncomputable section
namespace Mi
open PySem PySem.Spec L2
section
variable{S:Sto}{t:Tr}{ls:KE Ld}{ds:KE AR}{n:Nat}
theorem gP(h:CK t ls ds)(hn:n<=ds.length):∃S',E9 [BC t ls ds,.int n] S=Gc (.lst ((uJ t.p).map λp=>shD (BY t.k (runs t (st0 t ls) (ds.take n)).AD p)),S')/\Bv [] S S':=by
 obtain⟨S1,e1,s1⟩:=ar (S:=S) h hn
 have il:(ds.take n).length<=16:=by have:=h.len;simp;lia
 have inv:=h.at n
 obtain⟨G,B,N,K,bd⟩:=inv.bd il
 have ho:=inv.own
 have hk:=inv.kind
 obtain⟨t1,t2,t3,t4,t5,t6⟩:=h.tr
 generalize (runs t (st0 t ls) (ds.take n)).AD=L at*
 generalize (runs t (st0 t ls) (ds.take n)).hold=Ho at*
 obtain⟨S2,e2,s2⟩:=Nh (gs:=[]) (t:=tNm 3) (f:=AK Br [eV 0,eV 1,CT [3] 1 (GI (eV 2)) (tNm 1) Bx (eOp (o2 wIx) [eV 1,eV 0])]) (C:=[Gc (.int t.k),Gc (A7 L),Gc (MF L)]) (m:=1) (e:=λp:Nat=>D.int p) (g:=λp=>shD (BY t.k L p)) (S0:=S1) (λ_ _=>AZ) (xs:=uJ t.p) (acc:=[]) (os:=[none]) (S:=S1) rfl .refl (uA (show _<=50 by simp;lia) (AO (by decide))) (by
  intro p hp os T ho' hT
  obtain⟨o1,rfl⟩:=ON ho'
  have hp':p<t.p:=by simpa using hp
  have pc:=pM (ls:=L) (p:=p) (T:=T) (λl hl=>by rw[ho l hl];exact hp') bd.len
  obtain⟨T2,e3,s3⟩:=Xt (S:=T) (k:=t.k) (by lia) (p:=p) hk bd
  refine⟨[Gc (.int p)],T2,rfl,by simp,?_,hT.trans s3⟩
  have dh:sqD T (MF L)=Gc (L.map (λx=>shD x.ow),[]):=nr rfl
  simp[dh,ZU,pc,e3])
 refine⟨S2,?_,s1.trans s2⟩
 have rk:IK (t.p:Int)=true:=DB (by lia) (by lia)
 have ct:Nl [D.int t.p,D.int t.k,D.int t.b,shD t.ho,D.int t.h,D.int t.l] none (Gc 2)=[.int t.p,.int t.k]:=nr rfl
 have td:wSl none (Gc 2) (.val t.d)=Gc (.val (.tup [.int t.p,.int t.k])):=nr rfl
 have dt:dr S t.d=.val t.d:=rfl
 rw[<-W6]at e2
 simp only[BC]at e1⊢
 simp only[uV,uj,wN]at e2
 simp[E9,JN,dt,td,e1,rk,ZU,e2]
end
section
variable{S:Sto}{t:Tr}{ls L:KE Ld}{ds:KE AR}{n p i q:Nat}{x:Rat}
theorem VT(hp:p<t.p):Cg [BC t ls ds,.int p] S=Gc (.non,S):=by
 have h1:(p:Int)<=(t.p:Int)-1:=by lia
 have k1:St.Kd.int.isA "int"=true:=by decide
 have k2:St.Kd.int.isA "bool"=false:=by decide
 simp[k1,k2,Cg,GC,HY,KP,Ew,Ik,Ii,Kq,HX,Jl,BC,Tr.d,kdW,h1]
theorem WZ{k:Nat}{L:KE Ld}(hp:p<n):atI ((uJ n).map λp=>shD (BY k L p)) (p:Int)=Gc (shD (BY k L p)):=DF (by rw[uN,wB hp];rfl)
theorem md(h:CK t ls ds)(hn:n<=ds.length)(hp:p<t.p):∃S',FD [BC t ls ds,.int n,.int p] S=Gc (shD (BY t.k (runs t (st0 t ls) (ds.take n)).AD p),S')/\Bv [] S S':=by
 obtain⟨S1,e1,s1⟩:=gP (S:=S) h hn
 have r1:=OL (S:=S) h
 have r2:=Rg (S:=S) (t:=t) (ls:=ls) hn
 have r3:=VT (S:=S) (ls:=ls) (ds:=ds) hp
 have a:=WZ (k:=t.k) (L:=(runs t (st0 t ls) (ds.take n)).AD) hp
 refine⟨S1,?_,s1⟩
 simp[FD,LS,r1,r2,r3,e1,a]
end
end Mi
end
noncomputable section
namespace Mi
open PySem PySem.Spec L2 PyProof.Rows
section
variable{S:Sto}{t:Tr}{ls:KE Ld}{ds:KE AR}{k M qs:Nat}{s o o':Stt}{d:AR}{xs:KE D}{p kd r:Nat}{G B N K:Nat}
variable{e0 e1 e2 e3 e4 e5 e6 e7 e9 e10 e12 e14 e15 e16:tY D}
theorem eB{rs:KE Nat}(bd:Bd o.AD G B N K)(hl:rs.length<=20):DH [.lst ((rs.map λr=>kindS o.AD r kd).map aD)] S=Gc (aD (rs.map λr=>kindS o.AD r kd).sum,S):=by
 have hb:=bd.hb
 have gK:=bd.gK
 have hK:=bd.hK
 have e3:(2:Nat)^(K+3)=2^K*8:=by rw[Nat.pow_add]
 refine SX (G:=G) (B:=30*(B*N)) (K:=K+3) bd.g0 (by lia) (by lia) (λx hx=>?_) ?_
 .obtain⟨r,_,rfl⟩:=um.mp hx
  exact bd.kind
 .rw[uX]
  have:=uy (30*(B*N)) hl
  lia
def sB:Ex:=(xIf (eOp (o2 wNe) [AK DH [CT [11] 2 (GI (eV 8)) (tTp [tNm 1,tNm 2]) Bx (eOp (o2 wIx) [eV 2,eV 0])],CS [eV 13,eC (.int 1)]]) (By (eC (.bl false))) FV)
theorem mW{qd:Nat}{rs:KE Nat}{n:Int}(bd:Bd o.AD G B N K)(hD:S[qd]?=Gc (.lst (rs.map (GK t o))))(hkd:kd<t.k)(hl:rs.length<=20)(hn:(rs.map λr=>kindS o.AD r kd).sum=(n:Rat)):sB [e0,e1,e2,e3,e4,e5,e6,e7,Gc (.ref qd),e9,e10,Gc (.int kd),e12,Gc (.int n),e14,e15,e16] S=Gc (.nx,[e0,e1,e2,e3,e4,e5,e6,e7,Gc (.ref qd),e9,e10,Gc (.int kd),e12,Gc (.int n),e14,e15,e16],S):=by
 have c:=oK (kd:=kd) hD hkd (by lia)
 have sm:=eB (S:=S) (kd:=kd) bd hl
 rw[hn,NR]at sm
 have sq:=G4 hD
 have sz2:(2:Nat)<=sizeLine:=AO (by decide)
 have k1:Eo (.tup [.int n,.int 1]) (.tup [.int n,.int 1])=true:=by
  rw[<-NR];exact N6 Rw (uA oG (by decide))
 have k2:deq (.tup [.int n,.int 1]) (.tup [.int n,.int 1])=true:=by
  rw[<-NR];exact Q1 Rw
 generalize (rs.map λr=>kindS o.AD r kd).map aD=V at*
 generalize rs.map (GK t o)=HH at*
 simp[sB,sq,c,sm,sz2,k1,k2]
theorem cJ{qd:Nat}{rs:KE Nat}{f:Nat->Int}(bd:Bd o.AD G B N K)(hD:S[qd]?=Gc (.lst (rs.map (GK t o))))(hl:rs.length<=20)(hf:∀kd,kd<t.k->(rs.map λr=>kindS o.AD r kd).sum=(f kd:Rat)):∀{ks:KE Nat} {e11 e13:tY D},(∀kd∈ks,kd<t.k)->∃e11' e13',Jx [] (tTp [tNm 11,tNm 13]) sB (ks.map λkd:Nat=>D.tup [.int kd,.int (f kd)]) [e0,e1,e2,e3,e4,e5,e6,e7,Gc (.ref qd),e9,e10,e11,e12,e13,e14,e15,e16] S=Gc (.nx,[e0,e1,e2,e3,e4,e5,e6,e7,Gc (.ref qd),e9,e10,e11',e12,e13',e14,e15,e16],S)
 | [],e11,e13,_=>⟨e11,e13,by rw[u4,Dz AZ]⟩
 |kd::ks,e11,e13,h=>by
  have hk:=h kd uD
  have e:=mW (kd:=kd) (e0:=e0) (e1:=e1) (e2:=e2) (e3:=e3) (e4:=e4) (e5:=e5) (e6:=e6) (e7:=e7) (e9:=e9) (e10:=e10) (e12:=e12) (e14:=e14) (e15:=e15) (e16:=e16) bd hD hk hl (hf kd hk)
  obtain⟨a,b,ee⟩:=cJ bd hD hl hf (ks:=ks) (e11:=Gc (.int kd)) (e13:=Gc (.int (f kd))) λx hx=>h x (tf _ hx)
  refine⟨a,b,?_⟩
  have tn:tTp [tNm 11,tNm 13] (.tup [.int kd,.int (f kd)]) [e0,e1,e2,e3,e4,e5,e6,e7,Gc (.ref qd),e9,e10,e11,e12,e13,e14,e15,e16] S=Gc [e0,e1,e2,e3,e4,e5,e6,e7,Gc (.ref qd),e9,e10,Gc (.int kd),e12,Gc (.int (f kd)),e14,e15,e16]:=rfl
  rw[t8,B7 AZ,tn,Ap,e,Ap,Fe,ee]
end
end Mi
end
noncomputable section
namespace Mi
open PySem PySem.Spec L2 PyProof.Rows
section
variable{S:Sto}{t:Tr}{ls:KE Ld}{ds:KE AR}{k M qs:Nat}{s o o':Stt}{d:AR}{xs:KE D}{p kd r:Nat}{G B N K:Nat}
variable{e0 e1 e2 e3 e4 e5 e6 e7 e9 e10 e12 e13:tY D}
noncomputable def byR(o:Stt)(W:KE (Nat×KE Rat))(p kd:Nat):KE Rat:=W.map λz=>kindS o.AD z.1 kd*z.2.getD p 0
theorem byC{qd qw:Nat}{W:KE (Nat×KE Rat)}(hD:S[qd]?=Gc (.lst ((W.map (·.1)).map (GK t o))))(hW:S[qw]?=Gc (.dct (Lo W)))(hp:(W.map (·.1)).Pairwise (· < ·))(bd:Bd o.AD G B N K)(hkd:kd<t.k)(hl:W.length<=20)(hv:∀z∈W,p<z.2.length/\Sz 150 (z.2.getD p 0)):CU [(qd,(W.map (·.1)).map (GK t o))] (tTp [tNm 3,tNm 4]) Bx (AK Aa [eOp (o2 wIx) [eV 4,eV 0],eOp (o2 wIx) [eDI (eV 1) (eV 3),eV 2]]) ((W.map (·.1)).map (GK t o)) [] [Gc (.int kd),Gc (.ref qw),Gc (.int p),none,none] S=Gc ((byR o W p kd).map aD,S):=by
 have e:=Cm (gs:=[(qd,(W.map (·.1)).map (GK t o))]) (t:=tTp [tNm 3,tNm 4]) (f:=AK Aa [eOp (o2 wIx) [eV 4,eV 0],eOp (o2 wIx) [eDI (eV 1) (eV 3),eV 2]]) (C:=[Gc (.int kd),Gc (.ref qw),Gc (.int p)]) (m:=2) (e:=λz:Nat×KE Rat=>GK t o z.1) (g:=λz=>aD (kindS o.AD z.1 kd*z.2.getD p 0)) (S:=S) (by simp[gOk,AV hD]) (xs:=W) (acc:=[]) (os:=[none,none]) rfl (uA (show _<=50 by simp;lia) (AO (by decide))) (by
  intro z hz os ho
  obtain⟨q1,q2,rfl⟩:=YF ho
  have a:=XT (o:=o) (r:=z.1) hkd
  have g:=X9 hp hz
  have dw:=Qs hW
  have hv:=hv z hz
  have az:=UW hv.1
  have hK:=bd.hK
  have hb:=bd.hb
  have zk:Sz K (kindS o.AD z.1 kd):=(bd.kind (p:=z.1) (kd:=kd)).sz bd.g0 bd.gK (by lia)
  have tm:=G5 (S:=S) zk hv.2 (by lia)
  have di:∀E:En,at? E 1=Gc (.ref qw)->at? E 3=Gc (.int (z.1:Int))->eDI (eV 1) (eV 3) E S=Gc (shD z.2,S):=λE h1 h3=>by
   show((eV 1) E S).bind _=_
   have v1:(eV 1) E S=Gc (.ref qw,S):=by simp[h1]
   have v3:(eV 3) E S=Gc (.int (z.1:Int),S):=by simp[h3]
   rw[v1,Ap]
   dsimp only
   rw[v3,Ap]
   dsimp only
   rw[dw,Ap,ZH,Ap,g]
   rfl
  have di':=di [Gc (.int kd),Gc (.ref qw),Gc (.int p),Gc (.int z.1),Gc (shD (BY t.k o.AD z.1))] rfl rfl
  refine⟨[Gc (.int z.1),Gc (shD (BY t.k o.AD z.1))],rfl,rfl,?_⟩
  simp only[uj,uV]
  generalize z.2.getD p 0=A0 at*
  generalize kindS o.AD z.1 kd=B0 at*
  unfold shD at di'⊢
  simp[a,di',az,tm])
 have e1:(W.map (·.1)).map (GK t o)=W.map λz=>GK t o z.1:=by rw[uc];rfl
 have e2:(byR o W p kd).map aD=W.map λz=>aD (kindS o.AD z.1 kd*z.2.getD p 0):=by unfold byR;rw[uc];rfl
 rw[e2]
 simp only[uV,uj]at e
 rw[e1]at e⊢
 exact e
end
end Mi
end
noncomputable section
namespace Mi
open PySem PySem.Spec L2 PyProof.Rows
section
variable{S:Sto}{t:Tr}{ls:KE Ld}{ds:KE AR}{k M qs:Nat}{s o o':Stt}{d:AR}{xs:KE D}{p kd r:Nat}{G B N K:Nat}
variable{e0 e1 e2 e3 e4 e5 e6 e7 e9 e10 e12 e13:tY D}
theorem Ok.mul{G B G' B':Nat}{r q:Rat}(h:Ok G B r)(g:Ok G' B' q):Ok (G*G') (B*B') (r*q):=by
 obtain⟨z,e1,hz⟩:=h
 obtain⟨y,e2,hy⟩:=g
 refine⟨z*y,?_,yE hz hy⟩
 push_cast
 rw[<-e1,<-e2]
 grind
theorem Ut{P:KE Rat->Prop}:∀{xs:KE Ld} {n:Nat},(∀x∈xs,P x.ow)->∀z∈Tu n xs,P z.2
 |x::xs,n,h,z,hz=>by
  rcases uF.mp hz with rfl|hz
  .exact h x uD
  .exact Ut (λy hy=>h y (tf _ hy)) z hz
theorem UO{P:KE Rat->Prop}{Q:Nat}(h:∀p,P (Ia Q p)):∀{ds:KE AR} {n:Nat},∀z∈Q7 Q n ds,P z.2
 |d::ds,n,z,hz=>by
  rw[Nf]at hz
  rcases uU.mp hz with hz|hz
  .cases d with
   |DL p kd m=>
    have:z=(n,Ia Q p):=by simpa[SA,Q7]using hz
    rw[this];exact h p
   |_=>simp[SA]at hz
  .exact UO h z hz
theorem VX{P:KE Rat->Prop}(h1:∀x∈ls,P x.ow)(h2:∀p,P (Ia t.p p)):∀z∈D9 t ls ds,P z.2:=λz hz=>by
 rcases uU.mp hz with hz|hz
 .exact Ut h1 z hz
 .exact UO h2 z hz
theorem Wo(h:CK t ls ds):∃G0 B0,0<G0/\G0<=B0/\B0<2^30/\∀z∈D9 t ls ds,z.2.length=t.p/\∀r∈z.2,Ok G0 B0 r:=by
 obtain⟨G0,B0,g0,g1,g2,hl,_⟩:=h.inv.gb
 refine⟨G0,B0,g0,g1,g2,VX (P:=λw=>w.length=t.p/\∀r∈w,Ok G0 B0 r) (λx hx=>⟨h.inv.own x hx,hl x hx⟩) λp=>⟨by simp[Ia],UP g1⟩⟩
theorem Ph:(D9 t ls ds).length=(C8 ls ds).length:=by rw[<-Gp (t:=t),uX]
theorem aa{W:KE (Nat×KE Rat)}{G0 B0:Nat}(bd:Bd o.AD G B N K)(hl:W.length<=20)(g0:0<G0)(g1:G0<=B0)(g2:B0<2^30)(hv:∀z∈W,p<z.2.length/\∀r∈z.2,Ok G0 B0 r):DH [.lst ((byR o W p kd).map aD)] S=Gc (aD (byR o W p kd).sum,S):=by
 have hb:=bd.hb
 have gK:=bd.gK
 have hK:=bd.hK
 have e4:(2:Nat)^(K+40)=2^K*2^40:=by rw[Nat.pow_add]
 have e5:(2:Nat)^40=2^30*1024:=by decide
 refine SX (G:=G*G0) (B:=30*(B*N)*B0) (K:=K+40) (yD bd.g0 g0) ?_ (by lia) (λx hx=>?_) ?_
 .have h1:G*G0<=2^K*2^30:=yE (wI gK) (by lia)
  have p0:0<2^K:=Nat.pow_pos (by decide)
  have:2^K*2^30<2^K*2^40:=Nat.mul_lt_mul_of_pos_left (by decide) p0
  lia
 .obtain⟨z,hz,rfl⟩:=um.mp hx
  exact(bd.kind).mul ((hv z hz).2 _ (getD_mem (hv z hz).1))
 .unfold byR
  rw[uX]
  have h1:=uy (30*(B*N)*B0) hl
  have h2:30*(B*N)*B0<=30*(B*N)*2^30:=Nat.mul_le_mul_left _ (by lia)
  have h3:30*(B*N)*2^30<=2^K*2^30:=uy _ (by lia)
  have p0:0<2^K*2^30:=yD (Nat.pow_pos (by decide)) (by decide)
  have e6:2^K*(2^30*1024)=2^K*2^30*1024:=(y9 _ _ _).symm
  rw[e4,e5,e6]
  have hX:∀X Y V:Nat,0<X->Y<=X->V<=20*Y->V<X*1024:=λX Y V a b c=>by lia
  exact hX _ _ _ p0 (uA h2 h3) h1
def tB:Ex:=(xIf (eOp (o2 wNe) [AK DH [CT [11,14,15] 2 (GI (eV 8)) (tTp [tNm 3,tNm 4]) Bx (AK Aa [eOp (o2 wIx) [eV 4,eV 0],eOp (o2 wIx) [eDI (eV 1) (eV 3),eV 2]])],eV 16]) (By (eC (.bl false))) FV)
theorem nk{qd qw:Nat}{W:KE (Nat×KE Rat)}{G0 B0:Nat}(hD:S[qd]?=Gc (.lst ((W.map (·.1)).map (GK t o))))(hW:S[qw]?=Gc (.dct (Lo W)))(hp:(W.map (·.1)).Pairwise (· < ·))(bd:Bd o.AD G B N K)(hkd:kd<t.k)(hl:W.length<=20)(g0:0<G0)(g1:G0<=B0)(g2:B0<2^30)(hv:∀z∈W,p<z.2.length/\∀r∈z.2,Ok G0 B0 r):tB [e0,e1,e2,e3,e4,e5,e6,e7,Gc (.ref qd),e9,e10,Gc (.int kd),e12,e13,Gc (.ref qw),Gc (.int p),Gc (aD (byR o W p kd).sum)] S=Gc (.nx,[e0,e1,e2,e3,e4,e5,e6,e7,Gc (.ref qd),e9,e10,Gc (.int kd),e12,e13,Gc (.ref qw),Gc (.int p),Gc (aD (byR o W p kd).sum)],S):=by
 have c:=byC (p:=p) hD hW hp bd hkd hl λz hz=>⟨(hv z hz).1,(((hv z hz).2 _ (getD_mem (hv z hz).1)).sz g0 (vM g1 g2) g2).mono (by decide)⟩
 have sm:=aa (S:=S) (kd:=kd) bd hl g0 g1 g2 hv
 have sq:=G4 hD
 have k1:Eo (aD (byR o W p kd).sum) (aD (byR o W p kd).sum)=true:=N6 Rw (uA oG (by decide))
 have k2:deq (aD (byR o W p kd).sum) (aD (byR o W p kd).sum)=true:=Q1 Rw
 have dA:fz (dr S (aD (byR o W p kd).sum))=aD (byR o W p kd).sum:=rfl
 generalize aD (byR o W p kd).sum=A at*
 generalize (byR o W p kd).map aD=V at*
 generalize (W.map (·.1)).map (GK t o)=HH at*
 simp[tB,sq,c,sm,dA,k1,k2]
end
end Mi
end
noncomputable section
namespace Mi
open PySem PySem.Spec L2 PyProof.Rows
section
variable{S:Sto}{t:Tr}{ls:KE Ld}{ds:KE AR}{k M qs:Nat}{s o o':Stt}{d:AR}{xs:KE D}{p kd r:Nat}{G B N K:Nat}
variable{e0 e1 e2 e3 e4 e5 e6 e7 e9 e10 e12 e13:tY D}
theorem br{qd qw:Nat}{W:KE (Nat×KE Rat)}{G0 B0:Nat}(hD:S[qd]?=Gc (.lst ((W.map (·.1)).map (GK t o))))(hW:S[qw]?=Gc (.dct (Lo W)))(hp:(W.map (·.1)).Pairwise (· < ·))(bd:Bd o.AD G B N K)(hl:W.length<=20)(g0:0<G0)(g1:G0<=B0)(g2:B0<2^30)(hv:∀z∈W,p<z.2.length/\∀r∈z.2,Ok G0 B0 r):∀{ks:KE Nat} {e11 e16:tY D},(∀kd∈ks,kd<t.k)->∃e11' e16',Jx [] (tTp [tNm 11,tNm 16]) tB (ks.map λkd:Nat=>D.tup [.int kd,aD (byR o W p kd).sum]) [e0,e1,e2,e3,e4,e5,e6,e7,Gc (.ref qd),e9,e10,e11,e12,e13,Gc (.ref qw),Gc (.int p),e16] S=Gc (.nx,[e0,e1,e2,e3,e4,e5,e6,e7,Gc (.ref qd),e9,e10,e11',e12,e13,Gc (.ref qw),Gc (.int p),e16'],S)
 | [],e11,e16,_=>⟨e11,e16,by rw[u4,Dz AZ]⟩
 |kd::ks,e11,e16,h=>by
  have hk:=h kd uD
  have e:=nk (e0:=e0) (e1:=e1) (e2:=e2) (e3:=e3) (e4:=e4) (e5:=e5) (e6:=e6) (e7:=e7) (e9:=e9) (e10:=e10) (e12:=e12) (e13:=e13) hD hW hp bd hk hl g0 g1 g2 hv
  obtain⟨a,b,ee⟩:=br hD hW hp bd hl g0 g1 g2 hv (ks:=ks) (e11:=Gc (.int kd)) (e16:=Gc (aD (byR o W p kd).sum)) λx hx=>h x (tf _ hx)
  refine⟨a,b,?_⟩
  have tn:tTp [tNm 11,tNm 16] (.tup [.int kd,aD (byR o W p kd).sum]) [e0,e1,e2,e3,e4,e5,e6,e7,Gc (.ref qd),e9,e10,e11,e12,e13,Gc (.ref qw),Gc (.int p),e16] S=Gc [e0,e1,e2,e3,e4,e5,e6,e7,Gc (.ref qd),e9,e10,Gc (.int kd),e12,e13,Gc (.ref qw),Gc (.int p),Gc (aD (byR o W p kd).sum)]:=rfl
  rw[t8,B7 AZ,tn,Ap,e,Ap,Fe,ee]
def uB:Ex:=(JI (UA (AK FD [eV 3,eV 5,eV 15])) (tTp [tNm 11,tNm 16]) tB)
theorem ba{f:Nat->D}{n:Nat}:NI 0 ((uJ n).map f)=(uJ n).map λ(i:Nat)=>D.tup [.int i,f i]:=by
 rw[LC]
 simp only[uX,z6]
 refine vf λi hi=>?_
 have hi:i<n:=by simpa using hi
 rw[tu,uN,wB hi]
 rfl
theorem nQ(h:CK t ls ds){qd qw:Nat}(hn:∀d∈ds,UL d=false)(hD:S[qd]?=Gc (.lst (LB t ls ds)))(hW:S[qw]?=Gc (.dct (Lo (D9 t ls ds))))(bd:Bd (Kr t ls ds).AD G B N K)(hp:p<t.p){e11 e16:tY D}:∃e11' e16' S',uB [e0,e1,e2,Gc (BC t ls ds),e4,Gc (.int ds.length),e6,e7,Gc (.ref qd),e9,e10,e11,e12,e13,Gc (.ref qw),Gc (.int p),e16] S=Gc (.nx,[e0,e1,e2,Gc (BC t ls ds),e4,Gc (.int ds.length),e6,e7,Gc (.ref qd),e9,e10,e11',e12,e13,Gc (.ref qw),Gc (.int p),e16'],S')/\Bv [] S S':=by
 obtain⟨S1,e,s1⟩:=md (S:=S) h (tw _) hp
 rw[vn (tw _)]at e
 obtain⟨G0,B0,g0,g1,g2,hv⟩:=Wo h
 have hD1:=s1.get hD (by simp)
 have hW1:=s1.get hW (by simp)
 rw[Ku,<-Gp (t:=t)]at hD1
 obtain⟨a,b,ee⟩:=br (p:=p) (e0:=e0) (e1:=e1) (e2:=e2) (e3:=Gc (BC t ls ds)) (e4:=e4) (e5:=Gc (.int ds.length)) (e6:=e6) (e7:=e7) (e9:=e9) (e10:=e10) (e12:=e12) (e13:=e13) (e11:=e11) (e16:=e16) hD1 hW1 Ls bd (by rw[Ph];exact Ja h) g0 g1 g2 (λz hz=>⟨by rw[(hv z hz).1];exact hp,(hv z hz).2⟩) (ks:=uJ t.k) (λkd hk=>by simpa using hk)
 refine⟨a,b,S1,?_,s1⟩
 have et:shD (BY t.k (runs t (st0 t ls) ds).AD p)=.tup ((uJ t.k).map λkd=>aD (byR (Kr t ls ds) (D9 t ls ds) p kd).sum):=by
  unfold shD BY byR
  rw[uc]
  congr 1
  refine vf λkd _=>?_
  show aD (kindS _ _ _)=_
  rw[TX h hn]
 rw[et]at e
 have en:=ba (f:=λkd=>aD (byR (Kr t ls ds) (D9 t ls ds) p kd).sum) (n:=t.k)
 generalize ((uJ t.k).map λkd=>aD (byR (Kr t ls ds) (D9 t ls ds) p kd).sum)=V at*
 generalize ((uJ t.k).map λ(i:Nat)=>D.tup [.int i,aD (byR (Kr t ls ds) (D9 t ls ds) p i).sum])=V2 at*
 generalize BC t ls ds=BK at*
 simp[uB,e,en,ee]
theorem bf(h:CK t ls ds){qd qw:Nat}(hn:∀d∈ds,UL d=false)(bd:Bd (Kr t ls ds).AD G B N K):∀{ps:KE Nat} {S:Sto} {e11 e15 e16:tY D},S[qd]?=Gc (.lst (LB t ls ds))->S[qw]?=Gc (.dct (Lo (D9 t ls ds)))->(∀p∈ps,p<t.p)->∃e11' e15' e16' S',Jx [] (tNm 15) uB (Bn ps) [e0,e1,e2,Gc (BC t ls ds),e4,Gc (.int ds.length),e6,e7,Gc (.ref qd),e9,e10,e11,e12,e13,Gc (.ref qw),e15,e16] S=Gc (.nx,[e0,e1,e2,Gc (BC t ls ds),e4,Gc (.int ds.length),e6,e7,Gc (.ref qd),e9,e10,e11',e12,e13,Gc (.ref qw),e15',e16'],S')
 | [],S,e11,e15,e16,_,_,_=>⟨e11,e15,e16,S,by rw[Bn,u4,Dz AZ]⟩
 |p::ps,S,e11,e15,e16,hD,hW,hp=>by
  obtain⟨a,b,S1,ee,s1⟩:=nQ (p:=p) (e0:=e0) (e1:=e1) (e2:=e2) (e4:=e4) (e6:=e6) (e7:=e7) (e9:=e9) (e10:=e10) (e12:=e12) (e13:=e13) (e11:=e11) (e16:=e16) h hn hD hW bd (hp p uD)
  obtain⟨a2,b2,c2,S2,ee2⟩:=bf h hn bd (ps:=ps) (S:=S1) (e11:=a) (e15:=Gc (.int p)) (e16:=b) (s1.get hD (by simp)) (s1.get hW (by simp)) λx hx=>hp x (tf _ hx)
  refine⟨a2,b2,c2,S2,?_⟩
  show Jx [] (tNm 15) uB (.int (p:Int)::Bn ps) _ S=_
  have tn:tNm 15 (.int (p:Int)) [e0,e1,e2,Gc (BC t ls ds),e4,Gc (.int ds.length),e6,e7,Gc (.ref qd),e9,e10,e11,e12,e13,Gc (.ref qw),e15,e16] S=Gc [e0,e1,e2,Gc (BC t ls ds),e4,Gc (.int ds.length),e6,e7,Gc (.ref qd),e9,e10,e11,e12,e13,Gc (.ref qw),Gc (.int p),e16]:=rfl
  rw[B7 AZ,tn,Ap,ee,Ap,Fe,ee2]
end
end Mi
end
noncomputable section
namespace Mi
open PySem PySem.Spec L2 PyProof.Rows
section
variable{S:Sto}{t:Tr}{ls:KE Ld}{ds:KE AR}{k M qs:Nat}{s o o':Stt}{d:AR}{xs:KE D}{p kd r:Nat}{G B N K:Nat}
theorem WI:(D.str "bring").lay=true/\(D.str "pool").lay=true/\(D.str "swap").lay=true/\(D.str "trade").lay=true/\(D.str "spoil").lay=true/\(D.str "throw").lay=true/\(D.str "sell").lay=true:=by decide+kernel
theorem W2{d:AR}:d.d.lay=true:=by
 obtain⟨w1,w2,w3,w4,w5,w6,w7⟩:=WI
 have hw:∀ws:KE Int,(D.tup (ws.map D.int)).lay=true:=λws=>Jy λ_ _=>rfl
 have ha:∀r:Rat,(aD r).lay=true:=λ_=>rfl
 have hi:∀i:Int,(D.int i).lay=true:=λ_=>rfl
 have ht:∀ds:KE D,(D.tup ds).lay=D.Rq ds:=λ_=>rfl
 have hc:∀(d:D) (ds:KE D),D.Rq (d::ds)=(d.lay && D.Rq ds):=λ_ _=>rfl
 have hn:D.Rq []=true:=rfl
 cases d with
 |thr l n ws=>
  have:=hw ws
  generalize hq:D.tup (ws.map D.int)=q at*
  simp only[AR.d,hq,ht,hc,hn,hi,w6,this,Bool.and_self]
 |_=>simp only[AR.d,ht,hc,hn,hi,ha,w1,w2,w3,w4,w5,w7,Bool.and_self]
@[simp] theorem nR{c:Bool}{f:Ev}{E:En}:eSK c f E S=(f E S).bind λa=>(SU a.2 a.1).bind λes=>(O8 es).bind λns=>if ns.length<64 then fin c (.own ((HE ns).map D.int)) a.2 else none:=nr rfl
theorem bV:D.Rq (LB t ls ds)=true:=by
 rw[Ku]
 refine Jy λr _=>?_
 show D.Rq [.int (r:Int),shD _]=true
 show(true && (D.lay (shD _) && true))=true
 rw[iQ];rfl
theorem gf:Eo (.lst (LB t ls ds)) (.lst (LB t ls ds))=true/\deq (.lst (LB t ls ds)) (.lst (LB t ls ds))=true:=by
 have l:(D.lst (LB t ls ds)).lay=true:=bV
 refine⟨N6 l (uA (nN (n:=4) λd hd=>?_) (by decide)),Q1 l⟩
 rw[Ku]at hd
 obtain⟨r,_,rfl⟩:=um.mp hd
 refine gS (n:=3) λx hx=>?_
 simp only[uF,uY,vg]at hx
 rcases hx with rfl|rfl
 .exact kD
 .exact sG
@[simp] theorem lY:wIn false (.val (.str "bring")) (.val (.tup [.str "throw",.str "sell"]))=some (.val (.bl false)):=nr rfl
@[simp] theorem mV:wIn false (.val (.str "pool")) (.val (.tup [.str "throw",.str "sell"]))=some (.val (.bl false)):=nr rfl
@[simp] theorem oN:wIn false (.val (.str "swap")) (.val (.tup [.str "throw",.str "sell"]))=some (.val (.bl false)):=nr rfl
@[simp] theorem kH:wIn false (.val (.str "trade")) (.val (.tup [.str "throw",.str "sell"]))=some (.val (.bl false)):=nr rfl
@[simp] theorem lO:wIn false (.val (.str "spoil")) (.val (.tup [.str "throw",.str "sell"]))=some (.val (.bl false)):=nr rfl
@[simp] theorem kJ:wIn false (.val (.str "throw")) (.val (.tup [.str "throw",.str "sell"]))=some (.val (.bl true)):=nr rfl
@[simp] theorem mU:wIn false (.val (.str "sell")) (.val (.tup [.str "throw",.str "sell"]))=some (.val (.bl true)):=nr rfl
theorem tsC(hl:ds.length<=50):CU [] (tNm 0) (eOp (o2 (wIn false)) [eOp (o2 wIx) [eV 0,eC (.int 0)],CS [eC (.str "throw"),eC (.str "sell")]]) (eV 0) (ds.map AR.d) [] [none] S=Gc ((ds.filter UL).map AR.d,S):=by
 have sz2:(2:Nat)<=sizeLine:=AO (by decide)
 exact DJ (gs:=[]) (t:=tNm 0) (f:=eV 0) (C:=[]) (m:=1) (e:=AR.d) (g:=AR.d) (b:=UL) (S:=S) AZ (xs:=ds) (acc:=[]) (os:=[none]) rfl (uA (show _<=50 by simp;lia) (AO (by decide))) (by
  intro d _ os ho
  obtain⟨o1,rfl⟩:=ON ho
  refine⟨[Gc d.d],rfl,by simp,?_,by simp⟩
  cases d<;>simp[AR.d,UL,sz2])
def ifT:Ex:=(xIf (eOp (o2 wEq) [CT [] 1 (GI (eOp (o2 wIx) [eV 3,eC (.int 2)])) (tNm 0) (eOp (o2 (wIn false)) [eOp (o2 wIx) [eV 0,eC (.int 0)],CS [eC (.str "throw"),eC (.str "sell")]]) (eV 0),Lj []]) (Ad (Bm 14 (AK EW [eV 3]))
    (JI (My [eOp (o2 wIx) [eV 4,eC (.int 0)]]) (tNm 15) uB)) FV)
theorem iG(h:CK t ls ds){qd:Nat}(hD:S[qd]?=Gc (.lst (LB t ls ds)))(bd:Bd (Kr t ls ds).AD G B N K){e0 e1 e2 e6 e7 e9 e10 e11 e12 e13 e14 e15 e16:tY D}:∃f11 f14 f15 f16 S',ifT [e0,e1,e2,Gc (BC t ls ds),Gc t.d,Gc (.int ds.length),e6,e7,Gc (.ref qd),e9,e10,e11,e12,e13,e14,e15,e16] S=Gc (.nx,[e0,e1,e2,Gc (BC t ls ds),Gc t.d,Gc (.int ds.length),e6,e7,Gc (.ref qd),e9,e10,f11,e12,e13,f14,f15,f16],S'):=by
 have hd:=h.len
 have c:=tsC (S:=S) (ds:=ds) (by lia)
 have k1:Eo (.lst ((ds.filter UL).map AR.d)) (.lst [])=true:=U5 (Jy λ_ _=>W2)
 cases hf:ds.filter UL with
 |cons d r=>
  rw[hf]at c k1
  have k2:deq (.lst ((d::r).map AR.d)) (.lst [])=false:=Uq
  refine⟨e11,e14,e15,e16,S,?_⟩
  simp only[BC]
  generalize (d::r).map AR.d=V at*
  simp[ifT,c,k1,k2]
 |nil=>
  rw[hf,u4]at c k1
  have hn:∀d∈ds,UL d=false:=λd hd=>by
   cases e:UL d with
   |false=>rfl
   |true=>
    have:d∈ds.filter UL:=wR.mpr ⟨hd,e⟩
    rw[hf]at this;cases this
  obtain⟨qw,S1,e1',q1,s1,l1⟩:=MP (S:=S) h
  obtain⟨a,b,c',S2,ee⟩:=bf (e0:=e0) (e1:=e1) (e2:=e2) (e4:=Gc t.d) (e6:=e6) (e7:=e7) (e9:=e9) (e10:=e10) (e12:=e12) (e13:=e13) (e11:=e11) (e15:=e15) (e16:=e16) h hn bd (ps:=uJ t.p) (s1.get hD (by simp)) q1 (λp hp=>by simpa using hp)
  refine⟨a,Gc (.ref qw),b,c',S2,?_⟩
  have tp:=h.tr.2.1
  have rn:IK (t.p:Int)=true:=DB (by lia) (by lia)
  have rg:K4 0 t.p=Bn (uJ t.p):=by simp[K4,Bn]
  have k2:deq (.lst []) (.lst [])=true:=WW
  generalize Bn (uJ t.p)=NN at*
  simp only[BC]at e1' ee⊢
  simp only[Tr.d]at e1' ee⊢
  simp[ifT,c,k1,k2,e1',rn,rg,ee]
end
end Mi
end
noncomputable section
namespace Mi
open PySem PySem.Spec L2 PyProof.Rows
section
variable{S:Sto}{t:Tr}{ls:KE Ld}{ds:KE AR}{k M qs:Nat}{s o o':Stt}{d:AR}{xs:KE D}{p kd r:Nat}{G B N K:Nat}
def o8B:Ex:=(Ad (xIf (eOp (o2 wNe) [AK FI [eV 3],eV 8]) (By (eC (.bl false))) FV)
    (Ad (JI (UA (AK GD [eV 3,eV 5])) (tTp [tNm 11,tNm 13]) sB)
    ifT))
def o4B:Ex:=(Ad (O4 (tTp [tNm 6,tNm 7]) (CS [eOp (o2 wIx) [eOp (o2 wIx) [AK GF [eV 3],eV 5],eC (.int 0)],AK E7 [eV 3]]))
    (Ad (Bm 8 (J8 []))
    (Ad (JI (GI (eSK false (AK EW [eV 3]))) (tNm 9) rB)
    o8B)))
def ky:Ex:=(Ad (Bm 2 (AK Ju [AK Du [eV 0,eV 1]]))
    (Ad (Bm 3 (AK IB [eV 2,eC (.int 16)]))
    (Ad (Qm 4 5 (eOp (o2 wIx) [eV 3,eC (.int 0)]) (eOp (o1 HN) [eOp (o2 wIx) [eV 3,eC (.int 2)]]))
    o4B)))
theorem mz(h:CK t ls ds){qd:Nat}(hD:S[qd]?=Gc (.lst (LB t ls ds)))(bd:Bd (Kr t ls ds).AD G B N K){e0 e1 e2 e6 e7 e9 e10 e11 e12 e13 e14 e15 e16:tY D}:∃us S',us.length=11/\o8B [e0,e1,e2,Gc (BC t ls ds),Gc t.d,Gc (.int ds.length),e6,e7,Gc (.ref qd),e9,e10,e11,e12,e13,e14,e15,e16] S=Gc (.nx,[e0,e1,e2,Gc (BC t ls ds),Gc t.d,Gc (.int ds.length)]++us,S'):=by
 obtain⟨S1,c1,s1⟩:=RT (S:=S) h
 have hD1:=s1.get hD (by simp)
 have st:=ao (S:=S1) h (tw _)
 rw[vn (tw _)]at st
 have hD1':=hD1
 rw[Ku]at hD1'
 obtain⟨f11,f13,e2'⟩:=cJ (f:=λkd=>Hu (runs t (st0 t ls) ds).AD kd) (e0:=e0) (e1:=e1) (e2:=e2) (e3:=Gc (BC t ls ds)) (e4:=Gc t.d) (e5:=Gc (.int ds.length)) (e6:=e6) (e7:=e7) (e9:=e9) (e10:=e10) (e11:=e11) (e12:=e12) (e13:=e13) (e14:=e14) (e15:=e15) (e16:=e16) bd hD1' (Ja h) (λkd _=>TM h) (ks:=uJ t.k) (λkd hk=>by simpa using hk)
 obtain⟨g11,g14,g15,g16,S2,e3'⟩:=iG (e0:=e0) (e1:=e1) (e2:=e2) (e6:=e6) (e7:=e7) (e9:=e9) (e10:=e10) (e11:=f11) (e12:=e12) (e13:=f13) (e14:=e14) (e15:=e15) (e16:=e16) h hD1 bd
 obtain⟨k1,k2⟩:=gf (t:=t) (ls:=ls) (ds:=ds)
 have dq:=As hD1
 have en:=ba (f:=λkd=>D.int (Hu (runs t (st0 t ls) ds).AD kd)) (n:=t.k)
 refine⟨[e6,e7,Gc (.ref qd),e9,e10,g11,e12,f13,g14,g15,g16],S2,rfl,?_⟩
 generalize LB t ls ds=HH at*
 generalize ((uJ t.k).map λkd=>D.int (Hu (runs t (st0 t ls) ds).AD kd))=V at*
 generalize ((uJ t.k).map λ(i:Nat)=>D.tup [.int i,.int (Hu (runs t (st0 t ls) ds).AD i)])=V2 at*
 generalize BC t ls ds=BK at*
 simp[o8B,c1,dq,k1,k2,st,en,e2',e3']
theorem oy(h:CK t ls ds){us:En}(hu:us.length=11){e0 e1 e2:tY D}:∃us' S',us'.length=11/\o4B ([e0,e1,e2,Gc (BC t ls ds),Gc t.d,Gc (.int ds.length)]++us) S=Gc (.nx,[e0,e1,e2,Gc (BC t ls ds),Gc t.d,Gc (.int ds.length)]++us',S'):=by
 obtain⟨e6,e7,e8,e9,e10,e11,e12,e13,e14,e15,e16,rfl⟩:∃a b c d e f g h i j k,us=[a,b,c,d,e,f,g,h,i,j,k]:=by
  match us,hu with
  | [a,b,c,d,e,f,g,h,i,j,k],_=>exact⟨a,b,c,d,e,f,g,h,i,j,k,rfl⟩
 obtain⟨q0,S1,c1,q1,s1⟩:=VP (S:=S) h
 obtain⟨qs,xs,S2,c2,oa,s2,_⟩:=Oy (S:=S1) h
 have oj:=U6 h
 obtain⟨G,B,N,K,bd⟩:=oj.inv.bd h.len
 have oa3:OAt (S2++[Cl.lst []]) qs (manyN ls ds) xs (Kr t ls ds):=oa.keep (A:=[]) .app (by simp) (λ_ z=>nomatch z)
 have hq3:(S2++[Cl.lst []])[S2.length]?=Gc (.lst []):=uL
 obtain⟨qw,S4,c4,q4,s4,_⟩:=MP (S:=S2++[Cl.lst []]) h
 have oa4:=oa3.keep s4 (by simp) (λ_ z=>nomatch z)
 have hD4:=s4.get hq3 (by simp)
 have qne:qs≠S2.length:=λe=>by have:=Ac oa.cell;lia
 obtain⟨f9,f10,f11,f12,S5,c5,q5,s5⟩:=ck (s:=runs t (st0 t ls) ds) (e0:=e0) (e1:=e1) (e2:=e2) (e3:=Gc (BC t ls ds)) (e5:=Gc (.int ds.length)) (e9:=e9) (e10:=e10) (e11:=e11) (e12:=e12) (e13:=e13) (e14:=e14) (e15:=e15) (e16:=e16) h.tr oj.hd bd qne (rs:=C8 ls ds) (acc:=[]) oa4 hD4 (by have:=Ja h;simp;lia)
 rw[uV,<-Ku]at q5
 obtain⟨us',S6,l6,c6⟩:=mz (e0:=e0) (e1:=e1) (e2:=e2) (e6:=Gc (.lst ((runs t (st0 t ls) ds).AD.map Ld.d))) (e7:=Gc (.ref qs)) (e9:=f9) (e10:=f10) (e11:=f11) (e12:=f12) (e13:=e13) (e14:=e14) (e15:=e15) (e16:=e16) h q5 bd
 refine⟨us',S6,l6,?_⟩
 have dq:=As q1
 have at1:atI ((uJ (ds.length+1)).map λj=>stD (runs t (st0 t ls) (ds.take j))) (ds.length:Int)=Gc (stD (runs t (st0 t ls) ds)):=DF (by
  rw[uN,wB (by lia)]
  simp)
 have dw:=Qs q4
 have ki:=R6 (ws:=D9 t ls ds)
 have is':=Tp (t:=t) (ls:=ls) (ds:=ds)
 have kl:((D9 t ls ds).map λz=>(z.1:Int)).length<64:=by
  rw[uX,Ph];have:=Ja h;lia
 have sz2:(2:Nat)<=sizeLine:=AO (by decide)
 simp only[uj,uV]
 generalize ((uJ (ds.length+1)).map λj=>stD (runs t (st0 t ls) (ds.take j)))=ST at*
 generalize ((D9 t ls ds).map λz=>(z.1:Int))=RW at*
 generalize Bn (C8 ls ds)=NN at*
 unfold stD at at1
 generalize (runs t (st0 t ls) ds).AD.map Ld.d=LD at*
 generalize BC t ls ds=BK at*
 simp only[uj,uV]at c6
 simp[o4B,c1,c2,dq,at1,sz2,c4,dw,ki,kl,is',c5,c6]
theorem jo{ns:KE Int}{k:Nat}{us:En}(hu:us.length=15):∃us' S',us'.length=15/\ky ([Gc (.scr ns),Gc (.int k)]++us) S=Gc (.nx,[Gc (.scr ns),Gc (.int k)]++us',S'):=by
 obtain⟨o2,o3,o4,o5,vs,rfl,hv⟩:∃a b c d vs,us=[a,b,c,d]++vs/\vs.length=11:=by
  match us,hu with
  |a::b::c::d::vs,h=>exact⟨a,b,c,d,vs,rfl,by simpa using h⟩
 obtain⟨c,e0⟩:=eT (S:=S) (ns:=ns) (k:=k)
 obtain⟨p,S1,e1,hp,_,_⟩:=jO (S:=S) c
 obtain⟨t,ls,ds,S2,e2,⟨hb,_⟩,⟨h1,_⟩,_⟩:=fq (M:=16) (by decide) hp
 rw[show((16:Nat):Int)=16 from rfl]at e2
 obtain⟨us',S3,l3,e3⟩:=oy (S:=S2) hb hv (e0:=Gc (.scr ns)) (e1:=Gc (.int k)) (e2:=Gc (.ref p))
 refine⟨[Gc (.ref p),Gc (BC t ls ds),Gc t.d,Gc (.int ds.length)]++us',S3,by simp[l3],?_⟩
 simp only[uj,uV]at e3⊢
 simp only[BC]at e2 e3⊢
 simp[ky,e0,e1,e2,e3]
theorem iZ(ns:KE Int)(h:ns.length<=63):∃S',P7 [.scr ns] S=Gc (.bl true,S'):=by
 obtain⟨n,hn,hn2⟩:∃n:Nat,(if(if(3:Int)<ns.length then(3:Int)else ns.length)>1 then(if(3:Int)<ns.length then(3:Int)else ns.length)else 1)=(n:Int)/\n<=3:=by
  refine⟨(if(if(3:Int)<ns.length then(3:Int)else ns.length)>1 then(if(3:Int)<ns.length then(3:Int)else ns.length)else 1).toNat,?_,?_⟩
  .split<;>split<;>lia
  .split<;>split<;>lia
 have rn:IK (n:Int)=true:=DB (by lia) (by lia)
 obtain⟨E',S',ef,q1,us,_,_,rfl⟩:=Ha (gs:=[]) (t:=tNm 1) (b:=ky)
  (I:=λrs E S'=>∃(o1:tY D) (us:En),(∀d∈rs,∃k:Nat,d=.int k)/\us.length=15/\E=[Gc (.scr ns),o1]++us)
  (λ_ _ _ _=>AZ) (ds:=K4 0 n) (E:=[Gc (.scr ns),none,none,none,none,none,none,none,none,none,none,none,none,none,none,none,none]) (S:=S)
  ⟨none,[none,none,none,none,none,none,none,none,none,none,none,none,none,none,none],by
    intro d hd
    obtain⟨k,_,rfl⟩:=um.mp hd
    exact⟨k,by simp⟩,rfl,rfl⟩ (by
    rintro dd rs E T ⟨o1,us,i1,i2,rfl⟩
    obtain⟨k,rfl⟩:=i1 dd uD
    obtain⟨us',T2,l2,e⟩:=jo (S:=T) (ns:=ns) (k:=k) i2
    exact⟨_,_,T2,by simp,e,Gc (.int k),us',λd hd=>i1 d (tf _ hd),l2,rfl⟩)
 refine⟨S',?_⟩
 have eb:YI=Ad (JI (My [eOp (o2 kX) [eC (.int 1),eOp (o2 gq) [eOp (o1 HN) [eV 0],eC (.int 3)]]]) (tNm 1) ky) (By (eC (.bl true))):=rfl
 unfold P7
 rw[eb]
 simp[hn,rn,ef]
end
end Mi
end
noncomputable section
namespace Mi
open PySem PySem.Spec L2
open PyProof.Rows (boot_isinstance boot_int boot_bool boot_tuple boot_str boot_list boot_abs boot_all boot_any boot_sum boot_max boot_min boot_range boot_enumerate boot_zip boot_sorted boot_set boot_divmod)
structure All(w:ur)(K:tU)(mg:Str->tY tW):Prop where
 bt:Bts mg
 Sn:Sk K mg "ALL" Wd
 Cs:Sk K mg "MAKERS" Bl
 EK:Sk K mg "NOTHING" E5
 GA:St.Src K mg "is_whole" GA
 Gn:St.Src K mg "is_from" Gn
 FO:St.Src K mg "is_within" FO
 CF:St.Src K mg "greatest_divisor" CF
 IE:St.Src K mg "lowest" IE
 Lc:St.Src K mg "plus" Lc
 Ky:St.Src K mg "less" Ky
 Jn:St.Src K mg "times" Jn
 Ji:St.Src K mg "mixed" Ji
 EM:St.Src K mg "is_partner" EM
 EF:St.Src K mg "has_pieces" EF
 F8:St.Src K mg "can_pool" F8
 F7:St.Src K mg "can_swap" F7
 FY:St.Src K mg "can_do" FY
 DN:St.Src K mg "held_without" DN
 De:St.Src K mg "held_behind" De
 Bo:St.Src K mg "held_at_first" Bo
 G8:St.Src K mg "held_by" G8
 Es:St.Src K mg "made_from" Es
 DV:St.Src K mg "first_wrong" DV
 C4:St.Src K mg "refuse_undone" C4
 Cp:St.Src K mg "many_loads" Cp
 CJ:St.Src K mg "refuse_no_number" CJ
 B2:St.Src K mg "refuse_no_partner" B2
 Cq:St.Src K mg "all_to_one" Cq
 CB:St.Src K mg "mixed_shares" CB
 Dk:St.Src K mg "made_shares" Dk
 CD:St.Src K mg "worth_of_all" CD
 Dj:St.Src K mg "part_thrown" Dj
 C2:St.Src K mg "thrown_shares" C2
 Ds:St.Src K mg "sold_shares" Ds
 C5:St.Src K mg "shares_behind" C5
 Bs:St.Src K mg "owners_behind" Bs
 Dm:St.Src K mg "state_by" Dm
 Cy:St.Src K mg "sums_by_kinds" Cy
 BL:St.Src K mg "theirs_told" BL
 FN:St.Src K mg "theirs_by" FN
 Bb:St.Src K mg "all_sources" Bb
 CO:St.Src K mg "all_origins" CO
 BO:St.Src K mg "come_home" BO
 CL:St.Src K mg "stock_by" CL
 FG:St.Src K mg "_law_cell_at" FG
 JS:St.Src K mg "_law_pen" JS
 II:St.Src K mg "_law_draw" II
 GG:St.Src K mg "_law_common" GG
 Hn:St.Src K mg "_law_made" Hn
 Hw:St.Src K mg "_law_plus" Hw
 Gm:St.Src K mg "_law_times" Gm
 ID:St.Src K mg "_law_less" ID
 Jh:St.Src K mg "_law_sum" Jh
 DC:St.Src K mg "_law_whole" DC
 F2:St.Src K mg "_law_pieces" F2
 G7:St.Src K mg "_law_train" G7
 Gk:St.Src K mg "_law_first" Gk
 Gz:St.Src K mg "_law_share" Gz
 DY:St.Src K mg "_law_worths" DY
 EY:St.Src K mg "_law_begun" EY
 Fv:St.Src K mg "_law_pooled" Fv
 FZ:St.Src K mg "_law_cost" FZ
 Gs:St.Src K mg "_law_borne" Gs
 IF:St.Src K mg "_law_sold" IF
 IG:St.Src K mg "_law_turn" IG
 IM:St.Src K mg "_law_do" IM
 Cw:St.Src K mg "_law_deed" Cw
 FT:St.Src K mg "_law_book" FT
 Ci:St.Src K mg "_law_states" Ci
 C9:St.Src K mg "_law_origins" C9
 EZ:St.Src K mg "_law_roots" EZ
 EA:St.Src K mg "law" EA
section
variable{P:uT}{w:ur}{K:tU}{mg:Str->tY tW}{base:uz}
theorem aS{f:uC}{fd:wX}(F:Fun K "law" "law" EA f fd)(B:Bts mg)(Ez:LN P w K mg base)(FL:LW P w K mg base)(Fq:Me P w K mg base)(FH:Kv P w K mg base)(JL:Rv P w K mg base)(Al:Fd P w K mg base)(G9:R9 P w K mg base)(Hl:Pk P w K mg base)(F5:Mc P w K mg base)(FF:Ll P w K mg base)(Fg:Na P w K mg base):Rm P w K mg base CX0 11 f fd ["_law_script"] (spD K 1 P7):=by
 refine iq (k:=10) F CV rfl λcdv A outer s H E hr=>?_
 have hu:=X7 hr
 exact(AG (Dt ug rfl (EX rfl B.range (AA (Av (X2 rfl) rfl B.max boot_max (AA AF (AA (Av (R4 rfl) rfl B.min boot_min (AA (Av BW rfl B.len v9 (AA (AB 0) AE)) (AA AF AE))) AE))) AE)) (Ab 1 CV.nd) (AG (Aj 2 (deM JL hr (AA (deM FH hr (AA (AB 0) (AA (AB 1) AE))) AE)) CV.nd)
      (AG (Aj 3 (deM Hl hr (AA (AB 2) (AA AF AE))) CV.nd)
      (AG (JW (i:=4) (j:=5) rfl CV.nd rfl rfl (by decide) rfl rfl (AJ AW (AB 3) AF) (Av BW rfl B.len v9 (AA (AJ AW (AB 3) AF) AE)))
      (AG (GU (A8 (AA (AJ AW (AJ AW (deM F5 hr (AA (AB 3) AE)) (AB 5)) AF) (AA (deM FF hr (AA (AB 3) AE)) AE))) (Dw rfl (AN (Ab 6 CV.nd) (AN (Ab 7 CV.nd) BI))))
      (AG (Aj 8 (CI AE) CV.nd)
      (AG (Dt ug rfl (B9 (nJ rfl rfl B.sorted (AA (deM Fg hr (AA (AB 3) AE)) AE))) (Ab 9 CV.nd) (AG (Aj 10 (CI AE) CV.nd)
      (AG (Dt ug rfl (EX rfl B.range (AA (AJ AW (AB 4) AF) AE)) (Ab 11 CV.nd) (AG (Dv [7,9,11] 2 ["_law_shares","_law_root","_law_kind","_law_at","_law_load"] rfl CV.nd rfl rfl Vm (Oe rfl B.enumerate (AB 6)) (λs H fp=>⟨Dw rfl (AN (Ab 3 Px) (AN (Ab 4 Px) BI)),HA (Am (Bu hu) (AJ AW (AB 4) AF) (AB 2)),A8 (AA (AJ AW (AB 4) AF) (AA (XE hu (AJ AW (AB 0) (AB 3)) (AB 1) (A8 (AA AF (AA AF AE))) ⟨rfl,rfl,rfl,rfl⟩) AE))⟩))
      (AI (B3 (GR ue uf EU (AB 10) (AA (deM G9 hr (AA (Bj [] 2 ["_law_pieces_here","_law_share_here"] rfl VU (B9 (AB 12)) (λs H fp=>⟨Dw rfl (AN (Ab 0 PH) (AN (Ab 1 PH) BI)),B4,deM Al hr (AA (A8 (AA (AB 0) (AA AF AE))) (AA (AB 1) AE))⟩)) AE)) AE))))))
      (AI (B3 (GR ue uf EU (AB 8) (AA (A8 (AA (AB 9) (AA (Aw Ay rfl B.tuple va (AA (AB 10) AE)) AE))) AE)))))))
      (AG (CW (Am (Lb hu) (deM FL hr (AA (AB 3) AE)) (AB 8)) (AI (AX Wk)) BA)
      (AG (Dt ug rfl (Oe rfl B.enumerate (deM Fq hr (AA (AB 3) (AA (AB 5) AE)))) (Dw rfl (AN (Ab 11 CV.nd) (AN (Ab 13 CV.nd) BI))) (AI (CW (Am (Lb hu) (deM G9 hr (AA (Bj [11] 2 ["_law_kind","_law_root","_law_parts"] rfl Vs (B9 (AB 8)) (λs H fp=>⟨Dw rfl (AN (Ab 1 Pu) (AN (Ab 2 Pu) BI)),B4,AJ AW (AB 2) (AB 0)⟩)) AE)) (A8 (AA (AB 13) (AA AF AE)))) (AI (AX Wk)) BA)))
      (AI (CW (Am (Bu hu) (Bj [] 1 ["_law_deed_here"] rfl Vl (B9 (AJ AW (AB 3) AF)) (λs H fp=>⟨Ab 0 Vp,HA (Am Io (AJ AW (AB 0) AF) (A8 (AA BH (AA BH AE)))),AB 0⟩)) (CI AE)) (AG (Aj 14 (deM Fg hr (AA (AB 3) AE)) CV.nd)
      (AI (Dt ug rfl (EX rfl B.range (AA (AJ AW (AB 4) AF) AE)) (Ab 15 CV.nd) (AI (Dt ug rfl (Oe rfl B.enumerate (deM Ez hr (AA (AB 3) (AA (AB 5) (AA (AB 15) AE))))) (Dw rfl (AN (Ab 11 CV.nd) (AN (Ab 16 CV.nd) BI))) (AI (CW (Am (Lb hu) (deM G9 hr (AA (Bj [11,14,15] 2 ["_law_kind","_law_whose","_law_partner","_law_root","_law_parts"] rfl VW (B9 (AB 8)) (λs H fp=>⟨Dw rfl (AN (Ab 3 PV) (AN (Ab 4 PV) BI)),B4,deM Al hr (AA (AJ AW (AB 4) (AB 0)) (AA (AJ AW (nP hu (AB 1) (AB 3)) (AB 2)) AE))⟩)) AE)) (AB 16)) (AI (AX Wk)) BA))))))) BA)))))))))))
      (AI (AX Wk)))
theorem jJ{f:uC}{fd:wX}(F:Fun K "law" "law" EA f fd)(T:All w K mg):Rm P w K mg base CX0 11 f fd ["_law_script"] (spD K 1 P7):=by
 have B:=T.bt
 have Sn:=T.Sn
 have Cs:=T.Cs
 have EK:=T.EK
 have Fw:=Fw (P:=P) (w:=w) (base:=base) T.GA B
 have G6:=G6 (P:=P) (w:=w) (base:=base) T.Gn Fw
 have Cd:=Cd (P:=P) (w:=w) (base:=base) T.FO G6
 have CG:=CG (P:=P) (w:=w) (base:=base) T.CF B
 have BQ:=BQ (P:=P) (w:=w) (base:=base) T.IE CG
 have HM:=HM (P:=P) (w:=w) (base:=base) T.Lc BQ
 have Lg:=Lg (P:=P) (w:=w) (base:=base) T.Ky BQ
 have Ft:=Ft (P:=P) (w:=w) (base:=base) T.Jn BQ
 have Js:=Js (P:=P) (w:=w) (base:=base) T.Ji BQ
 have EE:=EE (P:=P) (w:=w) (base:=base) T.EM Cd
 have BG:=BG (P:=P) (w:=w) (base:=base) T.EF B
 have F0:=F0 (P:=P) (w:=w) (base:=base) T.F8 BG
 have Ec:=Ec (P:=P) (w:=w) (base:=base) T.F7 BG
 have Hz:=Hz (P:=P) (w:=w) (base:=base) T.FY BG F0 Ec
 have Bf:=Bf (P:=P) (w:=w) (base:=base) T.DN
 have Aq:=Aq (P:=P) (w:=w) (base:=base) T.De Bf
 have Ai:=Ai (P:=P) (w:=w) (base:=base) T.Bo
 have Dh:=Dh (P:=P) (w:=w) (base:=base) T.G8 Aq Ai
 have Cf:=Cf (P:=P) (w:=w) (base:=base) T.Es B
 have DR:=DR (P:=P) (w:=w) (base:=base) T.DV B Hz Aq Ai
 have A1:=A1 (P:=P) (w:=w) (base:=base) T.C4 DR
 have EH:=EH (P:=P) (w:=w) (base:=base) T.Cp B Cs
 have A9:=A9 (P:=P) (w:=w) (base:=base) T.CJ B Cd
 have B5:=B5 (P:=P) (w:=w) (base:=base) T.B2 EE
 have Bw:=Bw (P:=P) (w:=w) (base:=base) T.Cq B Sn EK
 have Bh:=Bh (P:=P) (w:=w) (base:=base) T.CB B Js
 have B1:=B1 (P:=P) (w:=w) (base:=base) T.Dk B Cf Bh
 have DM:=DM (P:=P) (w:=w) (base:=base) T.CD B
 have Dd:=Dd (P:=P) (w:=w) (base:=base) T.Dj BQ DM
 have C6:=C6 (P:=P) (w:=w) (base:=base) T.C2 Bh Dd
 have DX:=DX (P:=P) (w:=w) (base:=base) T.Ds B HM Lg Ft
 have BU:=BU (P:=P) (w:=w) (base:=base) T.C5 C6 DX
 have Cv:=Cv (P:=P) (w:=w) (base:=base) T.Bs Cs Bw B1 BU
 have F4:=F4 (P:=P) (w:=w) (base:=base) T.Dm Aq Ai BU Cv
 have BR:=BR (P:=P) (w:=w) (base:=base) T.Cy B EK HM Ft
 have Dq:=Dq (P:=P) (w:=w) (base:=base) T.BL B F4 BR
 have Ez:=Ez (P:=P) (w:=w) (base:=base) T.FN A1 A9 B5 Dq
 have Dc:=Dc (P:=P) (w:=w) (base:=base) T.Bb Cs Cf
 have Dg:=Dg (P:=P) (w:=w) (base:=base) T.CO B Cs Aq Ai EH Bw B1
 have FL:=FL (P:=P) (w:=w) (base:=base) T.BO B Dh A1 BR Dc Dg
 have Fq:=Fq (P:=P) (w:=w) (base:=base) T.CL B Dh A1 A9
 have FH:=FH (P:=P) (w:=w) (base:=base) T.FG B
 have JL:=JL (P:=P) (w:=w) (base:=base) T.JS B
 have AQ:=AQ (P:=P) (w:=w) (base:=base) T.II
 have Fy:=Fy (P:=P) (w:=w) (base:=base) T.GG
 have A3:=A3 (P:=P) (w:=w) (base:=base) T.Hn B Fy
 have BE:=BE (P:=P) (w:=w) (base:=base) T.Hw A3
 have Al:=Al (P:=P) (w:=w) (base:=base) T.Gm A3
 have Ej:=Ej (P:=P) (w:=w) (base:=base) T.ID BE
 have G9:=G9 (P:=P) (w:=w) (base:=base) T.Jh BE
 have Dr:=Dr (P:=P) (w:=w) (base:=base) T.DC B AQ A3
 have CM:=CM (P:=P) (w:=w) (base:=base) T.F2 AQ
 have Gv:=Gv (P:=P) (w:=w) (base:=base) T.G7 AQ Dr
 have HB:=HB (P:=P) (w:=w) (base:=base) T.Gk B AQ Dr CM
 have HC:=HC (P:=P) (w:=w) (base:=base) T.Gz AQ A3
 have F1:=F1 (P:=P) (w:=w) (base:=base) T.DY B AQ
 have CQ:=CQ (P:=P) (w:=w) (base:=base) T.EY B
 have F6:=F6 (P:=P) (w:=w) (base:=base) T.Fv B A3 BE Al
 have IH:=IH (P:=P) (w:=w) (base:=base) T.FZ B A3
 have Fj:=Fj (P:=P) (w:=w) (base:=base) T.Gs B BE Al Ej
 have Gb:=Gb (P:=P) (w:=w) (base:=base) T.IF B BE Al Ej
 have Hg:=Hg (P:=P) (w:=w) (base:=base) T.IG IH Fj Gb
 have FJ:=FJ (P:=P) (w:=w) (base:=base) T.IM B F6 Hg
 have Hs:=Hs (P:=P) (w:=w) (base:=base) T.Cw B AQ CM HC F1
 have Hl:=Hl (P:=P) (w:=w) (base:=base) T.FT B AQ Gv HB CQ FJ Hs
 have F5:=F5 (P:=P) (w:=w) (base:=base) T.Ci B CQ FJ
 have FF:=FF (P:=P) (w:=w) (base:=base) T.C9 B A3 BE Al CQ FJ
 have Fg:=Fg (P:=P) (w:=w) (base:=base) T.EZ B
 exact aS (P:=P) (w:=w) (base:=base) F B Ez FL Fq FH JL Al G9 Hl F5 FF Fg
theorem hU{l:zB}{fa:uC}(hfa:mg "law"=Gc (.ref fa))(T:All w K mg):∃fd:wX,(∀(s:tZ) (v:tW),BindsTo s fd ⟨[v],[]⟩ [("_law_script",v)])/\∀base:uz,K.In base->base.Ns mainGlobals mg->Rm l.prog w K mg base CX0 11 fa fd ["_law_script"] (eL K):=by
 obtain⟨f,fd,F,hm⟩:=T.EA.ex
 have e:=hfa.symm.trans hm
 cases e
 refine⟨fd,λs v=>?_,λbase _ _=>?_⟩
 .obtain⟨oc,od,kV,doc,pm,an,cdv,ct,osl,hfd,_⟩:=F.ex
  subst hfd
  exact .of_eq rfl
 .exact hJ (jJ (P:=l.prog) (w:=w) (base:=base) F T) λns hl=>iZ ns hl
end
theorem walk{l:zB}{q:uT}{loose:KE Str}{XP:(Str->tY tW)->uz->Prop}{YP:ur->uz->Prop}{d:DefRec}{K:Params->tU}(hn:l.most=Gc 63)(hdf:d.params.defaults=[])(hY:∀(w:ur) (h:uz),YP w h->(K w.params).In h)(hd:d.name="law")(F:∀(w:ur) (mg:Str->tY tW) (h:uz),(K w.params).In h->h.Ns mainGlobals mg->All w (K w.params) mg):PySem.W.WalkO q loose XP YP l.row.toRowW d [] (λf vs=>PySem.call f vs):=
 L2.du (n:=63) (k:=11) (x:="_law_script") (CX:=λ_=>CX0) (sp:=λw=>eL (K w.params)) hn (by decide) hdf ⟨rfl,by decide,by decide⟩ hY (λw mg fa h KX G hmg=>hU (by rw[<-hd];exact hmg) (F w mg h KX G)) (λ_ _ a ns hl _ hS=>⟨a,ns,rfl,hS,hl,λ_=>rfl⟩) λ_ _ _ _ _ z=>z
end Mi
end
noncomputable section
namespace PySem.W.Fast
def tw1101695652992836448:=0
def tw4422083126582413474:=0
def tw8741334748989102064:=0
def tw17089018339683914887:=0
def tw17693262146985404675:=0
def tw4321041490146670570:=0
def tw16796016682002846708:=0
def tw11737051823847346933:=0
def tw1516390462966730337:=0
def tw6218063200979282586:=0
def tw2336090003793334840:=0
def tw2204329968978305733:=0
def tw11654746757778159727:=0
def tw10620406507914780747:=0
def tw3527977094726672631:=0
def tw17529636064988834019:=0
def tw13321408979622053448:=0
def tw16330292035300961060:=0
def tw584416375038039541:=0
def tw9990171711541517356:=0
def tw11239843278780058820:=0
def tw11608338892574970646:=0
def tw3519633492479837359:=0
def tw2846510455272285417:=0
def tw7230303641082961328:=0
def tw11470139982888651546:=0
def tw11049733090355301843:=0
def tw8851647970074117685:=0
def tw1807451345202067988:=0
def tw143841757153443723:=0
def tw13725418447998199078:=0
def tw7831507895928645459:=0
def tw2521177462061448600:=0
def tw8206518187503975088:=0
def tw16908844221229983906:=0
def tw16032905679291469460:=0
def tw6320023517551098530:=0
def tw4768435246707546770:=0
def tw17445822429476817014:=0
def tw33152126745367051:=0
def tw18398114081726582012:=0
def tw793258139455904668:=0
def tw3240037860587449725:=0
def tw11305758291578171934:=0
def tw5349036920176589950:=0
def tw1087646938332201472:=0
def tw8008576398133049057:=0
def tw913459880070924661:=0
def tw3007059622348252348:=0
def tw9327218336740787717:=0
def tw8980562891485652126:=0
def tw3314337730574777537:=0
def tw1385505561244691170:=0
def tw16668942202383147228:=0
def tw2338514577555511439:=0
def tw14874660242463245962:=0
def tw13114558468397488925:=0
def tw14683339557151504511:=0
def tw15597633174795032098:=0
def tw12177547651880332456:=0
def tw8387477308536684997:=0
def tw14468250565354190709:=0
def tw1904948317713085917:=0
def tw6906023500326443177:=0
def tw17619571717666242051:=0
def tw3738330466238097575:=0
def tw1324213785141271521:=0
def tw12837778785625324220:=0
def tw3587112894258368614:=0
def tw10327745411018293755:=0
def tw13159619806742956540:=0
def tw12659982808388074022:=0
def tw16736254265771568774:=0
def tw14420962503377770790:=0
def tw15895058165515873438:=0
def tw12222277404555419616:=0
def tw8722950077491424145:=0
def tw16684544875909009747:=0
def tw6238989797761060949:=0
def tw17062415659492959089:=0
def tw8861795868631363978:=0
def tw12418913416639142861:=0
def tw8067659959871580296:=0
def tw744456199198966274:=0
def tw9548875086708354775:=0
def tw13456012832343647574:=0
def tw5126191661852609959:=0
def tw4865500069140455841:=0
def tw4681752574731768289:=0
def tw7846117479459934878:=0
def tw12288839923695353276:=0
def tw10711567804497596600:=0
def tw12574524346503414468:=0
def tw17191562801176167564:=0
def tw15551919689045520444:=0
def tw86767275023605417:=0
def tw5773227206585265204:=0
def tw3383934489219012299:=0
def tw2301918023547996517:=0
def tw13990477303528334178:=0
def tw15457870954518481367:=0
def tw10957790359133019595:=0
def tw13766375580374190962:=0
def tw15151309990813626613:=0
def tw15164948702689720245:=0
def tw4488337233066850359:=0
def tw9787952326672104617:=0
def tw2684289356994990566:=0
def tw11343335253939691447:=0
def tw8716316988776704311:=0
def tw7172824226187728118:=0
def tw513714449626302447:=0
def tw17393496364683664134:=0
def tw4254242620802557737:=0
def tw14977281152568946342:=0
def tw2964305406940035358:=0
def tw15953203757138851029:=0
def tw11362150551297570670:=0
def tw17002300483929409405:=0
def tw17841828486344579865:=0
def tw2348505788926834751:=0
def tw4394477217627915950:=0
def tw2657683129397899237:=0
def tw14128028360434146645:=0
def tw2120887184469947944:=0
def tw11962859807886382738:=0
def tw12295534876824649144:=0
def tw9330539331304346126:=0
def tw5617081399533109783:=0
def tw13767262237466319058:=0
def tw12481890093951178036:=0
def tw14155246470383298470:=0
def tw8801172341513885220:=0
def tw4800628436717913582:=0
def tw8057646189290058468:=0
def tw12671152470606968898:=0
def tw16382728998835094746:=0
def tw12545573408671355231:=0
def tw6826509673284439652:=0
def tw13360461437184945855:=0
def tw10664421503753044495:=0
def tw10685221997419396368:=0
def tw9637692288376209680:=0
def tw2062136110871130447:=0
def tw1093909557093764788:=0
def tw1134215949810031811:=0
def tw17321285340405431754:=0
def tw15186025529977532420:=0
def tw11965683497295058978:=0
def tw3020527940848112881:=0
def tw11508653851884001885:=0
def tw17673544482437125699:=0
def tw1913217449519267726:=0
def tw11539865042050032727:=0
def tw16856449229685839783:=0
def tw3726384141883019566:=0
def tw10413337738219129996:=0
def tw4246742669803103547:=0
def tw8631940436241432512:=0
def tw8937802097843862219:=0
def tw5565672092137789667:=0
def tw11988134608421674540:=0
def tw1105698540412844594:=0
def tw608808662024587495:=0
def tw10732590449942390822:=0
def tw3152699267862393143:=0
def tw15840649611645188876:=0
def tw15398004498365796714:=0
def tw11071574948219010815:=0
def tw7217242751019850197:=0
def tw11150980077581419474:=0
def tw3417020647380108835:=0
def tw1517103367639767116:=0
def tw7187092767203859004:=0
def tw17762828279247477144:=0
def tw6508289287154199966:=0
def tw10330700355295201745:=0
def tw5563485508678715560:=0
def tw3150163795279838545:=0
def tw10175729698162585870:=0
def tw4206657132000809726:=0
def tw8200695141531337083:=0
def tw17880731756682645540:=0
def tw1256920959232411097:=0
def tw17000194323126046355:=0
def tw3638436073348761360:=0
def tw4544106448701096112:=0
def tw3017706982394655569:=0
def tw7275174787883177702:=0
def tw8916534621241398460:=0
def tw15596437706516192342:=0
def tw6970534770866033178:=0
def tw16588198687239601010:=0
def tw628070200325747788:=0
def tw14727108395640521167:=0
def tw11413597912943543535:=0
def tw14090082909220022642:=0
def tw9225400266336901071:=0
def tw13047767669677593225:=0
def tw12912616490344078185:=0
def tw17780824933907111239:=0
def tw8059260303600131668:=0
def tw1902230761338635564:=0
def tw8125263511011304940:=0
def tw7552136797637434937:=0
def tw14987081758191187264:=0
def tw17079613247501879922:=0
def tw12361000272484228382:=0
def tw17147013143879894281:=0
def tw14949613728189403054:=0
def tw8587874529852302161:=0
def tw8766733268834549966:=0
def tw4712218829949183333:=0
def tw13471320343637046124:=0
def tw5153672499604005463:=0
def tw14642192181463941171:=0
def tw15630445921857300634:=0
def tw8221002264629573677:=0
def tw14097441620625321301:=0
def tw2534187255918386137:=0
def tw16246770497149462630:=0
def tw14403319278107771923:=0
def tw16116652239100147581:=0
def tw4833256549857424608:=0
def tw11684414741123748553:=0
def tw5500235778483252552:=0
def tw1643980233318183303:=0
def tw15644525831590726946:=0
def tw11884610612510179600:=0
def tw16066010031020120888:=0
def tw4599931933634178045:=0
def tw6558822878037105564:=0
def tw16771123083107265868:=0
def tw10649916367462690275:=0
def tw18387991789432817606:=0
def tw11242163487765420389:=0
def tw1264559279081808899:=0
def tw15918072679909331248:=0
def tw5413030781860401881:=0
def tw9944684564823793950:=0
def tw10997519353110772433:=0
def tw9400300618754061337:=0
def tw8300882646064243823:=0
def tw14573506839481405887:=0
def tw16001397797691193683:=0
def tw6826203312557803650:=0
def tw4305900827996725175:=0
def tw15450881717348073659:=0
def tw1747189728008476704:=0
def tw9947122501805404945:=0
def tw12543549660124558594:=0
def tw5677416526522139936:=0
def tw17174854784122089196:=0
def tw15203135863583419845:=0
def tw9147307401561590113:=0
def tw16116625596288523936:=0
def tw9762331032343657465:=0
def tw3553744998410359620:=0
def tw6654065400063330148:=0
def tw7237704746996231430:=0
def tw11349125656567164080:=0
def tw12165603751583789191:=0
def tw477449459897581081:=0
def tw14119064448791781488:=0
def tw10806067104888369078:=0
def tw1748900710962664532:=0
def tw8557639208876306342:=0
def tw2455432296985959921:=0
def tw16288220743931584070:=0
def tw13533127730722323784:=0
def tw7219752615097381600:=0
def tw7126737315128358330:=0
def tw6530797143826041067:=0
def tw10311835810278755102:=0
def tw2017100798769300853:=0
def tw8210828987668872939:=0
def tw5956436303513816683:=0
def tw1792225630380912348:=0
def tw15869700347752110294:=0
def tw6636198494329687656:=0
def tw3846239827287378753:=0
def tw13401486662730985607:=0
def tw4837707077250551099:=0
def tw6330177710548114741:=0
def tw11678764925119122021:=0
def tw14161583766921082647:=0
def tw17199942842869882433:=0
def tw18336438620765838919:=0
def tw2261968621863082529:=0
def tw4495612752226891680:=0
def tw5334377039450943092:=0
def tw4615877311451516233:=0
def tw10997157099010371671:=0
def tw5423770735500891356:=0
def tw2112862934334494477:=0
def tw11116573202573994516:=0
def tw10143906778980242218:=0
def tw17931451898154792074:=0
def tw1512316435201726127:=0
def tw14134052873342447082:=0
def tw14707788509685351216:=0
def tw6661669521639391155:=0
def tw5987297716892708919:=0
def tw11763304908941257125:=0
def tw17630726464897782655:=0
def tw17836814740903984703:=0
def tw9142070068440228311:=0
def tw8603799592232193292:=0
def tw14400484898929619705:=0
def tw15617341386162726506:=0
def tw5716176493293260095:=0
def tw12101665075290470363:=0
def tw13344457216024690864:=0
def tw14988800403217384503:=0
def tw5147441946103635888:=0
def tw4609593457099852054:=0
def tw7250554966232083232:=0
def tw6513460764150396987:=0
def tw6178382623947421134:=0
def tw11901813878172773247:=0
def tw13150569830543394848:=0
def tw5731818386555641622:=0
def tw10158000038119009890:=0
def tw10676315227136036514:=0
def tw14523594334374078168:=0
def tw6254224691336526934:=0
def tw12828098953986905146:=0
def tw17654016945138325105:=0
def tw3041817663058179780:=0
def tw7433686604789308498:=0
def tw16493117400873377583:=0
def tw8471076513741965569:=0
def tw14281602623603573962:=0
def tw13052153643507896570:=0
def tw10394622553801753131:=0
def tw18131113807147195287:=0
def tw16923888781074976483:=0
def tw3029469137965827642:=0
def tw156268875684726938:=0
def tw2355794911017283175:=0
def tw9924145758276106053:=0
def tw812853741436783258:=0
def tw10333153901023462414:=0
def tw12745047045845224841:=0
def tw10658080008572722877:=0
def tw5268684682136358540:=0
def tw8651818694480299743:=0
def tw11445925843123606635:=0
def tw16532204664477554763:=0
def tw9527612660140278253:=0
def tw1550171514121225376:=0
def tw10718128844708597190:=0
def tw12623705040453525813:=0
def tw12011891522275431130:=0
def tw3529124516906858508:=0
def tw5435096245581678974:=0
def tw4255020092875126328:=0
def tw13714335978630642491:=0
def tw17983426070535294834:=0
def tw3617341304311506518:=0
def tw2626002438861159689:=0
def tw4920311425554143520:=0
def tw9383058203282870283:=0
def tw2957797410320842513:=0
def tw7874433200250812610:=0
def tw3810306381194008351:=0
def tw774645299265689569:=0
def tw1669229305432127093:=0
def tw5334693754049791280:=0
def tw17253001779630203326:=0
def tw4814949659204427394:=0
def tw13278528350678800776:=0
def tw17545808077561926561:=0
def tw2128912545528540371:=0
def tw16861485764808884559:=0
def tw331640604111887086:=0
def tw3408806332730536939:=0
def tw2864717932493761064:=0
def tw14491830415600569025:=0
def tw12607339951955724328:=0
def tw8200707797025511440:=0
def tw14432890471562813398:=0
def tw9686139076560327668:=0
def tw10771756404863206447:=0
def tw6248927138999921836:=0
def tw12018520065012774742:=0
def tw13437370599123360785:=0
def tw11118693141364010956:=0
def tw6218928816141059507:=0
def tw9101973488066375832:=0
def tw8781642424527729306:=0
def tw1114823700013703188:=0
def tw9650088409775703719:=0
def tw17902814644418974143:=0
def tw16961590755020802039:=0
def tw7619306184958405481:=0
def tw1445471055920598890:=0
def tw1107761444128374738:=0
def tw8668096198321401547:=0
def tw119705037720880873:=0
def tw16835873562164370313:=0
def tw18134845862762519351:=0
def tw17268598798246077073:=0
def tw11715848293974052567:=0
def tw16544435539294587502:=0
def tw8882640933957951510:=0
def tw16672260218241879776:=0
def tw10423069199056172490:=0
def tw8446848033192881952:=0
def tw3156778214508812491:=0
def tw17790225229774770722:=0
def tw13971346629124172142:=0
def tw2891040991144934312:=0
def tw6103075937546314984:=0
def tw14655783927568075194:=0
def tw7523809089647503087:=0
def tw16821160566283830347:=0
def tw17500286702620639042:=0
def tw13490626205029348200:=0
def tw13446855761797556215:=0
def tw4006466099222894489:=0
def tw12439265216493717400:=0
def tw11206992514323690423:=0
def tw3733876427860162059:=0
def tw16046433584658382483:=0
def tw8501642991610102292:=0
def tw13661932081673137315:=0
def tw14414341997168265291:=0
def tw16233416204986988956:=0
def tw18153708409612629173:=0
def tw5686576561791684366:=0
def tw17615928374913271837:=0
def tw7464148641575576562:=0
def tw5515813034304135058:=0
def tw10680786035823207978:=0
def tw7051192617859856228:=0
def tw10492595089268717855:=0
def tw17557265096569308534:=0
def tw14245552659050339319:=0
def tw13098690864795563535:=0
def tw9719697411712911085:=0
def tw15189555020772262421:=0
def tw16579952990945991486:=0
def tw3277091467344322746:=0
def tw5858878961160184455:=0
def tw5040055973028239466:=0
def tw2559457275221090161:=0
def tw15994888061863846690:=0
def tw88124302814050187:=0
def tw35892325567006221:=0
def tw14460713085740196173:=0
def tw17508209096234741881:=0
def tw10961841773184205191:=0
def tw7305861709453408669:=0
def tw9517601875851033091:=0
def tw3205417521945235120:=0
def tw13767887278129044599:=0
def tw18249647844684703786:=0
def tw5674729217719064533:=0
def tw17474532478678949616:=0
def tw17934681199314903926:=0
def tw12184483441844447062:=0
def tw13360889355171412912:=0
def tw10679195842046815476:=0
def tw18100608279851545862:=0
def tw13358666616610141921:=0
def tw17146735375674148961:=0
def tw15227069569259449812:=0
def tw4874783627116036397:=0
def tw9379961397898799580:=0
def tw16165704517504022749:=0
def tw1548160795568039121:=0
def tw12353426166173340276:=0
def tw13107923123132575547:=0
def tw8020561536628650007:=0
def tw6013345664740012717:=0
end PySem.W.Fast
open PySem PySem.W PyProof.Rows
set_option maxRecDepth 100000 in
set_option maxHeartbeats 0 in
theorem PySem.Challenge.cw_sharetrail_k29_whole_pieces_and_their_ro_holds : PySem.Challenge.rw_sharetrail_k29_whole_pieces_and_their_ro.Holds := by
 w_on;o_law;k_head;(case hw=>w_witness2)
 k_fill
 refine Mi.walk (l:=PySem.Challenge.rw_sharetrail_k29_whole_pieces_and_their_ro) rfl rfl (λw h Y=>PySem.W.kIn_of Y) rfl ?F
 case F=>
  intro w mg h KX G
  have Sn:Mi.Sk (L2.KOf KX) mg "ALL" Mi.Wd:=by
   dsimp only[L2.KOf]
   refine' Mi.X8 KX G ?e ?r
   (case e=>k_is)
   case r=>
    refine' Mi.TY ?l ?z ?r
    (case l=>k_is)
    (case z=>decide)
    case r=>
     refine' Paired.cons ?_ ?_
     .exact Mi.Q3
     refine' Paired.cons ?_ ?_
     .exact Mi.Q3
     exact Paired.nil
  have Cs:Mi.Sk (L2.KOf KX) mg "MAKERS" Mi.Bl:=by
   dsimp only[L2.KOf]
   refine' Mi.X8 KX G ?e ?r
   (case e=>k_is)
   case r=>
    refine' Mi.TY ?l ?z ?r
    (case l=>k_is)
    (case z=>decide)
    case r=>
     refine' Paired.cons ?_ ?_
     .exact Mi.QP
     refine' Paired.cons ?_ ?_
     .exact Mi.QP
     refine' Paired.cons ?_ ?_
     .exact Mi.QP
     refine' Paired.cons ?_ ?_
     .exact Mi.QP
     exact Paired.nil
  have EK:Mi.Sk (L2.KOf KX) mg "NOTHING" Mi.E5:=by
   dsimp only[L2.KOf]
   refine' Mi.X8 KX G ?e ?r
   (case e=>k_is)
   case r=>
    refine' Mi.TY ?l ?z ?r
    (case l=>k_is)
    (case z=>decide)
    case r=>
     refine' Paired.cons ?_ ?_
     .exact Mi.Q3
     refine' Paired.cons ?_ ?_
     .exact Mi.Q3
     exact Paired.nil
  have z_abs:mg "abs"=none:=by
   refine' PySem.W.mg_none_of KX G ?z
   (case z=>k_is)
  have z_bool:mg "bool"=none:=by
   refine' PySem.W.mg_none_of KX G ?z
   (case z=>k_is)
  have z_dict:mg "dict"=none:=by
   refine' PySem.W.mg_none_of KX G ?z
   (case z=>k_is)
  have z_enumerate:mg "enumerate"=none:=by
   refine' PySem.W.mg_none_of KX G ?z
   (case z=>k_is)
  have z_int:mg "int"=none:=by
   refine' PySem.W.mg_none_of KX G ?z
   (case z=>k_is)
  have z_isinstance:mg "isinstance"=none:=by
   refine' PySem.W.mg_none_of KX G ?z
   (case z=>k_is)
  have z_len:mg "len"=none:=by
   refine' PySem.W.mg_none_of KX G ?z
   (case z=>k_is)
  have z_list:mg "list"=none:=by
   refine' PySem.W.mg_none_of KX G ?z
   (case z=>k_is)
  have z_max:mg "max"=none:=by
   refine' PySem.W.mg_none_of KX G ?z
   (case z=>k_is)
  have z_min:mg "min"=none:=by
   refine' PySem.W.mg_none_of KX G ?z
   (case z=>k_is)
  have z_range:mg "range"=none:=by
   refine' PySem.W.mg_none_of KX G ?z
   (case z=>k_is)
  have z_set:mg "set"=none:=by
   refine' PySem.W.mg_none_of KX G ?z
   (case z=>k_is)
  have z_sorted:mg "sorted"=none:=by
   refine' PySem.W.mg_none_of KX G ?z
   (case z=>k_is)
  have z_sum:mg "sum"=none:=by
   refine' PySem.W.mg_none_of KX G ?z
   (case z=>k_is)
  have z_tuple:mg "tuple"=none:=by
   refine' PySem.W.mg_none_of KX G ?z
   (case z=>k_is)
  have z_zip:mg "zip"=none:=by
   refine' PySem.W.mg_none_of KX G ?z
   (case z=>k_is)
  refine⟨⟨z_abs,z_bool,z_dict,z_enumerate,z_int,z_isinstance,z_len,z_list,z_max,z_min,z_range,z_set,z_sorted,z_sum,z_tuple,z_zip⟩,Sn,Cs,EK,?_,?_,?_,?_,?_,?_,?_,?_,?_,?_,?_,?_,?_,?_,?_,?_,?_,?_,?_,?_,?_,?_,?_,?_,?_,?_,?_,?_,?_,?_,?_,?_,?_,?_,?_,?_,?_,?_,?_,?_,?_,?_,?_,?_,?_,?_,?_,?_,?_,?_,?_,?_,?_,?_,?_,?_,?_,?_,?_,?_,?_,?_,?_,?_,?_,?_,?_,?_,?_⟩
  all_goals (refine' Mi.iI KX G ?a ?l ?c ?k;(case a=>k_is);(case l=>k_is);(case c=>k_is);(case k=>k_is))
end
