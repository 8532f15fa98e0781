import PyProof.Rows.All
import Wide.All
import OpenK.AllK
import Wide.FinOn
import Lean
import PyProof.EqAt
import PyProof.EqKinds
import PyProof.TupleCall
import PyProof.Draws
import PyProof.EnumMake
import PyProof.EnumFor
import PyProof.ZipIter
import PyProof.ListMulRoad
import PyProof.NeData
import PyProof.SumWalkG
import KE.KSortedM
import PyProof.ListRange
import PyProof.FactsAll.subtypes_4
import PySem.Challenge.RW_sharetrail_k59_whole_home_and_on
set_option Elab.async false
set_option linter.all false
set_option maxRecDepth 100000
set_option maxHeartbeats 4000000
set_option exponentiation.threshold 10000
set_option compiler.extract_closed false
open _root_ renaming List->Wp,Option->uM,of_decide_eq_true->uc,if_pos->vF,if_neg->vL,Bool->va,or_false->vy,decide_eq_true_eq->wD,False->wq,beq_eq_false_iff_ne->xD,decide_eq_true->xM,beq_iff_eq->xN,decide_eq_false->yD,String->yJ,Array->zE,if_true->zT,True->ze,if_false->AAd,beq_self_eq_true->AAg,not_or->AAp,autoParam->x0
open Array renaming getElem?_eq_some_iff->xR,length_toList->zR
open Bool renaming and_eq_true->uW,false_ne_true->vO,or_eq_true->vt,noConfusion->we,eq_iff_iff->xh,not_eq_true'->AAM,false_eq_true->ABh
open False renaming elim->xA
open ForInStep renaming yield->zL
open Int renaming toNat_of_nonneg->vQ,mul_pos->vi,natAbs_natCast->v3,lt_of_le_of_lt->v7,toNat_natCast->wB,natAbs_mul->wt,emod_nonneg->xC,le_of_lt->xF,emod_lt_of_pos->xS,lt_of_lt_of_le->xT,mul_le_mul_of_nonneg_right->xw,add_le_of_le_sub_right->zx,mul_nonneg->AAB,natAbs_ediv_le_natAbs->AAD,natAbs_add_le->AAO,natAbs_sub_le->AAP,mul_ediv_cancel_left->AAW,sub_self->AAn,le_trans->AAw,min_eq_left->AAz,ofNat_toNat->AA1,natCast_mul->AA4,mul_le_mul->ABJ,natAbs_of_nonneg->ABK,natCast_nonneg->ABe
open Lean renaming mkIdent->AAr
open Lean.Syntax renaming mkApp->AAN
open List renaming range->W1,getElem?_append_left->uK,mem_cons_of_mem->uL,getElem?_eq_getElem->uN,mem_cons_self->uO,getElem?_set_ne->uQ,getElem?_map->uR,mem_cons->uS,getElem?_eq_some_iff->uU,map_cons->uV,getElem?_set_self->uX,getD_eq_getElem?_getD->uY,getElem?_concat_length->uZ,size_toArray->ua,map_map->uh,sum_cons->uj,mem_map->uo,nil_append->ur,replicate->uu,mem_singleton->uv,length_map->ux,mem_of_getElem?->uy,not_mem_nil->vB,mem_range->vC,cons_append->vD,mem_append->vH,take_length->vI,drop_eq_getElem_cons->vK,map_nil->vM,mem_append_right->vN,filterMap_cons->vP,getElem?_append_right->vU,getElem?_range->vW,map_congr_left->vX,length_cons->vY,length_append->vb,map_append->ve,lookup_cons->vf,drop_eq_nil_of_le->vn,getElem?_eq_none->wF,mem_filter->wJ,nodup_cons->wL,replicate_succ->wV,length_set->wW,prefix_rfl->wX,length_filter_le->wc,getElem_mem->wg,map_set->xH,filter_cons->xI,mem_iff_getElem?->xU,mem_or_eq_of_mem_set->xX,append_nil->xZ,sum_append->xg,flatten_cons->xi,ext_getElem?->xk,getElem?_zipWith_eq_some->x8,take_of_length_le->yA,of_mem_zip->yF,zip_map'->yI,append_assoc->yL,take_succ->yQ,all_cons->yc,length_nil->yf,lookup_append->yg,length->yi,lookup->yk,zipWith->yv,mem_range'_1->yw,length_take->y3,ext_getElem->zB,map_take->zD,mem_append_left->zF,drop_eq_nil_iff->zI,range_succ->zQ,sum_nil->zY,mem_filterMap->zk,prefix_append->z6,mapM_cons->z8,getElem?_zip_eq_some->AAC,getElem?_inj->AAI,nodup_append->AAJ,length_range->AAL,getElem_take->AAQ,flatMap_cons->AAR,any_cons->AAS,getElem?_replicate->AAb,zipWith_cons_cons->AAv,forIn_cons->AA3,length_singleton->ABA,set_append_right->ABB,forIn_nil->ABF,set_append_left->ABL,mem_of_mem_take->ABM,length_pos_iff->ABX,foldl->ABf,getElem_range->ABk,set_cons_zero->ABm,filter_append->ABo
open List.MergeSort.Internal renaming splitInTwo->ABn
open Nat renaming le_trans->uH,lt_of_lt_of_le->uI,le_refl->uP,lt_of_le_of_lt->ug,mul_le_mul_right->ui,pow_le_pow_right->uz,ne_of_lt->vG,pow_lt_pow_right->vS,zero_le->vZ,mul_le_mul->v5,lt_irrefl->wO,mul_comm->wk,lt_trans->wm,le_mul_of_pos_right->w9,le_of_lt->xE,mul_one->xl,le_succ_of_le->xn,mul_assoc->xu,mul_pos->xy,pos_of_ne_zero->yC,le_of_succ_le->yM,lt_or_ge->yU,mul_le_mul_left->yZ,ne_of_gt->yl,succ_mul->yt,min_le_right->y7,sub_succ_lt_self->zJ,pow_add->zK,add_comm->zU,gcd->zX,add_le_add->z9,one_lt_two_pow->AAA,lt_succ_of_lt->AAK,gcd_comm->AAt,pow_succ->AAu,min_eq_left->AA0
open Ne renaming symm->vj
open Option renaming some->Gc,map_eq_some_iff->xG,bind_some->AAh,map->ABj
open Option.some renaming inj->wK
open PyProof.Rows renaming slot_tuple_getitem->vV,envOfC->vd,callWith_type1->vx,IntsAre->wR,AllBare->yh,firstMet->y0,callWith_builtin1->y4,assignInOrder_cons->zh,subscriptTail_builtinR->AAm,boot_tuple->AAs,boot_isinstance->AA5,codeAny_set_update_loopS->ABS,entry_tuple_getitem->ABU,args_tuple_getitem->ABd
open PyProof.Rows.IsTup renaming new->yX
open PySem renaming wpAny_bind->uJ,Value->uT,Addr->ue,Shared->uf,starEach->um,wpAny_pure->uq,Stmt->vE,mem_of_lookup->vc,Program->vg,Heap->vo,Expr->vw,wpAny_Call_Name_kw->vz,World->v9,wpAny_field->wC,wpAny_pyIter_tuple->wM,wpAny_callSpecial?_slot->wN,wpAny_pyIter_list->wU,wpAny_call_entry->wd,wpAny_holding->wj,wpAny_truthy_bool->wu,wpAny_newObj_type->wx,wpAny_mono->xJ,wpAny_setField_rec->xQ,Around->xV,wpAny_passesOwn->xY,IsPair->xq,wpAny_getItem_str_slice->xv,Scope->yE,wpAny_setField->yO,wpAny_seqItems->yP,wpAny_execs_cons->yS,DictEntry->yT,wpAny_binaryOp_repeat_ref->yW,wpAny_standAt->ya,boot_len->yd,wpAny_execs_nil->ye,wpAny_pyNext_list_item->ym,FuncData->yp,codeAny_mono->yq,wpAny_pyNext_list_end->yy,typeIs_int->y8,call_meets->y9,Builtin->zC,wpAny_updateSeq_pair->zH,post_val_or_str->zP,IsZip->zy,Keyword->AAF,wpAny_comprehension_free->AAT,wpAny_onRaise->AAU,NameKind->AAa,noFill_tuple_add->AAc,wpAny_rule->AAj,IsPart->AAl,typeIs_str->AAo,wpAny_pyIter_listiter->AA8,intBits_le_iff->ABH,PassesOwn->ABR,wpAny_Assign_stores->ABT,seq_tuple_add->ABZ
open PySem.AutoSeq1 renaming wpAny_loadPart'->vA
open PySem.Builtin.List renaming listTooLong->wH
open PySem.Builtin.Slice renaming slicePlaces->xW,sliceAdjust->yV,sliceApplied->zq
open PySem.Builtin.SmallTypes renaming nextOf->vJ,ownedTupleIsFree->wI,ownedTupleHandOut->yY
open PySem.Builtin.Tuple renaming tupleExact->xp,tupleItemsOf->zu,tupleTooMany->z7
open PySem.Calls renaming Name_function_global->yN,spliced_cons->yo,spliced_nil->yz,loadGlobal_global->AAZ,evalArgs_plain->ABD
open PySem.Challenge renaming pw_sharetrail_k59_whole_home_and_on->zZ
open PySem.EntryCells renaming newEntry->ABY
open PySem.F renaming slot_tuple_iterator_next->xP,slot_str_getitem->xr,called_set->yB,slot_int_rmul->yG,args_tuple_add_2->yb,entry_tuple_add->yj,slot_tuple_add->yr,slot_tuple_mul->zA,args_tuple_iterator_next_1->zM,slot_zip_next->zO,entry_tuple_iterator_next->zV,args_int_rmul_2->AAG,slot_int_index->AAe,entry_int_rmul->AAf,fills_int_mul->AA2,slot_list_append->AA9,args_list_extend_2->ABE,excBase_ValueError->ABI,entry_list_extend->ABV,slot_list_extend->ABg,args_tuple_mul_2->ABi
open PySem.Heap renaming get?_push_of_some->uG,lt_size->uk,get?_push_size->uw,get?_update_other->vk,size_push->vq,get?_update_self->wY,SameBut->zS,IsTuple->zW,ExtBut->AAH,IsList->ABG
open PySem.Heap.SameBut renaming update->ABW
open PySem.NameKind renaming free->vh,cell->yH
open PySem.Obj renaming mapFields->vv,isFreed_of_fields->wZ,data_mapFields->xO,mapSeq->zv
open PySem.PassesOwn renaming never->xB
open PySem.PyData renaming strOk->yK,canLayAll0->yu,depthAll->AA6
open PySem.SeqAt.EqAt renaming int_str->ABa,str_int->ABb
open PySem.Shared renaming heap->xj
open PySem.Str renaming ofString->wQ,ofString_eq_toList->AAx
open PySem.Txt renaming slice_le->AAq
open PySem.Value renaming none->vR,ref->vT,isStrOf->xo,type->zd,int->AAX,str->AAY,bool->AAi
open PySem.W renaming Frag->uF,nsIn->vm,kia_one->vp,keepIn->wG,kitOne->xK,mg_of->xt,fnOf->x9,exmOne->yR,findIn->yn,OpenLaw->zG,KeysLit->zN,callWith_K->zm,codeIn->zo,methodObj->AAE,excIn->AAV,cellsFrom_some->AAk,instObj->AAy,lookIn->ABC,kitx_tuple->ABc
open Rat renaming mul_le_mul_of_nonneg_right->v8,intCast_eq_zero_iff->wy,le_of_lt->yx,le_antisymm->AA7,le_refl->ABN,num_nonneg->ABO,sub_eq_add_neg->ABl
open Sum renaming inl->ABP,inr->ABQ
open True renaming intro->zl
theorem xzT(h:True:=by first|exact .inl rfl|exact .inr rfl|assumption):True:=h
def xz:=xzT._auto_1
theorem xLT(h:True:=by decide):True:=h
def xL:=xLT._auto_1
theorem wwT(h:True:=by intro _;rfl):True:=h
def ww:=wwT._auto_1
theorem wvT(h:True:=by rfl):True:=h
def wv:=wvT._auto_1
theorem wrT(h:True:=by intro _; rfl):True:=h
def wr:=wrT._auto_1
theorem wpT(h:True:=by intros;rfl):True:=h
def wp:=wpT._auto_1
theorem wnT(h:True:=by with_unfolding_all rfl):True:=h
def wn:=wnT._auto_1
theorem wfT(h:True:=by exact λ_ _=>rfl):True:=h
def wf:=wfT._auto_1
theorem wTT(h:True:=by first|exact Or.inl rfl|exact Or.inr rfl):True:=h
def wT:=wTT._auto_1
theorem wST(h:True:=by first|exact .inl rfl|exact .inr rfl):True:=h
def wS:=wST._auto_1
theorem wPT(h:True:=by first|exact Or.inl rfl|exact Or.inr (Or.inl rfl)|exact Or.inr (Or.inr rfl)):True:=h
def wP:=wPT._auto_1
theorem wET(h:True:=by decide+kernel):True:=h
def wE:=wET._auto_1
theorem v6T(h:True:=by exact λ_ _ _ _ _ _ _=>rfl):True:=h
def v6:=v6T._auto_1
theorem v4T(h:True:=by first|decide|lia):True:=h
def v4:=v4T._auto_1
theorem v0T(h:True:=by exact rfl):True:=h
def v0:=v0T._auto_1
open PyProof.Rows (boot_isinstance boot_int boot_bool boot_tuple boot_str boot_list boot_abs boot_all boot_any boot_sum boot_max boot_min boot_range boot_enumerate boot_zip boot_sorted boot_set boot_divmod)
noncomputable section
namespace L2
open PySem PySem.Spec PyProof.Rows
abbrev Key:=Sum Int Str
noncomputable def UH:Key->uT->va
 | .inl k,v=>Value.isInt k v
 | .inr x,v=>xo x v
noncomputable def rF(w:v9):Key->Int
 | .inl k=>hashInt k
 | .inr x=>hashStr w x
theorem CW:∀{k:Key} {v:uT},UH k v=true->(∃i t,k=ABP i/\v=AAX i t)\/(∃x t,k=ABQ x/\v=AAY x t)
 | .inl i,v,h=>by
   obtain⟨t,e⟩:=Value.isInt_shape (k:=i) (v:=v) h
   exact .inl ⟨i,t,rfl,e⟩
 | .inr x,v,h=>by
   obtain⟨t,e⟩:=Value.isStrOf_shape (x:=x) (v:=v) h
   exact .inr ⟨x,t,rfl,e⟩
def V8(i:Int)(t:Tok):UH (.inl i) (.int i t)=true:=by simp[UH,Value.isInt]
def XA(x:Str)(t:Tok):UH (.inr x) (.str x t)=true:=by simp[UH,xo]
def ia(a b:Int):decide ((ABP a:Key)=ABP b)=(a==b):=by
 by_cases e:a=b
 .subst e;simp
 .have h:¬(ABP a:Key)=ABP b:=λq=>e (Sum.inl.inj q)
  rw[yD h]
  exact(xD.mpr e).symm
def jA(a b:Str):decide ((ABQ a:Key)=ABQ b)=decide (a=b):=by
 by_cases e:a=b
 .subst e;simp
 .have h:¬(ABQ a:Key)=ABQ b:=λq=>e (Sum.inr.inj q)
  rw[yD h,yD e]
def gT(a:Int)(b:Str):decide ((ABP a:Key)=ABQ b)=false:=yD (λq=>nomatch q)
def gZ(a:Str)(b:Int):decide ((ABQ a:Key)=ABP b)=false:=yD (λq=>nomatch q)
noncomputable def Gi(prog:vg)(w:v9):PySem.KeyKind prog w Key where
 is:=UH
 hash:=rF w
 inj:=λv a b ha hb=>by
  rcases CW ha with⟨i,t,rfl,rfl⟩|⟨x,t,rfl,rfl⟩
  .rcases CW hb with⟨j,u,rfl,e⟩|⟨y,u,rfl,e⟩
   .injection e with e1 _;rw[e1]
   .exact nomatch e
  .rcases CW hb with⟨j,u,rfl,e⟩|⟨y,u,rfl,e⟩
   .exact nomatch e
   .injection e with e1 _;rw[e1]
 byValue:=λk v h=>by
  rcases CW h with⟨i,t,rfl,rfl⟩|⟨x,t,rfl,rfl⟩<;>rfl
 pyHash:=λhv h=>by
  rcases CW hv with⟨i,t,rfl,rfl⟩|⟨x,t,rfl,rfl⟩
  .exact wpAny_pyHash_int h
  .exact wpAny_pyHash_str h
 eqBool:=λhu hv h=>by
  rcases CW hu with⟨i,t,rfl,rfl⟩|⟨x,t,rfl,rfl⟩
  .rcases CW hv with⟨j,u,rfl,rfl⟩|⟨y,u,rfl,rfl⟩
   .rw[ia]at h;exact wpAny_eqBool_int h
   .rw[gT]at h;exact ABa i t y u _ _ _ _ h
  .rcases CW hv with⟨j,u,rfl,rfl⟩|⟨y,u,rfl,rfl⟩
   .rw[gZ]at h;exact ABb x t j u _ _ _ _ h
   .rw[jA]at h;exact wpAny_eqBool_str h
 «strs» :=λk x t v h=>by
  rcases CW h with⟨i,u,rfl,e⟩|⟨y,u,rfl,e⟩
  .exact nomatch e
  .injection e with e1 _
   subst e1
   cases v<;>rfl
def RU prog w(i:Int)(t:Tok):(Gi prog w).is (.inl i) (.int i t)=true:=V8 i t
def RP prog w(x:Str)(t:Tok):(Gi prog w).is (.inr x) (.str x t)=true:=XA x t
end L2
namespace L2
open PySem PySem.Spec PyProof.Rows
inductive V where
 |non|bl (b:va)|int (i:Int)|str (x:Str)|byt (b:zE UInt8)|flt (b:UInt64)|ref (a:ue)|ty (n:yJ)
 deriving DecidableEq
def RelV:V->uT->Prop
 | .non,u=>u=vR
 | .bl b,u=>u=AAi b
 | .int i,u=>∃t,u=AAX i t
 | .str x,u=>∃t,u=AAY x t
 | .byt b,u=>∃t,u=Value.bytes b t
 | .flt b,u=>∃t,u=Value.float b t
 | .ref a,u=>u=vT a
 | .ty n,u=>u=zd n
abbrev Vals:Wp V->Wp uT->Prop:=Paired RelV
def Vals.length{xs:Wp V}{us:Wp uT}(r:Vals xs us):xs.length=us.length:=Paired.length r
theorem Vals.get:∀{xs} {us} {i:Nat} {x:V},Vals xs us->xs[i]?=Gc x->∃u,us[i]?=Gc u/\RelV x u
 |_,_,_,_,.nil,e=>by simp at e
 |_,_,0,_,.cons r _,e=>by simp at e;subst e;exact⟨_,rfl,r⟩
 |_,_,i+1,x,.cons _ t,e=>by
  obtain⟨u,h1,h2⟩:=Vals.get (i:=i) (x:=x) t (by simpa using e)
  exact⟨u,by simpa using h1,h2⟩
theorem Vals.set(r:RelV x u):∀{xs} {us} i,Vals xs us->Vals (xs.set i x) (us.set i u)
 |_,_,_,.nil=>.nil
 |_,_,0,.cons _ t=>.cons r t
 |_,_,i+1,.cons q t=>.cons q (Vals.set r i t)
theorem Vals.append:∀{xs ys:Wp V} {us ws:Wp uT},Vals xs us->Vals ys ws->Vals (xs++ys) (us++ws)
 |_,_,_,_,.nil,s=>s
 |_,_,_,_,.cons r t,s=>.cons r (Vals.append t s)
theorem Vals.take:∀{xs} {us} (n:Nat),Vals xs us->Vals (xs.take n) (us.take n)
 |_,_,0,_=>.nil
 |_,_,_+1,.nil=>.nil
 |_,_,n+1,.cons r t=>.cons r (Vals.take n t)
theorem Vals.drop:∀{xs} {us} (n:Nat),Vals xs us->Vals (xs.drop n) (us.drop n)
 |_,_,0,r=>r
 |_,_,_+1,.nil=>.nil
 |_,_,n+1,.cons _ t=>Vals.drop n t
def aE:uM V->uM uT->Prop
 |some v,Gc u=>RelV v u
 |none,none=>ze
 |_,_=>wq
def KV{κ:Type}:Wp (κ×V)->Wp (κ×uT)->Prop:=Paired λ(p:κ×V) (q:κ×uT)=>p.1=q.1/\RelV p.2 q.2
noncomputable def kV:Key->V
 | .inl i=>.int i
 | .inr x=>.str x
inductive HO where
 |lst (xs:Wp V)
 |tup (xs:Wp V)
 |dK (kvs:Wp (Key×V))|dT (kvs:Wp (Wp Key×V))
 |set (S:Int->va) (n:Nat)
 |ins (C dx:ue) (fs:Wp (Str×V))
 |own (x:ue)
 |xd (fs:Wp (Str×V))
 |met (f x:ue)
 |rng (lo hi:Int)
 |frz (o:Obj) (u:HO)
 |tbl (ps:zE uT)
 |ext (φ:vo->Prop)
abbrev Hp:=ue->uM HO
noncomputable def upd(H:Hp)(a:ue)(o:HO):Hp:=λb=>if b=a then Gc o else H b
def B7{o:HO}:upd H a o a=Gc o:=by unfold upd;rw[vF rfl]
def BC{o:HO}(h:b≠a):upd H a o b=H b:=by unfold upd;rw[vL h]
def BQ{H:Hp}{o:HO}(h:H a=Gc o)(h':H b=none):a≠b:=by
 intro e;subst e;rw[h]at h';cases h'
section
variable(P:vg)(w:v9)
def Ej(H:Hp)(h:vo)(a:ue):HO->Prop
 | .lst xs=>xs.length<=sizeLine/\∃(its:Wp uT) (n:Nat),Vals xs its/\h.get? a=Gc {cls:=.type "list",data:=.seq its.toArray n}
 | .tup xs=>xs.length<=sizeLine/\∃its:Wp uT,Vals xs its/\IsTup h a its.toArray
 | .dK kvs=>kvs.length<=sizeLine/\(a==sysModules)=false/\∃vs,KV kvs vs/\h.DictOf (Gi P w) a vs
 | .dT kvs=>kvs.length<=sizeLine/\(a==sysModules)=false/\∃xs:Wp (Wp Key×ue×uT),
    Paired (λ(p:Wp Key×V) (q:Wp Key×ue×uT)=>p.1=q.1/\H q.2.1=Gc (.tup (p.1.map kV))/\RelV p.2 q.2.2) kvs xs/\
    ∃o es ep,h.get? a=Gc o/\o.ExactDict/\o.data=.dict es ep/\es.toList=xs.map (entryOfKey (tupleKind (Gi P w)))/\(xs.map (·.1)).Nodup
 | .set S n=>h.SetOf (intKind P w) a S n
 | .ins C dx fs=>H dx=Gc (.own a)/\fs.length<=1000/\dx≠a/\h.get? a=Gc (AAy C dx)/\
    ∃mA,h.Ns1 dx mA/\(∀f,aE (fs.lookup f) (mA f))/\PySem.Within mA (fs.map (·.1))
 | .own _=>∃o,h.get? a=Gc o
 | .xd fs=>∃mA,h.Ns1 a mA/\∀f,aE (fs.lookup f) (mA f)
 | .rng lo hi=>∃t u v,h.get? a=Gc {cls:=.type "range",data:=.fields #[.int lo t,.int hi u,.int 1 v]}
 | .frz o u=>h.get? a=Gc o/\Ej H h a u
 | .tbl ps=>h.get? a=Gc {cls:=.none,data:=.fields ps}
 | .met f x=>h.get? a=Gc (AAE (.ref f) (.ref x))
 | .ext φ=>φ h/\(∃o,h.get? a=Gc o)/\∀h1 h2:vo,φ h1->(∀o,h1.get? a=Gc o->h2.get? a=Gc o)->φ h2
def HOk(H:Hp)(h:vo):Prop:=∀a o,H a=Gc o->Ej P w H h a o
end
section
variable{P:vg}{w:v9}{H H':Hp}{h h':vo}{a:ue}{o:HO}
def Ej.lt(x:Ej P w H h a o):a<h.objs.size:=by
 cases o with
 |lst xs=>obtain⟨_,_,_,_,e⟩:=x;exact uk e
 |tup xs=>obtain⟨_,_,_,p⟩:=x;exact p.lt
 |dK kvs=>obtain⟨_,_,_,_,o,_,_,e,_⟩:=x;exact uk e
 |dT kvs=>obtain⟨_,_,_,_,o,_,_,e,_⟩:=x;exact uk e
 |set S n=>obtain⟨o,_,_,_,e,_⟩:=x;exact uk e
 |ins C dx fs=>obtain⟨_,_,_,e,_⟩:=x;exact uk e
 |own y=>obtain⟨_,e⟩:=x;exact uk e
 |xd fs=>obtain⟨_,⟨_,_,_,e,_⟩,_⟩:=x;exact uk e
 |rng lo hi=>obtain⟨_,_,_,e⟩:=x;exact uk e
 |frz ob u=>obtain⟨e,_⟩:=x;exact uk e
 |tbl ps=>exact uk (show h.get? a=Gc _ from x)
 |met f y=>exact uk (show h.get? a=Gc _ from x)
 |ext φ=>obtain⟨_,⟨_,e⟩,_⟩:=x;exact uk e
theorem Paired.qF{α β:Type}{F G:α->β->Prop}:∀{l₁} {l₂:Wp β},Paired F l₁ l₂->(∀a b,F a b->G a b)->Paired G l₁ l₂
 |_,_,.nil,_=>.nil
 |_,_,.cons r t,f=>.cons (f _ _ r) (Paired.qF t f)
def Ej.Xl(x:Ej P w H h a o)(k:∀b u,(b=a\/H b=Gc (.own a))->h.get? b=Gc u->h'.get? b=Gc u)(ho:∀b,H b=Gc (.own a)->H' b=Gc (.own a))(ht:∀b xs,H b=Gc (.tup xs)->H' b=Gc (.tup xs)):Ej P w H' h' a o:=by
 induction o with
 |lst xs=>obtain⟨z,its,n,r,e⟩:=x;exact⟨z,its,n,r,k _ _ (.inl rfl) e⟩
 |tup xs=>obtain⟨z,its,r,ob,e,c⟩:=x;exact⟨z,its,r,ob,k _ _ (.inl rfl) e,c⟩
 |dK kvs=>obtain⟨z,y,vs,r,ob,es,ep,e,c⟩:=x;exact⟨z,y,vs,r,ob,es,ep,k _ _ (.inl rfl) e,c⟩
 |dT kvs=>
  obtain⟨z,y,xs,r,ob,es,ep,e,c⟩:=x
  exact⟨z,y,xs,Paired.qF r λp q z=>⟨z.1,ht _ _ z.2.1,z.2.2⟩,ob,es,ep,k _ _ (.inl rfl) e,c⟩
 |set S n=>obtain⟨ob,es,ep,t,e,c⟩:=x;exact⟨ob,es,ep,t,k _ _ (.inl rfl) e,c⟩
 |ins C dx fs=>
  obtain⟨d,z,ne,e,mA,⟨od,es,ep,e2,c⟩,r⟩:=x
  exact⟨ho _ d,z,ne,k _ _ (.inl rfl) e,mA,⟨od,es,ep,k _ _ (.inr d) e2,c⟩,r⟩
 |own y=>obtain⟨ob,e⟩:=x;exact⟨ob,k _ _ (.inl rfl) e⟩
 |xd fs=>obtain⟨mA,⟨od,es,ep,e,c⟩,r⟩:=x;exact⟨mA,⟨od,es,ep,k _ _ (.inl rfl) e,c⟩,r⟩
 |rng lo hi=>obtain⟨t,u,v,e⟩:=x;exact⟨t,u,v,k _ _ (.inl rfl) e⟩
 |frz ob u ih=>obtain⟨e,q⟩:=x;exact⟨k _ _ (.inl rfl) e,ih q⟩
 |tbl ps=>
  have e:h.get? a=Gc {cls:=.none,data:=.fields ps}:=x
  show h'.get? a=Gc {cls:=.none,data:=.fields ps}
  exact k a _ (.inl rfl) e
 |met f y=>
  have e:h.get? a=Gc (AAE (.ref f) (.ref y)):=x
  show h'.get? a=Gc (AAE (.ref f) (.ref y))
  exact k a _ (.inl rfl) e
 |ext φ=>obtain⟨p,⟨o,e⟩,st⟩:=x;exact⟨st _ _ p λo q=>k _ _ (.inl rfl) q,⟨o,k _ _ (.inl rfl) e⟩,st⟩
def HOk.lt(x:HOk P w H h)(e:H a=Gc o):a<h.objs.size:=(x a o e).lt
def HOk.fresh(x:HOk P w H h)(e:h.objs.size<=a):H a=none:=by
 cases q:H a with
 |none=>rfl
 |some u=>exact absurd (uI (x.lt q) e) (wO _)
def HOk.kept(x:HOk P w H h)(k:∀b u,h.get? b=Gc u->h'.get? b=Gc u):HOk P w H h':=λa o e=>
 (x a o e).Xl (λb u _ q=>k b u q) (λ_ q=>q) λ_ _ q=>q
def HOk.laid(x:HOk P w H h)(k:∀b u,h.get? b=Gc u->h'.get? b=Gc u)(hp:h.objs.size<=a)(new:Ej P w (upd H a o) h' a o):HOk P w (upd H a o) h':=λb u e=>by
 have hn:=x.fresh hp
 by_cases hb:b=a
 .subst hb;rw[B7]at e;cases e;exact new
 .rw[BC hb]at e
  exact(x b u e).Xl (λc v _ q=>k c v q) (λc q=>by rw[BC (BQ q hn)];exact q) λc xs q=>by rw[BC (BQ q hn)];exact q
end
def Rd(H:Hp)(a:ue)(u:HO):Prop:=H a=Gc u\/∃o,H a=Gc (.frz o u)
def Rd.of{u:HO}(h:H a=Gc u):Rd H a u:=.inl h
def Rd.ok(r:Rd H a u)(x:HOk P w H h):Ej P w H h a u:=by
 rcases r with r|⟨o,r⟩
 .exact x a u r
 .obtain⟨_,q⟩:=x a _ r
  exact q
def Mut:uM HO->Prop
 |some (.lst _)=>ze
 |some (.dK _)=>ze
 |some (.dT _)=>ze
 |some (.set _ _)=>ze
 |some (.ins _ _ _)=>ze
 |some (.ext _)=>ze
 |_=>wq
section
variable{P:vg}{w:v9}{H:Hp}{h h':vo}{x e:ue}{o':HO}
def HOk.write(ok:HOk P w H h)(mu:Mut (H x))(he:e=x\/H e=Gc (.own x))(k:∀b u,b≠e->h.get? b=Gc u->h'.get? b=Gc u)(heo:∃u,h'.get? e=Gc u)(new:Ej P w (upd H x o') h' x o'):HOk P w (upd H x o') h':=λb u q=>by
 have nown:∀c y,H c=Gc (.own y)->c≠x:=λc y r z=>by subst z;rw[r]at mu;exact mu
 have ntup:∀c xs,H c=Gc (.tup xs)->c≠x:=λc xs r z=>by subst z;rw[r]at mu;exact mu
 by_cases hb:b=x
 .subst hb;rw[B7]at q;cases q;exact new
 .rw[BC hb]at q
  by_cases hbe:b=e
  .have q':H b=Gc (.own x):=by
    rcases he with z|z
    .exact absurd (hbe.trans z) hb
    .rw[hbe];exact z
   rw[q]at q';cases q'
   obtain⟨v,hv⟩:=heo
   exact⟨v,by rw[hbe];exact hv⟩
  .refine(ok b u q).Xl (λc v hc r=>k c v ?_ r) (λc r=>by rw[BC (nown c b r)];exact r) λc xs r=>by rw[BC (ntup c xs r)];exact r
   rcases hc with rfl|hc
   .exact hbe
   .rintro rfl
    rcases he with z|z
    .exact nown c b hc z
    .rw[hc]at z;cases z;exact hb rfl
end
structure Un(fs ex:Wp ue)(H H':Hp)(h h':vo):Prop where
 keep:∀b o,h.get? b=Gc o->H b=none->b∉fs->b∉ex->h'.get? b=Gc o
 slot:∀b o,h.get? b=Gc o->H b=none->b∈fs->b∉ex->∃sl,h'.get? b=Gc {o with slots:=sl}
 free:∀b o,h.get? b=Gc o->H b=none->b∉ex->H' b=none
 there:∀b o,h.get? b=Gc o->b∉ex->∃o',h'.get? b=Gc o'
 X5:∀b xs,H b=Gc (.tup xs)->H' b=Gc (.tup xs)
 XY:∀b o u,H b=Gc (.frz o u)->H' b=Gc (.frz o u)
 Xq:∀b ps,H b=Gc (.tbl ps)->∃more,H' b=Gc (.tbl (ps++more))
section
variable{fs fs' ex ex':Wp ue}{H H1 H2:Hp}{h h1 h2 h':vo}{a x e:ue}{o:HO}
def Un.any(u:Un fs ex H H1 h h1){b:ue}{ob:Obj}(q:h.get? b=Gc ob)(n:H b=none)(hx:b∉ex):∃sl,h1.get? b=Gc {ob with slots:=sl}:=by
 by_cases hb:b∈fs
 .exact u.slot b ob q n hb hx
 .exact⟨ob.slots,u.keep b ob q n hb hx⟩
def Un.kept(k:∀b u,h.get? b=Gc u->h'.get? b=Gc u):Un fs ex H H h h':=
 ⟨λb ob q _ _ _=>k b ob q,λb ob q _ _ _=>⟨ob.slots,k b ob q⟩,λ_ _ _ n _=>n,λb ob q _=>⟨ob,k b ob q⟩,λ_ _ q=>q,λ_ _ _ q=>q,λ_ ps q=>⟨#[],by rw[q];simp⟩⟩
def Un.refl:Un fs ex H H h h:=Un.kept λ_ _ q=>q
theorem Un.laid(k:∀b u,h.get? b=Gc u->h'.get? b=Gc u)(hp:h.objs.size<=a)(hn:H a=none):Un fs ex H (upd H a o) h h' where
 keep:=λb u q _ _ _=>k b u q
 slot:=λb u q _ _ _=>⟨u.slots,k b u q⟩
 free:=λb u q n _=>by rw[BC (vG (uI (uk q) hp))];exact n
 there:=λb u q _=>⟨u,k b u q⟩
 X5:=λb xs q=>by rw[BC (BQ q hn)];exact q
 XY:=λb u xs q=>by rw[BC (BQ q hn)];exact q
 Xq:=λb ps q=>⟨#[],by rw[BC (BQ q hn),q];simp⟩
def Un.write(mu:Mut (H x))(he:e=x\/H e=Gc (.own x))(k:∀b u,b≠e->h.get? b=Gc u->h'.get? b=Gc u)(heo:∃u,h'.get? e=Gc u):Un fs ex H (upd H x o) h h':=by
 have hx:∀b,H b=none->b≠x:=λb n z=>by subst z;rw[n]at mu;exact mu
 have hb:∀b,H b=none->b≠e:=λb n z=>by
  subst z
  rcases he with r|r
  .exact hx b n r
  .rw[n]at r;cases r
 have hm:∀b u,H b=Gc u->¬Mut (Gc u)->b≠x:=λb u q nm z=>by subst z;rw[q]at mu;exact nm mu
 refine⟨λb u q n _ _=>k b u (hb b n) q,λb u q n _ _=>⟨u.slots,k b u (hb b n) q⟩,λb u q n _=>by rw[BC (hx b n)];exact n,λb u q _=>?_,
  λb xs q=>by rw[BC (hm b _ q λz=>z)];exact q,λb u xs q=>by rw[BC (hm b _ q λz=>z)];exact q,λb ps q=>⟨#[],by rw[BC (hm b _ q λz=>z),q];simp⟩⟩
 by_cases hbe:b=e
 .subst hbe;exact heo
 .exact⟨u,k b u hbe q⟩
end
noncomputable def trk(h:vo)(H:Hp):Wp ue:=(W1 h.objs.size).filter λa=>(H a).isSome
noncomputable def Yw(h:vo)(H:Hp):vo:=PySem.W.hideAll h (trk h H)
def Vs(h:vo)(H:Hp):(Yw h H).objs.size=h.objs.size:=PySem.W.hideAll_size _ _
def YS{o:Obj}(e:h.get? b=Gc o)(n:H b=none):(Yw h H).get? b=Gc o:=
 PySem.W.hideAll_get _ e λhm=>by
  have q:(H b).isSome=true:=(wJ.mp hm).2
  rw[n]at q;simp at q
def cZ{o:Obj}(e:(Yw h H).get? b=Gc o):h.get? b=Gc o/\H b=none:=by
 have e':h.get? b=Gc o:=PySem.W.of_hideAll (trk h H) e
 refine⟨e',?_⟩
 cases q:H b with
 |none=>rfl
 |some x=>
  have hm:b∈trk h H:=wJ.mpr ⟨vC.mpr (uk e'),by simp[q]⟩
  have z:(Yw h H).get? b=none:=PySem.W.hideAll_none (trk h H) hm
  rw[z]at e;cases e
noncomputable def cw(g h:vo)(L:ue):Wp (ue×Obj):=(W1 h.objs.size).filterMap λa=>if a=L\/(g.get? a).isSome=true then none else(h.get? a).map λo=>(a,o)
noncomputable def rest(g h:vo)(L d:ue):Wp (ue×Obj):=(cw g h L).filter λp=>decide (p.1≠d)
end L2
namespace L2
open PySem PySem.Spec PyProof.Rows
structure Mod(K:uF)(mg:Str->uM uT)(base:vo):Prop where
 kin:K.In base
 glob:base.Ns mainGlobals mg
 blt:∃mb,base.Ns builtinsNs mb/\∀x:Str,x≠ "__name__"->mb x=bootBuiltins x
 nolimit:base.NoLimit
structure Cx where
 prog:vg
 w:v9
 K:uF
 mg:Str->uM uT
 base:vo
 A:xV
 N:Wp Str
 s₀:uf
 H₀:Hp
 env:Env
 outer:Wp Env
 stack:Wp Env
 ex:Wp ue
 fn:Str->va
 calm:va
 pn:Wp (ue×Obj)
 xe:uT->uf->Prop
noncomputable def frs(l:Wp Env):Wp ue:=l.filterMap (·.frame)
abbrev Cx.fs(X:Cx):Wp ue:=frs X.outer
def Vis(sc:yE)(x:Str):Prop:=sc.names.lookup x=Gc .local\/sc.names.lookup x=Gc .cell\/sc.names.lookup x=Gc .free
def Loc(sc:yE)(x:Str):Prop:=sc.names.lookup x=Gc .local\/sc.names.lookup x=Gc .cell
def Look(env:Env)(h:vo)(m:Str->uM uT)(x:Str)(u:uT):Prop:=
 (env.kindOf x=Gc .local/\m x=Gc u)\/((env.kindOf x=Gc .cell\/env.kindOf x=Gc .free)/\∃c,env.cells.lookup x=Gc c/\h.IsCell c (Gc u))
structure Cx.Ok(X:Cx):Prop where
 mod:Mod X.K X.mg X.base
 kind:X.env.scope.kind=.function
 glob:X.env.globals=mainGlobals
 blt:X.env.builtins=builtinsNs
 above:X.s₀.heap.objs.size<=X.env.locals
 inj:∀x y c,X.env.cells.lookup x=Gc c->X.env.cells.lookup y=Gc c->x=y
 has:∀x,(X.env.kindOf x=Gc .cell\/X.env.kindOf x=Gc .free)->∃c,X.env.cells.lookup x=Gc c
 cab:∀x c,X.fn x=true->X.env.cells.lookup x=Gc c->X.s₀.heap.objs.size<=c
 hd:X.calm=true->X.A.handled=none
 frames:X.A.frames=Gc X.stack
 stk:X.stack=X.outer\/(X.stack=X.env::X.outer/\X.env.frame=Gc X.env.locals)
 exf:∀b∈X.ex,b≠X.env.locals/\∀x c,X.env.cells.lookup x=Gc c->c≠b
 bs:∀b o,X.base.get? b=Gc o->X.s₀.heap.get? b=Gc o/\X.H₀ b=none
 bsz:X.base.objs.size<=X.s₀.heap.objs.size
 aM:∀b o,X.base.get? b=Gc o->b∉X.ex
 dv:∀b∈X.ex,b∉X.fs
 T7:X.s₀.heap.FunFrames X.base X.outer
 frf:∀b∈X.fs,X.H₀ b=none
structure Inv(X:Cx)(pins:Wp (ue×Obj))(σ:Wp (uM V))(H:Hp)(s:uf):Prop where
 ok:X.Ok
 os:s.os=X.s₀.os
 bare:yh s.gens
 base:Un X.fs X.ex X.H₀ H X.s₀.heap s.heap
 loc:∃m,s.heap.Ns X.env.locals m/\∀(i:Nat) (x:Str) (v:V),X.N[i]?=Gc x->σ[i]?=Gc (Gc v)->Vis X.env.scope x->∃u,RelV v u/\Look X.env s.heap m x u
 cell:∀x c,X.env.cells.lookup x=Gc c->∃v,s.heap.IsCell c v
 free:H X.env.locals=none
 LY:∀x c,X.env.cells.lookup x=Gc c->H c=none
 pin:∀p∈X.pn++pins,s.heap.get? p.1=Gc p.2/\H p.1=none/\p.1≠X.env.locals/\p.1∉X.fs/\∀v,p.2.data≠.cell v
 hok:HOk X.prog X.w H s.heap
 len:σ.length=X.N.length
section
variable{X:Cx}{pins:Wp (ue×Obj)}{σ:Wp (uM V)}{H H':Hp}{s:uf}{h':vo}
def Cx.Ok.rg(ok:X.Ok){b:ue}{o:Obj}(e:X.base.get? b=Gc o):b∉X.fs:=λhb=>by
 have:=(ok.T7.mem hb).1
 rw[e]at this;cases this
def Inv.bs(I:Inv X pins σ H s):∀b o,X.base.get? b=Gc o->s.heap.get? b=Gc o/\H b=none:=λb o e=>
 ⟨I.base.keep b o (I.ok.bs b o e).1 (I.ok.bs b o e).2 (I.ok.rg e) (I.ok.aM b o e),I.base.free b o (I.ok.bs b o e).1 (I.ok.bs b o e).2 (I.ok.aM b o e)⟩
def Inv.bk(I:Inv X pins σ H s):∀b o,X.base.get? b=Gc o->s.heap.get? b=Gc o:=λb o e=>(I.bs b o e).1
def Inv.mod(I:Inv X pins σ H s):Mod X.K X.mg X.base:=I.ok.mod
def Inv.kIn(I:Inv X pins σ H s):X.K.In s.heap:=I.ok.mod.kin.keeps I.bk
def Inv.lt(I:Inv X pins σ H s):X.env.locals<s.heap.objs.size:=let⟨_,hn,_⟩:=I.loc;hn.lt
def Inv.sz(I:Inv X pins σ H s):X.s₀.heap.objs.size<=s.heap.objs.size:=uH I.ok.above (xE I.lt)
def Inv.qy(I:Inv X pins σ H s){a:ue}(h:s.heap.objs.size<=a):a∉X.fs:=λhb=>by
 obtain⟨_,o,ho,_⟩:=I.ok.T7.mem hb
 exact absurd (uI (uk ho) (uH I.sz h)) (wO _)
def Inv.cne(I:Inv X pins σ H s):∀x c,X.env.cells.lookup x=Gc c->c≠X.env.locals:=λx c e z=>by
 obtain⟨v,o,ho,hd⟩:=I.cell x c e
 obtain⟨m,⟨o',es,ep,ho',hd',_⟩,_⟩:=I.loc
 rw[z,ho']at ho;cases ho;rw[hd']at hd;cases hd
def Inv.T7(I:Inv X pins σ H s):s.heap.FunFrames X.base X.outer:=by
 have all:∀(l:Wp Env),(∀b∈frs l,b∈X.fs)->X.s₀.heap.FunFrames X.base l->s.heap.FunFrames X.base l:=by
  intro l
  induction l with
  |nil=>intro _ _;trivial
  |cons env r ih=>
   intro hs hl
   obtain⟨hk,⟨L,o,hf,hn,ho,hd⟩,hr⟩:=hl
   have hL:L∈X.fs:=hs L (by unfold frs;rw[vP,hf];exact uO)
   obtain⟨sl,e⟩:=I.base.slot L o ho (I.ok.frf L hL) hL λz=>I.ok.dv L z hL
   exact⟨hk,⟨L,_,hf,hn,e,hd⟩,ih (λb hb=>hs b (by unfold frs;rw[vP,hf];exact uL _ hb)) hr⟩
 exact all X.outer (λ_ hb=>hb) I.ok.T7
def Inv.stack(I:Inv X pins σ H s):s.heap.FunFrames X.base X.stack:=by
 rcases I.ok.stk with e|⟨e,hf⟩
 .rw[e];exact I.T7
 .rw[e]
  obtain⟨m,hn,_⟩:=I.loc
  refine .cons (by rw[I.ok.kind];decide) hf hn ?_ I.T7
  exact Heap.get?_none_of_le (uH I.ok.bsz I.ok.above)
def Inv.VO(I:Inv X pins σ H s):∀b∈frs X.stack,b∈X.env.locals::X.fs:=λb hb=>by
 rcases I.ok.stk with e|⟨e,hf⟩
 .rw[e]at hb;exact uL _ hb
 .rw[e]at hb
  unfold frs at hb
  rw[vP,hf]at hb
  exact hb
def Inv.Rh(I:Inv X pins σ H s):∀b∈frs X.stack,H b=none:=λb hb=>by
 rcases uS.mp (I.VO b hb)with e|hb
 .rw[e];exact I.free
 .obtain⟨_,o,ho,_⟩:=I.ok.T7.mem hb
  exact I.base.free b o ho (I.ok.frf b hb) λz=>I.ok.dv b z hb
def Inv.step{ch:Wp ue}(I:Inv X pins σ H s)(hch:∀b∈ch,(b∈X.ex\/X.s₀.heap.objs.size<=b)/\b≠X.env.locals/\(∀x c,X.env.cells.lookup x=Gc c->c≠b)/\∀p∈X.pn++pins,p.1≠b)(keep:∀b o,b≠X.env.locals->b∉X.fs->b∉ch->s.heap.get? b=Gc o->H b=none->h'.get? b=Gc o)(slot:∀b o,b≠X.env.locals->b∈X.fs->b∉ch->s.heap.get? b=Gc o->H b=none->∃sl,h'.get? b=Gc {o with slots:=sl})(free:∀b o,b∉ch->s.heap.get? b=Gc o->H b=none->H' b=none)(there:∀b o,b∉ch->s.heap.get? b=Gc o->∃o',h'.get? b=Gc o')(X5:∀b xs,H b=Gc (.tup xs)->H' b=Gc (.tup xs))(XY:∀b o u,H b=Gc (.frz o u)->H' b=Gc (.frz o u))(Xq:∀b ps,H b=Gc (.tbl ps)->∃more,H' b=Gc (.tbl (ps++more)))(ns:∀m,s.heap.Ns X.env.locals m->h'.Ns X.env.locals m)(hok:HOk X.prog X.w H' h')(hg:yh g'):Inv X pins σ H' {s with heap:=h',gens:=g',drawn:=d',toks:=t'}:=by
 have neL:∀b o,X.s₀.heap.get? b=Gc o->b≠X.env.locals:=λb o e=>vG (uI (uk e) I.ok.above)
 have neC:∀b o,X.s₀.heap.get? b=Gc o->b∉X.ex->b∉ch:=λb o e hx hb=>by
  rcases(hch b hb).1 with z|z
  .exact hx z
  .exact absurd (uI (uk e) z) (wO _)
 have cellK:∀x c,X.env.cells.lookup x=Gc c->∀v,s.heap.IsCell c v->h'.IsCell c v:=λx c e v ⟨o,ho,hd⟩=>by
  have nch:c∉ch:=λz=>(hch c z).2.2.1 x c e rfl
  by_cases hc:c∈X.fs
  .obtain⟨sl,q⟩:=slot c o (I.cne x c e) hc nch ho (I.LY x c e)
   exact⟨_,q,hd⟩
  .exact⟨o,keep c o (I.cne x c e) hc nch ho (I.LY x c e),hd⟩
 refine⟨I.ok,I.os,hg,⟨λb o e n hb hx=>?_,λb o e n hb hx=>?_,λb o e n hx=>?_,λb o e hx=>?_,λb xs e=>X5 b xs (I.base.X5 b xs e),λb o xs e=>XY b o xs (I.base.XY b o xs e),λb ps e=>?_⟩,?_,λx c e=>?_,?_,λx c e=>?_,λp hp=>?_,hok,I.len⟩
 .exact keep b o (neL b o e) hb (neC b o e hx) (I.base.keep b o e n hb hx) (I.base.free b o e n hx)
 .obtain⟨sl,e1⟩:=I.base.slot b o e n hb hx
  obtain⟨sl',e2⟩:=slot b _ (neL b o e) hb (neC b o e hx) e1 (I.base.free b o e n hx)
  exact⟨sl',e2⟩
 .obtain⟨o',e1⟩:=I.base.there b o e hx
  exact free b o' (neC b o e hx) e1 (I.base.free b o e n hx)
 .obtain⟨o',e1⟩:=I.base.there b o e hx
  exact there b o' (neC b o e hx) e1
 .obtain⟨m1,e1⟩:=I.base.Xq b ps e
  obtain⟨m2,e2⟩:=Xq b _ e1
  exact⟨m1++m2,by rw[e2,Array.append_assoc]⟩
 .obtain⟨m,hn,hl⟩:=I.loc
  refine⟨m,ns m hn,λi x v e1 e2 e3=>?_⟩
  obtain⟨u,r,l⟩:=hl i x v e1 e2 e3
  refine⟨u,r,?_⟩
  rcases l with l|⟨k,c,e,z⟩
  .exact .inl l
  .exact .inr ⟨k,c,e,cellK x c e _ z⟩
 .obtain⟨v,z⟩:=I.cell x c e
  exact⟨v,cellK x c e v z⟩
 .obtain⟨m,⟨o,_,_,ho,_⟩,_⟩:=I.loc
  exact free _ o (λz=>(hch _ z).2.1 rfl) ho I.free
 .obtain⟨v,o,ho,hd⟩:=I.cell x c e
  exact free c o (λz=>(hch c z).2.2.1 x c e rfl) ho (I.LY x c e)
 .obtain⟨e,n,ne,nf,d⟩:=I.pin p hp
  have nch:p.1∉ch:=λz=>(hch p.1 z).2.2.2 p hp rfl
  exact⟨keep p.1 p.2 ne nf nch e n,free p.1 p.2 nch e n,ne,nf,d⟩
def Inv.un{t':Nat}(I:Inv X pins σ H s)(u:Un X.fs [] H H' s.heap h')(hok:HOk X.prog X.w H' h'):Inv X pins σ H' {s with heap:=h',toks:=t'}:=by
 obtain⟨m,⟨o,es,ep,ho,r⟩,_⟩:=id I.loc
 obtain⟨sl,hL⟩:=u.any ho I.free (by simp)
 exact I.step (g':=s.gens) (d':=s.drawn) (ch:=[]) (λ_ z=>nomatch z) (λb o _ hb _ e n=>u.keep b o e n hb (by simp)) (λb o _ hb _ e n=>u.slot b o e n hb (by simp)) (λb o _ e n=>u.free b o e n (by simp)) (λb o _ e=>u.there b o e (by simp)) u.X5 u.XY u.Xq (λm' hm=>by
  obtain⟨o',es',ep',ho',r'⟩:=hm
  rw[ho]at ho';cases ho'
  exact⟨_,es',ep',hL,r'⟩) hok I.bare
def Inv.call{ch:Wp ue}(I:Inv X pins σ H s)(u:Un (frs X.stack) ch H H' s.heap h')(hok:HOk X.prog X.w H' h')(hg:yh g')(hch:∀b∈ch,(b∈X.ex\/X.s₀.heap.objs.size<=b)/\b≠X.env.locals/\(∀x c,X.env.cells.lookup x=Gc c->c≠b)/\∀p∈X.pn++pins,p.1≠b):Inv X pins σ H' {s with heap:=h',gens:=g',drawn:=d',toks:=t'}:=by
 obtain⟨m,⟨o,es,ep,ho,r⟩,_⟩:=id I.loc
 obtain⟨sl,hL⟩:=u.any ho I.free λz=>(hch _ z).2.1 rfl
 exact I.step (ch:=ch) hch (λb o hL hb hc e n=>u.keep b o e n (λz=>(uS.mp (I.VO b z)).elim hL hb) hc) (λb o _ _ hc e n=>u.any e n hc) (λb o hc e n=>u.free b o e n hc) (λb o hc e=>u.there b o e hc) u.X5 u.XY u.Xq (λm' hm=>by
  obtain⟨o',es',ep',ho',r'⟩:=hm
  rw[ho]at ho';cases ho'
  exact⟨_,es',ep',hL,r'⟩) hok hg
def Inv.turned{t':Nat}{it:ue}(I:Inv X pins σ H s)(k:∀b o,b≠it->s.heap.get? b=Gc o->h'.get? b=Gc o)(hn:H it=none)(hL:it≠X.env.locals)(h1:it∈X.ex\/X.s₀.heap.objs.size<=it)(h2:∀x c,X.env.cells.lookup x=Gc c->c≠it)(h3:∀p∈X.pn++pins,p.1≠it):Inv X pins σ H {s with heap:=h',toks:=t'}:=by
 have nit:∀b u,H b=Gc u->b≠it:=λb u e z=>by rw[z,hn]at e;cases e
 refine I.step (g':=s.gens) (d':=s.drawn) (ch:=[it]) (λb hb=>?_) (λb o _ _ hc e _=>k b o (λz=>hc (by simp[z])) e) (λb o _ _ hc e _=>⟨o.slots,k b o (λz=>hc (by simp[z])) e⟩) (λ_ _ _ _ n=>n)
  (λb o hc e=>⟨o,k b o (λz=>hc (by simp[z])) e⟩) (λ_ _ e=>e) (λ_ _ _ e=>e) (λb ps e=>⟨#[],by rw[e];simp⟩) (λm hm=>?_) (λb u e=>?_) I.bare
 .have e:b=it:=by simpa using hb
  subst e
  exact⟨h1,hL,h2,h3⟩
 .obtain⟨o,es,ep,ho,r⟩:=hm
  exact⟨o,es,ep,k _ o (vj hL) ho,r⟩
 .refine(I.hok b u e).Xl (λc v hc q=>k c v ?_ q) (λ_ q=>q) λ_ _ q=>q
  rcases hc with z|z
  .rw[z];exact nit b u e
  .exact nit c _ z
def Inv.tok(I:Inv X pins σ H s)(t:Nat):Inv X pins σ H {s with toks:=t}:=I.un (h':=s.heap) (t':=t) Un.refl I.hok
def Inv.kept{t':Nat}(I:Inv X pins σ H s)(k:∀b u,s.heap.get? b=Gc u->h'.get? b=Gc u):Inv X pins σ H {s with heap:=h',toks:=t'}:=I.un (Un.kept k) (I.hok.kept k)
def Inv.laid{a:ue}{t':Nat}(I:Inv X pins σ H s)(k:∀b u,s.heap.get? b=Gc u->h'.get? b=Gc u)(hp:s.heap.objs.size<=a)(new:Ej X.prog X.w (upd H a o) h' a o):Inv X pins σ (upd H a o) {s with heap:=h',toks:=t'}:=I.un (Un.laid k hp (I.hok.fresh hp)) (I.hok.laid k hp new)
def Inv.write{t':Nat}(I:Inv X pins σ H s)(mu:Mut (H x))(he:e=x\/H e=Gc (.own x))(k:∀b u,b≠e->s.heap.get? b=Gc u->h'.get? b=Gc u)(heo:∃u,h'.get? e=Gc u)(new:Ej X.prog X.w (upd H x o) h' x o):Inv X pins σ (upd H x o) {s with heap:=h',toks:=t'}:=I.un (Un.write mu he k heo) (I.hok.write mu he k heo new)
def Inv.WO{pins':Wp (ue×Obj)}(I:Inv X pins σ H s)(h:∀p∈pins',s.heap.get? p.1=Gc p.2/\H p.1=none/\p.1≠X.env.locals/\p.1∉X.fs/\∀v,p.2.data≠.cell v):Inv X pins' σ H s:=
 ⟨I.ok,I.os,I.bare,I.base,I.loc,I.cell,I.free,I.LY,λp hp=>(vH.mp hp).elim (λz=>I.pin p (zF _ z)) (h p),I.hok,I.len⟩
def Ta{N:Wp Str}(hN:N.Nodup){i j:Nat}{x:Str}(a:N[i]?=Gc x)(b:N[j]?=Gc x):i=j:=by
 obtain⟨h1,e1⟩:=uU.mp a
 obtain⟨h2,e2⟩:=uU.mp b
 exact(List.getElem_inj hN).mp (e1.trans e2.symm)
def QS(I:Inv X pins σ H s)(hN:X.N.Nodup)(hi:X.N[i]?=Gc x)(hx:Loc X.env.scope x)(r:RelV v u)(h:∀s',Inv X pins (σ.set i (Gc v)) H s'->(∃a,zS a s.heap s'.heap/\(a=X.env.locals\/X.env.cells.lookup x=Gc a))->Q () s')(hf:x0 (X.fn x=true\/X.env.scope.names.lookup x=Gc .local) xz):wpAny M A (storeName X.env x u) Q E s:=by
 obtain⟨m,hn,hl⟩:=id I.loc
 have hcls:(X.env.scope.kind== .class||(X.env.scope.kind== .module && X.env.locals !=X.env.globals))=false:=by rw[I.ok.kind];rfl
 have hiσ:i<σ.length:=by rw[I.len];exact(uU.mp hi).1
 have cne:=I.cne
 have tracked:∀{a:ue} {h':vo},(∃o,s.heap.get? a=Gc o/\H a=none)->zS a s.heap h'->HOk X.prog X.w H h':=λ{a h'} ha hs b ob e=>by
  obtain⟨_,_,hfree⟩:=ha
  refine(I.hok b ob e).Xl (λc w' hc q=>(hs.2 c ?_).trans q) (λ_ q=>q) λ_ _ q=>q
  rintro rfl
  rcases hc with rfl|hc
  .rw[hfree]at e;cases e
  .rw[hfree]at hc;cases hc
 rcases hx with hk|hk
 .refine wpAny_storeName_local hk hn (λh' hn' hs=>?_) hcls
  obtain⟨oL,_,_,hoL,_⟩:=id hn
  refine h _ ⟨I.ok,I.os,I.bare,⟨λb o e n hb hx=>?_,λb o e n hb hx=>?_,I.base.free,λb o e hx=>?_,I.base.X5,I.base.XY,I.base.Xq⟩,⟨_,hn',λj y v' e1 e2 e3=>?_⟩,λy c e=>?_,I.free,I.LY,λp hp=>?_,tracked ⟨oL,hoL,I.free⟩ hs,by simpa using I.len⟩ ⟨_,hs,.inl rfl⟩
  .exact(hs.2 b (vG (uI (uk e) I.ok.above))).trans (I.base.keep b o e n hb hx)
  .obtain⟨sl,e1⟩:=I.base.slot b o e n hb hx
   exact⟨sl,(hs.2 b (vG (uI (uk e) I.ok.above))).trans e1⟩
  .obtain⟨o',e1⟩:=I.base.there b o e hx
   exact⟨o',(hs.2 b (vG (uI (uk e) I.ok.above))).trans e1⟩
  .by_cases hj:j=i
   .subst hj
    rw[hi]at e1;cases e1
    rw[uX hiσ]at e2
    cases e2
    exact⟨u,r,.inl ⟨hk,by simp⟩⟩
   .rw[uQ (vj hj)]at e2
    obtain⟨u',r',q⟩:=hl j y v' e1 e2 e3
    refine⟨u',r',?_⟩
    rcases q with⟨k,e⟩|⟨k,c,e,z⟩
    .refine .inl ⟨k,?_⟩
     have:y≠x:=λe=>hj (Ta hN e1 (e▸hi))
     simp[this,e]
    .exact .inr ⟨k,c,e,z.sameBut hs (cne y c e)⟩
  .obtain⟨w',z⟩:=I.cell y c e
   exact⟨w',z.sameBut hs (cne y c e)⟩
  .obtain⟨e,n,ne,nf,d⟩:=I.pin p hp
   exact⟨(hs.2 p.1 ne).trans e,n,ne,nf,d⟩
 .have hfn:X.fn x=true:=by
   rcases hf with z|z
   .exact z
   .rw[z]at hk;cases hk
  obtain⟨c,hc⟩:=I.ok.has x (.inl hk)
  obtain⟨w',z⟩:=I.cell x c hc
  refine wpAny_storeName_cell I.ok.kind hk hc z (λh' hc' hs=>?_)
  obtain⟨oc,hoc,hocd⟩:=id z
  refine h {s with heap:=h'} ⟨I.ok,I.os,I.bare,⟨λb o e n hb hx=>?_,λb o e n hb hx=>?_,I.base.free,λb o e hx=>?_,I.base.X5,I.base.XY,I.base.Xq⟩,⟨m,hn.sameBut hs (vj (cne x c hc)),λj y v' e1 e2 e3=>?_⟩,λy c' e=>?_,I.free,I.LY,λp hp=>?_,tracked ⟨oc,hoc,I.LY x c hc⟩ hs,by simpa using I.len⟩ ⟨c,hs,.inr hc⟩
  .exact(hs.2 b (vG (uI (uk e) (I.ok.cab x c hfn hc)))).trans (I.base.keep b o e n hb hx)
  .obtain⟨sl,e1⟩:=I.base.slot b o e n hb hx
   exact⟨sl,(hs.2 b (vG (uI (uk e) (I.ok.cab x c hfn hc)))).trans e1⟩
  .obtain⟨o',e1⟩:=I.base.there b o e hx
   exact⟨o',(hs.2 b (vG (uI (uk e) (I.ok.cab x c hfn hc)))).trans e1⟩
  .by_cases hj:j=i
   .subst hj
    rw[hi]at e1;cases e1
    rw[uX hiσ]at e2
    cases e2
    exact⟨u,r,.inr ⟨.inl hk,c,hc,hc'⟩⟩
   .rw[uQ (vj hj)]at e2
    obtain⟨u',r',q⟩:=hl j y v' e1 e2 e3
    refine⟨u',r',?_⟩
    rcases q with q|⟨k,c',e,z'⟩
    .exact .inl q
    .refine .inr ⟨k,c',e,z'.sameBut hs ?_⟩
     rintro rfl
     exact hj (Ta hN e1 (I.ok.inj _ _ _ e hc▸hi))
  .by_cases hcc:c'=c
   .subst hcc;exact⟨_,hc'⟩
   .obtain⟨w2,z2⟩:=I.cell y c' e
    exact⟨w2,z2.sameBut hs hcc⟩
  .obtain⟨e,n,ne,nf,d⟩:=I.pin p hp
   refine⟨(hs.2 p.1 ?_).trans e,n,ne,nf,d⟩
   intro q
   rw[q,hoc]at e
   have q':oc=p.2:=wK e
   exact d w' (by rw[<-q'];exact hocd)
def MF(I:Inv X pins σ H s)(hN:X.N.Nodup)(hi:X.N[i]?=Gc x)(hx:Loc X.env.scope x)(r:RelV v u)(h:∀s',Inv X pins (σ.set i (Gc v)) H s'->Q () s')(hf:x0 (X.fn x=true\/X.env.scope.names.lookup x=Gc .local) xz):wpAny M A (storeName X.env x u) Q E s:=
 QS I hN hi hx r (λs' I' _=>h s' I') hf
def Inv.gF{s':uf}{ch:Wp ue}(I:Inv X pins σ H s)(ho:s'.os=s.os)(u:Un (frs X.stack) ch H H' s.heap s'.heap)(hok:HOk X.prog X.w H' s'.heap)(hg:yh s'.gens)(hch:∀b∈ch,(b∈X.ex\/X.s₀.heap.objs.size<=b)/\b≠X.env.locals/\(∀x c,X.env.cells.lookup x=Gc c->c≠b)/\∀p∈X.pn++pins,p.1≠b):Inv X pins σ H' s':=by
 obtain⟨h',g',d',t',o'⟩:=s'
 have e:o'=s.os:=ho
 subst e
 exact I.call (g':=g') (t':=t') (d':=d') u hok hg hch
end
abbrev XK:=uT->uM ue->Hp->Prop
abbrev St:=Wp (uM V)
abbrev VK:=V->Hp->Prop
abbrev TE:=St->Hp->VK->Prop
abbrev TT:=St->Hp->(va->Hp->Prop)->Prop
abbrev TA:=St->Hp->(Wp V->Hp->Prop)->Prop
structure Ends where
 nx:St->Hp->Prop
 rt:VK
 bk:St->Hp->Prop:=λ_ _=>wq
 ct:St->Hp->Prop:=λ_ _=>wq
abbrev TS:=Ends->St->Hp->Prop
def EP(X:Cx)(pins:Wp (ue×Obj))(σ:St)(Q:VK)(u:uT)(s':uf):Prop:=∃v H',Inv X pins σ H' s'/\RelV v u/\Q v H'
def TP(X:Cx)(pins:Wp (ue×Obj))(σ:St)(Q:va->Hp->Prop)(b:va)(s':uf):Prop:=∃H',Inv X pins σ H' s'/\Q b H'
def AP(X:Cx)(pins:Wp (ue×Obj))(σ:St)(Q:Wp V->Hp->Prop)(us:Wp uT)(s':uf):Prop:=∃vs H',Inv X pins σ H' s'/\Vals vs us/\Q vs H'
def SP(X:Cx)(pins:Wp (ue×Obj))(D:Ends)(f:Flow)(s':uf):Prop:=
 match f with
 | .next=>∃σ' H',Inv X pins σ' H' s'/\D.nx σ' H'
 | .brk=>∃σ' H',Inv X pins σ' H' s'/\D.bk σ' H'
 | .cont=>∃σ' H',Inv X pins σ' H' s'/\D.ct σ' H'
 | .ret u=>∃v σ' H',Inv X pins σ' H' s'/\RelV v u/\D.rt v H'
def PE(X:Cx)(e:vw)(t:TE):Prop:=
 ∀(pins:Wp (ue×Obj)) (s:uf) (σ:St) (H:Hp) (Q:VK),Inv X pins σ H s->t σ H Q->wpAny (model X.prog X.w) X.A (eval e X.env) (EP X pins σ Q) X.xe s
def PT(X:Cx)(e:vw)(t:TT):Prop:=
 ∀(pins:Wp (ue×Obj)) (s:uf) (σ:St) (H:Hp) (Q:va->Hp->Prop),Inv X pins σ H s->t σ H Q->wpAny (model X.prog X.w) X.A (isTrue e X.env (eval e X.env)) (TP X pins σ Q) X.xe s
def PW(X:Cx)(e:vw)(t:TT):Prop:=
 ∀(whole:Sem uT) (pins:Wp (ue×Obj)) (s:uf) (σ:St) (H:Hp) (Q:va->Hp->Prop),Inv X pins σ H s->t σ H Q->wpAny (model X.prog X.w) X.A (isTrue e X.env whole) (TP X pins σ Q) X.xe s
def PW.pt{t:TT}(h:PW X e t):PT X e t:=h _
def PA(X:Cx)(es:Wp vw)(t:TA):Prop:=
 ∀(pos:Pos) (pins:Wp (ue×Obj)) (s:uf) (σ:St) (H:Hp) (Q:Wp V->Hp->Prop),Inv X pins σ H s->t σ H Q->wpAny (model X.prog X.w) X.A (spliced (backTo pos (um es X.env))) (AP X pins σ Q) X.xe s
def PS(X:Cx)(st:vE)(t:TS):Prop:=
 ∀(pins:Wp (ue×Obj)) (s:uf) (σ:St) (H:Hp) (D:Ends),Inv X pins σ H s->t D σ H->wpAny (model X.prog X.w) X.A (exec st X.env) (SP X pins D) X.xe s
def PSs(X:Cx)(st:Wp vE)(t:TS):Prop:=
 ∀(pins:Wp (ue×Obj)) (s:uf) (σ:St) (H:Hp) (D:Ends),Inv X pins σ H s->t D σ H->wpAny (model X.prog X.w) X.A (execs st X.env) (SP X pins D) X.xe s
def thn{t:Sem α}{Q Q':α->uf->Prop}(h:wpAny M A t Q E s)(hQ:∀a s,Q a s->Q' a s):wpAny M A t Q' E s:=xJ h hQ λ_ _ x=>x
end L2
namespace L2
open PySem PySem.Spec PyProof.Rows
section
variable{X:Cx}
noncomputable def qo(i:Nat):TE:=λσ H Q=>∃v,σ[i]?=Gc (Gc v)/\Q v H
noncomputable def tC(v:V):TE:=λ_ H Q=>Q v H
def VP{pos:Pos}(hN:X.N[i]?=Gc x)(hv:Vis X.env.scope x)(hd:x0 ((x==("__debug__":Str))=false) xL)(hcd:x0 ((x==("__classdict__":Str))=false) xL):PE X (.Name x pos) (qo i):=by
 intro pins s σ H Q I h
 obtain⟨v,e,h⟩:=h
 obtain⟨m,hn,hl⟩:=I.loc
 obtain⟨u,r,l⟩:=hl i x v hN e hv
 have fin:EP X pins σ Q u s:=⟨v,H,I,r,h⟩
 rcases l with⟨hk,hm⟩|⟨hk,c,hc,hcell⟩
 .exact wpAny_Name (wpAny_loadName_local I.ok.kind hk hn hm fin) hd
 .rcases hk with hk|hk
  .exact wpAny_Name (wpAny_loadName_cell I.ok.kind hk hc hcell fin) hd
  .exact wpAny_Name (wpAny_loadName_free I.ok.kind hk hc hcell fin hcd) hd
def jL{i j pos}:PE X (.Constant (.int i) j pos) (tC (.int i)):=λ_ _ _ H _ I h=>wpAny_Constant_int ⟨.int i,H,I.tok _,⟨_,rfl⟩,h⟩
def nN{b j pos}:PE X (.Constant (.bool b) j pos) (tC (.bl b)):=λ_ _ _ H _ I h=>Constant_bool ⟨.bl b,H,I,rfl,h⟩
def jV{j pos}:PE X (.Constant .none j pos) (tC .non):=λ_ _ _ H _ I h=>Constant_none ⟨.non,H,I,rfl,h⟩
def eZ{x j pos}:PE X (.Constant (.str x) j pos) (tC (.str x)):=λ_ _ _ H _ I h=>Calls.Constant_str ⟨.str x,H,I.tok _,⟨_,rfl⟩,h⟩
def Gl(X:Cx)(x:Str):Prop:=X.env.kindOf x=Gc .globalImplicit
def PH{s:uf}{σ:St}(I:Inv X pins σ H s)(hg:Gl X x)(hm:X.mg x=Gc u)(h:Q u s)(hd:x0 ((x==("__debug__":Str))=false) xL):wpAny (model X.prog X.w) X.A (eval (.Name x pos) X.env) Q E s:=
 yN I.ok.kind hg (AAZ (by rw[I.ok.glob];exact I.mod.glob.keeps I.bk) hm h) hd
def JO{E:uT->uf->Prop}{σ:St}{u:uT}{pos:Pos}(I:Inv X pins σ H s)(hg:Gl X x)(hm:X.mg x=none)(hv:bootBuiltins x=Gc u)(h:Q u s)(hn:x0 (x≠ "__name__") xL)(hd:x0 ((x==("__debug__":Str))=false) xL):wpAny (model X.prog X.w) X.A (eval (.Name x pos) X.env) Q E s:=by
 obtain⟨mb,h1,h2⟩:=I.mod.blt
 exact yN I.ok.kind hg (Calls.loadGlobal_builtin (by rw[I.ok.glob];exact I.mod.glob.keeps I.bk) hm (by rw[I.ok.blt];exact h1.keeps I.bk) ((h2 x hn).trans hv) h) hd
def O0{pos:Pos}(hg:Gl X x)(hm:X.mg x=Gc u)(r:RelV v u)(hd:x0 ((x==("__debug__":Str))=false) xL):PE X (.Name x pos) (tC v):=
 λ_ _ _ H _ I h=>PH I hg hm ⟨v,H,I,r,h⟩ hd
def cV{pos:Pos}(hg:Gl X x)(hm:X.mg x=none)(hv:bootBuiltins x=Gc u)(r:RelV v u)(hn:x0 (x≠ "__name__") xL)(hd:x0 ((x==("__debug__":Str))=false) xL):PE X (.Name x pos) (tC v):=
 λ_ _ _ H _ I h=>JO I hg hm hv ⟨v,H,I,r,h⟩ hn hd
variable{a b:vw}{ta tb:TE}{pos:Pos}
noncomputable def tB(t:TE):TT:=λσ H Q=>t σ H λx H1=>∃c,x=.bl c/\Q c H1
def jd{e:vw}{t:TE}(h:PE X e t)(he:x0 (∀whole,isTrue e X.env whole=(do let v<-whole;standAt e.pos;holding [v] (truthy v))) ww):PT X e (tB t):=by
 intro pins s σ H Q I hw
 refine isTrue_plain (thn (h pins s σ H _ I hw) λv s1 z=>?_) (he _)
 obtain⟨x,H1,I1,r1,q1⟩:=z
 obtain⟨d,rfl,q⟩:=q1
 cases r1
 exact wu ⟨H1,I1,q⟩
variable{tA tB':TT}{rest:Wp vw}
noncomputable def rE(t u:TT):TT:=λσ H Q=>t σ H λc H1=>if c=true then u σ H1 Q else Q false H1
noncomputable def tOr(t u:TT):TT:=λσ H Q=>t σ H λc H1=>if c=true then Q true H1 else u σ H1 Q
noncomputable def sW(t:TT):TT:=λσ H Q=>t σ H λc H1=>Q (!c) H1
def ar(ha:PT X a tA):PW X (.BoolOp .And [a] pos) tA:=by
 intro wh pins s σ H Q I h
 refine isTrue_and (thn (ha pins s σ H Q I h) λc s1 e=>?_)
 cases c with
 |true=>exact isTrue_and_nil e
 |false=>exact e
def gX(ha:PT X a tA):PW X (.BoolOp .Or [a] pos) tA:=by
 intro wh pins s σ H Q I h
 refine isTrue_or (thn (ha pins s σ H Q I h) λc s1 e=>?_)
 cases c with
 |false=>exact isTrue_or_nil e
 |true=>exact e
def iU(ha:PT X a tA)(hb:PW X (.BoolOp .And (b::rest) pos) tB'):PW X (.BoolOp .And (a::b::rest) pos) (rE tA tB'):=by
 intro wh pins s σ H Q I h
 refine isTrue_and (thn (ha pins s σ H _ I h) λc s1 ⟨H1,I1,q1⟩=>?_)
 cases c with
 |true=>exact hb wh pins s1 σ H1 Q I1 q1
 |false=>exact⟨H1,I1,q1⟩
def oZ(ha:PT X a tA)(hb:PW X (.BoolOp .Or (b::rest) pos) tB'):PW X (.BoolOp .Or (a::b::rest) pos) (tOr tA tB'):=by
 intro wh pins s σ H Q I h
 refine isTrue_or (thn (ha pins s σ H _ I h) λc s1 ⟨H1,I1,q1⟩=>?_)
 cases c with
 |true=>exact⟨H1,I1,q1⟩
 |false=>exact hb wh pins s1 σ H1 Q I1 q1
def fD(ha:PT X a tA):PT X (.UnaryOp .Not a pos) (sW tA):=by
 intro pins s σ H Q I h
 exact isTrue_not (ha pins s σ H (λc H1=>Q (!c) H1) I h)
noncomputable def ml(ta tb:TE):TE:=λσ H Q=>ta σ H λx H1=>∃c,x=.bl c/\if c=true then tb σ H1 Q else Q (.bl false) H1
noncomputable def sZ(ta tb:TE):TE:=λσ H Q=>ta σ H λx H1=>∃c,x=.bl c/\if c=true then Q (.bl true) H1 else tb σ H1 Q
noncomputable def ny(ta:TE):TE:=λσ H Q=>ta σ H λx H1=>∃c,x=.bl c/\Q (.bl (!c)) H1
def gO{op}{t:TE}(h:PE X a t):PE X (.BoolOp op [a] pos) t:=λpins s σ H Q I hw=>BoolOp_one (h pins s σ H Q I hw)
def jG(ha:PE X a ta)(hb:PE X (.BoolOp .And (b::rest) pos) tb):PE X (.BoolOp .And (a::b::rest) pos) (ml ta tb):=by
 intro pins s σ H Q I h
 refine BoolOp_and (thn (ha pins s σ H _ I h) λv s1 z=>?_)
 obtain⟨x,H1,I1,r1,q1⟩:=z
 obtain⟨c,rfl,q1⟩:=q1
 cases r1
 refine wu ?_
 cases c with
 |true=>exact hb pins s1 σ H1 Q I1 q1
 |false=>exact⟨.bl false,H1,I1,rfl,q1⟩
def md(ha:PE X a ta)(hb:PE X (.BoolOp .Or (b::rest) pos) tb):PE X (.BoolOp .Or (a::b::rest) pos) (sZ ta tb):=by
 intro pins s σ H Q I h
 refine BoolOp_or (thn (ha pins s σ H _ I h) λv s1 z=>?_)
 obtain⟨x,H1,I1,r1,q1⟩:=z
 obtain⟨c,rfl,q1⟩:=q1
 cases r1
 refine wu ?_
 cases c with
 |false=>exact hb pins s1 σ H1 Q I1 q1
 |true=>exact⟨.bl true,H1,I1,rfl,q1⟩
def gj(ha:PE X a ta):PE X (.UnaryOp .Not a pos) (ny ta):=by
 intro pins s σ H Q I h
 refine UnaryOp_ (thn (ha pins s σ H _ I h) λv s1 z=>?_)
 obtain⟨x,H1,I1,r1,q1⟩:=z
 obtain⟨c,rfl,q1⟩:=q1
 cases r1
 exact not_of (wu ⟨.bl (!c),H1,I1,rfl,q1⟩)
noncomputable def tIf(t:TT)(ta tb:TE):TE:=λσ H Q=>t σ H λc H1=>if c=true then ta σ H1 Q else tb σ H1 Q
def Yh{c:vw}(hc:PT X c tA)(ha:PE X a ta)(hb:PE X b tb):PE X (.IfExp c a b pos) (tIf tA ta tb):=by
 intro pins s σ H Q I h
 refine wpAny_IfExp (thn (hc pins s σ H _ I h) λd s1 ⟨H1,I1,q1⟩=>?_)
 cases d with
 |true=>exact ha pins s1 σ H1 Q I1 q1
 |false=>exact hb pins s1 σ H1 Q I1 q1
end
end L2
namespace L2
open PySem PySem.Spec PyProof.Rows
def SqL(K:uF)(H:Hp)(a:ue)(xs:Wp V):Prop:=
 Rd H a (.lst xs)∨
  ∃(o:Obj) (its:zE uT) (n:Nat),K.lookup a=Gc o/\o.cls=.type "list" /\o.dict=none/\o.data=.seq its n/\its.size<=sizeLine/\Vals xs its.toList
def SqT(K:uF)(H:Hp)(a:ue)(xs:Wp V):Prop:=
 Rd H a (.tup xs)∨
  ∃(o:Obj) (its:zE uT) (n:Nat),K.lookup a=Gc o/\o.cls=.type "tuple" /\o.data=.seq its n/\its.size<=sizeLine/\Vals xs its.toList
noncomputable def qi:uT->uM V
 | .none=>Gc .non
 | .bool b=>Gc (.bl b)
 | .int i _=>Gc (.int i)
 | .str x _=>Gc (.str x)
 | .bytes b _=>Gc (.byt b)
 | .float b _=>Gc (.flt b)
 | .ref a=>Gc (.ref a)
 | .type n=>Gc (.ty n)
 |_=>none
def RelV.abs{x:V}{u:uT}(r:RelV x u):qi u=Gc x:=by
 cases x with
 |non=>cases r;rfl
 |bl _=>cases r;rfl
 |int _=>obtain⟨t,rfl⟩:=r;rfl
 |str _=>obtain⟨t,rfl⟩:=r;rfl
 |byt _=>obtain⟨t,rfl⟩:=r;rfl
 |flt _=>obtain⟨t,rfl⟩:=r;rfl
 |ref _=>cases r;rfl
 |ty _=>cases r;rfl
def RelV.inj{x y:V}{u:uT}(r:RelV x u)(q:RelV y u):x=y:=wK (r.abs.symm.trans q.abs)
theorem Vals.inj:∀{xs ys:Wp V} {us:Wp uT},Vals xs us->Vals ys us->xs=ys
 |_,_,_,.nil,.nil=>rfl
 |_,_,_,.cons r t,.cons r' t'=>by rw[r.inj r',Vals.inj t t']
section
variable{X:Cx}{pins:Wp (ue×Obj)}{σ:St}{H:Hp}{s:uf}{a:ue}{xs ys:Wp V}
def SqL.of{K:uF}(h:H a=Gc (.lst xs)):SqL K H a xs:=.inl (.inl h)
def SqT.of{K:uF}(h:H a=Gc (.tup xs)):SqT K H a xs:=.inl (.inl h)
def Inv.list(I:Inv X pins σ H s)(h:SqL X.K H a xs):∃its:Wp uT,Vals xs its/\PlainL s.heap a its.toArray/\xs.length<=sizeLine:=by
 rcases h with h|⟨o,its,n,hk,hc,hd,hs,hz,r⟩
 .obtain⟨z,its,n,r,e⟩:=h.ok I.hok
  exact⟨its,r,⟨_,n,e,rfl,rfl,rfl⟩,z⟩
 .refine⟨its.toList,r,⟨o,n,I.kIn a o hk,hc,hd,by simpa using hs⟩,?_⟩
  have e:=r.length
  simp only[zR]at e
  lia
def Inv.tuple(I:Inv X pins σ H s)(h:SqT X.K H a xs):∃its:Wp uT,Vals xs its/\IsTup s.heap a its.toArray/\xs.length<=sizeLine:=by
 rcases h with h|⟨o,its,n,hk,hc,hs,hz,r⟩
 .obtain⟨z,its,r,p⟩:=h.ok I.hok
  exact⟨its,r,p,z⟩
 .refine⟨its.toList,r,⟨o,I.kIn a o hk,hc,n,by simpa using hs⟩,?_⟩
  have e:=r.length
  simp only[zR]at e
  lia
def Inv.TM(I:Inv X pins σ H s)(h:SqL X.K H a xs)(h':SqL X.K H a ys):xs=ys:=by
 obtain⟨its,r,⟨o,n,e,_,_,d⟩,_⟩:=I.list h
 obtain⟨its',r',⟨o',n',e',_,_,d'⟩,_⟩:=I.list h'
 rw[e]at e';cases e'
 rw[d]at d'
 injection d' with d1 _
 have:its=its':=by simpa using congrArg Array.toList d1
 subst this
 exact r.inj r'
def Inv.Qh(I:Inv X pins σ H s)(h:SqT X.K H a xs)(h':SqT X.K H a ys):xs=ys:=by
 obtain⟨its,r,⟨o,e,_,n,d⟩,_⟩:=I.tuple h
 obtain⟨its',r',⟨o',e',_,n',d'⟩,_⟩:=I.tuple h'
 rw[e]at e';cases e'
 rw[d]at d'
 injection d' with d1 _
 have:its=its':=by simpa using congrArg Array.toList d1
 subst this
 exact r.inj r'
end
abbrev Cx.Vy(X:Cx)(E:uT->uf->Prop):Cx:={X with xe:=E}
abbrev Cx.nox(X:Cx):Cx:=X.Vy λ_ _=>wq
def Cx.Ok.Vy{X:Cx}(ok:X.Ok)(E:uT->uf->Prop):(X.Vy E).Ok:=
 ⟨ok.mod,ok.kind,ok.glob,ok.blt,ok.above,ok.inj,ok.has,ok.cab,ok.hd,ok.frames,ok.stk,ok.exf,ok.bs,ok.bsz,ok.aM,ok.dv,ok.T7,ok.frf⟩
def Cx.Ok.Lg{X:Cx}{E:uT->uf->Prop}(ok:(X.Vy E).Ok):X.Ok:=
 ⟨ok.mod,ok.kind,ok.glob,ok.blt,ok.above,ok.inj,ok.has,ok.cab,ok.hd,ok.frames,ok.stk,ok.exf,ok.bs,ok.bsz,ok.aM,ok.dv,ok.T7,ok.frf⟩
section
variable{X:Cx}{pins:Wp (ue×Obj)}{σ:St}{H:Hp}{s:uf}{E:uT->uf->Prop}
def Inv.Vy(I:Inv X pins σ H s)(E:uT->uf->Prop):Inv (X.Vy E) pins σ H s:=⟨I.ok.Vy E,I.os,I.bare,I.base,I.loc,I.cell,I.free,I.LY,I.pin,I.hok,I.len⟩
def Inv.Lg(I:Inv (X.Vy E) pins σ H s):Inv X pins σ H s:=⟨I.ok.Lg,I.os,I.bare,I.base,I.loc,I.cell,I.free,I.LY,I.pin,I.hok,I.len⟩
def SP.Lg{s':uf}(h:SP (X.Vy E) pins D f s'):SP X pins D f s':=by
 cases f with
 |next=>obtain⟨σ',H',I,q⟩:=h;exact⟨σ',H',I.Lg,q⟩
 |brk=>obtain⟨σ',H',I,q⟩:=h;exact⟨σ',H',I.Lg,q⟩
 |cont=>obtain⟨σ',H',I,q⟩:=h;exact⟨σ',H',I.Lg,q⟩
 |ret u=>obtain⟨v,σ',H',I,r,q⟩:=h;exact⟨v,σ',H',I.Lg,r,q⟩
def PSs.nox{st:Wp vE}{t:TS}(h:PSs X.nox st t):PSs X st t:=λpins s σ H D I hw=>
 xJ (h pins s σ H D (I.Vy _) hw) (λ_ _ q=>q.Lg) λ_ _ z=>xA z
end
section
variable{X:Cx}{st:vE}{rest:Wp vE}{t u:TS}{e:vw}{te:TE}{pos:Pos}
noncomputable def oY:TS:=λD σ H=>D.nx σ H
noncomputable def tM(t u:TS):TS:=λD σ H=>t {D with nx:=u D} σ H
def WN:PSs X [] oY:=λ_ _ σ H _ I h=>ye ⟨σ,H,I,h⟩
def MK(h1:PS X st t)(h2:PSs X rest u):PSs X (st::rest) (tM t u):=by
 intro pins s σ H D I h
 refine yS (thn (h1 pins s σ H {D with nx:=u D} I h) λf s1 q=>?_)
 cases f with
 |next=>
  obtain⟨σ',H',I',q⟩:=q
  exact h2 pins s1 σ' H' D I' q
 |ret v=>exact q
 |brk=>exact q
 |cont=>exact q
def R5(h1:PS X st t):PSs X [st] t:=by
 intro pins s σ H D I h
 refine yS (thn (h1 pins s σ H D I h) λf s1 q=>?_)
 cases f with
 |next=>exact ye q
 |ret v=>exact q
 |brk=>exact q
 |cont=>exact q
noncomputable def fw:TS:=λD σ H=>D.bk σ H
def Yn:PS X (.Break pos) fw:=λ_ _ σ H _ I h=>wpAny_Break ⟨σ,H,I,h⟩
def Inv.quiet{pins:Wp (ue×Obj)}{σ:St}{s:uf}(I:Inv X pins σ H s):interactive X.env=false:=by simp[interactive,I.ok.kind]
noncomputable def lT(te:TE):TS:=λD σ H=>te σ H λ_ H1=>D.nx σ H1
def bE(he:PE X e te)(hs:x0 (swapsWith e none pos.line X.env=pure false) wv):PS X (.Expr e pos) (lT te):=by
 intro pins s σ H D I h
 exact wpAny_Expr_any (thn (he pins s σ H _ I h) λv s1 ⟨x,H1,I1,r1,q1⟩=>⟨σ,H1,I1,q1⟩) I.quiet hs
noncomputable def rz(te:TE):TS:=λD σ H=>te σ H D.rt
def Zx(he:PE X e te):PS X (.Return (Gc e) pos) (rz te):=by
 intro pins s σ H D I h
 exact wpAny_Return_some (thn (he pins s σ H _ I h) λv s1 ⟨x,H1,I1,r1,q1⟩=>⟨x,σ,H1,I1,r1,q1⟩)
noncomputable def si(c:TT)(t u:TS):TS:=λD σ H=>c σ H λb H1=>if b=true then t D σ H1 else u D σ H1
def gW{tc:TT}(hc:PT X c tc)(ha:PSs X a t)(hb:PSs X b u):PS X (.If c a b pos) (si tc t u):=by
 intro pins s σ H D I h
 refine wpAny_If (thn (hc pins s σ H _ I h) λd s1 ⟨H1,I1,q1⟩=>?_)
 cases d with
 |true=>exact ha pins s1 σ H1 D I1 q1
 |false=>exact hb pins s1 σ H1 D I1 q1
end
abbrev TG:=V->St->Hp->(St->Hp->Prop)->Prop
abbrev TGs:=Wp V->St->Hp->(St->Hp->Prop)->Prop
def PG(X:Cx)(target:vw)(t:TG):Prop:=
 ∀(pins:Wp (ue×Obj)) (s:uf) (σ:St) (H:Hp) (v:V) (u:uT) (Q:St->Hp->Prop),Inv X pins σ H s->RelV v u->t v σ H Q->
  wpAny (model X.prog X.w) X.A (assign target X.env u) (λ_ s'=>∃σ' H',Inv X pins σ' H' s'/\Q σ' H') X.xe s
def PGs(X:Cx)(ts:Wp vw)(t:TGs):Prop:=
 ∀(pins:Wp (ue×Obj)) (s:uf) (σ:St) (H:Hp) (vs:Wp V) (us:Wp uT) (Q:St->Hp->Prop),Inv X pins σ H s->Vals vs us->t vs σ H Q->
  wpAny (model X.prog X.w) X.A (assignInOrder ((assignEach ts X.env).map (·.2)) us) (λ_ s'=>∃σ' H',Inv X pins σ' H' s'/\Q σ' H') X.xe s
abbrev js:=V->V->V->Hp->(Hp->Prop)->Prop
def mM(X:Cx)(t:js):Prop:=
 ∀(pins:Wp (ue×Obj)) (s:uf) (σ:St) (H:Hp) (o i v:V) (ov iv u:uT) (Q:Hp->Prop),Inv X pins σ H s->RelV o ov->RelV i iv->RelV v u->t o i v H Q->
  wpAny (model X.prog X.w) X.A (setItem ov iv u) (λ_ s'=>∃H',Inv X pins σ H' s'/\Q H') X.xe s
abbrev TIp:=V->V->Hp->VK->Prop
def PIp(X:Cx)(op:Operator)(t:TIp):Prop:=
 ∀(pins:Wp (ue×Obj)) (s:uf) (σ:St) (H:Hp) (x y:V) (v u:uT) (Q:VK),Inv X pins σ H s->RelV x v->RelV y u->t x y H Q->
  wpAny (model X.prog X.w) X.A (inplaceOp op v u) (EP X pins σ Q) X.xe s
section
variable{X:Cx}{pos:Pos}
noncomputable def cY(i:Nat):TG:=λv σ H Q=>Q (σ.set i (Gc v)) H
def cH{i:Nat}{x:Str}(hN:X.N.Nodup)(hi:X.N[i]?=Gc x)(hx:Loc X.env.scope x)(hf:x0 (X.fn x=true\/X.env.scope.names.lookup x=Gc .local) xz):PG X (.Name x pos) (cY i):=by
 intro pins s σ H v u Q I r h
 exact wpAny_assign_Name (MF I hN hi hx r (λs' I'=>⟨_,H,I',h⟩) hf)
noncomputable def pN:TGs:=λvs σ H Q=>vs=[]/\Q σ H
noncomputable def fQ(t:TG)(u:TGs):TGs:=λvs σ H Q=>∃v r,vs=v::r/\t v σ H λσ' H'=>u r σ' H' Q
def dy:PGs X [] pN:=by
 intro pins s σ H vs us Q I r h
 obtain⟨e,h⟩:=h
 subst e
 cases r
 exact assignInOrder_nil ⟨σ,H,I,h⟩
def YB{u:TGs}(h1:PG X e t)(h2:PGs X es u)(hs:x0 ((assignEach (e::es) X.env).map (·.2)=assign e X.env::(assignEach es X.env).map (·.2)) wv):PGs X (e::es) (fQ t u):=by
 intro pins s σ H vs us Q I r h
 obtain⟨v,vr,e1,h⟩:=h
 subst e1
 cases r with
 |cons r rr=>
  rw[hs]
  refine zh (thn (h1 pins s σ H _ _ _ I r h) λ_ s1 z=>?_)
  obtain⟨σ1,H1,I1,q1⟩:=z
  exact h2 pins s1 σ1 H1 _ _ Q I1 rr q1
noncomputable def rO(K:uF)(n:Nat)(t:TGs):TG:=λv σ H Q=>∃a xs,v=.ref a/\SqT K H a xs/\xs.length=n/\t xs σ H Q
def fc{es:Wp vw}{k:Nat}{n:Nat}(hc:X.calm=true)(h:PGs X es t)(hn:x0 ((assignEach es X.env).length=n) wv)(hst:x0 ((assignEach es X.env).findIdx? (·.1)=none) wv):PG X (.Tuple es k pos) (rO X.K n t):=by
 intro pins s σ H v u Q I r hw
 obtain⟨a,xs,e1,hq,hl,hw⟩:=hw
 subst e1
 cases r
 obtain⟨its,rv,ht,hz⟩:=I.tuple hq
 refine assign_Tuple_tuple (I.ok.hd hc) ht (by simp[hn,<-hl,rv.length]) hst λh' hx=>?_
 have I1:Inv X pins σ H {s with heap:=h'}:=I.kept (t':=s.toks) λb o e=>hx b o (vG (uk e)) e
 exact h pins _ σ H xs _ Q I1 (by simpa using rv) hw
noncomputable def sF(to ti:TE)(t:js):TG:=λv σ H Q=>to σ H λo H1=>ti σ H1 λi H2=>t o i v H2 λH3=>Q σ H3
def ek {t:js}(ho:PE X o to)(hi:PE X i ti)(hs:mM X t)(ha:x0 (∀v,assign (.Subscript o i pos) X.env v=(do
      let ov ← holding [v] (eval o X.env)
      let iv ← holding [v, ov] (eval i X.env)
      standAt pos
      holding [v, ov, iv] (setItem ov iv v)
      release [v, ov, iv] [])) wr) : PG X (.Subscript o i pos) (sF to ti t) := by
  intro pins s σ H v u Q I r h
  rw [ha]
  refine uJ (wj (thn (ho pins s σ H _ I h) fun ov s1 ⟨x, H1, I1, r1, q1⟩ => ?_))
  refine uJ (wj (thn (hi pins s1 σ H1 _ I1 q1) fun iv s2 ⟨y, H2, I2, r2, q2⟩ => ?_))
  refine uJ (ya (uJ (wj (thn (hs pins s2 σ H2 x y v ov iv u _ I2 r1 r2 r q2) fun _ s3 ⟨H3, I3, q3⟩ => ?_))))
  exact wpAny_release ⟨σ, H3, I3, q3⟩
noncomputable def nU(te:TE)(g:TG):TS:=λD σ H=>te σ H λx H1=>g x σ H1 D.nx
def Zr{g:TG}(he:PE X e te)(hg:PG X tg g)(hs:x0 (swapsWithSole [tg] e pos.line X.env=pure false) wv)(hw:x0 (swappedStores [tg] e X.env=pure none) wv)(h1:x0 ((assignEach [tg] X.env).map (·.2)=[assign tg X.env]) wv):PS X (.Assign [tg] e pos) (nU te g):=by
 intro pins s σ H D I h
 refine ABT (thn (he pins s σ H _ I h) λv s1 z=>?_) hs hw
 obtain⟨x,H1,I1,r1,q1⟩:=z
 rw[h1]
 exact thn (hg pins s1 σ H1 x v _ I1 r1 q1) λ_ s2 q=>q
def Zc(hN:X.N.Nodup)(hi:X.N[i]?=Gc x)(hx:Loc X.env.scope x)(he:PE X e te)(hs:x0 (swapsWith e (Gc (.Name x pos')) pos.line X.env=pure false) wv)(hf:x0 (X.fn x=true\/X.env.scope.names.lookup x=Gc .local) xz):PS X (.Assign [.Name x pos'] e pos) (nU te (cY i)):=by
 intro pins s σ H D I h
 refine wpAny_Assign_Name (thn (he pins s σ H _ I h) λv s1 z=>?_) hs
 obtain⟨y,H1,I1,r1,q1⟩:=z
 exact MF I1 hN hi hx r1 (λs2 I2=>⟨_,H1,I2,q1⟩) hf
noncomputable def qk(i j:Nat)(ta:TA):TS:=λD σ H=>ta σ H λvs H1=>∃v w,vs=[v,w]/\D.nx ((σ.set i (Gc v)).set j (Gc w)) H1
def fY{kt k2 pt2}(hc:X.calm=true)(hN:X.N.Nodup)(hi:X.N[i]?=Gc x)(hj:X.N[j]?=Gc y)(hij:i≠j)(hx:X.env.scope.names.lookup x=Gc .local)(hy:X.env.scope.names.lookup y=Gc .local)(ha:PA X [a,b] ta)(hw:swappedStores [.Tuple [.Name x px,.Name y py] kt pt] (.Tuple [a,b] k2 pt2) X.env=pure (Gc [x,y]))(hs:x0 (swapsWithSole [.Tuple [.Name x px,.Name y py] kt pt] (.Tuple [a,b] k2 pt2) pos.line X.env=pure false) wv):PS X (.Assign [.Tuple [.Name x px,.Name y py] kt pt] (.Tuple [a,b] k2 pt2) pos) (qk i j ta):=by
 intro pins s σ H D I h
 rw[exec_Assign_arm]
 refine uJ (ya ?_)
 rw[hs]
 refine uJ (uq ?_)
 rw[vL (by decide)]
 refine uJ (Tuple_ (thn (ha _ pins s σ H _ I h) λus s1 z=>?_))
 obtain⟨vs,H1,I1,r1,q1⟩:=z
 obtain⟨v,w,e1,q1⟩:=q1
 subst e1
 obtain⟨u1,u2,rfl,rv,rw'⟩:∃u1 u2,us=[u1,u2]/\RelV v u1/\RelV w u2:=by
  cases r1 with
  |cons p q=>
   cases q with
   |cons p' q'=>
    cases q'
    exact⟨_,_,rfl,p,p'⟩
 refine wx ?_ (by show 2<=sizeLine;decide)
 have I2:Inv X pins σ H1 {s1 with heap:=s1.heap.push {cls:=.type "tuple",data:=.seq [u1,u2].toArray}}:=I1.kept (t':=s1.toks) λb o e=>uG _ e
 rw[hw]
 refine uJ (uq ?_)
 show wpAny (model X.prog X.w) X.A (do rule "assign.swapped-stores"; let items<-unpackItems (.ref s1.heap.objs.size) 2 none;assignInOrder [λv=>bindName X.env y v,λv=>bindName X.env x v] items.reverse;pure Flow.next) _ _ _
 refine uJ (AAj (uJ (unpackItems_tuple (items:= #[u1,u2]) (I.ok.hd hc) (yX s1.heap _) λh' hx'=>?_)))
 have I3:=I2.kept (h':=h') (t':=s1.toks) λb o e=>hx' b o (vG (uk e)) e
 show wpAny _ _ (assignInOrder [λv=>bindName X.env y v,λv=>bindName X.env x v] [u2,u1] >>= λ_=>pure Flow.next) _ _ _
 refine uJ (zh (wpAny_bindName (MF I3 hN hj (.inl hy) rw' (λs2 I4=>?_) (.inr hy))))
 refine zh (wpAny_bindName (MF I4 hN hi (.inl hx) rv (λs3 I5=>assignInOrder_nil (uq ?_)) (.inr hx)))
 rw[List.set_comm _ _ (vj hij)]at I5
 exact⟨_,H1,I5,q1⟩
noncomputable def oo(to ti te:TE)(tget:V->V->Hp->VK->Prop)(tip:TIp)(tset:js):TS:=λD σ H=>to σ H λo H1=>ti σ H1 λi H2=>tget o i H2 λx H3=>te σ H3 λy H4=>tip x y H4 λz H5=>tset o i z H5 λH6=>D.nx σ H6
def pP(X:Cx)(t:V->V->Hp->VK->Prop):Prop:=
 ∀(pins:Wp (ue×Obj)) (s:uf) (σ:St) (H:Hp) (o i:V) (ov iv:uT) (Q:VK),Inv X pins σ H s->RelV o ov->RelV i iv->t o i H Q->
  wpAny (model X.prog X.w) X.A (getItem ov iv) (EP X pins σ Q) X.xe s
def dH(ho:PE X o to)(hi:PE X i ti)(hg:pP X tget)(he:PE X e te)(hp:PIp X op tip)(hs:mM X tset)(ha:x0 (∀ov iv new,augStore i ov iv new=(do holding [new,ov,iv] (setItem ov iv new);release [new,ov,iv] [];pure .next)) wp):PS X (.AugAssign (.Subscript o i tpos) op e pos) (oo to ti te tget tip tset):=by
 intro pins s σ H D I h
 refine wpAny_AugAssign_SubscriptAny (thn (ho pins s σ H _ I h) λov s1 z=>?_) ha
 obtain⟨x1,H1,I1,r1,q1⟩:=z
 refine thn (hi pins s1 σ H1 _ I1 q1) λiv s2 z=>?_
 obtain⟨x2,H2,I2,r2,q2⟩:=z
 refine thn (hg pins s2 σ H2 x1 x2 ov iv _ I2 r1 r2 q2) λold s3 z=>?_
 obtain⟨x3,H3,I3,r3,q3⟩:=z
 refine thn (he pins s3 σ H3 _ I3 q3) λv s4 z=>?_
 obtain⟨x4,H4,I4,r4,q4⟩:=z
 refine thn (hp pins s4 σ H4 x3 x4 old v _ I4 r3 r4 q4) λnew s5 z=>?_
 obtain⟨x5,H5,I5,r5,q5⟩:=z
 exact thn (hs pins s5 σ H5 x1 x2 x5 ov iv new _ I5 r1 r2 r5 q5) λ_ s6 ⟨H6,I6,q6⟩=>⟨σ,H6,I6,q6⟩
noncomputable def ipI(f:Int->Int->Int):TIp:=λx y H Q=>∃i j,x=.int i/\y=.int j/\Q (.int (f i j)) H
def iQ:PIp X .Sub (ipI λi j=>i-j):=by
 intro pins s σ H x y v u Q I r1 r2 h
 obtain⟨i,j,e1,e2,q⟩:=h
 subst e1;subst e2
 obtain⟨t,rfl⟩:=r1
 obtain⟨t',rfl⟩:=r2
 exact isub_int ⟨.int _,H,I.tok _,⟨_,rfl⟩,q⟩
end
section
variable{X:Cx}{pos:Pos}
noncomputable def fZ(c:TT)(tb:TS):TS:=λD σ H=>∃W:Nat->St->Hp->Prop,(∃m,W m σ H)/\∀m σ H,W m σ H->
 c σ H λb H1=>if b=true then∃N:St->Hp->Prop,(∀σ' H',N σ' H'->∃m',m'<m/\W m' σ' H')/\tb {D with nx:=N,ct:=N,bk:=D.nx} σ H1 else D.nx σ H1
def Xt{tb:TS}(hp:ABR (model X.prog X.w) X.A X.env X.xe)(hc:PT X c tc)(hb:PSs X body tb):PS X (.While c body [] pos) (fZ tc tb):=by
 intro pins s σ H D I h
 obtain⟨W,⟨m0,w0⟩,turn⟩:=h
 refine wpAny_While (codeAny_whileLoop (λn s'=>∃σ' H',Inv X pins σ' H' s'/\W n σ' H') ?_ m0 ⟨σ,H,I,w0⟩)
 rintro n s1 ⟨σ1,H1,I1,w1⟩
 refine xY hp (thn (hc pins s1 σ1 H1 _ I1 (turn n σ1 H1 w1)) λb s2 ⟨H2,I2,q2⟩=>?_)
 cases b with
 |true=>
  obtain⟨N,hN,q2⟩:=q2
  rw[vF rfl]
  refine xY hp (thn (hb pins s2 σ1 H2 _ I2 q2) λf s3 q3=>?_)
  cases f with
  |next=>
   obtain⟨σ3,H3,I3,n3⟩:=q3
   obtain⟨m',hm,w3⟩:=hN σ3 H3 n3
   exact⟨m',hm,σ3,H3,I3,w3⟩
  |cont=>
   obtain⟨σ3,H3,I3,n3⟩:=q3
   obtain⟨m',hm,w3⟩:=hN σ3 H3 n3
   exact⟨m',hm,σ3,H3,I3,w3⟩
  |brk=>exact q3
  |ret v=>exact q3
 |false=>
  rw[vL vO]
  exact ye ⟨σ1,H2,I2,q2⟩
end
structure It where
 go:Nat->Hp->Prop
 yld:Nat->Hp->V->Hp->Prop
 stop:Nat->Hp->Prop
def Ra(X:Cx)(pins:Wp (ue×Obj))(H:Hp)(b:ue):Prop:=
 H b=none/\b≠X.env.locals/\b∉X.fs/\(b∈X.ex\/X.s₀.heap.objs.size<=b)/\(∀x c,X.env.cells.lookup x=Gc c->c≠b)/\∀p∈X.pn++pins,p.1≠b
def Inv.dw{pins:Wp (ue×Obj)}{σ:St}{b:ue}(I:Inv X pins σ H s)(hb:s.heap.objs.size<=b)(hn:H' b=none):Ra X pins H' b:=by
 refine⟨hn,yl (uI I.lt hb),I.qy hb,.inr (uH I.sz hb),λx c e z=>?_,λp hp z=>?_⟩
 .obtain⟨v,q⟩:=I.cell x c e
  exact absurd (uI q.lt (by rw[z];exact hb)) (wO _)
 .exact absurd (uI (uk (I.pin p hp).1) (by rw[z];exact hb)) (wO _)
structure Turn(P:vg)(w:v9)(K:uF)(tg:vw)(J:It)(fp:Wp ue)(it:ue)(tn:Nat->vo->Prop):Prop where
 mem:it∈fp
 obj:∀i h,tn i h->∀b∈fp,∃o,h.get? b=Gc o/\∀v,o.data≠.cell v
 keep:∀i h h',tn i h->(∀b∈fp,∀o,h.get? b=Gc o->h'.get? b=Gc o)->tn i h'
 item:∀(X:Cx),X.prog=P->X.w=w->X.K=K->X.calm=true->∀(i:Nat) (pins:Wp (ue×Obj)) (s:uf) (σ:St) (H:Hp) (E:uT->uf->Prop),Inv X pins σ H s->(∀b∈fp,Ra X pins H b)->tn i s.heap->J.go i H->
  wpAny (model P w) X.A (pyNext (.ref it)) (λr s1=>∃u,r=Gc u/\
   wpAny (model P w) X.A (letOwnedTupleGo tg (.ref it) u) (λ_ s2=>∃x H',Inv X pins σ H' s2/\RelV x u/\J.yld i H x H'/\tn (i+1) s2.heap/\∀b∈fp,H' b=none) E s1) E s
 done:∀(X:Cx),X.prog=P->X.w=w->X.K=K->X.calm=true->∀(i:Nat) (pins:Wp (ue×Obj)) (s:uf) (σ:St) (H:Hp) (E:uT->uf->Prop),Inv X pins σ H s->(∀b∈fp,Ra X pins H b)->tn i s.heap->J.stop i H->
  wpAny (model P w) X.A (pyNext (.ref it)) (λr s1=>r=none/\Inv X pins σ H s1) E s
 self:∀(A:xV) (i:Nat) (s:uf) (Q:uT->uf->Prop) (E:uT->uf->Prop),tn i s.heap->Q (.ref it) s->wpAny (model P w) A (pyIter (.ref it)) Q E s
abbrev TI:=St->Hp->(It->Hp->Prop)->Prop
def PIE(X:Cx)(pins:Wp (ue×Obj))(σ:St)(tg:vw)(R:It->Hp->Prop)(itv:uT)(s2:uf):Prop:=
 ∃(it:ue) (fp:Wp ue) (tn:Nat->vo->Prop) (J:It) (H':Hp),itv=.ref it/\Inv X pins σ H' s2/\Turn X.prog X.w X.K tg J fp it tn/\tn 0 s2.heap/\(∀b∈fp,Ra X pins H' b)/\R J H'
def PI(X:Cx)(tg iter:vw)(wi:TI):Prop:=
 ∀(pins:Wp (ue×Obj)) (s:uf) (σ:St) (H:Hp) (R:It->Hp->Prop),Inv X pins σ H s->wi σ H R->
  wpAny (model X.prog X.w) X.A (eval iter X.env) (λv s1=>wpAny (model X.prog X.w) X.A (pyIter v) (PIE X pins σ tg R) X.xe s1) X.xe s
def bU(ho:s.heap.get? it=Gc o)(hc:o.cls=.type n)(hd:o.data=.fields vs)(hn:["enumerate","zip","dict_itemiterator","dict_reverseitemiterator","odict_iterator","itertools.zip_longest","itertools.pairwise"].contains n=false)(hQ:Q () s):wpAny M A (letOwnedTupleGo tg (.ref it) u) Q E s:=by
 unfold letOwnedTupleGo
 cases tg<;>first
  |exact uq hQ
  |(cases u<;>first
     |exact uq hQ
     |(refine uJ (wpAny_load ho ?_)
       rw[hc,hd]
       show wpAny M A (if(["enumerate","zip","dict_itemiterator","dict_reverseitemiterator","odict_iterator","itertools.zip_longest","itertools.pairwise"].contains n && vs[0]?==Gc (rawInt _))=true then _ else _) Q E s
       rw[vL (by intro h;rw[hn,Bool.false_and]at h;cases h)]
       exact uq hQ))
noncomputable def Itl(K:uF)(a:ue):It:=
 ⟨λi H=>∃xs x,SqL K H a xs/\xs[i]?=Gc x,λi H x H'=>H'=H/\∀xs,SqL K H a xs->xs[i]?=Gc x,λi H=>∃xs,SqL K H a xs/\xs.length<=i⟩
noncomputable def Itt(K:uF)(a:ue):It:=
 ⟨λi H=>∃xs x,SqT K H a xs/\xs[i]?=Gc x,λi H x H'=>H'=H/\∀xs,SqT K H a xs->xs[i]?=Gc x,λi H=>∃xs,SqT K H a xs/\xs.length<=i⟩
noncomputable def Itr(lo:Int)(n:Nat):It:=⟨λi _=>i<n,λi H x H'=>H'=H/\x=.int (lo+i),λi _=>n<=i⟩
theorem Vu{K:uF}(a it:ue):Turn P w K tg (Itl K a) [it] it (λi h=>h.IsListIter it a i) where
 mem:=by simp
 obj:=λi h st b hb=>by
  have e:b=it:=by simpa using hb
  subst e
  obtain⟨o,e,c,d⟩:=st
  exact⟨o,e,λv z=>by rw[d]at z;cases z⟩
 keep:=λi h h' st k=>st.at λo e=>k it (by simp) o e
 item:=by
  intro X hP hw hK hc i pins s σ H E I hf st hg
  subst hP hw hK
  obtain⟨xs,x,hq,hx⟩:=hg
  obtain⟨its,rv,p,hz⟩:=I.list hq
  obtain⟨u,hu,ru⟩:=rv.get hx
  obtain⟨f0,f1,f2,f3,f4,f5⟩:=hf it (by simp)
  refine ym st p.isList (x:=u) (by simpa using hu) λh' st' sb=>?_
  have I1:Inv X pins σ H {s with heap:=h'}:=I.turned (t':=s.toks) (λb o hb e=>(sb.2 b hb).trans e) f0 f1 f3 f4 f5
  obtain⟨o,e,c,d⟩:=id st'
  exact⟨u,rfl,bU (s:={s with heap:=h'}) e c d (by decide) ⟨x,H,I1,ru,⟨rfl,λys hy=>by rw[I.TM hy hq];exact hx⟩,st',λb hb=>(hf b hb).1⟩⟩
 done:=by
  intro X hP hw hK hc i pins s σ H E I hf st hg
  subst hP hw hK
  obtain⟨xs,hq,hx⟩:=hg
  obtain⟨its,rv,p,hz⟩:=I.list hq
  obtain⟨f0,f1,f2,f3,f4,f5⟩:=hf it (by simp)
  have hl:=rv.length
  exact yy (I.ok.hd hc) st p.isList (by simp;lia) λh' eb=>⟨rfl,I.turned (t':=s.toks) (λb o hb e=>eb b o hb e) f0 f1 f3 f4 f5⟩
 self:=λ_ _ _ _ _ st h=>AA8 st h
theorem Tx{K:uF}(a it:ue):Turn P w K tg (Itt K a) [it] it (λi h=>h.IsTupleIter it a i) where
 mem:=by simp
 obj:=λi h st b hb=>by
  have e:b=it:=by simpa using hb
  subst e
  obtain⟨o,e,c,d⟩:=st
  exact⟨o,e,λv z=>by rw[d]at z;cases z⟩
 keep:=λi h h' st k=>st.at λo e=>k it (by simp) o e
 item:=by
  intro X hP hw hK hc i pins s σ H E I hf st hg
  subst hP hw hK
  obtain⟨xs,x,hq,hx⟩:=hg
  obtain⟨its,rv,p,hz⟩:=I.tuple hq
  obtain⟨u,hu,ru⟩:=rv.get hx
  obtain⟨f0,f1,f2,f3,f4,f5⟩:=hf it (by simp)
  refine wpAny_pyNext_tuple_item st (show s.heap.IsTuple a its.toArray from p) (x:=u) (by simpa using hu) λh' st' sb=>?_
  have I1:Inv X pins σ H {s with heap:=h'}:=I.turned (t':=s.toks) (λb o hb e=>(sb.2 b hb).trans e) f0 f1 f3 f4 f5
  obtain⟨o,e,c,d⟩:=id st'
  exact⟨u,rfl,bU (s:={s with heap:=h'}) e c d (by decide) ⟨x,H,I1,ru,⟨rfl,λys hy=>by rw[I.Qh hy hq];exact hx⟩,st',λb hb=>(hf b hb).1⟩⟩
 done:=by
  intro X hP hw hK hc i pins s σ H E I hf st hg
  subst hP hw hK
  obtain⟨xs,hq,hx⟩:=hg
  obtain⟨its,rv,p,hz⟩:=I.tuple hq
  obtain⟨f0,f1,f2,f3,f4,f5⟩:=hf it (by simp)
  have hl:=rv.length
  exact wpAny_pyNext_tuple_end (I.ok.hd hc) st (show s.heap.IsTuple a its.toArray from p) (by simp;lia) λh' eb=>⟨rfl,I.turned (t':=s.toks) (λb o hb e=>eb b o hb e) f0 f1 f3 f4 f5⟩
 self:=λ_ _ _ _ _ st h=>wpAny_pyIter_tupleiter st h
theorem Uc{K:uF} it lo n:Turn P w K tg (Itr lo n) [it] it (λi h=>IsRangeIter h it (lo+(i:Nat)*1) ((n:Int)-(i:Nat)) 1) where
 mem:=by simp
 obj:=λi h st b hb=>by
  have e:b=it:=by simpa using hb
  subst e
  exact⟨_,st,λv z=>by
   have z':Data.fields _=Data.cell v:=z
   cases z'⟩
 keep:=λi h h' st k=>k it (by simp) _ st
 item:=by
  intro X hP hw hK hc i pins s σ H E I hf st hg
  subst hP hw hK
  obtain⟨f0,f1,f2,f3,f4,f5⟩:=hf it (by simp)
  have W:=Walks.range (prog:=X.prog) (w:=X.w) (I.ok.hd hc) it lo 1 n
  refine W.item i s _ _ hg st λv h' tk hv st' kk=>?_
  obtain⟨t,rfl⟩:=hv
  have I1:Inv X pins σ H {s with heap:=h',toks:=tk}:=I.turned (λb o hb e=>kk b o (by simpa using hb) e) f0 f1 f3 f4 f5
  refine⟨_,rfl,bU (s:={s with heap:=h',toks:=tk}) (n:="range_iterator") st' rfl rfl (by decide) ⟨.int (lo+i),H,I1,⟨t,?_⟩,⟨rfl,rfl⟩,st',λb hb=>(hf b hb).1⟩⟩
  rw[Int.mul_one]
 done:=by
  intro X hP hw hK hc i pins s σ H E I hf st hg
  subst hP hw hK
  obtain⟨f0,f1,f2,f3,f4,f5⟩:=hf it (by simp)
  exact wpAny_pyNext_range_end (I.ok.hd hc) st (by have:n<=i:=hg;lia) λh' eb=>⟨rfl,I.turned (t':=s.toks) (λb o hb e=>eb b o hb e) f0 f1 f3 f4 f5⟩
 self:=λ_ _ _ _ _ st h=>wpAny_pyIter_rangeiter st h
end L2
namespace L2
open PySem PySem.Spec PyProof.Rows
section
variable{X:Cx}{tg:vw}
def Xm{σ:St}{lo hi:Int}(I:Inv X pins σ H s)(h1: -(2^62)<=lo)(h2:lo<2^62)(h3: -(2^62)<=hi)(h4:hi<2^62)(q:R (Itr lo (hi-lo).toNat) H):wpAny (model X.prog X.w) X.A (pyIter (.ref s.heap.objs.size)) (PIE X pins σ tg R) E {s with heap:=s.heap.push {cls:=.type "range",data:=.fields #[.int lo t,.int hi u,.int 1 v]},toks:=tk}:=by
 refine wpAny_pyIter_range (IsRange.new ..) (small_one h1 h2 h3 h4) ?_
 have I1:Inv X pins σ H {s with heap:=s.heap.push {cls:=.type "range",data:=.fields #[.int lo t,.int hi u,.int 1 v]},toks:=tk}:=I.kept λb o e=>uG _ e
 refine⟨(s.heap.push {cls:=.type "range",data:=.fields #[.int lo t,.int hi u,.int 1 v]}).objs.size,[(s.heap.push {cls:=.type "range",data:=.fields #[.int lo t,.int hi u,.int 1 v]}).objs.size],_,_,H,rfl,
  I1.kept (t':=tk) λb o e=>uG _ e,Uc _ lo (hi-lo).toNat,?_,λb hb=>?_,q⟩
 .have e1:lo+((0:Nat):Int)*1=lo:=by simp
  have e2:(((hi-lo).toNat:Nat):Int)-((0:Nat):Int)=Builtin.Range.rangeSize lo hi 1:=by rw[rangeSize_one];split<;>lia
  show IsRangeIter _ _ (lo+((0:Nat):Int)*1) ((((hi-lo).toNat:Nat):Int)-((0:Nat):Int)) 1
  rw[e1,e2]
  exact uw _ rfl
 .have e:b=(s.heap.push {cls:=.type "range",data:=.fields #[.int lo t,.int hi u,.int 1 v]}).objs.size:=by simpa using hb
  subst e
  exact I1.dw (uP _) (I1.hok.fresh (uP _))
noncomputable def lU(ta:TA):TI:=λσ H R=>ta σ H λvs H1=>∃j:Int,vs=[.int j]/\ -(2^62)<=j/\j<2^62/\R (Itr 0 j.toNat) H1
def Wq{p pos:Pos}(hg:Gl X "range")(hm:X.mg "range"=none)(ha:PA X [a] ta)(hs:x0 (um [a] X.env=[(false,eval a X.env)]) wv):PI X tg (.Call (.Name "range" p) [a] [] pos) (lU ta):=by
 intro pins s σ H R I h
 refine Call_ (JO I hg hm boot_range (vx (thn (ha pos pins s σ H _ I h) λus s1 z=>?_) hs rfl))
 obtain⟨vs,H1,I1,r1,q1⟩:=z
 obtain⟨j,e,q1,q2,q⟩:=q1
 subst e
 cases r1 with
 |cons r rr=>
  cases rr
  obtain⟨t,rfl⟩:=r
  exact call_range_1 (Xm I1 (by lia) (by lia) q1 q2 (by simpa using q))
noncomputable def sI(wi:TI)(g:TG)(tb:TS):TS:=λD σ H=>wi σ H λJ H1=>∃W:Nat->Nat->St->Hp->Prop,(∃m,W 0 m σ H1)/\∀i m σ H,W i m σ H->
 (J.stop i H/\D.nx σ H)\/(J.go i H/\∃N:St->Hp->Prop,(∀σ' H',N σ' H'->∃m',m'<m/\W (i+1) m' σ' H')/\∀x H',J.yld i H x H'->g x σ H' λσ2 H2=>tb {D with nx:=N,ct:=N,bk:=D.nx} σ2 H2)
noncomputable def QA(fp:Wp ue)(h:vo):Wp (ue×Obj):=fp.filterMap λb=>(h.get? b).map λo=>(b,o)
def Ip{o:Obj}(hb:b∈fp)(e:h.get? b=Gc o):(b,o)∈QA fp h:=zk.mpr ⟨b,hb,by rw[e];rfl⟩
def Wm{p:ue×Obj}(hp:p∈QA fp h):p.1∈fp/\h.get? p.1=Gc p.2:=by
 obtain⟨b,hb,e⟩:=zk.mp hp
 cases q:h.get? b with
 |none=>rw[q]at e;cases e
 |some o=>
  rw[q]at e
  have e':(b,o)=p:=wK e
  subst e'
  exact⟨hb,q⟩
def Inv.pinned{σ:St}(I:Inv X pins σ H s)(hf:∀b∈fp,Ra X pins H b)(ho:∀b∈fp,∃o,s.heap.get? b=Gc o/\∀v,o.data≠.cell v):Inv X (pins++QA fp s.heap) σ H s:=
 I.WO λp hp=>(vH.mp hp).elim (λz=>I.pin p (vN _ z)) λz=>by
  obtain⟨hb,e⟩:=Wm z
  obtain⟨f0,f1,f2,_⟩:=hf p.1 hb
  obtain⟨o,e',d⟩:=ho p.1 hb
  rw[e]at e';cases e'
  exact⟨e,f0,f1,f2,d⟩
def Inv.MN{pins pl:Wp (ue×Obj)}{σ:St}{s:uf}(I:Inv X (pins++pl) σ H s):Inv X pins σ H s:=I.WO λp hp=>I.pin p (vN _ (zF _ hp))
def aP(hp:ABR (model X.prog X.w) X.A X.env X.xe)(hc:X.calm=true)(hi:PI X tg iter wi)(hg:PG X tg g)(hb:PSs X body tb)(hs:x0 (∀x,foldedSetIterable iter X.env x=pure x) ww):PS X (.For tg iter body [] pos) (sI wi g tb):=by
 intro pins s σ H D I h
 refine wpAny_For (thn (hi pins s σ H _ I h) λv s1 h1=>thn h1 λitv s2 h2=>?_) hs
 obtain⟨it,fp,tn,J,H2,e,I2,T,st2,f2,W,⟨m0,w0⟩,turn⟩:=h2
 subst e
 have stat:∀{H':Hp},(∀b∈fp,H' b=none)->∀b∈fp,Ra X pins H' b:=λhn b hb=>⟨hn b hb,(f2 b hb).2⟩
 refine codeAny_forLoop_any (λn s'=>∃i σ' H',Inv X pins σ' H' s'/\tn i s'.heap/\(∀b∈fp,H' b=none)/\W i n σ' H') ?_ m0 ⟨0,σ,H2,I2,st2,λb hb=>(f2 b hb).1,w0⟩
 rintro n s3 ⟨i,σ3,H3,I3,st3,fr3,w3⟩
 rcases turn i n σ3 H3 w3 with⟨stop,qn⟩|⟨go,N,hN,step⟩
 .refine xY hp (thn (T.done X rfl rfl rfl hc i pins s3 σ3 H3 X.xe I3 (stat fr3) st3 stop) λr s4 ⟨hr,I4⟩=>?_)
  subst hr
  exact ye ⟨σ3,H3,I4,qn⟩
 .refine xY hp (thn (T.item X rfl rfl rfl hc i pins s3 σ3 H3 X.xe I3 (stat fr3) st3 go) λr s4 ⟨u,hr,h4⟩=>?_)
  subst hr
  refine xY hp (thn h4 λ_ s5 z=>?_)
  obtain⟨x,H5,I5,r5,y5,st5,fr5⟩:=z
  have I5':=I5.pinned (stat fr5) (T.obj _ _ st5)
  refine xY hp (thn (hg _ s5 σ3 H5 x u _ I5' r5 (step x H5 y5)) λ_ s6 z=>?_)
  obtain⟨σ6,H6,I6,q6⟩:=z
  refine xY hp (thn (hb _ s6 σ6 H6 _ I6 q6) λf s7 q7=>?_)
  have again:∀{σ7:St} {H7:Hp},Inv X (pins++QA fp s5.heap) σ7 H7 s7->N σ7 H7->∃m,m<n/\∃i σ' H',Inv X pins σ' H' s7/\tn i s7.heap/\(∀b∈fp,H' b=none)/\W i m σ' H':=λ{σ7 H7} I7 n7=>by
   obtain⟨m',hm,w7⟩:=hN σ7 H7 n7
   refine⟨m',hm,i+1,σ7,H7,I7.MN,T.keep _ _ _ st5 λb hb o e=>(I7.pin (b,o) (vN _ (vN _ (Ip hb e)))).1,λb hb=>?_,w7⟩
   obtain⟨o,e,d⟩:=T.obj _ _ st5 b hb
   exact(I7.pin (b,o) (vN _ (vN _ (Ip hb e)))).2.1
  cases f with
  |next=>obtain⟨σ7,H7,I7,n7⟩:=q7;exact again I7 n7
  |cont=>obtain⟨σ7,H7,I7,n7⟩:=q7;exact again I7 n7
  |brk=>obtain⟨σ7,H7,I7,q7⟩:=q7;exact⟨σ7,H7,I7.MN,q7⟩
  |ret v=>obtain⟨x7,σ7,H7,I7,r7,q7⟩:=q7;exact⟨x7,σ7,H7,I7.MN,r7,q7⟩
end
end L2
namespace L2
open PySem PySem.Spec PyProof.Rows
abbrev R2:=V->V->Hp->VK->Prop
def OpR(X:Cx)(f:uT->uT->Sem uT)(r:R2):Prop:=
 ∀(pins:Wp (ue×Obj)) (s:uf) (σ:St) (H:Hp) (x y:V) (v u:uT) (Q:VK),Inv X pins σ H s->RelV x v->RelV y u->r x y H Q->
  wpAny (model X.prog X.w) X.A (f v u) (EP X pins σ Q) X.xe s
def UnR(X:Cx)(f:uT->Sem uT)(r:V->Hp->VK->Prop):Prop:=
 ∀(pins:Wp (ue×Obj)) (s:uf) (σ:St) (H:Hp) (x:V) (v:uT) (Q:VK),Inv X pins σ H s->RelV x v->r x H Q->
  wpAny (model X.prog X.w) X.A (f v) (EP X pins σ Q) X.xe s
def EW(X:Cx)(f:uT)(r:Wp V->Hp->VK->Prop):Prop:=
 ∀(pins:Wp (ue×Obj)) (s:uf) (σ:St) (H:Hp) (xs:Wp V) (us:Wp uT) (Q:VK),Inv X pins σ H s->Vals xs us->r xs H Q->
  wpAny (model X.prog X.w) X.A (call f us) (EP X pins σ Q) X.xe s
noncomputable def tOp(r:R2)(ta tb:TE):TE:=λσ H Q=>ta σ H λx H1=>tb σ H1 λy H2=>r x y H2 Q
noncomputable def tUn(r:V->Hp->VK->Prop)(ta:TE):TE:=λσ H Q=>ta σ H λx H1=>r x H1 Q
noncomputable def rI(C:Int->Int->Prop)(g:Int->Int->V):R2:=λx y H Q=>∃i j,x=.int i/\y=.int j/\C i j/\Q (g i j) H
noncomputable def rI0(g:Int->Int->V):R2:=λx y H Q=>∃i j,x=.int i/\y=.int j/\Q (g i j) H
def rU(g:Int->V):V->Hp->VK->Prop:=λx H Q=>∃i,x=.int i/\Q (g i) H
section
variable{X:Cx}{a b c:vw}{ta tb tc:TE}{pos:Pos}
def lV(ha:PE X a ta)(hb:PE X b tb){σ:St}{R:V->V->Hp->Prop}(I:Inv X pins σ H s)(h:ta σ H λx H1=>tb σ H1 λy H2=>R x y H2){f:uT->uT->Sem uT}(hf:∀v u s2 x y H2,Inv X pins σ H2 s2->RelV x v->RelV y u->R x y H2->wpAny (model X.prog X.w) X.A (f v u) Q X.xe s2):wpAny (model X.prog X.w) X.A (eval a X.env) (λv s₁=>wpAny (model X.prog X.w) X.A (eval b X.env) (λu s₂=>wpAny (model X.prog X.w) X.A (f v u) Q X.xe s₂) X.xe s₁) X.xe s:=by
 refine thn (ha pins s σ H _ I h) λv s1 z=>?_
 obtain⟨x,H1,I1,r1,q1⟩:=z
 refine thn (hb pins s1 σ H1 _ I1 q1) λu s2 z=>?_
 obtain⟨y,H2,I2,r2,q2⟩:=z
 exact hf v u s2 x y H2 I2 r1 r2 q2
def mx{op:Operator}{r:R2}(ho:OpR X (binaryOp op) r)(ha:PE X a ta)(hb:PE X b tb):PE X (.BinOp a op b pos) (tOp r ta tb):=by
 intro pins s σ H Q I h
 exact wpAny_BinOp (lV ha hb I h λv u s2 x y H2 I2 rx ry q=>ho pins s2 σ H2 x y v u Q I2 rx ry q)
def oq{op:UnaryOp}{r:V->Hp->VK->Prop}(ho:UnR X (unaryOp op) r)(ha:PE X a ta):PE X (.UnaryOp op a pos) (tUn r ta):=by
 intro pins s σ H Q I h
 exact UnaryOp_ (thn (ha pins s σ H _ I h) λv s1 ⟨x,H1,I1,r1,q1⟩=>ho pins s1 σ H1 x v Q I1 r1 q1)
def opI{C:Int->Int->Prop}{g:Int->Int->Int}(rule:∀i j (t u:Tok) s Q E,C i j->Q (.int (g i j) s.toks) {s with toks:=s.toks+1}->wpAny (model X.prog X.w) X.A (f (.int i t) (.int j u)) Q E s):OpR X f (rI C λi j=>.int (g i j)):=by
 intro pins s σ H x y v u Q I rx ry h
 obtain⟨i,j,rfl,rfl,hc,q⟩:=h
 obtain⟨t,rfl⟩:=rx
 obtain⟨t',rfl⟩:=ry
 exact rule i j t t' s _ _ hc ⟨.int (g i j),H,I.tok _,⟨_,rfl⟩,q⟩
def qB{g:Int->Int->Int}(rule:∀i j (t u:Tok) s Q E,Q (.int (g i j) s.toks) {s with toks:=s.toks+1}->wpAny (model X.prog X.w) X.A (f (.int i t) (.int j u)) Q E s):OpR X f (rI0 λi j=>.int (g i j)):=by
 intro pins s σ H x y v u Q I rx ry h
 obtain⟨i,j,rfl,rfl,q⟩:=h
 obtain⟨t,rfl⟩:=rx
 obtain⟨t',rfl⟩:=ry
 exact rule i j t t' s _ _ ⟨.int (g i j),H,I.tok _,⟨_,rfl⟩,q⟩
def k9{g:Int->Int->va}(rule:∀i j (t u:Tok) s Q E,Q (.bool (g i j)) s->wpAny (model X.prog X.w) X.A (f (.int i t) (.int j u)) Q E s):OpR X f (rI0 λi j=>.bl (g i j)):=by
 intro pins s σ H x y v u Q I rx ry h
 obtain⟨i,j,rfl,rfl,q⟩:=h
 obtain⟨t,rfl⟩:=rx
 obtain⟨t',rfl⟩:=ry
 exact rule i j t t' s _ _ ⟨.bl (g i j),H,I,rfl,q⟩
def rC(i j:Int):Prop:=0<=j/\j<=1000000/\i.natAbs<2^64
def ou(i j:Int):Prop:=(-(2^64)<i/\i<2^64)\/(-(2^64)<j/\j<2^64)
def ou.ok{i j:Int}(h:ou i j):IntMulOk i j:=by
 rcases h with⟨h1,h2⟩|⟨h1,h2⟩
 .exact .of_left (intBits_le_64 h1 h2)
 .exact .of_right (intBits_le_64 h1 h2)
def fG:OpR X (binaryOp .Add) (rI0 λi j=>.int (i+j)):=qB λ_ _ _ _ _ _ _ q=>add_int q
def fq:OpR X (binaryOp .Sub) (rI0 λi j=>.int (i-j)):=qB λ_ _ _ _ _ _ _ q=>sub_int q
def ZV:OpR X (binaryOp .Mult) (rI ou λi j=>.int (i*j)):=opI λ_ _ _ _ _ _ _ hc q=>mul_int q hc.ok
def iS:OpR X (binaryOp .Mod) (rI (λ_ j=>0<j) λi j=>.int (i % j)):=opI λi j _ _ _ _ _ hc q=>by
 have h1:(0:Int)<j:=hc
 exact mod_int' (by lia) (by rw[Int.fmod_eq_emod_of_nonneg i (by lia)];exact q)
def fK:OpR X (binaryOp .Pow) (rI rC λi j=>.int (i^j.toNat)):=opI λ_ _ _ _ _ _ _ hc q=>pow_int_small hc.1 hc.2.1 hc.2.2 q
def unI{g:Int->Int}(rule:∀i (t:Tok) s Q E,Q (.int (g i) s.toks) {s with toks:=s.toks+1}->wpAny (model X.prog X.w) X.A (f (.int i t)) Q E s):UnR X f (rU λi=>.int (g i)):=by
 intro pins s σ H x v Q I rx h
 obtain⟨i,rfl,q⟩:=h
 obtain⟨t,rfl⟩:=rx
 exact rule i t s _ _ ⟨.int (g i),H,I.tok _,⟨_,rfl⟩,q⟩
def gJ:UnR X (unaryOp .USub) (rU λi=>.int (-i)):=unI λ_ _ _ _ _ q=>neg_int q
end
section
variable{X:Cx}{a b c:vw}{ta tb tc:TE}{pos:Pos}
def Zf{σ:St}(I:Inv X pins σ H s)(q:Q (.bl k) H)(e:k=k'):EP X pins σ Q (.bool k') s:=by
 subst e
 exact⟨.bl k,H,I,rfl,q⟩
def nJ:OpR X (compareOp .Lt) (rI0 λi j=>.bl (decide (i<j))):=k9 λ_ _ _ _ _ _ _ q=>lt_int q
def cS:OpR X (compareOp .LtE) (rI0 λi j=>.bl (decide (i<=j))):=k9 λ_ _ _ _ _ _ _ q=>le_int q
def oS:OpR X (compareOp .Gt) (rI0 λi j=>.bl (decide (j<i))):=k9 λ_ _ _ _ _ _ _ q=>gt_int q
def ni:OpR X (compareOp .GtE) (rI0 λi j=>.bl (decide (j<=i))):=k9 λ_ _ _ _ _ _ _ q=>ge_int q
def ji:OpR X (compareOp .Is) (λx y H Q=>y=.non/\Q (.bl (decide (x=.non))) H):=by
 intro pins s σ H x y v u Q I rx ry h
 obtain⟨rfl,q⟩:=h
 cases ry
 refine is_none_gen (Zf I q ?_)
 cases x<;>first
  |(cases rx;rfl)
  |(obtain⟨t,rfl⟩:=rx;rfl)
def dN:OpR X (compareOp .IsNot) (λx y H Q=>y=.non/\Q (.bl (!decide (x=.non))) H):=by
 intro pins s σ H x y v u Q I rx ry h
 obtain⟨rfl,q⟩:=h
 cases ry
 refine isnot_none_gen (Zf I q ?_)
 cases x<;>first
  |(cases rx;rfl)
  |(obtain⟨t,rfl⟩:=rx;rfl)
def c9{op:CmpOp}{r:R2}(ho:OpR X (compareOp op) r)(ha:PE X a ta)(hb:PE X b tb)(hm:behindInMarks op b=false):PE X (.Compare a [op] [b] pos) (tOp r ta tb):=by
 intro pins s σ H Q I h
 exact wpAny_Compare1 (lV ha hb I h λv u s2 x y H2 I2 rx ry q=>ho pins s2 σ H2 x y v u Q I2 rx ry q) hm
noncomputable def iy(t:TE):TT:=λσ H Q=>t σ H λx H'=>∃k,x=.bl k/\Q k H'
def WQ{op:CmpOp}{r:R2}(ho:OpR X (compareOp op) r)(ha:PE X a ta)(hb:PE X b tb)(hm:behindInMarks op b=false):PT X (.Compare a [op] [b] pos) (iy (tOp r ta tb)):=by
 intro pins s σ H Q I h
 refine wpAny_isTrue_Compare1 (thn (ha pins s σ H _ I h) λv s1 ⟨x,H1,I1,r1,q1⟩=>thn (hb pins s1 σ H1 _ I1 q1) λu s2 ⟨y,H2,I2,r2,q2⟩=>
  thn (ho pins s2 σ H2 x y v u _ I2 r1 r2 q2) λc s3 ⟨z,H3,I3,r3,k,e,q3⟩=>?_) hm
 subst e
 cases r3
 exact wu ⟨H3,I3,q3⟩
noncomputable def Zh(r r':R2)(ta tb tc:TE):TE:=λσ H Q=>ta σ H λx H1=>tb σ H1 λy H2=>r x y H2 λz H3=>∃k,z=.bl k/\
 (if k=true then tc σ H3 λw' H4=>r' y w' H4 Q else Q (.bl false) H3)
def X6{op op':CmpOp}{r r':R2}(ho:OpR X (compareOp op) r)(ho':OpR X (compareOp op') r')(ha:PE X a ta)(hb:PE X b tb)(hc:PE X c tc)(hm:x0 (lastMarks [op,op'] [b,c]=false) wn):PE X (.Compare a [op,op'] [b,c] pos) (Zh r r' ta tb tc):=by
 intro pins s σ H Q I h
 refine Compare_chain (thn (ha pins s σ H _ I h) λv s1 ⟨x,H1,I1,r1,q1⟩=>chain_link (thn (hb pins s1 σ H1 _ I1 q1) λu s2 ⟨y,H2,I2,r2,q2⟩=>
  thn (ho pins s2 σ H2 x y v u _ I2 r1 r2 q2) λd s3 ⟨z,H3,I3,r3,k,e,q3⟩=>?_)) hm
 subst e
 cases r3
 refine wu ?_
 cases k with
 |false=>exact ite_ff ⟨.bl false,H3,I3,rfl,q3⟩
 |true=>exact ite_tt (chain_last (thn (hc pins s3 σ H3 _ I3 q3) λw' s4 ⟨z',H4,I4,r4,q4⟩=>ho' pins s4 σ H4 y z' u w' Q I4 r2 r4 q4))
def OW:(sizeLine:Nat)<2^63:=by rw[sizeLine_eq];decide
def Ub:OpR X (binaryOp .Add) (λx y H Q=>∃i j,x=.str i/\y=.str j/\i.length+j.length<=sizeLine/\Q (.str (i++j)) H):=by
 intro pins s σ H x y v u Q I rx ry h
 obtain⟨i,j,rfl,rfl,hz,q⟩:=h
 obtain⟨t,rfl⟩:=rx
 obtain⟨t',rfl⟩:=ry
 exact add_str (λt' tk=>⟨.str (i++j),H,I.tok _,⟨_,rfl⟩,q⟩) hz
def vals1{x:V}{us:Wp uT}(r:Vals [x] us):∃u,us=[u]/\RelV x u:=by
 cases r with
 |cons r1 r2=>cases r2;exact⟨_,rfl,r1⟩
def vals2{x y:V}{us:Wp uT}(r:Vals [x,y] us):∃u w',us=[u,w']/\RelV x u/\RelV y w':=by
 cases r with
 |cons r1 r2=>
  cases r2 with
  |cons r3 r4=>cases r4;exact⟨_,_,rfl,r1,r3⟩
def ZE:EW X (.builtin "abs") (λxs H Q=>∃i,xs=[.int i]/\Q (.int (if i<0 then-i else i)) H):=by
 intro pins s σ H xs us Q I r h
 obtain⟨i,rfl,q⟩:=h
 obtain⟨u,rfl,t,rfl⟩:=vals1 r
 exact call_abs_int λu tk=>⟨.int (if i<0 then-i else i),H,I.tok _,⟨_,rfl⟩,q⟩
def Uz(hc:X.calm=true):EW X (.builtin "max") (λxs H Q=>∃i j,xs=[.int i,.int j]/\Q (.int (if j>i then j else i)) H):=by
 intro pins s σ H xs us Q I r h
 obtain⟨i,j,rfl,q⟩:=h
 obtain⟨u,w',rfl,⟨t,rfl⟩,⟨t',rfl⟩⟩:=vals2 r
 refine max_two_ints (I.ok.hd hc) λh' tk k=>⟨_,H,I.kept k,?_,q⟩
 by_cases hj:j>i
 .rw[vF hj,vF hj];exact⟨_,rfl⟩
 .rw[vL hj,vL hj];exact⟨_,rfl⟩
def Va(hc:X.calm=true):EW X (.builtin "min") (λxs H Q=>∃i j,xs=[.int i,.int j]/\Q (.int (if j<i then j else i)) H):=by
 intro pins s σ H xs us Q I r h
 obtain⟨i,j,rfl,q⟩:=h
 obtain⟨u,w',rfl,⟨t,rfl⟩,⟨t',rfl⟩⟩:=vals2 r
 refine min_two_ints (I.ok.hd hc) λh' tk k=>⟨_,H,I.kept k,?_,q⟩
 by_cases hj:j<i
 .rw[vF hj,vF hj];exact⟨_,rfl⟩
 .rw[vL hj,vL hj];exact⟨_,rfl⟩
def Qq:EW X (.type "int") (λxs H Q=>(∃i,xs=[.int i]/\Q (.int i) H)\/∃k,xs=[.bl k]/\Q (.int (if k then 1 else 0)) H):=by
 intro pins s σ H xs us Q I r h
 rcases h with⟨i,rfl,q⟩|⟨k,rfl,q⟩
 .obtain⟨u,rfl,t,rfl⟩:=vals1 r
  exact call_int_int ⟨.int i,H,I,⟨_,rfl⟩,q⟩
 .obtain⟨u,rfl,r1⟩:=vals1 r
  cases r1
  exact call_int_bool ⟨.int (if k then 1 else 0),H,I.tok _,⟨_,rfl⟩,q⟩
end
end L2
namespace L2
open PySem PySem.Spec PyProof.Rows
structure mQ(h:vo)(x dx C:ue)(mA:Str->uM uT):Prop where
 obj:h.get? x=Gc (AAy C dx)
 ns:h.Ns1 dx mA
 ne:dx≠x
def XB{h:vo}{mA:Str->uM uT}(n:h.Ns1 dx mA):∃od,h.get? dx=Gc od/\∀name,ABC name od=Gc (mA name):=by
 obtain⟨o,es,ep,ho,hd,hk,_,hm⟩:=n
 refine⟨o,ho,λname=>?_⟩
 have e:=hm name
 unfold nsFind findBy at e
 rw[<-Array.find?_toList]at e
 unfold ABC
 rw[hd]
 dsimp only
 split
 .rename_i y q
  rw[q]at e
  exact congrArg Gc e
 .rename_i q
  rw[q]at e
  have a:es.toList.any (·.refKey)=false:=by
   rw[List.any_eq_false]
   intro y hy
   obtain⟨z,t,hkey⟩:=hk y (Array.mem_toList_iff.mp hy)
   simp[DictEntry.refKey,hkey]
  have a':¬es.toList.any (·.refKey)=true:=by rw[a];exact vO
  rw[vL a']
  exact congrArg Gc e
def mQ.look{mA:Str->uM uT}(I:mQ h x dx C mA):∃od,PySem.W.InstAt h x (AAy C dx) C (Gc od)/\∀name,ABC name od=Gc (mA name):=
 let⟨od,ho,hl⟩:=XB I.ns
 ⟨od,⟨I.obj,rfl,rfl,ho⟩,hl⟩
section
variable{prog:vg}{w:v9}{A:xV}{E:uT->uf->Prop}{s:uf}{K:uF}{x dx C f:ue}{mA:Str->uM uT}{name:Str}{v:uT}
end
section
variable{P:vg}{w:v9}{H H':Hp}{h h':vo}{a C dx:ue}{fs fs':Wp (Str×V)}
def dM(hok:HOk P w H h)(e:H a=Gc (.ins C dx fs)):∃mA,mQ h a dx C mA/\(∀f,aE (fs.lookup f) (mA f))/\PySem.Within mA (fs.map (·.1))/\fs.length<=1000/\H dx=Gc (.own a):=by
 obtain⟨d,z,ne,ob,mA,n,r,q⟩:=(show Ej P w H h a (.ins C dx fs)from hok a _ e)
 exact⟨mA,⟨ob,n,ne⟩,r,q,z,d⟩
end
structure Cls(K:uF)(C:ue):Prop where
 pg:PySem.W.plainGet K C Str.empty=true
 hd:PySem.W.hasDictIn K C=true
 po:PySem.W.plainOver K C=true
 sa:yn K (.ref C) "__setattr__"=Gc (Gc (.builtin "object.__setattr__"))
def Cls.get{K:uF}(c:Cls K C)(f:Str):PySem.W.plainGet K C f=true:=c.pg
structure Con(K:uF)(C:ue)(f:Str)(v:V)(u:uT):Prop where
 at_:yn K (.ref C) f=Gc (Gc u)
 rel:RelV v u
 get:PySem.W.specialIn K u "__get__"=Gc none
 cp:PySem.W.copiedNames.contains f=false
structure Meth(K:uF)(C:ue)(m:Str)(f:ue):Prop where
 at_:yn K (.ref C) m=Gc (Gc (.ref f))
 fn:PySem.W.isFn K (.ref f)=true
 kp:wG K (.ref f)=true
section
variable{X:Cx}{pins:Wp (ue×Obj)}{σ:St}{H:Hp}{s:uf}{a C dx:ue}{fs:Wp (Str×V)}{f:Str}{v:V}{A:xV}{E:uT->uf->Prop}
end
section
variable{X:Cx}{o e value:vw}{f:Str}{pos pos' tpos:Pos}{ta tv:TE}
end
section
variable{X:Cx}{pins:Wp (ue×Obj)}{σ:St}{H:Hp}{s:uf}{A:xV}{E:uT->uf->Prop}{Q:uT->uf->Prop}{c:uT}{b:va}
inductive Uq(K:uF)(H:Hp):V->uT->Prop where
 |non:Uq K H .non (.type "NoneType")
 |bl (x:va):Uq K H (.bl x) (.type "bool")
 |int (i:Int):Uq K H (.int i) (.type "int")
 |str (x:Str):Uq K H (.str x) (.type "str")
 |flt (x:UInt64):Uq K H (.flt x) (.type "float")
 |lst {a:ue} {xs:Wp V} (e:H a=Gc (.lst xs)):Uq K H (.ref a) (.type "list")
 |frz {a:ue} {o:Obj} {xs:Wp V} (e:H a=Gc (.frz o (.lst xs))):Uq K H (.ref a) (.type "list")
 |tup {a:ue} {xs:Wp V} (e:H a=Gc (.tup xs)):Uq K H (.ref a) (.type "tuple")
 |dK {a:ue} {kvs:Wp (Key×V)} (e:H a=Gc (.dK kvs)):Uq K H (.ref a) (.type "dict")
 |dT {a:ue} {kvs:Wp (Wp Key×V)} (e:H a=Gc (.dT kvs)):Uq K H (.ref a) (.type "dict")
 |ins {a C dx:ue} {fs:Wp (Str×V)} (e:H a=Gc (.ins C dx fs)) (cl:Cls K C) (ha:yn K (.ref C) "__class__"=Gc (Gc (.builtin "object.__class__")))
   (hn:PySem.W.specialIn K (.builtin "object.__class__") "__get__"=Gc (Gc (.builtin "getset_descriptor.__get__"))) (htk:PySem.W.takesIn K (.builtin "object.__class__")=Gc true)
   (hm:PySem.W.mroIn K C (.type "object")=Gc true):Uq K H (.ref a) (.ref C)
def F5{x:V}{u t:uT}(I:Inv X pins σ H s)(rx:RelV x u)(ty:Uq X.K H x t)(e:xK X.K t c=Gc b)(h:∀tk,Q (.bool b) {s with toks:=tk}):wpAny (model X.prog X.w) A (call (.builtin "isinstance") [u,c]) Q E s:=by
 cases ty with
 |non=>cases (show u=vR from rx);exact vp PySem.W.kitx_none I.kIn zl e (λz=>nomatch z) h
 |bl y=>cases (show u=AAi y from rx);exact vp PySem.W.kitx_bool I.kIn zl e (λz=>nomatch z) h
 |int i=>obtain⟨t,q⟩:=(show∃t,u=AAX i t from rx);cases q;exact vp PySem.W.kitx_int I.kIn zl e (λz=>nomatch z) h
 |str y=>obtain⟨t,q⟩:=(show∃t,u=AAY y t from rx);cases q;exact vp PySem.W.kitx_str I.kIn zl e (λz=>nomatch z) h
 |flt y=>obtain⟨t,q⟩:=(show∃t,u=Value.float y t from rx);cases q;exact vp PySem.W.kitx_float I.kIn zl e (λz=>nomatch z) h
 | @lst a xs ea=>
   cases (show u=vT a from rx)
   obtain⟨_,_,n,_,h1⟩:=(show Ej X.prog X.w H s.heap a (.lst xs)from I.hok a _ ea)
   exact vp PySem.W.kitx_list I.kIn ⟨_,h1,rfl⟩ e (λz=>nomatch z) h
 | @frz a ob xs ea=>
   cases (show u=vT a from rx)
   obtain⟨_,_,_,n,_,h1⟩:=(show Ej X.prog X.w H s.heap a (.frz ob (.lst xs))from I.hok a _ ea)
   exact vp PySem.W.kitx_list I.kIn ⟨_,h1,rfl⟩ e (λz=>nomatch z) h
 | @tup a xs ea=>
   cases (show u=vT a from rx)
   obtain⟨_,_,_,p⟩:=(show Ej X.prog X.w H s.heap a (.tup xs)from I.hok a _ ea)
   obtain⟨o,h1,h2,_⟩:=p
   exact vp ABc I.kIn ⟨o,h1,h2⟩ e (λz=>nomatch z) h
 | @dK a kvs ea=>
   cases (show u=vT a from rx)
   obtain⟨_,_,vs,_,p⟩:=(show Ej X.prog X.w H s.heap a (.dK kvs)from I.hok a _ ea)
   obtain⟨o,es,ep,h1,h2,_⟩:=p
   exact vp PySem.W.kitx_dict I.kIn ⟨o,h1,h2.1⟩ e (λz=>nomatch z) h
 | @dT a kvs ea=>
   cases (show u=vT a from rx)
   obtain⟨_,_,xs,_,o,es,ep,h1,h2,_⟩:=(show Ej X.prog X.w H s.heap a (.dT kvs)from I.hok a _ ea)
   exact vp PySem.W.kitx_dict I.kIn ⟨o,h1,h2.1⟩ e (λz=>nomatch z) h
 | @ins a C dx fs ea cl ha hn htk hm=>
   cases (show u=vT a from rx)
   obtain⟨mA,O,_⟩:=dM I.hok ea
   obtain⟨od,J,_⟩:=O.look
   exact vp (PySem.W.kitx_own (cl.get _) cl.hd ha hn htk hm) I.kIn J e (λz=>nomatch z) h
end
end L2
namespace L2
open PySem PySem.Spec PyProof.Rows
structure Kn(k:Nat)(A:xV):Prop where
 hd:A.handled=none
 dp:A.depth+3*k+5<recursionLimit
 un:A.units+16*k+200<cLine
def Kn.mono{j k:Nat}{A:xV}(r:Kn k A)(h:j<=k):Kn j A:=⟨r.hd,by have:=r.dp;lia,by have:=r.un;lia⟩
def Kn.deeper(r:Kn (k+1) A)(env:Env):Kn k (A.deeper env):=
 ⟨r.hd,by have:=r.dp;show A.depth+1+3*k+5<_;lia,by have:=r.un;show A.units+3+16*k+200<_;lia⟩
def Kn.depth{k:Nat}{A:xV}(r:Kn k A):A.depth<recursionLimit:=by have:=r.dp;lia
noncomputable def p9:TA:=λ_ H Q=>Q [] H
noncomputable def fM(ta:TE)(tr:TA):TA:=λσ H Q=>ta σ H λx H1=>tr σ H1 λxs H2=>Q (x::xs) H2
section
variable{X:Cx}{e:vw}{es:Wp vw}{te:TE}{t:TA}{pos:Pos}
def Us:PA X [] p9:=λ_ _ _ _ H Q I h=>yz ⟨[],H,I,.nil,h⟩
def O7(ha:PE X e te)(hr:PA X es t)(hs:x0 (um (e::es) X.env=(false,eval e X.env)::um es X.env) wv):PA X (e::es) (fM te t):=by
 intro pos pins s σ H Q I h
 rw[hs]
 show wpAny _ _ (spliced ((false,eval e X.env)::backTo pos (um es X.env))) _ _ s
 refine yo (thn (ha pins s σ H _ I h) λu s1 z=>?_)
 obtain⟨x,H1,I1,r1,q1⟩:=z
 exact thn (hr pos pins s1 σ H1 _ I1 q1) λus s2 ⟨xs,H2,I2,r2,q2⟩=>⟨x::xs,H2,I2,.cons r1 r2,q2⟩
noncomputable def rW(t:TA):TE:=λσ H Q=>t σ H λxs H1=>xs.length<=sizeLine/\∀p,H1 p=none->Q (.ref p) (upd H1 p (.tup xs))
noncomputable def qv(t:TA):TE:=λσ H Q=>t σ H λxs H1=>xs.length<=sizeLine/\∀p,H1 p=none->Q (.ref p) (upd H1 p (.lst xs))
def iu{x1}(h:PA X es t):PE X (.Tuple es x1 pos) (rW t):=by
 intro pins s σ H Q I hq
 refine wpAny_Tuple_spliced (thn (h pos pins s σ H _ I hq) λus s1 ⟨xs,H1,I1,r,z,q⟩=>⟨by rw[<-r.length];exact z,?_⟩)
 have hf:H1 s1.heap.objs.size=none:=I1.hok.fresh (uP _)
 refine⟨.ref s1.heap.objs.size,upd H1 s1.heap.objs.size (.tup xs),I1.laid (t':=s1.toks) (λb u e=>uG _ e) (uP _) ?_,rfl,q _ hf⟩
 exact⟨z,us,r,⟨_,uw _ rfl,rfl,_,rfl⟩⟩
def gP(h:PA X es t):PE X (.List es pos) (qv t):=by
 intro pins s σ H Q I hq
 refine wpAny_List_spliced (thn (h pos pins s σ H _ I hq) λus s1 ⟨xs,H1,I1,r,z,q⟩=>⟨by rw[<-r.length];exact z,?_⟩)
 have hf:H1 s1.heap.objs.size=none:=I1.hok.fresh (uP _)
 refine⟨.ref s1.heap.objs.size,upd H1 s1.heap.objs.size (.lst xs),I1.laid (t':=s1.toks) (λb u e=>uG _ e) (uP _) ?_,rfl,q _ hf⟩
 exact⟨z,us,0,r,uw _ rfl⟩
end
abbrev Sp:=Wp V->Hp->VK->XK->Prop
abbrev CXT:=Wp Env->Hp->uf->XK->uT->uf->Prop
structure kS(P:vg)(w:v9)(K:uF)(mg:Str->uM uT)(base:vo)(A:xV)(outer:Wp Env)(s:uf)(H:Hp):Prop where
 frames:A.frames=Gc outer
 mod:Mod K mg base
 bs:∀b o,base.get? b=Gc o->s.heap.get? b=Gc o/\H b=none
 bsz:base.objs.size<=s.heap.objs.size
 T7:s.heap.FunFrames base outer
 frf:∀b∈frs outer,H b=none
 hok:HOk P w H s.heap
 bare:yh s.gens
def CE(outer:Wp Env)(P:vg)(w:v9)(H:Hp)(s:uf)(Q:VK)(u:uT)(s':uf):Prop:=
 ∃v H',s'.os=s.os/\yh s'.gens/\Un (frs outer) [] H H' s.heap s'.heap/\HOk P w H' s'.heap/\RelV v u/\Q v H'
def CR(CX:CXT)(outer:Wp Env)(P:vg)(w:v9)(H:Hp)(s:uf)(Q:VK)(E:XK)(r:Result)(s':uf):Prop:=
 match r with
 | .ok (.ret u)=>CE outer P w H s Q u s'
 | .ok _=>wq
 | .error e=>CX outer H s E e s'
structure Mq(P:vg)(w:v9)(K:uF)(mg:Str->uM uT)(base:vo)(CX:CXT)(k:Nat)(f:ue)(fd:yp)(ps:Wp Str)(sp:Sp):Prop where
 len:∀vs H Q E,sp vs H Q E->vs.length=ps.length
 run:∀(A:xV) (outer:Wp Env) (s:uf) (H:Hp) (args:Args) (us:Wp uT) (vs:Wp V) (Q:VK) (E:XK),Kn k A->kS P w K mg base A outer s H->BindsTo s fd args (ps.zip us)->Vals vs us->sp vs H Q E->
  codeAny (model P w) A (.call (.ref f) args) (CR CX outer P w H s Q E) s
def Mq.mono{K:uF}(F:Mq P w K mg base CX j f fd ps sp)(h:j<=k):Mq P w K mg base CX k f fd ps sp:=⟨F.len,λA outer s H args us vs Q E hr=>F.run A outer s H args us vs Q E (hr.mono h)⟩
def Mq.imp{K:uF}(F:Mq P w K mg base CX k f fd ps sp)(h:∀vs H Q E,sp' vs H Q E->sp vs H Q E):Mq P w K mg base CX k f fd ps sp':=
 ⟨λvs H Q E q=>F.len vs H Q E (h _ _ _ _ q),λA outer s H args us vs Q E hr he hb hv hs=>F.run A outer s H args us vs Q E hr he hb hv (h _ _ _ _ hs)⟩
section
variable{X:Cx}{pins:Wp (ue×Obj)}{σ:St}{H:Hp}{s s':uf}
def Inv.qH(I:Inv X pins σ H s):kS X.prog X.w X.K X.mg X.base X.A X.stack s H:=
 ⟨I.ok.frames,I.ok.mod,I.bs,uH I.ok.bsz I.sz,I.stack,I.Rh,I.hok,I.bare⟩
def Inv.after{Q:VK}{u:uT}(I:Inv X pins σ H s)(h:CE X.stack X.prog X.w H s Q u s'):EP X pins σ Q u s':=by
 obtain⟨v,H',os,bare,un,hok,r,q⟩:=h
 obtain⟨hh,g,d,t,os'⟩:=s'
 obtain rfl:os'=s.os:=os
 exact⟨v,H',I.call (h':=hh) (g':=g) (d':=d) (t':=t) (ch:=[]) un hok bare (λb z=>absurd z (by simp)),r,q⟩
end
noncomputable def di(sp:Sp)(dvs:Wp V)(E:XK)(t:TA):TE:=λσ H Q=>t σ H λvs H1=>sp (vs++dvs) H1 Q E
def Binds(K:uF)(fd:yp)(ps:Wp Str)(ds:Wp uT):Prop:=
 ∀(s:uf) (us:Wp uT),K.In s.heap->(us++ds).length=ps.length->BindsTo s fd ⟨us,[]⟩ (ps.zip (us++ds))
def Binds.all{K:uF}(h:∀us:Wp uT,us.length=ps.length->bindArgs fd ⟨us,[]⟩=pure (ps.zip us)):Binds K fd ps []:=λs us _ hl=>by
 rw[xZ]at hl⊢
 exact .of_eq (h us hl)
def Passes(CX:CXT)(X:Cx)(E:XK):Prop:=∀(pins:Wp (ue×Obj)) (σ:St) (H:Hp) (s:uf) (e:uT) (s':uf),Inv X pins σ H s->CX X.stack H s E e s'->X.xe e s'
section
variable{X:Cx}{CX:CXT}{k:Nat}{f C:ue}{fd:yp}{ps:Wp Str}{sp:Sp}{dvs:Wp V}{ds:Wp uT}{E:XK}{x m:Str}{p pos apos:Pos}{e o:vw}{es:Wp vw}{ta:TE}{t:TA}
def aJ{σ:St}(F:Mq X.prog X.w X.K X.mg X.base CX k f fd ps sp)(hr:Kn k X.A)(hb:Binds X.K fd ps ds)(hd:Vals dvs ds)(hx:Passes CX X E)(I:Inv X pins σ H s)(r:Vals vs us)(h:sp (vs++dvs) H Q E):wpAny (model X.prog X.w) X.A (call (.ref f) us) (EP X pins σ Q) X.xe s:=by
 have r2:Vals (vs++dvs) (us++ds):=r.append hd
 have hl:(us++ds).length=ps.length:=by rw[<-r2.length];exact F.len _ _ _ _ h
 refine wpAny_call (yq (F.run X.A X.stack s H ⟨us,[]⟩ (us++ds) (vs++dvs) Q E hr I.qH (hb s us I.kIn hl) r2 h) λr s' hq=>?_)
 cases r with
 |error e=>exact hx pins σ H s e s' I hq
 |ok fl=>
  cases fl with
  |ret u=>exact I.after hq
  |next=>exact xA hq
  |brk=>exact xA hq
  |cont=>exact xA hq
def bS(F:Mq X.prog X.w X.K X.mg X.base CX k f fd ps sp)(hr:Kn k X.A)(hg:Gl X x)(hm:X.mg x=Gc (.ref f))(hk:wG X.K (.ref f)=true)(hb:Binds X.K fd ps ds)(hd:Vals dvs ds)(hx:Passes CX X E)(ha:PA X (e::es) t)(hdb:x0 ((x==("__debug__":Str))=false) xL)(he:x0 (um (e::es) X.env=(false,eval e X.env)::um es X.env) wv)(hpl:x0 ((backTo pos (um es X.env)).any (·.1)=false) wv):PE X (.Call (.Name x p) (e::es) [] pos) (di sp dvs E t):=by
 intro pins s σ H Q I h
 refine vz (PH I hg hm ?_ hdb)
 refine zm (h₀:=X.base) I.ok.mod.kin hk (thn (ha pos pins s σ H _ I h) λus s1 ⟨vs,H1,I1,r,q⟩=>⟨I1.kIn,?_⟩) he hpl
 exact aJ F hr hb hd hx I1 r q
structure Mk(K:uF)(C f:ue):Prop where
 makes:PySem.W.makesIn K C=true
 init:yn K (.ref C) "__init__"=Gc (Gc (.ref f))
 fn:PySem.W.isFn K (.ref f)=true
 kp:wG K (.ref C)=true
end
section
variable{X:Cx}{CX:CXT}{k:Nat}{f C:ue}{fd:yp}{ps ks:Wp Str}{sp:Sp}{E:XK}{x m:Str}{p pos apos kpos:Pos}{e o:vw}{es:Wp vw}{kws:Wp AAF}{te ta:TE}{t tk:TA}{nm:uM Str}
structure qG(K:uF)(fd:yp)(ps ks:Wp Str)(g:Wp uT->Wp uT->Wp uT)(gV:Wp V->Wp V->Wp V):Prop where
 to:∀(s:uf) (us ws:Wp uT),K.In s.heap->(g us ws).length=ps.length->BindsTo s fd ⟨us,ks.zip ws⟩ (ps.zip (g us ws))
 rel:∀{vs:Wp V} {us:Wp uT} {zs:Wp V} {ws:Wp uT},Vals vs us->Vals zs ws->Vals (gV vs zs) (g us ws)
variable{g:Wp uT->Wp uT->Wp uT}{gV:Wp V->Wp V->Wp V}
end
structure CU(N P:Wp Str)(sc:yE):Prop where
 kind:sc.kind=.function
 co:sc.isCoroutine=false
 gen:sc.isGenerator=false
 nd:N.Nodup
 pre:N.take P.length=P
 par:∀x∈P,sc.names.lookup x=Gc .local\/sc.names.lookup x=Gc .cell
 gD:∀y∈sc.names,y.2≠.free
theorem Qo{kindOf:Str->uM AAa}:∀{binds} {m:Str->uM uT},(∀v,(x,v)∉binds)->bindL kindOf binds m x=m x
 | [],_,_=>rfl
 |(n,v)::r,m,h=>by
  unfold bindL
  rw[Qo λw hw=>h w (uL _ hw)]
  split
  .have:x≠n:=by rintro rfl;exact h v uO
   simp[this]
  .rfl
theorem QM{kindOf:Str->uM AAa}:∀{binds} {m:Str->uM uT},(∀v,(x,v)∉binds)->bindC kindOf binds m x=m x
 | [],_,_=>rfl
 |(n,v)::r,m,h=>by
  unfold bindC
  rw[QM λw hw=>h w (uL _ hw)]
  split
  .rfl
  .have:x≠n:=by rintro rfl;exact h v uO
   simp[this]
theorem QR{kindOf:Str->uM AAa}:∀{P:Wp Str} {vs:Wp uT} {i:Nat} {m},P.Nodup->P[i]?=Gc x->vs[i]?=Gc v->kindOf x=Gc .local->bindL kindOf (P.zip vs) m x=Gc v
 | [],_,_,_,_,h,_,_=>by simp at h
 |_::_,[],_,_,_,_,h,_=>by simp at h
 |p::P,w::vs,0,m,nd,h1,h2,hk=>by
  simp at h1 h2;subst h1;subst h2
  show bindL kindOf ((p,w)::P.zip vs) m p=_
  unfold bindL
  rw[Qo λv hv=>(wL.mp nd).1 (yF hv).1,vF hk]
  simp
 |p::P,w::vs,i+1,m,nd,h1,h2,hk=>by
  show bindL kindOf ((p,w)::P.zip vs) m x=_
  unfold bindL
  exact QR (i:=i) (wL.mp nd).2 (by simpa using h1) (by simpa using h2) hk
theorem Qs{kindOf:Str->uM AAa}:∀{P:Wp Str} {vs:Wp uT} {i:Nat} {m},P.Nodup->P[i]?=Gc x->vs[i]?=Gc v->kindOf x≠Gc .local->bindC kindOf (P.zip vs) m x=Gc v
 | [],_,_,_,_,h,_,_=>by simp at h
 |_::_,[],_,_,_,_,h,_=>by simp at h
 |p::P,w::vs,0,m,nd,h1,h2,hk=>by
  simp at h1 h2;subst h1;subst h2
  show bindC kindOf ((p,w)::P.zip vs) m p=_
  unfold bindC
  rw[QM λv hv=>(wL.mp nd).1 (yF hv).1,vL hk]
  simp
 |p::P,w::vs,i+1,m,nd,h1,h2,hk=>by
  show bindC kindOf ((p,w)::P.zip vs) m x=_
  unfold bindC
  exact Qs (i:=i) (wL.mp nd).2 (by simpa using h1) (by simpa using h2) hk
noncomputable def start(N:Wp Str)(vs:Wp V):St:=vs.map Gc++uu (N.length-vs.length) none
noncomputable def RY(CX:CXT)(P:vg)(w:v9)(K:uF)(mg:Str->uM uT)(base:vo)(N:Wp Str)(qual:Str)(scope:yE)(f:ue)(cd:uT)(A:xV)(outer:Wp Env)(s:uf)(H:Hp)(E:XK):Cx where
 prog:=P
 w:=w
 K:=K
 mg:=mg
 base:=base
 A:=A.deeper (envOfC qual scope s.heap.objs.size f cd)
 N:=N
 s₀:=s
 H₀:=H
 env:=envOfC qual scope s.heap.objs.size f cd
 outer:=outer
 stack:=envOfC qual scope s.heap.objs.size f cd::outer
 ex:=[]
 calm:=true
 fn:=λ_=>true
 pn:=[]
 xe:=λe s'=>wpAny (model P w) (A.deeper (envOfC qual scope s.heap.objs.size f cd)) (leaving (envOfC qual scope s.heap.objs.size f cd) e) (λ_ s''=>CX outer H s E e s'') (λe' s''=>CX outer H s E e' s'') s'
def MJ{sc:yE}{x:Str}(h:sc.names.lookup x=Gc .cell):∃c,(cellsFrom n sc.names []).lookup x=Gc c:=by
 have q:=AAk sc.names n [] (.inl h)
 exact Option.isSome_iff_exists.mp q
def WU{CX:CXT}{P:vg}{w:v9}{K:uF}{mg:Str->uM uT}{base:vo}{N ps:Wp Str}{qual:Str}{scope:yE}{f:ue}{cd:uT}{A:xV}{outer:Wp Env}{s s1:uf}{H:Hp}{E:XK}{us:Wp uT}{vs:Wp V}(S:CU N ps scope)(hd:A.handled=none)(e0:kS P w K mg base A outer s H)(hl:vs.length=ps.length)(r:Vals vs us)(x:InCallC s s.heap.objs.size (bindL (envOfC qual scope s.heap.objs.size f cd).kindOf (ps.zip us) λ_=>none) (cellsFrom (s.heap.objs.size+1) scope.names []) (bindC (envOfC qual scope s.heap.objs.size f cd).kindOf (ps.zip us) λ_=>none) s1):Inv (RY CX P w K mg base N qual scope f cd A outer s H E) [] (start N vs) H s1:=by
 have hpl:ps.length<=N.length:=by have:=congrArg yi S.pre;rw[y3]at this;lia
 obtain⟨h1,tk,rfl,hk⟩:=x.done
 have noA:∀b:ue,b∉(RY CX P w K mg base N qual scope f cd A outer s H E).ex:=λb z=>absurd (show b∈([]:Wp ue)from z) (by simp)
 refine⟨⟨e0.mod,S.kind,rfl,rfl,uP _,λy z c h1 h2=>?_,λy hy=>?_,λy c _ h=>?_,λ_=>hd,Around.frames_deeper e0.frames,.inr ⟨rfl,rfl⟩,λb z=>absurd z (noA b),e0.bs,e0.bsz,λb _ _=>noA b,λb z=>absurd z (noA b),e0.T7,e0.frf⟩,
  rfl,e0.bare,Un.kept hk,⟨_,x.toInCall.ns,λi y v h1 h2 h3=>?_⟩,λy c h=>⟨_,x.cell y c h⟩,e0.hok.fresh (uP _),λy c h=>?_,λp hp=>absurd (show p∈([]:Wp (ue×Obj))from hp) (by simp),e0.hok.kept hk,?_⟩
 .exact name_of_addr x.apart (vc h1) (vc h2)
 .have hy:scope.names.lookup y=Gc .cell\/scope.names.lookup y=Gc .free:=hy
  rcases hy with hy|hy
  .exact MJ hy
  .exact absurd rfl (S.gD _ (vc hy))
 .exact xE (x.above y c (vc h))
 .have hi:i<vs.length:=by
   unfold start at h2
   by_cases hi:i<vs.length
   .exact hi
   .rw[vU (by simpa using hi)]at h2
    rw[AAb]at h2
    split at h2<;>cases h2
  have ha:vs[i]?=Gc v:=by
   unfold start at h2
   rw[uK (by simpa using hi),uR]at h2
   cases e:vs[i]? with
   |none=>rw[e]at h2;cases h2
   |some a=>rw[e]at h2;cases h2;rfl
  obtain⟨u,hu,rv⟩:=r.get ha
  have hp:ps[i]?=Gc y:=by
   rw[<-S.pre,List.getElem?_take_of_lt (by lia)];exact h1
  have ndP:ps.Nodup:=by rw[<-S.pre];exact S.nd.sublist (List.take_sublist _ _)
  refine⟨u,rv,?_⟩
  rcases S.par y (uy hp)with k|k
  .exact .inl ⟨k,QR ndP hp hu k⟩
  .obtain⟨c,e⟩:=MJ (n:=s.heap.objs.size+1) k
   refine .inr ⟨.inl k,c,e,?_⟩
   have q:=x.cell y c e
   rw[Qs ndP hp hu (by show scope.names.lookup y≠_;rw[k];decide)]at q
   exact q
 .exact e0.hok.fresh (xE (x.above y c (vc h)))
 .unfold start
  show _=N.length
  rw[vb,ux,List.length_replicate]
  lia
def iw{CX:CXT}{P:vg}{w:v9}{K:uF}{mg:Str->uM uT}{base:vo}{k:Nat}{f:ue}{name qual:Str}{params:Arguments}{body:Wp vE}{scope:yE}{dV kV doc pm cdv ct oc:uT}{an od:uM ue}{osl:zE (uM uT)}{N ps:Wp Str}{sp:Sp}(lk:K.lookup f=Gc ⟨oc,od,.func (x9 name qual params body scope dV kV doc pm an cdv ct),osl⟩)(hcd:zo K cdv qual=true)(S:CU N ps scope)(len:∀vs H Q E,sp vs H Q E->vs.length=ps.length)(hbody:∀(A:xV) (outer:Wp Env) (s:uf) (H:Hp) (vs:Wp V) (Q:VK) (E:XK),Kn k (A.deeper (envOfC qual scope s.heap.objs.size f cdv))->sp vs H Q E->∃t,PSs (RY CX P w K mg base N qual scope f cdv A outer s H E) body t/\t {nx:=λ_ H'=>Q .non H',rt:=Q} (start N vs) H):Mq P w K mg base CX (k+1) f (x9 name qual params body scope dV kV doc pm an cdv ct) ps sp:=by
 refine⟨len,λA outer s H args us vs Q E hr e0 hb r hsp=>?_⟩
 have hl:=len _ _ _ _ hsp
 have KX:K.In s.heap:=e0.mod.kin.keeps λb o e=>(e0.bs b o e).1
 have lim:s.heap.NoLimit:=e0.mod.nolimit.keeps λb o e=>(e0.bs b o e).1
 have hkind:∀y∈ps.zip us,scope.names.lookup y.1=Gc .local\/(scope.names.lookup y.1=Gc .cell/\((cellsFrom (s.heap.objs.size+1) scope.names []).lookup y.1).isSome=true):=λ⟨n,v⟩ hy=>by
  rcases S.par n (yF hy).1 with q|q
  .exact .inl q
  .exact .inr ⟨q,AAk _ _ _ (.inl q)⟩
 refine codeAny_call_function hr.depth (KX _ _ lk) rfl S.co S.gen rfl (PySem.W.codeRec_of KX hcd) (hb _ _ _ _ ?_)
 refine wpAny_newFunctionEnv_cells S.kind hkind λenv he s1 x=>?_
 subst he
 refine⟨lim.keeps x.toInCall.keep,codeAny_func ?_⟩
 obtain⟨t,ht,hq⟩:=hbody A outer s H vs Q E (hr.deeper _) hsp
 have I:Inv (RY CX P w K mg base N qual scope f cdv A outer s H E) [] (start N vs) H s1:=WU S hr.hd e0 hl r x
 refine xJ (ht [] s1 (start N vs) H _ I hq) (λfl s' hs=>?_) λe s' hs=>hs
 have fin:∀{σ':St} {H':Hp} {v:V} {u:uT},Inv (RY CX P w K mg base N qual scope f cdv A outer s H E) [] σ' H' s'->RelV v u->Q v H'->CE outer P w H s Q u s':=
  λ{σ' H' v u} J rv q=>⟨v,H',J.os,J.bare,J.base,J.hok,rv,q⟩
 cases fl with
 |ret u=>
  obtain⟨v,σ',H',J,rv,q⟩:=hs
  exact fin J rv q
 |next=>
  obtain⟨σ',H',J,q⟩:=hs
  exact fin (v:=V.non) (u:=vR) J rfl q
 |brk=>
  obtain⟨_,_,_,q⟩:=hs
  exact xA q
 |cont=>
  obtain⟨_,_,_,q⟩:=hs
  exact xA q
end L2
namespace L2
open PySem PySem.Spec PyProof.Rows
section
variable{X:Cx}{x:Str}{p pos:Pos}{e:vw}{es:Wp vw}{t:TA}{id T:yJ}{r:Wp V->Hp->VK->Prop}
noncomputable def tCB(r:Wp V->Hp->VK->Prop)(t:TA):TE:=λσ H Q=>t σ H λvs H1=>r vs H1 Q
def YV(hc:EW X (.builtin id) r)(hg:Gl X x)(hm:X.mg x=none)(hv:bootBuiltins x=Gc (.builtin id))(ha:PA X (e::es) t)(hn:x0 (x≠ "__name__") xL)(hdb:x0 ((x==("__debug__":Str))=false) xL)(he:x0 (um (e::es) X.env=(false,eval e X.env)::um es X.env) wv)(hpl:x0 ((backTo pos (um es X.env)).any (·.1)=false) wv):PE X (.Call (.Name x p) (e::es) [] pos) (tCB r t):=by
 intro pins s σ H Q I h
 refine vz (JO I hg hm hv ?_ hn hdb)
 exact y4 (thn (ha pos pins s σ H _ I h) λus s1 ⟨vs,H1,I1,r1,q1⟩=>hc pins s1 σ H1 vs us Q I1 r1 q1) he hpl
def U9(hc:EW X (.type T) r)(hg:Gl X x)(hm:X.mg x=none)(hv:bootBuiltins x=Gc (.type T))(ha:PA X (e::es) t)(hn:x0 (x≠ "__name__") xL)(hdb:x0 ((x==("__debug__":Str))=false) xL)(he:x0 (um (e::es) X.env=(false,eval e X.env)::um es X.env) wv)(hpl:x0 ((backTo pos (um es X.env)).any (·.1)=false) wv):PE X (.Call (.Name x p) (e::es) [] pos) (tCB r t):=by
 intro pins s σ H Q I h
 refine vz (JO I hg hm hv ?_ hn hdb)
 exact vx (thn (ha pos pins s σ H _ I h) λus s1 ⟨vs,H1,I1,r1,q1⟩=>hc pins s1 σ H1 vs us Q I1 r1 q1) he hpl
end
end L2
namespace HT
open PySem PyProof.Rows
section
open PySem.SeqAt
open PySem.AutoSeq1 (wpAny_loadPart')
open PySem.MeetsSeq PySem.MeetsSeq2 PySem.MeetsSeq3
end
section
variable{prog:vg}{w:v9}{A:xV}{E:uT->uf->Prop}{s:uf}
def aY{Q:uT->uf->Prop}(ht:IsTup s.heap t vs.toArray)(hb:IsTup s.heap b ws.toArray)(hv:vs≠[])(h1:ws=[]->Q (.ref t) s)(h2:ws≠[]->Q (.ref s.heap.objs.size) {s with heap:=s.heap.push {cls:=.type "tuple",data:=.seq (vs++ws).toArray}})(hsz:vs.length+ws.length<=sizeLine):wpAny (model prog w) A (binaryOp .Add (.ref t) (.ref b)) Q E s:=by
 obtain⟨⟨cls,dd,data,sl⟩,ho,hc,n,hd⟩:=id ht
 obtain⟨⟨cls2,dd2,data2,sl2⟩,ho2,hc2,n2,hd2⟩:=id hb
 simp only at hc hd hc2 hd2
 subst hc hd hc2 hd2
 have e:vs.toArray++ws.toArray=(vs++ws).toArray:=by simp
 by_cases hw:ws=[]
 .exact concat_meets ⟨_,ho,rfl⟩ ⟨_,ho2,rfl⟩ AAc ABZ yr yj (yb _ _)
   (tuple_addW1 t b vs.toArray ws.toArray n n2 dd dd2 sl sl2 (by simpa using hv) (by simp[hw])) ⟨ho,ho2,h1 hw⟩
 .refine concat_meets ⟨_,ho,rfl⟩ ⟨_,ho2,rfl⟩ AAc ABZ yr yj (yb _ _)
   (tuple_addW2 t b vs.toArray ws.toArray n n2 dd dd2 sl sl2 (by simpa using hv) (by simpa using hw) (by rw[ua,ua];exact hsz)) ⟨ho,ho2,?_⟩
  rw[e]
  exact h2 hw
noncomputable def sIx(n d:Nat):uM Int->Nat
 |none=>d
 |some v=>if v<0 then(v+(n:Int)).toNat else min v.toNat n
def Rq(n d k:Nat):sIx n d (Gc (k:Int))=min k n:=by
 show(if(k:Int)<0 then((k:Int)+(n:Int)).toNat else min (k:Int).toNat n)=min k n
 rw[vL (by lia),wB]
def fL(n d:Nat)(hd:d<=n)(o:uM Int):sIx n d o<=n:=by
 cases o with
 |none=>exact hd
 |some v=>
  show(if v<0 then(v+(n:Int)).toNat else min v.toNat n)<=n
  by_cases hv:v<0
  .rw[vF hv];lia
  .rw[vL hv];exact y7 _ _
def O8(v:Int)(n:Nat)(hv:¬v<0):min v (n:Int)=((min v.toNat n:Nat):Int):=by
 obtain⟨k,rfl⟩:=Int.eq_ofNat_of_zero_le (Int.not_lt.mp hv)
 rcases Nat.le_total k n with h|h
 .exact(AAz (Int.ofNat_le.mpr h)).trans (congrArg Nat.cast (AA0 h)).symm
 .exact(Int.min_eq_right (Int.ofNat_le.mpr h)).trans (congrArg Nat.cast (Nat.min_eq_right h)).symm
def Vj(v:Int)(n d:Nat):(if v<0 then max (v+(n:Int)) 0 else min v (n:Int))=((sIx n d (Gc v):Nat):Int):=by
 show(if v<0 then max (v+(n:Int)) 0 else min v (n:Int))=(((if v<0 then(v+(n:Int)).toNat else min v.toNat n):Nat):Int)
 by_cases hv:v<0
 .simp only[vF hv];exact(AA1 _).symm
 .simp only[vL hv];exact O8 v n hv
def Uh(lo hi:uM Int)(n:Nat):yV lo hi 1 (n:Int)=(((sIx n 0 lo:Nat):Int),((sIx n n hi:Nat):Int)):=by
 have h1:¬((1:Int)<0):=by lia
 unfold yV
 simp only[h1,AAd]
 refine Prod.ext ?_ ?_
 .cases lo with
  |none=>rfl
  |some v=>exact Vj v n 0
 .cases hi with
  |none=>rfl
  |some v=>exact Vj v n n
def UE(i j:Nat):xW (i:Int) (j:Int) 1=j-i:=by
 unfold xW
 have h1:(1:Int)>0:=by lia
 simp only[h1,zT,Int.ediv_one]
 split<;>lia
def OA{Q:uM Int->uf->Prop}(p:AAl v o)(h:Q o s):wpAny (model prog w) A (Builtin.Slice.slicePartIndex v) Q E s:=by
 cases p with
 |none=>exact slicePart_none h
 |int i t=>exact slicePart_int h
def Hn{lo hi:uM Int}{n:Nat}(hs:s.heap.IsSliceOf sl vl vu .none)(pl:AAl vl lo)(pu:AAl vu hi)(h:Q (((sIx n 0 lo:Nat):Int),1,sIx n n hi-sIx n 0 lo) s):wpAny (model prog w) A (zq (.ref sl) (pure (n:Int))) Q E s:=by
 obtain⟨os,hos,hcs,hds⟩:=id hs
 unfold zq Builtin.Slice.sliceFields
 refine uJ (uJ (wC hos hds (x:=vl) rfl (uJ (wC hos hds (x:=vu) rfl (uJ (wC hos hds (x:=.none) rfl (uq ?_)))))))
 refine uJ (slicePart_none ?_)
 show wpAny _ _ (if((1:Int)==0)=true then _ else _) _ _ s
 rw[vL (by decide)]
 refine uJ (OA pl (uJ (OA pu (uJ (uq ?_)))))
 show wpAny _ _ (match yV lo hi 1 (n:Int)with|(lo,hi)=>pure (lo,(1:Int),xW lo hi 1)) _ _ s
 rw[Uh lo hi n]
 show wpAny _ _ (pure (((sIx n 0 lo:Nat):Int),(1:Int),xW ((sIx n 0 lo:Nat):Int) ((sIx n n hi:Nat):Int) 1)) _ _ s
 rw[UE]
 exact uq h
def Y5(xs:zE uT)(i k:Nat):((W1 k).filterMap λ(m:Nat)=>xs[((i:Int)+(m:Int)*1).toNat]?).toArray=((xs.toList.drop i).take k).toArray:=by
 have e:(λ(m:Nat)=>xs[((i:Int)+(m:Int)*1).toNat]?)=λm=>xs[i+m]?:=by
  funext m
  have:((i:Int)+(m:Int)*1).toNat=i+m:=by lia
  rw[this]
 rw[e]
 have:=pick_run xs i k
 rw[List.filterMap_map]at this
 have e2:((λx=>xs[x]?)∘λx=>i+x)=λm=>xs[i+m]?:=rfl
 rw[e2]at this
 rw[this]
def LJ{lo hi:uM Int}(ht:IsTup s.heap t items)(hs:s.heap.IsSliceOf sl vl vu .none)(pl:AAl vl lo)(pu:AAl vu hi)(hw:¬(sIx items.size 0 lo=0/\sIx items.size items.size hi=items.size))(h:Q (.ref s.heap.objs.size) {s with heap:=s.heap.push {cls:=.type "tuple",data:=.seq ((items.toList.drop (sIx items.size 0 lo)).take (sIx items.size items.size hi-sIx items.size 0 lo)).toArray}})(hsz:items.size<=sizeLine):wpAny (model prog w) A (getItem (.ref t) (.ref sl)) Q E s:=by
 have htake:sizeOk (.seq ((items.toList.drop (sIx items.size 0 lo)).take (sIx items.size items.size hi-sIx items.size 0 lo)).toArray):=by
  show((items.toList.drop (sIx items.size 0 lo)).take (sIx items.size items.size hi-sIx items.size 0 lo)).toArray.size<=sizeLine
  rw[ua,y3,List.length_drop,zR]
  exact uH (y7 _ _) (uH (Nat.sub_le _ _) hsz)
 have hj:sIx items.size items.size hi<=items.size:=fL _ _ (uP _) hi
 obtain⟨os,hos,hcs,hds⟩:=id hs
 have hTs:s.TypeIs (.ref sl) "slice":=⟨os,hos,hcs⟩
 unfold getItem
 try with_reducible refine wj ?_
 first|refine uJ (uq ?_)|skip
 refine uJ (wpAny_sequenceKey ht.typeIs (by decide) ?_)
 refine uJ (wN (name:=wQ "__getitem__") ht.typeIs vV
  (wd vV ht.typeIs ABU ?_ (ABd _ _)))
 show wpAny _ _ (zu (.ref t) >>= _) _ _ s
 refine uJ (tupleItemsOf_ ht ?_)
 refine uJ (wpAny_typeOf hTs ?_)
 rw[vF (by decide)]
 refine uJ (Hn hs pl pu ?_)
 have hno:¬((((sIx items.size 0 lo:Nat):Int)==0 && (1:Int)==1 && (sIx items.size items.size hi-sIx items.size 0 lo)==items.size)=true):=by
  intro q
  rw[uW,uW]at q
  have q1:((sIx items.size 0 lo:Nat):Int)=0:=eq_of_beq q.1.1
  have q2:sIx items.size items.size hi-sIx items.size 0 lo=items.size:=eq_of_beq q.2
  exact hw ⟨by lia,by lia⟩
 show wpAny _ _ (if(((sIx items.size 0 lo:Nat):Int)==0 && (1:Int)==1 && (sIx items.size items.size hi-sIx items.size 0 lo)==items.size)=true then _ else _) _ _ s
 rw[vL hno,Y5]
 first
  |exact uJ (m:=xp _) (wx (uq ⟨_,rfl,uq h⟩) htake)
  |exact uJ (m:=xp _) (wx (uJ (uq (uq ⟨_,rfl,uq h⟩))) htake)
  |exact uJ (uJ (m:=xp _) (wx (uq (uq ⟨_,rfl,uq h⟩)) htake))
  |exact uJ (uJ (m:=xp _) (wx (uq ⟨_,rfl,uq h⟩) htake))
end
end HT
namespace L2
open PySem PySem.Spec PyProof.Rows
abbrev TO:=St->Hp->(uM Int->Hp->Prop)->Prop
def PO(X:Cx)(e:uM vw)(t:TO):Prop:=
 ∀(pins:Wp (ue×Obj)) (s:uf) (σ:St) (H:Hp) (Q:uM Int->Hp->Prop),Inv X pins σ H s->t σ H Q->
  wpAny (model X.prog X.w) X.A (evalPart e X.env) (λu s'=>∃o H',Inv X pins σ H' s'/\AAl u o/\Q o H') X.xe s
noncomputable def bC:TO:=λ_ H Q=>Q none H
noncomputable def pI(t:TE):TO:=λσ H Q=>t σ H λx H1=>∃i,x=.int i/\Q (Gc i) H1
def intsAre_of{ns:Wp Int}:∀{us:Wp uT},Vals (ns.map V.int) us->wR us ns:=by
 induction ns with
 |nil=>intro us r;rw[vM]at r;cases r;exact .nil
 |cons n ns ih=>
  intro us r
  rw[uV]at r
  cases r with
  |cons r1 r2=>
   obtain⟨t,e⟩:=r1
   subst e
   exact .cons n t (ih r2)
section
variable{X:Cx}{e:vw}{te:TE}{lo hi:uM vw}{tl th:TO}{pos p2:Pos}
def W3:PO X none bC:=by
 intro pins s σ H Q I h
 rw[evalPart_none]
 exact uq ⟨none,H,I,.none,h⟩
def Pm(h:PE X e te):PO X (Gc e) (pI te):=by
 intro pins s σ H Q I hw
 rw[evalPart_some]
 refine thn (h pins s σ H _ I hw) λu s1 z=>?_
 obtain⟨x,H1,I1,r1,q1⟩:=z
 obtain⟨i,rfl,q⟩:=q1
 obtain⟨t,rfl⟩:=r1
 exact⟨Gc i,H1,I1,.int i t,q⟩
def SlR(X:Cx)(r:V->uM Int->uM Int->Hp->VK->Prop):Prop:=
 ∀(pins:Wp (ue×Obj)) (s:uf) (σ:St) (H:Hp) (x:V) (v vl vu:uT) (lo hi:uM Int) (sl:ue) (Q:VK),Inv X pins σ H s->RelV x v->s.heap.IsSliceOf sl vl vu .none->AAl vl lo->AAl vu hi->r x lo hi H Q->
  ∃T id,typeLookup (.type T) "__getitem__"=pure (Gc (.builtin id))/\s.TypeIs v T/\wpAny (model X.prog X.w) X.A (getItem v (.ref sl)) (EP X pins σ Q) X.xe s
noncomputable def tSl(r:V->uM Int->uM Int->Hp->VK->Prop)(te:TE)(tl th:TO):TE:=λσ H Q=>te σ H λx H1=>tl σ H1 λl H2=>th σ H2 λu H3=>r x l u H3 Q
def PU{r:V->uM Int->uM Int->Hp->VK->Prop}(hr:SlR X r)(he:PE X e te)(hl:PO X lo tl)(hu:PO X hi th):PE X (.Subscript e (.Slice lo hi none p2) pos) (tSl r te tl th):=by
 intro pins s σ H Q I h
 refine Subscript_ (thn (he pins s σ H _ I h) λv s1 z=>?_)
 obtain⟨x,H1,I1,r1,q1⟩:=z
 refine wpAny_Slice (thn (hl pins s1 σ H1 _ I1 q1) λvl s2 ⟨l,H2,I2,pl,q2⟩=>thn (hu pins s2 σ H2 _ I2 q2) λvu s3 z=>?_)
 obtain⟨u,H3,I3,pu,q3⟩:=z
 rw[evalPart_none]
 refine uq ?_
 have I4:Inv X pins σ H3 {s3 with heap:=s3.heap.push {cls:=.type "slice",data:=.fields #[vl,vu,.none]}}:=I3.kept (t':=s3.toks) λb ob q=>uG _ q
 obtain⟨T,id,hT,ht,hg⟩:=hr pins {s3 with heap:=s3.heap.push {cls:=.type "slice",data:=.fields #[vl,vu,.none]}} σ H3 x v vl vu l u s3.heap.objs.size Q I4 r1 (Heap.IsSliceOf.new ..) pl pu q3
 show wpAny (model X.prog X.w) X.A (subscriptTail e (.Slice lo hi none p2) v (.ref s3.heap.objs.size)) (EP X pins σ Q) X.xe {s3 with heap:=s3.heap.push {cls:=.type "slice",data:=.fields #[vl,vu,.none]}}
 exact tail_any (ops:=[.ref s3.heap.objs.size,v]) ht hT hg (by with_unfolding_all rfl)
noncomputable def ZL(xs:Wp V)(lo hi:uM Int):Wp V:=(xs.drop (HT.sIx xs.length 0 lo)).take (HT.sIx xs.length xs.length hi-HT.sIx xs.length 0 lo)
def NG(xs:Wp V)(lo hi:uM Int):(ZL xs lo hi).length<=xs.length:=by
 unfold ZL
 rw[y3,List.length_drop]
 exact uH (y7 _ _) (Nat.sub_le _ _)
def sN(K:uF):V->uM Int->uM Int->Hp->VK->Prop:=λx lo hi H Q=>∃a xs,x=.ref a/\SqT K H a xs/\
 ¬(HT.sIx xs.length 0 lo=0/\HT.sIx xs.length xs.length hi=xs.length)/\∀p,H p=none->Q (.ref p) (upd H p (.tup (ZL xs lo hi)))
def gH:SlR X (sN X.K):=by
 intro pins s σ H x v vl vu lo hi sl Q I rx hs pl pu h
 obtain⟨a,xs,rfl,hx,hw,q⟩:=h
 cases rx
 obtain⟨its,r,ht,hz⟩:=I.tuple hx
 have hlen:its.toArray.size=xs.length:=by rw[ua];exact r.length.symm
 refine⟨"tuple",_,vV.lookup,ht.typeIs,?_⟩
 refine HT.LJ ht hs pl pu (by rw[hlen];exact hw) ?_ (by rw[hlen];exact hz)
 rw[hlen]
 refine⟨.ref s.heap.objs.size,_,I.laid (t':=s.toks) (o:=.tup (ZL xs lo hi)) (λb ob q=>uG _ q) (uP _) ?_,rfl,q _ (I.hok.fresh (uP _))⟩
 exact⟨uH (NG xs lo hi) hz,_,(r.drop (HT.sIx xs.length 0 lo)).take (HT.sIx xs.length xs.length hi-HT.sIx xs.length 0 lo),yX _ _⟩
noncomputable def nR(K:uF):R2:=λx y H Q=>∃a b xs ys,x=.ref a/\y=.ref b/\SqT K H a xs/\SqT K H b ys/\xs≠[]/\xs.length+ys.length<=sizeLine/\
 (ys=[]->Q (.ref a) H)/\(ys≠[]->∀p,H p=none->Q (.ref p) (upd H p (.tup (xs++ys))))
def Vals.Pb{xs:Wp V}{us:Wp uT}(r:Vals xs us):us=[]↔xs=[]:=by
 cases r with
 |nil=>simp
 |cons _ _=>simp
def c8:OpR X (binaryOp .Add) (nR X.K):=by
 intro pins s σ H x y v u Q I rx ry h
 obtain⟨a,b,xs,ys,rfl,rfl,ha,hb,hx,hz,q1,q2⟩:=h
 cases rx
 cases ry
 obtain⟨its,r1,p1,_⟩:=I.tuple ha
 obtain⟨its2,r2,p2,_⟩:=I.tuple hb
 refine HT.aY p1 p2 (λz=>hx (r1.Pb.mp z)) (λz=>⟨.ref a,H,I,rfl,q1 (r2.Pb.mp z)⟩) (λz=>?_) (by rw[<-r1.length,<-r2.length];exact hz)
 refine⟨.ref s.heap.objs.size,_,I.laid (t':=s.toks) (o:=.tup (xs++ys)) (λb ob q=>uG _ q) (uP _) ?_,rfl,q2 (λw=>z (r2.Pb.mpr w)) _ (I.hok.fresh (uP _))⟩
 exact⟨by rw[vb];exact hz,_,r1.append r2,yX _ _⟩
end
end L2
namespace L2
open PySem PySem.Spec PyProof.Rows
noncomputable def ixN(n:Nat)(i:Int):uM Nat:=if 0<=i then(if i<n then Gc i.toNat else none)else if-(n:Int)<=i then Gc (i+n).toNat else none
noncomputable def atI{α:Type}(xs:Wp α)(i:Int):uM α:=(ixN xs.length i).bind λj=>xs[j]?
def U2{j:Nat}(h:ixN n i=Gc j):seqIndex? i n=Gc j/\j<n/\ -(n:Int)<=i/\i<n:=by
 unfold ixN at h
 by_cases h0:0<=i
 .rw[vF h0]at h
  by_cases h1:i<n
  .rw[vF h1]at h
   have e:i.toNat=j:=wK h
   exact⟨by rw[seqIndex_of h0 h1,e],by lia,by lia,h1⟩
  .rw[vL h1]at h;cases h
 .rw[vL h0]at h
  by_cases h1: -(n:Int)<=i
  .rw[vF h1]at h
   have e:(i+n).toNat=j:=wK h
   exact⟨by rw[seqIndex_neg (by lia) h1,e],by lia,h1,by lia⟩
  .rw[vL h1]at h;cases h
def XC{v:α}(h:atI xs i=Gc v):∃j,seqIndex? i xs.length=Gc j/\xs[j]?=Gc v/\j<xs.length/\ -(xs.length:Int)<=i/\i<xs.length:=by
 unfold atI at h
 cases e:ixN xs.length i with
 |none=>rw[e]at h;cases h
 |some j=>
  rw[e]at h
  obtain⟨h1,h2,h3,h4⟩:=U2 e
  exact⟨j,h1,h,h2,h3,h4⟩
def dU{j:Nat}{v:α}(h:xs[j]?=Gc v):atI xs (j:Int)=Gc v:=by
 have hj:j<xs.length:=(uU.mp h).1
 have e:ixN xs.length (j:Int)=Gc j:=by
  unfold ixN
  rw[vF (by lia),vF (by lia)];simp
 unfold atI;rw[e];exact h
def Oq{α:Type}(xs:Wp α)(v:α):atI (xs++[v]) (-1)=Gc v:=by
 have hl:(xs++[v]).length=xs.length+1:=by simp
 have e:ixN (xs++[v]).length (-1)=Gc xs.length:=by
  unfold ixN
  rw[hl,vL (by decide),vF (by lia)]
  congr 1
  lia
 unfold atI
 rw[e]
 show(xs++[v])[xs.length]?=Gc v
 simp
def PZ(b:vw):Prop:=∀o i,subscripted b false o i=operate [o,i] (getItem o i)
def IxR(X:Cx)(r:R2):Prop:=
 ∀(value slice:vw) (pins:Wp (ue×Obj)) (s:uf) (σ:St) (H:Hp) (x y:V) (v u:uT) (Q:VK),Inv X pins σ H s->RelV x v->RelV y u->r x y H Q->
  subscripted slice false v u=operate [v,u] (getItem v u)->wpAny (model X.prog X.w) X.A (subscriptTail value slice v u) (EP X pins σ Q) X.xe s
def MtR(X:Cx)(id:yJ)(r:V->Wp V->Hp->VK->Prop):Prop:=
 ∀(pins:Wp (ue×Obj)) (s:uf) (σ:St) (H:Hp) (x:V) (xs:Wp V) (v:uT) (us:Wp uT) (Q:VK),Inv X pins σ H s->RelV x v->Vals xs us->r x xs H Q->
  wpAny (model X.prog X.w) X.A (call (.builtin id) (v::us)) (EP X pins σ Q) X.xe s
section
variable{X:Cx}{a b:vw}{ta tb:TE}{pos:Pos}
def bx{r:R2}(hr:IxR X r)(ha:PE X a ta)(hb:PE X b tb)(hs:PZ b):PE X (.Subscript a b pos) (tOp r ta tb):=by
 intro pins s σ H Q I h
 exact Subscript_ (lV ha hb I h λv u s2 x y H2 I2 rx ry q=>hr a b pins s2 σ H2 x y v u Q I2 rx ry q (hs _ _))
noncomputable def rR(K:uF):R2:=λx y H Q=>∃p xs i v,x=.ref p/\y=.int i/\SqL K H p xs/\atI xs i=Gc v/\Q v H
noncomputable def sj(K:uF):R2:=λx y H Q=>∃p xs i v,x=.ref p/\y=.int i/\SqT K H p xs/\atI xs i=Gc v/\Q v H
def bL:IxR X (rR X.K):=by
 intro value slice pins s σ H x y v u Q I rx ry h hs
 obtain⟨p,xs,i,z,rfl,rfl,hq,he,q⟩:=h
 cases rx
 obtain⟨t,rfl⟩:=ry
 obtain⟨its,r,pl,hz⟩:=I.list hq
 obtain⟨j,h1,h2,h3,h4,h5⟩:=XC he
 obtain⟨w,ew,rw'⟩:=r.get h2
 have hl:=r.length
 have hn:=OW
 have fin:EP X pins σ Q w s:=⟨z,H,I,rw',q⟩
 by_cases h0:0<=i
 .have hj:i.toNat=j:=by
   rw[seqIndex_of h0 h5]at h1
   exact wK h1
  exact item_listR pl.isList h0 (by lia) (by rw[hj];simpa using ew) fin hs
 .have hj:(i+(its.toArray.size:Int)).toNat=j:=by
   rw[seqIndex_neg (by lia) h4]at h1
   rw[ua,<-hl]
   exact wK h1
  exact AAm (x:=w) pl.isList.typeIs slot_list_getitem.lookup
   (wpAny_getItem_list_neg (Q:=λr s'=>r=w/\EP X pins σ Q r s') pl.isList (by lia) (by rw[ua]<;>lia) (by lia) (by rw[hj];simpa using ew) ⟨rfl,fin⟩) hs
def g9:IxR X (sj X.K):=by
 intro value slice pins s σ H x y v u Q I rx ry h hs
 obtain⟨p,xs,i,z,rfl,rfl,hq,he,q⟩:=h
 cases rx
 obtain⟨t,rfl⟩:=ry
 obtain⟨its,r,pl,hz⟩:=I.tuple hq
 obtain⟨j,h1,h2,h3,h4,h5⟩:=XC he
 obtain⟨w,ew,rw'⟩:=r.get h2
 have hl:=r.length
 have hn:=OW
 have fin:EP X pins σ Q w s:=⟨z,H,I,rw',q⟩
 exact AAm (x:=w) pl.typeIs vV.lookup
  (getItem_tuple (j:=j) (Q:=λr s'=>r=w/\EP X pins σ Q r s') pl (by lia) (by lia) (by rw[ua,<-hl];exact h1) (by simpa using ew) ⟨rfl,fin⟩) hs
def UZ(its:Wp uT) n j(u:uT):zv (·.setIfInBounds j u) {cls:=.type "list",data:=.seq its.toArray n}={cls:=.type "list",data:=.seq (its.set j u).toArray n}:=by
 simp[zv]
def Inv.lst{σ:St}(I:Inv X pins σ H s)(h:H p=Gc (.lst xs)):∃(its:Wp uT) (n:Nat),Vals xs its/\s.heap.get? p=Gc {cls:=.type "list",data:=.seq its.toArray n}/\xs.length<=sizeLine:=by
 obtain⟨z,its,n,r,e⟩:=I.hok p _ h
 exact⟨its,n,r,e,z⟩
def Inv.eX{σ:St}{its its':Wp uT}(I:Inv X pins σ H s)(h:H p=Gc (.lst xs))(ho:s.heap.get? p=Gc {cls:=.type "list",data:=.seq its.toArray n})(hf:f {cls:=.type "list",data:=.seq its.toArray n}={cls:=.type "list",data:=.seq its'.toArray n'})(r:Vals ys its')(hz:ys.length<=sizeLine)(t:Nat):Inv X pins σ (upd H p (.lst ys)) {s with heap:=s.heap.update p f,toks:=t}:=by
 have e:(s.heap.update p f).get? p=Gc {cls:=.type "list",data:=.seq its'.toArray n'}:=by
  rw[wY f ho (by rw[hf]<;>rfl),hf]
 refine I.write (x:=p) (e:=p) (by rw[h];trivial) (.inl rfl) (λb u hb q=>(vk _ _ (vj hb)).trans q) ⟨_,e⟩ ?_
 exact⟨hz,its',n',r,e⟩
def mT:V->V->V->Hp->(Hp->Prop)->Prop:=λo i v H Q=>∃p xs k j,o=.ref p/\i=.int k/\H p=Gc (.lst xs)/\ixN xs.length k=Gc j/\Q (upd H p (.lst (xs.set j v)))
def set_list:mM X mT:=by
 intro pins s σ H o i v ov iv u Q I ro ri rv h
 obtain⟨p,xs,k,j,rfl,rfl,hp,hj,q⟩:=h
 cases ro
 obtain⟨t,rfl⟩:=ri
 obtain⟨its,n,r,ho,hz⟩:=I.lst hp
 obtain⟨h1,h2,h3,h4⟩:=U2 hj
 have hl:=r.length
 have hn:=OW
 have I':Inv X pins σ (upd H p (.lst (xs.set j v))) {s with heap:=s.heap.update p (zv (·.setIfInBounds j u))}:=
  I.eX hp ho (UZ its n j u) (r.set rv j) (by rw[wW];exact hz) s.toks
 by_cases h0:0<=k
 .have hk:k.toNat=j:=by
   rw[seqIndex_of h0 h4]at h1
   exact wK h1
  exact PySem.W.ki_setAt ho h0 (by lia) (by rw[ua,<-hl];exact h4) (by rw[hk];exact⟨_,I',q⟩)
 .have hk:(k+(its.toArray.size:Int)).toNat=j:=by
   rw[seqIndex_neg (by lia) h3]at h1
   rw[ua,<-hl]
   exact wK h1
  exact PySem.W.ki_setBack ho (by lia) (by rw[ua,<-hl];exact h3) (by lia) (by rw[hk];exact⟨_,I',q⟩)
def Qx(lo hi:uM Int)(n:Nat):(sliceBounds lo hi none n).1=((HT.sIx n 0 lo:Nat):Int)/\(sliceBounds lo hi none n).2.1=((HT.sIx n n hi:Nat):Int)/\(sliceBounds lo hi none n).2.2=1:=by
 refine⟨?_,?_,rfl⟩
 .cases lo with
  |none=>simp[sliceBounds,HT.sIx]
  |some i=>
   simp only[sliceBounds,HT.sIx,Option.getD_none,show(1:Int)>0 by decide,zT]
   by_cases h:i<0
   .simp only[h,zT];rw[AAz (zx (by rw[AAn];exact xF h)),Int.max_comm,AA1]
   .simp only[h,AAd];rw[HT.O8 i n h,Int.max_eq_right (ABe _)]
 .cases hi with
  |none=>simp[sliceBounds,HT.sIx]
  |some i=>
   simp only[sliceBounds,HT.sIx,Option.getD_none,show(1:Int)>0 by decide,zT]
   by_cases h:i<0
   .simp only[h,zT];rw[AAz (zx (by rw[AAn];exact xF h)),Int.max_comm,AA1]
   .simp only[h,AAd];rw[HT.O8 i n h,Int.max_eq_right (ABe _)]
def PN(its:Wp uT)(lo hi:uM Int):slicePick its.toArray lo hi none=((its.drop (HT.sIx its.length 0 lo)).take (HT.sIx its.length its.length hi-HT.sIx its.length 0 lo)).toArray:=by
 obtain⟨h1,h2,h3⟩:=Qx lo hi its.toArray.size
 unfold slicePick
 rw[h1,h2,h3]
 simp only[sliceRange_one,pick_run,ua]<;>rfl
def rY(K:uF):V->uM Int->uM Int->Hp->VK->Prop:=λx lo hi H Q=>∃a xs,x=.ref a/\SqL K H a xs/\∀p,H p=none->Q (.ref p) (upd H p (.lst (ZL xs lo hi)))
def cQ:SlR X (rY X.K):=by
 intro pins s σ H x v vl vu lo hi sl Q I rx hs pl pu h
 obtain⟨a,xs,rfl,hx,q⟩:=h
 cases rx
 obtain⟨its,r,ht,hz⟩:=I.list hx
 have hlen:=r.length
 refine⟨"list",_,slot_list_getitem.lookup,ht.isList.typeIs,?_⟩
 refine wpAny_getItem_list_slice ht.isList hs pl pu .none (by simp) ?_ (by rw[ua]<;>lia)
 rw[PN,<-hlen]
 refine⟨.ref s.heap.objs.size,_,I.laid (t':=s.toks) (o:=.lst (ZL xs lo hi)) (λb ob q=>uG _ q) (uP _) ?_,rfl,q _ (I.hok.fresh (uP _))⟩
 exact⟨uH (NG xs lo hi) hz,_,0,(r.drop (HT.sIx xs.length 0 lo)).take (HT.sIx xs.length xs.length hi-HT.sIx xs.length 0 lo),uw _ rfl⟩
noncomputable def Nn:V->va
 | .non=>true
 | .bl _=>true
 | .int _=>true
 | .str _=>true
 |_=>false
noncomputable def eqV:V->V->va
 | .non,.non=>true
 | .bl a,.bl b=>a==b
 | .bl a,.int b=>(if a then 1 else 0)==b
 | .int a,.bl b=>a==(if b then 1 else 0)
 | .int a,.int b=>a==b
 | .str a,.str b=>a==b
 |_,_=>false
def iL{u v:uT}(ry:RelV y u)(rx:RelV x v)(fy:Nn y=true)(fx:Nn x=true):SeqAt.EqAt A s u v (eqV y x):=by
 cases y with
 |non=>
  cases ry
  cases x with
  |non=>cases rx;exact SeqAt.EqAt.same _
  |bl b=>cases rx;exact SeqAt.EqAt.none_bool b
  |int b=>obtain⟨t,rfl⟩:=rx;exact SeqAt.EqAt.none_int b t
  |str b=>obtain⟨t,rfl⟩:=rx;exact SeqAt.EqAt.none_str b t
  |_=>exact absurd (show false=true from fx) vO
 |bl a=>
  cases ry
  cases x with
  |non=>cases rx;exact SeqAt.EqAt.bool_none a
  |bl b=>cases rx;exact SeqAt.EqAt.bool_bool a b
  |int b=>obtain⟨t,rfl⟩:=rx;exact SeqAt.EqAt.bool_int a b t
  |str b=>obtain⟨t,rfl⟩:=rx;exact SeqAt.EqAt.bool_str a b t
  |_=>exact absurd (show false=true from fx) vO
 |int a=>
  obtain⟨t',rfl⟩:=ry
  cases x with
  |non=>cases rx;exact SeqAt.EqAt.int_none a t'
  |bl b=>cases rx;exact SeqAt.EqAt.int_bool a t' b
  |int b=>obtain⟨t,rfl⟩:=rx;exact SeqAt.EqAt.int_int a t' b t
  |str b=>obtain⟨t,rfl⟩:=rx;exact ABa a t' b t
  |_=>exact absurd (show false=true from fx) vO
 |str a=>
  obtain⟨t',rfl⟩:=ry
  cases x with
  |non=>cases rx;exact SeqAt.EqAt.str_none a t'
  |bl b=>cases rx;exact SeqAt.EqAt.str_bool a t' b
  |int b=>obtain⟨t,rfl⟩:=rx;exact ABb a t' b t
  |str b=>obtain⟨t,rfl⟩:=rx;exact SeqAt.EqAt.str_str a t' b t
  |_=>exact absurd (show false=true from fx) vO
 |_=>exact absurd (show false=true from fy) vO
noncomputable def eqU(x:V)(u:uT):va:=match u with
 | .none=>eqV .non x
 | .bool b=>eqV (.bl b) x
 | .int i _=>eqV (.int i) x
 | .str z _=>eqV (.str z) x
 |_=>false
def Zt{x y:V}{u:uT}(r:RelV y u)(f:Nn y=true):eqU x u=eqV y x:=by
 cases y with
 |non=>cases r;rfl
 |bl b=>cases r;rfl
 |int i=>obtain⟨t,rfl⟩:=r;rfl
 |str z=>obtain⟨t,rfl⟩:=r;rfl
 |_=>exact absurd (show false=true from f) vO
theorem NF:∀{xs} {us:Wp uT},Vals xs us->xs.all Nn=true->us.any (eqU x)=xs.any λy=>eqV y x
 |_,_,.nil,_=>rfl
 |y::xs,u::us,.cons r t,f=>by
  rw[yc,uW]at f
  rw[AAS,AAS,Zt r f.1,NF t f.2]
theorem Kf(rx:RelV x v)(fx:Nn x=true):∀{xs} {us:Wp uT},Vals xs us->xs.all Nn=true->∀u∈us,SeqAt.EqAt A s u v (eqU x u)
 |_,_,.nil,_=>λu hu=>by cases hu
 |y::xs,u::us,.cons r t,f=>λu' hu=>by
  rw[yc,uW]at f
  rcases uS.mp hu with rfl|hu
  .rw[Zt r f.1];exact iL r rx f.1 fx
  .exact Kf rx fx t f.2 u' hu
noncomputable def inV(x:V)(xs:Wp V):va:=xs.any λy=>eqV y x
noncomputable def rIn(K:uF)(neg:va):R2:=λx y H Q=>∃p xs,y=.ref p/\(SqL K H p xs\/SqT K H p xs)/\Nn x=true/\xs.all Nn=true/\Q (.bl (if neg then !inV x xs else inV x xs)) H
def WI:OpR X (compareOp .In) (rIn X.K false):=by
 intro pins s σ H x y v u Q I rx ry h
 obtain⟨p,xs,rfl,hq,fx,fs,q⟩:=h
 cases ry
 rcases hq with hq|hq
 .obtain⟨its,r,pl,hz⟩:=I.list hq
  refine SeqAt.in_listAt (eqU x) pl.isList (λw hw=>Kf rx fx r fs w (by simpa using hw)) ⟨.bl _,H,I,rfl,?_⟩
  rw[show its.toArray.any (eqU x)=its.any (eqU x) by simp,NF r fs]
  exact q
 .obtain⟨its,r,pl,hz⟩:=I.tuple hq
  refine SeqAt.in_tupleAt (eqU x) pl (λw hw=>Kf rx fx r fs w (by simpa using hw)) ⟨.bl _,H,I,rfl,?_⟩
  rw[show its.toArray.any (eqU x)=its.any (eqU x) by simp,NF r fs]
  exact q
def QZ:OpR X (compareOp .NotIn) (rIn X.K true):=by
 intro pins s σ H x y v u Q I rx ry h
 obtain⟨p,xs,rfl,hq,fx,fs,q⟩:=h
 cases ry
 rcases hq with hq|hq
 .obtain⟨its,r,pl,hz⟩:=I.list hq
  refine SeqAt.notIn_listAt (eqU x) pl.isList (λw hw=>Kf rx fx r fs w (by simpa using hw)) ⟨.bl _,H,I,rfl,?_⟩
  rw[show its.toArray.any (eqU x)=its.any (eqU x) by simp,NF r fs]
  exact q
 .obtain⟨its,r,pl,hz⟩:=I.tuple hq
  refine SeqAt.notIn_tupleAt (eqU x) pl (λw hw=>Kf rx fx r fs w (by simpa using hw)) ⟨.bl _,H,I,rfl,?_⟩
  rw[show its.toArray.any (eqU x)=its.any (eqU x) by simp,NF r fs]
  exact q
def P7:EW X (.builtin "len") (λxs H Q=>∃p ys,xs=[.ref p]/\(SqL X.K H p ys\/SqT X.K H p ys)/\Q (.int ys.length) H):=by
 intro pins s σ H xs us Q I r h
 obtain⟨p,ys,rfl,hq,q⟩:=h
 obtain⟨u,rfl,rx⟩:=vals1 r
 cases rx
 have hn:=OW
 rcases hq with hq|hq
 .obtain⟨its,r',pl,hz⟩:=I.list hq
  have hlen:=r'.length
  exact Calls.call_len_list pl.isList (by simp only[ua]<;>lia) ⟨.int ys.length,H,I.tok _,⟨s.toks+1,by rw[ua,hlen]⟩,q⟩
 .obtain⟨its,r',pl,hz⟩:=I.tuple hq
  have hlen:=r'.length
  exact len_tuple pl (by simp only[ua]<;>lia) ⟨.int ys.length,H,I.tok _,⟨s.toks+1,by rw[ua,hlen]⟩,q⟩
def Qr:EW X (.builtin "len") (λxs H Q=>∃z,xs=[.str z]/\z.length<=sizeLine/\Q (.int z.length) H):=by
 intro pins s σ H xs us Q I r h
 obtain⟨z,rfl,hz,q⟩:=h
 obtain⟨u,rfl,t,rfl⟩:=vals1 r
 have hn:=OW
 exact len_str (by lia) ⟨.int z.length,H,I.tok _,⟨_,rfl⟩,q⟩
def Qf:EW X (.type "list") (λxs H Q=>∃p ys,xs=[.ref p]/\(SqL X.K H p ys\/SqT X.K H p ys)/\∀l,H l=none->Q (.ref l) (upd H l (.lst ys))):=by
 intro pins s σ H xs us Q I r h
 obtain⟨p,ys,rfl,hq,q⟩:=h
 obtain⟨u,rfl,rx⟩:=vals1 r
 cases rx
 have fin:∀(its:Wp uT),Vals ys its->ys.length<=sizeLine->∀(h':vo) (c':Nat),(∀b o',s.heap.get? b=Gc o'->h'.get? b=Gc o')->
   h'.get? s.heap.objs.size=Gc {cls:=.type "list",dict:=none,data:=.seq its.toArray c',slots:= #[]}->EP X pins σ Q (.ref s.heap.objs.size) {s with heap:=h'}:=λits r' hz h' c' kp e=>
  ⟨.ref s.heap.objs.size,_,I.laid (t':=s.toks) kp (uP _) (show Ej X.prog X.w _ h' _ (.lst ys)from⟨hz,its,c',r',e⟩),rfl,q _ (I.hok.fresh (uP _))⟩
 rcases hq with hq|hq
 .obtain⟨its,r',pl,hz⟩:=I.list hq
  have hlen:=r'.length
  obtain⟨o,ho,hc,n,hd⟩:=pl.isList
  exact call_list_seq p (.inl rfl) ho hc hd (λh' c' kp e=>fin its r' hz h' c' kp e) (by simp only[ua]<;>lia)
 .obtain⟨its,r',pl,hz⟩:=I.tuple hq
  have hlen:=r'.length
  obtain⟨o,ho,hc,n,hd⟩:=pl
  exact call_list_seq p (.inr rfl) ho hc hd (λh' c' kp e=>fin its r' hz h' c' kp e) (by simp only[ua]<;>lia)
def PM:EW X (.type "tuple") (λxs H Q=>∃p ys,xs=[.ref p]/\((SqL X.K H p ys/\∀l,H l=none->Q (.ref l) (upd H l (.tup ys)))\/(SqT X.K H p ys/\Q (.ref p) H))):=by
 intro pins s σ H xs us Q I r h
 obtain⟨p,ys,rfl,h⟩:=h
 obtain⟨u,rfl,rx⟩:=vals1 r
 cases rx
 rcases h with⟨hq,q⟩|⟨hq,q⟩
 .obtain⟨its,r',pl,hz⟩:=I.list hq
  have hlen:=r'.length
  refine call_tuple_list pl.isList (λh' kp=>?_) (by simp only[ua]<;>lia)
  have I1:Inv X pins σ H {s with heap:=h'}:=I.kept (t':=s.toks) kp
  have I2:Inv X pins σ (upd H h'.objs.size (.tup ys)) {s with heap:=h'.push {cls:=.type "tuple",data:=.seq its.toArray}}:=
   I1.laid (t':=s.toks) (λb o e=>uG _ e) (uP _) (show Ej X.prog X.w _ _ _ (.tup ys)from⟨hz,its,r',yX _ _⟩)
  exact⟨.ref h'.objs.size,_,I2,rfl,q _ (I1.hok.fresh (uP _))⟩
 .obtain⟨its,r',pl,hz⟩:=I.tuple hq
  exact call_tuple_same pl ⟨.ref p,H,I,rfl,q⟩
def tyV(K:uF)(T:yJ)(x:V)(H:Hp):Prop:=match x with
 | .str _=>T="str"
 | .int _=>T="int"
 | .ref p=>(T="list" /\∃xs,SqL K H p xs)\/(T="tuple" /\∃o,K.lookup p=Gc o/\o.cls=.type "tuple" /\o.dict=none)∨ (T="dict" /\((∃kvs,H p=Gc (.dK kvs))\/∃kvs,H p=Gc (.dT kvs)))\/(T="set" /\∃S n,H p=Gc (.set S n))
 |_=>wq
def jS{σ:St}(I:Inv X pins σ H s)(r:RelV x v)(ty:tyV X.K T x H):s.TypeIs v T/\∀a,v=.ref a->∃ob,s.heap.get? a=Gc ob/\ob.dict=none:=by
 cases x with
 |str z=>
  obtain⟨t,rfl⟩:=r
  cases (show T="str" from ty)
  exact⟨AAo s z t,λ_ e=>nomatch e⟩
 |int i=>
  obtain⟨t,rfl⟩:=r
  cases (show T="int" from ty)
  exact⟨y8 s i t,λ_ e=>nomatch e⟩
 |ref p=>
  cases r
  rcases ty with⟨rfl,xs,hq⟩|⟨rfl,o,hk,hc,hd⟩|⟨rfl,hk⟩|⟨rfl,S,n,hk⟩
  .obtain⟨its,_,pl,_⟩:=I.list hq
   refine⟨pl.isList.typeIs,λa e=>?_⟩
   cases e
   obtain⟨o,n,e,c,hd,_⟩:=pl
   exact⟨o,e,hd⟩
  .refine⟨⟨o,I.kIn p o hk,hc⟩,λa e=>?_⟩
   cases e
   exact⟨o,I.kIn _ o hk,hd⟩
  .have z:∃o,s.heap.get? p=Gc o/\o.ExactDict:=by
    rcases hk with⟨kvs,hk⟩|⟨kvs,hk⟩
    .obtain⟨_,_,_,_,o,_,_,e,ex,_⟩:=I.hok p _ hk
     exact⟨o,e,ex⟩
    .obtain⟨_,_,_,_,o,_,_,e,ex,_⟩:=I.hok p _ hk
     exact⟨o,e,ex⟩
   obtain⟨o,e,ex⟩:=z
   refine⟨⟨o,e,ex.1⟩,λa e2=>?_⟩
   cases e2
   exact⟨o,e,ex.2.1⟩
  .obtain⟨o,_,_,_,e,ex,_⟩:=I.hok p _ hk
   refine⟨⟨o,e,ex.1⟩,λa e2=>?_⟩
   cases e2
   exact⟨o,e,ex.2.1⟩
 |_=>exact xA ty
noncomputable def tBM(K:uF)(T:yJ)(r:V->Wp V->Hp->VK->Prop)(to:TE)(t:TA):TE:=λσ H Q=>to σ H λx H1=>tyV K T x H1/\t σ H1 λxs H2=>r x xs H2 Q
variable{o e:vw}{es:Wp vw}{to:TE}{t:TA}{name:Str}{apos cpos:Pos}{T id:yJ}{r:V->Wp V->Hp->VK->Prop}
def nC(pa:PlainAttrs T)(slot:Slot T name id)(hty:typeOf (.builtin id)=pure (.type "method_descriptor"))(hm:MtR X id r)(ho:PE X o to)(ha:PA X (e::es) t)(hbase:x0 (attributeBase o name X.env (eval o X.env)=eval o X.env) wv)(hfew:x0 (((backTo cpos (um (e::es) X.env)).all (λx=> !x.1) && (backToKw cpos (keywordEach [] X.env)).all (λx=>x.1.isSome) && decide ((e::es).length+([]:Wp AAF).length+(if([]:Wp AAF).isEmpty then 0 else 1)<30))=true) wv)(hline:x0 ((apos.endLine==cpos.line)=true) wv)(hs:x0 (um (e::es) X.env=(false,eval e X.env)::um es X.env) wv)(hplain:x0 ((backTo cpos (um es X.env)).any (·.1)=false) wv):PE X (.Call (.Attribute o name apos) (e::es) [] cpos) (tBM X.K T r to t):=by
 intro pins s σ H Q I h
 refine wpAny_Call_method_late hbase hfew hline rfl (thn (ho pins s σ H _ I h) λv s1 z=>?_)
 obtain⟨x,H1,I1,r1,ty,q1⟩:=z
 obtain⟨h1,h2⟩:=jS I1 r1 ty
 refine⟨T,id,pa,slot,hty,h1,h2,?_⟩
 have hA:=ha cpos pins s1 σ H1 _ I1 q1
 rw[hs]at hA⊢
 refine Calls.callWith_builtin (by show(false||(backTo cpos (um es X.env)).any (·.1))=false;rw[hplain]<;>rfl) (ABD ?_)
 exact thn hA λus s2 ⟨vs,H2,I2,r2,q2⟩=>hm pins s2 σ H2 x vs v us Q I2 r1 r2 q2
end
end L2
namespace L2
open PySem PySem.Spec PyProof.Rows
def MtM(X:Cx)(id:yJ)(r:V->Wp V->Hp->VK->Prop):Prop:=
 ∀(pins:Wp (ue×Obj)) (s:uf) (σ:St) (H:Hp) (x:V) (xs:Wp V) (v:uT) (us:Wp uT) (Q:VK),Inv X pins σ H s->RelV x v->Vals xs us->r x xs H Q->
  wpAny (model X.prog X.w) X.A (call (.builtin id) (v::us)) (EP X pins σ Q) X.xe s
def Vals.one:∀{x:V} {us:Wp uT},Vals [x] us->∃u,us=[u]/\RelV x u:=λh=>by
 cases h with
 |cons r t=>cases t;exact⟨_,rfl,r⟩
def Vals.two:∀{x y:V} {us:Wp uT},Vals [x,y] us->∃u v,us=[u,v]/\RelV x u/\RelV y v:=λh=>by
 cases h with
 |cons r t=>
  cases t with
  |cons q t=>cases t;exact⟨_,_,rfl,r,q⟩
theorem Vals.rep(h:Vals xs us):∀k:Nat,Vals (uu k xs).flatten (uu k us).flatten
 |0=>.nil
 |k+1=>by
  rw[wV,wV,xi,xi]
  exact Vals.append h (Vals.rep h k)
theorem foldl_rep its:∀k (acc:Wp uT),ABf (λx1 x2=>x1++x2) acc.toArray (uu k its.toArray)=(acc++(uu k its).flatten).toArray
 |0,acc=>by simp
 |k+1,acc=>by
  have e:acc.toArray++its.toArray=(acc++its).toArray:=by simp
  have e2:(acc++its)++(uu k its).flatten=acc++(uu (k+1) its).flatten:=by
   rw[wV,xi,yL]
  rw[<-e2,<-foldl_rep its k (acc++its),<-e,wV,List.foldl_cons]
section
variable{X:Cx}{pins:Wp (ue×Obj)}{σ:St}{H:Hp}{s:uf}{l b:ue}{xs ys zs:Wp V}
def Inv.nM{its its':Wp uT}{t':Nat}(I:Inv X pins σ H s)(hH:H l=Gc (.lst xs))(e:s.heap.get? l=Gc {cls:=.type "list",data:=.seq its.toArray n})(hf:f its.toArray=its'.toArray)(hv:Vals ys its')(hz:ys.length<=sizeLine):Inv X pins σ (upd H l (.lst ys)) {s with heap:=s.heap.update l (zv f),toks:=t'}:=by
 have q:=PySem.IsL.update e f
 rw[hf]at q
 refine I.write (x:=l) (e:=l) (by rw[hH];exact trivial) (.inl rfl) (λb' u hb hu=>(vk s.heap (zv f) (vj hb)).trans hu) ⟨_,q⟩ ?_
 exact⟨hz,its',_,hv,q⟩
def Inv.qD{its:Wp uT}{t':Nat}(I:Inv X pins σ H s)(hv:Vals ys its)(hz:ys.length<=sizeLine):Inv X pins σ (upd H s.heap.objs.size (.lst ys)) {s with heap:=s.heap.push {cls:=.type "list",data:=.seq its.toArray},toks:=t'}:=
 I.laid (λ_ _ q=>uG _ q) (uP _) ⟨hz,its,0,hv,uw _ rfl⟩
def Inv.fresh(I:Inv X pins σ H s):H s.heap.objs.size=none:=I.hok.fresh (uP _)
def Inv.ZO(I:Inv X pins σ H s)(hH:H l=Gc (.lst xs)):xs.length<=sizeLine/\∃(its:Wp uT) (n:Nat),Vals xs its/\xs.length=its.length/\s.heap.get? l=Gc {cls:=.type "list",data:=.seq its.toArray n}:=by
 obtain⟨z,its,n,r,e⟩:=I.hok l _ hH
 exact⟨z,its,n,r,r.length,e⟩
def PB{n:Nat}(h:n<=sizeLine):wH n=false:=by
 unfold wH
 exact yD (by lia)
end
section
variable{X:Cx}
def bG:V->Wp V->Hp->VK->Prop:=λx vs H Q=>∃l xs y,x=.ref l/\vs=[y]/\H l=Gc (.lst xs)/\xs.length<sizeLine/\Q .non (upd H l (.lst (xs++[y])))
def Qm:MtM X "list.append" bG:=by
 intro pins s σ H x vs v us Q I rx rv h
 obtain⟨l,xs,y,rfl,rfl,hH,hz,q⟩:=h
 cases rx
 obtain⟨u,rfl,ru⟩:=rv.one
 obtain⟨z,its,n,r,hl,e⟩:=I.ZO hH
 refine y9 AA9 ⟨_,e,rfl⟩ F.entry_list_append (F.args_list_append_2 _ _) (PySem.list_append l its.toArray n u (by rw[ua];lia)) ⟨e,?_⟩
 refine⟨.non,_,I.nM (its':=its++[u]) hH e (by simp) (r.append (.cons ru .nil)) ?_,rfl,q⟩
 rw[vb,ABA]
 lia
def cN:V->Wp V->Hp->VK->Prop:=λx vs H Q=>∃l b xs zs,x=.ref l/\vs=[.ref b]/\H l=Gc (.lst xs)/\H b=Gc (.lst zs)/\xs.length+zs.length<=sizeLine/\Q .non (upd H l (.lst (xs++zs)))
def Ux:MtM X "list.extend" cN:=by
 intro pins s σ H x vs v us Q I rx rv h
 obtain⟨l,b,xs,zs,rfl,rfl,hH,hB,hz,q⟩:=h
 cases rx
 obtain⟨u,rfl,ru⟩:=rv.one
 cases ru
 obtain⟨z,its,n,r,hl,e⟩:=I.ZO hH
 obtain⟨z2,its2,n2,r2,hl2,e2⟩:=I.ZO hB
 have hsz:its.toArray.size+its2.toArray.size<=sizeLine:=by rw[ua,ua];lia
 have hlong:¬(!its.toArray.isEmpty && wH (its.toArray.size+its2.toArray.size))=true:=by
  rw[PB hsz,Bool.and_false]
  exact vO
 refine y9 ABg ⟨_,e,rfl⟩ ABV (ABE _ _)
  (AutoSeq1.list_extend_list_list_0 l its.toArray n b its2.toArray n2 hlong (by rw[ua];lia) (by lia)) ⟨e,e2,?_⟩
 refine⟨.non,_,I.nM (its':=its++its2) hH e (by simp) (r.append r2) ?_,rfl,q⟩
 rw[vb]
 lia
noncomputable def rh:R2:=λx y H Q=>∃l b xs zs,x=.ref l/\y=.ref b/\H l=Gc (.lst xs)/\H b=Gc (.lst zs)/\xs.length+zs.length<=sizeLine/\∀p,H p=none->Q (.ref p) (upd H p (.lst (xs++zs)))
def i0:OpR X (binaryOp .Add) rh:=by
 intro pins s σ H x y v u Q I rx ry h
 obtain⟨l,b,xs,zs,rfl,rfl,hH,hB,hz,q⟩:=h
 cases rx
 cases ry
 obtain⟨z,its,n,r,hl,e⟩:=I.ZO hH
 obtain⟨z2,its2,n2,r2,hl2,e2⟩:=I.ZO hB
 refine PySem.P.add_list e e2 ?_ (by rw[ua,ua];lia)
 have ea:its.toArray++its2.toArray=(its++its2).toArray:=by simp
 rw[ea]
 exact⟨.ref _,_,I.qD (t':=s.toks) (r.append r2) (by rw[vb];lia),rfl,q _ I.fresh⟩
noncomputable def rV:R2:=λx y H Q=>∃l k xs,x=.ref l/\y=.int k/\H l=Gc (.lst xs)/\ -(2^63)<=k/\k<2^63/\xs.length*k.toNat<=sizeLine/\
 ∀p,H p=none->Q (.ref p) (upd H p (.lst (uu k.toNat xs).flatten))
def len_rep{α:Type}(xs:Wp α)(k:Nat):(uu k xs).flatten.length=k*xs.length:=by
 induction k with
 |zero=>simp
 |succ k ih=>rw[wV,xi,vb,ih,yt,zU]
def ic:OpR X (binaryOp .Mult) rV:=by
 intro pins s σ H x y v u Q I rx ry h
 obtain⟨l,k,xs,rfl,rfl,hH,h1,h2,hz,q⟩:=h
 cases rx
 obtain⟨t,rfl⟩:=ry
 obtain⟨z,its,n,r,hl,e⟩:=I.ZO hH
 have hlen:its.toArray.size*k.toNat<=sizeLine:=by rw[ua,<-hl];exact hz
 have hcap:¬its.toArray.size*k.toNat>(2^63-1) / 8:=by
  have:(sizeLine:Nat)<=(2^63-1) / 8:=by decide
  lia
 have hfit:¬(!Builtin.List.listFitsIndex k)=true:=by
  rw[fitsIndex_both h1 h2]
  exact vO
 have hlong:¬wH (its.toArray.size*k.toNat)=true:=by
  rw[PB hlen]
  exact vO
 have hnew:ABf (λx1 x2=>x1++x2) #[] (uu (if its.toArray.isEmpty=true then 0 else k.toNat) its.toArray)=(uu k.toNat its).flatten.toArray:=by
  have f0:∀m:Nat,ABf (λx1 x2=>x1++x2) #[] (uu m its.toArray)=(uu m its).flatten.toArray:=λm=>by
   have:=foldl_rep its m []
   rw[ur]at this
   exact this
  rw[f0]
  cases its with
  |nil=>simp
  |cons a r'=>rw[vL (by simp)]
 refine yW (T:="list") (U:="int") (by decide) ⟨_,e,rfl⟩ (λs'=>y8 s' k t) noFill_list_mul AA2 yG repeat_list AAe.lookup
  (y9 yG (y8 s k t) AAf (AAG _ _) (int___rmul___int_list k t l its.toArray n)
    ⟨e,rfl,⟨_,e,rfl⟩,y9 F.slot_list_mul ⟨_,e,rfl⟩ F.entry_list_mul (F.args_list_mul_2 _ _) (AutoListH.list___mul___list_int_3 l its.toArray n k t hfit hcap hlong) ⟨e,?_⟩⟩)
 rw[hnew]
 exact⟨.ref _,_,I.qD (t':=s.toks) (r.rep k.toNat) (by rw[len_rep,wk];exact hz),rfl,q _ I.fresh⟩
end
section
variable{prog:vg}{w:v9}{A:xV}{E:uT->uf->Prop}{s:uf}
end
section
variable{X:Cx}
end
end L2
namespace Att
open PySem PySem.W PySem.Calls PyProof.Rows
def ints_of_wellAll:∀ns (vs:Wp uT),WellAll P h vs (ns.map WData.int)->wR vs ns:=by
 intro ns
 induction ns with
 |nil=>
  intro vs w
  rw[vM]at w
  cases w
  exact .nil
 |cons n ns ih=>
  intro vs w
  rw[uV]at w
  cases w with
  |cons a b=>
   cases a
   exact .cons _ _ (ih _ b)
def script_of{l:zG}(hn:l.most=Gc n)(hpre:l.row.toRowW.claim.pre args=true)(hwl:WellAll P h vals args):∃a vs ns,vals=[vT a]/\args=[WData.list (ns.map WData.int)]/\h.get? a=Gc {cls:=.type "list",data:=.seq vs.toArray}/\wR vs ns/\ns.length<=n:=by
 have hsh:WShape.hasAll [] args [.list .int]=true:=(pre_splitW hpre).1
 have hc:l.pre.holds [] {args:=args}=true:=(pre_splitW hpre).2
 obtain⟨d,r,rfl,h1,h2⟩:=hasAllW_cons hsh
 obtain rfl:=hasAllW_nil h2
 obtain⟨xs,rfl,h3⟩:=hasW_list h1
 obtain⟨ns,rfl⟩:=items_int h3
 have hlen:ns.length<=n:=by
  unfold OpenLaw.pre at hc
  have h4:(WTm.not (.lt (.lit (.int (n:Int))) (.len (.arg 0)))).holds [] {args:=[.list (ns.map .int)]}=true:=by
   have h4:=(holds_andW hc).1
   rw[hn]at h4
   exact h4
  have h5:=condW_of h4 (w_not (w_lt w_lit (w_len_list (w_arg rfl))))
  rw[ux]at h5
  refine Nat.le_of_not_lt λq=>?_
  have q':(n:Int)<((ns.length:Nat):Int):=by lia
  first
   |(rw[xM q']at h5;exact absurd h5 (by decide))
   |(simp at h5;lia)
 cases hwl with
 |cons w1 w2=>
  cases w2
  cases w1 with
  |list ho hall=>exact⟨_,_,ns,rfl,rfl,ho,ints_of_wellAll ns _ hall,hlen⟩
def post_true(l:zG)(args:Wp WData):l.row.toRowW.claim.post args (.bool true) args=true:=
 postW_of (r:=l.row.toRowW) (X:=(true==true))
  (show WShape.has [] (.bool true) .bool=true by first|rfl|decide|simp[WShape.has,WShape.arms,WShape.armsAll])
  (show(WTm.eq .res (.lit (.bool true))).value [] {args:=args,res:=Gc (.bool true),after:=args}=Gc (.bool (true==true))from w_eq_bool (w_res rfl) w_lit) rfl
def attach_call{l:zG}(hn:l.most=Gc n)(hdf:d.params.defaults=[])(call:∀w s₀ s₁ mg mb fa o pm cd doc a vs ns,Ground q loose [] XP w s₀ mg mb s₁.heap->YP w s₁.heap->s₁.heap.get? fa=Gc o->o.data=.func (docDef d.name d.params d.body d.scope pm cd doc)->s₁.heap.CodeRec cd d.name->mg d.name=Gc (.ref fa)->s₁.heap.get? a=Gc {cls:=.type "list",data:=.seq vs.toArray}->wR vs ns->ns.length<=n->s₁.gens= #[]->codeAny (model l.prog w) callerA (.call (.ref fa) ⟨[.ref a],[]⟩) (λr s'=>r=.ok (.ret (.bool true))/\OldK s₁.heap s'.heap/\s'.os=s₁.os/\yh s'.gens) s₁):WalkO q loose XP YP l.row.toRowW d [] (λf vs=>PySem.call f vs):=by
 intro w s₀ s₁ mg mb G Y fa o pm cd doc dV kV ho hd hcd hD hmg hg args vals as hpre hlay hrd hwl hlo
 obtain rfl:dV=.none:=Dflts.none hD hdf
 obtain rfl:kV=.none:=Dflts.noKw hD
 obtain⟨a,vs,ns,rfl,rfl,hobj,hints,hlen⟩:=script_of hn hpre hwl
 refine enter_call (yq (call w s₀ s₁ mg mb fa o pm cd doc a vs ns G Y ho (fd_plain hd) hcd hmg hobj hints hlen hg) λr s' hq=>?_)
 obtain⟨rfl,h2,h3,h4⟩:=hq
 exact⟨.inl ⟨.bool true,.bool true,[],rfl,λ_=>rfl,.bool true,post_true l _,λ_=>⟨List.Pairwise.nil,λ_ hm=>(nomatch hm)⟩⟩,h2,h3,h4⟩
section
variable{prog:vg}{w:v9}{A:xV}{E:uT->uf->Prop}{s:uf}{K:uF}
end
end Att
namespace L2
open PySem PySem.Spec PyProof.Rows
theorem QE:∀{vs:Wp uT} {ns:Wp Int},wR vs ns->Vals (ns.map V.int) vs
 |_,_,.nil=>.nil
 |_,_,.cons n t h=>.cons ⟨t,rfl⟩ (QE h)
def ng(H:Hp):Prop:=∀b,H b=none\/∃o xs,H b=Gc (.frz o (.lst xs))
def Xe{P:vg}{w:v9}{K:uF}{mg mb:Str->uM uT}{CX:CXT}{k:Nat}{fa a:ue}{fd:yp}{x:Str}{sp:Sp}{s₁:uf}{vs:Wp uT}{ns:Wp Int}(KX:K.In s₁.heap)(hns:s₁.heap.Ns mainGlobals mg)(hb:s₁.heap.Ns builtinsNs mb)(hbb:∀x:Str,x≠ "__name__"->mb x=bootBuiltins x)(hlim:s₁.heap.NoLimit)(hg:s₁.gens= #[])(ha:s₁.heap.get? a=Gc {cls:=.type "list",data:=.seq vs.toArray})(hi:wR vs ns)(hl:ns.length<=sizeLine)(hr:Kn k callerA)(F:∀base:vo,K.In base->base.Ns mainGlobals mg->Mq P w K mg base CX k fa fd [x] sp)(hbind:∀(s:uf) (u:uT),BindsTo s fd ⟨[u],[]⟩ [(x,u)])(hsp:∀H:Hp,ng H->SqL K H a (ns.map V.int)->sp [.ref a] H (λv _=>v=.bl true) λ_ _ _=>wq)(hCX:∀H e s',CX [] H s₁ (λ_ _ _=>wq) e s'->wq):codeAny (model P w) callerA (.call (.ref fa) ⟨[.ref a],[]⟩) (λr s'=>r=.ok (.ret (.bool true))/\OldK s₁.heap s'.heap/\s'.os=s₁.os/\yh s'.gens) s₁:=by
 have rv:=QE hi
 have lenV:=hi.length
 have core:∀H:Hp,ng H->SqL K H a (ns.map V.int)->HOk P w H s₁.heap->(∀b,H b≠none->b=a)->(H a≠none->K.lookup a=none)->
   codeAny (model P w) callerA (.call (.ref fa) ⟨[.ref a],[]⟩) (λr s'=>r=.ok (.ret (.bool true))/\OldK s₁.heap s'.heap/\s'.os=s₁.os/\yh s'.gens) s₁:=by
  intro H hO hS hok hA hK
  have base_of:∀{b:ue} {o:Obj},s₁.heap.get? b=Gc o->H b=none->(Yw s₁.heap H).get? b=Gc o:=λe n=>YS e n
  have noA:∀{b:ue} {o:Obj} {es:zE yT} {ep:Nat},s₁.heap.get? b=Gc o->o.data=.dict es ep->H b=none:=λ{b o es ep} e d=>by
   cases q:H b with
   |none=>rfl
   |some u=>
    have e':b=a:=hA b (by rw[q];simp)
    subst e'
    rw[ha]at e;cases e
    have d':Data.seq vs.toArray _=Data.dict es ep:=d
    cases d'
  have nsK:∀{b:ue} {m:Str->uM uT},s₁.heap.Ns b m->(Yw s₁.heap H).Ns b m:=λ{b m} ⟨o,es,ep,e,d,r⟩=>⟨o,es,ep,base_of e (noA e d),d,r⟩
  have hKb:K.In (Yw s₁.heap H):=λb o e=>base_of (KX b o e) (by
   cases q:H b with
   |none=>rfl
   |some u=>
    have e':b=a:=hA b (by rw[q];simp)
    subst e'
    rw[hK (by rw[q];simp)]at e;cases e)
  have hM:Mod K mg (Yw s₁.heap H):=⟨hKb,nsK hns,⟨mb,nsK hb,hbb⟩,let⟨mc,h1,h2⟩:=hlim;⟨mc,nsK h1,h2⟩⟩
  have e0:kS P w K mg (Yw s₁.heap H) callerA [] s₁ H:=⟨rfl,hM,λb o e=>cZ e,Nat.le_of_eq (Vs _ _),trivial,λb hb=>absurd (show b∈([]:Wp ue)from hb) (by simp),hok,.of_eq hg⟩
  refine yq ((F _ hKb (nsK hns)).run callerA [] s₁ H ⟨[.ref a],[]⟩ [.ref a] [.ref a] _ _ hr e0 (hbind s₁ (.ref a)) (.cons rfl .nil) (hsp H hO hS)) λr s' h=>?_
  cases r with
  |error e=>exact(hCX H e s' h).elim
  |ok fl=>
   cases fl with
   |next=>exact xA h
   |brk=>exact xA h
   |cont=>exact xA h
   |ret u=>
    obtain⟨v,H',os,bare,un,hok',r',q⟩:=h
    have q':v=.bl true:=q
    subst q'
    obtain rfl:u=AAi true:=r'
    refine⟨rfl,OldK.of_keep λb o e=>?_,os,bare⟩
    cases q:H b with
    |none=>exact un.keep b o e q (by intro z;exact absurd (show b∈([]:Wp ue)from z) (by simp)) (by simp)
    |some u=>
     rcases hO b with z|⟨ob,xs,z⟩
     .rw[q]at z;cases z
     .have z2:=un.XY b ob _ z
      obtain⟨e1,_⟩:=hok b _ z
      obtain⟨e2,_⟩:=hok' b _ z2
      rw[e]at e1;cases e1
      exact e2
 cases hk:K.lookup a with
 |some o=>
  have e:=KX a o hk
  rw[ha]at e
  cases e
  refine core (λ_=>none) (λ_=>.inl rfl) (.inr ⟨_,vs.toArray,_,hk,rfl,rfl,rfl,by rw[ua,lenV];exact hl,by simpa using rv⟩) (λb u z=>by have z':(none:uM HO)=Gc u:=z;cases z') (λb z=>absurd rfl z) λz=>absurd rfl z
 |none=>
  refine core (λb=>if b=a then Gc (.frz {cls:=.type "list",data:=.seq vs.toArray} (.lst (ns.map V.int)))else none) (λb=>?_) (.inl (.inr ⟨{cls:=.type "list",data:=.seq vs.toArray},vF rfl⟩)) (λb u z=>?_) (λb z=>?_) λ_=>hk
  .by_cases hb:b=a
   .exact .inr ⟨_,_,vF hb⟩
   .exact .inl (vL hb)
  .by_cases hb:b=a
   .have z':=(vF hb).symm.trans z
    cases z'
    subst hb
    exact⟨ha,by rw[ux];exact hl,vs,_,rv,ha⟩
   .have z':=(vL hb).symm.trans z
    cases z'
  .by_cases hb:b=a
   .exact hb
   .exact absurd (vL hb) z
end L2
namespace L2
open PySem PySem.Spec PyProof.Rows
abbrev KOf{K:uF}{h:vo}(_:K.In h):uF:=K
def dO{l:zG}{n k:Nat}{q:vg}{loose:Wp Str}{XP:(Str->uM uT)->vo->Prop}{YP:v9->vo->Prop}{d:DefRec}{K:Params->uF}{CX:v9->CXT}{sp:v9->Sp}{x:Str}(hn:l.most=Gc n)(hn2:n<=sizeLine)(hdf:d.params.defaults=[])(hr:Kn k callerA)(hY:∀(w:v9) (h:vo),YP w h->(K w.params).In h)(F:∀(w:v9) (mg:Str->uM uT) (fa:ue) (h:vo),(K w.params).In h->h.Ns mainGlobals mg->mg d.name=Gc (.ref fa)->∃fd:yp,(∀(s:uf) (u:uT),BindsTo s fd ⟨[u],[]⟩ [(x,u)])/\∀base:vo,(K w.params).In base->base.Ns mainGlobals mg->Mq l.prog w (K w.params) mg base (CX w) k fa fd [x] (sp w))(hsp:∀(w:v9) (H:Hp) (a:ue) (ns:Wp Int),ns.length<=n->ng H->SqL (K w.params) H a (ns.map V.int)->sp w [.ref a] H (λv _=>v=.bl true) λ_ _ _=>wq)(hCX:∀(w:v9) (H:Hp) (s:uf) (e:uT) (s':uf),CX w [] H s (λ_ _ _=>wq) e s'->wq):PySem.W.WalkO q loose XP YP l.row.toRowW d [] (λf vs=>PySem.call f vs):=by
 refine Att.attach_call hn hdf λw s₀ s₁ mg mb fa o pm cd doc a vs ns G Y ho hd hcd hmg hobj hints hlen hg=>?_
 have KX:=hY w _ Y
 obtain⟨fd,hb,hF⟩:=F w mg fa _ KX G.T.g hmg
 exact Xe KX G.T.g G.T.b G.T.builtins G.T.nolimit hg hobj hints (uH hlen hn2) hr hF hb (λH hO hS=>hsp w H a ns hlen hO hS) λH e s'=>hCX w H s₁ e s'
end L2
namespace L2
open PySem PySem.Spec PyProof.Rows
noncomputable def K0(s:vE):Arguments:=match s with
 | .FunctionDef _ a _ _ _ _ _ _ _ _=>a
 |_=>{posonlyargs:=[],args:=[],vararg:=none,kwonlyargs:=[],kw_defaults:=[],kwarg:=none,defaults:=[]}
noncomputable def Dy(s:vE):Wp vE:=match s with
 | .FunctionDef _ _ b _ _ _ _ _ _ _=>b
 |_=>[]
noncomputable def AF(s:vE):yE:=match s with
 | .FunctionDef _ _ _ _ _ _ sc _ _ _=>sc
 |_=>{kind:=.function,names:=[],isGenerator:=false,isCoroutine:=false}
abbrev CX0:CXT:=λ_ _ _ _ _ _=>wq
abbrev E0:XK:=λ_ _ _=>wq
def ig{X:Cx}:Passes CX0 X E0:=λ_ _ _ _ _ _ _ h=>h.elim
structure Fun(K:uF)(x qual:Str)(st:vE)(f:ue)(fd:yp):Prop where
 ex:∃(oc:uT) (od:uM ue) (kV doc pm:uT) (an:uM ue) (cdv ct:uT) (osl:zE (uM uT)),
  fd=x9 x qual (K0 st) (Dy st) (AF st) .none kV doc pm an cdv ct/\K.lookup f=Gc ⟨oc,od,.func fd,osl⟩/\zo K cdv qual=true
 kp:wG K (.ref f)=true
section
variable{P:vg}{w:v9}{K:uF}{mg:Str->uM uT}{base:vo}
def Fun.ok{st:vE}(F:Fun K x qual st f fd)(S:CU N ps (AF st))(len:∀vs H Q E,sp vs H Q E->vs.length=ps.length)(hbody:∀cdv A outer s H vs Q E,Kn k (A.deeper (envOfC qual (AF st) s.heap.objs.size f cdv))->sp vs H Q E->∃t,PSs (RY CX0 P w K mg base N qual (AF st) f cdv A outer s H E).nox (Dy st) t/\t {nx:=λ_ H'=>Q .non H',rt:=Q} (start N vs) H):Mq P w K mg base CX0 (k+1) f fd ps sp:=by
 obtain⟨oc,od,kV,doc,pm,an,cdv,ct,osl,rfl,lk,hcd⟩:=F.ex
 refine iw lk hcd S len λA outer s H vs Q E hr hsp=>?_
 obtain⟨t,h,q⟩:=hbody cdv A outer s H vs Q E hr hsp
 exact⟨t,h.nox,q⟩
def Fun.binds{st:vE}(F:Fun K x qual st f fd)(h:∀kV doc pm an cdv ct us,us.length=ps.length->bindArgs (x9 x qual (K0 st) (Dy st) (AF st) .none kV doc pm an cdv ct) ⟨us,[]⟩=pure (ps.zip us)):Binds K fd ps []:=by
 obtain⟨oc,od,kV,doc,pm,an,cdv,ct,osl,rfl,lk,hcd⟩:=F.ex
 exact .all (h kV doc pm an cdv ct)
def iX{st:vE}{kV doc pm cdv ct:uT}(l:K.lookup f=Gc ⟨oc,od,.func (x9 x qual (K0 st) (Dy st) (AF st) .none kV doc pm an cdv ct),osl⟩)(c:zo K cdv qual=true)(k:wG K (.ref f)=true):Fun K x qual st f (x9 x qual (K0 st) (Dy st) (AF st) .none kV doc pm an cdv ct):=⟨⟨oc,od,kV,doc,pm,an,cdv,ct,osl,rfl,l,c⟩,k⟩
end
section
variable{X:Cx}
end
def Xi{A B:Prop}(h:B):if false=true then A else B:=by
 rw[vL vO]
 exact h
def Ye{A B:Prop}(h:A):if true=true then A else B:=by
 rw[vF rfl]
 exact h
def Bh(H H':Hp):Prop:=∀b o,H b=Gc o->H' b=Gc o
end L2
end
noncomputable section
namespace L2
open PySem PySem.Spec PyProof.Rows
noncomputable def HH(cells:Wp (Str×ue)):Wp (Str×AAa)->Wp (Str×ue)->Wp (Str×ue)
 | [],cs=>cs
 |(n,k)::r,cs=>if(k==vh)=true then HH cells r ((n,(cells.lookup n).getD 0)::cs)else HH cells r cs
def Qu:∀names cs,(∀y∈names,y.2=.free->∃a,env.cells.lookup y.1=Gc a)->(forIn names cs λx r=>match x with|(name,kind)=>if(kind==vh)=true then(do let a<-cellOf env name;pure (zL ((name,a)::r)))else pure (zL r):Sem (Wp (Str×ue)))=pure (HH env.cells names cs)
 | [],cs,_=>by simp[HH]
 |(n,k)::r,cs,h=>by
  rw[AA3]
  have ih:=λcs=>Qu r cs λy hy=>h y (uL _ hy)
  by_cases hk:(k==vh)=true
  .obtain⟨a,ha⟩:=h (n,k) uO (by simpa using hk)
   have ha':env.cells.lookup n=Gc a:=ha
   have e:cellOf env n=pure a:=by unfold cellOf;rw[ha']
   simp only[hk,zT,e,pure_bind,HH,ha',Option.getD_some]
   exact ih _
  .simp only[hk,AAd,pure_bind,HH]
   exact ih _
def Tu(h:∀y∈scope.names,y.2=.free->∃a,env.cells.lookup y.1=Gc a):closureFor scope env=pure (HH env.cells scope.names []):=by
 unfold closureFor
 have:=Qu (env:=env) scope.names [] h
 simp only[bind_pure]at this⊢
 exact this
theorem Mx:∀{names} {cs},(∀y∈names,y.2=.free->∃a,cells.lookup y.1=Gc a)->(HH cells names cs).lookup x=Gc c->cs.lookup x=Gc c\/cells.lookup x=Gc c
 | [],cs,_,h=>.inl h
 |(n,k)::r,cs,hh,h=>by
  have hr:∀y∈r,y.2=.free->∃a,cells.lookup y.1=Gc a:=λy hy=>hh y (uL _ hy)
  unfold HH at h
  by_cases hk:(k==vh)=true
  .rw[vF hk]at h
   rcases Mx hr h with q|q
   .obtain⟨a,ha⟩:=hh (n,k) uO (by simpa using hk)
    have ha':cells.lookup n=Gc a:=ha
    rw[vf]at q
    cases hx:x==n with
    |true=>
     rw[hx,ha']at q
     have e:x=n:=by simpa using hx
     subst e
     cases q
     exact .inr ha'
    |false=>
     rw[hx]at q
     exact .inl q
   .exact .inr q
  .rw[vL hk]at h
   exact Mx hr h
theorem Kt:∀{names} {cs},((x,vh)∈names\/∃c,cs.lookup x=Gc c)->∃c,(HH cells names cs).lookup x=Gc c
 | [],cs,h=>h.elim (λz=>nomatch z) id
 |(n,k)::r,cs,h=>by
  unfold HH
  by_cases hk:(k==vh)=true
  .rw[vF hk]
   refine Kt ?_
   by_cases hx:x=n
   .subst hx
    exact .inr ⟨_,by rw[vf,AAg]⟩
   .rcases h with h|⟨c,h⟩
    .rcases uS.mp h with e|e
     .cases e;exact absurd rfl hx
     .exact .inl e
    .refine .inr ⟨c,?_⟩
     rw[vf,show(x==n)=false by simpa using hx]
     exact h
  .rw[vL hk]
   refine Kt ?_
   rcases h with h|h
   .rcases uS.mp h with e|e
    .cases e;exact absurd rfl hk
    .exact .inl e
   .exact .inr h
theorem Li{env:Env}:∀{names:Wp (Str×AAa)},names.lookup x=Gc .free->(names.map λ(n,k)=>if(k==vh && env.scope.kind== .function && env.kindOf n==Gc .cell)then(n,yH)else(n,k)).lookup x=Gc .cell\/(names.map λ(n,k)=>if(k==vh && env.scope.kind== .function && env.kindOf n==Gc .cell)then(n,yH)else(n,k)).lookup x=Gc .free
 | [],h=>by simp at h
 |(n,k)::r,h=>by
  have ih:= @Li x env r
  show yk x ((if(k==vh && env.scope.kind== .function && env.kindOf n==Gc .cell)=true then(n,yH)else(n,k))::_)=_\/yk x ((if(k==vh && env.scope.kind== .function && env.kindOf n==Gc .cell)=true then(n,yH)else(n,k))::_)=_
  cases hx:x==n with
  |true=>
   simp only[vf,hx]at h
   cases h
   by_cases hc:(vh==vh && env.scope.kind== .function && env.kindOf n==Gc .cell)=true
   .rw[vF hc];simp only[vf,hx];exact .inl trivial
   .rw[vL hc];simp only[vf,hx];exact .inr trivial
  |false=>
   simp only[vf,hx]at h
   by_cases hc:(k==vh && env.scope.kind== .function && env.kindOf n==Gc .cell)=true
   .rw[vF hc];simp only[vf,hx];exact ih h
   .rw[vL hc];simp only[vf,hx];exact ih h
def Ng(hk:k'=.cell\/k'=.free)(h:(relabel scope env).names.lookup x=Gc k'):(x,vh)∈scope.names\/(x,yH)∈scope.names:=by
 have hm:=vc h
 obtain⟨⟨n,k⟩,hy,e⟩:=uo.mp (show(x,k')∈scope.names.map _ from hm)
 by_cases hc:(k==vh && env.scope.kind== .function && env.kindOf n==Gc .cell)=true
 .simp only[hc,zT]at e
  cases e
  have:k=.free:=by
   have:=((uW _ _).mp hc).1
   exact xN.mp ((uW _ _).mp this).1
  subst this
  exact .inl hy
 .simp only[hc,AAd]at e
  cases e
  rcases hk with rfl|rfl
  .exact .inr hy
  .exact .inl hy
theorem Bt:∀names n cs,cellsFrom n names cs=cellsFrom n names []++cs
 | [],_,_=>rfl
 |(x,k)::r,n,cs=>by
  unfold cellsFrom
  split
  .rw[Bt r _ ((x,n)::cs),Bt r _ [(x,n)]];simp
  .exact Bt r n cs
theorem HF:∀{names} {n},(x,c)∈cellsFrom n names []->(x,yH)∈names
 | [],_,h=>nomatch h
 |(y,k)::r,n,h=>by
  unfold cellsFrom at h
  split at h
  .rename_i hk
   rw[Bt]at h
   rcases vH.mp h with z|z
   .exact uL _ (HF z)
   .have e:=uv.mp z
    cases e
    rw[xN.mp hk]
    exact uO
  .exact uL _ (HF h)
def Le(hQ:∀h',h'.Ns s.heap.objs.size (λ_=>none)->(∀b o,s.heap.get? b=Gc o->h'.get? b=Gc o)->CellsOk h' (s.heap.objs.size+1) (cellsFrom (s.heap.objs.size+1) scope.names [])->Q (newEnv scope s.heap.objs.size globals (cellsFrom (s.heap.objs.size+1) scope.names cl) qual none .none (Gc env) builtinsNs) {s with heap:=h'}):wpAny M A (newFunctionEnv scope globals cl [] qual none .none (Gc env)) Q E s:=by
 simp only[newFunctionEnv,Option.isSome_some,zT]
 refine uJ (wpAny_alloc ?_)
 refine uJ (wpAny_layCells _ (λname kind cells=>by cases hkc:kind==yH<;>simp[hkc]) _ _ _ _ ?_)
 have ok:=cellsFrom_ok scope.names (s.heap.push {cls:=.type "dict",data:=.dict #[]}) (s.heap.objs.size+1) [] ⟨λ_ _ hm=>(nomatch hm),List.Pairwise.nil⟩ (by rw[vq];exact uP _)
 rw[vq]at ok
 rw[show({s with heap:=s.heap.push {cls:=.type "dict",data:=.dict #[]}}:uf).heap.objs.size=s.heap.objs.size+1 from vq ..]
 rw[ABF]
 refine uJ (uq (uq ?_))
 exact hQ _ ((Heap.Ns.new s.heap (.type "dict")).keeps (pushCells_keeps _ _)) (λb o e=>pushCells_keeps _ _ b o (uG _ e)) ok
end L2
end
noncomputable section
namespace L2
open PySem PySem.Spec PyProof.Rows
noncomputable def SF(N:Wp Str)(osc scope:yE):Wp Str->Wp (uM Nat)->va
 | [],[]=>true
 |_::r,none::q=>SF N osc scope r q
 |x::r,Gc i::q=>decide (N[i]?=Gc x) && (decide (osc.names.lookup x=Gc .cell)||decide (osc.names.lookup x=Gc .free)) && decide (scope.names.lookup x=Gc .free) && SF N osc scope r q
 |_,_=>false
theorem V6:∀{N'} {ix},SF N osc scope N' ix=true->ix.length=N'.length
 | [],[],_=>rfl
 |_::r,none::q,h=>by
  unfold SF at h
  simp[V6 h]
 |x::r,Gc i::q,h=>by
  unfold SF at h
  have:=((uW _ _).mp h).2
  simp[V6 this]
 | [],_::_,h=>by simp[SF]at h
 |_::_,[],h=>by simp[SF]at h
theorem bN:∀{N'} {ix},SF N osc scope N' ix=true->∀{j i:Nat} {x},N'[j]?=Gc x->ix[j]?=Gc (Gc i)->N[i]?=Gc x/\(osc.names.lookup x=Gc .cell\/osc.names.lookup x=Gc .free)/\scope.names.lookup x=Gc .free
 | [],[],_,j,_,_,h,_=>by simp at h
 |_::r,none::q,h,j,i,x,h1,h2=>by
  unfold SF at h
  cases j with
  |zero=>simp at h2
  |succ j=>exact bN h (by simpa using h1) (by simpa using h2)
 |y::r,Gc k::q,h,j,i,x,h1,h2=>by
  unfold SF at h
  obtain⟨ha,hr⟩:=(uW _ _).mp h
  obtain⟨ha,h3⟩:=(uW _ _).mp ha
  obtain⟨h4,h5⟩:=(uW _ _).mp ha
  cases j with
  |zero=>
   simp at h1 h2
   subst h1 h2
   refine⟨uc h4,?_,uc h3⟩
   rcases(vt _ _).mp h5 with z|z
   .exact .inl (uc z)
   .exact .inr (uc z)
  |succ j=>exact bN hr (by simpa using h1) (by simpa using h2)
 | [],_::_,h,_,_,_,_,_=>by simp[SF]at h
 |_::_,[],h,_,_,_,_,_=>by simp[SF]at h
structure AJ(N:Wp Str)(osc:yE)(N':Wp Str)(ix:Wp (uM Nat))(scope:yE):Prop where
 kind:scope.kind=.function
 cells:∀y∈scope.names,y.2=.cell->scope.names.lookup y.1=Gc .cell
 names:∀y∈scope.names,y.2=.local->scope.names.lookup y.1=Gc .local
 free:∀y∈scope.names,y.2=.free->(osc.names.lookup y.1=Gc .cell\/osc.names.lookup y.1=Gc .free)
 ok:SF N osc scope N' ix=true
noncomputable def sig(ix:Wp (uM Nat))(σ:St):St:=ix.map λo=>o.bind λi=>(σ[i]?).join
noncomputable def Hz(X:Cx)(N':Wp Str)(scope:yE)(s:uf)(H:Hp)(fp:Wp ue):Cx where
 prog:=X.prog
 w:=X.w
 K:=X.K
 mg:=X.mg
 base:=X.base
 A:=X.A
 N:=N'
 s₀:=s
 H₀:=H
 env:=compEnvC scope (cellsFrom (s.heap.objs.size+1) scope.names (HH X.env.cells scope.names [])) s.heap.objs.size X.env
 outer:=X.stack
 stack:=X.stack
 ex:=fp
 fn:=λx=>decide (scope.names.lookup x=Gc .cell)
 calm:=true
 pn:=[]
 xe:=λ_ _=>wq
section
variable{X:Cx}{σ:St}{H:Hp}{s:uf}{N':Wp Str}{scope:yE}{fp:Wp ue}
def Inv.cellsOf(I:Inv X pins σ H s)(S:AJ X.N X.env.scope N' ix scope):∀y∈scope.names,y.2=.free->∃a,X.env.cells.lookup y.1=Gc a:=λy hy hk=>I.ok.has y.1 (S.free y hy hk)
def Yo(S:AJ X.N X.env.scope N' ix scope)(hc:X.calm=true)(I:Inv X pins σ H s)(hf:∀b∈fp,Ra X pins H b)(hlt:∀b∈fp,b<s.heap.objs.size)(hn:h1.Ns s.heap.objs.size m1)(hk:∀b o,s.heap.get? b=Gc o->h1.get? b=Gc o)(hC:CellsOk h1 (s.heap.objs.size+1) (cellsFrom (s.heap.objs.size+1) scope.names [])):Inv (Hz X N' scope s H fp) [] (sig ix σ) H {s with heap:=h1,toks:=tk}:=by
 have hcl:=I.cellsOf S
 have sub:∀{x:Str} {c:ue},(HH X.env.cells scope.names []).lookup x=Gc c->X.env.cells.lookup x=Gc c:=λ{x c} h=>by
  rcases Mx hcl h with z|z
  .simp at z
  .exact z
 have old:∀{x:Str} {c:ue},X.env.cells.lookup x=Gc c->c<s.heap.objs.size:=λ{x c} h=>by
  obtain⟨v,oc,ho,_⟩:=I.cell x c h
  exact uk ho
 have look:∀{x:Str} {c:ue},(cellsFrom (s.heap.objs.size+1) scope.names (HH X.env.cells scope.names [])).lookup x=Gc c->(x,c)∈cellsFrom (s.heap.objs.size+1) scope.names []\/X.env.cells.lookup x=Gc c:=λ{x c} h=>by
  rw[Bt,yg]at h
  cases e:(cellsFrom (s.heap.objs.size+1) scope.names []).lookup x with
  |some a=>rw[e]at h;cases h;exact .inl (vc e)
  |none=>rw[e]at h;exact .inr (sub h)
 refine⟨⟨I.ok.mod,S.kind,I.ok.glob,I.ok.blt,uP _,λx y c h1 h2=>?_,λx hx=>?_,λx c hx h=>?_,λ_=>I.ok.hd hc,I.ok.frames,.inl rfl,λb hb=>?_,I.bs,uH I.ok.bsz I.sz,λb o e hb=>?_,λb hb hs=>?_,I.stack,I.Rh⟩,
  rfl,I.bare,Un.kept hk,⟨m1,hn,λj x v h1 h2 h3=>?_⟩,λx c h=>?_,I.hok.fresh (uP _),λx c h=>?_,λp hp=>absurd (show p∈([]:Wp (ue×Obj))from hp) (by simp),I.hok.kept hk,?_⟩
 . -- inj
   rcases look h1 with a|a<;>rcases look h2 with b|b
   .exact name_of_addr hC.apart a b
   .exact absurd (uI (old b) (yM (hC.empty _ _ a).2)) (wO _)
   .exact absurd (uI (old a) (yM (hC.empty _ _ b).2)) (wO _)
   .exact I.ok.inj x y c a b
 . -- has
   have hx':(relabel scope X.env).names.lookup x=Gc .cell\/(relabel scope X.env).names.lookup x=Gc .free:=hx
   show∃c,(cellsFrom (s.heap.objs.size+1) scope.names (HH X.env.cells scope.names [])).lookup x=Gc c
   rw[Bt,yg]
   cases e:(cellsFrom (s.heap.objs.size+1) scope.names []).lookup x with
   |some a=>exact⟨a,rfl⟩
   |none=>
    rcases(hx'.elim (Ng (.inl rfl)) (Ng (.inr rfl)))with z|z
    .exact Kt (.inl z)
    .obtain⟨c,hc⟩:=MJ (n:=s.heap.objs.size+1) (S.cells _ z rfl)
     rw[e]at hc;cases hc
 . -- cab
   obtain⟨c',hc'⟩:=MJ (n:=s.heap.objs.size+1) (uc hx)
   have h:(cellsFrom (s.heap.objs.size+1) scope.names (HH X.env.cells scope.names [])).lookup x=Gc c:=h
   rw[Bt,yg,hc']at h
   cases h
   exact yM (hC.empty _ _ (vc hc')).2
 . -- exf
   refine⟨vG (hlt b hb),λx c h=>?_⟩
   rcases look h with a|a
   .exact λe=>absurd (uI (e▸hlt b hb) (yM (hC.empty _ _ a).2)) (wO _)
   .exact(hf b hb).2.2.2.2.1 x c a
 . -- aM
   rcases(hf b hb).2.2.2.1 with z|z
   .exact I.ok.aM b o e z
   .exact absurd (uI (uk (I.ok.bs b o e).1) z) (wO _)
 . -- dv
   rcases uS.mp (I.VO b hs)with z|z
   .exact(hf b hb).2.1 z
   .exact(hf b hb).2.2.1 z
 . -- loc
   unfold sig at h2
   rw[uR]at h2
   cases e:ix[j]? with
   |none=>rw[e]at h2;cases h2
   |some o=>
    rw[e]at h2
    cases o with
    |none=>cases h2
    |some i=>
     have h2':(σ[i]?).join=Gc v:=by simpa using h2
     have h4:σ[i]?=Gc (Gc v):=by
      cases e4:σ[i]? with
      |none=>rw[e4]at h2';cases h2'
      |some q=>rw[e4]at h2';exact congrArg Gc h2'
     obtain⟨q1,q2,q3⟩:=bN S.ok h1 e
     obtain⟨m,_,hl⟩:=I.loc
     obtain⟨u,r,l⟩:=hl i x v q1 h4 (q2.elim (λz=>.inr (.inl z)) λz=>.inr (.inr z))
     refine⟨u,r,?_⟩
     rcases l with⟨l,_⟩|⟨_,c,lc,z⟩
     .have l':X.env.scope.names.lookup x=Gc .local:=l
      rcases q2 with z|z<;>(rw[z]at l';cases l')
     .refine .inr ⟨Li q3,?_⟩
      obtain⟨c',hc'⟩:=Kt (cells:=X.env.cells) (cs:=[]) (.inl (vc q3))
      have ec:=sub hc'
      rw[lc]at ec
      cases ec
      have no:(cellsFrom (s.heap.objs.size+1) scope.names []).lookup x=none:=by
       cases e:(cellsFrom (s.heap.objs.size+1) scope.names []).lookup x with
       |none=>rfl
       |some a=>
        have q:=S.cells _ (HF (vc e)) rfl
        rw[q3]at q;cases q
      refine⟨c,(by show(cellsFrom (s.heap.objs.size+1) scope.names (HH X.env.cells scope.names [])).lookup x=Gc c;rw[Bt,yg,no];exact hc'),?_⟩
      obtain⟨oc,ho,hd⟩:=z
      exact⟨oc,hk _ _ ho,hd⟩
 .rcases look h with a|a
  .exact⟨_,(hC.empty _ _ a).1⟩
  .obtain⟨v,oc,ho,hd⟩:=I.cell x c a
   exact⟨v,oc,hk _ _ ho,hd⟩
 .rcases look h with a|a
  .exact I.hok.fresh (yM (hC.empty _ _ a).2)
  .exact I.LY x c a
 .show(sig ix σ).length=N'.length
  unfold sig
  rw[ux]
  exact V6 S.ok
end
end L2
end
noncomputable section
namespace L2
open PySem PySem.Spec PyProof.Rows
def PTs(X:Cx)(ifs:Wp vw)(t:TT):Prop:=
 ∀(pins:Wp (ue×Obj)) (s:uf) (σ:St) (H:Hp) (Q:va->Hp->Prop),Inv X pins σ H s->t σ H Q->
  wpAny (model X.prog X.w) X.A (forIn ifs true λc r=>if r=true then do let ok<-isTrue c X.env (eval c X.env);pure (zL ok)else pure (zL r)) (TP X pins σ Q) X.xe s
noncomputable def oU:TT:=λ_ H Q=>Q true H
def dJ:PTs X [] oU:=λ_ _ _ H _ I h=>wpAny_tests_nil ⟨H,I,h⟩
def cy(h:PT X c t):PTs X [c] t:=λpins s σ H Q I q=>wpAny_tests_one (h pins s σ H Q I q)
def X0{t:Sem α}{Q:α->uf->Prop}(h:wpAny M A t Q (λ_ _=>wq) s):wpAny M A t Q E s:=xJ h (λ_ _ q=>q) λ_ _ f=>f.elim
def jX(ix:Wp (uM Nat))(g:TG)(tc:TT)(te:TE)(J:It)(σ:St)(H:Hp)(Q:VK):Prop:=
 ∀D,H D=none->∃W:Nat->Nat->St->Hp->Wp V->Prop,(∃m,W 0 m (sig ix σ) (upd H D (.lst [])) [])/\∀i m σ H ys,W i m σ H ys->H D=Gc (.lst ys)/\
  ((J.stop i H/\Q (.ref D) H)\/(J.go i H/\ys.length<sizeLine/\∀x H',J.yld i H x H'->g x σ H' λσ2 H2=>tc σ2 H2 λb H3=>
    if b=true then te σ2 H3 λy H4=>H4 D=Gc (.lst ys)/\∃m',m'<m/\W (i+1) m' σ2 (upd H4 D (.lst (ys++[y]))) (ys++[y])else∃m',m'<m/\W (i+1) m' σ2 H3 ys))
noncomputable def cn(ix:Wp (uM Nat))(wi:TI)(g:TG)(tc:TT)(te:TE):TE:=λσ H Q=>wi σ H λJ H1=>jX ix g tc te J σ H1 Q
section
variable{X:Cx}{pins:Wp (ue×Obj)}{σ:St}{s₂:uf}{scope:yE}{pos:Pos}{g:TG}{tc:TT}
def Block(X:Cx)(N':Wp Str)(scope:yE)(tg:vw)(ifs:Wp vw)(elt:vw)(g:TG)(tc:TT)(te:TE):Prop:=
 ∀(s:uf) (H:Hp) (fp:Wp ue),PG (Hz X N' scope s H fp) tg g/\PTs (Hz X N' scope s H fp) ifs tc/\PE (Hz X N' scope s H fp) elt te
def VI {X':Cx}{it:ue}{fp:Wp ue}{tn:Nat->vo->Prop}{J:It}{D:ue}{Q:VK}{W:Nat->Nat->St->Hp->Wp V->Prop}(he:X'.env=e)(hx:X'.xe=λ_ _=>wq)(hcm:X'.calm=true)(T:Turn X'.prog X'.w X'.K tg J fp it tn)(hfp:∀H,(∀b ∈ fp,H b=none)->∀b ∈ fp,Ra X' [] H b)(hg:PG X' tg g)(ht:PTs X' ifs tc)(hb:PE X' elt te)(turn:∀i m σ H ys,W i m σ H ys->H D=Gc (.lst ys)/\((J.stop i H/\Q (.ref D) H) ∨ (J.go i H/\ys.length<sizeLine/\∀x H',J.yld i H x H'->g x σ H' λσ2 H2=>tc σ2 H2 λb H3 =>
        if b = true then te σ2 H3 fun y H4 => H4 D = Gc (.lst ys) /\ ∃ m', m' < m /\ W (i + 1) m' σ2 (upd H4 D (.lst (ys ++ [y]))) (ys ++ [y]) else ∃ m', m' < m /\ W (i + 1) m' σ2 H3 ys)))
    (hR:∀s' σ' H',Inv X' [] σ' H' s'->Q (.ref D) H'->R (.ok .next) s')
    (h0:∃i σ' H' ys,Inv X' [] σ' H' s/\tn i s.heap/\(∀b ∈ fp,H' b=none)/\W i n σ' H' ys) :
    codeAny (model X'.prog X'.w) X'.A (.compLoop (.ListComp elt [⟨tg,iter,ifs,0⟩] scope pos) 0 (.ref it) (.ref D) e) R s:=by
  subst he
  refine codeAny_loop rfl (fun n s => ∃ i σ' H' ys, Inv X' [] σ' H' s /\ tn i s.heap /\ (∀ b ∈ fp, H' b = none) /\ W i n σ' H' ys) (fun n s3 hI => ?_) n h0
  show wpAny _ X'.A ((compTurn (.ListComp elt [⟨tg, iter, ifs, 0⟩] scope pos) 0 (.ref it) (.ref D) X'.env).onRaise (fun x => do noteFrame x X'.env; theTreesLotGoes x)) _ _ s3
  refine wpAny_noted (X0 ?_)
  rw [compTurn_list]
  obtain⟨i,σ3,H3,ys,I3,st3,fr3,w3⟩:=hI
  obtain⟨hD,alt⟩:=turn i n σ3 H3 ys w3
  rcases alt with ⟨stop, q⟩ | ⟨go, hlen, step⟩
  · refine uJ (ya (uJ (thn (T.done X' rfl rfl rfl hcm i [] s3 σ3 H3 _ I3 (hfp H3 fr3) st3 stop) fun r s4 ⟨hr, I4⟩ => ?_)))
    subst hr
    exact uq (hR s4 σ3 H3 I4 q)
  · refine uJ (ya (uJ (thn (T.item X' rfl rfl rfl hcm i [] s3 σ3 H3 _ I3 (hfp H3 fr3) st3 go) fun r s4 ⟨u, hr, h4⟩ => ?_)))
    subst hr
    refine uJ (thn h4 fun _ s5 ⟨x, H5, I5, r5, y5, st5, fr5⟩ => ?_)
    have I5':=I5.pinned (hfp H5 fr5) (T.obj _ _ st5)
    have hg':=hg _ s5 σ3 H5 x u _ I5' r5 (step x H5 y5)
    rw [hx] at hg'
    refine uJ (thn hg' fun _ s6 ⟨σ6, H6, I6, q6⟩ => ?_)
    have ht':=ht _ s6 σ6 H6 _ I6 q6
    rw [hx] at ht'
    refine uJ (thn ht' fun ok s7 ⟨H7, I7, q7⟩ => ?_)
    have again:∀{s8:uf} {H8:Hp} {zs:Wp V} {m':Nat},Inv X' ([]++QA fp s5.heap) σ6 H8 s8->m'<n->W (i + 1) m' σ6 H8 zs->∃m,m<n/\∃i σ' H' ys,Inv X' [] σ' H' s8/\tn i s8.heap/\(∀b ∈ fp,H' b=none)/\W i m σ' H' ys:=λ{s8 H8 zs m'} I8 hm w8=>by
      refine ⟨m', hm, i + 1, σ6, H8, zs, I8.MN, T.keep _ _ _ st5 fun b hb o e => (I8.pin (b, o) (vN _ (vN _ (Ip hb e)))).1, fun b hb => ?_, w8⟩
      obtain⟨o,e,d⟩:=T.obj _ _ st5 b hb
      exact (I8.pin (b, o) (vN _ (vN _ (Ip hb e)))).2.1
    cases ok with
    | false =>
      rw [vL (by decide)] at q7
      obtain⟨m',hm,w7⟩:=q7
      exact uq ⟨rfl, again I7 hm w7⟩
    | true =>
      rw [vF rfl] at q7
      have hb':=hb _ s7 σ6 H7 _ I7 q7
      rw [hx] at hb'
      refine uJ (uJ (thn hb' fun v s8 ⟨y, H8, I8, r8, hD8, m', hm, w8⟩ => ?_))
      have ha:=Qm (X:=X') _ s8 σ6 H8 (.ref D) [y] (.ref D) [v] (λ_ H9=>H9=upd H8 D (.lst (ys++[y]))) I8 rfl (.cons r8 .nil) ⟨D,ys,y,rfl,rfl,hD8,hlen,rfl⟩
      rw [hx] at ha
      refine uJ (thn ha fun _ s9 ⟨_, H9, I9, _, e9⟩ => ?_)
      subst e9
      exact uq (uq ⟨rfl, again I9 hm w8⟩)
def TJ(hc:X.calm=true)(S:AJ X.N X.env.scope N' ix scope)(hb:Block X N' scope tg ifs elt g tc te){RR:uT->ue->Result->uf->Prop}(I2:Inv X pins σ H₂ s₂)(T:Turn X.prog X.w X.K tg J fp it tn)(st2:tn 0 s₂.heap)(f2:∀b∈fp,Ra X pins H₂ b)(hW:jX ix g tc te J σ H₂ Q)(hRR:∀D C H' s',Inv X pins σ H' s'->(∃m,s'.heap.Ns C m)->Ra X pins H' C->Q (.ref D) H'->RR (.ref D) C (.ok .next) s'):wpAny (model X.prog X.w) X.A (newList []) (λacc s₃=>wpAny (model X.prog X.w) X.A (newFunctionEnv scope X.env.globals (HH X.env.cells scope.names []) [] X.env.qual none .none (Gc X.env)) (λcenv s₄=>
  codeAny (model X.prog X.w) X.A (.compStart (.ListComp elt [⟨tg,iter,ifs,0⟩] scope pos) 0 (.ref it) acc {cenv with scope:=relabel scope X.env}) (RR acc cenv.locals) s₄) E s₃) E s₂:=by
 have hD0:H₂ s₂.heap.objs.size=none:=I2.hok.fresh (uP _)
 have hlt2:∀b∈fp,b<s₂.heap.objs.size:=λb hb=>by
  obtain⟨o,e,_⟩:=T.obj _ _ st2 b hb
  exact uk e
 refine wx (Le (λh₁ hns₁ hsb₁ hcl₁=>?_))
 have I3:Inv X pins σ (upd H₂ s₂.heap.objs.size (.lst [])) {s₂ with heap:=s₂.heap.push {cls:=.type "list",dict:=none,data:=.seq ([]:Wp uT).toArray}}:=
  I2.laid (t':=s₂.toks) (λb u e=>uG _ e) (uP _) ⟨vZ _,[],0,.nil,uw _ rfl⟩
 have f3:∀b∈fp,Ra X pins (upd H₂ s₂.heap.objs.size (.lst [])) b:=λb hb=>⟨by rw[BC (vG (hlt2 b hb))];exact(f2 b hb).1,(f2 b hb).2⟩
 have k3:∀b o,s₂.heap.get? b=Gc o->(s₂.heap.push {cls:=.type "list",dict:=none,data:=.seq ([]:Wp uT).toArray}).get? b=Gc o:=λb o e=>uG _ e
 dsimp only at hns₁ hsb₁ hcl₁⊢
 generalize hs3:({s₂ with heap:=s₂.heap.push {cls:=.type "list",dict:=none,data:=.seq ([]:Wp uT).toArray}}:uf)=s₃ at I3
 have eh:s₂.heap.push {cls:=.type "list",dict:=none,data:=.seq ([]:Wp uT).toArray}=s₃.heap:=by rw[<-hs3]
 have et:s₂.toks=s₃.toks:=by rw[<-hs3]
 have es:∀(h:vo) (t:Nat),({s₂ with heap:=h,toks:=t}:uf)={s₃ with heap:=h,toks:=t}:=λh t=>by rw[<-hs3]
 rw[eh]at hns₁ hsb₁ hcl₁ k3⊢
 have hlt3:∀b∈fp,b<s₃.heap.objs.size:=λb hb=>by
  obtain⟨o,e,_⟩:=T.obj _ _ st2 b hb
  exact uk (k3 b o e)
 have k4:∀b o,s₃.heap.get? b=Gc o->h₁.get? b=Gc o:=hsb₁
 obtain⟨W,⟨m0,w0⟩,turn⟩:=hW _ hD0
 have I4:∀tk,Inv (Hz X N' scope s₃ (upd H₂ s₂.heap.objs.size (.lst [])) fp) [] (sig ix σ) (upd H₂ s₂.heap.objs.size (.lst [])) {s₃ with heap:=h₁,toks:=tk}:=λtk=>Yo S hc I3 f3 hlt3 hns₁ k4 hcl₁
 have st4:tn 0 h₁:=T.keep _ _ _ st2 λb hb o e=>k4 b o (k3 b o e)
 obtain⟨bg,bt,be⟩:=hb s₃ (upd H₂ s₂.heap.objs.size (.lst [])) fp
 have noX:∀(H:Hp),(∀b∈fp,H b=none)->∀b∈fp,Ra (Hz X N' scope s₃ (upd H₂ s₂.heap.objs.size (.lst [])) fp) [] H b:=λH hn b hb=>by
  obtain⟨_,h2,h3⟩:=f3 b hb
  refine⟨hn b hb,vG (hlt3 b hb),λhs=>(I4 0).ok.dv b hb hs,.inl hb,λx c h=>?_,λp hp=>absurd (show p∈([]:Wp (ue×Obj))from hp) (by simp)⟩
  exact((I4 0).ok.exf b hb).2 x c h
 have fin:∀(s':uf) (σ':St) (H':Hp),Inv (Hz X N' scope s₃ (upd H₂ s₂.heap.objs.size (.lst [])) fp) [] σ' H' s'->Q (.ref s₂.heap.objs.size) H'->RR (.ref s₂.heap.objs.size) s₃.heap.objs.size (.ok .next) s':=λs' σ' H' I' q=>by
  refine hRR _ _ H' s' ?_ (let⟨m,hn,_⟩:=I'.loc;⟨m,hn⟩) (I3.dw (uP _) I'.free) q
  exact I3.gF I'.os I'.base I'.hok I'.bare λb hb=>⟨(f3 b hb).2.2.2.1,(f3 b hb).2.1,(f3 b hb).2.2.2.2.1,(f3 b hb).2.2.2.2.2⟩
 have loop:∀tk,codeAny (model X.prog X.w) X.A (.compLoop (.ListComp elt [⟨tg,iter,ifs,0⟩] scope pos) 0 (.ref it) (.ref s₂.heap.objs.size) (compEnvC scope (cellsFrom (s₃.heap.objs.size+1) scope.names (HH X.env.cells scope.names [])) s₃.heap.objs.size X.env)) (RR (.ref s₂.heap.objs.size) s₃.heap.objs.size) {s₃ with heap:=h₁,toks:=tk}:=λtk=>
  VI (X':=Hz X N' scope s₃ (upd H₂ s₂.heap.objs.size (.lst [])) fp) (D:=s₂.heap.objs.size) (Q:=Q) (W:=W) rfl rfl rfl T noX bg bt be turn fin ⟨0,_,_,_,I4 tk,st4,λb hb=>(f3 b hb).1,w0⟩
 rw[es]
 exact codeAny_compStart_list (loop _) (T.self _ 0 _ _ _ st4 (loop _))
def aT(hc:X.calm=true)(S:AJ X.N X.env.scope N' ix scope)(hi:PI X tg iter wi)(hb:Block X N' scope tg ifs elt g tc te)(hs:x0 (∀x,foldedSetIterable iter X.env x=pure x) ww):PE X (.ListComp elt [⟨tg,iter,ifs,0⟩] scope pos) (cn ix wi g tc te):=by
 intro pins s σ H Q I h
 rw[eval_ListComp]
 refine AAT (use:=none) rfl hs (Tu (I.cellsOf S)) S.kind S.names (thn (hi pins s σ H _ I h) λv s1 h1=>thn h1 λitv s2 h2=>?_)
 obtain⟨it,fp,tn,J,H2,e,I2,T,st2,f2,hW⟩:=h2
 subst e
 refine TJ (RR:=λacc C=>compPost (model X.prog X.w) X.A X.xe none (EP X pins σ Q) acc C) hc S hb I2 T st2 f2 hW ?_
 intro D C H' s' I' hm hC q
 obtain⟨m,hm⟩:=hm
 refine⟨m,hm,λh' hs'=>⟨.ref D,H',I'.turned (it:=C) (t':=s'.toks) (λb o hb e=>hs'.extBut b o hb e) hC.1 hC.2.1 hC.2.2.2.1 hC.2.2.2.2.1 hC.2.2.2.2.2,rfl,q⟩⟩
end
end L2
end
noncomputable section
namespace L2
open PySem PySem.Spec PyProof.Rows
section
variable{X:Cx}{pos spos py:Pos}
def Tz(hc:X.calm=true)(hN:X.N.Nodup)(hi':X.N[i]?=Gc y)(hx:X.env.scope.names.lookup y=Gc .local)(S:AJ X.N X.env.scope N' ix scope)(hi:PI X tg iter wi)(hb:Block X N' scope tg ifs elt g tc te)(hsw:x0 (swapsWith (.ListComp elt [⟨tg,iter,ifs,0⟩] scope pos) (Gc (.Name y py)) spos.line X.env=pure true) wv)(hs:x0 (∀x,foldedSetIterable iter X.env x=pure x) ww):PS X (.Assign [.Name y py] (.ListComp elt [⟨tg,iter,ifs,0⟩] scope pos) spos) (nU (cn ix wi g tc te) (cY i)):=by
 intro pins s σ H D I h
 rw[exec_Assign_Name_used _ _ _ _ hsw]
 refine uJ (ya (uJ ?_))
 show wpAny _ X.A (do let _<-comprehension (.ListComp elt [⟨tg,iter,ifs,0⟩] scope pos) scope X.env _ (newList []) false (eval iter X.env) (Gc (assign (.Name y py) X.env))) _ _ s
 refine uJ (xJ (AAT (use:=Gc (assign (.Name y py) X.env)) (Q:=λ_ s'=>SP X pins D .next s') rfl hs (Tu (I.cellsOf S)) S.kind S.names
  (thn (hi pins s σ H _ I h) λv s1 h1=>thn h1 λitv s2 h2=>?_)) (λ_ s' hq=>uq (uq hq)) λ_ _ e=>e)
 obtain⟨it,fp,tn,J,H2,e,I2,T,st2,f2,hW⟩:=h2
 subst e
 refine TJ (RR:=λacc C=>compPost (model X.prog X.w) X.A X.xe (Gc (assign (.Name y py) X.env)) (λ_ s'=>SP X pins D .next s') acc C) hc S hb I2 T st2 f2 hW ?_
 intro L C H' s' I' hm hC q
 obtain⟨m,hm⟩:=hm
 show wpAny _ X.A (assign (.Name y py) X.env (.ref L)) _ _ _
 refine wpAny_assign_Name (QS I' hN hi' (.inl hx) (v:=.ref L) rfl (λs'' I'' ⟨a,sb,ha⟩=>?_) (.inr hx))
 have hCa:C≠a:=by
  rcases ha with rfl|ha
  .exact hC.2.1
  .exact vj (hC.2.2.2.2.1 y a ha)
 refine⟨m,hm.sameBut sb hCa,λh' hs'=>?_⟩
 exact⟨_,H',I''.turned (it:=C) (t':=s''.toks) (λb o hb e=>hs'.extBut b o hb e) hC.1 hC.2.1 hC.2.2.2.1 hC.2.2.2.2.1 hC.2.2.2.2.2,q⟩
end
end L2
end
noncomputable section
namespace L2
open PySem PySem.Spec PyProof.Rows
section
variable{κ:Type} [DecidableEq κ]
def aE.Wg(r:aE o u):o.isSome=u.isSome:=by
 cases o with
 |none=>cases u with
  |none=>rfl
  |some _=>exact(show wq from r).elim
 |some _=>cases u with
  |none=>exact(show wq from r).elim
  |some _=>rfl
end
def mz(r:RelV (kV k) u):(Gi P w).is k u=true:=by
 cases k with
 |inl i=>obtain⟨t,e⟩:=(show∃t,u=AAX i t from r);subst e;exact RU P w i t
 |inr x=>obtain⟨t,e⟩:=(show∃t,u=AAY x t from r);subst e;exact RP P w x t
theorem Qz:∀{ks} {us},Vals (ks.map kV) us->ItemsAre (Gi P w) ks us
 | [],_,r=>by rw[vM]at r;cases r;exact .nil
 |k::ks,_,r=>by
  rw[uV]at r
  cases r with
  |cons h t=>exact .cons (mz h) (Qz t)
abbrev KT(H:Hp):Wp (Wp Key×V)->Wp (Wp Key×ue×uT)->Prop:=Paired λp q=>p.1=q.1/\H q.2.1=Gc (.tup (p.1.map kV))/\RelV p.2 q.2.2
section
variable{P:vg}{w:v9}{H:Hp}{h:vo}{a:ue}
def lS(ok:HOk P w H h)(e:Rd H a u):Ej P w H h a u:=e.ok ok
def fP(ok:HOk P w H h)(e:H a=Gc (.tup (ks.map kV))):(tupleKind (Gi P w)).is h ks a:=by
 obtain⟨_,its,r,o,h1,h2,n,h3⟩:=(show Ej P w H h a (.tup (ks.map kV))from ok a _ e)
 exact⟨o,its.toArray,n,h1,h2,h3,by simpa using Qz r⟩
def mh(ok:HOk P w H h)(e:Rd H a (.dT kvs)):kvs.length<=sizeLine/\(a==sysModules)=false/\∃xs,KT H kvs xs/\h.DictOfH (tupleKind (Gi P w)) a xs:=by
 obtain⟨z,y,xs,r,o,es,ep,h1,h2,h3,h4,h5⟩:=(show Ej P w H h a (.dT kvs)from lS ok e)
 refine⟨z,y,xs,r,o,es,ep,h1,h2,h3,h4,λx hx=>?_,h5⟩
 have all:∀{l:Wp (Wp Key×V)} {m:Wp (Wp Key×ue×uT)},KT H l m->∀x∈m,(tupleKind (Gi P w)).is h x.1 x.2.1:=by
  intro l m q
  induction q with
  |nil=>intro x hx;exact nomatch hx
  | @cons p q ps qs hq t ih=>
    intro x hx
    rcases uS.mp hx with e|hx
    .subst e
     exact fP ok (by rw[<-hq.1];exact hq.2.1)
    .exact ih x hx
 exact all r x hx
def Yp(ok:HOk P w H h)(e:H a=Gc (.dT kvs)):kvs.length<=sizeLine/\(a==sysModules)=false/\∃xs,KT H kvs xs/\h.DictOfH (tupleKind (Gi P w)) a xs:=mh ok (.inl e)
end
section
variable{X:Cx}{pins:Wp (ue×Obj)}{σ:St}{H:Hp}{s:uf}{a:ue}{y v:V}{u r:uT}{o:uM V}{A:xV}{E:uT->uf->Prop}
end
section
variable{X:Cx}{pins:Wp (ue×Obj)}{σ:St}{H:Hp}{s:uf}{a:ue}{kvs:Wp (Key×V)}{k:Key}{u:uT}{A:xV}{E:uT->uf->Prop}
end
section
variable{X:Cx}{o i e value:vw}{pos pos' tpos:Pos}{td ty tv:TE}
end
section
variable{X:Cx}{pos:Pos}
end
structure M1(X:Cx)(o:vw)(m:Str)(apos:Pos)(e:vw)(cpos:Pos):Prop where
 base:attributeBase o m X.env (eval o X.env)=eval o X.env
 few:((backTo cpos (um [e] X.env)).all (λx=> !x.1) && (backToKw cpos (keywordEach [] X.env)).all (λx=>x.1.isSome)
  && decide (([e]:Wp vw).length+([]:Wp AAF).length+(if([]:Wp AAF).isEmpty then 0 else 1)<30))=true
 line:(apos.endLine==cpos.line)=true
 trees:backTo cpos (um [e] X.env)=[(false,eval e X.env)]
structure M2(X:Cx)(o:vw)(m:Str)(apos:Pos)(e f:vw)(cpos:Pos):Prop where
 base:attributeBase o m X.env (eval o X.env)=eval o X.env
 few:((backTo cpos (um [e,f] X.env)).all (λx=> !x.1) && (backToKw cpos (keywordEach [] X.env)).all (λx=>x.1.isSome)
  && decide (([e,f]:Wp vw).length+([]:Wp AAF).length+(if([]:Wp AAF).isEmpty then 0 else 1)<30))=true
 line:(apos.endLine==cpos.line)=true
 trees:backTo cpos (um [e,f] X.env)=[(false,eval e X.env),(false,eval f X.env)]
def IsD(H:Hp)(a:ue):Prop:=(∃kvs,Rd H a (.dK kvs))\/∃kvs,Rd H a (.dT kvs)
section
variable{X:Cx}{pins:Wp (ue×Obj)}{σ:St}{H:Hp}{s:uf}{a:ue}{y d:V}{u r:uT}{o:uM V}{A:xV}{E:uT->uf->Prop}
end
section
variable{X:Cx}{o e f:vw}{apos cpos:Pos}{td ty tx:TE}
end
section
variable{X:Cx}{pins:Wp (ue×Obj)}{σ:St}{H:Hp}{s:uf}{a:ue}{kvs:Wp (Key×V)}{A:xV}{E:uT->uf->Prop}
end
section
variable{X:Cx}{pins:Wp (ue×Obj)}{σ:St}{H:Hp}{s:uf}{a:ue}{y:V}{u:uT}{A:xV}{E:uT->uf->Prop}
end
end L2
end
noncomputable section
namespace L2
open PySem PySem.Spec PyProof.Rows
section
variable{s:uf}
def Uk{h:vo}{i:Nat}(ho:h.get? it=Gc o)(hc:o.cls=.type "tuple_iterator")(hd:o.data=.fields #[.ref t,.int i 0])(e:h'=h.update it (λo=>o.mapFields λa=>a.setIfInBounds 1 (rawInt ((i:Int)+1)))):h'.IsTupleIter it t (i+1):=by
 subst e
 have d:=xO hd λa=>a.setIfInBounds 1 (rawInt ((i:Int)+1))
 refine⟨_,wY _ ho (wZ d),?_,?_⟩
 .rw[Obj.cls_mapFields];exact hc
 .rw[d];simp[rawInt]
def Xy(hit:s.heap.IsTupleIter it t i)(ht:s.heap.IsTuple t items)(hx:items[i]?=Gc x)(hQ:∀h',h'.IsTupleIter it t (i+1)->zS it s.heap h'->Q x {s with heap:=h'}):wpAny (model prog w) A (vJ (.ref it)) Q E s:=by
 obtain⟨⟨c,dd,dt,sl⟩,ho,hc,hd⟩:=id hit
 obtain⟨⟨c2,dd2,dt2,sl2⟩,ho2,hc2,n2,hd2⟩:=id ht
 simp only at hc hd hc2 hd2
 subst hc hd hc2 hd2
 unfold vJ
 refine uJ (wN (name:=wQ "__next__") hit.typeIs xP (wd xP hit.typeIs zV ?_ (zM _)))
 unfold zC.«tuple_iterator.__next__»
 wp_walk using vA ho,vA ho2
 have e:items[(i:Int).toNat]?=Gc x:=by rw[wB];exact hx
 rw[e]
 refine uJ (yO ho rfl (by simp) ?_)
 exact uq ⟨x,rfl,uq (hQ _ (Uk ho rfl rfl rfl) (ABW ..))⟩
def X7(hh:A.handled=none)(hit:s.heap.IsTupleIter it t i)(ht:s.heap.IsTuple t items)(hx:items[i]?=none)(hE:∀h' e,AAH it s.heap h'->(∃o,h'.get? e=Gc o/\o.cls=.type "StopIteration")->E (.ref e) {s with heap:=h'}):wpAny (model prog w) A (vJ (.ref it)) Q E s:=by
 obtain⟨⟨c,dd,dt,sl⟩,ho,hc,hd⟩:=id hit
 obtain⟨⟨c2,dd2,dt2,sl2⟩,ho2,hc2,n2,hd2⟩:=id ht
 simp only at hc hd hc2 hd2
 subst hc hd hc2 hd2
 unfold vJ
 refine uJ (wN (name:=wQ "__next__") hit.typeIs xP (wd xP hit.typeIs zV ?_ (zM _)))
 unfold zC.«tuple_iterator.__next__»
 wp_walk using vA ho,vA ho2
 have e:items[(i:Int).toNat]?=none:=by rw[wB];exact hx
 rw[e]
 refine uJ (AAj (uJ (yO ho rfl (by simp) ?_)))
 have hh1:A.in1.handled=none:=hh
 unfold Builtin.SmallTypes.stopIteration
 simp only[newExc,newTuple,raiseNew]
 wp_walk
 refine hE _ _ ?_ ⟨_,uw _ rfl,rfl⟩
 have a:=(ABW (a:=it) (h:=s.heap) (f:=vv λx=>x.setIfInBounds 0 vR)).extBut
 exact(a.push _).push _
def Wn l items n dct sl:Meets (zC.«enumerate.__new__» ⟨[.type "enumerate",.ref l],[]⟩) (λ_ R s=>s.heap.get? l=Gc {cls:=.type "tuple",dict:=dct,data:=.seq items n,slots:=sl}/\R (.ok (.ret (.ref (s.heap.objs.size+1)))) {s with heap:=(s.heap.push {cls:=.type "tuple_iterator",data:=.fields #[.ref l,.int 0 0]}).push {cls:=.type "enumerate",data:=.fields #[.none,.bool false,.ref s.heap.objs.size,rawInt 0,.none,.none]}}):=
 .of_wp λprog w A R s h=>by
  obtain⟨hp,g,d,tk,os⟩:=s
  obtain⟨hl,h⟩:=h
  have hsub:=sub_enumerate
  have hT:zW (xj ⟨hp,g,d,tk,os⟩) l items:=⟨_,hl,rfl,n,rfl⟩
  wp_walk using vA hl
  refine wpAny_stack_any λst=>uq ?_
  split
  .rename_i c _ _ _ _ _
   cases (c==zd "enumerate")<;>(wp_walk using vA hl,wM hT)<;>(refine⟨_,rfl,?_⟩;rw[vq];exact h)
  .wp_walk using vA hl,wM hT
   refine⟨_,rfl,?_⟩
   rw[vq]
   exact h
def Ud(hT:s.heap.IsTuple l items)(h:∀h',IsEnum h' (s.heap.objs.size+1) s.heap.objs.size 0 .none->h'.IsTupleIter s.heap.objs.size l 0->(∀b o,s.heap.get? b=Gc o->h'.get? b=Gc o)->Q (.ref (s.heap.objs.size+1)) {s with heap:=h'}):wpAny (model prog w) A (call (.type "enumerate") [.ref l]) Q E s:=by
 obtain⟨⟨c,dct,dt,sl⟩,hl,hc,n,hd⟩:=hT
 simp only at hc hd
 subst hc hd
 refine callType_new F.called_enumerate (by decide) (F.typeCall_enumerate_1 _) (F.newCall_enumerate_1 _) (λobj=>F.args_object_init_2 obj _) F.entry_enumerate_new (Wn l items n dct sl) ⟨hl,?_⟩
 have z:=uw (s.heap.push {cls:=.type "tuple_iterator",data:=.fields #[.ref l,.int 0 0]}) (o:={cls:=.type "enumerate",data:=.fields #[.none,.bool false,.ref s.heap.objs.size,rawInt 0,.none,.none]}) rfl
 rw[vq]at z
 exact⟨⟨_,z,rfl⟩,h _ z ⟨_,uG _ (uw _ rfl),rfl,rfl⟩ λb o x=>uG _ (uG _ x)⟩
end
end L2
end
noncomputable section
namespace L2
open PySem PySem.Spec PyProof.Rows
def FnAt(X:Cx)(k:Nat)(f:ue)(sp:Sp):Prop:=∃fd ps,Mq X.prog X.w X.K X.mg X.base CX0 k f fd ps sp/\wG X.K (.ref f)=true/\Binds X.K fd ps []
noncomputable def jO(X:Cx)(k i:Nat)(t:TA):TE:=λσ H Q=>∃f sp,σ[i]?=Gc (Gc (.ref f))/\FnAt X k f sp/\t σ H λvs H1=>sp (vs++[]) H1 Q E0
def YI{p pos:Pos}(hN:X.N[i]?=Gc x)(hv:Vis X.env.scope x)(hr:Kn k X.A)(ha:PA X (e::es) t)(hd:x0 ((x==("__debug__":Str))=false) xL)(hcd:x0 ((x==("__classdict__":Str))=false) xL)(he:x0 (um (e::es) X.env=(false,eval e X.env)::um es X.env) wv)(hpl:x0 ((backTo pos (um es X.env)).any (·.1)=false) wv):PE X (.Call (.Name x p) (e::es) [] pos) (jO X k i t):=by
 intro pins s σ H Q I h
 obtain⟨f,sp,el,⟨fd,ps,F,hk,hb⟩,h⟩:=h
 refine vz (thn (VP hN hv hd hcd pins s σ H (λv H1=>v=.ref f/\H1=H) I ⟨_,el,rfl,rfl⟩) λu s1 z=>?_)
 obtain⟨v,H1,I1,r,ev,eh⟩:=z
 subst ev eh
 obtain rfl:u=vT f:=r
 refine zm (h₀:=X.base) I.ok.mod.kin hk (thn (ha pos pins s1 σ H1 _ I1 h) λus s2 ⟨vs,H2,I2,r2,q⟩=>⟨I2.kIn,?_⟩) he hpl
 exact aJ F hr hb .nil ig I2 r2 q
end L2
end
noncomputable section
namespace L2
open PySem PySem.Spec PyProof.Rows
structure TopD(K:uF)(w:v9)(a:ue)(kvs:Wp (Str×V)):Prop where
 ex:∃(es:zE yT) (n:Nat),K.lookup a=Gc ⟨.type "dict",none,.dict es n, #[]⟩/\zN w.params es.toList/\(a==sysModules)=false/\∀x,aE (kvs.lookup x) (findBy xo es x)
noncomputable def iV(K:uF)(w:v9):R2:=λx y H Q=>∃a kvs k v,x=.ref a/\y=.str k/\TopD K w a kvs/\kvs.lookup k=Gc v/\Q v H
def aI:IxR X (iV X.K X.w):=by
 intro value slice pins s σ H x y v u Q I rx ry h hs
 obtain⟨a,kvs,k,z,rfl,rfl,⟨es,n,hl,hk,hne,hr⟩,e,q⟩:=h
 cases rx
 obtain⟨t,rfl⟩:=ry
 have hm:=PySem.W.mapOf_K (prog:=X.prog) I.kIn hl hk
 have r:=hr k
 rw[e]at r
 cases f:findBy xo es k with
 |none=>rw[f]at r;exact r.elim
 |some u=>
  rw[f]at r
  exact tail_any hm.typeIs slot_dict_getitem.lookup (wpAny_getItem_of (strKind_is X.prog X.w k t) hm f ⟨z,H,I.tok _,r,q⟩) hs
noncomputable def Zg(K:uF)(w:v9)(neg:va):R2:=λx y H Q=>∃a kvs k,y=.ref a/\x=.str k/\TopD K w a kvs/\Q (.bl (if neg then !(kvs.lookup k).isSome else(kvs.lookup k).isSome)) H
def QO:OpR X (compareOp .NotIn) (Zg X.K X.w true):=by
 intro pins s σ H x y v u Q I rx ry h
 obtain⟨a,kvs,k,rfl,rfl,⟨es,n,hl,hk,hne,hr⟩,q⟩:=h
 cases ry
 obtain⟨t,rfl⟩:=rx
 refine wpAny_notIn_of (strKind_is X.prog X.w k t) hne (PySem.W.mapOf_K (prog:=X.prog) I.kIn hl hk) ⟨.bl _,H,I.tok _,?_,q⟩
 show _=_
 have r:(kvs.lookup k).isSome=(findBy xo es k).isSome:=(hr k).Wg
 rw[<-r]
 rfl
def Rg(p:Paired (λp (e:yT)=>(∃t,e.key=.str p.1 t)/\RelV p.2 e.val) kvs es) x:aE (kvs.lookup x) (findBy xo es.toArray x):=by
 unfold findBy
 rw[List.find?_toArray]
 induction p with
 |nil=>trivial
 | @cons q e r t h _ ih=>
   obtain⟨⟨tk,hk⟩,hv⟩:=h
   obtain⟨k,v⟩:=q
   rw[List.find?_cons,hk]
   show aE (match x==k with|true=>Gc v|false=>yk x r) _
   by_cases z:x=k
   .subst z
    have e1:(x==x)=true:=AAg x
    have e2:xo x (.str x tk)=true:=AAg x
    rw[e1,e2]
    exact hv
   .have e1:(x==k)=false:=xD.mpr z
    have e2:xo x (.str k tk)=false:=xD.mpr (vj z)
    rw[e1,e2]
    exact ih
def Za{K:uF}(l:K.lookup a=Gc ⟨.type "dict",none,.dict es.toArray n, #[]⟩)(hk:zN w.params es)(hne:(a==sysModules)=false)(hp:Paired (λp (e:yT)=>(∃t,e.key=.str p.1 t)/\RelV p.2 e.val) kvs es):TopD K w a kvs:=⟨_,n,l,hk,hne,Rg hp⟩
end L2
end
noncomputable section
namespace L2
open PySem PySem.Spec PyProof.Rows
def SIt(h:vo)(j l:ue)(i:Nat)(its:zE uT):Prop:=(h.IsListIter j l i/\h.IsList l its)\/(h.IsTupleIter j l i/\h.IsTuple l its)
def SIt.at(q:SIt h j l i its)(k1:∀o,h.get? j=Gc o->h'.get? j=Gc o)(k2:∀o,h.get? l=Gc o->h'.get? l=Gc o):SIt h' j l i its:=by
 rcases q with⟨a,b⟩|⟨a,b⟩
 .exact .inl ⟨a.at k1,b.at k2⟩
 .exact .inr ⟨a.at k1,let⟨o,e,r⟩:=b;⟨o,k2 o e,r⟩⟩
def SIt.but(q:SIt h j l i its)(sb:AAH c h h')(n1:j≠c)(n2:l≠c):SIt h' j l i its:=q.at (λo e=>sb _ o n1 e) λo e=>sb _ o n2 e
def SIt.live(q:SIt h j l i its):∃o,h.get? j=Gc o/\∀v,o.data≠.cell v:=by
 rcases q with⟨⟨o,a,b,c⟩,_⟩|⟨⟨o,a,b,c⟩,_⟩
 .exact⟨o,a,λv z=>by rw[c]at z;cases z⟩
 .exact⟨o,a,λv z=>by rw[c]at z;cases z⟩
def SIt.ne(q:SIt h j l i its):l≠j:=by
 rcases q with⟨⟨o,a,b,_⟩,⟨o2,a2,b2,_⟩⟩|⟨⟨o,a,b,_⟩,⟨o2,a2,b2,_⟩⟩
 .intro z;subst z;rw[a]at a2;cases a2;rw[b]at b2;injection b2 with q;exact absurd q (by decide)
 .intro z;subst z;rw[a]at a2;cases a2;rw[b]at b2;injection b2 with q;exact absurd q (by decide)
def MM(q:SIt s.heap j l i its)(hx:its[i]?=Gc x)(k:∀h',SIt h' j l (i+1) its->zS j s.heap h'->Q x {s with heap:=h'}):wpAny (model prog w) A (vJ (.ref j)) Q E s:=by
 have n:=q.ne
 rcases q with⟨a,b⟩|⟨a,b⟩
 .exact wpAny_nextOf_list_item a b hx λh' a' sb=>k h' (.inl ⟨a',b.extBut sb.extBut n⟩) sb
 .exact Xy a b hx λh' a' sb=>k h' (.inr ⟨a',let⟨o,e,r⟩:=b;⟨o,sb.extBut _ o n e,r⟩⟩) sb
def MP(hh:A.handled=none)(q:SIt s.heap j l i its)(hx:its[i]?=none)(k:∀h' e,AAH j s.heap h'->(∃o,h'.get? e=Gc o/\o.cls=.type "StopIteration")->E (.ref e) {s with heap:=h'}):wpAny (model prog w) A (vJ (.ref j)) Q E s:=by
 rcases q with⟨a,b⟩|⟨a,b⟩
 .exact wpAny_nextOf_list_end hh a b hx k
 .exact X7 hh a b hx k
def XH{Q:uT->uf->Prop}(D:ZipApart z ti tt j1 j2 l1 l2)(oz:zy s.heap z ti tt .none)(oi:xq s.heap ti (.ref j1) (.ref j2))(ot:xq s.heap tt u1 u2)(q1:SIt s.heap j1 l1 m xs)(q2:SIt s.heap j2 l2 m ys)(ex:xs[m]?=Gc x)(ey:ys[m]?=Gc y)(k:∀h',zy h' z ti tt (rawInt s.heap.objs.size)->xq h' tt x y->SIt h' j1 l1 (m+1) xs->SIt h' j2 l2 (m+1) ys->xq h' s.heap.objs.size x y->(∀c o,c≠z->c≠tt->c≠j1->c≠j2->s.heap.get? c=Gc o->h'.get? c=Gc o)->Q (.ref s.heap.objs.size) {s with heap:=h'}):wpAny (model prog w) A (zC.«zip.__next__» ⟨[.ref z],[]⟩) (λfin s'=>∃v,fin=.done (.ret v)/\Q v s') E s:=by
 show wpAny _ _ (field (.ref z) 2 >>= _) _ _ _
 refine uJ (wC oz rfl (x:=.bool false) rfl ?_)
 show wpAny _ _ (field (.ref z) 3 >>= _) _ _ _
 refine uJ (wC oz rfl (x:=.ref ti) rfl (uJ (yP oi rfl ?_)))
 show wpAny _ _ (wI (.ref z) >>= _) _ _ _
 refine uJ ?_
 unfold wI
 refine uJ (wC oz rfl (x:=.none) rfl (uq ?_))
 simp only[zT]
 refine uJ (AAj (uJ (wC oz rfl (x:=.ref tt) rfl (uJ (xQ oz (by simp) λg1 oz1 b1=>?_)))))
 have oz1:zy g1 z ti tt .ellipsis:=oz1
 refine uJ ?_
 simp only[List.zipIdx_cons,List.zipIdx_nil,AA3,ABF]
 refine uJ (uJ (AAU ?_))
 show wpAny _ _ (vJ (.ref j1) >>= _) _ _ _
 refine uJ (MM (q1.but b1.extBut D.i1z D.l1z) ex λg2 q12 b2=>uq ?_)
 have ot2:xq g2 tt u1 u2:=b2.extBut _ _ D.TOi1 (b1.extBut _ _ D.TOz ot)
 refine uJ (yP ot2 rfl (uJ (zH ot2 λg3 ot3 b3=>?_)))
 have ot3:xq g3 tt x u2:=ot3
 refine uJ (wpAny_letGo (uq (uJ (uJ (AAU ?_)))))
 show wpAny _ _ (vJ (.ref j2) >>= _) _ _ _
 refine uJ (MM (((q2.but b1.extBut D.i2z D.l2z).but b2.extBut D.i12.symm D.l2i1).but b3.extBut D.TOi2.symm D.l2TO) ey λg4 q24 b4=>uq ?_)
 have ot4:xq g4 tt x u2:=b4.extBut _ _ D.TOi2 ot3
 refine uJ (yP ot4 rfl (uJ (zH ot4 λg5 ot5 b5=>?_)))
 have ot5:xq g5 tt x y:=ot5
 refine uJ (wpAny_letGo (uq (uq (uJ (yP ot5 rfl (uJ (wpAny_newTuple ?_)))))))
 have sz:g5.objs.size=s.heap.objs.size:=by rw[b5.1,b4.1,b3.1,b2.1,b1.1]
 have oz5:zy g5 z ti tt .ellipsis:=b5.extBut _ _ D.TOz.symm (b4.extBut _ _ D.i2z.symm (b3.extBut _ _ D.TOz.symm (b2.extBut _ _ D.i1z.symm oz1)))
 have k5:∀c o,c≠z->c≠tt->c≠j1->c≠j2->s.heap.get? c=Gc o->g5.get? c=Gc o:=λc o c1 c2 c3 c4 e=>b5.extBut _ _ c2 (b4.extBut _ _ c4 (b3.extBut _ _ c2 (b2.extBut _ _ c3 (b1.extBut _ _ c1 e))))
 have q15:SIt g5 j1 l1 (m+1) xs:=((q12.but b3.extBut D.TOi1.symm D.l1TO).but b4.extBut D.i12 D.l1i2).but b5.extBut D.TOi1.symm D.l1TO
 have q25:SIt g5 j2 l2 (m+1) ys:=q24.but b5.extBut D.TOi2.symm D.l2TO
 have zlt:z<g5.objs.size:=uk oz5
 show wpAny _ _ (yY (.ref z) (.ref g5.objs.size) >>= _) _ _ _
 refine uJ ?_
 unfold yY
 have oz6:zy (g5.push {cls:=.type "tuple",data:=.seq #[x,y]}) z ti tt .ellipsis:=uG _ oz5
 refine uJ (xQ oz6 (by simp) λg7 oz7 b7=>?_)
 have oz7:zy g7 z ti tt (rawInt g5.objs.size):=oz7
 refine xQ oz7 (by simp) λg8 oz8 b8=>?_
 have oz8:zy g8 z ti tt (rawInt g5.objs.size):=oz8
 have up:∀c o,c≠z->g5.get? c=Gc o->g8.get? c=Gc o:=λc o c1 e=>b8.extBut _ _ c1 (b7.extBut _ _ c1 (uG _ e))
 have op8:xq g8 g5.objs.size x y:=b8.extBut _ _ (yl zlt) (b7.extBut _ _ (yl zlt) (uw _ rfl))
 rw[sz]at oz8 op8
 refine uq ⟨_,rfl,?_⟩
 show Q (.ref g5.objs.size) _
 rw[sz]
 exact k g8 oz8 (up _ _ D.TOz ot5) (q15.at (λo e=>up _ o D.i1z e) λo e=>up _ o D.l1z e) (q25.at (λo e=>up _ o D.i2z e) λo e=>up _ o D.l2z e) op8 λc o c1 c2 c3 c4 e=>up c o c1 (k5 c o c1 c2 c3 c4 e)
def Y8(hh:A.handled=none)(D:ZipApart z ti tt j1 j2 l1 l2)(oz:zy s.heap z ti tt .none)(oi:xq s.heap ti (.ref j1) (.ref j2))(ot:xq s.heap tt u1 u2)(q1:SIt s.heap j1 l1 m xs)(q2:SIt s.heap j2 l2 m ys)(en:xs[m]?=none\/ys[m]?=none)(k:∀h' e,(∀c o,c≠z->c≠tt->c≠j1->c≠j2->s.heap.get? c=Gc o->h'.get? c=Gc o)->(∃o,h'.get? e=Gc o/\o.cls=.type "StopIteration")->E (.ref e) {s with heap:=h'}):wpAny (model prog w) A (zC.«zip.__next__» ⟨[.ref z],[]⟩) Q E s:=by
 show wpAny _ _ (field (.ref z) 2 >>= _) _ _ _
 refine uJ (wC oz rfl (x:=.bool false) rfl ?_)
 show wpAny _ _ (field (.ref z) 3 >>= _) _ _ _
 refine uJ (wC oz rfl (x:=.ref ti) rfl (uJ (yP oi rfl ?_)))
 show wpAny _ _ (wI (.ref z) >>= _) _ _ _
 refine uJ ?_
 unfold wI
 refine uJ (wC oz rfl (x:=.none) rfl (uq ?_))
 simp only[zT]
 refine uJ (AAj (uJ (wC oz rfl (x:=.ref tt) rfl (uJ (xQ oz (by simp) λg1 oz1 b1=>?_)))))
 have oz1:zy g1 z ti tt .ellipsis:=oz1
 refine uJ ?_
 simp only[List.zipIdx_cons,List.zipIdx_nil,AA3,ABF]
 refine uJ (uJ (AAU ?_))
 show wpAny _ _ (vJ (.ref j1) >>= _) _ _ _
 cases ex:xs[m]? with
 |none=>
  refine uJ (MP hh (q1.but b1.extBut D.i1z D.l1z) ex λg2 e b2 he=>?_)
  obtain⟨oe,e1,e2⟩:=he
  have oz2:zy g2 z ti tt .ellipsis:=b2 _ _ D.i1z.symm oz1
  have nez:e≠z:=λx=>by subst x;rw[oz2]at e1;cases e1;simp at e2
  exact xQ oz2 (by simp) λg3 _ b3=>k g3 e (λc o c1 _ c3 _ x=>b3.extBut _ _ c1 (b2 _ _ c3 (b1.extBut _ _ c1 x))) ⟨oe,b3.extBut _ _ nez e1,e2⟩
 |some x=>
  have ey:ys[m]?=none:=by
   rcases en with z|z
   .rw[ex]at z;cases z
   .exact z
  refine uJ (MM (q1.but b1.extBut D.i1z D.l1z) ex λg2 q12 b2=>uq ?_)
  have ot2:xq g2 tt u1 u2:=b2.extBut _ _ D.TOi1 (b1.extBut _ _ D.TOz ot)
  refine uJ (yP ot2 rfl (uJ (zH ot2 λg3 ot3 b3=>?_)))
  refine uJ (wpAny_letGo (uq (uJ (uJ (AAU ?_)))))
  show wpAny _ _ (vJ (.ref j2) >>= _) _ _ _
  refine uJ (MP hh (((q2.but b1.extBut D.i2z D.l2z).but b2.extBut D.i12.symm D.l2i1).but b3.extBut D.TOi2.symm D.l2TO) ey λg4 e b4 he=>?_)
  obtain⟨oe,e1,e2⟩:=he
  have oz4:zy g4 z ti tt .ellipsis:=b4 _ _ D.i2z.symm (b3.extBut _ _ D.TOz.symm (b2.extBut _ _ D.i1z.symm oz1))
  have nez:e≠z:=λx=>by subst x;rw[oz4]at e1;cases e1;simp at e2
  exact xQ oz4 (by simp) λg5 _ b5=>k g5 e (λc o c1 c2 c3 c4 x=>b5.extBut _ _ c1 (b4 _ _ c4 (b3.extBut _ _ c2 (b2.extBut _ _ c3 (b1.extBut _ _ c1 x))))) ⟨oe,b5.extBut _ _ nez e1,e2⟩
def UY(D:ZipApart z ti tt j1 j2 l1 l2)(oz:zy s.heap z ti tt .none)(oi:xq s.heap ti (.ref j1) (.ref j2))(ot:xq s.heap tt u1 u2)(q1:SIt s.heap j1 l1 m xs)(q2:SIt s.heap j2 l2 m ys)(ex:xs[m]?=Gc x)(ey:ys[m]?=Gc y)(k:∀h',zy h' z ti tt (rawInt s.heap.objs.size)->xq h' tt x y->SIt h' j1 l1 (m+1) xs->SIt h' j2 l2 (m+1) ys->xq h' s.heap.objs.size x y->(∀c o,c≠z->c≠tt->c≠j1->c≠j2->s.heap.get? c=Gc o->h'.get? c=Gc o)->Q (Gc (.ref s.heap.objs.size)) {s with heap:=h'}):wpAny (model prog w) A (pyNext (.ref z)) Q E s:=by
 have ht:s.TypeIs (.ref z) "zip":=⟨_,oz,rfl⟩
 unfold pyNext
 exact uJ (wpAny_attempt (wN (name:=wQ "__next__") ht zO (wd zO ht F.entry_zip_next
  (XH D oz oi ot q1 q2 ex ey λh' a1 a2 a3 a4 a5 a6=>uq (k h' a1 a2 a3 a4 a5 a6)) (F.args_zip_next_1 _))))
def VW(hh:A.handled=none)(D:ZipApart z ti tt j1 j2 l1 l2)(oz:zy s.heap z ti tt .none)(oi:xq s.heap ti (.ref j1) (.ref j2))(ot:xq s.heap tt u1 u2)(q1:SIt s.heap j1 l1 m xs)(q2:SIt s.heap j2 l2 m ys)(en:xs[m]?=none\/ys[m]?=none)(k:∀h',(∀c o,c≠z->c≠tt->c≠j1->c≠j2->s.heap.get? c=Gc o->h'.get? c=Gc o)->Q none {s with heap:=h'}):wpAny (model prog w) A (pyNext (.ref z)) Q E s:=by
 have ht:s.TypeIs (.ref z) "zip":=⟨_,oz,rfl⟩
 unfold pyNext
 refine uJ (wpAny_attempt (wN (name:=wQ "__next__") ht zO (wd zO ht F.entry_zip_next
  (Y8 hh D oz oi ot q1 q2 en λh' e kp he=>?_) (F.args_zip_next_1 _))))
 obtain⟨o,e1,e2⟩:=he
 exact uJ (wpAny_isInstance (T:="StopIteration") (b:=true) ⟨o,e1,e2⟩ isSubtype_stop (uq (k _ kp)))
end L2
end
noncomputable section
namespace L2
open PySem PySem.Spec PyProof.Rows
def N0(h:vo)(b:va)(l:ue)(its:zE uT):Prop:=match b with|true=>h.IsTuple l its|false=>h.IsList l its
noncomputable def gd:va->yJ|true=>"tuple_iterator" |false=>"list_iterator"
noncomputable def zh1(h:vo)(b:va)(l:ue):vo:=h.push {cls:=.type (gd b),data:=.fields #[.ref l,.int 0 0]}
noncomputable def zh2(h:vo)(b c:va)(l m:ue):vo:=zh1 (zh1 h b l) c m
noncomputable def zh3(h:vo)(b c:va)(l m:ue):vo:=(zh2 h b c l m).push {cls:=.type "tuple",data:=.seq #[.ref h.objs.size,.ref (zh1 h b l).objs.size]}
noncomputable def zh4(h:vo)(b c:va)(l m:ue):vo:=(zh3 h b c l m).push {cls:=.type "tuple",data:=.seq #[.none,.none]}
noncomputable def zh5(h:vo)(b c:va)(l m:ue):vo:=(zh4 h b c l m).push {cls:=.type "zip",data:=.fields #[.none,.bool false,.bool false,.ref (zh2 h b c l m).objs.size,.ref (zh3 h b c l m).objs.size]}
def N0.push(q:N0 h b l its) o:N0 (h.push o) b l its:=by
 cases b
 .exact Heap.IsList.push q _
 .obtain⟨u,e,r⟩:=(show h.IsTuple l its from q)
  exact⟨u,uG _ e,r⟩
def Yr b c l m xs ys:Meets (zC.«zip.__new__» ⟨[.type "zip",.ref l,.ref m],[]⟩) (λ_ R s=>N0 s.heap b l xs/\N0 s.heap c m ys/\R (.ok (.ret (.ref (zh4 s.heap b c l m).objs.size))) {s with heap:=zh5 s.heap b c l m}):=
 .of_wp λprog w A R s hyp=>by
  obtain⟨hp,gs,dr,tk,os⟩:=s
  obtain⟨i1,i2,hyp⟩:=hyp
  have hsub:=sub_zip
  have i3:N0 (xj ⟨zh1 hp b l,gs,dr,tk,os⟩) c m ys:=N0.push i2 _
  cases b<;>cases c
  .have a1:ABG (xj ⟨hp,gs,dr,tk,os⟩) l xs:=i1
   have a2:ABG (xj ⟨hp.push {cls:=.type "list_iterator",data:=.fields #[.ref l,.int 0 0]},gs,dr,tk,os⟩) m ys:=i3
   wp_walk using wU a1,wU a2
   exact⟨_,rfl,hyp⟩
  .have a1:ABG (xj ⟨hp,gs,dr,tk,os⟩) l xs:=i1
   have a2:zW (xj ⟨hp.push {cls:=.type "list_iterator",data:=.fields #[.ref l,.int 0 0]},gs,dr,tk,os⟩) m ys:=i3
   wp_walk using wU a1,wM a2
   exact⟨_,rfl,hyp⟩
  .have a1:zW (xj ⟨hp,gs,dr,tk,os⟩) l xs:=i1
   have a2:ABG (xj ⟨hp.push {cls:=.type "tuple_iterator",data:=.fields #[.ref l,.int 0 0]},gs,dr,tk,os⟩) m ys:=i3
   wp_walk using wM a1,wU a2
   exact⟨_,rfl,hyp⟩
  .have a1:zW (xj ⟨hp,gs,dr,tk,os⟩) l xs:=i1
   have a2:zW (xj ⟨hp.push {cls:=.type "tuple_iterator",data:=.fields #[.ref l,.int 0 0]},gs,dr,tk,os⟩) m ys:=i3
   wp_walk using wM a1,wM a2
   exact⟨_,rfl,hyp⟩
section
variable{s:uf}
def Zz(q:N0 h b l its)(k:∀c o,h.get? c=Gc o->h'.get? c=Gc o)(e:h'.get? j=Gc {cls:=.type (gd b),data:=.fields #[.ref l,.int 0 0]}):SIt h' j l 0 its:=by
 cases b
 .exact .inl ⟨⟨_,e,rfl,rfl⟩,(show h.IsList l its from q).at λo z=>k _ o z⟩
 .exact .inr ⟨⟨_,e,rfl,rfl⟩,let⟨o,z,r⟩:=(show h.IsTuple l its from q);⟨o,k _ o z,r⟩⟩
def XR(i1:N0 s.heap b l xs)(i2:N0 s.heap c m ys)(k:∀h',zy h' (s.heap.objs.size+4) (s.heap.objs.size+2) (s.heap.objs.size+3) .none->xq h' (s.heap.objs.size+2) (.ref s.heap.objs.size) (.ref (s.heap.objs.size+1))->xq h' (s.heap.objs.size+3) .none .none->SIt h' s.heap.objs.size l 0 xs->SIt h' (s.heap.objs.size+1) m 0 ys->(∀c o,s.heap.get? c=Gc o->h'.get? c=Gc o)->Q (.ref (s.heap.objs.size+4)) {s with heap:=h'}):wpAny (model prog w) A (call (.type "zip") [.ref l,.ref m]) Q E s:=by
 refine callType_new F.called_zip (by decide) (F.typeCall_zip_2 _ _) (F.newCall_zip_2 _ _) (λobj=>F.args_object_init_3 obj _ _) F.entry_zip_new (Yr b c l m xs ys) ⟨i1,i2,?_⟩
 have z1:(zh1 s.heap b l).objs.size=s.heap.objs.size+1:=vq ..
 have z2:(zh2 s.heap b c l m).objs.size=s.heap.objs.size+2:=by unfold zh2 zh1;rw[vq];exact congrArg (· +1) z1
 have z3:(zh3 s.heap b c l m).objs.size=s.heap.objs.size+3:=by unfold zh3;rw[vq,z2]
 have z4:(zh4 s.heap b c l m).objs.size=s.heap.objs.size+4:=by unfold zh4;rw[vq,z3]
 have kp:∀d o,s.heap.get? d=Gc o->(zh5 s.heap b c l m).get? d=Gc o:=λd o e=>by
  unfold zh5 zh4 zh3 zh2 zh1
  exact uG _ (uG _ (uG _ (uG _ (uG _ e))))
 have g5:(zh5 s.heap b c l m).get? (zh4 s.heap b c l m).objs.size=Gc _:=uw _ rfl
 have g4:(zh5 s.heap b c l m).get? (zh3 s.heap b c l m).objs.size=Gc _:=uG _ (uw _ rfl)
 have g3:(zh5 s.heap b c l m).get? (zh2 s.heap b c l m).objs.size=Gc _:=uG _ (uG _ (uw _ rfl))
 have g2:(zh5 s.heap b c l m).get? (zh1 s.heap b l).objs.size=Gc _:=uG _ (uG _ (uG _ (uw _ rfl)))
 have g1:(zh5 s.heap b c l m).get? s.heap.objs.size=Gc _:=uG _ (uG _ (uG _ (uG _ (uw _ rfl))))
 show _/\_
 rw[z2,z3,z4]at g5
 rw[z1,z2]at g3
 rw[z3]at g4
 rw[z1]at g2
 rw[z4]
 exact⟨⟨_,g5,rfl⟩,k _ g5 g3 g4 (Zz i1 kp g1) (Zz i2 kp g2) kp⟩
end
end L2
end
noncomputable section
namespace L2
open PySem PySem.Spec PyProof.Rows
def SqB(K:uF)(H:Hp)(k:va)(a:ue)(xs:Wp V):Prop:=match k with|true=>SqT K H a xs|false=>SqL K H a xs
def JIt(h:vo)(k:va)(j l:ue)(i:Nat):Prop:=match k with|true=>h.IsTupleIter j l i|false=>h.IsListIter j l i
def JIt.at(q:JIt h k j l i)(e:∀o,h.get? j=Gc o->h'.get? j=Gc o):JIt h' k j l i:=by
 cases k
 .exact Heap.IsListIter.at q e
 .exact Heap.IsTupleIter.at q e
def JIt.sit(q:JIt h k j l i)(p:N0 h k l its):SIt h j l i its:=by
 cases k
 .exact .inl ⟨q,p⟩
 .exact .inr ⟨q,p⟩
def SIt.jit(q:SIt h j l i its)(p:N0 h k l its):JIt h k j l i:=by
 rcases q with⟨q,r⟩|⟨q,r⟩
 .cases k
  .exact q
  .obtain⟨o,e,c,_⟩:=r;obtain⟨o',e',c',_⟩:=(show h.IsTuple l its from p)
   rw[e]at e';cases e';rw[c]at c';injection c' with z;exact absurd z (by decide)
 .cases k
  .obtain⟨o,e,c,_⟩:=r;obtain⟨o',e',c',_⟩:=(show h.IsList l its from p)
   rw[e]at e';cases e';rw[c]at c';injection c' with z;exact absurd z (by decide)
  .exact q
def Inv.sqB{σ:St}(I:Inv X pins σ H s)(h:SqB X.K H k a xs):∃its,Vals xs its/\N0 s.heap k a its.toArray:=by
 cases k
 .obtain⟨its,h1,⟨o,n,q1,q2,_,q3⟩,h3⟩:=I.list h
  exact⟨its,h1,o,q1,q2,n,q3⟩
 .obtain⟨its,h1,h2,h3⟩:=I.tuple h
  exact⟨its,h1,h2⟩
def Inv.Rw{σ:St}(I:Inv X pins σ H s)(h:SqB X.K H k a xs)(g:SqB X.K H k a ys):xs=ys:=by
 cases k
 .exact I.TM h g
 .exact I.Qh h g
noncomputable def Itz(K:uF)(k:va)(a:ue)(m:va)(b:ue):It:=
 ⟨λi H=>∃(xs ys:Wp V) (x y:V),SqB K H k a xs/\SqB K H m b ys/\xs[i]?=Gc x/\ys[i]?=Gc y,
  λi H v H'=>∃(p:ue) (x y:V),H p=none/\v=.ref p/\(∀xs,SqB K H k a xs->xs[i]?=Gc x)/\(∀ys,SqB K H m b ys->ys[i]?=Gc y)/\H'=upd H p (.tup [x,y]),
  λi H=>∃(xs ys:Wp V),SqB K H k a xs/\SqB K H m b ys/\(xs.length<=i\/ys.length<=i)⟩
structure ZSt(h:vo)(z ti tt j1 j2:ue)(k:va)(a:ue)(m:va)(b:ue)(i:Nat):Prop where
 oz:zy h z ti tt .none
 oi:xq h ti (.ref j1) (.ref j2)
 ot:∃u v,xq h tt u v
 q1:JIt h k j1 a i
 q2:JIt h m j2 b i
structure ZNe(z ti tt j1 j2:ue):Prop where
 n1:ti≠z
 n2:tt≠z
 n3:j1≠z
 n4:j2≠z
 n5:ti≠tt
 n6:ti≠j1
 n7:ti≠j2
 n8:tt≠j1
 n9:tt≠j2
 n10:j1≠j2
def ZNe.apart(N:ZNe z ti tt j1 j2)(ha:a∉ [z,tt,j1,j2])(hb:b∉ [z,tt,j1,j2]):ZipApart z ti tt j1 j2 a b:=by
 simp only[uS,vB,vy,AAp]at ha hb
 exact⟨N.n1,N.n2,N.n3,N.n4,N.n5,N.n6,N.n7,N.n8,N.n9,N.n10,ha.1,ha.2.1,ha.2.2.1,ha.2.2.2,hb.1,hb.2.1,hb.2.2.1,hb.2.2.2⟩
def BY{σ:St}(I:Inv X pins σ H s)(q:SqB X.K H k a xs)(f:Ra X pins H c):a≠c:=by
 intro e
 subst e
 have rd:∀o,Rd H a o->wq:=λo r=>by
  rcases r with r|⟨_,r⟩<;>(rw[f.1]at r;cases r)
 have kk:∀o,X.K.lookup a=Gc o->wq:=λo hk=>by
  have b:=I.ok.mod.kin a o hk
  rcases f.2.2.2.1 with z|z
  .exact I.ok.aM a o b z
  .exact absurd (uI (uk (I.ok.bs a o b).1) z) (wO _)
 cases k
 .rcases(show SqL X.K H a xs from q)with q|⟨o,_,_,hk,_⟩
  .exact rd _ q
  .exact kk o hk
 .rcases(show SqT X.K H a xs from q)with q|⟨o,_,_,hk,_⟩
  .exact rd _ q
  .exact kk o hk
theorem YY{P:vg}{K:uF} k a m b z ti tt j1 j2(N:ZNe z ti tt j1 j2):Turn P w K (.Tuple elts n pos) (Itz K k a m b) [z,ti,tt,j1,j2] z (λi h=>ZSt h z ti tt j1 j2 k a m b i) where
 mem:=by simp
 obj:=λi h st c hc=>by
  have jl:∀{q:va} {j l:ue},JIt h q j l i->∃o,h.get? j=Gc o/\∀v,o.data≠.cell v:=λ{q j l} x=>by
   cases q
   .obtain⟨o,e,_,d⟩:=(show h.IsListIter j l i from x)
    exact⟨o,e,λv z=>by rw[d]at z;cases z⟩
   .obtain⟨o,e,_,d⟩:=(show h.IsTupleIter j l i from x)
    exact⟨o,e,λv z=>by rw[d]at z;cases z⟩
  simp only[uS,vB,vy]at hc
  rcases hc with rfl|rfl|rfl|rfl|rfl
  .exact⟨_,st.oz,λv z=>nomatch z⟩
  .exact⟨_,st.oi,λv z=>nomatch z⟩
  .obtain⟨u,v,e⟩:=st.ot
   exact⟨_,e,λv z=>nomatch z⟩
  .exact jl st.q1
  .exact jl st.q2
 keep:=λi h h' st kp=>⟨kp z (by simp) _ st.oz,kp ti (by simp) _ st.oi,let⟨u,v,e⟩:=st.ot;⟨u,v,kp tt (by simp) _ e⟩,st.q1.at λo e=>kp j1 (by simp) o e,st.q2.at λo e=>kp j2 (by simp) o e⟩
 item:=by
  intro X hP hw hK hc i pins s σ H E I hf st hg
  subst hP hw hK
  obtain⟨xs,ys,x,y,s1,s2,e1,e2⟩:=hg
  obtain⟨i1,r1,p1⟩:=I.sqB s1
  obtain⟨i2,r2,p2⟩:=I.sqB s2
  obtain⟨u1,h1,ru1⟩:=r1.get e1
  obtain⟨u2,h2,ru2⟩:=r2.get e2
  have fz:=hf z (by simp);have fi:=hf ti (by simp);have ft:=hf tt (by simp);have f1:=hf j1 (by simp);have f2:=hf j2 (by simp)
  have ap:=N.apart (a:=a) (b:=b) (by simp[BY I s1 fz,BY I s1 ft,BY I s1 f1,BY I s1 f2]) (by simp[BY I s2 fz,BY I s2 ft,BY I s2 f1,BY I s2 f2])
  obtain⟨v1,v2,ot⟩:=st.ot
  refine UY ap st.oz st.oi ot (st.q1.sit p1) (st.q2.sit p2) (x:=u1) (y:=u2) (by simpa using h1) (by simpa using h2) λh' oz ot' q1 q2 op kp=>⟨_,rfl,wpAny_letOwnedTupleGo_zip oz λg oz' sb=>?_⟩
  have lt:∀c o,s.heap.get? c=Gc o->c≠s.heap.objs.size:=λc o q=>vG (uk q)
  have nz:z≠s.heap.objs.size:=lt _ _ st.oz
  have nt:tt≠s.heap.objs.size:=lt _ _ ot
  have n1:j1≠s.heap.objs.size:=by obtain⟨o,e,_⟩:=(st.q1.sit p1).live;exact lt _ _ e
  have n2:j2≠s.heap.objs.size:=by obtain⟨o,e,_⟩:=(st.q2.sit p2).live;exact lt _ _ e
  have kp2:∀c o,c≠z->c≠tt->c≠j1->c≠j2->s.heap.get? c=Gc o->g.get? c=Gc o:=λc o c1 c2 c3 c4 q=>(sb.2 c c1).trans (kp c o c1 c2 c3 c4 q)
  have fr:H s.heap.objs.size=none:=I.hok.fresh (uP _)
  have op2:g.get? s.heap.objs.size=Gc {cls:=.type "tuple",data:=.seq #[u1,u2]}:=(sb.2 _ (vj nz)).trans op
  have ne:∀c u,c∈ [z,ti,tt,j1,j2]->∀d,H d=Gc u->d≠c:=λc u hc d q e=>by rw[e,(hf c hc).1]at q;cases q
  have kpH:∀c u,H c=Gc u->∀o,s.heap.get? c=Gc o->g.get? c=Gc o:=λc u q o e=>kp2 c o (ne z u (by simp) c q) (ne tt u (by simp) c q) (ne j1 u (by simp) c q) (ne j2 u (by simp) c q) e
  have ka:∀o,s.heap.get? a=Gc o->g.get? a=Gc o:=λo e=>kp2 a o (BY I s1 fz) (BY I s1 ft) (BY I s1 f1) (BY I s1 f2) e
  have kb:∀o,s.heap.get? b=Gc o->g.get? b=Gc o:=λo e=>kp2 b o (BY I s2 fz) (BY I s2 ft) (BY I s2 f1) (BY I s2 f2) e
  have sq:∀{q:va} {d:ue} {is:zE uT},N0 s.heap q d is->(∀o,s.heap.get? d=Gc o->h'.get? d=Gc o)->N0 h' q d is:=λ{q d is} x kd=>by
   cases q
   .exact(show s.heap.IsList d is from x).at kd
   .obtain⟨o,e,r⟩:=(show s.heap.IsTuple d is from x)
    exact⟨o,kd o e,r⟩
  have ka1:∀o,s.heap.get? a=Gc o->h'.get? a=Gc o:=λo e=>kp a o (BY I s1 fz) (BY I s1 ft) (BY I s1 f1) (BY I s1 f2) e
  have kb1:∀o,s.heap.get? b=Gc o->h'.get? b=Gc o:=λo e=>kp b o (BY I s2 fz) (BY I s2 ft) (BY I s2 f1) (BY I s2 f2) e
  refine⟨.ref s.heap.objs.size,upd H s.heap.objs.size (.tup [x,y]),?_,rfl,⟨_,x,y,fr,rfl,λzs hz=>by rw[I.Rw hz s1];exact e1,λzs hz=>by rw[I.Rw hz s2];exact e2,rfl⟩,⟨oz',(sb.2 _ N.n1).trans (kp ti _ N.n1 N.n5 N.n6 N.n7 st.oi),⟨_,_,(sb.2 _ N.n2).trans ot'⟩,(q1.jit (sq p1 ka1)).at λo e=>(sb.2 _ N.n3).trans e,(q2.jit (sq p2 kb1)).at λo e=>(sb.2 _ N.n4).trans e⟩,?_⟩
  .show Inv X pins σ _ {s with heap:=g,gens:=s.gens,drawn:=s.drawn,toks:=s.toks}
   refine I.step (g':=s.gens) (d':=s.drawn) (ch:=[z,tt,j1,j2]) ?_ ?_ ?_ ?_ ?_ ?_ ?_ ?_ ?_ ?_ I.bare
   .intro c hc
    have q:Ra X pins H c:=hf c (by simp only[uS,vB,vy]at hc ⊢; rcases hc with z|z|z|z<;>simp[z])
    exact⟨q.2.2.2.1,q.2.1,q.2.2.2.2.1,q.2.2.2.2.2⟩
   .exact λc o _ _ hc q _=>by
     simp only[uS,vB,vy,AAp]at hc
     exact kp2 c o hc.1 hc.2.1 hc.2.2.1 hc.2.2.2 q
   .exact λc o _ _ hc q _=>by
     simp only[uS,vB,vy,AAp]at hc
     exact⟨o.slots,kp2 c o hc.1 hc.2.1 hc.2.2.1 hc.2.2.2 q⟩
   .exact λc o _ q n=>by rw[BC (lt c o q)];exact n
   .exact λc o hc q=>by
     simp only[uS,vB,vy,AAp]at hc
     exact⟨o,kp2 c o hc.1 hc.2.1 hc.2.2.1 hc.2.2.2 q⟩
   .exact λc ys q=>by rw[BC (BQ q fr)];exact q
   .exact λc o u q=>by rw[BC (BQ q fr)];exact q
   .exact λc ps q=>⟨#[],by rw[BC (BQ q fr),q];simp⟩
   .rintro mm ⟨o,es,ep,ho,r⟩
    exact⟨o,es,ep,kp2 _ o (vj fz.2.1) (vj ft.2.1) (vj f1.2.1) (vj f2.2.1) ho,r⟩
   .intro c v q
    by_cases hb:c=s.heap.objs.size
    .subst hb
     rw[B7]at q
     cases q
     exact⟨by show 2<=sizeLine;decide,[u1,u2],.cons ru1 (.cons ru2 .nil),⟨_,op2,rfl,0,rfl⟩⟩
    .rw[BC hb]at q
     refine(I.hok c v q).Xl (λd o hd r=>?_) (λd r=>by rw[BC (BQ r fr)];exact r) (λd ys r=>by rw[BC (BQ r fr)];exact r)
     rcases hd with e|e
     .rw[e]at r ⊢; exact kpH c v q o r
     .exact kpH d _ e o r
  .intro c hc
   have q:=hf c hc
   have:c≠s.heap.objs.size:=by
    simp only[uS,vB,vy]at hc
    rcases hc with e|e|e|e|e
    .rw[e];exact nz
    .rw[e];exact lt _ _ st.oi
    .rw[e];exact nt
    .rw[e];exact n1
    .rw[e];exact n2
   rw[BC this];exact q.1
 done:=by
  intro X hP hw hK hc i pins s σ H E I hf st hg
  subst hP hw hK
  obtain⟨xs,ys,s1,s2,e⟩:=hg
  obtain⟨i1,r1,p1⟩:=I.sqB s1
  obtain⟨i2,r2,p2⟩:=I.sqB s2
  have l1:=r1.length
  have l2:=r2.length
  have hh:X.A.in1.handled=none:=I.ok.hd hc
  have hh0:X.A.handled=none:=I.ok.hd hc
  have fz:=hf z (by simp);have fi:=hf ti (by simp);have ft:=hf tt (by simp);have f1:=hf j1 (by simp);have f2:=hf j2 (by simp)
  have ap:=N.apart (a:=a) (b:=b) (by simp[BY I s1 fz,BY I s1 ft,BY I s1 f1,BY I s1 f2]) (by simp[BY I s2 fz,BY I s2 ft,BY I s2 f1,BY I s2 f2])
  obtain⟨v1,v2,ot⟩:=st.ot
  refine VW hh0 ap st.oz st.oi ot (st.q1.sit p1) (st.q2.sit p2) (by rcases e with e|e;exact .inl (by simp;lia);exact .inr (by simp;lia)) λh' kp=>⟨rfl,?_⟩
  have ne:∀c u,c∈ [z,ti,tt,j1,j2]->∀d,H d=Gc u->d≠c:=λc u hc d q e=>by rw[e,(hf c hc).1]at q;cases q
  show Inv X pins σ _ {s with heap:=h',gens:=s.gens,drawn:=s.drawn,toks:=s.toks}
  refine I.step (g':=s.gens) (d':=s.drawn) (ch:=[z,tt,j1,j2]) ?_ ?_ ?_ ?_ ?_ ?_ ?_ ?_ ?_ ?_ I.bare
  .intro c hc
   have q:Ra X pins H c:=hf c (by simp only[uS,vB,vy]at hc ⊢; rcases hc with z|z|z|z<;>simp[z])
   exact⟨q.2.2.2.1,q.2.1,q.2.2.2.2.1,q.2.2.2.2.2⟩
  .exact λc o _ _ hc q _=>by
    simp only[uS,vB,vy,AAp]at hc
    exact kp c o hc.1 hc.2.1 hc.2.2.1 hc.2.2.2 q
  .exact λc o _ _ hc q _=>by
    simp only[uS,vB,vy,AAp]at hc
    exact⟨o.slots,kp c o hc.1 hc.2.1 hc.2.2.1 hc.2.2.2 q⟩
  .exact λc o _ q n=>n
  .exact λc o hc q=>by
    simp only[uS,vB,vy,AAp]at hc
    exact⟨o,kp c o hc.1 hc.2.1 hc.2.2.1 hc.2.2.2 q⟩
  .exact λc ys q=>q
  .exact λc o u q=>q
  .exact λc ps q=>⟨#[],by rw[q];simp⟩
  .rintro mm ⟨o,es,ep,ho,r⟩
   exact⟨o,es,ep,kp _ o (vj fz.2.1) (vj ft.2.1) (vj f1.2.1) (vj f2.2.1) ho,r⟩
  .intro c v q
   refine(I.hok c v q).Xl (λd o hd r=>?_) (λd r=>r) (λd ys r=>r)
   rcases hd with e|e
   .rw[e]at r ⊢; exact kp c o (ne z v (by simp) c q) (ne tt v (by simp) c q) (ne j1 v (by simp) c q) (ne j2 v (by simp) c q) r
   .exact kp d o (ne z _ (by simp) d e) (ne tt _ (by simp) d e) (ne j1 _ (by simp) d e) (ne j2 _ (by simp) d e) r
 self:=λ_ _ _ _ _ st h=>wpAny_pyIter_zip st.oz h
end L2
end
noncomputable section
namespace L2
open PySem PySem.Spec PyProof.Rows
def zne(n:Nat):ZNe (n+4) (n+2) (n+3) n (n+1):=⟨λe=>by have:n+2=n+4:=e;lia,λe=>by have:n+3=n+4:=e;lia,λe=>by have:n=n+4:=e;lia,λe=>by have:n+1=n+4:=e;lia,λe=>by have:n+2=n+3:=e;lia,λe=>by have:n+2=n:=e;lia,λe=>by have:n+2=n+1:=e;lia,λe=>by have:n+3=n:=e;lia,λe=>by have:n+3=n+1:=e;lia,λe=>by have:n=n+1:=e;lia⟩
noncomputable def qr(K:uF)(ta:TA):TI:=λσ H R=>ta σ H λvs H1=>∃k a m b,vs=[.ref a,.ref b]/\(∃xs,SqB K H1 k a xs)/\(∃ys,SqB K H1 m b ys)/\R (Itz K k a m b) H1
def iR{p pos tp:Pos}{elts:Wp vw}{n:Nat}(hg:Gl X "zip")(hm:X.mg "zip"=none)(ha:PA X [a,b] ta)(hs:x0 (um [a,b] X.env=[(false,eval a X.env),(false,eval b X.env)]) wv)(hs2:x0 (um [b] X.env=[(false,eval b X.env)]) wv):PI X (.Tuple elts n tp) (.Call (.Name "zip" p) [a,b] [] pos) (qr X.K ta):=by
 intro pins s σ H R I h
 refine Call_ (JO I hg hm boot_zip (vx (thn (ha pos pins s σ H _ I h) λus s1 ⟨vs,H1,I1,r1,q1⟩=>?_) (by rw[hs,hs2]) (by rw[hs2];rfl)))
 obtain⟨k,a',m,b',e,⟨xs,hq⟩,⟨ys,hr⟩,q⟩:=q1
 subst e
 obtain⟨u,v,rfl,ru,rv⟩:=r1.two
 cases (show u=vT a' from ru)
 cases (show v=vT b' from rv)
 obtain⟨i1,v1,p1⟩:=I1.sqB hq
 obtain⟨i2,v2,p2⟩:=I1.sqB hr
 refine XR p1 p2 λh' oz oi ot q1 q2 kp=>wpAny_pyIter_zip (s:={s1 with heap:=h'}) oz ?_
 have sq:∀{q:va} {d:ue} {is:zE uT},N0 s1.heap q d is->N0 h' q d is:=λ{q d is} x=>by
  cases q
  .exact(show s1.heap.IsList d is from x).at λo e=>kp _ o e
  .obtain⟨o,e,r⟩:=(show s1.heap.IsTuple d is from x)
   exact⟨o,kp _ o e,r⟩
 refine⟨s1.heap.objs.size+4,[s1.heap.objs.size+4,s1.heap.objs.size+2,s1.heap.objs.size+3,s1.heap.objs.size,s1.heap.objs.size+1],_,_,H1,rfl,I1.kept (t':=s1.toks) kp,
  YY k a' m b' _ _ _ _ _ (zne s1.heap.objs.size),⟨oz,oi,⟨_,_,ot⟩,q1.jit (sq p1),q2.jit (sq p2)⟩,λc hc=>?_,q⟩
 simp only[uS,vB,vy]at hc
 have:s1.heap.objs.size<=c:=by rcases hc with rfl|rfl|rfl|rfl|rfl<;>first|exact uP _|exact Nat.le_add_right _ _
 exact I1.dw this (I1.hok.fresh this)
end L2
end
noncomputable section
namespace L2
open PySem PySem.Spec PyProof.Rows
def IsList.SS{h h':vo}(p:h.IsList a items)(k:∀o,h.get? a=Gc o->h'.get? a=Gc o):h'.IsList a items:=by
 obtain⟨o,ho,r⟩:=p
 exact⟨o,k o ho,r⟩
theorem QH(hne:t≠it):∀n i s Q,s.heap.IsListIter it t i->s.heap.IsList t items->i+n<=items.size->(∀h',h'.IsListIter it t (i+n)->zS it s.heap h'->Q ((items.toList.drop i).take n) {s with heap:=h'})->wpAny (model prog w) A (draw (.ref it) n) Q E s
 |0,i,s,Q,hit,_,_,hQ=>by
  show wpAny _ _ (pure []) Q E s
  exact uq (by simpa using hQ s.heap hit (Heap.SameBut.refl ..))
 |n+1,i,s,Q,hit,ht,hle,hQ=>by
  have hlt:i<items.size:=by lia
  show wpAny _ _ (pyNext (.ref it) >>= _) Q E s
  refine uJ (ym hit ht (x:=items[i]) (by simp[hlt]) λh1 hit1 hs1=>?_)
  refine uJ (wj (QH hne n (i+1) _ _ hit1 (IsList.SS ht λo e=>hs1.extBut t o hne e) (by lia) λh2 hit2 hs2=>uq ?_))
  have hd:items.toList.drop i=items[i]::items.toList.drop (i+1):=by simp[vK,hlt]
  have:=hQ h2 (by rw[show i+(n+1)=i+1+n by lia];exact hit2) (hs1.trans hs2)
  rw[hd,List.take_succ_cons]at this
  exact this
def MA(hh:A.handled=none)(ht:s.heap.IsList t items)(hty:s.TypeIs (.ref t) "list")(hQ:∀h',AAH s.heap.objs.size s.heap h'->Q items.toList {s with heap:=h'}):wpAny (model prog w) A (unpackItems (.ref t) items.size none) Q E s:=by
 have hlt:t≠s.heap.objs.size:=by obtain⟨o,ho,_⟩:=ht;exact vG (uk ho)
 unfold unpackItems
 refine uJ ?_
 .unfold notIterableAtAll
  refine uJ (wpAny_specialOf hty F.slot_list_iter.lookup ?_)
  refine uq ?_
  simp only[ABh,AAd]
  refine uJ (wj (wU ht ?_))
  refine uJ (wj (QH hlt items.size 0 _ _ ⟨_,uw _ rfl,rfl,rfl⟩ (IsList.SS ht λo e=>uG _ e) (by lia) λh1 hit1 hs1=>?_))
  have hall:List.take items.size (List.drop 0 items.toList)=items.toList:=by
   rw[List.drop_zero];exact yA (by simp)
  rw[hall]
  rw[vL (by simp)]
  have ht1:h1.IsList t items:=IsList.SS (IsList.SS ht λo e=>uG _ e) λo e=>hs1.extBut t o hlt e
  refine uJ (wj (yy hh hit1 ht1 (by simp) λh2 he2=>?_))
  simp only[Option.isSome_none,ABh,AAd]
  refine uq (hQ h2 λb o hb e=>he2 b o hb (hs1.extBut b o hb (uG _ e)))
def Kz{x1}(hh:A.handled=none)(ht:s.heap.IsList t items)(hty:s.TypeIs (.ref t) "list")(hn:(assignEach elts env).length=items.size)(hstar:(assignEach elts env).findIdx? (·.1)=none)(h:∀h',AAH s.heap.objs.size s.heap h'->wpAny (model prog w) A (assignInOrder ((assignEach elts env).map (·.2)) items.toList) Q E {s with heap:=h'}):wpAny (model prog w) A (assign (.Tuple elts x1 pos) env (.ref t)) Q E s:=by
 rw[PyProof.Rows.assign_Tuple]
 refine uJ (ya ?_)
 unfold unpack
 rw[hn,hstar]
 exact uJ (wj (MA hh ht hty h))
section
variable{X:Cx}{pos:Pos}
noncomputable def tH(K:uF)(n:Nat)(t:TGs):TG:=λv σ H Q=>∃a xs,v=.ref a/\(SqT K H a xs\/H a=Gc (.lst xs))/\xs.length=n/\t xs σ H Q
def jf{k:Nat}(hc:X.calm=true)(h:PGs X es t)(hn:x0 ((assignEach es X.env).length=n) wv)(hst:x0 ((assignEach es X.env).findIdx? (·.1)=none) wv):PG X (.Tuple es k pos) (tH X.K n t):=by
 intro pins s σ H v u Q I r hw
 obtain⟨a,xs,e1,hq,hl,hw⟩:=hw
 rcases hq with hq|hq
 .exact fc hc h hn hst pins s σ H v u Q I r ⟨a,xs,e1,hq,hl,hw⟩
 .subst e1
  cases r
  obtain⟨its,rv,p,hz⟩:=I.list (SqL.of hq)
  obtain⟨z,its2,m,rv2,_,e⟩:=I.ZO hq
  refine Kz (I.ok.hd hc) p.isList ⟨_,e,rfl⟩ (by simp[hn,<-hl,rv.length]) hst λh' hx=>?_
  have I1:Inv X pins σ H {s with heap:=h'}:=I.kept (t':=s.toks) λb o e=>hx b o (vG (uk e)) e
  exact h pins _ σ H xs _ Q I1 (by simpa using rv) hw
end
end L2
end
noncomputable section
namespace L2
open PySem PySem.Spec PyProof.Rows
def JIt.live(q:JIt h k j l i):∃o,h.get? j=Gc o/\∀v,o.data≠.cell v:=by
 cases k with
 |true=>obtain⟨o,e,c,d⟩:=q;exact⟨o,e,λv z=>by rw[d]at z;cases z⟩
 |false=>obtain⟨o,e,c,d⟩:=q;exact⟨o,e,λv z=>by rw[d]at z;cases z⟩
def N0.mono(q:N0 h k l its)(e:∀o,h.get? l=Gc o->h'.get? l=Gc o):N0 h' k l its:=by
 cases k with
 |true=>obtain⟨o,ho,r⟩:=q;exact⟨o,e o ho,r⟩
 |false=>obtain⟨o,ho,r⟩:=q;exact⟨o,e o ho,r⟩
theorem Vq(hh:A.handled=none) it t(hne:t≠it) items:Draws prog w A it [it,t] items.size (λi v=>items[i]?=Gc v) (λi h=>SIt h it t i items) where
 live:=λ_ _ st=>let⟨o,ho,_⟩:=st.live;⟨o,ho⟩
 frame:=λ_ _ _ st hk=>st.at (λo e=>hk it (by simp) o e) λo e=>hk t (by simp) o e
 item:=λi s Q E hi st hQ=>MM st (x:=items[i]) (by simp[hi]) λh' a b=>hQ _ h' s.toks (by simp[hi]) a b
 done:=λs Q E st hE=>MP hh st (by simp) hE
noncomputable def ItE(K:uF)(kk:va)(a:ue):It:=
 ⟨λi H=>∃xs x,SqB K H kk a xs/\xs[i]?=Gc x,λi H x H'=>∃p y,H p=none/\x=.ref p/\(∀xs,SqB K H kk a xs->xs[i]?=Gc y)/\H'=upd H p (.tup [.int i,y]),λi H=>∃xs,SqB K H kk a xs/\xs.length<=i⟩
theorem Ug{P:vg}{K:uF} kk a e it(hei:e≠it):Turn P w K (.Tuple elts k pos) (ItE K kk a) [e,it] e (λi h=>(∃old,IsEnum h e it i old)/\JIt h kk it a i) where
 mem:=by simp
 obj:=λi h st b hb=>by
  obtain⟨⟨old,h1⟩,st2⟩:=st
  obtain⟨o,h2,h4⟩:=st2.live
  simp only[uS,vB,vy]at hb
  rcases hb with rfl|rfl
  .exact⟨_,h1,λv z=>nomatch z⟩
  .exact⟨o,h2,h4⟩
 keep:=λi h h' st k=>by
  obtain⟨⟨old,h1⟩,h2⟩:=st
  exact⟨⟨old,k e (by simp) _ h1⟩,h2.at λo q=>k it (by simp) o q⟩
 item:=by
  intro X hP hw hK hc i pins s σ H E I hf st hg
  subst hP hw hK
  obtain⟨xs,x,hq,hx⟩:=hg
  obtain⟨its,rv,p⟩:=I.sqB hq
  obtain⟨u,hu,ru⟩:=rv.get hx
  obtain⟨⟨old,h1⟩,h2⟩:=st
  obtain⟨oi,hi1,hi2⟩:=h2.live
  have hea:a≠e:=BY I hq (hf e (by simp))
  have hia:a≠it:=BY I hq (hf it (by simp))
  have hil:i<its.toArray.size:=by
   have:=(uU.mp hu).1
   simpa using this
  have hh:X.A.in1.handled=none:=I.ok.hd hc
  have D:=Vq (prog:=X.prog) (w:=X.w) hh it a hia its.toArray
  refine wpAny_pyNext_enum_itemD D h1 (h2.sit p) hil hei (by simp[hei,vj hea]) ?_
  intro y h' tk hy out st' tup size kept
  have ey:y=u:=by
   have:its[i]?=Gc y:=by simpa using hy
   rw[hu]at this
   exact(wK this).symm
  subst ey
  refine⟨_,rfl,wpAny_letOwnedTupleGo_enum out λh'' en sb=>?_⟩
  have hfe:=hf e (by simp)
  have hfi:=hf it (by simp)
  have lt:∀b o,s.heap.get? b=Gc o->b≠s.heap.objs.size:=λb o q=>vG (uk q)
  have kept2:∀b o,b≠e->b≠it->s.heap.get? b=Gc o->h''.get? b=Gc o:=λb o b1 b2 q=>(sb.2 b b1).trans (kept b o b1 b2 q)
  have fr:H s.heap.objs.size=none:=I.hok.fresh (uP _)
  have tup2:h''.get? s.heap.objs.size=Gc {cls:=.type "tuple",data:=.seq #[.int i tk,y]}:=(sb.2 _ (vj (lt e _ h1))).trans tup
  have ne1:∀b u,H b=Gc u->b≠e:=λb u q z=>by rw[z,hfe.1]at q;cases q
  have ne2:∀b u,H b=Gc u->b≠it:=λb u q z=>by rw[z,hfi.1]at q;cases q
  refine⟨.ref s.heap.objs.size,upd H s.heap.objs.size (.tup [.int i,x]),?_,rfl,⟨_,x,fr,rfl,λys hys=>by rw[I.Rw hys hq];exact hx,rfl⟩,⟨⟨y,en⟩,?_⟩,?_⟩
  .show Inv X pins σ _ {s with heap:=h'',gens:=s.gens,drawn:=s.drawn,toks:=tk+1}
   refine I.step (g':=s.gens) (d':=s.drawn) (ch:=[e,it]) ?_ ?_ ?_ ?_ ?_ ?_ ?_ ?_ ?_ ?_ I.bare
   .intro b hb
    simp only[uS,vB,vy]at hb
    rcases hb with rfl|rfl
    .exact⟨hfe.2.2.2.1,hfe.2.1,hfe.2.2.2.2.1,hfe.2.2.2.2.2⟩
    .exact⟨hfi.2.2.2.1,hfi.2.1,hfi.2.2.2.2.1,hfi.2.2.2.2.2⟩
   .exact λb o _ _ hc q _=>kept2 b o (λz=>hc (by simp[z])) (λz=>hc (by simp[z])) q
   .exact λb o _ _ hc q _=>⟨o.slots,kept2 b o (λz=>hc (by simp[z])) (λz=>hc (by simp[z])) q⟩
   .exact λb o _ q n=>by rw[BC (lt b o q)];exact n
   .exact λb o hc q=>⟨o,kept2 b o (λz=>hc (by simp[z])) (λz=>hc (by simp[z])) q⟩
   .exact λb ys q=>by rw[BC (BQ q fr)];exact q
   .exact λb o u q=>by rw[BC (BQ q fr)];exact q
   .exact λb ps q=>⟨#[],by rw[BC (BQ q fr),q];simp⟩
   .rintro m ⟨o,es,ep,ho,r⟩
    exact⟨o,es,ep,kept2 _ o (vj hfe.2.1) (vj hfi.2.1) ho,r⟩
   .intro b v q
    by_cases hb:b=s.heap.objs.size
    .subst hb
     rw[B7]at q
     cases q
     exact⟨by show 2<=sizeLine;decide,[.int i tk,y],.cons ⟨tk,rfl⟩ (.cons ru .nil),⟨_,tup2,rfl,0,rfl⟩⟩
    .rw[BC hb]at q
     refine(I.hok b v q).Xl (λc z hc r=>kept2 c z ?_ ?_ r) (λc r=>by rw[BC (BQ r fr)];exact r) (λc ys r=>by rw[BC (BQ r fr)];exact r)
     .rcases hc with z|z
      .rw[z];exact ne1 b v q
      .exact ne1 c _ z
     .rcases hc with z|z
      .rw[z];exact ne2 b v q
      .exact ne2 c _ z
  .have pa:N0 h'' kk a its.toArray:=p.mono λo q=>kept2 a o hea hia q
   exact(st'.at (λo q=>(sb.2 it (vj hei)).trans q) λo q=>(sb.2 a hea).trans q).jit pa
  .intro b hb
   simp only[uS,vB,vy]at hb
   rcases hb with rfl|rfl
   .rw[BC (lt b _ h1)];exact hfe.1
   .rw[BC (lt b _ hi1)];exact hfi.1
 done:=by
  intro X hP hw hK hc i pins s σ H E I hf st hg
  subst hP hw hK
  obtain⟨xs,hq,hx⟩:=hg
  obtain⟨its,rv,p⟩:=I.sqB hq
  obtain⟨⟨old,h1⟩,h2⟩:=st
  have hl:=rv.length
  have hh:X.A.in1.handled=none:=I.ok.hd hc
  obtain⟨f0,f1,f2,f3,f4,f5⟩:=hf it (by simp)
  have D:Draws X.prog X.w X.A.in1 it [it,a] i (λ_ _=>ze) (λj h=>j=i/\SIt h it a i its.toArray):=
   {live:=λ_ _ st=>let⟨o,ho,_⟩:=st.2.live;⟨o,ho⟩
    frame:=λ_ _ _ st hk=>⟨st.1,st.2.at (λo e=>hk it (by simp) o e) λo e=>hk a (by simp) o e⟩
    item:=λj s Q E hj st _=>absurd st.1 (vG hj)
    done:=λs Q E st hE=>MP hh st.2 (by simp;lia) hE}
  exact wpAny_pyNext_enum_endD D h1 ⟨rfl,h2.sit p⟩ λh' eb=>⟨rfl,I.turned (t':=s.toks) (λb o hb q=>eb b o hb q) f0 f1 f3 f4 f5⟩
 self:=λ_ _ _ _ _ st h=>by
  obtain⟨⟨old,h1⟩,_⟩:=st
  exact wpAny_pyIter_enum h1 h
noncomputable def iY(K:uF)(ta:TA):TI:=λσ H R=>ta σ H λvs H1=>∃kk a,vs=[.ref a]/\(∃xs,SqB K H1 kk a xs)/\R (ItE K kk a) H1
def Ys(hg:Gl X "enumerate")(hm:X.mg "enumerate"=none)(ha:PA X [a] ta)(hs:x0 (um [a] X.env=[(false,eval a X.env)]) wv):PI X (.Tuple elts k tp) (.Call (.Name "enumerate" p) [a] [] pos) (iY X.K ta):=by
 intro pins s σ H R I h
 refine Call_ (JO I hg hm boot_enumerate (callWith_type1 (thn (ha pos pins s σ H _ I h) λus s1 z=>?_) hs rfl))
 obtain⟨vs,H1,I1,r1,q1⟩:=z
 obtain⟨kk,b,e,⟨xs,hq⟩,q⟩:=q1
 subst e
 obtain⟨u,rfl,ru⟩:=r1.one
 cases (show u=vT b from ru)
 obtain⟨its,rv,pt⟩:=I1.sqB hq
 have fin:∀h':vo,IsEnum h' (s1.heap.objs.size+1) s1.heap.objs.size 0 .none->JIt h' kk s1.heap.objs.size b 0->(∀b o,s1.heap.get? b=Gc o->h'.get? b=Gc o)->wpAny (model X.prog X.w) X.A (pyIter (.ref (s1.heap.objs.size+1))) (PIE X pins σ (.Tuple elts k tp) R) X.xe {s1 with heap:=h'}:=λh' en it kp=>by
  refine wpAny_pyIter_enum (s:={s1 with heap:=h'}) en ?_
  refine⟨s1.heap.objs.size+1,[s1.heap.objs.size+1,s1.heap.objs.size],_,_,H1,rfl,I1.kept (t':=s1.toks) kp,Ug kk b (s1.heap.objs.size+1) s1.heap.objs.size (Nat.succ_ne_self _),⟨⟨_,en⟩,it⟩,λc hc=>?_,q⟩
  simp only[uS,vB,vy]at hc
  rcases hc with rfl|rfl
  .exact I1.dw (by lia) (I1.hok.fresh (by lia))
  .exact I1.dw (uP _) (I1.hok.fresh (uP _))
 cases kk with
 |true=>exact Ud (show s1.heap.IsTuple b its.toArray from pt) λh' en it kp=>fin h' en it kp
 |false=>exact call_enumerate_list (show s1.heap.IsList b its.toArray from pt) λh' en it _ kp=>fin h' en it kp
end L2
end
noncomputable section
namespace St
open PySem PySem.Spec L2 PyProof.Rows
inductive Kd where
 |non|bl|int|str|tup|lst|dct
 deriving DecidableEq
noncomputable def Kd.ty:Kd->yJ
 | .non=>"NoneType" | .bl=>"bool" | .int=>"int" | .str=>"str" | .tup=>"tuple" | .lst=>"list" | .dct=>"dict"
noncomputable def Kd.isA:Kd->yJ->va
 | .bl,"bool"=>true| .bl,"int"=>true| .int,"int"=>true| .str,"str"=>true| .tup,"tuple"=>true| .lst,"list"=>true| .dct,"dict"=>true
 |_,_=>false
section
variable{K:uF}
def cR(k:Kd):xK K (.type k.ty) (.type "int")=Gc (k.isA "int"):=by
 cases k<;>first|rfl|(unfold xK;rfl)
def X9(k:Kd):xK K (.type k.ty) (.type "bool")=Gc (k.isA "bool"):=by
 cases k<;>rfl
def kit_tuple(k:Kd):xK K (.type k.ty) (.type "tuple")=Gc (k.isA "tuple"):=by
 cases k<;>rfl
def ao(k:Kd):xK K (.type k.ty) (.type "str")=Gc (k.isA "str"):=by
 cases k<;>rfl
end
structure Dfn(P:vg)(w:v9)(K:uF)(mg:Str->uM uT)(base:vo)(x:Str)(k:Nat)(ps:Wp Str)(sp:Sp):Prop where
 ex:∃f fd,mg x=Gc (.ref f)/\wG K (.ref f)=true/\Binds K fd ps []/\Mq P w K mg base CX0 k f fd ps sp
structure Src(K:uF)(mg:Str->uM uT)(x:Str)(st:vE):Prop where
 ex:∃f fd,Fun K x x st f fd/\mg x=Gc (.ref f)
def oj{X:Cx}{k:Nat}{x:Str}{ps:Wp Str}{p pos:Pos}(d:Dfn X.prog X.w X.K X.mg X.base x k ps sp)(hr:Kn k X.A)(hg:Gl X x)(ha:PA X (e::es) t)(hdb:x0 ((x==("__debug__":Str))=false) xL)(he:x0 (um (e::es) X.env=(false,eval e X.env)::um es X.env) wv)(hpl:x0 ((backTo pos (um es X.env)).any (·.1)=false) wv):PE X (.Call (.Name x p) (e::es) [] pos) (di sp [] E0 t):=by
 obtain⟨f,fd,a,b,c,F⟩:=d.ex
 exact bS F hr hg a b c .nil ig ha hdb he hpl
def bO(h:n<2^8000):n.log2<9000:=by
 by_cases h0:n=0
 .subst h0;decide
 .exact wm ((Nat.log2_lt h0).mpr h) (by decide)
def Xd:OpR X (binaryOp .FloorDiv) (rI (λ_ j=>0<j/\j.natAbs<2^8000) λi j=>.int (i / j)):=opI λi j _ _ _ _ _ hc q=>by
 have h1:(0:Int)<j:=hc.1
 exact floordiv_int (by lia) (by rw[Int.fdiv_eq_ediv_of_nonneg i (by lia)];exact q) (.inl (PyProof.noPylong_of_log2 (bO hc.2)))
theorem OL(hh:A.handled=none)(hne:a≠it){vs:Wp uT}:Walks prog w A it [it,a] [it] vs.length (λi v=>vs[i]?=Gc v) (λi h=>h.IsListIter it a i/\h.IsList a vs.toArray) where
 sub:=λb hb=>by simp at hb;simp[hb]
 frame:=λi h h' st k=>⟨st.1.at λo e=>k it (by simp) o e,by
  obtain⟨o,ho,r⟩:=st.2
  exact⟨o,k a (by simp) o ho,r⟩⟩
 item:=λi s Q E hi st hQ=>by
  refine ym st.1 st.2 (x:=vs[i]) (by simp[hi]) λh' st' sb=>?_
  refine hQ _ h' s.toks (by simp[hi]) ⟨st',?_⟩ λb o hb e=>(sb.2 b (by simpa using hb)).trans e
  obtain⟨o,ho,r⟩:=st.2
  exact⟨o,(sb.2 a hne).trans ho,r⟩
 done:=λs Q E st hQ=>yy hh st.1 st.2 (by simp) λh' eb=>hQ h' s.toks λb o hb e=>eb b o (by simpa using hb) e
 self:=λi s Q E st hQ=>AA8 st.1 hQ
def U0(hc:X.calm=true):EW X (.builtin "all") (λxs H Q=>∃(p:ue) (bs:Wp va),xs=[.ref p]/\SqL X.K H p (bs.map V.bl)/\Q (.bl (bs.all id)) H):=by
 intro pins s σ H xs us Q I r h
 obtain⟨p,bs,rfl,hp,q⟩:=h
 obtain⟨u,rfl,ru⟩:=r.one
 cases (show u=vT p from ru)
 obtain⟨its,rv,pl,hz⟩:=I.list hp
 have hd:X.A.in1.handled=none:=I.ok.hd hc
 refine call_all_walk (wU pl.isList ?_)
 have hlen:bs.length=its.length:=by have:=rv.length;simpa using this
 have hpl:=pl.isList
 have hne:p≠s.heap.objs.size:=by
  obtain⟨o,ho,_⟩:=hpl
  exact vG (uk ho)
 refine⟨s.heap.objs.size,_,_,its.length,_,_,λi=>bs.getD i true,rfl,OL (vs:=its) hd hne,⟨⟨_,uw _ rfl,rfl,rfl⟩,?_⟩,?_,?_⟩
 .obtain⟨o,ho,r⟩:=hpl
  exact⟨o,uG _ ho,r⟩
 .intro i v s' Q' E' hv hq
  have hi:i<its.length:=(uU.mp hv).1
  have hb:(bs.map V.bl)[i]?=Gc (.bl (bs.getD i true)):=by
   rw[uR,uN (by lia)]
   simp[uY,uN (show i<bs.length by lia)]
  obtain⟨u,hu,ru⟩:=rv.get hb
  rw[hv]at hu
  cases hu
  cases (show v=AAi _ from ru)
  exact wu hq
 .intro h' tk hk
  have e:(W1 its.length).all (λi=>bs.getD i true)=bs.all id:=by
   rw[<-hlen]
   clear q hp rv hlen
   have:∀(l:Wp va),(W1 l.length).all (λi=>l.getD i true)=l.all id:=by
    intro l
    induction l with
    |nil=>rfl
    |cons b l ih=>
     rw[vY,List.range_succ_eq_map,yc,List.all_map,yc,<-ih]
     rfl
   exact this bs
  rw[e]
  exact⟨.bl _,H,I.kept (t':=tk) λb o eb=>hk b o (by simp;exact vG (uk eb)) (uG _ eb),rfl,q⟩
def Yl{ns:Wp Int}(h:j<ns.length):(ns.take (j+1)).sum=(ns.take j).sum+ns.getD j 0:=by
 have e:ns.getD j 0=ns[j]:=by simp[uY,uN h]
 rw[yQ,uN h,xg,e]
 show _+(ns[j]+0)=_
 lia
theorem Mm{ns:Wp Int}:∀{j},j<=ns.length->preSum (λi=>ns.getD i 0) j=(ns.take j).sum
 |0,_=>by simp[preSum]
 |j+1,h=>by
  rw[preSum,Mm (by lia),Yl (by lia)]
def TZ{ns:Wp Int}(h:∀n∈ns,0<=n/\n<=1000000):0<=ns.sum/\ns.sum<=1000000*ns.length:=by
 induction ns with
 |nil=>simp
 |cons a l ih=>
  have h1:=h a (by simp)
  have h2:=ih λn hn=>h n (by simp[hn])
  rw[uj,vY]
  have:((l.length+1:Nat):Int)=(l.length:Int)+1:=by lia
  lia
def LI{lo hi:uM Int}(ht:IsTup s.heap t items)(hs:s.heap.IsSliceOf sl vl vu .none)(pl:AAl vl lo)(pu:AAl vu hi)(hw:HT.sIx items.size 0 lo=0/\HT.sIx items.size items.size hi=items.size)(h:Q (.ref t) s):wpAny (model prog w) A (getItem (.ref t) (.ref sl)) Q E s:=by
 obtain⟨os,hos,hcs,hds⟩:=id hs
 have hTs:s.TypeIs (.ref sl) "slice":=⟨os,hos,hcs⟩
 unfold getItem
 try with_reducible refine wj ?_
 first|refine uJ (uq ?_)|skip
 refine uJ (wpAny_sequenceKey ht.typeIs (by decide) ?_)
 refine uJ (wN (name:=wQ "__getitem__") ht.typeIs vV
  (wd vV ht.typeIs ABU ?_ (ABd _ _)))
 show wpAny _ _ (zu (.ref t) >>= _) _ _ s
 refine uJ (tupleItemsOf_ ht ?_)
 refine uJ (wpAny_typeOf hTs ?_)
 rw[vF (by decide)]
 refine uJ (HT.Hn hs pl pu ?_)
 show wpAny _ _ (if(((HT.sIx items.size 0 lo:Nat):Int)==0 && (1:Int)==1 && (HT.sIx items.size items.size hi-HT.sIx items.size 0 lo)==items.size)=true then _ else _) _ _ s
 rw[vF (by rw[hw.1,hw.2];simp)]
 unfold Builtin.Tuple.tupleIsExact
 refine uJ (uJ (wpAny_typeOf ht.typeIs (uq ?_)))
 rw[vF (by decide)]
 exact uJ (AAj (uq ⟨_,rfl,uq h⟩))
def sE(K:uF):V->uM Int->uM Int->Hp->VK->Prop:=λx lo hi H Q=>∃a xs,x=.ref a/\SqT K H a xs/\HT.sIx xs.length 0 lo=0/\HT.sIx xs.length xs.length hi=xs.length/\Q x H
def fJ:SlR X (sE X.K):=by
 intro pins s σ H x v vl vu lo hi sl Q I rx hs pl pu h
 obtain⟨a,xs,rfl,hx,h1,h2,q⟩:=h
 cases rx
 obtain⟨its,r,ht,hz⟩:=I.tuple hx
 have hlen:its.toArray.size=xs.length:=by rw[ua];exact r.length.symm
 refine⟨"tuple",_,vV.lookup,ht.typeIs,?_⟩
 exact LI ht hs pl pu (by rw[hlen];exact⟨h1,h2⟩) ⟨.ref a,H,I,rfl,q⟩
noncomputable def lY(K:uF):R2:=λx y H Q=>∃a b ys,x=.ref a/\y=.ref b/\SqT K H a []/\SqT K H b ys/\Q (.ref b) H
def cK:OpR X (binaryOp .Add) (lY X.K):=by
 intro pins s σ H x y v u Q I rx ry h
 obtain⟨a,b,ys,rfl,rfl,ha,hb,q⟩:=h
 cases rx
 cases ry
 obtain⟨its,r1,p1,_⟩:=I.tuple ha
 obtain⟨its2,r2,p2,_⟩:=I.tuple hb
 have e0:its=[]:=r1.Pb.mpr rfl
 subst e0
 obtain⟨⟨cls,dd,data,sl⟩,ho,hc,n,hd⟩:=id p1
 obtain⟨⟨cls2,dd2,data2,sl2⟩,ho2,hc2,n2,hd2⟩:=id p2
 simp only at hc hd hc2 hd2
 subst hc hd hc2 hd2
 exact concat_meets ⟨_,ho,rfl⟩ ⟨_,ho2,rfl⟩ AAc ABZ yr yj (yb _ _)
  (tuple_addW0 a b #[] its2.toArray n n2 dd dd2 sl sl2 rfl) ⟨ho,ho2,⟨.ref b,H,I,rfl,q⟩⟩
end St
end
noncomputable section
namespace Mi
open PySem PySem.Spec L2
inductive D where
 |non|bl (b:va)|int (i:Int)|str (x:Str)|ty (n:yJ)|tup (ds:Wp D)|lst (ds:Wp D)|dct (kvs:Wp (Key×D))|scr (ns:Wp Int)|ref (n:Nat)
inductive Wv where
 |val (d:D)|own (ds:Wp D)
inductive Cl where
 |lst (ds:Wp D)|dct (kvs:Wp (Key×D))|tab (x:Str)|ins (C:Str) (fs:Wp (Str×D))
abbrev Sto:=Wp Cl
structure Ms where
 cel:Wp ue
 tmp:Wp ue
def Ms.mem(M:Ms)(a:ue):Prop:=a∈M.cel\/a∈M.tmp
noncomputable def Ms.no:Ms:=⟨[],[]⟩
def Ms.aL:¬Ms.no.mem a:=λz=>z.elim (λz=>by cases z) λz=>by cases z
def KL(K:uF)(a:ue)(xs:Wp V):Prop:=∃(o:Obj) (its:zE uT) (n:Nat),K.lookup a=Gc o/\o.cls=.type "list" /\o.dict=none/\o.data=.seq its n/\its.size<=sizeLine/\Vals xs its.toList
mutual
inductive Bz(K:uF)(M:Ms)(H:Hp):V->D->Prop
 |non:Bz K M H .non .non
 |bl (b:va):Bz K M H (.bl b) (.bl b)
 |int (i:Int):Bz K M H (.int i) (.int i)
 |str (x:Str):Bz K M H (.str x) (.str x)
 |ty (n:yJ):Bz K M H (.ty n) (.ty n)
 |tup {a:ue} {xs:Wp V} {ds:Wp D} (h:SqT K H a xs) (r:Al K M H xs ds):Bz K M H (.ref a) (.tup ds)
 |lst {a:ue} {xs:Wp V} {ds:Wp D} (h:H a=Gc (.lst xs)) (n:¬M.mem a) (r:Al K M H xs ds):Bz K M H (.ref a) (.lst ds)
 |scr {a:ue} {ns:Wp Int} (h:(Rd H a (.lst (ns.map V.int))/\¬M.mem a)\/KL K a (ns.map V.int)):Bz K M H (.ref a) (.scr ns)
 |dct {a:ue} {kvs:Wp (Key×V)} {es:Wp (Key×D)} (h:H a=Gc (.dK kvs)) (n:¬M.mem a) (r:L8 K M H kvs es):Bz K M H (.ref a) (.dct es)
 |ref {a:ue} {n:Nat} (h:M.cel[n]?=Gc a):Bz K M H (.ref a) (.ref n)
inductive Al(K:uF)(M:Ms)(H:Hp):Wp V->Wp D->Prop
 |nil:Al K M H [] []
 |cons {v:V} {d:D} {vs:Wp V} {ds:Wp D} (h:Bz K M H v d) (t:Al K M H vs ds):Al K M H (v::vs) (d::ds)
inductive L8(K:uF)(M:Ms)(H:Hp):Wp (Key×V)->Wp (Key×D)->Prop
 |nil:L8 K M H [] []
 |cons {k:Key} {v:V} {d:D} {vs:Wp (Key×V)} {ds:Wp (Key×D)} (h:Bz K M H v d) (t:L8 K M H vs ds):L8 K M H ((k,v)::vs) ((k,d)::ds)
end
def Mob:HO->Prop
 | .lst _=>ze
 | .dK _=>ze
 | .tbl _=>ze
 | .ins _ _ _=>ze
 |_=>wq
def MOk(M:Ms)(H:Hp):Prop:=∀a,M.mem a->∃o,H a=Gc o/\Mob o
structure Sp1(M:Ms)(H:Hp)(M':Ms)(H':Hp):Prop where
 mo:MOk M H
 pre:M.cel <+: M'.cel
 fresh:∀a,M'.mem a->M.mem a\/H a=none
 keep:∀a o,H a=Gc o->¬M.mem a->H' a=Gc o
structure Gr(M:Ms)(H:Hp)(M':Ms)(H':Hp):Prop where
 mo:MOk M H
 pre:M.cel <+: M'.cel
 tmp:M'.tmp=M.tmp
 fresh:∀a,a∈M'.cel->a∈M.cel\/H a=none
 keep:∀a o,H a=Gc o->a∉M.cel->H' a=Gc o
 some:∀a,H a≠none->H' a≠none
section
variable{M M' M2:Ms}{H H' H2:Hp}
def MOk.some(mo:MOk M H)(h:M.mem a):H a≠none:=λz=>by
 obtain⟨o,e,_⟩:=mo a h
 rw[e]at z;cases z
def MOk.at(mo:MOk M H)(k:∀b o,H b=Gc o->H' b=Gc o)(h:M.mem a):∃o,H' a=Gc o/\Mob o:=(mo a h).imp λo z=>⟨k a o z.1,z.2⟩
def Gr.st(g:Gr M H M' H'):Sp1 M H M' H':=⟨g.mo,g.pre,λa z=>z.elim (λz=>(g.fresh a z).imp .inl id) λz=>.inl (.inr (by rw[<-g.tmp];exact z)),λa o e n=>g.keep a o e λz=>n (.inl z)⟩
def Gr.refl(mo:MOk M H):Gr M H M H:=⟨mo,wX,rfl,λ_ z=>.inl z,λ_ _ e _=>e,λ_ e=>e⟩
def Gr.none(g:Gr M H M' H')(h:H' a=none):H a=none:=by
 cases e:H a with
 |none=>rfl
 |some o=>exact absurd h (g.some a (by rw[e];intro z;cases z))
def Gr.trans(h:Gr M H M' H')(g:Gr M' H' M2 H2):Gr M H M2 H2:=
 ⟨h.mo,h.pre.trans g.pre,g.tmp.trans h.tmp,λa z=>(g.fresh a z).elim (h.fresh a) λz=>.inr (h.none z),λa o e n=>g.keep a o (h.keep a o e n) (λz=>by
   rcases h.fresh a z with z|z
   .exact n z
   .rw[e]at z;cases z),λa e=>g.some a (h.some a e)⟩
def Gr.grow(mo:MOk M H)(k:∀a o,H a=Gc o->H' a=Gc o):Gr M H M H':=
 ⟨mo,wX,rfl,λ_ z=>.inl z,λb u eb _=>k b u eb,λb eb z=>by
   cases h:H b with
   |none=>exact eb h
   |some o=>rw[k b o h]at z;cases z⟩
def K7{α:Type}{xs ys:Wp α}(h:xs <+: ys){n:Nat}{a:α}(e:xs[n]?=Gc a):ys[n]?=Gc a:=by
 obtain⟨zs,rfl⟩:=h
 rw[uK (uU.mp e).1]
 exact e
def Sp1.YZ(g:Sp1 M H M' H')(e:H a=Gc o)(n:¬Mob o):H' a=Gc o:=g.keep a o e λz=>by
 obtain⟨u,q,m⟩:=g.mo a z
 rw[e]at q;cases q;exact n m
def Sp1.sqT(g:Sp1 M H M' H')(h:SqT K H a xs):SqT K H' a xs:=by
 rcases h with h|h
 .rcases h with h|⟨o,h⟩
  .exact .inl (.inl (g.YZ h id))
  .exact .inl (.inr ⟨o,g.YZ h id⟩)
 .exact .inr h
def Sp1.nm(g:Sp1 M H M' H')(e:H a=Gc o)(n:¬M.mem a):¬M'.mem a:=λz=>by
 rcases g.fresh _ z with z|z
 .exact n z
 .rw[z]at e;cases e
def Bz.step(g:Sp1 M H M' H')(h:Bz K M H v d):Bz K M' H' v d:=
 Bz.rec (motive_1:=λv d _=>Bz K M' H' v d) (motive_2:=λv d _=>Al K M' H' v d) (motive_3:=λv d _=>L8 K M' H' v d) .non .bl .int .str .ty (λh _ r=>.tup (g.sqT h) r) (λh n _ r=>.lst (g.keep _ _ h n) (g.nm h n) r) (λh=>by
  rcases h with⟨h,n⟩|h
  .rcases h with h|⟨o,h⟩
   .exact .scr (.inl ⟨.inl (g.keep _ _ h n),g.nm h n⟩)
   .exact .scr (.inl ⟨.inr ⟨o,g.keep _ _ h n⟩,g.nm h n⟩)
  .exact .scr (.inr h)) (λh n _ r=>.dct (g.keep _ _ h n) (g.nm h n) r) (λh=>.ref (K7 g.pre h)) .nil (λ_ _ h t=>.cons h t) .nil (λ_ _ h t=>.cons h t) h
def Al.ind{P:Wp V->Wp D->Prop}(n:P [] [])(c:∀{v} {d} {vs} {ds},Bz K M H v d->P vs ds->P (v::vs) (d::ds))(h:Al K M H vs ds):P vs ds:=
 Al.rec (motive_1:=λ_ _ _=>ze) (motive_2:=λv d _=>P v d) (motive_3:=λ_ _ _=>ze) trivial (λ_=>trivial) (λ_=>trivial) (λ_=>trivial) (λ_=>trivial) (λ_ _ _=>trivial) (λ_ _ _ _=>trivial) (λ_=>trivial) (λ_ _ _ _=>trivial) (λ_=>trivial) n (λh _ _ t=>c h t) trivial (λ_ _ _ _=>trivial) h
def L8.ind{P:Wp (Key×V)->Wp (Key×D)->Prop}(n:P [] [])(c:∀{k} {v} {d} {vs} {ds},Bz K M H v d->P vs ds->P ((k,v)::vs) ((k,d)::ds))(h:L8 K M H vs ds):P vs ds:=
 L8.rec (motive_1:=λ_ _ _=>ze) (motive_2:=λ_ _ _=>ze) (motive_3:=λv d _=>P v d) trivial (λ_=>trivial) (λ_=>trivial) (λ_=>trivial) (λ_=>trivial) (λ_ _ _=>trivial) (λ_ _ _ _=>trivial) (λ_=>trivial) (λ_ _ _ _=>trivial) (λ_=>trivial) trivial (λ_ _ _ _=>trivial) n (λh _ _ t=>c h t) h
def Al.step(g:Sp1 M H M' H')(h:Al K M H v d):Al K M' H' v d:=h.ind .nil λh t=>.cons (h.step g) t
def L8.step(g:Sp1 M H M' H')(h:L8 K M H v d):L8 K M' H' v d:=h.ind .nil λh t=>.cons (h.step g) t
def Al.length(h:Al K M H v d):v.length=d.length:=h.ind (P:=λv d=>v.length=d.length) rfl λ_ t=>congrArg (· +1) t
def Al.get{i:Nat}(h:Al K M H v d):d[i]?=Gc y->∃x,v[i]?=Gc x/\Bz K M H x y:=
 h.ind (P:=λv d=>∀i,d[i]?=Gc y->∃x,v[i]?=Gc x/\Bz K M H x y) (λi e=>by simp at e) (λh t i e=>by
  cases i with
  |zero=>simp at e;subst e;exact⟨_,rfl,h⟩
  |succ i=>exact t i e) i
def Al.append(h:Al K M H v d)(s:Al K M H v' d'):Al K M H (v++v') (d++d'):=h.ind (P:=λv d=>Al K M H (v++v') (d++d')) s λh t=>.cons h t
def Al.take n(h:Al K M H v d):Al K M H (v.take n) (d.take n):=h.ind (P:=λv d=>∀n,Al K M H (v.take n) (d.take n)) (λn=>by rw[List.take_nil,List.take_nil];exact .nil) (λh t n=>by
 cases n with
 |zero=>exact .nil
 |succ n=>exact .cons h (t n)) n
def Al.drop n(h:Al K M H v d):Al K M H (v.drop n) (d.drop n):=h.ind (P:=λv d=>∀n,Al K M H (v.drop n) (d.drop n)) (λn=>by rw[List.drop_nil,List.drop_nil];exact .nil) (λh t n=>by
 cases n with
 |zero=>exact .cons h (t 0)
 |succ n=>exact t n) n
theorem Al.set(r:Bz K M H x y):∀{v} {d} i,Al K M H v d->Al K M H (v.set i x) (d.set i y)
 |_,_,_,.nil=>.nil
 |_,_,0,.cons _ t=>.cons r t
 |_,_,i+1,.cons q t=>.cons q (Al.set r i t)
end
abbrev En:=Wp (uM D)
abbrev Sg:=Wp (uM V)
structure EnR(K:uF)(M:Ms)(E:En)(σ:Sg)(H:Hp):Prop where
 len:E.length=σ.length
 val:∀(i:Nat) (d:D),E[i]?=Gc (Gc d)->∃v,σ[i]?=Gc (Gc v)/\Bz K M H v d
noncomputable def sU(x:Str):Str:=(x++(".<locals>.":Str))++("<lambda>":Str)
def aW(K:uF)(c P:ue):Prop:=
 ∃o vs file tf flags tg inF text tt,K.lookup c=Gc o/\o.cls=zd "code" /\o.data=Data.fields vs/\vs[11]?=Gc (vT P)/\vs.getD 11 vR=vT P/\vs.getD 18 vR=AAY file tf/\vs.getD 7 vR=AAX flags tg/\vs.getD 9 vR=AAi inF/\vs.getD 10 vR=AAX text tt/\c≠P
def TabAt(K:uF)(x:Str)(P:ue):Prop:=
 ∃f oc od fd osl c,vm K mainGlobals x=Gc (Gc (vT f))/\K.lookup f=Gc ⟨oc,od,Data.func fd,osl⟩/\fd.code=vT c/\aW K c P
def gE(q:Str)(o:Obj):Prop:=∃vs t,o.data=Data.fields vs/\vs[1]?=Gc (AAY q t)
structure Xw(K:uF)(H:Hp)(x:Str)(P:ue)(ps:zE uT):Prop where
 tri:PySem.TriplesOk ps.toList
 tat:TabAt K x P
 cod:∀pos cv,PySem.codeAmong pos ps.toList=Gc cv->∃c o,cv=vT c/\H c=Gc (.frz o (.own 0))/\gE (sU x) o
def Xw.step(t:Xw K H x P ps)(g:Sp1 M H M' H'):Xw K H' x P ps:=⟨t.tri,t.tat,λpos cv e=>by
 obtain⟨c,o,h1,h2,h3⟩:=t.cod pos cv e
 exact⟨c,o,h1,g.YZ h2 id,h3⟩⟩
def Xx(K:uF)(M:Ms)(H:Hp)(a:ue):Cl->Prop
 | .lst ds=>∃xs,H a=Gc (.lst xs)/\Al K M H xs ds
 | .dct es=>∃kvs,H a=Gc (.dK kvs)/\L8 K M H kvs es
 | .tab x=>∃ps,H a=Gc (.tbl ps)/\Xw K H x a ps
 | .ins C fs=>∃Ca dx fv,vm K mainGlobals C=Gc (Gc (.ref Ca))/\H a=Gc (.ins Ca dx fv)/\H dx=Gc (.own a)/\fv.map (·.1)=fs.map (·.1)/\Al K M H (fv.map (·.2)) (fs.map (·.2))
structure StR(K:uF)(M:Ms)(S:Sto)(H:Hp):Prop where
 mo:MOk M H
 nd:M.cel.Nodup
 nt:∀a∈M.tmp,a∉M.cel
 len:M.cel.length=S.length
 cell:∀(n:Nat) (a:ue) (c:Cl),M.cel[n]?=Gc a->S[n]?=Gc c->Xx K M H a c
def Xx.step(q:Xx K M H a c)(g:Sp1 M H M' H')(k:∀o,H a=Gc o->H' a=Gc o):Xx K M' H' a c:=by
 cases c with
 |lst ds=>obtain⟨xs,e,rr⟩:=q;exact⟨xs,k _ e,rr.step g⟩
 |dct ds=>obtain⟨xs,e,rr⟩:=q;exact⟨xs,k _ e,rr.step g⟩
 |tab ds=>obtain⟨xs,e,rr⟩:=q;exact⟨xs,k _ e,rr.step g⟩
 |ins C fs=>obtain⟨Ca,dx,fv,h,e,eo,n,rr⟩:=q;exact⟨Ca,dx,fv,h,k _ e,g.YZ eo id,n,rr.step g⟩
def EnR.step(r:EnR K M E σ H)(g:Sp1 M H M' H'):EnR K M' E σ H':=⟨r.len,λi d e=>by
 obtain⟨v,h1,h2⟩:=r.val i d e
 exact⟨v,h1,h2.step g⟩⟩
def StR.grow(r:StR K M S H)(k:∀a o,H a=Gc o->H' a=Gc o):StR K M S H':=by
 have g:Sp1 M H M H':=⟨r.mo,wX,λ_ z=>.inl z,λa o e _=>k a o e⟩
 refine⟨λa z=>r.mo.at k z,r.nd,r.nt,r.len,λn a c h1 h2=>?_⟩
 exact(r.cell n a c h1 h2).step g λo e=>k _ _ e
def StR.chg(r:StR K M S H)(h1:M.cel[n]?=Gc a)(h2:S[n]?=Gc (.lst ds))(hy:Al K M H ys es):StR K M (S.set n (.lst es)) (upd H a (.lst ys))/\Gr M H M (upd H a (.lst ys)):=by
 have ha:a∈M.cel:=uy h1
 have hl:n<S.length:=(uU.mp h2).1
 have g:Gr M H M (upd H a (.lst ys)):=⟨r.mo,wX,rfl,λ_ z=>.inl z,λb o eb nb=>by rw[BC (λz=>nb (by rw[z];exact ha))];exact eb,λb eb=>by
  by_cases h:b=a
  .subst h;rw[B7];intro z;cases z
  .rw[BC h];exact eb⟩
 refine⟨⟨λb z=>?_,r.nd,r.nt,by rw[wW];exact r.len,λm b c e1 e2=>?_⟩,g⟩
 .by_cases h:b=a
  .subst h;exact⟨_,B7,trivial⟩
  .rw[BC h];exact r.mo b z
 .by_cases h:n=m
  .subst h
   rw[h1]at e1;cases e1
   rw[uX hl]at e2;cases e2
   exact⟨ys,B7,hy.step g.st⟩
  .rw[uQ h]at e2
   have hb:b≠a:=λz=>by
    subst z
    exact h ((AAI (uU.mp h1).1 r.nd).mp (h1.trans e1.symm))
   exact(r.cell m b c e1 e2).step g.st λo e=>by rw[BC hb];exact e
def StR.dS(r:StR K M S H)(e:H a=none)(k:∀b o,H b=Gc o->H' b=Gc o)(ea:H' a=Gc (.lst xs))(rr:Al K M H xs ds):StR K ⟨M.cel++[a],M.tmp⟩ (S++[.lst ds]) H'/\Gr M H ⟨M.cel++[a],M.tmp⟩ H':=by
 have g:Gr M H ⟨M.cel++[a],M.tmp⟩ H':=⟨r.mo,z6 _ _,rfl,λb z=>by
  rcases vH.mp z with z|z
  .exact .inl z
  .simp at z;subst z;exact .inr e,λb o eb _=>k b o eb,λb eb z=>by
  cases h:H b with
  |none=>exact eb h
  |some o=>rw[k b o h]at z;cases z⟩
 have na:¬M.mem a:=λz=>r.mo.some z e
 refine⟨⟨λb z=>?_,?_,λb hb z=>?_,by simp[r.len],λm b c e1 e2=>?_⟩,g⟩
 .have z':M.mem b\/b=a:=by
   rcases z with z|z
   .rcases vH.mp z with z|z
    .exact .inl (.inl z)
    .simp at z;exact .inr z
   .exact .inl (.inr z)
  rcases z' with z|z
  .exact r.mo.at k z
  .subst z;exact⟨_,ea,trivial⟩
 .rw[AAJ]
  refine⟨r.nd,by simp,λx hx y hy=>?_⟩
  simp at hy;subst hy
  exact λz=>na (.inl (by rw[<-z];exact hx))
 .rcases vH.mp z with z|z
  .exact r.nt b hb z
  .simp at z;subst z;exact na (.inr hb)
 .by_cases h:m<S.length
  .rw[uK (by rw[r.len];exact h)]at e1
   rw[uK h]at e2
   exact(r.cell m b c e1 e2).step g.st λo e=>k _ _ e
  .have hm:m=S.length:=by
    have:=(uU.mp e2).1
    simp at this;lia
   subst hm
   rw[vU (by rw[r.len];exact uP _)]at e1
   rw[vU (uP _)]at e2
   rw[r.len]at e1
   simp at e1 e2
   subst e1 e2
   exact⟨xs,ea,rr.step g.st⟩
noncomputable def tJ:uM AAa->va
 |some .local=>true
 |some .cell=>true
 |some .free=>true
 |_=>false
noncomputable def oD(sc:yE)(x:Str):va:=tJ (sc.names.lookup x)
def jh(h:oD sc x=true):Vis sc x:=by
 unfold oD at h
 unfold Vis
 cases e:sc.names.lookup x with
 |none=>rw[e]at h;cases h
 |some k=>
  rw[e]at h
  cases k<;>first|(cases h;done)|simp
abbrev Ev:=En->Sto->uM (D×Sto)
inductive tD(K:uF)(f:Ev)(σ:Sg)(H:Hp)(Q:VK):Prop
 |mk (M:Ms) (E:En) (S:Sto) (d:D) (S':Sto) (e:f E S=Gc (d,S')) (r:EnR K M E σ H) (st:StR K M S H) (q:∀v H' M',Gr M H M' H'->StR K M' S' H'->Bz K M' H' v d->Q v H')
structure DE(X:Cx)(e:vw)(f:Ev):Prop where
 pe:PE X e (tD X.K f)
def Ba(h:PE X e t)(m:∀σ H Q,t' σ H Q->t σ H Q):PE X e t':=λpins s σ H Q I q=>h pins s σ H Q I (m _ _ _ q)
def Wi(h:PT X e t)(m:∀σ H Q,t' σ H Q->t σ H Q):PT X e t':=λpins s σ H Q I q=>h pins s σ H Q I (m _ _ _ q)
def Fj(h:tD K f σ H Q)(m:∀v H',Q v H'->Q' v H'):tD K f σ H Q':=by
 obtain⟨M,E,S,d,S',e,r,st,q⟩:=h
 exact⟨M,E,S,d,S',e,r,st,λv H' M' g s r=>m _ _ (q v H' M' g s r)⟩
def As{α β:Type}{o:uM α}{k:α->uM β}{y:β}(e:o.bind k=Gc y):∃x,o=Gc x/\k x=Gc y:=by
 cases o with
 |none=>cases e
 |some x=>exact⟨x,rfl,e⟩
def Lf{α β:Type}{o:uM α}{k:α->β}{y:β}(e:o.map k=Gc y):∃x,o=Gc x/\k x=y:=by
 cases o with
 |none=>cases e
 |some x=>cases e;exact⟨x,rfl,rfl⟩
noncomputable def fz:Wv->D
 | .val d=>d
 | .own ds=>.lst ds
noncomputable def at?(E:En)(i:Nat):uM D:=(E[i]?).join
def at?_some(h:at? E i=Gc w):E[i]?=Gc (Gc w):=by
 unfold at? at h
 cases e:E[i]? with
 |none=>rw[e]at h;cases h
 |some q=>rw[e]at h;exact congrArg Gc h
noncomputable def evs:Wp Ev->En->Sto->uM (Wp D×Sto)
 | [],_,S=>Gc ([],S)
 |f::fs,E,S=>(f E S).bind λr=>(evs fs E r.2).map λq=>(r.1::q.1,q.2)
noncomputable def tDs(K:uF):Wp Ev->TA
 | []=>p9
 |f::fs=>fM (tD K f) (tDs K fs)
structure DEs(X:Cx)(es:Wp vw)(fs:Wp Ev):Prop where
 pe:PA X es (tDs X.K fs)
def AO:DEs X [] []:=⟨Us⟩
def AD(h:DE X e f)(t:DEs X es fs)(hs:x0 (um (e::es) X.env=(false,eval e X.env)::um es X.env) wv):DEs X (e::es) (f::fs):=⟨O7 h.pe t.pe hs⟩
section
variable{K:uF}{M M':Ms}{E:En}{S:Sto}{σ:Sg}{H H':Hp}
theorem GP:∀{fs} {M} {S} {ds} {S'} {H} {Q},evs fs E S=Gc (ds,S')->EnR K M E σ H->StR K M S H->(∀vs H' M',Gr M H M' H'->StR K M' S' H'->Al K M' H' vs ds->Q vs H')->tDs K fs σ H Q
 | [],M,S,ds,S',H,Q,e,r,st,q=>by
   cases e
   exact q [] H M (.refl st.mo) st .nil
 |f::fs,M,S,ds,S',H,Q,e,r,st,q=>by
  obtain⟨⟨d,S1⟩,e1,e⟩:=As e
  obtain⟨⟨es,S2⟩,e2,e⟩:=Lf e
  cases e
  refine⟨M,E,S,d,S1,e1,r,st,λv H1 M1 g1 st1 d1=>?_⟩
  exact GP e2 (r.step g1.st) st1 λvs H2 M2 g2 st2 d2=>q _ _ M2 (g1.trans g2) st2 (.cons (d1.step g2.st) d2)
theorem ND:∀{fs} {S} {ds} {S'},evs fs E S=Gc (ds,S')->ds.length=fs.length
 | [],_,_,_,e=>by cases e;rfl
 |f::fs,S,ds,S',e=>by
  obtain⟨⟨d,S1⟩,e1,e⟩:=As e
  obtain⟨⟨es,S2⟩,e2,e⟩:=Lf e
  cases e
  simp[ND e2]
def Sh(K:uF)(M:Ms)(H:Hp)(v:V):Wv->Prop
 | .val d=>Bz K M H v d
 | .own ds=>∃a xs,v=.ref a/\H a=Gc (.lst xs)/\Al K M H xs ds
def ivP(K:uF)(M:Ms)(H:Hp)(v:V):D->Prop
 | .non=>v=.non
 | .bl b=>v=.bl b
 | .int i=>v=.int i
 | .str x=>v=.str x
 | .ty n=>v=.ty n
 | .tup ds=>∃a xs,v=.ref a/\SqT K H a xs/\Al K M H xs ds
 |_=>ze
def Bz.iv(h:Bz K M H v d):ivP K M H v d:=by
 cases h with
 |tup h r=>exact⟨_,_,rfl,h,r⟩
 |non=>rfl
 |bl=>rfl
 |int=>rfl
 |str=>rfl
 |ty=>rfl
 |_=>trivial
inductive Shs(K:uF)(M:Ms)(H:Hp):Wp V->Wp Wv->Prop
 |nil:Shs K M H [] []
 |cons {v:V} {w:Wv} {vs:Wp V} {ws:Wp Wv} (h:Sh K M H v w) (t:Shs K M H vs ws):Shs K M H (v::vs) (w::ws)
noncomputable def dr(S:Sto):D->Wv
 | .ref n=>match S[n]? with
   |some (.lst ds)=>.own ds
   |_=>.val (.ref n)
 |d=>.val d
def aQ(st:StR K M S H)(h:Bz K M H v d):Sh K M H v (dr S d):=by
 cases h with
 |ref h=>
  rename_i a n
  show Sh K M H (.ref a) (match S[n]? with|some (.lst ds)=>.own ds|_=>.val (.ref n))
  split
  .rename_i ds e
   obtain⟨xs,h1,h2⟩:=st.cell n a _ h e
   exact⟨a,xs,rfl,h1,h2⟩
  .exact .ref h
 |non=>exact .non
 |bl b=>exact .bl b
 |int b=>exact .int b
 |str b=>exact .str b
 |ty b=>exact .ty b
 |tup h r=>exact .tup h r
 |lst h n r=>exact .lst h n r
 |scr h=>exact .scr h
 |dct h n r=>exact .dct h n r
theorem Z1(st:StR K M S H):∀{vs} {ds},Al K M H vs ds->Shs K M H vs (ds.map (dr S))
 |_,_,.nil=>.nil
 |_,_,.cons h t=>.cons (aQ st h) (Z1 st t)
def NwR(K:uF)(M:Ms)(H H':Hp)(v:V):Wv->Prop
 | .val d=>Bz K M H' v d
 | .own ds=>∃a xs,v=.ref a/\H a=none/\H' a=Gc (.lst xs)/\Al K M H xs ds
structure Nw(K:uF)(M:Ms)(H H':Hp)(v:V)(w:Wv):Prop where
 grow:∀a o,H a=Gc o->H' a=Gc o
 rel:NwR K M H H' v w
def Nw.same(mo:MOk M H)(h:Bz K M H v d):Nw K M H H v (.val d):=⟨λ_ _ e=>e,h⟩
def Io(e:H a=none):∀b u,H b=Gc u->upd H a o b=Gc u:=λb u eb=>by rw[BC (λz=>by subst z;rw[e]at eb;cases eb)];exact eb
def Nw.lst(mo:MOk M H)(e:H a=none)(h:Al K M H xs ds):Nw K M H (upd H a (.lst xs)) (.ref a) (.own ds):=⟨Io e,a,xs,rfl,e,B7,h⟩
def Nw.tup(mo:MOk M H)(e:H a=none)(h:Al K M H xs ds):Nw K M H (upd H a (.tup xs)) (.ref a) (.val (.tup ds)):=⟨Io e,.tup (.of B7) (h.step (Gr.grow mo (Io e)).st)⟩
noncomputable def fin:va->Wv->Sto->uM (D×Sto)
 |_,.val d,S=>Gc (d,S)
 |false,.own ds,S=>Gc (.lst ds,S)
 |true,.own ds,S=>Gc (.ref S.length,S++[.lst ds])
def Nw.fin(n:Nw K M H H' v w)(st:StR K M S H)(e:fin c w S=Gc (d,S')):∃M',Gr M H M' H'/\StR K M' S' H'/\Bz K M' H' v d:=by
 cases w with
 |val d'=>
  cases e
  exact⟨M,.grow st.mo n.grow,st.grow n.grow,n.rel⟩
 |own ds=>
  obtain⟨a,xs,rfl,h1,h2,h3⟩:=n.rel
  cases c with
  |false=>
   cases e
   exact⟨M,.grow st.mo n.grow,st.grow n.grow,.lst h2 (λz=>st.mo.some z h1) (h3.step (Gr.grow st.mo n.grow).st)⟩
  |true=>
   cases e
   obtain⟨s1,g1⟩:=st.dS h1 n.grow h2 h3
   refine⟨_,g1,s1,.ref ?_⟩
   rw[<-st.len]
   exact uZ
abbrev Op1:=Wv->uM Wv
abbrev Op2:=Wv->Wv->uM Wv
abbrev OpN:=Wp Wv->uM Wv
inductive rOp(K:uF)(op:Op2)(x y:V)(H:Hp)(Q:VK):Prop
 |mk (M:Ms) (w1 w2 r:Wv) (e:op w1 w2=Gc r) (mo:MOk M H) (s1:Sh K M H x w1) (s2:Sh K M H y w2) (q:∀v H',Nw K M H H' v r->Q v H')
inductive rUn(K:uF)(op:Op1)(x:V)(H:Hp)(Q:VK):Prop
 |mk (M:Ms) (w r:Wv) (e:op w=Gc r) (mo:MOk M H) (s:Sh K M H x w) (q:∀v H',Nw K M H H' v r->Q v H')
inductive rN(K:uF)(op:OpN)(xs:Wp V)(H:Hp)(Q:VK):Prop
 |mk (M:Ms) (ws:Wp Wv) (r:Wv) (e:op ws=Gc r) (mo:MOk M H) (s:Shs K M H xs ws) (q:∀v H',Nw K M H H' v r->Q v H')
noncomputable def Px(c:va)(op:OpN)(fs:Wp Ev):Ev:=λE S=>(evs fs E S).bind λr=>(op (r.1.map (dr r.2))).bind λw=>fin c w r.2
abbrev eOp:=Px false
abbrev Ze:=Px true
noncomputable def o1(op:Op1):OpN| [a]=>op a|_=>none
noncomputable def o2(op:Op2):OpN| [a,b]=>op a b|_=>none
def OJ(e:Px c op fs E S=Gc (d,S'))(r:EnR K M E σ H)(st:StR K M S H)(h:∀v H' M',Gr M H M' H'->StR K M' S' H'->Bz K M' H' v d->Q v H'):tDs K fs σ H λvs H1=>rN K op vs H1 Q:=by
 obtain⟨⟨ds,S1⟩,e1,e⟩:=As e
 obtain⟨w,e2,e⟩:=As e
 refine GP e1 r st λvs H1 M1 g1 st1 d1=>⟨M1,_,w,e2,st1.mo,Z1 st1 d1,λv H2 n=>?_⟩
 obtain⟨M2,g2,st2,d2⟩:=n.fin st1 e
 exact h v H2 M2 (g1.trans g2) st2 d2
end
def jU(h:rN K (o2 f) [x,y] H Q):rOp K f x y H Q:=by
 obtain⟨M,ws,r,e,mo,s,q⟩:=h
 cases s with
 |cons h1 s=>
  cases s with
  |cons h2 s=>
   cases s
   exact⟨M,_,_,r,e,mo,h1,h2,q⟩
def gr(h:rN K (o1 f) [x] H Q):rUn K f x H Q:=by
 obtain⟨M,ws,r,e,mo,s,q⟩:=h
 cases s with
 |cons h1 s=>
  cases s
  exact⟨M,_,r,e,mo,h1,q⟩
def SV(h:tD K (Px c (o2 f) [fa,fb]) σ H Q):tOp (rOp K f) (tD K fa) (tD K fb) σ H Q:=by
 obtain⟨M,E,S,d,S',e,r,st,q⟩:=h
 have z:tD K fa σ H λx H1=>tD K fb σ H1 λy H2=>rN K (o2 f) [x,y] H2 Q:=OJ (Q:=Q) e r st q
 exact Fj z λx H1 z1=>Fj z1 λy H2 z2=>jU z2
def Wy(h:tD K (Px c (o1 f) [fa]) σ H Q):tUn (rUn K f) (tD K fa) σ H Q:=by
 obtain⟨M,E,S,d,S',e,r,st,q⟩:=h
 have z:tD K fa σ H λx H1=>rN K (o1 f) [x] H1 Q:=OJ (Q:=Q) e r st q
 exact Fj z λx H1 z1=>gr z1
section
variable{X:Cx}{a b e:vw}{fs:Wp Ev}{pos p:Pos}{c:va}
def az(ho:OpR X (binaryOp op) (rOp X.K f))(ha:DE X a fa)(hb:DE X b fb):DE X (.BinOp a op b pos) (Px c (o2 f) [fa,fb]):=⟨Ba (mx ho ha.pe hb.pe) λ_ _ _ h=>SV h⟩
def Sw(ho:OpR X (compareOp op) (rOp X.K f))(ha:DE X a fa)(hb:DE X b fb)(hm:x0 (behindInMarks op b=false) wv):DE X (.Compare a [op] [b] pos) (Px c (o2 f) [fa,fb]):=⟨Ba (c9 ho ha.pe hb.pe hm) λ_ _ _ h=>SV h⟩
def rJ(ho:UnR X (unaryOp op) (rUn X.K f))(ha:DE X a fa):DE X (.UnaryOp op a pos) (Px c (o1 f) [fa]):=⟨Ba (oq ho ha.pe) λ_ _ _ h=>Wy h⟩
def GI(hr:IxR X (rOp X.K f))(ha:DE X a fa)(hb:DE X b fb)(hs:x0 (PZ b) wf):DE X (.Subscript a b pos) (Px c (o2 f) [fa,fb]):=⟨Ba (bx hr ha.pe hb.pe hs) λ_ _ _ h=>SV h⟩
def B6{id:yJ}(hc:EW X (.builtin id) (rN X.K f))(hg:Gl X x)(hm:X.mg x=none)(hv:bootBuiltins x=Gc (.builtin id))(ha:DEs X (e::es) fs)(hn:x0 (x≠ "__name__") xL)(hdb:x0 ((x==("__debug__":Str))=false) xL)(he:x0 (um (e::es) X.env=(false,eval e X.env)::um es X.env) wv)(hpl:x0 ((backTo pos (um es X.env)).any (·.1)=false) wv):DE X (.Call (.Name x p) (e::es) [] pos) (Px c f fs):=⟨
 Ba (YV hc hg hm hv ha.pe hn hdb he hpl) λ_ _ _ h=>by
  obtain⟨M,E,S,d,S',e,r,st,q⟩:=h
  exact OJ e r st q⟩
def Kq(hc:EW X (.type T) (rN X.K f))(hg:Gl X x)(hm:X.mg x=none)(hv:bootBuiltins x=Gc (.type T))(ha:DEs X (e::es) fs)(hn:x0 (x≠ "__name__") xL)(hdb:x0 ((x==("__debug__":Str))=false) xL)(he:x0 (um (e::es) X.env=(false,eval e X.env)::um es X.env) wv)(hpl:x0 ((backTo pos (um es X.env)).any (·.1)=false) wv):DE X (.Call (.Name x p) (e::es) [] pos) (Px c f fs):=⟨
 Ba (U9 hc hg hm hv ha.pe hn hdb he hpl) λ_ _ _ h=>by
  obtain⟨M,E,S,d,S',e,r,st,q⟩:=h
  exact OJ e r st q⟩
noncomputable def eC(d:D):Ev:=λ_ S=>Gc (d,S)
def QQ(h:PE X e (tC v))(r:∀K M H,Bz K M H v d):DE X e (eC d):=⟨Ba h λσ H Q z=>by
 obtain⟨M,E,S,w,S',e,rr,st,q⟩:=z
 cases e
 exact q _ _ M (.refl st.mo) st (r _ _ _)⟩
def BV:DE X (.Constant (.int i) j pos) (eC (.int i)):=QQ jL λ_ _ _=>.int _
def Kb:DE X (.Constant (.bool i) j pos) (eC (.bl i)):=QQ nN λ_ _ _=>.bl _
def fm:DE X (.Constant (.str i) j pos) (eC (.str i)):=QQ eZ λ_ _ _=>.str _
def WC:DE X (.Constant .none j pos) (eC .non):=QQ jV λ_ _ _=>.non
noncomputable def eV(i:Nat):Ev:=λE S=>(at? E i).map λd=>(d,S)
def AH i(hN:x0 (X.N[i]?=Gc x) wv)(hv:x0 (oD X.env.scope x=true) wv)(hd:x0 ((x==("__debug__":Str))=false) xL)(hcd:x0 ((x==("__classdict__":Str))=false) xL):DE X (.Name x pos) (eV i):=⟨Ba (VP hN (jh hv) hd hcd) λσ H Q z=>by
 obtain⟨M,E,S,d,S',e,r,st,q⟩:=z
 obtain⟨d',e1,e⟩:=Lf e
 cases e
 obtain⟨v,hv,rd⟩:=r.val i d (at?_some e1)
 exact⟨v,hv,q v H M (.refl st.mo) st rd⟩⟩
end
def Hq:fillsNumberSlot (.type "tuple") "mul"=pure false:=
 fillsNumberSlot_seq (id:="tuple.__mul__") (r:=Gc (.builtin "tuple.__rmul__")) zA.lookup (by decide+kernel) F.slot_tuple_rmul.lookup (by decide+kernel)
def Lu:seqRepeat? (.type "tuple")=pure (Gc (.builtin "tuple.__mul__")):=by
 unfold seqRepeat?
 rw[seqSlot_of (T:="tuple") (name:="__mul__") (id:="tuple.__mul__") zA.lookup (by decide+kernel),seqSlot_of (T:="tuple") (name:="__rmul__") (id:="tuple.__rmul__") F.slot_tuple_rmul.lookup (by decide+kernel)]
 rfl
def JR a(t:Tok) l items n dd sl:Meets (zC.«int.__rmul__» ⟨[.int a t,.ref l],[]⟩) (λ_ R s=>s.heap.get? l=Gc {cls:=.type "tuple",dict:=dd,data:=.seq items n,slots:=sl}/\R (.ok (.ret Value.notImplemented)) s):=
 .of_wp λprog w A R s h=>by obtain⟨hp,g,d,tk,os⟩:=s;obtain⟨hl,h⟩:=h;wp_walk;exact⟨_,rfl,h⟩
def Nh(its:Wp uT) m:ABf (λx1 x2=>x1++x2) #[] (uu m its.toArray)=(uu m its).flatten.toArray:=by
 have:=foldl_rep its m []
 rw[ur]at this
 exact this
def dm:OpR X (binaryOp .Mult) (λx y H Q=>∃a xs k,x=.ref a/\y=.int k/\SqT X.K H a xs/\xs≠[]/\1<=k/\xs.length*k.toNat<=sizeLine/\(k=1->Q (.ref a) H)/\(k≠1->∀p,H p=none->Q (.ref p) (upd H p (.tup (uu k.toNat xs).flatten)))):=by
 intro pins s σ H x y v u Q I rx ry h
 obtain⟨a,xs,k,rfl,rfl,hx,hne,hk,hz,q1,q2⟩:=h
 cases rx
 obtain⟨t,rfl⟩:=ry
 obtain⟨its,r,⟨⟨c,dd,data,sl⟩,ho,hc,n,hd⟩,hzz⟩:=I.tuple hx
 simp only at hc hd
 subst hc hd
 have hl:=r.length
 have hsz:its.toArray.size=xs.length:=by rw[ua];exact hl.symm
 have hpos:0<xs.length:=ABX.mpr hne
 have hkl:k.toNat<=sizeLine:=uH (Nat.le_mul_of_pos_left _ hpos) hz
 have hk63:k<2^63:=by
  have:(sizeLine:Nat)<2^63:=by decide
  lia
 refine yW (T:="tuple") (U:="int") (by decide) ⟨_,ho,rfl⟩ (λs'=>y8 s' k t) Hq AA2 yG Lu AAe.lookup
  (y9 yG (y8 s k t) AAf (AAG _ _) (JR k t a its.toArray n dd sl) ⟨ho,rfl,⟨_,ho,rfl⟩,?_⟩)
 refine wd zA ⟨_,ho,rfl⟩ F.entry_tuple_mul ?_ (ABi _ _)
 unfold zC.«tuple.__mul__»
 wp_walk using vA ho
 rw[vL (show¬(decide (k< -2^63)||decide (k≥2^63))=true by
  rw[vt]
  rintro (z|z)
  .have:=uc z;lia
  .have:=uc z;lia)]
 wp_walk using vA ho
 by_cases h1:k=1
 .subst h1
  rw[vF (show(its.toArray.isEmpty||(1:Int)==1)=true by simp)]
  wp_walk using vA ho
  exact⟨_,rfl,.ref a,H,I,rfl,q1 rfl⟩
 .have hemp:its.toArray.isEmpty=false:=by
   cases its with
   |nil=>rw[yf]at hl;lia
   |cons b bs=>rfl
  rw[vL (show¬(its.toArray.isEmpty||k==1)=true by rw[hemp];simpa using h1)]
  wp_walk using vA ho
  have hmul:((its.toArray.size:Int)*k)=((xs.length*k.toNat:Nat):Int):=by
   rw[hsz,AA4]
   congr 1
   lia
  rw[vL (show¬(decide (k<=0)||its.toArray.isEmpty)=true by
   rw[hemp,Bool.or_false]
   intro z
   have:=uc z
   lia)]
  wp_walk
  rw[vL (show¬((its.toArray.size:Int)*k>(2^63-1) / 8) by
   rw[hmul]
   have:(sizeLine:Nat)<=(2^63-1) / 8:=by decide
   lia)]
  wp_walk
  rw[vL (show¬z7 ((its.toArray.size:Int)*k)=true by
   unfold z7
   rw[hmul]
   intro z
   have:=uc z
   lia)]
  rw[Nh]
  wp_walk
  have hlen:(uu k.toNat its).flatten.length<=sizeLine:=by rw[len_rep,wk,<-hl];exact hz
  rw[vL (show¬((uu k.toNat its).flatten.toArray.size>sizeLine) by rw[ua];lia)]
  wp_walk
  refine⟨_,rfl,.ref _,_,I.laid (o:=.tup (uu k.toNat xs).flatten) (t':=s.toks) (λb ob q=>uG _ q) (uP _) ?_,rfl,q2 h1 _ (I.hok.fresh (uP _))⟩
  exact⟨by rw[len_rep,wk];exact hz,_,r.rep k.toNat,yX _ _⟩
mutual
noncomputable def D.py:D->PyData
 | .non=>.none| .bl b=>.bool b| .int i=>.int i| .str x=>.str x| .ty _=>.none
 | .tup ds=>.tuple (D.pys ds)| .lst ds=>.list (D.pys ds)| .dct _=>.none| .scr _=>.none| .ref _=>.none
noncomputable def D.pys:Wp D->Wp PyData
 | []=>[]
 |d::ds=>D.py d::D.pys ds
end
mutual
noncomputable def D.lay:D->va
 | .non=>true| .bl _=>true| .int _=>true| .str x=>yK x| .ty _=>false| .dct _=>false| .scr _=>false| .ref _=>false
 | .tup ds=>D.R8 ds| .lst ds=>D.R8 ds
noncomputable def D.R8:Wp D->va
 | []=>true
 |d::ds=>D.lay d && D.R8 ds
end
mutual
theorem Ky:∀{d:D},d.lay=true->d.py.canLay0=true
 | .non,_=>rfl
 | .bl _,_=>rfl
 | .int _,_=>rfl
 | .str x,h=>h
 | .ty _,h=>we h
 | .dct _,h=>we h
 | .scr _,h=>we h
 | .ref _,h=>we h
 | .tup ds,h=>by show yu (D.pys ds)=true;exact Ou h
 | .lst ds,h=>by show yu (D.pys ds)=true;exact Ou h
theorem Ou:∀{ds:Wp D},D.R8 ds=true->yu (D.pys ds)=true
 | [],_=>rfl
 |d::ds,h=>by
  have h':(D.lay d && D.R8 ds)=true:=h
  rw[uW]at h'
  show(PyData.canLay0 d.py && yu (D.pys ds))=true
  rw[Ky h'.1,Ou h'.2];rfl
end
section
variable{X:Cx}{pins:Wp (ue×Obj)}{σ:Sg}{H:Hp}{s:uf}{M:Ms}
def NM(I:Inv X pins σ H s)(h:Rd H a (.lst xs)):∃its,Vals xs its/\∃o n,s.heap.get? a=Gc o/\o.cls=.type "list" /\o.data=.seq its.toArray n:=by
 obtain⟨z,its,n,r,e⟩:=h.ok I.hok
 exact⟨its,r,_,n,e,rfl,rfl⟩
def Bz.reads(I:Inv X pins σ H s)(h:Bz X.K M H v d):∀{u},RelV v u->d.lay=true->∃as,Reads s.heap u d.py as:=
 Bz.rec (motive_1:=λv d _=>∀{u:uT},RelV v u->d.lay=true->∃as,Reads s.heap u d.py as) (motive_2:=λvs ds _=>∀{us:Wp uT},Vals vs us->D.R8 ds=true->∃as,ReadsAll s.heap us (D.pys ds) as) (motive_3:=λ_ _ _=>ze)
  (λr _=>by cases r;exact⟨_,.none⟩) (λb _ r _=>by cases r;exact⟨_,.bool b⟩) (λb _ r _=>by obtain⟨t,rfl⟩:=r;exact⟨_,.int b t⟩) (λb _ r _=>by obtain⟨t,rfl⟩:=r;exact⟨_,.str b t⟩) (λ_ _ _ h=>we h)
  (fun h _ ih _ r hl => by
    cases r
    obtain⟨its,rv,⟨o,e,hc,n,hd⟩,_⟩:=I.tuple h
    obtain⟨as,ra⟩:=ih rv hl
    exact⟨as,.tuple e hc hd ra⟩)
  (fun h _ _ ih _ r hl => by
    cases r
    obtain⟨its,rv,o,n,e,hc,hd⟩:=NM I (.inl h)
    obtain⟨as,ra⟩:=ih rv hl
    exact⟨_,.list e hc hd ra⟩)
  (λ_ _ _ h=>we h) (λ_ _ _ _ _ _ h=>we h) (λ_ _ _ h=>we h)
  (fun r _ => by cases r; exact ⟨_, .nil⟩) (fun {v d vs ds} _ _ ih1 ih2 _ r hl => by
    cases r with
    |cons r1 r2=>
     have hl':(D.lay d && D.R8 ds)=true:=hl
     rw[uW]at hl'
     obtain⟨as,ra⟩:=ih1 r1 hl'.1
     obtain⟨bs,rb⟩:=ih2 r2 hl'.2
     exact⟨_,.cons ra rb⟩) trivial (λ_ _ _ _=>trivial) h
def Al.reads(I:Inv X pins σ H s)(h:Al X.K M H vs ds):∀{us},Vals vs us->D.R8 ds=true->∃as,ReadsAll s.heap us (D.pys ds) as:=
 h.ind (P:=λvs ds=>∀{us:Wp uT},Vals vs us->D.R8 ds=true->∃as,ReadsAll s.heap us (D.pys ds) as) (λr _=>by cases r;exact⟨_,.nil⟩) (λ{v d vs ds} h ih2 _ r hl=>by
  cases r with
  |cons r1 r2=>
   have hl':(D.lay d && D.R8 ds)=true:=hl
   rw[uW]at hl'
   obtain⟨as,ra⟩:=h.reads I r1 hl'.1
   obtain⟨bs,rb⟩:=ih2 r2 hl'.2
   exact⟨_,.cons ra rb⟩)
end
noncomputable def deq(a b:D):va:=PyData.eqv a.py b.py
noncomputable def Lb(a b:D):va:=a.lay && b.lay && decide (min a.py.depth b.py.depth<=60)
noncomputable def wEq:Op2:=λa b=>if Lb (fz a) (fz b)=true then Gc (.val (.bl (deq (fz a) (fz b))))else none
noncomputable def wNe:Op2:=λa b=>if Lb (fz a) (fz b)=true then Gc (.val (.bl (!deq (fz a) (fz b))))else none
section
variable{X:Cx}
def Sh.reads{pins:Wp (ue×Obj)}{σ:Sg}(h:Sh X.K M H v w)(I:Inv X pins σ H s)(r:RelV v u)(hl:(fz w).lay=true):∃as,Reads s.heap u (fz w).py as:=by
 cases w with
 |val d=>exact Bz.reads I h r hl
 |own ds=>
  obtain⟨a,xs,rfl,h1,h2⟩:=h
  cases r
  obtain⟨its,rv,o,n,e,hc,hd⟩:=NM I (.inl h1)
  obtain⟨as,ra⟩:=Al.reads I h2 rv hl
  exact⟨_,.list e hc hd ra⟩
def iT(hu:X.A.units+100<cLine):OpR X (compareOp .Eq) (rOp X.K wEq):=by
 intro pins s σ H x y v u Q I rx ry h
 obtain⟨M,w1,w2,r,e,mo,s1,s2,q⟩:=h
 unfold wEq at e
 split at e
 .rename_i hk
  unfold Lb at hk
  rw[uW,uW]at hk
  cases e
  obtain⟨as,ra⟩:=s1.reads I rx hk.1.1
  obtain⟨bs,rb⟩:=s2.reads I ry hk.1.2
  have hd:=uc hk.2
  exact SeqAt.compareEq_reads ra rb (Ky hk.1.1) (Ky hk.1.2) (by lia) ⟨.bl _,H,I,rfl,q _ _ (.same mo (.bl _))⟩
 .cases e
def IQ(hu:X.A.units+100<cLine):OpR X (compareOp .NotEq) (rOp X.K wNe):=by
 intro pins s σ H x y v u Q I rx ry h
 obtain⟨M,w1,w2,r,e,mo,s1,s2,q⟩:=h
 unfold wNe at e
 split at e
 .rename_i hk
  unfold Lb at hk
  rw[uW,uW]at hk
  cases e
  obtain⟨as,ra⟩:=s1.reads I rx hk.1.1
  obtain⟨bs,rb⟩:=s2.reads I ry hk.1.2
  have hd:=uc hk.2
  exact SeqAt.compareNe_reads ra rb (Ky hk.1.1) (Ky hk.1.2) (by lia) ⟨.bl _,H,I,rfl,q _ _ (.same mo (.bl _))⟩
 .cases e
noncomputable def wI2(f:Int->Int->uM D):Op2
 | .val (.int i),.val (.int j)=>(f i j).map .val
 |_,_=>none
def Sq(o:OpR X g (rI C h))(hf:∀i j d,f i j=Gc d->C i j/\∀K M H,Bz K M H (h i j) d):OpR X g (rOp X.K (wI2 f)):=by
 intro pins s σ H x y v u Q I rx ry hh
 obtain⟨M,w1,w2,r,e,mo,s1,s2,q⟩:=hh
 unfold wI2 at e
 split at e
 .obtain rfl:=Bz.iv s1
  obtain rfl:=Bz.iv s2
  rename_i i j
  cases e1:f i j with
  |none=>rw[e1]at e;cases e
  |some d=>
   rw[e1]at e
   cases e
   obtain⟨c,rd⟩:=hf i j d e1
   exact o pins s σ H _ _ v u Q I rx ry ⟨i,j,rfl,rfl,c,q _ _ (.same mo (rd _ _ _))⟩
 .cases e
def Nj(o:OpR X g (rI0 h))(hf:∀i j d,f i j=Gc d->∀K M H,Bz K M H (h i j) d):OpR X g (rOp X.K (wI2 f)):=by
 intro pins s σ H x y v u Q I rx ry hh
 obtain⟨M,w1,w2,r,e,mo,s1,s2,q⟩:=hh
 unfold wI2 at e
 split at e
 .obtain rfl:=Bz.iv s1
  obtain rfl:=Bz.iv s2
  rename_i i j
  cases e1:f i j with
  |none=>rw[e1]at e;cases e
  |some d=>
   rw[e1]at e
   cases e
   exact o pins s σ H _ _ v u Q I rx ry ⟨i,j,rfl,rfl,q _ _ (.same mo (hf i j d e1 _ _ _))⟩
 .cases e
noncomputable def Pw:Op2:=wI2 λi j=>Gc (.int (i-j))
noncomputable def aO:Nat:=2^60000
noncomputable def F6:Nat:=2^8000
noncomputable def C8(i j:Int):va:=decide (i.natAbs<2^64)||(decide (j.natAbs<2^64)||(decide (i.natAbs<aO) && decide (j.natAbs<aO)))
def cG:OpR X (binaryOp .Mult) (rI (λi j=>C8 i j=true) λi j=>.int (i*j)):=by
 intro pins s σ H x y v u Q I rx ry h
 obtain⟨i,j,rfl,rfl,hk,q⟩:=h
 unfold C8 at hk
 rw[vt,vt,uW]at hk
 rcases hk with hk|hk|hk
 .have:=uc hk
  exact ZV pins s σ H _ _ v u Q I rx ry ⟨i,j,rfl,rfl,.inl ⟨by lia,by lia⟩,q⟩
 .have:=uc hk
  exact ZV pins s σ H _ _ v u Q I rx ry ⟨i,j,rfl,rfl,.inr ⟨by lia,by lia⟩,q⟩
 .have h1:i.natAbs<2^60000:=uc hk.1
  have h2:j.natAbs<2^60000:=uc hk.2
  obtain⟨t1,rfl⟩:=rx
  obtain⟨t2,rfl⟩:=ry
  exact PyProof.Rows.mul_int ⟨.int _,H,I.tok _,⟨_,rfl⟩,q⟩ (PyProof.Rows.mulOk_of_bits (m:=60000) (n:=60000) (ABH.mpr h1) (ABH.mpr h2) (by decide))
noncomputable def oH:Op2:=wI2 λi j=>if C8 i j=true then Gc (.int (i*j))else none
noncomputable def Nv:Op2:=wI2 λi j=>if(decide (0<j) && decide (j.natAbs<F6))=true then Gc (.int (i / j))else none
noncomputable def RB:Op2:=wI2 λi j=>if 0<j then Gc (.int (i % j))else none
noncomputable def jv:Op2:=wI2 λi j=>if(decide (0<=j) && decide (j<=1000) && decide (i.natAbs<2^64))=true then Gc (.int (i^j.toNat))else none
noncomputable def wLt:Op2:=wI2 λi j=>Gc (.bl (decide (i<j)))
noncomputable def wLe:Op2:=wI2 λi j=>Gc (.bl (decide (i<=j)))
noncomputable def wGt:Op2:=wI2 λi j=>Gc (.bl (decide (j<i)))
noncomputable def wGe:Op2:=wI2 λi j=>Gc (.bl (decide (j<=i)))
def nh:OpR X (binaryOp .Sub) (rOp X.K Pw):=Nj fq λi j d e K M H=>by cases e;exact .int _
def bA:OpR X (binaryOp .Mult) (rOp X.K oH):=Sq cG λi j d e=>by
 split at e
 .rename_i hk
  cases e
  exact⟨hk,λ_ _ _=>.int _⟩
 .cases e
def j5:OpR X (binaryOp .FloorDiv) (rOp X.K Nv):=Sq St.Xd λi j d e=>by
 split at e
 .rename_i hk
  rw[uW]at hk
  cases e
  exact⟨⟨uc hk.1,uc hk.2⟩,λ_ _ _=>.int _⟩
 .cases e
def l7:OpR X (binaryOp .Mod) (rOp X.K RB):=Sq iS λi j d e=>by
 split at e
 .rename_i hk
  cases e
  exact⟨hk,λ_ _ _=>.int _⟩
 .cases e
def nD:OpR X (binaryOp .Pow) (rOp X.K jv):=Sq fK λi j d e=>by
 split at e
 .rename_i hk
  rw[uW,uW]at hk
  cases e
  have:=uc hk.1.2
  exact⟨⟨uc hk.1.1,by lia,uc hk.2⟩,λ_ _ _=>.int _⟩
 .cases e
def qV:OpR X (compareOp .Lt) (rOp X.K wLt):=Nj nJ λi j d e K M H=>by cases e;exact .bl _
def qL:OpR X (compareOp .LtE) (rOp X.K wLe):=Nj cS λi j d e K M H=>by cases e;exact .bl _
def Z7:OpR X (compareOp .Gt) (rOp X.K wGt):=Nj oS λi j d e K M H=>by cases e;exact .bl _
def pw:OpR X (compareOp .GtE) (rOp X.K wGe):=Nj ni λi j d e K M H=>by cases e;exact .bl _
noncomputable def asL:Wv->uM (Wp D)
 | .own ds=>Gc ds
 | .val (.lst ds)=>Gc ds
 |_=>none
noncomputable def asT:Wv->uM (Wp D)
 | .val (.tup ds)=>Gc ds
 |_=>none
noncomputable def asC:Wv->uM (Wp D)
 | .val (.scr ns)=>Gc (ns.map .int)
 |_=>none
noncomputable def asS(w:Wv):uM (Wp D):=(asL w).or ((asT w).or (asC w))
section
variable{K:uF}{M:Ms}{H:Hp}{v:V}{w:Wv}{ds:Wp D}
def Sh.l(h:Sh K M H v w)(e:asL w=Gc ds):∃a xs,v=.ref a/\H a=Gc (.lst xs)/\Al K M H xs ds:=by
 cases w with
 |own es=>cases e;obtain⟨a,xs,rfl,h1,h2⟩:=h;exact⟨a,xs,rfl,h1,h2⟩
 |val d=>
  cases d<;>first|(cases e;done)|skip
  cases e
  cases h with
  |lst h n r=>exact⟨_,_,rfl,h,r⟩
def Sh.t(h:Sh K M H v w)(e:asT w=Gc ds):∃a xs,v=.ref a/\SqT K H a xs/\Al K M H xs ds:=by
 cases w with
 |own es=>cases e
 |val d=>
  cases d<;>first|(cases e;done)|skip
  cases e
  cases h with
  |tup h r=>exact⟨_,_,rfl,h,r⟩
theorem MG:∀{ns:Wp Int},Al K M H (ns.map V.int) (ns.map D.int)
 | []=>.nil
 |n::ns=>.cons (.int n) MG
def Sh.c(h:Sh K M H v w)(e:asC w=Gc ds):∃a xs,v=.ref a/\SqL K H a xs/\Al K M H xs ds:=by
 cases w with
 |own es=>cases e
 |val d=>
  cases d<;>first|(cases e;done)|skip
  cases e
  cases h with
  |scr h=>
   refine⟨_,_,rfl,?_,MG⟩
   rcases h with h|h
   .exact .inl h.1
   .exact .inr h
def Sh.s(h:Sh K M H v w)(e:asS w=Gc ds):∃a xs,v=.ref a/\(SqL K H a xs\/SqT K H a xs)/\Al K M H xs ds:=by
 unfold asS at e
 cases e1:asL w with
 |some es=>
  rw[e1]at e
  cases e
  obtain⟨a,xs,h1,h2,h3⟩:=h.l e1
  exact⟨a,xs,h1,.inl (.of h2),h3⟩
 |none=>
  rw[e1]at e
  cases e2:asT w with
  |some es=>
   rw[e2]at e
   cases e
   obtain⟨a,xs,h1,h2,h3⟩:=h.t e2
   exact⟨a,xs,h1,.inr h2,h3⟩
  |none=>
   rw[e2]at e
   obtain⟨a,xs,h1,h2,h3⟩:=h.c e
   exact⟨a,xs,h1,.inl h2,h3⟩
end
noncomputable def EB:Op1:=λw=>match w with
 | .val (.str z)=>if z.length<=sizeLine then Gc (.val (.int z.length))else none
 |_=>(asS w).map λds=>.val (.int ds.length)
def EL:EW X (.builtin "len") (rN X.K (o1 EB)):=by
 intro pins s σ H xs us Q I r h
 obtain⟨M,ws,w,e,mo,sh,q⟩:=h
 cases sh with
 |nil=>cases e
 |cons h1 t=>
  cases t with
  |cons h2 t=>cases e
  |nil=>
   rename_i v w1
   have e':EB w1=Gc w:=e
   unfold EB at e'
   split at e'
   .split at e'
    .rename_i z hz
     cases e'
     cases h1
     exact Qr pins s σ H _ us Q I r ⟨z,rfl,hz,q _ _ (.same mo (.int _))⟩
    .cases e'
   .cases e1:asS w1 with
    |none=>rw[e1]at e';cases e'
    |some ds=>
     rw[e1]at e'
     cases e'
     obtain⟨a,ys,rfl,h3,h4⟩:=h1.s e1
     refine P7 pins s σ H _ us Q I r ⟨a,ys,rfl,h3,q _ _ ?_⟩
     rw[h4.length]
     exact .same mo (.int _)
noncomputable def wIx:Op2:=λa b=>match a,b with
 |a,.val (.int i)=>(asS a).bind λds=>(atI ds i).map .val
 |_,_=>none
def du(h:Al K M H xs ds)(e:atI ds i=Gc d):∃x,atI xs i=Gc x/\Bz K M H x d:=by
 unfold atI at e⊢
 rw[h.length]
 cases e1:ixN ds.length i with
 |none=>rw[e1]at e;cases e
 |some j=>
  rw[e1]at e
  exact h.get e
def Mt:IxR X (rOp X.K wIx):=by
 intro value slice pins s σ H x y v u Q I rx ry h hs
 obtain⟨M,w1,w2,r,e,mo,s1,s2,q⟩:=h
 unfold wIx at e
 split at e
 .rename_i i
  cases e1:asS w1 with
  |none=>rw[e1]at e;cases e
  |some ds=>
   rw[e1]at e
   simp only[AAh]at e
   cases e2:atI ds i with
   |none=>rw[e2]at e;cases e
   |some d=>
    rw[e2]at e
    cases e
    obtain rfl:=Bz.iv s2
    obtain⟨a,ys,rfl,h3,h4⟩:=s1.s e1
    obtain⟨z,h5,h6⟩:=du h4 e2
    rcases h3 with h3|h3
    .exact bL value slice pins s σ H _ _ v u Q I rx ry ⟨a,ys,i,z,rfl,rfl,h3,h5,q _ _ (.same mo h6)⟩ hs
    .exact g9 value slice pins s σ H _ _ v u Q I rx ry ⟨a,ys,i,z,rfl,rfl,h3,h5,q _ _ (.same mo h6)⟩ hs
 .cases e
end
section
variable{X:Cx}
noncomputable def asI:Wv->uM Int
 | .val (.int i)=>Gc i
 |_=>none
noncomputable def asX:Wv->uM Str
 | .val (.str x)=>Gc x
 |_=>none
def P4(e:asI w=Gc i):w=.val (.int i):=by
 cases w with
 |own=>cases e
 |val d=>cases d with
  |int=>cases e;rfl
  |_=>cases e
def ZK(e:asX w=Gc i):w=.val (.str i):=by
 cases w with
 |own=>cases e
 |val d=>cases d with
  |str=>cases e;rfl
  |_=>cases e
def SI(e:asT w=Gc i):w=.val (.tup i):=by
 cases w with
 |own=>cases e
 |val d=>cases d with
  |tup=>cases e;rfl
  |_=>cases e
noncomputable def Tv{α β:Type}(f:Wv->uM α)(g:α->α->uM β)(h:uM β)(a b:Wv):uM β:=match f a with
 |none=>h
 |some x=>match f b with
  |none=>h
  |some y=>g x y
def PL{α β:Type}{f:Wv->uM α}{g:α->α->uM β}{h:uM β}{r:β}(e:Tv f g h a b=Gc r):h=Gc r\/∃x y,f a=Gc x/\f b=Gc y/\g x y=Gc r:=by
 unfold Tv at e
 cases e1:f a with
 |none=>rw[e1]at e;exact .inl e
 |some x=>
  rw[e1]at e
  cases e2:f b with
  |none=>rw[e2]at e;exact .inl e
  |some y=>rw[e2]at e;exact .inr ⟨x,y,rfl,rfl,e⟩
noncomputable def Cr:Op2:=λa b=>Tv asI (λi j=>Gc (.val (.int (i+j)))) (Tv asX (λx y=>if x.length+y.length<=sizeLine then Gc (.val (.str (x++y)))else none) (Tv asT (λxs ys=>if xs.length+ys.length<=sizeLine then Gc (.val (.tup (xs++ys)))else none)
 (Tv asL (λxs ys=>if xs.length+ys.length<=sizeLine then Gc (.own (xs++ys))else none) none a b) a b) a b) a b
def UD{α:Type}{p:Prop} [Decidable p] {x:α}{r:α}(e:(if p then Gc x else none)=Gc r):p/\x=r:=by
 by_cases h:p
 .rw[vF h]at e;cases e;exact⟨h,rfl⟩
 .rw[vL h]at e;cases e
def RH:OpR X (binaryOp .Add) (rOp X.K Cr):=by
 intro pins s σ H x y v u Q I rx ry h
 obtain⟨M,w1,w2,r,e,mo,s1,s2,q⟩:=h
 rcases PL e with e|⟨i,j,e1,e2,e⟩
 .rcases PL e with e|⟨i,j,e1,e2,e⟩
  .rcases PL e with e|⟨xs,ys,e1,e2,e⟩
   .rcases PL e with e|⟨xs,ys,e1,e2,e⟩
    .cases e
    .obtain⟨hz,rfl⟩:=UD e
     obtain⟨a,xs',rfl,h1,r1⟩:=s1.l e1
     obtain⟨b,ys',rfl,h2,r2⟩:=s2.l e2
     have l1:=r1.length
     have l2:=r2.length
     exact i0 pins s σ H _ _ v u Q I rx ry ⟨a,b,xs',ys',rfl,rfl,h1,h2,by lia,λp hp=>q _ _ (.lst mo hp (r1.append r2))⟩
   .obtain rfl:=SI e1
    obtain rfl:=SI e2
    obtain⟨hz,rfl⟩:=UD e
    obtain⟨a,xs',rfl,h1,r1⟩:=Bz.iv s1
    obtain⟨b,ys',rfl,h2,r2⟩:=Bz.iv s2
    have l1:=r1.length
    have l2:=r2.length
    by_cases hx:xs'=[]
    .subst hx
     cases r1
     refine St.cK pins s σ H _ _ v u Q I rx ry ⟨_,_,_,rfl,rfl,h1,h2,q _ _ (.same mo ?_)⟩
     exact .tup h2 r2
    .refine c8 pins s σ H _ _ v u Q I rx ry ⟨_,_,_,_,rfl,rfl,h1,h2,hx,by lia,λz=>?_,λ_ p hp=>q _ _ (.tup mo hp (r1.append r2))⟩
     subst z
     cases r2
     rw[xZ]at q
     exact q _ _ (.same mo (.tup h1 r1))
  .obtain rfl:=ZK e1
   obtain rfl:=ZK e2
   obtain⟨hz,rfl⟩:=UD e
   obtain rfl:=Bz.iv s1
   obtain rfl:=Bz.iv s2
   exact Ub pins s σ H _ _ v u Q I rx ry ⟨_,_,rfl,rfl,hz,q _ _ (.same mo (.str _))⟩
 .obtain rfl:=P4 e1
  obtain rfl:=P4 e2
  cases e
  obtain rfl:=Bz.iv s1
  obtain rfl:=Bz.iv s2
  exact fG pins s σ H _ _ v u Q I rx ry ⟨_,_,rfl,rfl,q _ _ (.same mo (.int _))⟩
noncomputable def fU:Op2:=λa b=>(asI b).bind λk=>match asI a with
 |some i=>if C8 i k=true then Gc (.val (.int (i*k)))else none
 |none=>match asT a with
  |some xs=>if(!xs.isEmpty && decide (1<=k) && decide (xs.length*k.toNat<=sizeLine))=true then Gc (.val (.tup (uu k.toNat xs).flatten))else none
  |none=>(asL a).bind λxs=>if(decide (k<2^63) && decide (-(2^63)<=k) && decide (xs.length*k.toNat<=sizeLine))=true then Gc (.own (uu k.toNat xs).flatten)else none
theorem Al.rep(h:Al K M H xs ds):∀n,Al K M H (uu n xs).flatten (uu n ds).flatten
 |0=>.nil
 |n+1=>by
  rw[wV,wV,xi,xi]
  exact h.append (Al.rep h n)
def bD:OpR X (binaryOp .Mult) (rOp X.K fU):=by
 intro pins s σ H x y v u Q I rx ry h
 obtain⟨M,w1,w2,r,e,mo,s1,s2,q⟩:=h
 obtain⟨k,e2,e0⟩:=As e
 obtain rfl:=P4 e2
 clear e e2
 cases e1:asI w1 with
 |some i=>
  obtain rfl:=P4 e1
  clear e1
  refine bA pins s σ H x y v u Q I rx ry ⟨M,_,_,r,?_,mo,s1,s2,q⟩
  obtain⟨hk,rfl⟩:=UD e0
  show ABj Wv.val (if C8 i k=true then Gc (D.int (i*k))else none)=Gc _
  rw[vF hk]
  rfl
 |none=>
  rw[e1]at e0
  dsimp only at e0
  obtain rfl:=Bz.iv s2
  cases e3:asT w1 with
  |some xs=>
   rw[e3]at e0
   obtain rfl:=SI e3
   obtain⟨hk,rfl⟩:=UD e0
   rw[uW,uW]at hk
   obtain⟨a,ys,rfl,h1,r1⟩:=Bz.iv s1
   have l1:=r1.length
   have z:=uc hk.2
   have hk1:=uc hk.1.2
   have hne:ys≠[]:=λzz=>by
    subst zz
    cases r1
    exact absurd hk.1.1 (by decide)
   refine dm pins s σ H _ _ v u Q I rx ry ⟨a,ys,k,rfl,rfl,h1,hne,hk1,by rw[l1];exact z,λe1=>?_,λ_ p hp=>q _ _ (.tup mo hp (r1.rep _))⟩
   subst e1
   have:(uu (1:Int).toNat xs).flatten=xs:=by simp
   rw[this]at q
   exact q _ _ (.same mo (.tup h1 r1))
  |none=>
   rw[e3]at e0
   obtain⟨xs,e4,e0⟩:=As e0
   obtain⟨hk,rfl⟩:=UD e0
   rw[uW,uW]at hk
   obtain⟨a,xs',rfl,h1,r1⟩:=s1.l e4
   have l1:=r1.length
   have z:=uc hk.2
   exact ic pins s σ H _ _ v u Q I rx ry ⟨a,k,xs',rfl,rfl,h1,uc hk.1.2,uc hk.1.1,by rw[l1];exact z,λp hp=>q _ _ (.lst mo hp (r1.rep _))⟩
noncomputable def Zp:Op1
 | .val (.int i)=>Gc (.val (.int (-i)))
 |_=>none
def mP:UnR X (unaryOp .USub) (rUn X.K Zp):=by
 intro pins s σ H x v Q I rx h
 obtain⟨M,w,r,e,mo,s1,q⟩:=h
 unfold Zp at e
 split at e
 .cases e
  obtain rfl:=Bz.iv s1
  exact gJ pins s σ H _ v Q I rx ⟨_,rfl,q _ _ (.same mo (.int _))⟩
 .cases e
noncomputable def Ii:D->va
 | .non=>true| .bl _=>true| .int _=>true| .str _=>true
 |_=>false
def Sh.flat(h:Sh K M H v w)(f:Ii (fz w)=true):Bz K M H v (fz w):=by
 cases w with
 |val d=>exact h
 |own ds=>cases f
noncomputable def inD(x:D)(xs:Wp D):va:=xs.any λy=>deq y x
def Sn(h:Bz K M H v d)(f:Ii d=true):Nn v=true:=by
 cases h<;>first|rfl|cases f
def ax(h:Bz K M H v d)(g:Bz K M H u e)(f:Ii d=true)(f':Ii e=true):eqV v u=deq d e:=by
 cases h<;>first|(cases f;done)|skip
 all_goals (cases g<;>first|(cases f';done)|rfl)
def VS(h:Al K M H vs ds):ds.all Ii=true->vs.all Nn=true:=h.ind (P:=λvs ds=>ds.all Ii=true->vs.all Nn=true) (λ_=>rfl) λh t f=>by
 rw[yc,uW]at f⊢
 exact⟨Sn h f.1,t f.2⟩
def dZ(g:Bz K M H u e)(f':Ii e=true)(h:Al K M H vs ds):ds.all Ii=true->inV u vs=inD e ds:=h.ind (P:=λvs ds=>ds.all Ii=true->inV u vs=inD e ds) (λ_=>rfl) λh t f=>by
 rw[yc,uW]at f
 have ih:=t f.2
 unfold inV inD at ih⊢
 rw[AAS,AAS,ih,ax h g f.1 f']
noncomputable def wIn(neg:va):Op2:=λa b=>(asS b).bind λds=>if(Ii (fz a) && ds.all Ii)=true then Gc (.val (.bl (if neg then !inD (fz a) ds else inD (fz a) ds)))else none
def aF(e:wIn neg w1 w2=Gc r)(mo:MOk M H)(s1:Sh X.K M H x w1)(s2:Sh X.K M H y w2)(q:∀v H',Nw X.K M H H' v r->Q v H'):rIn X.K neg x y H Q:=by
 unfold wIn at e
 cases e1:asS w2 with
 |none=>rw[e1]at e;cases e
 |some ds=>
  rw[e1]at e
  simp only[AAh]at e
  split at e
  .rename_i hk
   rw[uW]at hk
   cases e
   obtain⟨a,xs,rfl,h3,h4⟩:=s2.s e1
   have g1:=s1.flat hk.1
   refine⟨a,xs,rfl,h3,Sn g1 hk.1,VS h4 hk.2,?_⟩
   rw[dZ g1 hk.1 h4 hk.2]
   exact q _ _ (.same mo (.bl _))
  .cases e
def pW:OpR X (compareOp .In) (rOp X.K (wIn false)):=by
 intro pins s σ H x y v u Q I rx ry h
 obtain⟨M,w1,w2,r,e,mo,s1,s2,q⟩:=h
 exact WI pins s σ H _ _ v u Q I rx ry (aF e mo s1 s2 q)
def U5:OpR X (compareOp .NotIn) (rOp X.K (wIn true)):=by
 intro pins s σ H x y v u Q I rx ry h
 obtain⟨M,w1,w2,r,e,mo,s1,s2,q⟩:=h
 exact QZ pins s σ H _ _ v u Q I rx ry (aF e mo s1 s2 q)
noncomputable def isN:Wv->va
 | .val .non=>true
 |_=>false
noncomputable def Wj(neg:va):Op2:=λa b=>match b with
 | .val .non=>Gc (.val (.bl (if neg then !isN a else isN a)))
 |_=>none
def VC(s:Sh K M H x w):decide (x=.non)=isN w:=by
 cases w with
 |own ds=>obtain⟨a,xs,rfl,_⟩:=s;rfl
 |val d=>cases s<;>rfl
def U8:OpR X (compareOp .Is) (rOp X.K (Wj false)):=by
 intro pins s σ H x y v u Q I rx ry h
 obtain⟨M,w1,w2,r,e,mo,s1,s2,q⟩:=h
 unfold Wj at e
 split at e
 .cases e
  obtain rfl:=Bz.iv s2
  refine ji pins s σ H _ _ v u Q I rx ry ⟨rfl,?_⟩
  rw[VC s1]
  exact q _ _ (.same mo (.bl _))
 .cases e
def kc:OpR X (compareOp .IsNot) (rOp X.K (Wj true)):=by
 intro pins s σ H x y v u Q I rx ry h
 obtain⟨M,w1,w2,r,e,mo,s1,s2,q⟩:=h
 unfold Wj at e
 split at e
 .cases e
  obtain rfl:=Bz.iv s2
  refine dN pins s σ H _ _ v u Q I rx ry ⟨rfl,?_⟩
  rw[VC s1]
  exact q _ _ (.same mo (.bl _))
 .cases e
def Js(h:Shs K M H xs ws)(e:o1 f ws=Gc r):∃v w,xs=[v]/\ws=[w]/\Sh K M H v w/\f w=Gc r:=by
 cases h with
 |nil=>cases e
 |cons h1 t=>
  cases t with
  |cons h2 t=>cases e
  |nil=>exact⟨_,_,rfl,rfl,h1,e⟩
def RN(h:Shs K M H xs ws)(e:o2 f ws=Gc r):∃v w v' w',xs=[v,v']/\ws=[w,w']/\Sh K M H v w/\Sh K M H v' w'/\f w w'=Gc r:=by
 cases h with
 |nil=>cases e
 |cons h1 t=>
  cases t with
  |nil=>cases e
  |cons h2 t=>
   cases t with
   |cons h3 t=>cases e
   |nil=>exact⟨_,_,_,_,rfl,rfl,h1,h2,e⟩
noncomputable def eM:Op1
 | .val (.int i)=>Gc (.val (.int (if i<0 then-i else i)))
 |_=>none
def jY:EW X (.builtin "abs") (rN X.K (o1 eM)):=by
 intro pins s σ H xs us Q I r h
 obtain⟨M,ws,w,e,mo,sh,q⟩:=h
 obtain⟨v,w1,rfl,rfl,s1,e1⟩:=Js sh e
 unfold eM at e1
 split at e1
 .cases e1
  obtain rfl:=Bz.iv s1
  exact ZE pins s σ H _ us Q I r ⟨_,rfl,q _ _ (.same mo (.int _))⟩
 .cases e1
noncomputable def kE:Op2:=wI2 λi j=>Gc (.int (if j>i then j else i))
noncomputable def eL:Op2:=wI2 λi j=>Gc (.int (if j<i then j else i))
def SX(e:wI2 f a b=Gc r):∃i j d,a=.val (.int i)/\b=.val (.int j)/\f i j=Gc d/\r=.val d:=by
 unfold wI2 at e
 split at e
 .rename_i i j
  cases e1:f i j with
  |none=>rw[e1]at e;cases e
  |some d=>rw[e1]at e;cases e;exact⟨i,j,d,rfl,rfl,e1,rfl⟩
 .cases e
def VG(hc:X.calm=true):EW X (.builtin "max") (rN X.K (o2 kE)):=by
 intro pins s σ H xs us Q I r h
 obtain⟨M,ws,w,e,mo,sh,q⟩:=h
 obtain⟨v,w1,v',w2,rfl,rfl,s1,s2,e1⟩:=RN sh e
 obtain⟨i,j,d,rfl,rfl,e2,rfl⟩:=SX e1
 cases e2
 obtain rfl:=Bz.iv s1
 obtain rfl:=Bz.iv s2
 exact Uz hc pins s σ H _ us Q I r ⟨_,_,rfl,q _ _ (.same mo (.int _))⟩
def W7(hc:X.calm=true):EW X (.builtin "min") (rN X.K (o2 eL)):=by
 intro pins s σ H xs us Q I r h
 obtain⟨M,ws,w,e,mo,sh,q⟩:=h
 obtain⟨v,w1,v',w2,rfl,rfl,s1,s2,e1⟩:=RN sh e
 obtain⟨i,j,d,rfl,rfl,e2,rfl⟩:=SX e1
 cases e2
 obtain rfl:=Bz.iv s1
 obtain rfl:=Bz.iv s2
 exact Va hc pins s σ H _ us Q I r ⟨_,_,rfl,q _ _ (.same mo (.int _))⟩
noncomputable def Br:Op1:=λw=>(asS w).map λds=>.val (.tup ds)
def Jx:EW X (.type "tuple") (rN X.K (o1 Br)):=by
 intro pins s σ H xs us Q I r h
 obtain⟨M,ws,w,e,mo,sh,q⟩:=h
 obtain⟨v,w1,rfl,rfl,s1,e1⟩:=Js sh e
 unfold Br at e1
 cases e2:asS w1 with
 |none=>rw[e2]at e1;cases e1
 |some ds=>
  rw[e2]at e1
  cases e1
  obtain⟨a,ys,rfl,h3,h4⟩:=s1.s e2
  refine PM pins s σ H _ us Q I r ⟨a,ys,rfl,?_⟩
  rcases h3 with h3|h3
  .exact .inl ⟨h3,λl hl=>q _ _ (.tup mo hl h4)⟩
  .exact .inr ⟨h3,q _ _ (.same mo (.tup h3 h4))⟩
noncomputable def N5:Op1:=λw=>(asS w).map λds=>.own ds
def UA:EW X (.type "list") (rN X.K (o1 N5)):=by
 intro pins s σ H xs us Q I r h
 obtain⟨M,ws,w,e,mo,sh,q⟩:=h
 obtain⟨v,w1,rfl,rfl,s1,e1⟩:=Js sh e
 unfold N5 at e1
 cases e2:asS w1 with
 |none=>rw[e2]at e1;cases e1
 |some ds=>
  rw[e2]at e1
  cases e1
  obtain⟨a,ys,rfl,h3,h4⟩:=s1.s e2
  exact Qf pins s σ H _ us Q I r ⟨a,ys,rfl,h3,λl hl=>q _ _ (.lst mo hl h4)⟩
noncomputable def ak:Op1
 | .val (.int i)=>Gc (.val (.int i))
 | .val (.bl b)=>Gc (.val (.int (if b then 1 else 0)))
 |_=>none
def jC:EW X (.type "int") (rN X.K (o1 ak)):=by
 intro pins s σ H xs us Q I r h
 obtain⟨M,ws,w,e,mo,sh,q⟩:=h
 obtain⟨v,w1,rfl,rfl,s1,e1⟩:=Js sh e
 unfold ak at e1
 split at e1
 .cases e1
  obtain rfl:=Bz.iv s1
  exact Qq pins s σ H _ us Q I r (.inl ⟨_,rfl,q _ _ (.same mo (.int _))⟩)
 .cases e1
  obtain rfl:=Bz.iv s1
  exact Qq pins s σ H _ us Q I r (.inr ⟨_,rfl,q _ _ (.same mo (.int _))⟩)
 .cases e1
noncomputable def blD:D->uM va
 | .bl b=>Gc b
 |_=>none
noncomputable def bls(ds:Wp D):uM (Wp va):=ds.mapM blD
theorem WH:∀{vs} {ds} {bs},Al K M H vs ds->bls ds=Gc bs->vs=bs.map V.bl
 |_,_,bs,.nil,e=>by cases e;rfl
 |_,_,bs,.cons (d:=d) (ds:=ds) h t,e=>by
  unfold bls at e
  rw[z8]at e
  cases e1:blD d with
  |none=>rw[e1]at e;cases e
  |some b=>
   rw[e1]at e
   cases e2:ds.mapM blD with
   |none=>rw[e2]at e;cases e
   |some cs=>
    rw[e2]at e
    cases e
    have hd:d=.bl b:=by
     cases d<;>first|(cases e1;done)|skip
     cases e1;rfl
    subst hd
    cases h
    rw[uV,<-WH t e2]
noncomputable def XO:Op1:=λw=>(asL w).bind λds=>(bls ds).map λbs=>.val (.bl (bs.all id))
def Qk(hc:X.calm=true):EW X (.builtin "all") (rN X.K (o1 XO)):=by
 intro pins s σ H xs us Q I r h
 obtain⟨M,ws,w,e,mo,sh,q⟩:=h
 obtain⟨v,w1,rfl,rfl,s1,e1⟩:=Js sh e
 unfold XO at e1
 cases e2:asL w1 with
 |none=>rw[e2]at e1;cases e1
 |some ds=>
  rw[e2]at e1
  simp only[AAh]at e1
  cases e3:bls ds with
  |none=>rw[e3]at e1;cases e1
  |some bs=>
   rw[e3]at e1
   cases e1
   obtain⟨a,ys,rfl,h3,h4⟩:=s1.l e2
   exact St.U0 hc pins s σ H _ us Q I r ⟨a,bs,rfl,by rw[<-WH h4 e3];exact .of h3,q _ _ (.same mo (.bl _))⟩
noncomputable def kdW:Wv->uM St.Kd
 | .own _=>Gc .lst
 | .val .non=>Gc .non| .val (.bl _)=>Gc .bl| .val (.int _)=>Gc .int| .val (.str _)=>Gc .str| .val (.lst _)=>Gc .lst| .val (.dct _)=>Gc .dct| .val (.tup _)=>Gc .tup
 | .val (.ty _)=>none| .val (.scr _)=>none| .val (.ref _)=>none
end
section
variable{X:Cx}
def YF(k:St.Kd):xK K (.type k.ty) (.type "list")=Gc (k.isA "list"):=by
 cases k<;>rfl
noncomputable def Ql(T:yJ):va:=T== "int" ||T== "bool" ||T== "tuple" ||T== "str" ||T== "list"
def gB(h:Ql T=true)(k:St.Kd):xK K (.type k.ty) (.type T)=Gc (k.isA T):=by
 unfold Ql at h
 simp only[vt,xN]at h
 rcases h with(((rfl|rfl)|rfl)|rfl)|rfl
 .exact St.cR k
 .exact St.X9 k
 .exact St.kit_tuple k
 .exact St.ao k
 .exact YF k
noncomputable def Ro:Op2:=λa t=>match t with
 | .val (.ty T)=>if Ql T=true then(kdW a).map λk=>.val (.bl (k.isA T))else none
 |_=>none
def NT:EW X (.builtin "isinstance") (rN X.K (o2 Ro)):=by
 intro pins s σ H xs us Q I r h
 obtain⟨M,ws,w,e,mo,sh,q⟩:=h
 obtain⟨v,w1,v',w2,rfl,rfl,s1,s2,e1⟩:=RN sh e
 unfold Ro at e1
 split at e1
 .rename_i T
  split at e1
  .rename_i hT
   cases e2:kdW w1 with
   |none=>rw[e2]at e1;cases e1
   |some k=>
    rw[e2]at e1
    cases e1
    obtain rfl:=Bz.iv s2
    obtain⟨u1,u2,rfl,r1,r2⟩:=r.two
    cases (show u2=zd T from r2)
    have fin:∀tk,EP X pins σ Q (.bool (k.isA T)) {s with toks:=tk}:=λtk=>⟨.bl _,H,I.tok tk,rfl,q _ _ (.same mo (.bl _))⟩
    have kk:=gB (K:=X.K) hT k
    cases w1 with
    |own ds=>
     cases e2
     obtain⟨a,ys,rfl,h1,_⟩:=s1
     exact F5 I r1 (.lst h1) kk fin
    |val d=>
     have s1':Bz X.K M H v d:=s1
     cases s1' with
     |non=>cases e2;exact F5 I r1 .non kk fin
     |bl b=>cases e2;exact F5 I r1 (.bl b) kk fin
     |int b=>cases e2;exact F5 I r1 (.int b) kk fin
     |str b=>cases e2;exact F5 I r1 (.str b) kk fin
     |ty b=>cases e2
     |scr h=>cases e2
     |lst h n rr=>cases e2;exact F5 I r1 (.lst h) kk fin
     |dct h n rr=>cases e2;exact F5 I r1 (.dK h) kk fin
     |ref h=>cases e2
     |tup h rr=>
      cases e2
      rename_i a ys ds
      cases (show u1=vT a from r1)
      obtain⟨its,_,⟨o,h1,h2,_⟩,_⟩:=I.tuple h
      exact vp ABc I.kIn ⟨o,h1,h2⟩ kk (λz=>nomatch z) fin
  .cases e1
 .cases e1
noncomputable def BM(fs:Wp Ev):Ev:=λE S=>(evs fs E S).bind λr=>if r.1.length<=sizeLine then Gc (.tup r.1,r.2)else none
noncomputable def Y7(c:va)(fs:Wp Ev):Ev:=λE S=>(evs fs E S).bind λr=>if r.1.length<=sizeLine then fin c (.own r.1) r.2 else none
abbrev KG:=Y7 false
abbrev JY:=Y7 true
def Lk(h:DEs X es fs):DE X (.Tuple es k pos) (BM fs):=⟨Ba (iu h.pe) λσ H Q z=>by
 obtain⟨M,E,S,d,S',e,r,st,q⟩:=z
 obtain⟨⟨ds,S1⟩,e1,e⟩:=As e
 dsimp only at e
 split at e
 .cases e
  refine GP e1 r st λvs H1 M1 g1 st1 d1=>⟨by rw[d1.length];assumption,λp hp=>?_⟩
  have n:=Nw.tup st1.mo hp d1
  exact q _ _ M1 (g1.trans (.grow st1.mo n.grow)) (st1.grow n.grow) n.rel
 .cases e⟩
def jB(h:DEs X es fs):DE X (.List es pos) (Y7 c fs):=⟨Ba (gP h.pe) λσ H Q z=>by
 obtain⟨M,E,S,d,S',e,r,st,q⟩:=z
 obtain⟨⟨ds,S1⟩,e1,e⟩:=As e
 dsimp only at e
 split at e
 .refine GP e1 r st λvs H1 M1 g1 st1 d1=>⟨by rw[d1.length];assumption,λp hp=>?_⟩
  obtain⟨M2,g2,st2,d2⟩:=(Nw.lst st1.mo hp d1).fin st1 e
  exact q _ _ M2 (g1.trans g2) st2 d2
 .cases e⟩
noncomputable def FQ(f g:Ev):Ev:=λE S=>(f E S).bind λr=>match r.1 with
 | .bl true=>g E r.2
 | .bl false=>Gc (.bl false,r.2)
 |_=>none
noncomputable def eOr(f g:Ev):Ev:=λE S=>(f E S).bind λr=>match r.1 with
 | .bl false=>g E r.2
 | .bl true=>Gc (.bl true,r.2)
 |_=>none
noncomputable def Iw(f:Ev):Ev:=λE S=>(f E S).bind λr=>match r.1 with
 | .bl b=>Gc (.bl (!b),r.2)
 |_=>none
noncomputable def eIf(c f g:Ev):Ev:=λE S=>(c E S).bind λr=>match r.1 with
 | .bl true=>f E r.2
 | .bl false=>g E r.2
 |_=>none
def OK(h:Bz K M H v (.bl b)):v=.bl b:=by cases h;rfl
variable{a b c:vw}{rest:Wp vw}{f g h:Ev}
def Zw(h:DE X a f):DE X (.BoolOp op [a] pos) f:=⟨gO h.pe⟩
def gm(ha:DE X a f)(hb:DE X (.BoolOp .And (b::rest) pos) g):DE X (.BoolOp .And (a::b::rest) pos) (FQ f g):=⟨Ba (jG ha.pe hb.pe) λσ H Q z=>by
 obtain⟨M,E,S,d,S',e,r,st,q⟩:=z
 obtain⟨⟨d1,S1⟩,e1,e⟩:=As e
 dsimp only at e
 refine⟨M,E,S,d1,S1,e1,r,st,λv H1 M1 g1 st1 r1=>?_⟩
 split at e
 .cases OK r1
  refine⟨_,rfl,?_⟩
  refine Ye ?_
  exact⟨M1,E,S1,d,S',e,r.step g1.st,st1,λv H2 M2 g2 st2 r2=>q _ _ M2 (g1.trans g2) st2 r2⟩
 .cases e
  cases OK r1
  refine⟨_,rfl,?_⟩
  refine Xi ?_
  exact q _ _ M1 g1 st1 r1
 .cases e⟩
def oV(ha:DE X a f)(hb:DE X (.BoolOp .Or (b::rest) pos) g):DE X (.BoolOp .Or (a::b::rest) pos) (eOr f g):=⟨Ba (md ha.pe hb.pe) λσ H Q z=>by
 obtain⟨M,E,S,d,S',e,r,st,q⟩:=z
 obtain⟨⟨d1,S1⟩,e1,e⟩:=As e
 dsimp only at e
 refine⟨M,E,S,d1,S1,e1,r,st,λv H1 M1 g1 st1 r1=>?_⟩
 split at e
 .cases OK r1
  refine⟨_,rfl,?_⟩
  refine Xi ?_
  exact⟨M1,E,S1,d,S',e,r.step g1.st,st1,λv H2 M2 g2 st2 r2=>q _ _ M2 (g1.trans g2) st2 r2⟩
 .cases e
  cases OK r1
  refine⟨_,rfl,?_⟩
  refine Ye ?_
  exact q _ _ M1 g1 st1 r1
 .cases e⟩
def pL(ha:DE X a f):DE X (.UnaryOp .Not a pos) (Iw f):=⟨Ba (gj ha.pe) λσ H Q z=>by
 obtain⟨M,E,S,d,S',e,r,st,q⟩:=z
 obtain⟨⟨d1,S1⟩,e1,e⟩:=As e
 dsimp only at e
 split at e
 .cases e
  refine⟨M,E,S,_,_,e1,r,st,λv H1 M1 g1 st1 r1=>?_⟩
  cases OK r1
  exact⟨_,rfl,q _ _ M1 g1 st1 (.bl _)⟩
 .cases e⟩
inductive tDT(K:uF)(f:Ev)(σ:Sg)(H:Hp)(Q:va->Hp->Prop):Prop
 |mk (M:Ms) (E:En) (S:Sto) (b:va) (S':Sto) (e:f E S=Gc (.bl b,S')) (r:EnR K M E σ H) (st:StR K M S H) (q:∀H' M',Gr M H M' H'->StR K M' S' H'->Q b H')
structure DT(X:Cx)(e:vw)(f:Ev):Prop where
 pe:PT X e (tDT X.K f)
structure DW(X:Cx)(e:vw)(f:Ev):Prop where
 pe:PW X e (tDT X.K f)
def DW.dt(h:DW X a f):DT X a f:=⟨PW.pt h.pe⟩
def Yp(h:PT X a (iy t))(m:∀σ H Q,tD X.K f σ H Q->t σ H Q):DT X a f:=⟨Wi h λσ H Q z=>by
 obtain⟨M,E,S,b,S',e,r,st,q⟩:=z
 refine m _ _ _ ⟨M,E,S,_,S',e,r,st,λv H1 M1 g1 st1 r1=>?_⟩
 cases OK r1
 exact⟨_,rfl,q _ M1 g1 st1⟩⟩
def L1(h:DE X a f)(he:x0 (∀whole,isTrue a X.env whole=(do let v<-whole;standAt a.pos;holding [v] (truthy v))) ww):DT X a f:=Yp (t:=tD X.K f) (jd h.pe he) λ_ _ _ z=>z
def G4{f:Op2}(ho:OpR X (compareOp op) (rOp X.K f))(ha:DE X a fa)(hb:DE X b fb)(hm:x0 (behindInMarks op b=false) wv):DT X (.Compare a [op] [b] pos) (eOp (o2 f) [fa,fb]):=
 Yp (WQ ho ha.pe hb.pe hm) λ_ _ _ h=>SV h
def Lx(ha:DT X a f):DT X (.UnaryOp .Not a pos) (Iw f):=⟨Wi (fD ha.pe) λσ H Q z=>by
 obtain⟨M,E,S,b,S',e,r,st,q⟩:=z
 obtain⟨⟨w1,S1⟩,e1,e⟩:=As e
 dsimp only at e
 split at e
 .cases e
  exact⟨M,E,S,_,_,e1,r,st,q⟩
 .cases e⟩
def mX(ha:DT X a f):DW X (.BoolOp .And [a] pos) f:=⟨ar ha.pe⟩
def QX(ha:DT X a f):DW X (.BoolOp .Or [a] pos) f:=⟨gX ha.pe⟩
def Wl(h:PW X e t)(m:∀σ H Q,t' σ H Q->t σ H Q):PW X e t':=λwh pins s σ H Q I q=>h wh pins s σ H Q I (m _ _ _ q)
def qJ(ha:DT X a f)(hb:DW X (.BoolOp .And (b::rest) pos) g):DW X (.BoolOp .And (a::b::rest) pos) (FQ f g):=⟨Wl (iU ha.pe hb.pe) λσ H Q z=>by
 obtain⟨M,E,S,k,S',e,r,st,q⟩:=z
 obtain⟨⟨w1,S1⟩,e1,e⟩:=As e
 dsimp only at e
 split at e
 .refine⟨M,E,S,_,S1,e1,r,st,λH1 M1 g1 st1=>?_⟩
  refine Ye ?_
  exact⟨M1,E,S1,k,S',e,r.step g1.st,st1,λH2 M2 g2 st2=>q _ M2 (g1.trans g2) st2⟩
 .cases e
  refine⟨M,E,S,_,_,e1,r,st,λH1 M1 g1 st1=>?_⟩
  refine Xi ?_
  exact q _ M1 g1 st1
 .cases e⟩
def Wa(ha:DT X a f)(hb:DW X (.BoolOp .Or (b::rest) pos) g):DW X (.BoolOp .Or (a::b::rest) pos) (eOr f g):=⟨Wl (oZ ha.pe hb.pe) λσ H Q z=>by
 obtain⟨M,E,S,k,S',e,r,st,q⟩:=z
 obtain⟨⟨w1,S1⟩,e1,e⟩:=As e
 dsimp only at e
 split at e
 .refine⟨M,E,S,_,S1,e1,r,st,λH1 M1 g1 st1=>?_⟩
  refine Xi ?_
  exact⟨M1,E,S1,k,S',e,r.step g1.st,st1,λH2 M2 g2 st2=>q _ M2 (g1.trans g2) st2⟩
 .cases e
  refine⟨M,E,S,_,_,e1,r,st,λH1 M1 g1 st1=>?_⟩
  refine Ye ?_
  exact q _ M1 g1 st1
 .cases e⟩
def sD(hc:DT X c f)(ha:DE X a g)(hb:DE X b h):DE X (.IfExp c a b pos) (eIf f g h):=⟨Ba (Yh hc.pe ha.pe hb.pe) λσ H Q z=>by
 obtain⟨M,E,S,d,S',e,r,st,q⟩:=z
 obtain⟨⟨w1,S1⟩,e1,e⟩:=As e
 dsimp only at e
 split at e
 .refine⟨M,E,S,_,S1,e1,r,st,λH1 M1 g1 st1=>?_⟩
  refine Ye ?_
  exact⟨M1,E,S1,d,S',e,r.step g1.st,st1,λv H2 M2 g2 st2 r2=>q _ _ M2 (g1.trans g2) st2 r2⟩
 .refine⟨M,E,S,_,S1,e1,r,st,λH1 M1 g1 st1=>?_⟩
  refine Xi ?_
  exact⟨M1,E,S1,d,S',e,r.step g1.st,st1,λv H2 M2 g2 st2 r2=>q _ _ M2 (g1.trans g2) st2 r2⟩
 .cases e⟩
end
inductive Fl where
 |nx
 |ret (d:D)
abbrev Ex:=En->Sto->uM (Fl×En×Sto)
def End(K:uF)(M:Ms)(H:Hp)(Dn:Ends)(E':En)(S':Sto):Fl->Prop
 | .nx=>∀σ' H' M',Gr M H M' H'->EnR K M' E' σ' H'->StR K M' S' H'->Dn.nx σ' H'
 | .ret d=>∀v H' M',Gr M H M' H'->StR K M' S' H'->Bz K M' H' v d->Dn.rt v H'
inductive tX(K:uF)(f:Ex)(Dn:Ends)(σ:Sg)(H:Hp):Prop
 |mk (M:Ms) (E:En) (S:Sto) (fl:Fl) (E':En) (S':Sto) (e:f E S=Gc (fl,E',S')) (r:EnR K M E σ H) (st:StR K M S H) (q:End K M H Dn E' S' fl)
structure DS(X:Cx)(st:vE)(f:Ex):Prop where
 pe:PS X st (tX X.K f)
structure DSs(X:Cx)(st:Wp vE)(f:Ex):Prop where
 pe:PSs X st (tX X.K f)
def FJ(h:PS X e t)(m:∀Dn σ H,t' Dn σ H->t Dn σ H):PS X e t':=λpins s σ H Dn I q=>h pins s σ H Dn I (m _ _ _ q)
def Iy(h:PSs X e t)(m:∀Dn σ H,t' Dn σ H->t Dn σ H):PSs X e t':=λpins s σ H Dn I q=>h pins s σ H Dn I (m _ _ _ q)
def End.later{M M1:Ms}(q:End K M H Dn E' S' fl)(g:Gr M H M1 H1):End K M1 H1 Dn E' S' fl:=by
 cases fl with
 |nx=>exact λσ' H' M' g' r st=>q σ' H' M' (g.trans g') r st
 |ret d=>exact λv H' M' g' st r=>q v H' M' (g.trans g') st r
noncomputable def AQ(f g:Ex):Ex:=λE S=>(f E S).bind λr=>match r.1 with
 | .nx=>g r.2.1 r.2.2
 | .ret w=>Gc (.ret w,r.2)
noncomputable def Bc:Ex:=λE S=>Gc (.nx,E,S)
section
variable{X:Cx}{st:vE}{rest a b:Wp vE}{f g h:Ex}{c e:vw}{k:Ev}{pos:Pos}
def Ds:DSs X [] Bc:=⟨Iy WN λDn σ H z=>by
 obtain⟨M,E,S,fl,E',S',e,r,st,q⟩:=z
 cases e
 exact q _ _ M (.refl st.mo) r st⟩
def Am(h1:DS X st f)(h2:DSs X rest g):DSs X (st::rest) (AQ f g):=⟨Iy (MK h1.pe h2.pe) λDn σ H z=>by
 obtain⟨M,E,S,fl,E',S',e,r,st,q⟩:=z
 obtain⟨⟨f1,E1,S1⟩,e1,e⟩:=As e
 dsimp only at e
 split at e
 .exact⟨M,E,S,.nx,E1,S1,e1,r,st,λσ1 H1 M1 g1 r1 st1=>⟨M1,E1,S1,fl,E',S',e,r1,st1,q.later g1⟩⟩
 .cases e
  exact⟨M,E,S,.ret _,_,_,e1,r,st,q⟩⟩
def BB(h1:DS X st f):DSs X [st] f:=⟨R5 h1.pe⟩
noncomputable def xIf(c:Ev)(f g:Ex):Ex:=λE S=>(c E S).bind λr=>match r.1 with
 | .bl true=>f E r.2
 | .bl false=>g E r.2
 |_=>none
def J5(hc:DT X c k)(ha:DSs X a f)(hb:DSs X b g):DS X (.If c a b pos) (xIf k f g):=⟨FJ (gW hc.pe ha.pe hb.pe) λDn σ H z=>by
 obtain⟨M,E,S,fl,E',S',e,r,st,q⟩:=z
 obtain⟨⟨w1,S1⟩,e1,e⟩:=As e
 dsimp only at e
 split at e
 .refine⟨M,E,S,_,S1,e1,r,st,λH1 M1 g1 st1=>?_⟩
  refine Ye ?_
  exact⟨M1,E,S1,fl,E',S',e,r.step g1.st,st1,q.later g1⟩
 .refine⟨M,E,S,_,S1,e1,r,st,λH1 M1 g1 st1=>?_⟩
  refine Xi ?_
  exact⟨M1,E,S1,fl,E',S',e,r.step g1.st,st1,q.later g1⟩
 .cases e⟩
noncomputable def Ac(k:Ev):Ex:=λE S=>(k E S).map λr=>(.ret r.1,E,r.2)
def ES(h:DE X e k):DS X (.Return (Gc e) pos) (Ac k):=⟨FJ (Zx h.pe) λDn σ H z=>by
 obtain⟨M,E,S,fl,E',S',e,r,st,q⟩:=z
 obtain⟨⟨d,S1⟩,e1,e⟩:=Lf e
 cases e
 exact⟨M,E,S,d,S1,e1,r,st,λv H1 M1 g1 st1 r1=>q _ _ M1 g1 st1 r1⟩⟩
end
section
variable{K:uF}
def EnR.put(r:EnR K M E σ H)(rd:Bz K M H v d):EnR K M (E.set i (Gc d)) (σ.set i (Gc v)) H:=by
 refine⟨by rw[wW,wW];exact r.len,λj e ej=>?_⟩
 by_cases h:i=j
 .subst h
  by_cases hi:i<E.length
  .rw[uX hi]at ej
   cases ej
   exact⟨v,uX (by rw[<-r.len];exact hi),rd⟩
  .rw[List.getElem?_eq_none_iff.mpr (by rw[wW];lia)]at ej;cases ej
 .rw[uQ h]at ej
  obtain⟨v',h1,h2⟩:=r.val j e ej
  exact⟨v',by rw[uQ h];exact h1,h2⟩
end
noncomputable def A9(i:Nat)(k:Ev):Ex:=λE S=>(k E S).map λr=>(.nx,E.set i (Gc r.1),r.2)
def IZ{X:Cx}{e:vw}{pos pos':Pos} i(h:DE X e k)(hN:X.N.Nodup)(hi:x0 (X.N[i]?=Gc x) wv)(hx:x0 (Loc X.env.scope x) wT)(hs:x0 (swapsWith e (Gc (.Name x pos')) pos.line X.env=pure false) wv)(hf:x0 (X.fn x=true\/X.env.scope.names.lookup x=Gc .local) wS):DS X (.Assign [.Name x pos'] e pos) (A9 i k):=⟨
 FJ (Zc hN hi hx h.pe hs hf) λDn σ H z=>by
  obtain⟨M,E,S,fl,E',S',e,r,st,q⟩:=z
  obtain⟨⟨d,S1⟩,e1,e⟩:=Lf e
  cases e
  exact⟨M,E,S,d,S1,e1,r,st,λv H1 M1 g1 st1 r1=>q _ _ M1 g1 ((r.step g1.st).put r1) st1⟩⟩
noncomputable def Bi(k:Ev):Ex:=λE S=>(k E S).map λr=>(.nx,E,r.2)
def Oo(h:DE X e k)(hs:x0 (swapsWith e none pos.line X.env=pure false) wv):DS X (.Expr e pos) (Bi k):=⟨FJ (bE h.pe hs) λDn σ H z=>by
 obtain⟨M,E,S,fl,E',S',e,r,st,q⟩:=z
 obtain⟨⟨d,S1⟩,e1,e⟩:=Lf e
 cases e
 exact⟨M,E,S,d,S1,e1,r,st,λv H1 M1 g1 st1 r1=>q _ _ M1 g1 (r.step g1.st) st1⟩⟩
noncomputable def EX(S:Sto)(n:Nat):uM (Wp D):=match S[n]? with
 |some (.lst ds)=>Gc ds
 |_=>none
def DL(h:EX S n=Gc ds):S[n]?=Gc (.lst ds):=by
 unfold EX at h
 split at h
 .rename_i e
  cases h
  exact e
 .cases h
abbrev Mo:=Sto->Wp D->Wp D->uM (D×Wp D)
noncomputable def Nm(op:Mo)(f:Ev)(fs:Wp Ev):Ev:=λE S=>(f E S).bind λr=>match r.1 with
 | .ref n=>(EX r.2 n).bind λ_=>(evs fs E r.2).bind λp=>(EX p.2 n).bind λds=>(op p.2 ds p.1).map λq=>(q.1,p.2.set n (.lst q.2))
 |_=>none
inductive lK(K:uF)(op:Mo)(x:V)(vs:Wp V)(H:Hp)(Q:VK):Prop
 |mk (M:Ms) (S:Sto) (n:Nat) (a:ue) (ds args:Wp D) (d:D) (ds':Wp D) (hx:x=.ref a) (hc:M.cel[n]?=Gc a) (hn:S[n]?=Gc (.lst ds)) (e:op S ds args=Gc (d,ds')) (st:StR K M S H) (ra:Al K M H vs args) (q:∀v H',StR K M (S.set n (.lst ds')) H'->Gr M H M H'->Bz K M H' v d->Q v H')
section
variable{X:Cx}
def iE(h:tD X.K (Nm op f fs) σ H Q):tBM X.K "list" (lK X.K op) (tD X.K f) (tDs X.K fs) σ H Q:=by
 obtain⟨M,E,S,d,S',e,r,st,q⟩:=h
 obtain⟨⟨d1,S1⟩,e1,e⟩:=As e
 dsimp only at e
 split at e
 .rename_i n
  obtain⟨ds0,e2,e⟩:=As e
  obtain⟨⟨args,S2⟩,e3,e⟩:=As e
  obtain⟨ds,e4,e⟩:=As e
  obtain⟨⟨dd,ds'⟩,e5,e⟩:=Lf e
  cases e
  refine⟨M,E,S,_,S1,e1,r,st,λv H1 M1 g1 st1 r1=>?_⟩
  cases r1 with
  |ref hc=>
   rename_i a
   obtain⟨xs,h1,h2⟩:=st1.cell n a _ hc (DL e2)
   refine⟨.inl ⟨rfl,xs,.of h1⟩,?_⟩
   refine GP e3 (r.step g1.st) st1 λvs H2 M2 g2 st2 r2=>?_
   exact⟨M2,S2,n,a,ds,args,dd,ds',rfl,K7 g2.pre hc,DL e4,e5,st2,r2,λv H3 st3 g3 r3=>q _ _ M2 ((g1.trans g2).trans g3) st3 r3⟩
 .cases e
def jD{id:yJ}{name:Str}{apos cpos:Pos}(slot:Slot "list" name id)(hty:typeOf (.builtin id)=pure (.type "method_descriptor"))(hm:MtR X id (lK X.K op))(ho:DE X o f)(ha:DEs X (e::es) fs)(hbase:x0 (attributeBase o name X.env (eval o X.env)=eval o X.env) wv)(hfew:x0 (((backTo cpos (um (e::es) X.env)).all (λx=> !x.1) && (backToKw cpos (keywordEach [] X.env)).all (λx=>x.1.isSome) && decide ((e::es).length+([]:Wp AAF).length+(if([]:Wp AAF).isEmpty then 0 else 1)<30))=true) wv)(hline:x0 ((apos.endLine==cpos.line)=true) wv)(hs:x0 (um (e::es) X.env=(false,eval e X.env)::um es X.env) wv)(hplain:x0 ((backTo cpos (um es X.env)).any (·.1)=false) wv):DE X (.Call (.Attribute o name apos) (e::es) [] cpos) (Nm op f fs):=⟨Ba (nC PySem.F.plainAttrs_list slot hty hm ho.pe ha.pe hbase hfew hline hs hplain) λσ H Q z=>iE z⟩
noncomputable def Nq:Mo
 |_,ds,[x]=>if ds.length<sizeLine then Gc (.non,ds++[x])else none
 |_,_,_=>none
def TQ(h:Al K M H vs [d]):∃v,vs=[v]/\Bz K M H v d:=by
 cases h with
 |cons h t=>cases t;exact⟨_,rfl,h⟩
def aZ:MtR X "list.append" (lK X.K Nq):=by
 intro pins s σ H x vs v us Q I rx rv h
 obtain⟨M,S,n,a,ds,args,d,ds',rfl,hc,hn,e,st,ra,q⟩:=h
 unfold Nq at e
 split at e
 .split at e
  .rename_i hz
   cases e
   obtain⟨xs,h1,h2⟩:=st.cell n a _ hc hn
   obtain⟨y,rfl,ry⟩:=TQ ra
   obtain⟨st2,g2⟩:=st.chg hc hn (h2.append (.cons ry .nil))
   exact Qm pins s σ H _ _ v us Q I rx rv ⟨a,xs,y,rfl,rfl,h1,by rw[h2.length];exact hz,q _ _ st2 g2 .non⟩
  .cases e
 .cases e
end
noncomputable def Lw(k f o:Ev):Ex:=λE S=>(k E S).bind λr=>(f E r.2).bind λb=>(o E b.2).bind λi=>match b.1,i.1 with
 | .ref n,.int j=>(EX i.2 n).bind λds=>(ixN ds.length j).map λm=>(.nx,E,i.2.set n (.lst (ds.set m r.1)))
 |_,_=>none
def kL {ps pos:Pos}(h:DE X e k)(hb:DE X bs f)(ht:DE X t o)(ha:x0 (∀v,assign (.Subscript bs t ps) X.env v=(do
      let ov ← holding [v] (eval bs X.env)
      let iv ← holding [v, ov] (eval t X.env)
      standAt ps
      holding [v, ov, iv] (setItem ov iv v)
      release [v, ov, iv] [])) wr)
    (hs:x0 (swapsWithSole [.Subscript bs t ps] e pos.line X.env=pure false) wv)(hw:x0 (swappedStores [.Subscript bs t ps] e X.env=pure none) wv)
    (h1:x0 ((assignEach [.Subscript bs t ps] X.env).map (·.2)=[assign (.Subscript bs t ps) X.env]) wv) :
    DS X (.Assign [.Subscript bs t ps] e pos) (Lw k f o):=⟨
  FJ (Zr h.pe (ek hb.pe ht.pe set_list ha) hs hw h1) fun Dn σ H z => by
    obtain⟨M,E,S,fl,E',S',e,r,st,q⟩:=z
    obtain⟨⟨d,S1⟩,e1,e⟩:=As e
    obtain⟨⟨b,S2⟩,e2,e⟩:=As e
    obtain⟨⟨i,S3⟩,e3,e⟩:=As e
    dsimp only at e e1 e2 e3
    split at e
    · rename_i n j _
      obtain⟨ds,e4,e⟩:=As e
      obtain⟨m,e5,e⟩:=Lf e
      cases e
      refine ⟨M, E, S, d, S1, e1, r, st, fun v H1 M1 g1 st1 r1 => ?_⟩
      refine ⟨M1, E, S1, _, S2, e2, r.step g1.st, st1, fun bv H2 M2 g2 st2 r2 => ?_⟩
      refine ⟨M2, E, S2, _, S3, e3, (r.step g1.st).step g2.st, st2, fun iv H3 M3 g3 st3 r3 => ?_⟩
      cases r3
      cases r2 with
      | ref hc =>
        rename_i a
        have hc3:=K7 g3.pre hc
        obtain⟨xs,h1,h2⟩:=st3.cell n a _ hc3 (DL e4)
        obtain⟨st4,g4⟩:=st3.chg hc3 (DL e4) (h2.set ((r1.step g2.st).step g3.st) m)
        have g:=((g1.trans g2).trans g3).trans g4
        exact ⟨a, xs, j, m, rfl, rfl, h1, by rw [h2.length]; exact e5, q _ _ M3 g (r.step g.st) st4⟩
    · cases e⟩
abbrev Fn:=Wp D->Sto->uM (D×Sto)
noncomputable def flD:Fl->D
 | .nx=>.non
 | .ret d=>d
noncomputable def AY(N:Nat)(body:Ex):Fn:=λds S=>(body (ds.map Gc++uu (N-ds.length) none) S).map λr=>(flD r.1,r.2.2)
def AW{α:Type}(a:α):α:=Classical.choose (⟨a,rfl⟩:∃x,x=a)
def O3(a:α):AW a=a:=Classical.choose_spec (⟨a,rfl⟩:∃x,x=a)
inductive spD(K:uF)(np:Nat)(f:Fn)(vs:Wp V)(H:Hp)(Q:VK)(E:XK):Prop
 |mk (M:Ms) (ds:Wp D) (S:Sto) (d:D) (S':Sto) (l:ds.length=np) (e:f ds S=Gc (d,S')) (r:Al K M H vs ds) (st:StR K M S H) (q:∀v H' M',Gr M H M' H'->StR K M' S' H'->Bz K M' H' v d->Q v H')
def QG{α:Type}{xs:Wp α}{i:Nat}{x:α}(h:(xs.map Gc)[i]?=Gc (Gc x)):xs[i]?=Gc x:=by
 rw[uR]at h
 cases e:xs[i]? with
 |none=>rw[e]at h;cases h
 |some y=>rw[e]at h;cases h;rfl
def VE{α:Type}{xs:Wp (uM α)}{k i:Nat}{x:α}(h:(xs++uu k none)[i]?=Gc (Gc x)):xs[i]?=Gc (Gc x):=by
 by_cases hi:i<xs.length
 .rw[uK hi]at h;exact h
 .rw[vU (by lia),AAb]at h
  split at h<;>cases h
def ae{α:Type}{xs:Wp (uM α)}{k i:Nat}{x:uM α}(h:xs[i]?=Gc x):(xs++uu k none)[i]?=Gc x:=by
 rw[uK (uU.mp h).1];exact h
def EnR.args(r:Al K M H vs ds) k:EnR K M (ds.map Gc++uu k none) (vs.map Gc++uu k none) H:=by
 refine⟨by simp[r.length],λi d e=>?_⟩
 obtain⟨v,h1,h2⟩:=r.get (QG (VE e))
 exact⟨v,ae (by rw[uR,h1];rfl),h2⟩
def fE(Fu:Fun K x x st f fd)(S:CU N ps (AF st))(hp:ps.length=np)(hb:∀cdv A outer s H E,Kn k (A.deeper (vd x (AF st) s.heap.objs.size f cdv))->DSs (RY CX0 P w K mg base N x (AF st) f cdv A outer s H E).nox (Dy st) b):Mq P w K mg base CX0 (k+1) f fd ps (spD K np (AW (AY N.length b))):=by
 rw[O3]
 refine Fu.ok S (λvs H Q E h=>?_) (λcdv A outer s H vs Q E hr h=>?_)
 .obtain⟨M,ds,S0,d,S',hl,_,r,_⟩:=h
  have:=r.length
  lia
 .obtain⟨M,ds,S0,d,S',hl,e,r,st,q⟩:=h
  have hlen:=r.length
  refine⟨_,(hb cdv A outer s H E hr).pe,?_⟩
  obtain⟨⟨fl,E',S1⟩,e1,e⟩:=Lf e
  cases e
  refine⟨M,_,S0,fl,E',S1,e1,?_,st,?_⟩
  .rw[show L2.start N vs=vs.map Gc++uu (N.length-ds.length) none from by unfold L2.start;rw[hlen]]
   exact .args r _
  .cases fl with
   |nx=>exact λσ' H' M' g _ st'=>q _ _ M' g st' .non
   |ret d=>exact λv H' M' g st' r'=>q _ _ M' g st' r'
def iZ(S:St.Src K mg x st)(sc:CU N ps (AF st))(hp:ps.length=np)(hbi:∀f fd,Fun K x x st f fd->Binds K fd ps [])(hb:∀f cdv A outer s H E,Kn k (A.deeper (vd x (AF st) s.heap.objs.size f cdv))->DSs (RY CX0 P w K mg base N x (AF st) f cdv A outer s H E).nox (Dy st) b):St.Dfn P w K mg base x (k+1) ps (spD K np (AW (AY N.length b))):=by
 obtain⟨f,fd,Fu,hm⟩:=S.ex
 exact⟨f,fd,hm,Fu.kp,hbi f fd Fu,fE Fu sc hp λcdv A outer s H E hr=>hb f cdv A outer s H E hr⟩
noncomputable def AB(f:Fn)(fs:Wp Ev):Ev:=λE S=>(evs fs E S).bind λr=>f r.1 r.2
def V7(hn:fs.length=np)(h:tD K (AB f fs) σ H Q):di (spD K np f) [] E0 (tDs K fs) σ H Q:=by
 obtain⟨M,E,S,d,S',e,r,st,q⟩:=h
 obtain⟨⟨ds,S1⟩,e1,e⟩:=As e
 refine GP e1 r st λvs H1 M1 g1 st1 r1=>?_
 rw[xZ]
 exact⟨M1,ds,S1,d,S',by rw[ND e1];exact hn,e,r1,st1,λv H2 M2 g2 st2 r2=>q _ _ M2 (g1.trans g2) st2 r2⟩
def bM{X:Cx}{k np:Nat}{x:Str}{ps:Wp Str}{p pos:Pos}(d:St.Dfn X.prog X.w X.K X.mg X.base x k ps (spD X.K np f))(hr:Kn k X.A)(hg:Gl X x)(ha:DEs X (e::es) fs)(hn:x0 (fs.length=np) wv)(hdb:x0 ((x==("__debug__":Str))=false) xL)(he:x0 (um (e::es) X.env=(false,eval e X.env)::um es X.env) wv)(hpl:x0 ((backTo pos (um es X.env)).any (·.1)=false) wv):DE X (.Call (.Name x p) (e::es) [] pos) (AB f fs):=⟨Ba (St.oj d hr hg ha.pe hdb he hpl) λσ H Q z=>V7 hn z⟩
abbrev Tf:=D->En->Sto->uM En
inductive tG(K:uF)(t:Tf)(v:V)(σ:Sg)(H:Hp)(Q:St->Hp->Prop):Prop
 |mk (M:Ms) (d:D) (E E':En) (S:Sto) (e:t d E S=Gc E') (r:EnR K M E σ H) (st:StR K M S H) (rd:Bz K M H v d) (q:∀σ',EnR K M E' σ' H->Q σ' H)
structure DG(X:Cx)(tg:vw)(t:Tf):Prop where
 pe:PG X tg (tG X.K t)
noncomputable def tNm(i:Nat):Tf:=λd E _=>Gc (E.set i (Gc d))
def XQ(h:PG X e t)(m:∀v σ H Q,t' v σ H Q->t v σ H Q):PG X e t':=λpins s σ H v u Q I r q=>h pins s σ H v u Q I r (m _ _ _ _ q)
def EK{X:Cx}{pos:Pos} i(hN:X.N.Nodup)(hi:x0 (X.N[i]?=Gc x) wv)(hx:x0 (Loc X.env.scope x) wT)(hf:x0 (X.fn x=true\/X.env.scope.names.lookup x=Gc .local) wS):DG X (.Name x pos) (tNm i):=⟨XQ (cH hN hi hx hf) λv σ H Q z=>by
 obtain⟨M,d,E,E',S,e,r,st,rd,q⟩:=z
 cases e
 exact q _ (r.put rd)⟩
noncomputable def tMs:Wp Tf->Wp D->En->Sto->uM En
 | [],[],E,_=>Gc E
 |t::ts,d::ds,E,S=>(t d E S).bind λE1=>tMs ts ds E1 S
 |_,_,_,_=>none
noncomputable def tTp(ts:Wp Tf):Tf:=λd E S=>match d with
 | .tup ds=>tMs ts ds E S
 | .lst ds=>tMs ts ds E S
 | .ref n=>(EX S n).bind λds=>tMs ts ds E S
 |_=>none
noncomputable def tGs(K:uF):Wp Tf->TGs
 | []=>pN
 |t::ts=>fQ (tG K t) (tGs K ts)
theorem SE{K:uF}{M:Ms}{H:Hp}{S:Sto}(st:StR K M S H):∀{ts} {ds} {vs} {E E'} {σ} {Q:Sg->Hp->Prop},tMs ts ds E S=Gc E'->EnR K M E σ H->Al K M H vs ds->(∀σ',EnR K M E' σ' H->Q σ' H)->tGs K ts vs σ H Q
 | [],[],_,E,E',σ,Q,e,r,rd,q=>by
   cases e
   cases rd
   exact⟨rfl,q _ r⟩
 |t::ts,d::ds,_,E,E',σ,Q,e,r,rd,q=>by
  obtain⟨E1,e1,e⟩:=As e
  cases rd with
  |cons h1 h2=>exact⟨_,_,rfl,M,d,E,E1,S,e1,r,st,h1,λσ1 r1=>SE st e r1 h2 q⟩
 | [],_::_,_,E,E',σ,Q,e,r,rd,q=>by cases e
 |_::_,[],_,E,E',σ,Q,e,r,rd,q=>by cases e
theorem Pg:∀{ts} {ds} {E E'} {S},tMs ts ds E S=Gc E'->ds.length=ts.length
 | [],[],_,_,_,_=>rfl
 |t::ts,d::ds,E,E',S,e=>by
  obtain⟨E1,e1,e⟩:=As e
  simp[Pg e]
 | [],_::_,_,_,_,e=>by cases e
 |_::_,[],_,_,_,e=>by cases e
structure DGs(X:Cx)(es:Wp vw)(ts:Wp Tf):Prop where
 pe:PGs X es (tGs X.K ts)
def IA:DGs X [] []:=⟨dy⟩
def Bu(h:DG X e t)(g:DGs X es ts)(hs:x0 ((assignEach (e::es) X.env).map (·.2)=assign e X.env::(assignEach es X.env).map (·.2)) wv):DGs X (e::es) (t::ts):=⟨YB h.pe g.pe hs⟩
def Q3{X:Cx}{k:Nat}{pos:Pos}(hc:X.calm=true)(h:DGs X es ts)(hn:x0 ((assignEach es X.env).length=ts.length) wv)(hst:x0 ((assignEach es X.env).findIdx? (·.1)=none) wv):DG X (.Tuple es k pos) (tTp ts):=⟨
 XQ (jf hc h.pe hn hst) λv σ H Q z=>by
  obtain⟨M,d,E,E',S,e,r,st,rd,q⟩:=z
  unfold tTp at e
  split at e
  .cases rd with
   |tup h1 h2=>exact⟨_,_,rfl,.inl h1,by rw[h2.length];exact Pg e,SE st e r h2 q⟩
  .cases rd with
   |lst h1 n h2=>exact⟨_,_,rfl,.inr h1,by rw[h2.length];exact Pg e,SE st e r h2 q⟩
  .obtain⟨ds,e1,e⟩:=As e
   cases rd with
   |ref hc=>
    obtain⟨xs,h1,h2⟩:=st.cell _ _ _ hc (DL e1)
    exact⟨_,_,rfl,.inr h1,by rw[h2.length];exact Pg e,SE st e r h2 q⟩
  .cases e⟩
noncomputable def Hi(t:Tf)(k:Ev):Ex:=λE S=>(k E S).bind λr=>(t r.1 E r.2).map λE'=>(.nx,E',r.2)
def Zd{pos:Pos}(h:DE X e k)(hg:DG X tg t)(hs:x0 (swapsWithSole [tg] e pos.line X.env=pure false) wv)(hw:x0 (swappedStores [tg] e X.env=pure none) wv)(h1:x0 ((assignEach [tg] X.env).map (·.2)=[assign tg X.env]) wv):DS X (.Assign [tg] e pos) (Hi t k):=⟨FJ (Zr h.pe hg.pe hs hw h1) λDn σ H z=>by
 obtain⟨M,E,S,fl,E',S',e,r,st,q⟩:=z
 obtain⟨⟨d,S1⟩,e1,e⟩:=As e
 obtain⟨E2,e2,e⟩:=Lf e
 cases e
 exact⟨M,E,S,d,S1,e1,r,st,λv H1 M1 g1 st1 r1=>⟨M1,d,E,_,S1,e2,r.step g1.st,st1,r1,λσ' r2=>q _ _ M1 g1 r2 st1⟩⟩⟩
noncomputable def Np(i j:Nat)(f g:Ev):Ex:=λE S=>(evs [f,g] E S).bind λr=>match r.1 with
 | [d,d']=>Gc (.nx,(E.set i (Gc d)).set j (Gc d'),r.2)
 |_=>none
def Q0{pt2 pos:Pos}(hc:X.calm=true)(hN:X.N.Nodup)(hi:X.N[i]?=Gc x)(hj:X.N[j]?=Gc y)(hij:i≠j)(hx:X.env.scope.names.lookup x=Gc .local)(hy:X.env.scope.names.lookup y=Gc .local)(ha:DE X a f)(hb:DE X b g)(hw:x0 (swappedStores [.Tuple [.Name x px,.Name y py] kt pt] (.Tuple [a,b] k2 pt2) X.env=pure (Gc [x,y])) wv)(hsa:x0 (um [a,b] X.env=(false,eval a X.env)::um [b] X.env) wv)(hsb:x0 (um [b] X.env=(false,eval b X.env)::um [] X.env) wv)(hs:x0 (swapsWithSole [.Tuple [.Name x px,.Name y py] kt pt] (.Tuple [a,b] k2 pt2) pos.line X.env=pure false) wv):DS X (.Assign [.Tuple [.Name x px,.Name y py] kt pt] (.Tuple [a,b] k2 pt2) pos) (Np i j f g):=⟨by
 refine FJ (fY hc hN hi hj hij hx hy (O7 ha.pe (O7 hb.pe Us hsb) hsa) hw hs) λDn σ H z=>?_
 obtain⟨M,E,S,fl,E',S',e,r,st,q⟩:=z
 obtain⟨⟨ds,S1⟩,e1,e⟩:=As e
 refine GP (K:=X.K) (fs:=[f,g]) e1 r st λvs H1 M1 g1 st1 r1=>?_
 dsimp only at e
 split at e
 .rename_i d d'
  cases e
  cases r1 with
  |cons h1 t=>
   cases t with
   |cons h2 t=>
    cases t
    exact⟨_,_,rfl,q _ _ M1 g1 (((r.step g1.st).put h1).put h2) st1⟩
 .cases e⟩
noncomputable def Hg:Ex:=λ_ _=>none
def TN:DS X st Hg:=⟨λ_ _ _ _ _ _ z=>by
 obtain⟨M,E,S,fl,E',S',e,_⟩:=z
 cases e⟩
abbrev Gd:=Wp (Nat×Wp D)
def gOk(gs:Gd)(S:Sto):Prop:=∀g∈gs,EX S g.1=Gc g.2
abbrev Sr:=En->Sto->uM ((Wp D×Gd)×Sto)
structure gw(K:uF)(M:Ms)(H:Hp)(gs:Gd)(ds:Wp D)(J:It):Prop where
 go:∀(i:Nat) (H2:Hp) (M2:Ms) (S2:Sto),Sp1 M H M2 H2->StR K M2 S2 H2->gOk gs S2->i<ds.length->J.go i H2
 stop:∀(i:Nat) (H2:Hp) (M2:Ms) (S2:Sto),Sp1 M H M2 H2->StR K M2 S2 H2->gOk gs S2->ds.length<=i->J.stop i H2
 yld:∀(i:Nat) (H2:Hp) (M2:Ms) (S2:Sto) (x:V) (H3:Hp) (d:D),Sp1 M H M2 H2->StR K M2 S2 H2->gOk gs S2->ds[i]?=Gc d->J.yld i H2 x H3->(∀a o,H2 a=Gc o->H3 a=Gc o)/\Bz K M2 H3 x d
inductive tI(K:uF)(s:Sr)(σ:Sg)(H:Hp)(R:It->Hp->Prop):Prop
 |mk (M:Ms) (E:En) (S:Sto) (ds:Wp D) (gs:Gd) (S':Sto) (e:s E S=Gc ((ds,gs),S')) (r:EnR K M E σ H) (st:StR K M S H) (q:∀J H' M',Gr M H M' H'->StR K M' S' H'->gw K M' H' gs ds J->R J H')
structure DI(X:Cx)(tg iter:vw)(s:Sr):Prop where
 pe:PI X tg iter (tI X.K s)
def PJ(h:PI X tg e t)(m:∀σ H R,t' σ H R->t σ H R):PI X tg e t':=λpins s σ H R I q=>h pins s σ H R I (m _ _ _ q)
noncomputable def sS(K:uF)(tl:TE):TI:=λσ H R=>tl σ H λx H1=>∃a,x=.ref a/\(((∃xs,SqL K H1 a xs)/\R (Itl K a) H1)\/((∃xs,SqT K H1 a xs)/\R (Itt K a) H1))
def jP(hl:PE X l tl):PI X tg l (sS X.K tl):=by
 intro pins s σ H R I h
 refine thn (hl pins s σ H _ I h) λv s1 z=>?_
 obtain⟨x,H1,I1,r1,q1⟩:=z
 obtain⟨a,e,q1⟩:=q1
 subst e
 cases r1
 rcases q1 with⟨⟨xs,hq⟩,q⟩|⟨⟨xs,hq⟩,q⟩
 .obtain⟨its,rv,p,hz⟩:=I1.list hq
  refine wU p.isList ?_
  refine⟨s1.heap.objs.size,[s1.heap.objs.size],_,_,H1,rfl,I1.kept (t':=s1.toks) λb o e=>uG _ e,Vu a _,⟨_,uw _ rfl,rfl,rfl⟩,λb hb=>?_,q⟩
  have e:b=s1.heap.objs.size:=by simpa using hb
  subst e
  exact I1.dw (uP _) (I1.hok.fresh (uP _))
 .obtain⟨its,rv,p,hz⟩:=I1.tuple hq
  refine wM (show s1.heap.IsTuple a its.toArray from p) ?_
  refine⟨s1.heap.objs.size,[s1.heap.objs.size],_,_,H1,rfl,I1.kept (t':=s1.toks) λb o e=>uG _ e,Tx a _,⟨_,uw _ rfl,rfl,rfl⟩,λb hb=>?_,q⟩
  have e:b=s1.heap.objs.size:=by simpa using hb
  subst e
  exact I1.dw (uP _) (I1.hok.fresh (uP _))
def Al.get'(h:Al K M H vs ds)(hi:i<ds.length):∃x,vs[i]?=Gc x:=by
 have:=h.length
 exact⟨vs[i],uN (by lia)⟩
structure SqF(K:uF)(M:Ms)(H:Hp)(gs:Gd)(k:va)(a:ue)(ds:Wp D):Prop where
 keep:∀(H2:Hp) (M2:Ms) (S2:Sto),Sp1 M H M2 H2->StR K M2 S2 H2->gOk gs S2->∃xs,(if k=true then SqT K H2 a xs else SqL K H2 a xs)/\Al K M2 H2 xs ds
noncomputable def sqD(S:Sto):D->uM (Wp D×Gd)
 | .tup ds=>Gc (ds,[])
 | .lst ds=>Gc (ds,[])
 | .ref n=>(EX S n).map λds=>(ds,[(n,ds)])
 | .scr ns=>Gc (ns.map .int,[])
 |_=>none
def Sj(st:StR K M S H)(h:Bz K M H v d)(e:sqD S d=Gc (ds,gs)):∃k a,v=.ref a/\SqF K M H gs k a ds:=by
 cases h with
 |tup h r=>cases e;exact⟨true,_,rfl,⟨λH2 M2 S2 g _ _=>⟨_,g.sqT h,r.step g⟩⟩⟩
 |lst h n r=>cases e;exact⟨false,_,rfl,⟨λH2 M2 S2 g _ _=>⟨_,SqL.of (g.keep _ _ h n),r.step g⟩⟩⟩
 |scr h=>
  cases e
  refine⟨false,_,rfl,⟨λH2 M2 S2 g _ _=>⟨_,?_,MG⟩⟩⟩
  rcases h with⟨h,n⟩|h
  .rcases h with h|⟨o,h⟩
   .exact .inl (.inl (g.keep _ _ h n))
   .exact .inl (.inr ⟨o,g.keep _ _ h n⟩)
  .exact .inr h
 |ref h=>
  obtain⟨es,e1,e⟩:=Lf e
  cases e
  refine⟨false,_,rfl,⟨λH2 M2 S2 g st2 ok=>?_⟩⟩
  obtain⟨xs,h1,h2⟩:=st2.cell _ _ _ (K7 g.pre h) (DL (ok _ (uv.mpr rfl)))
  exact⟨xs,SqL.of h1,h2⟩
 |non=>cases e
 |bl b=>cases e
 |int b=>cases e
 |str b=>cases e
 |ty b=>cases e
 |dct h n r=>cases e
def oC(h:SqF K M H gs k a ds):gw K M H gs ds (if k=true then Itt K a else Itl K a):=by
 cases k with
 |true=>
  exact{
   go:=λi H2 M2 S2 g st ok hi=>let⟨xs,h1,h2⟩:=h.keep H2 M2 S2 g st ok;let⟨x,hx⟩:=h2.get' hi;⟨xs,x,h1,hx⟩
   stop:=λi H2 M2 S2 g st ok hi=>let⟨xs,h1,h2⟩:=h.keep H2 M2 S2 g st ok;⟨xs,h1,by have:=h2.length;lia⟩
   yld:=λi H2 M2 S2 x H3 d g st ok hd hy=>by
    obtain⟨xs,h1,h2⟩:=h.keep H2 M2 S2 g st ok
    obtain⟨rfl,hy⟩:=hy
    refine⟨λ_ _ e=>e,?_⟩
    have hx:=hy xs h1
    obtain⟨x',h3,h4⟩:=h2.get hd
    rw[hx]at h3;cases h3
    exact h4}
 |false=>
  exact{
   go:=λi H2 M2 S2 g st ok hi=>let⟨xs,h1,h2⟩:=h.keep H2 M2 S2 g st ok;let⟨x,hx⟩:=h2.get' hi;⟨xs,x,h1,hx⟩
   stop:=λi H2 M2 S2 g st ok hi=>let⟨xs,h1,h2⟩:=h.keep H2 M2 S2 g st ok;⟨xs,h1,by have:=h2.length;lia⟩
   yld:=λi H2 M2 S2 x H3 d g st ok hd hy=>by
    obtain⟨xs,h1,h2⟩:=h.keep H2 M2 S2 g st ok
    obtain⟨rfl,hy⟩:=hy
    refine⟨λ_ _ e=>e,?_⟩
    have hx:=hy xs h1
    obtain⟨x',h3,h4⟩:=h2.get hd
    rw[hx]at h3;cases h3
    exact h4}
noncomputable def DY(f:Ev):Sr:=λE S=>(f E S).bind λr=>(sqD r.2 r.1).map λp=>(p,r.2)
def Ow(e:sqD S d=Gc (ds,gs)):gOk gs S:=by
 cases d<;>first|(cases e;done)|skip
 all_goals first
  |(cases e;intro g hg;cases hg;done)
  |(obtain⟨es,e1,e⟩:=Lf e
    cases e
    intro g hg
    rw[uv.mp hg]
    exact e1)
def JS(h:DE X e f):DI X tg e (DY f):=⟨PJ (jP h.pe) λσ H R z=>by
 obtain⟨M,E,S,ds,gs,S',e,r,st,q⟩:=z
 obtain⟨⟨d,S1⟩,e1,e⟩:=As e
 obtain⟨⟨ds',gs'⟩,e2,e⟩:=Lf e
 cases e
 refine⟨M,E,S,d,S1,e1,r,st,λv H1 M1 g1 st1 r1=>?_⟩
 obtain⟨k,a,rfl,sq⟩:=Sj st1 r1 e2
 obtain⟨xs,hs,_⟩:=sq.keep H1 M1 S1 (Gr.refl st1.mo).st st1 (Ow e2)
 have it:=oC sq
 refine⟨a,rfl,?_⟩
 cases k with
 |true=>exact .inr ⟨⟨xs,hs⟩,q _ _ M1 g1 st1 it⟩
 |false=>exact .inl ⟨⟨xs,hs⟩,q _ _ M1 g1 st1 it⟩⟩
noncomputable def Jd(lo:Int)(n:Nat):Wp D:=(W1 n).map λ(i:Nat)=>.int (lo+(i:Int))
theorem eU:gw K M H [] (Jd lo n) (Itr lo n) where
 go:=λi H2 M2 S2 g st ok hi=>by
  have:i<n:=by unfold Jd at hi;simpa using hi
  exact this
 stop:=λi H2 M2 S2 g st ok hi=>by
  have:n<=i:=by unfold Jd at hi;simpa using hi
  exact this
 yld:=λi H2 M2 S2 x H3 d g st ok hd hy=>by
  obtain⟨rfl,rfl⟩:=hy
  refine⟨λ_ _ e=>e,?_⟩
  unfold Jd at hd
  rw[uR]at hd
  cases e:(W1 n)[i]? with
  |none=>rw[e]at hd;cases hd
  |some j=>
   rw[e]at hd
   cases hd
   have:j=i:=by
    obtain⟨h1,h2⟩:=uU.mp e
    simpa using h2.symm
   subst this
   exact .int _
noncomputable def Kk(fs:Wp Ev):Sr:=λE S=>(evs fs E S).bind λr=>match r.1 with
 | [.int j]=>if(decide (-(2^62)<=j) && decide (j<2^62))=true then Gc ((Jd 0 j.toNat,[]),r.2)else none
 | [.int i,.int j]=>if(decide (-(2^62)<=i) && decide (i<2^62) && decide (-(2^62)<=j) && decide (j<2^62))=true then Gc ((Jd i (j-i).toNat,[]),r.2)else none
 |_=>none
def Pj(h:Al K M H vs [.int j]):vs=[.int j]:=by
 cases h with
 |cons h t=>cases t;cases h;rfl
def W2(h:Al K M H vs [.int i,.int j]):vs=[.int i,.int j]:=by
 cases h with
 |cons h t=>cases h;cases Pj t;rfl
def Ni(hg:Gl X "range")(hm:X.mg "range"=none)(ha:DEs X [a] [o])(hs:x0 (um [a] X.env=[(false,eval a X.env)]) wv):DI X tg (.Call (.Name "range" p) [a] [] pos) (Kk [o]):=⟨
 PJ (Wq hg hm ha.pe hs) λσ H R z=>by
  obtain⟨M,E,S,ds,gs,S',e,r,st,q⟩:=z
  obtain⟨⟨ws,S1⟩,e1,e⟩:=As e
  have hl:=ND e1
  refine GP e1 r st λvs H1 M1 g1 st1 r1=>?_
  dsimp only at e
  split at e
  .split at e
   .rename_i j hk
    rw[uW]at hk
    cases e
    exact⟨j,Pj r1,uc hk.1,uc hk.2,q _ _ M1 g1 st1 eU⟩
   .cases e
  .simp at hl
  .cases e⟩
open Classical in
def Jj(gs:Gd)(t:Tf)(body:Ex):Wp D->En->Sto->uM (Fl×En×Sto)
 | [],E,S=>if gOk gs S then Gc (.nx,E,S)else none
 |d::ds,E,S=>if gOk gs S then(t d E S).bind λE1=>(body E1 S).bind λr=>match r.1 with
  | .nx=>Jj gs t body ds r.2.1 r.2.2
  | .ret w=>Gc (.ret w,r.2)
  else none
def Ht(s:Sr)(t:Tf)(body:Ex):Ex:=λE S=>(s E S).bind λr=>Jj r.1.2 t body r.1.1 E r.2
def Nc{α:Type}{xs:Wp α}{x:α}{r:Wp α}(h:xs.drop i=x::r):xs[i]?=Gc x/\xs.drop (i+1)=r/\i<xs.length:=by
 have hi:i<xs.length:=by
  by_cases hi:i<xs.length
  .exact hi
  .rw[vn (by lia)]at h;cases h
 rw[vK hi]at h
 cases h
 exact⟨uN hi,rfl,hi⟩
def NY(hp:ABR (model X.prog X.w) X.A X.env X.xe)(hc:X.calm=true)(hi:DI X tg iter s)(hg:DG X tg t)(hb:DSs X body b)(hs:x0 (∀x,foldedSetIterable iter X.env x=pure x) ww):DS X (.For tg iter body [] pos) (Ht s t b):=⟨FJ (aP hp hc hi.pe hg.pe hb.pe hs) λDn σ H z=>by
 obtain⟨M,E,S,fl,E',S',e,r,st,q⟩:=z
 obtain⟨⟨⟨ds,gs⟩,S1⟩,e1,e⟩:=As e
 dsimp only at e
 refine⟨M,E,S,ds,gs,S1,e1,r,st,λJ H1 M1 g1 st1 it=>?_⟩
 refine⟨λi m σ' H'=>m=ds.length-i/\∃E2 S2 M2,Jj gs t b (ds.drop i) E2 S2=Gc (fl,E',S')/\Gr M1 H1 M2 H'/\EnR X.K M2 E2 σ' H'/\StR X.K M2 S2 H',⟨_,rfl,E,S1,M1,e,.refl st1.mo,r.step g1.st,st1⟩,λi m σ2 H2 hW=>?_⟩
 obtain⟨rfl,E2,S2,M2,e2,g2,r2,st2⟩:=hW
 cases ed:ds.drop i with
 |nil=>
  rw[ed]at e2
  unfold Jj at e2
  split at e2
  .rename_i ok
   cases e2
   left
   exact⟨it.stop i H2 M2 _ g2.st st2 ok (zI.mp ed),q _ _ M2 (g1.trans g2) r2 st2⟩
  .cases e2
 |cons d rest=>
  obtain⟨d1,d2,d3⟩:=Nc ed
  rw[ed]at e2
  unfold Jj at e2
  split at e2
  .rename_i ok
   obtain⟨E3,e3,e2⟩:=As e2
   obtain⟨⟨f4,E4,S4⟩,e4,e2⟩:=As e2
   dsimp only at e2
   right
   refine⟨it.go i H2 M2 S2 g2.st st2 ok d3,λσ' H'=>∃m',m'<ds.length-i/\(m'=ds.length-(i+1)/\∃E2 S2 M2,Jj gs t b (ds.drop (i+1)) E2 S2=Gc (fl,E',S')/\Gr M1 H1 M2 H'/\EnR X.K M2 E2 σ' H'/\StR X.K M2 S2 H'),λσ' H' z=>z,λx H3 hy=>?_⟩
   obtain⟨k3,rx⟩:=it.yld i H2 M2 S2 x H3 d g2.st st2 ok d1 hy
   have g3:Gr M2 H2 M2 H3:=.grow st2.mo k3
   refine⟨M2,d,E2,E3,S2,e3,r2.step g3.st,st2.grow k3,rx,λσ4 r4=>?_⟩
   refine⟨M2,E3,S2,f4,E4,S4,e4,r4,st2.grow k3,?_⟩
   split at e2
   .exact λσ6 H6 M6 g6 r6 st6=>⟨_,zJ _ _ d3,rfl,E4,S4,M6,by rw[d2];exact e2,(g2.trans g3).trans g6,r6,st6⟩
   .cases e2
    exact λv H6 M6 g6 st6 r6=>q _ _ M6 (((g1.trans g2).trans g3).trans g6) st6 r6
  .cases e2⟩
noncomputable def Hy(c:Ev)(b:Ex):Nat->En->Sto->uM (Fl×En×Sto)
 |0,_,_=>none
 |k+1,E,S=>(c E S).bind λr=>match r.1 with
  | .bl true=>(b E r.2).bind λp=>match p.1 with
    | .nx=>Hy c b k p.2.1 p.2.2
    | .ret w=>Gc (.ret w,p.2)
  | .bl false=>Gc (.nx,E,r.2)
  |_=>none
noncomputable def Qc(fuel:En->Nat)(c:Ev)(b:Ex):Ex:=λE S=>Hy c b (fuel E) E S
def lA fuel(hp:ABR (model X.prog X.w) X.A X.env X.xe)(hc:DT X c k)(hb:DSs X body b):DS X (.While c body [] pos) (Qc fuel k b):=⟨
 FJ (Xt hp hc.pe hb.pe) λDn σ H z=>by
  obtain⟨M,E,S,fl,E',S',e,r,st,q⟩:=z
  refine⟨λm σ' H'=>∃E2 S2 M2,Hy k b m E2 S2=Gc (fl,E',S')/\Gr M H M2 H'/\EnR X.K M2 E2 σ' H'/\StR X.K M2 S2 H',⟨fuel E,E,S,M,e,.refl st.mo,r,st⟩,λm σ2 H2 hW=>?_⟩
  obtain⟨E2,S2,M2,e2,g2,r2,st2⟩:=hW
  cases m with
  |zero=>cases e2
  |succ m=>
   obtain⟨⟨w3,S3⟩,e3,e2⟩:=As e2
   dsimp only at e2
   split at e2
   .obtain⟨⟨f4,E4,S4⟩,e4,e2⟩:=As e2
    refine⟨M2,E2,S2,true,S3,e3,r2,st2,λH3 M3 g3 st3=>?_⟩
    refine Ye ⟨λσ' H'=>∃m',m'<m+1/\∃E2 S2 M2,Hy k b m' E2 S2=Gc (fl,E',S')/\Gr M H M2 H'/\EnR X.K M2 E2 σ' H'/\StR X.K M2 S2 H',λσ' H' z=>z,?_⟩
    refine⟨M3,E2,S3,f4,E4,S4,e4,r2.step g3.st,st3,?_⟩
    dsimp only at e2
    split at e2
    .exact λσ5 H5 M5 g5 r5 st5=>⟨m,by lia,E4,S4,M5,e2,(g2.trans g3).trans g5,r5,st5⟩
    .cases e2
     exact λv H5 M5 g5 st5 r5=>q _ _ M5 ((g2.trans g3).trans g5) st5 r5
   .cases e2
    refine⟨M2,_,S2,false,_,e3,r2,st2,λH3 M3 g3 st3=>?_⟩
    refine Xi ?_
    exact q _ _ M3 (g2.trans g3) (r2.step g3.st) st3
   .cases e2⟩
noncomputable def XI(i:Nat):En->Nat:=λE=>match at? E i with
 |some (.int j)=>j.natAbs+2
 |_=>0
section
variable{M M' M2:Ms}{H H' H2:Hp}{S:Sto}
structure GrX(M:Ms)(H:Hp)(M':Ms)(H':Hp):Prop where
 pre:M.cel <+: M'.cel
 fresh:∀a,a∈M'.cel->a∈M.cel\/H a=none
 keep:∀a o,H a=Gc o->a∉M.cel->H' a=Gc o
 some:∀a,H a≠none->H' a≠none
def GrX.none(g:GrX M H M' H')(h:H' a=none):H a=none:=by
 cases e:H a with
 |none=>rfl
 |some o=>exact absurd h (g.some a (by rw[e];intro z;cases z))
def Gr.x(g:Gr M H M' H'):GrX M H M' H':=⟨g.pre,g.fresh,g.keep,g.some⟩
def GrX.trans(h:GrX M H M' H')(g:GrX M' H' M2 H2):GrX M H M2 H2:=
 ⟨h.pre.trans g.pre,λa z=>(g.fresh a z).elim (h.fresh a) λz=>.inr (h.none z),λa o e n=>g.keep a o (h.keep a o e n) (λz=>by
   rcases h.fresh a z with z|z
   .exact n z
   .rw[e]at z;cases z),λa e=>g.some a (h.some a e)⟩
def StR.jJ(r:StR K M S H)(e:H a=none):StR K ⟨M.cel,a::M.tmp⟩ S (upd H a (.lst []))/\GrX M H ⟨M.cel,a::M.tmp⟩ (upd H a (.lst []))/\Sp1 M H ⟨M.cel,a::M.tmp⟩ (upd H a (.lst [])):=by
 have k:∀b o,H b=Gc o->upd H a (.lst []) b=Gc o:=Io e
 have na:¬M.mem a:=λz=>r.mo.some z e
 have s1:Sp1 M H ⟨M.cel,a::M.tmp⟩ (upd H a (.lst [])):=⟨r.mo,wX,λb z=>by
  rcases z with z|z
  .exact .inl (.inl z)
  .rcases uS.mp z with z|z
   .subst z;exact .inr e
   .exact .inl (.inr z),λb o eb _=>k b o eb⟩
 refine⟨⟨λb z=>?_,r.nd,λb hb z=>?_,r.len,λn b c h1 h2=>?_⟩,⟨wX,λb z=>.inl z,λb o eb _=>k b o eb,λb eb z=>?_⟩,s1⟩
 .by_cases h:b=a
  .subst h;exact⟨_,B7,trivial⟩
  .rw[BC h]
   refine r.mo b ?_
   rcases z with z|z
   .exact .inl z
   .rcases uS.mp z with z|z
    .exact absurd z h
    .exact .inr z
 .rcases uS.mp hb with hb|hb
  .subst hb;exact na (.inl z)
  .exact r.nt b hb z
 .exact(r.cell n b c h1 h2).step s1 λo e=>k _ _ e
 .cases h:H b with
  |none=>exact eb h
  |some o=>rw[k b o h]at z;cases z
def StR.dG(r:StR K M S H)(ha:a∈M.tmp):StR K M S (upd H a (.lst ys))/\Sp1 M H M (upd H a (.lst ys)):=by
 have s1:Sp1 M H M (upd H a (.lst ys)):=⟨r.mo,wX,λb z=>.inl z,λb o eb nb=>by rw[BC (λz=>nb (by rw[z];exact .inr ha))];exact eb⟩
 refine⟨⟨λb z=>?_,r.nd,r.nt,r.len,λn b c h1 h2=>?_⟩,s1⟩
 .by_cases h:b=a
  .subst h;exact⟨_,B7,trivial⟩
  .rw[BC h];exact r.mo b z
 .have hb:b≠a:=λz=>r.nt a ha (by rw[<-z];exact uy h1)
  exact(r.cell n b c h1 h2).step s1 λo e=>by rw[BC hb];exact e
def StR.ck(r:StR K ⟨c,a::t⟩ S H)(nt:a∉t)(e:H a=Gc (.lst xs))(rr:Al K ⟨c,a::t⟩ H xs ds)(ef:fin cf (.own ds) S=Gc (d,S')):∃c',StR K ⟨c',t⟩ S' H/\Bz K ⟨c',t⟩ H (.ref a) d/\c <+: c'/\(∀b∈c',b∈c\/b=a):=by
 have nc:a∉c:=r.nt a uO
 cases cf with
 |false=>
  cases ef
  have s1:Sp1 ⟨c,a::t⟩ H ⟨c,t⟩ H:=⟨r.mo,wX,λb z=>.inl (z.imp id (uL _)),λ_ _ e _=>e⟩
  refine⟨c,⟨λb z=>r.mo b (z.imp id (uL _)),r.nd,λb hb=>r.nt b (uL _ hb),r.len,λn b cl h1 h2=>?_⟩,.lst e (λz=>z.elim nc nt) (rr.step s1),wX,λb z=>.inl z⟩
  exact(r.cell n b cl h1 h2).step s1 λo e=>e
 |true=>
  cases ef
  have s1:Sp1 ⟨c,a::t⟩ H ⟨c++[a],t⟩ H:=⟨r.mo,z6 _ _,λb z=>by
   rcases z with z|z
   .rcases vH.mp z with z|z
    .exact .inl (.inl z)
    .exact .inl (.inr (by rw[uv.mp z];exact uO))
   .exact .inl (.inr (uL _ z)),λ_ _ e _=>e⟩
  have hl:c.length=S.length:=r.len
  refine⟨c++[a],⟨λb z=>?_,?_,λb hb z=>?_,by simp[hl],λn b cl h1 h2=>?_⟩,.ref ?_,z6 _ _,λb z=>?_⟩
  .refine r.mo b ?_
   rcases z with z|z
   .rcases vH.mp z with z|z
    .exact .inl z
    .exact .inr (by rw[uv.mp z];exact uO)
   .exact .inr (uL _ z)
  .rw[AAJ]
   refine⟨r.nd,by simp,λx hx y hy z=>?_⟩
   simp at hy;subst hy
   exact nc (by rw[<-z];exact hx)
  .rcases vH.mp z with z|z
   .exact r.nt b (uL _ hb) z
   .rw[uv.mp z]at hb;exact nt hb
  .by_cases h:n<S.length
   .rw[uK (by rw[hl];exact h)]at h1
    rw[uK h]at h2
    exact(r.cell n b cl h1 h2).step s1 λo e=>e
   .have hm:n=S.length:=by
     have:=(uU.mp h2).1
     simp at this;lia
    subst hm
    rw[vU (by rw[hl];exact uP _)]at h1
    rw[vU (uP _)]at h2
    rw[hl]at h1
    simp at h1 h2
    subst h1 h2
    exact⟨xs,e,rr.step s1⟩
  .rw[<-hl];exact uZ
  .rcases vH.mp z with z|z
   .exact .inl z
   .exact .inr (uv.mp z)
end
open Classical in
def BA(gs:Gd)(t:Tf)(c:Ev)(f:Ev):Wp D->Wp D->En->Sto->uM (Wp D×Sto)
 | [],acc,_,S=>if gOk gs S then Gc (acc,S)else none
 |d::ds,acc,E,S=>if gOk gs S then(if acc.length<sizeLine then(t d E S).bind λE1=>(c E1 S).bind λr=>match r.1 with
   | .bl true=>(f E1 r.2).bind λp=>BA gs t c f ds (acc++[p.1]) E1 p.2
   | .bl false=>BA gs t c f ds acc E1 r.2
   |_=>none
  else none)else none
noncomputable def Ai:Ev:=λ_ S=>Gc (.bl true,S)
noncomputable def MB(cap:Wp Nat)(m:Nat)(E:En):En:=cap.map (at? E)++uu m none
def Oh(cf:va)(cap:Wp Nat)(m:Nat)(s:Sr)(t:Tf)(c:Ev)(f:Ev):Ev:=λE S=>(s E S).bind λr=>(BA r.1.2 t c f r.1.1 [] (MB cap m E) r.2).bind λq=>fin cf (.own q.1) q.2
noncomputable abbrev Az:=Oh false
noncomputable abbrev Oc:=Oh true
noncomputable def ixC(cap:Wp Nat)(m:Nat):Wp (uM Nat):=cap.map Gc++uu m none
def EnR.cap(r:EnR K M E σ H) cap m:EnR K M (MB cap m E) (sig (ixC cap m) σ) H:=by
 unfold MB sig ixC
 refine⟨by simp,λi d e=>?_⟩
 have h1:=VE e
 rw[uR]at h1
 cases e1:cap[i]? with
 |none=>rw[e1]at h1;cases h1
 |some j=>
  rw[e1]at h1
  have h2:at? E j=Gc d:=by simpa using h1
  obtain⟨v,hv,rd⟩:=r.val j d (at?_some h2)
  refine⟨v,?_,rd⟩
  have hi:i<cap.length:=(uU.mp e1).1
  rw[ve,uK (by simpa using hi),uR,uR,e1]
  show Gc ((σ[j]?).join)=Gc (Gc v)
  rw[hv]
  rfl
def Vt(h:tD K (Oh cf cap m s t c f) σ H Q):cn (ixC cap m) (tI K s) (tG K t) (tDT K c) (tD K f) σ H Q:=by
 obtain⟨M,E,S,d,S',e,r,st,q⟩:=h
 obtain⟨⟨⟨ds,gs⟩,S1⟩,e1,e⟩:=As e
 obtain⟨⟨accf,Sf⟩,e3,e⟩:=As e
 dsimp only at e e3
 refine⟨M,E,S,ds,gs,S1,e1,r,st,λJ H1 M1 g1 st1 it A0 hD=>?_⟩
 obtain⟨st0,gx0,s0⟩:=st1.jJ hD
 have nt:A0∉M1.tmp:=λz=>st1.mo.some (.inr z) hD
 refine⟨λi mm σ' H' ys=>mm=ds.length-i/\∃Ei Si Mi acc,BA gs t c f (ds.drop i) acc Ei Si=Gc (accf,Sf)/\GrX M1 H1 Mi H'/\Mi.tmp=A0::M1.tmp/\EnR K Mi Ei σ' H'/\StR K Mi Si H'/\H' A0=Gc (.lst ys)/\Al K Mi H' ys acc,
  ⟨_,rfl,_,S1,_,[],e3,gx0,rfl,((r.step g1.st).step s0).cap cap m,st0,B7,.nil⟩,λi mm σ2 H2 ys hW=>?_⟩
 obtain⟨rfl,Ei,Si,Mi,acc,ec,gx,ht,r2,st2,hy,ry⟩:=hW
 have sp:Sp1 M1 H1 Mi H2:=⟨st1.mo,gx.pre,λa z=>by
  rcases z with z|z
  .exact(gx.fresh a z).imp .inl id
  .rw[ht]at z
   rcases uS.mp z with z|z
   .subst z;exact .inr hD
   .exact .inl (.inr z),λa o eo no=>gx.keep a o eo λz=>no (.inl z)⟩
 refine⟨hy,?_⟩
 cases ed:ds.drop i with
 |nil=>
  rw[ed]at ec
  unfold BA at ec
  split at ec
  .rename_i ok
   cases ec
   left
   obtain⟨ci,ti⟩:=Mi
   have ht':ti=A0::M1.tmp:=ht
   subst ht'
   obtain⟨c',st',rd',pr',sub'⟩:=st2.ck nt hy ry e
   refine⟨it.stop i H2 _ _ sp st2 ok (zI.mp ed),q _ _ ⟨c',M1.tmp⟩ (g1.trans ⟨st1.mo,gx.pre.trans pr',rfl,λa z=>?_,gx.keep,gx.some⟩) st' rd'⟩
   rcases sub' a z with z|z
   .exact gx.fresh a z
   .subst z;exact .inr hD
  .cases ec
 |cons d rest=>
  obtain⟨d1,d2,d3⟩:=Nc ed
  rw[ed]at ec
  unfold BA at ec
  split at ec
  .rename_i ok
   split at ec
   .rename_i hz
    obtain⟨E3,e4,ec⟩:=As ec
    obtain⟨⟨w5,S5⟩,e5,ec⟩:=As ec
    right
    refine⟨it.go i H2 Mi Si sp st2 ok d3,by rw[ry.length];exact hz,λx H3 hyl=>?_⟩
    obtain⟨k3,rx⟩:=it.yld i H2 Mi Si x H3 d sp st2 ok d1 hyl
    have g3:Gr Mi H2 Mi H3:=.grow st2.mo k3
    have st3:=st2.grow k3
    refine⟨Mi,d,Ei,E3,Si,e4,r2.step g3.st,st3,rx,λσ4 r4=>?_⟩
    have hA:A0∈Mi.tmp:=by rw[ht];exact uO
    have hy3:H3 A0=Gc (.lst ys):=k3 _ _ hy
    have ry3:Al K Mi H3 ys acc:=ry.step g3.st
    have fin:∀{E6:En} {S6:Sto} {M6:Ms} {H6:Hp} {zs:Wp V} {acc6:Wp D},BA gs t c f rest acc6 E6 S6=Gc (accf,Sf)->GrX M1 H1 M6 H6->M6.tmp=A0::M1.tmp->EnR K M6 E6 σ4 H6->StR K M6 S6 H6->H6 A0=Gc (.lst zs)->Al K M6 H6 zs acc6->
      ∃m',m'<ds.length-i/\(m'=ds.length-(i+1)/\∃Ei Si Mi acc,BA gs t c f (ds.drop (i+1)) acc Ei Si=Gc (accf,Sf)/\GrX M1 H1 Mi H6/\Mi.tmp=A0::M1.tmp/\EnR K Mi Ei σ4 H6/\StR K Mi Si H6/\H6 A0=Gc (.lst zs)/\Al K Mi H6 zs acc):=
     λ{E6 S6 M6 H6 zs acc6} ec g6 t6 r6 st6 h6 y6=>⟨_,zJ _ _ d3,rfl,E6,S6,M6,acc6,by rw[d2];exact ec,g6,t6,r6,st6,h6,y6⟩
    dsimp only at ec
    split at ec
    .obtain⟨⟨w7,S7⟩,e7,ec⟩:=As ec
     refine⟨Mi,E3,Si,true,S5,e5,r4,st3,λH5 M5 g5 st5=>?_⟩
     refine Ye ?_
     refine⟨M5,E3,S5,w7,S7,e7,r4.step g5.st,st5,λy H7 M7 g7 st7 d7=>?_⟩
     have nA:∀{M6:Ms} {H6:Hp} {S6:Sto},StR K M6 S6 H6->A0∈M6.tmp->A0∉M6.cel:=λr6 h6=>r6.nt A0 h6
     have hA5:A0∈M5.tmp:=by rw[g5.tmp];exact hA
     have hA7:A0∈M7.tmp:=by rw[g7.tmp];exact hA5
     have hy5:H5 A0=Gc (.lst ys):=g5.keep _ _ hy3 (nA st3 hA)
     have hy7:H7 A0=Gc (.lst ys):=g7.keep _ _ hy5 (nA st5 hA5)
     have ry7:Al K M7 H7 ys acc:=(ry3.step g5.st).step g7.st
     refine⟨hy7,?_⟩
     obtain⟨st8,s8⟩:=st7.dG (ys:=ys++[y]) hA7
     have gx7:GrX M1 H1 M7 H7:=((gx.trans g3.x).trans g5.x).trans g7.x
     have gx8:GrX M1 H1 M7 (upd H7 A0 (.lst (ys++[y]))):=⟨gx7.pre,gx7.fresh,λa o eo no=>by
      rw[BC (λz=>by subst z;rw[hD]at eo;cases eo)]
      exact gx7.keep a o eo no,λa ea=>by
      by_cases h:a=A0
      .subst h;rw[B7];intro z;cases z
      .rw[BC h];exact gx7.some a ea⟩
     exact fin ec gx8 (by rw[g7.tmp,g5.tmp];exact ht) (((r4.step g5.st).step g7.st).step s8) st8 B7 ((ry7.append (.cons d7 .nil)).step s8)
    .refine⟨Mi,E3,Si,false,S5,e5,r4,st3,λH5 M5 g5 st5=>?_⟩
     refine Xi ?_
     exact fin ec ((gx.trans g3.x).trans g5.x) (by rw[g5.tmp];exact ht) (r4.step g5.st) st5 (g5.keep _ _ hy3 (st3.nt A0 hA)) (ry3.step g5.st)
    .cases ec
   .cases ec
  .cases ec
structure DTs(X:Cx)(ifs:Wp vw)(c:Ev):Prop where
 pe:PTs X ifs (tDT X.K c)
def Y6(h:PTs X e t)(m:∀σ H Q,t' σ H Q->t σ H Q):PTs X e t':=λpins s σ H Q I q=>h pins s σ H Q I (m _ _ _ q)
def Ha:DTs X [] Ai:=⟨Y6 dJ λσ H Q z=>by
 obtain⟨M,E,S,b,S',e,r,st,q⟩:=z
 cases e
 exact q _ M (.refl st.mo) st⟩
def av(h:DT X c f):DTs X [c] f:=⟨cy h.pe⟩
section
variable{X:Cx}{N':Wp Str}{cf:va}{scope:yE}{elt tg iter:vw}{pos:Pos}{t:Tf}
def Blk(X:Cx)(N':Wp Str)(scope:yE)(tg:vw)(ifs:Wp vw)(elt:vw)(t:Tf)(c f:Ev):Prop:=
 ∀(s:uf) (H:Hp) (fp:Wp ue),DG (Hz X N' scope s H fp) tg t/\DTs (Hz X N' scope s H fp) ifs c/\DE (Hz X N' scope s H fp) elt f
def Ie cap m N'(hc:X.calm=true)(S:AJ X.N X.env.scope N' (ixC cap m) scope)(hi:DI X tg iter s)(hb:Blk X N' scope tg ifs elt t c f)(hs:x0 (∀x,foldedSetIterable iter X.env x=pure x) ww):DE X (.ListComp elt [⟨tg,iter,ifs,0⟩] scope pos) (Oh cf cap m s t c f):=⟨
 Ba (aT (g:=tG X.K t) (tc:=tDT X.K c) (te:=tD X.K f) hc S hi.pe (λs H fp=>⟨(hb s H fp).1.pe,(hb s H fp).2.1.pe,(hb s H fp).2.2.pe⟩) hs) λ_ _ _ h=>Vt h⟩
def OE{py spos:Pos} cap m N'(hc:X.calm=true)(hN:X.N.Nodup)(hi':X.N[i]?=Gc y)(hx:X.env.scope.names.lookup y=Gc .local)(S:AJ X.N X.env.scope N' (ixC cap m) scope)(hi:DI X tg iter s)(hb:Blk X N' scope tg ifs elt t c f)(hsw:x0 (swapsWith (.ListComp elt [⟨tg,iter,ifs,0⟩] scope pos) (Gc (.Name y py)) spos.line X.env=pure true) wv)(hs:x0 (∀x,foldedSetIterable iter X.env x=pure x) ww):DS X (.Assign [.Name y py] (.ListComp elt [⟨tg,iter,ifs,0⟩] scope pos) spos) (A9 i (Oh cf cap m s t c f)):=⟨
 FJ (Tz (g:=tG X.K t) (tc:=tDT X.K c) (te:=tD X.K f) hc hN hi' hx S hi.pe (λs H fp=>⟨(hb s H fp).1.pe,(hb s H fp).2.1.pe,(hb s H fp).2.2.pe⟩) hsw hs) λDn σ H z=>by
  obtain⟨M,E,S,fl,E',S',e,r,st,q⟩:=z
  obtain⟨⟨d,S1⟩,e1,e⟩:=Lf e
  cases e
  exact Vt ⟨M,E,S,d,S1,e1,r,st,λv H1 M1 g1 st1 r1=>q _ _ M1 g1 ((r.step g1.st).put r1) st1⟩⟩
end
noncomputable def Nt{α:Type}(xs:Wp α)(lo hi:uM Int):Wp α:=(xs.drop (HT.sIx xs.length 0 lo)).take (HT.sIx xs.length xs.length hi-HT.sIx xs.length 0 lo)
def VA(h:Al K M H xs ds) lo hi:Al K M H (ZL xs lo hi) (Nt ds lo hi):=by
 unfold ZL Nt
 rw[h.length]
 exact(h.drop _).take _
def Wz{xs:Wp α}(h1:HT.sIx xs.length 0 lo=0)(h2:HT.sIx xs.length xs.length hi=xs.length):Nt xs lo hi=xs:=by
 unfold Nt
 rw[h1,h2]
 simp
noncomputable def wSl(lo hi:uM Int):Op1:=λw=>match w with
 | .val (.tup ds)=>Gc (.val (.tup (Nt ds lo hi)))
 | .val (.str z)=>if z.length<=sizeLine then Gc (.val (.str (Txt.slice z lo hi)))else none
 |w=>(asL w).map λds=>.own (Nt ds lo hi)
def rS(K:uF):V->uM Int->uM Int->Hp->VK->Prop:=λx lo hi H Q=>∃M w r,wSl lo hi w=Gc r/\MOk M H/\Sh K M H x w/\∀v H',Nw K M H H' v r->Q v H'
def iI:SlR X (λx lo hi H Q=>∃z,x=.str z/\z.length<=sizeLine/\Q (.str (Txt.slice z lo hi)) H):=by
 intro pins s σ H x v vl vu lo hi sl Q I rx hs pl pu h
 obtain⟨z,rfl,hz,q⟩:=h
 obtain⟨t,rfl⟩:=rx
 have fin:∀t' k,EP X pins σ Q (.str (Txt.slice z lo hi) t') {s with toks:=k}:=λt' k=>⟨.str _,H,I.tok k,⟨t',rfl⟩,q⟩
 cases pl with
 |none=>
  cases pu with
  |none=>exact⟨"str",_,xr.lookup,AAo _ _ _,xv (l:=none) (u:=none) (st:=none) hs rfl (zP ⟨uH (AAq z _ _) hz,fin⟩)⟩
  |int j u=>exact⟨"str",_,xr.lookup,AAo _ _ _,xv (l:=none) (u:=Gc (j,u)) (st:=none) hs rfl (zP ⟨uH (AAq z _ _) hz,fin⟩)⟩
 |int i u'=>
  cases pu with
  |none=>exact⟨"str",_,xr.lookup,AAo _ _ _,xv (l:=Gc (i,u')) (u:=none) (st:=none) hs rfl (zP ⟨uH (AAq z _ _) hz,fin⟩)⟩
  |int j u=>exact⟨"str",_,xr.lookup,AAo _ _ _,xv (l:=Gc (i,u')) (u:=Gc (j,u)) (st:=none) hs rfl (zP ⟨uH (AAq z _ _) hz,fin⟩)⟩
def oW:SlR X (rS X.K):=by
 intro pins s σ H x v vl vu lo hi sl Q I rx hs pl pu h
 obtain⟨M,w,r,e,mo,sh,q⟩:=h
 unfold wSl at e
 split at e
 .rename_i ds
  cases e
  cases sh with
  |tup hx rr=>
   rename_i a xs
   have hl:=rr.length
   by_cases hw:HT.sIx xs.length 0 lo=0/\HT.sIx xs.length xs.length hi=xs.length
   .refine St.fJ pins s σ H _ v vl vu lo hi sl Q I rx hs pl pu ⟨a,xs,rfl,hx,hw.1,hw.2,?_⟩
    have ew:Nt ds lo hi=ds:=Wz (by rw[<-hl];exact hw.1) (by rw[<-hl];exact hw.2)
    rw[ew]at q
    exact q _ _ (.same mo (.tup hx rr))
   .exact gH pins s σ H _ v vl vu lo hi sl Q I rx hs pl pu ⟨a,xs,rfl,hx,hw,λp hp=>q _ _ (.tup mo hp (VA rr lo hi))⟩
 .split at e
  .cases e
   cases sh
   exact iI pins s σ H _ v vl vu lo hi sl Q I rx hs pl pu ⟨_,rfl,by assumption,q _ _ (.same mo (.str _))⟩
  .cases e
 .cases e1:asL w with
  |none=>rw[e1]at e;cases e
  |some ds=>
   rw[e1]at e
   cases e
   obtain⟨a,xs,rfl,h1,rr⟩:=sh.l e1
   exact cQ pins s σ H _ v vl vu lo hi sl Q I rx hs pl pu ⟨a,xs,rfl,.of h1,λp hp=>q _ _ (.lst mo hp (VA rr lo hi))⟩
noncomputable def eG:Wv->uM Int
 | .val (.int i)=>Gc i
 |_=>none
noncomputable def N8(l h:va):OpN:=λws=>match l,h,ws with
 |false,false,[a]=>wSl none none a
 |true,false,[a,b]=>(eG b).bind λi=>wSl (Gc i) none a
 |false,true,[a,b]=>(eG b).bind λi=>wSl none (Gc i) a
 |true,true,[a,b,c]=>(eG b).bind λi=>(eG c).bind λj=>wSl (Gc i) (Gc j) a
 |_,_,_=>none
def WZ(s:Sh K M H v w)(e:eG w=Gc i):v=.int i:=by
 cases w with
 |own ds=>cases e
 |val d=>
  cases d<;>first|(cases e;done)|skip
  cases e;cases s;rfl
section
variable{X:Cx}{e lo hi:vw}{oe ol oh:Ev}{c:va}{pos p2:Pos}
def lZ(h:DE X e oe)(hl:DE X lo ol):DE X (.Subscript e (.Slice (Gc lo) none none p2) pos) (Px c (N8 true false) [oe,ol]):=⟨Ba (PU oW h.pe (Pm hl.pe) W3) λσ H Q z=>by
 obtain⟨M0,E,S0,w,S1,e,r,st,q⟩:=z
 have z:tD X.K oe σ H λx H1=>tD X.K ol σ H1 λy H2=>rN X.K (N8 true false) [x,y] H2 Q:=OJ (Q:=Q) e r st q
 refine Fj z λx H1 z1=>Fj z1 λy H2 z2=>?_
 obtain⟨M,ws,w',e1,mo,sh,q1⟩:=z2
 cases sh with
 |cons h1 t=>
  cases t with
  |cons h2 t=>
   cases t
   obtain⟨i,ei,e1⟩:=As e1
   exact⟨i,WZ h2 ei,M,_,w',e1,mo,h1,q1⟩⟩
def nP(h:DE X e oe)(hh:DE X hi oh):DE X (.Subscript e (.Slice none (Gc hi) none p2) pos) (Px c (N8 false true) [oe,oh]):=⟨Ba (PU oW h.pe W3 (Pm hh.pe)) λσ H Q z=>by
 obtain⟨M0,E,S0,w,S1,e,r,st,q⟩:=z
 have z:tD X.K oe σ H λx H1=>tD X.K oh σ H1 λy H2=>rN X.K (N8 false true) [x,y] H2 Q:=OJ (Q:=Q) e r st q
 refine Fj z λx H1 z1=>Fj z1 λy H2 z2=>?_
 obtain⟨M,ws,w',e1,mo,sh,q1⟩:=z2
 cases sh with
 |cons h1 t=>
  cases t with
  |cons h2 t=>
   cases t
   obtain⟨i,ei,e1⟩:=As e1
   exact⟨i,WZ h2 ei,M,_,w',e1,mo,h1,q1⟩⟩
def Wt(r:Bz K M H v d)(e:eG (dr S d)=Gc i):v=.int i:=by
 cases r<;>first|(cases e;done)|skip
 .cases e;rfl
 .rename_i n h
  unfold dr at e
  dsimp only at e
  split at e<;>cases e
def nQ(h:DE X e oe)(hl:DE X lo ol)(hh:DE X hi oh):DE X (.Subscript e (.Slice (Gc lo) (Gc hi) none p2) pos) (Px c (N8 true true) [oe,ol,oh]):=⟨Ba (PU oW h.pe (Pm hl.pe) (Pm hh.pe)) λσ H Q z=>by
 obtain⟨M0,E,S0,w,S1,e,r,st,q⟩:=z
 obtain⟨⟨ds,S2⟩,e1,e⟩:=As e
 obtain⟨w2,e2,e⟩:=As e
 obtain⟨⟨d1,Sa⟩,ea,e1⟩:=As e1
 obtain⟨⟨ds1,Sb⟩,eb,e1⟩:=Lf e1
 cases e1
 obtain⟨⟨d2,Sc⟩,ec,eb⟩:=As eb
 obtain⟨⟨ds2,Sd⟩,ed,eb⟩:=Lf eb
 cases eb
 obtain⟨⟨d3,Se⟩,ee,ed⟩:=As ed
 obtain⟨⟨ds3,Sf⟩,ef,ed⟩:=Lf ed
 cases ed
 cases ef
 obtain⟨i,ei,e2⟩:=As e2
 obtain⟨j,ej,e2⟩:=As e2
 refine⟨M0,E,S0,d1,Sa,ea,r,st,λx H1 M1 g1 st1 r1=>?_⟩
 refine⟨M1,E,Sa,d2,Sc,ec,r.step g1.st,st1,λy H2 M2 g2 st2 r2=>⟨i,?_,?_⟩⟩
 .exact Wt r2 ei
 refine⟨M2,E,Sc,d3,Se,ee,(r.step g1.st).step g2.st,st2,λu H3 M3 g3 st3 r3=>⟨j,?_,?_⟩⟩
 .exact Wt r3 ej
 refine⟨M3,_,w2,e2,st3.mo,aQ st3 ((r1.step g2.st).step g3.st),λv H4 n=>?_⟩
 obtain⟨M4,g4,st4,d4⟩:=n.fin st3 e
 exact q v H4 M4 (((g1.trans g2).trans g3).trans g4) st4 d4⟩
noncomputable def Tw(oa ob oc:Ev):Ev:=λE S=>(evs [oa,ob] E S).bind λr=>match r.1 with
 | [.int i,.int j]=>if i<=j then(oc E r.2).bind λp=>match p.1 with
     | .int k=>Gc (.bl (decide (j<=k)),p.2)
     |_=>none
   else Gc (.bl false,r.2)
 |_=>none
def pH(h:tD K (Tw oa ob oc) σ H Q):Zh (rI0 λi j=>.bl (decide (i<=j))) (rI0 λi j=>.bl (decide (i<=j))) (tD K oa) (tD K ob) (tD K oc) σ H Q:=by
 obtain⟨M,E,S,d,S',e,r,st,q⟩:=h
 obtain⟨⟨ws,S1⟩,e1,e⟩:=As e
 have zz:=GP (K:=K) (σ:=σ) (fs:=[oa,ob]) (Q:=λvs H2=>∃i j:Int,vs=[V.int i,V.int j]/\rI0 (λi j=>.bl (decide (i<=j))) (.int i) (.int j) H2 λz H3=>∃k,z=.bl k/\(if k=true then tD K oc σ H3 λw' H4=>rI0 (λi j=>.bl (decide (i<=j))) (.int j) w' H4 Q else Q (.bl false) H3)) e1 r st (λvs H1 M1 g1 st1 r1=>by
  dsimp only at e
  split at e
  .rename_i i j
   have hv:=W2 r1
   refine⟨i,j,hv,i,j,rfl,rfl,_,rfl,?_⟩
   by_cases hij:i<=j
   .rw[vF hij]at e
    rw[vF (by simpa using hij)]
    obtain⟨⟨w2,S2⟩,e2,e⟩:=As e
    dsimp only at e
    split at e
    .rename_i k
     cases e
     refine⟨M1,E,S1,_,_,e2,r.step g1.st,st1,λv H2 M2 g2 st2 r2=>?_⟩
     cases r2
     exact⟨j,k,rfl,rfl,q _ _ M2 (g1.trans g2) st2 (.bl _)⟩
    .cases e
   .rw[vL hij]at e
    cases e
    rw[vL (by simpa using hij)]
    exact q _ _ M1 g1 st1 (.bl _)
  .cases e)
 refine Fj (show tD K oa σ H _ from zz) λx H1 z1=>Fj z1 λy H2 z2=>?_
 obtain⟨i,j,ev,z2⟩:=z2
 cases ev
 exact z2
def cL{a b c:vw}(ha:DE X a oa)(hb:DE X b ob)(hc:DE X c oc)(hm:x0 (lastMarks [.LtE,.LtE] [b,c]=false) wn):DE X (.Compare a [.LtE,.LtE] [b,c] pos) (Tw oa ob oc):=⟨
 Ba (X6 cS cS ha.pe hb.pe hc.pe hm) λ_ _ _ h=>pH h⟩
structure Q8(K:uF)(mg:Str->uM uT)(x:Str)(d:D):Prop where
 ex:∃v u,mg x=Gc u/\RelV v u/\∀M H,Bz K M H v d
def dW(c:Q8 X.K X.mg x d)(hg:Gl X x)(hd:x0 ((x==("__debug__":Str))=false) xL):DE X (.Name x pos) (eC d):=⟨by
 obtain⟨v,u,h1,h2,h3⟩:=c.ex
 exact Ba (O0 hg h1 h2 hd) λσ H Q z=>by
  obtain⟨M0,E,S0,w,S1,e,rr,st,q⟩:=z
  cases e
  exact q _ _ M0 (.refl st.mo) st (h3 _ _)⟩
def cB(hg:Gl X x)(hm:X.mg x=none)(hv:bootBuiltins x=Gc (.type T))(hn:x0 (x≠ "__name__") xL)(hd:x0 ((x==("__debug__":Str))=false) xL):DE X (.Name x pos) (eC (.ty T)):=
 QQ (cV (v:=.ty T) hg hm hv rfl hn hd) λ_ _ _=>.ty T
structure fB(K:uF)(w:v9)(mg:Str->uM uT)(x:Str)(tbl:Wp (Str×D)):Prop where
 ex:∃a kvs,mg x=Gc (.ref a)/\TopD K w a kvs/\∀k,(tbl.lookup k=none->kvs.lookup k=none)/\∀d,tbl.lookup k=Gc d->∃v,kvs.lookup k=Gc v/\∀M H,Bz K M H v d
noncomputable def iG(tbl:Wp (Str×D)):Op1
 | .val (.str k)=>(tbl.lookup k).map .val
 |_=>none
noncomputable def OH(neg:va)(tbl:Wp (Str×D)):Op1
 | .val (.str k)=>Gc (.val (.bl (if neg then !(tbl.lookup k).isSome else(tbl.lookup k).isSome)))
 |_=>none
def jW{p:Pos}(c:fB X.K X.w X.mg x tbl)(hg:Gl X x)(h:DE X i o)(hs:x0 (PZ i) wf)(hd:x0 ((x==("__debug__":Str))=false) xL):DE X (.Subscript (.Name x p) i pos) (eOp (o1 (iG tbl)) [o]):=⟨by
 obtain⟨a,kvs,h1,h2,h3⟩:=c.ex
 refine Ba (bx aI (O0 (v:=.ref a) hg h1 rfl hd) h.pe hs) λσ H Q z=>?_
 refine Fj (Wy z) λy H1 z1=>?_
 obtain⟨M,w,r,e,mo,sh,q⟩:=z1
 unfold iG at e
 split at e
 .rename_i k
  cases e1:tbl.lookup k with
  |none=>rw[e1]at e;cases e
  |some d=>
   rw[e1]at e
   cases e
   cases sh
   obtain⟨v,q1,q2⟩:=(h3 k).2 d e1
   exact⟨a,kvs,k,v,rfl,rfl,h2,q1,q _ _ (.same mo (q2 _ _))⟩
 .cases e⟩
def ja{x:Str}(h2:TopD X.K X.w a kvs)(h3:∀k,(tbl.lookup k=none->kvs.lookup k=none)/\∀d,tbl.lookup k=Gc d->∃v,kvs.lookup k=Gc v/\∀M H,Bz X.K M H v d)(z:rUn X.K (OH neg tbl) y H Q):Zg X.K X.w neg y (.ref a) H Q:=by
 obtain⟨M,w,r,e,mo,sh,q⟩:=z
 unfold OH at e
 split at e
 .rename_i k
  cases e
  cases sh
  refine⟨a,kvs,k,rfl,rfl,h2,?_⟩
  have:(kvs.lookup k).isSome=(tbl.lookup k).isSome:=by
   cases e1:tbl.lookup k with
   |none=>rw[(h3 k).1 e1];rfl
   |some d=>obtain⟨v,q1,_⟩:=(h3 k).2 d e1;rw[q1];rfl
  rw[this]
  exact q _ _ (.same mo (.bl _))
 .cases e
def RI(c:fB X.K X.w X.mg x tbl)(hg:Gl X x)(h:DE X i o)(hd:x0 ((x==("__debug__":Str))=false) xL):DT X (.Compare i [.NotIn] [.Name x p] pos) (eOp (o1 (OH true tbl)) [o]):=by
 obtain⟨a,kvs,h1,h2,h3⟩:=c.ex
 exact Yp (WQ QO h.pe (O0 (v:=.ref a) hg h1 rfl hd) rfl) λσ H Q z=>Fj (Wy z) λy H1 z1=>ja (x:=x) h2 h3 z1
end
noncomputable def Nr:Nat->Wp D->Wp D
 |_,[]=>[]
 |k,d::ds=>.tup [.int k,d]::Nr (k+1) ds
theorem ME:∀{ds} {k i:Nat},(Nr k ds)[i]?=(ds[i]?).map λd=>.tup [.int ((k+i:Nat):Int),d]
 | [],k,i=>by simp[Nr]
 |d::ds,k,0=>by simp[Nr]
 |d::ds,k,i+1=>by
  simp only[Nr,List.getElem?_cons_succ]
  rw[ME,show k+1+i=k+(i+1) by lia]
theorem Pl:∀{ds} {k},(Nr k ds).length=ds.length
 | [],k=>rfl
 |d::ds,k=>by simp[Nr,Pl (ds:=ds)]
def SqF.sqB{K:uF}{M:Ms}{H:Hp}{gs:Gd}{k:va}{a:ue}{ds:Wp D}(h:SqF K M H gs k a ds){H2:Hp}{M2:Ms}(g:Sp1 M H M2 H2)(st:StR K M2 S2 H2)(ok:gOk gs S2):∃xs,SqB K H2 k a xs/\Al K M2 H2 xs ds:=by
 obtain⟨xs,h1,h2⟩:=h.keep H2 M2 S2 g st ok
 refine⟨xs,?_,h2⟩
 cases k with
 |true=>exact h1
 |false=>exact h1
theorem fF(h:SqF K M H gs k a ds):gw K M H gs (Nr 0 ds) (ItE K k a) where
 go:=λi H2 M2 S2 g st ok hi=>by
  rw[Pl]at hi
  obtain⟨xs,h1,h2⟩:=h.sqB g st ok
  obtain⟨x,hx⟩:=h2.get' hi
  exact⟨xs,x,h1,hx⟩
 stop:=λi H2 M2 S2 g st ok hi=>by
  rw[Pl]at hi
  obtain⟨xs,h1,h2⟩:=h.sqB g st ok
  exact⟨xs,h1,by have:=h2.length;lia⟩
 yld:=λi H2 M2 S2 x H3 d g st ok hd hy=>by
  obtain⟨xs,h1,h2⟩:=h.sqB g st ok
  obtain⟨p,y,hp,rfl,hy,rfl⟩:=hy
  have hx:=hy xs h1
  rw[ME]at hd
  obtain⟨d0,e,hd⟩:=Lf hd
  subst hd
  obtain⟨x',h3,h4⟩:=h2.get e
  rw[hx]at h3;cases h3
  have k3:=Io (o:=.tup [.int i,y]) hp
  refine⟨k3,.tup (.of B7) (.cons ?_ (.cons (h4.step (Gr.grow st.mo k3).st) .nil))⟩
  rw[Nat.zero_add]
  exact .int _
noncomputable def XU(f:Ev):Sr:=λE S=>(f E S).bind λr=>(sqD r.2 r.1).map λp=>((Nr 0 p.1,p.2),r.2)
def ZS(hg:Gl X "enumerate")(hm:X.mg "enumerate"=none)(ha:DE X a f)(hs:x0 (um [a] X.env=[(false,eval a X.env)]) wv):DI X (.Tuple elts k tp) (.Call (.Name "enumerate" p) [a] [] pos) (XU f):=⟨
 PJ (Ys hg hm (O7 ha.pe Us (by rw[hs];rfl)) hs) λσ H R z=>by
  obtain⟨M,E,S,ds,gs,S',e,r,st,q⟩:=z
  obtain⟨⟨d,S1⟩,e1,e⟩:=As e
  obtain⟨⟨ds',gs'⟩,e2,e⟩:=Lf e
  cases e
  refine⟨M,E,S,d,S1,e1,r,st,λv H1 M1 g1 st1 r1=>?_⟩
  obtain⟨k,a,rfl,sq⟩:=Sj st1 r1 e2
  obtain⟨xs,hs,_⟩:=sq.sqB (Gr.refl st1.mo).st st1 (Ow e2)
  exact⟨k,a,rfl,⟨xs,hs⟩,q _ _ M1 g1 st1 (fF sq)⟩⟩
noncomputable def JC(ds es:Wp D):Wp D:=(ds.zip es).map λp=>.tup [p.1,p.2]
def Xj{i:Nat}(h:(JC ds es)[i]?=Gc d):∃x y,ds[i]?=Gc x/\es[i]?=Gc y/\d=.tup [x,y]:=by
 unfold JC at h
 simp only[uR,xG]at h
 obtain⟨⟨x,y⟩,h1,h2⟩:=h
 rw[AAC]at h1
 exact⟨x,y,h1.1,h1.2,h2.symm⟩
def MQ:(JC ds es).length=min ds.length es.length:=by simp[JC]
def SqF.more(h:SqF K M H gs k a ds)(s:∀g∈gs,g∈gs'):SqF K M H gs' k a ds:=⟨λH2 M2 S2 g st ok=>h.keep H2 M2 S2 g st λx hx=>ok x (s x hx)⟩
theorem gQ(h:SqF K M H gs k a ds)(h':SqF K M H gs m b es):gw K M H gs (JC ds es) (Itz K k a m b) where
 go:=λi H2 M2 S2 g st ok hi=>by
  rw[MQ]at hi
  obtain⟨xs,h1,r⟩:=h.sqB g st ok
  obtain⟨ys,h2,r'⟩:=h'.sqB g st ok
  obtain⟨x,hx⟩:=r.get' (show i<ds.length by lia)
  obtain⟨y,hy⟩:=r'.get' (show i<es.length by lia)
  exact⟨xs,ys,x,y,h1,h2,hx,hy⟩
 stop:=λi H2 M2 S2 g st ok hi=>by
  rw[MQ]at hi
  obtain⟨xs,h1,r⟩:=h.sqB g st ok
  obtain⟨ys,h2,r'⟩:=h'.sqB g st ok
  have:=r.length
  have:=r'.length
  exact⟨xs,ys,h1,h2,by lia⟩
 yld:=λi H2 M2 S2 x H3 d g st ok hd hy=>by
  obtain⟨xs,h1,r⟩:=h.sqB g st ok
  obtain⟨ys,h2,r'⟩:=h'.sqB g st ok
  obtain⟨p,x1,y1,hp,rfl,q1,q2,rfl⟩:=hy
  obtain⟨d1,d2,e1,e2,rfl⟩:=Xj hd
  have hx:=q1 xs h1
  have hy:=q2 ys h2
  obtain⟨x',h3,h4⟩:=r.get e1
  obtain⟨y',h5,h6⟩:=r'.get e2
  rw[hx]at h3;cases h3
  rw[hy]at h5;cases h5
  have k3:=Io (o:=.tup [x1,y1]) hp
  exact⟨k3,.tup (.of B7) (.cons (h4.step (Gr.grow st.mo k3).st) (.cons (h6.step (Gr.grow st.mo k3).st) .nil))⟩
noncomputable def Q7(f g:Ev):Sr:=λE S=>(evs [f,g] E S).bind λr=>match r.1 with
 | [d,e]=>(sqD r.2 d).bind λp=>(sqD r.2 e).map λq=>((JC p.1 q.1,p.2++q.2),r.2)
 |_=>none
def jK{p pos tp:Pos}{elts:Wp vw}{k:Nat}(hg:Gl X "zip")(hm:X.mg "zip"=none)(ha:DE X a f)(hb:DE X b g)(hs:x0 (um [a,b] X.env=[(false,eval a X.env),(false,eval b X.env)]) wv)(hs2:x0 (um [b] X.env=[(false,eval b X.env)]) wv):DI X (.Tuple elts k tp) (.Call (.Name "zip" p) [a,b] [] pos) (Q7 f g):=⟨
 PJ (iR hg hm (AD ha (AD hb AO hs2) (by rw[hs,hs2])).pe hs hs2) λσ H R z=>by
  obtain⟨M,E,S,ds,gs,S',e,r,st,q⟩:=z
  obtain⟨⟨ws,S1⟩,e1,e⟩:=As e
  refine GP (fs:=[f,g]) e1 r st λvs H1 M1 g1 st1 r1=>?_
  dsimp only at e
  split at e
  .obtain⟨⟨ds1,gs1⟩,eu,e⟩:=As e
   obtain⟨⟨ds2,gs2⟩,ee,e⟩:=Lf e
   cases e
   cases r1 with
   |cons h1 t=>
    cases t with
    |cons h2 t=>
     cases t
     obtain⟨k1,a1,rfl,s1⟩:=Sj st1 h1 eu
     obtain⟨k2,a2,rfl,s2⟩:=Sj st1 h2 ee
     obtain⟨xs,hxs,_⟩:=s1.sqB (Gr.refl st1.mo).st st1 (Ow eu)
     obtain⟨ys,hys,_⟩:=s2.sqB (Gr.refl st1.mo).st st1 (Ow ee)
     exact⟨_,_,_,_,rfl,⟨_,hxs⟩,⟨_,hys⟩,q _ _ M1 g1 st1 (gQ (s1.more λx hx=>zF _ hx) (s2.more λx hx=>vN _ hx))⟩
  .cases e⟩
noncomputable def intD:D->uM Int
 | .int i=>Gc i
 |_=>none
noncomputable def Jh(ds:Wp D):uM (Wp Int):=ds.mapM intD
theorem Ko:∀{vs} {ds} {ns},Al K M H vs ds->Jh ds=Gc ns->vs=ns.map V.int
 |_,_,ns,.nil,e=>by cases e;rfl
 |_,_,ns,.cons (d:=d) (ds:=ds) h t,e=>by
  unfold Jh at e
  rw[z8]at e
  cases e1:intD d with
  |none=>rw[e1]at e;cases e
  |some b=>
   rw[e1]at e
   cases e2:ds.mapM intD with
   |none=>rw[e2]at e;cases e
   |some cs=>
    rw[e2]at e
    cases e
    have hd:d=.int b:=by
     cases d<;>first|(cases e1;done)|skip
     cases e1;rfl
    subst hd
    cases h
    rw[uV,<-Ko t e2]
def Vi(hc:X.calm=true):EW X (.builtin "sum") (λxs H Q=>∃(p:ue) (ns:Wp Int),xs=[.ref p]/\SqL X.K H p (ns.map V.int)/\Q (.int ns.sum) H):=by
 intro pins s σ H xs us Q I r h
 obtain⟨p,ns,rfl,hp,q⟩:=h
 obtain⟨u,rfl,ru⟩:=r.one
 cases (show u=vT p from ru)
 obtain⟨its,rv,pl,hz⟩:=I.list hp
 have hd:X.A.in1.handled=none:=I.ok.hd hc
 refine call_sum_walkG (wU pl.isList ?_)
 have hlen:ns.length=its.length:=by have:=rv.length;simpa using this
 have hpl:=pl.isList
 have hlt:p<s.heap.objs.size:=by
  obtain⟨o,ho,_⟩:=hpl
  exact uk ho
 refine⟨s.heap.objs.size,_,_,its.length,_,_,λi=>ns.getD i 0,rfl,St.OL (vs:=its) hd (vG hlt),⟨⟨_,uw _ rfl,rfl,rfl⟩,?_⟩,?_,?_,?_⟩
 .obtain⟨o,ho,r⟩:=hpl
  exact⟨o,uG _ ho,r⟩
 .intro b hb
  rw[vq]
  simp at hb
  rcases hb with h|h
  .rw[h];exact Nat.lt_succ_self _
  .rw[h];exact AAK hlt
 .intro i v hv
  have hi:i<its.length:=(uU.mp hv).1
  have hb:(ns.map V.int)[i]?=Gc (.int (ns.getD i 0)):=by
   rw[uR,uN (by lia)]
   simp[uY,uN (show i<ns.length by lia)]
  obtain⟨u,hu,ru⟩:=rv.get hb
  rw[hv]at hu
  cases hu
  exact ru
 .intro h' tk t' hk
  have e:preSum (λi=>ns.getD i 0) its.length=ns.sum:=by
   rw[<-hlen,St.Mm (uP _),yA (uP _)]
  rw[e]
  exact⟨.int _,H,I.kept (t':=tk) λb o eb=>hk b o (by simp;exact vG (uk eb)) (uG _ eb),⟨_,rfl⟩,q⟩
noncomputable def Od:Op1:=λw=>(asL w).bind λds=>(Jh ds).map λns=>.val (.int ns.sum)
def eY(hc:X.calm=true):EW X (.builtin "sum") (rN X.K (o1 Od)):=by
 intro pins s σ H xs us Q I r h
 obtain⟨M,ws,w,e,mo,sh,q⟩:=h
 obtain⟨v,w1,rfl,rfl,s1,e1⟩:=Js sh e
 obtain⟨ds,e2,e1⟩:=As e1
 obtain⟨ns,e3,e1⟩:=Lf e1
 cases e1
 obtain⟨a,ys,rfl,h3,h4⟩:=s1.l e2
 exact Vi hc pins s σ H _ us Q I r ⟨a,ns,rfl,by rw[<-Ko h4 e3];exact .of h3,q _ _ (.same mo (.int _))⟩
noncomputable def Nx(ns:Wp Int):Wp Int:=ns.mergeSort (λa b=>decide (a<=b))
def Ob ns:(Nx ns).Perm ns:=List.mergeSort_perm _ _
def UO ns:(Nx ns).Pairwise (· <= ·):=by
 have:=List.pairwise_mergeSort (le:=λ(a b:Int)=>decide (a<=b)) (λa b c h1 h2=>by simp at *; lia) (λa b=>by simp;lia) ns
 unfold Nx
 exact this.imp λh=>uc h
def UB(p:ms.Perm ns)(s:ms.Pairwise (· <= ·)):ms=Nx ns:=PySem.W.ksm_same (p.trans (Ob ns).symm) s (UO ns)
theorem intsAre_of:∀{ns} {its},Vals (ns.map V.int) its->wR its ns
 | [],_,.nil=>.nil
 |n::ns,_,.cons h t=>by
  obtain⟨tk,rfl⟩:=h
  exact .cons n tk (intsAre_of t)
theorem Lm:∀{ns} {its},wR its ns->Vals (ns.map V.int) its
 |_,_,.nil=>.nil
 |_,_,.cons n tk t=>.cons ⟨tk,rfl⟩ (Lm t)
def Qe:EW X (.builtin "sorted") (λxs H Q=>∃p ns,xs=[.ref p]/\SqL X.K H p (ns.map V.int)/\ns.length<64/\∀q,H q=none->Q (.ref q) (upd H q (.lst ((Nx ns).map V.int)))):=by
 intro pins s σ H xs us Q I r h
 obtain⟨p,ns,rfl,hp,h64,q⟩:=h
 obtain⟨u,rfl,ru⟩:=r.one
 cases (show u=vT p from ru)
 obtain⟨its,rv,pl,hz⟩:=I.list hp
 have hlen:ns.length=its.length:=by have:=rv.length;simpa using this
 refine PyProof.Rows.sorted_ints pl.isList (intsAre_of rv) (by lia) λout ns' a1 a2 a3=>?_
 obtain⟨e,he⟩:=PyProof.Rows.sortedAll_at s.heap its out
 have hn:H (s.heap.objs.size+1)=none:=I.hok.fresh (Nat.le_succ _)
 have hs:=UB a2 a3
 subst hs
 refine⟨.ref _,_,I.laid (a:=s.heap.objs.size+1) (o:=.lst ((Nx ns).map V.int)) (t':=s.toks) (λ_ _=>PyProof.Rows.sortedAll_old) (Nat.le_succ _) ?_,rfl,q _ hn⟩
 refine⟨?_,out.toList,e,Lm a1,?_⟩
 .rw[ux,(Ob ns).length_eq]
  have:(64:Nat)<=sizeLine:=by decide
  lia
 .rw[Array.toArray_toList];exact he
noncomputable def O2:Op1:=λw=>(asL w).bind λds=>(Jh ds).bind λns=>if ns.length<64 then Gc (.own ((Nx ns).map D.int))else none
def ZR:EW X (.builtin "sorted") (rN X.K (o1 O2)):=by
 intro pins s σ H xs us Q I r h
 obtain⟨M,ws,w,e,mo,sh,q⟩:=h
 obtain⟨v,w1,rfl,rfl,s1,e1⟩:=Js sh e
 obtain⟨ds,e2,e1⟩:=As e1
 obtain⟨ns,e3,e1⟩:=As e1
 split at e1
 .cases e1
  obtain⟨a,ys,rfl,h3,h4⟩:=s1.l e2
  exact Qe pins s σ H _ us Q I r ⟨a,ns,rfl,by rw[<-Ko h4 e3];exact .of h3,by assumption,λp hp=>q _ _ (.lst mo hp MG)⟩
 .cases e1
def Oz l items n b items2 n2 dd sl(hs0:¬(!items.isEmpty && wH (items.size+items2.size))=true)(hs1:items.size<=sizeLine)(hs2:items.size+items2.size<=sizeLine+1):Meets (zC.«list.extend» ⟨[.ref l,.ref b],[]⟩) (λ_ R s=>s.heap.get? l=Gc {cls:=.type "list",dict:=none,data:=.seq items n,slots:= #[]}/\s.heap.get? b=Gc {cls:=.type "tuple",dict:=dd,data:=.seq items2 n2,slots:=sl}/\R (.ok (.ret vR)) {s with heap:=s.heap.update l (zv λx=>x++items2),toks:=s.toks}):=
 .of_wp λprog w A R s h=>by
  obtain⟨hp,g,d,tk,os⟩:=s;obtain⟨hl,hb,h⟩:=h;have f1:=AutoSeq1.idx_int;have f2:=AutoSeq1.sub_tuple_tuple;have f3:=AutoSeq1.sub_list_list;have f4:=AutoSeq1.sub_tuple_list;have f5:=AutoSeq1.sub_list_tuple
  have hz':(items++items2).size<=sizeLine+1:=by rw[Array.size_append];exact hs2
  wp_walk using(wpAny_updateSeq hl rfl (hz:=hs1) (_hz':=hz')),vA hl,vA hb;exact⟨_,rfl,h⟩
def Xr(K:uF):V->Wp V->Hp->VK->Prop:=λx vs H Q=>∃l b xs zs,x=.ref l/\vs=[.ref b]/\H l=Gc (.lst xs)/\SqT K H b zs/\xs.length+zs.length<=sizeLine/\Q .non (upd H l (.lst (xs++zs)))
def UL:MtM X "list.extend" (Xr X.K):=by
 intro pins s σ H x vs v us Q I rx rv h
 obtain⟨l,b,xs,zs,rfl,rfl,hH,hB,hz,q⟩:=h
 cases rx
 obtain⟨u,rfl,ru⟩:=rv.one
 cases ru
 obtain⟨z,its,n,r,hl,e⟩:=I.ZO hH
 obtain⟨its2,r2,⟨⟨c,dd,dt,sl⟩,e2,hc,n2,hd⟩,z2⟩:=I.tuple hB
 simp only at hc hd
 subst hc hd
 have hl2:=r2.length
 have hsz:its.toArray.size+its2.toArray.size<=sizeLine:=by rw[ua,ua];lia
 have hlong:¬(!its.toArray.isEmpty && wH (its.toArray.size+its2.toArray.size))=true:=by
  rw[PB hsz,Bool.and_false]
  exact vO
 refine y9 ABg ⟨_,e,rfl⟩ ABV (ABE _ _)
  (Oz l its.toArray n b its2.toArray n2 dd sl hlong (by rw[ua];lia) (by lia)) ⟨e,e2,?_⟩
 refine⟨.non,_,I.nM (its':=its++its2) hH e (by simp) (r.append r2) ?_,rfl,q⟩
 rw[vb]
 lia
noncomputable def lG:Mo
 |S,ds,[x]=>match dr S x with
  | .val (.tup zs)=>if ds.length+zs.length<=sizeLine then Gc (.non,ds++zs)else none
  |w=>(asL w).bind λzs=>if ds.length+zs.length<=sizeLine then Gc (.non,ds++zs)else none
 |_,_,_=>none
def om:MtR X "list.extend" (lK X.K lG):=by
 intro pins s σ H x vs v us Q I rx rv h
 obtain⟨M,S,n,a,ds,args,d,ds',rfl,hc,hn,e,st,ra,q⟩:=h
 unfold lG at e
 split at e
 .obtain⟨xs,h1,h2⟩:=st.cell n a _ hc hn
  obtain⟨y,rfl,ry⟩:=TQ ra
  have sy:=aQ st ry
  split at e
  .rename_i ed
   rw[ed]at sy
   split at e
   .rename_i hz
    cases e
    cases sy with
    |tup hx rr=>
     obtain⟨st2,g2⟩:=st.chg hc hn (h2.append rr)
     exact UL pins s σ H _ _ v us Q I rx rv ⟨a,_,xs,_,rfl,rfl,h1,hx,by rw[h2.length,rr.length];exact hz,q _ _ st2 g2 .non⟩
   .cases e
  .obtain⟨zs,e1,e⟩:=As e
   split at e
   .rename_i hz
    cases e
    obtain⟨b,ys,rfl,h3,h4⟩:=sy.l e1
    obtain⟨st2,g2⟩:=st.chg hc hn (h2.append h4)
    exact Ux pins s σ H _ _ v us Q I rx rv ⟨a,b,xs,ys,rfl,rfl,h1,h3,by rw[h2.length,h4.length];exact hz,q _ _ st2 g2 .non⟩
   .cases e
 .cases e
def YC:OpR X (binaryOp .Mult) (λx y H Q=>∃a xs k,x=.ref a/\y=.int k/\SqT X.K H a xs/\xs≠[]/\k<=0/\ -(2^63)<=k/\∀p,H p=none->Q (.ref p) (upd H p (.tup []))):=by
 intro pins s σ H x y v u Q I rx ry h
 obtain⟨a,xs,k,rfl,rfl,hx,hne,hk,hk2,q2⟩:=h
 cases rx
 obtain⟨t,rfl⟩:=ry
 obtain⟨its,r,⟨⟨c,dd,data,sl⟩,ho,hc,n,hd⟩,hzz⟩:=I.tuple hx
 simp only at hc hd
 subst hc hd
 have hl:=r.length
 have hpos:0<xs.length:=ABX.mpr hne
 refine yW (T:="tuple") (U:="int") (by decide) ⟨_,ho,rfl⟩ (λs'=>y8 s' k t) Hq AA2 yG Lu AAe.lookup
  (y9 yG (y8 s k t) AAf (AAG _ _) (JR k t a its.toArray n dd sl) ⟨ho,rfl,⟨_,ho,rfl⟩,?_⟩)
 refine wd zA ⟨_,ho,rfl⟩ F.entry_tuple_mul ?_ (ABi _ _)
 unfold zC.«tuple.__mul__»
 wp_walk using vA ho
 rw[vL (show¬(decide (k< -2^63)||decide (k≥2^63))=true by
  rw[vt]
  rintro (z|z)
  .have:=uc z;lia
  .have:=uc z;lia)]
 wp_walk using vA ho
 have hemp:its.toArray.isEmpty=false:=by
  cases its with
  |nil=>rw[yf]at hl;lia
  |cons b bs=>rfl
 rw[vL (show¬(its.toArray.isEmpty||k==1)=true by
  rw[hemp,Bool.false_or]
  intro z
  have:=eq_of_beq z
  lia)]
 wp_walk using vA ho
 all_goals first
  |exact⟨_,rfl,.ref _,_,I.laid (o:=.tup []) (t':=s.toks) (λb ob q=>uG _ q) (uP _) ⟨vZ _,[],.nil,yX _ _⟩,rfl,q2 _ (I.hok.fresh (uP _))⟩
  |(exfalso
    rename_i hh
    exact hh (by rw[vt];exact .inl (xM hk)))
noncomputable def BH:Op2:=λa b=>match asT a with
 |some xs=>match asI b with
  |some k=>if(!xs.isEmpty && decide (k<=0) && decide (-(2^63)<=k))=true then Gc (.val (.tup []))else fU (.val (.tup xs)) (.val (.int k))
  |none=>fU a b
 |none=>fU a b
def kJ:OpR X (binaryOp .Mult) (rOp X.K BH):=by
 intro pins s σ H x y v u Q I rx ry h
 obtain⟨M,w1,w2,r,e,mo,s1,s2,q⟩:=h
 have no:fU w1 w2=Gc r->wpAny (model X.prog X.w) X.A (binaryOp .Mult v u) (EP X pins σ Q) X.xe s:=λe=>bD pins s σ H x y v u Q I rx ry ⟨M,_,_,r,e,mo,s1,s2,q⟩
 unfold BH at e
 cases e1:asT w1 with
 |none=>rw[e1]at e;exact no e
 |some xs=>
  rw[e1]at e
  dsimp only at e
  cases e2:asI w2 with
  |none=>rw[e2]at e;exact no e
  |some k=>
   rw[e2]at e
   obtain rfl:=SI e1
   obtain rfl:=P4 e2
   by_cases hk:(!xs.isEmpty && decide (k<=0) && decide (-(2^63)<=k))=true
   .dsimp only at e
    rw[vF hk]at e
    rw[uW,uW]at hk
    cases e
    obtain rfl:=Bz.iv s2
    obtain⟨a,ys,rfl,h1,r1⟩:=Bz.iv s1
    have hne:ys≠[]:=λzz=>by
     subst zz
     cases r1
     exact absurd hk.1.1 (by decide)
    exact YC pins s σ H _ _ v u Q I rx ry ⟨a,ys,k,rfl,rfl,h1,hne,uc hk.1.2,uc hk.2,λp hp=>q _ _ (.tup mo hp .nil)⟩
   .dsimp only at e
    rw[vL hk]at e
    exact no e
def Rc(hr:Kn k A):A.units+100<cLine:=by have:=hr.un;lia
noncomputable def scE:Nat->vw->Wp yE
 |0,_=>[]
 |n+1,.ListComp e gs s _=>s::(gs.flatMap λg=>scE n g.iter)++scE n e++(gs.flatMap λg=>g.ifs.flatMap (scE n))
 |n+1,.BoolOp _ vs _=>vs.flatMap (scE n)
 |n+1,.Call f as _ _=>scE n f++as.flatMap (scE n)
 |n+1,.BinOp a _ b _=>scE n a++scE n b
 |n+1,.UnaryOp _ a _=>scE n a
 |n+1,.Compare a _ cs _=>scE n a++cs.flatMap (scE n)
 |n+1,.Subscript a b _=>scE n a++scE n b
 |n+1,.Tuple es _ _=>es.flatMap (scE n)
 |n+1,.List es _=>es.flatMap (scE n)
 |n+1,.IfExp c a b _=>scE n c++scE n a++scE n b
 |n+1,.Dict _ vs _=>vs.flatMap (scE n)
 |n+1,.Slice a b c _=>(a.toList++b.toList++c.toList).flatMap (scE n)
 |n+1,.Attribute v _ _=>scE n v
 |_,_=>[]
noncomputable def scS:Nat->vE->Wp yE
 |0,_=>[]
 |n+1,.Return (Gc e) _=>scE 30 e
 |n+1,.Assign ts e _=>ts.flatMap (scE 30)++scE 30 e
 |n+1,.AugAssign t _ e _=>scE 30 t++scE 30 e
 |n+1,.Expr e _=>scE 30 e
 |n+1,.If t a b _=>scE 30 t++a.flatMap (scS n)++b.flatMap (scS n)
 |n+1,.For _ it a b _=>scE 30 it++a.flatMap (scS n)++b.flatMap (scS n)
 |n+1,.While t a b _=>scE 30 t++a.flatMap (scS n)++b.flatMap (scS n)
 |_,_=>[]
noncomputable def EZ(st:vE)(k:Nat):yE:=((Dy st).flatMap (scS 20)).getD k (AF st)
structure lR(P:vg)(w:v9)(K:uF)(mg:Str->uM uT)(base:vo)(x:Str)(k np:Nat)(tbl:Wp (Str×Fn)):Prop where
 ex:∃a kvs,mg x=Gc (.ref a)/\TopD K w a kvs/\∀p G,tbl.lookup p=Gc G->∃f fd ps,kvs.lookup p=Gc (.ref f)/\Mq P w K mg base CX0 k f fd ps (spD K np G)/\wG K (.ref f)=true/\Binds K fd ps []
noncomputable def gU(tbl:Wp (Str×Fn))(i j:Nat)(fs:Wp Ev):Ex:=λE S=>if((at? E i).isNone && decide (i<E.length))=true then(at? E j).bind λw=>match w with
 | .str p=>(tbl.lookup p).bind λG=>Ac (AB G fs) E S
 |_=>none
 else none
def EnR.bT(r:EnR K M E σ H)(h:at? E i=none):EnR K M E (σ.set i (Gc v)) H:=by
 refine⟨by rw[wW];exact r.len,λj d e=>?_⟩
 have ne:i≠j:=λz=>by
  subst z
  unfold at? at h
  rw[e]at h
  cases h
 obtain⟨u,h1,h2⟩:=r.val j d e
 exact⟨u,by rw[uQ ne];exact h1,h2⟩
def bQ{X:Cx}{k np:Nat}{tbl:Wp (Str×Fn)}{x h y:Str}{px ph ph2 py pr p1 p2 pc:Pos} i j(T:lR X.prog X.w X.K X.mg X.base x k np tbl)(hr:Kn k X.A)(ha:DEs X (e::es) fs)(hnp:fs.length=np)(hN:X.N.Nodup)(hg:x0 (Gl X x) wv)(hi:x0 (X.N[i]?=Gc h) wv)(hil:x0 (X.env.scope.names.lookup h=Gc .local) wv)(hj:x0 (X.N[j]?=Gc y) wv)(hv:x0 (Vis X.env.scope y) wP)(hdx:x0 ((x==("__debug__":Str))=false) xL)(hdy:x0 ((y==("__debug__":Str))=false) xL)(hcy:x0 ((y==("__classdict__":Str))=false) xL)(hdh:x0 ((h==("__debug__":Str))=false) xL)(hch:x0 ((h==("__classdict__":Str))=false) xL)(hs:x0 (swapsWith (.Subscript (.Name x px) (.Name y py) p1) (Gc (.Name h ph)) p2.line X.env=pure false) wv)(hpl:x0 (PZ (.Name y py)) wf)(he:x0 (um (e::es) X.env=(false,eval e X.env)::um es X.env) wv)(hpa:x0 ((backTo pc (um es X.env)).any (·.1)=false) wv):DSs X [.Assign [.Name h ph] (.Subscript (.Name x px) (.Name y py) p1) p2,.Return (Gc (.Call (.Name h ph2) (e::es) [] pc)) pr] (gU tbl i j fs):=⟨by
 obtain⟨a,kvs,t1,t2,t3⟩:=T.ex
 refine Iy (MK (Zc (i:=i) hN hi (.inl hil) (bx aI (O0 (v:=.ref a) hg t1 rfl hdx) (VP hj hv hdy hcy) hpl) hs (.inr hil)) (R5 (Zx (YI (k:=k) (i:=i) hi (.inl hil) hr ha.pe hdh hch he hpa)))) λDn σ H z=>?_
 obtain⟨M,E,S,fl,E',S',e,r,st,q⟩:=z
 unfold gU at e
 split at e
 .rename_i hnone
  rw[uW]at hnone
  have hlt:=uc hnone.2
  have hnone:at? E i=none:=by simpa using hnone.1
  obtain⟨w,e1,e⟩:=As e
  split at e
  .rename_i p
   obtain⟨G,e2,e⟩:=As e
   obtain⟨⟨d4,S4⟩,e3,e⟩:=Lf e
   cases e
   obtain⟨v,hv1,hv2⟩:=r.val j _ (at?_some e1)
   cases hv2
   obtain⟨f,fd,ps,l1,l2,l3,l4⟩:=t3 p G e2
   refine⟨_,hv1,a,kvs,p,_,rfl,rfl,t2,l1,?_⟩
   have r1:=r.bT (v:=.ref f) hnone
   have hlen:i<σ.length:=by
    have:=r.len
    lia
   refine⟨f,spD X.K np G,uX hlen,⟨fd,ps,l2,l3,l4⟩,?_⟩
   exact V7 (σ:=σ.set i (Gc (.ref f))) hnp ⟨M,_,S,d4,S4,e3,r1,st,q⟩
  .cases e
 .cases e⟩
def ie{kV doc pm cdv ct:uT}(X:K.In h)(G:h.Ns mainGlobals mg)(a:vm K mainGlobals x=Gc (Gc (.ref f)))(l:K.lookup f=Gc ⟨oc,od,.func (x9 x x (K0 st) (Dy st) (AF st) .none kV doc pm an cdv ct),osl⟩)(c:zo K cdv x=true)(k:wG K (.ref f)=true):St.Src K mg x st:=
 ⟨f,_,iX l c k,xt X G a⟩
def IsD(K:uF)(u:uT)(d:D):Prop:=∃v,RelV v u/\∀M H,Bz K M H v d
def ay:IsD K (.int i t) (.int i):=⟨.int i,⟨t,rfl⟩,λ_ _=>.int i⟩
def af:IsD K (.str x t) (.str x):=⟨.str x,⟨t,rfl⟩,λ_ _=>.str x⟩
def gc:IsD K (.bool b) (.bl b):=⟨.bl b,rfl,λ_ _=>.bl b⟩
def c7:IsD K .none .non:=⟨.non,rfl,λ_ _=>.non⟩
theorem SQ:∀{us} {ds},Paired (λd u=>IsD K u d) ds us->∃xs,Vals xs us/\∀M H,Al K M H xs ds
 |_,_,.nil=>⟨[],.nil,λ_ _=>.nil⟩
 |_,_,.cons h t=>by
  obtain⟨v,h1,h2⟩:=h
  obtain⟨xs,h3,h4⟩:=SQ t
  exact⟨v::xs,.cons h1 h3,λM H=>.cons (h2 M H) (h4 M H)⟩
def dI(l:K.lookup a=Gc ⟨.type "tuple",od,.seq its.toArray n,osl⟩)(hz:its.length<=sizeLine)(r:Paired (λd u=>IsD K u d) ds its):IsD K (.ref a) (.tup ds):=by
 obtain⟨xs,h1,h2⟩:=SQ r
 exact⟨.ref a,rfl,λM H=>.tup (.inr ⟨_,its.toArray,n,l,rfl,rfl,by simpa using hz,by simpa using h1⟩) (h2 M H)⟩
def iW(X:K.In h)(G:h.Ns mainGlobals mg)(e:vm K mainGlobals x=Gc (Gc u))(r:IsD K u d):Q8 K mg x d:=by
 obtain⟨v,h1,h2⟩:=r
 exact⟨v,u,xt X G e,h1,h2⟩
theorem WM:∀{tbl} {es},Paired (λp (e:yT)=>(∃t,e.key=.str p.1 t)/\IsD K e.val p.2) tbl es->∃kvs,Paired (λp (e:yT)=>(∃t,e.key=.str p.1 t)/\RelV p.2 e.val) kvs es/\∀k,(tbl.lookup k=none->kvs.lookup k=none)/\∀d,tbl.lookup k=Gc d->∃v,kvs.lookup k=Gc v/\∀M H,Bz K M H v d
 |_,_,.nil=>⟨[],.nil,λk=>⟨λ_=>rfl,λd e=>by cases e⟩⟩
 |(k0,d0)::tbl,_::es,.cons hh t=>by
  obtain⟨hk,v,h1,h2⟩:=hh
  obtain⟨kvs,h3,h4⟩:=WM t
  refine⟨(k0,v)::kvs,.cons ⟨hk,h1⟩ h3,λk=>?_⟩
  rw[vf,vf]
  cases e:k==k0 with
  |true=>exact⟨λz=>(nomatch z),λd z=>by cases z;exact⟨v,rfl,h2⟩⟩
  |false=>exact h4 k
def aq(X:K.In h)(G:h.Ns mainGlobals mg)(e:vm K mainGlobals x=Gc (Gc (.ref a)))(l:K.lookup a=Gc ⟨.type "dict",none,.dict es.toArray n, #[]⟩)(hk:zN w.params es)(hne:(a==sysModules)=false)(hp:Paired (λp (e:yT)=>(∃t,e.key=.str p.1 t)/\IsD K e.val p.2) tbl es):fB K w mg x tbl:=by
 obtain⟨kvs,h1,h2⟩:=WM hp
 exact⟨a,kvs,xt X G e,Za l hk hne h1,h2⟩
structure jq(w:v9)(K:uF)(mg:Str->uM uT)(x:Str)(ns:Wp (Str×Str)):Prop where
 ex:∃a kvs,mg x=Gc (.ref a)/\TopD K w a kvs/\Paired (λ(n:Str×Str) (q:Str×V)=>n.1=q.1/\∃f,q.2=.ref f/\mg n.2=Gc (.ref f)) ns kvs
theorem Qi(X:K.In h)(G:h.Ns mainGlobals mg):∀{ns:Wp (Str×Str)} {es},Paired (λn (e:yT)=>(∃t,e.key=.str n.1 t)/\∃f,e.val=.ref f/\vm K mainGlobals n.2=Gc (Gc (.ref f))) ns es->∃kvs:Wp (Str×V),Paired (λp (e:yT)=>(∃t,e.key=.str p.1 t)/\RelV p.2 e.val) kvs es/\Paired (λn q=>n.1=q.1/\∃f,q.2=.ref f/\mg n.2=Gc (.ref f)) ns kvs
 |_,_,.nil=>⟨[],.nil,.nil⟩
 |(k0,g0)::ns,_::es,.cons hh t=>by
  obtain⟨hk,f,h1,h2⟩:=hh
  obtain⟨kvs,h3,h4⟩:=Qi X G t
  exact⟨(k0,.ref f)::kvs,.cons ⟨hk,h1⟩ h3,.cons ⟨rfl,f,rfl,xt X G h2⟩ h4⟩
def dC(X:K.In h)(G:h.Ns mainGlobals mg)(e:vm K mainGlobals x=Gc (Gc (.ref a)))(l:K.lookup a=Gc ⟨.type "dict",none,.dict es.toArray n, #[]⟩)(hk:zN w.params es)(hne:(a==sysModules)=false)(hp:Paired (λn (e:yT)=>(∃t,e.key=.str n.1 t)/\∃f,e.val=.ref f/\vm K mainGlobals n.2=Gc (Gc (.ref f))) ns es):jq w K mg x ns:=by
 obtain⟨kvs,h1,h2⟩:=Qi X G hp
 exact⟨a,kvs,xt X G e,Za l hk hne h1,h2⟩
def dg{k np:Nat}:∀{ns:Wp (Str×Str)} {kvs:Wp (Str×V)} {tbl},Paired (λn q=>n.1=q.1/\∃f,q.2=.ref f/\mg n.2=Gc (.ref f)) ns kvs->Paired (λn q=>n.1=q.1/\∃j ps,j<=k/\St.Dfn P w K mg base n.2 j ps (spD K np q.2)) ns tbl->∀p G,tbl.lookup p=Gc G->∃f fd ps,kvs.lookup p=Gc (.ref f)/\Mq P w K mg base CX0 k f fd ps (spD K np G)/\wG K (.ref f)=true/\Binds K fd ps []:=by
 intro ns kvs tbl a
 induction a generalizing tbl with
 |nil=>intro b p G e;cases b;cases e
 |cons h1 t1 ih=>
  intro b p G e
  cases b with
  |cons h2 t2=>
  rename_i n0 q1 n1 l1 q2 l2
  obtain⟨k1,v1⟩:=q1
  obtain⟨k2,G2⟩:=q2
  obtain⟨e1,f,e2,e3⟩:=h1
  obtain⟨e4,j,ps,hj,hd⟩:=h2
  have e5:k1=k2:=e1.symm.trans e4
  subst e5
  rw[vf]at e⊢
  cases eq:p==k1 with
  |true=>
   rw[eq]at e
   cases e
   obtain⟨f',fd,m1,m2,m3,m4⟩:=hd.ex
   have:f'=f:=by
    have:=m1.symm.trans e3
    cases this;rfl
   subst this
   exact⟨f',fd,ps,by rw[show v1=.ref f' from e2],m4.mono hj,m2,m3⟩
  |false=>
   rw[eq]at e
   exact ih t2 p G e
def cx(T:jq w K mg x ns)(h:Paired (λn q=>n.1=q.1/\∃j ps,j<=k/\St.Dfn P w K mg base n.2 j ps (spD K np q.2)) ns tbl):lR P w K mg base x k np tbl:=by
 obtain⟨a,kvs,h1,h2,h3⟩:=T.ex
 exact⟨a,kvs,h1,h2,dg h3 h⟩
noncomputable def dQ(K:uF):Sp:=λvs H Q _=>∃(a:ue) (ns:Wp Int),vs=[.ref a]/\SqL K H a (ns.map V.int)/\ns.length<=63/\∀H',Q (.bl true) H'
def ij(Fk:Mq P w K mg base CX0 k f fd [x] (spD K 1 F))(h:∀ns,ns.length<=63->∃S,F [.scr ns] []=Gc (.bl true,S)):Mq P w K mg base CX0 k f fd [x] (dQ K):=by
 refine Fk.imp λvs H Q E z=>?_
 obtain⟨a,ns,rfl,hs,hl,q⟩:=z
 obtain⟨S,e⟩:=h ns hl
 refine⟨Ms.no,[.scr ns],[],_,S,rfl,e,.cons (.scr ?_) .nil,⟨λa z=>absurd z Ms.aL,List.nodup_nil,λa z=>(nomatch z),rfl,λn a c z=>by simp[Ms.no]at z⟩,λv H' M' g st r=>?_⟩
 .rcases hs with hs|hs
  .exact .inl ⟨hs,Ms.aL⟩
  .exact .inr hs
 .cases r
  exact q H'
section
variable{X:Cx}{pos:Pos}
end
theorem Th:∀{ys} {us},ys.length=us.length->(∀(j:Nat) y u,ys[j]?=Gc y->us[j]?=Gc u->RelV y u)->Vals ys us
 | [],[],_,_=>.nil
 |y::ys,u::us,hl,h=>.cons (h 0 y u rfl rfl) (Th (by simpa using hl) λj y u a b=>h (j+1) y u a b)
 | [],_::_,hl,_=>by simp at hl
 |_::_,[],hl,_=>by simp at hl
noncomputable def tLR(ta:TA):TE:=λσ H Q=>ta σ H λvs H1=>∃j:Int,vs=[.int j]/\0<=j/\j<=1000/\∀l,H1 l=none->Q (.ref l) (upd H1 l (.lst ((W1 j.toNat).map λ(i:Nat)=>V.int i)))
def oN{p p' pos pos':Pos}(hc:X.calm=true)(hgl:Gl X "list")(hml:X.mg "list"=none)(hg:Gl X "range")(hm:X.mg "range"=none)(ha:PA X [a] ta)(hs:x0 (um [a] X.env=[(false,eval a X.env)]) wv)(hs2:x0 (um [Expr.Call (.Name "range" p) [a] [] pos] X.env=[(false,eval (.Call (.Name "range" p) [a] [] pos) X.env)]) wv):PE X (.Call (.Name "list" p') [.Call (.Name "range" p) [a] [] pos] [] pos') (tLR ta):=by
 intro pins s σ H Q I h
 refine vz (JO I hgl hml PyProof.Rows.boot_list ?_ (by decide) (by decide))
 refine vx ?_ hs2 rfl
 rw[hs2]
 show wpAny _ _ (spliced ((false,eval (.Call (.Name "range" p) [a] [] pos) X.env)::backTo pos' [])) _ _ s
 refine yo ?_
 refine vz (JO I hg hm PyProof.Rows.boot_range ?_ (by decide) (by decide))
 refine vx (thn (ha pos pins s σ H _ I h) λus s1 z=>?_) hs rfl
 obtain⟨vs,H1,I1,r1,q1⟩:=z
 obtain⟨j,e,j0,j1,q⟩:=q1
 subst e
 cases r1 with
 |cons r rr=>
  cases rr
  obtain⟨t,rfl⟩:=r
  refine call_range_1 (yz ?_)
  have hz:j.toNat<=2^24:=by lia
  refine call_list_range (n:=j.toNat) (I1.ok.hd hc) (IsRange.new ..) (small_one (by lia) (by lia) (by lia) (by lia)) (by rw[rangeSize_one];split<;>lia) hz λh' tk acc' c' hk hS' hacc=>?_
  have kp:∀b o,s1.heap.get? b=Gc o->h'.get? b=Gc o:=λb o e=>hk b o (uG _ e)
  have le:s1.heap.objs.size<=(s1.heap.push {cls:=.type "range",data:=.fields #[.int 0 s1.toks,.int j t,.int 1 (s1.toks+1)]}).objs.size:=by rw[vq];exact Nat.le_succ _
  have rv:Vals ((W1 j.toNat).map λ(i:Nat)=>V.int i) acc'.toList:=Th (by simp[hacc.1]) λi y u hy hu=>by
   have hi:i<j.toNat:=by
    have:=(uU.mp hy).1
    simpa using this
   rw[uR,vW hi]at hy
   cases hy
   obtain⟨tk',rfl⟩:=hacc.2 i u (by simpa using hu)
   exact⟨tk',by simp⟩
  refine⟨.ref _,_,I1.laid (t':=tk) (o:=.lst ((W1 j.toNat).map λ(i:Nat)=>V.int i)) kp le ⟨by rw[ux,AAL];exact hz,acc'.toList,c',rv,by simpa using hS'⟩,rfl,q _ (I1.hok.fresh le)⟩
noncomputable def lrK(cf:va)(r:D×Sto):uM (D×Sto):=match r.1 with
 | .int j=>if(decide (0<=j) && decide (j<=1000))=true then fin cf (.own (Jd 0 j.toNat)) r.2 else none
 |_=>none
noncomputable def qI(cf:va)(o:Ev):Ev:=λE S=>(o E S).bind (lrK cf)
abbrev eLR:=qI false
def nZ{cf:va}{p p' pos pos':Pos}(hc:X.calm=true)(hgl:Gl X "list")(hml:X.mg "list"=none)(hg:Gl X "range")(hm:X.mg "range"=none)(ha:DEs X [a] [o])(hs:x0 (um [a] X.env=[(false,eval a X.env)]) wv)(hs2:x0 (um [Expr.Call (.Name "range" p) [a] [] pos] X.env=[(false,eval (.Call (.Name "range" p) [a] [] pos) X.env)]) wv):DE X (.Call (.Name "list" p') [.Call (.Name "range" p) [a] [] pos] [] pos') (qI cf o):=⟨
 Ba (oN hc hgl hml hg hm ha.pe hs hs2) λσ H Q z=>by
  obtain⟨M,E,S,d,S',e,r,st,q⟩:=z
  obtain⟨⟨w,S1⟩,e1,e⟩:=As e
  have e1':evs [o] E S=Gc ([w],S1):=by
   show(o E S).bind (λr=>(evs [] E r.2).map λq=>(r.1::q.1,q.2))=_
   rw[e1];rfl
  refine GP e1' r st λvs H1 M1 g1 st1 r1=>?_
  unfold lrK at e
  split at e
  .rename_i j he
   have he:w=.int j:=he
   subst he
   split at e
   .rename_i hk
    rw[uW]at hk
    refine⟨j,Pj r1,uc hk.1,uc hk.2,λl hl=>?_⟩
    have rd:Al X.K M1 H1 ((W1 j.toNat).map λ(i:Nat)=>V.int i) (Jd 0 j.toNat):=by
     have er:Jd 0 j.toNat=(W1 j.toNat).map λ(i:Nat)=>D.int i:=by simp[Jd]
     rw[er]
     generalize W1 j.toNat=xs
     induction xs with
     |nil=>exact .nil
     |cons x xs ih=>exact .cons (.int x) ih
    obtain⟨M2,g2,st2,d2⟩:=(Nw.lst st1.mo hl rd).fin st1 e
    exact q _ _ M2 (g1.trans g2) st2 d2
   .cases e
  .cases e⟩
def Tb(old:ue->Prop)(H:Hp)(h:vo)(e:ue)(v:uT):Prop:=
 v=.none\/∃T oT ts,v=.ref T/\T≠e/\h.get? T=Gc oT/\oT.data=.fields ts/\ts[3]?=Gc .none/\H T=none/\¬old T
structure Fly(old:ue->Prop)(H:Hp)(h:vo)(e C:ue)(od:uM ue):Prop where
 free:H e=none
 new:¬old e
 ex:∃oe vs a0 v,h.get? e=Gc oe/\oe.cls=.ref C/\oe.data=.fields vs/\vs[0]?=Gc a0/\vs[1]?=Gc v/\Tb old H h e v/\∀dx,od=Gc dx->oe.dict=Gc dx
def Fly.imp(f:Fly old H h e C od)(m:∀b,old' b->old b):Fly old' H h e C od:=by
 obtain⟨oe,vs,a0,v,h1,h2,h3,h4,h5,t,hd⟩:=f.ex
 refine⟨f.free,λz=>f.new (m _ z),oe,vs,a0,v,h1,h2,h3,h4,h5,?_,hd⟩
 rcases t with t|⟨T,oT,ts,t1,t2,t3,t4,t5,t6,t7⟩
 .exact .inl t
 .exact .inr ⟨T,oT,ts,t1,t2,t3,t4,t5,t6,λz=>t7 (m _ z)⟩
structure fe(old:ue->Prop)(H:Hp)(h:vo)(e C:ue)(od:uM ue):Prop where
 free:H e=none
 new:¬old e
 ex:∃oe vs a0 T oT ts,h.get? e=Gc oe/\oe.cls=.ref C/\oe.data=.fields vs/\vs[0]?=Gc a0/\vs[1]?=Gc (.ref T)/\(T≠e/\h.get? T=Gc oT/\oT.data=.fields ts/\ts[3]?=Gc .none/\H T=none/\¬old T)/\∀dx,od=Gc dx->oe.dict=Gc dx
def fe.fly(f:fe old H h e C od):Fly old H h e C od:=by
 obtain⟨oe,vs,a0,T,oT,ts,h1,h2,h3,h4,h5,r,hd⟩:=f.ex
 exact⟨f.free,f.new,oe,vs,a0,.ref T,h1,h2,h3,h4,h5,.inr ⟨T,oT,ts,rfl,r⟩,hd⟩
structure Trn(X:Cx)(old:ue->Prop)(H:Hp)(h h':vo)(e C:ue)(od:uM ue):Prop where
 keep:∀b o,h.get? b=Gc o->b∉frs X.stack->(H b≠none\/old b\/∀vs,o.data≠.fields vs)->h'.get? b=Gc o
 slot:∀b o,h.get? b=Gc o->(∀vs,o.data≠.fields vs)->∃sl,h'.get? b=Gc {o with slots:=sl}
 fly:fe old H h' e C od
def Ej.there(x:Ej P w H h a o):∃ob,h.get? a=Gc ob:=by
 cases o with
 |lst xs=>obtain⟨_,_,_,_,e⟩:=x;exact⟨_,e⟩
 |tup xs=>obtain⟨_,_,_,ob,e,_⟩:=x;exact⟨_,e⟩
 |dK kvs=>obtain⟨_,_,_,_,o,_,_,e,_⟩:=x;exact⟨_,e⟩
 |dT kvs=>obtain⟨_,_,_,_,o,_,_,e,_⟩:=x;exact⟨_,e⟩
 |set S n=>obtain⟨o,_,_,_,e,_⟩:=x;exact⟨_,e⟩
 |ins C dx fs=>obtain⟨_,_,_,e,_⟩:=x;exact⟨_,e⟩
 |own y=>obtain⟨_,e⟩:=x;exact⟨_,e⟩
 |xd fs=>obtain⟨_,⟨_,_,_,e,_⟩,_⟩:=x;exact⟨_,e⟩
 |rng lo hi=>obtain⟨_,_,_,e⟩:=x;exact⟨_,e⟩
 |frz ob u=>obtain⟨e,_⟩:=x;exact⟨_,e⟩
 |tbl ps=>exact⟨_,(show h.get? a=Gc _ from x)⟩
 |met f y=>exact⟨_,(show h.get? a=Gc _ from x)⟩
 |ext φ=>obtain⟨_,⟨_,e⟩,_⟩:=x;exact⟨_,e⟩
section
variable{X:Cx}{pins:Wp (ue×Obj)}{σ:St}{H:Hp}{s:uf}{old:ue->Prop}{e C:ue}{od:uM ue}{Q:Unit->uf->Prop}{E:uT->uf->Prop}{A:xV}
def Uy{h:vo}(ha:h.get? a=Gc oa)(hd:oa.data=.fields vs)(hb:h.get? b=Gc o)(n:∀vs,o.data≠.fields vs):b≠a:=λz=>by
 rw[z,ha]at hb
 cases hb
 exact n _ hd
def cT{h:vo}(ha:h.get? a=Gc oa)(hd:oa.data=.fields vs)(fr:H a=none)(nw:¬old a)(hb:h.get? b=Gc o)(k:H b≠none\/old b\/∀vs,o.data≠.fields vs):b≠a:=λz=>by
 subst z
 rcases k with k|k|k
 .exact k fr
 .exact nw k
 .exact Uy ha hd hb k rfl
def TY{ts:zE uT}(h:ts[i]?=Gc v):ts.setIfInBounds i v=ts:=by
 apply Array.ext (by simp)
 intro j h1 h2
 rw[Array.getElem_setIfInBounds]
 split
 .rename_i z
  subst z
  obtain⟨_,q⟩:=xR.mp h
  exact q.symm
 .rfl
def P9(I:Inv X pins σ H s)(hA:A.frames=Gc X.stack)(hst:X.stack=X.env::X.outer)(hf:X.env.frame=Gc X.env.locals)(free:H e=none)(new:¬old e)(ho:∀b,old b->s.heap.get? b≠none)(he:s.heap.get? e=Gc oe)(hc:oe.cls=.ref C)(hd:oe.data=.fields vs)(h0:vs[0]?=Gc a0)(hz:1<vs.size)(hdx:∀dx,od=Gc dx->oe.dict=Gc dx)(hQ:∀h',Trn X old H s.heap h' e C od->Q () {s with heap:=h'}):wpAny M A (do let a<-frameOf X.env;let pl<-entryPlaceOf X.env.locals hadNext;let b<-ABY head a .none (rawInt X.env.locals) .none pl;setField (.ref e) 1 b) (λ_ s2=>wpAny M A (setFlight (.ref e) none) Q E s2) E s:=by
 have st:=I.stack
 have ef:e∉frs X.stack:=λm=>by
  obtain⟨_,o,q,n⟩:=st.mem m
  exact Uy he hd q n rfl
 have hfr:A.frames=Gc (X.env::X.outer):=by rw[hA,hst]
 rw[hst]at st
 refine uJ (wpAny_frameOf_fun hfr st hf λh1 hs=>?_)
 obtain⟨sz,out,sl⟩:=hs
 refine uJ (wpAny_entryPlaceOf λpl hpl=>?_)
 unfold ABY newFields
 refine uJ (wx ?_ (hpl.sizeOk5 _ _ _ _ _))
 generalize hob:({cls:=.type "traceback",data:=.fields ([head,.ref X.env.locals,.none,rawInt X.env.locals,.none]++(if pl.isEmpty then uu 6 vR else pl)).toArray}:Obj)=tb
 have ef':e∉(X.env::X.outer).filterMap (·.frame):=by rw[<-hst];exact ef
 have e1:h1.get? e=Gc oe:=(out e ef').trans he
 have e2:(h1.push tb).get? e=Gc oe:=uG _ e1
 refine yO e2 hd hz ?_
 have Te:h1.objs.size≠e:=yl (uk e1)
 have d3:=xO hd (·.setIfInBounds 1 (vT h1.objs.size))
 have e3:=wY (vv (·.setIfInBounds 1 (vT h1.objs.size))) e2 (wZ d3)
 have tbd:∃ts:zE uT,tb.data=.fields ts/\3<ts.size:=⟨_,by rw[<-hob],by simp only[ua,vb,vY,yf]<;>lia⟩
 obtain⟨ts,td,tz⟩:=tbd
 have T3:((h1.push tb).update e (vv (·.setIfInBounds 1 (vT h1.objs.size)))).get? h1.objs.size=Gc tb:=(vk _ _ Te.symm).trans (uw h1 (wZ td))
 unfold setFlight
 refine uJ (wC e3 d3 (x:=.ref h1.objs.size) (by simp[hz]) ?_)
 rw[vF (show(vT h1.objs.size !=vR)=true from by simp)]
 refine yO T3 td tz (hQ _ ?_)
 have T4:=wY (vv (·.setIfInBounds 3 ((none:uM ue).elim vR λf=>rawInt f))) T3 (wZ (xO td _))
 have all:∀b o,b≠e->h1.get? b=Gc o->(((h1.push tb).update e (vv (·.setIfInBounds 1 (vT h1.objs.size)))).update h1.objs.size (vv (·.setIfInBounds 3 ((none:uM ue).elim vR λf=>rawInt f)))).get? b=Gc o:=λb o n q=>by
  rw[vk _ _ (yl (uk q)),vk _ _ (vj n)]
  exact uG _ q
 have Tn:s.heap.get? h1.objs.size=none:=by
  cases q:s.heap.get? h1.objs.size with
  |none=>rfl
  |some o=>
   obtain⟨sl',z⟩:=sl _ o q
   exact absurd (uk z) (wO _)
 refine⟨λb o q nf k=>all b o (cT he hd free new q k) ((out b (by rw[<-hst];exact nf)).trans q),λb o q n=>?_,free,new,_,_,a0,h1.objs.size,_,_,(vk _ _ Te).trans e3,(Obj.cls_mapFields _ _).trans hc,d3,by rw[Array.getElem?_setIfInBounds_ne (by decide)];exact h0,by simp[hz],⟨Te,T4,xO td _,by simp[tz],?_,λz=>ho _ z Tn⟩,λdx z=>?_⟩
 .obtain⟨sl',z⟩:=sl b o q
  exact⟨sl',all b _ (Uy he hd q n) z⟩
 .cases q:H h1.objs.size with
  |none=>rfl
  |some o=>
   obtain⟨ob,z⟩:=Ej.there (I.hok _ o q)
   rw[Tn]at z;cases z
 .rw[<-hdx dx z]
  obtain⟨c,dd,da,sl⟩:=oe
  cases da<;>first|rfl|(simp[vv];done)
def Ti(I:Inv X pins σ H s)(hA:A.frames=Gc X.stack)(hst:X.stack=X.env::X.outer)(hf:X.env.frame=Gc X.env.locals)(f:Fly old H s.heap e C od)(ho:∀b,old b->s.heap.get? b≠none)(hQ:∀h',Trn X old H s.heap h' e C od->Q () {s with heap:=h'}):wpAny M A (noteFrame (.ref e) X.env) (λ_ s2=>wpAny M A (setFlight (.ref e) none) Q E s2) E s:=by
 obtain⟨oe,vs,a0,v,h1,h2,h3,h4,h5,t,hd⟩:=f.ex
 have hz:=(xR.mp h5).1
 unfold noteFrame
 simp only[hf]
 refine uJ (wC h1 h3 h5 ?_)
 rcases t with t|⟨T,oT,ts,t1,t2,t3,t4,t5,t6,t7⟩
 .subst t
  rw[vL (by decide)]
  exact P9 I hA hst hf f.free f.new ho h1 h2 h3 h4 hz hd hQ
 .subst t1
  rw[vF (show(vT T !=vR)=true from by simp)]
  refine uJ (wC t3 t4 t5 ?_)
  rw[vL (show¬((vR==rawInt X.env.locals)=true)from by simp[rawInt])]
  refine uJ (yO t3 t4 (xR.mp t5).1 ?_)
  have oth:∀b,b≠T->(s.heap.update T (vv (·.setIfInBounds 3 vR))).get? b=s.heap.get? b:=λb n=>vk _ _ (vj n)
  have sm:=TY t5
  have up:(s.heap.update T (vv (·.setIfInBounds 3 vR))).get? T=Gc oT:=by
   rw[wY _ t3 (wZ (xO t4 _))]
   obtain⟨c,dd,da,sl⟩:=oT
   cases t4
   show Gc ({cls:=c,dict:=dd,data:=.fields (ts.setIfInBounds 3 .none),slots:=sl}:Obj)=_
   rw[sm]
  have same:∀b,(s.heap.update T (vv (·.setIfInBounds 3 vR))).get? b=s.heap.get? b:=λb=>by
   by_cases z:b=T
   .rw[z,up,t3]
   .exact oth b z
  have I':Inv X pins σ H {s with heap:=s.heap.update T (vv (·.setIfInBounds 3 vR))}:=I.kept (t':=s.toks) λb u q=>(same b).trans q
  refine P9 (s:={s with heap:=s.heap.update T (vv (·.setIfInBounds 3 vR))}) I' hA hst hf f.free f.new (λb z q=>ho b z ((same b).symm.trans q)) ((same e).trans h1) h2 h3 h4 hz hd λh' t=>hQ h' ⟨λb o q=>t.keep b o ((same b).trans q),λb o q=>t.slot b o ((same b).trans q),t.fly⟩
def VZ(I:Inv X pins σ H s)(f:fe old H s.heap e C od)(hQ:∀h',Trn X old H s.heap h' e C od->Q () {s with heap:=h'}):wpAny M A (setFlight (.ref e) none) Q E s:=by
 obtain⟨oe,vs,a0,T,oT,ts,h1,h2,h3,h4,h5,⟨t2,t3,t4,t5,t6,t7⟩,hd⟩:=f.ex
 unfold setFlight
 refine uJ (wC h1 h3 h5 ?_)
 rw[vF (show(vT T !=vR)=true from by simp)]
 refine yO t3 t4 (xR.mp t5).1 (hQ _ ?_)
 have up:(s.heap.update T (vv (·.setIfInBounds 3 ((none:uM ue).elim vR λf=>rawInt f)))).get? T=Gc oT:=by
  rw[wY _ t3 (wZ (xO t4 _))]
  obtain⟨c,dd,da,sl⟩:=oT
  cases t4
  show Gc ({cls:=c,dict:=dd,data:=.fields (ts.setIfInBounds 3 .none),slots:=sl}:Obj)=_
  rw[TY t5]
 have same:∀b,(s.heap.update T (vv (·.setIfInBounds 3 ((none:uM ue).elim vR λf=>rawInt f)))).get? b=s.heap.get? b:=λb=>by
  by_cases z:b=T
  .rw[z,up,t3]
  .exact vk _ _ (vj z)
 exact⟨λb o q _ _=>(same b).trans q,λb o q _=>⟨o.slots,(same b).trans q⟩,f.free,f.new,oe,vs,a0,T,oT,ts,(same e).trans h1,h2,h3,h4,h5,⟨t2,up,t4,t5,t6,t7⟩,hd⟩
end
def d9(X:Cx)(pins:Wp (ue×Obj))(b:ue):Prop:=X.s₀.heap.get? b≠none\/∃p∈X.pn++pins,p.1=b
section
variable{X:Cx}{pins:Wp (ue×Obj)}{σ:St}{H:Hp}{s:uf}{old:ue->Prop}{e C:ue}{od:uM ue}{h':vo}
def U4(hst:X.stack=X.env::X.outer)(hf:X.env.frame=Gc X.env.locals):frs X.stack=X.env.locals::X.fs:=by
 rw[hst];unfold frs Cx.fs frs;rw[vP,hf]
def KQ(I:Inv X pins σ H s)(hx:X.ex=[]):∀b,d9 X pins b->s.heap.get? b≠none:=λb z=>by
 rcases z with z|⟨p,m,rfl⟩
 .cases q:X.s₀.heap.get? b with
  |none=>exact absurd q z
  |some o=>
   obtain⟨o',e'⟩:=I.base.there b o q (by rw[hx];exact λz=>nomatch z)
   rw[e'];exact λz=>nomatch z
 .rw[(I.pin p m).1];exact λz=>nomatch z
def WB(I:Inv X pins σ H s)(t:Trn X old H s.heap h' e C od):HOk X.prog X.w H h':=λa o q=>by
 refine(I.hok a o q).Xl (λb u hb e1=>?_) (λ_ z=>z) λ_ _ z=>z
 have hn:H b≠none:=by
  rcases hb with z|z
  .subst z;rw[q];exact λz=>nomatch z
  .rw[z];exact λz=>nomatch z
 exact t.keep b u e1 (λz=>hn (I.Rh b z)) (.inl hn)
def Zb(I:Inv X pins σ H s)(hst:X.stack=X.env::X.outer)(hf:X.env.frame=Gc X.env.locals)(hx:X.ex=[])(t:Trn X (d9 X pins) H s.heap h' e C od):Un X.fs X.ex X.H₀ H X.s₀.heap h':=by
 have hs:=U4 hst hf
 have nL:∀b o,X.s₀.heap.get? b=Gc o->b≠X.env.locals:=λb o e1=>vG (uI (uk e1) I.ok.above)
 have od:∀b o,X.s₀.heap.get? b=Gc o->d9 X pins b:=λb o e1=>.inl (by rw[e1];exact λz=>nomatch z)
 have fd:∀b o,b∈X.fs->X.s₀.heap.get? b=Gc o->∀vs,o.data≠.fields vs:=λb o hb e1 vs=>by
  obtain⟨_,o',e2,q⟩:=I.ok.T7.mem hb
  rw[e1]at e2;cases e2
  exact q vs
 refine⟨λb o e1 n hb hx'=>?_,λb o e1 n hb hx'=>?_,I.base.free,λb o e1 hx'=>?_,I.base.X5,I.base.XY,I.base.Xq⟩
 .refine t.keep b o (I.base.keep b o e1 n hb hx') (λz=>?_) (.inr (.inl (od b o e1)))
  rw[hs]at z
  exact(uS.mp z).elim (nL b o e1) hb
 .obtain⟨sl,q⟩:=I.base.slot b o e1 n hb hx'
  obtain⟨sl',q'⟩:=t.slot b _ q (fd b o hb e1)
  exact⟨sl',q'⟩
 .obtain⟨o',q⟩:=I.base.there b o e1 hx'
  by_cases hb:b∈frs X.stack
  .obtain⟨_,o2,q2,d⟩:=I.stack.mem hb
   obtain⟨sl,z⟩:=t.slot b o2 q2 d
   exact⟨_,z⟩
  .exact⟨o',t.keep b o' q hb (.inr (.inl (od b o e1)))⟩
def VB(I:Inv X pins σ H s)(hst:X.stack=X.env::X.outer)(hf:X.env.frame=Gc X.env.locals)(hx:X.ex=[])(t:Trn X (d9 X pins) H s.heap h' e C od):Inv X pins σ H {s with heap:=h'}:=by
 have hs:=U4 hst hf
 have cl:∀c v,s.heap.IsCell c v->h'.IsCell c v:=λc v ⟨o,ho,hd⟩=>by
  obtain⟨sl,q⟩:=t.slot c o ho λvs z=>by rw[hd]at z;cases z
  exact⟨_,q,hd⟩
 refine⟨I.ok,I.os,I.bare,Zb I hst hf hx t,?_,λx c e1=>?_,I.free,I.LY,λp m=>?_,WB I t,I.len⟩
 .obtain⟨m,hn,hl⟩:=I.loc
  refine⟨m,Heap.UpToSlots.ns (λb o e1 e2=>t.slot b o e1 e2) hn,λi x v e1 e2 e3=>?_⟩
  obtain⟨u,r,l⟩:=hl i x v e1 e2 e3
  refine⟨u,r,?_⟩
  rcases l with l|⟨k,c,e4,z⟩
  .exact .inl l
  .exact .inr ⟨k,c,e4,cl c _ z⟩
 .obtain⟨v,z⟩:=I.cell x c e1
  exact⟨v,cl c v z⟩
 .obtain⟨p1,p2,p3,p4,p5⟩:=I.pin p m
  refine⟨t.keep _ _ p1 (λz=>?_) (.inr (.inl (.inr ⟨p,m,rfl⟩))),p2,p3,p4,p5⟩
  rw[hs]at z
  exact(uS.mp z).elim p3 p4
end
abbrev Rk:=ue->uM ue->St->Hp->Prop
abbrev TR:=St->Hp->Rk->Prop
inductive XP(X:Cx)(pins:Wp (ue×Obj))(Z:Rk)(ev:uT)(s':uf):Prop
 |mk (e C:ue) (od:uM ue) (σ':Sg) (H':Hp) (h:ev=.ref e) (I:Inv X pins σ' H' s') (z:Z C od σ' H') (fl:Fly (d9 X pins) H' s'.heap e C od)
def PX(X:Cx)(st:vE)(t:TR):Prop:=∀(pins:Wp (ue×Obj)) (s:uf) (σ:St) (H:Hp) (Z:Rk),Inv X pins σ H s->t σ H Z->wpAny (model X.prog X.w) X.A (exec st X.env) (λ_ _=>wq) (XP X pins Z) s
def PXs(X:Cx)(sts:Wp vE)(t:TR):Prop:=∀(pins:Wp (ue×Obj)) (s:uf) (σ:St) (H:Hp) (Z:Rk),Inv X pins σ H s->t σ H Z->wpAny (model X.prog X.w) X.A (execs sts X.env) (λ_ _=>wq) (XP X pins Z) s
def PXe(X:Cx)(e:vw)(t:TR):Prop:=∀(pins:Wp (ue×Obj)) (s:uf) (σ:St) (H:Hp) (Z:Rk),Inv X pins σ H s->t σ H Z->wpAny (model X.prog X.w) X.A (eval e X.env) (λ_ _=>wq) (XP X pins Z) s
noncomputable def CXr(P:vg)(w:v9):CXT:=λouter H s E ev s'=>∃e C od H',ev=.ref e/\s'.os=s.os/\yh s'.gens/\Un (frs outer) [] H H' s.heap s'.heap/\HOk P w H' s'.heap/\Fly (λb=>s.heap.get? b≠none) H' s'.heap e C od/\E (.ref C) od H'
def ZC(h:XP (RY (CXr P w) P w K mg base N qual scope f cd A outer s H E).nox pins Z ev s')(hZ:∀C od σ' H',Z C od σ' H'->E (.ref C) od H'):(RY (CXr P w) P w K mg base N qual scope f cd A outer s H E).xe ev s':=by
 obtain⟨e,C,od,σ',H',rfl,I,z,fl⟩:=h
 show wpAny _ _ (leaving _ (.ref e)) _ _ s'
 unfold leaving
 refine uJ (Ti I I.ok.frames rfl rfl fl (KQ I rfl) λh' t=>?_)
 exact⟨e,C,od,H',rfl,I.os,I.bare,Zb I rfl rfl rfl t,WB I t,t.fly.fly.imp λb z=>.inl z,hZ _ _ _ _ z⟩
structure Tg where
 nm:Str
 pay:uM Int
instance:Coe Str Tg:=⟨λx=>⟨x,none⟩⟩
def kR(mg:Str->uM uT)(x:Tg)(C:ue)(od:uM ue)(H:Hp):Prop:=mg x.nm=Gc (.ref C)/\∀n,x.pay=Gc n->∃dx,od=Gc dx/\H dx=Gc (.xd [("at",.int n)])
abbrev Rx:=En->Sto->uM (Tg×En×Sto)
abbrev Rf:=Wp D->Sto->uM (Tg×Sto)
inductive tR(K:uF)(mg:Str->uM uT)(r:Rx)(σ:Sg)(H:Hp)(Z:Rk):Prop
 |mk (M:Ms) (E:En) (S:Sto) (x:Tg) (E':En) (S':Sto) (e:r E S=Gc (x,E',S')) (rr:EnR K M E σ H) (st:StR K M S H) (q:∀C od σ' H' M',kR mg x C od H'->Gr M H M' H'->EnR K M' E' σ' H'->StR K M' S' H'->Z C od σ' H')
structure RS(X:Cx)(st:vE)(r:Rx):Prop where
 pe:PX X st (tR X.K X.mg r)
structure RSs(X:Cx)(st:Wp vE)(r:Rx):Prop where
 pe:PXs X st (tR X.K X.mg r)
structure RE(X:Cx)(e:vw)(r:Rx):Prop where
 pe:PXe X e (tR X.K X.mg r)
inductive spR(K:uF)(mg:Str->uM uT)(np:Nat)(R:Rf)(vs:Wp V)(H:Hp)(Q:VK)(E:XK):Prop
 |mk (M:Ms) (ds:Wp D) (S:Sto) (x:Tg) (S':Sto) (l:ds.length=np) (e:R ds S=Gc (x,S')) (r:Al K M H vs ds) (st:StR K M S H) (q:∀C od H' M',kR mg x C od H'->Gr M H M' H'->StR K M' S' H'->E (.ref C) od H')
noncomputable def YA(N:Nat)(r:Rx):Rf:=λds S=>(r (ds.map Gc++uu (N-ds.length) none) S).map λq=>(q.1,q.2.2)
structure lN(P:vg)(w:v9)(K:uF)(mg:Str->uM uT)(base:vo)(x:Str)(k:Nat)(ps:Wp Str)(sp:Sp):Prop where
 ex:∃f fd,mg x=Gc (.ref f)/\wG K (.ref f)=true/\Binds K fd ps []/\Mq P w K mg base (CXr P w) k f fd ps sp
section
variable{P:vg}{w:v9}{K:uF}{mg:Str->uM uT}{base:vo}
def ip(Fu:Fun K x x st f fd)(S:CU N ps (AF st))(hp:ps.length=np)(hb:∀cdv A outer s H E,Kn k (A.deeper (vd x (AF st) s.heap.objs.size f cdv))->RSs (RY CX0 P w K mg base N x (AF st) f cdv A outer s H E).nox (Dy st) r):Mq P w K mg base (CXr P w) (k+1) f fd ps (spR K mg np (AW (YA N.length r))):=by
 rw[O3]
 obtain⟨oc,od,kV,doc,pm,an,cdv,ct,osl,rfl,lk,hcd⟩:=Fu.ex
 refine iw lk hcd S (λvs H Q E h=>?_) λA outer s H vs Q E hr h=>?_
 .obtain⟨M,ds,S0,d,S',hl,_,r,_⟩:=h
  have:=r.length
  lia
 .obtain⟨M,ds,S0,y,S',hl,e,rr,st,q⟩:=h
  have hlen:=rr.length
  refine⟨λ_ σ H=>tR K mg r σ H λC od _ H'=>E (.ref C) od H',λpins s1 σ1 H1 D I h=>?_,?_⟩
  .exact xJ ((hb cdv A outer s H E hr).pe pins s1 σ1 H1 _ (I.Vy _) h) (λ_ _ z=>z.elim) λev s' z=>ZC z λ_ _ _ _ z=>z
  .obtain⟨⟨y',E',S1⟩,e1,e⟩:=Lf e
   cases e
   refine⟨M,_,S0,y',E',S1,e1,?_,st,λC od σ' H' M' hm g _ st'=>q C od H' M' hm g st'⟩
   rw[show L2.start N vs=vs.map Gc++uu (N.length-ds.length) none from by unfold L2.start;rw[hlen]]
   exact .args rr _
def dk(S:St.Src K mg x st)(sc:CU N ps (AF st))(hp:ps.length=np)(hbi:∀f fd,Fun K x x st f fd->Binds K fd ps [])(hb:∀f cdv A outer s H E,Kn k (A.deeper (vd x (AF st) s.heap.objs.size f cdv))->RSs (RY CX0 P w K mg base N x (AF st) f cdv A outer s H E).nox (Dy st) r):lN P w K mg base x (k+1) ps (spR K mg np (AW (YA N.length r))):=by
 obtain⟨f,fd,Fu,hm⟩:=S.ex
 exact⟨f,fd,hm,Fu.kp,hbi f fd Fu,ip Fu sc hp λcdv A outer s H E hr=>hb f cdv A outer s H E hr⟩
end
def J4{X:Cx}{α:Type}{t:Sem α}{Q Q':α->uf->Prop}(hn:X.xe=λ_ _=>wq)(h:wpAny M A t Q X.xe s)(hQ:∀a s,Q a s->Q' a s):wpAny M A t Q' E s:=
 xJ h hQ λ_ _ z=>by rw[hn]at z;exact z.elim
noncomputable def Pr(R:Rf)(fs:Wp Ev):Rx:=λE S=>(evs fs E S).bind λq=>(R q.1 q.2).map λz=>(z.1,E,z.2)
def bJ{X:Cx}{k np:Nat}{x:Str}{ps:Wp Str}{p pos:Pos}(d:lN X.prog X.w X.K X.mg X.base x k ps (spR X.K X.mg np R))(hr:Kn k X.A)(hg:Gl X x)(ha:DEs X (e::es) fs)(hn:x0 (fs.length=np) wv)(hxe:x0 (X.xe=λ_ _=>wq) wv)(hx:x0 (X.ex=[]) wv)(hdb:x0 ((x==("__debug__":Str))=false) xL)(he:x0 (um (e::es) X.env=(false,eval e X.env)::um es X.env) wv)(hpl:x0 ((backTo pos (um es X.env)).any (·.1)=false) wv):RE X (.Call (.Name x p) (e::es) [] pos) (Pr R fs):=⟨by
 intro pins s σ H Z I h
 obtain⟨f,fd,hm,hk,hb,F⟩:=d.ex
 obtain⟨M,E,S,y,E',S',e0,r,st,q⟩:=h
 obtain⟨⟨ds,S1⟩,e1,e2⟩:=As e0
 obtain⟨⟨y',S2⟩,e3,e4⟩:=Lf e2
 cases e4
 refine vz (PH I hg hm ?_ hdb)
 have ha':=ha.pe pos pins s σ H (λvs H1=>∃M1,Gr M H M1 H1/\StR X.K M1 S1 H1/\Al X.K M1 H1 vs ds) I (GP e1 r st λvs H1 M1 g1 st1 r1=>⟨M1,g1,st1,r1⟩)
 refine zm (h₀:=X.base) I.ok.mod.kin hk (J4 hxe ha' λus s1 ⟨vs,H1,I1,rv,M1,g1,st1,r1⟩=>⟨I1.kIn,?_⟩) he hpl
 have sp:spR X.K X.mg np R vs H1 (λ_ _=>wq) (λv od H'=>∃C,v=.ref C/\Z C od σ H'):=
  ⟨M1,ds,S1,y',S2,by rw[ND e1];exact hn,e3,r1,st1,λC od H' M' hc g2 st2=>⟨C,rfl,q C od σ H' M' hc (g1.trans g2) ((r.step g1.st).step g2.st) st2⟩⟩
 have hl:(us++[]).length=ps.length:=by rw[xZ,<-rv.length];exact F.len _ _ _ _ sp
 have hbs:=hb s1 us I1.kIn hl
 rw[xZ]at hbs
 refine wpAny_call (yq (F.run X.A X.stack s1 H1 ⟨us,[]⟩ us vs _ _ hr I1.qH hbs rv sp) λrs s' hq=>?_)
 cases rs with
 |error ev=>
  obtain⟨e,C,od,H',rfl,os,bare,un,hok,fly,C',hC,z⟩:=hq
  cases hC
  exact⟨e,C,od,σ,H',rfl,I1.gF os un hok bare (λb z=>nomatch z),z,fly.imp λb z=>KQ I1 hx b z⟩
 |ok fl=>
  cases fl with
  |ret u=>
   obtain⟨v,H',_,_,_,_,_,q⟩:=hq
   exact q.elim
  |next=>exact xA hq
  |brk=>exact xA hq
  |cont=>exact xA hq⟩
section
variable{X:Cx}{st:vE}{rest a b:Wp vE}{f g:Ex}{r r1 r2:Rx}{c e:vw}{k:Ev}{pos:Pos}
noncomputable def rNo:Rx:=λ_ _=>none
def sf:RS X st rNo:=⟨λ_ _ _ _ _ _ z=>by
 obtain⟨M,E,S,x,E',S',e,_⟩:=z
 cases e⟩
def pf:RSs X rest rNo:=⟨λ_ _ _ _ _ _ z=>by
 obtain⟨M,E,S,x,E',S',e,_⟩:=z
 cases e⟩
noncomputable def Xp(r:Rx)(f:Ex)(r2:Rx):Rx:=λE S=>match r E S with
 |some z=>Gc z
 |none=>(f E S).bind λq=>match q.1 with
  | .nx=>r2 q.2.1 q.2.2
  | .ret _=>none
def k6(h1:RS X st r)(hb:DS X st f)(h2:RSs X rest r2)(hxe:x0 (X.xe=λ_ _=>wq) wv):RSs X (st::rest) (Xp r f r2):=⟨λpins s σ H Z I z=>by
 obtain⟨M,E,S,x,E',S',e,rr,ss,q⟩:=z
 unfold Xp at e
 split at e
 .rename_i z' e1
  cases e
  refine yS (xJ (h1.pe pins s σ H Z I ⟨M,E,S,x,E',S',e1,rr,ss,q⟩) (λ_ _ z=>z.elim) λ_ _ z=>z)
 .obtain⟨⟨fl,E1,S1⟩,e1,e⟩:=As e
  dsimp only at e
  split at e
  .refine yS (J4 hxe (hb.pe pins s σ H {nx:=λσ' H'=>tR X.K X.mg r2 σ' H' Z,rt:=λ_ _=>wq} I ⟨M,E,S,.nx,E1,S1,e1,rr,ss,λσ' H' M' g' r' st'=>⟨M',E1,S1,x,E',S',e,r',st',λC od σ2 H2 M2 hm g2=>q C od σ2 H2 M2 hm (g'.trans g2)⟩⟩) λfl s1 w=>?_)
   cases fl with
   |next=>
    obtain⟨σ',H',I',q'⟩:=w
    exact h2.pe pins s1 σ' H' Z I' q'
   |ret v=>obtain⟨_,_,_,_,_,q'⟩:=w;exact q'.elim
   |brk=>obtain⟨_,_,_,q'⟩:=w;exact q'.elim
   |cont=>obtain⟨_,_,_,q'⟩:=w;exact q'.elim
  .cases e⟩
def bW(h1:RS X st r):RSs X [st] r:=⟨λpins s σ H Z I z=>yS (xJ (h1.pe pins s σ H Z I z) (λ_ _ z=>z.elim) λ_ _ z=>z)⟩
noncomputable def rIf(k:Ev)(r1 r2:Rx):Rx:=λE S=>(k E S).bind λq=>match q.1 with
 | .bl true=>r1 E q.2
 | .bl false=>r2 E q.2
 |_=>none
def qx(hc:DT X c k)(ha:RSs X a r1)(hb:RSs X b r2)(hxe:x0 (X.xe=λ_ _=>wq) wv):RS X (.If c a b pos) (rIf k r1 r2):=⟨λpins s σ H Z I z=>by
 obtain⟨M,E,S,x,E',S',e,rr,ss,q⟩:=z
 obtain⟨⟨w1,S1⟩,e1,e⟩:=As e
 dsimp only at e
 split at e
 .refine wpAny_If (J4 hxe (hc.pe pins s σ H (λd H1=>d=true/\tR X.K X.mg r1 σ H1 Z) I ⟨M,E,S,_,S1,e1,rr,ss,λH1 M1 g1 st1=>⟨rfl,M1,E,S1,x,E',S',e,rr.step g1.st,st1,λC od σ2 H2 M2 hm g2=>q C od σ2 H2 M2 hm (g1.trans g2)⟩⟩) λd s1 w=>?_)
  obtain⟨H1,I1,rfl,q1⟩:=w
  exact ha.pe pins s1 σ H1 Z I1 q1
 .refine wpAny_If (J4 hxe (hc.pe pins s σ H (λd H1=>d=false/\tR X.K X.mg r2 σ H1 Z) I ⟨M,E,S,_,S1,e1,rr,ss,λH1 M1 g1 st1=>⟨rfl,M1,E,S1,x,E',S',e,rr.step g1.st,st1,λC od σ2 H2 M2 hm g2=>q C od σ2 H2 M2 hm (g1.trans g2)⟩⟩) λd s1 w=>?_)
  obtain⟨H1,I1,rfl,q1⟩:=w
  exact hb.pe pins s1 σ H1 Z I1 q1
 .cases e⟩
end
abbrev VEm:Wp uT:=[.type "ValueError",.type "Exception",.type "BaseException",.type "object"]
structure XcD(K:uF)(mg:Str->uM uT)(x:Str):Prop where
 ex:∃C,mg x=Gc (.ref C)/\AAV K C VEm "ValueError.__new__"=true
def mV(X:K.In h)(G:h.Ns mainGlobals mg)(e:vm K mainGlobals x=Gc (Gc (.ref C)))(q:AAV K C VEm "ValueError.__new__"=true):XcD K mg x:=⟨C,xt X G e,q⟩
def bK(X:K.In h)(q:AAV K C bmB newId=true):∃bm N nm q bs hdct sn sub ab col dd k0 k1 k2 k3 k5 mN,h.get? C=Gc (excClassObj nm q C N bs bm hdct sn sub ab col dd k0 k1 k2 k3 k5 newId)/\h.Ns N mN/\mN "__init__"=none/\OwnTail h bmB bm:=by
 unfold AAV at q
 split at q
 case h_2=>cases q
 rename_i dd cd sl ho
 split at q
 case h_2=>cases q
 rename_i C' bm k0 k1 k2 k3 n k5 hm hs
 simp only[uW,xN,AAM]at q
 obtain⟨⟨⟨⟨⟨rfl,rfl⟩,hdel⟩,ht⟩,hok⟩,hni⟩:=q
 have hsl:sl= #[k0,k1,k2,k3,Gc (.builtin n),k5]:=Array.toList_inj.mp hs
 obtain⟨nm,bs,mro,ns,qn,hd,sn,sub,ab,col,del⟩:=cd
 dsimp only at hm hdel hok hni
 subst hm hdel hsl
 exact⟨bm,ns,nm,qn,bs,hd,sn,sub,ab,col,dd,k0,k1,k2,k3,k5,_,X _ _ ho,.of_isNs (PySem.W.isNs_of_in X hok),PySem.W.nsMap_none_of_in X hok hni,PySem.W.tail_of_in X ht⟩
noncomputable def R6(x:Str)(fs:Wp Ev):Rx:=λE S=>(evs fs E S).map λq=>(⟨x,none⟩,E,q.2)
def kq{np cpos pos:Pos}(hc:X.calm=true)(xc:XcD X.K X.mg x)(hg:Gl X x)(ha:DEs X (e::es) fs)(hl:x0 (fs.length<=sizeLine) xL)(hxe:x0 (X.xe=λ_ _=>wq) wv)(hx:x0 (X.ex=[]) wv)(hdb:x0 ((x==("__debug__":Str))=false) xL)(he:x0 (um (e::es) X.env=(false,eval e X.env)::um es X.env) wv)(hpl:x0 ((backTo cpos (um es X.env)).any (·.1)=false) wv):RS X (.Raise (Gc (.Call (.Name x np) (e::es) [] cpos)) none pos) (R6 x fs):=⟨by
 intro pins s σ H Z I h
 obtain⟨C,hm,hex⟩:=xc.ex
 obtain⟨M,E,S,y,E',S',e0,r,st,q⟩:=h
 obtain⟨⟨ds,S1⟩,e1,e2⟩:=Lf e0
 cases e2
 obtain⟨tl,N,nm,qn,bs,hdct,sn,sub,ab,col,dd,k0,k1,k2,k3,k5,mN,hC,hN,hni,T⟩:=bK I.ok.mod.kin hex
 refine wpAny_Raise_call_subT (C:=C) (nm:=nm) (q:=qn) (N:=N) (bs:=bs) (bm:=tl) (hdct:=hdct) (sn:=sn) (sub:=sub) (ab:=ab) (col:=col) (dd:=dd) (k0:=k0) (k1:=k1) (k2:=k2) (k3:=k3) (k5:=k5)
  ABI (mN:=mN) (T.hasType ABI.hasBase) (I.ok.hd hc) (by rw[he];show(false||(backTo cpos (um es X.env)).any (·.1))=false;rw[hpl];rfl) hni (PH I hg hm ⟨rfl,?_⟩ hdb)
 have ha':=ha.pe cpos pins s σ H (λvs H1=>∃M1,Gr M H M1 H1/\StR X.K M1 S1 H1/\Al X.K M1 H1 vs ds) I (GP e1 r st λvs H1 M1 g1 st1 r1=>⟨M1,g1,st1,r1⟩)
 rw[he]at ha'⊢
 refine ABD (J4 hxe ha' λus s1 z=>?_)
 obtain⟨vs,H1,I1,rv,M1,g1,st1,r1⟩:=z
 refine⟨rfl,by rw[<-rv.length,r1.length,ND e1];exact hl,I1.bk _ _ hC,hN.keeps I1.bk,T.keeps I1.bk,λh' ea hmd=>?_⟩
 obtain⟨t,w1,w2,w3⟩:=hmd.there
 refine⟨ea,C,none,σ,H1,rfl,I1.kept (t':=s1.toks) hmd.keeps,q C none σ H1 M1 ⟨hm,λ_ z=>nomatch z⟩ g1 (r.step g1.st) st1,?_,λz=>KQ I1 hx _ z hmd.new,_,_,.ref t,.none,w1,rfl,rfl,rfl,rfl,.inl rfl,λ_ z=>nomatch z⟩
 cases o:H1 ea with
 |none=>rfl
 |some ho=>
  obtain⟨ob,z⟩:=Ej.there (I1.hok ea ho o)
  rw[hmd.new]at z;cases z⟩
abbrev Cx.mrk(X:Cx)(e:ue):Cx:={X with A:=X.A.mark (Gc (.ref e)),calm:=false}
section
variable{X:Cx}{σ:St}{H:Hp}{e:ue}
def jE(ok:X.Ok):(Cx.mrk X e).Ok:=⟨ok.mod,ok.kind,ok.glob,ok.blt,ok.above,ok.inj,ok.has,ok.cab,(λz=>nomatch z),ok.frames,ok.stk,ok.exf,ok.bs,ok.bsz,ok.aM,ok.dv,ok.T7,ok.frf⟩
def cX(I:Inv X pins σ H s):Inv (Cx.mrk X e) pins σ H s:=⟨jE I.ok,I.os,I.bare,I.base,I.loc,I.cell,I.free,I.LY,I.pin,I.hok,I.len⟩
def Kp(ok:X.Ok)(I:Inv (Cx.mrk X e) pins σ H s):Inv X pins σ H s:=⟨ok,I.os,I.bare,I.base,I.loc,I.cell,I.free,I.LY,I.pin,I.hok,I.len⟩
def Yy{D:Ends}(ok:X.Ok)(h:SP (Cx.mrk X e) pins D f s):SP X pins D f s:=by
 cases f with
 |next=>obtain⟨σ',H',I,q⟩:=h;exact⟨σ',H',Kp ok I,q⟩
 |brk=>obtain⟨σ',H',I,q⟩:=h;exact⟨σ',H',Kp ok I,q⟩
 |cont=>obtain⟨σ',H',I,q⟩:=h;exact⟨σ',H',Kp ok I,q⟩
 |ret u=>obtain⟨v,σ',H',I,r,q⟩:=h;exact⟨v,σ',H',Kp ok I,r,q⟩
end
structure HS(X:Cx)(hs:Wp ExceptHandler)(g:Tg->Ex):Prop where
 pe:∀(x:Tg) (C:ue) (od:uM ue) (pins:Wp (ue×Obj)) (s:uf) (σ:St) (H:Hp) (D:Ends) (e:ue),kR X.mg x C od H->Inv X pins σ H s->fe (d9 X pins) H s.heap e C od->tX X.K (g x) D σ H->
  wpAny (model X.prog X.w) X.A (handleBy (.ref e) X.env hs) (SP X pins D) (λ_ _=>wq) s
noncomputable def gNo:Tg->Ex:=λ_ _ _=>none
def fO:HS X [] gNo:=⟨λ_ _ _ _ _ _ _ _ _ _ _ _ z=>by
 obtain⟨M,E,S,fl,E',S',e,_⟩:=z
 cases e⟩
structure XmD(K:uF)(mg:Str->uM uT)(xs:Wp Str)(y:Str):Prop where
 ex:∃C',mg y=Gc (.ref C')/\∀x∈xs,∀C,mg x=Gc (.ref C)->yR K (.ref C) (.ref C')=Gc (x==y)
noncomputable def gOr(xs:Wp Str)(y:Str)(f:Ex)(g:Tg->Ex):Tg->Ex:=λx=>if x.nm∈xs then(if(x.nm==y)=true then f else g x)else Hg
def dX{X:Cx}{xs:Wp Str}{y:Str}{b₀:vE}{np pos:Pos}{rest:Wp ExceptHandler}(xm:XmD X.K X.mg xs y)(hg:Gl X y)(hf:∀e,DSs (Cx.mrk X e) (b₀::suite) f)(hr:HS X rest g)(hxe:x0 (X.xe=λ_ _=>wq) wv)(hx:x0 (X.ex=[]) wv)(hst:x0 (X.stack=X.env::X.outer) wv)(hfr:x0 (X.env.frame=Gc X.env.locals) wv)(hdb:x0 ((y==("__debug__":Str))=false) xL):HS X (.ExceptHandler (Gc (.Name y np)) none (b₀::suite) pos::rest) (gOr xs y f g):=⟨by
 intro x C od pins s σ H D e tg I fl z
 have hm:=tg.1
 obtain⟨C',hm',hex⟩:=xm.ex
 have hin:x.nm∈xs:=by
  by_cases h:x.nm∈xs
  .exact h
  .obtain⟨M,E,S,fl,E',S',e,_⟩:=z
   unfold gOr at e
   rw[vL h]at e
   cases e
 have z':tX X.K (if(x.nm==y)=true then f else g x) D σ H:=by
  unfold gOr at z
  rw[vF hin]at z
  exact z
 have ex:=hex x.nm hin C hm
 obtain⟨oe,vs,a0,T,oT,ts,h1,h2,_⟩:=id fl.ex
 have LT:PySem.W.Looks (model X.prog X.w) s.heap (typeOf (.ref e)) (.ref C):=by
  rw[<-h2];exact(PySem.W.Looks.ld h1).andThen .now
 refine wpAny_handleBy_cons (codeAny_handlers_test (yN I.ok.kind hg (AAZ (by rw[I.ok.glob];exact I.mod.glob.keeps I.bk) hm' ?_) hdb)) (by intro q;cases q)
 refine PySem.W.exm_one I.kIn LT ex _ _ _ _ (λ_ _ q=>q) ?_
 cases hb:(x.nm==y)with
 |true=>
  rw[vF hb]at z'
  refine codeAny_handlers_suite (wpAny_passesOwnAt PassesOwnAt.never (VZ I fl λh' t=>?_))
  have I':=cX (e:=e) (VB I hst hfr hx t)
  exact wpAny_passesOwnAt PassesOwnAt.never (J4 (X:=Cx.mrk X e) hxe ((hf e).pe pins _ σ H D I' z') λfl s2 w=>Yy I.ok w)
 |false=>
  rw[vL (by rw[hb];decide)]at z'
  exact hr.pe x C od pins s σ H D e tg I fl z'⟩
noncomputable def Xa(f:Ex)(r:Rx)(g:Tg->Ex):Ex:=λE S=>match f E S with
 |some z=>Gc z
 |none=>(r E S).bind λq=>g q.1 q.2.1 q.2.2
def gS{pos:Pos}(hb:DSs X body f)(hr:RSs X body r)(hh:HS X (h₀::hs) g)(hxe:x0 (X.xe=λ_ _=>wq) wv)(hx:x0 (X.ex=[]) wv)(hst:x0 (X.stack=X.env::X.outer) wv)(hfr:x0 (X.env.frame=Gc X.env.locals) wv):DS X (.Try body (h₀::hs) [] [] pos) (Xa f r g):=⟨by
 intro pins s σ H D I z
 obtain⟨M,E,S,fl,E',S',e,rr,ss,q⟩:=z
 unfold Xa at e
 split at e
 .rename_i z' e1
  cases e
  refine wpAny_Try_except (J4 hxe (hb.pe pins s σ H D I ⟨M,E,S,fl,E',S',e1,rr,ss,q⟩) λf s1 w=>?_)
  cases f with
  |next=>exact ye w
  |ret u=>exact w
  |brk=>exact w
  |cont=>exact w
 .obtain⟨⟨x,E1,S1⟩,e1,e⟩:=As e
  dsimp only at e
  refine wpAny_Try_except (xJ (hr.pe pins s σ H (λC od σ' H'=>kR X.mg x C od H'/\tX X.K (g x) D σ' H') I ⟨M,E,S,x,E1,S1,e1,rr,ss,λC od σ' H' M' hm g' r' st'=>⟨hm,M',E1,S1,fl,E',S',e,r',st',q.later g'⟩⟩) (λ_ _ z=>z.elim) λev s1 w=>?_)
  obtain⟨ea,C,od,σ',H',rfl,I',⟨hm,z'⟩,fly⟩:=w
  refine Ti I' I'.ok.frames hst hfr fly (KQ I' hx) λh' t=>?_
  have I2:=VB I' hst hfr hx t
  exact xJ (hh.pe x C od pins _ σ' H' D ea hm I2 t.fly z') (λ_ _ z=>z) λ_ _ z=>z.elim⟩
section
variable{X:Cx}{pos:Pos}
end
def nV(X:K.In h)(G:h.Ns mainGlobals mg)(e:vm K mainGlobals y=Gc (Gc (.ref C')))(t:∀x∈xs,∃C,vm K mainGlobals x=Gc (Gc (.ref C))/\yR K (.ref C) (.ref C')=Gc (x==y)):XmD K mg xs y:=⟨C',xt X G e,λx hx C hm=>by
 obtain⟨C2,e2,q⟩:=t x hx
 have:=hm.symm.trans (xt X G e2)
 cases this
 exact q⟩
def all_nil{p:Str->Prop}:∀x∈([]:Wp Str),p x:=λ_ z=>nomatch z
def all_cons{p:Str->Prop}(h:p x)(t:∀x∈xs,p x):∀y∈x::xs,p y:=λy m=>by
 rcases uS.mp m with rfl|m
 .exact h
 .exact t y m
def nT(K:uF):V->V->Hp->VK->Prop:=λo i H Q=>∃p xs k z,o=.ref p/\i=.int k/\0<=k/\H p=Gc (.lst xs)/\xs[k.toNat]?=Gc z/\Q z H
def We:pP X (nT X.K):=by
 intro pins s σ H x y v u Q I rx ry h
 obtain⟨p,xs,i,z,rfl,rfl,h0,hp,he,q⟩:=h
 cases rx
 obtain⟨t,rfl⟩:=ry
 obtain⟨its,r,pl,hz⟩:=I.list (xs:=xs) (.inl (.of hp))
 obtain⟨w,ew,rw'⟩:=r.get he
 have hl:=r.length
 have hn:=OW
 have hi:i.toNat<its.length:=(uU.mp ew).1
 exact wpAny_getItem_list pl.isList h0 (by lia) (by simpa using ew) ⟨z,H,I,rw',q⟩
noncomputable def X8(g:Int->Int->Int)(f o k:Ev):Ex:=λE S=>(f E S).bind λb=>(o E b.2).bind λi=>match b.1,i.1 with
 | .ref n,.int j=>(EX i.2 n).bind λds=>(ixN ds.length j).bind λm=>if 0<=j then match ds[m]? with
   |some (.int a)=>(k E i.2).bind λr=>match r.1 with
    | .int c=>(EX r.2 n).bind λds'=>(ixN ds'.length j).map λm'=>(.nx,E,r.2.set n (.lst (ds'.set m' (.int (g a c)))))
    |_=>none
   |_=>none
   else none
 |_,_=>none
def iC(hb:DE X bs f)(ht:DE X t o)(h:DE X e k)(hp:PIp X op (ipI g))(ha:x0 (∀ov iv new,augStore t ov iv new=(do holding [new,ov,iv] (setItem ov iv new);release [new,ov,iv] [];pure .next)) wp):DS X (.AugAssign (.Subscript bs t ps) op e pos) (X8 g f o k):=⟨
 FJ (dH hb.pe ht.pe We h.pe hp set_list ha) λDn σ H z=>by
  obtain⟨M,E,S,fl,E',S',e,r,st,q⟩:=z
  obtain⟨⟨b,S1⟩,e1,e⟩:=As e
  obtain⟨⟨i,S2⟩,e2,e⟩:=As e
  dsimp only at e e1 e2
  split at e
  case h_2=>cases e
  rename_i n j _
  obtain⟨ds,e3,e⟩:=As e
  obtain⟨m,e4,e⟩:=As e
  split at e
  case isFalse=>cases e
  rename_i h0
  split at e
  case h_2=>cases e
  rename_i a e5
  obtain⟨⟨c,S3⟩,e6,e⟩:=As e
  dsimp only at e e6
  split at e
  case h_2=>cases e
  rename_i c
  obtain⟨ds',e7,e⟩:=As e
  obtain⟨m',e8,e⟩:=Lf e
  cases e
  refine⟨M,E,S,_,S1,e1,r,st,λbv H1 M1 g1 st1 r1=>?_⟩
  refine⟨M1,E,S1,_,S2,e2,r.step g1.st,st1,λiv H2 M2 g2 st2 r2=>?_⟩
  cases r2
  cases r1 with
  |ref hc=>
   rename_i ad
   have hc2:=K7 g2.pre hc
   obtain⟨xs,h1,h2⟩:=st2.cell n ad _ hc2 (DL e3)
   have hm:m=j.toNat:=by
    unfold ixN at e4
    rw[vF h0]at e4
    split at e4
    .cases e4;rfl
    .cases e4
   subst hm
   obtain⟨z,e9,r9⟩:=h2.get e5
   cases r9
   refine⟨ad,xs,j,.int a,rfl,rfl,h0,h1,e9,?_⟩
   refine⟨M2,E,S2,_,S3,e6,(r.step g1.st).step g2.st,st2,λcv H3 M3 g3 st3 r3=>?_⟩
   cases r3
   refine⟨a,c,rfl,rfl,?_⟩
   have hc3:=K7 g3.pre hc2
   obtain⟨ys,h3,h4⟩:=st3.cell n ad _ hc3 (DL e7)
   obtain⟨st4,g4⟩:=st3.chg hc3 (DL e7) (h4.set (.int (g a c)) m')
   have gg:=((g1.trans g2).trans g3).trans g4
   exact⟨ad,ys,j,m',rfl,rfl,h3,by rw[h4.length];exact e8,q _ _ M3 gg (r.step gg.st) st4⟩⟩
abbrev sO(led:va):Obj:={cls:=.type "set",dict:=none,data:=.set #[] 0 (.fresh 0 0 led)}
section
variable{A:xV}{s:uf}{items:zE uT}
abbrev XW(ns:Wp Int)(n:Nat):Wp Int:=y0 (λi=>ns.getD i 0) n
def Xg(hh:A.handled=none)(hl:s.heap.IsTuple l items)(hi:wR items.toList ns)(hb:items.size+1<scanBound)(h:∀h' tk,h'.SetOf (intKind prog w) s.heap.objs.size (λk=>(XW ns items.size).any (· ==k)) (XW ns items.size).length->(∀b o,s.heap.get? b=Gc o->h'.get? b=Gc o)->Q .none {s with heap:=h',toks:=tk}):codeAny (model prog w) A (.call (.builtin "set.__init__") ⟨[.ref s.heap.objs.size,.ref l],[]⟩) (wants Q E) {s with heap:=s.heap.push (sO led)}:=by
 have me:(s.heap.push (sO led)).get? s.heap.objs.size=Gc (sO led):=uw _ rfl
 have ty:Shared.TypeIs {s with heap:=s.heap.push (sO led)} (.ref s.heap.objs.size) "set":=⟨_,me,rfl⟩
 have hl1:=hl.push (sO led)
 obtain⟨o,ho,hc,n,hd⟩:=id hl
 have lt:=uk ho
 refine codeAny_call_builtin yB.init.plain F.entry_set_init (check_set_init_1 ty ?_)
 have ho1:=uG (sO led) ho
 obtain⟨c0,d0,q0,l0⟩:=o
 cases hc;cases hd
 have n1:=F.sub_tuple_set
 have n2:=F.sub_tuple_frozenset
 have n3:(zd "tuple" ==zd "dict")=false:=by decide
 unfold zC.«set.__init__» noKeywords Builtin.Frozenset.updateFrom
 generalize pi:pyIter=it
 wp_walk
 subst pi
 refine wM hl1 (uJ (wpAny_runValue ?_))
 have sz:(s.heap.push (sO led)).objs.size=s.heap.objs.size+1:=vq ..
 have ap:l≠(s.heap.push (sO led)).objs.size:=by rw[sz];exact vG (AAK lt)
 refine ABS ((Walks.tuple (by simp[hh]) _ l ap items).toS) s.heap.objs.size (by rw[sz,uS,uv,AAp];exact⟨vG (Nat.lt_succ_self _),yl lt⟩) (λi=>ns.getD i 0)
  (λi v hv=>hi.int_at i v (by rw[Array.getElem?_toList];exact hv)) hb (items.size-0) 0 _ (by lia) (vZ _) ⟨⟨_,uw _ rfl,rfl,rfl⟩,hl1.push _⟩ ?_ ?_
 .exact PyProof.Rows.SetOf_congr ((PyProof.Rows.setObjOf_fresh (knd:=intKind prog w) led).setOf (uG _ me) (by unfold scanBound;lia)) (λ_=>rfl) rfl
 .rintro ⟨h',g',d',tk',os'⟩ hm hS
  have e1:g'=s.gens:=hm.gens
  have e2:d'=s.drawn:=hm.drawn
  have e3:os'=s.os:=hm.os
  subst e1 e2 e3
  refine uq (show wpAny _ _ (ret vR) _ _ _ from uq (h h' tk' hS λb u e=>?_))
  have lb:=uk e
  exact hm.heap b u (by rw[sz,uS,uv,AAp];exact⟨vG lb,vG (AAK lb)⟩) (uG _ (uG _ e))
def Vw(hh:A.handled=none)(hl:s.heap.IsTuple l items)(hi:wR items.toList ns)(hb:items.size+1<scanBound)(h:∀h' tk,h'.SetOf (intKind prog w) s.heap.objs.size (λk=>(XW ns items.size).any (· ==k)) (XW ns items.size).length->(∀b o,s.heap.get? b=Gc o->h'.get? b=Gc o)->Q (.ref s.heap.objs.size) {s with heap:=h',toks:=tk}):wpAny (model prog w) A (call (.type "set") [.ref l]) Q E s:=by
 obtain⟨c,tl,mr⟩:=yB.mro
 have z1:=yB.made
 have z2:=yB.sub
 have z3:=yB.notType
 have z4:=yB.canCreate
 have z5:=F.typeCall_set_1 (.ref l)
 refine wpAny_call (codeAny_of_tree (show wpAny _ _ (callAny (.type "set") _) _ _ _ from uq ⟨Code.quiet_builtin _ (by decide+kernel),codeAny_builtin F.entry_type_call ?_⟩))
 rw[Around.under_plain (weight_type_call_type "set" [.ref l] []) rfl]
 repeat (any_goals (first|assumption|wp_step))
 refine yq (code_set_new_1 (.ref l) (E:=E) (Q₁:=λu s1=>∃led,u=.ref s.heap.objs.size/\s1={s with heap:=s.heap.push (sO led)}) λled=>⟨led,rfl,rfl⟩) ?_
 rintro (e|(_|u|_)) s1 hr
 all_goals first|exact hr|exact hr.elim|skip
 obtain⟨led,rfl,rfl⟩:=hr
 have me:(s.heap.push (sO led)).get? s.heap.objs.size=Gc (sO led):=uw _ rfl
 have ty:Shared.TypeIs {s with heap:=s.heap.push (sO led)} (.ref s.heap.objs.size) "set":=⟨_,me,rfl⟩
 have y1:=yB.init.lookup
 have y2:=yB.init.bind (.ref s.heap.objs.size)
 repeat (any_goals (first|assumption|wp_step))
 refine yq (Xg (E:=E) (led:=led) (Q:=λr s2=>r=.none/\∃h' tk,s2={s with heap:=h',toks:=tk}/\h'.SetOf (intKind prog w) s.heap.objs.size (λk=>(XW ns items.size).any (· ==k)) (XW ns items.size).length/\∀b o,s.heap.get? b=Gc o->h'.get? b=Gc o) (by simp[hh]) hl hi hb λh' tk hS hk=>⟨rfl,h',tk,rfl,hS,hk⟩) ?_
 rintro (e|(_|u|_)) s2 hr
 all_goals first|exact hr|exact hr.elim|skip
 obtain⟨rfl,h',tk,rfl,hS,hk⟩:=hr
 repeat (any_goals (first|assumption|wp_step))
 exact h _ _ hS hk
end
noncomputable def tSL(K:uF)(ta:TA):TE:=λσ H Q=>ta σ H λvs H1=>∃(a:ue) (ns:Wp Int),vs=[.ref a]/\SqT K H1 a (ns.map V.int)/\ns.length<=1000/\Q (.int ((XW ns ns.length).length:Int)) H1
theorem TK:∀{ns} {us},Vals (ns.map V.int) us->wR us ns
 | [],_,h=>by cases h;exact .nil
 |n::ns,_,h=>by
  cases h with
  |cons h t=>
   obtain⟨k,rfl⟩:=h
   exact .cons n k (TK t)
def mq{p p' pos pos':Pos}(hc:X.calm=true)(hgl:Gl X "len")(hml:X.mg "len"=none)(hg:Gl X "set")(hm:X.mg "set"=none)(ha:PA X [a] ta)(hs:x0 (um [a] X.env=[(false,eval a X.env)]) wv)(hs2:x0 (um [Expr.Call (.Name "set" p) [a] [] pos] X.env=[(false,eval (.Call (.Name "set" p) [a] [] pos) X.env)]) wv):PE X (.Call (.Name "len" p') [.Call (.Name "set" p) [a] [] pos] [] pos') (tSL X.K ta):=by
 intro pins s σ H Q I h
 refine vz (JO I hgl hml yd ?_ (by decide) (by decide))
 refine y4 ?_ hs2 rfl
 rw[hs2]
 show wpAny _ _ (spliced ((false,eval (.Call (.Name "set" p) [a] [] pos) X.env)::backTo pos' [])) _ _ s
 refine yo ?_
 refine vz (JO I hg hm PyProof.Rows.boot_set ?_ (by decide) (by decide))
 refine vx (thn (ha pos pins s σ H _ I h) λus s1 z=>?_) hs rfl
 obtain⟨vs,H1,I1,r1,q1⟩:=z
 obtain⟨b,ns,e,hT,hz,q⟩:=q1
 subst e
 cases r1 with
 |cons r rr=>
  cases rr
  cases r
  obtain⟨its,rv,tp,_⟩:=I1.tuple hT
  have hI:=TK rv
  have hl:its.length=ns.length:=by have:=rv.length;simpa using this.symm
  have hl2:its.toArray.size=ns.length:=by rw[ua,hl]
  refine Vw (items:=its.toArray) (ns:=ns) (I1.ok.hd hc) tp (by simpa using hI) (by rw[hl2];unfold scanBound;lia) λh' tk hS hk=>yz ?_
  rw[hl2]at hS
  obtain⟨o,es,ep,t,ho,hex,hd,_,_,hb,hf,hn⟩:=hS
  have hsz:((es.size:Nat):Int)<2^63:=by unfold scanBound at hb;lia
  refine call_len_set ho hex hd hf hsz ⟨.int es.size,H1,I1.kept hk,⟨_,rfl⟩,?_⟩
  rw[hn]
  exact q
noncomputable def slK(r:D×Sto):uM (D×Sto):=match r.1 with
 | .tup ds=>(Jh ds).bind λns=>if ns.length<=1000 then Gc (.int ((XW ns ns.length).length:Int),r.2)else none
 |_=>none
noncomputable def eSL(o:Ev):Ev:=λE S=>(o E S).bind slK
def nY{p p' pos pos':Pos}(hc:X.calm=true)(hgl:Gl X "len")(hml:X.mg "len"=none)(hg:Gl X "set")(hm:X.mg "set"=none)(ha:DEs X [a] [o])(hs:x0 (um [a] X.env=[(false,eval a X.env)]) wv)(hs2:x0 (um [Expr.Call (.Name "set" p) [a] [] pos] X.env=[(false,eval (.Call (.Name "set" p) [a] [] pos) X.env)]) wv):DE X (.Call (.Name "len" p') [.Call (.Name "set" p) [a] [] pos] [] pos') (eSL o):=⟨
 Ba (mq hc hgl hml hg hm ha.pe hs hs2) λσ H Q z=>by
  obtain⟨M,E,S,d,S',e,r,st,q⟩:=z
  obtain⟨⟨w,S1⟩,e1,e⟩:=As e
  have e1':evs [o] E S=Gc ([w],S1):=by
   show(o E S).bind (λr=>(evs [] E r.2).map λq=>(r.1::q.1,q.2))=_
   rw[e1];rfl
  refine GP e1' r st λvs H1 M1 g1 st1 r1=>?_
  unfold slK at e
  split at e
  .rename_i ds he
   have he:w=.tup ds:=he
   subst he
   obtain⟨ns,en,e⟩:=As e
   split at e
   .rename_i hz
    cases e
    cases r1 with
    |cons r1 rn=>
     cases rn
     cases r1 with
     |tup h rs=>
      have:=Ko rs en
      subst this
      exact⟨_,ns,rfl,h,hz,q _ _ M1 g1 st1 (.int _)⟩
   .cases e
  .cases e⟩
end Mi
end
noncomputable section
namespace Mi
open PySem PySem.Spec L2 PyProof.Rows
abbrev eIx(a b:Ev):Ev:=eOp (o2 wIx) [a,b]
abbrev eI(n:Int):Ev:=eC (.int n)
def scM{N P:Wp Str}{sc:yE}(a:x0 (sc.kind=.function) wv)(b:x0 (sc.isCoroutine=false) wv)(c:x0 (sc.isGenerator=false) wv)(d:x0 N.Nodup wE)(e:x0 (N.take P.length=P) wv)(f:x0 (∀x∈P,sc.names.lookup x=Gc .local\/sc.names.lookup x=Gc .cell) wE)(g:x0 (∀y∈sc.names,y.2≠.free) wE):CU N P sc:=⟨a,b,c,d,e,f,g⟩
def csM{N:Wp Str}{osc:yE}{N':Wp Str}{ix:Wp (uM Nat)}{scope:yE}(a:x0 (scope.kind=.function) wv)(b:x0 (∀y∈scope.names,y.2=.cell->scope.names.lookup y.1=Gc .cell) wE)(c:x0 (∀y∈scope.names,y.2=.local->scope.names.lookup y.1=Gc .local) wE)(d:x0 (∀y∈scope.names,y.2=.free->(osc.names.lookup y.1=Gc .cell\/osc.names.lookup y.1=Gc .free)) wE)(e:x0 (SF N osc scope N' ix=true) wE):AJ N osc N' ix scope:=⟨a,b,c,d,e⟩
def len0{α:Type}{us:Wp α}(h:us.length=0):us=[]:=List.eq_nil_of_length_eq_zero h
def oR{α:Type}{us:Wp α}(h:us.length=n+1):∃a r,us=a::r/\r.length=n:=by
 cases us with
 |nil=>cases h
 |cons a r=>exact⟨a,r,rfl,Nat.succ.inj h⟩
def MX{α:Type}{us:Wp α}(h:us.length=1):∃a,us=[a]:=by
 obtain⟨a,r,rfl,k⟩:=oR h
 obtain rfl:=len0 k
 exact⟨a,rfl⟩
def eA{α:Type}{us:Wp α}(h:us.length=2):∃a b,us=[a,b]:=by
 obtain⟨a,r,rfl,k⟩:=oR h
 obtain⟨b,rfl⟩:=MX k
 exact⟨a,b,rfl⟩
def pG{α:Type}{us:Wp α}(h:us.length=3):∃a b c,us=[a,b,c]:=by
 obtain⟨a,r,rfl,k⟩:=oR h
 obtain⟨b,c,rfl⟩:=eA k
 exact⟨a,b,c,rfl⟩
def rP{us:Wp uT}(h:us.length=n):∃f,us=(W1 n).map f:=by
 refine⟨λi=>us.getD i .none,?_⟩
 subst h
 apply zB
 .simp
 .intro i h1 h2
  rw[List.getElem_map,ABk,uY,uN h1];rfl
def BnR(x:Str)(st:vE)(ps:Wp Str):Prop:=∀(kV doc pm:uT) (an:uM ue) (cdv ct:uT) (f:Nat->uT),bindArgs (x9 x x (K0 st) (Dy st) (AF st) .none kV doc pm an cdv ct) ⟨(W1 ps.length).map f,[]⟩=pure (ps.zip ((W1 ps.length).map f))
def bnR{K:uF}{st:vE}(F:Fun K x x st f fd)(h:BnR x st ps):Binds K fd ps []:=F.binds λa b c d e g us hl=>by
 obtain⟨k,rfl⟩:=rP hl
 exact h a b c d e g k
section
variable{P:vg}{w:v9}{K:uF}
def dfM{st:vE} k(S:St.Src K mg x st)(sc:CU N ps (AF st))(hb:∀{f} {cdv} {A} {outer} {s} {H} {E},Kn k (A.deeper (vd x (AF st) s.heap.objs.size f cdv))->(A.deeper (vd x (AF st) s.heap.objs.size f cdv)).units+100<cLine->DSs (RY CX0 P w K mg base N x (AF st) f cdv A outer s H E).nox (Dy st) b)(hp:x0 (ps.length=np) wv)(hbi:x0 (BnR x st ps) v6):St.Dfn P w K mg base x (k+1) ps (spD K np (AW (AY N.length b))):=iZ S sc hp (λ_ _ F=>bnR F hbi) λ_ _ _ _ _ _ _ hr=>hb hr (Rc hr)
end
def deM{X:Cx}{k k' np:Nat}{x:Str}{ps:Wp Str}{p pos:Pos}(d:St.Dfn X.prog X.w X.K X.mg X.base x k ps (spD X.K np f))(hr:Kn k' X.A)(ha:DEs X (e::es) fs)(hk:x0 (k<=k') v4)(hg:x0 (Gl X x) v0)(hn:x0 (fs.length=np) wv)(hdb:x0 ((x==("__debug__":Str))=false) xL)(he:x0 (um (e::es) X.env=(false,eval e X.env)::um es X.env) wv)(hpl:x0 ((backTo pos (um es X.env)).any (·.1)=false) wv):DE X (.Call (.Name x p) (e::es) [] pos) (AB f fs):=bM d (hr.mono hk) hg ha hn hdb he hpl
end Mi
end
noncomputable section
namespace Mi
open PySem PySem.Spec L2
def uA(h:DEs X a b):DEs X a b:=h
def gDE(h:DE X a b):DE X a b:=h
def uB(h:DSs X a b):DSs X a b:=h
def gDS(h:DS X a b):DS X a b:=h
def gDT(h:DT X a b):DT X a b:=h
def gDG(h:DG X a b):DG X a b:=h
def tu(h:OpR X a b):OpR X a b:=h
def pY(h:EW X a b):EW X a b:=h
def dfW k(S:St.Src K mg x st)(sc:CU N ps (AF st))(hb:∀{f} {cdv} {A} {outer} {s} {H} {E},N.Nodup->Kn k (A.deeper (vd x (AF st) s.heap.objs.size f cdv))->(A.deeper (vd x (AF st) s.heap.objs.size f cdv)).units+100<cLine->DSs (RY CX0 P w K mg base N x (AF st) f cdv A outer s H E).nox (Dy st) b)(hp:x0 (ps.length=np) wv)(hbi:x0 (BnR x st ps) v6):St.Dfn P w K mg base x (k+1) ps (spD K np (AW (AY N.length b))):=dfM k S sc (λhr hu=>hb sc.nd hr hu) hp hbi
def tF k(S:St.Src K mg x st)(sc:CU N ps (AF st))(hb:∀{f} {cdv} {A} {outer} {s} {H} {E},N.Nodup->Kn k (A.deeper (vd x (AF st) s.heap.objs.size f cdv))->(A.deeper (vd x (AF st) s.heap.objs.size f cdv)).units+100<cLine->RSs (RY CX0 P w K mg base N x (AF st) f cdv A outer s H E).nox (Dy st) r)(hp:x0 (ps.length=np) wv)(hbi:x0 (BnR x st ps) v6):lN P w K mg base x (k+1) ps (spR K mg np (AW (YA N.length r))):=dk S sc hp (λ_ _ F=>bnR F hbi) λf cdv A outer s H E hr=>hb sc.nd hr (Rc hr)
end Mi
end
noncomputable section
namespace Mi
open PySem PySem.Spec L2 PyProof.Rows
abbrev Eb:=En->Sto->uM (uM Fl×En×Sto)
def lD(K:uF)(M:Ms)(H:Hp)(Dn:Ends)(E':En)(S':Sto):uM Fl->Prop
 |some fl=>End K M H Dn E' S' fl
 |none=>∀σ' H' M',Gr M H M' H'->EnR K M' E' σ' H'->StR K M' S' H'->Dn.bk σ' H'
def lD.later{K:uF}{M M1:Ms}{fl}(q:lD K M H Dn E' S' fl)(g:Gr M H M1 H1):lD K M1 H1 Dn E' S' fl:=by
 cases fl with
 |some fl=>exact End.later q g
 |none=>exact λσ' H' M' g' r st=>q σ' H' M' (g.trans g') r st
structure DB(X:Cx)(st:Wp vE)(f:Eb):Prop where
 pe:PSs X st (λDn σ H=>∃M E S fl E' S',f E S=Gc (fl,E',S')/\EnR X.K M E σ H/\StR X.K M S H/\lD X.K M H Dn E' S' fl)
noncomputable def bOf(f:Ex):Eb:=λE S=>(f E S).map λr=>(Gc r.1,r.2)
noncomputable def UX(f:Ex)(g:Eb):Eb:=λE S=>(f E S).bind λr=>match r.1 with
 | .nx=>g r.2.1 r.2.2
 | .ret w=>Gc (Gc (.ret w),r.2)
noncomputable def iF(k:Ev)(g:Eb):Eb:=λE S=>(k E S).bind λr=>match r.1 with
 | .bl true=>Gc (none,E,r.2)
 | .bl false=>g E r.2
 |_=>none
open Classical in
def Q4(gs:Gd)(t:Tf)(body:Eb):Wp D->En->Sto->uM (Fl×En×Sto)
 | [],E,S=>if gOk gs S then Gc (.nx,E,S)else none
 |d::ds,E,S=>if gOk gs S then(t d E S).bind λE1=>(body E1 S).bind λr=>match r.1 with
  |some .nx=>Q4 gs t body ds r.2.1 r.2.2
  |some (.ret w)=>Gc (.ret w,r.2)
  |none=>Gc (.nx,r.2)
  else none
def Vh(s:Sr)(t:Tf)(body:Eb):Ex:=λE S=>(s E S).bind λr=>Q4 r.1.2 t body r.1.1 E r.2
section
variable{X:Cx}
def nO{st:Wp vE}(h:DSs X st f):DB X st (bOf f):=⟨Iy h.pe λDn σ H z=>by
 obtain⟨M,E,S,fl,E',S',e,r,st,q⟩:=z
 obtain⟨⟨f1,E1,S1⟩,e1,e⟩:=Lf e
 cases e
 exact⟨M,E,S,_,_,_,e1,r,st,q⟩⟩
def Mp{st:vE}{rest:Wp vE}(h1:DS X st f)(h2:DB X rest g):DB X (st::rest) (UX f g):=⟨Iy (MK h1.pe h2.pe) λDn σ H z=>by
 obtain⟨M,E,S,fl,E',S',e,r,st,q⟩:=z
 obtain⟨⟨f1,E1,S1⟩,e1,e⟩:=As e
 dsimp only at e
 split at e
 .exact⟨M,E,S,.nx,E1,S1,e1,r,st,λσ1 H1 M1 g1 r1 st1=>⟨M1,E1,S1,fl,E',S',e,r1,st1,q.later g1⟩⟩
 .cases e
  exact⟨M,E,S,.ret _,_,_,e1,r,st,q⟩⟩
def jM{rest:Wp vE}(hc:DT X c k)(h2:DB X rest g):DB X (.If c [.Break p] [] pos::rest) (iF k g):=⟨Iy (MK (gW hc.pe (R5 Yn) WN) h2.pe) λDn σ H z=>by
 obtain⟨M,E,S,fl,E',S',e,r,st,q⟩:=z
 obtain⟨⟨w1,S1⟩,e1,e⟩:=As e
 dsimp only at e
 split at e
 .cases e
  refine⟨M,E,S,_,_,e1,r,st,λH1 M1 g1 st1=>?_⟩
  refine Ye ?_
  exact q _ _ M1 g1 (r.step g1.st) st1
 .refine⟨M,E,S,_,S1,e1,r,st,λH1 M1 g1 st1=>?_⟩
  refine Xi ?_
  exact⟨M1,E,S1,fl,E',S',e,r.step g1.st,st1,q.later g1⟩
 .cases e⟩
def dB(hp:ABR (model X.prog X.w) X.A X.env X.xe)(hc:X.calm=true)(hi:DI X tg iter s)(hg:DG X tg t)(hb:DB X body b)(hs:x0 (∀x,foldedSetIterable iter X.env x=pure x) ww):DS X (.For tg iter body [] pos) (Vh s t b):=⟨FJ (aP hp hc hi.pe hg.pe hb.pe hs) λDn σ H z=>by
 obtain⟨M,E,S,fl,E',S',e,r,st,q⟩:=z
 obtain⟨⟨⟨ds,gs⟩,S1⟩,e1,e⟩:=As e
 dsimp only at e
 refine⟨M,E,S,ds,gs,S1,e1,r,st,λJ H1 M1 g1 st1 it=>?_⟩
 refine⟨λi m σ' H'=>m=ds.length-i/\∃E2 S2 M2,Q4 gs t b (ds.drop i) E2 S2=Gc (fl,E',S')/\Gr M1 H1 M2 H'/\EnR X.K M2 E2 σ' H'/\StR X.K M2 S2 H',⟨_,rfl,E,S1,M1,e,.refl st1.mo,r.step g1.st,st1⟩,λi m σ2 H2 hW=>?_⟩
 obtain⟨rfl,E2,S2,M2,e2,g2,r2,st2⟩:=hW
 cases ed:ds.drop i with
 |nil=>
  rw[ed]at e2
  unfold Q4 at e2
  split at e2
  .rename_i ok
   cases e2
   left
   exact⟨it.stop i H2 M2 _ g2.st st2 ok (zI.mp ed),q _ _ M2 (g1.trans g2) r2 st2⟩
  .cases e2
 |cons d rest=>
  obtain⟨d1,d2,d3⟩:=Nc ed
  rw[ed]at e2
  unfold Q4 at e2
  split at e2
  .rename_i ok
   obtain⟨E3,e3,e2⟩:=As e2
   obtain⟨⟨f4,E4,S4⟩,e4,e2⟩:=As e2
   dsimp only at e2
   right
   refine⟨it.go i H2 M2 S2 g2.st st2 ok d3,λσ' H'=>∃m',m'<ds.length-i/\(m'=ds.length-(i+1)/\∃E2 S2 M2,Q4 gs t b (ds.drop (i+1)) E2 S2=Gc (fl,E',S')/\Gr M1 H1 M2 H'/\EnR X.K M2 E2 σ' H'/\StR X.K M2 S2 H'),λσ' H' z=>z,λx H3 hy=>?_⟩
   obtain⟨k3,rx⟩:=it.yld i H2 M2 S2 x H3 d g2.st st2 ok d1 hy
   have g3:Gr M2 H2 M2 H3:=.grow st2.mo k3
   refine⟨M2,d,E2,E3,S2,e3,r2.step g3.st,st2.grow k3,rx,λσ4 r4=>?_⟩
   refine⟨M2,E3,S2,f4,E4,S4,e4,r4,st2.grow k3,?_⟩
   split at e2
   .exact λσ6 H6 M6 g6 r6 st6=>⟨_,zJ _ _ d3,rfl,E4,S4,M6,by rw[d2];exact e2,(g2.trans g3).trans g6,r6,st6⟩
   .cases e2
    exact λv H6 M6 g6 st6 r6=>q _ _ M6 (((g1.trans g2).trans g3).trans g6) st6 r6
   .cases e2
    exact λσ6 H6 M6 g6 r6 st6=>q _ _ M6 (((g1.trans g2).trans g3).trans g6) r6 st6
  .cases e2⟩
def ff(h:RE X e r)(hs:x0 (swapsWithSole [tg] e pos.line X.env=pure false) wv)(hw:x0 (swappedStores [tg] e X.env=pure none) wv):RS X (.Assign [tg] e pos) r:=⟨λpins s σ H Z I q=>ABT (xJ (h.pe pins s σ H Z I q) (λ_ _ z=>z.elim) λ_ _ z=>z) hs hw⟩
end
end Mi
end
noncomputable section
namespace Mi
open PySem PySem.Spec L2
section
noncomputable def Ce:D:=.tup [.int 0,.int 1]
noncomputable def Pf:D:=.tup [.int 1,.int 1]
noncomputable def Cn:D:=.tup [.str "bring",.str "pool",.str "swap",.str "trade"]
def Cs:=Ac (FQ (eOp (o2 Ro) [eV 0,eC (.ty "int")]) (Iw (eOp (o2 Ro) [eV 0,eC (.ty "bool")])))
def Bn:=AW (AY 1 Cs)
def Dz:=Ac (FQ (AB Bn [eV 0]) (eOp (o2 wGe) [eV 0,eV 1]))
def BP:=AW (AY 2 Dz)
def Bx:=Ac (FQ (AB BP [eV 0,eV 1]) (eOp (o2 wLe) [eV 0,eV 2]))
def AX:=AW (AY 3 Bx)
def FR:=AQ (Np 0 1 (eOp (o1 eM) [eV 0]) (eOp (o1 eM) [eV 1])) (AQ (Qc (XI 1) (eOp (o2 wNe) [eV 1,eI 0]) (Np 0 1 (eV 1) (eOp (o2 RB) [eV 0,eV 1]))) (Ac (eV 0)))
def Be:=AW (AY 2 FR)
def Oa:=AQ (A9 2 (AB Be [eV 0,eV 1])) (Ac (BM [eOp (o2 Nv) [eV 0,eV 2],eOp (o2 Nv) [eV 1,eV 2]]))
def Ck:=AW (AY 3 Oa)
def TL:=Ac (AB Ck [eOp (o2 Cr) [eOp (o2 BH) [eIx (eV 0) (eI 0),eIx (eV 1) (eI 1)],eOp (o2 BH) [eIx (eV 1) (eI 0),eIx (eV 0) (eI 1)]],eOp (o2 BH) [eIx (eV 0) (eI 1),eIx (eV 1) (eI 1)]])
def EO:=AW (AY 2 TL)
def SH:=Ac (AB Ck [eOp (o2 Pw) [eOp (o2 BH) [eIx (eV 0) (eI 0),eIx (eV 1) (eI 1)],eOp (o2 BH) [eIx (eV 1) (eI 0),eIx (eV 0) (eI 1)]],eOp (o2 BH) [eIx (eV 0) (eI 1),eIx (eV 1) (eI 1)]])
def Dq:=AW (AY 2 SH)
def P0:=Ac (AB Ck [eOp (o2 BH) [eIx (eV 0) (eI 0),eIx (eV 1) (eI 0)],eOp (o2 BH) [eIx (eV 0) (eI 1),eIx (eV 1) (eI 1)]])
def BJ:=AW (AY 2 P0)
def Qd:=AQ (A9 4 (eOp (o2 Cr) [eOp (o2 BH) [eOp (o2 BH) [eIx (eV 0) (eI 0),eIx (eV 2) (eI 1)],eV 1],eOp (o2 BH) [eOp (o2 BH) [eIx (eV 2) (eI 0),eIx (eV 0) (eI 1)],eV 3]])) (Ac (AB Ck [eV 4,eOp (o2 BH) [eOp (o2 BH) [eIx (eV 0) (eI 1),eIx (eV 2) (eI 1)],eOp (o2 Cr) [eV 1,eV 3]]]))
def Ib:=AW (AY 5 Qd)
def Gb:=Ac (FQ (eOp (o2 wLt) [eV 1,eOp (o1 EB) [eV 0]]) (eOp (o2 wGe) [eIx (eIx (eV 0) (eV 1)) (eI 1),eV 2]))
def Bk:=AW (AY 3 Gb)
def GQ:=Ac (FQ (AB Bk [eV 0,eV 1,eI 1]) (FQ (AB Bk [eV 0,eV 2,eI 1]) (eOp (o2 wEq) [eIx (eIx (eV 0) (eV 1)) (eI 0),eIx (eIx (eV 0) (eV 2)) (eI 0)])))
def D6:=AW (AY 3 GQ)
def Hv:=Ac (FQ (AB Bk [eV 0,eV 1,eV 2]) (eOp (o2 wNe) [eIx (eIx (eV 0) (eV 1)) (eI 0),eV 3]))
def D5:=AW (AY 4 Hv)
def D0:=AQ (A9 3 (eIx (eV 2) (eI 0))) (AQ (xIf (eOp (o2 wEq) [eV 3,eC (.str "pool")]) (Ac (AB D6 [eV 0,eIx (eV 2) (eI 1),eIx (eV 2) (eI 2)])) Bc) (AQ (xIf (eOp (o2 wEq) [eV 3,eC (.str "swap")]) (Ac (AB D5 [eV 0,eIx (eV 2) (eI 1),eIx (eV 2) (eI 2),eIx (eV 2) (eI 3)])) Bc) (AQ (xIf (eOp (o2 wEq) [eV 3,eC (.str "trade")]) (AQ (A9 4 (Az [] 1 (DY (eV 1)) (tNm 0) (eOp (o2 wEq) [eIx (eV 0) (eI 0),eC (.str "trade")]) (eIx (eV 0) (eI 1)))) (Ac (FQ (eOp (o2 (wIn true)) [eIx (eV 2) (eI 1),eV 4]) (AB D5 [eV 0,eIx (eV 2) (eI 2),eIx (eV 2) (eI 3),eIx (eV 2) (eI 4)])))) Bc) (AQ (xIf (eOp (o2 (wIn false)) [eV 3,BM [eC (.str "spoil"),eC (.str "throw")]]) (Ac (AB Bk [eV 0,eIx (eV 2) (eI 1),eIx (eV 2) (eI 2)])) Bc) (Ac (eC (.bl true)))))))
def B8:=AW (AY 5 D0)
def He:=AQ (Hi (tTp [tNm 3,tNm 4]) (eIx (eV 0) (eV 1))) (Ac (eOp (o2 Cr) [eOp (o2 Cr) [eOp (N8 false true) [eV 0,eV 1],KG [BM [eV 3,eOp (o2 Pw) [eV 4,eV 2]]]],eOp (N8 true false) [eV 0,eOp (o2 Cr) [eV 1,eI 1]]]))
def Bb:=AW (AY 5 He)
def BW:=AQ (A9 2 (eIx (eV 1) (eI 0))) (AQ (xIf (eOp (o2 wEq) [eV 2,eC (.str "bring")]) (Ac (eOp (o2 Cr) [eV 0,KG [BM [eIx (eV 1) (eI 2),eIx (eV 1) (eI 3)]]])) Bc) (AQ (xIf (eOp (o2 wEq) [eV 2,eC (.str "pool")]) (AQ (Hi (tTp [tNm 3,tNm 4]) (eIx (eV 0) (eIx (eV 1) (eI 1)))) (AQ (A9 5 (eIx (eIx (eV 0) (eIx (eV 1) (eI 2))) (eI 1))) (Ac (eOp (o2 Cr) [AB Bb [AB Bb [eV 0,eIx (eV 1) (eI 1),eV 4],eIx (eV 1) (eI 2),eV 5],KG [BM [eV 3,eOp (o2 Cr) [eV 4,eV 5]]]])))) Bc) (AQ (xIf (eOp (o2 (wIn false)) [eV 2,BM [eC (.str "swap"),eC (.str "trade")]]) (AQ (Hi (tTp [tNm 6,tNm 7,tNm 3,tNm 8]) (eOp (N8 true false) [eV 1,eOp (o1 Zp) [eI 4]])) (Ac (eOp (o2 Cr) [AB Bb [eV 0,eV 6,eV 7],KG [BM [eV 3,eV 8]]]))) Bc) (AQ (xIf (eOp (o2 (wIn false)) [eV 2,BM [eC (.str "spoil"),eC (.str "throw")]]) (Ac (AB Bb [eV 0,eIx (eV 1) (eI 1),eIx (eV 1) (eI 2)])) Bc) (Ac (eV 0))))))
def Af:=AW (AY 9 BW)
def G5:=Ac (Az [] 1 (DY (eIx (eV 0) (eI 1))) (tNm 0) Ai (BM [eIx (eV 0) (eI 0),eIx (eV 0) (eI 1)]))
def Bp:=AW (AY 1 G5)
def ED:=AQ (A9 1 (eIx (eV 0) (eI 0))) (AQ (xIf (eOp (o2 wEq) [eV 1,eC (.str "pool")]) (Ac (eOp (o1 O2) [KG [eIx (eV 0) (eI 1),eIx (eV 0) (eI 2)]])) Bc) (AQ (xIf (eOp (o2 (wIn false)) [eV 1,BM [eC (.str "swap"),eC (.str "trade")]]) (Ac (KG [eIx (eV 0) (eOp (o1 Zp) [eI 4])])) Bc) (Ac (KG []))))
def By:=AW (AY 2 ED)
def IF:=AQ (A9 1 (AB Bp [eV 0])) (AQ (A9 2 (eIx (eV 0) (eI 2))) (AQ (Ht (XU (eV 2)) (tTp [tNm 3,tNm 4]) (AQ (xIf (Iw (AB B8 [eV 1,eOp (N8 false true) [eV 2,eV 3],eV 4])) (Ac (eV 3)) Bc) (A9 1 (AB Af [eV 1,eV 4])))) (Ac (eC .non))))
def EJ:=AW (AY 5 IF)
def Gw:=AQ (A9 1 (AB EJ [eV 0])) (xIf (eOp (o2 (Wj true)) [eV 1,eC .non]) Hg Bc)
def Ae:=AW (AY 2 Gw)
def FV:=xIf (Iw (AB AX [eV 1,eI 0,eOp (o1 EB) [eIx (eV 0) (eI 2)]])) Hg Bc
def A8:=AW (AY 2 FV)
def JI:=Ac (eOp (o1 Br) [Az [1] 1 (Kk [eV 0]) (tNm 1) Ai (eIf (eOp (o2 wEq) [eV 1,eV 0]) (eC Pf) (eC Ce))])
def Et:=AW (AY 2 JI)
def Hm:=Ac (eOp (o1 Br) [Az [1,3] 2 (Q7 (eV 0) (eV 2)) (tTp [tNm 2,tNm 3]) Ai (AB Ib [eV 2,eV 0,eV 3,eV 1])])
def BZ:=AW (AY 4 Hm)
def Cu:=AQ (A9 3 (AB By [eV 2])) (AQ (xIf (eOp (o2 wEq) [eOp (o1 EB) [eV 3],eI 1]) (Ac (eIx (eV 1) (eIx (eV 3) (eI 0)))) Bc) (AQ (Hi (tTp [tNm 4,tNm 5]) (eV 3)) (Ac (AB BZ [eIx (eV 1) (eV 4),eIx (eIx (eV 0) (eV 4)) (eI 1),eIx (eV 1) (eV 5),eIx (eIx (eV 0) (eV 5)) (eI 1)]))))
def BK:=AW (AY 6 Cu)
def Hk:=Ac (eOp (o2 Cr) [eOp (o1 Od) [Az [2] 2 (DY (eV 1)) (tTp [tNm 1,tNm 2]) Ai (eOp (o2 BH) [eV 2,eIx (eV 0) (eV 1)])],eOp (o2 BH) [eIx (eV 0) (eI 2),eIx (eV 2) (eOp (o1 Zp) [eI 1])]])
def Dp:=AW (AY 3 Hk)
def IW:=AQ (Hi (tTp [tNm 3,tNm 4,tNm 5]) (eOp (N8 true false) [eV 2,eI 1])) (Ac (AB Ck [eOp (o2 BH) [eV 4,eIx (eV 5) (eIx (eIx (eV 1) (eV 3)) (eI 0))],AB Dp [eV 0,eV 1,eV 5]]))
def EE:=AW (AY 6 IW)
def G8:=AQ (Hi (tTp [tNm 5,tNm 6]) (AB EE [eV 0,eV 1,eV 3])) (Ac (AB BZ [eV 4,eOp (o2 Pw) [eV 6,eV 5],eIx (eV 2) (eIx (eV 3) (eI 1)),eV 5]))
def DR:=AW (AY 7 G8)
def IP:=AQ (Hi (tTp [tNm 2,tNm 3,tNm 4]) (eOp (N8 true false) [eV 0,eI 1])) (AQ (A9 5 (AB BJ [eIx (eV 1) (eV 2),eV 4])) (AQ (A9 6 (Ze (o1 N5) [eV 1])) (AQ (Lw (AB Dq [eIx (eV 1) (eV 2),eV 5]) (eV 6) (eV 2)) (AQ (Lw (AB EO [eIx (eV 1) (eV 3),eV 5]) (eV 6) (eV 3)) (Ac (eOp (o1 Br) [eV 6]))))))
def EH:=AW (AY 7 IP)
def BE:=AQ (xIf (eOp (o2 wEq) [eIx (eV 3) (eI 0),eC (.str "throw")]) (Ac (AB DR [eV 0,eV 1,eV 2,eV 3,eV 4])) Bc) (AQ (xIf (eOp (o2 wEq) [eIx (eV 3) (eI 0),eC (.str "sell")]) (Ac (AB EH [eV 3,eV 4])) Bc) (Ac (eV 4)))
def Ad:=AW (AY 5 BE)
def BG:=AQ (A9 4 (Az [0,1,2,3] 1 (DY (eV 2)) (tNm 4) Ai (AB Ad [eV 0,eV 1,eV 2,eV 3,eV 4]))) (AQ (xIf (eOp (o2 wEq) [eIx (eV 3) (eI 0),eC (.str "bring")]) (Ac (eOp (o2 Cr) [eV 4,KG [AB Et [eIx (eV 0) (eI 0),eIx (eV 3) (eI 1)]]])) Bc) (AQ (xIf (eOp (o2 (wIn false)) [eIx (eV 3) (eI 0),eC Cn]) (Ac (eOp (o2 Cr) [eV 4,KG [AB BK [eV 1,eV 2,eV 3]]])) Bc) (Ac (eV 4))))
def An:=AW (AY 5 BG)
def L7:=AQ (Hi (tTp [tNm 2,tNm 3,tNm 4]) (eV 0)) (AQ (A9 5 (AB Bp [eV 0])) (AQ (A9 6 (Az [] 1 (DY (eV 3)) (tNm 0) Ai (eIx (eV 0) (eI 2)))) (AQ (A9 7 (eIx (eV 2) (eI 3))) (AQ (Ht (DY (eOp (N8 false true) [eV 4,eV 1])) (tNm 8) (AQ (A9 7 (AB Ad [eV 2,eV 5,eV 6,eV 8,eV 7])) (AQ (A9 6 (AB An [eV 2,eV 5,eV 6,eV 8])) (A9 5 (AB Af [eV 5,eV 8]))))) (Ac (BM [eV 5,eV 6,eV 7]))))))
def Cy:=AW (AY 9 L7)
def Lr:=AQ (Bi (AB Ae [eV 0])) (AQ (Bi (AB A8 [eV 0,eV 1])) (AQ (Hi (tTp [tNm 2,tNm 3,tNm 4]) (AB Cy [eV 0,eV 1])) (Ac (Oc [] 3 (Q7 (eV 2) (eV 3)) (tTp [tTp [tNm 1,tNm 2],tNm 0]) Ai (BM [eV 1,eV 2,eV 0])))))
def C5:=AW (AY 5 Lr)
def HJ:=AQ (xIf (eOp (o2 wLt) [eV 1,eOp (o1 EB) [eV 0]]) (Ac (eIx (eV 0) (eV 1))) Bc) (Ac (eI 0))
def DP:=AW (AY 2 HJ)
def Qj:=Ac (JY [eV 0,eOp (o1 ak) [eOp (o2 wGe) [eV 0,eOp (o2 jv) [eI 10,eI 18]]],eI 0,eOp (o2 RB) [eV 0,eI 1000000007]])
def Ih:=AW (AY 1 Qj)
def Iu:=AQ (xIf (FQ (eOp (o2 wEq) [eIx (eV 0) (eI 1),eI 1]) (eOp (o2 wGt) [eIx (eV 0) (eI 0),eI 0])) (AQ (A9 2 (eOp (o2 RB) [eIx (eV 0) (eI 0),eV 1])) (AQ (Lw (eOp (o2 Nv) [eIx (eV 0) (eI 0),eV 1]) (eV 0) (eI 0)) (Ac (eV 2)))) Bc) (AQ (Lw (eOp (o2 Cr) [eIx (eV 0) (eI 2),eI 1]) (eV 0) (eI 2)) (AQ (A9 3 (eOp (o2 RB) [eOp (o2 BH) [eOp (o2 Cr) [eIx (eV 0) (eI 3),eI 17],eOp (o2 Cr) [eI 69621,eOp (o2 BH) [eI 2,eIx (eV 0) (eI 2)]]],eI 2147483647])) (AQ (A9 3 (eOp (o2 RB) [eOp (o2 Cr) [eOp (o2 Cr) [eOp (o2 BH) [eV 3,eV 3],eOp (o2 BH) [eI 40503,eIx (eV 0) (eI 2)]],eI 5],eI 2147483629])) (Ac (eOp (o2 RB) [eOp (o2 Nv) [eOp (o2 RB) [eOp (o2 BH) [eV 3,eI 48271],eI 2147483647],eI 32],eV 1])))))
def AE:=AW (AY 4 Iu)
def L5:=AQ (Qc (XI 1) (eOp (o2 wGt) [eV 1,eI 0]) (Np 0 1 (eV 1) (eOp (o2 RB) [eV 0,eV 1]))) (Ac (eV 0))
def GX:=AW (AY 2 L5)
def Of:=AQ (A9 2 (AB GX [eOp (o1 eM) [eV 0],eV 1])) (Ac (BM [eOp (o2 Nv) [eV 0,eV 2],eOp (o2 Nv) [eV 1,eV 2]]))
def Bo:=AW (AY 3 Of)
def Om:=Ac (AB Bo [eOp (o2 Cr) [eOp (o2 BH) [eIx (eV 0) (eI 0),eIx (eV 1) (eI 1)],eOp (o2 BH) [eIx (eV 1) (eI 0),eIx (eV 0) (eI 1)]],eOp (o2 BH) [eIx (eV 0) (eI 1),eIx (eV 1) (eI 1)]])
def Ak:=AW (AY 2 Om)
def NI:=Ac (AB Bo [eOp (o2 BH) [eIx (eV 0) (eI 0),eIx (eV 1) (eI 0)],eOp (o2 BH) [eIx (eV 0) (eI 1),eIx (eV 1) (eI 1)]])
def Ag:=AW (AY 2 NI)
def OI:=Ac (AB Ak [eV 0,BM [eOp (o2 Pw) [eI 0,eIx (eV 1) (eI 0)],eIx (eV 1) (eI 1)]])
def Cj:=AW (AY 2 OI)
def Jy:=AQ (A9 2 (Oc [0] 1 (Kk [eV 1]) (tNm 1) Ai (eIx (KG [eI 0,eI 1,AB AE [eV 0,eI 4],AB AE [eV 0,eI 9]]) (AB AE [eV 0,eI 4])))) (AQ (xIf (eOp (o2 wEq) [eOp (o1 Od) [eV 2],eI 0]) (Lw (eI 1) (eV 2) (AB AE [eV 0,eV 1])) Bc) (Ac (eOp (o1 Br) [Az [2] 1 (DY (eV 2)) (tNm 1) Ai (AB Bo [eV 1,eOp (o1 Od) [eV 0]])])))
def Cq:=AW (AY 3 Jy)
def IJ:=AQ (A9 1 (eOp (o2 Cr) [eOp (o2 jv) [eI 10,eI 30],AB AE [eV 0,eI 99]])) (Ac (eIx (KG [eOp (o2 Cr) [eI 1,AB AE [eV 0,eI 4]],eOp (o2 Cr) [eI 1,AB AE [eV 0,eI 40]],eOp (o2 Cr) [eI 1,AB AE [eV 0,eI 999]],eV 1]) (eOp (o2 Nv) [AB AE [eV 0,eI 7],eI 2])))
def Bm:=AW (AY 2 IJ)
def Mv:=AQ (Np 1 2 (eOp (o2 Cr) [eI 1,AB AE [eV 0,eI 4]]) (eOp (o2 Cr) [eI 1,AB AE [eV 0,eI 5]])) (AQ (A9 3 (eIx (KG [eOp (o2 Cr) [eI 1,AB AE [eV 0,eI 3]],eOp (o2 Cr) [eI 1,AB AE [eV 0,eI 20]]]) (AB AE [eV 0,eI 2]))) (Ac (BM [eV 1,eV 2,eV 3,AB Cq [eV 0,eV 1],AB AE [eV 0,eI 10],AB AE [eV 0,eI 10]])))
def Hc:=AW (AY 4 Mv)
def NN:=AQ (A9 1 (eOp (o2 Cr) [eI 1,AB AE [eV 0,eI 12]])) (Ac (AB Bo [eOp (o2 Cr) [eI 1,AB AE [eV 0,eV 1]],eV 1]))
def F2:=AW (AY 2 NN)
def Lq:=Ac (eOp (o1 Br) [Az [0] 1 (Kk [eV 1]) (tNm 1) Ai (eOp (o2 Cr) [eI 1,eIx (KG [AB AE [eV 0,eI 3],AB AE [eV 0,eI 99]]) (AB AE [eV 0,eI 2])])])
def D9:=AW (AY 2 Lq)
def NQ:=Ac (JY [Oc [] 1 (DY (eIx (eV 0) (eI 1))) (tNm 0) Ai (Ze (o1 N5) [eV 0]),eOp (o1 Br) [eIx (eIx (eV 0) (eI 0)) (eI 3)],JY []])
def Ee:=AW (AY 1 NQ)
def Lo:=AQ (A9 2 (JY [])) (AQ (Ht (Q7 (eIx (eV 0) (eI 2)) (eIx (eV 1) (eI 2))) (tTp [tNm 3,tNm 4]) (AQ (A9 5 (AB Ak [AB Ag [BM [eIx (eV 0) (eI 1),eI 1],eV 3],AB Ag [BM [eIx (eV 1) (eI 1),eI 1],eV 4]])) (Bi (Nm Nq (eV 2) [AB Ag [eV 5,AB Bo [eI 1,eOp (o2 Cr) [eIx (eV 0) (eI 1),eIx (eV 1) (eI 1)]]]])))) (Ac (eOp (o1 Br) [eV 2])))
def GW:=AW (AY 6 Lo)
def Ol:=AQ (A9 3 (eIx (eV 2) (eI 3))) (AQ (A9 4 (eOp (o2 Cr) [eOp (o1 Od) [Az [3] 3 (DY (eV 1)) (tTp [tNm 1,tNm 2,tNm 3]) Ai (eOp (o2 BH) [eV 2,eIx (eV 0) (eV 1)])],eOp (o2 BH) [eIx (eV 0) (eI 2),eIx (eV 3) (eOp (o1 Zp) [eI 1])]])) (Ac (AB Bo [eOp (o2 BH) [eIx (eV 2) (eI 2),eIx (eV 3) (eIx (eIx (eV 1) (eIx (eV 2) (eI 1))) (eI 0))],eV 4])))
def Ir:=AW (AY 5 Ol)
def Nk:=AQ (A9 3 (JY [])) (AQ (Ht (Q7 (eV 0) (eV 2)) (tTp [tNm 4,tNm 5]) (Bi (Nm Nq (eV 3) [AB Ak [AB Ag [eV 4,AB Cj [BM [eI 1,eI 1],eV 1]],AB Ag [eV 5,eV 1]]]))) (Ac (eOp (o1 Br) [eV 3])))
def Eo:=AW (AY 6 Nk)
def OR:=AQ (A9 2 (Ze (o1 N5) [eV 0])) (AQ (A9 3 (AB Ag [eIx (eV 2) (eIx (eV 1) (eI 1)),eIx (eV 1) (eI 3)])) (AQ (Lw (AB Cj [eIx (eV 2) (eIx (eV 1) (eI 1)),eV 3]) (eV 2) (eIx (eV 1) (eI 1))) (AQ (Lw (AB Ak [eIx (eV 2) (eIx (eV 1) (eI 2)),eV 3]) (eV 2) (eIx (eV 1) (eI 2))) (Ac (eOp (o1 Br) [eV 2])))))
def Ff:=AW (AY 4 OR)
def K2:=AQ (Hi (tTp [tNm 3,tNm 4,tNm 5]) (eV 1)) (xIf (eOp (o2 wEq) [eIx (eV 2) (eI 0),eC (.str "throw")]) (AQ (Np 6 7 (AB Ir [eV 0,eV 3,eV 2]) (eIx (eIx (eV 3) (eIx (eV 2) (eI 1))) (eI 2))) (AQ (Lw (eOp (o2 Pw) [eIx (eIx (eV 3) (eIx (eV 2) (eI 1))) (eI 1),eIx (eV 2) (eI 2)]) (eIx (eV 3) (eIx (eV 2) (eI 1))) (eI 1)) (AQ (Ht (DY (eV 3)) (tNm 8) (Lw (AB Eo [eIx (eV 8) (eI 2),eV 6,eV 7]) (eV 8) (eI 2))) (Lw (AB Eo [eV 4,eV 6,eV 7]) (eV 1) (eI 1))))) (AQ (Ht (DY (eV 3)) (tNm 8) (Lw (AB Ff [eIx (eV 8) (eI 2),eV 2]) (eV 8) (eI 2))) (Lw (AB Ff [eV 4,eV 2]) (eV 1) (eI 1))))
def Fi:=AW (AY 9 K2)
def GN:=AQ (Hi (tTp [tNm 3,tNm 4,tNm 5]) (eV 1)) (AQ (A9 6 (eIx (eV 2) (eI 0))) (xIf (eOp (o2 wEq) [eV 6,eC (.str "bring")]) (Bi (Nm Nq (eV 3) [JY [eIx (eV 2) (eI 2),eIx (eV 2) (eI 3),eOp (o1 Br) [Az [2] 1 (Kk [eIx (eV 0) (eI 0)]) (tNm 1) Ai (BM [eOp (o1 ak) [eOp (o2 wEq) [eV 1,eIx (eV 0) (eI 1)]],eI 1])]]])) (xIf (eOp (o2 wEq) [eV 6,eC (.str "pool")]) (AQ (Np 7 8 (eIx (eV 3) (eIx (eV 2) (eI 1))) (eIx (eV 3) (eIx (eV 2) (eI 2)))) (AQ (Bi (Nm Nq (eV 3) [JY [eIx (eV 7) (eI 0),eOp (o2 Cr) [eIx (eV 7) (eI 1),eIx (eV 8) (eI 1)],AB GW [eV 7,eV 8]]])) (AQ (Lw (eI 0) (eV 7) (eI 1)) (Lw (eI 0) (eV 8) (eI 1))))) (xIf (eOp (o2 (wIn false)) [eV 6,BM [eC (.str "swap"),eC (.str "trade")]]) (AQ (Hi (tTp [tNm 9,tNm 10,tNm 11,tNm 12]) (eOp (N8 true false) [eV 2,eOp (o1 Zp) [eI 4]])) (AQ (Lw (eOp (o2 Pw) [eIx (eIx (eV 3) (eV 9)) (eI 1),eV 10]) (eIx (eV 3) (eV 9)) (eI 1)) (AQ (Bi (Nm Nq (eV 3) [JY [eV 11,eV 12,eIx (eIx (eV 3) (eV 9)) (eI 2)]])) (Bi (Nm lG (eV 5) [eOp (o2 BH) [eOp (N8 true true) [eV 2,eI 1,eI 2],eOp (o1 ak) [eOp (o2 wEq) [eV 6,eC (.str "trade")]]]]))))) (xIf (eOp (o2 wEq) [eV 6,eC (.str "spoil")]) (Lw (eOp (o2 Pw) [eIx (eIx (eV 3) (eIx (eV 2) (eI 1))) (eI 1),eIx (eV 2) (eI 2)]) (eIx (eV 3) (eIx (eV 2) (eI 1))) (eI 1)) (Bi (AB Fi [eV 0,eV 1,eV 2])))))))
def DM:=AW (AY 13 GN)
def OC:=AQ (Hi (tTp [tNm 3,tNm 4,tNm 5]) (eV 2)) (AQ (A9 6 (Az [] 2 (XU (eV 3)) (tTp [tNm 0,tNm 1]) (eOp (o2 wGt) [eIx (eV 1) (eI 1),eI 0]) (eV 0))) (AQ (A9 7 (AB AE [eV 0,eI 12])) (AQ (xIf (eOr (eOp (o2 wLt) [eV 7,eI 2]) (eOp (o2 wEq) [eV 6,KG []])) (Ac (BM [eC (.str "bring"),AB AE [eV 0,eIx (eV 1) (eI 0)],AB AE [eV 0,eIx (eV 1) (eI 1)],AB Bm [eV 0]])) Bc) (AQ (A9 8 (eIx (eV 6) (AB AE [eV 0,eOp (o1 EB) [eV 6]]))) (AQ (A9 9 (eOp (o2 Cr) [eI 1,AB AE [eV 0,eOp (o2 eL) [eIx (eIx (eV 3) (eV 8)) (eI 1),eI 2000]]])) (AQ (xIf (eOp (o2 wLt) [eV 7,eI 5]) (AQ (A9 10 (Az [3,8] 1 (DY (eV 6)) (tNm 2) (FQ (eOp (o2 wNe) [eV 2,eV 1]) (eOp (o2 wEq) [eIx (eIx (eV 0) (eV 2)) (eI 0),eIx (eIx (eV 0) (eV 1)) (eI 0)])) (eV 2))) (xIf (eOp (o2 wNe) [eV 10,KG []]) (Ac (BM [eC (.str "pool"),eV 8,eIx (eV 10) (AB AE [eV 0,eOp (o1 EB) [eV 10]])])) Bc)) Bc) (AQ (xIf (FQ (eOp (o2 wLt) [eV 7,eI 8]) (eOp (o2 wGt) [eIx (eV 1) (eI 1),eI 1])) (AQ (A9 11 (eOp (o2 RB) [eOp (o2 Cr) [eOp (o2 Cr) [eIx (eIx (eV 3) (eV 8)) (eI 0),eI 1],AB AE [eV 0,eOp (o2 Pw) [eIx (eV 1) (eI 1),eI 1]]],eIx (eV 1) (eI 1)])) (AQ (A9 12 (Az [5] 1 (Kk [eI 10]) (tNm 1) (eOp (o2 (wIn true)) [eV 1,eV 0]) (eV 1))) (AQ (xIf (FQ (eOp (o2 wEq) [eV 7,eI 7]) (eOp (o2 wNe) [eV 12,KG []])) (Ac (BM [eC (.str "trade"),eIx (eV 12) (AB AE [eV 0,eOp (o1 EB) [eV 12]]),eV 8,eV 9,eV 11,AB Bm [eV 0]])) Bc) (Ac (BM [eC (.str "swap"),eV 8,eV 9,eV 11,AB Bm [eV 0]]))))) Bc) (AQ (xIf (eOp (o2 wEq) [eV 7,eI 8]) (Ac (BM [eC (.str "spoil"),eV 8,eV 9])) Bc) (AQ (xIf (FQ (eOp (o2 wEq) [eV 7,eI 9]) (eOp (o2 wGt) [eIx (eV 1) (eI 0),eI 1])) (AQ (A9 13 (AB AE [eV 0,eIx (eV 1) (eI 0)])) (Ac (BM [eC (.str "sell"),eV 13,eOp (o2 RB) [eOp (o2 Cr) [eOp (o2 Cr) [eV 13,eI 1],AB AE [eV 0,eOp (o2 Pw) [eIx (eV 1) (eI 0),eI 1]]],eIx (eV 1) (eI 0)],AB F2 [eV 0]]))) Bc) (Ac (BM [eC (.str "throw"),eV 8,eV 9,AB D9 [eV 0,eOp (o2 Cr) [eIx (eV 1) (eI 1),eI 1]]])))))))))))
def Cg:=AW (AY 14 OC)
def Mb:=AQ (A9 1 (BM [eI 0,eI 1])) (AQ (Ht (DY (eV 0)) (tNm 2) (A9 1 (AB Ak [eV 1,eV 2]))) (Ac (eV 1)))
def CZ:=AW (AY 3 Mb)
def OQ:=Ac (Az [0] 1 (Kk [eOp (o1 EB) [eIx (eV 0) (eI 0)]]) (tNm 1) Ai (AB CZ [Az [1] 1 (DY (eV 0)) (tNm 1) Ai (eIx (eV 1) (eV 0))]))
def HA:=AW (AY 1 OQ)
def K3:=AQ (xIf (eOp (o2 wLe) [eIx (eV 1) (eI 0),eI 0]) (Ac (eC Ce)) Bc) (Ac (AB BJ [eV 1,AB Ck [eIx (eV 0) (eI 5),eI 10]]))
def Fg:=AW (AY 2 K3)
def Mh:=AQ (A9 1 (eC Ce)) (AQ (Ht (DY (eV 0)) (tNm 2) (A9 1 (AB EO [eV 1,eV 2]))) (Ac (eV 1)))
def CB:=AW (AY 3 Mh)
def OM:=AQ (Hi (tTp [tNm 3,tNm 4,tNm 5]) (eV 0)) (AQ (A9 6 (Az [1,2] 3 (DY (eV 4)) (tTp [tNm 2,tNm 3,tNm 4]) Ai (AB BJ [BM [eOp (o2 BH) [eV 3,eIx (eV 1) (eV 2)],eI 1],eIx (eV 4) (eV 0)]))) (AQ (A9 7 (Az [1,2] 1 (DY (eV 5)) (tNm 2) (FQ (eOp (o2 wEq) [eIx (eV 2) (eI 0),eC (.str "bring")]) (eOp (o2 wEq) [eIx (eV 2) (eI 1),eV 0])) (eOp (o2 BH) [eIx (eV 2) (eI 3),eIx (eV 1) (eIx (eV 2) (eI 2))]))) (Ac (AB EO [AB CB [eV 6],BM [eOp (o1 Od) [eV 7],eI 1]]))))
def JB:=AW (AY 8 OM)
def Ew:=Ac (AB AX [eV 1,eI 0,eOp (o2 Pw) [eIx (eV 0) (eI 0),eI 1]])
def BI:=AW (AY 2 Ew)
def E8:=xIf (Iw (AB BI [eIx (eV 0) (eI 0),eV 1])) Hg Bc
def Ax:=AW (AY 2 E8)
def Bq:=Ac (FQ (eOp (o2 Ro) [eV 0,eC (.ty "tuple")]) (eOp (o2 wEq) [eOp (o1 EB) [eV 0],eV 1]))
def Aa:=AW (AY 2 Bq)
def Gj:=Ac (FQ (AB Aa [eV 0,eV 1]) (eOp (o1 XO) [Az [] 1 (DY (eV 0)) (tNm 0) Ai (AB AX [eV 0,eI 1,eI 99])]))
def Ci:=AW (AY 2 Gj)
def FP:=xIf (Iw (AB Ci [eV 1,eIx (eIx (eV 0) (eI 0)) (eI 1)])) Hg Bc
def Bg:=AW (AY 2 FP)
def L6:=AQ (A9 1 (eIx (eIx (eV 0) (eI 0)) (eI 4))) (AQ (Hi (tTp [tNm 2,tNm 3,tNm 4]) (AB Cy [eV 0,eOp (o1 EB) [eIx (eV 0) (eI 2)]])) (AQ (A9 5 (JY [])) (AQ (Ht (Q7 (eV 2) (eV 3)) (tTp [tTp [tNm 7,tNm 8],tNm 6]) (AQ (A9 9 (AB BZ [eV 6,eOp (o2 Pw) [eI 10,eV 1],eV 4,eV 1])) (Bi (Nm Nq (eV 5) [eOp (o1 Br) [Az [8] 1 (DY (eV 9)) (tNm 1) Ai (AB BJ [BM [eV 0,eI 1],eV 1])]])))) (Ac (eV 5)))))
def Bv:=AW (AY 10 L6)
def Mj:=AQ (A9 2 (AB Bp [eV 0])) (AQ (Ht (DY (eOp (N8 false true) [eIx (eV 0) (eI 2),eV 1])) (tNm 3) (A9 2 (AB Af [eV 2,eV 3]))) (Ac (eV 2)))
def C9:=AW (AY 4 Mj)
def Gv:=AQ (A9 3 (AB C9 [eV 0,eOp (o1 EB) [eIx (eV 0) (eI 2)]])) (Ac (AB CB [Az [1,2] 3 (Q7 (eV 3) (AB Bv [eV 0])) (tTp [tTp [tNm 3,tNm 4],tNm 2]) Ai (AB BJ [BM [eIx (eV 1) (eV 3),eI 1],eIx (eV 2) (eV 0)])]))
def DV:=AW (AY 4 Gv)
def JJ:=AQ (Bi (AB Ae [eV 0])) (AQ (Bi (AB Ax [eV 0,eV 1])) (AQ (Bi (AB Bg [eV 0,eV 2])) (AQ (Bi (AB Bg [eV 0,eV 3])) (AQ (A9 4 (AB JB [eV 0,eV 1,eV 2])) (AQ (A9 5 (AB DV [eV 0,eV 1,eV 3])) (AQ (A9 6 (AB Dq [eV 5,eV 4])) (Ac (BM [eV 4,eV 5,eV 6,AB Fg [eIx (eV 0) (eI 0),eV 6]]))))))))
def Bl:=AW (AY 7 JJ)
def L3:=AQ (Bi (AB Ae [eV 0])) (AQ (Bi (AB A8 [eV 0,eV 1])) (AQ (A9 2 (AB C9 [eV 0,eV 1])) (Ac (eOp (o1 Br) [Az [2] 1 (Kk [eIx (eIx (eV 0) (eI 0)) (eI 1)]) (tNm 1) Ai (eOp (o1 Od) [Az [1] 2 (DY (eV 0)) (tTp [tNm 1,tNm 2]) (eOp (o2 wEq) [eV 1,eV 0]) (eV 2)])]))))
def E9:=AW (AY 3 L3)
def FU:=AQ (A9 3 (Az [0,1,2] 1 (Kk [eIx (eIx (eV 0) (eI 0)) (eI 0)]) (tNm 3) Ai (AB Bl [eV 0,eV 3,eV 1,eV 2]))) (AQ (Hi (tTp [tNm 4,tNm 5,tNm 6,tNm 7]) (AB HA [eV 3])) (AQ (A9 8 (AB E9 [eV 0,eOp (o1 EB) [eIx (eV 0) (eI 2)]])) (AQ (xIf (eOp (o2 wNe) [eV 5,BM [eOp (o1 Od) [Az [] 2 (Q7 (eV 8) (eV 2)) (tTp [tNm 0,tNm 1]) Ai (eOp (o2 BH) [eV 0,eV 1])],eI 1]]) (Ac (eC (.bl false))) Bc) (AQ (A9 9 (eOp (o1 Od) [Az [1] 1 (DY (eIx (eV 0) (eI 2))) (tNm 1) (eOp (o2 wEq) [eIx (eV 1) (eI 0),eC (.str "bring")]) (eOp (o2 BH) [eIx (eV 1) (eI 3),eIx (eV 0) (eIx (eV 1) (eI 2))])])) (AQ (xIf (eOp (o2 wNe) [eV 4,BM [eOp (o2 Cr) [eV 9,eOp (o1 Od) [Az [1] 1 (DY (eIx (eV 0) (eI 1))) (tNm 1) Ai (eOp (o2 BH) [eIx (eV 1) (eI 1),eIx (eV 0) (eIx (eV 1) (eI 0))])]],eI 1]]) (Ac (eC (.bl false))) Bc) (AQ (Ht (DY (eV 3)) (tNm 10) (AQ (xIf (eOr (eOp (o2 wNe) [AB Ak [eIx (eV 10) (eI 0),eIx (eV 10) (eI 2)],eIx (eV 10) (eI 1)]) (FQ (eOp (o2 wLe) [eIx (eIx (eV 10) (eI 2)) (eI 0),eI 0]) (eOp (o2 wNe) [eIx (eV 10) (eI 3),BM [eI 0,eI 1]]))) (Ac (eC (.bl false))) Bc) (xIf (FQ (eOp (o2 wGt) [eIx (eIx (eV 10) (eI 2)) (eI 0),eI 0]) (eOp (o2 wNe) [AB Ag [eIx (eV 10) (eI 3),BM [eI 10,eI 1]],AB Ag [eIx (eV 10) (eI 2),BM [eIx (eIx (eV 0) (eI 0)) (eI 5),eI 1]]])) (Ac (eC (.bl false))) Bc))) (Ac (eOp (o2 wEq) [eV 6,AB Cj [eV 5,eV 4]]))))))))
def Bf:=AW (AY 11 FU)
def Qy:=AQ (A9 2 (AB Hc [eV 0])) (AQ (A9 3 (JY [])) (AQ (Ht (Kk [AB AE [eV 0,eI 4]]) (tNm 4) (Bi (Nm Nq (eV 3) [BM [AB AE [eV 0,eIx (eV 2) (eI 1)],eOp (o2 Cr) [eI 1,AB AE [eV 0,eI 30]],AB Cq [eV 0,eIx (eV 2) (eI 0)]]]))) (AQ (Np 5 6 (AB Ee [BM [eV 2,eOp (o1 Br) [eV 3],BM []]]) (JY [])) (AQ (Ht (Kk [AB AE [eV 0,eOp (o2 Cr) [eV 1,eI 1]]]) (tNm 4) (AQ (A9 7 (AB Cg [eV 0,eV 2,eV 5])) (xIf (eOr (eOp (o2 (wIn true)) [eIx (eV 7) (eI 0),BM [eC (.str "bring"),eC (.str "throw")]]) (FQ (eOp (o2 wEq) [AB AE [eV 0,eI 4],eI 0]) (eOp (o2 wLt) [eOp (o1 EB) [eV 6],eI 3]))) (AQ (Bi (AB DM [eV 2,eV 5,eV 7])) (Bi (Nm Nq (eV 6) [eV 7]))) Bc))) (Ac (BM [eV 2,eOp (o1 Br) [eV 3],eOp (o1 Br) [eV 6]]))))))
def Gn:=AW (AY 8 Qy)
def JP:=AQ (A9 2 (Ze (o2 BH) [KG [BM [eI 0,eI 1]],eIx (eIx (eV 0) (eI 0)) (eI 1)])) (AQ (Ht (DY (eV 1)) (tTp [tNm 3,tNm 4]) (AQ (A9 5 (eIx (eIx (AB C5 [eV 0,eOp (o1 EB) [eIx (eV 0) (eI 2)]]) (eV 3)) (eI 0))) (Lw (AB Ak [eIx (eV 2) (eV 5),eV 4]) (eV 2) (eV 5)))) (Ac (eV 2)))
def B0:=AW (AY 6 JP)
def KR:=AQ (A9 3 (Ze (o2 BH) [KG [BM [eI 0,eI 1]],eV 1])) (AQ (Ht (DY (eV 0)) (tTp [tNm 4,tNm 5,tNm 6]) (Lw (AB Ak [eIx (eV 3) (eV 4),AB Ag [BM [eV 5,eI 1],eIx (eV 6) (eV 2)]]) (eV 3) (eV 4))) (Ac (eV 3)))
def CS:=AW (AY 7 KR)
def NC:=AQ (A9 2 (eI 0)) (AQ (Ht (DY (eV 0)) (tNm 3) (A9 2 (eOp (o2 Cr) [eV 2,eOp (o1 Od) [Az [1] 2 (DY (eV 3)) (tTp [tNm 1,tNm 2]) (eOp (o2 wEq) [eV 1,eV 0]) (eV 2)]]))) (Ac (eV 2)))
def Fq:=AW (AY 4 NC)
def JQ:=Ac (eOp (o2 Cr) [eOp (o1 EB) [eIx (eV 0) (eI 1)],eOp (o1 EB) [Az [] 1 (DY (eOp (N8 false true) [eIx (eV 0) (eI 2),eV 1])) (tNm 0) (eOp (o2 (wIn false)) [eIx (eV 0) (eI 0),eC Cn]) (eV 0)]])
def Er:=AW (AY 2 JQ)
def GL:=xIf (Iw (AB AX [eV 1,eI 0,eOp (o2 Pw) [AB Er [eV 0,eOp (o1 EB) [eIx (eV 0) (eI 2)]],eI 1]])) Hg Bc
def Cm:=AW (AY 2 GL)
def Oe:=AQ (Bi (AB Ae [eV 0])) (AQ (Bi (AB Ax [eV 0,eV 1])) (AQ (Bi (AB Cm [eV 0,eV 2])) (Ac (eIx (eIx (AB Bv [eV 0]) (eV 2)) (eV 1)))))
def Bs:=AW (AY 3 Oe)
def GD:=AQ (xIf (eOr (Iw (eOp (o2 Ro) [eV 1,eC (.ty "tuple")])) (Iw (eOp (o1 XO) [Az [0] 1 (DY (eV 1)) (tNm 1) Ai (AB BI [eIx (eV 0) (eI 0),eV 1])]))) Hg Bc) (xIf (eOp (o2 wNe) [eSL (eV 1),eOp (o1 EB) [eV 1]]) Hg Bc)
def CP:=AW (AY 2 GD)
def Hl:=Ac (eOp (o2 Nv) [eIx (eV 0) (eI 0),eIx (eV 0) (eI 1)])
def Aj:=AW (AY 1 Hl)
def Ls:=AQ (A9 2 (Az [1] 2 (XU (eV 0)) (tTp [tNm 1,tNm 2]) Ai (BM [eV 1,AB Aj [eIx (eV 2) (eV 0)]]))) (Ac (Oc [] 2 (DY (eV 2)) (tTp [tNm 0,tNm 1]) (eOp (o2 wGt) [eV 1,eI 0]) (BM [eV 0,eV 1])))
def CM:=AW (AY 3 Ls)
def Me:=AQ (Bi (AB Ae [eV 0])) (AQ (Bi (AB CP [eV 0,eV 1])) (AQ (A9 2 (AB Bv [eV 0])) (AQ (A9 3 (Oc [2] 1 (DY (eV 1)) (tNm 1) Ai (AB CM [eV 0,eV 1]))) (AQ (A9 4 (Oc [] 2 (DY (AB C9 [eV 0,eOp (o1 EB) [eIx (eV 0) (eI 2)]])) (tTp [tNm 0,tNm 1]) Ai (eV 1))) (AQ (Ht (DY (eV 3)) (tNm 5) (Ht (DY (eV 5)) (tTp [tNm 6,tNm 7]) (X8 (λi j=>i-j) (eV 4) (eV 6) (eV 7)))) (Ac (BM [eV 3,eOp (o1 Br) [eV 4]])))))))
def Fw:=AW (AY 8 Me)
def Kj:=AQ (A9 1 (AB C9 [eV 0,eOp (o1 EB) [eIx (eV 0) (eI 2)]])) (AQ (A9 2 (JY [])) (AQ (Ht (Q7 (eV 1) (AB Bv [eV 0])) (tTp [tTp [tNm 4,tNm 5],tNm 3]) (AQ (A9 6 (Az [] 1 (DY (eV 3)) (tNm 0) Ai (AB Dq [eV 0,BM [AB Aj [eV 0],eI 1]]))) (AQ (A9 7 (AB Aj [AB CB [eV 6]])) (xIf (eOp (o2 wGt) [eV 7,eI 0]) (Bi (Nm Nq (eV 2) [BM [eV 4,eV 7,eOp (o1 Br) [Az [7] 1 (DY (eV 6)) (tNm 1) Ai (AB BJ [eV 1,BM [eI 1,eV 0]])]]])) Bc)))) (Ac (eOp (o1 Br) [eV 2]))))
def DK:=AW (AY 8 Kj)
def JT:=AQ (Bi (AB Ae [eV 0])) (Ac (AB DK [eV 0]))
def B4:=AW (AY 1 JT)
def L0:=AQ (Bi (AB Ae [eV 0])) (AQ (Bi (AB Ax [eV 0,eV 1])) (Ac (AB CM [AB Bv [eV 0],eV 1])))
def FG:=AW (AY 2 L0)
def Hj:=AQ (Np 1 2 (eOp (o1 EB) [eIx (eV 0) (eI 2)]) (eLR (eIx (eIx (eV 0) (eI 0)) (eI 0)))) (AQ (Np 3 4 (AB C5 [eV 0,eV 1]) (AB B4 [eV 0])) (AQ (Hi (tTp [tNm 5,tNm 6]) (AB Fw [eV 0,eOp (o1 Br) [eV 2]])) (AQ (Ht (XU (eV 3)) (tTp [tNm 7,tNm 8]) (AQ (xIf (eOp (o2 wNe) [AB CZ [Az [0,7] 1 (DY (eV 2)) (tNm 2) Ai (AB Bs [eV 0,eV 2,eV 1])],BM [eIx (eV 8) (eI 1),eI 1]]) (Ac (eC (.bl false))) Bc) (xIf (eOp (o2 wNe) [eOp (o2 Cr) [eIx (eV 6) (eV 7),AB Fq [eV 5,eV 7]],eIx (eV 8) (eI 1)]) (Ac (eC (.bl false))) Bc))) (AQ (xIf (eOp (o2 wNe) [Az [] 1 (DY (eV 4)) (tNm 0) Ai (eIx (eV 0) (eI 1)),Az [] 1 (DY (eV 6)) (tNm 0) (eOp (o2 wGt) [eV 0,eI 0]) (eV 0)]) (Ac (eC (.bl false))) Bc) (AQ (Ht (DY (eV 2)) (tNm 9) (AQ (A9 10 (AB B0 [eV 0,Az [0,9] 1 (Kk [eOp (o1 EB) [eV 3]]) (tNm 2) Ai (BM [eV 2,AB Bs [eV 0,eV 1,eV 2]])])) (AQ (A9 11 (AB B0 [eV 0,Az [] 2 (DY (AB FG [eV 0,eV 9])) (tTp [tNm 0,tNm 1]) Ai (BM [eV 0,BM [eV 1,eI 1]])])) (AQ (A9 12 (AB CS [eV 4,eIx (eIx (eV 0) (eI 0)) (eI 1),eV 9])) (xIf (eOp (o2 wNe) [Az [] 2 (Q7 (eV 11) (eV 12)) (tTp [tNm 0,tNm 1]) Ai (AB Ak [eV 0,eV 1]),eV 10]) (Ac (eC (.bl false))) Bc))))) (Ac (eC (.bl true))))))))
def Cb:=AW (AY 13 Hj)
noncomputable def BN:D:=.int 4
def HI:=AQ (Bi (AB Ae [eV 0])) (AQ (A9 1 (AB DK [eV 0])) (AQ (xIf (eOp (o2 wGt) [eOp (o1 EB) [eV 1],eC BN]) Hg Bc) (AQ (Hi (tTp [tNm 2,tNm 3,tNm 4,tNm 5,tNm 6,tNm 7]) (eIx (eV 0) (eI 0))) (AQ (Hi (tTp [tNm 8,tNm 9,tNm 10]) (AB Cy [eV 0,eOp (o1 EB) [eIx (eV 0) (eI 2)]])) (Ac (BM [BM [eV 2,eV 3,eV 4,eV 10,eV 6,eV 7],eV 1,BM []]))))))
def A5:=AW (AY 11 HI)
def Fd:Rx:=(Xp rNo (Bi (AB Ae [eV 0])) (Xp rNo (A9 1 (AB DK [eV 0])) (Xp (rIf (eOp (o2 wGt) [eOp (o1 EB) [eV 1],eC BN]) (R6 "TooMany" [eC (.str "more loads stay over than a book begins with")]) rNo) (xIf (eOp (o2 wGt) [eOp (o1 EB) [eV 1],eC BN]) Hg Bc)
    rNo)))
def BR:=AW (YA 11 Fd)
def S9:=AQ (Xa (Hi (tTp [tNm 2,tNm 3,tNm 4]) (AB A5 [eV 1])) (Pr BR [eV 1]) (gOr ["TooMany"] "TooMany" (Ac (eC .non)) gNo)) (AQ (Np 5 4 (AB Ee [BM [eV 2,eV 3,BM []]]) (JY [])) (AQ (Ht (Kk [AB AE [eV 0,eI 4]]) (tNm 6) (AQ (A9 7 (AB Cg [eV 0,eV 2,eV 5])) (xIf (eOp (o2 wNe) [eIx (eV 7) (eI 0),eC (.str "throw")]) (AQ (Bi (AB DM [eV 2,eV 5,eV 7])) (Bi (Nm Nq (eV 4) [eV 7]))) Bc))) (Ac (BM [eV 2,eV 3,eOp (o1 Br) [eV 4]]))))
def HQ:=AW (AY 8 S9)
def Ln:=Ac (eOp (o1 Br) [Az [0] 1 (Kk [eV 1]) (tNm 1) Ai (eOp (o2 Cr) [eI 1,eIx (KG [AB AE [eV 0,eI 4],AB AE [eV 0,eI 99]]) (AB AE [eV 0,eI 2])])])
def DA:=AW (AY 2 Ln)
def JU:=Ac (AB BP [eV 1,eI 1])
def Ez:=AW (AY 2 JU)
def JN:=Ac (AB Ci [eV 1,eOp (o2 Cr) [eIx (eV 0) (eI 1),eI 1]])
def Es:=AW (AY 2 JN)
def JZ:=Ac (AB AX [eV 1,eI 0,eOp (o2 Pw) [eIx (eV 0) (eI 1),eI 1]])
def Dw:=AW (AY 2 JZ)
def GS:=Ac (AB BP [eV 1,eI 0])
def Co:=AW (AY 2 GS)
def KS:=AQ (xIf (eOr (Iw (eOp (o2 Ro) [eV 0,eC (.ty "tuple")])) (eOp (o2 wNe) [eOp (o1 EB) [eV 0],eI 2])) (Ac (eC (.bl false))) Bc) (AQ (Hi (tTp [tNm 1,tNm 2]) (eV 0)) (Ac (FQ (AB Bn [eV 1]) (FQ (AB BP [eV 2,eI 1]) (eOp (o2 wEq) [AB Be [eV 1,eV 2],eI 1])))))
def FY:=AW (AY 3 KS)
def Ll:=Ac (FQ (AB FY [eV 0]) (Tw (eI 0) (eIx (eV 0) (eI 0)) (eIx (eV 0) (eI 1))))
def Cz:=AW (AY 1 Ll)
def Gu:=Ac (FQ (AB Cz [eV 1]) (FQ (eOp (o2 wGt) [eIx (eV 1) (eI 0),eI 0]) (eOp (o2 wLe) [eIx (eV 1) (eI 1),eI 12])))
def DC:=AW (AY 2 Gu)
def GC:=Ac (AB AX [eV 1,eI 0,eI 9])
def CT:=AW (AY 2 GC)
def FZ:Wp (Str×Fn):=[("partner",BI),("kind",Dw),("load",Co),("number",CT),("pieces",Ez),("worths",Es),("share",DC)]
def Cw:=gU FZ 3 1 [eV 0,eV 2]
def Av:=AW (AY 4 Cw)
noncomputable def FN:Wp (Str×D):=[("bring",.tup [.str "partner",.str "kind",.str "pieces"]),("pool",.tup [.str "load",.str "load"]),("swap",.tup [.str "load",.str "pieces",.str "kind",.str "pieces"]),("trade",.tup [.str "number",.str "load",.str "pieces",.str "kind",.str "pieces"]),("spoil",.tup [.str "load",.str "pieces"]),("throw",.tup [.str "load",.str "pieces",.str "worths"]),("sell",.tup [.str "partner",.str "partner",.str "share"])]
noncomputable def B5:D:=.tup [.str "pool",.str "sell"]
def NH:=AQ (xIf (eOr (Iw (eOp (o2 Ro) [eV 1,eC (.ty "tuple")])) (eOp (o2 wEq) [eOp (o1 EB) [eV 1],eI 0])) (Ac (eC (.bl false))) Bc) (AQ (A9 2 (eIx (eV 1) (eI 0))) (AQ (xIf (eOr (Iw (eOp (o2 Ro) [eV 2,eC (.ty "str")])) (eOp (o1 (OH true FN)) [eV 2])) (Ac (eC (.bl false))) Bc) (AQ (A9 3 (eOp (o1 (iG FN)) [eV 2])) (AQ (xIf (eOp (o2 wNe) [eOp (o1 EB) [eV 1],eOp (o2 Cr) [eOp (o1 EB) [eV 3],eI 1]]) (Ac (eC (.bl false))) Bc) (AQ (xIf (Iw (eOp (o1 XO) [Az [0,1] 2 (XU (eV 3)) (tTp [tNm 2,tNm 3]) Ai (AB Av [eV 0,eV 3,eIx (eV 1) (eOp (o2 Cr) [eV 2,eI 1])])])) (Ac (eC (.bl false))) Bc) (Ac (eOr (eOp (o2 (wIn true)) [eV 2,eC B5]) (eOp (o2 wNe) [eIx (eV 1) (eI 1),eIx (eV 1) (eI 2)]))))))))
def Dr:=AW (AY 4 NH)
noncomputable def GR:D:=.int 20
noncomputable def FX:D:=.int 3
def HB:=AQ (xIf (eOr (Iw (eOp (o2 Ro) [eV 1,eC (.ty "tuple")])) (eOp (o2 wGt) [eOp (o1 EB) [eV 1],eC GR])) (Ac (eC (.bl false))) Bc) (AQ (xIf (Iw (eOp (o1 XO) [Az [0] 1 (DY (eV 1)) (tNm 1) Ai (AB Dr [eV 0,eV 1])])) (Ac (eC (.bl false))) Bc) (Ac (eOp (o2 wLe) [eOp (o1 EB) [Az [] 1 (DY (eV 1)) (tNm 0) (eOp (o2 wEq) [eIx (eV 0) (eI 0),eC (.str "throw")]) (eV 0)],eC FX])))
def EM:=AW (AY 2 HB)
def JH:=AQ (xIf (Iw (AB Aa [eV 1,eV 0])) (Ac (eC (.bl false))) Bc) (Ac (FQ (eOp (o1 XO) [Az [] 1 (DY (eV 1)) (tNm 0) Ai (AB Cz [eV 0])]) (eOp (o2 wEq) [AB CB [eV 1],eC Pf])))
def Dh:=AW (AY 2 JH)
def NS:=AQ (xIf (Iw (AB Aa [eV 1,eI 3])) (Ac (eC (.bl false))) Bc) (AQ (Hi (tTp [tNm 2,tNm 3,tNm 4]) (eV 1)) (Ac (FQ (AB Dw [eV 0,eV 2]) (FQ (AB BP [eV 3,eI 0]) (AB Dh [eIx (eV 0) (eI 0),eV 4])))))
def Ea:=AW (AY 5 NS)
def Kc:=AQ (xIf (eOr (Iw (eOp (o2 Ro) [eV 1,eC (.ty "tuple")])) (eOp (o2 wGt) [eOp (o1 EB) [eV 1],eC BN])) (Ac (eC (.bl false))) Bc) (Ac (eOp (o1 XO) [Az [0] 1 (DY (eV 1)) (tNm 1) Ai (FQ (AB Ea [eV 0,eV 1]) (eOp (o2 wGt) [eIx (eV 1) (eI 1),eI 0]))]))
def FW:=AW (AY 2 Kc)
def Lv:=AQ (xIf (Iw (AB Aa [eV 0,eI 6])) (Ac (eC (.bl false))) Bc) (AQ (Hi (tTp [tNm 1,tNm 2,tNm 3,tNm 4,tNm 5,tNm 6]) (eV 0)) (AQ (xIf (Iw (FQ (AB AX [eV 1,eI 1,eI 4]) (FQ (AB AX [eV 2,eI 1,eI 5]) (AB AX [eV 3,eI 1,eI 20])))) (Ac (eC (.bl false))) Bc) (Ac (FQ (AB Dh [eV 1,eV 4]) (FQ (AB AX [eV 5,eI 0,eI 9]) (AB AX [eV 6,eI 0,eI 9]))))))
def GO:=AW (AY 7 Lv)
def Nl:=AQ (xIf (Iw (AB Aa [eV 0,eI 3])) (Ac (eC (.bl false))) Bc) (AQ (Hi (tTp [tNm 1,tNm 2,tNm 3]) (eV 0)) (Ac (FQ (AB GO [eV 1]) (FQ (AB FW [eV 1,eV 2]) (AB EM [eV 1,eV 3])))))
def Fs:=AW (AY 4 Nl)
def Gp:=AQ (A9 3 (Ze (o2 BH) [KG [eC Ce],eV 0])) (AQ (Ht (Q7 (eV 1) (eV 2)) (tTp [tTp [tNm 5,tNm 6],tNm 4]) (Lw (AB EO [eIx (eV 3) (eV 5),AB BJ [BM [eV 6,eI 1],eV 4]]) (eV 3) (eV 5))) (Ac (eOp (o1 Br) [eV 3])))
def CI:=AW (AY 7 Gp)
def ID:=AQ (Hi (tTp [tNm 2,tNm 3]) (eOp (N8 false true) [eIx (eV 0) (eI 0),eI 2])) (AQ (Hi (tTp [tNm 4,tNm 5,tNm 6]) (AB Cy [eV 0,eV 1])) (Ac (Az [3,4,5] 1 (Kk [eV 2]) (tNm 3) Ai (AB CI [eV 0,eV 1,Az [3] 1 (DY (eV 2)) (tNm 1) Ai (eIx (eV 1) (eV 0))]))))
def Cv:=AW (AY 7 ID)
def Km:=AQ (Bi (AB Ae [eV 0])) (AQ (Bi (AB A8 [eV 0,eV 1])) (AQ (Bi (AB Ax [eV 0,eV 2])) (Ac (eIx (AB Cv [eV 0,eV 1]) (eV 2)))))
def DX:=AW (AY 3 Km)
def WT:=AQ (Ht (Kk [eOp (o2 kE) [eI 1,eOp (o2 eL) [eOp (o1 EB) [eV 0],eI 2]]]) (tNm 1) (AQ (A9 2 (AB Ih [AB DP [eV 0,eV 1]])) (AQ (A9 3 (AB Gn [eV 2,eI 7])) (Vh (Kk [eI 3]) (tNm 4) (UX (A9 5 (eIx (eIx (eV 3) (eI 0)) (eI 1))) (UX (Np 6 7 (AB DA [eV 2,eV 5]) (AB DA [eV 2,eV 5])) (UX (xIf (eOr (Iw (AB Cb [eV 3])) (Iw (AB Bf [eV 3,eV 6,eV 7]))) (Ac (eC (.bl false))) Bc) (UX (Np 8 9 (AB B4 [eV 3]) (AB HQ [eV 2,eV 3])) (UX (xIf (eOp (o2 wNe) [eOp (o2 (Wj false)) [eV 9,eC .non],eOp (o2 wGt) [eOp (o1 EB) [eV 8],eI 4]]) (Ac (eC (.bl false))) Bc) (iF (eOp (o2 (Wj false)) [eV 9,eC .non]) (bOf (AQ (xIf (eOr (Iw (AB Fs [eV 9])) (eOp (o2 wNe) [eIx (eV 9) (eI 1),eV 8])) (Ac (eC (.bl false))) Bc) (AQ (Ht (Kk [eIx (eIx (eV 3) (eI 0)) (eI 0)]) (tNm 10) (xIf (eOp (o2 wNe) [eOp (o1 N5) [AB DX [eV 9,eI 0,eV 10]],AB CS [eV 8,eV 5,eV 10]]) (Ac (eC (.bl false))) Bc)) (A9 3 (eV 9))))))))))))))) (Ac (eC (.bl true)))
def Rl:=AW (AY 11 WT)
end
section
noncomputable def top(i:Nat):vE:=zZ.main.body.getD i (.Pass ⟨0,0,0,0⟩)
noncomputable def cI(sc osc:yE):yE:={sc with names:=sc.names.map λ(n,k)=>if(k== .free && osc.kind== .function && osc.names.lookup n==Gc .cell)then(n,.cell)else(n,k)}
abbrev IY:=top 3
abbrev Jf:=top 4
abbrev Hd:=top 5
abbrev Dd:=top 6
abbrev HN:=top 7
abbrev LM:=top 8
abbrev Pa:=top 9
abbrev Ph:=top 10
abbrev MY:=top 11
abbrev NV:=top 12
abbrev Mf:=top 13
abbrev F9:=top 30
abbrev GU:=top 31
abbrev Dj:=top 32
abbrev IC:=top 33
abbrev Gm:=top 34
abbrev Jl:=top 35
abbrev ER:=top 36
abbrev Du:=top 37
abbrev Gg:=top 38
abbrev Dl:=top 39
abbrev Gh:=top 40
abbrev Ep:=top 41
abbrev HW:=top 43
abbrev Jq:=top 44
abbrev Ec:=top 45
abbrev EG:=top 46
abbrev CV:=top 47
abbrev J6:=top 48
abbrev GZ:=top 49
abbrev IU:=top 50
abbrev II:=top 51
abbrev Gz:=top 52
abbrev FK:=top 53
abbrev Fv:=top 54
abbrev CH:=top 55
abbrev Jv:=top 56
abbrev HE:=top 57
abbrev Fx:=top 58
abbrev Eh:=top 59
abbrev Di:=top 60
abbrev Dc:=top 61
abbrev EU:=top 62
abbrev C1:=top 63
abbrev Df:=top 64
abbrev Dg:=top 66
abbrev CY:=top 67
abbrev F7:=top 68
abbrev Cd:=top 69
abbrev GA:=top 70
abbrev Em:=top 71
abbrev Fo:=top 72
abbrev Ef:=top 73
abbrev CA:=top 74
abbrev FF:=top 75
abbrev Ek:=top 76
abbrev BS:=top 77
abbrev FC:=top 78
abbrev HY:=top 79
abbrev BO:=top 81
abbrev FD:=top 82
abbrev Ed:=top 83
abbrev CG:=top 84
abbrev LC:=top 85
abbrev K9:=top 86
abbrev Ga:=top 87
abbrev FL:=top 88
abbrev Cp:=top 89
abbrev C6:=top 90
abbrev IB:=top 91
abbrev CQ:=top 92
abbrev Gk:=top 93
abbrev Fb:=top 94
abbrev CN:=top 96
abbrev Mz:=top 98
abbrev HK:=top 99
abbrev K6:=top 100
abbrev Ij:=top 101
abbrev K8:=top 102
abbrev Dv:=top 103
abbrev Jb:=top 104
abbrev F4:=top 105
abbrev Ig:=top 106
abbrev KA:=top 107
abbrev E7:=top 108
abbrev DQ:=top 109
abbrev K1:=top 110
abbrev J7:=top 111
abbrev Hw:=top 112
abbrev Gs:=top 113
abbrev LK:=top 114
abbrev Jr:=top 115
abbrev LW:=top 116
abbrev LU:=top 117
abbrev KY:=top 118
abbrev Mw:=top 119
abbrev Mc:=top 120
abbrev GY:=top 121
abbrev HX:=top 122
abbrev Ft:=top 123
abbrev AZ:=top 124
abbrev D7:=top 125
abbrev Ab:=top 126
abbrev FA:=top 127
abbrev MH:=top 128
abbrev M8:=top 129
structure Bts(mg:Str->uM uT):Prop where
 abs:mg "abs"=none
 all:mg "all"=none
 bool:mg "bool"=none
 enumerate:mg "enumerate"=none
 int:mg "int"=none
 isi:mg "isinstance"=none
 len:mg "len"=none
 list:mg "list"=none
 max:mg "max"=none
 min:mg "min"=none
 range:mg "range"=none
 set:mg "set"=none
 sorted:mg "sorted"=none
 str:mg "str"=none
 sum:mg "sum"=none
 tuple:mg "tuple"=none
 zip:mg "zip"=none
structure All(w:v9)(K:uF)(mg:Str->uM uT):Prop where
 bt:Bts mg
 gv:Q8 K mg "ALL" Pf
 To:Q8 K mg "MAKERS" Cn
 Lj:Q8 K mg "MOST_DEEDS" GR
 Lh:Q8 K mg "MOST_FIRST" BN
 KI:Q8 K mg "MOST_THROWS" FX
 QB:Q8 K mg "NOTHING" Ce
 KJ:Q8 K mg "UNLIKE" B5
 LL:fB K w mg "FORMS" FN
 Rr:jq w K mg "PARTS" [("partner","is_partner"),("kind","is_kind"),("load","is_load_number"),("number","is_trade_number"),("pieces","are_pieces"),("worths","are_worths"),("share","is_sold_share")]
 Py:XcD K mg "TooMany"
 IV:XmD K mg ["TooMany"] "TooMany"
 IY:St.Src K mg "is_whole" IY
 Jf:St.Src K mg "is_from" Jf
 Hd:St.Src K mg "is_within" Hd
 Dd:St.Src K mg "greatest_divisor" Dd
 HN:St.Src K mg "is_amount" HN
 LM:St.Src K mg "lowest" LM
 Pa:St.Src K mg "plus" Pa
 Ph:St.Src K mg "less" Ph
 MY:St.Src K mg "times" MY
 NV:St.Src K mg "mixed" NV
 Mf:St.Src K mg "total" Mf
 F9:St.Src K mg "is_tuple_of" F9
 GU:St.Src K mg "is_share" GU
 Dj:St.Src K mg "are_owners" Dj
 IC:St.Src K mg "is_train" IC
 Gm:St.Src K mg "is_partner" Gm
 Jl:St.Src K mg "is_kind" Jl
 ER:St.Src K mg "is_load_number" ER
 Du:St.Src K mg "is_trade_number" Du
 Gg:St.Src K mg "are_pieces" Gg
 Dl:St.Src K mg "are_values" Dl
 Gh:St.Src K mg "are_worths" Gh
 Ep:St.Src K mg "is_sold_share" Ep
 HW:St.Src K mg "is_part" HW
 Jq:St.Src K mg "is_load" Jq
 Ec:St.Src K mg "is_deed" Ec
 EG:St.Src K mg "are_first" EG
 CV:St.Src K mg "are_deeds" CV
 J6:St.Src K mg "is_book" J6
 GZ:St.Src K mg "has_pieces" GZ
 IU:St.Src K mg "can_pool" IU
 II:St.Src K mg "can_swap" II
 Gz:St.Src K mg "can_do" Gz
 FK:St.Src K mg "held_without" FK
 Fv:St.Src K mg "held_behind" Fv
 CH:St.Src K mg "held_at_first" CH
 Jv:St.Src K mg "held_by" Jv
 HE:St.Src K mg "made_from" HE
 Fx:St.Src K mg "first_wrong" Fx
 Eh:St.Src K mg "refuse_undone" Eh
 Di:St.Src K mg "many_loads" Di
 Dc:St.Src K mg "refuse_no_number" Dc
 EU:St.Src K mg "refuse_no_load" EU
 C1:St.Src K mg "refuse_no_partner" C1
 Df:St.Src K mg "refuse_no_prices" Df
 Dg:St.Src K mg "all_to_one" Dg
 CY:St.Src K mg "mixed_shares" CY
 F7:St.Src K mg "made_shares" F7
 Cd:St.Src K mg "worth_of_all" Cd
 GA:St.Src K mg "part_thrown" GA
 Em:St.Src K mg "thrown_shares" Em
 Fo:St.Src K mg "sold_shares" Fo
 Ef:St.Src K mg "shares_behind" Ef
 CA:St.Src K mg "owners_behind" CA
 FF:St.Src K mg "state_by" FF
 Ek:St.Src K mg "sums_by_kinds" Ek
 BS:St.Src K mg "theirs_told" BS
 FC:St.Src K mg "loads_by" FC
 HY:St.Src K mg "theirs_by" HY
 BO:St.Src K mg "refuse_no_order" BO
 FD:St.Src K mg "all_dues" FD
 Ed:St.Src K mg "put_in" Ed
 CG:St.Src K mg "worth_of_dues" CG
 LC:St.Src K mg "cut_of" LC
 K9:St.Src K mg "due_of" K9
 Ga:St.Src K mg "account_of" Ga
 FL:St.Src K mg "whole_pieces" FL
 Cp:St.Src K mg "taken_by" Cp
 C6:St.Src K mg "settled" C6
 IB:St.Src K mg "takes_of" IB
 CQ:St.Src K mg "over_told" CQ
 Gk:St.Src K mg "stays_over" Gk
 Fb:St.Src K mg "next_book" Fb
 CN:St.Src K mg "stock_by" CN
 Mz:St.Src K mg "_law_pen" Mz
 HK:St.Src K mg "_law_cell_at" HK
 K6:St.Src K mg "_law_draw" K6
 Ij:St.Src K mg "_law_common" Ij
 K8:St.Src K mg "_law_made" K8
 Dv:St.Src K mg "_law_whole" Dv
 Jb:St.Src K mg "_law_train" Jb
 F4:St.Src K mg "_law_begun" F4
 Ig:St.Src K mg "_law_pieces" Ig
 KA:St.Src K mg "_law_share" KA
 E7:St.Src K mg "_law_worths" E7
 DQ:St.Src K mg "_law_deed" DQ
 K1:St.Src K mg "_law_plus" K1
 J7:St.Src K mg "_law_times" J7
 Hw:St.Src K mg "_law_pooled" Hw
 Gs:St.Src K mg "_law_cost" Gs
 LK:St.Src K mg "_law_less" LK
 Jr:St.Src K mg "_law_borne" Jr
 LW:St.Src K mg "_law_sold" LW
 LU:St.Src K mg "_law_turn" LU
 KY:St.Src K mg "_law_do" KY
 Mw:St.Src K mg "_law_few" Mw
 Mc:St.Src K mg "_law_sum" Mc
 GY:St.Src K mg "_law_by_kinds" GY
 HX:St.Src K mg "_law_of_over" HX
 Ft:St.Src K mg "_law_taken" Ft
 AZ:St.Src K mg "_law_home_right" AZ
 D7:St.Src K mg "_law_sums" D7
 Ab:St.Src K mg "_law_accounts_right" Ab
 FA:St.Src K mg "_law_prices" FA
 MH:St.Src K mg "_law_on" MH
 M8:St.Src K mg "law" M8
end
section
local macro_rules| `(tactic|walk_at $s)=>do
 let i (w:yJ):Lean.Term:=AAr w.toName
 let t (w:yJ):Lean.MacroM Lean.Term:=do
  match w with
  | "?"=> `(?_)
  | "_"=> `(_)
  | "A"=> `(by assumption)
  | "B"=> `(by walk_at "b")
  | "D"=> `(by decide)
  | "K"=> `(λ_ _ _=>⟨?_,?_,?_⟩)
  | "F"=> `(XI _)
  |_=>match w.splitOn "/" with
   | [f,n]=>pure (AAN (i f) (Array.replicate n.length (<- `(?_))))
   |_=>pure (i w)
 let r (a:Wp yJ):Lean.MacroM (Lean.TSyntax `tactic):=do `(tactic|refine $(AAN (i a.head!) (<-a.tail!.mapM t).toArray))
 let g (s:yJ):Lean.MacroM (Lean.TSyntax `tactic):=do
  (s.splitOn ";").foldrM (λx z=>do
    let a:=x.splitOn " "
    let b<-if a.head!== "%" then `(tactic|with_reducible $(<-r a.tail!):tactic)else r a
    `(tactic|first| $b:tactic| $z:tactic)) (<- `(tactic|assumption))
 let ws:=s.getString.splitOn " "
 match ws.head! with
 | "b"=>g "Bts.abs A;Bts.all A;Bts.bool A;Bts.enumerate A;Bts.int A;Bts.isi A;Bts.len A;Bts.list A;Bts.max A;Bts.min A;Bts.range A;Bts.set A;Bts.sorted A;Bts.str A;Bts.sum A;Bts.tuple A;Bts.zip A;% boot_abs;% boot_all;% boot_bool;% boot_enumerate;% boot_int;% boot_isinstance;% boot_len;% boot_list;% boot_max;% boot_min;% boot_range;% boot_set;% boot_sorted;% boot_str;% boot_sum;% boot_tuple;% boot_zip"
 | "d"=>do
   let z<-("uA:AD ? ?;AO|gDE:AH _;BV;fm;GI Mt ? ?;deM A A ?;az ? ? ?;B6 ? rfl B B ?;Kq ? rfl B B ?;Lk ?;jB ?;Ie _ _ _ rfl A ? K;Sw ? ? ?;gm ? ?;Zw ?;rJ ? ?;WC;Kb;dW A rfl;cB rfl B B;sD ? ? ?;pL ?;jD PySem.F.slot_list_append PySem.F.type_list_append aZ ? ?;jD PySem.F.slot_list_extend PySem.F.type_list_extend om ? ?;lZ ? ?;nP ? ?;nQ ? ? ?|uB:BB ?;Am ? ?;Ds|gDS:ES ?;IZ _ ? A;Oo ?;J5 ? ? ?;OE _ _ _ rfl A rfl rfl A ? K;Zd ? ?;kL ? ? ?;NY PassesOwn.never rfl ? ? ?;Q0 rfl A rfl rfl D rfl rfl ? ?;TN;lA F PassesOwn.never ? ?|gDT:G4 ? ? ?;Lx ?;DW.dt qJ/??;DW.dt Wa/??;L1 ?|gDG:EK _ A;Q3 rfl ?|tu:% RH;% iT ?;% kJ;% nh;% pW;% l7;% IQ ?;% Z7;% j5;% qV;% pw;% qL;% nD;% U5;% kc|pY:% EL;% Jx;% eY rfl;% NT;% jC;% jY;% UA;% Qk rfl;% W7 rfl;% ZR".splitOn "|").foldrM (λx z=>do
    let a:=x.splitOn ":"
    `(tactic|first|((with_reducible refine $(i a.head!) ?_); $(<-g a.tail!.head!):tactic)| $z:tactic)) (<-g "Bu ? ?;IA;Ha;av ?;JS ?;Ni rfl B ?;jK rfl B ? ?;ZS rfl B ?;mP;qJ ? ?;mX ?;Wa ? ?;QX ?;pf;bW ?;k6 ? ? ?;% sf;qx ? ? ?;kq rfl A rfl ?;sf")
   let y:Lean.TSyntax `tactic<-ws.tail!.foldrM (λw z=>do `(tactic|(have:= $(if w.startsWith "T." then i w else AAN (i w) #[i "P",i "base",i "T"]); $z:tactic))) (<- `(tactic|repeat' $z:tactic))
   pure y
 |_=>Lean.Macro.throwUnsupported
variable(P:vg){w:v9}{K:uF}{mg:Str->uM uT}(base:vo)(T:All w K mg)
include T
theorem Zk:St.Dfn P w K mg base "is_whole" 1 ["thing"] (spD K 1 Bn):=dfW (N:=["thing"]) 0 T.IY scM λ_ _ _=>by
 walk_at "d T.bt"
theorem ba:St.Dfn P w K mg base "is_from" 2 ["thing","low"] (spD K 2 BP):=dfW (N:=["thing","low"]) 1 T.Jf scM λ_ _ _=>by
 walk_at "d Zk"
theorem X4:St.Dfn P w K mg base "is_within" 3 ["thing","low","high"] (spD K 3 AX):=dfW (N:=["thing","low","high"]) 2 T.Hd scM λ_ _ _=>by
 walk_at "d ba"
theorem Q5:St.Dfn P w K mg base "greatest_divisor" 1 ["one","other"] (spD K 2 Be):=dfW (N:=["one","other"]) 0 T.Dd scM λ_ _ _=>by
 walk_at "d T.bt"
theorem HR:St.Dfn P w K mg base "is_amount" 3 ["thing"] (spD K 1 FY):=dfW (N:=["thing","top","bottom"]) 2 T.HN scM λ_ _ _=>by
 walk_at "d T.bt Zk ba Q5"
theorem eK:St.Dfn P w K mg base "lowest" 2 ["top","bottom"] (spD K 2 Ck):=dfW (N:=["top","bottom","divisor"]) 1 T.LM scM λ_ _ _=>by
 walk_at "d Q5"
theorem kg:St.Dfn P w K mg base "plus" 3 ["one","other"] (spD K 2 EO):=dfW (N:=["one","other"]) 2 T.Pa scM λ_ _ _=>by
 walk_at "d eK"
theorem j9:St.Dfn P w K mg base "less" 3 ["one","other"] (spD K 2 Dq):=dfW (N:=["one","other"]) 2 T.Ph scM λ_ _ _=>by
 walk_at "d eK"
theorem jg:St.Dfn P w K mg base "times" 3 ["one","other"] (spD K 2 BJ):=dfW (N:=["one","other"]) 2 T.MY scM λ_ _ _=>by
 walk_at "d eK"
theorem iA:St.Dfn P w K mg base "mixed" 3 ["one","weight","other","more"] (spD K 4 Ib):=dfW (N:=["one","weight","other","more","top"]) 2 T.NV scM λ_ _ _=>by
 walk_at "d eK"
theorem iD:St.Dfn P w K mg base "total" 4 ["amounts"] (spD K 1 CB):=dfW (N:=["amounts","together","amount"]) 3 T.Mf scM λ_ _ _=>by
 walk_at "d T.QB kg"
theorem WV:St.Dfn P w K mg base "is_tuple_of" 1 ["thing","many"] (spD K 2 Aa):=dfW (N:=["thing","many"]) 0 T.F9 scM λ_ _ _=>by
 walk_at "d T.bt"
omit T in
theorem Pc:CU ["thing"] ["thing"] (AF GU):=scM
theorem aA:St.Dfn P w K mg base "is_share" 4 ["thing"] (spD K 1 Cz):=by
 have HR:=HR P base T
 refine dfM 3 T.GU Pc λhr hu=>?_
 exact(BB (ES (gm (deM HR hr (AD (AH 0) AO)) (Zw (cL BV (GI Mt (AH 0) BV) (GI Mt (AH 0) BV))))))
theorem XZ:St.Dfn P w K mg base "are_owners" 5 ["partners","thing"] (spD K 2 Dh):=dfW (N:=["partners","thing"]) 4 T.Dj scM λ_ _ _=>by
 have:AJ ["partners","thing"] (AF Dj) ["share"] (ixC [] 1) (EZ Dj 0):=csM
 have:(["share"]:Wp Str).Nodup:=by decide+kernel
 walk_at "d T.bt T.gv iD WV aA"
theorem aK:St.Dfn P w K mg base "is_train" 6 ["thing"] (spD K 1 GO):=dfW (N:=["thing","partners","kinds","beasts","holders","hire","part"]) 5 T.IC scM λ_ _ _=>by
 walk_at "d X4 WV XZ"
theorem E5:St.Dfn P w K mg base "is_partner" 4 ["train","thing"] (spD K 2 BI):=dfW (N:=["train","thing"]) 3 T.Gm scM λ_ _ _=>by
 walk_at "d X4"
theorem R0:St.Dfn P w K mg base "is_kind" 4 ["train","thing"] (spD K 2 Dw):=dfW (N:=["train","thing"]) 3 T.Jl scM λ_ _ _=>by
 walk_at "d X4"
theorem Ku:St.Dfn P w K mg base "is_load_number" 3 ["train","thing"] (spD K 2 Co):=dfW (N:=["train","thing"]) 2 T.ER scM λ_ _ _=>by
 walk_at "d ba"
theorem Jm:St.Dfn P w K mg base "is_trade_number" 4 ["train","thing"] (spD K 2 CT):=dfW (N:=["train","thing"]) 3 T.Du scM λ_ _ _=>by
 walk_at "d X4"
theorem N4:St.Dfn P w K mg base "are_pieces" 3 ["train","thing"] (spD K 2 Ez):=dfW (N:=["train","thing"]) 2 T.Gg scM λ_ _ _=>by
 walk_at "d ba"
theorem Xc:St.Dfn P w K mg base "are_values" 4 ["thing","many"] (spD K 2 Ci):=dfW (N:=["thing","many"]) 3 T.Dl scM λ_ _ _=>by
 have:AJ ["thing","many"] (AF Dl) ["value"] (ixC [] 1) (EZ Dl 0):=csM
 have:(["value"]:Wp Str).Nodup:=by decide+kernel
 walk_at "d T.bt X4 WV"
theorem Nz:St.Dfn P w K mg base "are_worths" 5 ["train","thing"] (spD K 2 Es):=dfW (N:=["train","thing"]) 4 T.Gh scM λ_ _ _=>by
 walk_at "d Xc"
theorem LO:St.Dfn P w K mg base "is_sold_share" 5 ["train","thing"] (spD K 2 DC):=dfW (N:=["train","thing"]) 4 T.Ep scM λ_ _ _=>by
 walk_at "d aA"
omit T in
theorem Lp:CU ["train","part","thing","holds"] ["train","part","thing"] (AF HW):=scM
theorem X3:lR P w K mg base "PARTS" 5 2 FZ:=cx T.Rr (.cons ⟨rfl,_,_,(by decide),E5 P base T⟩ (.cons ⟨rfl,_,_,(by decide),R0 P base T⟩ (.cons ⟨rfl,_,_,(by decide),Ku P base T⟩ (.cons ⟨rfl,_,_,(by decide),Jm P base T⟩ (.cons ⟨rfl,_,_,(by decide),N4 P base T⟩ (.cons ⟨rfl,_,_,(by decide),Nz P base T⟩ (.cons ⟨rfl,_,_,(by decide),LO P base T⟩ Paired.nil)))))))
theorem Jg:St.Dfn P w K mg base "is_part" 6 ["train","part","thing"] (spD K 3 Av):=by
 have T_PARTS:=X3 P base T
 refine dfM 5 T.HW Lp λhr hu=>?_
 exact(bQ 3 1 T_PARTS (hr.mono (by decide)) (AD (AH 0) (AD (AH 2) AO)) rfl Lp.nd)
theorem cg:St.Dfn P w K mg base "is_load" 6 ["train","thing"] (spD K 2 Ea):=dfW (N:=["train","thing","kind","pieces","owners"]) 5 T.Jq scM λ_ _ _=>by
 walk_at "d ba WV XZ R0"
omit T in
theorem IL:CU ["train","thing","word","form"] ["train","thing"] (AF Ec):=scM
omit T in
theorem N9:AJ ["train","thing","word","form"] (AF Ec) ["train","thing","at","part"] (ixC [0,1] 2) (EZ Ec 0):=csM
omit T in
theorem JK:(["train","thing","at","part"]:Wp Str).Nodup:=by decide+kernel
theorem cC:St.Dfn P w K mg base "is_deed" 7 ["train","thing"] (spD K 2 Dr):=by
 have B:=T.bt
 have KJ:=T.KJ
 have LL:=T.LL
 have Jg:=Jg P base T
 refine dfM 6 T.Ec IL λhr hu=>?_
 exact(Am (J5 (DW.dt (Wa (Lx (L1 (B6 NT rfl B.isi AA5 (AD (AH 1) (AD (cB rfl B.tuple AAs) AO))))) (QX (G4 (iT hu) (B6 EL rfl B.len yd (AD (AH 1) AO)) BV)))) (BB (ES Kb)) Ds)
      (Am (IZ 2 (GI Mt (AH 1) BV) IL.nd)
      (Am (J5 (DW.dt (Wa (Lx (L1 (B6 NT rfl B.isi AA5 (AD (AH 2) (AD (cB rfl B.str boot_str) AO))))) (QX (RI LL rfl (AH 2))))) (BB (ES Kb)) Ds)
      (Am (IZ 3 (jW LL rfl (AH 2)) IL.nd)
      (Am (J5 (G4 (IQ hu) (B6 EL rfl B.len yd (AD (AH 1) AO)) (az RH (B6 EL rfl B.len yd (AD (AH 3) AO)) BV)) (BB (ES Kb)) Ds)
      (Am (J5 (Lx (L1 (B6 (Qk rfl) rfl B.all boot_all (AD (Ie [0,1] 2 ["train","thing","at","part"] rfl N9 (ZS rfl B.enumerate (AH 3)) (λs H fp=>⟨Q3 rfl (Bu (EK 2 JK) (Bu (EK 3 JK) IA)),Ha,deM Jg hr (AD (AH 0) (AD (AH 3) (AD (GI Mt (AH 1) (az RH (AH 2) BV)) AO)))⟩)) AO)))) (BB (ES Kb)) Ds)
      (BB (ES (oV (Sw U5 (AH 2) (dW KJ rfl)) (Zw (Sw (IQ hu) (GI Mt (AH 1) BV) (GI Mt (AH 1) BV))))))))))))
theorem YW:St.Dfn P w K mg base "are_first" 7 ["train","thing"] (spD K 2 FW):=dfW (N:=["train","thing"]) 6 T.EG scM λ_ _ _=>by
 have:AJ ["train","thing"] (AF EG) ["train","load"] (ixC [0] 1) (EZ EG 0):=csM
 have:(["train","load"]:Wp Str).Nodup:=by decide+kernel
 walk_at "d T.bt T.Lh cg"
theorem Yj:St.Dfn P w K mg base "are_deeds" 8 ["train","thing"] (spD K 2 EM):=dfW (N:=["train","thing"]) 7 T.CV scM λ_ _ _=>by
 have:AJ ["train","thing"] (AF CV) ["train","deed"] (ixC [0] 1) (EZ CV 0):=csM
 have:(["train","deed"]:Wp Str).Nodup:=by decide+kernel
 have:AJ ["train","thing"] (AF CV) ["deed"] (ixC [] 1) (EZ CV 1):=csM
 have:(["deed"]:Wp Str).Nodup:=by decide+kernel
 walk_at "d T.bt T.Lj T.KI cC"
theorem Jt:St.Dfn P w K mg base "is_book" 9 ["thing"] (spD K 1 Fs):=dfW (N:=["thing","train","first","deeds"]) 8 T.J6 scM λ_ _ _=>by
 walk_at "d WV aK YW Yj"
theorem XX:St.Dfn P w K mg base "has_pieces" 1 ["held","load","pieces"] (spD K 3 Bk):=dfW (N:=["held","load","pieces"]) 0 T.GZ scM λ_ _ _=>by
 walk_at "d T.bt"
theorem aN:St.Dfn P w K mg base "can_pool" 2 ["held","load","other"] (spD K 3 D6):=dfW (N:=["held","load","other"]) 1 T.IU scM λ_ _ _=>by
 walk_at "d XX"
theorem ZY:St.Dfn P w K mg base "can_swap" 2 ["held","load","given","kind"] (spD K 4 D5):=dfW (N:=["held","load","given","kind"]) 1 T.II scM λ_ _ _=>by
 walk_at "d XX"
theorem eT:St.Dfn P w K mg base "can_do" 3 ["held","done","deed"] (spD K 3 B8):=dfW (N:=["held","done","deed","word","numbers"]) 2 T.Gz scM λ_ _ _=>by
 have:AJ ["held","done","deed","word","numbers"] (AF Gz) ["other"] (ixC [] 1) (EZ Gz 0):=csM
 have:(["other"]:Wp Str).Nodup:=by decide+kernel
 walk_at "d XX aN ZY"
theorem Uo:St.Dfn P w K mg base "held_without" 1 ["held","load","pieces"] (spD K 3 Bb):=dfW (N:=["held","load","pieces","kind","there"]) 0 T.FK scM λ_ _ _=>by
 walk_at "d"
theorem Vd:St.Dfn P w K mg base "held_behind" 2 ["held","deed"] (spD K 2 Af):=dfW (N:=["held","deed","word","kind","pieces","more","load","given","got"]) 1 T.Fv scM λ_ _ _=>by
 walk_at "d Uo"
theorem UT:St.Dfn P w K mg base "held_at_first" 1 ["book"] (spD K 1 Bp):=dfW (N:=["book"]) 0 T.CH scM λ_ _ _=>by
 have:AJ ["book"] (AF CH) ["load"] (ixC [] 1) (EZ CH 0):=csM
 have:(["load"]:Wp Str).Nodup:=by decide+kernel
 walk_at "d"
theorem Jp:St.Dfn P w K mg base "held_by" 3 ["book","many"] (spD K 2 C9):=dfW (N:=["book","many","held","deed"]) 2 T.Jv scM λ_ _ _=>by
 walk_at "d Vd UT"
theorem YE:St.Dfn P w K mg base "made_from" 1 ["deed"] (spD K 1 By):=dfW (N:=["deed","word"]) 0 T.HE scM λ_ _ _=>by
 walk_at "d T.bt"
theorem XN:St.Dfn P w K mg base "first_wrong" 4 ["book"] (spD K 1 EJ):=dfW (N:=["book","held","deeds","at","deed"]) 3 T.Fx scM λ_ _ _=>by
 walk_at "d T.bt eT Vd UT"
theorem Eg:St.Dfn P w K mg base "refuse_undone" 5 ["book"] (spD K 1 Ae):=dfW (N:=["book","wrong"]) 4 T.Eh scM λ_ _ _=>by
 walk_at "d XN"
theorem XT:St.Dfn P w K mg base "many_loads" 1 ["book","many"] (spD K 2 Er):=dfW (N:=["book","many"]) 0 T.Di scM λ_ _ _=>by
 have:AJ ["book","many"] (AF Di) ["deed"] (ixC [] 1) (EZ Di 0):=csM
 have:(["deed"]:Wp Str).Nodup:=by decide+kernel
 walk_at "d T.bt T.To"
theorem RA:St.Dfn P w K mg base "refuse_no_number" 4 ["book","many"] (spD K 2 A8):=dfW (N:=["book","many"]) 3 T.Dc scM λ_ _ _=>by
 walk_at "d T.bt X4"
theorem SW:St.Dfn P w K mg base "refuse_no_load" 4 ["book","load"] (spD K 2 Cm):=dfW (N:=["book","load"]) 3 T.EU scM λ_ _ _=>by
 walk_at "d T.bt X4 XT"
theorem QT:St.Dfn P w K mg base "refuse_no_partner" 5 ["book","partner"] (spD K 2 Ax):=dfW (N:=["book","partner"]) 4 T.C1 scM λ_ _ _=>by
 walk_at "d E5"
theorem Q9:St.Dfn P w K mg base "refuse_no_prices" 5 ["book","prices"] (spD K 2 Bg):=dfW (N:=["book","prices"]) 4 T.Df scM λ_ _ _=>by
 walk_at "d Xc"
theorem Xb:St.Dfn P w K mg base "all_to_one" 1 ["many","one"] (spD K 2 Et):=dfW (N:=["many","one"]) 0 T.Dg scM λ_ _ _=>by
 have:AJ ["many","one"] (AF Dg) ["one","at"] (ixC [1] 1) (EZ Dg 0):=csM
 have:(["one","at"]:Wp Str).Nodup:=by decide+kernel
 walk_at "d T.bt T.gv T.QB"
theorem Ur:St.Dfn P w K mg base "mixed_shares" 4 ["shares","weight","others","more"] (spD K 4 BZ):=dfW (N:=["shares","weight","others","more"]) 3 T.CY scM λ_ _ _=>by
 have:AJ ["shares","weight","others","more"] (AF CY) ["weight","more","share","other"] (ixC [1,3] 2) (EZ CY 0):=csM
 have:(["weight","more","share","other"]:Wp Str).Nodup:=by decide+kernel
 walk_at "d T.bt iA"
theorem Uw:St.Dfn P w K mg base "made_shares" 5 ["held","shares","deed"] (spD K 3 BK):=dfW (N:=["held","shares","deed","sources","load","other"]) 4 T.F7 scM λ_ _ _=>by
 walk_at "d T.bt YE Ur"
theorem Um:St.Dfn P w K mg base "worth_of_all" 1 ["train","held","worths"] (spD K 3 Dp):=dfW (N:=["train","held","worths"]) 0 T.Cd scM λ_ _ _=>by
 have:AJ ["train","held","worths"] (AF Cd) ["worths","kind","pieces"] (ixC [2] 2) (EZ Cd 0):=csM
 have:(["worths","kind","pieces"]:Wp Str).Nodup:=by decide+kernel
 walk_at "d T.bt"
theorem VD:St.Dfn P w K mg base "part_thrown" 3 ["train","held","deed"] (spD K 3 EE):=dfW (N:=["train","held","deed","load","pieces","worths"]) 2 T.GA scM λ_ _ _=>by
 walk_at "d eK Um"
theorem Ui:St.Dfn P w K mg base "thrown_shares" 5 ["train","held","owners","deed","shares"] (spD K 5 DR):=dfW (N:=["train","held","owners","deed","shares","top","bottom"]) 4 T.Em scM λ_ _ _=>by
 walk_at "d Ur VD"
theorem V9:St.Dfn P w K mg base "sold_shares" 4 ["deed","shares"] (spD K 2 EH):=dfW (N:=["deed","shares","partner","other","sold","passed","changed"]) 3 T.Fo scM λ_ _ _=>by
 walk_at "d T.bt kg j9 jg"
theorem UI:St.Dfn P w K mg base "shares_behind" 6 ["train","held","owners","deed","shares"] (spD K 5 Ad):=dfW (N:=["train","held","owners","deed","shares"]) 5 T.Ef scM λ_ _ _=>by
 walk_at "d Ui V9"
theorem UK:St.Dfn P w K mg base "owners_behind" 7 ["train","held","owners","deed"] (spD K 4 An):=dfW (N:=["train","held","owners","deed","behind"]) 6 T.CA scM λ_ _ _=>by
 have:AJ ["train","held","owners","deed","behind"] (AF CA) ["train","held","owners","deed","shares"] (ixC [0,1,2,3] 1) (EZ CA 0):=csM
 have:(["train","held","owners","deed","shares"]:Wp Str).Nodup:=by decide+kernel
 walk_at "d T.To Xb Uw UI"
theorem Z0:St.Dfn P w K mg base "state_by" 8 ["book","many"] (spD K 2 Cy):=dfW (N:=["book","many","train","first","deeds","held","owners","holders","deed"]) 7 T.FF scM λ_ _ _=>by
 have:AJ ["book","many","train","first","deeds","held","owners","holders","deed"] (AF FF) ["load"] (ixC [] 1) (EZ FF 0):=csM
 have:(["load"]:Wp Str).Nodup:=by decide+kernel
 walk_at "d Vd UT UI UK"
theorem Uj:St.Dfn P w K mg base "sums_by_kinds" 4 ["kinds","held","shares"] (spD K 3 CI):=dfW (N:=["kinds","held","shares","sums","share","kind","pieces"]) 3 T.Ek scM λ_ _ _=>by
 walk_at "d T.bt T.QB kg jg"
theorem Wc:St.Dfn P w K mg base "theirs_told" 9 ["book","many"] (spD K 2 Cv):=dfW (N:=["book","many","partners","kinds","held","owners","holders"]) 8 T.BS scM λ_ _ _=>by
 have:AJ ["book","many","partners","kinds","held","owners","holders"] (AF BS) ["kinds","held","owners","partner"] (ixC [3,4,5] 1) (EZ BS 0):=csM
 have:(["kinds","held","owners","partner"]:Wp Str).Nodup:=by decide+kernel
 have:AJ ["kinds","held","owners","partner"] (cI (EZ BS 0) (AF BS)) ["partner","shares"] (ixC [3] 1) (EZ BS 1):=csM
 have:(["partner","shares"]:Wp Str).Nodup:=by decide+kernel
 walk_at "d T.bt Z0 Uj"
theorem IE:St.Dfn P w K mg base "loads_by" 9 ["book","many"] (spD K 2 C5):=dfW (N:=["book","many","held","owners","holders"]) 8 T.FC scM λ_ _ _=>by
 have:AJ ["book","many","held","owners","holders"] (AF FC) ["shares","kind","pieces"] (ixC [] 3) (EZ FC 0):=csM
 have:(["shares","kind","pieces"]:Wp Str).Nodup:=by decide+kernel
 walk_at "d T.bt Eg RA Z0"
theorem Hb:St.Dfn P w K mg base "theirs_by" 10 ["book","many","partner"] (spD K 3 DX):=dfW (N:=["book","many","partner"]) 9 T.HY scM λ_ _ _=>by
 walk_at "d Eg RA QT Wc"
omit T in
theorem JG:CU ["book","order"] ["book","order"] (AF BO):=scM
omit T in
theorem Hr:AJ ["book","order"] (AF BO) ["book","partner"] (ixC [0] 1) (EZ BO 0):=csM
omit T in
theorem Hs:(["book","partner"]:Wp Str).Nodup:=by decide+kernel
theorem Dx:St.Dfn P w K mg base "refuse_no_order" 5 ["book","order"] (spD K 2 CP):=by
 have B:=T.bt
 have E5:=E5 P base T
 refine dfM 4 T.BO JG λhr hu=>?_
 exact(Am (J5 (DW.dt (Wa (Lx (L1 (B6 NT rfl B.isi AA5 (AD (AH 1) (AD (cB rfl B.tuple AAs) AO))))) (QX (Lx (L1 (B6 (Qk rfl) rfl B.all boot_all (AD (Ie [0] 1 ["book","partner"] rfl Hr (JS (AH 1)) (λs H fp=>⟨EK 1 Hs,Ha,deM E5 hr (AD (GI Mt (AH 0) BV) (AD (AH 1) AO))⟩)) AO))))))) (BB TN) Ds)
      (BB (J5 (G4 (IQ hu) (nY rfl rfl B.len rfl B.set (AD (AH 1) AO)) (B6 EL rfl B.len yd (AD (AH 1) AO))) (BB TN) Ds)))
theorem Ia:St.Dfn P w K mg base "all_dues" 9 ["book"] (spD K 1 Bv):=dfW (N:=["book","hire","held","owners","holders","dues","shares","kind","pieces","parts"]) 8 T.FD scM λ_ _ _=>by
 have:AJ ["book","hire","held","owners","holders","dues","shares","kind","pieces","parts"] (AF FD) ["pieces","part"] (ixC [8] 1) (EZ FD 0):=csM
 have:(["pieces","part"]:Wp Str).Nodup:=by decide+kernel
 walk_at "d T.bt jg Ur Z0"
theorem eE:St.Dfn P w K mg base "put_in" 5 ["book","partner","prices"] (spD K 3 JB):=dfW (N:=["book","partner","prices","train","first","deeds","amounts","brought"]) 4 T.Ed scM λ_ _ _=>by
 have:AJ ["book","partner","prices","train","first","deeds","amounts","brought"] (AF Ed) ["partner","prices","kind","pieces","owners"] (ixC [1,2] 3) (EZ Ed 0):=csM
 have:(["partner","prices","kind","pieces","owners"]:Wp Str).Nodup:=by decide+kernel
 have:AJ ["book","partner","prices","train","first","deeds","amounts","brought"] (AF Ed) ["partner","prices","deed"] (ixC [1,2] 1) (EZ Ed 1):=csM
 have:(["partner","prices","deed"]:Wp Str).Nodup:=by decide+kernel
 walk_at "d T.bt kg jg iD"
theorem UQ:St.Dfn P w K mg base "worth_of_dues" 10 ["book","partner","prices"] (spD K 3 DV):=dfW (N:=["book","partner","prices","held"]) 9 T.CG scM λ_ _ _=>by
 have:AJ ["book","partner","prices","held"] (AF CG) ["partner","prices","dues","kind","pieces"] (ixC [1,2] 3) (EZ CG 0):=csM
 have:(["partner","prices","dues","kind","pieces"]:Wp Str).Nodup:=by decide+kernel
 walk_at "d T.bt jg iD Jp Ia"
theorem d6:St.Dfn P w K mg base "cut_of" 4 ["train","gain"] (spD K 2 Fg):=dfW (N:=["train","gain"]) 3 T.LC scM λ_ _ _=>by
 walk_at "d T.QB eK jg"
theorem JE:St.Dfn P w K mg base "due_of" 10 ["book","partner","load"] (spD K 3 Bs):=dfW (N:=["book","partner","load"]) 9 T.K9 scM λ_ _ _=>by
 walk_at "d Eg SW QT Ia"
theorem XS:St.Dfn P w K mg base "account_of" 11 ["book","partner","ahead","later"] (spD K 4 Bl):=dfW (N:=["book","partner","ahead","later","put","worth","gain"]) 10 T.Ga scM λ_ _ _=>by
 walk_at "d j9 Eg QT Q9 eE UQ d6"
theorem Up:St.Dfn P w K mg base "whole_pieces" 1 ["due"] (spD K 1 Aj):=dfW (N:=["due"]) 0 T.FL scM λ_ _ _=>by
 walk_at "d"
theorem Hx:St.Dfn P w K mg base "taken_by" 2 ["dues","partner"] (spD K 2 CM):=dfW (N:=["dues","partner","takes"]) 1 T.Cp scM λ_ _ _=>by
 have:AJ ["dues","partner","takes"] (AF Cp) ["partner","load","each"] (ixC [1] 2) (EZ Cp 0):=csM
 have:(["partner","load","each"]:Wp Str).Nodup:=by decide+kernel
 have:AJ ["dues","partner","takes"] (AF Cp) ["load","pieces"] (ixC [] 2) (EZ Cp 1):=csM
 have:(["load","pieces"]:Wp Str).Nodup:=by decide+kernel
 walk_at "d T.bt Up"
omit T in
theorem Ct:CU ["book","order","dues","taken","left","takes","load","pieces"] ["book","order"] (AF C6):=scM
omit T in
theorem Nu:AJ ["book","order","dues","taken","left","takes","load","pieces"] (AF C6) ["dues","partner"] (ixC [2] 1) (EZ C6 0):=csM
omit T in
theorem N3:(["dues","partner"]:Wp Str).Nodup:=by decide+kernel
omit T in
theorem N7:AJ ["book","order","dues","taken","left","takes","load","pieces"] (AF C6) ["kind","pieces"] (ixC [] 2) (EZ C6 1):=csM
omit T in
theorem JL:(["kind","pieces"]:Wp Str).Nodup:=by decide+kernel
theorem Jo:St.Dfn P w K mg base "settled" 10 ["book","order"] (spD K 2 Fw):=by
 have B:=T.bt
 have Jp:=Jp P base T
 have Eg:=Eg P base T
 have Dx:=Dx P base T
 have Ia:=Ia P base T
 have Hx:=Hx P base T
 refine dfM 9 T.C6 Ct λhr hu=>?_
 exact(Am (Oo (deM Eg hr (AD (AH 0) AO)))
      (Am (Oo (deM Dx hr (AD (AH 0) (AD (AH 1) AO))))
      (Am (IZ 2 (deM Ia hr (AD (AH 0) AO)) Ct.nd)
      (Am (OE [2] 1 ["dues","partner"] rfl Ct.nd rfl rfl Nu (JS (AH 1)) (λs H fp=>⟨EK 1 N3,Ha,deM Hx hr (AD (AH 0) (AD (AH 1) AO))⟩))
      (Am (OE [] 2 ["kind","pieces"] rfl Ct.nd rfl rfl N7 (JS (deM Jp hr (AD (AH 0) (AD (B6 EL rfl B.len yd (AD (GI Mt (AH 0) BV) AO)) AO)))) (λs H fp=>⟨Q3 rfl (Bu (EK 0 JL) (Bu (EK 1 JL) IA)),Ha,AH 1⟩))
      (Am (NY xB rfl (JS (AH 3)) (EK 5 Ct.nd) (BB (NY xB rfl (JS (AH 5)) (Q3 rfl (Bu (EK 6 Ct.nd) (Bu (EK 7 Ct.nd) IA))) (BB (iC (AH 4) (AH 6) (AH 7) iQ)))))
      (BB (ES (Lk (AD (AH 3) (AD (Kq Jx rfl B.tuple AAs (AD (AH 4) AO)) AO)))))))))))
theorem IG:St.Dfn P w K mg base "takes_of" 10 ["book","partner"] (spD K 2 FG):=dfW (N:=["book","partner"]) 9 T.IB scM λ_ _ _=>by
 walk_at "d Eg QT Ia Hx"
theorem Xv:St.Dfn P w K mg base "over_told" 10 ["book"] (spD K 1 DK):=dfW (N:=["book","held","over","dues","kind","pieces","still","left"]) 9 T.CQ scM λ_ _ _=>by
 have:AJ ["book","held","over","dues","kind","pieces","still","left"] (AF CQ) ["due"] (ixC [] 1) (EZ CQ 0):=csM
 have:(["due"]:Wp Str).Nodup:=by decide+kernel
 have:AJ ["book","held","over","dues","kind","pieces","still","left"] (AF CQ) ["left","amount"] (ixC [7] 1) (EZ CQ 1):=csM
 have:(["left","amount"]:Wp Str).Nodup:=by decide+kernel
 walk_at "d T.bt j9 jg iD Jp Ia Up"
theorem Cf:St.Dfn P w K mg base "stays_over" 11 ["book"] (spD K 1 B4):=dfW (N:=["book"]) 10 T.Gk scM λ_ _ _=>by
 walk_at "d Eg Xv"
theorem HU:lN P w K mg base "next_book" 11 ["book"] (spR K mg 1 BR):=tF (N:=["book","over","partners","kinds","beasts","ahead","hire","part","held","owners","holders"]) 10 T.Fb scM λ_ _ _=>by
 walk_at "d T.bt T.Lh Eg Z0 Xv T.Py"
theorem HV:St.Dfn P w K mg base "next_book" 11 ["book"] (spD K 1 A5):=dfW (N:=["book","over","partners","kinds","beasts","ahead","hire","part","held","owners","holders"]) 10 T.Fb scM λ_ _ _=>by
 walk_at "d T.bt T.Lh Eg Z0 Xv"
theorem Zu:St.Dfn P w K mg base "stock_by" 6 ["book","many"] (spD K 2 E9):=dfW (N:=["book","many","held"]) 5 T.CN scM λ_ _ _=>by
 have:AJ ["book","many","held"] (AF CN) ["held","kind"] (ixC [2] 1) (EZ CN 0):=csM
 have:(["held","kind"]:Wp Str).Nodup:=by decide+kernel
 have:AJ ["held","kind"] (cI (EZ CN 0) (AF CN)) ["kind","other","pieces"] (ixC [1] 2) (EZ CN 1):=csM
 have:(["kind","other","pieces"]:Wp Str).Nodup:=by decide+kernel
 walk_at "d T.bt Jp Eg RA"
theorem NZ:St.Dfn P w K mg base "_law_pen" 1 ["_law_cell"] (spD K 1 Ih):=dfW (N:=["_law_cell"]) 0 T.Mz scM λ_ _ _=>by
 walk_at "d T.bt"
theorem HZ:St.Dfn P w K mg base "_law_cell_at" 1 ["_law_script","_law_k"] (spD K 2 DP):=dfW (N:=["_law_script","_law_k"]) 0 T.HK scM λ_ _ _=>by
 walk_at "d T.bt"
theorem LP:St.Dfn P w K mg base "_law_draw" 1 ["_law_pen_here","_law_bound"] (spD K 2 AE):=dfW (N:=["_law_pen_here","_law_bound","_law_found","_law_stir"]) 0 T.K6 scM λ_ _ _=>by
 walk_at "d"
theorem Z9:St.Dfn P w K mg base "_law_common" 1 ["_law_one","_law_other"] (spD K 2 GX):=dfW (N:=["_law_one","_law_other"]) 0 T.Ij scM λ_ _ _=>by
 walk_at "d"
theorem eQ:St.Dfn P w K mg base "_law_made" 2 ["_law_top","_law_bottom"] (spD K 2 Bo):=dfW (N:=["_law_top","_law_bottom","_law_by"]) 1 T.K8 scM λ_ _ _=>by
 walk_at "d T.bt Z9"
theorem dP:St.Dfn P w K mg base "_law_whole" 3 ["_law_pen_here","_law_many"] (spD K 2 Cq):=dfW (N:=["_law_pen_here","_law_many","_law_weights"]) 2 T.Dv scM λ_ _ _=>by
 have:AJ ["_law_pen_here","_law_many","_law_weights"] (AF Dv) ["_law_pen_here","_law_one"] (ixC [0] 1) (EZ Dv 0):=csM
 have:(["_law_pen_here","_law_one"]:Wp Str).Nodup:=by decide+kernel
 have:AJ ["_law_pen_here","_law_many","_law_weights"] (AF Dv) ["_law_weights","_law_weight"] (ixC [2] 1) (EZ Dv 1):=csM
 have:(["_law_weights","_law_weight"]:Wp Str).Nodup:=by decide+kernel
 walk_at "d T.bt LP eQ"
theorem aR:St.Dfn P w K mg base "_law_train" 4 ["_law_pen_here"] (spD K 1 Hc):=dfW (N:=["_law_pen_here","_law_partners","_law_kinds","_law_beasts"]) 3 T.Jb scM λ_ _ _=>by
 walk_at "d LP dP"
theorem Ja:St.Dfn P w K mg base "_law_begun" 1 ["_law_book"] (spD K 1 Ee):=dfW (N:=["_law_book"]) 0 T.F4 scM λ_ _ _=>by
 have:AJ ["_law_book"] (AF F4) ["_law_load"] (ixC [] 1) (EZ F4 0):=csM
 have:(["_law_load"]:Wp Str).Nodup:=by decide+kernel
 walk_at "d T.bt"
theorem Zj:St.Dfn P w K mg base "_law_pieces" 2 ["_law_pen_here"] (spD K 1 Bm):=dfW (N:=["_law_pen_here","_law_great"]) 1 T.Ig scM λ_ _ _=>by
 walk_at "d LP"
theorem aj:St.Dfn P w K mg base "_law_share" 3 ["_law_pen_here"] (spD K 1 F2):=dfW (N:=["_law_pen_here","_law_bottom"]) 2 T.KA scM λ_ _ _=>by
 walk_at "d LP eQ"
theorem Z4:St.Dfn P w K mg base "_law_worths" 2 ["_law_pen_here","_law_many"] (spD K 2 D9):=dfW (N:=["_law_pen_here","_law_many"]) 1 T.E7 scM λ_ _ _=>by
 have:AJ ["_law_pen_here","_law_many"] (AF E7) ["_law_pen_here","_law_one"] (ixC [0] 1) (EZ E7 0):=csM
 have:(["_law_pen_here","_law_one"]:Wp Str).Nodup:=by decide+kernel
 walk_at "d T.bt LP"
theorem LS:St.Dfn P w K mg base "_law_deed" 4 ["_law_pen_here","_law_train_here","_law_state"] (spD K 3 Cg):=dfW (N:=["_law_pen_here","_law_train_here","_law_state","_law_loads","_law_holders","_law_numbers","_law_full","_law_way","_law_load","_law_some","_law_same","_law_kind","_law_left","_law_partner"]) 3 T.DQ scM λ_ _ _=>by
 have:AJ ["_law_pen_here","_law_train_here","_law_state","_law_loads","_law_holders","_law_numbers","_law_full","_law_way","_law_load","_law_some","_law_same","_law_kind","_law_left","_law_partner"] (AF DQ) ["_law_at","_law_load"] (ixC [] 2) (EZ DQ 0):=csM
 have:(["_law_at","_law_load"]:Wp Str).Nodup:=by decide+kernel
 have:AJ ["_law_pen_here","_law_train_here","_law_state","_law_loads","_law_holders","_law_numbers","_law_full","_law_way","_law_load","_law_some","_law_same","_law_kind","_law_left","_law_partner"] (AF DQ) ["_law_loads","_law_load","_law_at"] (ixC [3,8] 1) (EZ DQ 1):=csM
 have:(["_law_loads","_law_load","_law_at"]:Wp Str).Nodup:=by decide+kernel
 have:AJ ["_law_pen_here","_law_train_here","_law_state","_law_loads","_law_holders","_law_numbers","_law_full","_law_way","_law_load","_law_some","_law_same","_law_kind","_law_left","_law_partner"] (AF DQ) ["_law_numbers","_law_number"] (ixC [5] 1) (EZ DQ 2):=csM
 have:(["_law_numbers","_law_number"]:Wp Str).Nodup:=by decide+kernel
 walk_at "d T.bt LP Zj aj Z4"
theorem LA:St.Dfn P w K mg base "_law_plus" 3 ["_law_one","_law_other"] (spD K 2 Ak):=dfW (N:=["_law_one","_law_other"]) 2 T.K1 scM λ_ _ _=>by
 walk_at "d eQ"
theorem dR:St.Dfn P w K mg base "_law_times" 3 ["_law_one","_law_other"] (spD K 2 Ag):=dfW (N:=["_law_one","_law_other"]) 2 T.J7 scM λ_ _ _=>by
 walk_at "d eQ"
theorem ZT:St.Dfn P w K mg base "_law_pooled" 4 ["_law_one","_law_other"] (spD K 2 GW):=dfW (N:=["_law_one","_law_other","_law_found","_law_mine","_law_its","_law_both"]) 3 T.Hw scM λ_ _ _=>by
 walk_at "d T.bt eQ LA dR"
theorem eB:St.Dfn P w K mg base "_law_cost" 3 ["_law_train_here","_law_loads","_law_deed_here"] (spD K 3 Ir):=dfW (N:=["_law_train_here","_law_loads","_law_deed_here","_law_worths_here","_law_whole_here"]) 2 T.Gs scM λ_ _ _=>by
 have:AJ ["_law_train_here","_law_loads","_law_deed_here","_law_worths_here","_law_whole_here"] (AF Gs) ["_law_worths_here","_law_kind","_law_pieces_here","_law_owners"] (ixC [3] 3) (EZ Gs 0):=csM
 have:(["_law_worths_here","_law_kind","_law_pieces_here","_law_owners"]:Wp Str).Nodup:=by decide+kernel
 walk_at "d T.bt eQ"
theorem eD:St.Dfn P w K mg base "_law_less" 4 ["_law_one","_law_other"] (spD K 2 Cj):=dfW (N:=["_law_one","_law_other"]) 3 T.LK scM λ_ _ _=>by
 walk_at "d LA"
theorem aX:St.Dfn P w K mg base "_law_borne" 5 ["_law_shares","_law_part","_law_owners"] (spD K 3 Eo):=dfW (N:=["_law_shares","_law_part","_law_owners","_law_found","_law_mine","_law_its"]) 4 T.Jr scM λ_ _ _=>by
 walk_at "d T.bt LA dR eD"
theorem eJ:St.Dfn P w K mg base "_law_sold" 5 ["_law_shares","_law_deed_here"] (spD K 2 Ff):=dfW (N:=["_law_shares","_law_deed_here","_law_found","_law_passes"]) 4 T.LW scM λ_ _ _=>by
 walk_at "d T.bt LA dR eD"
theorem eO:St.Dfn P w K mg base "_law_turn" 6 ["_law_train_here","_law_state","_law_deed_here"] (spD K 3 Fi):=dfW (N:=["_law_train_here","_law_state","_law_deed_here","_law_loads","_law_holders","_law_numbers","_law_part","_law_owners","_law_load"]) 5 T.LU scM λ_ _ _=>by
 walk_at "d eB aX eJ"
theorem PD:St.Dfn P w K mg base "_law_do" 7 ["_law_train_here","_law_state","_law_deed_here"] (spD K 3 DM):=dfW (N:=["_law_train_here","_law_state","_law_deed_here","_law_loads","_law_holders","_law_numbers","_law_word","_law_one","_law_other","_law_load","_law_given","_law_kind","_law_got"]) 6 T.KY scM λ_ _ _=>by
 have:AJ ["_law_train_here","_law_state","_law_deed_here","_law_loads","_law_holders","_law_numbers","_law_word","_law_one","_law_other","_law_load","_law_given","_law_kind","_law_got"] (AF KY) ["_law_deed_here","_law_one"] (ixC [2] 1) (EZ KY 0):=csM
 have:(["_law_deed_here","_law_one"]:Wp Str).Nodup:=by decide+kernel
 walk_at "d T.bt ZT eO"
theorem Ma:St.Dfn P w K mg base "_law_few" 8 ["_law_pen_here","_law_most"] (spD K 2 Gn):=dfW (N:=["_law_pen_here","_law_most","_law_train_here","_law_first","_law_k","_law_state","_law_deeds","_law_deed_here"]) 7 T.Mw scM λ_ _ _=>by
 walk_at "d T.bt LP dP aR Ja LS PD"
theorem Ml:St.Dfn P w K mg base "_law_sum" 4 ["_law_some"] (spD K 1 CZ):=dfW (N:=["_law_some","_law_found","_law_one"]) 3 T.Mc scM λ_ _ _=>by
 walk_at "d LA"
theorem Ey:St.Dfn P w K mg base "_law_by_kinds" 10 ["_law_book","_law_rows"] (spD K 2 B0):=dfW (N:=["_law_book","_law_rows","_law_found","_law_load","_law_amount","_law_kind"]) 9 T.GY scM λ_ _ _=>by
 walk_at "d T.bt IE LA"
theorem DJ:St.Dfn P w K mg base "_law_of_over" 4 ["_law_over","_law_kinds","_law_partner"] (spD K 3 CS):=dfW (N:=["_law_over","_law_kinds","_law_partner","_law_found","_law_kind","_law_pieces_here","_law_owners"]) 3 T.HX scM λ_ _ _=>by
 walk_at "d LA dR"
theorem J8:St.Dfn P w K mg base "_law_taken" 1 ["_law_takes","_law_load"] (spD K 2 Fq):=dfW (N:=["_law_takes","_law_load","_law_many","_law_row"]) 0 T.Ft scM λ_ _ _=>by
 have:AJ ["_law_takes","_law_load","_law_many","_law_row"] (AF Ft) ["_law_load","_law_one","_law_pieces_here"] (ixC [1] 2) (EZ Ft 0):=csM
 have:(["_law_load","_law_one","_law_pieces_here"]:Wp Str).Nodup:=by decide+kernel
 walk_at "d T.bt"
omit T in
theorem Ao:CU ["_law_book","_law_many","_law_everybody","_law_loads","_law_over","_law_takes","_law_left","_law_at","_law_load","_law_partner","_law_dues","_law_mine","_law_rest"] ["_law_book"] (AF AZ):=scM
omit T in
theorem Jc:AJ ["_law_book","_law_many","_law_everybody","_law_loads","_law_over","_law_takes","_law_left","_law_at","_law_load","_law_partner","_law_dues","_law_mine","_law_rest"] (AF AZ) ["_law_book","_law_at","_law_partner"] (ixC [0,7] 1) (EZ AZ 0):=csM
omit T in
theorem J9:(["_law_book","_law_at","_law_partner"]:Wp Str).Nodup:=by decide+kernel
omit T in
theorem Ji:AJ ["_law_book","_law_many","_law_everybody","_law_loads","_law_over","_law_takes","_law_left","_law_at","_law_load","_law_partner","_law_dues","_law_mine","_law_rest"] (AF AZ) ["_law_load"] (ixC [] 1) (EZ AZ 1):=csM
omit T in
theorem Jw:(["_law_load"]:Wp Str).Nodup:=by decide+kernel
omit T in
theorem Jz:AJ ["_law_book","_law_many","_law_everybody","_law_loads","_law_over","_law_takes","_law_left","_law_at","_law_load","_law_partner","_law_dues","_law_mine","_law_rest"] (AF AZ) ["_law_pieces_here"] (ixC [] 1) (EZ AZ 2):=csM
omit T in
theorem J0:(["_law_pieces_here"]:Wp Str).Nodup:=by decide+kernel
omit T in
theorem Jn:AJ ["_law_book","_law_many","_law_everybody","_law_loads","_law_over","_law_takes","_law_left","_law_at","_law_load","_law_partner","_law_dues","_law_mine","_law_rest"] (AF AZ) ["_law_book","_law_partner","_law_at"] (ixC [0,9] 1) (EZ AZ 3):=csM
omit T in
theorem Ju:(["_law_book","_law_partner","_law_at"]:Wp Str).Nodup:=by decide+kernel
omit T in
theorem Je:AJ ["_law_book","_law_many","_law_everybody","_law_loads","_law_over","_law_takes","_law_left","_law_at","_law_load","_law_partner","_law_dues","_law_mine","_law_rest"] (AF AZ) ["_law_at","_law_pieces_here"] (ixC [] 2) (EZ AZ 4):=csM
omit T in
theorem Fy:(["_law_at","_law_pieces_here"]:Wp Str).Nodup:=by decide+kernel
omit T in
theorem JV:AJ ["_law_book","_law_many","_law_everybody","_law_loads","_law_over","_law_takes","_law_left","_law_at","_law_load","_law_partner","_law_dues","_law_mine","_law_rest"] (AF AZ) ["_law_one","_law_two"] (ixC [] 2) (EZ AZ 5):=csM
omit T in
theorem GB:(["_law_one","_law_two"]:Wp Str).Nodup:=by decide+kernel
theorem FI:St.Dfn P w K mg base "_law_home_right" 12 ["_law_book"] (spD K 1 Cb):=by
 have B:=T.bt
 have IE:=IE P base T
 have JE:=JE P base T
 have Jo:=Jo P base T
 have IG:=IG P base T
 have Cf:=Cf P base T
 have LA:=LA P base T
 have Ml:=Ml P base T
 have Ey:=Ey P base T
 have DJ:=DJ P base T
 have J8:=J8 P base T
 refine dfM 11 T.AZ Ao λhr hu=>?_
 exact(Am (Q0 (i:=1) (j:=2) rfl Ao.nd rfl rfl (by decide) rfl rfl (B6 EL rfl B.len yd (AD (GI Mt (AH 0) BV) AO)) (nZ rfl rfl B.list rfl B.range (AD (GI Mt (GI Mt (AH 0) BV) BV) AO)))
      (Am (Q0 (i:=3) (j:=4) rfl Ao.nd rfl rfl (by decide) rfl rfl (deM IE hr (AD (AH 0) (AD (AH 1) AO))) (deM Cf hr (AD (AH 0) AO)))
      (Am (Zd (deM Jo hr (AD (AH 0) (AD (Kq Jx rfl B.tuple AAs (AD (AH 2) AO)) AO))) (Q3 rfl (Bu (EK 5 Ao.nd) (Bu (EK 6 Ao.nd) IA))))
      (Am (NY xB rfl (ZS rfl B.enumerate (AH 3)) (Q3 rfl (Bu (EK 7 Ao.nd) (Bu (EK 8 Ao.nd) IA))) (Am (J5 (G4 (IQ hu) (deM Ml hr (AD (Ie [0,7] 1 ["_law_book","_law_at","_law_partner"] rfl Jc (JS (AH 2)) (λs H fp=>⟨EK 2 J9,Ha,deM JE hr (AD (AH 0) (AD (AH 2) (AD (AH 1) AO)))⟩)) AO)) (Lk (AD (GI Mt (AH 8) BV) (AD BV AO)))) (BB (ES Kb)) Ds)
      (BB (J5 (G4 (IQ hu) (az RH (GI Mt (AH 6) (AH 7)) (deM J8 hr (AD (AH 5) (AD (AH 7) AO)))) (GI Mt (AH 8) BV)) (BB (ES Kb)) Ds))))
      (Am (J5 (G4 (IQ hu) (Ie [] 1 ["_law_load"] rfl Ji (JS (AH 4)) (λs H fp=>⟨EK 0 Jw,Ha,GI Mt (AH 0) BV⟩)) (Ie [] 1 ["_law_pieces_here"] rfl Jz (JS (AH 6)) (λs H fp=>⟨EK 0 J0,av (G4 Z7 (AH 0) BV),AH 0⟩))) (BB (ES Kb)) Ds)
      (Am (NY xB rfl (JS (AH 2)) (EK 9 Ao.nd) (Am (IZ 10 (deM Ey hr (AD (AH 0) (AD (Ie [0,9] 1 ["_law_book","_law_partner","_law_at"] rfl Jn (Ni rfl B.range (AD (B6 EL rfl B.len yd (AD (AH 3) AO)) AO)) (λs H fp=>⟨EK 2 Ju,Ha,Lk (AD (AH 2) (AD (deM JE hr (AD (AH 0) (AD (AH 1) (AD (AH 2) AO)))) AO))⟩)) AO))) Ao.nd)
      (Am (IZ 11 (deM Ey hr (AD (AH 0) (AD (Ie [] 2 ["_law_at","_law_pieces_here"] rfl Je (JS (deM IG hr (AD (AH 0) (AD (AH 9) AO)))) (λs H fp=>⟨Q3 rfl (Bu (EK 0 Fy) (Bu (EK 1 Fy) IA)),Ha,Lk (AD (AH 0) (AD (Lk (AD (AH 1) (AD BV AO))) AO))⟩)) AO))) Ao.nd)
      (Am (IZ 12 (deM DJ hr (AD (AH 4) (AD (GI Mt (GI Mt (AH 0) BV) BV) (AD (AH 9) AO)))) Ao.nd)
      (BB (J5 (G4 (IQ hu) (Ie [] 2 ["_law_one","_law_two"] rfl JV (jK rfl B.zip (AH 11) (AH 12)) (λs H fp=>⟨Q3 rfl (Bu (EK 0 GB) (Bu (EK 1 GB) IA)),Ha,deM LA hr (AD (AH 0) (AD (AH 1) AO))⟩)) (AH 10)) (BB (ES Kb)) Ds))))))
      (BB (ES Kb))))))))
theorem eP:St.Dfn P w K mg base "_law_sums" 5 ["_law_rows"] (spD K 1 HA):=dfW (N:=["_law_rows"]) 4 T.D7 scM λ_ _ _=>by
 have:AJ ["_law_rows"] (AF D7) ["_law_rows","_law_at"] (ixC [0] 1) (EZ D7 0):=csM
 have:(["_law_rows","_law_at"]:Wp Str).Nodup:=by decide+kernel
 have:AJ ["_law_rows","_law_at"] (cI (EZ D7 0) (AF D7)) ["_law_at","_law_row"] (ixC [1] 1) (EZ D7 1):=csM
 have:(["_law_at","_law_row"]:Wp Str).Nodup:=by decide+kernel
 walk_at "d T.bt Ml"
theorem De:St.Dfn P w K mg base "_law_accounts_right" 12 ["_law_book","_law_ahead","_law_later"] (spD K 3 Bf):=dfW (N:=["_law_book","_law_ahead","_law_later","_law_rows","_law_put","_law_worth","_law_gain","_law_cut","_law_stock","_law_brought","_law_one"]) 11 T.Ab scM λ_ _ _=>by
 have:AJ ["_law_book","_law_ahead","_law_later","_law_rows","_law_put","_law_worth","_law_gain","_law_cut","_law_stock","_law_brought","_law_one"] (AF Ab) ["_law_book","_law_ahead","_law_later","_law_partner"] (ixC [0,1,2] 1) (EZ Ab 0):=csM
 have:(["_law_book","_law_ahead","_law_later","_law_partner"]:Wp Str).Nodup:=by decide+kernel
 have:AJ ["_law_book","_law_ahead","_law_later","_law_rows","_law_put","_law_worth","_law_gain","_law_cut","_law_stock","_law_brought","_law_one"] (AF Ab) ["_law_pieces_here","_law_price"] (ixC [] 2) (EZ Ab 1):=csM
 have:(["_law_pieces_here","_law_price"]:Wp Str).Nodup:=by decide+kernel
 have:AJ ["_law_book","_law_ahead","_law_later","_law_rows","_law_put","_law_worth","_law_gain","_law_cut","_law_stock","_law_brought","_law_one"] (AF Ab) ["_law_ahead","_law_deed_here"] (ixC [1] 1) (EZ Ab 2):=csM
 have:(["_law_ahead","_law_deed_here"]:Wp Str).Nodup:=by decide+kernel
 have:AJ ["_law_book","_law_ahead","_law_later","_law_rows","_law_put","_law_worth","_law_gain","_law_cut","_law_stock","_law_brought","_law_one"] (AF Ab) ["_law_ahead","_law_load"] (ixC [1] 1) (EZ Ab 3):=csM
 have:(["_law_ahead","_law_load"]:Wp Str).Nodup:=by decide+kernel
 walk_at "d T.bt XS Zu LA dR eD eP"
theorem GV:St.Dfn P w K mg base "_law_prices" 2 ["_law_pen_here","_law_many"] (spD K 2 DA):=dfW (N:=["_law_pen_here","_law_many"]) 1 T.FA scM λ_ _ _=>by
 have:AJ ["_law_pen_here","_law_many"] (AF FA) ["_law_pen_here","_law_one"] (ixC [0] 1) (EZ FA 0):=csM
 have:(["_law_pen_here","_law_one"]:Wp Str).Nodup:=by decide+kernel
 walk_at "d T.bt LP"
omit T in
theorem F8:CU ["_law_pen_here","_law_book","_law_train_here","_law_first","_law_deeds","_law_state","_law_k","_law_deed_here"] ["_law_pen_here","_law_book"] (AF MH):=scM
theorem Ov:St.Dfn P w K mg base "_law_on" 12 ["_law_pen_here","_law_book"] (spD K 2 HQ):=by
 have B:=T.bt
 have HV:=HV P base T
 have LP:=LP P base T
 have Ja:=Ja P base T
 have LS:=LS P base T
 have PD:=PD P base T
 have IV:=T.IV
 have HU:=HU P base T
 refine dfM 11 T.MH F8 λhr hu=>?_
 exact(Am (gS (BB (Zd (deM HV hr (AD (AH 1) AO)) (Q3 rfl (Bu (EK 2 F8.nd) (Bu (EK 3 F8.nd) (Bu (EK 4 F8.nd) IA)))))) (bW (ff (bJ HU (hr.mono (by decide)) rfl (AD (AH 1) AO)))) (dX IV rfl (λ_=>(BB (ES WC))) fO))
      (Am (Q0 (i:=5) (j:=4) rfl F8.nd rfl rfl (by decide) rfl rfl (deM Ja hr (AD (Lk (AD (AH 2) (AD (AH 3) (AD (Lk AO) AO)))) AO)) (jB AO))
      (Am (NY xB rfl (Ni rfl B.range (AD (deM LP hr (AD (AH 0) (AD BV AO))) AO)) (EK 6 F8.nd) (Am (IZ 7 (deM LS hr (AD (AH 0) (AD (AH 2) (AD (AH 5) AO)))) F8.nd)
      (BB (J5 (G4 (IQ hu) (GI Mt (AH 7) BV) fm) (Am (Oo (deM PD hr (AD (AH 2) (AD (AH 5) (AD (AH 7) AO)))))
      (BB (Oo (jD AA9 PySem.F.type_list_append aZ (AH 4) (AD (AH 7) AO))))) Ds))))
      (BB (ES (Lk (AD (AH 2) (AD (AH 3) (AD (Kq Jx rfl B.tuple AAs (AD (AH 4) AO)) AO)))))))))
end
@[simp high] def Au{α β:Type}(a:α)(f:α->Option β):(some a).bind f=f a:=Eq.mp (congrArg (λz=>z=f a) rfl) (Eq.refl (f a))
@[simp high] def pF{α β:Type}(a:α)(f:α->β):(some a).map f=some (f a):=Eq.mp (congrArg (λz=>z=some (f a)) rfl) (Eq.refl (some (f a)))
section
variable{E:En}{S:Sto}{op:OpN}{f g c:Ev}{d:D}{i:Nat}{w:Wv}{a b e h r':D}{r:Wp D}{fs:Wp Ev}
@[simp] def uD:at? (o::E) 0=o:=rfl
@[simp] def tV:at? (o::E) (i+1)=at? E i:=rfl
@[simp] def pq:eC d E S=some (d,S):=rfl
@[simp] def qb:eV i E S=(at? E i).map λd=>(d,S):=rfl
@[simp] def b9:evs [] E S=some ([],S):=rfl
@[simp] def Dm:evs (f::fs) E S=(f E S).bind λr=>(evs fs E r.2).map λq=>(r.1::q.1,q.2):=rfl
@[simp] def W6{cf:Bool}:Px cf op fs E S=(evs fs E S).bind λr=>(op (r.1.map (dr r.2))).bind λw=>fin cf w r.2:=rfl
@[simp] def qw{cf:Bool}:fin cf (.val d) S=some (d,S):=by cases cf<;>rfl
@[simp] def tO:fin false (.own r) S=some (.lst r,S):=rfl
@[simp] def qz:fin true (.own r) S=some (.ref S.length,S++[.lst r]):=rfl
@[simp] def qN:dr S .non=.val .non:=rfl
@[simp] def sR{b:Bool}:dr S (.bl b)=.val (.bl b):=rfl
@[simp] def qW{i:Int}:dr S (.int i)=.val (.int i):=rfl
@[simp] def qR{x:Str}:dr S (.str x)=.val (.str x):=rfl
@[simp] def sT{x:String}:dr S (.ty x)=.val (.ty x):=rfl
@[simp] def qS:dr S (.tup r)=.val (.tup r):=rfl
@[simp] def pz:dr S (.lst r)=.val (.lst r):=rfl
@[simp] def pM{ns:List Int}:dr S (.scr ns)=.val (.scr ns):=rfl
def Aq{n:Nat}(h:S[n]?=Gc (.lst r)):dr S (.ref n)=.own r:=by
 show(match S[n]? with|some (.lst ds)=>Wv.own ds|_=>.val (.ref n))=_
 rw[h]
def AN{n:Nat}(h:S[n]?=Gc (.lst r)):EX S n=Gc r:=by
 unfold EX
 rw[h]
@[simp] def pv:fz (.val d)=d:=rfl
@[simp] def qY:fz (.own r)=.lst r:=rfl
noncomputable def mW(g:Ev)(E:En)(r:D×Sto):uM (D×Sto):=match r.1 with| .bl true=>g E r.2| .bl false=>Gc (.bl false,r.2)|_=>none
noncomputable def orK(g:Ev)(E:En)(r:D×Sto):uM (D×Sto):=match r.1 with| .bl false=>g E r.2| .bl true=>Gc (.bl true,r.2)|_=>none
noncomputable def pU(r:D×Sto):uM (D×Sto):=match r.1 with| .bl b=>Gc (.bl (!b),r.2)|_=>none
noncomputable def ifK(f g:Ev)(E:En)(r:D×Sto):uM (D×Sto):=match r.1 with| .bl true=>f E r.2| .bl false=>g E r.2|_=>none
@[simp] def qX:mW g E (.bl true,S)=g E S:=rfl
@[simp] def qM:mW g E (.bl false,S)=some (.bl false,S):=rfl
@[simp] def rM:orK g E (.bl false,S)=g E S:=rfl
@[simp] def rB:orK g E (.bl true,S)=some (.bl true,S):=rfl
@[simp] def qE{b:Bool}:pU (.bl b,S)=some (.bl (!b),S):=rfl
@[simp] def rQ:ifK f g E (.bl true,S)=f E S:=rfl
@[simp] def tN:ifK f g E (.bl false,S)=g E S:=rfl
@[simp] def kA:FQ f g E S=(f E S).bind (mW g E):=rfl
@[simp] def Wd:eOr f g E S=(f E S).bind (orK g E):=rfl
@[simp] def kM:Iw f E S=(f E S).bind pU:=rfl
@[simp] def nk:eIf c f g E S=(c E S).bind (ifK f g E):=rfl
@[simp] def kl:BM fs E S=(evs fs E S).bind λr=>if r.1.length<=sizeLine then some (.tup r.1,r.2)else none:=rfl
@[simp] def jy{cf:Bool}:Y7 cf fs E S=(evs fs E S).bind λr=>if r.1.length<=sizeLine then fin cf (.own r.1) r.2 else none:=rfl
@[simp] def gR{F:Fn}:AB F fs E S=(evs fs E S).bind λr=>F r.1 r.2:=rfl
noncomputable def qe(op:Mo)(fs:Wp Ev)(E:En)(r:D×Sto):uM (D×Sto):=match r.1 with
 | .ref n=>(EX r.2 n).bind λ_=>(evs fs E r.2).bind λp=>(EX p.2 n).bind λds=>(op p.2 ds p.1).map λq=>(q.1,p.2.set n (.lst q.2))
 |_=>none
@[simp] def lL{op:Mo}:qe op fs E (.ref n,S)=(EX S n).bind λ_=>(evs fs E S).bind λp=>(EX p.2 n).bind λds=>(op p.2 ds p.1).map λq=>(q.1,p.2.set n (.lst q.2)):=rfl
@[simp] def k7{op:Mo}:Nm op f fs E S=(f E S).bind (qe op fs E):=rfl
@[simp] def jo:Nq S r [d]=if r.length<sizeLine then some (.non,r++[d])else none:=rfl
variable{x y:Ex}
noncomputable def eN(y:Ex)(r:Fl×En×Sto):uM (Fl×En×Sto):=match r.1 with| .nx=>y r.2.1 r.2.2| .ret w=>Gc (.ret w,r.2)
noncomputable def nX(x y:Ex)(E:En)(r:D×Sto):uM (Fl×En×Sto):=match r.1 with| .bl true=>x E r.2| .bl false=>y E r.2|_=>none
@[simp] def Rm:eN y (.nx,E,S)=y E S:=rfl
@[simp] def kB{w:D}:eN y (.ret w,E,S)=some (.ret w,E,S):=rfl
@[simp] def pR:nX x y E (.bl true,S)=x E S:=rfl
@[simp] def qC:nX x y E (.bl false,S)=y E S:=rfl
@[simp] def TC:AQ x y E S=(x E S).bind (eN y):=rfl
@[simp] def kW:Bc E S=some (.nx,E,S):=rfl
@[simp] def VR:xIf c x y E S=(c E S).bind (nX x y E):=rfl
@[simp] def jw:Ac f E S=(f E S).map λr=>(.ret r.1,E,r.2):=rfl
@[simp] def Yk:A9 i f E S=(f E S).map λr=>(.nx,E.set i (some r.1),r.2):=rfl
@[simp] def WL:Bi f E S=(f E S).map λr=>(.nx,E,r.2):=rfl
noncomputable def qQ(d b:D)(E:En)(i:D×Sto):uM (Fl×En×Sto):=match b,i.1 with
 | .ref n,.int j=>(EX i.2 n).bind λds=>(ixN ds.length j).map λm=>(.nx,E,i.2.set n (.lst (ds.set m d)))
 |_,_=>none
@[simp] def ky:qQ d (.ref n) E (.int j,S)=(EX S n).bind λds=>(ixN ds.length j).map λm=>(.nx,E,S.set n (.lst (ds.set m d))):=rfl
@[simp] def jz{k o:Ev}:Lw k f o E S=(k E S).bind λr=>(f E r.2).bind λb=>(o E b.2).bind (qQ r.1 b.1 E):=rfl
@[simp] def kK{t:Tf}:Hi t f E S=(f E S).bind λr=>(t r.1 E r.2).map λE'=>(.nx,E',r.2):=rfl
@[simp] def lE{i j:Nat}:Np i j f g E S=(f E S).bind λr=>(g E r.2).map λq=>(.nx,(E.set i (some r.1)).set j (some q.1),q.2):=by
  unfold Np
  rw[Dm]
  cases f E S with
  |none=>rfl
  |some r=>
   rw[Au,Au,Dm]
   cases g E r.2 with
   |none=>rfl
   |some q=>rfl
@[simp] def dc:tNm i d E S=some (E.set i (some d)):=rfl
@[simp] def mv:tTp ts (.tup ds) E S=tMs ts ds E S:=rfl
@[simp] def mJ:tTp ts (.lst ds) E S=tMs ts ds E S:=rfl
@[simp] def nW:tTp ts (.ref n) E S=(EX S n).bind λds=>tMs ts ds E S:=rfl
@[simp] def mE:tMs [] [] E S=some E:=rfl
@[simp] def kX:tMs (t::ts) (d::ds) E S=(t d E S).bind λE1=>tMs ts ds E1 S:=rfl
@[simp] def ir:AW (AY N x) ds S=(x (ds.map some++List.replicate (N-ds.length) none) S).map λr=>(flD r.1,r.2.2):=by rw[O3];rfl
@[simp] def pO:flD .nx=.non:=rfl
@[simp] def nE:flD (.ret d)=d:=rfl
@[simp] def mU{i j:Int}:Cr (.val (.int i)) (.val (.int j))=some (.val (.int (i+j))):=rfl
@[simp] def mB{xs ys:List D}:Cr (.val (.lst xs)) (.val (.lst ys))=if xs.length+ys.length<=sizeLine then some (.own (xs++ys))else none:=rfl
@[simp] def jx{i j:Int}:BH (.val (.int i)) (.val (.int j))=if C8 i j=true then some (.val (.int (i*j)))else none:=rfl
@[simp] def kz{k:Int}:BH (.val (.tup r)) (.val (.int k))=if(!r.isEmpty && decide (k<=0) && decide (-(2^63)<=k))=true then some (.val (.tup []))else if(!r.isEmpty && decide (1<=k) && decide (r.length*k.toNat<=sizeLine))=true then some (.val (.tup (List.replicate k.toNat r).flatten))else none:=rfl
@[simp] def Kr{k:Int}:BH (.val (.lst r)) (.val (.int k))=if(decide (k<2^63) && decide (-(2^63)<=k) && decide (r.length*k.toNat<=sizeLine))=true then some (.own (List.replicate k.toNat r).flatten)else none:=rfl
@[simp] def my:asS (.own r)=some r:=rfl
@[simp] def m9:asS (.val (.lst r))=some r:=rfl
@[simp] def nK:asS (.val (.tup r))=some r:=rfl
@[simp] def lW{ns:List Int}:asS (.val (.scr ns))=some (ns.map .int):=rfl
@[simp] def VL{j:Int}:wIx w (.val (.int j))=(asS w).bind λds=>(atI ds j).map .val:=rfl
def BU{n:Nat}{x:α}(h:xs[n]?=Gc x):atI xs (n:Int)=Gc x:=dU h
def Zs{xs:Wp α}{i:Int}(h0:0<=i)(h1:i<xs.length):atI xs i=Gc (xs[i.toNat]'(by lia)):=by
 have:atI xs ((i.toNat:Nat):Int)=Gc (xs[i.toNat]'(by lia)):=BU (uN (by lia))
 rwa [vQ h0]at this
@[simp] def sX:atI (a::r) 0=some a:=BU (n:=0) rfl
@[simp] def sV:atI (a::b::r) 1=some b:=BU (n:=1) rfl
@[simp] def sM:atI (a::b::e::r) 2=some e:=BU (n:=2) rfl
@[simp] def rK:atI (a::b::e::h::r) 3=some h:=BU (n:=3) rfl
@[simp] def sA{k:D}:atI (a::b::e::h::k::r) 4=some k:=BU (n:=4) rfl
@[simp] def sY{k l:D}:atI (a::b::e::h::k::l::r) 5=some l:=BU (n:=5) rfl
def Ic{n k:Nat}(h:k<n):ixN n (k:Int)=Gc k:=by
 unfold ixN
 simp
 lia
def Tj{n:Nat}{i:Int}(h0:0<=i)(h1:i<n):ixN n i=Gc i.toNat:=by
 have:=Ic (n:=n) (k:=i.toNat) (by lia)
 rwa [vQ h0]at this
@[simp] def qu{n:Nat}:ixN (n+1) 0=some 0:=Tj (by decide) (by lia)
@[simp] def sx{n:Nat}:ixN (n+2) 1=some 1:=Tj (by decide) (by lia)
@[simp] def tK{n:Nat}:ixN (n+3) 2=some 2:=Tj (by decide) (by lia)
@[simp] def qg{i j:Int}:deq (.int i) (.int j)=(i==j):=rfl
@[simp] def nH{i j:Int}:Lb (.int i) (.int j)=true:=rfl
@[simp] def oG{w':Wv}:wEq w w'=if Lb (fz w) (fz w')=true then some (.val (.bl (deq (fz w) (fz w'))))else none:=rfl
@[simp] def oO{w':Wv}:wNe w w'=if Lb (fz w) (fz w')=true then some (.val (.bl (!deq (fz w) (fz w'))))else none:=rfl
@[simp] def pE{i j:Int}:wLt (.val (.int i)) (.val (.int j))=some (.val (.bl (decide (i<j)))):=rfl
@[simp] def l9{i j:Int}:wLe (.val (.int i)) (.val (.int j))=some (.val (.bl (decide (i<=j)))):=rfl
@[simp] def pB{i j:Int}:wGt (.val (.int i)) (.val (.int j))=some (.val (.bl (decide (j<i)))):=rfl
@[simp] def oJ{i j:Int}:wGe (.val (.int i)) (.val (.int j))=some (.val (.bl (decide (j<=i)))):=rfl
@[simp] def lM{i j:Int}:Pw (.val (.int i)) (.val (.int j))=some (.val (.int (i-j))):=rfl
@[simp] def kT{i:Int}:Zp (.val (.int i))=some (.val (.int (-i))):=rfl
@[simp] def ke{i j:Int}:RB (.val (.int i)) (.val (.int j))=(if 0<j then some (.val (.int (i % j)))else none):=by
  show ABj Wv.val (if 0<j then Gc (D.int (i % j))else none)=_
  split<;>rfl
@[simp] def jZ{i j:Int}:Nv (.val (.int i)) (.val (.int j))=(if(decide (0<j) && decide (j.natAbs<F6))=true then some (.val (.int (i / j)))else none):=by
  show ABj Wv.val (if(decide (0<j) && decide (j.natAbs<F6))=true then Gc (D.int (i / j))else none)=_
  split<;>rfl
@[simp] def kv{i j:Int}:jv (.val (.int i)) (.val (.int j))=if(decide (0<=j) && decide (j<=1000) && decide (i.natAbs<2^64))=true then some (.val (.int (i^j.toNat)))else none:=by
  show ABj Wv.val (if(decide (0<=j) && decide (j<=1000) && decide (i.natAbs<2^64))=true then Gc (D.int (i^j.toNat))else none)=_
  split<;>rfl
@[simp] def j7{i:Int}:eM (.val (.int i))=some (.val (.int (i.natAbs:Int))):=by
  show Gc (Wv.val (D.int (if i<0 then-i else i)))=_
  congr 3
  split<;>lia
@[simp] def kH:EB (.own r)=some (.val (.int r.length)):=rfl
@[simp] def kD:EB (.val (.lst r))=some (.val (.int r.length)):=rfl
@[simp] def lH:EB (.val (.tup r))=some (.val (.int r.length)):=rfl
@[simp] def lF{ns:List Int}:EB (.val (.scr ns))=some (.val (.int ns.length)):=by
  show Gc (Wv.val (D.int ((ns.map D.int).length:Nat)))=_
  rw[ux]
@[simp] def eF:Br w=(asS w).map λds=>.val (.tup ds):=rfl
@[simp] def jF:N5 w=(asS w).map λds=>.own ds:=rfl
@[simp] def qh{b:Bool}:ak (.val (.bl b))=some (.val (.int (if b then 1 else 0))):=rfl
@[simp] def kQ{i j:Int}:kE (.val (.int i)) (.val (.int j))=some (.val (.int (if j>i then j else i))):=rfl
@[simp] def kZ{i j:Int}:eL (.val (.int i)) (.val (.int j))=some (.val (.int (if j<i then j else i))):=rfl
@[simp] def kY{T:String}:Ro w (.val (.ty T))=if Ql T=true then(kdW w).map λk=>.val (.bl (k.isA T))else none:=rfl
@[simp] def mH:Ql "int"=true:=by decide
@[simp] def jm:Ql "bool"=true:=by decide
@[simp] def gG:Ql "tuple"=true:=by decide
@[simp] def oM:Ql "str"=true:=by decide
@[simp] def ju:XO (.val (.lst r))=(bls r).map λbs=>.val (.bl (bs.all id)):=rfl
def AK{n:Nat}(h:n<=1000):n<=sizeLine:=uH h (by decide)
@[simp] def sz1:(1:Nat)<=sizeLine:=AK (by decide)
@[simp] def sz2:(2:Nat)<=sizeLine:=AK (by decide)
@[simp] def sz3:(3:Nat)<=sizeLine:=AK (by decide)
@[simp] def sz4:(4:Nat)<=sizeLine:=AK (by decide)
@[simp] def sz5:(5:Nat)<=sizeLine:=AK (by decide)
@[simp] def sz6:(6:Nat)<=sizeLine:=AK (by decide)
@[simp] def Fm:Ai E S=some (.bl true,S):=rfl
@[simp] def lC{b:Ex}:Ht s t b E S=(s E S).bind λr=>Jj r.1.2 t b r.1.1 E r.2:=rfl
@[simp] def AI:gOk [] S:=λ_ h=>(nomatch h)
def Fe{b:Ex}(h:gOk gs S):Jj gs t b [] E S=Gc (.nx,E,S):=by
 unfold Jj
 rw[vF h]
def VY {b:Ex}(h:gOk gs S):Jj gs t b (d::ds) E S=(t d E S).bind λE1=>(b E1 S).bind λr=>match r.1 with
    | .nx => Jj gs t b ds r.2.1 r.2.2
    | .ret w=>Gc (.ret w,r.2):=by
  rw [Jj, vF h]
  all_goals rfl
def DO{b:Ex}(h:gOk gs S):Jj gs t b (d::ds) E S=(t d E S).bind λE1=>(b E1 S).bind (eN (Jj gs t b ds)):=by
 rw[VY h]
 rfl
@[simp] def kF:DY f E S=(f E S).bind λr=>(sqD r.2 r.1).map λp=>(p,r.2):=rfl
@[simp] def m8:sqD S (.tup r)=some (r,[]):=rfl
@[simp] def lh:sqD S (.lst r)=some (r,[]):=rfl
def C7{n:Nat}(h:S[n]?=Gc (.lst r)):sqD S (.ref n)=Gc (r,[(n,r)]):=by
 show(EX S n).map (λds=>(ds,[(n,ds)]))=_
 rw[AN h]
 rfl
@[simp] def j4:XU f E S=(f E S).bind λr=>(sqD r.2 r.1).map λp=>((Nr 0 p.1,p.2),r.2):=rfl
@[simp] def kh:Q7 f g E S=(f E S).bind λr=>(g E r.2).bind λq=>(sqD q.2 r.1).bind λa=>(sqD q.2 q.1).map λb=>((JC a.1 b.1,a.2++b.2),q.2):=by
  unfold Q7
  rw[Dm]
  cases f E S with
  |none=>rfl
  |some r=>
   rw[Au,Au,Dm]
   cases g E r.2 with
   |none=>rfl
   |some q=>rfl
noncomputable def Ge(j:Int):va:=decide (-(2^62)<=j) && decide (j<2^62)
def Bw{j:Int}(h: -1000000<=j)(g:j<=1000000):Ge j=true:=by
 unfold Ge
 rw[uW]
 exact⟨xM (by lia),xM (by lia)⟩
noncomputable def pV(S:Sto):D->uM ((Wp D×Gd)×Sto)
 | .int j=>if Ge j=true then Gc ((Jd 0 j.toNat,[]),S)else none
 |_=>none
@[simp] def kI{j:Int}:pV S (.int j)=if Ge j=true then some ((Jd 0 j.toNat,[]),S)else none:=rfl
@[simp] def kG:Kk [f] E S=(f E S).bind λr=>pV r.2 r.1:=by
  unfold Kk
  rw[Dm]
  cases f E S with
  |none=>rfl
  |some r=>
   obtain⟨d,S1⟩:=r
   rw[Au,b9,pF,Au,Au]
   cases d<;>rfl
@[simp] def gN:Oh cf cap m s t c f E S=(s E S).bind λr=>(BA r.1.2 t c f r.1.1 [] (MB cap m E) r.2).bind λq=>fin cf (.own q.1) q.2:=rfl
@[simp] def jt:MB cap m E=cap.map (at? E)++List.replicate m none:=rfl
theorem Mr{α:Type}(p:α->va):∀xs:Wp α,bls (xs.map λx=>.bl (p x))=Gc (xs.map p)
 | []=>rfl
 |x::xs=>by
  have ih:=Mr p xs
  unfold bls at ih⊢
  rw[uV,z8,ih]
  rfl
@[simp] def UW{i:Int}:Jh (.int i::r)=(Jh r).map λns=>i::ns:=by
  unfold Jh
  rw[z8]
  show(do let r1<-Gc i;let rs<-List.mapM intD r;pure (r1::rs))=_
  cases List.mapM intD r<;>rfl
theorem CF:∀(ns:Wp Int),Jh (ns.map D.int)=Gc ns
 | []=>rfl
 |n::ns=>by rw[uV,UW,CF ns];rfl
@[simp] def kO:Od (.own r)=(Jh r).map λns=>.val (.int ns.sum):=rfl
@[simp] def ku:Od (.val (.lst r))=(Jh r).map λns=>.val (.int ns.sum):=rfl
@[simp] def pS:Wj false w (.val .non)=some (.val (.bl (isN w))):=rfl
@[simp] def qK:Wj true w (.val .non)=some (.val (.bl (!isN w))):=rfl
@[simp] def rG{i:Int}:N8 true false [w,.val (.int i)]=wSl (some i) none w:=rfl
@[simp] def sk{i:Int}:N8 false true [w,.val (.int i)]=wSl none (some i) w:=rfl
@[simp] def rA{i j:Int}:N8 true true [w,.val (.int i),.val (.int j)]=wSl (some i) (some j) w:=rfl
@[simp] def nF{lo hi:Option Int}:wSl lo hi (.val (.tup r))=some (.val (.tup (Nt r lo hi))):=rfl
end
structure Bh(A:Wp Nat)(S S':Sto):Prop where
 len:S.length<=S'.length
 keep:∀n,n<S.length->n∉A->S'[n]?=S[n]?
def Bh.refl:Bh A S S:=⟨uP _,λ_ _ _=>rfl⟩
def Bh.trans(h:Bh A S S')(g:Bh A S' S2):Bh A S S2:=⟨uH h.len g.len,λn hn ha=>(g.keep n (uI hn h.len) ha).trans (h.keep n hn ha)⟩
def Bh.mono(h:Bh A S S')(s:∀n∈A,n∈B):Bh B S S':=⟨h.len,λn hn hb=>h.keep n hn λz=>hb (s n z)⟩
def Bh.get(h:Bh A S S')(e:S[n]?=Gc c)(ha:n∉A):S'[n]?=Gc c:=by
 rw[h.keep n (uU.mp e).1 ha];exact e
def Bh.app:Bh A S (S++T):=⟨by simp,λn hn _=>uK hn⟩
def Bh.set(h:n∈A):Bh A S (S.set n c):=⟨by simp,λm hm ha=>uQ (λz=>ha (by rw[<-z];exact h))⟩
def Bh.new(h:Bh A S S')(g:Bh (A++B) S' S2)(hb:∀n∈B,S.length<=n):Bh A S S2:=⟨uH h.len g.len,λn hn ha=>(g.keep n (uI hn h.len) (λz=>by
 rcases vH.mp z with z|z
 .exact ha z
 .have:=hb n z;lia)).trans (h.keep n hn ha)⟩
def AV{S:Sto}(h:S[n]?=Gc c):n<S.length:=(uU.mp h).1
section
variable{E:En}{S:Sto}
@[simp high] def lQ{op:Op1}:Px cf (o1 op) [f] E S=(f E S).bind λr=>(op (dr r.2 r.1)).bind λw=>fin cf w r.2:=by
  rw[W6,Dm];cases f E S<;>rfl
@[simp high] def Xf{op:Op2}:Px cf (o2 op) [f,g] E S=(f E S).bind λr=>(g E r.2).bind λq=>(op (dr q.2 r.1) (dr q.2 q.1)).bind λw=>fin cf w q.2:=by
  rw[W6,Dm]
  cases f E S with
  |none=>rfl
  |some r=>rw[Au,Au,Dm];cases g E r.2<;>rfl
def pQ:evs [f] E S=(f E S).bind λr=>Gc ([r.1],r.2):=by rw[Dm];cases f E S<;>rfl
def pX:evs [f,g] E S=(f E S).bind λr=>(g E r.2).bind λq=>Gc ([r.1,q.1],q.2):=by
 rw[Dm];cases f E S with
 |none=>rfl
 |some r=>rw[Au,Au,pQ];cases g E r.2<;>rfl
def qU:evs [f,g,h] E S=(f E S).bind λr=>(g E r.2).bind λq=>(h E q.2).bind λu=>Gc ([r.1,q.1,u.1],u.2):=by
 rw[Dm];cases f E S with
 |none=>rfl
 |some r=>rw[Au,Au,pX];cases g E r.2 with
  |none=>rfl
  |some q=>rw[Au,Au];cases h E q.2<;>rfl
def qp:evs [f,g,h,k] E S=(f E S).bind λr=>(g E r.2).bind λq=>(h E q.2).bind λu=>(k E u.2).bind λv=>Gc ([r.1,q.1,u.1,v.1],v.2):=by
 rw[Dm];cases f E S with
 |none=>rfl
 |some r=>rw[Au,Au,qU];cases g E r.2 with
  |none=>rfl
  |some q=>rw[Au,Au];cases h E q.2 with
   |none=>rfl
   |some u=>rw[Au,Au];cases k E u.2<;>rfl
@[simp high] def qm:evs [f] E S=(f E S).bind λr=>some ([r.1],r.2):=pQ
@[simp high] def rH:evs [f,g] E S=(f E S).bind λr=>(g E r.2).bind λq=>some ([r.1,q.1],q.2):=pX
@[simp high] def sr:evs [f,g,h] E S=(f E S).bind λr=>(g E r.2).bind λq=>(h E q.2).bind λu=>some ([r.1,q.1,u.1],u.2):=qU
@[simp high] def sL:evs [f,g,h,k] E S=(f E S).bind λr=>(g E r.2).bind λq=>(h E q.2).bind λu=>(k E u.2).bind λv=>some ([r.1,q.1,u.1,v.1],v.2):=qp
@[simp high] def tq{d:D}:eV 0 (some d::E) S=some (d,S):=rfl
@[simp high] def tY:eV 1 (o0::some d::E) S=some (d,S):=rfl
@[simp high] def tZ{o0 o1:Option D}:eV 2 (o0::o1::some d::E) S=some (d,S):=rfl
@[simp high] def tW{o0 o1 o2:Option D}:eV 3 (o0::o1::o2::some d::E) S=some (d,S):=rfl
@[simp high] def uE{o0 o1 o2 o3:Option D}:eV 4 (o0::o1::o2::o3::some d::E) S=some (d,S):=rfl
@[simp high] def tw{o0 o1 o2 o3 o4:Option D}:eV 5 (o0::o1::o2::o3::o4::some d::E) S=some (d,S):=rfl
@[simp high] def uC{o0 o1 o2 o3 o4 o5:Option D}:eV 6 (o0::o1::o2::o3::o4::o5::some d::E) S=some (d,S):=rfl
@[simp high] def tT{o0 o1 o2 o3 o4 o5 o6:Option D}:eV 7 (o0::o1::o2::o3::o4::o5::o6::some d::E) S=some (d,S):=rfl
@[simp high] def tU{o0 o1 o2 o3 o4 o5 o6 o7:Option D}:eV 8 (o0::o1::o2::o3::o4::o5::o6::o7::some d::E) S=some (d,S):=rfl
@[simp high] def tP{o0 o1 o2 o3 o4 o5 o6 o7 o8:Option D}:eV 9 (o0::o1::o2::o3::o4::o5::o6::o7::o8::some d::E) S=some (d,S):=rfl
@[simp high] def sH{o0 o1 o2 o3 o4 o5 o6 o7 o8 o9:Option D}:eV 10 (o0::o1::o2::o3::o4::o5::o6::o7::o8::o9::some d::E) S=some (d,S):=rfl
@[simp high] def sG{o0 o1 o2 o3 o4 o5 o6 o7 o8 o9 o10:Option D}:eV 11 (o0::o1::o2::o3::o4::o5::o6::o7::o8::o9::o10::some d::E) S=some (d,S):=rfl
@[simp high] def sC{o0 o1 o2 o3 o4 o5 o6 o7 o8 o9 o10 o11:Option D}:eV 12 (o0::o1::o2::o3::o4::o5::o6::o7::o8::o9::o10::o11::some d::E) S=some (d,S):=rfl
@[simp high] def rT{o0 o1 o2 o3 o4 o5 o6 o7 o8 o9 o10 o11 o12:Option D}:eV 13 (o0::o1::o2::o3::o4::o5::o6::o7::o8::o9::o10::o11::o12::some d::E) S=some (d,S):=rfl
@[simp 20000] def pK:Px cf (o2 op) [f,eC d] E S=(f E S).bind λr=>(op (dr r.2 r.1) (dr r.2 d)).bind λw=>fin cf w r.2:=by
  rw[Xf];cases f E S<;>rfl
@[simp high] def kP:AQ (A9 i f) y E S=(f E S).bind λr=>y (E.set i (some r.1)) r.2:=by
  rw[TC,Yk];cases f E S<;>rfl
@[simp high] def kf{y:Ex}:AQ (Bi f) y E S=(f E S).bind λr=>y E r.2:=by
  rw[TC,WL];cases f E S<;>rfl
end
section
def mulL(h: -18446744073709551616<i)(g:i<18446744073709551616):C8 i j=true:=by
 unfold C8
 rw[vt]
 exact .inl (xM (by lia))
def mulR(h: -18446744073709551616<j)(g:j<18446744073709551616):C8 i j=true:=by
 unfold C8
 rw[vt,vt]
 exact .inr (.inl (xM (by lia)))
def C4(h:n<2^k)(hk:k<=8000):n<F6:=uI h (uz (by decide) hk)
def D8{n:Int}(h0:0<n)(h1:n<1152921504606846976):n.natAbs<F6:=C4 (k:=60) (show n.natAbs<2^60 by lia) (by decide)
variable{S:Sto}
noncomputable def Oi(a b:Int):Int:=((zX a.natAbs b.natAbs:Nat):Int)
theorem My:Hy c b (k+1) E S=(c E S).bind λr=>match r.1 with
 | .bl true=>(b E r.2).bind λp=>match p.1 with
   | .nx=>Hy c b k p.2.1 p.2.2
   | .ret w=>Gc (.ret w,p.2)
 | .bl false=>Gc (.nx,E,r.2)
 |_=>none:=rfl
def SD(e1:c E S=Gc (.bl true,S1))(e2:b E S1=Gc (.nx,E2,S2)):Hy c b (k+1) E S=Hy c b k E2 S2:=by
 rw[My,e1]
 show(b E S1).bind _=_
 rw[e2]
 rfl
def SG(e1:c E S=Gc (.bl false,S1)):Hy c b (k+1) E S=Gc (.nx,E,S1):=by
 rw[My,e1]
 rfl
theorem Sk:∀k (x y:Nat),y<k->Hy (eOp (o2 wNe) [eV 1,eC (.int 0)]) (Np 0 1 (eV 1) (eOp (o2 RB) [eV 0,eV 1])) k [Gc (.int x),Gc (.int y)] S=Gc (.nx,[Gc (.int (zX x y:Nat)),Gc (.int 0)],S)
 |0,x,y,h=>absurd h (Nat.not_lt_zero _)
 |k+1,x,y,h=>by
  by_cases hy:y=0
  .subst hy
   rw[SG (S1:=S) (by simp)]
   simp
  .have hy2:(((y:Nat):Int)==0)=false:=by simpa using hy
   have ih:=Sk k y (x % y) (by have:=Nat.mod_lt x (yC hy);lia)
   rw[show((x % y:Nat):Int)=(x:Int) % (y:Int) by lia]at ih
   have hy4:0<y:=yC hy
   rw[SD (S1:=S) (S2:=S) (E2:=[Gc (.int y),Gc (.int ((x:Int) % (y:Int)))]) (by simp[hy2]) (by simp[hy4]),ih]
   rw[AAt x y,Nat.gcd_rec y x,AAt]
def aG a b:Be [.int a,.int b] S=Gc (.int (Oi a b),S):=by
 have:=Sk (S:=S) (b.natAbs+2) a.natAbs b.natAbs (by lia)
 simp[Be,FR,Qc,XI,this,Oi]
theorem Md:∀k (x y:Nat),y<k->Hy (eOp (o2 wGt) [eV 1,eC (.int 0)]) (Np 0 1 (eV 1) (eOp (o2 RB) [eV 0,eV 1])) k [Gc (.int x),Gc (.int y)] S=Gc (.nx,[Gc (.int (zX x y:Nat)),Gc (.int 0)],S)
 |0,x,y,h=>absurd h (Nat.not_lt_zero _)
 |k+1,x,y,h=>by
  by_cases hy:y=0
  .subst hy
   rw[SG (S1:=S) (by simp)]
   simp
  .have ih:=Md k y (x % y) (by have:=Nat.mod_lt x (yC hy);lia)
   rw[show((x % y:Nat):Int)=(x:Int) % (y:Int) by lia]at ih
   have hy4:0<y:=yC hy
   rw[SD (S1:=S) (S2:=S) (E2:=[Gc (.int y),Gc (.int ((x:Int) % (y:Int)))]) (by simp[hy4]) (by simp[hy4]),ih]
   rw[AAt x y,Nat.gcd_rec y x,AAt]
def VV a b(ha:0<=a)(hb:0<=b):GX [.int a,.int b] S=Gc (.int (Oi a b),S):=by
 have:=Md (S:=S) (b.natAbs+2) a.natAbs b.natAbs (by lia)
 have e1:((a.natAbs:Nat):Int)=a:=by lia
 have e2:((b.natAbs:Nat):Int)=b:=by lia
 rw[e1,e2]at this
 simp[GX,L5,Qc,XI,this,Oi]
noncomputable def lowP(t b:Int):Int×Int:=(t / Oi t b,b / Oi t b)
def Ss(h:0<b):0<Oi t b:=by
 unfold Oi
 have:0<zX t.natAbs b.natAbs:=Nat.gcd_pos_of_pos_right _ (by lia)
 lia
def Vz(h:0<b):(Oi t b).natAbs<=b.natAbs:=by
 unfold Oi
 have:zX t.natAbs b.natAbs<=b.natAbs:=Nat.gcd_le_right _ (by lia)
 lia
noncomputable def amD(p:Int×Int):D:=.tup [.int p.1,.int p.2]
def Ke(h:0<b)(hb:b.natAbs<F6):Ck [.int t,.int b] S=Gc (amD (lowP t b),S):=by
 have h1:=Ss (t:=t) h
 have h2:(Oi t b).natAbs<F6:=ug (Vz h) hb
 simp[Ck,Oa,aG,h1,h2,amD,lowP]
def YG:Oi (t.natAbs:Int) b=Oi t b:=by
 unfold Oi
 rw[v3]
def Ry(h:0<b)(hb:b.natAbs<F6):Bo [.int t,.int b] S=Gc (amD (lowP t b),S):=by
 have h1:=Ss (t:=t) h
 have h2:(Oi t b).natAbs<F6:=ug (Vz h) hb
 have h3:=VV (S:=S) (t.natAbs:Int) b (by lia) (by lia)
 rw[YG]at h3
 simp[Bo,Of,h3,h1,h2,amD,lowP]
noncomputable def aD(q:Rat):D:=.tup [.int q.num,.int q.den]
def Sz(k:Nat)(q:Rat):Prop:=q.num.natAbs<2^k/\q.den<2^k
def DH q:(q.num:Rat) / (q.den:Rat)=q:=by
 rw[<-Rat.mkRat_eq_div,Rat.mkRat_self]
def Hf(q:Rat):(q.den:Rat)≠0:=by
 have:=q.den_nz
 exact_mod_cast this
def NO(t:Int)(n:Nat)(h:0<n):((t:Rat) / (n:Rat)).num=t / (zX t.natAbs n:Nat)/\((t:Rat) / (n:Rat)).den=n / zX t.natAbs n:=by
 have e:(t:Rat) / (n:Rat)=mkRat t n:=by rw[Rat.mkRat_eq_div]
 rw[e,Rat.mkRat_def,dif_neg (by lia),Rat.normalize_eq]
 exact⟨rfl,rfl⟩
def IT(h:0<b):amD (lowP t b)=aD ((t:Rat) / (b:Rat)):=by
 obtain⟨n,rfl⟩:∃n:Nat,b=n:=⟨b.natAbs,by lia⟩
 obtain⟨h1,h2⟩:=NO t n (by lia)
 unfold amD aD lowP Oi
 rw[show(((n:Nat):Int):Rat)=((n:Nat):Rat)from rfl,h1,h2]
 simp
def Kh{t b:Int}(h:0<b)(ht:t.natAbs<2^k)(hb:b.natAbs<2^k):Sz k ((t:Rat) / (b:Rat)):=by
 obtain⟨n,rfl⟩:∃n:Nat,b=n:=⟨b.natAbs,by lia⟩
 obtain⟨h1,h2⟩:=NO t n (by lia)
 unfold Sz
 rw[show(((n:Nat):Int):Rat)=((n:Nat):Rat)from rfl,h1,h2]
 exact⟨ug (AAD _ _) ht,ug (Nat.div_le_self _ _) (by simpa using hb)⟩
def Ap(ha:a<2^j)(hb:b<2^k):a*b<2^(j+k):=by
 rw[zK]
 exact Nat.mul_lt_mul'' ha hb
def HM(hi:i.natAbs<2^k)(hj:j.natAbs<2^m)(h:k<=60000)(g:m<=60000):C8 i j=true:=by
 unfold C8
 rw[vt,vt,uW]
 exact .inr (.inr ⟨xM (uI hi (uz (by decide) h)),xM (uI hj (uz (by decide) g))⟩)
def Sz.mono(h:Sz k q)(g:k<=m):Sz m q:=by
 have:=uz (n:=2) (by decide) g
 exact⟨by have:=h.1;lia,by have:=h.2;lia⟩
def den_pos(q:Rat):0<(q.den:Int):=by have:=q.den_pos;lia
def au{x:Int}(h:x.natAbs<2^n)(g:n<=m):x.natAbs<2^m:=uI h (uz (by decide) g)
def EA(hp:Sz j p)(hq:Sz k q):(p.num*q.den+q.num*p.den).natAbs<2^(j+k+1)/\((p.den:Int)*q.den).natAbs<2^(j+k)/\(p.num*q.den-q.num*p.den).natAbs<2^(j+k+1):=by
 have a1:=Ap hp.1 hq.2
 have a2:=Ap hq.1 hp.2
 have a3:=Ap hp.2 hq.2
 rw[zU k j]at a2
 have e:2^(j+k+1)=2^(j+k)+2^(j+k):=by rw[AAu];lia
 refine⟨?_,?_,?_⟩
 .refine ug (AAO _ _) ?_
  rw[wt,wt,v3,v3,e]
  lia
 .rw[wt,v3,v3];exact a3
 .refine ug (AAP _ _) ?_
  rw[wt,wt,v3,v3,e]
  lia
def PK:(((p.num*q.den+q.num*p.den:Int):Rat) / (((p.den:Int)*q.den:Int):Rat))=p+q:=by
 have h1:=DH p;have h2:=DH q
 have d1:=Hf p;have d2:=Hf q
 push_cast
 grind
def TF:(((p.num*q.den-q.num*p.den:Int):Rat) / (((p.den:Int)*q.den:Int):Rat))=p-q:=by
 have h1:=DH p;have h2:=DH q
 have d1:=Hf p;have d2:=Hf q
 push_cast
 grind
def NL:(((p.num*q.num:Int):Rat) / (((p.den:Int)*q.den:Int):Rat))=p*q:=by
 have h1:=DH p;have h2:=DH q
 have d1:=Hf p;have d2:=Hf q
 push_cast
 grind
def Zl(hp:Sz j p)(hq:Sz k q):Sz (j+k+1) (p+q):=by
 rw[<-PK]
 have:=EA hp hq
 exact Kh (vi (den_pos _) (den_pos _)) this.1 (au this.2.1 (by lia))
def aH(hp:Sz j p)(hq:Sz k q):Sz (j+k+1) (p-q):=by
 rw[<-TF]
 have:=EA hp hq
 exact Kh (vi (den_pos _) (den_pos _)) this.2.2 (au this.2.1 (by lia))
def ON(hp:Sz j p)(hq:Sz k q):Sz (j+k) (p*q):=by
 rw[<-NL]
 have:=EA hp hq
 exact Kh (vi (den_pos _) (den_pos _)) (by rw[wt];exact Ap hp.1 hq.1) this.2.1
def OX(hp:Sz j p)(hq:Sz k q)(hj:j+k<=7990):C8 p.num q.den=true/\C8 q.num p.den=true/\C8 p.den q.den=true/\C8 p.num q.num=true:=by
 refine⟨HM hp.1 (by simpa using hq.2) (by lia) (by lia),HM hq.1 (by simpa using hp.2) (by lia) (by lia),HM (by simpa using hp.2) (by simpa using hq.2) (by lia) (by lia),HM hp.1 hq.1 (by lia) (by lia)⟩
def Wr(hp:Sz j p)(hq:Sz k q)(hj:j+k<=7990):EO [aD p,aD q] S=Gc ((aD (p+q)),S):=by
 obtain⟨m1,m2,m3,m4⟩:=OX hp hq (by lia)
 have b:=EA hp hq
 have l:=Ke (S:=S) (t:=p.num*q.den+q.num*p.den) (b:=p.den*q.den) (vi (den_pos _) (den_pos _)) (C4 b.2.1 (by lia))
 rw[IT (vi (den_pos _) (den_pos _)),PK]at l
 simp only[aD]at l⊢
 simp[EO,TL,m1,m2,m3,l]
def b0(hp:Sz j p)(hq:Sz k q)(hj:j+k<=7990):Dq [aD p,aD q] S=Gc ((aD (p-q)),S):=by
 obtain⟨m1,m2,m3,m4⟩:=OX hp hq (by lia)
 have b:=EA hp hq
 have l:=Ke (S:=S) (t:=p.num*q.den-q.num*p.den) (b:=p.den*q.den) (vi (den_pos _) (den_pos _)) (C4 b.2.1 (by lia))
 rw[IT (vi (den_pos _) (den_pos _)),TF]at l
 simp only[aD]at l⊢
 simp[Dq,SH,m1,m2,m3,l]
def NU(hp:Sz j p)(hq:Sz k q)(hj:j+k<=7990):BJ [aD p,aD q] S=Gc ((aD (p*q)),S):=by
 obtain⟨m1,m2,m3,m4⟩:=OX hp hq (by lia)
 have b:=EA hp hq
 have l:=Ke (S:=S) (t:=p.num*q.num) (b:=p.den*q.den) (vi (den_pos _) (den_pos _)) (C4 b.2.1 (by lia))
 rw[IT (vi (den_pos _) (den_pos _)),NL]at l
 simp only[aD]at l⊢
 simp[BJ,P0,m3,m4,l]
def H0(hp:Sz j p)(hq:Sz k q)(hj:j+k<=7990):Ak [aD p,aD q] S=Gc ((aD (p+q)),S):=by
 obtain⟨m1,m2,m3,m4⟩:=OX hp hq (by lia)
 have b:=EA hp hq
 have l:=Ry (S:=S) (t:=p.num*q.den+q.num*p.den) (b:=p.den*q.den) (vi (den_pos _) (den_pos _)) (C4 b.2.1 (by lia))
 rw[IT (vi (den_pos _) (den_pos _)),PK]at l
 simp only[aD]at l⊢
 simp[Ak,Om,m1,m2,m3,l]
def HG(hp:Sz j p)(hq:Sz k q)(hj:j+k<=7990):Ag [aD p,aD q] S=Gc ((aD (p*q)),S):=by
 obtain⟨m1,m2,m3,m4⟩:=OX hp hq (by lia)
 have b:=EA hp hq
 have l:=Ry (S:=S) (t:=p.num*q.num) (b:=p.den*q.den) (vi (den_pos _) (den_pos _)) (C4 b.2.1 (by lia))
 rw[IT (vi (den_pos _) (den_pos _)),NL]at l
 simp only[aD]at l⊢
 simp[Ag,NI,m3,m4,l]
def gh:aD (-q)=.tup [.int (0-q.num),.int q.den]:=by
 unfold aD
 rw[show(-q).num=0-q.num by simp,show(-q).den=q.den by simp]
def iO(hq:Sz k q):Sz k (-q):=by
 unfold Sz
 rw[show(-q).num= -q.num by simp,show(-q).den=q.den by simp,Int.natAbs_neg]
 exact hq
def Vl(hp:Sz j p)(hq:Sz k q)(hj:j+k<=7990):Cj [aD p,aD q] S=Gc ((aD (p-q)),S):=by
 have l:=H0 (S:=S) hp (iO hq) hj
 rw[gh]at l
 rw[ABl]
 simp only[aD]at l⊢
 simp at l
 simp[Cj,OI,l]
def Rt(h:0<b)(hb:b.natAbs<F6):Ck [.int t,.int b] S=Gc ((aD (t / b)),S):=by
 rw[Ke h hb,IT h]
def YU(h:0<b)(hb:b.natAbs<F6):Bo [.int t,.int b] S=Gc ((aD (t / b)),S):=by
 rw[Ry h hb,IT h]
def Iv{a b:Int}(ha:a.natAbs<2^k)(hb:b.natAbs<2^k):(a+b).natAbs<2^(k+1):=by
 have e:2^(k+1)=2^k+2^k:=by rw[AAu];lia
 have:=AAO a b
 lia
def Ks{a b:Int}(ha:a.natAbs<2^j)(hb:b.natAbs<2^k):(a*b).natAbs<2^(j+k):=by
 rw[wt];exact Ap ha hb
def Wh(h:0<w+m):((p.num*q.den*w+q.num*p.den*m:Int):Rat) / (((p.den:Int)*q.den*(w+m):Int):Rat)=(p*w+q*m) / (w+m):=by
 have h1:=DH p;have h2:=DH q
 have d1:=Hf p;have d2:=Hf q
 have d3:((w:Rat)+(m:Rat))≠0:=by
  intro e
  have:((w+m:Int):Rat)=0:=by push_cast;exact e
  have:=wy.mp this
  lia
 push_cast
 grind
section
variable{w m:Int}
def Y3(hp:Sz j p)(hq:Sz k q)(hw:w.natAbs<2^n)(hm:m.natAbs<2^n):(p.num*q.den*w+q.num*p.den*m).natAbs<2^(j+k+n+1)/\((p.den:Int)*q.den*(w+m)).natAbs<2^(j+k+(n+1)):=by
 have d1:((p.den:Int)).natAbs<2^j:=by simpa using hp.2
 have d2:((q.den:Int)).natAbs<2^k:=by simpa using hq.2
 refine⟨Iv (Ks (Ks hp.1 d2) hw) ?_,Ks (Ks d1 d2) (Iv hw hm)⟩
 have:=Ks (Ks hq.1 d1) hm
 rwa [zU k j]at this
def fS(hp:Sz j p)(hq:Sz k q)(hw:w.natAbs<2^n)(hm:m.natAbs<2^n)(h:0<w+m)(hj:j+k+n+1<=7990):Ib [aD p,.int w,aD q,.int m] S=Gc ((aD ((p*w+q*m) / (w+m))),S):=by
 obtain⟨m1,m2,m3,m4⟩:=OX hp hq (by lia)
 have d1:((p.den:Int)).natAbs<2^j:=by simpa using hp.2
 have d2:((q.den:Int)).natAbs<2^k:=by simpa using hq.2
 have b:=Y3 hp hq hw hm
 have m5:C8 (p.num*q.den) w=true:=HM (Ks hp.1 d2) hw (by lia) (by lia)
 have m6:C8 (q.num*p.den) m=true:=HM (Ks hq.1 d1) hm (by lia) (by lia)
 have m7:C8 ((p.den:Int)*q.den) (w+m)=true:=HM (Ks d1 d2) (Iv hw hm) (by lia) (by lia)
 have l:=Rt (S:=S) (t:=p.num*q.den*w+q.num*p.den*m) (b:=p.den*q.den*(w+m)) (vi (vi (den_pos _) (den_pos _)) h) (C4 b.2 (by lia))
 rw[Wh h]at l
 simp only[aD]at l⊢
 simp[Ib,Qd,m1,m2,m3,m5,m6,m7,l]
end
end
section
variable{S:Sto}{p:Nat}
def Zy(h:p<S.length):dr (S.set p (.lst r)) (.ref p)=.own r:=Aq (uX h)
def Pen(ds:Wp D):Prop:=∃a b c d:Int,ds=[.int a,.int b,.int c,.int d]/\0<=d/\d<1000000007
def CL(p:Nat)(S:Sto):Prop:=∃ds,S[p]?=Gc (.lst ds)/\Pen ds
structure Pn(p:Nat)(S S':Sto):Prop where
 same:Bh [p] S S'
 pen:CL p S'
def Pn.trans(h:Pn p S S')(g:Pn p S' S2):Pn p S S2:=⟨h.same.trans g.same,g.pen⟩
def Pn.get(h:Pn p S S')(e:S[n]?=Gc c)(ha:n≠p):S'[n]?=Gc c:=h.same.get e (by simpa using ha)
def Pn.refl(h:CL p S):Pn p S S:=⟨.refl,h⟩
def CL.lt(h:CL p S):p<S.length:=by obtain⟨ds,e,_⟩:=h;exact AV e
def CL.app(h:CL p S) T:CL p (S++T):=by obtain⟨ds,e,hp⟩:=h;exact⟨ds,by rw[uK (AV e)];exact e,hp⟩
inductive Drw(p:Nat)(n:Int)(S:Sto):Prop
 |mk (r:Int) (S':Sto) (e:AE [.ref p,.int n] S=Gc (.int r,S')) (a:0<=r) (b:r<n) (g:Pn p S S')
def Ar(h:CL p S)(h0:0<n)(h1:n<1152921504606846976):Drw p n S:=by
 obtain⟨ds,hp,a,b,c,d,rfl,hd0,hd1⟩:=h
 have hl:=AV hp
 have hs:=D8 h0 h1
 have hr:=Aq hp
 have hc:=AN hp
 by_cases hb:b=1/\0<a
 .obtain⟨rfl,ha⟩:=hb
  refine⟨a % n,S.set p (.lst [.int (a / n),.int 1,.int c,.int d]),?_,xC _ (by lia),xS _ h0,.set (by simp),_,uX hl,_,_,_,_,rfl,hd0,hd1⟩
  simp[AE,Iu,ha,h0,hs,hr,hc]
 .have m1:C8 (d+17) (69621+2*(c+1))=true:=mulL (by lia) (by lia)
  have m2:C8 2 (c+1)=true:=mulL (by decide) (by decide)
  generalize ht:(d+17)*(69621+2*(c+1)) % 2147483647=t at*
  have t0:0<=t:=by rw[<-ht];exact xC _ (by decide)
  have t1:t<2147483647:=by rw[<-ht];exact xS _ (by decide)
  have m3:C8 t t=true:=mulL (by lia) (by lia)
  have m4:C8 40503 (c+1)=true:=mulL (by decide) (by decide)
  generalize hu:(t*t+40503*(c+1)+5) % 2147483629=u at*
  have u0:0<=u:=by rw[<-hu];exact xC _ (by decide)
  have u1:u<2147483629:=by rw[<-hu];exact xS _ (by decide)
  have m5:C8 u 48271=true:=mulL (by lia) (by lia)
  have d32:(32:Int).natAbs<F6:=D8 (by decide) (by decide)
  have d32':(32:Nat)<F6:=d32
  refine⟨u*48271 % 2147483647 / 32 % n,S.set p (.lst [.int a,.int b,.int (c+1),.int d]),?_,xC _ (by lia),xS _ h0,.set (by simp),_,uX hl,_,_,_,_,rfl,hd0,hd1⟩
  by_cases hb1:b=1
  .subst hb1
   have ha:¬0<a:=λz=>hb ⟨rfl,z⟩
   simp[AE,Iu,ha,h0,hs,hr,hc,Zy,hl,m1,m2,m3,m4,m5,ht,hu,d32']
  .have hb2:(b==1)=false:=by simpa using hb1
   simp[AE,Iu,hb2,h0,hs,hr,hc,Zy,hl,m1,m2,m3,m4,m5,ht,hu,d32']
def gy c:∃p S',Ih [.int c] S=Gc (.ref p,S')/\CL p S'/\Bh [] S S'/\S.length<=p:=by
 refine⟨S.length,S++[.lst [.int c,.int (if(10:Int)^18<=c then 1 else 0),.int 0,.int (c % 1000000007)]],?_,⟨_,uZ,_,_,_,_,rfl,xC _ (by decide),xS _ (by decide)⟩,.app,uP _⟩
 simp[Ih,Qj]
def Cc(h:gOk gs S):BA gs t c f [] acc E S=Gc (acc,S):=by
 unfold BA
 rw[vF h]
def OU (h:gOk gs S)(hz:acc.length<sizeLine):BA gs t c f (d::ds) acc E S=(t d E S).bind λE1=>(c E1 S).bind λr=>match r.1 with
      | .bl true => (f E1 r.2).bind fun p => BA gs t c f ds (acc ++ [p.1]) E1 p.2
      | .bl false => BA gs t c f ds acc E1 r.2
      | _=>none:=by
  rw [BA, vF h, vF hz]
  all_goals rfl
def FO(h:gOk gs S)(hz:acc.length<sizeLine)(e1:t d E S=Gc E1)(e2:c E1 S=Gc (.bl true,S1)):BA gs t c f (d::ds) acc E S=(f E1 S1).bind λp=>BA gs t c f ds (acc++[p.1]) E1 p.2:=by
 rw[OU h hz,e1]
 show(c E1 S).bind _=_
 rw[e2]
 rfl
def CD(h:gOk gs S)(hz:acc.length<sizeLine)(e1:t d E S=Gc E1)(e2:c E1 S=Gc (.bl false,S1)):BA gs t c f (d::ds) acc E S=BA gs t c f ds acc E1 S1:=by
 rw[OU h hz,e1]
 show(c E1 S).bind _=_
 rw[e2]
 rfl
theorem MV{gs:Gd}{t:Tf}{f:Ev}{I:Sto->Prop}(hg:∀S,I S->gOk gs S):∀{ds acc} {os} {S},os.length=m->I S->acc.length+ds.length<=sizeLine->(∀d∈ds,∀os S,os.length=m->I S->∃us y S',us.length=m/\t d (C++os) S=Gc (C++us)/\f (C++us) S=Gc (y,S')/\I S'/\R d y)->∃ys S',BA gs t Ai f ds acc (C++os) S=Gc (acc++ys,S')/\I S'/\ys.length=ds.length/\Paired R ds ys
 | [],acc,os,S,ho,hI,hz,h=>⟨[],S,by rw[Cc (hg S hI)];simp,hI,rfl,.nil⟩
 |d::ds,acc,os,S,ho,hI,hz,h=>by
  obtain⟨us,y,S1,hu,e1,e2,I1,r1⟩:=h d uO os S ho hI
  obtain⟨ys,S2,e3,I2,l2,r2⟩:=MV hg (ds:=ds) (acc:=acc++[y]) (os:=us) (S:=S1) hu I1 (by simp at hz ⊢; lia) λd' hd=>h d' (uL _ hd)
  refine⟨y::ys,S2,?_,I2,by simp[l2],.cons r1 r2⟩
  rw[FO (hg S hI) (by simp at hz;lia) e1 Fm,e2,Au,e3]
  simp
theorem comp_map(hg:gOk gs S):∀{ds acc} {os},os.length=m->acc.length+ds.length<=sizeLine->(∀d∈ds,∀os,os.length=m->∃us,us.length=m/\t d (C++os) S=Gc (C++us)/\f (C++us) S=Gc (g d,S))->BA gs t Ai f ds acc (C++os) S=Gc (acc++ds.map g,S)
 | [],acc,os,ho,hz,h=>by rw[Cc hg];simp
 |d::ds,acc,os,ho,hz,h=>by
  obtain⟨us,hu,e1,e2⟩:=h d uO os ho
  rw[FO hg (by simp at hz;lia) e1 Fm,e2,Au]
  rw[comp_map hg hu (by simp at hz ⊢; lia) λd' hd=>h d' (uL _ hd)]
  simp
theorem DZ{I:Wp D->En->Sto->Prop}(hg:∀ds E S,I ds E S->gOk gs S):∀{ds} {E} {S},I ds E S->(∀d ds E S,I (d::ds) E S->∃E1 E2 S2,t d E S=Gc E1/\b E1 S=Gc (.nx,E2,S2)/\I ds E2 S2)->∃E' S',Jj gs t b ds E S=Gc (.nx,E',S')/\I [] E' S'
 | [],E,S,hI,h=>⟨E,S,Fe (hg _ _ _ hI),hI⟩
 |d::ds,E,S,hI,h=>by
  obtain⟨E1,E2,S2,e1,e2,I2⟩:=h d ds E S hI
  obtain⟨E',S',e3,I3⟩:=DZ hg I2 h
  exact⟨E',S',by rw[DO (hg _ _ _ hI),e1];simp[e2,e3],I3⟩
def pick{xs:Wp D}{r:Int}(h0:0<=r)(h1:r<xs.length):∃x,atI xs r=Gc x/\x∈xs:=⟨_,Zs h0 h1,wg _⟩
theorem JD{P:β->Prop}:∀{xs:Wp α} {ys},Paired (λ_ y=>P y) xs ys->∀y∈ys,P y
 |_,_,.nil,y,h=>by cases h
 |_,_,.cons r t,y,h=>by
  rcases uS.mp h with h|h
  .rw[h];exact r
  .exact JD t y h
def Fc:(Jd lo n).length=n:=by simp[Jd]
end
def Ok(G B:Nat)(r:Rat):Prop:=∃z:Nat,r*(G:Rat)=(z:Rat)/\z<=B
def LQ{n:Nat}(h:0<n):(n:Rat)≠0:=by
 have:n≠0:=by lia
 exact_mod_cast this
def Ok.sz(h:Ok G B r)(hG:0<G)(g:G<2^k)(b:B<2^k):Sz k r:=by
 obtain⟨z,e,hz⟩:=h
 have e2:r=((z:Int):Rat) / ((G:Int):Rat):=by
  have:=LQ hG
  rw[show(((z:Nat):Int):Rat)=(z:Rat)from rfl,show(((G:Nat):Int):Rat)=(G:Rat)from rfl,<-e]
  grind
 rw[e2]
 exact Kh (by lia) (by simpa using ug hz b) (by simpa using g)
def Ok.up(h:Ok G B r)(hB:B*t<=B'):Ok (G*t) B' r:=by
 obtain⟨z,e,hz⟩:=h
 refine⟨z*t,?_,uH (ui t hz) hB⟩
 push_cast
 rw[<-e]
 grind
def Ok.zero:Ok G B 0:=⟨0,by simp,vZ _⟩
def Ok.one(h:G<=B):Ok G B 1:=⟨G,by simp,h⟩
def Ok.mix{G B a b t:Nat}(hr:Ok G B r)(ho:Ok G B o)(ht:a+b=t)(h0:0<t):Ok (G*t) (B*t) ((r*(a:Rat)+o*(b:Rat)) / (t:Rat)):=by
 obtain⟨z,e1,h1⟩:=hr
 obtain⟨y,e2,h2⟩:=ho
 refine⟨z*a+y*b,?_,?_⟩
 .have:=LQ h0
  push_cast
  rw[<-e1,<-e2]
  grind
 .rw[<-ht,Nat.mul_add]
  exact z9 (ui a h1) (ui b h2)
structure Tr where
 p:Nat
 k:Nat
 b:Nat
 ho:Wp Rat
 h:Int
 l:Int
structure Ld where
 k:Nat
 n:Int
 ow:Wp Rat
structure Stt where
 AA:Wp Ld
 hold:Wp Rat
 nums:Wp Int
inductive AR where
 |Bj (p k:Nat) (n:Int)
 |Ik (a b:Nat)
 |swap (l:Nat) (g:Int) (k:Nat) (n:Int)
 |C0 (t:Int) (l:Nat) (g:Int) (k:Nat) (n:Int)
 |EN (l:Nat) (n:Int)
 |thr (l:Nat) (n:Int) (ws:Wp Int)
 |HP (p q:Nat) (s:Rat)
noncomputable def shD(rs:Wp Rat):D:=.tup (rs.map aD)
noncomputable def Tr.d(t:Tr):D:=.tup [.int t.p,.int t.k,.int t.b,shD t.ho,.int t.h,.int t.l]
noncomputable def Ld.d(l:Ld):D:=.tup [.int l.k,.int l.n,shD l.ow]
noncomputable def AR.d:AR->D
 | .Bj p k n=>.tup [.str "bring",.int p,.int k,.int n]
 | .Ik a b=>.tup [.str "pool",.int a,.int b]
 | .swap l g k n=>.tup [.str "swap",.int l,.int g,.int k,.int n]
 | .C0 t l g k n=>.tup [.str "trade",.int t,.int l,.int g,.int k,.int n]
 | .EN l n=>.tup [.str "spoil",.int l,.int n]
 | .thr l n ws=>.tup [.str "throw",.int l,.int n,.tup (ws.map .int)]
 | .HP p q s=>.tup [.str "sell",.int p,.int q,aD s]
noncomputable def Gy(x:Rat)(os ss:Wp Rat):Wp Rat:=yv (λs o=>s*(1-x)+o*x) ss os
noncomputable def F3(p q:Nat)(s:Rat)(ss:Wp Rat):Wp Rat:=(ss.set p (ss.getD p 0-ss.getD p 0*s)).set q (ss.getD q 0+ss.getD p 0*s)
noncomputable def B3(n m:Int)(ss os:Wp Rat):Wp Rat:=yv (λs o=>(s*n+o*m) / (n+m:Int)) ss os
noncomputable def EY(t:Tr)(ls:Wp Ld)(ws:Wp Int):Int:=(ls.map λl=>l.n*ws.getD l.k 0).sum+t.b*ws.getD t.k 0
noncomputable def JX(t:Tr)(ls:Wp Ld)(l:Nat)(n:Int)(ws:Wp Int):Rat:=((n*ws.getD ((ls[l]?.map (·.k)).getD 0) 0:Int):Rat) / (EY t ls ws:Rat)
noncomputable def AL(ls:Wp Ld)(l:Nat):Ld:=ls.getD l ⟨0,0,[]⟩
noncomputable def less(ls:Wp Ld)(l:Nat)(n:Int):Wp Ld:=ls.set l {AL ls l with n:=(AL ls l).n-n}
noncomputable def Sy(p i:Nat):Wp Rat:=(W1 p).map λj=>if j=i then 1 else 0
noncomputable def step(t:Tr)(s:Stt):AR->Stt
 | .Bj p k n=>{s with AA:=s.AA++[⟨k,n,Sy t.p p⟩]}
 | .Ik a b=>{s with AA:=less (less s.AA a (AL s.AA a).n) b (AL s.AA b).n++[⟨(AL s.AA a).k,(AL s.AA a).n+(AL s.AA b).n,B3 (AL s.AA a).n (AL s.AA b).n (AL s.AA a).ow (AL s.AA b).ow⟩]}
 | .swap l g k n=>{s with AA:=less s.AA l g++[⟨k,n,(AL s.AA l).ow⟩]}
 | .C0 u l g k n=>{s with AA:=less s.AA l g++[⟨k,n,(AL s.AA l).ow⟩],nums:=s.nums++[u]}
 | .EN l n=>{s with AA:=less s.AA l n}
 | .thr l n ws=>{s with AA:=(less s.AA l n).map λx=>{x with ow:=Gy (JX t s.AA l n ws) (AL s.AA l).ow x.ow},hold:=Gy (JX t s.AA l n ws) (AL s.AA l).ow s.hold}
 | .HP p q x=>{s with AA:=s.AA.map λy=>{y with ow:=F3 p q x y.ow},hold:=F3 p q x s.hold}
def Hu(t:Tr):Prop:=1<=t.p/\t.p<=4/\1<=t.k/\t.k<=5/\1<=t.b/\t.b<=20
def Can(t:Tr)(s:Stt):AR->Prop
 | .Bj p k n=>p<t.p/\k<t.k/\1<=n/\n<2^131
 | .Ik a b=>a≠b/\a<s.AA.length/\b<s.AA.length/\0<(AL s.AA a).n/\0<(AL s.AA b).n/\(AL s.AA a).k=(AL s.AA b).k
 | .swap l g k n=>l<s.AA.length/\1<=g/\g<=(AL s.AA l).n/\k<t.k/\k≠(AL s.AA l).k/\1<=n/\n<2^131
 | .C0 u l g k n=>l<s.AA.length/\1<=g/\g<=(AL s.AA l).n/\k<t.k/\k≠(AL s.AA l).k/\1<=n/\n<2^131/\u∉s.nums/\0<=u/\u<=9
 | .EN l n=>l<s.AA.length/\1<=n/\n<=(AL s.AA l).n
 | .thr l n ws=>l<s.AA.length/\1<=n/\n<=(AL s.AA l).n/\ws.length=t.k+1/\∀w∈ws,1<=w/\w<=99
 | .HP p q x=>p≠q/\p<t.p/\q<t.p/\0<x.num/\x.num<=x.den/\x.den<=12
structure FH(t:Tr)(k:Nat)(s:Stt):Prop where
 len:s.AA.length<=4+k
 kind:∀l∈s.AA,l.k<t.k
 pcs:∀l∈s.AA,0<=l.n/\l.n<2^(131+k)
 own:∀l∈s.AA,l.ow.length=t.p
 hold:s.hold.length=t.p
 nm:s.nums.length<=k
 gb:∃G B:Nat,0<G/\G<=B/\B<2^(30+170*k)/\(∀l∈s.AA,∀r∈l.ow,Ok G B r)/\∀r∈s.hold,Ok G B r
def FH.sz(h:FH t k s):(∀l∈s.AA,∀r∈l.ow,Sz (30+170*k) r)/\∀r∈s.hold,Sz (30+170*k) r:=by
 obtain⟨G,B,g0,gb,b,h1,h2⟩:=h.gb
 exact⟨λl hl r hr=>(h1 l hl r hr).sz g0 (ug gb b) b,λr hr=>(h2 r hr).sz g0 (ug gb b) b⟩
def AU(h:l<ls.length):AL ls l∈ls:=by
 unfold AL
 rw[uY,uN h]
 exact wg h
def DN(h:l<ls.length):ls[l]?=Gc (AL ls l):=by
 unfold AL
 rw[uY,uN h]
 rfl
def KN(h:x∈less ls l n)(hl:l<ls.length):x∈ls\/x={AL ls l with n:=(AL ls l).n-n}:=by
 unfold less at h
 rcases xX h with h|h
 .exact .inl h
 .exact .inr h
def DF:(less ls l n).length=ls.length:=by simp[less]
theorem Pp{P:Int->Prop}:∀{ys},(∀y∈ys,∃i,y=.int i/\P i)->∃ns:Wp Int,ys=ns.map D.int/\∀n∈ns,P n
 | [],_=>⟨[],rfl,λn h=>by cases h⟩
 |y::ys,h=>by
  obtain⟨i,rfl,hi⟩:=h y uO
  obtain⟨ns,rfl,hn⟩:=Pp (P:=P) (ys:=ys) λz hz=>h z (uL _ hz)
  exact⟨i::ns,rfl,λn hn'=>by
   rcases uS.mp hn' with e|e
   .rw[e];exact hi
   .exact hn n e⟩
def QV{ns:Wp Int}(h:∀n∈ns,0<=n/\n<=8):0<=ns.sum/\ns.sum<=8*ns.length/\∀n∈ns,n<=ns.sum:=by
 induction ns with
 |nil=>simp
 |cons a l ih=>
  have h1:=h a uO
  obtain⟨i1,i2,i3⟩:=ih λn hn=>h n (uL _ hn)
  rw[uj,vY]
  refine⟨by lia,by push_cast;lia,λn hn=>?_⟩
  rcases uS.mp hn with e|e
  .lia
  .have:=i3 n e;lia
def UU (h:CL p S)(hn:n ≤ 20):∃(ns:Wp Int)(S':Sto),BA [] (tNm 1) Ai (eOp (o2 wIx) [(KG [(eC (.int 0)),(eC (.int 1)),(AB AE [(eV 0),(eC (.int 4))]),(AB AE [(eV 0),(eC (.int 9))])]),(AB AE [(eV 0),(eC (.int 4))])]) (Jd 0 n) [] [Gc (.ref p),none] S=Gc (ns.map D.int,S')/\Pn p S S'/\ns.length=n/\∀i ∈ ns,0 ≤ i/\i ≤ 8:=by
  obtain⟨ys,S',e,hI,l,r⟩:=MV (gs:=[]) (t:=tNm 1) (f:=eOp (o2 wIx) [(KG [(eC (.int 0)),(eC (.int 1)),(AB AE [(eV 0),(eC (.int 4))]),(AB AE [(eV 0),(eC (.int 9))])]),(AB AE [(eV 0),(eC (.int 4))])]) (C:=[Gc (.ref p)]) (m:=1) (I:=Pn p S) (R:=λ_ y=>∃i:Int,y = .int i/\0 ≤ i/\i ≤ 8)
    (λ_ _=>AI) (ds:=Jd 0 n) (acc:=[]) (os:=[none]) rfl (Pn.refl h) (by rw[Fc];simp;exact AK (by lia)) λd _ os S0 ho I0=>by
      obtain⟨o,rfl⟩:=MX ho
      obtain⟨r1,S1,e1,a1,b1,p1⟩:=Ar I0.pen (n:=4) (by decide) (by decide)
      obtain⟨r2,S2,e2,a2,b2,p2⟩:=Ar p1.pen (n:=9) (by decide) (by decide)
      obtain⟨r3,S3,e3,a3,b3,p3⟩:=Ar p2.pen (n:=4) (by decide) (by decide)
      obtain⟨x,ex,hx⟩:=pick (xs:=[.int 0,.int 1,.int r1,.int r2]) (r:=r3) a3 (by simpa using b3)
      refine ⟨[Gc d], x, S3, rfl, by simp, by simp [e1, e2, e3, ex], ((I0.trans p1).trans p2).trans p3, ?_⟩
      simp only [uS, vB, vy] at hx
      rcases hx with rfl | rfl | rfl | rfl
      · exact ⟨0, rfl, by decide, by decide⟩
      · exact ⟨1, rfl, by decide, by decide⟩
      · exact ⟨r1, rfl, by lia, by lia⟩
      · exact ⟨r2, rfl, by lia, by lia⟩
  obtain⟨ns,rfl,hns⟩:=Pp (JD r)
  exact ⟨ns, S', by simpa using e, hI, by simpa [Fc] using l, hns⟩
noncomputable def JM(ns:Wp Int):Wp Rat:=ns.map λ(n:Int)=>(n:Rat) / (ns.sum:Rat)
def MW(h:∀n∈ns,0<=n/\n<=8)(hs:0<ns.sum):∀r∈JM ns,Ok ns.sum.toNat ns.sum.toNat r:=by
 intro r hr
 obtain⟨n,hn,rfl⟩:=uo.mp hr
 have h1:=h n hn
 have h2:=(QV h).2.2 n hn
 refine⟨n.toNat,?_,by lia⟩
 have e1:((ns.sum.toNat:Nat):Rat)=(ns.sum:Rat):=by
  have:((ns.sum.toNat:Nat):Int)=ns.sum:=by lia
  exact congrArg (λz:Int=>(z:Rat)) this
 have e2:((n.toNat:Nat):Rat)=(n:Rat):=by
  have:((n.toNat:Nat):Int)=n:=by lia
  exact congrArg (λz:Int=>(z:Rat)) this
 rw[e1,e2]
 have:(ns.sum:Rat)≠0:=by
  intro z
  have:=wy.mp z
  lia
 grind
theorem Wu:∀{ns:Wp Int},(ns.map λ(n:Int)=>(n:Rat) / s).sum=(ns.sum:Rat) / s
 | []=>by simp;grind
 |n::ns=>by
  rw[uV,uj,uj,Wu (ns:=ns)]
  push_cast
  grind
def Qb(hs:0<ns.sum):(JM ns).sum=1:=by
 unfold JM
 rw[Wu]
 have:(ns.sum:Rat)≠0:=by
  intro z
  have:=wy.mp z
  lia
 grind
def So(hq:S[q]?=Gc (.lst (ns.map D.int)))(hl:ns.length<=20)(hn:∀n∈ns,0<=n/\n<=8)(hs:0<ns.sum):BA [(q,ns.map D.int)] (tNm 1) Ai (AB Bo [eV 1,eOp (o1 Od) [eV 0]]) (ns.map D.int) [] [Gc (.ref q),none] S=Gc ((JM ns).map aD,S):=by
 obtain⟨s1,s2,s3⟩:=QV hn
 have:=comp_map (gs:=[(q,ns.map D.int)]) (t:=tNm 1) (f:=AB Bo [eV 1,eOp (o1 Od) [eV 0]]) (C:=[Gc (.ref q)]) (m:=1) (g:=λd=>match d with| .int n=>aD ((n:Rat) / (ns.sum:Rat))|d=>d) (S:=S) (λg hg=>by rw[uv.mp hg];exact AN hq) (ds:=ns.map D.int) (acc:=[]) (os:=[none]) rfl (by simp;exact AK (by lia)) λd hd os ho=>by
  obtain⟨o,rfl⟩:=MX ho
  obtain⟨i,hi,rfl⟩:=uo.mp hd
  have m:=YU (S:=S) (t:=i) hs (D8 (by lia) (by lia))
  exact⟨[Gc (.int i)],rfl,by simp,by simp[Aq hq,CF,m]⟩
 have e2:(ns.map D.int).map (λd=>match d with| .int n=>aD ((n:Rat) / (ns.sum:Rat))|d=>d)=(JM ns).map aD:=by
  unfold JM
  rw[uh,uh]
  rfl
 rw[e2]at this
 simpa using this
def Sx(h:CL p S){n:Nat}(h1:1<=n)(h2:n<=4):∃rs S',Cq [.ref p,.int n] S=Gc (shD rs,S')/\Pn p S S'/\(rs.length=n/\rs.sum=1)/\∃G,0<G/\G<=32/\∀r∈rs,Ok G G r:=by
 obtain⟨ns,S1,e1,p1,l1,i1⟩:=UU (n:=n) h (by lia)
 obtain⟨s1,s2,s3⟩:=QV i1
 have hq:(S1++[Cl.lst (ns.map D.int)])[S1.length]?=Gc (.lst (ns.map D.int)):=uZ
 have pp:CL p (S1++[Cl.lst (ns.map D.int)]):=p1.pen.app _
 have hlt:=p1.pen.lt
 have r1:Ge (n:Int)=true:=Bw (by lia) (by lia)
 by_cases hz:ns.sum=0
 .obtain⟨r,S2,e2,a2,b2,p2⟩:=Ar pp (n:=n) (by lia) (by lia)
  have hq2:S2[S1.length]?=Gc (.lst (ns.map D.int)):=p2.get hq (by lia)
  have hn':∀x∈ns.set r.toNat 1,0<=x/\x<=8:=λx hx=>by
   rcases xX hx with hx|rfl
   .exact i1 x hx
   .exact⟨by decide,by decide⟩
  have hs':0<(ns.set r.toNat 1).sum:=by
   have:=(QV hn').2.2 1 (List.mem_set (by lia) 1)
   lia
  have hq3:(S2.set S1.length (.lst ((ns.set r.toNat 1).map D.int)))[S1.length]?=Gc (.lst ((ns.set r.toNat 1).map D.int)):=uX (AV hq2)
  have e3:=So hq3 (by simp;lia) hn' hs'
  have ix:ixN ns.length r=Gc r.toNat:=Tj a2 (by lia)
  refine⟨JM (ns.set r.toNat 1),S2.set S1.length (.lst ((ns.set r.toNat 1).map D.int)),?_,⟨?_,?_⟩,⟨by simp[JM,l1],Qb hs'⟩,_,(show 0<(ns.set r.toNat 1).sum.toNat by lia),?_,MW hn' hs'⟩
  .have sq3:=C7 hq3
   rw[xH]at e3 sq3 hq3
   simp[Cq,Jy,r1,e1,Aq hq,CF,hz,e2,AN hq2,ix,sq3,e3,shD]
  .have g:Bh [p] S (S1++[Cl.lst (ns.map D.int)]):=p1.same.trans .app
   refine⟨uH (g.trans p2.same).len (by simp),λm hm hmp=>?_⟩
   rw[uQ (by have:=p1.same.len;lia)]
   exact(g.trans p2.same).keep m hm hmp
  .obtain⟨ds,ed,hd⟩:=p2.pen
   exact⟨ds,by rw[uQ (by lia)];exact ed,hd⟩
  .have:=(QV hn').2.1
   rw[wW]at this
   lia
 .have hz':(ns.sum==0)=false:=by simpa using hz
  have e3:=So hq (by lia) i1 (by lia)
  refine⟨JM ns,S1++[Cl.lst (ns.map D.int)],?_,⟨p1.same.trans .app,pp⟩,⟨by simp[JM,l1],Qb (by lia)⟩,_,(show 0<ns.sum.toNat by lia),by lia,MW i1 (by lia)⟩
  have sq3:=C7 hq
  simp[Cq,Jy,r1,e1,Aq hq,CF,hz',sq3,e3,shD]
def cE:(2:Nat)<F6:=D8 (n:=2) (by decide) (by decide)
inductive Pcs(p j:Nat)(S:Sto):Prop
 |mk (n:Int) (S':Sto) (e:Bm [.ref p] S=Gc (.int n,S')) (g:Pn p S S') (a:1<=n) (b:n<2^j)
def OG(h:CL p S):Pcs p 130 S:=by
 obtain⟨r1,S1,e1,a1,b1,p1⟩:=Ar h (n:=99) (by decide) (by decide)
 obtain⟨r2,S2,e2,a2,b2,p2⟩:=Ar p1.pen (n:=4) (by decide) (by decide)
 obtain⟨r3,S3,e3,a3,b3,p3⟩:=Ar p2.pen (n:=40) (by decide) (by decide)
 obtain⟨r4,S4,e4,a4,b4,p4⟩:=Ar p3.pen (n:=999) (by decide) (by decide)
 obtain⟨r5,S5,e5,a5,b5,p5⟩:=Ar p4.pen (n:=7) (by decide) (by decide)
 have pp:=(((p1.trans p2).trans p3).trans p4).trans p5
 have d2:=cE
 have go:∀g:Int,1<=g->g<2^130->∃n:Int,atI [D.int (1+r2),.int (1+r3),.int (1+r4),.int g] (r5 / 2)=Gc (.int n)/\1<=n/\n<2^130:=λg g1 g2=>by
  obtain⟨x,ex,hx⟩:=pick (xs:=[D.int (1+r2),.int (1+r3),.int (1+r4),.int g]) (r:=r5 / 2) (by lia) (by simp;lia)
  simp only[uS,vB,vy]at hx
  rcases hx with rfl|rfl|rfl|rfl
  .exact⟨_,ex,by lia,by lia⟩
  .exact⟨_,ex,by lia,by lia⟩
  .exact⟨_,ex,by lia,by lia⟩
  .exact⟨_,ex,g1,g2⟩
 first
  |(obtain⟨n,en,n1,n2⟩:=go (10^39+r1) (by lia) (by lia)
    exact⟨n,S5,by simp[Bm,IJ,e1,e2,e3,e4,e5,d2]at en ⊢; simp[en],pp,n1,n2⟩)
  |(obtain⟨n,en,n1,n2⟩:=go (10^30+r1) (by lia) (by lia)
    exact⟨n,S5,by simp[Bm,IJ,e1,e2,e3,e4,e5,d2]at en ⊢; simp[en],pp,n1,n2⟩)
def QU(h:CL p S):Pcs p 131 S:=by
 obtain⟨n,S',a,b,c,d⟩:=OG h
 exact⟨n,S',a,b,c,Int.lt_trans d (by decide)⟩
def Gx{r:Int}(h:0<=r):∃m:Nat,r=m:=⟨r.toNat,by lia⟩
inductive Shr(p:Nat)(S:Sto):Prop
 |mk (x:Rat) (S':Sto) (e:F2 [.ref p] S=Gc (aD x,S')) (g:Pn p S S') (a:0<x.num) (b:x.num<=x.den) (c:x.den<=12)
def YO(h:CL p S):Shr p S:=by
 obtain⟨r1,S1,e1,a1,b1,p1⟩:=Ar h (n:=12) (by decide) (by decide)
 obtain⟨r2,S2,e2,a2,b2,p2⟩:=Ar p1.pen (n:=1+r1) (by lia) (by lia)
 have m:=YU (S:=S2) (t:=1+r2) (b:=1+r1) (by lia) (D8 (by lia) (by lia))
 obtain⟨m1,rfl⟩:=Gx a1
 obtain⟨m2,rfl⟩:=Gx a2
 have rp:=NO (1+(m2:Int)) (1+m1) (by lia)
 have eb:(((1+(m1:Int):Int)):Rat)=(((1+m1:Nat)):Rat):=by
  have:(1+(m1:Int))=((1+m1:Nat):Int):=by lia
  rw[this];rfl
 have en:(1+(m2:Int)).natAbs=1+m2:=by lia
 have gp:0<zX (1+m2) (1+m1):=Nat.gcd_pos_of_pos_left _ (by lia)
 obtain⟨q,hq⟩:=Nat.gcd_dvd_left (1+m2) (1+m1)
 obtain⟨q',hq'⟩:=Nat.gcd_dvd_right (1+m2) (1+m1)
 refine⟨((1+(m2:Int):Int):Rat) / ((1+(m1:Int):Int):Rat),S2,?_,p1.trans p2,?_,?_,?_⟩
 .simp[F2,NN,e1,e2,m]
 .rw[eb,rp.1,en]
  generalize zX (1+m2) (1+m1)=g at*
  have:(1+(m2:Int))=((g*q:Nat):Int):=by lia
  rw[this,AA4,AAW _ (by lia)]
  have:q≠0:=λz=>by subst z;lia
  lia
 .rw[eb,rp.1,rp.2,en]
  generalize zX (1+m2) (1+m1)=g at*
  have t1:(1+(m2:Int))=((g*q:Nat):Int):=by lia
  rw[t1,AA4,AAW _ (by lia),hq',Nat.mul_div_cancel_left _ gp]
  have:q<=q':=by
   have:g*q<=g*q':=by lia
   exact Nat.le_of_mul_le_mul_left this gp
  lia
 .rw[eb,rp.2]
  exact uH (Nat.div_le_self _ _) (by lia)
inductive Wts(p n:Nat)(S:Sto):Prop
 |mk (ws:Wp Int) (S':Sto) (e:D9 [.ref p,.int n] S=Gc (.tup (ws.map .int),S')) (g:Pn p S S') (a:ws.length=n) (b:∀w∈ws,1<=w/\w<=99)
def Uu (h:CL p S)(hn:n ≤ 6):Wts p n S:=by
  obtain⟨ys,S',e,hI,l,r⟩:=MV (gs:=[]) (t:=tNm 1) (f:=(eOp (o2 Cr) [(eC (.int 1)),(eOp (o2 wIx) [(KG [(AB AE [(eV 0),(eC (.int 3))]),(AB AE [(eV 0),(eC (.int 99))])]),(AB AE [(eV 0),(eC (.int 2))])])])) (C:=[Gc (.ref p)]) (m:=1) (I:=Pn p S) (R:=λ_ y=>∃i:Int,y = .int i/\1 ≤ i/\i ≤ 99)
    (λ_ _=>AI) (ds:=Jd 0 n) (acc:=[]) (os:=[none]) rfl (Pn.refl h) (by rw[Fc];simp;exact AK (by lia)) λd _ os S0 ho I0=>by
      obtain⟨o,rfl⟩:=MX ho
      obtain⟨r1,S1,e1,a1,b1,p1⟩:=Ar I0.pen (n:=3) (by decide) (by decide)
      obtain⟨r2,S2,e2,a2,b2,p2⟩:=Ar p1.pen (n:=99) (by decide) (by decide)
      obtain⟨r3,S3,e3,a3,b3,p3⟩:=Ar p2.pen (n:=2) (by decide) (by decide)
      obtain⟨x,ex,hx⟩:=pick (xs:=[.int r1,.int r2]) (r:=r3) a3 (by simpa using b3)
      simp only [uS, vB, vy] at hx
      rcases hx with rfl | rfl
      · exact ⟨[Gc d], .int (1 + r1), S3, rfl, by simp, by simp [e1, e2, e3, ex], ((I0.trans p1).trans p2).trans p3, _, rfl, by lia, by lia⟩
      · exact ⟨[Gc d], .int (1 + r2), S3, rfl, by simp, by simp [e1, e2, e3, ex], ((I0.trans p1).trans p2).trans p3, _, rfl, by lia, by lia⟩
  obtain⟨ns,rfl,hns⟩:=Pp (JD r)
  have r1:Ge (n:Int)=true:=Bw (by lia) (by lia)
  have e':BA [] (tNm 1) Ai (eOp (o2 Cr) [(eC (.int 1)),(eOp (o2 wIx) [(KG [(AB AE [(eV 0),(eC (.int 3))]),(AB AE [(eV 0),(eC (.int 99))])]),(AB AE [(eV 0),(eC (.int 2))])])]) (Jd 0 n) [] [Gc (.ref p),none] S=Gc (ns.map D.int,S'):=by simpa using e
  exact ⟨ns, S', by simp [D9, Lq, r1, e'], hI, by simpa [Fc] using l, hns⟩
def Gf(t:Tr)(ls:Wp Ld):Prop:=(∀l∈ls,l.k<t.k/\1<=l.n/\l.n<2^131/\l.ow.length=t.p/\l.ow.sum=1)/\∃G:Nat,0<G/\G<=32^ls.length/\∀l∈ls,∀r∈l.ow,Ok G G r
def Gf.snoc(h:Gf t ls)(h1:l.k<t.k/\1<=l.n/\l.n<2^131/\l.ow.length=t.p/\l.ow.sum=1)(g0:0<g)(g1:g<=32)(g2:∀r∈l.ow,Ok g g r):Gf t (ls++[l]):=by
 obtain⟨ha,G,G0,G1,G2⟩:=h
 refine⟨λx hx=>?_,G*g,xy G0 g0,?_,λx hx r hr=>?_⟩
 .rcases vH.mp hx with hx|hx
  .exact ha x hx
  .rw[uv.mp hx];exact h1
 .rw[vb,ABA,AAu]
  exact v5 G1 g1
 .rcases vH.mp hx with hx|hx
  .exact(G2 x hx r hr).up (uP _)
  .rw[uv.mp hx]at hr
   have:=(g2 r hr).up (t:=G) (B':=G*g) (by rw[wk];exact uP _)
   rwa [wk g G]at this
def Gf.nil:Gf t []:=⟨λl hl=>(nomatch hl),1,by decide,by simp,λl hl=>(nomatch hl)⟩
noncomputable def CJ(x:Ld):Cl:=.lst [.int x.k,.int x.n,shD x.ow]
structure SAt(S:Sto)(s l m:Nat)(as:Wp Nat)(st:Stt):Prop where
 root:S[s]?=Gc (.lst [.ref l,shD st.hold,.ref m])
 lo:S[l]?=Gc (.lst (as.map .ref))
 nu:S[m]?=Gc (.lst (st.nums.map .int))
 ld:∀(i a:Nat) (x:Ld),as[i]?=Gc a->st.AA[i]?=Gc x->S[a]?=Gc (CJ x)
 len:as.length=st.AA.length
 nd:(s::l::m::as).Nodup
theorem Z8:∀{ls:Wp Ld} {acc} {o} {S},acc.length+ls.length<=100->BA [] (tNm 0) Ai (Ze (o1 N5) [eV 0]) (ls.map Ld.d) acc [o] S=Gc (acc++(List.range' S.length ls.length).map D.ref,S++ls.map CJ)
 | [],acc,o,S,h=>by rw[vM,Cc AI];simp
 |x::ls,acc,o,S,h=>by
  rw[uV,FO (E1:=[Gc x.d]) AI (uI (show acc.length<101 by simp at h;lia) (AK (by decide))) (by simp) Fm]
  have:Ze (o1 N5) [eV 0] [Gc x.d] S=Gc (.ref S.length,S++[CJ x]):=by simp[Ld.d,CJ]
  rw[this,Au,Z8 (by simp at h ⊢; lia)]
  simp[List.range'_succ]
def getElem?_at{α:Type}{xs:Wp α}{x:α}(h:n=xs.length):(xs++[x])[n]?=Gc x:=by subst h;exact uZ
def Tp{t:Tr}(hl:ls.length<=20):∃s l m as S',Ee [.tup [t.d,.tup (ls.map Ld.d),x]] S=Gc (.ref s,S')/\SAt S' s l m as ⟨ls,t.ho,[]⟩/\Bh [] S S'/\(∀n∈s::l::m::as,S.length<=n):=by
 have e:=Z8 (ls:=ls) (acc:=[]) (o:=none) (S:=S) (by simp;lia)
 refine⟨S.length+ls.length+2,S.length+ls.length,S.length+ls.length+1,List.range' S.length ls.length,S++ls.map CJ++[.lst ((List.range' S.length ls.length).map D.ref)]++[.lst []]++[.lst [.ref (S.length+ls.length),shD t.ho,.ref (S.length+ls.length+1)]],?_,⟨?_,?_,?_,?_,?_,?_⟩,?_,?_⟩
 .simp[Ee,NQ,Tr.d,e,shD]
  lia
 .exact getElem?_at (by simp;lia)
 .rw[uK (by simp),uK (by simp)]
  exact getElem?_at (by simp)
 .rw[uK (by simp;lia)]
  exact getElem?_at (by simp;lia)
 .intro i a y ha hy
  have hi:i<ls.length:=(uU.mp hy).1
  have:a=S.length+i:=by
   rw[List.getElem?_range' hi]at ha
   simp at ha;lia
  subst this
  rw[uK (by simp;lia),uK (by simp;lia),uK (by simp;lia),vU (by lia)]
  have hy':ls[i]?=Gc y:=hy
  simp[hy']
 .simp
 .rw[wL,wL,wL]
  refine⟨?_,?_,?_,List.nodup_range'⟩
  .simp only[uS,yw];lia
  .simp only[uS,yw];lia
  .simp only[yw];lia
 .rw[yL,yL,yL]
  exact .app
 .intro n hn
  simp only[uS,yw]at hn
  lia
section
variable{S:Sto}{p:Nat}
@[simp] def sQ:sqD S (shD rs)=some (rs.map aD,[]):=rfl
@[simp] def tL:dr S (shD rs)=.val (shD rs):=rfl
@[simp] def p0:asS (.val (shD rs))=some (rs.map aD):=rfl
@[simp] def pD:dr (S++[.lst r]) (.ref S.length)=.own r:=Aq List.getElem?_concat_length
@[simp] def d8:EX (S++[.lst r]) S.length=some r:=AN List.getElem?_concat_length
def set_same(h:S[q]?=Gc c):S.set q c=S:=by
 apply xk
 intro i
 by_cases e:q=i
 .subst e;rw[uX (AV h),h]
 .rw[uQ e]
theorem RD{gs:Gd}{t:Tf}{b:Ex}{I:Sto->Prop}(hg:∀S,I S->gOk gs S)(hI:∀S c,I S->I (S.set q c)):∀{ds acc} {os} {S},os.length=m->I S->S[q]?=Gc (.lst acc)->acc.length+ds.length<=1000->(∀d∈ds,∀os S acc,os.length=m->I S->S[q]?=Gc (.lst acc)->acc.length<sizeLine->∃us us',t d (C++os) S=Gc (C++us)/\b (C++us) S=Gc (.nx,C++us',S.set q (.lst (acc++[h d])))/\us'.length=m)->∃os',os'.length=m/\Jj gs t b ds (C++os) S=Gc (.nx,C++os',S.set q (.lst (acc++ds.map h)))
 | [],acc,os,S,ho,hS,hq,hz,H=>⟨os,ho,by
     rw[Fe (hg S hS)]
     have:S.set q (.lst (acc++List.map h []))=S:=by
      rw[vM,xZ]
      exact set_same hq
     rw[this]⟩
 |d::ds,acc,os,S,ho,hS,hq,hz,H=>by
  have hl:=AV hq
  obtain⟨us,us',e1,e2,hu⟩:=H d uO os S acc ho hS hq (uI (show acc.length<1001 by simp at hz;lia) (uH (by decide) (show 1001<=sizeLine by decide)))
  obtain⟨os',ho',e3⟩:=RD hg hI (ds:=ds) (acc:=acc++[h d]) (os:=us') (S:=S.set q (.lst (acc++[h d]))) hu (hI S _ hS) (uX hl) (by simp at hz ⊢; lia) λd' hd=>H d' (uL _ hd)
  refine⟨os',ho',?_⟩
  rw[DO (hg S hS),e1,Au,e2,Au,Rm,e3,List.set_set]
  simp
noncomputable def un:D->Rat
 | .tup [.int n,.int d]=>(n:Rat) / (d:Rat)
 |_=>0
def de r:un (aD r)=r:=DH r
noncomputable def RV(f:Rat->Rat->Rat):D->D
 | .tup [a,b]=>aD (f (un a) (un b))
 |d=>d
theorem Pt:∀{ss os},(JC (ss.map aD) (os.map aD)).map (RV f)=(yv f ss os).map aD
 | [],os=>by simp[JC]
 |s::ss,[]=>by simp[JC]
 |s::ss,o::os=>by
  have ih:=Pt (f:=f) (ss:=ss) (os:=os)
  unfold JC at ih⊢
  simp only[uV,List.zip_cons_cons,AAv]at ih⊢
  rw[ih]
  simp[RV,de]
def U3{ss os:Wp Rat}(h:d∈JC (ss.map aD) (os.map aD)):∃s∈ss,∃o∈os,d=.tup [aD s,aD o]:=by
 unfold JC at h
 obtain⟨⟨a,b⟩,h1,rfl⟩:=uo.mp h
 have h2:=yF h1
 obtain⟨s,hs,rfl⟩:=uo.mp h2.1
 obtain⟨o,ho,rfl⟩:=uo.mp h2.2
 exact⟨s,hs,o,ho,rfl⟩
theorem ZM:aD 1=.tup [.int 1,.int 1]:=rfl
def G9(n:Int):aD (n:Rat)=.tup [.int n,.int 1]:=by
 unfold aD
 simp
def IH{n:Int}(h:n.natAbs<2^k)(hk:1<=k):Sz k (n:Rat):=by
 unfold Sz
 have:1<2^k:=AAA (by lia)
 simp[h,this]
def ZX(hk:1<=k):Sz k (1:Rat):=by
 have:1<2^k:=AAA (by lia)
 exact⟨by simpa using this,by simpa using this⟩
def Ts{ss os:Wp Rat}(hs:∀r∈ss,Sz j r)(ho:∀r∈os,Sz j r)(hx:Sz i x)(hj:2*j+2*i<=7900)(hl:ss.length<=10):∃S',Eo [shD ss,aD x,shD os] S=Gc (shD (Gy x os ss),S')/\Bh [] S S':=by
 have hq:(S++[Cl.lst []])[S.length]?=Gc (.lst []):=uZ
 obtain⟨os',ho',e⟩:=RD (gs:=[]) (t:=tTp [tNm 4,tNm 5]) (b:=Bi (Nm Nq (eV 3) [AB Ak [AB Ag [eV 4,AB Cj [BM [eC (.int 1),eC (.int 1)],eV 1]],AB Ag [eV 5,eV 1]]])) (C:=[Gc (shD ss),Gc (aD x),Gc (shD os),Gc (.ref S.length)]) (m:=2) (q:=S.length) (h:=RV λs o=>s*(1-x)+o*x) (I:=λ_=>ze) (λ_ _=>AI) (λ_ _ _=>trivial)
  (ds:=JC (ss.map aD) (os.map aD)) (acc:=[]) (os:=[none,none]) (S:=S++[Cl.lst []]) rfl trivial hq (by simp[MQ];lia) (by
    intro d hd os0 S0 acc h0 _ hq0 hz
    obtain⟨o1,o2,rfl⟩:=eA h0
    obtain⟨s,hs',o,ho',rfl⟩:=U3 hd
    have l1:=Vl (S:=S0) (ZX (k:=1) (by decide)) hx (by lia)
    have s1:=(aH (ZX (k:=1) (by decide)) hx)
    have l2:=HG (S:=S0) (hs s hs') s1 (by lia)
    have l3:=HG (S:=S0) (ho o ho') hx (by lia)
    have l4:=H0 (S:=S0) (ON (hs s hs') s1) (ON (ho o ho') hx) (by lia)
    rw[ZM]at l1
    refine⟨[Gc (aD s),Gc (aD o)],[Gc (aD s),Gc (aD o)],by simp,?_,rfl⟩
    simp[l1,l2,l3,l4,AN hq0,hz,RV,de])
 rw[Pt]at e
 refine⟨(S++[Cl.lst []]).set S.length (.lst ((Gy x os ss).map aD)),?_,?_⟩
 .have e':Jj [] (tTp [tNm 4,tNm 5]) (Bi (Nm Nq (eV 3) [AB Ak [AB Ag [eV 4,AB Cj [BM [eC (.int 1),eC (.int 1)],eV 1]],AB Ag [eV 5,eV 1]]])) (JC (ss.map aD) (os.map aD)) [Gc (shD ss),Gc (aD x),Gc (shD os),Gc (.ref S.length),none,none] (S++[Cl.lst []])=Gc (.nx,[Gc (shD ss),Gc (aD x),Gc (shD os),Gc (.ref S.length)]++os',(S++[Cl.lst []]).set S.length (.lst ((Gy x os ss).map aD))):=by simpa[Gy]using e
  simp[Eo,Nk,e']
  rfl
 .refine⟨by simp,λn hn _=>?_⟩
  rw[uQ (by lia),uK hn]
end
def getD_get{α:Type}{xs:Wp α}{d:α}(h:n<xs.length):xs[n]?=Gc (xs.getD n d):=by
 rw[uY,uN h]
 rfl
def getD_mem{α:Type}{xs:Wp α}{d:α}(h:n<xs.length):xs.getD n d∈xs:=uy (getD_get h)
def Na{ss:Wp Rat}(h:n<ss.length):atI (ss.map aD) (n:Int)=Gc (aD (ss.getD n 0)):=BU (by rw[uR,getD_get h];rfl)
def Zm{ss:Wp Rat}(h:n<ss.length):ixN (ss.map aD).length (n:Int)=Gc n:=Ic (by simpa using h)
def Uv(hs:∀r∈ss,Sz j r)(hx:Sz i x)(hj:2*j+i<=7900)(hp:p<ss.length)(hq:q<ss.length)(hpq:p≠q):∃S',Ff [shD ss,(AR.HP p q x).d] S=Gc (shD (F3 p q x ss),S')/\Bh [] S S':=by
 have sp:=hs _ (getD_mem (d:=0) hp)
 have sq:=hs _ (getD_mem (d:=0) hq)
 have l1:∀S,Ag [aD (ss.getD p 0),aD x] S=Gc (aD (ss.getD p 0*x),S):=λS=>HG sp hx (by lia)
 have s1:=ON sp hx
 have l2:∀S,Cj [aD (ss.getD p 0),aD (ss.getD p 0*x)] S=Gc (aD (ss.getD p 0-ss.getD p 0*x),S):=λS=>Vl sp s1 (by lia)
 have l3:∀S,Ak [aD (ss.getD q 0),aD (ss.getD p 0*x)] S=Gc (aD (ss.getD q 0+ss.getD p 0*x),S):=λS=>H0 sq s1 (by lia)
 have a1:=Na hp
 have i1:=Zm hp
 have i2:ixN (((ss.map aD).set p (aD (ss.getD p 0-ss.getD p 0*x))).length) (q:Int)=Gc q:=Ic (by simpa using hq)
 have a2:atI ((ss.map aD).set p (aD (ss.getD p 0-ss.getD p 0*x))) (q:Int)=Gc (aD (ss.getD q 0)):=BU (by
  rw[uQ hpq,uR,getD_get hq];rfl)
 refine⟨S++[.lst ((F3 p q x ss).map aD)],?_,.app⟩
 simp only[wW,ux]at i1 i2
 have em:(F3 p q x ss).map aD=((ss.map aD).set p (aD (ss.getD p 0-ss.getD p 0*x))).set q (aD (ss.getD q 0+ss.getD p 0*x)):=by rw[F3,xH,xH]
 unfold shD
 rw[em]
 generalize aD (ss.getD p 0-ss.getD p 0*x)=d1 at*
 generalize aD (ss.getD q 0+ss.getD p 0*x)=d2 at*
 generalize aD (ss.getD p 0*x)=d3 at*
 generalize aD (ss.getD p 0)=d4 at*
 generalize aD (ss.getD q 0)=d5 at*
 simp[Ff,OR,AR.d,a1,l1,l2,l3,i1,i2,a2]
def Vm(ha:S[a]?=Gc (CJ x))(hb:S[b]?=Gc (CJ y))(hs:∀r∈x.ow,Sz j r)(ho:∀r∈y.ow,Sz j r)(hx:x.n.natAbs<2^i)(hy:y.n.natAbs<2^i)(h0:0<x.n+y.n)(h1:1<=i)(hj:2*j+4*i<=7900)(hl:x.ow.length<=10):∃S',GW [.ref a,.ref b] S=Gc (shD (B3 x.n y.n x.ow y.ow),S')/\Bh [] S S':=by
 have la:=AV ha
 have lb:=AV hb
 have hq:(S++[Cl.lst []])[S.length]?=Gc (.lst []):=uZ
 have ha':(S++[Cl.lst []])[a]?=Gc (CJ x):=by rw[uK la];exact ha
 have hb':(S++[Cl.lst []])[b]?=Gc (CJ y):=by rw[uK lb];exact hb
 obtain⟨os',ho',e⟩:=RD (gs:=[]) (t:=tTp [tNm 3,tNm 4]) (b:=AQ (A9 5 (AB Ak [AB Ag [BM [eOp (o2 wIx) [eV 0,eC (.int 1)],eC (.int 1)],eV 3],AB Ag [BM [eOp (o2 wIx) [eV 1,eC (.int 1)],eC (.int 1)],eV 4]]))
  (Bi (Nm Nq (eV 2) [AB Ag [eV 5,AB Bo [eC (.int 1),eOp (o2 Cr) [eOp (o2 wIx) [eV 0,eC (.int 1)],eOp (o2 wIx) [eV 1,eC (.int 1)]]]]]))) (C:=[Gc (.ref a),Gc (.ref b),Gc (.ref S.length)]) (m:=3) (q:=S.length) (h:=RV λs o=>(s*x.n+o*y.n) / (x.n+y.n:Int)) (I:=λS'=>S'[a]?=Gc (CJ x)/\S'[b]?=Gc (CJ y)) (λ_ _=>AI) (λS' c h=>⟨by rw[uQ (by lia)];exact h.1,by rw[uQ (by lia)];exact h.2⟩)
  (ds:=JC (x.ow.map aD) (y.ow.map aD)) (acc:=[]) (os:=[none,none,none]) (S:=S++[Cl.lst []]) rfl ⟨ha',hb'⟩ hq (by simp[MQ];lia) (by
    intro d hd os0 S0 acc h0' hI hq0 hz
    obtain⟨o1,o2,o3,rfl⟩:=pG h0'
    obtain⟨s,hs',o,ho',rfl⟩:=U3 hd
    have d1:=Aq hI.1
    have d2:=Aq hI.2
    have z1:=IH hx h1
    have z2:=IH hy h1
    have l1:=HG (S:=S0) z1 (hs s hs') (by lia)
    have l2:=HG (S:=S0) z2 (ho o ho') (by lia)
    have s1:=ON z1 (hs s hs')
    have s2:=ON z2 (ho o ho')
    have l3:=H0 (S:=S0) s1 s2 (by lia)
    have b1:=Iv hx hy
    have l4:=YU (S:=S0) (t:=1) h0 (C4 b1 (by lia))
    have s4:Sz (i+1) (((1:Int):Rat) / ((x.n+y.n:Int):Rat)):=Kh h0 (show(1:Int).natAbs<2^(i+1)from AAA (by lia)) b1
    have l5:=HG (S:=S0) (Zl s1 s2) s4 (by lia)
    rw[G9]at l1 l2
    refine⟨[Gc (aD s),Gc (aD o),o3],[Gc (aD s),Gc (aD o),Gc (aD (x.n*s+y.n*o))],by simp,?_,rfl⟩
    have ev:(((x.n:Rat)*s+(y.n:Rat)*o)*(((1:Int):Rat) / ((x.n+y.n:Int):Rat)))=(s*x.n+o*y.n) / (x.n+y.n:Int):=by
     push_cast
     grind
    rw[ev]at l5
    have lf:(RV λs o=>(s*x.n+o*y.n) / (x.n+y.n:Int)) (.tup [aD s,aD o])=aD ((s*x.n+o*y.n) / (x.n+y.n:Int)):=by simp only[RV,de]
    rw[lf]
    generalize aD ((s*x.n+o*y.n) / (x.n+y.n:Int))=e5 at*
    generalize aD (((1:Int):Rat) / ((x.n+y.n:Int):Rat))=e4 at*
    generalize aD (x.n*s+y.n*o)=e3 at*
    simp[d1,d2,CJ,l1,l2,l3,l4,l5,AN hq0,hz])
 rw[Pt]at e
 refine⟨(S++[Cl.lst []]).set S.length (.lst ((B3 x.n y.n x.ow y.ow).map aD)),?_,?_⟩
 .have e':=e
  simp only[vD,ur]at e'
  have d1:=Aq ha'
  have d2:=Aq hb'
  change Jj _ _ _ _ _ _=Gc (_,_,List.set _ _ (Cl.lst (List.map aD (B3 x.n y.n x.ow y.ow))))at e'
  generalize B3 x.n y.n x.ow y.ow=rs at*
  simp[GW,Lo,d1,d2,e',shD]
 .refine⟨by simp,λn hn _=>?_⟩
  rw[uQ (by lia),uK hn]
section
variable{S:Sto}{p:Nat}
theorem A6{α:Type}{gs:Gd}{t:Tf}{f:Ev}{C:En}{m:Nat}{e g:α->D}{S:Sto}(hg:gOk gs S):∀{xs:Wp α} {acc:Wp D} {os:En},os.length=m->acc.length+xs.length<=sizeLine->(∀x∈xs,∀os,os.length=m->∃us,us.length=m/\t (e x) (C++os) S=Gc (C++us)/\f (C++us) S=Gc (g x,S))->BA gs t Ai f (xs.map e) acc (C++os) S=Gc (acc++xs.map g,S)
 | [],acc,os,ho,hz,h=>by rw[vM,Cc hg];simp
 |x::xs,acc,os,ho,hz,h=>by
  obtain⟨us,hu,e1,e2⟩:=h x uO os ho
  rw[uV,FO hg (by simp at hz;lia) e1 Fm,e2,Au]
  rw[A6 hg hu (by simp at hz ⊢; lia) λx' hx=>h x' (uL _ hx)]
  simp
theorem C3{α:Type}{gs:Gd}{t:Tf}{c f:Ev}{C:En}{m:Nat}{e g:α->D}{b:α->va}{S:Sto}(hg:gOk gs S):∀{xs:Wp α} {acc:Wp D} {os:En},os.length=m->acc.length+xs.length<=sizeLine->(∀x∈xs,∀os,os.length=m->∃us,us.length=m/\t (e x) (C++os) S=Gc (C++us)/\c (C++us) S=Gc (.bl (b x),S)/\f (C++us) S=Gc (g x,S))->BA gs t c f (xs.map e) acc (C++os) S=Gc (acc++(xs.filter b).map g,S)
 | [],acc,os,ho,hz,h=>by rw[vM,Cc hg];simp
 |x::xs,acc,os,ho,hz,h=>by
  obtain⟨us,hu,e1,e2,e3⟩:=h x uO os ho
  cases hb:b x with
  |true=>
   rw[hb]at e2
   rw[uV,FO hg (by simp at hz;lia) e1 e2,e3,Au,C3 hg hu (by simp at hz ⊢; lia) λd' hd=>h d' (uL _ hd)]
   simp[hb]
  |false=>
   rw[hb]at e2
   rw[uV,CD hg (by simp at hz;lia) e1 e2,C3 hg hu (by simp at hz ⊢; lia) λd' hd=>h d' (uL _ hd)]
   simp[hb]
def Yx{as:Wp Nat}{ls:Wp Ld}(h:as.length=ls.length):as.map D.ref=(as.zip ls).map λz=>D.ref z.1:=by
 have:as=(as.zip ls).map Prod.fst:=(List.map_fst_zip (by lia)).symm
 conv=>lhs;rw[this]
 rw[uh];rfl
def cF{β:Type}{as:Wp Nat}{ls:Wp Ld}(h:as.length=ls.length)(g:Ld->β):ls.map g=(as.zip ls).map λz=>g z.2:=by
 have:ls=(as.zip ls).map Prod.snd:=(List.map_snd_zip (by lia)).symm
 conv=>lhs;rw[this]
 rw[uh];rfl
section
variable{s l m:Nat}{as:Wp Nat}{st:Stt}
def SAt.sv(h:SAt S s l m as st){z:Nat×Ld}(hz:z∈as.zip st.AA):S[z.1]?=Gc (CJ z.2):=by
 obtain⟨i,hi⟩:=xU.mp hz
 have:=AAC.mp hi
 exact h.ld i z.1 z.2 this.1 this.2
def SAt.at(h:SAt S s l m as st){i:Nat}(hi:i<st.AA.length):∃a,as[i]?=Gc a/\S[a]?=Gc (CJ (AL st.AA i))/\atI (as.map D.ref) (i:Int)=Gc (.ref a):=by
 have h1:i<as.length:=by rw[h.len];exact hi
 refine⟨as[i],uN h1,h.ld i _ _ (uN h1) (DN hi),BU (by rw[uR,uN h1];rfl)⟩
def SAt.guard(h:SAt S s l m as st):gOk [(l,as.map D.ref)] S:=by
 intro g hg
 simp only[uS,vB,vy]at hg
 subst hg
 exact AN h.lo
end
theorem TZ{M:Int}(hM:0<=M):∀{xs:Wp Int},(∀x∈xs,0<=x/\x<=M)->0<=xs.sum/\xs.sum<=xs.length*M
 | [],_=>by simp
 |x::xs,h=>by
  have h1:=h x uO
  have h2:=TZ hM λy hy=>h y (uL _ hy)
  simp only[uj,vY]
  refine⟨by lia,?_⟩
  have:((xs.length+1:Nat):Int)*M=xs.length*M+M:=by push_cast;grind
  lia
theorem OY:∀{xs:Wp Int} {y:Int},(∀x∈xs,0<=x)->y∈xs->y<=xs.sum
 |x::xs,y,h,hy=>by
  have h1:=h x uO
  have h2:0<=xs.sum:=by
   clear hy
   induction xs with
   |nil=>simp
   |cons z zs ih=>
    have:=h z (by simp)
    have:=ih λw hw=>h w (by simp at hw ⊢; rcases hw with hw|hw<;>simp[hw])
    simp only[uj];lia
  simp only[uj]
  rcases uS.mp hy with e|e
  .lia
  .have:=OY (λz hz=>h z (uL _ hz)) e
   lia
section
variable{t:Tr}{k:Nat}{st:Stt}{ws:Wp Int}{n:Int}{l:Nat}
def GJ{i:Nat}(hw:∀w∈ws,1<=w/\w<=99)(hi:i<ws.length):1<=ws.getD i 0/\ws.getD i 0<=99:=hw _ (getD_mem hi)
def KH{i:Nat}(hi:i<ws.length):atI (ws.map D.int) (i:Int)=Gc (.int (ws.getD i 0)):=BU (by rw[uR,getD_get hi];rfl)
def Oq(hi:ws.length=k+1):atI (ws.map D.int) (-1:Int)=Gc (.int (ws.getD k 0)):=by
 have ix:ixN (ws.map D.int).length (-1)=Gc k:=by
  rw[ux,hi]
  unfold ixN
  simp
  lia
 unfold atI
 rw[ix]
 show(ws.map D.int)[k]?=_
 rw[uR,getD_get (d:=(0:Int)) (by lia)]
 rfl
def KZ(ht:Hu t)(h:FH t k st)(hk:k<=20)(hl:ws.length=t.k+1)(hw:∀w∈ws,1<=w/\w<=99):0<EY t st.AA ws/\EY t st.AA ws<2^(145+k):=by
 obtain⟨t1,t2,t3,t4,t5,t6⟩:=ht
 have hP:(0:Int)<=2^(131+k):=xF (Int.pow_pos (by decide))
 have hs:=TZ (M:=2^(131+k)*99) (by lia) (xs:=st.AA.map λl=>l.n*ws.getD l.k 0) (by
  intro x hx
  obtain⟨y,hy,rfl⟩:=uo.mp hx
  have h1:=h.pcs y hy
  have h2:=GJ hw (i:=y.k) (by have:=h.kind y hy;lia)
  refine⟨AAB h1.1 (by lia),ABJ (by lia) h2.2 (by lia) hP⟩)
 have hb:=GJ hw (i:=t.k) (by lia)
 have hlen:=h.len
 rw[ux]at hs
 have h3:(st.AA.length:Int)*(2^(131+k)*99)<=24*(2^(131+k)*99):=xw (by lia) (by lia)
 have h4:(1:Int)<=t.b*ws.getD t.k 0:=by
  have:0<(t.b:Int)*ws.getD t.k 0:=vi (by lia) (by lia)
  lia
 have h5:t.b*ws.getD t.k 0<=20*99:=ABJ (by lia) hb.2 (by lia) (by decide)
 have h6:(2:Int)^(145+k)=2^(131+k)*16384:=by rw[show 145+k=(131+k)+14 by lia,Int.pow_add];rfl
 have h7:(1:Int)<=2^(131+k):=by have:(0:Int)<2^(131+k):=Int.pow_pos (by decide);lia
 have h7':(2:Int)^11<=2^(131+k):=by
  have:(2^11:Nat)<=2^(131+k):=uz (by decide) (by lia)
  exact_mod_cast this
 unfold EY
 rw[h6]
 generalize (2:Int)^(131+k)=P at*
 exact⟨Int.add_pos_of_nonneg_of_pos hs.1 (xT (by decide) h4),v7 (Int.add_le_add (AAw hs.2 h3) h5) (by clear h3 hs h4 h5 h6;lia)⟩
def Wx(ht:Hu t)(h:FH t k st)(hl:ws.length=t.k+1)(hw:∀w∈ws,1<=w/\w<=99)(hi:l<st.AA.length)(h1:1<=n)(h2:n<=(AL st.AA l).n):0<n*ws.getD (AL st.AA l).k 0/\n*ws.getD (AL st.AA l).k 0<EY t st.AA ws:=by
 obtain⟨t1,t2,t3,t4,t5,t6⟩:=ht
 have hw1:=GJ hw (i:=(AL st.AA l).k) (by have:=h.kind _ (AU hi);lia)
 have hb:=GJ hw (i:=t.k) (by lia)
 have h4:(1:Int)<=t.b*ws.getD t.k 0:=by
  have:0<(t.b:Int)*ws.getD t.k 0:=vi (by lia) (by lia)
  lia
 have h5:=OY (xs:=st.AA.map λl=>l.n*ws.getD l.k 0) (y:=(AL st.AA l).n*ws.getD (AL st.AA l).k 0) (by
  intro x hx
  obtain⟨y,hy,rfl⟩:=uo.mp hx
  have h1:=h.pcs y hy
  have h2:=GJ hw (i:=y.k) (by have:=h.kind y hy;lia)
  exact AAB h1.1 (by lia)) (uo.mpr ⟨_,AU hi,rfl⟩)
 have h6:n*ws.getD (AL st.AA l).k 0<=(AL st.AA l).n*ws.getD (AL st.AA l).k 0:=xw h2 (by lia)
 refine⟨vi (by lia) (by lia),?_⟩
 exact v7 (AAw h6 h5) (Int.lt_add_of_pos_right _ (xT Int.zero_lt_one h4))
def MT(hi:l<st.AA.length):JX t st.AA l n ws=((n*ws.getD (AL st.AA l).k 0:Int):Rat) / (EY t st.AA ws:Rat):=by
 unfold JX
 rw[DN hi]
 rfl
def EC{x:Int}{j:Nat}(h0:0<=x)(h1:x<2^j):x.natAbs<2^j:=by
 have:((x.natAbs:Nat):Int)<((2^j:Nat):Int):=by
  rw[ABK h0];push_cast;exact h1
 exact_mod_cast this
def WJ(ht:Hu t)(h:FH t k st)(hk:k<=20)(hl:ws.length=t.k+1)(hw:∀w∈ws,1<=w/\w<=99)(hi:l<st.AA.length)(h1:1<=n)(h2:n<=(AL st.AA l).n):Sz (145+k) (JX t st.AA l n ws):=by
 have a:=KZ ht h hk hl hw
 have b:=Wx ht h hl hw hi h1 h2
 rw[MT hi]
 exact Kh a.1 (EC (by lia) (by lia)) (EC (by lia) a.2)
def bP{s r m:Nat}{as:Wp Nat}(hS:SAt S s r m as st)(ht:Hu t)(h:FH t k st)(hk:k<=20)(hl:ws.length=t.k+1)(hw:∀w∈ws,1<=w/\w<=99)(hi:l<st.AA.length)(h1:1<=n)(h2:n<=(AL st.AA l).n):Ir [t.d,.ref r,(AR.thr l n ws).d] S=Gc (aD (JX t st.AA l n ws),S):=by
 have a:=KZ ht h hk hl hw
 obtain⟨x,x1,x2,x3⟩:=hS.at hi
 have hlen:=h.len
 have e:=A6 (gs:=[(r,as.map D.ref)]) (t:=tTp [tNm 1,tNm 2,tNm 3]) (f:=eOp (o2 BH) [eV 2,eOp (o2 wIx) [eV 0,eV 1]]) (C:=[Gc (.tup (ws.map D.int))]) (m:=3) (e:=λz:Nat×Ld=>D.ref z.1) (g:=λz=>D.int (z.2.n*ws.getD z.2.k 0)) hS.guard (xs:=as.zip st.AA) (acc:=[]) (os:=[none,none,none]) rfl (uH (show _<=24 by simp;lia) (AK (by decide))) (by
  intro z hz os ho
  obtain⟨q1,q2,q3,rfl⟩:=pG ho
  have c1:=hS.sv hz
  have hm:z.2∈st.AA:=(yF (a:=z.1) (b:=z.2) hz).2
  have hk:=h.kind _ hm
  have w1:=KH (ws:=ws) (i:=z.2.k) (by lia)
  have w2:=GJ hw (i:=z.2.k) (by lia)
  have m1:C8 z.2.n (ws.getD z.2.k 0)=true:=mulR (by lia) (by lia)
  generalize ws.getD z.2.k 0=wz at*
  refine⟨[Gc (.int z.2.k),Gc (.int z.2.n),Gc (shD z.2.ow)],rfl,?_,?_⟩
  .simp[AN c1,CJ]
  .simp[w1,m1])
 rw[<-Yx hS.len,<-cF hS.len (λx=>D.int (x.n*ws.getD x.k 0))]at e
 have e':=e
 simp only[vD,ur]at e'
 rw[MT hi]
 have es:Jh (st.AA.map λx=>D.int (x.n*ws.getD x.k 0))=Gc (st.AA.map λx=>x.n*ws.getD x.k 0):=by
  have:=CF (st.AA.map λx=>x.n*ws.getD x.k 0)
  rwa [uh]at this
 have w1:=KH (ws:=ws) (i:=(AL st.AA l).k) (by have:=h.kind _ (AU hi);lia)
 have w3:=GJ hw (i:=(AL st.AA l).k) (by have:=h.kind _ (AU hi);lia)
 have w2:=Oq hl
 have w4:=GJ hw (i:=t.k) (by lia)
 have m1:C8 n (ws.getD (AL st.AA l).k 0)=true:=mulR (by lia) (by lia)
 have m2:C8 (t.b:Int) (ws.getD t.k 0)=true:=mulR (by lia) (by lia)
 have l1:=YU (S:=S) (t:=n*ws.getD (AL st.AA l).k 0) a.1 (C4 (EC (by lia) a.2) (by lia))
 have e2:EY t st.AA ws=(st.AA.map λx=>x.n*ws.getD x.k 0).sum+t.b*ws.getD t.k 0:=rfl
 rw[e2]at l1⊢
 generalize aD (((n*ws.getD (AL st.AA l).k 0:Int):Rat) / (((st.AA.map λx=>x.n*ws.getD x.k 0).sum+t.b*ws.getD t.k 0:Int):Rat))=R at*
 generalize (st.AA.map λx=>x.n*ws.getD x.k 0)=es' at*
 generalize (st.AA.map λx=>D.int (x.n*ws.getD x.k 0))=es2 at*
 generalize ws.getD (AL st.AA l).k 0=wa at*
 generalize ws.getD t.k 0=wb at*
 have dx:=Aq x2
 have dl:=Aq hS.lo
 simp[Ir,Ol,AR.d,Tr.d,C7 hS.lo,e',es,w2,m2,dl,x3,dx,CJ,w1,m1,l1]
def VU{G B:Nat}(ht:Hu t)(h:FH t k st)(hk:k<=20)(hl:ws.length=t.k+1)(hw:∀w∈ws,1<=w/\w<=99)(hi:l<st.AA.length)(h1:1<=n)(h2:n<=(AL st.AA l).n){os ss:Wp Rat}(ho:∀r∈os,Ok G B r)(hs:∀r∈ss,Ok G B r):∀r∈Gy (JX t st.AA l n ws) os ss,Ok (G*(EY t st.AA ws).toNat) (B*(EY t st.AA ws).toNat) r:=by
 have a:=KZ ht h hk hl hw
 have b:=Wx ht h hl hw hi h1 h2
 intro r hr
 unfold Gy at hr
 rw[xU]at hr
 obtain⟨i,hi'⟩:=hr
 rw[x8]at hi'
 obtain⟨x,y,hx,hy,rfl⟩:=hi'
 rw[MT hi]
 generalize n*ws.getD (AL st.AA l).k 0=c at*
 generalize EY t st.AA ws=W at*
 have:=Ok.mix (a:=(W-c).toNat) (b:=c.toNat) (t:=W.toNat) (hs x (uy hx)) (ho y (uy hy)) (by rw[<-Int.toNat_add (Int.sub_nonneg_of_le (xF b.2)) (xF b.1),Int.sub_add_cancel]) (Int.pos_iff_toNat_pos.mp a.1)
 have e1:(((W-c).toNat:Nat):Rat)=(W:Rat)-(c:Rat):=by
  have:(((W-c).toNat:Nat):Int)=W-c:=vQ (by lia)
  have:((((W-c).toNat:Nat):Int):Rat)=((W-c:Int):Rat):=by rw[this]
  push_cast at this
  exact this
 have e2:((c.toNat:Nat):Rat)=(c:Rat):=by
  have:((c.toNat:Nat):Int)=c:=vQ (by lia)
  have:(((c.toNat:Nat):Int):Rat)=(c:Rat):=by rw[this]
  exact this
 have e3:((W.toNat:Nat):Rat)=(W:Rat):=by
  have:((W.toNat:Nat):Int)=W:=vQ (by lia)
  have:(((W.toNat:Nat):Int):Rat)=(W:Rat):=by rw[this]
  exact this
 rw[e1,e2,e3]at this
 have ne:(W:Rat)≠0:=by
  intro z
  have:=wy.mp z
  lia
 have ev:(x*((W:Rat)-(c:Rat))+y*(c:Rat)) / (W:Rat)=x*(1-(c:Rat) / (W:Rat))+y*((c:Rat) / (W:Rat)):=by grind
 rw[ev]at this
 exact this
end
end
def cP(h:yK x=true)(g:yK y=true):Lb (.str x) (.str y)=true:=by
 unfold Lb
 show(yK x && yK y && _)=true
 rw[h,g]
 rfl
def bY(c:Char):c.toNat<1114112:=by
 have h:c.toNat.isValidChar:=c.valid
 rcases h with h|h
 .exact wm h (by decide)
 .exact h.2
def SJ:yK (wQ x)=true:=by
 unfold yK wQ
 simp
 intro c hc
 rw[cpsOfBytes_string]at hc
 obtain⟨ch,_,rfl⟩:=uo.mp hc
 exact bY ch
theorem QP:∀{a b:Wp Char},a.map Char.toNat=b.map Char.toNat->a=b
 | [],[],_=>rfl
 |x::a,y::b,h=>by
  rw[uV,uV]at h
  injection h with h1 h2
  rw[Char.toNat_inj.mp h1,QP h2]
 | [],_::_,h=>nomatch h
 |_::_,[],h=>nomatch h
def cu(h:wQ x=wQ y):x=y:=by
 rw[AAx,AAx]at h
 injection h with h
 exact String.toList_inj.mp (QP (by simpa using h))
@[simp] def tQ(x y:String):Lb (.str (Str.ofString x)) (.str (Str.ofString y))=true:=cP SJ SJ
@[simp] def tS(x y:String):deq (.str (Str.ofString x)) (.str (Str.ofString y))=decide (x=y):=by
  show(wQ x==wQ y)=_
  rw[xh,xN,wD]
  exact⟨cu,λz=>by rw[z]⟩
@[simp] def Yt:wIn false (.val (.str "bring")) (.val (.tup [.str "spoil",.str "throw"]))=some (.val (.bl false)):=rfl
@[simp] def mZ:wIn false (.val (.str "bring")) (.val Cn)=some (.val (.bl true)):=rfl
@[simp] def qO:wIn false (.val (.str "pool")) (.val Cn)=some (.val (.bl true)):=rfl
@[simp] def dY:wIn false (.val (.str "swap")) (.val (.tup [.str "swap",.str "trade"]))=some (.val (.bl true)):=rfl
@[simp] def pZ:wIn false (.val (.str "swap")) (.val Cn)=some (.val (.bl true)):=rfl
@[simp] def aB:wIn false (.val (.str "trade")) (.val (.tup [.str "swap",.str "trade"]))=some (.val (.bl true)):=rfl
@[simp] def og:wIn false (.val (.str "trade")) (.val Cn)=some (.val (.bl true)):=rfl
@[simp] def Zo:wIn false (.val (.str "spoil")) (.val (.tup [.str "swap",.str "trade"]))=some (.val (.bl false)):=rfl
@[simp] def Yb:wIn false (.val (.str "spoil")) (.val (.tup [.str "spoil",.str "throw"]))=some (.val (.bl true)):=rfl
@[simp] def oF:wIn false (.val (.str "spoil")) (.val Cn)=some (.val (.bl false)):=rfl
@[simp] def Z5:wIn false (.val (.str "throw")) (.val (.tup [.str "swap",.str "trade"]))=some (.val (.bl false)):=rfl
@[simp] def X1:wIn false (.val (.str "throw")) (.val (.tup [.str "spoil",.str "throw"]))=some (.val (.bl true)):=rfl
@[simp] def mY:wIn false (.val (.str "throw")) (.val Cn)=some (.val (.bl false)):=rfl
@[simp] def bw:wIn false (.val (.str "sell")) (.val (.tup [.str "swap",.str "trade"]))=some (.val (.bl false)):=rfl
@[simp] def Zn:wIn false (.val (.str "sell")) (.val (.tup [.str "spoil",.str "throw"]))=some (.val (.bl false)):=rfl
@[simp] def qT:wIn false (.val (.str "sell")) (.val Cn)=some (.val (.bl false)):=rfl
@[simp] def fA:dr S Cn=.val Cn:=rfl
section
variable{a b c d e f:D}
@[simp] def k8:Nt [a,b,c,d,e] (some (-4)) none=[b,c,d,e]:=rfl
@[simp] def lB:Nt [a,b,c,d,e,f] (some (-4)) none=[c,d,e,f]:=rfl
@[simp] def mD:Nt [a,b,c,d] (some 1) none=[b,c,d]:=rfl
@[simp] def kr:Nt [a,b,c,d,e] (some 1) (some 2)=[b]:=rfl
@[simp] def kC:Nt [a,b,c,d,e,f] (some 1) (some 2)=[b]:=rfl
@[simp] def jn:lG S ds [.tup zs]=if ds.length+zs.length<=sizeLine then some (.non,ds++zs)else none:=rfl
end
theorem SAt.same(h:SAt S s l m as st)(g:Bh A S S')(hA:∀n∈A,n∉s::l::m::as):SAt S' s l m as st where
 root:=g.get h.root λz=>hA _ z (by simp)
 lo:=g.get h.lo λz=>hA _ z (by simp)
 nu:=g.get h.nu λz=>hA _ z (by simp)
 ld:=λi a x ha hx=>g.get (h.ld i a x ha hx) λz=>hA _ z (by simp[uy ha])
 len:=h.len
 nd:=h.nd
def SAt.Ue(h:SAt S s l m as st)(g:Bh [] S S'):SAt S' s l m as st:=h.same g λ_ z=>(nomatch z)
def SAt.ne(h:SAt S s l m as st):s≠l/\s≠m/\l≠m/\s∉as/\l∉as/\m∉as/\as.Nodup:=by
 have:=h.nd
 simp only[wL,uS,AAp]at this
 obtain⟨⟨a,b,c⟩,⟨d,e⟩,f,g⟩:=this
 exact⟨a,b,d,c,e,f,g⟩
def SAt.RJ(h:SAt S s l m as st)(ha:as[i]?=Gc a):SAt (S.set a (CJ y)) s l m as {st with AA:=st.AA.set i y}:=by
 obtain⟨n1,n2,n3,n4,n5,n6,n7⟩:=h.ne
 have ma:=uy ha
 have q1:a≠s:=λe=>n4 (e▸ma)
 have q2:a≠l:=λe=>n5 (e▸ma)
 have q3:a≠m:=λe=>n6 (e▸ma)
 have hi:i<as.length:=(uU.mp ha).1
 have hi':i<st.AA.length:=by rw[<-h.len];exact hi
 refine⟨by rw[uQ q1];exact h.root,by rw[uQ q2];exact h.lo,by rw[uQ q3];exact h.nu,?_,by simp[h.len],h.nd⟩
 intro j b x hb hx
 by_cases e:i=j
 .subst e
  rw[ha]at hb
  cases hb
  have hx':(st.AA.set i y)[i]?=Gc x:=hx
  rw[uX hi']at hx'
  cases hx'
  have hl:a<S.length:=AV (h.ld i a _ ha (uN hi'))
  exact uX hl
 .have hx':(st.AA.set i y)[j]?=Gc x:=hx
  rw[uQ e]at hx'
  have:a≠b:=by
   intro z
   subst z
   exact e ((AAI hi n7).mp (ha.trans hb.symm))
  rw[uQ this]
  exact h.ld j b x hb hx'
def SAt.lts(h:SAt S s l m as st):∀n∈s::l::m::as,n<S.length:=by
 intro n hn
 simp only[uS]at hn
 rcases hn with rfl|rfl|rfl|hn
 .exact AV h.root
 .exact AV h.lo
 .exact AV h.nu
 .obtain⟨i,hi⟩:=xU.mp hn
  have:i<st.AA.length:=by rw[<-h.len];exact(uU.mp hi).1
  exact AV (h.ld i n _ hi (uN this))
def SAt.app(h:SAt S s l m as st) y:SAt ((S++[CJ y]).set l (.lst (as.map D.ref++[.ref S.length]))) s l m (as++[S.length]) {st with AA:=st.AA++[y]}:=by
 obtain⟨n1,n2,n3,n4,n5,n6,n7⟩:=h.ne
 have lt:=h.lts
 have ls:=lt s (by simp);have ll:=lt l (by simp);have lm:=lt m (by simp)
 have la:∀a∈as,a<S.length:=λa ha=>lt a (by simp[ha])
 refine⟨?_,?_,?_,?_,by simp[h.len],?_⟩
 .rw[uQ (vj n1),uK ls];exact h.root
 .rw[uX (by simp;lia)];simp
 .rw[uQ n3,uK lm];exact h.nu
 .intro i a x ha hx
  by_cases e:i<as.length
  .rw[uK e]at ha
   have hx':(st.AA++[y])[i]?=Gc x:=hx
   rw[uK (by rw[<-h.len];exact e)]at hx'
   have ma:=uy ha
   rw[uQ (show l≠a by rintro rfl;exact n5 ma),uK (la a ma)]
   exact h.ld i a x ha hx'
  .have hx':(st.AA++[y])[i]?=Gc x:=hx
   have:i=as.length:=by
    have:=(uU.mp ha).1
    simp at this;lia
   subst this
   rw[uZ]at ha
   cases ha
   rw[h.len,uZ]at hx'
   cases hx'
   rw[uQ (by lia),uZ]
 .have:(s::l::m::(as++[S.length]))=(s::l::m::as)++[S.length]:=by simp
  rw[this,AAJ]
  refine⟨h.nd,by simp,?_⟩
  intro a ha b hb e
  simp only[uS,vB,vy]at hb
  have:=lt a ha
  lia
def SAt.hold(h:SAt S s l m as st) rs:SAt (S.set s (.lst [.ref l,shD rs,.ref m])) s l m as {st with hold:=rs}:=by
 obtain⟨n1,n2,n3,n4,n5,n6,n7⟩:=h.ne
 refine⟨uX (h.lts s (by simp)),by rw[uQ n1];exact h.lo,by rw[uQ n2];exact h.nu,?_,h.len,h.nd⟩
 intro i a x ha hx
 rw[uQ (show s≠a by rintro rfl;exact n4 (uy ha))]
 exact h.ld i a x ha hx
def SAt.nums(h:SAt S s l m as st) us:SAt (S.set m (.lst (us.map D.int))) s l m as {st with nums:=us}:=by
 obtain⟨n1,n2,n3,n4,n5,n6,n7⟩:=h.ne
 refine⟨by rw[uQ (vj n2)];exact h.root,by rw[uQ (vj n3)];exact h.lo,uX (h.lts m (by simp)),?_,h.len,h.nd⟩
 intro i a x ha hx
 rw[uQ (show m≠a by rintro rfl;exact n6 (uy ha))]
 exact h.ld i a x ha hx
def QF{C:En}(h:SAt S s l m as st)(hi:C.length=i8)(hb:∀S' a x,x∈st.AA->S'[a]?=Gc (CJ x)->∃S2,body (C++[Gc (.ref a)]) S'=Gc (.nx,C++[Gc (.ref a)],S2.set a (CJ (f x)))/\Bh [] S' S2):∃o S',Jj [(l,as.map D.ref)] (tNm i8) body (as.map D.ref) (C++[o0]) S=Gc (.nx,C++[o],S')/\SAt S' s l m as {st with AA:=st.AA.map f}/\Bh as S S':=by
 obtain⟨E',S',e,i,o,i1,i2,rfl,i3,i4⟩:=DZ (gs:=[(l,as.map D.ref)]) (t:=tNm i8) (b:=body)
  (I:=λds E S'=>∃(i:Nat) (o:uM D),ds=(as.drop i).map D.ref/\i<=as.length/\E=C++[o]/\SAt S' s l m as {st with AA:=(st.AA.take i).map f++st.AA.drop i}/\Bh as S S')
  (λds E S' hI=>by obtain⟨i,o,_,_,_,h1,_⟩:=hI;exact h1.guard) (ds:=as.map D.ref) (E:=C++[o0]) (S:=S)
  ⟨0,o0,by simp,vZ _,rfl,by simpa using h,.refl⟩ (by
    rintro d ds E S1 ⟨i,o,i1,i2,rfl,i3,i4⟩
    have hlt:i<as.length:=by
     rcases yU i as.length with w|w
     .exact w
     .rw[vn w]at i1;cases i1
    rw[vK hlt,uV]at i1
    injection i1 with e1 e2
    subst e1 e2
    have hl2:i<st.AA.length:=by rw[<-h.len];exact hlt
    have ha:=uN hlt
    have hx:((st.AA.take i).map f++st.AA.drop i)[i]?=Gc st.AA[i]:=by
     rw[vU (by simp;lia)]
     simp[AA0 (xE hl2)]
    obtain⟨S2,e3,g3⟩:=hb S1 as[i] st.AA[i] (wg hl2) (i3.ld i _ _ ha hx)
    have k:=(i3.Ue g3).RJ (y:=f st.AA[i]) ha
    refine⟨C++[Gc (.ref as[i])],C++[Gc (.ref as[i])],S2.set as[i] (CJ (f st.AA[i])),?_,e3,i+1,Gc (.ref as[i]),rfl,hlt,rfl,?_,?_⟩
    .rw[dc]
     congr 1
     subst hi
     rw[ABB _ _ (uP _)]
     simp
    .have:((st.AA.take i).map f++st.AA.drop i).set i (f st.AA[i])=(st.AA.take (i+1)).map f++st.AA.drop (i+1):=by
      rw[ABB _ _ (by simp;lia)]
      have e0:i-((st.AA.take i).map f).length=0:=by simp;lia
      rw[e0,vK hl2,ABm,List.take_succ_eq_append_getElem hl2,ve]
      simp
     rw[<-this]
     exact k
    .exact(i4.trans (g3.mono λ_ z=>(nomatch z))).trans (.set (wg hlt)))
 refine⟨o,S',e,?_,i4⟩
 have hz:i=as.length:=by
  have:=congrArg yi i1
  simp at this
  lia
 have:(st.AA.take i).map f++st.AA.drop i=st.AA.map f:=by
  rw[hz,h.len];simp
 rw[this]at i3
 exact i3
section
variable{S S':Sto}{s l m:Nat}{as:Wp Nat}{st:Stt}{t:Tr}{k:Nat}
def dj{i:Nat}{n:Int}{j:Nat}(hi:i<st.AA.length)(h:∀x∈st.AA,∀r∈x.ow,Sz j r):∀x∈less st.AA i n,∀r∈x.ow,Sz j r:=by
 intro x hx
 rcases KN hx hi with h1|h1
 .exact h x h1
 .rw[h1];exact h (AL st.AA i) (AU hi)
def W0{i:Nat}{n:Int}{j:Nat}(hi:i<st.AA.length)(h:∀x∈st.AA,x.ow.length=j):∀x∈less st.AA i n,x.ow.length=j:=by
 intro x hx
 rcases KN hx hi with h1|h1
 .exact h x h1
 .rw[h1];exact h (AL st.AA i) (AU hi)
def ZD(hS:SAt S s l m as st)(ht:Hu t)(h:FH t k st)(hk:k<=16){i:Nat}{n:Int}{ws:Wp Int}(hc:Can t st (.thr i n ws)):∃S',Fi [t.d,.ref s,(AR.thr i n ws).d] S=Gc (.non,S')/\SAt S' s l m as (step t st (.thr i n ws))/\Bh (s::l::m::as) S S':=by
 obtain⟨hi,h1,h2,hl,hw⟩:=hc
 have cO:=bP hS ht h (by lia) hl hw hi h1 h2
 have cz:=WJ ht h (by lia) hl hw hi h1 h2
 have sz:=h.sz
 obtain⟨a,a1,a2,a3⟩:=hS.at hi
 have hS1:=hS.RJ (y:=⟨(AL st.AA i).k,(AL st.AA i).n-n,(AL st.AA i).ow⟩) a1
 have o1:=sz.1 _ (AU hi)
 have tp:=ht.2.1
 have hdef:step t st (.thr i n ws)={st with AA:=(less st.AA i n).map λx=>{x with ow:=Gy (JX t st.AA i n ws) (AL st.AA i).ow x.ow},hold:=Gy (JX t st.AA i n ws) (AL st.AA i).ow st.hold}:=rfl
 rw[hdef]
 generalize hX:JX t st.AA i n ws=X at*
 obtain⟨o,S2,f1,f2,f3⟩:=QF (f:=λx=>{x with ow:=Gy X (AL st.AA i).ow x.ow}) (body:=Lw (AB Eo [eOp (o2 wIx) [eV 8,eC (.int 2)],eV 6,eV 7]) (eV 8) (eC (.int 2))) (C:=[Gc t.d,Gc (.ref s),Gc (AR.thr i n ws).d,Gc (.ref l),Gc (shD st.hold),Gc (.ref m),Gc (aD X),Gc (shD (AL st.AA i).ow)]) (i8:=8) (o0:=none) hS1 rfl (by
  intro S' b x hx hb
  obtain⟨S2,e2,g2⟩:=Ts (S:=S') (x:=X) (ss:=x.ow) (os:=(AL st.AA i).ow) (j:=30+170*k) (i:=145+k) (dj (n:=n) hi sz.1 x hx) o1 cz (by lia) (by rw[W0 (n:=n) hi h.own x hx];lia)
  have hb2:=g2.get hb (by simp)
  refine⟨S2,?_,g2⟩
  simp[Aq hb,CJ,e2,AN hb2])
 obtain⟨S3,e3,g3⟩:=Ts (S:=S2) (x:=X) (ss:=st.hold) (os:=(AL st.AA i).ow) (j:=30+170*k) (i:=145+k) sz.2 o1 cz (by lia) (by rw[h.hold];lia)
 have f4:=(f2.Ue g3)
 have rt:=f4.root
 refine⟨S3.set s (.lst [.ref l,shD (Gy X (AL st.AA i).ow st.hold),.ref m]),?_,f4.hold _,?_⟩
 .have f1':=f1
  simp only[vD,ur]at f1'
  have rt':EX S3 s=Gc [.ref l,shD st.hold,.ref m]:=AN rt
  have r0:=AN hS.root
  have lo:=Aq hS.lo
  have xx:=Aq a2
  have c2:=AN a2
  have sq1:=C7 hS1.lo
  simp only[CJ]at f1' sq1 c2 xx
  simp only[AR.d]at f1' cO⊢
  simp[Fi,K2,r0,cO,lo,a3,xx,c2,sq1,f1',e3,rt']
 .have q1:Bh (s::l::m::as) S (S.set a (CJ ⟨(AL st.AA i).k,(AL st.AA i).n-n,(AL st.AA i).ow⟩)):=.set (by simp[uy a1])
  exact((q1.trans (f3.mono λn hn=>by simp[hn])).trans (g3.mono λ_ z=>(nomatch z))).trans (.set (by simp))
def Vv(hS:SAt S s l m as st)(ht:Hu t)(h:FH t k st)(hk:k<=16){p q:Nat}{x:Rat}(hc:Can t st (.HP p q x)):∃S',Fi [t.d,.ref s,(AR.HP p q x).d] S=Gc (.non,S')/\SAt S' s l m as (step t st (.HP p q x))/\Bh (s::l::m::as) S S':=by
 obtain⟨hpq,hp,hq,x1,x2,x3⟩:=hc
 have sz:=h.sz
 have hx:Sz 4 x:=by
  refine⟨?_,by lia⟩
  show x.num.natAbs<16
  lia
 have hdef:step t st (.HP p q x)={st with AA:=st.AA.map λy=>{y with ow:=F3 p q x y.ow},hold:=F3 p q x st.hold}:=rfl
 rw[hdef]
 obtain⟨o,S2,f1,f2,f3⟩:=QF (f:=λy=>{y with ow:=F3 p q x y.ow}) (body:=Lw (AB Ff [eOp (o2 wIx) [eV 8,eC (.int 2)],eV 2]) (eV 8) (eC (.int 2))) (C:=[Gc t.d,Gc (.ref s),Gc (AR.HP p q x).d,Gc (.ref l),Gc (shD st.hold),Gc (.ref m),none,none]) (i8:=8) (o0:=none) hS rfl (by
  intro S' b y hy hb
  obtain⟨S2,e2,g2⟩:=Uv (S:=S') (p:=p) (q:=q) (x:=x) (ss:=y.ow) (j:=30+170*k) (i:=4) (sz.1 y hy) hx (by lia) (by rw[h.own y hy];exact hp) (by rw[h.own y hy];exact hq) hpq
  have hb2:=g2.get hb (by simp)
  refine⟨S2,?_,g2⟩
  simp[Aq hb,CJ,e2,AN hb2])
 obtain⟨S3,e3,g3⟩:=Uv (S:=S2) (p:=p) (q:=q) (x:=x) (ss:=st.hold) (j:=30+170*k) (i:=4) sz.2 hx (by lia) (by rw[h.hold];exact hp) (by rw[h.hold];exact hq) hpq
 have f4:=(f2.Ue g3)
 have rt:=f4.root
 refine⟨S3.set s (.lst [.ref l,shD (F3 p q x st.hold),.ref m]),?_,f4.hold _,?_⟩
 .have f1':=f1
  simp only[vD,ur]at f1'
  have rt':EX S3 s=Gc [.ref l,shD st.hold,.ref m]:=AN rt
  have r0:=AN hS.root
  have sq1:=C7 hS.lo
  simp only[AR.d]at f1' e3⊢
  simp[Fi,K2,r0,sq1,f1',e3,rt']
 .exact((f3.mono λn hn=>by simp[hn]).trans (g3.mono λ_ z=>(nomatch z))).trans (.set (by simp))
end
section
variable{S S':Sto}{s l m:Nat}{as:Wp Nat}{st:Stt}{t:Tr}{k:Nat}
theorem Ru{ls:Wp Ld}{l:Nat}{n:Int}:less ls l n=ls.set l ⟨(AL ls l).k,(AL ls l).n-n,(AL ls l).ow⟩:=rfl
def TX{P p:Nat}{cond:Int}{C:En}{dd:D}{f:Ev}(hP:P<=50)(hf:∀(i:Nat),f [Gc dd,Gc (.int i)] S=Gc (aD (if i=p then 1 else 0),S)):BA [] (tNm 1) Ai f (Jd 0 P) [] [Gc dd,none] S=Gc ((Sy P p).map aD,S):=by
 have:=A6 (gs:=[]) (t:=tNm 1) (f:=f) (C:=[Gc dd]) (m:=1) (e:=λi:Nat=>D.int (0+(i:Int))) (g:=λi=>aD (if i=p then 1 else 0)) (S:=S) AI (xs:=W1 P) (acc:=[]) (os:=[none]) rfl (uH (show _<=50 by simp;lia) (AK (by decide))) (by
  intro i _ os ho
  obtain⟨o,rfl⟩:=MX ho
  refine⟨[Gc (.int i)],rfl,by simp,hf i⟩)
 simp only[vD,ur]at this
 rw[Sy,uh]
 exact this
inductive DoB(t:Tr)(S:Sto)(s l m:Nat)(as:Wp Nat)(st:Stt)(d:AR):Prop
 |mk (S':Sto) (as':Wp Nat) (e:DM [t.d,.ref s,d.d] S=Gc (.non,S')) (h:SAt S' s l m as' (step t st d)) (g:Bh (s::l::m::as) S S') (f:∀n∈as',n∈as\/S.length<=n)
def YD(hS:SAt S s l m as st)(ht:Hu t)(h:FH t k st)(hk:k<=16){p kd:Nat}{n:Int}(hc:Can t st (.Bj p kd n)):DoB t S s l m as st (.Bj p kd n):=by
 have tp:=ht.2.1
 have e:=TX (S:=S) (P:=t.p) (p:=p) (cond:=0) (C:=[]) (dd:=(AR.Bj p kd n).d) (f:=BM [eOp (o1 ak) [eOp (o2 wEq) [eV 1,eOp (o2 wIx) [eV 0,eC (.int 1)]]],eC (.int 1)]) (by lia) (by
  intro i
  by_cases hi:i=p
  .subst hi;simp[AR.d];rfl
  .have:((i:Int)==(p:Int))=false:=by simp;lia
   simp[AR.d,this,hi];rfl)
 have rn:Ge (t.p:Int)=true:=Bw (by lia) (by lia)
 have hz:as.length<sizeLine:=uI (show as.length<50 by rw[hS.len];have:=h.len;lia) (AK (by decide))
 refine⟨_,_,?_,hS.app ⟨kd,n,Sy t.p p⟩,?_,?_⟩
 .have r0:=AN hS.root
  have c0:=AN hS.lo
  have c1:EX (S++[CJ ⟨kd,n,Sy t.p p⟩]) l=Gc (as.map D.ref):=AN (by rw[uK (AV hS.lo)];exact hS.lo)
  simp only[CJ]at c1⊢
  simp only[AR.d]at e⊢
  simp[DM,GN,r0,Tr.d,rn,e,c0,shD]at c1⊢
  simp[c1,hz]
 .exact Bh.app.trans (.set (by simp))
 .intro n hn
  rcases vH.mp hn with w|w
  .exact .inl w
  .simp at w;exact .inr (by lia)
def YH(hS:SAt S s l m as st)(ht:Hu t)(h:FH t k st)(hk:k<=16){i:Nat}{n:Int}(hc:Can t st (.EN i n)):DoB t S s l m as st (.EN i n):=by
 obtain⟨hi,h1,h2⟩:=hc
 obtain⟨a,a1,a2,a3⟩:=hS.at hi
 refine⟨_,as,?_,hS.RJ (y:=⟨(AL st.AA i).k,(AL st.AA i).n-n,(AL st.AA i).ow⟩) a1,.set (by simp[uy a1]),λn hn=>.inl hn⟩
 have r0:=AN hS.root
 have lo:=Aq hS.lo
 have xx:=Aq a2
 have c2:=AN a2
 simp only[CJ]at c2 xx⊢
 simp[DM,GN,AR.d,r0,lo,a3,xx,c2]
def fX(hS:SAt S s l m as st)(ht:Hu t)(h:FH t k st)(hk:k<=16){i:Nat}{n:Int}{ws:Wp Int}(hc:Can t st (.thr i n ws)):DoB t S s l m as st (.thr i n ws):=by
 obtain⟨S',e,g1,g2⟩:=ZD hS ht h hk hc
 refine⟨S',as,?_,g1,g2,λn hn=>.inl hn⟩
 have r0:=AN hS.root
 simp only[AR.d]at e⊢
 simp[DM,GN,r0,e]
def dF(hS:SAt S s l m as st)(ht:Hu t)(h:FH t k st)(hk:k<=16){p q:Nat}{x:Rat}(hc:Can t st (.HP p q x)):DoB t S s l m as st (.HP p q x):=by
 obtain⟨S',e,g1,g2⟩:=Vv hS ht h hk hc
 refine⟨S',as,?_,g1,g2,λn hn=>.inl hn⟩
 have r0:=AN hS.root
 simp only[AR.d]at e⊢
 simp[DM,GN,r0,e]
def bc(hS:SAt S s l m as st)(ht:Hu t)(h:FH t k st)(hk:k<=16){i kd:Nat}{g n:Int}(hc:Can t st (.swap i g kd n)):DoB t S s l m as st (.swap i g kd n):=by
 obtain⟨hi,h1,h2,h3,h4,h5,h6⟩:=hc
 obtain⟨a,a1,a2,a3⟩:=hS.at hi
 have hS1:=hS.RJ (y:=⟨(AL st.AA i).k,(AL st.AA i).n-g,(AL st.AA i).ow⟩) a1
 have hS2:=hS1.app ⟨kd,n,(AL st.AA i).ow⟩
 have hz:as.length<sizeLine:=uI (show as.length<50 by rw[hS.len];have:=h.len;lia) (AK (by decide))
 have hz2:st.nums.length<=sizeLine:=uH (show _<=20 by have:=h.nm;lia) (AK (by decide))
 refine⟨_,_,?_,hS2,?_,?_⟩
 .have r0:=AN hS.root
  have lo:=Aq hS.lo
  have xx:=Aq a2
  have c2:=AN a2
  have lo1:=Aq hS1.lo
  have co1:=AN hS1.lo
  have x1:=Aq (uX (a:=CJ ⟨(AL st.AA i).k,(AL st.AA i).n-g,(AL st.AA i).ow⟩) (AV a2))
  have c4:EX ((S.set a (CJ ⟨(AL st.AA i).k,(AL st.AA i).n-g,(AL st.AA i).ow⟩))++[CJ ⟨kd,n,(AL st.AA i).ow⟩]) l=Gc (as.map D.ref):=AN (by rw[uK (AV hS1.lo)];exact hS1.lo)
  have nu:=hS2.nu
  have c5:=AN nu
  have st5:∀{T:Sto},T[m]?=Gc (.lst (st.nums.map D.int))->T.set m (.lst (st.nums.map D.int))=T:=λh=>set_same h
  have st6:=st5 nu
  simp only[CJ]at c2 xx lo1 co1 x1 c4 c5 st6⊢
  have hz':(as.map D.ref).length<sizeLine:=by simpa using hz
  generalize (as.map D.ref)=refs at*
  simp[DM,GN,AR.d,r0,lo,a3,xx,c2,lo1,x1,co1]at c4 c5 st6⊢
  simp[c4,hz',c5,hz2,st6]
 .exact((Bh.set (by simp[uy a1])).trans .app).trans (.set (by simp))
 .intro n hn
  rcases vH.mp hn with w|w
  .exact .inl w
  .simp at w;exact .inr (by lia)
def ZI(hS:SAt S s l m as st)(ht:Hu t)(h:FH t k st)(hk:k<=16){i kd:Nat}{u g n:Int}(hc:Can t st (.C0 u i g kd n)):DoB t S s l m as st (.C0 u i g kd n):=by
 obtain⟨hi,h1,h2,h3,h4,h5,h6,h7,h8⟩:=hc
 obtain⟨a,a1,a2,a3⟩:=hS.at hi
 have hS1:=hS.RJ (y:=⟨(AL st.AA i).k,(AL st.AA i).n-g,(AL st.AA i).ow⟩) a1
 have hS2:=hS1.app ⟨kd,n,(AL st.AA i).ow⟩
 have hz:as.length<sizeLine:=uI (show as.length<50 by rw[hS.len];have:=h.len;lia) (AK (by decide))
 have hz2:st.nums.length+1<=sizeLine:=uH (show _<=20 by have:=h.nm;lia) (AK (by decide))
 refine⟨_,_,?_,hS2.nums (st.nums++[u]),?_,?_⟩
 .have r0:=AN hS.root
  have lo:=Aq hS.lo
  have xx:=Aq a2
  have c2:=AN a2
  have lo1:=Aq hS1.lo
  have co1:=AN hS1.lo
  have x1:=Aq (uX (a:=CJ ⟨(AL st.AA i).k,(AL st.AA i).n-g,(AL st.AA i).ow⟩) (AV a2))
  have c4:EX ((S.set a (CJ ⟨(AL st.AA i).k,(AL st.AA i).n-g,(AL st.AA i).ow⟩))++[CJ ⟨kd,n,(AL st.AA i).ow⟩]) l=Gc (as.map D.ref):=AN (by rw[uK (AV hS1.lo)];exact hS1.lo)
  have nu:=hS2.nu
  have c5:=AN nu
  simp only[CJ]at c2 xx lo1 co1 x1 c4 c5⊢
  have hz':(as.map D.ref).length<sizeLine:=by simpa using hz
  generalize (as.map D.ref)=refs at*
  simp[DM,GN,AR.d,r0,lo,a3,xx,c2,lo1,x1,co1]at c4 c5⊢
  simp[c4,hz',c5,hz2]
 .exact(((Bh.set (by simp[uy a1])).trans .app).trans (.set (by simp))).trans (.set (by simp))
 .intro n hn
  rcases vH.mp hn with w|w
  .exact .inl w
  .simp at w;exact .inr (by lia)
def dA(hS:SAt S s l m as st)(ht:Hu t)(h:FH t k st)(hk:k<=16){i j:Nat}(hc:Can t st (.Ik i j)):DoB t S s l m as st (.Ik i j):=by
 obtain⟨hij,hi,hj,h1,h2,h3⟩:=hc
 obtain⟨a,a1,a2,a3⟩:=hS.at hi
 obtain⟨b,b1,b2,b3⟩:=hS.at hj
 have sz:=h.sz
 have pi:=h.pcs _ (AU hi)
 have pj:=h.pcs _ (AU hj)
 obtain⟨S1,e1,g1⟩:=Vm (S:=S) (x:=AL st.AA i) (y:=AL st.AA j) (j:=30+170*k) (i:=131+k) a2 b2 (sz.1 _ (AU hi)) (sz.1 _ (AU hj)) (EC pi.1 pi.2) (EC pj.1 pj.2) (by lia) (by lia) (by lia) (by rw[h.own _ (AU hi)];have:=ht.2.1;lia)
 have hS1:=hS.Ue g1
 have hab:a≠b:=by
  rintro rfl
  exact hij ((AAI (uU.mp a1).1 hS.ne.2.2.2.2.2.2).mp (a1.trans b1.symm))
 have hS2:=hS1.app ⟨(AL st.AA i).k,(AL st.AA i).n+(AL st.AA j).n,B3 (AL st.AA i).n (AL st.AA j).n (AL st.AA i).ow (AL st.AA j).ow⟩
 have ai:i<as.length:=(uU.mp a1).1
 have bj:j<as.length:=(uU.mp b1).1
 have a1':(as++[S1.length])[i]?=Gc a:=by rw[uK ai];exact a1
 have b1':(as++[S1.length])[j]?=Gc b:=by rw[uK bj];exact b1
 have hS3:=hS2.RJ (y:=⟨(AL st.AA i).k,0,(AL st.AA i).ow⟩) a1'
 have hS4:=hS3.RJ (y:=⟨(AL st.AA j).k,0,(AL st.AA j).ow⟩) b1'
 have hz:as.length<sizeLine:=uI (show as.length<50 by rw[hS.len];have:=h.len;lia) (AK (by decide))
 have est:step t st (.Ik i j)={st with AA:=((st.AA++[Ld.mk (AL st.AA i).k ((AL st.AA i).n+(AL st.AA j).n) (B3 (AL st.AA i).n (AL st.AA j).n (AL st.AA i).ow (AL st.AA j).ow)]).set i ⟨(AL st.AA i).k,0,(AL st.AA i).ow⟩).set j ⟨(AL st.AA j).k,0,(AL st.AA j).ow⟩}:=by
  have e0:AL (less st.AA i (AL st.AA i).n) j=AL st.AA j:=by
   unfold AL less
   rw[uY,uQ hij,<-uY]
  have e1:less st.AA i (AL st.AA i).n=st.AA.set i ⟨(AL st.AA i).k,0,(AL st.AA i).ow⟩:=by
   unfold less
   rw[AAn]
  have e2:less (less st.AA i (AL st.AA i).n) j (AL st.AA j).n=(st.AA.set i ⟨(AL st.AA i).k,0,(AL st.AA i).ow⟩).set j ⟨(AL st.AA j).k,0,(AL st.AA j).ow⟩:=by
   rw[Ru (ls:=less st.AA i (AL st.AA i).n),e0,AAn,e1]
  show{st with AA:=less (less st.AA i (AL st.AA i).n) j (AL st.AA j).n++_}=_
  rw[e2,ABL _ _ hi,ABL _ _ (by simpa using hj)]
 refine⟨_,_,?_,est▸hS4,?_,?_⟩
 .have r0:=AN hS.root
  have lo:=Aq hS.lo
  have c0:=AN hS.lo
  have xa:=Aq a2
  have xb:=Aq b2
  have c1:=AN hS1.lo
  have c4:EX (S1++[CJ ⟨(AL st.AA i).k,(AL st.AA i).n+(AL st.AA j).n,B3 (AL st.AA i).n (AL st.AA j).n (AL st.AA i).ow (AL st.AA j).ow⟩]) l=Gc (as.map D.ref):=AN (by rw[uK (AV hS1.lo)];exact hS1.lo)
  have c5:=AN (hS2.ld i a (AL st.AA i) a1' (by show(st.AA++_)[i]?=_;rw[uK hi];exact DN hi))
  have c6:=AN (hS3.ld j b (AL st.AA j) b1' (by show((st.AA++_).set i _)[j]?=_;rw[uQ hij,uK hj];exact DN hj))
  simp only[CJ]at xa xb c4 c5 c6⊢
  have hz':(as.map D.ref).length<sizeLine:=by simpa using hz
  generalize (as.map D.ref)=refs at*
  generalize B3 (AL st.AA i).n (AL st.AA j).n (AL st.AA i).ow (AL st.AA j).ow=pr at*
  simp[DM,GN,AR.d,r0,lo,a3,b3,xa,xb,c0,e1]at c4 c5 c6⊢
  simp[c4,hz',c5,c6]
 .exact(((g1.mono λ_ z=>(nomatch z)).trans .app).trans (.set (by simp))).trans ((Bh.set (by simp[uy a1])).trans (.set (by simp[uy b1])))
 .intro n hn
  rcases vH.mp hn with w|w
  .exact .inl w
  .simp at w;subst w;exact .inr g1.len
def je(hS:SAt S s l m as st)(ht:Hu t)(h:FH t k st)(hk:k<=16){d:AR}(hc:Can t st d):DoB t S s l m as st d:=by
 cases d with
 |Bj=>exact YD hS ht h hk hc
 |Ik=>exact dA hS ht h hk hc
 |swap=>exact bc hS ht h hk hc
 |C0=>exact ZI hS ht h hk hc
 |EN=>exact YH hS ht h hk hc
 |thr=>exact fX hS ht h hk hc
 |HP=>exact dF hS ht h hk hc
end
section
variable{st:Stt}{t:Tr}{k:Nat}
def A7{a b:Nat}(h:a<=b):2^a<=2^b:=uz (by decide) h
def NJ{a b:Nat}(h:a<=b):(2:Int)^a<=2^b:=by
 have:=A7 h
 exact_mod_cast this
def Fz{c:Int}(h:0<=c):((c.toNat:Nat):Rat)=(c:Rat):=by
 have:((c.toNat:Nat):Int)=c:=vQ h
 have:(((c.toNat:Nat):Int):Rat)=(c:Rat):=by rw[this]
 exact this
def WE{B T k j:Nat}(hB:B<2^(30+170*k))(hT:T<2^j)(hj:j<=170):B*T<2^(30+170*(k+1)):=by
 have:=Ap hB hT
 exact uI this (A7 (by lia))
def jb{G B P p:Nat}(h:G<=B):∀r∈Sy P p,Ok G B r:=by
 intro r hr
 obtain⟨i,_,rfl⟩:=uo.mp hr
 split
 .exact Ok.one h
 .exact Ok.zero
def Wo{G B:Nat}{n m:Int}{ss os:Wp Rat}(hn:0<n)(hm:0<m)(hs:∀r∈ss,Ok G B r)(ho:∀r∈os,Ok G B r):∀r∈B3 n m ss os,Ok (G*(n+m).toNat) (B*(n+m).toNat) r:=by
 intro r hr
 unfold B3 at hr
 rw[xU]at hr
 obtain⟨i,hi'⟩:=hr
 rw[x8]at hi'
 obtain⟨x,y,hx,hy,rfl⟩:=hi'
 have:=Ok.mix (a:=n.toNat) (b:=m.toNat) (t:=(n+m).toNat) (hs x (uy hx)) (ho y (uy hy)) (by lia) (by lia)
 rwa [Fz (by lia),Fz (by lia),Fz (by lia)]at this
def Vx{G B p q:Nat}{x:Rat}{ss:Wp Rat}(hp:p<ss.length)(hq:q<ss.length)(x1:0<x.num)(x2:x.num<=x.den)(hs:∀r∈ss,Ok G B r):∀r∈F3 p q x ss,Ok (G*x.den) (2*B*x.den) r:=by
 have dp:=x.den_pos
 have hsp:=hs _ (getD_mem (d:=0) hp)
 have hsq:=hs _ (getD_mem (d:=0) hq)
 have xs:=DH x
 have ex:(x.num:Rat)=((x.num.toNat:Nat):Rat):=(Fz (by lia)).symm
 have nz:=Hf x
 intro r hr
 unfold F3 at hr
 rcases xX hr with hr|hr
 .rcases xX hr with hr|hr
  .exact(hs r hr).up (by rw[xu];lia)
  .rw[hr]
   obtain⟨z,e,hz⟩:=Ok.mix (a:=x.den-x.num.toNat) (b:=x.num.toNat) (t:=x.den) hsp (Ok.zero (G:=G) (B:=B)) (by lia) dp
   refine⟨z,?_,uH hz (by rw[xu];lia)⟩
   rw[<-e]
   have e2:((x.den-x.num.toNat:Nat):Rat)=(x.den:Rat)-(x.num:Rat):=by
    have:(((x.den-x.num.toNat:Nat):Int):Rat)=((x.den-x.num:Int):Rat):=by
     congr 1;rw[Int.natCast_sub (Int.toNat_le.mpr x2),vQ (xF x1)]
    push_cast at this
    exact this
   rw[e2]
   generalize ss.getD p 0=sp at*
   congr 1
   grind
 .rw[hr]
  obtain⟨z,e1,hz⟩:=hsp
  obtain⟨y,e2,hy⟩:=hsq
  refine⟨y*x.den+z*x.num.toNat,?_,?_⟩
  .generalize ss.getD p 0=sp at*
   generalize ss.getD q 0=sq at*
   push_cast
   rw[<-ex,<-e1,<-e2]
   grind
  .have h1:y*x.den<=B*x.den:=ui _ hy
   have h2:z*x.num.toNat<=B*x.den:=v5 hz (by lia)
   rw[xu];lia
def Dt{f:Rat->Rat->Rat}{a b:Wp Rat}{n:Nat}(h:a.length=n)(g:b.length=n):(yv f a b).length=n:=by rw[List.length_zipWith,h,g];lia
def Im{P:Ld->Prop}{i:Nat}{n:Int}(hi:i<st.AA.length)(h:∀x∈st.AA,P x)(g:P ⟨(AL st.AA i).k,(AL st.AA i).n-n,(AL st.AA i).ow⟩):∀x∈less st.AA i n,P x:=by
 intro x hx
 rcases KN hx hi with h1|h1
 .exact h x h1
 .rw[h1];exact g
def O5{P:Ld->Prop}{ls:Wp Ld}{y:Ld}(h:∀x∈ls,P x)(g:P y):∀x∈ls++[y],P x:=by
 intro x hx
 rcases vH.mp hx with w|w
 .exact h x w
 .simp at w;rw[w];exact g
structure LOk(t:Tr)(k G B:Nat)(x:Ld):Prop where
 kd:x.k<t.k
 n0:0<=x.n
 n1:x.n<2^(131+k)
 own:x.ow.length=t.p
 ok:∀r∈x.ow,Ok G B r
def LOk.up{G B T B':Nat}{x:Ld}(h:LOk t k G B x)(hT:B*T<=B'):LOk t (k+1) (G*T) B' x:=⟨h.kd,h.n0,xT h.n1 (NJ (by lia)),h.own,λr hr=>(h.ok r hr).up hT⟩
def LOk.up1{G B:Nat}{x:Ld}(h:LOk t k G B x):LOk t (k+1) G B x:=⟨h.kd,h.n0,xT h.n1 (NJ (by lia)),h.own,h.ok⟩
def LOk.less{G B:Nat}{x:Ld}{n:Int}(h:LOk t k G B x)(h0:0<=n)(h1:n<=x.n):LOk t k G B ⟨x.k,x.n-n,x.ow⟩:=⟨h.kd,show 0<=x.n-n by lia,show x.n-n<_ by have:=h.n1;lia,h.own,h.ok⟩
structure SIG(t:Tr)(k G B:Nat)(st:Stt):Prop where
 of::
 len:st.AA.length<=4+k
 lok:∀x∈st.AA,LOk t k G B x
 hold:st.hold.length=t.p
 nm:st.nums.length<=k
 g0:0<G
 gb:G<=B
 bb:B<2^(30+170*k)
 hok:∀r∈st.hold,Ok G B r
def SIG.inv{G B:Nat}(h:SIG t k G B st):FH t k st:=⟨h.len,λx hx=>(h.lok x hx).kd,λx hx=>⟨(h.lok x hx).n0,(h.lok x hx).n1⟩,λx hx=>(h.lok x hx).own,h.hold,h.nm,G,B,h.g0,h.gb,h.bb,λx hx=>(h.lok x hx).ok,h.hok⟩
def FH.sig(h:FH t k st):∃G B,SIG t k G B st:=by
 obtain⟨G,B,g0,g1,g2,hl,hh⟩:=h.gb
 exact⟨G,B,h.len,λx hx=>⟨h.kind x hx,(h.pcs x hx).1,(h.pcs x hx).2,h.own x hx,hl x hx⟩,h.hold,h.nm,g0,g1,g2,hh⟩
def FH.of{G B:Nat}(h1:st.AA.length<=4+k)(h2:∀x∈st.AA,LOk t k G B x)(h3:st.hold.length=t.p)(h4:st.nums.length<=k)(g0:0<G)(g1:G<=B)(g2:B<2^(30+170*k))(h5:∀r∈st.hold,Ok G B r):FH t k st:=⟨h1,λx hx=>(h2 x hx).kd,λx hx=>⟨(h2 x hx).n0,(h2 x hx).n1⟩,λx hx=>(h2 x hx).own,h3,h4,G,B,g0,g1,g2,λx hx=>(h2 x hx).ok,h5⟩
def eR{n:Int}(h:n<2^131):n<2^(131+k):=xT h (NJ (by lia))
def Tt{G B:Nat}(ht:Hu t)(hs:SIG t k G B st)(hk:k<=16){d:AR}(hc:Can t st d):∃T G' B',G'=G*T/\0<T/\B*T<=B'/\B'<=B*2^161/\SIG t (k+1) G' B' (step t st d):=by
 obtain⟨_,L,_,_,g0,g1,g2,hh⟩:=id hs
 have h:=hs.inv
 have g2':B<2^(30+170*(k+1)):=uI g2 (A7 (by lia))
 have hlen:=h.len
 have hnm:=h.nm
 cases d with
 |Bj p kd n=>
  obtain⟨h1,h2,h3,h4⟩:=hc
  refine⟨1,G,B,(xl _).symm,by decide,by rw[xl];exact uP _,w9 _ (by decide),?_⟩
  refine SIG.of (by simp[step];lia) (O5 (λx hx=>(L x hx).up1) ⟨h2,by show 0<=n;lia,eR h4,by simp[Sy],jb g1⟩) h.hold (xn hnm) g0 g1 g2' hh
 |Ik i j=>
  obtain⟨hij,hi,hj,h1,h2,h3⟩:=hc
  have li:=L _ (AU hi)
  have lj:=L _ (AU hj)
  have tl:((AL st.AA i).n+(AL st.AA j).n).toNat<2^(132+k):=by
   have a:=li.n1;have b:=lj.n1
   have e:(2:Int)^(132+k)=2^(131+k)*2:=by rw[show 132+k=(131+k)+1 by lia,Int.pow_succ]
   have:(((AL st.AA i).n+(AL st.AA j).n).toNat:Int)<((2^(132+k):Nat):Int):=by
    rw[vQ (by lia)]
    push_cast
    rw[e];lia
   exact_mod_cast this
  have t0:0<((AL st.AA i).n+(AL st.AA j).n).toNat:=by lia
  refine⟨((AL st.AA i).n+(AL st.AA j).n).toNat,G*((AL st.AA i).n+(AL st.AA j).n).toNat,B*((AL st.AA i).n+(AL st.AA j).n).toNat,rfl,t0,uP _,yZ _ (xE (uI tl (A7 (by lia)))),?_⟩
  refine SIG.of (by simp[step,DF];lia) (O5 ?_ ⟨li.kd,by show 0<=(AL st.AA i).n+(AL st.AA j).n;lia,?_,?_,Wo h1 h2 li.ok lj.ok⟩) h.hold (xn hnm) (xy g0 t0) (ui _ g1) (WE g2 tl (by lia)) (λr hr=>(hh r hr).up (uP _))
  .have e0:AL (less st.AA i (AL st.AA i).n) j=AL st.AA j:=by
    unfold AL less
    rw[uY,uQ hij,<-uY]
   have A:=Im (P:=LOk t (k+1) (G*((AL st.AA i).n+(AL st.AA j).n).toNat) (B*((AL st.AA i).n+(AL st.AA j).n).toNat)) (n:=(AL st.AA i).n) hi (λx hx=>(L x hx).up (uP _)) ((li.up (uP _)).less (by lia) (Int.le_refl _))
   have A2:=Im (st:={st with AA:=less st.AA i (AL st.AA i).n}) (i:=j) (n:=(AL st.AA j).n) (by simpa[DF]using hj) A (by
    show LOk _ _ _ _ ⟨(AL (less st.AA i (AL st.AA i).n) j).k,(AL (less st.AA i (AL st.AA i).n) j).n-_,(AL (less st.AA i (AL st.AA i).n) j).ow⟩
    rw[e0]
    exact(lj.up (uP _)).less (by lia) (Int.le_refl _))
   exact A2
  .show(AL st.AA i).n+(AL st.AA j).n<2^(131+(k+1))
   have a:=li.n1;have b:=lj.n1
   rw[show 131+(k+1)=(131+k)+1 by lia,Int.pow_succ];lia
  .exact Dt li.own lj.own
 |swap i g kd n=>
  obtain⟨hi,h1,h2,h3,h4,h5,h6⟩:=hc
  have li:=L _ (AU hi)
  refine⟨1,G,B,(xl _).symm,by decide,by rw[xl];exact uP _,w9 _ (by decide),?_⟩
  refine SIG.of (by simp[step,DF];lia) (O5 (Im hi (λx hx=>(L x hx).up1) (li.up1.less (by lia) h2)) ⟨h3,by show 0<=n;lia,eR h6,li.own,li.ok⟩) h.hold (xn hnm) g0 g1 g2' hh
 |C0 u i g kd n=>
  obtain⟨hi,h1,h2,h3,h4,h5,h6,h7⟩:=hc
  have li:=L _ (AU hi)
  refine⟨1,G,B,(xl _).symm,by decide,by rw[xl];exact uP _,w9 _ (by decide),?_⟩
  refine SIG.of (by simp[step,DF];lia) (O5 (Im hi (λx hx=>(L x hx).up1) (li.up1.less (by lia) h2)) ⟨h3,by show 0<=n;lia,eR h6,li.own,li.ok⟩) h.hold (by simp[step];lia) g0 g1 g2' hh
 |EN i n=>
  obtain⟨hi,h1,h2⟩:=hc
  have li:=L _ (AU hi)
  refine⟨1,G,B,(xl _).symm,by decide,by rw[xl];exact uP _,w9 _ (by decide),?_⟩
  refine SIG.of (by simp[step,DF];lia) (Im hi (λx hx=>(L x hx).up1) (li.up1.less (by lia) h2)) h.hold (xn hnm) g0 g1 g2' hh
 |thr i n ws=>
  obtain⟨hi,h1,h2,h3,h4⟩:=hc
  have li:=L _ (AU hi)
  have W:=KZ ht h (by lia) h3 h4
  have wl:(EY t st.AA ws).toNat<2^(145+k):=by
   have:((EY t st.AA ws).toNat:Int)<((2^(145+k):Nat):Int):=by
    rw[vQ (by lia)];push_cast;exact W.2
   exact_mod_cast this
  have bo:=λ{ss:Wp Rat} (hs:∀r∈ss,Ok G B r)=>VU ht h (by lia) h3 h4 hi h1 h2 li.ok hs
  refine⟨(EY t st.AA ws).toNat,G*(EY t st.AA ws).toNat,B*(EY t st.AA ws).toNat,rfl,by lia,uP _,yZ _ (xE (uI wl (A7 (by lia)))),?_⟩
  refine SIG.of (by simp[step,DF];lia) ?_ (Dt h.hold li.own) (xn hnm) (xy g0 (by lia)) (ui _ g1) (WE g2 wl (by lia)) (bo hh)
  intro x hx
  obtain⟨y,hy,rfl⟩:=uo.mp hx
  have ly:=Im (P:=LOk t k G B) hi L (li.less (n:=n) (by lia) h2) y hy
  exact⟨ly.kd,ly.n0,ly.up1.n1,Dt ly.own li.own,bo ly.ok⟩
 |HP p q x=>
  obtain⟨h1,h2,h3,h4,h5,h6⟩:=hc
  have dp:=x.den_pos
  refine⟨x.den,G*x.den,2*B*x.den,rfl,dp,ui _ (by lia),by
   rw[show 2*B*x.den=B*(2*x.den) by rw[<-xu,wk 2 B]]
   exact yZ _ (uH (show 2*x.den<=24 by lia) (by decide)),?_⟩
  refine SIG.of (by simp[step];lia) ?_ (by simp[step,F3,h.hold]) (xn hnm) (xy g0 dp) (ui _ (by lia)) ?_ (Vx (by rw[h.hold];exact h2) (by rw[h.hold];exact h3) h4 h5 hh)
  .intro y hy
   obtain⟨z,hz,rfl⟩:=uo.mp hy
   have lz:=L z hz
   exact⟨lz.kd,lz.n0,lz.up1.n1,by simp[F3,lz.own],Vx (by rw[lz.own];exact h2) (by rw[lz.own];exact h3) h4 h5 lz.ok⟩
  .have:=WE (B:=B) (T:=2*x.den) (j:=5) g2 (by lia) (by lia)
   rw[show 2*B*x.den=B*(2*x.den) by rw[<-xu,wk 2 B]]
   exact this
def Ot(ht:Hu t)(h:FH t k st)(hk:k<=16){d:AR}(hc:Can t st d):FH t (k+1) (step t st d):=by
 obtain⟨G,B,hs⟩:=h.sig
 obtain⟨_,_,_,_,_,_,_,z⟩:=Tt ht hs hk hc
 exact z.inv
end
theorem EF{α:Type}{f:α->D}:∀{xs:Wp α},(∀x∈xs,(f x).lay=true)->D.R8 (xs.map f)=true
 | [],_=>rfl
 |x::xs,h=>by
  show((f x).lay && D.R8 (xs.map f))=true
  rw[h x uO,EF λy hy=>h y (uL _ hy)]
  rfl
def Xh(h:D.R8 ds=true):Lb (.lst ds) (.lst [])=true:=by
 unfold Lb
 show(D.R8 ds && true && _)=true
 rw[h]
 simp only[Bool.true_and,wD]
 exact uH (y7 _ _) (by decide)
noncomputable def G7(is:Wp Nat):Wp D:=is.map λ(i:Nat)=>D.int i
def NR:Lb (.lst (G7 is)) (.lst [])=true:=Xh (EF λ_ _=>rfl)
theorem Yz:deq (.lst (d::ds)) (.lst [])=false:=rfl
theorem bz:deq (.lst []) (.lst [])=true:=rfl
def O6:deq (.lst (G7 is)) (.lst [])=is.isEmpty:=by
 cases is with
 |nil=>exact bz
 |cons i is=>exact Yz
def Mg:Nr 0 ds=(W1 ds.length).map λ(i:Nat)=>D.tup [.int i,ds.getD i .non]:=by
 apply xk
 intro i
 rw[ME,uR]
 by_cases h:i<ds.length
 .rw[uN h,vW h]
  simp[uN h]
 .rw[wF (by lia),wF (by simp;lia)]
  rfl
def Kg:(G7 is).length=is.length:=by simp[G7]
def Mu(h0:0<=r)(h1:r<is.length):∃i∈is,atI (G7 is) r=Gc (.int (i:Nat)):=by
 have h2:r.toNat<is.length:=by lia
 refine⟨is[r.toNat],wg h2,?_⟩
 have:=Zs (xs:=G7 is) h0 (by rw[Kg];exact h1)
 rw[this]
 simp[G7]
def Ve{x K:Int}(h0:0<=x)(h1:x<2*K):x % K=if x<K then x else x-K:=by
 split
 .exact Int.emod_eq_of_lt h0 (by assumption)
 .have:x % K=(x-K) % K:=by rw[Int.sub_emod_right]
  rw[this]
  exact Int.emod_eq_of_lt (by lia) (by lia)
noncomputable def CO(st:Stt):Wp Nat:=(W1 st.AA.length).filter λi=>decide (0<(AL st.AA i).n)
def bh(hS:SAt S s l m as st)(hl:st.AA.length<=50):BA [(l,as.map D.ref)] (tTp [tNm 0,tNm 1]) (eOp (o2 wGt) [eOp (o2 wIx) [eV 1,eC (.int 1)],eC (.int 0)]) (eV 0) (Nr 0 (as.map D.ref)) [] [none,none] S=Gc (G7 (CO st),S):=by
 have:=C3 (gs:=[(l,as.map D.ref)]) (t:=tTp [tNm 0,tNm 1]) (c:=eOp (o2 wGt) [eOp (o2 wIx) [eV 1,eC (.int 1)],eC (.int 0)]) (f:=eV 0) (C:=[]) (m:=2) (e:=λi:Nat=>D.tup [.int i,(as.map D.ref).getD i .non]) (g:=λi:Nat=>D.int i) (b:=λi=>decide (0<(AL st.AA i).n)) (S:=S) hS.guard (xs:=W1 st.AA.length) (acc:=[]) (os:=[none,none]) rfl (uH (show _<=50 by simp;lia) (AK (by decide))) (by
  intro i hi os ho
  obtain⟨o1,o2,rfl⟩:=eA ho
  obtain⟨a,a1,a2,a3⟩:=hS.at (vC.mp hi)
  have e:(as.map D.ref).getD i .non=.ref a:=by simp[a1]
  rw[e]
  refine⟨[Gc (.int i),Gc (.ref a)],rfl,by simp,?_,by simp⟩
  simp[Aq a2,CJ])
 rw[Mg,ux,hS.len]
 exact this
def MO(h:i∈CO st):i<st.AA.length/\0<(AL st.AA i).n:=by
 unfold CO at h
 rw[wJ]at h
 exact⟨vC.mp h.1,by simpa using h.2⟩
noncomputable def FT(st:Stt)(j:Nat):Wp Nat:=(CO st).filter λi=> !(i==j) && ((AL st.AA i).k==(AL st.AA j).k)
def O9:(CO st).length<=st.AA.length:=by
 unfold CO
 exact uH (wc _ _) (by simp)
def Y9{a b:Nat}:((a:Int)==(b:Int))=(a==b):=by
 by_cases h:a=b
 .subst h;simp
 .have:((a:Int)==(b:Int))=false:=by simp;lia
  rw[this];simp[h]
def aS(hS:SAt S s l m as st)(hl:st.AA.length<=50)(hj:j∈CO st):BA [] (tNm 2) (FQ (eOp (o2 wNe) [eV 2,eV 1]) (eOp (o2 wEq) [eOp (o2 wIx) [eOp (o2 wIx) [eV 0,eV 2],eC (.int 0)],eOp (o2 wIx) [eOp (o2 wIx) [eV 0,eV 1],eC (.int 0)]])) (eV 2) (G7 (CO st)) [] [Gc (.ref l),Gc (.int j),none] S=Gc (G7 (FT st j),S):=by
 have fl:=O9 (st:=st)
 exact C3 (gs:=[]) (t:=tNm 2) (f:=eV 2) (C:=[Gc (.ref l),Gc (.int j)]) (m:=1) (e:=λi:Nat=>D.int i) (g:=λi:Nat=>D.int i) (b:=λi=> !(i==j) && ((AL st.AA i).k==(AL st.AA j).k)) (S:=S) AI (xs:=CO st) (acc:=[]) (os:=[none]) rfl (uH (show _<=50 by simp;lia) (AK (by decide))) (by
  intro i hi os ho
  obtain⟨o1,rfl⟩:=MX ho
  obtain⟨a,a1,a2,a3⟩:=hS.at (MO hi).1
  obtain⟨b,b1,b2,b3⟩:=hS.at (MO hj).1
  refine⟨[Gc (.int i)],rfl,by simp,?_,by simp⟩
  by_cases e:i=j
  .subst e
   simp
  .have e':((i:Int)==(j:Int))=false:=by simp;lia
   have e2:(i==j)=false:=by simp[e]
   simp[e',e2,Aq hS.lo,a3,b3,Aq a2,Aq b2,CJ,Y9])
def YX(h:i∈FT st j):i∈CO st/\i≠j/\(AL st.AA i).k=(AL st.AA j).k:=by
 unfold FT at h
 rw[wJ]at h
 simp at h
 exact⟨h.1,h.2.1,h.2.2⟩
noncomputable def GH(st:Stt):Wp Nat:=(W1 10).filter λi=> !(st.nums.any λu=>u==(i:Int))
def SY{us:Wp Int}:inD (.int i) (us.map D.int)=us.any λu=>u==i:=by
 unfold inD
 rw[List.any_map]
 rfl
@[simp] def nG:wIn b w (.own r)=if(Ii (fz w) && r.all Ii)=true then some (.val (.bl (if b then !inD (fz w) r else inD (fz w) r)))else none:=rfl
@[simp] def nq:wIn b w (.val (.lst r))=if(Ii (fz w) && r.all Ii)=true then some (.val (.bl (if b then !inD (fz w) r else inD (fz w) r)))else none:=rfl
def Q2{us:Wp Int}:(us.map D.int).all Ii=true:=by
 rw[List.all_map,List.all_eq_true]
 intro x _;rfl
@[simp] def qA:Ii (.int i)=true:=rfl
def bH(hS:SAt S s l m as st):BA [] (tNm 1) (eOp (o2 (wIn true)) [eV 1,eV 0]) (eV 1) (Jd 0 10) [] [Gc (.ref m),none] S=Gc (G7 (GH st),S):=by
 exact C3 (gs:=[]) (t:=tNm 1) (f:=eV 1) (C:=[Gc (.ref m)]) (m:=1) (e:=λi:Nat=>D.int (0+(i:Int))) (g:=λi:Nat=>D.int i) (b:=λi=> !(st.nums.any λu=>u==(i:Int))) (S:=S) AI (xs:=W1 10) (acc:=[]) (os:=[none]) rfl (uH (show _<=50 by simp) (AK (by decide))) (by
  intro i hi os ho
  obtain⟨o1,rfl⟩:=MX ho
  refine⟨[Gc (.int i)],rfl,by simp,?_,by simp⟩
  have nu:=Aq hS.nu
  have fi:=Q2 (us:=st.nums)
  have ii:=SY (us:=st.nums) (i:=(i:Int))
  generalize st.nums.map D.int=ud at*
  generalize (st.nums.any λu=>u==(i:Int))=bb at*
  simp[nu,fi,ii])
def Xo(h:i∈GH st):(i:Int)∉st.nums/\i<=9:=by
 unfold GH at h
 rw[wJ]at h
 have h1:=vC.mp h.1
 refine⟨?_,by lia⟩
 intro z
 have h2:=h.2
 have:(st.nums.any λu=>u==(i:Int))=true:=List.any_eq_true.mpr ⟨_,z,by simp⟩
 rw[this]at h2
 cases h2
def Ya:(GH st).length<=10:=by
 unfold GH
 exact uH (wc _ _) (by simp)
def Y4:(FT st j).length<=st.AA.length:=by
 unfold FT
 exact uH (wc _ _) O9
section
variable{S:Sto}{p s l m:Nat}{as:Wp Nat}{st:Stt}{t:Tr}{k:Nat}
def Vp:=AQ (xIf (FQ (eOp (o2 wEq) [eV 7,eC (.int 7)]) (eOp (o2 wNe) [eV 12,KG []])) (Ac (BM [eC (.str "trade"),eOp (o2 wIx) [eV 12,AB AE [eV 0,eOp (o1 EB) [eV 12]]],eV 8,eV 9,eV 11,AB Bm [eV 0]])) Bc) (Ac (BM [eC (.str "swap"),eV 8,eV 9,eV 11,AB Bm [eV 0]]))
def XF:=AQ (xIf (eOp (o2 wEq) [eV 7,eC (.int 8)]) (Ac (BM [eC (.str "spoil"),eV 8,eV 9])) Bc) (AQ (xIf (FQ (eOp (o2 wEq) [eV 7,eC (.int 9)]) (eOp (o2 wGt) [eOp (o2 wIx) [eV 1,eC (.int 0)],eC (.int 1)])) (AQ (A9 13 (AB AE [eV 0,eOp (o2 wIx) [eV 1,eC (.int 0)]])) (Ac (BM [eC (.str "sell"),eV 13,eOp (o2 RB) [eOp (o2 Cr) [eOp (o2 Cr) [eV 13,eC (.int 1)],AB AE [eV 0,eOp (o2 Pw) [eOp (o2 wIx) [eV 1,eC (.int 0)],eC (.int 1)]]],eOp (o2 wIx) [eV 1,eC (.int 0)]],AB F2 [eV 0]]))) Bc) (Ac (BM [eC (.str "throw"),eV 8,eV 9,AB D9 [eV 0,eOp (o2 Cr) [eOp (o2 wIx) [eV 1,eC (.int 1)],eC (.int 1)]]])))
def Pz:Ex:=(AQ (xIf (FQ (eOp (o2 wLt) [eV 7,eC (.int 8)]) (eOp (o2 wGt) [eOp (o2 wIx) [eV 1,eC (.int 1)],eC (.int 1)])) (AQ (A9 11 (eOp (o2 RB) [eOp (o2 Cr) [eOp (o2 Cr) [eOp (o2 wIx) [eOp (o2 wIx) [eV 3,eV 8],eC (.int 0)],eC (.int 1)],AB AE [eV 0,eOp (o2 Pw) [eOp (o2 wIx) [eV 1,eC (.int 1)],eC (.int 1)]]],eOp (o2 wIx) [eV 1,eC (.int 1)]])) (AQ (A9 12 (Az [5] 1 (Kk [eC (.int 10)]) (tNm 1) (eOp (o2 (wIn true)) [eV 1,eV 0]) (eV 1)))
    Vp)) Bc) XF)
def U6:=xIf (eOp (o2 wLt) [eV 7,eC (.int 5)]) (AQ (A9 10 (Az [3,8] 1 (DY (eV 6)) (tNm 2) (FQ (eOp (o2 wNe) [eV 2,eV 1]) (eOp (o2 wEq) [eOp (o2 wIx) [eOp (o2 wIx) [eV 0,eV 2],eC (.int 0)],eOp (o2 wIx) [eOp (o2 wIx) [eV 0,eV 1],eC (.int 0)]])) (eV 2))) (xIf (eOp (o2 wNe) [eV 10,KG []]) (Ac (BM [eC (.str "pool"),eV 8,eOp (o2 wIx) [eV 10,AB AE [eV 0,eOp (o1 EB) [eV 10]]]])) Bc)) Bc
def Sm:AR->Prop
 | .C0 _ _ g _ n=>g<=2000/\n<2^130
 |_=>ze
def X2:=AQ (xIf (eOr (eOp (o2 wLt) [eV 7,eC (.int 2)]) (eOp (o2 wEq) [eV 6,KG []])) (Ac (BM [eC (.str "bring"),AB AE [eV 0,eOp (o2 wIx) [eV 1,eC (.int 0)]],AB AE [eV 0,eOp (o2 wIx) [eV 1,eC (.int 1)]],AB Bm [eV 0]])) Bc) (AQ (A9 8 (eOp (o2 wIx) [eV 6,AB AE [eV 0,eOp (o1 EB) [eV 6]]])) (AQ (A9 9 (eOp (o2 Cr) [eC (.int 1),AB AE [eV 0,eOp (o2 eL) [eOp (o2 wIx) [eOp (o2 wIx) [eV 3,eV 8],eC (.int 1)],eC (.int 2000)]]])) (AQ U6 Pz)))
theorem YN:OC=(AQ (Hi (tTp [tNm 3,tNm 4,tNm 5]) (eV 2)) (AQ (A9 6 (Az [] 2 (XU (eV 3)) (tTp [tNm 0,tNm 1]) (eOp (o2 wGt) [eOp (o2 wIx) [eV 1,eC (.int 1)],eC (.int 0)]) (eV 0))) (AQ (A9 7 (AB AE [eV 0,eC (.int 12)])) X2))):=rfl
def YT(hp:CL p S)(hS:SAt S s l m as st)(hps:p∉s::l::m::as)(ht:Hu t)(h:FH t k st)(hk:k<=16):∃d S',Cg [.ref p,t.d,.ref s] S=Gc (AR.d d,S')/\Pn p S S'/\Can t st d/\Sm d:=by
 obtain⟨t1,t2,t3,t4,t5,t6⟩:=ht
 have hlen:=h.len
 have st':∀{S':Sto},Pn p S S'->SAt S' s l m as st:=λg=>hS.same g.same (by simpa using hps)
 have r0:=AN hS.root
 have cf:=bh hS (by lia)
 have fl:=O9 (st:=st)
 have sq:=C7 hS.lo
 obtain⟨way,S1,e1,a1,b1,p1⟩:=Ar hp (n:=12) (by decide) (by decide)
 have okF:=NR (is:=CO st)
 have dqF:=O6 (is:=CO st)
 have pr0:Cg [.ref p,t.d,.ref s] S=(X2 [Gc (.ref p),Gc t.d,Gc (.ref s),Gc (.ref l),Gc (shD st.hold),Gc (.ref m),Gc (.lst (G7 (CO st))),Gc (.int way),none,none,none,none,none,none] S1).map λr=>(flD r.1,r.2.2):=by
  simp[Cg,YN,r0,sq,cf,e1]
 by_cases hb:way<2\/(CO st).isEmpty=true
 .obtain⟨x2,S2,e2,a2,b2,p2⟩:=Ar p1.pen (n:=t.p) (by lia) (by lia)
  obtain⟨x3,S3,e3,a3,b3,p3⟩:=Ar p2.pen (n:=t.k) (by lia) (by lia)
  obtain⟨x4,S4,e4,p4,a4,b4⟩:=QU p3.pen
  obtain⟨x2,rfl⟩:=Gx a2
  obtain⟨x3,rfl⟩:=Gx a3
  refine⟨.Bj x2 x3 x4,S4,?_,((p1.trans p2).trans p3).trans p4,⟨by lia,by lia,a4,b4⟩,trivial⟩
  rw[pr0]
  have ho:∀(x y:Ex),xIf (eOr (eOp (o2 wLt) [eV 7,eC (.int 2)]) (eOp (o2 wEq) [eV 6,KG []])) x y [Gc (.ref p),Gc t.d,Gc (.ref s),Gc (.ref l),Gc (shD st.hold),Gc (.ref m),Gc (.lst (G7 (CO st))),Gc (.int way),none,none,none,none,none,none] S1=x [Gc (.ref p),Gc t.d,Gc (.ref s),Gc (.ref l),Gc (shD st.hold),Gc (.ref m),Gc (.lst (G7 (CO st))),Gc (.int way),none,none,none,none,none,none] S1:=by
   intro x y
   by_cases hw:way<2
   .simp[hw]
   .simp[hw,okF,dqF,hb.resolve_left hw]
  simp[X2,-VR,ho]
  simp[Tr.d,e2,e3,e4,AR.d]
 .have hw2:¬way<2:=λz=>hb (.inl z)
  have hf:(CO st).isEmpty=false:=by
   cases z:(CO st).isEmpty with
   |true=>exact absurd (.inr z) hb
   |false=>rfl
  have hfl:0<(CO st).length:=by
   cases z:CO st with
   |nil=>rw[z]at hf;cases hf
   |cons a b=>simp
  obtain⟨rl,S2,e2,a2,b2,p2⟩:=Ar p1.pen (n:=(CO st).length) (by lia) (by lia)
  obtain⟨i,mi,ei⟩:=Mu a2 b2
  have fi:=MO mi
  have hS1:=st' p1
  have hS2:=st' (p1.trans p2)
  obtain⟨a,x1,x2,x3⟩:=hS2.at fi.1
  have n1:=fi.2
  obtain⟨rs,S3,e3,a3,b3,p3⟩:=Ar p2.pen (n:=if 2000<(AL st.AA i).n then 2000 else(AL st.AA i).n) (by split<;>lia) (by split<;>lia)
  have hsome:1<=1+rs/\1+rs<=(AL st.AA i).n:=by split at b3<;>lia
  have p23:=(p1.trans p2).trans p3
  have hS3:=st' p23
  have lo2:=Aq hS2.lo
  have lo3:=Aq hS3.lo
  have x2':=Aq x2
  have x4:S3[a]?=Gc (CJ (AL st.AA i)):=hS3.ld i a _ x1 (DN fi.1)
  have x4':=Aq x4
  have kd:=h.kind _ (AU fi.1)
  have nl:=Kg (is:=CO st)
  have cs:=aS hS3 (by lia) mi
  have okS:=NR (is:=FT st i)
  have dqS:=O6 (is:=FT st i)
  have sl:=Y4 (st:=st) (j:=i)
  have nls:=Kg (is:=FT st i)
  have pre:Cg [.ref p,t.d,.ref s] S=((U6 [Gc (.ref p),Gc t.d,Gc (.ref s),Gc (.ref l),Gc (shD st.hold),Gc (.ref m),Gc (.lst (G7 (CO st))),Gc (.int way),Gc (.int i),Gc (.int (1+rs)),none,none,none,none] S3).bind (eN Pz)).map λr=>(flD r.1,r.2.2):=by
   rw[pr0]
   simp[X2,hw2,okF,dqF,hf,nl,e2,ei,lo2,x3,x2',e3]
  have tail:∀o10,(way<5->(FT st i).isEmpty=true)->∃d S',(Pz [Gc (.ref p),Gc t.d,Gc (.ref s),Gc (.ref l),Gc (shD st.hold),Gc (.ref m),Gc (.lst (G7 (CO st))),Gc (.int way),Gc (.int i),Gc (.int (1+rs)),o10,none,none,none] S3).map (λr=>(flD r.1,r.2.2))=Gc (AR.d d,S')/\Pn p S S'/\Can t st d/\Sm d:=by
   intro o10 _
   generalize hE:([Gc (.ref p),Gc t.d,Gc (.ref s),Gc (.ref l),Gc (shD st.hold),Gc (.ref m),Gc (.lst (G7 (CO st))),Gc (.int way),Gc (.int i),Gc (.int (1+rs)),o10,none,none,none]:En)=E
   clear pre cs okS dqS
   by_cases hsw:way<8/\1<t.k
   .obtain⟨hw8,hk1⟩:=hsw
    have hk1':(1:Int)<t.k:=by lia
    obtain⟨rk,S4,e4,a4,b4,p4⟩:=Ar p3.pen (n:=(t.k:Int)-1) (by lia) (by lia)
    have hS4:=st' (p23.trans p4)
    have hmod:=Ve (x:=((AL st.AA i).k:Int)+1+rk) (K:=t.k) (by lia) (by lia)
    obtain⟨kd2,ekd⟩:∃q:Nat,((AL st.AA i).k+1+rk) % (t.k:Int)=(q:Int):=⟨_,(vQ (xC _ (by lia))).symm⟩
    have hkd:kd2<t.k/\kd2≠(AL st.AA i).k:=by
     rw[ekd]at hmod
     split at hmod<;>lia
    have kp:0<t.k:=by lia
    have cl:=bH hS4
    have okL:=NR (is:=GH st)
    have dqL:=O6 (is:=GH st)
    have ll:=Ya (st:=st)
    have nll:=Kg (is:=GH st)
    have rt:Ge 10=true:=Bw (by decide) (by decide)
    have mid:Pz E S3=(Vp [Gc (.ref p),Gc t.d,Gc (.ref s),Gc (.ref l),Gc (shD st.hold),Gc (.ref m),Gc (.lst (G7 (CO st))),Gc (.int way),Gc (.int i),Gc (.int (1+rs)),o10,Gc (.int kd2),Gc (.lst (G7 (GH st))),none] S4).bind (eN XF):=by
     subst hE
     simp[Pz,Tr.d,x3,hw8,hk1',lo3,x4',e4,kp,ekd,rt,cl]
    rw[mid]
    clear mid hE
    by_cases htr:way=7/\(GH st).isEmpty=false
    .obtain⟨hw7,hle⟩:=htr
     have hll:0<(GH st).length:=by
      cases z:GH st with
      |nil=>rw[z]at hle;cases hle
      |cons a b=>simp
     obtain⟨ru,S5,e5,a5,b5,p5⟩:=Ar p4.pen (n:=(GH st).length) (by lia) (by lia)
     obtain⟨u,mu,eu⟩:=Mu a5 b5
     obtain⟨x6,S6,e6,p6,a6,b6⟩:=OG p5.pen
     have fu:=Xo mu
     refine⟨.C0 u i (1+rs) kd2 x6,S6,?_,((p23.trans p4).trans p5).trans p6,⟨fi.1,hsome.1,hsome.2,hkd.1,hkd.2,a6,Int.lt_trans b6 (by decide),fu.1,by lia,by lia⟩,by split at b3<;>lia,b6⟩
     subst hw7
     simp[Vp,okL,dqL,hle,nll,e5,eu,e6,AR.d]
    .obtain⟨x6,S6,e6,p6,a6,b6⟩:=QU p4.pen
     refine⟨.swap i (1+rs) kd2 x6,S6,?_,(p23.trans p4).trans p6,⟨fi.1,hsome.1,hsome.2,hkd.1,hkd.2,a6,b6⟩,trivial⟩
     by_cases h7:way=7
     .subst h7
      have hle:(GH st).isEmpty=true:=by
       cases z:(GH st).isEmpty with
       |true=>rfl
       |false=>exact absurd ⟨rfl,z⟩ htr
      simp[Vp,okL,dqL,hle,e6,AR.d]
     .have h7':(way==7)=false:=by simpa using h7
      simp[Vp,h7',e6,AR.d]
   .have sw:Pz E S3=XF E S3:=by
     subst hE
     by_cases w8:way<8
     .have hk1:¬(1:Int)<t.k:=by lia
      simp[Pz,Tr.d,w8,hk1]
     .simp[Pz,w8]
    rw[sw]
    clear sw
    by_cases h8:way=8
    .subst h8
     refine⟨.EN i (1+rs),S3,?_,p23,⟨fi.1,hsome.1,hsome.2⟩,trivial⟩
     subst hE
     rfl
    .have h8':(way==8)=false:=by simpa using h8
     by_cases h9:way=9/\1<t.p
     .obtain⟨h9,hP⟩:=h9
      subst h9
      have hP':(1:Int)<t.p:=by lia
      obtain⟨rp,S4,e4,a4,b4,p4⟩:=Ar p3.pen (n:=t.p) (by lia) (by lia)
      obtain⟨rq,S5,e5,a5,b5,p5⟩:=Ar p4.pen (n:=(t.p:Int)-1) (by lia) (by lia)
      obtain⟨sh,S6,e6,p6,a6,b6,c6⟩:=YO p5.pen
      have hmod:=Ve (x:=rp+1+rq) (K:=t.p) (by lia) (by lia)
      obtain⟨q,eq⟩:∃q:Nat,(rp+1+rq) % (t.p:Int)=(q:Int):=⟨_,(vQ (xC _ (by lia))).symm⟩
      obtain⟨rp,rfl⟩:=Gx a4
      have hq:q<t.p/\q≠rp:=by
       rw[eq]at hmod
       split at hmod<;>lia
      have pp:0<t.p:=by lia
      refine⟨.HP rp q sh,S6,?_,((p23.trans p4).trans p5).trans p6,⟨λz=>hq.2 z.symm,by lia,hq.1,a6,b6,c6⟩,trivial⟩
      subst hE
      simp[XF,Tr.d,hP',e4,e5,pp,eq,e6,AR.d]
     .have s9:∀(x y:Ex) (T:Sto),xIf (FQ (eOp (o2 wEq) [eV 7,eC (.int 9)]) (eOp (o2 wGt) [eOp (o2 wIx) [eV 1,eC (.int 0)],eC (.int 1)])) x y E T=y E T:=by
       intro x y T
       subst hE
       by_cases z:way=9
       .have hP:¬(1:Int)<t.p:=by have:¬1<t.p:=λw=>h9 ⟨z,w⟩;lia
        subst z
        simp[Tr.d,hP]
       .have z':(way==9)=false:=by simpa using z
        simp[z']
      obtain⟨ws,S4,e4,p4,a4,b4⟩:=Uu p3.pen (n:=t.k+1) (by lia)
      have e4':D9 [.ref p,.int ((t.k:Int)+1)] S3=Gc (.tup (ws.map .int),S4):=e4
      refine⟨.thr i (1+rs) ws,S4,?_,p23.trans p4,⟨fi.1,hsome.1,hsome.2,a4,b4⟩,trivial⟩
      have s8:∀(x y:Ex) (T:Sto),xIf (eOp (o2 wEq) [eV 7,eC (.int 8)]) x y E T=y E T:=by
       intro x y T
       subst hE
       simp[h8']
      simp[XF,-VR,s8,s9]
      subst hE
      simp[Tr.d,e4',AR.d]
  by_cases hpool:way<5/\(FT st i).isEmpty=false
  .obtain⟨hw5,hse⟩:=hpool
   have hsl:0<(FT st i).length:=by
    cases z:FT st i with
    |nil=>rw[z]at hse;cases hse
    |cons a b=>simp
   obtain⟨rj,S4,e4,a4,b4,p4⟩:=Ar p3.pen (n:=(FT st i).length) (by lia) (by lia)
   obtain⟨j,mj,ej⟩:=Mu a4 b4
   have fj:=YX mj
   have fj':=MO fj.1
   refine⟨.Ik i j,S4,?_,p23.trans p4,⟨λz=>fj.2.1 z.symm,fi.1,fj'.1,n1,fj'.2,fj.2.2.symm⟩,trivial⟩
   rw[pre]
   simp[U6,hw5,cs,okS,dqS,hse,nls,e4,ej,AR.d]
  .by_cases w5:way<5
   .have hse:(FT st i).isEmpty=true:=by
     cases z:(FT st i).isEmpty with
     |true=>rfl
     |false=>exact absurd ⟨w5,z⟩ hpool
    obtain⟨d,S',e,pn,hc⟩:=tail (Gc (.lst (G7 (FT st i)))) (λ_=>hse)
    refine⟨d,S',?_,pn,hc⟩
    rw[pre,<-e]
    simp[U6,w5,cs,okS,dqS,hse]
   .obtain⟨d,S',e,pn,hc⟩:=tail none (λz=>absurd z w5)
    refine⟨d,S',?_,pn,hc⟩
    rw[pre,<-e]
    simp[U6,w5]
def VM(hp:CL p S)(hS:SAt S s l m as st)(hps:p∉s::l::m::as)(ht:Hu t)(h:FH t k st)(hk:k<=16):∃d S',Cg [.ref p,t.d,.ref s] S=Gc (AR.d d,S')/\Pn p S S'/\Can t st d:=by
 obtain⟨d,S',a,b,c,_⟩:=YT hp hS hps ht h hk
 exact⟨d,S',a,b,c⟩
end
noncomputable def runs(t:Tr)(st:Stt)(ds:Wp AR):Stt:=ds.foldl (step t) st
def JF(t:Tr):Stt->Wp AR->Prop
 |_,[]=>ze
 |st,d::ds=>Can t st d/\JF t (step t st d) ds
theorem Lc{t:Tr}{d:AR}:∀{ds:Wp AR} {st:Stt},JF t st ds->Can t (runs t st ds) d->JF t st (ds++[d])
 | [],st,_,h=>⟨h,trivial⟩
 |x::ds,st,h,g=>⟨h.1,Lc h.2 g⟩
def O1{t:Tr}{ds:Wp AR}{st:Stt}{i:Nat}{d:AR}(h:JF t st ds)(g:ds[i]?=Gc d):Can t (runs t st (ds.take i)) d:=by
 induction ds generalizing st i with
 |nil=>simp at g
 |cons x ds ih=>
  cases i with
  |zero=>simp at g;subst g;exact h.1
  |succ i=>simp at g;exact ih h.2 g
def Nf{t:Tr}{st:Stt}{ds:Wp AR}{d:AR}:runs t st (ds++[d])=step t (runs t st ds) d:=by simp[runs]
def Nb{t:Tr}{st:Stt}{ds:Wp AR}{i:Nat}{d:AR}(h:ds[i]?=Gc d):runs t st (ds.take (i+1))=step t (runs t st (ds.take i)) d:=by
 rw[yQ,h]
 exact Nf
theorem MD{t:Tr}(ht:Hu t):∀{ds:Wp AR} {st:Stt} {k:Nat},FH t k st->JF t st ds->k+ds.length<=17->FH t (k+ds.length) (runs t st ds)
 | [],st,k,h,_,_=>h
 |d::ds,st,k,h,g,hl=>by
  have:=MD ht (ds:=ds) (Ot ht h (by simp at hl;lia) g.1) g.2 (by simp at hl;lia)
  rw[show k+(d::ds).length=k+1+ds.length by simp;lia]
  exact this
theorem Ox{t:Tr}(ht:Hu t):∀{ds:Wp AR} {st:Stt} {k G B:Nat},SIG t k G B st->JF t st ds->k+ds.length<=17->∃T G' B',G'=G*T/\0<T/\B*T<=B'/\B'<=B*2^(161*ds.length)/\SIG t (k+ds.length) G' B' (runs t st ds)
 | [],st,k,G,B,h,_,_=>⟨1,G,B,(xl _).symm,by decide,by rw[xl];exact uP _,by simp,h⟩
 |d::ds,st,k,G,B,h,g,hl=>by
  obtain⟨T,G1,B1,rfl,t0,tb,ub,h1⟩:=Tt ht h (by simp at hl;lia) g.1
  obtain⟨T2,G2,B2,rfl,t2,tb2,ub2,h2⟩:=Ox ht (ds:=ds) h1 g.2 (by simp at hl;lia)
  refine⟨T*T2,_,B2,xu ..,xy t0 t2,uH ?_ tb2,?_,?_⟩
  .rw[<-xu]
   exact ui _ tb
  .refine uH ub2 (uH (ui _ ub) ?_)
   rw[xu,<-zK]
   exact yZ _ (uz (by decide) (by simp;lia))
  .rw[show k+(d::ds).length=k+1+ds.length by simp;lia]
   exact h2
theorem JA{t:Tr}:∀{ds:Wp AR} {st:Stt} {i:Nat},JF t st ds->JF t st (ds.take i)
 | [],st,i,h=>by simp;exact trivial
 |d::ds,st,0,h=>trivial
 |d::ds,st,i+1,h=>⟨h.1,JA h.2⟩
noncomputable def st0(t:Tr)(ls:Wp Ld):Stt:=⟨ls,t.ho,[]⟩
structure Ah(t:Tr)(ls:Wp Ld)(ds:Wp AR):Prop where
 tr:Hu t
 lev:∃k,k+ds.length<=16/\FH t k (st0 t ls)
 four:ls.length<=4
 pc0:∀l∈ls,0<=l.n/\l.n<2^131
 good:JF t (st0 t ls) ds
def FH.mono{t:Tr}{j k:Nat}{s:Stt}(h:FH t j s)(hk:j<=k):FH t k s:=by
 obtain⟨G,B,g0,gb,b,h1,h2⟩:=h.gb
 exact⟨by have:=h.len;lia,h.kind,λl hl=>⟨(h.pcs l hl).1,xT (h.pcs l hl).2 (by exact_mod_cast uz (by decide:0<2) (by lia:131+j<=131+k))⟩,h.own,h.hold,uH h.nm hk,G,B,g0,gb,uI b (uz (by decide) (by lia)),h1,h2⟩
def Ah.len{t:Tr}{ls:Wp Ld}{ds:Wp AR}(h:Ah t ls ds):ds.length<=16:=by
 obtain⟨k,hk,_⟩:=h.lev
 lia
def Ah.inv{t:Tr}{ls:Wp Ld}{ds:Wp AR}(h:Ah t ls ds):FH t 16 (st0 t ls):=by
 obtain⟨k,hk,z⟩:=h.lev
 exact z.mono (by lia)
def Ah.at{t:Tr}{ls:Wp Ld}{ds:Wp AR}(h:Ah t ls ds)(i:Nat):FH t 16 (runs t (st0 t ls) (ds.take i)):=by
 obtain⟨k,hk,z⟩:=h.lev
 exact(MD h.tr z (JA h.good) (by simp;lia)).mono (by simp;lia)
def Ah.one{t:Tr}{ls:Wp Ld}{ds:Wp AR}(h:Ah t ls ds):∃G B,0<G/\G<=B/\B<2^2750/\(∀x∈ls,∀r∈x.ow,Ok G B r)/\(∀x∈(runs t (st0 t ls) ds).AA,∀r∈x.ow,Ok G B r)/\∀r∈(runs t (st0 t ls) ds).hold,Ok G B r:=by
 obtain⟨k,hk,z⟩:=h.lev
 obtain⟨G,B,hs⟩:=z.sig
 obtain⟨T,G1,B1,rfl,t0,tb,_,h1⟩:=Ox h.tr hs h.good (by lia)
 refine⟨_,B1,h1.g0,h1.gb,uI h1.bb (uz (by decide) (by lia)),λx hx r hr=>((hs.lok x hx).ok r hr).up tb,λx hx=>(h1.lok x hx).ok,h1.hok⟩
noncomputable def AM(t:Tr)(ls:Wp Ld)(ds:Wp AR):D:=.tup [t.d,.tup (ls.map Ld.d),.tup (ds.map AR.d)]
def Vk{t:Tr}{ls:Wp Ld}(h:Gf t ls)(hl:ls.length<=4)(h1:t.ho.length=t.p){g:Nat}(g0:0<g)(g1:g<=32)(g2:∀r∈t.ho,Ok g g r):FH t 0 (st0 t ls):=by
 obtain⟨ha,G,G0,G1,G2⟩:=h
 have hG:G<=32^4:=uH G1 (uz (by decide) hl)
 have hB:G*g<2^30:=by
  have:=v5 hG g1
  lia
 refine FH.of (G:=G*g) (B:=G*g) (by simpa[st0]using hl) ?_ h1 (uP _) (xy G0 g0) (uP _) hB ?_
 .intro x hx
  have:=ha x hx
  exact⟨this.1,by lia,eR this.2.2.1,this.2.2.2.1,λr hr=>(G2 x hx r hr).up (uP _)⟩
 .intro r hr
  have:=(g2 r hr).up (t:=G) (B':=G*g) (by rw[wk];exact uP _)
  rwa [wk g G]at this
noncomputable def LZ:AR->va
 | .thr .. =>true
 |_=>false
section
variable{S:Sto}{p:Nat}
def Y1(d:AR)(E:En)(h:E=[Gc d.d]):eOp (o2 wEq) [eOp (o2 wIx) [eV 0,eC (.int 0)],eC (.str "throw")] E S=Gc (.bl (LZ d),S):=by
 subst h
 cases d<;>simp[AR.d,LZ]
end
section
variable{S:Sto}{s l m:Nat}{as:Wp Nat}{st:Stt}
theorem LX{rs:Wp Rat}:D.tup (rs.map aD)=shD rs:=rfl
end
def Rq(h:n<=m):HT.sIx m d (Gc (n:Int))=n:=by
 unfold HT.sIx
 have:¬((n:Int)<0):=by lia
 simp[this]
 lia
def Ka{ds:Wp α}(h:n<=ds.length):Nt ds none (Gc (n:Int))=ds.take n:=by
 unfold Nt
 rw[Rq h]
 simp[HT.sIx]
def YQ{ds:Wp α}(h:n<=ds.length):Nt ds (Gc (n:Int)) none=ds.drop n:=by
 unfold Nt
 rw[Rq h]
 simp[HT.sIx]
 exact yA (by simp)
noncomputable def hD(x:Ld):D:=.tup [.int x.k,.int x.n]
noncomputable def Aw(ls:Wp Ld):D:=.lst (ls.map hD)
noncomputable def Kw(ls:Wp Ld):D:=.lst (ls.map λx=>shD x.ow)
section
variable{ls:Wp Ld}{i j:Nat}{n:Int}
@[simp] def mS:dr S (Aw ls)=.val (Aw ls):=rfl
@[simp] def qP:dr S (Kw ls)=.val (Kw ls):=rfl
@[simp] def lO:asS (.val (Aw ls))=some (ls.map hD):=rfl
@[simp] def j6:asS (.val (Kw ls))=some (ls.map λx=>shD x.ow):=rfl
def IS(hi:i<ls.length):atI (ls.map hD) (i:Int)=Gc (hD (AL ls i)):=BU (by rw[uR,DN hi];rfl)
def Mn(hi:i<ls.length):atI (ls.map λx=>shD x.ow) (i:Int)=Gc (shD (AL ls i).ow):=BU (by rw[uR,DN hi];rfl)
@[simp] def qj:dr S (hD x)=.val (.tup [.int x.k,.int x.n]):=rfl
@[simp] def qa:tTp ts (hD x) E S=tMs ts [.int x.k,.int x.n] E S:=rfl
def ZG:wSl lo hi (.val (Aw ls))=Gc (.own (Nt (ls.map hD) lo hi)):=rfl
def Fh(hi:i<ls.length)(hl:ls.length<=60):Bb [Aw ls,.int i,.int n] S=Gc (Aw (less ls i n),S):=by
 have c1:=Ka (ds:=ls.map hD) (n:=i) (by simp;lia)
 have c2:Nt (ls.map hD) (Gc ((i:Int)+1)) none=(ls.map hD).drop (i+1):=by
  have:=YQ (ds:=ls.map hD) (n:=i+1) (by simp;lia)
  simpa using this
 have ef:Aw (less ls i n)=.lst ((ls.map hD).take i++[.tup [.int (AL ls i).k,.int ((AL ls i).n-n)]]++(ls.map hD).drop (i+1)):=by
  rw[Ru,Aw,xH,List.set_eq_take_append_cons_drop,vF (by simpa using hi)]
  simp[hD]
 have z1:(List.take i (ls.map hD)).length+1<=sizeLine:=uH (show _<=100 by simp;lia) (AK (by decide))
 have z2:(List.take i (ls.map hD)++[D.tup [.int (AL ls i).k,.int ((AL ls i).n-n)]]).length+(List.drop (i+1) (ls.map hD)).length<=sizeLine:=uH (show _<=100 by simp;rw[AA0 (xE hi)];exact uH (Nat.le_of_eq (Nat.add_sub_cancel' hi)) (uH hl (by decide))) (AK (by decide))
 rw[ef]
 have ah:=IS hi
 have ws:=λ{lo hi:uM Int}=>ZG (ls:=ls) (lo:=lo) (hi:=hi)
 generalize List.take i (ls.map hD)=A at*
 generalize List.drop (i+1) (ls.map hD)=B at*
 simp only[vb,vY,yf]at z2
 simp[Bb,He,ah,ws,c1,c2,z1,z2]
end
section
variable{S:Sto}{st:Stt}{t:Tr}{k:Nat}
@[simp] def FE{ls:List Ld}{r:List D}:Cr (.val (Aw ls)) (.val (.lst r))=if(ls.map hD).length+r.length<=sizeLine then some (.own (ls.map hD++r))else none:=rfl
def MR{ls:Wp Ld}{y:Ld}:D.lst (ls.map hD++[.tup [.int y.k,.int y.n]])=Aw (ls++[y]):=by simp[Aw,hD]
def NP(h:FH t k st)(hk:k<=17){d:AR}(hc:Can t st d):Af [Aw st.AA,d.d] S=Gc (Aw (step t st d).AA,S):=by
 have hlen:=h.len
 have hz:(st.AA.map hD).length+1<=sizeLine:=uH (show _<=100 by simp;lia) (AK (by decide))
 have hz2:∀{i:Nat} {n:Int},((less st.AA i n).map hD).length+1<=sizeLine:=λ{i n}=>uH (show _<=100 by simp[DF];lia) (AK (by decide))
 cases d with
 |Bj p kd n=>
  have e:=MR (ls:=st.AA) (y:=⟨kd,n,Sy t.p p⟩)
  show _=Gc (Aw (st.AA++[⟨kd,n,Sy t.p p⟩]),S)
  rw[<-e]
  have wA:=FE (ls:=st.AA) (r:=[.tup [.int kd,.int n]])
  rw[vF (by simpa using hz)]at wA
  simp[Af,BW,AR.d,-FE,wA]
 |Ik i j=>
  obtain⟨hij,hi,hj,h1,h2,h3⟩:=hc
  have e0:AL (less st.AA i (AL st.AA i).n) j=AL st.AA j:=by
   unfold AL less
   rw[uY,uQ hij,<-uY]
  have w1:=Fh (S:=S) (n:=(AL st.AA i).n) hi (by lia)
  have w2:=Fh (S:=S) (ls:=less st.AA i (AL st.AA i).n) (i:=j) (n:=(AL st.AA j).n) (by rw[DF];exact hj) (by rw[DF];lia)
  have z3:((less (less st.AA i (AL st.AA i).n) j (AL st.AA j).n).map hD).length+1<=sizeLine:=uH (show _<=100 by simp[DF];lia) (AK (by decide))
  have e:=MR (ls:=less (less st.AA i (AL st.AA i).n) j (AL st.AA j).n) (y:=⟨(AL st.AA i).k,(AL st.AA i).n+(AL st.AA j).n,B3 (AL st.AA i).n (AL st.AA j).n (AL st.AA i).ow (AL st.AA j).ow⟩)
  show _=Gc (Aw (less (less st.AA i (AL st.AA i).n) j (AL st.AA j).n++[_]),S)
  rw[<-e]
  have a1:=IS hi
  have a2:=IS hj
  have wA:=FE (ls:=less (less st.AA i (AL st.AA i).n) j (AL st.AA j).n) (r:=[.tup [.int (AL st.AA i).k,.int ((AL st.AA i).n+(AL st.AA j).n)]])
  rw[vF (by simpa using z3)]at wA
  generalize (less (less st.AA i (AL st.AA i).n) j (AL st.AA j).n).map hD=A at*
  simp[Af,BW,AR.d,a1,a2,w1,w2,-FE,wA]
 |swap i g kd n=>
  obtain⟨hi,h1,h2,h3,h4,h5,h6⟩:=hc
  have w1:=Fh (S:=S) (n:=g) hi (by lia)
  have e:=MR (ls:=less st.AA i g) (y:=⟨kd,n,(AL st.AA i).ow⟩)
  show _=Gc (Aw (less st.AA i g++[⟨kd,n,(AL st.AA i).ow⟩]),S)
  rw[<-e]
  have wA:=FE (ls:=less st.AA i g) (r:=[.tup [.int kd,.int n]])
  rw[vF (by simpa using hz2)]at wA
  simp[Af,BW,AR.d,w1,-FE,wA]
 |C0 u i g kd n=>
  obtain⟨hi,h1,h2,h3,h4,h5,h6,h7⟩:=hc
  have w1:=Fh (S:=S) (n:=g) hi (by lia)
  have e:=MR (ls:=less st.AA i g) (y:=⟨kd,n,(AL st.AA i).ow⟩)
  show _=Gc (Aw (less st.AA i g++[⟨kd,n,(AL st.AA i).ow⟩]),S)
  rw[<-e]
  have wA:=FE (ls:=less st.AA i g) (r:=[.tup [.int kd,.int n]])
  rw[vF (by simpa using hz2)]at wA
  simp[Af,BW,AR.d,w1,-FE,wA]
 |EN i n=>
  obtain⟨hi,h1,h2⟩:=hc
  have w1:=Fh (S:=S) (n:=n) hi (by lia)
  show _=Gc (Aw (less st.AA i n),S)
  simp[Af,BW,AR.d,w1]
 |thr i n ws=>
  obtain⟨hi,h1,h2,h3,h4⟩:=hc
  have w1:=Fh (S:=S) (n:=n) hi (by lia)
  have e:Aw (step t st (.thr i n ws)).AA=Aw (less st.AA i n):=by
   show D.lst (((less st.AA i n).map _).map hD)=_
   rw[uh];rfl
  rw[e]
  simp[Af,BW,AR.d,w1]
 |HP p q x=>
  have e:Aw (step t st (.HP p q x)).AA=Aw st.AA:=by
   show D.lst ((st.AA.map _).map hD)=_
   rw[uh];rfl
  rw[e]
  simp[Af,BW,AR.d]
noncomputable def Hh:AR->uM Int
 | .C0 u .. =>Gc u
 |_=>none
def Vf{ls:Wp Ld}:∀{ds:Wp AR},(runs t (st0 t ls) ds).nums=ds.filterMap Hh:=by
 intro ds
 have:∀(ds:Wp AR) (st:Stt),(runs t st ds).nums=st.nums++ds.filterMap Hh:=by
  intro ds
  induction ds with
  |nil=>intro st;simp[runs]
  |cons d ds ih=>
   intro st
   show(runs t (step t st d) ds).nums=_
   rw[ih]
   cases d<;>simp[step,Hh,vP]
 rw[this];rfl
theorem Ly:∀{ds:Wp AR} {acc:Wp D} {o:uM D},acc.length+ds.length<=100->BA [] (tNm 0) (eOp (o2 wEq) [eOp (o2 wIx) [eV 0,eC (.int 0)],eC (.str "trade")]) (eOp (o2 wIx) [eV 0,eC (.int 1)]) (ds.map AR.d) acc [o] S=Gc (acc++(ds.filterMap Hh).map D.int,S)
 | [],acc,o,h=>by rw[vM,Cc AI];simp
 |d::ds,acc,o,h=>by
  have hz:acc.length<sizeLine:=uI (show acc.length<101 by simp at h;lia) (AK (by decide))
  have ht:tNm 0 d.d [o] S=Gc [Gc d.d]:=by simp
  rw[uV]
  cases d with
  |C0 u i g kd n=>
   rw[FO AI hz ht (S1:=S) (by simp[AR.d])]
   have:eOp (o2 wIx) [eV 0,eC (.int 1)] [Gc (AR.C0 u i g kd n).d] S=Gc (.int u,S):=by simp[AR.d]
   rw[this,Au,Ly (by simp at h ⊢; lia)]
   simp[Hh,vP]
  |Bj=>rw[CD AI hz ht (S1:=S) (by simp[AR.d]),Ly (by simp at h ⊢; lia)];simp[Hh,vP]
  |Ik=>rw[CD AI hz ht (S1:=S) (by simp[AR.d]),Ly (by simp at h ⊢; lia)];simp[Hh,vP]
  |swap=>rw[CD AI hz ht (S1:=S) (by simp[AR.d]),Ly (by simp at h ⊢; lia)];simp[Hh,vP]
  |EN=>rw[CD AI hz ht (S1:=S) (by simp[AR.d]),Ly (by simp at h ⊢; lia)];simp[Hh,vP]
  |thr=>rw[CD AI hz ht (S1:=S) (by simp[AR.d]),Ly (by simp at h ⊢; lia)];simp[Hh,vP]
  |HP=>rw[CD AI hz ht (S1:=S) (by simp[AR.d]),Ly (by simp at h ⊢; lia)];simp[Hh,vP]
end
section
variable{S:Sto}{st:Stt}{t:Tr}{k:Nat}
def Y0{ss os:Wp Rat}:JC (ss.map aD) (os.map aD)=(ss.zip os).map λz=>D.tup [aD z.1,aD z.2]:=by
 unfold JC
 rw[List.zip_map,uh]
 rfl
noncomputable def Pu(w m:Int)(ss os:Wp Rat):Wp Rat:=yv (λs o=>(s*w+o*m) / (w+m)) ss os
def ET{w m:Int}{ss os:Wp Rat}{j n:Nat}(hs:∀r∈ss,Sz j r)(ho:∀r∈os,Sz j r)(hw:w.natAbs<2^n)(hm:m.natAbs<2^n)(h:0<w+m)(hj:2*j+n+1<=7990)(hl:ss.length<=50):BZ [shD ss,.int w,shD os,.int m] S=Gc (shD (Pu w m ss os),S):=by
 have e:=A6 (gs:=[]) (t:=tTp [tNm 2,tNm 3]) (f:=AB Ib [eV 2,eV 0,eV 3,eV 1]) (C:=[Gc (.int w),Gc (.int m)]) (m:=2) (e:=λz:Rat×Rat=>D.tup [aD z.1,aD z.2]) (g:=λz=>aD ((z.1*w+z.2*m) / (w+m))) (S:=S) AI (xs:=ss.zip os) (acc:=[]) (os:=[none,none]) rfl (uH (show _<=50 by simp;lia) (AK (by decide))) (by
  intro z hz os' ho'
  obtain⟨q1,q2,rfl⟩:=eA ho'
  have hm2:=yF (a:=z.1) (b:=z.2) hz
  have l:=fS (S:=S) (hs _ hm2.1) (ho _ hm2.2) hw hm h (by lia)
  refine⟨[Gc (aD z.1),Gc (aD z.2)],rfl,by simp,?_⟩
  simp[l])
 rw[<-Y0]at e
 have em:(ss.zip os).map (λz=>aD ((z.1*w+z.2*m) / (w+m)))=(Pu w m ss os).map aD:=by
  unfold Pu
  rw[<-List.map_uncurry_zip_eq_zipWith,uh]
  rfl
 rw[em]at e
 simp only[vD,ur]at e
 simp[BZ,Hm,e,LX]
def PV{P p:Nat}(hP:P<=50):Et [.int P,.int p] S=Gc (shD (Sy P p),S):=by
 have e:=TX (S:=S) (P:=P) (p:=p) (cond:=0) (C:=[]) (dd:=.int p) (f:=eIf (eOp (o2 wEq) [eV 1,eV 0]) (eC Pf) (eC Ce)) hP (by
  intro i
  by_cases hi:i=p
  .subst hi;simp;rfl
  .have:((i:Int)==(p:Int))=false:=by simp;lia
   simp[this,hi];rfl)
 have rn:Ge (P:Int)=true:=Bw (by lia) (by lia)
 simp[Et,JI,rn,e,LX]
def NW{n m:Int}{ss os:Wp Rat}:Pu n m ss os=B3 n m ss os:=by
 unfold Pu B3
 congr 1
 funext s o
 push_cast
 rfl
def RX{n m:Int}{ss os:Wp Rat}:B3 n m ss os=B3 m n os ss:=by
 unfold B3
 rw[List.zipWith_comm]
 congr 1
 funext o s
 push_cast
 grind
@[simp] def VT{a b:Int}:Nx [a,b]=if a<=b then [a,b]else [b,a]:=by
  unfold Nx
  simp[List.mergeSort,ABn,List.merge]
@[simp] def bI{a b:Int}:O2 (.val (.lst [.int a,.int b]))=some (.own ((if a<=b then [a,b]else [b,a]).map D.int)):=by
  have:O2 (.val (.lst [.int a,.int b]))=Gc (.own ((Nx [a,b]).map D.int)):=rfl
  rw[this,VT]
@[simp] def kn{a b c d e:D}:atI [a,b,c,d,e] (-4)=some b:=rfl
@[simp] def lJ{a b c d e f:D}:atI [a,b,c,d,e,f] (-4)=some c:=rfl
def V4{i j:Nat}(ht:Hu t)(h:FH t k st)(hk:k<=17)(hc:Can t st (.Ik i j)):BK [Aw st.AA,Kw st.AA,(AR.Ik i j).d] S=Gc (shD (B3 (AL st.AA i).n (AL st.AA j).n (AL st.AA i).ow (AL st.AA j).ow),S):=by
 obtain⟨hij,hi,hj,h1,h2,h3⟩:=hc
 have sz:=h.sz
 have pi:=h.pcs _ (AU hi)
 have pj:=h.pcs _ (AU hj)
 have ti:=h.own _ (AU hi)
 have tj:=h.own _ (AU hj)
 have zi:=sz.1 _ (AU hi)
 have zj:=sz.1 _ (AU hj)
 have hp:t.p<=10:=by have:=ht.2.1;lia
 .by_cases hle:i<=j
  .have hle':(i:Int)<=j:=by lia
   have e:=ET (S:=S) (j:=30+170*k) (n:=131+k) zi zj (EC pi.1 pi.2) (EC pj.1 pj.2) (by lia) (by lia) (by lia)
   rw[NW]at e
   have a1:=IS hi
   have a2:=IS hj
   have b1:=Mn hi
   have b2:=Mn hj
   have mf:By [(AR.Ik i j).d] S=Gc (.lst [.int i,.int j],S):=by
    simp[By,ED,AR.d,hle,hle']
   simp only[AR.d]at mf⊢
   simp[BK,Cu,mf,a1,a2,b1,b2,e]
  .have hle':¬(i:Int)<=j:=by lia
   have e:=ET (S:=S) (j:=30+170*k) (n:=131+k) zj zi (EC pj.1 pj.2) (EC pi.1 pi.2) (by lia) (by lia) (by lia)
   rw[NW,RX]at e
   have a1:=IS hi
   have a2:=IS hj
   have b1:=Mn hi
   have b2:=Mn hj
   have mf:By [(AR.Ik i j).d] S=Gc (.lst [.int j,.int i],S):=by
    simp[By,ED,AR.d,hle,hle']
   simp only[AR.d]at mf⊢
   simp[BK,Cu,mf,a1,a2,b1,b2,e]
def Vn{i kd:Nat}{g n:Int}(hi:i<st.AA.length):BK [Aw st.AA,Kw st.AA,(AR.swap i g kd n).d] S=Gc (shD (AL st.AA i).ow,S):=by
 have b1:=Mn hi
 simp[BK,Cu,By,ED,AR.d,b1]
def T6{i kd:Nat}{u g n:Int}(hi:i<st.AA.length):BK [Aw st.AA,Kw st.AA,(AR.C0 u i g kd n).d] S=Gc (shD (AL st.AA i).ow,S):=by
 have b1:=Mn hi
 simp[BK,Cu,By,ED,AR.d,b1]
def Yu{ws:Wp Int}(h:FH t k st)(hk:k<=17)(hl:ws.length=t.k+1)(hw:∀w∈ws,1<=w/\w<=99):Dp [t.d,Aw st.AA,.tup (ws.map D.int)] S=Gc (.int (EY t st.AA ws),S):=by
 have hlen:=h.len
 have e:=A6 (gs:=[]) (t:=tTp [tNm 1,tNm 2]) (f:=eOp (o2 BH) [eV 2,eOp (o2 wIx) [eV 0,eV 1]]) (C:=[Gc (.tup (ws.map D.int))]) (m:=2) (e:=hD) (g:=λx=>D.int (x.n*ws.getD x.k 0)) (S:=S) AI (xs:=st.AA) (acc:=[]) (os:=[none,none]) rfl (uH (show _<=50 by simp;lia) (AK (by decide))) (by
  intro x hx os ho
  obtain⟨q1,q2,rfl⟩:=eA ho
  have hkk:=h.kind _ hx
  have w1:=KH (ws:=ws) (i:=x.k) (by lia)
  have w2:=GJ hw (i:=x.k) (by lia)
  have m1:C8 x.n (ws.getD x.k 0)=true:=mulR (by lia) (by lia)
  generalize ws.getD x.k 0=wz at*
  refine⟨[Gc (.int x.k),Gc (.int x.n)],rfl,by simp,?_⟩
  simp[w1,m1])
 simp only[vD,ur]at e
 have es:Jh (st.AA.map λx=>D.int (x.n*ws.getD x.k 0))=Gc (st.AA.map λx=>x.n*ws.getD x.k 0):=by
  have:=CF (st.AA.map λx=>x.n*ws.getD x.k 0)
  rwa [uh]at this
 have w2:=Oq hl
 have w4:=GJ hw (i:=t.k) (by lia)
 have m2:C8 (t.b:Int) (ws.getD t.k 0)=true:=mulR (by lia) (by lia)
 have e2:EY t st.AA ws=(st.AA.map λx=>x.n*ws.getD x.k 0).sum+t.b*ws.getD t.k 0:=rfl
 rw[e2]
 have sq:sqD S (Aw st.AA)=Gc (st.AA.map hD,[]):=rfl
 generalize (st.AA.map λx=>x.n*ws.getD x.k 0)=es' at*
 generalize (st.AA.map λx=>D.int (x.n*ws.getD x.k 0))=es2 at*
 generalize ws.getD t.k 0=wb at*
 simp[Dp,Hk,Tr.d,sq,e,es,w2,m2]
def aV{i:Nat}{n:Int}{ws:Wp Int}(ht:Hu t)(h:FH t k st)(hk:k<=17)(hc:Can t st (.thr i n ws)):EE [t.d,Aw st.AA,(AR.thr i n ws).d] S=Gc (aD (JX t st.AA i n ws),S):=by
 obtain⟨hi,h1,h2,hl,hw⟩:=hc
 have a:=KZ ht h (by lia) hl hw
 have w1:=KH (ws:=ws) (i:=(AL st.AA i).k) (by have:=h.kind _ (AU hi);lia)
 have w3:=GJ hw (i:=(AL st.AA i).k) (by have:=h.kind _ (AU hi);lia)
 have m1:C8 n (ws.getD (AL st.AA i).k 0)=true:=mulR (by lia) (by lia)
 have l1:=Rt (S:=S) (t:=n*ws.getD (AL st.AA i).k 0) a.1 (C4 (EC (by lia) a.2) (by lia))
 have wo:=Yu (S:=S) h hk hl hw
 have ah:=IS hi
 rw[MT hi]
 generalize aD (((n*ws.getD (AL st.AA i).k 0:Int):Rat) / (EY t st.AA ws:Rat))=R at*
 generalize ws.getD (AL st.AA i).k 0=wa at*
 simp[EE,IW,AR.d,ah,w1,m1,wo,l1]
def Vr{X:Rat}{ss os:Wp Rat}:Pu ((X.den:Int)-X.num) X.num ss os=Gy X os ss:=by
 unfold Pu Gy
 congr 1
 funext s o
 have h1:=DH X
 have h2:=Hf X
 push_cast
 have e:((X.den:Rat)-(X.num:Rat)+(X.num:Rat))=(X.den:Rat):=by grind
 rw[e]
 grind
def Ww{i:Nat}{n:Int}{ws:Wp Int}{ss:Wp Rat}(ht:Hu t)(h:FH t k st)(hk:k<=17)(hc:Can t st (.thr i n ws))(hs:∀r∈ss,Sz (30+170*k) r)(hl:ss.length<=50):DR [t.d,Aw st.AA,Kw st.AA,(AR.thr i n ws).d,shD ss] S=Gc (shD (Gy (JX t st.AA i n ws) (AL st.AA i).ow ss),S):=by
 have pt:=aV (S:=S) ht h hk hc
 obtain⟨hi,h1,h2,hl',hw⟩:=hc
 have cz:=WJ ht h (by lia) hl' hw hi h1 h2
 have b1:=Mn hi
 generalize JX t st.AA i n ws=X at*
 have d0:=den_pos X
 have c2:=cz.2
 have e:=ET (S:=S) (w:=(X.den:Int)-X.num) (m:=X.num) (j:=30+170*k) (n:=146+k) hs (h.sz.1 _ (AU hi)) (by
  rw[show 146+k=(145+k)+1 by lia,AAu,Nat.mul_two]
  exact ug (AAP _ _) (Nat.add_lt_add c2 cz.1)) (au cz.1 (by lia)) (by lia) (by lia) hl
 rw[Vr]at e
 generalize Gy X (AL st.AA i).ow ss=rs at*
 simp only[aD,AR.d]at pt⊢
 simp[DR,G8,pt,b1,e]
def Vg{p q:Nat}{x:Rat}{ss:Wp Rat}{j i:Nat}(hs:∀r∈ss,Sz j r)(hx:Sz i x)(hj:2*j+i<=7900)(hp:p<ss.length)(hq:q<ss.length)(hpq:p≠q):∃S',EH [(AR.HP p q x).d,shD ss] S=Gc (shD (F3 p q x ss),S')/\Bh [] S S':=by
 have sp:=hs _ (getD_mem (d:=0) hp)
 have sq:=hs _ (getD_mem (d:=0) hq)
 have l1:∀S,BJ [aD (ss.getD p 0),aD x] S=Gc (aD (ss.getD p 0*x),S):=λS=>NU sp hx (by lia)
 have s1:=ON sp hx
 have l2:∀S,Dq [aD (ss.getD p 0),aD (ss.getD p 0*x)] S=Gc (aD (ss.getD p 0-ss.getD p 0*x),S):=λS=>b0 sp s1 (by lia)
 have l3:∀S,EO [aD (ss.getD q 0),aD (ss.getD p 0*x)] S=Gc (aD (ss.getD q 0+ss.getD p 0*x),S):=λS=>Wr sq s1 (by lia)
 have a1:=Na hp
 have a2:=Na hq
 have i1:=Zm hp
 have i2:ixN (((ss.map aD).set p (aD (ss.getD p 0-ss.getD p 0*x))).length) (q:Int)=Gc q:=Ic (by simpa using hq)
 refine⟨S++[.lst ((F3 p q x ss).map aD)],?_,.app⟩
 simp only[wW,ux]at i1 i2
 have em:(F3 p q x ss).map aD=((ss.map aD).set p (aD (ss.getD p 0-ss.getD p 0*x))).set q (aD (ss.getD q 0+ss.getD p 0*x)):=by rw[F3,xH,xH]
 unfold shD
 rw[em]
 generalize aD (ss.getD p 0-ss.getD p 0*x)=d1 at*
 generalize aD (ss.getD q 0+ss.getD p 0*x)=d2 at*
 generalize aD (ss.getD p 0*x)=d3 at*
 generalize aD (ss.getD p 0)=d4 at*
 generalize aD (ss.getD q 0)=d5 at*
 simp[EH,IP,AR.d,a1,a2,l1,l2,l3,i1,i2]
end
def Wf(t:Tr):AR->Prop
 | .Bj p k n=>p<t.p/\k<t.k/\1<=n/\n<2^131
 | .Ik a b=>a≠b
 | .swap _ g k n=>1<=g/\k<t.k/\1<=n/\n<2^131
 | .C0 u _ g k n=>1<=g/\k<t.k/\1<=n/\n<2^131/\0<=u/\u<=9
 | .EN _ n=>1<=n
 | .thr _ n ws=>1<=n/\ws.length=t.k+1/\∀w∈ws,1<=w/\w<=99
 | .HP p q x=>p≠q/\p<t.p/\q<t.p/\0<x.num/\x.num<=x.den/\x.den<=12
noncomputable def thB(st:Stt)(l:Nat)(n:Int):va:=decide (l<st.AA.length) && decide (n<=(AL st.AA l).n)
noncomputable def swB(st:Stt)(l:Nat)(g:Int)(k:Nat):va:=thB st l g && !((AL st.AA l).k==k)
noncomputable def TV(st:Stt):AR->va
 | .Bj .. =>true
 | .Ik a b=>thB st a 1 && (thB st b 1 && ((AL st.AA a).k==(AL st.AA b).k))
 | .swap l g k _=>swB st l g k
 | .C0 u l g k _=> !(st.nums.any λx=>x==u) && swB st l g k
 | .EN l n=>thB st l n
 | .thr l n _=>thB st l n
 | .HP .. =>true
section
variable{st:Stt}
def oI{us:Wp Int}:(us.any λx=>x==u)=false↔u∉us:=by
 rw[List.any_eq_false]
 constructor
 .intro h z
  exact h u z (by simp)
 .intro h x hx z
  have:x=u:=by simpa using z
  exact h (this▸hx)
def Z3(h:Can t st d):Wf t d/\TV st d=true:=by
 cases d with
 |Bj p k n=>exact⟨h,rfl⟩
 |Ik a b=>
  obtain⟨h1,h2,h3,h4,h5,h6⟩:=h
  refine⟨h1,?_⟩
  simp only[TV,thB,uW,wD,xN]
  exact⟨⟨h2,by lia⟩,⟨h3,by lia⟩,h6⟩
 |swap l g k n=>
  obtain⟨h1,h2,h3,h4,h5,h6,h7⟩:=h
  refine⟨⟨h2,h4,h6,h7⟩,?_⟩
  simp only[TV,swB,thB,uW,wD,AAM,xD,ne_eq]
  exact⟨⟨h1,h3⟩,λz=>h5 z.symm⟩
 |C0 u l g k n=>
  obtain⟨h1,h2,h3,h4,h5,h6,h7,h8,h9,h10⟩:=h
  refine⟨⟨h2,h4,h6,h7,h9,h10⟩,?_⟩
  simp only[TV,swB,thB,uW,wD,AAM,xD,ne_eq]
  exact⟨oI.mpr h8,⟨h1,h3⟩,λz=>h5 z.symm⟩
 |EN l n=>
  obtain⟨h1,h2,h3⟩:=h
  refine⟨h2,?_⟩
  simp only[TV,thB,uW,wD]
  exact⟨h1,h3⟩
 |thr l n ws=>
  obtain⟨h1,h2,h3,h4⟩:=h
  refine⟨⟨h2,h4⟩,?_⟩
  simp only[TV,thB,uW,wD]
  exact⟨h1,h3⟩
 |HP p q x=>exact⟨h,rfl⟩
def Pq(h:l<st.AA.length):atI (st.AA.map hD) (l:Int)=Gc (hD (AL st.AA l)):=BU (by rw[uR,DN h];rfl)
def M9{l:Nat}:Bk [Aw st.AA,.int l,.int n] S=Gc (.bl (thB st l n),S):=by
 by_cases h:l<st.AA.length
 .have a:=Pq h
  have h':(l:Int)<(st.AA.length:Int):=by lia
  have e:thB st l n=decide (n<=(AL st.AA l).n):=by simp[thB,h]
  rw[e]
  simp[Bk,Gb,Aw,h',a,hD]
 .have h':¬(l:Int)<(st.AA.length:Int):=by lia
  have e:thB st l n=false:=by simp[thB,h]
  rw[e]
  simp[Bk,Gb,Aw,h']
def VX(h:thB st l n=true):l<st.AA.length:=by
 simp only[thB,uW,wD]at h
 exact h.1
def Rb{a b:Nat}:((a:Int)==(b:Int))=(a==b):=by
 rw[xh,xN,xN]
 exact Int.ofNat_inj
def R7{l k:Nat}:D5 [Aw st.AA,.int l,.int g,.int k] S=Gc (.bl (swB st l g k),S):=by
 have e:=M9 (S:=S) (st:=st) (l:=l) (n:=g)
 unfold swB
 cases h:thB st l g with
 |false=>
  rw[h]at e
  generalize Aw st.AA=HD at*
  simp[D5,Hv,e]
 |true=>
  rw[h]at e
  have a:=Pq (VX h)
  simp only[Aw]at e⊢
  have nb:=Rb (a:=(AL st.AA l).k) (b:=k)
  generalize st.AA.map hD=HL at*
  simp[D5,Hv,e,a,hD,nb]
def Xn{a b:Nat}:D6 [Aw st.AA,.int a,.int b] S=Gc (.bl (thB st a 1 && (thB st b 1 && ((AL st.AA a).k==(AL st.AA b).k))),S):=by
 have e1:=M9 (S:=S) (st:=st) (l:=a) (n:=1)
 have e2:=M9 (S:=S) (st:=st) (l:=b) (n:=1)
 cases h:thB st a 1 with
 |false=>
  rw[h]at e1
  generalize Aw st.AA=HD at*
  simp[D6,GQ,e1]
 |true=>
  rw[h]at e1
  cases h2:thB st b 1 with
  |false=>
   rw[h2]at e2
   generalize Aw st.AA=HD at*
   simp[D6,GQ,e1,e2]
  |true=>
   rw[h2]at e2
   have a1:=Pq (VX h)
   have a2:=Pq (VX h2)
   have nb:=Rb (a:=(AL st.AA a).k) (b:=(AL st.AA b).k)
   simp only[Aw]at e1 e2⊢
   generalize st.AA.map hD=HL at*
   simp[D6,GQ,e1,e2,a1,a2,hD,nb]
def mO{ds:Wp AR}(hd:ds.length<=50)(hn:st.nums=ds.filterMap Hh):B8 [Aw st.AA,.tup (ds.map AR.d),d.d] S=Gc (.bl (TV st d),S):=by
 cases d with
 |Bj p kd n=>simp[B8,D0,AR.d,TV]
 |Ik i j=>
  have e:=Xn (S:=S) (st:=st) (a:=i) (b:=j)
  simp[B8,D0,AR.d,e,TV]
 |swap i g kd n=>
  have e:=R7 (S:=S) (st:=st) (l:=i) (g:=g) (k:=kd)
  simp[B8,D0,AR.d,e,TV]
 |C0 u i g kd n=>
  have e:=R7 (S:=S) (st:=st) (l:=i) (g:=g) (k:=kd)
  have tc:=Ly (S:=S) (ds:=ds) (acc:=[]) (o:=none) (by simp;lia)
  rw[<-hn]at tc
  have fi:=Q2 (us:=st.nums)
  have ii:=SY (us:=st.nums) (i:=u)
  have cb:TV st (.C0 u i g kd n)=(!(st.nums.any λx=>x==u) && swB st i g kd):=rfl
  rw[cb]
  generalize st.nums.map D.int=ud at*
  generalize (st.nums.any λx=>x==u)=q at*
  rw[ur]at tc
  cases q<;>simp[B8,D0,AR.d,tc,fi,ii,e]
 |EN i n=>
  have e:=M9 (S:=S) (st:=st) (l:=i) (n:=n)
  simp[B8,D0,AR.d,e,TV]
 |thr i n ws=>
  have e:=M9 (S:=S) (st:=st) (l:=i) (n:=n)
  simp[B8,D0,AR.d,e,TV]
 |HP p q x=>simp[B8,D0,AR.d,TV]
end
theorem Qp{α:Type}{gs:Gd}{t:Tf}{f:Ev}{C:En}{m:Nat}{e g:α->D}(hg:∀S,gOk gs S):∀{xs:Wp α} {acc:Wp D} {os:En} {S:Sto},os.length=m->acc.length+xs.length<=sizeLine->(∀x∈xs,∀os S,os.length=m->∃us S',us.length=m/\t (e x) (C++os) S=Gc (C++us)/\f (C++us) S=Gc (g x,S')/\Bh [] S S')->∃S',BA gs t Ai f (xs.map e) acc (C++os) S=Gc (acc++xs.map g,S')/\Bh [] S S'
 | [],acc,os,S,ho,hz,h=>⟨S,by rw[vM,Cc (hg S)];simp,.refl⟩
 |x::xs,acc,os,S,ho,hz,h=>by
  obtain⟨us,S1,hu,e1,e2,s1⟩:=h x uO os S ho
  obtain⟨S2,e3,s2⟩:=Qp hg (xs:=xs) (acc:=acc++[g x]) (os:=us) (S:=S1) hu (by simp at hz ⊢; lia) λx' hx=>h x' (uL _ hx)
  refine⟨S2,?_,s1.trans s2⟩
  rw[uV,FO (hg S) (by simp at hz;lia) e1 Fm,e2,Au,e3]
  simp
section
variable{S:Sto}{st:Stt}{t:Tr}{k:Nat}
noncomputable def shB(t:Tr)(st:Stt):AR->Wp Rat->Wp Rat
 | .thr i n ws,ss=>Gy (JX t st.AA i n ws) (AL st.AA i).ow ss
 | .HP p q x,ss=>F3 p q x ss
 |_,ss=>ss
def P5{d:AR}{ss:Wp Rat}(ht:Hu t)(h:FH t k st)(hk:k<=17)(hc:Can t st d)(hs:∀r∈ss,Sz (30+170*k) r)(hl:ss.length=t.p):∃S',Ad [t.d,Aw st.AA,Kw st.AA,d.d,shD ss] S=Gc (shD (shB t st d ss),S')/\Bh [] S S':=by
 have tp:=ht.2.1
 cases d with
 |thr i n ws=>
  have e:=Ww (S:=S) ht h hk hc hs (by lia)
  refine⟨S,?_,.refl⟩
  simp only[AR.d]at e⊢
  simp[Ad,BE,e,shB]
 |HP p q x=>
  obtain⟨hpq,hp,hq,x1,x2,x3⟩:=hc
  have hx:Sz 4 x:=by
   refine⟨?_,by lia⟩
   show x.num.natAbs<16
   lia
  obtain⟨S',e,sm⟩:=Vg (S:=S) (p:=p) (q:=q) hs hx (by lia) (by lia) (by lia) hpq
  refine⟨S',?_,sm⟩
  simp only[AR.d]at e⊢
  simp[Ad,BE,e,shB]
 |Bj p kd n=>exact⟨S,by simp[Ad,BE,AR.d,shB],.refl⟩
 |Ik i j=>exact⟨S,by simp[Ad,BE,AR.d,shB],.refl⟩
 |swap i g kd n=>exact⟨S,by simp[Ad,BE,AR.d,shB],.refl⟩
 |C0 u i g kd n=>exact⟨S,by simp[Ad,BE,AR.d,shB],.refl⟩
 |EN i n=>exact⟨S,by simp[Ad,BE,AR.d,shB],.refl⟩
def W4{d:AR}:(step t st d).hold=shB t st d st.hold:=by cases d<;>rfl
def LN{i:Nat}{n:Int}{ls:Wp Ld}(hi:i<ls.length){β:Type}(f:Wp Rat->β):(less ls i n).map (λx=>f x.ow)=ls.map λx=>f x.ow:=by
 rw[Ru,xH]
 have:(ls.map λx=>f x.ow)[i]?=Gc (f (AL ls i).ow):=by rw[uR,DN hi];rfl
 apply xk
 intro j
 by_cases e:i=j
 .subst e;rw[uX (by simpa using hi),this]
 .rw[uQ e]
@[simp] def qZ{ls:List Ld}:sqD S (Kw ls)=some (ls.map λx=>shD x.ow,[]):=rfl
def Ut{d:AR}(ht:Hu t)(h:FH t k st)(hk:k<=17)(hc:Can t st d):∃S',An [t.d,Aw st.AA,Kw st.AA,d.d] S=Gc (Kw (step t st d).AA,S')/\Bh [] S S':=by
 have hlen:=h.len
 have sz:=h.sz
 have tp:=ht.2.1
 obtain⟨S',e,sm⟩:=Qp (gs:=[]) (t:=tNm 4) (f:=AB Ad [eV 0,eV 1,eV 2,eV 3,eV 4]) (C:=[Gc t.d,Gc (Aw st.AA),Gc (Kw st.AA),Gc d.d]) (m:=1) (e:=λx:Ld=>shD x.ow) (g:=λx=>shD (shB t st d x.ow)) (λ_=>AI) (xs:=st.AA) (acc:=[]) (os:=[none]) (S:=S) rfl (uH (show _<=50 by simp;lia) (AK (by decide))) (by
  intro x hx os S0 ho
  obtain⟨q1,rfl⟩:=MX ho
  obtain⟨S1,e1,s1⟩:=P5 (S:=S0) (d:=d) (ss:=x.ow) ht h hk hc (sz.1 x hx) (h.own x hx)
  refine⟨[Gc (shD x.ow)],S1,rfl,by simp,?_,s1⟩
  simp[e1])
 simp only[vD,ur]at e
 refine⟨S',?_,sm⟩
 have hz:(st.AA.map λx=>shD (shB t st d x.ow)).length+1<=sizeLine:=uH (show _<=100 by simp;lia) (AK (by decide))
 cases d with
 |Bj p kd n=>
  have a1:=PV (S:=S') (P:=t.p) (p:=p) (by lia)
  have ef:Kw (step t st (.Bj p kd n)).AA=.lst ((st.AA.map λx=>shD (shB t st (.Bj p kd n) x.ow))++[shD (Sy t.p p)]):=by simp[Kw,step,shB]
  rw[ef]
  generalize (st.AA.map λx=>shD (shB t st (.Bj p kd n) x.ow))=A at*
  simp only[AR.d,Tr.d]at e⊢
  simp[An,BG,e,a1,hz]
 |Ik i j=>
  have a1:=V4 (S:=S') ht h hk hc
  obtain⟨hij,hi,hj,h1,h2,h3⟩:=hc
  have e0:AL (less st.AA i (AL st.AA i).n) j=AL st.AA j:=by
   unfold AL less
   rw[uY,uQ hij,<-uY]
  have ef:Kw (step t st (.Ik i j)).AA=.lst ((st.AA.map λx=>shD (shB t st (.Ik i j) x.ow))++[shD (B3 (AL st.AA i).n (AL st.AA j).n (AL st.AA i).ow (AL st.AA j).ow)]):=by
   show D.lst ((less (less st.AA i (AL st.AA i).n) j (AL st.AA j).n++[_]).map λx:Ld=>shD x.ow)=_
   rw[ve,LN (by rw[DF];exact hj),LN hi]
   rfl
  rw[ef]
  generalize (st.AA.map λx=>shD (shB t st (.Ik i j) x.ow))=A at*
  simp only[AR.d]at e a1⊢
  simp[An,BG,e,a1,hz]
 |swap i g kd n=>
  have hi:=hc.1
  have a1:=Vn (S:=S') (st:=st) (i:=i) (kd:=kd) (g:=g) (n:=n) hi
  have ef:Kw (step t st (.swap i g kd n)).AA=.lst ((st.AA.map λx=>shD (shB t st (.swap i g kd n) x.ow))++[shD (AL st.AA i).ow]):=by
   show D.lst ((less st.AA i g++[_]).map λx:Ld=>shD x.ow)=_
   rw[ve,LN hi]
   rfl
  rw[ef]
  generalize (st.AA.map λx=>shD (shB t st (.swap i g kd n) x.ow))=A at*
  simp only[AR.d]at e a1⊢
  simp[An,BG,e,a1,hz]
 |C0 u i g kd n=>
  have hi:=hc.1
  have a1:=T6 (S:=S') (st:=st) (i:=i) (kd:=kd) (u:=u) (g:=g) (n:=n) hi
  have ef:Kw (step t st (.C0 u i g kd n)).AA=.lst ((st.AA.map λx=>shD (shB t st (.C0 u i g kd n) x.ow))++[shD (AL st.AA i).ow]):=by
   show D.lst ((less st.AA i g++[_]).map λx:Ld=>shD x.ow)=_
   rw[ve,LN hi]
   rfl
  rw[ef]
  generalize (st.AA.map λx=>shD (shB t st (.C0 u i g kd n) x.ow))=A at*
  simp only[AR.d]at e a1⊢
  simp[An,BG,e,a1,hz]
 |EN i n=>
  have ef:Kw (step t st (.EN i n)).AA=.lst (st.AA.map λx=>shD (shB t st (.EN i n) x.ow)):=by
   show D.lst ((less st.AA i n).map λx:Ld=>shD x.ow)=_
   rw[LN hc.1]
   rfl
  rw[ef]
  generalize (st.AA.map λx=>shD (shB t st (.EN i n) x.ow))=A at*
  simp only[AR.d]at e⊢
  simp[An,BG,e]
 |thr i n ws=>
  have ef:Kw (step t st (.thr i n ws)).AA=.lst (st.AA.map λx=>shD (shB t st (.thr i n ws) x.ow)):=by
   show D.lst (((less st.AA i n).map _).map λx:Ld=>shD x.ow)=_
   rw[uh]
   exact congrArg D.lst (LN hc.1 (λo=>shD (Gy (JX t st.AA i n ws) (AL st.AA i).ow o)))
  rw[ef]
  generalize (st.AA.map λx=>shD (shB t st (.thr i n ws) x.ow))=A at*
  simp only[AR.d]at e⊢
  simp[An,BG,e]
 |HP p q x=>
  have ef:Kw (step t st (.HP p q x)).AA=.lst (st.AA.map λy=>shD (shB t st (.HP p q x) y.ow)):=by
   show D.lst ((st.AA.map _).map λy:Ld=>shD y.ow)=_
   rw[uh]
   rfl
  rw[ef]
  generalize (st.AA.map λy=>shD (shB t st (.HP p q x) y.ow))=A at*
  simp only[AR.d]at e⊢
  simp[An,BG,e]
@[simp] def oX{ls:List Ld}:sqD S (Aw ls)=some (ls.map hD,[]):=rfl
def LG{ls:Wp Ld}{x y:D}(hl:ls.length<=50):Bp [.tup [x,.tup (ls.map Ld.d),y]] S=Gc (Aw ls,S):=by
 have e:=A6 (gs:=[]) (t:=tNm 0) (f:=BM [eOp (o2 wIx) [eV 0,eC (.int 0)],eOp (o2 wIx) [eV 0,eC (.int 1)]]) (C:=[]) (m:=1) (e:=Ld.d) (g:=hD) (S:=S) AI (xs:=ls) (acc:=[]) (os:=[none]) rfl (uH (show _<=50 by simp;lia) (AK (by decide))) (by
  intro x hx os ho
  obtain⟨q1,rfl⟩:=MX ho
  refine⟨[Gc x.d],rfl,by simp,?_⟩
  simp[Ld.d,hD])
 simp only[ur]at e
 simp[Bp,G5,e,Aw]
def U7{ls:Wp Ld}(hl:ls.length<=50):BA [] (tNm 0) Ai (eOp (o2 wIx) [eV 0,eC (.int 2)]) (ls.map Ld.d) [] [none] S=Gc (ls.map λx=>shD x.ow,S):=
 A6 (gs:=[]) (t:=tNm 0) (f:=eOp (o2 wIx) [eV 0,eC (.int 2)]) (C:=[]) (m:=1) (e:=Ld.d) (g:=λx=>shD x.ow) (S:=S) AI (xs:=ls) (acc:=[]) (os:=[none]) rfl (uH (show _<=50 by simp;lia) (AK (by decide))) (by
  intro x hx os ho
  obtain⟨q1,rfl⟩:=MX ho
  refine⟨[Gc x.d],rfl,by simp,?_⟩
  simp[Ld.d])
def MI{ls:Wp Ld}{ds:Wp AR}{n:Nat}(h:Ah t ls ds)(hn:n<=ds.length):∃S',Cy [AM t ls ds,.int n] S=Gc (.tup [Aw (runs t (st0 t ls) (ds.take n)).AA,Kw (runs t (st0 t ls) (ds.take n)).AA,shD (runs t (st0 t ls) (ds.take n)).hold],S')/\Bh [] S S':=by
 have hl0:ls.length<=4:=h.four
 have ct:Nt (ds.map AR.d) none (Gc (n:Int))=(ds.take n).map AR.d:=by rw[Ka (by simpa using hn),zD]
 obtain⟨E',S',ef,i,o,f1,f2,rfl,f3⟩:=DZ (gs:=[]) (t:=tNm 8) (b:=AQ (A9 7 (AB Ad [eV 2,eV 5,eV 6,eV 8,eV 7]))
  (AQ (A9 6 (AB An [eV 2,eV 5,eV 6,eV 8]))
  (A9 5 (AB Af [eV 5,eV 8]))))
  (I:=λrs E S'=>∃(i:Nat) (o:uM D),rs=((ds.take n).drop i).map AR.d/\i<=n/\E=[Gc (AM t ls ds),Gc (.int n),Gc t.d,Gc (.tup (ls.map Ld.d)),Gc (.tup (ds.map AR.d)),Gc (Aw (runs t (st0 t ls) (ds.take i)).AA),Gc (Kw (runs t (st0 t ls) (ds.take i)).AA),Gc (shD (runs t (st0 t ls) (ds.take i)).hold),o]/\Bh [] S S')
  (λ_ _ _ _=>AI) (ds:=(ds.take n).map AR.d) (E:=[Gc (AM t ls ds),Gc (.int n),Gc t.d,Gc (.tup (ls.map Ld.d)),Gc (.tup (ds.map AR.d)),Gc (Aw ls),Gc (Kw ls),Gc (shD t.ho),none]) (S:=S)
  ⟨0,none,by simp,vZ _,by simp[runs,st0],.refl⟩ (by
    rintro dd rs E T ⟨i,o,i1,i2,rfl,i3⟩
    have hlt:i<(ds.take n).length:=by
     rcases yU i (ds.take n).length with w|w
     .exact w
     .rw[vn w]at i1;cases i1
    rw[vK hlt,uV]at i1
    injection i1 with z1 z2
    subst z1 z2
    have hlt':i<ds.length:=by simp at hlt;lia
    have hin:i<n:=by simp at hlt;lia
    have hg:(ds.take n)[i]=ds[i]:=AAQ
    rw[hg]
    have inv:=h.at i
    have il0:(ds.take i).length<=16:=by have:=h.len;simp;lia
    have il:16<=16:=uP _
    have can:=O1 h.good (uN hlt')
    obtain⟨T1,e1,s1⟩:=P5 (S:=T) h.tr inv (by lia) can inv.sz.2 inv.hold
    obtain⟨T2,e2,s2⟩:=Ut (S:=T1) h.tr inv (by lia) can
    have e3:=NP (S:=T2) inv (by lia) can
    have rt:=Nb (t:=t) (st:=st0 t ls) (uN hlt')
    refine⟨_,[Gc (AM t ls ds),Gc (.int n),Gc t.d,Gc (.tup (ls.map Ld.d)),Gc (.tup (ds.map AR.d)),Gc (Aw (runs t (st0 t ls) (ds.take (i+1))).AA),Gc (Kw (runs t (st0 t ls) (ds.take (i+1))).AA),Gc (shD (runs t (st0 t ls) (ds.take (i+1))).hold),Gc ds[i].d],T2,by simp;rfl,?_,i+1,Gc ds[i].d,rfl,hin,rfl,(i3.trans s1).trans s2⟩
    rw[rt]
    rw[<-W4]at e1
    simp[e1,e2,e3])
 have hz:i=n:=by
  have:=congrArg yi f1
  simp at this
  lia
 subst hz
 refine⟨S',?_,f3⟩
 have fh:=LG (S:=S) (ls:=ls) (x:=t.d) (y:=.tup (ds.map AR.d)) (by lia)
 have fo:=U7 (S:=S) (ls:=ls) (by lia)
 have fo':D.lst (ls.map λx=>shD x.ow)=Kw ls:=rfl
 have th:atI [D.int t.p,D.int t.k,D.int t.b,shD t.ho,D.int t.h,D.int t.l] 3=Gc (shD t.ho):=by simp
 simp only[AM]at ef⊢
 have td:wIx (.val t.d) (.val (.int 3))=Gc (.val (shD t.ho)):=by simp[Tr.d]
 have dt:dr S t.d=.val t.d:=rfl
 rw[zD]at ef ct
 simp[Cy,L7,fh,fo,fo',-VL,td,dt,ct,ef]
def Ny{ls:Wp Ld}{ds:Wp AR}(h:Ah t ls ds):EJ [AM t ls ds] S=Gc (.non,S):=by
 have hl0:ls.length<=4:=h.four
 have hd:=h.len
 obtain⟨E',S',ef,i,o1,o2,f1,f2,rfl,rfl⟩:=DZ (gs:=[]) (t:=tTp [tNm 3,tNm 4]) (b:=AQ (xIf (Iw (AB B8 [eV 1,eOp (N8 false true) [eV 2,eV 3],eV 4])) (Ac (eV 3)) Bc)
  (A9 1 (AB Af [eV 1,eV 4])))
  (I:=λrs E S'=>∃(i:Nat) (o1 o2:uM D),rs=(Nr 0 (ds.map AR.d)).drop i/\i<=ds.length/\E=[Gc (AM t ls ds),Gc (Aw (runs t (st0 t ls) (ds.take i)).AA),Gc (.tup (ds.map AR.d)),o1,o2]/\S'=S)
  (λ_ _ _ _=>AI) (ds:=Nr 0 (ds.map AR.d)) (E:=[Gc (AM t ls ds),Gc (Aw ls),Gc (.tup (ds.map AR.d)),none,none]) (S:=S)
  ⟨0,none,none,by simp,vZ _,by simp[runs,st0],rfl⟩ (by
    rintro dd rs E T ⟨i,o1,o2,i1,i2,rfl,rfl⟩
    have el:(Nr 0 (ds.map AR.d)).length=ds.length:=by rw[Mg];simp
    have hlt:i<ds.length:=by
     rcases yU i ds.length with w|w
     .exact w
     .rw[vn (by lia)]at i1;cases i1
    rw[vK (by lia)]at i1
    injection i1 with z1 z2
    have hd1:dd=.tup [.int i,ds[i].d]:=by
     have:=ME (ds:=ds.map AR.d) (k:=0) (i:=i)
     rw[uN (by lia),<-z1,uR,uN hlt]at this
     simpa using this
    subst z2
    subst hd1
    have inv:=h.at i
    have il0:(ds.take i).length<=16:=by simp;lia
    have il:16<=16:=uP _
    have can:=O1 h.good (uN hlt)
    have cd:=mO (S:=T) (st:=runs t (st0 t ls) (ds.take i)) (ds:=ds.take i) (d:=ds[i]) (by lia) Vf
    rw[(Z3 can).2]at cd
    have e3:=NP (S:=T) inv (by lia) can
    have rt:=Nb (t:=t) (st:=st0 t ls) (uN hlt)
    have ct:=Ka (ds:=ds.map AR.d) (n:=i) (by simp;lia)
    rw[zD]at cd
    refine⟨_,[Gc (AM t ls ds),Gc (Aw (runs t (st0 t ls) (ds.take (i+1))).AA),Gc (.tup (ds.map AR.d)),Gc (.int i),Gc ds[i].d],T,by simp;rfl,?_,i+1,Gc (.int i),Gc ds[i].d,rfl,hlt,rfl,rfl⟩
    rw[rt]
    simp[ct,cd,e3])
 have fh:=LG (S:=S') (ls:=ls) (x:=t.d) (y:=.tup (ds.map AR.d)) (by lia)
 simp only[AM]at ef⊢
 simp[EJ,IF,fh,ef]
def Dk{ls:Wp Ld}{ds:Wp AR}(h:Ah t ls ds):Ae [AM t ls ds] S=Gc (.non,S):=by
 have e:=Ny (S:=S) h
 simp[Ae,Gw,e,isN]
def NA{ls:Wp Ld}{ds:Wp AR}{n:Nat}(hn:n<=ds.length):A8 [AM t ls ds,.int n] S=Gc (.non,S):=by
 have h1:(n:Int)<=ds.length:=by lia
 have k1:St.Kd.int.isA "int"=true:=by decide
 have k2:St.Kd.int.isA "bool"=false:=by decide
 simp[k1,k2,A8,FV,AX,Bx,BP,Dz,Bn,Cs,AM,kdW,h1]
def Sl{ls:Wp Ld}{ds:Wp AR}{n:Nat}(h:Ah t ls ds)(hn:n<=ds.length):∃q S',C5 [AM t ls ds,.int n] S=Gc (.ref q,S')/\S'[q]?=Gc (.lst ((runs t (st0 t ls) (ds.take n)).AA.map Ld.d))/\Bh [] S S'/\S.length<=q:=by
 obtain⟨S1,e1,s1⟩:=MI (S:=S) h hn
 have r1:=Dk (S:=S) h
 have r2:=NA (S:=S) (t:=t) (ls:=ls) hn
 have inv:=(h.at n).len
 have hd:=h.len
 have il0:(ds.take n).length<=16:=by simp;lia
 have il:16<=16:=uP _
 generalize runs t (st0 t ls) (ds.take n)=st at*
 have ez:JC (st.AA.map hD) (st.AA.map λx=>shD x.ow)=st.AA.map λx=>.tup [hD x,shD x.ow]:=by
  unfold JC
  rw[yI,uh]
  rfl
 have ec:=A6 (gs:=[]) (t:=tTp [tTp [tNm 1,tNm 2],tNm 0]) (f:=BM [eV 1,eV 2,eV 0]) (C:=[]) (m:=3) (e:=λx:Ld=>D.tup [hD x,shD x.ow]) (g:=Ld.d) (S:=S1) AI (xs:=st.AA) (acc:=[]) (os:=[none,none,none]) rfl (uH (show _<=50 by simp;lia) (AK (by decide))) (by
  intro x hx os ho
  obtain⟨q1,q2,q3,rfl⟩:=pG ho
  refine⟨[Gc (shD x.ow),Gc (.int x.k),Gc (.int x.n)],rfl,by simp,?_⟩
  simp[Ld.d])
 rw[<-ez]at ec
 simp only[ur]at ec
 refine⟨S1.length,S1++[.lst (st.AA.map Ld.d)],?_,uZ,s1.trans .app,s1.len⟩
 simp[C5,Lr,r1,r2,e1,ec]
end
theorem oQ:∀{ds},(∀d∈ds,d.py.depth<=n)->AA6 (D.pys ds)<=n
 | [],_=>by simp[D.pys,AA6]
 |d::ds,h=>by
  have h1:=h d uO
  have h2:=oQ λe he=>h e (uL _ he)
  simp only[D.pys,AA6]
  lia
def bp(h:∀d∈ds,d.py.depth<=n):(D.lst ds).py.depth<=n+1:=by
 have:=oQ h
 simp only[D.py,PyData.depth]
 lia
def ZA(h:∀d∈ds,d.py.depth<=n):(D.tup ds).py.depth<=n+1:=by
 have:=oQ h
 simp only[D.py,PyData.depth]
 lia
def Yc:(D.int i).py.depth<=n+1:=by
 simp only[D.py,PyData.depth]
 lia
def gA:(aD r).py.depth<=2:=ZA (n:=1) (by
 intro d hd
 simp only[uS,vB,vy]at hd
 rcases hd with rfl|rfl<;>exact Yc)
def sJ:(shD rs).py.depth<=3:=ZA (n:=2) (by
 intro d hd
 obtain⟨r,_,rfl⟩:=uo.mp hd
 exact gA)
def tE{x:Ld}:x.d.py.depth<=4:=ZA (n:=3) (by
 intro d hd
 simp only[uS,vB,vy]at hd
 rcases hd with rfl|rfl|rfl
 .exact Yc
 .exact Yc
 .exact sJ)
theorem KO:(aD r).lay=true:=rfl
def hU:(shD rs).lay=true:=EF λ_ _=>KO
def ZU{x:Ld}:x.d.lay=true:=by
 show(true && (true && ((shD x.ow).lay && true)))=true
 rw[hU];rfl
def G6(h:d.lay=true)(g:d.py.depth<=60):Lb d d=true:=by
 unfold Lb
 rw[h]
 simp only[Bool.true_and,wD]
 lia
def EI(h:d.lay=true):deq d d=true:=PySem.SeqAt.eqv_refl _ (Ky h)
def dz{k:Nat}:∃c,DP [.scr ns,.int k] S=Gc (.int c,S):=by
 by_cases h:k<ns.length
 .have h':(k:Int)<ns.length:=by lia
  refine⟨ns[k],?_⟩
  have e:atI (ns.map D.int) (k:Int)=Gc (.int ns[k]):=BU (by rw[uR,uN h];rfl)
  simp[DP,HJ,h,h',e]
 .have h':¬(k:Int)<ns.length:=by lia
  exact⟨0,by simp[DP,HJ,h,h']⟩
def Ok.add(h:Ok G B r)(g:Ok G C q):Ok G (B+C) (r+q):=by
 obtain⟨z,e1,h1⟩:=h
 obtain⟨y,e2,h2⟩:=g
 refine⟨z+y,?_,z9 h1 h2⟩
 push_cast
 rw[<-e1,<-e2]
 grind
def Ok.mono(h:Ok G B r)(g:B<=C):Ok G C r:=by
 obtain⟨z,e,hz⟩:=h
 exact⟨z,e,uH hz g⟩
def Ok.bX{G B N:Nat}{n:Int}(h:Ok G B r)(h0:0<=n)(h1:n<=N):Ok G (B*N) ((n:Rat)*r):=by
 obtain⟨z,e,hz⟩:=h
 refine⟨z*n.toNat,?_,v5 hz (by lia)⟩
 push_cast
 rw[Fz h0,<-e]
 grind
def Ok.int{n:Int}{N:Nat}(h0:0<=n)(h1:n<=N):Ok G (G*N) (n:Rat):=by
 have:=(Ok.one (G:=G) (B:=G) (uP _)).bX (N:=N) h0 h1
 have e:(n:Rat)*1=(n:Rat):=by grind
 rwa [e]at this
theorem ML{F:Fn}(hF:∀{j k} {p q} S,Sz j p->Sz k q->j+k<=7990->F [aD p,aD q] S=Gc (aD (p+q),S)){gs:Gd}{S:Sto}(hg:gOk gs S){X:uM D}{G B K:Nat}(hG:0<G)(gK:G<2^K)(hK:2*K<=7990):∀{rs:Wp Rat} {acc} {m} {o},Ok G (m*B) acc->(∀r∈rs,Ok G B r)->(m+rs.length)*B<2^K->∃o',Jj gs (tNm 2) (A9 1 (AB F [eV 1,eV 2])) (rs.map aD) [X,Gc (aD acc),o] S=Gc (.nx,[X,Gc (aD (acc+rs.sum)),o'],S)
 | [],acc,m,o,ha,hr,hb=>⟨o,by
     rw[vM,Fe hg,zY]
     have:acc+0=acc:=by grind
     rw[this]⟩
 |r::rs,acc,m,o,ha,hr,hb=>by
  have h1:=hr r uO
  have b1:(m+1)*B<=(m+(r::rs).length)*B:=ui _ (by simp)
  have mb:(m+1)*B=m*B+B:=by rw[yt]
  have za:Sz K acc:=ha.sz hG gK (by lia)
  have zr:Sz K r:=h1.sz hG gK (by lia)
  have e:=hF S za zr (by lia)
  have ha2:Ok G ((m+1)*B) (acc+r):=by rw[mb];exact ha.add h1
  obtain⟨o',ih⟩:=ML hF hg hG gK hK (X:=X) (B:=B) (rs:=rs) (acc:=acc+r) (m:=m+1) (o:=Gc (aD r)) ha2 (λq hq=>hr q (uL _ hq)) (by
   have:m+1+rs.length=m+(r::rs).length:=by simp;lia
   rw[this];exact hb)
  refine⟨o',?_⟩
  have ea:acc+(r::rs).sum=acc+r+rs.sum:=by rw[uj];grind
  rw[uV,DO hg,ea,<-ih]
  simp[e]
theorem LH:aD 0=.tup [.int 0,.int 1]:=rfl
section
variable{S:Sto}
def PY{rs:Wp Rat}{G B K:Nat}(hG:0<G)(gK:G<2^K)(hK:2*K<=7990)(hr:∀r∈rs,Ok G B r)(hb:rs.length*B<2^K):CB [.lst (rs.map aD)] S=Gc (aD rs.sum,S):=by
 obtain⟨o',e⟩:=ML (F:=EO) (λS h1 h2 h3=>Wr h1 h2 h3) (gs:=[]) (S:=S) AI (X:=Gc (.lst (rs.map aD))) (B:=B) hG gK hK (rs:=rs) (acc:=0) (m:=0) (o:=none) (by rw[Nat.zero_mul];exact Ok.zero) hr (by simpa using hb)
 have ez:(0:Rat)+rs.sum=rs.sum:=by grind
 rw[ez,LH]at e
 simp[CB,Mh,Ce,e]
end
def WA{rs:Wp Rat}(hG:0<G)(gK:G<2^K)(hK:2*K<=7990)(hr:∀r∈rs,Ok G B r)(hb:rs.length*B<2^K):CZ [.lst (rs.map aD)] S=Gc (aD rs.sum,S):=by
 obtain⟨o',e⟩:=ML (F:=Ak) (λS h1 h2 h3=>H0 h1 h2 h3) (gs:=[]) (S:=S) AI (X:=Gc (.lst (rs.map aD))) (B:=B) hG gK hK (rs:=rs) (acc:=0) (m:=0) (o:=none) (by rw[Nat.zero_mul];exact Ok.zero) hr (by simpa using hb)
 have ez:(0:Rat)+rs.sum=rs.sum:=by grind
 rw[ez,LH]at e
 simp[CZ,Mb,e]
noncomputable def ownAt(x:Ld)(p:Nat):Rat:=x.ow.getD p 0
noncomputable def kindS(ls:Wp Ld)(p kd:Nat):Rat:=((ls.filter λx=>x.k==kd).map λx=>(x.n:Rat)*ownAt x p).sum
noncomputable def AS(k:Nat)(ls:Wp Ld)(p:Nat):Wp Rat:=(W1 k).map (kindS ls p)
def T9{ls:Wp Ld}{x:Ld}{p kd:Nat}:kindS (ls++[x]) p kd=if x.k=kd then kindS ls p kd+(x.n:Rat)*ownAt x p else kindS ls p kd:=by
 unfold kindS
 rw[ABo,ve,xg]
 by_cases h:x.k=kd
 .simp[h];grind
 .simp[h];grind
def OS{ls:Wp Ld}{x:Ld}{p kd:Nat}:kindS (x::ls) p kd=(if x.k=kd then(x.n:Rat)*ownAt x p else 0)+kindS ls p kd:=by
 unfold kindS
 rw[xI]
 by_cases h:x.k=kd
 .simp[h]
 .simp[h];grind
def JW{k:Nat}{ls:Wp Ld}{x:Ld}{p:Nat}:AS k (ls++[x]) p=(AS k ls p).set x.k (kindS ls p x.k+(x.n:Rat)*ownAt x p):=by
 unfold AS
 apply zB
 .simp
 .intro i h1 h2
  rw[List.getElem_set]
  simp only[List.getElem_map,ABk,T9]
  by_cases h:x.k=i
  .subst h;simp
  .simp[h]
structure Bd(ls:Wp Ld)(G B N K:Nat):Prop where
 g0:0<G
 gK:G<2^K
 hK:2*K<=7000
 own:∀l∈ls,∀r∈l.ow,Ok G B r
 pcs:∀l∈ls,0<=l.n/\l.n<=N
 hB:B<2^K
 hN:N<2^K
 hb:200*(B*N)<2^K
 len:ls.length<=30
section
variable{S:Sto}{ls:Wp Ld}{G B N K:Nat}
def Bd.at(h:Bd ls G B N K){x:Ld}(hx:x∈ls)(p:Nat):Ok G B (ownAt x p):=by
 unfold ownAt
 rw[uY]
 cases e:x.ow[p]? with
 |none=>exact Ok.zero
 |some r=>exact h.own x hx r (uy e)
def Bd.mul(h:Bd ls G B N K){x:Ld}(hx:x∈ls)(p:Nat):Ok G (B*N) ((x.n:Rat)*ownAt x p):=(h.at hx p).bX (h.pcs x hx).1 (h.pcs x hx).2
theorem TH{G C:Nat}{p kd:Nat}:∀{ls:Wp Ld},(∀l∈ls,Ok G C ((l.n:Rat)*ownAt l p))->Ok G (ls.length*C) (kindS ls p kd)
 | [],_=>Ok.zero
 |x::ls,h=>by
  rw[OS]
  have ih:=TH (kd:=kd) (ls:=ls) λl hl=>h l (uL _ hl)
  have h1:Ok G C (if x.k=kd then(x.n:Rat)*ownAt x p else 0):=by
   split
   .exact h x uO
   .exact Ok.zero
  have:=h1.add ih
  rw[vY,yt,zU]
  exact this
def Bd.kind(h:Bd ls G B N K){p kd:Nat}:Ok G (30*(B*N)) (kindS ls p kd):=(TH λl hl=>h.mul hl p).mono (ui _ h.len)
def Bd.take(h:Bd ls G B N K)(i:Nat):Bd (ls.take i) G B N K:=⟨h.g0,h.gK,h.hK,λl hl=>h.own l (ABM hl),λl hl=>h.pcs l (ABM hl),h.hB,h.hN,h.hb,by have:=h.len;simp;lia⟩
def Bd.nSz(h:Bd ls G B N K){x:Ld}(hx:x∈ls):Sz K (x.n:Rat):=by
 have o:=Ok.int (G:=1) (h.pcs x hx).1 (h.pcs x hx).2
 refine o.sz (by decide) ?_ (by rw[Nat.one_mul];exact h.hN)
 have:=h.gK;have:=h.g0;lia
def KD{n:Nat}:Jd 0 (n:Int).toNat=(W1 n).map λ(i:Nat)=>D.int i:=by simp[Jd]
def OT{k p:Nat}:(AS k [] p).map aD=uu k (.tup [.int 0,.int 1]):=by
 apply zB
 .simp[AS]
 .intro i h1 h2
  simp[AS,kindS,LH]
end
theorem IK{α:Type}{gs:Gd}{t:Tf}{f:Ev}{C:En}{m:Nat}{e g:α->D}{S0:Sto}(hg:∀S,Bh [] S0 S->gOk gs S):∀{xs:Wp α} {acc:Wp D} {os:En} {S:Sto},os.length=m->Bh [] S0 S->acc.length+xs.length<=sizeLine->(∀x∈xs,∀os S,os.length=m->Bh [] S0 S->∃us S',us.length=m/\t (e x) (C++os) S=Gc (C++us)/\f (C++us) S=Gc (g x,S')/\Bh [] S0 S')->∃S',BA gs t Ai f (xs.map e) acc (C++os) S=Gc (acc++xs.map g,S')/\Bh [] S0 S'
 | [],acc,os,S,ho,hS,hz,h=>⟨S,by rw[vM,Cc (hg S hS)];simp,hS⟩
 |x::xs,acc,os,S,ho,hS,hz,h=>by
  obtain⟨us,S1,hu,e1,e2,s1⟩:=h x uO os S ho hS
  obtain⟨S2,e3,s2⟩:=IK hg (acc:=acc++[g x]) hu s1 (by simp at hz ⊢; lia) λx' hx=>h x' (uL _ hx)
  refine⟨S2,?_,s2⟩
  rw[uV,FO (hg S hS) (by simp at hz;lia) e1 Fm,e2,Au,e3]
  simp
def FH.bd{t:Tr}{k:Nat}{s:Stt}(h:FH t k s)(hk:k<=16):∃G B N K,Bd s.AA G B N K:=by
 obtain⟨G,B,g0,gb,b,h1,h2⟩:=h.gb
 have hB:B<2^2750:=uI b (uz (by decide) (by lia))
 have hB':B<2^3000:=uI hB (uz (by decide) (by decide))
 have hN:(2^147:Nat)<2^148:=vS (by decide) (by decide)
 refine⟨G,B,2^147,3000,g0,ug gb hB',by decide,h1,λl hl=>?_,hB',uI hN (uz (by decide) (by decide)),?_,by have:=h.len;lia⟩
 .have:=h.pcs l hl
  refine⟨this.1,?_⟩
  have e:(2:Int)^(131+k)<=((2^147:Nat):Int):=by
   have:(2:Nat)^(131+k)<=2^147:=uz (by decide) (by lia)
   exact_mod_cast this
  lia
 .have:=Ap (show 200<2^8 by decide) (Ap hB hN)
  exact uI this (uz (by decide) (by decide))
section
variable{S:Sto}{t:Tr}{ls:Wp Ld}{ds:Wp AR}{n:Nat}
def Z2{x:Ld}{p:Nat}(h:p<x.ow.length):atI (x.ow.map aD) (p:Int)=Gc (aD (ownAt x p)):=BU (by
 rw[uR,uN h]
 simp[ownAt,uY,uN h])
def nv{ls:Wp Ld}{p:Nat}{T:Sto}(h:∀l∈ls,p<l.ow.length)(hl:ls.length<=30):BA [] (tNm 1) Ai (eOp (o2 wIx) [eV 1,eV 0]) (ls.map λx=>shD x.ow) [] [Gc (.int p),none] T=Gc (ls.map (λx=>aD (ownAt x p)),T):=
 A6 (gs:=[]) (t:=tNm 1) (f:=eOp (o2 wIx) [eV 1,eV 0]) (C:=[Gc (.int p)]) (m:=1) (e:=λx:Ld=>shD x.ow) (g:=λx=>aD (ownAt x p)) (S:=T) AI (xs:=ls) (acc:=[]) (os:=[none]) rfl (uH (show _<=50 by simp;lia) (AK (by decide))) (by
  intro x hx os ho
  obtain⟨o1,rfl⟩:=MX ho
  have a:=Z2 (h x hx)
  refine⟨[Gc (shD x.ow)],rfl,by simp,?_⟩
  simp[shD,a])
end
def Kv(ls:Wp Ld):Prop:=∀l∈ls,l.ow.sum=1
theorem PF{a b:Rat}:∀{ss os:Wp Rat},ss.length=os.length->(yv (λs o=>s*a+o*b) ss os).sum=ss.sum*a+os.sum*b
 | [],[],_=>by simp;grind
 |s::ss,o::os,h=>by
  rw[AAv,uj,uj,uj,PF (by simpa using h)]
  grind
def Qt{x:Rat}{os ss:Wp Rat}(h:ss.length=os.length)(h1:ss.sum=1)(h2:os.sum=1):(Gy x os ss).sum=1:=by
 unfold Gy
 rw[PF h,h1,h2]
 grind
def T8{n m:Int}{ss os:Wp Rat}(h:ss.length=os.length)(h1:ss.sum=1)(h2:os.sum=1)(h0:0<n+m):(B3 n m ss os).sum=1:=by
 have hc:((n+m:Int):Rat)≠0:=by
  intro z
  have:=wy.mp z
  lia
 have e:(λ(s o:Rat)=>(s*n+o*m) / ((n+m:Int):Rat))=λs o=>s*((n:Rat) / ((n+m:Int):Rat))+o*((m:Rat) / ((n+m:Int):Rat)):=by
  funext s o
  grind
 unfold B3
 rw[e,PF h,h1,h2]
 push_cast at hc⊢
 grind
theorem RC{v:Rat}:∀{l:Wp Rat} {i:Nat},i<l.length->(l.set i v).sum=l.sum-l.getD i 0+v
 |a::l,0,_=>by
  rw[ABm,uj,uj]
  simp
  grind
 |a::l,i+1,h=>by
  rw[List.set_cons_succ,uj,uj,RC (by simpa using h)]
  simp
  grind
def SR{p q:Nat}{x:Rat}{ss:Wp Rat}(hpq:p≠q)(hp:p<ss.length)(hq:q<ss.length):(F3 p q x ss).sum=ss.sum:=by
 unfold F3
 rw[RC (by simpa using hq),RC hp]
 have:(ss.set p (ss.getD p 0-ss.getD p 0*x)).getD q 0=ss.getD q 0:=by
  rw[uY,uQ hpq,<-uY]
 rw[this]
 grind
theorem WK{i:Nat}:∀{n:Nat},(Sy n i).sum=if i<n then 1 else 0
 |0=>by simp[Sy]
 |n+1=>by
  have ih:=WK (i:=i) (n:=n)
  unfold Sy at ih⊢
  rw[zQ,ve,xg,ih]
  by_cases h:n=i
  .subst h;simp;grind
  .have:i<n+1↔i<n:=by lia
   simp[h,this]
   grind
section
variable{t:Tr}{k:Nat}{st:Stt}{d:AR}
def Gq{ls:Wp Ld}(h:Kv ls){l:Nat}{n:Int}(hl:l<ls.length):Kv (less ls l n):=λx hx=>by
 rcases KN hx hl with hx|rfl
 .exact h x hx
 .exact(h (AL ls l) (AU hl):)
def Kl{ls:Wp Ld}(h:Kv ls){y:Ld}(hy:y.ow.sum=1):Kv (ls++[y]):=λx hx=>by
 rcases vH.mp hx with hx|hx
 .exact h x hx
 .rw[uv.mp hx];exact hy
def P2(h:FH t k st)(hc:Can t st d)(ho:Kv st.AA):Kv (step t st d).AA:=by
 cases d with
 |Bj p kd n=>
  refine Kl ho ?_
  rw[WK,vF hc.1]
 |Ik i j=>
  obtain⟨hij,hi,hj,h1,h2,h3⟩:=hc
  refine Kl (Gq (Gq ho hi) (by rw[DF];exact hj)) ?_
  exact T8 (by rw[h.own _ (AU hi),h.own _ (AU hj)]) (ho _ (AU hi)) (ho _ (AU hj)) (by lia)
 |swap i g kd n=>exact Kl (Gq ho hc.1) (ho (AL st.AA i) (AU hc.1):)
 |C0 u i g kd n=>exact Kl (Gq ho hc.1) (ho (AL st.AA i) (AU hc.1):)
 |EN i n=>exact Gq ho hc.1
 |thr i n ws=>
  intro x hx
  obtain⟨y,hy,rfl⟩:=uo.mp hx
  have hl:=hc.1
  have ly:y.ow.length=t.p:=by
   rcases KN hy hl with hy|rfl
   .exact h.own y hy
   .exact(h.own (AL st.AA i) (AU hl):)
  exact Qt (by rw[ly,h.own _ (AU hl)]) (Gq ho hl y hy) (ho _ (AU hl))
 |HP p q x=>
  intro y hy
  obtain⟨z,hz,rfl⟩:=uo.mp hy
  obtain⟨h1,h2,h3,_⟩:=hc
  have:=h.own z hz
  show(F3 p q x z.ow).sum=1
  rw[SR h1 (by lia) (by lia)]
  exact ho z hz
def XG(h:FH t k st)(hc:Can t st d)(ho:Kv st.AA)(hh:st.hold.sum=1):(step t st d).hold.sum=1:=by
 cases d with
 |thr i n ws=>exact Qt (by rw[h.hold,h.own _ (AU hc.1)]) hh (ho _ (AU hc.1))
 |HP p q x=>
  obtain⟨h1,h2,h3,_⟩:=hc
  show(F3 p q x st.hold).sum=1
  rw[SR h1 (by rw[h.hold];exact h2) (by rw[h.hold];exact h3)]
  exact hh
 |_=>exact hh
theorem QK(ht:Hu t):∀{ds:Wp AR} {st:Stt} {k:Nat},FH t k st->JF t st ds->k+ds.length<=17->Kv st.AA->st.hold.sum=1->(runs t st ds).hold.sum=1
 | [],st,k,h,_,_,o,e=>e
 |d::ds,st,k,h,g,hl,o,e=>QK ht (ds:=ds) (Ot ht h (by simp at hl;lia) g.1) g.2 (by simp at hl;lia) (P2 h g.1 o) (XG h g.1 o e)
def Ah.Xk{ls:Wp Ld}{ds:Wp AR}(h:Ah t ls ds)(ho:Kv ls)(hh:t.ho.sum=1)(n:Nat):(runs t (st0 t ls) (ds.take n)).hold.sum=1:=by
 obtain⟨k,hk,z⟩:=h.lev
 exact QK h.tr z (JA h.good) (by simp;lia) ho hh
theorem P1(ht:Hu t):∀{ds:Wp AR} {st:Stt} {k:Nat},FH t k st->JF t st ds->k+ds.length<=17->Kv st.AA->Kv (runs t st ds).AA
 | [],st,k,h,_,_,o=>o
 |d::ds,st,k,h,g,hl,o=>P1 ht (ds:=ds) (Ot ht h (by simp at hl;lia) g.1) g.2 (by simp at hl;lia) (P2 h g.1 o)
def Ah.ones{ls:Wp Ld}{ds:Wp AR}(h:Ah t ls ds)(ho:Kv ls)(n:Nat):Kv (runs t (st0 t ls) (ds.take n)).AA:=by
 obtain⟨k,hk,z⟩:=h.lev
 exact P1 h.tr z (JA h.good) (by simp;lia) ho
end
noncomputable def G3(ls:Wp Ld)(kd:Nat):Int:=((ls.filter λx=>x.k==kd).map λx=>x.n).sum
section
variable{S:Sto}{t:Tr}{ls L:Wp Ld}{ds:Wp AR}{n p i q:Nat}{x:Rat}
def Iz(h:Ah t ls ds)(hn:n<=ds.length):C9 [AM t ls ds,.int n] S=Gc (Aw (runs t (st0 t ls) (ds.take n)).AA,S):=by
 have hl0:ls.length<=4:=h.four
 have hd:=h.len
 have ct:=Ka (ds:=ds.map AR.d) (n:=n) (by simp;lia)
 obtain⟨E',S',ef,i,o,f1,f2,rfl,rfl⟩:=DZ (gs:=[]) (t:=tNm 3) (b:=A9 2 (AB Af [eV 2,eV 3]))
  (I:=λrs E S'=>∃(i:Nat) (o:uM D),rs=((ds.take n).drop i).map AR.d/\i<=n/\E=[Gc (AM t ls ds),Gc (.int n),Gc (Aw (runs t (st0 t ls) (ds.take i)).AA),o]/\S'=S)
  (λ_ _ _ _=>AI) (ds:=(ds.take n).map AR.d) (E:=[Gc (AM t ls ds),Gc (.int n),Gc (Aw ls),none]) (S:=S)
  ⟨0,none,by simp,vZ _,by simp[runs,st0],rfl⟩ (by
    rintro dd rs E T ⟨i,o,i1,i2,rfl,rfl⟩
    have hlt:i<(ds.take n).length:=by
     rcases yU i (ds.take n).length with w|w
     .exact w
     .rw[vn w]at i1;cases i1
    rw[vK hlt,uV]at i1
    injection i1 with z1 z2
    subst z1 z2
    have hlt':i<ds.length:=by simp at hlt;lia
    have hin:i<n:=by simp at hlt;lia
    have hg:(ds.take n)[i]=ds[i]:=AAQ
    rw[hg]
    have can:=O1 h.good (uN hlt')
    have il0:(ds.take i).length<=16:=by simp;lia
    have il:16<=16:=uP _
    have e3:=NP (S:=T) (h.at i) (by lia) can
    have rt:=Nb (t:=t) (st:=st0 t ls) (uN hlt')
    refine⟨_,[Gc (AM t ls ds),Gc (.int n),Gc (Aw (runs t (st0 t ls) (ds.take (i+1))).AA),Gc ds[i].d],T,by simp;rfl,?_,i+1,Gc ds[i].d,rfl,hin,rfl,rfl⟩
    rw[rt]
    simp[e3])
 have hz:i=n:=by
  have:=congrArg yi f1
  simp at this
  lia
 subst hz
 have fh:=LG (S:=S') (ls:=ls) (x:=t.d) (y:=.tup (ds.map AR.d)) (by lia)
 simp only[AM]at ef⊢
 rw[zD]at ef
 simp[C9,Mj,fh,ct,ef]
def jI{L:Wp Ld}{kd:Nat}{T:Sto}(hl:L.length<=30):BA [] (tTp [tNm 1,tNm 2]) (eOp (o2 wEq) [eV 1,eV 0]) (eV 2) (L.map hD) [] [Gc (.int kd),none,none] T=Gc ((((L.filter λx=>x.k==kd).map λx=>x.n).map D.int),T):=by
 have e:=C3 (gs:=[]) (t:=tTp [tNm 1,tNm 2]) (c:=eOp (o2 wEq) [eV 1,eV 0]) (f:=eV 2) (C:=[Gc (.int kd)]) (m:=2) (e:=hD) (g:=λx=>D.int x.n) (b:=λx=>x.k==kd) (S:=T) AI (xs:=L) (acc:=[]) (os:=[none,none]) rfl (uH (show _<=50 by simp;lia) (AK (by decide))) (by
  intro x hx os ho
  obtain⟨o1,o2,rfl⟩:=eA ho
  refine⟨[Gc (.int x.k),Gc (.int x.n)],rfl,by simp,?_,by simp⟩
  have:((x.k:Int)==(kd:Int))=(x.k==kd):=by
   rw[xh,xN,xN]
   lia
  simp[this])
 rw[uh]
 exact e
def Xu(h:Ah t ls ds)(hn:n<=ds.length):E9 [AM t ls ds,.int n] S=Gc (.tup ((W1 t.k).map λkd=>.int (G3 (runs t (st0 t ls) (ds.take n)).AA kd)),S):=by
 have r1:=Dk (S:=S) h
 have r2:=NA (S:=S) (t:=t) (ls:=ls) hn
 have hb:=Iz (S:=S) h hn
 have il0:(ds.take n).length<=16:=by have:=h.len;simp;lia
 have il:16<=16:=uP _
 have inv:=(h.at n).len
 obtain⟨t1,t2,t3,t4,t5,t6⟩:=h.tr
 generalize (runs t (st0 t ls) (ds.take n)).AA=L at*
 have e:=A6 (gs:=[]) (t:=tNm 1) (f:=eOp (o1 Od) [Az [1] 2 (DY (eV 0)) (tTp [tNm 1,tNm 2]) (eOp (o2 wEq) [eV 1,eV 0]) (eV 2)]) (C:=[Gc (Aw L)]) (m:=1) (e:=λp:Nat=>D.int p) (g:=λkd=>D.int (G3 L kd)) (S:=S) AI (xs:=W1 t.k) (acc:=[]) (os:=[none]) rfl (uH (show _<=50 by simp;lia) (AK (by decide))) (by
  intro kd hk os ho
  obtain⟨o1,rfl⟩:=MX ho
  have sc:=jI (L:=L) (kd:=kd) (T:=S) (by lia)
  refine⟨[Gc (.int kd)],rfl,by simp,?_⟩
  have dh:sqD S (Aw L)=Gc (L.map hD,[]):=rfl
  have is:=CF ((L.filter λx=>x.k==kd).map λx=>x.n)
  generalize (((L.filter λx=>x.k==kd).map λx=>x.n).map D.int)=Z at*
  simp[dh,MB,sc,is,G3])
 rw[<-KD]at e
 have rk:Ge (t.k:Int)=true:=Bw (by lia) (by lia)
 have td:wIx (.val t.d) (.val (.int 1))=Gc (.val (.int t.k)):=by simp[Tr.d]
 have dt:dr S t.d=.val t.d:=rfl
 simp only[ur,vD,wB]at e
 simp only[AM]at r1 r2 hb⊢
 have tb:wIx (.val (.tup [t.d,.tup (ls.map Ld.d),.tup (ds.map AR.d)])) (.val (.int 0))=Gc (.val t.d):=by simp
 simp[E9,L3,r1,r2,hb,-VL,tb,td,dt,rk,MB,e]
end
theorem WR{α:Type}{t:Tf}{b:Ex}{C:En}{m q:Nat}{e h:α->D}:∀{xs:Wp α} {acc:Wp D} {os:En} {S:Sto},os.length=m->S[q]?=Gc (.lst acc)->acc.length+xs.length<=1000->(∀x∈xs,∀os S acc,os.length=m->S[q]?=Gc (.lst acc)->acc.length<sizeLine->∃us us' S',t (e x) (C++os) S=Gc (C++us)/\b (C++us) S=Gc (.nx,C++us',S'.set q (.lst (acc++[h x])))/\us'.length=m/\Bh [] S S')->∃os' S',os'.length=m/\Jj [] t b (xs.map e) (C++os) S=Gc (.nx,C++os',S')/\S'[q]?=Gc (.lst (acc++xs.map h))/\Bh [q] S S'
 | [],acc,os,S,ho,hq,hz,H=>⟨os,S,ho,by rw[vM,Fe AI],by simpa using hq,.refl⟩
 |x::xs,acc,os,S,ho,hq,hz,H=>by
  obtain⟨us,us',S1,e1,e2,hu,sm⟩:=H x uO os S acc ho hq (uI (show acc.length<1001 by simp at hz;lia) (by decide))
  have q1:=sm.get hq (by simp)
  obtain⟨os',S2,ho',e3,q2,s2⟩:=WR (t:=t) (b:=b) (C:=C) (e:=e) (h:=h) (xs:=xs) (acc:=acc++[h x]) (os:=us') (S:=S1.set q (.lst (acc++[h x]))) hu (uX (AV q1)) (by simp at hz ⊢; lia) λx' hx=>H x' (uL _ hx)
  refine⟨os',S2,ho',?_,by simpa using q2,((sm.mono λ_ z=>(nomatch z)).trans (.set (by simp))).trans s2⟩
  rw[uV,DO AI,e1,Au,e2,Au,Rm,e3]
noncomputable def Lz(t:Tr)(st:Stt)(x:Ld):Wp Rat:=Pu (10-t.h) t.h x.ow st.hold
noncomputable def CK(t:Tr)(st:Stt)(x:Ld):Wp Rat:=(Lz t st x).map λr=>(x.n:Rat)*r
def HOk(t:Tr):Prop:=0<=t.h/\t.h<=9/\0<=t.l/\t.l<=9
def SA{t:Tr}(hh:HOk t){st:Stt}{x:Ld}{G B:Nat}(h1:∀r∈x.ow,Ok G B r)(h2:∀r∈st.hold,Ok G B r):∀r∈Lz t st x,Ok (G*10) (B*10) r:=by
 intro r hr
 unfold Lz Pu at hr
 rw[xU]at hr
 obtain⟨i,hi'⟩:=hr
 rw[x8]at hi'
 obtain⟨s,o,hs,ho,rfl⟩:=hi'
 obtain⟨a1,a2,_,_⟩:=hh
 have:=Ok.mix (a:=(10-t.h).toNat) (b:=t.h.toNat) (t:=10) (h1 s (uy hs)) (h2 o (uy ho)) (by lia) (by decide)
 rw[Fz (by lia),Fz (by lia)]at this
 have e:(((10-t.h:Int):Rat)+(t.h:Rat))=((10:Nat):Rat):=by push_cast;grind
 rw[e]
 exact this
def TU{t:Tr}(hh:HOk t){st:Stt}{x:Ld}{G B N:Nat}(h1:∀r∈x.ow,Ok G B r)(h2:∀r∈st.hold,Ok G B r)(n0:0<=x.n)(n1:x.n<=N):∀r∈CK t st x,Ok (G*10) (B*10*N) r:=by
 intro r hr
 obtain⟨y,hy,rfl⟩:=uo.mp hr
 exact(SA hh h1 h2 y hy).bX n0 n1
section
variable{S:Sto}{t:Tr}{ls:Wp Ld}{ds:Wp AR}
def Ah.fin(h:Ah t ls ds):FH t 16 (runs t (st0 t ls) ds):=by
 have:=h.at ds.length
 rwa [vI]at this
def Fp(h:Ah t ls ds)(hh:HOk t):∃q S',Bv [AM t ls ds] S=Gc (.ref q,S')/\S'[q]?=Gc (.lst ((runs t (st0 t ls) ds).AA.map λx=>shD (CK t (runs t (st0 t ls) ds) x)))/\Bh [] S S'/\S.length<=q:=by
 obtain⟨S1,e1,s1⟩:=MI (S:=S) h (n:=ds.length) (uP _)
 rw[vI]at e1
 have inv:=h.fin
 have hlen:=inv.len
 have sz:=inv.sz
 have tp:=h.tr.2.1
 obtain⟨G,B,g0,gb,bb,k1,k2⟩:=inv.gb
 generalize runs t (st0 t ls) ds=st at*
 have hq:(S1++[Cl.lst []])[S1.length]?=Gc (.lst []):=uZ
 have ez:JC (st.AA.map hD) (st.AA.map λx=>shD x.ow)=st.AA.map λx=>.tup [hD x,shD x.ow]:=by
  unfold JC
  rw[yI,uh]
  rfl
 have hh':=hh
 obtain⟨a1,a2,_,_⟩:=hh
 obtain⟨os',S2,ho',e2,q2,s2⟩:=WR (t:=tTp [tTp [tNm 7,tNm 8],tNm 6]) (b:=AQ (A9 9 (AB BZ [eV 6,eOp (o2 Pw) [eC (.int 10),eV 1],eV 4,eV 1]))
  (Bi (Nm Nq (eV 5) [eOp (o1 Br) [Az [8] 1 (DY (eV 9)) (tNm 1) Ai (AB BJ [BM [eV 0,eC (.int 1)],eV 1])]]))) (C:=[Gc (AM t ls ds),Gc (.int t.h),Gc (Aw st.AA),Gc (Kw st.AA),Gc (shD st.hold),Gc (.ref S1.length)]) (m:=4) (q:=S1.length) (e:=λx:Ld=>D.tup [hD x,shD x.ow]) (h:=λx=>shD (CK t st x)) (xs:=st.AA) (acc:=[]) (os:=[none,none,none,none]) (S:=S1++[Cl.lst []]) rfl hq (by simp;lia) (by
    intro x hx os S0 acc ho hq0 hz
    obtain⟨o1,o2,o3,o4,rfl⟩:∃o1 o2 o3 o4,os=[o1,o2,o3,o4]:=by
     match os,ho with
     | [a,b,c,d],_=>exact⟨a,b,c,d,rfl⟩
    have px:=inv.pcs x hx
    have hw:(10-t.h).natAbs<2^4:=by show _<16;lia
    have hm:t.h.natAbs<2^4:=by show _<16;lia
    have ms:=ET (S:=S0) (w:=10-t.h) (m:=t.h) (j:=30+170*16) (n:=4) (sz.1 x hx) sz.2 hw hm (by lia) (by decide) (by rw[inv.own x hx];lia)
    have zp:∀r∈Pu (10-t.h) t.h x.ow st.hold,Sz (30+170*16+4) r:=λr hr=>(SA hh' (k1 x hx) k2 r hr).sz (xy g0 (by decide)) (by
     have:=Ap (ug gb bb) (show 10<2^4 by decide)
     exact this) (Ap bb (show 10<2^4 by decide))
    have cz:=A6 (gs:=[]) (t:=tNm 1) (f:=AB BJ [BM [eV 0,eC (.int 1)],eV 1]) (C:=[Gc (.int x.n)]) (m:=1) (e:=aD) (g:=λr=>aD ((x.n:Rat)*r)) (S:=S0) AI (xs:=Pu (10-t.h) t.h x.ow st.hold) (acc:=[]) (os:=[none]) rfl (uH (show _<=50 by rw[yf,Nat.zero_add,Pu,Dt (inv.own x hx) inv.hold];lia) (AK (by decide))) (by
     intro r hr os ho
     obtain⟨o,rfl⟩:∃o,os=[o]:=by
      match os,ho with
      | [a],_=>exact⟨a,rfl⟩
     have l:=NU (S:=S0) (IH (EC px.1 px.2) (by decide)) (zp r hr) (by decide)
     rw[G9]at l
     refine⟨[Gc (aD r)],rfl,by simp,?_⟩
     simp[l])
    have ed:(Pu (10-t.h) t.h x.ow st.hold).map (λr=>aD ((x.n:Rat)*r))=(CK t st x).map aD:=by
     unfold CK Lz
     rw[uh];rfl
    rw[ed]at cz
    simp only[vD,ur]at cz
    refine⟨[Gc (shD x.ow),Gc (.int x.k),Gc (.int x.n),o4],[Gc (shD x.ow),Gc (.int x.k),Gc (.int x.n),Gc (shD (Pu (10-t.h) t.h x.ow st.hold))],S0,by simp,?_,rfl,.refl⟩
    simp[ms,AN hq0,cz,LX,hz])
 refine⟨S1.length,S2,?_,by simpa using q2,?_,s1.len⟩
 .rw[<-ez]at e2
  simp only[vD,ur]at e2
  simp only[AM]at e1 e2⊢
  have tdd:wIx (.val t.d) (.val (.int 4))=Gc (.val (.int t.h)):=by simp[Tr.d]
  have dt:∀T:Sto,dr T t.d=.val t.d:=λ_=>rfl
  have c4:atI [D.int (t.p:Int),D.int (t.k:Int),D.int (t.b:Int),shD t.ho,D.int t.h,D.int t.l] 4=Gc (.int t.h):=by simp
  have ast:asS (.val t.d)=Gc [D.int (t.p:Int),D.int (t.k:Int),D.int (t.b:Int),shD t.ho,D.int t.h,D.int t.l]:=rfl
  simp[Bv,L6,dt,ast,e1,e2]
 .refine⟨uH s1.len (uH (by simp) s2.len),λn hn _=>?_⟩
  have l1:=s1.len
  rw[s2.keep n (by simp;lia) (by simp;lia),uK (by lia)]
  exact s1.keep n hn (by simp)
end
section
variable{S:Sto}{t:Tr}{ls:Wp Ld}{ds:Wp AR}
def rX{n:Int}(h0:0<=n)(h1:n<=10):Sz 4 ((n:Rat) / ((10:Int):Rat)):=Kh (by decide) (show n.natAbs<16 by lia) (by decide)
noncomputable def eS:AR->va
 | .Bj .. =>true
 | .Ik .. =>true
 | .swap .. =>true
 | .C0 .. =>true
 |_=>false
theorem Sv:∀{ds:Wp AR} {st:Stt},(runs t st ds).AA.length=st.AA.length+(ds.filter eS).length
 | [],st=>by simp[runs]
 |d::ds,st=>by
  show(runs t (step t st d) ds).AA.length=_
  rw[Sv]
  cases d<;>simp[step,eS,DF,xI]<;>lia
def mkC(hl:ds.length<=50):BA [] (tNm 0) (eOp (o2 (wIn false)) [eOp (o2 wIx) [eV 0,eC (.int 0)],eC Cn]) (eV 0) (ds.map AR.d) [] [none] S=Gc ((ds.filter eS).map AR.d,S):=
 C3 (gs:=[]) (t:=tNm 0) (f:=eV 0) (C:=[]) (m:=1) (e:=AR.d) (g:=AR.d) (b:=eS) (S:=S) AI (xs:=ds) (acc:=[]) (os:=[none]) rfl (uH (show _<=50 by simp;lia) (AK (by decide))) (by
  intro d _ os ho
  obtain⟨o1,rfl⟩:∃o1,os=[o1]:=by
   match os,ho with
   | [a],_=>exact⟨a,rfl⟩
  refine⟨[Gc d.d],rfl,by simp,?_,by simp⟩
  cases d<;>simp[AR.d,eS])
def cW(h:Ah t ls ds):Er [AM t ls ds,.int ds.length] S=Gc (.int (runs t (st0 t ls) ds).AA.length,S):=by
 have hd:=h.len
 have ct:Nt (ds.map AR.d) none (Gc (ds.length:Int))=ds.map AR.d:=by rw[Ka (by simp),yA (by simp)]
 have mc:=mkC (S:=S) (ds:=ds) (by lia)
 have e:((runs t (st0 t ls) ds).AA.length:Int)=(ls.length:Int)+((ds.filter eS).length:Int):=by rw[Sv];simp[st0]
 rw[e]
 simp[Er,JQ,AM,ct,mc]
def Il{p:Nat}(hp:p<t.p):Ax [AM t ls ds,.int p] S=Gc (.non,S):=by
 have k1:St.Kd.int.isA "int"=true:=by decide
 have k2:St.Kd.int.isA "bool"=false:=by decide
 have h1:(p:Int)<=(t.p:Int)-1:=by lia
 simp[Ax,E8,BI,Ew,k1,k2,AX,Bx,BP,Dz,Bn,Cs,AM,kdW,Tr.d,h1]
def dE{i:Nat}(h:Ah t ls ds)(hi:i<(runs t (st0 t ls) ds).AA.length):Cm [AM t ls ds,.int i] S=Gc (.non,S):=by
 have k1:St.Kd.int.isA "int"=true:=by decide
 have k2:St.Kd.int.isA "bool"=false:=by decide
 have m:=cW (S:=S) h
 have h1:(i:Int)<=((runs t (st0 t ls) ds).AA.length:Int)-1:=by lia
 generalize ((runs t (st0 t ls) ds).AA.length:Int)=L at*
 simp only[AM]at m⊢
 simp[Cm,GL,m,k1,k2,AX,Bx,BP,Dz,Bn,Cs,kdW,h1]
def Qw{p i:Nat}(h:Ah t ls ds)(hh:HOk t)(hp:p<t.p)(hi:i<(runs t (st0 t ls) ds).AA.length):∃S',Bs [AM t ls ds,.int p,.int i] S=Gc (aD ((CK t (runs t (st0 t ls) ds) (AL (runs t (st0 t ls) ds).AA i)).getD p 0),S')/\Bh [] S S':=by
 obtain⟨q,S1,e1,c1,s1,_⟩:=Fp (S:=S) h hh
 have r1:=Dk (S:=S) h
 have r2:=Il (S:=S) (ls:=ls) (ds:=ds) hp
 have r3:=dE (S:=S) h hi
 have inv:=h.fin
 generalize runs t (st0 t ls) ds=st at*
 have a1:atI (st.AA.map λx=>shD (CK t st x)) (i:Int)=Gc (shD (CK t st (AL st.AA i))):=BU (by rw[uR,DN hi];rfl)
 have hl:(CK t st (AL st.AA i)).length=t.p:=by
  unfold CK Lz
  rw[ux,Pu,Dt (inv.own _ (AU hi)) inv.hold]
 have a2:=Na (ss:=CK t st (AL st.AA i)) (n:=p) (by rw[hl];exact hp)
 refine⟨S1,?_,s1⟩
 generalize aD ((CK t st (AL st.AA i)).getD p 0)=R at*
 simp[Bs,Oe,r1,r2,r3,e1,Aq c1,a1,a2]
end
section
variable{S:Sto}{p:Nat}
def VN(h:CL p S):∃t S',Hc [.ref p] S=Gc (Tr.d t,S')/\Pn p S S'/\Hu t/\(t.ho.length=t.p/\t.ho.sum=1)/\HOk t/\∃G:Nat,0<G/\G<=32/\∀r∈t.ho,Ok G G r:=by
 obtain⟨r1,S1,e1,a1,b1,p1⟩:=Ar h (n:=4) (by decide) (by decide)
 obtain⟨r2,S2,e2,a2,b2,p2⟩:=Ar p1.pen (n:=5) (by decide) (by decide)
 obtain⟨r3,S3,e3,a3,b3,p3⟩:=Ar p2.pen (n:=3) (by decide) (by decide)
 obtain⟨r4,S4,e4,a4,b4,p4⟩:=Ar p3.pen (n:=20) (by decide) (by decide)
 obtain⟨r5,S5,e5,a5,b5,p5⟩:=Ar p4.pen (n:=2) (by decide) (by decide)
 obtain⟨m1,rfl⟩:=Gx a1
 obtain⟨m2,rfl⟩:=Gx a2
 obtain⟨b,eb,hb1,hb2⟩:∃b:Nat,atI [D.int (1+r3),.int (1+r4)] r5=Gc (.int b)/\1<=b/\b<=20:=by
  obtain⟨x,ex,hx⟩:=pick (xs:=[D.int (1+r3),.int (1+r4)]) (r:=r5) a5 (by simpa using b5)
  obtain⟨m3,rfl⟩:=Gx a3
  obtain⟨m4,rfl⟩:=Gx a4
  simp only[uS,vB,vy]at hx
  rcases hx with rfl|rfl
  .exact⟨1+m3,by rw[ex];simp,by lia,by lia⟩
  .exact⟨1+m4,by rw[ex];simp,by lia,by lia⟩
 obtain⟨rs,S6,e6,p6,l6,G,g0,g1,g2⟩:=Sx p5.pen (n:=1+m1) (by lia) (by lia)
 obtain⟨r7,S7,e7,a7,b7,p7⟩:=Ar p6.pen (n:=10) (by decide) (by decide)
 obtain⟨r8,S8,e8,a8,b8,p8⟩:=Ar p7.pen (n:=10) (by decide) (by decide)
 rw[show((1+m1:Nat):Int)=1+(m1:Int) by lia]at e6
 refine⟨⟨1+m1,1+m2,b,rs,r7,r8⟩,S8,?_,((((((p1.trans p2).trans p3).trans p4).trans p5).trans p6).trans p7).trans p8,⟨by simp,by simp;lia,by simp,by simp;lia,hb1,hb2⟩,l6,⟨a7,by show r7<=9;lia,a8,by show r8<=9;lia⟩,G,g0,g1,g2⟩
 simp[Hc,Mv,e1,e2,e3,e4,e5,eb,e6,e7,e8,Tr.d]
def Vo{M:Int}(h:CL p S){t:Tr}(ht:Hu t){q:Nat}(hq:S[q]?=Gc (.lst []))(hqp:q≠p){n:Nat}(hn:n<=3){o5 o6 o7:uM D}:∃(ls:Wp Ld) (S':Sto) (o:uM D),Jj [] (tNm 4) (Bi (Nm Nq (eV 3) [BM [AB AE [eV 0,eOp (o2 wIx) [eV 2,eC (.int 1)]],eOp (o2 Cr) [eC (.int 1),AB AE [eV 0,eC (.int 30)]],AB Cq [eV 0,eOp (o2 wIx) [eV 2,eC (.int 0)]]]])) (Jd 0 n) [Gc (.ref p),Gc (.int M),Gc t.d,Gc (.ref q),none,o5,o6,o7] S=Gc (.nx,[Gc (.ref p),Gc (.int M),Gc t.d,Gc (.ref q),o,o5,o6,o7],S')/\S'[q]?=Gc (.lst (ls.map Ld.d))/\CL p S'/\Gf t ls/\ls.length<=4:=by
 obtain⟨t1,t2,t3,t4,t5,t6⟩:=ht
 obtain⟨E',S',ef,ls,o,rfl,f1,f2,f4,f5⟩:=DZ (gs:=[]) (t:=tNm 4) (b:=Bi (Nm Nq (eV 3) [BM [AB AE [eV 0,eOp (o2 wIx) [eV 2,eC (.int 1)]],eOp (o2 Cr) [eC (.int 1),AB AE [eV 0,eC (.int 30)]],AB Cq [eV 0,eOp (o2 wIx) [eV 2,eC (.int 0)]]]]))
  (I:=λds E S'=>∃(ls:Wp Ld) (o:uM D),E=[Gc (.ref p),Gc (.int M),Gc t.d,Gc (.ref q),o,o5,o6,o7]/\S'[q]?=Gc (.lst (ls.map Ld.d))/\CL p S'/\Gf t ls/\ls.length+ds.length<=4)
  (λ_ _ _ _=>AI) (ds:=Jd 0 n) (E:=[Gc (.ref p),Gc (.int M),Gc t.d,Gc (.ref q),none,o5,o6,o7]) (S:=S)
  ⟨[],none,rfl,hq,h,Gf.nil,by simp[Fc];lia⟩ (by
    rintro d ds E S0 ⟨ls,o,rfl,i1,i2,i4,i5⟩
    obtain⟨x1,T1,g1,c1,d1,k1⟩:=Ar i2 (n:=t.k) (by lia) (by lia)
    obtain⟨x2,T2,g2,c2,d2,k2⟩:=Ar k1.pen (n:=30) (by decide) (by decide)
    obtain⟨rs,T3,g3,k3,l3,G,G0,G1,G2⟩:=Sx k2.pen (n:=t.p) t1 t2
    obtain⟨m1,rfl⟩:=Gx c1
    have kk:=(k1.trans k2).trans k3
    have j1:T3[q]?=Gc (.lst (ls.map Ld.d)):=kk.get i1 hqp
    have hz:ls.length<sizeLine:=uI (show ls.length<5 by lia) (AK (by decide))
    refine⟨[Gc (.ref p),Gc (.int M),Gc t.d,Gc (.ref q),Gc d,o5,o6,o7],[Gc (.ref p),Gc (.int M),Gc t.d,Gc (.ref q),Gc d,o5,o6,o7],T3.set q (.lst ((ls++[Ld.mk m1 (1+x2) rs]).map Ld.d)),by simp,?_,ls++[Ld.mk m1 (1+x2) rs],Gc d,rfl,uX (AV j1),?_,i4.snoc (l:=Ld.mk m1 (1+x2) rs) ⟨show m1<t.k by lia,by show 1<=1+x2;lia,v7 (show 1+x2<=30 by lia) (by decide),l3⟩ G0 G1 G2,by simp at i5 ⊢; lia⟩
    .have e3:atI [D.int t.p,.int t.k,.int t.b,shD t.ho,.int t.h,.int t.l] 1=Gc (.int t.k):=by simp
     simp[Tr.d,g1,g2,g3,AN i1,AN j1,hz,Ld.d]
    .obtain⟨ds',ed,hd⟩:=kk.pen
     exact⟨ds',by rw[uQ hqp];exact ed,hd⟩)
 exact⟨ls,S',o,ef,f1,f2,f4,by simpa using f5⟩
noncomputable def rZ:AR->va
 | .Bj .. =>true
 | .thr .. =>true
 |_=>false
@[simp] def j8:wIn true (.val (.str "bring")) (.val (.tup [.str "bring",.str "throw"]))=some (.val (.bl false)):=rfl
@[simp] def jr:wIn true (.val (.str "throw")) (.val (.tup [.str "bring",.str "throw"]))=some (.val (.bl false)):=rfl
@[simp] def nI:wIn true (.val (.str "pool")) (.val (.tup [.str "bring",.str "throw"]))=some (.val (.bl true)):=rfl
@[simp] def mI:wIn true (.val (.str "swap")) (.val (.tup [.str "bring",.str "throw"]))=some (.val (.bl true)):=rfl
@[simp] def km:wIn true (.val (.str "trade")) (.val (.tup [.str "bring",.str "throw"]))=some (.val (.bl true)):=rfl
@[simp] def lI:wIn true (.val (.str "spoil")) (.val (.tup [.str "bring",.str "throw"]))=some (.val (.bl true)):=rfl
@[simp] def lu:wIn true (.val (.str "sell")) (.val (.tup [.str "bring",.str "throw"]))=some (.val (.bl true)):=rfl
structure Wk(t:Tr)(ls:Wp Ld)(ds:Wp AR)(n j:Nat):Prop where
 bk:Ah t ls ds
 hh:HOk t
 ho:Kv ls/\t.ho.sum=1
 lv:∃m G B,m+ds.length<=n/\0<G/\G<=B/\B<2^(26+161*m+7*j)/\(∀x∈ls,∀r∈x.ow,Ok G B r)/\∀r∈t.ho,Ok G B r
def UC{t:Tr}{ls:Wp Ld}(h:Gf t ls)(hl:ls.length<=4){g:Nat}(g0:0<g)(g1:g<=32)(g2:∀r∈t.ho,Ok g g r):∃G,0<G/\G<2^26/\(∀x∈ls,∀r∈x.ow,Ok G G r)/\∀r∈t.ho,Ok G G r:=by
 obtain⟨ha,G,G0,G1,G2⟩:=h
 have hG:G<=32^4:=uH G1 (uz (by decide) hl)
 have hB:G*g<2^26:=by
  have:=v5 hG g1
  lia
 refine⟨G*g,xy G0 g0,hB,λx hx r hr=>(G2 x hx r hr).up (uP _),λr hr=>?_⟩
 have:=(g2 r hr).up (t:=G) (B':=G*g) (by rw[wk];exact uP _)
 rwa [wk g G]at this
def gC{M:Nat}(hM:M<=16)(h:CL p S):∃t ls ds S',Gn [.ref p,.int M] S=Gc (AM t ls ds,S')/\Wk t ls ds M 0/\CL p S':=by
 obtain⟨t,S1,e1,p1,ht,hh,hho,g,g0,g1,g2⟩:=VN h
 have pp1:=p1.pen.lt
 obtain⟨nf,S1b,e1b,a1b,b1b,p1b⟩:=Ar (p1.pen.app [Cl.lst []]) (n:=4) (by decide) (by decide)
 obtain⟨nf,rfl⟩:=Gx a1b
 have rkf:Ge (nf:Int)=true:=Bw (by lia) (by lia)
 have hqf:S1b[S1.length]?=Gc (.lst []):=p1b.get uZ (by lia)
 obtain⟨ls,S2,of,e2,qf,pen2,hf,hl⟩:=Vo (M:=M) p1b.pen ht hqf (by lia) (n:=nf) (by lia) (o5:=none) (o6:=none) (o7:=none)
 have lS1:S1.length<S2.length:=AV qf
 generalize hQF:S1.length=qq at*
 have hi:=Vk hf hl hh.1 g0 g1 g2
 obtain⟨GF,gf0,gf1,gf2,gf3⟩:=UC hf hl g0 g1 g2
 obtain⟨s,l,m,as,S3,e3,hS,sm,hn⟩:=Tp (S:=S2) (t:=t) (ls:=ls) (x:=.tup []) (by lia)
 have lp:=pen2.lt
 have qf3:S3[qq]?=Gc (.lst (ls.map Ld.d)):=sm.get qf (by simp)
 have lqf:=AV qf
 have pen3:CL p S3:=by
  obtain⟨ds,e,hp⟩:=pen2
  exact⟨ds,sm.get e (by simp),hp⟩
 have hq:(S3++[Cl.lst []])[S3.length]?=Gc (.lst []):=uZ
 obtain⟨rn,S4,e4,a4,b4,p4⟩:=Ar (pen3.app [Cl.lst []]) (n:=(M:Int)+1) (by lia) (by lia)
 have qqp:qq≠p:=by lia
 have lt3:=hS.lts
 have pn:p∉s::l::m::as:=λz=>by have:=hn p z;lia
 have qn:S3.length∉s::l::m::as:=λz=>by have:=lt3 _ z;lia
 have hpq:S3.length≠p:=by have:=pen3.lt;lia
 have hS4:SAt S4 s l m as (st0 t ls):=(hS.Ue (.app)).same p4.same (by simpa using pn)
 have hq4:S4[S3.length]?=Gc (.lst []):=p4.get hq hpq
 obtain⟨rn,rfl⟩:=Gx a4
 have rk:Ge (rn:Int)=true:=Bw (by lia) (by lia)
 have qf4:S4[qq]?=Gc (.lst (ls.map Ld.d)):=p4.get (by rw[uK (AV qf3)];exact qf3) qqp
 have qqn:qq∉s::l::m::as:=λz=>by have:=hn _ z;lia
 have qqq:qq≠S3.length:=by have:=AV qf3;lia
 generalize hQ:S3.length=q at*
 obtain⟨E',S',ef,ds,as',o6,o7,rfl,f1,f2,f3,f4,f5,f6,f7,f8,f9⟩:=DZ (gs:=[]) (t:=tNm 4) (b:=AQ (A9 7 (AB Cg [eV 0,eV 2,eV 5]))
  (xIf (eOr (eOp (o2 (wIn true)) [eOp (o2 wIx) [eV 7,eC (.int 0)],BM [eC (.str "bring"),eC (.str "throw")]]) (FQ (eOp (o2 wEq) [AB AE [eV 0,eC (.int 4)],eC (.int 0)]) (eOp (o2 wLt) [eOp (o1 EB) [eV 6],eC (.int 3)]))) (AQ (Bi (AB DM [eV 2,eV 5,eV 7]))
  (Bi (Nm Nq (eV 6) [eV 7]))) Bc))
  (I:=λrs E S'=>∃(ds:Wp AR) (as':Wp Nat) (o6 o7:uM D),E=[Gc (.ref p),Gc (.int M),Gc t.d,Gc (.ref qq),o6,Gc (.ref s),Gc (.ref q),o7]/\S'[q]?=Gc (.lst (ds.map AR.d))/\CL p S'/\SAt S' s l m as' (runs t (st0 t ls) ds)/\JF t (st0 t ls) ds/\ds.length+rs.length<=M/\p∉s::l::m::as'/\q∉s::l::m::as'/\S'[qq]?=Gc (.lst (ls.map Ld.d))/\qq∉s::l::m::as')
  (λ_ _ _ _=>AI) (ds:=Jd 0 rn) (E:=[Gc (.ref p),Gc (.int M),Gc t.d,Gc (.ref qq),of,Gc (.ref s),Gc (.ref q),none]) (S:=S4)
  ⟨[],as,of,none,rfl,hq4,p4.pen,hS4,trivial,by rw[Fc];simp;lia,pn,qn,qf4,qqn⟩ (by
    rintro dd rs E T ⟨ds,as',o6,o7,rfl,i1,i2,i3,i4,i5,i6,i7,i8,i9⟩
    simp only[vY]at i5
    have inv:=MD ht hi i4 (by lia)
    rw[Nat.zero_add]at inv
    obtain⟨d,T1,d1,d2,d3⟩:=VM i2 i3 i6 ht inv (by lia)
    have j3:=i3.same d2.same (by simpa using i6)
    have j1:T1[q]?=Gc (.lst (ds.map AR.d)):=d2.get i1 hpq
    have hcond:∃bo Tc,eOr (eOp (o2 (wIn true)) [eOp (o2 wIx) [eV 7,eC (.int 0)],BM [eC (.str "bring"),eC (.str "throw")]]) (FQ (eOp (o2 wEq) [AB AE [eV 0,eC (.int 4)],eC (.int 0)]) (eOp (o2 wLt) [eOp (o1 EB) [eV 6],eC (.int 3)])) [Gc (.ref p),Gc (.int M),Gc t.d,Gc (.ref qq),Gc dd,Gc (.ref s),Gc (.ref q),Gc d.d] T1=Gc (.bl bo,Tc)/\Pn p T1 Tc:=by
     by_cases hbt:rZ d=true
     .obtain⟨r,Tc,dr1,_,_,pc⟩:=Ar d2.pen (n:=4) (by decide) (by decide)
      have jc:Tc[q]?=Gc (.lst (ds.map AR.d)):=pc.get j1 hpq
      have lc:=Aq jc
      by_cases r0:r=0
      .subst r0
       refine⟨decide ((ds.length:Int)<3),Tc,?_,pc⟩
       cases d with
       |Bj=>simp[AR.d,dr1,lc]
       |thr=>simp[AR.d,dr1,lc]
       |_=>cases hbt
      .have r0':(r==0)=false:=by simpa using r0
       refine⟨false,Tc,?_,pc⟩
       cases d with
       |Bj=>simp[AR.d,dr1,r0']
       |thr=>simp[AR.d,dr1,r0']
       |_=>cases hbt
     .refine⟨true,T1,?_,.refl d2.pen⟩
      cases d with
      |Bj=>exact absurd rfl hbt
      |thr=>exact absurd rfl hbt
      |_=>simp[AR.d]
    obtain⟨bo,Tc,hc,pc⟩:=hcond
    have jc3:=j3.same pc.same (by simpa using i6)
    have jc1:Tc[q]?=Gc (.lst (ds.map AR.d)):=pc.get j1 hpq
    have jc8:Tc[qq]?=Gc (.lst (ls.map Ld.d)):=pc.get (d2.get i8 qqp) qqp
    cases bo with
    |true=>
     obtain⟨T2,as2,k1,k2,k3,k4⟩:=je jc3 ht inv (by lia) d3
     have lt:=jc3.lts
     have q2:T2[q]?=Gc (.lst (ds.map AR.d)):=k3.get jc1 i7
     have qq2:T2[qq]?=Gc (.lst (ls.map Ld.d)):=k3.get jc8 i9
     have hz:ds.length<sizeLine:=uI (show ds.length<50 by lia) (AK (by decide))
     have out:∀x,x∉s::l::m::as'->x<Tc.length->x∉s::l::m::as2:=by
      intro x hx hlx z
      simp only[uS]at z hx
      rcases z with z|z|z|z
      .exact hx (.inl z)
      .exact hx (.inr (.inl z))
      .exact hx (.inr (.inr (.inl z)))
      .rcases k4 _ z with w|w
       .exact hx (.inr (.inr (.inr w)))
       .lia
     refine⟨[Gc (.ref p),Gc (.int M),Gc t.d,Gc (.ref qq),Gc dd,Gc (.ref s),Gc (.ref q),o7],[Gc (.ref p),Gc (.int M),Gc t.d,Gc (.ref qq),Gc dd,Gc (.ref s),Gc (.ref q),Gc d.d],T2.set q (.lst ((ds++[d]).map AR.d)),by simp,?_,ds++[d],as2,Gc dd,Gc d.d,rfl,uX (AV q2),?_,?_,Lc i4 d3,by simp;lia,out p i6 pc.pen.lt,out q i7 (AV jc1),?_,out qq i9 (AV jc8)⟩
     .have kk:=AN q2
      have hz':(ds.map AR.d).length<sizeLine:=by simpa using hz
      have hfin:(ds++[d]).map AR.d=ds.map AR.d++[d.d]:=by simp
      rw[hfin]
      generalize hDD:ds.map AR.d=DD at*
      simp[d1,-Wd,hc,k1,kk,hz']
     .obtain⟨pd,pe,ph⟩:=pc.pen
      exact⟨pd,by rw[uQ hpq];exact k3.get pe i6,ph⟩
     .rw[Nf]
      exact k2.same (A:=[q]) (.set (by simp)) (by simpa using out q i7 (AV jc1))
     .rw[uQ (vj qqq)];exact qq2
    |false=>
     refine⟨[Gc (.ref p),Gc (.int M),Gc t.d,Gc (.ref qq),Gc dd,Gc (.ref s),Gc (.ref q),o7],[Gc (.ref p),Gc (.int M),Gc t.d,Gc (.ref qq),Gc dd,Gc (.ref s),Gc (.ref q),Gc d.d],Tc,by simp,?_,ds,as',Gc dd,Gc d.d,rfl,jc1,pc.pen,jc3,i4,by lia,i6,i7,jc8,i9⟩
     simp[d1,-Wd,hc])
 have f5':0+ds.length<=M:=by simpa using f5
 refine⟨t,ls,ds,S',?_,⟨⟨ht,⟨0,by lia,hi⟩,hl,λx hx=>⟨by have:=(hf.1 x hx).2.1;lia,(hf.1 x hx).2.2.1⟩,f4⟩,hho,⟨λx hx=>(hf.1 x hx).2.2.2.2,hh.2⟩,⟨0,GF,GF,f5',gf0,uP _,gf1,gf2,gf3⟩⟩,f2⟩
 have df:=Aq f1
 have dff:=Aq f8
 have dq2:=Aq qf
 simp[Gn,Qy,e1,hQF,e1b,rkf,e2,dq2,e3,hQ,e4,rk,ef,df,dff,AM]
end
noncomputable def flI(r:Rat):Int:=r.num / (r.den:Int)
def MZ{i:Int}:flI (i:Rat)=i:=by
 show(i:Rat).num / (((i:Rat).den:Nat):Int)=i
 simp
def V5(r:Rat):r-(flI r:Rat)=((r.num % (r.den:Int):Int):Rat) / (((r.den:Int):Int):Rat):=by
 have h0:(((r.den:Int):Int):Rat)≠0:=by
  have:=Hf r
  simpa using this
 have h1:r=(r.num:Rat) / (((r.den:Int):Int):Rat):=by
  have e:(((r.den:Int):Int):Rat)=(r.den:Rat):=Rat.intCast_natCast _
  rw[e]
  exact(DH r).symm
 have h2:(r.num:Rat)=(((r.den:Int):Int):Rat)*((flI r:Int):Rat)+((r.num % (r.den:Int):Int):Rat):=by
  have:r.num=(r.den:Int)*flI r+r.num % (r.den:Int):=(Int.mul_ediv_add_emod _ _).symm
  exact_mod_cast congrArg (λi:Int=>(i:Rat)) this
 generalize (flI r:Rat)=f at*
 generalize ((r.num % (r.den:Int):Int):Rat)=m at*
 generalize (((r.den:Int):Int):Rat)=d at*
 generalize (r.num:Rat)=n at*
 grind
def QL{r d:Rat}(hg:0<d)(hz:0<=r*d):0<=r:=by
 rcases Rat.le_total (a:=0) (b:=r)with w|w
 .exact w
 .have:=v8 w (yx hg)
  rw[Rat.zero_mul]at this
  have e0:=AA7 this hz
  have:r=0:=by grind
  rw[this]
  exact ABN
def Ok.num{G B:Nat}{r:Rat}(hG:0<G)(h:Ok G B r):0<=r.num:=by
 obtain⟨z,e,_⟩:=h
 have hg:(0:Rat)<(G:Rat):=by exact_mod_cast hG
 have hz:(0:Rat)<=(z:Rat):=by exact_mod_cast vZ z
 rw[ABO]
 exact QL hg (by rw[e];exact hz)
def Ok.fl{G B:Nat}{r:Rat}(hG:0<G)(h:Ok G B r):0<=flI r:=Int.ediv_nonneg (h.num hG) (by lia)
def Ok.oE{G B:Nat}{r:Rat}(hG:0<G)(h:Ok G B r):Ok G B (r-(flI r:Rat)):=by
 have f0:=h.fl hG
 have hf:=V5 r
 obtain⟨z,e,hz⟩:=h
 have hg:(0:Rat)<(G:Rat):=by exact_mod_cast hG
 have hge:(0:Rat)<=r-(flI r:Rat):=by
  rw[hf]
  have h1:(0:Int)<=r.num % (r.den:Int):=xC _ (by have:=den_pos r;lia)
  have h2:(0:Rat)<=((r.num % (r.den:Int):Int):Rat):=by exact_mod_cast h1
  have h3:(0:Rat)<(((r.den:Int):Int):Rat):=by exact_mod_cast (den_pos r)
  refine QL h3 ?_
  generalize (((r.den:Int):Int):Rat)=d at*
  have:((r.num % (r.den:Int):Int):Rat) / d*d=((r.num % (r.den:Int):Int):Rat):=by
   have:d≠0:=λz=>by rw[z]at h3;exact absurd h3 (Rat.not_lt.mpr ABN)
   grind
  rw[this]
  exact h2
 have e2:(r-(flI r:Rat))*(G:Rat)=(((z:Int)-flI r*(G:Int):Int):Rat):=by
  push_cast
  grind
 have h4:(0:Rat)<=(((z:Int)-flI r*(G:Int):Int):Rat):=by
  rw[<-e2]
  exact Rat.mul_nonneg hge (yx hg)
 have h5:(0:Int)<=(z:Int)-flI r*(G:Int):=by exact_mod_cast h4
 have h6:(0:Int)<=flI r*(G:Int):=AAB f0 (by lia)
 refine⟨((z:Int)-flI r*(G:Int)).toNat,?_,by lia⟩
 rw[e2]
 have:((((z:Int)-flI r*(G:Int)).toNat:Nat):Int)=(z:Int)-flI r*(G:Int):=by lia
 exact_mod_cast congrArg (λi:Int=>(i:Rat)) this.symm
theorem Ok.sum{G B:Nat}:∀{rs:Wp Rat},(∀r∈rs,Ok G B r)->Ok G (rs.length*B) rs.sum
 | [],_=>by simp;exact Ok.zero
 |r::rs,h=>by
  rw[uj,vY,yt,zU]
  exact(h r uO).add (Ok.sum λq hq=>h q (uL _ hq))
noncomputable def Ay(t:Tr)(st:Stt)(x:Ld):Wp Rat:=(CK t st x).map λr=>r-(flI r:Rat)
noncomputable def BX(t:Tr)(st:Stt)(x:Ld):Int:=x.n-((CK t st x).map flI).sum
noncomputable def pJ(t:Tr)(st:Stt)(x:Ld):D:=.tup [.int x.k,.int (BX t st x),shD ((Ay t st x).map λr=>r*(((1:Int):Rat) / (BX t st x:Rat)))]
noncomputable def K5(t:Tr)(st:Stt)(x:Ld):Wp D:=if 0<BX t st x then [pJ t st x]else []
theorem VH:∀{rs:Wp Rat},(rs.map λr=>r-(flI r:Rat)).sum=rs.sum-(((rs.map flI).sum:Int):Rat)
 | []=>by simp;grind
 |r::rs=>by
  rw[uV,uj,uV,uj,uj,VH]
  push_cast
  grind
theorem Rz{c:Rat}:∀{rs:Wp Rat},(rs.map λr=>c*r).sum=c*rs.sum
 | []=>by simp
 |r::rs=>by
  rw[uV,uj,uj,Rz]
  grind
def jj{rs:Wp Rat}(h:∀r∈rs,0<=flI r):0<=(rs.map flI).sum:=by
 induction rs with
 |nil=>simp
 |cons r rs ih=>
  rw[uV,uj]
  have:=h r uO
  have:=ih λq hq=>h q (uL _ hq)
  lia
def iB{n:Int}(h:0<n):D.tup [.int 1,.int n]=aD (((1:Int):Rat) / (n:Rat)):=by
 rw[<-IT h]
 have:Oi 1 n=1:=by simp[Oi]
 simp[amD,lowP,this]
def RZ{t:Tr}{st:Stt}{x:Ld}(hh:HOk t)(h1:x.ow.sum=1)(h2:st.hold.sum=1)(hl:x.ow.length=st.hold.length):(CK t st x).sum=(x.n:Rat):=by
 unfold CK Lz Pu
 rw[Rz]
 have e10:(((10-t.h:Int):Rat)+(t.h:Rat))=10:=by push_cast;grind
 have e:(λ(s o:Rat)=>(s*((10-t.h:Int):Rat)+o*(t.h:Rat)) / (((10-t.h:Int):Rat)+(t.h:Rat)))=λs o=>s*(((10-t.h:Int):Rat) / 10)+o*((t.h:Rat) / 10):=by
  funext s o
  rw[e10]
  grind
 rw[e,PF hl,h1,h2]
 have:(1:Rat)*(((10-t.h:Int):Rat) / 10)+1*((t.h:Rat) / 10)=1:=by
  have:((10-t.h:Int):Rat)=10-(t.h:Rat):=by push_cast;rfl
  rw[this]
  grind
 rw[this]
 grind
def W5{t:Tr}{st:Stt}{x:Ld}(hh:HOk t)(h1:x.ow.sum=1)(h2:st.hold.sum=1)(hl:x.ow.length=st.hold.length):(Ay t st x).sum=(BX t st x:Rat):=by
 unfold Ay BX
 rw[VH,RZ hh h1 h2 hl]
 push_cast
 rfl
theorem XD{α:Type}{gs:Gd}{t:Tf}{b:Ex}{C:En}{m q:Nat}{S0:Sto}{e:α->D}{h:α->Wp D}(hg:∀T,Bh [q] S0 T->gOk gs T):∀{xs:Wp α} {acc:Wp D} {os:En} {S:Sto},os.length=m->S[q]?=Gc (.lst acc)->Bh [q] S0 S->acc.length+xs.length<=1000->(∀x∈xs,(h x).length<=1)->(∀x∈xs,∀os S acc,os.length=m->S[q]?=Gc (.lst acc)->acc.length<sizeLine->Bh [q] S0 S->∃us us' S',t (e x) (C++os) S=Gc (C++us)/\b (C++us) S=Gc (.nx,C++us',S'.set q (.lst (acc++h x)))/\us'.length=m/\Bh [] S S')->∃os' S',os'.length=m/\Jj gs t b (xs.map e) (C++os) S=Gc (.nx,C++os',S')/\S'[q]?=Gc (.lst (acc++xs.flatMap h))/\Bh [q] S S'
 | [],acc,os,S,ho,hq,hs,hz,h1,H=>⟨os,S,ho,by rw[vM,Fe (hg S hs)],by simpa using hq,.refl⟩
 |x::xs,acc,os,S,ho,hq,hs,hz,h1,H=>by
  obtain⟨us,us',S1,e1,e2,hu,sm⟩:=H x uO os S acc ho hq (uI (show acc.length<1001 by simp at hz;lia) (by decide)) hs
  have q1:=sm.get hq (by simp)
  have s1:Bh [q] S (S1.set q (.lst (acc++h x))):=(sm.mono λ_ z=>(nomatch z)).trans (.set (by simp))
  have hx:=h1 x uO
  obtain⟨os',S2,ho',e3,q2,s2⟩:=XD hg (t:=t) (b:=b) (C:=C) (e:=e) (h:=h) (xs:=xs) (acc:=acc++h x) (os:=us') (S:=S1.set q (.lst (acc++h x))) hu (uX (AV q1)) (hs.trans s1) (by simp at hz ⊢; lia) (λx' hx=>h1 x' (uL _ hx)) λx' hx=>H x' (uL _ hx)
  refine⟨os',S2,ho',?_,by simpa using q2,s1.trans s2⟩
  rw[uV,DO (hg S hs),e1,Au,e2,Au,Rm,e3]
section
variable{S:Sto}{t:Tr}{ls:Wp Ld}{ds:Wp AR}
def ZJ{r:Rat}{k:Nat}(h:Sz k r)(hk:k<=8000):Aj [aD r] S=Gc (.int (flI r),S):=by
 have h1:0<(r.den:Int):=den_pos r
 have h2:((r.den:Nat):Int).natAbs<F6:=by
  rw[v3]
  exact C4 h.2 hk
 unfold aD flI
 generalize hd:((r.den:Nat):Int)=d at*
 simp[Aj,Hl,h1,h2]
def XM(h:Ah t ls ds)(hh:HOk t):∃G B:Nat,0<G/\G<2^2760/\B<2^2905/\∀x∈(runs t (st0 t ls) ds).AA,∀r∈CK t (runs t (st0 t ls) ds) x,Ok G B r:=by
 have inv:=h.fin
 obtain⟨G,B,g0,gb,bb,k1,k2⟩:=inv.gb
 refine⟨G*10,B*10*2^147,by lia,?_,?_,λx hx=>TU hh (k1 x hx) k2 (inv.pcs x hx).1 ?_⟩
 .have:G<2^(30+170*16):=ug gb bb
  exact uI (Ap this (show 10<2^4 by decide)) (uz (by decide) (by decide))
 .have:=Ap (Ap bb (show 10<2^4 by decide)) (show 2^147<2^148 by exact vS (by decide) (by decide))
  exact uI this (uz (by decide) (by decide))
 .have:=(inv.pcs x hx).2
  have e:((2^147:Nat):Int)=2^(131+16):=by decide
  lia
end
section
variable{S:Sto}{t:Tr}{ls:Wp Ld}{ds:Wp AR}
def iJ{rs:Wp Rat}(hl:rs.length<=50)(hz:∀r∈rs,Sz 2906 r):BA [] (tNm 0) Ai (AB Dq [eV 0,BM [AB Aj [eV 0],eC (.int 1)]]) (rs.map aD) [] [none] S=Gc ((rs.map λr=>r-(flI r:Rat)).map aD,S):=by
 have c:=A6 (gs:=[]) (t:=tNm 0) (f:=AB Dq [eV 0,BM [AB Aj [eV 0],eC (.int 1)]]) (C:=[]) (m:=1) (e:=aD) (g:=λr=>aD (r-(flI r:Rat))) (S:=S) AI (xs:=rs) (acc:=[]) (os:=[none]) rfl (uH (show _<=50 by simpa using hl) (AK (by decide))) (by
  intro r hr os ho
  obtain⟨o,rfl⟩:∃o,os=[o]:=by
   match os,ho with
   | [a],_=>exact⟨a,rfl⟩
  have z:=hz r hr
  have w:=ZJ (S:=S) z (by decide)
  have zf:Sz 2906 (flI r:Rat):=IH (ug (by
   unfold flI
   exact AAD _ _) z.1) (by decide)
  have l:=b0 (S:=S) z zf (by decide)
  rw[G9]at l
  refine⟨[Gc (aD r)],rfl,by simp,?_⟩
  generalize aD (r-(flI r:Rat))=R at*
  generalize flI r=f at*
  generalize aD r=R2 at*
  simp[w,l])
 rw[uh]
 exact c
def fg{rs:Wp Rat}{n:Int}(h0:0<n)(hn:n.natAbs<2^150)(hl:rs.length<=50)(hz:∀r∈rs,Sz 2906 r):BA [] (tNm 1) Ai (AB BJ [eV 1,BM [eC (.int 1),eV 0]]) (rs.map aD) [] [Gc (.int n),none] S=Gc ((rs.map λr=>r*(((1:Int):Rat) / (n:Rat))).map aD,S):=by
 have zn:Sz 150 (((1:Int):Rat) / (n:Rat)):=Kh h0 (by decide) hn
 have c:=A6 (gs:=[]) (t:=tNm 1) (f:=AB BJ [eV 1,BM [eC (.int 1),eV 0]]) (C:=[Gc (.int n)]) (m:=1) (e:=aD) (g:=λr=>aD (r*(((1:Int):Rat) / (n:Rat)))) (S:=S) AI (xs:=rs) (acc:=[]) (os:=[none]) rfl (uH (show _<=50 by simpa using hl) (AK (by decide))) (by
  intro r hr os ho
  obtain⟨o,rfl⟩:∃o,os=[o]:=by
   match os,ho with
   | [a],_=>exact⟨a,rfl⟩
  have l:=NU (S:=S) (hz r hr) zn (by decide)
  rw[<-iB h0]at l
  refine⟨[Gc (aD r)],rfl,by simp,?_⟩
  generalize aD (r*(((1:Int):Rat) / (n:Rat)))=R at*
  generalize aD r=R2 at*
  simp[l])
 rw[uh]
 exact c
structure HC(t:Tr)(st:Stt)(x:Ld):Prop where
 len:(CK t st x).length<=4
 cM:(CK t st x).length=t.p
 ok:∃G B:Nat,0<G/\G<2^2760/\B<2^2905/\∀r∈CK t st x,Ok G B r
 sum:(Ay t st x).sum=(BX t st x:Rat)
 n0:0<=x.n
 n1:x.n<2^147
def K4(h:Ah t ls ds)(hh:HOk t)(ho:Kv ls/\t.ho.sum=1):∀x∈(runs t (st0 t ls) ds).AA,HC t (runs t (st0 t ls) ds) x:=by
 intro x hx
 have inv:=h.fin
 have tp:=h.tr.2.1
 have on:=h.ones ho.1 ds.length
 have hs:=h.Xk ho.1 ho.2 ds.length
 rw[vI]at on hs
 obtain⟨G,B,g0,gg,bb,k⟩:=XM h hh
 have hl:(CK t (runs t (st0 t ls) ds) x).length=t.p:=by
  unfold CK Lz
  rw[ux,Pu,Dt (inv.own x hx) inv.hold]
 exact⟨by lia,hl,⟨G,B,g0,gg,bb,k x hx⟩,W5 hh (on x hx) hs (by rw[inv.own x hx,inv.hold]),(inv.pcs x hx).1,(inv.pcs x hx).2⟩
def HC.sz{st:Stt}{x:Ld}(h:HC t st x):∀r∈CK t st x,Sz 2906 r:=by
 obtain⟨G,B,g0,gg,bb,k⟩:=h.ok
 exact λr hr=>(k r hr).sz g0 (wm gg (vS (by decide) (by decide))) (wm bb (vS (by decide) (by decide)))
def HC.fl{st:Stt}{x:Ld}(h:HC t st x):∀r∈CK t st x,0<=flI r:=by
 obtain⟨G,B,g0,gg,bb,k⟩:=h.ok
 exact λr hr=>(k r hr).fl g0
def HC.sok{st:Stt}{x:Ld}(h:HC t st x):∃G B:Nat,0<G/\G<2^2760/\B<2^2905/\∀r∈Ay t st x,Ok G B r:=by
 obtain⟨G,B,g0,gg,bb,k⟩:=h.ok
 refine⟨G,B,g0,gg,bb,λr hr=>?_⟩
 obtain⟨y,hy,rfl⟩:=uo.mp hr
 exact(k y hy).oE g0
def HC.ssz{st:Stt}{x:Ld}(h:HC t st x):∀r∈Ay t st x,Sz 2906 r:=by
 obtain⟨G,B,g0,gg,bb,k⟩:=h.sok
 exact λr hr=>(k r hr).sz g0 (wm gg (vS (by decide) (by decide))) (wm bb (vS (by decide) (by decide)))
def HC.left{st:Stt}{x:Ld}(h:HC t st x):BX t st x<=x.n:=by
 have:=jj h.fl
 unfold BX
 lia
def HC.total{st:Stt}{x:Ld}(h:HC t st x):CB [.lst ((Ay t st x).map aD)] S=Gc (aD (BX t st x:Rat),S):=by
 obtain⟨G,B,g0,gg,bb,k⟩:=h.sok
 have hl:(Ay t st x).length<=4:=by
  unfold Ay
  rw[ux]
  exact h.len
 have tt:=PY (S:=S) (rs:=Ay t st x) (K:=2910) g0 (wm gg (vS (by decide) (by decide))) (by decide) k (by
  have h1:(Ay t st x).length*B<=4*2^2905:=v5 hl (xE bb)
  have h2:4*2^2905=2^2907:=by rw[show(2907:Nat)=2905+2 by rfl,zK]
  rw[h2]at h1
  exact ug h1 (vS (by decide) (by decide)))
 rw[h.sum]at tt
 exact tt
def W9:=AQ (A9 6 (Az [] 1 (DY (eV 3)) (tNm 0) Ai (AB Dq [eV 0,BM [AB Aj [eV 0],eC (.int 1)]]))) (AQ (A9 7 (AB Aj [AB CB [eV 6]])) (xIf (eOp (o2 wGt) [eV 7,eC (.int 0)]) (Bi (Nm Nq (eV 2) [BM [eV 4,eV 7,eOp (o1 Br) [Az [7] 1 (DY (eV 6)) (tNm 1) Ai (AB BJ [eV 1,BM [eC (.int 1),eV 0]])]]])) Bc))
def YM{st:Stt}{x:Ld}{q:Nat}{acc:Wp D}{a0 a1 o6 o7:uM D}(h:HC t st x)(hq:S[q]?=Gc (.lst acc))(hz:acc.length<sizeLine):∃u6 u7,W9 [a0,a1,Gc (.ref q),Gc (shD (CK t st x)),Gc (.int x.k),Gc (.int x.n),o6,o7] S=Gc (.nx,[a0,a1,Gc (.ref q),Gc (shD (CK t st x)),Gc (.int x.k),Gc (.int x.n),u6,u7],S.set q (.lst (acc++K5 t st x))):=by
 have c1:=iJ (S:=S) (rs:=CK t st x) (by have:=h.len;lia) h.sz
 have tt:=h.total (S:=S)
 have h1:=h.left
 have h0:=h.n1
 have bl:∀z:Int,0<z->z<=x.n->z.natAbs<2^150:=λz z0 z1=>by
  have:z<2^147:=v7 z1 h0
  have e:(z.natAbs:Int)<((2^150:Nat):Int):=by
   rw[ABK (by lia)]
   exact Int.lt_trans this (by decide)
  lia
 by_cases hp:0<BX t st x
 .have w:=ZJ (S:=S) (r:=(BX t st x:Rat)) (k:=150) (IH (bl _ hp h1) (by decide)) (by decide)
  rw[MZ]at w
  have c2:=fg (S:=S) (rs:=Ay t st x) hp (bl _ hp h1) (by
   have:=h.len
   unfold Ay
   rw[ux]
   lia) h.ssz
  refine⟨Gc (.lst ((Ay t st x).map aD)),Gc (.int (BX t st x)),?_⟩
  have eo:K5 t st x=[.tup [.int x.k,.int (BX t st x),.tup (((Ay t st x).map λr=>r*(((1:Int):Rat) / (BX t st x:Rat))).map aD)]]:=by
   unfold K5
   rw[vF hp]
   rfl
  rw[eo]
  have c1':BA [] (tNm 0) Ai (AB Dq [eV 0,BM [AB Aj [eV 0],eC (.int 1)]]) ((CK t st x).map aD) [] [none] S=Gc ((Ay t st x).map aD,S):=c1
  generalize ((Ay t st x).map λr=>r*(((1:Int):Rat) / (BX t st x:Rat))).map aD=R3 at*
  generalize (Ay t st x).map aD=R1 at*
  generalize aD (BX t st x:Rat)=R2 at*
  generalize BX t st x=z at*
  simp[W9,LX,c1',tt,w,hp,MB,c2,AN hq,hz]
 .have w:=ZJ (S:=S) (r:=(BX t st x:Rat)) (k:=8000) (by
   have zs:Sz 2910 (Ay t st x).sum:=by
    obtain⟨G,B,g0,gg,bb,k⟩:=h.sok
    have hl:(Ay t st x).length<=4:=by
     unfold Ay
     rw[ux]
     exact h.len
    have o:Ok G ((Ay t st x).length*B) (Ay t st x).sum:=Ok.sum k
    refine o.sz g0 (wm gg (vS (by decide) (by decide))) ?_
    have h1:(Ay t st x).length*B<=4*2^2905:=v5 hl (xE bb)
    have h2:4*2^2905=2^2907:=by rw[show(2907:Nat)=2905+2 by rfl,zK]
    rw[h2]at h1
    exact ug h1 (vS (by decide) (by decide))
   rw[h.sum]at zs
   exact zs.mono (by decide)) (by decide)
  rw[MZ]at w
  refine⟨Gc (.lst ((Ay t st x).map aD)),Gc (.int (BX t st x)),?_⟩
  have eo:K5 t st x=[]:=by
   unfold K5
   rw[vL hp]
  rw[eo,xZ,set_same hq]
  have c1':BA [] (tNm 0) Ai (AB Dq [eV 0,BM [AB Aj [eV 0],eC (.int 1)]]) ((CK t st x).map aD) [] [none] S=Gc ((Ay t st x).map aD,S):=c1
  generalize (Ay t st x).map aD=R1 at*
  generalize aD (BX t st x:Rat)=R2 at*
  generalize BX t st x=z at*
  simp[W9,LX,c1',tt,w,hp]
def IM(h:Ah t ls ds)(hh:HOk t)(ho:Kv ls/\t.ho.sum=1):∃S',DK [AM t ls ds] S=Gc (.tup ((runs t (st0 t ls) ds).AA.flatMap (K5 t (runs t (st0 t ls) ds))),S')/\Bh [] S S':=by
 have hm:=K4 h hh ho
 have hb:=Iz (S:=S) h (n:=ds.length) (uP _)
 rw[vI]at hb
 obtain⟨qd,S1,e1,c1,s1,l1⟩:=Fp (S:=S++[Cl.lst []]) h hh
 have inv:=h.fin
 have hlen:=inv.len
 generalize runs t (st0 t ls) ds=st at*
 have hq:S1[S.length]?=Gc (.lst []):=s1.get uZ (by simp)
 have hne:qd≠S.length:=by simp at l1;lia
 obtain⟨os',S2,ho',e2,q2,s2⟩:=XD (gs:=[(qd,st.AA.map λx=>shD (CK t st x))]) (S0:=S1) (t:=tTp [tTp [tNm 4,tNm 5],tNm 3]) (b:=W9) (C:=[Gc (AM t ls ds),Gc (Aw st.AA),Gc (.ref S.length)]) (m:=5) (q:=S.length) (e:=λx:Ld=>D.tup [hD x,shD (CK t st x)]) (h:=K5 t st) (λT hT g hg=>by
  rw[uv.mp hg]
  exact AN (hT.get c1 (by simpa using hne))) (xs:=st.AA) (acc:=[]) (os:=[none,none,none,none,none]) (S:=S1) rfl hq .refl (by simp;lia) (λx _=>by unfold K5;split<;>simp) (by
  intro x hx os T acc ho hq0 hz hT
  obtain⟨o1,o2,o3,o4,o5,rfl⟩:∃o1 o2 o3 o4 o5,os=[o1,o2,o3,o4,o5]:=by
   match os,ho with
   | [a,b,c,d,e],_=>exact⟨a,b,c,d,e,rfl⟩
  obtain⟨u6,u7,e⟩:=YM (S:=T) (a0:=Gc (AM t ls ds)) (a1:=Gc (Aw st.AA)) (o6:=o4) (o7:=o5) (hm x hx) hq0 hz
  exact⟨[Gc (shD (CK t st x)),Gc (.int x.k),Gc (.int x.n),o4,o5],[Gc (shD (CK t st x)),Gc (.int x.k),Gc (.int x.n),u6,u7],T,by simp,e,rfl,.refl⟩)
 refine⟨S2,?_,?_⟩
 .have ez:JC (st.AA.map hD) (st.AA.map λx=>shD (CK t st x))=st.AA.map λx=>.tup [hD x,shD (CK t st x)]:=by
   unfold JC
   rw[yI,uh]
   rfl
  rw[<-ez]at e2
  simp only[vD,ur]at e2 q2
  have sq:=C7 c1
  have dq:=Aq q2
  have eb:Kj=(AQ (A9 1 (AB C9 [eV 0,eOp (o1 EB) [eOp (o2 wIx) [eV 0,eC (.int 2)]]]))
  (AQ (A9 2 (JY []))
  (AQ (Ht (Q7 (eV 1) (AB Bv [eV 0])) (tTp [tTp [tNm 4,tNm 5],tNm 3]) W9)
  (Ac (eOp (o1 Br) [eV 2]))))):=rfl
  have sh:∀T,sqD T (Aw st.AA)=Gc (st.AA.map hD,[]):=λ_=>rfl
  have il:EB (.val (.tup (ds.map AR.d)))=Gc (.val (.int ds.length)):=by simp
  unfold DK
  rw[eb]
  generalize hHD:Aw st.AA=HD at*
  generalize st.AA.flatMap (K5 t st)=R at*
  generalize hDU:st.AA.map (λx=>shD (CK t st x))=DU at*
  simp only[AM]at e1 e2 hb⊢
  simp[hb,e1,sh,sq,e2,dq]
 .refine⟨uH (by simp) (uH s1.len s2.len),λn hn _=>?_⟩
  have l1:=s1.len
  simp at l1
  rw[s2.keep n (by lia) (by simp;lia),s1.keep n (by simp;lia) (by simp),uK hn]
def KU(h:Ah t ls ds)(hh:HOk t)(ho:Kv ls/\t.ho.sum=1):∃S',B4 [AM t ls ds] S=Gc (.tup ((runs t (st0 t ls) ds).AA.flatMap (K5 t (runs t (st0 t ls) ds))),S')/\Bh [] S S':=by
 obtain⟨S1,e1,s1⟩:=IM (S:=S) h hh ho
 have r1:=Dk (S:=S) h
 refine⟨S1,?_,s1⟩
 generalize D.tup ((runs t (st0 t ls) ds).AA.flatMap (K5 t (runs t (st0 t ls) ds)))=R at*
 generalize AM t ls ds=bk at*
 simp[B4,JT,r1,e1]
end
section
variable{S:Sto}{t:Tr}{ls:Wp Ld}{ds:Wp AR}{st:Stt}
noncomputable def duI(t:Tr)(st:Stt)(p i:Nat):Rat:=(CK t st (AL st.AA i)).getD p 0
noncomputable def tkI(t:Tr)(st:Stt)(p i:Nat):Int:=flI (duI t st p i)
def MS{β:Type}{ls:Wp Ld}(f:Ld->β):(W1 ls.length).map (λi=>f (AL ls i))=ls.map f:=by
 apply xk
 intro i
 rw[uR,uR]
 by_cases h:i<ls.length
 .rw[vW h,DN h];rfl
 .rw[wF (by simp;lia),wF (by lia)];rfl
def Zi{ls:Wp Ld}(f:Ld->D):Nr 0 (ls.map f)=(W1 ls.length).map λ(i:Nat)=>D.tup [.int i,f (AL ls i)]:=by
 rw[Mg,ux]
 apply vX
 intro i hi
 have h:i<ls.length:=vC.mp hi
 rw[uY,uR,DN h]
 rfl
def NB{p i:Nat}(hm:∀x∈st.AA,HC t st x)(hp:p<t.p)(hi:i<st.AA.length):duI t st p i∈CK t st (AL st.AA i):=getD_mem (by rw[(hm _ (AU hi)).cM];exact hp)
def GK(t:Tr)(st:Stt)(p:Nat):Wp Nat:=(W1 st.AA.length).filter λi=>decide (0<tkI t st p i)
noncomputable def Ul(t:Tr)(st:Stt)(p i:Nat):D:=.tup [.int i,.int (tkI t st p i)]
noncomputable def fnI(n:Nat)(v:Nat->Int):Wp D:=(W1 n).map λj=>.int (v j)
def bq{n i:Nat}{v:Nat->Int}{z:Int}(hi:i<n):(fnI n v).set i (.int z)=fnI n (λj=>if j=i then z else v j):=by
 apply xk
 intro j
 rw[List.getElem?_set]
 unfold fnI
 rw[uR,uR,ux,AAL]
 by_cases h:j<n
 .rw[vW h]
  by_cases e:i=j
  .subst e;simp[h]
  .have e':¬j=i:=λz=>e z.symm
   simp[e,e']
 .have:¬i=j:=by lia
  rw[wF (by simp;lia)]
  simp[this]
def Z6{n i:Nat}{v:Nat->Int}(hi:i<n):(fnI n v)[i]?=Gc (.int (v i)):=by
 unfold fnI
 rw[uR,vW hi]
 rfl
def KP{n:Nat}{v w:Nat->Int}(h:∀j<n,v j=w j):fnI n v=fnI n w:=by
 unfold fnI
 apply vX
 intro j hj
 rw[h j (vC.mp hj)]
end
section
variable{S:Sto}{t:Tr}{ls:Wp Ld}{ds:Wp AR}{st:Stt}
def El(t:Tr)(st:Stt)(p:Nat):Wp D:=(GK t st p).map (Ul t st p)
def NX{p qd:Nat}(hm:∀x∈st.AA,HC t st x)(hl:st.AA.length<=20)(hp:p<t.p)(hq:S[qd]?=Gc (.lst (st.AA.map λx=>shD (CK t st x)))):CM [.ref qd,.int p] S=Gc (.ref S.length,S++[.lst (El t st p)]):=by
 have gz:gOk [(qd,st.AA.map λx=>shD (CK t st x))] S:=λg hg=>by rw[uv.mp hg];exact AN hq
 have k1:=A6 (gs:=[(qd,st.AA.map λx=>shD (CK t st x))]) (t:=tTp [tNm 1,tNm 2]) (f:=BM [eV 1,AB Aj [eOp (o2 wIx) [eV 2,eV 0]]]) (C:=[Gc (.int p)]) (m:=2) (e:=λi:Nat=>D.tup [.int i,shD (CK t st (AL st.AA i))]) (g:=Ul t st p) (S:=S) gz (xs:=W1 st.AA.length) (acc:=[]) (os:=[none,none]) rfl (uH (show _<=50 by simp;lia) (AK (by decide))) (by
  intro i hi os ho
  obtain⟨x1,x2,rfl⟩:∃x1 x2,os=[x1,x2]:=by
   match os,ho with
   | [a,b],_=>exact⟨a,b,rfl⟩
  have hi':i<st.AA.length:=vC.mp hi
  have hx:=hm _ (AU hi')
  have w:=ZJ (S:=S) (hx.sz _ (NB hm hp hi')) (by decide)
  have at1:=Na (ss:=CK t st (AL st.AA i)) (n:=p) (by rw[hx.cM];exact hp)
  refine⟨[Gc (.int i),Gc (shD (CK t st (AL st.AA i)))],rfl,by simp,?_⟩
  show _=Gc (D.tup [.int i,.int (flI (duI t st p i))],S)
  change atI ((CK t st (AL st.AA i)).map aD) (p:Int)=Gc (aD (duI t st p i))at at1
  generalize flI (duI t st p i)=z at*
  generalize aD (duI t st p i)=R at*
  simp[LX,at1,w])
 have ee:Nr 0 (st.AA.map λx=>shD (CK t st x))=(W1 st.AA.length).map λ(i:Nat)=>D.tup [.int i,shD (CK t st (AL st.AA i))]:=Zi _
 rw[<-ee]at k1
 have k2:=C3 (gs:=[]) (t:=tTp [tNm 0,tNm 1]) (c:=eOp (o2 wGt) [eV 1,eC (.int 0)]) (f:=BM [eV 0,eV 1]) (C:=[]) (m:=2) (e:=Ul t st p) (g:=Ul t st p) (b:=λi=>decide (0<tkI t st p i)) (S:=S) AI (xs:=W1 st.AA.length) (acc:=[]) (os:=[none,none]) rfl (uH (show _<=50 by simp;lia) (AK (by decide))) (by
  intro i hi os ho
  obtain⟨x1,x2,rfl⟩:∃x1 x2,os=[x1,x2]:=by
   match os,ho with
   | [a,b],_=>exact⟨a,b,rfl⟩
  exact⟨[Gc (.int i),Gc (.int (tkI t st p i))],rfl,by simp[Ul],by simp,by simp[Ul]⟩)
 have sq:=C7 hq
 simp only[ur,vD]at k1 k2
 unfold El GK
 generalize (W1 st.AA.length).map (Ul t st p)=R at*
 generalize ((W1 st.AA.length).filter λi=>decide (0<tkI t st p i)).map (Ul t st p)=R2 at*
 generalize (st.AA.map λx=>shD (CK t st x))=DU at*
 simp[CM,Ls,sq,MB,k1,k2]
def Pk{p:Nat}(hp:p<t.p):BI [t.d,.int p] S=Gc (.bl true,S):=by
 have k1:St.Kd.int.isA "int"=true:=by decide
 have k2:St.Kd.int.isA "bool"=false:=by decide
 have h1:(p:Int)<=(t.p:Int)-1:=by lia
 simp[BI,Ew,k1,k2,AX,Bx,BP,Dz,Bn,Cs,kdW,Tr.d,h1]
def RM{p:Nat}(h:Ah t ls ds)(hh:HOk t)(hst:runs t (st0 t ls) ds=st)(hm:∀x∈st.AA,HC t st x)(hp:p<t.p):∃q S',FG [AM t ls ds,.int p] S=Gc (.ref q,S')/\S'[q]?=Gc (.lst (El t st p))/\Bh [] S S'/\S.length<=q:=by
 have r1:=Dk (S:=S) h
 have r2:=Il (S:=S) (ls:=ls) (ds:=ds) hp
 obtain⟨qd,S1,e1,c1,s1,l1⟩:=Fp (S:=S) h hh
 have hlen:=h.fin.len
 rw[hst]at c1 hlen
 have tb:=NX (S:=S1) hm (by lia) hp c1
 refine⟨S1.length,S1++[.lst (El t st p)],?_,uZ,s1.trans .app,s1.len⟩
 generalize El t st p=R at*
 generalize AM t ls ds=bk at*
 simp[FG,L0,r1,r2,e1,tb]
theorem SM{ns:Wp Int}(hn:ns.Nodup):∀k,k<=ns.length->XW ns k=ns.take k
 |0,_=>rfl
 |k+1,hk=>by
  have hlt:k<ns.length:=by lia
  show y0 _ (k+1)=_
  rw[PyProof.Rows.firstMet_succ]
  have ih:=SM hn k (by lia)
  change y0 _ k=_ at ih
  rw[ih]
  have eg:ns.getD k 0=ns[k]:=by rw[uY,uN hlt];rfl
  have hno:(ns.take k).any (· ==ns.getD k 0)=false:=by
   rw[Bool.eq_false_iff]
   intro z
   obtain⟨x,hx,e⟩:=List.any_eq_true.mp z
   have e:x=ns.getD k 0:=by simpa using e
   rw[eg]at e
   subst e
   obtain⟨i,hi,ei⟩:=List.mem_iff_getElem.mp hx
   rw[y3]at hi
   rw[AAQ]at ei
   exact List.pairwise_iff_getElem.mp hn i k (by lia) hlt (by lia) ei
  unfold PyProof.Rows.step_dedup
  rw[vL (by rw[hno];decide),eg,yQ,uN hlt]
  rfl
def bF{ns:Wp Int}(hn:ns.Nodup):(XW ns ns.length).length=ns.length:=by rw[SM hn _ (uP _),vI]
noncomputable def PC(is:Wp Nat):Wp D:=is.map λi:Nat=>D.int i
def sP(is:Wp Nat):Jh (PC is)=Gc (is.map λi:Nat=>(i:Int)):=by
 have:=CF (is.map λi:Nat=>(i:Int))
 rw[uh]at this
 exact this
structure iN(t:Tr)(is:Wp Nat):Prop where
 nd:is.Nodup
 lt:∀i∈is,i<t.p
 len:is.length<=4
def fk{is:Wp Nat}(ho:iN t is):CP [AM t ls ds,.tup (PC is)] S=Gc (.non,S):=by
 have hl:=ho.len
 have k1:St.Kd.tup.isA "tuple"=true:=by decide
 have c:=A6 (gs:=[]) (t:=tNm 1) (f:=AB BI [eOp (o2 wIx) [eV 0,eC (.int 0)],eV 1]) (C:=[Gc (AM t ls ds)]) (m:=1) (e:=λi:Nat=>D.int i) (g:=λ_=>D.bl true) (S:=S) AI (xs:=is) (acc:=[]) (os:=[none]) rfl (uH (show _<=50 by simp;lia) (AK (by decide))) (by
  intro i hi os ho'
  obtain⟨x1,rfl⟩:∃x1,os=[x1]:=by
   match os,ho' with
   | [a],_=>exact⟨a,rfl⟩
  have p:=Pk (S:=S) (ho.lt i hi)
  refine⟨[Gc (.int i)],rfl,by simp,?_⟩
  simp[AM,p])
 have al:bls (is.map λ_=>D.bl true)=Gc (is.map λ_=>true):=Mr (λ_:Nat=>true) is
 have aa:(is.map λ_=>true).all id=true:=by simp
 have nd:(is.map λi:Nat=>(i:Int)).Nodup:=ho.nd.map _ λa b hab z=>hab (by exact_mod_cast z)
 have sl:slK (.tup (PC is),S)=Gc (.int (is.length:Int),S):=by
  unfold slK
  simp only
  rw[sP]
  show(if _ then _ else _)=_
  have m:=bF nd
  rw[ux]at m
  rw[vF (by rw[ux];lia),ux,m]
 have es:∀(o:Ev) (E:En) (T:Sto),eSL o E T=(o E T).bind slK:=λ_ _ _=>rfl
 have wl:EB (.val (.tup (PC is)))=Gc (.val (.int is.length)):=by
  show Gc (Wv.val (.int ((PC is).length:Int)))=_
  unfold PC
  rw[ux]
 change BA [] (tNm 1) Ai _ (PC is) [] [Gc (AM t ls ds),none] S=Gc (is.map λ_=>D.bl true,S)at c
 have sq:sqD S (.tup (PC is))=Gc (PC is,[]):=rfl
 have ki:kdW (.val (.tup (PC is)))=Gc St.Kd.tup:=rfl
 generalize AM t ls ds=bk at*
 generalize PC is=OD at*
 generalize is.map (λ_=>D.bl true)=BL at*
 simp[CP,GD,k1,ki,sq,MB,c,al,aa,es,sl,wl]
end
section
variable{S:Sto}{t:Tr}{ls:Wp Ld}{ds:Wp AR}{st:Stt}
def dD{g:Int->Int->Int}{f o k:Ev}{E:En}{q:Nat}{j a c:Int}{m:Nat}{L:Wp D}(h1:f E S=Gc (.ref q,S))(h2:o E S=Gc (.int j,S))(h3:EX S q=Gc L)(h4:ixN L.length j=Gc m)(h5:0<=j)(h6:L[m]?=Gc (.int a))(h7:k E S=Gc (.int c,S)):X8 g f o k E S=Gc (.nx,E,S.set q (.lst (L.set m (.int (g a c))))):=by
 unfold X8
 rw[h1,Au,h2,Au]
 simp only
 rw[h3,Au,h4,Au,vF h5,h6]
 simp only
 rw[h7,Au]
 simp only
 rw[h3,Au,h4]
 rfl
theorem Tq{q r n:Nat}{d:Nat->Int}{L:Wp D}{a0 a1 a2 a3 a5:uM D}(hne:r≠q):∀{is:Wp Nat} {v:Nat->Int} {o6 o7:uM D} {S:Sto},is.Nodup->(∀i∈is,i<n)->S[q]?=Gc (.lst (fnI n v))->S[r]?=Gc (.lst L)->∃u6 u7 S',Jj [(r,L)] (tTp [tNm 6,tNm 7]) (X8 (λi j=>i-j) (eV 4) (eV 6) (eV 7)) (is.map λi:Nat=>D.tup [.int i,.int (d i)]) [a0,a1,a2,a3,Gc (.ref q),a5,o6,o7] S=Gc (.nx,[a0,a1,a2,a3,Gc (.ref q),a5,u6,u7],S')/\S'[q]?=Gc (.lst (fnI n λj=>if j∈is then v j-d j else v j))/\Bh [q] S S'
 | [],v,o6,o7,S,hd,hi,hq,hr=>⟨o6,o7,S,by rw[vM,Fe (λg hg=>by rw[uv.mp hg];exact AN hr)],by simpa using hq,.refl⟩
 |i::is,v,o6,o7,S,hd,hi,hq,hr=>by
  have hin:=hi i uO
  obtain⟨hn,hd'⟩:=wL.mp hd
  have lq:=AV hq
  obtain⟨u6,u7,S',e,c,s⟩:=Tq (q:=q) (r:=r) (n:=n) (d:=d) (L:=L) (a0:=a0) (a1:=a1) (a2:=a2) (a3:=a3) (a5:=a5) hne (is:=is) (v:=λj=>if j=i then v i-d i else v j) (o6:=Gc (.int i)) (o7:=Gc (.int (d i))) (S:=S.set q (.lst (fnI n λj=>if j=i then v i-d i else v j))) hd' (λj hj=>hi j (uL _ hj)) (uX lq) (by rw[uQ (vj hne)];exact hr)
  refine⟨u6,u7,S',?_,?_,.trans (.set (by simp)) s⟩
  .rw[uV,DO (λg hg=>by rw[uv.mp hg];exact AN hr)]
   have ix:ixN (fnI n v).length (i:Int)=Gc i:=Ic (by simpa[fnI]using hin)
   have fs:=bq (v:=v) (z:=v i-d i) hin
   have ag:=dD (S:=S) (g:=λi j=>i-j) (f:=eV 4) (o:=eV 6) (k:=eV 7) (E:=[a0,a1,a2,a3,Gc (.ref q),a5,Gc (.int i),Gc (.int (d i))]) (q:=q) (j:=(i:Int)) (a:=v i) (c:=d i) (m:=i) (L:=fnI n v) (by simp) (by simp) (AN hq) ix (by lia) (Z6 hin) (by simp)
   rw[fs]at ag
   generalize X8 (λi j=>i-j) (eV 4) (eV 6) (eV 7)=AG at*
   simp[ag,e]
  .have:(fnI n λj=>if j∈is then(if j=i then v i-d i else v j)-d j else if j=i then v i-d i else v j)=fnI n λj=>if j∈i::is then v j-d j else v j:=by
    apply KP
    intro j _
    by_cases e1:j=i
    .subst e1;simp[hn]
    .by_cases e2:j∈is
     .simp[e1,e2]
     .simp[e1,e2]
   rw[<-this]
   exact c
def iK{p:Nat}{v:Nat->Int}(hm:∀x∈st.AA,HC t st x)(hp:p<t.p):(fnI st.AA.length λj=>if j∈GK t st p then v j-tkI t st p j else v j)=fnI st.AA.length λj=>v j-tkI t st p j:=by
 apply KP
 intro j hj
 have f0:0<=tkI t st p j:=(hm _ (AU hj)).fl _ (NB hm hp hj)
 by_cases h0:0<tkI t st p j
 .have:j∈GK t st p:=wJ.mpr ⟨vC.mpr hj,by simpa using h0⟩
  rw[vF this]
 .have:j∉GK t st p:=λz=>h0 (by simpa using(wJ.mp z).2)
  rw[vL this]
  lia
def WS{p:Nat}:(GK t st p).Nodup:=List.Pairwise.filter _ List.nodup_range
def Rj{p:Nat}:∀i∈GK t st p,i<st.AA.length:=λi hi=>vC.mp (wJ.mp hi).1
def N6(t:Tr)(st:Stt)(is:Wp Nat)(v:Nat->Int)(j:Nat):Int:=v j-(is.map λp=>tkI t st p j).sum
theorem Nd{q qt:Nat}{LT:Wp D}{a0 a1 a2 a3:uM D}(hm:∀x∈st.AA,HC t st x)(hqt:qt≠q):∀{ps:Wp (Nat×Nat)} {v:Nat->Int} {o5 o6 o7:uM D} {S:Sto},(∀z∈ps,z.1<t.p/\S[z.2]?=Gc (.lst (El t st z.1))/\z.2≠q)->S[q]?=Gc (.lst (fnI st.AA.length v))->S[qt]?=Gc (.lst LT)->∃u5 u6 u7 S',Jj [(qt,LT)] (tNm 5) (Ht (DY (eV 5)) (tTp [tNm 6,tNm 7]) (X8 (λi j=>i-j) (eV 4) (eV 6) (eV 7))) (ps.map λz=>D.ref z.2) [a0,a1,a2,a3,Gc (.ref q),o5,o6,o7] S=Gc (.nx,[a0,a1,a2,a3,Gc (.ref q),u5,u6,u7],S')/\S'[q]?=Gc (.lst (fnI st.AA.length (N6 t st (ps.map (·.1)) v)))/\Bh [q] S S'
 | [],v,o5,o6,o7,S,hz,hq,ht=>⟨o5,o6,o7,S,by rw[vM,Fe (λg hg=>by rw[uv.mp hg];exact AN ht)],by
     have:fnI st.AA.length (N6 t st (List.map (·.1) ([]:Wp (Nat×Nat))) v)=fnI st.AA.length v:=KP λj _=>by simp[N6]
     rw[this];exact hq,.refl⟩
 |(p,r)::ps,v,o5,o6,o7,S,hz,hq,ht=>by
  obtain⟨hp,hr,hrq⟩:=hz (p,r) uO
  obtain⟨u6,u7,S1,e1,c1,s1⟩:=Tq (q:=q) (r:=r) (n:=st.AA.length) (d:=tkI t st p) (L:=El t st p) (a0:=a0) (a1:=a1) (a2:=a2) (a3:=a3) (a5:=Gc (.ref r)) hrq (is:=GK t st p) (v:=v) (o6:=o6) (o7:=o7) (S:=S) WS Rj hq hr
  rw[iK hm hp]at c1
  obtain⟨w5,w6,w7,S2,e2,c2,s2⟩:=Nd hm hqt (LT:=LT) (a0:=a0) (a1:=a1) (a2:=a2) (a3:=a3) (ps:=ps) (v:=λj=>v j-tkI t st p j) (o5:=Gc (.ref r)) (o6:=u6) (o7:=u7) (S:=S1) (λz hz'=>by
   obtain⟨z1,z2,z3⟩:=hz z (uL _ hz')
   exact⟨z1,s1.get z2 (by simpa using z3),z3⟩) c1 (s1.get ht (by simpa using hqt))
  refine⟨w5,w6,w7,S2,?_,?_,s1.trans s2⟩
  .rw[uV,DO (λg hg=>by rw[uv.mp hg];exact AN ht)]
   have sq:=C7 hr
   have er:(GK t st p).map (λi:Nat=>D.tup [.int i,.int (tkI t st p i)])=El t st p:=rfl
   rw[er]at e1
   generalize El t st p=RW at*
   generalize X8 (λi j=>i-j) (eV 4) (eV 6) (eV 7)=AG at*
   simp[sq,e1,e2]
  .have:fnI st.AA.length (N6 t st (ps.map (·.1)) λj=>v j-tkI t st p j)=fnI st.AA.length (N6 t st (((p,r)::ps).map (·.1)) v):=KP λj _=>by
    simp only[N6,uV,uj]
    lia
   rw[<-this]
   exact c2
theorem Zv{qd:Nat}(hm:∀x∈st.AA,HC t st x)(hl:st.AA.length<=20):∀{is:Wp Nat} {acc:Wp D} {o:uM D} {S:Sto},(∀i∈is,i<t.p)->acc.length+is.length<=100->S[qd]?=Gc (.lst (st.AA.map λx=>shD (CK t st x)))->∃(ps:Wp (Nat×Nat)) (S':Sto),BA [] (tNm 1) Ai (AB CM [eV 0,eV 1]) (PC is) acc [Gc (.ref qd),o] S=Gc (acc++ps.map λz=>D.ref z.2,S')/\ps.map (·.1)=is/\(∀z∈ps,S'[z.2]?=Gc (.lst (El t st z.1))/\S.length<=z.2)/\Bh [] S S'
 | [],acc,o,S,hi,hz,hq=>⟨[],S,by
     show BA _ _ _ _ [] _ _ _=_
     rw[Cc AI];simp,rfl,λz hz=>(nomatch hz),.refl⟩
 |i::is,acc,o,S,hi,hz,hq=>by
  have tb:=NX (S:=S) hm hl (hi i uO) hq
  obtain⟨ps,S',e,h1,h2,h3⟩:=Zv hm hl (is:=is) (acc:=acc++[D.ref S.length]) (o:=Gc (.int i)) (S:=S++[.lst (El t st i)]) (λj hj=>hi j (uL _ hj)) (by simp at hz ⊢; lia) (by rw[uK (AV hq)];exact hq)
  have hsz:acc.length<sizeLine:=uI (show acc.length<101 by simp at hz;lia) (AK (by decide))
  refine⟨(i,S.length)::ps,S',?_,by rw[uV,h1],?_,Bh.trans .app h3⟩
  .show BA [] (tNm 1) Ai (AB CM [eV 0,eV 1]) (D.int i::PC is) acc [Gc (.ref qd),o] S=_
   rw[FO AI hsz (E1:=[Gc (.ref qd),Gc (.int i)]) (S1:=S) (by simp) (by simp)]
   have ev:(AB CM [eV 0,eV 1]) [Gc (.ref qd),Gc (.int i)] S=Gc (.ref S.length,S++[.lst (El t st i)]):=by simp[tb]
   rw[ev,Au,e]
   simp
  .intro z hz'
   rcases uS.mp hz' with rfl|hz'
   .exact⟨h3.get uZ (by simp),uP _⟩
   .have:=h2 z hz'
    exact⟨this.1,uH (by simp) this.2⟩
def nS(hl:st.AA.length<=20):BA [] (tTp [tNm 0,tNm 1]) Ai (eV 1) (st.AA.map hD) [] [none,none] S=Gc (fnI st.AA.length (λj=>(AL st.AA j).n),S):=by
 have k0:=A6 (gs:=[]) (t:=tTp [tNm 0,tNm 1]) (f:=eV 1) (C:=[]) (m:=2) (e:=hD) (g:=λx=>D.int x.n) (S:=S) AI (xs:=st.AA) (acc:=[]) (os:=[none,none]) rfl (uH (show _<=50 by simp;lia) (AK (by decide))) (by
  intro x hx os ho
  obtain⟨x1,x2,rfl⟩:∃x1 x2,os=[x1,x2]:=by
   match os,ho with
   | [a,b],_=>exact⟨a,b,rfl⟩
  exact⟨[Gc (.int x.k),Gc (.int x.n)],rfl,by simp[hD],by simp⟩)
 rw[<-MS (λx=>D.int x.n)]at k0
 exact k0
def RO(t:Tr)(st:Stt)(is:Wp Nat):Wp D:=fnI st.AA.length (N6 t st is λj=>(AL st.AA j).n)
def UN{is:Wp Nat}(h:Ah t ls ds)(hh:HOk t)(hst:runs t (st0 t ls) ds=st)(hm:∀x∈st.AA,HC t st x)(ho:iN t is):∃(qt:Nat) (ps:Wp (Nat×Nat)) (S':Sto),Fw [AM t ls ds,.tup (PC is)] S=Gc (.tup [.ref qt,.tup (RO t st is)],S')/\S'[qt]?=Gc (.lst (ps.map λz=>D.ref z.2))/\ps.map (·.1)=is/\(∀z∈ps,S'[z.2]?=Gc (.lst (El t st z.1)))/\Bh [] S S'/\S.length<=qt:=by
 have r1:=Dk (S:=S) h
 have r2:=fk (S:=S) (ls:=ls) (ds:=ds) ho
 obtain⟨qd,S1,e1,c1,s1,l1⟩:=Fp (S:=S) h hh
 have hlen:=h.fin.len
 rw[hst]at c1 hlen
 have hil:=ho.len
 obtain⟨ps,S2,e2,p1,p2,s2⟩:=Zv hm (by lia) (is:=is) (acc:=[]) (o:=none) (S:=S1) ho.lt (by simp;lia) c1
 have hb:=Iz (S:=S2++[Cl.lst (ps.map λz=>D.ref z.2)]) h (n:=ds.length) (uP _)
 rw[vI,hst]at hb
 have hc:=nS (S:=S2++[Cl.lst (ps.map λz=>D.ref z.2)]) (st:=st) (by lia)
 have lq:(S2++[Cl.lst (ps.map λz=>D.ref z.2)]).length=S2.length+1:=by simp
 have g1:(S2++[Cl.lst (ps.map λz=>D.ref z.2)]++[Cl.lst (fnI st.AA.length λj=>(AL st.AA j).n)])[S2.length+1]?=Gc (.lst (fnI st.AA.length λj=>(AL st.AA j).n)):=by
  rw[<-lq];exact uZ
 have g2:(S2++[Cl.lst (ps.map λz=>D.ref z.2)]++[Cl.lst (fnI st.AA.length λj=>(AL st.AA j).n)])[S2.length]?=Gc (.lst (ps.map λz=>D.ref z.2)):=by
  rw[uK (by simp)];exact uZ
 have g3:∀z∈ps,z.1<t.p/\(S2++[Cl.lst (ps.map λz=>D.ref z.2)]++[Cl.lst (fnI st.AA.length λj=>(AL st.AA j).n)])[z.2]?=Gc (.lst (El t st z.1))/\z.2≠S2.length+1:=λz hz=>by
  have w:=(p2 z hz).1
  have lw:=AV w
  refine⟨ho.lt _ (by rw[<-p1];exact uo.mpr ⟨z,hz,rfl⟩),?_,by lia⟩
  rw[uK (by simp;lia),uK lw]
  exact w
 obtain⟨u5,u6,u7,S3,e3,c3,s3⟩:=Nd (q:=S2.length+1) (qt:=S2.length) (LT:=ps.map λz=>D.ref z.2) (a0:=Gc (AM t ls ds)) (a1:=Gc (.tup (PC is))) (a2:=Gc (.ref qd)) (a3:=Gc (.ref S2.length)) hm (by lia) (ps:=ps) (v:=λj=>(AL st.AA j).n) (o5:=none) (o6:=none) (o7:=none) g3 g1 g2
 rw[p1]at c3
 change _=Gc (Cl.lst (RO t st is))at c3
 refine⟨S2.length,ps,S3,?_,s3.get g2 (by simp),p1,λz hz=>s3.get (g3 z hz).2.1 (by simpa using(g3 z hz).2.2),?_,uH s1.len s2.len⟩
 .have sq:=C7 g2
  have so:∀T,sqD T (.tup (PC is))=Gc (PC is,[]):=λ_=>rfl
  have sh:∀T,sqD T (Aw st.AA)=Gc (st.AA.map hD,[]):=λ_=>rfl
  have d3:=Aq c3
  simp only[ur]at e2
  generalize hHD:Aw st.AA=HD at*
  generalize st.AA.map hD=HL at*
  generalize (ps.map λz=>D.ref z.2)=RF at*
  generalize (fnI st.AA.length λj=>(AL st.AA j).n)=F0 at*
  generalize RO t st is=F1 at*
  generalize PC is=OD at*
  generalize hAG:X8 (λi j=>i-j) (eV 4) (eV 6) (eV 7)=AG at*
  simp only[AM]at r1 r2 e1 hb e3⊢
  simp only[yL,vD,ur]at sq e3
  simp[Fw,Me,r1,r2,e1,so,MB,e2,hb,sh,hc,sq,hAG,e3,d3]
 .have l2:=s2.len
  have l1:=s1.len
  have l3:=s3.len
  simp at l3
  refine⟨by lia,λn hn _=>?_⟩
  rw[s3.keep n (by simp;lia) (by simp;lia),uK (by simp;lia),uK (by lia),s2.keep n (by lia) (by simp)]
  exact s1.keep n hn (by simp)
end
noncomputable def L9(ls:Wp Ld)(p:Nat)(ws:Wp Int):Wp Rat:=ls.map λx=>((x.n*ws.getD x.k 0:Int):Rat)*x.ow.getD p 0
noncomputable def brI(p:Nat)(ws:Wp Int):AR->uM Int
 | .Bj q k n=>if q=p then Gc (n*ws.getD k 0)else none
 |_=>none
noncomputable def br(p:Nat)(ws:Wp Int)(ds:Wp AR):Wp Int:=ds.filterMap (brI p ws)
noncomputable def Kx(ls:Wp Ld)(ds:Wp AR)(p:Nat)(ws:Wp Int):Rat:=(L9 ls p ws).sum+((br p ws ds).sum:Int)
structure Pri(t:Tr)(ws:Wp Int):Prop where
 len:ws.length=t.k
 rng:∀w∈ws,1<=w/\w<=99
theorem MC:∀{xs:Wp Int},(xs.map λi:Int=>(i:Rat)).sum=((xs.sum:Int):Rat)
 | []=>by simp
 |x::xs=>by
  rw[uV,uj,uj,MC]
  push_cast
  rfl
section
variable{S:Sto}{t:Tr}{ls:Wp Ld}{ds:Wp AR}{p:Nat}{ws:Wp Int}
theorem Iq:∀{ds:Wp AR} {st:Stt},JF t st ds->∀q k n,AR.Bj q k n∈ds->k<t.k/\1<=n/\n<2^131
 | [],st,h,q,k,n,hm=>by cases hm
 |d::ds,st,h,q,k,n,hm=>by
  rcases uS.mp hm with e|e
  .subst e
   have:=h.1
   exact⟨this.2.1,this.2.2.1,this.2.2.2⟩
  .exact Iq h.2 q k n e
def w99{w:Int}{n:Int}(h1:1<=w)(h2:w<=99)(n0:0<=n)(n1:n<2^131):0<=n*w/\n*w<=((2^138:Nat):Int):=by
 refine⟨AAB n0 (by lia),?_⟩
 have:n*w<=2^131*99:=ABJ (by lia) h2 (by lia) (by decide)
 exact AAw this (by decide)
def mn(h:Ah t ls ds)(hw:Pri t ws):∀i∈br p ws ds,0<=i/\i<=((2^138:Nat):Int):=by
 intro i hi
 obtain⟨d,hd,e⟩:=zk.mp hi
 cases d with
 |Bj q k n=>
  simp only[brI]at e
  split at e
  .cases e
   have g:=Iq h.good q k n hd
   have w:=GJ hw.rng (i:=k) (by rw[hw.len];exact g.1)
   exact w99 w.1 w.2 (by lia) g.2.2
  .cases e
 |_=>cases e
def U1(h:Ah t ls ds)(hw:Pri t ws):0<=(br p ws ds).sum/\(br p ws ds).sum<=16*((2^138:Nat):Int):=by
 have b:=TZ (M:=((2^138:Nat):Int)) (by decide) (mn (p:=p) h hw)
 have l:(br p ws ds).length<=16:=uH (List.length_filterMap_le _ _) h.len
 refine⟨b.1,AAw b.2 (xw (by lia) (by decide))⟩
def WX(h:Ah t ls ds)(hw:Pri t ws)(hp:p<t.p):∃G B:Nat,0<G/\G<=B/\B<2^2750/\∀r∈L9 ls p ws,Ok G (B*2^138) r:=by
 obtain⟨G,B,g0,gb,bb,k1,k2⟩:=h.inv.gb
 refine⟨G,B,g0,gb,bb,λr hr=>?_⟩
 obtain⟨x,hx,rfl⟩:=uo.mp hr
 have px:=h.pc0 x hx
 have kx:=h.inv.kind x hx
 have w:=GJ hw.rng (i:=x.k) (by rw[hw.len];exact kx)
 have b:=w99 w.1 w.2 px.1 px.2
 exact(k1 x hx _ (getD_mem (by rw[h.inv.own x hx];exact hp))).bX b.1 b.2
def UJ(h:Ah t ls ds)(hw:Pri t ws)(hp:p<t.p){x:Ld}(hx:x∈ls):C8 x.n (ws.getD x.k 0)=true/\atI (ws.map D.int) (x.k:Int)=Gc (.int (ws.getD x.k 0))/\atI (x.ow.map aD) (p:Int)=Gc (aD (x.ow.getD p 0))/\Sz 139 ((x.n*ws.getD x.k 0:Int):Rat)/\Sz 2750 (x.ow.getD p 0):=by
 have px:=h.pc0 x hx
 have kx:=h.inv.kind x hx
 have ox:=h.inv.own x hx
 have hk:x.k<ws.length:=by rw[hw.len];exact kx
 have w:=GJ hw.rng hk
 have b:=w99 w.1 w.2 px.1 px.2
 have hpx:p<x.ow.length:=by rw[ox];exact hp
 refine⟨mulR (by lia) (by lia),KH hk,Na hpx,IH (EC b.1 (v7 b.2 (by decide))) (by decide),h.inv.sz.1 x hx _ (getD_mem hpx)⟩
def WG(h:Ah t ls ds)(hw:Pri t ws)(hp:p<t.p):JB [AM t ls ds,.int p,.tup (ws.map D.int)] S=Gc (aD (Kx ls ds p ws),S):=by
 have hl0:ls.length<=4:=h.four
 have hd:=h.len
 have c1:=A6 (gs:=[]) (t:=tTp [tNm 2,tNm 3,tNm 4]) (f:=AB BJ [BM [eOp (o2 BH) [eV 3,eOp (o2 wIx) [eV 1,eV 2]],eC (.int 1)],eOp (o2 wIx) [eV 4,eV 0]]) (C:=[Gc (.int p),Gc (.tup (ws.map D.int))]) (m:=3) (e:=Ld.d) (g:=λx=>aD (((x.n*ws.getD x.k 0:Int):Rat)*x.ow.getD p 0)) (S:=S) AI (xs:=ls) (acc:=[]) (os:=[none,none,none]) rfl (uH (show _<=50 by simp;lia) (AK (by decide))) (by
  intro x hx os ho
  obtain⟨q1,q2,q3,rfl⟩:∃q1 q2 q3,os=[q1,q2,q3]:=by
   match os,ho with
   | [a,b,c],_=>exact⟨a,b,c,rfl⟩
  obtain⟨m1,w1,a1,z1,z2⟩:=UJ h hw hp hx
  have l:=NU (S:=S) z1 z2 (by decide)
  rw[G9]at l
  refine⟨[Gc (.int x.k),Gc (.int x.n),Gc (shD x.ow)],rfl,by simp[Ld.d],?_⟩
  generalize ws.getD x.k 0=wz at*
  generalize aD (((x.n*wz:Int):Rat)*x.ow.getD p 0)=R at*
  generalize aD (x.ow.getD p 0)=R2 at*
  simp[w1,m1,a1,l])
 have e1:ls.map (λx=>aD (((x.n*ws.getD x.k 0:Int):Rat)*x.ow.getD p 0))=(L9 ls p ws).map aD:=by
  unfold L9;rw[uh];rfl
 rw[e1]at c1
 simp only[vD,ur]at c1
 have c2:∀{es:Wp AR} {acc:Wp D} {o:uM D},(∀d∈es,d∈ds)->acc.length+es.length<=100->BA [] (tNm 2) (FQ (eOp (o2 wEq) [eOp (o2 wIx) [eV 2,eC (.int 0)],eC (.str "bring")]) (eOp (o2 wEq) [eOp (o2 wIx) [eV 2,eC (.int 1)],eV 0])) (eOp (o2 BH) [eOp (o2 wIx) [eV 2,eC (.int 3)],eOp (o2 wIx) [eV 1,eOp (o2 wIx) [eV 2,eC (.int 2)]]]) (es.map AR.d) acc [Gc (.int p),Gc (.tup (ws.map D.int)),o] S=Gc (acc++(br p ws es).map D.int,S):=by
  intro es
  induction es with
  |nil=>intro acc o _ _;rw[vM,Cc AI];simp[br]
  |cons d es ih=>
   intro acc o hm hz
   have hs:acc.length<sizeLine:=uI (show acc.length<101 by simp at hz;lia) (AK (by decide))
   have tt:tNm 2 d.d [Gc (.int p),Gc (.tup (ws.map D.int)),o] S=Gc [Gc (.int p),Gc (.tup (ws.map D.int)),Gc d.d]:=by simp
   have ih':=λ{acc:Wp D} (hz:acc.length+es.length<=100)=>ih (acc:=acc) (o:=Gc d.d) (λx hx=>hm x (uL _ hx)) hz
   rw[uV]
   cases d with
   |Bj q k n=>
    have g:=Iq h.good q k n (hm _ uO)
    have hk:k<ws.length:=by rw[hw.len];exact g.1
    have w:=GJ hw.rng hk
    have aw:=KH hk
    have mo:C8 n (ws.getD k 0)=true:=mulR (by lia) (by lia)
    by_cases e:q=p
    .have e':((q:Int)==(p:Int))=true:=by simp[e]
     have eb:br p ws (.Bj q k n::es)=(n*ws.getD k 0)::br p ws es:=by simp[br,brI,e]
     rw[eb]
     generalize ws.getD k 0=wz at*
     rw[FO AI hs tt (S1:=S) (by simp[AR.d,e'])]
     have ev:eOp (o2 BH) [eOp (o2 wIx) [eV 2,eC (.int 3)],eOp (o2 wIx) [eV 1,eOp (o2 wIx) [eV 2,eC (.int 2)]]] [Gc (.int p),Gc (.tup (ws.map D.int)),Gc (AR.Bj q k n).d] S=Gc (.int (n*wz),S):=by simp[AR.d,aw,mo]
     rw[ev,Au,ih' (by simp at hz ⊢; lia)]
     simp
    .have e':((q:Int)==(p:Int))=false:=by simp;lia
     have eb:br p ws (.Bj q k n::es)=br p ws es:=by simp[br,brI,e]
     rw[eb,CD AI hs tt (S1:=S) (by simp[AR.d,e']),ih' (by simp at hz ⊢; lia)]
   |Ik=>rw[CD AI hs tt (S1:=S) (by simp[AR.d]),ih' (by simp at hz ⊢; lia)];rfl
   |swap=>rw[CD AI hs tt (S1:=S) (by simp[AR.d]),ih' (by simp at hz ⊢; lia)];rfl
   |C0=>rw[CD AI hs tt (S1:=S) (by simp[AR.d]),ih' (by simp at hz ⊢; lia)];rfl
   |EN=>rw[CD AI hs tt (S1:=S) (by simp[AR.d]),ih' (by simp at hz ⊢; lia)];rfl
   |thr=>rw[CD AI hs tt (S1:=S) (by simp[AR.d]),ih' (by simp at hz ⊢; lia)];rfl
   |HP=>rw[CD AI hs tt (S1:=S) (by simp[AR.d]),ih' (by simp at hz ⊢; lia)];rfl
 have c2':=c2 (es:=ds) (acc:=[]) (o:=none) (λ_ z=>z) (by simp;lia)
 simp only[ur]at c2'
 obtain⟨G,B,g0,gb,bb,ko⟩:=WX h hw hp
 have hlen:(L9 ls p ws).length<=4:=by simpa[L9]using hl0
 have b4:(L9 ls p ws).length*(B*2^138)<2^2900:=by
  have h1:(L9 ls p ws).length*(B*2^138)<=4*(2^2750*2^138):=v5 hlen (ui _ (by lia))
  exact ug h1 (by decide)
 have gK:G<2^2900:=ug gb (wm bb (by decide))
 have tt:=PY (S:=S) (rs:=L9 ls p ws) g0 gK (by decide) ko b4
 have zt:Sz 2900 (L9 ls p ws).sum:=by
  have:Ok G ((L9 ls p ws).length*(B*2^138)) (L9 ls p ws).sum:=Ok.sum ko
  exact this.sz g0 gK b4
 have bs:=U1 (p:=p) h hw
 have zb:Sz 143 (((br p ws ds).sum:Int):Rat):=IH (EC bs.1 (v7 bs.2 (by decide))) (by decide)
 have pl:=Wr (S:=S) zt zb (by decide)
 rw[G9]at pl
 have es:=CF (br p ws ds)
 show _=Gc (aD ((L9 ls p ws).sum+((br p ws ds).sum:Int)),S)
 generalize aD ((L9 ls p ws).sum+((br p ws ds).sum:Int))=R at*
 generalize aD (L9 ls p ws).sum=R2 at*
 simp[JB,OM,AM,c1,c2',tt,es,pl]
end
section
variable{S:Sto}{t:Tr}{ls:Wp Ld}{ds:Wp AR}{p:Nat}{ws:Wp Int}
noncomputable def BD(t:Tr)(st:Stt)(p:Nat)(ws:Wp Int):Wp Rat:=st.AA.map λx=>((ws.getD x.k 0:Int):Rat)*(CK t st x).getD p 0
def RL{st:Stt}{x:Ld}(h1:x.ow.length=t.p)(h2:st.hold.length=t.p):(CK t st x).length=t.p:=by
 unfold CK Lz
 rw[ux,Pu,Dt h1 h2]
def QC(h:Ah t ls ds)(hh:HOk t)(hw:Pri t ws)(hp:p<t.p):∃G B:Nat,0<G/\G<2^2760/\B<2^2910/\(∀x∈(runs t (st0 t ls) ds).AA,Ok G B ((CK t (runs t (st0 t ls) ds) x).getD p 0))/\∀r∈BD t (runs t (st0 t ls) ds) p ws,Ok G (B*99) r:=by
 have inv:=h.fin
 obtain⟨G,B,g0,gb,bb,k1,k2⟩:=inv.gb
 generalize runs t (st0 t ls) ds=st at*
 have due:∀x∈st.AA,Ok (G*10) (B*10*2^147) ((CK t st x).getD p 0):=λx hx=>by
  have px:=inv.pcs x hx
  have e:((2^147:Nat):Int)=2^(131+16):=by decide
  have h2:x.n<=((2^147:Nat):Int):=by rw[e];exact xF px.2
  exact TU hh (k1 x hx) k2 px.1 h2 _ (getD_mem (by rw[RL (inv.own x hx) inv.hold];exact hp))
 have g10:G*10<2^(30+170*16+4):=Ap (ug gb bb) (by decide)
 have b10:B*10<2^(30+170*16+4):=Ap bb (by decide)
 have b11:B*10*2^147<2^(30+170*16+4+148):=Ap b10 (by decide)
 refine⟨G*10,B*10*2^147,xy g0 (by decide),uI g10 (A7 (by decide)),uI b11 (A7 (by decide)),due,λr hr=>?_⟩
 obtain⟨x,hx,rfl⟩:=uo.mp hr
 have w:=GJ hw.rng (i:=x.k) (by rw[hw.len];exact inv.kind x hx)
 exact(due x hx).bX (by lia) (by lia)
def Qg(h:Ah t ls ds)(hh:HOk t)(hw:Pri t ws)(hp:p<t.p):(∀S,CB [.lst ((BD t (runs t (st0 t ls) ds) p ws).map aD)] S=Gc (aD (BD t (runs t (st0 t ls) ds) p ws).sum,S))/\(∀S,CZ [.lst ((BD t (runs t (st0 t ls) ds) p ws).map aD)] S=Gc (aD (BD t (runs t (st0 t ls) ds) p ws).sum,S))/\Sz 2930 (BD t (runs t (st0 t ls) ds) p ws).sum:=by
 obtain⟨G,B,g0,gk,bk,_,ko⟩:=QC h hh hw hp
 have inv:=h.fin
 have hl:(BD t (runs t (st0 t ls) ds) p ws).length<=20:=by simpa[BD]using inv.len
 have b:(BD t (runs t (st0 t ls) ds) p ws).length*(B*99)<2^2930:=by
  have h1:(BD t (runs t (st0 t ls) ds) p ws).length*(B*99)<=20*(B*99):=ui _ hl
  have h2:B*1980<2^(2910+11):=Ap bk (by decide)
  have h3:2^(2910+11)<=2^2930:=A7 (by decide)
  have:20*(B*99)=B*1980:=by lia
  lia
 have gk':G<2^2930:=uI gk (A7 (by decide))
 exact⟨λS=>PY g0 gk' (by decide) ko b,λS=>WA g0 gk' (by decide) ko b,(Ok.sum ko).sz g0 gk' b⟩
def US(h:Ah t ls ds)(hh:HOk t)(hw:Pri t ws)(hp:p<t.p){x:Ld}(hx:x∈(runs t (st0 t ls) ds).AA):atI (ws.map D.int) (x.k:Int)=Gc (.int (ws.getD x.k 0))/\Sz 7 ((ws.getD x.k 0:Int):Rat)/\Sz 2910 ((CK t (runs t (st0 t ls) ds) x).getD p 0)/\atI ((CK t (runs t (st0 t ls) ds) x).map aD) (p:Int)=Gc (aD ((CK t (runs t (st0 t ls) ds) x).getD p 0)):=by
 obtain⟨G,B,g0,gk,bk,due,_⟩:=QC h hh hw hp
 have inv:=h.fin
 have hk:x.k<ws.length:=by rw[hw.len];exact inv.kind x hx
 have w:=GJ hw.rng hk
 refine⟨KH hk,IH (show _<128 by lia) (by decide),(due x hx).sz g0 (uI gk (A7 (by decide))) bk,Na (by rw[RL (inv.own x hx) inv.hold];exact hp)⟩
def Oy(h:Ah t ls ds)(hh:HOk t)(hw:Pri t ws)(hp:p<t.p):∃S',DV [AM t ls ds,.int p,.tup (ws.map D.int)] S=Gc (aD (BD t (runs t (st0 t ls) ds) p ws).sum,S')/\Bh [] S S':=by
 have hb:=Iz (S:=S) h (n:=ds.length) (uP _)
 rw[vI]at hb
 obtain⟨q,S1,e1,c1,s1,_⟩:=Fp (S:=S) h hh
 have tt:=(Qg h hh hw hp).1
 have bits:=λ{x:Ld} hx=>US (x:=x) h hh hw hp hx
 have inv:=h.fin
 have hlen:=inv.len
 generalize runs t (st0 t ls) ds=st at*
 have ez:JC (st.AA.map hD) (st.AA.map λx=>shD (CK t st x))=st.AA.map λx=>.tup [hD x,shD (CK t st x)]:=by
  unfold JC
  rw[yI,uh]
  rfl
 have cc:=A6 (gs:=[(q,st.AA.map λx=>shD (CK t st x))]) (t:=tTp [tTp [tNm 3,tNm 4],tNm 2]) (f:=AB BJ [BM [eOp (o2 wIx) [eV 1,eV 3],eC (.int 1)],eOp (o2 wIx) [eV 2,eV 0]]) (C:=[Gc (.int p),Gc (.tup (ws.map D.int))]) (m:=3) (e:=λx:Ld=>D.tup [hD x,shD (CK t st x)]) (g:=λx=>aD (((ws.getD x.k 0:Int):Rat)*(CK t st x).getD p 0)) (S:=S1) (λg hg=>by rw[uv.mp hg];exact AN c1) (xs:=st.AA) (acc:=[]) (os:=[none,none,none]) rfl (uH (show _<=50 by simp;lia) (AK (by decide))) (by
  intro x hx os ho
  obtain⟨q1,q2,q3,rfl⟩:∃q1 q2 q3,os=[q1,q2,q3]:=by
   match os,ho with
   | [a,b,c],_=>exact⟨a,b,c,rfl⟩
  obtain⟨w1,z1,z2,a2⟩:=bits hx
  have l:=NU (S:=S1) z1 z2 (by decide)
  rw[G9]at l
  refine⟨[Gc (shD (CK t st x)),Gc (.int x.k),Gc (.int x.n)],rfl,by simp,?_⟩
  generalize aD (((ws.getD x.k 0:Int):Rat)*(CK t st x).getD p 0)=R at*
  generalize aD ((CK t st x).getD p 0)=R2 at*
  generalize ws.getD x.k 0=wz at*
  simp[w1,a2,l])
 have e2:st.AA.map (λx=>aD (((ws.getD x.k 0:Int):Rat)*(CK t st x).getD p 0))=(BD t st p ws).map aD:=by
  unfold BD;rw[uh];rfl
 rw[e2,<-ez]at cc
 simp only[vD,ur]at cc
 refine⟨S1,?_,s1⟩
 have sqh:∀T:Sto,sqD T (Aw st.AA)=Gc (st.AA.map hD,[]):=λ_=>rfl
 simp only[AM]at hb e1⊢
 have tt':=tt S1
 generalize aD (BD t st p ws).sum=R at*
 simp[DV,Gv,hb,e1,sqh,C7 c1,cc,tt']
end
section
variable{S:Sto}{t:Tr}{ls:Wp Ld}{ds:Wp AR}{p:Nat}{ws vs:Wp Int}
def QY(hw:Pri t ws)(hk:t.k<=5):Bg [AM t ls ds,.tup (ws.map D.int)] S=Gc (.non,S):=by
 have k1:St.Kd.int.isA "int"=true:=by decide
 have k2:St.Kd.int.isA "bool"=false:=by decide
 have k3:St.Kd.tup.isA "tuple"=true:=by decide
 have c:=A6 (gs:=[]) (t:=tNm 0) (f:=AB AX [eV 0,eC (.int 1),eC (.int 99)]) (C:=[]) (m:=1) (e:=D.int) (g:=λ_=>D.bl true) (S:=S) AI (xs:=ws) (acc:=[]) (os:=[none]) rfl (uH (show _<=50 by simp[hw.len];lia) (AK (by decide))) (by
  intro w hw' os ho
  obtain⟨o,rfl⟩:∃o,os=[o]:=by
   match os,ho with
   | [a],_=>exact⟨a,rfl⟩
  have r:=hw.rng w hw'
  refine⟨[Gc (.int w)],rfl,by simp,?_⟩
  simp[AX,Bx,BP,Dz,Bn,Cs,kdW,k1,k2,r.1,r.2])
 have b:=Mr (λ_:Int=>true) ws
 simp only[ur]at c
 have hl:=hw.len
 have hall:((ws.map λ_:Int=>true).all id)=true:=by
  rw[List.all_map,List.all_eq_true]
  intro x _;rfl
 generalize ws.map (λ_:Int=>D.bl true)=B at*
 generalize ws.map (λ_:Int=>true)=B2 at*
 simp[Bg,FP,Ci,Gj,Aa,Bq,AM,Tr.d,kdW,k3,hl,c,b,hall]
noncomputable def Q6(t:Tr)(g:Rat):Rat:=if g.num<=0 then 0 else g*((t.l:Rat) / ((10:Int):Rat))
noncomputable def qc(t:Tr)(ls:Wp Ld)(ds:Wp AR)(p:Nat)(ws vs:Wp Int):D:=.tup [aD (Kx ls ds p ws),aD (BD t (runs t (st0 t ls) ds) p vs).sum,aD ((BD t (runs t (st0 t ls) ds) p vs).sum-Kx ls ds p ws),aD (Q6 t ((BD t (runs t (st0 t ls) ds) p vs).sum-Kx ls ds p ws))]
def eW(h:Ah t ls ds)(hw:Pri t ws)(hp:p<t.p):Sz 3044 (Kx ls ds p ws):=by
 have hl0:ls.length<=4:=h.four
 obtain⟨G,B,g0,gb,bb,ko⟩:=WX h hw hp
 have hlen:(L9 ls p ws).length<=4:=by simpa[L9]using hl0
 have b4:(L9 ls p ws).length*(B*2^138)<2^2900:=by
  have h1:(L9 ls p ws).length*(B*2^138)<=4*(2^2750*2^138):=v5 hlen (ui _ (by lia))
  exact ug h1 (by decide)
 have gK:G<2^2900:=ug gb (wm bb (by decide))
 have zt:Sz 2900 (L9 ls p ws).sum:=(Ok.sum ko).sz g0 gK b4
 have bs:=U1 (p:=p) h hw
 have zb:Sz 143 (((br p ws ds).sum:Int):Rat):=IH (EC bs.1 (v7 bs.2 (by decide))) (by decide)
 exact Zl zt zb
def iz{g:Rat}(hh:HOk t)(hg:Sz 6200 g):Fg [t.d,aD g] S=Gc (aD (Q6 t g),S):=by
 obtain⟨_,_,a3,a4⟩:=hh
 have l:=Rt (S:=S) (t:=t.l) (b:=10) (by decide) (D8 (by decide) (by decide))
 have z:=rX (n:=t.l) a3 (by lia)
 have tm:=NU (S:=S) hg z (by decide)
 by_cases h:g.num<=0
 .have e:Q6 t g=0:=vF h
  rw[e,LH]
  have ag:atI [D.int g.num,.int g.den] 0=Gc (.int g.num):=by simp
  show Fg [t.d,.tup [.int g.num,.int g.den]] S=_
  simp[Fg,K3,h,Ce]
 .have e:Q6 t g=g*((t.l:Rat) / ((10:Int):Rat)):=vL h
  rw[e]
  generalize aD (g*((t.l:Rat) / ((10:Int):Rat)))=R at*
  generalize aD ((t.l:Rat) / ((10:Int):Rat))=R2 at*
  simp only[aD]at tm⊢
  simp[Fg,K3,Tr.d,h,l,tm]
def UR(h:Ah t ls ds)(hh:HOk t)(hw:Pri t ws)(hv:Pri t vs)(hp:p<t.p):∃S',Bl [AM t ls ds,.int p,.tup (ws.map D.int),.tup (vs.map D.int)] S=Gc (qc t ls ds p ws vs,S')/\Bh [] S S':=by
 have r1:=Dk (S:=S) h
 have r2:=Il (S:=S) (ls:=ls) (ds:=ds) hp
 have r3:=QY (S:=S) (ls:=ls) (ds:=ds) hw h.tr.2.2.2.1
 have r4:=QY (S:=S) (ls:=ls) (ds:=ds) hv h.tr.2.2.2.1
 have e1:=WG (S:=S) h hw hp
 obtain⟨S1,e2,s1⟩:=Oy (S:=S) h hh hv hp
 have zp:=eW h hw hp
 have zw:=(Qg h hh hv hp).2.2
 have l:=b0 (S:=S1) zw zp (by decide)
 have zg:=aH zw zp
 have c:=iz (S:=S1) hh (zg.mono (by decide))
 refine⟨S1,?_,s1⟩
 unfold qc
 generalize aD (Q6 t ((BD t (runs t (st0 t ls) ds) p vs).sum-Kx ls ds p ws))=R1 at*
 generalize aD ((BD t (runs t (st0 t ls) ds) p vs).sum-Kx ls ds p ws)=R2 at*
 generalize aD (BD t (runs t (st0 t ls) ds) p vs).sum=R3 at*
 generalize aD (Kx ls ds p ws)=R4 at*
 have dt:∀T:Sto,dr T t.d=.val t.d:=λ_=>rfl
 simp only[AM]at r1 r2 r3 r4 e1 e2⊢
 simp[Bl,JJ,r1,r2,r3,r4,e1,e2,l,c]
end
def OkZ(G B:Nat)(r:Rat):Prop:=∃z:Int,r*(G:Rat)=(z:Rat)/\z.natAbs<=B
section
variable{G B C K:Nat}{r q:Rat}{S:Sto}
def OkZ.sz(h:OkZ G B r)(hG:0<G)(g:G<2^K)(b:B<2^K):Sz K r:=by
 obtain⟨z,e,hz⟩:=h
 have e2:r=(z:Rat) / ((G:Int):Rat):=by
  have:=LQ hG
  rw[show(((G:Nat):Int):Rat)=(G:Rat)from rfl,<-e]
  grind
 rw[e2]
 exact Kh (by lia) (ug hz b) (by simpa using g)
def OkZ.zero:OkZ G B 0:=⟨0,by simp,vZ _⟩
def OkZ.add(h:OkZ G B r)(g:OkZ G C q):OkZ G (B+C) (r+q):=by
 obtain⟨z,e1,h1⟩:=h
 obtain⟨y,e2,h2⟩:=g
 exact⟨z+y,by rw[Rat.add_mul,e1,e2,Rat.intCast_add],uH (AAO _ _) (z9 h1 h2)⟩
def OkZ.sub(h:OkZ G B r)(g:OkZ G C q):OkZ G (B+C) (r-q):=by
 obtain⟨z,e1,h1⟩:=h
 obtain⟨y,e2,h2⟩:=g
 exact⟨z-y,by rw[ABl,Rat.add_mul,Rat.neg_mul,e1,e2,Int.sub_eq_add_neg,Rat.intCast_add,Rat.intCast_neg],uH (AAP _ _) (z9 h1 h2)⟩
def Ok.toZ(h:Ok G B r):OkZ G B r:=by
 obtain⟨z,e1,h1⟩:=h
 exact⟨z,e1,by lia⟩
def OkZ.up{T B':Nat}(h:OkZ G B r)(hT:B*T<=B'):OkZ (G*T) B' r:=by
 obtain⟨z,e1,h1⟩:=h
 refine⟨z*T,?_,?_⟩
 .push_cast
  rw[<-e1]
  grind
 .rw[wt,v3]
  exact uH (ui _ h1) hT
def OkZ.mono(h:OkZ G B r)(g:B<=C):OkZ G C r:=by
 obtain⟨z,e1,h1⟩:=h
 exact⟨z,e1,uH h1 g⟩
def OkZ.oK{l:Int}(h:OkZ G B r)(h0:0<=l)(h1:l<=9):OkZ (G*10) (B*9) (r*((l:Rat) / ((10:Int):Rat))):=by
 obtain⟨z,e1,h2⟩:=h
 refine⟨z*l,?_,?_⟩
 .push_cast
  rw[<-e1]
  grind
 .rw[wt]
  exact v5 h2 (by lia)
theorem P6(hG:0<G)(gK:G<2^K)(hK:2*K<=7990){X:uM D}:∀{rs:Wp Rat} {acc:Rat} {m:Nat} {o:uM D},OkZ G (m*B) acc->(∀r∈rs,OkZ G B r)->(m+rs.length)*B<2^K->∃o',Jj [] (tNm 2) (A9 1 (AB Ak [eV 1,eV 2])) (rs.map aD) [X,Gc (aD acc),o] S=Gc (.nx,[X,Gc (aD (acc+rs.sum)),o'],S)
 | [],acc,m,o,ha,hr,hb=>⟨o,by
     rw[vM,Fe AI,zY]
     have:acc+0=acc:=by grind
     rw[this]⟩
 |r::rs,acc,m,o,ha,hr,hb=>by
  have h1:=hr r uO
  have b1:(m+1)*B<=(m+(r::rs).length)*B:=ui _ (by simp)
  have mb:(m+1)*B=m*B+B:=by rw[yt]
  have e:=H0 (S:=S) (ha.sz hG gK (by lia)) (h1.sz hG gK (by lia)) (by lia)
  have ha2:OkZ G ((m+1)*B) (acc+r):=by rw[mb];exact ha.add h1
  obtain⟨o',ih⟩:=P6 hG gK hK (X:=X) (rs:=rs) (acc:=acc+r) (m:=m+1) (o:=Gc (aD r)) ha2 (λq hq=>hr q (uL _ hq)) (by
   have:m+1+rs.length=m+(r::rs).length:=by simp;lia
   rw[this];exact hb)
  refine⟨o',?_⟩
  have ea:acc+(r::rs).sum=acc+r+rs.sum:=by rw[uj];grind
  rw[uV,DO AI,ea,<-ih]
  simp[e]
def cU{rs:Wp Rat}(hG:0<G)(gK:G<2^K)(hK:2*K<=7990)(hr:∀r∈rs,OkZ G B r)(hb:rs.length*B<2^K):CZ [.lst (rs.map aD)] S=Gc (aD rs.sum,S):=by
 obtain⟨o',e⟩:=P6 (S:=S) hG gK hK (X:=Gc (.lst (rs.map aD))) (rs:=rs) (acc:=0) (m:=0) (o:=none) OkZ.zero hr (by simpa using hb)
 have ez:(0:Rat)+rs.sum=rs.sum:=by grind
 rw[ez,LH]at e
 simp[CZ,Mb,e]
end
structure Acc(t:Tr)(ls:Wp Ld)(ds:Wp AR)(ws vs:Wp Int)(G B p:Nat):Prop where
 put:OkZ G B (Kx ls ds p ws)
 wor:OkZ G B (BD t (runs t (st0 t ls) ds) p vs).sum
 nB:OkZ G B ((BD t (runs t (st0 t ls) ds) p vs).sum-Kx ls ds p ws)
 cut:OkZ G B (Q6 t ((BD t (runs t (st0 t ls) ds) p vs).sum-Kx ls ds p ws))
def jT{t:Tr}{ls:Wp Ld}{ds:Wp AR}{ws vs:Wp Int}(h:Ah t ls ds)(hh:HOk t)(hw:Pri t ws)(hv:Pri t vs):∃G B:Nat,0<G/\G<2^2930/\4*B<2^2930/\∀p,p<t.p->Acc t ls ds ws vs G B p:=by
 obtain⟨G,B,g0,gb,bb,o1,o2,o3⟩:=h.one
 have inv:=h.fin
 have g1:G<2^2750:=ug gb bb
 refine⟨G*10*10,B*2^170,by lia,?_,?_,λp hp=>?_⟩
 .have:=Ap g1 (show 100<2^7 by decide)
  have h2:=A7 (a:=2750+7) (b:=2930) (by decide)
  lia
 .have:=Ap bb (show 4*2^170<2^173 by decide)
  have h2:=A7 (a:=2750+173) (b:=2930) (by decide)
  lia
 have bB:B<=B*2^100:=w9 _ (by decide)
 have put:OkZ (G*10) (B*2^150) (Kx ls ds p ws):=by
  have a:∀r∈L9 ls p ws,Ok G (B*2^138) r:=λr hr=>by
   obtain⟨x,hx,rfl⟩:=uo.mp hr
   have px:=h.pc0 x hx
   have w:=GJ hw.rng (i:=x.k) (by rw[hw.len];exact h.inv.kind x hx)
   have b:=w99 w.1 w.2 px.1 px.2
   exact(o1 x hx _ (getD_mem (by rw[h.inv.own x hx];exact hp))).bX b.1 b.2
  have l4:(L9 ls p ws).length<=4:=by simpa[L9]using h.four
  have s1:=(Ok.sum a).mono (ui _ l4)
  have bs:=U1 (p:=p) h hw
  have s2:=Ok.int (G:=G) (N:=16*2^138) bs.1 (by simpa using bs.2)
  refine(s1.add s2).toZ.up ?_
  have:G*(16*2^138)<=B*(16*2^138):=ui _ gb
  lia
 have wor:OkZ (G*10) (B*2^163) (BD t (runs t (st0 t ls) ds) p vs).sum:=by
  have a:∀r∈BD t (runs t (st0 t ls) ds) p vs,Ok (G*10) (B*10*2^147*99) r:=λr hr=>by
   obtain⟨x,hx,rfl⟩:=uo.mp hr
   have px:=inv.pcs x hx
   have e:((2^147:Nat):Int)=2^(131+16):=by decide
   have h2:x.n<=((2^147:Nat):Int):=by rw[e];exact xF px.2
   have hl:p<(CK t (runs t (st0 t ls) ds) x).length:=by rw[RL (inv.own x hx) inv.hold];exact hp
   have due:=TU hh (o2 x hx) o3 px.1 h2 _ (getD_mem (d:=0) hl)
   have w:=GJ hv.rng (i:=x.k) (by rw[hv.len];exact inv.kind x hx)
   exact due.bX (by lia) (by lia)
  have l4:(BD t (runs t (st0 t ls) ds) p vs).length<=20:=by simpa[BD]using inv.len
  exact((Ok.sum a).mono (ui _ l4)).toZ.mono (by lia)
 have nB:=wor.sub put
 have hB:B*2^163+B*2^150<=B*2^164:=by lia
 have gain2:=nB.mono hB
 refine⟨put.up (by lia),wor.up (by lia),gain2.up (by lia),?_⟩
 unfold Q6
 split
 .exact OkZ.zero
 .exact(gain2.oK hh.2.2.1 hh.2.2.2).mono (by lia)
def range_getD{β:Type}{rs:Wp Rat}(f:Rat->β):(W1 rs.length).map (λi=>f (rs.getD i 0))=rs.map f:=by
 apply xk
 intro i
 rw[uR,uR]
 by_cases h:i<rs.length
 .rw[vW h,getD_get h];rfl
 .rw[wF (by simp;lia),wF (by lia)];rfl
theorem Ki{α:Type}{f g:α->Rat}:∀{xs:Wp α},(xs.map λp=>f p+g p).sum=(xs.map f).sum+(xs.map g).sum
 | []=>by show(0:Rat)=0+0;grind
 |x::xs=>by
  have:=Ki (f:=f) (g:=g) (xs:=xs)
  simp only[uV,uj,this]
  grind
theorem QW{α:Type}:∀{xs:Wp α},(xs.map λ_=>(0:Rat)).sum=0
 | []=>rfl
 |x::xs=>by
  rw[uV,uj,QW]
  grind
theorem O4{α β:Type}{f:α->β->Rat}{ys:Wp β}:∀{xs:Wp α},(xs.map λx=>(ys.map λy=>f x y).sum).sum=(ys.map λy=>(xs.map λx=>f x y).sum).sum
 | []=>by simp only[vM,zY];exact QW.symm
 |x::xs=>by
  simp only[uV,uj]
  rw[O4 (xs:=xs),<-Ki]
theorem PQ{α:Type}{c:Rat}{f:α->Rat}:∀{xs:Wp α},(xs.map λx=>c*f x).sum=c*(xs.map f).sum
 | []=>by simp
 |x::xs=>by
  simp only[uV,uj,PQ (xs:=xs)]
  grind
def SU{rs:Wp Rat}{P:Nat}(h:rs.length=P):((W1 P).map λp=>rs.getD p 0).sum=rs.sum:=by
 subst h
 rw[range_getD (λr=>r),List.map_id']
theorem YJ:∀{n:Nat},((W1 n).map λ_=>(0:Int)).sum=0
 |0=>rfl
 |n+1=>by rw[zQ,ve,xg,YJ];rfl
theorem Po{i:Nat}{f:Nat->Int}:∀{k:Nat},i<k->((W1 k).map λj=>if i=j then f j else 0).sum=f i
 |k+1,h=>by
  rw[zQ,ve,xg]
  by_cases e:i=k
  .subst e
   have:((W1 i).map λj=>if i=j then f j else 0)=(W1 i).map λ_=>(0:Int):=vX λj hj=>vL (by have:=vC.mp hj;lia)
   rw[this,YJ]
   simp
  .rw[Po (k:=k) (by lia)]
   simp[e]
theorem Pe{α:Type}{f g:α->Int}:∀{xs:Wp α},(xs.map λp=>f p+g p).sum=(xs.map f).sum+(xs.map g).sum
 | []=>by simp
 |x::xs=>by
  have:=Pe (f:=f) (g:=g) (xs:=xs)
  simp only[uV,uj,this]
  lia
theorem Q1{k:Nat}{w:Nat->Int}:∀{L:Wp Ld},(∀x∈L,x.k<k)->((W1 k).map λkd=>G3 L kd*w kd).sum=(L.map λx=>x.n*w x.k).sum
 | [],_=>by
   have:((W1 k).map λkd=>G3 [] kd*w kd)=(W1 k).map λ_=>(0:Int):=vX λj _=>by simp[G3]
   rw[this,YJ]
   rfl
 |x::L,h=>by
  have e:∀kd,G3 (x::L) kd*w kd=(if x.k=kd then x.n*w kd else 0)+G3 L kd*w kd:=λkd=>by
   unfold G3
   rw[xI]
   by_cases e:x.k=kd
   .rw[vF (by simpa using e),vF e,uV,uj,Int.add_mul]
   .rw[vL (by simpa using e),vL e,Int.zero_add]
  simp only[e]
  rw[Pe,Po (f:=λkd=>x.n*w kd) (h x uO),Q1 λy hy=>h y (uL _ hy),uV,uj]
noncomputable def brJ(ws:Wp Int):AR->uM Int
 | .Bj _ k n=>Gc (n*ws.getD k 0)
 |_=>none
noncomputable def brA(ws:Wp Int)(ds:Wp AR):Wp Int:=ds.filterMap (brJ ws)
section
variable{S:Sto}{t:Tr}{ls:Wp Ld}{ds:Wp AR}{ws vs:Wp Int}
theorem Td:∀{ds:Wp AR} {st:Stt},JF t st ds->∀q k n,AR.Bj q k n∈ds->q<t.p
 |d::ds,st,g,q,k,n,h=>by
  rcases uS.mp h with rfl|h
  .exact g.1.1
  .exact Td g.2 q k n h
theorem ZN{P:Nat}:∀{ds:Wp AR},(∀q k n,AR.Bj q k n∈ds->q<P)->((W1 P).map λp=>(br p ws ds).sum).sum=(brA ws ds).sum
 | [],_=>by
   exact YJ
 |d::ds,h=>by
  have ih:=ZN (P:=P) (ds:=ds) λq k n hq=>h q k n (uL _ hq)
  cases d with
  |Bj q k n=>
   have e:∀p,(br p ws (.Bj q k n::ds)).sum=(if q=p then n*ws.getD k 0 else 0)+(br p ws ds).sum:=λp=>by
    by_cases e:q=p
    .simp[br,brI,e]
    .simp[br,brI,e]
   simp only[e]
   rw[Pe,Po (f:=λ_=>n*ws.getD k 0) (h q k n uO),ih]
   simp[brA,brJ]
  |_=>exact ih
def cD(h:Ah t ls ds)(ho:Kv ls):((W1 t.p).map λp=>Kx ls ds p ws).sum=(((brA ws ds).sum+(ls.map λx=>x.n*ws.getD x.k 0).sum:Int):Rat):=by
 have e1:((W1 t.p).map λp=>(L9 ls p ws).sum).sum=(((ls.map λx=>x.n*ws.getD x.k 0).sum:Int):Rat):=by
  unfold L9
  rw[O4 (xs:=W1 t.p) (ys:=ls) (f:=λp x=>((x.n*ws.getD x.k 0:Int):Rat)*x.ow.getD p 0),<-MC,uh]
  congr 1
  refine vX λx hx=>?_
  rw[PQ,SU (h.inv.own x hx),ho x hx]
  show _=((x.n*ws.getD x.k 0:Int):Rat)
  grind
 have e2:((W1 t.p).map λp=>(((br p ws ds).sum:Int):Rat)).sum=(((brA ws ds).sum:Int):Rat):=by
  rw[<-ZN (P:=t.p) (Td h.good),<-MC,uh]
  rfl
 unfold Kx
 rw[Ki,e1,e2]
 push_cast
 grind
def dn(hm:∀x∈st.AA,HC t st x)(hh:HOk t)(h1:Kv st.AA)(h2:st.hold.sum=1)(h3:∀x∈st.AA,x.ow.length=st.hold.length):((W1 t.p).map λp=>(BD t st p vs).sum).sum=(((st.AA.map λx=>x.n*vs.getD x.k 0).sum:Int):Rat):=by
 unfold BD
 rw[O4 (xs:=W1 t.p) (ys:=st.AA) (f:=λp x=>((vs.getD x.k 0:Int):Rat)*(CK t st x).getD p 0),<-MC,uh]
 congr 1
 refine vX λx hx=>?_
 rw[PQ,SU (hm x hx).cM,RZ hh (h1 x hx) h2 (h3 x hx)]
 show _=((x.n*vs.getD x.k 0:Int):Rat)
 push_cast
 grind
def YR{f:Nat->Wp Rat}{P k:Nat}(hP:1<=P)(hP4:P<=4)(hk:k<=20)(hf:∀p,p<P->(f p).length=k)(hs:∀kd,kd<k->CZ [.lst (((W1 P).map λp=>(f p).getD kd 0).map aD)] S=Gc (aD ((W1 P).map λp=>(f p).getD kd 0).sum,S)):HA [.lst ((W1 P).map λp=>shD (f p))] S=Gc (.lst (((W1 k).map λkd=>((W1 P).map λp=>(f p).getD kd 0).sum).map aD),S):=by
 have e:=A6 (gs:=[]) (t:=tNm 1) (f:=AB CZ [Az [1] 1 (DY (eV 0)) (tNm 1) Ai (eOp (o2 wIx) [eV 1,eV 0])]) (C:=[Gc (.lst ((W1 P).map λp=>shD (f p)))]) (m:=1) (e:=λkd:Nat=>D.int kd) (g:=λkd=>aD ((W1 P).map λp=>(f p).getD kd 0).sum) (S:=S) AI (xs:=W1 k) (acc:=[]) (os:=[none]) rfl (uH (show _<=50 by simp;lia) (AK (by decide))) (by
  intro kd hkd os ho
  obtain⟨o1,rfl⟩:∃o1,os=[o1]:=by
   match os,ho with
   | [a],_=>exact⟨a,rfl⟩
  have hkd':kd<k:=by simpa using hkd
  have c:=A6 (gs:=[]) (t:=tNm 1) (f:=eOp (o2 wIx) [eV 1,eV 0]) (C:=[Gc (.int kd)]) (m:=1) (e:=λp:Nat=>shD (f p)) (g:=λp=>aD ((f p).getD kd 0)) (S:=S) AI (xs:=W1 P) (acc:=[]) (os:=[none]) rfl (uH (show _<=50 by simp;lia) (AK (by decide))) (by
   intro p hp os ho
   obtain⟨o1,rfl⟩:∃o1,os=[o1]:=by
    match os,ho with
    | [a],_=>exact⟨a,rfl⟩
   have hl:kd<(f p).length:=by rw[hf p (by simpa using hp)];exact hkd'
   have a:atI ((f p).map aD) (kd:Int)=Gc (aD ((f p).getD kd 0)):=BU (by
    rw[uR,uN hl,uY,uN hl];rfl)
   refine⟨[Gc (shD (f p))],rfl,by simp,?_⟩
   simp[shD,a])
  have h1:=hs kd hkd'
  rw[show(W1 P).map (λp=>aD ((f p).getD kd 0))=((W1 P).map λp=>(f p).getD kd 0).map aD by rw[uh];rfl]at c
  refine⟨[Gc (.int kd)],rfl,by simp,?_⟩
  simp only[vD,ur]at c⊢
  generalize ((W1 P).map λp=>(f p).getD kd 0).map aD=V at*
  generalize aD ((W1 P).map λp=>(f p).getD kd 0).sum=D1 at*
  generalize (W1 P).map (λp=>shD (f p))=RW at*
  simp[MB,c,h1])
 have a0:atI ((W1 P).map λp=>shD (f p)) 0=Gc (.tup ((f 0).map aD)):=by
  have:=BU (xs:=(W1 P).map λp=>shD (f p)) (n:=0) (x:=.tup ((f 0).map aD)) (by rw[uR,vW (by lia)];rfl)
  exact this
 have l0:((f 0).map aD).length=k:=by rw[ux];exact hf 0 (by lia)
 have rk:Ge (k:Int)=true:=Bw (by lia) (by lia)
 rw[<-KD]at e
 simp only[vD,ur,wB]at e
 rw[uh]
 rw[show((aD∘λkd=>((W1 P).map λp=>(f p).getD kd 0).sum))=λkd=>aD ((W1 P).map λp=>(f p).getD kd 0).sum from rfl]
 generalize (W1 k).map (λkd=>aD ((W1 P).map λp=>(f p).getD kd 0).sum)=W at*
 generalize (W1 P).map (λp=>shD (f p))=RW at*
 generalize (f 0).map aD=F0 at*
 simp[HA,OQ,a0,l0,rk,MB,e]
end
section
variable{S:Sto}{t:Tr}{ls:Wp Ld}{ds:Wp AR}{ws vs:Wp Int}
noncomputable def Qa(t:Tr)(ls:Wp Ld)(ds:Wp AR)(ws vs:Wp Int)(p:Nat):Wp Rat:=[Kx ls ds p ws,(BD t (runs t (st0 t ls) ds) p vs).sum,(BD t (runs t (st0 t ls) ds) p vs).sum-Kx ls ds p ws,Q6 t ((BD t (runs t (st0 t ls) ds) p vs).sum-Kx ls ds p ws)]
def mw(h:Ah t ls ds)(hh:HOk t)(hw:Pri t ws)(hv:Pri t vs):∃S',BA [] (tNm 3) Ai (AB Bl [eV 0,eV 3,eV 1,eV 2]) ((W1 t.p).map λp:Nat=>D.int p) [] [Gc (AM t ls ds),Gc (.tup (ws.map D.int)),Gc (.tup (vs.map D.int)),none] S=Gc ((W1 t.p).map λp=>shD (Qa t ls ds ws vs p),S')/\Bh [] S S':=by
 obtain⟨t1,t2,_⟩:=h.tr
 have:=IK (gs:=[]) (t:=tNm 3) (f:=AB Bl [eV 0,eV 3,eV 1,eV 2]) (C:=[Gc (AM t ls ds),Gc (.tup (ws.map D.int)),Gc (.tup (vs.map D.int))]) (m:=1) (e:=λp:Nat=>D.int p) (g:=λp=>shD (Qa t ls ds ws vs p)) (S0:=S) (λ_ _=>AI) (xs:=W1 t.p) (acc:=[]) (os:=[none]) (S:=S) rfl .refl (uH (show _<=50 by simp;lia) (AK (by decide))) (by
  intro p hp os T ho hT
  obtain⟨o1,rfl⟩:=MX ho
  obtain⟨T2,e,s⟩:=UR (S:=T) h hh hw hv (vC.mp hp)
  have e':Bl [AM t ls ds,.int p,.tup (ws.map D.int),.tup (vs.map D.int)] T=Gc (shD (Qa t ls ds ws vs p),T2):=e
  refine⟨[Gc (.int p)],T2,rfl,by simp,?_,hT.trans s⟩
  generalize shD (Qa t ls ds ws vs p)=R at*
  simp[e'])
 simpa using this
def Ri(k:Nat)(hk:ws.length=k):ws.map D.int=(W1 k).map λj=>D.int (ws.getD j 0):=by
 subst hk
 refine zB (by simp) λi h1 h2=>?_
 simp at h1 h2
 simp[uY,uN h1]
def rf{k:Nat}{s:Nat->Int}(hk:k<=5)(hl:vs.length=k)(hw:∀w∈vs,1<=w/\w<=99):BA [] (tTp [tNm 0,tNm 1]) Ai (eOp (o2 BH) [eV 0,eV 1]) (JC ((W1 k).map λkd=>D.int (s kd)) (vs.map D.int)) [] [none,none] S=Gc (((W1 k).map λkd=>s kd*vs.getD kd 0).map D.int,S):=by
 have ez:JC ((W1 k).map λkd=>D.int (s kd)) (vs.map D.int)=(W1 k).map λkd=>D.tup [.int (s kd),.int (vs.getD kd 0)]:=by
  rw[Ri k hl]
  unfold JC
  rw[yI,uh]
  rfl
 rw[ez,uh]
 have c:=A6 (gs:=[]) (t:=tTp [tNm 0,tNm 1]) (f:=eOp (o2 BH) [eV 0,eV 1]) (C:=[]) (m:=2) (e:=λkd:Nat=>D.tup [.int (s kd),.int (vs.getD kd 0)]) (g:=λkd=>D.int (s kd*vs.getD kd 0)) (S:=S) AI (xs:=W1 k) (acc:=[]) (os:=[none,none]) rfl (uH (show _<=50 by simp;lia) (AK (by decide))) (by
  intro kd hkd os ho
  obtain⟨q1,q2,rfl⟩:∃q1 q2,os=[q1,q2]:=by
   match os,ho with
   | [a,b],_=>exact⟨a,b,rfl⟩
  have w:=GJ hw (i:=kd) (by rw[hl];exact vC.mp hkd)
  have m:C8 (s kd) (vs.getD kd 0)=true:=mulR (by lia) (by lia)
  refine⟨[Gc (.int (s kd)),Gc (.int (vs.getD kd 0))],rfl,by simp,?_⟩
  generalize vs.getD kd 0=wz at*
  simp[m])
 exact c
theorem brC(hw:Pri t ws):∀{es:Wp AR} {acc:Wp D} {o:uM D},(∀q k n,AR.Bj q k n∈es->k<t.k)->acc.length+es.length<=100->BA [] (tNm 1) (eOp (o2 wEq) [eIx (eV 1) (eI 0),eC (.str "bring")]) (eOp (o2 BH) [eIx (eV 1) (eI 3),eIx (eV 0) (eIx (eV 1) (eI 2))]) (es.map AR.d) acc [Gc (.tup (ws.map D.int)),o] S=Gc (acc++(brA ws es).map D.int,S)
 | [],acc,o,_,_=>by rw[vM,Cc AI];simp[brA]
 |d::es,acc,o,hm,hz=>by
  have hs:acc.length<sizeLine:=uI (show acc.length<101 by simp at hz;lia) (AK (by decide))
  have tt:tNm 1 d.d [Gc (.tup (ws.map D.int)),o] S=Gc [Gc (.tup (ws.map D.int)),Gc d.d]:=by simp
  have ih:=λ{acc:Wp D} (hz:acc.length+es.length<=100)=>brC hw (es:=es) (acc:=acc) (o:=Gc d.d) (λq k n hx=>hm q k n (uL _ hx)) hz
  rw[uV]
  cases d with
  |Bj q k n=>
   have hk:k<ws.length:=by rw[hw.len];exact hm q k n uO
   have w:=GJ hw.rng hk
   have aw:=KH hk
   have mo:C8 n (ws.getD k 0)=true:=mulR (by lia) (by lia)
   have eb:brA ws (.Bj q k n::es)=(n*ws.getD k 0)::brA ws es:=by simp[brA,brJ]
   rw[eb]
   generalize ws.getD k 0=wz at*
   rw[FO AI hs tt (S1:=S) (by simp[AR.d])]
   have ev:eOp (o2 BH) [eIx (eV 1) (eI 3),eIx (eV 0) (eIx (eV 1) (eI 2))] [Gc (.tup (ws.map D.int)),Gc (AR.Bj q k n).d] S=Gc (.int (n*wz),S):=by simp[AR.d,aw,mo]
   rw[ev,Au,ih (by simp at hz ⊢; lia)]
   simp
  |Ik=>rw[CD AI hs tt (S1:=S) (by simp[AR.d]),ih (by simp at hz ⊢; lia)];rfl
  |swap=>rw[CD AI hs tt (S1:=S) (by simp[AR.d]),ih (by simp at hz ⊢; lia)];rfl
  |C0=>rw[CD AI hs tt (S1:=S) (by simp[AR.d]),ih (by simp at hz ⊢; lia)];rfl
  |EN=>rw[CD AI hs tt (S1:=S) (by simp[AR.d]),ih (by simp at hz ⊢; lia)];rfl
  |thr=>rw[CD AI hs tt (S1:=S) (by simp[AR.d]),ih (by simp at hz ⊢; lia)];rfl
  |HP=>rw[CD AI hs tt (S1:=S) (by simp[AR.d]),ih (by simp at hz ⊢; lia)];rfl
def gI(h:Ah t ls ds)(hw:Pri t ws):BA [] (tNm 1) Ai (eOp (o2 BH) [eIx (eV 1) (eI 1),eIx (eV 0) (eIx (eV 1) (eI 0))]) (ls.map Ld.d) [] [Gc (.tup (ws.map D.int)),none] S=Gc ((ls.map λx=>x.n*ws.getD x.k 0).map D.int,S):=by
 have h4:=h.four
 have c:=A6 (gs:=[]) (t:=tNm 1) (f:=eOp (o2 BH) [eIx (eV 1) (eI 1),eIx (eV 0) (eIx (eV 1) (eI 0))]) (C:=[Gc (.tup (ws.map D.int))]) (m:=1) (e:=Ld.d) (g:=λx=>D.int (x.n*ws.getD x.k 0)) (S:=S) AI (xs:=ls) (acc:=[]) (os:=[none]) rfl (uH (show _<=50 by simp;lia) (AK (by decide))) (by
  intro x hx os ho
  obtain⟨o1,rfl⟩:=MX ho
  have hk:x.k<ws.length:=by rw[hw.len];exact h.inv.kind x hx
  have w:=GJ hw.rng hk
  have aw:=KH hk
  have m:C8 x.n (ws.getD x.k 0)=true:=mulR (by lia) (by lia)
  refine⟨[Gc x.d],rfl,by simp,?_⟩
  generalize ws.getD x.k 0=wz at*
  simp[Ld.d,aw,m])
 rw[uh]
 exact c
end
section
variable{S:Sto}{t:Tr}{ls:Wp Ld}{ds:Wp AR}{ws vs:Wp Int}
def Rv:=eOr (eOp (o2 wNe) [AB Ak [eIx (eV 10) (eI 0),eIx (eV 10) (eI 2)],eIx (eV 10) (eI 1)]) (FQ (eOp (o2 wLe) [eIx (eIx (eV 10) (eI 2)) (eI 0),eI 0]) (eOp (o2 wNe) [eIx (eV 10) (eI 3),BM [eI 0,eI 1]]))
def Rp:=FQ (eOp (o2 wGt) [eIx (eIx (eV 10) (eI 2)) (eI 0),eI 0]) (eOp (o2 wNe) [AB Ag [eIx (eV 10) (eI 3),BM [eI 10,eI 1]],AB Ag [eIx (eV 10) (eI 2),BM [eIx (eIx (eV 0) (eI 0)) (eI 5),eI 1]]])
def gq{G B p:Nat}{a1 a2 a3 a4 a5 a6 a7 a8 a9:uM D}(hh:HOk t)(hG:0<G)(gK:G<2^2930)(hb:B<2^2930)(a:Acc t ls ds ws vs G B p):Rv [Gc (AM t ls ds),a1,a2,a3,a4,a5,a6,a7,a8,a9,Gc (shD (Qa t ls ds ws vs p))] S=Gc (.bl false,S)/\Rp [Gc (AM t ls ds),a1,a2,a3,a4,a5,a6,a7,a8,a9,Gc (shD (Qa t ls ds ws vs p))] S=Gc (.bl false,S):=by
 obtain⟨zp,zw,zg,zc⟩:=a
 have sp:=zp.sz hG gK hb
 have sg:=zg.sz hG gK hb
 have sc:=zc.sz hG gK hb
 unfold Qa
 generalize (BD t (runs t (st0 t ls) ds) p vs).sum=W at*
 generalize Kx ls ds p ws=P at*
 have pl:=H0 (S:=S) sp sg (by decide)
 rw[show P+(W-P)=W by grind]at pl
 have k:∀{r:Rat},Lb (aD r) (aD r)=true/\deq (aD r) (aD r)=true/\∀T,dr T (aD r)=.val (aD r):=λ{r}=>⟨G6 KO (uH gA (by decide)),EI KO,λ_=>rfl⟩
 obtain⟨k1,k2,k3⟩:=k (r:=W)
 generalize W-P=g at*
 by_cases h:g.num<=0
 .have ec:Q6 t g=0:=vF h
  rw[ec]
  obtain⟨m1,m2,m3⟩:=k (r:=0)
  have h':¬0<g.num:=by lia
  have eg:aD g=.tup [.int g.num,.int g.den]:=rfl
  have sh:shD [P,W,g,0]=.tup [aD P,aD W,.tup [.int g.num,.int g.den],.tup [.int 0,.int 1]]:=rfl
  have e0:aD 0=.tup [.int 0,.int 1]:=rfl
  rw[sh]
  rw[eg]at pl
  rw[e0]at m1 m2
  generalize aD P=A0 at*
  generalize aD W=A1 at*
  generalize g.num=gn at*
  constructor
  .simp[Rv,pl,k1,k2,k3,h,m1,m2]
  .simp[Rp,h']
 .have ec:Q6 t g=g*((t.l:Rat) / ((10:Int):Rat)):=vL h
  have hl:(t.l:Int).natAbs<2^4:=by have:=hh.2.2;show _<16;lia
  have t1:=HG (S:=S) sc (IH (n:=10) (k:=4) (by decide) (by decide)) (by decide)
  have t2:=HG (S:=S) sg (IH (n:=t.l) (k:=4) hl (by decide)) (by decide)
  have e12:Q6 t g*((10:Int):Rat)=g*(t.l:Rat):=by rw[ec];grind
  rw[e12]at t1
  obtain⟨m1,m2,m3⟩:=k (r:=g*(t.l:Rat))
  rw[G9]at t1 t2
  have eg:aD g=.tup [.int g.num,.int g.den]:=rfl
  have sh:shD [P,W,g,Q6 t g]=.tup [aD P,aD W,.tup [.int g.num,.int g.den],aD (Q6 t g)]:=rfl
  rw[sh]
  generalize aD (g*(t.l:Rat))=A4 at*
  rw[eg]at pl t2
  generalize aD P=A0 at*
  generalize aD W=A1 at*
  generalize aD (Q6 t g)=A3 at*
  generalize g.num=gn at*
  have h2:¬gn<=0:=h
  have h3:0<gn:=by lia
  constructor
  .simp[Rv,pl,k1,k2,k3,h2]
  .simp[Rp,h3,t1,t2,m1,m2,m3,AM,Tr.d]
end
section
variable{S:Sto}{t:Tr}{ls:Wp Ld}{ds:Wp AR}{ws vs:Wp Int}
def RG(h:Ah t ls ds)(hh:HOk t)(ho:Kv ls/\t.ho.sum=1)(hw:Pri t ws)(hv:Pri t vs):∃S',Bf [AM t ls ds,.tup (ws.map D.int),.tup (vs.map D.int)] S=Gc (.bl true,S')/\Bh [] S S':=by
 obtain⟨G,B,hG,gK,hb,ac⟩:=jT h hh hw hv
 obtain⟨S1,e1,s1⟩:=mw (S:=S) h hh hw hv
 obtain⟨t1,t2,t3,t4,t5,t6⟩:=h.tr
 have hb1:B<2^2930:=by lia
 have zall:∀p,p<t.p->∀kd,kd<4->OkZ G B ((Qa t ls ds ws vs p).getD kd 0):=λp hp kd hk=>by
  have a:=ac p hp
  match kd,hk with
  |0,_=>exact a.put
  |1,_=>exact a.wor
  |2,_=>exact a.nB
  |3,_=>exact a.cut
 have su:=YR (S:=S1) (f:=Qa t ls ds ws vs) (P:=t.p) (k:=4) t1 t2 (by decide) (λ_ _=>rfl) λkd hk=>cU hG gK (by decide) (B:=B) (λr hr=>by
  obtain⟨p,hp,rfl⟩:=uo.mp hr
  exact zall p (vC.mp hp) kd hk) (by
  rw[ux,AAL]
  exact ug (ui _ t2) hb)
 have hm:=K4 h hh ho
 have inv:=h.fin
 have on:=h.ones ho.1 ds.length
 have hs:=h.Xk ho.1 ho.2 ds.length
 rw[vI]at on hs
 have W:=dn (vs:=vs) hm hh on hs λx hx=>by rw[inv.own x hx,inv.hold]
 have P:=cD (ws:=ws) h ho.1
 have st:=Xu (S:=S1) h (uP ds.length)
 rw[vI]at st
 have ss:=Q1 (k:=t.k) (w:=λkd=>vs.getD kd 0) inv.kind
 have g4:(((W1 4).map λkd=>((W1 t.p).map λp=>(Qa t ls ds ws vs p).getD kd 0).sum).map aD)=[aD ((W1 t.p).map λp=>Kx ls ds p ws).sum,aD ((W1 t.p).map λp=>(BD t (runs t (st0 t ls) ds) p vs).sum).sum,aD ((W1 t.p).map λp=>(BD t (runs t (st0 t ls) ds) p vs).sum-Kx ls ds p ws).sum,aD ((W1 t.p).map λp=>Q6 t ((BD t (runs t (st0 t ls) ds) p vs).sum-Kx ls ds p ws)).sum]:=rfl
 have sub:((W1 t.p).map λp=>(BD t (runs t (st0 t ls) ds) p vs).sum-Kx ls ds p ws).sum=((W1 t.p).map λp=>(BD t (runs t (st0 t ls) ds) p vs).sum).sum-((W1 t.p).map λp=>Kx ls ds p ws).sum:=by
  have:=Ki (f:=λp=>(BD t (runs t (st0 t ls) ds) p vs).sum-Kx ls ds p ws) (g:=λp=>Kx ls ds p ws) (xs:=W1 t.p)
  have e:∀p,(BD t (runs t (st0 t ls) ds) p vs).sum-Kx ls ds p ws+Kx ls ds p ws=(BD t (runs t (st0 t ls) ds) p vs).sum:=λp=>by grind
  simp only[e]at this
  grind
 rw[g4,sub]at su
 have zz:∀(f:Nat->Rat),(∀p,p<t.p->OkZ G B (f p))->Sz 2930 ((W1 t.p).map f).sum:=λf hf=>by
  have:∀n,n<=t.p->OkZ G (n*B) ((W1 n).map f).sum:=λn=>by
   induction n with
   |zero=>exact λ_=>by simpa using OkZ.zero
   |succ n ih=>
    intro hn
    have e:((W1 (n+1)).map f).sum=((W1 n).map f).sum+f n:=by
     rw[zQ,ve,xg]
     simp
     grind
    rw[e,yt]
    exact(ih (by lia)).add (hf n (by lia))
  exact(this t.p (uP _)).sz hG gK (ug (ui _ t2) hb)
 have ll:=Vl (S:=S1) (zz _ λp hp=>(ac p hp).wor) (zz _ λp hp=>(ac p hp).put) (by decide)
 have z3:=rf (S:=S1) (k:=t.k) (s:=λkd=>G3 (runs t (st0 t ls) ds).AA kd) t4 hv.len hv.rng
 have is1:=CF ((W1 t.k).map λkd=>G3 (runs t (st0 t ls) ds).AA kd*vs.getD kd 0)
 have b3:=brC (S:=S1) hw (es:=ds) (acc:=[]) (o:=none) (λq k n hx=>(Iq h.good q k n hx).1) (by have:=h.len;simp;lia)
 have is2:=CF (brA ws ds)
 have f3:=gI (S:=S1) h hw
 have is3:=CF (ls.map λx=>x.n*ws.getD x.k 0)
 rw[W]at su ll
 rw[P]at su ll
 have aw:aD ((((runs t (st0 t ls) ds).AA.map λx=>x.n*vs.getD x.k 0).sum:Int):Rat)=.tup [.int ((runs t (st0 t ls) ds).AA.map λx=>x.n*vs.getD x.k 0).sum,.int 1]:=G9 _
 have ap:aD (((brA ws ds).sum+(ls.map λx=>x.n*ws.getD x.k 0).sum:Int):Rat)=.tup [.int ((brA ws ds).sum+(ls.map λx=>x.n*ws.getD x.k 0).sum),.int 1]:=G9 _
 have eq0:∀i:Int,Lb (.tup [.int i,.int 1]) (.tup [.int i,.int 1])=true/\deq (.tup [.int i,.int 1]) (.tup [.int i,.int 1])=true:=λi=>⟨rfl,EI rfl⟩
 have row:∀{a1 a2 a3 a4 a5 a6 a7 a8 a9 o:uM D},∃o',Jj [] (tNm 10) (AQ (xIf Rv (Ac (eC (.bl false))) Bc) (xIf Rp (Ac (eC (.bl false))) Bc)) ((W1 t.p).map λp=>shD (Qa t ls ds ws vs p)) [Gc (AM t ls ds),a1,a2,a3,a4,a5,a6,a7,a8,a9,o] S1=Gc (.nx,[Gc (AM t ls ds),a1,a2,a3,a4,a5,a6,a7,a8,a9,o'],S1):=by
  intro a1 a2 a3 a4 a5 a6 a7 a8 a9 o
  obtain⟨E',S',ef,o',rfl,rfl,_⟩:=DZ (gs:=[]) (t:=tNm 10) (b:=AQ (xIf Rv (Ac (eC (.bl false))) Bc) (xIf Rp (Ac (eC (.bl false))) Bc))
   (I:=λrs E S'=>∃o,E=[Gc (AM t ls ds),a1,a2,a3,a4,a5,a6,a7,a8,a9,o]/\S'=S1/\∀d∈rs,∃p,p<t.p/\d=shD (Qa t ls ds ws vs p))
   (λ_ _ _ _=>AI) (ds:=(W1 t.p).map λp=>shD (Qa t ls ds ws vs p)) (E:=[Gc (AM t ls ds),a1,a2,a3,a4,a5,a6,a7,a8,a9,o]) (S:=S1)
   ⟨o,rfl,rfl,λd hd=>by
     obtain⟨p,hp,rfl⟩:=uo.mp hd
     exact⟨p,vC.mp hp,rfl⟩⟩ (by
     rintro dd rs E T ⟨o,rfl,rfl,hall⟩
     obtain⟨p,hp,rfl⟩:=hall dd uO
     obtain⟨c1,c2⟩:=gq (S:=T) (a1:=a1) (a2:=a2) (a3:=a3) (a4:=a4) (a5:=a5) (a6:=a6) (a7:=a7) (a8:=a8) (a9:=a9) hh hG gK hb1 (ac p hp)
     generalize Rv=R1 at*
     generalize Rp=R2 at*
     refine⟨[Gc (AM t ls ds),a1,a2,a3,a4,a5,a6,a7,a8,a9,Gc (shD (Qa t ls ds ws vs p))],[Gc (AM t ls ds),a1,a2,a3,a4,a5,a6,a7,a8,a9,Gc (shD (Qa t ls ds ws vs p))],T,by simp,?_,_,rfl,rfl,λd hd=>hall d (uL _ hd)⟩
     generalize shD (Qa t ls ds ws vs p)=R at*
     simp[c1,c2])
  exact⟨o',ef⟩
 refine⟨S1,?_,s1⟩
 rw[aw,ap]at su ll
 have eg:∀r:Rat,Lb (aD r) (aD r)=true/\deq (aD r) (aD r)=true/\∀T,dr T (aD r)=.val (aD r):=λr=>⟨G6 KO (uH gA (by decide)),EI KO,λ_=>rfl⟩
 have E1:=eq0 ((runs t (st0 t ls) ds).AA.map λx=>x.n*vs.getD x.k 0).sum
 have E2:=eq0 ((brA ws ds).sum+(ls.map λx=>x.n*ws.getD x.k 0).sum)
 have E3:=eg (((((runs t (st0 t ls) ds).AA.map λx=>x.n*vs.getD x.k 0).sum:Int):Rat)-(((brA ws ds).sum+(ls.map λx=>x.n*ws.getD x.k 0).sum:Int):Rat))
 generalize aD (((((runs t (st0 t ls) ds).AA.map λx=>x.n*vs.getD x.k 0).sum:Int):Rat)-(((brA ws ds).sum+(ls.map λx=>x.n*ws.getD x.k 0).sum:Int):Rat))=GG at*
 generalize aD ((W1 t.p).map λp=>Q6 t ((BD t (runs t (st0 t ls) ds) p vs).sum-Kx ls ds p ws)).sum=CC at*
 rw[<-KD]at e1
 have rk:Ge (t.p:Int)=true:=Bw (by lia) (by lia)
 generalize ((runs t (st0 t ls) ds).AA.map λx=>x.n*vs.getD x.k 0).sum=n1 at*
 generalize ((W1 t.k).map λkd=>G3 (runs t (st0 t ls) ds).AA kd*vs.getD kd 0)=J1 at*
 generalize brA ws ds=J2 at*
 generalize (ls.map λx=>x.n*ws.getD x.k 0)=J3 at*
 generalize hn2:J2.sum=n2 at*
 generalize hn3:J3.sum=n3 at*
 generalize ((W1 t.k).map λkd=>D.int (G3 (runs t (st0 t ls) ds).AA kd))=L4 at*
 generalize hR:((W1 t.p).map λp=>shD (Qa t ls ds ws vs p))=RR at*
 generalize hV:vs.map D.int=V at*
 generalize hWs:ws.map D.int=Ws at*
 simp only[ur,wB]at e1 b3
 obtain⟨o',row⟩:=row (a1:=Gc (.tup Ws)) (a2:=Gc (.tup V)) (a3:=Gc (.lst RR)) (a4:=Gc (.tup [.int (n2+n3),.int 1])) (a5:=Gc (.tup [.int n1,.int 1])) (a6:=Gc GG) (a7:=Gc CC) (a8:=Gc (.tup L4)) (a9:=Gc (.int n2)) (o:=none)
 unfold Bf
 rw[show FU=(AQ (A9 3 (Az [0,1,2] 1 (Kk [eIx (eIx (eV 0) (eI 0)) (eI 0)]) (tNm 3) Ai (AB Bl [eV 0,eV 3,eV 1,eV 2])))
  (AQ (Hi (tTp [tNm 4,tNm 5,tNm 6,tNm 7]) (AB HA [eV 3]))
  (AQ (A9 8 (AB E9 [eV 0,eOp (o1 EB) [eIx (eV 0) (eI 2)]]))
  (AQ (xIf (eOp (o2 wNe) [eV 5,BM [eOp (o1 Od) [Az [] 2 (Q7 (eV 8) (eV 2)) (tTp [tNm 0,tNm 1]) Ai (eOp (o2 BH) [eV 0,eV 1])],eI 1]]) (Ac (eC (.bl false))) Bc)
  (AQ (A9 9 (eOp (o1 Od) [Az [1] 1 (DY (eIx (eV 0) (eI 2))) (tNm 1) (eOp (o2 wEq) [eIx (eV 1) (eI 0),eC (.str "bring")]) (eOp (o2 BH) [eIx (eV 1) (eI 3),eIx (eV 0) (eIx (eV 1) (eI 2))])]))
  (AQ (xIf (eOp (o2 wNe) [eV 4,BM [eOp (o2 Cr) [eV 9,eOp (o1 Od) [Az [1] 1 (DY (eIx (eV 0) (eI 1))) (tNm 1) Ai (eOp (o2 BH) [eIx (eV 1) (eI 1),eIx (eV 0) (eIx (eV 1) (eI 0))])]],eI 1]]) (Ac (eC (.bl false))) Bc)
  (AQ (Ht (DY (eV 3)) (tNm 10) (AQ (xIf Rv (Ac (eC (.bl false))) Bc) (xIf Rp (Ac (eC (.bl false))) Bc)))
  (Ac (eOp (o2 wEq) [eV 6,AB Cj [eV 5,eV 4]])))))))))from rfl]
 simp only[AM]at e1 st row⊢
 simp[Tr.d]at e1 st row⊢
 simp[MB,rk,e1,su,st,z3,is1,ss,b3,is2,hn2,f3,is3,hn3,E1.1,E1.2,E2.1,E2.2,row,ll,E3.1,E3.2.1,E3.2.2]
end
section
variable{ls:Wp Ld}
def cA(hk:k<=20)(hkind:∀l∈ls,l.k<k)(h:Bd ls G B N K):∃S',CI [.int k,Aw ls,.lst (ls.map λx=>aD (ownAt x p))] S=Gc (shD (AS k ls p),S')/\Bh [] S S':=by
 have ez:JC (ls.map hD) (ls.map λx=>aD (ownAt x p))=ls.map λx=>.tup [hD x,aD (ownAt x p)]:=by
  unfold JC
  rw[yI,uh]
  rfl
 have hq:(S++[Cl.lst ((AS k [] p).map aD)])[S.length]?=Gc (.lst ((AS k [] p).map aD)):=uZ
 generalize hQ:S.length=q at*
 obtain⟨E',S',ef,i,o4,o5,o6,f1,f2,rfl,f3,f4⟩:=DZ (gs:=[]) (t:=tTp [tTp [tNm 5,tNm 6],tNm 4]) (b:=Lw (AB EO [eOp (o2 wIx) [eV 3,eV 5],AB BJ [BM [eV 6,eC (.int 1)],eV 4]]) (eV 3) (eV 5))
  (I:=λrs E S'=>∃(i:Nat) (o4 o5 o6:uM D),rs=(ls.drop i).map (λx=>D.tup [hD x,aD (ownAt x p)])/\i<=ls.length/\E=[Gc (.int k),Gc (Aw ls),Gc (.lst (ls.map λx=>aD (ownAt x p))),Gc (.ref q),o4,o5,o6]/\S'[q]?=Gc (.lst ((AS k (ls.take i) p).map aD))/\Bh [] S S')
  (λ_ _ _ _=>AI) (ds:=ls.map λx=>D.tup [hD x,aD (ownAt x p)]) (E:=[Gc (.int k),Gc (Aw ls),Gc (.lst (ls.map λx=>aD (ownAt x p))),Gc (.ref q),none,none,none]) (S:=S++[Cl.lst ((AS k [] p).map aD)])
  ⟨0,none,none,none,by simp,vZ _,rfl,by simpa using hq,.app⟩ (by
    rintro dd rs E T ⟨i,o4,o5,o6,i1,i2,rfl,i3,i4⟩
    have hlt:i<ls.length:=by
     rcases yU i ls.length with w|w
     .exact w
     .rw[vn w]at i1;cases i1
    rw[vK hlt,uV]at i1
    injection i1 with z1 z2
    subst z1 z2
    have hm:ls[i]∈ls:=wg hlt
    have htk:ls.take (i+1)=ls.take i++[ls[i]]:=by rw[yQ,uN hlt];rfl
    have tm:=NU (S:=T) (h.nSz hm) ((h.at hm p).sz h.g0 h.gK h.hB) (by have:=h.hK;lia)
    rw[G9]at tm
    have zb:30*(B*N)<2^K:=by have:=h.hb;lia
    have zb1:B*N<2^K:=by have:=h.hb;lia
    have pl:=Wr (S:=T) ((h.take i).kind (p:=p) (kd:=ls[i].k)|>.sz h.g0 h.gK zb) ((h.mul hm p).sz h.g0 h.gK zb1) (by have:=h.hK;lia)
    have hkd:=hkind _ hm
    have at1:atI ((AS k (ls.take i) p).map aD) (ls[i].k:Int)=Gc (aD (kindS (ls.take i) p ls[i].k)):=BU (by
     rw[uR,AS,uR,vW hkd];rfl)
    have ix1:ixN ((AS k (ls.take i) p).map aD).length (ls[i].k:Int)=Gc ls[i].k:=Ic (by simp[AS];exact hkd)
    have ef:((AS k (ls.take i) p).map aD).set ls[i].k (aD (kindS (ls.take i) p ls[i].k+(ls[i].n:Rat)*ownAt ls[i] p))=(AS k (ls.take (i+1)) p).map aD:=by rw[htk,JW,xH]
    have dq:=Aq i3
    have cq:=AN i3
    generalize (AS k (ls.take i) p).map aD=V at*
    generalize hx:ls[i]=x at*
    generalize aD (kindS (ls.take i) p x.k+(x.n:Rat)*ownAt x p)=D1 at*
    generalize aD ((x.n:Rat)*ownAt x p)=D2 at*
    generalize aD (kindS (ls.take i) p x.k)=D3 at*
    have lq:=i4.len
    refine⟨_,[Gc (.int k),Gc (Aw ls),Gc (.lst (ls.map λx=>aD (ownAt x p))),Gc (.ref q),Gc (aD (ownAt x p)),Gc (.int x.k),Gc (.int x.n)],T.set q (.lst (V.set x.k D1)),by simp;rfl,?_,i+1,_,_,_,rfl,hlt,rfl,by rw[<-ef];exact uX (AV i3),Bh.new (A:=[]) (B:=[q]) i4 (.set (by simp)) (by intro n hn';simp at hn';lia)⟩
    generalize aD (ownAt x p)=D4 at*
    simp[dq,at1,tm,pl,cq,ix1])
 have hz:i=ls.length:=by
  have:=congrArg yi f1
  simp at this
  lia
 subst hz
 rw[vI]at f3
 refine⟨S',?_,f4⟩
 have m1:BH (.val (.lst [Ce])) (.val (.int k))=Gc (.own ((AS k [] p).map aD)):=by
  have hs:k<=sizeLine:=AK (by lia)
  have h1:(k:Int)<2^63:=by lia
  have h2: -(2:Int)^63<=k:=by lia
  rw[OT,Kr,vF (by simp[hs];lia)]
  simp[Nh,Ce]
 have df:=Aq f3
 generalize (AS k [] p).map aD=V0 at*
 rw[show shD (AS k ls p)=.tup ((AS k ls p).map aD)from rfl]
 generalize (AS k ls p).map aD=V1 at*
 have dh:sqD (S++[Cl.lst V0]) (Aw ls)=Gc (ls.map hD,[]):=rfl
 simp[CI,Gp,-Kr,m1,hQ,dh,ez,ef,df]
end
section
variable{S:Sto}{t:Tr}{ls:Wp Ld}{ds:Wp AR}{n:Nat}
def cJ(h:Ah t ls ds)(hn:n<=ds.length):∃S',Cv [AM t ls ds,.int n] S=Gc (.lst ((W1 t.p).map λp=>shD (AS t.k (runs t (st0 t ls) (ds.take n)).AA p)),S')/\Bh [] S S':=by
 obtain⟨S1,e1,s1⟩:=MI (S:=S) h hn
 have il0:(ds.take n).length<=16:=by have:=h.len;simp;lia
 have il:16<=16:=uP _
 have inv:=h.at n
 obtain⟨G,B,N,K,bd⟩:=inv.bd il
 have ho:=inv.own
 have hk:=inv.kind
 obtain⟨t1,t2,t3,t4,t5,t6⟩:=h.tr
 generalize (runs t (st0 t ls) (ds.take n)).AA=L at*
 generalize (runs t (st0 t ls) (ds.take n)).hold=Ho at*
 obtain⟨S2,e2,s2⟩:=IK (gs:=[]) (t:=tNm 3) (f:=AB CI [eV 0,eV 1,Az [3] 1 (DY (eV 2)) (tNm 1) Ai (eOp (o2 wIx) [eV 1,eV 0])]) (C:=[Gc (.int t.k),Gc (Aw L),Gc (Kw L)]) (m:=1) (e:=λp:Nat=>D.int p) (g:=λp=>shD (AS t.k L p)) (S0:=S1) (λ_ _=>AI) (xs:=W1 t.p) (acc:=[]) (os:=[none]) (S:=S1) rfl .refl (uH (show _<=50 by simp;lia) (AK (by decide))) (by
  intro p hp os T ho' hT
  obtain⟨o1,rfl⟩:=MX ho'
  have hp':p<t.p:=by simpa using hp
  have pc:=nv (ls:=L) (p:=p) (T:=T) (λl hl=>by rw[ho l hl];exact hp') bd.len
  obtain⟨T2,e3,s3⟩:=cA (S:=T) (k:=t.k) (by lia) (p:=p) hk bd
  refine⟨[Gc (.int p)],T2,rfl,by simp,?_,hT.trans s3⟩
  have dh:sqD T (Kw L)=Gc (L.map (λx=>shD x.ow),[]):=rfl
  simp[dh,MB,pc,e3])
 refine⟨S2,?_,s1.trans s2⟩
 have rk:Ge (t.p:Int)=true:=Bw (by lia) (by lia)
 have ct:Nt [D.int t.p,D.int t.k,D.int t.b,shD t.ho,D.int t.h,D.int t.l] none (Gc 2)=[.int t.p,.int t.k]:=rfl
 have td:wSl none (Gc 2) (.val t.d)=Gc (.val (.tup [.int t.p,.int t.k])):=rfl
 have dt:dr S t.d=.val t.d:=rfl
 rw[<-KD]at e2
 simp only[AM]at e1⊢
 simp only[ur,vD,wB]at e2
 simp -implicitDefEqProofs[Cv,ID,dt,td,e1,rk,MB,e2]
end
section
variable{S:Sto}{ls:Wp Ld}{G B N K:Nat}
def ZZ{k:Nat}(hk:k<=20){p:Nat}:BH (.val (.lst [.tup [.int 0,.int 1]])) (.val (.int k))=Gc (.own ((AS k [] p).map aD)):=by
 have hs:k<=sizeLine:=AK (by lia)
 have h1:(k:Int)<2^63:=by lia
 have h2: -(2:Int)^63<=k:=by lia
 rw[OT,Kr,vF (by simp[hs];lia)]
 simp[Nh]
def Oj{p:Nat}(hk:k<=20)(hkind:∀l∈ls,l.k<k)(hp:∀l∈ls,p<l.ow.length)(h:Bd ls G B N K):∃q S',CS [.tup (ls.map Ld.d),.int k,.int p] S=Gc (.ref q,S')/\S'[q]?=Gc (.lst ((AS k ls p).map aD))/\Bh [] S S':=by
 have hq:(S++[Cl.lst ((AS k [] p).map aD)])[S.length]?=Gc (.lst ((AS k [] p).map aD)):=uZ
 generalize hQ:S.length=q at*
 obtain⟨E',S',ef,i,o4,o5,o6,f1,f2,rfl,f3,f4⟩:=DZ (gs:=[]) (t:=tTp [tNm 4,tNm 5,tNm 6]) (b:=Lw (AB Ak [eIx (eV 3) (eV 4),AB Ag [BM [eV 5,eI 1],eIx (eV 6) (eV 2)]]) (eV 3) (eV 4))
  (I:=λrs E S'=>∃(i:Nat) (o4 o5 o6:uM D),rs=(ls.drop i).map Ld.d/\i<=ls.length/\E=[Gc (.tup (ls.map Ld.d)),Gc (.int k),Gc (.int p),Gc (.ref q),o4,o5,o6]/\S'[q]?=Gc (.lst ((AS k (ls.take i) p).map aD))/\Bh [] S S')
  (λ_ _ _ _=>AI) (ds:=ls.map Ld.d) (E:=[Gc (.tup (ls.map Ld.d)),Gc (.int k),Gc (.int p),Gc (.ref q),none,none,none]) (S:=S++[Cl.lst ((AS k [] p).map aD)])
  ⟨0,none,none,none,by simp,vZ _,rfl,by simpa using hq,.app⟩ (by
    rintro dd rs E T ⟨i,o4,o5,o6,i1,i2,rfl,i3,i4⟩
    have hlt:i<ls.length:=by
     rcases yU i ls.length with w|w
     .exact w
     .rw[vn w]at i1;cases i1
    rw[vK hlt,uV]at i1
    injection i1 with z1 z2
    subst z1 z2
    have hm:ls[i]∈ls:=wg hlt
    have htk:ls.take (i+1)=ls.take i++[ls[i]]:=by rw[yQ,uN hlt];rfl
    have tm:=HG (S:=T) (h.nSz hm) ((h.at hm p).sz h.g0 h.gK h.hB) (by have:=h.hK;lia)
    rw[G9]at tm
    have zb:30*(B*N)<2^K:=by have:=h.hb;lia
    have zb1:B*N<2^K:=by have:=h.hb;lia
    have pl:=H0 (S:=T) ((h.take i).kind (p:=p) (kd:=ls[i].k)|>.sz h.g0 h.gK zb) ((h.mul hm p).sz h.g0 h.gK zb1) (by have:=h.hK;lia)
    have hkd:=hkind _ hm
    have at1:atI ((AS k (ls.take i) p).map aD) (ls[i].k:Int)=Gc (aD (kindS (ls.take i) p ls[i].k)):=BU (by
     rw[uR,AS,uR,vW hkd];rfl)
    have ix1:ixN ((AS k (ls.take i) p).map aD).length (ls[i].k:Int)=Gc ls[i].k:=Ic (by simp[AS];exact hkd)
    have ef:((AS k (ls.take i) p).map aD).set ls[i].k (aD (kindS (ls.take i) p ls[i].k+(ls[i].n:Rat)*ownAt ls[i] p))=(AS k (ls.take (i+1)) p).map aD:=by rw[htk,JW,xH]
    have ow:=Z2 (x:=ls[i]) (hp _ hm)
    have dq:=Aq i3
    have cq:=AN i3
    generalize (AS k (ls.take i) p).map aD=V at*
    generalize hx:ls[i]=x at*
    generalize aD (kindS (ls.take i) p x.k+(x.n:Rat)*ownAt x p)=D1 at*
    generalize aD ((x.n:Rat)*ownAt x p)=D2 at*
    generalize aD (kindS (ls.take i) p x.k)=D3 at*
    have lq:=i4.len
    refine⟨_,[Gc (.tup (ls.map Ld.d)),Gc (.int k),Gc (.int p),Gc (.ref q),Gc (.int x.k),Gc (.int x.n),Gc (shD x.ow)],T.set q (.lst (V.set x.k D1)),by simp[Ld.d];rfl,?_,i+1,_,_,_,rfl,hlt,rfl,by rw[<-ef];exact uX (AV i3),Bh.new (A:=[]) (B:=[q]) i4 (.set (by simp)) (by intro n hn';simp at hn';lia)⟩
    generalize aD (ownAt x p)=D4 at*
    simp[dq,at1,tm,pl,cq,ix1,shD,ow])
 have hz:i=ls.length:=by
  have:=congrArg yi f1
  simp at this
  lia
 subst hz
 rw[vI]at f3
 refine⟨q,S',?_,f3,f4⟩
 have m1:=ZZ hk (p:=p)
 generalize (AS k [] p).map aD=V0 at*
 generalize ls.map Ld.d=V1 at*
 simp[CS,KR,-Kr,m1,hQ,ef]
noncomputable def rL(L:Wp Ld)(z:Nat×Rat):Ld:=⟨(AL L z.1).k,1,[z.2]⟩
noncomputable def rD(z:Nat×Rat):D:=.tup [.int z.1,aD z.2]
def NK{t:Tr}{ls:Wp Ld}{ds:Wp AR}{st:Stt}{rs:Wp (Nat×Rat)}(h:Ah t ls ds)(hst:runs t (st0 t ls) ds=st)(hi:∀z∈rs,z.1<st.AA.length)(bd:Bd (rs.map (rL st.AA)) G B 1 K):∃q S',B0 [AM t ls ds,.lst (rs.map rD)] S=Gc (.ref q,S')/\S'[q]?=Gc (.lst ((AS t.k (rs.map (rL st.AA)) 0).map aD))/\Bh [] S S'/\S.length<=q:=by
 obtain⟨t1,t2,t3,t4,t5,t6⟩:=h.tr
 have kinds:=h.fin.kind
 rw[hst]at kinds
 have hq:(S++[Cl.lst ((AS t.k [] 0).map aD)])[S.length]?=Gc (.lst ((AS t.k [] 0).map aD)):=uZ
 generalize hQ:S.length=q at*
 obtain⟨E',S',ef,i,o3,o4,o5,f1,f2,rfl,f3,f4⟩:=DZ (gs:=[]) (t:=tTp [tNm 3,tNm 4]) (b:=AQ (A9 5 (eIx (eIx (AB C5 [eV 0,eOp (o1 EB) [eIx (eV 0) (eI 2)]]) (eV 3)) (eI 0)))
  (Lw (AB Ak [eIx (eV 2) (eV 5),eV 4]) (eV 2) (eV 5)))
  (I:=λes E S'=>∃(i:Nat) (o3 o4 o5:uM D),es=(rs.drop i).map rD/\i<=rs.length/\E=[Gc (AM t ls ds),Gc (.lst (rs.map rD)),Gc (.ref q),o3,o4,o5]/\S'[q]?=Gc (.lst ((AS t.k ((rs.take i).map (rL st.AA)) 0).map aD))/\Bh [] S S')
  (λ_ _ _ _=>AI) (ds:=rs.map rD) (E:=[Gc (AM t ls ds),Gc (.lst (rs.map rD)),Gc (.ref q),none,none,none]) (S:=S++[Cl.lst ((AS t.k [] 0).map aD)])
  ⟨0,none,none,none,by simp,vZ _,rfl,by simpa using hq,.app⟩ (by
    rintro dd es E T ⟨i,o3,o4,o5,i1,i2,rfl,i3,i4⟩
    have hlt:i<rs.length:=by
     rcases yU i rs.length with w|w
     .exact w
     .rw[vn w]at i1;cases i1
    rw[vK hlt,uV]at i1
    injection i1 with z1 z2
    subst z1 z2
    have hm0:rs[i]∈rs:=wg hlt
    have hm:rL st.AA rs[i]∈rs.map (rL st.AA):=uo.mpr ⟨_,hm0,rfl⟩
    have hz:=hi _ hm0
    have htk:(rs.take (i+1)).map (rL st.AA)=(rs.take i).map (rL st.AA)++[rL st.AA rs[i]]:=by rw[yQ,uN hlt,ve];rfl
    have zb:30*(B*1)<2^K:=by have:=bd.hb;lia
    have one:ownAt (rL st.AA rs[i]) 0=rs[i].2:=rfl
    have bt:Bd ((rs.take i).map (rL st.AA)) G B 1 K:=by rw[zD];exact bd.take i
    have pl:=H0 (S:=T) (bt.kind (p:=0) (kd:=(rL st.AA rs[i]).k)|>.sz bd.g0 bd.gK zb) ((bd.at hm 0).sz bd.g0 bd.gK bd.hB) (by have:=bd.hK;lia)
    rw[one]at pl
    have hkd:(rL st.AA rs[i]).k<t.k:=kinds (AL st.AA rs[i].1) (AU hz)
    have at1:atI ((AS t.k ((rs.take i).map (rL st.AA)) 0).map aD) ((rL st.AA rs[i]).k:Int)=Gc (aD (kindS ((rs.take i).map (rL st.AA)) 0 (rL st.AA rs[i]).k)):=BU (by
     rw[uR,AS,uR,vW hkd];rfl)
    have ix1:ixN ((AS t.k ((rs.take i).map (rL st.AA)) 0).map aD).length ((rL st.AA rs[i]).k:Int)=Gc (rL st.AA rs[i]).k:=Ic (by simp[AS];exact hkd)
    have ef:((AS t.k ((rs.take i).map (rL st.AA)) 0).map aD).set (rL st.AA rs[i]).k (aD (kindS ((rs.take i).map (rL st.AA)) 0 (rL st.AA rs[i]).k+rs[i].2))=(AS t.k ((rs.take (i+1)).map (rL st.AA)) 0).map aD:=by
     rw[htk,JW,xH,one]
     have:((rL st.AA rs[i]).n:Rat)*rs[i].2=rs[i].2:=by
      show((1:Int):Rat)*rs[i].2=_
      grind
     rw[this]
    obtain⟨ql,T2,le,lc,s2,ll⟩:=Sl (S:=T) h (uP ds.length)
    rw[vI,hst]at lc
    have iq:=s2.get i3 (by simp)
    have al:atI (st.AA.map Ld.d) (rs[i].1:Int)=Gc (AL st.AA rs[i].1).d:=BU (by rw[uR,DN hz];rfl)
    have dl:=Aq lc
    have dq:=Aq iq
    have cq:=AN iq
    have pl2:=λ(T:Sto)=>H0 (S:=T) (bt.kind (p:=0) (kd:=(rL st.AA rs[i]).k)|>.sz bd.g0 bd.gK zb) ((bd.at hm 0).sz bd.g0 bd.gK bd.hB) (by have:=bd.hK;lia)
    rw[one]at pl2
    have kk:(rL st.AA rs[i]).k=(AL st.AA rs[i].1).k:=rfl
    rw[kk]at pl2 at1 ix1 ef
    generalize (AS t.k ((rs.take i).map (rL st.AA)) 0).map aD=V at*
    generalize rs[i]=z at*
    generalize hx:AL st.AA z.1=x at*
    generalize aD (kindS ((rs.take i).map (rL st.AA)) 0 x.k+z.2)=D1 at*
    generalize aD (kindS ((rs.take i).map (rL st.AA)) 0 x.k)=D3 at*
    have lq:=i4.len
    refine⟨_,[Gc (AM t ls ds),Gc (.lst (rs.map rD)),Gc (.ref q),Gc (.int z.1),Gc (aD z.2),Gc (.int x.k)],T2.set q (.lst (V.set x.k D1)),by simp[rD];rfl,?_,i+1,_,_,_,rfl,hlt,rfl,by rw[<-ef];exact uX (AV iq),Bh.new (A:=[]) (B:=[q]) (i4.trans s2) (.set (by simp)) (by intro n hn';simp at hn';lia)⟩
    generalize aD z.2=D4 at*
    simp only[AM]at le⊢
    simp[le,dl,al,Ld.d,dq,at1,pl2,cq,ix1])
 have hz:i=rs.length:=by
  have:=congrArg yi f1
  simp at this
  lia
 subst hz
 rw[vI]at f3
 refine⟨q,S',?_,f3,f4,by lia⟩
 have m1:=ZZ (k:=t.k) (by lia) (p:=0)
 generalize (AS t.k [] 0).map aD=V0 at*
 generalize rs.map rD=V1 at*
 have dt:∀T:Sto,dr T t.d=.val t.d:=λ_=>rfl
 have as1:asS (.val t.d)=Gc [.int t.p,.int t.k,.int t.b,shD t.ho,.int t.h,.int t.l]:=rfl
 simp only[AM]at ef⊢
 simp[B0,JP,-Kr,dt,as1,m1,hQ,ef]
end
section
variable{S:Sto}{t:Tr}{ls:Wp Ld}{ds:Wp AR}{st:Stt}
theorem jk{f:Nat->Int}{i:Nat}:∀{xs:Wp Nat},xs.Nodup->((xs.filter λj=>j==i).map f).sum=if i∈xs then f i else 0
 | [],_=>rfl
 |x::xs,h=>by
  have hn:=wL.mp h
  have ih:=jk (f:=f) (i:=i) hn.2
  by_cases e:x=i
  .subst e
   rw[vL hn.1]at ih
   rw[xI,vF (by simp),uV,uj,ih,vF uO]
   simp
  .rw[xI,vL (by simpa using e),ih]
   have:(i∈x::xs)=(i∈xs):=by simp[vj e]
   simp only[this]
def mL{p i:Nat}(hm:∀x∈st.AA,HC t st x)(hp:p<t.p)(hi:i<st.AA.length):0<=tkI t st p i:=(hm _ (AU hi)).fl _ (NB hm hp hi)
def bR{p i:Nat}(hm:∀x∈st.AA,HC t st x)(hp:p<t.p)(hi:i<st.AA.length):(((GK t st p).filter λj=>j==i).map λj=>tkI t st p j).sum=tkI t st p i:=by
 rw[jk WS]
 split
 .rfl
 .rename_i h
  have:¬0<tkI t st p i:=λz=>h (wJ.mpr ⟨vC.mpr hi,by simpa using z⟩)
  have:=mL hm hp hi
  lia
def lP:=A9 2 (eOp (o2 Cr) [eV 2,eOp (o1 Od) [Az [1] 2 (DY (eV 3)) (tTp [tNm 1,tNm 2]) (eOp (o2 wEq) [eV 1,eV 0]) (eV 2)]])
theorem OP{i:Nat}{gs:Gd}{X:uM D}(hg:gOk gs S)(hm:∀x∈st.AA,HC t st x)(hi:i<st.AA.length)(hl:st.AA.length<=20):∀{es:Wp (Nat×Nat)} {m:Int} {o:uM D},(∀z∈es,z.1<t.p/\S[z.2]?=Gc (.lst (El t st z.1)))->∃o',Jj gs (tNm 3) lP (es.map λz=>D.ref z.2) [X,Gc (.int i),Gc (.int m),o] S=Gc (.nx,[X,Gc (.int i),Gc (.int (m+(es.map λz=>tkI t st z.1 i).sum)),o'],S)
 | [],m,o,_=>⟨o,by rw[vM,Fe hg];simp⟩
 |z::es,m,o,h=>by
  obtain⟨z1,z2⟩:=h z uO
  obtain⟨o',ih⟩:=OP (X:=X) hg hm hi hl (es:=es) (m:=m+tkI t st z.1 i) (o:=Gc (.ref z.2)) λy hy=>h y (uL _ hy)
  have ln:(GK t st z.1).length<=20:=uH (wc _ _) (by simpa using hl)
  have c:=C3 (gs:=[(z.2,El t st z.1)]) (t:=tTp [tNm 1,tNm 2]) (c:=eOp (o2 wEq) [eV 1,eV 0]) (f:=eV 2) (C:=[Gc (.int i)]) (m:=2) (e:=Ul t st z.1) (g:=λj=>D.int (tkI t st z.1 j)) (b:=λj=>j==i) (S:=S) (λg hg=>by rw[uv.mp hg];exact AN z2) (xs:=GK t st z.1) (acc:=[]) (os:=[none,none]) rfl (uH (show _<=50 by simp;lia) (AK (by decide))) (by
   intro j _ os ho
   obtain⟨q1,q2,rfl⟩:∃q1 q2,os=[q1,q2]:=by
    match os,ho with
    | [a,b],_=>exact⟨a,b,rfl⟩
   have e:((j:Int)==(i:Int))=(j==i):=by
    rw[xh,xN,xN]
    lia
   exact⟨[Gc (.int j),Gc (.int (tkI t st z.1 j))],rfl,by simp[Ul],by simp[e],by simp⟩)
  have is:=CF (((GK t st z.1).filter λj=>j==i).map λj=>tkI t st z.1 j)
  rw[uh]at is
  have pk:=bR hm z1 hi
  have sq:=C7 z2
  refine⟨o',?_⟩
  rw[uV,uV,DO hg,uj,show m+(tkI t st z.1 i+(es.map λz=>tkI t st z.1 i).sum)=m+tkI t st z.1 i+(es.map λz=>tkI t st z.1 i).sum by lia,<-ih]
  change BA [(z.2,El t st z.1)] _ _ _ (El t st z.1) [] _ S=_ at c
  have is':Jh (((GK t st z.1).filter λj=>j==i).map λj=>D.int (tkI t st z.1 j))=Gc (((GK t st z.1).filter λj=>j==i).map λj=>tkI t st z.1 j):=is
  simp only[ur,vD]at c
  generalize ((GK t st z.1).filter λj=>j==i).map (λj=>D.int (tkI t st z.1 j))=V1 at*
  generalize ((GK t st z.1).filter λj=>j==i).map (λj=>tkI t st z.1 j)=V2 at*
  generalize tkI t st z.1 i=tz at*
  generalize El t st z.1=RW at*
  simp[lP,MB,sq,c,is',pk]
def Xz{i qt:Nat}{ps:Wp (Nat×Nat)}(hm:∀x∈st.AA,HC t st x)(hi:i<st.AA.length)(hl:st.AA.length<=20)(hq:S[qt]?=Gc (.lst (ps.map λz=>D.ref z.2)))(hr:∀z∈ps,z.1<t.p/\S[z.2]?=Gc (.lst (El t st z.1))):Fq [.ref qt,.int i] S=Gc (.int ((ps.map λz=>tkI t st z.1 i).sum),S):=by
 obtain⟨o',e⟩:=OP (X:=Gc (.ref qt)) (gs:=[(qt,ps.map λz=>D.ref z.2)]) (S:=S) (λg hg=>by rw[uv.mp hg];exact AN hq) hm hi hl (es:=ps) (m:=0) (o:=none) hr
 have sq:=C7 hq
 rw[Int.zero_add]at e
 unfold Fq
 rw[show NC=(AQ (A9 2 (eI 0)) (AQ (Ht (DY (eV 0)) (tNm 3) lP) (Ac (eV 2))))from rfl]
 generalize ps.map (λz=>D.ref z.2)=V at*
 generalize lP=TB at*
 simp[sq,e]
def oP{f:Ev}{E:En}{n:Nat}(h:f E S=Gc (.int n,S))(hn:n<=1000):eLR f E S=Gc (.lst ((W1 n).map λi:Nat=>D.int i),S):=by
 show(f E S).bind (lrK false)=_
 rw[h,Au]
 show(if(decide ((0:Int)<=(n:Int)) && decide ((n:Int)<=1000))=true then fin false (.own (Jd 0 (n:Int).toNat)) S else none)=_
 rw[vF (by simp;lia),KD]
 rfl
def mC{i:Nat}(h:Ah t ls ds)(hh:HOk t)(ho:Kv ls/\t.ho.sum=1)(hst:runs t (st0 t ls) ds=st)(hi:i<st.AA.length):∃S',BA [] (tNm 2) Ai (AB Bs [eV 0,eV 2,eV 1]) ((W1 t.p).map λp:Nat=>D.int p) [] [Gc (AM t ls ds),Gc (.int i),none] S=Gc ((CK t st (AL st.AA i)).map aD,S')/\CZ [.lst ((CK t st (AL st.AA i)).map aD)] S'=Gc (.tup [.int (AL st.AA i).n,.int 1],S')/\Bh [] S S':=by
 have t2:=h.tr.2.1
 have hm:=K4 h hh ho
 have on:=h.ones ho.1 ds.length
 have hs:=h.Xk ho.1 ho.2 ds.length
 have inv:=h.fin
 rw[vI]at on hs
 rw[hst]at hm on hs inv
 obtain⟨S',e,s⟩:=IK (gs:=[]) (t:=tNm 2) (f:=AB Bs [eV 0,eV 2,eV 1]) (C:=[Gc (AM t ls ds),Gc (.int i)]) (m:=1) (e:=λp:Nat=>D.int p) (g:=λp=>aD ((CK t st (AL st.AA i)).getD p 0)) (S0:=S) (λ_ _=>AI) (xs:=W1 t.p) (acc:=[]) (os:=[none]) (S:=S) rfl .refl (uH (show _<=50 by simp;lia) (AK (by decide))) (by
  intro p hp os T ho' hT
  obtain⟨o1,rfl⟩:=MX ho'
  obtain⟨T2,e,s⟩:=Qw (S:=T) h hh (vC.mp hp) (i:=i) (by rw[hst];exact hi)
  rw[hst]at e
  refine⟨[Gc (.int p)],T2,rfl,by simp,?_,hT.trans s⟩
  generalize aD ((CK t st (AL st.AA i)).getD p 0)=R at*
  simp[e])
 have hx:=AU hi
 have H:=hm _ hx
 have el:(W1 t.p).map (λp=>aD ((CK t st (AL st.AA i)).getD p 0))=(CK t st (AL st.AA i)).map aD:=by
  rw[<-H.cM,range_getD aD]
 obtain⟨G,B,g0,gg,bb,k⟩:=H.ok
 have su:=WA (S:=S') (K:=2910) g0 (wm gg (vS (by decide) (by decide))) (by decide) k (by
  have h1:(CK t st (AL st.AA i)).length*B<=4*2^2905:=v5 H.len (xE bb)
  exact ug h1 (by decide))
 rw[RZ hh (on _ hx) hs (by rw[inv.own _ hx,inv.hold]),G9]at su
 rw[el]at e
 exact⟨S',by simpa using e,su,s⟩
end
def Ok.nn(h:Ok G B r)(hG:0<G):0<=r:=by
 obtain⟨z,e,_⟩:=h
 have g:(0:Rat)<(G:Rat):=by exact_mod_cast hG
 have hz:(0:Rat)<=(z:Rat):=by exact_mod_cast vZ z
 rcases(Rat.le_total:0<=r\/r<=0)with w|w
 .exact w
 .have:=v8 w (yx g)
  rw[e,Rat.zero_mul]at this
  have z0:(z:Rat)=0:=AA7 this hz
  rw[z0]at e
  rcases Rat.mul_eq_zero.mp e with e|e
  .rw[e];exact ABN
  .rw[e]at g;exact absurd g (by decide)
theorem aC:∀{rs:Wp Rat},(∀r∈rs,0<=r)->0<=rs.sum
 | [],_=>by rw[zY];exact ABN
 |r::rs,h=>by
  rw[uj]
  have h1:=h r uO
  have h2:=aC λq hq=>h q (uL _ hq)
  grind
theorem Su:∀{rs:Wp Rat} {x},(∀r∈rs,0<=r)->x∈rs->x<=rs.sum
 |r::rs,x,h,hx=>by
  rw[uj]
  have h1:=h r uO
  have h2:=aC λq hq=>h q (uL _ hq)
  rcases uS.mp hx with e|e
  .rw[e];grind
  .have:=Su (λq hq=>h q (uL _ hq)) e
   grind
def gf{r:Rat}(h:r<=1):r.num<=r.den:=by
 have e:=DH r
 have d:(0:Rat)<(r.den:Rat):=by exact_mod_cast r.den_pos
 have h1:(r.num:Rat)<=(r.den:Rat):=by
  have:(r.num:Rat)=r*(r.den:Rat):=by
   have:=Hf r
   grind
  rw[this]
  have:=v8 h (yx d)
  rwa [Rat.one_mul]at this
 exact_mod_cast h1
def ZF(hG:0<G)(gK:G<2^K)(hK:2*K<=7990)(hr:∀r∈rs,Ok G B r)(hb:rs.length*B<2^K):CB [shD rs] S=Gc (aD rs.sum,S):=by
 obtain⟨o',e⟩:=ML (F:=EO) (λS h1 h2 h3=>Wr h1 h2 h3) (gs:=[]) (S:=S) AI (X:=Gc (shD rs)) (B:=B) hG gK hK (rs:=rs) (acc:=0) (m:=0) (o:=none) (by rw[Nat.zero_mul];exact Ok.zero) hr (by simpa using hb)
 have ez:(0:Rat)+rs.sum=rs.sum:=by grind
 rw[ez,LH]at e
 simp[CB,Mh,Ce,shD]at e⊢
 simp[e]
def fN(e1:evs [oa,ob] E S=Gc ([.int i,.int j],S1))(h:i<=j)(e2:oc E S1=Gc (.int k,S2)):Tw oa ob oc E S=Gc (.bl (decide (j<=k)),S2):=by
 unfold Tw
 rw[e1]
 show(if i<=j then _ else _)=_
 rw[vF h,e2]
 rfl
def QD:Bn [.int i] S=Gc (.bl true,S):=by
 have k1:St.Kd.int.isA "int"=true:=by decide
 have k2:St.Kd.int.isA "bool"=false:=by decide
 simp[k1,k2,Bn,Cs,kdW]
def KW:BP [.int i,.int j] S=Gc (.bl (decide (j<=i)),S):=by
 have e:=QD (S:=S) (i:=i)
 simp[BP,Dz,e]
def within_int:AX [.int i,.int j,.int k] S=Gc (.bl (decide (j<=i) && decide (i<=k)),S):=by
 have e:=KW (S:=S) (i:=i) (j:=j)
 by_cases h:j<=i
 .simp[AX,Bx,e,h]
 .simp[AX,Bx,e,h]
def QI(h0:0<=r)(h1:r<=1):Cz [aD r] S=Gc (.bl true,S):=by
 have g:=aG (S:=S) r.num r.den
 have ge:Oi r.num r.den=1:=by
  have:=r.reduced
  unfold Nat.Coprime at this
  simp[Oi,this]
 rw[ge]at g
 have n0:0<=r.num:=ABO.mpr h0
 have n1:=gf h1
 have d1:(1:Int)<=r.den:=by have:=r.den_pos;omega
 have w:=QD (S:=S) (i:=r.num)
 have f:=KW (S:=S) (i:=r.den) (j:=1)
 have k3:St.Kd.tup.isA "tuple"=true:=by decide
 have am:FY [aD r] S=Gc (.bl true,S):=by
  simp[FY,KS,aD,kdW,k3,w,f,d1,g]
 have ll:Tw (eC (.int 0)) (eOp (o2 wIx) [eV 0,eC (.int 0)]) (eOp (o2 wIx) [eV 0,eC (.int 1)]) [Gc (aD r)] S=Gc (.bl true,S):=by
  rw[fN (i:=0) (j:=r.num) (k:=r.den) (S1:=S) (S2:=S) (by simp[aD]) n0 (by simp[aD])]
  simp[n1]
 simp[Cz,Ll,am,ll]
def kN{α:Type}{f:Ev}{e:α->D}{C:En}{os:En}{xs:Wp α}(hg:gOk gs S)(hz:xs.length<=1000)(hm:os.length=m)(h:∀x∈xs,∀os,os.length=m->∃us,us.length=m/\t (e x) (C++os) S=Gc (C++us)/\f (C++us) S=Gc (.bl true,S)):∃r,BA gs t Ai f (xs.map e) [] (C++os) S=Gc (r,S)/\(bls r).map (λbs=>bs.all id)=Gc true:=by
 have:=A6 (gs:=gs) (t:=t) (f:=f) (C:=C) (m:=m) (e:=e) (g:=λ_=>D.bl true) (S:=S) hg (xs:=xs) (acc:=[]) (os:=os) hm (AK (by simpa using hz)) h
 refine⟨_,this,?_⟩
 rw[ur,Mr (λ_=>true)]
 simp
def P8{rs:Wp Rat}(hp:rs.length=P)(h4:P<=4)(hG:0<G)(gK:G<2^K)(hK:2*K<=7990)(hr:∀r∈rs,Ok G B r)(hb:4*B<2^K)(hs:rs.sum=1):Dh [.int P,shD rs] S=Gc (.bl true,S):=by
 have nn:∀r∈rs,0<=r:=λr hr'=>(hr r hr').nn hG
 have le1:∀r∈rs,r<=1:=λr hr'=>by rw[<-hs];exact Su nn hr'
 have k3:St.Kd.tup.isA "tuple"=true:=by decide
 have T:=ZF (S:=S) hG gK hK hr (ug (ui _ (by omega)) hb)
 rw[hs,ZM]at T
 obtain⟨bs,e1,e2⟩:=kN (S:=S) (f:=AB Cz [eV 0]) (e:=aD) (C:=[]) (os:=[none]) (xs:=rs) (gs:=[]) (t:=tNm 0) AI (by omega) rfl (by
  intro r hr' os ho
  match os,ho with
  | [a],_=>
  refine⟨[Gc (aD r)],rfl,by simp,?_⟩
  have:=QI (S:=S) (nn r hr') (le1 r hr')
  simp[this])
 have T2:CB [D.tup (rs.map aD)] S=Gc (.tup [.int 1,.int 1],S):=T
 have it:Aa [shD rs,.int P] S=Gc (.bl true,S):=by
  simp[Aa,Bq,shD,kdW,k3,hp]
 have hE:Lb (.tup [.int 1,.int 1]) Pf=true:=rfl
 have hD:deq (.tup [.int 1,.int 1]) Pf=true:=rfl
 simp only[ur]at e1
 obtain⟨b',e3,e4⟩:=xG.mp e2
 have hk:dr S Pf=.val Pf:=rfl
 simp[Dh,JH,it]
 simp[shD,MB,e1,e3,e4,T2,hk,hE,hD]
def UM{x:Ld}(ht:Hu t)(h1:x.k<t.k)(h2:0<=x.n)(hp:x.ow.length=t.p)(hG:0<G)(gK:G<2^K)(hK:2*K<=7990)(hr:∀r∈x.ow,Ok G B r)(hb:4*B<2^K)(hs:x.ow.sum=1):Ea [t.d,x.d] S=Gc (.bl true,S):=by
 have O:=P8 (S:=S) hp ht.2.1 hG gK hK hr hb hs
 have k3:St.Kd.tup.isA "tuple"=true:=by decide
 have it:Aa [x.d,.int 3] S=Gc (.bl true,S):=by
  simp[Aa,Bq,Ld.d,kdW,k3]
 have w:=within_int (S:=S) (i:=x.k) (j:=0) (k:=(t.k:Int)-1)
 have w1:(x.k:Int)<=(t.k:Int)-1:=by omega
 have f:=KW (S:=S) (i:=x.n) (j:=0)
 have ik:Dw [t.d,.int x.k] S=Gc (.bl true,S):=by
  simp[Dw,JZ,Tr.d,w,w1]
 simp[Ea,NS,it]
 generalize hsd:shD x.ow=sd at*
 have:x.d=.tup [.int x.k,.int x.n,sd]:=by rw[<-hsd];rfl
 rw[this]
 simp[ik,f,h2]
 simp[Tr.d,O]
noncomputable def ovl(t:Tr)(st:Stt)(x:Ld):Wp Ld:=if 0<BX t st x then [⟨x.k,BX t st x,(Ay t st x).map λr=>r*(((1:Int):Rat) / (BX t st x:Rat))⟩]else []
noncomputable def ovs(t:Tr)(st:Stt):Wp Ld:=st.AA.flatMap (ovl t st)
def Pd{t:Tr}{st:Stt}:st.AA.flatMap (K5 t st)=(ovs t st).map Ld.d:=by
 unfold ovs
 rw[List.map_flatMap]
 congr 1
 funext x
 unfold K5 ovl
 split<;>rfl
def La{t:Tr}{st:Stt}{y:Ld}(h:y∈ovs t st):∃x∈st.AA,0<BX t st x/\y=⟨x.k,BX t st x,(Ay t st x).map λr=>r*(((1:Int):Rat) / (BX t st x:Rat))⟩:=by
 obtain⟨x,hx,hy⟩:=List.mem_flatMap.mp h
 unfold ovl at hy
 split at hy
 .exact⟨x,hx,by assumption,by simpa using hy⟩
 .cases hy
def VJ(r:Rat):r-(flI r:Rat)<1:=by
 have d0:=den_pos r
 have h1:r.num % (r.den:Int)<r.den:=xS _ d0
 rw[V5]
 have hd:(0:Rat)<(((r.den:Int):Int):Rat):=by exact_mod_cast d0
 rw[Rat.div_lt_iff hd,Rat.one_mul]
 exact_mod_cast h1
def Ok.small{G B:Nat}{r:Rat}(hG:0<G)(h:Ok G B r)(g:r<=1):Ok G G r:=by
 obtain⟨z,e,hz⟩:=h
 refine⟨z,e,?_⟩
 have hg:(0:Rat)<=(G:Rat):=by exact_mod_cast vZ G
 have:=v8 g hg
 rw[e,Rat.one_mul]at this
 exact_mod_cast this
def Ok.part{G:Nat}{s:Rat}{l:Int}(h:Ok G G s)(h0:0<l)(h1:l<=4):Ok (G*12) (G*12) (s*(((1:Int):Rat) / (l:Rat))):=by
 obtain⟨z,e,hz⟩:=h
 have k:∀(m:Nat),(m:Int)*l=12->m<=12->Ok (G*12) (G*12) (s*(((1:Int):Rat) / (l:Rat))):=λm hm hl=>by
  refine⟨z*m,?_,v5 hz hl⟩
  have l0:(l:Rat)≠0:=by
   have:l≠0:=by lia
   exact_mod_cast this
  have hm':(m:Rat)*(l:Rat)=12:=by exact_mod_cast congrArg (λi:Int=>(i:Rat)) hm
  push_cast
  rw[<-e]
  generalize (l:Rat)=L at*
  generalize (m:Rat)=M at*
  generalize (G:Rat)=g at*
  rw[<-hm']
  grind
 have:l=1\/l=2\/l=3\/l=4:=by lia
 rcases this with rfl|rfl|rfl|rfl
 .exact k 12 (by decide) (by decide)
 .exact k 6 (by decide) (by decide)
 .exact k 4 (by decide) (by decide)
 .exact k 3 (by decide) (by decide)
theorem OO:∀{rs:Wp Rat},(∀r∈rs,r<=1)->rs.sum<=(rs.length:Rat)
 | [],_=>by simp
 |r::rs,h=>by
  have a:=h r uO
  have b:=OO (rs:=rs) λq hq=>h q (uL _ hq)
  rw[uj,vY]
  push_cast
  grind
section
variable{t:Tr}{ls:Wp Ld}{ds:Wp AR}{st:Stt}{G B:Nat}
structure Stl(t:Tr)(st:Stt)(G:Nat)(x:Ld):Prop where
 ok:∀r∈Ay t st x,Ok (G*10) (G*10) r
 l4:BX t st x<=4
 l0:0<=BX t st x
def WD(hh:HOk t)(hG:0<G)(h1:∀x∈st.AA,∀r∈x.ow,Ok G B r)(h2:∀r∈st.hold,Ok G B r)(hm:∀x∈st.AA,HC t st x):∀x∈st.AA,Stl t st G x:=by
 intro x hx
 have H:=hm x hx
 have n1:x.n<=((2^147:Nat):Int):=by
  have:=H.n1
  have e:((2^147:Nat):Int)=2^147:=by decide
  lia
 have due:=TU hh (h1 x hx) h2 H.n0 n1
 have g10:0<G*10:=by lia
 have ok:∀r∈Ay t st x,Ok (G*10) (G*10) r:=λr hr=>by
  obtain⟨y,hy,rfl⟩:=uo.mp hr
  exact((due y hy).oE g10).small g10 (yx (VJ y))
 have le1:∀r∈Ay t st x,r<=1:=λr hr=>by
  obtain⟨y,hy,rfl⟩:=uo.mp hr
  exact yx (VJ y)
 have nn:∀r∈Ay t st x,0<=r:=λr hr=>(ok r hr).nn g10
 have s:=OO le1
 have ln:(Ay t st x).length<=4:=by
  unfold Ay
  rw[ux]
  exact H.len
 rw[H.sum]at s
 refine⟨ok,?_,?_⟩
 .have:BX t st x<=((Ay t st x).length:Int):=by exact_mod_cast s
  lia
 .have z:=H.sum
  have:(0:Rat)<=(Ay t st x).sum:=by
   rcases h:Ay t st x with _|⟨r,rs⟩
   .simp
   .rw[h]at nn
    exact Rat.le_trans (nn r uO) (Su nn uO)
  rw[z]at this
  exact_mod_cast this
def WY(hs:∀x∈st.AA,Stl t st G x):∀y∈ovs t st,0<y.n/\y.n<=4/\∀r∈y.ow,Ok (G*10*12) (G*10*12) r:=λy hy=>by
 obtain⟨x,hx,h0,rfl⟩:=La hy
 refine⟨h0,(hs x hx).l4,λr hr=>?_⟩
 obtain⟨q,hq,rfl⟩:=uo.mp hr
 exact((hs x hx).ok q hq).part h0 (hs x hx).l4
def Yf(hm:∀x∈st.AA,HC t st x):Kv (ovs t st):=λy hy=>by
 obtain⟨x,hx,h0,rfl⟩:=La hy
 show((Ay t st x).map λr=>r*(((1:Int):Rat) / (BX t st x:Rat))).sum=1
 have e:(Ay t st x).map (λr=>r*(((1:Int):Rat) / (BX t st x:Rat)))=(Ay t st x).map λr=>(((1:Int):Rat) / (BX t st x:Rat))*r:=vX λr _=>by grind
 rw[e,Rz,(hm x hx).sum]
 have:(BX t st x:Rat)≠0:=by
  have:BX t st x≠0:=by lia
  exact_mod_cast this
 grind
def RQ{y:Ld}(hm:∀x∈st.AA,HC t st x)(hy:y∈ovs t st):y.ow.length=t.p:=by
 obtain⟨x,hx,h0,rfl⟩:=La hy
 show((Ay t st x).map _).length=t.p
 unfold Ay
 rw[ux,ux]
 exact(hm x hx).cM
theorem SN{α β:Type}{f:α->Wp β}:∀{xs:Wp α},(∀x∈xs,(f x).length<=1)->(xs.flatMap f).length<=xs.length
 | [],_=>uP _
 |x::xs,h=>by
  have a:=h x uO
  have b:=SN (f:=f) (xs:=xs) λy hy=>h y (uL _ hy)
  rw[AAR,vb,vY]
  lia
def W8:(ovs t st).length<=st.AA.length:=SN λx _=>by
 unfold ovl
 split<;>simp
end
section
variable{S:Sto}{t:Tr}{ls:Wp Ld}{ds:Wp AR}{st:Stt}{G B:Nat}{p kd:Nat}
theorem MU:∀{ls:Wp Ld},kindS ls p kd=(ls.map λx=>if x.k=kd then(x.n:Rat)*ownAt x p else 0).sum
 | []=>rfl
 |x::ls=>by rw[OS,MU,uV,uj]
theorem QJ{α:Type}{f:α->Wp Ld}:∀{xs:Wp α},kindS (xs.flatMap f) p kd=(xs.map λx=>kindS (f x) p kd).sum
 | []=>rfl
 |x::xs=>by
  rw[AAR,uV,uj,<-QJ]
  unfold kindS
  rw[ABo,ve,xg]
theorem sum_filter{α:Type}{P:α->Prop} [DecidablePred P] {g:α->Rat}:∀{xs:Wp α},((xs.filter λx=>decide (P x)).map g).sum=(xs.map λx=>if P x then g x else 0).sum
 | []=>rfl
 |x::xs=>by
  rw[xI,uV,uj,<-sum_filter]
  by_cases h:P x
  .simp[h]
  .simp[h]
   grind
noncomputable def RT(t:Tr)(st:Stt)(p:Nat):Wp (Nat×Rat):=(W1 st.AA.length).map λi=>(i,duI t st p i)
def WW(t:Tr)(st:Stt)(p:Nat):Wp (Nat×Rat):=(GK t st p).map λi=>(i,(tkI t st p i:Rat))
noncomputable def Og(t:Tr)(st:Stt)(p:Nat)(x:Ld):Rat:=(CK t st x).getD p 0
def R9{r:Rat}:((1:Int):Rat)*r=r:=by grind
def Yq:kindS ((RT t st p).map (rL st.AA)) 0 kd=(st.AA.map λx=>if x.k=kd then Og t st p x else 0).sum:=by
 rw[MU,uh,RT,uh]
 rw[<-MS λx=>if x.k=kd then Og t st p x else 0]
 congr 1
 refine vX λi _=>?_
 show(if(AL st.AA i).k=kd then((1:Int):Rat)*duI t st p i else 0)=_
 rw[R9]
 rfl
def Yi:kindS ((WW t st p).map (rL st.AA)) 0 kd=(st.AA.map λx=>if 0<flI (Og t st p x)then(if x.k=kd then(flI (Og t st p x):Rat)else 0)else 0).sum:=by
 rw[MU,uh,WW,uh,GK,sum_filter (P:=λi=>0<tkI t st p i)]
 rw[<-MS λx=>if 0<flI (Og t st p x)then(if x.k=kd then(flI (Og t st p x):Rat)else 0)else 0]
 congr 1
 refine vX λi _=>?_
 show(if 0<tkI t st p i then(if(AL st.AA i).k=kd then((1:Int):Rat)*(tkI t st p i:Rat)else 0)else 0)=_
 rw[R9]
 rfl
def Yg{x:Ld}(hp:p<(CK t st x).length):kindS (ovl t st x) p kd=if 0<BX t st x then(if x.k=kd then Og t st p x-(flI (Og t st p x):Rat)else 0)else 0:=by
 unfold ovl
 split
 .rename_i h0
  rw[MU]
  have l0:(BX t st x:Rat)≠0:=by
   have:BX t st x≠0:=by lia
   exact_mod_cast this
  have o:ownAt ⟨x.k,BX t st x,(Ay t st x).map λr=>r*(((1:Int):Rat) / (BX t st x:Rat))⟩ p=(Og t st p x-(flI (Og t st p x):Rat))*(((1:Int):Rat) / (BX t st x:Rat)):=by
   unfold ownAt Ay Og
   simp only[uY,uR,uN hp,Option.map_some,Option.getD_some]
  simp only[uV,vM,uj,zY]
  rw[o]
  split
  .generalize (BX t st x:Rat)=L at*
   grind
  .grind
 .rfl
def Xs(hm:∀x∈st.AA,HC t st x)(hs:∀x∈st.AA,Stl t st G x)(hG:0<G)(hp:p<t.p):kindS ((WW t st p).map (rL st.AA)) 0 kd+kindS (ovs t st) p kd=kindS ((RT t st p).map (rL st.AA)) 0 kd:=by
 rw[Yq,Yi,ovs,QJ,<-Ki]
 congr 1
 refine vX λx hx=>?_
 have hl:p<(CK t st x).length:=by rw[(hm x hx).cM];exact hp
 rw[Yg hl]
 have hd:Og t st p x∈CK t st x:=getD_mem hl
 have f0:=(hm x hx).fl _ hd
 have S0:=hs x hx
 by_cases e:x.k=kd
 .simp only[vF e]
  have a:(if 0<flI (Og t st p x)then(flI (Og t st p x):Rat)else 0)=(flI (Og t st p x):Rat):=by
   split
   .rfl
   .have:flI (Og t st p x)=0:=by lia
    rw[this]
    rfl
  rw[a]
  split
  .grind
  .have z:BX t st x=0:=by have:=S0.l0;lia
   have su:=(hm x hx).sum
   rw[z]at su
   have hmem:Og t st p x-(flI (Og t st p x):Rat)∈Ay t st x:=uo.mpr ⟨_,hd,rfl⟩
   have nn:∀r∈Ay t st x,0<=r:=λr hr=>(S0.ok r hr).nn (by lia)
   have h1:=Su nn hmem
   have h2:=nn _ hmem
   rw[su]at h1
   have h3:Og t st p x-(flI (Og t st p x):Rat)=0:=AA7 h1 h2
   grind
 .simp only[vL e]
  split<;>split<;>grind
def Ok.flR{G B:Nat}{r:Rat}(hG:0<G)(h:Ok G B r):Ok G B (flI r:Rat):=by
 have f:=h.fl hG
 have n:=(h.oE hG).nn hG
 obtain⟨z,e,hz⟩:=h
 have e2:((flI r).toNat:Rat)=(flI r:Rat):=by
  have:(((flI r).toNat:Int):Rat)=(flI r:Rat):=by rw[vQ f]
  exact_mod_cast this
 refine⟨(flI r).toNat*G,by push_cast;rw[e2],uH ?_ hz⟩
 have hg:(0:Rat)<=(G:Rat):=by exact_mod_cast vZ G
 have:=v8 (show(flI r:Rat)<=r by grind) hg
 rw[e,<-e2]at this
 exact_mod_cast this
def Vb{L:Wp Ld}{rs:Wp (Nat×Rat)}(g0:0<G)(gk:G<2^2760)(bk:B<2^2905)(hl:rs.length<=30)(h:∀z∈rs,Ok G B z.2):Bd (rs.map (rL L)) G B 1 2930:=by
 refine⟨g0,uI gk (A7 (by decide)),by decide,λl hl r hr=>?_,λl hl=>?_,uI bk (A7 (by decide)),by decide,?_,by simpa using hl⟩
 .obtain⟨z,hz,rfl⟩:=uo.mp hl
  rw[uv.mp hr]
  exact h z hz
 .obtain⟨z,hz,rfl⟩:=uo.mp hl
  exact⟨show(0:Int)<=1 by decide,show(1:Int)<=((1:Nat):Int) by decide⟩
 .have h2:B*200<2^(2905+8):=Ap bk (by decide)
  have h3:2^(2905+8)<=2^2930:=A7 (by decide)
  lia
def fC(h:Ah t ls ds)(hh:HOk t)(hst:runs t (st0 t ls) ds=st)(hm:∀x∈st.AA,HC t st x)(hp:p<t.p):∃G B,Bd ((RT t st p).map (rL st.AA)) G B 1 2930/\Bd ((WW t st p).map (rL st.AA)) G B 1 2930:=by
 obtain⟨G,B,g0,gk,bk,due⟩:=XM h hh
 have ln:=h.fin.len
 rw[hst]at due ln
 refine⟨G,B,Vb g0 gk bk (by simp[RT];lia) λz hz=>?_,Vb g0 gk bk ?_ λz hz=>?_⟩
 .obtain⟨i,hi,rfl⟩:=uo.mp hz
  have hi':=vC.mp hi
  exact due _ (AU hi') _ (NB hm hp hi')
 .have:=wc (λi=>decide (0<tkI t st p i)) (W1 st.AA.length)
  simp only[WW,ux,GK]
  simp at this
  lia
 .obtain⟨i,hi,rfl⟩:=uo.mp hz
  have hi':=Rj i hi
  exact(due _ (AU hi') _ (NB hm hp hi')).flR g0
def ZW(hs:∀x∈st.AA,Stl t st G x)(hG:0<G)(gk:G<2^2750)(ln:st.AA.length<=20):Bd (ovs t st) (G*10*12) (G*10*12) 4 2930:=by
 have o:=WY hs
 have h1:=Ap gk (show 120<2^7 by decide)
 have h2:=Ap gk (show 96000<2^17 by decide)
 have h3:2^(2750+7)<=2^2930:=A7 (by decide)
 have h4:2^(2750+17)<=2^2930:=A7 (by decide)
 exact⟨by lia,by lia,by decide,λy hy=>(o y hy).2.2,λy hy=>⟨by have:=(o y hy).1;lia,(o y hy).2.1⟩,by lia,by decide,by lia,by have:=W8 (t:=t) (st:=st);lia⟩
end
section
variable{S:Sto}{t:Tr}{ls:Wp Ld}{ds:Wp AR}{st:Stt}{G B:Nat}
def T1:=eOp (o2 wNe) [AB CZ [Az [0,7] 1 (DY (eV 2)) (tNm 2) Ai (AB Bs [eV 0,eV 2,eV 1])],BM [eIx (eV 8) (eI 1),eI 1]]
def T2:=eOp (o2 wNe) [eOp (o2 Cr) [eIx (eV 6) (eV 7),AB Fq [eV 5,eV 7]],eIx (eV 8) (eI 1)]
noncomputable def EVd(t:Tr):Wp D:=(W1 t.p).map λp:Nat=>D.int p
def ZQ{i:Nat}(hm:∀x∈st.AA,HC t st x)(hi:i<st.AA.length):N6 t st (W1 t.p) (λj=>(AL st.AA j).n) i=BX t st (AL st.AA i):=by
 unfold N6 BX
 have:((W1 t.p).map λp=>tkI t st p i)=(CK t st (AL st.AA i)).map flI:=by
  rw[<-(hm _ (AU hi)).cM,<-range_getD flI]
  rfl
 rw[this]
def mF{i qt ql:Nat}{ps:Wp (Nat×Nat)}{o1 o3 o4:uM D}{us:Wp (uM D)}(h:Ah t ls ds)(hh:HOk t)(ho:Kv ls/\t.ho.sum=1)(hst:runs t (st0 t ls) ds=st)(hm:∀x∈st.AA,HC t st x)(hi:i<st.AA.length)(hq:S[qt]?=Gc (.lst (ps.map λz=>D.ref z.2)))(hr:∀z∈ps,z.1<t.p/\S[z.2]?=Gc (.lst (El t st z.1)))(hp:ps.map (·.1)=W1 t.p):∃S',T1 (Gc (AM t ls ds)::o1::Gc (.lst (EVd t))::o3::o4::Gc (.ref qt)::Gc (.tup (RO t st (W1 t.p)))::Gc (.int i)::Gc (AL st.AA i).d::us) S=Gc (.bl false,S')/\T2 (Gc (AM t ls ds)::o1::Gc (.lst (EVd t))::o3::o4::Gc (.ref qt)::Gc (.tup (RO t st (W1 t.p)))::Gc (.int i)::Gc (AL st.AA i).d::us) S'=Gc (.bl false,S')/\Bh [] S S':=by
 obtain⟨S',e,su,s⟩:=mC (S:=S) h hh ho hst hi
 have ln:=h.fin.len
 rw[hst]at ln
 have tk:=Xz (S:=S') hm hi (by lia) (s.get hq (by simp)) λz hz=>⟨(hr z hz).1,s.get (hr z hz).2 (by simp)⟩
 have sm:(ps.map λz=>tkI t st z.1 i)=(W1 t.p).map λp=>tkI t st p i:=by rw[<-hp,uh];rfl
 rw[sm]at tk
 have al:atI (RO t st (W1 t.p)) (i:Int)=Gc (.int (N6 t st (W1 t.p) (λj=>(AL st.AA j).n) i)):=BU (Z6 hi)
 have n1:Lb (.tup [.int (AL st.AA i).n,.int 1]) (.tup [.int (AL st.AA i).n,.int 1])=true/\deq (.tup [.int (AL st.AA i).n,.int 1]) (.tup [.int (AL st.AA i).n,.int 1])=true:=⟨rfl,EI rfl⟩
 refine⟨S',?_,?_,s⟩
 .generalize (CK t st (AL st.AA i)).map aD=V at*
  unfold EVd
  generalize (W1 t.p).map (λp:Nat=>D.int p)=W at*
  generalize AL st.AA i=x at*
  simp[T1,MB,e,su,Ld.d,n1.1,n1.2]
 .have ee:N6 t st (W1 t.p) (λj=>(AL st.AA j).n) i+((W1 t.p).map λp=>tkI t st p i).sum=(AL st.AA i).n:=by
   unfold N6
   lia
  have n2:Lb (.int (AL st.AA i).n) (.int (AL st.AA i).n)=true/\deq (.int (AL st.AA i).n) (.int (AL st.AA i).n)=true:=⟨rfl,EI rfl⟩
  generalize ((W1 t.p).map λp=>tkI t st p i).sum=s2 at*
  generalize N6 t st (W1 t.p) (λj=>(AL st.AA j).n) i=s1 at*
  generalize RO t st (W1 t.p)=W at*
  generalize AL st.AA i=x at*
  simp[T2,al,tk,Ld.d,ee,n2.1,n2.2]
def mK{qt ql:Nat}{ps:Wp (Nat×Nat)}{o1 o4:uM D}{us:Wp (uM D)}(h:Ah t ls ds)(hh:HOk t)(ho:Kv ls/\t.ho.sum=1)(hst:runs t (st0 t ls) ds=st)(hm:∀x∈st.AA,HC t st x)(hl:S[ql]?=Gc (.lst (st.AA.map Ld.d)))(hq:S[qt]?=Gc (.lst (ps.map λz=>D.ref z.2)))(hr:∀z∈ps,z.1<t.p/\S[z.2]?=Gc (.lst (El t st z.1)))(hp:ps.map (·.1)=W1 t.p):∃o7 o8 S',Jj [(ql,st.AA.map Ld.d)] (tTp [tNm 7,tNm 8]) (AQ (xIf T1 (Ac (eC (.bl false))) Bc) (xIf T2 (Ac (eC (.bl false))) Bc)) (Nr 0 (st.AA.map Ld.d)) (Gc (AM t ls ds)::o1::Gc (.lst (EVd t))::Gc (.ref ql)::o4::Gc (.ref qt)::Gc (.tup (RO t st (W1 t.p)))::none::none::us) S=Gc (.nx,Gc (AM t ls ds)::o1::Gc (.lst (EVd t))::Gc (.ref ql)::o4::Gc (.ref qt)::Gc (.tup (RO t st (W1 t.p)))::o7::o8::us,S')/\Bh [] S S':=by
 rw[Zi Ld.d]
 obtain⟨E',S',ef,o7,o8,rfl,f1,_⟩:=DZ (gs:=[(ql,st.AA.map Ld.d)]) (t:=tTp [tNm 7,tNm 8]) (b:=AQ (xIf T1 (Ac (eC (.bl false))) Bc) (xIf T2 (Ac (eC (.bl false))) Bc))
  (I:=λrs E S'=>∃o7 o8,E=Gc (AM t ls ds)::o1::Gc (.lst (EVd t))::Gc (.ref ql)::o4::Gc (.ref qt)::Gc (.tup (RO t st (W1 t.p)))::o7::o8::us/\Bh [] S S'/\∀d∈rs,∃i,i<st.AA.length/\d=.tup [.int (i:Nat),(AL st.AA i).d])
  (by
    rintro rs E T ⟨o7,o8,_,s,_⟩ g hg
    rw[uv.mp hg]
    exact AN (s.get hl (by simp))) (ds:=(W1 st.AA.length).map λ(i:Nat)=>D.tup [.int i,(AL st.AA i).d]) (E:=Gc (AM t ls ds)::o1::Gc (.lst (EVd t))::Gc (.ref ql)::o4::Gc (.ref qt)::Gc (.tup (RO t st (W1 t.p)))::none::none::us) (S:=S)
  ⟨none,none,rfl,.refl,λd hd=>by
    obtain⟨i,hi,rfl⟩:=uo.mp hd
    exact⟨i,vC.mp hi,rfl⟩⟩ (by
    rintro dd rs E T ⟨o7,o8,rfl,s,hall⟩
    obtain⟨i,hi,rfl⟩:=hall dd uO
    obtain⟨T',e1,e2,s2⟩:=mF (S:=T) (ql:=ql) (o1:=o1) (o3:=Gc (.ref ql)) (o4:=o4) (us:=us) h hh ho hst hm hi (s.get hq (by simp)) (λz hz=>⟨(hr z hz).1,s.get (hr z hz).2 (by simp)⟩) hp
    generalize AL st.AA i=x at*
    generalize RO t st (W1 t.p)=LV at*
    generalize AM t ls ds=bk at*
    generalize EVd t=EV at*
    refine⟨Gc bk::o1::Gc (.lst EV)::Gc (.ref ql)::o4::Gc (.ref qt)::Gc (.tup LV)::Gc (.int i)::Gc x.d::us,Gc bk::o1::Gc (.lst EV)::Gc (.ref ql)::o4::Gc (.ref qt)::Gc (.tup LV)::Gc (.int i)::Gc x.d::us,T',by simp,?_,_,_,rfl,s.trans s2,λd hd=>hall d (uL _ hd)⟩
    generalize hA:T1=A1 at*
    generalize hB:T2=A2 at*
    simp[e1,e2])
 exact⟨o7,o8,S',ef,f1⟩
def lg:(ovs t st).map (λy=>y.n)=(st.AA.filter λx=>decide (0<BX t st x)).map (BX t st):=by
 unfold ovs
 induction st.AA with
 |nil=>rfl
 |cons x xs ih=>
  rw[AAR,ve,ih,xI]
  unfold ovl
  by_cases h:0<BX t st x
  .simp[h]
  .simp[h]
def hJ(hm:∀x∈st.AA,HC t st x):((W1 st.AA.length).filter λi=>decide (0<N6 t st (W1 t.p) (λj=>(AL st.AA j).n) i)).map (N6 t st (W1 t.p) λj=>(AL st.AA j).n)=(ovs t st).map λy=>y.n:=by
 rw[lg]
 have e:(W1 st.AA.length).map (λi=>AL st.AA i)=st.AA:=by
  have:=MS (ls:=st.AA) (λx=>x)
  rwa [List.map_id']at this
 have h1:((W1 st.AA.length).filter λi=>decide (0<N6 t st (W1 t.p) (λj=>(AL st.AA j).n) i))=(W1 st.AA.length).filter λi=>decide (0<BX t st (AL st.AA i)):=List.filter_congr λi hi=>by rw[ZQ hm (vC.mp hi)]
 rw[h1]
 have h2:((W1 st.AA.length).filter λi=>decide (0<BX t st (AL st.AA i))).map (N6 t st (W1 t.p) λj=>(AL st.AA j).n)=((W1 st.AA.length).filter λi=>decide (0<BX t st (AL st.AA i))).map λi=>BX t st (AL st.AA i):=vX λi hi=>ZQ hm (vC.mp (wJ.mp hi).1)
 rw[h2]
 generalize hL:st.AA.length=n at*
 rw[<-e,List.filter_map,uh]
 rw[e]
 rfl
def lX(hm:∀x∈st.AA,HC t st x)(hl:st.AA.length<=20):BA [] (tNm 0) Ai (eIx (eV 0) (eI 1)) ((ovs t st).map Ld.d) [] [none] S=Gc (((ovs t st).map λy=>y.n).map D.int,S)/\BA [] (tNm 0) (eOp (o2 wGt) [eV 0,eI 0]) (eV 0) (RO t st (W1 t.p)) [] [none] S=Gc (((ovs t st).map λy=>y.n).map D.int,S):=by
 constructor
 .have c:=A6 (gs:=[]) (t:=tNm 0) (f:=eIx (eV 0) (eI 1)) (C:=[]) (m:=1) (e:=Ld.d) (g:=λy=>D.int y.n) (S:=S) AI (xs:=ovs t st) (acc:=[]) (os:=[none]) rfl (uH (show _<=50 by have:=W8 (t:=t) (st:=st);simp;lia) (AK (by decide))) (by
   intro y _ os ho
   obtain⟨o1,rfl⟩:=MX ho
   exact⟨[Gc y.d],rfl,by simp,by simp[Ld.d]⟩)
  rw[uh]
  exact c
 .have c:=C3 (gs:=[]) (t:=tNm 0) (c:=eOp (o2 wGt) [eV 0,eI 0]) (f:=eV 0) (C:=[]) (m:=1) (e:=λi:Nat=>D.int (N6 t st (W1 t.p) (λj=>(AL st.AA j).n) i)) (g:=λi=>D.int (N6 t st (W1 t.p) (λj=>(AL st.AA j).n) i)) (b:=λi=>decide (0<N6 t st (W1 t.p) (λj=>(AL st.AA j).n) i)) (S:=S) AI (xs:=W1 st.AA.length) (acc:=[]) (os:=[none]) rfl (uH (show _<=50 by simp;lia) (AK (by decide))) (by
   intro i _ os ho
   obtain⟨o1,rfl⟩:=MX ho
   generalize N6 t st (W1 t.p) (λj=>(AL st.AA j).n) i=z
   exact⟨[Gc (.int z)],rfl,by simp,by simp,by simp⟩)
  rw[<-hJ hm,uh]
  exact c
end
section
variable{S:Sto}{t:Tr}{ls:Wp Ld}{ds:Wp AR}{st:Stt}{G B p:Nat}
def mR(h:Ah t ls ds)(hh:HOk t)(hst:runs t (st0 t ls) ds=st)(hp:p<t.p):∃S',BA [] (tNm 2) Ai (BM [eV 2,AB Bs [eV 0,eV 1,eV 2]]) ((W1 st.AA.length).map λi:Nat=>D.int i) [] [Gc (AM t ls ds),Gc (.int p),none] S=Gc ((RT t st p).map rD,S')/\Bh [] S S':=by
 have ln:=h.fin.len
 rw[hst]at ln
 obtain⟨S',e,s⟩:=IK (gs:=[]) (t:=tNm 2) (f:=BM [eV 2,AB Bs [eV 0,eV 1,eV 2]]) (C:=[Gc (AM t ls ds),Gc (.int p)]) (m:=1) (e:=λi:Nat=>D.int i) (g:=λi=>rD (i,duI t st p i)) (S0:=S) (λ_ _=>AI) (xs:=W1 st.AA.length) (acc:=[]) (os:=[none]) (S:=S) rfl .refl (uH (show _<=50 by simp;lia) (AK (by decide))) (by
  intro i hi os T ho' hT
  obtain⟨o1,rfl⟩:=MX ho'
  obtain⟨T2,e,s⟩:=Qw (S:=T) h hh hp (i:=i) (by rw[hst];exact vC.mp hi)
  rw[hst]at e
  have e':Bs [AM t ls ds,.int p,.int i] T=Gc (aD (duI t st p i),T2):=e
  refine⟨[Gc (.int i)],T2,rfl,by simp,?_,hT.trans s⟩
  unfold rD
  generalize aD (duI t st p i)=R at*
  simp[e'])
 refine⟨S',?_,s⟩
 rw[RT,uh]
 exact e
def nj{q:Nat}(hq:S[q]?=Gc (.lst (El t st p)))(hl:st.AA.length<=20):BA [(q,El t st p)] (tTp [tNm 0,tNm 1]) Ai (BM [eV 0,BM [eV 1,eI 1]]) (El t st p) [] [none,none] S=Gc ((WW t st p).map rD,S):=by
 have ln:(GK t st p).length<=20:=uH (wc _ _) (by simpa using hl)
 have c:=A6 (gs:=[(q,El t st p)]) (t:=tTp [tNm 0,tNm 1]) (f:=BM [eV 0,BM [eV 1,eI 1]]) (C:=[]) (m:=2) (e:=Ul t st p) (g:=λi=>rD (i,(tkI t st p i:Rat))) (S:=S) (λg hg=>by rw[uv.mp hg];exact AN hq) (xs:=GK t st p) (acc:=[]) (os:=[none,none]) rfl (uH (show _<=50 by simp;lia) (AK (by decide))) (by
  intro i _ os ho
  obtain⟨q1,q2,rfl⟩:∃q1 q2,os=[q1,q2]:=by
   match os,ho with
   | [a,b],_=>exact⟨a,b,rfl⟩
  refine⟨[Gc (.int i),Gc (.int (tkI t st p i))],rfl,by simp[Ul],?_⟩
  unfold rD
  rw[G9]
  simp)
 rw[WW,uh]
 exact c
def se {k q r:Nat}{L M N:Wp Ld}{G2 B2 N2:Nat}(hk:k ≤ 20)(h1:Bd L G B 1 2930)(h2:Bd M G2 B2 N2 2930)(e:∀kd,kindS L 0 kd + kindS M p kd=kindS N 0 kd)(hq:S[q]?=Gc (.lst ((AS k L 0).map aD)))(hr:S[r]?=Gc (.lst ((AS k M p).map aD))):BA [(q,(AS k L 0).map aD),(r,(AS k M p).map aD)] (tTp [(tNm 0),(tNm 1)]) Ai (AB Ak [(eV 0),(eV 1)]) (JC ((AS k L 0).map aD) ((AS k M p).map aD)) [] [none,none] S=Gc ((AS k N 0).map aD,S):=by
  have ez:JC ((AS k L 0).map aD) ((AS k M p).map aD)=(W1 k).map λkd=>D.tup [aD (kindS L 0 kd),aD (kindS M p kd)]:=by
    unfold JC AS
    rw [uh, uh, yI, uh]
    rfl
  rw [ez]
  have c:=A6 (gs:=[(q,(AS k L 0).map aD),(r,(AS k M p).map aD)]) (t:=tTp [(tNm 0),(tNm 1)]) (f:=AB Ak [(eV 0),(eV 1)]) (C:=[]) (m:=2) (e:=λkd:Nat=>D.tup [aD (kindS L 0 kd),aD (kindS M p kd)]) (g:=λkd=>aD (kindS N 0 kd)) (S:=S) (λg hg=>by
      rcases uS.mp hg with rfl | hg
      · exact AN hq
      · rw[uv.mp hg];exact AN hr) (xs:=W1 k) (acc:=[]) (os:=[none,none]) rfl (uH (show _ ≤ 50 by simp;lia) (AK (by decide))) (by
    intro kd _ os ho
    obtain⟨q1,q2,rfl⟩:∃q1 q2,os=[q1,q2]:=by
      match os, ho with
      | [a, b], _ => exact ⟨a, b, rfl⟩
    have z1:30 * (B * 1)<2 ^ 2930:=by have:=h1.hb;lia
    have z2:30 * (B2 * N2)<2 ^ 2930:=by have:=h2.hb;lia
    have pl:=H0 (S:=S) (h1.kind (p:=0) (kd:=kd) |>.sz h1.g0 h1.gK z1) (h2.kind (p:=p) (kd:=kd) |>.sz h2.g0 h2.gK z2) (by decide)
    rw [e kd] at pl
    refine ⟨[Gc (aD (kindS L 0 kd)), Gc (aD (kindS M p kd))], rfl, by simp, ?_⟩
    generalize aD (kindS N 0 kd) = R at *
    simp [pl])
  have en:(W1 k).map (λkd=>aD (kindS N 0 kd))=(AS k N 0).map aD:=by
    rw [AS, uh]
    rfl
  rw [en] at c
  exact c
def T5:=AQ (A9 10 (AB B0 [eV 0,Az [0,9] 1 (Kk [eOp (o1 EB) [eV 3]]) (tNm 2) Ai (BM [eV 2,AB Bs [eV 0,eV 1,eV 2]])])) (AQ (A9 11 (AB B0 [eV 0,Az [] 2 (DY (AB FG [eV 0,eV 9])) (tTp [tNm 0,tNm 1]) Ai (BM [eV 0,BM [eV 1,eI 1]])])) (AQ (A9 12 (AB CS [eV 4,eIx (eIx (eV 0) (eI 0)) (eI 1),eV 9])) (xIf (eOp (o2 wNe) [Az [] 2 (Q7 (eV 11) (eV 12)) (tTp [tNm 0,tNm 1]) Ai (AB Ak [eV 0,eV 1]),eV 10]) (Ac (eC (.bl false))) Bc)))
def ZH{ql:Nat}{o1 o2 o5 o6 o7 o8 o10 o11 o12:uM D}(h:Ah t ls ds)(hh:HOk t)(hst:runs t (st0 t ls) ds=st)(hm:∀x∈st.AA,HC t st x)(hs:∀x∈st.AA,Stl t st G x)(hG:0<G)(gk:G<2^2750)(hp:p<t.p)(hl:S[ql]?=Gc (.lst (st.AA.map Ld.d))):∃u10 u11 u12 S',T5 [Gc (AM t ls ds),o1,o2,Gc (.ref ql),Gc (.tup ((ovs t st).map Ld.d)),o5,o6,o7,o8,Gc (.int p),o10,o11,o12] S=Gc (.nx,[Gc (AM t ls ds),o1,o2,Gc (.ref ql),Gc (.tup ((ovs t st).map Ld.d)),o5,o6,o7,o8,Gc (.int p),u10,u11,u12],S')/\Bh [] S S':=by
 have ln:=h.fin.len
 have kd:=h.fin.kind
 rw[hst]at ln kd
 have t4:=h.tr.2.2.2.1
 obtain⟨S1,e1,s1⟩:=mR (S:=S) h hh hst hp
 obtain⟨G1,B1,b1,b2⟩:=fC h hh hst hm hp
 have b3:=ZW hs hG gk (by lia)
 obtain⟨q1,S2,e2,c2,s2,l2⟩:=NK (S:=S1) h hst (rs:=RT t st p) (λz hz=>by
  obtain⟨i,hi,rfl⟩:=uo.mp hz
  exact vC.mp hi) b1
 obtain⟨q2,S3,e3,c3,s3,l3⟩:=RM (S:=S2) h hh hst hm hp
 have e4:=nj c3 (by lia)
 obtain⟨q4,S4,e5,c5,s5,l5⟩:=NK (S:=S3) h hst (rs:=WW t st p) (λz hz=>by
  obtain⟨i,hi,rfl⟩:=uo.mp hz
  exact Rj i hi) b2
 obtain⟨q5,S5,e6,c6,s6⟩:=Oj (S:=S4) (ls:=ovs t st) (k:=t.k) (p:=p) (by lia) (λy hy=>by
  obtain⟨x,hx,_,rfl⟩:=La hy
  exact kd x hx) (λy hy=>by rw[RQ hm hy];exact hp) b3
 have c2':=(s3.trans (s5.trans s6)).get c2 (by simp)
 have c5':=s6.get c5 (by simp)
 have cz:=se (S:=S5) (k:=t.k) (p:=p) (L:=(WW t st p).map (rL st.AA)) (M:=ovs t st) (N:=(RT t st p).map (rL st.AA)) (by lia) b2 b3 (λkd=>Xs hm hs hG hp) c5' c6
 have d0:=Aq hl
 have sq3:=C7 c3
 have sq5:=C7 c5'
 have sq6:=C7 c6
 have d2:=Aq c2'
 have eqs:Lb (.lst ((AS t.k ((RT t st p).map (rL st.AA)) 0).map aD)) (.lst ((AS t.k ((RT t st p).map (rL st.AA)) 0).map aD))=true/\deq (.lst ((AS t.k ((RT t st p).map (rL st.AA)) 0).map aD)) (.lst ((AS t.k ((RT t st p).map (rL st.AA)) 0).map aD))=true:=⟨G6 (EF λ_ _=>KO) (uH (bp (n:=2) λd hd=>by
  obtain⟨r,_,rfl⟩:=uo.mp hd
  exact gA) (by decide)),EI (EF λ_ _=>KO)⟩
 have rk:Ge (st.AA.length:Int)=true:=Bw (by lia) (by lia)
 have s12:=((s1.trans s2).trans s3).trans (s5.trans s6)
 refine⟨Gc (.ref q1),Gc (.ref q4),Gc (.ref q5),S5,?_,s12⟩
 rw[<-KD]at e1
 have ll:(st.AA.map Ld.d).length=st.AA.length:=ux ..
 have dt:∀T:Sto,dr T t.d=.val t.d:=λ_=>rfl
 have as1:asS (.val t.d)=Gc [.int t.p,.int t.k,.int t.b,shD t.ho,.int t.h,.int t.l]:=rfl
 simp only[wB]at e1
 generalize (AS t.k ((RT t st p).map (rL st.AA)) 0).map aD=V1 at*
 generalize (AS t.k ((WW t st p).map (rL st.AA)) 0).map aD=V2 at*
 generalize (AS t.k (ovs t st) p).map aD=V3 at*
 generalize (RT t st p).map rD=R1 at*
 generalize (WW t st p).map rD=R2 at*
 generalize El t st p=R3 at*
 generalize (ovs t st).map Ld.d=OV at*
 generalize hLD:st.AA.map Ld.d=LD at*
 simp only[AM]at e1 e2 e3 e5⊢
 simp[T5,MB,d0,ll,rk,e1,e2,e3,sq3,e4,e5,dt,as1,e6,sq5,sq6,cz,d2,eqs.1,eqs.2]
end
section
variable{S:Sto}{t:Tr}{ls:Wp Ld}{ds:Wp AR}{st:Stt}{G B p:Nat}
def lx{ql:Nat}{o1 o2 o5 o6 o7 o8:uM D}(h:Ah t ls ds)(hh:HOk t)(hst:runs t (st0 t ls) ds=st)(hm:∀x∈st.AA,HC t st x)(hs:∀x∈st.AA,Stl t st G x)(hG:0<G)(gk:G<2^2750)(hl:S[ql]?=Gc (.lst (st.AA.map Ld.d))):∃us S',Jj [] (tNm 9) T5 (EVd t) [Gc (AM t ls ds),o1,o2,Gc (.ref ql),Gc (.tup ((ovs t st).map Ld.d)),o5,o6,o7,o8,none,none,none,none] S=Gc (.nx,us,S')/\Bh [] S S':=by
 obtain⟨E',S',ef,o9,o10,o11,o12,rfl,f1,_⟩:=DZ (gs:=[]) (t:=tNm 9) (b:=T5)
  (I:=λrs E S'=>∃o9 o10 o11 o12,E=[Gc (AM t ls ds),o1,o2,Gc (.ref ql),Gc (.tup ((ovs t st).map Ld.d)),o5,o6,o7,o8,o9,o10,o11,o12]/\Bh [] S S'/\∀d∈rs,∃p:Nat,p<t.p/\d=.int p)
  (λ_ _ _ _=>AI) (ds:=EVd t) (E:=[Gc (AM t ls ds),o1,o2,Gc (.ref ql),Gc (.tup ((ovs t st).map Ld.d)),o5,o6,o7,o8,none,none,none,none]) (S:=S)
  ⟨none,none,none,none,rfl,.refl,λd hd=>by
    obtain⟨i,hi,rfl⟩:=uo.mp hd
    exact⟨i,vC.mp hi,rfl⟩⟩ (by
    rintro dd rs E T ⟨o9,o10,o11,o12,rfl,s,hall⟩
    obtain⟨p,hp,rfl⟩:=hall dd uO
    obtain⟨u10,u11,u12,T',e,s2⟩:=ZH (S:=T) (o1:=o1) (o2:=o2) (o5:=o5) (o6:=o6) (o7:=o7) (o8:=o8) (o10:=o10) (o11:=o11) (o12:=o12) h hh hst hm hs hG gk hp (s.get hl (by simp))
    exact⟨_,_,T',by simp,e,_,_,_,_,rfl,s.trans s2,λd hd=>hall d (uL _ hd)⟩)
 exact⟨_,S',ef,f1⟩
def bZ(h:Ah t ls ds)(hh:HOk t)(ho:Kv ls/\t.ho.sum=1):∃S',Cb [AM t ls ds] S=Gc (.bl true,S')/\Bh [] S S':=by
 obtain⟨G,B,hG,gb,bb,_,k1,k2⟩:=h.one
 have gk:G<2^2750:=ug gb bb
 have hm:=K4 h hh ho
 have hs:=WD hh hG k1 k2 hm
 have ln:=h.fin.len
 obtain⟨ql,S1,e1,c1,s1,l1⟩:=Sl (S:=S) h (uP ds.length)
 obtain⟨S2,e2,s2⟩:=KU (S:=S1) h hh ho
 obtain⟨qt,ps,S3,e3,c3,p3,r3,s3,l3⟩:=UN (S:=S2) (is:=W1 t.p) h hh rfl hm ⟨List.nodup_range,λi hi=>vC.mp hi,by have:=h.tr.2.1;simpa using this⟩
 rw[Pd]at e2
 rw[vI]at c1
 have t2:=h.tr.2.1
 generalize hst:runs t (st0 t ls) ds=st at*
 have c1':=(s2.trans s3).get c1 (by simp)
 obtain⟨o7,o8,S4,e4,s4⟩:=mK (S:=S3) (o1:=Gc (.int ds.length)) (o4:=Gc (.tup ((ovs t st).map Ld.d))) (us:=[none,none,none,none]) h hh ho hst hm c1' c3 (λz hz=>⟨by
  have:z.1∈ps.map (·.1):=uo.mpr ⟨z,hz,rfl⟩
  rw[p3]at this
  exact vC.mp this,r3 z hz⟩) p3
 obtain⟨t3a,t3b⟩:=lX (S:=S4) (t:=t) (st:=st) hm (by lia)
 obtain⟨us,S5,e5,s5⟩:=lx (S:=S4) (o1:=Gc (.int ds.length)) (o2:=Gc (.lst (EVd t))) (o5:=Gc (.ref qt)) (o6:=Gc (.tup (RO t st (W1 t.p)))) (o7:=o7) (o8:=o8) h hh hst hm hs hG gk (s4.get c1' (by simp))
 refine⟨S5,?_,(((s1.trans s2).trans s3).trans s4).trans s5⟩
 have lr:=oP (S:=S) (f:=eIx (eIx (eV 0) (eI 0)) (eI 0)) (E:=[Gc (AM t ls ds),none,none,none,none,none,none,none,none,none,none,none,none]) (n:=t.p) (by simp[AM,Tr.d]) (by lia)
 have sq:=C7 c1'
 have eqs:Lb (.lst (((ovs t st).map λy=>y.n).map D.int)) (.lst (((ovs t st).map λy=>y.n).map D.int))=true/\deq (.lst (((ovs t st).map λy=>y.n).map D.int)) (.lst (((ovs t st).map λy=>y.n).map D.int))=true:=⟨G6 (EF λ_ _=>rfl) (uH (bp (n:=1) λd hd=>by
  obtain⟨r,_,rfl⟩:=uo.mp hd
  exact Yc) (by decide)),EI (EF λ_ _=>rfl)⟩
 have oe:PC (W1 t.p)=EVd t:=rfl
 rw[oe]at e3
 change _=Gc (D.lst (EVd t),S)at lr
 unfold Cb
 rw[show Hj=(AQ (Np 1 2 (eOp (o1 EB) [eIx (eV 0) (eI 2)]) (eLR (eIx (eIx (eV 0) (eI 0)) (eI 0))))
  (AQ (Np 3 4 (AB C5 [eV 0,eV 1]) (AB B4 [eV 0]))
  (AQ (Hi (tTp [tNm 5,tNm 6]) (AB Fw [eV 0,eOp (o1 Br) [eV 2]]))
  (AQ (Ht (XU (eV 3)) (tTp [tNm 7,tNm 8]) (AQ (xIf T1 (Ac (eC (.bl false))) Bc) (xIf T2 (Ac (eC (.bl false))) Bc)))
  (AQ (xIf (eOp (o2 wNe) [Az [] 1 (DY (eV 4)) (tNm 0) Ai (eIx (eV 0) (eI 1)),Az [] 1 (DY (eV 6)) (tNm 0) (eOp (o2 wGt) [eV 0,eI 0]) (eV 0)]) (Ac (eC (.bl false))) Bc)
  (AQ (Ht (DY (eV 2)) (tNm 9) T5)
  (Ac (eC (.bl true)))))))))from rfl]
 generalize T5=B9 at*
 generalize T1=TT1 at*
 generalize T2=TT2 at*
 generalize EVd t=EV at*
 generalize RO t st (W1 t.p)=LF at*
 generalize ((ovs t st).map λy=>y.n).map D.int=N1 at*
 generalize (ovs t st).map Ld.d=OV at*
 generalize st.AA.map Ld.d=LD at*
 generalize eLR (eIx (eIx (eV 0) (eI 0)) (eI 0))=LR at*
 simp only[AM]at e1 e2 e3 e4 e5 lr⊢
 simp[lr,e1,e2,e3,sq,e4,t3a,t3b,eqs.1,eqs.2,e5]
end
section
variable{S:Sto}{t:Tr}{ls:Wp Ld}{ds:Wp AR}{st:Stt}{n p:Nat}
noncomputable def nxT(t:Tr)(st:Stt):Tr:={t with ho:=st.hold}
def lvl{m l j:Nat}(h:m+l<=16)(hj:j<=3):∃k,k+l<=17/\26+161*m+7*j<=30+170*k/\(l<=3->k+l<=16):=by
 by_cases c:7*j<=4+9*m
 .exact⟨m,by lia,by lia,λ_=>h⟩
 .exact⟨m+1,by lia,by lia,λ_=>by lia⟩
def ZP{G B k:Nat}(bk:Ah t ls ds)(g0:0<G)(gb:G<=B)(bb:B<2^(30+170*k))(h1:∀x∈ls,∀r∈x.ow,Ok G B r)(h2:∀r∈t.ho,Ok G B r):SIG t k G B (st0 t ls):=by
 obtain⟨k',_,z⟩:=bk.lev
 exact⟨by have:=bk.four;show ls.length<=_;lia,λx hx=>⟨z.kind x hx,(bk.pc0 x hx).1,eR (bk.pc0 x hx).2,z.own x hx,h1 x hx⟩,z.hold,vZ _,g0,gb,bb,h2⟩
def aU{j:Nat}(w:Wk t ls ds n j)(hn:n<=16)(hj:j+1<=3)(hst:runs t (st0 t ls) ds=st)(hl:(ovs t st).length<=4):Wk (nxT t st) (ovs t st) [] n (j+1):=by
 obtain⟨bk,hh,ho,m,G,B,hm0,g0,gb,bb,o1,o2⟩:=w
 obtain⟨k,hk,hb,_⟩:=lvl (m:=m) (l:=ds.length) (j:=j) (by lia) (by lia)
 have sg:=ZP (k:=k) bk g0 gb (uI bb (A7 hb)) o1 o2
 obtain⟨T,G1,B1,rfl,t0,tb,ub,h1⟩:=Ox bk.tr sg bk.good hk
 rw[hst]at h1
 have hm:=K4 bk hh ho
 rw[hst]at hm
 have gs:=WD hh h1.g0 (λx hx=>(h1.lok x hx).ok) h1.hok hm
 have o:=WY gs
 have hs:=bk.Xk ho.1 ho.2 ds.length
 rw[vI,hst]at hs
 have ho2:Kv (ovs t st):=Yf hm
 have bit:B1*120<2^(26+161*(m+ds.length)+7*(j+1)):=by
  have a:B1<2^(26+161*m+7*j+161*ds.length):=by
   refine ug ub ?_
   rw[zK 2 (26+161*m+7*j)]
   exact Nat.mul_lt_mul_of_pos_right bb (yC (by simp))
  exact uI (Ap a (show 120<2^7 by decide)) (A7 (by lia))
 have g120:G*T*10*12=G*T*120:=by lia
 have hk0:∀r∈st.hold,Ok (G*T*120) (B1*120) r:=λr hr=>(h1.hok r hr).up (uP _)
 have hk1:∀y∈ovs t st,∀r∈y.ow,Ok (G*T*120) (B1*120) r:=λy hy r hr=>by
  have:=(o y hy).2.2 r hr
  rw[g120]at this
  exact this.mono (ui _ h1.gb)
 obtain⟨k2,hk2,hb2,hk3⟩:=lvl (m:=m+ds.length) (l:=0) (j:=j+1) (by lia) (by lia)
 have iv:FH (nxT t st) k2 (st0 (nxT t st) (ovs t st)):=by
  refine SIG.inv (G:=G*T*120) (B:=B1*120) ⟨by show(ovs t st).length<=_;lia,λy hy=>?_,h1.hold,vZ _,by have:=h1.g0;lia,ui _ h1.gb,uI bit (A7 hb2),hk0⟩
  have oy:=o y hy
  refine⟨?_,xF oy.1,eR (v7 oy.2.1 (by decide)),(show y.ow.length=t.p from RQ hm hy),hk1 y hy⟩
  obtain⟨x,hx,_,rfl⟩:=La hy
  exact(h1.lok x hx).kd
 exact⟨⟨bk.tr,⟨k2,hk3 (by lia),iv⟩,hl,λy hy=>⟨xF (o y hy).1,v7 (o y hy).2.1 (by decide)⟩,trivial⟩,hh,⟨ho2,hs⟩,m+ds.length,G*T*120,B1*120,hm0,by have:=h1.g0;lia,ui _ h1.gb,bit,hk1,hk0⟩
def Qv{r:Rx}{f:Ex}{r2:Rx}{E E':En}{S S':Sto}(h:r E S=none)(e:f E S=Gc (.nx,E',S')):Xp r f r2 E S=r2 E' S':=by
 unfold Xp
 rw[h]
 simp only
 rw[e]
 rfl
def YL{r:Rx}{f:Ex}{r2:Rx}{E:En}{S:Sto}{z:Tg×En×Sto}(h:r E S=Gc z):Xp r f r2 E S=Gc z:=by
 unfold Xp
 rw[h]
def XJ(h:Ah t ls ds)(hh:HOk t)(ho:Kv ls/\t.ho.sum=1)(hst:runs t (st0 t ls) ds=st)(hl:(ovs t st).length<=4):∃S',A5 [AM t ls ds] S=Gc (AM (nxT t st) (ovs t st) [],S')/\Bh [] S S':=by
 obtain⟨S1,e1,s1⟩:=IM (S:=S) h hh ho
 have r1:=Dk (S:=S) h
 obtain⟨S2,e2,s2⟩:=MI (S:=S1) h (n:=ds.length) (uP _)
 rw[vI]at e2
 rw[hst]at e1 e2
 rw[Pd]at e1
 refine⟨S2,?_,s1.trans s2⟩
 have h4:¬(4:Int)<((ovs t st).map Ld.d).length:=by simp;lia
 have as1:asS (.val t.d)=Gc [.int t.p,.int t.k,.int t.b,shD t.ho,.int t.h,.int t.l]:=rfl
 have dt:∀T,dr T t.d=.val t.d:=λ_=>rfl
 have tt:t.d=.tup [.int t.p,.int t.k,.int t.b,shD t.ho,.int t.h,.int t.l]:=rfl
 have nt:(nxT t st).d=.tup [.int t.p,.int t.k,.int t.b,shD st.hold,.int t.h,.int t.l]:=rfl
 simp only[AM,tt,nt]at e1 e2 r1⊢
 generalize (ovs t st).map Ld.d=O at*
 simp[A5,HI,r1,e1,BN,h4,e2]
def VQ(h:Ah t ls ds)(hh:HOk t)(ho:Kv ls/\t.ho.sum=1)(hst:runs t (st0 t ls) ds=st)(hl:4<(ovs t st).length):∃S',A5 [AM t ls ds] S=none/\BR [AM t ls ds] S=Gc (⟨"TooMany",none⟩,S')/\Bh [] S S':=by
 obtain⟨S1,e1,s1⟩:=IM (S:=S) h hh ho
 have r1:=Dk (S:=S) h
 rw[hst,Pd]at e1
 have h4:(4:Int)<((ovs t st).map Ld.d).length:=by simp;lia
 generalize (ovs t st).map Ld.d=O at*
 generalize AM t ls ds=bk at*
 refine⟨S1,?_,?_,s1⟩
 .have xs:∀E S,Hg E S=none:=λ_ _=>rfl
  simp[A5,HI,r1,e1,BN,h4,xs]
 .unfold BR
  rw[O3]
  show(Fd [Gc bk,none,none,none,none,none,none,none,none,none,none] S).map _=_
  have hr:Fd [Gc bk,none,none,none,none,none,none,none,none,none,none] S=Gc (⟨"TooMany",none⟩,[Gc bk,Gc (.tup O),none,none,none,none,none,none,none,none,none],S1):=by
   unfold Fd
   rw[Qv (E':=[Gc bk,none,none,none,none,none,none,none,none,none,none]) (S':=S) rfl (by simp[r1])]
   rw[Qv (E':=[Gc bk,Gc (.tup O),none,none,none,none,none,none,none,none,none]) (S':=S1) rfl (by simp[e1])]
   refine YL ?_
   have e3:(eOp (o2 wGt) [eOp (o1 EB) [eV 1],eC BN]) [Gc bk,Gc (.tup O),none,none,none,none,none,none,none,none,none] S1=Gc (.bl true,S1):=by simp[BN,h4]
   unfold rIf
   rw[e3]
   show R6 _ _ _ _=_
   unfold R6
   simp
  rw[hr]
  rfl
end
section
variable{S:Sto}{t:Tr}{ls:Wp Ld}{ds:Wp AR}{st:Stt}{n p:Nat}
def CL.same{p:Nat}{S S':Sto}(h:CL p S)(g:Bh [] S S'):CL p S':=by
 obtain⟨ds,e,hp⟩:=h
 exact⟨ds,g.get e (by simp),hp⟩
def onF:=AQ (A9 7 (AB Cg [eV 0,eV 2,eV 5])) (xIf (eOp (o2 wNe) [eIx (eV 7) (eI 0),eC (.str "throw")]) (AQ (Bi (AB DM [eV 2,eV 5,eV 7])) (Bi (Nm Nq (eV 4) [eV 7]))) Bc)
def onB:=AQ (Np 5 4 (AB Ee [BM [eV 2,eV 3,BM []]]) (JY [])) (AQ (Ht (Kk [AB AE [eV 0,eI 4]]) (tNm 6) onF) (Ac (BM [eV 2,eV 3,eOp (o1 Br) [eV 4]])))
def cm{m j:Nat}{a1 a4:uM D}(w:Wk t ls [] m j)(hm:m+3<=16)(hj:j<=3)(pen2:CL p S):∃ds us S',onB [Gc (.ref p),a1,Gc t.d,Gc (.tup (ls.map Ld.d)),a4,none,none,none] S=Gc (.ret (AM t ls ds),us,S')/\(Wk t ls ds (m+3) j/\∀d∈ds,LZ d=false)/\CL p S':=by
 obtain⟨bk,hh,hones,mm,GF,BF,hmm,gf0,gfb,bf,gf1,gf2⟩:=w
 have ht:=bk.tr
 have hl:=bk.four
 have hmm:mm<=m:=by simpa using hmm
 obtain⟨k,_,hb,hk⟩:=lvl (m:=mm) (l:=3) (j:=j) (by lia) hj
 have hk:k+3<=16:=hk (uP _)
 have hi:=(ZP (k:=k) bk gf0 gfb (uI bf (A7 hb)) gf1 gf2).inv
 obtain⟨s,l,m',as,S3,e3,hS,sm,hn⟩:=Tp (S:=S) (t:=t) (ls:=ls) (x:=.tup []) (by lia)
 have lp:=pen2.lt
 have pen3:CL p S3:=by
  obtain⟨ds,e,hp⟩:=pen2
  exact⟨ds,sm.get e (by simp),hp⟩
 have hq:(S3++[Cl.lst []])[S3.length]?=Gc (.lst []):=uZ
 obtain⟨rn,S4,e4,a4,b4,p4⟩:=Ar (pen3.app [Cl.lst []]) (n:=4) (by decide) (by decide)
 have lt3:=hS.lts
 have pn:p∉s::l::m'::as:=λz=>by have:=hn p z;lia
 have qn:S3.length∉s::l::m'::as:=λz=>by have:=lt3 _ z;lia
 have hpq:S3.length≠p:=by have:=pen3.lt;lia
 have hS4:SAt S4 s l m' as (st0 t ls):=(hS.Ue (.app)).same p4.same (by simpa using pn)
 have hq4:S4[S3.length]?=Gc (.lst []):=p4.get hq hpq
 obtain⟨rn,rfl⟩:=Gx a4
 have rk:Ge (rn:Int)=true:=Bw (by lia) (by lia)
 generalize hQ:S3.length=q at*
 obtain⟨E',S',ef,ds,as',o6,o7,rfl,f1,f2,f3,f4,f5,f6,f7,f8⟩:=DZ (gs:=[]) (t:=tNm 6) (b:=onF)
  (I:=λrs E S'=>∃(ds:Wp AR) (as':Wp Nat) (o6 o7:uM D),E=[Gc (.ref p),a1,Gc t.d,Gc (.tup (ls.map Ld.d)),Gc (.ref q),Gc (.ref s),o6,o7]/\S'[q]?=Gc (.lst (ds.map AR.d))/\CL p S'/\SAt S' s l m' as' (runs t (st0 t ls) ds)/\JF t (st0 t ls) ds/\ds.length+rs.length<=3/\p∉s::l::m'::as'/\q∉s::l::m'::as'/\∀d∈ds,LZ d=false)
  (λ_ _ _ _=>AI) (ds:=Jd 0 rn) (E:=[Gc (.ref p),a1,Gc t.d,Gc (.tup (ls.map Ld.d)),Gc (.ref q),Gc (.ref s),none,none]) (S:=S4)
  ⟨[],as,none,none,rfl,hq4,p4.pen,hS4,trivial,by rw[Fc];simp;lia,pn,qn,λ_ z=>nomatch z⟩ (by
    rintro dd rs E T ⟨ds,as',o6,o7,rfl,i1,i2,i3,i4,i5,i6,i7,i8⟩
    simp only[vY]at i5
    have inv:=MD ht hi i4 (by lia)
    obtain⟨d,T1,d1,d2,d3⟩:=VM i2 i3 i6 ht inv (by lia)
    have j3:=i3.same d2.same (by simpa using i6)
    have j1:T1[q]?=Gc (.lst (ds.map AR.d)):=d2.get i1 hpq
    have hc:eOp (o2 wNe) [eIx (eV 7) (eI 0),eC (.str "throw")] [Gc (.ref p),a1,Gc t.d,Gc (.tup (ls.map Ld.d)),Gc (.ref q),Gc (.ref s),Gc dd,Gc d.d] T1=Gc (.bl (!LZ d),T1):=by
     cases d<;>simp[AR.d,LZ]
    cases hb:LZ d with
    |false=>
     rw[hb]at hc
     obtain⟨T2,as2,k1,k2,k3,k4⟩:=je j3 ht inv (by lia) d3
     have lt:=j3.lts
     have q2:T2[q]?=Gc (.lst (ds.map AR.d)):=k3.get j1 i7
     have hz:ds.length<sizeLine:=uI (show ds.length<50 by lia) (AK (by decide))
     have out:∀x,x∉s::l::m'::as'->x<T1.length->x∉s::l::m'::as2:=by
      intro x hx hlx z
      simp only[uS]at z hx
      rcases z with z|z|z|z
      .exact hx (.inl z)
      .exact hx (.inr (.inl z))
      .exact hx (.inr (.inr (.inl z)))
      .rcases k4 _ z with w|w
       .exact hx (.inr (.inr (.inr w)))
       .lia
     refine⟨[Gc (.ref p),a1,Gc t.d,Gc (.tup (ls.map Ld.d)),Gc (.ref q),Gc (.ref s),Gc dd,o7],[Gc (.ref p),a1,Gc t.d,Gc (.tup (ls.map Ld.d)),Gc (.ref q),Gc (.ref s),Gc dd,Gc d.d],T2.set q (.lst ((ds++[d]).map AR.d)),by simp,?_,ds++[d],as2,Gc dd,Gc d.d,rfl,uX (AV q2),?_,?_,Lc i4 d3,by simp;lia,out p i6 d2.pen.lt,out q i7 (AV j1),λx hx=>(vH.mp hx).elim (i8 x) λz=>by rw[uv.mp z];exact hb⟩
     .have kk:=AN q2
      have hz':(ds.map AR.d).length<sizeLine:=by simpa using hz
      have hfin:(ds++[d]).map AR.d=ds.map AR.d++[d.d]:=by simp
      rw[hfin]
      generalize hDD:ds.map AR.d=DD at*
      generalize hCC:eOp (o2 wNe) [eIx (eV 7) (eI 0),eC (.str "throw")]=CC at*
      simp[onF,hCC,d1,hc,k1,kk,hz']
     .obtain⟨pd,pe,ph⟩:=d2.pen
      exact⟨pd,by rw[uQ hpq];exact k3.get pe i6,ph⟩
     .rw[Nf]
      exact k2.same (A:=[q]) (.set (by simp)) (by simpa using out q i7 (AV j1))
    |true=>
     rw[hb]at hc
     refine⟨[Gc (.ref p),a1,Gc t.d,Gc (.tup (ls.map Ld.d)),Gc (.ref q),Gc (.ref s),Gc dd,o7],[Gc (.ref p),a1,Gc t.d,Gc (.tup (ls.map Ld.d)),Gc (.ref q),Gc (.ref s),Gc dd,Gc d.d],T1,by simp,?_,ds,as',Gc dd,Gc d.d,rfl,j1,d2.pen,j3,i4,by lia,i6,i7,i8⟩
     generalize hCC:eOp (o2 wNe) [eIx (eV 7) (eI 0),eC (.str "throw")]=CC at*
     simp[onF,hCC,d1,hc])
 have df:=Aq f1
 have f5':ds.length<=3:=by simpa using f5
 refine⟨ds,[Gc (.ref p),a1,Gc t.d,Gc (.tup (ls.map Ld.d)),Gc (.ref q),Gc (.ref s),o6,o7],S',?_,⟨⟨⟨ht,⟨k,by lia,hi⟩,hl,bk.pc0,f4⟩,hh,hones,mm,GF,BF,by lia,gf0,gfb,bf,gf1,gf2⟩,f8⟩,f2⟩
 generalize hOF:onF=OF at*
 simp[onB,hOF,e3,hQ,e4,rk,ef,df,AM]
def oB{j:Nat}(w:Wk t ls ds n j)(hn:n+3<=16)(hj:j+1<=3)(hst:runs t (st0 t ls) ds=st)(pen:CL p S):(if(ovs t st).length<=4 then∃ds' S',HQ [.ref p,AM t ls ds] S=Gc (AM (nxT t st) (ovs t st) ds',S')/\(Wk (nxT t st) (ovs t st) ds' (n+3) (j+1)/\∀d∈ds',LZ d=false)/\CL p S' else∃S',HQ [.ref p,AM t ls ds] S=Gc (.non,S')/\CL p S'):=by
 have eb:S9=(AQ (Xa (Hi (tTp [tNm 2,tNm 3,tNm 4]) (AB A5 [eV 1])) (Pr BR [eV 1]) (gOr ["TooMany"] "TooMany" (Ac (eC .non)) gNo)) onB):=rfl
 split
 .rename_i hl
  have w2:=aU w (by lia) hj hst hl
  obtain⟨S1,e1,s1⟩:=XJ (S:=S) w.bk w.hh w.ho hst hl
  obtain⟨ds',us,S2,e2,w3,pen2⟩:=cm (S:=S1) (a1:=Gc (AM t ls ds)) (a4:=Gc (.tup [])) w2 hn hj (pen.same s1)
  refine⟨ds',S2,?_,w3,pen2⟩
  have tr:Xa (Hi (tTp [tNm 2,tNm 3,tNm 4]) (AB A5 [eV 1])) (Pr BR [eV 1]) (gOr ["TooMany"] "TooMany" (Ac (eC .non)) gNo) [Gc (.ref p),Gc (AM t ls ds),none,none,none,none,none,none] S=Gc (.nx,[Gc (.ref p),Gc (AM t ls ds),Gc (nxT t st).d,Gc (.tup ((ovs t st).map Ld.d)),Gc (.tup []),none,none,none],S1):=by
   have a:(Hi (tTp [tNm 2,tNm 3,tNm 4]) (AB A5 [eV 1])) [Gc (.ref p),Gc (AM t ls ds),none,none,none,none,none,none] S=Gc (.nx,[Gc (.ref p),Gc (AM t ls ds),Gc (nxT t st).d,Gc (.tup ((ovs t st).map Ld.d)),Gc (.tup []),none,none,none],S1):=by
    generalize AM t ls ds=bk at*
    have nbE:AM (nxT t st) (ovs t st) []=.tup [(nxT t st).d,.tup ((ovs t st).map Ld.d),.tup []]:=rfl
    rw[nbE]at e1
    generalize (nxT t st).d=T' at*
    generalize (ovs t st).map Ld.d=O' at*
    simp[e1]
   unfold Xa
   rw[a]
  unfold HQ
  rw[eb]
  generalize Xa (Hi (tTp [tNm 2,tNm 3,tNm 4]) (AB A5 [eV 1])) (Pr BR [eV 1]) (gOr ["TooMany"] "TooMany" (Ac (eC .non)) gNo)=TT at*
  generalize onB=OB at*
  simp[tr,e2]
 .rename_i hl
  obtain⟨S1,e1,e2,s1⟩:=VQ (S:=S) w.bk w.hh w.ho hst (by lia)
  refine⟨S1,?_,pen.same s1⟩
  have tr:Xa (Hi (tTp [tNm 2,tNm 3,tNm 4]) (AB A5 [eV 1])) (Pr BR [eV 1]) (gOr ["TooMany"] "TooMany" (Ac (eC .non)) gNo) [Gc (.ref p),Gc (AM t ls ds),none,none,none,none,none,none] S=Gc (.ret .non,[Gc (.ref p),Gc (AM t ls ds),none,none,none,none,none,none],S1):=by
   generalize AM t ls ds=bk at*
   have a:(Hi (tTp [tNm 2,tNm 3,tNm 4]) (AB A5 [eV 1])) [Gc (.ref p),Gc bk,none,none,none,none,none,none] S=none:=by simp[e1]
   have b:(Pr BR [eV 1]) [Gc (.ref p),Gc bk,none,none,none,none,none,none] S=Gc (⟨"TooMany",none⟩,[Gc (.ref p),Gc bk,none,none,none,none,none,none],S1):=by
    unfold Pr
    simp[e2]
   unfold Xa
   rw[a]
   show Option.bind _ _=_
   rw[b]
   have g:gOr ["TooMany"] "TooMany" (Ac (eC .non)) gNo ⟨"TooMany",none⟩=Ac (eC .non):=by
    simp[gOr]
   show gOr _ _ _ _ _ _ _=_
   rw[g]
   simp
  unfold HQ
  rw[eb]
  generalize Xa (Hi (tTp [tNm 2,tNm 3,tNm 4]) (AB A5 [eV 1])) (Pr BR [eV 1]) (gOr ["TooMany"] "TooMany" (Ac (eC .non)) gNo)=TT at*
  generalize onB=OB at*
  simp[tr]
end
def Raw(t:Tr):AR->Prop
 | .Bj _ _ n=>n<2^131
 | .Ik _ _=>ze
 | .swap _ _ _ n=>n<2^131
 | .C0 u _ _ _ n=>n<2^131/\0<=u/\u<=9
 | .EN _ _=>ze
 | .thr _ _ ws=>ws.length=t.k+1/\∀w∈ws,1<=w/\w<=99
 | .HP _ _ x=>0<x.num/\x.num<=x.den/\x.den<=12
noncomputable def isB(t:Tr):AR->va
 | .Bj p k n=>decide (p<t.p) && (decide (k<t.k) && decide (1<=n))
 | .Ik a b=> !(a==b)
 | .swap _ g k n=>decide (1<=g) && (decide (k<t.k) && decide (1<=n))
 | .C0 _ _ g k n=>decide (1<=g) && (decide (k<t.k) && decide (1<=n))
 | .EN _ n=>decide (1<=n)
 | .thr _ n _=>decide (1<=n)
 | .HP p q _=>decide (p<t.p) && (decide (q<t.p) && !(p==q))
def pA(h:Wf t d):Raw t d/\isB t d=true:=by
 cases d with
 |Bj p k n=>exact⟨h.2.2.2,by simp[isB,h.1,h.2.1,h.2.2.1]⟩
 |Ik x y=>exact⟨trivial,by simp[isB,show x≠y from h]⟩
 |swap l g k n=>exact⟨h.2.2.2,by simp[isB,h.1,h.2.1,h.2.2.1]⟩
 |C0 u l g k n=>exact⟨⟨h.2.2.2.1,h.2.2.2.2⟩,by simp[isB,h.1,h.2.1,h.2.2.1]⟩
 |EN l n=>exact⟨trivial,by simp[isB,show 1<=n from h]⟩
 |thr l n ws=>exact⟨h.2,by simp[isB,h.1]⟩
 |HP p q x=>exact⟨h.2.2.2,by simp[isB,h.1,h.2.1,h.2.2.1]⟩
section
variable{S:Sto}{t:Tr}{w:Str}
def KC(h1:((at? E i).isNone && decide (i<E.length))=true)(h2:at? E j=Gc (.str p))(h3:tbl.lookup p=Gc G):gU tbl i j fs E S=Ac (AB G fs) E S:=by
 unfold gU
 rw[vF h1,h2,Au]
 dsimp only
 rw[h3,Au]
@[simp] def eH:List.lookup (Str.ofString "partner") FZ=some BI:=rfl
@[simp] def oA:List.lookup (Str.ofString "kind") FZ=some Dw:=rfl
@[simp] def l8:List.lookup (Str.ofString "load") FZ=some Co:=rfl
@[simp] def iP:List.lookup (Str.ofString "number") FZ=some CT:=rfl
@[simp] def fW:List.lookup (Str.ofString "pieces") FZ=some Ez:=rfl
@[simp] def gL:List.lookup (Str.ofString "worths") FZ=some Es:=rfl
@[simp] def kj:List.lookup (Str.ofString "share") FZ=some DC:=rfl
def gi{i:Nat}:Av [t.d,.str "partner",.int i] S=Gc (.bl (decide (i<t.p)),S):=by
 have e:=within_int (S:=S) (i:=i) (j:=0) (k:=(t.p:Int)-1)
 have q:(decide ((0:Int)<=i) && decide ((i:Int)<=(t.p:Int)-1))=decide (i<t.p):=by
  rw[xh];simp;lia
 rw[q]at e
 simp[Av,Cw,KC,BI,Ew,Tr.d,e]
def fT{i:Nat}:Av [t.d,.str "kind",.int i] S=Gc (.bl (decide (i<t.k)),S):=by
 have e:=within_int (S:=S) (i:=i) (j:=0) (k:=(t.k:Int)-1)
 have q:(decide ((0:Int)<=i) && decide ((i:Int)<=(t.k:Int)-1))=decide (i<t.k):=by
  rw[xh];simp;lia
 rw[q]at e
 simp[Av,Cw,KC,Dw,JZ,Tr.d,e]
def iH{i:Nat}:Av [t.d,.str "load",.int i] S=Gc (.bl true,S):=by
 have e:=KW (S:=S) (i:=i) (j:=0)
 have q:decide ((0:Int)<=i)=true:=by simp
 rw[q]at e
 generalize t.d=T
 simp[Av,Cw,KC,Co,GS,e]
def jH(h0:0<=u)(h1:u<=9):Av [t.d,.str "number",.int u] S=Gc (.bl true,S):=by
 have e:=within_int (S:=S) (i:=u) (j:=0) (k:=9)
 generalize t.d=T
 simp[Av,Cw,KC,CT,GC,e,h0,h1]
def gu:Av [t.d,.str "pieces",.int n] S=Gc (.bl (decide (1<=n)),S):=by
 have e:=KW (S:=S) (i:=n) (j:=1)
 generalize t.d=T
 simp[Av,Cw,KC,Ez,JU,e]
def fR{ws:Wp Int}(h:ws.length=t.k+1)(hk:t.k<=5)(hw:∀w∈ws,1<=w/\w<=99):Av [t.d,.str "worths",.tup (ws.map .int)] S=Gc (.bl true,S):=by
 have k3:St.Kd.tup.isA "tuple"=true:=by decide
 obtain⟨bs,e1,e2⟩:=kN (S:=S) (f:=AB AX [eV 0,eI 1,eI 99]) (e:=D.int) (C:=[]) (os:=[none]) (xs:=ws) (gs:=[]) (t:=tNm 0) AI (by lia) rfl (by
  intro r hr' os ho
  obtain⟨a,rfl⟩:=MX ho
  have:=within_int (S:=S) (i:=r) (j:=1) (k:=99)
  exact⟨[Gc (.int r)],rfl,by simp,by simp[this,hw r hr']⟩)
 have it:Aa [.tup (ws.map .int),.int ((t.k:Int)+1)] S=Gc (.bl true,S):=by
  have:((ws.length:Int)==(t.k:Int)+1)=true:=by rw[h];simp
  simp[Aa,Bq,kdW,k3,this]
 simp only[ur]at e1
 obtain⟨b',e3,e4⟩:=xG.mp e2
 have v:Ci [.tup (ws.map .int),.int ((t.k:Int)+1)] S=Gc (.bl true,S):=by
  simp[Ci,Gj,it]
  simp[MB,e1,e3,e4]
 simp[Av,Cw,KC,Es,JN,Tr.d,v]
def gY(h0:0<x.num)(h1:x.num<=x.den)(h2:x.den<=12):Av [t.d,.str "share",aD x] S=Gc (.bl true,S):=by
 have nn:0<=x:=ABO.mp (by lia)
 have l1:x<=1:=by rw[Rat.le_iff];simpa using h1
 have e:=QI (S:=S) nn l1
 have h2':(x.den:Int)<=12:=by exact_mod_cast h2
 generalize t.d=T
 have e':Cz [.tup [.int x.num,.int x.den]] S=Gc (.bl true,S):=e
 simp[Av,Cw,KC,DC,Gu,aD,e',h0,h2']
@[simp] def pb{t:Tf}:BA [] t c f [] acc E S=some (acc,S):=Cc AI
def bu{t:Tf}(h:acc.length<20)(e:t d E S=Gc E1)(g:f E1 S=Gc (y,S)):BA [] t Ai f (d::ds) acc E S=BA [] t Ai f ds (acc++[y]) E1 S:=by
 rw[FO AI (uI h (AK (by decide))) e Fm,g,Au]
def pC:=AB Av [eV 0,eV 3,eIx (eV 1) (eOp (o2 Cr) [eV 2,eI 1])]
def pT:=AQ (xIf (Iw (eOp (o1 XO) [Az [0,1] 2 (XU (eV 3)) (tTp [tNm 2,tNm 3]) Ai pC])) (Ac (eC (.bl false))) Bc) (Ac (eOr (eOp (o2 (wIn true)) [eV 2,eC B5]) (eOp (o2 wNe) [eIx (eV 1) (eI 1),eIx (eV 1) (eI 2)])))
def YK(hf:yk w FN=Gc (.tup form))(hl:xs.length=form.length):Dr [T,.tup (.str w::xs)] S=(pT [Gc T,Gc (.tup (.str w::xs)),Gc (.str w),Gc (.tup form)] S).map λr=>(flD r.1,r.2.2):=by
 have h1:(((form.length:Nat):Int)+1==0)=false:=xD.mpr (by lia)
 have eb:NH=(AQ (xIf (eOr (Iw (eOp (o2 Ro) [eV 1,eC (.ty "tuple")])) (eOp (o2 wEq) [eOp (o1 EB) [eV 1],eI 0])) (Ac (eC (.bl false))) Bc)
  (AQ (A9 2 (eIx (eV 1) (eI 0)))
  (AQ (xIf (eOr (Iw (eOp (o2 Ro) [eV 2,eC (.ty "str")])) (eOp (o1 (OH true FN)) [eV 2])) (Ac (eC (.bl false))) Bc)
  (AQ (A9 3 (eOp (o1 (iG FN)) [eV 2]))
  (AQ (xIf (eOp (o2 wNe) [eOp (o1 EB) [eV 1],eOp (o2 Cr) [eOp (o1 EB) [eV 3],eI 1]]) (Ac (eC (.bl false))) Bc)
  pT))))):=rfl
 have k1:St.Kd.tup.isA "tuple"=true:=by decide
 have k2:St.Kd.str.isA "str"=true:=by decide
 have t1:OH true FN (.val (.str w))=Gc (.val (.bl false)):=by
  show Gc (Wv.val (.bl (!(yk w FN).isSome)))=_
  rw[hf];rfl
 have t2:iG FN (.val (.str w))=Gc (.val (.tup form)):=by
  show(yk w FN).map Wv.val=_
  rw[hf];rfl
 simp[Dr,eb,k1,k2,kdW,t1,t2,h1,hl]
def Yd{bs:Wp va}(hc:BA [] (tTp [tNm 2,tNm 3]) Ai pC (Nr 0 form) [] [Gc T,Gc (.tup (.str w::xs)),none,none] S=Gc (bs.map .bl,S))(hu:bs.all id=true->(eOr (eOp (o2 (wIn true)) [eV 2,eC B5]) (eOp (o2 wNe) [eIx (eV 1) (eI 1),eIx (eV 1) (eI 2)])) [Gc T,Gc (.tup (.str w::xs)),Gc (.str w),Gc (.tup form)] S=Gc (.bl u,S)):pT [Gc T,Gc (.tup (.str w::xs)),Gc (.str w),Gc (.tup form)] S=Gc (.ret (.bl (bs.all id && u)),[Gc T,Gc (.tup (.str w::xs)),Gc (.str w),Gc (.tup form)],S):=by
 have b1:bls (bs.map D.bl)=Gc bs:=by have:=Mr (λx:va=>x) (xs:=bs);simpa using this
 generalize hz:(eOr (eOp (o2 (wIn true)) [eV 2,eC B5]) (eOp (o2 wNe) [eIx (eV 1) (eI 1),eIx (eV 1) (eI 2)]))=Z at hu
 cases q:bs.all id with
 |false=>simp[pT,MB,hc,b1,q]
 |true=>simp[pT,MB,hc,b1,q,hz,hu q]
end
section
variable{S:Sto}{t:Tr}{d:AR}
def PR(T:D)(S:Sto):Wp D->Wp D->Wp va->Prop
 | [],ys,bs=>ys=[]/\bs=[]
 |f::fs,ys,bs=>∃y ys' b bs',ys=y::ys'/\bs=b::bs'/\Av [T,f,y] S=Gc (.bl b,S)/\PR T S fs ys' bs'
theorem SO:∀{form ys} {bs} {k} {acc} {o2 o3},PR T S form ys bs->L.drop (k+1)=ys->acc.length+form.length<=20->BA [] (tTp [tNm 2,tNm 3]) Ai pC (Nr k form) acc [Gc T,Gc (.tup L),o2,o3] S=Gc (acc++bs.map .bl,S)
 | [],ys,bs,k,acc,o2,o3,h,hd,hl=>by
   obtain⟨rfl,rfl⟩:=h
   simp[Nr]
 |f::fs,ys,bs,k,acc,o2,o3,h,hd,hl=>by
  obtain⟨y,ys',b,bs',rfl,rfl,hp,h⟩:=h
  have a:atI L ((k:Int)+1)=Gc y:=by
   have:L[k+1]?=Gc y:=by
    have:=congrArg (λz=>z[0]?) hd
    simpa using this
   have:=BU (n:=k+1) this
   exact_mod_cast this
  have hd':L.drop (k+1+1)=ys':=by
   have:=congrArg List.tail hd
   simpa using this
  simp only[Nr]
  rw[bu (E1:=[Gc T,Gc (.tup L),Gc (.int k),Gc f]) (y:=.bl b) (by simp at hl;lia) (by simp) (by simp[pC,a,hp]),SO h hd' (by simp at hl ⊢; lia)]
  simp
noncomputable def formOf:AR->Wp D
 | .Bj .. =>[.str "partner",.str "kind",.str "pieces"]
 | .Ik .. =>[.str "load",.str "load"]
 | .swap .. =>[.str "load",.str "pieces",.str "kind",.str "pieces"]
 | .C0 .. =>[.str "number",.str "load",.str "pieces",.str "kind",.str "pieces"]
 | .EN .. =>[.str "load",.str "pieces"]
 | .thr .. =>[.str "load",.str "pieces",.str "worths"]
 | .HP .. =>[.str "partner",.str "partner",.str "share"]
def Zq{a b:Nat}:(!((a:Int)==(b:Int)))= !(a==b):=by rw[Rb]
def Jk(hf:yk w FN=Gc (.tup form))(hl:form.length<=20)(hp:PR T S form xs bs)(hlen:xs.length=form.length)(hu:(eOr (eOp (o2 (wIn true)) [eV 2,eC B5]) (eOp (o2 wNe) [eIx (eV 1) (eI 1),eIx (eV 1) (eI 2)])) [Gc T,Gc (.tup (.str w::xs)),Gc (.str w),Gc (.tup form)] S=Gc (.bl u,S)):Dr [T,.tup (.str w::xs)] S=Gc (.bl (bs.all id && u),S):=by
 rw[YK hf hlen,Yd (by have:=SO (L:=.str w::xs) (k:=0) (acc:=[]) (o2:=none) (o3:=none) hp rfl (by simpa using hl);simpa using this) λ_=>hu]
 rfl
def UG(ht:Hu t)(h:Raw t d):Dr [t.d,d.d] S=Gc (.bl (isB t d),S):=by
 obtain⟨t1,t2,t3,t4,t5,t6⟩:=ht
 have pp:=λi:Nat=>gi (S:=S) (t:=t) (i:=i)
 have pk:=λi:Nat=>fT (S:=S) (t:=t) (i:=i)
 have pl:=λi:Nat=>iH (S:=S) (t:=t) (i:=i)
 have pn:=λn:Int=>gu (S:=S) (t:=t) (n:=n)
 have kU:dr S B5=.val B5:=rfl
 cases d with
 |Bj p k n=>
  have:=Jk (T:=t.d) (w:="bring") (xs:=[.int p,.int k,.int n]) (bs:=[decide (p<t.p),decide (k<t.k),decide (1<=n)]) (u:=true) (S:=S) (form:=formOf (.Bj p k n)) (rfl) (by simp[formOf]) ⟨_,_,_,_,rfl,rfl,pp p,_,_,_,_,rfl,rfl,pk k,_,_,_,_,rfl,rfl,pn n,rfl,rfl⟩ rfl (by
   generalize t.d=T
   have e:wIn true (.val (.str "bring")) (.val B5)=Gc (.val (.bl true)):=rfl
   simp[kU,e])
  rw[show(AR.Bj p k n).d=.tup (.str "bring" :: [.int p,.int k,.int n])from rfl,this]
  simp[isB]
 |Ik a b=>
  have:=Jk (T:=t.d) (w:="pool") (xs:=[.int a,.int b]) (bs:=[true,true]) (u:= !(a==b)) (S:=S) (form:=formOf (.Ik a b)) (rfl) (by simp[formOf]) ⟨_,_,_,_,rfl,rfl,pl a,_,_,_,_,rfl,rfl,pl b,rfl,rfl⟩ rfl (by
   generalize t.d=T
   have e:wIn true (.val (.str "pool")) (.val B5)=Gc (.val (.bl false)):=rfl
   simp[kU,e,Zq])
  rw[show(AR.Ik a b).d=.tup (.str "pool" :: [.int a,.int b])from rfl,this]
  simp[isB]
 |swap l g k n=>
  have:=Jk (T:=t.d) (w:="swap") (xs:=[.int l,.int g,.int k,.int n]) (bs:=[true,decide (1<=g),decide (k<t.k),decide (1<=n)]) (u:=true) (S:=S) (form:=formOf (.swap l g k n)) (rfl) (by simp[formOf]) ⟨_,_,_,_,rfl,rfl,pl l,_,_,_,_,rfl,rfl,pn g,_,_,_,_,rfl,rfl,pk k,_,_,_,_,rfl,rfl,pn n,rfl,rfl⟩ rfl (by
   generalize t.d=T
   have e:wIn true (.val (.str "swap")) (.val B5)=Gc (.val (.bl true)):=rfl
   simp[kU,e])
  rw[show(AR.swap l g k n).d=.tup (.str "swap" :: [.int l,.int g,.int k,.int n])from rfl,this]
  simp[isB]
 |C0 u l g k n=>
  have:=Jk (T:=t.d) (w:="trade") (xs:=[.int u,.int l,.int g,.int k,.int n]) (bs:=[true,true,decide (1<=g),decide (k<t.k),decide (1<=n)]) (u:=true) (S:=S) (form:=formOf (.C0 u l g k n)) (rfl) (by simp[formOf]) ⟨_,_,_,_,rfl,rfl,jH h.2.1 h.2.2,_,_,_,_,rfl,rfl,pl l,_,_,_,_,rfl,rfl,pn g,_,_,_,_,rfl,rfl,pk k,_,_,_,_,rfl,rfl,pn n,rfl,rfl⟩ rfl (by
   generalize t.d=T
   have e:wIn true (.val (.str "trade")) (.val B5)=Gc (.val (.bl true)):=rfl
   simp[kU,e])
  rw[show(AR.C0 u l g k n).d=.tup (.str "trade" :: [.int u,.int l,.int g,.int k,.int n])from rfl,this]
  simp[isB]
 |EN l n=>
  have:=Jk (T:=t.d) (w:="spoil") (xs:=[.int l,.int n]) (bs:=[true,decide (1<=n)]) (u:=true) (S:=S) (form:=formOf (.EN l n)) (rfl) (by simp[formOf]) ⟨_,_,_,_,rfl,rfl,pl l,_,_,_,_,rfl,rfl,pn n,rfl,rfl⟩ rfl (by
   generalize t.d=T
   have e:wIn true (.val (.str "spoil")) (.val B5)=Gc (.val (.bl true)):=rfl
   simp[kU,e])
  rw[show(AR.EN l n).d=.tup (.str "spoil" :: [.int l,.int n])from rfl,this]
  simp[isB]
 |thr l n ws=>
  have:=Jk (T:=t.d) (w:="throw") (xs:=[.int l,.int n,.tup (ws.map .int)]) (bs:=[true,decide (1<=n),true]) (u:=true) (S:=S) (form:=formOf (.thr l n ws)) (rfl) (by simp[formOf]) ⟨_,_,_,_,rfl,rfl,pl l,_,_,_,_,rfl,rfl,pn n,_,_,_,_,rfl,rfl,fR h.1 t4 h.2,rfl,rfl⟩ rfl (by
   generalize t.d=T
   have e:wIn true (.val (.str "throw")) (.val B5)=Gc (.val (.bl true)):=rfl
   simp[kU,e])
  rw[show(AR.thr l n ws).d=.tup (.str "throw" :: [.int l,.int n,.tup (ws.map .int)])from rfl,this]
  simp[isB]
 |HP p q x=>
  have:=Jk (T:=t.d) (w:="sell") (xs:=[.int p,.int q,aD x]) (bs:=[decide (p<t.p),decide (q<t.p),true]) (u:= !(p==q)) (S:=S) (form:=formOf (.HP p q x)) (rfl) (by simp[formOf]) ⟨_,_,_,_,rfl,rfl,pp p,_,_,_,_,rfl,rfl,pp q,_,_,_,_,rfl,rfl,gY h.1 h.2.1 h.2.2,rfl,rfl⟩ rfl (by
   generalize t.d=T
   have e:wIn true (.val (.str "sell")) (.val B5)=Gc (.val (.bl false)):=rfl
   simp[kU,e,Zq])
  rw[show(AR.HP p q x).d=.tup (.str "sell" :: [.int p,.int q,aD x])from rfl,this]
  simp[isB,Bool.and_assoc]
end
section
variable{S:Sto}{t:Tr}{ls:Wp Ld}{ds:Wp AR}{st:Stt}{d:AR}
def fH(h:Can t st d):Wf t d:=(Z3 h).1
theorem XE:∀{ds} {st:Stt},JF t st ds->∀d∈ds,Wf t d
 | [],st,_,d,hd=>by cases hd
 |x::ds,st,h,d,hd=>by
  rcases uS.mp hd with rfl|hd
  .exact fH h.1
  .exact XE h.2 d hd
noncomputable def jR(ds:Wp AR):Nat:=(ds.filter LZ).length
def bV{os:En}(ho:os.length=1)(hl:ds.length<=50):BA [] (tNm 0) (eOp (o2 wEq) [eIx (eV 0) (eI 0),eC (.str "throw")]) (eV 0) (ds.map AR.d) [] os S=Gc ((ds.filter LZ).map AR.d,S):=by
 have:=C3 (gs:=[]) (t:=tNm 0) (c:=eOp (o2 wEq) [eIx (eV 0) (eI 0),eC (.str "throw")]) (f:=eV 0) (C:=[]) (m:=1) (e:=AR.d) (g:=AR.d) (b:=LZ) (S:=S) AI (xs:=ds) (acc:=[]) (os:=os) ho (AK (by simp;lia)) (by
  intro x hx os ho
  obtain⟨a,rfl⟩:=MX ho
  exact⟨[Gc x.d],rfl,by simp,Y1 x _ rfl,by simp⟩)
 simpa using this
def QN(ht:Hu t)(hw:∀d∈ds,Wf t d)(hl:ds.length<=50):EM [t.d,.tup (ds.map AR.d)] S=Gc (.bl (decide (ds.length<=20) && decide (jR ds<=3)),S):=by
 have k3:St.Kd.tup.isA "tuple"=true:=by decide
 have d1:dr S GR=.val (.int 20):=rfl
 have d2:dr S FX=.val (.int 3):=rfl
 by_cases c:ds.length<=20
 .obtain⟨bs,e1,e2⟩:=kN (S:=S) (f:=AB Dr [eV 0,eV 1]) (e:=AR.d) (C:=[Gc t.d]) (os:=[none]) (xs:=ds) (gs:=[]) (t:=tNm 1) AI (by lia) rfl (by
   intro x hx os ho
   obtain⟨a,rfl⟩:=MX ho
   have⟨r,i⟩:=pA (hw x hx)
   have e:=UG (S:=S) ht r
   rw[i]at e
   exact⟨[Gc x.d],rfl,by simp,by simp[e]⟩)
  obtain⟨b',e3,e4⟩:=xG.mp e2
  have tc:=bV (S:=S) (os:=[none]) rfl hl
  have c1:¬(20:Int)<ds.length:=by lia
  have c2:decide ((((ds.filter LZ).length:Nat):Int)<=3)=decide (jR ds<=3):=by
   unfold jR
   rw[xh];simp;lia
  generalize t.d=T at*
  simp[EM,HB,kdW,k3,d1,d2,c,c1,MB]
  try simp only[vD,ur]at e1
  simp[e1,e3,e4,tc,d2,c2]
 .have c1:(20:Int)<ds.length:=by lia
  generalize t.d=T
  simp[EM,HB,kdW,k3,d1,d2,c,c1]
def UP(ht:Hu t)(hh:t.ho.length=t.p/\t.ho.sum=1)(hr:HOk t){G B:Nat}(g0:0<G)(g1:G<2^2760)(hb:4*B<2^2760)(g2:∀r∈t.ho,Ok G B r):GO [t.d] S=Gc (.bl true,S):=by
 obtain⟨t1,t2,t3,t4,t5,t6⟩:=ht
 obtain⟨r1,r2,r3,r4⟩:=hr
 have O:=P8 (S:=S) (K:=2760) hh.1 t2 g0 g1 (by decide) g2 hb hh.2
 have k3:St.Kd.tup.isA "tuple"=true:=by decide
 have it:Aa [t.d,.int 6] S=Gc (.bl true,S):=by
  simp[Aa,Bq,Tr.d,kdW,k3]
 have w1:=within_int (S:=S) (i:=t.p) (j:=1) (k:=4)
 have w2:=within_int (S:=S) (i:=t.k) (j:=1) (k:=5)
 have w3:=within_int (S:=S) (i:=t.b) (j:=1) (k:=20)
 have w4:=within_int (S:=S) (i:=t.h) (j:=0) (k:=9)
 have w5:=within_int (S:=S) (i:=t.l) (j:=0) (k:=9)
 have q1:(decide ((1:Int)<=t.p) && decide ((t.p:Int)<=4))=true:=by simp;lia
 have q2:(decide ((1:Int)<=t.k) && decide ((t.k:Int)<=5))=true:=by simp;lia
 have q3:(decide ((1:Int)<=t.b) && decide ((t.b:Int)<=20))=true:=by simp;lia
 have q4:(decide ((0:Int)<=t.h) && decide (t.h<=9))=true:=by simp;lia
 have q5:(decide ((0:Int)<=t.l) && decide (t.l<=9))=true:=by simp;lia
 rw[q1]at w1
 rw[q2]at w2
 rw[q3]at w3
 rw[q4]at w4
 rw[q5]at w5
 have td:t.d=.tup [.int t.p,.int t.k,.int t.b,shD t.ho,.int t.h,.int t.l]:=rfl
 rw[td]at it⊢
 generalize shD t.ho=ho at*
 simp[GO,Lv,it,w1,w2,w3,w4,w5,O]
def RK(ht:Hu t)(hl:ls.length<=4)(ha:∀x∈ls,x.k<t.k/\0<x.n/\x.ow.length=t.p/\x.ow.sum=1){G B:Nat}(g0:0<G)(g1:G<2^2760)(hb:4*B<2^2760)(g2:∀x∈ls,∀r∈x.ow,Ok G B r):FW [t.d,.tup (ls.map Ld.d)] S=Gc (.bl true,S):=by
 have k3:St.Kd.tup.isA "tuple"=true:=by decide
 have d1:dr S BN=.val (.int 4):=rfl
 obtain⟨bs,e1,e2⟩:=kN (S:=S) (f:=FQ (AB Ea [eV 0,eV 1]) (eOp (o2 wGt) [eIx (eV 1) (eI 1),eI 0])) (e:=Ld.d) (C:=[Gc t.d]) (os:=[none]) (xs:=ls) (gs:=[]) (t:=tNm 1) AI (by lia) rfl (by
  intro x hx os ho
  obtain⟨a,rfl⟩:=MX ho
  obtain⟨h1,h2,h4,h5⟩:=ha x hx
  have e:=UM (S:=S) (K:=2760) ht h1 (by lia) h4 g0 g1 (by decide) (g2 x hx) hb h5
  have n0:(0:Int)<x.n:=by lia
  have ix:asS (dr S x.d)=Gc [.int x.k,.int x.n,shD x.ow]:=rfl
  refine⟨[Gc x.d],rfl,by simp,?_⟩
  generalize x.d=X at*
  generalize t.d=T at*
  simp[e,ix,n0])
 obtain⟨b',e3,e4⟩:=xG.mp e2
 have c1:¬(4:Int)<ls.length:=by lia
 generalize t.d=T at*
 generalize hz:FQ (AB Ea [eV 0,eV 1]) (eOp (o2 wGt) [eIx (eV 1) (eI 1),eI 0])=Z at e1
 have eb:Kc=(AQ (xIf (eOr (Iw (eOp (o2 Ro) [eV 1,eC (.ty "tuple")])) (eOp (o2 wGt) [eOp (o1 EB) [eV 1],eC BN])) (Ac (eC (.bl false))) Bc)
  (Ac (eOp (o1 XO) [Az [0] 1 (DY (eV 1)) (tNm 1) Ai Z]))):=by rw[<-hz];rfl
 simp only[vD,ur]at e1
 simp[FW,eb,kdW,k3,d1,c1,MB,e1,e3,e4]
def Ua{n j:Nat}(w:Wk t ls ds n j)(hp:∀x∈ls,0<x.n)(hthr:∀d∈ds,LZ d=false):Fs [AM t ls ds] S=Gc (.bl true,S):=by
 have bk:=w.bk
 obtain⟨k,hk,z⟩:=bk.lev
 obtain⟨G,B,sg⟩:=z.sig
 have gb:B<2^2750:=uI sg.bb (A7 (by lia))
 have p1:2^2760=2^2750*2^10:=by rw[<-zK]
 have g1:G<2^2760:=by have:=sg.gb;lia
 have b4:4*B<2^2760:=by lia
 have e1:=UP (S:=S) bk.tr ⟨sg.hold,w.ho.2⟩ w.hh sg.g0 g1 b4 sg.hok
 have e2:=RK (S:=S) bk.tr bk.four (λx hx=>⟨(sg.lok x hx).kd,hp x hx,(sg.lok x hx).own,w.ho.1 x hx⟩) sg.g0 g1 b4 λx hx=>(sg.lok x hx).ok
 have e3:=QN (S:=S) bk.tr (XE bk.good) (by have:=bk.len;lia)
 have c1:ds.length<=20:=by have:=bk.len;lia
 have c2:jR ds=0:=by
  unfold jR
  rw[List.filter_eq_nil_iff.mpr λd hd=>by simp[hthr d hd]]
  rfl
 rw[c2]at e3
 have k3:St.Kd.tup.isA "tuple"=true:=by decide
 have it:Aa [AM t ls ds,.int 3] S=Gc (.bl true,S):=by
  simp[Aa,Bq,AM,kdW,k3]
 simp only[AM]at it⊢
 generalize t.d=T at*
 simp[Fs,Nl,it,e1,e2,e3,c1]
def Vc{p:Nat}(h:Ah t ls ds)(hp:p<t.p):∃S',DX [AM t ls ds,.int 0,.int p] S=Gc (shD (AS t.k ls p),S')/\Bh [] S S':=by
 have r1:=Dk (S:=S) h
 have r2:=NA (S:=S) (t:=t) (ls:=ls) (vZ ds.length)
 have r3:=Il (S:=S) (ls:=ls) (ds:=ds) hp
 obtain⟨S1,e,s⟩:=cJ (S:=S) h (vZ ds.length)
 rw[List.take_zero]at e
 have a:atI ((W1 t.p).map λp=>shD (AS t.k (runs t (st0 t ls) []).AA p)) (p:Int)=Gc (shD (AS t.k ls p)):=BU (by rw[uR,vW hp];rfl)
 refine⟨S1,?_,s⟩
 have e':Cv [AM t ls ds,.int 0] S=Gc (.lst ((W1 t.p).map λp=>shD (AS t.k (runs t (st0 t ls) []).AA p)),S1):=e
 have r2':A8 [AM t ls ds,.int 0] S=Gc (.non,S):=r2
 generalize (W1 t.p).map (λp=>shD (AS t.k (runs t (st0 t ls) []).AA p))=V at*
 generalize shD (AS t.k ls p)=R at*
 generalize AM t ls ds=bk at*
 simp[DX,Km,r1,r2',r3,e',a]
end
section
variable{S:Sto}{t:Tr}{ls:Wp Ld}{ds:Wp AR}{st:Stt}{n p:Nat}
def OZ (h:CL p S){n:Nat}(hn:n ≤ 6):∃(ws:Wp Int)(S':Sto),DA [.ref p,.int n] S=Gc (.tup (ws.map .int),S')/\Pn p S S'/\ws.length=n/\∀w ∈ ws,1 ≤ w/\w ≤ 99:=by
  obtain⟨ys,S',e,hI,l,r⟩:=MV (gs:=[]) (t:=tNm 1) (f:=(eOp (o2 Cr) [(eC (.int 1)),(eOp (o2 wIx) [(KG [(AB AE [(eV 0),(eC (.int 4))]),(AB AE [(eV 0),(eC (.int 99))])]),(AB AE [(eV 0),(eC (.int 2))])])])) (C:=[Gc (.ref p)]) (m:=1) (I:=Pn p S) (R:=λ_ y=>∃i:Int,y = .int i/\1 ≤ i/\i ≤ 99)
    (λ_ _=>AI) (ds:=Jd 0 n) (acc:=[]) (os:=[none]) rfl (Pn.refl h) (by rw[Fc];simp;exact AK (by lia)) λd _ os S0 ho I0=>by
      obtain⟨o,rfl⟩:∃o,os=[o]:=by
        match os, ho with
        | [o], _ => exact ⟨o, rfl⟩
      obtain⟨r1,S1,e1,a1,b1,p1⟩:=Ar I0.pen (n:=4) (by decide) (by decide)
      obtain⟨r2,S2,e2,a2,b2,p2⟩:=Ar p1.pen (n:=99) (by decide) (by decide)
      obtain⟨r3,S3,e3,a3,b3,p3⟩:=Ar p2.pen (n:=2) (by decide) (by decide)
      obtain⟨x,ex,hx⟩:=pick (xs:=[.int r1,.int r2]) (r:=r3) a3 (by simpa using b3)
      simp only [uS, vB, vy] at hx
      rcases hx with rfl | rfl
      · exact ⟨[Gc d], .int (1 + r1), S3, rfl, by simp, by simp [e1, e2, e3, ex], ((I0.trans p1).trans p2).trans p3, _, rfl, by lia, by lia⟩
      · exact ⟨[Gc d], .int (1 + r2), S3, rfl, by simp, by simp [e1, e2, e3, ex], ((I0.trans p1).trans p2).trans p3, _, rfl, by lia, by lia⟩
  obtain⟨ns,rfl,hns⟩:=Pp (JD r)
  have r1:Ge (n:Int)=true:=Bw (by lia) (by lia)
  have e':BA [] (tNm 1) Ai (eOp (o2 Cr) [(eC (.int 1)),(eOp (o2 wIx) [(KG [(AB AE [(eV 0),(eC (.int 4))]),(AB AE [(eV 0),(eC (.int 99))])]),(AB AE [(eV 0),(eC (.int 2))])])]) (Jd 0 n) [] [Gc (.ref p),none] S=Gc (ns.map D.int,S'):=by simpa using e
  exact ⟨ns, S', by simp [DA, Ln, r1, e'], hI, by simpa [Fc] using l, hns⟩
def jN:=xIf (eOp (o2 wNe) [eOp (o1 N5) [AB DX [eV 9,eI 0,eV 10]],AB CS [eV 8,eV 5,eV 10]]) (Ac (eC (.bl false))) Bc
def Wb:=AQ (xIf (eOr (Iw (AB Fs [eV 9])) (eOp (o2 wNe) [eIx (eV 9) (eI 1),eV 8])) (Ac (eC (.bl false))) Bc) (AQ (Ht (Kk [eIx (eIx (eV 3) (eI 0)) (eI 0)]) (tNm 10) jN) (A9 3 (eV 9)))
def Rn:Eb:=UX (A9 5 (eIx (eIx (eV 3) (eI 0)) (eI 1))) (UX (Np 6 7 (AB DA [eV 2,eV 5]) (AB DA [eV 2,eV 5])) (UX (xIf (eOr (Iw (AB Cb [eV 3])) (Iw (AB Bf [eV 3,eV 6,eV 7]))) (Ac (eC (.bl false))) Bc) (UX (Np 8 9 (AB B4 [eV 3]) (AB HQ [eV 2,eV 3])) (UX (xIf (eOp (o2 wNe) [eOp (o2 (Wj false)) [eV 9,eC .non],eOp (o2 wGt) [eOp (o1 EB) [eV 8],eI 4]]) (Ac (eC (.bl false))) Bc) (iF (eOp (o2 (Wj false)) [eV 9,eC .non]) (bOf Wb))))))
def mG{G:Nat}{ds':Wp AR}{a0 a1 a2 a3 a4 a6 a7 o10:uM D}(hG:0<G)(gk:G<2^2750)(hs:∀x∈st.AA,Stl t st G x)(hm:∀x∈st.AA,HC t st x)(hk:∀x∈st.AA,x.k<t.k)(ln:st.AA.length<=20)(t4:t.k<=5)(h:Ah (nxT t st) (ovs t st) ds'):∃o S',Jj [] (tNm 10) jN ((W1 t.p).map λp:Nat=>D.int p) [a0,a1,a2,a3,a4,Gc (.int t.k),a6,a7,Gc (.tup ((ovs t st).map Ld.d)),Gc (AM (nxT t st) (ovs t st) ds'),o10] S=Gc (.nx,[a0,a1,a2,a3,a4,Gc (.int t.k),a6,a7,Gc (.tup ((ovs t st).map Ld.d)),Gc (AM (nxT t st) (ovs t st) ds'),o],S')/\Bh [] S S':=by
 have bd:=ZW hs hG gk ln
 obtain⟨E',S',ef,o,rfl,f1,_⟩:=DZ (gs:=[]) (t:=tNm 10) (b:=jN)
  (I:=λrs E S'=>∃o,E=[a0,a1,a2,a3,a4,Gc (.int t.k),a6,a7,Gc (.tup ((ovs t st).map Ld.d)),Gc (AM (nxT t st) (ovs t st) ds'),o]/\Bh [] S S'/\∀d∈rs,∃p:Nat,p<t.p/\d=.int p)
  (λ_ _ _ _=>AI) (ds:=(W1 t.p).map λp:Nat=>D.int p) (E:=[a0,a1,a2,a3,a4,Gc (.int t.k),a6,a7,Gc (.tup ((ovs t st).map Ld.d)),Gc (AM (nxT t st) (ovs t st) ds'),o10]) (S:=S)
  ⟨o10,rfl,.refl,λd hd=>by
    obtain⟨i,hi,rfl⟩:=uo.mp hd
    exact⟨i,vC.mp hi,rfl⟩⟩ (by
    rintro dd rs E T ⟨o,rfl,s,hall⟩
    obtain⟨p,hp,rfl⟩:=hall dd uO
    obtain⟨T1,e1,s1⟩:=Vc (S:=T) h (p:=p) hp
    obtain⟨q,T2,e2,c2,s2⟩:=Oj (S:=T1) (ls:=ovs t st) (k:=t.k) (p:=p) (by lia) (λy hy=>by
     obtain⟨x,hx,_,rfl⟩:=La hy
     exact hk x hx) (λy hy=>by rw[RQ hm hy];exact hp) bd
    have d2:=Aq c2
    have eqs:Lb (.lst ((AS t.k (ovs t st) p).map aD)) (.lst ((AS t.k (ovs t st) p).map aD))=true/\deq (.lst ((AS t.k (ovs t st) p).map aD)) (.lst ((AS t.k (ovs t st) p).map aD))=true:=⟨G6 (EF λ_ _=>KO) (uH (bp (n:=2) λd hd=>by
     obtain⟨r,_,rfl⟩:=uo.mp hd
     exact gA) (by decide)),EI (EF λ_ _=>KO)⟩
    have e1':DX [AM (nxT t st) (ovs t st) ds',.int 0,.int p] T=Gc (.tup ((AS t.k (ovs t st) p).map aD),T1):=e1
    refine⟨[a0,a1,a2,a3,a4,Gc (.int t.k),a6,a7,Gc (.tup ((ovs t st).map Ld.d)),Gc (AM (nxT t st) (ovs t st) ds'),Gc (.int p)],[a0,a1,a2,a3,a4,Gc (.int t.k),a6,a7,Gc (.tup ((ovs t st).map Ld.d)),Gc (AM (nxT t st) (ovs t st) ds'),Gc (.int p)],T2,by simp,?_,_,rfl,s.trans (s1.trans s2),λd hd=>hall d (uL _ hd)⟩
    generalize (AS t.k (ovs t st) p).map aD=V at*
    generalize (ovs t st).map Ld.d=OV at*
    generalize AM (nxT t st) (ovs t st) ds'=nb at*
    simp[jN,e1',e2,d2,eqs.1,eqs.2])
 exact⟨o,S',ef,f1⟩
def cj{j:Nat}{a0 a1 o4 o5 o6 o7 o8 o9 o10:uM D}(w:Wk t ls ds n j)(hn:n+3<=16)(hj:j+1<=3)(pen:CL p S):∃r u3 u5 u6 u7 u8 u9 u10 S',Rn [a0,a1,Gc (.ref p),Gc (AM t ls ds),o4,o5,o6,o7,o8,o9,o10] S=Gc (r,[a0,a1,Gc (.ref p),u3,o4,u5,u6,u7,u8,u9,u10],S')/\(r=none\/(r=Gc .nx/\∃t' ls' ds',u3=Gc (AM t' ls' ds')/\Wk t' ls' ds' (n+3) (j+1)/\CL p S')):=by
 have bk:=w.bk
 obtain⟨t1,t2,t3,t4,t5,t6⟩:=bk.tr
 obtain⟨ws,S1,e1,p1,l1,r1⟩:=OZ pen (n:=t.k) (by lia)
 obtain⟨vs,S2,e2,p2,l2,r2⟩:=OZ p1.pen (n:=t.k) (by lia)
 obtain⟨S3,e3,s3⟩:=bZ (S:=S2) bk w.hh w.ho
 obtain⟨S4,e4,s4⟩:=RG (S:=S3) bk w.hh w.ho (ws:=ws) (vs:=vs) ⟨l1,r1⟩ ⟨l2,r2⟩
 obtain⟨S5,e5,s5⟩:=KU (S:=S4) bk w.hh w.ho
 rw[Pd]at e5
 have pen5:=p2.pen.same ((s3.trans s4).trans s5)
 have on:=oB (S:=S5) w hn hj rfl pen5
 obtain⟨G,B,hG,gb,bb,_,k1,k2⟩:=bk.one
 have gk:G<2^2750:=ug gb bb
 have hm:=K4 bk w.hh w.ho
 have hs:=WD w.hh hG k1 k2 hm
 have inv:=bk.fin
 have ix0:∀T:Sto,(eIx (eIx (eV 3) (eI 0)) (eI 1)) [a0,a1,Gc (.ref p),Gc (AM t ls ds),o4,o5,o6,o7,o8,o9,o10] T=Gc (.int t.k,T):=λT=>by simp[AM,Tr.d]
 split at on
 .rename_i hl
  obtain⟨ds',S6,e6,⟨w2,hthr⟩,pen6⟩:=on
  have ib:=Ua (S:=S6) w2 (λx hx=>(WY hs x hx).1) hthr
  obtain⟨o,S7,e7,s7⟩:=mG (S:=S6) (a0:=a0) (a1:=a1) (a2:=Gc (.ref p)) (a3:=Gc (AM t ls ds)) (a4:=o4) (a6:=Gc (.tup (ws.map .int))) (a7:=Gc (.tup (vs.map .int))) (o10:=o10) hG gk hs hm inv.kind (by have:=inv.len;lia) t4 w2.bk
  refine⟨Gc .nx,Gc (AM (nxT t (runs t (st0 t ls) ds)) (ovs t (runs t (st0 t ls) ds)) ds'),Gc (.int t.k),Gc (.tup (ws.map .int)),Gc (.tup (vs.map .int)),Gc (.tup ((ovs t (runs t (st0 t ls) ds)).map Ld.d)),Gc (AM (nxT t (runs t (st0 t ls) ds)) (ovs t (runs t (st0 t ls) ds)) ds'),o,S7,?_,.inr ⟨rfl,_,_,_,rfl,w2,pen6.same s7⟩⟩
  generalize hst:runs t (st0 t ls) ds=st at*
  have h4:¬(4:Int)<((ovs t st).map Ld.d).length:=by simp;lia
  have nn:∀T:Sto,isN (dr T (AM (nxT t st) (ovs t st) ds'))=false:=λT=>rfl
  have as9:∀T:Sto,asS (dr T (AM (nxT t st) (ovs t st) ds'))=Gc [(nxT t st).d,.tup ((ovs t st).map Ld.d),.tup (ds'.map AR.d)]:=λT=>rfl
  have eqs:Lb (.tup ((ovs t st).map Ld.d)) (.tup ((ovs t st).map Ld.d))=true/\deq (.tup ((ovs t st).map Ld.d)) (.tup ((ovs t st).map Ld.d))=true:=⟨G6 (EF λ_ _=>ZU) (uH (ZA (n:=4) λd hd=>by
   obtain⟨r,_,rfl⟩:=uo.mp hd
   exact tE) (by decide)),EI (EF λ_ _=>ZU)⟩
  have bb:Lb (.bl false) (.bl false)=true/\deq (.bl false) (.bl false)=true:=⟨rfl,EI rfl⟩
  have rk:Ge (t.p:Int)=true:=Bw (by lia) (by lia)
  have rm:=KD (n:=t.p)
  simp only[wB]at rm
  have ixp:∀(T:Sto) (u4 u5 u6 u7 u8 u9 u10:uM D),(eIx (eIx (eV 3) (eI 0)) (eI 0)) [a0,a1,Gc (.ref p),Gc (AM t ls ds),u4,u5,u6,u7,u8,u9,u10] T=Gc (.int t.p,T):=λT _ _ _ _ _ _ _=>by simp[AM,Tr.d]
  have last:Wb [a0,a1,Gc (.ref p),Gc (AM t ls ds),o4,Gc (.int t.k),Gc (.tup (ws.map .int)),Gc (.tup (vs.map .int)),Gc (.tup ((ovs t st).map Ld.d)),Gc (AM (nxT t st) (ovs t st) ds'),o10] S6=Gc (.nx,[a0,a1,Gc (.ref p),Gc (AM (nxT t st) (ovs t st) ds'),o4,Gc (.int t.k),Gc (.tup (ws.map .int)),Gc (.tup (vs.map .int)),Gc (.tup ((ovs t st).map Ld.d)),Gc (AM (nxT t st) (ovs t st) ds'),o],S7):=by
   have as9:=as9 S6
   generalize hIX:eIx (eIx (eV 3) (eI 0)) (eI 0)=IX at*
   generalize hTB:jN=TB at*
   generalize AM (nxT t st) (ovs t st) ds'=nb at*
   generalize (ovs t st).map Ld.d=OV at*
   generalize AM t ls ds=bk0 at*
   rw[<-rm]at e7
   simp -implicitDefEqProofs[Wb,hIX,hTB,ib,as9,eqs.1,eqs.2,ixp,rk,e7]
  generalize hLB:Wb=LB at*
  generalize AM (nxT t st) (ovs t st) ds'=nb at*
  generalize (ovs t st).map Ld.d=OV at*
  generalize hIX:eIx (eIx (eV 3) (eI 0)) (eI 1)=IX at*
  generalize AM t ls ds=bk0 at*
  simp only[Rn,UX,iF,bOf,hLB,hIX]
  simp -implicitDefEqProofs[ix0,e1,e2,e3,e4,e5,e6,nn,h4,bb.1,bb.2,last]
 .rename_i hl
  obtain⟨S6,e6,pen6⟩:=on
  refine⟨none,Gc (AM t ls ds),Gc (.int t.k),Gc (.tup (ws.map .int)),Gc (.tup (vs.map .int)),Gc (.tup ((ovs t (runs t (st0 t ls) ds)).map Ld.d)),Gc .non,o10,S6,?_,.inl rfl⟩
  generalize hst:runs t (st0 t ls) ds=st at*
  have h4:(4:Int)<((ovs t st).map Ld.d).length:=by simp;lia
  have nn:isN (.val .non)=true:=rfl
  have bb:Lb (.bl true) (.bl true)=true/\deq (.bl true) (.bl true)=true:=⟨rfl,EI rfl⟩
  generalize hLB:Wb=LB at*
  generalize (ovs t st).map Ld.d=OV at*
  generalize hIX:eIx (eIx (eV 3) (eI 0)) (eI 1)=IX at*
  generalize AM t ls ds=bk0 at*
  simp only[Rn,UX,iF,bOf,hLB,hIX]
  simp -implicitDefEqProofs[ix0,e1,e2,e3,e4,e5,e6,nn,h4,bb.1,bb.2]
end
section
variable{S:Sto}
def Yv{t:Tf}{b:Eb}{E:En}:Q4 [] t b [] E S=Gc (.nx,E,S):=by
 rw[Q4,vF AI]
def VF{t:Tf}{b:Eb}{d:D}{ds:Wp D}{E E1 E2:En}{S2:Sto}(h1:t d E S=Gc E1)(h2:b E1 S=Gc (Gc .nx,E2,S2)):Q4 [] t b (d::ds) E S=Q4 [] t b ds E2 S2:=by
 rw[Q4,vF AI,h1,Au,h2,Au]
def Y2{t:Tf}{b:Eb}{d:D}{ds:Wp D}{E E1 E2:En}{S2:Sto}(h1:t d E S=Gc E1)(h2:b E1 S=Gc (none,E2,S2)):Q4 [] t b (d::ds) E S=Gc (.nx,E2,S2):=by
 rw[Q4,vF AI,h1,Au,h2,Au]
theorem SK{a0 a1:uM D}{p:Nat}:∀{ks:Wp Int} {n j:Nat} {t:Tr} {ls:Wp Ld} {ds:Wp AR} {o4 o5 o6 o7 o8 o9 o10:uM D} {S:Sto},Wk t ls ds n j->n+3*ks.length<=16->j+ks.length<=3->CL p S->∃u3 u4 u5 u6 u7 u8 u9 u10 S',Q4 [] (tNm 4) Rn (ks.map D.int) [a0,a1,Gc (.ref p),Gc (AM t ls ds),o4,o5,o6,o7,o8,o9,o10] S=Gc (.nx,[a0,a1,Gc (.ref p),u3,u4,u5,u6,u7,u8,u9,u10],S')
 | [],n,j,t,ls,ds,o4,o5,o6,o7,o8,o9,o10,S,_,_,_,_=>⟨_,_,_,_,_,_,_,_,S,Yv⟩
 |k::ks,n,j,t,ls,ds,o4,o5,o6,o7,o8,o9,o10,S,w,hn,hj,pen=>by
  simp only[vY]at hn hj
  obtain⟨r,u3,u5,u6,u7,u8,u9,u10,S1,e,h⟩:=cj (a0:=a0) (a1:=a1) (o4:=Gc (.int k)) (o5:=o5) (o6:=o6) (o7:=o7) (o8:=o8) (o9:=o9) (o10:=o10) w (by lia) (by lia) pen
  have h1:tNm 4 (.int k) [a0,a1,Gc (.ref p),Gc (AM t ls ds),o4,o5,o6,o7,o8,o9,o10] S=Gc [a0,a1,Gc (.ref p),Gc (AM t ls ds),Gc (.int k),o5,o6,o7,o8,o9,o10]:=by simp
  rw[uV]
  rcases h with rfl|⟨rfl,t',ls',ds',rfl,w',pen'⟩
  .exact⟨_,_,_,_,_,_,_,_,S1,Y2 h1 e⟩
  .rw[VF h1 e]
   exact SK w' (by lia) (by lia) pen'
def Qn:=AQ (A9 2 (AB Ih [AB DP [eV 0,eV 1]])) (AQ (A9 3 (AB Gn [eV 2,eI 7])) (Vh (Kk [eI 3]) (tNm 4) Rn))
def Ym{ns:Wp Int}{k:Nat}{o2 o3 o4 o5 o6 o7 o8 o9 o10:uM D}:∃u2 u3 u4 u5 u6 u7 u8 u9 u10 S',Qn [Gc (.scr ns),Gc (.int k),o2,o3,o4,o5,o6,o7,o8,o9,o10] S=Gc (.nx,[Gc (.scr ns),Gc (.int k),u2,u3,u4,u5,u6,u7,u8,u9,u10],S'):=by
 obtain⟨c,e0⟩:=dz (S:=S) (ns:=ns) (k:=k)
 obtain⟨p,S1,e1,hp,_,_⟩:=gy (S:=S) c
 obtain⟨t,ls,ds,S2,e2,w,hp2⟩:=gC (M:=7) (by decide) hp
 obtain⟨u3,u4,u5,u6,u7,u8,u9,u10,S3,e3⟩:=SK (a0:=Gc (.scr ns)) (a1:=Gc (.int k)) (ks:=[0,1,2]) (o4:=o4) (o5:=o5) (o6:=o6) (o7:=o7) (o8:=o8) (o9:=o9) (o10:=o10) w (by decide) (by decide) hp2
 refine⟨Gc (.ref p),u3,u4,u5,u6,u7,u8,u9,u10,S3,?_⟩
 have e2':Gn [.ref p,.int 7] S1=Gc (AM t ls ds,S2):=e2
 have e3':Q4 [] (tNm 4) Rn [.int 0,.int 1,.int 2] [Gc (.scr ns),Gc (.int k),Gc (.ref p),Gc (AM t ls ds),o4,o5,o6,o7,o8,o9,o10] S2=Gc (.nx,[Gc (.scr ns),Gc (.int k),Gc (.ref p),u3,u4,u5,u6,u7,u8,u9,u10],S3):=e3
 have rk:Ge 3=true:=Bw (by decide) (by decide)
 have rd:Jd 0 3=[.int 0,.int 1,.int 2]:=rfl
 generalize AM t ls ds=b1 at*
 generalize hT:Rn=TB at*
 have xf:∀E T,Vh (Kk [eI 3]) (tNm 4) TB E T=Q4 [] (tNm 4) TB [.int 0,.int 1,.int 2] E T:=λE T=>by
  unfold Vh
  have:Kk [eI 3] E T=Gc (([.int 0,.int 1,.int 2],[]),T):=by simp[rk,rd]
  rw[this,Au]
 simp[Qn,hT,e0,e1,e2',xf,e3']
def iM(ns:Wp Int)(h:ns.length<=63):∃S',Rl [.scr ns] S=Gc (.bl true,S'):=by
 obtain⟨n,hn,hn2⟩:∃n:Nat,(if(if(2:Int)<ns.length then(2:Int)else ns.length)>1 then(if(2:Int)<ns.length then(2:Int)else ns.length)else 1)=(n:Int)/\n<=2:=by
  refine⟨(if(if(2:Int)<ns.length then(2:Int)else ns.length)>1 then(if(2:Int)<ns.length then(2:Int)else ns.length)else 1).toNat,?_,?_⟩
  .split<;>split<;>lia
  .split<;>split<;>lia
 have rn:Ge (n:Int)=true:=Bw (by lia) (by lia)
 obtain⟨E',S',ef,q1,q2,q3,q4,q5,q6,q7,q8,q9,q10,_,rfl⟩:=DZ (gs:=[]) (t:=tNm 1) (b:=Qn)
  (I:=λrs E S'=>∃(o1 o2 o3 o4 o5 o6 o7 o8 o9 o10:uM D),(∀d∈rs,∃k:Nat,d=.int k)/\E=[Gc (.scr ns),o1,o2,o3,o4,o5,o6,o7,o8,o9,o10])
  (λ_ _ _ _=>AI) (ds:=Jd 0 n) (E:=[Gc (.scr ns),none,none,none,none,none,none,none,none,none,none]) (S:=S)
  ⟨none,none,none,none,none,none,none,none,none,none,by
    intro d hd
    obtain⟨k,_,rfl⟩:=uo.mp hd
    exact⟨k,by simp⟩,rfl⟩ (by
    rintro dd rs E T ⟨o1,o2,o3,o4,o5,o6,o7,o8,o9,o10,i1,rfl⟩
    obtain⟨k,rfl⟩:=i1 dd uO
    obtain⟨u2,u3,u4,u5,u6,u7,u8,u9,u10,T2,e⟩:=Ym (S:=T) (ns:=ns) (k:=k) (o2:=o2) (o3:=o3) (o4:=o4) (o5:=o5) (o6:=o6) (o7:=o7) (o8:=o8) (o9:=o9) (o10:=o10)
    exact⟨_,_,T2,by simp,e,Gc (.int k),u2,u3,u4,u5,u6,u7,u8,u9,u10,λd hd=>i1 d (uL _ hd),rfl⟩)
 refine⟨S',?_⟩
 have eb:WT=AQ (Ht (Kk [eOp (o2 kE) [eI 1,eOp (o2 eL) [eOp (o1 EB) [eV 0],eI 2]]]) (tNm 1) Qn) (Ac (eC (.bl true))):=rfl
 unfold Rl
 rw[eb]
 generalize Qn=OB at*
 simp[hn,rn,ef]
end
def gM{K:uF}{h:vo}{mg:Str->uM uT}{xs:Wp Str}{y:Str}{C':ue}(X:K.In h)(G:h.Ns mainGlobals mg)(e:vm K mainGlobals y=Gc (Gc (.ref C')))(t:∀x∈xs,∃C b,vm K mainGlobals x=Gc (Gc (.ref C))/\yR K (.ref C) (.ref C')=Gc b/\(x==y)=b):XmD K mg xs y:=nV X G e λx hx=>by
 obtain⟨C,b,h1,h2,h3⟩:=t x hx
 exact⟨C,h1,by rw[h3];exact h2⟩
def fV{K:uF}{xs:Wp Str}{x y:Str}{C C':ue}{b:va}(h1:vm K mainGlobals x=Gc (Gc (.ref C)))(h2:yR K (.ref C) (.ref C')=Gc b)(h3:(x==y)=b)(t:∀z∈xs,∃C b,vm K mainGlobals z=Gc (Gc (.ref C))/\yR K (.ref C) (.ref C')=Gc b/\(z==y)=b):∀z∈x::xs,∃C b,vm K mainGlobals z=Gc (Gc (.ref C))/\yR K (.ref C) (.ref C')=Gc b/\(z==y)=b:=λz m=>by
 rcases uS.mp m with e|m
 .rw[e];exact⟨C,b,h1,h2,h3⟩
 .exact t z m
section
variable{P:vg}{w:v9}{K:uF}{mg:Str->uM uT}{base:vo}
def Eu:CU ["_law_script","_law_k","_law_pen_here","_law_book","_law_turn_here","_law_kinds","_law_ahead","_law_later","_law_over","_law_more","_law_partner"] ["_law_script"] (AF M8):=scM
def fI{f:ue}{fd:yp}(F:Fun K "law" "law" M8 f fd)(T:All w K mg):Mq P w K mg base CX0 13 f fd ["_law_script"] (spD K 1 Rl):=by
 have B:=T.bt
 have Jt:=Jt P base T
 have Hb:=Hb P base T
 have Cf:=Cf P base T
 have NZ:=NZ P base T
 have HZ:=HZ P base T
 have Ma:=Ma P base T
 have DJ:=DJ P base T
 have FI:=FI P base T
 have De:=De P base T
 have GV:=GV P base T
 have Ov:=Ov P base T
 refine fE (k:=12) F Eu rfl λcdv A outer s H E hr=>?_
 have hu:=Rc hr
 exact(Am (NY xB rfl (Ni rfl B.range (AD (B6 (VG rfl) rfl B.max boot_max (AD BV (AD (B6 (W7 rfl) rfl B.min boot_min (AD (B6 EL rfl B.len yd (AD (AH 0) AO)) (AD BV AO))) AO))) AO)) (EK 1 Eu.nd) (Am (IZ 2 (deM NZ hr (AD (deM HZ hr (AD (AH 0) (AD (AH 1) AO))) AO)) Eu.nd)
      (Am (IZ 3 (deM Ma hr (AD (AH 2) (AD BV AO))) Eu.nd)
      (BB (dB xB rfl (Ni rfl B.range (AD BV AO)) (EK 4 Eu.nd) (Mp (IZ 5 (GI Mt (GI Mt (AH 3) BV) BV) Eu.nd) (Mp (Q0 (i:=6) (j:=7) rfl Eu.nd rfl rfl (by decide) rfl rfl (deM GV hr (AD (AH 2) (AD (AH 5) AO))) (deM GV hr (AD (AH 2) (AD (AH 5) AO)))) (Mp (J5 (DW.dt (Wa (Lx (L1 (deM FI hr (AD (AH 3) AO)))) (QX (Lx (L1 (deM De hr (AD (AH 3) (AD (AH 6) (AD (AH 7) AO))))))))) (BB (ES Kb)) Ds) (Mp (Q0 (i:=8) (j:=9) rfl Eu.nd rfl rfl (by decide) rfl rfl (deM Cf hr (AD (AH 3) AO)) (deM Ov hr (AD (AH 2) (AD (AH 3) AO)))) (Mp (J5 (G4 (IQ hu) (Sw U8 (AH 9) WC) (Sw Z7 (B6 EL rfl B.len yd (AD (AH 8) AO)) BV)) (BB (ES Kb)) Ds) (jM (G4 U8 (AH 9) WC) (nO (Am (J5 (DW.dt (Wa (Lx (L1 (deM Jt hr (AD (AH 9) AO)))) (QX (G4 (IQ hu) (GI Mt (AH 9) BV) (AH 8))))) (BB (ES Kb)) Ds)
      (Am (NY xB rfl (Ni rfl B.range (AD (GI Mt (GI Mt (AH 3) BV) BV) AO)) (EK 10 Eu.nd) (BB (J5 (G4 (IQ hu) (Kq UA rfl B.list boot_list (AD (deM Hb hr (AD (AH 9) (AD BV (AD (AH 10) AO)))) AO)) (deM DJ hr (AD (AH 8) (AD (AH 5) (AD (AH 10) AO))))) (BB (ES Kb)) Ds)))
      (BB (IZ 3 (AH 9) Eu.nd))))))))))))))))
      (BB (ES Kb)))
def jQ{l:zG}{fa:ue}(hfa:mg "law"=Gc (.ref fa))(T:All w K mg):∃fd:yp,(∀(s:uf) (v:uT),BindsTo s fd ⟨[v],[]⟩ [("_law_script",v)])/\∀base:vo,K.In base->base.Ns mainGlobals mg->Mq l.prog w K mg base CX0 13 fa fd ["_law_script"] (dQ K):=by
 obtain⟨f,fd,F,hm⟩:=T.M8.ex
 have e:=hfa.symm.trans hm
 cases e
 refine⟨fd,λs v=>?_,λbase _ _=>?_⟩
 .obtain⟨oc,od,kV,doc,pm,an,cdv,ct,osl,hfd,_⟩:=F.ex
  subst hfd
  exact .of_eq rfl
 .exact ij (fI (P:=l.prog) (w:=w) (base:=base) F T) λns hl=>iM ns hl
end
def walk{l:zG}{q:vg}{loose:Wp Str}{XP:(Str->uM uT)->vo->Prop}{YP:v9->vo->Prop}{d:DefRec}{K:Params->uF}(hn:l.most=Gc 63)(hdf:d.params.defaults=[])(hY:∀(w:v9) (h:vo),YP w h->(K w.params).In h)(hd:d.name="law")(F:∀(w:v9) (mg:Str->uM uT) (h:vo),(K w.params).In h->h.Ns mainGlobals mg->All w (K w.params) mg):PySem.W.WalkO q loose XP YP l.row.toRowW d [] (λf vs=>PySem.call f vs):=
 L2.dO (n:=63) (k:=13) (x:="_law_script") (CX:=λ_=>CX0) (sp:=λw=>dQ (K w.params)) hn (by decide) hdf ⟨rfl,by decide,by decide⟩ hY (λw mg fa h KX G hmg=>jQ (by rw[<-hd];exact hmg) (F w mg h KX G)) (λ_ _ a ns hl _ hS=>⟨a,ns,rfl,hS,hl,λ_=>rfl⟩) λ_ _ _ _ _ z=>z
end Mi
end
noncomputable section
structure PySem.W.Fast:Prop where
 (tw13374880807755628661 tw8918592447821960438 tw1693497719116436887 tw18279215411841644687 tw2307713355808000097 tw7894244312361215195 tw5497274302444107245 tw6694986567123091137 tw10012142904976111567 tw16043140286433064792 tw7770161471639285432 tw13163315586991778034 tw7485060270021301645 tw10995303470393375034 tw8046514519758310291 tw6978993048516359317 tw7681415712775552032 tw12889586247575792468 tw5408946953878327204 tw10800567988382917600 tw2768421330396152645 tw299869532275093895 tw899887451299597902 tw17353933692975182144 tw10110873598472042881 tw10191588729867356452 tw9996406889217432506 tw3591698817832004080 tw8531018064691465432 tw5807957006084242505 tw8523473567293997265 tw2814763876946396617 tw8422101771534964307 tw13132129124256484885 tw10465061922628216502 tw5491650422834649057 tw2093162345525293334 tw16734607556875155222 tw8862818972560372502 tw6844698068314052159 tw2781193220864984887 tw2393493095226397392 tw15487732574190710482 tw13639766974555262165 tw2478344098086693114 tw12353436361569634345 tw12300113271224233965 tw16790982038760938485 tw15416316552013902059 tw13543077495918747886 tw5453098260817352365 tw6879697263255758112 tw16866960686628168646 tw6092990812534490066 tw4584222301488599403 tw6123292530178753828 tw13416220593760791285 tw11221149423595543414 tw18043615808901716723 tw8048366689702714791 tw13095838832671104256 tw3977039028054066402 tw8956857166175856641 tw4797965868167968357 tw13703081234450175342 tw16937070763274683899 tw8956736680847284465 tw15739710795272746089 tw7925100556238354327 tw10317438492551714530 tw6013526443255395403 tw11859636602174840177 tw18342620699887588983 tw16193970088828050258 tw6848399582435507660 tw1339186694731290003 tw9360151586980273616 tw75648238637947178 tw14292738846182396181 tw10653178776893324943 tw10629755528666205315 tw17059413541927170027 tw991343974276273430 tw17100411359664838656 tw18038610513227237280 tw4896227403685520194 tw1478963167530916255 tw3032898998616623239 tw8566015855716861541 tw3247261541797611186 tw15462749702571674017 tw12343951633850396808 tw8050776526508644878 tw1563915218012479872 tw478603552627341332 tw12633553030174626258 tw10041098636756303204 tw9351578723273624591 tw15567258336496338964 tw1236220686202576933 tw6910454321331866939 tw9171603965663276485 tw10491542723606058145 tw509182995445656540 tw8320921938547430454 tw9852099711865071871 tw10128701000229011085 tw1972161100457292545 tw3218325435151379070 tw10319407253913196118 tw10282755282191605794 tw5584077971008202861 tw15177762810637751602 tw11006858444008775882 tw11341028591442069800 tw4191023698839379814 tw16100899202175373021 tw2719179916043640184 tw3432259943097591242 tw8956282580017632165 tw7753745084461552153 tw9951332960528630951 tw10827834315990901494 tw1885754331524889997 tw3917591360732264883 tw9201646515969627542 tw9493545239038024082 tw3949017574389438638 tw13439811988324927112 tw18110898732126004052 tw2666275795352273593 tw10234426744472928959 tw1020022116264534174 tw3557582951276781189 tw13146922113694470774
 tw17633176835397673678 tw8946572143733500315 tw7397288946104833925 tw11569332602353182346 tw2128346367142892760 tw12884491993361111271 tw4485706613765016483 tw12177635515513223159 tw1788061936950393375 tw15831416521893024381 tw17626041955963350413 tw3031232249596898389 tw3069221845788382017 tw15332781214864651971 tw8551660369660869431 tw16274786100640583453 tw3345430771405020653 tw15387686539581229451 tw16976741005755267191 tw12070521931736655091 tw11615658188782062803 tw1067832898223568294 tw6631560203704436920 tw11022974220421089628 tw11450513308486684690 tw13070951234646972398 tw1452378568115592918 tw16163721677713515908 tw647708645127239693 tw8783556879364579757 tw676835162815588610 tw14346364729274434593 tw8141057237818968525 tw10972125652665764026 tw3209994198131038339 tw8211309252214550140 tw15468432890868362002 tw2940991670829993032 tw18341900175636430132 tw7194921157688438614 tw17967740922167160075 tw4061910035632482349 tw16875575763541869713 tw374595548979019147 tw14713761447537374456 tw1521760698893540883 tw3525980863039669606 tw5961588874642506578 tw2096043687424497780 tw11227356076183046556 tw4222369228330488331 tw4667843687699533221 tw11203657849862856778 tw3055534044579855802 tw2946431513896156831 tw2265432537616048239 tw7311699636279654924 tw5756094259438672214 tw1463410650515252372 tw9603050251266848546 tw6059386313347317304 tw12906855102582184737 tw14217798251187883610 tw10742637433570458391 tw12360050401044527805 tw7333645749100955194 tw244980976953049163 tw11980342942441385796 tw17589213970108388963 tw1225398299471691296 tw16924433596243622416 tw5002194134159400107 tw10918082917335447924 tw17291285098920642105 tw9114579673740843363 tw4774149983421955428 tw11026144407575899131 tw5120250953400693155 tw4880279954191890365 tw7129198271086186197 tw15944836273312534111 tw7942630820730605686 tw7256860326504811421 tw9253184477006221155 tw9451013418213633914 tw18064849782045615298 tw4668118347204292550 tw4985843035653920291 tw14820143010515425298 tw9346306245168568322 tw17363581440096037608 tw11076293663243031779 tw480513980850713591 tw7454374002904795608 tw940211813427332257 tw17751689282672595212 tw9290431484880084968 tw13392818032381580947 tw1175586258498664070 tw6886074570748094502 tw1356000834462984649 tw10809393743226928420 tw5525258407289574715 tw11623557013240947044 tw16599803446457504772 tw12826774388148082059 tw9167378205427453298 tw10186441793076773589 tw1566579446075000789 tw2936059293592468307 tw14428364180425415356 tw5994260783313225885 tw641569167733934677 tw10231127271021685734 tw14416920030264428706 tw11407926497100141490 tw10978860947872367607 tw14472078032608964859 tw8329130058193801447 tw7353815694573940960 tw12838570463957316799 tw8310046868193190582 tw9287565821377090101 tw11951067298283576695 tw6363117604094640699 tw17210816744781536466 tw1180934857532242301 tw10406533833520534301 tw186257841561566834 tw9748144101987151171 tw4162281514600758992 tw13662392956176269923 tw2446575588240148459 tw14682144562489327683 tw17781128891873710534
 tw2164970030752132760 tw16207553156734831392 tw9003189790269063224 tw10986682358129704109 tw15670562704997121310 tw8223654068225322018 tw14263191589302753613 tw9522452046020540555 tw1870712856346429995 tw7412004307010387251 tw5189540190835315588 tw9554114462290726711 tw5968845811830735427 tw9489747639055374733 tw18205409339682597767 tw3027081737472362073 tw17068182182154274367 tw13977794041760747945 tw1306226719985824533 tw9689151526358499747 tw13403543738484005417 tw4998194221165287525 tw6638985436244472752 tw12960951099385359575 tw9411840301971583885 tw3617649359950611905 tw13091691455870077421 tw1124353205635008185 tw13074159954169332013 tw155575824869153745 tw1156239246388290803 tw7143474900774874039 tw11381709602437367086 tw4037276168487218961 tw2031848254296872804 tw8686380207567051494 tw13127195974282153709 tw12399543206705161418 tw13595666792517524713 tw11551479800987262004 tw11385085179235461736 tw4596836728577946194 tw7068461719995740468 tw11217859163758465818 tw12224242388953546377 tw18165888472702386714 tw11840069737705848462 tw10329060371616070976 tw2091716136432775732 tw1065303783112106806 tw10525628774508745864 tw16556859516778699361 tw1251689024508526333 tw3817574397046516793 tw7184952325440040762 tw7681022933763050566 tw14961040629549804625 tw17231180855765173443 tw11078869468864928003 tw11773376319286097534 tw11093633299833081597 tw159691982055967119 tw15362364460789741737 tw15056640940726858998 tw18669027857160311 tw8036361480279225259 tw10047432407776944759 tw17312807186003040452 tw435294656488486249 tw5742820787696674890 tw1616933394400329576 tw17766443691568532642 tw3181736285108047606 tw11442468270110282233 tw16340467382948110011 tw3685945614080027268 tw1237548537334373220 tw6630493656676386767 tw10303349809938803119 tw8084373863427811000 tw9774824217185112164 tw10463220599136094212 tw18289837217221440790 tw4143593525413366873 tw7190965397793089171 tw1332070980692967547 tw12163727472122992741 tw12372203285893789492 tw532126716445875731 tw15452984908422771062 tw18434585604061748156 tw10020219439461732866 tw12305992786724246408 tw2523865070684774254 tw10122198846686936623 tw12709936216290071534 tw14096598311979536636 tw8902348889947526540 tw14323839111120309825 tw15654472268100910269 tw10938584578570515110 tw17354672632069148160 tw9516623853809728176 tw7975854367162770829 tw16130778091537466965 tw17018365063489629673 tw6095542923053767408 tw4529328890339500024 tw9118366759905198335 tw3057080030020308404 tw15408109841144140780 tw6610798140351429128 tw5395705044073798908 tw13716202728019922760 tw12233986623906759945 tw10786033264683934562 tw884501477278508705 tw16600626945628431889 tw5199545503222431257 tw4402906319872675168 tw4385980640420862662 tw11228034839799521515 tw453366427782616433 tw3661067636484364014 tw9527358283295516418 tw17724074804044706181 tw17236750362411196825 tw13165179438705029375 tw1194304547635629094 tw1643696383828838264 tw220953050128588191 tw9816309386705745026 tw3104198747118986888 tw6834654994414727253
 tw15089034003310606531 tw9269294928449911128 tw13043827183270041818 tw2845474017806020785 tw17657546036662489664 tw17102371038605248299 tw6063576755070540811 tw4360598794874923255 tw10258849844226163249 tw8826803145048181769 tw15170167645942629948 tw9582142305698035419 tw5399242034172015015 tw3570329431773105112 tw7501909303504441842 tw7951210420614441416 tw13202971086659465777 tw12553662283350800074 tw3751986215717159180 tw3243871307666432073 tw12094813242883926087 tw7093984765983168381 tw2010130902386181124 tw9584755251638485655 tw3127134762368857500 tw4021622411360625616 tw13330960052972335924 tw5415499508112097525 tw17134649897154282801 tw3860835223343312323 tw3060385917826445705 tw8395800175151352022 tw3491103613492851151 tw16296599109764704363 tw1698716688357627064 tw15021973230628815220 tw4827282964241958348 tw15604932901502870812 tw3408405792582299116 tw13985424988595138132 tw939852346685880833 tw9668026407984513566 tw17014089918473611652 tw394939809090912864 tw13266075126086048727 tw17955630924712097682 tw7673313569344144845 tw17197850071771249018 tw13670798717317971420 tw16176795292084945032 tw16686807436893356480 tw5189526367583879222 tw1208633426580816633 tw2032375331534843569 tw9379730242000759905 tw11899551077520806594 tw4230981903325687358 tw11400210144662530277 tw1730841112475345073 tw3236437175769832203 tw15880923849644227206 tw3797965314713849373 tw17564588096853019613 tw16449746884048690900 tw13562719391916765338 tw1379619928426818796 tw17848739675392509727 tw14465267632670224744 tw9540485917347389099 tw2908533700103739430 tw2651238313355947252 tw2025940283903746966 tw14932498443688255917 tw16392875963886626576 tw6496260261126494875 tw7281276613753315959 tw16857281490852325595 tw3582814058599016650 tw8595223392181974012 tw1459389009190219883 tw10126666239634903862 tw6377196082223727354 tw9509657502976478705 tw4989390319902450226 tw13729876250613628963 tw4193523407345749252 tw14388098721402870346 tw9171689802959845786 tw2009904347945421134 tw200746179471689182 tw13329862203962936078 tw4601781742511456664 tw17006258478119484276 tw16259310634620105199 tw16560819064121746387 tw11360332614642367463 tw13447193175665036994 tw3951596203616340351 tw14785950653905842108 tw7947232282266274836 tw13958885435070582518 tw2320561217186876204 tw1665124998819799207 tw15561082281498881163 tw1438307160511549582 tw7455896359545372954 tw8987270646882595024 tw5963877568965723358 tw6564186332506695132 tw14651984492154659440 tw11657378187454840760 tw14269173279246625144 tw9742351626881244455 tw16279914485712352912 tw13562937350575164346 tw4381569914010410734 tw12289953421442761680 tw15590519266136276380 tw3753547110952893257 tw15818352705455457075 tw4830422987320309388 tw12017407355272085080 tw13948241666972106381 tw13611589445218846776 tw13876555668594386828 tw11340386083787312275 tw3466108595786712230 tw16173992443980300526 tw4086397496541248187 tw13461139211697455217 tw11497863148410155549 tw5671104518429614022 tw10490000104909795416 tw6294873435070521966
 tw4096740308025999785 tw2089616174812484449 tw17210092519390399430 tw16761156150695168116 tw15116432841394731159 tw17798595301565253962 tw10885785259632452600 tw6092552574503856724 tw7227425107427153777 tw11839018775829699968 tw4729715094578383522 tw16089184522107457984 tw3236438727049141250 tw3565535265331857483 tw12844239678550540289 tw17456671910298451125 tw14352885794310793099 tw772582270982022583 tw922200579928487038 tw5462407207181410848 tw4435778053877962308 tw8044496786064074859 tw2400186923575480277 tw1584339083085323922 tw16759325775561032235 tw2762857567583323846 tw18251973325720442841 tw5684229110373193547 tw15498462226360767081 tw10182060042719140875 tw16331437958122781698 tw5965592804568930482 tw8027949554582512559 tw5117668589072912458 tw15703036523650349410 tw2351897490095968792 tw4747248422922009212 tw4771267646642609829 tw3891481963644089219 tw14063951601084706987 tw14200078774995025567 tw16234874262569314051 tw7831324084201591667 tw9266460481494048229 tw7647935920642948091 tw13956309119249458325 tw7233252148423445715 tw7465521346083718132 tw1030824647500864119 tw8202732867846587156 tw8641487539255601485 tw15235614535496065275 tw6109492562136858763 tw6398352420804235903 tw9987352102655493505 tw11410662583958178386 tw1147902316134782027 tw16867115719026223641 tw4223891237805327482 tw6256106049484734031 tw7846190981260827324 tw8361716906286282358 tw11065188606876616355 tw8515806053399188414 tw161308873544104478 tw13919603378489127013 tw4048232323465829058 tw8984870597716971336 tw9844623210559092414 tw15918151001390356750 tw1581613574081081507 tw15361456972302059531 tw4573765867195221185 tw1845476397705026437 tw9719252470846510797 tw17365808121438874298 tw14300723795947588045 tw2544138584535256682 tw12455737154992874920 tw2809853039703393533 tw8242403447998859677 tw9758900847277631183 tw14217301089734214321 tw1511618822497330538 tw9506660717417777551 tw227842339026410429 tw3142884385038102908 tw15051345875529645011 tw14836652466635292714 tw3660930240796924735 tw12907258200184308631 tw7270019748709176893 tw5234009547681754047 tw8130841927893633639 tw15203547622134728975 tw4358407588868319558 tw1110174463641204458 tw17629136765325320822 tw7203871497923593990 tw4632124251740238991 tw6305574703530328468 tw7866369360110620557 tw3771901778034642180 tw3481193166950402586 tw3443428772320243356 tw16049319822085229977 tw15684558260845711684 tw10682709213487756085 tw5509136515625898477 tw17457113593252732981 tw15190850369810954530 tw12016702883501265499 tw15801967156426515330 tw4229345509596037863 tw17941802946505543686 tw8560954430217631490 tw16908590152752886086 tw15080777510540422585 tw3309101811362121998 tw8010640977917245899 tw744135155781816448 tw263326039429775016 tw16246507289159786801 tw11321646837701580927 tw10012618802926338454 tw7550190214436616137 tw9073357381236994981 tw15655362665696075791 tw7467017041646040848 tw11116292817579258331 tw15941917308379657840 tw11754091111445165094 tw2290868523140729791 tw4884658277807397063 tw14675464310666908875
 tw12406113629289866322 tw4242671629369087821 tw11498446980314189871 tw5129653168522703214 tw11004283629334173064 tw1342916052245582958 tw12242917885268494634 tw2283260933408373 tw5524644545602318262 tw8762880491745314919 tw2287654516656732412 tw4104775931489532901 tw2214391284799264209 tw797579929961640656 tw15361420198947166564 tw2795659799125207940 tw8340355716332273382 tw12941965885322342368 tw15448717264625104360 tw11677259560250639886 tw2378766568882001725 tw14974137879996140012 tw1104993984738664318 tw3455387561926290271 tw11644316241044750281 tw18348905398614835594 tw18434686799152067553 tw6657894944066518698 tw17598023881711962802 tw6407499291824700204 tw5307476518435486498 tw3884426292053898009 tw12688571778490907655 tw13637364824965801995 tw8250554032219074 tw8729863231146769410 tw12560668144281580402 tw1726403733750578217 tw5774237044216368165 tw13869318484227444233 tw3585922281611547690 tw14550088590627525217 tw17054624899429140268 tw6726473305229630174 tw12420750087945221566 tw6452694937361106957 tw10846005065830283433 tw8245968471878899896 tw16755575569485644085 tw8321353644477847906 tw4056736320884682121 tw14910430748327540028 tw15315748998393550708 tw10151017542876326013 tw6700099030002014948 tw8724634866470764648 tw2715837606019866608 tw18050884714224402341 tw6972972542380232538 tw16108221311685277982 tw15973988080851699397 tw11639113166327001192 tw7408500468625009547 tw1252268315113570553 tw11294190508552637589 tw5122890112484398867 tw3099682657426748247 tw10842923086224963603 tw4348714833450710529 tw8075903614585868670 tw4496351192311811882:ze)
open PySem PySem.W PyProof.Rows
local macro_rules| `(tactic|walk_at $s)=>do
 let x:=AAr `KX
 let g:=AAr `G
 match s.getString with
 | "t"=> `(tactic|repeat' first|exact Mi.ay|exact Mi.af|exact Mi.gc|exact Mi.c7|exact Paired.nil|refine' Paired.cons ⟨⟨_,rfl⟩,?_⟩ ?_|refine' Paired.cons ?_ ?_|(refine' Mi.dI ?l ?z ?_;(case l=>k_is);(case z=>decide)))
 | "k"=> `(tactic|(dsimp only[L2.KOf];refine' Mi.iW $x $g ?e ?r;(case e=>k_is);(case r=>walk_at "t")))
 | "h"=> `(tactic|repeat (first|exact zl|refine' And.intro ⟨_,_,rfl,rfl⟩ ?_))
 | "p"=> `(tactic|(dsimp only[L2.KOf];refine' Mi.aq $x $g ?e ?l ?hk ?hne ?hp;(case e=>k_is);(case l=>k_is);(case hk=>walk_at "h");(case hne=>decide);(case hp=>walk_at "t")))
 | "f"=> `(tactic|(dsimp only[L2.KOf];refine' Mi.dC $x $g ?e ?l ?hk ?hne ?hp;(case e=>k_is);(case l=>k_is);(case hk=>walk_at "h");(case hne=>decide);(case hp=>(repeat (refine' Paired.cons ⟨⟨_,rfl⟩,_,rfl,?q⟩ ?_;(case q=>k_is)));exact Paired.nil)))
 | "x"=> `(tactic|(dsimp only[L2.KOf];refine' Mi.mV $x $g ?e ?q;(case e=>k_is);(case q=>k_exc)))
 | "m"=> `(tactic|(dsimp only[L2.KOf];refine' Mi.gM $x $g ?e ?t;(case e=>k_is);(case t=>(repeat (refine' Mi.fV ?a ?b ?c ?_;(case a=>k_is);(case b=>kts_exm);(case c=>decide)));exact Mi.all_nil)))
 | "z"=> `(tactic|(refine' PySem.W.mg_none_of $x $g ?z;(case z=>k_is)))
 | "a"=> `(tactic|(refine' Mi.tat_mk ?t1 ?t2 ?t3 ?t4 ?t5 ?t6 ?t7 ?t8 ?t9 ?u1 ?u2 ?u3;(case t1=>k_is);(case t2=>k_is);(case t3=>rfl);(case t4=>k_is);(case t5=>rfl);(case t6=>rfl);(case t7=>rfl);(case t8=>rfl);(case t9=>rfl);(case u1=>rfl);(case u2=>rfl);(case u3=>decide)))
 |w=> `(tactic|case $(AAr w.toName):ident=>k_is)
set_option maxRecDepth 100000 in
set_option maxHeartbeats 0 in
theorem PySem.Challenge.cw_sharetrail_k59_whole_home_and_on_holds : PySem.Challenge.rw_sharetrail_k59_whole_home_and_on.Holds := by
 w_on;o_law;k_head;(case hw=>w_witness2)
 k_fill
 refine Mi.walk (l:=PySem.Challenge.rw_sharetrail_k59_whole_home_and_on) rfl rfl (λw h Y=>PySem.W.kIn_of Y) rfl ?F
 case F=>
  intro w mg h KX G
  have gv:Mi.Q8 (L2.KOf KX) mg "ALL" Mi.Pf:=by walk_at "k"
  have To:Mi.Q8 (L2.KOf KX) mg "MAKERS" Mi.Cn:=by walk_at "k"
  have Lj:Mi.Q8 (L2.KOf KX) mg "MOST_DEEDS" Mi.GR:=by walk_at "k"
  have Lh:Mi.Q8 (L2.KOf KX) mg "MOST_FIRST" Mi.BN:=by walk_at "k"
  have KI:Mi.Q8 (L2.KOf KX) mg "MOST_THROWS" Mi.FX:=by walk_at "k"
  have QB:Mi.Q8 (L2.KOf KX) mg "NOTHING" Mi.Ce:=by walk_at "k"
  have KJ:Mi.Q8 (L2.KOf KX) mg "UNLIKE" Mi.B5:=by walk_at "k"
  have LL:Mi.fB (L2.KOf KX) w mg "FORMS" Mi.FN:=by walk_at "p"
  have Rr:Mi.jq w (L2.KOf KX) mg "PARTS" [("partner","is_partner"),("kind","is_kind"),("load","is_load_number"),("number","is_trade_number"),("pieces","are_pieces"),("worths","are_worths"),("share","is_sold_share")]:=by walk_at "f"
  have Py:Mi.XcD (L2.KOf KX) mg "TooMany":=by walk_at "x"
  have IV:Mi.XmD (L2.KOf KX) mg ["TooMany"] "TooMany":=by walk_at "m"
  have z_abs:mg "abs"=none:=by walk_at "z"
  have z_all:mg "all"=none:=by walk_at "z"
  have z_bool:mg "bool"=none:=by walk_at "z"
  have z_enumerate:mg "enumerate"=none:=by walk_at "z"
  have z_int:mg "int"=none:=by walk_at "z"
  have z_isinstance:mg "isinstance"=none:=by walk_at "z"
  have z_len:mg "len"=none:=by walk_at "z"
  have z_list:mg "list"=none:=by walk_at "z"
  have z_max:mg "max"=none:=by walk_at "z"
  have z_min:mg "min"=none:=by walk_at "z"
  have z_range:mg "range"=none:=by walk_at "z"
  have z_set:mg "set"=none:=by walk_at "z"
  have z_sorted:mg "sorted"=none:=by walk_at "z"
  have z_str:mg "str"=none:=by walk_at "z"
  have z_sum:mg "sum"=none:=by walk_at "z"
  have z_tuple:mg "tuple"=none:=by walk_at "z"
  have z_zip:mg "zip"=none:=by walk_at "z"
  refine⟨⟨z_abs,z_all,z_bool,z_enumerate,z_int,z_isinstance,z_len,z_list,z_max,z_min,z_range,z_set,z_sorted,z_str,z_sum,z_tuple,z_zip⟩,gv,To,Lj,Lh,KI,QB,KJ,LL,Rr,Py,IV,?_,?_,?_,?_,?_,?_,?_,?_,?_,?_,?_,?_,?_,?_,?_,?_,?_,?_,?_,?_,?_,?_,?_,?_,?_,?_,?_,?_,?_,?_,?_,?_,?_,?_,?_,?_,?_,?_,?_,?_,?_,?_,?_,?_,?_,?_,?_,?_,?_,?_,?_,?_,?_,?_,?_,?_,?_,?_,?_,?_,?_,?_,?_,?_,?_,?_,?_,?_,?_,?_,?_,?_,?_,?_,?_,?_,?_,?_,?_,?_,?_,?_,?_,?_,?_,?_,?_,?_,?_,?_,?_,?_,?_,?_,?_,?_,?_,?_,?_,?_,?_,?_,?_,?_,?_,?_⟩
  all_goals (refine' Mi.ie KX G ?a ?l ?c ?k;(case a=>k_is);(case l=>k_is);(case c=>k_is);(case k=>k_is))
end
