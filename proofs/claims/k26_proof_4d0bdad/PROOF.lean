import PyProof.Rows.All
import Wide.All
import OpenK.AllK
import Wide.FinOn
import Lean
import PyProof.EqAt
import PyProof.EqKinds
import PyProof.TupleCall
import PySem.Challenge.RW_currentfloor_k26_whole_floors_cover
noncomputable section
set_option Elab.async false
set_option linter.all false
set_option maxRecDepth 100000
open List renaming length_map->nh,getElem?_eq_getElem->nj,getElem?_eq_some_iff->nq,mem_of_getElem?->nz,getD_eq_getElem?_getD->nO,getElem?_map->nV,replicate->nY,mem_map->n8,map_cons->n9,length_append->oa,range->og,map_append->oh,mem_cons->oj,mem_append->om,getElem?_append_right->oo,size_toArray->ou,mem_singleton->oz,take_of_length_le->oB,getElem_of_mem->oG,getElem?_append_left->oH,mem_flatten->oI,sum_cons->oJ,length_cons->oP,flatten_cons->oQ,length_range->oR,mem_cons_of_mem->oY,mem_range->o7,not_mem_nil->pB,mem_append_right->pC,replicate_succ->pE,getElem?_set_ne->pF,getElem?_set_self->pM,getLastD_eq_getLast?->pN,map_map->pO,length_take->pS,flatten_append->pW,getElem_mem->pX,length_drop->pY,getElem?_eq_none->pZ,append_assoc->p7,map_nil->p9,take_length->qc,mem_cons_self->qh,getElem?_range->qk,nodup_cons->qm,getElem?_cons_succ->qw,nodup_append->qB,append_nil->qE,length_singleton->qF,map_congr_left->qM,take_append_drop->qN,length_eq_zero_iff->qQ,Pairwise->qS,mem_append_left->qU,sum_nil->qV,getElem_cons_drop->qY,range_succ_eq_map->qZ,pairwise_iff_getElem->rz,pairwise_map->rB,idxOf_lt_length_iff->rC,length_nil->rD,length_pos_of_mem->rO,length_set->rS,mem_or_eq_of_mem_set->rT,range_succ->rV,sum_append->sN,cons_append->sX,Perm->sZ,getElem?_toArray->tf,mem_iff_getElem?->tj,length->tq,nodup_range->tH,pairwise_lt_range->tK,getElem?_drop->tM,perm_ext_iff_of_nodup->tY,Nodup->ug,mem_of_mem_drop->ui,replicate_succ'->uj,filterMap_cons->uI,length_reverse->uJ,replicate_append_replicate->uL,getElem?_replicate->uN,find?_cons->uQ,getLast?_cons->uR,getElem?_zipWith->vf,length_replicate->vg,map_set->vh,flatten_nil->vt,getLast?_append->vv,mem_of_mem_take->vw,any_cons->vA,map_drop->vB,foldl_cons->vI,foldl->vU,foldl_append->we,find?_cons_of_neg->wu,find?_cons_of_pos->wy,ext_getElem->wD,pairwise_flatten->wJ,getElem?_mapIdx->wU,mem_filter->wV,nil_append->wW,of_mem_zip->wX,zipWith->wY,eq_nil_of_length_eq_zero->xv,mem_map_of_mem->xw,take_zero->xC,append_of_mem->xS,getElem?_take->xT,getElem_range->xU,mem_filterMap->xV,length_eraseIdx_of_lt->ye,map_take->yf,ext_getElem?->yq,getLast?_map->yr,take_add_one->yt,mem_of_find?_eq_some->yC,all_eq_true->yK,filter_cons->yL,length_erase_of_mem->yM,map->yN,mem_reverse->yO,pairwise_singleton->zd,idxOf_cons->zj,set_append_right->zJ,forall_mem_cons->zT,pairwise_append->zU,all_cons->zZ,forall_mem_nil->aaj,length_zipWith->aak,map_eq_nil_iff->aal,replicate_zero->aam,filter_append->aat,getD->aau,getElem_idxOf->aav,length_mapIdx->aaw,mem_replicate->aax,set_cons_succ->aay,reverse_cons->aaV,take_sublist->aaW,getElem_map->abj,map_zipWith->abk,perm_middle->abl,zipIdx_cons->abm,find?_some->abz,forIn_cons->abA,mem_mapIdx->abB,zipIdx_nil->abC,forIn_nil->abP,nodup_nil->abQ,map_id''->abX
open PySem renaming wpAny_bind->nv,Shared->nU,wpAny_pure->nZ,sizeLine->oK,Builtin->oN,SetTable->oU,starEach->oZ,Program->o6,PassesOwn->ph,Expr->pI,Around->qf,bootBuiltins->qo,FuncData->qy,PyData->qA,wpAny_newObj_type->qC,wpAny_mono->qG,mainGlobals->rh,wpAny_field->rF,wpAny_ite_split->rG,compareOp->rH,wpAny_callSpecial?_slot->rK,wpAny_call_entry->rL,mem_of_lookup->rQ,Spec->rW,rawInt->rY,IsPair->r6,wpAny_Call_Name_kw->sj,wpAny_pyIter_tuple->sk,wpAny_seqItems->sv,sizeLine_eq->sQ,wpAny_holding->sV,binaryOp->tE,wpAny_pyIter_list->tG,wpAny_setField->tJ,backTo->tR,pickOrder->tS,wpAny_setField_rec->tT,wpAny_passesOwn->tX,foldedSetIterable->t7,wpAny_setState_of->t8,wpAny_truthy_bool->t9,sysModules->uq,wpAny_setEntries_of->uK,behindInMarks->uP,codeAny_builtin->uW,pyNext->uX,intKind->vn,assignEach->vy,wpAny_rule->vz,sliceBounds->vF,codeAny_mono->vP,tupleKind_room_in1->vQ,wpAny_typeOf->vR,call_meets->vY,codeAny->vZ,getItem->v5,wpAny_pyIter_enum->wq,Paired->wz,plainId_quiet->wC,Keyword->wI,scanBound->wL,setNext->wM,IsPart->wQ,letOwnedTupleGo->xr,wpAny_execs_nil->xt,wpAny_updateSeq_pair->xu,firstArgMember->xG,relabel->xH,wpAny_fieldsOf->xI,swapsWith->x4,attributeBase->yh,wpAny_letOwnedTupleGo_enum->yi,wpAny_onRaise->yj,fits_of_scanBound->yz,intKind_is->yG,callerA->yH,valueAt->yI,Within->yU,ZipApart->yY,assign->yZ,bindArgs->y6,pyIter->y8,relayAll->y9,wpAny_askSetting->za,wpAny_isInstance->zb,wpAny_pyNext_enum_itemD->zi,tupleKind->zo,IsRangeIter->zt,keywordEach->zA,subscripted->zC,wpAny_pyIter_rangeiter->zD,wpAny_pyNext_enum_endD->zE,wpAny_pyNext_range_end->zF,BindsTo->zG,builtinLookup_eq_fast->zQ,isSubtype_type->zR,wpAny_isTrue_Compare1->zS,setEntries->zX,wpAny_pyIter_revIter->zY,rangeSize_one->aac,wpAny_attempt->aae,wpAny_standAt->aaf,IsEnum->aas,seqIndex?->aaN,seqIndex_neg->aaO,seqItems?->aaP,wpAny_pyIter_range->aaQ,slot_list_getitem->aa2,wpAny_assign_Name->aa3,wpAny_pyIter_slot->aa4,wpAny_sequenceKey->aa5,wpAny_setEpoch_of->aa6,wpAny_storeSet_of->aa7,seqIndex_of->abc,wpAny_letGo->abd,wpAny_of_eq->abe,NameKind->abn,backToKw->abu,call->abF,newFields->abG,builtinsNs->abI,closureFor->abJ,typeIs_int->abK,wpAny_Name->abL,wpAny_load->abM
open PySem.Heap renaming get?_push_of_some->nP,get?_push_size->oq,lt_size->ow,SameBut->p8,size_push->qt,get?_update_other->rN,get?_update_self->rZ,IsTuple->uA,ExtBut->uY,get?_none_of_le->vp,IsList->vD,IsTupleIter->abi,IsListIter->abw
open Nat renaming le_refl->nQ,le_trans->oC,lt_or_ge->oM,ne_of_lt->o8,pow_le_pow_right->pk,zero_le->pD,lt_of_lt_of_le->pP,lt_of_le_of_lt->qJ,mul_le_mul_left->rA,mul_succ->rM,ne_of_gt->r8,lt_irrefl->sT,pow_succ->tN,sub_self->tP,lt_succ_of_lt->tZ,mul_le_mul_right->um,add_comm->uD,lt_succ_self->uE,zero_add->uF,le_mul_of_pos_right->uO,eq_zero_or_pos->uS,one_mul->uZ,lt_trichotomy->vc,le_of_dvd->vC,pow_add->vE,mul_comm->vN,le_of_lt->wZ,Coprime->xM,add_mul->xN,not_lt_zero->zm,pow_lt_pow_right->zV,pow_le_pow_left->aan,add_sub_cancel->aaz,lt_trans->aaA,pow_zero->aaB,mul_one->aa8,mul_pos->aa9,succ_ne_self->abo,min_eq_left->abD,mul_assoc->abY
open PySem.W renaming Frag->nT,mg_none_of->pV,kia_one->rE,fnOf->si,emptyDict->sJ,instObj->tW,keepIn->vW,kitOne->vX,OpenLaw->xc,codeIn->xD,findIn->xE,methodObj->yw,cellsFrom_some->zx,lookIn->zP,mg_of->aaa,nsIn->aaE,hasDictIn->aaX,kitx_dict->aaY,kitx_list->aaZ,plainOver->aa0,plainGet->abt,InstAt->abR,WalkO->ab0
open Option.some renaming inj->oy,injEq->wj
open PySem.PassesOwn renaming never->oE
open PySem.F renaming plainAttrs_list->oF,slot_list_append->pJ,type_list_append->pK,slot_list_index->rJ,called_set->r9,type_list_index->sH,slot_tuple_iterator_next->sY,slot_list_insert->uH,slot_zip_next->vk,type_list_insert->vO,args_tuple_iterator_next_1->wm,entry_tuple_iterator_next->wB,plain_extend_loop->yD,args_tuple_add_2->yQ,slot_list_extend->yS,type_list_extend->yT,args_zip_next_1->ze,entry_tuple_add->zf,plain_list_iadd->zh,entry_zip_next->zv,slot_tuple_add->zw,plain_set_new->zL,slot_list_pop->zM,slot_set_iter->zN,type_list_pop->zO,slot_int_rmul->abv
open Option renaming some->oO,map_eq_some_iff->rP,isSome_iff_exists->uG,map_some->vJ,isSome_map->yu,getD_none->yP,bind_some->abp,getD_some->abq
open Bool renaming false_ne_true->oV,and_eq_true->qX,eq_iff_iff->tU,not_eq_true->abf
open Int renaming natAbs_natCast->oW,natAbs_mul->pA,toNat_natCast->pG,gcd->pU,fdiv_eq_ediv_of_dvd->qd,emod_nonneg->qx,emod_lt_of_pos->qD,mul_ne_zero->rR,ne_of_gt->tu,gcd_pos_of_ne_zero_left->tL,gcd_dvd_left->uB,mul_ediv_cancel_left->uC,gcd_dvd_right->va,lt_or_le->ve,natAbs_ediv_le_natAbs->vH,natAbs_neg->vT,mul_nonpos_of_nonpos_of_nonneg->v9,natAbs_sub_le->wc,natAbs_dvd_natAbs->wH,mul_le_mul_of_nonneg_right->wO,mul_pos->xK,ofNat_dvd_left->xQ,dvd_trans->x9,fmod_eq_emod_of_nonneg->yc,one_dvd->zp,natAbs_pos->zI,ediv_mul_cancel->aai,le_of_lt->aaq,zero_add->aar,dvd_mul_right->aaT,natAbs_add_le->aaU,natAbs->abx,natCast_mul->aby,mul_assoc->abW
open Sum renaming inl->oX,inr->xF
open PySem.SetTable renaming below->o9,grown->uv,has->yW,Probe->abS,probe->abT,slot->ab2
open Rat renaming intCast_mul->pj,mul_nonneg->qT,mul_eq_zero->rX,mul_comm->tQ,intCast_neg->uT,intCast_sub->uU,natCast_mul->uV,add_zero->xf,intCast_add->xg,le_of_lt->xh,mul_zero->xj,mul_lt_mul_of_pos_right->xX,num_divInt_den->xY,divInt_eq_div->yx,lt_iff->yE,mul_assoc->aab,div_mul_cancel->aaF,mul_inv_cancel->aaG,zero_mul->aaH,mul_one->aba,mul_pos->abb,lt_irrefl->ab1
open Array renaming getElem?_eq_getElem->pH,getD_eq_getD_getElem?->qg,length_toList->qj,getElem?_toList->vd,getElem?_eq_none->wt,append_assoc->aap,toList_push->aaR
open PyProof.Rows renaming callWith_type1->pQ,slot_tuple_getitem->qP,IntsAre->tV,AllBare->wF,envOfC->xk,boot_enumerate->xW,boot_range->yF,subscriptTail_builtinR->zB,subscriptTail->aad,entry_tuple_getitem->aao,args_tuple_getitem->aaL,Subscript_->abH
open PySem.Builtin.SmallTypes renaming nextOf->qp,ownedTupleIsFree->so,ownedTupleHandOut->vL
open Or renaming inl->qr,inr->aaD
open Ne renaming symm->qu
open False renaming elim->qv
open PySem.SeqAt renaming EqAt->qH,shaped->yV
open PySem.Heap.SameBut renaming update->qL
open PySem.Value renaming ref->qW,none->su,bool->uo,type->vx,int->xZ,str->aaK,isStrOf->ab4
open True renaming intro->tD
open List.Pairwise renaming imp->tF,imp_of_mem->vM,nil->yn
open PySem.Around renaming under_plainId->ub
open PySem.Builtin.Slice renaming slicePlaces->ud,sliceAdjust->vG,sliceApplied->x5
open Classical renaming byContradiction->ue,choose_spec->zH,choose->abg
open PySem.Shared renaming heap->uu,TypeIs->ab3
open PySem.Builtin.List renaming listTooLong->uw,listExtendWith->vo,listLengthHint->xO,listSameRef->yJ
open PySem.Builtin.Tuple renaming tupleExact->uz,tupleItemsOf->x6
open PySem.Builtin.Range renaming rangeSize->uM,small->aah
open PySem.Str renaming ofString->vm
open PySem.AutoSeq1 renaming wpAny_loadPart'->vK
open PySem.Builtin renaming bitXor->vS
open PySem.Obj renaming mapSeq->vV,mapFields->yg,data_mapFields->aaC,putSet->abE
open PyProof.Rows.F renaming plain_set_update_loop->v7,entry_set_update_loop->zc
open Function renaming comp_def->v8
open PySem.SetTable.below renaming go->wo
open Prod.mk renaming inj->wA,injEq->z9
open PySem.Data renaming cell->wG,fields->xJ
open Prod renaming mk->wK,fst->zW,snd->abr
open ForInStep renaming yield->wN
open PySem.PyData renaming depth->w6,depthAll->w8,eqv->w9,canLayAll0->yv,canLay0->zK
open List.Perm renaming refl->xy,cons->abO
open PySem.Calls renaming spliced_cons->xP,Name_function_global->x8,spliced_nil->yk
open PySem.IsRange renaming new->zq
open PyProof renaming noPylong_small->zu
open Sum.inl renaming inj->zy
open PySem.Builtin.Int renaming intBits->aag
open PySem.SeqAt.EqAt renaming int_str->aaI,str_int->aaJ
open PySem.pickOrder renaming go->aaM
open PySem.Heap.IsTuple renaming push->aaS
open PySem.SetTable.probe renaming go->aa1
open PySem.Heap.IsList renaming push->abh
open PySem.Builtin.Frozenset renaming updateFrom->abN,newClass->abV,sizeOf->ab5
open PyProof.Rows.IsTup renaming new->abU
open PySem.Paired renaming length->abZ
open PySem.SetTable.Met.empty renaming injEq->ab6
open PySem.Heap.IsTupleIter renaming extBut->ab7
def nS:type_of% @if_neg:=@if_neg
def nX:type_of% @if_pos:=@if_pos
def pR:type_of% @decide_eq_true:=@decide_eq_true
def qi:type_of% @decide_eq_false:=@decide_eq_false
def qK:type_of% @or_false:=@or_false
def t6:type_of% @decide_eq_true_eq:=@decide_eq_true_eq
local macro_rules|`(tactic|exists $es,*)=>`(tactic|refine⟨$es,*, ?_⟩)
def J{α:Sort u}{a:α}:a=a:=rfl
namespace L2
open PySem PySem.Spec PyProof.Rows
abbrev Aq:=Sum Int Str
def KO:Aq->Value->Bool
 |.inl k,v=>Value.isInt k v
 |.inr x,v=>ab4 x v
def mL(w:World):Aq->Int
 |.inl k=>hashInt k
 |.inr x=>hashStr w x
def Gq:∀{k:Aq} {v:Value},KO k v=true->(∃i t,k=oX i/\v=xZ i t)\/(∃x t,k=xF x/\v=aaK x t)
 |.inl i,v,h=>by
  obtain⟨t,e⟩:=Value.isInt_shape (k:=i) (v:=v) h;exact .inl ⟨i,t,J,e⟩
 |.inr x,v,h=>by
  obtain⟨t,e⟩:=Value.isStrOf_shape (x:=x) (v:=v) h;exact .inr ⟨x,t,J,e⟩
def ZM(i:Int)(t:Tok):KO (.inl i) (.int i t)=true:=by simp[KO,Value.isInt]
def ZP(x:Str)(t:Tok):KO (.inr x) (.str x t)=true:=by simp[KO,ab4]
def jQ(a b:Int):decide ((oX a:Aq)=oX b)=(a == b):=by
 by_cases e:a=b
 ·subst e;simp
 ·have h:¬(oX a:Aq)=oX b:=λq=>e (zy q)
  rw[qi h];exact(beq_eq_false_iff_ne.mpr e).symm
def gM(a b:Str):decide ((xF a:Aq)=xF b)=decide (a=b):=by
 by_cases e:a=b
 ·subst e;simp
 ·have h:¬(xF a:Aq)=xF b:=λq=>e (xF.inj q)
  rw[qi h,qi e]
def iC(a:Int)(b:Str):decide ((oX a:Aq)=xF b)=false:=qi (λq=>nomatch q)
def jH(a:Str)(b:Int):decide ((xF a:Aq)=oX b)=false:=qi (λq=>nomatch q)
def D4(prog:o6)(w:World):PySem.KeyKind prog w Aq where
 is:=KO
 hash:=mL w
 inj:=λv a b ha hb=>by
  rcases Gq ha with ⟨i,t,rfl,rfl⟩|⟨x,t,rfl,rfl⟩
  ·rcases Gq hb with ⟨j,u,rfl,e⟩|⟨y,u,rfl,e⟩
   ·injection e with F _;rw[F]
   ·exact nomatch e
  ·rcases Gq hb with ⟨j,u,rfl,e⟩|⟨y,u,rfl,e⟩
   ·exact nomatch e
   ·injection e with F _;rw[F]
 byValue:=λk v h=>by
  rcases Gq h with ⟨i,t,rfl,rfl⟩|⟨x,t,rfl,rfl⟩<;>rfl
 pyHash:=λO h=>by
  rcases Gq O with ⟨i,t,rfl,rfl⟩|⟨x,t,rfl,rfl⟩
  ·exact wpAny_pyHash_int h
  ·exact wpAny_pyHash_str h
 eqBool:=λhu O h=>by
  rcases Gq hu with ⟨i,t,rfl,rfl⟩|⟨x,t,rfl,rfl⟩
  ·rcases Gq O with ⟨j,u,rfl,rfl⟩|⟨y,u,rfl,rfl⟩
   ·rw[jQ]at h;exact wpAny_eqBool_int h
   ·rw[iC]at h;exact aaI i t y u _ _ _ _ h
  ·rcases Gq O with ⟨j,u,rfl,rfl⟩|⟨y,u,rfl,rfl⟩
   ·rw[jH]at h;exact aaJ x t j u _ _ _ _ h
   ·rw[gM]at h;exact wpAny_eqBool_str h
 «strs»:=λk x t v h=>by
  rcases Gq h with ⟨i,u,rfl,e⟩|⟨y,u,rfl,e⟩
  ·exact nomatch e
  ·injection e with F _
   subst F;cases v<;>rfl
def Xq(prog:o6)(w:World)(i:Int)(t:Tok):(D4 prog w).is (.inl i) (.int i t)=true:=ZM i t
def Xj(prog:o6)(w:World)(x:Str)(t:Tok):(D4 prog w).is (.inr x) (.str x t)=true:=ZP x t
inductive V where
 |A5|bl (b:Bool)|int (i:Int)|str (x:Str)|FU (b:Array UInt8)|Jd (b:UInt64)|ref (a:Addr)|ty (n:String)
 deriving DecidableEq
def Av:V->Value->Prop
 |.A5,u=>u=su
 |.bl b,u=>u=uo b
 |.int i,u=>∃t,u=xZ i t
 |.str x,u=>∃t,u=aaK x t
 |.FU b,u=>∃t,u=Value.bytes b t
 |.Jd b,u=>∃t,u=Value.float b t
 |.ref a,u=>u=qW a
 |.ty n,u=>u=vx n
abbrev Af:List V->List Value->Prop:=wz Av
def Af.length(r:Af xs us):xs.length=us.length:=abZ r
def Af.get:∀{xs:List V} {us:List Value} {i:Nat} {x:V},Af xs us->xs[i]?=some x->∃u,us[i]?=some u/\Av x u
 |_,_,_,_,.nil,e=>by simp at e
 |_,_,0,_,.cons r _,e=>by simp at e;subst e;exact⟨_,J,r⟩
 |_,_,i+1,x,.cons _ t,e=>by
  obtain⟨u,h1,h2⟩:=Af.get (i:=i) (x:=x) t (by simpa using e);exact⟨u,by simpa using h1,h2⟩
def Af.set(r:Av x u):∀{xs:List V} {us:List Value} (i:Nat),Af xs us->Af (xs.set i x) (us.set i u)
 |_,_,_,.nil=>.nil
 |_,_,0,.cons _ t=>.cons r t
 |_,_,i+1,.cons q t=>.cons q (Af.set r i t)
def Af.append:∀{xs ys:List V} {us F:List Value},Af xs us->Af ys F->Af (xs++ys) (us++F)
 |_,_,_,_,.nil,s=>s
 |_,_,_,_,.cons r t,s=>.cons r (Af.append t s)
def Af.take:∀{xs:List V} {us:List Value} (n:Nat),Af xs us->Af (xs.take n) (us.take n)
 |_,_,0,_=>.nil
 |_,_,_+1,.nil=>.nil
 |_,_,n+1,.cons r t=>.cons r (Af.take n t)
def Af.drop:∀{xs:List V} {us:List Value} (n:Nat),Af xs us->Af (xs.drop n) (us.drop n)
 |_,_,0,r=>r
 |_,_,_+1,.nil=>.nil
 |_,_,n+1,.cons _ t=>Af.drop n t
def Er:Option V->Option Value->Prop
 |some v,some u=>Av v u
 |none,none=>True
 |_,_=>False
def KV{κ:Type}:List (κ×V)->List (κ×Value)->Prop:=wz λ(p:κ×V) (q:κ×Value)=>p.1=q.1/\Av p.2 q.2
def kV:Aq->V
 |.inl i=>.int i
 |.inr x=>.str x
inductive HO where
  |AE (xs:List V)
  |AG (xs:List V)
  |dK (ii:List (Aq×V))|dT (ii:List (List Aq×V))
  |set (S:Int->Bool)(n:Nat)
  |Ea (C dx:Addr)(fs:List (Str×V))
  |EC (x:Addr)
  |xd (fs:List (Str×V))
  |RA (f x:Addr)
  |Kj (lo hi:Int)
  |Ed (o:Obj)(u:HO)
  |Jc (ps:Array Value)
  |ext (φ:Heap->Prop)
abbrev Hp:=Addr->Option HO
def AF(H:Hp)(a:Addr)(o:HO):Hp:=λb=>if b=a then some o else H b
def AU:AF H a o a=some o:=by unfold AF;rw[nX rfl]
def Ad(h:b≠a):AF H a o b=H b:=by unfold AF;rw[nS h]
def jd{H:Hp}(h:H a=some o)(h':H b=some u)(d:o≠u):a≠b:=by
 intro e;subst e;rw[h]at h';exact d (oy h')
def BW{H:Hp}(h:H a=some o)(h':H b=none):a≠b:=by
 intro e;subst e;rw[h]at h';cases h'
section
variable (P:o6)(w:World)
def Bh(H:Hp)(h:Heap)(a:Addr):HO->Prop
 |.AE xs=>xs.length<=oK/\∃(F:List Value) (n:Nat),Af xs F/\h.get? a=some { cls:=.type "list",data:=.seq F.toArray n}
 |.AG xs=>xs.length<=oK/\∃F:List Value,Af xs F/\IsTup h a F.toArray/\∃o,h.get? a=some o/\o.dict=none
 |.dK ii=>ii.length<=oK/\(a == uq)=false/\∃vs,KV ii vs/\h.DictOf (D4 P w) a vs
 | .dT ii=>ii.length<=oK/\(a == uq)=false/\∃xs:List (List Aq×Addr×Value),
   wz (λ(p:List Aq×V) (q:List Aq×Addr×Value)=>p.1=q.1/\H q.2.1=some (.AG (p.1.map kV))/\Av p.2 q.2.2) ii xs /\
   ∃o es ep,h.get? a=some o/\o.ExactDict/\o.data=.dict es ep/\es.toList=xs.map (entryOfKey (zo (D4 P w)))/\(xs.map (·.1)).Nodup
 |.set S n=>h.SetOf (vn P w) a S n
 | .Ea C dx fs=>H dx=some (.EC a)/\fs.length<=1000/\dx≠a/\h.get? a=some (tW C dx) /\
   ∃mA,h.Ns1 dx mA/\(∀f,Er (fs.lookup f) (mA f))/\yU mA (fs.map (·.1))
 |.EC _=>∃o,h.get? a=some o
 |.xd fs=>∃mA,h.Ns1 a mA/\∀f,Er (fs.lookup f) (mA f)
 |.Kj lo hi=>∃t u v,h.get? a=some { cls:=.type "range",data:=.fields #[.int lo t,.int hi u,.int 1 v]}
 |.Ed o u=>h.get? a=some o/\Bh H h a u
 |.Jc ps=>h.get? a=some { cls:=.none,data:=.fields ps}
 |.RA f x=>h.get? a=some (yw (.ref f) (.ref x))
 |.ext φ=>φ h/\(∃o,h.get? a=some o)/\∀h1 h2:Heap,φ h1->(∀o,h1.get? a=some o->h2.get? a=some o)->φ h2
def CA(H:Hp)(h:Heap):Prop:=∀a o,H a=some o->Bh P w H h a o
end
section
variable {P:o6}{w:World}{H H':Hp}{h h':Heap}{a:Addr}{o:HO}
def Bh.lt(x:Bh P w H h a o):a<h.objs.size:=by
 cases o with
 |AE xs=>obtain⟨_,_,_,_,e⟩:=x;exact ow e
 |AG xs=>obtain⟨_,_,_,p,_⟩:=x;exact p.lt
 |dK ii=>obtain⟨_,_,_,_,o,_,_,e,_⟩:=x;exact ow e
 |dT ii=>obtain⟨_,_,_,_,o,_,_,e,_⟩:=x;exact ow e
 |set S n=>obtain⟨o,_,_,_,e,_⟩:=x;exact ow e
 |Ea C dx fs=>obtain⟨_,_,_,e,_⟩:=x;exact ow e
 |EC y=>obtain⟨_,e⟩:=x;exact ow e
 |xd fs=>obtain⟨_,⟨_,_,_,e,_⟩,_⟩:=x;exact ow e
 |Kj lo hi=>obtain⟨_,_,_,e⟩:=x;exact ow e
 |Ed ob u=>obtain⟨e,_⟩:=x;exact ow e
 |Jc ps=>exact ow (show h.get? a=some _ from x)
 |RA f y=>exact ow (show h.get? a=some _ from x)
 |ext φ=>obtain⟨_,⟨_,e⟩,_⟩:=x;exact ow e
def wz.Qa{α β:Type}{F G:α->β->Prop}:∀{l₁:List α} {O:List β},wz F l₁ O->(∀a b,F a b->G a b)->wz G l₁ O
 |_,_,.nil,_=>.nil
 |_,_,.cons r t,f=>.cons (f _ _ r) (wz.Qa t f)
def Bh.Gf (x:Bh P w H h a o)(k:∀b u,(b=a\/H b=some (.EC a))->h.get? b=some u->h'.get? b=some u)
  (ho:∀b,H b=some (.EC a)->H' b=some (.EC a))(ht:∀b xs,H b=some (.AG xs)->H' b=some (.AG xs)):Bh P w H' h' a o:=by
 induction o with
 |AE xs=>obtain⟨z,O,n,r,e⟩:=x;exact⟨z,O,n,r,k _ _ (.inl rfl) e⟩
 |AG xs=>obtain⟨z,O,r,⟨F,e,c⟩,aa,e2,c2⟩:=x;exact⟨z,O,r,⟨F,k _ _ (.inl rfl) e,c⟩,aa,k _ _ (.inl rfl) e2,c2⟩
 |dK ii=>obtain⟨z,y,vs,r,F,es,ep,e,c⟩:=x;exact⟨z,y,vs,r,F,es,ep,k _ _ (.inl rfl) e,c⟩
 |dT ii =>
  obtain⟨z,y,xs,r,F,es,ep,e,c⟩:=x;exact⟨z,y,xs,wz.Qa r λp q z=>⟨z.1,ht _ _ z.2.1,z.2.2⟩,F,es,ep,k _ _ (.inl rfl) e,c⟩
 |set S n=>obtain⟨F,es,ep,t,e,c⟩:=x;exact⟨F,es,ep,t,k _ _ (.inl rfl) e,c⟩
 |Ea C dx fs =>
  obtain⟨d,z,ne,e,mA,⟨od,es,ep,e2,c⟩,r⟩:=x;exact⟨ho _ d,z,ne,k _ _ (.inl rfl) e,mA,⟨od,es,ep,k _ _ (.inr d) e2,c⟩,r⟩
 |EC y=>obtain⟨F,e⟩:=x;exact⟨F,k _ _ (.inl rfl) e⟩
 |xd fs=>obtain⟨mA,⟨od,es,ep,e,c⟩,r⟩:=x;exact⟨mA,⟨od,es,ep,k _ _ (.inl rfl) e,c⟩,r⟩
 |Kj lo hi=>obtain⟨t,u,v,e⟩:=x;exact⟨t,u,v,k _ _ (.inl rfl) e⟩
 |Ed F u ih=>obtain⟨e,q⟩:=x;exact⟨k _ _ (.inl rfl) e,ih q⟩
 |Jc ps =>
  have e:h.get? a=some { cls:=.none,data:=.fields ps}:=x;show h'.get? a=some { cls:=.none,data:=.fields ps};exact k a _ (.inl rfl) e
 |RA f y =>
  have e:h.get? a=some (yw (.ref f) (.ref y)):=x;show h'.get? a=some (yw (.ref f) (.ref y));exact k a _ (.inl rfl) e
 |ext φ=>obtain⟨p,⟨o,e⟩,st⟩:=x;exact⟨st _ _ p λo q=>k _ _ (.inl rfl) q,⟨o,k _ _ (.inl rfl) e⟩,st⟩
def CA.lt(x:CA P w H h)(e:H a=some o):a<h.objs.size:=(x a o e).lt
def CA.fresh(x:CA P w H h)(e:h.objs.size<=a):H a=none:=by
 cases q:H a with
 |none=>rfl
 |some u=>exact absurd (pP (x.lt q) e) (sT _)
def CA.CC(x:CA P w H h)(k:∀b u,h.get? b=some u->h'.get? b=some u):CA P w H h':=λa o e =>
 (x a o e).Gf (λb u _ q=>k b u q) (λ_ q=>q) λ_ _ q=>q
def CA.laid(x:CA P w H h)(k:∀b u,h.get? b=some u->h'.get? b=some u)(hp:h.objs.size<=a)(aa:Bh P w (AF H a o) h' a o):CA P w (AF H a o) h':=λb u e=>by
 have O:=x.fresh hp;by_cases F:b=a
 ·subst F;rw[AU]at e;cases e;exact aa
 ·rw[Ad F]at e;exact(x b u e).Gf (λc v _ q=>k c v q) (λc q=>by rw[Ad (BW q O)];exact q) λc xs q=>by rw[Ad (BW q O)];exact q
end
def Rd(H:Hp)(a:Addr)(u:HO):Prop:=H a=some u\/∃o,H a=some (.Ed o u)
def Rd.of(h:H a=some u):Rd H a u:=.inl h
def Rd.ok(r:Rd H a u)(x:CA P w H h):Bh P w H h a u:=by
 rcases r with r|⟨o,r⟩
 ·exact x a u r
 ·obtain⟨_,q⟩:=x a _ r;exact q
def MF:Option HO->Prop
 |some (.AE _)=>True
 |some (.dK _)=>True
 |some (.dT _)=>True
 |some (.set _ _)=>True
 |some (.Ea _ _ _)=>True
 |some (.ext _)=>True
 |_=>False
section
variable {P:o6}{w:World}{H:Hp}{h h':Heap}{x e:Addr}{o':HO}
def CA.JF (ok:CA P w H h)(mu:MF (H x))(he:e=x\/H e=some (.EC x))(k:∀b u,b≠e->h.get? b=some u->h'.get? b=some u)(ad:∃u,h'.get? e=some u)
  (ab:Bh P w (AF H x o') h' x o'):CA P w (AF H x o') h':=λb u q=>by
 have aa:∀c y,H c=some (.EC y)->c≠x:=λc y r z=>by subst z;rw[r]at mu;exact mu
 have ac:∀c xs,H c=some (.AG xs)->c≠x:=λc xs r z=>by subst z;rw[r]at mu;exact mu
 by_cases F:b=x
 ·subst F;rw[AU]at q;cases q;exact ab
 ·rw[Ad F]at q;by_cases O:b=e
  ·have q':H b=some (.EC x):=by
    rcases he with z|z
    ·exact absurd (O.trans z) F
    ·rw[O];exact z
   rw[q]at q';cases q';obtain⟨v,hv⟩:=ad;exact⟨v,by rw[O];exact hv⟩
  ·refine(ok b u q).Gf (λc v hc r=>k c v ?_ r) (λc r=>by rw[Ad (aa c b r)];exact r) λc xs r=>by rw[Ad (ac c xs r)];exact r
   rcases hc with rfl|hc
   ·exact O
   ·rintro rfl;rcases he with z|z
    ·exact aa c b hc z
    ·rw[hc]at z;cases z;exact F rfl
end
structure Un(fs ex:List Addr)(H H':Hp)(h h':Heap):Prop where
 keep:∀b o,h.get? b=some o->H b=none->b∉fs->b∉ex->h'.get? b=some o
 slot:∀b o,h.get? b=some o->H b=none->b∈fs->b∉ex->∃sl,h'.get? b=some { o with slots:=sl}
 free:∀b o,h.get? b=some o->H b=none->b∉ex->H' b=none
 EM:∀b o,h.get? b=some o->b∉ex->∃o',h'.get? b=some o'
 Fo:∀b xs,H b=some (.AG xs)->H' b=some (.AG xs)
 FI:∀b o u,H b=some (.Ed o u)->H' b=some (.Ed o u)
 Fn:∀b ps,H b=some (.Jc ps)->∃more,H' b=some (.Jc (ps++more))
section
variable {fs fs' ex ex':List Addr}{H H1 H2:Hp}{h h1 h2 h':Heap}{a x e:Addr}{o:HO}
def Un.any(u:Un fs ex H H1 h h1)(q:h.get? b=some ob)(n:H b=none)(O:b∉ex):∃sl,h1.get? b=some { ob with slots:=sl}:=by
 by_cases F:b∈fs
 ·exact u.slot b ob q n F O
 ·exact⟨ob.slots,u.keep b ob q n F O⟩
def Un.trans(a:Un fs ex H H1 h h1)(b:Un fs ex H1 H2 h1 h2):Un fs ex H H2 h h2 where
 keep:=λc F q n hc O=>b.keep c F (a.keep c F q n hc O) (a.free c F q n O) hc O
 slot:=λc F q n hc O=>by
  obtain⟨sl,e1⟩:=a.slot c F q n hc O;obtain⟨aa,e2⟩:=b.slot c _ e1 (a.free c F q n O) hc O;exact⟨aa,e2⟩
 free:=λc F q n O=>by
  obtain⟨o',e1⟩:=a.EM c F q O;exact b.free c o' e1 (a.free c F q n O) O
 EM:=λc F q O=>by
  obtain⟨o',e1⟩:=a.EM c F q O;exact b.EM c o' e1 O
 Fo:=λc xs q=>b.Fo c xs (a.Fo c xs q)
 FI:=λc F xs q=>b.FI c F xs (a.FI c F xs q)
 Fn:=λc ps q=>by
  obtain⟨m1,e1⟩:=a.Fn c ps q;obtain⟨m2,e2⟩:=b.Fn c _ e1;exact⟨m1++m2,by rw[e2,aap]⟩
def Un.CC(k:∀b u,h.get? b=some u->h'.get? b=some u):Un fs ex H H h h' :=
 ⟨λb F q _ _ _=>k b F q,λb F q _ _ _=>⟨F.slots,k b F q⟩,λ_ _ _ n _=>n,λb F q _=>⟨F,k b F q⟩,λ_ _ q=>q,λ_ _ _ q=>q,λ_ ps q=>⟨#[],by rw[q];simp⟩⟩
def Un.refl:Un fs ex H H h h:=Un.CC λ_ _ q=>q
def Un.laid(k:∀b u,h.get? b=some u->h'.get? b=some u)(O:h.objs.size<=a)(F:H a=none):Un fs ex H (AF H a o) h h' where
 keep:=λb u q _ _ _=>k b u q
 slot:=λb u q _ _ _=>⟨u.slots,k b u q⟩
 free:=λb u q n _=>by rw[Ad (o8 (pP (ow q) O))];exact n
 EM:=λb u q _=>⟨u,k b u q⟩
 Fo:=λb xs q=>by rw[Ad (BW q F)];exact q
 FI:=λb u xs q=>by rw[Ad (BW q F)];exact q
 Fn:=λb ps q=>⟨#[],by rw[Ad (BW q F),q];simp⟩
def Un.JF(F:MF (H x))(he:e=x\/H e=some (.EC x))(k:∀b u,b≠e->h.get? b=some u->h'.get? b=some u)(ab:∃u,h'.get? e=some u):Un fs ex H (AF H x o) h h':=by
 have hx:∀b,H b=none->b≠x:=λb n z=>by subst z;rw[n]at F;exact F
 have hb:∀b,H b=none->b≠e:=λb n z=>by
  subst z;rcases he with r|r
  ·exact hx b n r
  ·rw[n]at r;cases r
 have O:∀b u,H b=some u->¬MF (some u)->b≠x:=λb u q nm z=>by subst z;rw[q]at F;exact nm F
 refine⟨λb u q n _ _=>k b u (hb b n) q,λb u q n _ _=>⟨u.slots,k b u (hb b n) q⟩,λb u q n _=>by rw[Ad (hx b n)];exact n,λb u q _=>?_,
  λb xs q=>by rw[Ad (O b _ q λz=>z)];exact q,λb u xs q=>by rw[Ad (O b _ q λz=>z)];exact q,λb ps q=>⟨#[],by rw[Ad (O b _ q λz=>z),q];simp⟩⟩
 by_cases aa:b=e
 ·subst aa;exact ab
 ·exact⟨u,k b u aa q⟩
def Un.mono(u:Un fs ex H H1 h h1)(hs:∀b∈fs,b∈fs')(hx:∀b∈ex,b∈ex'):Un fs' ex' H H1 h h1 :=
 ⟨λb O q n hb F=>u.keep b O q n (λz=>hb (hs b z)) λz=>F (hx b z),λ_ _ q n _ F=>u.any q n λz=>F (hx _ z),λb O q n F=>u.free b O q n λz=>F (hx b z),λb O q F=>u.EM b O q λz=>F (hx b z),u.Fo,u.FI,u.Fn⟩
end
def N6(h:Heap)(H:Hp):List Addr:=(og h.objs.size).filter λa=>(H a).isSome
def HW(h:Heap)(H:Hp):Heap:=PySem.W.hideAll h (N6 h H)
def Yr(h:Heap)(H:Hp):(HW h H).objs.size=h.objs.size:=PySem.W.hideAll_size _ _
def aY(e:h.get? b=some o)(n:H b=none):(HW h H).get? b=some o :=
 PySem.W.hideAll_get _ e λF=>by
  have q:(H b).isSome=true:=(wV.mp F).2;rw[n]at q;simp at q
def fN(e:(HW h H).get? b=some o):h.get? b=some o/\H b=none:=by
 have F:h.get? b=some o:=PySem.W.of_hideAll (N6 h H) e;exists F;cases q:H b with
 |none=>rfl
 |some x =>
  have O:b∈N6 h H:=wV.mpr ⟨o7.mpr (ow F),by simp[q]⟩;have z:(HW h H).get? b=none:=PySem.W.hideAll_none (N6 h H) O;rw[z]at e;cases e
def fY(g h:Heap)(L:Addr):List (Addr×Obj):=(og h.objs.size).filterMap λa=>if a=L\/(g.get? a).isSome=true then none else (h.get? a).map λo=>(a,o)
def rest(g h:Heap)(L d:Addr):List (Addr×Obj):=(fY g h L).filter λp=>decide (p.1≠d)
structure Mod(K:nT)(mg:Str->Option Value)(base:Heap):Prop where
 RH:K.In base
 Hh:base.Ns rh mg
 Kp:∃mb,base.Ns abI mb/\∀x:Str,x≠"__name__"->mb x=qo x
 nolimit:base.NoLimit
structure Cx where
 prog:o6
 w:World
 K:nT
 mg:Str->Option Value
 base:Heap
 A:qf
 N:List Str
 s₀:nU
 H₀:Hp
 env:Env
 outer:List Env
 stack:List Env
 ex:List Addr
 fn:Str->Bool
 Cd:Bool
 pn:List (Addr×Obj)
 xe:Value->nU->Prop
def GD(l:List Env):List Addr:=l.filterMap (·.frame)
abbrev Cx.fs(X:Cx):List Addr:=GD X.outer
def Q8(F:Scope)(x:Str):Prop:=F.names.lookup x=some .local\/F.names.lookup x=some .cell\/F.names.lookup x=some .free
def Ik(F:Scope)(x:Str):Prop:=F.names.lookup x=some .local\/F.names.lookup x=some .cell
def lQ(env:Env)(h:Heap)(m:Str->Option Value)(x:Str)(u:Value):Prop :=
 (env.kindOf x=some .local/\m x=some u)\/((env.kindOf x=some .cell\/env.kindOf x=some .free)/\∃c,env.cells.lookup x=some c/\h.IsCell c (some u))
structure Cx.Ok(X:Cx):Prop where
 Dd:Mod X.K X.mg X.base
 kind:X.env.scope.kind=.function
 Hh:X.env.globals=rh
 Kp:X.env.builtins=abI
 above:X.s₀.heap.objs.size<=X.env.locals
 inj:∀x y c,X.env.cells.lookup x=some c->X.env.cells.lookup y=some c->x=y
 has:∀x,(X.env.kindOf x=some .cell\/X.env.kindOf x=some .free)->∃c,X.env.cells.lookup x=some c
 ME:∀x c,X.fn x=true->X.env.cells.lookup x=some c->X.s₀.heap.objs.size<=c
 hd:X.Cd=true->X.A.handled=none
 frames:X.A.frames=some X.stack
 N5:X.stack=X.outer\/(X.stack=X.env :: X.outer/\X.env.frame=some X.env.locals)
 XD:∀b∈X.ex,b≠X.env.locals/\∀x c,X.env.cells.lookup x=some c->c≠b
 bs:∀b o,X.base.get? b=some o->X.s₀.heap.get? b=some o/\X.H₀ b=none
 Gj:X.base.objs.size<=X.s₀.heap.objs.size
 L5:∀b o,X.base.get? b=some o->b∉X.ex
 Lx:∀b∈X.ex,b∉X.fs
 FK:X.s₀.heap.FunFrames X.base X.outer
 Jb:∀b∈X.fs,X.H₀ b=none
structure AK(X:Cx)(gt:List (Addr×Obj))(σ:List (Option V))(H:Hp)(s:nU):Prop where
 ok:X.Ok
 os:s.os=X.s₀.os
 DT:wF s.gens
 base:Un X.fs X.ex X.H₀ H X.s₀.heap s.heap
 Dx:∃m,s.heap.Ns X.env.locals m/\∀(i:Nat) (x:Str) (v:V),X.N[i]?=some x->σ[i]?=some (some v)->Q8 X.env.scope x->∃u,Av v u/\lQ X.env s.heap m x u
 cell:∀x c,X.env.cells.lookup x=some c->∃v,s.heap.IsCell c v
 free:H X.env.locals=none
 Fe:∀x c,X.env.cells.lookup x=some c->H c=none
 DY:∀p∈X.pn++gt,s.heap.get? p.1=some p.2/\H p.1=none/\p.1≠X.env.locals/\p.1∉X.fs/\∀v,p.2.data≠.cell v
 Aj:CA X.prog X.w H s.heap
 len:σ.length=X.N.length
section
variable {X:Cx}{gt:List (Addr×Obj)}{σ:List (Option V)}{H H':Hp}{s:nU}{h':Heap}
def Cx.Ok.kS(F:X.Ok)(e:X.base.get? b=some o):b∉X.fs:=λO=>by
 have:=(F.FK.mem O).1
 rw[e]at this;cases this
def AK.bs(I:AK X gt σ H s):∀b o,X.base.get? b=some o->s.heap.get? b=some o/\H b=none:=λb o e =>
 ⟨I.base.keep b o (I.ok.bs b o e).1 (I.ok.bs b o e).2 (I.ok.kS e) (I.ok.L5 b o e),I.base.free b o (I.ok.bs b o e).1 (I.ok.bs b o e).2 (I.ok.L5 b o e)⟩
def AK.bk(I:AK X gt σ H s):∀b o,X.base.get? b=some o->s.heap.get? b=some o:=λb o e=>(I.bs b o e).1
def AK.Dd(I:AK X gt σ H s):Mod X.K X.mg X.base:=I.ok.Dd
def AK.Dn(I:AK X gt σ H s):X.K.In s.heap:=I.ok.Dd.RH.keeps I.bk
def AK.nolimit(I:AK X gt σ H s):s.heap.NoLimit:=I.ok.Dd.nolimit.keeps I.bk
def AK.fr(I:AK X gt σ H s):∃m,Fr X.base X.env.locals s.heap m :=
 let ⟨m,hn,_⟩:=I.Dx
 ⟨m,hn,I.bk,oC I.ok.Gj I.ok.above⟩
def AK.lt(I:AK X gt σ H s):X.env.locals<s.heap.objs.size:=let ⟨_,hn,_⟩:=I.Dx;hn.lt
def AK.sz(I:AK X gt σ H s):X.s₀.heap.objs.size<=s.heap.objs.size:=oC I.ok.above (wZ I.lt)
def AK.km(I:AK X gt σ H s)(h:s.heap.objs.size<=a):a∉X.fs:=λF=>by
 obtain⟨_,o,O,_⟩:=I.ok.FK.mem F;exact absurd (pP (ow O) (oC I.sz h)) (sT _)
def AK.RB(I:AK X gt σ H s):∀x c,X.env.cells.lookup x=some c->c≠X.env.locals:=λx c e z=>by
 obtain⟨v,o,F,hd⟩:=I.cell x c e;obtain⟨m,⟨o',es,ep,O,aa,_⟩,_⟩:=I.Dx;rw[z,O]at F;cases F;rw[aa]at hd;cases hd
def AK.FK(I:AK X gt σ H s):s.heap.FunFrames X.base X.outer:=by
 have all:∀(l:List Env),(∀b∈GD l,b∈X.fs)->X.s₀.heap.FunFrames X.base l->s.heap.FunFrames X.base l:=by
  intro l
  induction l with
  |nil=>intro _ _;trivial
  |cons env r ih =>
   intro hs hl;obtain⟨hk,⟨L,o,hf,hn,ho,hd⟩,hr⟩:=hl;have O:L∈X.fs:=hs L (by unfold GD;rw[uI,hf];exact qh);obtain⟨sl,e⟩:=I.base.slot L o ho (I.ok.Jb L O) O λz=>I.ok.Lx L z O
   exact⟨hk,⟨L,_,hf,hn,e,hd⟩,ih (λb F=>hs b (by unfold GD;rw[uI,hf];exact oY _ F)) hr⟩
 exact all X.outer (λ_ F=>F) I.ok.FK
def AK.stack(I:AK X gt σ H s):s.heap.FunFrames X.base X.stack:=by
 rcases I.ok.N5 with e|⟨e,F⟩
 ·rw[e];exact I.FK
 ·rw[e];obtain⟨m,O,_⟩:=I.Dx;refine .cons (by rw[I.ok.kind];decide) F O ?_ I.FK;exact vp (oC I.ok.Gj I.ok.above)
def AK.NS(I:AK X gt σ H s):∀b∈GD X.stack,b∈X.env.locals :: X.fs:=λb F=>by
 rcases I.ok.N5 with e|⟨e,O⟩
 ·rw[e]at F;exact oY _ F
 ·rw[e]at F;unfold GD at F;rw[uI,O]at F;exact F
def AK.T4(I:AK X gt σ H s):∀b∈GD X.stack,H b=none:=λb hb=>by
 rcases oj.mp (I.NS b hb)with e|hb
 ·rw[e];exact I.free
 ·obtain⟨_,o,F,_⟩:=I.ok.FK.mem hb;exact I.base.free b o F (I.ok.Jb b hb) λz=>I.ok.Lx b z hb
def AK.step {g':Array GenState}{t':Nat}{d':Drawn}{ch:List Addr}(I:AK X gt σ H s)
  (aa:∀b∈ch,(b∈X.ex\/X.s₀.heap.objs.size<=b)/\b≠X.env.locals/\(∀x c,X.env.cells.lookup x=some c->c≠b)/\∀p∈X.pn++gt,p.1≠b)
  (ae:∀b o,b≠X.env.locals->b∉X.fs->b∉ch->s.heap.get? b=some o->H b=none->h'.get? b=some o)
  (ag:∀b o,b≠X.env.locals->b∈X.fs->b∉ch->s.heap.get? b=some o->H b=none->∃sl,h'.get? b=some { o with slots:=sl})(ad:∀b o,b∉ch->s.heap.get? b=some o->H b=none->H' b=none)
  (al:∀b o,b∉ch->s.heap.get? b=some o->∃o',h'.get? b=some o')
  (ap:∀b xs,H b=some (.AG xs)->H' b=some (.AG xs))(aj:∀b o u,H b=some (.Ed o u)->H' b=some (.Ed o u))(am:∀b ps,H b=some (.Jc ps)->∃ao,H' b=some (.Jc (ps++ao)))
  (ns:∀m,s.heap.Ns X.env.locals m->h'.Ns X.env.locals m)(ak:CA X.prog X.w H' h')(hg:wF g') :
  AK X gt σ H' { s with heap:=h',gens:=g',drawn:=d',toks:=t'}:=by
 have ah:∀b o,X.s₀.heap.get? b=some o->b≠X.env.locals:=λb o e=>o8 (pP (ow e) I.ok.above)
 have ac:∀b o,X.s₀.heap.get? b=some o->b∉X.ex->b∉ch:=λb o e F hb=>by
  rcases(aa b hb).1 with z|z
  ·exact F z
  ·exact absurd (pP (ow e) z) (sT _)
 have af:∀x c,X.env.cells.lookup x=some c->∀v,s.heap.IsCell c v->h'.IsCell c v:=λx c e v ⟨o,ho,hd⟩=>by
  have ab:c∉ch:=λz=>(aa c z).2.2.1 x c e rfl
  by_cases hc:c∈X.fs
  ·obtain⟨sl,q⟩:=ag c o (I.RB x c e) hc ab ho (I.Fe x c e);exact⟨_,q,hd⟩
  ·exact⟨o,ae c o (I.RB x c e) hc ab ho (I.Fe x c e),hd⟩
 refine⟨I.ok,I.os,hg,⟨λb o e n hb F=>?_,λb o e n hb F=>?_,λb o e n F=>?_,λb o e F=>?_,λb xs e=>ap b xs (I.base.Fo b xs e),λb o xs e=>aj b o xs (I.base.FI b o xs e),λb ps e=>?_⟩,?_,λx c e=>?_,?_,λx c e=>?_,λp hp=>?_,ak,I.len⟩
 ·exact ae b o (ah b o e) hb (ac b o e F) (I.base.keep b o e n hb F) (I.base.free b o e n F)
 ·obtain⟨sl,O⟩:=I.base.slot b o e n hb F;obtain⟨ai,e2⟩:=ag b _ (ah b o e) hb (ac b o e F) O (I.base.free b o e n F);exact⟨ai,e2⟩
 ·obtain⟨o',O⟩:=I.base.EM b o e F;exact ad b o' (ac b o e F) O (I.base.free b o e n F)
 ·obtain⟨o',O⟩:=I.base.EM b o e F;exact al b o' (ac b o e F) O
 ·obtain⟨m1,O⟩:=I.base.Fn b ps e;obtain⟨m2,e2⟩:=am b _ O;exact⟨m1++m2,by rw[e2,aap]⟩
 ·obtain⟨m,hn,hl⟩:=I.Dx;refine⟨m,ns m hn,λi x v O e2 e3=>?_⟩;obtain⟨u,r,l⟩:=hl i x v O e2 e3;exists u,r;rcases l with l|⟨k,c,e,z⟩
  ·exact .inl l
  ·exact .inr ⟨k,c,e,af x c e _ z⟩
 ·obtain⟨v,z⟩:=I.cell x c e;exact⟨v,af x c e v z⟩
 ·obtain⟨m,⟨o,_,_,ho,_⟩,_⟩:=I.Dx;exact ad _ o (λz=>(aa _ z).2.1 rfl) ho I.free
 ·obtain⟨v,o,ho,hd⟩:=I.cell x c e;exact ad c o (λz=>(aa c z).2.2.1 x c e rfl) ho (I.Fe x c e)
 ·obtain⟨e,n,ne,nf,d⟩:=I.DY p hp;have ab:p.1∉ch:=λz=>(aa p.1 z).2.2.2 p hp rfl
  exact⟨ae p.1 p.2 ne nf ab e n,ad p.1 p.2 ab e n,ne,nf,d⟩
def AK.un(I:AK X gt σ H s)(u:Un X.fs [] H H' s.heap h')(ac:CA X.prog X.w H' h'):AK X gt σ H' { s with heap:=h',toks:=t'}:=by
 obtain⟨m,⟨o,es,ep,O,r⟩,_⟩:=id I.Dx;obtain⟨sl,hL⟩:=u.any O I.free (by simp);exact I.step (g':=s.gens) (d':=s.drawn) (ch:=[]) (λ_ z=>nomatch z) (λb o _ F _ e n=>u.keep b o e n F (by simp)) (λb o _ F _ e n=>u.slot b o e n F (by simp)) (λb o _ e n=>u.free b o e n (by simp)) (λb o _ e=>u.EM b o e (by simp)) u.Fo u.FI u.Fn (λm' hm=>by
  obtain⟨o',ab,ad,aa,r'⟩:=hm;rw[O]at aa;cases aa;exact⟨_,ab,ad,hL,r'⟩) ac I.DT
def AK.call (I:AK X gt σ H s)(u:Un (GD X.stack) ch H H' s.heap h')(ad:CA X.prog X.w H' h')(hg:wF g')
  (aa:∀b∈ch,(b∈X.ex\/X.s₀.heap.objs.size<=b)/\b≠X.env.locals/\(∀x c,X.env.cells.lookup x=some c->c≠b)/\∀p∈X.pn++gt,p.1≠b) :
  AK X gt σ H' { s with heap:=h',gens:=g',drawn:=d',toks:=t'}:=by
 obtain⟨m,⟨o,es,ep,ho,r⟩,_⟩:=id I.Dx;obtain⟨sl,O⟩:=u.any ho I.free λz=>(aa _ z).2.1 rfl
 exact I.step (ch:=ch) aa (λb o O hb F e n=>u.keep b o e n (λz=>(oj.mp (I.NS b z)).elim O hb) F) (λb o _ _ F e n=>u.any e n F) (λb o F e n=>u.free b o e n F) (λb o F e=>u.EM b o e F) u.Fo u.FI u.Fn (λm' hm=>by
  obtain⟨o',ac,ae,ab,r'⟩:=hm;rw[ho]at ab;cases ab;exact⟨_,ac,ae,O,r'⟩) ad hg
def AK.EL (I:AK X gt σ H s)(k:∀b o,b≠it->s.heap.get? b=some o->h'.get? b=some o)(hn:H it=none)(hL:it≠X.env.locals)
  (h1:it∈X.ex\/X.s₀.heap.objs.size<=it)(h2:∀x c,X.env.cells.lookup x=some c->c≠it)(h3:∀p∈X.pn++gt,p.1≠it):AK X gt σ H { s with heap:=h',toks:=t'}:=by
 have O:∀b u,H b=some u->b≠it:=λb u e z=>by rw[z,hn]at e;cases e
 refine I.step (g':=s.gens) (d':=s.drawn) (ch:=[it]) (λb hb=>?_) (λb o _ _ F e _=>k b o (λz=>F (by simp[z])) e) (λb o _ _ F e _=>⟨o.slots,k b o (λz=>F (by simp[z])) e⟩) (λ_ _ _ _ n=>n)
  (λb o F e=>⟨o,k b o (λz=>F (by simp[z])) e⟩) (λ_ _ e=>e) (λ_ _ _ e=>e) (λb ps e=>⟨#[],by rw[e];simp⟩) (λm hm=>?_) (λb u e=>?_) I.DT
 ·have e:b=it:=by simpa using hb
  subst e;exact⟨h1,hL,h2,h3⟩
 ·obtain⟨o,es,ep,ho,r⟩:=hm;exact⟨o,es,ep,k _ o (qu hL) ho,r⟩
 ·refine(I.Aj b u e).Gf (λc v F q=>k c v ?_ q) (λ_ q=>q) λ_ _ q=>q
  rcases F with z|z
  ·rw[z];exact O b u e
  ·exact O c _ z
def AK.De(I:AK X gt σ H s)(t:Nat):AK X gt σ H { s with toks:=t}:=I.un (h':=s.heap) (t':=t) Un.refl I.Aj
def AK.CC(I:AK X gt σ H s)(k:∀b u,s.heap.get? b=some u->h'.get? b=some u):AK X gt σ H { s with heap:=h',toks:=t'}:=I.un (Un.CC k) (I.Aj.CC k)
def AK.laid(I:AK X gt σ H s)(k:∀b u,s.heap.get? b=some u->h'.get? b=some u)(F:s.heap.objs.size<=a)(O:Bh X.prog X.w (AF H a o) h' a o):
  AK X gt σ (AF H a o) { s with heap:=h',toks:=t'}:=I.un (Un.laid k F (I.Aj.fresh F)) (I.Aj.laid k F O)
def AK.JF (I:AK X gt σ H s)(mu:MF (H x))(O:e=x\/H e=some (.EC x))(k:∀b u,b≠e->s.heap.get? b=some u->h'.get? b=some u)(F:∃u,h'.get? e=some u)
  (aa:Bh X.prog X.w (AF H x o) h' x o):AK X gt σ (AF H x o) { s with heap:=h',toks:=t'}:=I.un (Un.JF mu O k F) (I.Aj.JF mu O k F aa)
def AK.T9(I:AK X gt σ H s)(h:∀p∈pins',s.heap.get? p.1=some p.2/\H p.1=none/\p.1≠X.env.locals/\p.1∉X.fs/\∀v,p.2.data≠.cell v):AK X pins' σ H s :=
 ⟨I.ok,I.os,I.DT,I.base,I.Dx,I.cell,I.free,I.Fe,λp F=>(om.mp F).elim (λz=>I.DY p (qU _ z)) (h p),I.Aj,I.len⟩
def Sy{N:List Str}(hN:N.Nodup){i j:Nat}(a:N[i]?=some x)(b:N[j]?=some x):i=j:=by
 obtain⟨h1,O⟩:=nq.mp a;obtain⟨h2,F⟩:=nq.mp b;exact(List.getElem_inj hN).mp (O.trans F.symm)
def R0 (I:AK X gt σ H s)(hN:X.N.Nodup)(hi:X.N[i]?=some x)(O:Ik X.env.scope x)(r:Av v u)
  (h:∀s',AK X gt (σ.set i (some v)) H s'->(∃a,p8 a s.heap s'.heap/\(a=X.env.locals\/X.env.cells.lookup x=some a))->Q () s')(hf:X.fn x=true\/X.env.scope.names.lookup x=some .local:=by first|exact .inl rfl|exact .inr rfl|assumption):wpAny M A (storeName X.env x u) Q E s:=by
 obtain⟨m,hn,hl⟩:=id I.Dx;have ak:(X.env.scope.kind == .class || (X.env.scope.kind == .module && X.env.locals != X.env.globals))=false:=by rw[I.ok.kind];rfl
 have ad:i<σ.length:=by rw[I.len];exact(nq.mp hi).1
 have ab:=I.RB;have ac:∀{a:Addr} {h':Heap},(∃o,s.heap.get? a=some o/\H a=none)->p8 a s.heap h'->CA X.prog X.w H h':=λ{a h'} ha hs b ob e=>by
  obtain⟨_,_,ah⟩:=ha;refine(I.Aj b ob e).Gf (λc w' hc q=>(hs.2 c ?_).trans q) (λ_ q=>q) λ_ _ q=>q
  rintro rfl;rcases hc with rfl|hc
  ·rw[ah]at e;cases e
  ·rw[ah]at hc;cases hc
 rcases O with hk|hk
 ·refine wpAny_storeName_local hk hn (λh' al hs=>?_) ak;obtain⟨oL,_,_,ai,_⟩:=id hn;refine h _ ⟨I.ok,I.os,I.DT,⟨λb o e n hb O=>?_,λb o e n hb O=>?_,I.base.free,λb o e O=>?_,I.base.Fo,I.base.FI,I.base.Fn⟩,⟨_,al,λj y v' F e2 e3=>?_⟩,λy c e=>?_,I.free,I.Fe,λp hp=>?_,ac ⟨oL,ai,I.free⟩ hs,by simpa using I.len⟩ ⟨_,hs,.inl rfl⟩
  ·exact(hs.2 b (o8 (pP (ow e) I.ok.above))).trans (I.base.keep b o e n hb O)
  ·obtain⟨sl,F⟩:=I.base.slot b o e n hb O;exact⟨sl,(hs.2 b (o8 (pP (ow e) I.ok.above))).trans F⟩
  ·obtain⟨o',F⟩:=I.base.EM b o e O;exact⟨o',(hs.2 b (o8 (pP (ow e) I.ok.above))).trans F⟩
  ·by_cases hj:j=i
   ·subst hj;rw[hi]at F;cases F;rw[pM ad]at e2;cases e2;exact⟨u,r,.inl ⟨hk,by simp⟩⟩
   ·rw[pF (qu hj)]at e2;obtain⟨u',r',q⟩:=hl j y v' F e2 e3;exists u',r';rcases q with ⟨k,e⟩|⟨k,c,e,z⟩
    ·refine .inl ⟨k,?_⟩
     have:y≠x:=λe=>hj (Sy hN F (e ▸ hi))
     simp[this,e]
    ·exact .inr ⟨k,c,e,z.sameBut hs (ab y c e)⟩
  ·obtain⟨w',z⟩:=I.cell y c e;exact⟨w',z.sameBut hs (ab y c e)⟩
  ·obtain⟨e,n,ne,nf,d⟩:=I.DY p hp;exact⟨(hs.2 p.1 ne).trans e,n,ne,nf,d⟩
 ·have aa:X.fn x=true:=by
   rcases hf with z|z
   ·exact z
   ·rw[z]at hk;cases hk
  obtain⟨c,hc⟩:=I.ok.has x (.inl hk);obtain⟨w',z⟩:=I.cell x c hc;refine wpAny_storeName_cell I.ok.kind hk hc z (λh' ae hs=>?_);obtain⟨oc,ag,aj⟩:=id z;refine h { s with heap:=h'} ⟨I.ok,I.os,I.DT,⟨λb o e n hb O=>?_,λb o e n hb O=>?_,I.base.free,λb o e O=>?_,I.base.Fo,I.base.FI,I.base.Fn⟩,⟨m,hn.sameBut hs (qu (ab x c hc)),λj y v' F e2 e3=>?_⟩,λy c' e=>?_,I.free,I.Fe,λp hp=>?_,ac ⟨oc,ag,I.Fe x c hc⟩ hs,by simpa using I.len⟩ ⟨c,hs,.inr hc⟩
  ·exact(hs.2 b (o8 (pP (ow e) (I.ok.ME x c aa hc)))).trans (I.base.keep b o e n hb O)
  ·obtain⟨sl,F⟩:=I.base.slot b o e n hb O;exact⟨sl,(hs.2 b (o8 (pP (ow e) (I.ok.ME x c aa hc)))).trans F⟩
  ·obtain⟨o',F⟩:=I.base.EM b o e O;exact⟨o',(hs.2 b (o8 (pP (ow e) (I.ok.ME x c aa hc)))).trans F⟩
  ·by_cases hj:j=i
   ·subst hj;rw[hi]at F;cases F;rw[pM ad]at e2;cases e2;exact⟨u,r,.inr ⟨.inl hk,c,hc,ae⟩⟩
   ·rw[pF (qu hj)]at e2;obtain⟨u',r',q⟩:=hl j y v' F e2 e3;exists u',r';rcases q with q|⟨k,c',e,z'⟩
    ·exact .inl q
    ·refine .inr ⟨k,c',e,z'.sameBut hs ?_⟩;rintro rfl;exact hj (Sy hN F (I.ok.inj _ _ _ e hc ▸ hi))
  ·by_cases af:c'=c
   ·subst af;exact⟨_,ae⟩
   ·obtain⟨w2,z2⟩:=I.cell y c' e;exact⟨w2,z2.sameBut hs af⟩
  ·obtain⟨e,n,ne,nf,d⟩:=I.DY p hp;refine⟨(hs.2 p.1 ?_).trans e,n,ne,nf,d⟩;intro q;rw[q,ag]at e;have q':oc=p.2:=oy e;exact d w' (by rw[<-q'];exact aj)
def Se (I:AK X gt σ H s)(hN:X.N.Nodup)(hi:X.N[i]?=some x)(hx:Ik X.env.scope x)(r:Av v u)
  (h:∀s',AK X gt (σ.set i (some v)) H s'->Q () s')(F:X.fn x=true\/X.env.scope.names.lookup x=some .local:=by first|exact .inl rfl|exact .inr rfl|assumption):wpAny M A (storeName X.env x u) Q E s :=
 R0 I hN hi hx r (λs' O _=>h s' O) F
def AK.jh (I:AK X gt σ H s)(ho:s'.os=s.os)(u:Un (GD X.stack) ch H H' s.heap s'.heap)(aa:CA X.prog X.w H' s'.heap)(F:wF s'.gens)
  (O:∀b∈ch,(b∈X.ex\/X.s₀.heap.objs.size<=b)/\b≠X.env.locals/\(∀x c,X.env.cells.lookup x=some c->c≠b)/\∀p∈X.pn++gt,p.1≠b):AK X gt σ H' s':=by
 obtain⟨h',g',d',t',o'⟩:=s';have e:o'=s.os:=ho;subst e;exact I.call (g':=g') (t':=t') (d':=d') u aa F O
end
abbrev XK:=Value->Option Addr->Hp->Prop
abbrev St:=List (Option V)
abbrev VK:=V->Hp->Prop
abbrev TE:=St->Hp->VK->Prop
abbrev TT:=St->Hp->(Bool->Hp->Prop)->Prop
abbrev TA:=St->Hp->(List V->Hp->Prop)->Prop
structure DV where
 nx:St->Hp->Prop
 rt:VK
 bk:St->Hp->Prop:=λ_ _=>False
 ct:St->Hp->Prop:=λ_ _=>False
abbrev TS:=DV->St->Hp->Prop
def EP(X:Cx)(gt:List (Addr×Obj))(σ:St)(Q:VK)(u:Value)(s':nU):Prop:=∃v H',AK X gt σ H' s'/\Av v u/\Q v H'
def TP(X:Cx)(gt:List (Addr×Obj))(σ:St)(Q:Bool->Hp->Prop)(b:Bool)(s':nU):Prop:=∃H',AK X gt σ H' s'/\Q b H'
def AP(X:Cx)(gt:List (Addr×Obj))(σ:St)(Q:List V->Hp->Prop)(us:List Value)(s':nU):Prop:=∃vs H',AK X gt σ H' s'/\Af vs us/\Q vs H'
def SP(X:Cx)(gt:List (Addr×Obj))(D:DV)(f:Flow)(s':nU):Prop :=
 match f with
 |.next=>∃F H',AK X gt F H' s'/\D.nx F H'
 |.brk=>∃F H',AK X gt F H' s'/\D.bk F H'
 |.cont=>∃F H',AK X gt F H' s'/\D.ct F H'
 |.ret u=>∃v F H',AK X gt F H' s'/\Av v u/\D.rt v H'
def PE(X:Cx)(e:Expr)(t:TE):Prop :=
 ∀(gt:List (Addr×Obj)) (s:nU) (σ:St) (H:Hp) (Q:VK),AK X gt σ H s->t σ H Q->wpAny (model X.prog X.w) X.A (eval e X.env) (EP X gt σ Q) X.xe s
def PT(X:Cx)(e:Expr)(t:TT):Prop :=
 ∀(gt:List (Addr×Obj)) (s:nU) (σ:St) (H:Hp) (Q:Bool->Hp->Prop),AK X gt σ H s->t σ H Q->wpAny (model X.prog X.w) X.A (isTrue e X.env (eval e X.env)) (TP X gt σ Q) X.xe s
def PW(X:Cx)(e:Expr)(t:TT):Prop :=
 ∀(F:Sem Value) (gt:List (Addr×Obj)) (s:nU) (σ:St) (H:Hp) (Q:Bool->Hp->Prop),AK X gt σ H s->t σ H Q->wpAny (model X.prog X.w) X.A (isTrue e X.env F) (TP X gt σ Q) X.xe s
def PW.pt(h:PW X e t):PT X e t:=h _
def PA(X:Cx)(es:List Expr)(t:TA):Prop :=
 ∀(pos:Pos) (gt:List (Addr×Obj)) (s:nU) (σ:St) (H:Hp) (Q:List V->Hp->Prop),AK X gt σ H s->t σ H Q->wpAny (model X.prog X.w) X.A (spliced (tR pos (oZ es X.env))) (AP X gt σ Q) X.xe s
def PS(X:Cx)(st:Stmt)(t:TS):Prop :=
 ∀(gt:List (Addr×Obj)) (s:nU) (σ:St) (H:Hp) (D:DV),AK X gt σ H s->t D σ H->wpAny (model X.prog X.w) X.A (exec st X.env) (SP X gt D) X.xe s
def Cy(X:Cx)(st:List Stmt)(t:TS):Prop :=
 ∀(gt:List (Addr×Obj)) (s:nU) (σ:St) (H:Hp) (D:DV),AK X gt σ H s->t D σ H->wpAny (model X.prog X.w) X.A (execs st X.env) (SP X gt D) X.xe s
def Ac(h:wpAny M A t Q E s)(F:∀a s,Q a s->Q' a s):wpAny M A t Q' E s:=qG h F λ_ _ x=>x
section
variable {X:Cx}
inductive WY(i:Nat)(σ:St)(H:Hp)(Q:VK):Prop
 |mk (v:V) (e:σ[i]?=some (some v)) (q:Q v H):WY i σ H Q
def Aw(i:Nat):TE:=λσ H Q=>WY i σ H Q
inductive RF(x:V)(H:Hp)(Q:Bool->Hp->Prop):Prop
 |mk (c:Bool) (e:x=.bl c) (q:Q c H):RF x H Q
def tC(v:V):TE:=λ_ H Q=>Q v H
def jJ{i:Nat}{x:Str}{pos:Pos}(hN:X.N[i]?=some x)(hv:Q8 X.env.scope x)(hd:(x == ("__debug__":Str))=false:=by decide)(ab:(x == ("__classdict__":Str))=false:=by decide):PE X (.Name x pos) (Aw i):=by
 intro gt s σ H Q I h;obtain⟨v,e,h⟩:=h;obtain⟨m,hn,hl⟩:=I.Dx;obtain⟨u,r,l⟩:=hl i x v hN e hv;have F:EP X gt σ Q u s:=⟨v,H,I,r,h⟩;rcases l with ⟨hk,hm⟩|⟨hk,c,O,aa⟩
 ·exact abL (wpAny_loadName_local I.ok.kind hk hn hm F) hd
 ·rcases hk with hk|hk
  ·exact abL (wpAny_loadName_cell I.ok.kind hk O aa F) hd
  ·exact abL (wpAny_loadName_free I.ok.kind hk O aa F ab) hd
def AB{i j pos}:PE X (.Constant (.int i) j pos) (tC (.int i)):=λ_ _ _ H _ I h=>wpAny_Constant_int ⟨.int i,H,I.De _,⟨_,J⟩,h⟩
def GR{b j pos}:PE X (.Constant (.bool b) j pos) (tC (.bl b)):=λ_ _ _ H _ I h=>Constant_bool ⟨.bl b,H,I,J,h⟩
def JC{j pos}:PE X (.Constant .none j pos) (tC .A5):=λ_ _ _ H _ I h=>Constant_none ⟨.A5,H,I,J,h⟩
def QJ{x j pos}:PE X (.Constant (.str x) j pos) (tC (.str x)):=λ_ _ _ H _ I h=>Calls.Constant_str ⟨.str x,H,I.De _,⟨_,J⟩,h⟩
def Gl(X:Cx)(x:Str):Prop:=X.env.kindOf x=some .globalImplicit
def cL {E:Value->nU->Prop}{gt:List (Addr×Obj)}{s:nU}{σ:St}{H:Hp}{x:Str}{u:Value}{pos:Pos}{Q:Value->nU->Prop}(I:AK X gt σ H s)(O:Gl X x)(F:X.mg x=some u)(h:Q u s)
  (hd:(x == ("__debug__":Str))=false:=by decide):wpAny (model X.prog X.w) X.A (eval (.Name x pos) X.env) Q E s :=
 x8 I.ok.kind O (Calls.loadGlobal_global (by rw[I.ok.Hh];exact I.Dd.Hh.keeps I.bk) F h) hd
def EK {E:Value->nU->Prop}{gt:List (Addr×Obj)}{s:nU}{σ:St}{H:Hp}{x:Str}{u:Value}{pos:Pos}{Q:Value->nU->Prop}(I:AK X gt σ H s)(F:Gl X x)(hm:X.mg x=none)(O:qo x=some u)(h:Q u s)
  (hn:x≠"__name__":=by decide)(hd:(x == ("__debug__":Str))=false:=by decide):wpAny (model X.prog X.w) X.A (eval (.Name x pos) X.env) Q E s:=by
 obtain⟨mb,h1,h2⟩:=I.Dd.Kp;exact x8 I.ok.kind F (Calls.loadGlobal_builtin (by rw[I.ok.Hh];exact I.Dd.Hh.keeps I.bk) hm (by rw[I.ok.Kp];exact h1.keeps I.bk) ((h2 x hn).trans O) h) hd
def J7{x:Str}{v:V}{u:Value}{pos:Pos}(hg:Gl X x)(O:X.mg x=none)(F:qo x=some u)(r:Av v u)(hn:x≠"__name__":=by decide)(hd:(x == ("__debug__":Str))=false:=by decide):PE X (.Name x pos) (tC v) :=
 λ_ _ _ H _ I h=>EK I hg O F ⟨v,H,I,r,h⟩ hn hd
variable {a b:Expr}{ta tb:TE}{pos:Pos}
def PC(X:Cx)(op:CmpOp)(a b:Expr)(t:TE):Prop :=
 ∀(gt:List (Addr×Obj)) (s:nU) (σ:St) (H:Hp) (Q:VK),AK X gt σ H s->t σ H Q →
  wpAny (model X.prog X.w) X.A (eval a X.env) (λv O=>wpAny (model X.prog X.w) X.A (eval b X.env) (λu F=>wpAny (model X.prog X.w) X.A (rH op v u) (EP X gt σ Q) X.xe F) X.xe O) X.xe s
def nobehind(b:Expr)(h:op≠.In)(h2:op≠.NotIn):uP op b=false:=by
 have O:(op == CmpOp.In)=false:=by cases op<;>first|rfl|exact absurd rfl h
 have F:(op == CmpOp.NotIn)=false:=by cases op<;>first|rfl|exact absurd rfl h2
 cases b<;>simp[uP,O,F]
def kL(ta:TE):TE:=λσ H Q=>ta σ H λx H1=>Q (.bl (!decide (x=.A5))) H1
def Av.aW(r:Av x v):(v == su)=decide (x=.A5):=by
 cases x with
 |A5=>cases r;rfl
 |bl _=>cases r;rfl
 |int _=>obtain⟨t,rfl⟩:=r;rfl
 |str _=>obtain⟨t,rfl⟩:=r;rfl
 |FU _=>obtain⟨t,rfl⟩:=r;rfl
 |Jd _=>obtain⟨t,rfl⟩:=r;rfl
 |ref _=>cases r;rfl
 |ty _=>cases r;rfl
def Tu{j pos'}(F:PE X a ta):PC X .IsNot a (.Constant .none j pos') (kL ta):=by
 intro gt s σ H Q I h;refine Ac (F gt s σ H _ I h) λv s1 ⟨x,H1,I1,O,q1⟩=>?_
 exact Constant_none (isnot_none_gen ⟨.bl _,H1,I1,by rw[O.aW];rfl,q1⟩)
def tB(t:TE):TT:=λσ H Q=>t σ H λx H1=>RF x H1 Q
def IH{op:CmpOp}{t:TE}(h:PC X op a b t)(h1:uP op b=false:=by first|exact nobehind _ (by decide) (by decide)|rfl):PT X (.Compare a [op] [b] pos) (tB t):=by
 intro gt s σ H Q I hw;refine zS (Ac (h gt s σ H _ I hw) λv s1 h1=>Ac h1 λu s2 h2=>Ac h2 λc s3 ⟨x,H1,O,F,q1⟩=>?_) h1;obtain⟨d,rfl,q⟩:=q1;cases F;exact t9 ⟨H1,O,q⟩
def C1{e:Expr}{t:TE}(h:PE X e t)(O:∀F,isTrue e X.env F=(do let v <-F;standAt e.pos;holding [v] (truthy v)):=by intro _;rfl):PT X e (tB t):=by
 intro gt s σ H Q I hw;refine isTrue_plain (Ac (h gt s σ H _ I hw) λv s1 ⟨x,H1,I1,r1,q1⟩=>?_) (O _);obtain⟨d,rfl,q⟩:=q1;cases r1;exact t9 ⟨H1,I1,q⟩
variable {tA tB':TT}{rest:List Expr}
def lP(t u:TT):TT:=λσ H Q=>t σ H λc H1=>if c=true then u σ H1 Q else Q false H1
def m7(t u:TT):TT:=λσ H Q=>t σ H λc H1=>if c=true then Q true H1 else u σ H1 Q
def mM(t:TT):TT:=λσ H Q=>t σ H λc H1=>Q (!c) H1
def PY(F:PT X a tA):PW X (.BoolOp .And [a] pos) tA:=by
 intro wh gt s σ H Q I h;refine isTrue_and (Ac (F gt s σ H Q I h) λc O e=>?_);cases c with
 |true=>exact isTrue_and_nil e
 |false=>exact e
def FA(F:PT X a tA):PW X (.BoolOp .Or [a] pos) tA:=by
 intro wh gt s σ H Q I h;refine isTrue_or (Ac (F gt s σ H Q I h) λc O e=>?_);cases c with
 |false=>exact isTrue_or_nil e
 |true=>exact e
def QC(ha:PT X a tA)(hb:PW X (.BoolOp .And (b :: rest) pos) tB'):PW X (.BoolOp .And (a :: b :: rest) pos) (lP tA tB'):=by
 intro wh gt s σ H Q I h;refine isTrue_and (Ac (ha gt s σ H _ I h) λc s1 ⟨H1,O,F⟩=>?_);cases c with
 |true=>exact hb wh gt s1 σ H1 Q O F
 |false=>exact⟨H1,O,F⟩
def EO(ha:PT X a tA)(hb:PW X (.BoolOp .Or (b :: rest) pos) tB'):PW X (.BoolOp .Or (a :: b :: rest) pos) (m7 tA tB'):=by
 intro wh gt s σ H Q I h;refine isTrue_or (Ac (ha gt s σ H _ I h) λc s1 ⟨H1,O,F⟩=>?_);cases c with
 |true=>exact⟨H1,O,F⟩
 |false=>exact hb wh gt s1 σ H1 Q O F
def Ei(F:PT X a tA):PT X (.UnaryOp .Not a pos) (mM tA):=by
 intro gt s σ H Q I h;exact isTrue_not (F gt s σ H (λc H1=>Q (!c) H1) I h)
def kM(ta tb:TE):TE:=λσ H Q=>ta σ H λx H1=>∃c,x=.bl c/\if c=true then tb σ H1 Q else Q (.bl false) H1
def mC(ta tb:TE):TE:=λσ H Q=>ta σ H λx H1=>∃c,x=.bl c/\if c=true then Q (.bl true) H1 else tb σ H1 Q
def kK(ta:TE):TE:=λσ H Q=>ta σ H λx H1=>∃c,x=.bl c/\Q (.bl (!c)) H1
def KJ{op}(h:PE X a t):PE X (.BoolOp op [a] pos) t:=λgt s σ H Q I F=>BoolOp_one (h gt s σ H Q I F)
def J8(ha:PE X a ta)(hb:PE X (.BoolOp .And (b :: rest) pos) tb):PE X (.BoolOp .And (a :: b :: rest) pos) (kM ta tb):=by
 intro gt s σ H Q I h;refine BoolOp_and (Ac (ha gt s σ H _ I h) λv s1 ⟨x,H1,O,r1,F⟩=>?_);obtain⟨c,rfl,F⟩:=F;cases r1;refine t9 ?_;cases c with
 |true=>exact hb gt s1 σ H1 Q O F
 |false=>exact⟨.bl false,H1,O,J,F⟩
def QP(ha:PE X a ta)(hb:PE X (.BoolOp .Or (b :: rest) pos) tb):PE X (.BoolOp .Or (a :: b :: rest) pos) (mC ta tb):=by
 intro gt s σ H Q I h;refine BoolOp_or (Ac (ha gt s σ H _ I h) λv s1 ⟨x,H1,O,r1,F⟩=>?_);obtain⟨c,rfl,F⟩:=F;cases r1;refine t9 ?_;cases c with
 |false=>exact hb gt s1 σ H1 Q O F
 |true=>exact⟨.bl true,H1,O,J,F⟩
def gL(O:PE X a ta):PE X (.UnaryOp .Not a pos) (kK ta):=by
 intro gt s σ H Q I h;refine UnaryOp_ (Ac (O gt s σ H _ I h) λv s1 ⟨x,H1,I1,r1,F⟩=>?_);obtain⟨c,rfl,F⟩:=F;cases r1;exact not_of (t9 ⟨.bl (!c),H1,I1,J,F⟩)
def mS(t:TT)(ta tb:TE):TE:=λσ H Q=>t σ H λc H1=>if c=true then ta σ H1 Q else tb σ H1 Q
def Sx(hc:PT X c tA)(ha:PE X a ta)(hb:PE X b tb):PE X (.IfExp c a b pos) (mS tA ta tb):=by
 intro gt s σ H Q I h;refine wpAny_IfExp (Ac (hc gt s σ H _ I h) λd O ⟨H1,I1,F⟩=>?_);cases d with
 |true=>exact ha gt O σ H1 Q I1 F
 |false=>exact hb gt O σ H1 Q I1 F
end
def AI(K:nT)(H:Hp)(a:Addr)(xs:List V):Prop :=
 Rd H a (.AE xs) \/
  ∃(o:Obj) (F:Array Value) (n:Nat),K.lookup a=some o/\o.cls=.type "list"/\o.dict=none/\o.data=.seq F n/\F.size<=oK/\Af xs F.toList
def AH(K:nT)(H:Hp)(a:Addr)(xs:List V):Prop :=
 Rd H a (.AG xs) \/
  ∃(o:Obj) (F:Array Value) (n:Nat),K.lookup a=some o/\o.cls=.type "tuple"/\o.data=.seq F n/\F.size<=oK/\Af xs F.toList
def kr:Value->Option V
 |.none=>some .A5
 |.bool b=>some (.bl b)
 |.int i _=>some (.int i)
 |.str x _=>some (.str x)
 |.bytes b _=>some (.FU b)
 |.float b _=>some (.Jd b)
 |.ref a=>some (.ref a)
 |.type n=>some (.ty n)
 |_=>none
def Av.W3(r:Av x u):kr u=some x:=by
 cases x with
 |A5=>cases r;rfl
 |bl _=>cases r;rfl
 |int _=>obtain⟨t,rfl⟩:=r;rfl
 |str _=>obtain⟨t,rfl⟩:=r;rfl
 |FU _=>obtain⟨t,rfl⟩:=r;rfl
 |Jd _=>obtain⟨t,rfl⟩:=r;rfl
 |ref _=>cases r;rfl
 |ty _=>cases r;rfl
def Av.inj(r:Av x u)(q:Av y u):x=y:=oy (r.W3.symm.trans q.W3)
def Af.inj:∀{xs ys:List V} {us:List Value},Af xs us->Af ys us->xs=ys
 |_,_,_,.nil,.nil=>rfl
 |_,_,_,.cons r t,.cons r' t'=>by rw[r.inj r',Af.inj t t']
section
variable {X:Cx}{gt:List (Addr×Obj)}{σ:St}{H:Hp}{s:nU}{a:Addr}{xs ys:List V}
def AI.of{K:nT}(h:H a=some (.AE xs)):AI K H a xs:=.inl (.inl h)
def AH.of{K:nT}(h:H a=some (.AG xs)):AH K H a xs:=.inl (.inl h)
def AK.list(I:AK X gt σ H s)(h:AI X.K H a xs):∃F:List Value,Af xs F/\PlainL s.heap a F.toArray/\xs.length<=oK:=by
 rcases h with h|⟨o,F,n,O,hc,hd,hs,hz,r⟩
 ·obtain⟨z,F,n,r,e⟩:=h.ok I.Aj;exact⟨F,r,⟨_,n,e,J,J,J⟩,z⟩
 ·refine⟨F.toList,r,⟨o,n,I.Dn a o O,hc,hd,by simpa using hs⟩,?_⟩;have e:=r.length;simp only[qj]at e
  lia
def AK.tuple(I:AK X gt σ H s)(h:AH X.K H a xs):∃F:List Value,Af xs F/\IsTup s.heap a F.toArray/\xs.length<=oK:=by
 rcases h with h|⟨o,F,n,O,hc,hs,hz,r⟩
 ·obtain⟨z,F,r,p,_⟩:=h.ok I.Aj;exact⟨F,r,p,z⟩
 ·refine⟨F.toList,r,⟨o,I.Dn a o O,hc,n,by simpa using hs⟩,?_⟩;have e:=r.length;simp only[qj]at e;omega
def AK.list_inj(I:AK X gt σ H s)(h:AI X.K H a xs)(h':AI X.K H a ys):xs=ys:=by
 obtain⟨O,r,⟨o,n,e,_,_,d⟩,_⟩:=I.list h;obtain⟨its',r',⟨o',n',F,_,_,d'⟩,_⟩:=I.list h';rw[e]at F;cases F;rw[d]at d';injection d' with d1 _
 have:O=its':=by simpa using congrArg Array.toList d1
 subst this;exact r.inj r'
def AK.R8(I:AK X gt σ H s)(h:AH X.K H a xs)(h':AH X.K H a ys):xs=ys:=by
 obtain⟨O,r,⟨o,e,_,n,d⟩,_⟩:=I.tuple h;obtain⟨its',r',⟨o',F,_,n',d'⟩,_⟩:=I.tuple h';rw[e]at F;cases F;rw[d]at d';injection d' with d1 _
 have:O=its':=by simpa using congrArg Array.toList d1
 subst this;exact r.inj r'
end
abbrev Cx.FH(X:Cx)(E:Value->nU->Prop):Cx:={ X with xe:=E}
abbrev Cx.Hl(X:Cx):Cx:=X.FH λ_ _=>False
def Cx.Ok.FH{X:Cx}(F:X.Ok)(E:Value->nU->Prop):(X.FH E).Ok :=
 ⟨F.Dd,F.kind,F.Hh,F.Kp,F.above,F.inj,F.has,F.ME,F.hd,F.frames,F.N5,F.XD,F.bs,F.Gj,F.L5,F.Lx,F.FK,F.Jb⟩
def Cx.Ok.GN{X:Cx}(F:(X.FH E).Ok):X.Ok :=
 ⟨F.Dd,F.kind,F.Hh,F.Kp,F.above,F.inj,F.has,F.ME,F.hd,F.frames,F.N5,F.XD,F.bs,F.Gj,F.L5,F.Lx,F.FK,F.Jb⟩
section
variable {X:Cx}{gt:List (Addr×Obj)}{σ:St}{H:Hp}{s:nU}{E:Value->nU->Prop}
def AK.FH(I:AK X gt σ H s)(E:Value->nU->Prop):AK (X.FH E) gt σ H s:=⟨I.ok.FH E,I.os,I.DT,I.base,I.Dx,I.cell,I.free,I.Fe,I.DY,I.Aj,I.len⟩
def AK.GN(I:AK (X.FH E) gt σ H s):AK X gt σ H s:=⟨I.ok.GN,I.os,I.DT,I.base,I.Dx,I.cell,I.free,I.Fe,I.DY,I.Aj,I.len⟩
def SP.GN(h:SP (X.FH E) gt D f s'):SP X gt D f s':=by
 cases f with
 |next=>obtain⟨F,H',I,q⟩:=h;exact⟨F,H',I.GN,q⟩
 |brk=>obtain⟨F,H',I,q⟩:=h;exact⟨F,H',I.GN,q⟩
 |cont=>obtain⟨F,H',I,q⟩:=h;exact⟨F,H',I.GN,q⟩
 |ret u=>obtain⟨v,F,H',I,r,q⟩:=h;exact⟨v,F,H',I.GN,r,q⟩
def PE.Hl(h:PE X.Hl e t):PE X e t:=λgt s σ H Q I F =>
 qG (h gt s σ H Q (I.FH _) F) (λ_ _ ⟨v,H',O,r,q⟩=>⟨v,H',O.GN,r,q⟩) λ_ _ z=>qv z
def PT.Hl(h:PT X.Hl e t):PT X e t:=λgt s σ H Q I F =>
 qG (h gt s σ H Q (I.FH _) F) (λ_ _ ⟨H',O,q⟩=>⟨H',O.GN,q⟩) λ_ _ z=>qv z
def Cy.Hl{st:List Stmt}(h:Cy X.Hl st t):Cy X st t:=λgt s σ H D I F =>
 qG (h gt s σ H D (I.FH _) F) (λ_ _ q=>q.GN) λ_ _ z=>qv z
end
section
variable {X:Cx}{st:Stmt}{rest:List Stmt}{t u:TS}{e:Expr}{te:TE}{pos:Pos}
def ji:TS:=λD σ H=>D.nx σ H
def Ka(t u:TS):TS:=λD σ H=>t { D with nx:=u D} σ H
def BR:Cy X [] ji:=λ_ _ σ H _ I h=>xt ⟨σ,H,I,h⟩
def AL(h1:PS X st t)(h2:Cy X rest u):Cy X (st :: rest) (Ka t u):=by
 intro gt s σ H D I h;refine wpAny_execs_cons (Ac (h1 gt s σ H { D with nx:=u D} I h) λf s1 q=>?_);cases f with
 |next =>
  obtain⟨O,H',F,q⟩:=q;exact h2 gt s1 O H' D F q
 |ret v=>exact q
 |brk=>exact q
 |cont=>exact q
def AS(h1:PS X st t):Cy X [st] t:=by
 intro gt s σ H D I h;refine wpAny_execs_cons (Ac (h1 gt s σ H D I h) λf F q=>?_);cases f with
 |next=>exact xt q
 |ret v=>exact q
 |brk=>exact q
 |cont=>exact q
def AK.quiet(I:AK X gt σ H s):interactive X.env=false:=by simp[interactive,I.ok.kind]
def ja(te:TE):TS:=λD σ H=>te σ H λ_ H1=>D.nx σ H1
def DH(F:PE X e te)(hs:x4 e none pos.line X.env=pure false:=by rfl):PS X (.Expr e pos) (ja te):=by
 intro gt s σ H D I h;exact wpAny_Expr_any (Ac (F gt s σ H _ I h) λv s1 ⟨x,H1,I1,r1,O⟩=>⟨σ,H1,I1,O⟩) I.quiet hs
def Qp(te:TE):TS:=λD σ H=>te σ H D.rt
def Ai(F:PE X e te):PS X (.Return (some e) pos) (Qp te):=by
 intro gt s σ H D I h;exact wpAny_Return_some (Ac (F gt s σ H _ I h) λv s1 ⟨x,H1,I1,O,q1⟩=>⟨x,σ,H1,I1,O,q1⟩)
def Nq(c:TT)(t u:TS):TS:=λD σ H=>c σ H λb H1=>if b=true then t D σ H1 else u D σ H1
def BL(hc:PT X c tc)(ha:Cy X a t)(hb:Cy X b u):PS X (.If c a b pos) (Nq tc t u):=by
 intro gt s σ H D I h;refine wpAny_If (Ac (hc gt s σ H _ I h) λd O ⟨H1,I1,F⟩=>?_);cases d with
 |true=>exact ha gt O σ H1 D I1 F
 |false=>exact hb gt O σ H1 D I1 F
def Ut:TS:=λ_ _ _=>False
def Oi:PS X st Ut:=λ_ _ _ _ _ _ h=>h.elim
def D2:Cy X sts Ut:=λ_ _ _ _ _ _ h=>h.elim
end
abbrev TG:=V->St->Hp->(St->Hp->Prop)->Prop
abbrev Gg:=List V->St->Hp->(St->Hp->Prop)->Prop
def PG(X:Cx)(O:Expr)(t:TG):Prop :=
 ∀(gt:List (Addr×Obj)) (s:nU) (σ:St) (H:Hp) (v:V) (u:Value) (Q:St->Hp->Prop),AK X gt σ H s->Av v u->t v σ H Q →
  wpAny (model X.prog X.w) X.A (yZ O X.env u) (λ_ s'=>∃F H',AK X gt F H' s'/\Q F H') X.xe s
def MK(X:Cx)(ts:List Expr)(t:Gg):Prop :=
 ∀(gt:List (Addr×Obj)) (s:nU) (σ:St) (H:Hp) (vs:List V) (us:List Value) (Q:St->Hp->Prop),AK X gt σ H s->Af vs us->t vs σ H Q →
  wpAny (model X.prog X.w) X.A (assignInOrder ((vy ts X.env).map (·.2)) us) (λ_ s'=>∃F H',AK X gt F H' s'/\Q F H') X.xe s
abbrev Qq:=V->V->V->Hp->(Hp->Prop)->Prop
def WV(X:Cx)(t:Qq):Prop :=
 ∀(gt:List (Addr×Obj)) (s:nU) (σ:St) (H:Hp) (o i v:V) (O F u:Value) (Q:Hp->Prop),AK X gt σ H s->Av o O->Av i F->Av v u->t o i v H Q →
  wpAny (model X.prog X.w) X.A (setItem O F u) (λ_ s'=>∃H',AK X gt σ H' s'/\Q H') X.xe s
section
variable {X:Cx}{pos:Pos}
def BU(i:Nat):TG:=λv σ H Q=>Q (σ.set i (some v)) H
def B8(hN:X.N.Nodup)(hi:X.N[i]?=some x)(hx:Ik X.env.scope x)(F:X.fn x=true\/X.env.scope.names.lookup x=some .local:=by first|exact .inl rfl|exact .inr rfl|assumption):PG X (.Name x pos) (BU i):=by
 intro gt s σ H v u Q I r h;exact aa3 (Se I hN hi hx r (λs' O=>⟨_,H,O,h⟩) F)
inductive Vl(vs:List V)(σ:St)(H:Hp)(Q:St->Hp->Prop):Prop
 |mk (e:vs=[]) (q:Q σ H):Vl vs σ H Q
def Ly:Gg:=λvs σ H Q=>Vl vs σ H Q
inductive VS(t:TG)(u:Gg)(vs:List V)(σ:St)(H:Hp)(Q:St->Hp->Prop):Prop
 |mk (v:V) (r:List V) (e:vs=v :: r) (q:t v σ H λF H'=>u r F H' Q):VS t u vs σ H Q
def HM(t:TG)(u:Gg):Gg:=λvs σ H Q=>VS t u vs σ H Q
def Cn:MK X [] Ly:=by
 intro gt s σ H vs us Q I r h;obtain⟨e,h⟩:=h;subst e;cases r;exact assignInOrder_nil ⟨σ,H,I,h⟩
def BH {e:Expr}{es:List Expr}{t:TG}{u:Gg}(h1:PG X e t)(h2:MK X es u)
  (hs:(vy (e :: es) X.env).map (·.2)=yZ e X.env :: (vy es X.env).map (·.2):=by rfl):MK X (e :: es) (HM t u):=by
 intro gt s σ H vs us Q I r h;obtain⟨v,vr,e1,h⟩:=h;subst e1;cases r with
 |cons r rr =>
  rw[hs];refine assignInOrder_cons (Ac (h1 gt s σ H _ _ _ I r h) λ_ s1 ⟨F,H1,O,q1⟩=>?_);exact h2 gt s1 F H1 _ _ Q O rr q1
inductive Ve(K:nT)(n:Nat)(t:Gg)(v:V)(σ:St)(H:Hp)(Q:St->Hp->Prop):Prop
 |mk (a:Addr) (xs:List V) (e:v=.ref a) (s:AH K H a xs) (l:xs.length=n) (q:t xs σ H Q):Ve K n t v σ H Q
def JY(K:nT)(n:Nat)(t:Gg):TG:=λv σ H Q=>Ve K n t v σ H Q
def iQ {es:List Expr}{k:Nat}{t:Gg}{n:Nat}(hc:X.Cd=true)(h:MK X es t)
  (hn:(vy es X.env).length=n:=by rfl)(aa:(vy es X.env).findIdx? (·.1)=none:=by rfl):PG X (.Tuple es k pos) (JY X.K n t):=by
 intro gt s σ H v u Q I r F;obtain⟨a,xs,e1,hq,hl,F⟩:=F;subst e1;cases r;obtain⟨ab,O,ht,hz⟩:=I.tuple hq;refine assign_Tuple_tuple (I.ok.hd hc) ht (by simp[hn,<-hl,O.length]) aa λh' hx=>?_
 have I1:AK X gt σ H { s with heap:=h'}:=I.CC (t':=s.toks) λb o e=>hx b o (o8 (ow e)) e
 exact h gt _ σ H xs _ Q I1 (by simpa using O) F
def Wk(to O:TE)(t:Qq):TG:=λv σ H Q=>to σ H λo H1=>O σ H1 λi H2=>t o i v H2 λF=>Q σ F
def Fc {o i:Expr}{to ti:TE}{t:Qq}(ho:PE X o to)(hi:PE X i ti)(hs:WV X t)
  (ha:∀v,yZ (.Subscript o i pos) X.env v=(do
   let F <-holding [v] (eval o X.env)
   let O <-holding [v,F] (eval i X.env)
   standAt pos
   holding [v,F,O] (setItem F O v)
   release [v,F,O] []):=by intro _;rfl):PG X (.Subscript o i pos) (Wk to ti t):=by
 intro gt s σ H v u Q I r h;rw[ha];refine nv (sV (Ac (ho gt s σ H _ I h) λF s1 ⟨x,H1,I1,r1,q1⟩=>?_));refine nv (sV (Ac (hi gt s1 σ H1 _ I1 q1) λO s2 ⟨y,H2,I2,r2,q2⟩=>?_));refine nv (aaf (nv (sV (Ac (hs gt s2 σ H2 x y v F O u _ I2 r1 r2 r q2) λ_ s3 ⟨H3,I3,q3⟩=>?_))));exact wpAny_release ⟨σ,H3,I3,q3⟩
def JT(te:TE)(g:TG):TS:=λD σ H=>te σ H λx H1=>g x σ H1 D.nx
def Dg {tg e:Expr}{te:TE}{g:TG}(F:PE X e te)(hg:PG X tg g)(hs:swapsWithSole [tg] e pos.line X.env=pure false:=by rfl)(hw:swappedStores [tg] e X.env=pure none:=by rfl)
  (h1:(vy [tg] X.env).map (·.2)=[yZ tg X.env]:=by rfl):PS X (.Assign [tg] e pos) (JT te g):=by
 intro gt s σ H D I h;refine wpAny_Assign_stores (Ac (F gt s σ H _ I h) λv s1 ⟨x,H1,I1,O,q1⟩=>?_) hs hw;rw[h1];exact Ac (hg gt s1 σ H1 x v _ I1 O q1) λ_ s2 q=>q
def jE{i:Nat}{x:Str}{e:Expr}{te:TE}{pos':Pos}(hN:X.N.Nodup)(hi:X.N[i]?=some x)(hx:Ik X.env.scope x)(F:PE X e te)(hs:x4 e (some (.Name x pos')) pos.line X.env=pure false:=by rfl)(hf:X.fn x=true\/X.env.scope.names.lookup x=some .local:=by first|exact .inl rfl|exact .inr rfl|assumption):
  PS X (.Assign [.Name x pos'] e pos) (JT te (BU i)):=by
 intro gt s σ H D I h;refine wpAny_Assign_Name (Ac (F gt s σ H _ I h) λv s1 ⟨y,H1,I1,O,q1⟩=>?_) hs;exact Se I1 hN hi hx O (λs2 I2=>⟨_,H1,I2,q1⟩) hf
end
section
variable {X:Cx}{pos:Pos}
def Py(c:TT)(tb:TS):TS:=λD σ H=>∃W:Nat->St->Hp->Prop,(∃m,W m σ H)/\∀m σ H,W m σ H →
 c σ H λb H1=>if b=true then ∃N:St->Hp->Prop,(∀O H',N O H'->∃F,F<m/\W F O H')/\tb { D with nx:=N,ct:=N,bk:=D.nx} σ H1 else D.nx σ H1
def Hy(hp:ph (model X.prog X.w) X.A X.env X.xe)(hc:PT X c tc)(hb:Cy X body tb):PS X (.While c body [] pos) (Py tc tb):=by
 intro gt s σ H D I h;obtain⟨W,⟨m0,w0⟩,aa⟩:=h;refine wpAny_While (codeAny_whileLoop (λn s'=>∃σ' H',AK X gt σ' H' s'/\W n σ' H') ?_ m0 ⟨σ,H,I,w0⟩);rintro n s1 ⟨σ1,H1,I1,w1⟩;refine tX hp (Ac (hc gt s1 σ1 H1 _ I1 (aa n σ1 H1 w1)) λb s2 ⟨H2,I2,q2⟩=>?_);cases b with
 |true =>
  obtain⟨N,hN,q2⟩:=q2;rw[nX rfl];refine tX hp (Ac (hb gt s2 σ1 H2 _ I2 q2) λf s3 q3=>?_);cases f with
  |next =>
   obtain⟨F,O,I3,n3⟩:=q3;obtain⟨m',hm,w3⟩:=hN F O n3;exact⟨m',hm,F,O,I3,w3⟩
  |cont =>
   obtain⟨F,O,I3,n3⟩:=q3;obtain⟨m',hm,w3⟩:=hN F O n3;exact⟨m',hm,F,O,I3,w3⟩
  |brk=>exact q3
  |ret v=>exact q3
 |false =>
  rw[nS oV];exact xt ⟨σ1,H2,I2,q2⟩
end
structure It where
 go:Nat->Hp->Prop
 Dp:Nat->Hp->V->Hp->Prop
 Dm:Nat->Hp->Prop
def Fq(X:Cx)(gt:List (Addr×Obj))(H:Hp)(b:Addr):Prop :=
 H b=none/\b≠X.env.locals/\b∉X.fs/\(b∈X.ex\/X.s₀.heap.objs.size<=b)/\(∀x c,X.env.cells.lookup x=some c->c≠b)/\∀p∈X.pn++gt,p.1≠b
def AK.HY(I:AK X gt σ H s)(F:s.heap.objs.size<=b)(hn:H' b=none):Fq X gt H' b:=by
 refine⟨hn,r8 (pP I.lt F),I.km F,.inr (oC I.sz F),λx c e z=>?_,λp O z=>?_⟩
 ·obtain⟨v,q⟩:=I.cell x c e;exact absurd (pP q.lt (by rw[z];exact F)) (sT _)
 ·exact absurd (pP (ow (I.DY p O).1) (by rw[z];exact F)) (sT _)
structure FD(P:o6)(w:World)(K:nT)(tg:Expr)(J:It)(fp:List Addr)(it:Addr)(tn:Nat->Heap->Prop):Prop where
 mem:it∈fp
 Ci:∀i h,tn i h->∀b∈fp,∃o,h.get? b=some o/\∀v,o.data≠.cell v
 keep:∀i h h',tn i h->(∀b∈fp,∀o,h.get? b=some o->h'.get? b=some o)->tn i h'
 item:∀(X:Cx),X.prog=P->X.w=w->X.K=K->X.Cd=true->∀(i:Nat) (gt:List (Addr×Obj)) (s:nU) (σ:St) (H:Hp) (E:Value->nU->Prop),AK X gt σ H s->(∀b∈fp,Fq X gt H b)->tn i s.heap->J.go i H →
  wpAny (model P w) X.A (uX (.ref it)) (λr s1=>∃u,r=some u /\
   wpAny (model P w) X.A (xr tg (.ref it) u) (λ_ s2=>∃x H',AK X gt σ H' s2/\Av x u/\J.Dp i H x H'/\tn (i+1) s2.heap/\∀b∈fp,H' b=none) E s1) E s
 done:∀(X:Cx),X.prog=P->X.w=w->X.K=K->X.Cd=true->∀(i:Nat) (gt:List (Addr×Obj)) (s:nU) (σ:St) (H:Hp) (E:Value->nU->Prop),AK X gt σ H s->(∀b∈fp,Fq X gt H b)->tn i s.heap->J.Dm i H →
  wpAny (model P w) X.A (uX (.ref it)) (λr s1=>r=none/\AK X gt σ H s1) E s
 self:∀(A:qf) (i:Nat) (s:nU) (Q:Value->nU->Prop) (E:Value->nU->Prop),tn i s.heap->Q (.ref it) s->wpAny (model P w) A (y8 (.ref it)) Q E s
abbrev TI:=St->Hp->(It->Hp->Prop)->Prop
def XC(X:Cx)(gt:List (Addr×Obj))(σ:St)(tg:Expr)(R:It->Hp->Prop)(aa:Value)(s2:nU):Prop :=
 ∃(F:Addr) (fp:List Addr) (O:Nat->Heap->Prop) (J:It) (H':Hp),aa=.ref F/\AK X gt σ H' s2/\FD X.prog X.w X.K tg J fp F O/\O 0 s2.heap/\(∀b∈fp,Fq X gt H' b)/\R J H'
def PI(X:Cx)(tg iter:Expr)(wi:TI):Prop :=
 ∀(gt:List (Addr×Obj)) (s:nU) (σ:St) (H:Hp) (R:It->Hp->Prop),AK X gt σ H s->wi σ H R →
  wpAny (model X.prog X.w) X.A (eval iter X.env) (λv F=>wpAny (model X.prog X.w) X.A (y8 v) (XC X gt σ tg R) X.xe F) X.xe s
def Lf (ho : s.heap.get? it = some o) (hc : o.cls = .type n) (hd : o.data = .fields vs)
    (O:["enumerate","zip","dict_itemiterator","dict_reverseitemiterator","odict_iterator","itertools.zip_longest","itertools.pairwise"].contains n=false) (F:Q () s):wpAny M A (xr tg (.ref it) u) Q E s:=by
  unfold xr;cases tg<;>first
    |exact nZ F
    | (cases u <;> first
        |exact nZ F
        | (refine nv (abM ho ?_)
           rw[hc,hd];show wpAny M A (if (["enumerate","zip","dict_itemiterator","dict_reverseitemiterator","odict_iterator","itertools.zip_longest","itertools.pairwise"].contains n && vs[0]? == some (rY _))=true then _ else _) Q E s;rw[nS (by intro h;rw[O,Bool.false_and]at h;cases h)];exact nZ F))
def Hm(K:nT)(a:Addr):It :=
 ⟨λi H=>∃xs x,AI K H a xs/\xs[i]?=some x,λi H x H'=>H'=H/\∀xs,AI K H a xs->xs[i]?=some x,λi H=>∃xs,AI K H a xs/\xs.length<=i⟩
def Hj(K:nT)(a:Addr):It :=
 ⟨λi H=>∃xs x,AH K H a xs/\xs[i]?=some x,λi H x H'=>H'=H/\∀xs,AH K H a xs->xs[i]?=some x,λi H=>∃xs,AH K H a xs/\xs.length<=i⟩
def GC(lo:Int)(n:Nat):It:=⟨λi _=>i<n,λi H x H'=>H'=H/\x=.int (lo+i),λi _=>n<=i⟩
def Yb{P:o6}{w:World}{K:nT}{tg:Expr}(a O:Addr):FD P w K tg (Hm K a) [O] O (λi h=>h.IsListIter O a i) where
 mem:=by simp
 Ci:=λi h st b F=>by
  have e:b=O:=by simpa using F
  subst e;obtain⟨o,e,c,d⟩:=st;exact⟨o,e,λv z=>by rw[d]at z;cases z⟩
 keep:=λi h h' st k=>st.at λo e=>k O (by simp) o e
 item:=by
  intro X hP hw hK hc i gt s σ H E I hf st hg;subst hP hw hK;obtain⟨xs,x,hq,hx⟩:=hg;obtain⟨ab,rv,p,hz⟩:=I.list hq;obtain⟨u,hu,ru⟩:=rv.get hx;obtain⟨f0,f1,f2,f3,f4,f5⟩:=hf O (by simp);refine wpAny_pyNext_list_item st p.isList (x:=u) (by simpa using hu) λh' aa sb=>?_
  have I1:AK X gt σ H { s with heap:=h'}:=I.EL (t':=s.toks) (λb o F e=>(sb.2 b F).trans e) f0 f1 f3 f4 f5;obtain⟨o,e,c,d⟩:=id aa;exact⟨u,J,Lf (s:={ s with heap:=h'}) e c d (by decide) ⟨x,H,I1,ru,⟨J,λys hy=>by rw[I.list_inj hy hq];exact hx⟩,aa,λb F=>(hf b F).1⟩⟩
 done:=by
  intro X hP hw hK hc i gt s σ H E I hf st hg;subst hP hw hK;obtain⟨xs,hq,hx⟩:=hg;obtain⟨ab,rv,p,hz⟩:=I.list hq;obtain⟨f0,f1,f2,f3,f4,f5⟩:=hf O (by simp);have hl:=rv.length;exact wpAny_pyNext_list_end (I.ok.hd hc) st p.isList (by simp;lia) λh' eb=>⟨J,I.EL (t':=s.toks) (λb o F e=>eb b o F e) f0 f1 f3 f4 f5⟩
 self:=λ_ _ _ _ _ st h=>wpAny_pyIter_listiter st h
def YG{P:o6}{w:World}{K:nT}{tg:Expr}(a O:Addr):FD P w K tg (Hj K a) [O] O (λi h=>h.IsTupleIter O a i) where
 mem:=by simp
 Ci:=λi h st b F=>by
  have e:b=O:=by simpa using F
  subst e;obtain⟨o,e,c,d⟩:=st;exact⟨o,e,λv z=>by rw[d]at z;cases z⟩
 keep:=λi h h' st k=>st.at λo e=>k O (by simp) o e
 item:=by
  intro X hP hw hK hc i gt s σ H E I hf st hg;subst hP hw hK;obtain⟨xs,x,hq,hx⟩:=hg;obtain⟨aa,rv,p,hz⟩:=I.tuple hq;obtain⟨u,hu,ru⟩:=rv.get hx;obtain⟨f0,f1,f2,f3,f4,f5⟩:=hf O (by simp);refine wpAny_pyNext_tuple_item st (show s.heap.IsTuple a aa.toArray from p) (x:=u) (by simpa using hu) λh' ab sb=>?_
  have I1:AK X gt σ H { s with heap:=h'}:=I.EL (t':=s.toks) (λb o F e=>(sb.2 b F).trans e) f0 f1 f3 f4 f5;obtain⟨o,e,c,d⟩:=id ab;exact⟨u,J,Lf (s:={ s with heap:=h'}) e c d (by decide) ⟨x,H,I1,ru,⟨J,λys hy=>by rw[I.R8 hy hq];exact hx⟩,ab,λb F=>(hf b F).1⟩⟩
 done:=by
  intro X hP hw hK hc i gt s σ H E I hf st hg;subst hP hw hK;obtain⟨xs,hq,hx⟩:=hg;obtain⟨aa,rv,p,hz⟩:=I.tuple hq;obtain⟨f0,f1,f2,f3,f4,f5⟩:=hf O (by simp);have hl:=rv.length;exact wpAny_pyNext_tuple_end (I.ok.hd hc) st (show s.heap.IsTuple a aa.toArray from p) (by simp;lia) λh' eb=>⟨J,I.EL (t':=s.toks) (λb o F e=>eb b o F e) f0 f1 f3 f4 f5⟩
 self:=λ_ _ _ _ _ st h=>wpAny_pyIter_tupleiter st h
def Xy{P:o6}{w:World}{K:nT}{tg:Expr}(F:Addr)(lo:Int)(n:Nat):FD P w K tg (GC lo n) [F] F (λi h=>zt h F (lo+(i:Nat)*1) ((n:Int)-(i:Nat)) 1) where
 mem:=by simp
 Ci:=λi h st b O=>by
  have e:b=F:=by simpa using O
  subst e;exact⟨_,st,λv z=>by
   have z':xJ _=wG v:=z;cases z'⟩
 keep:=λi h h' st k=>k F (by simp) _ st
 item:=by
  intro X hP hw hK hc i gt s σ H E I hf st hg;subst hP hw hK;obtain⟨f0,f1,f2,f3,f4,f5⟩:=hf F (by simp);have W:=Walks.range (prog:=X.prog) (w:=X.w) (I.ok.hd hc) F lo 1 n;refine W.item i s _ _ hg st λv h' tk hv aa kk=>?_
  obtain⟨t,rfl⟩:=hv;have I1:AK X gt σ H { s with heap:=h',toks:=tk}:=I.EL (λb o O e=>kk b o (by simpa using O) e) f0 f1 f3 f4 f5;refine⟨_,J,Lf (s:={ s with heap:=h',toks:=tk}) (n:="range_iterator") aa rfl rfl (by decide) ⟨.int (lo+i),H,I1,⟨t,?_⟩,⟨J,J⟩,aa,λb O=>(hf b O).1⟩⟩;rw[Int.mul_one]
 done:=by
  intro X hP hw hK hc i gt s σ H E I hf st hg;subst hP hw hK;obtain⟨f0,f1,f2,f3,f4,f5⟩:=hf F (by simp);exact zF (I.ok.hd hc) st (by have:n<=i:=hg;lia) λh' eb=>⟨J,I.EL (t':=s.toks) (λb o O e=>eb b o O e) f0 f1 f3 f4 f5⟩
 self:=λ_ _ _ _ _ st h=>zD st h
section
variable {X:Cx}{tg:Expr}
inductive Uz(K:nT)(x:V)(H:Hp)(R:It->Hp->Prop):Prop
 |mk (a:Addr) (e:x=.ref a) (s:∃xs,AI K H a xs) (q:R (Hm K a) H):Uz K x H R
inductive V4(K:nT)(x:V)(H:Hp)(R:It->Hp->Prop):Prop
 |mk (a:Addr) (e:x=.ref a) (s:∃xs,AH K H a xs) (q:R (Hj K a) H):V4 K x H R
def Vj(K:nT)(tl:TE):TI:=λσ H R=>tl σ H λx H1=>Uz K x H1 R
def Qu(K:nT)(tl:TE):TI:=λσ H R=>tl σ H λx H1=>V4 K x H1 R
def dG(hl:PE X l tl):PI X tg l (Vj X.K tl):=by
 intro gt s σ H R I h;refine Ac (hl gt s σ H _ I h) λv O ⟨x,H1,F,r1,q1⟩=>?_
 obtain⟨a,e,⟨xs,hq⟩,q⟩:=q1;subst e;cases r1;obtain⟨aa,rv,p,hz⟩:=F.list hq;refine tG p.isList ?_;refine⟨O.heap.objs.size,[O.heap.objs.size],_,_,H1,J,F.CC (t':=O.toks) λb o e=>nP _ e,Yb a _,⟨_,oq _ rfl,J,J⟩,λb hb=>?_,q⟩;have e:b=O.heap.objs.size:=by simpa using hb
 subst e;exact F.HY (nQ _) (F.Aj.fresh (nQ _))
def iI(hl:PE X l tl):PI X tg l (Qu X.K tl):=by
 intro gt s σ H R I h;refine Ac (hl gt s σ H _ I h) λv F ⟨x,H1,O,r1,q1⟩=>?_
 obtain⟨a,e,⟨xs,hq⟩,q⟩:=q1;subst e;cases r1;obtain⟨aa,rv,p,hz⟩:=O.tuple hq;refine sk (show F.heap.IsTuple a aa.toArray from p) ?_;refine⟨F.heap.objs.size,[F.heap.objs.size],_,_,H1,J,O.CC (t':=F.toks) λb o e=>nP _ e,YG a _,⟨_,oq _ rfl,J,J⟩,λb hb=>?_,q⟩;have e:b=F.heap.objs.size:=by simpa using hb
 subst e;exact O.HY (nQ _) (O.Aj.fresh (nQ _))
def Sk {lo hi:Int}(I:AK X gt σ H s)(h1:-(2 ^ 62)<=lo)(h2:lo<2 ^ 62)(h3:-(2 ^ 62)<=hi)(h4:hi<2 ^ 62)
  (q:R (GC lo (hi-lo).toNat) H):wpAny (model X.prog X.w) X.A (y8 (.ref s.heap.objs.size)) (XC X gt σ tg R) E { s with heap:=s.heap.push { cls:=.type "range",data:=.fields #[.int lo t,.int hi u,.int 1 v]},toks:=tk}:=by
 refine aaQ (zq ..) (small_one h1 h2 h3 h4) ?_;have F:AK X gt σ H { s with heap:=s.heap.push { cls:=.type "range",data:=.fields #[.int lo t,.int hi u,.int 1 v]},toks:=tk}:=I.CC λb o e=>nP _ e
 refine⟨(s.heap.push { cls:=.type "range",data:=.fields #[.int lo t,.int hi u,.int 1 v]}).objs.size,[(s.heap.push { cls:=.type "range",data:=.fields #[.int lo t,.int hi u,.int 1 v]}).objs.size],_,_,H,J,
  F.CC (t':=tk) λb o e=>nP _ e,Xy _ lo (hi-lo).toNat,?_,λb O=>?_,q⟩
 ·have e1:lo+((0:Nat):Int)*1=lo:=by simp
  have e2:(((hi-lo).toNat:Nat):Int)-((0:Nat):Int)=uM lo hi 1:=by rw[aac];split<;>lia
  show zt _ _ (lo+((0:Nat):Int)*1) ((((hi-lo).toNat:Nat):Int)-((0:Nat):Int)) 1;rw[e1,e2];exact oq _ rfl
 ·have e:b=(s.heap.push { cls:=.type "range",data:=.fields #[.int lo t,.int hi u,.int 1 v]}).objs.size:=by simpa using O
  subst e;exact F.HY (nQ _) (F.Aj.fresh (nQ _))
def j7(ta:TA):TI:=λσ H R=>ta σ H λvs H1=>∃j:Int,vs=[.int j]/\-(2 ^ 62)<=j/\j<2 ^ 62/\R (GC 0 j.toNat) H1
def jc(ta:TA):TI:=λσ H R=>ta σ H λvs H1=>∃i j:Int,vs=[.int i,.int j]/\(-(2 ^ 62)<=i/\i<2 ^ 62/\-(2 ^ 62)<=j/\j<2 ^ 62)/\R (GC i (j-i).toNat) H1
def Io{a:Expr}{ta:TA}{p pos:Pos}(hg:Gl X "range")(hm:X.mg "range" = none)(ha:PA X [a] ta)(hs:oZ [a] X.env=[(false,eval a X.env)]:=by rfl):PI X tg (.Call (.Name "range" p) [a] [] pos) (j7 ta):=by
 intro gt s σ H R I h;refine Call_ (EK I hg hm yF (pQ (Ac (ha pos gt s σ H _ I h) λus s1 ⟨vs,H1,I1,r1,F⟩=>?_) hs rfl));obtain⟨j,e,F,O,q⟩:=F;subst e;cases r1 with
 |cons r rr =>
  cases rr;obtain⟨t,rfl⟩:=r;exact call_range_1 (Sk I1 (by lia) (by lia) F O (by simpa using q))
def MU{a b:Expr}{ta:TA}{p pos:Pos}(hg:Gl X "range")(hm:X.mg "range" = none)(ha:PA X [a,b] ta)(hs:oZ [a,b] X.env=[(false,eval a X.env),(false,eval b X.env)]:=by rfl)(O:oZ [b] X.env=[(false,eval b X.env)]:=by rfl):
  PI X tg (.Call (.Name "range" p) [a,b] [] pos) (jc ta):=by
 intro gt s σ H R I h;refine Call_ (EK I hg hm yF (pQ (Ac (ha pos gt s σ H _ I h) λus s1 ⟨vs,H1,I1,r1,F⟩=>?_) (by rw[hs,O]) (by rw[O];rfl)));obtain⟨i,j,e,⟨F,q2,q3,q4⟩,q⟩:=F;subst e;cases r1 with
 |cons r rr =>
  cases rr with
  |cons r' rr =>
   cases rr;obtain⟨t,rfl⟩:=r;obtain⟨t',rfl⟩:=r';exact call_range_2 (Sk I1 F q2 q3 q4 q)
def QZ(wi:TI)(g:TG)(tb:TS):TS:=λD σ H=>wi σ H λJ H1=>∃W:Nat->Nat->St->Hp->Prop,(∃m,W 0 m σ H1)/\∀i m σ H,W i m σ H →
 (J.Dm i H/\D.nx σ H)\/(J.go i H/\∃N:St->Hp->Prop,(∀F H',N F H'->∃O,O<m/\W (i+1) O F H')/\∀x H',J.Dp i H x H'->g x σ H' λσ2 H2=>tb { D with nx:=N,ct:=N,bk:=D.nx} σ2 H2)
def LU(fp:List Addr)(h:Heap):List (Addr×Obj):=fp.filterMap λb=>(h.get? b).map λo=>(b,o)
def MO(F:b∈fp)(e:h.get? b=some o):(b,o)∈LU fp h:=xV.mpr ⟨b,F,by rw[e];rfl⟩
def Y7(hp:p∈LU fp h):p.1∈fp/\h.get? p.1=some p.2:=by
 obtain⟨b,O,e⟩:=xV.mp hp;cases q:h.get? b with
 |none=>rw[q]at e;cases e
 |some o =>
  rw[q]at e;have F:(b,o)=p:=oy e;subst F;exact⟨O,q⟩
def AK.VB(I:AK X gt σ H s)(hf:∀b∈fp,Fq X gt H b)(ho:∀b∈fp,∃o,s.heap.get? b=some o/\∀v,o.data≠.cell v):AK X (gt++LU fp s.heap) σ H s :=
 I.T9 λp hp=>(om.mp hp).elim (λz=>I.DY p (pC _ z)) λz=>by
  obtain⟨O,e⟩:=Y7 z;obtain⟨f0,f1,f2,_⟩:=hf p.1 O;obtain⟨o,F,d⟩:=ho p.1 O;rw[e]at F;cases F;exact⟨e,f0,f1,f2,d⟩
def AK.K3(I:AK X (gt++pl) σ H s):AK X gt σ H s:=I.T9 λp F=>I.DY p (pC _ (qU _ F))
def Bg {iter:Expr}{ad:List Stmt}{wi:TI}{g:TG}{tb:TS}{pos:Pos}(hp:ph (model X.prog X.w) X.A X.env X.xe)(hc:X.Cd=true)(hi:PI X tg iter wi)(hg:PG X tg g)(O:Cy X ad tb)
  (hs:∀x,t7 iter X.env x=pure x:=by intro _;rfl):PS X (.For tg iter ad [] pos) (QZ wi g tb):=by
 intro gt s σ H D I h;refine wpAny_For (Ac (hi gt s σ H _ I h) λv s1 h1=>Ac h1 λal s2 h2=>?_) hs;obtain⟨it,fp,tn,J,H2,e,I2,T,ak,f2,W,⟨m0,w0⟩,aj⟩:=h2;subst e;have aa:∀{H':Hp},(∀b∈fp,H' b=none)->∀b∈fp,Fq X gt H' b:=λhn b O=>⟨hn b O,(f2 b O).2⟩
 refine codeAny_forLoop_any (λn s'=>∃i σ' H',AK X gt σ' H' s'/\tn i s'.heap/\(∀b∈fp,H' b=none)/\W i n σ' H') ?_ m0 ⟨0,σ,H2,I2,ak,λb O=>(f2 b O).1,w0⟩;rintro n s3 ⟨i,σ3,H3,I3,ae,af,w3⟩;rcases aj i n σ3 H3 w3 with ⟨ag,qn⟩|⟨go,N,hN,step⟩
 ·refine tX hp (Ac (T.done X rfl rfl rfl hc i gt s3 σ3 H3 X.xe I3 (aa af) ae ag) λr s4 ⟨hr,I4⟩=>?_);subst hr;exact xt ⟨σ3,H3,I4,qn⟩
 ·refine tX hp (Ac (T.item X rfl rfl rfl hc i gt s3 σ3 H3 X.xe I3 (aa af) ae go) λr s4 ⟨u,hr,h4⟩=>?_);subst hr;refine tX hp (Ac h4 λ_ s5 ⟨x,H5,I5,r5,y5,ab,ai⟩=>?_);have ah:=I5.VB (aa ai) (T.Ci _ _ ab);refine tX hp (Ac (hg _ s5 σ3 H5 x u _ ah r5 (step x H5 y5)) λ_ s6 ⟨σ6,H6,I6,q6⟩=>?_);refine tX hp (Ac (O _ s6 σ6 H6 _ I6 q6) λf s7 q7=>?_);have ac:∀{F:St} {H7:Hp},AK X (gt++LU fp s5.heap) F H7 s7->N F H7->∃m,m<n/\∃i σ' H',AK X gt σ' H' s7/\tn i s7.heap/\(∀b∈fp,H' b=none)/\W i m σ' H':=λ{F H7} I7 n7=>by
   obtain⟨m',hm,w7⟩:=hN F H7 n7;refine⟨m',hm,i+1,F,H7,I7.K3,T.keep _ _ _ ab λb O o e=>(I7.DY (b,o) (pC _ (pC _ (MO O e)))).1,λb O=>?_,w7⟩;obtain⟨o,e,d⟩:=T.Ci _ _ ab b O;exact(I7.DY (b,o) (pC _ (pC _ (MO O e)))).2.1
  cases f with
  |next=>obtain⟨F,H7,I7,n7⟩:=q7;exact ac I7 n7
  |cont=>obtain⟨F,H7,I7,n7⟩:=q7;exact ac I7 n7
  |brk=>obtain⟨F,H7,I7,q7⟩:=q7;exact⟨F,H7,I7.K3,q7⟩
  |ret v=>obtain⟨x7,F,H7,I7,r7,q7⟩:=q7;exact⟨x7,F,H7,I7.K3,r7,q7⟩
end
def Ow {K:nT}{a:Addr}{xs:List V}{g:TG}{tb:TS}{D:DV}{σ:St}{H:Hp}(F:Nat->St->Hp->Prop)(h0:F 0 σ H)(hl:∀i σ H,i<=xs.length->F i σ H->AI K H a xs)
  (hs:∀i x σ H,xs[i]?=some x->F i σ H->g x σ H λσ2 H2=>tb { D with nx:=F (i+1),ct:=F (i+1),bk:=D.nx} σ2 H2)(hd:∀σ H,F xs.length σ H->D.nx σ H) :
  ∃W:Nat->Nat->St->Hp->Prop,(∃m,W 0 m σ H)/\∀i m σ H,W i m σ H →
   ((Hm K a).Dm i H/\D.nx σ H)\/((Hm K a).go i H/\∃N:St->Hp->Prop,(∀O H',N O H'->∃m',m' < m/\W (i+1) m' O H')/\∀x H',(Hm K a).Dp i H x H'->g x σ H' λσ2 H2=>tb { D with nx:=N,ct:=N,bk:=D.nx} σ2 H2):=by
 refine⟨λi m σ H=>m=xs.length-i/\i<=xs.length/\F i σ H,⟨xs.length,by simp,pD _,h0⟩,?_⟩;rintro i m σ H ⟨rfl,hi,p⟩;have q:=hl i σ H hi p;by_cases aa:i<xs.length
 ·refine .inr ⟨⟨xs,xs[i],q,by simp[aa]⟩,F (i+1),λO H' p'=>⟨xs.length-(i+1),by lia,J,aa,p'⟩,λx H' y=>?_⟩;obtain⟨e,y⟩:=y;subst e;exact hs i x σ _ (y xs q) p
 ·have e:i=xs.length:=by lia
  subst e;exact .inl ⟨⟨xs,q,nQ _⟩,hd σ H p⟩
def ID {K:nT}{a:Addr}{xs:List V}{g:TG}{tb:TS}{D:DV}{σ:St}{H:Hp}(F:Nat->St->Hp->Prop)(h0:F 0 σ H)(hl:∀i σ H,i<=xs.length->F i σ H->AH K H a xs)
  (hs:∀i x σ H,xs[i]?=some x->F i σ H->g x σ H λσ2 H2=>tb { D with nx:=F (i+1),ct:=F (i+1),bk:=D.nx} σ2 H2)(hd:∀σ H,F xs.length σ H->D.nx σ H) :
  ∃W:Nat->Nat->St->Hp->Prop,(∃m,W 0 m σ H)/\∀i m σ H,W i m σ H →
   ((Hj K a).Dm i H/\D.nx σ H)\/((Hj K a).go i H/\∃N:St->Hp->Prop,(∀O H',N O H'->∃m',m' < m/\W (i+1) m' O H')/\∀x H',(Hj K a).Dp i H x H'->g x σ H' λσ2 H2=>tb { D with nx:=N,ct:=N,bk:=D.nx} σ2 H2):=by
 refine⟨λi m σ H=>m=xs.length-i/\i<=xs.length/\F i σ H,⟨xs.length,by simp,pD _,h0⟩,?_⟩;rintro i m σ H ⟨rfl,hi,p⟩;have q:=hl i σ H hi p;by_cases aa:i<xs.length
 ·refine .inr ⟨⟨xs,xs[i],q,by simp[aa]⟩,F (i+1),λO H' p'=>⟨xs.length-(i+1),by omega,J,aa,p'⟩,λx H' y=>?_⟩;obtain⟨e,y⟩:=y;subst e;exact hs i x σ _ (y xs q) p
 ·have e:i=xs.length:=by omega
  subst e;exact .inl ⟨⟨xs,q,nQ _⟩,hd σ H p⟩
def Gr {lo:Int}{n:Nat}{g:TG}{tb:TS}{D:DV}{σ:St}{H:Hp}(F:Nat->St->Hp->Prop)(h0:F 0 σ H)
  (hs:∀i σ H,i<n->F i σ H->g (.int (lo+i)) σ H λσ2 H2=>tb { D with nx:=F (i+1),ct:=F (i+1),bk:=D.nx} σ2 H2)(hd:∀σ H,F n σ H->D.nx σ H) :
  ∃W:Nat->Nat->St->Hp->Prop,(∃m,W 0 m σ H)/\∀i m σ H,W i m σ H →
   ((GC lo n).Dm i H/\D.nx σ H)\/((GC lo n).go i H/\∃N:St->Hp->Prop,(∀σ' H',N σ' H'->∃m',m' < m/\W (i+1) m' σ' H')/\∀x H',(GC lo n).Dp i H x H'->g x σ H' λσ2 H2=>tb { D with nx:=N,ct:=N,bk:=D.nx} σ2 H2):=by
 refine⟨λi m σ H=>m=n-i/\i<=n/\F i σ H,⟨n,by simp,pD _,h0⟩,?_⟩;rintro i m σ H ⟨rfl,hi,p⟩;by_cases O:i<n
 ·refine .inr ⟨O,F (i+1),λσ' H' p'=>⟨n-(i+1),by lia,J,O,p'⟩,λx H' y=>?_⟩;obtain⟨e,y⟩:=y;subst e y;exact hs i σ _ O p
 ·have e:i=n:=by lia
  subst e;exact .inl ⟨nQ _,hd σ H p⟩
def Hu {c:TT}{tb:TS}{D:DV}{σ:St}{H:Hp}(O:St->Hp->Prop)(μ:St->Hp->Nat)(h0:O σ H)
  (hs:∀σ H,O σ H->c σ H λb H1=>if b=true then tb { D with nx:=λF H'=>O F H'/\μ F H' < μ σ H,ct:=λF H'=>O F H'/\μ F H' < μ σ H,bk:=D.nx} σ H1 else D.nx σ H1)
  (aa:∀σ H Q Q',(∀b H1,Q b H1->Q' b H1)->c σ H Q->c σ H Q'):Py c tb D σ H:=by
 refine⟨λm σ H=>m=μ σ H/\O σ H,⟨_,J,h0⟩,?_⟩;rintro m σ H ⟨rfl,p⟩;refine aa σ H _ _ (λb H1 q=>?_) (hs σ H p);cases b with
 |true=>exact⟨_,λF H' ⟨p',l⟩=>⟨_,l,J,p'⟩,q⟩
 |false=>exact q
abbrev R2:=V->V->Hp->VK->Prop
def Bf(X:Cx)(f:Value->Value->Sem Value)(r:R2):Prop :=
 ∀(gt:List (Addr×Obj)) (s:nU) (σ:St) (H:Hp) (x y:V) (v u:Value) (Q:VK),AK X gt σ H s->Av x v->Av y u->r x y H Q →
  wpAny (model X.prog X.w) X.A (f v u) (EP X gt σ Q) X.xe s
def Q7(X:Cx)(f:Value->Sem Value)(r:V->Hp->VK->Prop):Prop :=
 ∀(gt:List (Addr×Obj)) (s:nU) (σ:St) (H:Hp) (x:V) (v:Value) (Q:VK),AK X gt σ H s->Av x v->r x H Q →
  wpAny (model X.prog X.w) X.A (f v) (EP X gt σ Q) X.xe s
def CQ(X:Cx)(f:Value)(r:List V->Hp->VK->Prop):Prop :=
 ∀(gt:List (Addr×Obj)) (s:nU) (σ:St) (H:Hp) (xs:List V) (us:List Value) (Q:VK),AK X gt σ H s->Af xs us->r xs H Q →
  wpAny (model X.prog X.w) X.A (call f us) (EP X gt σ Q) X.xe s
def Bb(r:R2)(ta tb:TE):TE:=λσ H Q=>ta σ H λx H1=>tb σ H1 λy H2=>r x y H2 Q
def Wx(r:V->Hp->VK->Prop)(ta:TE):TE:=λσ H Q=>ta σ H λx H1=>r x H1 Q
inductive IR(C:Int->Int->Prop)(g:Int->Int->V)(x y:V)(H:Hp)(Q:VK):Prop
 |mk (i j:Int) (a:x=.int i) (b:y=.int j) (c:C i j) (q:Q (g i j) H):IR C g x y H Q
def rI(C:Int->Int->Prop)(g:Int->Int->V):R2:=λx y H Q=>IR C g x y H Q
inductive W4(g:Int->Int->V)(x y:V)(H:Hp)(Q:VK):Prop
 |mk (i j:Int) (a:x=.int i) (b:y=.int j) (q:Q (g i j) H):W4 g x y H Q
def FR(g:Int->Int->V):R2:=λx y H Q=>W4 g x y H Q
def rU(g:Int->V):V->Hp->VK->Prop:=λx H Q=>∃i,x=.int i/\Q (g i) H
section
variable {X:Cx}{a b c:Expr}{ta tb tc:TE}{pos:Pos}
def Qz (ha:PE X a ta)(hb:PE X b tb){R:V->V->Hp->Prop}(I:AK X gt σ H s)
  (h:ta σ H λx H1=>tb σ H1 λy H2=>R x y H2){f:Value->Value->Sem Value}
  (hf:∀v u F x y H2,AK X gt σ H2 F->Av x v->Av y u->R x y H2->wpAny (model X.prog X.w) X.A (f v u) Q X.xe F) :
  wpAny (model X.prog X.w) X.A (eval a X.env) (λv s₁=>wpAny (model X.prog X.w) X.A (eval b X.env) (λu s₂=>wpAny (model X.prog X.w) X.A (f v u) Q X.xe s₂) X.xe s₁) X.xe s:=by
 refine Ac (ha gt s σ H _ I h) λv s1 ⟨x,H1,I1,r1,q1⟩=>?_
 refine Ac (hb gt s1 σ H1 _ I1 q1) λu F ⟨y,H2,I2,r2,O⟩=>?_
 exact hf v u F x y H2 I2 r1 r2 O
def AM(ho:Bf X (tE op) r)(ha:PE X a ta)(O:PE X b tb):PE X (.BinOp a op b pos) (Bb r ta tb):=by
 intro gt s σ H Q I h;exact wpAny_BinOp (Qz ha O I h λv u s2 x y H2 I2 F ry q=>ho gt s2 σ H2 x y v u Q I2 F ry q)
def HP(ho:Q7 X (unaryOp op) r)(F:PE X a ta):PE X (.UnaryOp op a pos) (Wx r ta):=by
 intro gt s σ H Q I h;exact UnaryOp_ (Ac (F gt s σ H _ I h) λv s1 ⟨x,H1,O,r1,q1⟩=>ho gt s1 σ H1 x v Q O r1 q1)
def Ji {f:Value->Value->Sem Value}{C:Int->Int->Prop}{g:Int->Int->Int}
  (aa:∀(i j:Int) (t u:Tok) (s:nU) (Q:Value->nU->Prop) (E:Value->nU->Prop),C i j->Q (.int (g i j) s.toks) { s with toks:=s.toks+1}->wpAny (model X.prog X.w) X.A (f (.int i t) (.int j u)) Q E s) :
  Bf X f (rI C λi j=>.int (g i j)):=by
 intro gt s σ H x y v u Q I F ry h;obtain⟨i,j,rfl,rfl,O,q⟩:=h;obtain⟨t,rfl⟩:=F;obtain⟨t',rfl⟩:=ry;exact aa i j t t' s _ _ O ⟨.int (g i j),H,I.De _,⟨_,J⟩,q⟩
def Qj {f:Value->Value->Sem Value}{g:Int->Int->Int}
  (O:∀(i j:Int) (t u:Tok) (s:nU) (Q:Value->nU->Prop) (E:Value->nU->Prop),Q (.int (g i j) s.toks) { s with toks:=s.toks+1}->wpAny (model X.prog X.w) X.A (f (.int i t) (.int j u)) Q E s) :
  Bf X f (FR λi j=>.int (g i j)):=by
 intro gt s σ H x y v u Q I F ry h;obtain⟨i,j,rfl,rfl,q⟩:=h;obtain⟨t,rfl⟩:=F;obtain⟨t',rfl⟩:=ry;exact O i j t t' s _ _ ⟨.int (g i j),H,I.De _,⟨_,J⟩,q⟩
def Qk {g:Int->Int->Bool}
  (O:∀(i j:Int) (t u:Tok) (s:nU) (Q:Value->nU->Prop) (E:Value->nU->Prop),Q (.bool (g i j)) s->wpAny (model X.prog X.w) X.A (f (.int i t) (.int j u)) Q E s) :
  Bf X f (FR λi j=>.bl (g i j)):=by
 intro gt s σ H x y v u Q I F ry h;obtain⟨i,j,rfl,rfl,q⟩:=h;obtain⟨t,rfl⟩:=F;obtain⟨t',rfl⟩:=ry;exact O i j t t' s _ _ ⟨.bl (g i j),H,I,J,q⟩
def Qg(i j:Int):Prop:=0<j/\j<1073741824
def lS(i j:Int):Prop:=0<=j/\j<=1000000/\i.natAbs<2 ^ 64
def Lu(i j:Int):Prop:=(-(2 ^ 64)<i/\i<2 ^ 64)\/(-(2 ^ 64)<j/\j<2 ^ 64)
def Lu.ok(h:Lu i j):IntMulOk i j:=by
 rcases h with ⟨h1,h2⟩|⟨h1,h2⟩
 ·exact .of_left (intBits_le_64 h1 h2)
 ·exact .of_right (intBits_le_64 h1 h2)
def BK:Bf X (tE .Add) (FR λi j=>.int (i+j)):=Qj λ_ _ _ _ _ _ _ q=>add_int q
def C7:Bf X (tE .Sub) (FR λi j=>.int (i-j)):=Qj λ_ _ _ _ _ _ _ q=>sub_int q
def CW:Bf X (tE .Mult) (rI Lu λi j=>.int (i*j)):=Ji λ_ _ _ _ _ _ _ F q=>mul_int q F.ok
def Eh:Bf X (tE .FloorDiv) (rI Qg λi j=>.int (i / j)):=Ji λi j _ _ _ _ _ F q=>by
 have h1:(0:Int)<j:=F.1;have h2:j<1073741824:=F.2;exact floordiv_int (by omega) (by rw[Int.fdiv_eq_ediv_of_nonneg i (by omega)];exact q) (.inl (zu (by omega)))
def B9:Bf X (tE .Mod) (rI (λ_ j=>0<j) λi j=>.int (i%j)):=Ji λi j _ _ _ _ _ F q=>by
 have h1:(0:Int)<j:=F;exact mod_int' (by lia) (by rw[yc i (by lia)];exact q)
def cN:Bf X (tE .Mod) (rI (λ_ j=>j≠0) λi j=>.int (i.fmod j)):=Ji λ_ _ _ _ _ _ _ F q=>mod_int' F q
def VG:Bf X (tE .Pow) (rI lS λi j=>.int (i ^ j.toNat)):=Ji λ_ _ _ _ _ _ _ F q=>pow_int_small F.1 F.2.1 F.2.2 q
def NN:Bf X (tE .BitXor) (FR λi j=>.int (vS i j)):=Qj λ_ _ _ _ _ _ _ q=>xor_int q
def mj {f:Value->Sem Value}{g:Int->Int}
  (O:∀(i:Int) (t:Tok) (s:nU) (Q:Value->nU->Prop) (E:Value->nU->Prop),Q (.int (g i) s.toks) { s with toks:=s.toks+1}->wpAny (model X.prog X.w) X.A (f (.int i t)) Q E s) :
  Q7 X f (rU λi=>.int (g i)):=by
 intro gt s σ H x v Q I F h;obtain⟨i,rfl,q⟩:=h;obtain⟨t,rfl⟩:=F;exact O i t s _ _ ⟨.int (g i),H,I.De _,⟨_,J⟩,q⟩
def G0:Q7 X (unaryOp .USub) (rU λi=>.int (-i)):=mj λ_ _ _ _ _ q=>neg_int q
end
def WR:V->V->Bool
 |.A5,.A5=>true | .A5,.int _=>true | .int _,.A5=>true | .A5,.bl _=>true | .bl _,.A5=>true | .A5,.str _=>true | .str _,.A5=>true
 |.int _,.int _=>true | .bl _,.bl _=>true | .str _,.str _=>true | .FU _,.FU _=>true
 |.int _,.str _=>true | .str _,.int _=>true | .bl _,.str _=>true | .str _,.bl _=>true
 |_,_=>false
inductive W8(x y:V)(H:Hp)(Q:VK):Prop
 |mk (c:WR x y=true) (q:Q (.bl (decide (x=y))) H):W8 x y H Q
inductive W5(x y:V)(H:Hp)(Q:VK):Prop
 |mk (c:WR x y=true) (q:Q (.bl (!decide (x=y))) H):W5 x y H Q
def nH:R2:=λx y H Q=>W8 x y H Q
def mT:R2:=λx y H Q=>W5 x y H Q
def Ti:decide (V.int i=V.int j)=(i == j):=by
 rw[tU];simp
def Uk:decide (V.bl i=V.bl j)=(i == j):=by
 rw[tU];simp
def TV:decide (V.str i=V.str j)=(i == j):=by
 rw[tU];simp
def Te:decide (V.FU i=V.FU j)=(i.toList == j.toList):=by
 rw[tU];cases i;cases j;simp
section
variable {X:Cx}{a b c:Expr}{ta tb tc:TE}{pos:Pos}
def B5(I:AK X gt σ H s)(q:Q (.bl k) H)(e:k=k'):EP X gt σ Q (.bool k') s:=by
 subst e;exact⟨.bl k,H,I,J,q⟩
def DX:Bf X (rH .Eq) nH:=by
 intro gt s σ H x y v u Q I O F h;obtain⟨hs,q⟩:=h;cases x with
 |A5 =>
  cases O;cases y with
  |A5=>cases F;exact PySem.EqNone.eq_none_none (B5 I q (by simp))
  |bl j=>cases F;exact PySem.EqNone.eq_none_bool (B5 I q (by simp))
  |int j=>obtain⟨t',rfl⟩:=F;exact PySem.EqNone.eq_none_int (B5 I q (by simp))
  |str j=>obtain⟨t',rfl⟩:=F;exact PySem.EqNone.eq_none_str (B5 I q (by simp))
  |_=>exact absurd (show false=true from hs) oV
 |bl i =>
  cases O;cases y with
  |A5=>cases F;exact PySem.EqNone.eq_bool_none (B5 I q (by simp))
  |bl j=>cases F;exact eq_bool (B5 I q Uk)
  |str j=>obtain⟨t',rfl⟩:=F;exact PySem.EqMixed.eq_bool_str (B5 I q (by simp))
  |_=>exact absurd (show false=true from hs) oV
 |int i =>
  obtain⟨t,rfl⟩:=O;cases y with
  |A5=>cases F;exact PySem.EqNone.eq_int_none (B5 I q (by simp))
  |int j=>obtain⟨t',rfl⟩:=F;exact eq_int (B5 I q Ti)
  |str j=>obtain⟨t',rfl⟩:=F;exact PySem.EqMixed.eq_int_str (B5 I q (by simp))
  |_=>exact absurd (show false=true from hs) oV
 |str i =>
  obtain⟨t,rfl⟩:=O;cases y with
  |A5=>cases F;exact PySem.EqNone.eq_str_none (B5 I q (by simp))
  |bl j=>cases F;exact PySem.EqMixed.eq_str_bool (B5 I q (by simp))
  |int j=>obtain⟨t',rfl⟩:=F;exact PySem.EqMixed.eq_str_int (B5 I q (by simp))
  |str j=>obtain⟨t',rfl⟩:=F;exact eq_str (B5 I q TV)
  |_=>exact absurd (show false=true from hs) oV
 |FU i =>
  obtain⟨t,rfl⟩:=O;cases y with
  |FU j=>obtain⟨t',rfl⟩:=F;exact PySem.W.eq_bytes (B5 I q Te)
  |_=>exact absurd (show false=true from hs) oV
 |_=>cases y<;>exact absurd (show false=true from hs) oV
def Fj:Bf X (rH .NotEq) mT:=by
 intro gt s σ H x y v u Q I O F h;obtain⟨hs,q⟩:=h;cases x with
 |A5 =>
  cases O;cases y with
  |A5=>cases F;exact PySem.EqNone.ne_none_none (B5 I q (by simp))
  |bl j=>cases F;exact PySem.EqNone.ne_none_bool (B5 I q (by simp))
  |int j=>obtain⟨t',rfl⟩:=F;exact PySem.EqNone.ne_none_int (B5 I q (by simp))
  |str j=>obtain⟨t',rfl⟩:=F;exact PySem.EqNone.ne_none_str (B5 I q (by simp))
  |_=>exact absurd (show false=true from hs) oV
 |bl i =>
  cases O;cases y with
  |A5=>cases F;exact PySem.EqNone.ne_bool_none (B5 I q (by simp))
  |bl j=>cases F;exact ne_bool (B5 I q (congrArg not Uk))
  |str j=>obtain⟨t',rfl⟩:=F;exact PySem.EqMixed.ne_bool_str (B5 I q (by simp))
  |_=>exact absurd (show false=true from hs) oV
 |int i =>
  obtain⟨t,rfl⟩:=O;cases y with
  |A5=>cases F;exact PySem.EqNone.ne_int_none (B5 I q (by simp))
  |int j=>obtain⟨t',rfl⟩:=F;exact ne_int (B5 I q (congrArg not Ti))
  |str j=>obtain⟨t',rfl⟩:=F;exact PySem.EqMixed.ne_int_str (B5 I q (by simp))
  |_=>exact absurd (show false=true from hs) oV
 |str i =>
  obtain⟨t,rfl⟩:=O;cases y with
  |A5=>cases F;exact PySem.EqNone.ne_str_none (B5 I q (by simp))
  |bl j=>cases F;exact PySem.EqMixed.ne_str_bool (B5 I q (by simp))
  |int j=>obtain⟨t',rfl⟩:=F;exact PySem.EqMixed.ne_str_int (B5 I q (by simp))
  |str j=>obtain⟨t',rfl⟩:=F;exact ne_str (B5 I q (congrArg not TV))
  |_=>exact absurd (show false=true from hs) oV
 |FU i =>
  obtain⟨t,rfl⟩:=O;cases y with
  |FU j=>obtain⟨t',rfl⟩:=F;exact PySem.W.ne_bytes (B5 I q (congrArg not Te))
  |_=>exact absurd (show false=true from hs) oV
 |_=>cases y<;>exact absurd (show false=true from hs) oV
def Fh:Bf X (rH .Lt) (FR λi j=>.bl (decide (i<j))):=Qk λ_ _ _ _ _ _ _ q=>lt_int q
def jt:Bf X (rH .LtE) (FR λi j=>.bl (decide (i<=j))):=Qk λ_ _ _ _ _ _ _ q=>le_int q
def HR:Bf X (rH .Gt) (FR λi j=>.bl (decide (j<i))):=Qk λ_ _ _ _ _ _ _ q=>gt_int q
def Uy:Bf X (rH .Is) (λx y H Q=>y=.A5/\Q (.bl (decide (x=.A5))) H):=by
 intro gt s σ H x y v u Q I F O h;obtain⟨rfl,q⟩:=h;cases O;refine is_none_gen (B5 I q ?_);cases x<;>first
  |(cases F;rfl)
  |(obtain⟨t,rfl⟩:=F;rfl)
def Bf.or(h:Bf X f r)(h':Bf X f r'):Bf X f (λx y H Q=>r x y H Q\/r' x y H Q):=by
 intro gt s σ H x y v u Q I F O q;rcases q with q|q
 ·exact h gt s σ H x y v u Q I F O q
 ·exact h' gt s σ H x y v u Q I F O q
def VH(b:Expr){op:CmpOp}(h:op≠.In:=by decide)(h2:op≠.NotIn:=by decide):uP op b=false:=by
 have O:(op == CmpOp.In)=false:=by cases op<;>first|rfl|exact absurd rfl h
 have F:(op == CmpOp.NotIn)=false:=by cases op<;>first|rfl|exact absurd rfl h2
 cases b<;>simp[uP,O,F]
def fP(ho:Bf X (rH op) r)(ha:PE X a ta)(O:PE X b tb)(hm:uP op b=false):PE X (.Compare a [op] [b] pos) (Bb r ta tb):=by
 intro gt s σ H Q I h;exact wpAny_Compare1 (Qz ha O I h λv u s2 x y H2 I2 F ry q=>ho gt s2 σ H2 x y v u Q I2 F ry q) hm
def V8(t:TE):TT:=λσ H Q=>t σ H λx H'=>RF x H' Q
def Tx(ho:Bf X (rH op) r)(ha:PE X a ta)(O:PE X b tb)(hm:uP op b=false):PT X (.Compare a [op] [b] pos) (V8 (Bb r ta tb)):=by
 intro gt s σ H Q I h;refine zS (Ac (ha gt s σ H _ I h) λv s1 ⟨x,H1,I1,r1,q1⟩=>Ac (O gt s1 σ H1 _ I1 q1) λu s2 ⟨y,H2,I2,r2,F⟩=>
  Ac (ho gt s2 σ H2 x y v u _ I2 r1 r2 F) λc s3 ⟨z,H3,I3,r3,k,e,q3⟩=>?_) hm
 subst e;cases r3;exact t9 ⟨H3,I3,q3⟩
def NC:(oK:Nat)<2 ^ 63:=by rw[sQ];decide
def El(r:Af [x] us):∃u,us=[u]/\Av x u:=by
 cases r with
 |cons r1 r2=>cases r2;exact⟨_,J,r1⟩
def Lb(r:Af [x,y] us):∃u F,us=[u,F]/\Av x u/\Av y F:=by
 cases r with
 |cons r1 r2 =>
  cases r2 with
  |cons r3 r4=>cases r4;exact⟨_,_,J,r1,r3⟩
def Mc:CQ X (.builtin "abs") (λxs H Q=>∃i,xs=[.int i]/\Q (.int (if i<0 then -i else i)) H):=by
 intro gt s σ H xs us Q I r h;obtain⟨i,rfl,q⟩:=h;obtain⟨u,rfl,t,rfl⟩:=El r;exact call_abs_int λu tk=>⟨.int (if i<0 then -i else i),H,I.De _,⟨_,J⟩,q⟩
def Oe(O:X.Cd=true):CQ X (.builtin "max") (λxs H Q=>∃i j,xs=[.int i,.int j]/\Q (.int (if j>i then j else i)) H):=by
 intro gt s σ H xs us Q I r h;obtain⟨i,j,rfl,q⟩:=h;obtain⟨u,w',rfl,⟨t,rfl⟩,⟨t',rfl⟩⟩:=Lb r;refine max_two_ints (I.ok.hd O) λh' tk k=>⟨_,H,I.CC k,?_,q⟩
 by_cases F:j>i
 ·rw[nX F,nX F];exact⟨_,J⟩
 ·rw[nS F,nS F];exact⟨_,J⟩
def MQ(O:X.Cd=true):CQ X (.builtin "min") (λxs H Q=>∃i j,xs=[.int i,.int j]/\Q (.int (if j<i then j else i)) H):=by
 intro gt s σ H xs us Q I r h;obtain⟨i,j,rfl,q⟩:=h;obtain⟨u,w',rfl,⟨t,rfl⟩,⟨t',rfl⟩⟩:=Lb r;refine min_two_ints (I.ok.hd O) λh' tk k=>⟨_,H,I.CC k,?_,q⟩
 by_cases F:j<i
 ·rw[nX F,nX F];exact⟨_,J⟩
 ·rw[nS F,nS F];exact⟨_,J⟩
def ZG:CQ X (.type "int") (λxs H Q=>(∃i,xs=[.int i]/\Q (.int i) H)\/∃k,xs=[.bl k]/\Q (.int (if k then 1 else 0)) H):=by
 intro gt s σ H xs us Q I r h;rcases h with ⟨i,rfl,q⟩|⟨k,rfl,q⟩
 ·obtain⟨u,rfl,t,rfl⟩:=El r;exact call_int_int ⟨.int i,H,I,⟨_,J⟩,q⟩
 ·obtain⟨u,rfl,F⟩:=El r;cases F;exact call_int_bool ⟨.int (if k then 1 else 0),H,I.De _,⟨_,J⟩,q⟩
end
structure Lv(h:Heap)(x dx C:Addr)(mA:Str->Option Value):Prop where
 Ci:h.get? x=some (tW C dx)
 ns:h.Ns1 dx mA
 ne:dx≠x
def Ys{h:Heap}(n:h.Ns1 dx mA):∃od,h.get? dx=some od/\∀name,zP name od=some (mA name):=by
 obtain⟨o,es,ep,ho,hd,O,_,hm⟩:=n;refine⟨o,ho,λname=>?_⟩;have e:=hm name;unfold nsFind findBy at e;rw[<-Array.find?_toList]at e;unfold zP;rw[hd];dsimp only;split
 ·rename_i y q
  rw[q]at e;exact congrArg some e
 ·rename_i q
  rw[q]at e;have a:es.toList.any (·.refKey)=false:=by
   rw[List.any_eq_false];intro y hy;obtain⟨z,t,aa⟩:=O y (Array.mem_toList_iff.mp hy);simp[DictEntry.refKey,aa]
  have F:¬es.toList.any (·.refKey)=true:=by rw[a];exact oV
  rw[nS F];exact congrArg some e
def Lv.GW(I:Lv h x dx C mA):∃od,abR h x (tW C dx) C (some od)/\∀name,zP name od=some (mA name) :=
 let ⟨od,ho,hl⟩:=Ys I.ns
 ⟨od,⟨I.Ci,J,J,ho⟩,hl⟩
section
variable {prog:o6}{w:World}{A:qf}{E:Value->nU->Prop}{s:nU}{K:nT}{x dx C f:Addr}{mA:Str->Option Value}{name:Str}{v:Value}
def Tg {ns:List Str}{Q:Unit->nU->Prop}(X:K.In s.heap)(I:Lv s.heap x dx C mA)
  (hs:xE K (.ref C) "__setattr__" = some (some (.builtin "object.__setattr__")))(hp:aa0 K C=true)(ht:PySem.W.takerIn K C name=some none)(hh:aaX K C=true)
  (hw:yU mA ns)(hsz:ns.length<=oK)
  (h:∀h',Lv h' x dx C (λy=>if y=name then some v else mA y)->p8 dx s.heap h'->Q () { s with heap:=h',toks:=s.toks+2}) :
  wpAny (model prog w) A (setAttr (.ref x) name v) Q E s:=by
 obtain⟨od,J,hl⟩:=I.GW;refine PySem.W.set_plain X J hs (PySem.W.osa_open (s:={ s with toks:=s.toks+1}) (r:=none) X J hp ht λb=>?_);obtain⟨cd,hc,ad⟩:=PySem.W.any_some hh;have hx:s.heap.get? x=some ⟨.ref C,some dx,.plain,#[]⟩:=I.Ci;refine nv (nZ (nv (nv (wpAny_loadPart hx (nv (PySem.W.Looks.here (s:={ s with toks:=s.toks+1}) (PySem.W.looks_clsIn X hc) ?_))))));rw[ad];refine nZ (a:=some dx) (nv (nZ (nv ?_)));refine wpAny_nsSet1 (s:={ s with toks:=s.toks+1}) I.ns λh' F O=>?_
 obtain⟨oD,ae,af,aa,ac,ab⟩:=F.count (yU.cons name v hw);refine nv (wpAny_lookBehind aa (by rw[ac];exact pastItsLine_dict (oC ab (by rw[oP];lia))) ?_);exact nZ (h _ ⟨(O.2 _ (qu I.ne)).trans I.Ci,F,I.ne⟩ O)
end
def Er.UP(r:Er (some v) o):∃u,o=some u/\Av v u:=by
 cases o with
 |none=>exact(show False from r).elim
 |some u=>exact⟨u,J,r⟩
section
variable {P:o6}{w:World}{H H':Hp}{h h':Heap}{a C dx:Addr}{fs fs':List (Str×V)}
def cS(aa:CA P w H h)(e:H a=some (.Ea C dx fs)):∃mA,Lv h a dx C mA/\(∀f,Er (fs.lookup f) (mA f))/\yU mA (fs.map (·.1))/\fs.length<=1000/\H dx=some (.EC a):=by
 obtain⟨d,z,O,F,mA,n,r,q⟩:=(show Bh P w H h a (.Ea C dx fs) from aa a _ e);exact⟨mA,⟨F,n,O⟩,r,q,z,d⟩
end
structure Q5(K:nT)(C:Addr):Prop where
 pg:abt K C Str.empty=true
 hd:aaX K C=true
 po:aa0 K C=true
 sa:xE K (.ref C) "__setattr__" = some (some (.builtin "object.__setattr__"))
def Q5.get{K:nT}(c:Q5 K C)(f:Str):abt K C f=true:=c.pg
section
variable {X:Cx}{gt:List (Addr×Obj)}{σ:St}{H:Hp}{s:nU}{a C dx:Addr}{fs:List (Str×V)}{f:Str}{v:V}{A:qf}{E:Value->nU->Prop}
def AK.made(I:AK X gt σ H s):AK X gt σ (AF (AF H s.heap.objs.size (.EC (s.heap.objs.size+1))) (s.heap.objs.size+1) (.Ea C s.heap.objs.size []))
  { s with heap:=(s.heap.push sJ).push (tW C s.heap.objs.size)}:=by
 have O:(s.heap.push sJ).get? s.heap.objs.size=some sJ:=oq s.heap rfl;have e2:((s.heap.push sJ).push (tW C s.heap.objs.size)).get? (s.heap.objs.size+1)=some (tW C s.heap.objs.size):=by
  have:=oq (s.heap.push sJ) (o:=tW C s.heap.objs.size) rfl
  rwa [qt]at this
 have e3:(s.heap.push sJ).Ns s.heap.objs.size (λ_=>none):=⟨sJ,#[],_,O,J,(λe he=>absurd he (by simp)),λ_=>rfl⟩;have I1:=I.laid (a:=s.heap.objs.size) (o:=.EC (s.heap.objs.size+1)) (h':=s.heap.push sJ) (t':=s.toks) (λb u q=>nP _ q) (nQ _) ⟨_,O⟩;refine I1.laid (a:=s.heap.objs.size+1) (o:=.Ea C s.heap.objs.size []) (t':=s.toks) (λb u q=>nP _ q) (Nat.le_of_eq (qt _ _)) ?_;have F:s.heap.objs.size≠s.heap.objs.size+1:=o8 (uE _);refine⟨by rw[Ad F,AU],pD _,F,e2,λ_=>none,(Heap.Ns1.of_empty e3).at λo q=>nP _ q,λ_=>tD,λy hy=>absurd rfl hy⟩
end
section
variable {X:Cx}{o e value:Expr}{f:Str}{pos pos' tpos:Pos}{ta tv:TE}
end
section
variable {X:Cx}{gt:List (Addr×Obj)}{σ:St}{H:Hp}{s:nU}{A:qf}{E:Value->nU->Prop}{Q:Value->nU->Prop}{c:Value}{b:Bool}
inductive DW(K:nT)(H:Hp):V->Value->Prop where
 |A5:DW K H .A5 (.type "NoneType")
 |bl (x:Bool):DW K H (.bl x) (.type "bool")
 |int (i:Int):DW K H (.int i) (.type "int")
 |str (x:Str):DW K H (.str x) (.type "str")
 |Jd (x:UInt64):DW K H (.Jd x) (.type "float")
 |AE {a:Addr} {xs:List V} (e:H a=some (.AE xs)):DW K H (.ref a) (.type "list")
 |Ed {a:Addr} {o:Obj} {xs:List V} (e:H a=some (.Ed o (.AE xs))):DW K H (.ref a) (.type "list")
 |AG {a:Addr} {xs:List V} (e:H a=some (.AG xs)):DW K H (.ref a) (.type "tuple")
 |dK {a:Addr} {ii:List (Aq×V)} (e:H a=some (.dK ii)):DW K H (.ref a) (.type "dict")
 |dT {a:Addr} {ii:List (List Aq×V)} (e:H a=some (.dT ii)):DW K H (.ref a) (.type "dict")
 | Ea {a C dx:Addr} {fs:List (Str×V)} (e:H a=some (.Ea C dx fs)) (cl:Q5 K C) (O:xE K (.ref C) "__class__" = some (some (.builtin "object.__class__")))
   (hn:PySem.W.specialIn K (.builtin "object.__class__") "__get__" = some (some (.builtin "getset_descriptor.__get__"))) (aa:PySem.W.takesIn K (.builtin "object.__class__")=some true)
   (F:PySem.W.mroIn K C (.type "object")=some true):DW K H (.ref a) (.ref C)
def YZ{x:V}{u t:Value}(I:AK X gt σ H s)(F:Av x u)(ty:DW X.K H x t)(e:vX X.K t c=some b)(h:∀tk,Q (.bool b) { s with toks:=tk}):
  wpAny (model X.prog X.w) A (call (.builtin "isinstance") [u,c]) Q E s:=by
 cases ty with
 |A5=>cases (show u=su from F);exact rE PySem.W.kitx_none I.Dn tD e (λz=>nomatch z) h
 |bl y=>cases (show u=uo y from F);exact rE PySem.W.kitx_bool I.Dn tD e (λz=>nomatch z) h
 |int i=>obtain⟨t,q⟩:=(show ∃t,u=xZ i t from F);cases q;exact rE PySem.W.kitx_int I.Dn tD e (λz=>nomatch z) h
 |str y=>obtain⟨t,q⟩:=(show ∃t,u=aaK y t from F);cases q;exact rE PySem.W.kitx_str I.Dn tD e (λz=>nomatch z) h
 |Jd y=>obtain⟨t,q⟩:=(show ∃t,u=Value.float y t from F);cases q;exact rE PySem.W.kitx_float I.Dn tD e (λz=>nomatch z) h
 |@AE a xs ea =>
  cases (show u=qW a from F);obtain⟨_,_,n,_,h1⟩:=(show Bh X.prog X.w H s.heap a (.AE xs) from I.Aj a _ ea);exact rE aaZ I.Dn ⟨_,h1,rfl⟩ e (λz=>nomatch z) h
 |@Ed a ob xs ea =>
  cases (show u=qW a from F);obtain⟨_,_,_,n,_,h1⟩:=(show Bh X.prog X.w H s.heap a (.Ed ob (.AE xs)) from I.Aj a _ ea);exact rE aaZ I.Dn ⟨_,h1,rfl⟩ e (λz=>nomatch z) h
 |@AG a xs ea =>
  cases (show u=qW a from F);obtain⟨_,_,_,p,_⟩:=(show Bh X.prog X.w H s.heap a (.AG xs) from I.Aj a _ ea);obtain⟨o,h1,h2,_⟩:=p;exact rE PySem.W.kitx_tuple I.Dn ⟨o,h1,h2⟩ e (λz=>nomatch z) h
 |@dK a ii ea =>
  cases (show u=qW a from F);obtain⟨_,_,vs,_,p⟩:=(show Bh X.prog X.w H s.heap a (.dK ii) from I.Aj a _ ea);obtain⟨o,es,ep,h1,h2,_⟩:=p;exact rE aaY I.Dn ⟨o,h1,h2.1⟩ e (λz=>nomatch z) h
 |@dT a ii ea =>
  cases (show u=qW a from F);obtain⟨_,_,xs,_,o,es,ep,h1,h2,_⟩:=(show Bh X.prog X.w H s.heap a (.dT ii) from I.Aj a _ ea);exact rE aaY I.Dn ⟨o,h1,h2.1⟩ e (λz=>nomatch z) h
 |@Ea a C dx fs ea cl ha hn htk hm =>
  cases (show u=qW a from F);obtain⟨mA,O,_⟩:=cS I.Aj ea;obtain⟨od,J,_⟩:=O.GW;exact rE (PySem.W.kitx_own (cl.get _) cl.hd ha hn htk hm) I.Dn J e (λz=>nomatch z) h
end
structure Room(k:Nat)(A:qf):Prop where
 hd:A.handled=none
 dp:A.depth+3*k+5<recursionLimit
 un:A.units+16*k+200<cLine
def Room.mono(r:Room k A)(h:j<=k):Room j A:=⟨r.hd,by have:=r.dp;lia,by have:=r.un;lia⟩
def Room.deeper(r:Room (k+1) A)(env:Env):Room k (A.deeper env) :=
 ⟨r.hd,by have:=r.dp;show A.depth+1+3*k+5<_;lia,by have:=r.un;show A.units+3+16*k+200<_;lia⟩
def Room.in1(r:Room (k+1) A):Room k A.in1 :=
 ⟨r.hd,by have:=r.dp;show A.depth+3*k+5<_;lia,by have:=r.un;show A.units+1+16*k+200<_;lia⟩
def Room.depth(r:Room k A):A.depth<recursionLimit:=by have:=r.dp;omega
def Room.units(r:Room k A):A.units+64<cLine:=by have:=r.un;lia
def CI:TA:=λ_ H Q=>Q [] H
def BO(ta:TE)(F:TA):TA:=λσ H Q=>ta σ H λx H1=>F σ H1 λxs H2=>Q (x :: xs) H2
section
variable {X:Cx}{e:Expr}{es:List Expr}{te:TE}{t:TA}{pos:Pos}
def AD:PA X [] CI:=λ_ _ _ _ H Q I h=>yk ⟨[],H,I,.nil,h⟩
def AA(O:PE X e te)(hr:PA X es t)(hs:oZ (e :: es) X.env=(false,eval e X.env) :: oZ es X.env:=by rfl):PA X (e :: es) (BO te t):=by
 intro pos gt s σ H Q I h;rw[hs];show wpAny _ _ (spliced ((false,eval e X.env) :: tR pos (oZ es X.env))) _ _ s;refine xP (Ac (O gt s σ H _ I h) λu s1 ⟨x,H1,I1,r1,q1⟩=>?_);exact Ac (hr pos gt s1 σ H1 _ I1 q1) λus s2 ⟨xs,H2,I2,r2,F⟩=>⟨x :: xs,H2,I2,.cons r1 r2,F⟩
inductive WE(xs:List V)(H:Hp)(Q:VK):Prop
 |mk (n:xs.length<=oK) (q:∀p,H p=none->Q (.ref p) (AF H p (.AG xs))):WE xs H Q
inductive Vh(xs:List V)(H:Hp)(Q:VK):Prop
 |mk (n:xs.length<=oK) (q:∀p,H p=none->Q (.ref p) (AF H p (.AE xs))):Vh xs H Q
def Lw(t:TA):TE:=λσ H Q=>t σ H λxs H1=>WE xs H1 Q
def WU(t:TA):TE:=λσ H Q=>t σ H λxs H1=>Vh xs H1 Q
def BS{x1}(h:PA X es t):PE X (.Tuple es x1 pos) (Lw t):=by
 intro gt s σ H Q I hq;refine wpAny_Tuple_spliced (Ac (h pos gt s σ H _ I hq) λus F ⟨xs,H1,O,r,z,q⟩=>⟨by rw[<-r.length];exact z,?_⟩);have hf:H1 F.heap.objs.size=none:=O.Aj.fresh (nQ _);refine⟨.ref F.heap.objs.size,AF H1 F.heap.objs.size (.AG xs),O.laid (t':=F.toks) (λb u e=>nP _ e) (nQ _) ?_,J,q _ hf⟩;exact⟨z,us,r,⟨_,oq _ rfl,J,_,J⟩,_,oq _ rfl,J⟩
def CG(h:PA X es t):PE X (.List es pos) (WU t):=by
 intro gt s σ H Q I hq;refine wpAny_List_spliced (Ac (h pos gt s σ H _ I hq) λus F ⟨xs,H1,O,r,z,q⟩=>⟨by rw[<-r.length];exact z,?_⟩);have hf:H1 F.heap.objs.size=none:=O.Aj.fresh (nQ _);refine⟨.ref F.heap.objs.size,AF H1 F.heap.objs.size (.AE xs),O.laid (t':=F.toks) (λb u e=>nP _ e) (nQ _) ?_,J,q _ hf⟩;exact⟨z,us,0,r,oq _ rfl⟩
end
abbrev Sp:=List V->Hp->VK->XK->Prop
abbrev Gk:=List Env->Hp->nU->XK->Value->nU->Prop
structure JV(P:o6)(w:World)(K:nT)(mg:Str->Option Value)(base:Heap)(A:qf)(outer:List Env)(s:nU)(H:Hp):Prop where
 frames:A.frames=some outer
 Dd:Mod K mg base
 bs:∀b o,base.get? b=some o->s.heap.get? b=some o/\H b=none
 Gj:base.objs.size<=s.heap.objs.size
 FK:s.heap.FunFrames base outer
 Jb:∀b∈GD outer,H b=none
 Aj:CA P w H s.heap
 DT:wF s.gens
def CE(outer:List Env)(P:o6)(w:World)(H:Hp)(s:nU)(Q:VK)(u:Value)(s':nU):Prop :=
 ∃v H',s'.os=s.os/\wF s'.gens/\Un (GD outer) [] H H' s.heap s'.heap/\CA P w H' s'.heap/\Av v u/\Q v H'
def CR(CX:Gk)(outer:List Env)(P:o6)(w:World)(H:Hp)(s:nU)(Q:VK)(E:XK)(r:Result)(s':nU):Prop :=
 match r with
 |.ok (.ret u)=>CE outer P w H s Q u s'
 |.ok _=>False
 |.error e=>CX outer H s E e s'
structure Ag(P:o6)(w:World)(K:nT)(mg:Str->Option Value)(base:Heap)(CX:Gk)(k:Nat)(f:Addr)(fd:qy)(ps:List Str)(sp:Sp):Prop where
 len:∀vs H Q E,sp vs H Q E->vs.length=ps.length
 N7:∀(A:qf) (outer:List Env) (s:nU) (H:Hp) (args:Args) (us:List Value) (vs:List V) (Q:VK) (E:XK),Room k A->JV P w K mg base A outer s H->zG s fd args (ps.zip us)->Af vs us->sp vs H Q E →
  vZ (model P w) A (.call (.ref f) args) (CR CX outer P w H s Q E) s
def Ag.mono{K:nT}(F:Ag P w K mg base CX j f fd ps sp)(h:j<=k):
  Ag P w K mg base CX k f fd ps sp:=⟨F.len,λA outer s H args us vs Q E O=>F.N7 A outer s H args us vs Q E (O.mono h)⟩
def Ag.imp {K:nT}(F:Ag P w K mg base CX k f fd ps sp)
  (h:∀vs H Q E,sp' vs H Q E->sp vs H Q E):Ag P w K mg base CX k f fd ps sp' :=
 ⟨λvs H Q E q=>F.len vs H Q E (h _ _ _ _ q),λA outer s H args us vs Q E hr he hb O hs=>F.N7 A outer s H args us vs Q E hr he hb O (h _ _ _ _ hs)⟩
def JV.in1{K:nT}(e:JV P w K mg base A outer s H):
  JV P w K mg base A.in1 outer s H:=⟨e.frames,e.Dd,e.bs,e.Gj,e.FK,e.Jb,e.Aj,e.DT⟩
section
variable {X:Cx}{gt:List (Addr×Obj)}{σ:St}{H:Hp}{s s':nU}
def AK.ko(I:AK X gt σ H s):JV X.prog X.w X.K X.mg X.base X.A X.stack s H :=
 ⟨I.ok.frames,I.ok.Dd,I.bs,oC I.ok.Gj I.sz,I.stack,I.T4,I.Aj,I.DT⟩
def AK.after(I:AK X gt σ H s)(h:CE X.stack X.prog X.w H s Q u s'):EP X gt σ Q u s':=by
 obtain⟨v,H',os,aa,O,ab,r,q⟩:=h;obtain⟨hh,g,d,t,F⟩:=s';obtain rfl:F=s.os:=os;exact⟨v,H',I.call (h':=hh) (g':=g) (d':=d) (t':=t) (ch:=[]) O ab aa (λb z=>absurd z (by simp)),r,q⟩
end
def Dt(sp:Sp)(dvs:List V)(E:XK)(t:TA):TE:=λσ H Q=>t σ H λvs H1=>sp (vs++dvs) H1 Q E
def Ej(K:nT)(fd:qy)(ps:List Str)(ds:List Value):Prop :=
 ∀(s:nU) (us:List Value),K.In s.heap->(us++ds).length=ps.length->zG s fd ⟨us,[]⟩ (ps.zip (us++ds))
def Ej.all{K:nT}(h:∀us:List Value,us.length=ps.length->y6 fd ⟨us,[]⟩=pure (ps.zip us)):Ej K fd ps []:=λs us _ F=>by
 rw[qE]at F ⊢;exact .of_eq (h us F)
def P1(CX:Gk)(X:Cx)(E:XK):Prop:=∀(gt:List (Addr×Obj)) (σ:St) (H:Hp) (s:nU) (e:Value) (s':nU),AK X gt σ H s->CX X.stack H s E e s'->X.xe e s'
section
variable {X:Cx}{CX:Gk}{k:Nat}{f C:Addr}{fd:qy}{ps:List Str}{sp:Sp}{dvs:List V}{ds:List Value}{E:XK}{x m:Str}{p pos apos:Pos}{e o:Expr}{es:List Expr}{ta:TE}{t:TA}
def gZ (F:Ag X.prog X.w X.K X.mg X.base CX k f fd ps sp)(hr:Room k X.A)(hb:Ej X.K fd ps ds)(hd:Af dvs ds)(hx:P1 CX X E)
  (I:AK X gt σ H s)(r:Af vs us)(h:sp (vs++dvs) H Q E):wpAny (model X.prog X.w) X.A (call (.ref f) us) (EP X gt σ Q) X.xe s:=by
 have r2:Af (vs++dvs) (us++ds):=r.append hd;have hl:(us++ds).length=ps.length:=by rw[<-r2.length];exact F.len _ _ _ _ h
 refine wpAny_call (vP (F.N7 X.A X.stack s H ⟨us,[]⟩ (us++ds) (vs++dvs) Q E hr I.ko (hb s us I.Dn hl) r2 h) λr s' O=>?_);cases r with
 |error e=>exact hx gt σ H s e s' I O
 |ok fl =>
  cases fl with
  |ret u=>exact I.after O
  |next=>exact qv O
  |brk=>exact qv O
  |cont=>exact qv O
def bQ (F:Ag X.prog X.w X.K X.mg X.base CX k f fd ps sp)(hr:Room k X.A)(hg:Gl X x)(hm:X.mg x=some (.ref f))(hk:vW X.K (.ref f)=true)(hb:Ej X.K fd ps ds)(hd:Af dvs ds)(hx:P1 CX X E)
  (ha:PA X (e :: es) t)(ab:(x == ("__debug__":Str))=false:=by decide)(he:oZ (e :: es) X.env=(false,eval e X.env) :: oZ es X.env:=by rfl)(aa:(tR pos (oZ es X.env)).any (·.1)=false:=by rfl) :
  PE X (.Call (.Name x p) (e :: es) [] pos) (Dt sp dvs E t):=by
 intro gt s σ H Q I h;refine sj (cL I hg hm ?_ ab);refine PySem.W.callWith_K (h₀:=X.base) I.ok.Dd.RH hk (Ac (ha pos gt s σ H _ I h) λus s1 ⟨vs,H1,O,r,q⟩=>⟨O.Dn,?_⟩) he aa;exact gZ F hr hb hd hx O r q
structure Mk(K:nT)(C f:Addr):Prop where
 nJ:PySem.W.makesIn K C=true
 init:xE K (.ref C) "__init__" = some (some (.ref f))
 fn:PySem.W.isFn K (.ref f)=true
 kp:vW K (.ref C)=true
end
section
variable {X:Cx}{CX:Gk}{k:Nat}{f C:Addr}{fd:qy}{ps ks:List Str}{sp:Sp}{E:XK}{x m:Str}{p pos apos kpos:Pos}{e o:Expr}{es:List Expr}{kws:List wI}{te ta:TE}{t tk:TA}{nm:Option Str}
variable {g:List Value->List Value->List Value}{gV:List V->List V->List V}
end
structure Ar(N P:List Str)(sc:Scope):Prop where
 kind:sc.kind=.function
 co:sc.isCoroutine=false
 m8:sc.isGenerator=false
 nd:N.Nodup
 pre:N.take P.length=P
 Wz:∀x∈P,sc.names.lookup x=some .local\/sc.names.lookup x=some .cell
 jC:∀y∈sc.names,y.2≠.free
abbrev KP(K:nT)(f:Addr):Prop:=vW K (.ref f)=true
def Gh:0<=oK:=by decide
def ED:1<=oK:=by decide
def Bk:2<=oK:=by decide
def GA:3<=oK:=by decide
def mY:4<=oK:=by decide
def Rq{O:Str->Option abn}:∀{F:List (Str×Value)} {m:Str->Option Value},(∀v,(x,v)∉F)->bindL O F m x=m x
 |[],_,_=>rfl
 |(n,v) :: r,m,h=>by
  unfold bindL;rw[Rq λw hw=>h w (oY _ hw)];split
  ·have:x≠n:=by rintro rfl;exact h v qh
   simp[this]
  ·rfl
def R7{O:Str->Option abn}:∀{F:List (Str×Value)} {m:Str->Option Value},(∀v,(x,v)∉F)->bindC O F m x=m x
 |[],_,_=>rfl
 |(n,v) :: r,m,h=>by
  unfold bindC;rw[R7 λw hw=>h w (oY _ hw)];split
  ·rfl
  ·have:x≠n:=by rintro rfl;exact h v qh
   simp[this]
def Rv{F:Str->Option abn}:∀{P:List Str} {vs:List Value} {i:Nat} {m:Str->Option Value},P.Nodup->P[i]?=some x->vs[i]?=some v->F x=some .local →
  bindL F (P.zip vs) m x=some v
 |[],_,_,_,_,h,_,_=>by simp at h
 |_ :: _,[],_,_,_,_,h,_=>by simp at h
 |p :: P,w :: vs,0,m,nd,h1,h2,hk=>by
  simp at h1 h2;subst h1;subst h2;show bindL F ((p,w) :: P.zip vs) m p=_;unfold bindL;rw[Rq λv O=>(qm.mp nd).1 (wX O).1,nX hk];simp
 |p :: P,w :: vs,i+1,m,nd,h1,h2,hk=>by
  show bindL F ((p,w) :: P.zip vs) m x=_;unfold bindL;exact Rv (i:=i) (qm.mp nd).2 (by simpa using h1) (by simpa using h2) hk
def R5{F:Str->Option abn}:∀{P:List Str} {vs:List Value} {i:Nat} {m:Str->Option Value},P.Nodup->P[i]?=some x->vs[i]?=some v->F x≠some .local →
  bindC F (P.zip vs) m x=some v
 |[],_,_,_,_,h,_,_=>by simp at h
 |_ :: _,[],_,_,_,_,h,_=>by simp at h
 |p :: P,w :: vs,0,m,nd,h1,h2,hk=>by
  simp at h1 h2;subst h1;subst h2;show bindC F ((p,w) :: P.zip vs) m p=_;unfold bindC;rw[R7 λv O=>(qm.mp nd).1 (wX O).1,nS hk];simp
 |p :: P,w :: vs,i+1,m,nd,h1,h2,hk=>by
  show bindC F ((p,w) :: P.zip vs) m x=_;unfold bindC;exact R5 (i:=i) (qm.mp nd).2 (by simpa using h1) (by simpa using h2) hk
def HN(N:List Str)(vs:List V):St:=vs.map some++nY (N.length-vs.length) none
def JQ(CX:Gk)(P:o6)(w:World)(K:nT)(mg:Str->Option Value)(base:Heap)(N:List Str)(qual:Str)(scope:Scope)(f:Addr)(cd:Value)(A:qf)(outer:List Env)(s:nU)(H:Hp)(E:XK):Cx where
 prog:=P
 w:=w
 K:=K
 mg:=mg
 base:=base
 A:=A.deeper (xk qual scope s.heap.objs.size f cd)
 N:=N
 s₀:=s
 H₀:=H
 env:=xk qual scope s.heap.objs.size f cd
 outer:=outer
 stack:=xk qual scope s.heap.objs.size f cd :: outer
 ex:=[]
 Cd:=true
 fn:=λ_=>true
 pn:=[]
 xe:=λe s'=>wpAny (model P w) (A.deeper (xk qual scope s.heap.objs.size f cd)) (leaving (xk qual scope s.heap.objs.size f cd) e) (λ_ F=>CX outer H s E e F) (λO F=>CX outer H s E O F) s'
def Ss{F:Scope}(h:F.names.lookup x=some .cell):∃c,(cellsFrom n F.names []).lookup x=some c:=by
 have q:=zx F.names n [] (.inl h);exact uG.mp q
def Y0 {K:nT}
  (S:Ar N ps scope)(hd:A.handled=none)(F:JV P w K mg base A outer s H)(hl:vs.length=ps.length)(r:Af vs us)
  (x:InCallC s s.heap.objs.size (bindL (xk qual scope s.heap.objs.size f cd).kindOf (ps.zip us) λ_=>none) (cellsFrom (s.heap.objs.size+1) scope.names []) (bindC (xk qual scope s.heap.objs.size f cd).kindOf (ps.zip us) λ_=>none) s1) :
  AK (JQ CX P w K mg base N qual scope f cd A outer s H E) [] (HN N vs) H s1:=by
 have ac:ps.length<=N.length:=by have:=congrArg tq S.pre;rw[pS]at this;lia
 obtain⟨h1,tk,rfl,hk⟩:=x.done;have aa:∀b:Addr,b∉(JQ CX P w K mg base N qual scope f cd A outer s H E).ex:=λb z=>absurd (show b∈([]:List Addr) from z) (by simp)
 exists ⟨F.Dd,S.kind,J,J,nQ _,λy z c h1 h2=>?_,λy hy=>?_,λy c _ h=>?_,λ_=>hd,qf.frames_deeper F.frames,.inr ⟨J,J⟩,λb z=>absurd z (aa b),F.bs,F.Gj,λb _ _=>aa b,λb z=>absurd z (aa b),F.FK,F.Jb⟩,
  rfl,F.DT,Un.CC hk,⟨_,x.toInCall.ns,λi y v h1 h2 h3=>?_⟩,λy c h=>⟨_,x.cell y c h⟩,F.Aj.fresh (nQ _),λy c h=>?_,λp O=>absurd (show p∈([]:List (Addr×Obj)) from O) (by simp),F.Aj.CC hk
 ·exact name_of_addr x.apart (rQ h1) (rQ h2)
 ·have hy:scope.names.lookup y=some .cell\/scope.names.lookup y=some .free:=hy;rcases hy with hy|hy
  ·exact Ss hy
  ·exact absurd rfl (S.jC _ (rQ hy))
 ·exact wZ (x.above y c (rQ h))
 ·have hi:i<vs.length:=by
   unfold HN at h2;by_cases hi:i<vs.length
   ·exact hi
   ·rw[oo (by simpa using hi)]at h2;rw[uN]at h2;split at h2<;>cases h2
  have ha:vs[i]?=some v:=by
   unfold HN at h2;rw[oH (by simpa using hi),nV]at h2;cases e:vs[i]? with
   |none=>rw[e]at h2;cases h2
   |some a=>rw[e]at h2;cases h2;rfl
  obtain⟨u,hu,rv⟩:=r.get ha;have O:ps[i]?=some y:=by
   rw[<-S.pre,List.getElem?_take_of_lt (by lia)];exact h1
  have ab:ps.Nodup:=by rw[<-S.pre];exact S.nd.sublist (aaW _ _)
  exists u,rv;rcases S.Wz y (nz O)with k|k
  ·exact .inl ⟨k,Rv ab O hu k⟩
  ·obtain⟨c,e⟩:=Ss (n:=s.heap.objs.size+1) k;refine .inr ⟨.inl k,c,e,?_⟩;have q:=x.cell y c e;rw[R5 ab O hu (by show scope.names.lookup y≠_;rw[k];decide)]at q;exact q
 ·exact F.Aj.fresh (wZ (x.above y c (rQ h)))
 ·unfold HN;show _=N.length;rw[oa,nh,vg]
  lia
def jz {CX:Gk}{P:o6}{w:World}{K:nT}{mg:Str->Option Value}{base:Heap}{k:Nat}{f:Addr}{name qual:Str}{ae:Arguments}{aa:List Stmt}{scope:Scope}{dV kV doc pm im ct oc:Value}{an od:Option Addr}
  {osl:Array (Option Value)}{N ps:List Str}{sp:Sp}(lk:K.lookup f=some ⟨oc,od,.func (si name qual ae aa scope dV kV doc pm an im ct),osl⟩)(ah:xD K im qual=true)(S:Ar N ps scope)
  (ab:∀vs H Q E,sp vs H Q E->vs.length=ps.length)
  (ai:∀(A:qf) (outer:List Env) (s:nU) (H:Hp) (vs:List V) (Q:VK) (E:XK),Room k (A.deeper (xk qual scope s.heap.objs.size f im))->sp vs H Q E →
   ∃t,Cy (JQ CX P w K mg base N qual scope f im A outer s H E) aa t/\t { nx:=λ_ H'=>Q .A5 H',rt:=Q} (HN N vs) H) :
  Ag P w K mg base CX (k+1) f (si name qual ae aa scope dV kV doc pm an im ct) ps sp:=by
 refine⟨ab,λA outer s H args us vs Q E hr F hb r ad=>?_⟩;have hl:=ab _ _ _ _ ad;have KX:K.In s.heap:=F.Dd.RH.keeps λb o e=>(F.bs b o e).1
 have ag:s.heap.NoLimit:=F.Dd.nolimit.keeps λb o e=>(F.bs b o e).1
 have af:∀y∈ps.zip us,scope.names.lookup y.1=some .local\/(scope.names.lookup y.1=some .cell/\((cellsFrom (s.heap.objs.size+1) scope.names []).lookup y.1).isSome=true):=λ⟨n,v⟩ hy=>by
  rcases S.Wz n (wX hy).1 with q|q
  ·exact .inl q
  ·exact .inr ⟨q,zx _ _ _ (.inl q)⟩
 refine codeAny_call_function hr.depth (KX _ _ lk) rfl S.co S.m8 rfl (PySem.W.codeRec_of KX ah) (hb _ _ _ _ ?_);refine wpAny_newFunctionEnv_cells S.kind af λenv he s1 x=>?_
 subst he;refine⟨ag.keeps x.toInCall.keep,codeAny_func ?_⟩;obtain⟨t,ht,hq⟩:=ai A outer s H vs Q E (hr.deeper _) ad;have I:AK (JQ CX P w K mg base N qual scope f im A outer s H E) [] (HN N vs) H s1:=Y0 S hr.hd F hl r x;refine qG (ht [] s1 (HN N vs) H _ I hq) (λfl s' hs=>?_) λe s' hs=>hs
 have ac:∀{O:St} {H':Hp} {v:V} {u:Value},AK (JQ CX P w K mg base N qual scope f im A outer s H E) [] O H' s'->Av v u->Q v H'->CE outer P w H s Q u s' :=
  λ{O H' v u} J rv q=>⟨v,H',J.os,J.DT,J.base,J.Aj,rv,q⟩
 cases fl with
 |ret u =>
  obtain⟨v,O,H',J,rv,q⟩:=hs;exact ac J rv q
 |next =>
  obtain⟨O,H',J,q⟩:=hs;exact ac (v:=V.A5) (u:=su) J rfl q
 |brk =>
  obtain⟨_,_,_,q⟩:=hs;exact qv q
 |cont =>
  obtain⟨_,_,_,q⟩:=hs;exact qv q
section
variable {X:Cx}{x:Str}{p pos:Pos}{e:Expr}{es:List Expr}{t:TA}{id T:String}{r:List V->Hp->VK->Prop}
def Kr(r:List V->Hp->VK->Prop)(t:TA):TE:=λσ H Q=>t σ H λvs H1=>r vs H1 Q
def Bu (hc:CQ X (.builtin id) r)(hg:Gl X x)(hm:X.mg x=none)(hv:qo x=some (.builtin id))(F:PA X (e :: es) t)(hn:x≠"__name__":=by decide)(ab:(x == ("__debug__":Str))=false:=by decide)
  (O:oZ (e :: es) X.env=(false,eval e X.env) :: oZ es X.env:=by rfl)(aa:(tR pos (oZ es X.env)).any (·.1)=false:=by rfl):PE X (.Call (.Name x p) (e :: es) [] pos) (Kr r t):=by
 intro gt s σ H Q I h;refine sj (EK I hg hm hv ?_ hn ab);exact PyProof.Rows.callWith_builtin1 (Ac (F pos gt s σ H _ I h) λus s1 ⟨vs,H1,I1,r1,q1⟩=>hc gt s1 σ H1 vs us Q I1 r1 q1) O aa
def EG (hc:CQ X (.type T) r)(hg:Gl X x)(hm:X.mg x=none)(hv:qo x=some (.type T))(F:PA X (e :: es) t)(hn:x≠"__name__":=by decide)(ab:(x == ("__debug__":Str))=false:=by decide)
  (O:oZ (e :: es) X.env=(false,eval e X.env) :: oZ es X.env:=by rfl)(aa:(tR pos (oZ es X.env)).any (·.1)=false:=by rfl):PE X (.Call (.Name x p) (e :: es) [] pos) (Kr r t):=by
 intro gt s σ H Q I h;refine sj (EK I hg hm hv ?_ hn ab);exact pQ (Ac (F pos gt s σ H _ I h) λus s1 ⟨vs,H1,I1,r1,q1⟩=>hc gt s1 σ H1 vs us Q I1 r1 q1) O aa
end
end L2
namespace HT
open PySem PyProof.Rows
section
open PySem.SeqAt
open PySem.AutoSeq1 (wpAny_loadPart')
open PySem.MeetsSeq PySem.MeetsSeq2 PySem.MeetsSeq3
end
section
variable {prog:o6}{w:World}{A:qf}{E:Value->nU->Prop}{s:nU}
def fT {t b:Addr}{vs O:List Value}{Q:Value->nU->Prop}(ht:IsTup s.heap t vs.toArray)(hb:IsTup s.heap b O.toArray)(hv:vs≠[])
  (h1:O=[]->Q (.ref t) s)(h2:O≠[]->Q (.ref s.heap.objs.size) { s with heap:=s.heap.push { cls:=.type "tuple",data:=.seq (vs++O).toArray}})
  (hsz:vs.length+O.length<=oK):wpAny (model prog w) A (tE .Add (.ref t) (.ref b)) Q E s:=by
 obtain⟨⟨cls,dd,data,sl⟩,ho,hc,n,hd⟩:=id ht;obtain⟨⟨af,ab,ag,ac⟩,aa,ae,n2,ad⟩:=id hb;simp only at hc hd ae ad;subst hc hd ae ad;have e:vs.toArray++O.toArray=(vs++O).toArray:=by simp
 by_cases hw:O=[]
 ·exact concat_meets ⟨_,ho,J⟩ ⟨_,aa,J⟩ noFill_tuple_add seq_tuple_add zw zf (yQ _ _)
   (tuple_addW1 t b vs.toArray O.toArray n n2 dd ab sl ac (by simpa using hv) (by simp[hw])) ⟨ho,aa,h1 hw⟩
 ·refine concat_meets ⟨_,ho,J⟩ ⟨_,aa,J⟩ noFill_tuple_add seq_tuple_add zw zf (yQ _ _)
   (tuple_addW2 t b vs.toArray O.toArray n n2 dd ab sl ac (by simpa using hv) (by simpa using hw) (by rw[ou,ou];exact hsz)) ⟨ho,aa,?_⟩
  rw[e];exact h2 hw
def Al(n d:Nat):Option Int->Nat
 |none=>d
 |some v=>if v<0 then (v+(n:Int)).toNat else min v.toNat n
def gz(n d:Nat)(hd:d<=n)(o:Option Int):Al n d o<=n:=by
 cases o with
 |none=>exact hd
 |some v =>
  show(if v<0 then (v+(n:Int)).toNat else min v.toNat n)<=n;by_cases F:v<0
  ·rw[nX F];lia
  ·rw[nS F];exact Nat.min_le_right _ _
def Tq(v:Int)(n d:Nat):(if v<0 then max (v+(n:Int)) 0 else min v (n:Int))=((Al n d (some v):Nat):Int):=by
 show(if v<0 then max (v+(n:Int)) 0 else min v (n:Int))=(((if v<0 then (v+(n:Int)).toNat else min v.toNat n):Nat):Int);by_cases F:v<0
 ·simp only[nX F];lia
 ·simp only[nS F];lia
def X7(lo hi:Option Int)(n:Nat):vG lo hi 1 (n:Int)=(((Al n 0 lo:Nat):Int),((Al n n hi:Nat):Int)):=by
 have h1:¬((1:Int)<0):=by omega
 unfold vG;simp only[h1,if_false];refine Prod.ext ?_ ?_
 ·cases lo with
  |none=>rfl
  |some v=>exact Tq v n 0
 ·cases hi with
  |none=>rfl
  |some v=>exact Tq v n n
def X4(i j:Nat):ud (i:Int) (j:Int) 1=j-i:=by
 unfold ud;have h1:(1:Int)>0:=by lia
 simp only[h1,if_true,Int.ediv_one];split<;>lia
def Rh(p:wQ v o)(h:Q o s):wpAny (model prog w) A (oN.Slice.slicePartIndex v) Q E s:=by
 cases p with
 |none=>exact slicePart_none h
 |int i t=>exact slicePart_int h
def RJ {sl:Addr}{vl F:Value}{lo hi:Option Int}{n:Nat}(hs:s.heap.IsSliceOf sl vl F .none)(pl:wQ vl lo)(pu:wQ F hi)
  (h:Q (((Al n 0 lo:Nat):Int),1,Al n n hi-Al n 0 lo) s):wpAny (model prog w) A (x5 (.ref sl) (pure (n:Int))) Q E s:=by
 obtain⟨os,aa,ab,O⟩:=id hs;unfold x5 oN.Slice.sliceFields;refine nv (nv (rF aa O (x:=vl) rfl (nv (rF aa O (x:=F) rfl (nv (rF aa O (x:=.none) rfl (nZ ?_)))))));refine nv (slicePart_none ?_);show wpAny _ _ (if ((1:Int) == 0)=true then _ else _) _ _ s;rw[nS (by decide)];refine nv (Rh pl (nv (Rh pu (nv (nZ ?_)))));show wpAny _ _ (match vG lo hi 1 (n:Int)with|(lo,hi)=>pure (lo,(1:Int),ud lo hi 1)) _ _ s;rw[X7 lo hi n];show wpAny _ _ (pure (((Al n 0 lo:Nat):Int),(1:Int),ud ((Al n 0 lo:Nat):Int) ((Al n n hi:Nat):Int) 1)) _ _ s;rw[X4];exact nZ h
def Zs(xs:Array Value)(i k:Nat):((og k).filterMap λ(m:Nat)=>xs[((i:Int)+(m:Int)*1).toNat]?).toArray=((xs.toList.drop i).take k).toArray:=by
 have e:(λ(m:Nat)=>xs[((i:Int)+(m:Int)*1).toNat]?)=λm=>xs[i+m]?:=by
  funext m
  have:((i:Int)+(m:Int)*1).toNat=i+m:=by lia
  rw[this]
 rw[e]
 have:=pick_run xs i k
 rw[List.filterMap_map]at this;have F:((λx=>xs[x]?) ∘ λx=>i+x)=λm=>xs[i+m]?:=rfl
 rw[F]at this;rw[this]
def XM {t sl:Addr}{items:Array Value}{vl vu:Value}{lo hi:Option Int}{Q:Value->nU->Prop}(O:IsTup s.heap t items)(hs:s.heap.IsSliceOf sl vl vu .none)(pl:wQ vl lo)(pu:wQ vu hi)
  (hw:¬(Al items.size 0 lo=0/\Al items.size items.size hi=items.size))
  (h:Q (.ref s.heap.objs.size) { s with heap:=s.heap.push { cls:=.type "tuple",data:=.seq ((items.toList.drop (Al items.size 0 lo)).take (Al items.size items.size hi-Al items.size 0 lo)).toArray}})
  (hsz:items.size<=oK):wpAny (model prog w) A (v5 (.ref t) (.ref sl)) Q E s:=by
 have F:sizeOk (.seq ((items.toList.drop (Al items.size 0 lo)).take (Al items.size items.size hi-Al items.size 0 lo)).toArray):=by
  show((items.toList.drop (Al items.size 0 lo)).take (Al items.size items.size hi-Al items.size 0 lo)).toArray.size<=oK;rw[ou,pS,pY,qj];omega
 have hj:Al items.size items.size hi<=items.size:=gz _ _ (nQ _) hi;obtain⟨os,ad,ab,ae⟩:=id hs;have aa:s.TypeIs (.ref sl) "slice":=⟨os,ad,ab⟩;unfold v5
 try with_reducible refine sV ?_
 first|refine nv (nZ ?_)|skip
 refine nv (aa5 O.typeIs (by decide) ?_);refine nv (rK (name:=vm "__getitem__") O.typeIs qP
  (rL qP O.typeIs aao ?_ (aaL _ _)))
 show wpAny _ _ (x6 (.ref t) >>= _) _ _ s;refine nv (tupleItemsOf_ O ?_);refine nv (vR aa ?_);rw[nX (by decide)];refine nv (RJ hs pl pu ?_);have ac:¬((((Al items.size 0 lo:Nat):Int) == 0 && (1:Int) == 1 && (Al items.size items.size hi-Al items.size 0 lo) == items.size)=true):=by
  intro q;rw[qX,qX]at q;have q1:((Al items.size 0 lo:Nat):Int)=0:=eq_of_beq q.1.1;have q2:Al items.size items.size hi-Al items.size 0 lo=items.size:=eq_of_beq q.2;exact hw ⟨by omega,by omega⟩
 show wpAny _ _ (if (((Al items.size 0 lo:Nat):Int) == 0 && (1:Int) == 1 && (Al items.size items.size hi-Al items.size 0 lo) == items.size)=true then _ else _) _ _ s;rw[nS ac,Zs]
 first
  |exact nv (m:=uz _) (qC (nZ ⟨_,J,nZ h⟩) F)
  |exact nv (m:=uz _) (qC (nv (nZ (nZ ⟨_,J,nZ h⟩))) F)
  |exact nv (nv (m:=uz _) (qC (nZ (nZ ⟨_,J,nZ h⟩)) F))
  |exact nv (nv (m:=uz _) (qC (nZ ⟨_,J,nZ h⟩) F))
end
end HT
namespace L2
open PySem PySem.Spec PyProof.Rows
abbrev TO:=St->Hp->(Option Int->Hp->Prop)->Prop
def PO(X:Cx)(e:Option Expr)(t:TO):Prop :=
 ∀(gt:List (Addr×Obj)) (s:nU) (σ:St) (H:Hp) (Q:Option Int->Hp->Prop),AK X gt σ H s->t σ H Q →
  wpAny (model X.prog X.w) X.A (evalPart e X.env) (λu s'=>∃o H',AK X gt σ H' s'/\wQ u o/\Q o H') X.xe s
def PN:TO:=λ_ H Q=>Q none H
def Vu(t:TE):TO:=λσ H Q=>t σ H λx H1=>∃i,x=.int i/\Q (some i) H1
def Ri:∀{us:List Value},Af (ns.map V.int) us->tV us ns:=by
 induction ns with
 |nil=>intro us r;rw[p9]at r;cases r;exact .nil
 |cons n ns ih =>
  intro us r;rw[n9]at r;cases r with
  |cons r1 r2 =>
   obtain⟨t,e⟩:=r1;subst e;exact .cons n t (ih r2)
section
variable {X:Cx}{e:Expr}{te:TE}{lo hi:Option Expr}{tl th:TO}{pos p2:Pos}
def FY:PO X none PN:=by
 intro gt s σ H Q I h;rw[evalPart_none];exact nZ ⟨none,H,I,.none,h⟩
def Ef(h:PE X e te):PO X (some e) (Vu te):=by
 intro gt s σ H Q I hw;rw[evalPart_some];refine Ac (h gt s σ H _ I hw) λu s1 ⟨x,H1,O,F,q1⟩=>?_
 obtain⟨i,rfl,q⟩:=q1;obtain⟨t,rfl⟩:=F;exact⟨some i,H1,O,.int i t,q⟩
def Fx(X:Cx)(r:V->Option Int->Option Int->Hp->VK->Prop):Prop :=
 ∀(gt:List (Addr×Obj)) (s:nU) (σ:St) (H:Hp) (x:V) (v F O:Value) (lo hi:Option Int) (sl:Addr) (Q:VK),AK X gt σ H s->Av x v->s.heap.IsSliceOf sl F O .none->wQ F lo->wQ O hi->r x lo hi H Q →
  ∃T id,typeLookup (.type T) "__getitem__" = pure (some (.builtin id))/\s.TypeIs v T/\wpAny (model X.prog X.w) X.A (v5 v (.ref sl)) (EP X gt σ Q) X.xe s
def Fx.or(h:Fx X r)(h':Fx X r'):Fx X (λx lo hi H Q=>r x lo hi H Q\/r' x lo hi H Q):=by
 intro gt s σ H x v vl vu lo hi sl Q I F hs pl O q;rcases q with q|q
 ·exact h gt s σ H x v vl vu lo hi sl Q I F hs pl O q
 ·exact h' gt s σ H x v vl vu lo hi sl Q I F hs pl O q
def XI(r:V->Option Int->Option Int->Hp->VK->Prop)(te:TE)(tl th:TO):TE:=λσ H Q=>te σ H λx H1=>tl σ H1 λl H2=>th σ H2 λu F=>r x l u F Q
def E4(hr:Fx X r)(he:PE X e te)(hl:PO X lo tl)(hu:PO X hi th):PE X (.Subscript e (.Slice lo hi none p2) pos) (XI r te tl th):=by
 intro gt s σ H Q I h;refine abH (Ac (he gt s σ H _ I h) λv s1 ⟨x,H1,I1,r1,q1⟩=>?_);refine wpAny_Slice (Ac (hl gt s1 σ H1 _ I1 q1) λvl s2 ⟨l,H2,I2,pl,q2⟩=>Ac (hu gt s2 σ H2 _ I2 q2) λO F ⟨u,H3,I3,pu,q3⟩=>?_);rw[evalPart_none];refine nZ ?_;have I4:AK X gt σ H3 { F with heap:=F.heap.push { cls:=.type "slice",data:=.fields #[vl,O,.none]}}:=I3.CC (t':=F.toks) λb ob q=>nP _ q
 obtain⟨T,id,hT,ht,hg⟩:=hr gt { F with heap:=F.heap.push { cls:=.type "slice",data:=.fields #[vl,O,.none]}} σ H3 x v vl O l u F.heap.objs.size Q I4 r1 (Heap.IsSliceOf.new ..) pl pu q3;show wpAny (model X.prog X.w) X.A (aad e (.Slice lo hi none p2) v (.ref F.heap.objs.size)) (EP X gt σ Q) X.xe { F with heap:=F.heap.push { cls:=.type "slice",data:=.fields #[vl,O,.none]}};exact tail_any (ops:=[.ref F.heap.objs.size,v]) ht hT hg (by with_unfolding_all rfl)
def C5(xs:List V)(lo hi:Option Int):List V:=(xs.drop (HT.Al xs.length 0 lo)).take (HT.Al xs.length xs.length hi-HT.Al xs.length 0 lo)
def RO(xs:List V)(lo hi:Option Int):(C5 xs lo hi).length<=xs.length:=by
 unfold C5;rw[pS,pY];omega
def Qr(K:nT):V->Option Int->Option Int->Hp->VK->Prop:=λx lo hi H Q=>∃a xs,x=.ref a/\AH K H a xs /\
 ¬(HT.Al xs.length 0 lo=0/\HT.Al xs.length xs.length hi=xs.length)/\∀p,H p=none->Q (.ref p) (AF H p (.AG (C5 xs lo hi)))
def VO:Fx X (Qr X.K):=by
 intro gt s σ H x v vl vu lo hi sl Q I rx hs pl pu h;obtain⟨a,xs,rfl,hx,hw,q⟩:=h;cases rx;obtain⟨aa,r,O,hz⟩:=I.tuple hx;have F:aa.toArray.size=xs.length:=by rw[ou];exact r.length.symm
 exists "tuple",_,qP.lookup,O.typeIs;refine HT.XM O hs pl pu (by rw[F];exact hw) ?_ (by rw[F];exact hz);rw[F];refine⟨.ref s.heap.objs.size,_,I.laid (t':=s.toks) (o:=.AG (C5 xs lo hi)) (λb ob q=>nP _ q) (nQ _) ?_,J,q _ (I.Aj.fresh (nQ _))⟩;exact⟨oC (RO xs lo hi) hz,_,(r.drop (HT.Al xs.length 0 lo)).take (HT.Al xs.length xs.length hi-HT.Al xs.length 0 lo),abU _ _,_,oq _ rfl,J⟩
def V6(K:nT):R2:=λx y H Q=>∃a b xs ys,x=.ref a/\y=.ref b/\AH K H a xs/\AH K H b ys/\xs≠[]/\xs.length+ys.length<=oK /\
 (ys=[]->Q (.ref a) H)/\(ys≠[]->∀p,H p=none->Q (.ref p) (AF H p (.AG (xs++ys))))
def Af.PU(r:Af xs us):us=[]↔xs=[]:=by
 cases r with
 |nil=>simp
 |cons _ _=>simp
def Tr:Bf X (tE .Add) (V6 X.K):=by
 intro gt s σ H x y v u Q I rx ry h;obtain⟨a,b,xs,ys,rfl,rfl,ha,hb,hx,hz,q1,q2⟩:=h;cases rx;cases ry;obtain⟨aa,O,p1,_⟩:=I.tuple ha;obtain⟨ab,F,p2,_⟩:=I.tuple hb;refine HT.fT p1 p2 (λz=>hx (O.PU.mp z)) (λz=>⟨.ref a,H,I,J,q1 (F.PU.mp z)⟩) (λz=>?_) (by rw[<-O.length,<-F.length];exact hz);refine⟨.ref s.heap.objs.size,_,I.laid (t':=s.toks) (o:=.AG (xs++ys)) (λb ob q=>nP _ q) (nQ _) ?_,J,q2 (λw=>z (F.PU.mpr w)) _ (I.Aj.fresh (nQ _))⟩;exact⟨by rw[oa];exact hz,_,O.append F,abU _ _,_,oq _ rfl,J⟩
def EA(n:Nat)(i:Int):Option Nat:=if 0<=i then (if i<n then some i.toNat else none) else if -(n:Int)<=i then some (i+n).toNat else none
def Bc{α:Type}(xs:List α)(i:Int):Option α:=(EA xs.length i).bind λj=>xs[j]?
def Pa(h:EA n i=some j):aaN i n=some j/\j<n/\-(n:Int)<=i/\i<n:=by
 unfold EA at h;by_cases F:0<=i
 ·rw[nX F]at h;by_cases h1:i<n
  ·rw[nX h1]at h;have e:i.toNat=j:=oy h;exact⟨by rw[abc F h1,e],by lia,by lia,h1⟩
  ·rw[nS h1]at h;cases h
 ·rw[nS F]at h;by_cases h1:-(n:Int)<=i
  ·rw[nX h1]at h;have e:(i+n).toNat=j:=oy h;exact⟨by rw[aaO (by lia) h1,e],by lia,h1,by lia⟩
  ·rw[nS h1]at h;cases h
def Tt(h:Bc xs i=some v):∃j,aaN i xs.length=some j/\xs[j]?=some v/\j<xs.length/\-(xs.length:Int)<=i/\i<xs.length:=by
 unfold Bc at h;cases e:EA xs.length i with
 |none=>rw[e]at h;cases h
 |some j =>
  rw[e]at h;obtain⟨h1,h2,O,F⟩:=Pa e;exact⟨j,h1,h,h2,O,F⟩
def BQ{α:Type}{xs:List α}{j:Nat}{v:α}(h:xs[j]?=some v):Bc xs (j:Int)=some v:=by
 have F:j<xs.length:=(nq.mp h).1;have e:EA xs.length (j:Int)=some j:=by
  unfold EA;rw[nX (by lia),nX (by lia)];simp
 unfold Bc;rw[e];exact h
def Mm(b:Expr):Prop:=∀o i,zC b false o i=operate [o,i] (v5 o i)
def Fy(X:Cx)(r:R2):Prop :=
 ∀(value F:Expr) (gt:List (Addr×Obj)) (s:nU) (σ:St) (H:Hp) (x y:V) (v u:Value) (Q:VK),AK X gt σ H s->Av x v->Av y u->r x y H Q →
  zC F false v u=operate [v,u] (v5 v u)->wpAny (model X.prog X.w) X.A (aad value F v u) (EP X gt σ Q) X.xe s
def Ks(X:Cx)(id:String)(r:V->List V->Hp->VK->Prop):Prop :=
 ∀(gt:List (Addr×Obj)) (s:nU) (σ:St) (H:Hp) (x:V) (xs:List V) (v:Value) (us:List Value) (Q:VK),AK X gt σ H s->Av x v->Af xs us->r x xs H Q →
  wpAny (model X.prog X.w) X.A (call (.builtin id) (v :: us)) (EP X gt σ Q) X.xe s
variable {a b:Expr}{ta tb:TE}
def Fy.or(h:Fy X r)(h':Fy X r'):Fy X (λx y H Q=>r x y H Q\/r' x y H Q):=by
 intro value O gt s σ H x y v u Q I F ry q hs;rcases q with q|q
 ·exact h value O gt s σ H x y v u Q I F ry q hs
 ·exact h' value O gt s σ H x y v u Q I F ry q hs
def Ks.or{id:String}(h:Ks X id r)(h':Ks X id r'):Ks X id (λx xs H Q=>r x xs H Q\/r' x xs H Q):=by
 intro gt s σ H x xs v us Q I F rs q;rcases q with q|q
 ·exact h gt s σ H x xs v us Q I F rs q
 ·exact h' gt s σ H x xs v us Q I F rs q
def Lm(hr:Fy X r)(ha:PE X a ta)(O:PE X b tb)(hs:Mm b):PE X (.Subscript a b pos) (Bb r ta tb):=by
 intro gt s σ H Q I h;exact abH (Qz ha O I h λv u s2 x y H2 I2 F ry q=>hr a b gt s2 σ H2 x y v u Q I2 F ry q (hs _ _))
inductive Wn(K:nT)(x y:V)(H:Hp)(Q:VK):Prop
 |mk (p:Addr) (xs:List V) (i:Int) (v:V) (a:x=.ref p) (b:y=.int i) (c:AI K H p xs) (d:Bc xs i=some v) (q:Q v H):Wn K x y H Q
inductive Wi(K:nT)(x y:V)(H:Hp)(Q:VK):Prop
 |mk (p:Addr) (xs:List V) (i:Int) (v:V) (a:x=.ref p) (b:y=.int i) (c:AH K H p xs) (d:Bc xs i=some v) (q:Q v H):Wi K x y H Q
def FN(K:nT):R2:=λx y H Q=>Wn K x y H Q
def GZ(K:nT):R2:=λx y H Q=>Wi K x y H Q
def T5:Fy X (FN X.K):=by
 intro value ad gt s σ H x y v u Q I rx ry h hs;obtain⟨p,xs,i,z,rfl,rfl,hq,he,q⟩:=h;cases rx;obtain⟨t,rfl⟩:=ry;obtain⟨ab,r,pl,hz⟩:=I.list hq;obtain⟨j,h1,h2,h3,h4,h5⟩:=Tt he;obtain⟨w,ew,ac⟩:=r.get h2;have hl:=r.length;have hn:=NC;have aa:EP X gt σ Q w s:=⟨z,H,I,ac,q⟩;by_cases O:0<=i
 ·have F:i.toNat=j:=by
   rw[abc O h5]at h1;exact oy h1
  exact item_listR pl.isList O (by lia) (by rw[F];simpa using ew) aa hs
 ·have F:(i+(ab.toArray.size:Int)).toNat=j:=by
   rw[aaO (by lia) h4]at h1;rw[ou,<-hl];exact oy h1
  exact zB (x:=w) pl.isList.typeIs aa2.lookup
   (wpAny_getItem_list_neg (Q:=λr s'=>r=w/\EP X gt σ Q r s') pl.isList (by lia) (by rw[ou]<;>lia) (by lia) (by rw[F];simpa using ew) ⟨J,aa⟩) hs
def gY:Fy X (GZ X.K):=by
 intro value ad gt s σ H x y v u Q I F ry h hs;obtain⟨p,xs,i,z,rfl,rfl,hq,he,q⟩:=h;cases F;obtain⟨t,rfl⟩:=ry;obtain⟨ac,r,pl,hz⟩:=I.tuple hq;obtain⟨j,h1,h2,h3,h4,h5⟩:=Tt he;obtain⟨w,ew,aa⟩:=r.get h2;have O:=r.length;have hn:=NC;have ab:EP X gt σ Q w s:=⟨z,H,I,aa,q⟩;exact zB (x:=w) pl.typeIs slot_tuple_getitem.lookup
  (getItem_tuple (j:=j) (Q:=λr s'=>r=w/\EP X gt σ Q r s') pl (by lia) (by lia) (by rw[ou,<-O];exact h1) (by simpa using ew) ⟨J,ab⟩) hs
def YL(F:List Value)(n j:Nat)(u:Value):vV (·.setIfInBounds j u) { cls:=.type "list",data:=.seq F.toArray n}={ cls:=.type "list",data:=.seq (F.set j u).toArray n}:=by
 simp[vV]
def AK.AE(I:AK X gt σ H s)(h:H p=some (.AE xs)):
  ∃(F:List Value) (n:Nat),Af xs F/\s.heap.get? p=some { cls:=.type "list",data:=.seq F.toArray n}/\xs.length<=oK:=by
 obtain⟨z,F,n,r,e⟩:=I.Aj p _ h;exact⟨F,n,r,e,z⟩
def AK.iN {gt:List (Addr×Obj)}{σ:St}{H:Hp}{s:nU}{p:Addr}{xs ys:List V}{O its':List Value}{n F:Nat}{f:Obj->Obj}(I:AK X gt σ H s)(h:H p=some (.AE xs))
  (ho:s.heap.get? p=some { cls:=.type "list",data:=.seq O.toArray n})(hf:f { cls:=.type "list",data:=.seq O.toArray n}={ cls:=.type "list",data:=.seq its'.toArray F})(r:Af ys its')(hz:ys.length<=oK)(t:Nat) :
  AK X gt σ (AF H p (.AE ys)) { s with heap:=s.heap.update p f,toks:=t}:=by
 have e:(s.heap.update p f).get? p=some { cls:=.type "list",data:=.seq its'.toArray F}:=by
  rw[rZ f ho (by rw[hf]<;>rfl),hf]
 refine I.JF (x:=p) (e:=p) (by rw[h];trivial) (.inl rfl) (λb u hb q=>(rN _ _ (qu hb)).trans q) ⟨_,e⟩ ?_;exact⟨hz,its',F,r,e⟩
inductive Vx(o i v:V)(H:Hp)(Q:Hp->Prop):Prop
 |mk (p:Addr) (xs:List V) (k:Int) (j:Nat) (O:o=.ref p) (F:i=.int k) (h:H p=some (.AE xs)) (x:EA xs.length k=some j) (q:Q (AF H p (.AE (xs.set j v)))):Vx o i v H Q
def Vz:V->V->V->Hp->(Hp->Prop)->Prop:=λo i v H Q=>Vx o i v H Q
def FX:WV X Vz:=by
 intro gt s σ H o i v ov iv u Q I ro ri rv h;obtain⟨p,xs,k,j,rfl,rfl,hp,hj,q⟩:=h;cases ro;obtain⟨t,rfl⟩:=ri;obtain⟨aa,n,r,ho,hz⟩:=I.AE hp;obtain⟨h1,h2,h3,h4⟩:=Pa hj;have F:=r.length;have hn:=NC;have I':AK X gt σ (AF H p (.AE (xs.set j v))) { s with heap:=s.heap.update p (vV (·.setIfInBounds j u))} :=
  I.iN hp ho (YL aa n j u) (r.set rv j) (by rw[rS];exact hz) s.toks
 by_cases h0:0<=k
 ·have O:k.toNat=j:=by
   rw[abc h0 h4]at h1;exact oy h1
  exact PySem.W.ki_setAt ho h0 (by lia) (by rw[ou,<-F];exact h4) (by rw[O];exact⟨_,I',q⟩)
 ·have O:(k+(aa.toArray.size:Int)).toNat=j:=by
   rw[aaO (by lia) h3]at h1;rw[ou,<-F];exact oy h1
  exact PySem.W.ki_setBack ho (by lia) (by rw[ou,<-F];exact h3) (by lia) (by rw[O];exact⟨_,I',q⟩)
def Xg(lo hi:Option Int)(n:Nat):(vF lo hi none n).1=((HT.Al n 0 lo:Nat):Int)/\(vF lo hi none n).2.1=((HT.Al n n hi:Nat):Int)/\(vF lo hi none n).2.2=1:=by
 refine⟨?_,?_,J⟩
 ·cases lo with
  |none=>simp[vF,HT.Al]
  |some i =>
   simp only[vF,HT.Al,yP,show(1:Int)>0 by decide,if_true];by_cases h:i<0
   ·simp only[h,if_true]<;>lia
   ·simp only[h,if_false]<;>lia
 ·cases hi with
  |none=>simp[vF,HT.Al]
  |some i =>
   simp only[vF,HT.Al,yP,show(1:Int)>0 by decide,if_true];by_cases h:i<0
   ·simp only[h,if_true]<;>lia
   ·simp only[h,if_false]<;>lia
def XY(F:List Value)(lo hi:Option Int):slicePick F.toArray lo hi none=((F.drop (HT.Al F.length 0 lo)).take (HT.Al F.length F.length hi-HT.Al F.length 0 lo)).toArray:=by
 obtain⟨h1,h2,O⟩:=Xg lo hi F.toArray.size;unfold slicePick;rw[h1,h2,O];simp only[sliceRange_one,pick_run,ou]<;>rfl
inductive WH(K:nT)(x:V)(lo hi:Option Int)(H:Hp)(Q:VK):Prop
 |mk (a:Addr) (xs:List V) (e:x=.ref a) (s:AI K H a xs) (q:∀p,H p=none->Q (.ref p) (AF H p (.AE (C5 xs lo hi)))):WH K x lo hi H Q
def WO(K:nT):V->Option Int->Option Int->Hp->VK->Prop:=λx lo hi H Q=>WH K x lo hi H Q
def dN:Fx X (WO X.K):=by
 intro gt s σ H x v vl vu lo hi sl Q I O hs pl pu h;obtain⟨a,xs,rfl,hx,q⟩:=h;cases O;obtain⟨ab,r,F,hz⟩:=I.list hx;have aa:=r.length;exists "list",_,aa2.lookup,F.isList.typeIs;refine wpAny_getItem_list_slice F.isList hs pl pu .none (by simp) ?_ (by rw[ou]<;>lia);rw[XY,<-aa];refine⟨.ref s.heap.objs.size,_,I.laid (t':=s.toks) (o:=.AE (C5 xs lo hi)) (λb ob q=>nP _ q) (nQ _) ?_,J,q _ (I.Aj.fresh (nQ _))⟩;exact⟨oC (RO xs lo hi) hz,_,0,(r.drop (HT.Al xs.length 0 lo)).take (HT.Al xs.length xs.length hi-HT.Al xs.length 0 lo),oq _ rfl⟩
def HL:V->Bool
 |.A5=>true
 |.bl _=>true
 |.int _=>true
 |.str _=>true
 |_=>false
def Hk:V->V->Bool
 |.A5,.A5=>true
 |.bl a,.bl b=>a == b
 |.bl a,.int b=>(if a then 1 else 0) == b
 |.int a,.bl b=>a == (if b then 1 else 0)
 |.int a,.int b=>a == b
 |.str a,.str b=>a == b
 |_,_=>false
def jI(ry:Av y u)(F:Av x v)(fy:HL y=true)(O:HL x=true):qH A s u v (Hk y x):=by
 cases y with
 |A5 =>
  cases ry;cases x with
  |A5=>cases F;exact qH.same _
  |bl b=>cases F;exact qH.none_bool b
  |int b=>obtain⟨t,rfl⟩:=F;exact qH.none_int b t
  |str b=>obtain⟨t,rfl⟩:=F;exact qH.none_str b t
  |_=>exact absurd (show false=true from O) oV
 |bl a =>
  cases ry;cases x with
  |A5=>cases F;exact qH.bool_none a
  |bl b=>cases F;exact qH.bool_bool a b
  |int b=>obtain⟨t,rfl⟩:=F;exact qH.bool_int a b t
  |str b=>obtain⟨t,rfl⟩:=F;exact qH.bool_str a b t
  |_=>exact absurd (show false=true from O) oV
 |int a =>
  obtain⟨t',rfl⟩:=ry;cases x with
  |A5=>cases F;exact qH.int_none a t'
  |bl b=>cases F;exact qH.int_bool a t' b
  |int b=>obtain⟨t,rfl⟩:=F;exact qH.int_int a t' b t
  |str b=>obtain⟨t,rfl⟩:=F;exact aaI a t' b t
  |_=>exact absurd (show false=true from O) oV
 |str a =>
  obtain⟨t',rfl⟩:=ry;cases x with
  |A5=>cases F;exact qH.str_none a t'
  |bl b=>cases F;exact qH.str_bool a t' b
  |int b=>obtain⟨t,rfl⟩:=F;exact aaJ a t' b t
  |str b=>obtain⟨t,rfl⟩:=F;exact qH.str_str a t' b t
  |_=>exact absurd (show false=true from O) oV
 |_=>exact absurd (show false=true from fy) oV
def Hn(x:V)(u:Value):Bool:=match u with
 |.none=>Hk .A5 x
 |.bool b=>Hk (.bl b) x
 |.int i _=>Hk (.int i) x
 |.str z _=>Hk (.str z) x
 |_=>false
def VA(r:Av y u)(f:HL y=true):Hn x u=Hk y x:=by
 cases y with
 |A5=>cases r;rfl
 |bl b=>cases r;rfl
 |int i=>obtain⟨t,rfl⟩:=r;rfl
 |str z=>obtain⟨t,rfl⟩:=r;rfl
 |_=>exact absurd (show false=true from f) oV
def O0:∀{xs:List V} {us:List Value},Af xs us->xs.all HL=true->us.any (Hn x)=xs.any λy=>Hk y x
 |_,_,.nil,_=>rfl
 |y :: xs,u :: us,.cons r t,f=>by
  rw[zZ,qX]at f;rw[vA,vA,VA r f.1,O0 t f.2]
def Oo(F:Av x v)(O:HL x=true):∀{xs:List V} {us:List Value},Af xs us->xs.all HL=true->∀u∈us,qH A s u v (Hn x u)
 |_,_,.nil,_=>λu hu=>by cases hu
 |y :: xs,u :: us,.cons r t,f=>λu' hu=>by
  rw[zZ,qX]at f;rcases oj.mp hu with rfl|hu
  ·rw[VA r f.1];exact jI r F f.1 O
  ·exact Oo F O t f.2 u' hu
def OH(x:V)(xs:List V):Bool:=xs.any λy=>Hk y x
def mw(K:nT)(F:Bool):R2:=λx y H Q=>∃p xs,y=.ref p/\(AI K H p xs\/AH K H p xs)/\HL x=true/\xs.all HL=true/\Q (.bl (if F then !OH x xs else OH x xs)) H
def ZO:Bf X (rH .In) (mw X.K false):=by
 intro gt s σ H x y v u Q I rx ry h;obtain⟨p,xs,rfl,hq,fx,fs,q⟩:=h;cases ry;rcases hq with hq|hq
 ·obtain⟨F,r,pl,hz⟩:=I.list hq;refine SeqAt.in_listAt (Hn x) pl.isList (λw O=>Oo rx fx r fs w (by simpa using O)) ⟨.bl _,H,I,J,?_⟩;rw[show F.toArray.any (Hn x)=F.any (Hn x) by simp,O0 r fs];exact q
 ·obtain⟨F,r,pl,hz⟩:=I.tuple hq;refine SeqAt.in_tupleAt (Hn x) pl (λw O=>Oo rx fx r fs w (by simpa using O)) ⟨.bl _,H,I,J,?_⟩;rw[show F.toArray.any (Hn x)=F.any (Hn x) by simp,O0 r fs];exact q
inductive Ke(K:nT)(xs:List V)(H:Hp)(Q:VK):Prop
 |mk (p:Addr) (ys:List V) (e:xs=[.ref p]) (s:AI K H p ys\/AH K H p ys) (q:Q (.int ys.length) H):Ke K xs H Q
def RN:CQ X (.builtin "len") (Ke X.K):=by
 intro gt s σ H xs us Q I r h;obtain⟨p,ys,rfl,hq,q⟩:=h;obtain⟨u,rfl,O⟩:=El r;cases O;have hn:=NC;rcases hq with hq|hq
 ·obtain⟨aa,r',pl,hz⟩:=I.list hq;have F:=r'.length;exact Calls.call_len_list pl.isList (by simp only[ou]<;>lia) ⟨.int ys.length,H,I.De _,⟨s.toks+1,by rw[ou,F]⟩,q⟩
 ·obtain⟨aa,r',pl,hz⟩:=I.tuple hq;have F:=r'.length;exact len_tuple pl (by simp only[ou]<;>lia) ⟨.int ys.length,H,I.De _,⟨s.toks+1,by rw[ou,F]⟩,q⟩
def CQ.or(h:CQ X f r)(h':CQ X f r'):CQ X f (λxs H Q=>r xs H Q\/r' xs H Q):=by
 intro gt s σ H xs us Q I rs q;rcases q with q|q
 ·exact h gt s σ H xs us Q I rs q
 ·exact h' gt s σ H xs us Q I rs q
def XZ:CQ X (.type "list") (λxs H Q=>∃p ys,xs=[.ref p]/\(AI X.K H p ys\/AH X.K H p ys)/\∀l,H l=none->Q (.ref l) (AF H l (.AE ys))):=by
 intro gt s σ H xs us Q I r h;obtain⟨p,ys,rfl,hq,q⟩:=h;obtain⟨u,rfl,rx⟩:=El r;cases rx;have aa:∀(F:List Value),Af ys F->ys.length<=oK->∀(h':Heap) (O:Nat),(∀b o',s.heap.get? b=some o'->h'.get? b=some o') →
   h'.get? s.heap.objs.size=some { cls:=.type "list",dict:=none,data:=.seq F.toArray O,slots:=#[]}->EP X gt σ Q (.ref s.heap.objs.size) { s with heap:=h'}:=λF r' hz h' O kp e =>
  ⟨.ref s.heap.objs.size,_,I.laid (t':=s.toks) kp (nQ _) (show Bh X.prog X.w _ h' _ (.AE ys) from ⟨hz,F,O,r',e⟩),J,q _ (I.Aj.fresh (nQ _))⟩
 rcases hq with hq|hq
 ·obtain⟨F,r',pl,hz⟩:=I.list hq;have ab:=r'.length;obtain⟨o,ho,hc,n,hd⟩:=pl.isList;exact call_list_seq p (.inl rfl) ho hc hd (λh' O kp e=>aa F r' hz h' O kp e) (by simp only[ou]<;>lia)
 ·obtain⟨F,r',pl,hz⟩:=I.tuple hq;have ab:=r'.length;obtain⟨o,ho,hc,n,hd⟩:=pl;exact call_list_seq p (.inr rfl) ho hc hd (λh' O kp e=>aa F r' hz h' O kp e) (by simp only[ou]<;>lia)
def XX:CQ X (.type "tuple") (λxs H Q=>∃p ys,xs=[.ref p]/\((AI X.K H p ys/\∀l,H l=none->Q (.ref l) (AF H l (.AG ys)))\/(AH X.K H p ys/\Q (.ref p) H))):=by
 intro gt s σ H xs us Q I r h;obtain⟨p,ys,rfl,h⟩:=h;obtain⟨u,rfl,rx⟩:=El r;cases rx;rcases h with ⟨O,q⟩|⟨O,q⟩
 ·obtain⟨F,r',pl,hz⟩:=I.list O;have aa:=r'.length;refine call_tuple_list pl.isList (λh' kp=>?_) (by simp only[ou] <;> omega);have I1:AK X gt σ H { s with heap:=h' }:=I.CC (t':=s.toks) kp;have I2:AK X gt σ (AF H h'.objs.size (.AG ys)) { s with heap:=h'.push { cls:=.type "tuple",data:=.seq F.toArray } } :=
   I1.laid (t':=s.toks) (λb o e=>nP _ e) (nQ _) (show Bh X.prog X.w _ _ _ (.AG ys) from ⟨hz,F,r',abU _ _,_,oq _ rfl,J⟩)
  exact⟨.ref h'.objs.size,_,I2,J,q _ (I1.Aj.fresh (nQ _))⟩
 ·obtain⟨F,r',pl,hz⟩:=I.tuple O;exact call_tuple_same pl ⟨.ref p,H,I,J,q⟩
def MM(K:nT)(T:String)(x:V)(H:Hp):Prop:=match x with
 |.str _=>T="str"
 |.int _=>T="int"
 | .ref p=>(T="list"/\∃xs,AI K H p xs)\/(T="tuple"/\∃o,K.lookup p=some o/\o.cls=.type "tuple"/\o.dict=none) \/
   (T="dict"/\((∃ii,H p=some (.dK ii))\/∃ii,H p=some (.dT ii)))\/(T="set"/\∃S n,H p=some (.set S n))
 |_=>False
def gQ(I:AK X gt σ H s)(r:Av x v)(ty:MM X.K T x H):
  s.TypeIs v T/\∀a,v=.ref a->∃ob,s.heap.get? a=some ob/\ob.dict=none:=by
 cases x with
 |str z =>
  obtain⟨t,rfl⟩:=r;cases (show T="str" from ty);exact⟨typeIs_str s z t,λ_ e=>nomatch e⟩
 |int i =>
  obtain⟨t,rfl⟩:=r;cases (show T="int" from ty);exact⟨abK s i t,λ_ e=>nomatch e⟩
 |ref p =>
  cases r;rcases ty with ⟨rfl,xs,hq⟩|⟨rfl,o,F,hc,hd⟩|⟨rfl,F⟩|⟨rfl,S,n,F⟩
  ·obtain⟨aa,_,pl,_⟩:=I.list hq;refine⟨pl.isList.typeIs,λa e=>?_⟩;cases e;obtain⟨o,n,e,c,hd,_⟩:=pl;exact⟨o,e,hd⟩
  ·refine⟨⟨o,I.Dn p o F,hc⟩,λa e=>?_⟩;cases e;exact⟨o,I.Dn _ o F,hd⟩
  ·have z:∃o,s.heap.get? p=some o/\o.ExactDict:=by
    rcases F with ⟨ii,F⟩|⟨ii,F⟩
    ·obtain⟨_,_,_,_,o,_,_,e,ex,_⟩:=I.Aj p _ F;exact⟨o,e,ex⟩
    ·obtain⟨_,_,_,_,o,_,_,e,ex,_⟩:=I.Aj p _ F;exact⟨o,e,ex⟩
   obtain⟨o,e,ex⟩:=z;refine⟨⟨o,e,ex.1⟩,λa O=>?_⟩;cases O;exact⟨o,e,ex.2.1⟩
  ·obtain⟨o,_,_,_,e,ex,_⟩:=I.Aj p _ F;refine⟨⟨o,e,ex.1⟩,λa O=>?_⟩;cases O;exact⟨o,e,ex.2.1⟩
 |_=>exact qv ty
def XH(K:nT)(T:String)(r:V->List V->Hp->VK->Prop)(to:TE)(t:TA):TE:=λσ H Q=>to σ H λx H1=>MM K T x H1/\t σ H1 λxs H2=>r x xs H2 Q
variable {o:Expr}{es:List Expr}{to:TE}{t:TA}{name:Str}{apos cpos:Pos}{T id:String}{r:V->List V->Hp->VK->Prop}
def je (pa:PlainAttrs T)(ad:Slot T name id)(aa:typeOf (.builtin id)=pure (.type "method_descriptor"))(hm:Ks X id r)(ho:PE X o to)(ha:PA X (e :: es) t)
  (ac:yh o name X.env (eval o X.env)=eval o X.env:=by rfl)
  (ab:((tR cpos (oZ (e :: es) X.env)).all (λx=>!x.1) && (abu cpos (zA [] X.env)).all (λx=>x.1.isSome)
   && decide ((e :: es).length+([]:List wI).length+(if ([]:List wI).isEmpty then 0 else 1)<30))=true:=by rfl)
  (ae:(apos.endLine == cpos.line)=true:=by rfl)(hs:oZ (e :: es) X.env=(false,eval e X.env) :: oZ es X.env:=by rfl)(af:(tR cpos (oZ es X.env)).any (·.1)=false:=by rfl) :
  PE X (.Call (.Attribute o name apos) (e :: es) [] cpos) (XH X.K T r to t):=by
 intro gt s σ H Q I h;refine wpAny_Call_method_late ac ab ae rfl (Ac (ho gt s σ H _ I h) λv s1 ⟨x,H1,I1,F,ty,q1⟩=>?_);obtain⟨h1,h2⟩:=gQ I1 F ty;exists T,id,pa,ad,aa,h1,h2;have O:=ha cpos gt s1 σ H1 _ I1 q1;rw[hs]at O ⊢;refine Calls.callWith_builtin (by show(false || (tR cpos (oZ es X.env)).any (·.1))=false;rw[af]<;>rfl) (Calls.evalArgs_plain ?_);exact Ac O λus s2 ⟨vs,H2,I2,r2,q2⟩=>hm gt s2 σ H2 x vs v us Q I2 F r2 q2
end
def MD(X:Cx)(id:String)(r:V->List V->Hp->VK->Prop):Prop :=
 ∀(gt:List (Addr×Obj)) (s:nU) (σ:St) (H:Hp) (x:V) (xs:List V) (v:Value) (us:List Value) (Q:VK),AK X gt σ H s->Av x v->Af xs us->r x xs H Q →
  wpAny (model X.prog X.w) X.A (call (.builtin id) (v :: us)) (EP X gt σ Q) X.xe s
def Af.Ae:∀{x:V} {us:List Value},Af [x] us->∃u,us=[u]/\Av x u
 |_,_,.cons r .nil=>⟨_,J,r⟩
def Af.Bt:∀{x y:V} {us:List Value},Af [x,y] us->∃u v,us=[u,v]/\Av x u/\Av y v
 |_,_,_,.cons r (.cons q .nil)=>⟨_,_,J,r,q⟩
def Af.zero:∀{us:List Value},Af [] us->us=[]
 |_,.nil=>rfl
def Af.eraseIdx:∀{xs:List V} {us:List Value} (i:Nat),Af xs us->Af (xs.eraseIdx i) (us.eraseIdx i)
 |_,_,_,.nil=>.nil
 |_,_,0,.cons _ t=>t
 |_,_,i+1,.cons r t=>.cons r (Af.eraseIdx i t)
def Af.reverse(h:Af xs us):Af xs.reverse us.reverse:=by
 induction h with
 |nil=>exact .nil
 |cons r t ih=>rw[aaV,aaV];exact Af.append ih (.cons r .nil)
def Af.XF(h:Af xs us):∀k:Nat,Af (nY k xs).flatten (nY k us).flatten
 |0=>.nil
 |k+1=>by
  rw[pE,pE,oQ,oQ];exact Af.append h (Af.XF h k)
def SA{α:Type}:∀(l:List α) (i:Nat),(l.eraseIdx i).length<=l.length
 |[],_=>nQ _
 |_ :: _,0=>Nat.le_succ _
 |_ :: r,i+1=>Nat.succ_le_succ (SA r i)
def SM(F:List Value):∀(k:Nat) (O:List Value),
  vU (λx1 x2=>x1++x2) O.toArray (nY k F.toArray)=(O++(nY k F).flatten).toArray
 |0,O=>by simp
 |k+1,O=>by
  have e:O.toArray++F.toArray=(O++F).toArray:=by simp
  have e2:(O++F)++(nY k F).flatten=O++(nY (k+1) F).flatten:=by
   rw[pE,oQ,p7]
  rw[<-e2,<-SM F k (O++F),<-e,pE,vI]
section
variable {X:Cx}{gt:List (Addr×Obj)}{σ:St}{H:Hp}{s:nU}{l b:Addr}{xs ys zs:List V}
def AK.Nz {F its':List Value}{n:Nat}{f:Array Value->Array Value}{t':Nat}(I:AK X gt σ H s)(hH:H l=some (.AE xs))
  (e:s.heap.get? l=some { cls:=.type "list",data:=.seq F.toArray n})(hf:f F.toArray=its'.toArray)(hv:Af ys its')(hz:ys.length<=oK) :
  AK X gt σ (AF H l (.AE ys)) { s with heap:=s.heap.update l (vV f),toks:=t'}:=by
 have q:=PySem.IsL.update e f;rw[hf]at q;refine I.JF (x:=l) (e:=l) (by rw[hH];exact trivial) (.inl rfl) (λb' u O hu=>(rN s.heap (vV f) (qu O)).trans hu) ⟨_,q⟩ ?_;exact⟨hz,its',_,hv,q⟩
def AK.Wm(I:AK X gt σ H s)(O:Af ys F)(hz:ys.length<=oK):
  AK X gt σ (AF H s.heap.objs.size (.AE ys)) { s with heap:=s.heap.push { cls:=.type "list",data:=.seq F.toArray},toks:=t'} :=
 I.laid (λ_ _ q=>nP _ q) (nQ _) ⟨hz,F,0,O,oq _ rfl⟩
def AK.fresh(I:AK X gt σ H s):H s.heap.objs.size=none:=I.Aj.fresh (nQ _)
def AK.HZ(I:AK X gt σ H s)(O:H l=some (.AE xs)):xs.length<=oK/\∃(F:List Value) (n:Nat),Af xs F/\xs.length=F.length/\s.heap.get? l=some { cls:=.type "list",data:=.seq F.toArray n}:=by
 obtain⟨z,F,n,r,e⟩:=I.Aj l _ O;exact⟨z,F,n,r,r.length,e⟩
def So(h:n<=oK):uw n=false:=by
 unfold uw;exact qi (by lia)
end
section
variable {X:Cx}
inductive Wr(x:V)(vs:List V)(H:Hp)(Q:VK):Prop
 |mk (l:Addr) (xs:List V) (y:V) (O:x=.ref l) (F:vs=[y]) (h:H l=some (.AE xs)) (n:xs.length<oK) (q:Q .A5 (AF H l (.AE (xs++[y])))):Wr x vs H Q
def gE:V->List V->Hp->VK->Prop:=λx vs H Q=>Wr x vs H Q
def D1:MD X "list.append" gE:=by
 intro gt s σ H x vs v us Q I rx rv h;obtain⟨l,xs,y,rfl,rfl,hH,hz,q⟩:=h;cases rx;obtain⟨u,rfl,ru⟩:=rv.Ae;obtain⟨z,O,n,r,hl,e⟩:=I.HZ hH;refine vY F.slot_list_append ⟨_,e,J⟩ F.entry_list_append (F.args_list_append_2 _ _) (PySem.list_append l O.toArray n u (by rw[ou];lia)) ⟨e,?_⟩;refine⟨.A5,_,I.Nz (its':=O++[u]) hH e (by simp) (r.append (.cons ru .nil)) ?_,J,q⟩;rw[oa,qF]
 lia
def fQ:V->List V->Hp->VK->Prop:=λx vs H Q=>∃l b xs zs,x=.ref l/\vs=[.ref b]/\H l=some (.AE xs)/\H b=some (.AE zs)/\xs.length+zs.length<=oK/\Q .A5 (AF H l (.AE (xs++zs)))
def R9:MD X "list.extend" fQ:=by
 intro gt s σ H x vs v us Q I rx rv h;obtain⟨l,b,xs,zs,rfl,rfl,hH,hB,hz,q⟩:=h;cases rx;obtain⟨u,rfl,ru⟩:=rv.Ae;cases ru;obtain⟨z,O,n,r,hl,e⟩:=I.HZ hH;obtain⟨z2,aa,n2,r2,ac,e2⟩:=I.HZ hB;have hsz:O.toArray.size+aa.toArray.size<=oK:=by rw[ou,ou];lia
 have ab:¬(!O.toArray.isEmpty && uw (O.toArray.size+aa.toArray.size))=true:=by
  rw[So hsz,Bool.and_false];exact oV
 refine vY F.slot_list_extend ⟨_,e,J⟩ F.entry_list_extend (F.args_list_extend_2 _ _)
  (AutoSeq1.list_extend_list_list_0 l O.toArray n b aa.toArray n2 ab (by rw[ou];lia) (by lia)) ⟨e,e2,?_⟩
 refine⟨.A5,_,I.Nz (its':=O++aa) hH e (by simp) (r.append r2) ?_,J,q⟩;rw[oa]
 lia
def jR:V->List V->Hp->VK->Prop:=λx vs H Q=>∃l xs i k y,x=.ref l/\vs=[.int i]/\H l=some (.AE xs)/\-(2 ^ 63)<=i/\i<2 ^ 63/\aaN i xs.length=some k/\xs[k]?=some y/\Q y (AF H l (.AE (xs.eraseIdx k)))
def Sl:MD X "list.pop" jR:=by
 intro gt s σ H x vs v us Q I rx rv h;obtain⟨l,xs,i,k,y,rfl,rfl,hH,h1,h2,hk,hy,q⟩:=h;cases rx;obtain⟨u,rfl,ru⟩:=rv.Ae;obtain⟨t,rfl⟩:=ru;obtain⟨z,O,n,r,hl,e⟩:=I.HZ hH;obtain⟨w,hw,aa⟩:=r.get hy;refine vY F.slot_list_pop ⟨_,e,J⟩ F.entry_list_pop (F.args_list_pop_2 _ _)
  (MeetsSeq.list_pop_at l O.toArray n i t k w (fitsIndex_both h1 h2) (by rw[ou,<-hl];exact hk) (by rw[<-Array.getElem?_toList];exact hw) (by rw[ou];lia)) ⟨e,?_⟩
 refine⟨y,_,I.Nz (its':=O.eraseIdx k) hH e ?_ (r.eraseIdx k) ?_,aa,q⟩
 ·show O.toArray.eraseIdxIfInBounds k=(O.eraseIdx k).toArray;rw[List.eraseIdxIfInBounds_toArray]
 ·have:=SA xs k
  lia
inductive Wj(x y:V)(H:Hp)(Q:VK):Prop
 |mk (l b:Addr) (xs zs:List V) (O:x=.ref l) (F:y=.ref b) (h1:H l=some (.AE xs)) (h2:H b=some (.AE zs)) (n:xs.length+zs.length<=oK) (q:∀p,H p=none->Q (.ref p) (AF H p (.AE (xs++zs)))):Wj x y H Q
def mN:R2:=λx y H Q=>Wj x y H Q
def HK:Bf X (tE .Add) mN:=by
 intro gt s σ H x y v u Q I rx ry h;obtain⟨l,b,xs,zs,rfl,rfl,hH,hB,hz,q⟩:=h;cases rx;cases ry;obtain⟨z,F,n,r,hl,e⟩:=I.HZ hH;obtain⟨z2,O,n2,r2,aa,e2⟩:=I.HZ hB;refine PySem.P.add_list e e2 ?_ (by rw[ou,ou];omega);have ea:F.toArray++O.toArray=(F++O).toArray:=by simp
 rw[ea];exact⟨.ref _,_,I.Wm (t':=s.toks) (r.append r2) (by rw[oa];omega),J,q _ I.fresh⟩
def WM:R2:=λx y H Q=>∃l k xs,x=.ref l/\y=.int k/\H l=some (.AE xs)/\-(2 ^ 63)<=k/\k<2 ^ 63/\xs.length*k.toNat<=oK /\
 ∀p,H p=none->Q (.ref p) (AF H p (.AE (nY k.toNat xs).flatten))
def Tf{α:Type}(xs:List α)(k:Nat):(nY k xs).flatten.length=k*xs.length:=by
 induction k with
 |zero=>simp
 |succ k ih=>rw[pE,oQ,oa,ih,Nat.succ_mul,uD]
def NL:Bf X (tE .Mult) WM:=by
 intro gt s σ H x y v u Q I rx ry h;obtain⟨l,k,xs,rfl,rfl,hH,h1,h2,hz,q⟩:=h;cases rx;obtain⟨t,rfl⟩:=ry;obtain⟨z,O,n,r,hl,e⟩:=I.HZ hH;have ad:O.toArray.size*k.toNat<=oK:=by rw[ou,<-hl];exact hz
 have ab:¬O.toArray.size*k.toNat>(2 ^ 63-1) / 8:=by
  have:(oK:Nat)<=(2 ^ 63-1) / 8:=by decide
  lia
 have ac:¬(!Builtin.List.listFitsIndex k)=true:=by
  rw[fitsIndex_both h1 h2];exact oV
 have ae:¬uw (O.toArray.size*k.toNat)=true:=by
  rw[So ad];exact oV
 have aa:vU (λx1 x2=>x1++x2) #[] (nY (if O.toArray.isEmpty=true then 0 else k.toNat) O.toArray)=(nY k.toNat O).flatten.toArray:=by
  have f0:∀m:Nat,vU (λx1 x2=>x1++x2) #[] (nY m O.toArray)=(nY m O).flatten.toArray:=λm=>by
   have:=SM O m []
   rw[wW]at this;exact this
  rw[f0];cases O with
  |nil=>simp
  |cons a r'=>rw[nS (by simp)]
 refine wpAny_binaryOp_repeat_ref (T:="list") (U:="int") (by decide) ⟨_,e,J⟩ (λs'=>abK s' k t) noFill_list_mul F.fills_int_mul abv repeat_list F.slot_int_index.lookup
  (vY abv (abK s k t) F.entry_int_rmul (F.args_int_rmul_2 _ _) (int___rmul___int_list k t l O.toArray n)
   ⟨e,J,⟨_,e,J⟩,vY F.slot_list_mul ⟨_,e,J⟩ F.entry_list_mul (F.args_list_mul_2 _ _) (AutoListH.list___mul___list_int_3 l O.toArray n k t ac ab ae) ⟨e,?_⟩⟩)
 rw[aa];exact⟨.ref _,_,I.Wm (t':=s.toks) (r.XF k.toNat) (by rw[Tf,vN];exact hz),J,q _ I.fresh⟩
end
section
variable {prog:o6}{w:World}{A:qf}{E:Value->nU->Prop}{s:nU}
end
section
variable {X:Cx}
end
section
variable {κ:Type}[DecidableEq κ]
def Bp(ii:List (κ×V))(k:κ):Option V:=(ii.find? λF=>decide (F.1=k)).map (·.2)
def CB(ii:List (κ×V))(k:κ)(v:V):List (κ×V) :=
 if (ii.any λF=>decide (F.1=k))=true then ii.map (λF=>if F.1=k then (F.1,v) else F) else ii++[(k,v)]
def WD(ii:List (κ×V))(k:κ):List (κ×V):=ii.filter λF=>decide (F.1≠k)
def EJ{p:κ×V}{k:κ}(e:p.1=k):Bp (p :: r) k=some p.2:=by simp[Bp,uQ,e]
def D3{p:κ×V}{k:κ}(e:¬p.1=k):Bp (p :: r) k=Bp r k:=by simp[Bp,uQ,e]
def K2(k:κ):∀ii:List (κ×V),(ii.any λF=>decide (F.1=k))=(Bp ii k).isSome
 |[]=>rfl
 |p :: r=>by
  rw[vA];by_cases e:p.1=k
  ·simp only[EJ e,pR e,Bool.true_or,Option.isSome_some]
  ·rw[D3 e,qi e,Bool.false_or];exact K2 k r
def TB(k j:κ)(y:V):∀ii:List (κ×V),Bp (ii.map λF=>if F.1=k then (F.1,y) else F) j=(Bp ii j).map λx=>if j=k then y else x
 |[]=>rfl
 |p :: r=>by
  have O:=TB k j y r;rw[n9];by_cases h:p.1=k
  ·rw[nX h];by_cases e:p.1=j
   ·rw[EJ (p:=(p.1,y)) e,EJ e,vJ,nX (e.symm.trans h)]
   ·rw[D3 (p:=(p.1,y)) e,D3 e,O]
  ·rw[nS h];by_cases e:p.1=j
   ·rw[EJ (p:=p) e,EJ e,vJ,nS (λz=>h (e.trans z))]
   ·rw[D3 (p:=p) e,D3 e,O]
def Rz(k j:κ)(y:V):∀ii:List (κ×V),Bp ii k=none->Bp (ii++[(k,y)]) j=if j=k then some y else Bp ii j
 |[],_=>by
  by_cases e:k=j
  ·rw[nX e.symm];exact EJ (p:=(k,y)) e
  ·rw[nS (λz=>e z.symm)];exact D3 (p:=(k,y)) e
 |p :: r,hn=>by
  rw[sX];have F:¬p.1=k:=λz=>by rw[EJ z]at hn;cases hn
  rw[D3 F]at hn;have O:=Rz k j y r hn;by_cases e:p.1=j
  ·rw[EJ e,EJ e,nS (λz=>F (e.trans z))]
  ·rw[D3 e,D3 e,O]
def Zu(ii:List (κ×V))(k j:κ)(y:V):Bp (CB ii k y) j=if j=k then some y else Bp ii j:=by
 unfold CB;by_cases a:(ii.any λF=>decide (F.1=k))=true
 ·rw[nX a,TB];rw[K2]at a;by_cases e:j=k
  ·obtain⟨x,O⟩:=uG.mp a;rw[nX e,e,O,vJ,nX rfl]
  ·rw[nS e];cases Bp ii j with
   |none=>rfl
   |some x=>rw[vJ,nS e]
 ·rw[nS a];refine Rz k j y ii ?_;rw[K2]at a;cases q:Bp ii k with
  |none=>rfl
  |some x=>rw[q]at a;exact(a rfl).elim
def MN(ii:List (κ×V))(k:κ)(v:V):(CB ii k v).length<=ii.length+1:=by
 unfold CB;split
 ·rw[nh];lia
 ·rw[oa,oP,rD];lia
def Er.Kz(r:Er o u):o.isSome=u.isSome:=by
 cases o with
 |none=>cases u with
  |none=>rfl
  |some _=>exact(show False from r).elim
 |some _=>cases u with
  |none=>exact(show False from r).elim
  |some _=>rfl
def Er.getD(r:Er o u)(F:Av d d'):Av (o.getD d) (u.getD d'):=by
 cases o with
 |none=>cases u with
  |none=>exact F
  |some _=>exact(show False from r).elim
 |some _=>cases u with
  |none=>exact(show False from r).elim
  |some _=>exact r
def KV.Ih(r:KV ii vs)(k:κ):Er (Bp ii k) (yI vs k):=by
 unfold KV at r
 induction r with
 |nil=>exact tD
 |@cons p q ps qs h t ih =>
  obtain⟨h1,h2⟩:=h;by_cases e:p.1=k
  ·have F:q.1=k:=h1.symm.trans e;have b:yI (q :: qs) k=some q.2:=by simp[yI,uQ,F]
   rw[EJ e,b];exact h2
  ·have F:¬q.1=k:=λz=>e (h1.trans z)
   have b:yI (q :: qs) k=yI qs k:=by simp[yI,uQ,F]
   rw[D3 e,b];exact ih
def KV.any(r:KV ii vs)(k:κ):(ii.any λF=>decide (F.1=k))=vs.any λF=>decide (F.1=k):=by
 unfold KV at r
 induction r with
 |nil=>rfl
 |cons h t ih=>rw[vA,vA,ih,h.1]
def KV.Ql(r:KV ii vs)(k:κ)(O:Av y u):
  KV (ii.map λF=>if F.1=k then (F.1,y) else F) (vs.map λF=>if F.1=k then (F.1,u) else F):=by
 unfold KV at r ⊢
 induction r with
 |nil=>exact .nil
 |@cons p q ps qs h t ih =>
  rw[n9,n9];refine .cons ?_ ih;obtain⟨h1,h2⟩:=h;by_cases e:p.1=k
  ·rw[nX e,nX (h1.symm.trans e)];exact⟨h1,O⟩
  ·rw[nS e,nS (λz=>e (h1.trans z))];exact⟨h1,h2⟩
def KV.put(r:KV ii vs)(k:κ)(F:Av y u):KV (CB ii k y) (stored vs k u):=by
 unfold CB stored;rw[r.any k];by_cases e:(vs.any λO=>decide (O.1=k))=true
 ·rw[nX e,nX e];exact r.Ql k F
 ·rw[nS e,nS e];exact wz.snoc r ⟨J,F⟩
def KV.drop(r:KV ii vs)(k:κ):KV (WD ii k) (without vs k):=by
 unfold KV at r ⊢;unfold WD without
 induction r with
 |nil=>exact .nil
 |@cons p q ps qs h t ih =>
  obtain⟨h1,h2⟩:=h;rw[yL,yL];by_cases e:p.1=k
  ·have a:¬decide (p.1≠k)=true:=by simp[e]
   have b:¬decide (q.1≠k)=true:=by simp[h1.symm.trans e]
   rw[nS a,nS b];exact ih
  ·have F:¬q.1=k:=λz=>e (h1.trans z)
   have a:decide (p.1≠k)=true:=by simp[e]
   have b:decide (q.1≠k)=true:=by simp[F]
   rw[nX a,nX b];exact .cons ⟨h1,h2⟩ ih
def KV.length{ii:List (κ×V)}(r:KV ii vs):ii.length=vs.length:=abZ r
end
def KQ(r:Av (kV k) u):(D4 P w).is k u=true:=by
 cases k with
 |inl i=>obtain⟨t,e⟩:=(show ∃t,u=xZ i t from r);subst e;exact Xq P w i t
 |inr x=>obtain⟨t,e⟩:=(show ∃t,u=aaK x t from r);subst e;exact Xj P w x t
def SH:∀{ks:List Aq} {us:List Value},Af (ks.map kV) us->ItemsAre (D4 P w) ks us
 |[],_,r=>by rw[p9]at r;cases r;exact .nil
 |k :: ks,_,r=>by
  rw[n9]at r;cases r with
  |cons h t=>exact .cons (KQ h) (SH t)
abbrev KT(H:Hp):List (List Aq×V)->List (List Aq×Addr×Value)->Prop:=wz λp q=>p.1=q.1/\H q.2.1=some (.AG (p.1.map kV))/\Av p.2 q.2.2
def KT.Ih(r:KT H ii xs)(k:List Aq):Er (Bp ii k) ((atKey xs k).map (·.2)):=by
 induction r with
 |nil=>exact tD
 |@cons p q ps qs h t ih =>
  obtain⟨h1,_,h2⟩:=h;by_cases e:p.1=k
  ·have F:q.1=k:=h1.symm.trans e;have b:atKey (q :: qs) k=some q.2:=by simp[atKey,uQ,F]
   rw[EJ e,b];exact h2
  ·have F:¬q.1=k:=λz=>e (h1.trans z)
   have b:atKey (q :: qs) k=atKey qs k:=by simp[atKey,uQ,F]
   rw[D3 e,b];exact ih
def KT.Ql(r:KT H ii xs)(k:List Aq)(O:Av y u):
  KT H (ii.map λF=>if F.1=k then (F.1,y) else F) (xs.map (putAt k u)):=by
 induction r with
 |nil=>exact .nil
 |@cons p q ps qs h t ih =>
  rw[n9,n9];refine .cons ?_ ih;obtain⟨h1,h2,h3⟩:=h;unfold putAt;by_cases e:p.1=k
  ·rw[nX e,nX (h1.symm.trans e)];exact⟨h1,h2,O⟩
  ·rw[nS e,nS (λz=>e (h1.trans z))];exact⟨h1,h2,h3⟩
def KT.put(r:KT H ii xs)(k:List Aq)(O:H b=some (.AG (k.map kV)))(F:Av y u):
  KT H (CB ii k y) (storedH xs k b u):=by
 have e:(ii.any λkv=>decide (kv.1=k))=(atKey xs k).isSome:=by
  rw[K2,(r.Ih k).Kz,yu]
 unfold CB storedH;rw[e];by_cases q:(atKey xs k).isSome=true
 ·rw[nX q,nX q];exact r.Ql k F
 ·rw[nS q,nS q];exact wz.snoc r ⟨J,O,F⟩
def KT.keeps(r:KT H ii xs)(F:∀b ys,H b=some (.AG ys)->H' b=some (.AG ys)):KT H' ii xs :=
 wz.Qa r λ_ _ z=>⟨z.1,F _ _ z.2.1,z.2.2⟩
section
variable {P:o6}{w:World}{H:Hp}{h:Heap}{a:Addr}
def Vf(F:CA P w H h)(e:Rd H a u):Bh P w H h a u:=e.ok F
def KU(F:CA P w H h)(e:Rd H a (.dK ii)):ii.length<=oK/\(a == uq)=false/\∃vs,KV ii vs/\h.DictOf (D4 P w) a vs :=
 show Bh P w H h a (.dK ii) from Vf F e
def Vn(F:CA P w H h)(e:H a=some (.dK ii)):ii.length<=oK/\(a == uq)=false/\∃vs,KV ii vs/\h.DictOf (D4 P w) a vs:=KU F (.inl e)
def LP(O:CA P w H h)(e:H a=some (.AG (ks.map kV))):(zo (D4 P w)).is h ks a:=by
 obtain⟨_,F,r,⟨o,h1,h2,n,h3⟩,_⟩:=(show Bh P w H h a (.AG (ks.map kV)) from O a _ e);exact⟨o,F.toArray,n,h1,h2,h3,by simpa using SH r⟩
def La(F:CA P w H h)(e:Rd H a (.dT ii)):ii.length<=oK/\(a == uq)=false /\
  ∃xs,KT H ii xs/\h.DictOfH (zo (D4 P w)) a xs:=by
 obtain⟨z,y,xs,r,o,es,ep,h1,h2,O,h4,h5⟩:=(show Bh P w H h a (.dT ii) from Vf F e);refine⟨z,y,xs,r,o,es,ep,h1,h2,O,h4,λx hx=>?_,h5⟩;have all:∀{l:List (List Aq×V)} {m:List (List Aq×Addr×Value)},KT H l m->∀x∈m,(zo (D4 P w)).is h x.1 x.2.1:=by
  intro l m q
  induction q with
  |nil=>intro x hx;exact nomatch hx
  |@cons p q ps qs hq t ih =>
   intro x hx;rcases oj.mp hx with e|hx
   ·subst e;exact LP F (by rw[<-hq.1];exact hq.2.1)
   ·exact ih x hx
 exact all r x hx
def j0(F:CA P w H h)(e:H a=some (.dT ii)):ii.length<=oK/\(a == uq)=false /\
  ∃xs,KT H ii xs/\h.DictOfH (zo (D4 P w)) a xs:=La F (.inl e)
end
def DL(H:Hp)(a:Addr)(y:V)(r:Option V):Prop :=
 (∃ii k,Rd H a (.dK ii)/\y=kV k/\r=Bp ii k)\/∃ii k b,Rd H a (.dT ii)/\y=.ref b/\H b=some (.AG (k.map kV))/\r=Bp ii k
def D6(H:Hp)(a:Addr)(y v:V)(H':Hp):Prop :=
 (∃ii k,H a=some (.dK ii)/\y=kV k/\ii.length<oK/\H'=AF H a (.dK (CB ii k v))) \/
 ∃ii k b,H a=some (.dT ii)/\y=.ref b/\H b=some (.AG (k.map kV))/\ii.length<oK/\H'=AF H a (.dT (CB ii k v))
def DL.k{k}(e:H a=some (.dK ii)):DL H a (kV k) (Bp ii k):=.inl ⟨ii,k,.inl e,J,J⟩
def DL.t{k}(e:H a=some (.dT ii))(F:H b=some (.AG (k.map kV))):DL H a (.ref b) (Bp ii k):=.inr ⟨ii,k,b,.inl e,J,F,J⟩
def D6.k{k}(e:H a=some (.dK ii))(F:ii.length<oK):D6 H a (kV k) v (AF H a (.dK (CB ii k v))):=.inl ⟨ii,k,e,J,F,J⟩
def D6.t{k}(e:H a=some (.dT ii))(F:H b=some (.AG (k.map kV)))(O:ii.length<oK):
  D6 H a (.ref b) v (AF H a (.dT (CB ii k v))):=.inr ⟨ii,k,b,e,J,F,O,J⟩
section
variable {X:Cx}{gt:List (Addr×Obj)}{σ:St}{H:Hp}{s:nU}{a:Addr}{y v:V}{u r:Value}{o:Option V}{A:qf}{E:Value->nU->Prop}
def AK.GB(I:AK X gt σ H s):uq<s.heap.objs.size:=by
 have h:rh<s.heap.objs.size:=(I.Dd.Hh.keeps I.bk).lt;exact aaA (by decide) h
def Yd(hu:A.units+1<cLine)(I:AK X gt σ H s)(g:DL H a y (some v))(ry:Av y u)(h:∀F s',AK X gt σ H s'->Av v F->Q F s'):
  wpAny (model X.prog X.w) A (v5 (.ref a) u) Q E s:=by
 rcases g with ⟨ii,k,e,O,l⟩|⟨ii,k,b,e,O,eb,l⟩
 ·subst O;obtain⟨z,hd,vs,rel,dd⟩:=KU I.Aj e;obtain⟨F,hw,aa⟩:=Er.UP (v:=v) (o:=yI vs k) (by rw[l];exact rel.Ih k);exact wpAny_getItem_of (KQ ry) dd.mapOf hw (h F _ (I.De _) aa)
 ·subst O;cases (show u=qW b from ry);obtain⟨z,hd,xs,rel,dd⟩:=La I.Aj e;obtain⟨F,hw,aa⟩:=Er.UP (v:=v) (o:=(atKey xs k).map (·.2)) (by rw[l];exact rel.Ih k);obtain⟨p,hp,ab⟩:=rP.mp hw;refine wpAny_getItem_heap (vQ hu) (LP I.Aj eb) dd hp ?_;rw[ab];exact h F _ (I.De _) aa
def mO(hu:A.units+1<cLine)(I:AK X gt σ H s)(g:DL H a y o)(ry:Av y u)(h:∀s',AK X gt σ H s'->Q (.bool o.isSome) s'):
  wpAny (model X.prog X.w) A (rH .In u (.ref a)) Q E s:=by
 rcases g with ⟨ii,k,e,F,l⟩|⟨ii,k,b,e,F,eb,l⟩
 ·subst F;obtain⟨z,hd,vs,rel,O⟩:=KU I.Aj e;refine wpAny_in_of (KQ ry) hd O.mapOf ?_;rw[<-(rel.Ih k).Kz,<-l];exact h _ (I.De _)
 ·subst F;cases (show u=qW b from ry);obtain⟨z,hd,xs,rel,O⟩:=La I.Aj e;refine wpAny_in_heap (vQ hu) (LP I.Aj eb) hd O ?_;have q:=(rel.Ih k).Kz;rw[yu]at q;rw[<-q,<-l];exact h _ (I.De _)
def cG(hu:A.units+1<cLine)(I:AK X gt σ H s)(g:DL H a y o)(ry:Av y u)(h:∀s',AK X gt σ H s'->Q (.bool (!o.isSome)) s'):
  wpAny (model X.prog X.w) A (rH .NotIn u (.ref a)) Q E s:=by
 rcases g with ⟨ii,k,e,F,l⟩|⟨ii,k,b,e,F,eb,l⟩
 ·subst F;obtain⟨z,hd,vs,rel,O⟩:=KU I.Aj e;refine wpAny_notIn_of (KQ ry) hd O.mapOf ?_;rw[<-(rel.Ih k).Kz,<-l];exact h _ (I.De _)
 ·subst F;cases (show u=qW b from ry);obtain⟨z,hd,xs,rel,O⟩:=La I.Aj e;refine wpAny_notIn_heap (vQ hu) (LP I.Aj eb) hd O ?_;have q:=(rel.Ih k).Kz;rw[yu]at q;rw[<-q,<-l];exact h _ (I.De _)
def PL(I:AK X gt σ H s)(mu:MF (H a))(hs:p8 a s.heap h')(he:∃q,h'.get? a=some q)(F:Bh X.prog X.w (AF H a ob) h' a ob):
  AK X gt σ (AF H a ob) { s with heap:=h',toks:=t'} :=
 I.JF (x:=a) (e:=a) mu (.inl rfl) (λb q O z=>(hs.2 b O).trans z) he F
def VM(z:ii.length<=oK)(hd:(a == uq)=false)(rel:KV ii vs)(F:h'.DictOf (D4 P w) a vs):
  Bh P w H' h' a (.dK ii):=⟨z,hd,vs,rel,F⟩
def Y8(hu:A.units+1<cLine)(I:AK X gt σ H s)(g:D6 H a y v H')(ry:Av y u)(rv:Av v r)(h:∀s',AK X gt σ H' s'->Q () s'):
  wpAny (model X.prog X.w) A (setItem (.ref a) u r) Q E s:=by
 rcases g with ⟨ii,k,e,ey,l,eH⟩|⟨ii,k,b,e,ey,eb,l,eH⟩
 ·subst ey eH;obtain⟨z,hd,vs,rel,dd⟩:=Vn I.Aj e;have hz:vs.length<=oK:=by rw[<-rel.length];exact z
  have hl:(CB ii k v).length<=oK:=by have:=MN ii k v;lia
  refine wpAny_setItem_pairs (hsz:=hz) (KQ ry) dd λh' O hs=>h _ ?_
  have he:∃q,h'.get? a=some q:=let ⟨q,_,_,F,_⟩:=O;⟨q,F⟩
  exact PL I (by rw[e];exact tD) hs he (VM hl hd (rel.put k rv) O)
 ·subst ey eH;cases (show u=qW b from ry);obtain⟨z,hd,xs,rel,dd⟩:=j0 I.Aj e;have hz:xs.length<=oK:=by rw[<-Paired.length rel];exact z
  have hl:(CB ii k v).length<=oK:=by have:=MN ii k v;lia
  refine wpAny_setItem_heap (hsz:=hz) (vQ hu) (LP I.Aj eb) dd λh' O hs=>h _ ?_
  obtain⟨q,es,ep,F,h2,h3,h4,_,h5⟩:=O;refine PL I (by rw[e];exact tD) hs ⟨q,F⟩ ⟨hl,hd,_,(rel.put k eb rv).keeps λc ys ec=>?_,q,es,ep,F,h2,h3,h4,h5⟩;rw[Ad (jd ec e (λz=>nomatch z))];exact ec
end
section
variable {X:Cx}{gt:List (Addr×Obj)}{σ:St}{H:Hp}{s:nU}{a:Addr}{ii:List (Aq×V)}{k:Aq}{u:Value}{A:qf}{E:Value->nU->Prop}
def kA(I:AK X gt σ H s)(e:Rd H a (.dK ii))(h:∀t s',AK X gt σ H s'->Q (.int ii.length t) s'):wpAny (model X.prog X.w) A (call (.builtin "len") [.ref a]) Q E s:=by
 obtain⟨z,hd,vs,rel,F⟩:=KU I.Aj e;refine call_len_dict hd F (by rw[<-rel.length];rw[sQ]at z;lia) ?_;rw[<-rel.length];exact h _ _ (I.De _)
end
def Q0(i:Expr):Prop:=∀O F,zC i false O F=operate [O,F] (v5 O F)
def gH {T id:String}
  (hl:typeLookup (.type T) "__getitem__" = pure (some (.builtin id)))(hs:Q0 slice)
  (h:wpAny (model prog w) A (eval value env) (λo s₁=>wpAny (model prog w) A (eval slice env) (λi F=>F.TypeIs o T/\wpAny (model prog w) A (v5 o i) Q E F) E s₁) E s) :
  wpAny (model prog w) A (eval (.Subscript value slice pos) env) Q E s:=by
 refine abH (qG h (λo s₁ h₁=>qG h₁ (λi F O=>?_) λ_ _ x=>x) λ_ _ x=>x);obtain⟨hT,O⟩:=O;unfold aad;refine nv ?_;rw[getitemInPython_of_ne hT.not_modules];refine nv (wpAny_specialOf hT hl ?_);have aa:wpAny (model prog w) A (zC slice false o i) (λr s₃=>wpAny (model prog w) A (letTemporaryGo value o r >>= λ_=>pure r) Q E s₃) E F:=by
  rw[hs o i];exact wpAny_operating (qG O (λr s₃ h₃=>nv (wpAny_letTemporaryGo (nZ h₃))) λ_ _ x=>x)
 first
  |exact nZ (nv aa)
  |exact nv (nZ (nv aa))
  |exact nv aa
def Xk(I:AK X gt σ H s)(g:DL H a y o):s.TypeIs (.ref a) "dict":=by
 rcases g with ⟨ii,k,e,_,_⟩|⟨ii,k,b,e,_,_,_⟩
 ·obtain⟨_,_,vs,_,F⟩:=KU I.Aj e;exact F.typeIs
 ·obtain⟨_,_,xs,_,F⟩:=La I.Aj e;exact F.typeIs
inductive Vr(x y:V)(H:Hp)(Q:VK):Prop
 |mk (a:Addr) (v:V) (e:x=.ref a) (d:DL H a y (some v)) (q:Q v H):Vr x y H Q
inductive Wt(x y:V)(H:Hp)(Q:VK):Prop
 |mk (a:Addr) (o:Option V) (e:x=.ref a) (d:DL H a y o) (q:Q (.bl o.isSome) H):Wt x y H Q
inductive WC(x y v:V)(H:Hp)(Q:Hp->Prop):Prop
 |mk (a:Addr) (F:Hp) (e:x=.ref a) (d:D6 H a y v F) (q:Q F):WC x y v H Q
def Le(td ty:TE):TE:=λσ H Q=>td σ H λx H1=>ty σ H1 λy H2=>Vr x y H2 Q
def kf(ty td:TE):TE:=λσ H Q=>ty σ H λy H1=>td σ H1 λx H2=>Wt x y H2 Q
def dB(ty td:TE):TE:=λσ H Q=>ty σ H λy H1=>td σ H1 λx H2=>∃a o,x=.ref a/\DL H2 a y o/\Q (.bl (!o.isSome)) H2
def Vc(td ty tv:TE):TS:=λD σ H=>tv σ H λv H1=>td σ H1 λx H2=>ty σ H2 λy F=>WC x y v F (D.nx σ)
section
variable {X:Cx}{o i e value:Expr}{pos pos' tpos:Pos}{td ty tv:TE}
def cR(hu:X.A.units+1<cLine)(ho:PE X o td)(hi:PE X i ty)(hs:Q0 i):PE X (.Subscript o i pos) (Le td ty):=by
 intro gt s σ H Q I h;refine gH PySem.F.slot_dict_getitem.lookup hs (Ac (ho gt s σ H _ I h) λu s1 ⟨x,H1,I1,rx,q1⟩=>Ac (hi gt s1 σ H1 _ I1 q1) λiv s2 ⟨y,H2,O,ry,a,v,ex,g,q2⟩=>?_);subst ex;obtain rfl:u=qW a:=rx;exact⟨Xk O g,Yd hu O g ry λw' s3 I3 aa=>⟨v,H2,I3,aa,q2⟩⟩
def VD(hu:X.A.units+1<cLine)(hi:PE X i ty)(ho:PE X o td):PC X .In i o (kf ty td):=by
 intro gt s σ H Q I h;refine Ac (hi gt s σ H _ I h) λiv s1 ⟨y,H1,I1,ry,q1⟩=>Ac (ho gt s1 σ H1 _ I1 q1) λu s2 ⟨x,H2,I2,F,a,ov,ex,g,O⟩=>?_
 subst ex;obtain rfl:u=qW a:=F;exact mO hu I2 g ry λs3 I3=>⟨.bl ov.isSome,H2,I3,J,O⟩
def MR(hu:X.A.units+1<cLine)(hi:PE X i ty)(ho:PE X o td):PC X .NotIn i o (dB ty td):=by
 intro gt s σ H Q I h;refine Ac (hi gt s σ H _ I h) λiv s1 ⟨y,H1,I1,ry,q1⟩=>Ac (ho gt s1 σ H1 _ I1 q1) λu s2 ⟨x,H2,I2,F,a,ov,ex,g,O⟩=>?_
 subst ex;obtain rfl:u=qW a:=F;exact cG hu I2 g ry λs3 I3=>⟨.bl (!ov.isSome),H2,I3,J,O⟩
def Gv(hu:X.A.units+1<cLine)(ho:PE X o td)(hi:PE X i ty)(hv:PE X value tv)(hs:x4 value (some (.Subscript o i pos')) pos.line X.env=pure false):
  PS X (.Assign [.Subscript o i pos'] value pos) (Vc td ty tv):=by
 intro gt s σ H D I h;refine wpAny_Assign_Subscript (Ac (hv gt s σ H _ I h) λr s1 ⟨v,H1,I1,rv,q1⟩=>Ac (ho gt s1 σ H1 _ I1 q1) λu s2 ⟨x,H2,I2,F,O⟩=>Ac (hi gt s2 σ H2 _ I2 O) λiv s3 ⟨y,H3,I3,ry,a,H4,ex,g,q3⟩=>?_) hs;subst ex;obtain rfl:u=qW a:=F;exact Y8 hu I3 g ry rv λs4 I4=>⟨σ,H4,I4,q3⟩
end
def Sd(h:Heap)(F:uq<h.objs.size):Bh P w H (h.push { cls:=.type "dict",data:=.dict #[]}) h.objs.size (.dK []) :=
 ⟨pD _,beq_eq_false_iff_ne.mpr (qu (o8 F)),[],.nil,Heap.DictOf.new h⟩
def ZU(h:Heap)(F:uq<h.objs.size):Bh P w H (h.push { cls:=.type "dict",data:=.dict #[]}) h.objs.size (.dT []) :=
 ⟨pD _,beq_eq_false_iff_ne.mpr (qu (o8 F)),[],.nil,_,#[],0,oq _ rfl,⟨J,J,J⟩,J,J,abQ⟩
def U5:TE:=λ_ H Q=>∀p,H p=none->Q (.ref p) (AF H p (.dK []))
def iq:TE:=λ_ H Q=>∀p,H p=none->Q (.ref p) (AF H p (.dT []))
section
variable {X:Cx}{pos:Pos}
def Mb:PE X (.Dict [] [] pos) U5:=λgt s σ H Q I h =>
 wpAny_Dict_empty ⟨.ref s.heap.objs.size,_,I.laid (a:=s.heap.objs.size) (o:=.dK []) (t':=s.toks) (λ_ _ q=>nP _ q) (nQ _) (Sd s.heap I.GB),J,h _ (I.Aj.fresh (nQ _))⟩
def Zn:PE X (.Dict [] [] pos) iq:=λgt s σ H Q I h =>
 wpAny_Dict_empty ⟨.ref s.heap.objs.size,_,I.laid (a:=s.heap.objs.size) (o:=.dT []) (t':=s.toks) (λ_ _ q=>nP _ q) (nQ _) (ZU s.heap I.GB),J,h _ (I.Aj.fresh (nQ _))⟩
end
def P8:List (TE×TE)->St->Hp->(List (V×V)->Hp->Prop)->Prop
 |[],_,H,Q=>Q [] H
 |(tk,tv) :: r,σ,H,Q=>tk σ H λx H1=>tv σ H1 λy H2=>P8 r σ H2 λps F=>Q ((x,y) :: ps) F
abbrev VV:List (V×V)->List (Value×Value)->Prop:=wz λp q=>Av p.1 q.1/\Av p.2 q.2
def OF(X:Cx)(pos:Pos)(F:List (Option Expr))(O:List Expr)(aa:List (TE×TE)):Prop :=
 ∀(gt:List (Addr×Obj)) (s:nU) (σ:St) (H:Hp) (Q:List (V×V)->Hp->Prop),AK X gt σ H s->P8 aa σ H Q →
  wpAny (model X.prog X.w) X.A (evalPairs (pairTrees F O X.env pos)) (λvs s'=>∃ps H',AK X gt σ H' s'/\VV ps vs/\Q ps H') X.xe s
def UT:OF X pos [] [] []:=λgt s σ H Q I h=>pairTrees_nil_walk ⟨[],H,I,.nil,h⟩
def Oy(hk:PE X k tk)(hv:PE X v tv)(hr:OF X pos ks vs trs):
  OF X pos (some k :: ks) (v :: vs) ((tk,tv) :: trs):=λgt s σ H Q I h =>
 pairTrees_cons_walk (Ac (hk gt s σ H _ I h) λu s1 ⟨x,H1,I1,F,q1⟩=>Ac (hv gt s1 σ H1 _ I1 q1) λw2 s2 ⟨y,H2,I2,ry,O⟩=>
  Ac (hr gt s2 σ H2 _ I2 O) λws s3 ⟨ps,H3,I3,rel,q3⟩=>⟨(x,y) :: ps,H3,I3,.cons ⟨F,ry⟩ rel,q3⟩)
def GO(ii O:List (Aq×V)):List (Aq×V):=O.foldl (λaa F=>CB aa F.1 F.2) ii
def KV.jf:∀{F:List (Aq×V)} {rs:List (Aq×Value)} {ii:List (Aq×V)} {vs:List (Aq×Value)},KV F rs->KV ii vs->KV (GO ii F) (merged vs rs):=by
 intro F rs ii vs r;unfold KV at r
 induction r generalizing ii vs with
 |nil=>intro q;exact q
 |@cons p q ps qs h t ih =>
  intro O;have e:KV (CB ii p.1 p.2) (stored vs q.1 q.2):=by
   have:=O.put p.1 h.2
   rw[<-h.1];exact this
  exact ih e
def RM:∀(F ii:List (Aq×V)),(GO ii F).length<=ii.length+F.length
 |[],ii=>by show ii.length<=ii.length+0;lia
 |p :: r,ii=>by
  have h1:=RM r (CB ii p.1 p.2);have h2:=MN ii p.1 p.2;show(GO (CB ii p.1 p.2) r).length<=_;rw[oP];lia
def RX:∀{ii:List (Aq×V)} {O:List (Value×Value)},VV (ii.map λF=>(kV F.1,F.2)) O->∃rs,Carries (D4 P w) O rs/\KV ii rs
 |[],_,r=>by rw[p9]at r;cases r;exact⟨[],tD,.nil⟩
 |p :: ii,_,r=>by
  rw[n9]at r;cases r with
  |@cons a b as bs h t =>
   obtain⟨rs,c,q⟩:=RX (P:=P) (w:=w) t;obtain⟨b1,b2⟩:=b;exact⟨(p.1,b2) :: rs,⟨KQ h.1,J,c⟩,.cons ⟨J,h.2⟩ q⟩
def j9(O:List (TE×TE)):TE:=λσ H Q=>∀p,H p=none->P8 O σ (AF H p (.dK [])) λps H2=>H2 p=some (.dK [])/\∃ii:List (Aq×V),ps=ii.map (λF=>(kV F.1,F.2))/\ii.length<=15/\Q (.ref p) (AF H2 p (.dK (GO [] ii)))
def Tz (h:OF X pos keys values trs)(aa:keys.all (·.isSome)=true)(hl:keys.length=values.length)(h0:keys≠[])
  (ab:keys.length<=15):PE X (.Dict keys values pos) (j9 trs):=by
 intro gt s σ H Q I q;have hn:=I.Aj.fresh (nQ s.heap.objs.size);have I1:=I.laid (a:=s.heap.objs.size) (o:=.dK []) (h':=s.heap.push { cls:=.type "dict",data:=.dict #[]}) (t':=s.toks) (λ_ _ q=>nP _ q) (nQ _) (Sd s.heap I.GB);refine wpAny_Dict_walk (knd:=D4 X.prog X.w) aa hl h0 ab (Ac (h gt _ σ _ _ I1 (q _ hn)) λws s2 ⟨ps,H2,F,rel,e,ii,ep,lk,q2⟩=>?_);subst ep;obtain⟨rs,c,rk⟩:=RX (P:=X.prog) (w:=X.w) rel;obtain⟨z,hd,ac,r0,dd⟩:=Vn F.Aj e;cases r0;refine⟨rs,c,dd,λh' O hs=>⟨.ref s.heap.objs.size,_,?_,J,q2⟩⟩;have hz:(GO [] ii).length<=oK:=by
  have h1:=RM ii [];rw[rD]at h1;rw[sQ];lia
 have he:∃q,h'.get? s.heap.objs.size=some q:=let ⟨q,_,_,hq,_⟩:=O;⟨q,hq⟩
 exact PL F (by rw[e];exact tD) hs he (VM hz hd (rk.jf .nil) O)
structure M1(X:Cx)(o:Expr)(m:Str)(apos:Pos)(e:Expr)(cpos:Pos):Prop where
 base:yh o m X.env (eval o X.env)=eval o X.env
 Jg:((tR cpos (oZ [e] X.env)).all (λx=>!x.1) && (abu cpos (zA [] X.env)).all (λx=>x.1.isSome)
  && decide (([e]:List Expr).length+([]:List wI).length+(if ([]:List wI).isEmpty then 0 else 1)<30))=true
 line:(apos.endLine == cpos.line)=true
 j4:tR cpos (oZ [e] X.env)=[(false,eval e X.env)]
structure M2(X:Cx)(o:Expr)(m:Str)(apos:Pos)(e f:Expr)(cpos:Pos):Prop where
 base:yh o m X.env (eval o X.env)=eval o X.env
 Jg:((tR cpos (oZ [e,f] X.env)).all (λx=>!x.1) && (abu cpos (zA [] X.env)).all (λx=>x.1.isSome)
  && decide (([e,f]:List Expr).length+([]:List wI).length+(if ([]:List wI).isEmpty then 0 else 1)<30))=true
 line:(apos.endLine == cpos.line)=true
 j4:tR cpos (oZ [e,f] X.env)=[(false,eval e X.env),(false,eval f X.env)]
section
variable {X:Cx}{gt:List (Addr×Obj)}{σ:St}{H:Hp}{s:nU}{a:Addr}{y d:V}{u r:Value}{o:Option V}{A:qf}{E:Value->nU->Prop}
end
section
variable {X:Cx}{o e f:Expr}{apos cpos:Pos}{td ty tx:TE}
end
section
variable {X:Cx}{gt:List (Addr×Obj)}{σ:St}{H:Hp}{s:nU}{a:Addr}{ii:List (Aq×V)}{A:qf}{E:Value->nU->Prop}
end
section
variable {X:Cx}{gt:List (Addr×Obj)}{σ:St}{H:Hp}{s:nU}{a:Addr}{y:V}{u:Value}{A:qf}{E:Value->nU->Prop}
end
end L2
namespace Att
open PySem PySem.W PySem.Calls PyProof.Rows
def XS:∀(ns:List Int) (vs:List Value),WellAll P h vs (ns.map WData.int)->tV vs ns:=by
 intro ns
 induction ns with
 |nil =>
  intro vs w;rw[p9]at w;cases w;exact .nil
 |cons n ns ih =>
  intro vs w;rw[n9]at w;cases w with
  |cons a b =>
   cases a;exact .cons _ _ (ih _ b)
def Yu {l:OpenLaw}(hn:l.most=some n)
  (aa:l.row.toRowW.claim.pre args=true)(ab:WellAll P h vals args) :
  ∃a vs ns,vals=[qW a]/\args=[WData.list (ns.map WData.int)]/\h.get? a=some { cls:=.type "list",data:=.seq vs.toArray}/\tV vs ns/\ns.length<=n:=by
 have ac:WShape.hasAll [] args [.list .int]=true:=(pre_splitW aa).1;have hc:l.pre.holds [] { args:=args}=true:=(pre_splitW aa).2;obtain⟨d,r,rfl,h1,h2⟩:=hasAllW_cons ac;obtain rfl:=hasAllW_nil h2;obtain⟨xs,rfl,h3⟩:=hasW_list h1;obtain⟨ns,rfl⟩:=items_int h3;have ad:ns.length<=n:=by
  unfold OpenLaw.pre at hc;have F:(WTm.not (.lt (.lit (.int (n:Int))) (.len (.arg 0)))).holds [] { args:=[.list (ns.map .int)]}=true:=by
   have F:=(holds_andW hc).1;rw[hn]at F;exact F
  have O:=condW_of F (w_not (w_lt w_lit (w_len_list (w_arg rfl))));rw[nh]at O;refine Nat.le_of_not_lt λq=>?_
  have q':(n:Int)<((ns.length:Nat):Int):=by omega
  first
   |(rw[pR q']at O;exact absurd O (by decide))
   |(simp at O;omega)
 cases ab with
 |cons w1 w2 =>
  cases w2;cases w1 with
  |list ho hall=>exact⟨_,_,ns,J,J,ho,XS ns _ hall,ad⟩
def Yp(l:OpenLaw)(args:List WData):l.row.toRowW.claim.post args (.bool true) args=true :=
 postW_of (r:=l.row.toRowW) (X:=(true == true))
  (show WShape.has [] (.bool true) .bool=true by first|rfl|decide|simp[WShape.has,WShape.arms,WShape.armsAll])
  (show(WTm.eq .res (.lit (.bool true))).value [] { args:=args,res:=some (.bool true),after:=args}=some (.bool (true == true)) from w_eq_bool (w_res rfl) w_lit) rfl
def Xn {l:OpenLaw}{n:Nat}{q:o6}{aa:List Str}{XP:(Str->Option Value)->Heap->Prop}{YP:World->Heap->Prop}{d:DefRec}
  (hn:l.most=some n)(ab:d.params.defaults=[])
  (ae:∀(w:World) (s₀ F:nU) (mg mb:Str->Option Value) (O:Addr) (o:Obj) (pm cd doc:Value) (a:Addr) (vs:List Value) (ns:List Int),
   Ground q aa [] XP w s₀ mg mb F.heap->YP w F.heap →
   F.heap.get? O=some o->o.data=.func (docDef d.name d.params d.body d.scope pm cd doc)->F.heap.CodeRec cd d.name->mg d.name=some (.ref O) →
   F.heap.get? a=some { cls:=.type "list",data:=.seq vs.toArray}->tV vs ns->ns.length<=n->F.gens = #[] →
   vZ (model l.prog w) yH (.call (.ref O) ⟨[.ref a],[]⟩) (λr s'=>r=.ok (.ret (.bool true))/\OldK F.heap s'.heap/\s'.os=F.os/\wF s'.gens) F) :
  WalkO q aa XP YP l.row.toRowW d [] (λf vs=>abF f vs):=by
 intro w s₀ F mg mb G Y O o pm cd doc dV kV ho hd ad hD af hg args al as ag ao am ah ak;obtain rfl:dV=.none:=Dflts.none hD ab;obtain rfl:kV=.none:=Dflts.noKw hD;obtain⟨a,vs,ns,rfl,rfl,ac,aj,ai⟩:=Yu hn ag ah;refine enter_call (vP (ae w s₀ F mg mb O o pm cd doc a vs ns G Y ho (fd_plain hd) ad af ac aj ai hg) λr s' hq=>?_);obtain⟨rfl,h2,h3,h4⟩:=hq;exact⟨.inl ⟨.bool true,.bool true,[],J,λ_=>rfl,.bool true,Yp l _,λ_=>⟨yn,λ_ hm=>(nomatch hm)⟩⟩,h2,h3,h4⟩
section
variable {prog:o6}{w:World}{A:qf}{E:Value->nU->Prop}{s:nU}{K:Frag}
def LV(h:Heap):Heap:={ h with objs:=#[]}
def ON(h:Heap)(b:Addr):(LV h).get? b=none:=by
 cases e:(LV h).get? b with
 |none=>rfl
 |some o=>exact absurd (ow e) (zm _)
def NO(h:Heap)(L d:Addr):List (Addr×Obj):=(og h.objs.size).filterMap λa=>if a=L\/a=d then none else (h.get? a).map λo=>(a,o)
def OR:(a,o)∈NO h L d↔a≠L/\a≠d/\h.get? a=some o:=by
 unfold NO;rw[xV];constructor
 ·rintro⟨b,_,e⟩;split at e
  ·cases e
  ·rename_i O
   obtain⟨o',F,e'⟩:=rP.mp e;cases e';exact⟨λq=>O (.inl q),λq=>O (.inr q),F⟩
 ·rintro⟨n1,n2,F⟩;exists a,o7.mpr (ow F);rw[nS (show ¬(a=L\/a=d) from λq=>q.elim n1 n2),F]<;>rfl
def Xt(F:d≠L)(ho:h.get? d=some od):News (LV h) L h ([]++(d,od) :: NO h L d):=by
 rintro⟨a,o⟩ hp;rcases oj.mp hp with e|hp
 ·cases e;exact⟨ho,F,ON _ _⟩
 ·obtain⟨O,n2,e⟩:=OR.mp hp;exact⟨e,O,ON _ _⟩
def iZ(n:h.Ns L m):Fr (LV h) L h m :=
 ⟨n,λb o e=>(by rw[ON]at e;cases e),pD _⟩
def Kw {x C dx L:Addr}{ox:Obj}{m:Str->Option Value}{es F:List DictEntry}{n O:Nat}{name:Str}{v:Value}{Q:Unit->nU->Prop}
  (X:K.In s.heap)(I:abR s.heap x ox C (some (dictOf es n)))(hd:ox.dict=some dx)(hL:s.heap.Ns L m)(ab:dx≠L)
  (hs:findIn K (.ref C) "__setattr__" = some (some (.builtin "object.__setattr__")))(hp:plainOver K C=true)(ht:takerIn K C name=some none)(hh:hasDictIn K C=true)(hl:(getL name es).isSome=true)
  (e:(putL name (qA.keyHash w.params name) (.str name (s.toks+1)) v es,putN name es n)=(F,O))(hz:F.length<=1000)
  (h:∀h':Heap,h'.Ns L m->h'.get? dx=some (dictOf F O)->(∀b o,b≠dx->b≠L->s.heap.get? b=some o->h'.get? b=some o)->Q () { s with heap:=h',toks:=s.toks+2}) :
  wpAny (model prog w) A (setAttr (.ref x) name v) Q E s:=by
 obtain⟨e1,e2⟩:=wA e;have aa:s.heap.get? dx=some (dictOf es n):=by
  have:=I.dict
  rw[hd]at this;exact this
 refine set_plain X I hs (osa_dict (s:={ s with toks:=s.toks+1}) (h₀:=LV s.heap) (L:=L) (m:=m) (od:=dictOf es n) (od':=dictOf F O) (es:=F) (n:=O) (pre:=[]) (post:=NO s.heap L dx)
  (iZ hL) (Xt ab aa) X I hd hp ht hh hl (λ_ q=>nomatch q) (λ⟨_,_⟩ q=>(OR.mp q).2.1) (by rw[putName_dict,e1,e2]) rfl hz λh' F' N'=>?_)
 exact h h' F'.ns (N'.get (List.Mem.head _)) λb o n1 n2 ho=>N'.get (List.Mem.tail _ (OR.mpr ⟨n2,n1,ho⟩))
end
end Att
namespace L2
open PySem PySem.Spec PyProof.Rows
def Rt:∀{vs:List Value} {ns:List Int},tV vs ns->Af (ns.map V.int) vs
 |_,_,.nil=>.nil
 |_,_,.cons n t h=>.cons ⟨t,J⟩ (Rt h)
def Qx(H:Hp):Prop:=∀b,H b=none\/∃o xs,H b=some (.Ed o (.AE xs))
def Z4 {P:o6}{w:World}{K:nT}{mg mb:Str->Option Value}{CX:Gk}{k:Nat}{fa a:Addr}{fd:qy}{x:Str}{sp:Sp}{O:nU}{vs:List Value}{ns:List Int}
  (KX:K.In O.heap)(af:O.heap.Ns rh mg)(hb:O.heap.Ns abI mb)(ag:∀x:Str,x≠"__name__"->mb x=qo x)(aj:O.heap.NoLimit)(hg:O.gens = #[])
  (ha:O.heap.get? a=some { cls:=.type "list",data:=.seq vs.toArray})(hi:tV vs ns)(hl:ns.length<=oK)(hr:Room k yH)
  (F:∀base:Heap,K.In base->base.Ns rh mg->Ag P w K mg base CX k fa fd [x] sp)(al:∀(s:nU) (u:Value),zG s fd ⟨[u],[]⟩ [(x,u)])
  (am:∀H:Hp,Qx H->AI K H a (ns.map V.int)->sp [.ref a] H (λv _=>v=.bl true) λ_ _ _=>False)
  (ap:∀H e s',CX [] H O (λ_ _ _=>False) e s'->False) :
  vZ (model P w) yH (.call (.ref fa) ⟨[.ref a],[]⟩) (λr s'=>r=.ok (.ret (.bool true))/\OldK O.heap s'.heap/\s'.os=O.os/\wF s'.gens) O:=by
 have rv:=Rt hi;have ai:=hi.length;have ad:∀H:Hp,Qx H->AI K H a (ns.map V.int)->CA P w H O.heap->(∀b,H b≠none->b=a)->(H a≠none->K.lookup a=none) →
   vZ (model P w) yH (.call (.ref fa) ⟨[.ref a],[]⟩) (λr s'=>r=.ok (.ret (.bool true))/\OldK O.heap s'.heap/\s'.os=O.os/\wF s'.gens) O:=by
  intro H hO hS ac hA hK;have ab:∀{b:Addr} {o:Obj},O.heap.get? b=some o->H b=none->(HW O.heap H).get? b=some o:=λe n=>aY e n
  have ah:∀{b:Addr} {o:Obj} {es:Array DictEntry} {ep:Nat},O.heap.get? b=some o->o.data=.dict es ep->H b=none:=λ{b o es ep} e d=>by
   cases q:H b with
   |none=>rfl
   |some u =>
    have e':b=a:=hA b (by rw[q];simp);subst e';rw[ha]at e;cases e;have d':Data.seq vs.toArray _=Data.dict es ep:=d;cases d'
  have aa:∀{b:Addr} {m:Str->Option Value},O.heap.Ns b m->(HW O.heap H).Ns b m:=λ{b m} ⟨o,es,ep,e,d,r⟩=>⟨o,es,ep,ab e (ah e d),d,r⟩
  have ae:K.In (HW O.heap H):=λb o e=>ab (KX b o e) (by
   cases q:H b with
   |none=>rfl
   |some u =>
    have e':b=a:=hA b (by rw[q];simp);subst e';rw[hK (by rw[q];simp)]at e;cases e)
  have hM:Mod K mg (HW O.heap H):=⟨ae,aa af,⟨mb,aa hb,ag⟩,let ⟨mc,h1,h2⟩:=aj;⟨mc,aa h1,h2⟩⟩;have e0:JV P w K mg (HW O.heap H) yH [] O H:=⟨J,hM,λb o e=>fN e,Nat.le_of_eq (Yr _ _),trivial,λb hb=>absurd (show b∈([]:List Addr) from hb) (by simp),ac,.of_eq hg⟩;refine vP ((F _ ae (aa af)).N7 yH [] O H ⟨[.ref a],[]⟩ [.ref a] [.ref a] _ _ hr e0 (al O (.ref a)) (.cons rfl .nil) (am H hO hS)) λr s' h=>?_
  cases r with
  |error e=>exact(ap H e s' h).elim
  |ok fl =>
   cases fl with
   |next=>exact qv h
   |brk=>exact qv h
   |cont=>exact qv h
   |ret u =>
    obtain⟨v,H',os,ak,un,ao,r',q⟩:=h;have q':v=.bl true:=q;subst q';obtain rfl:u=uo true:=r';refine⟨J,OldK.of_keep λb o e=>?_,os,ak⟩;cases q:H b with
    |none=>exact un.keep b o e q (by intro z;exact absurd (show b∈([]:List Addr) from z) (by simp)) (by simp)
    |some u =>
     rcases hO b with z|⟨ob,xs,z⟩
     ·rw[q]at z;cases z
     ·have z2:=un.FI b ob _ z;obtain⟨e1,_⟩:=ac b _ z;obtain⟨e2,_⟩:=ao b _ z2;rw[e]at e1;cases e1;exact e2
 cases hk:K.lookup a with
 |some o =>
  have e:=KX a o hk;rw[ha]at e;cases e;refine ad (λ_=>none) (λ_=>.inl rfl) (.inr ⟨_,vs.toArray,_,hk,J,J,J,by rw[ou,ai];exact hl,by simpa using rv⟩) (λb u z=>by have z':(none:Option HO)=some u:=z;cases z') (λb z=>absurd rfl z) λz=>absurd rfl z
 |none =>
  refine ad (λb=>if b=a then some (.Ed { cls:=.type "list",data:=.seq vs.toArray} (.AE (ns.map V.int))) else none) (λb=>?_) (.inl (.inr ⟨{ cls:=.type "list",data:=.seq vs.toArray},nX rfl⟩)) (λb u z=>?_) (λb z=>?_) λ_=>hk
  ·by_cases hb:b=a
   ·exact .inr ⟨_,_,nX hb⟩
   ·exact .inl (nS hb)
  ·by_cases hb:b=a
   ·have z':=(nX hb).symm.trans z;cases z';subst hb;exact⟨ha,by rw[nh];exact hl,vs,_,rv,ha⟩
   ·have z':=(nS hb).symm.trans z;cases z'
  ·by_cases hb:b=a
   ·exact hb
   ·exact absurd (nS hb) z
abbrev nN{K:nT}{h:Heap}(_:K.In h):nT:=K
def cV {l:xc}{K:Params->nT}{CX:World->Gk}{sp:World->Sp}
  (hn:l.most=some n)(af:n<=oK)(ab:d.params.defaults=[])(hr:Room k yH)
  (hY:∀(w:World) (h:Heap),YP w h->(K w.params).In h)
  (F:∀(w:World) (mg:Str->Option Value) (O:Addr) (h:Heap),(K w.params).In h->h.Ns rh mg->mg d.name=some (.ref O) →
   ∃fd:qy,(∀(s:nU) (u:Value),zG s fd ⟨[u],[]⟩ [(x,u)]) /\
    ∀base:Heap,(K w.params).In base->base.Ns rh mg->Ag l.prog w (K w.params) mg base (CX w) k O fd [x] (sp w))
  (ad:∀(w:World) (H:Hp) (a:Addr) (ns:List Int),ns.length<=n->Qx H->AI (K w.params) H a (ns.map V.int)->sp w [.ref a] H (λv _=>v=.bl true) λ_ _ _=>False)
  (ag:∀(w:World) (H:Hp) (s:nU) (e:Value) (s':nU),CX w [] H s (λ_ _ _=>False) e s'->False) :
  ab0 q loose XP YP l.row.toRowW d [] (λf vs=>abF f vs):=by
 refine Att.Xn hn ab λw s₀ s₁ mg mb O o pm cd doc a vs ns G Y ho hd ai ae ac ah aa hg=>?_
 have KX:=hY w _ Y;obtain⟨fd,hb,hF⟩:=F w mg O _ KX G.T.g ae;exact Z4 KX G.T.g G.T.b G.T.builtins G.T.nolimit hg ac ah (oC aa af) hr hF hb (λH hO hS=>ad w H a ns aa hO hS) λH e s'=>ag w H s₁ e s'
def GH(s:Stmt):Arguments:=match s with
 |.FunctionDef _ a _ _ _ _ _ _ _ _=>a
 |_=>{ posonlyargs:=[],args:=[],vararg:=none,kwonlyargs:=[],kw_defaults:=[],kwarg:=none,defaults:=[]}
def E6(s:Stmt):List Stmt:=match s with
 |.FunctionDef _ _ b _ _ _ _ _ _ _=>b
 |_=>[]
def Ah(s:Stmt):Scope:=match s with
 |.FunctionDef _ _ _ _ _ _ sc _ _ _=>sc
 |_=>{ kind:=.function,names:=[],isGenerator:=false,isCoroutine:=false}
abbrev Ap:Gk:=λ_ _ _ _ _ _=>False
abbrev E0:XK:=λ_ _ _=>False
def j8:P1 Ap X E0:=λ_ _ _ _ _ _ _ h=>h.elim
structure Ak(K:nT)(x qual:Str)(st:Stmt)(f:Addr)(fd:qy):Prop where
 ex:∃(oc:Value) (od:Option Addr) (kV doc pm:Value) (an:Option Addr) (im ct:Value) (osl:Array (Option Value)),
  fd=si x qual (GH st) (E6 st) (Ah st) .none kV doc pm an im ct/\K.lookup f=some ⟨oc,od,.func fd,osl⟩/\xD K im qual=true
 kp:KP K f
section
variable {P:o6}{w:World}{K:nT}{mg:Str->Option Value}{base:Heap}
def Ak.ok {x qual:Str}{st:Stmt}{f:Addr}{fd:qy}{N ps:List Str}{k:Nat}{sp:Sp}(F:Ak K x qual st f fd)(S:Ar N ps (Ah st))(ab:∀vs H Q E,sp vs H Q E->vs.length=ps.length)
  (ac:∀(im:Value) (A:qf) (outer:List Env) (s:nU) (H:Hp) (vs:List V) (Q:VK) (E:XK),Room k (A.deeper (xk qual (Ah st) s.heap.objs.size f im))->sp vs H Q E →
   ∃t,Cy (JQ Ap P w K mg base N qual (Ah st) f im A outer s H E).Hl (E6 st) t/\t { nx:=λ_ H'=>Q .A5 H',rt:=Q} (HN N vs) H):Ag P w K mg base Ap (k+1) f fd ps sp:=by
 obtain⟨oc,od,kV,doc,pm,an,im,ct,osl,rfl,lk,O⟩:=F.ex;refine jz lk O S ab λA outer s H vs Q E hr aa=>?_
 obtain⟨t,h,q⟩:=ac im A outer s H vs Q E hr aa;exact⟨t,h.Hl,q⟩
def Ak.NZ {st:Stmt}(F:Ak K x qual st f fd)
  (h:∀(kV doc pm:Value) (an:Option Addr) (im ct:Value) (us:List Value),us.length=ps.length->y6 (si x qual (GH st) (E6 st) (Ah st) .none kV doc pm an im ct) ⟨us,[]⟩=pure (ps.zip us)):Ej K fd ps []:=by
 obtain⟨oc,od,kV,doc,pm,an,im,ct,osl,rfl,lk,O⟩:=F.ex;exact .all (h kV doc pm an im ct)
def Ud {st:Stmt}{kV doc pm im ct:Value}(l:K.lookup f=some ⟨oc,od,.func (si x qual (GH st) (E6 st) (Ah st) .none kV doc pm an im ct),osl⟩)
  (c:xD K im qual=true)(k:KP K f):Ak K x qual st f (si x qual (GH st) (E6 st) (Ah st) .none kV doc pm an im ct):=⟨⟨oc,od,kV,doc,pm,an,im,ct,osl,J,l,c⟩,k⟩
end
def Fl(F:Room k A):A.units+1<cLine:=qJ (Nat.add_le_add_left (by decide:1<=64) _) F.units
section
variable {X:Cx}
def pv (i:Nat){x:Str}{pos:Pos}(hN:X.N[i]?=some x:=by rfl)(O:Q8 X.env.scope x:=by first|exact qr rfl|exact aaD (qr rfl)|exact aaD (aaD rfl))(hd:(x == ("__debug__":Str))=false:=by decide)
  (F:(x == ("__classdict__":Str))=false:=by decide):PE X (.Name x pos) (Aw i):=jJ hN O hd F
end
def Bj{A B:Prop}(h:B):if false=true then A else B:=by
 rw[nS oV];exact h
def D8{A B:Prop}(h:A):if true=true then A else B:=by
 rw[nX rfl];exact h
def Fs{c A B:Prop}[Decidable c](h1:c->A)(h2:¬c->B):if c then A else B:=by
 by_cases h:c
 ·rw[nX h];exact h1 h
 ·rw[nS h];exact h2 h
def GP{c A B:Prop}[Decidable c](F:c)(h:B):if (!decide c)=true then A else B:=by
 rw[pR F];exact Bj h
def AO(H H':Hp):Prop:=∀b o,H b=some o->H' b=some o
def AO.refl(H:Hp):AO H H:=λ_ _ h=>h
def AO.trans(a:AO H H1)(b:AO H1 H2):AO H H2:=λc o h=>b c o (a c o h)
def AO.free(e:AO H H')(h:H' l=Option.none):H l=Option.none:=by
 cases q:H l with
 |none=>rfl
 |some o =>
  rw[e l o q]at h;cases h
def AO.seq{K:nT}(e:AO H H')(h:AI K H a xs):AI K H' a xs:=by
 rcases h with (h|⟨o,h⟩)|h
 ·exact .inl (.inl (e _ _ h))
 ·exact .inl (.inr ⟨o,e _ _ h⟩)
 ·exact .inr h
section
variable {X:Cx}
def Od:CQ X (.builtin "len") (λxs H Q=>∃a ii,xs=[V.ref a]/\H a=some (.dK ii)/\Q (.int ii.length) H):=by
 intro gt s σ H xs us Q I r h;obtain⟨a,ii,rfl,F,q⟩:=h;obtain⟨u,rfl,ru⟩:=El r;cases ru;exact kA I (.inl F) λt s' O=>⟨.int ii.length,H,O,⟨t,J⟩,q⟩
end
section
variable {κ:Type}[DecidableEq κ]
end
section
variable {X:Cx}{K:nT}{H:Hp}{a:Addr}{xs:List V}
def AH.up(h:AH [] H a xs):AH K H a xs:=h.elim .inl λ⟨_,_,_,e,_⟩=>nomatch e
def AI.up(h:AI [] H a xs):AI K H a xs:=h.elim .inl λ⟨_,_,_,e,_⟩=>nomatch e
def wk(t:TE):TE:=λσ H Q=>∃F,t σ H F/\∀x H,F x H->Q x H
def PE.wk(h:PE X e t):PE X e (L2.wk t):=λgt s σ H Q I ⟨_,h1,h2⟩=>Ac (h gt s σ H _ I h1) λ_ _ ⟨v,H',F,r,q⟩=>⟨v,H',F,r,h2 _ _ q⟩
def FD.mono{P:o6}{w:World}{tg:pI}{J F:It}{fp:List Addr}{it:Addr}{tn:Nat->Heap->Prop}(T:FD P w K tg J fp it tn)(g:∀i H,F.go i H->J.go i H)(y:∀i H x H',J.Dp i H x H'->F.Dp i H x H')(d:∀i H,F.Dm i H->J.Dm i H):FD P w K tg F fp it tn where
 mem:=T.mem
 Ci:=T.Ci
 keep:=T.keep
 item:=λX hP hw O hc i gt s σ H E I hf st hg=>Ac (T.item X hP hw O hc i gt s σ H E I hf st (g _ _ hg)) λ_ _ ⟨u,e,q⟩=>⟨u,e,Ac q λ_ _ ⟨x,H',I',r,z,t,n⟩=>⟨x,H',I',r,y _ _ _ _ z,t,n⟩⟩
 done:=λX hP hw O hc i gt s σ H E I hf st hg=>T.done X hP hw O hc i gt s σ H E I hf st (d _ _ hg)
 self:=T.self
def MM.up(h:MM [] T x H):MM K T x H:=match x,h with
 |.str _,h=>h
 |.int _,h=>h
 |.ref _,.inl ⟨e,xs,h⟩=>.inl ⟨e,xs,h.up⟩
 |.ref _,.inr (.inl ⟨_,_,h,_⟩)=>nomatch h
 |.ref _,.inr (.inr h)=>.inr (.inr h)
end
end L2
namespace L2
open PySem
def DK(h h':Heap):Prop:=∀a o,h.get? a=some o->∃o',h'.get? a=some o'/\o'.dict=o.dict
def DK.refl(h:Heap):DK h h:=λ_ o e=>⟨o,e,J⟩
def DK.trans(x:DK h1 h2)(y:DK h2 h3):DK h1 h3:=λa o e=>by
 obtain⟨O,e1,d1⟩:=x a o e;obtain⟨o2,F,d2⟩:=y a O e1;exact⟨o2,F,d2.trans d1⟩
def Yh{h:Heap}(e:h.get? a=some o):o.isFreed=false:=by
 unfold Heap.get? at e;split at e
 ·cases e
 ·rename_i x O
  obtain⟨c,d,F,sl⟩:=o;cases F<;>first|rfl|(exact absurd e (O _ _ _))
def DK.AF(O:∀o,(f o).dict=o.dict/\(f o).isFreed=o.isFreed):DK h (h.update a f):=λb o e=>by
 by_cases F:a=b
 ·subst F;exact⟨f o,rZ f e ((O o).2.trans (Yh e)),(O o).1⟩
 ·exact⟨o,(rN h f F).trans e,J⟩
def DK.push(h:Heap)(x:Obj):DK h (h.push x):=λ_ o e=>⟨o,nP x e,J⟩
structure KpD{α:Type}(t:Sem α):Prop where
 out:∀(M:Model) (Γ:Ctx) (Q:α->Pos->nU->Prop) (E:Value->Pos->nU->Prop) (p:Pos) (s:nU),Sem.wp M Γ t Q E p s->Sem.wp M Γ t (λa p' s'=>Q a p' s'/\DK s.heap s'.heap) E p s
namespace KpD
variable {α β:Type}
def pure(a:α):KpD (Pure.pure a:Sem α):=⟨λ_ _ _ _ _ s h=>⟨h,DK.refl _⟩⟩
def unsupported(w:String):KpD (PySem.unsupported w:Sem α):=⟨λ_ _ _ _ _ _ h=>h⟩
def bind(hm:KpD m)(hf:∀a,KpD (f a)):KpD (m >>= f):=⟨λM Γ Q E p s h=>by
 rw[Sem.wp_bind']at h ⊢;refine Sem.wp_mono M Γ m (λa F s' ⟨q,k⟩=>?_) (λ_ _ _ z=>z) p s (hm.out M Γ _ E p s h);exact Sem.wp_mono M Γ (f a) (λb p2 s2 ⟨O,k2⟩=>⟨O,k.trans k2⟩) (λ_ _ _ z=>z) F s' ((hf a).out M Γ Q E F s' q)⟩
def ite[Decidable c](F:KpD t)(O:KpD u):KpD (if c then t else u):=by split<;>assumption
def load(a:Addr):KpD (PySem.load a):=⟨λ_ _ _ _ _ _ h=>by
 obtain⟨o,e,q⟩:=h;exact⟨o,e,q,DK.refl _⟩⟩
def stack:KpD PySem.stack:=⟨λ_ _ _ _ _ _ h=>⟨h,DK.refl _⟩⟩
def update(a:Addr)(F:∀o,(f o).dict=o.dict/\(f o).isFreed=o.isFreed):KpD (PySem.update a f):=⟨λ_ _ _ _ _ _ h=>⟨h.1,h.2,DK.AF F⟩⟩
def alloc(x:Obj):KpD (PySem.alloc x):=⟨λ_ _ _ _ _ _ h=>⟨h,DK.push _ _⟩⟩
def field(v:Value)(i:Nat):KpD (PySem.field v i):=⟨λM Γ Q E p s h=>by
 rw[wp_field_iff]at h ⊢;obtain⟨a,o,vs,x,e,O,hd,F,q⟩:=h;exact⟨a,o,vs,x,e,O,hd,F,q,DK.refl _⟩⟩
def lM(g:Array Value->Array Value)(o:Obj):(o.mapFields g).dict=o.dict/\(o.mapFields g).isFreed=o.isFreed:=by
 obtain⟨c,d,F,sl⟩:=o;cases F<;>exact⟨J,J⟩
def setField(v:Value)(i:Nat)(x:Value):KpD (PySem.setField v i x):=⟨λM Γ Q E p s h=>by
 rw[wp_setField_iff]at h ⊢;obtain⟨a,o,vs,e,F,hd,hi,q⟩:=h;exact⟨a,o,vs,e,F,hd,hi,q,DK.AF (lM _)⟩⟩
def newFields(ty:String)(vs:List Value):KpD (abG ty vs):=by
 unfold abG newObj newObjAsIs;dsimp only;split
 all_goals repeat' with_reducible first
  |exact unsupported _
  |exact alloc _
  |exact pure _
  |apply bind
  |intro _
def slotF(g:Obj->Array (Option Value))(o:Obj):({ o with slots:=g o}:Obj).dict=o.dict/\({ o with slots:=g o}:Obj).isFreed=o.isFreed:=by
 obtain⟨c,d,F,sl⟩:=o;cases F<;>exact⟨J,J⟩
end KpD
local macro_rules
 |`(tactic|trivial)=>`(tactic|(repeat' with_reducible first
  |assumption
  |exact KpD.pure _
  |exact KpD.unsupported _
  |exact KpD.field _ _
  |exact KpD.setField _ _ _
  |exact KpD.newFields _ _
  |exact KpD.load _
  |exact KpD.update _ (KpD.slotF _)
  |exact KpD.stack
  |exact KpD.alloc _
  |apply KpD.ite
  |apply KpD.bind
  |intro _
  |split))
end L2
namespace L2
open PySem PySem.Spec PyProof.Rows
def WJ(B:Heap)(l:List Env)(a:Addr)(cls:Value)(t:Addr)(od:Option Addr)(h:Heap):Prop:=Heap.FlyingW B l a cls (.ref t) h/\∃o,h.get? a=some o/\o.dict=od
def WJ.EM(x:WJ B l a cls t od h):∃o,h.get? a=some o/\o.cls=cls/\o.dict=od/\∃vs,o.data=.fields vs:=by
 obtain⟨o,e,d⟩:=x.2;obtain⟨O,vs,F,c,f,_⟩:=x.1.first;rw[e]at F;cases F;exact⟨o,e,c,d,vs,f⟩
def DK.dict(k:DK h h')(x:∃o,h.get? a=some o/\o.dict=od):∃o,h'.get? a=some o/\o.dict=od:=by
 obtain⟨o,e,d⟩:=x;obtain⟨o',F,d'⟩:=k a o e;exact⟨o',F,d'.trans d⟩
section
variable {X:Cx}{gt:List (Addr×Obj)}{σ:St}{H:Hp}{s s':nU}{E:XK}{e:Value}
end
section
variable {P:o6}{w:World}{K:nT}{mg:Str->Option Value}{base:Heap}{N:List Str}{qual:Str}{scope:Scope}{f:Addr}{cd:Value}{A:qf}{outer:List Env}{s₀:nU}{H₀:Hp}{E:XK}
end
section
variable {M:Model}{A:qf}{E:Value->nU->Prop}{s:nU}{B:Heap}{env:Env}{outer l:List Env}{L e t:Addr}{cls:Value}{od:Option Addr}{Q:Unit->nU->Prop}
end
def DI(X:Cx)(scope:Scope)(cl:List (Str×Addr))(C:Addr)(Nc:List Str)(ex:List Addr)(gt:List (Addr×Obj))(s₀:nU)(H₀:Hp):Cx where
 prog:=X.prog
 w:=X.w
 K:=X.K
 mg:=X.mg
 base:=X.base
 A:=X.A
 N:=Nc
 s₀:=s₀
 H₀:=H₀
 env:=compEnvC scope cl C X.env
 outer:=X.stack
 stack:=X.stack
 ex:=ex
 fn:=λy=>scope.names.lookup y == some .local
 Cd:=true
 pn:=X.pn++gt
 xe:=λ_ _=>False
structure Hr(X:Cx)(scope:Scope)(cl:List (Str×Addr))(Nc:List Str)(cap:List (Nat×Nat)):Prop where
 lL:abJ scope X.env=pure cl
 kind:scope.kind=.function
 names:∀y∈scope.names,y.2=.local->scope.names.lookup y.1=some .local
 gq:∀y∈scope.names,y.2≠.cell
 sub:∀x c,cl.lookup x=some c->X.env.cells.lookup x=some c/\scope.names.lookup x≠some .local
 has:∀x,((xH scope X.env).names.lookup x=some .cell\/(xH scope X.env).names.lookup x=some .free)->∃c,cl.lookup x=some c
 ku:∀j i,(j,i)∈cap->∃x c,Nc[j]?=some x/\X.N[i]?=some x/\cl.lookup x=some c/\X.env.scope.names.lookup x=some .cell/\(xH scope X.env).names.lookup x=some .cell
def cB (ac:abJ scope X.env=pure cl)(kind:scope.kind=.function)(names:∀y∈scope.names,y.2=.local->scope.names.lookup y.1=some .local)(aa:∀y∈scope.names,y.2≠.cell)
  (O:∀p∈cl,X.env.cells.lookup p.1=some p.2/\scope.names.lookup p.1=some .free)(ad:((xH scope X.env).names.all λp=>(p.2 != .cell && p.2 != .free) || (cl.lookup p.1).isSome)=true)
  (ab:∀p∈cap,∃x c,Nc[p.1]?=some x/\X.N[p.2]?=some x/\cl.lookup x=some c/\X.env.scope.names.lookup x=some .cell/\(xH scope X.env).names.lookup x=some .cell):Hr X scope cl Nc cap :=
 ⟨ac,kind,names,aa,λx c e=>⟨(O (x,c) (rQ e)).1,λz=>by
  have:=(O (x,c) (rQ e)).2
  rw[z]at this;cases this⟩,λx e=>by
  have F:∀k,(xH scope X.env).names.lookup x=some k->(k=.cell\/k=.free)->∃c,cl.lookup x=some c:=λk e hk=>by
   have:=yK.mp ad (x,k) (rQ e)
   rcases hk with rfl|rfl
   ·exact uG.mp (by simpa using this)
   ·exact uG.mp (by simpa using this)
  rcases e with e|e
  ·exact F _ e (.inl rfl)
  ·exact F _ e (.inr rfl),λj i m=>ab (j,i) m⟩
def JL(n:Nat)(cap:List (Nat×Nat))(σ:St):St:=(og n).map λj=>((cap.find? λp=>p.1 == j).bind λp=>σ[p.2]?).bind id
def ZN(h:(JL n cap σ)[j]?=some (some v)):∃i,(j,i)∈cap/\σ[i]?=some (some v):=by
 unfold JL at h;rw[nV]at h;cases e:(og n)[j]? with
 |none=>rw[e]at h;cases h
 |some k =>
  rw[e]at h;have F:k=j:=by
   obtain⟨O,q⟩:=nq.mp e;rw[xU]at q;exact q.symm
  subst F;simp only[vJ,wj]at h;cases f:cap.find? λp=>p.1 == k with
  |none=>rw[f]at h;cases h
  |some p =>
   rw[f]at h;have h1:=yC f;have h2:p.1=k:=by
    have:=abz f
    exact eq_of_beq this
   exists p.2,?_
   ·rw[<-h2];exact h1
   ·simp only[abp]at h;cases g:σ[p.2]? with
    |none=>rw[g]at h;cases h
    |some o=>rw[g]at h;simpa using h
section
variable {X:Cx}{gt:List (Addr×Obj)}{σ:St}{H:Hp}{s:nU}{scope:Scope}{cl:List (Str×Addr)}{Nc:List Str}{cap:List (Nat×Nat)}{fp:List Addr}
def aF (I:AK X gt σ H s)(af:X.Cd=true)(S:Hr X scope cl Nc cap)(ab:∀b∈fp,Fq X gt H b)(ae:∀b∈fp,∃o,s.heap.get? b=some o)(hC:s.heap.objs.size<=C)
  (hn:h1.Ns C m)(aa:∀b o,s.heap.get? b=some o->h1.get? b=some o):AK (DI X scope cl C Nc fp gt s H) [] (JL Nc.length cap σ) H { s with heap:=h1,toks:=tk}:=by
 have ac:∀b o,s.heap.get? b=some o->b≠C:=λb o e=>o8 (pP (ow e) hC)
 exists ⟨I.ok.Dd,S.kind,I.ok.Hh,I.ok.Kp,hC,λx y c O e2=>?_,λx hx=>S.has x hx,λx c O e2=>?_,λ_=>I.ok.hd af,I.ok.frames,.inl rfl,λb F=>⟨?_,λx c e=>?_⟩,I.bs,oC I.ok.Gj I.sz,λb o e F=>?_,λb F z=>?_,I.stack,I.T4⟩,
  rfl,I.DT,Un.CC aa,⟨m,hn,λj x v O e2 e3=>?_⟩,λx c e=>?_,I.Aj.fresh hC,λx c e=>?_,λp hp=>?_,I.Aj.CC aa
 ·exact I.ok.inj x y c (S.sub x c O).1 (S.sub y c e2).1
 ·exact absurd (beq_iff_eq.mp O) (S.sub x c e2).2
 ·obtain⟨o,e⟩:=ae b F;exact ac b o e
 ·exact(ab b F).2.2.2.2.1 x c (S.sub x c e).1
 ·rcases(ab b F).2.2.2.1 with z|z
  ·exact I.ok.L5 b o e z
  ·exact absurd (pP (ow e) (oC I.ok.Gj z)) (sT _)
 ·rcases oj.mp (I.NS b z)with z|z
  ·exact(ab b F).2.1 z
  ·exact(ab b F).2.2.1 z
 ·obtain⟨i,hm,hv⟩:=ZN e2;obtain⟨x',c,q1,q2,q3,q4,q5⟩:=S.ku j i hm;have ad:Nc[j]?=some x:=O;rw[q1]at ad;cases ad;obtain⟨mo,_,hl⟩:=I.Dx;obtain⟨u,r,l⟩:=hl i x v q2 hv (.inr (.inl q4));exists u,r;rcases l with ⟨k,_⟩|⟨_,c',e',z⟩
  ·have k':X.env.scope.names.lookup x=some .local:=k;rw[q4]at k';cases k'
  ·have:c'=c:=oy (e'.symm.trans (S.sub x c q3).1)
   subst this;obtain⟨o,ho,hd⟩:=z;exact .inr ⟨.inl q5,c',q3,⟨o,aa _ _ ho,hd⟩⟩
 ·obtain⟨v,o,ho,hd⟩:=I.cell x c (S.sub x c e).1;exact⟨v,o,aa _ _ ho,hd⟩
 ·exact I.Fe x c (S.sub x c e).1
 ·have ag:p∈X.pn++gt:=by
   have z:p∈(X.pn++gt)++[]:=hp;rw[qE]at z;exact z
  obtain⟨e,n,ne,nf,d⟩:=I.DY p ag;refine⟨aa _ _ e,n,ac _ _ e,λz=>?_,d⟩;rcases oj.mp (I.NS p.1 z)with z|z
  ·exact ne z
  ·exact nf z
 ·show(JL Nc.length cap σ).length=Nc.length;unfold JL;rw[nh,oR]
def ZR(I:AK X gt σ H s)(aa:∀b∈fp,Fq X gt H b)(J:AK (DI X scope cl C Nc fp gt s H) [] σc H' s')(hs:p8 C s'.heap h'):AK X gt σ H' { s' with heap:=h'}:=by
 have hC:s.heap.objs.size<=C:=J.ok.above;have ab:∀b o,s.heap.get? b=some o->b≠C:=λb o e=>o8 (pP (ow e) hC)
 have u:=J.base;refine I.jh (s':={ s' with heap:=h'}) (ch:=fp) J.os ⟨λb o e n F O=>?_,λb o e n F O=>?_,u.free,λb o e O=>?_,u.Fo,u.FI,u.Fn⟩ (λb o e=>?_) J.DT λb F=>⟨(aa b F).2.2.2.1,(aa b F).2.1,(aa b F).2.2.2.2.1,(aa b F).2.2.2.2.2⟩
 ·exact(hs.2 b (ab b o e)).trans (u.keep b o e n F O)
 ·obtain⟨sl,q⟩:=u.slot b o e n F O;exact⟨sl,(hs.2 b (ab b o e)).trans q⟩
 ·obtain⟨o',q⟩:=u.EM b o e O;exact⟨o',(hs.2 b (ab b o e)).trans q⟩
 ·refine(J.Aj b o e).Gf (λc v hc q=>(hs.2 c ?_).trans q) (λ_ q=>q) λ_ _ q=>q
  intro z;subst z;have fr:H' c=none:=J.free;rcases hc with hc|hc
  ·rw[hc]at fr;rw[fr]at e;cases e
  ·rw[fr]at hc;cases hc
end
def Nd(n:Nat)(cap:List (Nat×Nat))(wi:TI)(g:TG)(te:TE):TE:=λσ H Q=>wi σ H λJ H1=>∀F,H1 F=none →
 ∃W:Nat->Nat->List V->St->Hp->Prop,(∃m,W 0 m [] (JL n cap σ) (AF H1 F (.AE [])))/\∀i m ys O H2,W i m ys O H2 →
  (J.Dm i H2/\Q (.ref F) H2)\/(J.go i H2/\∀x H3,J.Dp i H2 x H3->g x O H3 λσ4 H4=>te σ4 H4 λv H5=>H5 F=some (.AE ys)/\ys.length<oK/\∃m',m' < m/\W (i+1) m' (ys++[v]) σ4 (AF H5 F (.AE (ys++[v]))))
def LY(n:Nat)(cap:List (Nat×Nat))(wi:TI)(g:TG)(tt:TT)(te:TE):TE:=λσ H Q=>wi σ H λJ H1=>∀F,H1 F=none →
 ∃W:Nat->Nat->List V->St->Hp->Prop,(∃m,W 0 m [] (JL n cap σ) (AF H1 F (.AE [])))/\∀i m ys σc H2,W i m ys σc H2 →
  (J.Dm i H2/\Q (.ref F) H2)\/(J.go i H2/\∀x H3,J.Dp i H2 x H3->g x σc H3 λσ4 H4=>tt σ4 H4 λok H5=>if ok=true then (te σ4 H5 λv H6=>H6 F=some (.AE ys)/\ys.length<oK/\∃O,O<m/\W (i+1) O (ys++[v]) σ4 (AF H6 F (.AE (ys++[v])))) else ∃O,O<m/\W (i+1) O ys σ4 H5)
def N4(X:Cx)(ifs:List pI)(tt:TT):Prop:=∀(gt:List (Addr×Obj)) (s:nU) (σ:St) (H:Hp) (Q:Bool->Hp->Prop),AK X gt σ H s->tt σ H Q →
 wpAny (model X.prog X.w) X.A (forIn ifs true λc r=>if r=true then do let F <-isTrue c X.env (eval c X.env);pure (wN F) else pure (wN r)) (λF s'=>∃H',AK X gt σ H' s'/\Q F H') X.xe s
def TY:N4 X [] (λ_ H Q=>Q true H):=λ_ _ _ H _ I q=>wpAny_tests_nil ⟨H,I,q⟩
section
variable {prog:o6}{w:World}{A:qf}{s:nU}
def Xa (I:Nat->nU->Prop)
  (ab:∀n s,I n s->wpAny (model prog w) A (uX it) (λr O=>match r with
   |none=>R (.ok .next) O
   | some v=>wpAny (model prog w) A (xr tg it v) (λ_ aa=>wpAny (model prog w) A (yZ tg env v) (λ_ s₂ =>
     wpAny (model prog w) A (forIn ifs true λc r=>if r=true then do let F <-isTrue c env (eval c env);pure (wN F) else pure (wN r)) (λF s₃=>if F=true then
      wpAny (model prog w) A (eval elt env) (λx s₄ =>
       wpAny (model prog w) A (call (.builtin "list.append") [acc,x]) (λ_ s₅=>∃m,m<n/\I m s₅) (λ_ _=>False) s₄) (λ_ _=>False) s₃
      else ∃m,m<n/\I m s₃) (λ_ _=>False) s₂)
     (λ_ _=>False) aa) (λ_ _=>False) O) (notedBy (model prog w) A env λe s'=>R (.error e) s') s)
  (n:Nat) (h:I n s):vZ (model prog w) A (.compLoop (.ListComp elt [⟨tg,iter,ifs,0⟩] scope pos) 0 it acc env) R s:=by
 refine codeAny_loop rfl I (λn s hI=>?_) n h;show wpAny _ A ((compTurn (.ListComp elt [⟨tg,iter,ifs,0⟩] scope pos) 0 it acc env).onRaise (λx=>do noteFrame x env;theTreesLotGoes x)) _ _ s;refine wpAny_noted ?_;rw[compTurn_list];refine nv (aaf (nv (qG (ab n s hI) (λr O h₁=>?_) λ_ _ h'=>h')));cases r with
 |none=>exact nZ h₁
 |some v =>
  refine nv (qG h₁ (λ_ aa ac=>?_) λ_ _ h'=>qv h');refine nv (qG ac (λ_ s₂ h₂=>nv (qG h₂ (λF s₃ h₃=>?_) λ_ _ h'=>qv h')) λ_ _ h'=>qv h');cases F with
  |false=>exact nZ ⟨J,h₃⟩
  |true =>
   exact nv (nv (qG h₃ (λx s₄ h₄=>nv (qG h₄ (λ_ s₅ h₅=>nZ (nZ ⟨J,h₅⟩)) λ_ _ h'=>qv h')) λ_ _ h'=>qv h'))
end
section
variable {X:Cx}{elt iter tg:pI}{ifs:List pI}{pos:Pos}{scope:Scope}{cl:List (Str×Addr)}{Nc:List Str}{cap:List (Nat×Nat)}{wi:TI}{g:TG}{tt:TT}{te:TE}
def Ro (hc:X.Cd=true)(hi:PI X tg iter wi)(S:Hr X scope cl Nc cap)
  (hg:∀C fp gt s H,PG (DI X scope cl C Nc fp gt s H) tg g)(ht:∀C fp gt s H,N4 (DI X scope cl C Nc fp gt s H) ifs tt)(he:∀C fp gt s H,PE (DI X scope cl C Nc fp gt s H) elt te)
  (hs:∀y,t7 iter X.env y=pure y)(I:AK X gt σ H s)(h:LY Nc.length cap wi g tt te σ H Q)
  (a1:∀(aa C:Addr) (H5:Hp) (s6:nU) (m6:Str->Option Value),AK X gt σ H5 s6->Fq X gt H5 C->s6.heap.Ns C m6->Q (.ref aa) H5->compPost (model X.prog X.w) X.A X.xe use P (.ref aa) C (.ok .next) s6) :
  wpAny (model X.prog X.w) X.A (comprehension (.ListComp elt [⟨tg,iter,ifs,0⟩] scope pos) scope X.env pos' (newList []) false (eval iter X.env) use) P X.xe s:=by
 refine wpAny_comprehension_free (use:=use) (cl:=cl) rfl hs S.lL S.kind S.names ?_;refine Ac (hi gt s σ H _ I h) λv s1 h1=>Ac h1 λbd O h2=>?_
 obtain⟨it,fp,tn,J,H2,e,I2,T,al,f2,rd⟩:=h2;subst e;refine qC ?_;have ar:H2 O.heap.objs.size=none:=I2.Aj.fresh (nQ _);obtain⟨W,⟨m0,w0⟩,a8⟩:=rd O.heap.objs.size ar;have I3:AK X gt σ (AF H2 O.heap.objs.size (.AE [])) { O with heap:=O.heap.push { cls:=.type "list",dict:=none,data:=.seq ([]:List Value).toArray}} :=
  I2.laid (t':=O.toks) (λb u e=>nP _ e) (nQ _) ⟨pD _,[],0,.nil,oq _ rfl⟩
 have af:tn 0 (O.heap.push { cls:=.type "list",dict:=none,data:=.seq ([]:List Value).toArray}):=T.keep _ _ _ al λb _ o e=>nP _ e
 have f3:∀b∈fp,Fq X gt (AF H2 O.heap.objs.size (.AE [])) b:=λb F=>by
  obtain⟨o,e,_⟩:=T.Ci _ _ al b F;refine⟨?_,(f2 b F).2⟩;rw[Ad (o8 (ow e))];exact(f2 b F).1
 generalize bc:O.heap.push { cls:=.type "list",dict:=none,data:=.seq ([]:List Value).toArray}=h3 at I3 af ⊢;generalize bf:AF H2 O.heap.objs.size (.AE [])=H3 at I3 f3 w0;generalize O.heap.objs.size=aa at *;refine wpAny_newFunctionEnv S.gq (by intro y hy;simp at hy) (λh4 aj ao=>?_) S.kind;dsimp only at aj ao ⊢;have ah:∀b o,h3.get? b=some o->h4.get? b=some o:=λb o e=>ao.extBut b o (o8 (ow e)) (nP _ e)
 have f0:∀b∈fp,∃o,h3.get? b=some o:=λb F=>by
  obtain⟨o,e,_⟩:=T.Ci _ _ af b F;exact⟨o,e⟩
 have I4:=aF (tk:=O.toks+([]:List (Str×Value)).length) I3 hc S f3 f0 (C:=h3.objs.size) (nQ _) aj ah;have ap:tn 0 h4:=T.keep _ _ _ af λb _ o e=>ah b o e
 have ad:∀{H':Hp},(∀b∈fp,H' b=none)->∀b∈fp,Fq (DI X scope cl h3.objs.size Nc fp gt { O with heap:=h3} H3) [] H' b:=λhn b F=>by
  obtain⟨o,e⟩:=f0 b F;refine⟨hn b F,o8 (ow e),I4.ok.Lx b F,.inl F,λx c q=>(f3 b F).2.2.2.2.1 x c (S.sub x c q).1,λp hp=>?_⟩;have z:p∈(X.pn++gt)++[]:=hp;rw[qE]at z;exact(f3 b F).2.2.2.2.2 p z
 have am:vZ (model X.prog X.w) X.A (.compLoop (.ListComp elt [⟨tg,iter,ifs,0⟩] scope pos) 0 (.ref it) (.ref aa) (compEnvC scope cl h3.objs.size X.env)) (compPost (model X.prog X.w) X.A X.xe use P (.ref aa) h3.objs.size)
   { O with heap:=h4,toks:=O.toks+([]:List (Str×Value)).length}:=by
  refine Xa (λn s'=>∃i ys σ' H',AK (DI X scope cl h3.objs.size Nc fp gt { O with heap:=h3} H3) [] σ' H' s'/\tn i s'.heap/\(∀b∈fp,H' b=none)/\W i n ys σ' H') ?_ m0 ⟨0,[],_,H3,I4,ap,λb F=>(f3 b F).1,w0⟩;rintro n s5 ⟨i,ys,σ5,H5,I5,ai,ak,w5⟩;rcases a8 i n ys σ5 H5 w5 with ⟨ax,qn⟩|⟨go,step⟩
  ·refine Ac (T.done (DI X scope cl h3.objs.size Nc fp gt { O with heap:=h3} H3) rfl rfl rfl rfl i [] s5 σ5 H5 _ I5 (ad ak) ai ax) λr s6 ⟨hr,I6⟩=>?_
   subst hr;obtain⟨m6,a2,_⟩:=id I6.Dx;exact a1 aa _ H5 s6 m6 (ZR (h':=s6.heap) I3 f3 I6 ⟨rfl,λ_ _=>rfl⟩) (I3.HY (nQ _) I6.free) a2 qn
  ·refine qG (T.item (DI X scope cl h3.objs.size Nc fp gt { O with heap:=h3} H3) rfl rfl rfl rfl i [] s5 σ5 H5 (λ_ _=>False) I5 (ad ak) ai go) (λr s6 ⟨u,hr,h6⟩=>?_) λ_ _ z=>qv z
   subst hr;refine Ac h6 λ_ s7 ⟨y,H7,I7,r7,y7,ac,a9⟩=>?_
   have aq:=I7.VB (ad a9) (T.Ci _ _ ac);have kp:∀{σ8:St} {H8:Hp} {s8:nU},AK (DI X scope cl h3.objs.size Nc fp gt { O with heap:=h3} H3) ([]++LU fp s7.heap) σ8 H8 s8->tn (i+1) s8.heap/\∀b∈fp,H8 b=none:=λ{σ8 H8 s8} I8 =>
    ⟨T.keep _ _ _ ac λb F o e=>(I8.DY (b,o) (pC _ (pC _ (MO F e)))).1,λb F=>by
     obtain⟨o,e,d⟩:=T.Ci _ _ ac b F;exact(I8.DY (b,o) (pC _ (pC _ (MO F e)))).2.1⟩
   refine Ac (hg _ _ _ _ _ _ s7 σ5 H7 y u _ aq r7 (step y H7 y7)) λ_ s8 ⟨σ8,H8,I8,q8⟩=>?_
   refine Ac (ht _ _ _ _ _ _ s8 σ8 H8 _ I8 q8) λok s9 ⟨H9,I9,q9⟩=>?_
   cases ok with
   |false =>
    rw[nS oV]at q9 ⊢;obtain⟨m',hm,w'⟩:=q9;obtain⟨a7,ba⟩:=kp I9;exact⟨m',hm,i+1,ys,σ8,H9,I9.K3,a7,ba,w'⟩
   |true =>
    rw[nX rfl]at q9 ⊢;refine Ac (he _ _ _ _ _ _ s9 σ8 H9 _ I9 q9) λa0 av ⟨ab,a5,aw,a4,az,bb,m',hm,a6⟩=>?_
    refine Ac (D1 _ av σ8 a5 (.ref aa) [ab] (.ref aa) [a0] (λ_ ae=>W (i+1) m' (ys++[ab]) σ8 ae) aw rfl (.cons a4 .nil) ⟨aa,ys,ab,rfl,rfl,az,bb,a6⟩) λ_ be ⟨_,ae,ag,_,a3⟩=>?_
    obtain⟨ay,au⟩:=kp ag;exact⟨m',hm,i+1,ys++[ab],σ8,ae,ag.K3,ay,au,a3⟩
 exact codeAny_compStart_list am (T.self _ 0 _ _ _ ap am)
def Zc (hc:X.Cd=true)(hi:PI X tg iter wi)(S:Hr X scope cl Nc cap)
  (hg:∀C fp gt s H,PG (DI X scope cl C Nc fp gt s H) tg g)(ht:∀C fp gt s H,N4 (DI X scope cl C Nc fp gt s H) ifs tt)(he:∀C fp gt s H,PE (DI X scope cl C Nc fp gt s H) elt te)
  (hs:∀y,t7 iter X.env y=pure y:=by intro _;rfl):PE X (.ListComp elt [⟨tg,iter,ifs,0⟩] scope pos) (LY Nc.length cap wi g tt te):=by
 intro gt s σ H Q I h;rw[eval_ListComp];exact Ro (use:=none) hc hi S hg ht he hs I h λab C H5 O m6 aa F hn qn=>⟨m6,hn,λh7 ac=>⟨.ref ab,H5,aa.EL (t':=O.toks) (λb o hb q=>(ac.2 b hb).trans q) F.1 F.2.1 F.2.2.2.1 F.2.2.2.2.1 F.2.2.2.2.2,J,qn⟩⟩
def Rj:LY n cap wi g (λ_ H Q=>Q true H) te=Nd n cap wi g te:=by
 unfold LY Nd;simp only[if_true]
def DR (O:X.Cd=true)(hi:PI X tg iter wi)(S:Hr X scope cl Nc cap)
  (F:∀C fp gt s H,PG (DI X scope cl C Nc fp gt s H) tg g)(he:∀C fp gt s H,PE (DI X scope cl C Nc fp gt s H) elt te)
  (hs:∀y,t7 iter X.env y=pure y:=by intro _;rfl):PE X (.ListComp elt [⟨tg,iter,[],0⟩] scope pos) (Nd Nc.length cap wi g te) :=
 Rj ▸ Zc (ifs:=[]) (pos:=pos) O hi S F (λ_ _ _ _ _=>TY) he hs
def Xh {i:Nat}{y:Str}{O ab:Pos}(hN:X.N.Nodup)(ad:X.N[i]?=some y)(hy:Ik X.env.scope y)
  (hc:X.Cd=true)(hi:PI X tg iter wi)(S:Hr X scope cl Nc cap)
  (hg:∀C fp gt s H,PG (DI X scope cl C Nc fp gt s H) tg g)(ht:∀C fp gt s H,N4 (DI X scope cl C Nc fp gt s H) ifs tt)(he:∀C fp gt s H,PE (DI X scope cl C Nc fp gt s H) elt te)
  (ae:x4 (.ListComp elt [⟨tg,iter,ifs,0⟩] scope pos) (some (.Name y O)) ab.line X.env=pure true:=by rfl)(hs:∀z,t7 iter X.env z=pure z:=by intro _;rfl)
  (hf:X.fn y=true\/X.env.scope.names.lookup y=some .local:=by first|exact .inl rfl|exact .inr rfl|assumption) :
  PS X (.Assign [.Name y O] (.ListComp elt [⟨tg,iter,ifs,0⟩] scope pos) ab) (JT (LY Nc.length cap wi g tt te) (BU i)):=by
 intro gt s σ H D I h;rw[exec_Assign_Name_used _ _ _ _ ae];refine nv (aaf (nv ?_));show wpAny _ X.A (do let _ <-comprehension (.ListComp elt [⟨tg,iter,ifs,0⟩] scope pos) scope X.env _ (newList []) false (eval iter X.env) (some (yZ (.Name y O) X.env))) _ _ s;refine nv (qG (Ro (use:=some (yZ (.Name y O) X.env)) (P:=λ_ s'=>SP X gt D .next s') hc hi S hg ht he hs I h λaa C H5 s6 m6 ac F ag qn=>?_) (λ_ s' hq=>nZ (nZ hq)) λ_ _ e=>e);show wpAny (model X.prog X.w) X.A (yZ (.Name y O) X.env (.ref aa)) _ X.xe s6;refine aa3 (R0 (v:=.ref aa) ac hN ad hy rfl (λs7 I7 ⟨a7,ah,e7⟩=>?_) hf);have nC:C≠a7:=by
  rcases e7 with e7|e7
  ·rw[e7];exact F.2.1
  ·exact qu (F.2.2.2.2.1 _ _ e7)
 refine⟨m6,ag.sameBut ah nC,λh8 af=>⟨_,H5,?_,qn⟩⟩;exact I7.EL (t':=s7.toks) (λb o hb q=>(af.2 b hb).trans q) F.1 F.2.1 F.2.2.2.1 F.2.2.2.2.1 F.2.2.2.2.2
def Im {i:Nat}{y:Str}{F O:Pos}(hN:X.N.Nodup)(aa:X.N[i]?=some y)(hy:Ik X.env.scope y)
  (hc:X.Cd=true)(hi:PI X tg iter wi)(S:Hr X scope cl Nc cap)
  (hg:∀C fp gt s H,PG (DI X scope cl C Nc fp gt s H) tg g)(he:∀C fp gt s H,PE (DI X scope cl C Nc fp gt s H) elt te)
  (ab:x4 (.ListComp elt [⟨tg,iter,[],0⟩] scope pos) (some (.Name y F)) O.line X.env=pure true:=by rfl)(hs:∀z,t7 iter X.env z=pure z:=by intro _;rfl)
  (hf:X.fn y=true\/X.env.scope.names.lookup y=some .local:=by first|exact .inl rfl|exact .inr rfl|assumption) :
  PS X (.Assign [.Name y F] (.ListComp elt [⟨tg,iter,[],0⟩] scope pos) O) (JT (Nd Nc.length cap wi g te) (BU i)) :=
 Rj ▸ Xh (ifs:=[]) hN aa hy hc hi S hg (λ_ _ _ _ _=>TY) he ab hs hf
end
section
variable {X:Cx}
def BN(i:Int):Prop:=i.natAbs<2 ^ 8968
def UE(h:BN i):i.natAbs.log2<8968:=by
 by_cases z:i.natAbs=0
 ·rw[z];decide
 ·exact(Nat.log2_lt z).mpr h
def SW(h:BN i):aag i<=8969:=by
 have:=UE h
 unfold aag;split<;>omega
def Lh(i j:Int):Prop:=BN i/\BN j
def CK:Bf X (tE .Mult) (rI Lh λi j=>.int (i*j)):=Ji λ_ _ _ _ _ _ _ F q=>mul_int q (IntMulOk.of_bits (oC (SW F.1) (by decide)) (oC (SW F.2) (by decide)))
def JG(_ j:Int):Prop:=j≠0/\BN j
def FV:Bf X (tE .FloorDiv) (rI JG λi j=>.int (i.fdiv j)):=Ji λ_ _ _ _ _ _ _ F q=>floordiv_int F.1 q (.inl (PyProof.noPylong_of_log2 (by have:=UE F.2;omega)))
def MH(lo step:Int)(n:Nat):It:=⟨λi _=>i<n,λi H x H'=>H'=H/\x=.int (lo+i*step),λi _=>n<=i⟩
def Yq{P:o6}{w:World}{K:nT}{tg:pI}(F:Addr)(lo step:Int)(n:Nat):FD P w K tg (MH lo step n) [F] F (λi h=>zt h F (lo+(i:Nat)*step) ((n:Int)-(i:Nat)) step) where
 mem:=by simp
 Ci:=λi h st b O=>by
  obtain rfl:b=F:=by simpa using O
  exact⟨_,st,λv z=>by
   have z':xJ _=wG v:=z;cases z'⟩
 keep:=λi h h' st k=>k F (by simp) _ st
 item:=by
  intro X hP hw hK hc i gt s σ H E I hf st hg;subst hP hw hK;obtain⟨f0,f1,f2,f3,f4,f5⟩:=hf F (by simp);have W:=Walks.range (prog:=X.prog) (w:=X.w) (I.ok.hd hc) F lo step n;refine W.item i s _ _ hg st λv h' tk hv aa kk=>?_
  obtain⟨t,rfl⟩:=hv;have I1:AK X gt σ H { s with heap:=h',toks:=tk}:=I.EL (λb o O e=>kk b o (by simpa using O) e) f0 f1 f3 f4 f5;exact⟨_,J,Lf (s:={ s with heap:=h',toks:=tk}) (n:="range_iterator") aa rfl rfl (by decide) ⟨.int (lo+i*step),H,I1,⟨t,J⟩,⟨J,J⟩,aa,λb O=>(hf b O).1⟩⟩
 done:=by
  intro X hP hw hK hc i gt s σ H E I hf st hg;subst hP hw hK;obtain⟨f0,f1,f2,f3,f4,f5⟩:=hf F (by simp);exact zF (I.ok.hd hc) st (by have:n<=i:=hg;omega) λh' eb=>⟨J,I.EL (t':=s.toks) (λb o O e=>eb b o O e) f0 f1 f3 f4 f5⟩
 self:=λ_ _ _ _ _ st h=>zD st h
def bG {lo step:Int}{n:Nat}{g:TG}{tb:TS}{D:DV}{σ:St}{H:Hp}(F:Nat->St->Hp->Prop)(h0:F 0 σ H)
  (hs:∀i σ H,i<n->F i σ H->g (.int (lo+i*step)) σ H λσ2 H2=>tb { D with nx:=F (i+1),ct:=F (i+1),bk:=D.nx} σ2 H2)(hd:∀σ H,F n σ H->D.nx σ H) :
  ∃W:Nat->Nat->St->Hp->Prop,(∃m,W 0 m σ H)/\∀i m σ H,W i m σ H →
   ((MH lo step n).Dm i H/\D.nx σ H)\/((MH lo step n).go i H/\∃N:St->Hp->Prop,(∀σ' H',N σ' H'->∃m',m' < m/\W (i+1) m' σ' H')/\∀x H',(MH lo step n).Dp i H x H'->g x σ H' λσ2 H2=>tb { D with nx:=N,ct:=N,bk:=D.nx} σ2 H2):=by
 refine⟨λi m σ H=>m=n-i/\i<=n/\F i σ H,⟨n,by simp,pD _,h0⟩,?_⟩;rintro i m σ H ⟨rfl,hi,p⟩;rcases oM i n with O|hge
 ·refine .inr ⟨O,F (i+1),λσ' H' p'=>⟨n-(i+1),by omega,J,O,p'⟩,λx H' y=>?_⟩;obtain⟨e,y⟩:=y;subst e y;exact hs i σ _ O p
 ·obtain rfl:i=n:=by omega
  exact .inl ⟨nQ _,hd σ H p⟩
def lG(K:nT)(c:V)(cv:Value):List V->Hp->VK->Prop:=λxs H Q=>∃x t b,xs=[x,c]/\DW K H x t/\vX K t cv=some b/\Q (.bl b) H
def J0(O:∀u,Av c u->u=cv):CQ X (.builtin "isinstance") (lG X.K c cv):=by
 intro gt s σ H xs us Q I r h;obtain⟨x,t,b,rfl,ty,e,q⟩:=h;obtain⟨u,w',rfl,F,r2⟩:=Lb r;cases O w' r2;exact YZ I F ty e λtk=>⟨.bl b,H,I.De _,J,q⟩
def Jm:qo "isinstance" = some (.builtin "isinstance"):=by decide +kernel
def Up:qo "int" = some (.type "int"):=by decide +kernel
def dP:qo "bool" = some (.type "bool"):=by decide +kernel
def EH:qo "tuple" = some (.type "tuple"):=by decide +kernel
def QE:qo "all" = some (.builtin "all"):=by decide +kernel
def Gx:qo "len" = some (.builtin "len"):=by decide +kernel
def QB:qo "abs" = some (.builtin "abs"):=by decide +kernel
def NK:qo "max" = some (.builtin "max"):=by decide +kernel
def NI:qo "min" = some (.builtin "min"):=by decide +kernel
def LA(K:nT)(t:Value):vX K t t=some true:=by
 unfold vX;rw[nX (beq_self_eq_true t)]
def Xc(K:nT):vX K (.type "int") (.type "bool")=some false:=by first|rfl|decide +kernel|kernel_rfl
def Th:∀{bs:List Bool} {us:List Value},Af (bs.map V.bl) us->us=bs.map uo
 |[],_,.nil=>rfl
 |b :: r,_,.cons (b:=u) h t=>by
  have h':u=uo b:=h;rw[h',Th t];rfl
def mD(K:nT):List V->Hp->VK->Prop:=λxs H Q=>∃(p:Addr) (bs:List Bool),xs=[.ref p]/\AI K H p (bs.map V.bl)/\Q (.bl (bs.all id)) H
def Yx(bs:List Bool):((og bs.length).all λi=>(bs[i]?).getD true)=bs.all id:=by
 rw[tU,yK,yK];constructor
 ·intro h b O;obtain⟨i,hi,rfl⟩:=List.mem_iff_getElem.mp O
  have:=h i (o7.mpr hi)
  rw[nj hi]at this;exact this
 ·intro h i hi;have F:=o7.mp hi;rw[nj F];exact h _ (pX F)
def OZ(hc:X.Cd=true):CQ X (.builtin "all") (mD X.K):=by
 intro gt s σ H xs us Q I r h;obtain⟨p,bs,rfl,hq,q⟩:=h;obtain⟨u,rfl,r1⟩:=El r;cases r1;obtain⟨ac,rv,pl,hz⟩:=I.list hq;have e:=Th rv;subst e;have aa:p<s.heap.objs.size:=by
  obtain⟨o,_,ho,_⟩:=pl;exact ow ho
 refine call_all_walk (tG pl.isList ?_);refine⟨s.heap.objs.size,_,_,_,_,_,λi=>(bs[i]?).getD true,J,Walks.list (show X.A.in1.handled=none from I.ok.hd hc) _ p (o8 aa) (bs.map uo).toArray,⟨⟨_,oq _ rfl,J,J⟩,pl.isList.push _⟩,λi v s' Q' E' F O=>?_,λh' tk k=>?_⟩
 ·have F:(bs.map uo).toArray[i]?=some v:=F;have O:Q' ((bs[i]?).getD true) s':=O;rw[tf,nV]at F;cases e:bs[i]? with
  |none=>rw[e]at F;cases F
  |some b =>
   rw[e]at F;obtain rfl:uo b=v:=oy F;have ab:Q' b s':=by
    rw[e]at O;exact O
   exact nZ ab
 ·refine⟨.bl (bs.all id),H,I.CC λb o eb=>?_,?_,q⟩
  ·exact k b o (λz=>by
    have:b=s.heap.objs.size:=by simpa using z
    exact absurd (ow eb) (by rw[this];exact sT _)) (nP _ eb)
  ·show uo _=uo _;rw[ou,nh,Yx]
end
section
variable {prog:o6}{w:World}{A:qf}{E:Value->nU->Prop}{s:nU}
def RZ {c t:Addr}{k:Nat}{vs:Array Value}{y:Value}{Q:Value->nU->Prop}(hc:s.heap.IsTupleIter c t k)(ht:s.heap.IsTuple t vs)(hy:vs[k]?=some y)
  (hQ:∀h',h'.IsTupleIter c t (k+1)->p8 c s.heap h'->Q y { s with heap:=h'}):wpAny (model prog w) A (qp (.ref c)) Q E s:=by
 obtain⟨ob,e1,e2,O⟩:=id hc;obtain⟨ot,f1,_,nt,f2⟩:=ht;unfold qp;refine nv (rK (name:=vm "__next__") hc.typeIs sY (rL sY hc.typeIs wB ?_ (wm _)));show wpAny _ _ (field (.ref c) 0 >>= _) _ _ s;refine nv (rF e1 O (x:=.ref t) rfl ?_);show wpAny _ _ (if (qW t == su)=true then _ else _) _ _ _;rw[nS (show ¬((qW t == su)=true) by exact oV)];show wpAny _ _ (field (.ref c) 1 >>= _) _ _ s;refine nv (rF e1 O (x:=.int k 0) rfl ?_);show wpAny _ _ (aaP (.ref t) >>= _) _ _ _;refine nv (sv f1 f2 ?_);simp only[pG,hy];refine nv (tJ e1 O (by simp) (nZ ⟨y,J,nZ (hQ _ ?_ (qL ..))⟩));exact⟨_,rZ _ e1 (Obj.isFreed_of_fields (aaC O _)),(Obj.cls_mapFields ..).trans e2,by rw[aaC O];simp[rY]⟩
def Ru {c t:Addr}{k:Nat}{vs:Array Value}{Q:Value->nU->Prop}(hh:A.handled=none)(hc:s.heap.IsTupleIter c t k)(ht:s.heap.IsTuple t vs)(hy:vs[k]?=none)
  (hE:∀h' x,uY c s.heap h'->(∃o,h'.get? x=some o/\o.cls=.type "StopIteration")->E (.ref x) { s with heap:=h'}):wpAny (model prog w) A (qp (.ref c)) Q E s:=by
 obtain⟨ob,e1,e2,O⟩:=id hc;obtain⟨ot,f1,_,nt,f2⟩:=ht;unfold qp;refine nv (rK (name:=vm "__next__") hc.typeIs sY (rL sY hc.typeIs wB ?_ (wm _)));show wpAny _ _ (field (.ref c) 0 >>= _) _ _ s;refine nv (rF e1 O (x:=.ref t) rfl ?_);show wpAny _ _ (if (qW t == su)=true then _ else _) _ _ _;rw[nS (show ¬((qW t == su)=true) by exact oV)];show wpAny _ _ (field (.ref c) 1 >>= _) _ _ s;refine nv (rF e1 O (x:=.int k 0) rfl ?_);show wpAny _ _ (aaP (.ref t) >>= _) _ _ _;refine nv (sv f1 f2 ?_);simp only[pG,hy];refine nv (vz (nv (tJ e1 O (by simp) ?_)));show wpAny _ _ (newExc (.type "StopIteration") [] >>= _) _ _ (_:nU);refine nv ?_;simp only[newExc,newTuple];refine nv (qC ?_ (by size_fits));refine nv (m:=xG _ _) (abe (a:=su) (by first|rfl|(simp only[xG];rfl)) ?_);refine qC ?_ (by size_fits);simp only[raiseNew];refine nv (wpAny_handled ?_);first|rw[show A.in1.handled=none from hh]|rw[hh]
 refine nv (nZ (wpAny_throw (hE _ _ (((qL ..).extBut.push _).push _) ⟨_,oq _ rfl,J⟩)))
def UY(hh:A.handled=none)(c t:Addr)(aa:t≠c)(vs:Array Value):
  Draws prog w A c [c,t] vs.size (λi v=>vs[i]?=some v) (λi h=>h.IsTupleIter c t i/\h.IsTuple t vs) where
 live:=λ_ _ st=>let ⟨o,ho,_⟩:=st.1;⟨o,ho⟩
 frame:=λ_ _ _ st O=>⟨let ⟨o,ho,r⟩:=st.1;⟨o,O c (by simp) o ho,r⟩,let ⟨o,ho,r⟩:=st.2;⟨o,O t (by simp) o ho,r⟩⟩
 item:=λi s' Q' E' hi st hQ=>RZ st.1 st.2 (y:=vs[i]) (by simp[hi]) λh' k1 F=>hQ _ h' s'.toks (by simp[hi]) ⟨k1,st.2.extBut F.extBut aa⟩ F
 done:=λs' Q' E' st hE=>Ru hh st.1 st.2 (by simp) hE
set_option maxHeartbeats 1000000 in
def Xw(t:Addr)(vs:Array Value)(n:Nat)(aa:Option Addr)(sl:Array (Option Value)):
  Meets (oN.«enumerate.__new__» ⟨[.type "enumerate",.ref t],[]⟩) (λ_ R s=>s.heap.get? t=some { cls:=.type "tuple",dict:=aa,data:=.seq vs n,slots:=sl} /\
   R (.ok (.ret (.ref (s.heap.push { cls:=.type "tuple_iterator",data:=.fields #[.ref t,.int 0 0]}).objs.size)))
    { s with heap:=(s.heap.push { cls:=.type "tuple_iterator",data:=.fields #[.ref t,.int 0 0]}).push { cls:=.type "enumerate",data:=.fields #[.none,.bool false,.ref s.heap.objs.size,rY 0,.none,.none]}}) :=
 .of_wp λprog w A R s h=>by
  obtain⟨hp,g,d,tk,os⟩:=s;obtain⟨F,h⟩:=h;have ab:=sub_enumerate;have O:uA (uu ⟨hp,g,d,tk,os⟩) t vs:=⟨_,F,J,n,J⟩
  wp_walk using vK F
  refine wpAny_stack_any λst=>nZ ?_
  split
  ·rename_i c _ _ _ _ _
   cases (c == vx "enumerate")<;>(wp_walk using vK F,sk O;exact⟨_,J,h⟩)
  ·wp_walk using vK F,sk O;exact⟨_,J,h⟩
def YK {t:Addr}{vs:Array Value}{Q:Value->nU->Prop}(hT:s.heap.IsTuple t vs)
  (h:∀h',aas h' (s.heap.objs.size+1) s.heap.objs.size 0 .none->h'.IsTupleIter s.heap.objs.size t 0->(∀b o,s.heap.get? b=some o->h'.get? b=some o)->Q (.ref (s.heap.objs.size+1)) { s with heap:=h'}) :
  wpAny (model prog w) A (call (.type "enumerate") [.ref t]) Q E s:=by
 obtain⟨⟨c,aa,dt,sl⟩,ht,hc,n,hd⟩:=hT;obtain rfl:c=.type "tuple":=hc;obtain rfl:dt=.seq vs n:=hd;refine callType_new PySem.F.called_enumerate (by decide) (PySem.F.typeCall_enumerate_1 _) (PySem.F.newCall_enumerate_1 _) (λab=>PySem.F.args_object_init_2 ab _) PySem.F.entry_enumerate_new (Xw t vs n aa sl) ⟨ht,?_⟩;have z:(s.heap.push { cls:=.type "tuple_iterator",data:=.fields #[.ref t,.int 0 0]}).objs.size=s.heap.objs.size+1:=qt ..;show _/\_;rw[z];have O:aas ((s.heap.push { cls:=.type "tuple_iterator",data:=.fields #[.ref t,.int 0 0]}).push { cls:=.type "enumerate",data:=.fields #[.none,.bool false,.ref s.heap.objs.size,rY 0,.none,.none]}) (s.heap.objs.size+1) s.heap.objs.size 0 .none:=by
  have q:=oq (s.heap.push { cls:=.type "tuple_iterator",data:=.fields #[.ref t,.int 0 0]}) (o:={ cls:=.type "enumerate",data:=.fields #[.none,.bool false,.ref s.heap.objs.size,rY 0,.none,.none]}) rfl;rw[z]at q;exact q
 exact⟨⟨_,O,J⟩,h _ O ⟨_,nP _ (oq _ rfl),J,J⟩ λb o q=>nP _ (nP _ q)⟩
end
section
variable {X:Cx}
def MG(a:Addr): It :=
  ⟨λi H => ∃xs x,H a=some (.AG xs)/\xs[i]? = some x,
   λi H v H' => ∃p x,v = .ref p/\H p=none/\H' = AF H p (.AG [.int i,x]) /\ ∀xs,H a=some (.AG xs) → xs[i]? = some x,
   λi H => ∃xs,H a=some (.AG xs)/\xs.length=i⟩
def ZF{P:o6}{w:World}{K:nT}{es:List pI}{kk:Nat}{pos:Pos}{a e O:Addr}(ae:e≠O):
  FD P w K (.Tuple es kk pos) (MG a) [e,O] e (λi h=>(∃ab,aas h e O ((i:Nat):Int) ab)/\h.IsTupleIter O a i) where
 mem:=by simp
 Ci:=λi h st c F=>by
  obtain⟨⟨ab,h1⟩,o2,h2,_,d2⟩:=st;simp only[oj,pB,qK]at F;rcases F with rfl|rfl
  ·exact⟨_,h1,λv z=>by have z':xJ _=wG v:=z;cases z'⟩
  ·exact⟨_,h2,λv z=>by rw[d2]at z;cases z⟩
 keep:=λi h h' st k=>by
  obtain⟨⟨ab,h1⟩,o2,h2,r⟩:=st;exact⟨⟨ab,k e (by simp) _ h1⟩,o2,k O (by simp) _ h2,r⟩
 item:=by
  intro X hP hw hK F i gt s σ H E I hf st hg;subst hP hw hK;obtain⟨xs,x,qa,hx⟩:=hg;obtain⟨aa,rv,pa,_⟩:=I.tuple (AH.of (K:=X.K) qa);obtain⟨ux,ag,rx⟩:=rv.get hx;obtain⟨⟨ab,h1⟩,h2⟩:=st;have ap:e≠a:=λz=>by
   have:=(hf e (by simp)).1
   rw[z,qa]at this;cases this
  have af:a≠O:=λz=>by
   have:=(hf O (by simp)).1
   rw[<-z,qa]at this;cases this
  have ak:i<aa.toArray.size:=by
   rw[ou];exact(nq.mp ag).1
  have D:Draws X.prog X.w X.A.in1 O [O,a] aa.toArray.size (λi v=>aa.toArray[i]?=some v) (λi h=>h.IsTupleIter O a i/\h.IsTuple a aa.toArray):=UY (show X.A.in1.handled=none from I.ok.hd F) O a af aa.toArray;refine zi D h1 ⟨h2,pa⟩ ak ae (by simp[ae,ap]) λy h' tk hy a1 a2 a3 a4 k=>?_
  have al:y=ux:=by
   have q1:aa.toArray[i]?=some y:=hy;rw[tf,ag]at q1;exact(oy q1).symm
  subst al;refine⟨_,J,yi a1 λac b1 sb=>?_⟩;have sb:p8 e h' ac:=sb;have ai:s.heap.objs.size≠e:=r8 (ow h1);have am:s.heap.objs.size≠O:=by
   obtain⟨o,g,_⟩:=id h2;exact r8 (ow g)
  have hn:H s.heap.objs.size=none:=I.Aj.fresh (nQ _);have ad:∀c o,c∉[e,O]->s.heap.get? c=some o->ac.get? c=some o:=λc o F q =>
   (sb.2 c λz=>F (by simp[z])).trans (k c o (λz=>F (by simp[z])) (λz=>F (by simp[z])) q)
  have tO:ac.get? s.heap.objs.size=some { cls:=.type "tuple",data:=.seq #[.int i tk,y]}:=(sb.2 _ ai).trans a3;have nt:∀c u,H c=some u->c∉[e,O]:=λc u q F=>by
   have:=(hf c F).1
   rw[q]at this;cases this
  have aj:Bh X.prog X.w (AF H s.heap.objs.size (.AG [.int i,x])) ac s.heap.objs.size (.AG [.int i,x]) :=
   ⟨by exact Bk,[.int i tk,y],.cons ⟨tk,J⟩ (.cons rx .nil),⟨_,tO,J,_,J⟩,_,tO,J⟩
  have I1:AK X gt σ (AF H s.heap.objs.size (.AG [.int i,x])) { s with heap:=ac,toks:=tk+1}:=by
   refine I.step (g':=s.gens) (d':=s.drawn) (t':=tk+1) (ch:=[e,O]) (λc F=>⟨(hf c F).2.2.2.1,(hf c F).2.1,(hf c F).2.2.2.2.1,(hf c F).2.2.2.2.2⟩) (λc o _ _ F q _=>ad c o F q) (λc o _ _ F q _=>⟨o.slots,ad c o F q⟩)
    (λc o _ q n=>by rw[Ad (o8 (ow q))];exact n) (λc o F q=>⟨o,ad c o F q⟩) (λc vs q=>by rw[Ad (BW q hn)];exact q) (λc o vs q=>by rw[Ad (BW q hn)];exact q)
    (λc ps q=>⟨#[],by rw[Ad (BW q hn),q];simp⟩) (λm hm=>?_) (λc o q=>?_) I.DT
   ·obtain⟨o,ao,ep,ho,r⟩:=hm;exact⟨o,ao,ep,ad _ o (λq=>(hf _ q).2.1 rfl) ho,r⟩
   ·by_cases ah:c=s.heap.objs.size
    ·subst ah;rw[AU]at q;cases q;exact aj
    ·rw[Ad ah]at q;refine(I.Aj c o q).Gf (λd v hd z=>ad d v ?_ z) (λd z=>by rw[Ad (BW z hn)];exact z) λd vs z=>by rw[Ad (BW z hn)];exact z
     rcases hd with hd|hd
     ·rw[hd];exact nt c o q
     ·exact nt d _ hd
  have g2:ac.IsTupleIter O a (i+1):=by
   obtain⟨⟨o,g,r⟩,_⟩:=a2;exact⟨o,(sb.2 _ (qu ae)).trans g,r⟩
  have g1:aas ac e O (((i+1:Nat)):Int) y:=by
   have:((i+1:Nat):Int)=(i:Int)+1:=by lia
   rw[this];exact b1
  exact⟨.ref s.heap.objs.size,_,I1,J,⟨_,x,J,hn,J,λaq q=>by rw[qa]at q;cases q;exact hx⟩,⟨⟨_,g1⟩,g2⟩,λc F=>by
   have:c≠s.heap.objs.size:=by
    simp only[oj,pB,qK]at F;rcases F with rfl|rfl
    ·exact qu ai
    ·exact qu am
   rw[Ad this];exact(hf c F).1⟩
 done:=by
  intro X hP hw hK F i gt s σ H E I hf st hg;subst hP hw hK;obtain⟨xs,qa,hl⟩:=hg;obtain⟨aa,rv,pa,_⟩:=I.tuple (AH.of (K:=X.K) qa);obtain⟨⟨ab,h1⟩,h2⟩:=st;have af:a≠O:=λz=>by
   have:=(hf O (by simp)).1
   rw[<-z,qa]at this;cases this
  have D:Draws X.prog X.w X.A.in1 O [O,a] aa.toArray.size (λi v=>aa.toArray[i]?=some v) (λi h=>h.IsTupleIter O a i/\h.IsTuple a aa.toArray):=UY (show X.A.in1.handled=none from I.ok.hd F) O a af aa.toArray;have hi:aa.toArray.size=i:=by
   rw[ou,<-rv.length];exact hl
  obtain⟨f0,f1,f2,f3,f4,f5⟩:=hf O (by simp);refine zE D h1 (by rw[hi];exact⟨h2,pa⟩) λh' k=>⟨J,I.EL (t':=s.toks) (λb o hb q=>k b o hb q) f0 f1 f3 f4 f5⟩
 self:=λ_ _ _ _ _ st h=>by
  obtain⟨⟨ab,h1⟩,_⟩:=st;exact wq h1 h
def V9(ta:TA):TI:=λσ H R=>ta σ H λvs H1=>∃a xs,vs=[.ref a]/\H1 a=some (.AG xs)/\R (MG a) H1
def LL{es:List pI}{kk:Nat}{tpos:Pos}{a:pI}{ta:TA}{p pos:Pos}(hg:Gl X "enumerate")(hm:X.mg "enumerate" = none)(ha:PA X [a] ta)(hs:oZ [a] X.env=[(false,eval a X.env)]:=by rfl):
  PI X (.Tuple es kk tpos) (.Call (.Name "enumerate" p) [a] [] pos) (V9 ta):=by
 intro gt s σ H R I h;refine Call_ (EK I hg hm xW (pQ (Ac (ha pos gt s σ H _ I h) λus O ⟨vs,H1,F,r1,q1⟩=>?_) hs rfl));obtain⟨la,xs,e,qa,q⟩:=q1;subst e;obtain⟨u1,rfl,ra⟩:=El r1;cases ra;obtain⟨ab,rv,pa,_⟩:=F.tuple (AH.of (K:=X.K) qa);refine YK pa λh' z1 z2 zk=>wq z1 ?_
 have I2:AK X gt σ H1 { O with heap:=h'}:=F.CC (t':=O.toks) zk;refine⟨O.heap.objs.size+1,_,_,_,H1,J,I2,ZF (abo _),⟨⟨_,z1⟩,z2⟩,λc hc=>?_,q⟩;have aa:O.heap.objs.size<=c:=by
  simp only[oj,pB,qK]at hc;rcases hc with rfl|rfl<;>lia
 exact F.HY (H':=H1) aa (F.Aj.fresh aa)
def K4 {a:Addr}{xs:List V}{g:TG}{tb:TS}{D:DV}{σ:St}{H:Hp}(F:Nat->St->Hp->Prop)(h0:F 0 σ H)(hl:∀i σ H,i<=xs.length->F i σ H->H a=some (.AG xs))
  (hs:∀i x σ H p,xs[i]?=some x->F i σ H->H p=none->g (.ref p) σ (AF H p (.AG [.int i,x])) λσ2 H2=>tb { D with nx:=F (i+1),ct:=F (i+1),bk:=D.nx} σ2 H2)(hd:∀σ H,F xs.length σ H->D.nx σ H) :
  ∃W:Nat->Nat->St->Hp->Prop,(∃m,W 0 m σ H)/\∀i m σ H,W i m σ H →
   ((MG a).Dm i H/\D.nx σ H)\/((MG a).go i H/\∃N:St->Hp->Prop,(∀O H',N O H'->∃m',m' < m/\W (i+1) m' O H')/\∀x H',(MG a).Dp i H x H'->g x σ H' λσ2 H2=>tb { D with nx:=N,ct:=N,bk:=D.nx} σ2 H2):=by
 refine⟨λi m σ H=>m=xs.length-i/\i<=xs.length/\F i σ H,⟨xs.length,by simp,pD _,h0⟩,?_⟩;rintro i m σ H ⟨rfl,hi,p⟩;have qa:=hl i σ H hi p;rcases oM i xs.length with aa|hge
 ·refine .inr ⟨⟨xs,xs[i],qa,by simp[aa]⟩,F (i+1),λO H' p'=>⟨xs.length-(i+1),by lia,J,aa,p'⟩,λv H' yl=>?_⟩;obtain⟨pa,x,rfl,hp,rfl,hx⟩:=yl;exact hs i x σ H pa (hx xs qa) p hp
 ·obtain rfl:i=xs.length:=by lia
  exact .inl ⟨⟨xs,qa,J⟩,hd σ H p⟩
def fD:V->List V->Hp->VK->Prop:=λx vs H Q=>∃l xs k y,x=.ref l/\vs=[.int k,y]/\H l=some (.AE xs)/\0<=k/\k<=xs.length/\xs.length<1000000/\Q .A5 (AF H l (.AE (xs.take k.toNat++y :: xs.drop k.toNat)))
def OY:MD X "list.insert" fD:=by
 intro gt s σ H x vs v us Q I rx rv h;obtain⟨l,xs,k,y,rfl,rfl,hH,k0,k1,hz,q⟩:=h;cases rx;obtain⟨u1,u2,rfl,r1,r2⟩:=Lb rv;obtain⟨t,rfl⟩:=r1;obtain⟨z,O,n,r,hl,e⟩:=I.HZ hH;have aa:O.length<=oK:=by rw[<-hl];exact z
 have ab:¬(!Builtin.List.listFitsIndex k)=true:=by
  unfold oN.List.listFitsIndex;simp only[abf,Bool.not_eq_false',qX,t6]
  lia
 refine vY uH ⟨_,e,J⟩ PySem.F.entry_list_insert (PySem.F.args_list_insert_3 _ _ _) (AutoSeq1.list_insert_list_int_val_1 l O.toArray n k t u2 ab (by rw[ou];exact aa)) ⟨e,?_⟩;refine⟨.A5,_,I.Nz (its':=O.take k.toNat++u2 :: O.drop k.toNat) hH e ?_ ((r.take _).append (.cons r2 (r.drop _))) ?_,J,q⟩
 ·have hk:¬k<0:=by lia
  have hm:min k.toNat O.toArray.size=k.toNat:=by rw[ou];lia
  simp only[nS hk,hm];apply Array.toList_inj.mp;simp;exact oB (by simp)
 ·rw[oa,oP,pS,pY];rw[sQ]at *
  lia
end
section
variable {X:Cx}
def Ib(a:Addr): It :=
  ⟨λi H => ∃xs x,H a=some (.AE xs)/\xs[i]? = some x,
   λi H v H' => ∃p x,v = .ref p/\H p=none/\H' = AF H p (.AG [.int i,x]) /\ ∀xs,H a=some (.AE xs) → xs[i]? = some x,
   λi H => ∃xs,H a=some (.AE xs)/\xs.length=i⟩
def X6{P:o6}{w:World}{K:nT}{es:List pI}{kk:Nat}{pos:Pos}{a e O:Addr}(ae:e≠O):
  FD P w K (.Tuple es kk pos) (Ib a) [e,O] e (λi h=>(∃ab,aas h e O ((i:Nat):Int) ab)/\h.IsListIter O a i) where
 mem:=by simp
 Ci:=λi h st c F=>by
  obtain⟨⟨ab,h1⟩,o2,h2,_,d2⟩:=st;simp only[oj,pB,qK]at F;rcases F with rfl|rfl
  ·exact⟨_,h1,λv z=>by have z':xJ _=wG v:=z;cases z'⟩
  ·exact⟨_,h2,λv z=>by rw[d2]at z;cases z⟩
 keep:=λi h h' st k=>by
  obtain⟨⟨ab,h1⟩,o2,h2,r⟩:=st;exact⟨⟨ab,k e (by simp) _ h1⟩,o2,k O (by simp) _ h2,r⟩
 item:=by
  intro X hP hw hK F i gt s σ H E I hf st hg;subst hP hw hK;obtain⟨xs,x,qa,hx⟩:=hg;obtain⟨aa,rv,pa,_⟩:=I.list (AI.of (K:=X.K) qa);obtain⟨ux,ag,rx⟩:=rv.get hx;obtain⟨⟨ab,h1⟩,h2⟩:=st;have ap:e≠a:=λz=>by
   have:=(hf e (by simp)).1
   rw[z,qa]at this;cases this
  have af:a≠O:=λz=>by
   have:=(hf O (by simp)).1
   rw[<-z,qa]at this;cases this
  have ak:i<aa.toArray.size:=by
   rw[ou];exact(nq.mp ag).1
  have D:Draws X.prog X.w X.A.in1 O [O,a] aa.toArray.size (λi v=>aa.toArray[i]?=some v) (λi h=>h.IsListIter O a i/\h.IsList a aa.toArray):=Draws.list (show X.A.in1.handled=none from I.ok.hd F) O a af aa.toArray;refine zi D h1 ⟨h2,pa.isList⟩ ak ae (by simp[ae,ap]) λy h' tk hy a1 a2 a3 a4 k=>?_
  have al:y=ux:=by
   have q1:aa.toArray[i]?=some y:=hy;rw[tf,ag]at q1;exact(oy q1).symm
  subst al;refine⟨_,J,yi a1 λac b1 sb=>?_⟩;have sb:p8 e h' ac:=sb;have ai:s.heap.objs.size≠e:=r8 (ow h1);have am:s.heap.objs.size≠O:=by
   obtain⟨o,g,_⟩:=id h2;exact r8 (ow g)
  have hn:H s.heap.objs.size=none:=I.Aj.fresh (nQ _);have ad:∀c o,c∉[e,O]->s.heap.get? c=some o->ac.get? c=some o:=λc o F q =>
   (sb.2 c λz=>F (by simp[z])).trans (k c o (λz=>F (by simp[z])) (λz=>F (by simp[z])) q)
  have tO:ac.get? s.heap.objs.size=some { cls:=.type "tuple",data:=.seq #[.int i tk,y]}:=(sb.2 _ ai).trans a3;have nt:∀c u,H c=some u->c∉[e,O]:=λc u q F=>by
   have:=(hf c F).1
   rw[q]at this;cases this
  have aj:Bh X.prog X.w (AF H s.heap.objs.size (.AG [.int i,x])) ac s.heap.objs.size (.AG [.int i,x]) :=
   ⟨by exact Bk,[.int i tk,y],.cons ⟨tk,J⟩ (.cons rx .nil),⟨_,tO,J,_,J⟩,_,tO,J⟩
  have I1:AK X gt σ (AF H s.heap.objs.size (.AG [.int i,x])) { s with heap:=ac,toks:=tk+1}:=by
   refine I.step (g':=s.gens) (d':=s.drawn) (t':=tk+1) (ch:=[e,O]) (λc F=>⟨(hf c F).2.2.2.1,(hf c F).2.1,(hf c F).2.2.2.2.1,(hf c F).2.2.2.2.2⟩) (λc o _ _ F q _=>ad c o F q) (λc o _ _ F q _=>⟨o.slots,ad c o F q⟩)
    (λc o _ q n=>by rw[Ad (o8 (ow q))];exact n) (λc o F q=>⟨o,ad c o F q⟩) (λc vs q=>by rw[Ad (BW q hn)];exact q) (λc o vs q=>by rw[Ad (BW q hn)];exact q)
    (λc ps q=>⟨#[],by rw[Ad (BW q hn),q];simp⟩) (λm hm=>?_) (λc o q=>?_) I.DT
   ·obtain⟨o,ao,ep,ho,r⟩:=hm;exact⟨o,ao,ep,ad _ o (λq=>(hf _ q).2.1 rfl) ho,r⟩
   ·by_cases ah:c=s.heap.objs.size
    ·subst ah;rw[AU]at q;cases q;exact aj
    ·rw[Ad ah]at q;refine(I.Aj c o q).Gf (λd v hd z=>ad d v ?_ z) (λd z=>by rw[Ad (BW z hn)];exact z) λd vs z=>by rw[Ad (BW z hn)];exact z
     rcases hd with hd|hd
     ·rw[hd];exact nt c o q
     ·exact nt d _ hd
  have g2:ac.IsListIter O a (i+1):=by
   obtain⟨⟨o,g,r⟩,_⟩:=a2;exact⟨o,(sb.2 _ (qu ae)).trans g,r⟩
  have g1:aas ac e O (((i+1:Nat)):Int) y:=by
   have:((i+1:Nat):Int)=(i:Int)+1:=by lia
   rw[this];exact b1
  exact⟨.ref s.heap.objs.size,_,I1,J,⟨_,x,J,hn,J,λaq q=>by rw[qa]at q;cases q;exact hx⟩,⟨⟨_,g1⟩,g2⟩,λc F=>by
   have:c≠s.heap.objs.size:=by
    simp only[oj,pB,qK]at F;rcases F with rfl|rfl
    ·exact qu ai
    ·exact qu am
   rw[Ad this];exact(hf c F).1⟩
 done:=by
  intro X hP hw hK F i gt s σ H E I hf st hg;subst hP hw hK;obtain⟨xs,qa,hl⟩:=hg;obtain⟨aa,rv,pa,_⟩:=I.list (AI.of (K:=X.K) qa);obtain⟨⟨ab,h1⟩,h2⟩:=st;have af:a≠O:=λz=>by
   have:=(hf O (by simp)).1
   rw[<-z,qa]at this;cases this
  have D:Draws X.prog X.w X.A.in1 O [O,a] aa.toArray.size (λi v=>aa.toArray[i]?=some v) (λi h=>h.IsListIter O a i/\h.IsList a aa.toArray):=Draws.list (show X.A.in1.handled=none from I.ok.hd F) O a af aa.toArray;have hi:aa.toArray.size=i:=by
   rw[ou,<-rv.length];exact hl
  obtain⟨f0,f1,f2,f3,f4,f5⟩:=hf O (by simp);refine zE D h1 (by rw[hi];exact⟨h2,pa.isList⟩) λh' k=>⟨J,I.EL (t':=s.toks) (λb o hb q=>k b o hb q) f0 f1 f3 f4 f5⟩
 self:=λ_ _ _ _ _ st h=>by
  obtain⟨⟨ab,h1⟩,_⟩:=st;exact wq h1 h
def i5(ta:TA):TI:=λσ H R=>ta σ H λvs H1=>∃a xs,vs=[.ref a]/\H1 a=some (.AE xs)/\R (Ib a) H1
def Hv{es:List pI}{kk:Nat}{tpos:Pos}{a:pI}{ta:TA}{p pos:Pos}(hg:Gl X "enumerate")(hm:X.mg "enumerate" = none)(ha:PA X [a] ta)(hs:oZ [a] X.env=[(false,eval a X.env)]:=by rfl):
  PI X (.Tuple es kk tpos) (.Call (.Name "enumerate" p) [a] [] pos) (i5 ta):=by
 intro gt s σ H R I h;refine Call_ (EK I hg hm xW (pQ (Ac (ha pos gt s σ H _ I h) λus O ⟨vs,H1,F,r1,q1⟩=>?_) hs rfl));obtain⟨la,xs,e,qa,q⟩:=q1;subst e;obtain⟨u1,rfl,ra⟩:=El r1;cases ra;obtain⟨ab,rv,pa,_⟩:=F.list (AI.of (K:=X.K) qa);refine call_enumerate_list pa.isList λh' z1 z2 _ zk=>wq z1 ?_
 have I2:AK X gt σ H1 { O with heap:=h'}:=F.CC (t':=O.toks) zk;refine⟨O.heap.objs.size+1,_,_,_,H1,J,I2,X6 (abo _),⟨⟨_,z1⟩,z2⟩,λc hc=>?_,q⟩;have aa:O.heap.objs.size<=c:=by
  simp only[oj,pB,qK]at hc;rcases hc with rfl|rfl<;>lia
 exact F.HY (H':=H1) aa (F.Aj.fresh aa)
def Iq {a:Addr}{xs:List V}{g:TG}{tb:TS}{D:DV}{σ:St}{H:Hp}(F:Nat->St->Hp->Prop)(h0:F 0 σ H)(hl:∀i σ H,i<=xs.length->F i σ H->H a=some (.AE xs))
  (hs:∀i x σ H p,xs[i]?=some x->F i σ H->H p=none->g (.ref p) σ (AF H p (.AG [.int i,x])) λσ2 H2=>tb { D with nx:=F (i+1),ct:=F (i+1),bk:=D.nx} σ2 H2)(hd:∀σ H,F xs.length σ H->D.nx σ H) :
  ∃W:Nat->Nat->St->Hp->Prop,(∃m,W 0 m σ H)/\∀i m σ H,W i m σ H →
   ((Ib a).Dm i H/\D.nx σ H)\/((Ib a).go i H/\∃N:St->Hp->Prop,(∀O H',N O H'->∃m',m' < m/\W (i+1) m' O H')/\∀x H',(Ib a).Dp i H x H'->g x σ H' λσ2 H2=>tb { D with nx:=N,ct:=N,bk:=D.nx} σ2 H2):=by
 refine⟨λi m σ H=>m=xs.length-i/\i<=xs.length/\F i σ H,⟨xs.length,by simp,pD _,h0⟩,?_⟩;rintro i m σ H ⟨rfl,hi,p⟩;have qa:=hl i σ H hi p;rcases oM i xs.length with aa|hge
 ·refine .inr ⟨⟨xs,xs[i],qa,by simp[aa]⟩,F (i+1),λO H' p'=>⟨xs.length-(i+1),by lia,J,aa,p'⟩,λv H' yl=>?_⟩;obtain⟨pa,x,rfl,hp,rfl,hx⟩:=yl;exact hs i x σ H pa (hx xs qa) p hp
 ·obtain rfl:i=xs.length:=by lia
  exact .inl ⟨⟨xs,qa,J⟩,hd σ H p⟩
def DG(h:k (σ.set i (some v)) H):BU i v σ H k:=h
def DF{t u:L2.TS}{D:DV}{σ:L2.St}{H:Hp}(h:∀U:L2.St->Hp->Prop,u D=U->t { D with nx:=U} σ H):Ka t u D σ H:=h _ rfl
def nx_hide{t:L2.TS}{N c b:L2.St->Hp->Prop}{r:VK}{σ:L2.St}{H:Hp}(h:∀U:L2.St->Hp->Prop,N=U->t { nx:=U,rt:=r,ct:=c,bk:=b} σ H):t { nx:=N,rt:=r,ct:=c,bk:=b} σ H:=h _ rfl
variable {a:Addr}{xs:List V}{g:TG}{tb:TS}{D:DV}{σ:St}{H:Hp}
def R4 (F:Nat->St->Hp->Prop)(h0:F 0 σ H)(hl:∀i σ H,i<=xs.length->F i σ H->H a=some (.AE xs))
  (hs:∀i x σ H p,xs[i]?=some x->F i σ H->H p=none->∀U:St->Hp->Prop,(∀O H',F (i+1) O H'->U O H')->g (.ref p) σ (AF H p (.AG [.int i,x])) λσ2 H2=>tb { D with nx:=U,ct:=U,bk:=D.nx} σ2 H2)(hd:∀σ H,F xs.length σ H->D.nx σ H) :
  ∃W:Nat->Nat->St->Hp->Prop,(∃m,W 0 m σ H)/\∀i m σ H,W i m σ H →
   ((Ib a).Dm i H/\D.nx σ H)\/((Ib a).go i H/\∃N:St->Hp->Prop,(∀O H',N O H'->∃m',m' < m/\W (i+1) m' O H')/\∀x H',(Ib a).Dp i H x H'->g x σ H' λσ2 H2=>tb { D with nx:=N,ct:=N,bk:=D.nx} σ2 H2) :=
 Iq F h0 hl (λi x σ H p e1 e2 e3=>hs i x σ H p e1 e2 e3 _ λ_ _ z=>z) hd
def CL {X:Cx}{o e:pI}{es:List pI}{to:TE}{t:TA}{name:Str}{apos cpos:Pos}{T id:String}{r:V->List V->Hp->VK->Prop}(pa:PlainAttrs T)(ab:Slot T name id)(F:typeOf (.builtin id)=pure (.type "method_descriptor"))(hm:Ks X id r)(ho:PE X o to)(ha:PA X (e :: es) t)
  (aa:yh o name X.env (eval o X.env)=eval o X.env:=by rfl)
  (O:((tR cpos (oZ (e :: es) X.env)).all (λx=>!x.1) && (abu cpos (zA [] X.env)).all (λx=>x.1.isSome) && decide ((e :: es).length+([]:List wI).length+(if ([]:List wI).isEmpty then 0 else 1)<30))=true:=by rfl)
  (ac:(apos.endLine == cpos.line)=true:=by rfl)(hs:oZ (e :: es) X.env=(false,eval e X.env) :: oZ es X.env:=by rfl)(ad:(tR cpos (oZ es X.env)).any (·.1)=false:=by rfl) :
  PE X (.Call (.Attribute o name apos) (e :: es) [] cpos) (XH [] T r to t):=λgt s σ H Q I h=>je pa ab F hm ho.wk ha aa O ac hs ad gt s σ H Q I ⟨_,h,λ_ _ ⟨ty,q⟩=>⟨ty.up,q⟩⟩
def Rb:∀{ns:List Int} {us:List Value},Af (ns.map V.int) us->tV us ns
 |[],_,.nil=>.nil
 |n :: r,_,.cons (b:=u) h t=>by
  obtain⟨k,rfl⟩:=h;exact .cons n k (Rb t)
def Bz(t:Bool)(h:Heap)(c a:Addr)(k:Nat):Prop:=if t then h.IsTupleIter c a k else h.IsListIter c a k
def DQ(t:Bool)(h:Heap)(a:Addr)(vs:Array Value):Prop:=if t then h.IsTuple a vs else h.IsList a vs
def Bz.ext(x:Bz t h c a k)(hs:uY b h h')(n:c≠b):Bz t h' c a k:=by
 cases t
 ·exact abw.extBut x hs n
 ·exact ab7 x hs n
def Bz.at(x:Bz t h c a k)(e:∀o,h.get? c=some o->h'.get? c=some o):Bz t h' c a k:=by
 cases t
 ·exact abw.at x e
 ·exact abi.at x e
def Bz.Ci(x:Bz t h c a k):∃o,h.get? c=some o/\∀v,o.data≠.cell v:=by
 cases t
 ·obtain⟨o,e,_,d⟩:=x;exact⟨o,e,λv z=>by rw[d]at z;cases z⟩
 ·obtain⟨o,e,_,d⟩:=x;exact⟨o,e,λv z=>by rw[d]at z;cases z⟩
def DQ.ext(x:DQ t h a vs)(hs:uY b h h')(n:a≠b):DQ t h' a vs:=by
 cases t
 ·exact vD.extBut x hs n
 ·exact uA.extBut x hs n
variable {prog:o6}{w:World}{A:qf}{E:Value->nU->Prop}{s:nU}
def OS {t:Bool}{c a:Addr}{k:Nat}{vs:Array Value}{y:Value}{Q:Value->nU->Prop}(O:Bz t s.heap c a k)(ht:DQ t s.heap a vs)(hy:vs[k]?=some y)
  (F:∀h',Bz t h' c a (k+1)->p8 c s.heap h'->Q y { s with heap:=h'}):wpAny (model prog w) A (qp (.ref c)) Q E s:=by
 cases t
 ·exact wpAny_nextOf_list_item O ht hy F
 ·exact RZ O ht hy F
def SE {t:Bool}{c a:Addr}{k:Nat}{vs:Array Value}{Q:Value->nU->Prop}(hh:A.handled=none)(F:Bz t s.heap c a k)(O:DQ t s.heap a vs)(hy:vs[k]?=none)
  (hE:∀h' x,uY c s.heap h'->(∃o,h'.get? x=some o/\o.cls=.type "StopIteration")->E (.ref x) { s with heap:=h'}):wpAny (model prog w) A (qp (.ref c)) Q E s:=by
 cases t
 ·exact wpAny_nextOf_list_end hh F O hy hE
 ·exact Ru hh F O hy hE
def Yw {t1 t2:Bool}{z TI O i1 i2 l1 l2:Addr}{k1 k2:Nat}{xs ys:Array Value}{x y a b:Value}{Q:Value->nU->Prop}(F:yY z TI O i1 i2 l1 l2)
  (qz:IsZip s.heap z TI O .none)(qI:r6 s.heap TI (.ref i1) (.ref i2))(qO:r6 s.heap O a b)
  (q1:Bz t1 s.heap i1 l1 k1)(q2:Bz t2 s.heap i2 l2 k2)(m1:DQ t1 s.heap l1 xs)(m2:DQ t2 s.heap l2 ys)(hx:xs[k1]?=some x)(hy:ys[k2]?=some y)
  (hQ:∀g,IsZip g z TI O (rY s.heap.objs.size)->r6 g O x y->Bz t1 g i1 l1 (k1+1)->Bz t2 g i2 l2 (k2+1)->r6 g s.heap.objs.size x y->g.objs.size=s.heap.objs.size+1 →
   (∀c o,c≠z->c≠O->c≠i1->c≠i2->s.heap.get? c=some o->g.get? c=some o)->Q (.ref s.heap.objs.size) { s with heap:=g}) :
  wpAny (model prog w) A (oN.«zip.__next__» ⟨[.ref z],[]⟩) (λad s'=>∃v,ad=.done (.ret v)/\Q v s') E s:=by
 show wpAny _ A (field (.ref z) 2 >>= _) _ _ _;refine nv (rF qz rfl (x:=.bool false) rfl ?_);show wpAny _ A (field (.ref z) 3 >>= _) _ _ _;refine nv (rF qz rfl (x:=.ref TI) rfl (nv (sv qI rfl ?_)));show wpAny _ A (so (.ref z) >>= _) _ _ _;refine nv ?_;unfold so;refine nv (rF qz rfl (x:=.none) rfl (nZ ?_));simp only[if_true];refine nv (vz (nv (rF qz rfl (x:=.ref O) rfl (nv (tT qz (by simp) λg1 z1 s1=>?_)))));replace z1:IsZip g1 z TI O .ellipsis:=z1;refine nv ?_;simp only[abm,abC,abA,abP];refine nv (nv (yj ?_));show wpAny _ A (qp (.ref i1) >>= _) _ _ _;refine nv (OS (q1.ext s1.extBut F.i1z) (m1.ext s1.extBut F.l1z) hx λg2 n1 s2=>nZ ?_);have O2:r6 g2 O a b:=s2.extBut _ _ F.TOi1 (s1.extBut _ _ F.TOz qO);refine nv (sv O2 rfl (nv (xu O2 λg3 O3 s3=>?_)));replace O3:r6 g3 O x b:=O3;refine nv (abd (nZ (nv (nv (yj ?_)))));show wpAny _ A (qp (.ref i2) >>= _) _ _ _;refine nv (OS (((q2.ext s1.extBut F.i2z).ext s2.extBut F.i12.symm).ext s3.extBut F.TOi2.symm) (((m2.ext s1.extBut F.l2z).ext s2.extBut F.l2i1).ext s3.extBut F.l2TO) hy λg4 n2 s4=>nZ ?_);have O4:r6 g4 O x b:=s4.extBut _ _ F.TOi2 O3;refine nv (sv O4 rfl (nv (xu O4 λg5 O5 s5=>?_)));replace O5:r6 g5 O x y:=O5;refine nv (abd (nZ (nZ (nv (sv O5 rfl (nv (wpAny_newTuple ?_)))))));have ac:g5.objs.size=s.heap.objs.size:=by rw[s5.1,s4.1,s3.1,s2.1,s1.1]
 have z5:IsZip g5 z TI O .ellipsis:=s5.extBut _ _ F.TOz.symm (s4.extBut _ _ F.i2z.symm (s3.extBut _ _ F.TOz.symm (s2.extBut _ _ F.i1z.symm z1)));have kp:∀c o,c≠z->c≠O->c≠i1->c≠i2->s.heap.get? c=some o->g5.get? c=some o:=λc o c1 c2 c3 c4 e =>
  s5.extBut _ _ c2 (s4.extBut _ _ c4 (s3.extBut _ _ c2 (s2.extBut _ _ c3 (s1.extBut _ _ c1 e))))
 have N1:Bz t1 g5 i1 l1 (k1+1):=((n1.ext s3.extBut F.TOi1.symm).ext s4.extBut F.i12).ext s5.extBut F.TOi1.symm;have N2:Bz t2 g5 i2 l2 (k2+1):=n2.ext s5.extBut F.TOi2.symm;have ab:z<g5.objs.size:=ow z5;show wpAny _ A (vL (.ref z) (.ref g5.objs.size) >>= _) _ _ _;refine nv ?_;unfold vL;have z6:IsZip (g5.push { cls:=.type "tuple",data:=.seq #[x,y]}) z TI O .ellipsis:=nP _ z5;refine nv (tT z6 (by simp) λg7 z7 s7=>?_);replace z7:IsZip g7 z TI O (rY g5.objs.size):=z7;refine tT z7 (by simp) λg8 z8 s8=>?_
 replace z8:IsZip g8 z TI O (rY g5.objs.size):=z8;have up:∀c o,c≠z->g5.get? c=some o->g8.get? c=some o:=λc o c1 e=>s8.extBut _ _ c1 (s7.extBut _ _ c1 (nP _ e))
 have T8:r6 g8 g5.objs.size x y:=s8.extBut _ _ (r8 ab) (s7.extBut _ _ (r8 ab) (oq _ rfl));have aa:g8.objs.size=g5.objs.size+1:=by rw[s8.1,s7.1,qt]
 rw[ac]at z8 T8 aa;refine nZ ⟨_,J,?_⟩;show Q (.ref g5.objs.size) _;rw[ac];exact hQ g8 z8 (up _ _ F.TOz O5) (N1.at λo e=>up _ o F.i1z e) (N2.at λo e=>up _ o F.i2z e) T8 aa λc o c1 c2 c3 c4 e=>up c o c1 (kp c o c1 c2 c3 c4 e)
def bH {t1 t2:Bool}{z TI O i1 i2 l1 l2:Addr}{k1 k2:Nat}{xs ys:Array Value}{a b:Value}{Q:Fin->nU->Prop}(hh:A.handled=none)(F:yY z TI O i1 i2 l1 l2)
  (qz:IsZip s.heap z TI O .none)(qI:r6 s.heap TI (.ref i1) (.ref i2))(qO:r6 s.heap O a b)
  (q1:Bz t1 s.heap i1 l1 k1)(q2:Bz t2 s.heap i2 l2 k2)(m1:DQ t1 s.heap l1 xs)(m2:DQ t2 s.heap l2 ys)(aa:xs[k1]?=none\/ys[k2]?=none)
  (hE:∀g e,(∀c o,c≠z->c≠O->c≠i1->c≠i2->s.heap.get? c=some o->g.get? c=some o)->(∃o,g.get? e=some o/\o.cls=.type "StopIteration")->E (.ref e) { s with heap:=g}) :
  wpAny (model prog w) A (oN.«zip.__next__» ⟨[.ref z],[]⟩) Q E s:=by
 show wpAny _ A (field (.ref z) 2 >>= _) _ _ _;refine nv (rF qz rfl (x:=.bool false) rfl ?_);show wpAny _ A (field (.ref z) 3 >>= _) _ _ _;refine nv (rF qz rfl (x:=.ref TI) rfl (nv (sv qI rfl ?_)));show wpAny _ A (so (.ref z) >>= _) _ _ _;refine nv ?_;unfold so;refine nv (rF qz rfl (x:=.none) rfl (nZ ?_));simp only[if_true];refine nv (vz (nv (rF qz rfl (x:=.ref O) rfl (nv (tT qz (by simp) λg1 z1 s1=>?_)))));replace z1:IsZip g1 z TI O .ellipsis:=z1;refine nv ?_;simp only[abm,abC,abA,abP];refine nv (nv (yj ?_));show wpAny _ A (qp (.ref i1) >>= _) _ _ _;cases hx:xs[k1]? with
 |none =>
  refine nv (SE hh (q1.ext s1.extBut F.i1z) (m1.ext s1.extBut F.l1z) hx λg2 e s2 he=>?_);obtain⟨oe,w1,w2⟩:=he;have z2:IsZip g2 z TI O .ellipsis:=s2 _ _ F.i1z.symm z1;have ez:e≠z:=λx=>by subst x;rw[z2]at w1;cases w1;simp at w2
  exact tT z2 (by simp) λg3 _ s3=>hE g3 e (λc o c1 _ c3 _ x=>s3.extBut _ _ c1 (s2 _ _ c3 (s1.extBut _ _ c1 x))) ⟨oe,s3.extBut _ _ ez w1,w2⟩
 |some x =>
  have hy:ys[k2]?=none:=by rcases aa with h|h;rw[hx]at h;cases h;exact h
  refine nv (OS (q1.ext s1.extBut F.i1z) (m1.ext s1.extBut F.l1z) hx λg2 n1 s2=>nZ ?_);have O2:r6 g2 O a b:=s2.extBut _ _ F.TOi1 (s1.extBut _ _ F.TOz qO);refine nv (sv O2 rfl (nv (xu O2 λg3 O3 s3=>?_)));refine nv (abd (nZ (nv (nv (yj ?_)))));show wpAny _ A (qp (.ref i2) >>= _) _ _ _;refine nv (SE hh (((q2.ext s1.extBut F.i2z).ext s2.extBut F.i12.symm).ext s3.extBut F.TOi2.symm) (((m2.ext s1.extBut F.l2z).ext s2.extBut F.l2i1).ext s3.extBut F.l2TO) hy λg4 e s4 he=>?_);obtain⟨oe,w1,w2⟩:=he;have z4:IsZip g4 z TI O .ellipsis:=s4 _ _ F.i2z.symm (s3.extBut _ _ F.TOz.symm (s2.extBut _ _ F.i1z.symm z1));have ez:e≠z:=λx=>by subst x;rw[z4]at w1;cases w1;simp at w2
  exact tT z4 (by simp) λg5 _ s5=>hE g5 e (λc o c1 c2 c3 c4 x=>s5.extBut _ _ c1 (s4 _ _ c4 (s3.extBut _ _ c2 (s2.extBut _ _ c3 (s1.extBut _ _ c1 x))))) ⟨oe,s5.extBut _ _ ez w1,w2⟩
def Xd {t1 t2:Bool}{z TI O i1 i2 l1 l2:Addr}{k1 k2:Nat}{xs ys:Array Value}{x y a b:Value}{Q:Option Value->nU->Prop}(ap:yY z TI O i1 i2 l1 l2)
  (qz:IsZip s.heap z TI O .none)(qI:r6 s.heap TI (.ref i1) (.ref i2))(qO:r6 s.heap O a b)
  (q1:Bz t1 s.heap i1 l1 k1)(q2:Bz t2 s.heap i2 l2 k2)(m1:DQ t1 s.heap l1 xs)(m2:DQ t2 s.heap l2 ys)(hx:xs[k1]?=some x)(hy:ys[k2]?=some y)
  (hQ:∀g,IsZip g z TI O (rY s.heap.objs.size)->r6 g O x y->Bz t1 g i1 l1 (k1+1)->Bz t2 g i2 l2 (k2+1)->r6 g s.heap.objs.size x y->g.objs.size=s.heap.objs.size+1 →
   (∀c o,c≠z->c≠O->c≠i1->c≠i2->s.heap.get? c=some o->g.get? c=some o)->Q (some (.ref s.heap.objs.size)) { s with heap:=g}) :
  wpAny (model prog w) A (uX (.ref z)) Q E s:=by
 have ty:s.TypeIs (.ref z) "zip":=⟨_,qz,J⟩;unfold uX;exact nv (aae (rK (name:=vm "__next__") ty vk (rL vk ty zv
   (Yw ap qz qI qO q1 q2 m1 m2 hx hy λg a1 a2 a3 a4 a5 a6 a7=>nZ (hQ g a1 a2 a3 a4 a5 a6 a7)) (ze _))))
def Xl {t1 t2:Bool}{z TI TO O i2 l1 l2:Addr}{k1 k2:Nat}{xs ys:Array Value}{a b:Value}{Q:Option Value->nU->Prop}(hh:A.handled=none)(ap:yY z TI TO O i2 l1 l2)
  (qz:IsZip s.heap z TI TO .none)(qI:r6 s.heap TI (.ref O) (.ref i2))(qO:r6 s.heap TO a b)
  (q1:Bz t1 s.heap O l1 k1)(q2:Bz t2 s.heap i2 l2 k2)(m1:DQ t1 s.heap l1 xs)(m2:DQ t2 s.heap l2 ys)(aa:xs[k1]?=none\/ys[k2]?=none)
  (hQ:∀g,(∀c o,c≠z->c≠TO->c≠O->c≠i2->s.heap.get? c=some o->g.get? c=some o)->Q none { s with heap:=g}):wpAny (model prog w) A (uX (.ref z)) Q E s:=by
 have ty:s.TypeIs (.ref z) "zip":=⟨_,qz,J⟩;unfold uX;refine nv (aae (rK (name:=vm "__next__") ty vk (rL vk ty zv (bH hh ap qz qI qO q1 q2 m1 m2 aa λg e hk he=>?_) (ze _))));obtain⟨o,w1,w2⟩:=he;exact nv (zb (T:="StopIteration") (b:=true) ⟨o,w1,w2⟩ isSubtype_stop (nZ (hQ _ hk)))
def FQ(t:Bool)(l:Addr):Obj:=if t then { cls:=.type "tuple_iterator",data:=.fields #[.ref l,.int 0 0]} else { cls:=.type "list_iterator",data:=.fields #[.ref l,.int 0 0]}
abbrev Jl(t1 t2:Bool)(h:Heap)(O F:Addr):Heap:=(h.push (FQ t1 O)).push (FQ t2 F)
abbrev OI(t1 t2:Bool)(h:Heap)(F O:Addr):Heap:=((Jl t1 t2 h F O).push { cls:=.type "tuple",data:=.seq #[.ref h.objs.size,.ref (h.push (FQ t1 F)).objs.size]}).push { cls:=.type "tuple",data:=.seq #[.none,.none]}
abbrev Jh(t1 t2:Bool)(h:Heap)(F O:Addr):Heap:=(OI t1 t2 h F O).push { cls:=.type "zip",data:=.fields #[.none,.bool false,.bool false,.ref (Jl t1 t2 h F O).objs.size,.ref ((Jl t1 t2 h F O).push { cls:=.type "tuple",data:=.seq #[.ref h.objs.size,.ref (h.push (FQ t1 F)).objs.size]}).objs.size]}
set_option maxHeartbeats 4000000 in
def X9(t1 t2:Bool)(F O:Addr)(xs ys:Array Value):
  Meets (oN.«zip.__new__» ⟨[.type "zip",.ref F,.ref O],[]⟩) (λ_ R s=>DQ t1 s.heap F xs/\DQ t2 s.heap O ys/\R (.ok (.ret (.ref (OI t1 t2 s.heap F O).objs.size))) { s with heap:=Jh t1 t2 s.heap F O}) :=
 .of_wp λprog w A R s h=>by
  obtain⟨hp,g,d,tk,os⟩:=s;obtain⟨m1,m2,h⟩:=h;have aa:=sub_zip;cases t1<;>cases t2
  ·have a1:vD (uu ⟨hp,g,d,tk,os⟩) F xs:=m1;have a2:vD (uu ⟨hp.push { cls:=.type "list_iterator",data:=.fields #[.ref F,.int 0 0]},g,d,tk,os⟩) O ys:=abh m2 _
   wp_walk using tG a1,tG a2
   exact⟨_,J,h⟩
  ·have a1:vD (uu ⟨hp,g,d,tk,os⟩) F xs:=m1;have a2:uA (uu ⟨hp.push { cls:=.type "list_iterator",data:=.fields #[.ref F,.int 0 0]},g,d,tk,os⟩) O ys:=aaS m2 _
   wp_walk using tG a1,sk a2
   exact⟨_,J,h⟩
  ·have a1:uA (uu ⟨hp,g,d,tk,os⟩) F xs:=m1;have a2:vD (uu ⟨hp.push { cls:=.type "tuple_iterator",data:=.fields #[.ref F,.int 0 0]},g,d,tk,os⟩) O ys:=abh m2 _
   wp_walk using sk a1,tG a2
   exact⟨_,J,h⟩
  ·have a1:uA (uu ⟨hp,g,d,tk,os⟩) F xs:=m1;have a2:uA (uu ⟨hp.push { cls:=.type "tuple_iterator",data:=.fields #[.ref F,.int 0 0]},g,d,tk,os⟩) O ys:=aaS m2 _
   wp_walk using sk a1,sk a2
   exact⟨_,J,h⟩
def Yi {t1 t2:Bool}{O l2:Addr}{xs ys:Array Value}{Q:Value->nU->Prop}(m1:DQ t1 s.heap O xs)(m2:DQ t2 s.heap l2 ys)
  (h:∀g,IsZip g (s.heap.objs.size+4) (s.heap.objs.size+2) (s.heap.objs.size+3) .none->r6 g (s.heap.objs.size+2) (.ref s.heap.objs.size) (.ref (s.heap.objs.size+1)) →
   r6 g (s.heap.objs.size+3) .none .none->Bz t1 g s.heap.objs.size O 0->Bz t2 g (s.heap.objs.size+1) l2 0->g.objs.size=s.heap.objs.size+5 →
   (∀c o,s.heap.get? c=some o->g.get? c=some o)->Q (.ref (s.heap.objs.size+4)) { s with heap:=g}) :
  wpAny (model prog w) A (call (.type "zip") [.ref O,.ref l2]) Q E s:=by
 refine callType_new PySem.F.called_zip (by decide) (PySem.F.typeCall_zip_2 _ _) (PySem.F.newCall_zip_2 _ _) (λaa=>PySem.F.args_object_init_3 aa _ _) PySem.F.entry_zip_new (X9 t1 t2 O l2 xs ys) ⟨m1,m2,?_⟩;have y1:(s.heap.push (FQ t1 O)).objs.size=s.heap.objs.size+1:=qt ..;have y2:(Jl t1 t2 s.heap O l2).objs.size=s.heap.objs.size+2:=by rw[qt,y1]
 have y3:((Jl t1 t2 s.heap O l2).push { cls:=.type "tuple",data:=.seq #[.ref s.heap.objs.size,.ref (s.heap.push (FQ t1 O)).objs.size]}).objs.size=s.heap.objs.size+3:=by rw[qt,y2]
 have y4:(OI t1 t2 s.heap O l2).objs.size=s.heap.objs.size+4:=by rw[qt,y3]
 have y5:(Jh t1 t2 s.heap O l2).objs.size=s.heap.objs.size+5:=by rw[qt,y4]
 have f1:∀(t:Bool) (l:Addr),(FQ t l).isFreed=false:=λt l=>by cases t<;>rfl
 have e5:(Jh t1 t2 s.heap O l2).get? (OI t1 t2 s.heap O l2).objs.size=some _:=oq _ rfl;have e4:(Jh t1 t2 s.heap O l2).get? ((Jl t1 t2 s.heap O l2).push { cls:=.type "tuple",data:=.seq #[.ref s.heap.objs.size,.ref (s.heap.push (FQ t1 O)).objs.size]}).objs.size=some _:=nP _ (oq _ rfl);have e3:(Jh t1 t2 s.heap O l2).get? (Jl t1 t2 s.heap O l2).objs.size=some _:=nP _ (nP _ (oq _ rfl));have e2:(Jh t1 t2 s.heap O l2).get? (s.heap.push (FQ t1 O)).objs.size=some (FQ t2 l2):=nP _ (nP _ (nP _ (oq _ (f1 _ _))));have e1:(Jh t1 t2 s.heap O l2).get? s.heap.objs.size=some (FQ t1 O):=nP _ (nP _ (nP _ (nP _ (oq _ (f1 _ _)))));have iK:∀(t:Bool) (g:Heap) (c l:Addr),g.get? c=some (FQ t l)->Bz t g c l 0:=λt g c l e=>by cases t<;>exact⟨_,e,J,J⟩
 show _/\_;rw[y2,y3,y4]at e5;rw[y1,y2]at e3;rw[y3]at e4;rw[y1]at e2;rw[y4];exact⟨⟨_,e5,J⟩,h _ e5 e3 e4 (iK _ _ _ _ e1) (iK _ _ _ _ e2) y5 λc o q=>nP _ (nP _ (nP _ (nP _ (nP _ q))))⟩
def Bm(t:Bool)(K:nT)(H:Hp)(a:Addr)(xs:List V):Prop:=if t then AH K H a xs else AI K H a xs
def DQ.lt(x:DQ t h a vs):a<h.objs.size:=by
 cases t
 ·obtain⟨o,e,_⟩:=x;exact ow e
 ·obtain⟨o,e,_⟩:=x;exact ow e
def AK.Kl(I:AK X gt σ H s)(h:Bm t X.K H a xs):∃F:List Value,Af xs F/\DQ t s.heap a F.toArray/\xs.length<=oK:=by
 cases t
 ·obtain⟨F,O,p,z⟩:=I.list h;exact⟨F,O,p.isList,z⟩
 ·obtain⟨F,O,p,z⟩:=I.tuple h;exact⟨F,O,p,z⟩
def AK.UM(I:AK X gt σ H s)(h:Bm t X.K H a xs)(g:Bm t X.K H a ys):xs=ys:=by
 cases t
 ·exact I.list_inj h g
 ·exact I.R8 h g
def Bm.l{K:nT}(h:H a=some (.AE xs)):Bm false K H a xs:=AI.of h
def Bm.t{K:nT}(h:H a=some (.AG xs)):Bm true K H a xs:=AH.of h
def Kq(K:nT)(t1 t2:Bool)(a b:Addr): It :=
  ⟨λi H => ∃xs ys x y,Bm t1 K H a xs/\Bm t2 K H b ys/\xs[i]? = some x/\ys[i]? = some y,
   λi H v H' => ∃p x y,v = .ref p/\H p=none/\H' = AF H p (.AG [x,y])/\(∀xs,Bm t1 K H a xs → xs[i]? = some x) /\ ∀ys,Bm t2 K H b ys → ys[i]? = some y,
   λi H => ∃xs ys,Bm t1 K H a xs/\Bm t2 K H b ys/\(xs.length<=i\/ys.length<=i)⟩
def Yf{t1 t2:Bool}{P:o6}{w:World}{K:nT}{es:List pI}{kk:Nat}{pos:Pos}{a b z TI TO i1 i2:Addr}(D:yY z TI TO i1 i2 a b):
  FD P w K (.Tuple es kk pos) (Kq K t1 t2 a b) [z,TI,TO,i1,i2] z (λi h=>IsZip h z TI TO .none/\r6 h TI (.ref i1) (.ref i2)/\(∃u v,r6 h TO u v)/\Bz t1 h i1 a i/\Bz t2 h i2 b i) where
 mem:=by simp
 Ci:=λi h st c F=>by
  obtain⟨h1,h2,⟨u,v,h3⟩,h4,h5⟩:=st;simp only[oj,pB,qK]at F;rcases F with rfl|rfl|rfl|rfl|rfl
  ·exact⟨_,h1,λv z=>by have z':xJ _=wG v:=z;cases z'⟩
  ·exact⟨_,h2,λv z=>by have z':Data.seq _ _=wG v:=z;cases z'⟩
  ·exact⟨_,h3,λv z=>by have z':Data.seq _ _=wG v:=z;cases z'⟩
  ·exact h4.Ci
  ·exact h5.Ci
 keep:=λi h h' st k=>by
  obtain⟨h1,h2,⟨u,v,h3⟩,h4,h5⟩:=st;exact⟨k z (by simp) _ h1,k TI (by simp) _ h2,⟨u,v,k TO (by simp) _ h3⟩,h4.at λo e=>k i1 (by simp) o e,h5.at λo e=>k i2 (by simp) o e⟩
 item:=by
  intro X hP hw hK F i gt s σ H E I O st hg;subst hP hw hK;obtain⟨xs,ys,x,y,qa,qb,hx,hy⟩:=hg;obtain⟨ae,rv,pa,_⟩:=I.Kl qa;obtain⟨ag,ac,pb,_⟩:=I.Kl qb;obtain⟨ux,aj,rx⟩:=rv.get hx;obtain⟨uy,ak,ry⟩:=ac.get hy;obtain⟨h1,h2,⟨u,v,h3⟩,h4,h5⟩:=st;refine Xd D h1 h2 h3 h4 h5 pa pb (x:=ux) (y:=uy) (by simpa using aj) (by simpa using ak) λh' a1 a2 a3 a4 a5 a6 k=>?_
  refine⟨_,J,wpAny_letOwnedTupleGo_zip a1 λab b1 sb=>?_⟩;have hsz:s.heap.objs.size≠z:=r8 (ow h1);have ai:∀c∈[z,TI,TO,i1,i2],s.heap.objs.size≠c:=λc F=>by
   have:∃o,s.heap.get? c=some o:=by
    obtain⟨o4,g4,_⟩:=h4.Ci;obtain⟨o5,g5,_⟩:=h5.Ci;simp only[oj,pB,qK]at F;rcases F with rfl|rfl|rfl|rfl|rfl
    ·exact⟨_,h1⟩
    ·exact⟨_,h2⟩
    ·exact⟨_,h3⟩
    ·exact⟨_,g4⟩
    ·exact⟨_,g5⟩
   obtain⟨o,e⟩:=this;exact r8 (ow e)
  have hn:H s.heap.objs.size=none:=I.Aj.fresh (nQ _);have aa:∀c o,c∉[z,TI,TO,i1,i2]->s.heap.get? c=some o->ab.get? c=some o:=λc o F e =>
   (sb.2 c λq=>F (by simp[q])).trans (k c o (λq=>F (by simp[q])) (λq=>F (by simp[q])) (λq=>F (by simp[q])) (λq=>F (by simp[q])) e)
  have tO:ab.get? s.heap.objs.size=some { cls:=.type "tuple",data:=.seq #[ux,uy]}:=(sb.2 _ hsz).trans a5;have nt:∀c u,H c=some u->c∉[z,TI,TO,i1,i2]:=λc u e F=>by
   have:=(O c F).1
   rw[e]at this;cases this
  have ah:Bh X.prog X.w (AF H s.heap.objs.size (.AG [x,y])) ab s.heap.objs.size (.AG [x,y]) :=
   ⟨by exact Bk,[ux,uy],.cons rx (.cons ry .nil),⟨_,tO,J,_,J⟩,_,tO,J⟩
  have I1:AK X gt σ (AF H s.heap.objs.size (.AG [x,y])) { s with heap:=ab}:=by
   refine I.step (g':=s.gens) (d':=s.drawn) (t':=s.toks) (ch:=[z,TI,TO,i1,i2]) (λc F=>⟨(O c F).2.2.2.1,(O c F).2.1,(O c F).2.2.2.2.1,(O c F).2.2.2.2.2⟩) (λc o _ _ F e _=>aa c o F e) (λc o _ _ F e _=>⟨o.slots,aa c o F e⟩)
    (λc o _ e n=>by rw[Ad (o8 (ow e))];exact n) (λc o F e=>⟨o,aa c o F e⟩) (λc vs e=>by rw[Ad (BW e hn)];exact e) (λc o vs e=>by rw[Ad (BW e hn)];exact e)
    (λc ps e=>⟨#[],by rw[Ad (BW e hn),e];simp⟩) (λm hm=>?_) (λc o e=>?_) I.DT
   ·obtain⟨o,ad,ep,ho,r⟩:=hm;exact⟨o,ad,ep,aa _ o (λq=>(O _ q).2.1 rfl) ho,r⟩
   ·by_cases af:c=s.heap.objs.size
    ·subst af;rw[AU]at e;cases e;exact ah
    ·rw[Ad af]at e;refine(I.Aj c o e).Gf (λd v hd q=>aa d v ?_ q) (λd q=>by rw[Ad (BW q hn)];exact q) λd vs q=>by rw[Ad (BW q hn)];exact q
     rcases hd with hd|hd
     ·rw[hd];exact nt c o e
     ·exact nt d _ hd
  have g4:Bz t1 ab i1 a (i+1):=a3.at λo e=>(sb.2 _ D.i1z).trans e
  have g5:Bz t2 ab i2 b (i+1):=a4.at λo e=>(sb.2 _ D.i2z).trans e
  have g2:r6 ab TI (.ref i1) (.ref i2):=(sb.2 _ D.TIz).trans (k _ _ D.TIz D.TITO D.TIi1 D.TIi2 h2);have g3:r6 ab TO ux uy:=(sb.2 _ D.TOz).trans a2;exact⟨.ref s.heap.objs.size,_,I1,J,⟨_,x,y,J,hn,J,λam q=>by rw[I.UM q qa];exact hx,λao q=>by rw[I.UM q qb];exact hy⟩,⟨b1,g2,⟨_,_,g3⟩,g4,g5⟩,λc F=>by rw[Ad (qu (ai c F))];exact(O c F).1⟩
 done:=by
  intro X hP hw hK F i gt s σ H E I O st hg;subst hP hw hK;obtain⟨xs,ys,qa,qb,hl⟩:=hg;obtain⟨ae,rv,pa,_⟩:=I.Kl qa;obtain⟨ag,ac,pb,_⟩:=I.Kl qb;obtain⟨h1,h2,⟨u,v,h3⟩,h4,h5⟩:=st;have l1:=rv.length;have l2:=ac.length;have al:ae.toArray[i]?=none\/ag.toArray[i]?=none:=by
   rcases hl with hl|hl
   ·exact .inl (by simp;lia)
   ·exact .inr (by simp;lia)
  refine Xl (I.ok.hd F) D h1 h2 h3 h4 h5 pa pb al λh' k=>⟨J,?_⟩
  have aa:∀c o,c∉[z,TI,TO,i1,i2]->s.heap.get? c=some o->h'.get? c=some o:=λc o F e =>
   k c o (λq=>F (by simp[q])) (λq=>F (by simp[q])) (λq=>F (by simp[q])) (λq=>F (by simp[q])) e
  have nt:∀c u,H c=some u->c∉[z,TI,TO,i1,i2]:=λc u e F=>by
   have:=(O c F).1
   rw[e]at this;cases this
  refine I.step (g':=s.gens) (d':=s.drawn) (t':=s.toks) (ch:=[z,TI,TO,i1,i2]) (λc F=>⟨(O c F).2.2.2.1,(O c F).2.1,(O c F).2.2.2.2.1,(O c F).2.2.2.2.2⟩) (λc o _ _ F e _=>aa c o F e) (λc o _ _ F e _=>⟨o.slots,aa c o F e⟩)
   (λ_ _ _ _ n=>n) (λc o F e=>⟨o,aa c o F e⟩) (λ_ _ e=>e) (λ_ _ _ e=>e) (λc ps e=>⟨#[],by rw[e];simp⟩) (λm hm=>?_) (λc o e=>?_) I.DT
  ·obtain⟨o,ad,ep,ho,r⟩:=hm;exact⟨o,ad,ep,aa _ o (λq=>(O _ q).2.1 rfl) ho,r⟩
  ·refine(I.Aj c o e).Gf (λd v hd q=>aa d v ?_ q) (λ_ q=>q) λ_ _ q=>q
   rcases hd with hd|hd
   ·rw[hd];exact nt c o e
   ·exact nt d _ hd
 self:=λ_ _ _ _ _ st h=>wpAny_pyIter_zip st.1 h
def jx(K:nT)(t1 t2:Bool)(ta:TA):TI:=λσ H R=>ta σ H λvs H1=>∃a b,vs=[.ref a,.ref b]/\(∃xs,Bm t1 K H1 a xs)/\(∃ys,Bm t2 K H1 b ys)/\R (Kq K t1 t2 a b) H1
def Mq{t1 t2:Bool}{es:List pI}{kk:Nat}{tpos:Pos}{a b:pI}{ta:TA}{p pos:Pos}(hg:Gl X "zip")(hm:X.mg "zip" = none)(ha:PA X [a,b] ta)(hs:oZ [a,b] X.env=(false,eval a X.env) :: oZ [b] X.env:=by rfl)(ad:(tR pos (oZ [b] X.env)).any (·.1)=false:=by rfl):
  PI X (.Tuple es kk tpos) (.Call (.Name "zip" p) [a,b] [] pos) (jx X.K t1 t2 ta):=by
 intro gt s σ H R I h;refine Call_ (EK I hg hm PyProof.Rows.boot_zip (pQ (Ac (ha pos gt s σ H _ I h) λus F ⟨vs,H1,O,r1,q1⟩=>?_) hs ad));obtain⟨la,lb,e,⟨xs,qa⟩,⟨ys,qb⟩,q⟩:=q1;subst e;obtain⟨u1,u2,rfl,ra,rb⟩:=Lb r1;cases ra;cases rb;obtain⟨ae,rv,pa,_⟩:=O.Kl qa;obtain⟨af,ah,pb,_⟩:=O.Kl qb;have ab:la<F.heap.objs.size:=by
  exact pa.lt
 have ac:lb<F.heap.objs.size:=by
  exact pb.lt
 refine Yi pa pb λh' z1 z2 z3 z4 z5 zs zk=>?_
 refine wpAny_pyIter_zip z1 ?_;have I2:AK X gt σ H1 { F with heap:=h'}:=O.CC (t':=F.toks) zk;have D:yY (F.heap.objs.size+4) (F.heap.objs.size+2) (F.heap.objs.size+3) F.heap.objs.size (F.heap.objs.size+1) la lb:=by
  have ag:@LT.lt Nat _ la F.heap.objs.size:=ab;have ai:@LT.lt Nat _ lb F.heap.objs.size:=ac;constructor<;>(show @Ne Nat _ _;lia)
 refine⟨F.heap.objs.size+4,_,_,_,H1,J,I2,Yf D,⟨z1,z2,⟨_,_,z3⟩,z4,z5⟩,λc hc=>?_,q⟩;have aa:F.heap.objs.size<=c:=by
  simp only[oj,pB,qK]at hc;rcases hc with rfl|rfl|rfl|rfl|rfl<;>lia
 have f:=O.HY (H':=H1) aa (O.Aj.fresh aa);exact f
def Z9 {t1 t2:Bool}{K:nT}{a b:Addr}{xs ys:List V}{g:TG}{tb:TS}{D:DV}{σ:St}{H:Hp}(n:Nat)(hn:n=min xs.length ys.length)(F:Nat->St->Hp->Prop)(h0:F 0 σ H)(hl:∀i σ H,i<=n->F i σ H->Bm t1 K H a xs/\Bm t2 K H b ys)
  (hs:∀i x y σ H p,xs[i]?=some x->ys[i]?=some y->F i σ H->H p=none->g (.ref p) σ (AF H p (.AG [x,y])) λσ2 H2=>tb { D with nx:=F (i+1),ct:=F (i+1),bk:=D.nx} σ2 H2)(hd:∀σ H,F n σ H->D.nx σ H) :
  ∃W:Nat->Nat->St->Hp->Prop,(∃m,W 0 m σ H)/\∀i m σ H,W i m σ H →
   ((Kq K t1 t2 a b).Dm i H/\D.nx σ H)\/((Kq K t1 t2 a b).go i H/\∃N:St->Hp->Prop,(∀O H',N O H'->∃m',m' < m/\W (i+1) m' O H')/\∀x H',(Kq K t1 t2 a b).Dp i H x H'->g x σ H' λσ2 H2=>tb { D with nx:=N,ct:=N,bk:=D.nx} σ2 H2):=by
 refine⟨λi m σ H=>m=n-i/\i<=n/\F i σ H,⟨n,by simp,pD _,h0⟩,?_⟩;rintro i m σ H ⟨rfl,hi,p⟩;obtain⟨qa,qb⟩:=hl i σ H hi p;rcases oM i n with aa|hge
 ·have h1:i<xs.length:=by lia
  have h2:i<ys.length:=by lia
  refine .inr ⟨⟨xs,ys,xs[i],ys[i],qa,qb,by simp[h1],by simp[h2]⟩,F (i+1),λO H' p'=>⟨n-(i+1),by lia,J,aa,p'⟩,λv H' yl=>?_⟩;obtain⟨pa,x,y,rfl,hp,rfl,hx,hy⟩:=yl;exact hs i x y σ H pa (hx xs qa) (hy ys qb) p hp
 ·obtain rfl:i=n:=by lia
  exact .inl ⟨⟨xs,ys,qa,qb,by lia⟩,hd σ H p⟩
def gO:qo "sum" = some (.builtin "sum"):=by decide +kernel
def ZI(hc:X.Cd=true):CQ X (.builtin "sum") (λxs H Q=>∃(p:Addr) (ns:List Int),xs=[.ref p]/\H p=some (.AE (ns.map V.int))/\Q (.int ns.sum) H):=by
 intro gt s σ H xs us Q I r h;obtain⟨p,ns,rfl,hp,q⟩:=h;obtain⟨u,rfl,r1⟩:=r.Ae;cases r1;obtain⟨F,rv,pl,hz⟩:=I.list (AI.of (K:=X.K) hp);have hi:tV F ns:=Rb rv;obtain⟨ys,O⟩:=hi.allInts.items;have aa:s.heap.IsList p (intItems ys):=O ▸ pl.isList;refine sum_intListG (I.ok.hd hc) aa λh' tk t' hk=>?_
 have e1:ns=ys.toList.map (·.1):=by
  rw[<-nums_intItems,<-O];exact(show numsOf F.toArray.toList=ns from hi.numsOf).symm
 have e2:preSum (numAt ys) ys.size=ns.sum:=by rw[preSum_eq,oB (by simp),e1]
 rw[e2];exact⟨.int ns.sum,H,I.CC hk,⟨t',J⟩,q⟩
def jX(ta:TA):TI:=λσ H R=>ta σ H λvs H1=>∃n:Nat,vs=[.int ((n:Int)-1),.int (-1),.int (-1)]/\n<=1000/\R (MH ((n:Int)-1) (-1) n) H1
def Uc(n:Nat):uM ((n:Int)-1) (-1) (-1)=n:=by
 unfold uM;simp only[show ¬((-1:Int)>0) by decide,if_false];rw[show -(-1:Int)=1 by decide,Int.ediv_one];split<;>omega
def iu{n:Nat}(h:n<=1000):aah ((n:Int)-1) (-1) (-1)=true:=by
 unfold aah;rw[Uc];simp only[oN.Range.rangeFitsLong,qX,Bool.or_eq_true,t6,beq_iff_eq];refine⟨⟨⟨⟨⟨?_,?_⟩,⟨?_,?_⟩⟩,⟨?_,?_⟩⟩,⟨?_,?_⟩⟩,.inr ?_⟩<;>first|omega|decide
def Yv {tg:pI}{a b c:pI}{ta:TA}{p pos:Pos}(hg:Gl X "range")(hm:X.mg "range" = none)(ha:PA X [a,b,c] ta)
  (hs:oZ [a,b,c] X.env=(false,eval a X.env) :: oZ [b,c] X.env:=by rfl)(aa:(tR pos (oZ [b,c] X.env)).any (·.1)=false:=by rfl):PI X tg (.Call (.Name "range" p) [a,b,c] [] pos) (jX ta):=by
 intro gt s σ H R I h;refine Call_ (EK I hg hm yF (pQ (Ac (ha pos gt s σ H _ I h) λus F ⟨vs,H1,I1,r1,q1⟩=>?_) hs aa));obtain⟨n,e,hn,q⟩:=q1;subst e;cases r1 with
 |cons r rr =>
  cases rr with
  |cons r' rr =>
   cases rr with
   |cons r'' rr =>
    cases rr;obtain⟨t,rfl⟩:=r;obtain⟨t',rfl⟩:=r';obtain⟨O,rfl⟩:=r'';refine call_range_3 (by omega) ?_ (.inl (zu (by omega)));refine aaQ (zq ..) (iu hn) ?_;have I2:AK X gt σ H1 { F with heap:=F.heap.push { cls:=.type "range",data:=.fields #[.int ((n:Int)-1) t,.int (-1) t',.int (-1) O]}}:=I1.CC (t':=F.toks) λb o e=>nP _ e
    refine⟨_,[(F.heap.push { cls:=.type "range",data:=.fields #[.int ((n:Int)-1) t,.int (-1) t',.int (-1) O]}).objs.size],_,_,H1,J,I2.CC (t':=F.toks) λb o e=>nP _ e,Yq _ ((n:Int)-1) (-1) n,?_,λb hb=>?_,q⟩
    ·have e1:((n:Int)-1)+((0:Nat):Int)*(-1)=(n:Int)-1:=by simp
     have e2:((n:Nat):Int)-((0:Nat):Int)=uM ((n:Int)-1) (-1) (-1):=by rw[Uc];simp
     show zt _ _ (((n:Int)-1)+((0:Nat):Int)*(-1)) (((n:Nat):Int)-((0:Nat):Int)) (-1);rw[e1,e2];exact oq _ rfl
    ·have e:b=(F.heap.push { cls:=.type "range",data:=.fields #[.int ((n:Int)-1) t,.int (-1) t',.int (-1) O]}).objs.size:=by simpa using hb
     subst e;exact I2.HY (nQ _) (I2.Aj.fresh (nQ _))
end
end L2
namespace L2
open PySem PySem.Spec PyProof.Rows PySem.W
section
variable {prog:o6}{w:World}{A:qf}{E:Value->nU->Prop}{K:Frag}{h:Heap}{g:Array GenState}{d:Drawn}{t:Nat}{os:OsState}{a C:Addr}{o:Obj}
end
section
variable {X:Cx}
end
end L2
namespace My
open PySem L2
variable {a:Addr}{H:Hp}
def B7(H:Hp)(a:Addr):Hp:=λb=>if b=a then none else H b
def Ir(H:Hp)(a:Addr):B7 H a a=none:=nX rfl
def JB(h:b≠a):B7 H a b=H b:=nS h
def Eg(H:Hp)(a:Addr):AO (B7 H a) H:=λb o e=>by
 by_cases h:b=a
 ·subst h;rw[Ir]at e;cases e
 ·rw[JB h]at e;exact e
def E5(a:Addr)(s:AO H H'):AO (B7 H a) (B7 H' a):=λb o e=>by
 by_cases h:b=a
 ·subst h;rw[Ir]at e;cases e
 ·rw[JB h]at e ⊢;exact s _ _ e
def QK(H:Hp)(a:Addr)(o:HO):AO (B7 H a) (AF H a o):=λb u e=>by
 by_cases h:b=a
 ·subst h;rw[Ir]at e;cases e
 ·rw[JB h]at e;rw[Ad h];exact e
def TX(H:Hp)(a:Addr)(o:HO):B7 (AF H a o) a=B7 H a:=by
 funext b
 by_cases h:b=a
 ·subst h;rw[Ir,Ir]
 ·rw[JB h,JB h,Ad h]
def cX(h:H a=none):B7 H a=H:=by
 funext b
 by_cases z:b=a
 ·subst z;rw[Ir,h]
 ·exact JB z
def Gz(e:H b=some o)(h:b≠a):B7 H a b=some o:=by rw[JB h];exact e
section
variable {α:Type}{R:Hp->Addr->α->Prop}
def At(R:Hp->Addr->α->Prop)(H:Hp)(bs:List Addr)(xs:List α):Prop:=bs.length=xs.length/\∀(i:Nat) (b:Addr) (x:α),bs[i]?=some b->xs[i]?=some x->R H b x
def Mo(R:Hp->Addr->α->Prop):Prop:=∀{H H':Hp} {b:Addr} {x:α},AO H H'->R H b x->R H' b x
def At.nil:At R H [] []:=⟨J,λi b x e=>by simp at e⟩
def At.keep(h:At R H bs xs)(m:Mo R)(s:AO H H'):At R H' bs xs:=⟨h.1,λi b x O F=>m s (h.2 i b x O F)⟩
def At.snoc(h:At R H bs xs)(r:R H b x):At R H (bs++[b]) (xs++[x]):=by
 refine⟨by simp[h.1],λi c y F O=>?_⟩;have hl:=h.1;rcases oM i bs.length with z|z
 ·rw[oH z]at F;rw[oH (by omega)]at O;exact h.2 i c y F O
 ·rw[oo z]at F;rw[oo (by omega)]at O;rw[hl]at F;cases hi:i-xs.length with
  |zero=>rw[hi]at F O;cases F;cases O;exact r
  |succ k=>rw[hi]at F;simp at F
def At.OD(h:At R H bs xs)(g:At R H cs ys):At R H (bs++cs) (xs++ys):=by
 refine⟨by simp[h.1,g.1],λi c y F O=>?_⟩;have hl:=h.1;rcases oM i bs.length with z|z
 ·rw[oH z]at F;rw[oH (by omega)]at O;exact h.2 i c y F O
 ·rw[oo z]at F;rw[oo (by omega)]at O;rw[hl]at F;exact g.2 _ c y F O
def At.take(h:At R H bs xs)(k:Nat):At R H (bs.take k) (xs.take k):=by
 refine⟨by simp[h.1],λi c y F O=>?_⟩;rw[xT]at F O;split at F
 ·rename_i hk;rw[nX hk]at O;exact h.2 i c y F O
 ·cases F
def At.drop(h:At R H bs xs)(k:Nat):At R H (bs.drop k) (xs.drop k):=by
 refine⟨by simp[h.1],λi c y O F=>?_⟩;rw[tM]at O F;exact h.2 _ c y O F
def At.set(h:At R H bs xs)(k:Nat)(r:R H b x):At R H (bs.set k b) (xs.set k x):=by
 refine⟨by simp[h.1],λi c y F O=>?_⟩;rw[List.getElem?_set]at F O;by_cases hk:k=i
 ·subst hk;have hl:=h.1;by_cases hb:k<bs.length
  ·rw[nX rfl,nX hb]at F;rw[nX rfl,nX (by omega)]at O;cases F;cases O;exact r
  ·rw[nX rfl,nS hb]at F;cases F
 ·rw[nS hk]at F O;exact h.2 _ c y F O
def At.get{i:Nat}(h:At R H bs xs)(e:xs[i]?=some x):∃b,bs[i]?=some b/\R H b x:=by
 have hi:i<bs.length:=by rw[h.1];exact(nq.mp e).1
 exact⟨bs[i],nj hi,h.2 i _ x (nj hi) e⟩
def At.ref{i:Nat}(h:At R H bs xs)(e:(bs.map V.ref)[i]?=some v):∃b x,v=.ref b/\bs[i]?=some b/\xs[i]?=some x/\R H b x:=by
 rw[nV]at e;cases q:bs[i]? with
 |none=>rw[q]at e;cases e
 |some b =>
  rw[q]at e;have hi:i<xs.length:=by rw[<-h.1];exact(nq.mp q).1
  exact⟨b,xs[i],(oy e).symm,J,nj hi,h.2 i b _ q (nj hi)⟩
def C9{bs:List Addr}{i:Nat}(h:bs[i]?=some b):(bs.map V.ref)[i]?=some (.ref b):=by rw[nV,h];rfl
def BB(R:Hp->Addr->α->Prop)(H:Hp)(b:Addr)(xs:List α):Prop:=∃bs:List Addr,H b=some (.AG (bs.map V.ref))/\At R H bs xs
def DC(R:Hp->Addr->α->Prop)(H:Hp)(b:Addr)(xs:List α):Prop:=∃bs:List Addr,H b=some (.AE (bs.map V.ref))/\At R H bs xs
def Fb(m:Mo R):Mo (BB R):=λs ⟨bs,e,h⟩=>⟨bs,s _ _ e,h.keep m s⟩
def ND(m:Mo R):Mo (DC R):=λs ⟨bs,e,h⟩=>⟨bs,s _ _ e,h.keep m s⟩
end
def AR(H:Hp)(b:Addr)(q:Rat):Prop:=H b=some (.AG [.int q.num,.int q.den])
def Bo(H:Hp)(b:Addr)(ns:List Int):Prop:=H b=some (.AE (ns.map V.int))
def An:Mo AR:=λs h=>s _ _ h
def Dr:Mo Bo:=λs h=>s _ _ h
def AR.B7(h:AR H b q)(e:H a=some (.AE ys)):AR (B7 H a) b q:=Gz h λz=>by rw[z]at h;unfold AR at h;rw[e]at h;cases h
def NX(e:H a=some (.AE ys))(h:At AR H bs qs):At AR (B7 H a) bs qs:=⟨h.1,λi b x O F=>(h.2 i b x O F).B7 e⟩
structure Kt(J:It)(H1:Hp)(n:Nat)(f:Nat->Hp->V->Hp->Prop):Prop where
 go:∀i H2,i<n->AO H1 H2->J.go i H2
 yl:∀i H2 x H3,i<n->AO H1 H2->J.Dp i H2 x H3->f i H2 x H3
 st:∀H2,AO H1 H2->J.Dm n H2
section
variable {K:nT}
def IF(h:H a=some (.AG xs)):Kt (Hj K a) H xs.length (λi H2 x F=>F=H2/\xs[i]?=some x) :=
 ⟨λi H2 hi s=>⟨xs,xs[i],AH.of (s _ _ h),nj hi⟩,λi H2 x F _ s y=>⟨y.1,y.2 _ (AH.of (s _ _ h))⟩,λH2 s=>⟨xs,AH.of (s _ _ h),nQ _⟩⟩
def FW(h:H a=some (.AE xs)):Kt (Hm K a) H xs.length (λi H2 x F=>F=H2/\xs[i]?=some x) :=
 ⟨λi H2 hi s=>⟨xs,xs[i],AI.of (s _ _ h),nj hi⟩,λi H2 x F _ s y=>⟨y.1,y.2 _ (AI.of (s _ _ h))⟩,λH2 s=>⟨xs,AI.of (s _ _ h),nQ _⟩⟩
def YX:Kt (GC lo n) H n (λi H2 x F=>F=H2/\x=.int (lo+i)):=⟨λ_ _ hi _=>hi,λ_ _ _ _ _ _ y=>y,λ_ _=>nQ _⟩
def PV(h1:∀H2,AO H H2->Bm t1 K H2 a xs)(h2:∀H2,AO H H2->Bm t2 K H2 b ys)(hl:xs.length=ys.length):
  Kt (Kq K t1 t2 a b) H xs.length (λi H2 x F=>∃p u v,x=.ref p/\H2 p=none/\F=AF H2 p (.AG [u,v])/\xs[i]?=some u/\ys[i]?=some v) :=
 ⟨λi H2 hi s=>⟨xs,ys,xs[i],ys[i],h1 _ s,h2 _ s,nj hi,nj (by omega)⟩,λi H2 x F _ s y=>by
  obtain⟨p,u,v,e1,e2,e3,O,e5⟩:=y;exact⟨p,u,v,e1,e2,e3,O _ (h1 _ s),e5 _ (h2 _ s)⟩,λH2 s=>⟨xs,ys,h1 _ s,h2 _ s,.inl (nQ _)⟩⟩
def Cm{J}{g:TG}{te:TE}{G:Hp->Prop}(r:Kt J H1 n f)(hn:n<=1000)(ab:H1 acc=none)(Iv:Nat->List V->St->Hp->Prop)(h0:Iv 0 [] σ0 H1)
  (hs:∀(i:Nat) (ys:List V) (σ:St) (H2:Hp) (x:V) (H3:Hp),i<n->AO H1 H2->H2 acc=some (.AE ys)->Iv i ys σ (B7 H2 acc)->f i H2 x H3->∀C:St->VK,(∀(O:St) (v:V) (F:Hp),AO H2 F->Iv (i+1) (ys++[v]) O (B7 F acc)->C O v F) →
   g x σ H3 λO H4=>te O H4 (C O))
  (ad:∀(ys:List V) (σ:St) (H2:Hp),AO H1 H2->H2 acc=some (.AE ys)->ys.length=n->Iv n ys σ (B7 H2 acc)->G H2) :
  ∃W:Nat->Nat->List V->St->Hp->Prop,(∃m,W 0 m [] σ0 (AF H1 acc (.AE [])))/\∀i m ys σc H2,W i m ys σc H2 →
   (J.Dm i H2/\G H2)\/(J.go i H2/\∀x H3,J.Dp i H2 x H3->g x σc H3 λO H4=>te O H4 λv F=>F acc=some (.AE ys)/\ys.length<oK/\∃m',m' < m/\W (i+1) m' (ys++[v]) O (AF F acc (.AE (ys++[v])))):=by
 exists λi m ys σ H2=>m=n-i/\i<=n/\AO H1 H2/\H2 acc=some (.AE ys)/\ys.length=i/\Iv i ys σ (B7 H2 acc),⟨n,rfl,pD _,?_,AU,rfl,?_⟩
 ·intro b o e;rw[Ad (BW e ab)];exact e
 ·rw[TX,cX ab];exact h0
 ·rintro i m ys σc H2 ⟨rfl,hi,sm,ha,hl,iv⟩;rcases oM i n with aa|hge
  ·refine .inr ⟨r.go i H2 aa sm,λx H3 yl=>?_⟩;refine hs i ys σc H2 x H3 aa sm ha iv (r.yl i H2 x H3 aa sm yl) (λO v F=>F acc=some (.AE ys)/\ys.length<oK/\∃m',m' < n-i/\(m'=n-(i+1)/\i+1<=n/\AO H1 (AF F acc (.AE (ys++[v])))/\(AF F acc (.AE (ys++[v]))) acc=some (.AE (ys++[v]))/\(ys++[v]).length=i+1/\Iv (i+1) (ys++[v]) O (B7 (AF F acc (.AE (ys++[v]))) acc))) ?_;intro O v F s5 ac;exists s5 _ _ ha,by rw[sQ];omega,n-(i+1),by omega,rfl,aa,?_,AU,by simp[hl]
   ·intro b o e;rw[Ad (BW e ab)];exact s5 _ _ (sm _ _ e)
   ·rw[TX];exact ac
  ·obtain rfl:i=n:=by omega
   exact .inl ⟨r.st H2 sm,ad ys σc H2 sm ha hl iv⟩
end
end My
namespace L2
open PySem PySem.Spec PyProof.Rows
structure AZ(P:o6)(w:World)(K:nT)(mg:Str->Option Value)(base:Heap)(k:Nat)(x:Str)(ps:List Str)(sp:Sp):Prop where
 ex:∃f fd,Ag P w K mg base Ap k f fd ps sp/\Ej K fd ps []/\KP K f/\mg x=some (.ref f)
def ij{X:Cx}{k:Nat}{x:Str}{ps:List Str}{sp:Sp}{e:Expr}{es:List Expr}{t:TA}{p pos:Pos}(c:AZ X.prog X.w X.K X.mg X.base k x ps sp)(hr:Room k X.A)(O:PA X (e :: es) t)(hg:Gl X x:=by rfl)(ab:(x == ("__debug__":Str))=false:=by decide)(he:oZ (e :: es) X.env=(false,eval e X.env) :: oZ es X.env:=by rfl)(aa:(tR pos (oZ es X.env)).any (·.1)=false:=by rfl):
  PE X (.Call (.Name x p) (e :: es) [] pos) (Dt sp [] E0 t):=by
 obtain⟨f,fd,F,b,hk,hm⟩:=c.ex;exact bQ F hr hg hm hk b .nil j8 O ab he aa
def Ay{N P:List Str}{F:Scope}(h1:F.kind=.function:=by rfl)(h2:F.isCoroutine=false:=by rfl)(h3:F.isGenerator=false:=by rfl)(h4:N.Nodup:=by decide +kernel)(h5:N.take P.length=P:=by rfl)(O:∀x∈P,F.names.lookup x=some .local\/F.names.lookup x=some .cell:=by decide +kernel)(h7:∀y∈F.names,y.2≠.free:=by decide +kernel):Ar N P F:=⟨h1,h2,h3,h4,h5,O,h7⟩
def Ak.A1 {P:o6}{w:World}{K:nT}{mg:Str->Option Value}{base:Heap}{x qual:Str}{st:Stmt}{f:Addr}{fd:qy}{N ps:List Str}{k:Nat}{sp:Sp}(F:Ak K x qual st f fd)(S:Ar N ps (Ah st))
  (aa:∀(im:Value) (A:qf) (outer:List Env) (s:nU) (H:Hp) (vs:List V) (Q:VK) (E:XK),Room k (A.deeper (xk qual (Ah st) s.heap.objs.size f im))->sp vs H Q E →
   ∃t,Cy (JQ Ap P w K mg base N qual (Ah st) f im A outer s H E).Hl (E6 st) t/\t { nx:=λ_ H'=>Q .A5 H',rt:=Q} (HN N vs) H)(O:∀vs H Q E,sp vs H Q E->vs.length=ps.length:=by (rintro vs H Q E ⟨⟩;subst_vars;rfl)):Ag P w K mg base Ap (k+1) f fd ps sp:=F.ok S O aa
def nw(h:H p=none)(o:HO):∃H',AF H p o=H'/\AO H H'/\H' p=some o:=⟨_,J,λb u q=>by rw[Ad (BW q h)];exact q,AU⟩
@[elab_as_elim] theorem BF {C:Hp->Prop}{H:Hp}{p:Addr}(h:H p=none)(o:HO)(q:∀H',AO H H'->H' p=some o->C H'):C (AF H p o):=q _ (λb u q=>by rw[Ad (BW q h)];exact q) AU
end L2
namespace My
open PySem L2
@[elab_as_elim] theorem EW {C:Hp->Prop}{H:Hp}{p:Addr}(h:H p=none)(r:Rat)(q:∀H',AO H H'->AR H' p r->C H'):C (AF H p (.AG [.int r.num,.int r.den])):=@BF C H p h _ q
end My
namespace L2
open PySem PySem.Spec PyProof.Rows
section
variable {X:Cx}{K:nT}
def Bl:Fy X (GZ []):=λv s p s' σ H x y O u Q I F ry q hs=>gY v s p s' σ H x y O u Q I F ry (match q with|⟨p,xs,i,v,a,b,c,d,q⟩=>⟨p,xs,i,v,a,b,c.up,d,q⟩) hs
def CJ:Fy X (FN []):=λv s p s' σ H x y O u Q I F ry q hs=>T5 v s p s' σ H x y O u Q I F ry (match q with|⟨p,xs,i,v,a,b,c,d,q⟩=>⟨p,xs,i,v,a,b,c.up,d,q⟩) hs
def pT{X:Cx}{a b:pI}{ta tb:TE}{pos:Pos}(O:PE X a ta)(F:PE X b tb)(hs:Mm b:=by exact λ_ _=>rfl):PE X (.Subscript a b pos) (Bb (GZ []) ta tb):=Lm Bl O F hs
def pL{X:Cx}{a b:pI}{ta tb:TE}{pos:Pos}(O:PE X a ta)(F:PE X b tb)(hs:Mm b:=by exact λ_ _=>rfl):PE X (.Subscript a b pos) (Bb (FN []) ta tb):=Lm CJ O F hs
def ML:Fx X (Qr []):=λgt s σ H x v vl vu lo hi sl Q I F hs pl O ⟨a,xs,e,c,q⟩=>VO gt s σ H x v vl vu lo hi sl Q I F hs pl O ⟨a,xs,e,c.up,q⟩
def Km:Fx X (WO []):=λgt s σ H x v vl vu lo hi sl Q I F hs pl O ⟨a,xs,e,c,q⟩=>dN gt s σ H x v vl vu lo hi sl Q I F hs pl O ⟨a,xs,e,c.up,q⟩
def LM:CQ X (.builtin "len") (Ke []):=λgt s σ H xs us Q I r ⟨p,ys,e,h,q⟩=>RN gt s σ H xs us Q I r ⟨p,ys,e,h.imp AI.up AH.up,q⟩
def GI:CQ X (.type "tuple") (λxs H Q=>∃p ys,xs=[.ref p]/\((AI [] H p ys/\∀l,H l=none->Q (.ref l) (AF H l (.AG ys)))\/(AH [] H p ys/\Q (.ref p) H))):=λgt s σ H xs us Q I r ⟨p,ys,e,h⟩=>XX gt s σ H xs us Q I r ⟨p,ys,e,h.imp (And.imp_left AI.up) (And.imp_left AH.up)⟩
def UD:CQ X (.type "list") (λxs H Q=>∃p ys,xs=[.ref p]/\(AI [] H p ys\/AH [] H p ys)/\∀l,H l=none->Q (.ref l) (AF H l (.AE ys))):=λgt s σ H xs us Q I r ⟨p,ys,e,h,q⟩=>XZ gt s σ H xs us Q I r ⟨p,ys,e,h.imp AI.up AH.up,q⟩
def Cp {es:List pI}{k:Nat}{t:Gg}{n:Nat}{pos:Pos}(O:X.Cd=true)(g:MK X es t)
  (hn:(vy es X.env).length=n:=by rfl)(F:(vy es X.env).findIdx? (·.1)=none:=by rfl):PG X (.Tuple es k pos) (JY [] n t):=λgt s σ H v u Q I r h=>iQ O g hn F gt s σ H v u Q I r (match h with|⟨a,xs,e,c,l,q⟩=>⟨a,xs,e,c.up,l,q⟩)
def Di(F:PE X l tl):PI X tg l (Qu [] tl):=λgt s σ H R I h =>
 Ac (iI (tg:=tg) F.wk gt s σ H (λJ H'=>∃a,J=Hj X.K a/\R (Hj [] a) H') I ⟨_,h,λ_ _ ⟨a,e,⟨xs,c⟩,q⟩=>⟨a,e,⟨xs,c.up⟩,a,rfl,q⟩⟩) λ_ _ w=>Ac w λ_ _ ⟨it,fp,tn,J,H',e,O,T,t0,hf,a,ej,q⟩=>
  ⟨it,fp,tn,Hj [] a,H',e,O,(ej ▸ T).mono (λ_ _ ⟨xs,x,c,e⟩=>⟨xs,x,c.up,e⟩) (λ_ _ _ _ ⟨e,f⟩=>⟨e,λxs c=>f xs c.up⟩) (λ_ _ ⟨xs,c,e⟩=>⟨xs,c.up,e⟩),t0,hf,q⟩
def EN(F:PE X l tl):PI X tg l (Vj [] tl):=λgt s σ H R I h =>
 Ac (dG (tg:=tg) F.wk gt s σ H (λJ H'=>∃a,J=Hm X.K a/\R (Hm [] a) H') I ⟨_,h,λ_ _ ⟨a,e,⟨xs,c⟩,q⟩=>⟨a,e,⟨xs,c.up⟩,a,rfl,q⟩⟩) λ_ _ w=>Ac w λ_ _ ⟨it,fp,tn,J,H',e,O,T,t0,hf,a,ej,q⟩=>
  ⟨it,fp,tn,Hm [] a,H',e,O,(ej ▸ T).mono (λ_ _ ⟨xs,x,c,e⟩=>⟨xs,x,c.up,e⟩) (λ_ _ _ _ ⟨e,f⟩=>⟨e,λxs c=>f xs c.up⟩) (λ_ _ ⟨xs,c,e⟩=>⟨xs,c.up,e⟩),t0,hf,q⟩
def WL(h:X.K=K:=by rfl):Fy X (FN K):=h ▸ T5
def Zk(h:X.K=K:=by rfl):CQ X (.builtin "len") (Ke K):=h ▸ RN
def AW(i:Nat){N P:List Str}{F:Scope}(S:Ar N P F){x:Str}{e:pI}{te:TE}{pos pos':Pos}(he:PE X e te)(hN:X.N=N:=by rfl)(hi:X.N[i]?=some x:=by rfl)(hx:Ik X.env.scope x:=by first|exact qr rfl|exact aaD rfl)(hs:x4 e (some (.Name x pos')) pos.line X.env=pure false:=by rfl)(O:X.fn x=true\/X.env.scope.names.lookup x=some .local:=by first|exact .inl rfl|exact .inr rfl|assumption):PS X (.Assign [.Name x pos'] e pos) (JT te (BU i)):=jE (hN ▸ S.nd) hi hx he hs O
def Az(i:Nat){N P:List Str}{F:Scope}(S:Ar N P F){x:Str}{pos:Pos}(hN:X.N=N:=by rfl)(hi:X.N[i]?=some x:=by rfl)(hx:Ik X.env.scope x:=by first|exact qr rfl|exact aaD rfl)(O:X.fn x=true\/X.env.scope.names.lookup x=some .local:=by first|exact .inl rfl|exact .inr rfl|assumption):PG X (.Name x pos) (BU i):=B8 (hN ▸ S.nd) hi hx O
def CU {scope:Scope}{cl:List (Str×Addr)}{Nc:List Str}{cap:List (Nat×Nat)}(ac:abJ scope X.env=pure cl:=by rfl)(kind:scope.kind=.function:=by rfl)(names:∀y∈scope.names,y.2=.local->scope.names.lookup y.1=some .local:=by decide +kernel)(O:∀y∈scope.names,y.2≠.cell:=by decide +kernel)
  (ab:∀p∈cl,X.env.cells.lookup p.1=some p.2/\scope.names.lookup p.1=some .free:=by repeat first|exact aaj _|refine zT.mpr ⟨⟨J,J⟩,?_⟩)(F:((xH scope X.env).names.all λp=>(p.2 != .cell && p.2 != .free) || (cl.lookup p.1).isSome)=true:=by rfl)
  (aa:∀p∈cap,∃x c,Nc[p.1]?=some x/\X.N[p.2]?=some x/\cl.lookup x=some c/\X.env.scope.names.lookup x=some .cell/\(xH scope X.env).names.lookup x=some .cell:=by repeat first|exact aaj _|refine zT.mpr ⟨⟨_,_,J,J,J,J,J⟩,?_⟩):Hr X scope cl Nc cap:=cB ac kind names O ab F aa
def Qd(K:nT){e:pI}{te:TE}{p pos:Pos}(m:X.mg "len" = none)(O:PE X e te)(h:X.K=K:=by rfl)(F:Gl X "len":=by rfl)(hs:oZ [e] X.env=(false,eval e X.env) :: oZ [] X.env:=by rfl):PE X (.Call (.Name "len" p) [e] [] pos) (Kr (Ke K) (BO te CI)):=Bu (Zk (K:=K) h) F m Gx (AA O AD hs) (by decide) (by decide) hs rfl
def B4{e:pI}{te:TE}{p pos:Pos}(m:X.mg "len" = none)(O:PE X e te)(F:Gl X "len":=by rfl)(hs:oZ [e] X.env=(false,eval e X.env) :: oZ [] X.env:=by rfl):PE X (.Call (.Name "len" p) [e] [] pos) (Kr (Ke []) (BO te CI)):=Bu (LM) F m Gx (AA O AD hs) (by decide) (by decide) hs rfl
def Ja{e:pI}{te:TE}{p pos:Pos}(m:X.mg "tuple" = none)(O:PE X e te)(F:Gl X "tuple":=by rfl)(hs:oZ [e] X.env=(false,eval e X.env) :: oZ [] X.env:=by rfl):PE X (.Call (.Name "tuple" p) [e] [] pos) (Kr (λxs H Q=>∃p ys,xs=[.ref p]/\((AI [] H p ys/\∀l,H l=none->Q (.ref l) (AF H l (.AG ys)))\/(AH [] H p ys/\Q (.ref p) H))) (BO te CI)):=EG (GI) F m EH (AA O AD hs) (by decide) (by decide) hs rfl
def BP{a b:pI}{ta tb:TE}{pos:Pos}{op:CmpOp}{r:R2}(ho:Bf X (rH op) r)(O:PE X a ta)(F:PE X b tb)(h:op≠.In:=by decide)(h2:op≠.NotIn:=by decide):PT X (.Compare a [op] [b] pos) (V8 (Bb r ta tb)):=Tx ho O F (VH b h h2)
def Dc{a b:pI}{ta tb:TE}{pos:Pos}{op:CmpOp}{r:R2}(ho:Bf X (rH op) r)(O:PE X a ta)(F:PE X b tb)(h:op≠.In:=by decide)(h2:op≠.NotIn:=by decide):PE X (.Compare a [op] [b] pos) (Bb r ta tb):=fP ho O F (VH b h h2)
def F9{o i:pI}{td ty:TE}{pos:Pos}(F:X.A.units+1<cLine)(O:PE X o td)(hi:PE X i ty)(hs:Q0 i:=by exact λ_ _=>rfl):PE X (.Subscript o i pos) (Le td ty):=cR F O hi hs
def A6{a b:pI}{ta tb:TE}{pos:Pos}{r:R2}(O:Fy X r)(ha:PE X a ta)(F:PE X b tb)(hs:Mm b:=by exact λ_ _=>rfl):PE X (.Subscript a b pos) (Bb r ta tb):=Lm O ha F hs
def AV{k:Nat}{x:Str}{ps:List Str}{sp:Sp}{e:pI}{es:List pI}{t:TA}{p pos:Pos}(c:AZ X.prog X.w X.K X.mg X.base k x ps sp)(ha:PA X (e :: es) t)(hr:Room k X.A:=by first|assumption|exact Room.mono (by assumption) (by decide))(O:Gl X x:=by rfl)(aa:(x == ("__debug__":Str))=false:=by decide)(he:oZ (e :: es) X.env=(false,eval e X.env) :: oZ es X.env:=by rfl)(F:(tR pos (oZ es X.env)).any (·.1)=false:=by rfl):
  PE X (.Call (.Name x p) (e :: es) [] pos) (Dt sp [] E0 t):=ij c hr ha O aa he F
end
end L2
namespace My
open PySem L2 PySem.Spec PyProof.Rows
def MC(q:Rat):qA:=.tuple [.int q.num,.int (q.den:Int)]
section
variable {X:Cx}{gt:List (Addr×Obj)}{σ:L2.St}{H:Hp}{s:nU}
def Uo(p q:Rat):w9 (MC p) (MC q)=decide (p=q):=by
 have e:w9 (MC p) (MC q)=(p.num == q.num && (p.den:Int) == (q.den:Int)):=by
  simp[MC,w9,qA.eqvAll]
 rw[e,tU];simp only[qX,beq_iff_eq,t6];constructor
 ·rintro⟨h1,h2⟩;exact Rat.ext h1 (by omega)
 ·rintro rfl;exact⟨J,J⟩
end
end My
namespace L2
open PySem PySem.Spec PyProof.Rows
section
variable {X:Cx}
def gp:V->List V->Hp->VK->Prop:=λx vs H Q=>∃(l:Addr) (ns:List Int) (k:Int),x=.ref l/\vs=[.int k]/\H l=some (.AE (ns.map V.int))/\k∈ns/\ns.length<=1000000/\Q (.int ((ns.idxOf k:Nat):Int)) H
def J3:MD X "list.index" gp:=by
 intro gt s σ H x vs v us Q I rx rv h;obtain⟨l,ns,k,rfl,rfl,hH,hk,hz,q⟩:=h;cases rx;obtain⟨u,rfl,ru⟩:=rv.Ae;obtain⟨t,rfl⟩:=ru;obtain⟨z,O,n,r,hl,e⟩:=I.HZ hH;have hi:=Ri r;have ac:=hi.length;have hj:ns.idxOf k<ns.length:=rC.mpr hk;refine vY rJ ⟨_,e,J⟩ PySem.F.entry_list_index (PySem.F.args_list_index_2 _ _)
  (MeetsSeq.list_index l O.toArray n (.int k t) (isInt k) (λy hy=>eq_isInt k t hi y (by simpa using hy)) (ns.idxOf k) (by simpa [ac]using hj) (by omega) ?_ ?_) ⟨e,⟨.int ((ns.idxOf k:Nat):Int),H,I.De _,⟨_,J⟩,q⟩⟩
 ·show isInt k O[ns.idxOf k]=true;rw[isInt_at k hi _ (by omega) hj];simpa using aav hj
 ·intro j ab aa;show isInt k O[j]=false;rw[isInt_at k hi j (by simpa using ab) (by omega)];exact ne_of_lt_idxOf aa _
def ZK(ns:List Int):(ns.map V.int).all HL=true:=by
 induction ns with
 |nil=>rfl
 |cons n ns ih=>rw[n9,zZ,ih];rfl
def Zj(k:Int)(ns:List Int):OH (.int k) (ns.map V.int)=decide (k∈ns):=by
 unfold OH
 induction ns with
 |nil=>rfl
 |cons n ns ih =>
  rw[n9,vA,ih];have e:Hk (.int n) (.int k)=decide (k=n):=by
   show decide (n=k)=decide (k=n);by_cases h:n=k
   ·rw[pR h,pR h.symm]
   ·rw[qi h,qi (λz=>h z.symm)]
  rw[e];by_cases h:k=n
  ·simp[h]
  ·simp[h]
end
section
variable {prog:o6}{w:World}{A:qf}{E:Value->nU->Prop}{s:nU}
end
section
variable {X:Cx}
def bN:∀{us:List Value},tV us ns->Af (ns.map V.int) us:=by
 induction ns with
 |nil=>intro us r;cases r;exact .nil
 |cons n ns ih =>
  intro us r;cases r with
  |cons=>exact .cons ⟨_,J⟩ (ih (by assumption))
end
end L2
namespace L2
open PySem PySem.Spec PyProof.Rows PySem.SeqAt
section
variable {prog:o6}{w:World}{A:qf}{E:Value->nU->Prop}
end
section
variable {X:Cx}
end
end L2
namespace HT
open PySem PySem.Spec PyProof.Rows L2
section
variable {prog:o6}{w:World}{A:qf}{E:Value->nU->Prop}{s:nU}
def XN {lo hi:Option Int}(F:IsTup s.heap t items)(hs:s.heap.IsSliceOf sl vl vu .none)(pl:wQ vl lo)(pu:wQ vu hi)
  (O:Al items.size 0 lo=0/\Al items.size items.size hi=items.size)(h:Q (.ref t) s):wpAny (model prog w) A (v5 (.ref t) (.ref sl)) Q E s:=by
 obtain⟨os,aa,ac,ae⟩:=id hs;have ab:s.TypeIs (.ref sl) "slice":=⟨os,aa,ac⟩;unfold v5;try with_reducible refine sV ?_
 first|refine nv (nZ ?_)|skip
 refine nv (aa5 F.typeIs (by decide) (nv (rK (name:=vm "__getitem__") F.typeIs qP (rL qP F.typeIs aao ?_ (aaL _ _)))));show wpAny _ _ (x6 (.ref t) >>= _) _ _ s;refine nv (tupleItemsOf_ F (nv (vR ab ?_)));rw[nX (by decide)];refine nv (RJ hs pl pu ?_);have ad:((((Al items.size 0 lo:Nat):Int) == 0 && (1:Int) == 1 && (Al items.size items.size hi-Al items.size 0 lo) == items.size)=true):=by rw[O.1,O.2];simp
 show wpAny _ _ (if (((Al items.size 0 lo:Nat):Int) == 0 && (1:Int) == 1 && (Al items.size items.size hi-Al items.size 0 lo) == items.size)=true then _ else _) _ _ s;rw[nX ad];unfold oN.Tuple.tupleIsExact;refine nv ?_
 first|refine nv (vR F.typeIs (nZ ?_))|refine vR F.typeIs ?_
 first
  |(rw[nX (by decide)];refine nv (vz (nZ ⟨_,J,nZ h⟩)))
  |(rw[nX (by rfl)];exact nv (vz (nZ ⟨_,J,nZ h⟩)))
end
end HT
namespace L2
open PySem PySem.Spec PyProof.Rows
section
variable {X:Cx}{K:nT}
def QT(K:nT):V->Option Int->Option Int->Hp->VK->Prop:=λx lo hi H Q=>∃a xs,x=.ref a/\AH K H a xs /\
 ((HT.Al xs.length 0 lo=0/\HT.Al xs.length xs.length hi=xs.length)->Q (.ref a) H)/\(¬(HT.Al xs.length 0 lo=0/\HT.Al xs.length xs.length hi=xs.length)->∀p,H p=none->Q (.ref p) (AF H p (.AG (C5 xs lo hi))))
def dH:Fx X (QT X.K):=by
 intro gt s σ H x v vl vu lo hi sl Q I O hs pl pu h;obtain⟨a,xs,rfl,hx,q1,q2⟩:=h;by_cases F:HT.Al xs.length 0 lo=0/\HT.Al xs.length xs.length hi=xs.length
 ·cases O;obtain⟨aa,r,ht,hz⟩:=I.tuple hx;have ab:aa.toArray.size=xs.length:=by rw[ou];exact r.length.symm
  exact⟨"tuple",_,qP.lookup,ht.typeIs,HT.XN ht hs pl pu (by rw[ab];exact F) ⟨.ref a,H,I,J,q1 F⟩⟩
 ·exact VO gt s σ H _ v vl vu lo hi sl Q I O hs pl pu ⟨a,xs,J,hx,F,q2 F⟩
def kZ:Fx X (QT []):=λgt s σ H x v vl vu lo hi sl Q I F hs pl O ⟨a,xs,e,c,q⟩=>dH gt s σ H x v vl vu lo hi sl Q I F hs pl O ⟨a,xs,e,c.up,q⟩
variable {o e:Expr}{es:List Expr}{to:TE}{t:TA}{name:Str}{apos cpos:Pos}{id:String}{r:V->List V->Hp->VK->Prop}
inductive EE(H:Hp):V->qA->Prop
 |int (i:Int):EE H (.int i) (.int i)
 |bl (b:Bool):EE H (.bl b) (.bool b)
 |str (z:Str):EE H (.str z) (.str z)
 |AG {p:Addr} {xs:List V} {ds:List qA} (h:H p=some (.AG xs)) (F:xs.length=ds.length) (hd:∀(i:Nat) (x:V) (d:qA),xs[i]?=some x->ds[i]?=some d->EE H x d):EE H (.ref p) (.tuple ds)
def EE.keep(s:AO H H')(h:EE H v d):EE H' v d:=by
 induction h with
 |int i=>exact .int i
 |bl b=>exact .bl b
 |str z=>exact .str z
 |AG h hl hd ih=>exact .AG (s _ _ h) hl ih
variable {gt:List (Addr×Obj)}{σ:L2.St}{H:Hp}{s:nU}
def Rr(h:Heap):∀{xs:List V} {F:List Value} {ds:List qA},Af xs F->xs.length=ds.length->(∀(i:Nat) (x:V) (d:qA),xs[i]?=some x->ds[i]?=some d->∀u,Av x u->Reads h u d [])->ReadsAll h F ds []
 |[],_,ds,.nil,hl,_=>by
  have:ds=[]:=qQ.mp hl.symm
  subst this;exact .nil
 |x :: xs,_,[],_,hl,_=>by simp at hl
 |x :: xs,_,d :: ds,.cons r rs,hl,hd =>
  .cons (as:=[]) (bs:=[]) (hd 0 x d rfl rfl _ r) (Rr h rs (by simpa using hl) λi x' d' e1 O=>hd (i+1) x' d' (by simpa using e1) (by simpa using O))
def NJ(I:AK X gt σ H s)(h:EE H v d):∀u,Av v u->Reads s.heap u d []:=by
 induction h with
 |int i =>
  intro u r;obtain⟨t,rfl⟩:=r;exact .int _ _
 |bl b =>
  intro u r;cases r;exact .bool _
 |str z =>
  intro u r;obtain⟨t,rfl⟩:=r;exact .str _ _
 |AG h hl hd ih =>
  intro u r;cases r;obtain⟨ab,F,tp,_⟩:=I.tuple (AH.of (K:=X.K) h);obtain⟨o,ho,O,n,aa⟩:=tp;exact .tuple ho O aa (by simpa using Rr s.heap F hl ih)
inductive Ij:Nat->qA->Prop
 |int {n:Nat} (i:Int):Ij n (.int i)
 |bl {n:Nat} (b:Bool):Ij n (.bool b)
 |AG {n:Nat} {ds:List qA} (h:∀d∈ds,Ij n d):Ij (n+1) (.tuple ds)
def Pg:∀{ds:List qA},(∀d∈ds,d.canLay0=true)->yv ds=true
 |[],_=>rfl
 |d :: ds,h=>by
  simp only[yv,qX];exact⟨h d (by simp),Pg λx F=>h x (by simp[F])⟩
def SX:∀{ds:List qA},(∀d∈ds,d.depth<=n)->w8 ds<=n
 |[],_=>pD _
 |d :: ds,h=>by
  have:=SX (ds:=ds) λx F=>h x (by simp[F])
  have:=h d (by simp)
  simp only[w8];omega
def Ij.ok(h:Ij n d):d.canLay0=true/\d.depth<=n+1:=by
 induction h with
 |int i=>exact⟨J,by simp[w6]⟩
 |bl b=>exact⟨J,by simp[w6]⟩
 |@AG n ds h ih =>
  exists by simp only[zK];exact Pg λd hd=>(ih d hd).1
  have:=SX λd hd=>(ih d hd).2
  simp only[w6];omega
def Ij.shaped(h:Ij n d)(F:n<=60):yV d=true:=by
 unfold yV;rw[qX];exact⟨h.ok.1,pR (by have:=h.ok.2;omega)⟩
def lU:R2:=λx y H Q=>∃(d e:qA),EE H x d/\EE H y e/\(d.canLay0=true/\d.depth<=64)/\(e.canLay0=true/\e.depth<=64)/\Q (.bl (w9 d e)) H
def lX:R2:=λx y H Q=>∃(d e:qA),EE H x d/\EE H y e/\(d.canLay0=true/\d.depth<=64)/\(e.canLay0=true/\e.depth<=64)/\Q (.bl (!PyData.eqv d e)) H
def OK(h:d.canLay0=true/\d.depth<=64):yV d=true:=by
 unfold yV;rw[qX];exact⟨h.1,pR h.2⟩
def g9(O:X.A.units+64<cLine):Bf X (rH .Eq) lU:=by
 intro gt s σ H x y v u Q I F ry h;obtain⟨d,e,hx,hy,sd,se,k⟩:=h;exact eq_dataH (NJ I hx v F) (NJ I hy u ry) (OK sd) (OK se) O ⟨.bl _,H,I,J,k⟩
def U1(O:X.A.units+64<cLine):Bf X (rH .NotEq) lX:=by
 intro gt s σ H x y v u Q I F ry h;obtain⟨d,e,hx,hy,sd,se,k⟩:=h;exact ne_dataH (NJ I hx v F) (NJ I hy u ry) (OK sd) (OK se) O ⟨.bl _,H,I,J,k⟩
end
section
variable {X:Cx}
end
section
variable {prog:o6}{w:World}{A:qf}{E:Value->nU->Prop}{s:nU}
end
section
variable {X:Cx}
end
def kT(ta:TE):TE:=λσ H Q=>ta σ H λv H1=>∃n:Nat,v=.int (n:Int)/\n<=1000/\∀l,H1 l=none->Q (.ref l) (AF H1 l (.AE ((og n).map λi:Nat=>V.int (i:Int))))
def Ox:∀{xs:List V} {us:List Value},xs.length=us.length->(∀(i:Nat) (x:V) (u:Value),xs[i]?=some x->us[i]?=some u->Av x u)->Af xs us
 |[],[],_,_=>.nil
 |[],_ :: _,h,_=>by simp at h
 |_ :: _,[],h,_=>by simp at h
 |x :: xs,u :: us,h,g=>.cons (g 0 x u rfl rfl) (Ox (by simpa using h) λi y v O F=>g (i+1) y v (by simpa using O) (by simpa using F))
def LC:qo "list" = some (.type "list"):=by decide +kernel
section
variable {X:Cx}
def Xb {a:pI}{ta:TE}{p p' F pos:Pos}(hc:X.Cd=true)(hg:Gl X "list")(hm:X.mg "list" = none)(ac:Gl X "range")(ad:X.mg "range" = none)(ha:PE X a ta)
  (hs:oZ [.Call (.Name "range" p') [a] [] F] X.env=[(false,eval (.Call (.Name "range" p') [a] [] F) X.env)]:=by rfl)(ab:oZ [a] X.env=[(false,eval a X.env)]:=by rfl) :
  PE X (.Call (.Name "list" p) [.Call (.Name "range" p') [a] [] F] [] pos) (kT ta):=by
 intro gt s σ H Q I h;refine sj (EK I hg hm LC ?_ (by decide) (by decide));refine pQ ?_ (by rw[hs];rfl) (by rfl);rw[hs];refine xP ?_;refine sj (EK I ac ad yF ?_ (by decide) (by decide));have af:PA X [a] (BO ta CI):=AA ha AD (by rw[ab];rfl);have hq:BO ta CI σ H (λvs H1=>match vs with
   |[v]=>∃n:Nat,v=.int (n:Int)/\n<=1000/\∀l,H1 l=none->Q (.ref l) (AF H1 l (.AE ((og n).map λi:Nat=>V.int (i:Int))))
   |_=>False):=h
 refine pQ (Ac (af F gt _ σ H _ I hq) λus s2 ⟨vs,H2,I2,r2,O⟩=>?_) (by rw[ab];rfl) (by rfl);cases r2 with
 |nil=>exact qv O
 |cons r rr =>
  cases rr with
  |cons _ _=>exact qv O
  |nil =>
   obtain⟨n,rfl,hn,q⟩:=O;obtain⟨t,rfl⟩:=r;refine call_range_1 (yk ?_);refine call_list_range (n:=n) (I2.ok.hd hc) (zq ..) (small_one (by omega) (by omega) (by omega) (by omega)) (by rw[aac];split<;>omega) (by omega) λh' tk aa c hk hS hI=>?_
   obtain⟨hl,hI⟩:=hI;have hz:((og n).map λi:Nat=>V.int (i:Int)).length<=oK:=by rw[nh,oR,sQ];omega
   have rv:Af ((og n).map λi:Nat=>V.int (i:Int)) aa.toList:=by
    refine Ox (by rw[nh,oR,qj,hl]) λi x u e1 e2=>?_
    have hi:i<n:=by
     have:=(nq.mp e2).1
     rw[qj,hl]at this;exact this
    rw[nV,qk hi]at e1;obtain⟨t',ht⟩:=hI i u (by rw[<-Array.getElem?_toList];exact e2);cases e1;exact⟨t',by rw[ht];congr 1;omega⟩
   have ae:∀h1:Heap,(∀b o,s2.heap.get? b=some o->h1.get? b=some o)->(∀b o,h1.get? b=some o->h'.get? b=some o)->h'.get? h1.objs.size=some { cls:=.type "list",dict:=none,data:=.seq aa c,slots:=#[]}->EP X gt σ Q (.ref h1.objs.size) { s2 with heap:=h',toks:=tk}:=λh1 k1 k2 hS=>by
    have I3:=I2.CC (h':=h1) (t':=tk) k1;exact⟨.ref _,_,I3.laid (t':=tk) k2 (nQ _) (show Bh X.prog X.w _ h' _ (.AE _) from ⟨hz,aa.toList,c,rv,hS⟩),J,q _ (I3.Aj.fresh (nQ _))⟩
   exact ae _ (λb o e=>nP _ e) hk hS
end
section
variable {prog:o6}{w:World}{A:qf}{E:Value->nU->Prop}{s:nU}
end
section
variable {X:Cx}
end
def kI(ta:TA):TE:=λσ H Q=>ta σ H λvs H1=>∃(lo:Int) (n:Nat),vs=[.int lo,.int (lo+(n:Int))]/\0<=lo/\lo<=1000/\n<=1000/\∀l,H1 l=none->Q (.ref l) (AF H1 l (.AE ((og n).map λi:Nat=>V.int (lo+(i:Int)))))
section
variable {X:Cx}
def RL {a b:pI}{ta:TA}{p O F pos:Pos}(hc:X.Cd=true)(hg:Gl X "list")(hm:X.mg "list" = none)(ac:Gl X "range")(ad:X.mg "range" = none)(ha:PA X [a,b] ta)
  (hs:oZ [.Call (.Name "range" O) [a,b] [] F] X.env=[(false,eval (.Call (.Name "range" O) [a,b] [] F) X.env)]:=by rfl)(ae:oZ [a,b] X.env=[(false,eval a X.env),(false,eval b X.env)]:=by rfl)(ab:oZ [b] X.env=[(false,eval b X.env)]:=by rfl) :
  PE X (.Call (.Name "list" p) [.Call (.Name "range" O) [a,b] [] F] [] pos) (kI ta):=by
 intro gt s σ H Q I h;refine sj (EK I hg hm LC ?_ (by decide) (by decide));refine pQ ?_ (by rw[hs];rfl) (by rfl);rw[hs];refine xP ?_;refine sj (EK I ac ad yF ?_ (by decide) (by decide));refine pQ (Ac (ha F gt _ σ H _ I h) λus s2 ⟨vs,H2,I2,r2,q2⟩=>?_) (by rw[ae,ab]) (by rw[ab];rfl);obtain⟨lo,n,e,l0,l1,hn,q⟩:=q2;subst e;cases r2 with
 |cons r rr =>
  cases rr with
  |cons r' rr =>
   cases rr;obtain⟨t,rfl⟩:=r;obtain⟨t',rfl⟩:=r';refine call_range_2 (yk ?_);refine call_list_range (n:=n) (I2.ok.hd hc) (zq ..) (small_one (by omega) (by omega) (by omega) (by omega)) (by rw[aac];split<;>omega) (by omega) λh' tk aa c hk hS hI=>?_
   obtain⟨hl,hI⟩:=hI;have hz:((og n).map λi:Nat=>V.int (lo+(i:Int))).length<=oK:=by rw[nh,oR,sQ];omega
   have rv:Af ((og n).map λi:Nat=>V.int (lo+(i:Int))) aa.toList:=by
    refine Ox (by rw[nh,oR,qj,hl]) λi x u e1 e2=>?_
    have hi:i<n:=by
     have:=(nq.mp e2).1
     rw[qj,hl]at this;exact this
    rw[nV,qk hi]at e1;obtain⟨t',ht⟩:=hI i u (by rw[<-Array.getElem?_toList];exact e2);cases e1;exact⟨t',by rw[ht];congr 1;omega⟩
   have af:∀h1:Heap,(∀b o,s2.heap.get? b=some o->h1.get? b=some o)->(∀b o,h1.get? b=some o->h'.get? b=some o)->h'.get? h1.objs.size=some { cls:=.type "list",dict:=none,data:=.seq aa c,slots:=#[]}->EP X gt σ Q (.ref h1.objs.size) { s2 with heap:=h',toks:=tk}:=λh1 k1 k2 hS=>by
    have I3:=I2.CC (h':=h1) (t':=tk) k1;exact⟨.ref _,_,I3.laid (t':=tk) k2 (nQ _) (show Bh X.prog X.w _ h' _ (.AE _) from ⟨hz,aa.toList,c,rv,hS⟩),J,q _ (I3.Aj.fresh (nQ _))⟩
   exact af _ (λb o e=>nP _ e) hk hS
def Yz(hc:X.Cd=true):CQ X (.builtin "max") (λxs H Q=>∃(p:Addr) (ns:List Int),xs=[.ref p]/\H p=some (.AG (ns.map V.int))/\0<ns.length/\∀m,m∈ns->(∀a∈ns,a<=m)->Q (.int m) H):=by
 intro gt s σ H xs us Q I r h;obtain⟨p,ns,rfl,hp,af,q⟩:=h;obtain⟨u,rfl,r1⟩:=El r;cases r1;obtain⟨F,rv,pa,_⟩:=I.tuple (AH.of (K:=X.K) hp);have ae:F.length=ns.length:=by rw[<-rv.length,nh]
 have ac:p<s.heap.objs.size:=by
  obtain⟨o,ho,_⟩:=id pa;exact ow ho
 have ab:∀i v,F.toArray[i]?=some v->∃t,v=.int (ns.getD i 0) t/\i<ns.length:=λi v O=>by
  rw[tf]at O;have hi:i<F.length:=(nq.mp O).1;have aa:i<ns.length:=by omega
  have hx:(ns.map V.int)[i]?=some (.int ns[i]):=by rw[nV,nj aa];rfl
  obtain⟨u,hu,ru⟩:=rv.get hx;rw[hu]at O;obtain rfl:u=v:=oy O;obtain⟨t,rfl⟩:=ru;exact⟨t,by rw[nO,nj aa];rfl,aa⟩
 refine call_max_walk (sk pa ?_);refine⟨s.heap.objs.size,_,_,_,_,_,λi j=>decide (-(ns.getD i 0) < -(ns.getD j 0)),J,Walks.tuple (show X.A.in1.handled=none from I.ok.hd hc) _ p (o8 ac) F.toArray,⟨⟨_,oq _ rfl,J,J⟩,pa.push _⟩,λb hb=>?_,by rw[ou];omega,λi j vi vj s' Q' E' hi hj ad=>?_,λv h' tk O k=>?_⟩
 ·simp only[oj,pB,qK]at hb;rw[qt];rcases hb with rfl|rfl
  ·exact uE _
  ·exact tZ ac
 ·obtain⟨t1,rfl,_⟩:=ab i vi hi;obtain⟨t2,rfl,_⟩:=ab j vj hj;refine gt_int ?_;have e:decide (ns.getD j 0<ns.getD i 0)=decide (-(ns.getD i 0) < -(ns.getD j 0)):=by
   rw[tU,t6,t6];omega
  first
   |(rw[e];exact ad)
   |(rw[show decide (ns.getD i 0>ns.getD j 0)=decide (-(ns.getD i 0) < -(ns.getD j 0)) from e];exact ad)
 ·obtain⟨t,rfl,hb⟩:=ab _ v O;obtain⟨h1,h2⟩:=argBest_lt (λi=>-(ns.getD i 0)) (F.toArray.size-1);refine⟨.int _,H,I.CC λb o eb=>?_,⟨t,J⟩,q _ (getD_mem hb) λa ha=>?_⟩
  ·exact k b o (λz=>by
    have:b=s.heap.objs.size:=by simpa using z
    exact absurd (ow eb) (by rw[this];exact sT _)) (nP _ eb)
  ·obtain⟨j,hj,rfl⟩:=mem_getD ha
   have:=h2 j (by rw[ou];omega)
   have h3:-(ns.getD (argBest (λi j=>decide (-(ns.getD i 0) < -(ns.getD j 0))) (F.toArray.size-1)) 0)<=-(ns.getD j 0):=this;omega
def N8(K:nT)(a:Addr)(n:Nat):It :=
 ⟨λi H=>∃xs x,AI K H a xs/\xs.length=n/\xs.reverse[i]?=some x,λi H x H'=>H'=H/\∀xs,AI K H a xs->xs.reverse[i]?=some x,λi _=>n<=i⟩
def bD{P:o6}{w:World}{K:nT}{tg:Expr}(a O:Addr)(n:Nat):FD P w K tg (N8 K a n) [O] O (λi h=>i<=n/\h.IsRevIter O a ((n:Int)-1-(i:Int))) where
 mem:=by simp
 Ci:=λi h st b F=>by
  have e:b=O:=by simpa using F
  subst e;obtain⟨o,e,c,d⟩:=st.2;exact⟨o,e,λv z=>by rw[d]at z;cases z⟩
 keep:=λi h h' st k=>⟨st.1,st.2.at λo e=>k O (by simp) o e⟩
 item:=by
  intro X hP hw hK hc i gt s σ H E I hf st hg;subst hP hw hK;obtain⟨xs,x,hq,ln,hx⟩:=hg;have il:i<n:=by have:=(nq.mp hx).1;rw[uJ]at this;omega
  have ac:xs[n-1-i]?=some x:=by rw[List.getElem?_reverse (by omega),ln]at hx;exact hx
  obtain⟨ad,rv,p,hz⟩:=I.list hq;obtain⟨u,hu,ru⟩:=rv.get ac;obtain⟨f0,f1,f2,f3,f4,f5⟩:=hf O (by simp);have aa:=st.2;rw[show(n:Int)-1-(i:Int)=((n-1-i:Nat):Int) by omega]at aa;refine wpAny_pyNext_rev_item aa p.isList (x:=u) (by simpa using hu) λh' ab sb=>?_
  have I1:AK X gt σ H { s with heap:=h'}:=I.EL (t':=s.toks) (λb o F e=>(sb.2 b F).trans e) f0 f1 f3 f4 f5;obtain⟨o,e,c,d⟩:=id ab;rw[show((n-1-i:Nat):Int)-1=(n:Int)-1-((i+1:Nat):Int) by omega]at ab;exact⟨u,J,Lf (s:={ s with heap:=h'}) e c d (by decide) ⟨x,H,I1,ru,⟨J,λys hy=>by rw[I.list_inj hy hq];exact hx⟩,⟨il,ab⟩,λb F=>(hf b F).1⟩⟩
 done:=by
  intro X hP hw hK hc i gt s σ H E I hf st hg;subst hP hw hK;have hg:n<=i:=hg;obtain⟨f0,f1,f2,f3,f4,f5⟩:=hf O (by simp);have aa:=st.2
  have:=st.1
  rw[show(n:Int)-1-(i:Int)=-1 by omega]at aa;exact wpAny_pyNext_rev_end (I.ok.hd hc) aa λh' eb=>⟨J,I.EL (t':=s.toks) (λb o F e=>eb b o F e) f0 f1 f3 f4 f5⟩
 self:=λ_ _ _ _ _ st h=>zY st.2 h
variable {tg:Expr}
def lK(K:nT)(tl:TE):TI:=λσ H R=>tl σ H λx H1=>∃a xs,x=.ref a/\AI K H1 a xs/\R (N8 K a xs.length) H1
def gh{l:pI}{tl:TE}{p aa:Pos}(ac:Gl X "reversed")(ad:X.mg "reversed" = none)(hl:PE X l tl)(ab:oZ [l] X.env=[(false,eval l X.env)]:=by rfl):PI X tg (.Call (.Name "reversed" p) [l] [] aa) (lK X.K tl):=by
 intro gt s σ H R I h;refine sj (EK I ac ad (show qo "reversed" = some (.type "reversed") by decide +kernel) ?_ (by decide) (by decide));have ae:PA X [l] (BO tl CI):=AA hl AD (by rw[ab];rfl);have hq:BO tl CI σ H (λvs H1=>match vs with
   |[x]=>∃a xs,x=.ref a/\AI X.K H1 a xs/\R (N8 X.K a xs.length) H1
   |_=>False):=h
 refine pQ (Ac (ae aa gt _ σ H _ I hq) λus F ⟨vs,H2,I2,r2,q2⟩=>?_) (by rw[ab];rfl) (by rfl);cases r2 with
 |nil=>exact qv q2
 |cons r rr =>
  cases rr with
  |cons _ _=>exact qv q2
  |nil =>
   obtain⟨a,xs,rfl,hq,q⟩:=q2;cases r;obtain⟨O,rv,pl,hz⟩:=I2.list hq;have ln:=rv.length;refine call_reversed_list (items:=O.toArray) pl.isList ?_;have st:(F.heap.push (revObj a ((O.toArray.size:Int)-1))).IsRevIter F.heap.objs.size a ((O.toArray.size:Int)-1):=⟨_,oq _ rfl,J,J⟩;refine zY (s:={ F with heap:=F.heap.push (revObj a ((O.toArray.size:Int)-1))}) st ?_;refine⟨F.heap.objs.size,[F.heap.objs.size],_,_,H2,J,I2.CC (t':=F.toks) λb o e=>nP _ e,bD a _ xs.length,⟨pD _,?_⟩,λb hb=>?_,q⟩
   ·rw[ou,<-ln]at st;rw[show((xs.length:Int)-1-((0:Nat):Int))=(xs.length:Int)-1 by omega];rw[ou,<-ln];exact st
   ·have e:b=F.heap.objs.size:=by simpa using hb
    subst e;exact I2.HY (nQ _) (I2.Aj.fresh (nQ _))
def Zt(hs:xs.toList.Pairwise (· < ·)):∀(F lo hi:Nat),lo<=hi->hi<=xs.size->hi-lo<=F->(∀(i x:Nat),i<lo->xs[i]?=some x->x<j)->(∀(i x:Nat),hi<=i->xs[i]?=some x->j<=x) →
  wo xs j F lo hi<=xs.size/\(∀(i x:Nat),i<wo xs j F lo hi->xs[i]?=some x->x<j)/\(∀(i x:Nat),wo xs j F lo hi<=i->xs[i]?=some x->j<=x):=by
 have aa:∀(a b x y:Nat),a<b->xs[a]?=some x->xs[b]?=some y->x<y:=λa b x y ab ha hb=>by
  rw[<-Array.getElem?_toList]at ha hb;obtain⟨h1,rfl⟩:=nq.mp ha;obtain⟨h2,rfl⟩:=nq.mp hb;exact rz.mp hs a b h1 h2 ab
 intro F
 induction F with
 |zero =>
  intro lo hi h1 h2 h3 h4 h5;obtain rfl:lo=hi:=by lia
  exact⟨h2,h4,h5⟩
 |succ f ih =>
  intro lo hi h1 h2 h3 h4 h5;unfold wo;by_cases c:lo<hi
  ·rw[nX c];have hm:(lo+hi) / 2<xs.size:=by lia
   have O:xs[(lo+hi) / 2]?=some xs[(lo+hi) / 2]:=pH hm;have eg:xs.getD ((lo+hi) / 2) j=xs[(lo+hi) / 2]:=by rw[qg,O];rfl
   dsimp only;rw[eg];by_cases d:xs[(lo+hi) / 2]<j
   ·rw[nX d];refine ih _ _ (by lia) h2 (by lia) (λi x ac e=>?_) h5;rcases oM i ((lo+hi) / 2)with z|z
    ·exact aaA (aa i _ x _ z e O) d
    ·obtain rfl:i=(lo+hi) / 2:=by lia
     rw[O]at e;cases e;exact d
   ·rw[nS d];refine ih _ _ (by lia) (by lia) (by lia) h4 (λi x ac e=>?_);rcases oM ((lo+hi) / 2) i with z|z
    ·have:=aa _ i _ x z O e;lia
    ·obtain rfl:i=(lo+hi) / 2:=by lia
     rw[O]at e;cases e;lia
  ·rw[nS c];obtain rfl:lo=hi:=by lia
   exact⟨h2,h4,h5⟩
def Sm(hs:xs.toList.Pairwise (· < ·))(j:Nat):o9 xs j<=xs.size/\(∀(i x:Nat),i<o9 xs j->xs[i]?=some x->x<j)/\(∀(i x:Nat),o9 xs j<=i->xs[i]?=some x->j<=x):=by
 unfold o9;exact Zt hs _ 0 xs.size (pD _) (nQ _) (by lia) (λi _ h=>by lia) λi x h e=>by
  rw[wt h]at e;cases e
def YC(hs:xs.toList.Pairwise (· < ·))(hn:xs[o9 xs j]?≠some j):(oU.insertAt xs (o9 xs j) j).toList.Pairwise (· < ·):=by
 obtain⟨b1,b2,b3⟩:=Sm hs j;rw[oU.toList_insertAt,zU];have hd:∀y∈xs.toList.drop (o9 xs j),j<y:=λy hy=>by
  obtain⟨k,O,rfl⟩:=oG hy;rw[List.getElem_drop];have F:o9 xs j+k<xs.toList.length:=by rw[pY]at O;omega
  have e:xs[o9 xs j+k]?=some xs.toList[o9 xs j+k]:=by rw[<-Array.getElem?_toList];exact nj F
  have:=b3 _ _ (Nat.le_add_right _ _) e
  rcases oM j xs.toList[o9 xs j+k]with z|z
  ·exact z
  ·have ej:xs.toList[o9 xs j+k]=j:=by omega
   cases k with
   |zero=>rw[ej]at e;exact absurd e hn
   |succ k =>
    have ab:o9 xs j<xs.toList.length:=by omega
    have e0:xs[o9 xs j]?=some xs.toList[o9 xs j]:=by rw[<-Array.getElem?_toList];exact nj ab
    have g0:=b3 _ _ (nQ _) e0
    have:=rz.mp hs (o9 xs j) (o9 xs j+(k+1)) ab F (by omega)
    omega
 refine⟨hs.sublist (aaW _ _),List.pairwise_cons.mpr ⟨hd,hs.sublist (List.drop_sublist _ _)⟩,λa ha b hb=>?_⟩;have aa:a<j:=by
  obtain⟨k,O,rfl⟩:=oG ha;rw[List.getElem_take];rw[pS]at O;have F:k<xs.toList.length:=by omega
  exact b2 k _ (by omega) (by rw[<-Array.getElem?_toList];exact nj F)
 rcases oj.mp hb with z|z
 ·rw[z];exact aa
 ·exact aaA aa (hd b z)
structure D7(b:Bool)(t:oU):Prop where
 led:t.led=b
 Q9:t.dummies = #[]
 Q6:t.plain=true->t.place.toList.Pairwise (· < ·)
def D7.Nh(x:D7 b t)(n:Nat):D7 b (t.standIn n):=⟨x.led,J,λz=>by cases z⟩
def YN(hd:t.dummies = #[]):∀(F:Nat) (p:abS) (j:Nat) (d:Option Nat),p.dummy=none->aa1 t (λ_=>h+1) h F p=some (.empty j d)->d=none/\t.slot j=.empty:=by
 intro F
 induction F with
 |zero=>intro p j d _ e;cases e
 |succ f ih =>
  intro p j d hp e;have ad:∀q:abS,q.dummy=none->(t.advance q).dummy=none:=λq O=>by
   unfold oU.advance;split
   ·exact O
   ·exact O
  unfold aa1 at e;split at e
  ·rename_i hs
   simp only[wj,ab6]at e;exact⟨by rw[<-e.2];exact hp,by rw[<-e.1];exact hs⟩
  ·rename_i hs
   unfold ab2 at hs;dsimp only at hs;split at hs
   ·cases hs
   ·rw[hd]at hs
    have:yW #[] p.j=false:=by unfold yW;simp
    rw[this]at hs;cases hs
  ·rename_i i hs
   have ne:((h+1:Int) == h)=false:=by rw[beq_eq_false_iff_ne];lia
   rw[ne]at e;exact ih _ j d (ad p hp) e
def D7.mX(x:D7 b t)(es:Array (Int×Value))(h:Int)(v:Value):D7 b (layNew t es h v).2.1:=by
 unfold layNew;cases e:t.freeSlot h with
 |none=>exact x.Nh _
 |some q =>
  obtain⟨F,wd⟩:=q;have hs:t.place[o9 t.place F]?≠some F:=by
   unfold oU.freeSlot at e;split at e
   ·rename_i j d hp
    obtain⟨rfl,O⟩:=YN x.Q9 _ _ j d rfl hp;simp only[yP,wj,z9]at e;rw[<-e.1];intro z;unfold ab2 at O;dsimp only at O;rw[z]at O;simp at O
   ·cases e
  have aa:D7 b (t.put F).1:=by
   refine⟨x.led,?_,λz=>YC (x.Q6 z) hs⟩;show(if _ then _ else t.dummies) = #[];rw[x.Q9]
   have:yW #[] F=false:=by unfold yW;simp
   rw[this];rfl
  show D7 b ((t.put F).1.orStandIn _);unfold oU.orStandIn;split
  ·exact aa
  ·exact aa.Nh _
def Xv(owner:Array (Option Nat))(n:Nat):(((og n).filterMap λj=>(owner.getD j none).map (j,·)).map (·.1)).Pairwise (· < ·):=by
 have e:∀l:List Nat,((l.filterMap λj=>(owner.getD j none).map (j,·)).map (·.1))=l.filter λj=>(owner.getD j none).isSome:=by
  intro l
  induction l with
  |nil=>rfl
  |cons j l ih =>
   rw[uI,yL];cases h:owner.getD j none with
   |none=>simpa using ih
   |some q=>simpa using ih
 rw[e];exact tK.sublist List.filter_sublist
def D7.jV(x:D7 b t)(es:Array (Int×Value))(n:Nat):D7 b (y9 t es n).2.1:=by
 unfold y9;cases e:t.relaid (es.map (·.1)) n with
 |none=>exact x.Nh _
 |some q =>
  obtain⟨t',F⟩:=q;dsimp only;split
  ·unfold oU.relaid oU.laid at e;cases o:oU.layClean (oU.sizeAbove n-1) (es.map (·.1))with
   |none=>rw[o]at e;cases e
   |some owner =>
    rw[o]at e;simp only[Option.bind_eq_bind,abp,Option.pure_def,wj,z9]at e;rw[<-e.1];exact⟨x.led,J,λ_=>by simpa using Xv owner _⟩
  ·exact x.Nh _
def IZ(e:Int×Value):Int:=match e.2 with
 |.int k _=>k
 |_=>0
def EI(prog:o6)(w:World)(l:List (Int×Value)):Prop:=∀e∈l,∃k t,e=((vn prog w).hash k,.int k t)
def Cq(prog:o6)(w:World)(b:Bool)(h:Heap)(a:Addr)(ks:List Int):Prop :=
 ∃o es ep t,h.get? a=some o/\o.ExactSet/\o.data=.set es ep t/\EI prog w es.toList/\(es.toList.map IZ).Perm ks/\es.size<wL/\t.fits es.size=true/\D7 b t
variable {prog:o6}{w:World}
def EI.el(h:EI prog w l):ElemsOf (vn prog w) l:=λe F=>by
 obtain⟨k,t,rfl⟩:=h e F;exact⟨⟨k,yG prog w k t,J⟩,J⟩
def EI.By(h:EI prog w l)(p:sZ m l):EI prog w m:=λe F=>h e (p.mem_iff.mp F)
def i8(k F:Int)(t:Tok):(vn prog w).is k (.int F t)=decide (k=F):=KeyKind.is_eq_decide (yG prog w F t) k
def RS{h:Heap}(O:h.get? a=some o)(hd:o.data=.set es ep t)(F:Array (Int×Value))(t':oU):
  (h.update a (abE F t')).get? a=some { o with data:=.set F (ep+1) t'}:=by
 have g:=rZ (abE F t') O (by rw[putSet_of F t' hd];rfl)
 rwa [putSet_of F t' hd]at g
variable {A:qf}{E:Value->nU->Prop}{s:nU}
def UA(h:Q () F):wpAny (model prog w) A (match b with|true=>rule "set.scan.the-table-gave-way" | false=>pure ()) Q E F:=by
 cases b
 ·exact nZ h
 ·exact vz h
def cZ {b:Bool}{a:Addr}{ks:List Int}{k:Int}{tk:Tok}{Q:Bool->nU->Prop}(hS:Cq prog w b s.heap a ks)(hr:ks.length+1<wL)
  (h:∀h',p8 a s.heap h'->Cq prog w b h' a (if k∈ks then ks else ks++[k])->Q (!decide (k∈ks)) { s with heap:=h'}) :
  wpAny (model prog w) A (setAddHashed a (.int k tk) ((vn prog w).hash k)) Q E s:=by
 obtain⟨o,es,ep,t,ho,ab,hd,aa,hp,hb,hf,ti⟩:=hS;have ai:=yG prog w k tk;have ac:(xZ k tk).scannable=true:=rfl;have sz:es.size=ks.length:=by rw[<-Array.length_toList,<-hp.length_eq,nh]
 have ah:k∈ks↔∃e∈es.toList,(vn prog w).is k e.2=true:=by
  rw[<-hp.mem_iff,n8];constructor
  ·rintro⟨e,O,rfl⟩;obtain⟨k',t',rfl⟩:=aa e O;exact⟨_,O,yG prog w k' t'⟩
  ·rintro⟨e,O,q⟩;obtain⟨k',t',rfl⟩:=aa e O;rw[i8,t6]at q;exact⟨_,O,q.symm⟩
 unfold setAddHashed setAddHashedIn;refine sV ?_;refine nv (t8 ho hd hf ?_);dsimp only;rw[byScan_of ac hb aa.el];simp only[↓reduceIte];unfold setAddByScan;refine nv (nv (vz (nv (wpAny_setScan_of ai ho hd hf aa.el ?_))));cases fi:List.findIdx? (λe=>(vn prog w).is k e.2) es.toList with
 |some j =>
  obtain⟨hj,aj,_⟩:=List.findIdx?_eq_some_iff_getElem.mp fi;have hk:k∈ks:=ah.mpr ⟨_,pX hj,aj⟩;have ae:=h s.heap (p8.refl a s.heap) (by rw[nX hk];exact⟨o,es,ep,t,ho,ab,hd,aa,hp,hb,hf,ti⟩);rw[pR hk]at ae;exact nZ (nZ ae)
 |none =>
  have hk:¬k∈ks:=λz=>by
   obtain⟨e,O,q⟩:=ah.mp z;rw[List.findIdx?_eq_none_iff.mp fi e O]at q;cases q
  rw[nS hk,qi hk]at h;have lp:=layNew_perm t es ((vn prog w).hash k) (.int k tk);have lf:=layNew_fits t es ((vn prog w).hash k) (.int k tk);have lt:=ti.mX es ((vn prog w).hash k) (.int k tk);generalize layNew t es ((vn prog w).hash k) (.int k tk)=L at lp lf lt ⊢;obtain⟨F,t1,wd,gv⟩:=L;dsimp only at lp lf lt ⊢;rw[aaR]at lp;have ad:EI prog w F.toList:=EI.By (λe O=>by
   rcases om.mp O with z|z
   ·exact aa e z
   ·exact⟨k,tk,oz.mp z⟩) lp
  have af:(F.toList.map IZ).Perm (ks++[k]):=by
   refine(lp.map IZ).trans ?_;rw[oh];exact hp.append_right _
  have am:F.size=ks.length+1:=by rw[<-Array.length_toList,lp.length_eq,oa,qj,sz];rfl
  have ag:∀t2:oU,t2.fits F.size=true->D7 b t2->wpAny (model prog w) A (do
    storeSet a F t2
    if (!wd && t2.tooFull)=true then do
      (match (y9 t2 F (uv F.size)).2.2 with|true=>rule "set.scan.the-table-gave-way" | false=>pure ())
      storeSet a (y9 t2 F (uv F.size)).1 (y9 t2 F (uv F.size)).2.1
      pure (some true)
     else pure (some true)) (λr s'=>r=some true/\∃h',s'={ s with heap:=h'}/\p8 a s.heap h'/\Cq prog w b h' a (ks++[k])) E s:=λt2 f2 i2=>by
   have b1:F.size<wL:=by lia
   refine nv (aa7 ho hd ?_ (yz b1));have g1:=RS ho hd F t2;have sb:=qL s.heap a (abE F t2);split
   ·have rp:=relayAll_perm t2 F (uv F.size);have rf:=relayAll_fits t2 F (uv F.size);have ri:=i2.jV F (uv F.size);generalize y9 t2 F (uv F.size)=R at rp rf ri ⊢;obtain⟨e2,t3,al⟩:=R;dsimp only at rp rf ri ⊢;have ak:e2.size=F.size:=by rw[<-Array.length_toList,rp.length_eq,qj]
    refine nv (UA (nv (aa7 g1 rfl ?_ (yz (by lia)))));have g2:=RS g1 rfl e2 t3;exact nZ ⟨J,_,J,sb.trans (qL _ a _),_,e2,_,t3,g2,ab,J,ad.By rp,(rp.map IZ).trans af,by lia,rf,ri⟩
   ·exact nZ ⟨J,_,J,sb,_,F,_,t2,g1,ab,J,ad,af,b1,f2,i2⟩
  refine nv (UA ?_);split
  ·refine nv ?_;rw[hashByValue_scannable 8 ac];refine nZ (qG (ag _ lf lt) (λr s' x=>?_) λ_ _ z=>z);obtain⟨rfl,h',rfl,x1,x2⟩:=x;exact nZ (h h' x1 x2)
  ·refine nv (nZ ?_);simp only[↓reduceIte];refine qG (ag _ lf lt) (λr s' x=>?_) λ_ _ z=>z
   obtain⟨rfl,h',rfl,x1,x2⟩:=x;exact nZ (h h' x1 x2)
def Ia(F:List Int)(k:Int):List Int:=if k∈F then F else F++[k]
def DA(ns:List Int):List Int:=ns.foldl Ia []
def YO(ns:List Int)(k:Int):DA (ns++[k])=Ia (DA ns) k:=by unfold DA;rw[we];rfl
def SK(ns:List Int):(DA ns).length<=ns.length:=by
 have O:∀(l F:List Int),(l.foldl Ia F).length<=F.length+l.length:=by
  intro l
  induction l with
  |nil=>intro F;exact nQ _
  |cons k l ih =>
   intro F;rw[vI];refine oC (ih _) ?_;unfold Ia;split
   ·rw[oP];lia
   ·rw[oa,oP,oP,rD];lia
 have:=O ns []
 rw[rD]at this;unfold DA;lia
def Y3(ns:List Int)(k:Int):k∈DA ns↔k∈ns:=by
 have O:∀(l F:List Int),k∈l.foldl Ia F↔k∈F\/k∈l:=by
  intro l
  induction l with
  |nil=>intro F;simp
  |cons x l ih =>
   intro F;rw[vI,ih,oj];unfold Ia;split
   ·rename_i h
    constructor
    ·rintro(z|z)
     ·exact .inl z
     ·exact .inr (.inr z)
    ·rintro(z|rfl|z)
     ·exact .inl z
     ·exact .inl h
     ·exact .inr z
   ·rw[om,oz];constructor
    ·rintro((z|z)|z)
     ·exact .inl z
     ·exact .inr (.inl z)
     ·exact .inr (.inr z)
    ·rintro(z|z|z)
     ·exact .inl (.inl z)
     ·exact .inl (.inr z)
     ·exact .inr z
 have:=O ns []
 unfold DA;simpa using this
def Xi(ns:List Int):(DA ns).Nodup:=by
 have go:∀(l F:List Int),F.Nodup->(l.foldl Ia F).Nodup:=by
  intro l
  induction l with
  |nil=>intro F h;exact h
  |cons x l ih =>
   intro F h;rw[vI];refine ih _ ?_;unfold Ia;split
   ·exact h
   ·rename_i hx
    rw[qB];exact⟨h,by simp,λa ha b O=>by rw[oz.mp O];exact λz=>hx (z ▸ ha)⟩
 exact go ns [] abQ
abbrev Es(w:World):Bool:=!w.params.followText "set-order"
def Z2{St:Nat->Heap->Prop}{items:Array Value}(W:Walks prog w A.in1 I [I,ax] [I] items.size (λi v=>items[i]?=some v) St)(ab:S≠I)(ai:S≠ax)(hv:tV items.toList ns)(hb:items.size+1<wL):
  ∀(k i:Nat) (s:nU),items.size-i=k->i<=items.size->St i s.heap->Cq prog w b s.heap S (DA (ns.take i)) →
   (∀h' tk,(∀c o,c≠S->c≠I->s.heap.get? c=some o->h'.get? c=some o)->Cq prog w b h' S (DA ns)->R (.ok (.ret .none)) { s with heap:=h',toks:=tk}) →
   vZ (model prog w) A (.builtin "set.update.loop" ⟨[.ref S,.ref I],[]⟩) R s:=by
 have ln:ns.length=items.size:=by rw[<-Array.length_toList];exact hv.length.symm
 have ad:∀{h h':Heap} {ks:List Int},Cq prog w b h S ks->(∀o,h.get? S=some o->h'.get? S=some o)->Cq prog w b h' S ks:=λx k=>by
  obtain⟨o,es,ep,t,ho,rest⟩:=x;exact⟨o,es,ep,t,k o ho,rest⟩
 intro k
 induction k with
 |zero =>
  intro i s hk hi aa hS hR;obtain rfl:i=items.size:=by lia
  refine uW zc ?_;rw[ub v7 _];show wpAny _ A.in1 (uX (.ref I) >>= _) _ _ s;refine nv (W.done s _ _ aa λh' tk O=>nZ (hR h' tk (λc o _ c2 e=>O c o (by simpa using c2) e) ?_));rw[oB (by lia)]at hS;exact ad hS λo e=>O S o (by simpa using ab) e
 |succ k ih =>
  intro i s hk hi aa hS hR;have ac:i<items.size:=by lia
  refine uW zc ?_;rw[ub v7 _];show wpAny _ A.in1 (uX (.ref I) >>= _) _ _ s;refine nv (W.item i s _ _ ac aa λv h' tk hP ah O=>?_);obtain⟨t,rfl⟩:=tV.int_at hv i v (by rw[vd];exact hP);have ag:Cq prog w b h' S (DA (ns.take i)):=ad hS λo e=>O S o (by simpa using ab) e
  show wpAny _ A.in1 (holding [xZ (ns.getD i 0) t] (setAdd S (.int (ns.getD i 0) t)) >>= _) _ _ _;refine nv (sV ?_);unfold setAdd;refine sV (nv ((vn prog w).pyHash (yG prog w (ns.getD i 0) t) ?_));have af:(DA (ns.take i)).length+1<wL:=by
   have:=SK (ns.take i)
   rw[pS]at this;lia
  refine cZ (s:={ s with heap:=h',toks:=tk+1}) ag af λh2 sb x2=>?_
  have eN:DA (ns.take (i+1))=if ns.getD i 0∈DA (ns.take i) then DA (ns.take i) else DA (ns.take i)++[ns.getD i 0]:=by
   have e:ns[i]?=some (ns.getD i 0):=by rw[nO,nj (by lia)];rfl
   rw[yt,e];exact YO _ _
  rw[<-eN]at x2;have fr:∀c o,c≠S->h'.get? c=some o->h2.get? c=some o:=λc o hc e=>by rw[sb.2 c hc];exact e
  refine nZ ⟨wC v7 _,ih (i+1) _ (by lia) ac (W.frame _ _ _ ah λc hc o e=>fr c o (λz=>?_) e) x2 λh3 ae k3 x3=>?_⟩
  ·rcases oj.mp hc with y|y
   ·exact ab (z.symm.trans y)
   ·exact ai (z.symm.trans (oz.mp y))
  ·exact hR h3 ae (λc o c1 c2 e=>k3 c o c1 c2 (fr c o c1 (O c o (by simpa using c2) e))) x3
def bJ(a:Value){Q₁:Value->nU->Prop}(h:Q₁ (.ref s.heap.objs.size) { s with heap:=s.heap.push { cls:=.type "set",dict:=none,data:=.set #[] 0 (.fresh 0 0 (Es w))}}):
  vZ (model prog w) A (.call (.builtin "set.__new__") ⟨[.type "set",a],[]⟩) (wants Q₁ E) s:=by
 refine codeAny_of_tree ?_;show wpAny _ A.in1 (do checkBuiltinCall "set.__new__" ⟨[.type "set",a],[]⟩;again (.builtin "set.__new__" ⟨[.type "set",a],[]⟩)) _ _ s;refine nv (abe (PySem.F.newCall_set_1 a) (nZ ⟨wC zL _,uW PySem.F.entry_set_new ?_⟩));rw[ub zL _];unfold oN.«set.__new__» abV;have aa:=sub_set_self;obtain⟨O,g,d,tk,os⟩:=s;dsimp only
 wp_walk
 refine za (nZ ?_);dsimp only;simp only[newObj];refine nv (wpAny_alloc (nZ ?_));exact nZ h
abbrev Ga(w:World):Obj:={ cls:=.type "set",dict:=none,data:=.set #[] 0 (.fresh 0 0 (Es w))}
def aJ(h:Heap):Cq prog w (Es w) (h.push (Ga w)) h.objs.size [] :=
 ⟨Ga w,#[],0,_,oq h rfl,⟨J,J,J⟩,J,λe F=>by simp at F,xy _,by decide,J,⟨J,J,λ_=>yn⟩⟩
set_option maxRecDepth 100000 in
set_option maxHeartbeats 3200000 in
def Yn {l:Addr}{items:Array Value}{ns:List Int}{Q:Value->nU->Prop}(hh:A.handled=none)(hl:s.heap.IsList l items)(hv:tV items.toList ns)(hb:items.size+1<wL)
  (h:∀(h':Heap) (tk:Nat),Cq prog w (Es w) h' s.heap.objs.size (DA ns)->(∀b o,s.heap.get? b=some o->h'.get? b=some o)->Q (.ref s.heap.objs.size) { s with heap:=h',toks:=tk}) :
  wpAny (model prog w) A (call (.type "set") [.ref l]) Q E s:=by
 obtain⟨c,tl,ao⟩:=r9.mro;have ar:=r9.made;have au:=r9.sub;refine wpAny_call (codeAny_of_tree ?_);show wpAny _ _ (callAny (.type "set") _) _ _ _;refine nZ ⟨Code.quiet_builtin _ (by decide +kernel),uW PySem.F.entry_type_call ?_⟩;rw[qf.under_plain (weight_type_call_type "set" [.ref l] []) rfl];have h1:=r9.notType;have h2:=r9.canCreate;have aj:=PySem.F.typeCall_set_1 (.ref l)
 repeat (any_goals (first|assumption|wp_step))
 refine vP (bJ (.ref l) (E:=E) (Q₁:=λob s₁=>ob=.ref s.heap.objs.size/\s₁={ s with heap:=s.heap.push (Ga w)}) ⟨J,J⟩) λr s₁ hr=>?_
 cases r with
 |error e=>exact hr
 |ok fl =>
  cases fl with
  |ret ob =>
   obtain⟨rfl,rfl⟩:=hr;have oS:(s.heap.push (Ga w)).get? s.heap.objs.size=some (Ga w):=oq _ rfl;have hT:ab3 { s with heap:=s.heap.push (Ga w)} (.ref s.heap.objs.size) "set":=⟨_,oS,J⟩;have ai:=r9.init.lookup;have aq:=r9.init.bind (.ref s.heap.objs.size)
   repeat (any_goals (first|assumption|wp_step))
   refine vP (codeAny_call_builtin (R:=wants (λr s₂=>r=.none/\∃h' tk,s₂={ s with heap:=h',toks:=tk}/\Cq prog w (Es w) h' s.heap.objs.size (DA ns)/\(∀b o,s.heap.get? b=some o->h'.get? b=some o)) E)
    r9.init.plain PySem.F.entry_set_init (check_set_init_1 hT ?_)) λr₂ s₂ O=>?_
   ·obtain⟨ol,ad,aa,nl,ac⟩:=hl;obtain⟨oc,od,ap,osl⟩:=ol;simp only at aa ac;subst aa;subst ac;have ah:(s.heap.push (Ga w)).get? l=some { cls:=.type "list",dict:=od,data:=.seq items nl,slots:=osl}:=nP _ ad;have ak:=PySem.F.sub_list_set;have am:=PySem.F.sub_list_frozenset;have al:(vx "list" == vx "dict")=false:=by decide
    have ae:(s.heap.push (Ga w)).IsList l items:=⟨_,ah,J,nl,J⟩;unfold oN.«set.__init__» noKeywords abN;generalize af:y8=PI
    wp_walk
    subst af;refine tG ae (nv (wpAny_runValue ?_));have ab:l<s.heap.objs.size:=ow ad;have ag:A.in1.in1.in1.handled=none:=by simp[hh]
    have lI:l≠(s.heap.push (Ga w)).objs.size:=by rw[qt];exact o8 (tZ ab)
    have sI:s.heap.objs.size≠(s.heap.push (Ga w)).objs.size:=by rw[qt];exact o8 (uE _)
    refine Z2 (Walks.list ag _ l lI items) sI (r8 ab) hv hb (b:=Es w) (items.size-0) 0 _ (by lia) (pD _) ⟨⟨_,oq _ rfl,J,J⟩,ae.push _⟩ ?s0 ?fin
    case s0 =>
     obtain⟨o,es,ep,t,ho,rest⟩:=aJ (prog:=prog) (w:=w) s.heap;exact⟨o,es,ep,t,nP _ ho,rest⟩
    case fin =>
     intro h' tk k3 x3;show wpAny _ _ _ _ _ _;refine nZ ?_;show wpAny _ _ (ret su) _ _ _;refine nZ ⟨J,h',tk,J,x3,λb o e=>?_⟩;have lb:=ow e;exact k3 b o (o8 lb) (by rw[qt];exact o8 (tZ lb)) (nP _ (nP _ e))
   ·cases r₂ with
    |error e=>exact O
    |ok fl₂ =>
     cases fl₂ with
     |ret r =>
      obtain⟨rfl,h',tk,rfl,x3,k3⟩:=O
      repeat (any_goals (first|assumption|wp_step))
      exact h _ _ x3 k3
     |_=>exact O.elim
  |_=>exact hr.elim
def Rx:Manifest.owners.lookup (String.ofList ['r','o','t','a','r','e','t','i','_','t','e','s'].reverse)=some Manifest.sig_set_iterator:=by kernel_rfl
def Ku:Slot "set_iterator" "__next__" "set_iterator.__next__":=.of (owner:="set_iterator") (n:="__next__") (by rw[typeLookup_type,zQ];kernel_rfl) (by decide +kernel) (by decide +kernel) (by decide +kernel)
 (by first|exact .inl (by decide +kernel)|exact .inr (by decide +kernel)) (by rw[zR];kernel_rfl)
def XQ:entryFor table "set_iterator.__next__" = some oN.«set_iterator.__next__»:=entryFor_of_tree (by kernel_rfl)
def XU(a:Value):argsOk "set_iterator.__next__" ⟨[a],[]⟩:=by
 unfold argsOk;rw[signature?_of (id:="set_iterator.__next__") (n:=['_','_','t','x','e','n','_','_']) (o:=['r','o','t','a','r','e','t','i','_','t','e','s']) (by kernel_rfl) Rx];kernel_rfl
def RK:Slot "set_iterator" "__iter__" "set_iterator.__iter__":=.of (owner:="set_iterator") (n:="__iter__") (by rw[typeLookup_type,zQ];kernel_rfl) (by decide +kernel) (by decide +kernel) (by decide +kernel)
 (by first|exact .inl (by decide +kernel)|exact .inr (by decide +kernel)) (by rw[zR];kernel_rfl)
def XO:entryFor table "set_iterator.__iter__" = some oN.«dict_keyiterator.__iter__»:=entryFor_alias (id':="dict_keyiterator.__iter__") (by kernel_rfl) rfl (by decide +kernel) (by kernel_rfl)
def XT(a:Value):argsOk "set_iterator.__iter__" ⟨[a],[]⟩:=by
 unfold argsOk;rw[signature?_of (id:="set_iterator.__iter__") (n:=['_','_','r','e','t','i','_','_']) (o:=['r','o','t','a','r','e','t','i','_','t','e','s']) (by kernel_rfl) Rx];kernel_rfl
def XR:entryFor table "set.__iter__" = some oN.«frozenset.__iter__»:=entryFor_alias (id':="frozenset.__iter__") (by kernel_rfl) rfl (by decide +kernel) (by kernel_rfl)
def RV{α:Type}{l:List α}(h:i<l.length):(l[i] :: l.eraseIdx i).Perm l:=by
 rw[List.eraseIdx_eq_take_drop_succ];have e:l=l.take i++l[i] :: l.drop (i+1):=by rw[qY,qN]
 conv=>rhs;rw[e]
 exact abl.symm
def YT{F:Source}{n:Nat}{Q:Nat->nU->Prop}(O:n≠0)(h:Q (w.draws F (s.drawn.get F)%n) { s with drawn:=s.drawn.bump F}):wpAny (model prog w) A (choose F n) Q E s:=λ_ _ _=>⟨O,h⟩
def Yt{α:Type}(next:Nat->Nat)(xs:Array α):(tS next xs).toList.Perm xs.toList:=by
 have go:∀(F k:Nat) (left:List α) (out:Array α),left.length<=F->(aaM next F k left out).toList.Perm (out.toList++left):=by
  intro F
  induction F with
  |zero =>
   intro k left out hl;obtain rfl:left=[]:=qQ.mp (by lia);unfold aaM;simp
  |succ f ih =>
   intro k left out hl;unfold aaM;cases e:left[next k%left.length]? with
   |none =>
    dsimp only
    have:left=[]:=by
     cases left with
     |nil=>rfl
     |cons x l =>
      have:=Nat.mod_lt (next k) (show 0<(x :: l).length by simp)
      rw[nj this]at e;cases e
    rw[this];simp
   |some x =>
    dsimp only;obtain⟨O,ex⟩:=nq.mp e;refine(ih _ _ _ (by rw[ye O];lia)).trans ?_;rw[aaR,p7];refine sZ.append_left _ ?_;rw[<-ex];exact RV O
 have:=go xs.size 0 xs.toList #[] (by simp)
 simpa [tS]using this
def SR{α:Type}{R:List α->nU->Prop}:∀(n:Nat) (xs:List α) (s:nU),n=xs.length->(∀ys d',ys.Perm xs->R ys { s with drawn:=d'})->wpAny (model prog w) A (drawOrder n xs) R E s
 |0,xs,s,hn,h=>by
  obtain rfl:xs=[]:=qQ.mp hn.symm;unfold drawOrder;exact nZ (h [] s.drawn (xy _))
 |n+1,[],s,hn,h=>by cases hn
 |n+1,x :: xs,s,hn,h=>by
  unfold drawOrder;refine nv (YT (by simp) ?_);have F:=Nat.mod_lt (w.draws .order (s.drawn.get .order)) (show 0<(x :: xs).length by simp);generalize w.draws .order (s.drawn.get .order)%(x :: xs).length=i at F ⊢;rw[nj F];dsimp only;refine nv (SR n ((x :: xs).eraseIdx i) _ (by rw[ye F];simp at hn ⊢;omega) λys d' p=>nZ (h _ d' ?_));exact(abO _ p).trans (RV F)
end
section
variable {prog:o6}{w:World}{A:qf}{E:Value->nU->Prop}{s:nU}
abbrev Dl(first:Value)(i:Nat)(a:Addr)(n ep:Nat):Obj:={ cls:=.type "set_iterator",data:=.fields #[first,.int i 0,.ref a,.int n 0,.int ep 0]}
def MS (hI:s.heap.get? I=some (Dl first i a n ep))
  (hc:wpAny (model prog w) A.in1 (oN.«set_iterator.__next__» ⟨[.ref I],[]⟩) (λO s'=>∃r,O=.done (.ret r)/\Q (some r) s') (λe s'=>∃F o,s'.heap.get? F=some o/\o.cls=.type "StopIteration"/\e=.ref F/\Q none s') s) :
  wpAny (model prog w) A (uX (.ref I)) Q E s:=by
 have hT:s.TypeIs (.ref I) "set_iterator":=⟨_,hI,J⟩;unfold uX;refine nv (aae (rK (name:=vm "__next__") hT Ku (rL Ku hT XQ ?_ (XU _))));refine qG hc (λO s' x=>?_) (λe s' x=>?_)
 ·obtain⟨r,rfl,q⟩:=x;exact⟨r,J,nZ q⟩
 ·obtain⟨F,o,ho,aa,rfl,q⟩:=x;refine nv (zb (T:="StopIteration") (b:=true) ⟨_,ho,aa⟩ isSubtype_stop ?_);exact nZ q
def Kw{h:Heap}{I:Addr}{f0 f1 f2 f3 f4:Value}{cl:Value}(F:h.get? I=some { cls:=cl,data:=.fields #[f0,f1,f2,f3,f4]})(k:Nat)(v:Value):
  (h.update I (yg (·.setIfInBounds k v))).get? I=some { cls:=cl,data:=.fields (#[f0,f1,f2,f3,f4].setIfInBounds k v)}:=rZ _ F rfl
def SY {h:Heap}{I:Addr}{R:Fin->nU->Prop}{X:Value->nU->Prop}(hh:A.handled=none)(F:nU)(he:uY I h F.heap)
  (hX:∀O o h',h'.get? O=some o->o.cls=.type "StopIteration"->uY I h h'->X (.ref O) { F with heap:=h'}):wpAny (model prog w) A (newExc (.type "StopIteration") [] >>= λe=>raiseNew e) R X F:=by
 refine nv ?_;simp only[newExc,newTuple];refine nv (qC ?_ (by size_fits));refine nv (m:=xG _ _) (abe (a:=su) (by first|rfl|(simp only[xG];rfl)) ?_);refine qC ?_ (by size_fits);simp only[raiseNew];refine nv (wpAny_handled ?_);rw[hh];refine nv (nZ (wpAny_throw ?_));exact hX _ _ _ (oq _ rfl) rfl ((he.push _).push _)
section
variable {I a:Addr}{o:Obj}{es:Array (Int×Value)}{i n ep sl:Nat}{t:oU}{Q:Option Value->nU->Prop}
def dA {v:Value}{nx:Nat}(F:s.heap.get? I=some (Dl (.int sl 0) i a n ep))(ho:s.heap.get? a=some o)(hd:o.data=.set es ep t)(hf:t.fits es.size=true)(hn:es.size=n)
  (hN:∀(A':qf) (E':Value->nU->Prop) (Q':Option (Value×Nat)->nU->Prop),Q' (some (v,nx)) s->wpAny (model prog w) A' (wM a sl i ep) Q' E' s)
  (hQ:∀h',h'.get? I=some (Dl (.int nx 0) (i+1) a n ep)->p8 I s.heap h'->Q (some v) { s with heap:=h'}):wpAny (model prog w) A (uX (.ref I)) Q E s:=by
 refine MS F ?_;unfold oN.«set_iterator.__next__»;refine nv (nZ ?_);refine nv (xI F rfl ?_);show wpAny _ _ (zX a >>= _) _ _ s;refine nv (uK ho hd hf ?_);rw[nS (by simp[hn])];show wpAny _ _ (wM a ((sl:Int).toNat) ((i:Int).toNat) ((ep:Int).toNat) >>= _) _ _ s;simp only[pG];refine nv (hN _ _ _ ?_);show wpAny _ _ (setField (.ref I) 0 (rY nx) >>= _) _ _ s;refine nv (tJ F rfl (by simp) ?_);have O:=Kw F 0 (rY nx);show wpAny _ _ (setField (.ref I) 1 (rY ((i:Int)+1)) >>= _) _ _ _;refine nv (tJ O rfl (by simp) (nZ ⟨v,J,hQ _ ?_ ?_⟩))
 ·have g2:=Kw (f0:=rY nx) (by simpa using O) 1 (rY ((i:Int)+1));rw[g2];simp[rY]
 ·exact(qL ..).trans (qL ..)
def jP (hh:A.handled=none)(F:s.heap.get? I=some (Dl (.int sl 0) i a n ep))(ho:s.heap.get? a=some o)(hd:o.data=.set es ep t)(hf:t.fits es.size=true)(hn:es.size=n)
  (hN:∀(A':qf) (E':Value->nU->Prop) (O:Option (Value×Nat)->nU->Prop),O none s->wpAny (model prog w) A' (wM a sl i ep) O E' s)
  (hQ:∀h',uY I s.heap h'->Q none { s with heap:=h'}):wpAny (model prog w) A (uX (.ref I)) Q E s:=by
 refine MS F ?_;unfold oN.«set_iterator.__next__»;refine nv (nZ ?_);refine nv (xI F rfl ?_);show wpAny _ _ (zX a >>= _) _ _ s;refine nv (uK ho hd hf ?_);rw[nS (by simp[hn])];show wpAny _ _ (wM a ((sl:Int).toNat) ((i:Int).toNat) ((ep:Int).toNat) >>= _) _ _ s;simp only[pG];refine nv (hN _ _ _ ?_);show wpAny _ _ (setField (.ref I) 2 .none >>= _) _ _ s;refine nv (tJ F rfl (by simp) ?_);exact SY (A:=A.in1) (h:=s.heap) (I:=I) hh { s with heap:=s.heap.update I (yg (·.setIfInBounds 2 su))} (qL ..).extBut (λob o' h' e1 e2 e3=>⟨ob,o',e1,e2,J,hQ h' e3⟩)
end
end
section
variable {prog:o6}{w:World}{A:qf}{E:Value->nU->Prop}{s:nU}{a I:Addr}{o:Obj}{es:Array (Int×Value)}{i n ep:Nat}{t:oU}
def Mx(h:Q (w.params.followText "set-order") s):wpAny (model prog w) A setsByText Q E s:=by
 unfold setsByText;exact nv (za (nZ h))
def EZ(t:oU):Nat->Nat
 |0=>0
 |i+1=>t.place.getD i 0+1
def Yk(hs:t.place.toList.Pairwise (· < ·)):∀i,i<=t.place.size->o9 t.place (EZ t i)=i:=by
 have aa:∀(a b x y:Nat),a<b->t.place[a]?=some x->t.place[b]?=some y->x<y:=λa b x y ab ha O=>by
  rw[<-Array.getElem?_toList]at ha O;obtain⟨h1,rfl⟩:=nq.mp ha;obtain⟨h2,rfl⟩:=nq.mp O;exact rz.mp hs a b h1 h2 ab
 intro i hi;obtain⟨b1,b2,b3⟩:=Sm hs (EZ t i);rcases vc (o9 t.place (EZ t i)) i with z|z|z
 ·have e:t.place[o9 t.place (EZ t i)]?=some t.place[o9 t.place (EZ t i)]:=pH (by lia);have g:=b3 _ _ (nQ _) e;generalize t.place[o9 t.place (EZ t i)]=x at e g;cases i with
  |zero=>lia
  |succ i =>
   have F:t.place[i]?=some t.place[i]:=pH (by lia);have gi:EZ t (i+1)=t.place[i]+1:=by show t.place.getD i 0+1=_;rw[qg,F];rfl
   rcases oM (o9 t.place (EZ t (i+1))) i with y|y
   ·have:=aa _ _ _ _ y e F;lia
   ·have eb:o9 t.place (EZ t (i+1))=i:=by lia
    rw[eb,F]at e;cases e;lia
 ·exact z
 ·have F:t.place[i]?=some t.place[i]:=pH (by lia);have g:=b2 i _ z F;generalize t.place[i]=x at F g;cases i with
  |zero=>simp[EZ]at g
  |succ i =>
   have e0:t.place[i]?=some t.place[i]:=pH (by lia);have gi:EZ t (i+1)=t.place[i]+1:=by show t.place.getD i 0+1=_;rw[qg,e0];rfl
   have:=aa i (i+1) _ _ (by lia) e0 F
   lia
def Z6(hb:w.params.followText "set-order" = false)(ho:s.heap.get? a=some o)(hd:o.data=.set es ep t)(F:t.fits es.size=true)(ti:D7 true t)(O:(!t.plain && decide (es.size>1))=false)(hi:i<=es.size)(h:Q (if i<es.size then some ((es.getD i (0,.none)).2,EZ t (i+1)) else none) s):wpAny (model prog w) A (wM a (EZ t i) i ep) Q E s:=by
 have sz:t.place.size=es.size:=by
  unfold oU.fits at F;simp only[qX,beq_iff_eq]at F;exact F.1
 have ab:t.place.toList.Pairwise (· < ·):=by
  cases aa:t.plain with
  |true=>exact ti.Q6 aa
  |false =>
   rw[aa]at O
   have:t.place.toList.length<=1:=by simp at O;rw[qj];lia
   match hl:t.place.toList,this with
   |[],_=>exact yn
   |[x],_=>exact zd _ _
 unfold wM;refine nv (t8 ho hd F ?_);refine nv (Mx ?_);rw[hb];refine rG (λz=>by cases z) (λ_=>?_);refine rG (λz=>absurd z (show ¬((!t.plain && decide (es.size>1))=true) by rw[O];decide)) (λ_=>?_);refine nv ?_;refine rG (λz=>absurd z (show ¬((!t.led && !es.isEmpty)=true) by rw[ti.led];simp)) (λ_=>nZ ?_);rw[Yk ab i (by lia)];refine nZ ?_;rcases oM i es.size with z|z
 ·rw[nX z]at h;have e1:es[i]?=some (es.getD i (0,.none)):=by rw[qg,pH z];rfl
  have e2:t.place[i]?=some (t.place.getD i 0):=by rw[qg,pH (by lia)];rfl
  rw[e1,e2];exact h
 ·rw[nS (by lia)]at h;rw[wt z];exact h
def Yc(F:w.params.followText "set-order" = true)(ho:s.heap.get? a=some o)(hd:o.data=.set es ep t)(O:t.fits es.size=true)(h:Q ((tS (w.params.setOrder a ep) es)[i]?.map λe=>(e.2,0)) s):wpAny (model prog w) A (wM a 0 i ep) Q E s:=by
 unfold wM;refine nv (t8 ho hd O ?_);refine nv (Mx ?_);rw[F];refine rG (λ_=>?_) (λz=>absurd rfl z);dsimp only;refine rG (λz=>absurd z (by simp)) (λ_=>?_);unfold setWalk;refine nv (nv (t8 ho hd O ?_));refine nv (Mx ?_);rw[F];refine rG (λ_=>?_) (λz=>absurd rfl z);refine nv (za (nZ ?_));exact nZ h
def Zg(O:s.TypeIs (.ref a) "set")(h:Q false s):wpAny (model prog w) A (xO (.ref a)) Q E s:=by
 unfold xO;refine nv (wpAny_specialOf O PySem.F.slot_set_len.lookup ?_);generalize aa:("set.__len__":String)=ab
 wp_delta
 rw[show splitId ab=some ("set","__len__") from by subst aa;decide +kernel];subst aa;refine nv (zb (T:="set") (b:=true) O (by rw[zR];kernel_rfl) ?_);refine rG (λz=>absurd z (by decide)) (λ_=>rG (λ_=>?_) (λz=>absurd (by decide +kernel) z));exact nv (vR O (nZ h))
abbrev HS(ys:List Nat):Obj:={ cls:=.type "tuple",data:=.seq (ys.map λy:Nat=>rY (y:Int)).toArray}
def Z8 {Q:Value->nU->Prop}(O:s.heap.get? a=some o)(hx:o.ExactSet)(hd:o.data=.set es ep t)(hf:t.fits es.size=true)(hz:es.size<=oK)
  (h1:(!w.params.followText "set-order" && (!t.plain && decide (es.size>1)))=false->Q (.ref s.heap.objs.size) { s with heap:=s.heap.push (Dl (.int 0 0) 0 a es.size ep)})
  (h2:(!w.params.followText "set-order" && (!t.plain && decide (es.size>1)))=true->∀ys d',ys.Perm (og es.size)->Q (.ref (s.heap.objs.size+1)) { s with heap:=(s.heap.push (HS ys)).push (Dl (.ref s.heap.objs.size) 0 a es.size ep),drawn:=d'}) :
  wpAny (model prog w) A (y8 (.ref a)) Q E s:=by
 have hT:s.TypeIs (.ref a) "set":=⟨o,O,hx.1⟩;refine aa4 hT zN (rL zN hT XR ?_ (PySem.F.args_set_iter_1 _));unfold oN.«frozenset.__iter__»;refine nv (nZ ?_);unfold ab5;refine nv (nv (uK O hd hf (nZ ?_)));unfold setDrawn;refine nv (nv (t8 O hd hf (nv (Mx (nZ ?_)))));refine rG (λz=>?_) (λz=>?_)
 ·have z':(!w.params.followText "set-order" && (!t.plain && decide (es.size>1)))=true:=z;refine nv (SR es.size (og es.size) s (by simp) λys d' p=>?_);have ly:ys.length=es.size:=by rw[p.length_eq,oR]
  unfold newTuple;refine nv (qC ?_ (by simp only[sizeOk,ou,nh,ly];exact hz));have ab:=nP (HS ys) O;refine nv (aa6 (s:={ s with heap:=s.heap.push (HS ys),drawn:=d'}) ab hd hf ?_);unfold newFields;refine nv (qC (nZ ⟨_,J,"set_iterator",_,⟨_,oq _ rfl,J⟩,Ku.lookup,?_⟩));have aa:=h2 z' ys d' p;have e:(s.heap.push (HS ys)).objs.size=s.heap.objs.size+1:=qt ..;simp only[e];exact aa
 ·refine nv (nZ ?_);refine nv (aa6 O hd hf ?_);unfold newFields;refine nv (qC (nZ ⟨_,J,"set_iterator",_,⟨_,oq _ rfl,J⟩,Ku.lookup,?_⟩));have z':(!w.params.followText "set-order" && (!t.plain && decide (es.size > 1)))=false:=by
   have:¬(!w.params.followText "set-order" && (!t.plain && decide (es.size>1)))=true:=z
   rwa [abf]at this
  exact h1 z'
variable {tp:Addr}{Q:Option Value->nU->Prop}
def YE {ys:List Nat}{y:Nat}{e:Int×Value}(F:s.heap.get? I=some (Dl (.ref tp) i a n ep))(hT:s.heap.get? tp=some (HS ys))(O:s.heap.get? a=some o)(hd:o.data=.set es ep t)(hf:t.fits es.size=true)(hn:es.size=n)(hy:ys[i]?=some y)(he:es[y]?=some e)
  (hQ:∀h',h'.get? I=some (Dl (.ref tp) (i+1) a n ep)->p8 I s.heap h'->Q (some e.2) { s with heap:=h'}):wpAny (model prog w) A (uX (.ref I)) Q E s:=by
 refine MS F ?_;unfold oN.«set_iterator.__next__»;refine nv (nZ (nv (xI F rfl ?_)));show wpAny _ _ (zX a >>= _) _ _ s;refine nv (uK O hd hf ?_);rw[nS (by simp[hn])];show wpAny _ _ (aaP (.ref tp) >>= _) _ _ s;refine nv (sv hT rfl ?_);have e1:(ys.map λy:Nat=>rY (y:Int)).toArray[((i:Int)).toNat]?=some (rY (y:Int)):=by
  rw[pG,tf,nV,hy];rfl
 dsimp only;rw[e1];show wpAny _ _ (setNextDrawn a ((y:Int).toNat) ((ep:Int).toNat) >>= _) _ _ s;rw[pG,pG];unfold setNextDrawn;refine nv (nv (t8 O hd hf ?_));refine rG (λz=>absurd z (by simp)) (λ_=>?_);rw[he];refine nZ ?_;show wpAny _ _ (setField (.ref I) 1 (rY ((i:Int)+1)) >>= _) _ _ s;refine nv (tJ F rfl (by simp) (nZ ⟨e.2,J,hQ _ ?_ (qL ..)⟩));rw[Kw F 1 (rY ((i:Int)+1))];simp[rY]
def ZC {ys:List Nat}(hh:A.handled=none)(F:s.heap.get? I=some (Dl (.ref tp) i a n ep))(hT:s.heap.get? tp=some (HS ys))(ho:s.heap.get? a=some o)(hd:o.data=.set es ep t)(hf:t.fits es.size=true)(hn:es.size=n)(hy:ys[i]?=none)
  (hQ:∀h',uY I s.heap h'->Q none { s with heap:=h'}):wpAny (model prog w) A (uX (.ref I)) Q E s:=by
 refine MS F ?_;unfold oN.«set_iterator.__next__»;refine nv (nZ (nv (xI F rfl ?_)));show wpAny _ _ (zX a >>= _) _ _ s;refine nv (uK ho hd hf ?_);rw[nS (by simp[hn])];show wpAny _ _ (aaP (.ref tp) >>= _) _ _ s;refine nv (sv hT rfl ?_);have O:(ys.map λy:Nat=>rY (y:Int)).toArray[((i:Int)).toNat]?=none:=by
  rw[pG,tf,nV,hy];rfl
 dsimp only;rw[O];show wpAny _ _ (setField (.ref I) 0 (rY 0) >>= _) _ _ s;refine nv (tJ F rfl (by simp) ?_);have g1:=Kw F 0 (rY 0);show wpAny _ _ (setField (.ref I) 2 .none >>= _) _ _ _;refine nv (tJ g1 rfl (by simp) ?_);exact SY (A:=A.in1) (h:=s.heap) (I:=I) hh { s with heap:=(s.heap.update I (yg (·.setIfInBounds 0 (rY 0)))).update I (yg (·.setIfInBounds 2 su))} ((qL ..).trans (qL ..)).extBut (λob o' h' O e2 e3=>⟨ob,o',O,e2,J,hQ h' e3⟩)
def SI{Q:Value->nU->Prop}(O:s.heap.get? I=some (Dl first i a n ep))(h:Q (.ref I) s):wpAny (model prog w) A (y8 (.ref I)) Q E s:=by
 have F:s.TypeIs (.ref I) "set_iterator":=⟨_,O,J⟩;refine aa4 F RK (rL RK F XO ?_ (XT _));show wpAny _ _ (ret (.ref I)) _ _ s;exact nZ ⟨_,J,"set_iterator",_,F,Ku.lookup,h⟩
def S5 (hh:A.handled=none)(ab:a≠I)(hd:o.data=.set es ep t)(hf:t.fits es.size=true)(hn:es.size=n)(sl:Nat->Nat)(aa:Nat->Value)
  (hN:∀(s:nU),s.heap.get? a=some o->∀i,i<=n->∀(A':qf) (E':Value->nU->Prop) (O:Option (Value×Nat)->nU->Prop),O (if i<n then some (aa i,sl (i+1)) else none) s->wpAny (model prog w) A' (wM a (sl i) i ep) O E' s) :
  Walks prog w A I [I,a] [I] n (λi v=>v=aa i) (λi h=>h.get? I=some (Dl (.int (sl i) 0) i a n ep)/\h.get? a=some o) where
 sub:=λb F=>by simp at F;simp[F]
 frame:=λi h h' st hk=>⟨hk I (by simp) _ st.1,hk a (by simp) _ st.2⟩
 item:=λi s Q E hi st hQ=>by
  refine dA (v:=aa i) (nx:=sl (i+1)) st.1 st.2 hd hf hn (λA' E' O q=>hN s st.2 i (by lia) A' E' O (by rw[nX hi];exact q)) λh' e1 e2=>?_
  exact hQ _ h' s.toks rfl ⟨e1,by rw[e2.2 a ab];exact st.2⟩ λb ob F e=>by rw[e2.2 b (by simpa using F)];exact e
 done:=λs Q E st hQ=>by
  refine jP hh st.1 st.2 hd hf hn (λA' E' O q=>hN s st.2 n (nQ _) A' E' O (by rw[nS (sT _)];exact q)) λh' e1=>?_
  exact hQ h' s.toks λb ob F e=>e1 b ob (by simpa using F) e
 self:=λi s Q E st hQ=>SI st.1 hQ
def YB(hh:A.handled=none)(ab:a≠I)(aa:tp≠I)(hd:o.data=.set es ep t)(hf:t.fits es.size=true)(hn:es.size=n){ys:List Nat}(hp:ys.Perm (og n)):
  Walks prog w A I [I,a,tp] [I] n (λi v=>∃y e,ys[i]?=some y/\es[y]?=some e/\v=e.2) (λi h=>h.get? I=some (Dl (.ref tp) i a n ep)/\h.get? a=some o/\h.get? tp=some (HS ys)) where
 sub:=λb F=>by simp at F;simp[F]
 frame:=λi h h' st hk=>⟨hk I (by simp) _ st.1,hk a (by simp) _ st.2.1,hk tp (by simp) _ st.2.2⟩
 item:=λi s Q E hi st O=>by
  have ly:ys.length=n:=by rw[hp.length_eq,oR]
  have ey:ys[i]?=some ys[i]:=nj (by omega);have hy:ys[i]<es.size:=by rw[hn];exact o7.mp (hp.mem_iff.mp (pX _))
  have ee:es[ys[i]]?=some es[ys[i]]:=pH hy;refine YE st.1 st.2.2 st.2.1 hd hf hn ey ee λh' e1 e2=>?_
  exact O _ h' s.toks ⟨_,_,ey,ee,J⟩ ⟨e1,by rw[e2.2 a ab];exact st.2.1,by rw[e2.2 tp aa];exact st.2.2⟩ λb ob F e=>by rw[e2.2 b (by simpa using F)];exact e
 done:=λs Q E st O=>by
  have ly:ys.length=n:=by rw[hp.length_eq,oR]
  refine ZC hh st.1 st.2.2 st.2.1 hd hf hn (pZ (by omega)) λh' e1=>?_
  exact O h' s.toks λb ob F e=>e1 b ob (by simpa using F) e
 self:=λi s Q E st O=>SI st.1 O
open PySem.W
variable {S:Addr}
def gF {R:Result->nU->Prop}{Good:List Value->Prop}{res:Value}{c₀:Nat}(hT:s.TypeIs (.ref a) "set")(ah:S≠a)(hS:s.heap.get? S=some { cls:=.type "list",data:=.seq #[] c₀})(hn:n<=oK)
  (ai:∀E':Value->nU->Prop,wpAny (model prog w) A.in1 (y8 (.ref a)) (λit s1=>∃(I:Addr) (h1:Heap) (d1:Drawn) (fp:List Addr) (P:Nat->Value->Prop) (St:Nat->Heap->Prop),it=.ref I/\s1={ s with heap:=h1,drawn:=d1}/\Walks prog w A.in1 I fp [I] n P St/\S∉fp/\St 0 h1/\(∀b o,s.heap.get? b=some o->h1.get? b=some o)/\s.heap.get? I=none/\∀aa,ItemsOf P aa n->Good aa.toList) E' s)
  (hR:∀h' tk d' aa c,(∀b o,b≠S->s.heap.get? b=some o->h'.get? b=some o)->h'.get? S=some { cls:=.type "list",dict:=none,data:=.seq aa c,slots:=#[]}->Good aa.toList->R (.ok (.ret res)) { s with heap:=h',toks:=tk,drawn:=d'}) :
  wpAny (model prog w) A.in1 (vo (.ref S) (.ref a) res) (λag s'=>match ag with | .done f=>R (.ok f) s' | .again c'=>c'.quiet=true/\vZ (model prog w) A c' R s') (λe s'=>R (.error e) s') s:=by
 unfold vo;refine nv (vR (T:="set") hT ?_);have r1:yJ (.ref S) (.ref a)=false:=by simp[yJ,ah]
 have r2:(vx "set" == vx "list")=false:=by decide
 have r3:(vx "set" == vx "tuple")=false:=by decide
 simp only[r1,r2,r3,Bool.or_false,Bool.false_eq_true,if_false];refine nv (qG (ai _) (λit s1 x=>?_) λ_ _ z=>z);obtain⟨I,h1,d1,fp,P,St,rfl,rfl,W,ad,st,k1,nI,ap⟩:=x;have S1:=k1 _ _ hS;have ac:∀(h:Heap) (c₁ tk:Nat),St 0 h->(∀b o,b≠S->s.heap.get? b=some o->h.get? b=some o)->h.get? S=some { cls:=.type "list",data:=.seq #[] c₁}->vZ (model prog w) A (.builtin "list.extend.loop" ⟨[.ref S,.ref I,res],[]⟩) R { s with heap:=h,toks:=tk,drawn:=d1}:=λh c₁ tk al hk ak=>by
  refine codeAny_extend_loopS W.toS hn S ad res n 0 _ #[] c₁ rfl (pD _) al ak (ItemsOf.nil _) λs' ao c' hm am ae=>?_
  have es:=Moved.eq_with hm;rw[es];refine hR s'.heap s'.toks d1 ao c' (λb o O e=>hm.heap b o (λaj=>?_) (hk b o O e)) am (ap _ ae);rcases oj.mp aj with z|z
  ·exact O z
  ·rw[oz.mp z,nI]at e;cases e
 have af:ab3 { s with heap:=h1,drawn:=d1} (.ref a) "set":=by
  obtain⟨oT,e1,e2⟩:=hT;exact⟨oT,k1 _ _ e1,e2⟩
 refine nv (sV (Zg af ?_));refine rG (λ_=>?_) (λ_=>nZ ⟨wC yD _,ac _ c₀ _ st (λb o _ e=>k1 b o e) S1⟩);refine nv (vz (nv ?_));show wpAny _ _ (updateSeq S (·.push .none) >>= λ_=>updateSeq S (·.pop)) _ _ _;refine nv (wpAny_updateSeq S1 rfl ?_);have S2:=rZ (vV (·.push su)) S1 rfl;refine wpAny_updateSeq (hz:=by seq_fits) S2 rfl ?_;have S3:=rZ (vV (·.pop)) S2 rfl;refine nZ ⟨wC yD _,ac _ _ _ ?_ (λb o O e=>?_) S3⟩
 ·refine W.frame 0 _ _ st λb O o e=>?_
  have ab:b≠S:=λz=>ad (z ▸ O)
  rw[rN _ _ (qu ab),rN _ _ (qu ab)];exact e
 ·rw[rN _ _ (qu O),rN _ _ (qu O)];exact k1 b o e
def UH:∀{l:List (Int×Value)},EI prog w l->tV (l.map (·.2)) (l.map IZ)
 |[],_=>.nil
 |e :: l,h=>by
  obtain⟨k,t,rfl⟩:=h e (by simp);exact .cons k t (UH λx F=>h x (by simp[F]))
def Ll(ks:List Int)(vs:List Value):Prop:=∃F,tV vs F/\F.Perm ks
def Pp{l m:List (Int×Value)}(h:EI prog w l)(p:m.Perm l)(q:(l.map IZ).Perm ks):Ll ks (m.map (·.2)):=⟨m.map IZ,UH (h.By p),(p.map IZ).trans q⟩
def Ob(h:ItemsOf P acc vs.length)(F:∀i v,i<vs.length->P i v->vs[i]?=some v):acc.toList=vs:=by
 refine yq λi=>?_
 rcases oM i vs.length with z|z
 ·have hi:i<acc.size:=by rw[h.1];exact z
  rw[vd,pH hi];exact(F i _ z (h.2 i _ (pH hi))).symm
 ·rw[pZ z,pZ (by rw[qj,h.1];exact z)]
def ZT(hh:A.handled=none)(x:Cq prog w (Es w) s.heap a ks)(af:S<s.heap.objs.size)(ag:S≠a):
  wpAny (model prog w) A (y8 (.ref a)) (λit s1=>∃(I:Addr) (h1:Heap) (d1:Drawn) (fp:List Addr) (P:Nat->Value->Prop) (St:Nat->Heap->Prop),it=.ref I/\s1={ s with heap:=h1,drawn:=d1}/\Walks prog w A I fp [I] ks.length P St/\S∉fp/\St 0 h1/\(∀b o,s.heap.get? b=some o->h1.get? b=some o)/\s.heap.get? I=none/\∀aa,ItemsOf P aa ks.length->Ll ks aa.toList) E s:=by
 obtain⟨o,es,ep,t,ho,aj,hd,ad,hp,hb,hf,ti⟩:=x;have F:es.size=ks.length:=by rw[<-Array.length_toList,<-hp.length_eq,nh]
 have la:=ow ho;refine Z8 ho aj hd hf (yz hb) (λz=>?_) (λz ys d' yp=>?_)
 ·have aI:a≠s.heap.objs.size:=o8 la;have ac:S∉[s.heap.objs.size,a]:=by simp only[oj,pB,qK,not_or];exact⟨o8 af,ag⟩
  have gI:(s.heap.push (Dl (.int 0 0) 0 a es.size ep)).get? s.heap.objs.size=some (Dl (.int 0 0) 0 a es.size ep):=oq _ rfl;have ga:=nP (Dl (.int 0 0) 0 a es.size ep) ho;cases ab:w.params.followText "set-order" with
  |true =>
   have pp:=Yt (w.params.setOrder a ep) es;have ps:(tS (w.params.setOrder a ep) es).size=es.size:=by rw[<-Array.length_toList,pp.length_eq,qj]
   refine⟨_,_,s.drawn,_,_,_,J,J,S5 hh aI hd hf F (λ_=>0) (λi=>((tS (w.params.setOrder a ep) es).getD i (0,.none)).2) (λs' ae i hi A' E' Q' q=>Yc ab ae hd hf ?_),ac,⟨by rw[<-F];exact gI,ga⟩,λb ob e=>nP _ e,vp (nQ _),λaa ha=>?_⟩
   ·rcases oM i ks.length with y|y
    ·rw[nX y]at q;have e1:(tS (w.params.setOrder a ep) es)[i]?=some ((tS (w.params.setOrder a ep) es).getD i (0,.none)):=by rw[qg,pH (by lia)];rfl
     rw[e1];exact q
    ·rw[nS (by lia)]at q;rw[wt (by lia)];exact q
   ·have O:((tS (w.params.setOrder a ep) es).toList.map (·.2)).length=ks.length:=by rw[nh,qj,ps,F]
    rw[Ob (vs:=(tS (w.params.setOrder a ep) es).toList.map (·.2)) (by rw[O];exact ha) (λi v hi e=>by
     rw[O]at hi;rw[e,nV,vd,qg,pH (by lia)];rfl)]
    exact Pp ad pp hp
  |false =>
   rw[ab]at z;have z':(!t.plain && decide (es.size>1))=false:=by simpa using z
   have ai:D7 true t:=⟨by rw[ti.led];show(!w.params.followText "set-order")=true;rw[ab];rfl,ti.Q9,ti.Q6⟩;refine⟨_,_,s.drawn,_,_,_,J,J,S5 hh aI hd hf F (EZ t) (λi=>(es.getD i (0,.none)).2) (λs' ae i hi A' E' Q' q=>Z6 ab ae hd hf ai z' (by lia) (by rw[F];exact q)),ac,⟨by rw[<-F];exact gI,ga⟩,λb ob e=>nP _ e,vp (nQ _),λaa ha=>?_⟩;have O:(es.toList.map (·.2)).length=ks.length:=by rw[nh,qj,F]
   rw[Ob (vs:=es.toList.map (·.2)) (by rw[O];exact ha) (λi v hi e=>by
    rw[O]at hi;rw[e,nV,vd,qg,pH (by lia)];rfl)]
   exact Pp ad (xy _) hp
 ·have e1:(s.heap.push (HS ys)).objs.size=s.heap.objs.size+1:=qt ..;have aI:a≠s.heap.objs.size+1:=o8 (tZ la);have tI:s.heap.objs.size≠s.heap.objs.size+1:=o8 (uE _);have ac:S∉[s.heap.objs.size+1,a,s.heap.objs.size]:=by simp only[oj,pB,qK,not_or];exact⟨o8 (tZ af),ag,o8 af⟩
  have ah:ys.Perm (og ks.length):=by rw[<-F];exact yp
  have gI:((s.heap.push (HS ys)).push (Dl (.ref s.heap.objs.size) 0 a es.size ep)).get? (s.heap.objs.size+1)=some (Dl (.ref s.heap.objs.size) 0 a es.size ep):=by rw[<-e1];exact oq _ rfl
  refine⟨_,_,d',_,_,_,J,J,YB (tp:=s.heap.objs.size) hh aI tI hd hf F ah,ac,⟨by rw[<-F];exact gI,nP _ (nP _ ho),nP _ (oq _ rfl)⟩,λb ob e=>nP _ (nP _ e),vp (Nat.le_succ _),λaa ha=>?_⟩;have ly:ys.length=ks.length:=by rw[ah.length_eq,oR]
  have pm:(ys.filterMap λy=>es[y]?).Perm es.toList:=(yp.filterMap _).trans (by rw[filterMap_getElem?_range]);have em:∀l:List Nat,(∀y∈l,y<es.size)->l.filterMap (λy=>es[y]?)=l.map λy=>es.getD y (0,.none):=by
   intro l
   induction l with
   |nil=>intro _;rfl
   |cons y l ih =>
    intro hl;have e0:es[y]?=some (es.getD y (0,.none)):=by rw[qg,pH (hl y (by simp))];rfl
    rw[uI,e0,n9];exact congrArg _ (ih λx hx=>hl x (by simp[hx]))
  rw[em ys λy hy=>o7.mp (yp.mem_iff.mp hy)]at pm;have O:((ys.map λy=>es.getD y (0,.none)).map (·.2)).length=ks.length:=by rw[nh,nh,ly]
  rw[Ob (vs:=(ys.map λy=>es.getD y (0,.none)).map (·.2)) (by rw[O];exact ha) (λi v hi e=>by
   obtain⟨y,q,e1,e2,rfl⟩:=e;rw[nV,nV,e1];show some (es.getD y (0,.none)).2=_;rw[qg,e2];rfl)]
  exact Pp ad pm hp
end
end L2
namespace L2
open PySem PySem.Spec PyProof.Rows PySem.W
section
variable {prog:o6}{w:World}{A:qf}{E:Value->nU->Prop}{s:nU}{a:Addr}
def Cq.keep(x:Cq prog w b h a ks)(k:∀o,h.get? a=some o->h'.get? a=some o):Cq prog w b h' a ks:=by
 obtain⟨o,es,ep,t,F,rest⟩:=x;exact⟨o,es,ep,t,k o F,rest⟩
def Cq.type(x:Cq prog w b s.heap a ks):s.TypeIs (.ref a) "set":=by
 obtain⟨o,es,ep,t,O,F,_⟩:=x;exact⟨o,O,F.1⟩
def Xs {R:List Value->nU->Prop}{ks:List Int}(hh:A.handled=none)(x:Cq prog w (Es w) s.heap a ks)(hn:ks.length<=oK)
  (h:∀(h':Heap) (tk:Nat) (d':Drawn) (vs:List Value),(∀b o,s.heap.get? b=some o->h'.get? b=some o)->s.heap.objs.size<h'.objs.size->Ll ks vs->R vs { s with heap:=h',toks:=tk,drawn:=d'}):wpAny (model prog w) A (collect (.ref a)) R E s:=by
 have la:a<s.heap.objs.size:=by
  obtain⟨o,_,_,_,ho,_⟩:=x;exact ow ho
 unfold collect;refine nv (wpAny_runValue (uW entry_proto_collect' ?_));rw[ub PySem.F.plain_proto_collect _];show wpAny _ A.in1 (newList [] >>= λl=>again (.builtin "list.__iadd__" ⟨[l,.ref a],[]⟩)) _ _ s;refine nv (qC (nZ ⟨wC zh _,uW entry_list_iadd' ?_⟩));rw[ub zh _];have gS:(s.heap.push { cls:=.type "list",data:=.seq ([]:List Value).toArray}).get? s.heap.objs.size=some { cls:=.type "list",data:=.seq #[]}:=oq _ rfl;show wpAny _ A.in1 (vo (.ref s.heap.objs.size) (.ref a) (.ref s.heap.objs.size)) _ _ _;have x1:Cq prog w (Es w) (s.heap.push { cls:=.type "list",data:=.seq ([]:List Value).toArray}) a ks:=x.keep λo e=>nP _ e
 have ls:s.heap.objs.size<(s.heap.push { cls:=.type "list",data:=.seq ([]:List Value).toArray}).objs.size:=by rw[qt];exact uE _
 have go:=gF (A:=A) (s:={ s with heap:=s.heap.push { cls:=.type "list",data:=.seq ([]:List Value).toArray}}) (a:=a) (S:=s.heap.objs.size) (n:=ks.length) (Good:=Ll ks) (res:=.ref s.heap.objs.size) (c₀:=0)
  (R:=λ(q:Result) (s':nU)=>∃(h':Heap) (tk:Nat) (d':Drawn) (O:Array Value) (c:Nat),q=.ok (.ret (.ref s.heap.objs.size))/\s'={ s with heap:=h',toks:=tk,drawn:=d'}/\(∀b o,s.heap.get? b=some o->h'.get? b=some o)/\h'.get? s.heap.objs.size=some { cls:=.type "list",dict:=none,data:=.seq O c,slots:=#[]}/\Ll ks O.toList)
  (Cq.type (s:={ s with heap:=s.heap.push { cls:=.type "list",data:=.seq ([]:List Value).toArray}}) x1) (r8 la) gS hn (λE'=>ZT (A:=A.in1) (s:={ s with heap:=s.heap.push { cls:=.type "list",data:=.seq ([]:List Value).toArray}}) hh x1 ls (r8 la))
  (λh' tk d' O c k1 k2 k3=>⟨h',tk,d',O,c,J,J,λb o e=>k1 b o (o8 (ow e)) (nP _ e),k2,k3⟩)
 refine qG go (λaa s' y=>?_) λe s' y=>?_
 ·cases aa with
  |done f =>
   obtain⟨h',tk,d',O,c,e,rfl,k1,k2,k3⟩:=y;cases e;show wpAny _ A (load s.heap.objs.size >>= _) _ _ _;exact nv (abM k2 (nZ (h h' tk d' O.toList k1 (ow k2) k3)))
  |again c₁ =>
   refine⟨y.1,vP y.2 λq s₂ y=>?_⟩;obtain⟨h',tk,d',O,c,rfl,rfl,k1,k2,k3⟩:=y;show wpAny _ A (load s.heap.objs.size >>= _) _ _ _;exact nv (abM k2 (nZ (h h' tk d' O.toList k1 (ow k2) k3)))
 ·obtain⟨_,_,_,_,_,e',_⟩:=y;cases e'
def YH {ks:List Int}{Q:Value->nU->Prop}(hh:A.handled=none)(x:Cq prog w (Es w) s.heap a ks)(aa:ks.length<64)
  (h:∀(D:Addr) (h':Heap) (tk:Nat) (d':Drawn) (out:Array Value) (e:Nat) (F:List Int),(∀b o,s.heap.get? b=some o->h'.get? b=some o)->s.heap.objs.size<=D->h'.get? D=some (seqObj "list" out e)->tV out.toList F->F.Perm ks->F.Pairwise (·<=·)->Q (.ref D) { s with heap:=h',toks:=tk,drawn:=d'}) :
  wpAny (model prog w) A (call (.builtin "sorted") [.ref a]) Q E s:=by
 refine Calls.call_function_entry kind_sorted plain_sorted entry_sorted (args_sorted1 _) ?_;unfold oN.«sorted»;refine nv (m:=checkCount "sorted" 1 1 _) (nZ (nv (Xs (A:=A.in1) hh x (by rw[sQ];lia) λh1 tk d1 vs k1 lh gd=>?_)));obtain⟨ns,hI,hP⟩:=gd;have lv:vs.length<64:=by rw[hI.length,hP.length_eq];exact aa
 refine nv (wpAny_newList ?_ (by rw[sQ];lia));have hL:(h1.push (seqObj "list" vs.toArray 0)).get? h1.objs.size=some (seqObj "list" vs.toArray 0):=oq _ rfl;refine nv (sV (rL slot_list_sort ⟨_,hL,J⟩ entry_list_sort (list_sort_tree hL hI lv λout ab a1 a2 a3=>⟨_,J,nZ ⟨_,J,?_⟩⟩) (args_list_sort _)));obtain⟨e,he⟩:=sortedHeap_at (out:=out) hL;refine h _ _ _ d1 out e ab (λb o eb=>?_) (wZ lh) he a1 (a2.trans hP) a3;have O:=k1 b o eb;rw[sortedHeap_old (o8 (ow O)) (by rw[qt];exact tZ (ow O))];exact nP _ O
end
section
variable {X:Cx}
def Yg(I:AK X gt σ H s)(d:Drawn):AK X gt σ H { s with drawn:=d}:=⟨I.ok,I.os,I.DT,I.base,I.Dx,I.cell,I.free,I.Fe,I.DY,I.Aj,I.len⟩
def Kc(P:o6)(w:World)(a:Addr)(ks:List Int):HO:=.ext λh=>Cq P w (Es w) h a ks
def bO(x:Cq P w (Es w) h a ks):Bh P w H h a (Kc P w a ks) :=
 ⟨x,let ⟨o,_,_,_,ho,_⟩:=x;⟨o,ho⟩,λ_ _ y k=>y.keep λo e=>k o e⟩
def Y1(hc:X.Cd=true):CQ X (.type "set") (λxs H Q=>∃(p:Addr) (ns:List Int),xs=[.ref p]/\AI X.K H p (ns.map V.int)/\ns.length<=1000/\∀a,H a=none->Q (.ref a) (AF H a (Kc X.prog X.w a (DA ns)))):=by
 intro gt s σ H xs us Q I r h;obtain⟨p,ns,rfl,hp,hl,q⟩:=h;obtain⟨u,rfl,r1⟩:=El r;cases r1;obtain⟨O,F,pl,_⟩:=I.list hp;have aa:O.length=ns.length:=by rw[<-F.length,nh]
 refine Yn (I.ok.hd hc) pl.isList (ns:=ns) (by simpa using Ri F) (by rw[ou,aa];unfold wL;lia) λh' tk x k=>?_
 have hn:H s.heap.objs.size=none:=I.Aj.fresh (nQ _);exact⟨.ref s.heap.objs.size,_,I.laid (t':=tk) (λb u e=>k b u e) (nQ _) (bO x),J,q _ hn⟩
def YA(hc:X.Cd=true):CQ X (.builtin "sorted") (λxs H Q=>∃(a:Addr) (ks:List Int),xs=[.ref a]/\H a=some (Kc X.prog X.w a ks)/\ks.length<64/\∀(l:Addr) (F:List Int),H l=none->F.Perm ks->F.Pairwise (·<=·)->Q (.ref l) (AF H l (.AE (F.map V.int)))):=by
 intro gt s σ H xs us Q I r h;obtain⟨a,ks,rfl,ha,aa,q⟩:=h;obtain⟨u,rfl,r1⟩:=El r;cases r1;have x:Cq X.prog X.w (Es X.w) s.heap a ks:=(I.Aj a _ ha).1;refine YH (I.ok.hd hc) x aa λD h' tk d' out e F k hD he a1 O a3=>?_
 have hz:(F.map V.int).length<=oK:=by rw[nh,O.length_eq,sQ];lia
 have hn:H D=none:=I.Aj.fresh hD;exact⟨.ref D,_,Yg (I.laid (t':=tk) (λb u e=>k b u e) hD (show Bh X.prog X.w _ _ _ (.AE (F.map V.int)) from ⟨hz,out.toList,e,bN a1,he⟩)) d',J,q _ F hn O a3⟩
end
end L2
namespace Mth
def S7(a b:Int):pU b (a.fmod b)=pU a b:=by
 rw[Int.fmod_def];have e:a-b*a.fdiv b=a+b*(-(a.fdiv b)):=by rw[Int.mul_neg,Int.sub_eq_add_neg]
 rw[e,Int.gcd_add_mul_left_right,Int.gcd_comm]
def ff(a b:Int)(h:b≠0):(a.fmod b).natAbs<b.natAbs:=by
 rw[Int.fmod_eq_emod];have h1:=qx a h;have h2:=Int.emod_lt a h;split
 ·lia
 ·rename_i z
  have:¬b ∣ a:=λq=>z (aaD q)
  have hz:a%b≠0:=λq=>this (Int.dvd_of_emod_eq_zero q)
  lia
def BJ(t b:Int):Int:=if b<0 then -(pU t b:Int) else (pU t b:Int)
def BV(t b:Int):Int×Int:=(t.fdiv (BJ t b),b.fdiv (BJ t b))
def PB(t b:Int)(h:b≠0):0<pU t b:=Int.gcd_pos_of_ne_zero_right _ h
def LN(t b:Int)(h:b≠0):BJ t b≠0:=by
 have:=PB t b h
 unfold BJ;split<;>lia
def RQ(t b:Int):BJ t b ∣ t:=by
 unfold BJ;split
 ·exact Int.neg_dvd.mpr (uB t b)
 ·exact uB t b
def Rf(t b:Int):BJ t b ∣ b:=by
 unfold BJ;split
 ·exact Int.neg_dvd.mpr (va t b)
 ·exact va t b
def NY(t b:Int):(BV t b).1*BJ t b=t:=by
 show t.fdiv (BJ t b)*BJ t b=t;rw[qd (RQ t b),aai (RQ t b)]
def LW(t b:Int):(BV t b).2*BJ t b=b:=by
 show b.fdiv (BJ t b)*BJ t b=b;rw[qd (Rf t b),aai (Rf t b)]
def Sg(t b:Int)(h:b≠0):0<(BV t b).2:=by
 have e:=LW t b;have g:=PB t b h;rcases Int.lt_or_lt_of_ne h with h1|h1
 ·have F:BJ t b<0:=by unfold BJ;rw[nX h1];lia
  rcases ve 0 (BV t b).2 with q|q
  ·exact q
  ·have:0<=(BV t b).2*BJ t b:=Int.mul_nonneg_of_nonpos_of_nonpos q (aaq F)
   lia
 ·have F:0<BJ t b:=by unfold BJ;rw[nS (by lia)];lia
  rcases ve 0 (BV t b).2 with q|q
  ·exact q
  ·have:(BV t b).2*BJ t b<=0:=v9 q (aaq F)
   lia
def RU(t b:Int):(BV t b).1*b=t*(BV t b).2:=by
 have O:=NY t b;have F:=LW t b;generalize (BV t b).1=n at *;generalize (BV t b).2=d at *;generalize BJ t b=p at *;subst O;subst F;rw[Int.mul_comm d p,abW]
def ZV(t b:Int)(h:b≠0):pU (BV t b).1 (BV t b).2=1:=by
 have e1:=NY t b;have F:=LW t b;have g:=PB t b h;have O:(BJ t b).natAbs=pU t b:=by unfold BJ;split<;>lia
 have k:pU ((BV t b).1*BJ t b) ((BV t b).2*BJ t b)=pU (BV t b).1 (BV t b).2*(BJ t b).natAbs:=Int.gcd_mul_right _ _ _;rw[e1,F,O]at k
 have:1*pU t b=pU (BV t b).1 (BV t b).2*pU t b:=by rw[uZ];exact k
 exact(Nat.eq_of_mul_eq_mul_right g this).symm
def Tc(t b:Int)(h:b≠0):(BJ t b).natAbs<=b.natAbs:=by
 have e:(BJ t b).natAbs=pU t b:=by unfold BJ;split<;>lia
 rw[e];exact vC (zI.mpr h) (by
  have:=va t b
  exact xQ.mp this)
def SO(t b:Int)(h:b≠0):(BV t b).1.natAbs<=t.natAbs:=by
 have e:=congrArg abx (NY t b);rw[pA]at e
 have:1<=(BJ t b).natAbs:=zI.mpr (LN t b h)
 calc (BV t b).1.natAbs=(BV t b).1.natAbs*1:=(aa8 _).symm
  _<=(BV t b).1.natAbs*(BJ t b).natAbs:=rA _ this
  _=t.natAbs:=e
def Ry(t b:Int)(h:b≠0):(BV t b).2.natAbs<=b.natAbs:=by
 have e:=congrArg abx (LW t b);rw[pA]at e
 have:1<=(BJ t b).natAbs:=zI.mpr (LN t b h)
 calc (BV t b).2.natAbs=(BV t b).2.natAbs*1:=(aa8 _).symm
  _<=(BV t b).2.natAbs*(BJ t b).natAbs:=rA _ this
  _=b.natAbs:=e
end Mth
namespace Wd
variable {p:Int}{B0 m:Nat}{B x:Rat}
abbrev Am:=Nat->Rat
abbrev BA:=List Bool->Rat
def sh(v:Am):Am:=λj=>v (j+1)
def BE(w:BA):BA:=λT=>w (false :: T)
def As(w:BA):BA:=λT=>w (true :: T)
def wg:Am->BA->BA
 |_,_,[]=>0
 |v,w,false :: S=>wg (sh v) (BE w) S
 |v,w,true :: S=>v 0*w (false :: S)-wg (sh v) (As w) S
def Ae:BA
 |[]=>1
 |false :: S=>Ae S
 |true :: _=>0
def K8(S:List Bool):∀(u v:Am) (w:BA),wg (λj=>u j+v j) w S=wg u w S+wg v w S:=by
 induction S with
 |nil=>intro u v w;simp only[wg];grind
 |cons b S ih =>
  intro u v w;have h:=ih (sh u) (sh v);have e:sh (λj=>u j+v j)=λj=>sh u j+sh v j:=rfl
  cases b
  ·simp only[wg,e,h]
  ·simp only[wg,e,h];grind
def Hs(S:List Bool):∀(c:Rat) (v:Am) (w:BA),wg (λj=>c*v j) w S=c*wg v w S:=by
 induction S with
 |nil=>intro c v w;simp[wg]
 |cons b S ih =>
  intro c v w;have h:=ih c (sh v);have e:sh (λj=>c*v j)=λj=>c*sh v j:=rfl
  cases b
  ·simp only[wg,e,h]
  ·simp only[wg,e,h];grind
def LS(S:List Bool):∀(v:Am) (w x:BA),wg v (λT=>w T+x T) S=wg v w S+wg v x S:=by
 induction S with
 |nil=>intro v w x;simp only[wg];grind
 |cons b S ih =>
  intro v w x;have F:BE (λT=>w T+x T)=λT=>BE w T+BE x T:=rfl
  have O:As (λT=>w T+x T)=λT=>As w T+As x T:=rfl
  cases b
  ·simp only[wg,F,ih]
  ·simp only[wg,O,ih];grind
def FZ(S:List Bool):∀(c:Rat) (v:Am) (w:BA),wg v (λT=>c*w T) S=c*wg v w S:=by
 induction S with
 |nil=>intro c v w;simp[wg]
 |cons b S ih =>
  intro c v w;have F:BE (λT=>c*w T)=λT=>c*BE w T:=rfl
  have O:As (λT=>c*w T)=λT=>c*As w T:=rfl
  cases b
  ·simp only[wg,F,ih]
  ·simp only[wg,O,ih];grind
def jL(S:List Bool)(v:Am)(w x:BA):wg v (λT=>w T-x T) S=wg v w S-wg v x S:=by
 have e:(λT=>w T-x T)=λT=>w T+(λT=>(-1)*x T) T:=by funext T;grind
 rw[e,LS,FZ];grind
def KS(S:List Bool):∀(v:Am) (w:BA),wg v (wg v w) S=0:=by
 induction S with
 |nil=>intro v w;simp[wg]
 |cons b S ih =>
  intro v w;cases b
  ·have F:BE (wg v w)=wg (sh v) (BE w):=rfl;simp only[wg,F,ih]
  ·have O:As (wg v w)=λT=>v 0*BE w T-wg (sh v) (As w) T:=rfl
   have e2:(λT=>v 0*BE w T)=λT=>v 0*BE w T:=rfl
   simp only[wg,O];rw[jL (x:=wg (sh v) (As w)) (w:=λT=>v 0*BE w T),FZ,ih];grind
def LK(u v:Am)(w:BA)(S:List Bool):wg u (wg v w) S=- wg v (wg u w) S:=by
 have h:=KS S (λj=>u j+v j) w;have e:wg (λj=>u j+v j) w=λT=>wg u w T+wg v w T:=by funext T;exact K8 T u v w
 rw[K8,e,LS,LS,KS,KS]at h
 grind
def NB(S:List Bool)(v:Am):wg v (λ_=>0) S=0:=by
 have h:=FZ S 0 v (λ_=>0);have e:(λT:List Bool=>(0:Rat)*(λ_=>(0:Rat)) T)=λ_=>0:=by funext T;grind
 rw[e]at h;grind
def Aa:List Am->BA->BA
 |[],w=>w
 |v :: L,w=>Aa L (wg v w)
def Gu(L M:List Am)(w:BA):Aa (L++M) w=Aa M (Aa L w):=by
 induction L generalizing w with
 |nil=>rfl
 |cons v L ih=>simp[Aa,ih]
def IA(L:List Am):∀(c:Rat) (w:BA),Aa L (λT=>c*w T)=λT=>c*Aa L w T:=by
 induction L with
 |nil=>intro c w;rfl
 |cons v L ih =>
  intro c w;have e:wg v (λT=>c*w T)=λT=>c*wg v w T:=by funext T;exact FZ T c v w
  simp only[Aa];rw[e,ih]
def eV(L:List Am):∀(w x:BA),Aa L (λT=>w T+x T)=λT=>Aa L w T+Aa L x T:=by
 induction L with
 |nil=>intro w x;rfl
 |cons v L ih =>
  intro w x;have e:wg v (λT=>w T+x T)=λT=>wg v w T+wg v x T:=by funext T;exact LS T v w x
  simp only[Aa];rw[e,ih]
def aS(L:List Am):Aa L (λ_=>0)=λ_=>0:=by
 induction L with
 |nil=>rfl
 |cons v L ih =>
  have e:wg v (λ_=>0)=λ_=>0:=by funext T;exact NB T v
  simp only[Aa];rw[e,ih]
def sg(n:Nat):Rat:=if n%2=0 then 1 else -1
def PQ(n:Nat):sg (n+1)=- sg n:=by unfold sg;split<;>split<;>first|lia|grind
def JH(n:Nat):sg n*sg n=1:=by unfold sg;split<;>grind
def VW(L:List Am):∀(v:Am) (w:BA) (S:List Bool),Aa L (wg v w) S=sg L.length*wg v (Aa L w) S:=by
 induction L with
 |nil=>intro v w S;simp[Aa,sg]
 |cons u L ih =>
  intro v w S;simp only[Aa,oP];have e:wg u (wg v w)=λT=>(-1)*wg v (wg u w) T:=by funext T;rw[LK];grind
  rw[e,IA];simp only[];rw[ih,PQ];grind
def Of(P Q R:List Am)(v:Am)(w:BA)(S:List Bool):Aa (P++v :: Q++v :: R) w S=0:=by
 have e:P++v :: Q++v :: R=P++(v :: (Q++(v :: R))):=by simp
 rw[e,Gu];generalize Aa P w=x;simp only[Aa];rw[Gu];simp only[Aa];have h:wg v (Aa Q (wg v x))=λ_=>0:=by
  funext T
  have h2:Aa Q (wg v x)=λT=>sg Q.length*wg v (Aa Q x) T:=by funext T;exact VW Q v x T
  rw[h2,FZ,KS];grind
 rw[h,aS]
def OQ(P Q:List Am)(u v:Am)(w:BA)(S:List Bool):
  Aa (P++(λj=>u j+v j) :: Q) w S=Aa (P++u :: Q) w S+Aa (P++v :: Q) w S:=by
 rw[Gu,Gu,Gu];simp only[Aa];have e:wg (λj=>u j+v j) (Aa P w)=λT=>wg u (Aa P w) T+wg v (Aa P w) T:=by funext T;exact K8 T u v _
 rw[e,eV]
def Xm(P Q:List Am)(c:Rat)(v:Am)(w:BA)(S:List Bool):
  Aa (P++(λj=>c*v j) :: Q) w S=c*Aa (P++v :: Q) w S:=by
 rw[Gu,Gu];simp only[Aa];have e:wg (λj=>c*v j) (Aa P w)=λT=>c*wg v (Aa P w) T:=by funext T;exact Hs T c v _
 rw[e,IA]
def ZW(P Q R:List Am)(u v:Am)(w:BA)(S:List Bool):
  Aa (P++u :: Q++v :: R) w S=- Aa (P++v :: Q++u :: R) w S:=by
 have h:=Of P Q R (λj=>u j+v j) w S;have F:∀x y:Am,P++x :: Q++y :: R=P++x :: (Q++y :: R):=by intro x y;simp
 have h1:Aa (P++(λj=>u j+v j) :: Q++(λj=>u j+v j) :: R) w S
   = Aa (P++u :: Q++(λj=>u j+v j) :: R) w S+Aa (P++v :: Q++(λj=>u j+v j) :: R) w S:=by
  rw[F,OQ,<-F,<-F]
 rw[h1,OQ,OQ,Of,Of]at h
 grind
def DO(c:Nat)(v:Am):Am:=λj=>v (j+c)
def pre(c:Nat)(w:BA):BA:=λT=>w (nY c true++T)
def P2(c:Nat):∀(v:Am) (w:BA) (S:List Bool),(∀j,j<c->v j=0) →
  wg v w (nY c true++S)=sg c*wg (DO c v) (pre c w) S:=by
 induction c with
 |zero=>intro v w S _;simp[sg];rfl
 |succ c ih =>
  intro v w S h;have O:=h 0 (by lia)
  have:=ih (sh v) (As w) S (λj hj=>h (j+1) (by lia))
  simp only[pE,sX,wg];rw[this,O,PQ];have e1:DO c (sh v)=DO (c+1) v:=by funext j;simp only[DO,sh];congr 1
  have F:pre c (As w)=pre (c+1) w:=by funext T;simp[pre,As,pE]
  rw[e1,F];grind
def bY(S:List Bool):∀(v:Am) (w:BA),(∀b∈S,b=false)->wg v w S=0:=by
 induction S with
 |nil=>intro v w _;rfl
 |cons b S ih =>
  intro v w h
  have:=h b (by simp)
  subst this;exact ih _ _ (λb F=>h b (by simp[F]))
def iM(d e:Nat):∀(v:Am) (w:BA),
  wg v w (nY d false++true :: nY e false)=v d*w (nY (d+1+e) false):=by
 induction d with
 |zero =>
  intro v w;simp only[aam,wW,wg];rw[bY _ _ _ (λb F=>(aax.mp F).2)]
  have:(0+1+e)=e+1:=by lia
  rw[this,pE];grind
 |succ d ih =>
  intro v w
  have:=ih (sh v) (BE w)
  simp only[pE,sX,wg];rw[this]
  have:d+1+1+e=(d+1+e)+1:=by lia
  rw[this,pE];rfl
def Tk(c m:Nat):List Bool:=nY c true++nY (m-c) false
def Sj(c j m:Nat):List Bool:=nY c true++(nY (j-c) false++true :: nY (m-1-j) false)
def QU(w:BA)(hz:∀i,i<c->v i=0)(h1:c<=j)(h2:j<m):
  wg v w (Sj c j m)=sg c*(v j*w (Tk c m)):=by
 unfold Sj;rw[P2 c v w _ hz,iM];have e:j-c+1+(m-1-j)=m-c:=by lia
 simp only[DO,pre,e,Tk]
 have:j-c+c=j:=by lia
 rw[this]
def dF(h:c<m):Sj c c m=Tk (c+1) m:=by
 unfold Sj Tk;have e:m-1-c=m-(c+1):=by lia
 rw[tP,aam,wW,e,uj,p7];rfl
def CF:Nat->Rat
 |0=>1
 |c+1=>CF c*sg c
def KC(c:Nat):CF c*CF c=1:=by
 induction c with
 |zero=>simp[CF]
 |succ c ih=>simp only[CF];have:=JH c;grind
def ld(c m:Nat)(w:BA):Rat:=CF c*w (Tk c m)
def jv(w:BA)(hz:∀i,i<c->v i=0)(h:c<m):ld (c+1) m (wg v w)=v c*ld c m w:=by
 have:=QU (v:=v) w hz (nQ c) h
 rw[dF h]at this;unfold ld;rw[this];simp only[CF];have:=JH c;grind
def BM(x:Rat):Prop:=∃n:Int,x=n
def BM.Ew(h:BM x)(g:BM y):BM (x*y):=by
 obtain⟨a,rfl⟩:=h;obtain⟨b,rfl⟩:=g;exact⟨a*b,by grind⟩
def BM.sub(h:BM x)(g:BM y):BM (x-y):=by
 obtain⟨a,rfl⟩:=h;obtain⟨b,rfl⟩:=g;exact⟨a-b,by grind⟩
def BM.of(n:Int):BM (n:Rat):=⟨n,J⟩
def NT(S:List Bool):∀(v:Am) (w:BA),(∀j,BM (v j))->(∀T,BM (w T))->BM (wg v w S):=by
 induction S with
 |nil=>intro v w _ _;exact⟨0,J⟩
 |cons b S ih =>
  intro v w h g;cases b
  ·exact ih _ _ (λj=>h (j+1)) (λT=>g _)
  ·exact((h 0).Ew (g _)).sub (ih _ _ (λj=>h (j+1)) (λT=>g _))
def Po(S:List Bool):BM (Ae S):=by
 induction S with
 |nil=>exact⟨1,J⟩
 |cons b S ih=>cases b;exact ih;exact⟨0,J⟩
def cD(n:Nat):Ae (nY n false)=1:=by
 induction n with
 |zero=>rfl
 |succ n ih=>rw[pE];exact ih
def Pz(m:Nat):ld 0 m Ae=1:=by
 simp[ld,CF,Tk,cD]
def Cr(S:List Bool):Nat:=(S.filter id).length
def gy(S:List Bool):∀(v:Am) (w:BA) (d:Nat),(∀T,Cr T<d->w T=0)->Cr S<d+1->wg v w S=0:=by
 induction S with
 |nil=>intro v w d _ _;rfl
 |cons b S ih =>
  intro v w d h g;cases b
  ·exact ih (sh v) (BE w) d (λT F=>h _ (by simpa [Cr]using F)) (by simpa [Cr]using g)
  ·simp only[wg];have O:Cr S<d:=by simp[Cr]at g ⊢;lia
   rw[h (false :: S) (by simpa [Cr]using O)];cases d with
   |zero=>lia
   |succ d=>rw[ih (sh v) (As w) d (λT F=>h _ (by simp[Cr]at F ⊢;lia)) O];grind
def cO(L:List Am):∀(w:BA) (d:Nat),(∀T,Cr T<d->w T=0)->∀S,Cr S<d+L.length->Aa L w S=0:=by
 induction L with
 |nil=>intro w d h S F;exact h S (by simpa using F)
 |cons v L ih =>
  intro w d h S F;exact ih (wg v w) (d+1) (λT O=>gy T v w d h O) S (by simp at F;lia)
def fG(c:Nat)(L:List Am):∀(w:BA) (S:List Bool),(∀v∈L,∀j,j<c->v j=0) →
  ∃e:Rat,Aa L w (nY c true++S)=e*Aa (L.map (DO c)) (pre c w) S:=by
 induction L with
 |nil=>intro w S _;exact⟨1,by simp[Aa,pre]⟩
 |cons v L ih =>
  intro w S h;obtain⟨e,O⟩:=ih (wg v w) S (λu F=>h u (by simp[F]));exists e*sg c;simp only[Aa,n9];rw[O]
  have:pre c (wg v w)=λT=>sg c*wg (DO c v) (pre c w) T:=by
   funext T;exact P2 c v w T (h v (by simp))
  rw[this,IA];grind
def dS(w:BA)(hz:∀v∈L,∀j,j<c->v j=0)(h1:c<=n)(h2:n<c+L.length):Aa L w (Tk n m)=0:=by
 have e:Tk n m=nY c true++(nY (n-c) true++nY (m-n) false):=by
  unfold Tk;rw[<-List.append_assoc,uL];congr 2;lia
 obtain⟨x,F⟩:=fG c L w (nY (n-c) true++nY (m-n) false) hz;rw[e,F,cO _ _ 0 (λT O=>by lia)]
 ·grind
 ·simp[Cr,aat];lia
def Ab(B x:Rat):Prop:=-B<=x/\x<=B
def Ab.nn(h:Ab B x):0<=B:=by obtain⟨a,b⟩:=h;grind
def Ab.Ew(h:Ab B x)(g:Ab C y):Ab (B*C) (x*y):=by
 obtain⟨h1,h2⟩:=h;obtain⟨h3,O⟩:=g;have a1:=qT (show 0<=B-x by grind) (show 0<=C+y by grind);have a2:=qT (show 0<=B+x by grind) (show 0<=C-y by grind);have F:=qT (show 0<=B-x by grind) (show 0<=C-y by grind);have a4:=qT (show 0<=B+x by grind) (show 0<=C+y by grind);constructor<;>grind
def Ab.sub(h:Ab B x)(g:Ab C y):Ab (B+C) (x-y):=by
 obtain⟨h1,h2⟩:=h;obtain⟨O,F⟩:=g;constructor<;>grind
def Ab.le(h:Ab B x)(g:B<=C):Ab C x:=by
 obtain⟨h1,h2⟩:=h;constructor<;>grind
def Ab.Eu(h:Ab B x):Ab B (-1*x):=by
 obtain⟨h1,h2⟩:=h;constructor<;>grind
def QS(S:List Bool):∀(v:Am) (w:BA),(∀j,Ab V (v j))->(∀T:List Bool,T.length=S.length->Ab W (w T))->Ab ((S.length:Nat)*(V*W)) (wg v w S):=by
 induction S with
 |nil=>intro v w _ _;simp only[wg,rD];constructor<;>grind
 |cons b S ih =>
  intro v w h g;have O:=(g (b :: S) rfl).nn;have hV:=(h 0).nn;have aa:=qT hV O;have e:(((b :: S).length:Nat):Rat)=(S.length:Nat)+1:=by rw[oP];grind
  cases b
  ·have:=ih (sh v) (BE w) (λj=>h (j+1)) (λT F=>g _ (by simp[F]))
   simp only[wg];refine this.le ?_;rw[e];grind
  ·have h1:=ih (sh v) (As w) (λj=>h (j+1)) (λT F=>g _ (by simp[F]));have h2:=(h 0).Ew (g (false :: S) (by simp));simp only[wg];refine(h2.sub h1).le ?_;rw[e];grind
def vr(r:List Int):Am:=λj=>((r.getD j 0:Int):Rat)
def Cw(row F:List Int)(k:Nat)(p:Int):List Int:=wY (λx y=>(F.getD k 0*x-row.getD k 0*y).fdiv p) row F
structure RD(f:Am->Rat):Prop where
 DZ:∀u v:Am,f (λj=>u j+v j)=f u+f v
 HX:∀(c:Rat) (v:Am),f (λj=>c*v j)=c*f v
structure Bi(B n m k:Nat)(A0:List Am)(top:List (List Int))(Z:List (List Int×Am))(p:Int)(w:BA):Prop where
 GX:top.length=k
 FG:k+Z.length=n
 nm:n<=m
 JW:∀r∈top,r.length=m
 Dj:∀z∈Z,z.1.length=m
 pz:p≠0
 pl:ld k m w=p
 rel:∀z∈Z,∀S,p*wg z.2 w S=wg (vr z.1) w S
 Ey:∀z∈Z,∀j,j<k->vr z.1 j=0
 IV:∀S,BM (w S)
 Fm:∀z∈Z,∀j,BM (z.2 j)
 all:Aa (Z.map (·.2)) w=Aa A0 Ae
 FP:∀i,i<k->(top.getD i []).getD i 0≠0/\∀j,j<i->(top.getD i []).getD j 0=0
 IT:0<k->(top.getD (k-1) []).getD (k-1) 0=p
 Ie:∀z∈Z,∀j,Ab B (z.2 j)
 Ii:∀T,Ab ((T.length*B) ^ k:Nat) (w T)
 Jk:∀r∈top,∀j,Ab ((m*B) ^ n:Nat) (vr r j)
 b1:1<=B
 MB:∀f,RD f->(∀a∈A0,f a=0)->(∀r∈top,f (vr r)=0)/\∀z∈Z,f (vr z.1)=0
 KY:∀f,RD f->(∀r∈top,f (vr r)=0)->(∀z∈Z,f (vr z.1)=0)->∀a∈A0,f a=0
def ng(z:List Int×Am):List Int×Am:=(z.1.map (λx=>-x),λj=>(-1)*z.2 j)
def Xf(r:List Int)(j:Nat):(r.map (λx=>-x)).getD j 0=- r.getD j 0:=by
 simp only[nO,nV];cases r[j]?<;>simp
def NH(r:List Int):vr (r.map (λx=>-x))=λj=>(-1)*vr r j:=by
 funext j;simp only[vr,Xf];grind
def Bi.kh
  (B:Bi B0 n m k A0 top (f :: P++z :: Q) p w):Bi B0 n m k A0 top (z :: P++ng f :: Q) p w:=by
 have hf:f∈f :: P++z :: Q:=by simp
 have O:∀y∈z :: P++ng f :: Q,y∈f :: P++z :: Q\/y=ng f:=by
  intro y F;simp at F ⊢;grind
 refine { GX:=B.GX,FG:=?_,nm:=B.nm,JW:=B.JW,Dj:=?_,pz:=B.pz,pl:=B.pl,rel:=?_,Ey:=?_,IV:=B.IV,Fm:=?_,all:=?_,FP:=B.FP,IT:=B.IT,Ie:=?_,Ii:=B.Ii,Jk:=B.Jk,b1:=B.b1,MB:=?_,KY:=?_}
 ·have:=B.FG;simp at this ⊢;lia
 ·intro y F;rcases O y F with h|h
  ·exact B.Dj y h
  ·subst h;simp[ng];exact B.Dj f hf
 ·intro y F S;rcases O y F with h|h
  ·exact B.rel y h S
  ·subst h
   have:=B.rel f hf S
   simp only[ng,NH];rw[Hs,Hs];grind
 ·intro y F j hj;rcases O y F with h|h
  ·exact B.Ey y h j hj
  ·subst h
   have:=B.Ey f hf j hj
   simp only[ng,NH];grind
 ·intro y F j;rcases O y F with h|h
  ·exact B.Fm y h j
  ·subst h;exact(BM.of (-1)).Ew (B.Fm f hf j)
 ·rw[<-B.all]
  funext S
  simp only[oh,n9,ng];have h1:=Xm (z.2 :: P.map (·.2)) (Q.map (·.2)) (-1) f.2 w S;have h2:=ZW [] (P.map (·.2)) (Q.map (·.2)) z.2 f.2 w S;simp only[wW]at h2;rw[h1,h2];grind
 ·intro y F j;rcases O y F with h|h
  ·exact B.Ie y h j
  ·subst h;exact(B.Ie f hf j).Eu
 ·intro g hg h0
  have:=B.MB g hg h0
  refine⟨this.1,λy F=>?_⟩;rcases O y F with h|h
  ·exact this.2 y h
  ·subst h;simp only[ng,NH];rw[hg.HX,this.2 f hf];grind
 ·intro g hg h1 h2;refine B.KY g hg h1 λy F=>?_
  have aa:=h2 (ng f) (by simp);simp only[ng,NH]at aa;rw[hg.HX]at aa;simp only[sX,oj,om]at F;rcases F with h|h|h|h
  ·subst h;grind
  ·exact h2 y (by simp[h])
  ·subst h;exact h2 y (by simp)
  ·exact h2 y (by simp[h])
def U7{p:Rat}(hp:p≠0)(O:∀S,p*wg a w S=wg r w S)(F:∀S,p*wg b w S=wg z w S)(S:List Bool):
  p*wg a (wg b w) S=wg r (wg b w) S:=by
 have h1:wg a (wg z w) S=p*wg a (wg b w) S:=by
  have:wg z w=λT=>p*wg b w T:=by funext T;exact(F T).symm
  rw[this,FZ]
 have h2:wg z (wg r w) S=p*wg z (wg a w) S:=by
  have:wg r w=λT=>p*wg a w T:=by funext T;exact(O T).symm
  rw[this,FZ]
 have h3:wg r (wg z w) S=p*wg r (wg b w) S:=by
  have:wg z w=λT=>p*wg b w T:=by funext T;exact(F T).symm
  rw[this,FZ]
 have h4:=LK a z w S;have h5:=LK z r w S
 have:p*(p*wg a (wg b w) S)=p*wg r (wg b w) S:=by grind
 grind
def fC{p:Rat}(F:∀S,p*wg b w S=wg z w S)(S:List Bool):wg z (wg b w) S=0:=by
 rw[LK]
 have:wg z w=λT=>p*wg b w T:=by funext T;exact(F T).symm
 rw[this,FZ,KS];grind
def Mp(h1:row.length=m)(h2:lead.length=m):(Cw row lead k p).length=m:=by
 simp[Cw,h1,h2]
def bW(h1:row.length=m)(h2:lead.length=m)(j:Nat):
  (Cw row lead k p).getD j 0=(lead.getD k 0*row.getD j 0-row.getD k 0*lead.getD j 0).fdiv p:=by
 by_cases hj:j<m
 ·have O:row.getD j 0=row[j]:=by rw[nO,nj (by lia)];rfl
  have a2:lead.getD j 0=lead[j]:=by rw[nO,nj (by lia)];rfl
  have F:j<(Cw row lead k p).length:=by rw[Mp h1 h2];exact hj
  rw[O,a2,nO,nj F];simp[Cw]
 ·have o:∀l:List Int,l.length=m->l.getD j 0=0:=by
   intro l F;rw[nO,pZ (by lia)];rfl
  rw[o _ (Mp h1 h2),o row h1,o lead h2];simp
def X1(h:vr r j=0):r.getD j 0=0:=by
 simp only[vr]at h;exact_mod_cast h
def Rk (hk:k<m)(hr:r.length=m)(ac:z.length=m)(hp:p≠0)(aa:ld k m w=p)
  (ha:∀S,(p:Rat)*wg a w S=wg (vr r) w S)(hb:∀S,(p:Rat)*wg b w S=wg (vr z) w S)(zr:∀j,j<k->vr r j=0)(zz:∀j,j<k->vr z j=0)
  (hq:z.getD k 0≠0)(iw:∀S,BM (w S))(ia:∀j,BM (a j))(ib:∀j,BM (b j)) :
  ld (k+1) m (wg b w)=z.getD k 0/\(∀j,(p:Rat)*vr (Cw r z k p) j=(z.getD k 0:Int)*vr r j-(r.getD k 0:Int)*vr z j) /\
  (∀S,((z.getD k 0:Int):Rat)*wg a (wg b w) S=wg (vr (Cw r z k p)) (wg b w) S)/\∀j,j<k+1->vr (Cw r z k p) j=0:=by
 have ad:(p:Rat)≠0:=by exact_mod_cast hp
 have ae:((z.getD k 0:Int):Rat)≠0:=by exact_mod_cast hq
 have l1:ld (k+1) m (wg b w)=z.getD k 0:=by
  have h1:=jv w zz hk;have h2:ld (k+1) m (wg (vr z) w)=p*ld (k+1) m (wg b w):=by
   unfold ld;rw[<-hb];grind
  rw[h2,aa]at h1
  have:vr z k=((z.getD k 0:Int):Rat):=rfl
  rw[this]at h1;grind
 let M:Am:=λj=>((z.getD k 0:Int):Rat)*vr r j+(-((r.getD k 0:Int):Rat))*vr z j
 have hM:∀S,wg M (wg b w) S=((z.getD k 0:Int):Rat)*(p*wg a (wg b w) S):=by
  intro S;have e:=K8 S (λj=>((z.getD k 0:Int):Rat)*vr r j) (λj=>(-((r.getD k 0:Int):Rat))*vr z j) (wg b w);rw[Hs,Hs,fC hb S,<-U7 ad ha hb S]at e;show wg M (wg b w) S=_;rw[show M=λj=>((z.getD k 0:Int):Rat)*vr r j+(-((r.getD k 0:Int):Rat))*vr z j from rfl,e];grind
 have O:∀j,j<k+1->M j=0:=by
  intro j hj;show((z.getD k 0:Int):Rat)*vr r j+(-((r.getD k 0:Int):Rat))*vr z j=0;rcases oM j k with h|h
  ·rw[zr j h,zz j h];grind
  ·have:j=k:=by lia
   subst this;show((z.getD j 0:Int):Rat)*((r.getD j 0:Int):Rat)+(-((r.getD j 0:Int):Rat))*((z.getD j 0:Int):Rat)=0
   grind
 have dv:∀j,∃c:Int,M j=p*c:=by
  intro j;rcases oM j (k+1)with h|h
  ·exact⟨0,by rw[O j h];grind⟩
  ·rcases oM j m with h2|h2
   ·have h3:=QU (v:=M) (wg b w) O h h2;rw[hM] at h3;obtain⟨c,F⟩:=NT (Sj (k+1) j m) a (wg b w) ia (λT=>NT T b w ib iw);have h4:wg b w (Tk (k+1) m)=CF (k+1)*((z.getD k 0:Int):Rat):=by
     have:=KC (k+1)
     rw[<-l1];unfold ld;grind
    rw[h4]at h3;have h5:=KC (k+1);have h6:=JH (k+1);have ht:BM (sg (k+1)*CF (k+1)):=by
     have i1:∀c,BM (sg c):=by intro c;unfold sg;split;exact⟨1,J⟩;exact⟨-1,J⟩
     have i2:∀c,BM (CF c):=by
      intro c;induction c with
      |zero=>exact⟨1,J⟩
      |succ c ih=>exact ih.Ew (i1 c)
     exact(i1 _).Ew (i2 _)
    obtain⟨t,ht⟩:=ht;exists t*c;rw[F]at h3
    have:M j=sg (k+1)*CF (k+1)*(p*c):=by
     have:((z.getD k 0:Int):Rat)*(M j)=((z.getD k 0:Int):Rat)*(sg (k+1)*CF (k+1)*(p*c)):=by grind
     grind
    rw[this,ht];grind
   ·exists 0;show((z.getD k 0:Int):Rat)*vr r j+(-((r.getD k 0:Int):Rat))*vr z j=_;have e1:r.getD j 0=0:=by rw[nO,pZ (by lia)];rfl
    have e2:z.getD j 0=0:=by rw[nO,pZ (by lia)];rfl
    simp only[vr,e1,e2];grind
 have ex:∀j,(p:Rat)*vr (Cw r z k p) j=M j:=by
  intro j;obtain⟨c,F⟩:=dv j;have ab:M j=((z.getD k 0*r.getD j 0-r.getD k 0*z.getD j 0:Int):Rat):=by
   show((z.getD k 0:Int):Rat)*((r.getD j 0:Int):Rat)+(-((r.getD k 0:Int):Rat))*((z.getD j 0:Int):Rat)=_
   grind
  have hi:z.getD k 0*r.getD j 0-r.getD k 0*z.getD j 0=p*c:=by
   rw[ab]at F;exact_mod_cast F
  simp only[vr];rw[bW hr ac,hi,F,qd (aaT p c),uC _ hp]
 have eN:(λj=>(p:Rat)*vr (Cw r z k p) j)=M:=funext ex;exists l1,?_,?_
 ·intro j;rw[ex j];show((z.getD k 0:Int):Rat)*vr r j+(-((r.getD k 0:Int):Rat))*vr z j=_
  grind
 ·intro S;have h:=hM S;rw[<-eN,Hs]at h
  grind
 ·intro j hj;have h:=ex j;rw[O j hj]at h
  grind
def Bi.XA(B:Bi B0 n m k A0 top Z p w)(hz:z∈Z)(j:Nat):Ab ((m*B0) ^ (k+1):Nat) (vr z.1 j):=by
 have aa:∀a:Nat,(0:Rat)<=(a:Rat):=λa=>by exact_mod_cast pD a
 have O:Ab ((m*B0) ^ (k+1):Nat) (0:Rat):=by have:=aa ((m*B0) ^ (k+1));constructor<;>grind
 have ab:=B.FG;have ac:=B.nm;have hl:0<Z.length:=rO hz;rcases oM j k with h|h
 ·rw[B.Ey z hz j h];exact O
 ·rcases oM j m with h2|h2
  ·have e:=QU (v:=vr z.1) w (B.Ey z hz) h h2;rw[<-B.rel z hz]at e;have hp:(p:Rat)≠0:=by have:=B.pz;exact_mod_cast this
   have ht:w (Tk k m)=CF k*p:=by
    have:=KC k
    have:=B.pl
    unfold ld at this;grind
   rw[ht]at e;have e2:vr z.1 j=sg k*CF k*wg z.2 w (Sj k j m):=by
    have h5:=KC k;have h6:=JH k
    have:p*(vr z.1 j)=p*(sg k*CF k*wg z.2 w (Sj k j m)):=by grind
    grind
   have ls:(Sj k j m).length=m:=by unfold Sj;simp;lia
   have F:=QS (V:=(B0:Nat)) (W:=((m*B0) ^ k:Nat)) (Sj k j m) z.2 w (B.Ie z hz) (λT hT=>by have:=B.Ii T;rw[hT,ls]at this;exact this);rw[ls]at F;have eb:((m:Nat):Rat)*(((B0:Nat):Rat)*(((m*B0) ^ k:Nat):Rat))=(((m*B0) ^ (k+1):Nat):Rat):=by
    rw[tN]
    have:m*(B0*(m*B0) ^ k)=(m*B0) ^ k*(m*B0):=by rw[<-Nat.mul_assoc,vN]
    rw[<-this];simp[uV]
   rw[eb]at F;rw[e2];have s1:∀c,sg c=1\/sg c=-1:=by intro c;unfold sg;split;exact .inl rfl;exact .inr rfl
   have s2:∀c,CF c=1\/CF c=-1:=by
    intro c;induction c with
    |zero=>exact .inl rfl
    |succ c ih =>
     simp only[CF];rcases ih with a|a<;>rcases s1 c with b|b<;>rw[a,b]<;>grind
   rcases s1 k with a|a<;>rcases s2 k with b|b<;>rw[a,b]
   ·simpa using F
   ·have:=F.Eu;simpa using this
   ·have:=F.Eu;simpa using this
   ·rw[show(-1:Rat) * -1*wg z.2 w (Sj k j m)=wg z.2 w (Sj k j m) by grind];exact F
  ·have e1:z.1.getD j 0=0:=by rw[nO,pZ (by rw[B.Dj z hz];lia)];rfl
   have:vr z.1 j=0:=by simp only[vr,e1];rfl
   rw[this];exact O
def UU(h:1<=a)(hi:i<=n):a ^ i<=a ^ n:=pk h hi
def Bi.step
  (B:Bi B0 n m k A0 top (z :: Z) p w)(hq:z.1.getD k 0≠0) :
  Bi B0 n m (k+1) A0 (top++[z.1]) (Z.map λy=>(Cw y.1 z.1 k p,y.2)) (z.1.getD k 0) (wg z.2 w):=by
 have ad:=B.FG;have af:=B.nm;simp at ad;have ac:k<m:=by lia
 have hz:z∈z :: Z:=by simp
 have aa:∀y∈Z,_:=λy F=>Rk ac (B.Dj y (by simp[F])) (B.Dj z hz) B.pz B.pl (B.rel y (by simp[F])) (B.rel z hz) (B.Ey y (by simp[F])) (B.Ey z hz) hq B.IV (B.Fm y (by simp[F])) (B.Fm z hz)
 have l1:=(Rk ac (B.Dj z hz) (B.Dj z hz) B.pz B.pl (B.rel z hz) (B.rel z hz) (B.Ey z hz) (B.Ey z hz) hq B.IV (B.Fm z hz) (B.Fm z hz)).1;have ag:(p:Rat)≠0:=by have:=B.pz;exact_mod_cast this
 have ab:=B.GX;refine { GX:=by simp[B.GX],FG:=by simp;lia,nm:=B.nm,JW:=?_,Dj:=?_,pz:=hq,pl:=l1,rel:=?_,Ey:=?_,IV:=λS=>NT S z.2 w (B.Fm z hz) B.IV,Fm:=?_,all:=?_,FP:=?_,IT:=?_,Ie:=?_,Ii:=?_,Jk:=?_,b1:=B.b1,MB:=?_,KY:=?_}
 ·intro r hr;simp at hr;rcases hr with h|h
  ·exact B.JW r h
  ·subst h;exact B.Dj z hz
 ·intro y F;simp at F;obtain⟨a,b,O,rfl⟩:=F;exact Mp (B.Dj (a,b) (by simp[O])) (B.Dj z hz)
 ·intro y F S;simp at F;obtain⟨a,b,O,rfl⟩:=F;exact(aa (a,b) O).2.2.1 S
 ·intro y F;simp at F;obtain⟨a,b,O,rfl⟩:=F;exact(aa (a,b) O).2.2.2
 ·intro y F;simp at F;obtain⟨a,b,O,rfl⟩:=F;exact B.Fm (a,b) (by simp[O])
 ·rw[<-B.all];simp[Aa,v8]
 ·intro i hi;rcases oM i k with h|h
  ·have:(top++[z.1]).getD i []=top.getD i []:=by
    rw[nO,nO,oH (by lia)]
   rw[this];exact B.FP i h
  ·have:i=k:=by lia
   subst this
   have:(top++[z.1]).getD i []=z.1:=by
    rw[nO,oo (by lia),ab];simp
   rw[this];exact⟨hq,λj hj=>X1 (B.Ey z hz j hj)⟩
 ·intro _
  have:(top++[z.1]).getD (k+1-1) []=z.1:=by
   rw[nO,oo (by lia)];simp[ab]
  rw[this];rfl
 ·intro y F;simp at F;obtain⟨a,b,O,rfl⟩:=F;exact B.Ie (a,b) (by simp[O])
 ·intro T;have bd:=QS (V:=(B0:Nat)) (W:=((T.length*B0) ^ k:Nat)) T z.2 w (B.Ie z hz) (λU hU=>by have:=B.Ii U; rw[hU] at this; exact this);have eb:((T.length:Nat):Rat)*(((B0:Nat):Rat)*(((T.length*B0) ^ k:Nat):Rat))=(((T.length*B0) ^ (k+1):Nat):Rat):=by
   rw[tN]
   have:T.length*(B0*(T.length*B0) ^ k)=(T.length*B0) ^ k*(T.length*B0):=by rw[<-Nat.mul_assoc,vN]
   rw[<-this];simp[uV]
  rw[eb]at bd;exact bd
 ·intro r hr j;simp at hr;rcases hr with h|h
  ·exact B.Jk r h j
  ·subst h;refine(B.XA hz j).le ?_
   have:=B.b1
   have h1:1<=m*B0:=aa9 (by lia) (by lia)
   exact_mod_cast UU h1 (by lia)
 ·intro f hf h0;have hl:=B.MB f hf h0;exists ?_
  ·intro r hr;simp at hr;rcases hr with h|h
   ·exact hl.1 r h
   ·subst h;exact hl.2 z hz
  ·intro y F; simp at F; obtain⟨a,b,O,rfl⟩:=F;have h1:=(aa (a,b) O).2.1;have e:(λj=>(p:Rat)*vr (Cw a z.1 k p) j)=λj=>(λj=>((z.1.getD k 0:Int):Rat)*vr a j) j+(λj=>(-((a.getD k 0:Int):Rat))*vr z.1 j) j:=by
    funext j;rw[h1 j];grind
   have h2:=congrArg f e;rw[hf.HX,hf.DZ,hf.HX,hf.HX,hl.2 z hz,hl.2 (a,b) (by simp[O])]at h2
   grind
 ·intro f hf h1 h2;have fz:f (vr z.1)=0:=h1 z.1 (by simp);have ae:((z.1.getD k 0:Int):Rat)≠0:=by exact_mod_cast hq
  refine B.KY f hf (λr hr=>h1 r (by simp[hr])) λy F=>?_
  rcases oj.mp F with h|h
  ·subst h;exact fz
  ·have e1:=(aa y h).2.1;have e:(λj=>(p:Rat)*vr (Cw y.1 z.1 k p) j)=λj=>(λj=>((z.1.getD k 0:Int):Rat)*vr y.1 j) j+(λj=>(-((y.1.getD k 0:Int):Rat))*vr z.1 j) j:=by
    funext j;rw[e1 j];grind
   have h3:=congrArg f e;rw[hf.HX,hf.DZ,hf.HX,hf.HX,fz,h2 _ (xw h)]at h3
   grind
def gD(Z:List (List Int×Am)):∀{p:Rat} {w:BA},p≠0->(∀z∈Z,∀S,p*wg z.2 w S=wg (vr z.1) w S) →
  ∃c:Rat,c≠0/\∀S,c*Aa (Z.map (·.2)) w S=Aa (Z.map (λz=>vr z.1)) w S:=by
 induction Z with
 |nil=>intro p w _ _;exact⟨1,by grind,λS=>by simp[Aa]⟩
 |cons z Z ih =>
  intro p w F h;obtain⟨c,hc,O⟩:=ih (p:=p) (w:=wg z.2 w) F (λy hy S=>U7 F (h y (by simp[hy])) (h z (by simp)) S);refine⟨p*c,by grind,λS=>?_⟩;simp only[n9,Aa];have e:wg (vr z.1) w=λT=>p*wg z.2 w T:=by funext T;exact(h z (by simp) T).symm
  rw[e,IA];simp only[];rw[<-O];grind
def Bi.none
  (B:Bi B0 n m k A0 top Z p w)(ab:k<n)(h0:∀z∈Z,z.1.getD k 0=0):ld n m (Aa A0 Ae)=0:=by
 have aa:(p:Rat)≠0:=by have:=B.pz;exact_mod_cast this
 obtain⟨c,hc,O⟩:=gD Z aa B.rel;have h:=dS (c:=k+1) (n:=n) (m:=m) (L:=Z.map (λz=>vr z.1)) w ?_ (by lia) (by have:=B.FG;simp;lia)
 ·rw[<-O,B.all]at h;unfold ld;grind
 ·intro v F j hj;rw[n8]at F;obtain⟨z,hz,rfl⟩:=F;rcases oM j k with h|h
  ·exact B.Ey _ hz j h
  ·have:j=k:=by lia
   subst this
   have:=h0 _ hz
   simp only[vr];rw[this];rfl
def Bi.mW{R:List (List Int)}(aa:1<=B0)(O:∀r∈R,∀j,Ab B0 (vr r j))(h1:R.length=n)(h2:n<=m)(h3:∀r∈R,r.length=m):
  Bi B0 n m 0 (R.map vr) [] (R.map λr=>(r,vr r)) 1 Ae:=by
 refine { GX:=rfl,FG:=by simp[h1],nm:=h2,JW:=by simp,Dj:=?_,pz:=by lia,pl:=?_,rel:=?_,Ey:=by intro _ _ j hj;lia,IV:=Po,Fm:=?_,all:=?_,FP:=by intro i hi;lia,IT:=by intro h;lia,Ie:=?_,Ii:=?_,Jk:=by simp,b1:=aa,MB:=?_,KY:=?_}
 ·intro z hz;simp at hz;obtain⟨a,F,rfl⟩:=hz;exact h3 a F
 ·rw[Pz];rfl
 ·intro z hz S;simp at hz;obtain⟨a,F,rfl⟩:=hz;simp only[];grind
 ·intro z hz j;simp at hz;obtain⟨a,F,rfl⟩:=hz;exact⟨_,J⟩
 ·simp[v8]
 ·intro z hz j;simp at hz;obtain⟨a,F,rfl⟩:=hz;exact O a F j
 ·intro T
  have:Ae T=1\/Ae T=0:=by
   induction T with
   |nil=>exact .inl rfl
   |cons b T ih=>cases b;exact ih;exact .inr rfl
  rw[aaB];rcases this with h|h<;>rw[h]<;>constructor<;>grind
 ·intro f hf h0;refine⟨by simp,?_⟩;intro z hz;simp at hz;obtain⟨a,F,rfl⟩:=hz;exact h0 _ (xw F)
 ·intro f hf h1 h2 a F;obtain⟨r,hr,rfl⟩:=n8.mp F;exact h2 (r,vr r) (n8.mpr ⟨r,hr,J⟩)
def Bi.fin
  (B:Bi B0 n m n A0 top Z p w):Z=[]/\ld n m (Aa A0 Ae)=p:=by
 have:Z=[]:=by have:=B.FG;exact qQ.mp (by lia)
 subst this;exists rfl;rw[<-B.all];exact B.pl
end Wd
namespace Mth
def Gs(t b:Int)(h:b≠0): BV t b=(((t:Rat) / (b:Rat)).num,(((t:Rat) / (b:Rat)).den:Int)):=by
  have g:=ZV t b h;have p:=Sg t b h;have c:=RU t b;generalize (BV t b)=x at *;obtain⟨n,d⟩:=x;simp only at g p c;have hd:d=(d.toNat:Int):=by lia
  have O:d.toNat≠0:=by lia
  have F:n.natAbs.Coprime d.toNat:=by
    have:pU n d=n.natAbs.gcd d.toNat:=by rw[pU];congr 1;lia
    unfold xM;rw[<- this];exact g
  let r:Rat:=⟨n,d.toNat,O,F⟩
  have hr:r*(d:Rat)=n:=by
    have h1:r=(n:Rat) / ((d.toNat:Nat):Rat):=by
      have:=xY r;rw[<- this,yx];rfl
    have h2:((d.toNat:Nat):Rat)=(d:Rat):=by
      have:((d.toNat:Nat):Rat)=(((d.toNat:Nat):Int):Rat):=rfl;rw[this,<- hd]
    have h3 : (d : Rat) ≠ 0 := by have : d ≠ 0 := by lia
                                  exact_mod_cast this
    rw[h1,h2];grind
  have hb:(b:Rat)≠0:=by exact_mod_cast h
  have aa:(d:Rat)≠0:=by exact_mod_cast (show d≠0 by lia)
  have cr:(n:Rat)*b=t*d:=by exact_mod_cast c
  have e:(t:Rat) / (b:Rat)=r:=by grind
  rw[e];show(n,d)=(n,((d.toNat:Nat):Int));rw[<- hd]
def fr(q:Rat):Int×Int:=(q.num,q.den)
def GJ(q:Rat):q*((q.den:Nat):Rat)=q.num:=by
 have h1:=xY q;rw[yx]at h1
 have:((q.den:Nat):Rat)≠0:=by exact_mod_cast q.den_nz
 have h2:(((q.den:Nat):Int):Rat)=((q.den:Nat):Rat):=rfl;rw[h2]at h1
 grind
def Jp(q:Rat):((q.den:Nat):Rat)≠0:=by exact_mod_cast q.den_nz
def ic(n:Nat):(((n:Nat):Int):Rat)=((n:Nat):Rat):=rfl
def P7(p q:Rat):BV (p.num*q.den+q.num*p.den) (p.den*q.den)=fr (p+q):=by
 have O:=p.den_nz;have F:=q.den_nz;have h:((p.den:Int)*(q.den:Int))≠0:=rR (by lia) (by lia);rw[Gs _ _ h];have e:(((p.num*q.den+q.num*p.den:Int)):Rat) / (((p.den:Int)*(q.den:Int):Int):Rat)=p+q:=by
  have:=GJ p;have:=GJ q;have:=Jp p;have:=Jp q
  simp only[xg,pj,ic]
  grind
 rw[e];rfl
def P4(p q:Rat):BV (p.num*q.den-q.num*p.den) (p.den*q.den)=fr (p-q):=by
 have O:=p.den_nz;have F:=q.den_nz;have h:((p.den:Int)*(q.den:Int))≠0:=rR (by lia) (by lia);rw[Gs _ _ h];have e:(((p.num*q.den-q.num*p.den:Int)):Rat) / (((p.den:Int)*(q.den:Int):Int):Rat)=p-q:=by
  have:=GJ p;have:=GJ q;have:=Jp p;have:=Jp q
  simp only[uU,pj,ic]
  grind
 rw[e];rfl
def QI(p q:Rat):BV (p.num*q.num) (p.den*q.den)=fr (p*q):=by
 have O:=p.den_nz;have F:=q.den_nz;have h:((p.den:Int)*(q.den:Int))≠0:=rR (by lia) (by lia);rw[Gs _ _ h];have e:(((p.num*q.num:Int)):Rat) / (((p.den:Int)*(q.den:Int):Int):Rat)=p*q:=by
  have:=GJ p;have:=GJ q;have:=Jp p;have:=Jp q
  simp only[pj,ic]
  grind
 rw[e];rfl
def Sb(n d:Nat)(q:Rat):Prop:=q.num.natAbs<=2 ^ n/\q.den<=2 ^ d
def dQ(h:b≠0):(BV t b).1.natAbs<=t.natAbs/\(BV t b).2.natAbs<=b.natAbs:=by
 have h1:=NY t b;have h2:=LW t b;have h3:=LN t b h;have O:t.natAbs=(BV t b).1.natAbs*(BJ t b).natAbs:=by rw[<-Int.natAbs_mul,h1]
 have a2:b.natAbs=(BV t b).2.natAbs*(BJ t b).natAbs:=by rw[<-Int.natAbs_mul,h2]
 have F:1<=(BJ t b).natAbs:=by lia
 rw[O,a2];exact⟨uO _ F,uO _ F⟩
def Nk(h:b≠0)(h1:t.natAbs<=2 ^ n)(h2:b.natAbs<=2 ^ d)(e:BV t b=fr q):Sb n d q:=by
 have:=dQ (t:=t) h
 rw[e]at this;simp only[fr,oW]at this;exact⟨by lia,by lia⟩
def Ce(h:a<=2 ^ m)(g:b<=2 ^ n):a*b<=2 ^ (m+n):=by rw[vE];exact Nat.mul_le_mul h g
def Kh(p q:Rat):((p.den:Int)*(q.den:Int))≠0:=by
 have F:=p.den_nz;have O:=q.den_nz;exact rR (by lia) (by lia)
def Sb.Ew(h:Sb n d p)(g:Sb n' d' q):Sb (n+n') (d+d') (p*q):=by
 refine Nk (Kh p q) ?_ ?_ (QI p q)
 ·rw[pA];exact Ce h.1 g.1
 ·rw[pA,oW,oW];exact Ce h.2 g.2
def Sb.DZ(h:Sb n d p)(g:Sb n' d' q)(h1:n+d'<=N)(h2:n' + d<=N):Sb (N+1) (d+d') (p+q):=by
 refine Nk (Kh p q) ?_ ?_ (P7 p q)
 ·have F:(p.num*q.den).natAbs<=2 ^ N:=by
   rw[pA,oW];exact oC (Ce h.1 g.2) (pk (by decide) h1)
  have O:(q.num*p.den).natAbs<=2 ^ N:=by
   rw[pA,oW];exact oC (Ce g.1 h.2) (pk (by decide) h2)
  have:=aaU (p.num*q.den) (q.num*p.den)
  rw[tN];lia
 ·rw[pA,oW,oW];exact Ce h.2 g.2
def Sb.sub(h:Sb n d p)(g:Sb n' d' q)(h1:n+d'<=N)(h2:n' + d<=N):Sb (N+1) (d+d') (p-q):=by
 refine Nk (Kh p q) ?_ ?_ (P4 p q)
 ·have F:(p.num*q.den).natAbs<=2 ^ N:=by
   rw[pA,oW];exact oC (Ce h.1 g.2) (pk (by decide) h1)
  have O:(q.num*p.den).natAbs<=2 ^ N:=by
   rw[pA,oW];exact oC (Ce g.1 h.2) (pk (by decide) h2)
  have:=wc (p.num*q.den) (q.num*p.den)
  rw[tN];lia
 ·rw[pA,oW,oW];exact Ce h.2 g.2
def Sb.mono(h:Sb n d p)(h1:n<=n')(h2:d<=d'):Sb n' d' p :=
 ⟨oC h.1 (pk (by decide) h1),oC h.2 (pk (by decide) h2)⟩
def Sb.zero:Sb 0 0 0:=by constructor<;>decide
def Sb.Ae:Sb 0 0 1:=by constructor<;>decide
def CT(c:Int)(q:Rat):Int:=c.fdiv (pU c q.den:Int)*q.den
def cb(r:List Rat):Int:=r.foldl CT 1
def Ui(h:0<c)(q:Rat):0<CT c q/\c ∣ CT c q/\(q.den:Int) ∣ CT c q/\CT c q<=c*q.den:=by
 have hq:=q.den_nz;have hg:0<pU c q.den:=tL _ (by lia);obtain⟨x,F⟩:=uB c (q.den:Int);obtain⟨y,hy⟩:=va c (q.den:Int);generalize O:pU c (q.den:Int)=G at *;have ab:(G:Int)≠0:=by lia
 have e:c.fdiv (G:Int)=x:=by
  rw[qd ⟨x,F⟩]
  conv=>lhs;rw[F]
  rw[uC _ ab]
 have aa:0<x:=by
  rcases ve 0 x with h'|h'
  ·exact h'
  ·have:(G:Int)*x<=0:=Int.mul_nonpos_of_nonneg_of_nonpos (by lia) h'
   lia
 have ac:(0:Int)<q.den:=by lia
 unfold CT;rw[O,e];exists xK aa ac,⟨y,?_⟩,⟨x,Int.mul_comm _ _⟩
 ·conv=>lhs;rw[hy]
  conv=>rhs;rw[F]
  rw[Int.mul_left_comm,abW]
 ·refine wO ?_ (by lia)
  have:1*x<=(G:Int)*x:=wO (by lia) (by lia)
  lia
def Vg(r:List Rat):∀{c:Int} {D d:Nat},0<c->c.natAbs<=2 ^ D->(∀q∈r,q.den<=2 ^ d) →
  0<r.foldl CT c/\c ∣ r.foldl CT c/\(∀q∈r,(q.den:Int) ∣ r.foldl CT c)/\(r.foldl CT c).natAbs<=2 ^ (D+d*r.length):=by
 induction r with
 |nil=>intro c D d h g _;exact⟨h,Int.dvd_refl _,by simp,by simpa using g⟩
 |cons q r ih =>
  intro c D d h g hd;obtain⟨a1,O,a3,a4⟩:=Ui h q;have hq:=hd q (by simp);have a5:(CT c q).natAbs<=2 ^ (D+d):=by
   have h5:(CT c q).natAbs<=c.natAbs*q.den:=by
    have e1:((c.natAbs*q.den:Nat):Int)=c*q.den:=by rw[aby];congr 1;lia
    lia
   exact oC h5 (Ce g hq)
  obtain⟨b1,F,b3,b4⟩:=ih (D:=D+d) (d:=d) a1 a5 (λp hp=>hd p (by simp[hp]));exists b1,x9 O F,?_
  ·intro p hp;rcases oj.mp hp with rfl|hp
   ·exact x9 a3 F
   ·exact b3 p hp
  ·rw[oP,rM]
   have:D+(d*r.length+d)=D+d+d*r.length:=by lia
   rw[this];exact b4
def wh(b:Int)(q:Rat):Int:=q.num*b.fdiv q.den
def LR(h:(q.den:Int) ∣ b):((wh b q:Int):Rat)=b*q:=by
 obtain⟨x,F⟩:=h;have O:=q.den_nz;have e:b.fdiv q.den=x:=by
  rw[qd ⟨x,F⟩,F,uC _ (by lia)]
 unfold wh;rw[e,F]
 have:=GJ q
 simp only[pj,ic]
 grind
end Mth
namespace Wd
open Mth
def Kb(R:List (List Int))(k i:Nat):List (List Int):=if i=k then R else (R.set k (R.getD i [])).set i ((R.getD k []).map λx=>-x)
def QL{α:Type}(A B:List α)(x d:α)(h:A.length=i):(A++x :: B).getD i d=x:=by
 subst h;rw[nO,oo (nQ _)];simp
def UK{α:Type}(A B:List α)(x y:α)(h:A.length=i):(A++x :: B).set i y=A++y :: B:=by
 subst h;rw[zJ _ _ (nQ _)];simp
def Bi.led (B:Bi B0 n m k A0 top Z p w)(h1:k<=i)(h2:i<n)
  (O:((top++Z.map (·.1)).getD i []).getD k 0≠0):∃z Z',Bi B0 n m k A0 top (z :: Z') p w/\Kb (top++Z.map (·.1)) k i=top++z.1 :: Z'.map (·.1)/\z.1.getD k 0≠0:=by
 have hl:=B.FG;have ht:=B.GX;cases Z with
 |nil=>simp at hl;lia
 |cons f Zr =>
  by_cases aa:i=k
  ·subst aa;exists f,Zr,B,?_
   ·unfold Kb;rw[nX rfl];rfl
   ·rw[n9,QL _ _ _ _ ht]at O;exact O
  ·have hj:i-k-1<Zr.length:=by simp at hl;lia
   have e:Zr=Zr.take (i-k-1)++Zr[i-k-1] :: Zr.drop (i-k-1+1):=by rw[qY,qN]
   generalize Zr.take (i-k-1)=F at e;have ac:(Zr.take (i-k-1)).length=i-k-1:=by simp;lia
   have ab:F.length=i-k-1:=by
    have:=congrArg tq e
    simp at this;lia
   generalize Zr[i-k-1]=z at e;generalize Zr.drop (i-k-1+1)=Q at e;subst e;have B':Bi B0 n m k A0 top (f :: F++z :: Q) p w:=B;have e1:top++yN (·.1) (f :: (F++z :: Q))=(top++f.1 :: F.map (·.1))++z.1 :: Q.map (·.1):=by simp
   have l1:(top++f.1 :: F.map (·.1)).length=i:=by simp;lia
   have gi:(top++yN (·.1) (f :: (F++z :: Q))).getD i []=z.1:=by rw[e1];exact QL _ _ _ _ l1
   have gk:(top++yN (·.1) (f :: (F++z :: Q))).getD k []=f.1:=by rw[n9];exact QL _ _ _ _ ht
   exists z,F++ng f :: Q,B'.kh,?_
   ·unfold Kb;rw[nS aa,gi,gk,n9,UK _ _ _ _ ht];have e2:top++z.1 :: yN (·.1) (F++z :: Q)=(top++z.1 :: F.map (·.1))++z.1 :: Q.map (·.1):=by simp
    rw[e2,UK _ _ _ _ (by simp;lia)];simp[ng]
   ·rw[gi]at O;exact O
def GL(h:Ab ((N:Nat):Rat) ((x:Int):Rat)):x.natAbs<=N:=by
 obtain⟨h1,h2⟩:=h;have a:x<=(N:Int):=by
  have:((x:Int):Rat)<=(((N:Nat):Int):Rat):=h2
  exact_mod_cast this
 have b:-(N:Int)<=x:=by
  have:((-(N:Int):Int):Rat)<=((x:Int):Rat):=by rw[uT];exact h1
  exact_mod_cast this
 lia
def JD(h:x.natAbs<=N):Ab ((N:Nat):Rat) ((x:Int):Rat):=by
 have a:x<=(N:Int):=by lia
 have b:-(N:Int)<=x:=by lia
 constructor
 ·have:((-(N:Int):Int):Rat)<=((x:Int):Rat):=by exact_mod_cast b
  rw[uT]at this;exact this
 ·have:((x:Int):Rat)<=(((N:Nat):Int):Rat):=by exact_mod_cast a
  exact this
def mem_getD{r:List Int}(h:x∈r):∃j,r.getD j 0=x:=by
 obtain⟨j,F,e⟩:=oG h;exact⟨j,by rw[nO,nj F];exact e⟩
def S4{r:List Int}(h:∀x∈r,x.natAbs<=N)(j:Nat):(r.getD j 0).natAbs<=N:=by
 rw[nO];by_cases F:j<r.length
 ·rw[nj F];exact h _ (pX F)
 ·rw[pZ (by lia)];simp
def vq(r:List Rat):Am:=λj=>r.getD j 0
def dt(n m:Nat)(T:List (List Rat)):Rat:=ld n m (Aa (T.map vq) Ae)
def QQ(h:∀q∈r,(q.den:Int) ∣ b):vr (r.map (wh b))=λj=>(b:Rat)*vq r j:=by
 funext j
 simp only[vr,vq,nO,nV];cases e:r[j]? with
 |none=>simp
 |some q=>simp;exact LR (h q (nz e))
def En:List Int->Int
 |[]=>1
 |b :: L=>b*En L
def X2(T:List (List Rat))(β:List Rat->Int)(h:∀r∈T,∀q∈r,(q.den:Int) ∣ β r):
  ∀w S,Aa (T.map λr=>vr (r.map (wh (β r)))) w S=((En (T.map β):Int):Rat)*Aa (T.map vq) w S:=by
 induction T with
 |nil=>intro w S;simp[Aa,En]
 |cons r T ih =>
  intro w S;simp only[n9,Aa,En];rw[ih (λr' F=>h r' (by simp[F]))];have e:wg (vr (r.map (wh (β r)))) w=λT=>((β r:Int):Rat)*wg (vq r) w T:=by
   funext T;rw[QQ (h r (by simp))];exact Hs T _ _ w
  rw[e,IA,pj];grind
def OU(T:List (List Rat))(β:List Rat->Int)(h:∀r∈T,∀q∈r,(q.den:Int) ∣ β r):
  ld n m (Aa ((T.map λr=>r.map (wh (β r))).map vr) Ae)=((En (T.map β):Int):Rat)*dt n m T:=by
 unfold dt ld;rw[pO]
 have:=X2 T β h Ae (Tk n m)
 have e:(vr ∘ λr:List Rat=>yN (wh (β r)) r)=λr:List Rat=>vr (r.map (wh (β r))):=rfl
 rw[e,this]
 grind
def SU(L:List Int):(∀b∈L,0<b/\b.natAbs<=2 ^ d)->0<En L/\(En L).natAbs<=2 ^ (d*L.length):=by
 induction L with
 |nil=>intro _;exact⟨by decide,by simp[En]⟩
 |cons b L ih =>
  intro h;obtain⟨h1,h2⟩:=ih (λx hx=>h x (by simp[hx]));obtain⟨F,O⟩:=h b (by simp);exists xK F h1;simp only[En];rw[pA,oP,rM,uD];exact Ce O h2
def Ao(f:Nat->Rat):Nat->Rat
 |0=>0
 |n+1=>Ao f n+f n
def K5:∀{n:Nat},i<n->(∀l,l<n->l≠i->f l=0)->Ao f n=f i:=by
 intro n
 induction n with
 |zero=>intro h;lia
 |succ n ih =>
  intro h g;by_cases hi:i=n
  ·subst hi
   have:∀m,m<=i->Ao f m=0:=by
    intro m
    induction m with
    |zero=>intro _;rfl
    |succ m ihm=>intro O;simp only[Ao];rw[ihm (by lia),g m (by lia) (by lia)];grind
   simp only[Ao];rw[this i (nQ _)];grind
  ·simp only[Ao];rw[ih (by lia) (λl hl F=>g l (by lia) F),g n (by lia) (by lia)];grind
def en(T:List (List Rat))(i j:Nat):Rat:=(T.getD i []).getD j 0
def Ky:∀{n:Nat},(∀l,l<n->f l=0)->Ao f n=0:=by
 intro n
 induction n with
 |zero=>intro _;rfl
 |succ n ih=>intro h;simp only[Ao];rw[ih (λl F=>h l (by lia)),h n (by lia)];grind
end Wd
namespace Wd
def fx(n:Nat)(x:Nat->Rat):Am->Rat:=λv=>Ao (λj=>v j*x j) n-v n
def Jz(f g:Nat->Rat):∀n,Ao (λj=>f j+g j) n=Ao f n+Ao g n:=by
 intro n
 induction n with
 |zero=>simp only[Ao];grind
 |succ n ih=>simp only[Ao];rw[ih];grind
def Rn(c:Rat)(f:Nat->Rat):∀n,Ao (λj=>c*f j) n=c*Ao f n:=by
 intro n
 induction n with
 |zero=>simp only[Ao];grind
 |succ n ih=>simp only[Ao];rw[ih];grind
def D0:∀{n},(∀j,j<n->f j=g j)->Ao f n=Ao g n:=by
 intro n
 induction n with
 |zero=>intro _;rfl
 |succ n ih=>intro h;simp only[Ao];rw[ih (λj F=>h j (by lia)),h n (by lia)]
def VT(n:Nat)(x:Nat->Rat):RD (fx n x):=by
 constructor
 ·intro u v;have e:Ao (λj=>(u j+v j)*x j) n=Ao (λj=>u j*x j+v j*x j) n:=D0 (λj _=>by grind);simp only[fx];rw[e,Jz];grind
 ·intro c v;have e:Ao (λj=>c*v j*x j) n=Ao (λj=>c*(v j*x j)) n:=D0 (λj _=>by grind);simp only[fx];rw[e,Rn];grind
def cU(A:Nat->Am)(hd:∀i,i<n->A i i≠0)(hz:∀i j,i<n->j<i->A i j=0):∀k,k<=n->∃x:Nat->Rat,∀i,n-k<=i->i<n->fx n x (A i)=0:=by
 intro k
 induction k with
 |zero=>intro _;exact⟨λ_=>0,λi h1 h2=>by lia⟩
 |succ k ih =>
  intro hk;obtain⟨x,hx⟩:=ih (by lia)
  let F:=n-(k+1)
  have aa:F<n:=by show n-(k+1)<n;lia
  let rest:=Ao (λj=>if j=F then 0 else A F j*x j) n
  let O:Nat->Rat:=λj=>if j=F then (A F n-rest) / A F F else x j
  refine⟨O,λi h1 h2=>?_⟩;have split:∀(B:Am) (y:Nat->Rat),Ao (λj=>B j*y j) n=B F*y F+Ao (λj=>if j=F then 0 else B j*y j) n:=by
   intro B y;have e:Ao (λj=>B j*y j) n=Ao (λj=>(if j=F then B F*y F else 0)+(if j=F then 0 else B j*y j)) n:=by
    refine D0 λj _=>?_
    by_cases h:j=F
    ·simp only[nX h,h];grind
    ·simp only[nS h];grind
   rw[e,Jz];congr 1;rw[K5 (i:=F) aa (λl _ ac=>nS ac)];simp
  by_cases ab:i=F
  ·subst ab;have ac:=hd F aa;have e2:Ao (λj=>if j=F then 0 else A F j*O j) n=rest:=by
    refine D0 λj _=>?_
    by_cases h:j=F
    ·simp only[nX h]
    ·simp only[nS h,O]
   simp only[fx];rw[split,e2];simp only[O,nX]
   grind
  ·have ad:F<i:=by
    have:n-(k+1)<=i:=h1
    show n-(k+1)<i
    have:i≠n-(k+1):=ab
    lia
   have h3:=hx i (by have:n-(k+1)<i:=ad;lia) h2;simp only[fx]at h3 ⊢;rw[split]at h3 ⊢;have z:A i F=0:=hz i F h2 ad;have e2:Ao (λj=>if j=F then 0 else A i j*O j) n=Ao (λj=>if j=F then 0 else A i j*x j) n:=by
    refine D0 λj _=>?_
    by_cases h:j=F
    ·simp only[nX h]
    ·simp only[nS h,O]
   rw[e2,z];rw[z]at h3
   grind
def ct:Am->BA->BA
 |_,_,[]=>0
 |y,w,false :: S=>y 0*w (true :: S)+ct (sh y) (BE w) S
 |y,w,true :: S=>- ct (sh y) (As w) S
def i7(S:List Bool):∀(y:Am) (w x:BA),ct y (λT=>w T+x T) S=ct y w S+ct y x S:=by
 induction S with
 |nil=>intro y w x;simp only[ct];grind
 |cons b S ih =>
  intro y w x;have F:BE (λT=>w T+x T)=λT=>BE w T+BE x T:=rfl
  have O:As (λT=>w T+x T)=λT=>As w T+As x T:=rfl
  cases b
  ·simp only[ct,F,ih];grind
  ·simp only[ct,O,ih];grind
def Ph(S:List Bool):∀(c:Rat) (y:Am) (w:BA),ct y (λT=>c*w T) S=c*ct y w S:=by
 induction S with
 |nil=>intro c y w;simp only[ct];grind
 |cons b S ih =>
  intro c y w;have F:BE (λT=>c*w T)=λT=>c*BE w T:=rfl
  have O:As (λT=>c*w T)=λT=>c*As w T:=rfl
  cases b
  ·simp only[ct,F,ih];grind
  ·simp only[ct,O,ih];grind
def jO(S:List Bool)(y:Am)(w x:BA):ct y (λT=>w T-x T) S=ct y w S-ct y x S:=by
 have e:(λT=>w T-x T)=λT=>w T+(λT=>(-1)*x T) T:=by funext T;grind
 rw[e,i7,Ph];grind
def HU(u y:Am):Nat->Rat
 |0=>0
 |n+1=>u 0*y 0+HU (sh u) (sh y) n
def j3(S:List Bool):∀(v y:Am) (w:BA),ct y (wg v w) S+wg v (ct y w) S=HU v y S.length*w S:=by
 induction S with
 |nil=>intro v y w;simp only[ct,wg,HU,rD];grind
 |cons b S ih =>
  intro v y w;cases b
  ·have h:=ih (sh v) (sh y) (BE w);have O:BE (wg v w)=wg (sh v) (BE w):=rfl;have F:BE (ct y w)=λT=>(λT=>y 0*As w T) T+ct (sh y) (BE w) T:=rfl
   simp only[ct,wg,HU,oP,O];rw[F,LS,FZ]
   have:BE w S=w (false :: S):=rfl
   grind
  ·have h:=ih (sh v) (sh y) (As w);have O:As (wg v w)=λT=>(λT=>v 0*BE w T) T-wg (sh v) (As w) T:=rfl
   have F:As (ct y w)=λT=>(-1)*ct (sh y) (As w) T:=by funext T;show-ct (sh y) (As w) T=_;grind
   simp only[ct,wg,HU,oP];rw[O,F,jO,Ph,FZ]
   have:As w S=w (true :: S):=rfl
   grind
def VC(S:List Bool):∀(v:Am) (w x:BA),(∀T:List Bool,T.length=S.length->w T=x T)->wg v w S=wg v x S:=by
 induction S with
 |nil=>intro v w x _;rfl
 |cons b S ih =>
  intro v w x h;cases b
  ·exact ih _ _ _ (λT F=>h (false :: T) (by simp[F]))
  ·simp only[wg];rw[h (false :: S) (by simp),ih (sh v) (As w) (As x) (λT F=>h (true :: T) (by simp[F]))]
def iJ(S:List Bool):∀y:Am,ct y Ae S=0:=by
 induction S with
 |nil=>intro y;rfl
 |cons b S ih =>
  intro y;cases b
  ·simp only[ct];have e:BE Ae=Ae:=rfl;have F:Ae (true :: S)=0:=rfl;rw[e,ih,F];grind
  ·simp only[ct];have e:As Ae=λT=>0*Ae T:=by funext T;show(0:Rat)=_;grind
   rw[e,Ph];grind
def ir(m:Nat)(y:Am)(L:List Am):∀(w:BA),(∀v∈L,HU v y m=0)->(∀S:List Bool,S.length=m->ct y w S=0)->∀S:List Bool,S.length=m->ct y (Aa L w) S=0:=by
 induction L with
 |nil=>intro w _ h;exact h
 |cons v L ih =>
  intro w F h;refine ih (wg v w) (λu hu=>F u (by simp[hu])) λS O=>?_
  have e:=j3 S v y w;have e2:wg v (ct y w) S=0:=by
   rw[VC S v (ct y w) (λ_=>0) (λT hT=>h T (by lia)),NB]
  rw[e2,O,F v (by simp)]at e
  grind
def U8(c:Nat):∀(y:Am) (w:BA) (S:List Bool),ct y w (nY c true++S)=sg c*ct (DO c y) (pre c w) S:=by
 induction c with
 |zero=>intro y w S;simp[sg];rfl
 |succ c ih =>
  intro y w S;simp only[pE,sX,ct];rw[ih,PQ];have O:DO c (sh y)=DO (c+1) y:=by funext j;simp only[DO,sh];congr 1
  have F:pre c (As w)=pre (c+1) w:=by funext T;simp[pre,As,pE]
  rw[O,F];grind
def bC(n:Nat):∀u y:Am,HU u y n=Ao (λj=>u j*y j) n:=by
 have F:∀n (f:Nat->Rat),Ao f (n+1)=f 0+Ao (λj=>f (j+1)) n:=by
  intro n f
  induction n with
  |zero=>simp only[Ao];grind
  |succ n ih=>rw[Ao,ih];simp only[Ao];grind
 induction n with
 |zero=>intro u y;rfl
 |succ n ih =>
  intro u y;simp only[HU];rw[ih,F];rfl
def Ko(n j:Nat):List Bool:=nY j true++false :: (nY (n-1-j) true++[true])
def OJ(n j:Nat):Rat:=CF n*sg (n-1-j)
def VN(h:∀a∈A,fx n x a=0)(hj:j<n):(Ko n j).length=n+1/\(OJ n j=1\/OJ n j=-1)/\x j*ld n (n+1) (Aa A Ae)=OJ n j*Aa A Ae (Ko n j):=by
 let y:Am:=λi=>if i=n then -1 else x i
 have O:∀v∈A,HU v y (n+1)=0:=by
  intro v hv;rw[bC];simp only[Ao];have e:Ao (λj=>v j*y j) n=Ao (λj=>v j*x j) n:=D0 λi hi=>by simp only[y,nS (show i≠n by lia)]
  have:=h v hv
  simp only[fx]at this;rw[e];simp only[y,nX];grind
 have hz:=ir (n+1) y A Ae O (λS _=>iJ S y) (nY j true++(false :: (nY (n-1-j) true++[false]))) (by simp;lia);generalize Aa A Ae=w at hz ⊢;rw[U8]at hz;simp only[ct]at hz;rw[U8]at hz;simp only[ct]at hz;have F:∀c,sg c=1\/sg c=-1:=by intro c;unfold sg;split;exact .inl rfl;exact .inr rfl
 have s2:∀c,CF c=1\/CF c=-1:=by
  intro c;induction c with
  |zero=>exact .inl rfl
  |succ c ih =>
   simp only[CF];rcases ih with a|a<;>rcases F c with b|b<;>rw[a,b]<;>grind
 have eT:nY j true++true :: (nY (n-1-j) true++[false])=Tk n (n+1):=by
  unfold Tk;rw[show n+1-n=1 by lia,List.replicate_one]
  have:nY j true++true :: (nY (n-1-j) true++[false])=(nY j true++nY 1 true++nY (n-1-j) true)++[false]:=by simp
  rw[this,uL,uL];congr 2;lia
 have y1:DO j y 0=x j:=by simp only[DO,y,uF,nS (show j≠n by lia)]
 have y2:DO (n-1-j) (sh (DO j y)) 0=-1:=by
  simp only[DO,sh,y];rw[nX (by lia)]
 have w1:pre j w (true :: (nY (n-1-j) true++[false]))=w (Tk n (n+1)):=by unfold pre;rw[eT]
 have w2:pre (n-1-j) (BE (pre j w)) [true]=w (nY j true++false :: (nY (n-1-j) true++[true])):=rfl;rw[y1,y2,w1,w2]at hz;unfold Ko OJ;exists by simp;lia,?_
 ·rcases s2 n with a|a<;>rcases F (n-1-j)with b|b<;>rw[a,b]<;>grind
 ·unfold ld;have hs:=F j;rcases F j with a|a<;>rw[a]at hz<;>grind
def Sz(F:c≠0):fx n x (λj=>c*v j)=0↔fx n x v=0:=by
 rw[(VT n x).HX];constructor
 ·intro h;grind
 ·intro h;rw[h];grind
end Wd
namespace Mth
def fO(h:0<c)(h1:c ∣ M)(h2:(q.den:Int) ∣ M):CT c q ∣ M:=by
 have hq:=q.den_nz;have hg:0<pU c q.den:=tL _ (by lia);have F:=uB c (q.den:Int);have e:CT c q=c / (pU c q.den:Int)*q.den:=by unfold CT;rw[qd F]
 have l:c / (pU c q.den:Int)*q.den=(Int.lcm c q.den:Int):=by
  have h3:(pU c q.den:Int)*(Int.lcm c q.den:Int)=c*q.den:=by
   have:=Int.gcd_mul_lcm c (q.den:Int)
   have O:((c*(q.den:Int)).natAbs:Int)=c*q.den:=by
    have:0<c*(q.den:Int):=xK h (by lia)
    lia
   rw[<-O,pA,<-this,aby]
  have h5:(pU c q.den:Int)≠0:=by lia
  refine Int.eq_of_mul_eq_mul_left h5 ?_;rw[h3,<-Int.mul_assoc,Int.mul_ediv_cancel' F]
 rw[e,l];exact Int.coe_lcm_dvd h1 h2
def QM(r:List Rat):∀{c:Int},0<c->c ∣ M->(∀q∈r,(q.den:Int) ∣ M)->r.foldl CT c ∣ M:=by
 induction r with
 |nil=>intro c _ h _;exact h
 |cons q r ih =>
  intro c F h1 h2;exact ih (Ui F q).1 (fO F h1 (h2 q (by simp))) (λp O=>h2 p (by simp[O]))
def jU(F:0<M)(h:∀q∈r,(q.den:Int) ∣ M):(cb r).natAbs<=M.natAbs:=by
 have h1:cb r ∣ M:=QM r (by decide) (zp _) h;exact vC (by lia) (wH.mpr h1)
def T7{M k:Int}(h:(M:Rat)*q=k):(q.den:Int) ∣ M:=by
 have h1:=GJ q;have e:(((M*q.num:Int)):Rat)=((k*q.den:Int):Rat):=by
  rw[pj,pj,ic];grind
 have F:M*q.num=k*q.den:=by exact_mod_cast e
 have e3:M.natAbs*q.num.natAbs=k.natAbs*q.den:=by
  have:=congrArg abx F
  rw[pA,pA,oW]at this;exact this
 have O:xM q.den q.num.natAbs:=xM.symm q.reduced
 have:q.den ∣ M.natAbs:=xM.dvd_of_dvd_mul_right O ⟨k.natAbs,by rw[e3,vN]⟩
 exact xQ.mpr this
def TQ:∀{r:List Rat} {p:Rat},p∈r->p.den<=(r.map (·.den)).sum
 |q :: r,p,h=>by
  rw[n9,oJ];rcases oj.mp h with rfl|h
  ·lia
  ·have:=TQ h;lia
def LX(r:List Rat):0<cb r/\∀q∈r,(q.den:Int) ∣ cb r:=by
 obtain⟨a,_,b,_⟩:=Vg r (c:=1) (D:=0) (d:=(r.map (·.den)).sum) (by decide) (by decide) (λp F=>by
  have h1:p.den<=(r.map (·.den)).sum:=TQ F;have h2:(r.map (·.den)).sum<2 ^ (r.map (·.den)).sum:=Nat.lt_two_pow_self
  lia)
 exact⟨a,b⟩
def Vb(v:Nat)(q:Rat):Prop:=Wd.Ab ((2 ^ v:Nat):Rat) q
def Sb.vb(h:Sb n d q):Vb n q:=by
 have h1:=GJ q;have h2:(1:Rat)<=((q.den:Nat):Rat):=by
  have:1<=q.den:=by have:=q.den_nz;lia
  exact_mod_cast this
 have O:=Wd.JD h.1;obtain⟨a,b⟩:=O;have nn:(0:Rat)<=((2 ^ n:Nat):Rat):=by exact_mod_cast pD _
 rw[<-h1]at a b;constructor
 ·by_cases F:0<=q
  ·grind
  ·have:0<=(-q)*(((q.den:Nat):Rat)-1):=qT (by grind) (by grind)
   grind
 ·by_cases F:0<=q
  ·have:0<=q*(((q.den:Nat):Rat)-1):=qT F (by grind)
   grind
  ·grind
def Vo(h:(q.den:Int) ∣ b)(h1:Vb v q)(h2:b.natAbs<=2 ^ D):(wh b q).natAbs<=2 ^ (D+v):=by
 refine Wd.GL ?_;rw[LR h]
 have:=(Wd.JD h2).Ew h1
 have e:(((2 ^ D:Nat)):Rat)*((2 ^ v:Nat):Rat)=((2 ^ (D+v):Nat):Rat):=by rw[vE,uV]
 rw[e]at this;exact this
def Vb.Ew(h:Vb v p)(g:Vb u q):Vb (v+u) (p*q):=by
 have:=Wd.Ab.Ew h g
 have e:(((2 ^ v:Nat)):Rat)*((2 ^ u:Nat):Rat)=((2 ^ (v+u):Nat):Rat):=by rw[vE,uV]
 rw[e]at this;exact this
def Vb.DZ(h:Vb v p)(g:Vb v q):Vb (v+1) (p+q):=by
 obtain⟨a,b⟩:=h;obtain⟨c,d⟩:=g;have e:((2 ^ (v+1):Nat):Rat)=((2 ^ v:Nat):Rat)+((2 ^ v:Nat):Rat):=by
  rw[tN,Nat.mul_two,Rat.natCast_add]
 unfold Vb Wd.Ab;rw[e];constructor<;>grind
def Vb.mono(h:Vb v p)(F:v<=u):Vb u p:=by
 refine Wd.Ab.le h ?_
 exact_mod_cast pk (by decide) F
end Mth
namespace Wd
open Mth
variable {T:List (List Rat)}{rs:List AX}{i:Nat}{x:Nat->Rat}
def bX(S:List Bool):∀(u v:Am) (w:BA),(∀j,j<S.length->u j=v j)->wg u w S=wg v w S:=by
 induction S with
 |nil=>intro u v w _;rfl
 |cons b S ih =>
  intro u v w h;have h2:=ih (sh u) (sh v);cases b
  ·exact h2 _ (λj F=>h (j+1) (by simp;lia))
  ·simp only[wg];rw[h 0 (by simp),h2 _ (λj F=>h (j+1) (by simp;lia))]
def eQ(S:List Bool):∀(v:Am) (w:BA),wg v w (S++[false])=wg v (λT=>w (T++[false])) S:=by
 induction S with
 |nil=>intro v w;rfl
 |cons b S ih =>
  intro v w;cases b
  ·exact ih (sh v) (BE w)
  ·simp only[sX,wg];rw[ih];rfl
def Zw(S:List Bool):Ae (S++[false])=Ae S:=by
 induction S with
 |nil=>rfl
 |cons b S ih=>cases b;exact ih;rfl
def Zx(n:Nat)(L:List (Am×Am)):∀(w x:BA),(∀p∈L,∀j,j<n->p.1 j=p.2 j)->(∀T:List Bool,T.length=n->w (T++[false])=x T)->∀S:List Bool,S.length=n->Aa (L.map (·.1)) w (S++[false])=Aa (L.map (·.2)) x S:=by
 induction L with
 |nil=>intro w x _ h S F;exact h S F
 |cons p L ih =>
  intro w x O h S F;refine ih (wg p.1 w) (wg p.2 x) (λq hq=>O q (by simp[hq])) (λT hT=>?_) S F;rw[eQ,bX T p.1 p.2 _ (λj hj=>O p (by simp) j (by lia))];exact VC T p.2 _ _ (λU hU=>h U (by lia))
def U9(h:j<row.length):vq (row++[q]) j=vq row j:=by
 simp only[vq,nO];rw[oH h]
def jj:vq (row++[q]) row.length=q:=by
 simp only[vq,nO];rw[oo (nQ _)];simp
def dZ(hT:T.length=n)(hr:r.length=n)(hc:∀x∈T,x.length=n):dt n (n+1) (wY (λrow q=>row++[q]) T r)=dt n n T:=by
 have e1:(wY (λrow q=>row++[q]) T r).map vq=((T.zip r).map λp=>(vq (p.1++[p.2]),vq p.1)).map (·.1):=by
  rw[pO,abk,List.zip,abk];rfl
 have F:T.map vq=((T.zip r).map λp=>(vq (p.1++[p.2]),vq p.1)).map (·.2):=by
  rw[pO]
  have:(T.zip r).map zW=T:=List.map_fst_zip (by lia)
  conv=>lhs;rw[<-this]
  rw[pO];rfl
 unfold dt ld;rw[e1,F];congr 1;have t1:Tk n (n+1)=Tk n n++[false]:=by
  unfold Tk;rw[show n+1-n=1 by lia,tP];simp
 rw[t1];refine Zx n _ Ae Ae (λp hp j hj=>?_) (λT _=>Zw T) _ (by unfold Tk;simp);obtain⟨q,O,rfl⟩:=n8.mp hp;exact U9 (by rw[hc q.1 (wX O).1];exact hj)
def cM(h:row.length=n):fx n x (vq (row++[q]))=Ao (λj=>vq row j*x j) n-q:=by
 simp only[fx];rw[D0 (λj F=>by rw[U9 (by lia)])]
 have:=jj (row:=row) (q:=q)
 rw[h]at this;rw[this]
def nK(n:Nat)(row F:List Rat):Rat:=Ao (λj=>row.getD j 0*F.getD j 0) n
def DM(T:List (List Rat))(i j:Nat)(v:Rat):List (List Rat):=T.set i ((T.getD i []).set j v)
structure Sq(n:Nat)(T:List (List Rat)):Prop where
 len:T.length=n
 Fz:∀r∈T,r.length=n
def Sq.row(h:Sq n T)(hi:i<n):(T.getD i []).length=n/\T[i]?=some (T.getD i []):=by
 have e:T[i]?=some (T[i]'(by rw[h.len];exact hi)):=nj _;have F:T.getD i []=T[i]'(by rw[h.len];exact hi):=by rw[nO,e];rfl
 rw[F];exact⟨h.Fz _ (pX _),e⟩
def Sq.set(h:Sq n T)(hi:i<n):Sq n (DM T i j v):=by
 refine⟨by unfold DM;rw[rS];exact h.len,λr F=>?_⟩;unfold DM at F;rcases rT F with h1|h1
 ·exact h.Fz r h1
 ·rw[h1,rS];exact(h.row hi).1
def Iu(h:Sq n T)(hi:i<n)(hj:j<n)(F O:Nat):en (DM T i j v) F O=if F=i/\O=j then v else en T F O:=by
 unfold en DM;have hl:=(h.row hi).1;by_cases e:i=F
 ·subst e
  have:(T.set i ((T.getD i []).set j v)).getD i []=(T.getD i []).set j v:=by
   rw[nO,pM (by rw[h.len];exact hi)];rfl
  rw[this];by_cases e2:j=O
  ·subst e2;rw[nX ⟨J,J⟩,nO,pM (by lia)];rfl
  ·rw[nS (λz=>e2 z.2.symm),nO,pF e2,<-List.getD_eq_getElem?_getD]
 ·have:(T.set i ((T.getD i []).set j v)).getD F []=T.getD F []:=by
   rw[nO,pF e,<-List.getD_eq_getElem?_getD]
  rw[this,nS (λz=>e z.1.symm)]
abbrev AX:=Nat×Nat×Rat
def Cs(T:List (List Rat))(r:AX):List (List Rat) :=
 if r.1=r.2.1 then T else
 let F:=DM T r.1 r.1 (en T r.1 r.1+r.2.2)
 let O:=DM F r.2.1 r.2.1 (en F r.2.1 r.2.1+r.2.2)
 let T3:=DM O r.1 r.2.1 (en O r.1 r.2.1-r.2.2)
 DM T3 r.2.1 r.1 (en T3 r.2.1 r.1-r.2.2)
def ER(n:Nat):List (List Rat):=nY n (nY n 0)
def Bs(n:Nat)(rs:List AX):List (List Rat):=rs.foldl Cs (ER n)
def To(n:Nat):Sq n (ER n):=⟨by simp[ER],λr F=>by rw[(aax.mp F).2];simp⟩
def Tb(n i j:Nat):en (ER n) i j=0:=by
 unfold en ER;rw[nO,nO,uN];split
 ·simp only[abq];rw[uN];split<;>rfl
 ·rfl
def DJ(r:AX)(i j:Nat):Rat :=
 if r.1=r.2.1 then 0 else (if i=r.1/\j=r.1 then r.2.2 else 0)+(if i=r.2.1/\j=r.2.1 then r.2.2 else 0)-(if i=r.1/\j=r.2.1 then r.2.2 else 0)-(if i=r.2.1/\j=r.1 then r.2.2 else 0)
def Rc(h:Sq n T)(h1:r.1<n)(h2:r.2.1<n):Sq n (Cs T r)/\∀i j,en (Cs T r) i j=en T i j+DJ r i j:=by
 unfold Cs DJ;by_cases e:r.1=r.2.1
 ·simp only[nX e];exact⟨h,λi j=>by grind⟩
 ·simp only[nS e];have q1:=h.set (j:=r.1) (v:=en T r.1 r.1+r.2.2) h1;have e1:=Iu h (v:=en T r.1 r.1+r.2.2) h1 h1;generalize DM T r.1 r.1 (en T r.1 r.1+r.2.2)=F at q1 e1;have q2:=q1.set (j:=r.2.1) (v:=en F r.2.1 r.2.1+r.2.2) h2;have e2:=Iu q1 (v:=en F r.2.1 r.2.1+r.2.2) h2 h2;generalize DM F r.2.1 r.2.1 (en F r.2.1 r.2.1+r.2.2)=O at q2 e2;have q3:=q2.set (j:=r.2.1) (v:=en O r.1 r.2.1-r.2.2) h1;have e3:=Iu q2 (v:=en O r.1 r.2.1-r.2.2) h1 h2;generalize DM O r.1 r.2.1 (en O r.1 r.2.1-r.2.2)=T3 at q3 e3;have q4:=q3.set (j:=r.1) (v:=en T3 r.2.1 r.1-r.2.2) h2;have e4:=Iu q3 (v:=en T3 r.2.1 r.1-r.2.2) h2 h1;refine⟨q4,λi j=>?_⟩;rw[e4];simp only[e3,e2,e1]
  grind
def eI:∀(rs:List AX) {T:List (List Rat)},Sq n T->(∀r∈rs,r.1<n/\r.2.1<n)->Sq n (rs.foldl Cs T)/\∀i j,en (rs.foldl Cs T) i j=en T i j+(rs.map λr=>DJ r i j).sum:=by
 intro rs
 induction rs with
 |nil=>intro T h _;exact⟨h,λi j=>by simp only[p9,qV,List.foldl_nil];grind⟩
 |cons r rs ih =>
  intro T h F;obtain⟨a,b⟩:=Rc h (F r (by simp)).1 (F r (by simp)).2;obtain⟨c,d⟩:=ih a (λx O=>F x (by simp[O]));refine⟨c,λi j=>?_⟩;rw[vI,d,b,n9,oJ];grind
def Zf(c:Nat)(L:List Am):∀(w:BA) (S:List Bool),(∀v∈L,∀j,j<c->v j=0) →
  ∃e:Rat,e*e=1/\Aa L w (nY c true++S)=e*Aa (L.map (DO c)) (pre c w) S:=by
 induction L with
 |nil=>intro w S _;exact⟨1,by grind,by simp[Aa,pre]⟩
 |cons v L ih =>
  intro w S h;obtain⟨e,h1,O⟩:=ih (wg v w) S (λu F=>h u (by simp[F]));refine⟨e*sg c,by have:=JH c;grind,?_⟩;simp only[Aa,n9];rw[O]
  have:pre c (wg v w)=λT=>sg c*wg (DO c v) (pre c w) T:=by
   funext T;exact P2 c v w T (h v (by simp))
  rw[this,IA];grind
def Jo(f:Nat->Rat):∀n,Ao f (n+1)=f 0+Ao (λj=>f (j+1)) n:=by
 intro n
 induction n with
 |zero=>simp only[Ao];grind
 |succ n ih =>
  have:Ao f (n+1+1)=Ao f (n+1)+f (n+1):=rfl
  rw[this,ih];simp only[Ao];grind
def bI(r:Am)(c:Am->Rat)(M:List Am):∀(w:BA),(∀S,wg r w S=0)->Aa (M.map λv=>λj=>v j + -c v*r j) w=Aa M w:=by
 induction M with
 |nil=>intro w _;rfl
 |cons v M ih =>
  intro w h;simp only[n9,Aa];have e:wg (λj=>v j + -c v*r j) w=wg v w:=by
   funext S
   have h1:=K8 S v (λj=>-c v*r j) w;rw[Hs,h S]at h1;rw[h1];grind
  rw[e];refine ih _ (λS=>?_);have F:wg r w=λ_=>0:=funext h
  rw[LK,F,NB];grind
def lj:∀(n:Nat) (L:List Am),L.length=n->ld n n (Aa L Ae)=0->∃x:Nat->Rat,(∃j,j<n/\x j≠0)/\∀v∈L,Ao (λj=>v j*x j) n=0:=by
 intro n
 induction n with
 |zero =>
  intro L hL h
  have:L=[]:=qQ.mp hL
  subst this;have h1:=Pz 0;rw[show Aa [] Ae=Ae from rfl,h1]at h
  grind
 |succ n ih =>
  intro L hL h;by_cases hz:∀v∈L,v 0=0
  ·refine⟨λj=>if j=0 then 1 else 0,⟨0,by lia,by simp⟩,λv F=>?_⟩;rw[K5 (i:=0) (by lia) (λl _ O=>by simp[O])];rw[hz v F];grind
  ·have ac:∃r,r∈L/\r 0≠0:=by
    apply ue;intro hn;exact hz (λv F=>ue λz=>hn ⟨v,F,z⟩)
   obtain⟨r,hr,h0⟩:=ac;obtain⟨A,B,rfl⟩:=xS hr;have O:(A++B).length=n:=by simp at hL ⊢;lia
   let c:Am->Rat:=λv=>v 0 / r 0
   let f:Am->Am:=λv=>λj=>v j + -c v*r j
   have e1:∀S,Aa (A++r :: B) Ae S=sg A.length*Aa ((A++B).map f) (wg r Ae) S:=by
    intro S;have q1:Aa ((A++B).map f) (wg r Ae)=Aa (A++B) (wg r Ae):=bI r c (A++B) (wg r Ae) (λS=>KS S r Ae);rw[q1,Gu,Gu];have q2:Aa A (wg r Ae)=λT=>sg A.length*wg r (Aa A Ae) T:=funext λT=>VW A r Ae T
    rw[q2,IA];show Aa B (wg r (Aa A Ae)) S=_
    have:=JH A.length
    grind
   have fz:∀v∈(A++B).map f,∀j,j<1->v j=0:=by
    intro v F j hj;obtain⟨u,_,rfl⟩:=n8.mp F
    have:j=0:=by lia
    subst this;show u 0 + -(u 0 / r 0)*r 0=0
    have:u 0 / r 0*r 0=u 0:=aaF h0
    grind
   obtain⟨e,ee,he⟩:=Zf 1 ((A++B).map f) (wg r Ae) (nY n true) fz;have e2:pre 1 (wg r Ae)=λT=>r 0*Ae T:=by
    funext T
    show wg r Ae (true :: T)=_;simp only[wg]
    have:As Ae=λ_=>0:=by funext S;rfl
    rw[this,NB];show r 0*Ae T-0=_
    grind
   have e3:Tk (n+1) (n+1)=nY 1 true++nY n true:=by unfold Tk;simp[pE]
   have e4:Tk n n=nY n true:=by unfold Tk;simp
   have h2:ld n n (Aa (((A++B).map f).map (DO 1)) Ae)=0:=by
    unfold ld at h ⊢;rw[e3,e1,he,e2,IA]at h;rw[e4];have t1:=KC (n+1);have t2:=JH A.length;have nt:CF (n+1)≠0:=λz=>by rw[z]at t1;grind
    have ns:sg A.length≠0:=λz=>by rw[z]at t2;grind
    have ne:e≠0:=λz=>by rw[z]at ee;grind
    have z:=(rX.mp h).resolve_left nt;have z:=(rX.mp z).resolve_left ns;have z:=(rX.mp z).resolve_left ne;have z:=(rX.mp z).resolve_left h0;rw[z];grind
   obtain⟨y,⟨j,hj,hy⟩,hs⟩:=ih _ (by simp only[nh];exact O) h2
   let s:=Ao (λj=>r (j+1)*y j) n
   let x:Nat->Rat:=λj=>match j with|0=>-s / r 0|j+1=>y j
   have x0:r 0*x 0=-s:=by
    show r 0*(-s / r 0)=-s;rw[tQ];exact aaF h0
   have aa:Ao (λj=>r j*x j) (n+1)=0:=by
    rw[Jo];show r 0*x 0+s=0;rw[x0];grind
   refine⟨x,⟨j+1,by lia,hy⟩,λv F=>?_⟩;have ab:v=r\/v∈A++B:=by
    rcases om.mp F with z|z
    ·exact .inr (om.mpr (.inl z))
    ·rcases oj.mp z with z|z
     ·exact .inl z
     ·exact .inr (om.mpr (.inr z))
   rcases ab with rfl|hm
   ·exact aa
   ·have g1:=hs (DO 1 (f v)) (n8.mpr ⟨f v,n8.mpr ⟨v,hm,J⟩,J⟩);have g2:Ao (λj=>f v j*x j) (n+1)=0:=by
     rw[Jo,show f v 0=0 from fz _ (n8.mpr ⟨v,hm,J⟩) 0 (by lia)]
     have:Ao (λj=>f v (j+1)*x (j+1)) n=0:=g1
     rw[this];grind
    have g3:Ao (λj=>f v j*x j) (n+1)=Ao (λj=>v j*x j) (n+1) + -c v*Ao (λj=>r j*x j) (n+1):=by
     rw[<-Rn,<-Jz];refine D0 λj _=>?_
     show(v j + -c v*r j)*x j=_
     grind
    rw[g2,aa]at g3
    grind
def Au(X:Nat->Rat)(r:AX):Rat:=r.2.2*(X r.1-X r.2.1)
def Ct(X:Nat->Rat)(i:Nat)(r:AX):Rat:=(if i=r.1 then Au X r else 0)-(if i=r.2.1 then Au X r else 0)
def A8(X:Nat->Rat)(rs:List AX)(i:Nat):Rat:=(rs.map (Ct X i)).sum
def Qe(n:Nat)(rs:List AX):Prop:=∀S:Nat->Prop,S 0->(∀r∈rs,S r.1↔S r.2.1)->∀p,p<n->S p
def MP(c:Rat)(hi:i<n):Ao (λj=>if j=i then c else 0) n=c:=by
 rw[K5 (i:=i) hi (λl _ h=>by rw[nS h])];rw[nX rfl]
def Za(h1:r.1<n)(h2:r.2.1<n)(X:Nat->Rat)(i:Nat):Ao (λj=>DJ r i j*X j) n=Ct X i r:=by
 by_cases e:r.1=r.2.1
 ·have:∀j,DJ r i j*X j=0:=λj=>by unfold DJ;rw[nX e];grind
  rw[Ky (λl _=>this l)];unfold Ct Au;rw[e];grind
 ·have:∀j,DJ r i j*X j=(if j=r.1 then (if i=r.1 then r.2.2*X r.1 else 0)-(if i=r.2.1 then r.2.2*X r.1 else 0) else 0)+(if j=r.2.1 then (if i=r.2.1 then r.2.2*X r.2.1 else 0)-(if i=r.1 then r.2.2*X r.2.1 else 0) else 0):=by
   intro j;unfold DJ;rw[nS e];by_cases O:j=r.1
   ·subst O;by_cases a2:i=r.1<;>by_cases F:i=r.2.1<;>simp[a2,F,e]<;>grind
   ·by_cases a4:j=r.2.1
    ·subst a4;by_cases a2:i=r.1<;>by_cases F:i=r.2.1<;>simp[O,a2,F,e]<;>grind
    ·simp[O,a4];grind
  rw[D0 (g:=λj=>(if j=r.1 then (if i=r.1 then r.2.2*X r.1 else 0)-(if i=r.2.1 then r.2.2*X r.1 else 0) else 0)+(if j=r.2.1 then (if i=r.2.1 then r.2.2*X r.2.1 else 0)-(if i=r.1 then r.2.2*X r.2.1 else 0) else 0)) (λj _=>this j)];rw[Jz,MP _ h1,MP _ h2];unfold Ct Au
  grind
def TJ(f:AX->Nat->Rat):∀rs:List AX,Ao (λj=>(rs.map λr=>f r j).sum) n=(rs.map λr=>Ao (f r) n).sum:=by
 intro rs
 induction rs with
 |nil=>simp only[p9,qV];exact Ky λ_ _=>rfl
 |cons r rs ih=>simp only[n9,oJ];rw[Jz,ih]
def Og(c:Rat)(f:AX->Rat)(rs:List AX):(rs.map f).sum*c=(rs.map λr=>f r*c).sum:=by
 induction rs with
 |nil=>simp only[p9,qV];grind
 |cons r rs ih=>simp only[n9,oJ];rw[<-ih];grind
def K1{f g:AX->Rat}(h:∀r∈rs,f r=g r):(rs.map f).sum=(rs.map g).sum:=by rw[qM h]
def IB(h:∀r∈rs,r.1<n/\r.2.1<n):Sq n (Bs n rs)/\∀i j,en (Bs n rs) i j=(rs.map λr=>DJ r i j).sum:=by
 obtain⟨a,b⟩:=eI rs (To n) h;refine⟨a,λi j=>?_⟩
 have:=b i j
 rw[Tb]at this;show en (rs.foldl Cs (ER n)) i j=_;rw[this];grind
def S8(h:∀r∈rs,r.1<n/\r.2.1<n)(X:Nat->Rat)(i:Nat):Ao (λj=>en (Bs n rs) i j*X j) n=A8 X rs i:=by
 rw[D0 (g:=λj=>(rs.map λr=>DJ r i j*X j).sum) (λj _=>by rw[(IB h).2,Og])];rw[TJ (λr j=>DJ r i j*X j)];exact K1 λr F=>Za (h r F).1 (h r F).2 X i
def bM(h1:r.1<n)(h2:r.2.1<n)(X Y:Nat->Rat):Ao (λi=>Y i*Ct X i r) n=Au X r*(Y r.1-Y r.2.1):=by
 have:∀i,Y i*Ct X i r=(if i=r.1 then Y r.1*Au X r else 0)+(if i=r.2.1 then-(Y r.2.1*Au X r) else 0):=by
  intro i;unfold Ct;by_cases a:i=r.1<;>by_cases b:i=r.2.1<;>simp[a,b]<;>grind
 rw[D0 (λi _=>this i),Jz,MP _ h1,MP _ h2];grind
def Mj(h:∀r∈rs,r.1<n/\r.2.1<n)(X Y:Nat->Rat):Ao (λi=>Y i*A8 X rs i) n=(rs.map λr=>Au X r*(Y r.1-Y r.2.1)).sum:=by
 rw[D0 (g:=λi=>(rs.map λr=>Y i*Ct X i r).sum) (λi _=>by unfold A8;rw[tQ,Og];exact K1 λr _=>tQ _ _)];rw[TJ (λr i=>Y i*Ct X i r)];exact K1 λr F=>bM (h r F).1 (h r F).2 X Y
def Vk(x:Rat):0<=x*x:=by
 rcases Rat.le_total (a:=0) (b:=x)with h|h
 ·exact qT h h
 ·have:0<=-x:=by grind
  have:=qT this this
  grind
def Us{f:AX->Rat}:∀{rs:List AX},(∀r∈rs,0<=f r)->0<=(rs.map f).sum:=by
 intro rs
 induction rs with
 |nil=>intro _;simp only[p9,qV];exact Rat.le_refl
 |cons r rs ih =>
  intro h;simp only[n9,oJ];have h1:=h r (by simp);have h2:=ih (λx F=>h x (by simp[F]))
  grind
def TM{f:AX->Rat}:∀{rs:List AX},(∀r∈rs,0<=f r)->(rs.map f).sum=0->∀r∈rs,f r=0:=by
 intro rs
 induction rs with
 |nil=>intro _ _ r F;cases F
 |cons r rs ih =>
  intro h e x hx;simp only[n9,oJ]at e;have h1:=h r (by simp);have h2:=Us (f:=f) (rs:=rs) (λx hx=>h x (by simp[hx]));rcases oj.mp hx with rfl|hx
  ·grind
  ·exact ih (λx hx=>h x (by simp[hx])) (by grind) x hx
def SD(h:∀r∈rs,r.1<n/\r.2.1<n/\0<r.2.2)(g:Qe n rs)(h0:X 0=0)(hb:∀i,i<n->X i=0\/A8 X rs i=0):∀i,i<n->X i=0:=by
 have h':∀r∈rs,r.1<n/\r.2.1<n:=λr F=>⟨(h r F).1,(h r F).2.1⟩
 have O:=Mj h' X X;rw[Ky (λi hi=>by rcases hb i hi with z|z<;>rw[z]<;>grind)]at O;have nn:∀r∈rs,0<=Au X r*(X r.1-X r.2.1):=by
  intro r F;have a:=Vk (X r.1-X r.2.1);have b:=qT (xh (h r F).2.2) a;unfold Au;grind
 have e2:=TM nn O.symm;refine g (λp=>X p=0) h0 (λr F=>?_);have e3:=e2 r F;unfold Au at e3;have pe:r.2.2≠0:=λz=>by have:=(h r F).2.2;rw[z]at this;exact absurd this (ab1)
 have e4:r.2.2*((X r.1-X r.2.1)*(X r.1-X r.2.1))=0:=by grind
 have e5:=(rX.mp e4).resolve_left pe;have e6:X r.1-X r.2.1=0:=by rcases rX.mp e5 with z|z<;>exact z
 have e7:X r.1=X r.2.1:=by grind
 rw[e7]
def Et(T:List (List Rat)):List (List Rat):=(T.drop 2).map (·.drop 2)
def J6(q:Sq (n+2) T):(Et T).length=n/\∀r∈Et T,r.length=n:=by
 refine⟨by unfold Et;rw[nh,pY,q.len];lia,λr F=>?_⟩;obtain⟨s,hs,rfl⟩:=n8.mp F;rw[pY,q.Fz s (ui hs)];lia
def PF(q:Sq (n+2) T)(hi:i<n):(Et T)[i]?=some ((T.getD (i+2) []).drop 2):=by
 unfold Et;rw[nV,tM,uD 2 i,(q.row (by lia)).2];rfl
def UQ(r:List Rat)(j:Nat):vq (r.drop 2) j=r.getD (j+2) 0:=by
 unfold vq;rw[nO,tM,uD 2 j,<-List.getD_eq_getElem?_getD]
def Lc(a b:Rat)(x:Nat->Rat):Nat->Rat
 |0=>a
 |1=>b
 |j+2=>x j
def SG(f:Nat->Rat)(a b:Rat)(x:Nat->Rat)(n:Nat):Ao (λj=>f j*Lc a b x j) (n+2)=f 0*a+(f 1*b+Ao (λj=>f (j+2)*x j) n):=by
 rw[Jo,Jo];rfl
def jG(h:∀r∈rs,r.1<n+2/\r.2.1<n+2/\0<r.2.2)(g:Qe (n+2) rs):dt n n (Et (Bs (n+2) rs))≠0:=by
 have h':∀r∈rs,r.1<n+2/\r.2.1<n+2:=λr F=>⟨(h r F).1,(h r F).2.1⟩
 have q:=(IB h').1;intro z;obtain⟨x,⟨j,hj,hx⟩,hs⟩:=lj n _ (by rw[nh];exact(J6 q).1) z;have e:=SD h g (X:=Lc 0 0 x) rfl (λi hi=>by
  match i with
  |0=>exact .inl rfl
  |1=>exact .inl rfl
  |i+2 =>
   right
   rw[<-S8 h',SG];have e1:=hs (vq ((Bs (n+2) rs).getD (i+2) [] |>.drop 2)) (n8.mpr ⟨_,nz (PF q (by lia)),J⟩);have O:Ao (λj=>en (Bs (n+2) rs) (i+2) (j+2)*x j) n=0:=by
    rw[<-e1];refine D0 λj _=>?_
    rw[UQ];rfl
   rw[O];grind) (j+2) (by lia)
 exact hx e
def Fd(T:List (List Rat)):List Rat:=(T.drop 2).map λr=>0-r.getD 0 0
def OW(q:Sq (n+2) T):(Fd T).length=n:=by unfold Fd;rw[nh,pY,q.len];lia
def SJ(q:Sq (n+2) T)(hi:i<n):(Fd T)[i]?=some (0-en T (i+2) 0):=by
 unfold Fd;rw[nV,tM,uD 2 i,(q.row (by lia)).2];rfl
def kG (h:∀r∈rs,r.1<n+2/\r.2.1<n+2)
  (hx:∀y∈wY (λrow q=>row++[q]) (Et (Bs (n+2) rs)) (Fd (Bs (n+2) rs)),fx n x (vq y)=0):∀i,2<=i->i<n+2->A8 (Lc 1 0 x) rs i=0:=by
 have q:=(IB h).1;intro i h2 hi;obtain⟨k,rfl⟩:∃k,i=k+2:=⟨i-2,by lia⟩;rw[<-S8 h,SG];have O:=hx ((((Bs (n+2) rs).getD (k+2) []).drop 2)++[0-en (Bs (n+2) rs) (k+2) 0]) (by
  refine nz (i:=k) ?_;rw[vf,PF q (by lia),SJ q (by lia)])
 rw[cM (by rw[pY,(q.row (i:=k+2) (by lia)).1];lia)]at O;have F:Ao (λj=>en (Bs (n+2) rs) (k+2) (j+2)*x j) n=Ao (λj=>vq (((Bs (n+2) rs).getD (k+2) []).drop 2) j*x j) n:=by
  refine D0 λj _=>?_
  rw[UQ];rfl
 rw[F];grind
def aG(h:∀r∈rs,r.1<n/\r.2.1<n)(X:Nat->Rat):Ao (λi=>A8 X rs i) n=0:=by
 have e:=Mj h X (λ_=>1);rw[D0 (g:=λi=>A8 X rs i) (λi _=>by grind)]at e;rw[e]
 have:(rs.map λr=>Au X r*((1:Rat)-1)).sum=(rs.map λr=>(λ_:AX=>(0:Rat)) r).sum:=K1 λr _=>by grind
 rw[this];clear this e h
 induction rs with
 |nil=>rfl
 |cons r rs ih=>simp only[n9,oJ];rw[ih];grind
def YD(h:∀r∈rs,r.1<n+2/\r.2.1<n+2)(F:∀i,2<=i->i<n+2->A8 X rs i=0):A8 X rs 1=- A8 X rs 0:=by
 have e:=aG h X;rw[Jo,Jo,Ky (λi hi=>F (i+1+1) (by lia) (by lia))]at e
 have:A8 X rs (0+1)=A8 X rs 1:=rfl
 rw[this]at e
 grind
def BM.DZ{x y:Rat}(h:BM x)(g:BM y):BM (x+y):=by
 obtain⟨a,rfl⟩:=h;obtain⟨b,rfl⟩:=g;exact⟨a+b,by grind⟩
def BM.Eu{x:Rat}(h:BM x):BM (-x):=by
 obtain⟨a,rfl⟩:=h;exact⟨-a,by grind⟩
def BM.zero:BM 0:=⟨0,J⟩
def fS:∀{rs:List AX},(∀r∈rs,BM (f r))->BM (rs.map f).sum:=by
 intro rs
 induction rs with
 |nil=>intro _;exact⟨0,J⟩
 |cons r rs ih=>intro h;simp only[n9,oJ];exact(h r (by simp)).DZ (ih λx F=>h x (by simp[F]))
def Ab.DZ{B C x y:Rat}(h:Ab B x)(g:Ab C y):Ab (B+C) (x+y):=by
 obtain⟨h1,h2⟩:=h;obtain⟨O,F⟩:=g;constructor<;>grind
def iV:∀{rs:List AX},(∀r∈rs,Ab B (f r))->Ab ((rs.length:Nat)*B) (rs.map f).sum:=by
 intro rs
 induction rs with
 |nil=>intro _;simp only[p9,qV,rD];constructor<;>grind
 |cons r rs ih =>
  intro h;simp only[n9,oJ];have e:(((r :: rs).length:Nat):Rat)*B=B+(rs.length:Nat)*B:=by rw[oP];grind
  rw[e];exact(h r (by simp)).DZ (ih λx F=>h x (by simp[F]))
def Cu:List AX->Nat
 |[]=>1
 |r :: rs=>r.2.2.den*Cu rs
def Jt:∀rs:List AX,0<Cu rs
 |[]=>Nat.one_pos
 |r :: rs=>aa9 r.2.2.den_pos (Jt rs)
def UJ:∀{rs:List AX},(∀r∈rs,r.2.2.den<=2 ^ β)->Cu rs<=2 ^ (β*rs.length)
 |[],_=>by simp[Cu]
 |r :: rs,h=>by
  have h1:=h r (by simp);have h2:=UJ (rs:=rs) λx F=>h x (by simp[F])
  have:=Ce h1 h2
  rw[oP,rM,uD];exact this
def Ml:∀{rs:List AX} {r:AX},r∈rs->r.2.2.den ∣ Cu rs
 |[],_,h=>by cases h
 |s :: rs,r,h=>by
  rcases oj.mp h with rfl|h
  ·exact Nat.dvd_mul_right _ _
  ·exact Nat.dvd_trans (Ml h) (Nat.dvd_mul_left _ _)
def PD(h:q.den ∣ M):BM ((M:Nat)*q):=by
 obtain⟨k,rfl⟩:=h;exists k*q.num;have e:=GJ q;have O:((q.den*k:Nat):Rat)=(q.den:Nat)*(k:Nat):=by exact_mod_cast rfl
 have F:((k*q.num:Int):Rat)=(k:Nat)*(q.num:Int):=by rw[pj];rfl
 rw[O,F,<-e];grind
def Tw(r:AX)(i j:Nat):DJ r i j=0\/DJ r i j=r.2.2\/DJ r i j=-r.2.2:=by
 unfold DJ;by_cases e:r.1=r.2.1
 ·rw[nX e];exact .inl rfl
 ·rw[nS e];by_cases a:i=r.1
  ·have b:i≠r.2.1:=λz=>e (a.symm.trans z)
   by_cases c:j=r.1
   ·have d:j≠r.2.1:=λz=>e (c.symm.trans z)
    simp[a,c,e];grind
   ·by_cases d:j=r.2.1
    ·simp[a,d,e];grind
    ·simp[a,c,d,e];grind
  ·by_cases b:i=r.2.1
   ·by_cases c:j=r.1
    ·have d:j≠r.2.1:=λz=>e (c.symm.trans z)
     have F:r.2.1≠r.1:=λz=>e z.symm
     simp[b,c,e,F];grind
    ·have F:r.2.1≠r.1:=λz=>e z.symm
     by_cases d:j=r.2.1
     ·simp[b,d,F];grind
     ·simp[b,c,d,F];grind
   ·simp[a,b];grind
def dO(h:0<=B):Ab B 0:=by constructor<;>grind
def QF(h:∀r∈rs,r.1<n/\r.2.1<n/\Sb α β r.2.2)(O:rs.length<=16)(i j:Nat):BM ((Cu rs:Nat)*en (Bs n rs) i j)/\Vb (α+4) (en (Bs n rs) i j):=by
 rw[(IB λr F=>⟨(h r F).1,(h r F).2.1⟩).2];constructor
 ·rw[tQ,Og];refine fS λr F=>?_
  have q:=PD (Ml F);rw[tQ];rcases Tw r i j with e|e|e<;>rw[e]
  ·rw[xj];exact BM.zero
  ·exact q
  ·have:=q.Eu
   rwa [Rat.mul_neg]
 ·have q:∀r∈rs,Ab ((2 ^ α:Nat):Rat) (DJ r i j):=λr F=>by
   have v:Ab ((2 ^ α:Nat):Rat) r.2.2:=(h r F).2.2.vb;rcases Tw r i j with e|e|e<;>rw[e]
   ·exact dO v.nn
   ·exact v
   ·have:=v.Eu
    rwa [show -1*r.2.2=-r.2.2 by grind]at this
  refine(iV q).le ?_
  have:rs.length*2 ^ α<=2 ^ (α+4):=by rw[vE,vN];exact rA _ O
  have e:(((rs.length*2 ^ α:Nat)):Rat)=(rs.length:Nat)*((2 ^ α:Nat):Rat):=by exact_mod_cast rfl
  rw[<-e];exact_mod_cast this
def TL(L:List Am):∀(w:BA),(∀v∈L,∀j,BM (v j))->(∀T,BM (w T))->∀S,BM (Aa L w S):=by
 induction L with
 |nil=>intro w _ h;exact h
 |cons v L ih=>intro w h g;exact ih _ (λu F=>h u (by simp[F])) (λT=>NT T v w (h v (by simp)) g)
def iW(L:List Am)(s:Nat):∀(w:BA) (W:Nat),(∀v∈L,∀j,Ab ((V:Nat):Rat) (v j))->(∀T:List Bool,T.length=s->Ab ((W:Nat):Rat) (w T))->∀S:List Bool,S.length=s->Ab (((s*V) ^ L.length*W:Nat):Rat) (Aa L w S):=by
 induction L with
 |nil=>intro w W _ h S F;rw[rD,aaB,uZ];exact h S F
 |cons v L ih =>
  intro w W h g S F
  have:=ih (wg v w) (s*(V*W)) (λu O=>h u (by simp[O])) (λT hT=>by
   have:=QS (V:=((V:Nat):Rat)) (W:=((W:Nat):Rat)) T v w (h v (by simp)) (λU hU=>g U (by lia))
   rw[hT]at this;have e:(((s*(V*W):Nat)):Rat)=(s:Nat)*(((V:Nat):Rat)*((W:Nat):Rat)):=by rw[uV,uV]
   rw[e];exact this) S F
  rw[oP,tN,abY,abY s V W];exact this
def iz(S:List Bool):Ab ((1:Nat):Rat) (Ae S):=by
 induction S with
 |nil=>show Ab _ 1;constructor<;>decide
 |cons b S ih =>
  cases b
  ·exact ih
  ·show Ab _ 0;constructor<;>decide
def jK(lA:A.length=n)(n1:n+1<=16)(hi:∀a∈A,∀j,BM (a j))(hb:∀a∈A,∀j,Ab ((2 ^ E:Nat):Rat) (a j))(hx:∀a∈A,fx n x a=0)(hd:ld n (n+1) (Aa A Ae)≠0):
  ∃W:Int,W≠0/\W.natAbs<=2 ^ ((4+E)*n)/\∀j,j<n->∃k:Int,(W:Rat)*x j=k/\k.natAbs<=2 ^ ((4+E)*n):=by
 have bd:∀S:List Bool,S.length=n+1->∀k:Int,Aa A Ae S=k->k.natAbs<=2 ^ ((4+E)*n):=by
  intro S hS k F;have b:=iW (V:=2 ^ E) A (n+1) Ae 1 hb (λT _=>iz T) S hS;rw[F,lA,aa8]at b;refine oC (GL b) ?_;have h1:(n+1)*2 ^ E<=2 ^ (4+E):=by rw[vE 2 4];exact um _ (by lia)
  have h2:=aan h1 n
  rwa [<-Nat.pow_mul]at h2
 obtain⟨w,O⟩:=TL A Ae hi Po (Tk n (n+1));have tt:CF n=1\/CF n=-1:=by
  have:(CF n-1)*(CF n+1)=0:=by have:=KC n;grind
  rcases rX.mp this with z|z
  ·left;grind
  ·right;grind
 have lt:(Tk n (n+1)).length=n+1:=by unfold Tk;simp
 have bw:=bd _ lt w O;have aa:∀W:Int,ld n (n+1) (Aa A Ae)=W->W.natAbs<=2 ^ ((4+E)*n)->∃W:Int,W≠0/\W.natAbs<=2 ^ ((4+E)*n)/\∀j,j<n->∃k:Int,(W:Rat)*x j=k/\k.natAbs<=2 ^ ((4+E)*n):=by
  intro W hW hl;refine⟨W,λz=>hd (by rw[hW,z];rfl),hl,λj hj=>?_⟩;obtain⟨l1,l2,l3⟩:=VN hx hj;obtain⟨k,F⟩:=TL A Ae hi Po (Ko n j);have bk:=bd _ l1 k F;rw[hW,F]at l3;rcases l2 with h1|h1<;>rw[h1]at l3
  ·exact⟨k,by grind,bk⟩
  ·refine⟨-k,?_,by rw[vT];exact bk⟩;rw[uT];grind
 rcases tt with e|e
 ·exact aa w (by unfold ld;rw[O,e];grind) bw
 ·refine aa (-w) ?_ (by rw[vT];exact bw);unfold ld;rw[O,e,uT];grind
end Wd
namespace Mth
variable {s x:Int}{m:Nat}
def IG:∀(n:Nat) (l:List Int),l.Nodup->(∀x∈l,0<=x/\x<n)->l.length<=n
 |0,l,_,h=>by
  cases l with
  |nil=>exact nQ _
  |cons a r =>
   have:=h a (qh ..)
   lia
 |n+1,l,hn,h=>by
  by_cases O:(n:Int)∈l
  ·have h1:=IG n (l.erase (n:Int)) (hn.erase _) (λx F=>by
    have aa:=List.mem_of_mem_erase F;have ab:x≠(n:Int):=λz=>by
     rw[z]at F;exact(ug.not_mem_erase hn) F
    have:=h x aa
    lia)
   have h2:=yM O
   have:0<l.length:=rO O
   lia
  ·have h1:=IG n l hn (λx F=>by
    have ab:x≠(n:Int):=λz=>O (z ▸ F)
    have:=h x F
    lia)
   lia
def Ms:∀(l F:List Int),l.Nodup->(∀x∈l,x∈F)->l.length<=F.length
 |[],_,_,_=>pD _
 |a :: r,F,hn,h=>by
  have h1:=qm.mp hn;have h2:=Ms r (F.erase a) h1.2 λx hx=>(List.mem_erase_of_ne (λz:x=a=>h1.1 (z ▸ hx))).mpr (h x (oY _ hx))
  have O:=h a (qh ..);have h3:=yM O
  have:=rO O
  rw[oP]
  lia
abbrev AJ(n:Nat)(e:Int):Prop:=0<=e/\e<n
def A4(φ:Int->Int):Nat->Int->Int
 |0,s=>s
 |k+1,s=>φ (A4 φ k s)
structure II(φ:Int->Int)(n:Nat):Prop where
 IU:∀e,AJ n e->AJ n (φ e)
 inj:∀a b,AJ n a->AJ n b->φ a=φ b->a=b
section
variable {φ:Int->Int}{n:Nat}(P:II φ n)
include P
def D5(hs:AJ n s):∀k,AJ n (A4 φ k s)
 |0=>hs
 |k+1=>P.IU _ (D5 hs k)
def S6(hs:AJ n s):∀(i j:Nat),i<=j->A4 φ i s=A4 φ j s->A4 φ (j-i) s=s
 |0,j,_,e=>by rw[Nat.sub_zero];exact e.symm
 |i+1,0,h,_=>absurd h (by lia)
 |i+1,j+1,h,e=>by
  rw[Nat.add_sub_add_right];exact S6 hs i j (by lia) (P.inj _ _ (D5 P hs i) (D5 P hs j) e)
omit P in
def Il(φ:Int->Int)(s:Int)(m:Nat):Prop:=1<=m/\A4 φ m s=s/\∀k,1<=k->k<m->A4 φ k s≠s
omit P in
def Il.mP(h:Il φ s m)(h':Il φ s m'):m=m':=by
 rcases vc m m' with z|z|z
 ·exact absurd h.2.1 (h'.2.2 m h.1 z)
 ·exact z
 ·exact absurd h'.2.1 (h.2.2 m' h'.1 z)
omit P in
def DB(φ:Int->Int)(s:Int)(m:Nat):List Int:=(og m).map λk=>A4 φ k s
omit P in
def Oc:(DB φ s m).length=m:=by simp[DB]
omit P in
def Ee:x∈DB φ s m↔∃k,k<m/\A4 φ k s=x:=by simp[DB]
omit P in
def RR:DB φ s (m+1)=DB φ s m++[A4 φ m s]:=by simp[DB,rV]
def RW(hs:AJ n s)(h:∀k,1<=k->k<m->A4 φ k s≠s):(DB φ s m).Nodup:=by
 unfold DB ug;rw[rB];refine vM ?_ (tK (n:=m));intro a b ha F O e;exact h (b-a) (by lia) (by have:=o7.mp F;lia) (S6 P hs a b (by lia) e)
def VF(hs:AJ n s):∃m,m<=n/\Il φ s m:=by
 by_cases hz:∃m,1<=m/\m<=n/\A4 φ m s=s
 ·have aa:∀N m,m<=N->1<=m->m<=n->A4 φ m s=s->∃m,m<=n/\Il φ s m:=by
   intro N
   induction N with
   |zero=>intro m h1 h2;lia
   |succ N ih =>
    intro m h1 h2 h3 h4;by_cases q:∃k,1<=k/\k<m/\A4 φ k s=s
    ·obtain⟨k,F,k2,O⟩:=q;exact ih k (by lia) F (by lia) O
    ·exact⟨m,h3,h2,h4,λk F k2 O=>q ⟨k,F,k2,O⟩⟩
  obtain⟨m,h1,h2,h3⟩:=hz;exact aa m m (nQ _) h1 h2 h3
 ·have h1:=RW P (m:=n+1) hs λk F k2 O=>hz ⟨k,F,by lia,O⟩
  have h2:=IG n _ h1 λx hx=>by
   obtain⟨k,_,e⟩:=Ee.mp hx;rw[<-e];exact D5 P hs k
  rw[Oc]at h2
  lia
omit P in
open Classical in
def Be(φ:Int->Int)(s:Int):Nat:=if h:∃m,Il φ s m then h.choose else 1
def Gy(hs:AJ n s):Il φ s (Be φ s):=by
 obtain⟨m,_,h⟩:=VF P hs;have e:∃m,Il φ s m:=⟨m,h⟩;unfold Be;rw[dif_pos e];exact e.choose_spec
def U6(hs:AJ n s):Be φ s<=n:=by
 obtain⟨m,h1,h⟩:=VF P hs;rw[(Gy P hs).mP h];exact h1
omit P in
def Bq(φ:Int->Int)(s:Int):List Int:=DB φ s (Be φ s)
def dJ(hs:AJ n s):(Bq φ s).Nodup:=RW P hs (Gy P hs).2.2
def LH(hs:AJ n s)(F:x∈Bq φ s):AJ n x:=by
 obtain⟨k,_,e⟩:=Ee.mp F;rw[<-e];exact D5 P hs k
def Js(hs:AJ n s):s∈Bq φ s:=Ee.mpr ⟨0,(Gy P hs).1,J⟩
def ZX(hs:AJ n s)(O:x∈Bq φ s):φ x∈Bq φ s:=by
 obtain⟨k,hk,e⟩:=Ee.mp O;have F:=Gy P hs;by_cases q:k+1<Be φ s
 ·exact Ee.mpr ⟨k+1,q,by rw[<-e];rfl⟩
 ·have:k+1=Be φ s:=by lia
  refine Ee.mpr ⟨0,F.1,?_⟩;rw[<-e];show s=A4 φ (k+1) s;rw[this,F.2.1]
def Zh(hs:AJ n s)(O:AJ n x)(h:φ x∈Bq φ s):x∈Bq φ s:=by
 obtain⟨k,hk,e⟩:=Ee.mp h;have F:=Gy P hs;cases k with
 |succ k=>exact Ee.mpr ⟨k,by lia,P.inj _ _ (D5 P hs k) O e⟩
 |zero =>
  have hm:Be φ s-1+1=Be φ s:=by have:=F.1;lia
  refine Ee.mpr ⟨Be φ s-1,by lia,P.inj _ _ (D5 P hs _) O ?_⟩;rw[<-e];show A4 φ (Be φ s-1+1) s=s;rw[hm];exact F.2.1
def X3{S:List Int}(hs:AJ n s)(O:∀x,AJ n x->φ x∈S->x∈S)(h:s∉S):∀x∈Bq φ s,x∉S:=by
 intro x F;obtain⟨k,hk,e⟩:=Ee.mp F;subst e;clear F hk
 induction k with
 |zero=>exact h
 |succ k ih=>exact λz=>ih (O _ (D5 P hs k) z)
omit P in
open Classical in
def A7(φ:Int->Int):Nat->List (List Int)
 |0=>[]
 |i+1=>if (i:Int)∈(A7 φ i).flatten then A7 φ i else A7 φ i++[Bq φ i]
omit P in
def YI(h:(i:Int)∈(A7 φ i).flatten):A7 φ (i+1)=A7 φ i:=by
 rw[A7,nX h]
omit P in
def YV(h:(i:Int)∉(A7 φ i).flatten):A7 φ (i+1)=A7 φ i++[Bq φ i]:=by
 rw[A7,nS h]
omit P in
structure QR(φ:Int->Int)(n i:Nat)(R:List (List Int)):Prop where
 of:∀r∈R,∃s,AJ n s/\s<i/\r=Bq φ s/\∀x∈r,s<=x
 nd:R.flatten.Nodup
 all:∀e,0<=e->e<(i:Int)->e∈R.flatten
 WQ:R.Pairwise λr r'=>∀s s',r=Bq φ s->AJ n s->r'=Bq φ s'->AJ n s'->(∀x∈r,s<=x)->(∀x∈r',s'<=x)->s<s'
def QR.mZ{i:Nat}{R:List (List Int)}(h:QR φ n i R)(hi:AJ n x)(F:φ x∈R.flatten):x∈R.flatten:=by
 obtain⟨r,O,F⟩:=oI.mp F;obtain⟨s,hs,_,e,_⟩:=h.of r O;subst e;exact oI.mpr ⟨_,O,Zh P hs hi F⟩
def R1{s':Int}(hs:AJ n s)(F:AJ n s')(e:Bq φ s=Bq φ s')(h:∀x∈Bq φ s,s<=x)(h':∀x∈Bq φ s',s'<=x):s=s':=by
 have h1:=h' s (e ▸ Js P hs);have h2:=h s' (e ▸ Js P F)
 lia
def Ho:∀i,i<=n->QR φ n i (A7 φ i)
 |0,_=>⟨λr h=>by simp[A7]at h,by simp[A7],λe h1 h2=>by lia,by simp[A7]⟩
 |i+1,hi=>by
  have F:=Ho i (by lia);have hs:AJ n (i:Int):=⟨by lia,by lia⟩;unfold A7;by_cases q:(i:Int)∈(A7 φ i).flatten
  ·rw[nX q];refine⟨λr hr=>?_,F.nd,λe h1 h2=>?_,F.WQ⟩
   ·obtain⟨s,a,b,c,d⟩:=F.of r hr;exact⟨s,a,by lia,c,d⟩
   ·by_cases z:e=i
    ·rw[z];exact q
    ·exact F.all e h1 (by lia)
  ·rw[nS q];have ap:=X3 P hs (λx O h=>F.mZ P O h) q;have aa:∀x∈Bq φ (i:Int),(i:Int)<=x:=λx O=>by
    rcases ve x i with z|z
    ·exact absurd (F.all x (LH P hs O).1 z) (ap x O)
    ·exact z
   exists λr hr=>?_,?_,λe h1 h2=>?_
   ·rcases om.mp hr with hr|hr
    ·obtain⟨s,a,b,c,d⟩:=F.of r hr;exact⟨s,a,by lia,c,d⟩
    ·have e:r=Bq φ (i:Int):=by simpa using hr
     subst e;exact⟨i,hs,by lia,J,aa⟩
   ·rw[pW,qB];refine⟨F.nd,by simpa using dJ P hs,λx O y hy e=>?_⟩;subst e;exact ap x (by simpa using hy) O
   ·rw[pW,om];by_cases z:e=i
    ·rw[z];right;simpa using Js P hs
    ·left;exact F.all e h1 (by lia)
   ·rw[zU];refine⟨F.WQ,zd ..,λr hr r' ab s s' e ac e' ad l l'=>?_⟩;have er:r'=Bq φ (i:Int):=by simpa using ab
    obtain⟨t,ht,ae,et,lt⟩:=F.of r hr;have h1:s=t:=R1 P ac ht (e.symm.trans et) (e ▸ l) (et ▸ lt);have h2:s'=(i:Int):=R1 P ad hs (e'.symm.trans er) (e' ▸ l') aa
    lia
def XW:(A7 φ n).flatten.length=n:=by
 have h:=Ho P n (nQ _);have h1:=IG n _ h.nd λx F=>by
  obtain⟨r,hr,F⟩:=oI.mp F;obtain⟨s,hs,_,e,_⟩:=h.of r hr;subst e;exact LH P hs F
 have h2:((og n).map (λk:Nat=>(k:Int))).length<=(A7 φ n).flatten.length:=by
  have nd:((og n).map (λk:Nat=>(k:Int))).Nodup:=by
   unfold ug;rw[rB];exact tF (λ{a b} h=>by lia) (tK (n:=n))
  refine Ms _ _ nd ?_;intro x F;obtain⟨k,O,e⟩:=n8.mp F
  have:=o7.mp O
  exact h.all x (by lia) (by lia)
 rw[nh,oR]at h2
 lia
end
end Mth
namespace Mth
variable {e:Int}{L:List (Int×Int)}
def E9(row:List Int)(k:Nat):Int:=row.getD (if k=0 then row.length-1 else k-1) 0
def BD(row:List Int):List (Int×Int):=(og row.length).map λk=>(row.getD k 0,E9 row k)
def A2(ts:List (List Int)):List (Int×Int):=(ts.map BD).flatten
def YM(row:List Int):(og row.length).map (λk=>row.getD k 0)=row:=by
 refine wD (by simp) λi h1 h2=>?_
 simp[aau,h2]
def Ju(row:List Int):(BD row).map (·.1)=row:=by
 unfold BD;rw[pO];exact YM row
def Oh(row:List Int):(BD row).length=row.length:=by simp[BD]
def Yy(r:List Int)(l:Int):(BD (r++[l])).map (·.2)=l :: r:=by
 unfold BD;rw[pO];have F:(r++[l]).length=r.length+1:=by simp
 rw[F,qZ,n9,pO];congr 1
 ·show E9 (r++[l]) 0=l;unfold E9;rw[nX rfl,F];simp[aau]
 ·refine wD (by simp) λi h1 h2=>?_
  simp[E9,aau,oH h2,h2]
def TF(row:List Int):((BD row).map (·.2)).Perm row:=by
 rcases List.eq_nil_or_concat row with h|⟨r,l,h⟩
 ·subst h;exact .nil
 ·rw[List.concat_eq_append]at h;subst h;rw[Yy];exact(List.perm_append_singleton l r).symm
def GF:∀ts:List (List Int),(A2 ts).map (·.1)=ts.flatten
 |[]=>rfl
 |r :: ts=>by
  have F:=GF ts;unfold A2 at *;rw[n9,oQ,oh,Ju,F,oQ]
def Kv:∀ts:List (List Int),((A2 ts).map (·.2)).Perm ts.flatten
 |[]=>.nil
 |r :: ts=>by
  have F:=Kv ts;unfold A2 at *;rw[n9,oQ,oh,oQ];exact(TF r).append F
def RP(ts:List (List Int))(r:List Int):A2 (ts++[r])=A2 ts++BD r:=by simp[A2]
def lk(L:List (Int×Int))(e:Int):Option Int:=(L.find? λp=>decide (p.1=e)).map (·.2)
def KI(h:lk L e=some v):(e,v)∈L:=by
 unfold lk at h;cases q:L.find? λp=>decide (p.1=e)with
 |none=>rw[q]at h;cases h
 |some p =>
  rw[q]at h;have h1:=yC q;have h2:=abz q;have O:p.1=e:=of_decide_eq_true h2;have F:p.2=v:=oy h;rw[<-O,<-F];exact h1
def NA(h:e∈L.map (·.1)):∃v,lk L e=some v:=by
 obtain⟨p,F,O⟩:=n8.mp h;unfold lk;cases q:L.find? λp=>decide (p.1=e)with
 |none =>
  have:=List.find?_eq_none.mp q p F
  exact absurd (pR O) this
 |some p=>exact⟨p.2,J⟩
def cE(h:e∉L.map (·.1)):lk L e=none:=by
 cases q:lk L e with
 |none=>rfl
 |some v=>exact absurd (n8.mpr ⟨_,KI q,J⟩) h
def MW{α β:Type}{f:α->β}:∀{L:List α},(L.map f).Nodup->∀{p q},p∈L->q∈L->f p=f q->p=q
 |[],_,p,_,hp,_,_=>absurd hp (by simp)
 |a :: L,h,p,q,hp,hq,e=>by
  rw[n9,qm]at h;rcases oj.mp hp with h1|h1
  ·rcases oj.mp hq with h2|h2
   ·rw[h1,h2]
   ·exact(h.1 (n8.mpr ⟨q,h2,by rw[<-e,h1]⟩)).elim
  ·rcases oj.mp hq with h2|h2
   ·exact(h.1 (n8.mpr ⟨p,h1,by rw[e,h2]⟩)).elim
   ·exact MW h.2 h1 h2 e
def QW(O:(L.map (·.1)).Nodup)(h:(e,v)∈L):lk L e=some v:=by
 obtain⟨u,F⟩:=NA (n8.mpr ⟨_,h,J⟩)
 have:=MW O (KI F) h rfl
 rw[F,(wA this).2]
structure CS(n:Nat)(ts:List (List Int)):Prop where
 nd:ts.flatten.Nodup
 mem:∀e,e∈ts.flatten↔AJ n e
 HV:n%2=0
def AN(e:Int):Int:=if e%2=0 then e+1 else e-1
def C0(h:n%2=0)(F:AJ n e):AJ n (AN e):=by
 unfold AN;obtain⟨h1,h2⟩:=F;split<;>constructor<;>lia
def Cz(e:Int):AN (AN e)=e:=by
 unfold AN;split<;>split<;>lia
def AQ(ts:List (List Int))(e:Int):Int:=(lk (A2 ts) (AN e)).getD 0
section
variable {n:Nat}{ts:List (List Int)}(T:CS n ts)
include T
def CS.len:ts.flatten.length=n:=by
 have h1:=IG n _ T.nd λx F=>(T.mem x).mp F
 have h2:((og n).map (λk:Nat=>(k:Int))).length<=ts.flatten.length:=by
  have nd:((og n).map (λk:Nat=>(k:Int))).Nodup:=by
   unfold ug;rw[rB];exact tF (λ{a b} h=>by lia) (tK (n:=n))
  refine Ms _ _ nd λx F=>?_
  obtain⟨k,O,e⟩:=n8.mp F
  have:=o7.mp O
  exact(T.mem x).mpr ⟨by lia,by lia⟩
 rw[nh,oR]at h2
 lia
def CS.lC:(A2 ts).length=n:=by
 have:=congrArg tq (GF ts)
 rw[nh,T.len]at this;exact this
def CS.GW(O:AJ n e):∃v,lk (A2 ts) e=some v/\AJ n v:=by
 obtain⟨v,F⟩:=NA (L:=A2 ts) (e:=e) (by rw[GF];exact(T.mem e).mpr O);refine⟨v,F,(T.mem v).mp ?_⟩;exact(Kv ts).mem_iff.mp (n8.mpr ⟨_,KI F,J⟩)
def CS.LQ(O:AJ n e):lk (A2 ts) (AN e)=some (AQ ts e):=by
 obtain⟨v,F,_⟩:=T.GW (C0 T.HV O);unfold AQ;rw[F];rfl
def CS.By:II (AQ ts) n:=by
 refine⟨λe he=>?_,λa b ha hb e=>?_⟩
 ·obtain⟨v,O,hi⟩:=T.GW (C0 T.HV he);unfold AQ;rw[O];exact hi
 ·have h1:=KI (T.LQ ha);have h2:=KI (T.LQ hb);rw[e]at h1;have nd:((A2 ts).map (·.2)).Nodup:=(Kv ts).nodup_iff.mpr T.nd;have F:=(wA (MW nd h1 h2 rfl)).1;rw[<-Cz a,F,Cz]
end
def Ca:Nat->List (List Int)->List (Int×Int)
 |_,[]=>[]
 |i,r :: R=>r.map (λe=>(e,(i:Int)))++Ca (i+1) R
def OV:∀(i:Nat) (R:List (List Int)) (r:List Int),Ca i (R++[r])=Ca i R++r.map λe=>(e,((i+R.length:Nat):Int))
 |i,[],r=>by simp[Ca]
 |i,s :: R,r=>by
  rw[sX];unfold Ca;rw[OV (i+1) R r,p7];congr 3
  funext e
  rw[oP,Nat.add_right_comm,Nat.add_assoc]
def GG:∀(i:Nat) (R:List (List Int)),(Ca i R).map (·.1)=R.flatten
 |_,[]=>rfl
 |i,r :: R=>by
  unfold Ca;rw[oh,GG (i+1) R,pO,oQ];congr 1;exact abX (λ_=>rfl) r
def EF{α:Type}{R:List α}{r:α}(h:R[j]?=some r):R.take (j+1)=R.take j++[r]:=by
 rw[yt,h];rfl
section
variable {φ:Int->Int}{n:Nat}(P:II φ n)
include P
def eX{s:Int}(hs:AJ n s):(Bq φ s).headD 0=s:=by
 have h:=(Gy P hs).1;unfold Bq DB;obtain⟨m,e⟩:∃m,Be φ s=m+1:=⟨Be φ s-1,by lia⟩;rw[e,qZ,n9];rfl
def Mi{r:List Int}(h:r∈A7 φ n):AJ n (r.headD 0)/\r=Bq φ (r.headD 0)/\∀x∈r,r.headD 0<=x:=by
 obtain⟨s,hs,_,e,l⟩:=(Ho P n (nQ _)).of r h;subst e;rw[eX P hs];exact⟨hs,J,l⟩
def MX:(A7 φ n).flatten.Nodup:=(Ho P n (nQ _)).nd
def K0{x:Int}:x∈(A7 φ n).flatten↔AJ n x:=by
 constructor
 ·intro h;obtain⟨r,O,F⟩:=oI.mp h;obtain⟨h1,h2,_⟩:=Mi P O;rw[h2]at F;exact LH P h1 F
 ·intro h;exact(Ho P n (nQ _)).all x h.1 h.2
end
end Mth
namespace Mth
variable {a s x:Int}{φ:Int->Int}{f:Int->Rat}{A B ts:List (List Int)}{r r' t1 t2:List Int}{hs:List Nat}{p:Nat}
def J9{l m:List Int}:(l++m).Nodup↔l.Nodup/\m.Nodup/\∀x∈l,x∉m:=by
 rw[qB];constructor
 ·rintro⟨a,b,c⟩;exact⟨a,b,λx F O=>c x F x O rfl⟩
 ·rintro⟨a,b,c⟩;exact⟨a,b,λx F y hy e=>c x F (e ▸ hy)⟩
def gG:AJ (n+1) x↔AJ n x\/x=n:=by
 constructor
 ·rintro⟨a,b⟩;rcases ve x n with h|h
  ·exact .inl ⟨a,h⟩
  ·right;lia
 ·rintro(⟨a,b⟩|rfl)
  ·exact⟨a,by lia⟩
  ·exact⟨by lia,by lia⟩
def cp:Int->List Int->List (Int×Int)
 |_,[]=>[]
 |y,a :: l=>(a,y) :: cp a l
def VE:∀(y:Int) (l:List Int),(cp y l).length=l.length
 |_,[]=>rfl
 |_,a :: l=>by simp[cp,VE a l]
def UW:∀(y:Int) (l:List Int) (k:Nat),k<l.length->(cp y l)[k]?=some (l.getD k 0,if k=0 then y else l.getD (k-1) 0)
 |_,a :: l,0,_=>rfl
 |y,a :: l,k+1,h=>by
  show(cp a l)[k]?=_;rw[UW a l k (by simpa using h)];cases k with
  |zero=>rfl
  |succ k=>simp
def E8(row:List Int):BD row=cp (row.getLastD 0) row:=by
 refine yq λk=>?_
 by_cases h:k<row.length
 ·rw[UW _ _ _ h];unfold BD E9;rw[nV,qk h];show some (row.getD k 0,row.getD (if k=0 then row.length-1 else k-1) 0)=_;congr 2;by_cases z:k=0
  ·rw[nX z,nX z];rw[pN,List.getLast?_eq_getElem?,nO]
  ·rw[nS z,nS z]
 ·rw[pZ (by rw[Oh];lia),pZ (by rw[VE];lia)]
def NP:∀(y:Int) (l m:List Int),cp y (l++m)=cp y l++cp (l.getLastD y) m
 |_,[],m=>rfl
 |y,a :: l,m=>by
  show(a,y) :: cp a (l++m)=(a,y) :: (cp a l++cp ((a :: l).getLastD y) m);rw[NP a l m,show(a :: l).getLastD y=l.getLastD a by cases l<;>rfl]
def NG(ρ:Int->Int):∀(y:Int) (l:List Int),cp (ρ y) (l.map ρ)=(cp y l).map λp=>(ρ p.1,ρ p.2)
 |_,[]=>rfl
 |y,a :: l=>by
  show(ρ a,ρ y) :: cp (ρ a) (l.map ρ)=_;rw[NG ρ a l];rfl
def pr(ts:List (List Int))(x:Int):Int:=(lk (A2 ts) x).getD 0
def Bv(ts:List (List Int))(e:Int):AQ ts e=pr ts (AN e):=rfl
def Dw(F:ts.flatten.Nodup)(h:(x,y)∈A2 ts):pr ts x=y:=by
 unfold pr;rw[QW (by rw[GF];exact F) h];rfl
def Gw(O:ts.flatten.Nodup)(h:x∈ts.flatten):(x,pr ts x)∈A2 ts:=by
 rw[<-GF]at h;obtain⟨v,F⟩:=NA h
 have:=KI F
 unfold pr;rw[F];exact this
def Kx(A B:List (List Int)):A2 (A++B)=A2 A++A2 B:=by simp[A2]
def Jq(A B:List (List Int))(r:List Int):A2 (A++r :: B)=A2 A++(BD r++A2 B):=by simp[A2]
def Hx(A B:List (List Int))(r:List Int):(A++r :: B).flatten=A.flatten++(r++B.flatten):=by simp
def Ua(O:(A++(t1++s :: t2) :: B).flatten.Nodup)(he:e∉(A++(t1++s :: t2) :: B).flatten):
  (A++(t1++e :: s :: t2) :: B).flatten.Nodup/\(∀x,x∈(A++(t1++e :: s :: t2) :: B).flatten↔x∈(A++(t1++s :: t2) :: B).flatten\/x=e) /\
  pr (A++(t1++e :: s :: t2) :: B) s=e/\pr (A++(t1++e :: s :: t2) :: B) e=pr (A++(t1++s :: t2) :: B) s /\
  ∀x,x∈(A++(t1++s :: t2) :: B).flatten->x≠s->pr (A++(t1++e :: s :: t2) :: B) x=pr (A++(t1++s :: t2) :: B) x:=by
 have p:sZ (A++(t1++e :: s :: t2) :: B).flatten (e :: (A++(t1++s :: t2) :: B).flatten):=by
  rw[Hx,Hx,show A.flatten++(t1++e :: s :: t2++B.flatten)=(A.flatten++t1)++e :: (s :: t2++B.flatten) by simp];exact abl.trans (abO _ (sZ.of_eq (by simp)))
 have F:(A++(t1++e :: s :: t2) :: B).flatten.Nodup:=p.nodup_iff.mpr (qm.mpr ⟨he,O⟩);have hl:(t1++e :: s :: t2).getLastD 0=(t1++s :: t2).getLastD 0:=by
  rw[pN,pN,vv,vv];rw[show(e :: s :: t2).getLast?=(s :: t2).getLast? by simp[List.getLast?_cons_cons]]
 generalize hy:(t1++s :: t2).getLastD 0=y at hl;have r1:BD (t1++s :: t2)=cp y t1++(s,t1.getLastD y) :: cp s t2:=by rw[E8,hy,NP];rfl
 have r2:BD (t1++e :: s :: t2)=cp y t1++(e,t1.getLastD y) :: (s,e) :: cp s t2:=by rw[E8,hl,NP];rfl
 have ps:pr (A++(t1++s :: t2) :: B) s=t1.getLastD y:=Dw O (by rw[Jq,r1];simp);refine⟨F,λx=>p.mem_iff.trans (by simp only[oj];exact or_comm),Dw F (by rw[Jq,r2];simp),?_,λx hx xs=>?_⟩
 ·rw[ps];exact Dw F (by rw[Jq,r2];simp)
 ·refine Dw F ?_;have m:=Gw O hx;rw[Jq,r1]at m;rw[Jq,r2];simp only[om,oj,z9]at m ⊢;rcases m with z|(z|z|z)|z
  ·exact .inl z
  ·exact .inr (.inl (.inl z))
  ·exact absurd z.1 xs
  ·exact .inr (.inl (.inr (.inr (.inr z))))
  ·exact .inr (.inr z)
def iU{f:Int}(nd:(A++t :: B).flatten.Nodup)(ha:a∈t)(hf:f∉(A++t :: B).flatten):
  (A++(t.map λx=>if x=a then f else x) :: B).flatten.Nodup/\(∀x,x∈(A++(t.map λx=>if x=a then f else x) :: B).flatten↔(x∈(A++t :: B).flatten/\x≠a)\/x=f) /\
  pr (A++(t.map λx=>if x=a then f else x) :: B) f=(if pr (A++t :: B) a=a then f else pr (A++t :: B) a) /\
  ∀x,x∈(A++t :: B).flatten->x≠a->pr (A++(t.map λx=>if x=a then f else x) :: B) x=(if pr (A++t :: B) x=a then f else pr (A++t :: B) x):=by
 generalize hρ:(λx=>if x=a then f else x)=ρ;have ra:ρ a=f:=by rw[<-hρ];simp
 have O:∀x,x≠a->ρ x=x:=λx h=>by rw[<-hρ];simp[h]
 have rr:∀z,(if z=a then f else z)=ρ z:=λz=>by rw[<-hρ]
 rw[Hx]at nd hf;obtain⟨n1,n2,n3⟩:=J9.mp nd;obtain⟨n4,n5,n6⟩:=J9.mp n2;simp only[om,not_or]at hf;have ae:∀x y,x∈t->y∈t->ρ x=ρ y->x=y:=λx y F hy e=>by
  by_cases xa:x=a
  ·by_cases ya:y=a
   ·rw[xa,ya]
   ·rw[xa,ra,O y ya]at e;exact absurd (e ▸ hy) hf.2.1
  ·by_cases ya:y=a
   ·rw[ya,ra,O x xa]at e;exact absurd (e ▸ F) hf.2.1
   ·rwa [O x xa,O y ya]at e
 have af:(t.map ρ).Nodup:=by
  unfold ug;rw[rB];exact vM (λ{x y} F hy h e=>h (ae x y F hy e)) n4
 have mm:∀x,x∈t.map ρ↔(x∈t/\x≠a)\/x=f:=λx=>by
  rw[n8];constructor
  ·rintro⟨y,hy,rfl⟩;by_cases ya:y=a
   ·right;rw[ya,ra]
   ·left;rw[O y ya];exact⟨hy,ya⟩
  ·rintro(⟨h1,h2⟩|rfl)
   ·exact⟨x,h1,O x h2⟩
   ·exact⟨a,ha,ra⟩
 have aA:a∉A.flatten:=λz=>n3 a z (by simp[ha])
 have aB:a∉B.flatten:=λz=>n6 a ha z
 have aa:(A++(t.map ρ) :: B).flatten.Nodup:=by
  rw[Hx,J9,J9];refine⟨n1,⟨af,n5,λx F=>?_⟩,λx F=>?_⟩
  ·rcases(mm x).mp F with z|z
   ·exact n6 x z.1
   ·rw[z];exact hf.2.2
  ·intro z;rcases om.mp z with z|z
   ·rcases(mm x).mp z with w|w
    ·exact n3 x F (by simp[w.1])
    ·exact hf.1 (w ▸ F)
   ·exact n3 x F (by simp[z])
 have row:BD (t.map ρ)=(BD t).map λp=>(ρ p.1,ρ p.2):=by
  rw[E8,E8,<-NG];congr 1;cases t with
  |nil=>cases ha
  |cons b l =>
   rw[pN,pN,yr];rw[uR];rfl
 have ad:∀{x y},(x,y)∈A2 (A++t :: B)->x∈(A++t :: B).flatten/\y∈(A++t :: B).flatten:=λ{x y} h=>by
  constructor
  ·rw[<-GF];exact n8.mpr ⟨_,h,J⟩
  ·exact(Kv _).mem_iff.mp (n8.mpr ⟨_,h,J⟩)
 have ac:(A++t :: B).flatten.Nodup:=by rw[Hx];exact nd
 have ab:∀{L:List (List Int)} {x y:Int},(x,y)∈A2 L->y∈L.flatten:=λ{L x y} h=>(Kv _).mem_iff.mp (n8.mpr ⟨_,h,J⟩)
 have go:∀x y,(x,y)∈A2 (A++t :: B)->(ρ x,ρ y)∈A2 (A++(t.map ρ) :: B):=λx y h=>by
  have F:=(ad h).1;rw[Jq]at h ⊢;rw[row];rcases om.mp h with z|z
  ·have xA:x∈A.flatten:=by rw[<-GF];exact n8.mpr ⟨_,z,J⟩
   have yA:=ab z;rw[O x (λe=>aA (e ▸ xA)),O y (λe=>aA (e ▸ yA))];exact qU _ z
  rcases om.mp z with z|z
  ·exact pC _ (qU _ (n8.mpr ⟨_,z,J⟩))
  ·have xB:x∈B.flatten:=by rw[<-GF];exact n8.mpr ⟨_,z,J⟩
   have yB:=ab z;rw[O x (λe=>aB (e ▸ xB)),O y (λe=>aB (e ▸ yB))];exact pC _ (pC _ z)
 have am:a∈(A++t :: B).flatten:=by rw[Hx];simp[ha]
 refine⟨aa,λx=>?_,?_,λx F xa=>?_⟩
 ·rw[Hx,Hx];simp only[om,mm];constructor
  ·rintro(z|(z|z)|z)
   ·exact .inl ⟨.inl z,λe=>aA (e ▸ z)⟩
   ·exact .inl ⟨.inr (.inl z.1),z.2⟩
   ·exact .inr z
   ·exact .inl ⟨.inr (.inr z),λe=>aB (e ▸ z)⟩
  ·rintro(⟨z|z|z,w⟩|z)
   ·exact .inl z
   ·exact .inr (.inl (.inl ⟨z,w⟩))
   ·exact .inr (.inr z)
   ·exact .inr (.inl (.inr z))
 ·rw[rr]
  have:=go _ _ (Gw ac am)
  rw[ra]at this;exact Dw aa this
 ·rw[rr]
  have:=go _ _ (Gw ac F)
  rw[O x xa]at this;exact Dw aa this
def aD(nd:ts.flatten.Nodup)(ha:a∉ts.flatten):(ts++[[a]]).flatten.Nodup/\pr (ts++[[a]]) a=a/\∀x,x∈ts.flatten->pr (ts++[[a]]) x=pr ts x:=by
 have F:(ts++[[a]]).flatten.Nodup:=by
  rw[pW,J9];exact⟨nd,by simp,λx O h=>ha (by simp at h;exact h ▸ O)⟩
 refine⟨F,Dw F ?_,λx O=>Dw F ?_⟩
 ·rw[Kx];exact pC _ (by simp[A2,E8,cp])
 ·rw[Kx];exact qU _ (Gw nd O)
def aC(nd:ts.flatten.Nodup)(ha:a∉ts.flatten)(hb:b∉ts.flatten)(ab:a≠b):(ts++[[a,b]]).flatten.Nodup/\pr (ts++[[a,b]]) a=b/\pr (ts++[[a,b]]) b=a/\∀x,x∈ts.flatten->pr (ts++[[a,b]]) x=pr ts x:=by
 have F:(ts++[[a,b]]).flatten.Nodup:=by
  rw[pW,J9];refine⟨nd,by simp[ab],λx O h=>?_⟩;simp at h;rcases h with z|z
  ·exact ha (z ▸ O)
  ·exact hb (z ▸ O)
 refine⟨F,Dw F ?_,Dw F ?_,λx O=>Dw F ?_⟩
 ·rw[Kx];exact pC _ (by simp[A2,E8,cp])
 ·rw[Kx];exact pC _ (by simp[A2,E8,cp])
 ·rw[Kx];exact qU _ (Gw nd O)
structure Du(φ:Int->Int)(n:Nat):Prop where
 DU:∀S:Int->Prop,(∀x,AJ n x->(S x↔S (φ x)))->(∀k:Nat,1<=k->2*k+1<n->(S (2*(k:Int))↔S (2*(k:Int)+1)))->S 1->∀x,AJ n x->S x
section
variable {φ ψ:Int->Int}{n:Nat}{a b:Int}
def C8:AJ (n+2) x↔AJ n x\/x=n\/x=(n:Int)+1:=by
 constructor
 ·rintro⟨h1,h2⟩;push_cast at h2;by_cases z:x<n
  ·exact .inl ⟨h1,z⟩
  ·lia
 ·rintro(⟨h1,h2⟩|rfl|rfl)
  ·exact⟨h1,by push_cast;lia⟩
  ·exact⟨by lia,by push_cast;lia⟩
  ·exact⟨by lia,by push_cast;lia⟩
def Du.Ls(D:Du φ n)(ac:∀x,AJ n x->AJ n (φ x))(n2:2<=n)(ha:AJ n a)(h1:ψ a=n)(h2:ψ n=(n:Int)+1)(h3:ψ ((n:Int)+1)=φ a)(h4:∀x,AJ n x->x≠a->ψ x=φ x):Du ψ (n+2):=by
 refine⟨λS F hr h0=>?_⟩
 ·have up:∀{x:Int},AJ n x->AJ (n+2) x:=λh=>C8.mpr (.inl h)
  have hN:S n↔S ((n:Int)+1):=by have:=F n (C8.mpr (.inr (.inl rfl)));rwa [h2]at this
  have ab:S ((n:Int)+1)↔S (φ a):=by have:=F ((n:Int)+1) (C8.mpr (.inr (.inr rfl)));rwa [h3]at this
  have hA:S a↔S n:=by have:=F a (up ha);rwa [h1]at this
  have aa:=D.DU S (λx O=>by
   by_cases e:x=a
   ·rw[e];exact hA.trans (hN.trans ab)
   ·have:=F x (up O);rwa [h4 x O e]at this) (λk k1 k2=>hr k k1 (by lia)) h0
  intro x O;rcases C8.mp O with z|rfl|rfl
  ·exact aa x z
  ·exact hA.mp (aa a ha)
  ·exact hN.mp (hA.mp (aa a ha))
def Sr{S:Int->Prop}(F:∀x,AJ n x->(S x↔S (φ x)))(O:∀x,AJ n x->AJ n (φ x))(ha:AJ n a):∀k,AJ n (A4 φ k a)/\(S a↔S (A4 φ k a))
 |0=>⟨ha,Iff.rfl⟩
 |k+1=>by
  obtain⟨h1,h2⟩:=Sr F O ha k;exact⟨O _ h1,h2.trans (F _ h1)⟩
def Du.LZ(D:Du φ n)(ad:∀x,AJ n x->AJ n (φ x))(n2:2<=n)(ev:n%2=0)(ha:AJ n a)(kb:∃k,A4 φ k a=b)(h1:a≠b->ψ a=n)(h2:a≠b->ψ n=φ b)(ae:a=b->ψ n=n)(h3:ψ b=(n:Int)+1)(h5:ψ ((n:Int)+1)=φ a)(h4:∀x,AJ n x->x≠a->x≠b->ψ x=φ x):Du ψ (n+2):=by
 obtain⟨k,hk⟩:=kb;have hb:AJ n b:=by rw[<-hk];exact(Sr (S:=λ_=>True) (λ_ _=>Iff.rfl) ad ha k).1
 refine⟨λS O hr h0=>?_⟩
 ·have up:∀{x:Int},AJ n x->AJ (n+2) x:=λh=>C8.mpr (.inl h)
  have hR:S n↔S ((n:Int)+1):=by
   have:=hr (n / 2) (by lia) (by lia)
   rwa [show 2*((n / 2:Nat):Int)=(n:Int) by lia]at this
  have ac:S ((n:Int)+1)↔S (φ a):=by have:=O ((n:Int)+1) (C8.mpr (.inr (.inr rfl)));rwa [h5]at this
  have F:S b↔S ((n:Int)+1):=by have:=O b (up hb);rwa [h3]at this
  have aa:=D.DU S (λx hx=>by
   by_cases eb:x=b
   ·by_cases ab:a=b
    ·rw[eb,<-ab];rw[<-ab]at F;exact F.trans ac
    ·have hN:S n↔S (φ b):=by have:=O n (C8.mpr (.inr (.inl rfl)));rwa [h2 ab]at this
     rw[eb];exact F.trans (hR.symm.trans hN)
   ·by_cases ea:x=a
    ·have hA:S a↔S n:=by have:=O a (up ha);rwa [h1 (λe=>eb (ea.trans e))]at this
     rw[ea];exact hA.trans (hR.trans ac)
    ·have:=O x (up hx);rwa [h4 x hx ea eb]at this) (λk k1 k2=>hr k k1 (by lia)) h0
  intro x hx;rcases C8.mp hx with z|rfl|rfl
  ·exact aa x z
  ·exact hR.mpr (F.mp (aa b hb))
  ·exact F.mp (aa b hb)
def Du.BJ(D:Du φ n)(ac:∀x,AJ n x->AJ n (φ x))(n2:2<=n)(hq:AJ n q)(hp:AJ n pe)(h1:ψ q=n)(h2:ψ n=(if φ q=pe then (n:Int)+1 else φ q))(h3:ψ ((n:Int)+1)=pe)(h4:∀x,AJ n x->x≠q->ψ x=(if φ x=pe then (n:Int)+1 else φ x)):Du ψ (n+2):=by
 refine⟨λS F hr h0=>?_⟩
 ·have up:∀{x:Int},AJ n x->AJ (n+2) x:=λh=>C8.mpr (.inl h)
  have ab:S ((n:Int)+1)↔S pe:=by have:=F ((n:Int)+1) (C8.mpr (.inr (.inr rfl)));rwa [h3]at this
  have kk:∀x,(S (if φ x=pe then (n:Int)+1 else φ x)↔S (φ x)):=λx=>by
   by_cases e:φ x=pe
   ·rw[nX e,e];exact ab
   ·rw[nS e]
  have hQ:S q↔S n:=by have:=F q (up hq);rwa [h1]at this
  have aa:=D.DU S (λx O=>by
   by_cases e:x=q
   ·have hN:=F n (C8.mpr (.inr (.inl rfl)));rw[h2]at hN;rw[e];exact hQ.trans (hN.trans (kk q))
   ·have:=F x (up O)
    rw[h4 x O e]at this;exact this.trans (kk x)) (λk k1 k2=>hr k k1 (by lia)) h0
  intro x O;rcases C8.mp O with z|rfl|rfl
  ·exact aa x z
  ·exact hQ.mp (aa q hq)
  ·exact ab.mpr (aa pe hp)
def Cj(ts:List (List Int))(n:Nat):Prop:=∀f:Int->Rat,(∀x,AJ n x->f (AN x)=- f x)->(∀t∈ts,(t.map f).sum=0)->∃p:Int->Rat,(∀x,AJ n x->p (AQ ts x)=p x)/\∀x,AJ n x->p x-p (AN x)=f x
def gW{p:Nat->Prop}:∀k,p k->∃k,p k/\∀j,j<k->¬p j:=by
 intro k
 induction k using Nat.strongRecOn with
 |ind k ih =>
  intro h;by_cases z:∃j,j<k/\p j
  ·obtain⟨j,h1,h2⟩:=z;exact ih j h1 h2
  ·exact⟨k,h,λj F q=>z ⟨j,F,q⟩⟩
def Sn(φ:Int->Int)(s:Int)(i:Nat):∀k,A4 φ k (A4 φ i s)=A4 φ (k+i) s
 |0=>by rw[uF];rfl
 |k+1=>by
  rw[show k+1+i=(k+i)+1 by lia];show φ (A4 φ k (A4 φ i s))=φ (A4 φ (k+i) s);rw[Sn φ s i k]
def Cr(φ:Int->Int)(a:Int):Nat->Int->Rat
 |0,_=>0
 |k+1,x=>Cr φ a k x+if A4 φ (k+1) a=x then 1 else 0
def Sh(F:II φ n)(O:AJ n a)(hx:AJ n x):∀k,Cr φ a k (φ x)=Cr φ a k x+(if x=a then 1 else 0)-(if A4 φ k a=x then 1 else 0)
 |0=>by
  show(0:Rat)=0+(if x=a then 1 else 0)-(if a=x then 1 else 0);by_cases e:x=a
  ·rw[nX e,nX e.symm];grind
  ·rw[nS e,nS (λz=>e z.symm)];grind
 |k+1=>by
  show Cr φ a k (φ x)+(if φ (A4 φ k a)=φ x then 1 else 0)=Cr φ a k x+(if A4 φ (k+1) a=x then 1 else 0)+(if x=a then 1 else 0)-(if A4 φ (k+1) a=x then 1 else 0);rw[Sh F O hx k];by_cases e:A4 φ k a=x
  ·rw[nX e,nX (show φ (A4 φ k a)=φ x by rw[e])];grind
  ·rw[nS e,nS (show ¬φ (A4 φ k a)=φ x from λz=>e (F.inj _ _ (D5 F O k) hx z))];grind
def dM(PM:II φ n)(O:AJ n a)(kb:∃k,A4 φ k a=b):∃χ:Int->Rat,(∀x,AJ n x->χ (φ x)=χ x+(if x=a then 1 else 0)-(if x=b then 1 else 0))/\(a≠b->χ b=χ a+1):=by
 obtain⟨k0,aa⟩:=kb;obtain⟨k,F,mn⟩:=gW (p:=λk=>A4 φ k a=b) k0 aa;have st:∀x,AJ n x->Cr φ a k (φ x)=Cr φ a k x+(if x=a then 1 else 0)-(if x=b then 1 else 0):=λx hx=>by
  rw[Sh PM O hx k,F];by_cases e:x=b
  ·rw[nX e,nX (show b=x from e.symm)]
  ·rw[nS e,nS (show ¬b=x from λz=>e z.symm)]
 refine⟨Cr φ a k,st,λab=>?_⟩;have go:∀j,j<k->Cr φ a k (A4 φ (j+1) a)=Cr φ a k a+1:=by
  intro j
  induction j with
  |zero =>
   intro _;show Cr φ a k (φ a)=_;rw[st a O,nX rfl,nS ab];grind
  |succ j ih =>
   intro hj;show Cr φ a k (φ (A4 φ (j+1) a))=_;have e1:A4 φ (j+1) a≠a:=λe=>mn (k-(j+1)) (by lia) (by
    show A4 φ (k-(j+1)) a=b
    have:=Sn φ a (j+1) (k-(j+1))
    rw[e,show k-(j+1)+(j+1)=k by lia,F]at this;exact this)
   rw[st _ (D5 PM O _),nS e1,nS (mn (j+1) (by lia)),ih (by lia)];grind
 have k0:0<k:=by
  rcases uS k with z|z
  ·subst z;exact absurd F ab
  ·exact z
 have:=go (k-1) (by lia)
 rw[show k-1+1=k by lia,F]at this;exact this
def J2{l m:List Rat}(h:l.Perm m):l.sum=m.sum:=by
 induction h with
 |nil=>rfl
 |cons a _ ih=>rw[oJ,oJ,ih]
 |swap a b l=>rw[oJ,oJ,oJ,oJ];grind
 |trans _ _ i1 i2=>exact i1.trans i2
def JA:∀t:List Int,(t.map λx=>f x+g x).sum=(t.map f).sum+(t.map g).sum
 |[]=>by simp;grind
 |a :: t=>by rw[n9,n9,n9,oJ,oJ,oJ,JA t];grind
def Ip(c:Rat):∀t:List Int,(t.map λx=>c*f x).sum=c*(t.map f).sum
 |[]=>by simp
 |a :: t=>by rw[n9,n9,oJ,oJ,Ip c t];grind
def J1{t:List Int}(h:∀x∈t,f x=g x):(t.map f).sum=(t.map g).sum:=by rw[qM h]
def Pt:∀{t:List Int},t.Nodup->(t.map λx=>if x=s then (1:Rat) else 0).sum=if s∈t then 1 else 0
 |[],_=>by simp
 |a :: t,nd=>by
  rw[qm]at nd;rw[n9,oJ,Pt nd.2];by_cases e:a=s
  ·subst e;rw[nX rfl,nS nd.1,nX (by simp)];grind
  ·rw[nS e];by_cases z:s∈t
   ·rw[nX z,nX (by simp[z])];grind
   ·rw[nS z,nS (show ¬s∈a :: t from λq=>(oj.mp q).elim (λq=>e q.symm) z)];grind
def Oq(O:ts.flatten.Nodup)(F:t∈ts)(g:Int->Rat):(t.map λx=>g (pr ts x)).sum=(t.map g).sum:=by
 have h1:(t.map λx=>g (pr ts x))=((BD t).map λp=>g p.2):=by
  conv=>lhs;rw[<-Ju t]
  rw[pO];refine qM λp hp=>?_
  show g (pr ts p.1)=g p.2;rw[Dw O (x:=p.1) (y:=p.2) (oI.mpr ⟨BD t,n8.mpr ⟨t,F,J⟩,hp⟩)]
 rw[h1,show((BD t).map λp=>g p.2)=((BD t).map (·.2)).map g by rw[pO];rfl];exact J2 ((TF t).map g)
variable {ts ts':List (List Int)}
def Ff(p:Int->Rat)(n:Nat)(u v:Rat)(x:Int):Rat:=if x=(n:Int) then u else if x=(n:Int)+1 then v else p x
def IE(p:Int->Rat)(u v:Rat):Ff p n u v (n:Int)=u:=nX rfl
def IC(p:Int->Rat)(u v:Rat):Ff p n u v ((n:Int)+1)=v:=by unfold Ff;rw[nS (by lia),nX rfl]
def Ds(p:Int->Rat)(u v:Rat)(h:AJ n x):Ff p n u v x=p x:=by unfold Ff;rw[nS (λe=>by have:=h.2;lia),nS (λe=>by have:=h.2;lia)]
def Cj.CN{p:Int->Rat}(ev:n%2=0)(O:∀x,AJ (n+2) x->f (AN x)=- f x)(d:∀x,AJ n x->p x-p (AN x)=f x)(h:u-v=f n):∀x,AJ (n+2) x->Ff p n u v x-Ff p n u v (AN x)=f x:=λx hx=>by
 have F:AN (n:Int)=(n:Int)+1:=by unfold AN;rw[nX (by lia)]
 have o2:AN ((n:Int)+1)=n:=by unfold AN;rw[nS (by lia)];lia
 rcases C8.mp hx with z|rfl|rfl
 ·rw[Ds _ _ _ z,Ds _ _ _ (C0 ev z)];exact d x z
 ·rw[F,IE,IC];exact h
 ·have:=O n (C8.mpr (.inr (.inl rfl)))
  rw[F]at this;rw[o2,IE,IC,this]
  grind
def RI(h:AJ n x):AJ (n+2) x:=C8.mpr (.inl h)
def Cj.Ls (D:Cj ts n)(ev:n%2=0)(aa:∀x,AJ n x->AJ n (AQ ts x))(O:AJ n a)(h1:AQ ts' a=n)(h2:AQ ts' n=(n:Int)+1)(h3:AQ ts' ((n:Int)+1)=AQ ts a)(h4:∀x,AJ n x->x≠a->AQ ts' x=AQ ts x)
  (hb:∀f:Int->Rat,(∀t∈ts',(t.map f).sum=0)->f ((n:Int)+1)=0/\(f n=0->∀t∈ts,(t.map f).sum=0)):Cj ts' (n+2):=λf F ab=>by
 obtain⟨b1,b2⟩:=hb f ab;have o2:AN ((n:Int)+1)=n:=by unfold AN;rw[nS (by lia)];lia
 have f0:f n=0:=by
  have:=F ((n:Int)+1) (C8.mpr (.inr (.inr rfl)))
  rw[o2,b1]at this;rw[this];grind
 obtain⟨p,i1,d1⟩:=D f (λx hx=>F x (RI hx)) (b2 f0);refine⟨Ff p n (p a) (p a),λx hx=>?_,Cj.CN ev F d1 (by rw[f0];grind)⟩;rcases C8.mp hx with z|rfl|rfl
 ·by_cases e:x=a
  ·rw[e,h1,IE,Ds _ _ _ O]
  ·rw[h4 x z e,Ds _ _ _ (aa x z),Ds _ _ _ z];exact i1 x z
 ·rw[h2,IE,IC]
 ·rw[h3,IC,Ds _ _ _ (aa a O)];exact i1 a O
def Cj.BJ (D:Cj ts n)(ev:n%2=0)(ab:∀x,AJ n x->AJ n (AQ ts x))(hp:AJ n pe)(h1:AQ ts' (AN pe)=n)(h2:AQ ts' n=(if AQ ts (AN pe)=pe then (n:Int)+1 else AQ ts (AN pe)))(h3:AQ ts' ((n:Int)+1)=pe)(h4:∀x,AJ n x->x≠AN pe->AQ ts' x=(if AQ ts x=pe then (n:Int)+1 else AQ ts x))
  (hb:∀f:Int->Rat,(∀t∈ts',(t.map f).sum=0)->f pe+f n=0/\(f ((n:Int)+1)=f pe->∀t∈ts,(t.map f).sum=0)):Cj ts' (n+2):=λf O ac=>by
 obtain⟨b1,b2⟩:=hb f ac;have o1:AN (n:Int)=(n:Int)+1:=by unfold AN;rw[nX (by lia)]
 have f0:f ((n:Int)+1)=f pe:=by
  have:=O n (C8.mpr (.inr (.inl rfl)))
  rw[o1]at this;rw[this];grind
 obtain⟨p,i1,d1⟩:=D f (λx F=>O x (RI F)) (b2 f0);have hq:=C0 ev hp;have dp:=d1 pe hp;have aa:∀x,AJ n x->Ff p n (p (AN pe)) (p pe) (if AQ ts x=pe then (n:Int)+1 else AQ ts x)=p x:=λx F=>by
  by_cases e:AQ ts x=pe
  ·rw[nX e,IC,<-e];exact i1 x F
  ·rw[nS e,Ds _ _ _ (ab x F)];exact i1 x F
 refine⟨Ff p n (p (AN pe)) (p pe),λx F=>?_,Cj.CN ev O d1 (by grind)⟩;rcases C8.mp F with z|rfl|rfl
 ·by_cases e:x=AN pe
  ·rw[e,h1,IE,Ds _ _ _ hq]
  ·rw[h4 x z e,aa x z,Ds _ _ _ z]
 ·rw[h2,aa _ hq,IE]
 ·rw[h3,IC,Ds _ _ _ hp]
def Pu{p:Int->Rat}(O:II φ n)(ha:AJ n a)(F:∀x,AJ n x->p (φ x)=p x):∀k,p (A4 φ k a)=p a
 |0=>rfl
 |k+1=>(F _ (D5 O ha k)).trans (Pu O ha F k)
def Cj.LZ (D:Cj ts n)(T:CS n ts)(ha:AJ n a)(kb:∃k,A4 (AQ ts) k a=b)(h1:a≠b->AQ ts' a=n)(h2:a≠b->AQ ts' n=AQ ts b)(aj:a=b->AQ ts' n=n)(h3:AQ ts' b=(n:Int)+1)(h5:AQ ts' ((n:Int)+1)=AQ ts a)(h4:∀x,AJ n x->x≠a->x≠b->AQ ts' x=AQ ts x)
  (hb:∀f:Int->Rat,(∀t∈ts',(t.map f).sum=0)->∀t∈ts,(t.map f).sum+(if AN a∈t then f n else 0)+(if AN b∈t then f ((n:Int)+1) else 0)=0):Cj ts' (n+2):=λf ac ag=>by
 have ev:=T.HV;have PM:=T.By;have ad:∀x,AJ n x->AJ n (AQ ts x):=PM.IU;obtain⟨χ,c1,c2⟩:=dM PM ha kb;have aa:AJ n b:=by obtain⟨k,rfl⟩:=kb;exact D5 PM ha k
 have o1:AN (n:Int)=(n:Int)+1:=by unfold AN;rw[nX (by lia)]
 have f1:f ((n:Int)+1)=- f n:=by have:=ac n (C8.mpr (.inr (.inl rfl)));rwa [o1]at this
 have ai:∀t∈ts,(t.map λx=>f x+f n*(χ x-χ (AN x))).sum=0:=λt ht=>by
  have ah:∀x∈t,AJ n x:=λx O=>(T.mem x).mp (oI.mpr ⟨t,ht,O⟩)
  have af:t.Nodup:=by
   obtain⟨i,hi,rfl⟩:=oG ht;exact(wJ.mp T.nd).1 _ ht
  have e1:∀x∈t,χ x-χ (AN x)=(χ x + -1*χ (pr ts x))+((if x=AN a then 1 else 0) + -1*(if x=AN b then 1 else 0)):=λx O=>by
   have:=c1 (AN x) (C0 ev (ah x O))
   rw[Bv,Cz]at this;have ia:(if AN x=a then (1:Rat) else 0)=if x=AN a then 1 else 0:=by
    by_cases e:AN x=a
    ·rw[nX e,nX (by rw[<-e,Cz])]
    ·rw[nS e,nS (λz=>e (by rw[z,Cz]))]
   have ib:(if AN x=b then (1:Rat) else 0)=if x=AN b then 1 else 0:=by
    by_cases e:AN x=b
    ·rw[nX e,nX (by rw[<-e,Cz])]
    ·rw[nS e,nS (λz=>e (by rw[z,Cz]))]
   rw[ia,ib]at this;rw[this];grind
  rw[JA,Ip,J1 e1,JA,JA,JA,Ip,Ip,Oq T.nd ht χ,Pt af,Pt af]
  have:=hb f ag t ht
  rw[f1]at this;by_cases ea:AN a∈t<;>by_cases eb:AN b∈t<;>simp only[ea,eb,if_true,if_false]at this ⊢<;>grind
 obtain⟨p,i1,d1⟩:=D (λx=>f x+f n*(χ x-χ (AN x))) (λx O=>by
  show f (AN x)+f n*(χ (AN x)-χ (AN (AN x)))=-(f x+f n*(χ x-χ (AN x)));rw[Cz,ac x (RI O)];grind) ai
 have ae:p b=p a:=by
  obtain⟨k,rfl⟩:=kb;exact Pu PM ha i1 k
 have ca:=c1 a ha;have cb:=c1 b aa;have ia:=i1 a ha;have ib:=i1 b aa;refine⟨Ff (λx=>p x-f n*χ x) n (p b-f n*χ b+f n) (p b-f n*χ b),λx O=>?_,Cj.CN ev ac (λx O=>?_) (by grind)⟩
 ·rcases C8.mp O with z|rfl|rfl
  ·by_cases eb:x=b
   ·rw[eb,h3,IC,Ds _ _ _ aa]
   ·by_cases ea:x=a
    ·have F:a≠b:=λe=>eb (ea.trans e)
     rw[ea,h1 F,IE,Ds _ _ _ ha]
     have:=c2 F
     rw[ae,this];grind
    ·rw[h4 x z ea eb,Ds _ _ _ (ad x z),Ds _ _ _ z]
     have:=c1 x z
     rw[nS ea,nS eb]at this;rw[i1 x z,this];grind
  ·by_cases F:a=b
   ·rw[aj F]
   ·rw[h2 F,IE,Ds _ _ _ (ad b aa)];rw[nS (λe=>F e.symm),nX rfl]at cb;show p (AQ ts b)-f n*χ (AQ ts b)=_;rw[ib,cb];grind
  ·rw[h5,IC,Ds _ _ _ (ad a ha)];show p (AQ ts a)-f n*χ (AQ ts a)=_;by_cases F:a=b
   ·rw[nX rfl,nX F]at ca;rw[ia,ca,<-F];grind
   ·rw[nX rfl,nS F]at ca;rw[ia,ca,ae,c2 F];grind
 ·have:=d1 x O
  show p x-f n*χ x-(p (AN x)-f n*χ (AN x))=f x
  grind
def RY(F:ts[p]?=some r)(O:t∈ts):t=r\/t∈ts.set p r':=by
 obtain⟨i,hi,rfl⟩:=oG O;by_cases e:p=i
 ·subst e;rw[nj hi]at F;exact .inl (oy F)
 ·right
  have:(ts.set p r')[i]?=some ts[i]:=by rw[pF e,nj hi]
  exact nz this
def OP(F:ts[p]?=some r):r'∈ts.set p r':=by
 have h:=(nq.mp F).1
 have:(ts.set p r')[p]?=some r':=pM h
 exact nz this
def UB(f:Int->Rat)(e s:Int)(t1 t2:List Int):((t1++e :: s :: t2).map f).sum=((t1++s :: t2).map f).sum+f e:=by
 simp only[oh,n9,sN,oJ];grind
def ZH(hn:n=4):Cj [[2,0],[3,1]] n:=λf aa ab=>by
 subst hn;have n0:AQ [[2,0],[3,1]] 0=3:=by decide
 have n1:AQ [[2,0],[3,1]] 1=2:=by decide
 have n2:AQ [[2,0],[3,1]] 2=1:=by decide
 have n3:AQ [[2,0],[3,1]] 3=0:=by decide
 have cs:∀x:Int,AJ 4 x->x=0\/x=1\/x=2\/x=3:=λx h=>by obtain⟨h1,h2⟩:=h;lia
 have b:=ab [2,0] (by simp);have a0:=aa 0 ⟨by decide,by decide⟩;have a2:=aa 2 ⟨by decide,by decide⟩;have o0:AN 0=1:=by decide
 have o1:AN 1=0:=by decide
 have o2:AN 2=3:=by decide
 have o3:AN 3=2:=by decide
 rw[o0]at a0;rw[o2]at a2;simp only[n9,p9,oJ,qV]at b;have F:(if ((0:Int)=0\/(0:Int)=3) then f 0 else 0)=f 0:=nX (by decide);have O:(if ((1:Int)=0\/(1:Int)=3) then f 0 else 0)=0:=nS (by decide);have p2:(if ((2:Int)=0\/(2:Int)=3) then f 0 else 0)=0:=nS (by decide);have p3:(if ((3:Int)=0\/(3:Int)=3) then f 0 else 0)=f 0:=nX (by decide);refine⟨λx=>if x=0\/x=3 then f 0 else 0,λx hx=>?_,λx hx=>?_⟩
 ·rcases cs x hx with rfl|rfl|rfl|rfl
  ·rw[n0];exact p3.trans F.symm
  ·rw[n1];exact p2.trans O.symm
  ·rw[n2];exact O.trans p2.symm
  ·rw[n3];exact F.trans p3.symm
 ·rcases cs x hx with rfl|rfl|rfl|rfl
  ·rw[o0];show(if ((0:Int)=0\/(0:Int)=3) then f 0 else 0)-(if ((1:Int)=0\/(1:Int)=3) then f 0 else 0)=_;rw[F,O];grind
  ·rw[o1];show(if ((1:Int)=0\/(1:Int)=3) then f 0 else 0)-(if ((0:Int)=0\/(0:Int)=3) then f 0 else 0)=_;rw[F,O];grind
  ·rw[o2];show(if ((2:Int)=0\/(2:Int)=3) then f 0 else 0)-(if ((3:Int)=0\/(3:Int)=3) then f 0 else 0)=_;rw[p2,p3];grind
  ·rw[o3];show(if ((3:Int)=0\/(3:Int)=3) then f 0 else 0)-(if ((2:Int)=0\/(2:Int)=3) then f 0 else 0)=_;rw[p2,p3];grind
structure Gn(ts:List (List Int))(hs:List Nat):Prop where
 ev:hs.length%2=0
 n4:4<=hs.length
 Bt:2<=ts.length
 nd:ts.flatten.Nodup
 mem:∀x,x∈ts.flatten↔AJ hs.length x
 C4:∀(p:Nat) (t:List Int),ts[p]?=some t->∀x:Int,x∈t->hs[x.toNat]?=some p
 ne:∀t∈ts,t≠[]
 Jg:2*ts.length<=hs.length
 lo:hs[0]?=some 0/\hs[1]?=some 1
 DU:∀S:Nat->Prop,S 0->(∀k,1<=k->∀p q,hs[2*k]?=some p->hs[2*k+1]?=some q->(S p↔S q))->∀p,p<ts.length->S p
 du:Du (AQ ts) hs.length
 po:Cj ts hs.length
def Gn.Dv(g:Gn ts hs):CS hs.length ts:=⟨g.nd,g.mem,g.ev⟩
def Pr{α:Type}{ts:List α}{r:α}(h:ts[p]?=some r):∃A B,ts=A++r :: B/\A.length=p/\∀r',ts.set p r'=A++r' :: B:=by
 obtain⟨F,e⟩:=nq.mp h;refine⟨ts.take p,ts.drop (p+1),?_,by rw[pS];lia,λr'=>?_⟩
 ·rw[<-e,qY,qN]
 ·exact List.set_eq_take_append_cons_drop .. |>.trans (by rw[nX F])
def Ht(h:n%2=0):AN (n:Int)=(n:Int)+1:=by unfold AN;rw[nX (by lia)]
def PX(h:n%2=0):AN ((n:Int)+1)=n:=by unfold AN;rw[nS (by lia)];lia
def Iz(h:AN x=AN y):x=y:=by rw[<-Cz x,h,Cz]
def Gn.Ls(g:Gn ts hs)(hp:ts[p]?=some (t1++s :: t2)):
  Gn (ts.set p (t1++(hs.length:Int) :: s :: t2)++[[(hs.length:Int)+1]]) (hs++[p]++[ts.length]):=by
 obtain⟨A,B,eT,lA,eS⟩:=Pr hp;have pl:p<ts.length:=(nq.mp hp).1;have ah:=g.nd;have ab:=g.mem;generalize O:hs.length=n at *;have ev:=g.ev;rw[O]at ev;have em:((n:Nat):Int)∉ts.flatten:=λz=>by have:=(ab _).mp z;lia
 have aj:((n:Nat):Int)+1∉ts.flatten:=λz=>by have:=(ab _).mp z;lia
 have sm:s∈ts.flatten:=oI.mpr ⟨_,nz hp,by simp⟩;have sR:=(ab s).mp sm;rw[eT]at ah em;obtain⟨ai,ac,q1,q2,q3⟩:=Ua ah em;rw[<-eT,<-eS]at *;have ak:((n:Nat):Int)+1∉(ts.set p (t1++(n:Int) :: s :: t2)).flatten:=λz=>by
  rcases(ac _).mp z with w|w
  ·exact aj w
  ·lia
 obtain⟨al,q4,q5⟩:=aD ai ak;have q6:∀x∈ts.flatten,pr (ts.set p (t1++(n:Int) :: s :: t2)++[[(n:Int)+1]]) x=pr (ts.set p (t1++(n:Int) :: s :: t2)) x:=λx hx=>q5 x ((ac x).mpr (.inl hx))
 have lH:(hs++[p]++[ts.length]).length=n+2:=by simp[O]
 have lT:(ts.set p (t1++(n:Int) :: s :: t2)++[[(n:Int)+1]]).length=ts.length+1:=by simp
 have aR:AJ n (AN s):=C0 ev sR;have f1:AQ (ts.set p (t1++(n:Int) :: s :: t2)++[[(n:Int)+1]]) (AN s)=n:=by rw[Bv,Cz,q6 s sm,q1]
 have f2:AQ (ts.set p (t1++(n:Int) :: s :: t2)++[[(n:Int)+1]]) n=(n:Int)+1:=by rw[Bv,Ht ev,q4]
 have f3:AQ (ts.set p (t1++(n:Int) :: s :: t2)++[[(n:Int)+1]]) ((n:Int)+1)=AQ ts (AN s):=by rw[Bv,PX ev,q5 _ ((ac _).mpr (.inr rfl)),q2,Bv,Cz]
 have f4:∀x,AJ n x->x≠AN s->AQ (ts.set p (t1++(n:Int) :: s :: t2)++[[(n:Int)+1]]) x=AQ ts x:=λx hx xa=>by
  have hm:AN x∈ts.flatten:=(ab _).mpr (C0 ev hx);rw[Bv,q6 _ hm,q3 _ hm (λe=>xa (by rw[<-e,Cz])),Bv]
 have ag:∀x,AJ n x->AJ n (AQ ts x):=λx hx=>by have:=g.Dv.By.IU x (by rw[O];exact hx);rwa [O]at this
 have ae:=g.du;rw[O]at ae;have af:=g.po;rw[O]at af;have pz:Cj (ts.set p (t1++(n:Int) :: s :: t2)++[[(n:Int)+1]]) (n+2):=by
  refine af.Ls ev ag aR f1 f2 f3 f4 λf ad=>?_
  have b1:=ad [(n:Int)+1] (by simp);simp only[n9,p9,oJ,qV]at b1;refine⟨by grind,λf0 t ht=>?_⟩;rcases RY (r':=t1++(n:Int) :: s :: t2) hp ht with e|e
  ·have:=ad _ (om.mpr (.inl (OP (r':=t1++(n:Int) :: s :: t2) hp)))
   rw[UB,f0]at this;rw[e];grind
  ·exact ad t (om.mpr (.inl e))
 have am:=g.Jg;have n4:=g.n4;rw[O]at am n4;have aa:∀{i q},hs[i]?=some q->(hs++[p]++[ts.length])[i]?=some q:=λ{i q} h=>by
  rw[p7,oH (nq.mp h).1];exact h
 refine⟨by rw[lH];lia,by rw[lH];lia,by rw[lT];have:=g.Bt;lia,al,λx=>?_,λq t F x hx=>?_,λt ht=>?_,by rw[lT,lH];lia,⟨aa g.lo.1,aa g.lo.2⟩,λS S0 hS q F=>?_,by rw[lH];exact ae.Ls ag (by lia) aR f1 f2 f3 f4,by rw[lH];exact pz⟩
 ·rw[lH,pW,om,ac,ab];simp only[oQ,vt,qE,oz,AJ]
  lia
 ·rcases oM q ts.length with ql|ql
  ·rw[oH (by simpa using ql)]at F;by_cases e:p=q
   ·subst e;rw[pM ql]at F;cases F;by_cases xn:x=n
    ·rw[xn,pG,<-O,p7,oo (nQ _)];simp
    ·refine aa (g.C4 p _ hp x ?_);simp only[om,oj]at hx ⊢;rcases hx with z|z|z|z
     ·exact .inl z
     ·exact absurd z xn
     ·exact .inr (.inl z)
     ·exact .inr (.inr z)
   ·rw[pF e]at F;exact aa (g.C4 q t F x hx)
  ·have:q=ts.length:=by
    have:=(nq.mp F).1
    rw[lT]at this;lia
   subst this;rw[oo (by simp)]at F;simp at F;subst F;rw[oz.mp hx,show((n:Int)+1).toNat=n+1 by lia,<-O];rw[oo (by simp)];simp
 ·rcases om.mp ht with z|z
  ·rcases rT z with w|w
   ·exact g.ne t w
   ·rw[w];simp
  ·rw[oz.mp z];simp
 ·have h1:=g.DU S S0 (λk k1 a b ha hb=>hS k k1 a b (aa ha) (aa hb));rcases oM q ts.length with ql|ql
  ·exact h1 q ql
  ·have:q=ts.length:=by rw[lT]at F;lia
   subst this
   have:=hS (n / 2) (by lia) p ts.length (by rw[show 2*(n / 2)=n by lia,<-O,p7,oo (nQ _)];simp) (by rw[show 2*(n / 2)+1=n+1 by lia,<-O,oo (by simp)];simp)
   exact this.mp (h1 p pl)
structure Gb(ts:List (List Int))(hs:List Nat):Prop where
 nd:ts.flatten.Nodup
 mem:∀x,x∈ts.flatten↔AJ hs.length x
 C4:∀(p:Nat) (t:List Int),ts[p]?=some t->∀x:Int,x∈t->hs[x.toNat]?=some p
 ne:∀t∈ts,t≠[]
def Gn.gb(g:Gn ts hs):Gb ts hs:=⟨g.nd,g.mem,g.C4,g.ne⟩
def Gb.Ea(g:Gb ts hs)(hp:ts[p]?=some (t1++s :: t2)):
  Gb (ts.set p (t1++(hs.length:Int) :: s :: t2)) (hs++[p])/\pr (ts.set p (t1++(hs.length:Int) :: s :: t2)) s=hs.length/\pr (ts.set p (t1++(hs.length:Int) :: s :: t2)) hs.length=pr ts s /\
   ∀x,AJ hs.length x->x≠s->pr (ts.set p (t1++(hs.length:Int) :: s :: t2)) x=pr ts x:=by
 obtain⟨A,B,eT,lA,eS⟩:=Pr hp;have pl:p<ts.length:=(nq.mp hp).1;have ab:=g.nd;have aa:=g.mem;generalize hn:hs.length=n at *;have em:((n:Nat):Int)∉ts.flatten:=λz=>by have:=(aa _).mp z;lia
 rw[eT]at ab em;obtain⟨ad,ae,q1,q2,q3⟩:=Ua ab em;rw[<-eT,<-eS]at *;have lH:(hs++[p]).length=n+1:=by simp[hn]
 have ac:∀{i q},hs[i]?=some q->(hs++[p])[i]?=some q:=λ{i q} h=>by
  rw[oH (nq.mp h).1];exact h
 refine⟨⟨ad,λx=>?_,λq t O x F=>?_,λt ht=>?_⟩,q1,q2,λx F xs=>q3 x ((aa x).mpr F) xs⟩
 ·rw[lH,ae,aa,gG]
 ·by_cases e:p=q
  ·subst e;rw[pM pl]at O;cases O;by_cases xn:x=n
   ·rw[xn,pG,<-hn,oo (nQ _)];simp
   ·refine ac (g.C4 p _ hp x ?_);simp only[om,oj]at F ⊢;rcases F with z|z|z|z
    ·exact .inl z
    ·exact absurd z xn
    ·exact .inr (.inl z)
    ·exact .inr (.inr z)
  ·rw[pF e]at O;exact ac (g.C4 q t O x F)
 ·rcases rT ht with w|w
  ·exact g.ne t w
  ·rw[w];simp
def Gb.Ic(g:Gb ts hs)(F:ts[p]?=some (t1++s :: t2))(Xe:X≠e)(h:∀t∈ts.set p (t1++e :: s :: t2),(t.map f).sum+(if X∈t then c else 0)=0):
  ∀t∈ts,(t.map f).sum+(if s∈t then f e else 0)+(if X∈t then c else 0)=0:=λt ht=>by
 obtain⟨i,hi,rfl⟩:=oG ht;have O:ts[i]?=some ts[i]:=nj hi;by_cases q:p=i
 ·subst q;have q2:ts[p]=t1++s :: t2:=by rw[O]at F;exact oy F
  have:=h _ (OP (r':=t1++e :: s :: t2) F)
  rw[UB]at this;have i1:(if X∈t1++e :: s :: t2 then c else 0)=(if X∈t1++s :: t2 then c else 0):=by
   have:X∈t1++e :: s :: t2↔X∈t1++s :: t2:=by simp[Xe]
   by_cases z:X∈t1++s :: t2
   ·rw[nX z,nX (this.mpr z)]
   ·rw[nS z,nS (λy=>z (this.mp y))]
  rw[i1]at this;rw[q2,nX (show s∈t1++s :: t2 by simp)];exact this
 ·have ns:s∉ts[i]:=λz=>by
   have h1:=g.C4 i _ O s z;have h2:=g.C4 p _ F s (by simp);rw[h1]at h2;exact q (oy h2).symm
  rw[nS ns]
  have:=h _ (nz (show(ts.set p (t1++e :: s :: t2))[i]?=some ts[i] by rw[pF q,O]))
  grind
def Gn.LZ (g:Gn ts hs)(aR:AJ hs.length a)(kb:∃k,A4 (AQ ts) k a=b)
  (h1:ts[p1]?=some (t1++AN a :: t2))(h2:(ts.set p1 (t1++(hs.length:Int) :: AN a :: t2))[p2]?=some (u1++AN b :: u2)) :
  Gn ((ts.set p1 (t1++(hs.length:Int) :: AN a :: t2)).set p2 (u1++((hs.length:Int)+1) :: AN b :: u2)) (hs++[p1]++[p2]):=by
 have O:=g.ev;have n4:=g.n4;have aq:=g.Jg;have T:=g.Dv;have bR:AJ hs.length b:=by obtain⟨k,rfl⟩:=kb;exact D5 T.By aR k
 obtain⟨B1,q1,q2,q3⟩:=g.gb.Ea h1;generalize aj:ts.set p1 (t1++(hs.length:Int) :: AN a :: t2)=ah at *;have ap:ah.length=ts.length:=by rw[<-aj];simp
 have lh:(hs++[p1]).length=hs.length+1:=by simp
 have e1:(((hs++[p1]).length:Nat):Int)=(hs.length:Int)+1:=by rw[lh];push_cast;rfl
 obtain⟨B2,r1,r2,r3⟩:=B1.Ea h2;rw[e1]at B2 r1 r2 r3;rw[lh]at r3;generalize ak:ah.set p2 (u1++((hs.length:Int)+1) :: AN b :: u2)=ac at *;have al:ac.length=ts.length:=by rw[<-ak];simp[ap]
 have lH:(hs++[p1]++[p2]).length=hs.length+2:=by simp
 have ae:∀{i q},hs[i]?=some q->(hs++[p1]++[p2])[i]?=some q:=λ{i q} h=>by
  rw[p7,oH (nq.mp h).1];exact h
 have ai:=C0 O aR;have ad:=C0 O bR;generalize hn:hs.length=n at *;have up:∀{x:Int},AJ n x->AJ (n+1) x:=λ{x} h=>⟨h.1,by have:=h.2;lia⟩
 have w1:AQ ac ((n:Int)+1)=AQ ts a:=by
  rw[Bv,PX O,r3 _ ⟨by lia,by lia⟩ (λe=>by have:=ad.2;lia),q2,Bv]
 have w2:AQ ac b=(n:Int)+1:=by rw[Bv,r1]
 have w3:∀x,AJ n x->x≠a->x≠b->AQ ac x=AQ ts x:=λx hx xa xb=>by
  have:=C0 O hx
  rw[Bv,r3 _ (up this) (λe=>xb (Iz e)),q3 _ this (λe=>xa (Iz e)),Bv]
 have am:∀x,AJ n x->AJ n (AQ ts x):=λx hx=>T.By.IU x hx
 have dz:Du (AQ ac) (n+2):=by
  have af:=g.du;rw[hn]at af;refine af.LZ am (by lia) O aR kb (λF=>?_) (λF=>?_) (λF=>?_) w2 w1 w3
  ·have aa:AN b≠AN a:=λe=>F (Iz e).symm
   rw[Bv,r3 _ (up ai) (λe=>aa e.symm),q1]
  ·have aa:AN b≠AN a:=λe=>F (Iz e).symm
   rw[Bv,Ht O,r2,q3 _ ad aa,Bv]
  ·subst F;rw[Bv,Ht O,r2,q1]
 have pz:Cj ac (n+2):=by
  have ag:=g.po;rw[hn]at ag;refine ag.LZ T aR kb (λF=>?_) (λF=>?_) (λF=>?_) w2 w1 w3 λf ao=>?_
  ·have aa:AN b≠AN a:=λe=>F (Iz e).symm
   rw[Bv,r3 _ (up ai) (λe=>aa e.symm),q1]
  ·have aa:AN b≠AN a:=λe=>F (Iz e).symm
   rw[Bv,Ht O,r2,q3 _ ad aa,Bv]
  ·subst F;rw[Bv,Ht O,r2,q1]
  ·have c1:=B1.Ic (X:=-1) (f:=f) (c:=0) h2 (e:=(n:Int)+1) (by lia  ) (by
    rw[ak];intro t ht
    have:=ao t ht
    split<;>grind)
   exact g.gb.Ic (X:=AN b) (c:=f ((n:Int)+1)) h1 (λe=>by have:=ad.2;lia) (by
    rw[aj];intro t ht
    have:=c1 t ht
    split at this<;>split at this<;>grind)
 refine⟨by rw[lH];lia,by rw[lH];lia,by rw[al];exact g.Bt,B2.nd,B2.mem,B2.C4,B2.ne,by rw[al,lH];lia,⟨ae g.lo.1,ae g.lo.2⟩,λS S0 hS q hq=>?_,by rw[lH];exact dz,by rw[lH];exact pz⟩;exact g.DU S S0 (λk k1 x y hx hy=>hS k k1 x y (ae hx) (ae hy)) q (by lia)
def Gn.BJ(g:Gn ts hs){r:Nat}(r1:1<=r)(er:pe=2*(r:Int)+1)(hp:ts[p]?=some t)(pm:pe∈t):
  Gn (ts.set p (t.map λx=>if x=pe then (hs.length:Int)+1 else x)++[[pe,(hs.length:Int)]]) ((hs++[ts.length]++[p]).set pe.toNat ts.length):=by
 obtain⟨A,B,eT,lA,eS⟩:=Pr hp;have pl:p<ts.length:=(nq.mp hp).1;have aq:=g.nd;have ab:=g.mem;have ev:=g.ev;have n4:=g.n4;have az:=g.Jg;have P:=g.Dv.By;have ay:pe∈ts.flatten:=oI.mpr ⟨t,nz hp,pm⟩;have O:=(ab pe).mp ay;have au:=g.C4 p t hp pe pm;generalize hn:hs.length=n at *;have pn:pe.toNat<n:=by have:=O.2;lia
 have pt:pe.toNat=2*r+1:=by lia
 have em:((n:Nat):Int)+1∉ts.flatten:=λz=>by have:=(ab _).mp z;lia
 rw[eT]at aq em;obtain⟨av,ae,q1,q2⟩:=iU aq pm em;rw[<-eT,<-eS]at *;generalize ah:ts.set p (t.map λx=>if x=pe then (n:Int)+1 else x)=af at *;have aj:af.length=ts.length:=by rw[<-ah];simp
 have aw:pe∉af.flatten:=λz=>by
  rcases(ae _).mp z with w|w
  ·exact w.2 rfl
  ·have:=O.2;lia
 have n1:((n:Nat):Int)∉af.flatten:=λz=>by
  rcases(ae _).mp z with w|w
  ·have:=(ab _).mp w.1;lia
  ·lia
 obtain⟨ax,w1,w2,w3⟩:=aC av aw n1 (λe=>by have:=O.2;lia);generalize ad:af++[[pe,(n:Int)]]=ac at *;have ai:ac.length=ts.length+1:=by rw[<-ad];simp[aj]
 have lH:((hs++[ts.length]++[p]).set pe.toNat ts.length).length=n+2:=by simp[hn]
 have qR:=C0 ev O;have v1:AQ ac (AN pe)=n:=by rw[Bv,Cz,w1]
 have v2:AQ ac n=(if AQ ts (AN pe)=pe then (n:Int)+1 else AQ ts (AN pe)):=by
  rw[Bv,Ht ev,w3 _ ((ae _).mpr (.inr rfl)),q1,Bv,Cz]
 have v3:AQ ac ((n:Int)+1)=pe:=by rw[Bv,PX ev,w2]
 have v4:∀x,AJ n x->x≠AN pe->AQ ac x=(if AQ ts x=pe then (n:Int)+1 else AQ ts x):=λx F xq=>by
  have ox:=C0 ev F;have xp:AN x≠pe:=λe=>xq (by rw[<-e,Cz])
  rw[Bv,w3 _ ((ae _).mpr (.inl ⟨(ab _).mpr ox,xp⟩)),q2 _ ((ab _).mpr ox) xp,Bv]
 have a1:∀{x:Int},AJ n x->x≠(n:Int):=λ{x} h e=>by have:=h.2;lia
 have ap:=g.du;rw[hn]at ap;have dz:Du (AQ ac) (n+2):=ap.BJ (λx F=>P.IU x F) (by lia) qR O v1 v2 v3 v4;have pz:Cj ac (n+2):=by
  have ar:=g.po;rw[hn]at ar;refine ar.BJ ev (λx F=>P.IU x F) O v1 v2 v3 v4 λf ag=>?_
  rw[<-ad,<-ah]at ag;have b1:=ag [pe,(n:Int)] (by simp);simp only[n9,p9,oJ,qV]at b1;refine⟨by grind,λf0 u hu=>?_⟩;rcases RY (r':=t.map λx=>if x=pe then (n:Int)+1 else x) hp hu with e|e
  ·have:=ag _ (om.mpr (.inl (OP (r':=t.map λx=>if x=pe then (n:Int)+1 else x) hp)))
   rw[pO]at this;rw[e,<-this];refine J1 λx _=>?_
   show f x=f (if x=pe then (n:Int)+1 else x);by_cases z:x=pe
   ·rw[nX z,f0,z]
   ·rw[nS z]
  ·exact ag u (om.mpr (.inl e))
 have aa:∀{i q},hs[i]?=some q->i≠pe.toNat->((hs++[ts.length]++[p]).set pe.toNat ts.length)[i]?=some q:=λ{i q} h ne=>by
  rw[pF (λe=>ne e.symm),p7,oH (nq.mp h).1];exact h
 have hN:((hs++[ts.length]++[p]).set pe.toNat ts.length)[n]?=some ts.length:=by
  rw[pF (by lia),p7,<-hn,oo (nQ _)];simp
 have ao:((hs++[ts.length]++[p]).set pe.toNat ts.length)[n+1]?=some p:=by
  rw[pF (by lia),<-hn,oo (by simp)];simp
 have hP:((hs++[ts.length]++[p]).set pe.toNat ts.length)[pe.toNat]?=some ts.length:=by
  rw[pM (by simp[hn];lia)]
 have a0:=g.Bt;refine⟨by rw[lH];lia,by rw[lH];lia,by rw[ai];lia,ax,λx=>?_,λi t' hi x F=>?_,λt' am=>?_,by rw[ai,lH];lia,⟨aa g.lo.1 (by lia),aa g.lo.2 (by lia)⟩,λS S0 hS i hi=>?_,by rw[lH];exact dz,by rw[lH];exact pz⟩
 ·rw[lH,<-ad,pW,om,ae,ab];simp only[oQ,vt,qE,oj,pB,qK,AJ]
  have:=O.1
  have:=O.2
  lia
 ·rw[<-ad]at hi;rcases oM i ts.length with il|il
  ·rw[oH (by lia),<-ah]at hi;by_cases e:p=i
   ·subst e;rw[pM pl]at hi;cases hi;obtain⟨y,hy,rfl⟩:=n8.mp F;by_cases yp:y=pe
    ·rw[nX yp,show((n:Int)+1).toNat=n+1 by lia];exact ao
    ·rw[nS yp];have yR:=(ab y).mp (oI.mpr ⟨t,nz hp,hy⟩);exact aa (g.C4 p t hp y hy) (λe=>yp (by have:=yR.1;have:=O.1;lia))
   ·rw[pF e]at hi;have ak:=g.C4 i t' hi x F;refine aa ak (λz=>?_);rw[z,au]at ak;exact e (oy ak)
  ·have:i=ts.length:=by
    have:=(nq.mp hi).1
    simp[aj]at this;lia
   subst this;rw[oo (by lia),aj]at hi;simp at hi;subst hi;simp only[oj,pB,qK]at F;rcases F with rfl|rfl
   ·exact hP
   ·rw[pG];exact hN
 ·rw[<-ad,<-ah]at am;rcases om.mp am with z|z
  ·rcases rT z with w|w
   ·exact g.ne t' w
   ·rw[w];intro e;rw[aal]at e;rw[e]at pm;cases pm
  ·rw[oz.mp z];simp
 ·have sP:S ts.length↔S p:=hS (n / 2) (by lia  ) _ _ (by rw[show 2*(n / 2)=n by lia  ]; exact hN) (by rw[show 2*(n / 2)+1=n+1 by lia  ]; exact ao);have al:=g.DU S S0 (λk k1 x y F hy=>by
   by_cases e:2*k+1=pe.toNat
   ·have ey:y=p:=by rw[e,au]at hy;exact(oy hy).symm
    subst ey;exact(hS k k1 x ts.length (aa F (by lia)) (by rw[e];exact hP)).trans sP
   ·exact hS k k1 x y (aa F (by lia)) (aa hy e))
  rcases oM i ts.length with il|il
  ·exact al i il
  ·have:i=ts.length:=by rw[ai]at hi;lia
   rw[this];exact sP.mpr (al p pl)
def Zo(ts:List (List Int))(hn:n=4)(p0:pr ts 0=2)(p1:pr ts 1=3)(p2:pr ts 2=0)(p3:pr ts 3=1):Du (AQ ts) n:=by
 subst hn;have n0:AQ ts 0=3:=p1;have n1:AQ ts 1=2:=p0;have n2:AQ ts 2=1:=p3;have n3:AQ ts 3=0:=p2;have cs:∀x:Int,AJ 4 x->x=0\/x=1\/x=2\/x=3:=λx h=>by obtain⟨h1,h2⟩:=h;lia
 refine⟨λS F hr h1 x hx=>?_⟩
 ·have a1:=F 1 ⟨by decide,by decide⟩;have a3:=F 3 ⟨by decide,by decide⟩;have r:=hr 1 (by decide) (by decide);rw[n1]at a1;rw[n3]at a3;have s2:=a1.mp h1;have O:S 3:=r.mp s2;rcases cs x hx with rfl|rfl|rfl|rfl
  ·exact a3.mp O
  ·exact h1
  ·exact s2
  ·exact O
def K7(ρ:Int->Int):∀R:List (List Int),(R.map λc=>c.map ρ).flatten=R.flatten.map ρ
 |[]=>rfl
 |c :: R=>by rw[n9,oQ,oQ,oh,K7 ρ R]
def NF{ρ:Int->Int}:∀{l:List Int},l.Nodup->(∀x∈l,∀y∈l,ρ x=ρ y->x=y)->(l.map ρ).Nodup
 |[],_,_=>by simp
 |a :: l,nd,inj=>by
  rw[qm]at nd;rw[n9,qm];refine⟨λz=>?_,NF nd.2 λx O y hy=>inj x (by simp[O]) y (by simp[hy])⟩;obtain⟨b,F,e⟩:=n8.mp z;exact nd.1 (inj b (by simp[F]) a (by simp) e ▸ F)
def iA(O:ts.flatten.Nodup)(aa:∀x∈ts.flatten,∀y∈ts.flatten,ρ x=ρ y->x=y):(ts.map λt=>t.map ρ).flatten.Nodup/\∀x∈ts.flatten,pr (ts.map λt=>t.map ρ) (ρ x)=ρ (pr ts x):=by
 have F:(ts.map λt=>t.map ρ).flatten.Nodup:=by rw[K7];exact NF O aa
 refine⟨F,λx hx=>Dw F ?_⟩;have m:=Gw O hx;have row:∀t:List Int,BD (t.map ρ)=(BD t).map λp=>(ρ p.1,ρ p.2):=λt=>by
  rw[E8,E8];cases t with
  |nil=>rfl
  |cons a l =>
   rw[<-NG];congr 1;rw[pN,pN,yr,uR];rfl
 unfold A2 at m ⊢;obtain⟨r,hr,hm⟩:=oI.mp m;obtain⟨t,ht,rfl⟩:=n8.mp hr;refine oI.mpr ⟨BD (t.map ρ),n8.mpr ⟨t.map ρ,n8.mpr ⟨t,ht,J⟩,J⟩,?_⟩;rw[row];exact n8.mpr ⟨_,hm,J⟩
def Ex(r r':List Int):Prop:=∃l m,r=l++m/\r'=m++l
def Y5(h:Ex r r'):∀p∈BD r,p∈BD r':=by
 obtain⟨l,m,rfl,rfl⟩:=h;intro p F;rw[E8]at F ⊢;rw[NP]at F ⊢;cases l with
 |nil=>simpa [cp]using F
 |cons a l =>
  cases m with
  |nil=>simpa [cp]using F
  |cons b m =>
   have e1:((a :: l)++(b :: m)).getLastD 0=(b :: m).getLastD 0:=by rw[pN,pN,vv,uR];rfl
   have e2:((b :: m)++(a :: l)).getLastD 0=(a :: l).getLastD 0:=by rw[pN,pN,vv,uR];rfl
   have O:∀(c:Int) (k:List Int) (y z:Int),(c :: k).getLastD y=(c :: k).getLastD z:=λc k y z=>by cases k<;>rfl
   rw[e1]at F;rw[e2];rw[om]at F ⊢;rw[O b m _ 0,O a l _ 0]at *;rw[O a l _ 0]at F;exact F.symm
def Ex.By(h:Ex r r'):sZ r r':=by
 obtain⟨l,m,rfl,rfl⟩:=h;exact List.perm_append_comm
def OX:∀{ts us:List (List Int)},ts.length=us.length->(∀(i:Nat) (t u:List Int),ts[i]?=some t->us[i]?=some u->Ex t u)->sZ ts.flatten us.flatten
 |[],[],_,_=>xy _
 |t :: ts,u :: us,h,g=>by
  rw[oQ,oQ];exact(g 0 t u rfl rfl).By.append (OX (by simpa using h) λi a b O F=>g (i+1) a b O F)
def gJ(F:ts.flatten.Nodup)(hl:ts.length=us.length)(g:∀(i:Nat) (t u:List Int),ts[i]?=some t->us[i]?=some u->Ex t u):us.flatten.Nodup/\∀x∈ts.flatten,pr us x=pr ts x:=by
 have p:=OX hl g;have aa:=p.nodup_iff.mp F;refine⟨aa,λx hx=>Dw aa ?_⟩;have m:=Gw F hx;unfold A2 at m ⊢;obtain⟨r,hr,hm⟩:=oI.mp m;obtain⟨t,ht,rfl⟩:=n8.mp hr;obtain⟨i,hi,e⟩:=oG ht;have O:i<us.length:=by lia
 exact oI.mpr ⟨BD us[i],n8.mpr ⟨_,pX O,J⟩,Y5 (g i t us[i] (by rw[nj hi,e]) (nj O)) _ hm⟩
end
end Mth
namespace Mth
structure L6(φ:Int->Int)(m:Nat):Prop where
 DU:∀S:Int->Prop,(∀x,AJ (2*m+2) x->(S x↔S (φ x)))->(∀k:Nat,k<m->(S (2*(k:Int))↔S (2*(k:Int)+1)))->S (2*(m:Int)+1)->∀x,AJ (2*m+2) x->S x
def jT {φ ψ ρ:Int->Int}(D:Du φ (2*m+2))(ae:∀x,AJ (2*m+2) x->AJ (2*m+2) (φ x))(ac:∀x,AJ (2*m+2) x->AJ (2*m+2) (ρ x))(ad:∃σ:Int->Int,∀x,AJ (2*m+2) x->AJ (2*m+2) (σ x)/\ρ (σ x)=x)(ab:∀x y,AJ (2*m+2) x->AJ (2*m+2) y->ρ x=ρ y->x=y)
  (r0:ρ 0=2*(m:Int))(aa:∀x,AJ (2*m+2) x->AN (ρ x)=ρ (AN x))(h:∀x,AJ (2*m+2) x->ψ (ρ x)=ρ (φ x)):L6 ψ m:=by
 obtain⟨σ,hσ⟩:=ad;have i0:AJ (2*m+2) 0:=⟨by lia,by push_cast;lia⟩;have i1:AJ (2*m+2) 1:=⟨by lia,by push_cast;lia⟩;have e1:ρ 1=2*(m:Int)+1:=by
  have:=aa 0 i0
  rw[r0,show AN 0=1 from rfl]at this;rw[<-this];unfold AN;rw[nX (by lia)]
 refine⟨λS hS hr h0 y hy=>?_⟩
 ·obtain⟨a,b⟩:=hσ y hy
  have:=D.DU (λx=>S (ρ x)) (λx hx=>by
   have:=hS _ (ac x hx)
   rw[h x hx]at this;exact this) (λk k1 k2=>by
   have F:AJ (2*m+2) (2*(k:Int)):=⟨by lia,by push_cast;lia⟩;have ro:=aa _ F;rw[show AN (2*(k:Int))=2*(k:Int)+1 by unfold AN;rw[nX (by lia)]]at ro;have n0:ρ (2*(k:Int))≠2*(m:Int):=λz=>by have:=ab _ _ F i0 (z.trans r0.symm);lia
   have n1:ρ (2*(k:Int))≠2*(m:Int)+1:=λz=>by have:=ab _ _ F i1 (z.trans e1.symm);lia
   obtain⟨y0,y1⟩:=ac _ F;show S (ρ (2*(k:Int)))↔S (ρ (2*(k:Int)+1));rw[<-ro];generalize ρ (2*(k:Int))=z at *;have O:=hr (z.toNat / 2) (by lia);unfold AN;by_cases e:z%2=0
   ·rw[nX e];rw[show 2*((z.toNat / 2:Nat):Int)=z by lia]at O;exact O
   ·rw[nS e];rw[show 2*((z.toNat / 2:Nat):Int)=z-1 by lia,show z-1+1=z by lia]at O;exact O.symm) (by show S (ρ 1);rw[e1];exact h0) _ a
  rw[<-b];exact this
def jD(h:(x,y)∈A2 ts):∃t∈ts,∃k,k<t.length/\t[k]?=some x/\t[if k=0 then t.length-1 else k-1]?=some y:=by
 obtain⟨r,hr,hx⟩:=oI.mp h;obtain⟨t,ht,rfl⟩:=n8.mp hr;obtain⟨k,hk,e⟩:=n8.mp hx;have O:=o7.mp hk;obtain⟨e1,F⟩:=wA e;exists t,ht,k,O,?_
 ·rw[<-e1,nO,nj O];rfl
 ·unfold E9 at F
  have:(if k=0 then t.length-1 else k-1)<t.length:=by split<;>lia
  rw[<-F,nO,nj this];rfl
section
variable {n:Nat}{us:List (List Int)}(T:CS n us)
include T
end
end Mth
namespace Mth
structure MJ(us:List (List Int))(m:Nat):Prop where
 du:L6 (AQ us) m
 po:Cj us (2*m+2)
def dE {ρ:Int->Int}(D:Cj ts n)(ae:∀x,AJ n x->AJ n (AQ ts x))(ev:n%2=0)(aa:∀x,AJ n x->AJ n (ρ x))(ah:∃σ:Int->Int,∀x,AJ n x->AJ n (σ x)/\ρ (σ x)=x)(ag:∀x y,AJ n x->AJ n y->ρ x=ρ y->x=y)
  (ac:∀x,AJ n x->AN (ρ x)=ρ (AN x))(h:∀x,AJ n x->AQ us (ρ x)=ρ (AQ ts x))(hs:∀f:Int->Rat,(∀u∈us,(u.map f).sum=0)->∀t∈ts,(t.map λx=>f (ρ x)).sum=0):Cj us n:=λf ad af=>by
 obtain⟨σ,hσ⟩:=ah;obtain⟨p,i1,d1⟩:=D (λx=>f (ρ x)) (λx O=>by
  show f (ρ (AN x))=- f (ρ x);rw[<-ac x O];exact ad _ (aa x O)) (hs f af)
 have ab:∀x,AJ n x->σ (ρ x)=x:=λx O=>ag _ _ (hσ _ (aa x O)).1 O (hσ _ (aa x O)).2
 refine⟨λy=>p (σ y),λy hy=>?_,λy hy=>?_⟩
 ·obtain⟨F,s2⟩:=hσ y hy;show p (σ (AQ us y))=p (σ y)
  have:=h _ F
  rw[s2]at this;rw[this,ab _ (ae _ F)];exact i1 _ F
 ·obtain⟨F,s2⟩:=hσ y hy;show p (σ y)-p (σ (AN y))=f y;have e:σ (AN y)=AN (σ y):=by
   have:=ac _ F
   rw[s2]at this;rw[this,ab _ (C0 ev F)]
  have:=d1 _ F
  rw[e,this,s2]
end Mth
namespace My
open PySem L2 Mth
variable {x:Addr}{H:Hp}{e:Int}{L:List (Int×Int)}{ts:List (List Int)}{i j:Nat}
def AY(h:H p=none)(o:HO):AO H (AF H p o):=λb u q=>by rw[Ad (BW q h)];exact q
def Bn(x:Addr)(H H':Hp):Prop:=∀b o,b≠x->H b=some o->H' b=some o
def Bn.refl(x:Addr)(H:Hp):Bn x H H:=λ_ _ _ h=>h
def Bn.put(h:Bn x H H')(o:HO):Bn x H (AF H' x o):=λb u n q=>by rw[Ad n];exact h b u n q
def Bn.trans(a:Bn x H H1)(b:Bn x H1 H2):Bn x H H2:=λc o n h=>b c o n (a c o n h)
def _root_.L2.AO.b(h:AO H H'):Bn x H H':=λb o _ q=>h b o q
def Bn.same(h:Bn x H H')(s:AO H0 H)(n:H0 x=none):AO H0 H':=λb o q=>h b o (BW q n) (s b o q)
def Bn.Ae:Bn x H (AF H x o):=(Bn.refl x H).put o
def _root_.L2.AO.up(s:AO H0 H)(n:H0 x=none)(o:HO):AO H0 (AF H x o):=Bn.Ae.same s n
def KL{c A B:Prop}[Decidable c](F:¬c)(h:A):if (!decide c)=true then A else B:=by
 rw[qi F];exact D8 h
def C3{c A B:Prop}[Decidable c](F:c)(h:A):if decide c=true then A else B:=by
 rw[pR F];exact D8 h
def CH{c A B:Prop}[Decidable c](F:¬c)(h:B):if decide c=true then A else B:=by
 rw[qi F];exact Bj h
def iv(h:a=b):V.int a=V.int b:=by rw[h]
def EB(h:a≠b):¬V.int a=V.int b:=λz=>h (V.int.inj z)
def DD(h:n<=100000):n<oK:=by rw[sQ];lia
abbrev BI(L:List (Int×Int)):List (Aq×V):=L.map λp=>(oX p.1,V.int p.2)
def PJ(e:Int):∀L:List (Int×Int),Bp (BI L) (oX e:Aq)=(lk L e).map V.int
 |[]=>rfl
 |p :: L=>by
  show Bp ((oX p.1,V.int p.2) :: BI L) (oX e:Aq)=_;by_cases h:p.1=e
  ·rw[EJ (p:=((oX p.1:Aq),V.int p.2)) (by rw[h])];unfold lk;rw[wy (by simpa using h)];rfl
  ·rw[D3 (p:=((oX p.1:Aq),V.int p.2)) (λz=>h (zy z)),PJ e L];unfold lk;rw[wu (by simpa using h)]
def Pw{k:Aq}{v:V}(h:Bp ii k=none):CB ii k v=ii++[(k,v)]:=by
 unfold CB;rw[K2,h];rfl
def I0(h:e∉L.map (·.1)):CB (BI L) (oX e:Aq) (.int v)=BI (L++[(e,v)]):=by
 rw[Pw (by rw[PJ,cE h];rfl)];simp
abbrev Kk(l:List Int):List (Aq×V):=l.map λe=>(oX e,V.bl true)
def Pj(e:Int):∀l:List Int,Bp (Kk l) (oX e:Aq)=if e∈l then some (V.bl true) else none
 |[]=>rfl
 |p :: L=>by
  show Bp ((oX p,V.bl true) :: Kk L) (oX e:Aq)=_;by_cases h:p=e
  ·rw[EJ (p:=((oX p:Aq),V.bl true)) (by rw[h]),nX (by simp[h])]
  ·rw[D3 (p:=((oX p:Aq),V.bl true)) (λz=>h (zy z)),Pj e L]
   have:e∈p :: L↔e∈L:=by simp[qu h]
   by_cases q:e∈L
   ·rw[nX q,nX (this.mpr q)]
   ·rw[nS q,nS λz=>q (this.mp z)]
def bU(h:e∉l):CB (Kk l) (oX e:Aq) (.bl true)=Kk (l++[e]):=by
 rw[Pw (by rw[Pj,nS h])];simp
def LG(h:H d=some (.dK (BI L)))(q:lk L e=some v):DL H d (.int e) (some (.int v)):=by
 have:=DL.k (k:=oX e) h
 rw[PJ,q]at this;exact this
def JZ(H:Hp)(a:Addr)(bs:List Addr)(ts:List (List Int)):Prop :=
 H a=some (.AG (bs.map V.ref))/\bs.length=ts.length/\∀(i:Nat) (b:Addr) (row:List Int),bs[i]?=some b->ts[i]?=some row->H b=some (.AG (row.map V.int))
def JZ.keep(h:JZ H a bs ts)(s:AO H H'):JZ H' a bs ts :=
 ⟨s _ _ h.1,h.2.1,λi b row O F=>s _ _ (h.2.2 i b row O F)⟩
def Uq{bs:List Addr}{x:V}(F:bs.length=ts.length)(h:(bs.map V.ref)[i]?=some x):∃b row,x=.ref b/\bs[i]?=some b/\ts[i]?=some row:=by
 rw[nV]at h;cases e:bs[i]? with
 |none=>rw[e]at h;cases h
 |some b =>
  rw[e]at h;have hi:i<bs.length:=(nq.mp e).1;exact⟨b,ts[i]'(by lia),(oy h).symm,J,nj (by lia)⟩
def int_at{row:List Int}{x:V}(h:(row.map V.int)[i]?=some x):∃e,x=.int e/\row[i]?=some e:=by
 rw[nV]at h;cases q:row[i]? with
 |none=>rw[q]at h;cases h
 |some e =>
  rw[q]at h;exact⟨e,(oy h).symm,J⟩
def P6{row:List Int}(h:row[i]?=some e):(row.map V.int)[i]?=some (.int e):=by rw[nV,h];rfl
def Tn{row:List Int}(h:j<row.length):Bc (row.map V.int) ((j:Int)-1)=some (.int (E9 row j)):=by
 have g:∀i,i<row.length->(row.map V.int)[i]?=some (.int (row.getD i 0)):=λi hi=>by
  rw[nV,nj hi,nO,nj hi];rfl
 unfold E9;cases j with
 |zero =>
  rw[nX rfl];have F:(row.map V.int).length=row.length:=nh ..;have e:EA (row.map V.int).length (((0:Nat):Int)-1)=some (row.length-1):=by
   unfold EA;rw[F,nS (by decide),nX (by lia)];congr 1
   lia
  unfold Bc;rw[e];exact g _ (by lia)
 |succ j =>
  rw[nS (by lia),show(((j+1:Nat):Int)-1)=((j:Nat):Int) by lia];exact BQ (g j (by lia))
def MT(O:ts.flatten.Nodup)(h1:ts[i]?=some row)(h2:row[j]?=some e):e∉(ts.take i).flatten++row.take j:=by
 obtain⟨hi,q1⟩:=nq.mp h1;obtain⟨hj,q2⟩:=nq.mp h2;have e1:ts=ts.take i++row :: ts.drop (i+1):=by rw[<-q1,qY,qN]
 have F:row=row.take j++e :: row.drop (j+1):=by rw[<-q2,qY,qN]
 rw[e1,pW,oQ,qB]at O;obtain⟨_,n2,n3⟩:=O;intro z;rcases om.mp z with z|z
 ·exact n3 e z e (qU _ (by rw[F];simp)) rfl
 ·rw[qB]at n2;have n4:=n2.1;rw[F,qB]at n4;exact n4.2.2 e z e (by simp) rfl
def GY(x y z:V):Bc [x,y,z] 0=some x:=BQ (j:=0) rfl
def Eo(x y z:V):Bc [x,y,z] 1=some y:=BQ (j:=1) rfl
def FF(x y z:V):Bc [x,y,z] 2=some z:=BQ (j:=2) rfl
def BE{x y:V}:Bc [x,y] 0=some x:=BQ (j:=0) rfl
def As{x y:V}:Bc [x,y] 1=some y:=BQ (j:=1) rfl
def K6(xs:List V)(h:j<=xs.length):C5 xs none (some (j:Int))=xs.take j:=by
 unfold C5;have O:HT.Al xs.length 0 none=0:=rfl;have F:HT.Al xs.length xs.length (some (j:Int))=j:=by simp[HT.Al];rw[nS (by lia)];lia
 rw[O,F];simp
def LB(xs:List V)(h:j<=xs.length):C5 xs (some (j:Int)) none=xs.drop j:=by
 unfold C5;have O:HT.Al xs.length 0 (some (j:Int))=j:=by simp[HT.Al];rw[nS (by omega)];omega
 have F:HT.Al xs.length xs.length none=xs.length:=rfl;rw[O,F,oB];simp
def Dk(h:n<=100000):n<=oK:=wZ (DD h)
def CZ(H:Hp)(b:Addr)(ns:List Int):Prop:=H b=some (.AG (ns.map V.int))
def Mh:Mo CZ:=λs h=>s _ _ h
def CZ.B7(h:CZ H b t)(e:H a=some (.AE ys)):CZ (B7 H a) b t:=Gz h λz=>by rw[z]at h;unfold CZ at h;rw[e]at h;cases h
abbrev Cb(hs:List Nat):List V:=hs.map λx:Nat=>V.int (x:Int)
def iO{p:Nat}(h:hs[i]?=some p):Bc (Cb hs) ((i:Nat):Int)=some (.int (p:Int)):=BQ (by rw[nV,h];rfl)
def Jw(h:j<n):EA n ((j:Nat):Int)=some j:=by unfold EA;rw[nX (by lia),nX (by lia)];simp
def Ts(h:k (σ.set i (some v)) H):BU i v σ H k:=h
def Va{D:DV}(h:f σ H):({ D with nx:=f}:DV).nx σ H:=h
def SV{t u:L2.TS}{D:DV}{σ:L2.St}{G:L2.St->Hp->Prop}(m:(∀σ H,G σ H->u D σ H)->t { D with nx:=u D} σ H)(r:∀σ H,G σ H->u D σ H):Ka t u D σ H:=m r
def NM{i:Int}(h:i.natAbs<2 ^ n)(F:n<=8968):BN i:=pP h (pk (by decide) F)
abbrev nD(K:nT)(H:Hp)(a:Addr)(ns:List Int):Prop:=AI K H a (ns.map V.int)/\ns.length<=63
end My
namespace My
open PySem
variable {a:Addr}{H:Hp}{Z:Int}{T:List (List Rat)}{r:List Rat}{rs:List AX}{ys:List V}{D N c i j m α β:Nat}{X:Nat->Rat}{p:Rat}
def top(i:Nat):Stmt:=PySem.Challenge.pw_currentfloor_k26_whole_floors_cover.main.body.getD i (.Pass ⟨0,0,0,0⟩)
abbrev sCommon:Stmt:=top 5
abbrev sFraction:Stmt:=top 6
abbrev sPlus:Stmt:=top 7
abbrev sMinus:Stmt:=top 8
abbrev sTimes:Stmt:=top 9
abbrev s_less:Stmt:=top 10
abbrev sCBot:Stmt:=top 11
abbrev sWholes:Stmt:=top 12
abbrev sLed:Stmt:=top 14
abbrev sSweptRow:Stmt:=top 15
abbrev sSwept:Stmt:=top 16
abbrev sBack:Stmt:=top 17
abbrev sAnswer:Stmt:=top 18
abbrev sEaseTable:Stmt:=top 20
abbrev sPoleless:Stmt:=top 21
abbrev sHeights:Stmt:=top 22
abbrev sFallOf:Stmt:=top 23
abbrev sRunBy:Stmt:=top 24
abbrev sRunnings:Stmt:=top 25
abbrev sEaseOf:Stmt:=top 26
abbrev sOther:Stmt:=top 28
abbrev sAhead:Stmt:=top 29
abbrev sRingFrom:Stmt:=top 30
abbrev sRings:Stmt:=top 31
abbrev sLandOf:Stmt:=top 32
abbrev s_land_sides:Stmt:=top 34
abbrev s_rising:Stmt:=top 35
abbrev s_laid:Stmt:=top 36
abbrev s_numbers_of:Stmt:=top 37
abbrev s_whole_floor:Stmt:=top 38
abbrev s_is_neither:Stmt:=top 40
abbrev s_is_out:Stmt:=top 41
abbrev s_overlap:Stmt:=top 42
abbrev s_first_overlap:Stmt:=top 43
abbrev s_borders:Stmt:=top 44
abbrev s_covered_cells:Stmt:=top 45
abbrev s_first_gap:Stmt:=top 46
abbrev s_looked_whole:Stmt:=top 47
abbrev s_looked:Stmt:=top 48
abbrev s_law_numbers:Stmt:=top 50
abbrev sWhole:Stmt:=top 51
abbrev s_law_row:Stmt:=top 52
abbrev s_law_divisor:Stmt:=top 53
abbrev sLFrac:Stmt:=top 54
abbrev sLEase:Stmt:=top 55
abbrev s_law_ahead:Stmt:=top 56
abbrev s_law_land:Stmt:=top 57
abbrev s_law_corner:Stmt:=top 58
abbrev sGrow:Stmt:=top 59
abbrev s_law_order:Stmt:=top 60
abbrev s_law_finished:Stmt:=top 61
abbrev sNext:Stmt:=top 62
abbrev s_law_grown:Stmt:=top 63
abbrev s_law_long:Stmt:=top 64
abbrev s_law_some_net:Stmt:=top 65
abbrev s_law_is_fraction:Stmt:=top 66
abbrev s_law_fractions_are:Stmt:=top 67
abbrev s_law_is_floor:Stmt:=top 68
abbrev s_law_plus:Stmt:=top 69
abbrev s_law_minus:Stmt:=top 70
abbrev s_law_times:Stmt:=top 71
abbrev s_law_before:Stmt:=top 72
abbrev s_law_fall:Stmt:=top 73
abbrev s_law_lies:Stmt:=top 74
abbrev s_law_apart:Stmt:=top 75
abbrev sLaw:Stmt:=top 76
open L2 Mth
section
variable {P:o6}{w:World}{K:nT}{mg:Str->Option Value}{base:Heap}
inductive Na(vs:List V)(H:Hp)(Q:VK)(_:XK):Prop
 |mk (a b:Int) (O:vs=[.int a,.int b]) (F:Q (.int (pU a b:Int)) H)
def UI(h:pU x 0=n):(if x<0 then -x else x)=(n:Int):=by
 rw[<-h,Int.gcd_zero_right];split<;>lia
def Nw:Ar ["one","other","rest"] ["one","other"] (Ah sCommon):=Ay
def Yo(F:Ak K "common_part" "common_part" sCommon f fd)(ma:mg "abs" = none):Ag P w K mg base Ap 1 f fd ["one","other"] Na:=by
 refine F.A1 Nw λim A _ s H vs Q E hr h=>?_
 obtain⟨a,b,rfl,q⟩:=h;exists _,AL (Hy oE (BP Fj (pv 1) AB)
   (AL (AW 2 Nw (AM cN (pv 0) (pv 1)))
   (AL (AW 0 Nw (pv 1))
   (AS (AW 1 Nw (pv 2))))))
  (AS (Ai (Bu Mc (by rfl) ma PyProof.Rows.boot_abs (AA (pv 0) AD))))
 refine Hu (λσ H2=>∃x y r,σ=[some (.int x),some (.int y),r]/\H2=H/\pU x y=pU a b) (λσ _=>match σ with | [_,some (.int y),_]=>y.natAbs|_=>0) ⟨a,b,none,J,J,J⟩ ?_ ?_
 ·rintro σ H2 ⟨x,y,r,rfl,rfl,g⟩;exists _,J,J,_,rfl;by_cases O:y=0
  ·refine GP (iv O) ?_;subst O;exists _,J,x,rfl;rw[UI g];exact q
  ·refine KL (EB O) ?_;exact⟨_,J,_,J,_,_,J,J,O,_,J,_,J,⟨y,x.fmod y,some (.int (x.fmod y)),J,J,(S7 x y).trans g⟩,ff x y O⟩
 ·rintro σ H2 Q1 Q2 hq ⟨v,e,sc,b,eb,z⟩;exact⟨v,e,sc,b,eb,hq _ _ z⟩
def Oi{X:Cx}:PS X st (λ_ _ _=>False):=by
 intro gt s σ H D I h;exact qv h
inductive Tp(C:Addr)(vs:List V)(H:Hp)(Q:VK)(E:XK):Prop
 |mk (t b:Int) (ab:vs=[.int t,.int b]) (O:BN b) (F:(b=0->False)) (aa:(b≠0->∀p,H p=none->Q (.ref p) (AF H p (.AG [.int (BV t b).1,.int (BV t b).2])))):Tp C vs H Q E
def KG(C:Addr):Sp:=λvs H Q E=>Tp C vs H Q E
def Q4:Ar ["top","bottom","part"] ["top","bottom"] (Ah sFraction):=Ay
def Xu(F:Ak K "fraction" "fraction" sFraction f fd)(G:AZ P w K mg base 1 "common_part" ["one","other"] Na):Ag P w K mg base Ap 2 f fd ["top","bottom"] (KG C):=by
 refine F.A1 Q4 λim A _ s H vs Q E hr h=>?_
 obtain⟨t,b,rfl,hb,h0,h1⟩:=h;exists _,AL (BL (BP DX (pv 1) AB) (AS Oi) BR)
  (AL (AW 2 Q4 (AV G (AA (pv 0) (AA (pv 1) AD))))
  (AL (BL (BP Fh (pv 1) AB) (AS (AW 2 Q4 (HP G0 (pv 2)))) BR)
  (AS (Ai (BS (AA (AM FV (pv 0) (pv 2)) (AA (AM FV (pv 1) (pv 2)) AD)))))))
 exists _,J,J,_,rfl;by_cases hz:b=0
 ·refine C3 (iv hz) ?_;exact(h0 hz).elim
 refine CH (EB hz) ?_;exists _,J,_,J,t,b,rfl;exists _,J,_,_,J,J,_,rfl;have ab:∀aa,aa=Mth.BJ t b->Qp (Lw (BO (Bb (rI JG λi j=>V.int (i.fdiv j)) (Aw 0) (Aw 2)) (BO (Bb (rI JG λi j=>V.int (i.fdiv j)) (Aw 1) (Aw 2)) CI)))
   { nx:=λ_ H'=>Q .A5 H',rt:=Q} [some (.int t),some (.int b),some (.int aa)] H:=by
  rintro aa rfl;have hp:JG t (Mth.BJ t b):=⟨LN t b hz,qJ (Tc t b hz) hb⟩;exact⟨_,J,_,J,_,_,J,J,hp,_,J,_,J,_,_,J,J,hp,by exact Bk,h1 hz⟩
 by_cases O:b<0
 ·refine C3 O ?_;exact⟨_,J,_,J,ab _ (by unfold Mth.BJ;rw[nX O])⟩
 ·refine CH O ?_;exact ab _ (by unfold Mth.BJ;rw[nS O])
open Wd
def Pm(s:AO H0 H)(n:H0 x=none)(o:HO):AO H0 (AF H x o):=λb u q=>by rw[Ad (BW q n)];exact s b u q
def Ft{i:Int}(h:i.natAbs<=2 ^ n)(F:n<8968):BN i:=qJ h (zV (by decide) F)
def Pk{ns:List Int}(h:(ns.map V.int)[i]?=some v):∃e,v=.int e/\ns[i]?=some e:=by
 rw[nV]at h;cases q:ns[i]? with
 |none=>rw[q]at h;cases h
 |some e=>rw[q]at h;exact⟨e,(oy h).symm,J⟩
def Iy{ns:List Int}(h:i<ns.length):Bc (ns.map V.int) (i:Int)=some (.int (ns.getD i 0)):=by
 refine BQ ?_;rw[nV,nj h,nO,nj h];rfl
def Ck{α:Type}{xs:List α}{x:α}(h:xs[i]?=some x):xs.take (i+1)=xs.take i++[x]:=by
 rw[yt,h];rfl
variable {f g h C:Addr}{fd gd hd:qy}
inductive Qh(vs:List V)(H:Hp)(Q:VK)(_:XK):Prop
 |mk (a:Addr) (F:List Rat) (d:Nat) (ad:vs=[.ref a]) (aa:BB AR H a F) (O:(∀q∈F,q.den<=2 ^ d)) (ab:d*F.length+d<8968) (ac:Q (.int (cb F)) H)
def IS:Ar ["row","common","one"] ["row"] (Ah sCBot):=Ay
def fh(F:Ak K "common_bottom" "common_bottom" sCBot f fd)(G:AZ P w K mg base 1 "common_part" ["one","other"] Na):
  Ag P w K mg base Ap 2 f fd ["row"] Qh:=by
 refine F.A1 IS λim A _ s H vs Q E hr h=>?_
 obtain⟨a,O,d,rfl,⟨bs,ha,hA⟩,hd,hsz,q⟩:=h;exists _,AL (AW 1 IS AB)
  (AL (Bg oE rfl (Di (pv 0)) (Az 2 IS)
   (AS (AW 1 IS (AM CK (AM FV (pv 1) (AV G (AA (pv 1) (AA (A6 Bl (pv 2) AB) AD)))) (A6 Bl (pv 2) AB)))))
  (AS (Ai (pv 1))))
 exists _,J,a,J,⟨_,AH.of ha⟩;refine ID (xs:=bs.map V.ref) (λi σ H2=>∃u,H2=H/\σ=[some (.ref a),some (.int ((O.take i).foldl CT 1)),u]) ⟨none,J,J⟩ (λi σ H2 _ ⟨_,e,_⟩=>by rw[e];exact AH.of ha) ?_ ?_
 ·rintro i x σ H2 hx ⟨u,rfl,rfl⟩;obtain⟨b,y,rfl,_,hy,hB⟩:=hA.ref hx;have hi:i<O.length:=(nq.mp hy).1;have ym:y∈O:=nz hy;obtain⟨c1,c2,c3,c4⟩:=Vg (O.take i) (c:=1) (D:=0) (d:=d) (by decide) (by decide) (λp hp=>hd p (vw hp));generalize hc:(O.take i).foldl CT 1=c at *;have lt:(O.take i).length<=O.length:=by simp;lia
  have af:d*(O.take i).length<=d*O.length:=rA d lt;have aa:y.den<=2 ^ d:=hd y ym;have ac:(pU c y.den:Int)≠0:=by have:=tL (y.den:Int) (show c≠0 by lia);lia
  have ae:BN (pU c y.den:Int):=by
   refine Ft (n:=d) ?_ (by lia);rw[oW];refine oC (vC ?_ (xQ.mp (va c (y.den:Int)))) ?_
   ·have:=y.den_nz;lia
   ·simpa using aa
  have ad:BN (c.fdiv (pU c y.den:Int)):=by
   refine Ft (n:=0+d*(O.take i).length) (oC ?_ c4) (by lia);rw[qd (uB c _)];exact vH c _
  have ab:BN (y.den:Int):=Ft (n:=d) (by simpa using aa) (by lia);exists _,J,_,J,_,J,b,_,_,_,J,J,AH.of hB,As,c,y.den,J,_,_,J,J,⟨ac,ae⟩,_,J,b,_,_,_,J,J,AH.of hB,As,_,_,J,J,⟨ad,ab⟩;exists some (.ref b),rfl;rw[Ck hy,we];show _=[some (V.ref a),some (.int (CT ((O.take i).foldl CT 1) y)),some (.ref b)];rw[hc];rfl
 ·rintro σ H2 ⟨u,rfl,rfl⟩;exists _,rfl;rw[nh,hA.1,qc];exact q
inductive K9(vs:List V)(H:Hp)(Q:VK)(_:XK):Prop
 |mk (a:Addr) (F:List Rat) (b:Int) (ad:vs=[.ref a,.int b]) (aa:BB AR H a F) (O:F.length<=1000) (ab:(∀q∈F,BN q.num/\BN (q.den:Int)/\BN (b.fdiv q.den))) (ac:∀p H',AO H H'->H p=none->Bo H' p (F.map (wh b))->Q (.ref p) H')
def mI:Ar ["row","bottom"] ["row","bottom"] (Ah sWholes):=Ay
def l9:(["one","bottom"]:List Str).Nodup:=by decide +kernel
def Y2(F:Ak K "wholes" "wholes" sWholes f fd):Ag P w K mg base Ap 1 f fd ["row","bottom"] K9:=by
 refine F.A1 mI λim A _ s H vs Q E hr h=>?_
 obtain⟨a,qs,b,rfl,⟨bs,ha,hA⟩,hn,hsz,q⟩:=h;exists _,AS (Ai (DR (Nc:=["one","bottom"]) (cap:=[(1,1)]) (g:=BU 0) (te:=Bb (rI Lh λi j=>.int (i*j)) (Bb (GZ []) (Aw 0) (tC (.int 0))) (Bb (rI JG λi j=>.int (i.fdiv j)) (Aw 1) (Bb (GZ []) (Aw 0) (tC (.int 1))))) rfl (Di (pv 0))
   CU
   (λ_ _ _ _ _=>B8 (i:=0) l9 rfl (qr rfl)) (λ_ _ _ _ _=>AM CK (A6 Bl (pv 0) AB) (AM FV (pv 1) (A6 Bl (pv 0) AB)))))
 refine⟨_,J,a,J,⟨_,AH.of ha⟩,λad aa=>?_⟩;refine Cm (IF ha) (by rw[nh,hA.1];exact hn) aa (λi ys σ _=>ys=((qs.take i).map (wh b)).map V.int/\∃u,σ=[u,some (.int b)]) ⟨J,none,J⟩ ?_ ?_
 ·rintro i ys σ H2 x H3 hi sm ae ⟨O,u,rfl⟩ ⟨rfl,hx⟩ C hC;obtain⟨c,y,rfl,_,hy,hB⟩:=hA.ref hx;obtain⟨s1,s2,s3⟩:=hsz y (nz hy);have ab:=An sm hB;have yd:=y.den_nz;refine⟨_,J,c,_,_,_,J,J,AH.of ab,BE,_,J,_,J,c,_,_,_,J,J,AH.of ab,As,_,_,J,J,⟨by lia,s2⟩,_,_,J,J,⟨s1,s3⟩,?_⟩;refine hC _ _ _ (AO.refl _) ⟨?_,_,J⟩;rw[O,Ck hy,oh,oh];rfl
 ·rintro ys σ H2 sm ac hl ⟨O,_⟩;refine q ad H2 sm aa ?_;rw[nh,hA.1,qc]at O;unfold Bo;rw[ac,O]
inductive Vs(vs:List V)(H:Hp)(Q:VK)(_:XK):Prop
 |mk (a:Addr) (R:List (List Int)) (k m:Nat) (O:vs=[.ref a,.int k]) (ab:DC Bo H a R) (ad:k<R.length) (af:R.length<=1000) (ac:(∀r∈R,r.length=m)) (ae:k<m) (aa:m<=1000) (F:((∀i,k<=i->i<R.length->(R.getD i []).getD k 0=0)->Q .A5 H)) (ag:∀i p H',k<=i->i<R.length->(R.getD i []).getD k 0≠0->AO H H'->H p=none->DC Bo H' p (Kb R k i)->Q (.ref p) H')
def Qm:Ar ["rows","k","place","exchanged"] ["rows","k"] (Ah sLed):=Ay
def mE:(["number"]:List Str).Nodup:=by decide +kernel
def getD_some{α:Type}{xs:List α}{x d:α}(h:xs[i]?=some x):xs.getD i d=x:=by rw[nO,h];rfl
def LC:qo "list" = some (.type "list"):=by decide +kernel
def PZ(h:j<n):EA n (j:Int)=some j:=by
 unfold EA;rw[nX (by lia),nX (by lia)];simp
def gx(F:Ak K "led" "led" sLed f fd)(ml:mg "len" = none)(mr:mg "range" = none)(ah:mg "list" = none):Ag P w K mg base Ap 1 f fd ["rows","k"] Vs:=by
 refine F.A1 Qm λim A _ s H vs Q E hr h=>?_
 obtain⟨a,R,k,m,rfl,⟨bs,ha,hA⟩,hk,hR,hm,ar,av,qn,qs⟩:=h;exists _,AL (Bg oE rfl (MU (by rfl) mr (AA (pv 1) (AA (Bu LM (by rfl) ml Gx (AA (pv 0) AD)) AD))) (Az 2 Qm)
   (AS (BL (BP Fj (A6 CJ (A6 CJ (pv 0) (pv 2)) (pv 1)) AB)
    (AL (AW 3 Qm (EG UD (by rfl) ah LC (AA (pv 0) AD)))
    (AL (BL (BP Fj (pv 2) (pv 1))
     (AL (Dg (A6 CJ (pv 0) (pv 2)) (Fc (pv 3) (pv 1) FX))
     (AS (Dg (DR (Nc:=["number"]) (cap:=[]) (g:=BU 0) (te:=Wx (rU λi=>.int (-i)) (Aw 0)) rfl (EN (A6 CJ (pv 0) (pv 1)))
      CU (λ_ _ _ _ _=>B8 (i:=0) mE rfl (qr rfl)) (λ_ _ _ _ _=>HP G0 (pv 0))) (Fc (pv 3) (pv 2) FX)))) BR)
    (AS (Ai (pv 3))))) BR)))
  (AS (Ai JC))
 have aq:bs.length=R.length:=hA.1;refine⟨_,J,_,J,a,_,J,.inl (AI.of ha),_,_,J,⟨by lia,by lia,by rw[nh];lia,by rw[nh];lia⟩,?_⟩;rw[nh,show((bs.length:Int)-(k:Int)).toNat=R.length-k by lia];refine Gr (n:=R.length-k) (λi σ H2=>H2=H/\(∃u v,σ=[some (.ref a),some (.int k),u,v])/\∀j,k<=j->j<k+i->(R.getD j []).getD k 0=0) ⟨J,⟨none,none,J⟩,λj h1 h2=>by lia⟩ ?_ ?_
 ·rintro i σ H2 hi ⟨rfl,⟨u,v,rfl⟩,hz⟩;have ac:k+i<R.length:=by lia
  have ei:R[k+i]?=some R[k+i]:=nj ac;obtain⟨b,hb,hB⟩:=hA.get ei;have rl:R[k+i].length=m:=hm _ (pX ac);have gi:R.getD (k+i) []=R[k+i]:=getD_some ei;have ae:(k:Int)+(i:Int)=((k+i:Nat):Int):=by lia
  refine⟨_,J,_,J,a,_,_,_,J,J,AI.of ha,by rw[ae];exact BQ (C9 hb),_,J,b,_,_,_,J,J,AI.of hB,Iy (by lia),J,_,J,?_⟩;by_cases hv:R[k+i].getD k 0=0
  ·refine GP (iv hv) ⟨J,⟨_,_,J⟩,λj h1 h2=>?_⟩;rcases oM j (k+i)with h3|h3
   ·exact hz j h1 h3
   ·obtain rfl:j=k+i:=by lia
    rw[gi];exact hv
  ·refine KL (EB hv) ?_;refine⟨_,J,a,_,J,.inl (AI.of ha),λl O=>?_⟩;exists _,J,_,J,J,_,rfl;by_cases ak:i=0
   ·subst ak;refine GP (iv (by lia)) ?_;refine⟨_,J,qs (k+0) l _ (by lia) ac (by rw[gi];exact hv) (AY O _) O ?_⟩;unfold Kb;rw[nX (by lia)];exact⟨bs,AU,hA.keep Dr (AY O _)⟩
   ·refine KL (EB (by lia)) ?_;have ek:R[k]?=some R[k]:=nj hk;obtain⟨c,hc,af⟩:=hA.get ek;have gk:R.getD k []=R[k]:=getD_some ek;have al:a≠l:=BW ha O;have s1:AO H2 (AF H2 l (.AE (bs.map V.ref))):=AY O _;refine⟨_,J,_,J,a,_,_,_,J,J,AI.of (s1 _ _ ha),by rw[ae];exact BQ (C9 hb),_,J,_,J,l,_,_,_,J,J,AU,PZ (j:=k) (by rw[nh];lia),?_⟩;have s2:AO H2 (AF (AF H2 l (.AE (bs.map V.ref))) l (.AE ((bs.map V.ref).set k (.ref b)))):=Pm s1 O _;refine⟨_,J,_,J,a,_,_,_,J,J,AI.of (s2 _ _ ha),BQ (C9 hc),c,J,⟨_,AI.of (s2 _ _ af)⟩,λaa ad=>?_⟩;have aj:=s2 _ _ af;generalize ao:AF (AF H2 l (.AE (bs.map V.ref))) l (.AE ((bs.map V.ref).set k (.ref b)))=H3 at *;have ag:H3 l=some (.AE ((bs.map V.ref).set k (.ref b))):=by rw[<-ao];exact AU
    have rk:R[k].length=m:=hm _ (pX hk);refine Cm (FW aj) (by rw[nh];lia) ad (λj ys σ _=>ys=((R[k].take j).map λx=>-x).map V.int/\∃u,σ=[u]) ⟨J,none,J⟩ ?_ ?_
    ·rintro j ys σ H4 x H5 hj sm au ⟨ab,u4,rfl⟩ ⟨rfl,hx⟩ C hC;obtain⟨e,rfl,he⟩:=Pk hx;refine⟨_,J,_,J,hC _ _ _ (AO.refl _) ⟨?_,_,J⟩⟩;rw[ab,Ck he,oh,oh];rfl
    ·rintro ys σ H4 sm ai ap ⟨ab,_⟩;rw[nh,qc]at ab;refine⟨_,J,_,J,l,_,_,_,J,J,sm _ _ ag,by rw[ae];exact PZ (j:=k+i) (by rw[rS,nh];lia),?_⟩;have am:aa≠l:=λz=>by rw[z,ag]at ad;cases ad
     have s5:AO H2 (AF H4 l (.AE (((bs.map V.ref).set k (.ref b)).set (k+i) (.ref aa)))):=Pm (s2.trans sm) O _;refine⟨_,J,qs (k+i) l _ (by lia) ac (by rw[gi];exact hv) s5 O ?_⟩;unfold Kb;rw[nS (by lia),gi,gk];exists (bs.set k b).set (k+i) aa,?_
     ·rw[AU,vh,vh]
     ·refine((hA.keep Dr s5).set k (Dr s5 hB)).set (k+i) ?_;show AF H4 l _ aa=_;rw[Ad am,ai,ab]
 ·rintro σ H2 ⟨rfl,⟨u,v,rfl⟩,hz⟩;exact qn λi h1 h2=>hz i h1 (by lia)
inductive QY(vs:List V)(H:Hp)(Q:VK)(_:XK):Prop
 |mk (a b:Addr) (row F:List Int) (k m:Nat) (p:Int) (ab:vs=[.ref a,.ref b,.int k,.int p]) (ae:Bo H a row) (ah:Bo H b F) (aj:row.length=m) (ag:F.length=m) (ai:k<m) (ac:m<=1000) (aa:p≠0) (ad:BN p) (ak:(∀x∈row,BN x)) (O:(∀x∈F,BN x)) (af:∀q H',AO H H'->H q=none->Bo H' q (Cw row F k p)->Q (.ref q) H')
def mJ:Ar ["row","lead","k","before"] ["row","lead","k","before"] (Ah sSweptRow):=Ay
def Wv:(["number","other","row","lead","k","before"]:List Str).Nodup:=by decide +kernel
def kQ(K:nT):TE:=Bb (rI JG λi j=>.int (i.fdiv j)) (Bb (FR λi j=>.int (i-j)) (Bb (rI Lh λi j=>.int (i*j)) (Bb (FN []) (Aw 3) (Aw 4)) (Aw 0)) (Bb (rI Lh λi j=>.int (i*j)) (Bb (FN []) (Aw 2) (Aw 4)) (Aw 1))) (Aw 5)
def Xr(F:Ak K "swept_row" "swept_row" sSweptRow f fd)(mz:mg "zip" = none):Ag P w K mg base Ap 1 f fd ["row","lead","k","before"] QY:=by
 refine F.A1 mJ λim A _ s H vs Q E hr h=>?_
 obtain⟨a,b,row,O,k,m,p,rfl,ha,hb,ag,aj,hk,hm,hp,bp,br,bl,q⟩:=h;exists _,AS (Ai (DR (Nc:=["number","other","row","lead","k","before"]) (cap:=[(2,0),(3,1),(4,2),(5,3)]) (g:=JY [] 2 (HM (BU 0) (HM (BU 1) Ly))) (te:=kQ K) rfl (Mq (t1:=false) (t2:=false) (by rfl) mz (AA (pv 0) (AA (pv 1) AD)))
   CU
   (λ_ _ _ _ _=>Cp rfl (BH (B8 (i:=0) Wv rfl (qr rfl)) (BH (B8 (i:=1) Wv rfl (qr rfl)) Cn)))
   (λ_ _ _ _ _=>AM FV (AM C7 (AM CK (A6 CJ (pv 3) (pv 4)) (pv 0)) (AM CK (A6 CJ (pv 2) (pv 4)) (pv 1))) (pv 5))))
 refine⟨_,J,_,J,a,b,J,⟨_,Bm.l ha⟩,⟨_,Bm.l hb⟩,λah ac=>?_⟩;refine Cm (PV (xs:=row.map V.int) (ys:=O.map V.int) (λH2 s=>Bm.l (s _ _ ha)) (λH2 s=>Bm.l (s _ _ hb)) (by rw[nh,nh];lia)) (by rw[nh];lia) ac
  (λi ys σ _=>ys=((Cw row O k p).take i).map V.int/\∃u v,σ=[u,v,some (.ref a),some (.ref b),some (.int k),some (.int p)]) ⟨J,none,none,J⟩ ?_ ?_
 ·rintro i ys σ H2 x H3 hi sm ak ⟨aa,u,v,rfl⟩ ⟨t,n1,n2,rfl,ht,rfl,ae,ai⟩ C hC;obtain⟨x1,rfl,ad⟩:=Pk ae;obtain⟨x2,rfl,ab⟩:=Pk ai;have s3:AO H2 (AF H2 t (.AG [.int x1,.int x2])):=AY ht _;have gm:∀(l:List Int) (j:Nat),j<l.length->(∀x∈l,BN x)->BN (l.getD j 0):=λl j hj hb=>by
   rw[nO,nj hj];exact hb _ (pX hj)
  exists t,_,J,AH.of AU,J,_,_,J,_,_,J,rfl;exists _,J,_,J,b,_,_,_,J,J,AI.of (s3 _ _ (sm _ _ hb)),Iy (by lia),_,J,_,_,J,J,⟨gm _ _ (by lia) bl,br _ (nz ad)⟩,
   _,J,_,J,a,_,_,_,J,J,AI.of (s3 _ _ (sm _ _ ha)),Iy (by lia),_,J,_,_,J,J,⟨gm _ _ (by lia) br,bl _ (nz ab)⟩,_,_,J,J,_,J,_,_,J,J,⟨hp,bp⟩
  refine hC _ _ _ s3 ⟨?_,_,_,J⟩;have e:(Cw row O k p)[i]?=some ((O.getD k 0*x1-row.getD k 0*x2).fdiv p):=by
   unfold Cw;rw[vf,ad,ab]
  rw[aa,Ck e,oh];rfl
 ·rintro ys σ H2 sm af hl ⟨aa,_⟩;refine q ah H2 sm ac ?_;rw[nh]at aa
  have:(Cw row O k p).length=m:=Mp ag aj
  rw[oB (by lia)]at aa;unfold Bo;rw[af,aa]
inductive TN(vs:List V)(H:Hp)(Q:VK)(_:XK):Prop
 |mk (a:Addr) (R:List (List Int)) (n m B0:Nat) (aa:vs=[.ref a]) (ac:DC Bo H a R) (ae:R.length=n) (ag:n<=m) (ad:m<=100) (af:(∀r∈R,r.length=m)) (ab:1<=B0) (O:(∀r∈R,∀x∈r,x.natAbs<=B0)) (ai:(m*B0) ^ n<2 ^ 8968) (ah:(∀H',AO H H'->ld n m (Aa (R.map vr) Ae)=0->Q .A5 H')) (F:∀p H' T,AO H H'->DC Bo H' p T->(∃Z c v,Bi B0 n m n (R.map vr) T Z c v)->Q (.ref p) H')
def IQ:Ar ["rows","size","before","k","lead"] ["rows"] (Ah sSwept):=Ay
def ke:(["row","lead","k","before"]:List Str).Nodup:=by decide +kernel
def T6{O:List (List Int)}{Z:List (List Int×Am)}{p:Int}(B:Bi B0 n m k A0 O Z p v)(F:(m*B0) ^ n<2 ^ 8968)(hz:z∈Z):∀x∈z.1,BN x:=by
 intro x hx;obtain⟨j,rfl⟩:=Wd.mem_getD hx;have h:=GL (B.XA hz j);have hl:=B.FG;have hp:0<Z.length:=rO hz;have h1:1<=m*B0:=aa9 (by have:=B.nm;lia) B.b1;exact qJ (oC h (UU h1 (by lia))) F
def V0{F:List (List Int)}{Z:List (List Int×Am)}{p:Int}(B:Bi B0 n m k A0 F Z p v)(hb:(m*B0) ^ n<2 ^ 8968):BN p:=by
 rcases uS k with rfl|hk
 ·have h1:=B.pl
  have:(p:Rat)=ld 0 m v:=h1.symm
  have O:=B.Ii (Tk 0 m);have e:ld 0 m v=v (Tk 0 m):=by simp[ld,CF]
  rw[<-e,<-this]at O
  have:=GL O
  have z:(1:Nat)<2 ^ 8968:=by
   have:=Nat.one_lt_two_pow (n:=8968) (by decide)
   exact this
  rw[aaB]at this;exact qJ this z
 ·have hl:=B.IT hk;have ht:=B.GX;have hm:F.getD (k-1) []∈F:=by
   rw[nO,nj (by omega)];exact pX _
  have:=GL (B.Jk _ hm (k-1))
  rw[hl]at this;exact qJ this hb
def aH (F:Ak K "swept" "swept" sSwept f fd)(G:AZ P w K mg base 1 "led" ["rows","k"] Vs)
  (G2:AZ P w K mg base 1 "swept_row" ["row","lead","k","before"] QY)
  (ml:mg "len" = none)(mr:mg "range" = none):Ag P w K mg base Ap 2 f fd ["rows"] TN:=by
 refine F.A1 IQ λim A _ s H vs Q E hr h=>?_
 obtain⟨a,R,n,m,B0,rfl,hA,hn,ay,hm,a4,a0,a2,ak,qn,qs⟩:=h;exists _,AL (AW 1 IQ (Bu LM (by rfl) ml Gx (AA (pv 0) AD)))
  (AL (AW 2 IQ AB)
  (AL (Bg oE rfl (Io (by rfl) mr (AA (pv 1) AD)) (Az 3 IQ)
   (AL (AW 0 IQ (AV G (AA (pv 0) (AA (pv 3) AD))))
   (AL (BL (BP Uy (pv 0) JC) (AS (Ai JC)) BR)
   (AL (AW 4 IQ (A6 CJ (pv 0) (pv 3)))
   (AL (AW 0 IQ (AM HK (E4 Km (pv 0) FY (Ef (AM BK (pv 3) AB)))
    (DR (Nc:=["row","lead","k","before"]) (cap:=[(1,4),(2,3),(3,2)]) (g:=BU 0) (te:=Dt QY [] E0 (BO (Aw 0) (BO (Aw 1) (BO (Aw 2) (BO (Aw 3) CI))))) rfl (EN (E4 Km (pv 0) (Ef (AM BK (pv 3) AB)) FY))
     CU
     (λ_ _ _ _ _=>B8 (i:=0) ke rfl (qr rfl)) (λ_ _ _ _ _=>AV G2 (AA (pv 0) (AA (pv 1) (AA (pv 2) (AA (pv 3) AD))))))))
   (AS (AW 2 IQ (A6 CJ (pv 4) (pv 3)))))))))
  (AS (Ai (pv 0)))))
 obtain⟨bs,ha,ag⟩:=id hA;exists _,J,a,_,J,.inl (AI.of ha);refine⟨_,J,(((bs.map V.ref).length:Nat):Int),J,by rw[nh,ag.1];lia,by rw[nh,ag.1];lia,?_⟩;rw[show((((bs.map V.ref).length:Nat):Int)).toNat=n by rw[nh,ag.1];lia];refine Gr (n:=n) (λk σ H2=>AO H H2/\∃(c:Addr) (O:List (List Int)) (Z:List (List Int×Am)) (p:Int) (v:BA) (u1 u2:Option V),σ=[some (.ref c),some (.int (((bs.map V.ref).length:Nat):Int)),some (.int p),u1,u2]/\DC Bo H2 c (O++Z.map (·.1))/\Bi B0 n m k (R.map vr) O Z p v)
  ⟨AO.refl _,a,[],R.map λr=>(r,vr r),1,Ae,none,none,J,by simp[v8];exact hA,Bi.mW a0 (λr hr j=>JD (S4 (a2 r hr) j)) hn ay a4⟩ ?_ ?_
 ·rintro k σ H2 hk ⟨sm,c,O,Z,p,v,u1,u2,rfl,hL,B⟩;have lT:=B.GX;have lZ:=B.FG;have a5:(O++Z.map (·.1)).length=n:=by simp;lia
  have zk:(0:Int)+(k:Nat)=((k:Nat):Int):=by lia
  exists _,J,_,J,c,O++Z.map (·.1),k,m,by rw[zk];rfl,hL,by lia,by lia,?_,by lia,by lia,?_
  ·intro r hr;rcases om.mp hr with h1|h1
   ·exact B.JW r h1
   ·obtain⟨z,hz,rfl⟩:=n8.mp h1;exact B.Dj z hz
  ·
   intro h0;exists _,J,J,_,rfl;refine C3 rfl ?_;refine qn H2 sm (B.none hk λz hz=>?_);obtain⟨j,hj,e⟩:=oG hz;have hh:=h0 (k+j) (by lia) (by lia)
   have:(O++Z.map (·.1)).getD (k+j) []=z.1:=by
    rw[nO,oo (by lia),show k+j-O.length=j by lia,nV,nj hj,e];rfl
   rw[this]at hh;exact hh
  ·intro i c2 H3 h1 h2 h3 s3 a9 ao;obtain⟨z,Z',B2,eR,hz⟩:=B.led h1 (by lia) h3;rw[eR]at ao;exists _,J,J,_,rfl;refine CH (λz=>by cases z) ?_;obtain⟨cs,al,ad⟩:=id ao;have aw:=B2.FG;simp at aw;have ax:cs.length=n:=by rw[ad.1];simp;lia
   have ek:(O++z.1 :: Z'.map (·.1))[k]?=some z.1:=by rw[oo (by lia),lT];simp
   obtain⟨b,hb,hB⟩:=ad.get ek;refine⟨_,J,_,J,c2,_,_,_,J,J,AI.of al,by rw[zk];exact BQ (C9 hb),?_⟩;have k1:((0:Int)+(k:Nat))+1=((k+1:Nat):Int):=by lia
   refine⟨_,J,_,J,_,_,J,J,_,J,c2,_,J,AI.of al,λp1 a3=>?_⟩
   (try dsimp only)
   rw[k1,K6 _ (by rw[nh];lia)];have s4:AO H3 (AF H3 p1 (.AE ((cs.map V.ref).take (k+1)))):=AY a3 _;have am:(AF H3 p1 (.AE ((cs.map V.ref).take (k+1)))) p1=some (.AE ((cs.map V.ref).take (k+1))):=AU;generalize AF H3 p1 (.AE ((cs.map V.ref).take (k+1)))=H4 at s4 am;refine⟨_,J,_,J,_,_,J,J,_,J,c2,_,J,AI.of (s4 _ _ al),λp2 az=>?_⟩
   (try dsimp only)
   rw[k1,LB _ (by rw[nh];lia)];have s5:AO H4 (AF H4 p2 (.AE ((cs.map V.ref).drop (k+1)))):=AY az _;have ae:(AF H4 p2 (.AE ((cs.map V.ref).drop (k+1)))) p2=some (.AE ((cs.drop (k+1)).map V.ref)):=by rw[AU,vB]
   generalize AF H4 p2 (.AE ((cs.map V.ref).drop (k+1)))=H5 at s5 ae;refine⟨p2,J,⟨_,AI.of ae⟩,λac ar=>?_⟩;have ai:AO H3 H5:=s4.trans s5;have au:At Bo H5 (cs.drop (k+1)) (Z'.map (·.1)):=by
    have:=(ad.drop (k+1)).keep Dr ai
    have e:(O++z.1 :: Z'.map (·.1)).drop (k+1)=Z'.map (·.1):=by
     rw[List.drop_append,List.drop_of_length_le (by lia),show k+1-O.length=1 by lia];rfl
    rw[e]at this;exact this
   have ah:z∈z :: Z':=by simp
   refine Cm (FW ae) (by rw[nh,pY];lia) ar
    (λi ys σ hp=>∃ds:List Addr,ys=ds.map V.ref/\At Bo hp ds ((Z'.map λy=>Cw y.1 z.1 k p).take i)/\∃u,σ=[u,some (.ref b),some (.int ((0:Int)+(k:Nat))),some (.int p)]) ⟨[],J,At.nil,none,J⟩ ?_ ?_
   ·rintro i ys σ H6 x H7 hi ab af ⟨ds,rfl,hD,u,rfl⟩ ⟨rfl,hx⟩ C hC;obtain⟨e,r,rfl,he,aa,hE⟩:=au.ref hx;rw[nV]at aa;cases q:Z'[i]? with
    |none=>rw[q]at aa;cases aa
    |some y =>
     rw[q]at aa;obtain rfl:y.1=r:=oy aa;have ym:y∈z :: Z':=oY _ (nz q);refine⟨_,J,_,J,_,J,_,J,e,b,y.1,z.1,k,m,p,by rw[zk];rfl,ab _ _ hE,ab _ _ (ai _ _ hB),B2.Dj y ym,B2.Dj z ah,by lia,by lia,B.pz,V0 B ak,T6 B2 ak ym,T6 B2 ak ah,?_⟩;intro r2 H8 s8 ap a1;refine hC _ _ _ s8 ⟨ds++[r2],by simp,?_,_,J⟩;have ne:r2≠ac:=λz=>by rw[z,af]at ap;cases ap
     have e3:(Z'.map λy=>Cw y.1 z.1 k p)[i]?=some (Cw y.1 z.1 k p):=by rw[nV,q];rfl
     rw[Ck e3];exact(hD.keep Dr (E5 ac s8)).snoc (Gz a1 ne)
   ·rintro ys σ H6 ab af a6 ⟨ds,rfl,hD,u,rfl⟩;rw[nh,pY,oB (by simp;lia)]at hD;have aq:=ab _ _ (s5 _ _ am);have a7:(cs.map V.ref).length=n:=by rw[nh];exact ax
    have a8:ds.length=Z'.length:=by rw[hD.1];simp
    refine⟨p1,ac,_,_,J,J,aq,af,by rw[pS,nh,nh];exact Dk (by lia),λc3 av=>?_⟩;have s7:AO H6 (AF H6 c3 (.AE ((cs.map V.ref).take (k+1)++ds.map V.ref))):=AY av _;have aj:=(ai.trans ab).trans s7;have b1:z.1.length=m:=B2.Dj z ah;refine⟨_,J,_,J,b,_,_,_,J,J,AI.of (aj _ _ hB),by rw[zk];exact Iy (by lia),?_⟩;have B3:=B2.step hz;refine⟨sm.trans (s3.trans aj),c3,O++[z.1],_,z.1.getD k 0,_,_,_,J,⟨cs.take (k+1)++ds,?_,?_⟩,B3⟩
    ·rw[AU,oh,yf]
    ·have t1:=(ad.take (k+1)).keep Dr aj;have e:(O++z.1 :: Z'.map (·.1)).take (k+1)=O++[z.1]:=by
      rw[List.take_append,oB (by lia),show k+1-O.length=1 by lia];rfl
     rw[e]at t1;have t2:=(hD.keep Dr (Eg H6 ac)).keep Dr s7;have e2:yN (·.1) (Z'.map λy=>(Cw y.1 z.1 k p,y.2))=Z'.map λy=>Cw y.1 z.1 k p:=by simp[v8]
     rw[e2];exact t1.OD t2
 ·rintro σ H2 ⟨sm,c,O,Z,p,v,u1,u2,rfl,hL,B⟩;obtain⟨rfl,_⟩:=B.fin;rw[p9,qE]at hL;exact⟨_,J,qs c H2 O sm hL ⟨[],p,v,B⟩⟩
variable {f1 f2 f3 f4:Addr}{d1 d2 d3 d4:qy}
structure TK(n m d E D:Nat)(T:List (List Rat)):Prop where
 len:T.length=n
 Fz:∀r∈T,r.length=m
 nm:n<=m
 XB:m<=15
 den:∀r∈T,∀q∈r,q.den<=2 ^ d
 num:∀r∈T,∀q∈r,BN q.num
 nA:∀r∈T,(cb r).natAbs<=2 ^ D
 md:∀r∈T,∀q∈r,(wh (cb r) q).natAbs<=2 ^ E
 bd:(4+E)*n<7990/\D<7990/\d*m+d<7990
def TK.Fu(h:TK n m d E D T)(F:r∈T):0<cb r/\(∀q∈r,(q.den:Int) ∣ cb r)/\(cb r).natAbs<=2 ^ D :=
 ⟨(LX r).1,(LX r).2,h.nA r F⟩
def Dy(T:List (List Rat)):List (List Int):=T.map λr=>r.map (wh (cb r))
def TK.RG(h:TK n m d E D T):∀r∈Dy T,r.length=m/\∀x∈r,x.natAbs<=2 ^ E:=by
 intro r O;obtain⟨s,hs,rfl⟩:=n8.mp O;refine⟨by rw[nh];exact h.Fz s hs,λx hx=>?_⟩;obtain⟨q,F,rfl⟩:=n8.mp hx;exact h.md s hs q F
def TK.GB(h:TK n m d E D T):(m*2 ^ E) ^ n<2 ^ 8968:=by
 have h1:m*2 ^ E<=2 ^ (4+E):=by
  rw[vE 2 4];exact um _ (by have:=h.XB;omega)
 have h2:=aan h1 n;rw[<-Nat.pow_mul]at h2;exact qJ h2 (zV (by decide) (by have:=h.bd;omega))
def TK.wb(h:TK n m d E D T)(O:r∈T):∀q∈r,BN q.num/\BN (q.den:Int)/\BN ((cb r).fdiv q.den):=by
 intro q F;obtain⟨c1,c2,c3⟩:=h.Fu O
 have:=h.bd
 refine⟨h.num r O q F,Ft (n:=d) (by simpa using h.den r O q F) (by omega),Ft (n:=D) (oC ?_ c3) (by omega)⟩;rw[qd (c2 q F)];exact vH _ _
def lO:(["row"]:List Str).Nodup:=by decide +kernel
def cP(h:xs[xs.length-1]?=some v):Bc xs (-1)=some v:=by
 have F:0<xs.length:=by have:=(nq.mp h).1;omega
 have e:EA xs.length (-1)=some (xs.length-1):=by
  unfold EA;rw[nS (by decide),nX (by omega)];congr 1;omega
 unfold Bc;rw[e];exact h
def GQ:Mo (BB AR):=λs h=>Fb (R:=AR) (λs h=>An s h) s h
variable {C2:Addr}
structure W9(B0 n:Nat)(T:List (List Int))(c:Int)(x:Nat->Rat)(u:Nat->Int):Prop where
 n0:0<n
 len:T.length=n
 Fz:∀r∈T,r.length=n+1
 c0:c≠0
 IT:(T.getD (n-1) []).getD (n-1) 0=c
 FP:∀i,i<n->(T.getD i []).getD i 0≠0/\∀j,j<i->(T.getD i []).getD j 0=0
 nB:∀i,i<n->fx n x (vr (T.getD i []))=0
 Vm:∀j,j<n->((u j:Int):Rat)=c*x j
 GB:(∀r∈T,∀y∈r,BN y)/\(∀j,j<n->BN (u j))/\BN c
inductive VL(vs:List V)(H:Hp)(Q:VK)(_:XK):Prop
 |mk (a:Addr) (B0 n:Nat) (T:List (List Int)) (c:Int) (x:Nat->Rat) (u:Nat->Int) (ac:vs=[.ref a]) (O:DC Bo H a T) (F:n<=100) (aa:W9 B0 n T c x u) (ab:∀p H',AO H H'->H p=none->BB AR H' p ((og n).map x)->Q (.ref p) H')
def IY:Ar ["rows","size","whole","found","k","row","known"] ["rows"] (Ah sBack):=Ay
def We:(["number","other"]:List Str).Nodup:=by decide +kernel
def kg:(["number","whole"]:List Str).Nodup:=by decide +kernel
def E1(u:Nat->Int)(n k:Nat):List Int:=(og (n-k)).map λi=>u (k+i)
def aX(h:k<n):E1 u n k=u k :: E1 u n (k+1):=by
 unfold E1;rw[show n-k=(n-(k+1))+1 by lia,qZ,n9,pO];congr 1;refine qM λi _=>?_
 show u (k+(i+1))=u (k+1+i);congr 1;lia
def Ek(r:List Int)(u:Nat->Int)(n k:Nat):List Int:=(og (n-k)).map λi=>r.getD (k+i) 0*u (k+i)
def YS{r:List Int}(h:k<n):Ek r u n k=(r.getD k 0*u k) :: Ek r u n (k+1):=by
 unfold Ek;rw[show n-k=(n-(k+1))+1 by lia,qZ,n9,pO];congr 1;refine qM λi _=>?_
 show r.getD (k+(i+1)) 0*u (k+(i+1))=r.getD (k+1+i) 0*u (k+1+i)
 have:k+(i+1)=k+1+i:=by lia
 rw[this]
def bB{r:List Int}{c:Int}(F:∀j,j<n->((u j:Int):Rat)=c*x j)(hs:fx n x (vr r)=0)(hk:k<n)(hd:r.getD k 0≠0)(hz:∀j,j<k->r.getD j 0=0):
  (r.getD n 0*c-(Ek r u n (k+1)).sum).fdiv (r.getD k 0)=u k:=by
 have ac:∀m,m<=n->(((Ek r u n (n-m)).sum:Int):Rat)=c*(Ao (λj=>vr r j*x j) n-Ao (λj=>vr r j*x j) (n-m)):=by
  intro m
  induction m with
  |zero=>intro _;simp[Ek];grind
  |succ m ih =>
   intro hm;rw[YS (show n-(m+1)<n by lia),oJ,xg,pj,F _ (by lia)];rw[show n-(m+1)+1=n-m by lia,ih (by lia)];have e:Ao (λj=>vr r j*x j) (n-m)=Ao (λj=>vr r j*x j) (n-(m+1))+vr r (n-(m+1))*x (n-(m+1)):=by
    rw[show n-m=n-(m+1)+1 by lia];rfl
   rw[e]
   have:vr r (n-(m+1))=((r.getD (n-(m+1)) 0:Int):Rat):=rfl
   rw[<-this];grind
 have t:=ac (n-(k+1)) (by lia);rw[show n-(n-(k+1))=k+1 by lia]at t;have ab:Ao (λj=>vr r j*x j) (k+1)=vr r k*x k:=by
  simp only[Ao];rw[Ky (λl hl=>by rw[show vr r l=0 by simp only[vr,hz l hl];rfl];grind)];grind
 rw[ab]at t;have O:Ao (λj=>vr r j*x j) n=vr r n:=by simp only[fx]at hs;grind
 rw[O]at t;have aa:(((r.getD n 0*c-(Ek r u n (k+1)).sum:Int)):Rat)=((r.getD k 0*u k:Int):Rat):=by
  rw[uU,pj,pj,t,F k hk];have a1:vr r n=((r.getD n 0:Int):Rat):=rfl;have a2:vr r k=((r.getD k 0:Int):Rat):=rfl;rw[<-a1,<-a2];grind
 have ki:r.getD n 0*c-(Ek r u n (k+1)).sum=r.getD k 0*u k:=by exact_mod_cast aa
 rw[ki,qd (aaT _ _),uC _ hd]
def Oz{r:List Int}(h:∀y∈r,BN y)(F:j<r.length):BN (r.getD j 0):=by
 rw[nO,nj F];exact h _ (pX F)
def cJ(xs:List V)(h:i<=j)(hj:j<=xs.length):C5 xs (some (i:Int)) (some (j:Int))=(xs.drop i).take (j-i):=by
 unfold C5;have O:HT.Al xs.length 0 (some (i:Int))=i:=by simp[HT.Al];rw[nS (by lia)];lia
 have F:HT.Al xs.length xs.length (some (j:Int))=j:=by simp[HT.Al];rw[nS (by lia)];lia
 rw[O,F]
def cY (F:Ak K "found_back" "found_back" sBack f fd)(G:AZ P w K mg base 2 "fraction" ["top","bottom"] (KG C))
  (ml:mg "len" = none)(mr:mg "range" = none)(mz:mg "zip" = none)(aq:mg "sum" = none)(mt:mg "tuple" = none):Ag P w K mg base Ap 3 f fd ["rows"] VL:=by
 refine F.A1 IY λim A _ s H vs Q E hr h=>?_
 obtain⟨a,B0,n,T,c,x,u,rfl,⟨bs,ha,hA⟩,hn,S,q⟩:=h;exists _,AL (AW 1 IY (Bu LM (by rfl) ml Gx (AA (pv 0) AD)))
  (AL (AW 2 IY (A6 CJ (A6 CJ (pv 0) (HP G0 AB)) (AM C7 (pv 1) AB)))
  (AL (AW 3 IY (CG AD))
  (AL (Bg oE rfl (Yv (by rfl) mr (AA (AM C7 (pv 1) AB) (AA (HP G0 AB) (AA (HP G0 AB) AD)))) (Az 4 IY)
   (AL (AW 5 IY (A6 CJ (pv 0) (pv 4)))
   (AL (AW 6 IY (Bu (ZI rfl) (by rfl) aq gO (AA (DR (Nc:=["number","other"]) (cap:=[]) (g:=JY [] 2 (HM (BU 0) (HM (BU 1) Ly))) (te:=Bb (rI Lh λi j=>.int (i*j)) (Aw 0) (Aw 1)) rfl
     (Mq (t1:=false) (t2:=false) (by rfl) mz (AA (E4 Km (pv 5) (Ef (AM BK (pv 4) AB)) (Ef (pv 1))) (AA (pv 3) AD)))
     CU (λ_ _ _ _ _=>Cp rfl (BH (B8 (i:=0) We rfl (qr rfl)) (BH (B8 (i:=1) We rfl (qr rfl)) Cn)))
     (λ_ _ _ _ _=>AM CK (pv 0) (pv 1))) AD)))
   (AS (AW 3 IY (AM HK (CG (AA (AM FV (AM C7 (AM CK (A6 CJ (pv 5) (pv 1)) (pv 2)) (pv 6)) (A6 CJ (pv 5) (pv 4))) AD)) (pv 3)))))))
  (AS (Ai (EG GI (by rfl) mt EH (AA (DR (Nc:=["number","whole"]) (cap:=[(1,2)]) (g:=BU 0) (te:=Dt (KG C) [] E0 (BO (Aw 0) (BO (Aw 1) CI))) rfl (EN (pv 3))
   CU
   (λ_ _ _ _ _=>B8 (i:=0) kg rfl (qr rfl)) (λ_ _ _ _ _=>AV G (AA (pv 0) (AA (pv 1) AD)))) AD)))))))
 have n0:=S.n0;have lT:=S.len;have lb:bs.length=n:=by rw[hA.1];exact lT
 have gT:∀i,i<n->∃b,bs[i]?=some b/\Bo H b (T.getD i [])/\(T.getD i []).length=n+1/\(∀y∈T.getD i [],BN y):=by
  intro i hi;have e:T[i]?=some (T[i]'(by lia)):=nj _;obtain⟨b,h1,h2⟩:=hA.get e;have hm:T[i]'(by lia)∈T:=pX _;rw[getD_some e];exact⟨b,h1,h2,S.Fz _ hm,S.GB.1 _ hm⟩
 obtain⟨bz,av,ap,lz,_⟩:=gT (n-1) (by lia);exists _,J,a,_,J,.inl (AI.of ha);rw[nh,lb];have aw:((n:Nat):Int)-1=((n-1:Nat):Int):=by lia
 refine⟨_,J,_,J,a,_,_,_,J,J,AI.of ha,cP (by rw[nh,lb];exact C9 av),_,J,_,_,J,J,bz,_,_,_,J,J,AI.of ap,by rw[aw];exact Iy (by lia),?_⟩;rw[S.IT];refine⟨by exact Gh,λl0 al=>?_⟩;have s0:=AY al (.AE [])
 try dsimp only
 try refine DG ?_
 first|refine DF λay ak=>?_|refine nx_hide λay ak=>?_
 refine⟨_,J,_,_,J,J,_,J,_,J,n,J,by lia,?_⟩;refine bG (n:=n) (lo:=((n:Nat):Int)-1) (step:=-1) (λi σ H2=>AO H H2/\∃l u4 u5 u6,σ=[some (.ref a),some (.int ((n:Nat):Int)),some (.int c),some (.ref l),u4,u5,u6]/\H l=none/\Bo H2 l (E1 u n (n-i)))
  ⟨s0,l0,none,none,none,J,al,by unfold Bo E1;rw[AU];simp⟩ ?_ ?_
 ·rintro i σ H2 hi ⟨sm,l,u4,u5,u6,rfl,nl,hl⟩;have hk:n-1-i<n:=by lia
  obtain⟨k,a1⟩:∃k,k=n-1-i:=⟨_,J⟩;have ek:((n:Nat):Int)-1+(i:Nat)*(-1)=((k:Nat):Int):=by lia
  obtain⟨b,hb,hB,lr,br⟩:=gT k (by lia);generalize ad:T.getD k []=row at hB lr br;rw[ek];have ar:=sm _ _ ha;have ah:=sm _ _ hB;exists _,J,_,J,a,_,_,_,J,J,AI.of ar,BQ (C9 hb);have k1:((k:Nat):Int)+1=((k+1:Nat):Int):=by lia
  refine⟨_,J,_,J,_,_,J,J,_,J,_,J,_,J,b,_,J,AI.of ah,λp1 a0=>?_⟩
  (try dsimp only)
  rw[k1,cJ _ (by lia) (by rw[nh];lia)];have s3:=AY a0 (.AE (((row.map V.int).drop (k+1)).take (n-(k+1))));have e1:(AF H2 p1 (.AE (((row.map V.int).drop (k+1)).take (n-(k+1))))) p1=some (.AE (((row.drop (k+1)).take (n-(k+1))).map V.int)):=by rw[AU,yf,vB]
  generalize AF H2 p1 (.AE (((row.map V.int).drop (k+1)).take (n-(k+1))))=H3 at s3 e1;have ni:n-i=k+1:=by lia
  rw[ni]at hl;have aj:=s3 _ _ hl;refine⟨_,J,p1,l,J,⟨_,Bm.l e1⟩,⟨_,Bm.l aj⟩,λac ag=>?_⟩;have lf:(E1 u n (k+1)).length=n-(k+1):=by unfold E1;simp
  refine Cm (PV (xs:=((row.drop (k+1)).take (n-(k+1))).map V.int) (ys:=(E1 u n (k+1)).map V.int) (λH4 s=>Bm.l (s _ _ e1)) (λH4 s=>Bm.l (s _ _ aj)) (by simp[lf];lia)) (by simp;lia) ag
   (λj ys σ _=>ys=((Ek row u n (k+1)).take j).map V.int/\∃v1 v2,σ=[v1,v2]) ⟨J,none,none,J⟩ ?_ ?_
  ·rintro j ys σ H4 z H5 hj s4 aa ⟨ae,v1,v2,rfl⟩ ⟨t,n1,n2,rfl,ht,rfl,am,ai⟩ Cc hC;have ab:j<n-(k+1):=by simp at hj;lia
   have g1:n1=.int (row.getD (k+1+j) 0):=by
    rw[nV,xT,nX ab,tM,nj (by lia)]at am;rw[nO,nj (by lia)];exact(oy am).symm
   have g2:n2=.int (u (k+1+j)):=by
    unfold E1 at ai;rw[nV,nV,qk ab]at ai;exact(oy ai).symm
   subst g1 g2;have O:=AY ht (.AG [.int (row.getD (k+1+j) 0),.int (u (k+1+j))]);exists t,_,J,AH.of AU,J,_,_,J,_,_,J,rfl;refine⟨_,J,_,J,_,_,J,J,⟨Oz br (by lia),S.GB.2.1 _ (by lia)⟩,?_⟩;refine hC _ _ _ O ⟨?_,_,_,J⟩;have e:(Ek row u n (k+1))[j]?=some (row.getD (k+1+j) 0*u (k+1+j)):=by unfold Ek;rw[nV,qk ab];rfl
   rw[ae,Ck e,oh];rfl
  ·rintro ys σ H4 s4 aa au ⟨ae,_⟩;have lp:(Ek row u n (k+1)).length=n-(k+1):=by unfold Ek;simp
   rw[oB (by simp;lia)]at ae;rw[ae]at aa;exists ac,_,J,aa;have af:=s3.trans s4;have bn:=bB (r:=row) S.Vm (by rw[<-ad];exact S.nB k (by lia)) (k:=k) (by lia) (by rw[<-ad];exact(S.FP k (by lia)).1) (by rw[<-ad];exact(S.FP k (by lia)).2);refine⟨_,J,_,J,b,_,_,_,J,J,AI.of (af _ _ ah),Iy (by lia),_,J,_,_,J,J,⟨Oz br (by lia),S.GB.2.2⟩,_,J,_,_,J,J,_,J,_,J,b,_,_,_,J,J,AI.of (af _ _ ah),Iy (by lia),_,_,J,J,
    ⟨by rw[<-ad];exact(S.FP k (by lia)).1,Oz br (by lia)⟩,by exact ED,λp2 ax=>?_⟩
   (try dsimp only)
   rw[bn];have O:=AY ax (.AE [.int (u k)]);refine⟨_,J,p2,l,_,_,J,J,AU,O _ _ (s4 _ _ aj),by simp[lf];exact Dk (by lia),λp3 ao=>?_⟩;have s6:=AY ao (.AE ([V.int (u k)]++(E1 u n (k+1)).map V.int));have az:=sm.trans (af.trans (O.trans s6));exists az,p3,_,_,_,J,(sm.trans (af.trans O)).free ao;unfold Bo;rw[AU,show n-(i+1)=k by lia,aX (show k<n by lia)];rfl
 ·rintro σ H2 ⟨sm,l,u4,u5,u6,rfl,nl,hl⟩;subst ak;rw[tP]at hl;refine⟨_,J,l,J,⟨_,AI.of hl⟩,λac ag=>?_⟩;have lf:(E1 u n 0).length=n:=by unfold E1;simp
  refine Cm (FW hl) (by rw[nh,lf];lia) ag (λj ys σ hp=>∃ds:List Addr,ys=ds.map V.ref/\At AR hp ds (((og n).map x).take j)/\∃v,σ=[v,some (.int c)]) ⟨[],J,At.nil,none,J⟩ ?_ ?_
  ·rintro j ys σ H4 z H5 hj s4 aa ⟨ds,rfl,hD,v,rfl⟩ ⟨rfl,hx⟩ Cc hC;have ab:j<n:=by rw[nh,lf]at hj;exact hj
   have g1:z=.int (u j):=by
    unfold E1 at hx;rw[nV,nV,qk (by lia)]at hx
    have:=(oy hx).symm
    rw[this];simp
   subst g1;refine⟨_,J,_,J,u j,c,J,S.GB.2.2,λz=>absurd z S.c0,λ_ p hp=>?_⟩;have ef:BV (u j) c=fr (x j):=by
    rw[Gs _ _ S.c0];have h1:=S.Vm j ab;have h2:((c:Int):Rat)≠0:=by have:=S.c0;exact_mod_cast this
    have:((u j:Int):Rat) / ((c:Int):Rat)=x j:=by rw[h1];grind
    rw[this];rfl
   rw[ef];have O:=AY hp (.AG [.int (fr (x j)).1,.int (fr (x j)).2]);refine hC _ _ _ O ⟨ds++[p],by simp,?_,_,J⟩;have e:((og n).map x)[j]?=some (x j):=by rw[nV,qk ab];rfl
   rw[Ck e];exact(hD.keep An (E5 ac O)).snoc (AR.B7 (q:=x j) AU (O _ _ aa))
  ·rintro ys σ H4 s4 aa au ⟨ds,rfl,hD,v,rfl⟩;rw[nh,lf,oB (by simp)]at hD;refine⟨ac,_,J,.inl ⟨AI.of aa,λp hp=>?_⟩⟩;have O:=AY hp (.AG (ds.map V.ref));exact q p _ ((sm.trans s4).trans O) ((sm.trans s4).free hp) ⟨ds,AU,(hD.keep An (Eg H4 ac)).keep An O⟩
def mQ(h:BB AR H b r)(e:H a=some (.AE ys)):BB AR (B7 H a) b r:=by
 obtain⟨cs,h1,h2⟩:=h;exact⟨cs,Gz h1 (λz=>by rw[z,e]at h1;cases h1),NX e h2⟩
def CM(T:List (List Rat))(r:List Rat):List (List Rat):=wY (λrow q=>row++[q]) T r
def ie{J}{c:Int}(ok:TK n (n+1) d E' D J)(n0:0<n){Z:List (List Int×Am)}(hb:((n+1)*B0) ^ n<2 ^ 8968)(B:Bi B0 n (n+1) n ((Dy J).map vr) T2 Z c v):
  ∃x u,W9 B0 n T2 c x u/\(∀r∈J,fx n x (vq r)=0)/\dt n (n+1) J≠0:=by
 obtain⟨rfl,eD⟩:=B.fin;have lT:=B.GX;have ad:∀i,i<n->T2.getD i []∈T2:=λi hi=>by
  rw[nO,nj (by lia)];exact pX _
 obtain⟨x,hx⟩:=cU (n:=n) (λi=>vr (T2.getD i [])) (λi hi=>by
   have:=(B.FP i hi).1
   show((((T2.getD i []).getD i 0:Int)):Rat)≠0
   exact_mod_cast this) (λi j hi O=>by
   show((((T2.getD i []).getD j 0:Int)):Rat)=0;rw[(B.FP i hi).2 j O];rfl) n (nQ _)
 have ab:∀i,i<n->fx n x (vr (T2.getD i []))=0:=λi hi=>hx i (by lia) hi
 have hA:∀a∈(Dy J).map vr,fx n x a=0:=B.KY (fx n x) (VT n x) (λr F=>by
  obtain⟨i,hi,er⟩:=oG F
  have:=ab i (by lia)
  rw[nO,nj hi]at this;simp only[abq]at this;rw[er]at this;exact this) (by simp)
 have pz:((c:Int):Rat)≠0:=by have:=B.pz;exact_mod_cast this
 have wv:v=Aa ((Dy J).map vr) Ae:=B.all;have ex:∀j:Nat,∃k:Int,j<n->((k:Int):Rat)=c*x j/\BN k:=by
  intro j;by_cases O:j<n
  ·obtain⟨l1,l2,l3⟩:=VN hA O;rw[eD,<-wv]at l3;obtain⟨k,hk⟩:=B.IV (Ko n j);have bw:=B.Ii (Ko n j);rw[l1,hk]at bw;have aa:k.natAbs<=((n+1)*B0) ^ n:=GL bw;rcases l2 with h1|h1
   ·refine⟨k,λ_=>⟨?_,qJ aa hb⟩⟩;rw[<-hk];rw[h1]at l3;grind
   ·refine⟨-k,λ_=>⟨?_,by unfold BN;rw[vT];exact qJ aa hb⟩⟩;rw[uT,<-hk];rw[h1]at l3;grind
  ·exact⟨0,λh=>absurd h O⟩
 obtain⟨u,hu⟩:=Classical.axiomOfChoice ex;have ac:∀r∈T2,∀y∈r,BN y:=λr F y hy=>by
  obtain⟨j,rfl⟩:=Wd.mem_getD hy;exact qJ (GL (B.Jk r F j)) hb
 exists x,u,⟨n0,lT,B.JW,B.pz,B.IT n0,B.FP,ab,λj O=>(hu j O).1,ac,λj O=>(hu j O).2,V0 B hb⟩,?_
 ·intro r F;obtain⟨c1,c2,_⟩:=ok.Fu F;have h1:=hA (vr (r.map (wh (cb r)))) (xw (n8.mpr ⟨r,F,rfl⟩));rw[QQ c2]at h1;exact(Sz (by exact_mod_cast (show cb r≠0 by lia))).mp h1
 ·intro z;have sc:=OU (n:=n) (m:=n+1) J cb (λr F=>(ok.Fu F).2.1);rw[z]at sc;have e2:ld n (n+1) (Aa ((Dy J).map vr) Ae)=c:=eD
  have:((c:Int):Rat)=0:=by rw[<-e2];unfold Dy;rw[sc];grind
  exact pz this
inductive R6(C2:Addr)(vs:List V)(H:Hp)(Q:VK)(E:XK):Prop
 |mk (a b:Addr) (T:List (List Rat)) (r:List Rat) (n d F D:Nat) (aa:vs=[.ref a,.ref b]) (ac:BB (BB AR) H a T) (ae:BB AR H b r) (ag:T.length=n) (ad:r.length=n) (af:(∀x∈T,x.length=n)) (ab:TK n (n+1) d F D (CM T r)) (O:(dt n (n+1) (CM T r)=0->∀H',AO H H'->False)) (ah:(dt n (n+1) (CM T r)≠0->∀p H' x,AO H H'->(∀y∈CM T r,fx n x (vq y)=0)->BB AR H' p ((og n).map x)->Q (.ref p) H')):R6 C2 vs H Q E
def Sv(C2:Addr):Sp:=λvs H Q E=>R6 C2 vs H Q E
def Qs:Ar ["table","right","joined","rows"] ["table","right"] (Ah sAnswer):=Ay
def Wh:(["row","number"]:List Str).Nodup:=by decide +kernel
def YW (F:Ak K "answer" "answer" sAnswer f fd)(G1:AZ P w K mg base 2 "common_bottom" ["row"] Qh)
  (G2:AZ P w K mg base 1 "wholes" ["row","bottom"] K9)
  (G3:AZ P w K mg base 2 "swept" ["rows"] TN)
  (G4:AZ P w K mg base 3 "found_back" ["rows"] VL)
  (ml:mg "len" = none)(mz:mg "zip" = none):Ag P w K mg base Ap 4 f fd ["table","right"] (Sv C2):=by
 refine F.A1 Qs λim A _ s H vs Q E hr h=>?_
 obtain⟨a,b,T,r,n,d,E',D,rfl,⟨bs,ha,hA⟩,⟨cs,hb,hB⟩,lT,lr,cT,O,q0,q1⟩:=h;exists _,AL (BL (BP DX (Bu LM (by rfl) ml Gx (AA (pv 0) AD)) AB) (AS (Ai (BS AD))) BR)
  (AL (Im (i:=2) Qs.nd rfl (qr rfl) (Nc:=["row","number"]) (cap:=[]) (g:=JY [] 2 (HM (BU 0) (HM (BU 1) Ly))) (te:=Bb (V6 K) (Aw 0) (Lw (BO (Aw 1) CI))) rfl (Mq (t1:=true) (t2:=true) (by rfl) mz (AA (pv 0) (AA (pv 1) AD)))
   CU (λ_ _ _ _ _=>Cp rfl (BH (B8 (i:=0) Wh rfl (qr rfl)) (BH (B8 (i:=1) Wh rfl (qr rfl)) Cn)))
   (λ_ _ _ _ _=>AM Tr (pv 0) (BS (AA (pv 1) AD))))
  (AL (AW 3 Qs (AV G3 (AA (DR (Nc:=["row"]) (cap:=[]) (g:=BU 0) (te:=Dt K9 [] E0 (BO (Aw 0) (BO (Dt Qh [] E0 (BO (Aw 0) CI)) CI))) rfl (EN (pv 2))
   CU (λ_ _ _ _ _=>B8 (i:=0) lO rfl (qr rfl))
   (λ_ _ _ _ _=>AV G2 (AA (pv 0) (AA (AV G1 (AA (pv 0) AD)) AD)))) AD)))
  (AL (BL (BP Uy (pv 3) JC) (AS Oi) BR)
  (AS (Ai (AV G4 (AA (pv 3) AD)))))))
 have lb:bs.length=n:=by rw[hA.1];exact lT
 have lc:cs.length=n:=by rw[hB.1];exact lr
 have a1:=O.XB;exists _,J,a,_,J,.inr (AH.of ha),J,_,rfl;by_cases ay:n=0
 ·subst ay;refine C3 (iv (by rw[nh,lb];rfl)) ?_;have e1:T=[]:=qQ.mp lT;subst e1;refine⟨by exact Gh,λp hp=>q1 ?_ p _ (λ_=>0) (AY hp _) (by simp[CM]) ⟨[],AU,At.nil⟩⟩
  have:dt 0 1 (CM [] r)=1:=by unfold dt CM;exact Pz 1
  rw[this];grind
 refine CH (EB (by rw[nh,lb];lia)) ?_;have lJ:(CM T r).length=n:=O.len;have jg:∀i row q,T[i]?=some row->r[i]?=some q->(CM T r)[i]?=some (row++[q]):=λi row q h1 h2=>by
  unfold CM;rw[vf,h1,h2]
 refine⟨_,J,_,J,a,b,J,⟨_,Bm.t ha⟩,⟨_,Bm.t hb⟩,λad ak=>?_⟩;refine Cm (PV (xs:=bs.map V.ref) (ys:=cs.map V.ref) (λH3 s=>Bm.t (s _ _ ha)) (λH3 s=>Bm.t (s _ _ hb)) (by rw[nh,nh];lia)) (by rw[nh];lia) ak
  (λi ys σ hp=>∃ds:List Addr,ys=ds.map V.ref/\At (BB AR) hp ds ((CM T r).take i)/\∃u v,σ=[u,v]) ⟨[],J,At.nil,none,none,J⟩ ?_ ?_
 ·rintro i ys σ H3 z H4 hi sm au ⟨ds,rfl,hD,u,v,rfl⟩ ⟨t,n1,n2,rfl,ht,rfl,aw,am⟩ Cc hC;obtain⟨c1,row,rfl,_,aa,es,aj,ah⟩:=hA.ref aw;obtain⟨c2,qq,rfl,_,ax,ar⟩:=hB.ref am;have s3:AO H3 (AF H3 t (.AG [.ref c1,.ref c2])):=AY ht _;have rl:row.length=n:=cT row (nz aa);have a0:es.length=n:=by rw[ah.1];exact rl
  exists t,_,J,AH.of AU,J,_,_,J,_,_,J,rfl;refine⟨_,J,_,J,by exact ED,λt1 ap=>?_⟩;have s4:=AY ap (.AG [.ref c2]);have ag:=s3.trans s4;refine⟨c1,t1,es.map V.ref,[.ref c2],J,J,AH.of (ag _ _ (sm _ _ aj)),AH.of AU,?_,by simp;exact Dk (by lia),λz=>by simp at z,λ_ p hp=>?_⟩
  ·intro z;have z2:=congrArg tq z;simp only[nh,rD]at z2
   lia
  have s5:=AY hp (.AG (es.map V.ref++[.ref c2]));have ab:=ag.trans s5;refine hC _ _ _ ab ⟨ds++[p],by simp,?_,_,_,J⟩;rw[Ck (jg i row qq aa ax)];refine(hD.keep GQ (E5 ad ab)).snoc (mQ ⟨es++[c2],by rw[AU];simp,?_⟩ (ab _ _ au));exact(ah.keep An (sm.trans ab)).snoc ((sm.trans ab) _ _ ar)
 rintro ys σ1 H2 s2 ai a2 ⟨ds,rfl,hD,u,v,rfl⟩;rw[nh,lb,oB (by lia)]at hD;have aq:=hD.keep GQ (Eg H2 ad);have ao:ds.length=n:=by rw[hD.1];exact lJ
 refine⟨_,J,ad,J,⟨_,AI.of ai⟩,λac al=>?_⟩;refine Cm (FW ai) (by rw[nh];lia) al (λi ys σ hp=>∃gs:List Addr,ys=gs.map V.ref/\At Bo hp gs ((Dy (CM T r)).take i)/\∃u,σ=[u]) ⟨[],J,At.nil,none,J⟩ ?_ ?_
 ·rintro i ys σ H3 z H4 hi sm ae ⟨gs,rfl,hG,u,rfl⟩ ⟨rfl,hx⟩ Cc hC;obtain⟨c,row,rfl,_,aa,hR⟩:=aq.ref hx;have rm:row∈CM T r:=nz aa;have af:=GQ sm hR
  have:=O.bd
  refine⟨_,J,_,J,c,row,d,J,af,λq hq=>O.den row rm q hq,by rw[O.Fz row rm];lia,?_⟩;refine⟨c,row,cb row,J,af,by rw[O.Fz row rm];lia,O.wb rm,λp H5 s5 np hp=>?_⟩;refine hC _ _ _ s5 ⟨gs++[p],by simp,?_,_,J⟩;have ne:p≠ac:=λz=>by rw[z,ae]at np;cases np
  have e3:(Dy (CM T r))[i]?=some (row.map (wh (cb row))):=by unfold Dy;rw[nV,aa];rfl
  rw[Ck e3];exact(hG.keep Dr (E5 ac s5)).snoc (Gz hp ne)
 rintro ys σ2 H3 s3 ae a3 ⟨gs,rfl,hG,u,rfl⟩;have lw:(Dy (CM T r)).length=n:=by unfold Dy;rw[nh];exact lJ
 rw[nh,ao,oB (by lia)]at hG;exists ac,Dy (CM T r),n,n+1,2 ^ E',J,⟨gs,ae,hG.keep Dr (Eg H3 ac)⟩,lw,by lia,by lia,λr hr=>(O.RG r hr).1,Nat.one_le_two_pow,λr hr=>(O.RG r hr).2,O.GB,?_
 ·intro H4 s4 h0;refine⟨_,J,J,_,J,C3 rfl ?_⟩;refine q0 ?_ H4 (s2.trans (s3.trans s4));have sc:=OU (n:=n) (m:=n+1) (CM T r) cb (λr hr=>(O.Fu hr).2.1);obtain⟨pp,pl⟩:=SU ((CM T r).map cb) (d:=D) (λb hb=>by
   obtain⟨r,hr,rfl⟩:=n8.mp hb;exact⟨(O.Fu hr).1,(O.Fu hr).2.2⟩)
  have pq:((En ((CM T r).map cb):Int):Rat)≠0:=by
   have:En ((CM T r).map cb)≠0:=by lia
   exact_mod_cast this
  have h1:((En ((CM T r).map cb):Int):Rat)*dt n (n+1) (CM T r)=0:=by rw[<-sc];exact h0
  grind
 ·intro p H4 T2 s4 hL ⟨Z,c,v,B⟩;refine⟨_,J,J,_,J,CH (λz=>by cases z) ?_⟩;obtain⟨x,u,S,hx,hd⟩:=ie O (by lia) O.GB B;exact⟨_,J,p,_,n,T2,c,x,u,J,hL,by lia,S,λp5 H5 s5 az av=>q1 hd p5 H5 x (s2.trans (s3.trans (s4.trans s5))) hx av⟩
abbrev N3(H:Hp)(Q:VK)(q:Rat):Prop:=∀p,H p=none->Q (.ref p) (AF H p (.AG [.int q.num,.int q.den]))
abbrev Sf(q:Rat):Prop:=Sb 4480 4480 q
def Sf.n(h:Sf q):BN q.num:=Ft h.1 (by decide)
def Sf.d(h:Sf q):BN (q.den:Int):=Ft (n:=4480) (by simpa using h.2) (by decide)
def Sf.dd(h:Sf p)(g:Sf q):BN ((p.den:Int)*(q.den:Int)):=by
 refine Ft (n:=8960) ?_ (by decide);rw[pA,oW,oW];exact Ce h.2 g.2
inductive CY(op:Rat->Rat->Rat)(vs:List V)(H:Hp)(Q:VK)(_:XK):Prop
 |mk (p q:Addr) (x y:Rat) (ad:vs=[.ref p,.ref q]) (aa:AR H p x) (F:AR H q y) (ab:Sf x) (ac:Sf y) (O:N3 H Q (op x y))
def jW:Ar ["one","other"] ["one","other"] (Ah sPlus):=Ay
def dC(F:Ak K "plus" "plus" sPlus f fd)(G:AZ P w K mg base 2 "fraction" ["top","bottom"] (KG C)):
  Ag P w K mg base Ap 3 f fd ["one","other"] (CY λx y=>x+y):=by
 refine F.A1 jW λim A _ s H vs Q E hr h=>?_
 obtain⟨p,q,x,y,rfl,hp,hq,O,sy,k⟩:=h;exists _,AS (Ai (AV G (AA (AM BK (AM CK (A6 Bl (pv 0) AB) (A6 Bl (pv 1) AB)) (AM CK (A6 Bl (pv 1) AB) (A6 Bl (pv 0) AB))) (AA (AM CK (A6 Bl (pv 0) AB) (A6 Bl (pv 1) AB)) AD))));refine⟨_,J,p,_,_,_,J,J,AH.of hp,BE,_,J,q,_,_,_,J,J,AH.of hq,As,_,_,J,J,⟨O.n,sy.d⟩,_,J,q,_,_,_,J,J,AH.of hq,BE,_,J,p,_,_,_,J,J,AH.of hp,As,_,_,J,J,⟨sy.n,O.d⟩,_,_,J,J,
  _,J,p,_,_,_,J,J,AH.of hp,As,_,J,q,_,_,_,J,J,AH.of hq,As,_,_,J,J,⟨O.d,sy.d⟩,_,_,J,Sf.dd O sy,λz=>absurd z (Kh x y),λ_ t ht=>?_⟩
 have e:=P7 x y;have q1:=k t ht;have e1:=congrArg zW e;have e2:=congrArg abr e;simp only[fr]at e1 e2;rw[e1,e2];exact q1
def jk:Ar ["one","other"] ["one","other"] (Ah sMinus):=Ay
def bA(F:Ak K "minus" "minus" sMinus f fd)(G:AZ P w K mg base 2 "fraction" ["top","bottom"] (KG C)):
  Ag P w K mg base Ap 3 f fd ["one","other"] (CY λx y=>x-y):=by
 refine F.A1 jk λim A _ s H vs Q E hr h=>?_
 obtain⟨p,q,x,y,rfl,hp,hq,O,sy,k⟩:=h;exists _,AS (Ai (AV G (AA (AM C7 (AM CK (A6 Bl (pv 0) AB) (A6 Bl (pv 1) AB)) (AM CK (A6 Bl (pv 1) AB) (A6 Bl (pv 0) AB))) (AA (AM CK (A6 Bl (pv 0) AB) (A6 Bl (pv 1) AB)) AD))));refine⟨_,J,p,_,_,_,J,J,AH.of hp,BE,_,J,q,_,_,_,J,J,AH.of hq,As,_,_,J,J,⟨O.n,sy.d⟩,_,J,q,_,_,_,J,J,AH.of hq,BE,_,J,p,_,_,_,J,J,AH.of hp,As,_,_,J,J,⟨sy.n,O.d⟩,_,_,J,J,
  _,J,p,_,_,_,J,J,AH.of hp,As,_,J,q,_,_,_,J,J,AH.of hq,As,_,_,J,J,⟨O.d,sy.d⟩,_,_,J,Sf.dd O sy,λz=>absurd z (Kh x y),λ_ t ht=>?_⟩
 have e:=P4 x y;have q1:=k t ht;have e1:=congrArg zW e;have e2:=congrArg abr e;simp only[fr]at e1 e2;rw[e1,e2];exact q1
def jy:Ar ["one","other"] ["one","other"] (Ah sTimes):=Ay
def bE(F:Ak K "times" "times" sTimes f fd)(G:AZ P w K mg base 2 "fraction" ["top","bottom"] (KG C)):
  Ag P w K mg base Ap 3 f fd ["one","other"] (CY λx y=>x*y):=by
 refine F.A1 jy λim A _ s H vs Q E hr h=>?_
 obtain⟨p,q,x,y,rfl,hp,hq,O,sy,k⟩:=h;exists _,AS (Ai (AV G (AA (AM CK (A6 Bl (pv 0) AB) (A6 Bl (pv 1) AB)) (AA (AM CK (A6 Bl (pv 0) AB) (A6 Bl (pv 1) AB)) AD))));refine⟨_,J,p,_,_,_,J,J,AH.of hp,BE,_,J,q,_,_,_,J,J,AH.of hq,BE,_,_,J,J,⟨O.n,sy.n⟩,
  _,J,p,_,_,_,J,J,AH.of hp,As,_,J,q,_,_,_,J,J,AH.of hq,As,_,_,J,J,⟨O.d,sy.d⟩,_,_,J,Sf.dd O sy,λz=>absurd z (Kh x y),λ_ t ht=>?_⟩
 have e:=QI x y;have q1:=k t ht;have e1:=congrArg zW e;have e2:=congrArg abr e;simp only[fr]at e1 e2;rw[e1,e2];exact q1
abbrev LF:Hp->Addr->List Rat->Prop:=DC AR
def Nm:Mo LF:=λs h=>ND (R:=AR) (λs h=>An s h) s h
def UZ(h:LF H b r)(n:b≠a)(e:H a=some (.AE ys)):LF (B7 H a) b r:=by
 obtain⟨cs,h1,h2⟩:=h;exact⟨cs,Gz h1 n,NX e h2⟩
def P5(h:At AR H bs qs)(e:H a=some (.AE ys))(o:HO):At AR (AF H a o) bs qs:=(NX e h).keep An (QK H a o)
def Bw(H:Hp)(b:Addr)(r:AX):Prop:=∃e,H b=some (.AG [.int (r.1:Int),.int (r.2.1:Int),.ref e])/\AR H e r.2.2
def Df:Mo Bw:=λs ⟨e,h1,h2⟩=>⟨e,s _ _ h1,s _ _ h2⟩
def JP(H:Hp)(a:Addr)(n:Nat)(rs:List AX):Prop:=∃(r:Addr) (t:V),H a=some (.AG [.int (n:Int),.ref r,t])/\BB Bw H r rs
def Ur(s:AO H H')(h:JP H a n rs):JP H' a n rs:=by
 obtain⟨r,t,h1,h2⟩:=h;exact⟨r,t,s _ _ h1,Fb (R:=Bw) (λs h=>Df s h) s h2⟩
structure FO(H:Hp)(R:Addr)(bs:List Addr)(T:List (List Rat)):Prop where
 h1:H R=some (.AE (bs.map V.ref))
 rows:At LF H bs T
 nd:(R :: bs).Nodup
def FO.keep(M:FO H R bs T)(s:AO H H'):FO H' R bs T:=⟨s _ _ M.h1,M.rows.keep Nm s,M.nd⟩
def Vt{l:List Addr}(h:l.Nodup)(h1:l[i]?=some b)(h2:l[j]?=some b):i=j:=by
 obtain⟨F,e1⟩:=nq.mp h1;obtain⟨j1,O⟩:=nq.mp h2;have hp:=rz.mp h;rcases vc i j with z|z|z
 ·exact absurd (e1.trans O.symm) (hp i j F j1 z)
 ·exact z
 ·exact absurd (O.trans e1.symm) (hp j i j1 F z)
def FO.put{R b p:Addr}(M:FO H R bs T)(O:bs[i]?=some b)(hc:H b=some (.AE (cs.map V.ref)))(hr:At AR H cs (T.getD i []))(hp:AR H p v):
  FO (AF H b (.AE ((cs.map V.ref).set j (.ref p)))) R bs (DM T i j v):=by
 have bm:b∈bs:=nz O;obtain⟨n1,n2⟩:=qm.mp M.nd;have e1:R≠b:=λz=>n1 (by rw[z];exact bm)
 refine⟨by rw[Ad e1];exact M.h1,⟨by unfold DM;rw[rS];exact M.rows.1,λk c x q1 F=>?_⟩,M.nd⟩;unfold DM at F;by_cases hk:i=k
 ·subst hk;rw[O]at q1;cases q1;have hl:i<T.length:=by rw[<-M.rows.1];exact(nq.mp O).1
  rw[pM hl]at F;cases F;refine⟨cs.set j p,by rw[AU,vh],P5 (hr.set j hp) hc _⟩
 ·rw[pF hk]at F;have ne:c≠b:=λz=>hk (Vt n2 O (by rw[q1,z]))
  exact Nm (QK H b _) (UZ (M.rows.2 k c x q1 F) ne hc)
def FO.get(M:FO H R bs T)(q:Sq n T)(hi:i<n)(hj:j<n):∃b cs c,bs[i]?=some b/\H b=some (.AE (cs.map V.ref))/\At AR H cs (T.getD i [])/\cs[j]?=some c/\AR H c (en T i j)/\cs.length=n:=by
 obtain⟨l,e⟩:=q.row hi;obtain⟨b,hb,cs,h1,h2⟩:=M.rows.get e;have F:(T.getD i [])[j]?=some ((T.getD i [])[j]'(by lia)):=nj _;obtain⟨c,O,h4⟩:=h2.get F;refine⟨b,cs,c,hb,h1,h2,O,?_,by rw[h2.1];exact l⟩
 have:en T i j=(T.getD i [])[j]'(by lia):=by unfold en;rw[nO,F];rfl
 rw[this];exact h4
def gC(n:Nat)(t:Addr):(nY n [V.ref t]).flatten=(nY n t).map V.ref:=by
 induction n with
 |zero=>rfl
 |succ n ih=>rw[pE,oQ,ih,pE];rfl
def NR {D:DV}{a:Nat}(hR:σ[1]?=some (some (.ref R)))(ha:σ[a]?=some (some (.int (i:Int))))(hb:σ[b]?=some (some (.int (j:Int))))(he:σ[4]?=some (some (.ref e)))
  (M:FO H R bs T)(sq:Sq n T)(hi:i<n)(hj:j<n)(O:AR H e q)(s1:Sf (en T i j))(s2:Sf q)(sm:AO H0 H)(fr:∀b∈bs,H0 b=none)
  (k:∀H',AO H0 H'->FO H' R bs (DM T i j (op (en T i j) q))->AR H' e q->D.nx σ H') :
  JT (Dt (CY op) [] E0 (BO (Bb (FN []) (Bb (FN []) (Aw 1) (Aw a)) (Aw b)) (BO (Aw 4) CI))) (Wk (Bb (FN []) (Aw 1) (Aw a)) (Aw b) Vz) D σ H:=by
 obtain⟨b1,cs,c,h1,h2,h3,h4,h5,h6⟩:=M.get sq hi hj;refine⟨_,hR,_,ha,R,_,_,_,J,J,AI.of M.h1,BQ (C9 h1),_,hb,b1,_,_,_,J,J,AI.of h2,BQ (C9 h4),_,he,c,e,_,_,J,h5,O,s1,s2,λp hp=>?_⟩;have F:=AY hp (.AG [.int (op (en T i j) q).num,.int (op (en T i j) q).den]);refine⟨_,hR,_,ha,R,_,_,_,J,J,AI.of (F _ _ M.h1),BQ (C9 h1),_,hb,b1,_,_,_,J,J,F _ _ h2,PZ (by rw[nh];lia),?_⟩;have bn:H0 b1=none:=fr b1 (nz h1);refine k _ (Pm (sm.trans F) bn _) ((M.keep F).put h1 (F _ _ h2) (h3.keep An F) AU) ?_;exact An (QK _ b1 _) (AR.B7 (F _ _ O) (F _ _ h2))
inductive Uh(vs:List V)(H:Hp)(Q:VK)(_:XK):Prop
 |mk (a:Addr) (n α β:Nat) (rs:List AX) (O:vs=[.ref a]) (ab:JP H a n rs) (ad:n<=100) (af:rs.length<=100) (ac:(∀r∈rs,r.1<n/\r.2.1<n/\Sb α β r.2.2)) (ae:α+(β+1)*rs.length<=3900) (aa:β*rs.length<=3900) (F:∀p H',AO H H'->BB (BB AR) H' p (Bs n rs)->Q (.ref p) H')
def Lz:Ar ["net","rows","one","other","ease"] ["net"] (Ah sEaseTable):=Ay
def k7:(["place","net"]:List Str).Nodup:=by decide +kernel
def QV:(["row"]:List Str).Nodup:=by decide +kernel
def iH(K:nT):List V->Hp->VK->Prop:=λxs H Q=>∃p ys,xs=[.ref p]/\((AI K H p ys/\∀l,H l=none->Q (.ref l) (AF H l (.AG ys)))\/(AH K H p ys/\Q (.ref p) H))
def Wb(h:BB AR H b r)(e:H a=some (.AE ys)):BB AR (B7 H a) b r:=by
 obtain⟨cs,h1,h2⟩:=h;exact⟨cs,Gz h1 (λz=>by rw[z,e]at h1;cases h1),NX e h2⟩
def HJ:Mo (BB AR):=λs h=>Fb (R:=AR) (λs h=>An s h) s h
def bS{r:AX}(h:Sb α β r.2.2)(i j:Nat):DJ r i j=0\/DJ r i j=r.2.2\/DJ r i j=-r.2.2:=by
 unfold DJ;by_cases e:r.1=r.2.1
 ·rw[nX e];exact .inl rfl
 ·rw[nS e];by_cases a:i=r.1/\j=r.1
  ·have b:¬(i=r.2.1/\j=r.2.1):=λz=>e (a.1.symm.trans z.1)
   have c:¬(i=r.1/\j=r.2.1):=λz=>e (a.2.symm.trans z.2)
   have d:¬(i=r.2.1/\j=r.1):=λz=>e (a.1.symm.trans z.1)
   rw[nX a,nS b,nS c,nS d];right;left;grind
  ·rw[nS a];by_cases b:i=r.2.1/\j=r.2.1
   ·have c:¬(i=r.1/\j=r.2.1):=λz=>e (z.1.symm.trans b.1)
    have d:¬(i=r.2.1/\j=r.1):=λz=>e (z.2.symm.trans b.2)
    rw[nX b,nS c,nS d];right;left;grind
   ·rw[nS b];by_cases c:i=r.1/\j=r.2.1
    ·have d:¬(i=r.2.1/\j=r.1):=λz=>e (c.1.symm.trans z.1)
     rw[nX c,nS d];right;right;grind
    ·rw[nS c];by_cases d:i=r.2.1/\j=r.1
     ·rw[nX d];right;right;grind
     ·rw[nS d];left;grind
def Gi(n α β k:Nat)(T:List (List Rat)):Prop:=Sq n T/\∀i j,Sb (α+(β+1)*k) (β*k) (en T i j)
def Gi.zero(n α β:Nat):Gi n α β 0 (ER n):=⟨To n,λi j=>by rw[Tb];exact Sb.zero.mono (pD _) (pD _)⟩
def Gi.Ae(h:Gi n α β k T)(F:Sb α β q)(i j:Nat):Sb (α+(β+1)*(k+1)) (β*(k+1)) (en T i j+q)/\Sb (α+(β+1)*(k+1)) (β*(k+1)) (en T i j-q):=by
 have O:β*k<=(β+1)*k:=um _ (by lia);constructor
 ·have:=(h.2 i j).DZ F (N:=α+(β+1)*k+β) (by lia) (by lia)
  exact this.mono (by rw[rM];lia) (by rw[rM];lia)
 ·have:=(h.2 i j).sub F (N:=α+(β+1)*k+β) (by lia) (by lia)
  exact this.mono (by rw[rM];lia) (by rw[rM];lia)
def Gi.step(h:Gi n α β k T){r:AX}(h1:r.1<n)(h2:r.2.1<n)(F:Sb α β r.2.2):Gi n α β (k+1) (Cs T r):=by
 obtain⟨a,b⟩:=Rc h.1 h1 h2;refine⟨a,λi j=>?_⟩;rw[b];have o:=h.Ae F i j;rcases bS F i j with e|e|e
 ·rw[e,xf];exact(h.2 i j).mono (by rw[rM];lia) (by rw[rM];lia)
 ·rw[e];exact o.1
 ·rw[e,<-Rat.sub_eq_add_neg];exact o.2
def cQ(F:Ak K "ease_table" "ease_table" sEaseTable f fd)(G1:AZ P w K mg base 3 "plus" ["one","other"] (CY λx y=>x+y))(G2:AZ P w K mg base 3 "minus" ["one","other"] (CY λx y=>x-y))(mr:mg "range" = none)(mt:mg "tuple" = none):
  Ag P w K mg base Ap 4 f fd ["net"] Uh:=by
 refine F.A1 Lz λim A _ s H vs Q E hr h=>?_
 obtain⟨a,n,α,β,rs,rfl,⟨ra,tv,ha,bs,am,ao⟩,hn,hm,a5,z1,z2,q⟩:=h;exists _,AL (Im (i:=1) Lz.nd rfl (qr rfl) (Nc:=["place","net"]) (cap:=[(1,0)]) (g:=BU 0) (te:=Bb WM (WU (BO (Lw (BO (tC (.int 0)) (BO (tC (.int 1)) CI))) CI)) (Bb (GZ []) (Aw 1) (tC (.int 0)))) rfl (Io (by rfl) mr (AA (A6 Bl (pv 0) AB) AD))
   CU
   (λ_ _ _ _ _=>B8 (i:=0) k7 rfl (qr rfl)) (λ_ _ _ _ _=>AM NL (CG (AA (BS (AA AB (AA AB AD))) AD)) (A6 Bl (pv 1) AB)))
  (AL (Bg oE rfl (Di (A6 Bl (pv 0) AB)) (Cp rfl (BH (Az 2 Lz) (BH (Az 3 Lz) (BH (Az 4 Lz) Cn))))
   (AS (BL (BP Fj (pv 2) (pv 3))
    (AL (Dg (AV G1 (AA (A6 CJ (A6 CJ (pv 1) (pv 2)) (pv 2)) (AA (pv 4) AD))) (Fc (A6 CJ (pv 1) (pv 2)) (pv 2) FX))
    (AL (Dg (AV G1 (AA (A6 CJ (A6 CJ (pv 1) (pv 3)) (pv 3)) (AA (pv 4) AD))) (Fc (A6 CJ (pv 1) (pv 3)) (pv 3) FX))
    (AL (Dg (AV G2 (AA (A6 CJ (A6 CJ (pv 1) (pv 2)) (pv 3)) (AA (pv 4) AD))) (Fc (A6 CJ (pv 1) (pv 2)) (pv 3) FX))
    (AS (Dg (AV G2 (AA (A6 CJ (A6 CJ (pv 1) (pv 3)) (pv 2)) (AA (pv 4) AD))) (Fc (A6 CJ (pv 1) (pv 3)) (pv 2) FX)))))) BR)))
  (AS (Ai (EG GI (by rfl) mt EH (AA (DR (Nc:=["row"]) (cap:=[]) (g:=BU 0) (te:=Kr (iH []) (BO (Aw 0) CI)) rfl (EN (pv 1))
   CU (λ_ _ _ _ _=>B8 (i:=0) QV rfl (qr rfl)) (λ_ _ _ _ _=>EG GI (by rfl) mt EH (AA (pv 0) AD))) AD)))))
 have ak:∀x y z:V,Bc [x,y,z] 0=some x:=λx y z=>BQ (j:=0) rfl
 have ap:∀x y z:V,Bc [x,y,z] 1=some y:=λx y z=>BQ (j:=1) rfl
 refine⟨_,J,a,_,_,_,J,J,AH.of ha,ak _ _ _,((n:Nat):Int),J,by lia,by lia,λaa aq=>?_⟩;rw[show((n:Nat):Int).toNat=n by lia];refine Cm YX (by lia) aq (λi ys σ O=>∃ds:List Addr,ys=ds.map V.ref/\At LF O ds (nY i (nY n 0))/\ds.Nodup/\(∀d∈ds,H d=none)/\∃u,σ=[u,some (.ref a)]) ⟨[],J,At.nil,by simp,by simp,none,J⟩ ?_ ?_
 ·rintro i ys σ H2 x H3 hi sm ae ⟨ds,rfl,hD,nd,fr,u,rfl⟩ ⟨rfl,rfl⟩ Cc hC;refine⟨by exact Bk,λt ht=>⟨by exact ED,λl hl=>?_⟩⟩;obtain⟨H4,zg,s1,zz⟩:=nw ht (.AG [.int 0,.int 1]);rw[zg]at hl ⊢;have e1:AR H4 t 0:=zz;refine BF hl (.AE [.ref t]) λH5 s2 e2=>?_
  have ab:=s1.trans s2;refine⟨_,J,a,_,_,_,J,J,AH.of (ab _ _ (sm _ _ ha)),ak _ _ _,l,((n:Nat):Int),[.ref t],J,J,e2,by lia,by lia,by simp;exact Dk (by lia),λp O=>?_⟩;rw[show((n:Nat):Int).toNat=n by lia];rw[gC];have s3:=AY O (.AE ((nY n t).map V.ref));have ai:=ab.trans s3;have ar:p≠aa:=λz=>by rw[z,ab _ _ ae]at O;cases O
  have pf:H p=none:=(sm.trans ab).free O;refine hC _ _ _ ai ⟨ds++[p],by simp,?_,?_,?_,_,J⟩
  ·rw[uj];refine(hD.keep Nm (E5 aa ai)).snoc (UZ ⟨nY n t,AU,⟨by simp,λk c y e3 e4=>?_⟩⟩ ar (ai _ _ ae));rw[uN]at e3 e4;split at e3
   ·rename_i hk
    rw[nX hk]at e4;cases e3;cases e4;exact An (s2.trans s3) e1
   ·cases e3
  ·rw[qB];refine⟨nd,by simp,λx hx y hy z=>?_⟩;rw[oz]at hy;subst hy;subst z;obtain⟨k,hk,ek⟩:=oG hx;have ad:k<(nY i (nY n (0:Rat))).length:=by rw[<-hD.1];exact hk
   obtain⟨cs,h1,_⟩:=hD.2 k x _ (by rw[nj hk,ek]) (nj ad)
   have:=ab _ _ (Eg _ _ _ _ h1)
   rw[this]at O;cases O
  ·intro d a1;rcases om.mp a1 with h'|h'
   ·exact fr d h'
   ·rw[oz]at h';rw[h'];exact pf
 rintro ys σ1 H2 s2 ae ad ⟨ds,rfl,hD,nd,fr,u,rfl⟩;have M0:FO H2 aa ds (ER n):=by
  refine⟨ae,hD.keep Nm (Eg H2 aa),qm.mpr ⟨λz=>?_,nd⟩⟩;obtain⟨k,hk,ek⟩:=oG z;have ad:k<(nY n (nY n (0:Rat))).length:=by rw[<-hD.1];exact hk
  obtain⟨cs,h1,_⟩:=hD.2 k aa _ (by rw[nj hk,ek]) (nj ad);rw[Ir]at h1;cases h1
 have ac:∀b∈ds,H b=none:=fr
 try dsimp only
 try refine DG ?_
 first|refine DF λa2 al=>?_|refine nx_hide λa2 al=>?_
 exists _,J,a,_,_,_,J,J,AH.of (s2 _ _ ha),ap _ _ _,ra,J,⟨_,AH.of (s2 _ _ am)⟩;refine ID (xs:=bs.map V.ref) (λk σ H3=>AO H H3/\(∃u2 u3 u4,σ=[some (.ref a),some (.ref aa),u2,u3,u4])/\FO H3 aa ds ((rs.take k).foldl Cs (ER n))/\Gi n α β k ((rs.take k).foldl Cs (ER n)))
  ⟨s2,⟨none,none,none,J⟩,M0,Gi.zero n α β⟩ (λk σ H3 _ ⟨s3,_⟩=>AH.of (s3 _ _ am)) ?_ ?_
 ·rintro k x σ H3 hx ⟨s3,⟨u2,u3,u4,rfl⟩,M,ts⟩;obtain⟨c,r,rfl,_,ah,e,hc,he⟩:=ao.ref hx;have rm:r∈rs:=nz ah;obtain⟨r1,r2,rq⟩:=a5 r rm;have hk:k<rs.length:=(nq.mp ah).1;have af:=ts.step r1 r2 rq;rw[Ck ah,we];show JY [] 3 _ _ _ _ _;exists c,_,J,AH.of (s3 _ _ hc),J,_,_,J,_,_,J,_,_,J,rfl;have a9:∀(T':List (List Rat)),T'=Cs ((rs.take k).foldl Cs (ER n)) r->vU Cs (vU Cs (ER n) (List.take k rs)) [r]=T':=λT' h=>h.symm
  exists _,J,_,J,J,_,rfl;generalize hT:(rs.take k).foldl Cs (ER n)=T at M ts af;have ba:(β+1)*(k+1)<=(β+1)*rs.length:=rA _ hk;have bb:β*(k+1)<=β*rs.length:=rA _ hk;have a6:β*rs.length+rs.length=(β+1)*rs.length:=by rw[xN,uZ]
  have up:∀{x:Rat},Sb (α+(β+1)*(k+1)) (β*(k+1)) x->Sf x:=λh=>h.mono (by lia) (by lia)
  have lo:∀i j,Sf (en T i j):=λi j=>up ((ts.2 i j).mono (by rw[rM];lia) (by rw[rM];lia))
  have sq:Sf r.2.2:=by
   have a7:β<=β*rs.length:=uO _ (by lia);exact rq.mono (by lia) (by lia)
  by_cases eq:r.1=r.2.1
  ·refine GP (iv (by rw[eq])) ⟨s3,⟨_,_,_,J⟩,?_,?_⟩
   ·have:vU Cs T [r]=T:=by show Cs T r=T;unfold Cs;rw[nX eq]
    rw[this];exact M
   ·show Gi n α β (k+1) (Cs T r);exact af
  ·refine KL (EB (by lia)) ?_;have aj:=ts.1;refine NR (i:=r.1) (j:=r.1) (a:=2) (b:=2) (op:=λx y=>x+y) rfl rfl rfl rfl M aj r1 r1 (s3 _ _ he) (lo _ _) sq s3 ac λH4 s4 M4 f4=>?_
   have q1:=aj.set (j:=r.1) (v:=en T r.1 r.1+r.2.2) r1;have e1:=Iu aj (v:=en T r.1 r.1+r.2.2) r1 r1;generalize aw:DM T r.1 r.1 (en T r.1 r.1+r.2.2)=T1 at M4 q1 e1;have g1:en T1 r.2.1 r.2.1=en T r.2.1 r.2.1:=by rw[e1,nS (λz=>eq z.1.symm)]
   refine NR (i:=r.2.1) (j:=r.2.1) (a:=3) (b:=3) (op:=λx y=>x+y) rfl rfl rfl rfl M4 q1 r2 r2 f4 (by rw[g1];exact lo _ _) sq s4 ac λH5 s5 M5 f5=>?_
   have q2:=q1.set (j:=r.2.1) (v:=en T1 r.2.1 r.2.1+r.2.2) r2;have e2:=Iu q1 (v:=en T1 r.2.1 r.2.1+r.2.2) r2 r2;generalize az:DM T1 r.2.1 r.2.1 (en T1 r.2.1 r.2.1+r.2.2)=T2 at M5 q2 e2;have g2:en T2 r.1 r.2.1=en T r.1 r.2.1:=by rw[e2,nS (λz=>eq z.1),e1,nS (λz=>eq z.2.symm)]
   refine NR (i:=r.1) (j:=r.2.1) (a:=2) (b:=3) (op:=λx y=>x-y) rfl rfl rfl rfl M5 q2 r1 r2 f5 (by rw[g2];exact lo _ _) sq s5 ac λH6 s6 M6 f6=>?_
   have q3:=q2.set (j:=r.2.1) (v:=en T2 r.1 r.2.1-r.2.2) r1;have e3:=Iu q2 (v:=en T2 r.1 r.2.1-r.2.2) r1 r2;generalize a0:DM T2 r.1 r.2.1 (en T2 r.1 r.2.1-r.2.2)=T3 at M6 q3 e3;have g3:en T3 r.2.1 r.1=en T r.2.1 r.1:=by rw[e3,nS (λz=>eq z.1.symm),e2,nS (λz=>eq z.2),e1,nS (λz=>eq z.1.symm)]
   refine NR (i:=r.2.1) (j:=r.1) (a:=3) (b:=2) (op:=λx y=>x-y) rfl rfl rfl rfl M6 q3 r2 r1 f6 (by rw[g3];exact lo _ _) sq s6 ac λH7 s7 M7 f7=>?_
   refine⟨s7,⟨_,_,_,J⟩,?_,af⟩
   have:vU Cs T [r]=DM T3 r.2.1 r.1 (en T3 r.2.1 r.1-r.2.2):=by
    show Cs T r=_;unfold Cs;rw[nS eq];simp only[aw,az,a0]
   rw[this];exact M7
 ·rintro σ H3 ⟨s3,⟨u2,u3,u4,rfl⟩,M,ts⟩;subst al;rw[nh,ao.1,qc]at M ts;have a4:ds.length=n:=by rw[hD.1];simp
  refine⟨_,J,aa,J,⟨_,AI.of M.h1⟩,λag av=>?_⟩;refine Cm (FW M.h1) (by rw[nh];lia) av (λi ys σ O=>∃gs:List Addr,ys=gs.map V.ref/\At (BB AR) O gs ((rs.foldl Cs (ER n)).take i)/\∃u,σ=[u]) ⟨[],J,At.nil,none,J⟩ ?_ ?_
  ·rintro i ys σ H4 x H5 hi s4 a3 ⟨gs,rfl,hG,u,rfl⟩ ⟨rfl,hx⟩ Cc hC;obtain⟨b,row,rfl,_,hy,cs,hB,ax⟩:=M.rows.ref hx;have au:=s4 _ _ hB;refine⟨_,J,b,_,J,.inl ⟨AI.of au,λp O=>?_⟩⟩;have sp:=AY O (.AG (cs.map V.ref));refine hC _ _ _ sp ⟨gs++[p],by simp,?_,_,J⟩;rw[Ck hy];exact(hG.keep HJ (E5 ag sp)).snoc (Wb ⟨cs,AU,ax.keep An (s4.trans sp)⟩ (sp _ _ a3))
  ·rintro ys σ H4 s4 ay a8 ⟨gs,rfl,hG,u,rfl⟩;rw[nh,a4,oB (by rw[ts.1.len];exact nQ _)]at hG;refine⟨ag,_,J,.inl ⟨AI.of ay,λp O=>?_⟩⟩;have sp:=AY O (.AG (gs.map V.ref));exact q p _ ((s3.trans s4).trans sp) ⟨gs,AU,(hG.keep HJ (Eg H4 ag)).keep HJ sp⟩
structure HB(n m α β:Nat):Prop where
 L9:n<=13
 Kn:m<=16
 bd:(8+β*m+α)*n+β*m+α+20<=3900
structure CO(n m α β:Nat)(rs:List AX):Prop where
 hb:HB n m α β
 len:rs.length<=m
 CN:∀r∈rs,r.1<n+2/\r.2.1<n+2/\Sb α β r.2.2
 pos:∀r∈rs,0<r.2.2
 DU:Qe (n+2) rs
def CO.Bt(k:CO n m α β rs):∀r∈rs,r.1<n+2/\r.2.1<n+2:=λr F=>⟨(k.CN r F).1,(k.CN r F).2.1⟩
def CO.den(k:CO n m α β rs):Cu rs<=2 ^ (β*m) :=
 oC (UJ λr F=>(k.CN r F).2.2.2) (pk (by decide) (rA _ k.len))
def Dh(n:Nat)(rs:List AX):List (List Rat):=CM (Et (Bs (n+2) rs)) (Fd (Bs (n+2) rs))
def CO.row(k:CO n m α β rs)(hy:y∈Dh n rs):y.length=n+1/\∀q∈y,BM ((Cu rs:Nat)*q)/\Vb (α+4) q:=by
 have F:=(IB k.Bt).1;obtain⟨i,hi,e⟩:=oG hy;have aa:i<n:=by
  have:i<(Dh n rs).length:=hi
  unfold Dh CM at this;rw[aak,(J6 F).1]at this
  lia
 have e2:(Dh n rs)[i]?=some ((((Bs (n+2) rs).getD (i+2) []).drop 2)++[0-en (Bs (n+2) rs) (i+2) 0]):=by
  unfold Dh CM;rw[vf,PF F aa,SJ F aa]
 rw[nj hi,e]at e2;cases e2;have rl:=(F.row (i:=i+2) (by lia)).1;have O:rs.length<=16:=oC k.len k.hb.Kn;refine⟨by rw[oa,pY,rl];simp,λq hq=>?_⟩;rcases om.mp hq with h|h
 ·have h:=ui h;obtain⟨j,hj,ej⟩:=oG h
  have:q=en (Bs (n+2) rs) (i+2) j:=by unfold en;rw[nO (l:=(Bs (n+2) rs).getD (i+2) []),nj hj,ej];rfl
  rw[this];exact QF k.CN O _ _
 ·rw[oz]at h;rw[h];obtain⟨a,b⟩:=QF k.CN O (i+2) 0;constructor
  ·have:=a.Eu
   rwa [show -((Cu rs:Nat)*en (Bs (n+2) rs) (i+2) 0)=(Cu rs:Nat)*(0-en (Bs (n+2) rs) (i+2) 0) by grind]at this
  ·have:=Ab.Eu b
   rwa [show -1*en (Bs (n+2) rs) (i+2) 0=0-en (Bs (n+2) rs) (i+2) 0 by grind]at this
def CO.Wy(k:CO n m α β rs)(hy:y∈Dh n rs):∀q∈y,(q.den:Int) ∣ (Cu rs:Int):=λq F=>by
 obtain⟨c,O⟩:=((k.row hy).2 q F).1;exact T7 (k:=c) (by rw[ic];exact O)
def CO.tk(k:CO n m α β rs):TK n (n+1) (β*m) (β*m+(α+4)) (β*m) (Dh n rs):=by
 have sq:=(IB k.Bt).1;have hd:=k.den;have pd:(0:Int)<(Cu rs:Int):=by have:=Jt rs;lia
 have aa:∀r∈Dh n rs,(cb r).natAbs<=2 ^ (β*m):=λr F=>oC (jU pd (k.Wy F)) (by rw[oW];exact hd)
 have ab:∀r∈Dh n rs,∀q∈r,q.den<=2 ^ (β*m):=λr F q O=>oC (vC (Jt rs) (by exact_mod_cast k.Wy F q O)) hd
 have b:=k.hb.bd;generalize β*m=s at *;have e1:(8+s+α)*n=8*n+s*n+α*n:=by rw[xN,xN]
 rw[e1]at b;have ac:=k.hb.L9;exists ?_,λr F=>(k.row F).1,by lia,by lia,ab,λr F q O=>?_,aa,λr F q O=>?_,?_,by lia  
 ·unfold Dh CM;rw[aak,(J6 sq).1,OW sq];lia
 ·have h1:=Vo (b:=(q.den:Int)) (D:=s) (Int.dvd_refl _) ((k.row F).2 q O).2 (by rw[oW];exact ab r F q O)
  have:wh (q.den:Int) q=q.num:=by
   unfold wh;rw[Int.fdiv_self (by have:=q.den_nz;lia),Int.mul_one]
  rw[this]at h1;exact Ft h1 (by lia)
 ·exact Vo ((LX r).2 q O) ((k.row F).2 q O).2 (aa r F)
 ·have:(4+(s+(α+4)))*n=8*n+s*n+α*n:=by rw[<-e1];congr 1;lia
  lia
 ·have:s*(n+1)=s*n+s:=rM _ _
  lia
def CO.ne(k:CO n m α β rs):dt n (n+1) (Dh n rs)≠0:=by
 have O:=(IB k.Bt).1;have c:=J6 O;unfold Dh CM;rw[dZ c.1 (OW O) c.2];exact jG (λr F=>⟨(k.CN r F).1,(k.CN r F).2.1,k.pos r F⟩) k.DU
structure Eb(n B:Nat)(rs:List AX)(X:Nat->Rat):Prop where
 x0:X 0=1
 x1:X 1=0
 Ic:∀i,2<=i->i<n+2->A8 X rs i=0
 wh:∃W:Int,W≠0/\W.natAbs<=2 ^ B/\∀j,j<n+2->∃k:Int,(W:Rat)*X j=k/\k.natAbs<=2 ^ B
def CO.mV(k:CO n m α β rs)(hx:∀y∈Dh n rs,fx n x (vq y)=0):Eb n ((8+β*m+α)*n) rs (Lc 1 0 x):=by
 have tk:=k.tk;have aa:=k.hb.L9;exists rfl,J,kG k.Bt hx;have sc:=OU (n:=n) (m:=n+1) (Dh n rs) cb (λr F=>(tk.Fu F).2.1);have pp:En ((Dh n rs).map cb)≠0:=by
  have:=(SU (d:=β*m) ((Dh n rs).map cb) (λb hb=>by
   obtain⟨r,F,rfl⟩:=n8.mp hb;exact⟨(tk.Fu F).1,(tk.Fu F).2.2⟩)).1
  lia
 obtain⟨W,w0,wl,wx⟩:=jK (n:=n) (E:=β*m+(α+4)) (A:=(Dy (Dh n rs)).map vr) (x:=x) (by unfold Dy;rw[nh,nh];exact tk.len) (by lia)
  (λa O j=>by obtain⟨r,_,rfl⟩:=n8.mp O;exact BM.of _)
  (λa O j=>by
   obtain⟨r,F,rfl⟩:=n8.mp O;exact JD (S4 ((tk.RG r F).2) j))
  (λa O=>by
   obtain⟨r,F,rfl⟩:=n8.mp O;unfold Dy at F;obtain⟨y,hy,rfl⟩:=n8.mp F;rw[QQ (tk.Fu hy).2.1];have c0:((cb y:Int):Rat)≠0:=by
    have:cb y≠0:=by have:=(tk.Fu hy).1;lia
    exact_mod_cast this
   exact(Sz c0).mpr (hx y hy))
  (by
   unfold Dy;rw[sc];intro z;rcases rX.mp z with h|h
   ·exact pp (by exact_mod_cast h)
   ·exact k.ne h)
 have eB:(4+(β*m+(α+4)))*n=(8+β*m+α)*n:=by congr 1;lia
 rw[eB]at wl wx;refine⟨W,w0,wl,λj hj=>?_⟩
 match j,hj with
 |0,_=>exact⟨W,by show(W:Rat)*1=W;grind,wl⟩
 |1,_=>exact⟨0,by show(W:Rat)*0=0;grind,by simp⟩
 |j+2,hj=>exact wx j (by lia)
def Qc(h:2<=n):HT.Al n 0 (some 2)=2:=by simp[HT.Al];lia
inductive Ug(vs:List V)(H:Hp)(Q:VK)(_:XK):Prop
 |mk (a:Addr) (T:List (List Rat)) (n:Nat) (ac:vs=[.ref a]) (O:BB (BB AR) H a T) (F:Sq (n+2) T) (aa:n<=100) (ab:∀p H',AO H H'->BB (BB AR) H' p (Et T)->Q (.ref p) H')
def kU:Ar ["table"] ["table"] (Ah sPoleless):=Ay
def eJ(F:Ak K "poleless" "poleless" sPoleless f fd)(mt:mg "tuple" = none):Ag P w K mg base Ap 1 f fd ["table"] Ug:=by
 refine F.A1 kU λim A _ s H vs Q E hr h=>?_
 obtain⟨a,T,n,rfl,⟨bs,ha,hA⟩,sq,hn,q⟩:=h;exists _,AS (Ai (EG GI (by rfl) mt EH (AA (DR (Nc:=["row"]) (cap:=[]) (g:=BU 0) (te:=XI (Qr []) (Aw 0) (Vu (tC (.int 2))) PN) rfl (Di (E4 ML (pv 0) (Ef AB) FY))
   CU (λ_ _ _ _ _=>B8 (i:=0) QV rfl (qr rfl)) (λ_ _ _ _ _=>E4 ML (pv 0) (Ef AB) FY)) AD)))
 have lb:bs.length=n+2:=by rw[hA.1];exact sq.len
 refine⟨_,J,2,J,a,_,J,AH.of ha,λz=>?_,λp0 ac=>?_⟩
 ·have:=z.1
  rw[Qc (by rw[nh];lia)]at this;cases this
 rw[show C5 (bs.map V.ref) (some 2) none=(bs.drop 2).map V.ref by rw[show(some (2:Int))=some ((2:Nat):Int) from rfl,LB _ (by rw[nh];lia),vB]];refine BF ac (.AG ((bs.drop 2).map V.ref)) λH1 s0 h0=>?_
 have ah:=(hA.keep HJ s0).drop 2;refine⟨p0,J,⟨_,AH.of h0⟩,λaa ag=>?_⟩;refine Cm (IF h0) (by rw[nh,pY];lia) ag (λi ys σ O=>∃ds:List Addr,ys=ds.map V.ref/\At (BB AR) O ds ((Et T).take i)/\∃u,σ=[u]) ⟨[],J,At.nil,none,J⟩ ?_ ?_
 ·rintro i ys σ H2 x H3 hi sm af ⟨ds,rfl,hD,u,rfl⟩ ⟨rfl,hx⟩ Cc hC;obtain⟨b,row,rfl,_,hy,cs,hB,ab⟩:=ah.ref hx;have ae:=sm _ _ hB;have rl:row.length=n+2:=sq.Fz row (ui (nz hy));have cl:cs.length=n+2:=by rw[ab.1];exact rl
  refine⟨_,J,2,J,b,_,J,AH.of ae,λz=>?_,λp O=>?_⟩
  ·have:=z.1
   rw[Qc (by rw[nh];lia)]at this;cases this
  rw[show C5 (cs.map V.ref) (some 2) none=(cs.drop 2).map V.ref by rw[show(some (2:Int))=some ((2:Nat):Int) from rfl,LB _ (by rw[nh];lia),vB]];have sp:=AY O (.AG ((cs.drop 2).map V.ref));refine hC _ _ _ sp ⟨ds++[p],by simp,?_,_,J⟩;have ec:(Et T)[i]?=some (row.drop 2):=by unfold Et;rw[nV,hy];rfl
  rw[Ck ec];exact(hD.keep HJ (E5 aa sp)).snoc (Wb ⟨cs.drop 2,AU,(ab.keep An (sm.trans sp)).drop 2⟩ (sp _ _ af))
 ·rintro ys σ H4 s4 ad ai ⟨gs,rfl,hG,u,rfl⟩;rw[nh,pY,oB (by rw[(J6 sq).1];lia)]at hG;refine⟨aa,_,J,.inl ⟨AI.of ad,λp O=>?_⟩⟩;have sp:=AY O (.AG (gs.map V.ref));exact q p _ ((s0.trans s4).trans sp) ⟨gs,AU,(hG.keep HJ (Eg H4 aa)).keep HJ sp⟩
def Jx{W k:Int}{a:Nat}(F:W≠0)(e:(W:Rat)*q=k)(h1:k.natAbs<=2 ^ b)(h2:W.natAbs<=2 ^ a):Sb b a q:=by
 refine Nk F h1 h2 ?_;rw[Gs k W F];have O:(W:Rat)≠0:=by exact_mod_cast F
 have:(k:Rat) / (W:Rat)=q:=by
  rw[<-e,tQ];rw[Rat.div_def,aab,aaG _ O,aba]
 rw[this];rfl
def jm(m0:0<M)(hi:BM ((M:Nat)*q))(O:M<=2 ^ D)(hv:Vb v q):Sb (D+v) D q:=by
 obtain⟨k,F⟩:=hi;have ab:Ab ((2 ^ D:Nat):Rat) ((M:Nat):Rat):=JD (x:=(M:Int)) (by rw[oW];exact O)
 have:=ab.Ew hv
 rw[F,<-Rat.natCast_mul,<-Nat.pow_add]at this;exact Jx (W:=(M:Int)) (by lia) (by rw[ic];exact F) (GL this) (by rw[oW];exact O)
def CO.sf(k:CO n m α β rs)(i j:Nat):Sf (en (Bs (n+2) rs) i j):=by
 obtain⟨a,b⟩:=QF k.CN (oC k.len k.hb.Kn) i j
 have:=k.hb.bd
 exact(jm (Jt rs) a k.den b).mono (by omega) (by omega)
def OG:Sf 0:=Sb.zero.mono (pD _) (pD _)
def X5(n:Nat)(x:Nat->Rat):(og (n+2)).map (Lc 1 0 x)=1 :: 0 :: (og n).map x:=by
 rw[qZ,qZ];simp[pO];exact⟨J,J,λ_ _=>rfl⟩
inductive QX(vs:List V)(H:Hp)(Q:VK)(_:XK):Prop
 |mk (a:Addr) (n m α β:Nat) (rs:List AX) (ab:vs=[.ref a]) (O:JP H a (n+2) rs) (F:CO n m α β rs) (aa:∀p H' X,AO H H'->Eb n ((8+β*m+α)*n) rs X->BB AR H' p ((og (n+2)).map X)->Q (.ref p) H')
def Qi:Ar ["net","table","right"] ["net"] (Ah sHeights):=Ay
def YU (F:Ak K "heights" "heights" sHeights f fd)(G1:AZ P w K mg base 4 "ease_table" ["net"] Uh)
  (G2:AZ P w K mg base 3 "minus" ["one","other"] (CY λx y=>x-y))
  (G3:AZ P w K mg base 1 "poleless" ["table"] Ug)
  (G4:AZ P w K mg base 4 "answer" ["table","right"] (Sv C2))(mt:mg "tuple" = none) :
  Ag P w K mg base Ap 5 f fd ["net"] QX:=by
 refine F.A1 Qi λim A _ s H vs Q E hr h=>?_
 obtain⟨a,n,m,α,β,rs,rfl,hN,k,q⟩:=h;exists _,AL (AW 1 Qi (AV G1 (AA (pv 0) AD)))
  (AL (AW 2 Qi (EG GI (by rfl) mt EH (AA (DR (Nc:=["row"]) (cap:=[]) (g:=BU 0) (te:=Dt (CY λx y=>x-y) [] E0 (BO (Lw (BO (tC (.int 0)) (BO (tC (.int 1)) CI))) (BO (Bb (GZ []) (Aw 0) (tC (.int 0))) CI))) rfl (Di (E4 ML (pv 1) (Ef AB) FY))
   CU (λ_ _ _ _ _=>B8 (i:=0) QV rfl (qr rfl)) (λ_ _ _ _ _=>AV G2 (AA (BS (AA AB (AA AB AD))) (AA (A6 Bl (pv 0) AB) AD)))) AD)))
  (AS (Ai (AM Tr (BS (AA (BS (AA AB (AA AB AD))) (AA (BS (AA AB (AA AB AD))) AD)))
   (AV G4 (AA (AV G3 (AA (pv 1) AD)) (AA (pv 2) AD)))))))
 have a4:rs.length<=16:=oC k.len k.hb.Kn;have a7:=k.hb.L9;have bd:=k.hb.bd;have bl:β*rs.length<=β*m:=rA _ k.len;have a6:(β+1)*rs.length=β*rs.length+rs.length:=by rw[xN,uZ]
 have sq:=(IB k.Bt).1;have ar:=k.sf;refine⟨_,J,a,n+2,α,β,rs,J,hN,by lia,by lia,k.CN,by lia,by lia,λt H1 s1 hT=>?_⟩;have ht:=(J6 sq);have ag:=OW sq;obtain⟨bs,ha,hA⟩:=hT;have lb:bs.length=n+2:=by rw[hA.1];exact sq.len
 refine⟨_,J,2,J,t,_,J,AH.of ha,λz=>?_,λp0 aw=>?_⟩
 ·have:=z.1
  rw[Qc (by rw[nh];lia)]at this;cases this
 rw[show C5 (bs.map V.ref) (some 2) none=(bs.drop 2).map V.ref by rw[show(some (2:Int))=some ((2:Nat):Int) from rfl,LB _ (by rw[nh];lia),vB]];refine BF aw (.AG ((bs.drop 2).map V.ref)) λH2 s0 h0=>?_
 have a2:=(hA.keep HJ s0).drop 2;refine⟨p0,J,⟨_,AH.of h0⟩,λad al=>?_⟩;refine Cm (IF h0) (by rw[nh,pY];lia) al (λi ys σ hp=>∃ds:List Addr,ys=ds.map V.ref/\At AR hp ds ((Fd (Bs (n+2) rs)).take i)/\∃u,σ=[u]) ⟨[],J,At.nil,none,J⟩ ?_ ?_
 ·rintro i ys σ H3 x H4 hi sm a3 ⟨ds,rfl,hD,u,rfl⟩ ⟨rfl,hx⟩ Cc hC;obtain⟨b,row,rfl,_,hy,cs,hB,ax⟩:=a2.ref hx;have ap:=sm _ _ hB;have rl:row.length=n+2:=sq.Fz row (ui (nz hy));have er:row[0]?=some (row.getD 0 0):=by rw[nO,nj (by lia)];rfl
  obtain⟨c,hc,au⟩:=ax.get er;have i':i<n:=by
   have:i<(bs.drop 2).length:=by rw[nh]at hi;exact hi
   rw[pY]at this;lia
  have az:row=(Bs (n+2) rs).getD (i+2) []:=by
   rw[tM,uD 2 i,(sq.row (i:=i+2) (by lia)).2]at hy;exact(oy hy).symm
  refine⟨by exact Bk,λz hz=>?_⟩;refine BF hz (.AG [.int 0,.int 1]) λH5 sz zz=>?_
  have ez:AR H5 z 0:=zz;refine⟨_,J,b,_,_,_,J,J,AH.of (sz _ _ ap),BQ (j:=0) (C9 hc),z,c,0,row.getD 0 0,J,ez,sz _ _ (sm _ _ au),OG,by rw[az];exact ar (i+2) 0,λp hp=>?_⟩;have sp:=AY hp (.AG [.int (0-row.getD 0 0).num,.int (0-row.getD 0 0).den]);have ae:=sz.trans sp;refine hC _ _ _ ae ⟨ds++[p],by simp,?_,_,J⟩;have ec:(Fd (Bs (n+2) rs))[i]?=some (0-row.getD 0 0):=by unfold Fd;rw[nV,hy];rfl
  rw[Ck ec];exact(hD.keep An (E5 ad ae)).snoc (AR.B7 (q:=0-row.getD 0 0) AU (ae _ _ a3))
 ·rintro ys σ H4 s4 ay a5 ⟨gs,rfl,hG,u,rfl⟩;rw[nh,pY,oB (by rw[ag];lia)]at hG;refine⟨ad,_,J,.inl ⟨AI.of ay,λrt ao=>?_⟩⟩;have s5:=AY ao (.AG (gs.map V.ref));have hR:BB AR (AF H4 rt (.AG (gs.map V.ref))) rt (Fd (Bs (n+2) rs)):=⟨gs,AU,(hG.keep An (Eg H4 ad)).keep An s5⟩;generalize AF H4 rt (.AG (gs.map V.ref))=H5 at s5 hR;have a0:=(s0.trans s4).trans s5;refine⟨by exact Bk,λO av=>⟨by exact Bk,λz2 af=>⟨by exact Bk,λz3 ab=>?_⟩⟩⟩;obtain⟨H6,zg,t1,zz⟩:=nw av (.AG [.int 1,.int 1]);rw[zg]at af ab ⊢;have e1:AR H6 O 1:=zz;obtain⟨H7,zg,t2,zz⟩:=nw af (.AG [.int 0,.int 1]);rw[zg]at ab ⊢;have e2:AR H7 z2 0:=zz;refine BF ab (.AG [.ref O,.ref z2]) λH8 t3 e3=>?_
  have ac:=a0.trans ((t1.trans t2).trans t3);refine⟨_,J,t,Bs (n+2) rs,n,J,⟨bs,ac _ _ ha,hA.keep HJ ac⟩,sq,by lia,λpt H9 s9 hP=>?_⟩;refine⟨_,J,pt,rt,Et (Bs (n+2) rs),Fd (Bs (n+2) rs),n,_,_,_,J,hP,Fb (R:=AR) (λs h=>An s h) (((t1.trans t2).trans t3).trans s9) hR,ht.1,ag,ht.2,k.tk,λz=>absurd z k.ne,λ_ pa aj x am hx hX=>?_⟩;have ah:=k.mV hx;obtain⟨xs,aq,ai⟩:=hX;have aa:=s9.trans am;have ak:=(s1.trans ac).trans aa;have a1:At AR aj ([O,z2]++xs) (1 :: 0 :: (og n).map x):=by
   refine At.OD (xs:=[1,0]) (At.snoc (bs:=[O]) (xs:=[1]) (At.snoc (bs:=[]) (xs:=[]) At.nil ?_) ?_) ai
   ·exact((t2.trans t3).trans aa) _ _ e1
   ·exact(t3.trans aa) _ _ e2
  rw[<-X5]at a1;have lx:xs.length=n:=by rw[ai.1];simp
  refine⟨z3,pa,[.ref O,.ref z2],xs.map V.ref,J,J,AH.of (aa _ _ e3),AH.of aq,by simp,by rw[nh];exact Dk (by simp;lia),λz=>?_,λz p hp=>?_⟩
  ·have xe:xs=[]:=aal.mp z;subst xe;exact q z3 aj _ ak ah ⟨[O,z2],aa _ _ e3,a1⟩
  ·have sp:=AY hp (.AG ([.ref O,.ref z2]++xs.map V.ref));exact q p _ _ (ak.trans sp) ah ⟨[O,z2]++xs,by rw[AU];simp,a1.keep An sp⟩
def Mr{t u:L2.TS}{D:DV}{σ:L2.St}{G:L2.St->Hp->Prop}(m:∀U:L2.St->Hp->Prop,(∀σ H,G σ H->U σ H)->t { D with nx:=U} σ H)(r:∀σ H,G σ H->u D σ H):Ka t u D σ H:=m _ r
def Uw(Z:Int)(N c:Nat)(q:Rat):Prop:=∃k:Int,(Z:Rat)*q=k/\k.natAbs<=c*2 ^ N
def Uw.DZ(h:Uw Z N c p)(g:Uw Z N d q):Uw Z N (c+d) (p+q):=by
 obtain⟨k,h1,h2⟩:=h;obtain⟨l,O,F⟩:=g;refine⟨k+l,by rw[xg,<-h1,<-O];grind,?_⟩;rw[xN];exact oC (aaU _ _) (Nat.add_le_add h2 F)
def Uw.Eu(h:Uw Z N c p):Uw Z N c (-p):=by
 obtain⟨k,h1,h2⟩:=h;exact⟨-k,by rw[uT,<-h1];grind,by rw[vT];exact h2⟩
def Uw.sub(h:Uw Z N c p)(g:Uw Z N d q):Uw Z N (c+d) (p-q):=by
 rw[Rat.sub_eq_add_neg];exact h.DZ g.Eu
def Uw.mono(h:Uw Z N c p)(e:c<=d):Uw Z N d p:=by
 obtain⟨k,h1,h2⟩:=h;exact⟨k,h1,oC h2 (um _ e)⟩
def Uw.zero(Z:Int)(N:Nat):Uw Z N 0 0:=⟨0,by rw[xj];rfl,by simp⟩
def Uw.sf{q:Rat}(h:Uw Z N c q)(F:Z≠0){z:Nat}(hz:Z.natAbs<=2 ^ z)(O:c<=64)(hN:N+6<=3900)(z3:z<=3900:=by decide):Sf q:=by
 obtain⟨k,h1,h2⟩:=h;refine Jx F h1 (oC h2 ?_) (oC hz (pk (by decide) (by lia)))
 have:c*2 ^ N<=2 ^ (N+6):=by rw[vE,vN];exact rA _ O
 exact oC this (pk (by decide) (by lia))
structure MI(n:Nat)(rs:List AX)(X:Nat->Rat)(Z:Int)(N:Nat):Prop where
 z0:Z≠0
 zl:Z.natAbs<=2 ^ 3900
 nl:N+6<=3900
 hs:∀j,j<n+2->Sf (X j)
 fs:∀r∈rs,Sf (X r.1-X r.2.1)
 es:∀r∈rs,Sf r.2.2
 ru:∀r∈rs,Uw Z N 1 (Au X r)
def Eb.Nl(k:CO n m α β rs)(h:Eb n ((8+β*m+α)*n) rs X):∃Z N,MI n rs X Z N:=by
 obtain⟨W,w0,wl,O⟩:=h.wh;have bd:=k.hb.bd;have bm:∀r∈rs,β<=β*m:=λr F=>by
  have:0<rs.length:=rO F
  have:=k.len
  exact uO _ (by lia)
 generalize (8+β*m+α)*n=B at *;have hd:=k.den;have hp:=Jt rs;have aa:∀r∈rs,∃c:Int,(W:Rat)*(X r.1-X r.2.1)=c/\c.natAbs<=2 ^ (B+1):=λr F=>by
  obtain⟨a1,a2,a3⟩:=k.CN r F;obtain⟨x,e1,l1⟩:=O _ a1;obtain⟨y,e2,l2⟩:=O _ a2;exists x-y,by rw[uU,<-e1,<-e2];grind
  have:=wc x y
  rw[tN];lia
 refine⟨W*(Cu rs:Int),β*m+α+(B+1),rR w0 (by lia),?_,by lia,λj hj=>?_,λr F=>?_,λr F=>?_,λr F=>?_⟩
 ·rw[pA,oW];exact oC (Ce wl hd) (pk (by decide) (by lia))
 ·obtain⟨c,e,l⟩:=O j hj;exact(Jx w0 e l wl).mono (by lia) (by lia)
 ·obtain⟨c,e,l⟩:=aa r F;exact(Jx w0 e l wl).mono (by lia) (by lia)
 ·have:=bm r F
  exact(k.CN r F).2.2.mono (by lia) (by lia)
 ·obtain⟨c,e,l⟩:=aa r F;obtain⟨v,hv⟩:=PD (Ml F);exists v*c,?_
  ·rw[pj,pj,<-hv,<-e,ic];unfold Au;grind
  ·have ab:Ab ((2 ^ (β*m):Nat):Rat) ((Cu rs:Nat):Rat):=JD (x:=(Cu rs:Int)) (by rw[oW];exact hd);have vb:=ab.Ew (k.CN r F).2.2.vb;rw[hv,<-Rat.natCast_mul,<-Nat.pow_add]at vb;rw[pA,uZ];exact Ce (GL vb) l
def MI.Ct(s:MI n rs X Z N)(i:Nat){r:AX}(F:r∈rs):Uw Z N 2 (Ct X i r):=by
 have h:=s.ru r F
 have:∀c:Prop,[Decidable c]->Uw Z N 1 (if c then Au X r else 0):=λc _=>by
  by_cases e:c
  ·rw[nX e];exact h
  ·rw[nS e];exact(Uw.zero Z N).mono (by lia)
 exact(this _).sub (this _)
def Oa{r:AX}(e:rs[k]?=some r):A8 X (rs.take (k+1)) i=A8 X (rs.take k) i+Wd.Ct X i r:=by
 unfold A8;rw[Ck e,oh,sN];simp only[n9,p9,oJ,qV,xf]
def MI.sum(s:MI n rs X Z N)(i:Nat):∀k,k<=rs.length->Uw Z N (2*k) (A8 X (rs.take k) i):=by
 intro k
 induction k with
 |zero=>intro _;exact Uw.zero Z N
 |succ k ih =>
  intro F;have e:rs[k]?=some rs[k]:=nj F;rw[Oa e,rM];exact(ih (by lia)).DZ (s.Ct i (pX _))
def Jv(X:Nat->Rat)(h:i<n):((og n).map X)[i]?=some (X i):=by
 rw[nV,qk h];rfl
inductive Kg(H:Hp)(b:Addr)(l:List Rat):Prop
 |l (h:DC AR H b l)
 |t (h:BB AR H b l)
def VZ(s:AO H H'):Kg H b l->Kg H' b l
 |.l h=>.l (ND (R:=AR) (λs h=>An s h) s h)
 |.t h=>.t (Fb (R:=AR) (λs h=>An s h) s h)
def Kg.ix{l}(h:Kg H b l)(e:l[i]?=some q)(k:∀c,AR H c q->Q (.ref c) H):FN [] (.ref b) (.int (i:Int)) H Q\/GZ [] (.ref b) (.int (i:Int)) H Q:=by
 rcases h with ⟨bs,O,F⟩|⟨bs,O,F⟩
 ·obtain⟨c,h1,g1⟩:=F.get e;exact .inl ⟨b,_,_,_,J,J,AI.of O,BQ (C9 h1),k c g1⟩
 ·obtain⟨c,h1,g1⟩:=F.get e;exact .inr ⟨b,_,_,_,J,J,AH.of O,BQ (C9 h1),k c g1⟩
inductive QA(vs:List V)(H:Hp)(Q:VK)(_:XK):Prop
 |mk (a b:Addr) (r:AX) (n:Nat) (X:Nat->Rat) (ae:vs=[.ref a,.ref b]) (ab:Bw H a r) (F:Kg H b ((og n).map X)) (ac:r.1<n) (ad:r.2.1<n) (aa:Sf (X r.1)) (af:Sf (X r.2.1)) (O:N3 H Q (X r.1-X r.2.1))
def l8:Ar ["rope","levels"] ["rope","levels"] (Ah sFallOf):=Ay
def fj(F:Ak K "fall_of" "fall_of" sFallOf f fd)(G:AZ P w K mg base 3 "minus" ["one","other"] (CY λx y=>x-y)):
  Ag P w K mg base Ap 4 f fd ["rope","levels"] QA:=by
 refine F.A1 l8 λim A _ s H vs Q E hr h=>?_
 obtain⟨a,b,r,n,X,rfl,⟨e,O,he⟩,hL,r1,r2,s1,s2,q⟩:=h;exists _,AS (Ai (AV G (AA (A6 (CJ.or Bl) (pv 1) (A6 Bl (pv 0) AB)) (AA (A6 (CJ.or Bl) (pv 1) (A6 Bl (pv 0) AB)) AD))));exact⟨_,J,_,J,a,_,_,_,J,J,AH.of O,GY _ _ _,hL.ix (Jv X r1) λc1 g1=>⟨_,J,_,J,a,_,_,_,J,J,AH.of O,Eo _ _ _,hL.ix (Jv X r2) λc2 g2=>⟨c1,c2,_,_,J,g1,g2,s1,s2,q⟩⟩⟩
inductive Px(vs:List V)(H:Hp)(Q:VK)(_:XK):Prop
 |mk (a b:Addr) (n:Nat) (rs:List AX) (X:Nat->Rat) (ad:vs=[.ref a,.ref b]) (aa:JP H a n rs) (F:Kg H b ((og n).map X)) (ab:rs.length<=100) (ac:(∀r∈rs,r.1<n/\r.2.1<n/\Sf (X r.1)/\Sf (X r.2.1)/\Sf (X r.1-X r.2.1)/\Sf r.2.2)) (O:∀p H',AO H H'->BB AR H' p (rs.map (Au X))->Q (.ref p) H')
def kc:Ar ["net","levels"] ["net","levels"] (Ah sRunBy):=Ay
def lF:(["rope","levels"]:List Str).Nodup:=by decide +kernel
def ZY (F:Ak K "runnings_by" "runnings_by" sRunBy f fd)(G1:AZ P w K mg base 3 "times" ["one","other"] (CY λx y=>x*y))
  (G2:AZ P w K mg base 4 "fall_of" ["rope","levels"] QA)(mt:mg "tuple" = none) :
  Ag P w K mg base Ap 5 f fd ["net","levels"] Px:=by
 refine F.A1 kc λim A _ s H vs Q E hr h=>?_
 obtain⟨a,b,n,rs,X,rfl,⟨ra,tv,ha,bs,ab,ac⟩,hL,hm,ag,q⟩:=h;exists _,AS (Ai (EG GI (by rfl) mt EH (AA (DR (Nc:=["rope","levels"]) (cap:=[(1,1)]) (g:=BU 0) (te:=Dt (CY λx y=>x*y) [] E0 (BO (Bb (GZ []) (Aw 0) (tC (.int 2))) (BO (Dt QA [] E0 (BO (Aw 0) (BO (Aw 1) CI))) CI))) rfl (Di (A6 Bl (pv 0) AB))
   CU (λ_ _ _ _ _=>B8 (i:=0) lF rfl (qr rfl))
   (λ_ _ _ _ _=>AV G1 (AA (A6 Bl (pv 0) AB) (AA (AV G2 (AA (pv 0) (AA (pv 1) AD))) AD)))) AD)))
 have lb:bs.length=rs.length:=ac.1;refine⟨_,J,a,_,_,_,J,J,AH.of ha,Eo _ _ _,ra,J,⟨_,AH.of ab⟩,λaa af=>?_⟩;refine Cm (IF ab) (by rw[nh];lia) af (λi ys σ O=>∃ds:List Addr,ys=ds.map V.ref/\At AR O ds ((rs.map (Au X)).take i)/\∃u,σ=[u,some (.ref b)]) ⟨[],J,At.nil,none,J⟩ ?_ ?_
 ·rintro i ys σ H3 x H4 hi sm ae ⟨ds,rfl,hD,u,rfl⟩ ⟨rfl,hx⟩ Cc hC;obtain⟨c,r,rfl,_,hy,e,hc,he⟩:=ac.ref hx;obtain⟨r1,r2,s1,s2,s3,s4⟩:=ag r (nz hy);refine⟨_,J,c,_,_,_,J,J,AH.of (sm _ _ hc),FF _ _ _,_,J,_,J,c,b,r,n,X,J,⟨e,sm _ _ hc,sm _ _ he⟩,VZ sm hL,r1,r2,s1,s2,λp O=>?_⟩;refine EW O (X r.1-X r.2.1) λH5 sp hf=>?_
  refine⟨e,p,_,_,J,sp _ _ (sm _ _ he),hf,s4,s3,λp2 ai=>?_⟩;have ah:=AY ai (.AG [.int (r.2.2*(X r.1-X r.2.1)).num,.int (r.2.2*(X r.1-X r.2.1)).den]);have sA:=sp.trans ah;refine hC _ _ _ sA ⟨ds++[p2],by simp,?_,_,J⟩;have ec:(rs.map (Au X))[i]?=some (Au X r):=by rw[nV,hy];rfl
  rw[Ck ec];exact(hD.keep An (E5 aa sA)).snoc (AR.B7 (q:=Au X r) AU (sA _ _ ae))
 ·rintro ys σ H4 s4 ad aj ⟨gs,rfl,hG,u,rfl⟩;rw[nh,lb,oB (by rw[nh];exact nQ _)]at hG;refine⟨aa,_,J,.inl ⟨AI.of ad,λp O=>?_⟩⟩;have sp:=AY O (.AG (gs.map V.ref));exact q p _ (s4.trans sp) ⟨gs,AU,(hG.keep An (Eg H4 aa)).keep An sp⟩
inductive U3(vs:List V)(H:Hp)(Q:VK)(_:XK):Prop
 |mk (a:Addr) (n m α β:Nat) (rs:List AX) (ab:vs=[.ref a]) (O:JP H a (n+2) rs) (F:CO n m α β rs) (aa:∀p H' X,AO H H'->Eb n ((8+β*m+α)*n) rs X->BB AR H' p (rs.map (Au X))->Q (.ref p) H')
def lN:Ar ["net"] ["net"] (Ah sRunnings):=Ay
def Xp (F:Ak K "runnings" "runnings" sRunnings f fd)(G1:AZ P w K mg base 5 "runnings_by" ["net","levels"] Px)
  (G2:AZ P w K mg base 5 "heights" ["net"] QX) :
  Ag P w K mg base Ap 6 f fd ["net"] U3:=by
 refine F.A1 lN λim A _ s H vs Q E O h=>?_
 obtain⟨a,n,m,α,β,rs,rfl,hN,k,q⟩:=h;exists _,AS (Ai (AV G1 (AA (pv 0) (AA (AV G2 (AA (pv 0) AD)) AD))));refine⟨_,J,_,J,a,n,m,α,β,rs,J,hN,k,λp H1 X s1 hX hT=>?_⟩;obtain⟨Z,N,z⟩:=hX.Nl k;have aa:rs.length<=16:=oC k.len k.hb.Kn;exact⟨a,p,n+2,rs,X,J,Ur s1 hN,.t hT,by lia,λr O=>⟨(k.CN r O).1,(k.CN r O).2.1,z.hs _ (k.CN r O).1,z.hs _ (k.CN r O).2.1,z.fs r O,z.es r O⟩,λp2 H2 s2 h2=>q p2 H2 X (s1.trans s2) hX h2⟩
inductive SQ(vs:List V)(H:Hp)(Q:VK)(_:XK):Prop
 |mk (a:Addr) (n m α β:Nat) (rs:List AX) (ab:vs=[.ref a]) (O:JP H a (n+2) rs) (F:CO n m α β rs) (aa:∀p H' X,AO H H'->Eb n ((8+β*m+α)*n) rs X->AR H' p (A8 X rs 0)->Q (.ref p) H')
def KW:Ar ["net","ease","rope","running"] ["net"] (Ah sEaseOf):=Ay
def ZD (F:Ak K "ease_of" "ease_of" sEaseOf f fd)(G1:AZ P w K mg base 3 "plus" ["one","other"] (CY λx y=>x+y))
  (G2:AZ P w K mg base 3 "minus" ["one","other"] (CY λx y=>x-y))
  (G3:AZ P w K mg base 6 "runnings" ["net"] U3)(mz:mg "zip" = none) :
  Ag P w K mg base Ap 7 f fd ["net"] SQ:=by
 refine F.A1 KW λim A _ s H vs Q E hr h=>?_
 obtain⟨a,n,m,α,β,rs,rfl,hN,k,q⟩:=h;exists _,AL (AW 1 KW (BS (AA AB (AA AB AD))))
  (AL (Bg oE rfl (Mq (t1:=true) (t2:=true) (by rfl) mz (AA (A6 Bl (pv 0) AB) (AA (AV G3 (AA (pv 0) AD)) AD))) (Cp rfl (BH (Az 2 KW) (BH (Az 3 KW) Cn)))
   (AL (BL (BP DX (A6 Bl (pv 2) AB) AB) (AS (AW 1 KW (AV G1 (AA (pv 1) (AA (pv 3) AD))))) BR)
   (AS (BL (BP DX (A6 Bl (pv 2) AB) AB) (AS (AW 1 KW (AV G2 (AA (pv 1) (AA (pv 3) AD))))) BR))))
  (AS (Ai (pv 1))))
 have ax:rs.length<=16:=oC k.len k.hb.Kn;refine⟨by exact Bk,λz1 ar=>?_⟩;refine BF ar (.AG [.int 0,.int 1]) λH1 t1 zz=>?_
 have e1:AR H1 z1 0:=zz;obtain⟨ra,tv,ha,bs,ak,ap⟩:=id hN;refine⟨_,J,a,_,_,_,J,J,AH.of (t1 _ _ ha),Eo _ _ _,_,J,a,n,m,α,β,rs,J,Ur t1 hN,k,λpr H2 X s2 hX hR=>?_⟩;obtain⟨Z,N,z⟩:=hX.Nl k;obtain⟨cs,aj,ah⟩:=hR;have aa:=t1.trans s2;exists ra,pr,J,⟨_,Bm.t (aa _ _ ak)⟩,⟨_,Bm.t aj⟩;have lb:bs.length=rs.length:=ap.1;have lc:cs.length=rs.length:=by rw[ah.1,nh]
 refine Z9 (xs:=bs.map V.ref) (ys:=cs.map V.ref) rs.length (by rw[nh,nh];lia) (λi σ H3=>AO H2 H3/\∃(e:Addr) (u v:Option V),σ=[some (.ref a),some (.ref e),u,v]/\AR H3 e (A8 X (rs.take i) 0))
  ⟨AO.refl _,z1,none,none,J,s2 _ _ e1⟩ (λi σ H3 _ ⟨O,_⟩=>⟨Bm.t (O _ _ (aa _ _ ak)),Bm.t (O _ _ aj)⟩) ?_ ?_
 ·rintro i x y σ H3 p hx hy ⟨O,e,u,v,rfl,he⟩ hp;obtain⟨c,r,rfl,_,ab,ea,hc,ay⟩:=ap.ref hx;obtain⟨d,q0,rfl,_,ai,hd⟩:=ah.ref hy;have au:q0=Au X r:=by rw[nV,ab]at ai;exact(oy ai).symm
  subst au;have rm:=nz ab;have ik:i<rs.length:=(nq.mp ab).1;refine BF hp (.AG [.ref c,.ref d]) λH4 s4 h4=>?_
  exists p,_,J,AH.of h4,J,_,_,J,_,_,J,rfl;have us:=z.sum 0 i (by lia);have ur:=z.ru r rm;have ag:Sf (A8 X (rs.take i) 0):=us.sf z.z0 z.zl (by lia) z.nl;have al:Sf (Au X r):=ur.sf z.z0 z.zl (by lia) z.nl;have ad:=(aa.trans (O.trans s4)) _ _ hc;have ao:=(O.trans s4) _ _ hd;have ae:=s4 _ _ he;have am:=O.trans s4;have ac:=Oa (X:=X) (i:=0) ab;unfold Wd.Ct at ac;refine Mr (t:=Nq _ _ _) (G:=λσ H5=>AO H4 H5/\∃e5:Addr,σ=[some (.ref a),some (.ref e5),some (.ref c),some (.ref d)]/\AR H5 e5 (A8 X (rs.take i) 0+(if 0=r.1 then Au X r else 0))) (λU af=>?_) ?_
  ·exists _,J,c,_,_,_,J,J,AH.of ad,GY _ _ _,J,_,rfl;by_cases c1:r.1=0
   ·exact C3 (iv (by lia)) ⟨_,J,_,J,e,d,_,_,J,ae,ao,ag,al,λp5 av=>af _ _ ⟨AY av _,p5,J,by rw[nX c1.symm];exact AU⟩⟩
   ·exact CH (EB (by lia)) (af _ _ ⟨AO.refl _,e,J,by rw[nS (λz=>c1 z.symm),xf];exact ae⟩)
  ·rintro σ H5 ⟨s5,e5,rfl,h5⟩;have aq:Sf (A8 X (rs.take i) 0+(if 0=r.1 then Au X r else 0)):=by
    by_cases c1:0=r.1
    ·rw[nX c1];exact(us.DZ ur).sf z.z0 z.zl (by lia) z.nl
    ·rw[nS c1,xf];exact ag
   exists _,J,c,_,_,_,J,J,AH.of (s5 _ _ ad),Eo _ _ _,J,_,rfl;by_cases c2:r.2.1=0
   ·refine C3 (iv (by lia)) ⟨_,J,_,J,e5,d,_,_,J,h5,s5 _ _ ao,aq,al,λp6 aw=>?_⟩;exists am.trans (s5.trans (AY aw _)),p6,_,_,rfl;rw[ac,nX c2.symm,show ∀x y w:Rat,x+(y-w)=x+y-w from λx y w=>by grind];exact AU
   ·refine CH (EB (by lia)) ⟨am.trans s5,e5,_,_,J,?_⟩;rw[ac,show(if 0=r.2.1 then Au X r else 0)=0 from nS (λz=>c2 z.symm),show ∀x y:Rat,x+(y-0)=x+y from λx y=>by grind];exact h5
 ·rintro σ H3 ⟨O,e,u,v,rfl,he⟩;rw[qc]at he;exact⟨_,J,q e H3 X (aa.trans O) hX he⟩
end
end My
namespace My
open PySem L2 Mth
variable {T f:Addr}{fd:qy}{H H':Hp}{c x y:Int}{R ts us:List (List Int)}{cs:List Addr}{u:List Int}{hs:List Nat}{rs:List AX}{i p:Nat}
section
variable {P:o6}{w:World}{K:nT}{mg:Str->Option Value}{base:Heap}
inductive V2(vs:List V)(H:Hp)(Q:VK)(_:XK):Prop
 |mk (e:Int) (O:vs=[.int e]) (F:Q (.int (AN e)) H)
def kn:Ar ["end"] ["end"] (Ah sOther):=Ay
def Zv(F:Ak K "other_end" "other_end" sOther f fd):Ag P w K mg base Ap 1 f fd ["end"] V2:=by
 refine F.A1 kn λim A _ s H vs Q E O h=>?_
 obtain⟨e,rfl,q⟩:=h;exists _,AS (Ai (Sx (BP DX (AM B9 (pv 0) AB) AB) (AM BK (pv 0) AB) (AM C7 (pv 0) AB)));refine⟨_,J,_,_,J,J,(show(0:Int)<2 by decide),J,_,J,?_⟩;unfold AN at q;by_cases h:e%2=0
 ·rw[nX h]at q;exact C3 (iv h) ⟨_,J,_,_,J,J,q⟩
 ·rw[nS h]at q;exact CH (EB h) ⟨_,J,_,_,J,J,q⟩
inductive UG(vs:List V)(H:Hp)(Q:VK)(_:XK):Prop
 |mk (a:Addr) (bs:List Addr) (ts:List (List Int)) (n:Nat) (ac:vs=[.ref a]) (O:JZ H a bs ts) (F:CS n ts) (aa:n<=1000) (ab:∀d H',AO H H'->H d=none->H' d=some (.dK (BI (A2 ts)))->Q (.ref d) H')
def U4(K:nT):TS:=Ka (JT U5 (BU 1)) (Ka (QZ (Qu [] (Aw 0)) (BU 2) (QZ (V9 (BO (Aw 2) CI)) (JY [] 2 (HM (BU 3) (HM (BU 4) Ly)))
 (Vc (Aw 1) (Aw 4) (Bb (GZ []) (Aw 2) (Bb (FR λi j=>.int (i-j)) (Aw 3) (tC (.int 1))))))) (Qp (Aw 1)))
def Zb(O:JZ H a bs ts)(T:CS n ts)(hn:n<=1000)(q:∀d H',AO H H'->H d=none->H' d=some (.dK (BI (A2 ts)))->Q (.ref d) H'):
  U4 K { nx:=nx,rt:=Q} [some (.ref a),none,none,none,none] H:=by
 intro d hd
 try dsimp only
 try refine DG ?_
 first|refine DF λai ae=>?_|refine nx_hide λai ae=>?_
 exists _,J,a,J,⟨_,AH.of (AY hd _ _ _ O.1)⟩;refine ID (xs:=bs.map V.ref) (λi σ H2=>∃t k e,σ=[some (.ref a),some (.ref d),t,k,e]/\AO H H2/\H2 d=some (.dK (BI (A2 (ts.take i))))) ⟨none,none,none,J,AY hd _,AU⟩ (λi σ H2 _ ⟨_,_,_,_,s,_⟩=>AH.of (s _ _ O.1)) ?_ ?_
 ·rintro i x σ H2 hx ⟨t0,k0,e0,rfl,sm,ad⟩;obtain⟨b,row,rfl,hb,aa⟩:=Uq O.2.1 hx;have hB:=sm _ _ (O.2.2 i b row hb aa)
  try dsimp only
  try refine DG ?_
  first|refine DF λal ag=>?_|refine nx_hide λal ag=>?_
  exists _,J,b,_,J,hB;refine K4 (xs:=row.map V.int) (λj σ F=>∃k e,σ=[some (.ref a),some (.ref d),some (.ref b),k,e]/\AO H F/\F d=some (.dK (BI (A2 (ts.take i)++(BD row).take j)))) ⟨k0,e0,J,sm,by rw[xC,qE];exact ad⟩
   (λj σ F _ ⟨_,_,_,s,_⟩=>s _ _ (O.2.2 i b row hb aa)) ?_ ?_
  ·rintro j x σ F p aj ⟨k1,e1,rfl,ac,ab⟩ hp;obtain⟨e,rfl,he⟩:=int_at aj;have hj:j<row.length:=(nq.mp he).1;have ah:AO H (AF F p (.AG [.int j,.int e])):=ac.trans (AY hp _);have ak:(AF F p (.AG [.int j,.int e])) d=some (.dK (BI (A2 (ts.take i)++(BD row).take j))):=AY hp _ _ _ ab;have af:(A2 (ts.take i)++(BD row).take j).map (·.1)=(ts.take i).flatten++row.take j:=by
    rw[oh,GF,yf,Ju]
   have fr:e∉(A2 (ts.take i)++(BD row).take j).map (·.1):=by rw[af];exact MT T.nd aa he
   have ln:(BI (A2 (ts.take i)++(BD row).take j)).length<oK:=by
    have l1:=congrArg tq af;rw[nh]at l1;have l2:((ts.take i).flatten++row.take j).length<=n:=by
     rw[<-T.len];have e1:ts=ts.take i++ts.drop i:=(qN i ts).symm;have hd:ts.drop i=row :: ts.drop (i+1):=by
      obtain⟨hi,q1⟩:=nq.mp aa;rw[<-q1,qY]
     have e2:ts.flatten.length=(ts.take i).flatten.length+(row.length+(ts.drop (i+1)).flatten.length):=by
      conv=>lhs;rw[e1,hd]
      rw[pW,oQ,oa,oa]
     rw[e2,oa,pS]
     lia
    rw[nh,l1];exact DD (by lia)
   exists p,_,J,AH.of AU,J,_,_,J,_,_,J,rfl;exists _,J,_,J,_,_,J,J,b,_,_,_,J,J,AH.of (ah _ _ (O.2.2 i b row hb aa)),Tn hj,_,J,_,J,d,_,J,D6.k (k:=oX e) ak ln;exists _,_,J,ah.up hd _;rw[AU,I0 fr,p7];have rp:(BD row)[j]?=some (e,E9 row j):=by
    unfold BD;rw[nV,qk hj];show some (row.getD j 0,E9 row j)=_;rw[nO,he];rfl
   rw[EF rp]
  ·rintro σ F ⟨k1,e1,rfl,ac,ab⟩;subst ag;exists _,_,_,J,ac;rw[ab,EF aa,RP,nh,show(BD row).take row.length=BD row from oB (by rw[Oh];exact nQ _)]
 ·rintro σ H2 ⟨t0,k0,e0,rfl,sm,ad⟩;subst ae;refine⟨_,J,q d H2 sm hd ?_⟩;rw[ad,nh,oB (by rw[O.2.1];exact nQ _)]
def Lo:Ar ["turns","ahead","turn","k","end"] ["turns"] (Ah sAhead):=Ay
def Zd(F:Ak K "ends_ahead" "ends_ahead" sAhead f fd)(O:mg "enumerate" = none):Ag P w K mg base Ap 1 f fd ["turns"] UG:=by
 refine F.A1 Lo λim A _ s H vs Q E hr h=>?_
 obtain⟨a,bs,ts,n,rfl,hT,T,hn,q⟩:=h;have hu:=Fl hr;refine⟨U4 K,AL (AW 1 Lo Mb)
  (AL (Bg oE rfl (Di (pv 0)) (Az 2 Lo)
   (AS (Bg oE rfl (LL (by rfl) O (AA (pv 2) AD)) (Cp rfl (BH (Az 3 Lo) (BH (Az 4 Lo) Cn)))
    (AS (Gv hu (pv 1) (pv 4) (A6 Bl (pv 2) (AM C7 (pv 3) AB)) rfl)))))
  (AS (Ai (pv 1)))),Zb hT T hn q⟩
inductive VQ(vs:List V)(H:Hp)(Q:VK)(_:XK):Prop
 |mk (s:Int) (d:Addr) (ts:List (List Int)) (n:Nat) (ad:vs=[.int s,.ref d]) (aa:H d=some (.dK (BI (A2 ts)))) (F:CS n ts) (ab:n<=1000) (ac:AJ n s) (O:∀p H',AO H H'->H p=none->H' p=some (.AG ((Bq (AQ ts) s).map V.int))->Q (.ref p) H')
def Nn:Ar ["start","ahead","ring","end"] ["start","ahead"] (Ah sRingFrom):=Ay
def Xo(F:Ak K "ring_from" "ring_from" sRingFrom f fd)(G:AZ P w K mg base 1 "other_end" ["end"] V2)(mt:mg "tuple" = none):
  Ag P w K mg base Ap 2 f fd ["start","ahead"] VQ:=by
 refine F.A1 Nn λim A _ s H vs Q E hr h=>?_
 obtain⟨O,d,ts,n,rfl,hd,T,hn,hs,q⟩:=h;have hu:=Fl hr;have PM:=T.By;have PE:=Gy PM hs;exists _,AL (AW 2 Nn (CG (AA (pv 0) AD)))
  (AL (AW 3 Nn (F9 hu (pv 1) (AV G (AA (pv 0) AD))))
  (AL (Hy oE (BP Fj (pv 3) (pv 0))
   (AL (DH (CL oF pJ pK D1 (pv 2) (AA (pv 3) AD)))
    (AS (AW 3 Nn (F9 hu (pv 1) (AV G (AA (pv 3) AD)))))))
  (AS (Ai (EG GI (by rfl) mt EH (AA (pv 2) AD))))))
 refine⟨_,J,by exact ED,λl hl=>?_⟩;exists _,J,_,J,O,J,d,_,J,LG (AY hl _ _ _ hd) (T.LQ hs);refine Hu (λσ H2=>∃j,1<=j/\j<=Be (AQ ts) O/\σ=[some (.int O),some (.ref d),some (.ref l),some (.int (A4 (AQ ts) j O))]/\AO H H2/\H2 l=some (.AE ((DB (AQ ts) O j).map V.int)))
  (λ_ H2=>match H2 l with|some (.AE xs)=>Be (AQ ts) O-xs.length|_=>0) ⟨1,nQ _,PE.1,J,AY hl _,AU⟩ ?_ ?_
 ·rintro σ H2 ⟨j,j1,j2,rfl,sm,aa⟩;exists _,J,_,J,J,_,rfl;by_cases he:A4 (AQ ts) j O=O
  ·refine GP (iv he) ?_;have hj:j=Be (AQ ts) O:=by
    rcases oM j (Be (AQ ts) O)with z|z
    ·exact absurd he (PE.2.2 j j1 z)
    ·lia
   subst hj;refine⟨_,J,l,_,J,.inl ⟨AI.of aa,λp hp=>?_⟩⟩;exact q p _ (sm.trans (AY hp _)) (sm.free hp) AU
  ·refine KL (EB he) ?_;have hj:j<Be (AQ ts) O:=by
    rcases oM j (Be (AQ ts) O)with z|z
    ·exact z
    ·exact absurd (by rw[show j=Be (AQ ts) O by lia];exact PE.2.1) he
   have ad:=U6 PM hs;have ac:(DB (AQ ts) O j).length=j:=Oc;refine⟨_,J,.inl ⟨J,_,AI.of aa⟩,_,J,l,_,_,J,J,aa,by rw[nh,ac];exact DD (by lia),?_⟩;have ab:=sm.up hl (.AE ((DB (AQ ts) O j).map V.int++[.int (A4 (AQ ts) j O)]));exists _,J,_,J,_,J,d,_,J,LG (ab _ _ hd) (T.LQ (D5 PM hs j));exists ⟨j+1,by lia,hj,J,ab,?_⟩
   ·rw[AU,RR,oh];rfl
   ·rw[AU,aa];show Be (AQ ts) O-((DB (AQ ts) O j).map V.int++[V.int (A4 (AQ ts) j O)]).length<Be (AQ ts) O-((DB (AQ ts) O j).map V.int).length;rw[oa,nh,ac,qF]
    lia
 ·rintro σ H2 Q1 Q2 hq ⟨v,e,v',e',sc,b,eb,z⟩;exact⟨v,e,v',e',sc,b,eb,hq _ _ z⟩
def IJ(H:Hp)(bs:List Addr)(R:List (List Int)):Prop:=bs.length=R.length/\∀(i:Nat) (b:Addr) (row:List Int),bs[i]?=some b->R[i]?=some row->H b=some (.AG (row.map V.int))
def IJ.snoc(h:IJ H bs R)(s:∀c ys,H c=some (.AG ys)->H' c=some (.AG ys))(hb:H' b=some (.AG (row.map V.int))):IJ H' (bs++[b]) (R++[row]):=by
 refine⟨by rw[oa,oa,h.1];rfl,λi c r F O=>?_⟩;rcases oM i bs.length with z|z
 ·rw[oH z]at F;rw[oH (by rw[<-h.1];exact z)]at O;exact s _ _ (h.2 i c r F O)
 ·have hi:i<bs.length+1:=by
   have:=(nq.mp F).1
   rw[oa]at this;exact this
  have aa:i=bs.length:=by lia
  subst aa;rw[oo (nQ _),tP]at F;rw[h.1,oo (nQ _),tP]at O;cases F;cases O;exact hb
def IJ.keep(h:IJ H bs R)(s:∀c ys,H c=some (.AG ys)->H' c=some (.AG ys)):IJ H' bs R:=⟨h.1,λi b r O F=>s _ _ (h.2 i b r O F)⟩
def Bn.AG{x:Addr}(h:Bn x H H')(F:∀ys,H x≠some (.AG ys)):∀c ys,H c=some (.AG ys)->H' c=some (.AG ys):=λc ys e=>h c _ (λz=>F ys (z ▸ e)) e
def SN(F:II φ n)(hi:i<=n):(A7 φ i).flatten.length<=n/\(A7 φ i).length<=n:=by
 have L:=Ho F i hi;have aa:∀x∈(A7 φ i).flatten,AJ n x:=λx hx=>by
  obtain⟨r,O,hx⟩:=oI.mp hx;obtain⟨s,hs,_,e,_⟩:=L.of r O;subst e;exact LH F hs hx
 have h1:=IG n _ L.nd aa;refine⟨h1,oC ?_ h1⟩
 have:∀R:List (List Int),(∀r∈R,1<=r.length)->R.length<=R.flatten.length:=by
  intro R
  induction R with
  |nil=>intro _;exact nQ _
  |cons r R ih =>
   intro h;have h2:=ih λr' ab=>h r' (oY _ ab)
   have h3:=h r (qh ..);rw[oQ,oa,oP]
   lia
 refine this _ λr O=>?_
 obtain⟨s,hs,_,e,_⟩:=L.of r O;subst e;exact rO (Js F hs)
inductive TU(vs:List V)(H:Hp)(Q:VK)(_:XK):Prop
 |mk (a:Addr) (bs:List Addr) (ts:List (List Int)) (n:Nat) (ac:vs=[.ref a]) (O:JZ H a bs ts) (F:CS n ts) (aa:n<=1000) (ab:∀p cs H',AO H H'->H p=none->H' p=some (.AG (cs.map V.ref))->IJ H' cs (A7 (AQ ts) n)->Q (.ref p) H')
def JR:Ar ["turns","ahead","seen","lands","start","ring","end"] ["turns"] (Ah sRings):=Ay
def aL (F:Ak K "rings" "rings" sRings f fd)(G:AZ P w K mg base 1 "ends_ahead" ["turns"] UG)
  (G2:AZ P w K mg base 2 "ring_from" ["start","ahead"] VQ)
  (ml:mg "len" = none)(mr:mg "range" = none)(mt:mg "tuple" = none):Ag P w K mg base Ap 3 f fd ["turns"] TU:=by
 refine F.A1 JR λim A _ s H vs Q E hr h=>?_
 obtain⟨a,bs,ts,n,rfl,hT,T,hn,q⟩:=h;have hu:=Fl hr;have PM:=T.By;exists _,AL (AW 1 JR (AV G (AA (pv 0) AD)))
  (AL (AW 2 JR Mb)
  (AL (AW 3 JR (CG AD))
  (AL (Bg oE rfl (Io (by rfl) mr (AA (Bu Od (by rfl) ml Gx (AA (pv 1) AD)) AD)) (Az 4 JR)
   (AS (BL (IH (MR hu (pv 4) (pv 2)))
    (AL (AW 5 JR (AV G2 (AA (pv 4) (AA (pv 1) AD))))
    (AL (Bg oE rfl (Di (pv 5)) (Az 6 JR) (AS (Gv hu (pv 2) (pv 6) GR rfl)))
    (AS (DH (CL oF pJ pK D1 (pv 3) (AA (pv 5) AD)))))) BR)))
  (AS (Ai (EG GI (by rfl) mt EH (AA (pv 3) AD)))))))
 refine⟨_,J,a,bs,ts,n,J,hT,T,hn,λd H1 s1 nd hd=>?_⟩;intro O ag;refine⟨by exact Gh,λld ab=>?_⟩;have s2:AO H1 (AF H1 O (.dK [])):=AY ag _;have s3:AO (AF H1 O (.dK [])) (AF (AF H1 O (.dK [])) ld (.AE [])):=AY ab _;have ao:d≠O:=BW hd ag;have ah:ld≠O:=λz=>by rw[z,AU]at ab;cases ab
 have a0:d≠ld:=BW (s2 _ _ hd) ab;have au:H O=none:=s1.free ag;have av:H ld=none:=(s1.trans s2).free ab;have a1:(BI (A2 ts)).length=n:=by rw[nh,T.lC]
 try dsimp only
 try refine DG ?_
 first|refine DF λaz ai=>?_|refine nx_hide λaz ai=>?_
 refine⟨_,J,d,_,J,s3 _ _ (s2 _ _ hd),((BI (A2 ts)).length:Int),J,by lia,by lia,?_⟩;rw[show(((BI (A2 ts)).length:Int)).toNat=n by lia];refine Gr (n:=n) (λi σ H2=>∃st rg en cs,σ=[some (.ref a),some (.ref d),some (.ref O),some (.ref ld),st,rg,en]/\AO H H2/\H2 d=some (.dK (BI (A2 ts)))/\H2 O=some (.dK (Kk (A7 (AQ ts) i).flatten)) /\
  H2 ld=some (.AE (cs.map V.ref))/\IJ H2 cs (A7 (AQ ts) i)) ⟨none,none,none,[],J,s1.trans (s2.trans s3),s3 _ _ (s2 _ _ hd),?_,AU,⟨J,λi b row e1 e2=>by simp at e1⟩⟩ ?_ ?_
 ·rw[Ad (qu ah),AU];rfl
 ·rintro i σ H2 hi ⟨st,rg,en,cs,rfl,sm,ae,aa,ac,hR⟩;have ay:AJ n (i:Int):=⟨by lia,by lia⟩;have L:=Ho PM i (by lia);exists _,J,_,J,O,_,J,DL.k (k:=oX ((0:Int)+(i:Nat))) aa,_,rfl;rw[Pj,show(0:Int)+(i:Nat)=(i:Int) by lia];by_cases hm:(i:Int)∈(A7 (AQ ts) i).flatten
  ·rw[nX hm];have e0:=YI hm;refine Bj ⟨_,_,_,cs,J,sm,ae,?_,ac,?_⟩
   ·rw[aa,e0]
   ·rw[e0];exact hR
  ·rw[nS hm];refine D8 ?_;have e1:=YV hm;refine⟨_,J,_,J,(i:Int),d,ts,n,J,ae,T,hn,ay,λr H3 s4 nr af=>?_⟩;have ar:=sm.trans s4;have aw:r≠O:=λz=>by rw[z,aa]at nr;cases nr
   have ll:=SN PM (i:=i+1) (by lia);rw[e1,pW,oa,oa]at ll;simp only[oQ,vt,qE,qF]at ll
   try dsimp only
   try refine DG ?_
   first|refine DF λax al=>?_|refine nx_hide λax al=>?_
   exists _,J,r,J,⟨_,AH.of af⟩;refine ID (xs:=(Bq (AQ ts) i).map V.int) (λk σ H4=>∃en,σ=[some (.ref a),some (.ref d),some (.ref O),some (.ref ld),some (.int (i:Int)),some (.ref r),en]/\Bn O H3 H4/\H4 O=some (.dK (Kk ((A7 (AQ ts) i).flatten++(Bq (AQ ts) i).take k))))
    ⟨en,J,Bn.refl _ _,by rw[xC,qE];exact s4 _ _ aa⟩ (λk σ H4 _ ⟨_,_,sb,_⟩=>AH.of (sb _ _ aw af)) ?_ ?_
   ·rintro k x σ H4 hx ⟨aq,rfl,sb,ad⟩;obtain⟨e,rfl,he⟩:=int_at hx;have fr:e∉(A7 (AQ ts) i).flatten++(Bq (AQ ts) i).take k:=by
     have am:=(Ho PM (i+1) (by lia)).nd;rw[e1]at am;have ap:(A7 (AQ ts) i++[Bq (AQ ts) i])[(A7 (AQ ts) i).length]?=some (Bq (AQ ts) i):=by
      rw[oo (nQ _),tP];rfl
     have:=MT am ap he
     rw[List.take_append_of_le_length (nQ _),qc]at this;exact this
    exists _,J,_,J,O,_,J,D6.k (k:=oX e) ad ?_
    ·rw[nh,oa,pS];exact DD (by lia)
    ·exists _,J,sb.put _;rw[AU,bU fr,p7,EF he]
   ·rintro σ H4 ⟨aq,rfl,sb,ad⟩;subst al;rw[nh,qc] at ad;have aj:H4 ld=some (.AE (cs.map V.ref)):=sb _ _ ah (s4 _ _ ac);refine⟨_,J,.inl ⟨J,_,AI.of aj⟩,_,J,ld,_,_,J,J,aj,by rw[nh,hR.1]; exact DD (by lia  ),?_⟩;have ak:∀c ys,H3 c=some (.AG ys)->(AF H4 ld (.AE (cs.map V.ref++[.ref r]))) c=some (.AG ys):=λc ys e=>by
     have n1:c≠O:=λz=>by rw[z,s4 _ _ aa]at e;cases e
     have n2:c≠ld:=λz=>by rw[z,s4 _ _ ac]at e;cases e
     rw[Ad n2];exact sb _ _ n1 e
    exists _,_,_,cs++[r],J,?_,?_,?_,?_
    ·exact(sb.same ar au).up av _
    ·rw[Ad a0];exact sb _ _ ao (s4 _ _ ae)
    ·rw[Ad (qu ah),ad,e1,pW];simp
    ·rw[AU,oh];rfl
    ·rw[e1];exact(hR.keep λc ys e=>s4 _ _ e).snoc ak (ak _ _ af)
 ·rintro σ H2 ⟨st,rg,en,cs,rfl,sm,ae,aa,ac,hR⟩;subst ai;refine⟨_,J,ld,_,J,.inl ⟨AI.of ac,λp hp=>?_⟩⟩;exact q p cs _ (sm.trans (AY hp _)) (sm.free hp) AU (hR.keep λc ys e=>AY hp _ _ _ e)
def TC:Sp:=λvs H Q _=>∃(a:Addr) (bs:List Addr) (ts:List (List Int)) (n:Nat),vs=[.ref a]/\JZ H a bs ts/\CS n ts/\n<=1000 /\
 ∀p H',AO H H'->H p=none->H' p=some (.AG (((og n).map λe:Nat=>(lk (Ca 0 (A7 (AQ ts) n)) (e:Int)).getD 0).map V.int))->Q (.ref p) H'
def L3:Ar ["turns","numbers","number","ring","end"] ["turns"] (Ah sLandOf):=Ay
def kD:(["end","numbers"]:List Str).Nodup:=by decide +kernel
def Zm(h:R[j]?=some row)(k:Nat):((Ca 0 (R.take j)++(row.take k).map λe=>(e,(j:Int))).map (·.1))=(R.take j).flatten++row.take k:=by
 rw[oh,GG,pO];congr 1;exact abX (λ_=>rfl) _
def Zy(h:R[j]?=some row):Ca 0 (R.take (j+1))=Ca 0 (R.take j)++row.map λe=>(e,(j:Int)):=by
 have F:j<R.length:=(nq.mp h).1;rw[EF h,OV,pS,uF,abD (by lia)]
def aP(h:R[i]?=some row)(j:Nat):((R.take i).flatten++row.take j).length<=R.flatten.length:=by
 obtain⟨hi,q1⟩:=nq.mp h;have O:R=R.take i++row :: R.drop (i+1):=by rw[<-q1,qY,qN]
 have F:R.flatten.length=(R.take i).flatten.length+(row.length+(R.drop (i+1)).flatten.length):=by
  conv=>lhs;rw[O]
  rw[pW,oQ,oa,oa]
 rw[F,oa,pS]
 lia
def ZJ {G:Hp->Prop}(hσ:σ0=[none,some (.ref D)])(hD:H1 D=some (.dK (BI L)))(hl:∀e:Nat,e<n->∃v,lk L e=some v)(hn:n<=1000)(ab:H1 acc=none)
  (ac:∀H2,AO H1 H2->H2 acc=some (.AE (((og n).map λe:Nat=>(lk L (e:Int)).getD 0).map V.int))->G H2) :
  ∃W:Nat->Nat->List V->St->Hp->Prop,(∃m,W 0 m [] σ0 (AF H1 acc (.AE [])))/\∀i m ys F H2,W i m ys F H2 →
  ((GC 0 n).Dm i H2/\G H2)\/((GC 0 n).go i H2/\∀x H3,(GC 0 n).Dp i H2 x H3->BU 0 x F H3 λσ4 H4=>Le (Aw 1) (Aw 0) σ4 H4 λv H5=>H5 acc=some (.AE ys)/\ys.length<oK/\∃m',m' < m/\W (i+1) m' (ys++[v]) σ4 (AF H5 acc (.AE (ys++[v])))):=by
 refine⟨λi m ys F H2=>m=n-i/\i<=n/\AO H1 H2/\H2 acc=some (.AE ys)/\ys=((og i).map λe:Nat=>(lk L (e:Int)).getD 0).map V.int/\∃u,F=[u,some (.ref D)],⟨n,J,pD _,AY ab _,AU,J,none,hσ⟩,?_⟩;rintro i m ys F H2 ⟨rfl,hi,sm,ha,aa,u,rfl⟩;rcases oM i n with O|hge
 ·refine .inr ⟨O,λx H3 yl=>?_⟩;obtain⟨rfl,rfl⟩:=yl;obtain⟨v,hv⟩:=hl i O;refine⟨_,J,_,J,D,.int v,J,?_,ha,?_,n-(i+1),by lia,J,O,?_,AU,?_,_,J⟩
  ·rw[show(0:Int)+(i:Nat)=(i:Int) by lia];exact LG (sm _ _ hD) hv
  ·rw[aa,nh,nh,oR];exact DD (by lia)
  ·exact sm.up ab _
  ·rw[aa,rV,oh,oh,n9,p9,hv];rfl
 ·obtain rfl:i=n:=by lia
  exact .inl ⟨nQ _,ac H2 sm (by rw[ha,aa])⟩
def Y9 (F:Ak K "land_of" "land_of" sLandOf f fd)(G:AZ P w K mg base 3 "rings" ["turns"] TU)
  (ml:mg "len" = none)(mr:mg "range" = none)(mt:mg "tuple" = none)(me:mg "enumerate" = none):Ag P w K mg base Ap 4 f fd ["turns"] TC:=by
 refine F.ok L3 (λvs H Q E h=>?_) (λim A _ s H vs Q E hr h=>?_)
 ·obtain⟨a,bs,ts,n,rfl,_⟩:=h;rfl
 obtain⟨a,bs,ts,n,rfl,hT,T,hn,q⟩:=h;have hu:=Fl hr;have PM:=T.By;have nd:=MX PM;have am:=XW PM;exists _,AL (AW 1 L3 Mb)
  (AL (Bg oE rfl (LL (by rfl) me (AA (AV G (AA (pv 0) AD)) AD)) (Cp rfl (BH (Az 2 L3) (BH (Az 3 L3) Cn)))
   (AS (Bg oE rfl (Di (pv 3)) (Az 4 L3) (AS (Gv hu (pv 1) (pv 4) (pv 2) rfl)))))
  (AS (Ai (EG GI (by rfl) mt EH (AA (DR (Nc:=["end","numbers"]) (cap:=[(1,1)]) (g:=BU 0) (te:=Le (Aw 1) (Aw 0)) rfl (Io (by rfl) mr (AA (Bu Od (by rfl) ml Gx (AA (pv 1) AD)) AD))
   CU
   (λ_ _ _ _ _=>B8 (i:=0) kD rfl (qr rfl)) (λ_ _ _ _ _=>F9 hu (pv 1) (pv 0))) AD)))))
 intro d hd;have s0:AO H (AF H d (.dK [])):=AY hd _;refine⟨_,J,a,bs,ts,n,J,hT.keep s0,T,hn,λrr cs H1 s1 ao ae hR=>?_⟩;have af:H1 d=some (.dK []):=s1 _ _ AU;exists rr,_,J,ae;refine K4 (xs:=cs.map V.ref) (λj σ H2=>∃nu rg en,σ=[some (.ref a),some (.ref d),nu,rg,en]/\Bn d H1 H2/\H2 d=some (.dK (BI (Ca 0 ((A7 (AQ ts) n).take j))))) ⟨none,none,none,J,Bn.refl _ _,af⟩
  (λj σ H2 _ ⟨_,_,_,_,O,_⟩=>O _ _ (λz=>by rw[z,af]at ae;cases ae) ae) ?_ ?_
 ·rintro j x σ H2 p hx ⟨nu,rg,en,rfl,O,ab⟩ hp;obtain⟨b,row,rfl,hb,aa⟩:=Uq hR.1 hx;have ad:=hR.2 j b row hb aa;have bd:b≠d:=λz=>by rw[z,af]at ad;cases ad
  have s3:=AY hp (.AG [.int j,.ref b]);exists p,_,J,AH.of AU,J,_,_,J,_,_,J,rfl;have al:=s3 _ _ (O _ _ bd ad);exists _,J,b,J,⟨_,AH.of al⟩;refine ID (xs:=row.map V.int) (λk σ H4=>∃en,σ=[some (.ref a),some (.ref d),some (.int j),some (.ref b),en]/\Bn d H1 H4/\H4 d=some (.dK (BI (Ca 0 ((A7 (AQ ts) n).take j)++(row.take k).map λe=>(e,(j:Int))))))
   ⟨en,J,O.trans (AO.b s3),by rw[xC,p9,qE];exact s3 _ _ ab⟩ (λk σ H4 _ ⟨_,_,ac,_⟩=>AH.of (ac _ _ bd ad)) ?_ ?_
  ·rintro k x σ H4 ah ⟨aj,rfl,ac,ag⟩;obtain⟨e,rfl,he⟩:=int_at ah;have ky:=Zm aa k;exists _,J,_,J,_,J,d,_,J,D6.k (k:=oX e) ag ?_
   ·have l1:=congrArg tq ky;rw[nh]at l1;rw[nh,l1]
    have:=aP aa k
    exact DD (by lia)
   ·exists _,J,ac.put _;rw[AU,I0 (by rw[ky];exact MT nd aa he),p7,EF he,oh];rfl
  ·rintro σ H4 ⟨aj,rfl,ac,ag⟩;exists _,_,_,J,ac;rw[ag,nh,qc,Zy aa]
 ·rintro σ H2 ⟨nu,rg,en,rfl,O,ab⟩;rw[nh,oB (by rw[hR.1]; exact nQ _)] at ab;have sm:AO H H2:=O.same (s0.trans s1) hd;have ap:(BI (Ca 0 (A7 (AQ ts) n))).length=n:=by
   have:=congrArg tq (GG 0 (A7 (AQ ts) n))
   rw[nh,am]at this;rw[nh,this]
  refine⟨_,J,d,_,J,ab,((BI (Ca 0 (A7 (AQ ts) n))).length:Int),J,by lia,by lia,λak ai=>?_⟩;rw[show(((BI (Ca 0 (A7 (AQ ts) n))).length:Int)).toNat=n by lia];refine ZJ rfl ab (λe he=>?_) hn ai λH3 s3 h3=>?_
  ·refine NA ?_;rw[GG];exact(K0 PM).mpr ⟨by lia,by lia⟩
  ·exact⟨ak,_,J,.inl ⟨AI.of h3,λp hp=>q p _ ((sm.trans s3).trans (AY hp _)) ((sm.trans s3).free hp) AU⟩⟩
abbrev AX:Type:=Nat×Nat×Rat
structure GV(q:Rat):Prop where
 pos:0<q.num
 top:q.num<1000
 nM:(q.den:Int)<1000
variable {f g h f1 f2 f3 f4:Addr}{fd gd hd d1 d2 d3 d4:qy}
def V3(h:2<=n):HT.Al n n (some 2)=2:=by simp[HT.Al];omega
variable {C fI:Addr}{dI:qy}
structure GK(H:Hp)(T:Addr)(bs:List Addr)(ts:List (List Int)):Prop where
 h1:H T=some (.AE (bs.map V.ref))
 rows:At Bo H bs ts
 nd:(T :: bs).Nodup
def GK.keep(M:GK H T bs ts)(s:AO H H'):GK H' T bs ts:=⟨s _ _ M.h1,M.rows.keep Dr s,M.nd⟩
def GK.put(M:GK H T bs ts)(O:bs[i]?=some b):GK (AF H b (.AE (t.map V.int))) T bs (ts.set i t):=by
 have bm:b∈bs:=nz O;obtain⟨n1,n2⟩:=qm.mp M.nd;have e1:T≠b:=λz=>n1 (by rw[z];exact bm)
 refine⟨by rw[Ad e1];exact M.h1,⟨by rw[rS];exact M.rows.1,λk c x q1 F=>?_⟩,M.nd⟩;by_cases hk:i=k
 ·subst hk;rw[O]at q1;cases q1;have hl:i<ts.length:=by rw[<-M.rows.1];exact(nq.mp O).1
  rw[pM hl]at F;cases F;exact AU
 ·rw[pF hk]at F;have ne:c≠b:=λz=>hk (Vt n2 O (by rw[q1,z]))
  show AF H b _ c=_;rw[Ad ne];exact M.rows.2 k c x q1 F
def ES(hs:List Nat)(i:Nat):List Int:=((og hs.length).filter λe=>decide (hs[e]?=some i)).map (λe:Nat=>(e:Int))
def Xz(hs:List Nat)(p i:Nat):ES (hs++[p]) i=if p=i then ES hs i++[(hs.length:Int)] else ES hs i:=by
 unfold ES;rw[oa,qF,rV,aat,oh];have O:(og hs.length).filter (λe=>decide ((hs++[p])[e]?=some i))=(og hs.length).filter λe=>decide (hs[e]?=some i) :=
  List.filter_congr λx hx=>by rw[oH (o7.mp hx)]
 have F:(hs++[p])[hs.length]?=some p:=by simp
 rw[O];by_cases h:p=i
 ·rw[nX h,List.filter_cons_of_pos (by rw[F,h];simp)];rfl
 ·rw[nS h,List.filter_cons_of_neg (by rw[F];simpa using h)];simp
def ZE:x∈ES hs i↔0<=x/\hs[x.toNat]?=some i:=by
 unfold ES;rw[n8];constructor
 ·rintro⟨e,F,rfl⟩;rw[wV]at F;exact⟨by lia,by simpa using F.2⟩
 ·rintro⟨O,h1⟩;refine⟨x.toNat,wV.mpr ⟨o7.mpr (nq.mp h1).1,by simpa using h1⟩,by lia⟩
def Zp(hs:List Nat)(i:Nat):(ES hs i).Pairwise (· < ·):=by
 unfold ES;rw[rB];refine tF (λh=>by omega) (qS.filter _ (tK))
def CV(rs:List AX):List Nat:=rs.flatMap λr=>[r.1,r.2.1]
def hm(rs:List AX):List Nat:=CV rs++[0,1]
def E7:∀rs:List AX,(CV rs).length=2*rs.length
 |[]=>rfl
 |r :: rs=>by show(r.1 :: r.2.1 :: CV rs).length=_;simp[E7 rs];lia
def gP(rs:List AX):(hm rs).length=2*rs.length+2:=by unfold hm;rw[oa,E7];rfl
def MY(rs:List AX)(r:AX):CV (rs++[r])=CV rs++[r.1]++[r.2.1]:=by unfold CV;simp
structure NetV(n:Nat)(rs:List AX)(ts:List (List Int)):Prop where
 m1:1<=rs.length
 Ig:rs.length<=14
 n2:2<=n
 mq:n<=15
 len:ts.length=n
 tn:CS (2*rs.length+2) ts
 ne:∀t∈ts,t≠[]
 Kf:∀r∈rs,GV r.2.2/\r.1<n/\r.2.1<n
 C4:∀(p:Nat) (t:List Int),ts[p]?=some t->∀x:Int,x∈t->(hm rs)[x.toNat]?=some p
 DU:∀S:Nat->Prop,S 0->(∀r∈rs,(S r.1↔S r.2.1))->∀p,p<n->S p
def Oj(h:t∈ts):t.length<=ts.flatten.length:=by
 obtain⟨A,B,rfl⟩:=xS h;simp;lia
def VR(F:ts.flatten.Nodup)(h:t∈ts):t.Nodup:=by
 obtain⟨A,B,rfl⟩:=xS h;rw[pW,oQ,qB,qB]at F;exact F.2.1.1
def NetV.By(k:NetV n rs ts)(h:ts[p]?=some t):t.Perm (ES (hm rs) p):=by
 have tm:=nz h;refine(tY (VR k.tn.nd tm) ((Zp _ _).imp λh=>by lia)).mpr λx=>?_
 rw[ZE];constructor
 ·intro F;exact⟨((k.tn.mem x).mp (oI.mpr ⟨t,tm,F⟩)).1,k.C4 p t h x F⟩
 ·rintro⟨h0,h1⟩;have hl:=(nq.mp h1).1;rw[gP]at hl;obtain⟨t',aa,F⟩:=oI.mp ((k.tn.mem x).mpr ⟨h0,by lia⟩);obtain⟨j,hj,e⟩:=oG aa;have O:ts[j]?=some t':=by rw[nj hj,e]
  have:=k.C4 j t' O x F
  rw[h1]at this;obtain rfl:p=j:=oy this;rw[h]at O;cases O;exact F
variable {f5 f6:Addr}{d5 d6:qy}
def Yl:qo "sorted" = some (.builtin "sorted"):=by decide +kernel
def Pd(M:GK H T bs ts)(h:ts[p]?=some t):∃b,bs[p]?=some b/\b∈bs/\Bc (bs.map V.ref) ((p:Nat):Int)=some (.ref b)/\H b=some (.AE (t.map V.int)):=by
 obtain⟨b,F,O⟩:=M.rows.get h;exact⟨b,F,nz F,BQ (C9 F),O⟩
def Ma:∀{t:List Int},x∈t->∃u1 u2,t=u1++x :: u2/\x∉u1
 |a :: t,h=>by
  by_cases e:x=a
  ·subst e;exact⟨[],t,J,by simp⟩
  ·rcases oj.mp h with z|z
   ·exact absurd z e
   ·obtain⟨u1,u2,rfl,n⟩:=Ma z;exact⟨a :: u1,u2,J,by simp[e,n]⟩
def Mz:∀{u1:List Int},x∉u1->(u1++x :: u2).idxOf x=u1.length
 |[],_=>by simp
 |a :: u,h=>by
  have e:a≠x:=λz=>h (by rw[z];exact qh ..)
  have:=Mz (u2:=u2) (u1:=u) (λz=>h (oY _ z))
  rw[sX,zj,this,show(a == x)=false from beq_false_of_ne e];rfl
def S9(h:x∉u):(u.map λz=>if z=x then y else z)=u:=by
 conv=>rhs;rw[<-List.map_id u]
 refine qM λz hz=>?_
 have:z≠x:=λq=>h (by rw[<-q];exact hz)
 rw[nS this];rfl
def Tg{t:List Int}(F:t.Nodup)(h:x∈t):t.set (t.idxOf x) y=t.map λz=>if z=x then y else z:=by
 obtain⟨u1,u2,rfl,O⟩:=Ma h;rw[Mz O,zJ _ _ (nQ _),tP,List.set_cons_zero,oh,n9,nX rfl,S9 O];rw[qB,qm]at F;rw[S9 F.2.1.1]
def _root_.Mth.Gn.at(g:Gn ts hs)(h:AJ hs.length x):∃p t,ts[p]?=some t/\x∈t/\hs[x.toNat]?=some p:=by
 obtain⟨t,O,F⟩:=oI.mp ((g.mem x).mpr h);obtain⟨p,hp,e⟩:=oG O;have h2:ts[p]?=some t:=by rw[nj hp,e]
 exact⟨p,t,h2,F,g.C4 p t h2 x F⟩
def PH(φ:Int->Int)(s:Int)(i:Nat):∀k,A4 φ k (A4 φ i s)=A4 φ (k+i) s
 |0=>by rw[uF];rfl
 |k+1=>by
  rw[show k+1+i=(k+i)+1 by lia];show φ (A4 φ k (A4 φ i s))=φ (A4 φ (k+i) s);rw[PH φ s i k]
def X0(F:II φ n)(hs:AJ n s)(ha:a∈Bq φ s)(O:b∈Bq φ s):∃k,A4 φ k a=b:=by
 obtain⟨i,hi,rfl⟩:=Ee.mp ha;obtain⟨j,hj,rfl⟩:=Ee.mp O;have pp:=Gy F hs;exists (Be φ s-i)+j;have e:A4 φ (Be φ s-i) (A4 φ i s)=s:=by rw[PH,show Be φ s-i+i=Be φ s by lia];exact pp.2.1
 rw[show Be φ s-i+j=j+(Be φ s-i) by lia,<-PH,e]
def Pn(g:Gn ts hs)(h:ts[p]?=some t):t.length<=hs.length:=by
 have:=Oj (nz h)
 rwa [g.Dv.len]at this
def _root_.Mth.Gn.Ww(g:Gn ts hs):ts.length<=hs.length:=by have:=g.Jg;lia
def mF{R:List Int}(h:0<R.length)(c:Int):∃a,a∈R/\Bc (R.map V.int) (c%(((R.map V.int).length:Nat):Int))=some (.int a):=by
 rw[nh];have F:(0:Int)<(R.length:Int):=by lia
 have O:=qx c (tu F);have c1:=qD c F;generalize c%(R.length:Int)=d at O c1;have hd:d.toNat<R.length:=by lia
 exists R[d.toNat],pX hd
 have:=BQ (xs:=R.map V.int) (P6 (nj hd))
 rwa [show((d.toNat:Nat):Int)=d by lia]at this
def Iw:∀{rs:List AX} {k:Nat} {r:AX},rs[k]?=some r->(CV rs)[2*k]?=some r.1/\(CV rs)[2*k+1]?=some r.2.1
 |r0 :: rs,0,r,h=>by cases h;exact⟨J,J⟩
 |r0 :: rs,k+1,r,h=>by
  have:=Iw (rs:=rs) (k:=k) (r:=r) (by simpa using h)
  rw[show 2*(k+1)=2*k+1+1 by lia];exact this
def aN{b c:Addr}(F:H b=some (.AE ys))(h:Bw H c r):Bw (AF H b o) c r:=by
 obtain⟨e,h1,h2⟩:=h;refine⟨e,by rw[Ad (λz=>by rw[z,F]at h1;cases h1)];exact h1,?_⟩;unfold AR at h2 ⊢;rw[Ad (λz=>by rw[z,F]at h2;cases h2)];exact h2
def Jr(O:H b=some (.AE ys))(h:At Bw H cs rs):At Bw (AF H b o) cs rs:=⟨h.1,λi c r e1 F=>aN O (h.2 i c r e1 F)⟩
def YR(h:ts.Perm us):(A2 ts).Perm (A2 us):=by
 unfold A2;exact(h.map BD).flatten
def fk(h:ts.Perm us)(F:ts.flatten.Nodup)(O:x∈ts.flatten):pr us x=pr ts x :=
 Dw (h.flatten.nodup_iff.mp F) ((YR h).mem_iff.mp (Gw F O))
def YJ(aa:∀p,p<n->π p<n)(ab:∃τ:Nat->Nat,∀q,q<n->τ q<n/\π (τ q)=q)(ac:∀p q,p<n->q<n->π p=π q->p=q):((og n).map π).Perm (og n):=by
 obtain⟨τ,O⟩:=ab;refine(tY ?_ tH).mpr λx=>?_
 ·rw[ug,rB];refine vM (λ{a b} ha hb hab e=>?_) (tH (n:=n));exact hab (ac a b (o7.mp ha) (o7.mp hb) e)
 ·rw[n8,o7];constructor
  ·rintro⟨p,hp,rfl⟩;exact aa p (o7.mp hp)
  ·intro F;exact⟨τ x,o7.mpr (O x F).1,(O x F).2⟩
def ZL(us:List (List Int)):(og us.length).map (λq=>us.getD q [])=us:=by
 refine wD (by simp) λi h1 h2=>?_
 simp[aau,h2]
structure W6(n m:Nat)(π:Nat->Nat)(ρ:Int->Int):Prop where
 p0:π 0=0
 p1:π 1=1
 DY:∀p,p<n->π p<n
 Wq:∃τ:Nat->Nat,∀q,q<n->τ q<n/\π (τ q)=q
 lV:∀p q,p<n->q<n->π p=π q->p=q
 OA:∀x,AJ (2*m+2) x->AJ (2*m+2) (ρ x)
 Qn:∃σ:Int->Int,∀x,AJ (2*m+2) x->AJ (2*m+2) (σ x)/\ρ (σ x)=x
 Ln:∀x y,AJ (2*m+2) x->AJ (2*m+2) y->ρ x=ρ y->x=y
 r0:ρ 0=2*(m:Int)
 Lp:∀x,AJ (2*m+2) x->AN (ρ x)=ρ (AN x)
def gf (g:Gn ts hs)(O:hs.length=2*m+2)(a9:m<=14)(hr:rs.length=m)(hu:us.length=ts.length)(R:W6 ts.length m π ρ)
  (af:∀(p:Nat) (t:List Int),ts[p]?=some t->∃u,us[π p]?=some u/\Ex (t.map ρ) u)
  (ab:∀x,AJ (2*m+2) x->(hm rs)[(ρ x).toNat]?=(hs[x.toNat]?).map π)(ay:∀r∈rs,GV r.2.2):NetV ts.length rs us/\MJ us m:=by
 have n4:=g.n4;have a8:=g.Jg;obtain⟨τ,hτ⟩:=R.Wq;obtain⟨σ,hσ⟩:=R.Qn;have aa:∀x∈ts.flatten,AJ (2*m+2) x:=λx F=>by have:=(g.mem x).mp F;rwa [O]at this
 obtain⟨av,ax⟩:=iA (ts:=ts) (ρ:=ρ) g.nd (λx F y hy=>R.Ln x y (aa x F) (aa y hy));have ad:((og ts.length).map λp=>us.getD (π p) []).Perm us:=by
  have:=(YJ R.DY R.Wq R.lV).map (λq=>us.getD q [])
  rw[pO,<-hu,ZL us,hu]at this;exact this
 have lw:(ts.map λt=>t.map ρ).length=((og ts.length).map λp=>us.getD (π p) []).length:=by simp
 have am:∀(i:Nat) (t u:List Int),(ts.map λt=>t.map ρ)[i]?=some t->((og ts.length).map λp=>us.getD (π p) [])[i]?=some u->Ex t u:=by
  intro i t u h1 h2;rw[nV]at h1;cases e:ts[i]? with
  |none=>rw[e]at h1;cases h1
  |some t0 =>
   rw[e]at h1;cases h1;have hi:i<ts.length:=(nq.mp e).1;rw[nV,qk hi]at h2;cases h2;obtain⟨u,ag,ae⟩:=af i t0 e;show Ex (t0.map ρ) (us.getD (π i) []);rw[nO,ag];exact ae
 obtain⟨ak,a6⟩:=gJ av lw am;have pf:=OX lw am;have a7:us.flatten.Nodup:=ad.flatten.nodup_iff.mp ak;have az:∀x,x∈us.flatten↔AJ (2*m+2) x:=by
  intro x;rw[<-ad.flatten.mem_iff,<-pf.mem_iff,K7,n8];constructor
  ·rintro⟨y,hy,rfl⟩;exact R.OA y (aa y hy)
  ·intro F;obtain⟨s1,s2⟩:=hσ x F;exact⟨_,(g.mem _).mpr (by rw[O];exact s1),s2⟩
 have T:CS (2*m+2) us:=⟨a7,az,by lia⟩;have a4:∀y,AJ (2*m+2) y->pr us (ρ y)=ρ (pr ts y):=by
  intro y hy;have ao:y∈ts.flatten:=(g.mem y).mpr (by rw[O];exact hy);have au:ρ y∈(ts.map λt=>t.map ρ).flatten:=by rw[K7];exact n8.mpr ⟨y,ao,J⟩
  rw[fk ad ak (pf.mem_iff.mp au),a6 _ au,ax y ao]
 have ah:∀{q:Nat} {u:List Int},us[q]?=some u->∃p t,p<ts.length/\ts[p]?=some t/\π p=q/\Ex (t.map ρ) u:=by
  intro q u h;have hq:q<ts.length:=by rw[<-hu];exact(nq.mp h).1
  obtain⟨t1,t2⟩:=hτ q hq;obtain⟨u',h1,h2⟩:=af (τ q) _ (nj t1);rw[t2,h]at h1;cases h1;exact⟨τ q,_,t1,nj t1,t2,h2⟩
 have a3:∀{x:Int} {p:Nat},AJ (2*m+2) x->hs[x.toNat]?=some p->p<ts.length:=by
  intro x p F h;obtain⟨p',t,h1,_,h2⟩:=g.at (x:=x) (by rw[O];exact F);rw[h]at h2;cases h2;exact(nq.mp h1).1
 have aw:∀{x:Int},AJ (2*m+2) x->∃p,hs[x.toNat]?=some p:=λ{x} F=>by
  obtain⟨p',t,_,_,h2⟩:=g.at (x:=x) (by rw[O];exact F);exact⟨p',h2⟩
 have ai:∀{y:Int} {q:Nat},AJ (2*m+2) y->(hm rs)[y.toNat]?=some q->q<ts.length:=by
  intro y q hy h;obtain⟨s1,s2⟩:=hσ y hy;obtain⟨p,hp⟩:=aw s1
  have:=ab _ s1
  rw[s2,h,hp]at this;cases this;exact R.DY p (a3 s1 hp)
 have al:∀{k:Nat} {r:AX},rs[k]?=some r->(hm rs)[((2*k:Nat):Int).toNat]?=some r.1/\(hm rs)[((2*k+1:Nat):Int).toNat]?=some r.2.1:=by
  intro k r h;have hk:k<rs.length:=(nq.mp h).1;obtain⟨a1,a2⟩:=Iw h;unfold hm;have l0:=E7 rs;exact⟨by rw[pG,oH (by rw[l0];lia)];exact a1,by rw[pG,oH (by rw[l0];lia)];exact a2⟩
 have aj:∀x,AJ (2*m+2) x->AQ us (ρ x)=ρ (AQ ts x):=λx F=>by
  have ho:=C0 (n:=2*m+2) (by lia) F;rw[Bv,R.Lp x F,a4 _ ho,Bv]
 have dz:L6 (AQ us) m:=by
  have d0:=g.du;rw[O]at d0;exact jT d0 (λx F=>by have:=g.Dv.By.IU x (by rw[O];exact F);rwa [O]at this) R.OA R.Qn R.Ln R.r0 R.Lp aj
 have pz:Cj us (2*m+2):=by
  have p0:=g.po;rw[O]at p0;refine dE p0 (λx F=>by have:=g.Dv.By.IU x (by rw[O];exact F);rwa [O]at this) (by lia) R.OA R.Qn R.Ln R.Lp aj λf a0 t ht=>?_
  obtain⟨i,hi,e⟩:=oG ht;obtain⟨u,ag,ae⟩:=af i t (by rw[nj hi,e])
  have:=J2 (ae.By.map f)
  rw[a0 u (nz ag),pO]at this;exact this
 refine⟨⟨by lia,by lia,g.Bt,by lia,hu,by rw[hr];exact T,?_,?_,?_,?_⟩,dz,pz⟩
 ·intro u ac;obtain⟨q,hq,e⟩:=oG ac;obtain⟨p,t,_,ht,_,r⟩:=ah (show us[q]?=some u by rw[nj hq,e]);intro z
  have:=r.By.length_eq
  rw[z,nh]at this;exact g.ne t (nz ht) (xv (by simpa using this))
 ·intro r ap;obtain⟨k,hk,e⟩:=oG ap;obtain⟨a1,a2⟩:=al (show rs[k]?=some r by rw[nj hk,e]);exact⟨ay r ap,ai ⟨by lia,by push_cast;lia⟩ a1,ai ⟨by lia,by push_cast;lia⟩ a2⟩
 ·intro q u ac y hy;obtain⟨p,t,_,ht,eq,r⟩:=ah ac;obtain⟨x,F,rfl⟩:=n8.mp (r.By.mem_iff.mpr hy);have ix:=aa x (oI.mpr ⟨t,nz ht,F⟩);rw[ab x ix,g.C4 p t ht x F,<-eq];rfl
 ·intro S h0 hS q hq;obtain⟨t1,t2⟩:=hτ q hq;rw[<-t2];refine g.DU (λp=>S (π p)) (by show S (π 0);rw[R.p0];exact h0) (λk k1 p' q' e1 e2=>?_) _ t1;have hj:=(nq.mp e2).1;have i1:AJ (2*m+2) ((2*k:Nat):Int):=⟨by lia,by push_cast;lia⟩;have i2:AJ (2*m+2) ((2*k+1:Nat):Int):=⟨by lia,by push_cast;lia⟩;have o1:AN ((2*k:Nat):Int)=((2*k+1:Nat):Int):=by rw[Ht (by lia)];push_cast;rfl
  have h1:=ab _ i1;have h2:=ab _ i2;rw[pG,e1]at h1;rw[pG,e2]at h2;have r1:=R.OA _ i1;have ro:=R.Lp _ i1;rw[o1]at ro;have z0:AJ (2*m+2) 0:=⟨by lia,by push_cast;lia⟩;have z1:AJ (2*m+2) 1:=⟨by lia,by push_cast;lia⟩;have a5:ρ 1=2*(m:Int)+1:=by
   have:=R.Lp 0 z0
   rw[R.r0,show AN 0=1 from rfl]at this;rw[<-this]
   have:=Ht (n:=2*m) (by lia)
   push_cast at this;exact this
  have n0:ρ ((2*k:Nat):Int)≠2*(m:Int):=λz=>by
   have:=R.Ln _ _ i1 z0 (z.trans R.r0.symm)
   lia
  have n1:ρ ((2*k:Nat):Int)≠2*(m:Int)+1:=λz=>by
   have:=R.Ln _ _ i1 z1 (z.trans a5.symm)
   lia
  obtain⟨y0,y1⟩:=r1;generalize ρ ((2*k:Nat):Int)=y at h1 ro n0 n1 y0 y1;generalize ρ ((2*k+1:Nat):Int)=y' at h2 ro;have ar:y.toNat / 2<rs.length:=by lia
  obtain⟨a1,a2⟩:=al (nj ar);have aq:=hS _ (pX ar);rw[pG]at a1 a2;rcases Nat.mod_two_eq_zero_or_one y.toNat with e|e
  ·have ey:y'=y+1:=by rw[<-ro];unfold AN;rw[nX (by lia)]
   rw[show 2*(y.toNat / 2)=y.toNat by lia,h1]at a1;rw[show 2*(y.toNat / 2)+1=y'.toNat by lia,h2]at a2;have b1:π p'=rs[y.toNat / 2].1:=oy a1;have b2:π q'=rs[y.toNat / 2].2.1:=oy a2;show S (π p')↔S (π q');rw[b1,b2];exact aq
  ·have ey:y'=y-1:=by rw[<-ro];unfold AN;rw[nS (by lia)]
   rw[show 2*(y.toNat / 2)=y'.toNat by lia,h2]at a1;rw[show 2*(y.toNat / 2)+1=y.toNat by lia,h1]at a2;have b1:π q'=rs[y.toNat / 2].1:=oy a1;have b2:π p'=rs[y.toNat / 2].2.1:=oy a2;show S (π p')↔S (π q');rw[b1,b2];exact aq.symm
inductive Pc(vs:List V)(H:Hp)(Q:VK)(_:XK):Prop
 |mk (i:Int) (O:vs=[.int i]) (F:Q (.bl true) H)
def ka:Ar ["_law_found"] ["_law_found"] (Ah sWhole):=Ay
def Zi(F:Ak K "_law_whole" "_law_whole" sWhole f fd)(O:mg "isinstance" = none)(mi:mg "int" = none)(mb:mg "bool" = none):Ag P w K mg base Ap 1 f fd ["_law_found"] Pc:=by
 refine F.A1 ka λim A _ s H vs Q E hr h=>?_
 obtain⟨i,rfl,q⟩:=h;exists _,AS (Ai (J8 (Bu (J0 (c:=.ty "int") (cv:=.type "int") λ_ z=>z) (by rfl) O Jm (AA (pv 0) (AA (J7 (v:=.ty "int") (by rfl) mi Up rfl) AD)))
  (KJ (gL (Bu (J0 (c:=.ty "bool") (cv:=.type "bool") λ_ z=>z) (by rfl) O Jm (AA (pv 0) (AA (J7 (v:=.ty "bool") (by rfl) mb dP rfl) AD)))))))
 refine⟨_,J,_,_,_,J,DW.int i,LA K _,_,J,D8 ?_⟩;exact⟨_,J,_,_,_,J,DW.int i,Xc K,_,J,q⟩
inductive Vp(vs:List V)(H:Hp)(Q:VK)(_:XK):Prop
 |mk (p:Addr) (ns:List Int) (m:Int) (aa:vs=[.ref p,.int m]) (O:H p=some (.AG (ns.map V.int))) (F:m=ns.length) (ab:ns.length<=1000) (ac:∀H',AO H H'->Q (.bl true) H')
def lY:Ar ["_law_found","_law_many"] ["_law_found","_law_many"] (Ah s_law_row):=Ay
def QO:(["_law_one"]:List Str).Nodup:=by decide +kernel
def gU (F : Ak K "_law_row" "_law_row" s_law_row f fd) (G : AZ P w K mg base 1 "_law_whole" ["_law_found"] Pc) (ms : mg "isinstance" = none) (mt : mg "tuple" = none)
    (ml:mg "len" = none) (ma:mg "all" = none):Ag P w K mg base Ap 2 f fd ["_law_found","_law_many"] Vp:=by
  refine F.A1 lY λim A _ s H vs Q E hr h => ?_
  obtain⟨p, ns, m, rfl, O, rfl, hn, q⟩ := h;exists _, AL (BL (PW.pt (EO (Ei (C1 (Bu (J0 (c := .ty "tuple") (cv := .type "tuple") λ_ z => z) (by rfl) ms Jm (AA (pv 0) (AA (J7 (v := .ty "tuple") (by rfl) mt EH rfl) AD)))))
        (FA (BP Fj (B4 ml (pv 0)) (pv 1))))) (AS (Ai GR)) BR)
    (AS (Ai (Bu (OZ rfl) (by rfl) ma QE (AA (DR (Nc := ["_law_one"]) (cap := []) (g := BU 0) (te := Dt Pc [] E0 (BO (Aw 0) CI)) rfl (Di (pv 0))
      CU (λ_ _ _ _ _=>B8 (i:=0) QO rfl (qr rfl)) (λ_ _ _ _ _=>AV G (AA (pv 0) AD))) AD))))
  refine⟨_,rfl,_,_,_,rfl,DW.AG O,LA K _,_,rfl,Bj ?_⟩;exists _,rfl,p,_,rfl,.inr (AH.of O),_,rfl,rfl,_,rfl;refine GP (by rw[nh]) ?_;refine⟨_,rfl,p,rfl,⟨_,AH.of O⟩,λad ac => ?_⟩;refine⟨λi m ys σc H2=>m=ns.length - i/\i<=ns.length/\AO H H2/\H2 ad=some (.AE ys)/\ys=(nY i true).map V.bl /\ ∃u,σc=[u],⟨ns.length,rfl,pD _,AY ac _,AU,rfl,none,rfl⟩,?_⟩;rintro i m ys σc H2 ⟨rfl,hi,sm,ha,aa,u,rfl⟩;rcases oM i ns.length with ab|hge
  · refine .inr ⟨⟨_, .int ns[i], AH.of (sm _ _ O), P6 (nj ab)⟩, λx H3 yl => ?_⟩;obtain⟨rfl, hx⟩ := yl;obtain⟨e, rfl, _⟩ := int_at (hx _ (AH.of (sm _ _ O)));refine⟨_, rfl, e, rfl, ha, ?_, ns.length - (i + 1), by lia  , rfl, ab, sm.up ac _, AU, ?_, _, rfl⟩
    · rw[aa,nh,vg];exact DD (by lia)
    · rw[aa,uj,oh];rfl
  · obtain rfl : i = ns.length := by lia
    refine .inl ⟨⟨_,AH.of (sm _ _ O),by rw[nh];exact nQ _⟩,?_⟩;refine⟨ad,nY ns.length true,rfl,AI.of (by rw[ha,aa]),?_⟩;rw[show(nY ns.length true).all id=true by simp];exact q H2 sm
def gj(a:Int):(if a<0 then -a else a)=(a.natAbs:Int):=by split<;>omega
def Z5(F:0<y):pU y (x%y)=pU x y:=by
 have:=S7 x y
 rwa [yc x (aaq F)]at this
def cA{t b:Int}(ht:0<t)(ab:t<1000)(hb:0<b)(aa:b<1000):GV ((t:Rat) / (b:Rat)):=by
 have e:=Gs t b (by lia);have O:=SO t b (by lia);have F:=Ry t b (by lia);have c:=RU t b;have d:=Sg t b (by lia);rw[e]at O F c d;dsimp only at O F c d;generalize ((t:Rat) / (b:Rat))=q at O F c d;have n0:0<q.num:=by
  rcases ve 0 q.num with h|h
  ·exact h
  ·have h1:0<t*(q.den:Int):=xK ht d;have h2:q.num*b<=0:=v9 h (by lia)
   lia
 exact⟨n0,by lia,by lia⟩
def Nt:Ar ["_law_a","_law_b","_law_rest"] ["_law_a","_law_b"] (Ah s_law_divisor):=Ay
inductive QN(vs:List V)(H:Hp)(Q:VK)(_:XK):Prop
 |mk (a b:Int) (ab:vs=[.int a,.int b]) (O:0<=a) (F:0<=b) (aa:Q (.int (pU a b:Int)) H)
def X8(F:Ak K "_law_divisor" "_law_divisor" s_law_divisor f fd):Ag P w K mg base Ap 1 f fd ["_law_a","_law_b"] QN:=by
 refine F.A1 Nt λim A _ s H vs Q E hr h=>?_
 obtain⟨a,b,rfl,a0,b0,q⟩:=h;exists _,AL (Hy oE (BP HR (pv 1) AB)
   (AL (AW 2 Nt (AM B9 (pv 0) (pv 1)))
   (AL (AW 0 Nt (pv 1))
   (AS (AW 1 Nt (pv 2))))))
  (AS (Ai (pv 0)))
 refine Hu (λσ H2=>∃x y r,σ=[some (.int x),some (.int y),r]/\H2=H/\0<=x/\0<=y/\pU x y=pU a b) (λσ _=>match σ with | [_,some (.int y),_]=>y.natAbs|_=>0) ⟨_,_,none,J,J,a0,b0,J⟩ ?_ ?_
 ·rintro σ H2 ⟨x,y,r,rfl,rfl,x0,y0,gg⟩;exists _,J,_,_,J,J,_,rfl;by_cases O:0<y
  ·refine C3 O ?_;have m0:=qx x (tu O);have m1:=qD x O;exists _,J,_,J,_,_,J,J,O,_,J,_,J,⟨y,x%y,some (.int (x%y)),J,J,y0,m0,(Z5 O).trans gg⟩;show(x%y).natAbs<y.natAbs
   lia
  ·refine CH O ?_;have e:y=0:=by lia
   subst e;exists _,rfl
   have:=UI gg
   rw[nS (by lia)]at this;rw[this];exact q
 ·rintro σ H2 Q1 Q2 hq ⟨v,e,i,j,e1,e2,b,eb,z⟩;exact⟨v,e,i,j,e1,e2,b,eb,hq _ _ z⟩
inductive IK(vs:List V)(H:Hp)(Q:VK)(_:XK):Prop
 |mk (t b:Int) (ab:vs=[.int t,.int b]) (O:0<b) (aa:BN b) (F:N3 H Q ((t:Rat) / (b:Rat)))
def Ws:Ar ["_law_top","_law_bottom","_law_shared"] ["_law_top","_law_bottom"] (Ah sLFrac):=Ay
def bF(F:Ak K "_law_fraction" "_law_fraction" sLFrac f fd)(G:AZ P w K mg base 1 "_law_divisor" ["_law_a","_law_b"] QN)(ma:mg "abs" = none):
  Ag P w K mg base Ap 2 f fd ["_law_top","_law_bottom"] IK:=by
 refine F.A1 Ws λim A _ s H vs Q E hr h=>?_
 obtain⟨t,b,rfl,b0,hb,q⟩:=h;exists _,AL (AW 2 Ws (AV G (AA (Bu Mc (by rfl) ma QB (AA (pv 0) AD)) (AA (pv 1) AD))))
  (AS (Ai (BS (AA (AM FV (pv 0) (pv 2)) (AA (AM FV (pv 1) (pv 2)) AD)))))
 refine⟨_,J,t,J,_,J,_,b,J,by split<;>lia,by lia,?_⟩;rw[show pU (if t<0 then -t else t) b=pU t b by split;exact Int.neg_gcd;rfl];have ep:(pU t b:Int)=Mth.BJ t b:=by unfold Mth.BJ;rw[nS (by lia)]
 rw[ep];have O:JG t (Mth.BJ t b):=⟨LN t b (by lia),qJ (Tc t b (by lia)) hb⟩;refine⟨_,J,_,J,_,_,J,J,O,_,J,_,J,_,_,J,J,O,by exact Bk,λp aa=>?_⟩;have q1:=q p aa
 have:=Gs t b (by lia)
 unfold BV at this;rw[<-(wA this).1,<-(wA this).2]at q1;exact q1
inductive UO(vs:List V)(H:Hp)(Q:VK)(_:XK):Prop
 |mk (z m:Int) (ab:vs=[.int z,.int m]) (F:0<m) (O:m<1000) (aa:∀p H' q,AO H H'->AR H' p q->GV q->Q (.ref p) H')
def mB:Ar ["_law_c","_law_most"] ["_law_c","_law_most"] (Ah sLEase):=Ay
def Zz(F:Ak K "_law_ease" "_law_ease" sLEase f fd)(G:AZ P w K mg base 2 "_law_fraction" ["_law_top","_law_bottom"] IK):
  Ag P w K mg base Ap 3 f fd ["_law_c","_law_most"] UO:=by
 refine F.A1 mB λim A _ s H vs Q E hr h=>?_
 obtain⟨z,m,rfl,O,m1,q⟩:=h;exists _,AL (BL (BP DX (AM B9 (pv 0) AB) AB) (AS (Ai (BS (AA AB (AA AB AD))))) BR)
  (AL (BL (BP DX (AM B9 (pv 0) AB) AB)
   (AS (Ai (AV G (AA (AM BK AB (AM B9 (AM Eh (pv 0) AB) AB)) (AA (AM BK AB (AM B9 (AM Eh (pv 0) AB) AB)) AD))))) BR)
  (AS (Ai (AV G (AA (AM BK AB (AM B9 (AM Eh (pv 0) AB) (pv 1))) (AA (AM BK AB (AM B9 (AM FV (AM Eh (pv 0) AB) (pv 1)) (pv 1))) AD))))))
 have m3:(0:Int)<3:=by decide
 have d3:Qg z 3:=⟨by decide,by decide⟩;have hb:BN m:=NM (n:=10) (by omega) (by decide);have gv:∀t b:Int,0<t->t<1000->0<b->b<1000->IK [.int t,.int b] H Q E0:=λt b t0 t1 b0 b1=>⟨t,b,J,b0,NM (n:=10) (by omega) (by decide),λp hp=>q p _ _ (AY hp _) AU (cA t0 t1 b0 b1)⟩
 exists _,J,_,_,J,J,m3,J,_,rfl;refine Fs (λ_=>?_) (λ_=>?_)
 ·refine⟨by exact Bk,λp hp=>?_⟩;exact q p _ 1 (AY hp _) AU ⟨by decide,by decide,by decide⟩
 exists _,J,_,_,J,J,m3,J,_,rfl;refine Fs (λ_=>?_) (λ_=>?_)
 ·refine⟨_,J,_,_,J,J,d3,_,_,J,J,(show(0:Int)<9 by decide),_,_,J,J,_,J,_,_,J,J,⟨by decide,by decide⟩,_,_,J,J,(show(0:Int)<9 by decide),_,_,J,J,?_⟩;exact gv _ _ (by omega) (by omega) (by omega) (by omega)
 ·refine⟨_,J,_,_,J,J,d3,_,J,_,_,J,J,O,_,_,J,J,_,J,_,_,J,J,d3,_,J,_,_,J,J,⟨by omega,hb⟩,_,J,_,_,J,J,O,_,_,J,J,?_⟩;have a1:=qx (z / 3) (tu O);have a2:=qD (z / 3) O;have b1:=qx ((z / 3).fdiv m) (tu O);have b2:=qD ((z / 3).fdiv m) O;exact gv _ _ (by omega) (by omega) (by omega) (by omega)
inductive VJ(K:nT)(vs:List V)(H:Hp)(Q:VK)(_:XK):Prop
 |mk (a:Addr) (ns:List Int) (O:Nat) (ad:vs=[.ref a,.int (O:Int)]) (ab:nD K H a ns) (aa:O<=100) (ac:∀p (F:List Int) H',AO H H'->H p=none->H' p=some (.AE (F.map V.int))->(∀x∈F,0<=x)->F.length<=200->Q (.ref p) H')
def IX:Ar ["_law_script","_law_least","_law_as_they_stand","_law_made","_law_k","_law_cell","_law_one","_law_other"] ["_law_script","_law_least"] (Ah s_law_numbers):=Ay
def YQ(F:Ak K "_law_numbers" "_law_numbers" s_law_numbers f fd)(ml:mg "len" = none)(mr:mg "range" = none)(mx:mg "max" = none)(mn:mg "min" = none)(ma:mg "abs" = none):Ag P w K mg base Ap 1 f fd ["_law_script","_law_least"] (VJ K):=by
 refine F.A1 IX λim A _ s H vs Q E hr h=>?_
 obtain⟨a,ns,aa,rfl,⟨hS,hl⟩,ag,q⟩:=h;exists _,AL (AW 2 IX (J8 (Dc HR (Qd K ml (pv 0)) AB) (KJ (Dc DX (AM B9 (Lm (WL (K:=K)) (pv 0) AB (λ_ _=>rfl)) AB) AB))))
  (AL (AW 3 IX (CG AD))
  (AL (Bg oE rfl (Io (by rfl) mr (AA (Bu (Oe rfl) (by rfl) mx NK (AA (AM BK (pv 1) AB) (AA (Bu (MQ rfl) (by rfl) mn NI (AA AB (AA (Qd K ml (pv 0)) AD))) AD))) AD)) (Az 4 IX)
   (AL (AW 5 IX AB)
   (AL (BL (BP Fh (pv 4) (Qd K ml (pv 0))) (AS (AW 5 IX (Lm (WL (K:=K)) (pv 0) (pv 4) (λ_ _=>rfl)))) BR)
   (AS (BL (C1 (pv 2))
    (AS (DH (CL oF pJ pK D1 (pv 3) (AA (Bu Mc (by rfl) ma QB (AA (pv 5) AD)) AD))))
    (AL (AW 6 IX (AM B9 (AM BK (AM CW (AM B9 (pv 5) (AM VG AB AB)) AB) (AM CW AB (AM BK (pv 4) AB))) AB))
    (AL (AW 7 IX (AM B9 (AM BK (AM CW (pv 6) AB) (AM CW AB (AM BK (pv 4) AB))) AB))
    (AS (DH (CL oF pJ pK D1 (pv 3) (AA (AM BK (AM CW (AM B9 (AM CW (pv 6) AB) AB) AB) (pv 7)) AD)))))))))))
  (AS (Ai (E4 Km (pv 3) (Ef AB) FY)))))
 refine SV (G:=λσ H2=>H=H2/\∃b,σ=[some (.ref a),some (.int (aa:Int)),some (.bl b),none,none,none,none,none]) (λr=>?_) ?_
 ·exists _,J,a,_,J,.inl hS,_,_,J,J,_,rfl;rcases uS ns.length with z|z
  ·refine CH (by rw[nh];lia) ?_;exact r _ _ ⟨J,_,J⟩
  ·refine C3 (by rw[nh];lia) ?_;have e:Bc (ns.map V.int) 0=some (.int ns[0]):=BQ (j:=0) (by rw[nV,nj z];rfl);refine⟨_,J,a,_,_,_,J,J,hS,e,_,_,J,J,(show(0:Int)<2 by decide),J,?_⟩;exact r _ _ ⟨J,_,J⟩
 rintro σ _ ⟨rfl,b,rfl⟩;refine⟨by exact Gh,λL hL=>?_⟩;refine BF hL (.AE []) λH1 sL zz=>?_
 have eL:H1 L=some (.AE ([].map V.int)):=zz
 try dsimp only
 try refine DG ?_
 first|refine DF λae ac=>?_|refine nx_hide λae ac=>?_
 exists _,J,_,_,J,J,_,J,a,_,J,.inl (sL.seq hS),_,_,J,_,_,J,_,J,?_,?_
 ·split<;>lia
 ·rw[nh];split<;>split<;>lia
 have hN:(if (if (((ns.map V.int).length:Nat):Int)<63 then (((ns.map V.int).length:Nat):Int) else 63)>(aa:Int)+1 then (if (((ns.map V.int).length:Nat):Int)<63 then (((ns.map V.int).length:Nat):Int) else 63) else (aa:Int)+1).toNat<=164:=by
  rw[nh];split<;>(try split)<;>lia
 generalize (if (if (((ns.map V.int).length:Nat):Int)<63 then (((ns.map V.int).length:Nat):Int) else 63)>(aa:Int)+1 then (if (((ns.map V.int).length:Nat):Int)<63 then (((ns.map V.int).length:Nat):Int) else 63) else (aa:Int)+1).toNat=N at hN;refine Gr (n:=N) (λi σ H2=>∃u1 u2 u3 u4 O,σ=[some (.ref a),some (.int (aa:Int)),some (.bl b),some (.ref L),u1,u2,u3,u4]/\AO H H2/\H2 L=some (.AE ((O:List Int).map V.int))/\(∀x∈O,0<=x)/\O.length=i)
  ⟨none,none,none,none,[],J,sL,eL,by simp,J⟩ ?_ ?_
 ·rintro i σ H2 hi ⟨u1,u2,u3,u4,O,rfl,s2,e2,p2,l2⟩;refine Ts (Va (SV (G:=λσ H3=>H2=H3/\∃z:Int,σ=[some (.ref a),some (.int (aa:Int)),some (.bl b),some (.ref L),some (.int ((0:Int)+(i:Nat))),some (.int z),u3,u4]) (λr=>?_) ?_))
  ·exists _,J,_,J,a,_,J,.inl (s2.seq hS),_,_,J,J,_,rfl;by_cases hk:(0:Int)+(i:Nat)<(((ns.map V.int).length:Nat):Int)
   ·refine C3 hk ?_;rw[nh]at hk;have af:i<ns.length:=by lia
    have e:Bc (ns.map V.int) ((0:Int)+(i:Nat))=some (.int ns[i]):=by rw[aar];exact BQ (by rw[nV,nj af];rfl)
    exists _,J,_,J,a,_,_,_,J,J,s2.seq hS,e;exact r _ _ ⟨J,_,J⟩
   ·refine CH hk ?_;exact r _ _ ⟨J,_,J⟩
  rintro σ _ ⟨rfl,z,rfl⟩;have sz:(O.map V.int).length<oK:=by rw[nh];exact DD (by lia)
  have ad:∀y:Int,0<=y->∀(v3 v4:Option V),∃u1 u2 u3 u4 ab,[some (V.ref a),some (.int (aa:Int)),some (.bl b),some (.ref L),some (.int ((0:Int)+(i:Nat))),some (.int z),v3,v4]=[some (.ref a),some (.int (aa:Int)),some (.bl b),some (.ref L),u1,u2,u3,u4]/\AO H (AF H2 L (.AE (O.map V.int++[.int y])))/\(AF H2 L (.AE (O.map V.int++[.int y]))) L=some (.AE ((ab:List Int).map V.int))/\(∀x∈ab,0<=x)/\ab.length=i+1:=by
   intro y hy v3 v4;refine⟨_,_,_,_,O++[y],J,s2.up hL _,by rw[AU];simp,λx hx=>?_,by simp[l2]⟩;rcases om.mp hx with w|w
   ·exact p2 x w
   ·rw[oz]at w;lia
  exists _,J,_,rfl;cases b with
  |true =>
   refine D8 ?_;exists _,J,.inl ⟨J,_,AI.of e2⟩,_,J,z,J,L,_,_,J,J,e2,sz;exact ad _ (by split<;>lia) _ _
  |false =>
   refine Bj ?_;refine⟨_,J,_,_,J,J,⟨by decide,by decide,by decide⟩,_,_,J,J,(show(0:Int)<10 ^ ((18:Int).toNat) by decide),_,_,J,J,.inr ⟨by decide,by decide⟩,_,J,_,_,J,J,_,_,J,J,.inl ⟨by decide,by decide⟩,_,_,J,J,_,_,J,J,(show(0:Int)<2147483647 by decide),?_⟩;refine⟨_,J,_,_,J,J,.inr ⟨by decide,by decide⟩,_,J,_,_,J,J,_,_,J,J,.inl ⟨by decide,by decide⟩,_,_,J,J,_,_,J,J,(show(0:Int)<2147483629 by decide),?_⟩;refine⟨_,J,.inl ⟨J,_,AI.of e2⟩,_,J,_,_,J,J,.inr ⟨by decide,by decide⟩,_,_,J,J,(show(0:Int)<2147483399 by decide),_,_,J,J,.inr ⟨by decide,by decide⟩,_,J,_,_,J,J,L,_,_,J,J,e2,sz,?_⟩;refine ad _ ?_ _ _;have d1:∀z:Int,0<=z%2147483399:=λz=>qx _ (by decide)
   have d2:∀z:Int,0<=z%2147483629:=λz=>qx _ (by decide)
   have e1:=d1 ((z%10 ^ ((18:Int).toNat)*48271+16807*((0:Int)+(i:Nat)+1))%2147483647*40692);have e2:=d2 ((z%10 ^ ((18:Int).toNat)*48271+16807*((0:Int)+(i:Nat)+1))%2147483647*69621+7919*((0:Int)+(i:Nat)+3))
   lia
 ·rintro σ H2 ⟨u1,u2,u3,u4,O,rfl,s2,e2,p2,l2⟩;subst ac;refine⟨_,J,1,J,L,_,J,AI.of e2,λp hp=>?_⟩;have ec:C5 (O.map V.int) (some 1) none=(O.drop 1).map V.int:=by
   unfold C5;have e1:HT.Al (O.map V.int).length (O.map V.int).length none=(O.map V.int).length:=rfl;have e2:HT.Al (O.map V.int).length 0 (some 1)=min 1 (O.map V.int).length:=by simp[HT.Al]
   rw[e1,e2,oB (by rw[pY];exact nQ _),vB];rcases uS O.length with z|z
   ·have:O=[]:=qQ.mp z
    subst this;rfl
   ·rw[show min 1 (O.map V.int).length=1 by rw[nh];lia]
  rw[ec];refine q p (O.drop 1) _ (s2.trans (AY hp _)) (s2.free hp) AU (λx hx=>p2 x (ui hx)) (by rw[pY];lia)
inductive N0(vs:List V)(H:Hp)(Q:VK)(_:XK):Prop
 |mk (a:Addr) (ns:List Int) (ad:vs=[.ref a]) (aa:H a=some (.AE (ns.map V.int))) (O:(∀x∈ns,0<=x)) (ab:ns.length<=200) (ac:∀z F H',Bn a H H'->H' a=some (.AE ((F:List Int).map V.int))->(∀x∈F,0<=x)->F.length<=200->0<=z->Q (.int z) H')
def kq:Ar ["_law_numbers_here"] ["_law_numbers_here"] (Ah sNext):=Ay
def aM(F:Ak K "_law_next" "_law_next" sNext f fd)(ml:mg "len" = none):Ag P w K mg base Ap 1 f fd ["_law_numbers_here"] N0:=by
 refine F.A1 kq λim A _ s H vs Q E hr h=>?_
 obtain⟨a,ns,rfl,O,hp,hl,q⟩:=h;exists _,AL (BL (BP DX (B4 ml (pv 0)) AB) (AS (Ai AB)) BR)
  (AS (Ai (CL oF zM zO Sl (pv 0) (AA AB AD))))
 exists _,J,a,_,J,.inl (AI.of O),J,_,rfl;cases ns with
 |nil =>
  refine D8 ?_;exact q 0 [] H (Bn.refl _ _) O hp (by simp) (by decide)
 |cons n ns =>
  refine CH (EB (by simp;lia)) ?_;refine⟨_,J,.inl ⟨J,_,AI.of O⟩,a,_,0,0,.int n,J,J,O,by decide,by decide,by simp[aaN],J,?_⟩;exact q n ns _ Bn.Ae (by rw[AU];rfl) (λx hx=>hp x (oY _ hx)) (by simp at hl;lia) (hp n (qh ..))
abbrev dn(c:Int)(ts:List (List Int)):List (List Int):=ts.map λt=>t.map λx=>x-c
def aU(ρ:Int->Int)(t:List Int):BD (t.map ρ)=(BD t).map λp=>(ρ p.1,ρ p.2):=by
 rw[E8,E8];cases t with
 |nil=>rfl
 |cons a t =>
  have e:((a :: t).map ρ).getLastD 0=ρ ((a :: t).getLastD 0):=by
   rw[pN,pN,yr,uR];rfl
  rw[e,NG]
def ZQ(ρ:Int->Int)(ts:List (List Int)):A2 (ts.map λt=>t.map ρ)=(A2 ts).map λp=>(ρ p.1,ρ p.2):=by
 unfold A2;rw[pO,List.map_flatten,pO];congr 1;refine qM λt _=>?_
 exact aU ρ t
def Ub(O:∀x y,ρ x=ρ y->x=y)(e:Int):∀L:List (Int×Int),lk (L.map λp=>(ρ p.1,ρ p.2)) (ρ e)=(lk L e).map ρ
 |[]=>rfl
 |p :: L=>by
  have F:=Ub O e L;unfold lk at F ⊢;rw[n9];by_cases h:p.1=e
  ·rw[wy (by simp[h]),wy (by simpa using h)];rfl
  ·rw[wu (by simp;exact λz=>h (O _ _ z)),wu (by simpa using h)];exact F
def LO(h:x-c=y-c):x=y:=by lia
def iD(T:CS n ts)(c:Int)(F:AJ n y):lk (A2 (dn c ts)) (AN y-c)=some (AQ ts y-c):=by
 unfold dn;rw[ZQ (λx=>x-c),Ub (ρ:=λx=>x-c) (λx y=>LO) (AN y) (A2 ts),T.LQ F];rfl
def TR(c:Int)(ts:List (List Int)):(dn c ts).flatten=ts.flatten.map λx=>x-c:=K7 _ ts
def jY(h:ts.flatten.Nodup):(dn c ts).flatten.Nodup:=by
 rw[TR];exact NF h λx _ y _ e=>LO e
def Nj(h:ts[p]?=some t):(dn c ts)[p]?=some (t.map λx=>x-c):=by rw[nV,h];rfl
def VU(h:(dn c ts)[p]?=some u):∃t,ts[p]?=some t/\u=t.map λx=>x-c:=by
 rw[nV]at h;cases e:ts[p]? with
 |none=>rw[e]at h;cases h
 |some t=>rw[e]at h;exact⟨t,J,(oy h).symm⟩
def QG:∀{t:List Int},x∈t->(t.map λy=>y-c).idxOf (x-c)=t.idxOf x
 |a :: t,h=>by
  rw[n9,zj,zj];by_cases e:a=x
  ·subst e;simp
  ·have O:(a == x)=false:=beq_false_of_ne e;have F:(a-c == x-c)=false:=beq_false_of_ne (λz=>e (LO z));rw[O,F];rcases oj.mp h with z|z
   ·exact absurd z.symm e
   ·show(t.map λy=>y-c).idxOf (x-c)+1=t.idxOf x+1;rw[QG z]
def NW{t:List Int}:x-c∈(t.map λy=>y-c)↔x∈t:=by
 rw[n8];constructor
 ·rintro⟨y,F,e⟩;rw[<-LO e];exact F
 ·intro h;exact⟨x,h,J⟩
def gK(c:Int)(ts:List (List Int))(p:Nat)(t:List Int):(dn c ts).set p (t.map λx=>x-c)=dn c (ts.set p t):=by unfold dn;rw[vh]
def kP:∀k:Nat,k<40->vS ((k:Int)-2) 1=AN (k:Int)-2:=by decide
def WX(h:AJ n y)(F:n<=40):vS (y-2) 1=AN y-2:=by
 obtain⟨h1,h2⟩:=h
 have:=kP y.toNat (by lia)
 rwa [show((y.toNat:Nat):Int)=y by lia]at this
inductive TH(vs:List V)(H:Hp)(Q:VK)(_:XK):Prop
 |mk (T:Addr) (bs:List Addr) (us:List (List Int)) (ac:vs=[.ref T]) (O:GK H T bs us) (F:us.flatten.Nodup) (aa:us.flatten.length<=1000) (ab:∀d H',AO H H'->H d=none->H' d=some (.dK (BI (A2 us)))->Q (.ref d) H')
def L4:Ar ["_law_turns","_law_ahead_here","_law_turn","_law_at","_law_end"] ["_law_turns"] (Ah s_law_ahead):=Ay
def YF(F:Ak K "_law_ahead" "_law_ahead" s_law_ahead f fd)(me:mg "enumerate" = none):Ag P w K mg base Ap 1 f fd ["_law_turns"] TH:=by
 refine F.A1 L4 λim A _ s H vs Q E hr h=>?_
 obtain⟨T,bs,us,rfl,M,nd,hn,q⟩:=h;have hu:=Fl hr;exists _,AL (AW 1 L4 Mb)
  (AL (Bg oE rfl (EN (pv 0)) (Az 2 L4)
   (AS (Bg oE rfl (Hv (by rfl) me (AA (pv 2) AD)) (Cp (n:=2) rfl (BH (Az 3 L4) (BH (Az 4 L4) Cn)))
    (AS (Gv hu (pv 1) (pv 4) (pL (pv 2) (AM C7 (pv 3) AB)) rfl)))))
  (AS (Ai (pv 1))))
 intro d hd
 try dsimp only
 try refine DG ?_
 first|refine DF λaj af=>?_|refine nx_hide λaj af=>?_
 exists _,J,T,J,⟨_,AI.of (AY hd _ _ _ M.h1)⟩;refine Ow (xs:=bs.map V.ref) (λi σ H2=>∃t k e,σ=[some (.ref T),some (.ref d),t,k,e]/\AO H H2/\H2 d=some (.dK (BI (A2 (us.take i))))) ⟨none,none,none,J,AY hd _,AU⟩ (λi σ H2 _ ⟨_,_,_,_,s,_⟩=>AI.of (s _ _ M.h1)) ?_ ?_
 ·rintro i x σ H2 hx ⟨t0,k0,e0,rfl,sm,ac⟩;obtain⟨b,row,rfl,hb,ad,ae⟩:=M.rows.ref hx;have hB:=sm _ _ ae
  try dsimp only
  try refine DG ?_
  first|refine DF λam ah=>?_|refine nx_hide λam ah=>?_
  exists _,J,b,_,J,hB;refine Iq (xs:=row.map V.int) (λj σ O=>∃k e,σ=[some (.ref T),some (.ref d),some (.ref b),k,e]/\AO H O/\O d=some (.dK (BI (A2 (us.take i)++(BD row).take j)))) ⟨k0,e0,J,sm,by rw[xC,qE];exact ac⟩
   (λj σ O _ ⟨_,_,_,s,_⟩=>s _ _ ae) ?_ ?_
  ·rintro j x σ O p ak ⟨k1,e1,rfl,ab,aa⟩ hp;obtain⟨e,rfl,he⟩:=int_at ak;have hj:j<row.length:=(nq.mp he).1;have ai:AO H (AF O p (.AG [.int j,.int e])):=ab.trans (AY hp _);have al:(AF O p (.AG [.int j,.int e])) d=some (.dK (BI (A2 (us.take i)++(BD row).take j))):=AY hp _ _ _ aa;have ag:(A2 (us.take i)++(BD row).take j).map (·.1)=(us.take i).flatten++row.take j:=by
    rw[oh,GF,yf,Ju]
   have fr:e∉(A2 (us.take i)++(BD row).take j).map (·.1):=by rw[ag];exact MT nd ad he
   have ln:(BI (A2 (us.take i)++(BD row).take j)).length<oK:=by
    have l1:=congrArg tq ag;rw[nh]at l1;have l2:((us.take i).flatten++row.take j).length<=us.flatten.length:=by
     have e1:us=us.take i++us.drop i:=(qN i us).symm;have hd:us.drop i=row :: us.drop (i+1):=by
      obtain⟨hi,q1⟩:=nq.mp ad;rw[<-q1,qY]
     have e2:us.flatten.length=(us.take i).flatten.length+(row.length+(us.drop (i+1)).flatten.length):=by
      conv=>lhs;rw[e1,hd]
      rw[pW,oQ,oa,oa]
     rw[e2,oa,pS]
     lia
    rw[nh,l1];exact DD (by lia)
   exists p,_,J,AH.of AU,J,_,_,J,_,_,J,rfl;exists _,J,_,J,_,_,J,J,b,_,_,_,J,J,AI.of (ai _ _ ae),Tn hj,_,J,_,J,d,_,J,D6.k (k:=oX e) al ln;exists _,_,J,ai.up hd _;rw[AU,I0 fr,p7];have rp:(BD row)[j]?=some (e,E9 row j):=by
    unfold BD;rw[nV,qk hj];show some (row.getD j 0,E9 row j)=_;rw[nO,he];rfl
   rw[EF rp]
  ·rintro σ O ⟨k1,e1,rfl,ab,aa⟩;subst ah;exists _,_,_,J,ab;rw[aa,EF ad,RP,nh,show(BD row).take row.length=BD row from oB (by rw[Oh];exact nQ _)]
 ·rintro σ H2 ⟨t0,k0,e0,rfl,sm,ac⟩;subst af;refine⟨_,J,q d H2 sm hd ?_⟩;rw[ac,nh,oB (by rw[M.rows.1];exact nQ _)]
inductive Uu(c:Int)(vs:List V)(H:Hp)(Q:VK)(_:XK):Prop
 |mk (d:Addr) (ts:List (List Int)) (n:Nat) (s:Int) (ad:vs=[.ref d,.int (s-c)]) (aa:H d=some (.dK (BI (A2 (dn c ts))))) (F:CS n ts) (ab:n<=40) (ac:AJ n s) (O:∀p H',AO H H'->H p=none->H' p=some (.AE (((Bq (AQ ts) s).map λx=>x-c).map V.int))->Q (.ref p) H')
def Ny:Ar ["_law_ahead_here","_law_start","_law_ring","_law_here"] ["_law_ahead_here","_law_start"] (Ah s_law_land):=Ay
def fJ(c:Int)(hx:∀{y:Int} {n:Nat},AJ n y->n<=40->vS (y-c) 1=AN y-c)(F:Ak K "_law_land" "_law_land" s_law_land f fd):Ag P w K mg base Ap 1 f fd ["_law_ahead_here","_law_start"] (Uu c):=by
 refine F.A1 Ny λim A _ s H vs Q E hr h=>?_
 obtain⟨d,ts,n,O,rfl,hd,T,hn,ab,q⟩:=h;have hu:=Fl hr;have PM:=T.By;have PE:=Gy PM ab;exists _,AL (AW 2 Ny (CG (AA (pv 1) AD)))
  (AL (AW 3 Ny (F9 hu (pv 0) (AM NN (pv 1) AB)))
  (AL (Hy oE (BP Fj (pv 3) (pv 1))
   (AL (DH (CL oF pJ pK D1 (pv 2) (AA (pv 3) AD)))
    (AS (AW 3 Ny (F9 hu (pv 0) (AM NN (pv 3) AB))))))
  (AS (Ai (pv 2)))))
 refine⟨_,J,by exact ED,λl hl=>?_⟩;have ac:∀{H2:Hp} {y:Int},H2 d=some (.dK (BI (A2 (dn c ts))))->AJ n y->DL H2 d (.int (vS (y-c) 1)) (some (.int (AQ ts y-c))):=by
  intro H2 y h2 hy;rw[hx hy hn];exact LG h2 (iD T c hy)
 exists _,J,_,J,_,_,J,J,d,_,J,ac (AY hl _ _ _ hd) ab;refine Hu (λσ H2=>∃j,1<=j/\j<=Be (AQ ts) O/\σ=[some (.ref d),some (.int (O-c)),some (.ref l),some (.int (A4 (AQ ts) j O-c))]/\AO H H2/\H2 l=some (.AE (((DB (AQ ts) O j).map λx=>x-c).map V.int)))
  (λ_ H2=>match H2 l with|some (.AE xs)=>Be (AQ ts) O-xs.length|_=>0) ⟨1,nQ _,PE.1,J,AY hl _,AU⟩ ?_ ?_
 ·rintro σ H2 ⟨j,j1,j2,rfl,sm,aa⟩;exists _,J,_,J,J,_,rfl;by_cases he:A4 (AQ ts) j O=O
  ·refine GP (iv (by rw[he])) ?_;have hj:j=Be (AQ ts) O:=by
    rcases oM j (Be (AQ ts) O)with z|z
    ·exact absurd he (PE.2.2 j j1 z)
    ·lia
   subst hj;exact⟨_,J,q l _ sm hl aa⟩
  ·refine KL (EB (λz=>he (LO z))) ?_;have hj:j<Be (AQ ts) O:=by
    rcases oM j (Be (AQ ts) O)with z|z
    ·exact z
    ·exact absurd (by rw[show j=Be (AQ ts) O by lia];exact PE.2.1) he
   have af:=U6 PM ab;have ae:(DB (AQ ts) O j).length=j:=Oc;refine⟨_,J,.inl ⟨J,_,AI.of aa⟩,_,J,l,_,_,J,J,aa,by rw[nh,nh,ae];exact DD (by lia),?_⟩;have ad:=sm.up hl (.AE (((DB (AQ ts) O j).map λx=>x-c).map V.int++[.int (A4 (AQ ts) j O-c)]));exists _,J,_,J,_,_,J,J,d,_,J,ac (ad _ _ hd) (D5 PM ab j);exists ⟨j+1,by lia,hj,J,ad,?_⟩
   ·rw[AU,RR,oh,oh];rfl
   ·rw[AU,aa];show Be (AQ ts) O-(((DB (AQ ts) O j).map λx=>x-c).map V.int++[V.int (A4 (AQ ts) j O-c)]).length<Be (AQ ts) O-(((DB (AQ ts) O j).map λx=>x-c).map V.int).length;rw[oa,nh,nh,ae,qF]
    lia
 ·rintro σ H2 Q1 Q2 hq ⟨v,e,v',e',sc,b,eb,z⟩;exact⟨v,e,v',e',sc,b,eb,hq _ _ z⟩
inductive Sw(vs:List V)(H:Hp)(Q:VK)(_:XK):Prop
 |mk (T:Addr) (bs:List Addr) (ts:List (List Int)) (n:Nat) (y:Int) (F:vs=[.ref T,.int (y-2)]) (aa:GK H T bs (dn 2 ts)) (ac:n<=40) (ae:AJ n y) (ab:AN y∈ts.flatten) (ad:(∀t∈ts,t.length<=1000)) (O:∀p t q H',ts[p]?=some t->AN y∈t->AO H H'->H' q=some (.AG [.int ((p:Nat):Int),.int ((t.idxOf (AN y):Nat):Int)])->Q (.ref q) H')
def Qt:Ar ["_law_turns","_law_end","_law_place","_law_turn"] ["_law_turns","_law_end"] (Ah s_law_corner):=Ay
def Y4(F:Ak K "_law_corner" "_law_corner" s_law_corner f fd)(me:mg "enumerate" = none):Ag P w K mg base Ap 1 f fd ["_law_turns","_law_end"] Sw:=by
 refine F.A1 Qt λim A _ s H vs Q E hr h=>?_
 obtain⟨T,bs,ts,n,y,rfl,M,hn,hy,ho,hl,q⟩:=h;exists _,AL (Bg oE rfl (Hv (by rfl) me (AA (pv 0) AD)) (Cp (n:=2) rfl (BH (Az 2 Qt) (BH (Az 3 Qt) Cn)))
   (AS (BL (Tx ZO (AM NN (pv 1) AB) (pv 3) (by with_unfolding_all rfl))
    (AS (Ai (BS (AA (pv 2) (AA (CL oF rJ sH J3 (pv 3) (AA (AM NN (pv 1) AB) AD)) AD))))) BR)))
  (AS (Ai (BS (AA AB (AA AB AD)))))
 have ex:=WX hy hn
 try dsimp only
 try refine DG ?_
 first|refine DF λae ac=>?_|refine nx_hide λae ac=>?_
 exists _,J,T,_,J,M.h1;refine Iq (xs:=bs.map V.ref) (λi σ H2=>(∃u v,σ=[some (.ref T),some (.int (y-2)),u,v])/\AO H H2/\∀j t,j<i->ts[j]?=some t->AN y∉t) ⟨⟨none,none,J⟩,AO.refl _,λj t h=>by lia⟩ (λi σ H2 _ ⟨_,s2,_⟩=>s2 _ _ M.h1) ?_ ?_
 ·rintro i x σ H2 p hx ⟨⟨u,v,rfl⟩,s2,hz⟩ hp;obtain⟨b,t',rfl,hb,ad,hB⟩:=M.rows.ref hx;obtain⟨t,ht,rfl⟩:=VU ad;have s3:=s2.trans (AY hp (.AG [.int i,.ref b]));exists p,_,J,AH.of AU,J,_,_,J,_,_,J,rfl;generalize AF H2 p (.AG [.int i,.ref b])=H3 at s3;have ab:=s3 _ _ hB;have tl:t.length<=1000:=hl t (nz ht);exists _,J,_,_,J,J,_,J,b,_,J,.inl (AI.of ab),J,ZK _,_,rfl;rw[nS (by decide:¬(false=true)),Zj,ex];by_cases O:AN y∈t
  ·refine C3 (NW.mpr O) ?_;refine⟨_,J,_,J,.inl ⟨J,_,AI.of ab⟩,_,J,_,_,J,J,b,_,_,J,J,ab,(by rw[ex];exact NW.mpr O),by rw[nh];lia,by exact Bk,λp2 af=>?_⟩;rw[ex,QG O];exact q i t p2 _ ht O (s3.trans (AY af _)) AU
  ·refine CH (λz=>O (NW.mp z)) ⟨⟨_,_,J⟩,s3,λj t' hj aa=>?_⟩;rcases oM j i with h3|h3
   ·exact hz j t' h3 aa
   ·obtain rfl:j=i:=by lia
    rw[ht]at aa;cases aa;exact O
 ·rintro σ H2 ⟨⟨u,v,rfl⟩,s2,hz⟩;subst ac
  exfalso
  obtain⟨t,ht,O⟩:=oI.mp ho;obtain⟨j,hj,ej⟩:=oG ht;refine hz j t ?_ (by rw[nj hj,ej]) O;rw[nh,M.rows.1];simpa using hj
def Fr(T h:Addr)(bs:List Addr)(H H':Hp):Prop:=∀b o,b∉T :: h :: bs->H b=some o->H' b=some o
def Fr.refl(H:Hp):Fr T h bs H H:=λ_ _ _ e=>e
def Fr.same(s:AO H H'):Fr T h bs H H':=λb o _ e=>s b o e
def Fr.trans(a:Fr T h bs H H1)(b:Fr T h bs H1 H2):Fr T h bs H H2:=λc o n e=>b c o n (a c o n e)
def Fr.up{x:Addr}(F:x∈T :: h :: bs)(o:HO):Fr T h bs H (AF H x o):=λc u n e=>by
 rw[Ad (λz=>n (by rw[z];exact F))];exact e
structure Cf(H:Hp)(R T:Addr)(cs bs:List Addr)(ts:List (List Int))(rs:List AX):Prop where
 tm:GK H T bs (dn 2 ts)
 r1:H R=some (.AE (cs.map V.ref))
 rr:At Bw H cs rs
 rn:R∉T :: bs
def Cf.keep{R:Addr}(M:Cf H R T cs bs ts rs)(s:AO H H'):Cf H' R T cs bs ts rs:=⟨M.tm.keep s,s _ _ M.r1,M.rr.keep Df s,M.rn⟩
def Cf.bl{R:Addr}(M:Cf H R T cs bs ts rs):bs.length=ts.length:=by rw[M.tm.rows.1,nh]
def Cf.Np{R b:Addr}(M:Cf H R T cs bs ts rs)(F:bs[i]?=some b):Cf (AF H b (.AE ((t.map λx=>x-2).map V.int))) R T cs bs (ts.set i t) rs:=by
 have bm:b∈bs:=nz F;have li:i<ts.length:=by rw[<-M.bl];exact(nq.mp F).1
 have O:H b=some (.AE ((ts[i].map λx=>x-2).map V.int)):=M.tm.rows.2 i b _ F (Nj (nj li));refine⟨?_,?_,Jr O M.rr,M.rn⟩
 ·have:=M.tm.put (t:=t.map λx=>x-2) F
  rw[gK]at this;exact this
 ·rw[Ad (λz=>M.rn (by rw[z];exact oY _ bm))];exact M.r1
def Cf.new{R l:Addr}(M:Cf H R T cs bs ts rs)(F:H l=none):l∉T :: R :: bs:=by
 intro m;rcases oj.mp m with z|z
 ·rw[z,M.tm.h1]at F;cases F
 ·rcases oj.mp z with z|z
  ·rw[z,M.r1]at F;cases F
  ·obtain⟨k,O,ek⟩:=oG z;have aa:k<(dn 2 ts).length:=by rw[<-M.tm.rows.1];exact O
   have:=M.tm.rows.2 k l (dn 2 ts)[k] (by rw[nj O,ek]) (nj aa)
   unfold Bo at this;rw[F]at this;cases this
def Cf.more{R l:Addr}(M:Cf H R T cs bs ts rs)(hl:H l=none):Cf (AF (AF H l (.AE ((u.map λx=>x-2).map V.int))) T (.AE (bs.map V.ref++[.ref l]))) R T cs (bs++[l]) (ts++[u]) rs:=by
 have O:=M.new hl;refine BF hl (.AE ((u.map λx=>x-2).map V.int)) λH1 s1 e1=>?_
 have F:=M.keep s1;have lT:l≠T:=λz=>O (by simp[z])
 have lR:R≠l:=λz=>O (by simp[z])
 have lb:l∉bs:=λz=>O (by simp[z])
 have RT:R≠T:=λz=>M.rn (by simp[z])
 obtain⟨n1,n2⟩:=qm.mp M.tm.nd;exists ⟨by rw[AU];simp,?_,?_⟩,by rw[Ad RT];exact F.r1,Jr F.tm.h1 F.rr
 ·have a1:=F.tm.rows.snoc (b:=l) (x:=u.map λx=>x-2) e1;rw[show dn 2 (ts++[u])=dn 2 ts++[u.map λx=>x-2] by simp[dn]];refine⟨a1.1,λi b x q1 q2=>?_⟩
  have:=a1.2 i b x q1 q2
  unfold Bo at this ⊢;have bT:b≠T:=λz=>by
   subst z;rcases om.mp (nz q1)with w|w
   ·exact n1 w
   ·exact lT (oz.mp w).symm
  rw[Ad bT];exact this
 ·rw[qm];exists λz=>?_
  ·rcases om.mp z with w|w
   ·exact n1 w
   ·exact lT (oz.mp w).symm
  ·rw[qB];refine⟨n2,by simp,λx hx y hy z=>?_⟩;rw[oz]at hy;subst hy;subst z;exact lb hx
 ·intro z;rcases oj.mp z with w|w
  ·exact RT w
  ·rcases om.mp w with w|w
   ·exact M.rn (oY _ w)
   ·exact lR (oz.mp w)
def Cf.OE{R:Addr}(M:Cf H R T cs bs ts rs)(hy:ys=cs'.map V.ref)(hr:At Bw H cs' rs'):Cf (AF H R (.AE ys)) R T cs' bs ts rs':=by
 subst hy;refine⟨⟨?_,⟨M.tm.rows.1,λi b x F O=>?_⟩,M.tm.nd⟩,AU,Jr M.r1 hr,M.rn⟩
 ·rw[Ad (λz=>M.rn (by rw[z];exact qh ..))];exact M.tm.h1
 ·show AF H R _ b=_;rw[Ad (λz=>M.rn (by rw[<-z];exact oY _ (nz F)))];exact M.tm.rows.2 i b x F O
def FrN.free{R l:Addr}(F:Fr T R bs H H')(M:Cf H' R T cs bs ts rs)(O:H' l=none):H l=none:=by
 cases e:H l with
 |none=>rfl
 |some o =>
  have:=F l o (M.new O) e
  rw[this]at O;cases O
def dY{k x:Nat}(h:rs[k]?=some r):CV (rs.set k (r.1,x,q))=(CV rs).set (2*k+1) x:=by
 induction rs generalizing k with
 |nil=>simp at h
 |cons r0 rs ih =>
  cases k with
  |zero=>cases h;rfl
  |succ k =>
   have:=ih (k:=k) (by simpa using h)
   show r0.1 :: r0.2.1 :: CV (rs.set k (r.1,x,q))=(r0.1 :: r0.2.1 :: CV rs).set (2*(k+1)+1) x;rw[this,show 2*(k+1)+1=2*k+1+1+1 by lia];rfl
abbrev A3(rs:List AX):List Nat:=[0,1]++CV rs
inductive Uv(vs:List V)(H:Hp)(Q:VK)(_:XK):Prop
 |mk (R T e:Addr) (cs bs:List Addr) (ts:List (List Int)) (rs:List AX) (c:Int) (F:Rat) (ab:vs=[.ref R,.ref T,.int c,.ref e]) (ae:Cf H R T cs bs ts rs) (ag:Gn ts (A3 rs)) (ai:rs.length<=13) (af:0<=c) (ah:AR H e F) (ac:GV F) (aa:(∀r∈rs,GV r.2.2)) (ad:∀H' cs' O ts' rs',Fr T R bs H H'->(∀b∈O,b∈bs\/H b=none)->Cf H' R T cs' O ts' rs'->Gn ts' (A3 rs')->rs'.length=rs.length+1->(∀r∈rs',GV r.2.2)->Q .A5 H')
def Ep:Ar ["_law_ropes","_law_turns","_law_c","_law_ease_here","_law_many","_law_start","_law_place","_law_at","_law_rope","_law_one","_law_far","_law_old","_law_ring","_law_spot"] ["_law_ropes","_law_turns","_law_c","_law_ease_here"] (Ah sGrow):=Ay
set_option maxHeartbeats 1000000 in
def fH (F:Ak K "_law_grow" "_law_grow" sGrow f fd)(G1:AZ P w K mg base 1 "_law_corner" ["_law_turns","_law_end"] Sw)
  (G2:AZ P w K mg base 1 "_law_ahead" ["_law_turns"] TH)
  (G3:AZ P w K mg base 1 "_law_land" ["_law_ahead_here","_law_start"] (Uu 2))(ml:mg "len" = none) :
  Ag P w K mg base Ap 2 f fd ["_law_ropes","_law_turns","_law_c","_law_ease_here"] Uv:=by
 refine F.A1 Ep λim A _ s H vs Q E hr h=>?_
 obtain⟨R,T,e,cs,bs,ts,rs,c,qe,rfl,M,g,ci,c0,he,ax,al,q⟩:=h;exists _,AL (AW 4 Ep (AM CW AB (B4 ml (pv 0))))
  (AL (AW 5 Ep (AM C7 (AM B9 (pv 2) (AM BK (pv 4) AB)) AB))
  (AL (AW 2 Ep (AM Eh (pv 2) (AM BK (pv 4) AB)))
  (AL (Dg (AV G1 (AA (pv 1) (AA (pv 5) AD))) (Cp (n:=2) rfl (BH (Az 6 Ep) (BH (Az 7 Ep) Cn))))
  (AS (BL (BP DX (AM B9 (pv 2) AB) AB)
   (AL (DH (CL oF uH vO OY (pL (pv 1) (pv 6)) (AA (pv 7) (AA (pv 4) AD))))
   (AL (DH (CL oF pJ pK D1 (pv 1) (AA (CG (AA (AM BK (pv 4) AB) AD)) AD)))
   (AS (DH (CL oF pJ pK D1 (pv 0) (AA (BS (AA (pv 6) (AA (AM C7 (B4 ml (pv 1)) AB) (AA (pv 3) AD)))) AD))))))
   (AS (BL (BP DX (AM B9 (pv 2) AB) AB)
    (AL (AW 8 Ep (AM B9 (AM Eh (pv 2) AB) (B4 ml (pv 0))))
    (AL (Dg (pL (pv 0) (pv 8)) (Cp (n:=3) rfl (BH (Az 9 Ep) (BH (Az 10 Ep) (BH (Az 11 Ep) Cn)))))
    (AL (Dg (AM BK (pv 4) AB) (Fc (pL (pv 1) (pv 10)) (CL oF rJ sH J3 (pL (pv 1) (pv 10)) (AA (AM BK (AM CW AB (pv 8)) AB) AD)) FX))
    (AL (DH (CL oF pJ pK D1 (pv 1) (AA (CG (AA (AM BK (AM CW AB (pv 8)) AB) (AA (pv 4) AD))) AD)))
    (AL (Dg (BS (AA (pv 9) (AA (AM C7 (B4 ml (pv 1)) AB) (AA (pv 11) AD)))) (Fc (pv 0) (pv 8) FX))
    (AS (DH (CL oF pJ pK D1 (pv 0) (AA (BS (AA (AM C7 (B4 ml (pv 1)) AB) (AA (pv 10) (AA (pv 3) AD)))) AD)))))))))
    (AL (AW 12 Ep (AV G3 (AA (AV G2 (AA (pv 1) AD)) (AA (pv 5) AD))))
    (AL (DH (CL oF uH vO OY (pL (pv 1) (pv 6)) (AA (pv 7) (AA (pv 4) AD))))
    (AL (Dg (AV G1 (AA (pv 1) (AA (pL (pv 12) (AM B9 (AM Eh (pv 2) AB) (B4 ml (pv 12)))) AD))) (Cp (n:=2) rfl (BH (Az 10 Ep) (BH (Az 13 Ep) Cn))))
    (AL (DH (CL oF uH vO OY (pL (pv 1) (pv 10)) (AA (pv 13) (AA (AM BK (pv 4) AB) AD))))
    (AS (DH (CL oF pJ pK D1 (pv 0) (AA (BS (AA (pv 6) (AA (pv 10) (AA (pv 3) AD)))) AD)))))))))))))))
 have ev:=g.ev;have n4:=g.n4;have PM:=g.Dv.By;have cg:=g.Ww;have bq:(A3 rs).length=2*rs.length+2:=by rw[oa,E7];simp;lia
 have lc:(((cs.map V.ref).length:Nat):Int)=(rs.length:Int):=by rw[nh,M.rr.1]
 have a0:(cs.map V.ref).length<oK:=by rw[nh,M.rr.1];exact DD (by lia)
 have m4:(0:Int)<4:=by decide
 have au:∀x:Int,Lu 2 x:=λx=>.inl ⟨by decide,by decide⟩
 have ao:(0:Int)<2*(rs.length:Int)+2:=by lia
 have nE:((A3 rs).length:Int)=2*(rs.length:Int)+2:=by rw[bq];push_cast;rfl
 have tl:∀t∈ts,t.length<=1000:=λt ht=>by have:=Oj ht;rw[g.Dv.len]at this;lia
 exists _,J,R,_,J,.inl (AI.of M.r1),_,_,J,J,au _
 (try dsimp only)
 rw[lc];exists _,J,_,J,_,_,J,J,_,_,J,J,ao,_,_,J,rfl;exists _,J,_,J,_,_,J,J,_,_,J,J,⟨ao,by show 2*(rs.length:Int)+2<1073741824;lia⟩
 (try dsimp only)
 have c2:0<=c / (2*(rs.length:Int)+2):=Int.ediv_nonneg c0 (by lia);have yR:AJ (A3 rs).length (c%(2*(rs.length:Int)+2)):=⟨qx _ (tu ao),by rw[nE];exact qD _ ao⟩;generalize c%(2*(rs.length:Int)+2)=y at yR;generalize c / (2*(rs.length:Int)+2)=z at c2;have yo:=C0 ev yR;refine⟨_,J,_,J,T,bs,ts,(A3 rs).length,y,J,M.tm,by lia,yR,(g.mem _).mpr yo,tl,λp t pq H1 hp hx s1 b0=>?_⟩;exists pq,_,J,AH.of b0,J,_,_,J,_,_,J,rfl;have M1:=M.keep s1;have af:=An s1 he;have F1:Fr T R bs H H1:=Fr.same s1;obtain⟨t1,t2,rfl,nm⟩:=Ma hx;have ix:=Mz (u2:=t2) nm;have pl:p<ts.length:=(nq.mp hp).1;have bu:=Pn g hp;obtain⟨b,hb,bm,ab,hB⟩:=Pd M1.tm (Nj hp);rw[ix];have e3:∀(x:Int) (u1 u2:List Int) (o:Int),(((u1++o :: u2).map λx=>x-2).map V.int).take ((u1.length:Int)).toNat++V.int (x-2) :: (((u1++o :: u2).map λx=>x-2).map V.int).drop ((u1.length:Int)).toNat=((u1++x :: o :: u2).map λx=>x-2).map V.int:=by
  intro x u1 u2 o;rw[pG,<-List.map_take,<-List.map_drop,<-List.map_take,<-List.map_drop];simp
 have em:(2:Int)*(rs.length:Int)=((A3 rs).length:Int)-2:=by rw[nE];lia
 have b2:(2:Int)*(rs.length:Int)+1=((A3 rs).length:Int)+1-2:=by rw[nE];lia
 have a6:=M.bl;exists _,J,_,_,J,J,m4,J,_,rfl;refine Fs (λ_=>?_) (λ_=>?_)
 ·
  refine⟨_,J,_,J,T,_,_,_,J,J,AI.of M1.tm.h1,ab,.inl ⟨J,_,AI.of hB⟩,_,J,_,J,b,_,(t1.length:Int),.int (2*(rs.length:Int)),J,J,hB,by lia,by simp;lia,by rw[nh,nh];lia,?_⟩;rw[em,e3];have M2:=M1.Np (t:=t1++((A3 rs).length:Int) :: AN y :: t2) hb;have F2:=F1.trans (Fr.up (T:=T) (h:=R) (bs:=bs) (H:=H1) (x:=b) (by simp[bm]) (.AE (((t1++((A3 rs).length:Int) :: AN y :: t2).map λx=>x-2).map V.int)));have ah:AR (AF H1 b (.AE (((t1++((A3 rs).length:Int) :: AN y :: t2).map λx=>x-2).map V.int))) e qe:=by
   unfold AR at af ⊢;rw[Ad (λz=>by rw[z,hB]at af;cases af)];exact af
  generalize AF H1 b (.AE (((t1++((A3 rs).length:Int) :: AN y :: t2).map λx=>x-2).map V.int))=H2 at M2 F2 ah;refine⟨_,J,.inl ⟨J,_,AI.of M2.tm.h1⟩,_,J,_,_,J,J,by exact ED,λl hl=>?_⟩;have s3:=AY hl (.AE [.int (((A3 rs).length:Int)-2+1)]);refine⟨T,_,_,J,J,s3 _ _ M2.tm.h1,by rw[nh];exact DD (by lia),?_⟩;have fl:=FrN.free F2 M2 hl;have M3:=M2.more (u:=[((A3 rs).length:Int)+1]) hl;have e4:(([((A3 rs).length:Int)+1].map λx=>x-2).map V.int)=[.int (((A3 rs).length:Int)-2+1)]:=by
   show [V.int (((A3 rs).length:Int)+1-2)]=_;rw[show((A3 rs).length:Int)+1-2=((A3 rs).length:Int)-2+1 by lia]
  rw[e4]at M3;have aa:AR (AF (AF H2 l (.AE [.int (((A3 rs).length:Int)-2+1)])) T (.AE (bs.map V.ref++[.ref l]))) e qe:=by
   have:=An s3 ah
   unfold AR at this ⊢;rw[Ad (λz=>by rw[z,s3 _ _ M2.tm.h1]at this;cases this)];exact this
  have F3:=(F2.trans (Fr.same s3)).trans (Fr.up (T:=T) (h:=R) (bs:=bs) (x:=T) (by simp) (.AE (bs.map V.ref++[.ref l])));generalize AF (AF H2 l (.AE [.int (((A3 rs).length:Int)-2+1)])) T (.AE (bs.map V.ref++[.ref l]))=H3 at M3 aa F3;refine⟨_,J,.inl ⟨J,_,AI.of M3.r1⟩,_,J,_,J,T,_,J,.inl (AI.of M3.tm.h1),_,_,J,J,_,J,by exact GA,λO ak=>?_⟩;have el:((((bs++[l]).map V.ref).length:Nat):Int)-1=(ts.length:Int):=by rw[nh,oa,a6];simp
  (try dsimp only)
  rw[el];have s4:=AY ak (.AG [.int (p:Int),.int (ts.length:Int),.ref e]);have ad:Bw (AF H3 O (.AG [.int (p:Int),.int (ts.length:Int),.ref e])) O (p,ts.length,qe):=⟨e,AU,An s4 aa⟩;have M4:=M3.keep s4;have F4:=F3.trans (Fr.same (T:=T) (h:=R) (bs:=bs) s4);generalize AF H3 O (.AG [.int (p:Int),.int (ts.length:Int),.ref e])=H4 at ad M4 F4;exists R,_,_,J,J,M4.r1,a0;have M5:=M4.OE (cs':=cs++[O]) (rs':=rs++[(p,ts.length,qe)]) (ys:=cs.map V.ref++[.ref O]) (by simp) (M4.rr.snoc ad);refine q _ (cs++[O]) (bs++[l]) _ _ (F4.trans (Fr.up (by simp) _)) (λx hx=>?_) M5 ?_ (by simp) (λr ai=>?_)
  ·rcases om.mp hx with w|w
   ·exact .inl w
   ·exact .inr (by rw[oz.mp w];exact fl)
  ·have:=g.Ls hp
   rw[show A3 (rs++[(p,ts.length,qe)])=A3 rs++[p]++[ts.length] by unfold A3;rw[MY];simp];exact this
  ·rcases om.mp ai with w|w
   ·exact al r w
   ·rw[oz.mp w];exact ax
 exists _,J,_,_,J,J,m4,J,_,rfl;refine Fs (λ_=>?_) (λ_=>?_)
 ·
  have mp:(0:Int)<(((cs.map V.ref).length:Nat):Int):=by rw[lc];lia
  exists _,J,_,_,J,J,⟨by decide,by decide⟩,_,J,R,_,J,.inl (AI.of M1.r1),_,_,J,J,mp
  (try dsimp only)
  have d0:=qx (z / 4) (tu mp);have d1:=qD (z / 4) mp;rw[lc]at d0 d1 ⊢;obtain⟨k,hk⟩:∃k:Nat,z / 4%(rs.length:Int)=(k:Int):=⟨(z / 4%(rs.length:Int)).toNat,by lia⟩;rw[hk]at d1 ⊢;have a5:k<rs.length:=by lia
  have ag:rs[k]?=some rs[k]:=nj a5;generalize rs[k]=r at ag;obtain⟨rc,bj,e0,br,bf⟩:=M1.rr.get ag;exists _,J,_,J,R,_,_,_,J,J,AI.of M1.r1,BQ (C9 bj),rc,_,J,AH.of br,J,_,_,J,_,_,J,_,_,J,rfl;have bx:AJ (A3 rs).length (2*(k:Int)+3):=⟨by lia,by rw[nE];lia⟩;obtain⟨pp,tt,aj,px,pm⟩:=g.at bx;obtain⟨a1,a2⟩:=Iw ag;have ca:pp=r.2.1:=by
   have e1:(A3 rs)[(2*(k:Int)+3).toNat]?=some r.2.1:=by
    rw[show(2*(k:Int)+3).toNat=2+(2*k+1) by lia];show(0 :: 1 :: CV rs)[2+(2*k+1)]?=_;rw[show 2+(2*k+1)=2*k+1+1+1 by lia,qw,qw];exact a2
   rw[e1]at pm;exact(oy pm).symm
  subst ca;have cj:=Pn g aj;have ce:r.2.1<ts.length:=(nq.mp aj).1;obtain⟨bb,bg,bt,a3,ap⟩:=Pd M1.tm (Nj aj);have b3:=VR g.nd (nz aj);have b9:tt.idxOf (2*(k:Int)+3)<tt.length:=rC.mpr px;have av:(2:Int)*(k:Int)+1=2*(k:Int)+3-2:=by lia
  refine⟨_,J,_,_,J,J,_,J,_,J,T,_,_,_,J,J,AI.of M1.tm.h1,a3,_,J,_,J,T,_,_,_,J,J,AI.of M1.tm.h1,a3,.inl ⟨J,_,AI.of ap⟩,_,J,_,_,J,J,au _,_,_,J,J,bb,tt.map (λx=>x-2),_,J,J,ap,by rw[av];exact NW.mpr px,by rw[nh];lia,bb,_,_,tt.idxOf (2*(k:Int)+3),J,J,ap,by rw[av,QG px,nh,nh];exact Jw b9,?_⟩;have e5:((tt.map λx=>x-2).map V.int).set (tt.idxOf (2*(k:Int)+3)) (V.int (2*(rs.length:Int)+1))=((tt.map λx=>if x=2*(k:Int)+3 then ((A3 rs).length:Int)+1 else x).map λx=>x-2).map V.int:=by
   rw[<-Tg b3 px,vh,vh,b2]
  (try dsimp only)
  rw[e5];have M2:=M1.Np (t:=tt.map λx=>if x=2*(k:Int)+3 then ((A3 rs).length:Int)+1 else x) bg;have F2:=F1.trans (Fr.up (T:=T) (h:=R) (bs:=bs) (H:=H1) (x:=bb) (by simp[bt]) (.AE (((tt.map λx=>if x=2*(k:Int)+3 then ((A3 rs).length:Int)+1 else x).map λx=>x-2).map V.int)));have be:∀{a:Addr} {qq:Rat},AR H1 a qq->AR (AF H1 bb (.AE (((tt.map λx=>if x=2*(k:Int)+3 then ((A3 rs).length:Int)+1 else x).map λx=>x-2).map V.int))) a qq:=by
   intro a qq h;unfold AR at h ⊢;rw[Ad (λz=>by rw[z,ap]at h;cases h)];exact h
  have ah:=be af;have a8:=be bf;generalize AF H1 bb (.AE (((tt.map λx=>if x=2*(k:Int)+3 then ((A3 rs).length:Int)+1 else x).map λx=>x-2).map V.int))=H2 at M2 F2 ah a8;refine⟨_,J,.inl ⟨J,_,AI.of M2.tm.h1⟩,_,J,_,_,J,J,au _,_,_,J,J,_,J,by exact Bk,λl hl=>?_⟩;have s3:=AY hl (.AE [.int (2*(k:Int)+1),.int (2*(rs.length:Int))]);refine⟨T,_,_,J,J,s3 _ _ M2.tm.h1,by rw[nh];exact DD (by lia),?_⟩;have fl:=FrN.free F2 M2 hl;have M3:=M2.more (u:=[2*(k:Int)+3,((A3 rs).length:Int)]) hl;have e4:(([2*(k:Int)+3,((A3 rs).length:Int)].map λx=>x-2).map V.int)=[.int (2*(k:Int)+1),.int (2*(rs.length:Int))]:=by
   show [V.int (2*(k:Int)+3-2),V.int (((A3 rs).length:Int)-2)]=_;rw[<-em,<-av]
  rw[e4]at M3;have az:∀{a:Addr} {qq:Rat},AR H2 a qq->AR (AF (AF H2 l (.AE [.int (2*(k:Int)+1),.int (2*(rs.length:Int))])) T (.AE (bs.map V.ref++[.ref l]))) a qq:=by
   intro a qq h
   have:=An s3 h
   unfold AR at this ⊢;rw[Ad (λz=>by rw[z,s3 _ _ M2.tm.h1]at this;cases this)];exact this
  have aa:=az ah;have a7:=az a8;have F3:=(F2.trans (Fr.same s3)).trans (Fr.up (T:=T) (h:=R) (bs:=bs) (x:=T) (by simp) (.AE (bs.map V.ref++[.ref l])));dsimp only at M3 ⊢;generalize AF (AF H2 l (.AE [.int (2*(k:Int)+1),.int (2*(rs.length:Int))])) T (.AE (bs.map V.ref++[.ref l]))=H3 at M3 aa a7 F3;have el:((((bs++[l]).map V.ref).length:Nat):Int)-1=(ts.length:Int):=by rw[nh,oa,a6];simp
  refine⟨_,J,_,J,T,_,J,.inl (AI.of M3.tm.h1),_,_,J,J,_,J,by exact GA,λnp b8=>?_⟩
  (try dsimp only)
  rw[el];have s4:=AY b8 (.AG [.int (r.1:Int),.int (ts.length:Int),.ref e0]);have ad:Bw (AF H3 np (.AG [.int (r.1:Int),.int (ts.length:Int),.ref e0])) np (r.1,ts.length,r.2.2):=⟨e0,AU,An s4 a7⟩;have M4:=M3.keep s4;have ac:=An s4 aa;have F4:=F3.trans (Fr.same (T:=T) (h:=R) (bs:=bs) s4);generalize AF H3 np (.AG [.int (r.1:Int),.int (ts.length:Int),.ref e0])=H4 at ad M4 F4 ac;refine⟨_,J,_,J,R,_,_,k,J,J,M4.r1,by rw[nh,M.rr.1];exact Jw a5,?_⟩;have M5:=M4.OE (cs':=cs.set k np) (rs':=rs.set k (r.1,ts.length,r.2.2)) (ys:=(cs.map V.ref).set k (.ref np)) (by rw[vh]) (M4.rr.set k ad);have F5:=F4.trans (Fr.up (T:=T) (h:=R) (bs:=bs) (H:=H4) (x:=R) (by simp) (.AE ((cs.map V.ref).set k (.ref np))));have ae:AR (AF H4 R (.AE ((cs.map V.ref).set k (.ref np)))) e qe:=by
   unfold AR at ac ⊢;rw[Ad (λz=>by rw[z,M4.r1]at ac;cases ac)];exact ac
  generalize AF H4 R (.AE ((cs.map V.ref).set k (.ref np)))=H5 at M5 F5 ae;refine⟨_,J,.inl ⟨J,_,AI.of M5.r1⟩,_,J,T,_,J,.inl (AI.of M5.tm.h1),_,_,J,J,_,J,_,J,by exact GA,λO ak=>?_⟩
  (try dsimp only)
  rw[el];have s6:=AY ak (.AG [.int (ts.length:Int),.int (r.2.1:Int),.ref e]);have ba:Bw (AF H5 O (.AG [.int (ts.length:Int),.int (r.2.1:Int),.ref e])) O (ts.length,r.2.1,qe):=⟨e,AU,An s6 ae⟩;have M6:=M5.keep s6;have F6:=F5.trans (Fr.same (T:=T) (h:=R) (bs:=bs) s6);generalize AF H5 O (.AG [.int (ts.length:Int),.int (r.2.1:Int),.ref e])=H6 at ba M6 F6;refine⟨R,_,_,J,J,M6.r1,by rw[nh,rS,M.rr.1];exact DD (by lia),?_⟩;have M7:=M6.OE (cs':=cs.set k np++[O]) (rs':=rs.set k (r.1,ts.length,r.2.2)++[(ts.length,r.2.1,qe)]) (ys:=(cs.set k np).map V.ref++[.ref O]) (by simp) (M6.rr.snoc ba);refine q _ (cs.set k np++[O]) (bs++[l]) _ _ (F6.trans (Fr.up (by simp) _)) (λx hx=>?_) M7 ?_ (by simp) (λr' ai=>?_)
  ·rcases om.mp hx with w|w
   ·exact .inl w
   ·exact .inr (by rw[oz.mp w];exact fl)
  ·have:=g.BJ (r:=k+1) (pe:=2*(k:Int)+3) (by lia) (by push_cast;lia) aj px
   rw[show A3 (rs.set k (r.1,ts.length,r.2.2)++[(ts.length,r.2.1,qe)])=(A3 rs++[ts.length]++[r.2.1]).set (2*(k:Int)+3).toNat ts.length by
    have bv:=E7 rs;rw[show(2*(k:Int)+3).toNat=2*k+1+1+1 by lia];unfold A3;rw[MY,dY ag];show 0 :: 1 :: ((CV rs).set (2*k+1) ts.length++[ts.length]++[r.2.1])=(0 :: 1 :: (CV rs++[ts.length]++[r.2.1])).set (2*k+1+1+1) ts.length;rw[aay,aay,p7,p7,List.set_append_left _ _ (by rw[bv];lia)]]
   exact this
  ·rcases om.mp ai with w|w
   ·rcases rT w with w|w
    ·exact al r' w
    ·rw[w];exact al r (nz ag)
   ·rw[oz.mp w];exact ax
 ·
  refine⟨_,J,T,bs,_,J,M1.tm,jY g.nd,by rw[TR,nh,g.Dv.len];lia,λd H2 s2 _ hd=>?_⟩;refine⟨_,J,d,ts,(A3 rs).length,y,J,hd,g.Dv,by lia,yR,λrg H3 s3 b7 bc=>?_⟩;have am:=s2.trans s3;have M3:=M1.keep am;have aa:=An am af;have F3:=F1.trans (Fr.same (T:=T) (h:=R) (bs:=bs) am);have Rm:=Js PM yR;have a9:∀{b:Int},b∈Bq (AQ ts) y->AJ (A3 rs).length b/\∃k,A4 (AQ ts) k y=b:=λhb=>⟨LH PM yR hb,X0 PM yR Rm hb⟩
  generalize Bq (AQ ts) y=Rg at bc Rm a9;have Rl:0<(Rg.map λx=>x-2).length:=by rw[nh];exact rO Rm
  have bw:(0:Int)<((((Rg.map λx=>x-2).map V.int).length:Nat):Int):=by rw[nh];lia
  obtain⟨x2,xm,bz⟩:=mF Rl (z / 4);obtain⟨x,bi,rfl⟩:=n8.mp xm;obtain⟨xR,kx⟩:=a9 bi;have xo:=C0 ev xR;have cf:=ab;have ar:=am _ _ hB;refine⟨_,J,_,J,T,_,_,_,J,J,AI.of M3.tm.h1,ab,.inl ⟨J,_,AI.of ar⟩,_,J,_,J,b,_,(t1.length:Int),.int (2*(rs.length:Int)),J,J,ar,by lia,by simp;lia,by rw[nh,nh];lia,?_⟩;rw[em,e3];have M4:=M3.Np (t:=t1++((A3 rs).length:Int) :: AN y :: t2) hb;have F4:=F3.trans (Fr.up (T:=T) (h:=R) (bs:=bs) (H:=H3) (x:=b) (by simp[bm]) (.AE (((t1++((A3 rs).length:Int) :: AN y :: t2).map λx=>x-2).map V.int)));have ac:AR (AF H3 b (.AE (((t1++((A3 rs).length:Int) :: AN y :: t2).map λx=>x-2).map V.int))) e qe:=by
   unfold AR at aa ⊢;rw[Ad (λz=>by rw[z,ar]at aa;cases aa)];exact aa
  have aq:(AF H3 b (.AE (((t1++((A3 rs).length:Int) :: AN y :: t2).map λx=>x-2).map V.int))) rg=some (.AE ((Rg.map λx=>x-2).map V.int)):=by
   rw[Ad (qu (BW (s2 _ _ hB) b7))];exact bc
  generalize AF H3 b (.AE (((t1++((A3 rs).length:Int) :: AN y :: t2).map λx=>x-2).map V.int))=H4 at M4 F4 ac aq;have b4:∀{o:Int},o∈ts.flatten->o∈(ts.set p (t1++((A3 rs).length:Int) :: AN y :: t2)).flatten:=by
   intro o ho;obtain⟨t,ht,hm⟩:=oI.mp ho;obtain⟨j,hj,ej⟩:=oG ht;by_cases e:p=j
   ·subst e
    have:t=t1++AN y :: t2:=by rw[nj hj,ej]at hp;exact oy hp
    subst this;refine oI.mpr ⟨_,nz (pM pl),?_⟩;rcases om.mp hm with w|w
    ·exact qU _ w
    ·exact pC _ (oY _ w)
   ·exact oI.mpr ⟨t,nz (show(ts.set p (t1++((A3 rs).length:Int) :: AN y :: t2))[j]?=some t by rw[pF e,nj hj,ej]),hm⟩
  have a4:∀t∈ts.set p (t1++((A3 rs).length:Int) :: AN y :: t2),t.length<=999:=by
   intro t ht;rcases rT ht with w|w
   ·have:=Oj w;rw[g.Dv.len]at this;lia
   ·rw[w];rw[oa,oP]at bu;rw[oa,oP,oP]
    lia
  refine⟨_,J,_,J,_,J,_,_,J,J,⟨by decide,by decide⟩,_,J,rg,_,J,.inl (AI.of aq),_,_,J,J,bw,rg,_,_,_,J,J,AI.of aq,bz,T,bs,_,(A3 rs).length,x,J,M4.tm,by lia,xR,b4 ((g.mem _).mpr xo),λt ht=>by have:=a4 t ht;lia,λp2 u cc H5 ay bo s5 b6=>?_⟩;exists cc,_,J,AH.of b6,J,_,_,J,_,_,J,rfl;have M5:=M4.keep s5;have ae:=An s5 ac;have F5:=F4.trans (Fr.same (T:=T) (h:=R) (bs:=bs) s5);obtain⟨u1,u2,rfl,nu⟩:=Ma bo;have cb:=Mz (u2:=u2) nu;have ul:=a4 _ (nz ay);obtain⟨b5,bn,bp,bh,aw⟩:=Pd M5.tm (Nj ay);rw[cb];refine⟨_,J,_,J,T,_,_,_,J,J,AI.of M5.tm.h1,bh,.inl ⟨J,_,AI.of aw⟩,_,J,_,J,_,_,J,J,b5,_,(u1.length:Int),.int (((A3 rs).length:Int)-2+1),J,J,aw,by lia,by simp;lia,by rw[nh,nh];lia,?_⟩;rw[show((A3 rs).length:Int)-2+1=((A3 rs).length:Int)+1-2 by lia,e3];have M6:=M5.Np (t:=u1++(((A3 rs).length:Int)+1) :: AN x :: u2) bn;have F6:=F5.trans (Fr.up (T:=T) (h:=R) (bs:=bs) (H:=H5) (x:=b5) (by simp[bp]) (.AE (((u1++(((A3 rs).length:Int)+1) :: AN x :: u2).map λx=>x-2).map V.int)));have bd:AR (AF H5 b5 (.AE (((u1++(((A3 rs).length:Int)+1) :: AN x :: u2).map λx=>x-2).map V.int))) e qe:=by
   unfold AR at ae ⊢;rw[Ad (λz=>by rw[z,aw]at ae;cases ae)];exact ae
  generalize AF H5 b5 (.AE (((u1++(((A3 rs).length:Int)+1) :: AN x :: u2).map λx=>x-2).map V.int))=H6 at M6 F6 bd;refine⟨_,J,.inl ⟨J,_,AI.of M6.r1⟩,_,J,_,J,_,J,by exact GA,λO ak=>?_⟩;have s7:=AY ak (.AG [.int (p:Int),.int (p2:Int),.ref e]);have ad:Bw (AF H6 O (.AG [.int (p:Int),.int (p2:Int),.ref e])) O (p,p2,qe):=⟨e,AU,An s7 bd⟩;have M7:=M6.keep s7;have F7:=F6.trans (Fr.same (T:=T) (h:=R) (bs:=bs) s7);generalize AF H6 O (.AG [.int (p:Int),.int (p2:Int),.ref e])=H7 at ad M7 F7;exists R,_,_,J,J,M7.r1,a0;have M8:=M7.OE (cs':=cs++[O]) (rs':=rs++[(p,p2,qe)]) (ys:=cs.map V.ref++[.ref O]) (by simp) (M7.rr.snoc ad);refine q _ (cs++[O]) bs _ _ (F7.trans (Fr.up (by simp) _)) (λx hx=>.inl hx) M8 ?_ (by simp) (λr ai=>?_)
  ·have:=g.LZ yR kx hp ay
   rw[show A3 (rs++[(p,p2,qe)])=A3 rs++[p]++[p2] by unfold A3;rw[MY];simp];exact this
  ·rcases om.mp ai with w|w
   ·exact al r w
   ·rw[oz.mp w];exact ax
end
end My
namespace My
open PySem L2 Mth
def cI(c:Int):Nat->Int
 |0=>c
 |i+1=>cI c i / 2
abbrev Jf(c:Int)(k:Nat):Int:=cI c k%2
def Co(c:Int)(k:Nat):Jf c k=0\/Jf c k=1:=by
 show cI c k%2=0\/cI c k%2=1
 lia
abbrev oA(os:List Nat)(k:Nat):Nat:=os.getD k 0
def A9(m:Nat)(os:List Nat)(c:Int)(x:Int):Int :=
 if x<2 then 2*(m:Int)+x else if x%2=0 then 2*(oA os ((x.toNat-2) / 2):Int)+Jf c ((x.toNat-2) / 2) else 2*(oA os ((x.toNat-2) / 2):Int)+1-Jf c ((x.toNat-2) / 2)
section
variable {m n:Nat}{os ps:List Nat}{c:Int}
def IM:A9 m os c 0=2*(m:Int):=by unfold A9;rw[nX (by decide)];lia
def JK:A9 m os c 1=2*(m:Int)+1:=by unfold A9;rw[nX (by decide)]
def IP(k:Nat):A9 m os c (2*(k:Int)+2)=2*(oA os k:Int)+Jf c k:=by
 unfold A9;rw[nS (by lia),nX (by lia),show((2*(k:Int)+2).toNat-2) / 2=k by lia]
def IL(k:Nat):A9 m os c (2*(k:Int)+3)=2*(oA os k:Int)+1-Jf c k:=by
 unfold A9;rw[nS (by lia),nS (by lia),show((2*(k:Int)+3).toNat-2) / 2=k by lia]
def LD(h:AJ (2*m+2) x):x=0\/x=1\/∃k:Nat,k<m/\(x=2*(k:Int)+2\/x=2*(k:Int)+3):=by
 obtain⟨h1,h2⟩:=h;rcases ve x 2 with z|z
 ·lia
 ·exact .inr (.inr ⟨(x.toNat-2) / 2,by lia,by lia⟩)
def DS(h:os.Perm (og m))(hk:k<m):os[k]?=some (oA os k)/\oA os k<m:=by
 have F:=h.length_eq;rw[oR]at F;have O:k<os.length:=by lia
 have e:os[k]?=some (oA os k):=by
  unfold oA;rw[nO,nj O];rfl
 exact⟨e,o7.mp (h.mem_iff.mp (nz e))⟩
def KH(h:os.Perm (og m))(F:k<m)(hj:j<m)(e:oA os k=oA os j):k=j:=by
 have O:=h.length_eq;rw[oR]at O;have nd:os.Nodup:=h.nodup_iff.mpr tH;exact(List.getElem?_inj (by lia) nd).mp (by rw[(DS h F).1,(DS h hj).1,e])
def NU(h:os.Perm (og m))(F:q<m):∃k,k<m/\oA os k=q:=by
 have hl:=h.length_eq;rw[oR]at hl;obtain⟨k,O,e⟩:=oG (h.mem_iff.mpr (o7.mpr F));refine⟨k,by lia,?_⟩;unfold oA;rw[nO,nj O,e];rfl
def eZ(h:ps.Perm (og n)):(0 :: 1 :: ps.map λx=>x+2).Perm (og (n+2)):=by
 rw[qZ,qZ,n9,pO];exact((h.map λx=>x+2).cons 1).cons 0
def gX(n2:2<=n)(O:os.Perm (og m))(hp:ps.Perm (og n))(p0:oA ps 0=0)(p1:oA ps 1=1):W6 n m (oA ps) (A9 m os c):=by
 have ad:∀x,AJ (2*m+2) x->AJ (2*m+2) (A9 m os c x):=by
  intro x hx;rcases LD hx with rfl|rfl|⟨k,F,rfl|rfl⟩
  ·rw[IM];exact⟨by lia,by push_cast;lia⟩
  ·rw[JK];exact⟨by lia,by push_cast;lia⟩
  ·rw[IP]
   have:=(DS O F).2
   rcases Co c k with z|z<;>(rw[z];exact⟨by lia,by push_cast;lia⟩)
  ·rw[IL]
   have:=(DS O F).2
   rcases Co c k with z|z<;>(rw[z];exact⟨by lia,by push_cast;lia⟩)
 have aa:∀y,∃x,AJ (2*m+2) y->AJ (2*m+2) x/\A9 m os c x=y:=by
  intro y;by_cases hy:AJ (2*m+2) y
  ·have ac:=hy;obtain⟨h1,h2⟩:=ac;push_cast at h2;by_cases e0:y=2*(m:Int)
   ·exact⟨0,λ_=>⟨⟨by lia,by push_cast;lia⟩,by rw[IM,e0]⟩⟩
   by_cases e1:y=2*(m:Int)+1
   ·exact⟨1,λ_=>⟨⟨by lia,by push_cast;lia⟩,by rw[JK,e1]⟩⟩
   obtain⟨k,F,ek⟩:=NU O (q:=y.toNat / 2) (by lia);rcases(show y%2=0\/y%2=1 by lia)with z|z<;>rcases Co c k with f|f
   ·exact⟨2*(k:Int)+2,λ_=>⟨⟨by lia,by push_cast;lia⟩,by rw[IP,f,ek];lia⟩⟩
   ·exact⟨2*(k:Int)+3,λ_=>⟨⟨by lia,by push_cast;lia⟩,by rw[IL,f,ek];lia⟩⟩
   ·exact⟨2*(k:Int)+3,λ_=>⟨⟨by lia,by push_cast;lia⟩,by rw[IL,f,ek];lia⟩⟩
   ·exact⟨2*(k:Int)+2,λ_=>⟨⟨by lia,by push_cast;lia⟩,by rw[IP,f,ek];lia⟩⟩
  ·exact⟨0,λz=>absurd z hy⟩
 have ab:∀x y,AJ (2*m+2) x->AJ (2*m+2) y->A9 m os c x=A9 m os c y->x=y:=by
  have io:∀{k j:Nat},k<m->j<m->oA os k=oA os j->k=j:=λh1 h2=>KH O h1 h2
  intro x y hx hy e;rcases LD hx with rfl|rfl|⟨k,F,rfl|rfl⟩<;>rcases LD hy with rfl|rfl|⟨j,hj,rfl|rfl⟩<;>simp only[IM,JK,IP,IL]at e
  ·rfl
  ·lia
  ·have:=(DS O hj).2;have:=Co c j;lia
  ·have:=(DS O hj).2;have:=Co c j;lia
  ·lia
  ·rfl
  ·have:=(DS O hj).2;have:=Co c j;lia
  ·have:=(DS O hj).2;have:=Co c j;lia
  ·have:=(DS O F).2;have:=Co c k;lia
  ·have:=(DS O F).2;have:=Co c k;lia
  ·have:=Co c k;have:=Co c j
   have:=io F hj (by lia)
   lia
  ·have:=Co c k;have:=Co c j
   have:=io F hj (by lia)
   subst this
   lia
  ·have:=(DS O F).2;have:=Co c k;lia
  ·have:=(DS O F).2;have:=Co c k;lia
  ·have:=Co c k;have:=Co c j
   have:=io F hj (by lia)
   subst this
   lia
  ·have:=Co c k;have:=Co c j
   have:=io F hj (by lia)
   lia
 refine⟨p0,p1,λp h=>(DS hp h).2,?_,λp q h1 h2 e=>KH hp h1 h2 e,ad,⟨λy=>abg (aa y),λy hy=>zH (aa y) hy⟩,ab,IM,λx hx=>?_⟩
 ·have ex:∀q,∃k,q<n->k<n/\oA ps k=q:=λq=>by
   by_cases h:q<n
   ·obtain⟨k,F⟩:=NU hp h;exact⟨k,λ_=>F⟩
   ·exact⟨0,λz=>absurd z h⟩
  exact⟨λq=>abg (ex q),λq hq=>zH (ex q) hq⟩
 ·rcases LD hx with rfl|rfl|⟨k,F,rfl|rfl⟩
  ·rw[show AN 0=1 from rfl,IM,JK];unfold AN;rw[nX (by lia)]
  ·rw[show AN 1=0 from rfl,IM,JK];unfold AN;rw[nS (by lia)];lia
  ·rw[show AN (2*(k:Int)+2)=2*(k:Int)+3 by unfold AN;rw[nX (by lia)];lia,IP,IL];rcases Co c k with f|f<;>(rw[f];unfold AN;split<;>lia)
  ·rw[show AN (2*(k:Int)+3)=2*(k:Int)+2 by unfold AN;rw[nS (by lia)];lia,IP,IL];rcases Co c k with f|f<;>(rw[f];unfold AN;split<;>lia)
def E2(ps:List Nat)(c:Int)(k:Nat)(r:AX):AX:=if Jf c k=0 then (oA ps r.1,oA ps r.2.1,r.2.2) else (oA ps r.2.1,oA ps r.1,r.2.2)
def i6(hr:rs.length=m)(ab:rs'.length=m)(ho:os.Perm (og m))(p0:oA ps 0=0)(p1:oA ps 1=1)(h:∀(k:Nat) (r:AX),rs[k]?=some r->rs'[oA os k]?=some (E2 ps c k r)):
  ∀x,AJ (2*m+2) x->(hm rs')[(A9 m os c x).toNat]?=((A3 rs)[x.toNat]?).map (oA ps):=by
 have F:=E7 rs';have l1:=E7 rs;intro x hx;rcases LD hx with rfl|rfl|⟨k,hk,e⟩
 ·rw[IM];unfold hm;rw[oo (by rw[F];lia),F,show(2*(m:Int)).toNat-2*rs'.length=0 by lia];show some 0=some (oA ps 0);rw[p0]
 ·rw[JK];unfold hm;rw[oo (by rw[F];lia),F,show(2*(m:Int)+1).toNat-2*rs'.length=1 by lia];show some 1=some (oA ps 1);rw[p1]
 ·have O:rs[k]?=some rs[k]:=nj (by lia  );generalize rs[k]=r at O;have aa:=(DS ho hk).2;obtain⟨b1,b2⟩:=Iw O;obtain⟨a1,a2⟩:=Iw (h k r O);have c1:(A3 rs)[2*k+2]?=some r.1:=by
   show(0 :: 1 :: CV rs)[2*k+1+1]?=_;rw[qw,qw];exact b1
  have c2:(A3 rs)[2*k+3]?=some r.2.1:=by
   show(0 :: 1 :: CV rs)[2*k+1+1+1]?=_;rw[qw,qw];exact b2
  have d1:(hm rs')[2*oA os k]?=some (E2 ps c k r).1:=by unfold hm;rw[oH (by rw[F];lia)];exact a1
  have d2:(hm rs')[2*oA os k+1]?=some (E2 ps c k r).2.1:=by unfold hm;rw[oH (by rw[F];lia)];exact a2
  unfold E2 at d1 d2;rcases e with rfl|rfl
  ·rw[IP,show(2*(k:Int)+2).toNat=2*k+2 by lia,c1];rcases Co c k with f|f
   ·rw[f,show(2*(oA os k:Int)+0).toNat=2*oA os k by lia,d1,nX f];rfl
   ·rw[f,show(2*(oA os k:Int)+1).toNat=2*oA os k+1 by lia,d2,nS (by lia)];rfl
  ·rw[IL,show(2*(k:Int)+3).toNat=2*k+3 by lia,c2];rcases Co c k with f|f
   ·rw[f,show(2*(oA os k:Int)+1-0).toNat=2*oA os k+1 by lia,d2,nX f];rfl
   ·rw[f,show(2*(oA os k:Int)+1-1).toNat=2*oA os k by lia,d1,nS (by lia)];rfl
end
def CD(ρ:Int->Int)(i:Nat):List (Int×Int):=(og (2*i+2)).map λj:Nat=>((j:Int)-2,ρ (j:Int))
def aQ(ρ:Int->Int)(i:Nat):CD ρ (i+1)=(CD ρ i++[(2*(i:Int),ρ (2*(i:Int)+2))])++[(2*(i:Int)+1,ρ (2*(i:Int)+3))]:=by
 unfold CD;rw[show 2*(i+1)+2=2*i+2+1+1 by lia,rV,rV,oh,oh];simp only[n9,p9];rw[show(((2*i+2:Nat):Int))=2*(i:Int)+2 by lia,show(((2*i+2+1:Nat):Int))=2*(i:Int)+3 by lia,show 2*(i:Int)+2-2=2*(i:Int) by lia,show 2*(i:Int)+3-2=2*(i:Int)+1 by lia]
def UC(ρ:Int->Int)(i:Nat):(CD ρ i).length=2*i+2:=by unfold CD;rw[nh,oR]
def Pb(ρ:Int->Int)(i:Nat):(CD ρ i).map (·.1)=(og (2*i+2)).map λj:Nat=>(j:Int)-2:=by unfold CD;rw[pO];rfl
def fg(ρ:Int->Int)(i:Nat):(2*(i:Int))∉(CD ρ i).map (·.1):=by
 rw[Pb];intro z;obtain⟨j,F,e⟩:=n8.mp z
 have:=o7.mp F
 omega
def bV(ρ:Int->Int)(i:Nat)(v:Int):(2*(i:Int)+1)∉(CD ρ i++[(2*(i:Int),v)]).map (·.1):=by
 rw[oh,Pb];intro z;rcases om.mp z with z|z
 ·obtain⟨j,F,e⟩:=n8.mp z
  have:=o7.mp F
  lia
 ·have:2*(i:Int)+1=2*(i:Int):=by simpa using z
  lia
def fK(ρ:Int->Int)(h:AJ (2*m+2) y):lk (CD ρ m) (y-2)=some (ρ y):=by
 obtain⟨h1,h2⟩:=h;refine QW ?_ ?_
 ·rw[Pb];rw[ug,rB];exact tF (λ{a b} hab e=>hab (by lia)) (tH (n:=2*m+2))
 ·unfold CD;refine n8.mpr ⟨y.toNat,o7.mpr (by lia),?_⟩;rw[show((y.toNat:Nat):Int)=y by lia]
def Ng{α:Type}{R:Hp->Addr->α->Prop}:∀{mv:List V} {Pq:Nat->α->Prop},(∀q,q<mv.length->∃d x,mv[q]?=some (.ref d)/\R H d x/\Pq q x)->∃(ds:List Addr) (xs:List α),mv=ds.map V.ref/\At R H ds xs/\∀q x,xs[q]?=some x->Pq q x
 |[],Pq,_=>⟨[],[],J,At.nil,by simp⟩
 |v :: mv,Pq,h=>by
  obtain⟨d,x,e1,e2,O⟩:=h 0 (by simp);obtain⟨ds,xs,f1,f2,f3⟩:=Ng (mv:=mv) (Pq:=λq=>Pq (q+1)) (λq F=>by
   obtain⟨d,x,e1,e2,O⟩:=h (q+1) (by simpa using F);exact⟨d,x,by simpa using e1,e2,O⟩)
  have ev:v=.ref d:=by simpa using e1
  subst ev;subst f1;refine⟨d :: ds,x :: xs,J,⟨by simp[f2.1],λi b y g1 g2=>?_⟩,λq y F=>?_⟩
  ·cases i with
   |zero=>cases g1;cases g2;exact e2
   |succ i=>exact f2.2 i b y (by simpa using g1) (by simpa using g2)
  ·cases q with
   |zero=>cases F;exact O
   |succ q=>exact f3 q y (by simpa using F)
variable {x:Int}{L ts:List (List Int)}{rs:List AX}{Y:Nat->Rat}
def Ra:∀(ss:List Nat) (k:Nat),(Cb ss).eraseIdx k=Cb (ss.eraseIdx k)
 |[],k=>by cases k<;>rfl
 |s :: ss,0=>rfl
 |s :: ss,k+1=>by
  show _ :: (Cb ss).eraseIdx k=_ :: Cb (ss.eraseIdx k);rw[Ra ss k]
def OO{α:Type}:∀{ss:List α} {k:Nat} {x:α},ss[k]?=some x->(x :: ss.eraseIdx k).Perm ss
 |s :: ss,0,x,h=>by cases h;exact .refl _
 |s :: ss,k+1,x,h=>by
  have:=OO (ss:=ss) (k:=k) (by simpa using h)
  exact(sZ.swap s x _).trans (this.cons s)
def MV(F:H b=some o')(O:∀ys,o'≠.AG ys)(h:Bw H c r):Bw (AF H b o) c r:=by
 obtain⟨e,h1,h2⟩:=h;refine⟨e,by rw[Ad (λz=>by rw[z,F]at h1;exact O _ (oy h1))];exact h1,?_⟩;unfold AR at h2 ⊢;rw[Ad (λz=>by rw[z,F]at h2;exact O _ (oy h2))];exact h2
section
variable {P:o6}{w:World}{K:nT}{mg:Str->Option Value}{base:Heap}{f g h f1 f2 f3 f4:Addr}{fd gd hd d1 d2 d3 d4:qy}
inductive UR(vs:List V)(H:Hp)(Q:VK)(_:XK):Prop
 |mk (m:Nat) (c:Int) (ab:vs=[.int (m:Int),.int c]) (aa:m<=100) (O:∀p l os F H',AO H H'->H l=none->H' p=some (.AG [.ref l,.int F])->H' l=some (.AE (Cb os))->os.Perm (og m)->Q (.ref p) H')
def Lr:Ar ["_law_many","_law_c","_law_some","_law_found","_law_at"] ["_law_many","_law_c"] (Ah s_law_order):=Ay
def bL(F:Ak K "_law_order" "_law_order" s_law_order f fd)(ml:mg "len" = none)(mr:mg "range" = none)(mi:mg "list" = none):Ag P w K mg base Ap 1 f fd ["_law_many","_law_c"] UR:=by
 refine F.A1 Lr λim A _ s H vs Q E hr h=>?_
 obtain⟨m,c,rfl,hm,q⟩:=h;exists _,AL (AW 2 Lr (Xb rfl (by rfl) mi (by rfl) mr (pv 0)))
  (AL (AW 3 Lr (CG AD))
  (AL (Hy oE (BP HR (B4 ml (pv 2)) AB)
   (AL (AW 4 Lr (AM B9 (pv 1) (B4 ml (pv 2))))
   (AL (AW 1 Lr (AM Eh (pv 1) (B4 ml (pv 2))))
   (AS (DH (CL oF pJ pK D1 (pv 3) (AA (CL oF zM zO Sl (pv 2) (AA (pv 4) AD)) AD)))))))
  (AS (Ai (BS (AA (pv 3) (AA (pv 1) AD)))))))
 refine⟨_,J,m,J,by lia,λS hS=>?_⟩;refine BF hS (.AE ((og m).map λi:Nat=>V.int (i:Int))) λH1 sS zz=>?_
 have eS:H1 S=some (.AE (Cb (og m))):=zz;refine⟨by exact Gh,λL hL=>?_⟩;refine BF hL (.AE []) λH2 sL zz=>?_
 have eL:H2 L=some (.AE (Cb [])):=zz;have aa:S≠L:=BW eS hL;have ae:=sL _ _ eS;have fL:H L=none:=sS.free hL;refine Hu (λσ H3=>∃c u ss os,σ=[some (.int (m:Int)),some (.int c),some (.ref S),some (.ref L),u]/\AO H H3/\H3 S=some (.AE (Cb ss))/\H3 L=some (.AE (Cb os))/\(os++ss).Perm (og m)) (λ_ H3=>match H3 S with|some (.AE xs)=>xs.length|_=>0)
  ⟨c,none,og m,[],J,sS.trans sL,ae,eL,.refl _⟩ ?_ ?_
 ·rintro σ H3 ⟨c,u,ss,os,rfl,s3,O,ab,pm⟩;have ad:=pm.length_eq;rw[oa,oR]at ad;exists _,J,S,_,J,.inl (AI.of O),_,_,J,J,_,rfl;by_cases hz:ss.length=0
  ·refine CH (by rw[nh];lia) ?_
   have:ss=[]:=qQ.mp hz
   subst this;rw[qE]at pm;refine⟨_,J,_,J,by exact Bk,λp hp=>?_⟩;exact q p L os c _ (s3.trans (AY hp _)) fL AU (AY hp _ _ _ ab) pm
  ·refine C3 (by rw[nh];lia) ?_;have lp:(0:Int)<(((Cb ss).length:Nat):Int):=by rw[nh];lia
   exists _,J,_,J,S,_,J,.inl (AI.of O),_,_,J,J,lp;exists _,J,_,J,S,_,J,.inl (AI.of O),_,_,J,J,⟨lp,by rw[nh];show(ss.length:Int)<1073741824;lia⟩
   (try dsimp only)
   have d0:=qx c (tu lp);have d1:=qD c lp;rw[nh]at d0 d1 ⊢;obtain⟨k,hk⟩:∃k:Nat,c%(ss.length:Int)=(k:Int):=⟨(c%(ss.length:Int)).toNat,by lia⟩;rw[hk]at d1 ⊢;have ac:k<ss.length:=by lia
   have ek:ss[k]?=some ss[k]:=nj ac;generalize ss[k]=x at ek;have ev:(Cb ss)[k]?=some (.int (x:Int)):=by rw[nV,ek];rfl
   refine⟨_,J,.inl ⟨J,_,AI.of ab⟩,_,J,.inl ⟨J,_,AI.of O⟩,_,J,S,_,(k:Int),k,_,J,J,O,by lia,by lia,(Pa (by rw[nh];exact Jw ac)).1,ev,L,_,_,J,J,by rw[Ad (qu aa)];exact ab,by rw[nh];exact DD (by lia),?_⟩;rw[Ra];exists ⟨_,_,ss.eraseIdx k,os++[x],J,(s3.up hS _).up fL _,by rw[Ad aa,AU],by rw[AU];simp,?_⟩
   ·refine sZ.trans ?_ pm;rw[p7];exact(OO ek).append_left os
   ·rw[Ad aa,AU,O];show(Cb (ss.eraseIdx k)).length<(Cb ss).length;rw[nh,nh]
    have:=(OO ek).length_eq
    rw[oP]at this
    lia
 ·rintro σ H2 Q1 Q2 hq ⟨v,e,p,ys,e1,e2,i,j,e3,e4,b,eb,z⟩;exact⟨v,e,p,ys,e1,e2,i,j,e3,e4,b,eb,hq _ _ z⟩
def J4{os:List Nat}(h:os.Perm (og m))(F:k<m):Bc (Cb os) ((k:Nat):Int)=some (.int ((oA os k:Nat):Int)):=iO (DS h F).1
def WK(v:V)(k:Nat):(nY k [v]).flatten=nY k v:=by
 induction k with
 |zero=>rfl
 |succ k ih=>rw[pE,oQ,ih,pE];rfl
def V7(g:Gn ts hs){j p:Nat}(h:hs[j]?=some p):p<ts.length:=by
 have O:=(nq.mp h).1;obtain⟨F,t,a,_,b⟩:=g.at (x:=(j:Int)) ⟨by lia,by lia⟩;rw[pG,h]at b;cases b;exact(nq.mp a).1
def eY(x y:Nat)(h:z=0\/z=1):Bc [V.int (x:Int),V.int (y:Int)] z=some (.int ((if z=0 then x else y:Nat):Int))/\Bc [V.int (x:Int),V.int (y:Int)] (1-z)=some (.int ((if z=0 then y else x:Nat):Int)):=by
 rcases h with rfl|rfl
 ·exact⟨BE,As⟩
 ·exact⟨As,BE⟩
def iT(ps:List Nat)(c:Int)(k:Nat)(r:AX):E2 ps c k r=((if cI c k%2=0 then oA ps r.1 else oA ps r.2.1:Nat),(if cI c k%2=0 then oA ps r.2.1 else oA ps r.1:Nat),r.2.2):=by
 unfold E2;by_cases z:cI c k%2=0
 ·rw[nX z,nX z,nX z]
 ·rw[nS z,nS z,nS z]
inductive V1(vs:List V)(H:Hp)(Q:VK)(_:XK):Prop
 |mk (R T:Addr) (cs bs:List Addr) (ts:List (List Int)) (rs:List AX) (c:Int) (O:vs=[.ref R,.ref T,.int c]) (aa:Cf H R T cs bs ts rs) (ac:Gn ts (A3 rs)) (ae:rs.length<=14) (ab:(∀r∈rs,GV r.2.2)) (ad:∀p F ta n rs' us H',AO H H'->H' p=some (.AG [.int ((n:Nat):Int),.ref F,.ref ta])->BB Bw H' F rs'->BB CZ H' ta us->NetV n rs' us->MJ us rs'.length->Q (.ref p) H')
def DN:Ar ["_law_ropes","_law_turns","_law_c","_law_many","_law_order_here","_law_places","_law_names","_law_made","_law_k","_law_rope","_law_flip","_law_pair","_law_rows","_law_turn","_law_row_here","_law_cut"] ["_law_ropes","_law_turns","_law_c"] (Ah s_law_finished):=Ay
def kE:(["_law_place"]:List Str).Nodup:=by decide +kernel
def k9:(["_law_end","_law_names"]:List Str).Nodup:=by decide +kernel
set_option maxHeartbeats 2000000 in
seal L2.Cy L2.PS L2.PE L2.PA in
def iR (F:Ak K "_law_finished" "_law_finished" s_law_finished f fd)(G1:AZ P w K mg base 1 "_law_order" ["_law_many","_law_c"] UR)
  (ml:mg "len" = none)(me:mg "enumerate" = none)(mt:mg "tuple" = none):Ag P w K mg base Ap 2 f fd ["_law_ropes","_law_turns","_law_c"] V1:=by
 refine F.A1 DN λim A _ s H vs Q E hr h=>?_
 obtain⟨R,T,cs,bs,ts,rs,c,rfl,M,g,dp,c3,q⟩:=h;have hu:=Fl hr;exists _,AL (AW 3 DN (B4 ml (pv 0)))
  (AL (Dg (AV G1 (AA (pv 3) (AA (pv 2) AD))) (Cp (n:=2) rfl (BH (Az 4 DN) (BH (Az 2 DN) Cn))))
  (AL (Dg (AV G1 (AA (AM C7 (B4 ml (pv 1)) AB) (AA (pv 2) AD))) (Cp (n:=2) rfl (BH (Az 5 DN) (BH (Az 2 DN) Cn))))
  (AL (AW 5 DN (AM HK (CG (AA AB (AA AB AD))) (DR (Nc:=["_law_place"]) (cap:=[]) (g:=BU 0) (te:=Bb (FR λi j=>.int (i+j)) (Aw 0) (tC (.int 2))) rfl (EN (pv 5))
    CU (λ_ _ _ _ _=>B8 (i:=0) kE rfl (qr rfl)) (λ_ _ _ _ _=>AM BK (pv 0) AB))))
  (AL (AW 6 DN (Tz (Oy (HP G0 AB) (AM CW AB (pv 3)) (Oy (HP G0 AB) (AM BK (AM CW AB (pv 3)) AB) UT)) rfl rfl (λz=>by cases z) (by decide)))
  (AL (AW 7 DN (AM NL (CG (AA JC AD)) (pv 3)))
  (AL (Bg oE rfl (Hv (by rfl) me (AA (pv 0) AD)) (Cp (n:=2) rfl (BH (Az 8 DN) (BH (Az 9 DN) Cn)))
   (AL (AW 10 DN (AM B9 (pv 2) AB))
   (AL (AW 2 DN (AM Eh (pv 2) AB))
   (AL (Gv hu (pv 6) (AM CW AB (pv 8)) (AM BK (AM CW AB (pL (pv 4) (pv 8))) (pv 10)) rfl)
   (AL (Gv hu (pv 6) (AM BK (AM CW AB (pv 8)) AB) (AM C7 (AM BK (AM CW AB (pL (pv 4) (pv 8))) AB) (pv 10)) rfl)
   (AL (AW 11 DN (CG (AA (pL (pv 5) (pT (pv 9) AB)) (AA (pL (pv 5) (pT (pv 9) AB)) AD))))
   (AS (Dg (BS (AA (pL (pv 11) (pv 10)) (AA (pL (pv 11) (AM C7 AB (pv 10))) (AA (pT (pv 9) AB) AD)))) (Fc (pv 7) (pL (pv 4) (pv 8)) FX)))))))))
  (AL (AW 12 DN (AM NL (CG (AA (BS AD) AD)) (B4 ml (pv 1))))
  (AL (Bg oE rfl (Hv (by rfl) me (AA (pv 1) AD)) (Cp (n:=2) rfl (BH (Az 8 DN) (BH (Az 13 DN) Cn)))
   (AL (Im (i:=14) DN.nd rfl (qr rfl) (Nc:=["_law_end","_law_names"]) (cap:=[(1,6)]) (g:=BU 0) (te:=Le (Aw 1) (Aw 0)) rfl (EN (pv 13))
    CU (λ_ _ _ _ _=>B8 (i:=0) k9 rfl (qr rfl))
    (λ_ _ _ _ _=>F9 hu (pv 1) (pv 0)))
   (AL (AW 15 DN (AM B9 (pv 2) (B4 ml (pv 14))))
   (AL (AW 2 DN (AM Eh (pv 2) (B4 ml (pv 14))))
   (AS (Dg (Ja mt (AM HK (E4 Km (pv 14) (Ef (pv 15)) FY) (E4 Km (pv 14) FY (Ef (pv 15))))) (Fc (pv 12) (pL (pv 5) (pv 8)) FX)))))))
  (AS (Ai (BS (AA (B4 ml (pv 1)) (AA (Ja mt (pv 7)) (AA (Ja mt (pv 12)) AD))))))))))))))
  
 have d7:=g.Ww;have dg:=g.Bt;have b4:(A3 rs).length=2*rs.length+2:=by rw[oa,E7];simp;lia
 have lc:(((cs.map V.ref).length:Nat):Int)=(rs.length:Int):=by rw[nh,M.rr.1]
 have lb:(((bs.map V.ref).length:Nat):Int)=(ts.length:Int):=by rw[nh,M.bl]
 have af:∀x:Int,Lu 2 x:=λx=>.inl ⟨by decide,by decide⟩
 exists _,J,R,_,J,.inl (AI.of M.r1)
 (try dsimp only)
 rw[lc];refine⟨_,J,_,J,rs.length,c,J,by lia,λq1 L1 os c1 H1 s1 dz cf ca po=>?_⟩;exists q1,_,J,AH.of cf,J,_,_,J,_,_,J,rfl;have M1:=M.keep s1;refine⟨_,J,T,_,J,.inl (AI.of M1.tm.h1),_,_,J,J,_,J,ts.length-2,c1,by rw[lb];(try dsimp only);rw[show(ts.length:Int)-2=((ts.length-2:Nat):Int) by lia];rfl,by lia,λq2 L2 ps O H2 s2 d8 bj b0 pp=>?_⟩;exists q2,_,J,AH.of bj,J,_,_,J,_,_,J,rfl;clear cf bj;refine⟨by exact Bk,λla cy=>?_⟩;refine BF cy (.AE [.int 0,.int 1]) λH3 sa ea=>?_
 have a9:=sa _ _ b0;have ec:ps.length=ts.length-2:=by have:=pp.length_eq;rwa [oR]at this
 refine⟨_,J,L2,J,⟨_,AI.of a9⟩,λae ao=>?_⟩;refine Cm (FW a9) (by rw[nh];lia) ao (λj ys σ hp=>ys=(Cb (ps.map λx=>x+2)).take j/\∃u,σ=[u]) ⟨J,none,J⟩ ?_ ?_
 ·rintro j ys σ H7 x H8 hj sm di ⟨rfl,u,rfl⟩ ⟨rfl,hx⟩ Cc hC;have cq:j<ps.length:=by rw[nh]at hj;exact hj
  rw[nV,nj cq]at hx;cases hx;exists _,J,_,_,J,rfl;refine hC _ _ _ (AO.refl _) ⟨?_,_,J⟩;have ee:(Cb (ps.map λx=>x+2))[j]?=some (.int ((ps[j]:Nat)+2:Int)):=by
   rw[nV,nV,nj cq];rfl
  rw[EF ee]
 rintro ys σ H4 s4 ab _ ⟨rfl,u,rfl⟩;rw[nh,oB (by rw[nh,nh];exact nQ _)]at ab;refine⟨la,ae,_,_,J,J,s4 _ _ ea,ab,by rw[nh,nh];exact Dk (by simp;lia),λPl ba=>?_⟩;have pe:[V.int 0,V.int 1]++Cb (ps.map λx=>x+2)=Cb (0 :: 1 :: ps.map λx=>x+2):=rfl;rw[pe];have pl:=eZ pp;rw[show ts.length-2+2=ts.length by lia]at pl;have p0:oA (0 :: 1 :: ps.map λx=>x+2) 0=0:=rfl;have p1:oA (0 :: 1 :: ps.map λx=>x+2) 1=1:=rfl;generalize (0 :: 1 :: ps.map λx=>x+2)=aa at pl p0 p1;have s5:AO H (AF H4 Pl (.AE (Cb aa))):=s1.trans (s2.trans (sa.trans (s4.trans (AY ba _))));have eP:(AF H4 Pl (.AE (Cb aa))) Pl=some (.AE (Cb aa)):=AU;have eO:(AF H4 Pl (.AE (Cb aa))) L1=some (.AE (Cb os)):=AY ba _ _ _ (s4 _ _ (sa _ _ (s2 _ _ ca)));generalize AF H4 Pl (.AE (Cb aa))=H5 at s5 eP eO;clear s4 sa s2 s1 ab a9 b0 ca ea ba ao cy;have M5:=M.keep s5;refine λD hD=>?_
 have bt:=AY hD (.dK []);exists _,J,_,J,_,_,J,J,af _,_,J,_,J,_,_,J,J,af _,_,_,J,rfl;refine⟨AU,[(oX (-2),.int (2*(rs.length:Int))),(oX (-1),.int (2*(rs.length:Int)+1))],J,by show 2<=15;decide,?_⟩;have eN:GO [] [((oX (-2):Aq),V.int (2*(rs.length:Int))),(oX (-1),.int (2*(rs.length:Int)+1))]=BI (CD (A9 rs.length os O) 0):=by
  show CB (CB (BI []) (oX (-2):Aq) (.int (2*(rs.length:Int)))) (oX (-1):Aq) (.int (2*(rs.length:Int)+1))=_;rw[I0 (by simp),I0 (by simp)];show BI [(-2,2*(rs.length:Int)),(-1,2*(rs.length:Int)+1)]=BI [(((0:Nat):Int)-2,A9 rs.length os O ((0:Nat):Int)),(((1:Nat):Int)-2,A9 rs.length os O ((1:Nat):Int))];rw[show((0:Nat):Int)=0 from rfl,show((1:Nat):Int)=1 from rfl,IM,JK];rfl
 rw[eN];have sD:=bt.up hD (.dK (BI (CD (A9 rs.length os O) 0)));have eD:(AF (AF H5 D (.dK [])) D (.dK (BI (CD (A9 rs.length os O) 0)))) D=some (.dK (BI (CD (A9 rs.length os O) 0))):=AU;generalize AF (AF H5 D (.dK [])) D (.dK (BI (CD (A9 rs.length os O) 0)))=H6 at sD eD;refine⟨by exact ED,λl0 da=>?_⟩;refine BF da (.AE [.A5]) λH7 s0 e0=>?_
 have au:=s0 _ _ eD;have ay:=sD.trans s0;refine⟨_,J,l0,_,_,J,J,e0,by lia,by lia,by rw[qF];exact Dk (by lia),λMk aw=>?_⟩;rw[WK,show((rs.length:Int)).toNat=rs.length by lia];refine BF aw (.AE (nY rs.length .A5)) λH8 sM eM=>?_
 have dt:=sM _ _ au;have s6:=ay.trans sM;have bh:D≠Mk:=BW au aw;have fM:H5 Mk=none:=ay.free aw;clear ay s0 e0 au sD eD bt
 try dsimp only
 try refine DG ?_
 first|refine DF λUL ak=>?_|refine nx_hide λUL ak=>?_
 exists _,J,R,_,J,(M5.keep s6).r1;refine R4 (xs:=cs.map V.ref) (λi σ H2=>∃uk ur uf up mv,σ=[some (.ref R),some (.ref T),some (.int (cI O i)),some (.int (rs.length:Int)),some (.ref L1),some (.ref Pl),some (.ref D),some (.ref Mk),uk,ur,uf,up,none,none,none,none]/\AO H5 H2/\H2 D=some (.dK (BI (CD (A9 rs.length os O) i))) /\
   H2 Mk=some (.AE mv)/\mv.length=rs.length/\∀k,k<i->∃d r,rs[k]?=some r/\mv[oA os k]?=some (.ref d)/\Bw H2 d (E2 aa O k r))
  ⟨none,none,none,none,_,J,s6,dt,eM,by rw[vg],λk hk=>by lia⟩ (λi σ H2 _ ⟨_,_,_,_,_,_,s2,_⟩=>(M5.keep s2).r1) ?_ ?_
 ·rintro i x σ H2 p hx ⟨uk,ur,uf,up,mv,rfl,s2,ce,bo,ag,ah⟩ hp U0 av;obtain⟨d,r,rfl,hd,bf,c5⟩:=M5.rr.ref hx;have hi:i<rs.length:=(nq.mp bf).1;have sp:=AY hp (.AG [.int i,.ref d]);have ap:=sp _ _ ce;have be:=sp _ _ bo;have s3:=s2.trans sp;have a0:∀k,k<i->∃d' r,rs[k]?=some r/\mv[oA os k]?=some (.ref d')/\Bw (AF H2 p (.AG [.int i,.ref d])) d' (E2 aa O k r):=λk hk=>by
   obtain⟨d,r,a1,a2,a3⟩:=ah k hk;exact⟨d,r,a1,a2,Df sp a3⟩
  exists p,_,J,AH.of AU,J,_,_,J,_,_,J,rfl;generalize AF H2 p (.AG [.int i,.ref d])=H3 at s3 ap be a0;clear ah sp ce bo s2 hp
  try dsimp only
  try refine DG ?_
  first|refine DF λU hU=>?_|refine nx_hide λU hU=>?_
  refine⟨_,J,_,_,J,J,(show(0:Int)<2 by decide),?_⟩;subst hU
  try dsimp only
  try refine DG ?_
  first|refine DF λU hU=>?_|refine nx_hide λU hU=>?_
  refine⟨_,J,_,_,J,J,⟨by decide,by decide⟩,?_⟩;subst hU;have ci:∀(L:List (Int×Int)),L.length<=100->(BI L).length<oK:=λL hL=>by rw[nh];exact DD (by lia)
  try dsimp only
  try refine DG ?_
  first|refine DF λU hU=>?_|refine nx_hide λU hU=>?_
  refine⟨_,J,_,J,L1,_,_,_,J,J,AI.of (s3 _ _ eO),J4 po hi,_,_,J,J,af _,_,J,_,_,J,J,_,J,_,J,_,_,J,J,af _,D,_,J,D6.k (k:=oX (2*(i:Int))) ap (ci _ (by rw[UC];lia)),?_⟩;have v1:2*((oA os i:Nat):Int)+cI O i%2=A9 rs.length os O (2*(i:Int)+2):=(IP i).symm;have v2:2*((oA os i:Nat):Int)+1-cI O i%2=A9 rs.length os O (2*(i:Int)+3):=(IL i).symm
  (try dsimp only)
  rw[v1,I0 (fg _ i)];have s4:=s3.up hD (.dK (BI (CD (A9 rs.length os O) i++[(2*(i:Int),A9 rs.length os O (2*(i:Int)+2))])));have ar:(AF H3 D (.dK (BI (CD (A9 rs.length os O) i++[(2*(i:Int),A9 rs.length os O (2*(i:Int)+2))])))) D=some (.dK (BI (CD (A9 rs.length os O) i++[(2*(i:Int),A9 rs.length os O (2*(i:Int)+2))]))):=AU;have bc:(AF H3 D (.dK (BI (CD (A9 rs.length os O) i++[(2*(i:Int),A9 rs.length os O (2*(i:Int)+2))])))) Mk=some (.AE mv):=by rw[Ad (qu bh)];exact be
  have a5:∀k,k<i->∃d' r,rs[k]?=some r/\mv[oA os k]?=some (.ref d')/\Bw (AF H3 D (.dK (BI (CD (A9 rs.length os O) i++[(2*(i:Int),A9 rs.length os O (2*(i:Int)+2))])))) d' (E2 aa O k r):=λk hk=>by
   obtain⟨d,r,a1,a2,a3⟩:=a0 k hk;exact⟨d,r,a1,a2,MV ap (λys z=>by cases z) a3⟩
  generalize AF H3 D (.dK (BI (CD (A9 rs.length os O) i++[(2*(i:Int),A9 rs.length os O (2*(i:Int)+2))])))=H4 at s4 ar bc a5;clear a0 s3 ap be;subst hU
  try dsimp only
  try refine DG ?_
  first|refine DF λU hU=>?_|refine nx_hide λU hU=>?_
  exists _,J,_,J,L1,_,_,_,J,J,AI.of (s4 _ _ eO),J4 po hi,_,_,J,J,af _,_,_,J,J,_,J,_,_,J,J,_,J,_,J,_,_,J,J,af _,_,_,J,J,D,_,J,D6.k (k:=oX (2*(i:Int)+1)) ar (ci _ (by rw[oa,UC,qF];lia))
  (try dsimp only)
  rw[v2,I0 (bV _ i _),<-aQ];have ac:=s4.up hD (.dK (BI (CD (A9 rs.length os O) (i+1))));have bq:(AF H4 D (.dK (BI (CD (A9 rs.length os O) (i+1))))) D=some (.dK (BI (CD (A9 rs.length os O) (i+1)))):=AU;have cw:(AF H4 D (.dK (BI (CD (A9 rs.length os O) (i+1))))) Mk=some (.AE mv):=by rw[Ad (qu bh)];exact bc
  have cn:∀k,k<i->∃d' r,rs[k]?=some r/\mv[oA os k]?=some (.ref d')/\Bw (AF H4 D (.dK (BI (CD (A9 rs.length os O) (i+1))))) d' (E2 aa O k r):=λk hk=>by
   obtain⟨d,r,a1,a2,a3⟩:=a5 k hk;exact⟨d,r,a1,a2,MV ar (λys z=>by cases z) a3⟩
  generalize AF H4 D (.dK (BI (CD (A9 rs.length os O) (i+1))))=dy at ac bq cw cn;clear a5 s4 ar bc;subst hU;obtain⟨e,a7,c9⟩:=id c5;obtain⟨g1,g2⟩:=Iw bf;have r1:r.1<ts.length:=V7 g (j:=2*i+2) (by show(0 :: 1 :: CV rs)[2*i+1+1]?=_;rw[qw,qw];exact g1);have r2:r.2.1<ts.length:=V7 g (j:=2*i+3) (by show(0 :: 1 :: CV rs)[2*i+1+1+1]?=_;rw[qw,qw];exact g2)
  try dsimp only
  try refine DG ?_
  first|refine DF λU hU=>?_|refine nx_hide λU hU=>?_
  refine⟨_,J,_,J,d,_,_,_,J,J,AH.of (ac _ _ a7),GY _ _ _,Pl,_,_,_,J,J,AI.of (ac _ _ eP),J4 pl r1,_,J,_,J,d,_,_,_,J,J,AH.of (ac _ _ a7),Eo _ _ _,Pl,_,_,_,J,J,AI.of (ac _ _ eP),J4 pl r2,by exact Bk,λpr dc=>?_⟩;refine BF dc (.AE [.int ((oA aa r.1:Nat):Int),.int ((oA aa r.2.1:Nat):Int)]) λco ck cj=>?_
  subst hU;obtain⟨c4,c8⟩:=eY (oA aa r.1) (oA aa r.2.1) (Co O i);have b7:=ac.trans ck;refine⟨_,J,_,J,pr,_,_,_,J,J,AI.of cj,c4,_,J,_,J,_,_,J,J,pr,_,_,_,J,J,AI.of cj,c8,_,J,d,_,_,_,J,J,AH.of (b7 _ _ a7),FF _ _ _,by exact GA,λnp de=>?_⟩;have s7:=AY de (.AG [.int ((if cI O i%2=0 then oA aa r.1 else oA aa r.2.1:Nat):Int),.int ((if cI O i%2=0 then oA aa r.2.1 else oA aa r.1:Nat):Int),.ref e]);have cb:Bw (AF co np (.AG [.int ((if cI O i%2=0 then oA aa r.1 else oA aa r.2.1:Nat):Int),.int ((if cI O i%2=0 then oA aa r.2.1 else oA aa r.1:Nat):Int),.ref e])) np (E2 aa O i r):=by
   rw[iT];exact⟨e,AU,An (b7.trans s7) c9⟩
  have aj:=ck.trans s7;have am:=aj _ _ cw;have bv:=aj _ _ bq;have a6:=ac.trans aj;generalize AF co np (.AG [.int ((if cI O i%2=0 then oA aa r.1 else oA aa r.2.1:Nat):Int),.int ((if cI O i%2=0 then oA aa r.2.1 else oA aa r.1:Nat):Int),.ref e])=dv at s7 cb aj am bv a6;have oi:=(DS po hi).2;refine⟨_,J,_,J,_,J,L1,_,_,_,J,J,AI.of (a6 _ _ eO),J4 po hi,Mk,_,_,oA os i,J,J,am,by rw[ag];exact Jw oi,?_⟩;refine av _ _ ⟨_,_,_,_,mv.set (oA os i) (.ref np),J,a6.up fM _,by rw[Ad bh];exact bv,AU,by rw[rS];exact ag,λk hk=>?_⟩;rcases oM k i with ax|hge
  ·obtain⟨d',r',a1,a2,a3⟩:=cn k ax;refine⟨d',r',a1,?_,MV am (λys z=>by cases z) (Df aj a3)⟩;rw[pF (λz=>by have:=KH po hi (by lia) z;lia)];exact a2
  ·obtain rfl:k=i:=by lia
   exact⟨np,r,bf,by rw[pM (by rw[ag];exact oi)],MV am (λys z=>by cases z) cb⟩
 rintro σ H9 ⟨uk,ur,uf,up,mv,rfl,s9,cm,dn,ag,ah⟩;subst ak;rw[nh,M.rr.1]at cm ah;have cl:(cs.map V.ref).length=rs.length:=by rw[nh,M.rr.1]
 rw[cl];have bp:=s5.trans s9;have M9:=M.keep bp;refine⟨by exact Gh,λt0 dr=>⟨by exact ED,λl1 du=>?_⟩⟩;have sa:=(AY dr (.AG [])).trans (AY du (.AE [.ref t0]));have ea:(AF (AF H9 t0 (.AG [])) l1 (.AE [.ref t0])) l1=some (.AE [.ref t0]):=AU;generalize AF (AF H9 t0 (.AG [])) l1 (.AE [.ref t0])=Ha at sa ea;refine⟨_,J,T,_,J,.inl (AI.of (M9.keep sa).tm.h1),l1,_,_,J,J,ea,by rw[lb];lia,by rw[lb];lia,by rw[lb,qF];exact Dk (by lia),λRw b2=>?_⟩;rw[WK,lb,show((ts.length:Int)).toNat=ts.length by lia];have sb:=sa.trans (AY b2 (.AE (nY ts.length (.ref t0))));have eb:(AF Ha Rw (.AE (nY ts.length (.ref t0)))) Rw=some (.AE (nY ts.length (.ref t0))):=AU;have fR:H9 Rw=none:=sa.free b2;generalize AF Ha Rw (.AE (nY ts.length (.ref t0)))=Hb at sb eb;clear sa ea
 try dsimp only
 try refine DG ?_
 first|refine DF λUL ak=>?_|refine nx_hide λUL ak=>?_
 exists _,J,T,_,J,(M9.keep sb).tm.h1;have dw:=s9 _ _ eO;have dq:=s9 _ _ eP;refine R4 (xs:=bs.map V.ref) (λi σ H2=>∃cc uk ut uh uc rv,σ=[some (.ref R),some (.ref T),some (.int cc),some (.int (rs.length:Int)),some (.ref L1),some (.ref Pl),some (.ref D),some (.ref Mk),uk,ur,uf,up,some (.ref Rw),ut,uh,uc]/\AO H9 H2 /\
   H2 Rw=some (.AE rv)/\rv.length=ts.length/\∀k,k<i->∃d u t,ts[k]?=some t/\rv[oA aa k]?=some (.ref d)/\CZ H2 d u/\Ex (t.map (A9 rs.length os O)) u)
  ⟨_,_,none,none,none,_,J,sb,eb,by rw[vg],λk hk=>by lia⟩ (λi σ H2 _ ⟨_,_,_,_,_,_,_,s2,_⟩=>(M9.keep s2).tm.h1) ?_ ?_
 ·rintro i x σ H2 p hx ⟨cc,df,ut,uh,uc,rv,rfl,s2,bn,ad,ai⟩ hp U0 av;obtain⟨b,t',rfl,hb,c6,c7⟩:=M9.tm.rows.ref hx;obtain⟨t,ht,rfl⟩:=VU c6;have hi:i<ts.length:=(nq.mp ht).1;have tl:=Pn g ht;have sp:=AY hp (.AG [.int i,.ref b]);have bi:=sp _ _ bn;have s3:=s2.trans sp;exists p,_,J,AH.of AU,J,_,_,J,_,_,J,rfl;have br:∀k,k<i->∃d u t,ts[k]?=some t/\rv[oA aa k]?=some (.ref d)/\CZ (AF H2 p (.AG [.int i,.ref b])) d u/\Ex (t.map (A9 rs.length os O)) u:=λk hk=>by
   obtain⟨d,u,t,a1,a2,a3,a4⟩:=ai k hk;exact⟨d,u,t,a1,a2,Mh sp a3,a4⟩
  generalize AF H2 p (.AG [.int i,.ref b])=H3 at s3 bi br;clear ai sp bn s2 hp;have hB:H3 b=some (.AE ((t.map λx=>x-2).map V.int)):=s3 _ _ c7
  try dsimp only
  try refine DG ?_
  first|refine DF λU hU=>?_|refine nx_hide λU hU=>?_
  refine⟨_,J,b,J,⟨_,AI.of hB⟩,λae ao=>?_⟩;refine Cm (FW hB) (by rw[nh,nh];lia) ao (λj ys σ hp=>ys=((t.map (A9 rs.length os O)).take j).map V.int/\∃u,σ=[u,some (.ref D)]) ⟨J,none,J⟩ ?_ ?_
  ·rintro j ys σ H7 x H8 hj sm di ⟨rfl,u,rfl⟩ ⟨rfl,hx⟩ Cc hC;obtain⟨e,rfl,he⟩:=int_at hx;rw[nV]at he;cases ey:t[j]? with
   |none=>rw[ey]at he;cases he
   |some y =>
    rw[ey]at he;cases he;have yR:AJ (2*rs.length+2) y:=by
     have:=(g.mem y).mp (oI.mpr ⟨t,nz ht,nz ey⟩)
     rwa [b4]at this
    exists _,J,_,J,D,_,J,LG (sm _ _ (s3 _ _ cm)) (fK _ yR);refine hC _ _ _ (AO.refl _) ⟨?_,_,J⟩;have ee:(t.map (A9 rs.length os O))[j]?=some (A9 rs.length os O y):=by rw[nV,ey];rfl
    rw[EF ee,oh];rfl
  rintro ys σ H4 s4 ab _ ⟨rfl,u,rfl⟩;subst hU;rw[nh,nh,oB (by rw[nh];exact nQ _)]at ab;have tn:=g.ne t (nz ht);have tp:0<t.length:=List.length_pos_iff.mpr tn;have lr:((((t.map (A9 rs.length os O)).map V.int).length:Nat):Int)=(t.length:Int):=by rw[nh,nh]
  try dsimp only
  try refine DG ?_
  first|refine DF λU hU=>?_|refine nx_hide λU hU=>?_
  refine⟨_,J,_,J,ae,_,J,.inl (AI.of ab),_,_,J,J,by rw[lr];lia,?_⟩;subst hU
  try dsimp only
  try refine DG ?_
  first|refine DF λU hU=>?_|refine nx_hide λU hU=>?_
  refine⟨_,J,_,J,ae,_,J,.inl (AI.of ab),_,_,J,J,⟨by rw[lr];lia,by rw[lr];show(t.length:Int)<1073741824;lia⟩,?_⟩;subst hU
  (try dsimp only)
  rw[lr];have bu:(0:Int)<(t.length:Int):=by lia
  have d0:=qx cc (tu bu);have d1:=qD cc bu;obtain⟨j,hj⟩:∃j:Nat,cc%(t.length:Int)=(j:Int):=⟨(cc%(t.length:Int)).toNat,by lia⟩;rw[hj]at d1 ⊢;have jl:j<=((t.map (A9 rs.length os O)).map V.int).length:=by rw[nh,nh];lia
  refine⟨_,J,_,J,_,J,ae,_,J,AI.of ab,λp1 bg=>?_⟩;rw[LB _ jl];refine BF bg (.AE (((t.map (A9 rs.length os O)).map V.int).drop j)) λed cr e5=>?_
  refine⟨_,J,_,J,_,J,ae,_,J,AI.of (cr _ _ ab),λp2 bb=>?_⟩;rw[K6 _ jl];refine BF bb (.AE (((t.map (A9 rs.length os O)).map V.int).take j)) λd9 cx e6=>?_
  refine⟨p1,p2,_,_,J,J,cx _ _ e5,e6,by rw[pY,pS,nh,nh];exact Dk (by lia),λp3 dl=>?_⟩;rw[<-List.map_drop,<-List.map_take,<-List.map_append];have cg:Ex (t.map (A9 rs.length os O)) ((t.map (A9 rs.length os O)).drop j++(t.map (A9 rs.length os O)).take j):=⟨_,_,(qN j _).symm,J⟩;generalize (t.map (A9 rs.length os O)).drop j++(t.map (A9 rs.length os O)).take j=un at cg;refine BF dl (.AE (un.map V.int)) λbz dh e7=>?_
  refine⟨p3,_,J,.inl ⟨AI.of e7,λp4 dj=>?_⟩⟩;have bw:=AY dj (.AG (un.map V.int));have e8:CZ (AF bz p4 (.AG (un.map V.int))) p4 un:=AU;have aq:=s4.trans (cr.trans (cx.trans (dh.trans bw)));generalize AF bz p4 (.AG (un.map V.int))=cz at bw e8 aq;have b6:=s3.trans aq;have b9:=aq _ _ bi;have pi:=(DS pl hi).2;refine⟨_,J,_,J,_,J,Pl,_,_,_,J,J,AI.of (b6 _ _ dq),J4 pl hi,Rw,_,_,oA aa i,J,J,b9,by rw[ad];exact Jw pi,?_⟩;have b3:∀{d:Addr} {u:List Int},CZ cz d u->CZ (AF cz Rw (.AE (rv.set (oA aa i) (.ref p4)))) d u:=λ{d u} h=>by
   unfold CZ at h ⊢;rw[Ad (λz=>by rw[z,b9]at h;cases h)];exact h
  refine av _ _ ⟨_,_,_,_,_,rv.set (oA aa i) (.ref p4),J,b6.up fR _,AU,by rw[rS];exact ad,λk hk=>?_⟩;rcases oM k i with ax|hge
  ·obtain⟨d',u',t',a1,a2,a3,a4⟩:=br k ax;refine⟨d',u',t',a1,?_,b3 (Mh aq a3),a4⟩;rw[pF (λz=>by have:=KH pl hi (by lia) z;lia)];exact a2
  ·obtain rfl:k=i:=by lia
   exact⟨p4,un,t,ht,by rw[pM (by rw[ad];exact pi)],b3 e8,cg⟩
 rintro σ Hz ⟨cc,df,ut,uh,uc,rv,rfl,sz,c0,ad,ai⟩;subst ak;rw[nh,M.bl]at ai;obtain⟨ds,rs',rfl,b5,cu⟩:=Ng (R:=Bw) (H:=Hz) (mv:=mv) (Pq:=λq r'=>∃k r,k<rs.length/\oA os k=q/\rs[k]?=some r/\r'=E2 aa O k r) (λqq hq=>by
  obtain⟨k,hk,ek⟩:=NU po (q:=qq) (by lia);obtain⟨d,r,a1,a2,a3⟩:=ah k hk;rw[ek]at a2;exact⟨d,_,a2,Df sz a3,k,r,hk,ek,a1,J⟩)
 obtain⟨es,us,rfl,bm,dm⟩:=Ng (R:=CZ) (H:=Hz) (mv:=rv) (Pq:=λq u=>∃k t,k<ts.length/\oA aa k=q/\ts[k]?=some t/\Ex (t.map (A9 rs.length os O)) u) (λqq hq=>by
  obtain⟨k,hk,ek⟩:=NU pl (q:=qq) (by lia);obtain⟨d,u,t,a1,a2,a3,a4⟩:=ai k hk;rw[ek]at a2;exact⟨d,_,a2,a3,k,t,hk,ek,a1,a4⟩)
 rw[nh]at ag ad;have bd:rs'.length=rs.length:=by rw[<-b5.1];exact ag
 have db:us.length=ts.length:=by rw[<-bm.1];exact ad
 have N:NetV ts.length rs' us/\MJ us rs.length:=by
  refine gf (m:=rs.length) (π:=oA aa) (ρ:=A9 rs.length os O) g b4 dp bd db (gX dg po pl p0 p1) (λp t ht=>?_) (i6 rfl bd po p0 p1 λk r hk=>?_) (λr' dd=>?_)
  ·have hp:=(nq.mp ht).1;have pi:=(DS pl hp).2;have al:us[oA aa p]?=some us[oA aa p]:=nj (by lia);obtain⟨k,t',a1,a2,a3,a4⟩:=dm _ _ al
   have:=KH pl a1 hp a2
   subst this;rw[ht]at a3;cases a3;exact⟨_,al,a4⟩
  ·have bx:=(nq.mp hk).1;have oi:=(DS po bx).2;have al:rs'[oA os k]?=some rs'[oA os k]:=nj (by lia);obtain⟨k',r',a1,a2,a3,a4⟩:=cu _ _ al
   have:=KH po a1 bx a2
   subst this;rw[hk]at a3;cases a3;rw[al,a4]
  ·obtain⟨j,hj,ej⟩:=oG dd;obtain⟨k,r,a1,a2,a3,a4⟩:=cu j r' (by rw[nj hj,ej])
   have:=c3 r (nz a3)
   rw[a4];unfold E2;split<;>exact this
 have cp:=bp.trans sz;refine⟨_,J,T,_,J,.inl (AI.of (M.keep cp).tm.h1),_,J,Mk,_,J,.inl ⟨AI.of (sz _ _ dn),λb8 bg=>?_⟩⟩;refine BF bg (.AG (ds.map V.ref)) λH7 s7 e7=>?_
 have dk:=s7 _ _ c0;refine⟨_,J,Rw,_,J,.inl ⟨AI.of dk,λp2 bb=>?_⟩⟩;refine BF bb (.AG (es.map V.ref)) λH8 s8 e8=>?_
 refine⟨by exact GA,λp hp=>?_⟩;rw[lb];have az:=AY hp (.AG [.int (ts.length:Int),.ref b8,.ref p2]);have a8:=s7.trans (s8.trans az);exact q p b8 p2 ts.length rs' us _ (cp.trans a8) AU ⟨ds,az _ _ (s8 _ _ e7),b5.keep Df a8⟩ ⟨es,az _ _ e8,bm.keep Mh a8⟩ N.1 (by rw[bd];exact N.2)
def Ym:Gn [[2,0],[3,1]] [0,1,0,1]:=by
 have nd:([[2,0],[3,1]]:List (List Int)).flatten.Nodup:=by decide
 refine⟨by decide,by decide,by decide,nd,λx=>?_,λp t F x O=>?_,by decide,by decide,⟨J,J⟩,λS S0 hS p F=>?_,Zo [[2,0],[3,1]] rfl (by decide) (by decide) (by decide) (by decide),ZH rfl⟩
 ·simp only[oQ,vt,qE,om,oj,pB,qK,AJ,oP,rD]
  lia
 ·match p,F with
  |0,F=>cases F;simp at O;rcases O with rfl|rfl<;>rfl
  |1,F=>cases F;simp at O;rcases O with rfl|rfl<;>rfl
 ·have:=hS 1 (by decide) 0 1 rfl rfl
  match p,F with
  |0,_=>exact S0
  |1,_=>exact this.mp S0
def Cf.Ld(M:Cf H R T cs bs ts rs)(ha:H a=some (.AE ys))(n:a∉T :: R :: bs)(s:Bn a H H'):Cf H' R T cs bs ts rs:=by
 have nt:∀{c:Addr} {zs:List V},H c=some (.AG zs)->H' c=some (.AG zs):=λ{c zs} h=>s _ _ (λz=>by rw[z,ha]at h;cases h) h
 refine⟨⟨s _ _ (λz=>n (by simp[z])) M.tm.h1,⟨M.tm.rows.1,λi b x F O=>s _ _ (λz=>n (by rw[<-z];exact oY _ (oY _ (nz F)))) (M.tm.rows.2 i b x F O)⟩,M.tm.nd⟩,s _ _ (λz=>n (by simp[z])) M.r1,⟨M.rr.1,λi b x F O=>?_⟩,M.rn⟩;obtain⟨e,h1,h2⟩:=M.rr.2 i b x F O;exact⟨e,nt h1,nt h2⟩
inductive Tj(vs:List V)(H:Hp)(Q:VK)(_:XK):Prop
 |mk (a:Addr) (ns:List Int) (F O:Int) (ab:vs=[.ref a,.int F,.int O]) (ad:H a=some (.AE (ns.map V.int))) (af:(∀x∈ns,0<=x)) (ah:ns.length<=200) (ae:1<=F) (ag:F<=14) (ac:0<O) (aa:O<1000) (ai:∀p ra ta n rs us H',Bn a H H'->H' p=some (.AG [.int ((n:Nat):Int),.ref ra,.ref ta])->BB Bw H' ra rs->BB CZ H' ta us->NetV n rs us->MJ us rs.length->Q (.ref p) H')
def KZ:Ar ["_law_numbers_here","_law_most","_law_great","_law_many","_law_last","_law_ropes","_law_turns","_law_c"] ["_law_numbers_here","_law_most","_law_great"] (Ah s_law_grown):=Ay
set_option maxHeartbeats 1000000 in
seal L2.Cy L2.PS L2.PE L2.PA in
def Zl (F:Ak K "_law_grown" "_law_grown" s_law_grown f fd)(G1:AZ P w K mg base 1 "_law_next" ["_law_numbers_here"] N0)
  (G2:AZ P w K mg base 3 "_law_ease" ["_law_c","_law_most"] UO)
  (G3:AZ P w K mg base 2 "_law_grow" ["_law_ropes","_law_turns","_law_c","_law_ease_here"] Uv)
  (G4:AZ P w K mg base 2 "_law_finished" ["_law_ropes","_law_turns","_law_c"] V1)(ml:mg "len" = none) :
  Ag P w K mg base Ap 4 f fd ["_law_numbers_here","_law_most","_law_great"] Tj:=by
 refine F.A1 KZ λim A _ s H vs Q E hr h=>?_
 obtain⟨a,ns,mo,gr,rfl,ha,hp,hl,bu,bw,ak,ah,q⟩:=h;exists _,AL (AW 3 KZ (AM BK AB (AM B9 (AV G1 (AA (pv 0) AD)) (pv 1))))
  (AL (AW 4 KZ (AV G1 (AA (pv 0) AD)))
  (AL (AW 5 KZ (CG (AA (BS (AA AB (AA AB (AA (AV G2 (AA (AV G1 (AA (pv 0) AD)) (AA (pv 2) AD))) AD)))) AD)))
  (AL (AW 6 KZ (CG (AA (CG (AA AB (AA (HP G0 AB) AD))) (AA (CG (AA AB (AA (HP G0 AB) AD))) AD))))
  (AL (Hy oE (BP Fh (B4 ml (pv 5)) (pv 3))
   (AL (AW 7 KZ (AV G1 (AA (pv 0) AD)))
   (AS (DH (AV G3 (AA (pv 5) (AA (pv 6) (AA (pv 7) (AA (AV G2 (AA (AV G1 (AA (pv 0) AD)) (AA (pv 2) AD))) AD)))))))))
  (AS (Ai (AV G4 (AA (pv 5) (AA (pv 6) (AA (pv 4) AD))))))))))
 refine⟨_,J,a,ns,J,ha,hp,hl,λz a2 H1 s1 aw bl bq z0=>?_⟩;exists _,J,_,_,J,J,by lia,_,_,J,rfl
 (try dsimp only)
 have y0:=qx z (show mo≠0 by lia);have y1:=qD z (show 0<mo by lia);generalize bv:1+z%mo=my;have br:1<=my:=by lia
 have bx:my<=14:=by lia
 refine⟨_,J,a,a2,J,aw,bl,bq,λc a6 H2 s2 av bb a4 c0=>?_⟩;refine⟨_,J,a,a6,J,av,bb,a4,λz3 ay H3 s3 ar bi ba bt=>?_⟩;refine⟨_,J,z3,gr,J,ak,ah,λe H4 qe s4 he ek=>?_⟩;have am:Bn a H H4:=s1.trans (s2.trans (s3.trans s4.b));have aj:=s4 _ _ ar;refine⟨by exact GA,λtp az=>⟨by exact ED,λR hR=>?_⟩⟩;obtain⟨H5,zg,s5,e5⟩:=nw az (.AG [.int 0,.int 1,.ref e]);rw[zg]at hR ⊢;refine BF hR (.AE [.ref tp]) λH6 s6 e6=>?_
 refine⟨_,J,by exact Bk,λl1 h1=>⟨_,J,by exact Bk,λl2 h2=>⟨by exact Bk,λT hT=>?_⟩⟩⟩;obtain⟨H7,zg,s7,e7⟩:=nw h1 (.AE [.int 0,.int (-2)]);rw[zg]at h2 hT ⊢;obtain⟨H8,zg,s8,e8⟩:=nw h2 (.AE [.int 1,.int (-1)]);rw[zg]at hT ⊢;refine BF hT (.AE [.ref l1,.ref l2]) λH9 s9 e9=>?_
 have af:=s5.trans s6;have ae:=af.trans s7;have ai:=ae.trans s8;have ab:=ai.trans s9;have bg:l1≠l2:=BW e7 h2;have bo:l1≠T:=BW (s8 _ _ e7) hT;have a7:l2≠T:=BW e8 hT;have bj:R≠l1:=BW e6 h1;have bf:R≠l2:=BW (s7 _ _ e6) h2;have au:R≠T:=BW (s8 _ _ (s7 _ _ e6)) hT;have M0:Cf H9 R T [tp] [l1,l2] [[2,0],[3,1]] [(0,1,qe)]:=by
  exists ⟨e9,⟨J,λi b x e1 O=>?_⟩,?_⟩,s9 _ _ (s8 _ _ (s7 _ _ e6)),⟨J,λi b x e1 O=>?_⟩
  ·match i,e1,O with
   |0,e1,O=>cases e1;cases O;exact s9 _ _ (s8 _ _ e7)
   |1,e1,O=>cases e1;cases O;exact s9 _ _ e8
  ·simp[bg,qu bo,qu a7]
  ·match i,e1,O with
   |0,e1,O=>cases e1;cases O;exact⟨e,(s6.trans (s7.trans (s8.trans s9))) _ _ e5,An ab he⟩
  ·simp[au,bj,bf]
 have aa:∀{x:Addr},H4 x=none->H x=none/\x≠a:=λ{x} hx=>by
  have nx:x≠a:=λz=>by rw[z,aj]at hx;cases hx
  refine⟨?_,nx⟩;cases eo:H x with
  |none=>rfl
  |some o =>
   have:=am x o nx eo
   rw[this]at hx;cases hx
 have be:∀b∈T :: R :: [l1,l2],H b=none/\b≠a:=by
  intro b hb;simp at hb;rcases hb with rfl|rfl|rfl|rfl
  ·exact aa (ai.free hT)
  ·exact aa (s5.free hR)
  ·exact aa (af.free h1)
  ·exact aa (ae.free h2)
 refine Hu (λσ H2=>∃uc ns cs bs ts rs,σ=[some (.ref a),some (.int mo),some (.int gr),some (.int my),some (.int c),some (.ref R),some (.ref T),uc]/\Bn a H H2/\H2 a=some (.AE ((ns:List Int).map V.int))/\(∀x∈ns,0<=x)/\ns.length<=200/\(∀b∈T :: R :: bs,H b=none/\b≠a)/\Cf H2 R T cs bs ts rs/\Gn ts (A3 rs)/\(rs.length:Int)<=my/\(∀r∈rs,GV r.2.2))
  (λ_ H2=>match H2 R with|some (.AE xs)=>my.toNat-xs.length|_=>0) ⟨none,ay,[tp],[l1,l2],[[2,0],[3,1]],[(0,1,qe)],J,am.trans ab.b,ab _ _ aj,bi,ba,be,M0,Ym,by show(1:Int)<=my;lia,λr hr=>by rw[oz.mp hr];exact ek⟩ ?_ ?_
 ·rintro σ Hc ⟨uc,nc,cs,bs,ts,rs,rfl,sc,ad,aq,a1,fr,M,gg,lm,ek⟩;have lc:(((cs.map V.ref).length:Nat):Int)=(rs.length:Int):=by rw[nh,M.rr.1]
  exists _,J,R,_,J,.inl (AI.of M.r1),_,J,_,_,J,J,_,rfl;rw[lc];have na:a∉T :: R :: bs:=λz=>(fr a z).2 rfl
  by_cases al:(rs.length:Int)<my
  ·refine C3 al ?_;refine⟨_,J,a,nc,J,ad,aq,a1,λc1 n1 Hd sd ao ap bh a9=>?_⟩;have Md:=M.Ld ad na sd;refine⟨_,J,_,J,_,J,_,J,a,n1,J,ao,ap,bh,λc2 n2 He se bn bm ax bz=>?_⟩;have Me:=Md.Ld ao na se;refine⟨_,J,c2,gr,J,ak,ah,λO Hf q2 sf hf a3=>?_⟩;have Mf:=Me.keep sf;refine⟨R,T,O,cs,bs,ts,rs,c1,q2,J,Mf,gg,by lia  ,a9,hf,a3,ek,λHg cs' a5 ts' rs' Fg fb Mg g' l' a0=>?_⟩;have ac:Bn a H Hf:=sc.trans (sd.trans (se.trans sf.b));have ag:=sf _ _ bn;exists ⟨_,n2,cs',a5,ts',rs',J,λb o nb e=>Fg b o (λhb=>by
     have bc:b∈T :: R :: bs:=hb;rw[(fr b bc).1]at e;cases e) (ac b o nb e),Fg _ _ (λhb=>na hb) ag,bm,ax,λb hb=>?_,Mg,g',by lia,a0⟩
   ·rcases oj.mp hb with w|w
    ·exact fr b (by simp[w])
    ·rcases oj.mp w with w|w
     ·exact fr b (by simp[w])
     ·rcases fb b w with y|y
      ·exact fr b (by simp[y])
      ·have nb:b≠a:=λz=>by rw[z,ag]at y;cases y
       refine⟨?_,nb⟩;cases eo:H b with
       |none=>rfl
       |some o=>rw[ac b o nb eo]at y;cases y
   ·rw[Mg.r1,M.r1];show my.toNat-(cs'.map V.ref).length<my.toNat-(cs.map V.ref).length;rw[nh,nh,Mg.rr.1,M.rr.1]
    lia
  ·refine CH al ?_;refine⟨_,J,_,J,_,J,R,T,cs,bs,ts,rs,c,J,M,gg,by lia,ek,λp ra ta n rs' us H' s' bd bp a8 N D=>?_⟩;exact q p ra ta n rs' us H' (sc.trans s'.b) bd bp a8 N D
 ·rintro σ H2 Q1 Q2 hq ⟨v,e,p,ys,e1,O,v',e',i,j,e3,e4,b,eb,z⟩;exact⟨v,e,p,ys,e1,O,v',e',i,j,e3,e4,b,eb,hq _ _ z⟩
open Wd
def ET(L:List (List Int))(x:Int):Nat:=L.findIdx λr=>decide (x∈r)
def LJ(h:x∈L.flatten):∃r,L[ET L x]?=some r/\x∈r:=by
 obtain⟨r,O,hx⟩:=oI.mp h;have F:ET L x<L.length:=List.findIdx_lt_length_of_exists ⟨r,O,pR hx⟩;exact⟨L[ET L x],nj F,of_decide_eq_true (List.findIdx_getElem (w:=F))⟩
def Vv(nd:L.flatten.Nodup){i j:Nat}(h1:L[i]?=some r)(h2:L[j]?=some s)(hx:x∈r)(hy:x∈s):i=j:=by
 have F:=(wJ.mp nd).2;rw[rz]at F;obtain⟨l1,e1⟩:=nq.mp h1;obtain⟨l2,O⟩:=nq.mp h2;rcases vc i j with z|z|z
 ·exact absurd rfl (F i j l1 l2 z x (by rw[e1];exact hx) x (by rw[O];exact hy))
 ·exact z
 ·exact absurd rfl (F j i l2 l1 z x (by rw[O];exact hy) x (by rw[e1];exact hx))
def Tv(nd:L.flatten.Nodup)(F:L[l]?=some r)(O:x∈r):ET L x=l:=by
 obtain⟨r',h1,h2⟩:=LJ (oI.mpr ⟨r,nz F,O⟩);exact Vv nd h1 F h2 O
def Ya(T:CS n us)(hx:AJ n x):ET (A7 (AQ us) n) (AQ us x)=ET (A7 (AQ us) n) x:=by
 have P:=T.By;obtain⟨r,h1,h2⟩:=LJ ((K0 P).mpr hx);obtain⟨j1,F,_⟩:=Mi P (nz h1);have O:=h2;rw[F]at O
 have:=ZX P j1 O
 rw[<-F]at this;exact Tv (MX P) h1 this
def Mn:∀(L:List (List Int)) (i:Nat) (l:Nat) (r:List Int) (x:Int),L[l]?=some r->x∈r->(x,((i+l:Nat):Int))∈Ca i L
 |[],i,l,r,x,h,_=>by cases l<;>cases h
 |c :: L,i,0,r,x,h,hx=>by cases h;exact om.mpr (.inl (n8.mpr ⟨x,hx,by simp⟩))
 |c :: L,i,l+1,r,x,h,hx=>by
  have:=Mn L (i+1) l r x (by simpa using h) hx
  rw[show i+1+l=i+(l+1) by lia]at this;exact om.mpr (.inr this)
def iX(F:L.flatten.Nodup)(h:x∈L.flatten):lk (Ca 0 L) x=some ((ET L x:Nat):Int):=by
 obtain⟨r,h1,h2⟩:=LJ h
 have:=Mn L 0 _ r x h1 h2
 rw[uF]at this;exact QW (by rw[GG];exact F) this
def FJ(rs:List AX)(Y:Nat->Rat)(x:Int):Rat :=
 match rs[(x / 2).toNat]? with
 |some r=>if x%2=0 then Au Y r else-Au Y r
 |none=>if x%2=0 then-A8 Y rs 0 else A8 Y rs 0
def SF{k:Nat}(h:rs[k]?=some r):FJ rs Y (2*(k:Int))=Au Y r:=by
 unfold FJ;rw[show(2*(k:Int) / 2).toNat=k by lia,h];show(if 2*(k:Int)%2=0 then Au Y r else _)=_;rw[nX (by lia)]
def Z1{k:Nat}(h:rs[k]?=some r):FJ rs Y (2*(k:Int)+1)=- Au Y r:=by
 unfold FJ;rw[show((2*(k:Int)+1) / 2).toNat=k by lia,h];show(if (2*(k:Int)+1)%2=0 then _ else-Au Y r)=_;rw[nS (by lia)]
def fE(rs:List AX)(Y:Nat->Rat):FJ rs Y (2*(rs.length:Int))=- A8 Y rs 0:=by
 unfold FJ;rw[show(2*(rs.length:Int) / 2).toNat=rs.length by lia,pZ (nQ _)];show(if 2*(rs.length:Int)%2=0 then-A8 Y rs 0 else _)=_;rw[nX (by lia)]
def cH(rs:List AX)(Y:Nat->Rat):FJ rs Y (2*(rs.length:Int)+1)=A8 Y rs 0:=by
 unfold FJ;rw[show((2*(rs.length:Int)+1) / 2).toNat=rs.length by lia,pZ (nQ _)];show(if (2*(rs.length:Int)+1)%2=0 then _ else A8 Y rs 0)=_;rw[nS (by lia)]
def Ye(rs:List AX)(Y:Nat->Rat)(x:Int):FJ rs Y (AN x)=- FJ rs Y x:=by
 unfold FJ AN;by_cases e:x%2=0
 ·rw[nX e,show(x+1) / 2=x / 2 by lia];cases rs[(x / 2).toNat]? with
  |none=>show(if (x+1)%2=0 then-A8 Y rs 0 else A8 Y rs 0)=- (if x%2=0 then-A8 Y rs 0 else A8 Y rs 0);rw[nX e,nS (by lia)];grind
  |some r=>show(if (x+1)%2=0 then Au Y r else-Au Y r)=- (if x%2=0 then Au Y r else-Au Y r);rw[nX e,nS (by lia)]
 ·rw[nS e,show(x-1) / 2=x / 2 by lia];cases rs[(x / 2).toNat]? with
  |none=>show(if (x-1)%2=0 then-A8 Y rs 0 else A8 Y rs 0)=- (if x%2=0 then-A8 Y rs 0 else A8 Y rs 0);rw[nS e,nX (by lia)]
  |some r=>show(if (x-1)%2=0 then Au Y r else-Au Y r)=- (if x%2=0 then Au Y r else-Au Y r);rw[nS e,nX (by lia)];grind
def MZ(f:Int->Rat)(hs:List Nat)(q p:Nat):((ES (hs++[q]) p).map f).sum=((ES hs p).map f).sum+if p=q then f (hs.length:Int) else 0:=by
 rw[Xz];by_cases e:q=p
 ·rw[nX e,nX e.symm,oh,sN];simp;grind
 ·rw[nS e,nS (λz=>e z.symm)];grind
def Su{f:Int->Rat}(F:∀(k:Nat) (r:AX),rs[k]?=some r->f (2*(k:Int))=Au Y r/\f (2*(k:Int)+1)=- Au Y r)(p:Nat):∀j,j<=rs.length->((ES (CV (rs.take j)) p).map f).sum=A8 Y (rs.take j) p
 |0,_=>by simp[CV,ES,A8]
 |j+1,hj=>by
  have e:rs[j]?=some rs[j]:=nj hj;have l1:(CV (rs.take j)).length=2*j:=by rw[E7,pS];lia
  rw[Oa e,EF e,MY,MZ,MZ,Su F p j (by lia),oa,l1];obtain⟨e1,O⟩:=F j _ e;rw[show((2*j:Nat):Int)=2*(j:Int) by lia,show((2*j+[rs[j].1].length:Nat):Int)=2*(j:Int)+1 by simp,e1,O];unfold Ct;split<;>split<;>grind
def NetV.CN{f:Int->Rat}(k:NetV n rs ts)(O:∀(k:Nat) (r:AX),rs[k]?=some r->f (2*(k:Int))=Au Y r/\f (2*(k:Int)+1)=- Au Y r)(F:ts[i]?=some t):(t.map f).sum=A8 Y rs i+(if i=0 then f (2*(rs.length:Int)) else 0)+if i=1 then f (2*(rs.length:Int)+1) else 0:=by
 rw[J2 ((k.By F).map f)];show((ES (CV rs++[0,1]) i).map f).sum=_;rw[show CV rs++[0,1]=CV rs++[0]++[1] by simp,MZ,MZ,oa,E7];have s:=Su O i rs.length (nQ _);rw[qc]at s;rw[s,show((2*rs.length:Nat):Int)=2*(rs.length:Int) by lia,show((2*rs.length+[0].length:Nat):Int)=2*(rs.length:Int)+1 by simp]
structure JX(rs:List AX)(ts:List (List Int))(Y:Nat->Rat)(p:Int->Rat):Prop where
 MA:∀x,AJ (2*rs.length+2) x->p (AQ ts x)=p x
 df:∀(k:Nat) (r:AX),rs[k]?=some r->p (2*(k:Int))-p (2*(k:Int)+1)=Au Y r
 o:p (2*(rs.length:Int))=0
def iF(k:NetV (n+2) rs ts)(O:Cj ts (2*rs.length+2))(F:∀i,2<=i->i<n+2->A8 Y rs i=0):∃p,JX rs ts Y p:=by
 have aa:∀r∈rs,r.1<n+2/\r.2.1<n+2:=λr hr=>(k.Kf r hr).2
 obtain⟨p,i1,d1⟩:=O (FJ rs Y) (λx _=>Ye rs Y x) (λt ht=>by
  obtain⟨i,hi,e⟩:=oG ht;rw[k.CN (λ_ _ h=>⟨SF h,Z1 h⟩) (show ts[i]?=some t by rw[nj hi,e]),fE,cH];have O:=YD aa F;rw[k.len]at hi
  match i,hi with
  |0,_=>simp;grind
  |1,_=>simp;grind
  |i+2,hi=>rw[F (i+2) (by lia) hi,nS (by lia),nS (by lia)];grind)
 exists λx=>p x-p (2*(rs.length:Int)),λx hx=>?_,λj r hj=>?_
 ·show p _-_=p _-_;rw[i1 x hx]
 ·have hl:=(nq.mp hj).1
  have:=d1 (2*(j:Int)) ⟨by lia,by push_cast;lia⟩
  rw[show AN (2*(j:Int))=2*(j:Int)+1 by unfold AN;rw[nX (by lia)],SF hj]at this;show p _-_-(p _-_)=_
  grind
 ·show p _-p _=0
  grind
def Ot(k:NetV n rs ts)(h:JX rs ts Y p)(hi:i<n):A8 Y rs i=if i=0 then p (2*(rs.length:Int)+1) else if i=1 then-p (2*(rs.length:Int)+1) else 0:=by
 have O:ts[i]?=some (ts[i]'(by rw[k.len];exact hi)):=nj _;generalize ts[i]'(by rw[k.len];exact hi)=t at O;have tm:=nz O;have F:∀j:Nat,AN (2*(j:Int))=2*(j:Int)+1/\AN (2*(j:Int)+1)=2*(j:Int):=λj=>by
  unfold AN;rw[nX (by lia),nS (by lia)];lia
 have e:=k.CN (f:=λx=>p x-p (AN x)) (Y:=Y) (λj r hj=>by
  have:=h.df j r hj
  rw[(F j).1,(F j).2];exact⟨this,by grind⟩) O
 have z:(t.map λx=>p x-p (AN x)).sum=0:=by
  rw[J1 (g:=λx=>p x+(-1)*p (pr ts x)) (λx hx=>by
   have xi:=(k.tn.mem x).mp (oI.mpr ⟨t,tm,hx⟩)
   have:=h.MA _ (C0 k.tn.HV xi)
   rw[Bv,Cz]at this;rw[this];grind),JA,Ip,Oq k.tn.nd tm p]
  grind
 rw[z]at e;rw[(F _).1,(F _).2,h.o]at e;split at e
 ·rename_i a;subst a
  rw[nX rfl];simp at e;grind
 ·rename_i a
  rw[nS a];split at e
  ·rename_i b;rw[nX b];grind
  ·rename_i b;rw[nS b];grind
def EY(ts:List (List Int))(n:Nat)(p:Int->Rat)(j:Int):Rat:=p (((A7 (AQ ts) n).getD j.toNat []).headD 0)
def ZZ(T:CS n ts)(O:∀x,AJ n x->p (AQ ts x)=p x)(hx:AJ n x):EY ts n p ((ET (A7 (AQ ts) n) x:Nat):Int)=p x:=by
 have P:=T.By;obtain⟨r,h1,h2⟩:=LJ ((K0 P).mpr hx);obtain⟨F,j2,_⟩:=Mi P (nz h1);unfold EY;rw[pG,nO,h1];show p (r.headD 0)=p x;rw[j2]at h2;obtain⟨k,_,e⟩:=Ee.mp h2;rw[<-e];exact(Pu P F O k).symm
def Ta(T:CS n ts)(F:AJ n x):ET (A7 (AQ ts) n) x<(A7 (AQ ts) n).length:=by
 obtain⟨r,h1,_⟩:=LJ ((K0 T.By).mpr F);exact(nq.mp h1).1
def Rp(T:CS n ts)(hj:j<(A7 (AQ ts) n).length):∃x,AJ n x/\ET (A7 (AQ ts) n) x=j:=by
 have h1:(A7 (AQ ts) n)[j]?=some (A7 (AQ ts) n)[j]:=nj hj;obtain⟨F,O,_⟩:=Mi T.By (nz h1);refine⟨_,F,Tv (MX T.By) h1 ?_⟩
 have:=Js T.By F
 rw[<-O]at this;exact this
def Lg(ts:List (List Int))(m:Nat):Prop:=∀S:Int->Prop,(∀x,AJ (2*m+2) x->(S x↔S (AQ ts x)))->(∀k:Nat,k<m->(S (2*(k:Int))↔S (2*(k:Int)+1)))->S (2*(m:Int))->∀x,AJ (2*m+2) x->S x
def _root_.Mth.L6.JJ(D:L6 (AQ ts) m):Lg ts m:=λS h1 h2 h0 x F=>by
 by_cases z:S (2*(m:Int)+1)
 ·exact D.DU S h1 h2 z x F
 ·have:=D.DU (λx=>¬S x) (λx F=>not_congr (h1 x F)) (λk O=>not_congr (h2 k O)) z (2*(m:Int)) ⟨by lia,by push_cast;lia⟩
  exact absurd h0 this
structure L0(n:Nat)(rs:List AX)(ts:List (List Int)):Prop extends NetV n rs ts where
 JJ:Lg ts rs.length
 RE:Cj ts (2*rs.length+2)
def NetV.q(k:NetV n rs ts)(D:MJ ts rs.length):L0 n rs ts:=⟨k,D.du.JJ,D.po⟩
end
end My
namespace My
open PySem L2 Mth Wd
variable {x:List Int}
def BC(G k:Nat):Nat:=if k=0 then 0 else if k=G then 1 else k+1
def Mu(F:1<=G)(h:k<=G):BC G k<G+1:=by unfold BC;split<;>(try split)<;>lia
def OT(g1:1<=G)(h:p<G+1):∃k,k<=G/\BC G k=p:=by
 by_cases F:p=0
 ·exact⟨0,by lia,by unfold BC;rw[nX rfl,F]⟩
 ·by_cases O:p=1
  ·exact⟨G,by lia,by unfold BC;rw[nS (by lia),nX rfl,O]⟩
  ·exact⟨p-1,by lia,by unfold BC;rw[nS (by lia),nS (by lia)];lia⟩
structure C6(m:Nat)(gs:List (List Int)):Prop where
 fl:gs.flatten=(og m).map λr:Nat=>(r:Int)
 sz:∀g∈gs,∃a:Int,g=[a]\/g=[a,a+1]
 m1:1<=m
 Ig:m<=14
def Ba(m:Nat)(gs:List (List Int))(k:Nat):List Int:=if k=0 then [2*(m:Int)] else ((gs.getD (k-1) []).reverse).map λr=>2*r+1
def Br(m:Nat)(gs:List (List Int))(k:Nat):List Int:=if k<gs.length then (gs.getD k []).map λr=>2*r else [2*(m:Int)+1]
structure Cv(m:Nat)(gs:List (List Int))(rs:List AX)(ts:List (List Int)):Prop where
 g:C6 m gs
 len:ts.length=gs.length+1
 tr:∀k,k<=gs.length->ts[BC gs.length k]?=some (Ba m gs k++Br m gs k)
 rp:rs=(Ca 0 gs).map λq=>(BC gs.length q.2.toNat,BC gs.length (q.2.toNat+1),1)
section
variable {m:Nat}{gs:List (List Int)}
def C6.nd(g:C6 m gs):gs.flatten.Nodup:=by
 rw[g.fl,ug,rB];exact tF (λh e=>h (by lia)) tH
def C6.mem(g:C6 m gs):r∈gs.flatten↔0<=r/\r<m:=by
 rw[g.fl,n8];constructor
 ·rintro⟨j,F,rfl⟩
  have:=o7.mp F
  omega
 ·rintro⟨h1,h2⟩;exact⟨r.toNat,o7.mpr (by omega),by omega⟩
def C6.at(g:C6 m gs){r:Int}(h0:0<=r)(h1:r<m):∃(k:Nat) (x:List Int),gs[k]?=some x/\r∈x:=by
 obtain⟨x,hx,O⟩:=oI.mp (g.mem.mpr ⟨h0,h1⟩);obtain⟨k,F,e⟩:=oG hx;exact⟨k,x,by rw[nj F,e],O⟩
def C6.in(g:C6 m gs){k:Nat}(O:gs[k]?=some x)(F:r∈x):0<=r/\r<m:=g.mem.mp (oI.mpr ⟨x,nz O,F⟩)
def C6.le(g:C6 m gs):gs.length<=m:=by
 have F:∀l:List (List Int),(∀x∈l,1<=x.length)->l.length<=l.flatten.length:=by
  intro l
  induction l with
  |nil=>intro _;simp
  |cons x l ih =>
   intro h
   have:=ih λy hy=>h y (oY _ hy)
   have:=h x (qh ..)
   rw[oQ,oa,oP]
   lia
 have:=F gs λx O=>by obtain⟨a,e|e⟩:=g.sz x O<;>rw[e]<;>simp
 rw[g.fl,nh,oR]at this;exact this
def C6.g1(g:C6 m gs):1<=gs.length:=by
 rcases uS gs.length with z|z
 ·have:=g.fl
  rw[xv z]at this;have l:=congrArg tq this;rw[nh,oR]at l;have F:([]:List (List Int)).flatten.length=0:=rfl
  have:=g.m1
  lia
 ·exact z
def HQ:Ba m gs 0=[2*(m:Int)]:=nX rfl
def GS(h:gs[k]?=some x):Ba m gs (k+1)=x.reverse.map λr=>2*r+1:=by
 unfold Ba;rw[nS (by lia),aaz,nO,h];rfl
def Fi(h:gs[k]?=some x):Br m gs k=x.map λr=>2*r:=by
 unfold Br;rw[nX (nq.mp h).1,nO,h];rfl
def JI:Br m gs gs.length=[2*(m:Int)+1]:=nS (sT _)
def C6.W7(g:C6 m gs)(h:k<gs.length):∃a:Int,gs[k]?=some [a]\/gs[k]?=some [a,a+1]:=by
 obtain⟨a,e|e⟩:=g.sz _ (pX h)
 ·exact⟨a,.inl (by rw[nj h,e])⟩
 ·exact⟨a,.inr (by rw[nj h,e])⟩
def Qv(a b:Int):BD [a,b]=[(a,b),(b,a)]:=rfl
def JS(a b c:Int):BD [a,b,c]=[(a,c),(b,a),(c,b)]:=rfl
def Nx(a b c d:Int):BD [a,b,c,d]=[(a,d),(b,a),(c,b),(d,c)]:=rfl
inductive Hf(J:Int->Int->Prop):List Int->Int->Int->Prop
 |Ae (a:Int):Hf J [a] a a
 |Bt (z y:Int) (h:J y z):Hf J [z,y] z y
def fV{J}(hA:Hf J A fA lA)(O:Hf J B fB lB)(h1:J fA lB)(h2:J fB lA):∀q∈BD (A++B),J q.1 q.2:=by
 intro q F;cases hA with
 |Ae a =>
  cases O with
  |Ae b =>
   rw[show [fA]++[fB]=[fA,fB] from rfl,Qv]at F;simp only[oj,pB,qK]at F;rcases F with rfl|rfl
   ·exact h1
   ·exact h2
  |Bt z y O =>
   rw[show [fA]++[fB,lB]=[fA,fB,lB] from rfl,JS]at F;simp only[oj,pB,qK]at F;rcases F with rfl|rfl|rfl
   ·exact h1
   ·exact h2
   ·exact O
 |Bt z y hA =>
  cases O with
  |Ae b =>
   rw[show [fA,lA]++[fB]=[fA,lA,fB] from rfl,JS]at F;simp only[oj,pB,qK]at F;rcases F with rfl|rfl|rfl
   ·exact h1
   ·exact hA
   ·exact h2
  |Bt z y O =>
   rw[show [fA,lA]++[fB,lB]=[fA,lA,fB,lB] from rfl,Nx]at F;simp only[oj,pB,qK]at F;rcases F with rfl|rfl|rfl|rfl
   ·exact h1
   ·exact hA
   ·exact h2
   ·exact O
def U2{J:Int->Int->Prop}(O:Hf (λ_ _=>True) A fA lA)(F:Hf (λ_ _=>True) B fB lB)(h:∀q∈BD (A++B),J q.1 q.2):J fA lB/\J fB lA/\(∀z y,B=[z,y]->J y z):=by
 cases O with
 |Ae a =>
  cases F with
  |Ae b=>exact⟨h (fA,fB) (by rw[show [fA]++[fB]=[fA,fB] from rfl,Qv];simp),h (fB,fA) (by rw[show [fA]++[fB]=[fA,fB] from rfl,Qv];simp),λz y e=>by cases e⟩
  |Bt z y _=>exact⟨h (fA,lB) (by rw[show [fA]++[fB,lB]=[fA,fB,lB] from rfl,JS];simp),h (fB,fA) (by rw[show [fA]++[fB,lB]=[fA,fB,lB] from rfl,JS];simp),λz y e=>by cases e;exact h (lB,fB) (by rw[show [fA]++[fB,lB]=[fA,fB,lB] from rfl,JS];simp)⟩
 |Bt z y _ =>
  cases F with
  |Ae b=>exact⟨h (fA,fB) (by rw[show [fA,lA]++[fB]=[fA,lA,fB] from rfl,JS];simp),h (fB,lA) (by rw[show [fA,lA]++[fB]=[fA,lA,fB] from rfl,JS];simp),λz y e=>by cases e⟩
  |Bt z y _=>exact⟨h (fA,lB) (by rw[show [fA,lA]++[fB,lB]=[fA,lA,fB,lB] from rfl,Nx];simp),h (fB,lA) (by rw[show [fA,lA]++[fB,lB]=[fA,lA,fB,lB] from rfl,Nx];simp),λz y e=>by cases e;exact h (lB,fB) (by rw[show [fA,lA]++[fB,lB]=[fA,lA,fB,lB] from rfl,Nx];simp)⟩
def Hi(a:Int):AN (2*a)=2*a+1:=by unfold AN;rw[nX (by lia)]
def JO(a:Int):AN (2*a+1)=2*a:=by unfold AN;rw[nS (by lia)];lia
def C6.Ki(g:C6 m gs)(J:Int->Int->Prop)(hJ:∀a:Int,[a,a+1]∈gs->J (2*a+1) (2*(a+1)+1))(h:k<gs.length):∃a b:Int,a∈gs.getD k []/\b∈gs.getD k []/\Hf J (Ba m gs (k+1)) (2*b+1) (2*a+1)/\(∀F,(∀a:Int,[a,a+1]∈gs->F (2*(a+1)) (2*a))->Hf F (Br m gs k) (2*a) (2*b))/\((gs[k]?=some [a]/\b=a)\/(gs[k]?=some [a,a+1]/\b=a+1)):=by
 obtain⟨a,e|e⟩:=g.W7 h
 ·refine⟨a,a,by rw[nO,e];simp,by rw[nO,e];simp,?_,λF _=>?_,.inl ⟨e,rfl⟩⟩
  ·rw[GS e];exact .Ae _
  ·rw[Fi e];exact .Ae _
 ·have O:=nz e;refine⟨a,a+1,by rw[nO,e];simp,by rw[nO,e];simp,?_,λF h'=>?_,.inr ⟨e,rfl⟩⟩
  ·rw[GS e];exact .Bt _ _ (hJ a O)
  ·rw[Fi e];exact .Bt _ _ (h' a O)
end
section
variable {m:Nat}{gs:List (List Int)}{rs:List AX}{ts:List (List Int)}
def Mt(h:rs[k]?=some r):(hm rs)[2*k]?=some r.1/\(hm rs)[2*k+1]?=some r.2.1:=by
 have hk:=(nq.mp h).1;obtain⟨O,a2⟩:=Iw h;have F:=E7 rs;unfold hm;exact⟨by rw[oH (by rw[F];lia)];exact O,by rw[oH (by rw[F];lia)];exact a2⟩
def QD(rs:List AX):(hm rs)[2*rs.length]?=some 0/\(hm rs)[2*rs.length+1]?=some 1:=by
 have F:=E7 rs;unfold hm;exact⟨by rw[oo (by lia),F,tP];rfl,by rw[oo (by lia),F,show 2*rs.length+1-2*rs.length=1 by lia];rfl⟩
def Cv.rl(l:Cv m gs rs ts):rs.length=m:=by
 have:=congrArg tq (GG 0 gs)
 rw[nh,l.g.fl,nh,oR]at this;rw[l.rp,nh,this]
def Cv.Qf(l:Cv m gs rs ts)(hk:gs[k]?=some x)(hr:r∈x):rs[r.toNat]?=some (BC gs.length k,BC gs.length (k+1),1):=by
 have h1:=Mn gs 0 k x r hk hr;rw[uF]at h1;obtain⟨j,F,e⟩:=oG h1;have h2:((Ca 0 gs).map (·.1))[j]?=some r:=by rw[nV,nj F,e];rfl
 rw[GG,l.g.fl,nV]at h2;obtain⟨j',h3,h4⟩:=rP.mp h2;have O:=nq.mp h3;obtain⟨hl,e3⟩:=O;rw[xU]at e3;have ej:r.toNat=j:=by lia
 rw[ej,l.rp,nV,nj F,e];show some (BC gs.length ((k:Int)).toNat,BC gs.length (((k:Int)).toNat+1),(1:Rat))=_;rw[pG]
def Cv.RC(l:Cv m gs rs ts)(hk:k<=gs.length){x:Int}(hx:x∈Ba m gs k++Br m gs k):AJ (2*m+2) x/\(hm rs)[x.toNat]?=some (BC gs.length k):=by
 have O:=QD rs;rw[l.rl]at O;rcases om.mp hx with h|h
 ·cases k with
  |zero =>
   rw[HQ,oz]at h;subst h;exact⟨⟨by lia,by push_cast;lia⟩,by rw[show(2*(m:Int)).toNat=2*m by lia,O.1];unfold BC;rw[nX rfl]⟩
  |succ k =>
   have e:=nj (show k<gs.length by lia);rw[GS e]at h;obtain⟨r,F,rfl⟩:=n8.mp h;have aa:=yO.mp F;have i:=l.g.in e aa
   have:=(Mt (l.Qf e aa)).2
   exact⟨⟨by lia,by push_cast;lia⟩,by rw[show(2*r+1).toNat=2*r.toNat+1 by lia];exact this⟩
 ·rcases oM k gs.length with z|z
  ·have e:=nj z;rw[Fi e]at h;obtain⟨r,F,rfl⟩:=n8.mp h;have i:=l.g.in e F
   have:=(Mt (l.Qf e F)).1
   exact⟨⟨by lia,by push_cast;lia⟩,by rw[show(2*r).toNat=2*r.toNat by lia];exact this⟩
  ·obtain rfl:k=gs.length:=by lia
   rw[JI,oz]at h;subst h
   have:=l.g.g1
   exact⟨⟨by lia,by push_cast;lia⟩,by rw[show(2*(m:Int)+1).toNat=2*m+1 by lia,O.2];unfold BC;rw[nS (by lia),nX rfl]⟩
def Cv.of(l:Cv m gs rs ts)(h:ts[p]?=some t):∃k,k<=gs.length/\p=BC gs.length k/\t=Ba m gs k++Br m gs k:=by
 have O:=(nq.mp h).1;rw[l.len]at O;obtain⟨k,F,e⟩:=OT l.g.g1 O;exists k,F,e.symm
 have:=l.tr k F
 rw[e,h]at this;exact oy this
def Cv.C4(l:Cv m gs rs ts):∀(p:Nat) (t:List Int),ts[p]?=some t->∀x:Int,x∈t->(hm rs)[x.toNat]?=some p:=λp t h x O=>by
 obtain⟨k,F,rfl,rfl⟩:=l.of h;exact(l.RC F O).2
def Cv.Ul(l:Cv m gs rs ts)(J:Int->Int->Prop)(hA:∀a:Int,[a,a+1]∈gs->J (2*a+1) (2*(a+1)+1))(hB:∀a:Int,[a,a+1]∈gs->J (2*(a+1)) (2*a))(hk:k<=gs.length):∃fA lA O F,Hf J (Ba m gs k) fA lA/\Hf J (Br m gs k) O F:=by
 have A:∃fA lA,Hf J (Ba m gs k) fA lA:=by
  cases k with
  |zero=>rw[HQ];exact⟨_,_,.Ae _⟩
  |succ k=>obtain⟨a,b,_,_,h,_⟩:=l.g.Ki J hA (show k<gs.length by lia);exact⟨_,_,h⟩
 have B:∃O F,Hf J (Br m gs k) O F:=by
  rcases oM k gs.length with z|z
  ·obtain⟨a,b,_,_,_,h,_⟩:=l.g.Ki J hA z;exact⟨_,_,h J hB⟩
  ·obtain rfl:k=gs.length:=by lia
   rw[JI];exact⟨_,_,.Ae _⟩
 obtain⟨fA,lA,a⟩:=A;obtain⟨O,F,b⟩:=B;exact⟨fA,lA,O,F,a,b⟩
def Cv.Dv(l:Cv m gs rs ts):CS (2*m+2) ts:=by
 have ho:=l.C4;refine⟨?_,λx=>⟨λF=>?_,λF=>?_⟩,by lia⟩
 ·refine wJ.mpr ⟨λt ht=>?_,rz.mpr λi j hi hj ac x F y hy e=>?_⟩
  ·obtain⟨i,hi,e⟩:=oG ht;obtain⟨k,O,_,rfl⟩:=l.of (show ts[i]?=some t by rw[nj hi,e]);have ev:∀x∈Ba m gs k,x=2*(m:Int)\/x % 2=1:=λx F=>by
    cases k with
    |zero=>rw[HQ,oz]at F;exact .inl F
    |succ k =>
     rw[GS (nj (show k<gs.length by lia))]at F;obtain⟨r,_,rfl⟩:=n8.mp F;exact .inr (by lia)
   have od:∀x∈Br m gs k,(x%2=0/\x<2*m)\/(x=2*(m:Int)+1/\k=gs.length):=λx F=>by
    rcases oM k gs.length with z|z
    ·have e:=nj z;rw[Fi e]at F;obtain⟨r,hr,rfl⟩:=n8.mp F
     have:=l.g.in e hr
     exact .inl ⟨by lia,by lia⟩
    ·obtain rfl:k=gs.length:=by lia
     rw[JI,oz]at F;exact .inr ⟨F,J⟩
   obtain⟨fA,lA,fB,lB,a,b⟩:=l.Ul (λy z=>y≠z) (λa _=>by lia) (λa _=>by lia) O;have na:(Ba m gs k).Nodup:=by
    generalize Ba m gs k=A at a;cases a with
    |Ae a=>simp
    |Bt z y h=>simp[qu h]
   have nb:(Br m gs k).Nodup:=by
    generalize Br m gs k=B at b;cases b with
    |Ae a=>simp
    |Bt z y h=>simp[qu h]
   show(Ba m gs k++Br m gs k).Nodup;rw[qB];refine⟨na,nb,λx F y hy e=>?_⟩;subst e;rcases ev x F with h1|h1<;>rcases od x hy with h2|h2
   ·lia
   ·lia
   ·lia
   ·obtain⟨h3,rfl⟩:=h2;have g1:=l.g.g1;obtain⟨k',ab⟩:∃k',gs.length=k' + 1:=⟨gs.length-1,by lia⟩;have e:=nj (show k' < gs.length by lia);rw[ab,GS e]at F;obtain⟨r,hr,e2⟩:=n8.mp F
    have:=l.g.in e (yO.mp hr)
    lia
  ·have h1:=ho i _ (nj hi) x F;have h2:=ho j _ (nj hj) y hy;rw[e,h2]at h1
   have:=oy h1
   lia
 ·obtain⟨t,ht,F⟩:=oI.mp F;obtain⟨i,hi,e⟩:=oG ht;obtain⟨k,O,_,rfl⟩:=l.of (show ts[i]?=some t by rw[nj hi,e]);exact(l.RC O F).1
 ·have aa:∀k,k<=gs.length->x∈Ba m gs k++Br m gs k->x∈ts.flatten:=λk O h=>oI.mpr ⟨_,nz (l.tr k O),h⟩
  obtain⟨x0,x1⟩:=F;push_cast at x1;by_cases e0:x=2*m
  ·exact aa 0 (pD _) (by rw[HQ,e0];simp)
  ·by_cases e1:x=2*m+1
   ·exact aa gs.length (nQ _) (by rw[JI,e1];simp)
   ·obtain⟨k,g,O,hr⟩:=l.g.at (r:=x / 2) (by lia) (by lia);have hl:=(nq.mp O).1;by_cases ev:x%2=0
    ·exact aa k (by lia) (om.mpr (.inr (by rw[Fi O];exact n8.mpr ⟨_,hr,by lia⟩)))
    ·exact aa (k+1) (by lia) (om.mpr (.inl (by rw[GS O];exact n8.mpr ⟨_,yO.mpr hr,by lia⟩)))
end
end My
namespace My
open PySem L2 Mth Wd
variable {gs:List (List Int)}{x:List Int}
section
variable {m:Nat}{gs:List (List Int)}{rs:List AX}{ts:List (List Int)}
def Cv.pr(l:Cv m gs rs ts)(F:k<=gs.length)(O:q∈BD (Ba m gs k++Br m gs k)):Mth.pr ts q.1=q.2 :=
 Dw l.Dv.nd (oI.mpr ⟨_,n8.mpr ⟨_,nz (l.tr k F),J⟩,O⟩)
def Cv.JJ(l:Cv m gs rs ts):Lg ts m:=λS h1 h2 h0=>by
 have T:=l.Dv;have cl:∀k,k<=gs.length->∀q∈BD (Ba m gs k++Br m gs k),(S (AN q.1)↔S q.2):=λk O q hq=>by
  have hm:q.1∈Ba m gs k++Br m gs k:=by rw[<-Ju (Ba m gs k++Br m gs k)];exact n8.mpr ⟨q,hq,rfl⟩
  have:=h1 (AN q.1) (C0 T.HV (l.RC O hm).1)
  rw[Bv,Cz,l.pr O hq]at this;exact this
 have rp:∀a:Int,0<=a->a<m->(S (2*a)↔S (2*a+1)):=λa a0 a1=>by
  have:=h2 a.toNat (by lia)
  rwa [show((a.toNat:Nat):Int)=a by lia]at this
 have aa:∀k,k<=gs.length->∃fA F,Hf (λ_ _=>True) (Ba m gs k) fA F/\(k=0->F=2*(m:Int))/\(∀j,k=j+1->∃a b,fA=2*b+1/\F=2*a+1/\((gs[j]?=some [a]/\b=a)\/(gs[j]?=some [a,a+1]/\b=a+1))):=λk O=>by
  cases k with
  |zero=>rw[HQ];exact⟨_,_,.Ae _,λ_=>rfl,λj z=>by lia⟩
  |succ k =>
   obtain⟨a,b,_,_,h,_,c⟩:=l.g.Ki (λ_ _=>True) (λ_ _=>trivial) (show k<gs.length by lia);refine⟨_,_,h,λz=>by lia,λj z=>?_⟩;obtain rfl:k=j:=by lia
   exact⟨a,b,rfl,rfl,c⟩
 have step:∀k,k<gs.length->(∀fA F,Hf (λ_ _=>True) (Ba m gs k) fA F->S F)->∀x,gs[k]?=some x->∀r∈x,S (2*r)/\S (2*r+1):=λk O hS x hx r hr=>by
  obtain⟨a,b,_,_,_,hB,c⟩:=l.g.Ki (λ_ _=>True) (λ_ _=>trivial) O;obtain⟨fA,F,hA,_⟩:=aa k (by lia);obtain⟨c1,c2,c3⟩:=U2 (J:=λy z=>S (AN y)↔S z) hA (hB _ λ_ _=>trivial) (cl k (by lia));have sl:=hS _ _ hA;have s1:S (2*a+1):=by rw[Hi]at c2;exact c2.mpr sl
  rcases c with ⟨e,rfl⟩|⟨e,rfl⟩
  ·rw[e]at hx;cases hx;rw[oz.mp hr];have i:=l.g.in e (oz.mpr rfl);exact⟨(rp _ i.1 i.2).mpr s1,s1⟩
  ·rw[e]at hx;cases hx;have i:=l.g.in e (show a∈[a,a+1] by simp);have i2:=l.g.in e (show a+1∈[a,a+1] by simp);have s2:=(rp _ i.1 i.2).mpr s1;have c4:=c3 (2*a) (2*(a+1)) (by rw[Fi e];rfl);rw[Hi]at c4;have s3:=c4.mpr s2;simp only[oj,pB,qK]at hr;rcases hr with rfl|rfl
   ·exact⟨s2,s1⟩
   ·exact⟨(rp _ i2.1 i2.2).mpr s3,s3⟩
 have ab:∀{A:List Int} {f1 l1 f2 l2:Int},Hf (λ_ _=>True) A f1 l1->Hf (λ_ _=>True) A f2 l2->l1=l2:=λh h'=>by
  cases h<;>cases h'<;>rfl
 have all:∀k,k<=gs.length->(∀fA F,Hf (λ_ _=>True) (Ba m gs k) fA F->S F)/\∀j,j<k->∀x,gs[j]?=some x->∀r∈x,S (2*r)/\S (2*r+1):=by
  intro k
  induction k with
  |zero =>
   intro _;refine⟨λfA F h=>?_,λj hj=>by lia⟩;obtain⟨_,_,h',e,_⟩:=aa 0 (pD _);rw[ab h h',e rfl];exact h0
  |succ k ih =>
   intro O;obtain⟨i1,i2⟩:=ih (by lia);have st:=step k (by lia) i1;refine⟨λfA F h=>?_,λj hj x hx r hr=>?_⟩
   ·obtain⟨_,_,h',_,c⟩:=aa (k+1) O;obtain⟨a,b,_,e2,c⟩:=c k rfl;rw[ab h h',e2];rcases c with ⟨e,_⟩|⟨e,_⟩
    ·exact(st _ e a (by simp)).2
    ·exact(st _ e a (by simp)).2
   ·rcases oM j k with z|z
    ·exact i2 j z x hx r hr
    ·obtain rfl:j=k:=by lia
     exact st x hx r hr
 obtain⟨_,al⟩:=all gs.length (nQ _);have g1:=l.g.g1;obtain⟨k',ac⟩:∃k',gs.length=k' + 1:=⟨gs.length-1,by lia⟩;have sO:S (2*(m:Int)+1):=by
  obtain⟨fA,F,hA,_,c⟩:=aa gs.length (nQ _);obtain⟨a,b,e1,_,c⟩:=c k' ac;have hB:Hf (λ_ _=>True) (Br m gs gs.length) (2*(m:Int)+1) (2*(m:Int)+1):=by rw[JI];exact .Ae _
  obtain⟨c1,_⟩:=U2 (J:=λy z=>S (AN y)↔S z) hA hB (cl gs.length (nQ _));rw[e1,JO]at c1;refine c1.mp ?_;rcases c with ⟨e,rfl⟩|⟨e,rfl⟩
  ·exact(al k' (by lia) _ e _ (by simp)).1
  ·exact(al k' (by lia) _ e _ (by simp)).1
 intro x hx;obtain⟨x0,x1⟩:=hx;push_cast at x1;by_cases e0:x=2*m
 ·rw[e0];exact h0
 ·by_cases e1:x=2*m+1
  ·rw[e1];exact sO
  ·obtain⟨k,g,O,hr⟩:=l.g.at (r:=x / 2) (by lia) (by lia);obtain⟨s1,s2⟩:=al k (nq.mp O).1 g O _ hr;by_cases ev:x%2=0
   ·rwa [show 2*(x / 2)=x by lia]at s1
   ·rwa [show 2*(x / 2)+1=x by lia]at s2
open Classical in
def Gm(gs:List (List Int))(f:Int->Rat)(r:Int):Rat:=if [r-1,r]∈gs then f (2*(r-1)) else 0
def B6(m:Nat)(gs:List (List Int))(f:Int->Rat)(x:Int):Rat:=if x=2*m then 0 else if x=2*m+1 then f (2*m+1) else if x%2=0 then Gm gs f (x / 2)+f x else Gm gs f (x / 2)
def C6.Bt(g:C6 m gs){k F:Nat}(h:gs[k]?=some x)(h':gs[F]?=some y)(O:r∈x)(hy:r∈y):x=y:=by
 have:=Vv g.nd h h' O hy
 subst this;rw[h]at h';exact oy h'
def PK(g:C6 m gs){k:Nat}(h:gs[k]?=some x)(O:a∈x)(hn:x≠[a-1,a]):Gm gs f a=0:=by
 unfold Gm;refine nS λz=>?_
 obtain⟨F,aa,e⟩:=oG z;exact hn (g.Bt h (show gs[F]?=some [a-1,a] by rw[nj aa,e]) O (by simp))
def KR(g:C6 m gs){k:Nat}(h:gs[k]?=some x)(F:a∈x):B6 m gs f (2*a)=Gm gs f a+f (2*a)/\B6 m gs f (2*a+1)=Gm gs f a:=by
 have i:=g.in h F;unfold B6;rw[nS (by lia),nS (by lia),nX (by lia),nS (by lia),nS (by lia),nS (by lia),show 2*a / 2=a by lia,show(2*a+1) / 2=a by lia];exact⟨J,J⟩
def Cv.RE(l:Cv m gs rs ts):Cj ts (2*m+2):=λf ad ac=>by
 have T:=l.Dv;have g:=l.g;have fo:∀a:Int,0<=a->a<=m->f (2*a+1)=- f (2*a):=λa a0 a1=>by
  have:=ad (2*a) ⟨by lia,by push_cast;lia⟩
  rwa [Hi]at this
 have sB:∀k,k<=gs.length->((Br m gs k).map f).sum=f (2*m+1):=by
  intro k
  induction k with
  |zero =>
   intro _
   have:=ac _ (nz (l.tr 0 (pD _)))
   rw[oh,sN,HQ]at this;simp only[n9,p9,oJ,qV]at this;rw[fo m (by lia) (by lia)]
   grind
  |succ k ih =>
   intro F;have ae:k<gs.length:=by lia
   have e:=nj ae
   have:=ac _ (nz (l.tr (k+1) F))
   rw[oh,sN]at this;have ih:=ih (by lia);rw[Fi e]at ih;have sA:((Ba m gs (k+1)).map f).sum=- (((gs[k]).map λr=>2*r).map f).sum:=by
    rw[GS e,pO,pO];have p:=J2 ((List.reverse_perm gs[k]).map (f ∘ λr=>2*r+1));rw[p]
    have:∀r∈gs[k],(f ∘ λr=>2*r+1) r=-1*f (2*r):=λr hr=>by
     have i:=g.in e hr;show f (2*r+1)=_;rw[fo r i.1 (by lia)];grind
    rw[qM this,Ip (f:=λr=>f (2*r))];show -1*((gs[k]).map λr=>f (2*r)).sum=- ((gs[k]).map λr=>f (2*r)).sum
    grind
   rw[sA]at this
   grind
 have O:B6 m gs f (2*m)=0:=nX rfl;have p1:B6 m gs f (2*m+1)=f (2*m+1):=by unfold B6;rw[nS (by lia),nX rfl]
 have aa:∀k,k<gs.length->∀a b:Int,((gs[k]?=some [a]/\b=a)\/(gs[k]?=some [a,a+1]/\b=a+1))->B6 m gs f (2*a+1)=0/\B6 m gs f (2*b)=f (2*m+1):=λk F a b c=>by
  have s:=sB k (by lia);rcases c with ⟨e,rfl⟩|⟨e,rfl⟩
  ·have z:=PK g (f:=f) e (oz.mpr rfl) (λq=>by simp at q);obtain⟨h1,h2⟩:=KR g (f:=f) e (oz.mpr rfl);rw[h1,h2,z];rw[Fi e]at s;simp only[n9,p9,oJ,qV]at s;exact⟨rfl,by grind⟩
  ·have z:=PK g (f:=f) (a:=a) e (by simp) (λq=>by simp at q; lia  );obtain⟨h1,h2⟩:=KR g (f:=f) (a:=a) e (by simp);obtain⟨h3,h4⟩:=KR g (f:=f) (a:=a+1) e (by simp);have y:Gm gs f (a+1)=f (2*a):=by
    unfold Gm;rw[show a+1-1=a by lia,nX (nz e)]
   rw[h2,h3,z,y];rw[Fi e]at s;simp only[n9,p9,oJ,qV]at s;exact⟨rfl,by grind⟩
 have ab:∀a:Int,[a,a+1]∈gs->B6 m gs f (2*a)=B6 m gs f (2*(a+1)+1):=λa h=>by
  obtain⟨k,F,e⟩:=oG h;have e:gs[k]?=some [a,a+1]:=by rw[nj F,e]
  have z:=PK g (f:=f) (a:=a) e (by simp) (λq=>by simp at q;lia);obtain⟨h1,h2⟩:=KR g (f:=f) (a:=a) e (by simp);obtain⟨h3,h4⟩:=KR g (f:=f) (a:=a+1) e (by simp);have y:Gm gs f (a+1)=f (2*a):=by
   unfold Gm;rw[show a+1-1=a by lia,nX h]
  rw[h1,h4,z,y];grind
 have jA:∀a:Int,[a,a+1]∈gs->B6 m gs f (2*(a+1)+1)=B6 m gs f (AN (2*a+1)):=λa h=>by rw[JO,ab a h]
 have jB:∀a:Int,[a,a+1]∈gs->B6 m gs f (2*a)=B6 m gs f (AN (2*(a+1))):=λa h=>by rw[Hi,ab a h]
 have row:∀k,k<=gs.length->∀q∈BD (Ba m gs k++Br m gs k),B6 m gs f q.2=B6 m gs f (AN q.1):=λk F=>by
  have A:∃fA lA,Hf (λy z=>B6 m gs f z=B6 m gs f (AN y)) (Ba m gs k) fA lA/\B6 m gs f lA=0/\B6 m gs f (AN fA)=f (2*m+1):=by
   cases k with
   |zero=>rw[HQ];exact⟨_,_,.Ae _,O,by rw[Hi];exact p1⟩
   |succ k =>
    obtain⟨a,b,_,_,h,_,c⟩:=g.Ki (λy z=>B6 m gs f z=B6 m gs f (AN y)) jA (show k<gs.length by lia);obtain⟨q1,q2⟩:=aa k (by lia) a b c;exact⟨_,_,h,q1,by rw[JO];exact q2⟩
  have B:∃fB lB,Hf (λy z=>B6 m gs f z=B6 m gs f (AN y)) (Br m gs k) fB lB/\B6 m gs f (AN fB)=0/\B6 m gs f lB=f (2*m+1):=by
   rcases oM k gs.length with z|z
   ·obtain⟨a,b,_,_,_,h,c⟩:=g.Ki (λy z=>B6 m gs f z=B6 m gs f (AN y)) jA z;obtain⟨q1,q2⟩:=aa k z a b c;exact⟨_,_,h _ jB,by rw[Hi];exact q1,q2⟩
   ·obtain rfl:k=gs.length:=by lia
    rw[JI];exact⟨_,_,.Ae _,by rw[JO];exact O,p1⟩
  obtain⟨fA,lA,hA,a1,a2⟩:=A;obtain⟨fB,lB,hB,b1,b2⟩:=B;exact fV (J:=λy z=>B6 m gs f z=B6 m gs f (AN y)) hA hB (b2.trans a2.symm) (a1.trans b1.symm)
 refine⟨B6 m gs f,λx hx=>?_,λx hx=>?_⟩
 ·have hy:=(T.mem (AN x)).mpr (C0 T.HV hx);obtain⟨t,ht,hm⟩:=oI.mp hy;obtain⟨i,hi,e⟩:=oG ht;obtain⟨k,F,_,rfl⟩:=l.of (show ts[i]?=some t by rw[nj hi,e]);rw[<-Ju (Ba m gs k++Br m gs k)]at hm;obtain⟨q,hq,e2⟩:=n8.mp hm
  have:=row k F q hq
  rw[Bv,<-e2,l.pr F hq,this,e2,Cz]
 ·obtain⟨x0,x1⟩:=hx;push_cast at x1;by_cases e0:x=2*m
  ·rw[e0,Hi,O,p1,fo m (by lia) (by lia)];grind
  ·by_cases e1:x=2*m+1
   ·rw[e1,JO,O,p1];grind
   ·obtain⟨k,y,F,hr⟩:=g.at (r:=x / 2) (by lia) (by lia);obtain⟨h1,h2⟩:=KR g (f:=f) F hr;by_cases ev:x%2=0
    ·rw[show x=2*(x / 2) by lia,Hi,h1,h2];grind
    ·have:=fo (x / 2) (by lia) (by lia)
     rw[show x=2*(x / 2)+1 by lia,JO,h1,h2,this];grind
def Cv.mU(l:Cv m gs rs ts):L0 (gs.length+1) rs ts:=by
 have g:=l.g;have g1:=g.g1;have O:=l.rl;have ab:=g.le;have aa:=g.Ig;have hL:=l.JJ;have hP:=l.RE;refine⟨⟨by rw[O];exact g.m1,by rw[O];exact aa,by lia,by lia,l.len,by rw[O];exact l.Dv,λt ht=>?_,λr hr=>?_,l.C4,λS h0 hS p hp=>?_⟩,by rw[O];exact hL,by rw[O];exact hP⟩
 ·obtain⟨i,hi,e⟩:=oG ht;obtain⟨k,F,_,rfl⟩:=l.of (show ts[i]?=some t by rw[nj hi,e]);obtain⟨fA,lA,fB,lB,a,b⟩:=l.Ul (λ_ _=>True) (λ_ _=>trivial) (λ_ _=>trivial) F;generalize Ba m gs k=A at a;cases a<;>simp
 ·rw[l.rp]at hr;obtain⟨q,hq,rfl⟩:=n8.mp hr;have i:=g.mem.mp (show q.1∈gs.flatten by rw[<-GG 0 gs];exact n8.mpr ⟨q,hq,J⟩);obtain⟨k,x,F,hr⟩:=g.at i.1 i.2;have h1:=Mn gs 0 k x q.1 F hr;rw[uF]at h1;have e:=MW (f:=λp:Int×Int=>p.1) (show((Ca 0 gs).map λp:Int×Int=>p.1).Nodup by rw[GG];exact g.nd) hq h1 rfl;have hl:=(nq.mp F).1;rw[e];show GV 1/\BC gs.length ((k:Int)).toNat<_/\BC gs.length (((k:Int)).toNat+1)<_;rw[pG];exact⟨⟨by decide,by decide,by decide⟩,Mu g1 (by lia),Mu g1 (by lia)⟩
 ·have all:∀k,k<=gs.length->S (BC gs.length k):=by
   intro k
   induction k with
   |zero=>intro _;unfold BC;rw[nX rfl];exact h0
   |succ k ih =>
    intro F;obtain⟨a,e⟩:=g.W7 (show k<gs.length by lia);have hx:∃x,gs[k]?=some x/\a∈x:=by
     rcases e with e|e
     ·exact⟨_,e,by simp⟩
     ·exact⟨_,e,by simp⟩
    obtain⟨x,e,ha⟩:=hx;exact(hS _ (nz (l.Qf e ha))).mp (ih (by lia))
  obtain⟨k,F,e⟩:=OT g1 hp;rw[<-e];exact all k F
def eG(h:H a=some (.AE xs)):Kt (N8 K a xs.length) H xs.length (λi H2 x F=>F=H2/\xs.reverse[i]?=some x) :=
 ⟨λi H2 hi s=>⟨xs,xs.reverse[i]'(by rw[uJ];exact hi),AI.of (s _ _ h),J,nj _⟩,λi H2 x F _ s y=>⟨y.1,y.2 _ (AI.of (s _ _ h))⟩,λH2 s=>nQ _⟩
def aO(h:At Bo H bs gs)(n:a∉bs):At Bo (AF H a o) bs gs:=⟨h.1,λi b x F O=>by
 have:=h.2 i b x F O
 unfold Bo at this ⊢;rw[Ad (show b≠a from λz=>n (z ▸ nz F))];exact this⟩
structure L7(H:Hp)(Gp:Addr)(bs:List Addr)(gs:List (List Int))(many:Nat):Prop where
 h:H Gp=some (.AE (bs.map V.ref))
 OC:At Bo H bs gs
 XG:Gp∉bs
 fl:gs.flatten=(og many).map λr:Nat=>(r:Int)
 sz:∀g∈gs,∃a:Int,g=[a]\/g=[a,a+1]
def L7.le(g:L7 H Gp bs gs many):gs.length<=many:=by
 have O:∀l:List (List Int),(∀x∈l,∃a:Int,x=[a]\/x=[a,a+1])->l.length<=l.flatten.length:=by
  intro l
  induction l with
  |nil=>intro _;simp
  |cons x l ih =>
   intro h
   have:=ih λy F=>h y (oY _ F)
   rw[oQ,oa,oP];obtain⟨a,e|e⟩:=h x (qh ..)<;>rw[e]<;>simp only[oP,rD]<;>lia
 have:=O gs g.sz
 rwa [g.fl,nh,oR]at this
def Sa(O:k<=G)(F:j<=G)(e:BC G k=BC G j):k=j:=by
 unfold BC at e;split at e<;>split at e<;>(try split at e)<;>(try split at e)<;>lia
def JM(G:Nat):List V:=(og (G+1)).map λk:Nat=>V.int ((BC G k:Nat):Int)
def Mw(h:k<=G):(JM G)[k]?=some (.int ((BC G k:Nat):Int)):=by
 unfold JM;rw[nV,qk (by lia)];rfl
def Hw(G:Nat):(JM G).length=G+1:=by unfold JM;rw[nh,oR]
def cK(O:1<=G):([V.int 0]++((og (G-1)).map λi:Nat=>V.int (2+(i:Int))))++[V.int 1]=JM G:=by
 refine yq λk=>?_
 have F:([V.int 0]++((og (G-1)).map λi:Nat=>V.int (2+(i:Int)))).length=G:=by simp;lia
 rcases vc k G with h|h|h
 ·rw[Mw (by lia),oH (by rw[F];exact h)];unfold BC;cases k with
  |zero=>rfl
  |succ k =>
   rw[nS (by lia),nS (by lia),oo (by simp)];simp only[qF,aaz];rw[nV,qk (by lia)];show some (V.int (2+(k:Int)))=some (V.int ((k+1+1:Nat):Int));congr 2;lia
 ·subst h;rw[Mw (nQ _),oo (by rw[F];exact nQ _),F,tP];unfold BC;rw[nS (by lia),nX rfl];rfl
 ·rw[pZ (by rw[oa,F];simp;lia),pZ (by rw[Hw];lia)]
def Fw(gs:List (List Int))(k:Nat):List AX:=(Ca 0 (gs.take k)).map λq=>(BC gs.length q.2.toNat,BC gs.length (q.2.toNat+1),1)
def aZ(h:gs[k]?=some x):Fw gs (k+1)=Fw gs k++x.map λ_=>(BC gs.length k,BC gs.length (k+1),1):=by
 have F:=(nq.mp h).1;unfold Fw;rw[EF h,OV,oh,pO,pS,abD (by lia),uF];congr 1
def Ze(h:Bw H b r)(e:H a=some (.AE ys)):Bw (B7 H a) b r:=by
 obtain⟨c,h1,h2⟩:=h;exact⟨c,Gz h1 (λz=>by rw[z,e]at h1;cases h1),AR.B7 h2 e⟩
def fX{i:Nat}(h:(x.map V.int).reverse[i]?=some v):∃r,v=.int r/\x.reverse[i]?=some r:=by
 rw[<-List.map_reverse]at h;exact int_at h
variable {P:o6}{w:World}{K:nT}{mg:Str->Option Value}{base:Heap}{f g h f1 f2 f3 f4:Addr}{fd gd hd d1 d2 d3 d4:qy}
inductive UX(vs:List V)(H:Hp)(Q:VK)(_:XK):Prop
 |mk (c:Int) (aa:vs=[.int c]) (O:∀p F ta n rs us H',AO H H'->H' p=some (.AG [.int ((n:Nat):Int),.ref F,.ref ta])->BB Bw H' F rs->BB CZ H' ta us->L0 n rs us->Q (.ref p) H')
def D9:Ar ["_law_cell","_law_c","_law_most","_law_groups","_law_many","_law_wide","_law_order_here","_law_ropes","_law_rows","_law_k","_law_place","_law_row_here"] ["_law_cell"] (Ah s_law_long):=Ay
def Vd:(["_law_rope"]:List Str).Nodup:=by decide +kernel
def jw:(["_law_rope","_law_place","_law_order_here","_law_k"]:List Str).Nodup:=by decide +kernel
set_option maxHeartbeats 4000000 in
seal L2.Cy L2.PS L2.PE L2.PA in
def eU(F0:Ak K "_law_long" "_law_long" s_law_long f fd)(ml:mg "len" = none)(mr:mg "range" = none)(bl:mg "list" = none)(mn:mg "min" = none)(mi:mg "int" = none)(mv:mg "reversed" = none)(me:mg "enumerate" = none)(mt:mg "tuple" = none):
  Ag P w K mg base Ap 1 f fd ["_law_cell"] UX:=by
 refine F0.A1 D9 λim A _ s H vs Q E hr h=>?_
 obtain⟨c0,rfl,q⟩:=h;exists _,AL (AW 1 D9 (AM B9 (pv 0) (AM VG AB AB)))
  (AL (AW 2 D9 (AM BK AB (AM B9 (pv 1) AB)))
  (AL (AW 3 D9 (CG AD))
  (AL (AW 4 D9 AB)
  (AL (Hy oE (BP Fh (pv 4) (pv 2))
   (AL (AW 5 D9 (Bu (MQ rfl) (by rfl) mn NI (AA (AM C7 (pv 2) (pv 4)) (AA (AM BK AB (EG ZG (by rfl) mi Up (AA (Dc DX (AM B9 (AM Eh (pv 1) (AM BK AB (B4 ml (pv 3)))) AB) AB) AD))) AD))))
   (AL (DH (CL oF pJ pK D1 (pv 3) (AA (RL rfl (by rfl) bl (by rfl) mr (AA (pv 4) (AA (AM BK (pv 4) (pv 5)) AD))) AD)))
   (AS (AW 4 D9 (AM BK (pv 4) (pv 5)))))))
  (AL (AW 6 D9 (AM HK (AM HK (CG (AA AB AD)) (RL rfl (by rfl) bl (by rfl) mr (AA AB (AA (AM BK (B4 ml (pv 3)) AB) AD)))) (CG (AA AB AD))))
  (AL (AW 7 D9 (CG AD))
  (AL (AW 8 D9 (AM NL (CG (AA (BS AD) AD)) (B4 ml (pv 6))))
  (AL (Bg oE rfl (Hv (by rfl) me (AA (pv 6) AD)) (Cp (n:=2) rfl (BH (Az 9 D9) (BH (Az 10 D9) Cn)))
   (AL (AW 11 D9 (CG (AA (AM CW AB (pv 2)) AD)))
   (AL (BL (BP HR (pv 9) AB) (AS (Im (i:=11) D9.nd rfl (qr rfl) (Nc:=["_law_rope"]) (cap:=[]) (g:=BU 0) (te:=_) rfl (gh (by rfl) mv (pL (pv 3) (AM C7 (pv 9) AB)))
    CU (λ_ _ _ _ _=>B8 (i:=0) Vd rfl (qr rfl)) (λ_ _ _ _ _=>AM BK (AM CW AB (pv 0)) AB))) BR)
   (AL (BL (BP Fh (pv 9) (B4 ml (pv 3)))
    (AL (DH (CL oF yS yT R9 (pv 7) (AA (DR (Nc:=["_law_rope","_law_place","_law_order_here","_law_k"]) (cap:=[(1,10),(2,6),(3,9)]) (g:=BU 0) (te:=_) rfl (EN (pL (pv 3) (pv 9)))
     CU
     (λ_ _ _ _ _=>B8 (i:=0) jw rfl (qr rfl)) (λ_ _ _ _ _=>BS (AA (pv 1) (AA (pL (pv 2) (AM BK (pv 3) AB)) (AA (BS (AA AB (AA AB AD))) AD))))) AD)))
    (AS (AW 11 D9 (AM HK (pv 11) (DR (Nc:=["_law_rope"]) (cap:=[]) (g:=BU 0) (te:=_) rfl (EN (pL (pv 3) (pv 9)))
     CU (λ_ _ _ _ _=>B8 (i:=0) Vd rfl (qr rfl)) (λ_ _ _ _ _=>AM CW AB (pv 0)))))))
    (AS (DH (CL oF pJ pK D1 (pv 11) (AA (AM BK (AM CW AB (pv 2)) AB) AD)))))
   (AS (Dg (Ja mt (pv 11)) (Fc (pv 8) (pv 10) FX))))))
  )
  (AS (Ai (BS (AA (B4 ml (pv 6)) (AA (Ja mt (pv 7)) (AA (Ja mt (pv 8)) AD))))))))))))))
  
 have cm:(0:Int)<10 ^ ((20:Int).toNat):=by decide
 refine⟨_,J,_,_,J,J,⟨by decide,by decide,by decide⟩,_,_,J,J,cm,?_⟩;generalize c0%10 ^ ((20:Int).toNat)=c;obtain⟨m,hm,cu,b7⟩:∃m:Nat,13+c%2=(m:Int)/\13<=m/\m<=14:=⟨(13+c%2).toNat,by lia,by lia,by lia⟩;refine⟨_,J,_,_,J,J,(show(0:Int)<2 by decide),_,_,J,J,?_⟩;rw[hm];refine⟨by exact Gh,λGp b0=>?_⟩;have s1:=AY b0 (.AE []);have e1:L7 (AF H Gp (.AE [])) Gp [] [] 0:=⟨AU,At.nil,by simp,J,by simp⟩;generalize AF H Gp (.AE [])=H1 at s1 e1;refine Mr (t:=Py _ _) (G:=λσ H2=>∃bs gs u4 u5,σ=[some (.int c0),some (.int c),some (.int (m:Int)),some (.ref Gp),u4,u5,none,none,none,none,none,none]/\AO H H2/\L7 H2 Gp bs gs m) (λU hU=>?_) ?_
 ·refine Hu (λσ H2=>∃aa bs gs u5,σ=[some (.int c0),some (.int c),some (.int (m:Int)),some (.ref Gp),some (.int ((aa:Nat):Int)),u5,none,none,none,none,none,none]/\AO H H2/\L7 H2 Gp bs gs aa/\aa<=m)
   (λσ _=>match σ with | [_,_,_,_,some (.int y),_,_,_,_,_,_,_]=>m-y.toNat|_=>0) ⟨0,[],[],none,J,s1,e1,pD _⟩ ?_ ?_
  ·rintro σ H2 ⟨aa,bs,gs,u5,rfl,s2,g2,mm⟩;exists _,J,_,J,_,_,J,J,_,rfl;by_cases af:(aa:Int)<(m:Int)
   ·refine C3 af ?_;have gl:=g2.le;have lb:bs.length=gs.length:=g2.OC.1;exists _,J,_,J,_,_,J,J,_,J,_,J,Gp,_,J,.inl (AI.of g2.h),_,_,J,rfl;rw[nh,lb];refine⟨_,_,J,J,⟨by lia  ,by lia  ⟩,_,_,J,J,(show(0:Int)<6 by decide),J,.inr ⟨_,J,_,_,J,J,_,_,J,?_⟩⟩;generalize (decide (V.int (c / (3+(gs.length:Int)) % 6)=V.int 1))=bb;obtain⟨wd,hw,b8,ce⟩:∃wd:Nat,(if (1:Int)+(if bb=true then 1 else 0)<(m:Int)-(aa:Int) then (1:Int)+(if bb=true then 1 else 0) else (m:Int)-(aa:Int))=(wd:Int)/\(wd=1\/wd=2)/\aa+wd<=m:=by
     cases bb
     ·refine⟨1,?_,.inl rfl,by lia⟩;rw[nS (show ¬false=true by decide)];split<;>lia
     ·rw[nX (show true=true from rfl)];by_cases z:(1:Int)+1<(m:Int)-(aa:Int)
      ·exact⟨2,by rw[nX z];rfl,.inr rfl,by lia⟩
      ·rw[nS z];exact⟨m-aa,by lia,by lia,by lia⟩
    rw[hw];refine⟨_,J,.inl ⟨J,_,AI.of g2.h⟩,_,J,_,J,_,J,_,_,J,J,(aa:Int),wd,J,by lia,by lia,by lia,λaj bg=>?_⟩;have s3:=AY bg (.AE ((og wd).map λk:Nat=>V.int ((aa:Int)+(k:Int))));have eg:((og wd).map λk:Nat=>V.int ((aa:Int)+(k:Int)))=(((og wd).map λk:Nat=>(aa:Int)+(k:Int))).map V.int:=by rw[pO];rfl
    rw[eg]at s3 ⊢;generalize hg:((og wd).map λk:Nat=>(aa:Int)+(k:Int))=gr at *;have i3:Bo (AF H2 aj (.AE (gr.map V.int))) aj gr:=AU;have bu:=s3 _ _ g2.h;have a3:=g2.OC.keep Dr s3;have nG:Gp≠aj:=BW g2.h bg;generalize AF H2 aj (.AE (gr.map V.int))=H3 at s3 i3 bu a3;refine⟨Gp,_,_,J,J,bu,by rw[nh];exact DD (by lia),?_⟩;exists _,J,_,J,_,_,J,J,⟨aa+wd,bs++[aj],gs++[gr],_,J,(s2.trans s3).up b0 _,⟨?_,?_,?_,?_,?_⟩,ce⟩
    ·rw[AU];simp
    ·exact aO (a3.snoc i3) (by simp[g2.XG,nG])
    ·simp[g2.XG,nG]
    ·rw[pW,g2.fl,<-hg,List.range_add,oh,pO];simp
    ·intro x hx;rcases om.mp hx with z|z
     ·exact g2.sz x z
     ·rw[oz.mp z,<-hg];rcases b8 with rfl|rfl
      ·exact⟨(aa:Int),.inl (by simp)⟩
      ·exact⟨(aa:Int),.inr (by simp[rV])⟩
    ·show m-((aa:Int)+(wd:Int)).toNat<m-((aa:Int)).toNat
     lia
   ·refine CH af (hU _ _ ?_);obtain rfl:aa=m:=by lia
    exact⟨bs,gs,_,u5,J,s2,g2⟩
  ·rintro σ H2 Q1 Q2 hq ⟨v,e,v',e',i,j,e1,e2,b,eb,z⟩;exact⟨v,e,v',e',i,j,e1,e2,b,eb,hq _ _ z⟩
 rintro σ H2 ⟨bs,gs,u4,u5,rfl,s2,g2⟩;have g:C6 m gs:=⟨g2.fl,g2.sz,by lia,b7⟩;have g1:=g.g1;have cr:=g.le;have lb:bs.length=gs.length:=g2.OC.1;refine⟨by exact ED,λl0 h0=>?_⟩;refine BF h0 (.AE [.int 0]) λH3 s3 e3=>?_
 refine⟨_,J,Gp,_,J,.inl (AI.of (s3 _ _ g2.h)),_,_,J,J,2,gs.length-1,by rw[nh,lb,show(2:Int)+((gs.length-1:Nat):Int)=(gs.length:Int)+1 by lia],by lia,by lia,by lia,λl1 h1=>?_⟩;refine BF h1 (.AE ((og (gs.length-1)).map λi:Nat=>V.int (2+(i:Int)))) λH4 s4 e4=>?_
 refine⟨l0,l1,_,_,J,J,s4 _ _ e3,e4,by rw[nh,oR];exact Dk (by simp;lia),λl2 h2=>?_⟩;obtain⟨H5,zg,s5,e5⟩:=nw h2 (.AE ([.int 0]++((og (gs.length-1)).map λi:Nat=>V.int (2+(i:Int)))));rw[zg];refine⟨by exact ED,λl3 h3=>?_⟩;refine BF h3 (.AE [.int 1]) λH6 s6 e6=>?_
 refine⟨l2,l3,_,_,J,J,s6 _ _ e5,e6,by rw[oa,nh,oR];exact Dk (by simp;lia),λOr cg=>?_⟩;rw[cK g1];refine BF cg (.AE (JM gs.length)) λH7 s7 e7=>?_
 have am:=(s3.trans (s4.trans (s5.trans (s6.trans s7))));have b5:=s2.trans am;have ae:=am _ _ g2.h;have a7:=g2.OC.keep Dr am;clear s3 s4 s5 s6 s7 e3 e4 e5 e6 h0 h1 h2 h3 am;refine⟨by exact Gh,λO bp=>?_⟩;refine BF bp (.AE []) λH8 s8 zz=>?_
 have e8:H8 O=some (.AE (([]:List Addr).map V.ref)):=zz;refine⟨by exact Gh,λet bx=>⟨by exact ED,λel bf=>?_⟩⟩;have s9:=(AY bx (.AG [])).trans (AY bf (.AE [.ref et]));have e9:(AF (AF H8 et (.AG [])) el (.AE [.ref et])) el=some (.AE [.ref et]):=AU;generalize AF (AF H8 et (.AG [])) el (.AE [.ref et])=H9 at s9 e9;have ak:=s8.trans s9;refine⟨_,J,Or,_,J,.inl (AI.of (ak _ _ e7)),el,_,_,J,J,e9,by rw[Hw];lia,by rw[Hw];lia,by rw[Hw];exact Dk (by simp;lia),λRw ap=>?_⟩;rw[Hw,show(((gs.length+1:Nat):Int)).toNat=gs.length+1 by lia];have sA:=AY ap (.AE ((nY (gs.length+1) [V.ref et]).flatten));have eA:(AF H9 Rw (.AE ((nY (gs.length+1) [V.ref et]).flatten))) Rw=some (.AE ((nY (gs.length+1) [V.ref et]).flatten)):=AU;have lA:((nY (gs.length+1) [V.ref et]).flatten).length=gs.length+1:=by rw[Tf];simp
 have bn:=sA _ _ (s9 _ _ e8);have bq:O≠Rw:=BW (s9 _ _ e8) ap;generalize (nY (gs.length+1) [V.ref et]).flatten=bj at *;generalize AF H9 Rw (.AE bj)=HA at sA eA bn;have bd:=ak.trans sA;have b4:H7 Rw=none:=ak.free ap;clear s8 s9 ak e8 e9 bf bx ap;exists _,J,Or,_,J,bd _ _ e7;have fR:=bp;refine Iq (xs:=JM gs.length) (λk σ H3=>∃u9 a5 ay ds rv,σ=[some (.int c0),some (.int c),some (.int (m:Int)),some (.ref Gp),u4,u5,some (.ref Or),some (.ref O),some (.ref Rw),u9,a5,ay]/\AO H7 H3/\H3 O=some (.AE (ds.map V.ref))/\At Bw H3 ds (Fw gs k)/\H3 Rw=some (.AE rv)/\rv.length=gs.length+1 /\
   ∀j,j<k->j<=gs.length->∃b,rv[BC gs.length j]?=some (.ref b)/\CZ H3 b (Ba m gs j++Br m gs j))
  ⟨none,none,none,[],bj,J,bd,bn,At.nil,eA,lA,λj hj=>absurd hj (zm _)⟩ (λk σ H3 _ ⟨_,_,_,_,_,_,s3,_⟩=>s3 _ _ e7) ?_ ?_
 ·rintro k x σ H3 tp hx ⟨u9,a5,ay,ds,rv,rfl,s3,eR,hD,eW,lw,ah⟩ b9;have kl:k<=gs.length:=by
   have:=(nq.mp hx).1
   rw[Hw]at this
   lia
  rw[Mw kl]at hx;cases hx;refine BF b9 (.AG [.int (k:Int),.int ((BC gs.length k:Nat):Int)]) λH4 s4 e4=>?_
  have ab:=s3.trans s4;have ao:=s4 _ _ eR;have bz:=hD.keep Df s4;have cb:=s4 _ _ eW;have ci:∀j,j<k->j<=gs.length->∃b,rv[BC gs.length j]?=some (.ref b)/\CZ H4 b (Ba m gs j++Br m gs j):=λj hj aw=>by
   obtain⟨b,b1,b2⟩:=ah j hj aw;exact⟨b,b1,s4 _ _ b2⟩
  clear ah eR hD eW s4 s3;exists tp,_,J,AH.of e4,J,_,_,J,_,_,J,rfl;refine⟨_,J,_,_,J,J,.inl ⟨by decide,by decide⟩,by exact ED,λl1 h1=>?_⟩;refine BF h1 (.AE [.int (2*(m:Int))]) λH5 s5 e5=>?_
  refine Ts ?_;refine Va ?_;refine Mr (t:=Nq _ _ _) (G:=λσ H6=>∃l,σ=[some (.int c0),some (.int c),some (.int (m:Int)),some (.ref Gp),u4,u5,some (.ref Or),some (.ref O),some (.ref Rw),some (.int (k:Int)),some (.int ((BC gs.length k:Nat):Int)),some (.ref l)]/\AO H4 H6/\H4 l=none/\H6 l=some (.AE ((Ba m gs k).map V.int))) (λU hU=>?_) ?_
  ·exists _,J,_,_,J,J,_,rfl;cases k with
   |zero =>
    refine CH (by lia) (hU _ _ ⟨l1,J,s5,h1,?_⟩);rw[HQ];exact e5
   |succ k =>
    refine C3 (by lia) ?_;have a0:k<gs.length:=by lia
    have ek:=nj a0;obtain⟨bk,av,ad⟩:=a7.get ek;have bh:=s5 _ _ (ab _ _ ad);have xl:gs[k].length<=2:=by obtain⟨a,e|e⟩:=g.sz _ (nz ek)<;>rw[e]<;>simp
    refine⟨_,J,_,J,_,_,J,J,Gp,_,_,_,J,J,AI.of (s5 _ _ (ab _ _ ae)),by rw[show((k+1:Nat):Int)-1=((k:Nat):Int) by lia];exact BQ (C9 av),bk,_,J,AI.of bh,λag al=>?_⟩;refine Cm (eG bh) (by rw[nh];lia) al (λi ys σ _=>ys=((gs[k].reverse.take i).map λr=>2*r+1).map V.int/\∃u,σ=[u]) ⟨J,none,J⟩ ?_ ?_
    ·rintro i ys σ H6 v b3 hi sm a6 ⟨ac,u,rfl⟩ ⟨rfl,hv⟩ C ai;obtain⟨r,rfl,hr⟩:=fX hv;refine⟨_,J,_,_,J,J,.inl ⟨by decide,by decide⟩,_,_,J,J,ai _ _ _ (AO.refl _) ⟨?_,_,J⟩⟩;rw[ac,EF hr,oh,oh];rfl
    ·rintro ys σ H6 s6 g6 _ ⟨ac,_⟩;rw[nh,oB (by rw[uJ];exact nQ _),<-GS (m:=m) ek]at ac;exact hU _ _ ⟨ag,J,s5.trans s6,s5.free al,by rw[g6,ac]⟩
  rintro σ H6 ⟨l,rfl,s6,fl,el⟩;clear s5 e5 h1;have a8:=s6 _ _ ao;have be:=bz.keep Df s6;have lR:l≠O:=λz=>by rw[z,ao]at fl;cases fl
  refine Mr (t:=Nq _ _ _) (G:=λσ H8=>∃l ds,σ=[some (.int c0),some (.int c),some (.int (m:Int)),some (.ref Gp),u4,u5,some (.ref Or),some (.ref O),some (.ref Rw),some (.int (k:Int)),some (.int ((BC gs.length k:Nat):Int)),some (.ref l)]/\Bn O H4 H8/\H8 O=some (.AE (ds.map V.ref))/\At Bw H8 ds (Fw gs (k+1))/\H8 l=some (.AE ((Ba m gs k++Br m gs k).map V.int))) (λU hU=>?_) ?_
  ·exists _,J,_,J,Gp,_,J,.inl (AI.of (s6 _ _ (ab _ _ ae))),_,_,J,J,_,rfl;rw[nh,lb];by_cases af:(k:Int)<(gs.length:Int)
   ·refine C3 af ?_;have a0:k<gs.length:=by lia
    have ek:=nj a0;obtain⟨bk,av,ad⟩:=a7.get ek;have bo:=s6 _ _ (ab _ _ ad);have xl:gs[k].length<=2:=by obtain⟨a,e|e⟩:=g.sz _ (nz ek)<;>rw[e]<;>simp
    generalize cx:gs[k]=x at *;refine⟨_,J,.inl ⟨J,_,AI.of a8⟩,_,J,_,J,Gp,_,_,_,J,J,AI.of (s6 _ _ (ab _ _ ae)),BQ (C9 av),bk,J,⟨_,AI.of bo⟩,λag al=>?_⟩;refine Cm (FW bo) (by rw[nh];lia) al (λi ys σ Hq=>∃es:List Addr,ys=es.map V.ref/\At Bw Hq es ((x.map λ_=>(BC gs.length k,BC gs.length (k+1),(1:Rat))).take i)/\∃u,σ=[u,some (.int ((BC gs.length k:Nat):Int)),some (.ref Or),some (.int (k:Int))]) ⟨[],J,At.nil,none,J⟩ ?_ ?_
    ·rintro i ys σ b3 v H8 hi sm a6 ⟨es,rfl,hE,u,rfl⟩ ⟨rfl,hv⟩ C ai;obtain⟨r,rfl,hr⟩:=int_at hv;refine⟨_,J,_,J,_,J,_,_,J,J,Or,_,_,_,J,J,AI.of (sm _ _ (s6 _ _ (ab _ _ e7))),by rw[show(k:Int)+1=((k+1:Nat):Int) by lia];exact BQ (Mw (by lia)),by exact Bk,λe he=>⟨by exact GA,λt ht=>?_⟩⟩;obtain⟨H9,zg,s9,zz⟩:=nw he (.AG [.int 1,.int 1]);rw[zg]at ht ⊢;have f9:AR H9 e 1:=zz;have sB:=AY ht (.AG [.int ((BC gs.length k:Nat):Int),.int ((BC gs.length (k+1):Nat):Int),.ref e]);have a9:=s9.trans sB;refine ai _ _ _ a9 ⟨es++[t],by simp,?_,_,J⟩;rw[EF (show(x.map λ_=>(BC gs.length k,BC gs.length (k+1),(1:Rat)))[i]?=some (BC gs.length k,BC gs.length (k+1),1) by rw[nV,hr];rfl)];exact(hE.keep Df (E5 ag a9)).snoc (Ze ⟨e,AU,An sB f9⟩ (a9 _ _ a6))
    ·rintro ys σ H8 s8 g8 _ ⟨es,rfl,hE,_⟩;rw[nh,oB (by rw[nh]; exact nQ _)] at hE;replace hE:=hE.keep Df (Eg H8 ag);have ar:=s8 _ _ a8;have cq:ds.length<=14:=by
      have h1:=bz.1;have h2:=congrArg tq (GG 0 (gs.take k));rw[nh]at h2;unfold Fw at h1;rw[nh,h2]at h1;have h3:(gs.take k).flatten.length<=gs.flatten.length:=by
       conv=>rhs;rw[<-List.take_append_drop k gs,pW,oa]
       lia
      rw[g.fl,nh,oR]at h3
      lia
     have cw:es.length<=2:=by rw[hE.1,nh];exact xl
     refine⟨O,ag,_,_,J,J,ar,g8,by rw[nh,nh];exact Dk (by lia),?_⟩;have au:=(be.keep Df s8).OD hE;rw[<-aZ ek]at au;have bt:=Jr ar (o:=.AE (ds.map V.ref++es.map V.ref)) au;have aq:Bn O H4 (AF H8 O (.AE (ds.map V.ref++es.map V.ref))):=(AO.b (s6.trans s8)).put _;have bm:(AF H8 O (.AE (ds.map V.ref++es.map V.ref))) O=some (.AE ((ds++es).map V.ref)):=by rw[AU];simp
     have bc:(AF H8 O (.AE (ds.map V.ref++es.map V.ref))) l=some (.AE ((Ba m gs k).map V.int)):=by rw[Ad lR];exact s8 _ _ el
     have bR:bk≠O:=λz=>by
      have:=ab _ _ ad
      rw[z,ao]at this;have h2:=ad;unfold Bo at h2;rw[z]at h2;rw[h2]at fR;cases fR
     have gR:Gp≠O:=λz=>by rw[z]at ae;rw[ae]at fR;cases fR
     have a1:=aq _ _ bR (ab _ _ ad);have bw:=aq _ _ gR (ab _ _ ae);generalize AF H8 O (.AE (ds.map V.ref++es.map V.ref))=H9 at bt aq bm bc a1 bw;refine⟨_,J,_,J,_,J,Gp,_,_,_,J,J,AI.of bw,BQ (C9 av),bk,J,⟨_,AI.of a1⟩,λca cc=>?_⟩;refine Cm (FW a1) (by rw[nh];lia) cc (λi ys σ _=>ys=((x.take i).map λr=>2*r).map V.int/\∃u,σ=[u]) ⟨J,none,J⟩ ?_ ?_
     ·rintro i ys σ HB v HC hi sm a6 ⟨ac,u,rfl⟩ ⟨rfl,hv⟩ C ai;obtain⟨r,rfl,hr⟩:=int_at hv;refine⟨_,J,_,_,J,J,.inl ⟨by decide,by decide⟩,ai _ _ _ (AO.refl _) ⟨?_,_,J⟩⟩;rw[ac,EF hr,oh,oh];rfl
     ·rintro ys σ HB sB gB _ ⟨ac,_⟩;rw[nh,qc,<-Fi (m:=m) ek] at ac;have tl:(Ba m gs k).length+(Br m gs k).length<=100:=by
       have h1:(Br m gs k).length<=2:=by rw[Fi ek,nh];exact xl
       have h2:(Ba m gs k).length<=2:=by
        cases k with
        |zero=>rw[HQ];simp
        |succ k =>
         have e:=nj (show k<gs.length by lia);rw[GS e,nh,uJ];obtain⟨a,e2|e2⟩:=g.sz _ (nz e)<;>rw[e2]<;>simp
       lia
      refine⟨l,ca,_,_,J,J,sB _ _ bc,by rw[gB,ac],by rw[nh,nh];exact Dk (by lia),λpp ck=>hU _ _ ?_⟩;have sC:=AY ck (.AE ((Ba m gs k).map V.int++(Br m gs k).map V.int));have a2:=sB.trans sC;exact⟨pp,ds++es,J,aq.trans (AO.b a2),a2 _ _ bm,bt.keep Df a2,by rw[AU,oh]⟩
   ·refine CH af ?_;obtain rfl:k=gs.length:=by lia
    have tl:(Ba m gs gs.length).length<=2:=by
     obtain⟨k',az⟩:∃k',gs.length=k' + 1:=⟨gs.length-1,by lia⟩;have e:=nj (show k' < gs.length by lia);rw[az,GS e,nh,uJ];obtain⟨a,e2|e2⟩:=g.sz _ (nz e)<;>rw[e2]<;>simp
    refine⟨_,J,.inl ⟨J,_,AI.of el⟩,_,J,_,_,J,J,.inl ⟨by decide,by decide⟩,_,_,J,J,l,_,_,J,J,el,by rw[nh];exact DD (by lia),hU _ _ ?_⟩;refine⟨l,ds,J,AO.b (s6.up fl _),by rw[Ad (qu lR)];exact a8,Jr el ?_,by rw[AU,JI,oh];rfl⟩
    have:Fw gs (gs.length+1)=Fw gs gs.length:=by unfold Fw;rw[oB (by lia),qc]
    rw[this];exact be
  rintro σ H8 ⟨l',b6,rfl,ax,ar,au,cf⟩;have wR:Rw≠O:=qu bq;have bi:=ax _ _ wR cb;refine⟨_,J,l',_,J,.inl ⟨AI.of cf,λt ht=>?_⟩⟩;have s9:=AY ht (.AG ((Ba m gs k++Br m gs k).map V.int));have i9:CZ (AF H8 t (.AG ((Ba m gs k++Br m gs k).map V.int))) t (Ba m gs k++Br m gs k):=AU;generalize AF H8 t (.AG ((Ba m gs k++Br m gs k).map V.int))=H9 at s9 i9;have ol:=Mu g1 kl;refine⟨_,J,_,J,Rw,_,_,_,J,J,s9 _ _ bi,Jw (by rw[lw];exact ol),?_⟩;have br:=s9 _ _ bi;have cp:AO H7 (AF H9 Rw (.AE (rv.set (BC gs.length k) (.ref t)))):=λb o q=>by
   have nR:b≠O:=λz=>by rw[z,fR]at q;cases q
   have nW:b≠Rw:=λz=>by rw[z,b4]at q;cases q
   rw[Ad nW];exact s9 _ _ (ax _ _ nR (ab _ _ q))
  refine⟨_,_,_,b6,rv.set (BC gs.length k) (.ref t),J,cp,by rw[Ad bq];exact s9 _ _ ar,Jr br (au.keep Df s9),AU,by rw[rS];exact lw,λj hj aw=>?_⟩;have tw:∀{b:Addr} {u:List Int},CZ H9 b u->CZ (AF H9 Rw (.AE (rv.set (BC gs.length k) (.ref t)))) b u:=λ{b u} hb=>by
   unfold CZ at hb ⊢;rw[Ad (λz=>by rw[z,br]at hb;cases hb)];exact hb
  by_cases e:j=k
  ·subst e;exact⟨t,by rw[pM (by rw[lw];exact ol)],tw i9⟩
  ·obtain⟨b,b1,b2⟩:=ci j (by lia) aw;have bR:b≠O:=λz=>by unfold CZ at b2;rw[z,ao]at b2;cases b2
   exact⟨b,by rw[pF (λz=>e (Sa aw kl z.symm))];exact b1,tw (s9 _ _ (ax _ _ bR b2))⟩
 ·rintro σ H3 ⟨u9,a5,ay,ds,rv,rfl,s3,eR,hD,eW,lw,ah⟩;rw[Hw] at hD ah;obtain⟨es,us,rfl,ba,cn⟩:=Ng (R:=CZ) (H:=H3) (mv:=rv) (Pq:=λq u=>∃k,k<=gs.length/\BC gs.length k=q/\u=Ba m gs k++Br m gs k) (λqq hq=>by
   obtain⟨k,hk,ek⟩:=OT (G:=gs.length) g1 (p:=qq) (by lia);obtain⟨b,b1,b2⟩:=ah k (by lia) hk;rw[ek]at b1;exact⟨b,_,b1,b2,k,hk,ek,J⟩)
  rw[nh]at lw;have lu:us.length=gs.length+1:=by rw[<-ba.1];exact lw
  have re:Fw gs (gs.length+1)=(Ca 0 gs).map λq=>(BC gs.length q.2.toNat,BC gs.length (q.2.toNat+1),1):=by unfold Fw;rw[oB (by lia)]
  rw[re]at hD;have ln:Cv m gs ((Ca 0 gs).map λq=>(BC gs.length q.2.toNat,BC gs.length (q.2.toNat+1),1)) us:=⟨g,lu,λk hk=>by
   have ol:=Mu g1 hk;have e:=nj (show BC gs.length k<us.length by lia);obtain⟨k',az,e1,e2⟩:=cn _ _ e;rw[e,e2,Sa az hk e1],J⟩
  refine⟨_,J,Or,_,J,.inl (AI.of (s3 _ _ e7)),_,J,O,_,J,.inl ⟨AI.of eR,λp1 co=>?_⟩⟩;rw[Hw];refine BF co (.AG (ds.map V.ref)) λH4 s4 e4=>?_
  refine⟨_,J,Rw,_,J,.inl ⟨AI.of (s4 _ _ eW),λp2 cj=>⟨by exact GA,λp3 bv=>?_⟩⟩⟩;obtain⟨H5,zg,s5,e5⟩:=nw cj (.AG (es.map V.ref));rw[zg]at bv ⊢;have s6:=AY bv (.AG [.int ((gs.length+1:Nat):Int),.ref p1,.ref p2]);have a4:=s4.trans (s5.trans s6);exact q p3 p1 p2 (gs.length+1) _ us _ ((b5.trans s3).trans a4) AU ⟨ds,s6 _ _ (s5 _ _ e4),hD.keep Df a4⟩ ⟨es,s6 _ _ e5,ba.keep Mh a4⟩ ln.mU
end
end My
namespace My
open PySem L2 Mth Wd
variable {e:Int}{ts:List (List Int)}
abbrev DP(l:List (Int×Addr)):List (Aq×V):=l.map λp=>(oX p.1,V.ref p.2)
def Jn:∀{l:List (Int×Addr)},e∉l.map (·.1)->Bp (DP l) (oX e:Aq)=none
 |[],_=>rfl
 |p :: l,h=>by
  show Bp ((oX p.1,V.ref p.2) :: DP l) (oX e:Aq)=_;rw[D3 (p:=((oX p.1:Aq),V.ref p.2)) (λz=>h (by rw[<-Sum.inl.inj z];simp)),Jn (λz=>h (by simp only[n9];exact oY _ z))]
def Mv:∀{l:List (Int×Addr)},e∈l.map (·.1)->∃a,(e,a)∈l/\Bp (DP l) (oX e:Aq)=some (.ref a)
 |p :: l,h=>by
  show ∃a,(e,a)∈p :: l/\Bp ((oX p.1,V.ref p.2) :: DP l) (oX e:Aq)=some (.ref a);by_cases z:p.1=e
  ·exact⟨p.2,by rw[<-z];exact qh ..,by rw[EJ (p:=((oX p.1:Aq),V.ref p.2)) (by rw[z])]⟩
  ·have F:e∈l.map (·.1):=by
    rw[n9]at h;rcases oj.mp h with y|y
    ·exact absurd y.symm z
    ·exact y
   obtain⟨a,h1,h2⟩:=Mv F;exact⟨a,oY _ h1,by rw[D3 (p:=((oX p.1:Aq),V.ref p.2)) (λy=>z (zy y))];exact h2⟩
def dR(h:e∉l.map (·.1)):CB (DP l) (oX e:Aq) (.ref a)=DP (l++[(e,a)]):=by
 rw[Pw (Jn h)];simp
structure CP(H:Hp)(L:Nat)(P:Int->Rat)(Z:Int)(N:Nat)(l:List (Int×Addr)):Prop where
 nd:(l.map (·.1)).Nodup
 Fv:∀q∈l,AJ L q.1
 fr:∀q∈l,AR H q.2 (P q.1)/\Uw Z N l.length (P q.1)
section
variable {H H':Hp}{L:Nat}{P:Int->Rat}{Z:Int}{N:Nat}{l:List (Int×Addr)}
def CP.keep(k:CP H L P Z N l)(s:AO H H'):CP H' L P Z N l:=⟨k.nd,k.Fv,λq F=>⟨An s (k.fr q F).1,(k.fr q F).2⟩⟩
def CP.Ld(k:CP H L P Z N l)(hd:H d=some (.dK kv))(o:HO):CP (AF H d o) L P Z N l:=⟨k.nd,k.Fv,λq F=>⟨by
 have h:H q.2=_:=(k.fr q F).1;show AF H d o q.2=_;rw[Ad (λz=>by rw[z,hd]at h;cases h)];exact h,(k.fr q F).2⟩⟩
def CP.len(k:CP H L P Z N l):l.length<=L:=by
 have:=IG L (l.map (·.1)) k.nd (λx O=>by
  obtain⟨q,F,rfl⟩:=n8.mp O;exact k.Fv q F)
 rwa [nh]at this
def CP.Ae(he:AJ L e)(h:AR H a 0)(O:P e=0):CP H L P Z N [(e,a)]:=by
 refine⟨by simp,λq F=>?_,λq F=>?_⟩
 ·rw[oz.mp F];exact he
 ·rw[oz.mp F,O];exact⟨h,(Uw.zero Z N).mono (by lia)⟩
def CP.DZ(k:CP H L P Z N l)(hn:e∉l.map (·.1))(he:AJ L e)(h:AR H a (P e))(u:Uw Z N (l.length+1) (P e)):CP H L P Z N (l++[(e,a)]):=by
 refine⟨?_,λq F=>?_,λq F=>?_⟩
 ·rw[oh,qB];refine⟨k.nd,by simp,λx hx y O=>?_⟩;simp only[n9,p9,oz]at O;subst O;exact λz=>hn (z ▸ hx)
 ·rcases om.mp F with z|z
  ·exact k.Fv q z
  ·rw[oz.mp z];exact he
 ·rw[oa];rcases om.mp F with z|z
  ·exact⟨(k.fr q z).1,(k.fr q z).2.mono (by simp)⟩
  ·rw[oz.mp z];exact⟨h,u⟩
def CP.all(k:CP H L P Z N l)(h:L<=l.length)(O:AJ L e):e∈l.map (·.1):=by
 by_cases z:e∈l.map (·.1)
 ·exact z
 ·have:=IG L (e :: l.map (·.1)) (qm.mpr ⟨z,k.nd⟩) (λx hx=>by
   rcases oj.mp hx with rfl|hx
   ·exact O
   ·obtain⟨q,F,rfl⟩:=n8.mp hx;exact k.Fv q F)
  rw[oP,nh]at this
  lia
end
def EU(ts:List (List Int))(n:Nat):List Int:=(og n).map λe:Nat=>((ET (A7 (AQ ts) n) (e:Int):Nat):Int)
def gN(T:CS n ts):((og n).map λe:Nat=>(lk (Ca 0 (A7 (AQ ts) n)) (e:Int)).getD 0)=EU ts n:=by
 unfold EU;refine qM λe F=>?_
 have:=o7.mp F
 rw[iX (MX T.By) ((K0 T.By).mpr ⟨by lia,by lia⟩)];rfl
def Um{n e:Nat}(h:e<n):Bc ((EU ts n).map V.int) ((e:Nat):Int)=some (.int ((ET (A7 (AQ ts) n) (e:Int):Nat):Int)) :=
 BQ (P6 (by unfold EU;rw[nV,qk h];rfl))
def cF(ts:List (List Int))(n:Nat):(EU ts n).length=n:=by unfold EU;rw[nh,oR]
def fe(T:CS n ts)(O:x∈EU ts n)(h:∀a∈EU ts n,a<=x):x=((A7 (AQ ts) n).length:Int)-1:=by
 have mm:∀e,AJ n e->((ET (A7 (AQ ts) n) e:Nat):Int)∈EU ts n:=λe F=>by
  unfold EU;exact n8.mpr ⟨e.toNat,o7.mpr (by have:=F.1;have:=F.2;lia),by rw[show((e.toNat:Nat):Int)=e by have:=F.1;lia]⟩
 unfold EU at O;obtain⟨e,F,rfl⟩:=n8.mp O
 have:=o7.mp F
 have l1:=Ta T (x:=(e:Int)) ⟨by lia,by lia⟩;obtain⟨y,hy,ey⟩:=Rp T (j:=(A7 (AQ ts) n).length-1) (by lia)
 have:=h _ (mm y hy)
 rw[ey]at this
 lia
structure N9(rs:List AX)(Y:Nat->Rat)(Z:Int)(N:Nat):Prop where
 z0:Z≠0
 zl:Z.natAbs<=2 ^ 2224
 nl:N<=2235
 ru:∀r∈rs,Uw Z N 1 (Au Y r)
structure Dz(rs:List AX)(ts:List (List Int))(Y:Nat->Rat)(p:Int->Rat)(Z:Int)(N:Nat):Prop where
 Ig:rs.length<=14
 tn:CS (2*rs.length+2) ts
 hg:Lg ts rs.length
 pp:JX rs ts Y p
 wd:N9 rs Y Z N
abbrev BG(rs:List AX)(ts:List (List Int))(x:Int):Int:=((ET (A7 (AQ ts) (2*rs.length+2)) x:Nat):Int)
abbrev Cg(rs:List AX)(ts:List (List Int)):Nat:=(A7 (AQ ts) (2*rs.length+2)).length
section
variable {rs:List AX}{ts:List (List Int)}{Y:Nat->Rat}{p:Int->Rat}{Z:Int}{N:Nat}{H:Hp}{l:List (Int×Addr)}
def Dz.in(D:Dz rs ts Y p Z N)(F:AJ (2*rs.length+2) x):AJ (Cg rs ts) (BG rs ts x):=⟨by unfold BG;lia,by unfold BG Cg;have:=Ta D.tn F;lia⟩
def Dz.le(D:Dz rs ts Y p Z N):Cg rs ts<=30:=by
 have:=(SN D.tn.By (nQ _)).2
 have:=D.Ig
 unfold Cg
 lia
def Dz.at(D:Dz rs ts Y p Z N)(F:AJ (2*rs.length+2) x):EY ts (2*rs.length+2) p (BG rs ts x)=p x:=ZZ D.tn D.pp.MA F
def Dz.sf(D:Dz rs ts Y p Z N)(h:Uw Z N c q)(F:c<=64):Sf q:=h.sf D.wd.z0 D.wd.zl F (by have:=D.wd.nl;lia)
def Dz.kz (D:Dz rs ts Y p Z N)(k:CP H (Cg rs ts) (EY ts (2*rs.length+2) p) Z N l)(h0:BG rs ts (2*(rs.length:Int))∈l.map (·.1))
  (cl:∀j:Nat,j<rs.length->(BG rs ts (2*(j:Int))∈l.map (·.1)↔BG rs ts (2*(j:Int)+1)∈l.map (·.1))):Cg rs ts<=l.length:=by
 have all:=D.hg (λx=>BG rs ts x∈l.map (·.1)) (λx F=>by rw[show BG rs ts (AQ ts x)=BG rs ts x by unfold BG;rw[Ya D.tn F]]) cl h0
 have:=Ms ((og (Cg rs ts)).map λj:Nat=>(j:Int)) (l.map (·.1)) (by
  rw[ug,rB];exact tF (λh e=>h (by lia)) tH) (λx F=>by
  obtain⟨j,hj,rfl⟩:=n8.mp F;obtain⟨y,hy,O⟩:=Rp D.tn (o7.mp hj)
  have:=all y hy
  unfold BG at this
  rwa [O]at this)
 rwa [nh,nh,oR]at this
def Dz.step(D:Dz rs ts Y p Z N)(k:CP H (Cg rs ts) (EY ts (2*rs.length+2) p) Z N l){j:Nat}(hj:rs[j]?=some r):
  (BG rs ts (2*(j:Int)+1)∈l.map (·.1)->∃a,(BG rs ts (2*(j:Int)+1),a)∈l/\Bp (DP l) (oX (BG rs ts (2*(j:Int)+1)):Aq)=some (.ref a)/\AR H a (p (2*(j:Int)+1))/\Sf (p (2*(j:Int)+1)) /\
   (BG rs ts (2*(j:Int))∉l.map (·.1)->∀b H',AO H H'->AR H' b (p (2*(j:Int)+1)+Au Y r)->CP H' (Cg rs ts) (EY ts (2*rs.length+2) p) Z N (l++[(BG rs ts (2*(j:Int)),b)]))) /\
  (BG rs ts (2*(j:Int))∈l.map (·.1)->∃a,(BG rs ts (2*(j:Int)),a)∈l/\Bp (DP l) (oX (BG rs ts (2*(j:Int))):Aq)=some (.ref a)/\AR H a (p (2*(j:Int)))/\Sf (p (2*(j:Int))) /\
   (BG rs ts (2*(j:Int)+1)∉l.map (·.1)->∀b H',AO H H'->AR H' b (p (2*(j:Int))-Au Y r)->CP H' (Cg rs ts) (EY ts (2*rs.length+2) p) Z N (l++[(BG rs ts (2*(j:Int)+1),b)]))):=by
 have jl:=(nq.mp hj).1;have O:AJ (2*rs.length+2) (2*(j:Int)):=⟨by lia,by push_cast;lia⟩;have F:AJ (2*rs.length+2) (2*(j:Int)+1):=⟨by lia,by push_cast;lia⟩;have df:=D.pp.df j r hj;have ru:=D.wd.ru r (nz hj);have kl:=k.len;have aa:=D.le;constructor
 ·intro h;obtain⟨a,h1,h2⟩:=Mv h;obtain⟨f1,f2⟩:=k.fr _ h1;dsimp only at f1 f2;rw[D.at F]at f1 f2;refine⟨a,h1,h2,f1,D.sf f2 (by lia),λhn b H' s hb=>?_⟩;have e:p (2*(j:Int)+1)+Au Y r=p (2*(j:Int)):=by grind
  refine(k.keep s).DZ hn (D.in O) ?_ ?_
  ·rw[D.at O,<-e];exact hb
  ·rw[D.at O,<-e];exact f2.DZ ru
 ·intro h;obtain⟨a,h1,h2⟩:=Mv h;obtain⟨f1,f2⟩:=k.fr _ h1;dsimp only at f1 f2;rw[D.at O]at f1 f2;refine⟨a,h1,h2,f1,D.sf f2 (by lia),λhn b H' s hb=>?_⟩;have e:p (2*(j:Int))-Au Y r=p (2*(j:Int)+1):=by grind
  refine(k.keep s).DZ hn (D.in F) ?_ ?_
  ·rw[D.at F,<-e];exact hb
  ·rw[D.at F,<-e];exact f2.sub ru
end
end My
namespace My
open PySem L2 Mth Wd
variable {ts:List (List Int)}{rs:List AX}{Y:Nat->Rat}
def BX(x y:Rat):Rat:=if y<x then y else x
def BY(x y:Rat):Rat:=if y<x then x else y
def Pf(h:j<=rs.length):Bc ((EU ts (2*rs.length+2)).map V.int) (2*(j:Int))=some (.int (BG rs ts (2*(j:Int)))):=by
 have:=Um (ts:=ts) (n:=2*rs.length+2) (e:=2*j) (by lia)
 rwa [show((2*j:Nat):Int)=2*(j:Int) by lia]at this
def PR(h:j<=rs.length):Bc ((EU ts (2*rs.length+2)).map V.int) (2*(j:Int)+1)=some (.int (BG rs ts (2*(j:Int)+1))):=by
 have:=Um (ts:=ts) (n:=2*rs.length+2) (e:=2*j+1) (by lia)
 rwa [show((2*j+1:Nat):Int)=2*(j:Int)+1 by lia]at this
section
variable {P:o6}{w:World}{K:nT}{mg:Str->Option Value}{base:Heap}{f g h f1 f2 f3 f4 f5:Addr}{fd gd hd d1 d2 d3 d4 d5:qy}
inductive KA(vs:List V)(H:Hp)(Q:VK)(_:XK):Prop
 |mk (p q:Addr) (x y:Rat) (ad:vs=[.ref p,.ref q]) (aa:AR H p x) (F:AR H q y) (ab:Sf x) (ac:Sf y) (O:Q (.bl (decide (x<y))) H)
def kH:Ar ["one","other"] ["one","other"] (Ah s_less):=Ay
def bZ(F:Ak K "less" "less" s_less f fd):Ag P w K mg base Ap 1 f fd ["one","other"] KA:=by
 refine F.A1 kH λim A _ s H vs Q E hr h=>?_
 obtain⟨p,q,x,y,rfl,hp,hq,O,sy,k⟩:=h;exists _,AS (Ai (Dc Fh (AM CK (pT (pv 0) AB) (pT (pv 1) AB)) (AM CK (pT (pv 1) AB) (pT (pv 0) AB))));rw[show decide (x<y)=decide (x.num*(y.den:Int)<y.num*(x.den:Int)) from decide_eq_decide.mpr (yE x y)]at k;exact⟨_,J,p,_,_,_,J,J,AH.of hp,BE,_,J,q,_,_,_,J,J,AH.of hq,As,_,_,J,J,⟨O.n,sy.d⟩,_,J,q,_,_,_,J,J,AH.of hq,BE,_,J,p,_,_,_,J,J,AH.of hp,As,_,_,J,J,⟨sy.n,O.d⟩,_,_,J,J,k⟩
inductive Vy(vs:List V)(H:Hp)(Q:VK)(_:XK):Prop
 |mk (p q:Addr) (x y:Rat) (ad:vs=[.ref p,.ref q]) (aa:AR H p x) (F:AR H q y) (ab:Sf x) (ac:Sf y) (O:∀t a b,H t=none->AR H a (BX x y)->AR H b (BY x y)->Q (.ref t) (AF H t (.AG [.ref a,.ref b])))
def lq:Ar ["one","other"] ["one","other"] (Ah s_rising):=Ay
def ZS(F:Ak K "rising" "rising" s_rising f fd)(G:AZ P w K mg base 1 "less" ["one","other"] KA):Ag P w K mg base Ap 2 f fd ["one","other"] Vy:=by
 refine F.A1 lq λim A _ s H vs Q E hr h=>?_
 obtain⟨p,q,x,y,rfl,O,hq,sx,sy,k⟩:=h;exists _,AS (Ai (Sx (C1 (AV G (AA (pv 1) (AA (pv 0) AD)))) (BS (AA (pv 1) (AA (pv 0) AD))) (BS (AA (pv 0) (AA (pv 1) AD)))));exists _,J,_,J,q,p,y,x,J,hq,O,sy,sx,_,rfl;unfold BX BY at k;by_cases z:y<x
 ·rw[nX z,nX z]at k;exact C3 z ⟨_,J,_,J,by exact Bk,λt ht=>k t q p ht hq O⟩
 ·rw[nS z,nS z]at k;exact CH z ⟨_,J,_,J,by exact Bk,λt ht=>k t p q ht O hq⟩
inductive UN(vs:List V)(H:Hp)(Q:VK)(_:XK):Prop
 |mk (a b:Addr) (rs:List AX) (ts:List (List Int)) (Y:Nat->Rat) (p:Int->Rat) (Z:Int) (N:Nat) (F:vs=[.ref a,.ref b]) (O:H a=some (.AG ((EU ts (2*rs.length+2)).map V.int))) (ab:BB AR H b (rs.map (Au Y))) (ac:Dz rs ts Y p Z N)
  (aa:∀d l H',AO H H'->H' d=some (.dK (DP l))->CP H' (Cg rs ts) (EY ts (2*rs.length+2) p) Z N l->Cg rs ts<=l.length->Q (.ref d) H')
def JU:Ar ["lands","widths","outer","sides","k","width","right","left"] ["lands","widths"] (Ah s_land_sides):=Ay
seal L2.Cy L2.PS L2.PE L2.PA in
def aV (F:Ak K "land_sides" "land_sides" s_land_sides f fd)(G1:AZ P w K mg base 3 "plus" ["one","other"] (CY λx y=>x+y))
  (G2:AZ P w K mg base 3 "minus" ["one","other"] (CY λx y=>x-y))(ml:mg "len" = none)(mx:mg "max" = none)(me:mg "enumerate" = none):Ag P w K mg base Ap 4 f fd ["lands","widths"] UN:=by
 refine F.A1 JU λim A _ s H vs Q E hr h=>?_
 obtain⟨a,b,rs,ts,Y,p,Z,N,rfl,ha,⟨bs,hb,hB⟩,D,q⟩:=h;have hu:=Fl hr;exists _,AL (AW 2 JU (B4 ml (pv 1)))
  (AL (AW 3 JU (Tz (Oy (pT (pv 0) (AM CW AB (pv 2))) (BS (AA AB (AA AB AD))) UT) rfl rfl (λz=>by cases z) (by decide)))
  (AL (Hy oE (BP jt (Bu Od (by rfl) ml Gx (AA (pv 3) AD)) (Bu (Yz rfl) (by rfl) mx NK (AA (pv 0) AD)))
   (AS (Bg oE rfl (LL (by rfl) me (AA (pv 1) AD)) (Cp (n:=2) rfl (BH (Az 4 JU) (BH (Az 5 JU) Cn)))
    (AL (AW 6 JU (pT (pv 0) (AM CW AB (pv 4))))
    (AL (AW 7 JU (pT (pv 0) (AM BK (AM CW AB (pv 4)) AB)))
    (AS (BL (PW.pt (QC (IH (VD hu (pv 7) (pv 3))) (PY (IH (MR hu (pv 6) (pv 3))))))
     (AS (Gv hu (pv 3) (pv 6) (AV G1 (AA (F9 hu (pv 3) (pv 7)) (AA (pv 5) AD))) rfl))
     (AS (BL (PW.pt (QC (IH (VD hu (pv 6) (pv 3))) (PY (IH (MR hu (pv 7) (pv 3))))))
      (AS (Gv hu (pv 3) (pv 7) (AV G2 (AA (F9 hu (pv 3) (pv 6)) (AA (pv 5) AD))) rfl)) BR)))))))))
  (AS (Ai (pv 3)))))
 have a0:=D.Ig;have lb:bs.length=rs.length:=by rw[hB.1,nh]
 have i0:AJ (2*rs.length+2) (2*(rs.length:Int)):=⟨by lia,by push_cast;lia⟩;exists _,J,b,_,J,.inr (AH.of hb);rw[nh,lb];intro d hd;refine BF hd (.dK []) λH1 s1 e1=>?_
 refine⟨_,J,_,J,_,_,J,J,.inl ⟨by decide,by decide⟩,a,_,_,_,J,J,AH.of (s1 _ _ ha),Pf (nQ _),by exact Bk,λz hz=>?_⟩;refine BF hz (.AG [.int 0,.int 1]) λH2 s2 zz=>?_
 have fz:AR H2 z 0:=zz;have e2:=s2 _ _ e1;refine⟨e2,[(oX (BG rs ts (2*(rs.length:Int))),.ref z)],J,by show 1<=15;decide,?_⟩;have s3:AO H (AF H2 d (.dK (GO [] [((oX (BG rs ts (2*(rs.length:Int))):Aq),V.ref z)]))):=(s1.trans s2).up hd _;have e3:(AF H2 d (.dK (GO [] [((oX (BG rs ts (2*(rs.length:Int))):Aq),V.ref z)]))) d=some (.dK (DP [(BG rs ts (2*(rs.length:Int)),z)])):=AU;have k3:CP (AF H2 d (.dK (GO [] [((oX (BG rs ts (2*(rs.length:Int))):Aq),V.ref z)]))) (Cg rs ts) (EY ts (2*rs.length+2) p) Z N [(BG rs ts (2*(rs.length:Int)),z)] :=
  (CP.Ae (D.in i0) fz (by rw[D.at i0];exact D.pp.o)).Ld e2 _
 generalize AF H2 d (.dK (GO [] [((oX (BG rs ts (2*(rs.length:Int))):Aq),V.ref z)]))=H3 at s3 e3 k3;have ad:a≠d:=λz=>by rw[z,hd]at ha;cases ha
 have bd:b≠d:=λz=>by rw[z,hd]at hb;cases hb
 refine Hu (λσ H4=>∃l u1 u2 u3 u4,σ=[some (.ref a),some (.ref b),some (.int (rs.length:Int)),some (.ref d),u1,u2,u3,u4]/\AO H H4/\H4 d=some (.dK (DP l))/\CP H4 (Cg rs ts) (EY ts (2*rs.length+2) p) Z N l/\BG rs ts (2*(rs.length:Int))∈l.map (·.1))
  (λ_ H4=>match H4 d with|some (.dK kv)=>Cg rs ts-kv.length|_=>0) ⟨_,none,none,none,none,J,s3,e3,k3,by simp⟩ ?_ ?_
 ·rintro σ H4 ⟨l,u1,u2,u3,u4,rfl,s4,af,k4,c4⟩;refine⟨_,J,d,_,J,af,_,J,a,_,J,s4 _ _ ha,by rw[cF];lia,λx hx ay=>?_⟩;rw[fe D.tn hx ay,nh];exists _,_,J,J,_,rfl;by_cases am:(l.length:Int)<=(Cg rs ts:Int)-1
  ·refine C3 am ?_;exists _,J,b,_,J,s4 _ _ hb;refine K4 (xs:=bs.map V.ref) (λi σ H5=>∃O u1 u2 u3 u4,σ=[some (.ref a),some (.ref b),some (.int (rs.length:Int)),some (.ref d),u1,u2,u3,u4]/\AO H H5/\H5 d=some (.dK (DP O))/\CP H5 (Cg rs ts) (EY ts (2*rs.length+2) p) Z N O/\BG rs ts (2*(rs.length:Int))∈O.map (·.1)/\l.length<=O.length /\
     (O.length=l.length->O=l/\∀j:Nat,j<i->(BG rs ts (2*(j:Int))∈l.map (·.1)↔BG rs ts (2*(j:Int)+1)∈l.map (·.1))))
    ⟨l,u1,u2,u3,u4,J,s4,af,k4,c4,nQ _,λ_=>⟨J,λj hj=>absurd hj (zm _)⟩⟩ (λi σ H5 _ ⟨_,_,_,_,_,_,s5,_⟩=>s5 _ _ hb) ?_ ?_
   ·rintro i x σ H5 tp hx ⟨O,v1,v2,v3,v4,rfl,s5,ae,k5,c5,ai,ag⟩ aw;obtain⟨c,q1,rfl,_,hy,hc⟩:=hB.ref hx;obtain⟨r,ah,rfl⟩:∃r,rs[i]?=some r/\Au Y r=q1:=by
     rw[nV]at hy;cases e:rs[i]? with
     |none=>rw[e]at hy;cases hy
     |some r=>rw[e]at hy;exact⟨r,J,oy hy⟩
    have il:=(nq.mp ah).1;refine BF aw (.AG [.int (i:Int),.ref c]) λH6 s6 e6=>?_
    have aa:=s6 _ _ ae;have k6:=k5.keep s6;have ac:=s5.trans s6;exists tp,_,J,AH.of e6,J,_,_,J,_,_,J,rfl;refine⟨_,J,_,J,_,_,J,J,.inl ⟨by decide,by decide⟩,a,_,_,_,J,J,AH.of (ac _ _ ha),Pf (by lia),?_⟩;refine⟨_,J,_,J,_,_,J,J,.inl ⟨by decide,by decide⟩,_,_,J,J,a,_,_,_,J,J,AH.of (ac _ _ ha),PR (by lia),?_⟩;obtain⟨ax,aj⟩:=D.step k6 ah;have aq:=D.sf (D.wd.ru r (nz ah)) (by decide);have fc:=An ac (by exact hc);have kl:=k6.len;have az:=D.le;have au:(DP O).length<oK:=by rw[nh];exact DD (by lia)
    have g1:=DL.k (k:=oX (BG rs ts (2*(i:Int)+1))) aa;have g0:=DL.k (k:=oX (BG rs ts (2*(i:Int)))) aa;have ak:∀(h:BG rs ts (2*(i:Int))∈O.map (·.1)↔BG rs ts (2*(i:Int)+1)∈O.map (·.1)),O.length=l.length->O=l/\∀j:Nat,j<i+1->(BG rs ts (2*(j:Int))∈l.map (·.1)↔BG rs ts (2*(j:Int)+1)∈l.map (·.1)):=λh z=>by
     obtain⟨rfl,c2⟩:=ag z;refine⟨J,λj hj=>?_⟩;rcases oM j i with y|y
     ·exact c2 j y
     ·obtain rfl:j=i:=by lia
      exact h
    have ap:∀(e:Int) (t:Addr) (H8:Hp),e∉O.map (·.1)->AO H6 H8->CP H8 (Cg rs ts) (EY ts (2*rs.length+2) p) Z N (O++[(e,t)])->∃ab w1 w2 w3 w4,[some (V.ref a),some (.ref b),some (.int (rs.length:Int)),some (.ref d),some (.int (i:Int)),some (.ref c),some (.int (BG rs ts (2*(i:Int)))),some (.int (BG rs ts (2*(i:Int)+1)))]=[some (.ref a),some (.ref b),some (.int (rs.length:Int)),some (.ref d),w1,w2,w3,w4] /\
      AO H (AF H8 d (.dK (CB (DP O) (oX e:Aq) (.ref t))))/\(AF H8 d (.dK (CB (DP O) (oX e:Aq) (.ref t)))) d=some (.dK (DP ab))/\CP (AF H8 d (.dK (CB (DP O) (oX e:Aq) (.ref t)))) (Cg rs ts) (EY ts (2*rs.length+2) p) Z N ab/\BG rs ts (2*(rs.length:Int))∈ab.map (·.1)/\l.length<=ab.length /\
      (ab.length=l.length->ab=l/\∀j:Nat,j<i+1->(BG rs ts (2*(j:Int))∈l.map (·.1)↔BG rs ts (2*(j:Int)+1)∈l.map (·.1))):=λe t H8 hn s8 k8=>by
     refine⟨O++[(e,t)],_,_,_,_,J,(ac.trans s8).up hd _,by rw[AU,dR hn],k8.Ld (s8 _ _ aa) _,by rw[oh];exact om.mpr (.inl c5),by rw[oa];lia,λz=>?_⟩;rw[oa,qF]at z
     lia
    exists _,J,_,J,d,_,J,g1,_,rfl;by_cases h1:BG rs ts (2*(i:Int)+1)∈O.map (·.1)
    ·obtain⟨al,_,vl,fl,sl,av⟩:=ax h1;rw[vl];rw[vl]at g1;refine D8 ?_;exists _,J,_,J,d,_,J,g0,_,rfl;by_cases h0:BG rs ts (2*(i:Int))∈O.map (·.1)
     ·obtain⟨ar,_,vr,fr,sr,ao⟩:=aj h0;rw[vr];rw[vr]at g0;refine Bj ?_;refine⟨_,J,_,J,d,_,J,g0,_,J,D8 ?_⟩;refine⟨_,J,_,J,d,_,J,g1,_,J,Bj ?_⟩;exact⟨O,_,_,_,_,J,ac,aa,k6,c5,ai,ak ⟨λ_=>h1,λ_=>h0⟩⟩
     ·rw[Jn h0];refine D8 ?_;refine⟨_,J,_,J,d,_,J,g1,_,J,al,c,_,_,J,fl,fc,sl,aq,λt ht=>?_⟩;have s8:=AY ht (.AG [.int (p (2*(i:Int)+1)+Au Y r).num,.int (p (2*(i:Int)+1)+Au Y r).den]);exact⟨_,J,_,J,d,_,J,D6.k (k:=oX (BG rs ts (2*(i:Int)))) (s8 _ _ aa) au,ap _ t _ h0 s8 (av h0 t _ s8 AU)⟩
    ·rw[Jn h1];rw[Jn h1]at g1;refine Bj (Bj ?_);exists _,J,_,J,d,_,J,g0,_,rfl;by_cases h0:BG rs ts (2*(i:Int))∈O.map (·.1)
     ·obtain⟨ar,_,vr,fr,sr,ao⟩:=aj h0;rw[vr];rw[vr]at g0;refine D8 ?_;refine⟨_,J,_,J,d,_,J,g1,_,J,D8 ?_⟩;refine⟨_,J,_,J,d,_,J,g0,_,J,ar,c,_,_,J,fr,fc,sr,aq,λt ht=>?_⟩;have s8:=AY ht (.AG [.int (p (2*(i:Int))-Au Y r).num,.int (p (2*(i:Int))-Au Y r).den]);exact⟨_,J,_,J,d,_,J,D6.k (k:=oX (BG rs ts (2*(i:Int)+1))) (s8 _ _ aa) au,ap _ t _ h1 s8 (ao h1 t _ s8 AU)⟩
     ·rw[Jn h0];refine Bj (Bj ?_);exact⟨O,_,_,_,_,J,ac,aa,k6,c5,ai,ak ⟨λz=>absurd z h0,λz=>absurd z h1⟩⟩
   ·rintro σ H5 ⟨O,v1,v2,v3,v4,rfl,s5,ae,k5,c5,ai,ag⟩;exists ⟨O,_,_,_,_,J,s5,ae,k5,c5⟩;show(match H5 d with|some (.dK kv)=>Cg rs ts-kv.length|_=>0)<(match H4 d with|some (.dK kv)=>Cg rs ts-kv.length|_=>0);rw[ae,af];show Cg rs ts-(DP O).length<Cg rs ts-(DP l).length;rw[nh,nh];rcases oM l.length O.length with z|z
    ·lia
    ·obtain⟨rfl,c2⟩:=ag (by lia)
     have:=D.kz k5 c5 (λj hj=>c2 j (by rw[nh,lb];exact hj))
     lia
  ·refine CH am ?_;exact⟨_,J,q d l H4 s4 af k4 (by lia)⟩
 ·rintro σ H4 Q1 Q2 hq ⟨v,e,d',kv,z1,z2,v',e',a',ns,y1,y2,y3,z⟩;exact⟨v,e,d',kv,z1,z2,v',e',a',ns,y1,y2,y3,λm hm hl=>by
   obtain⟨i,j,e1,e2,b,eb,zz⟩:=z m hm hl;exact⟨i,j,e1,e2,b,eb,hq _ _ zz⟩⟩
def Si(X Y:Nat->Rat)(i:Nat):∀rs:List AX,A8 (λj=>X j-Y j) rs i=A8 X rs i-A8 Y rs i
 |[]=>by unfold A8;simp;grind
 |r :: rs=>by
  have e:Ct (λj=>X j-Y j) i r=Ct X i r-Ct Y i r:=by
   unfold Ct Au;split<;>split<;>grind
  have:=Si X Y i rs
  unfold A8 at this ⊢;rw[n9,n9,n9,oJ,oJ,oJ,this,e]
  grind
def Om(X:Nat->Rat)(c:Rat)(i:Nat):∀rs:List AX,A8 (λj=>X j*c) rs i=A8 X rs i*c
 |[]=>by unfold A8;simp
 |r :: rs=>by
  have e:Ct (λj=>X j*c) i r=Ct X i r*c:=by
   unfold Ct Au;split<;>split<;>grind
  have:=Om X c i rs
  unfold A8 at this ⊢;rw[n9,n9,oJ,oJ,this,e]
  grind
def SS(k:CO n m α β rs)(F:Eb n B rs X)(y0:Y 0=1)(y1:Y 1=0)(yb:∀i,2<=i->i<n+2->A8 Y rs i=0):∀j,j<n+2->X j=Y j:=by
 have:=SD (X:=λj=>X j-Y j) (λr O=>⟨(k.CN r O).1,(k.CN r O).2.1,k.pos r O⟩) k.DU (by show X 0-Y 0=0;rw[F.x0,y0];grind) (λi hi=>by
  match i,hi with
  |0,_=>left;show X 0-Y 0=0;rw[F.x0,y0];grind
  |1,_=>left;show X 1-Y 1=0;rw[F.x1,y1];grind
  |i+2,hi=>right;rw[Si,F.Ic (i+2) (by lia) hi,yb (i+2) (by lia) hi];grind)
 intro j hj
 have:=this j hj
 grind
structure W2(n:Nat)(rs:List AX)(X:Nat->Rat)(F:Rat):Prop where
 hs:∀j,j<n+2->Sf (X j)
 ys:∀j,j<n+2->Sf (X j*F)
 fs:∀r∈rs,Sf (X r.1-X r.2.1)
 ds:∀r∈rs,Sf (X r.1*F-X r.2.1*F)
 es:∀r∈rs,Sf r.2.2
 rx:∀r∈rs,Sf (Au X r)
 sF:Sf F
def Eb.iE(k:CO n 14 10 10 rs)(h:Eb n ((8+10*14+10)*n) rs X)(hF:Sb 30 30 F):W2 n rs X F/\∃Z N,N9 rs (λj=>X j*F) Z N/\∀j,j<n+2->∃c:Int,(Z:Rat)*(X j*F)=c/\c.natAbs<=2 ^ 2224:=by
 obtain⟨Z,N,z⟩:=h.Nl k;obtain⟨W,w0,wl,wx⟩:=h.wh;have ae:=k.hb.L9;have hB:(8+10*14+10)*n<=2054:=by lia
 generalize (8+10*14+10)*n=B at *;have hd:Cu rs<=2 ^ 140:=k.den;have hp:=Jt rs;have aa:(F.den:Int)≠0:=by have:=F.den_nz;lia
 have fF:((F.den:Int):Rat)*F=(F.num:Int):=by
  have d0:(F.den:Rat)≠0:=by have:=F.den_nz;exact_mod_cast this
  have e:F=(F.num:Rat) / (F.den:Rat):=(xY F).symm.trans (by rw[yx];rfl);rw[ic]
  conv=>lhs;rw[e]
  grind
 have fn:F.num.natAbs<=2 ^ 30:=hF.1;have fl:(F.den:Int).natAbs<=2 ^ 30:=by rw[oW];exact hF.2
 have wf:(W*(F.den:Int)).natAbs<=2 ^ (B+30):=by rw[pA];exact Ce wl fl
 have ac:∀r∈rs,∃c:Int,(W:Rat)*(X r.1-X r.2.1)=c/\c.natAbs<=2 ^ (B+1):=λr O=>by
  obtain⟨a1,a2,a3⟩:=k.CN r O;obtain⟨x,e1,l1⟩:=wx _ a1;obtain⟨y,e2,l2⟩:=wx _ a2;exists x-y,by rw[uU,<-e1,<-e2];grind
  have:=wc x y
  rw[tN];lia
 have ad:∀r∈rs,∃c:Int,((W*(Cu rs:Int)*(F.den:Int):Int):Rat)*Au (λj=>X j*F) r=c/\c.natAbs<=2 ^ (140+10+(B+1)+30):=λr O=>by
  obtain⟨c,e,l⟩:=ac r O;obtain⟨v,hv⟩:=PD (Ml O);exists v*c*F.num,?_
  ·rw[pj,pj,pj,pj,<-hv,<-e,<-fF,ic];unfold Au;grind
  ·have ab:Ab ((2 ^ 140:Nat):Rat) ((Cu rs:Nat):Rat):=JD (x:=(Cu rs:Int)) (by rw[oW];exact hd);have vb:=ab.Ew (k.CN r O).2.2.vb;rw[hv,<-Rat.natCast_mul,<-Nat.pow_add]at vb;rw[pA,pA];exact Ce (Ce (GL vb) l) fn
 have w2:(2:Nat) ^ (B+30)<=2 ^ 3900:=pk (by decide) (by lia);have fu:∀r∈rs,Uw (W*(F.den:Int)) (B+1+30) 1 (X r.1*F-X r.2.1*F):=λr O=>by
  obtain⟨c,e,l⟩:=ac r O;exact⟨c*F.num,by rw[pj,pj,<-e,<-fF];grind,by rw[pA,uZ];exact Ce l fn⟩
 refine⟨⟨z.hs,λj hj=>?_,z.fs,λr O=>(fu r O).sf (rR w0 aa) (oC wf w2) (by decide) (by lia),z.es,λr O=>(z.ru r O).sf z.z0 z.zl (by decide) z.nl,hF.mono (by decide) (by decide)⟩,W*(Cu rs:Int)*(F.den:Int),140+10+(B+1)+30,⟨rR (rR w0 (by lia)) aa,?_,by lia,λr O=>?_⟩,λj hj=>?_⟩
 ·obtain⟨c,e,l⟩:=wx j hj;refine(Jx (W:=W*(F.den:Int)) (k:=c*F.num) (b:=B+30) (a:=B+30) (rR w0 aa) ?_ (by rw[pA];exact Ce l fn) wf).mono (by lia) (by lia);rw[pj,pj,<-e,<-fF];grind
 ·rw[pA,pA,oW (Cu rs)];exact oC (Ce (Ce wl hd) fl) (pk (by decide) (by lia))
 ·obtain⟨c,e,l⟩:=ad r O;exact⟨c,e,by rw[uZ];exact l⟩
 ·obtain⟨c,e,l⟩:=wx j hj;refine⟨c*(Cu rs:Int)*F.num,by rw[pj,pj,pj,pj,<-e,<-fF,ic];grind,?_⟩;rw[pA,pA,oW (Cu rs)];exact oC (Ce (Ce l hd) fn) (pk (by decide) (by lia))
def NetV.k(k:NetV (n+2) rs ts):CO n 14 10 10 rs:=by
 have:=k.mq
 refine⟨⟨by lia,by decide,by lia⟩,k.Ig,λr F=>?_,λr F=>?_,k.DU⟩
 ·obtain⟨⟨e1,O,e3⟩,h1,h2⟩:=k.Kf r F;exact⟨h1,h2,by show r.2.2.num.natAbs<=2 ^ 10;lia,by show r.2.2.den<=2 ^ 10;lia⟩
 ·have:=(k.Kf r F).1.pos
  rw[yE];simpa using this
def EV(p:Int->Rat)(Y:Nat->Rat)(k:Nat)(r:AX):List Rat:=[BX (p (2*(k:Int))) (p (2*(k:Int)+1)),BX (Y r.1) (Y r.2.1),BY (p (2*(k:Int))) (p (2*(k:Int)+1)),BY (Y r.1) (Y r.2.1)]
def Em(p:Int->Rat)(Y:Nat->Rat)(rs:List AX):List (List Rat):=rs.mapIdx λk r=>EV p Y k r
def J5(h:rs[k]?=some r):(Em p Y rs)[k]?=some (EV p Y k r):=by
 unfold Em;rw[wU,h];rfl
def Jy(p:Int->Rat)(Y:Nat->Rat)(rs:List AX):(Em p Y rs).length=rs.length:=by unfold Em;rw[aaw]
def JE(H:Hp)(a:Addr)(W U:Rat)(F:List (List Rat)):Prop:=∃p q r,H a=some (.AG [.ref p,.ref q,.ref r])/\AR H p W/\AR H q U/\BB (BB AR) H r F
def Ou(s:AO H H')(h:JE H a W U rows):JE H' a W U rows:=by
 obtain⟨p,q,r,h1,h2,O,F⟩:=h;exact⟨p,q,r,s _ _ h1,s _ _ h2,s _ _ O,Fb (R:=BB AR) (λs h=>GQ s h) s F⟩
structure mf(n:Nat)(rs:List AX)(ts:List (List Int))(X:Nat->Rat)(F:Rat)(p:Int->Rat)(Z:Int)(N:Nat):Prop where
 nk:CO n 14 10 10 rs
 hx:Eb n ((8+10*14+10)*n) rs X
 hf:W2 n rs X F
 ld:Dz rs ts (λj=>X j*F) p Z N
def cC(h:H t=some (.AG [.ref c0,.ref c1,.ref c2,.ref c3]))(h0:AR H c0 x0)(h1:AR H c1 x1)(h2:AR H c2 x2)(h3:AR H c3 x3):BB AR H t [x0,x1,x2,x3] :=
 ⟨[c0,c1,c2,c3],h,J,λi b x O F=>by
  match i,O,F with
  |0,O,F=>cases O;cases F;exact h0
  |1,O,F=>cases O;cases F;exact h1
  |2,O,F=>cases O;cases F;exact h2
  |3,O,F=>cases O;cases F;exact h3⟩
def iB(F:H l=some (.AE ys))(h:BB AR H b r):BB AR (AF H l o) b r:=by
 obtain⟨bs,h1,h2⟩:=h;exact⟨bs,by rw[Ad (λz=>by rw[z,F]at h1;cases h1)];exact h1,P5 h2 F o⟩
def fv(O:H l=some (.AE ys))(h:At (BB AR) H bs rr):At (BB AR) (AF H l o) bs rr:=⟨h.1,λi b x e1 F=>iB O (h.2 i b x e1 F)⟩
def Dz.GW(D:Dz rs ts Y p Z N)(k:CP H (Cg rs ts) (EY ts (2*rs.length+2) p) Z N l)(O:Cg rs ts<=l.length)(hd:H d=some (.dK (DP l)))(F:AJ (2*rs.length+2) x):
  ∃a,DL H d (.int (BG rs ts x)) (some (.ref a))/\AR H a (p x)/\Sf (p x):=by
 obtain⟨a,h1,h2⟩:=Mv (k.all O (D.in F));obtain⟨f1,f2⟩:=k.fr _ h1;dsimp only at f1 f2;rw[D.at F]at f1 f2;have g:=DL.k (k:=oX (BG rs ts x)) hd;rw[h2]at g
 have:=k.len
 have:=D.le
 exact⟨a,g,f1,D.sf f2 (by lia)⟩
variable {f6:Addr}{d6:qy}
inductive VI(vs:List V)(H:Hp)(Q:VK)(_:XK):Prop
 |mk (a b O ta:Addr) (n:Nat) (rs:List AX) (ts:List (List Int)) (F:Rat) (aa:vs=[.ref a,.ref b]) (ac:H a=some (.AG [.int ((n+2:Nat):Int),.ref O,.ref ta])) (ae:BB Bw H O rs) (ag:BB CZ H ta ts) (ad:AR H b F) (af:CO n 14 10 10 rs)
  (ab:∀X,Eb n ((8+10*14+10)*n) rs X->∃p Z N,mf n rs ts X F p Z N/\∀q H',AO H H'->(∀x,AJ (2*rs.length+2) x->Sf (p x))->JE H' q (p (2*(rs.length:Int)+1)) F (Em p (λj=>X j*F) rs)->Q (.ref q) H')
def GU:Ar ["net","fall","levels","lands","sides","rectangles","k","rope","across","upward","width"] ["net","fall"] (Ah s_laid):=Ay
def jb:(["level","fall"]:List Str).Nodup:=by decide +kernel
set_option maxHeartbeats 4000000 in
seal L2.Cy L2.PS L2.PE L2.PA in
def gA (F0:Ak K "laid" "laid" s_laid f fd)(G1:AZ P w K mg base 3 "times" ["one","other"] (CY λx y=>x*y))
  (G2:AZ P w K mg base 5 "heights" ["net"] QX)
  (G3:AZ P w K mg base 4 "land_of" ["turns"] TC)
  (G4:AZ P w K mg base 4 "land_sides" ["lands","widths"] UN)
  (G5:AZ P w K mg base 5 "runnings_by" ["net","levels"] Px)
  (G6:AZ P w K mg base 2 "rising" ["one","other"] Vy)(ml:mg "len" = none)(me:mg "enumerate" = none)(mt:mg "tuple" = none):Ag P w K mg base Ap 6 f fd ["net","fall"] VI:=by
 refine F0.A1 GU λim A _ s H vs Q E hr h=>?_
 obtain⟨a,b,ra,ta,n,rs,ts,F,rfl,ha,bu,b0,hb,nk,qq⟩:=h;have hu:=Fl hr;exists _,AL (Im (i:=2) GU.nd rfl (qr rfl) (Nc:=["level","fall"]) (cap:=[(1,1)]) (g:=BU 0) (te:=Dt (CY λx y=>x*y) [] E0 (BO (Aw 0) (BO (Aw 1) CI))) rfl (Di (AV G2 (AA (pv 0) AD)))
   CU (λ_ _ _ _ _=>B8 (i:=0) jb rfl (qr rfl))
   (λ_ _ _ _ _=>AV G1 (AA (pv 0) (AA (pv 1) AD))))
  (AL (AW 3 GU (AV G3 (AA (pT (pv 0) AB) AD)))
  (AL (AW 4 GU (AV G4 (AA (pv 3) (AA (AV G5 (AA (pv 0) (AA (pv 2) AD))) AD))))
  (AL (AW 5 GU (CG AD))
  (AL (Bg oE rfl (LL (by rfl) me (AA (pT (pv 0) AB) AD)) (Cp (n:=2) rfl (BH (Az 6 GU) (BH (Az 7 GU) Cn)))
   (AL (AW 8 GU (AV G6 (AA (F9 hu (pv 4) (pT (pv 3) (AM CW AB (pv 6)))) (AA (F9 hu (pv 4) (pT (pv 3) (AM BK (AM CW AB (pv 6)) AB))) AD))))
   (AL (AW 9 GU (AV G6 (AA (pL (pv 2) (pT (pv 7) AB)) (AA (pL (pv 2) (pT (pv 7) AB)) AD))))
   (AS (DH (CL oF pJ pK D1 (pv 5) (AA (BS (AA (pT (pv 8) AB) (AA (pT (pv 9) AB) (AA (pT (pv 8) AB) (AA (pT (pv 9) AB) AD))))) AD))))))
  )
  (AL (AW 10 GU (F9 hu (pv 4) (pT (pv 3) (AM BK (AM CW AB (B4 ml (pT (pv 0) AB))) AB))))
  (AS (Ai (BS (AA (pv 10) (AA (pv 1) (AA (Ja mt (pv 5)) AD)))))))))))
  
 have b8:=nk.hb.L9;obtain⟨cs,ay,am⟩:=bu;have lc:cs.length=rs.length:=am.1;refine⟨_,J,a,n,14,10,10,rs,J,⟨ra,_,ha,cs,ay,am⟩,nk,λhp H1 X s1 hX hT=>?_⟩;obtain⟨p,Z,N,ly,q⟩:=qq X hX;have D:=ly.ld;have b6:=D.Ig;obtain⟨bs,a9,hB⟩:=hT;have lb:bs.length=n+2:=by rw[hB.1,nh,oR]
 refine⟨hp,J,⟨_,AH.of a9⟩,λab bd=>?_⟩;refine Cm (IF a9) (by rw[nh];lia) bd (λi ys σ Hq=>∃ds:List Addr,ys=ds.map V.ref/\At AR Hq ds (((og (n+2)).map λj=>X j*F).take i)/\∃u,σ=[u,some (.ref b)]) ⟨[],J,At.nil,none,J⟩ ?_ ?_
 ·rintro i ys σ H3 x H4 hi sm bz ⟨ds,rfl,hD,u,rfl⟩ ⟨rfl,hx⟩ Cc hC;obtain⟨c,xq,rfl,_,hy,hc⟩:=hB.ref hx;have ao:i<n+2:=by rw[nh,lb]at hi;exact hi
  rw[Jv X ao]at hy;cases hy;refine⟨_,J,_,J,c,b,_,_,J,sm _ _ hc,sm _ _ (s1 _ _ hb),ly.hf.hs i ao,ly.hf.sF,λt ht=>?_⟩;have st:=AY ht (.AG [.int (X i*F).num,.int (X i*F).den]);refine hC _ _ _ st ⟨ds++[t],by simp,?_,_,J⟩;rw[Ck (Jv (λj=>X j*F) ao)];exact(hD.keep An (E5 ab st)).snoc (AR.B7 (q:=X i*F) AU (st _ _ bz))
 rintro ys σ H2 s2 bg b7 ⟨gs,rfl,hG,u,rfl⟩;rw[nh,lb,oB (by rw[nh,oR];exact nQ _)]at hG;replace hG:=hG.keep An (Eg H2 ab);have ai:=s1.trans s2;have a5:=ly.nk.Bt;have a4:DC AR H2 ab ((og (n+2)).map λj=>X j*F):=⟨gs,bg,hG⟩;obtain⟨tb,bn,az⟩:=b0;refine⟨_,J,a,_,_,_,J,J,AH.of (ai _ _ ha),FF _ _ _,ta,tb,ts,2*rs.length+2,J,⟨ai _ _ bn,az.1,λi c row e1 e2=>ai _ _ (az.2 i c row e1 e2)⟩,D.tn,by lia,λlp H3 s3 nl av=>?_⟩;rw[gN D.tn]at av;have ah:=ai.trans s3;refine⟨_,J,_,J,_,J,a,ab,n+2,rs,(λj=>X j*F),J,⟨ra,_,ah _ _ ha,cs,ah _ _ ay,am.keep Df ah⟩,VZ s3 (.l a4),by lia,λr hr=>?_,λwp H4 s4 b3=>?_⟩
 ·obtain⟨r1,r2⟩:=a5 r hr;exact⟨r1,r2,ly.hf.ys _ r1,ly.hf.ys _ r2,ly.hf.ds r hr,ly.hf.es r hr⟩
 refine⟨lp,wp,rs,ts,_,p,Z,N,J,s4 _ _ av,b3,D,λd l H5 s5 aj ag ak=>?_⟩;have aw:=s4.trans s5;have ae:=ah.trans aw;have ax:=aw _ _ av;have be:=ND (R:=AR) (λs h=>An s h) (s3.trans aw) a4;obtain⟨b9,a2,a1⟩:=be;have a0:=ae _ _ ha;have aq:=ae _ _ ay;have bc:=am.keep Df ae;have bi:=ae _ _ hb;refine⟨by exact Gh,λR hR=>?_⟩;refine BF hR (.AE []) λH6 s6 zz=>?_
 have e6:H6 R=some (.AE (([]:List Addr).map V.ref)):=zz;exists _,J,a,_,_,_,J,J,AH.of (s6 _ _ a0),Eo _ _ _,ra,_,J,s6 _ _ aq;refine K4 (xs:=cs.map V.ref) (λi σ H7=>∃u6 u7 u8 u9 ds,σ=[some (.ref a),some (.ref b),some (.ref ab),some (.ref lp),some (.ref d),some (.ref R),u6,u7,u8,u9,none]/\AO H5 H7/\H7 R=some (.AE (ds.map V.ref))/\At (BB AR) H7 ds ((Em p (λj=>X j*F) rs).take i))
  ⟨none,none,none,none,[],J,s6,e6,At.nil⟩ (λi σ H7 _ ⟨_,_,_,_,_,_,O,_⟩=>O _ _ aq) ?_ ?_
 ·rintro i x σ H7 tp hx ⟨u6,u7,u8,u9,ds,rfl,O,eR,hD⟩ bl;obtain⟨c,r,rfl,_,hy,e,hc,he⟩:=bc.ref hx;have il:=(nq.mp hy).1;obtain⟨r1,r2⟩:=a5 r (nz hy);refine BF bl (.AG [.int (i:Int),.ref c]) λH8 s8 e8=>?_
  have ad:=O.trans s8;have bm:=s8 _ _ eR;have bv:=hD.keep (λs h=>Fb (R:=AR) (λs h=>An s h) s h) s8;have i0:AJ (2*rs.length+2) (2*(i:Int)):=⟨by lia,by push_cast;lia⟩;have i1:AJ (2*rs.length+2) (2*(i:Int)+1):=⟨by lia,by push_cast;lia⟩;obtain⟨ar,gr,fr,sr⟩:=D.GW (ag.keep ad) ak (ad _ _ aj) i0;obtain⟨al,gl,fl,sl⟩:=D.GW (ag.keep ad) ak (ad _ _ aj) i1;exists tp,_,J,AH.of e8,J,_,_,J,_,_,J,rfl;refine⟨_,J,_,J,_,J,_,_,J,J,.inl ⟨by decide,by decide⟩,lp,_,_,_,J,J,AH.of (ad _ _ ax),Pf (by lia),d,_,J,gr,
   _,J,_,J,_,J,_,_,J,J,.inl ⟨by decide,by decide⟩,_,_,J,J,lp,_,_,_,J,J,AH.of (ad _ _ ax),PR (by lia),d,_,J,gl,ar,al,_,_,J,fr,fl,sr,sl,λac c0 c2 ba h0 h2=>?_⟩
  refine BF ba (.AG [.ref c0,.ref c2]) λH9 s9 e9=>?_
  have aa:=ad.trans s9;have bo:=s9 _ _ bm;have br:=An s9 h0;have bh:=An s9 h2;have bw:=bv.keep (λs h=>Fb (R:=AR) (λs h=>An s h) s h) s9;obtain⟨x1,g1,y1⟩:=a1.get (Jv (λj=>X j*F) r1);obtain⟨x2,g2,y2⟩:=a1.get (Jv (λj=>X j*F) r2);refine⟨_,J,_,J,c,_,_,_,J,J,AH.of (aa _ _ hc),GY _ _ _,ab,_,_,_,J,J,AI.of (aa _ _ a2),BQ (C9 g1),_,J,_,J,c,_,_,_,J,J,AH.of (aa _ _ hc),Eo _ _ _,ab,_,_,_,J,J,AI.of (aa _ _ a2),BQ (C9 g2),
   x1,x2,_,_,J,An aa y1,An aa y2,ly.hf.ys _ r1,ly.hf.ys _ r2,λup c1 c3 b5 h1 h3=>?_⟩
  refine BF b5 (.AG [.ref c1,.ref c3]) λHA sA eA=>?_
  have bj:=aa.trans sA;have a8:=sA _ _ bo;have bq:=An sA br;have b4:=An sA bh;have bb:=An sA h1;have bp:=An sA h3;have a7:=sA _ _ e9;have bt:=bw.keep (λs h=>Fb (R:=AR) (λs h=>An s h) s h) sA;refine⟨_,J,.inl ⟨J,_,AI.of a8⟩,_,J,ac,_,_,_,J,J,AH.of a7,BE,_,J,up,_,_,_,J,J,AH.of eA,BE,_,J,ac,_,_,_,J,J,AH.of a7,As,_,J,up,_,_,_,J,J,AH.of eA,As,by exact mY,λbx b2=>?_⟩;have sB:=AY b2 (.AG [.ref c0,.ref c1,.ref c2,.ref c3]);have tB:BB AR (AF HA bx (.AG [.ref c0,.ref c1,.ref c2,.ref c3])) bx (EV p (λj=>X j*F) i r):=cC AU (An sB bq) (An sB bb) (An sB b4) (An sB bp);have a3:=bj.trans sB;have ap:=sB _ _ a8;have au:=bt.keep (λs h=>Fb (R:=AR) (λs h=>An s h) s h) sB;generalize AF HA bx (.AG [.ref c0,.ref c1,.ref c2,.ref c3])=HB at sB tB a3 ap au;refine⟨R,_,_,J,J,ap,by rw[nh,au.1,pS];exact DD (by lia),?_⟩;refine⟨_,_,_,_,ds++[bx],J,a3.up hR _,by rw[AU];simp,?_⟩;rw[Ck (J5 hy)];exact fv ap (au.snoc tB)
 ·rintro σ H7 ⟨u6,u7,u8,u9,ds,rfl,O,eR,hD⟩;rw[nh,lc,oB (by rw[Jy];exact nQ _)]at hD;have io:AJ (2*rs.length+2) (2*(rs.length:Int)+1):=⟨by lia,by push_cast;lia⟩;obtain⟨wa,gw,fw,sw⟩:=D.GW (ag.keep O) ak (O _ _ aj) io;exists _,J,_,J,_,J,a,_,_,_,J,J,AH.of (O _ _ a0),Eo _ _ _,ra,_,J,.inr (AH.of (O _ _ aq));rw[nh,lc];refine⟨_,_,J,J,.inl ⟨by decide,by decide⟩,_,_,J,J,lp,_,_,_,J,J,AH.of (O _ _ ax),PR (nQ _),d,_,J,gw,?_⟩;refine⟨_,J,_,J,_,J,R,_,J,.inl ⟨AI.of eR,λrc bf=>⟨by exact GA,λq1 a6=>?_⟩⟩⟩;obtain⟨H8,zg,s8,e8⟩:=nw bf (.AG (ds.map V.ref));rw[zg]at a6 ⊢;have s9:=AY a6 (.AG [.ref wa,.ref b,.ref rc]);have af:=s8.trans s9;exact q q1 _ ((ae.trans O).trans af) (λx hx=>by obtain⟨_,_,_,z⟩:=D.GW (ag.keep O) ak (O _ _ aj) hx;exact z) ⟨wa,b,rc,AU,An af fw,af _ _ (O _ _ bi),ds,s9 _ _ e8,hD.keep (λs h=>Fb (R:=AR) (λs h=>An s h) s h) af⟩
end
end My
namespace My
open PySem L2 Mth Wd
section
variable {P:o6}{w:World}{K:nT}{mg:Str->Option Value}{base:Heap}{f g h f1 f2 f3:Addr}{fd gd hd d1 d2 d3:qy}
inductive Nf(vs:List V)(H:Hp)(Q:VK)(_:XK):Prop
 |mk (p:Addr) (q:Rat) (aa:vs=[.ref p]) (O:AR H p q) (F:∀H',AO H H'->Q (.bl true) H')
def lE:Ar ["_law_found"] ["_law_found"] (Ah s_law_is_fraction):=Ay
def jS (F:Ak K "_law_is_fraction" "_law_is_fraction" s_law_is_fraction f fd)(G1:AZ P w K mg base 2 "_law_row" ["_law_found","_law_many"] Vp)
  (G2:AZ P w K mg base 1 "_law_divisor" ["_law_a","_law_b"] QN)(ma:mg "abs" = none):Ag P w K mg base Ap 3 f fd ["_law_found"] Nf:=by
 refine F.A1 lE λim A _ s H vs Q E hr h=>?_
 obtain⟨p,y,rfl,hp,q⟩:=h;exists _,AS (Ai (J8 (AV G1 (AA (pv 0) (AA AB AD)))
  (J8 (Dc HR (pT (pv 0) AB) AB)
   (KJ (Dc DX (AV G2 (AA (Bu Mc (by rfl) ma QB (AA (pT (pv 0) AB) AD)) (AA (pT (pv 0) AB) AD))) AB)))))
 have yd:=y.den_nz;refine⟨_,J,p,[y.num,(y.den:Int)],2,J,hp,J,by show 2<=1000;decide,λH1 s1=>⟨_,J,D8 ?_⟩⟩;have O:AR H1 p y:=s1 _ _ hp;refine⟨_,J,p,_,_,_,J,J,AH.of O,As,_,_,J,J,_,J,C3 (by lia) ?_⟩;refine⟨_,J,p,_,_,_,J,J,AH.of O,BE,y.num,J,_,J,p,_,_,_,J,J,AH.of O,As,_,_,J,by split<;>lia,by lia,J,?_⟩;have e:pU (if y.num<0 then -y.num else y.num) (y.den:Int)=1:=by
  rw[gj]
  have:=y.reduced
  unfold xM at this;unfold pU;simpa using this
 rw[e];exact q H1 s1
def US(n:Nat):(nY n true).all id=true:=by simp
inductive Qb(vs:List V)(H:Hp)(Q:VK)(_:XK):Prop
 |mk (p:Addr) (F:List Rat) (m:Int) (ac:vs=[.ref p,.int m]) (aa:BB AR H p F) (O:m=F.length) (ab:F.length<=1000) (ad:∀H',AO H H'->Q (.bl true) H')
def kO:Ar ["_law_found","_law_many"] ["_law_found","_law_many"] (Ah s_law_fractions_are):=Ay
def kJ (F : Ak K "_law_fractions_are" "_law_fractions_are" s_law_fractions_are f fd) (G : AZ P w K mg base 3 "_law_is_fraction" ["_law_found"] Nf) (ms : mg "isinstance" = none) (mt : mg "tuple" = none)
    (ml:mg "len" = none) (ma:mg "all" = none):Ag P w K mg base Ap 4 f fd ["_law_found","_law_many"] Qb:=by
  refine F.A1 kO λim A _ s H vs Q E hr h => ?_
  obtain⟨p, qs, m, rfl, ⟨ts, O, hT⟩, rfl, hn, q⟩ := h;have lt : ts.length = qs.length := hT.1;exists _, AL (BL (PW.pt (EO (Ei (C1 (Bu (J0 (c := .ty "tuple") (cv := .type "tuple") λ_ z => z) (by rfl) ms Jm (AA (pv 0) (AA (J7 (v := .ty "tuple") (by rfl) mt EH rfl) AD)))))
        (FA (BP Fj (B4 ml (pv 0)) (pv 1))))) (AS (Ai GR)) BR)
    (AS (Ai (Bu (OZ rfl) (by rfl) ma QE (AA (DR (Nc := ["_law_one"]) (cap := []) (g := BU 0) (te := Dt Nf [] E0 (BO (Aw 0) CI)) rfl (Di (pv 0))
      CU (λ_ _ _ _ _=>B8 (i:=0) QO rfl (qr rfl)) (λ_ _ _ _ _=>AV G (AA (pv 0) AD))) AD))))
  refine⟨_,rfl,_,_,_,rfl,DW.AG O,LA K _,_,rfl,Bj ?_⟩;exists _,rfl,p,_,rfl,.inr (AH.of O),_,rfl,rfl,_,rfl;refine GP (by rw[nh,lt]) ?_;refine⟨_,rfl,p,rfl,⟨_,AH.of O⟩,λac ab => ?_⟩;refine Cm (IF O) (by rw[nh];lia) ab (λi ys σ _=>ys=(nY i true).map V.bl /\ ∃u,σ=[u]) ⟨J,none,rfl⟩ ?_ ?_
  · rintro i ys σ H2 x H3 hi sm ae ⟨aa,u,rfl⟩ ⟨rfl,hx⟩ C ad;obtain⟨t,y,rfl,_,_,ht⟩:=hT.ref hx;refine⟨_,rfl,t,y,rfl,sm _ _ ht,λH4 s4 => ?_⟩;refine ad _ _ _ s4 ⟨?_,_,rfl⟩;rw[aa,uj,oh];rfl
  rintro ys σ H2 s2 g2 _ ⟨aa,_⟩;refine⟨ac,_,rfl,AI.of (by rw[g2,aa]),?_⟩;rw[US];exact q _ s2
inductive WB(vs:List V)(H:Hp)(Q:VK)(_:XK):Prop
 |mk (p:Addr) (W U:Rat) (F:List (List Rat)) (m:Int) (ac:vs=[.ref p,.int m]) (ab:JE H p W U F) (O:(∀r∈F,r.length=4)) (ad:m=F.length) (ae:F.length<=1000) (aa:∀H',AO H H'->Q (.bl true) H')
def jZ:Ar ["_law_found","_law_many"] ["_law_found","_law_many"] (Ah s_law_is_floor):=Ay
def ig (F : Ak K "_law_is_floor" "_law_is_floor" s_law_is_floor f fd) (G : AZ P w K mg base 4 "_law_fractions_are" ["_law_found", "_law_many"] Qb) (ms : mg "isinstance" = none) (mt : mg "tuple" = none)
    (ml:mg "len" = none) (ma:mg "all" = none):Ag P w K mg base Ap 5 f fd ["_law_found","_law_many"] WB:=by
  refine F.A1 jZ λim A _ s H vs Q E hr h => ?_
  obtain⟨a, W, U, af, m, rfl, ⟨p, O, r, ha, fW, fU, fR⟩, n4, rfl, al, q⟩ := h;obtain⟨cs, ah, hC⟩ := id fR;have lc : cs.length = af.length := hC.1;exists _, AL (BL (PW.pt (EO (Ei (C1 (Bu (J0 (c := .ty "tuple") (cv := .type "tuple") λ_ z => z) (by rfl) ms Jm (AA (pv 0) (AA (J7 (v := .ty "tuple") (by rfl) mt EH rfl) AD)))))
        (EO (BP Fj (B4 ml (pv 0)) AB)
        (FA (Ei (C1 (AV G (AA (E4 ML (pv 0) FY (Ef AB)) (AA AB AD))))))))) (AS (Ai GR)) BR)
    (AL (BL (PW.pt (EO (Ei (C1 (Bu (J0 (c := .ty "tuple") (cv := .type "tuple") λ_ z => z) (by rfl) ms Jm (AA (pT (pv 0) AB) (AA (J7 (v := .ty "tuple") (by rfl) mt EH rfl) AD)))))
        (FA (BP Fj (B4 ml (pT (pv 0) AB)) (pv 1))))) (AS (Ai GR)) BR)
    (AS (Ai (Bu (OZ rfl) (by rfl) ma QE (AA (DR (Nc := ["_law_one"]) (cap := []) (g := BU 0) (te := Dt Qb [] E0 (BO (Aw 0) (BO (tC (.int 4)) CI))) rfl (Di (pT (pv 0) AB))
      CU (λ_ _ _ _ _=>B8 (i:=0) QO rfl (qr rfl)) (λ_ _ _ _ _=>AV G (AA (pv 0) (AA AB AD)))) AD)))))
  refine⟨_,rfl,_,_,_,rfl,DW.AG ha,LA K _,_,rfl,Bj ?_⟩;refine⟨_,rfl,a,_,rfl,.inr (AH.of ha),rfl,_,rfl,GP rfl ?_⟩;refine⟨_,rfl,2,rfl,a,_,rfl,AH.of ha,λz => ?_,λp1 ai => ?_⟩
  · have:=z.2;rw[V3 (by show 2<=3;decide)]at this;cases this
  rw[show C5 [V.ref p,.ref O,.ref r] none (some 2)=[p,O].map V.ref by rw[show(some (2:Int))=some ((2:Nat):Int) from rfl,K6 _ (by show 2<=3;decide)];rfl];refine BF ai (.AG ([p,O].map V.ref)) λH1 s1 e1 => ?_
  have a1:At AR H1 [p,O] [W,U]:=(At.nil.snoc (R:=AR) (b:=p) (x:=W) (s1 _ _ fW)).snoc (b:=O) (x:=U) (s1 _ _ fU);refine⟨p1,[W,U],2,rfl,⟨_,e1,a1⟩,rfl,by show 2<=1000;decide,λH2 s2=>⟨_,rfl,Bj ?_⟩⟩;have aa:=s1.trans s2;have ac:=aa _ _ ha;have ab:=aa _ _ ah;refine⟨_,rfl,a,_,_,_,rfl,rfl,AH.of ac,FF _ _ _,_,_,_,rfl,DW.AG ab,LA K _,_,rfl,Bj ?_⟩;refine⟨_,rfl,a,_,_,_,rfl,rfl,AH.of ac,FF _ _ _,r,_,rfl,.inr (AH.of ab),_,rfl,rfl,_,rfl,GP (by rw[nh,lc]) ?_⟩;refine⟨_,rfl,a,_,_,_,rfl,rfl,AH.of ac,FF _ _ _,r,rfl,⟨_,AH.of ab⟩,λag ae => ?_⟩;refine Cm (IF ab) (by rw[nh];lia) ae (λi ys σ _=>ys=(nY i true).map V.bl /\ ∃u,σ=[u]) ⟨J,none,rfl⟩ ?_ ?_
  · rintro i ys σ H3 x H4 hi sm ak ⟨ad,u,rfl⟩ ⟨rfl,hx⟩ C aj;obtain⟨t,y,rfl,_,hy,ht⟩:=hC.ref hx;have ny:=n4 y (nz hy);refine⟨_,rfl,t,y,4,rfl,GQ (aa.trans sm) ht,by rw[ny];rfl,by lia,λH5 s5 => ?_⟩;refine aj _ _ _ s5 ⟨?_,_,rfl⟩;rw[ad,uj,oh];rfl
  rintro ys σ H3 s3 g3 _ ⟨ad,_⟩;refine⟨ag,_,rfl,AI.of (by rw[g3,ad]),?_⟩;rw[US];exact q _ (aa.trans s3)
end
def F8(q:Rat):qA:=.tuple [.int q.num,.int (q.den:Int)]
def jM(q:Rat):(F8 q).canLay0=true:=by
 simp only[F8,zK];refine Pg λd hd=>?_
 simp only[oj,pB,qK]at hd;rcases hd with rfl|rfl<;>rfl
def eK(q:Rat):(F8 q).depth<=2:=by simp[F8,w6,w8]
def Ni(h:AR H p q):EE H (.ref p) (F8 q):=by
 refine .AG h rfl λi x d F O=>?_
 match i,F,O with
 |0,F,O=>cases F;cases O;exact .int _
 |1,F,O=>cases F;cases O;exact .int _
 |n+2,F,O=>simp at F
abbrev IW(W U:Rat)(F:List (List Rat)):List Rat:=W :: U :: F.flatten
def VY:∀{F:List (List Rat)},(∀r∈F,r.length=4)->F.flatten.length=4*F.length
 |[],_=>rfl
 |r :: F,h=>by
  rw[oQ,oa,h r (by simp),VY (λx O=>h x (by simp[O])),oP];lia
section
variable {P:o6}{w:World}{K:nT}{mg:Str->Option Value}{base:Heap}{f g h:Addr}{fd gd hd:qy}
inductive V5(vs:List V)(H:Hp)(Q:VK)(_:XK):Prop
 |mk (a:Addr) (F:List Rat) (Z:Int) (ae:vs=[.ref a]) (ab:DC AR H a F) (O:∀q∈F,(q.den:Int) ∣ Z) (ac:0<Z) (ad:Z.natAbs<=2 ^ 3900) (aa:Q (.int (cb F)) H)
def aE(F:Ak K "common_bottom" "common_bottom" sCBot f fd)(G:AZ P w K mg base 1 "common_part" ["one","other"] Na):Ag P w K mg base Ap 2 f fd ["row"] V5:=by
 refine F.A1 IS λim A _ s H vs Q E hr h=>?_
 obtain⟨a,O,Z,rfl,⟨bs,ha,hA⟩,hd,Z0,hZ,q⟩:=h;exists _,AL (AW 1 IS AB)
  (AL (Bg oE rfl (EN (pv 0)) (Az 2 IS)
   (AS (AW 1 IS (AM CK (AM FV (pv 1) (AV G (AA (pv 1) (AA (pT (pv 2) AB) AD)))) (pT (pv 2) AB)))))
  (AS (Ai (pv 1))))
 exists _,J,a,J,⟨_,AI.of ha⟩;refine Ow (xs:=bs.map V.ref) (λi σ H2=>∃u,H2=H/\σ=[some (.ref a),some (.int ((O.take i).foldl CT 1)),u]) ⟨none,J,J⟩ (λi σ H2 _ ⟨_,e,_⟩=>by rw[e];exact AI.of ha) ?_ ?_
 ·rintro i x σ H2 hx ⟨u,rfl,rfl⟩;obtain⟨b,y,rfl,_,hy,hB⟩:=hA.ref hx;have ym:=nz hy;have bg:∀{z:Int},0<z->z ∣ Z->BN z:=λ{z} z0 hz=>Ft (n:=3900) (oC (vC (by lia) (wH.mpr hz)) hZ) (by decide)
  have c1:0<(O.take i).foldl CT 1:=(LX (O.take i)).1;have c2:(O.take i).foldl CT 1 ∣ Z:=QM _ (by decide) (zp _) λp hp=>hd p (vw hp)
  generalize hc:(O.take i).foldl CT 1=c at *;have yd:=y.den_nz;have g0:0<(pU c y.den:Int):=by have:=tL (y.den:Int) (show c≠0 by lia);lia
  have gd:(pU c y.den:Int) ∣ c:=uB ..;have k1:=bg c1 c2;have k2:=bg (z:=(y.den:Int)) (by lia) (hd y ym);have k3:=bg g0 (x9 gd c2);have e1:c.fdiv (pU c y.den:Int) ∣ c:=by rw[qd gd];exact Int.ediv_dvd_of_dvd gd
  have e2:0<c.fdiv (pU c y.den:Int):=by rw[qd gd];exact Int.ediv_pos_of_pos_of_dvd c1 (by lia) gd
  have aa:H2 b=some (.AG [.int y.num,.int y.den]):=hB;exists _,J,_,J,_,J,b,_,_,_,J,J,AH.of aa,As,c,_,rfl;refine⟨_,_,J,J,⟨by lia,k3⟩,_,J,b,_,_,_,J,J,AH.of aa,As,_,_,J,J,⟨bg e2 (x9 e1 c2),k2⟩,?_⟩;exists some (.ref b),rfl;rw[Ck hy,we];show _=[some (V.ref a),some (.int (CT ((O.take i).foldl CT 1) y)),some (.ref b)];rw[hc];rfl
 ·rintro σ H2 ⟨u,rfl,rfl⟩;exists _,rfl;rw[nh,hA.1,qc];exact q
inductive Wo(vs:List V)(H:Hp)(Q:VK)(_:XK):Prop
 |mk (a:Addr) (W U:Rat) (F:List (List Rat)) (ad:vs=[.ref a]) (aa:JE H a W U F) (O:F.length<=40) (ab:∀r∈F,r.length=4) (ac:∀p H',AO H H'->DC AR H' p (IW W U F)->Q (.ref p) H')
def Qo:Ar ["floor","numbers","rectangle"] ["floor"] (Ah s_numbers_of):=Ay
def dX(F:Ak K "numbers_of" "numbers_of" s_numbers_of f fd)(af:mg "list" = none):Ag P w K mg base Ap 1 f fd ["floor"] Wo:=by
 refine F.A1 Qo λim A _ s H vs Q E hr h=>?_
 obtain⟨a,W,U,ab,rfl,⟨p,q0,r,ha,hW,hU,bs,ad,hB⟩,hl,h4,q⟩:=h;exists _,AL (AW 1 Qo (CG (AA (pT (pv 0) AB) (AA (pT (pv 0) AB) AD))))
  (AL (Bg oE rfl (Di (pT (pv 0) AB)) (Az 2 Qo)
   (AS (DH (CL oF yS yT R9 (pv 1) (AA (EG UD (by rfl) af LC (AA (pv 2) AD)) AD)))))
  (AS (Ai (pv 1))))
 refine⟨_,J,a,_,_,_,J,J,AH.of ha,GY _ _ _,_,J,a,_,_,_,J,J,AH.of ha,Eo _ _ _,by exact Bk,λL hL=>?_⟩;refine BF hL (.AE [.ref p,.ref q0]) λH1 s1 zz=>?_
 have e1:H1 L=some (.AE ([p,q0].map V.ref)):=zz;have lb:bs.length=ab.length:=hB.1;exists _,J,a,_,_,_,J,J,AH.of (s1 _ _ ha),FF _ _ _,r,J,⟨_,AH.of (s1 _ _ ad)⟩;refine ID (xs:=bs.map V.ref) (λi σ H2=>AO H H2/\∃(u:Option V) (cs:List Addr),σ=[some (.ref a),some (.ref L),u]/\H2 L=some (.AE (cs.map V.ref))/\At AR H2 cs (W :: U :: (ab.take i).flatten))
  ⟨s1,none,[p,q0],J,e1,(At.nil.snoc (R:=AR) (b:=p) (x:=W) (s1 _ _ hW)).snoc (b:=q0) (x:=U) (s1 _ _ hU)⟩ (λi σ H2 _ ⟨O,_⟩=>AH.of (O _ _ ad)) ?_ ?_
 ·rintro i x σ H2 hx ⟨O,u,cs,rfl,aa,hC⟩;obtain⟨b,row,rfl,_,ac,es,ae,hE⟩:=hB.ref hx;have hi:i<ab.length:=(nq.mp ac).1;have le:es.length=4:=by rw[hE.1];exact h4 row (nz ac)
  have lc:cs.length=2+4*i:=by
   rw[hC.1,oP,oP,VY (λx hx=>h4 x (vw hx)),pS];lia
  refine⟨_,J,.inl ⟨J,_,AI.of aa⟩,_,J,b,_,J,.inr (AH.of (O _ _ ae)),λlf ag=>?_⟩;refine BF ag (.AE (es.map V.ref)) λH3 s3 e3=>?_
  refine⟨L,lf,_,_,J,J,s3 _ _ aa,e3,by rw[nh,nh];exact Dk (by lia),?_⟩;exists (O.trans s3).up hL _,_,cs++es,J,by rw[AU];simp
  have:=(hC.keep An s3).OD (hE.keep An (O.trans s3))
  rw[Ck ac,pW,oQ,vt,qE];exact P5 this (s3 _ _ aa) _
 ·rintro σ H2 ⟨O,u,cs,rfl,aa,hC⟩;rw[nh,lb,qc]at hC;exact⟨_,J,q L H2 O ⟨cs,aa,hC⟩⟩
inductive Wa(vs:List V)(H:Hp)(Q:VK)(_:XK):Prop
 |mk (a:Addr) (b:Int) (W U:Rat) (F:List (List Rat)) (O:vs=[.ref a,.int b]) (aa:JE H a W U F) (ac:F.length<=40) (ae:∀r∈F,r.length=4) (ab:∀q∈IW W U F,BN q.num/\BN (q.den:Int)/\BN (b.fdiv q.den))
  (ad:∀p l H',AO H H'->H' p=some (.AG [.int (wh b W),.int (wh b U),.ref l])->DC Bo H' l (F.map λr=>r.map (wh b))->Q (.ref p) H')
def WN:Ar ["floor","bottom","sides"] ["floor","bottom"] (Ah s_whole_floor):=Ay
def kB:(["rectangle","bottom"]:List Str).Nodup:=by decide +kernel
def jq(F:Ak K "whole_floor" "whole_floor" s_whole_floor f fd)(G1:AZ P w K mg base 1 "wholes" ["row","bottom"] K9):
  Ag P w K mg base Ap 2 f fd ["floor","bottom"] Wa:=by
 refine F.A1 WN λim A _ s H vs Q E hr h=>?_
 obtain⟨a,b,W,U,ab,rfl,⟨p,q0,r,ha,hW,hU,bs,ae,hB⟩,hl,h4,hsz,q⟩:=h;exists _,AL (AW 2 WN (AV G1 (AA (E4 ML (pv 0) FY (Ef AB)) (AA (pv 1) AD))))
  (AS (Ai (BS (AA (pL (pv 2) AB) (AA (pL (pv 2) AB) (AA
   (DR (Nc:=["rectangle","bottom"]) (cap:=[(1,1)]) (g:=BU 0) (te:=Dt K9 [] E0 (BO (Aw 0) (BO (Aw 1) CI))) rfl (Di (pT (pv 0) AB)) CU
   (λ_ _ _ _ _=>B8 (i:=0) kB rfl (qr rfl)) (λ_ _ _ _ _=>AV G1 (AA (pv 0) (AA (pv 1) AD)))) AD))))))
 refine⟨_,J,2,J,a,_,J,AH.of ha,λz=>?_,λp1 aj=>?_⟩
 ·have:=z.2
  rw[V3 (by show 2<=3;decide)]at this;cases this
 rw[show C5 [V.ref p,.ref q0,.ref r] none (some 2)=[p,q0].map V.ref by rw[show(some (2:Int))=some ((2:Nat):Int) from rfl,K6 _ (by show 2<=3;decide)];rfl];refine BF aj (.AG ([p,q0].map V.ref)) λH1 s1 e1=>?_
 have a1:At AR H1 [p,q0] [W,U]:=(At.nil.snoc (R:=AR) (b:=p) (x:=W) (s1 _ _ hW)).snoc (b:=q0) (x:=U) (s1 _ _ hU);refine⟨_,J,p1,[W,U],b,J,⟨_,e1,a1⟩,by show 2<=1000;decide,λy hy=>hsz y (by simp only[oj,pB,qK]at hy;rcases hy with rfl|rfl<;>simp),λl2 H2 s2 _ ah=>?_⟩;have af:H2 l2=some (.AE [.int (wh b W),.int (wh b U)]):=ah;have aa:=s1.trans s2;have lb:bs.length=ab.length:=hB.1;exists _,J,l2,_,_,_,J,J,AI.of af,BE,_,J,l2,_,_,_,J,J,AI.of af,As;refine⟨_,J,a,_,_,_,J,J,AH.of (aa _ _ ha),FF _ _ _,r,J,⟨_,AH.of (aa _ _ ae)⟩,λO ag=>?_⟩;refine Cm (IF (aa _ _ ae)) (by rw[nh];lia) ag (λi ys σ hp=>∃gs:List Addr,ys=gs.map V.ref/\At Bo hp gs ((ab.map λr=>r.map (wh b)).take i)/\∃u,σ=[u,some (.int b)]) ⟨[],J,At.nil,none,J⟩ ?_ ?_
 ·rintro i ys σ H3 z H4 hi sm ac ⟨gs,rfl,hG,u,rfl⟩ ⟨rfl,hx⟩ Cc hC;obtain⟨c,row,rfl,_,ad,hR⟩:=hB.ref hx;have rm:row∈ab:=nz ad;refine⟨_,J,_,J,c,row,b,J,GQ (aa.trans sm) hR,by rw[h4 row rm];lia,λy hy=>hsz y (by simp only[oj];exact .inr (.inr (oI.mpr ⟨row,rm,hy⟩))),λp5 H5 s5 np hp=>?_⟩;refine hC _ _ _ s5 ⟨gs++[p5],by simp,?_,_,J⟩;have ne:p5≠O:=λz=>by rw[z,ac]at np;cases np
  rw[Ck (show(ab.map λr=>r.map (wh b))[i]?=some (row.map (wh b)) by rw[nV,ad];rfl)];exact(hG.keep Dr (E5 O s5)).snoc (Gz hp ne)
 rintro ys σ2 H3 s3 ac ak ⟨gs,rfl,hG,u,rfl⟩;rw[nh,lb,oB (by rw[nh];lia)]at hG;refine⟨by exact GA,λpp ai=>?_⟩;have s4:=AY ai (.AG [.int (wh b W),.int (wh b U),.ref O]);exact q pp O _ (aa.trans (s3.trans s4)) AU ⟨gs,s4 _ _ ac,(hG.keep Dr (Eg H3 O)).keep Dr s4⟩
end
end My
namespace L2
open PySem PySem.Spec PyProof.Rows
section
variable {X:Cx}{K:nT}{P:o6}{w:World}
def cW(hc:X.Cd=true)(h:X.K=K:=by rfl)(O:X.prog=P:=by rfl)(F:X.w=w:=by rfl):CQ X (.type "set") (λxs H Q=>∃(p:Addr) (ns:List Int),xs=[.ref p]/\AI K H p (ns.map V.int)/\ns.length<=1000/\∀a,H a=none->Q (.ref a) (AF H a (Kc P w a (DA ns)))):=by
 subst h O F;exact Y1 hc
def fZ(O:X.Cd=true)(hp:X.prog=P:=by rfl)(hw:X.w=w:=by rfl):CQ X (.builtin "sorted") (λxs H Q=>∃(a:Addr) (ks:List Int),xs=[.ref a]/\H a=some (Kc P w a ks)/\ks.length<64/\∀(l:Addr) (F:List Int),H l=none->F.Perm ks->F.Pairwise (·<=·)->Q (.ref l) (AF H l (.AE (F.map V.int)))):=by
 subst hp hw;exact YA O
end
end L2
namespace My
open PySem L2 Mth Wd
variable {xs:List Int}{j:Nat}
structure Bx where
 l:Int
 d:Int
 r:Int
 u:Int
def EX(H:Hp)(a:Addr)(b:Bx):Prop:=H a=some (.AE [.int b.l,.int b.d,.int b.r,.int b.u])
def gu:Mo EX:=λs h=>s _ _ h
def NQ(s:AO H H')(h:DC EX H a bs):DC EX H' a bs:=ND (R:=EX) (λs h=>gu s h) s h
structure OB(m n:Int)(bs:List Bx):Prop where
 ok:∀b∈bs,(b.l<b.r/\b.d<b.u)\/(b.l=b.r/\b.d=b.u)
 Fv:∀b∈bs,0<=b.l/\0<=b.d/\b.r<=m/\b.u<=n
 nF:∀(i j:Nat) (b c:Bx),i<j->bs[i]?=some b->bs[j]?=some c->max b.l c.l<min b.r c.r->max b.d c.d<min b.u c.u->False
 m5:∀x y,0<=x->x<m->0<=y->y<n->∃b∈bs,b.l<=x/\x<b.r/\b.d<=y/\y<b.u
def FE{a b c d:V}:Bc [a,b,c,d] 0=some a:=BQ (j:=0) rfl
def Ge{a b c d:V}:Bc [a,b,c,d] 1=some b:=BQ (j:=1) rfl
def FL{a b c d:V}:Bc [a,b,c,d] 2=some c:=BQ (j:=2) rfl
def Gd{a b c d:V}:Bc [a,b,c,d] 3=some d:=BQ (j:=3) rfl
section
variable {P:o6}{w:World}{K:nT}{mg:Str->Option Value}{base:Heap}{f g h:Addr}{fd gd hd:qy}
inductive WG(vs:List V)(H:Hp)(Q:VK)(_:XK):Prop
 |mk (a:Addr) (b:Bx) (ab:vs=[.ref a]) (O:EX H a b) (F:(b.l<b.r/\b.d<b.u)\/(b.l=b.r/\b.d=b.u)) (aa:Q (.bl false) H)
def mK:Ar ["rectangle"] ["rectangle"] (Ah s_is_neither):=Ay
def jo(F:Ak K "is_neither" "is_neither" s_is_neither f fd):Ag P w K mg base Ap 1 f fd ["rectangle"] WG:=by
 refine F.A1 mK λim A _ s H vs Q E hr h=>?_
 obtain⟨a,b,rfl,O,hb,q⟩:=h;exists _,AL (BL (PW.pt (EO (BP HR (pL (pv 0) AB) (pL (pv 0) AB))
   (FA (BP HR (pL (pv 0) AB) (pL (pv 0) AB))))) D2 BR)
  (AS (Ai (Dc Fj (Dc DX (pL (pv 0) AB) (pL (pv 0) AB))
   (Dc DX (pL (pv 0) AB) (pL (pv 0) AB)))))
 refine⟨_,J,a,_,_,_,J,J,AI.of O,FE,_,J,a,_,_,_,J,J,AI.of O,FL,_,_,J,J,_,J,CH (by lia) ?_⟩;refine⟨_,J,a,_,_,_,J,J,AI.of O,Ge,_,J,a,_,_,_,J,J,AI.of O,Gd,_,_,J,J,_,J,CH (by lia) ?_⟩;exists _,J,a,_,_,_,J,J,AI.of O,FE,_,J,a,_,_,_,J,J,AI.of O,FL,J,_,J,a,_,_,_,J,J,AI.of O,Ge,_,J,a,_,_,_,J,J,AI.of O,Gd,J,rfl;have e:decide (V.int b.l=V.int b.r)=decide (V.int b.d=V.int b.u):=by
  rcases hb with ⟨h1,h2⟩|⟨h1,h2⟩
  ·rw[qi (EB (by lia)),qi (EB (by lia))]
  ·rw[pR (iv h1),pR (iv h2)]
 rw[e,pR rfl];exact q
inductive Vi(vs:List V)(H:Hp)(Q:VK)(_:XK):Prop
 |mk (a:Addr) (b:Bx) (m n:Int) (ab:vs=[.ref a,.int m,.int n]) (O:EX H a b) (F:0<=b.l/\0<=b.d/\b.r<=m/\b.u<=n) (aa:Q (.bl false) H)
def j5:Ar ["rectangle","width","height"] ["rectangle","width","height"] (Ah s_is_out):=Ay
def iL(F:Ak K "is_out" "is_out" s_is_out f fd):Ag P w K mg base Ap 1 f fd ["rectangle","width","height"] Vi:=by
 refine F.A1 j5 λim A _ s H vs Q E hr h=>?_
 obtain⟨a,b,m,n,rfl,O,⟨h1,h2,h3,h4⟩,q⟩:=h;exists _,AS (Ai (QP (Dc Fh (pL (pv 0) AB) AB) (QP (Dc Fh (pL (pv 0) AB) AB)
  (QP (Dc HR (pL (pv 0) AB) (pv 1)) (KJ (Dc HR (pL (pv 0) AB) (pv 2)))))))
 refine⟨_,J,a,_,_,_,J,J,AI.of O,FE,_,_,J,J,_,J,CH (by lia) ?_⟩;refine⟨_,J,a,_,_,_,J,J,AI.of O,Ge,_,_,J,J,_,J,CH (by lia) ?_⟩;refine⟨_,J,a,_,_,_,J,J,AI.of O,FL,_,J,_,_,J,J,_,J,CH (by lia) ?_⟩;exists _,J,a,_,_,_,J,J,AI.of O,Gd,_,J,_,_,J,rfl;rw[qi (by lia)];exact q
inductive WZ(vs:List V)(H:Hp)(Q:VK)(_:XK):Prop
 |mk (a c:Addr) (b d:Bx) (ac:vs=[.ref a,.ref c]) (O:EX H a b) (F:EX H c d) (aa:max b.l d.l<min b.r d.r->max b.d d.d<min b.u d.u->False) (ab:Q (.bl false) H)
def Q3:Ar ["one","other","across","upward"] ["one","other"] (Ah s_overlap):=Ay
def XE(i j:Int):(if j>i then j else i)=max i j:=by split<;>lia
def XJ(i j:Int):(if j<i then j else i)=min i j:=by split<;>lia
def kF(F:Ak K "overlap" "overlap" s_overlap f fd)(mx:mg "max" = none)(mn:mg "min" = none):Ag P w K mg base Ap 1 f fd ["one","other"] WZ:=by
 refine F.A1 Q3 λim A _ s H vs Q E hr h=>?_
 obtain⟨a,c,b,d,rfl,O,hc,hn,q⟩:=h;exists _,AL (AW 2 Q3 (Dc Fh (Bu (Oe rfl) (by rfl) mx NK (AA (pL (pv 0) AB) (AA (pL (pv 1) AB) AD)))
   (Bu (MQ rfl) (by rfl) mn NI (AA (pL (pv 0) AB) (AA (pL (pv 1) AB) AD)))))
  (AL (AW 3 Q3 (Dc Fh (Bu (Oe rfl) (by rfl) mx NK (AA (pL (pv 0) AB) (AA (pL (pv 1) AB) AD)))
   (Bu (MQ rfl) (by rfl) mn NI (AA (pL (pv 0) AB) (AA (pL (pv 1) AB) AD)))))
  (AS (Ai (J8 (pv 2) (KJ (pv 3))))))
 exists _,J,a,_,_,_,J,J,AI.of O,FE,_,J,c,_,_,_,J,J,AI.of hc,FE,_,_,J,_,J,a,_,_,_,J,J,AI.of O,FL,_,J,c,_,_,_,J,J,AI.of hc,FL,_,_,J,_,_,J,rfl;exists _,J,a,_,_,_,J,J,AI.of O,Ge,_,J,c,_,_,_,J,J,AI.of hc,Ge,_,_,J,_,J,a,_,_,_,J,J,AI.of O,Gd,_,J,c,_,_,_,J,J,AI.of hc,Gd,_,_,J,_,_,J,rfl;rw[XE,XJ,XE,XJ];exists _,J,_,rfl;by_cases h1:max b.l d.l<min b.r d.r
 ·refine C3 h1 ⟨_,J,?_⟩;rw[qi (hn h1)];exact q
 ·exact CH h1 q
inductive WI(vs:List V)(H:Hp)(Q:VK)(_:XK):Prop
 |mk (a:Addr) (bs:List Bx) (ac:vs=[.ref a]) (O:DC EX H a bs) (F:bs.length<=1000) (aa:∀(i j:Nat) (b c:Bx),i<j->bs[i]?=some b->bs[j]?=some c->max b.l c.l<min b.r c.r->max b.d c.d<min b.u c.u->False) (ab:∀H',AO H H'->Q .A5 H')
def Nu:Ar ["rectangles","j","one","k"] ["rectangles"] (Ah s_first_overlap):=Ay
def jn(F:Ak K "first_overlap" "first_overlap" s_first_overlap f fd)(G:AZ P w K mg base 1 "overlap" ["one","other"] WZ)(me:mg "enumerate" = none)(mr:mg "range" = none)(ml:mg "len" = none):Ag P w K mg base Ap 2 f fd ["rectangles"] WI:=by
 refine F.A1 Nu λim A _ s H vs Q E hr h=>?_
 obtain⟨a,bs,rfl,⟨cs,ha,hC⟩,hl,no,q⟩:=h;exists _,AL (Bg oE rfl (Hv (by rfl) me (AA (pv 0) AD)) (Cp (n:=2) rfl (BH (Az 1 Nu) (BH (Az 2 Nu) Cn)))
   (AS (Bg oE rfl (MU (by rfl) mr (AA (AM BK (pv 1) AB) (AA (B4 ml (pv 0)) AD))) (Az 3 Nu)
    (AS (BL (C1 (AV G (AA (pv 2) (AA (pL (pv 0) (pv 3)) AD)))) D2 BR)))))
  (AS (Ai JC))
 have lc:cs.length=bs.length:=hC.1;exists _,J,a,_,J,ha;refine Iq (xs:=cs.map V.ref) (λi σ H2=>AO H H2/\∃u1 u2 O,σ=[some (.ref a),u1,u2,O]) ⟨AO.refl _,none,none,none,J⟩ (λi σ H2 _ ⟨s2,_⟩=>s2 _ _ ha) ?_ ?_
 ·rintro i x σ H2 p hx ⟨s2,u1,u2,O,rfl⟩ hp;obtain⟨c,b,rfl,_,hy,fb⟩:=hC.ref hx;have bi:i<bs.length:=(nq.mp hy).1;refine BF hp (.AG [.int ((i:Nat):Int),.ref c]) λH3 s3 g3=>?_
  have aa:=s2.trans s3;exists p,_,J,AH.of g3,J,_,_,J,_,_,J,rfl;exists _,J,_,_,J,J,_,J,a,_,J,.inl (AI.of (aa _ _ ha)),_,_,J,?_
  ·rw[nh,lc];omega
  rw[nh,lc,show((bs.length:Int)-((i:Int)+1)).toNat=bs.length-(i+1) by omega];refine Gr (λk σ H4=>H4=H3/\∃O,σ=[some (.ref a),some (.int ((i:Nat):Int)),some (.ref c),O]) ⟨J,O,J⟩ ?_ ?_
  ·rintro k σ H4 hk ⟨rfl,u4,rfl⟩;have hz:bs[i+1+k]?=some bs[i+1+k]:=nj (by omega);obtain⟨cz,ab,fz⟩:=hC.get hz;exact⟨_,J,_,J,_,J,a,_,_,_,J,J,AI.of (aa _ _ ha),BQ (j:=i+1+k) (C9 ab),c,cz,b,_,J,aa _ _ fb,aa _ _ fz,no i _ b _ (by omega) hy hz,_,J,Bj ⟨J,_,J⟩⟩
  ·rintro σ H4 ⟨rfl,u4,rfl⟩;exact⟨aa,_,_,_,J⟩
 ·rintro σ H2 ⟨s2,u1,u2,O,rfl⟩;exact q _ s2
def E3(t:Nat)(b:Bx):Int:=if t=0 then b.l else b.d
def FT(t:Nat)(b:Bx):Int:=if t=0 then b.r else b.u
def WA{t:Nat}(h:t<=1)(b:Bx):Bc [V.int b.l,.int b.d,.int b.r,.int b.u] (t:Int)=some (.int (E3 t b))/\Bc [V.int b.l,.int b.d,.int b.r,.int b.u] ((t:Int)+2)=some (.int (FT t b)):=by
 rcases(show t=0\/t=1 by lia)with rfl|rfl
 ·exact⟨FE,FL⟩
 ·exact⟨Ge,Gd⟩
structure Bd(t:Nat)(m:Int)(bs:List Bx)(xs:List Int):Prop where
 up:xs.Pairwise (· < ·)
 mem:∀v,v∈xs↔v=0\/v=m\/v∈bs.map (E3 t)++bs.map (FT t)
 len:xs.length<=62
inductive WT(vs:List V)(H:Hp)(Q:VK)(_:XK):Prop
 |mk (a:Addr) (bs:List Bx) (t:Nat) (m:Int) (ac:vs=[.ref a,.int t,.int m]) (O:DC EX H a bs) (F:bs.length<=30) (aa:t<=1) (ab:∀l xs H',AO H H'->Bo H' l xs->Bd t m bs xs->Q (.ref l) H')
def Qy:Ar ["rectangles","at","most","lesser","greater"] ["rectangles","at","most"] (Ah s_borders):=Ay
def Wf:(["rectangle","at"]:List Str).Nodup:=by decide +kernel
def iG:qo "set" = some (.type "set"):=by decide +kernel
def j6(F:Ak K "borders" "borders" s_borders f fd)(ad:mg "set" = none)(ae:mg "sorted" = none):Ag P w K mg base Ap 1 f fd ["rectangles","at","most"] WT:=by
 refine F.A1 Qy λim A _ s H vs Q E hr h=>?_
 obtain⟨a,bs,t,m,rfl,⟨cs,ha,hC⟩,hl,ht,q⟩:=h;exists _,AL (Im (i:=3) Qy.nd rfl (qr rfl) (Nc:=["rectangle","at"]) (cap:=[(1,1)]) (g:=BU 0) (te:=Bb (FN []) (Aw 0) (Aw 1)) rfl (EN (pv 0)) CU
   (λ_ _ _ _ _=>B8 (i:=0) Wf rfl (qr rfl)) (λ_ _ _ _ _=>pL (pv 0) (pv 1)))
  (AL (Im (i:=4) Qy.nd rfl (qr rfl) (Nc:=["rectangle","at"]) (cap:=[(1,1)]) (g:=BU 0) (te:=Bb (FN []) (Aw 0) (Bb (FR λi j=>.int (i+j)) (Aw 1) (tC (.int 2)))) rfl (EN (pv 0)) CU
   (λ_ _ _ _ _=>B8 (i:=0) Wf rfl (qr rfl)) (λ_ _ _ _ _=>pL (pv 0) (AM BK (pv 1) AB)))
  (AS (Ai (Bu (fZ (P:=P) (w:=w) rfl) (by rfl) ae Yl (AA (EG (cW (K:=K) (P:=P) (w:=w) rfl) (by rfl) ad iG (AA (AM HK (AM HK (CG (AA AB (AA (pv 2) AD))) (pv 3)) (pv 4)) AD)) AD)))))
 have lc:cs.length=bs.length:=hC.1;refine⟨_,J,a,J,⟨_,AI.of ha⟩,λl1 h1=>?_⟩;refine Cm (FW ha) (by rw[nh,lc];lia) h1 (λi ys σ _=>ys=((bs.take i).map (E3 t)).map V.int/\∃u,σ=[u,some (.int (t:Int))]) ⟨J,none,J⟩ ?_ ?_
 ·rintro i ys σ H2 x H3 hi sm af ⟨O,u,rfl⟩ ⟨rfl,hx⟩ C aa;obtain⟨c,b,rfl,_,hy,hB⟩:=hC.ref hx;refine⟨_,J,_,J,c,_,_,_,J,J,AI.of (sm _ _ hB),(WA ht b).1,aa _ _ _ (AO.refl _) ⟨?_,_,J⟩⟩;rw[O,Ck hy,oh,oh];rfl
 rintro ys σ H1 s1 g1 _ ⟨O,_⟩;rw[nh,lc,qc]at O;subst O;refine⟨_,J,a,J,⟨_,AI.of (s1 _ _ ha)⟩,λl2 h2=>?_⟩;refine Cm (FW (s1 _ _ ha)) (by rw[nh,lc];lia) h2 (λi ys σ _=>ys=((bs.take i).map (FT t)).map V.int/\∃u,σ=[u,some (.int (t:Int))]) ⟨J,none,J⟩ ?_ ?_
 ·rintro i ys σ H2 x H3 hi sm af ⟨O,u,rfl⟩ ⟨rfl,hx⟩ C aa;obtain⟨c,b,rfl,_,hy,hB⟩:=hC.ref hx;refine⟨_,J,_,J,_,_,J,J,c,_,_,_,J,J,AI.of (sm _ _ (s1 _ _ hB)),(WA ht b).2,aa _ _ _ (AO.refl _) ⟨?_,_,J⟩⟩;rw[O,Ck hy,oh,oh];rfl
 rintro ys σ H2 s2 g2 _ ⟨O,_⟩;rw[nh,lc,qc]at O;subst O;refine⟨_,J,by exact Bk,λl3 h3=>?_⟩;refine BF h3 (.AE [.int 0,.int m]) λH3 s3 g3=>?_
 refine⟨_,J,l3,l1,_,_,J,J,g3,s3 _ _ (s2 _ _ g1),by rw[nh,nh];exact Dk (by show 2+bs.length<=_;lia),λl4 h4=>?_⟩;obtain⟨H4,zg,s4,g4⟩:=nw h4 (.AE ([.int 0,.int m]++(bs.map (E3 t)).map V.int));rw[zg];have ab:=s3.trans s4;refine⟨_,J,l4,l2,_,_,J,J,g4,ab _ _ g2,by rw[oa,nh,nh,nh,nh];exact Dk (by show 2+bs.length+bs.length<=_;lia),λl5 h5=>?_⟩;rw[show [V.int 0,.int m]++(bs.map (E3 t)).map V.int++(bs.map (FT t)).map V.int=((0:Int) :: m :: (bs.map (E3 t)++bs.map (FT t))).map V.int by simp];have ln:((0:Int) :: m :: (bs.map (E3 t)++bs.map (FT t))).length=2+2*bs.length:=by simp;lia
 have la:=SK ((0:Int) :: m :: (bs.map (E3 t)++bs.map (FT t)));refine BF h5 (.AE (((0:Int) :: m :: (bs.map (E3 t)++bs.map (FT t))).map V.int)) λH5 s5 g5=>?_
 refine⟨l5,_,J,AI.of g5,by rw[ln];lia,λl6 h6=>?_⟩;refine BF h6 (Kc P w l6 (DA ((0:Int) :: m :: (bs.map (E3 t)++bs.map (FT t))))) λH6 s6 g6=>?_
 refine⟨l6,_,J,g6,by lia,λl7 ms h7 pm ac=>?_⟩;refine q l7 ms _ ((s1.trans s2).trans ((ab.trans (s5.trans s6)).trans (AY h7 _))) AU ⟨?_,λv=>by rw[pm.mem_iff,Y3];simp only[oj],by have:=pm.length_eq;lia⟩;exact(ac.and (pm.nodup_iff.mpr (Xi _))).imp λ⟨a,b⟩=>by lia
def LI(h:j<xs.length):xs.getD j 0=xs[j]:=by rw[nO,nj h];rfl
def P0(h:xs.Pairwise (· < ·))(F:j<xs.length)(O:i<j):xs.getD i 0<xs.getD j 0:=by
 rw[LI F,LI (show i<xs.length by lia)];exact rz.mp h i j (by lia) F O
def NV(h:xs.Pairwise (· < ·))(hj:j<xs.length)(O:v∈xs):xs.idxOf v<xs.length/\(xs.idxOf v<=j↔v<=xs.getD j 0):=by
 have hi:=rC.mpr O;have e:xs.getD (xs.idxOf v) 0=v:=by rw[LI hi];exact aav hi
 refine⟨hi,λz=>?_,λz=>?_⟩
 ·rcases oM (xs.idxOf v) j with y|y
  ·have:=P0 h hj y;lia
  ·obtain F:xs.idxOf v=j:=by lia
   rw[<-F,e];exact Int.le_refl _
 ·rcases oM j (xs.idxOf v)with y|y
  ·have:=P0 h hi y;lia
  ·exact y
def L8(xs ys:List Int)(b:Bx)(j k:Nat):Prop:=xs.idxOf b.l<=j/\j<xs.idxOf b.r/\ys.idxOf b.d<=k/\k<ys.idxOf b.u
def Bd.of(h:Bd t m bs xs)(F:b∈bs):E3 t b∈xs/\FT t b∈xs :=
 ⟨(h.mem _).mpr (.inr (.inr (qU _ (n8.mpr ⟨b,F,J⟩)))),(h.mem _).mpr (.inr (.inr (pC _ (n8.mpr ⟨b,F,J⟩))))⟩
def Bd.Kj(h:Bd t m bs xs)(m0:0<m)(hb:∀b∈bs,0<=E3 t b/\E3 t b<=FT t b/\FT t b<=m)(F:j+1<xs.length):0<=xs.getD j 0/\xs.getD j 0<m:=by
 have all:∀v∈xs,0<=v/\v<=m:=λv O=>by
  rcases(h.mem v).mp O with rfl|rfl|z
  ·lia
  ·lia
  ·rcases om.mp z with z|z<;>(obtain⟨b,h1,rfl⟩:=n8.mp z;have:=hb b h1;lia)
 have a:=all _ (show xs.getD j 0∈xs by rw[LI (by lia)];exact pX _);have b:=all _ (show xs.getD (j+1) 0∈xs by rw[LI F];exact pX _)
 have:=P0 h.up F (uE j)
 lia
def kC(j k:Nat):List Aq:=[.inl (j:Int),.inl (k:Int)]
def KN(ii:List (List Aq×V))(c:Nat->Nat->Prop):Prop:=∀j k,c j k->(Bp ii (kC j k)).isSome=true
def ZA(h:KN ii c)(O F:Nat)(v:V)(e:∀j k,c' j k->c j k\/(j=O/\k=F)):KN (CB ii (kC O F) v) c':=by
 intro j k z;rw[Zu];split
 ·rfl
 ·rename_i n
  rcases e j k z with y|⟨rfl,rfl⟩
  ·exact h j k y
  ·exact absurd rfl n
inductive Vw(vs:List V)(H:Hp)(Q:VK)(_:XK):Prop
 |mk (c r a:Addr) (xs ys:List Int) (bs:List Bx) (O:vs=[.ref c,.ref r,.ref a]) (ab:Bo H c xs) (ad:Bo H r ys) (af:DC EX H a bs) (ac:bs.length<=30) (ae:xs.length<=62) (aa:ys.length<=62) (F:∀b∈bs,b.l∈xs/\b.r∈xs/\b.d∈ys/\b.u∈ys)
  (ag:∀p ii H',AO H H'->H' p=some (.dT ii)->KN ii (λj k=>∃b∈bs,L8 xs ys b j k)->Q (.ref p) H')
def Lk:Ar ["columns","rows","rectangles","covered","rectangle","column","row"] ["columns","rows","rectangles"] (Ah s_covered_cells):=Ay
def iS(F:Ak K "covered_cells" "covered_cells" s_covered_cells f fd)(mr:mg "range" = none):Ag P w K mg base Ap 1 f fd ["columns","rows","rectangles"] Vw:=by
 refine F.A1 Lk λim A _ s H vs Q E hr h=>?_
 obtain⟨c,r,a,xs,ys,bs,rfl,hc,aa,⟨cs,ha,hC⟩,hl,lx,ly,hm,q⟩:=h;have hu:=Fl hr;exists _,AL (AW 3 Lk Zn)
  (AL (Bg oE rfl (EN (pv 2)) (Az 4 Lk)
   (AS (Bg oE rfl (MU (by rfl) mr
     (AA (CL oF rJ sH J3 (pv 0) (AA (pL (pv 4) AB) AD))
      (AA (CL oF rJ sH J3 (pv 0) (AA (pL (pv 4) AB) AD)) AD))) (Az 5 Lk)
    (AS (Bg oE rfl (MU (by rfl) mr
      (AA (CL oF rJ sH J3 (pv 1) (AA (pL (pv 4) AB) AD))
       (AA (CL oF rJ sH J3 (pv 1) (AA (pL (pv 4) AB) AD)) AD))) (Az 6 Lk)
     (AS (Gv hu (pv 3) (BS (AA (pv 5) (AA (pv 6) AD))) GR rfl)))))))
  (AS (Ai (pv 3))))
 have lc:cs.length=bs.length:=hC.1;refine λD hD=>?_
 refine BF hD (.dT []) λH1 s1 g1=>?_
 exists _,J,a,J,⟨_,AI.of (s1 _ _ ha)⟩;refine Ow (xs:=cs.map V.ref) (λi σ H2=>AO H H2/\(∃u4 u5 O,σ=[some (.ref c),some (.ref r),some (.ref a),some (.ref D),u4,u5,O])/\∃ii,H2 D=some (.dT ii)/\ii.length<=i*4000/\KN ii λj k=>∃b∈bs.take i,L8 xs ys b j k)
  ⟨s1,⟨none,none,none,J⟩,[],g1,pD _,λj k ⟨b,hb,_⟩=>by cases hb⟩ (λi σ H2 _ ⟨s2,_⟩=>AI.of (s2 _ _ ha)) ?_ ?_
 ·rintro i x σ H2 hx ⟨s2,⟨u4,u5,O,rfl⟩,ii,hk,nk,ck⟩;obtain⟨cb,b,rfl,_,hy,fb⟩:=hC.ref hx;have bi:i<bs.length:=(nq.mp hy).1;obtain⟨m1,m2,m3,m4⟩:=hm b (nz hy);have i2:=rC.mpr m2;have i4:=rC.mpr m4;have i1:=rC.mpr m1;have i3:=rC.mpr m3;refine⟨_,J,.inl ⟨J,_,AI.of (s2 _ _ hc)⟩,_,J,cb,_,_,_,J,J,AI.of (s2 _ _ fb),FE,c,xs,_,J,J,s2 _ _ hc,m1,by lia  ,?_⟩;refine⟨_,J,.inl ⟨J,_,AI.of (s2 _ _ hc)⟩,_,J,cb,_,_,_,J,J,AI.of (s2 _ _ fb),FL,c,xs,_,J,J,s2 _ _ hc,m2,by lia  ,?_⟩;refine⟨_,_,J,by lia  ,?_⟩;rw[show(((xs.idxOf b.r:Nat):Int)-((xs.idxOf b.l:Nat):Int)).toNat=xs.idxOf b.r-xs.idxOf b.l by lia  ];refine Gr (λn σ H3=>AO H H3/\(∃u5 O,σ=[some (.ref c),some (.ref r),some (.ref a),some (.ref D),some (.ref cb),u5,O])/\∃ii,H3 D=some (.dT ii)/\ii.length<=i*4000+n*62/\KN ii λj k=>(∃b∈bs.take i,L8 xs ys b j k)\/(xs.idxOf b.l<=j/\j<xs.idxOf b.l+n/\ys.idxOf b.d<=k/\k<ys.idxOf b.u))
   ⟨s2,⟨u5,O,J⟩,ii,hk,by lia,λj k z=>ck j k (z.elim id λy=>by lia)⟩ ?_ ?_
  ·rintro n σ H3 hn ⟨s3,⟨u5,O,rfl⟩,ii,hk,nk,ck⟩;refine⟨_,J,.inl ⟨J,_,AI.of (s3 _ _ aa)⟩,_,J,cb,_,_,_,J,J,AI.of (s3 _ _ fb),Ge,r,ys,_,J,J,s3 _ _ aa,m3,by lia  ,?_⟩;refine⟨_,J,.inl ⟨J,_,AI.of (s3 _ _ aa)⟩,_,J,cb,_,_,_,J,J,AI.of (s3 _ _ fb),Gd,r,ys,_,J,J,s3 _ _ aa,m4,by lia  ,?_⟩;refine⟨_,_,J,by lia  ,?_⟩;rw[show(((ys.idxOf b.u:Nat):Int)-((ys.idxOf b.d:Nat):Int)).toNat=ys.idxOf b.u-ys.idxOf b.d by lia  ];refine Gr (λt σ H4=>AO H H4/\(∃O,σ=[some (.ref c),some (.ref r),some (.ref a),some (.ref D),some (.ref cb),some (.int (((xs.idxOf b.l:Nat):Int)+(n:Int))),O])/\∃ii,H4 D=some (.dT ii)/\ii.length<=i*4000+n*62+t /\
     KN ii λj k=>((∃b∈bs.take i,L8 xs ys b j k)\/(xs.idxOf b.l<=j/\j<xs.idxOf b.l+n/\ys.idxOf b.d<=k/\k<ys.idxOf b.u))\/(j=xs.idxOf b.l+n/\ys.idxOf b.d<=k/\k<ys.idxOf b.d+t))
    ⟨s3,⟨O,J⟩,ii,hk,by lia,λj k z=>ck j k (z.elim id λy=>by lia)⟩ ?_ ?_
   ·rintro t σ H4 ht ⟨s4,⟨O,rfl⟩,ii,hk,nk,ck⟩;refine⟨_,J,_,J,_,J,by exact Bk,λtp ab=>?_⟩;refine BF ab (.AG [.int (((xs.idxOf b.l:Nat):Int)+(n:Int)),.int (((ys.idxOf b.d:Nat):Int)+(t:Int))]) λH5 s5 zz=>?_
    have g5:H5 tp=some (.AG ((kC (xs.idxOf b.l+n) (ys.idxOf b.d+t)).map kV)):=zz;refine⟨D,_,J,D6.t (s5 _ _ hk) g5 (by rw[sQ];lia),(s4.trans s5).up hD _,⟨_,J⟩,_,AU,by have:=MN ii (kC (xs.idxOf b.l+n) (ys.idxOf b.d+t)) (V.bl true);lia,ZA ck _ _ _ λj k z=>?_⟩;rcases z with z|z
    ·exact .inl (.inl z)
    ·rcases(show k<ys.idxOf b.d+t\/k=ys.idxOf b.d+t by lia)with y|y
     ·exact .inl (.inr ⟨z.1,z.2.1,y⟩)
     ·exact .inr ⟨z.1,y⟩
   ·rintro σ H4 ⟨s4,⟨O,rfl⟩,ii,hk,nk,ck⟩;refine⟨s4,⟨_,_,J⟩,ii,hk,by lia,λj k z=>ck j k ?_⟩;rcases z with z|z
    ·exact .inl (.inl z)
    ·rcases(show j<xs.idxOf b.l+n\/j=xs.idxOf b.l+n by lia)with y|y
     ·exact .inl (.inr ⟨z.1,y,z.2.2⟩)
     ·exact .inr ⟨y,by lia,by lia⟩
  ·rintro σ H3 ⟨s3,⟨u5,O,rfl⟩,ii,hk,nk,ck⟩;refine⟨s3,⟨_,_,_,J⟩,ii,hk,by lia,λj k z=>ck j k ?_⟩;rw[Ck hy]at z;obtain⟨b',mb,z⟩:=z;rcases om.mp mb with y|y
   ·exact .inl ⟨b',y,z⟩
   ·rw[oz.mp y]at z;unfold L8 at z;exact .inr (by lia)
 ·rintro σ H2 ⟨s2,⟨u4,u5,O,rfl⟩,ii,hk,nk,ck⟩;rw[nh,lc,qc]at ck;exact⟨_,J,q D ii H2 s2 hk ck⟩
inductive WW(vs:List V)(H:Hp)(Q:VK)(_:XK):Prop
 |mk (m n:Int) (a:Addr) (bs:List Bx) (ad:vs=[.int m,.int n,.ref a]) (aa:DC EX H a bs) (F:bs.length<=30) (ab:0<m) (ac:0<n) (O:OB m n bs) (ae:∀H',AO H H'->Q .A5 H')
def Kd:Ar ["width","height","rectangles","columns","rows","covered","row","column"] ["width","height","rectangles"] (Ah s_first_gap):=Ay
def js (F:Ak K "first_gap" "first_gap" s_first_gap f fd)(G1:AZ P w K mg base 1 "borders" ["rectangles","at","most"] WT)(G2:AZ P w K mg base 1 "covered_cells" ["columns","rows","rectangles"] Vw)
  (mr:mg "range" = none)(ml:mg "len" = none):Ag P w K mg base Ap 2 f fd ["width","height","rectangles"] WW:=by
 refine F.A1 Kd λim A _ s H vs Q E hr h=>?_
 obtain⟨m,n,a,bs,rfl,hA,hl,m0,n0,cv,q⟩:=h;have hu:=Fl hr;exists _,AL (AW 3 Kd (AV G1 (AA (pv 2) (AA AB (AA (pv 0) AD)))))
  (AL (AW 4 Kd (AV G1 (AA (pv 2) (AA AB (AA (pv 1) AD)))))
  (AL (AW 5 Kd (AV G2 (AA (pv 3) (AA (pv 4) (AA (pv 2) AD)))))
  (AL (Bg oE rfl (Io (by rfl) mr (AA (AM C7 (B4 ml (pv 4)) AB) AD)) (Az 6 Kd)
   (AS (Bg oE rfl (Io (by rfl) mr (AA (AM C7 (B4 ml (pv 3)) AB) AD)) (Az 7 Kd)
    (AS (BL (IH (MR hu (BS (AA (pv 7) (AA (pv 6) AD))) (pv 5))) D2 BR)))))
  (AS (Ai JC)))))
 refine⟨_,J,_,J,a,bs,0,m,J,hA,hl,pD _,λc xs H1 s1 hc bx=>?_⟩;refine⟨_,J,_,J,a,bs,1,n,J,NQ s1 hA,hl,nQ _,λr ys H2 s2 ab aa=>?_⟩;have ac:=s1.trans s2;refine⟨_,J,_,J,_,J,c,r,a,xs,ys,bs,J,s2 _ _ hc,ab,NQ ac hA,hl,bx.len,aa.len,λb O=>⟨(bx.of O).1,(bx.of O).2,(aa.of O).1,(aa.of O).2⟩,λD ii H3 s3 hD ck=>?_⟩;have ae:H3 c=some (.AE (xs.map V.int)):=s3 _ _ (s2 _ _ hc);have ah:H3 r=some (.AE (ys.map V.int)):=s3 _ _ ab;have ag:=ac.trans s3;have lx:=bx.len;have ly:=aa.len;have cc:∀j k,j<xs.length-1->k<ys.length-1->(Bp ii (kC j k)).isSome=true:=λj k hj hk=>by
  have ob:∀b∈bs,b.l<=b.r/\b.d<=b.u:=λb O=>by have:=cv.ok b O;lia
  obtain⟨x0,x1⟩:=bx.Kj m0 (λb O=>⟨(cv.Fv b O).1,(ob b O).1,(cv.Fv b O).2.2.1⟩) (show j+1<xs.length by lia);obtain⟨y0,y1⟩:=aa.Kj n0 (λb O=>⟨(cv.Fv b O).2.1,(ob b O).2,(cv.Fv b O).2.2.2⟩) (show k+1<ys.length by lia);obtain⟨b,O,z1,z2,z3,z4⟩:=cv.m5 _ _ x0 x1 y0 y1;obtain⟨m1,m2⟩:b.l∈xs/\b.r∈xs:=bx.of O;obtain⟨m3,m4⟩:b.d∈ys/\b.u∈ys:=aa.of O;have w1:=(NV bx.up (show j<xs.length by lia) m1).2;have w2:=(NV bx.up (show j<xs.length by lia) m2).2;have w3:=(NV aa.up (show k<ys.length by lia) m3).2;have w4:=(NV aa.up (show k<ys.length by lia) m4).2;exact ck j k ⟨b,O,w1.mpr z1,by lia,w3.mpr z3,by lia⟩
 refine⟨_,J,r,_,J,.inl (AI.of ah),_,_,J,J,_,J,by rw[nh];lia,by rw[nh];lia,?_⟩;rw[nh,show((ys.length:Int)-1).toNat=ys.length-1 by lia];refine Gr (λk σ H4=>AO H3 H4/\∃u6 u7,σ=[some (.int m),some (.int n),some (.ref a),some (.ref c),some (.ref r),some (.ref D),u6,u7]) ⟨AO.refl _,none,none,J⟩ ?_ ?_
 ·rintro k σ H4 hk ⟨s4,u6,u7,rfl⟩;rw[aar];refine⟨_,J,c,_,J,.inl (AI.of (s4 _ _ ae)),_,_,J,J,_,J,by rw[nh];lia,by rw[nh];lia,?_⟩;rw[nh,show((xs.length:Int)-1).toNat=xs.length-1 by lia];refine Gr (λj σ H5=>AO H3 H5/\∃u7,σ=[some (.int m),some (.int n),some (.ref a),some (.ref c),some (.ref r),some (.ref D),some (.int (k:Int)),u7]) ⟨s4,u7,J⟩ ?_ ?_
  ·rintro j σ H5 hj ⟨s5,u7,rfl⟩;rw[aar];refine⟨_,J,_,J,by exact Bk,λtp af=>?_⟩;refine BF af (.AG [.int (j:Int),.int (k:Int)]) λH6 s6 zz=>?_
   have g6:H6 tp=some (.AG ((kC j k).map kV)):=zz;have ad:=s5.trans s6;exists _,J,D,_,J,DL.t (ad _ _ hD) g6,_,rfl;rw[cc j k hj hk];exact Bj ⟨ad,_,J⟩
  ·rintro σ H5 ⟨s5,u7,rfl⟩;exact⟨s5,_,_,J⟩
 ·rintro σ H4 ⟨s4,u6,u7,rfl⟩;exact q _ (ag.trans s4)
inductive Wu(vs:List V)(H:Hp)(Q:VK)(_:XK):Prop
 |mk (m n:Int) (a:Addr) (bs:List Bx) (ad:vs=[.int m,.int n,.ref a]) (aa:DC EX H a bs) (F:bs.length<=30) (ab:0<m) (ac:0<n) (O:OB m n bs) (ae:∀p H',AO H H'->H' p=some (.AG [.str "covers"])->Q (.ref p) H')
def JN:Ar ["width","height","rectangles","k","rectangle","pair","gap"] ["width","height","rectangles"] (Ah s_looked_whole):=Ay
def kN (F:Ak K "looked_whole" "looked_whole" s_looked_whole f fd)(G1:AZ P w K mg base 1 "is_neither" ["rectangle"] WG)(G2:AZ P w K mg base 1 "is_out" ["rectangle","width","height"] Vi)(G3:AZ P w K mg base 2 "first_overlap" ["rectangles"] WI)(G4:AZ P w K mg base 2 "first_gap" ["width","height","rectangles"] WW)
  (me:mg "enumerate" = none):Ag P w K mg base Ap 3 f fd ["width","height","rectangles"] Wu:=by
 refine F.A1 JN λim A _ s H vs Q E hr h=>?_
 obtain⟨m,n,a,bs,rfl,hA,hl,m0,n0,cv,q⟩:=h;exists _,AL (Bg oE rfl (Hv (by rfl) me (AA (pv 2) AD)) (Cp (n:=2) rfl (BH (Az 3 JN) (BH (Az 4 JN) Cn)))
   (AS (BL (C1 (AV G1 (AA (pv 4) AD))) D2 BR)))
  (AL (Bg oE rfl (Hv (by rfl) me (AA (pv 2) AD)) (Cp (n:=2) rfl (BH (Az 3 JN) (BH (Az 4 JN) Cn)))
   (AS (BL (C1 (AV G2 (AA (pv 4) (AA (pv 0) (AA (pv 1) AD))))) D2 BR)))
  (AL (AW 5 JN (AV G3 (AA (pv 2) AD)))
  (AL (BL (IH (Tu (pv 5))) D2 BR)
  (AL (AW 6 JN (AV G4 (AA (pv 0) (AA (pv 1) (AA (pv 2) AD)))))
  (AL (BL (IH (Tu (pv 6))) D2 BR)
  (AS (Ai (BS (AA QJ AD)))))))))
 obtain⟨cs,ha,hC⟩:=id hA;have lc:cs.length=bs.length:=hC.1;exists _,J,a,_,J,ha;refine Iq (xs:=cs.map V.ref) (λi σ H2=>AO H H2/\∃u3 u4,σ=[some (.int m),some (.int n),some (.ref a),u3,u4,none,none]) ⟨AO.refl _,none,none,J⟩ (λi σ H2 _ ⟨O,_⟩=>O _ _ ha) ?_ ?_
 ·rintro i x σ H2 p hx ⟨O,u3,u4,rfl⟩ hp;obtain⟨c,b,rfl,_,hy,fb⟩:=hC.ref hx;refine BF hp (.AG [.int ((i:Nat):Int),.ref c]) λH3 s3 g3=>?_
  exact⟨p,_,J,AH.of g3,J,_,_,J,_,_,J,J,_,J,c,b,J,(O.trans s3) _ _ fb,cv.ok b (nz hy),_,J,Bj ⟨O.trans s3,_,_,J⟩⟩
 rintro σ H1 ⟨s1,u3,u4,rfl⟩;exists _,J,a,_,J,s1 _ _ ha;refine Iq (xs:=cs.map V.ref) (λi σ H2=>AO H H2/\∃u3 u4,σ=[some (.int m),some (.int n),some (.ref a),u3,u4,none,none]) ⟨s1,u3,u4,J⟩ (λi σ H2 _ ⟨O,_⟩=>O _ _ ha) ?_ ?_
 ·rintro i x σ H2 p hx ⟨O,u3,u4,rfl⟩ hp;obtain⟨c,b,rfl,_,hy,fb⟩:=hC.ref hx;refine BF hp (.AG [.int ((i:Nat):Int),.ref c]) λH3 s3 g3=>?_
  exact⟨p,_,J,AH.of g3,J,_,_,J,_,_,J,J,_,J,_,J,_,J,c,b,m,n,J,(O.trans s3) _ _ fb,cv.Fv b (nz hy),_,J,Bj ⟨O.trans s3,_,_,J⟩⟩
 rintro σ H2 ⟨O,v3,v4,rfl⟩;refine⟨_,J,a,bs,J,NQ O hA,by lia,cv.nF,λH3 s3=>⟨_,J,_,J,Bj ?_⟩⟩;have aa:=O.trans s3;refine⟨_,J,_,J,_,J,m,n,a,bs,J,NQ aa hA,hl,m0,n0,cv,λH4 s4=>⟨_,J,_,J,Bj ?_⟩⟩;exact⟨by exact ED,λt ht=>q t _ (aa.trans (s4.trans (AY ht _))) AU⟩
def Jj(B:Int)(r:List Rat):Bx:=⟨wh B (r.getD 0 0),wh B (r.getD 1 0),wh B (r.getD 2 0),wh B (r.getD 3 0)⟩
inductive Wc(vs:List V)(H:Hp)(Q:VK)(_:XK):Prop
 |mk (a:Addr) (W U:Rat) (F:List (List Rat)) (Z:Int) (aa:vs=[.ref a]) (ac:JE H a W U F) (ae:F.length<=30) (ag:∀r∈F,r.length=4) (ad:0<Z) (af:Z.natAbs<=2 ^ 3900) (ab:∀q∈IW W U F,(q.den:Int) ∣ Z/\Sf q) (O:∀B:Int,0<B->(∀q∈IW W U F,(q.den:Int) ∣ B)->0<wh B W/\0<wh B U/\OB (wh B W) (wh B U) (F.map (Jj B)))
  (ah:∀p H',AO H H'->H' p=some (.AG [.str "covers"])->Q (.ref p) H')
def Nv:Ar ["floor","bottom","whole","found"] ["floor"] (Ah s_looked):=Ay
def Yj(F:Ak K "looked" "looked" s_looked f fd)(G1:AZ P w K mg base 1 "numbers_of" ["floor"] Wo)(G3:AZ P w K mg base 2 "common_bottom" ["row"] V5)(G4:AZ P w K mg base 3 "looked_whole" ["width","height","rectangles"] Wu)(G5:AZ P w K mg base 2 "whole_floor" ["floor","bottom"] Wa):
  Ag P w K mg base Ap 4 f fd ["floor"] Wc:=by
 refine F.A1 Nv λim A _ s H vs Q E hr h=>?_
 obtain⟨a,W,U,aa,Z,rfl,hF,ac,ab,Z0,hZ,hd,hc,q⟩:=h;exists _,AL (AW 1 Nv (AV G3 (AA (AV G1 (AA (pv 0) AD)) AD)))
  (AL (AW 2 Nv (AV G5 (AA (pv 0) (AA (pv 1) AD))))
  (AL (AW 3 Nv (AV G4 (AA (pT (pv 2) AB) (AA (pT (pv 2) AB) (AA (pT (pv 2) AB) AD)))))
  (AL (BL (BP DX (pT (pv 3) AB) QJ) D2 BR)
  (AS (Ai (pv 3))))))
 refine⟨_,J,a,W,U,aa,J,hF,by lia,ab,λpn H1 s1 hN=>⟨pn,_,Z,J,hN,λy O=>(hd y O).1,Z0,hZ,?_⟩⟩;obtain⟨B0,B1⟩:=LX (IW W U aa);have BZ:cb (IW W U aa) ∣ Z:=QM _ (by decide) (zp _) λy O=>(hd y O).1
 generalize cb (IW W U aa)=B at *;refine⟨_,J,_,J,a,B,W,U,aa,J,Ou s1 hF,by lia,ab,λy O=>⟨(hd y O).2.n,(hd y O).2.d,?_⟩,λpw l H2 s2 hw hL=>?_⟩
 ·have yd:=y.den_nz;rw[qd (B1 y O)];refine Ft (n:=3900) (oC (vH _ _) (oC (vC (by lia) (wH.mpr BZ)) hZ)) (by decide)
 obtain⟨w0,u0,cv⟩:=hc B B0 B1;have hB:DC EX H2 l (aa.map (Jj B)):=by
  obtain⟨cs,h1,h2,h3⟩:=hL;refine⟨cs,h1,by rw[h2,nh,nh],λi c b e1 e2=>?_⟩;rw[nV]at e2;obtain⟨r,e3,rfl⟩:=rP.mp e2
  have:=h3 i c (r.map (wh B)) e1 (by rw[nV,e3];rfl)
  have l4:=ab r (nz e3)
  match r,l4 with
  |[q0,q1,q2,q3],_=>exact this
 exists _,J,pw,_,_,_,J,J,AH.of hw,GY _ _ _,_,J,pw,_,_,_,J,J,AH.of hw,Eo _ _ _,_,J,pw,_,_,_,J,J,AH.of hw,FF _ _ _;refine⟨_,_,l,_,J,hB,by rw[nh];exact ac,w0,u0,cv,λp H3 s3 hp=>?_⟩;exact⟨_,J,p,_,_,_,J,J,AH.of hp,BQ (j:=0) rfl,J,_,J,CH (λe=>absurd (V.str.inj e) (by decide)) ⟨_,J,q p _ ((s1.trans s2).trans s3) hp⟩⟩
def P9:∀{l:List Rat},(∀a∈l,0<=a)->0<=l.sum/\∀{i:Nat} {a:Rat},l[i]?=some a->a<=l.sum
 |[],_=>⟨by simp,λ{i} {a} h=>by simp at h⟩
 |x :: l,h=>by
  obtain⟨h1,h2⟩:=P9 (l:=l) λa F=>h a (oY _ F)
  have O:=h x (qh ..);rw[oJ];refine⟨by grind,λ{i} {a} hi=>?_⟩;cases i with
  |zero=>cases hi;grind
  |succ i=>have:=h2 (i:=i) (by simpa using hi);grind
def Uj:∀{l:List Rat},(∀a∈l,0<=a)->∀{i j:Nat} {a b:Rat},i<j->l[i]?=some a->l[j]?=some b->a+b<=l.sum
 |[],_,i,j,a,b,_,h,_=>by simp at h
 |x :: l,h,i,j,a,b,hij,hi,hj=>by
  have O:∀a∈l,0<=a:=λa ha=>h a (oY _ ha)
  rw[oJ];obtain⟨j,rfl⟩:∃j',j=j' + 1:=⟨j-1,by lia⟩;have F:l[j]?=some b:=by simpa using hj
  cases i with
  |zero=>cases hi;have:=(P9 O).2 F;grind
  |succ i=>have:=Uj O (show i<j by lia) (by simpa using hi) F;have:=h x (qh ..);grind
def Ez(p:Int->Rat)(Y:Nat->Rat)(j:Nat)(r:AX)(x y:Rat):Prop:=BX (p (2*(j:Int))) (p (2*(j:Int)+1))<=x/\x<BY (p (2*(j:Int))) (p (2*(j:Int)+1))/\BX (Y r.1) (Y r.2.1)<=y/\y<BY (Y r.1) (Y r.2.1)
def Ov{a b c d e:Rat}(e0:0<e)(h:a-b=e*(c-d)):(d<c↔b<a)/\(c<d↔a<b):=by
 have F:∀{c d a b:Rat},a-b=e*(c-d)->d<c->b<a:=λ{c d a b} h z=>by
  have:=abb e0 (show 0<c-d by grind)
  rw[<-h]at this;grind
 have h':b-a=e*(d-c):=by grind
 refine⟨⟨F h,λz=>?_⟩,⟨F h',λz=>?_⟩⟩
 ·by_cases y:d<c
  ·exact y
  ·by_cases O:c=d
   ·rw[O]at h;grind
   ·have:=F h' (show c<d by grind);grind
 ·by_cases y:c<d
  ·exact y
  ·by_cases O:c=d
   ·rw[O]at h;grind
   ·have:=F h (show d<c by grind);grind
open Classical in
def ind(O:0<e)(h:a-b=e*(c-d)):((if a<=x then (1:Rat) else 0)-(if b<=x then 1 else 0))*((if y<c then 1 else 0)-(if y<d then 1 else 0))=- (if BX a b<=x/\x<BY a b/\BX c d<=y/\y<BY c d then 1 else 0):=by
 obtain⟨s1,s2⟩:=Ov O h;unfold BX BY;by_cases z:d<c
 ·have:=s1.mp z
  rw[nX this,nX this,nX z,nX z];split<;>split<;>split<;>split<;>split<;>grind
 ·by_cases y':c<d
  ·have:=s2.mp y'
   rw[nS (show ¬b<a by grind),nS (show ¬b<a by grind),nS z,nS z];split<;>split<;>split<;>split<;>split<;>grind
  ·have F:c=d:=by grind
   have e2:a=b:=by rw[F]at h;grind
   subst F e2;rw[nS z,nS (show ¬a<a by grind),nS (show ¬(a<=x/\x<a/\c<=y/\y<c) by grind)]
   grind
def Ol{f:Int->Rat}:∀ts:List (List Int),(ts.flatten.map f).sum=(ts.map λt=>(t.map f).sum).sum
 |[]=>rfl
 |t :: ts=>by rw[oQ,oh,sN,n9,oJ,Ol ts]
variable {n:Nat}{rs:List AX}{ts:List (List Int)}{Y:Nat->Rat}{p:Int->Rat}
def DE(rs:List AX)(x:Int):Nat:=((hm rs)[x.toNat]?).getD 0
def jF(rs:List AX):(∀(j:Nat) (r:AX),rs[j]?=some r->DE rs (2*(j:Int))=r.1/\DE rs (2*(j:Int)+1)=r.2.1)/\DE rs (2*(rs.length:Int))=0/\DE rs (2*(rs.length:Int)+1)=1:=by
 have e:∀j:Nat,(2*(j:Int)).toNat=2*j/\(2*(j:Int)+1).toNat=2*j+1:=λj=>by lia
 unfold DE;exists λj r h=>?_
 ·rw[(e j).1,(e j).2,(Mt h).1,(Mt h).2];exact⟨J,J⟩
 ·rw[(e _).1,(e _).2,(QD rs).1,(QD rs).2];exact⟨J,J⟩
def NetV.mH(k:NetV n rs ts){s:Int->Rat}(hs:∀x,AJ (2*rs.length+2) x->s (AQ ts x)=s x)(u:Nat->Rat):(ts.flatten.map λx=>s x*(u (DE rs x)-u (DE rs (AN x)))).sum=0:=by
 have T:=k.tn;have ho:∀x,x∈ts.flatten->DE rs (pr ts x)=DE rs x:=λx F=>by
  obtain⟨t,O,i,hi,h1,h2⟩:=jD (Gw T.nd F);obtain⟨q,hq⟩:=tj.mp O;unfold DE;rw[k.C4 q t hq _ (nz h1),k.C4 q t hq _ (nz h2)]
 have e1:(ts.flatten.map λx=>s x*u (DE rs x)).sum=(ts.flatten.map λx=>s (AN x)*u (DE rs x)).sum:=by
  rw[Ol,Ol];refine congrArg List.sum (qM λt O=>?_);rw[<-Oq T.nd O];refine J1 λx F=>?_
  have xm:x∈ts.flatten:=oI.mpr ⟨t,O,F⟩
  have:=hs _ (C0 T.HV ((T.mem x).mp xm))
  rw[Bv,Cz]at this;rw[ho x xm,this]
 have pm:(ts.flatten.map AN).Perm ts.flatten:=(tY (NF T.nd λ_ _ _ _=>Iz) T.nd).mpr λx=>by
  rw[n8,T.mem];exact⟨λ⟨y,hy,e⟩=>by rw[<-e];exact C0 T.HV ((T.mem y).mp hy),λF=>⟨AN x,(T.mem _).mpr (C0 T.HV F),Cz x⟩⟩
 have e2:(ts.flatten.map λx=>s (AN x)*u (DE rs x)).sum=(ts.flatten.map λx=>s x*u (DE rs (AN x))).sum:=by
  rw[<-J2 (pm.map λx=>s (AN x)*u (DE rs x)),pO];exact J1 λx _=>by show s (AN (AN x))*_=_;rw[Cz]
 rw[J1 (g:=λx=>s x*u (DE rs x)+(-1)*(s x*u (DE rs (AN x)))) (λx _=>by grind),JA,Ip,e1,e2]
 grind
def R3(f:Int->Rat):∀m:Nat,(((og (2*m)).map λe:Nat=>(e:Int)).map f).sum=((og m).map λj:Nat=>f (2*(j:Int))+f (2*(j:Int)+1)).sum
 |0=>rfl
 |m+1=>by
  rw[show 2*(m+1)=2*m+1+1 by lia,rV,rV,rV];simp only[oh,sN,n9,p9,oJ,qV];rw[R3 f m,show((2*m:Nat):Int)=2*(m:Int) by lia,show((2*m+1:Nat):Int)=2*(m:Int)+1 by lia]
  grind
open Classical in
def kj(k:NetV n rs ts)(h:JX rs ts Y p)(x y:Rat):∃l:List Rat,(∀(j:Nat) (r:AX),rs[j]?=some r->l[j]?=some (if Ez p Y j r x y then 1 else 0))/\l.length=rs.length/\(∀a∈l,a=0\/a=1)/\l.sum=((if 0<=x then (1:Rat) else 0)-(if p (2*(rs.length:Int)+1)<=x then 1 else 0))*((if y<Y 0 then 1 else 0)-(if y<Y 1 then 1 else 0)):=by
 have T:=k.tn;obtain⟨q1,q2,q3⟩:=jF rs;have o:=k.mH (s:=λe=>if p e<=x then 1 else 0) (λe F=>by show(if p (AQ ts e)<=x then (1:Rat) else 0)=_;rw[h.MA e F]) (λq=>if y<Y q then 1 else 0);have pm:ts.flatten.Perm ((og (2*(rs.length+1))).map λe:Nat=>(e:Int)):=(tY T.nd (by
  rw[ug,rB];exact tF (λh e=>h (by lia)) tH)).mpr λe=>by
  rw[T.mem,n8];exact⟨λF=>⟨e.toNat,o7.mpr (by have:=F.1;have:=F.2;push_cast at this;lia),by have:=F.1;lia⟩,λ⟨j,O,e⟩=>by have:=o7.mp O;rw[<-e];exact⟨by lia,by push_cast;lia⟩⟩
 have ev:∀j:Nat,AN (2*(j:Int))=2*(j:Int)+1/\AN (2*(j:Int)+1)=2*(j:Int):=λj=>⟨Hi _,JO _⟩
 rw[J2 (pm.map _),R3,rV,oh,sN]at o;simp only[n9,p9,oJ,qV]at o;rw[(ev _).1,(ev _).2,q2,q3,h.o]at o;exists rs.mapIdx λj r=>if Ez p Y j r x y then 1 else 0,λj r O=>by rw[wU,O];rfl,aaw,λa ha=>?_
 ·obtain⟨i,hi,rfl⟩:=abB.mp ha;split
  ·exact .inr rfl
  ·exact .inl rfl
 have e:((og rs.length).map λj:Nat=>(λe:Int=>(if p e<=x then (1:Rat) else 0)*((if y<Y (DE rs e) then 1 else 0)-(if y<Y (DE rs (AN e)) then 1 else 0))) (2*(j:Int))+(λe:Int=>(if p e<=x then (1:Rat) else 0)*((if y<Y (DE rs e) then 1 else 0)-(if y<Y (DE rs (AN e)) then 1 else 0))) (2*(j:Int)+1))=(rs.mapIdx λj r=>if Ez p Y j r x y then (1:Rat) else 0).map λa=>(-1)*a:=by
  refine wD (by simp) λj h1 h2=>?_
  have O:j<rs.length:=by simpa using h1
  have hr:=nj O;rw[abj,xU,abj,List.getElem_mapIdx];dsimp only;rw[(ev j).1,(ev j).2,(q1 j _ hr).1,(q1 j _ hr).2]
  have:=ind (x:=x) (y:=y) (yE _ _ |>.mpr (by have:=(k.Kf _ (nz hr)).1.pos;simpa using this)) (h.df j _ hr)
  unfold Ez
  grind
 have sc:∀l:List Rat,(l.map λa=>(-1)*a).sum=(-1)*l.sum:=λl=>by
  induction l with
  |nil=>simp
  |cons a l ih=>rw[n9,oJ,oJ,ih];grind
 rw[e,sc]at o
 grind
def FC(a b:Rat):BX a b<=BY a b/\BX a b<=a/\BX a b<=b/\a<=BY a b/\b<=BY a b/\(BX a b=a\/BX a b=b)/\(BY a b=a\/BY a b=b)/\(BX a b=BY a b->a=b)/\((BY a b-BX a b)=a-b\/(BY a b-BX a b)=b-a):=by
 unfold BX BY;by_cases z:b<a
 ·simp only[nX z];grind
 ·simp only[nS z];grind
structure Je(n:Nat)(rs:List AX)(Y:Nat->Rat)(p:Int->Rat)(W U:Rat):Prop where
 ip:∀x,AJ (2*rs.length+2) x->0<=p x/\p x<=W
 iy:∀q,q<n->0<=Y q/\Y q<=U
 Ae:∀x y,0<=x->x<W->0<=y->y<U->∃(j:Nat) (r:AX),rs[j]?=some r/\Ez p Y j r x y
 Bt:∀(i j:Nat) (r r':AX) (x y:Rat),i<j->rs[i]?=some r->rs[j]?=some r'->Ez p Y i r x y->Ez p Y j r' x y->False
 ea:∀(j:Nat) (r:AX),rs[j]?=some r->BY (p (2*(j:Int))) (p (2*(j:Int)+1))-BX (p (2*(j:Int))) (p (2*(j:Int)+1))=r.2.2*(BY (Y r.1) (Y r.2.1)-BX (Y r.1) (Y r.2.1))
variable {W U:Rat}
open Classical in
def m9(N:L0 n rs ts)(h:JX rs ts Y p)(hW:p (2*(rs.length:Int)+1)=W)(w0:0<W)(y0:Y 0=U)(y1:Y 1=0)(u0:0<U):Je n rs Y p W U:=by
 have k:=N.toNetV;have e0:∀r∈rs,0<r.2.2:=λr O=>yE _ _ |>.mpr (by have:=(k.Kf r O).1.pos;simpa using this)
 have sg:∀(j:Nat) (r:AX),rs[j]?=some r->(Y r.2.1<Y r.1↔p (2*(j:Int)+1)<p (2*(j:Int)))/\(Y r.1<Y r.2.1↔p (2*(j:Int))<p (2*(j:Int)+1)):=λj r F=>Ov (e0 r (nz F)) (h.df j r F)
 have aa:∀x y,∃l:List Rat,(∀(j:Nat) (r:AX),rs[j]?=some r->l[j]?=some (if Ez p Y j r x y then 1 else 0))/\l.length=rs.length/\(∀a∈l,0<=a)/\(∀a∈l,a=0\/a=1)/\l.sum=if 0<=x/\x<W/\0<=y/\y<U then 1 else 0:=λx y=>by
  obtain⟨l,h1,h2,h3,h4⟩:=kj k h x y;refine⟨l,h1,h2,λa ha=>by rcases h3 a ha with z|z<;>rw[z]<;>decide,h3,?_⟩;rw[h4,hW,y0,y1];split<;>split<;>split<;>split<;>split<;>grind
 have out:∀(j:Nat) (r:AX) (x y:Rat),rs[j]?=some r->Ez p Y j r x y->0<=x/\x<W/\0<=y/\y<U:=λj r x y F hi=>by
  obtain⟨l,h1,_,h3,_,h4⟩:=aa x y
  have:=(P9 h3).2 (h1 j r F)
  rw[nX hi,h4]at this;split at this
  ·assumption
  ·grind
 have ab:∀(j:Nat) (r:AX),rs[j]?=some r->p (2*(j:Int))≠p (2*(j:Int)+1)\/Y r.1≠Y r.2.1->(0<=p (2*(j:Int))/\0<=p (2*(j:Int)+1)/\p (2*(j:Int))<=W/\p (2*(j:Int)+1)<=W)/\0<=Y r.1/\0<=Y r.2.1/\Y r.1<=U/\Y r.2.1<=U:=λj r F ne=>by
  obtain⟨s1,s2⟩:=sg j r F;obtain⟨a1,a2,a3,a4,a5,a6,a7,a8,_⟩:=FC (p (2*(j:Int))) (p (2*(j:Int)+1));obtain⟨b1,b2,b3,b4,b5,b6,b7,b8,_⟩:=FC (Y r.1) (Y r.2.1);have o:=out j r;unfold Ez at o;generalize BX (p (2*(j:Int))) (p (2*(j:Int)+1))=l at *;generalize BY (p (2*(j:Int))) (p (2*(j:Int)+1))=g at *;generalize BX (Y r.1) (Y r.2.1)=d at *;generalize BY (Y r.1) (Y r.2.1)=u at *;have lg:l<g:=by grind
  have du:d<u:=by grind
  have o1:=o l d F ⟨by grind,lg,by grind,du⟩;have o2:g<=W:=by
   by_cases z:W<g
   ·have:=o (if l<=W then W else l) d F ⟨by grind,by grind,by grind,du⟩
    grind
   ·grind
  have o3:u<=U:=by
   by_cases z:U<u
   ·have:=o l (if d<=U then U else d) F ⟨by grind,lg,by grind,by grind⟩
    grind
   ·grind
  grind
 refine⟨λx hx=>?_,λq hq=>?_,λx y x0 x1 ac ae=>?_,λi j r r' x y ad hi F h1 h2=>?_,λj r F=>?_⟩
 ·refine N.JJ (λx=>0<=p x/\p x<=W) (λx hx=>by rw[h.MA x hx]) (λj F=>?_) (by rw[h.o];grind) x hx;by_cases z:p (2*(j:Int))=p (2*(j:Int)+1)
  ·rw[z]
  ·have:=(ab j _ (nj F) (.inl z)).1
   grind
 ·refine k.DU (λq=>0<=Y q/\Y q<=U) (by rw[y0];grind) (λr O=>?_) q hq;obtain⟨j,F⟩:=tj.mp O;by_cases z:Y r.1=Y r.2.1
  ·rw[z]
  ·have:=(ab j r F (.inr z)).2
   grind
 ·obtain⟨l,h1,h2,h3,h4,h5⟩:=aa x y;rw[nX ⟨x0,x1,ac,ae⟩]at h5;refine ue λz=>?_
  have:∀a∈l,a=0:=λa ha=>by
   obtain⟨j,F⟩:=tj.mp ha;have jl:=(nq.mp F).1;have O:=nj (show j<rs.length by lia)
   have:=h1 j _ O
   rw[nS (λy=>z ⟨j,_,O,y⟩),F]at this;exact oy this
  rw[show l=nY l.length 0 from List.eq_replicate_iff.mpr ⟨J,this⟩]at h5;have s0:∀m:Nat,(nY m (0:Rat)).sum=0:=λm=>by induction m with|zero=>rfl|succ m ih=>rw[pE,oJ,ih];grind
  rw[s0]at h5;exact absurd h5 (by decide)
 ·obtain⟨l,f1,_,f3,_,f5⟩:=aa x y
  have:=Uj f3 ad (f1 i r hi) (f1 j r' F)
  rw[nX h1,nX h2,f5]at this;split at this<;>grind
 ·obtain⟨s1,s2⟩:=sg j r F;have df:=h.df j r F;unfold Au at df;unfold BX BY;by_cases z:Y r.2.1<Y r.1
  ·rw[nX z,nX z,nX (s1.mp z),nX (s1.mp z)];exact df
  ·rw[nS z,nS z,nS (λy=>z (s1.mpr y)),nS (λy=>z (s1.mpr y))];grind
def Je.kd(g:Je n rs Y p W U)(F:rs[j]?=some r)(O:0<r.2.2):(BX (p (2*(j:Int))) (p (2*(j:Int)+1))=BY (p (2*(j:Int))) (p (2*(j:Int)+1))/\BX (Y r.1) (Y r.2.1)=BY (Y r.1) (Y r.2.1))\/(BX (p (2*(j:Int))) (p (2*(j:Int)+1))<BY (p (2*(j:Int))) (p (2*(j:Int)+1))/\BX (Y r.1) (Y r.2.1)<BY (Y r.1) (Y r.2.1)):=by
 have b:=(FC (Y r.1) (Y r.2.1)).1;obtain⟨s1,_⟩:=Ov O (g.ea j r F);have e:=g.ea j r F;by_cases z:BX (Y r.1) (Y r.2.1)=BY (Y r.1) (Y r.2.1)
 ·left
  rw[z]at e;exact⟨by grind,z⟩
 ·exact .inr ⟨s1.mp (by grind),by grind⟩
def jr(B0:0<B)(ha:(a.den:Int) ∣ B)(hb:(b.den:Int) ∣ B):wh B a<wh B b↔a<b:=by
 have e1:=LR ha;have O:=LR hb;have F:(0:Rat)<(B:Rat):=by exact_mod_cast B0
 rw[<-Rat.intCast_lt_intCast,e1,O];exact⟨λh=>ue λz=>by have:=Rat.mul_le_mul_of_nonneg_left (show b<=a by grind) (xh F);grind,λh=>Rat.mul_lt_mul_of_pos_left h F⟩
def Je.mh(g:Je n rs Y p W U)(e0:∀r∈rs,0<r.2.2/\r.1<n/\r.2.1<n)(w0:0<W)(u0:0<U)(B0:0<B)(hB:∀q∈IW W U (Em p Y rs),(q.den:Int) ∣ B):0<wh B W/\0<wh B U/\OB (wh B W) (wh B U) ((Em p Y rs).map (Jj B)):=by
 have dW:=hB W (by simp);have dU:=hB U (by simp);have d0:((0:Rat).den:Int) ∣ B:=zp _;have z0:wh B 0=0:=by unfold wh;rw[show(0:Rat).num=0 from rfl,Int.zero_mul]
 have bm:∀{j:Nat} {r:AX},rs[j]?=some r->∀q∈EV p Y j r,(q.den:Int) ∣ B:=λ{j r} O q hq=>hB q (by simp only[oj];exact .inr (.inr (oI.mpr ⟨_,nz (J5 O),hq⟩)))
 have ac:∀{j:Nat} {b:Bx},((Em p Y rs).map (Jj B))[j]?=some b->∃r,rs[j]?=some r/\b=Jj B (EV p Y j r):=λ{j b} h=>by
  rw[nV]at h;obtain⟨x,hx,rfl⟩:=rP.mp h;unfold Em at hx;rw[wU]at hx;obtain⟨r,hr,rfl⟩:=rP.mp hx;exact⟨r,hr,J⟩
 have F:=λ{a b:Rat} (ha:(a.den:Int) ∣ B) (hb:(b.den:Int) ∣ B)=>jr B0 ha hb
 have ab:∀{j:Nat} {r:AX},rs[j]?=some r->∃l d g u:Rat,l=BX (p (2*(j:Int))) (p (2*(j:Int)+1))/\d=BX (Y r.1) (Y r.2.1)/\g=BY (p (2*(j:Int))) (p (2*(j:Int)+1))/\u=BY (Y r.1) (Y r.2.1)/\Jj B (EV p Y j r)=⟨wh B l,wh B d,wh B g,wh B u⟩/\(l.den:Int) ∣ B/\(d.den:Int) ∣ B/\(g.den:Int) ∣ B/\(u.den:Int) ∣ B:=λ{j r} O=>by
  have b:=bm O;exact⟨_,_,_,_,J,J,J,J,J,b _ (by simp[EV]),b _ (by simp[EV]),b _ (by simp[EV]),b _ (by simp[EV])⟩
 refine⟨by have:=(F d0 dW).mpr w0;lia,by have:=(F d0 dU).mpr u0;lia,λb hb=>?_,λb hb=>?_,λi j b c al hi O=>?_,λx y x0 x1 ak aq=>?_⟩
 ·obtain⟨j,O⟩:=tj.mp hb;obtain⟨r,hr,rfl⟩:=ac O;obtain⟨l,d,g',u,el,ed,eg,eu,e,k1,k2,k3,k4⟩:=ab hr;have kd:=g.kd hr (e0 r (nz hr)).1;rw[<-el,<-ed,<-eg,<-eu]at kd;rw[e];rcases kd with ⟨h1,h2⟩|⟨h1,h2⟩
  ·rw[h1,h2];exact .inr ⟨J,J⟩
  ·exact .inl ⟨(F k1 k3).mpr h1,(F k2 k4).mpr h2⟩
 ·obtain⟨j,O⟩:=tj.mp hb;obtain⟨r,hr,rfl⟩:=ac O;have jl:=(nq.mp hr).1;obtain⟨l,d,g',u,el,ed,eg,eu,e,k1,k2,k3,k4⟩:=ab hr;obtain⟨_,q1,q2⟩:=e0 r (nz hr);have p0:=g.ip (2*(j:Int)) ⟨by lia  ,by push_cast; lia  ⟩;have p1:=g.ip (2*(j:Int)+1) ⟨by lia  ,by push_cast; lia  ⟩;have y0:=g.iy _ q1;have y1:=g.iy _ q2;obtain⟨_,_,_,_,_,a6,a7,_⟩:=FC (p (2*(j:Int))) (p (2*(j:Int)+1));obtain⟨_,_,_,_,_,b6,b7,_⟩:=FC (Y r.1) (Y r.2.1);rw[<-el] at a6; rw[<-eg] at a7; rw[<-ed] at b6; rw[<-eu] at b7;have ge:∀{a b:Rat},(a.den:Int) ∣ B->(b.den:Int) ∣ B->a<=b->wh B a<=wh B b:=λha hb h=>by
   have:=mt (F hb ha).mp (by grind)
   lia
  have c1:=ge d0 k1 (by rcases a6 with z|z<;>rw[z]<;>grind);have c2:=ge d0 k2 (by rcases b6 with z|z<;>rw[z]<;>grind);rw[z0]at c1 c2;rw[e];exact⟨c1,c2,ge k3 dW (by rcases a7 with z|z<;>rw[z]<;>grind),ge k4 dU (by rcases b7 with z|z<;>rw[z]<;>grind)⟩
 ·obtain⟨r,hr,rfl⟩:=ac hi;obtain⟨r',ai,rfl⟩:=ac O;obtain⟨l,d,g1,u,el,ed,eg,eu,e,k1,k2,k3,k4⟩:=ab hr;obtain⟨l',d',g2,u',am,ao,aj,ap,e',ag,ad,ah,ae⟩:=ab ai;rw[e,e'];intro z1 z2;dsimp only at z1 z2;have a1:=(F k1 k3).mp (by lia);have a2:=(F k1 ah).mp (by lia);have a3:=(F ag k3).mp (by lia);have a4:=(F ag ah).mp (by lia);have b1:=(F k2 k4).mp (by lia);have b2:=(F k2 ae).mp (by lia);have b3:=(F ad k4).mp (by lia);have b4:=(F ad ae).mp (by lia);refine g.Bt i j r r' (if l<l' then l' else l) (if d<d' then d' else d) al hr ai ?_ ?_
  ·unfold Ez;rw[<-el,<-ed,<-eg,<-eu];grind
  ·unfold Ez;rw[<-am,<-ao,<-aj,<-ap];grind
 ·have b0:(0:Rat)<(B:Rat):=by exact_mod_cast B0
  have bi:(0:Rat)<(B:Rat)⁻¹:=Rat.inv_pos.mpr b0;have bb:(B:Rat)*(B:Rat)⁻¹=1:=aaG _ (by grind);have aa:∀{z:Int} {q:Rat},(q.den:Int) ∣ B->((z<wh B q↔(z:Rat)*(B:Rat)⁻¹<q)/\(wh B q<=z↔q<=(z:Rat)*(B:Rat)⁻¹)):=λ{z q} hq=>by
   have e:=LR hq;have af:z<wh B q↔(z:Rat)*(B:Rat)⁻¹<q:=by
    rw[<-Rat.intCast_lt_intCast,e];constructor
    ·intro h
     have:=xX h bi
     rwa [tQ (B:Rat) q,aab,bb,aba]at this
    ·intro h
     have:=xX h b0
     rwa [aab,tQ _ (B:Rat),bb,aba,tQ q]at this
   exact⟨af,by rw[<-Int.not_lt,af];grind⟩
  have xx:(0:Rat)<=(x:Rat)*(B:Rat)⁻¹:=qT (by exact_mod_cast x0) (xh bi);have yy:(0:Rat)<=(y:Rat)*(B:Rat)⁻¹:=qT (by exact_mod_cast ak) (xh bi);obtain⟨j,r,O,i1,i2,i3,i4⟩:=g.Ae _ _ xx ((aa dW).1.mp x1) yy ((aa dU).1.mp aq);obtain⟨l,d,g',u,el,ed,eg,eu,e,k1,k2,k3,k4⟩:=ab O;rw[<-el]at i1;rw[<-eg]at i2;rw[<-ed]at i3;rw[<-eu]at i4;refine⟨Jj B (EV p Y j r),nz (i:=j) (by rw[nV,J5 O];rfl),?_⟩;rw[e];exact⟨(aa k1).2.mpr i1,(aa k3).1.mpr i2,(aa k2).2.mpr i3,(aa k4).1.mpr i4⟩
end
end My
namespace L2
open PySem PySem.Spec PyProof.Rows My
section
variable {X:Cx}
inductive kW(x y:V)(H:Hp)(Q:VK):Prop
 |mk (p q:Addr) (a b:Rat) (O:x=.ref p) (h1:y=.ref q) (h2:AR H p a) (h3:AR H q b) (F:Q (.bl (decide (a=b))) H)
inductive kX(x y:V)(H:Hp)(Q:VK):Prop
 |mk (p q:Addr) (a b:Rat) (O:x=.ref p) (h1:y=.ref q) (h2:AR H p a) (h3:AR H q b) (F:Q (.bl (!decide (a=b))) H)
def OM(q:Rat):(F8 q).canLay0=true/\(F8 q).depth<=64:=⟨jM q,oC (eK q) (by decide)⟩
def KD(O:X.A.units+64<cLine):Bf X (rH .Eq) kW:=by
 intro gt s σ H x y v u Q I F ry h;obtain⟨p,q,a,b,rfl,rfl,hp,hq,k⟩:=h;refine g9 O gt s σ H _ _ v u Q I F ry ⟨_,_,Ni hp,Ni hq,OM a,OM b,?_⟩;rw[show w9 (F8 a) (F8 b)=_ from Uo a b];exact k
def VP(O:X.A.units+64<cLine):Bf X (rH .NotEq) kX:=by
 intro gt s σ H x y v u Q I F ry h;obtain⟨p,q,a,b,rfl,rfl,hp,hq,k⟩:=h;refine U1 O gt s σ H _ _ v u Q I F ry ⟨_,_,Ni hp,Ni hq,OM a,OM b,?_⟩;rw[show w9 (F8 a) (F8 b)=_ from Uo a b];exact k
end
end L2
namespace My
open PySem L2 Mth Wd
section
variable {P:o6}{w:World}{K:nT}{mg:Str->Option Value}{base:Heap}{f g h f1 f2 f3:Addr}{fd gd hd d1 d2 d3:qy}
def QH(O:BN b)(b0:0<b)(e:BV t b=fr q)(k:N3 H Q q):IK [.int t,.int b] H Q E:=by
 exists t,b,J,b0,O;have F:=Gs t b (by lia);have e3:((t:Rat) / (b:Rat))=q:=by
  rw[e]at F;have h1:=congrArg zW F;have h2:=congrArg abr F;simp only[fr]at h1 h2;exact(Rat.ext h1 (by lia)).symm
 rw[e3];exact k
def Qw(x y:Rat):0<(x.den:Int)*(y.den:Int):=xK (by have:=x.den_nz;lia) (by have:=y.den_nz;lia)
def kY:Ar ["_law_a","_law_b"] ["_law_a","_law_b"] (Ah s_law_minus):=Ay
def YY(F:Ak K "_law_minus" "_law_minus" s_law_minus f fd)(G:AZ P w K mg base 2 "_law_fraction" ["_law_top","_law_bottom"] IK):
  Ag P w K mg base Ap 3 f fd ["_law_a","_law_b"] (CY λx y=>x-y):=by
 refine F.A1 kY λim A _ s H vs Q E hr h=>?_
 obtain⟨p,q,x,y,rfl,hp,hq,O,sy,k⟩:=h;exists _,AS (Ai (AV G (AA (AM C7 (AM CK (pT (pv 0) AB) (pT (pv 1) AB)) (AM CK (pT (pv 1) AB) (pT (pv 0) AB))) (AA (AM CK (pT (pv 0) AB) (pT (pv 1) AB)) AD))));exact⟨_,J,p,_,_,_,J,J,AH.of hp,BE,_,J,q,_,_,_,J,J,AH.of hq,As,_,_,J,J,⟨O.n,sy.d⟩,_,J,q,_,_,_,J,J,AH.of hq,BE,_,J,p,_,_,_,J,J,AH.of hp,As,_,_,J,J,⟨sy.n,O.d⟩,_,_,J,J,
  _,J,p,_,_,_,J,J,AH.of hp,As,_,J,q,_,_,_,J,J,AH.of hq,As,_,_,J,J,⟨O.d,sy.d⟩,QH (Sf.dd O sy) (Qw x y) (P4 x y) k⟩
def lD:Ar ["_law_a","_law_b"] ["_law_a","_law_b"] (Ah s_law_times):=Ay
def Y6(F:Ak K "_law_times" "_law_times" s_law_times f fd)(G:AZ P w K mg base 2 "_law_fraction" ["_law_top","_law_bottom"] IK):
  Ag P w K mg base Ap 3 f fd ["_law_a","_law_b"] (CY λx y=>x*y):=by
 refine F.A1 lD λim A _ s H vs Q E hr h=>?_
 obtain⟨p,q,x,y,rfl,hp,hq,O,sy,k⟩:=h;exists _,AS (Ai (AV G (AA (AM CK (pT (pv 0) AB) (pT (pv 1) AB)) (AA (AM CK (pT (pv 0) AB) (pT (pv 1) AB)) AD))));exact⟨_,J,p,_,_,_,J,J,AH.of hp,BE,_,J,q,_,_,_,J,J,AH.of hq,BE,_,_,J,J,⟨O.n,sy.n⟩,
  _,J,p,_,_,_,J,J,AH.of hp,As,_,J,q,_,_,_,J,J,AH.of hq,As,_,_,J,J,⟨O.d,sy.d⟩,QH (Sf.dd O sy) (Qw x y) (QI x y) k⟩
def fm{t b:Int}(t0:0<t)(t1:t<=2 ^ 30)(b0:0<b)(b1:b<=2 ^ 30):Sb 30 30 ((t:Rat) / (b:Rat))/\0<(t:Rat) / (b:Rat):=by
 have e:=Gs t b (by lia);have O:=SO t b (by lia);have F:=Ry t b (by lia);rw[e]at O F;dsimp only at O F;exact⟨⟨by lia,by lia⟩,by rw[Rat.div_def];exact abb (by exact_mod_cast t0) (Rat.inv_pos.mpr (by exact_mod_cast b0))⟩
inductive TZ(vs:List V)(H:Hp)(Q:VK)(_:XK):Prop
 |mk (z:Int) (O:vs=[.int z]) (F:∀p H' q,AO H H'->AR H' p q->Sb 30 30 q/\0<q->Q (.ref p) H')
def WS:Ar ["_law_c","_law_most"] ["_law_c"] (Ah s_law_fall):=Ay
def bK(F:Ak K "_law_fall" "_law_fall" s_law_fall f fd)(G:AZ P w K mg base 2 "_law_fraction" ["_law_top","_law_bottom"] IK):
  Ag P w K mg base Ap 3 f fd ["_law_c"] TZ:=by
 refine F.A1 WS λim A _ s H vs Q E hr h=>?_
 obtain⟨z,rfl,q⟩:=h;exists _,AL (BL (BP DX (AM B9 (pv 0) AB) AB) (AS (Ai (BS (AA AB (AA AB AD))))) BR)
  (AL (AW 1 WS (pL (CG (AA AB (AA AB AD))) (AM C7 (AM B9 (pv 0) AB) AB)))
  (AS (Ai (AV G (AA (AM BK AB (AM B9 (AM Eh (pv 0) AB) (pv 1))) (AA (AM BK AB (AM B9 (AM FV (AM Eh (pv 0) AB) (pv 1)) (pv 1))) AD))))))
 have c0:=qx z (show(3:Int)≠0 by decide);have c1:=qD z (show(0:Int)<3 by decide);refine⟨_,J,_,_,J,J,(show(0:Int)<3 by decide),J,_,J,?_⟩;by_cases hz:z%3=0
 ·refine C3 (iv hz) ⟨by exact Bk,λp hp=>?_⟩;exact q p _ 1 (AY hp _) AU ⟨⟨by decide,by decide⟩,by decide⟩
 refine CH (EB hz) ?_;obtain⟨u,aa,ac⟩:∃u,Bc [V.int 99,.int 999999999] (z%3-1)=some (.int u)/\(u=99\/u=999999999):=by
  rcases(by lia :z%3=1\/z%3=2)with e|e
  ·exact⟨99,by rw[e];exact BQ (j:=0) rfl,.inl rfl⟩
  ·exact⟨999999999,by rw[e];exact BQ (j:=1) rfl,.inr rfl⟩
 have O:0<u:=by lia
 have d3:Qg z 3:=⟨by decide,by decide⟩;refine⟨by exact Bk,λl1 h1=>?_⟩;refine⟨_,J,_,_,J,J,(show(0:Int)<3 by decide),_,_,J,J,l1,_,_,_,J,J,AI.of AU,aa,?_⟩;have s1:=AY h1 (.AE [.int 99,.int 999999999]);generalize AF H l1 (.AE [.int 99,.int 999999999])=H1 at s1;refine⟨_,J,_,_,J,J,d3,_,J,_,_,J,J,O,_,_,J,J,_,J,_,_,J,J,d3,_,J,_,_,J,J,⟨by lia,NM (n:=31) (by lia) (by decide)⟩,_,J,_,_,J,J,O,_,_,J,J,?_⟩;have a1:=qx (z / 3) (tu O);have a2:=qD (z / 3) O;have b1:=qx ((z / 3).fdiv u) (tu O);have b2:=qD ((z / 3).fdiv u) O;have ab:(2:Int) ^ 30=1073741824:=by decide
 exact⟨_,_,J,by lia,NM (n:=31) (by lia) (by decide),λp hp=>q p _ _ (s1.trans (AY hp _)) AU (fm (by lia) (by lia) (by lia) (by lia))⟩
def mG:Ar ["_law_a","_law_b"] ["_law_a","_law_b"] (Ah s_law_plus):=Ay
def Z3(F:Ak K "_law_plus" "_law_plus" s_law_plus f fd)(G:AZ P w K mg base 2 "_law_fraction" ["_law_top","_law_bottom"] IK):
  Ag P w K mg base Ap 3 f fd ["_law_a","_law_b"] (CY λx y=>x+y):=by
 refine F.A1 mG λim A _ s H vs Q E hr h=>?_
 obtain⟨p,q,x,y,rfl,hp,hq,O,sy,k⟩:=h;exists _,AS (Ai (AV G (AA (AM BK (AM CK (pT (pv 0) AB) (pT (pv 1) AB)) (AM CK (pT (pv 1) AB) (pT (pv 0) AB))) (AA (AM CK (pT (pv 0) AB) (pT (pv 1) AB)) AD))));exact⟨_,J,p,_,_,_,J,J,AH.of hp,BE,_,J,q,_,_,_,J,J,AH.of hq,As,_,_,J,J,⟨O.n,sy.d⟩,_,J,q,_,_,_,J,J,AH.of hq,BE,_,J,p,_,_,_,J,J,AH.of hp,As,_,_,J,J,⟨sy.n,O.d⟩,_,_,J,J,
  _,J,p,_,_,_,J,J,AH.of hp,As,_,J,q,_,_,_,J,J,AH.of hq,As,_,_,J,J,⟨O.d,sy.d⟩,QH (Sf.dd O sy) (Qw x y) (P7 x y) k⟩
def lW:Ar ["_law_a","_law_b"] ["_law_a","_law_b"] (Ah s_law_before):=Ay
def Xx(F:Ak K "_law_before" "_law_before" s_law_before f fd):Ag P w K mg base Ap 1 f fd ["_law_a","_law_b"] KA:=by
 refine F.A1 lW λim A _ s H vs Q E hr h=>?_
 obtain⟨p,q,x,y,rfl,hp,hq,O,sy,k⟩:=h;exists _,AS (Ai (Dc Fh (AM CK (pT (pv 0) AB) (pT (pv 1) AB)) (AM CK (pT (pv 1) AB) (pT (pv 0) AB))));rw[show decide (x<y)=decide (x.num*(y.den:Int)<y.num*(x.den:Int)) from decide_eq_decide.mpr (yE x y)]at k;exact⟨_,J,p,_,_,_,J,J,AH.of hp,BE,_,J,q,_,_,_,J,J,AH.of hq,As,_,_,J,J,⟨O.n,sy.d⟩,_,J,q,_,_,_,J,J,AH.of hq,BE,_,J,p,_,_,_,J,J,AH.of hp,As,_,_,J,J,⟨sy.n,O.d⟩,_,_,J,J,k⟩
def Nr(h:BB AR H p [x0,x1,x2,x3]):∃O c1 c2 c3:Addr,H p=some (.AG [.ref O,.ref c1,.ref c2,.ref c3])/\AR H O x0/\AR H c1 x1/\AR H c2 x2/\AR H c3 x3:=by
 obtain⟨cs,hp,F⟩:=h
 match cs,F.1 with
 |[O,c1,c2,c3],_=>exact⟨O,c1,c2,c3,hp,F.2 0 _ _ rfl rfl,F.2 1 _ _ rfl rfl,F.2 2 _ _ rfl rfl,F.2 3 _ _ rfl rfl⟩
structure Wl(a0 a1 a2 a3 W U e:Rat):Prop where
 s:Sf a0/\Sf a1/\Sf a2/\Sf a3
 sd:Sf (a2-a0)/\Sf (a3-a1)
 i:0<=a0/\0<=a1/\a2<=W/\a3<=U
 k:(a0=a2/\a1=a3)\/(a0<a2/\a1<a3)
 e:a2-a0=e*(a3-a1)
inductive VX(vs:List V)(H:Hp)(Q:VK)(_:XK):Prop
 |mk (p w u F:Addr) (a0 a1 O a3 W U e:Rat) (ab:vs=[.ref p,.ref w,.ref u,.ref F]) (ad:BB AR H p [a0,a1,O,a3]) (af:AR H w W) (ah:AR H u U) (ae:AR H F e) (ag:Sf W/\Sf U/\Sf e) (ac:Wl a0 a1 O a3 W U e) (aa:∀H',AO H H'->Q (.bl true) H')
def Lq:Ar ["_law_one","_law_width","_law_height","_law_ease_here","_law_left","_law_low","_law_right","_law_high"] ["_law_one","_law_width","_law_height","_law_ease_here"] (Ah s_law_lies):=Ay
seal L2.Cy L2.PS L2.PE L2.PA in
def ft(F:Ak K "_law_lies" "_law_lies" s_law_lies f fd)(G1:AZ P w K mg base 1 "_law_before" ["_law_a","_law_b"] KA)(G2:AZ P w K mg base 3 "_law_minus" ["_law_a","_law_b"] (CY λx y=>x-y))(G3:AZ P w K mg base 3 "_law_times" ["_law_a","_law_b"] (CY λx y=>x*y)):
  Ag P w K mg base Ap 4 f fd ["_law_one","_law_width","_law_height","_law_ease_here"] VX:=by
 refine F.A1 Lq λim A _ s H vs Q E hr h=>?_
 obtain⟨p,wa,ua,ea,a0,a1,a2,a3,W,U,e,rfl,hp,hW,hU,he,⟨sW,sU,se⟩,L,q⟩:=h;have hu:=hr.units;exists _,AL (Dg (pv 0) (Cp (n:=4) rfl (BH (Az 4 Lq) (BH (Az 5 Lq) (BH (Az 6 Lq) (BH (Az 7 Lq) Cn))))))
  (AL (BL (PW.pt (EO (C1 (AV G1 (AA (pv 4) (AA (BS (AA AB (AA AB AD))) AD)))) (FA (C1 (AV G1 (AA (pv 5) (AA (BS (AA AB (AA AB AD))) AD))))))) D2 BR)
  (AL (BL (PW.pt (EO (C1 (AV G1 (AA (pv 1) (AA (pv 6) AD)))) (FA (C1 (AV G1 (AA (pv 2) (AA (pv 7) AD))))))) D2 BR)
  (AL (BL (PW.pt (QC (BP (KD hu) (pv 4) (pv 6)) (PY (BP (KD hu) (pv 5) (pv 7))))) (AS (Ai GR)) BR)
  (AL (BL (PW.pt (EO (Ei (C1 (AV G1 (AA (pv 4) (AA (pv 6) AD))))) (FA (Ei (C1 (AV G1 (AA (pv 5) (AA (pv 7) AD)))))))) D2 BR)
  (AS (Ai (Dc (KD hu) (AV G2 (AA (pv 6) (AA (pv 4) AD))) (AV G3 (AA (pv 3) (AA (AV G2 (AA (pv 7) (AA (pv 5) AD))) AD))))))))))
 obtain⟨c0,c1,c2,c3,ah,f0,f1,f2,f3⟩:=Nr hp;obtain⟨s0,s1,s2,s3⟩:=L.s;obtain⟨i0,i1,i2,i3⟩:=L.i;have n0:∀{x y:Rat},y<=x->decide (x<y)=false:=λh=>qi (by grind)
 exists _,J,p,_,J,AH.of ah,J,_,_,J,_,_,J,_,_,J,_,_,J,rfl;refine⟨_,J,by exact Bk,λz1 ag=>?_⟩;refine EW ag 0 λH1 t1 e1=>?_
 exists c0,z1,a0,0,J,t1 _ _ f0,e1,s0,OG;rw[n0 i0];refine⟨_,J,Bj ⟨_,J,by exact Bk,λz2 ad=>?_⟩⟩;refine EW ad 0 λH2 t2 e2=>?_
 have O:=t1.trans t2;exists c1,z2,a1,0,J,O _ _ f1,e2,s1,OG;rw[n0 i1];refine⟨_,J,Bj ⟨_,J,_,J,wa,c2,W,a2,J,O _ _ hW,O _ _ f2,sW,s2,?_⟩⟩;rw[n0 i2];refine⟨_,J,Bj ⟨_,J,_,J,ua,c3,U,a3,J,O _ _ hU,O _ _ f3,sU,s3,?_⟩⟩;rw[n0 i3];refine⟨_,J,Bj ⟨_,J,_,J,c0,c2,a0,a2,J,J,O _ _ f0,O _ _ f2,?_⟩⟩;rcases L.k with ⟨k1,k2⟩|⟨k1,k2⟩
 ·rw[pR k1];refine⟨_,J,D8 ⟨_,J,_,J,c1,c3,a1,a3,J,J,O _ _ f1,O _ _ f3,?_⟩⟩;rw[pR k2];exact⟨_,J,D8 (q _ O)⟩
 ·rw[qi (show ¬a0=a2 by grind)];refine⟨_,J,Bj ⟨_,J,_,J,c0,c2,a0,a2,J,O _ _ f0,O _ _ f2,s0,s2,?_⟩⟩;rw[pR k1];refine⟨_,J,Bj ⟨_,J,_,J,c1,c3,a1,a3,J,O _ _ f1,O _ _ f3,s1,s3,?_⟩⟩;rw[pR k2];refine⟨_,J,Bj ⟨_,J,_,J,c2,c0,a2,a0,J,O _ _ f2,O _ _ f0,s2,s0,λd1 af=>?_⟩⟩;refine EW af (a2-a0) λH3 t3 e3=>?_
  have aa:=O.trans t3;refine⟨_,J,_,J,_,J,c3,c1,a3,a1,J,aa _ _ f3,aa _ _ f1,s3,s1,λd2 ae=>?_⟩;refine EW ae (a3-a1) λH4 t4 e4=>?_
  have ab:=aa.trans t4;refine⟨ea,d2,e,a3-a1,J,ab _ _ he,e4,se,L.sd.2,λd3 ac=>?_⟩;refine EW ac (e*(a3-a1)) λH5 t5 e5=>?_
  exists d1,d3,_,_,J,J,An (t4.trans t5) e3,e5;rw[pR L.e];exact q _ (ab.trans t5)
inductive Vq(vs:List V)(H:Hp)(Q:VK)(_:XK):Prop
 |mk (p q:Addr) (a0 a1 O a3 b0 b1 F b3:Rat) (aa:vs=[.ref p,.ref q]) (ab:BB AR H p [a0,a1,O,a3]) (ad:BB AR H q [b0,b1,F,b3]) (af:∀x∈[a0,a1,O,a3,b0,b1,F,b3],Sf x) (ac:a0≠O->b0≠F->a0<F->b0<O->a1<b3->b1<a3->False) (ae:∀H',AO H H'->Q (.bl true) H')
def Wg:Ar ["_law_one","_law_far","_law_k"] ["_law_one","_law_far"] (Ah s_law_apart):=Ay
seal L2.Cy L2.PS L2.PE L2.PA in
def aT(F:Ak K "_law_apart" "_law_apart" s_law_apart f fd)(G1:AZ P w K mg base 1 "_law_before" ["_law_a","_law_b"] KA):Ag P w K mg base Ap 2 f fd ["_law_one","_law_far"] Vq:=by
 refine F.A1 Wg λim A _ s H vs Q E hr h=>?_
 obtain⟨p,q,a0,a1,a2,a3,b0,b1,b2,b3,rfl,hp,hq,sf,no,k⟩:=h;have hu:=hr.units;exists _,AL (BL (PW.pt (EO (BP (KD hu) (pT (pv 0) AB) (pT (pv 0) AB)) (FA (BP (KD hu) (pT (pv 1) AB) (pT (pv 1) AB))))) (AS (Ai GR)) BR)
  (AL (Bg oE rfl (Di (BS (AA AB (AA AB AD)))) (Az 2 Wg)
   (AS (BL (PW.pt (EO (Ei (C1 (AV G1 (AA (pT (pv 0) (pv 2)) (AA (pT (pv 1) (AM BK (pv 2) AB)) AD)))))
    (FA (Ei (C1 (AV G1 (AA (pT (pv 1) (pv 2)) (AA (pT (pv 0) (AM BK (pv 2) AB)) AD)))))))) (AS (Ai GR)) BR)))
  (AS (Ai GR)))
 obtain⟨c0,c1,c2,c3,ab,f0,f1,f2,f3⟩:=Nr hp;obtain⟨d0,d1,d2,d3,aa,g0,g1,g2,g3⟩:=Nr hq;exists _,J,p,_,_,_,J,J,AH.of ab,FE,_,J,p,_,_,_,J,J,AH.of ab,FL,c0,c2,a0,a2,J,J,f0,f2,_,rfl;refine Fs (λ_=>k _ (AO.refl _)) (λna=>?_);exists _,J,q,_,_,_,J,J,AH.of aa,FE,_,J,q,_,_,_,J,J,AH.of aa,FL,d0,d2,b0,b2,J,J,g0,g2,_,rfl;refine Fs (λ_=>k _ (AO.refl _)) (λnb=>?_);have ac:a0≠a2:=by simpa using na
 have ad:b0≠b2:=by simpa using nb
 refine⟨by exact Bk,λt ht=>?_⟩;refine BF ht (.AG [.int 0,.int 1]) λH1 O e1=>?_
 exists t,J,⟨_,AH.of e1⟩;refine ID (xs:=[.int 0,.int 1]) (λi σ H2=>H2=H1/\(∃u,σ=[some (.ref p),some (.ref q),u])/\(1<=i->a0<b2/\b0<a2)/\(2<=i->a1<b3/\b1<a3)) ⟨J,⟨none,J⟩,λz=>by omega,λz=>by omega⟩ (λi σ H2 _ ⟨e,_⟩=>by rw[e];exact AH.of e1) ?_ ?_
 ·rintro i x σ H2 hx ⟨rfl,⟨u,rfl⟩,w1,w2⟩
  match i,hx with
  |0,hx =>
   cases hx;refine⟨_,J,_,J,p,_,_,_,J,J,AH.of (O _ _ ab),FE,_,J,_,J,_,_,J,J,q,_,_,_,J,J,AH.of (O _ _ aa),FL,c0,d2,a0,b2,J,O _ _ f0,O _ _ g2,sf _ (by simp),sf _ (by simp),_,J,?_⟩;refine Fs (λ_=>k _ O) (λy1=>?_);refine⟨_,J,_,J,q,_,_,_,J,J,AH.of (O _ _ aa),FE,_,J,_,J,_,_,J,J,p,_,_,_,J,J,AH.of (O _ _ ab),FL,d0,c2,b0,a2,J,O _ _ g0,O _ _ f2,sf _ (by simp),sf _ (by simp),_,J,?_⟩;refine Fs (λ_=>k _ O) (λy2=>?_);exact⟨J,⟨_,J⟩,λ_=>⟨by simpa using y1,by simpa using y2⟩,λz=>by omega⟩
  |1,hx =>
   cases hx;refine⟨_,J,_,J,p,_,_,_,J,J,AH.of (O _ _ ab),Ge,_,J,_,J,_,_,J,J,q,_,_,_,J,J,AH.of (O _ _ aa),Gd,c1,d3,a1,b3,J,O _ _ f1,O _ _ g3,sf _ (by simp),sf _ (by simp),_,J,?_⟩;refine Fs (λ_=>k _ O) (λy1=>?_);refine⟨_,J,_,J,q,_,_,_,J,J,AH.of (O _ _ aa),Ge,_,J,_,J,_,_,J,J,p,_,_,_,J,J,AH.of (O _ _ ab),Gd,d1,c3,b1,a3,J,O _ _ g1,O _ _ f3,sf _ (by simp),sf _ (by simp),_,J,?_⟩;refine Fs (λ_=>k _ O) (λy2=>?_);exact⟨J,⟨_,J⟩,λ_=>w1 (by omega),λ_=>⟨by simpa using y1,by simpa using y2⟩⟩
  |i+2,hx=>simp at hx
 ·rintro σ H2 ⟨rfl,⟨u,rfl⟩,w1,w2⟩;obtain⟨z1,z2⟩:=w1 (by show 1<=2;decide);obtain⟨z3,z4⟩:=w2 (by show 2<=2;decide);exact(no ac ad z1 z2 z3 z4).elim
inductive Ue(vs:List V)(H:Hp)(Q:VK)(_:XK):Prop
 |mk (a:Addr) (ns:List Int) (F:Int) (aa:vs=[.ref a,.int F]) (ab:H a=some (.AE (ns.map V.int))) (ad:∀x∈ns,0<=x) (af:ns.length<=200) (ac:1<=F) (ae:F<=14) (ag:∀p O ta n rs us H',Bn a H H'->H' p=some (.AG [.int ((n:Nat):Int),.ref O,.ref ta])->BB Bw H' O rs->BB CZ H' ta us->L0 n rs us->Q (.ref p) H')
def kR:Ar ["_law_numbers_here","_law_most"] ["_law_numbers_here","_law_most"] (Ah s_law_some_net):=Ay
def bP (F:Ak K "_law_some_net" "_law_some_net" s_law_some_net f fd)(G1:AZ P w K mg base 1 "_law_next" ["_law_numbers_here"] N0)
  (G2:AZ P w K mg base 1 "_law_long" ["_law_cell"] UX)
  (G3:AZ P w K mg base 4 "_law_grown" ["_law_numbers_here","_law_most","_law_great"] Tj) :
  Ag P w K mg base Ap 5 f fd ["_law_numbers_here","_law_most"] Ue:=by
 refine F.A1 kR λim A _ s H vs Q E hr h=>?_
 obtain⟨a,ns,mo,rfl,ha,hp,hl,af,ae,q⟩:=h;exists _,AL (BL (BP DX (AM B9 (AV G1 (AA (pv 0) AD)) AB) AB) (AS (Ai (AV G2 (AA (AV G1 (AA (pv 0) AD)) AD)))) BR)
  (AS (Ai (AV G3 (AA (pv 0) (AA (pv 1) (AA AB AD))))))
 refine⟨_,J,a,ns,J,ha,hp,hl,λz ab H1 s1 ad ac aa _=>?_⟩;refine⟨_,_,J,J,(show(0:Int)<8 by decide),J,_,J,?_⟩;refine Fs (λ_=>?_) (λ_=>?_)
 ·exact⟨_,J,a,ab,J,ad,ac,aa,λz ag H2 s2 _ _ _ _=>⟨z,J,λp O ta n rs us H3 s3=>q p O ta n rs us H3 (s1.trans (s2.trans s3.b))⟩⟩
 ·exact⟨_,J,_,J,a,ab,mo,999,J,ad,ac,aa,af,ae,by decide,by decide,λp O ta n rs us H3 s3 h1 h2 h3 N D=>q p O ta n rs us H3 (s1.trans s3) h1 h2 h3 (N.q D)⟩
end
def Td(p:Int->Rat)(Y:Nat->Rat)(rs:List AX):∀r∈Em p Y rs,r.length=4:=λr F=>by
 unfold Em at F;obtain⟨k,O,rfl⟩:=abB.mp F;rfl
def Eb.mR(k:CO n m α β rs)(h:Eb n ((8+β*m+α)*n) rs X):Sf (A8 X rs 0):=by
 obtain⟨Z,N,z⟩:=h.Nl k
 have:=z.sum 0 rs.length (nQ _)
 rw[qc]at this;exact this.sf z.z0 z.zl (by have:=k.len;have:=k.hb.Kn;lia) z.nl
def jN(F:H a=some (.AG xs))(q:∀p H',AO H H'->H' p=some (.AG (C5 xs lo hi))->Q (.ref p) H'):QT [] (.ref a) lo hi H Q :=
 ⟨a,xs,J,AH.of F,λz=>q a H (AO.refl _) (by rw[F];unfold C5;rw[z.1,z.2];simp),λ_ p O=>q p _ (AY O _) AU⟩
def Sf.Eu(h:Sf q):Sf (-q):=⟨by rw[Rat.neg_num,vT];exact h.1,h.2⟩
def covD:qA:=.tuple [.str "covers"]
def Pe:covD.canLay0=true/\covD.depth<=64:=⟨by first|rfl|decide +kernel|(simp only[covD,zK,yv];decide),by first|decide|(simp[covD,w6,w8])⟩
def Ux(h:H p=some (.AG [.str "covers"])):EE H (.ref p) covD:=by
 refine .AG h rfl λi x d F O=>?_
 match i,F,O with
 |0,F,O=>cases F;cases O;exact .str _
 |n+1,F,O=>simp at F
section
variable {n:Nat}{rs:List AX}{ts:List (List Int)}{Y:Nat->Rat}{p:Int->Rat}{W U:Rat}
def Z7(k:CO n m α β rs)(h:Eb n B rs X):0<A8 X rs 0:=by
 have e:=Mj k.Bt X X;rw[K5 (i:=0) (by lia) (λl hl g=>?_),h.x0,Rat.one_mul]at e
 ·have O:∀r∈rs,0<=Au X r*(X r.1-X r.2.1):=λr F=>by
   have b:=qT (xh (k.pos r F)) (Vk (X r.1-X r.2.1));unfold Au;grind
  rw[e];refine Rat.lt_of_le_of_ne (Us O) λz=>?_
  have e2:=TM O z.symm;have c:X 1=1:=k.DU (λp=>X p=1) h.x0 (λr F=>by
   have e3:=e2 r F;unfold Au at e3;have pe:r.2.2≠0:=λz=>by have:=k.pos r F;rw[z]at this;exact absurd this ab1
   have e4:r.2.2*((X r.1-X r.2.1)*(X r.1-X r.2.1))=0:=by grind
   have e7:X r.1=X r.2.1:=by
    have e5:=(rX.mp e4).resolve_left pe;rcases rX.mp e5 with z|z<;>grind
   rw[e7]) 1 (by lia)
  rw[h.x1]at c;exact absurd c (by decide)
 ·rcases oM l 2 with z|z
  ·obtain rfl:l=1:=by lia
   rw[h.x1,aaH]
  ·rw[h.Ic l z hl,xj]
def Ec(Y:Nat->Rat)(r:AX):Rat:=Au Y r*(Y r.1-Y r.2.1)
def Je.ar(g:Je n rs Y p W U){j:Nat}(F:rs[j]?=some r):(BY (p (2*(j:Int))) (p (2*(j:Int)+1))-BX (p (2*(j:Int))) (p (2*(j:Int)+1)))*(BY (Y r.1) (Y r.2.1)-BX (Y r.1) (Y r.2.1))=Ec Y r:=by
 rw[g.ea j r F];unfold Ec Au;rcases(FC (Y r.1) (Y r.2.1)).2.2.2.2.2.2.2.2 with z|z<;>rw[z]<;>grind
def aK(k:NetV (n+2) rs ts)(h:JX rs ts Y p)(F:p (2*(rs.length:Int)+1)=W)(y0:Y 0=U)(y1:Y 1=0):(rs.map (Ec Y)).sum=W*U:=by
 have e:=Mj (n:=n+2) (λr hr=>(k.Kf r hr).2) Y Y;rw[K5 (i:=0) (by lia) (λl O g=>?_),Ot k h (by lia),nX rfl,y0,F]at e
 ·unfold Ec;rw[<-e];grind
 ·rcases oM l 2 with z|z
  ·obtain rfl:l=1:=by lia
   rw[y1,aaH]
  ·rw[Ot k h O,nS (by lia),nS (by lia),xj]
def ju(O:N9 rs Y Z N)(hZ:∀r∈rs,∃c:Int,(Z:Rat)*(Y r.1-Y r.2.1)=c/\c.natAbs<=2 ^ 2225)(ac:rs.length<=14):(∀r∈rs,Sf (Ec Y r))/\∀i,Sf ((rs.take i).map (Ec Y)).sum:=by
 have z2:(Z*Z).natAbs<=2 ^ 4480:=by rw[pA];exact oC (Ce O.zl O.zl) (pk (by decide) (by decide))
 have zz:Z*Z≠0:=rR O.z0 O.z0;have aa:∀r∈rs,Uw (Z*Z) 4460 1 (Ec Y r):=λr F=>by
  obtain⟨a,a1,a2⟩:=O.ru r F;obtain⟨c,c1,c2⟩:=hZ r F;refine⟨a*c,by rw[pj,pj,<-a1,<-c1];unfold Ec;grind,?_⟩;rw[uZ]at a2 ⊢
  have:=O.nl
  rw[pA];exact oC (Ce a2 c2) (pk (by decide) (by lia))
 have sf:∀{c:Nat} {q:Rat},Uw (Z*Z) 4460 c q->c<=64->Sf q:=λ{c q} ⟨k,h1,h2⟩ hc=>Jx zz h1 (oC h2 (oC (um _ hc) (by rw[show 64=2 ^ 6 from rfl,<-Nat.pow_add];exact pk (by decide) (by decide)))) z2
 have ab:∀l:List AX,(∀r∈l,r∈rs)->Uw (Z*Z) 4460 l.length (l.map (Ec Y)).sum:=λl=>by
  induction l with
  |nil=>exact λ_=>Uw.zero _ _
  |cons r l ih =>
   intro h;rw[n9,oJ,oP,uD];exact(aa r (h r (qh ..))).DZ (ih λr F=>h r (oY _ F))
 exact⟨λr F=>sf (aa r F) (by decide),λi=>sf (ab _ λr F=>vw F) (by rw[pS];lia)⟩
def dD(hg:Lg ts rs.length)(h:JX rs ts Y p)(wd:N9 rs Y Z N):∀x,AJ (2*rs.length+2) x->∃c:Int,(Z:Rat)*p x=c:=by
 refine hg (λx=>∃c:Int,(Z:Rat)*p x=c) (λx hx=>by rw[h.MA x hx]) (λj hj=>?_) ⟨0,by rw[h.o,xj];rfl⟩;have O:=nj hj;obtain⟨a,a1,_⟩:=wd.ru _ (nz O);have F:=h.df j _ O;constructor
 ·rintro⟨c,e⟩;exact⟨c-a,by rw[uU,<-e,<-a1,<-F];grind⟩
 ·rintro⟨c,e⟩;exact⟨c+a,by rw[xg,<-e,<-a1,<-F];grind⟩
end
section
variable {P:o6}{w:World}{K:nT}{mg:Str->Option Value}{base:Heap}{f:Addr}{fd:qy}
def Nb(K:nT):Sp:=λvs H Q _=>∃(a:Addr) (ns:List Int),vs=[.ref a]/\AI K H a (ns.map V.int)/\ns.length<=63/\∀H',Q (.bl true) H'
def Fp:Ar ["_law_script","_law_numbers_here","_law_fall_here","_law_net","_law_found","_law_area","_law_k","_law_one","_law_far","_law_ease_here"] ["_law_script"] (Ah sLaw):=Ay
set_option maxHeartbeats 4000000 in
seal L2.Cy L2.PS L2.PE L2.PA in
def gn (F0:Ak K "law" "law" sLaw f fd)(G1:AZ P w K mg base 1 "_law_numbers" ["_law_script","_law_least"] (VJ K))
  (G2:AZ P w K mg base 1 "_law_next" ["_law_numbers_here"] N0)
  (G3:AZ P w K mg base 3 "_law_fall" ["_law_c"] TZ)
  (G4:AZ P w K mg base 5 "_law_some_net" ["_law_numbers_here","_law_most"] Ue)
  (G5:AZ P w K mg base 6 "laid" ["net","fall"] VI)
  (G6:AZ P w K mg base 5 "_law_is_floor" ["_law_found","_law_many"] WB)
  (G7:AZ P w K mg base 1 "_law_before" ["_law_a","_law_b"] KA)
  (G8:AZ P w K mg base 4 "_law_lies" ["_law_one","_law_width","_law_height","_law_ease_here"] VX)
  (G9:AZ P w K mg base 3 "_law_plus" ["_law_a","_law_b"] (CY λx y=>x+y))
  (a7:AZ P w K mg base 3 "_law_times" ["_law_a","_law_b"] (CY λx y=>x*y))
  (bj:AZ P w K mg base 3 "_law_minus" ["_law_a","_law_b"] (CY λx y=>x-y))
  (cm:AZ P w K mg base 2 "_law_apart" ["_law_one","_law_far"] Vq)
  (b5:AZ P w K mg base 4 "looked" ["floor"] Wc)
  (bv:AZ P w K mg base 7 "ease_of" ["net"] SQ)
  (co:AZ P w K mg base 3 "_law_is_fraction" ["_law_found"] Nf)(ml:mg "len" = none)(me:mg "enumerate" = none) :
  Ag P w K mg base Ap 8 f fd ["_law_script"] (Nb K):=by
 refine F0.ok Fp (λvs H Q E h=>?_) (λim A _ s H vs Q E hr h=>?_)
 ·obtain⟨a,ns,rfl,_⟩:=h;rfl
 obtain⟨a,ns,rfl,hS,hn,q⟩:=h;have hu:=hr.units;exists _,AL (AW 1 Fp (AV G1 (AA (pv 0) (AA AB AD))))
  (AL (AW 2 Fp (AV G3 (AA (AV G2 (AA (pv 1) AD)) AD)))
  (AL (AW 3 Fp (AV G4 (AA (pv 1) (AA AB AD))))
  (AL (AW 4 Fp (AV G5 (AA (pv 3) (AA (pv 2) AD))))
  (AL (BL (PW.pt (EO (Ei (C1 (AV G6 (AA (pv 4) (AA (B4 ml (pT (pv 3) AB)) AD)))))
   (EO (BP (VP hu) (pT (pv 4) AB) (pv 2))
   (FA (Ei (C1 (AV G7 (AA (BS (AA AB (AA AB AD))) (AA (pT (pv 4) AB) AD))))))))) D2 BR)
  (AL (AW 5 Fp (BS (AA AB (AA AB AD))))
  (AL (Bg oE rfl (LL (by rfl) me (AA (pT (pv 4) AB) AD)) (Cp (n:=2) rfl (BH (Az 6 Fp) (BH (Az 7 Fp) Cn)))
   (AL (BL (Ei (C1 (AV G8 (AA (pv 7) (AA (pT (pv 4) AB) (AA (pv 2) (AA (pT (pT (pT (pv 3) AB) (pv 6)) AB) AD))))))) D2 BR)
   (AL (AW 5 Fp (AV G9 (AA (pv 5) (AA (AV a7 (AA (AV bj (AA (pT (pv 7) AB) (AA (pT (pv 7) AB) AD))) (AA (AV bj (AA (pT (pv 7) AB) (AA (pT (pv 7) AB) AD))) AD))) AD))))
   (AS (Bg oE rfl (Di (E4 kZ (pT (pv 4) AB) FY (Ef (pv 6)))) (Az 8 Fp)
    (AS (BL (Ei (C1 (AV cm (AA (pv 7) (AA (pv 8) AD))))) D2 BR)))))))
  (AL (BL (PW.pt (EO (BP (VP hu) (pv 5) (AV a7 (AA (pT (pv 4) AB) (AA (pv 2) AD)))) (FA (BP (U1 hu) (AV b5 (AA (pv 4) AD)) (BS (AA QJ AD)))))) D2 BR)
  (AL (AW 9 Fp (AV bv (AA (pv 3) AD)))
  (AS (Ai (J8 (AV co (AA (pv 9) AD)) (KJ (Dc (KD hu) (AV a7 (AA (pv 9) (AA (pv 2) AD))) (pT (pv 4) AB))))))))))))))
 refine⟨_,J,a,ns,40,J,⟨hS,hn⟩,by decide,λL ms H1 s1 nL hL hp hl=>?_⟩;refine⟨_,J,L,ms,J,hL,hp,hl,λz ce H2 s2 a6 cf a8 z0=>?_⟩;refine⟨z,J,λfa H3 F s3 be ⟨sF,F0⟩=>?_⟩;refine⟨_,J,L,ce,8,J,s3 _ _ a6,cf,a8,by decide,by decide,λp ra ta n rs ts H4 s4 aw bf bq N=>?_⟩;have ah:AR H4 fa F:=s4 _ _ (λz=>by
  have:=s3 _ _ a6
  rw[<-z]at this;have h:H3 fa=_:=be;rw[h]at this;cases this) be
 clear s1 s2 s3 s4 be hL a6;obtain⟨n,rfl⟩:∃n',n=n' + 2:=⟨n-2,by have:=N.n2;lia⟩;have k:=N.toNetV;have nk:=k.k;have bi:=N.Ig;obtain⟨cs,bb,hC⟩:=id bf;have lc:cs.length=rs.length:=hC.1;refine⟨_,J,_,J,p,fa,ra,ta,n,rs,ts,F,J,aw,bf,bq,ah,nk,λX hX=>?_⟩;obtain⟨hf,Z,M,wd,hZ⟩:=hX.iE nk sF;obtain⟨O,ad⟩:=iF (Y:=λj=>X j*F) k N.RE (λi h2 hi=>by rw[Om,hX.Ic i h2 hi];grind);refine⟨O,Z,M,⟨nk,hX,hf,bi,N.tn,N.JJ,ad,wd⟩,λfq H5 s5 az ac=>?_⟩;have eW:A8 X rs 0*F=O (2*(rs.length:Int)+1):=by
  have:=Ot k ad (i:=0) (by lia)
  rwa [Om,nX rfl]at this
 have W0:0<O (2*(rs.length:Int)+1):=by rw[<-eW];exact abb (Z7 nk hX) F0
 obtain⟨Y,hY⟩:∃Y:Nat->Rat,Y=λj=>X j*F:=⟨_,J⟩
 rw[<-hY]at ac ad wd;have yX:∀j,Y j=X j*F:=λj=>by rw[hY]
 have y0:Y 0=F:=by rw[yX,hX.x0,Rat.one_mul]
 have y1:Y 1=0:=by rw[yX,hX.x1,aaH]
 have sW:Sf (O (2*(rs.length:Int)+1)):=az _ ⟨by lia,by push_cast;lia⟩;generalize hW:O (2*(rs.length:Int)+1)=W at ac eW W0 sW;have g:=m9 N ad hW W0 y0 y1 F0;have ag:∀r∈rs,0<r.2.2/\r.1<n+2/\r.2.1<n+2:=λr hr=>⟨nk.pos r hr,nk.Bt r hr⟩
 refine⟨_,J,_,J,p,_,_,_,J,J,AH.of (s5 _ _ aw),Eo _ _ _,ra,_,J,.inr (AH.of (s5 _ _ bb)),fq,_,_,_,_,J,ac,Td _ _ _,by rw[nh,lc,Jy],by rw[Jy];lia,λH6 s6=>⟨_,J,Bj ?_⟩⟩;have ap:=s5.trans s6;replace ac:=Ou s6 ac;obtain⟨wa,ua,rc,ab,ax,ck,bs,a4,hB⟩:=id ac;have lb:bs.length=rs.length:=by rw[hB.1,Jy]
 exists _,J,fq,_,_,_,J,J,AH.of ab,Eo _ _ _,_,J,ua,fa,F,F,J,J,ck,An ap ah;rw[pR rfl];refine⟨_,J,Bj ⟨by exact Bk,λz1 ca=>?_⟩⟩;refine EW ca 0 λH7 s7 e7=>?_
 exists _,J,fq,_,_,_,J,J,AH.of (s7 _ _ ab),GY _ _ _,z1,wa,0,W,J,e7,s7 _ _ ax,OG,sW;rw[pR W0];refine⟨_,J,Bj ⟨by exact Bk,λz2 bp=>?_⟩⟩;refine EW bp 0 λH8 s8 e8=>?_
 have ai:=s7.trans s8;have bo:∀q,q<n+2->Sf (Y q):=λq hq=>by rw[yX];exact hf.ys q hq
 have cb:∀r∈rs,∃c:Int,(Z:Rat)*(Y r.1-Y r.2.1)=c/\c.natAbs<=2 ^ 2225:=λr hr=>by
  obtain⟨c1,a1,b1⟩:=hZ _ (ag r hr).2.1;obtain⟨c2,a2,b2⟩:=hZ _ (ag r hr).2.2;exists c1-c2,by rw[uU,<-a1,<-a2,yX,yX];grind
  have:=wc c1 c2
  rw[show 2225=2224+1 from rfl,tN];lia
 obtain⟨ci,cp⟩:=ju wd cb bi;have bx:∀{j:Nat} {r:AX},rs[j]?=some r->Sf (BX (O (2*(j:Int))) (O (2*(j:Int)+1)))/\Sf (BX (Y r.1) (Y r.2.1))/\Sf (BY (O (2*(j:Int))) (O (2*(j:Int)+1)))/\Sf (BY (Y r.1) (Y r.2.1)):=λ{j r} hj=>by
  have jl:=(nq.mp hj).1;obtain⟨_,r1,r2⟩:=ag r (nz hj);have a0:=az (2*(j:Int)) ⟨by lia,by push_cast;lia⟩;have a1:=az (2*(j:Int)+1) ⟨by lia,by push_cast;lia⟩;obtain⟨_,_,_,_,_,c6,c7,_⟩:=FC (O (2*(j:Int))) (O (2*(j:Int)+1));obtain⟨_,_,_,_,_,d6,d7,_⟩:=FC (Y r.1) (Y r.2.1);have b0:=bo _ r1;have b1:=bo _ r2;exact⟨by rcases c6 with z|z<;>rw[z]<;>assumption,by rcases d6 with z|z<;>rw[z]<;>assumption,by rcases c7 with z|z<;>rw[z]<;>assumption,by rcases d7 with z|z<;>rw[z]<;>assumption⟩
 have bn:∀{j:Nat} {r:AX},rs[j]?=some r->Wl (BX (O (2*(j:Int))) (O (2*(j:Int)+1))) (BX (Y r.1) (Y r.2.1)) (BY (O (2*(j:Int))) (O (2*(j:Int)+1))) (BY (Y r.1) (Y r.2.1)) W F r.2.2:=λ{j r} hj=>by
  have jl:=(nq.mp hj).1;have rm:=nz hj;obtain⟨e0,r1,r2⟩:=ag r rm;have p0:=g.ip (2*(j:Int)) ⟨by lia,by push_cast;lia⟩;have p1:=g.ip (2*(j:Int)+1) ⟨by lia,by push_cast;lia⟩;have q0:=g.iy _ r1;have q1:=g.iy _ r2;obtain⟨_,_,_,_,_,c6,c7,_,c9⟩:=FC (O (2*(j:Int))) (O (2*(j:Int)+1));obtain⟨_,_,_,_,_,d6,d7,_,d9⟩:=FC (Y r.1) (Y r.2.1);have df:=ad.df j r hj;have sr:Sf (Au Y r):=(wd.ru r rm).sf wd.z0 wd.zl (by decide) (by have:=wd.nl;lia);have sd:Sf (Y r.1-Y r.2.1):=by rw[yX,yX];exact hf.ds r rm
  obtain⟨b0,b1,b2,b3⟩:=bx hj;refine⟨⟨b0,b1,b2,b3⟩,⟨?_,?_⟩,⟨by rcases c6 with z|z<;>rw[z]<;>grind,by rcases d6 with z|z<;>rw[z]<;>grind,by rcases c7 with z|z<;>rw[z]<;>grind,by rcases d7 with z|z<;>rw[z]<;>grind⟩,g.kd hj e0,g.ea j r hj⟩
  ·rcases c9 with z|z<;>rw[z]
   ·rw[df];exact sr
   ·rw[show O (2*(j:Int)+1)-O (2*(j:Int))=- Au Y r by rw[<-df];grind];exact sr.Eu
  ·rcases d9 with z|z<;>rw[z]
   ·exact sd
   ·rw[show Y r.2.1-Y r.1=- (Y r.1-Y r.2.1) by grind];exact sd.Eu
 exists _,J,fq,_,_,_,J,J,AH.of (ai _ _ ab),FF _ _ _,rc,_,J,ai _ _ a4;refine K4 (xs:=bs.map V.ref) (λi σ H9=>∃ar u6 u7 u8,σ=[some (.ref a),some (.ref L),some (.ref fa),some (.ref p),some (.ref fq),some (.ref ar),u6,u7,u8,none]/\AO H8 H9/\AR H9 ar ((rs.take i).map (Ec Y)).sum)
  ⟨z2,none,none,none,J,AO.refl _,e8⟩ (λi σ H9 _ ⟨_,_,_,_,_,s9,_⟩=>s9 _ _ (ai _ _ a4)) ?_ ?_
 ·rintro i x σ H9 tp hx ⟨ar,u6,u7,u8,rfl,s9,au⟩ bz;obtain⟨c,row,rfl,_,ao,hc⟩:=hB.ref hx;have il:i<rs.length:=by rw[<-lb];exact(by have:=(nq.mp hx).1;rwa [nh]at this)
  have hr:=nj il;generalize rs[i]=r at hr;have rm:=nz hr;rw[J5 hr]at ao;cases ao;obtain⟨c',gc,e,bw,he⟩:=hC.get hr;have Li:=bn hr;have aj:=g.ar hr;unfold EV at hc;obtain⟨t0,t1,t2,t3⟩:=bx hr;generalize b9:BX (O (2*(i:Int))) (O (2*(i:Int)+1))=b0 at hc Li aj t0;generalize cr:BX (Y r.1) (Y r.2.1)=b1 at hc Li aj t1;generalize a8:BY (O (2*(i:Int))) (O (2*(i:Int)+1))=b2 at hc Li aj t2;generalize cg:BY (Y r.1) (Y r.2.1)=b3 at hc Li aj t3;refine BF bz (.AG [.int (i:Int),.ref c]) λHA sA eA=>?_
  have aa:=ai.trans (s9.trans sA);have ak:=ap.trans aa;have br:=An sA au;exists tp,_,J,AH.of eA,J,_,_,J,_,_,J,rfl;exists _,J,_,J,fq,_,_,_,J,J,AH.of (aa _ _ ab),GY _ _ _,_,J,_,J,p,_,_,_,J,J,AH.of (ak _ _ aw),Eo _ _ _,_,J,ra,_,_,_,J,J,AH.of (ak _ _ bb),BQ (C9 gc),c',_,_,_,J,J,AH.of (ak _ _ bw),FF _ _ _;refine⟨c,wa,fa,e,b0,b1,b2,b3,W,F,r.2.2,J,GQ aa hc,An aa ax,An ak ah,An ak he,⟨sW,hf.sF,hf.es r rm⟩,Li,λHB sB=>⟨_,J,Bj ?_⟩⟩;have bm:=aa.trans sB;obtain⟨d0,d1,d2,d3,am,f0,f1,f2,f3⟩:=Nr (GQ bm hc);refine⟨_,J,_,J,c,_,_,_,J,J,AH.of am,FL,_,J,c,_,_,_,J,J,AH.of am,FE,d2,d0,b2,b0,J,f2,f0,t2,t0,λv1 ba=>?_⟩;refine EW ba (b2-b0) λHC sC eC=>?_
  refine⟨_,J,c,_,_,_,J,J,AH.of (sC _ _ am),Gd,_,J,c,_,_,_,J,J,AH.of (sC _ _ am),Ge,d3,d1,b3,b1,J,An sC f3,An sC f1,t3,t1,λv2 b8=>?_⟩;refine EW b8 (b3-b1) λHD sD eD=>?_
  refine⟨v1,v2,_,_,J,An sD eC,eD,Li.sd.1,Li.sd.2,λv3 cn=>?_⟩;rw[aj];refine EW cn (Ec Y r) λHE sE eE=>?_
  have a9:=sC.trans (sD.trans sE);refine⟨ar,v3,_,_,J,An (sB.trans a9) br,eE,cp i,ci r rm,λv4 cq=>?_⟩;refine EW cq (((rs.take i).map (Ec Y)).sum+Ec Y r) λHF al eF=>?_
  have ae:=bm.trans (a9.trans al);have b6:=(s9.trans sA).trans (sB.trans (a9.trans al));have b4:AR HF v4 ((rs.take (i+1)).map (Ec Y)).sum:=by
   rw[Ck hr,oh,sN];simp only[n9,p9,oJ,qV,xf];exact eF
  exists _,J,fq,_,_,_,J,J,AH.of (ae _ _ ab),FF _ _ _
  delta PN
  refine⟨_,J,_,J,jN (ae _ _ a4) λsl HG sG bc=>?_⟩;rw[K6 _ (by rw[nh];lia),<-List.map_take]at bc;have bt:=ae.trans sG;exists sl,J,⟨_,AH.of bc⟩;refine ID (xs:=(bs.take i).map V.ref) (λ_ σ HH=>∃u8,σ=[some (.ref a),some (.ref L),some (.ref fa),some (.ref p),some (.ref fq),some (.ref v4),some (.int (i:Int)),some (.ref c),u8,none]/\AO HG HH) ⟨u8,J,AO.refl _⟩ (λ_ σ HH _ ⟨_,_,sh⟩=>AH.of (sh _ _ bc)) ?_ ?_
  ·rintro j y σ HH hy ⟨u9,rfl,sh⟩;rw[nV]at hy;obtain⟨cj,a5,rfl⟩:=rP.mp hy;have jl:j<i:=by have:=(nq.mp a5).1;rw[pS]at this;lia
   rw[xT,nX jl]at a5;have aq:=nj (show j<rs.length by lia);have hj:=hB.2 j cj _ a5 (J5 aq);obtain⟨w0,w1,w2,w3⟩:=bx aq;have Lj:=bn aq;have tw:=g.Bt j i rs[j] r;unfold Ez at tw;unfold EV at hj;generalize rs[j]=rj at *;generalize BX (O (2*(j:Int))) (O (2*(j:Int)+1))=a0 at *;generalize BX (Y rj.1) (Y rj.2.1)=a1 at *;generalize BY (O (2*(j:Int))) (O (2*(j:Int)+1))=a2 at *;generalize BY (Y rj.1) (Y rj.2.1)=a3 at *;rw[b9,cr,a8,cg]at tw;have bl:=bt.trans sh;refine⟨_,J,_,J,c,cj,b0,b1,b2,b3,a0,a1,a2,a3,J,GQ bl hc,GQ bl hj,λx hx=>?_,λn1 n2 h1 h2 h3 h4=>?_,λHI sI=>⟨_,J,Bj ⟨_,J,sh.trans sI⟩⟩⟩
   ·simp only[oj,pB,qK]at hx;rcases hx with rfl|rfl|rfl|rfl|rfl|rfl|rfl|rfl<;>assumption
   ·have k1:=Li.k;have k2:=Lj.k;exact tw (if a0<b0 then b0 else a0) (if a1<b1 then b1 else a1) jl aq hr (by grind) (by grind)
  ·rintro σ HH ⟨u9,rfl,sh⟩;exact⟨v4,_,_,_,J,b6.trans (sG.trans sh),An (sG.trans sh) b4⟩
 ·rintro σ H9 ⟨ar,u6,u7,u8,rfl,s9,au⟩;rw[nh,lb,qc,aK k ad hW y0 y1]at au;have av:=ai.trans s9;refine⟨_,J,_,J,fq,_,_,_,J,J,AH.of (av _ _ ab),GY _ _ _,_,J,wa,fa,W,F,J,An av ax,An (ap.trans av) ah,sW,hf.sF,λv1 ba=>?_⟩;refine EW ba (W*F) λHA sA eA=>?_
  exists ar,v1,_,_,J,J,An sA au,eA;rw[pR rfl];have aa:=av.trans sA;refine⟨_,J,Bj ⟨_,J,fq,W,F,Em O Y rs,(Z.natAbs:Int),J,Ou aa ac,by rw[Jy];lia,Td _ _ _,by have:=wd.z0;lia,by rw[oW];exact oC wd.zl (pk (by decide) (by decide)),?_,λB B0 b7=>g.mh ag W0 F0 B0 b7,λlp HB sB cc=>?_⟩⟩
  ·have af:∀{q:Rat},(∃c:Int,(Z:Rat)*q=c)->(q.den:Int) ∣ (Z.natAbs:Int):=λ⟨c,e⟩=>Int.dvd_natAbs.mpr (T7 e)
   have iP:=dD N.JJ ad wd;have iY:∀j,j<n+2->∃c:Int,(Z:Rat)*Y j=c:=λj hj=>by obtain⟨c,e,_⟩:=hZ j hj;exact⟨c,by rw[yX];exact e⟩
   intro x hx;simp only[oj]at hx;rcases hx with rfl|rfl|hx
   ·exact⟨af (by rw[<-hW];exact iP _ ⟨by lia,by push_cast;lia⟩),sW⟩
   ·exact⟨af (by rw[<-y0];exact iY 0 (by lia)),hf.sF⟩
   ·obtain⟨row,ao,hx⟩:=oI.mp hx;obtain⟨j,hj⟩:=tj.mp ao;have jl:=(nq.mp hj).1;rw[Jy]at jl;have hr:=nj jl;rw[J5 hr]at hj;cases hj;obtain⟨_,r1,r2⟩:=ag _ (nz hr);obtain⟨t0,t1,t2,t3⟩:=bx hr;have i0:=iP (2*(j:Int)) ⟨by lia,by push_cast;lia⟩;have i1:=iP (2*(j:Int)+1) ⟨by lia,by push_cast;lia⟩;have k0:=iY _ r1;have k1:=iY _ r2;obtain⟨_,_,_,_,_,c6,c7,_⟩:=FC (O (2*(j:Int))) (O (2*(j:Int)+1));obtain⟨_,_,_,_,_,d6,d7,_⟩:=FC (Y rs[j].1) (Y rs[j].2.1);unfold EV at hx;simp only[oj,pB,qK]at hx;rcases hx with rfl|rfl|rfl|rfl
    ·exact⟨af (by rcases c6 with z|z<;>rw[z]<;>assumption),t0⟩
    ·exact⟨af (by rcases d6 with z|z<;>rw[z]<;>assumption),t1⟩
    ·exact⟨af (by rcases c7 with z|z<;>rw[z]<;>assumption),t2⟩
    ·exact⟨af (by rcases d7 with z|z<;>rw[z]<;>assumption),t3⟩
  refine⟨by exact ED,λt ht=>?_⟩;refine BF ht (.AG [.str "covers"]) λHC sC eC=>?_
  exists covD,covD,Ux (sC _ _ cc),Ux eC,Pe,Pe,_,rfl;rw[SeqAt.eqv_refl _ Pe.1];have bg:=aa.trans (sB.trans sC);have ay:=ap.trans bg;refine Bj ⟨_,J,p,n,14,10,10,rs,J,⟨ra,_,ay _ _ aw,cs,ay _ _ bb,hC.keep Df ay⟩,nk,λea HD X' sD bd bh=>?_⟩;have e4:A8 X' rs 0=A8 X rs 0:=by
   unfold A8;refine K1 λr hr=>?_
   unfold Ct Au;rw[SS nk bd hX.x0 hX.x1 hX.Ic _ (nk.Bt r hr).1,SS nk bd hX.x0 hX.x1 hX.Ic _ (nk.Bt r hr).2]
  refine⟨_,J,ea,_,J,bh,λHE sE=>⟨_,J,D8 ?_⟩⟩;have bu:=ay.trans (sD.trans sE);refine⟨_,J,_,J,ea,fa,_,_,J,An sE bh,An bu ah,bd.mR nk,hf.sF,λv hv=>?_⟩;refine EW hv (A8 X' rs 0*F) λHF al eF=>?_
  have ae:=bg.trans ((sD.trans sE).trans al);exists _,J,fq,_,_,_,J,J,AH.of (ae _ _ ab),GY _ _ _,v,wa,_,_,J,J,eF,An ae ax;rw[e4,pR eW];exact q _
end
end My
namespace My
open PySem L2 Mth
variable {mg:Str->Option Value}
section
variable {K:nT}{x qn:Str}{st:Stmt}{f C:Addr}{oc kV doc pm im ct:Value}{od an:Option Addr}{osl:Array (Option Value)}{fd:qy}{ps:List Str}
structure Dq(K:nT)(x:Str)(st:Stmt)(ps:List Str)(f:Addr)(fd:qy):Prop where
 F:Ak K x x st f fd
 b:Ej K fd ps []
 a:aaE K rh x=some (some (.ref f))
def Dq.all(d:Dq K x st ps f fd)(X:K.In h)(G:h.Ns rh mg):Ak K x x st f fd/\Ej K fd ps []/\vW K (.ref f)=true/\mg x=some (.ref f):=⟨d.F,d.b,d.F.kp,aaa X G d.a⟩
def Dq.Ax(d:Dq K x st ps f fd)(l:xc)(w:World)(base:Heap)(X:K.In h)(G:h.Ns rh mg)(o:Ak K x x st f fd->Ag l.prog w K mg base Ap k f fd ps sp):AZ l.prog w K mg base k x ps sp:=⟨f,fd,o d.F,d.b,d.F.kp,aaa X G d.a⟩
def dq (a:aaE K rh x=some (some (.ref f)))(l:K.lookup f=some ⟨oc,od,.func (si x x (GH st) (E6 st) (Ah st) .none kV doc pm an im ct),osl⟩)(c:xD K im x=true)(k:vW K (.ref f)=true)
  (b:∀{fd},Ak K x x st f fd->Ej K fd ps []):Dq K x st ps f (si x x (GH st) (E6 st) (Ah st) .none kV doc pm an im ct):=⟨Ud l c k,b (Ud l c k),a⟩
def bn1(st:Stmt)(x qn:Str){p0:Str}(h:∀(kV doc pm:Value) (an:Option Addr) (im ct O:Value),y6 (si x qn (GH st) (E6 st) (Ah st) .none kV doc pm an im ct) ⟨[O],[]⟩=pure [(p0,O)]:=by intros;rfl)(F:Ak K x qn st f fd):Ej K fd [p0] []:=F.NZ λkV doc pm an im ct us hl=>by
 match us,hl with
 |[O],_=>exact h kV doc pm an im ct O
def bn2(st:Stmt)(x qn:Str){p0 p1:Str}(h:∀(kV doc pm:Value) (an:Option Addr) (im ct O a1:Value),y6 (si x qn (GH st) (E6 st) (Ah st) .none kV doc pm an im ct) ⟨[O,a1],[]⟩=pure [(p0,O),(p1,a1)]:=by intros;rfl)(F:Ak K x qn st f fd):Ej K fd [p0,p1] []:=F.NZ λkV doc pm an im ct us hl=>by
 match us,hl with
 |[O,a1],_=>exact h kV doc pm an im ct O a1
def bn3(st:Stmt)(x qn:Str){p0 p1 p2:Str}(h:∀(kV doc pm:Value) (an:Option Addr) (im ct a0 a1 O:Value),y6 (si x qn (GH st) (E6 st) (Ah st) .none kV doc pm an im ct) ⟨[a0,a1,O],[]⟩=pure [(p0,a0),(p1,a1),(p2,O)]:=by intros;rfl)(F:Ak K x qn st f fd):Ej K fd [p0,p1,p2] []:=F.NZ λkV doc pm an im ct us hl=>by
 match us,hl with
 |[a0,a1,O],_=>exact h kV doc pm an im ct a0 a1 O
def bn4(st:Stmt)(x qn:Str){p0 p1 p2 p3:Str}(h:∀(kV doc pm:Value) (an:Option Addr) (im ct a0 a1 O a3:Value),y6 (si x qn (GH st) (E6 st) (Ah st) .none kV doc pm an im ct) ⟨[a0,a1,O,a3],[]⟩=pure [(p0,a0),(p1,a1),(p2,O),(p3,a3)]:=by intros;rfl)(F:Ak K x qn st f fd):Ej K fd [p0,p1,p2,p3] []:=F.NZ λkV doc pm an im ct us hl=>by
 match us,hl with
 |[a0,a1,O,a3],_=>exact h kV doc pm an im ct a0 a1 O a3
structure Zq(K:nT)(x:Str):Prop where
 a:aaE K rh x=some none
end
set_option maxHeartbeats 4000000 in
def all_mk {l:xc}(X:K.In h)(G:h.Ns rh mg)(eb:mg "law" = some (.ref fa))
  (h1:Dq K "common_part" sCommon ["one","other"] f1 d1)
  (h2:Dq K "fraction" sFraction ["top","bottom"] f2 d2)
  (h3:Dq K "plus" sPlus ["one","other"] f3 d3)
  (h4:Dq K "minus" sMinus ["one","other"] f4 d4)
  (h5:Dq K "times" sTimes ["one","other"] f5 d5)
  (h6:Dq K "less" s_less ["one","other"] f6 d6)
  (h7:Dq K "common_bottom" sCBot ["row"] f7 d7)
  (h8:Dq K "wholes" sWholes ["row","bottom"] f8 d8)
  (h9:Dq K "other_end" sOther ["end"] f9 d9)
  (c1:Dq K "ends_ahead" sAhead ["turns"] f10 d10)
  (bw:Dq K "ring_from" sRingFrom ["start","ahead"] f11 d11)
  (bm:Dq K "rings" sRings ["turns"] f12 d12)
  (dd:Dq K "land_of" sLandOf ["turns"] f13 d13)
  (et:Dq K "led" sLed ["rows","k"] f14 d14)
  (e0:Dq K "swept_row" sSweptRow ["row","lead","k","before"] f15 d15)
  (ez:Dq K "swept" sSwept ["rows"] f16 d16)
  (a4:Dq K "found_back" sBack ["rows"] f17 d17)
  (eq:Dq K "answer" sAnswer ["table","right"] f18 d18)
  (bf:Dq K "ease_table" sEaseTable ["net"] f19 d19)
  (ev:Dq K "poleless" sPoleless ["table"] f20 d20)
  (eh:Dq K "heights" sHeights ["net"] f21 d21)
  (cb:Dq K "fall_of" sFallOf ["rope","levels"] f22 d22)
  (a2:Dq K "runnings_by" sRunBy ["net","levels"] f23 d23)
  (cy:Dq K "runnings" sRunnings ["net"] f24 d24)
  (di:Dq K "ease_of" sEaseOf ["net"] f25 d25)
  (du:Dq K "land_sides" s_land_sides ["lands","widths"] f26 d26)
  (c7:Dq K "rising" s_rising ["one","other"] f27 d27)
  (ef:Dq K "laid" s_laid ["net","fall"] f28 d28)
  (bp:Dq K "numbers_of" s_numbers_of ["floor"] f29 d29)
  (a3:Dq K "whole_floor" s_whole_floor ["floor","bottom"] f30 d30)
  (a7:Dq K "is_neither" s_is_neither ["rectangle"] f31 d31)
  (eg:Dq K "is_out" s_is_out ["rectangle","width","height"] f32 d32)
  (dl:Dq K "overlap" s_overlap ["one","other"] f33 d33)
  (ed:Dq K "first_overlap" s_first_overlap ["rectangles"] f34 d34)
  (bu:Dq K "borders" s_borders ["rectangles","at","most"] f35 d35)
  (cr:Dq K "covered_cells" s_covered_cells ["columns","rows","rectangles"] f36 d36)
  (dn:Dq K "first_gap" s_first_gap ["width","height","rectangles"] f37 d37)
  (ck:Dq K "looked_whole" s_looked_whole ["width","height","rectangles"] f38 d38)
  (dg:Dq K "looked" s_looked ["floor"] f39 d39)
  (br:Dq K "_law_numbers" s_law_numbers ["_law_script","_law_least"] f40 d40)
  (bt:Dq K "_law_whole" sWhole ["_law_found"] f41 d41)
  (ey:Dq K "_law_row" s_law_row ["_law_found","_law_many"] f42 d42)
  (cn:Dq K "_law_divisor" s_law_divisor ["_law_a","_law_b"] f43 d43)
  (e3:Dq K "_law_fraction" sLFrac ["_law_top","_law_bottom"] f44 d44)
  (cz:Dq K "_law_ease" sLEase ["_law_c","_law_most"] f45 d45)
  (c0:Dq K "_law_ahead" s_law_ahead ["_law_turns"] f46 d46)
  (b2:Dq K "_law_land" s_law_land ["_law_ahead_here","_law_start"] f47 d47)
  (bg:Dq K "_law_corner" s_law_corner ["_law_turns","_law_end"] f48 d48)
  (ej:Dq K "_law_grow" sGrow ["_law_ropes","_law_turns","_law_c","_law_ease_here"] f49 d49)
  (e4:Dq K "_law_order" s_law_order ["_law_many","_law_c"] f50 d50)
  (dv:Dq K "_law_finished" s_law_finished ["_law_ropes","_law_turns","_law_c"] f51 d51)
  (b7:Dq K "_law_next" sNext ["_law_numbers_here"] f52 d52)
  (bo:Dq K "_law_grown" s_law_grown ["_law_numbers_here","_law_most","_law_great"] f53 d53)
  (bv:Dq K "_law_long" s_law_long ["_law_cell"] f54 d54)
  (eu:Dq K "_law_some_net" s_law_some_net ["_law_numbers_here","_law_most"] f55 d55)
  (dm:Dq K "_law_is_fraction" s_law_is_fraction ["_law_found"] f56 d56)
  (d0:Dq K "_law_fractions_are" s_law_fractions_are ["_law_found","_law_many"] f57 d57)
  (cf:Dq K "_law_is_floor" s_law_is_floor ["_law_found","_law_many"] f58 d58)
  (ce:Dq K "_law_plus" s_law_plus ["_law_a","_law_b"] f59 d59)
  (cu:Dq K "_law_minus" s_law_minus ["_law_a","_law_b"] f60 d60)
  (bj:Dq K "_law_times" s_law_times ["_law_a","_law_b"] f61 d61)
  (c8:Dq K "_law_before" s_law_before ["_law_a","_law_b"] f62 d62)
  (b3:Dq K "_law_fall" s_law_fall ["_law_c"] f63 d63)
  (bc:Dq K "_law_lies" s_law_lies ["_law_one","_law_width","_law_height","_law_ease_here"] f64 d64)
  (b8:Dq K "_law_apart" s_law_apart ["_law_one","_law_far"] f65 d65)
  (av:Dq K "law" sLaw ["_law_script"] f66 d66)
  (dp:Zq K "abs")
  (dj:Zq K "len")
  (co:Zq K "range")
  (em:Zq K "list")
  (e5:Zq K "zip")
  (cm:Zq K "tuple")
  (c9:Zq K "sum")
  (a5:Zq K "min")
  (b9:Zq K "max")
  (e2:Zq K "enumerate")
  (ca:Zq K "all")
  (a1:Zq K "isinstance")
  (db:Zq K "int")
  (cj:Zq K "bool")
  (eo:Zq K "reversed")
  (ci:Zq K "set")
  (cx:Zq K "sorted")
  : ∃fd:qy,(∀(s:nU) (v:Value),zG s fd ⟨[v],[]⟩ [("_law_script",v)])/\∀base:Heap,K.In base->base.Ns rh mg->Ag l.prog w K mg base Ap 8 fa fd ["_law_script"] (Nb K):=by
 have e:=eb.symm.trans (aaa X G av.a);cases e;have ⟨ax,e6,e8,e7⟩:=av.all X G;have ag:=pV X G dp.a;have O:=pV X G dj.a;have ab:=pV X G co.a;have af:=pV X G em.a;have ae:=pV X G e5.a;have aa:=pV X G cm.a;have b4:=pV X G c9.a;have al:=pV X G a5.a;have ak:=pV X G b9.a;have ac:=pV X G e2.a;have aj:=pV X G ca.a;have ah:=pV X G a1.a;have ao:=pV X G db.a;have da:=pV X G cj.a;have bh:=pV X G eo.a;have dh:=pV X G ci.a;have be:=pV X G cx.a;refine⟨d66,λs v=>by obtain⟨_,_,_,_,_,_,_,_,_,rfl,_⟩:=ax.ex;exact .of_eq rfl,λbase _ _=>?_⟩;have O1:=h1.Ax l w base X G λF=>Yo F ag
 have O2:=h2.Ax l w base X G λF=>Xu (C:=0) F O1
 have O3:=h3.Ax l w base X G λF=>dC F O2
 have O4:=h4.Ax l w base X G λF=>bA F O2
 have O5:=h5.Ax l w base X G λF=>bE F O2
 have O6:=h6.Ax l w base X G λF=>bZ F
 have O7:=h7.Ax l w base X G λF=>fh F O1
 have O8:=h8.Ax l w base X G λF=>Y2 F
 have OL:=h7.Ax l w base X G λF=>aE F O1
 have bl:=et.Ax l w base X G λF=>gx F O ab af
 have dr:=e0.Ax l w base X G λF=>Xr F ae
 have cg:=ez.Ax l w base X G λF=>aH F bl dr O ab
 have cc:=a4.Ax l w base X G λF=>cY F O2 O ab ae b4 aa
 have dw:=eq.Ax l w base X G λF=>YW (C2:=0) F O7 O8 cg cc O ae
 have df:=bf.Ax l w base X G λF=>cQ F O3 O4 ab aa
 have a6:=ev.Ax l w base X G λF=>eJ F aa
 have aw:=eh.Ax l w base X G λF=>YU F df O4 a6 dw aa
 have dk:=cb.Ax l w base X G λF=>fj F O4
 have au:=a2.Ax l w base X G λF=>ZY F O5 dk aa
 have dq:=cy.Ax l w base X G λF=>Xp F au aw
 have ba:=di.Ax l w base X G λF=>ZD F O3 O4 dq ae
 have O9:=h9.Ax l w base X G λF=>Zv F
 have bz:=c1.Ax l w base X G λF=>Zd F ac
 have b6:=bw.Ax l w base X G λF=>Xo F O9 aa
 have dt:=bm.Ax l w base X G λF=>aL F bz b6 O ab aa
 have ek:=dd.Ax l w base X G λF=>Y9 F dt O ab aa ac
 have bi:=du.Ax l w base X G λF=>aV F O3 O4 O ak ac
 have dz:=c7.Ax l w base X G λF=>ZS F O6
 have az:=ef.Ax l w base X G λF=>gA F O5 aw ek bi au dz O ac aa
 have ea:=br.Ax l w base X G λF=>YQ F O ab ak al ag
 have a9:=bt.Ax l w base X G λF=>Zi F ah ao da
 have ei:=ey.Ax l w base X G λF=>gU F a9 ah aa O aj
 have aq:=cn.Ax l w base X G λF=>X8 F
 have ad:=e3.Ax l w base X G λF=>bF F aq ag
 have bd:=cz.Ax l w base X G λF=>Zz F ad
 have ee:=c0.Ax l w base X G λF=>YF F ac
 have ew:=b2.Ax l w base X G λF=>fJ 2 (λh1 h2=>WX h1 h2) F
 have b0:=bg.Ax l w base X G λF=>Y4 F ac
 have cp:=ej.Ax l w base X G λF=>fH F b0 ee ew O
 have de:=e4.Ax l w base X G λF=>bL F O ab af
 have bx:=dv.Ax l w base X G λF=>iR F de O ac aa
 have ai:=b7.Ax l w base X G λF=>aM F O
 have bn:=bo.Ax l w base X G λF=>Zl F ai bd cp bx O
 have ec:=bv.Ax l w base X G λF=>eU F O ab af al ao bh ac aa
 have cq:=eu.Ax l w base X G λF=>bP F ai ec bn
 have ar:=dm.Ax l w base X G λF=>jS F ei aq ag
 have e1:=d0.Ax l w base X G λF=>kJ F ar ah aa O aj
 have c4:=cf.Ax l w base X G λF=>ig F e1 ah aa O aj
 have ap:=cu.Ax l w base X G λF=>YY F ad
 have c3:=b3.Ax l w base X G λF=>bK F ad
 have c6:=ce.Ax l w base X G λF=>Z3 F ad
 have ay:=bj.Ax l w base X G λF=>Y6 F ad
 have am:=c8.Ax l w base X G λF=>Xx F
 have a8:=bc.Ax l w base X G λF=>ft F am ap ay
 have a0:=b8.Ax l w base X G λF=>aT F am
 have dy:=bp.Ax l w base X G λF=>dX F af
 have el:=a3.Ax l w base X G λF=>jq F O8
 have c2:=a7.Ax l w base X G λF=>jo F
 have cw:=eg.Ax l w base X G λF=>iL F
 have bq:=dl.Ax l w base X G λF=>kF F ak al
 have c5:=ed.Ax l w base X G λF=>jn F bq ac ab O
 have b5:=bu.Ax l w base X G λF=>j6 F dh be
 have dc:=cr.Ax l w base X G λF=>iS F ab
 have bb:=dn.Ax l w base X G λF=>js F b5 dc ab O
 have er:=ck.Ax l w base X G λF=>kN F c2 cw c5 bb ac
 have en:=dg.Ax l w base X G λF=>Yj F dy OL er el
 exact gn ax ea ai c3 cq az c4 am a8 c6 ay ap a0 en ba ar O ac
def walk {l:xc}{K:Params->nT}(hn:l.most=some 63)(aa:d.params.defaults=[])
  (hY:∀(w:World) (h:Heap),YP w h->(K w.params).In h)
  (F:∀(w:World) (mg:Str->Option Value) (O:Addr) (h:Heap),(K w.params).In h->h.Ns rh mg->mg d.name=some (.ref O) →
   ∃fd:qy,(∀(s:nU) (u:Value),zG s fd ⟨[u],[]⟩ [("_law_script",u)])/\∀base:Heap,(K w.params).In base->base.Ns rh mg->Ag l.prog w (K w.params) mg base Ap 8 O fd ["_law_script"] (Nb (K w.params))) :
  ab0 q loose XP YP l.row.toRowW d [] (λf vs=>abF f vs) :=
 L2.cV (n:=63) (k:=8) (x:="_law_script") (CX:=λ_=>Ap) (sp:=λw=>Nb (K w.params)) hn (by decide) aa ⟨J,by decide,by decide⟩ hY F (λ_ _ a ns hl _ hS=>⟨a,ns,J,hS,hl,λ_=>rfl⟩) λ_ _ _ _ _ z=>z
end My
inductive PySem.W.Fast:Prop|tw18076073701494116413|tw8955619659031666824|tw4005473541386122461|tw14793374077223846377|tw14438963680651295466|tw9101480126332014921|tw14163087046362870960|tw1782129307795737388|tw17340565145385235318|tw13680293730642398784|tw12800733706943436543|tw818041112356935077|tw8415761372949652868|tw5628632583226656432|tw4333584582895186799|tw14511506621075876806|tw15289910157933415470|tw5798457484066525362|tw15620972375568740254|tw18159916915474860161|tw13303563733388971476|tw11463331078265464221|te17774307128334804141|tw12460685991186164438|tw528351506268443211|tw11151729185639912649|tw13130203031474339788|tw11501941919326037270|tw2946506031749285009|tw10601989464455934595|tw280817726401785784|tw9805507676877840483|tw10839671206746590323|tw2415658172917432555|tw13809113764575890968|tw17676804937221117010|tw12295237400266075253|tw7581232709553711274|tw2702171944771860760|tw4485317283468908608|tw16936060018801299093|tw3627486014107382446|tw12568927814244945068|tw14202888486778698638|tw1609676114615482862|tw12383064028243762056|tw17778957795716317031|tw15346753688588549011|tw10152304502910719207|tw3434085274442868941|tw15521627903560813693|tw18196935293475091569|tw13374946707956429307|tw18209318290610736152|tw15149244242894524832|tw12872124505347241266|tw6427889299097518385|tw1405562696133815322|tw13696926451679154977|tw9011584545317633484|tw14855980540608153657|tw1408240821750386816|tw12320814860822447255|tw8939328323506400165|tw834086356334221083|tw3959779123496873112|tw16149877661563733469|tw16704442584409691508|tw16431879462333089227|tw6086869326139613629|tw17934508259330062566|tw14863733739177764040|tw848895599664262060|tw13272657488455840196|tw13979333372201728362|tw10747817837967379854|tw11607099113449315935|tw14213941320747297905|tw949900577482831335|tw3516620217356086613|tw1471188090872590624|tw11037107462356501126|tw953115719393962456|tw12245816548154858924|tw14223327403233137414|tw466599932605430020|tw14968460663936056260|tw11526450855634688864|tw5238821412797977235|tw18417012944165681564|tw17495437357301425415|tw13523773890686253519|tw5477895561562471370|tw1313372080980710008|tw2114328705549126862|tw7915563051351747830|tw14339047959980994986|tw13478280176160809512|tw12197959114472208160|tw13779480817645863477|tw17529110962442731563
open PySem PySem.W PyProof.Rows
set_option maxRecDepth 100000 in
set_option maxHeartbeats 0 in
theorem PySem.Challenge.cw_currentfloor_k26_whole_floors_cover_holds : PySem.Challenge.rw_currentfloor_k26_whole_floors_cover.Holds := by
  w_on; o_law; k_head; (case hw => w_witness2)
  k_fill
  refine My.walk (l := PySem.Challenge.rw_currentfloor_k26_whole_floors_cover) rfl rfl (fun w h Y => PySem.W.kIn_of Y) ?F
  case F =>
    intro w mg fa h KX G hmg
    refine' My.all_mk KX G hmg (My.dq ?_ ?_ ?_ ?_ (My.bn2 My.sCommon _ _)) (My.dq ?_ ?_ ?_ ?_ (My.bn2 My.sFraction _ _)) (My.dq ?_ ?_ ?_ ?_ (My.bn2 My.sPlus _ _)) (My.dq ?_ ?_ ?_ ?_ (My.bn2 My.sMinus _ _)) (My.dq ?_ ?_ ?_ ?_ (My.bn2 My.sTimes _ _)) (My.dq ?_ ?_ ?_ ?_ (My.bn2 My.s_less _ _)) (My.dq ?_ ?_ ?_ ?_ (My.bn1 My.sCBot _ _)) (My.dq ?_ ?_ ?_ ?_ (My.bn2 My.sWholes _ _)) (My.dq ?_ ?_ ?_ ?_ (My.bn1 My.sOther _ _)) (My.dq ?_ ?_ ?_ ?_ (My.bn1 My.sAhead _ _)) (My.dq ?_ ?_ ?_ ?_ (My.bn2 My.sRingFrom _ _)) (My.dq ?_ ?_ ?_ ?_ (My.bn1 My.sRings _ _)) (My.dq ?_ ?_ ?_ ?_ (My.bn1 My.sLandOf _ _)) (My.dq ?_ ?_ ?_ ?_ (My.bn2 My.sLed _ _)) (My.dq ?_ ?_ ?_ ?_ (My.bn4 My.sSweptRow _ _)) (My.dq ?_ ?_ ?_ ?_ (My.bn1 My.sSwept _ _)) (My.dq ?_ ?_ ?_ ?_ (My.bn1 My.sBack _ _)) (My.dq ?_ ?_ ?_ ?_ (My.bn2 My.sAnswer _ _)) (My.dq ?_ ?_ ?_ ?_ (My.bn1 My.sEaseTable _ _)) (My.dq ?_ ?_ ?_ ?_ (My.bn1 My.sPoleless _ _)) (My.dq ?_ ?_ ?_ ?_ (My.bn1 My.sHeights _ _)) (My.dq ?_ ?_ ?_ ?_ (My.bn2 My.sFallOf _ _)) (My.dq ?_ ?_ ?_ ?_ (My.bn2 My.sRunBy _ _)) (My.dq ?_ ?_ ?_ ?_ (My.bn1 My.sRunnings _ _)) (My.dq ?_ ?_ ?_ ?_ (My.bn1 My.sEaseOf _ _)) (My.dq ?_ ?_ ?_ ?_ (My.bn2 My.s_land_sides _ _)) (My.dq ?_ ?_ ?_ ?_ (My.bn2 My.s_rising _ _)) (My.dq ?_ ?_ ?_ ?_ (My.bn2 My.s_laid _ _)) (My.dq ?_ ?_ ?_ ?_ (My.bn1 My.s_numbers_of _ _)) (My.dq ?_ ?_ ?_ ?_ (My.bn2 My.s_whole_floor _ _)) (My.dq ?_ ?_ ?_ ?_ (My.bn1 My.s_is_neither _ _)) (My.dq ?_ ?_ ?_ ?_ (My.bn3 My.s_is_out _ _)) (My.dq ?_ ?_ ?_ ?_ (My.bn2 My.s_overlap _ _)) (My.dq ?_ ?_ ?_ ?_ (My.bn1 My.s_first_overlap _ _)) (My.dq ?_ ?_ ?_ ?_ (My.bn3 My.s_borders _ _)) (My.dq ?_ ?_ ?_ ?_ (My.bn3 My.s_covered_cells _ _)) (My.dq ?_ ?_ ?_ ?_ (My.bn3 My.s_first_gap _ _)) (My.dq ?_ ?_ ?_ ?_ (My.bn3 My.s_looked_whole _ _)) (My.dq ?_ ?_ ?_ ?_ (My.bn1 My.s_looked _ _)) (My.dq ?_ ?_ ?_ ?_ (My.bn2 My.s_law_numbers _ _)) (My.dq ?_ ?_ ?_ ?_ (My.bn1 My.sWhole _ _)) (My.dq ?_ ?_ ?_ ?_ (My.bn2 My.s_law_row _ _)) (My.dq ?_ ?_ ?_ ?_ (My.bn2 My.s_law_divisor _ _)) (My.dq ?_ ?_ ?_ ?_ (My.bn2 My.sLFrac _ _)) (My.dq ?_ ?_ ?_ ?_ (My.bn2 My.sLEase _ _)) (My.dq ?_ ?_ ?_ ?_ (My.bn1 My.s_law_ahead _ _)) (My.dq ?_ ?_ ?_ ?_ (My.bn2 My.s_law_land _ _)) (My.dq ?_ ?_ ?_ ?_ (My.bn2 My.s_law_corner _ _)) (My.dq ?_ ?_ ?_ ?_ (My.bn4 My.sGrow _ _)) (My.dq ?_ ?_ ?_ ?_ (My.bn2 My.s_law_order _ _)) (My.dq ?_ ?_ ?_ ?_ (My.bn3 My.s_law_finished _ _)) (My.dq ?_ ?_ ?_ ?_ (My.bn1 My.sNext _ _)) (My.dq ?_ ?_ ?_ ?_ (My.bn3 My.s_law_grown _ _)) (My.dq ?_ ?_ ?_ ?_ (My.bn1 My.s_law_long _ _)) (My.dq ?_ ?_ ?_ ?_ (My.bn2 My.s_law_some_net _ _)) (My.dq ?_ ?_ ?_ ?_ (My.bn1 My.s_law_is_fraction _ _)) (My.dq ?_ ?_ ?_ ?_ (My.bn2 My.s_law_fractions_are _ _)) (My.dq ?_ ?_ ?_ ?_ (My.bn2 My.s_law_is_floor _ _)) (My.dq ?_ ?_ ?_ ?_ (My.bn2 My.s_law_plus _ _)) (My.dq ?_ ?_ ?_ ?_ (My.bn2 My.s_law_minus _ _)) (My.dq ?_ ?_ ?_ ?_ (My.bn2 My.s_law_times _ _)) (My.dq ?_ ?_ ?_ ?_ (My.bn2 My.s_law_before _ _)) (My.dq ?_ ?_ ?_ ?_ (My.bn1 My.s_law_fall _ _)) (My.dq ?_ ?_ ?_ ?_ (My.bn4 My.s_law_lies _ _)) (My.dq ?_ ?_ ?_ ?_ (My.bn2 My.s_law_apart _ _)) (My.dq ?_ ?_ ?_ ?_ (My.bn1 My.sLaw _ _)) ⟨?_⟩ ⟨?_⟩ ⟨?_⟩ ⟨?_⟩ ⟨?_⟩ ⟨?_⟩ ⟨?_⟩ ⟨?_⟩ ⟨?_⟩ ⟨?_⟩ ⟨?_⟩ ⟨?_⟩ ⟨?_⟩ ⟨?_⟩ ⟨?_⟩ ⟨?_⟩ ⟨?_⟩
    all_goals try first | k_is | k_exc | kernel_rfl
