import PyProof.Rows.All
import Wide.All
import OpenK.AllK
import Wide.FinOn
import Lean
import PyProof.EqAt
import PyProof.EqKinds
import PyProof.TupleCall
import PySem.Challenge.RW_currentfloor_k31_whole_laid_again
noncomputable section
set_option Elab.async false
set_option linter.all false
set_option maxRecDepth 100000
local macro_rules|`(())=>`(by lia)
local macro_rules|`(∅)=>`(by decide)
local macro_rules|`(#v[])=>`(by simp)
open List renaming length_map->kb,getElem?_eq_getElem->og,getElem?_eq_some_iff->oh,mem_of_getElem?->oi,getD_eq_getElem?_getD->oj,getElem?_map->om,size_toArray->oD,replicate->oE,length_append->oF,mem_cons->oG,mem_map->oI,mem_append->oM,range->oN,map_cons->oP,take_of_length_le->oQ,map_append->oU,not_mem_nil->o3,length_cons->pk,length_range->pC,getElem?_append_right->pE,mem_cons_of_mem->pF,mem_singleton->pH,getElem?_eq_none->pM,length_take->pN,getElem?_append_left->pR,length_drop->pS,mem_flatten->pV,mem_range->pW,getElem?_range->qc,getElem_mem->qd,pairwise_iff_getElem->qg,sum_cons->qk,flatten_cons->ql,replicate_succ->qo,nodup_cons->qt,mem_append_right->qB,nodup_append->qD,take_length->qE,append_nil->qS,getElem_of_mem->qV,getElem?_of_mem->qX,mem_cons_self->rh,length_singleton->rn,map_map->rC,take_append_drop->rF,idxOf_lt_length_iff->rJ,flatten_append->rS,map_nil->rT,length_nil->rV,mem_filter->rW,length_eq_zero_iff->r9,getElem?_set_self->sJ,length_pos_of_mem->sL,pairwise_map->sO,forall_mem_nil->sP,map_congr_left->sQ,getElem?_toArray->sT,getElem?_drop->sX,Pairwise->tu,forall_mem_cons->tF,getElem?_set_ne->tG,getElem?_replicate->tK,append_assoc->tL,getElem_cons_drop->tQ,range_succ_eq_map->tR,filter_append->tV,mem_of_mem_drop->tX,ext_getElem?->t5,cons_append->uc,length->uf,pairwise_lt_range->ug,foldl_cons->uz,nil_append->uA,mem_append_left->uK,mem_of_mem_take->uL,pairwise_append->uM,replicate_succ'->uN,Perm->uR,filterMap_cons->vk,mem_map_of_mem->vm,replicate_append_replicate->vo,map_drop->vw,map_take->vz,append_of_mem->vF,find?_cons->vG,length_set->vH,pairwise_cons->vI,foldl_append->vM,getElem?_zipWith->vQ,mem_flatMap->v8,forIn_cons->wG,countP_append->wL,sum_nil->wM,foldl->wW,pairwise_singleton->w8,take_add_one->xg,nodup_range->xu,dropLast_eq_take->xA,length_replicate->xB,eraseIdx_eq_take_drop_succ->xE,eq_nil_iff_forall_not_mem->xK,length_zip->xM,of_mem_zip->xN,zipWith->xO,countP_pos_iff->xY,toList_toArray->xZ,getElem?_take->yw,getElem_idxOf->yx,getElem_range->yy,length_eraseIdx_of_lt->yK,perm_append_singleton->yL,Nodup->yW,getLastD_eq_getLast?->yX,mem_of_find?_eq_some->yY,all_eq_true->ze,countP_cons->zf,length_erase_of_mem->zh,map->zm,filter_cons_of_neg->zL,filter_cons_of_pos->zN,getElem?_cons_succ->zO,range_succ->zT,eq_nil_or_concat->aaz,forIn_nil->aaA,length_filter_le->aaB,mem_iff_getElem?->aaC,nodup_nil->aaD,pairwise_flatten->aaE,take_zero->aaF,getLast?_append->aaV,length_dropLast->aaW,any_cons->aa4,filter_eq_self->abc,flatMap_append->abd,length_pos_iff->abe,length_zipWith->abf,replicate_zero->abg,forIn_toArray->abr,getLastD_cons->abt,map_set->abu,mem_filterMap->abv,mem_replicate->abw,ne_nil_of_mem->abx,take_sublist->ab1,cons_ne_nil->aco,ext_getElem->acp,filter_cons->acq,flatten_nil->acr,getElem_zip->acs,map_zipWith->acu,mem_reverse->acv,range'_succ->acw,zipIdx_cons->acx,find?_some->acM,findIdx_eq->acN,sum_append->acO,zipIdx_nil->acP,foldl_nil->ac6,getD->adb,map_id''->adh
open PySem renaming wpAny_bind->oa,Shared->oq,wpAny_pure->ou,sizeLine->oR,Builtin->oY,SetTable->oZ,sizeLine_eq->pD,Program->pG,Expr->pJ,starEach->pK,PassesOwn->pZ,Around->qM,wpAny_mono->qR,FuncData->qU,wpAny_holding->qW,bootBuiltins->qY,wpAny_newObj_type->qZ,PyData->rj,Spec->rG,mainGlobals->rH,rawInt->rR,wpAny_field->rY,wpAny_ite_split->rZ,compareOp->r6,wpAny_pyIter_tuple->r8,wpAny_callSpecial?_slot->si,wpAny_call_entry->sk,mem_of_lookup->sR,IsPair->sV,wpAny_seqItems->tH,wpAny_pyIter_list->tN,assignEach->tS,codeAny_builtin->tZ,foldedSetIterable->t7,wpAny_truthy_bool->t8,binaryOp->ud,wpAny_setField->ue,sysModules->ui,wpAny_rule->uj,pickOrder->uu,wpAny_Call_Name_kw->uv,wpAny_setField_rec->uw,wpAny_passesOwn->uB,backTo->uD,wpAny_setState_of->uF,pyNext->vh,wpAny_setEntries_of->vn,behindInMarks->vB,Arguments->vC,codeAny->vV,codeAny_mono->vW,intKind->vX,bindArgs->wc,call_meets->we,wpAny_newList->wo,sliceBounds->wB,Paired->wO,tupleKind_room_in1->wU,wpAny_typeOf->wV,getItem->wZ,wpAny_pyIter_enum->xl,plainId_quiet->xp,wpAny_attempt->xr,wpAny_standAt->xt,scanBound->xC,setNext->xD,IsPart->xJ,builtinsNs->xQ,closureFor->xR,letOwnedTupleGo->xT,wpAny_execs_nil->xU,wpAny_updateSeq_pair->xV,firstArgMember->yj,relabel->yn,wpAny_fieldsOf->yo,wpAny_letGo->yt,swapsWith->yC,wpAny_letOwnedTupleGo_enum->yN,wpAny_onRaise->yO,fits_of_scanBound->yV,intKind_is->y6,callerA->y8,valueAt->y9,ZipApart->zA,assign->zB,pyIter->zF,relayAll->zG,setField->zH,wpAny_askSetting->zI,wpAny_isInstance->zJ,wpAny_pyNext_enum_itemD->zS,cellsFrom->zX,tupleKind->zZ,wpAny_specialOf->z9,IsRangeIter->aac,subscripted->aan,wpAny_Call_method_late->aao,wpAny_of_eq->aap,wpAny_pyIter_rangeiter->aaq,wpAny_pyNext_enum_endD->aar,wpAny_pyNext_list_item->aas,wpAny_pyNext_range_end->aat,BindsTo->aau,ItemsOf->aax,Keyword->aay,builtinLookup_eq_fast->aaK,isSubtype_type->aaL,wpAny_isTrue_Compare1->aaN,wpAny_newTuple->aaO,wpAny_pyNext_list_end->aaP,wpAny_runValue->aaQ,wpAny_storeName_local->aaR,NameKind->aaX,setEntries->aa2,wpAny_load->aa3,assignInOrder->aa7,attributeBase->aa8,IsEnum->abp,Fin->abF,seqIndex_neg->abO,seqItems?->abP,wpAny_pyIter_range->abR,IsRange->abS,slot_list_getitem->ab6,wpAny_assign_Name->ab7,wpAny_pyIter_slot->ab8,wpAny_sequenceKey->ab9,wpAny_setEpoch_of->aca,wpAny_storeSet_of->acb,keywordEach->acf,seqIndex_of->ach,bindName->acB,PlainAttrs->acS,call->acV,checkCount->acY,defaultsOf->acZ,typeIs_int->ac0,wpAny_Name->ac1,wpAny_call->ac2,IsL->ade
open PySem.Heap renaming get?_push_of_some->oo,get?_push_size->oJ,lt_size->oK,SameBut->qr,size_push->rz,get?_update_other->rQ,get?_update_self->tU,ExtBut->uQ,IsTuple->uX,get?_none_of_le->v5,IsList->wq,get?_update_ne->xX,get?_push_ne->abY,IsTupleIter->acm,IsListIter->acI
open PySem.W renaming Frag->ow,mg_none_of->qH,kia_one->rX,fnOf->sZ,kas_rev->wA,kitOne->wY,codeHdIn->xw,OpenLaw->xP,codeIn->yg,keepIn->yh,kla_obj->yk,methodObj->yT,kas_desc->zC,instObj->zV,cellsFrom_some->aai,lookIn->aaI,mg_of->aa6,codeHd_of_K->abi,nsIn->abG,kas_descPart->abL,tabObj->abQ,kitx_dict->ab2,kitx_list->ab3,plainGet->acz,CodeHd->ac7,findIn->ac8,WalkO->adk
open Nat renaming le_refl->oz,le_trans->oO,lt_or_ge->oW,ne_of_lt->o6,zero_le->o9,lt_of_lt_of_le->pX,pow_le_pow_right->qj,lt_of_le_of_lt->rD,ne_of_gt->rK,mul_le_mul_left->rN,mul_succ->su,lt_irrefl->tD,lt_succ_of_lt->tM,le_of_lt->va,lt_succ_self->vc,zero_add->vd,le_mul_of_pos_right->vt,le_of_dvd->vA,lt_trichotomy->vN,add_comm->vR,pow_succ->vS,sub_self->vT,mul_le_mul_right->v9,one_mul->wu,pow_add->wz,mul_comm->wN,mul_le_mul->wX,add_mul->yr,Coprime->aad,le_succ->aae,pow_lt_pow_right->aaY,pow_le_pow_left->abh,eq_zero_or_pos->aby,le_of_eq->abz,lt_trans->abA,one_le_two_pow->abB,pow_zero->abC,mul_one->acd,mul_pos->ace,succ_ne_self->acy,not_lt_zero->acQ,mul_assoc->adi
open Option.some renaming inj->oV,injEq->xh
open PySem.PassesOwn renaming never->oX
open Option renaming some->o7,map_eq_some_iff->qe,isSome_iff_exists->ve,map_some->vJ,bind_some->xv,isSome_map->yR,getD_none->zo,getD_some->zp
open Bool renaming false_ne_true->o8,and_eq_true->sj,eq_iff_iff->tW,false_eq_true->uk,and_false->x5,false_and->x6,and_eq_false_iff->aav,not_eq_true->acj
open Rat renaming intCast_mul->ph,mul_nonneg->sM,mul_eq_zero->sS,intCast_sub->tY,div_mul_cancel->uo,mul_comm->vf,intCast_neg->vK,mul_lt_mul_of_pos_left->wm,natCast_mul->wH,num_divInt_den->yA,divInt_eq_div->yU,add_zero->zw,mul_zero->zx,intCast_add->zW,inv_mul_cancel->abH
open PyProof.Rows renaming seqObj->pj,callWith_type1->rE,slot_tuple_getitem->rP,IntsAre->sv,listUpdate_at->uC,AllBare->xx,envOfC->xS,envOfC->x4,boot_enumerate->yz,assignInOrder_cons->yB,ksk_tree->zD,listItems_at->zE,entry_list_sort->zY,call_function_entry_kw->aak,seqEpoch_at->aal,subscriptTail_builtinR->aam,slot_list_sort->aaM,boot_range->aa0,entry_proto_collect'->aa1,subscriptTail->aa9,entry_tuple_getitem->abk,getElem?_mirror_all->abl,wpAny_call_entry_kw->abm,args_tuple_getitem->abJ,entry_sorted->abK,plain_sorted->abN,assignInOrder_nil->ab5,kind_sorted->acg,failedOf->acC,isInt_at->acD,ksk_tail->acE,Subscript_->acX
open PySem.F renaming plainAttrs_list->pA,slot_list_append->qF,type_list_append->qG,called_set->sY,slot_tuple_iterator_next->tT,slot_list_index->t9,type_list_index->vv,slot_zip_next->vU,slot_list_insert->wR,args_tuple_iterator_next_1->xj,entry_tuple_iterator_next->xn,plain_extend_loop->yZ,args_tuple_add_2->zq,slot_tuple_index->zt,type_list_insert->zu,args_zip_next_1->zP,entry_tuple_add->zQ,plain_list_iadd->zR,entry_zip_next->aag,slot_tuple_add->aah,plain_set_new->aaG,slot_set_iter->aaH,slot_int_rmul->acH
open PySem.Obj renaming mapSeq->pI,mapFields->yM,data_mapFields->abD,putSet->acR
open Int renaming natAbs_natCast->pO,natAbs_mul->pP,emod_lt_of_pos->qi,fdiv_eq_ediv_of_dvd->qw,gcd->qJ,emod_nonneg->qK,le_refl->rO,toNat_natCast->sN,mul_ne_zero->tP,gcd_pos_of_ne_zero_left->um,natAbs_ediv_le_natAbs->uJ,gcd_dvd_left->uY,mul_ediv_cancel_left->uZ,mul_le_mul_of_nonneg_right->vE,gcd_dvd_right->vL,natAbs_dvd_natAbs->vP,max_lt->v7,mul_pos->wt,le_of_lt->wJ,lt_of_lt_of_le->wK,mul_nonpos_of_nonpos_of_nonneg->xb,mul_assoc->xo,le_antisymm->xF,lt_or_le->xG,mul_comm->xH,not_lt->xI,mul_le_mul_of_nonneg_left->xW,mul_nonneg->x8,natAbs_neg->ya,ofNat_dvd_left->yv,dvd_trans->yH,fmod_eq_emod_of_nonneg->yJ,natAbs_sub_le->yP,le_trans->zc,zero_add->zd,one_dvd->aab,natAbs_pos->aaw,lt_min->aaU,ediv_mul_cancel->abb,dvd_mul_right->abZ,natAbs_add_le->ab0,le_max_right->acn,le_max_left->acJ,natAbs->acK,natCast_mul->acL,mul_le_mul->ac4,lt_irrefl->adg
open PySem.SetTable renaming below->pQ,grown->uT,has->zy,Probe->ac9,probe->ada,slot->adl
open Sum renaming inl->pU,inr->yi
open Array renaming getElem?_eq_getElem->pY,getD_eq_getD_getElem?->qh,length_toList->qm,getElem?_toList->vO,getElem?_eq_none->xm,perm_iff_toList_perm->yD,getElem_mem->abT,toList_push->abU,toList_map->aci,size_push->acG
open Ne renaming symm->qp
open PySem.Value renaming ref->qA,none->qQ,bool->uO,type->uP,int->vZ,str->abI,isStrOf->adn
open Or renaming inl->qL,inr->abE
open False renaming elim->qP
open PySem.Builtin.SmallTypes renaming nextOf->qT,ownedTupleIsFree->tE,ownedTupleHandOut->wI
open PySem.Heap.SameBut renaming update->rM,refl->abX
open PySem.Str renaming ofString->tq
open PySem.Builtin.Range renaming rangeSize->tJ,small->wC
open True renaming intro->uh
open PySem.Around renaming under_plainId->uG,frames_deeper->aaS
open PySem.Builtin.Slice renaming slicePlaces->uH,sliceAdjust->wD,sliceApplied->yE
open Classical renaming byContradiction->uI
open PySem.Shared renaming heap->uS,TypeIs->adm
open PySem.AutoSeq1 renaming wpAny_loadPart'->uU
open PySem.Builtin.List renaming listTooLong->uV,listExtendWith->vY,listLengthHint->yu,listSameRef->za
open PySem.Builtin.Tuple renaming tupleExact->uW,tupleItemsOf->yF
open PySem.SeqAt renaming shaped->vg,eqv_refl->aaJ
open ForInStep renaming yield->vD
open PySem.W.KasT renaming kasWp_bind->wF
open PySem.PyData renaming depth->wQ,canLay0->yf,canLayAll0->yS,depthAll->zU,int->acT
open PyProof.Rows.F renaming plain_set_update_loop->w6,entry_set_update_loop->zK
open Function renaming comp_def->w9
open List.Pairwise renaming imp->xf,nil->yQ
open PySem.SetTable.below renaming go->xk
open PySem.Data renaming cell->xy,fields->yq
open List.Perm renaming refl->yc,swap->ac5
open Prod renaming fst->ye,snd->aaZ
open PySem.Calls renaming Name_function_global->yG,callWith_builtin->aaa,evalArgs_plain->aaT,spliced_cons->abn,spliced_nil->abV
open PySem.IsL renaming update->zv
open PyProof renaming noPylong_small->aaf
open Sum.inl renaming inj->aaj
open PySem.Paired renaming length->aa5
open PySem.Builtin.Int renaming intBits->aba
open Std.Legacy.Range renaming forIn_eq_forIn_range'->abj
open PySem.Code renaming quiet_builtin->abo
open PyProof.Rows.IsTup renaming new->abq
open PySem.pickOrder renaming go->abM
open PySem.Heap.IsTuple renaming push->abW
open PySem.SetTable.probe renaming go->ab4
open PySem.Heap.IsList renaming push->ack
open Std.Legacy renaming Range->acA
open Array.Perm renaming refl->acF
open PySem.Spec renaming same->acU
open StateT renaming run_pure->acW
open PySem.Builtin.Frozenset renaming updateFrom->ac3,newClass->adf,sizeOf->ado
open Prod.mk renaming injEq->adj
open PySem.SetTable.Met.empty renaming injEq->adp
open PySem.Heap.IsTupleIter renaming extBut->adq
theorem oC:type_of% @if_neg:=@if_neg
theorem oH:type_of% @if_pos:=@if_pos
theorem qu:type_of% @decide_eq_false:=@decide_eq_false
theorem qC:type_of% @decide_eq_true:=@decide_eq_true
theorem qN:type_of% @or_false:=@or_false
theorem tr:type_of% @decide_eq_true_iff:=@decide_eq_true_iff
theorem uE:type_of% @decide_eq_true_eq:=@decide_eq_true_eq
theorem wj:type_of% @if_false:=@if_false
local macro_rules|`(tactic|exists $es,*)=>`(tactic|refine⟨$es,*, ?_⟩)
theorem G{α:Sort u}{a:α}:a=a:=rfl
namespace L2
open PySem PySem.Spec PyProof.Rows
abbrev Aq:=Sum Int Str
def Jz:Aq->Value->Bool
 |.inl k,v=>Value.isInt k v
 |.inr x,v=>adn x v
def lu(w:World):Aq->Int
 |.inl k=>hashInt k
 |.inr x=>hashStr w x
theorem GZ:∀{k:Aq} {v:Value},Jz k v=true->(∃i t,k=pU i/\v=vZ i t)\/(∃x t,k=yi x/\v=abI x t)
 |.inl i,v,h=>by
  obtain⟨t,e⟩:=Value.isInt_shape (k:=i) (v:=v) h;exact .inl ⟨i,t,G,e⟩
 |.inr x,v,h=>by
  obtain⟨t,e⟩:=Value.isStrOf_shape (x:=x) (v:=v) h;exact .inr ⟨x,t,G,e⟩
theorem Yq(i:Int)(t:Tok):Jz (.inl i) (.int i t)=true:=by simp[Jz,Value.isInt]
theorem Yz(x:Str)(t:Tok):Jz (.inr x) (.str x t)=true:=by simp[Jz,adn]
theorem iF(a b:Int):decide ((pU a:Aq)=pU b)=(a == b):=by
 by_cases e:a=b
 ·subst e;simp
 ·have h:¬(pU a:Aq)=pU b:=λq=>e (aaj q)
  rw[qu h];exact(beq_eq_false_iff_ne.mpr e).symm
theorem jb(a b:Str):decide ((yi a:Aq)=yi b)=decide (a=b):=by
 by_cases e:a=b
 ·subst e;simp
 ·have h:¬(yi a:Aq)=yi b:=λq=>e (yi.inj q)
  rw[qu h,qu e]
theorem iX(a:Int)(b:Str):decide ((pU a:Aq)=yi b)=false:=qu (λq=>nomatch q)
theorem jX(a:Str)(b:Int):decide ((yi a:Aq)=pU b)=false:=qu (λq=>nomatch q)
def Dn(prog:pG)(w:World):PySem.KeyKind prog w Aq where
 is:=Jz
 hash:=lu w
 inj:=λv a b ha O=>by
  rcases GZ ha with ⟨i,t,rfl,rfl⟩|⟨x,t,rfl,rfl⟩
  ·rcases GZ O with ⟨j,u,rfl,e⟩|⟨y,u,rfl,e⟩
   ·injection e with F _;rw[F]
   ·exact nomatch e
  ·rcases GZ O with ⟨j,u,rfl,e⟩|⟨y,u,rfl,e⟩
   ·exact nomatch e
   ·injection e with F _;rw[F]
 byValue:=λk v h=>by
  rcases GZ h with ⟨i,t,rfl,rfl⟩|⟨x,t,rfl,rfl⟩<;>rfl
 pyHash:=λJ h=>by
  rcases GZ J with ⟨i,t,rfl,rfl⟩|⟨x,t,rfl,rfl⟩
  ·exact wpAny_pyHash_int h
  ·exact wpAny_pyHash_str h
 eqBool:=λhu J h=>by
  rcases GZ hu with ⟨i,t,rfl,rfl⟩|⟨x,t,rfl,rfl⟩
  ·rcases GZ J with ⟨j,u,rfl,rfl⟩|⟨y,u,rfl,rfl⟩
   ·rw[iF]at h;exact wpAny_eqBool_int h
   ·rw[iX]at h;exact SeqAt.EqAt.int_str i t y u _ _ _ _ h
  ·rcases GZ J with ⟨j,u,rfl,rfl⟩|⟨y,u,rfl,rfl⟩
   ·rw[jX]at h;exact SeqAt.EqAt.str_int x t j u _ _ _ _ h
   ·rw[jb]at h;exact wpAny_eqBool_str h
 «strs»:=λk x t v h=>by
  rcases GZ h with ⟨i,u,rfl,e⟩|⟨y,u,rfl,e⟩
  ·exact nomatch e
  ·injection e with F _
   subst F;cases v<;>rfl
theorem X3(prog:pG)(w:World)(i:Int)(t:Tok):(Dn prog w).is (.inl i) (.int i t)=true:=Yq i t
theorem Xx(prog:pG)(w:World)(x:Str)(t:Tok):(Dn prog w).is (.inr x) (.str x t)=true:=Yz x t
inductive V where
 |Ay|bl (b:Bool)|int (i:Int)|str (x:Str)|Eb (b:Array UInt8)|JJ (b:UInt64)|ref (a:Addr)|ty (n:String)
 deriving DecidableEq
def Ao:V->Value->Prop
 |.Ay,u=>u=qQ
 |.bl b,u=>u=uO b
 |.int i,u=>∃t,u=vZ i t
 |.str x,u=>∃t,u=abI x t
 |.Eb b,u=>∃t,u=Value.bytes b t
 |.JJ b,u=>∃t,u=Value.float b t
 |.ref a,u=>u=qA a
 |.ty n,u=>u=uP n
abbrev Af:List V->List Value->Prop:=wO Ao
theorem Af.length(r:Af xs us):xs.length=us.length:=aa5 r
theorem Af.get:∀{xs:List V} {F:List Value} {i:Nat} {x:V},Af xs F->xs[i]?=some x->∃u,F[i]?=some u/\Ao x u
 |_,_,_,_,.nil,e=>by simp at e
 |_,_,0,_,.cons r _,e=>by simp at e;subst e;exact⟨_,G,r⟩
 |_,_,i+1,x,.cons _ t,e=>by
  obtain⟨u,h1,h2⟩:=Af.get (i:=i) (x:=x) t (by simpa using e);exact⟨u,by simpa using h1,h2⟩
theorem Af.set(r:Ao x u):∀{xs:List V} {F:List Value} (i:Nat),Af xs F->Af (xs.set i x) (F.set i u)
 |_,_,_,.nil=>.nil
 |_,_,0,.cons _ t=>.cons r t
 |_,_,i+1,.cons q t=>.cons q (Af.set r i t)
theorem Af.append:∀{xs ys:List V} {J F:List Value},Af xs J->Af ys F->Af (xs++ys) (J++F)
 |_,_,_,_,.nil,s=>s
 |_,_,_,_,.cons r t,s=>.cons r (Af.append t s)
theorem Af.take:∀{xs:List V} {F:List Value} (n:Nat),Af xs F->Af (xs.take n) (F.take n)
 |_,_,0,_=>.nil
 |_,_,_+1,.nil=>.nil
 |_,_,n+1,.cons r t=>.cons r (Af.take n t)
theorem Af.drop:∀{xs:List V} {F:List Value} (n:Nat),Af xs F->Af (xs.drop n) (F.drop n)
 |_,_,0,r=>r
 |_,_,_+1,.nil=>.nil
 |_,_,n+1,.cons _ t=>Af.drop n t
def Fo:Option V->Option Value->Prop
 |some v,some u=>Ao v u
 |none,none=>True
 |_,_=>False
def KV{κ:Type}:List (κ×V)->List (κ×Value)->Prop:=wO λ(p:κ×V) (q:κ×Value)=>p.1=q.1/\Ao p.2 q.2
def kV:Aq->V
 |.inl i=>.int i
 |.inr x=>.str x
inductive HO where
  |AE (xs:List V)
  |AF (xs:List V)
  |dK (ii:List (Aq×V))|dT (ii:List (List Aq×V))
  |set (S:Int->Bool)(n:Nat)
  |Fz (C dx:Addr)(fs:List (Str×V))
  |EZ (x:Addr)
  |xd (fs:List (Str×V))
  |Qm (f x:Addr)
  |KY (lo hi:Int)
  |EF (o:Obj)(u:HO)
  |CT (ps:Array Value)
  |ext (φ:Heap->Prop)
abbrev Hp:=Addr->Option HO
def AG(H:Hp)(a:Addr)(o:HO):Hp:=λb=>if b=a then some o else H b
theorem AQ:AG H a o a=some o:=by unfold AG;rw[oH rfl]
theorem AV(h:b≠a):AG H a o b=H b:=by unfold AG;rw[oC h]
theorem TX:AG (AG H a o) a u=AG H a u:=by
 funext b;unfold AG;split<;>rfl
theorem Va{H:Hp}(h:H a=some o)(h':H b=some u)(d:o≠u):a≠b:=by
 intro e;subst e;rw[h]at h';exact d (oV h')
theorem BD{H:Hp}(h:H a=some o)(h':H b=none):a≠b:=by
 intro e;subst e;rw[h]at h';cases h'
section
variable (P:pG)(w:World)
def BP(H:Hp)(h:Heap)(a:Addr):HO->Prop
 |.AE xs=>xs.length<=oR/\∃(its:List Value) (n:Nat),Af xs its/\h.get? a=some { cls:=.type "list",data:=.seq its.toArray n}
 |.AF xs=>xs.length<=oR/\∃its:List Value,Af xs its/\IsTup h a its.toArray/\∃o,h.get? a=some o/\o.dict=none
 |.dK ii=>ii.length<=oR/\(a == ui)=false/\∃vs,KV ii vs/\h.DictOf (Dn P w) a vs
 | .dT ii=>ii.length<=oR/\(a == ui)=false/\∃xs:List (List Aq×Addr×Value),
   wO (λ(p:List Aq×V) (q:List Aq×Addr×Value)=>p.1=q.1/\H q.2.1=some (.AF (p.1.map kV))/\Ao p.2 q.2.2) ii xs /\
   ∃o es ep,h.get? a=some o/\o.ExactDict/\o.data=.dict es ep/\es.toList=xs.map (entryOfKey (zZ (Dn P w)))/\(xs.map (·.1)).Nodup
 |.set S n=>h.SetOf (vX P w) a S n
 | .Fz C dx fs=>H dx=some (.EZ a)/\fs.length<=1000/\dx≠a/\h.get? a=some (zV C dx) /\
   ∃F,h.Ns1 dx F/\(∀f,Fo (fs.lookup f) (F f))/\PySem.Within F (fs.map (·.1))
 |.EZ _=>∃o,h.get? a=some o
 |.xd fs=>∃F,h.Ns1 a F/\∀f,Fo (fs.lookup f) (F f)
 |.KY lo hi=>∃t u v,h.get? a=some { cls:=.type "range",data:=.fields #[.int lo t,.int hi u,.int 1 v]}
 |.EF o u=>h.get? a=some o/\BP H h a u
 |.CT ps=>h.get? a=some { cls:=.none,data:=.fields ps}
 |.Qm f x=>h.get? a=some (yT (.ref f) (.ref x))
 |.ext φ=>φ h/\(∃o,h.get? a=some o)/\∀h1 h2:Heap,φ h1->(∀o,h1.get? a=some o->h2.get? a=some o)->φ h2
def Bp(H:Hp)(h:Heap):Prop:=∀a o,H a=some o->BP P w H h a o
end
section
variable {P:pG}{w:World}{H H':Hp}{h h':Heap}{a:Addr}{o:HO}
theorem BP.lt(x:BP P w H h a o):a<h.objs.size:=by
 cases o with
 |AE xs=>obtain⟨_,_,_,_,e⟩:=x;exact oK e
 |AF xs=>obtain⟨_,_,_,p,_⟩:=x;exact p.lt
 |dK ii=>obtain⟨_,_,_,_,o,_,_,e,_⟩:=x;exact oK e
 |dT ii=>obtain⟨_,_,_,_,o,_,_,e,_⟩:=x;exact oK e
 |set S n=>obtain⟨o,_,_,_,e,_⟩:=x;exact oK e
 |Fz C dx fs=>obtain⟨_,_,_,e,_⟩:=x;exact oK e
 |EZ y=>obtain⟨_,e⟩:=x;exact oK e
 |xd fs=>obtain⟨_,⟨_,_,_,e,_⟩,_⟩:=x;exact oK e
 |KY lo hi=>obtain⟨_,_,_,e⟩:=x;exact oK e
 |EF ob u=>obtain⟨e,_⟩:=x;exact oK e
 |CT ps=>exact oK (show h.get? a=some _ from x)
 |Qm f y=>exact oK (show h.get? a=some _ from x)
 |ext φ=>obtain⟨_,⟨_,e⟩,_⟩:=x;exact oK e
theorem wO.QO{α β:Type}{F G:α->β->Prop}:∀{J:List α} {O:List β},wO F J O->(∀a b,F a b->G a b)->wO G J O
 |_,_,.nil,_=>.nil
 |_,_,.cons r t,f=>.cons (f _ _ r) (wO.QO t f)
theorem BP.Fp (x:BP P w H h a o)(k:∀b u,(b=a\/H b=some (.EZ a))->h.get? b=some u->h'.get? b=some u)
  (ho:∀b,H b=some (.EZ a)->H' b=some (.EZ a))(ht:∀b xs,H b=some (.AF xs)->H' b=some (.AF xs)):BP P w H' h' a o:=by
 induction o with
 |AE xs=>obtain⟨z,its,n,r,e⟩:=x;exact⟨z,its,n,r,k _ _ (.inl rfl) e⟩
 |AF xs=>obtain⟨z,its,r,⟨F,e,c⟩,aa,O,c2⟩:=x;exact⟨z,its,r,⟨F,k _ _ (.inl rfl) e,c⟩,aa,k _ _ (.inl rfl) O,c2⟩
 |dK ii=>obtain⟨z,y,vs,r,F,es,ep,e,c⟩:=x;exact⟨z,y,vs,r,F,es,ep,k _ _ (.inl rfl) e,c⟩
 |dT ii =>
  obtain⟨z,y,xs,r,F,es,ep,e,c⟩:=x;exact⟨z,y,xs,wO.QO r λp q z=>⟨z.1,ht _ _ z.2.1,z.2.2⟩,F,es,ep,k _ _ (.inl rfl) e,c⟩
 |set S n=>obtain⟨F,es,ep,t,e,c⟩:=x;exact⟨F,es,ep,t,k _ _ (.inl rfl) e,c⟩
 |Fz C dx fs =>
  obtain⟨d,z,ne,e,J,⟨od,es,ep,O,c⟩,r⟩:=x;exact⟨ho _ d,z,ne,k _ _ (.inl rfl) e,J,⟨od,es,ep,k _ _ (.inr d) O,c⟩,r⟩
 |EZ y=>obtain⟨F,e⟩:=x;exact⟨F,k _ _ (.inl rfl) e⟩
 |xd fs=>obtain⟨J,⟨od,es,ep,e,c⟩,r⟩:=x;exact⟨J,⟨od,es,ep,k _ _ (.inl rfl) e,c⟩,r⟩
 |KY lo hi=>obtain⟨t,u,v,e⟩:=x;exact⟨t,u,v,k _ _ (.inl rfl) e⟩
 |EF F u ih=>obtain⟨e,q⟩:=x;exact⟨k _ _ (.inl rfl) e,ih q⟩
 |CT ps =>
  have e:h.get? a=some { cls:=.none,data:=.fields ps}:=x;show h'.get? a=some { cls:=.none,data:=.fields ps};exact k a _ (.inl rfl) e
 |Qm f y =>
  have e:h.get? a=some (yT (.ref f) (.ref y)):=x;show h'.get? a=some (yT (.ref f) (.ref y));exact k a _ (.inl rfl) e
 |ext φ=>obtain⟨p,⟨o,e⟩,st⟩:=x;exact⟨st _ _ p λo q=>k _ _ (.inl rfl) q,⟨o,k _ _ (.inl rfl) e⟩,st⟩
theorem Bp.lt(x:Bp P w H h)(e:H a=some o):a<h.objs.size:=(x a o e).lt
theorem Bp.fresh(x:Bp P w H h)(e:h.objs.size<=a):H a=none:=by
 cases q:H a with
 |none=>rfl
 |some u=>exact absurd (pX (x.lt q) e) (tD _)
theorem Bp.Bf(x:Bp P w H h)(k:∀b u,h.get? b=some u->h'.get? b=some u):Bp P w H h':=λa o e =>
 (x a o e).Fp (λb u _ q=>k b u q) (λ_ q=>q) λ_ _ q=>q
theorem Bp.laid(x:Bp P w H h)(k:∀b u,h.get? b=some u->h'.get? b=some u)(hp:h.objs.size<=a)(O:BP P w (AG H a o) h' a o):Bp P w (AG H a o) h':=λb u e=>by
 have F:=x.fresh hp;by_cases J:b=a
 ·subst J;rw[AQ]at e;cases e;exact O
 ·rw[AV J]at e;exact(x b u e).Fp (λc v _ q=>k c v q) (λc q=>by rw[AV (BD q F)];exact q) λc xs q=>by rw[AV (BD q F)];exact q
end
def Rd(H:Hp)(a:Addr)(u:HO):Prop:=H a=some u\/∃o,H a=some (.EF o u)
theorem Rd.ok(r:Rd H a u)(x:Bp P w H h):BP P w H h a u:=by
 rcases r with r|⟨o,r⟩
 ·exact x a u r
 ·obtain⟨_,q⟩:=x a _ r;exact q
def Lu:Option HO->Prop
 |some (.AE _)=>True
 |some (.dK _)=>True
 |some (.dT _)=>True
 |some (.set _ _)=>True
 |some (.Fz _ _ _)=>True
 |some (.ext _)=>True
 |_=>False
section
variable {P:pG}{w:World}{H:Hp}{h h':Heap}{x e:Addr}{o':HO}
theorem Bp.Fi (ok:Bp P w H h)(F:Lu (H x))(he:e=x\/H e=some (.EZ x))(k:∀b u,b≠e->h.get? b=some u->h'.get? b=some u)(ab:∃u,h'.get? e=some u)
  (ac:BP P w (AG H x o') h' x o'):Bp P w (AG H x o') h':=λb u q=>by
 have aa:∀c y,H c=some (.EZ y)->c≠x:=λc y r z=>by subst z;rw[r]at F;exact F
 have ad:∀c xs,H c=some (.AF xs)->c≠x:=λc xs r z=>by subst z;rw[r]at F;exact F
 by_cases J:b=x
 ·subst J;rw[AQ]at q;cases q;exact ac
 ·rw[AV J]at q;by_cases O:b=e
  ·have q':H b=some (.EZ x):=by
    rcases he with z|z
    ·exact absurd (O.trans z) J
    ·rw[O];exact z
   rw[q]at q';cases q';obtain⟨v,hv⟩:=ab;exact⟨v,by rw[O];exact hv⟩
  ·refine(ok b u q).Fp (λc v hc r=>k c v ?_ r) (λc r=>by rw[AV (aa c b r)];exact r) λc xs r=>by rw[AV (ad c xs r)];exact r
   rcases hc with rfl|hc
   ·exact O
   ·rintro rfl;rcases he with z|z
    ·exact aa c b hc z
    ·rw[hc]at z;cases z;exact J rfl
end
structure Un(fs ex:List Addr)(H H':Hp)(h h':Heap):Prop where
 keep:∀b o,h.get? b=some o->H b=none->b∉fs->b∉ex->h'.get? b=some o
 slot:∀b o,h.get? b=some o->H b=none->b∈fs->b∉ex->∃sl,h'.get? b=some { o with slots:=sl}
 free:∀b o,h.get? b=some o->H b=none->b∉ex->H' b=none
 Hf:∀b o,h.get? b=some o->b∉ex->∃o',h'.get? b=some o'
 JA:∀b xs,H b=some (.AF xs)->H' b=some (.AF xs)
 Hz:∀b o u,H b=some (.EF o u)->H' b=some (.EF o u)
 Hs:∀b ps,H b=some (.CT ps)->∃more,H' b=some (.CT (ps++more))
section
variable {fs fs' ex ex':List Addr}{H H1 H2:Hp}{h h1 h2 h':Heap}{a x e:Addr}{o:HO}
theorem Un.any(u:Un fs ex H H1 h h1)(q:h.get? b=some ob)(n:H b=none)(J:b∉ex):∃sl,h1.get? b=some { ob with slots:=sl}:=by
 by_cases F:b∈fs
 ·exact u.slot b ob q n F J
 ·exact⟨ob.slots,u.keep b ob q n F J⟩
theorem Un.Bf(k:∀b u,h.get? b=some u->h'.get? b=some u):Un fs ex H H h h' :=
 ⟨λb F q _ _ _=>k b F q,λb F q _ _ _=>⟨F.slots,k b F q⟩,λ_ _ _ n _=>n,λb F q _=>⟨F,k b F q⟩,λ_ _ q=>q,λ_ _ _ q=>q,λ_ ps q=>⟨#[],by rw[q];simp⟩⟩
theorem Un.refl:Un fs ex H H h h:=Un.Bf λ_ _ q=>q
theorem Un.laid(k:∀b u,h.get? b=some u->h'.get? b=some u)(J:h.objs.size<=a)(F:H a=none):Un fs ex H (AG H a o) h h' where
 keep:=λb u q _ _ _=>k b u q
 slot:=λb u q _ _ _=>⟨u.slots,k b u q⟩
 free:=λb u q n _=>by rw[AV (o6 (pX (oK q) J))];exact n
 Hf:=λb u q _=>⟨u,k b u q⟩
 JA:=λb xs q=>by rw[AV (BD q F)];exact q
 Hz:=λb u xs q=>by rw[AV (BD q F)];exact q
 Hs:=λb ps q=>⟨#[],by rw[AV (BD q F),q];simp⟩
theorem Un.Fi(F:Lu (H x))(he:e=x\/H e=some (.EZ x))(k:∀b u,b≠e->h.get? b=some u->h'.get? b=some u)(aa:∃u,h'.get? e=some u):Un fs ex H (AG H x o) h h':=by
 have hx:∀b,H b=none->b≠x:=λb n z=>by subst z;rw[n]at F;exact F
 have hb:∀b,H b=none->b≠e:=λb n z=>by
  subst z;rcases he with r|r
  ·exact hx b n r
  ·rw[n]at r;cases r
 have J:∀b u,H b=some u->¬Lu (some u)->b≠x:=λb u q nm z=>by subst z;rw[q]at F;exact nm F
 refine⟨λb u q n _ _=>k b u (hb b n) q,λb u q n _ _=>⟨u.slots,k b u (hb b n) q⟩,λb u q n _=>by rw[AV (hx b n)];exact n,λb u q _=>?_,
  λb xs q=>by rw[AV (J b _ q λz=>z)];exact q,λb u xs q=>by rw[AV (J b _ q λz=>z)];exact q,λb ps q=>⟨#[],by rw[AV (J b _ q λz=>z),q];simp⟩⟩
 by_cases O:b=e
 ·subst O;exact aa
 ·exact⟨u,k b u O q⟩
end
def N6(h:Heap)(H:Hp):List Addr:=(oN h.objs.size).filter λa=>(H a).isSome
def GO(h:Heap)(H:Hp):Heap:=PySem.W.hideAll h (N6 h H)
theorem Zk(h:Heap)(H:Hp):(GO h H).objs.size=h.objs.size:=PySem.W.hideAll_size _ _
theorem cJ(e:h.get? b=some o)(n:H b=none):(GO h H).get? b=some o :=
 PySem.W.hideAll_get _ e λF=>by
  have q:(H b).isSome=true:=(rW.mp F).2;rw[n]at q;simp at q
theorem dO(e:(GO h H).get? b=some o):h.get? b=some o/\H b=none:=by
 have F:h.get? b=some o:=PySem.W.of_hideAll (N6 h H) e;exists F;cases q:H b with
 |none=>rfl
 |some x =>
  have J:b∈N6 h H:=rW.mpr ⟨pW.mpr (oK F),by simp[q]⟩;have z:(GO h H).get? b=none:=PySem.W.hideAll_none (N6 h H) J;rw[z]at e;cases e
structure Mod(K:ow)(mg:Str->Option Value)(base:Heap):Prop where
 Ql:K.In base
 ET:base.Ns rH mg
 KR:∃mb,base.Ns xQ mb/\∀x:Str,x≠"__name__"->mb x=qY x
 nolimit:base.NoLimit
structure Cx where
 prog:pG
 w:World
 K:ow
 mg:Str->Option Value
 base:Heap
 A:qM
 N:List Str
 s₀:oq
 H₀:Hp
 env:Env
 outer:List Env
 DE:List Env
 ex:List Addr
 fn:Str->Bool
 B9:Bool
 pn:List (Addr×Obj)
 xe:Value->oq->Prop
def F3(l:List Env):List Addr:=l.filterMap (·.frame)
abbrev Cx.fs(X:Cx):List Addr:=F3 X.outer
def Qg(F:Scope)(x:Str):Prop:=F.names.lookup x=some .local\/F.names.lookup x=some .cell\/F.names.lookup x=some .free
def IH(F:Scope)(x:Str):Prop:=F.names.lookup x=some .local\/F.names.lookup x=some .cell
def lO(env:Env)(h:Heap)(m:Str->Option Value)(x:Str)(u:Value):Prop :=
 (env.kindOf x=some .local/\m x=some u)\/((env.kindOf x=some .cell\/env.kindOf x=some .free)/\∃c,env.cells.lookup x=some c/\h.IsCell c (some u))
structure Cx.Ok(X:Cx):Prop where
 Cv:Mod X.K X.mg X.base
 kind:X.env.scope.kind=.function
 ET:X.env.globals=rH
 KR:X.env.builtins=xQ
 above:X.s₀.heap.objs.size<=X.env.locals
 inj:∀x y c,X.env.cells.lookup x=some c->X.env.cells.lookup y=some c->x=y
 has:∀x,(X.env.kindOf x=some .cell\/X.env.kindOf x=some .free)->∃c,X.env.cells.lookup x=some c
 Lm:∀x c,X.fn x=true->X.env.cells.lookup x=some c->X.s₀.heap.objs.size<=c
 hd:X.B9=true->X.A.handled=none
 frames:X.A.frames=some X.DE
 Ny:X.DE=X.outer\/(X.DE=X.env :: X.outer/\X.env.frame=some X.env.locals)
 XO:∀b∈X.ex,b≠X.env.locals/\∀x c,X.env.cells.lookup x=some c->c≠b
 bs:∀b o,X.base.get? b=some o->X.s₀.heap.get? b=some o/\X.H₀ b=none
 GW:X.base.objs.size<=X.s₀.heap.objs.size
 LU:∀b o,X.base.get? b=some o->b∉X.ex
 Lb:∀b∈X.ex,b∉X.fs
 Ew:X.s₀.heap.FunFrames X.base X.outer
 IJ:∀b∈X.fs,X.H₀ b=none
structure AI(X:Cx)(ge:List (Addr×Obj))(σ:List (Option V))(H:Hp)(s:oq):Prop where
 ok:X.Ok
 os:s.os=X.s₀.os
 C5:xx s.gens
 base:Un X.fs X.ex X.H₀ H X.s₀.heap s.heap
 D4:∃m,s.heap.Ns X.env.locals m/\∀(i:Nat) (x:Str) (v:V),X.N[i]?=some x->σ[i]?=some (some v)->Qg X.env.scope x->∃u,Ao v u/\lO X.env s.heap m x u
 cell:∀x c,X.env.cells.lookup x=some c->∃v,s.heap.IsCell c v
 free:H X.env.locals=none
 FH:∀x c,X.env.cells.lookup x=some c->H c=none
 pin:∀p∈X.pn++ge,s.heap.get? p.1=some p.2/\H p.1=none/\p.1≠X.env.locals/\p.1∉X.fs/\∀v,p.2.data≠.cell v
 AY:Bp X.prog X.w H s.heap
 len:σ.length=X.N.length
section
variable {X:Cx}{ge:List (Addr×Obj)}{σ:List (Option V)}{H H':Hp}{s:oq}{h':Heap}
theorem Cx.Ok.lq(J:X.Ok)(e:X.base.get? b=some o):b∉X.fs:=λF=>by
 have:=(J.Ew.mem F).1
 rw[e]at this;cases this
theorem AI.bs(I:AI X ge σ H s):∀b o,X.base.get? b=some o->s.heap.get? b=some o/\H b=none:=λb o e =>
 ⟨I.base.keep b o (I.ok.bs b o e).1 (I.ok.bs b o e).2 (I.ok.lq e) (I.ok.LU b o e),I.base.free b o (I.ok.bs b o e).1 (I.ok.bs b o e).2 (I.ok.LU b o e)⟩
theorem AI.bk(I:AI X ge σ H s):∀b o,X.base.get? b=some o->s.heap.get? b=some o:=λb o e=>(I.bs b o e).1
theorem AI.Cv(I:AI X ge σ H s):Mod X.K X.mg X.base:=I.ok.Cv
theorem AI.Dl(I:AI X ge σ H s):X.K.In s.heap:=I.ok.Cv.Ql.keeps I.bk
theorem AI.lt(I:AI X ge σ H s):X.env.locals<s.heap.objs.size:=let ⟨_,hn,_⟩:=I.D4;hn.lt
theorem AI.sz(I:AI X ge σ H s):X.s₀.heap.objs.size<=s.heap.objs.size:=oO I.ok.above (va I.lt)
theorem AI.Wm(I:AI X ge σ H s)(h:s.heap.objs.size<=a):a∉X.fs:=λJ=>by
 obtain⟨_,o,F,_⟩:=I.ok.Ew.mem J;exact absurd (pX (oK F) (oO I.sz h)) (tD _)
theorem AI.Qb(I:AI X ge σ H s):∀x c,X.env.cells.lookup x=some c->c≠X.env.locals:=λx c e z=>by
 obtain⟨v,o,F,hd⟩:=I.cell x c e;obtain⟨m,⟨o',es,ep,O,J,_⟩,_⟩:=I.D4;rw[z,O]at F;cases F;rw[J]at hd;cases hd
theorem AI.Ew(I:AI X ge σ H s):s.heap.FunFrames X.base X.outer:=by
 have all:∀(l:List Env),(∀b∈F3 l,b∈X.fs)->X.s₀.heap.FunFrames X.base l->s.heap.FunFrames X.base l:=by
  intro l
  induction l with
  |nil=>intro _ _;trivial
  |cons env r ih =>
   intro hs hl;obtain⟨hk,⟨L,o,F,hn,ho,hd⟩,hr⟩:=hl;have O:L∈X.fs:=hs L (by unfold F3;rw[vk,F];exact rh);obtain⟨sl,e⟩:=I.base.slot L o ho (I.ok.IJ L O) O λz=>I.ok.Lb L z O
   exact⟨hk,⟨L,_,F,hn,e,hd⟩,ih (λb J=>hs b (by unfold F3;rw[vk,F];exact pF _ J)) hr⟩
 exact all X.outer (λ_ J=>J) I.ok.Ew
theorem AI.DE(I:AI X ge σ H s):s.heap.FunFrames X.base X.DE:=by
 rcases I.ok.Ny with e|⟨e,J⟩
 ·rw[e];exact I.Ew
 ·rw[e];obtain⟨m,F,_⟩:=I.D4;refine .cons (by rw[I.ok.kind];decide) J F ?_ I.Ew;exact v5 (oO I.ok.GW I.ok.above)
theorem AI.M9(I:AI X ge σ H s):∀b∈F3 X.DE,b∈X.env.locals :: X.fs:=λb F=>by
 rcases I.ok.Ny with e|⟨e,J⟩
 ·rw[e]at F;exact pF _ F
 ·rw[e]at F;unfold F3 at F;rw[vk,J]at F;exact F
theorem AI.Te(I:AI X ge σ H s):∀b∈F3 X.DE,H b=none:=λb hb=>by
 rcases oG.mp (I.M9 b hb)with e|hb
 ·rw[e];exact I.free
 ·obtain⟨_,o,F,_⟩:=I.ok.Ew.mem hb;exact I.base.free b o F (I.ok.IJ b hb) λz=>I.ok.Lb b z hb
theorem AI.step {g':Array GenState}{t':Nat}{d':Drawn}{ch:List Addr}(I:AI X ge σ H s)
  (aa:∀b∈ch,(b∈X.ex\/X.s₀.heap.objs.size<=b)/\b≠X.env.locals/\(∀x c,X.env.cells.lookup x=some c->c≠b)/\∀p∈X.pn++ge,p.1≠b)
  (ae:∀b o,b≠X.env.locals->b∉X.fs->b∉ch->s.heap.get? b=some o->H b=none->h'.get? b=some o)
  (ag:∀b o,b≠X.env.locals->b∈X.fs->b∉ch->s.heap.get? b=some o->H b=none->∃sl,h'.get? b=some { o with slots:=sl})(ad:∀b o,b∉ch->s.heap.get? b=some o->H b=none->H' b=none)
  (ap:∀b o,b∉ch->s.heap.get? b=some o->∃o',h'.get? b=some o')
  (am:∀b xs,H b=some (.AF xs)->H' b=some (.AF xs))(ai:∀b o u,H b=some (.EF o u)->H' b=some (.EF o u))(ak:∀b ps,H b=some (.CT ps)->∃ao,H' b=some (.CT (ps++ao)))
  (ns:∀m,s.heap.Ns X.env.locals m->h'.Ns X.env.locals m)(al:Bp X.prog X.w H' h')(hg:xx g') :
  AI X ge σ H' { s with heap:=h',gens:=g',drawn:=d',toks:=t'}:=by
 have ah:∀b o,X.s₀.heap.get? b=some o->b≠X.env.locals:=λb o e=>o6 (pX (oK e) I.ok.above)
 have ac:∀b o,X.s₀.heap.get? b=some o->b∉X.ex->b∉ch:=λb o e F O=>by
  rcases(aa b O).1 with z|z
  ·exact F z
  ·exact absurd (pX (oK e) z) (tD _)
 have af:∀x c,X.env.cells.lookup x=some c->∀v,s.heap.IsCell c v->h'.IsCell c v:=λx c e v ⟨o,ho,hd⟩=>by
  have ab:c∉ch:=λz=>(aa c z).2.2.1 x c e rfl
  by_cases hc:c∈X.fs
  ·obtain⟨sl,q⟩:=ag c o (I.Qb x c e) hc ab ho (I.FH x c e);exact⟨_,q,hd⟩
  ·exact⟨o,ae c o (I.Qb x c e) hc ab ho (I.FH x c e),hd⟩
 refine⟨I.ok,I.os,hg,⟨λb o e n O F=>?_,λb o e n O F=>?_,λb o e n F=>?_,λb o e F=>?_,λb xs e=>am b xs (I.base.JA b xs e),λb o xs e=>ai b o xs (I.base.Hz b o xs e),λb ps e=>?_⟩,?_,λx c e=>?_,?_,λx c e=>?_,λp hp=>?_,al,I.len⟩
 ·exact ae b o (ah b o e) O (ac b o e F) (I.base.keep b o e n O F) (I.base.free b o e n F)
 ·obtain⟨sl,J⟩:=I.base.slot b o e n O F;obtain⟨aj,e2⟩:=ag b _ (ah b o e) O (ac b o e F) J (I.base.free b o e n F);exact⟨aj,e2⟩
 ·obtain⟨o',J⟩:=I.base.Hf b o e F;exact ad b o' (ac b o e F) J (I.base.free b o e n F)
 ·obtain⟨o',J⟩:=I.base.Hf b o e F;exact ap b o' (ac b o e F) J
 ·obtain⟨m1,J⟩:=I.base.Hs b ps e;obtain⟨m2,e2⟩:=ak b _ J;exact⟨m1++m2,by rw[e2,Array.append_assoc]⟩
 ·obtain⟨m,hn,hl⟩:=I.D4;refine⟨m,ns m hn,λi x v J e2 e3=>?_⟩;obtain⟨u,r,l⟩:=hl i x v J e2 e3;exists u,r;rcases l with l|⟨k,c,e,z⟩
  ·exact .inl l
  ·exact .inr ⟨k,c,e,af x c e _ z⟩
 ·obtain⟨v,z⟩:=I.cell x c e;exact⟨v,af x c e v z⟩
 ·obtain⟨m,⟨o,_,_,ho,_⟩,_⟩:=I.D4;exact ad _ o (λz=>(aa _ z).2.1 rfl) ho I.free
 ·obtain⟨v,o,ho,hd⟩:=I.cell x c e;exact ad c o (λz=>(aa c z).2.2.1 x c e rfl) ho (I.FH x c e)
 ·obtain⟨e,n,ne,nf,d⟩:=I.pin p hp;have ab:p.1∉ch:=λz=>(aa p.1 z).2.2.2 p hp rfl
  exact⟨ae p.1 p.2 ne nf ab e n,ad p.1 p.2 ab e n,ne,nf,d⟩
theorem AI.un(I:AI X ge σ H s)(u:Un X.fs [] H H' s.heap h')(ab:Bp X.prog X.w H' h'):AI X ge σ H' { s with heap:=h',toks:=t'}:=by
 obtain⟨m,⟨o,es,ep,O,r⟩,_⟩:=id I.D4;obtain⟨sl,hL⟩:=u.any O I.free #v[];exact I.step (g':=s.gens) (d':=s.drawn) (ch:=[]) (λ_ z=>nomatch z) (λb o _ F _ e n=>u.keep b o e n F #v[]) (λb o _ F _ e n=>u.slot b o e n F #v[]) (λb o _ e n=>u.free b o e n #v[]) (λb o _ e=>u.Hf b o e #v[]) u.JA u.Hz u.Hs (λm' hm=>by
  obtain⟨o',aa,ac,J,r'⟩:=hm;rw[O]at J;cases J;exact⟨_,aa,ac,hL,r'⟩) ab I.C5
theorem AI.call (I:AI X ge σ H s)(u:Un (F3 X.DE) ch H H' s.heap h')(ac:Bp X.prog X.w H' h')(hg:xx g')
  (aa:∀b∈ch,(b∈X.ex\/X.s₀.heap.objs.size<=b)/\b≠X.env.locals/\(∀x c,X.env.cells.lookup x=some c->c≠b)/\∀p∈X.pn++ge,p.1≠b) :
  AI X ge σ H' { s with heap:=h',gens:=g',drawn:=d',toks:=t'}:=by
 obtain⟨m,⟨o,es,ep,ho,r⟩,_⟩:=id I.D4;obtain⟨sl,J⟩:=u.any ho I.free λz=>(aa _ z).2.1 rfl
 exact I.step (ch:=ch) aa (λb o J hb F e n=>u.keep b o e n (λz=>(oG.mp (I.M9 b z)).elim J hb) F) (λb o _ _ F e n=>u.any e n F) (λb o F e n=>u.free b o e n F) (λb o F e=>u.Hf b o e F) u.JA u.Hz u.Hs (λm' hm=>by
  obtain⟨o',ab,ad,O,r'⟩:=hm;rw[ho]at O;cases O;exact⟨_,ab,ad,J,r'⟩) ac hg
theorem AI.FD (I:AI X ge σ H s)(k:∀b o,b≠it->s.heap.get? b=some o->h'.get? b=some o)(hn:H it=none)(O:it≠X.env.locals)
  (h1:it∈X.ex\/X.s₀.heap.objs.size<=it)(h2:∀x c,X.env.cells.lookup x=some c->c≠it)(h3:∀p∈X.pn++ge,p.1≠it):AI X ge σ H { s with heap:=h',toks:=t'}:=by
 have J:∀b u,H b=some u->b≠it:=λb u e z=>by rw[z,hn]at e;cases e
 refine I.step (g':=s.gens) (d':=s.drawn) (ch:=[it]) (λb hb=>?_) (λb o _ _ F e _=>k b o (λz=>F (by simp[z])) e) (λb o _ _ F e _=>⟨o.slots,k b o (λz=>F (by simp[z])) e⟩) (λ_ _ _ _ n=>n)
  (λb o F e=>⟨o,k b o (λz=>F (by simp[z])) e⟩) (λ_ _ e=>e) (λ_ _ _ e=>e) (λb ps e=>⟨#[],by rw[e];simp⟩) (λm hm=>?_) (λb u e=>?_) I.C5
 ·have e:b=it:=by simpa using hb
  subst e;exact⟨h1,O,h2,h3⟩
 ·obtain⟨o,es,ep,ho,r⟩:=hm;exact⟨o,es,ep,k _ o (qp O) ho,r⟩
 ·refine(I.AY b u e).Fp (λc v F q=>k c v ?_ q) (λ_ q=>q) λ_ _ q=>q
  rcases F with z|z
  ·rw[z];exact J b u e
  ·exact J c _ z
theorem AI.Cn(I:AI X ge σ H s)(t:Nat):AI X ge σ H { s with toks:=t}:=I.un (h':=s.heap) (t':=t) Un.refl I.AY
theorem AI.Bf(I:AI X ge σ H s)(k:∀b u,s.heap.get? b=some u->h'.get? b=some u):AI X ge σ H { s with heap:=h',toks:=t'}:=I.un (Un.Bf k) (I.AY.Bf k)
theorem AI.laid(I:AI X ge σ H s)(k:∀b u,s.heap.get? b=some u->h'.get? b=some u)(F:s.heap.objs.size<=a)(J:BP X.prog X.w (AG H a o) h' a o):
  AI X ge σ (AG H a o) { s with heap:=h',toks:=t'}:=I.un (Un.laid k F (I.AY.fresh F)) (I.AY.laid k F J)
theorem AI.Fi (I:AI X ge σ H s)(F:Lu (H x))(O:e=x\/H e=some (.EZ x))(k:∀b u,b≠e->s.heap.get? b=some u->h'.get? b=some u)(J:∃u,h'.get? e=some u)
  (aa:BP X.prog X.w (AG H x o) h' x o):AI X ge σ (AG H x o) { s with heap:=h',toks:=t'}:=I.un (Un.Fi F O k J) (I.AY.Fi F O k J aa)
theorem AI.Me(I:AI X ge σ H s)(h:∀p∈pins',s.heap.get? p.1=some p.2/\H p.1=none/\p.1≠X.env.locals/\p.1∉X.fs/\∀v,p.2.data≠.cell v):AI X pins' σ H s :=
 ⟨I.ok,I.os,I.C5,I.base,I.D4,I.cell,I.free,I.FH,λp F=>(oM.mp F).elim (λz=>I.pin p (uK _ z)) (h p),I.AY,I.len⟩
theorem Rx{N:List Str}(F:N.Nodup){i j:Nat}(a:N[i]?=some x)(b:N[j]?=some x):i=j:=by
 obtain⟨h1,O⟩:=oh.mp a;obtain⟨h2,J⟩:=oh.mp b;exact(List.getElem_inj F).mp (O.trans J.symm)
theorem RL (I:AI X ge σ H s)(hN:X.N.Nodup)(hi:X.N[i]?=some x)(O:IH X.env.scope x)(r:Ao v u)
  (h:∀s',AI X ge (σ.set i (some v)) H s'->(∃a,qr a s.heap s'.heap/\(a=X.env.locals\/X.env.cells.lookup x=some a))->Q Unit.unit s')(hf:X.fn x=true\/X.env.scope.names.lookup x=some .local:=by first|exact .inl rfl|exact .inr rfl|assumption):wpAny M A (storeName X.env x u) Q E s:=by
 obtain⟨m,hn,hl⟩:=id I.D4;have al:(X.env.scope.kind == .class || (X.env.scope.kind == .module && X.env.locals != X.env.globals))=false:=by rw[I.ok.kind];rfl
 have ag:i<σ.length:=by rw[I.len];exact(oh.mp hi).1
 have ab:=I.Qb;have ad:∀{a:Addr} {h':Heap},(∃o,s.heap.get? a=some o/\H a=none)->qr a s.heap h'->Bp X.prog X.w H h':=λ{a h'} ha F b ob e=>by
  obtain⟨_,_,ae⟩:=ha;refine(I.AY b ob e).Fp (λc w' hc q=>(F.2 c ?_).trans q) (λ_ q=>q) λ_ _ q=>q
  rintro rfl;rcases hc with rfl|hc
  ·rw[ae]at e;cases e
  ·rw[ae]at hc;cases hc
 rcases O with hk|hk
 ·refine aaR hk hn (λh' ai F=>?_) al;obtain⟨oL,_,_,ak,_⟩:=id hn;refine h _ ⟨I.ok,I.os,I.C5,⟨λb o e n hb O=>?_,λb o e n hb O=>?_,I.base.free,λb o e O=>?_,I.base.JA,I.base.Hz,I.base.Hs⟩,⟨_,ai,λj y v' J e2 e3=>?_⟩,λy c e=>?_,I.free,I.FH,λp hp=>?_,ad ⟨oL,ak,I.free⟩ F,by simpa using I.len⟩ ⟨_,F,.inl rfl⟩
  ·exact(F.2 b (o6 (pX (oK e) I.ok.above))).trans (I.base.keep b o e n hb O)
  ·obtain⟨sl,J⟩:=I.base.slot b o e n hb O;exact⟨sl,(F.2 b (o6 (pX (oK e) I.ok.above))).trans J⟩
  ·obtain⟨o',J⟩:=I.base.Hf b o e O;exact⟨o',(F.2 b (o6 (pX (oK e) I.ok.above))).trans J⟩
  ·by_cases hj:j=i
   ·subst hj;rw[hi]at J;cases J;rw[sJ ag]at e2;cases e2;exact⟨u,r,.inl ⟨hk,#v[]⟩⟩
   ·rw[tG (qp hj)]at e2;obtain⟨u',r',q⟩:=hl j y v' J e2 e3;exists u',r';rcases q with ⟨k,e⟩|⟨k,c,e,z⟩
    ·refine .inl ⟨k,?_⟩
     have:y≠x:=λe=>hj (Rx hN J (e ▸ hi))
     simp[this,e]
    ·exact .inr ⟨k,c,e,z.sameBut F (ab y c e)⟩
  ·obtain⟨w',z⟩:=I.cell y c e;exact⟨w',z.sameBut F (ab y c e)⟩
  ·obtain⟨e,n,ne,nf,d⟩:=I.pin p hp;exact⟨(F.2 p.1 ne).trans e,n,ne,nf,d⟩
 ·have aa:X.fn x=true:=by
   rcases hf with z|z
   ·exact z
   ·rw[z]at hk;cases hk
  obtain⟨c,hc⟩:=I.ok.has x (.inl hk);obtain⟨w',z⟩:=I.cell x c hc;refine wpAny_storeName_cell I.ok.kind hk hc z (λh' ac F=>?_);obtain⟨oc,ah,aj⟩:=id z;refine h { s with heap:=h'} ⟨I.ok,I.os,I.C5,⟨λb o e n hb O=>?_,λb o e n hb O=>?_,I.base.free,λb o e O=>?_,I.base.JA,I.base.Hz,I.base.Hs⟩,⟨m,hn.sameBut F (qp (ab x c hc)),λj y v' J e2 e3=>?_⟩,λy c' e=>?_,I.free,I.FH,λp hp=>?_,ad ⟨oc,ah,I.FH x c hc⟩ F,by simpa using I.len⟩ ⟨c,F,.inr hc⟩
  ·exact(F.2 b (o6 (pX (oK e) (I.ok.Lm x c aa hc)))).trans (I.base.keep b o e n hb O)
  ·obtain⟨sl,J⟩:=I.base.slot b o e n hb O;exact⟨sl,(F.2 b (o6 (pX (oK e) (I.ok.Lm x c aa hc)))).trans J⟩
  ·obtain⟨o',J⟩:=I.base.Hf b o e O;exact⟨o',(F.2 b (o6 (pX (oK e) (I.ok.Lm x c aa hc)))).trans J⟩
  ·by_cases hj:j=i
   ·subst hj;rw[hi]at J;cases J;rw[sJ ag]at e2;cases e2;exact⟨u,r,.inr ⟨.inl hk,c,hc,ac⟩⟩
   ·rw[tG (qp hj)]at e2;obtain⟨u',r',q⟩:=hl j y v' J e2 e3;exists u',r';rcases q with q|⟨k,c',e,z'⟩
    ·exact .inl q
    ·refine .inr ⟨k,c',e,z'.sameBut F ?_⟩;rintro rfl;exact hj (Rx hN J (I.ok.inj _ _ _ e hc ▸ hi))
  ·by_cases af:c'=c
   ·subst af;exact⟨_,ac⟩
   ·obtain⟨w2,z2⟩:=I.cell y c' e;exact⟨w2,z2.sameBut F af⟩
  ·obtain⟨e,n,ne,nf,d⟩:=I.pin p hp;refine⟨(F.2 p.1 ?_).trans e,n,ne,nf,d⟩;intro q;rw[q,ah]at e;have q':oc=p.2:=oV e;exact d w' (by rw[<-q'];exact aj)
theorem MD (I:AI X ge σ H s)(F:X.N.Nodup)(hi:X.N[i]?=some x)(hx:IH X.env.scope x)(r:Ao v u)
  (h:∀s',AI X ge (σ.set i (some v)) H s'->Q Unit.unit s')(J:X.fn x=true\/X.env.scope.names.lookup x=some .local:=by first|exact .inl rfl|exact .inr rfl|assumption):wpAny M A (storeName X.env x u) Q E s :=
 RL I F hi hx r (λs' O _=>h s' O) J
theorem AI.j8 (I:AI X ge σ H s)(F:s'.os=s.os)(u:Un (F3 X.DE) ch H H' s.heap s'.heap)(J:Bp X.prog X.w H' s'.heap)(O:xx s'.gens)
  (aa:∀b∈ch,(b∈X.ex\/X.s₀.heap.objs.size<=b)/\b≠X.env.locals/\(∀x c,X.env.cells.lookup x=some c->c≠b)/\∀p∈X.pn++ge,p.1≠b):AI X ge σ H' s':=by
 obtain⟨h',g',d',t',o'⟩:=s';have e:o'=s.os:=F;subst e;exact I.call (g':=g') (t':=t') (d':=d') u J O aa
end
abbrev XK:=Value->Option Addr->Hp->Prop
abbrev St:=List (Option V)
abbrev VK:=V->Hp->Prop
abbrev TE:=St->Hp->VK->Prop
abbrev TT:=St->Hp->(Bool->Hp->Prop)->Prop
abbrev TA:=St->Hp->(List V->Hp->Prop)->Prop
structure Dx where
 nx:St->Hp->Prop
 rt:VK
 bk:St->Hp->Prop:=λ_ _=>False
 ct:St->Hp->Prop:=λ_ _=>False
abbrev TS:=Dx->St->Hp->Prop
def EP(X:Cx)(ge:List (Addr×Obj))(σ:St)(Q:VK)(u:Value)(s':oq):Prop:=∃v H',AI X ge σ H' s'/\Ao v u/\Q v H'
def TP(X:Cx)(ge:List (Addr×Obj))(σ:St)(Q:Bool->Hp->Prop)(b:Bool)(s':oq):Prop:=∃H',AI X ge σ H' s'/\Q b H'
def AP(X:Cx)(ge:List (Addr×Obj))(σ:St)(Q:List V->Hp->Prop)(F:List Value)(s':oq):Prop:=∃vs H',AI X ge σ H' s'/\Af vs F/\Q vs H'
def SP(X:Cx)(ge:List (Addr×Obj))(D:Dx)(f:Flow)(s':oq):Prop :=
 match f with
 |.next=>∃F H',AI X ge F H' s'/\D.nx F H'
 |.brk=>∃F H',AI X ge F H' s'/\D.bk F H'
 |.cont=>∃F H',AI X ge F H' s'/\D.ct F H'
 |.ret u=>∃v F H',AI X ge F H' s'/\Ao v u/\D.rt v H'
def PE(X:Cx)(e:Expr)(t:TE):Prop :=
 ∀(ge:List (Addr×Obj)) (s:oq) (σ:St) (H:Hp) (Q:VK),AI X ge σ H s->t σ H Q->wpAny (model X.prog X.w) X.A (eval e X.env) (EP X ge σ Q) X.xe s
def PT(X:Cx)(e:Expr)(t:TT):Prop :=
 ∀(ge:List (Addr×Obj)) (s:oq) (σ:St) (H:Hp) (Q:Bool->Hp->Prop),AI X ge σ H s->t σ H Q->wpAny (model X.prog X.w) X.A (isTrue e X.env (eval e X.env)) (TP X ge σ Q) X.xe s
def PW(X:Cx)(e:Expr)(t:TT):Prop :=
 ∀(F:Sem Value) (ge:List (Addr×Obj)) (s:oq) (σ:St) (H:Hp) (Q:Bool->Hp->Prop),AI X ge σ H s->t σ H Q->wpAny (model X.prog X.w) X.A (isTrue e X.env F) (TP X ge σ Q) X.xe s
theorem PW.pt(h:PW X e t):PT X e t:=h _
def PA(X:Cx)(es:List Expr)(t:TA):Prop :=
 ∀(pos:Pos) (ge:List (Addr×Obj)) (s:oq) (σ:St) (H:Hp) (Q:List V->Hp->Prop),AI X ge σ H s->t σ H Q->wpAny (model X.prog X.w) X.A (spliced (uD pos (pK es X.env))) (AP X ge σ Q) X.xe s
def PS(X:Cx)(st:Stmt)(t:TS):Prop :=
 ∀(ge:List (Addr×Obj)) (s:oq) (σ:St) (H:Hp) (D:Dx),AI X ge σ H s->t D σ H->wpAny (model X.prog X.w) X.A (exec st X.env) (SP X ge D) X.xe s
def Cd(X:Cx)(st:List Stmt)(t:TS):Prop :=
 ∀(ge:List (Addr×Obj)) (s:oq) (σ:St) (H:Hp) (D:Dx),AI X ge σ H s->t D σ H->wpAny (model X.prog X.w) X.A (execs st X.env) (SP X ge D) X.xe s
theorem AZ(h:wpAny M A t Q E s)(F:∀a s,Q a s->Q' a s):wpAny M A t Q' E s:=qR h F λ_ _ x=>x
section
variable {X:Cx}
inductive Wk(i:Nat)(σ:St)(H:Hp)(Q:VK):Prop
 |mk (v:V) (e:σ[i]?=some (some v)) (q:Q v H):Wk i σ H Q
def Ag(i:Nat):TE:=λσ H Q=>Wk i σ H Q
inductive Qh(x:V)(H:Hp)(Q:Bool->Hp->Prop):Prop
 |mk (c:Bool) (e:x=.bl c) (q:Q c H):Qh x H Q
def tC(v:V):TE:=λ_ H Q=>Q v H
theorem iL{i:Nat}{x:Str}{pos:Pos}(hN:X.N[i]?=some x)(hv:Qg X.env.scope x)(hd:(x == ("__debug__":Str))=false:=by decide)(aa:(x == ("__classdict__":Str))=false:=by decide):PE X (.Name x pos) (Ag i):=by
 intro ge s σ H Q I h;obtain⟨v,e,h⟩:=h;obtain⟨m,hn,hl⟩:=I.D4;obtain⟨u,r,l⟩:=hl i x v hN e hv;have F:EP X ge σ Q u s:=⟨v,H,I,r,h⟩;rcases l with ⟨hk,hm⟩|⟨hk,c,J,O⟩
 ·exact ac1 (wpAny_loadName_local I.ok.kind hk hn hm F) hd
 ·rcases hk with hk|hk
  ·exact ac1 (wpAny_loadName_cell I.ok.kind hk J O F) hd
  ·exact ac1 (wpAny_loadName_free I.ok.kind hk J O F aa) hd
theorem AB{i j pos}:PE X (.Constant (.int i) j pos) (tC (.int i)):=λ_ _ _ H _ I h=>wpAny_Constant_int ⟨.int i,H,I.Cn _,⟨_,G⟩,h⟩
theorem NM{b j pos}:PE X (.Constant (.bool b) j pos) (tC (.bl b)):=λ_ _ _ H _ I h=>Constant_bool ⟨.bl b,H,I,G,h⟩
theorem Ie{j pos}:PE X (.Constant .none j pos) (tC .Ay):=λ_ _ _ H _ I h=>Constant_none ⟨.Ay,H,I,G,h⟩
theorem PQ{x j pos}:PE X (.Constant (.str x) j pos) (tC (.str x)):=λ_ _ _ H _ I h=>Calls.Constant_str ⟨.str x,H,I.Cn _,⟨_,G⟩,h⟩
def Gl(X:Cx)(x:Str):Prop:=X.env.kindOf x=some .globalImplicit
theorem dC {E:Value->oq->Prop}{ge:List (Addr×Obj)}{s:oq}{σ:St}{H:Hp}{x:Str}{u:Value}{pos:Pos}{Q:Value->oq->Prop}(I:AI X ge σ H s)(J:Gl X x)(F:X.mg x=some u)(h:Q u s)
  (hd:(x == ("__debug__":Str))=false:=by decide):wpAny (model X.prog X.w) X.A (eval (.Name x pos) X.env) Q E s :=
 yG I.ok.kind J (Calls.loadGlobal_global (by rw[I.ok.ET];exact I.Cv.ET.keeps I.bk) F h) hd
theorem FC {E:Value->oq->Prop}{ge:List (Addr×Obj)}{s:oq}{σ:St}{H:Hp}{x:Str}{u:Value}{pos:Pos}{Q:Value->oq->Prop}(I:AI X ge σ H s)(O:Gl X x)(F:X.mg x=none)(J:qY x=some u)(h:Q u s)
  (hn:x≠"__name__":=by decide)(hd:(x == ("__debug__":Str))=false:=by decide):wpAny (model X.prog X.w) X.A (eval (.Name x pos) X.env) Q E s:=by
 obtain⟨mb,h1,h2⟩:=I.Cv.KR;exact yG I.ok.kind O (Calls.loadGlobal_builtin (by rw[I.ok.ET];exact I.Cv.ET.keeps I.bk) F (by rw[I.ok.KR];exact h1.keeps I.bk) ((h2 x hn).trans J) h) hd
theorem Jl{x:Str}{v:V}{u:Value}{pos:Pos}(hg:Gl X x)(F:X.mg x=none)(O:qY x=some u)(r:Ao v u)(J:x≠"__name__":=by decide)(hd:(x == ("__debug__":Str))=false:=by decide):PE X (.Name x pos) (tC v) :=
 λ_ _ _ H _ I h=>FC I hg F O ⟨v,H,I,r,h⟩ J hd
variable {a b:Expr}{ta tb:TE}{pos:Pos}
def PC(X:Cx)(op:CmpOp)(a b:Expr)(t:TE):Prop :=
 ∀(ge:List (Addr×Obj)) (s:oq) (σ:St) (H:Hp) (Q:VK),AI X ge σ H s->t σ H Q →
  wpAny (model X.prog X.w) X.A (eval a X.env) (λv F=>wpAny (model X.prog X.w) X.A (eval b X.env) (λu J=>wpAny (model X.prog X.w) X.A (r6 op v u) (EP X ge σ Q) X.xe J) X.xe F) X.xe s
theorem nobehind(b:Expr)(h:op≠.In)(h2:op≠.NotIn):vB op b=false:=by
 have J:(op == CmpOp.In)=false:=by cases op<;>first|rfl|exact absurd rfl h
 have F:(op == CmpOp.NotIn)=false:=by cases op<;>first|rfl|exact absurd rfl h2
 cases b<;>simp[vB,J,F]
def lD(ta:TE):TE:=λσ H Q=>ta σ H λx H1=>Q (.bl (!decide (x=.Ay))) H1
theorem Ao.cG(r:Ao x v):(v == qQ)=decide (x=.Ay):=by
 cases x with
 |Ay=>cases r;rfl
 |bl _=>cases r;rfl
 |int _=>obtain⟨t,rfl⟩:=r;rfl
 |str _=>obtain⟨t,rfl⟩:=r;rfl
 |Eb _=>obtain⟨t,rfl⟩:=r;rfl
 |JJ _=>obtain⟨t,rfl⟩:=r;rfl
 |ref _=>cases r;rfl
 |ty _=>cases r;rfl
theorem Tz{j pos'}(J:PE X a ta):PC X .IsNot a (.Constant .none j pos') (lD ta):=by
 intro ge s σ H Q I h;refine AZ (J ge s σ H _ I h) λv s1 ⟨x,H1,I1,O,F⟩=>?_
 exact Constant_none (isnot_none_gen ⟨.bl _,H1,I1,by rw[O.cG];rfl,F⟩)
def tB(t:TE):TT:=λσ H Q=>t σ H λx H1=>Qh x H1 Q
theorem HY{op:CmpOp}{t:TE}(h:PC X op a b t)(h1:vB op b=false:=by first|exact nobehind _ ∅ ∅|rfl):PT X (.Compare a [op] [b] pos) (tB t):=by
 intro ge s σ H Q I F;refine aaN (AZ (h ge s σ H _ I F) λv s1 h1=>AZ h1 λu s2 h2=>AZ h2 λc s3 ⟨x,H1,O,J,q1⟩=>?_) h1;obtain⟨d,rfl,q⟩:=q1;cases J;exact t8 ⟨H1,O,q⟩
theorem Ei{e:Expr}{t:TE}(h:PE X e t)(he:∀F,isTrue e X.env F=(do let v <-F;standAt e.pos;holding [v] (truthy v)):=by intro _;rfl):PT X e (tB t):=by
 intro ge s σ H Q I J;refine isTrue_plain (AZ (h ge s σ H _ I J) λv s1 ⟨x,H1,I1,O,q1⟩=>?_) (he _);obtain⟨d,rfl,q⟩:=q1;cases O;exact t8 ⟨H1,I1,q⟩
variable {tA tB':TT}{rest:List Expr}
def lU(t u:TT):TT:=λσ H Q=>t σ H λc H1=>if c=true then u σ H1 Q else Q false H1
def nv(t u:TT):TT:=λσ H Q=>t σ H λc H1=>if c=true then Q true H1 else u σ H1 Q
def Wf(t:TT):TT:=λσ H Q=>t σ H λc H1=>Q (!c) H1
theorem HU(F:PT X a tA):PW X (.BoolOp .And [a] pos) tA:=by
 intro J ge s σ H Q I h;refine isTrue_and (AZ (F ge s σ H Q I h) λc O e=>?_);cases c with
 |true=>exact isTrue_and_nil e
 |false=>exact e
theorem Jo(F:PT X a tA):PW X (.BoolOp .Or [a] pos) tA:=by
 intro J ge s σ H Q I h;refine isTrue_or (AZ (F ge s σ H Q I h) λc O e=>?_);cases c with
 |false=>exact isTrue_or_nil e
 |true=>exact e
theorem Ek(ha:PT X a tA)(O:PW X (.BoolOp .And (b :: rest) pos) tB'):PW X (.BoolOp .And (a :: b :: rest) pos) (lU tA tB'):=by
 intro wh ge s σ H Q I h;refine isTrue_and (AZ (ha ge s σ H _ I h) λc s1 ⟨H1,J,F⟩=>?_);cases c with
 |true=>exact O wh ge s1 σ H1 Q J F
 |false=>exact⟨H1,J,F⟩
theorem GH(ha:PT X a tA)(O:PW X (.BoolOp .Or (b :: rest) pos) tB'):PW X (.BoolOp .Or (a :: b :: rest) pos) (nv tA tB'):=by
 intro wh ge s σ H Q I h;refine isTrue_or (AZ (ha ge s σ H _ I h) λc s1 ⟨H1,J,F⟩=>?_);cases c with
 |true=>exact⟨H1,J,F⟩
 |false=>exact O wh ge s1 σ H1 Q J F
theorem Gi(F:PT X a tA):PT X (.UnaryOp .Not a pos) (Wf tA):=by
 intro ge s σ H Q I h;exact isTrue_not (F ge s σ H (λc H1=>Q (!c) H1) I h)
def kU(ta tb:TE):TE:=λσ H Q=>ta σ H λx H1=>∃c,x=.bl c/\if c=true then tb σ H1 Q else Q (.bl false) H1
def mN(ta tb:TE):TE:=λσ H Q=>ta σ H λx H1=>∃c,x=.bl c/\if c=true then Q (.bl true) H1 else tb σ H1 Q
def kj(ta:TE):TE:=λσ H Q=>ta σ H λx H1=>∃c,x=.bl c/\Q (.bl (!c)) H1
theorem LA{op}(h:PE X a t):PE X (.BoolOp op [a] pos) t:=λge s σ H Q I F=>BoolOp_one (h ge s σ H Q I F)
theorem NG(O:PE X a ta)(hb:PE X (.BoolOp .And (b :: rest) pos) tb):PE X (.BoolOp .And (a :: b :: rest) pos) (kU ta tb):=by
 intro ge s σ H Q I h;refine BoolOp_and (AZ (O ge s σ H _ I h) λv s1 ⟨x,H1,J,r1,F⟩=>?_);obtain⟨c,rfl,F⟩:=F;cases r1;refine t8 ?_;cases c with
 |true=>exact hb ge s1 σ H1 Q J F
 |false=>exact⟨.bl false,H1,J,G,F⟩
theorem Pr(O:PE X a ta)(hb:PE X (.BoolOp .Or (b :: rest) pos) tb):PE X (.BoolOp .Or (a :: b :: rest) pos) (mN ta tb):=by
 intro ge s σ H Q I h;refine BoolOp_or (AZ (O ge s σ H _ I h) λv s1 ⟨x,H1,J,r1,F⟩=>?_);obtain⟨c,rfl,F⟩:=F;cases r1;refine t8 ?_;cases c with
 |false=>exact hb ge s1 σ H1 Q J F
 |true=>exact⟨.bl true,H1,J,G,F⟩
theorem i8(J:PE X a ta):PE X (.UnaryOp .Not a pos) (kj ta):=by
 intro ge s σ H Q I h;refine UnaryOp_ (AZ (J ge s σ H _ I h) λv s1 ⟨x,H1,I1,O,F⟩=>?_);obtain⟨c,rfl,F⟩:=F;cases O;exact not_of (t8 ⟨.bl (!c),H1,I1,G,F⟩)
def nX(t:TT)(ta tb:TE):TE:=λσ H Q=>t σ H λc H1=>if c=true then ta σ H1 Q else tb σ H1 Q
theorem SY(hc:PT X c tA)(ha:PE X a ta)(hb:PE X b tb):PE X (.IfExp c a b pos) (nX tA ta tb):=by
 intro ge s σ H Q I h;refine wpAny_IfExp (AZ (hc ge s σ H _ I h) λd J ⟨H1,O,F⟩=>?_);cases d with
 |true=>exact ha ge J σ H1 Q O F
 |false=>exact hb ge J σ H1 Q O F
end
def AJ(K:ow)(H:Hp)(a:Addr)(xs:List V):Prop :=
 Rd H a (.AE xs) \/
  ∃(o:Obj) (its:Array Value) (n:Nat),K.lookup a=some o/\o.cls=.type "list"/\o.dict=none/\o.data=.seq its n/\its.size<=oR/\Af xs its.toList
def AH(K:ow)(H:Hp)(a:Addr)(xs:List V):Prop :=
 Rd H a (.AF xs) \/
  ∃(o:Obj) (its:Array Value) (n:Nat),K.lookup a=some o/\o.cls=.type "tuple"/\o.data=.seq its n/\its.size<=oR/\Af xs its.toList
def lW:Value->Option V
 |.none=>some .Ay
 |.bool b=>some (.bl b)
 |.int i _=>some (.int i)
 |.str x _=>some (.str x)
 |.bytes b _=>some (.Eb b)
 |.float b _=>some (.JJ b)
 |.ref a=>some (.ref a)
 |.type n=>some (.ty n)
 |_=>none
theorem Ao.XS(r:Ao x u):lW u=some x:=by
 cases x with
 |Ay=>cases r;rfl
 |bl _=>cases r;rfl
 |int _=>obtain⟨t,rfl⟩:=r;rfl
 |str _=>obtain⟨t,rfl⟩:=r;rfl
 |Eb _=>obtain⟨t,rfl⟩:=r;rfl
 |JJ _=>obtain⟨t,rfl⟩:=r;rfl
 |ref _=>cases r;rfl
 |ty _=>cases r;rfl
theorem Ao.inj(r:Ao x u)(q:Ao y u):x=y:=oV (r.XS.symm.trans q.XS)
theorem Af.inj:∀{xs ys:List V} {F:List Value},Af xs F->Af ys F->xs=ys
 |_,_,_,.nil,.nil=>rfl
 |_,_,_,.cons r t,.cons r' t'=>by rw[r.inj r',Af.inj t t']
section
variable {X:Cx}{ge:List (Addr×Obj)}{σ:St}{H:Hp}{s:oq}{a:Addr}{xs ys:List V}
theorem AJ.of{K:ow}(h:H a=some (.AE xs)):AJ K H a xs:=.inl (.inl h)
theorem AH.of{K:ow}(h:H a=some (.AF xs)):AH K H a xs:=.inl (.inl h)
theorem AI.list(I:AI X ge σ H s)(h:AJ X.K H a xs):∃its:List Value,Af xs its/\PlainL s.heap a its.toArray/\xs.length<=oR:=by
 rcases h with h|⟨o,its,n,J,F,hd,O,hz,r⟩
 ·obtain⟨z,its,n,r,e⟩:=h.ok I.AY;exact⟨its,r,⟨_,n,e,G,G,G⟩,z⟩
 ·refine⟨its.toList,r,⟨o,n,I.Dl a o J,F,hd,by simpa using O⟩,?_⟩;have e:=r.length;simp only[qm]at e
  lia
theorem AI.tuple(I:AI X ge σ H s)(h:AH X.K H a xs):∃its:List Value,Af xs its/\IsTup s.heap a its.toArray/\xs.length<=oR:=by
 rcases h with h|⟨o,its,n,J,F,O,hz,r⟩
 ·obtain⟨z,its,r,p,_⟩:=h.ok I.AY;exact⟨its,r,p,z⟩
 ·refine⟨its.toList,r,⟨o,I.Dl a o J,F,n,by simpa using O⟩,?_⟩;have e:=r.length;simp only[qm]at e;omega
theorem AI.list_inj(I:AI X ge σ H s)(h:AJ X.K H a xs)(h':AJ X.K H a ys):xs=ys:=by
 obtain⟨its,r,⟨o,n,e,_,_,d⟩,_⟩:=I.list h;obtain⟨its',J,⟨o',O,F,_,_,d'⟩,_⟩:=I.list h';rw[e]at F;cases F;rw[d]at d';injection d' with d1 _
 have:its=its':=by simpa using congrArg Array.toList d1
 subst this;exact r.inj J
theorem AI.Rk(I:AI X ge σ H s)(h:AH X.K H a xs)(h':AH X.K H a ys):xs=ys:=by
 obtain⟨its,r,⟨o,e,_,n,d⟩,_⟩:=I.tuple h;obtain⟨its',J,⟨o',F,_,O,d'⟩,_⟩:=I.tuple h';rw[e]at F;cases F;rw[d]at d';injection d' with d1 _
 have:its=its':=by simpa using congrArg Array.toList d1
 subst this;exact r.inj J
end
abbrev Cx.GK(X:Cx)(E:Value->oq->Prop):Cx:={ X with xe:=E}
abbrev Cx.JG(X:Cx):Cx:=X.GK λ_ _=>False
theorem Cx.Ok.GK{X:Cx}(F:X.Ok)(E:Value->oq->Prop):(X.GK E).Ok :=
 ⟨F.Cv,F.kind,F.ET,F.KR,F.above,F.inj,F.has,F.Lm,F.hd,F.frames,F.Ny,F.XO,F.bs,F.GW,F.LU,F.Lb,F.Ew,F.IJ⟩
theorem Cx.Ok.HW{X:Cx}(F:(X.GK E).Ok):X.Ok :=
 ⟨F.Cv,F.kind,F.ET,F.KR,F.above,F.inj,F.has,F.Lm,F.hd,F.frames,F.Ny,F.XO,F.bs,F.GW,F.LU,F.Lb,F.Ew,F.IJ⟩
section
variable {X:Cx}{ge:List (Addr×Obj)}{σ:St}{H:Hp}{s:oq}{E:Value->oq->Prop}
theorem AI.GK(I:AI X ge σ H s)(E:Value->oq->Prop):AI (X.GK E) ge σ H s:=⟨I.ok.GK E,I.os,I.C5,I.base,I.D4,I.cell,I.free,I.FH,I.pin,I.AY,I.len⟩
theorem AI.HW(I:AI (X.GK E) ge σ H s):AI X ge σ H s:=⟨I.ok.HW,I.os,I.C5,I.base,I.D4,I.cell,I.free,I.FH,I.pin,I.AY,I.len⟩
theorem SP.HW(h:SP (X.GK E) ge D f s'):SP X ge D f s':=by
 cases f with
 |next=>obtain⟨F,H',I,q⟩:=h;exact⟨F,H',I.HW,q⟩
 |brk=>obtain⟨F,H',I,q⟩:=h;exact⟨F,H',I.HW,q⟩
 |cont=>obtain⟨F,H',I,q⟩:=h;exact⟨F,H',I.HW,q⟩
 |ret u=>obtain⟨v,F,H',I,r,q⟩:=h;exact⟨v,F,H',I.HW,r,q⟩
theorem Cd.JG{st:List Stmt}(h:Cd X.JG st t):Cd X st t:=λge s σ H D I F =>
 qR (h ge s σ H D (I.GK _) F) (λ_ _ q=>q.HW) λ_ _ z=>qP z
end
section
variable {X:Cx}{st:Stmt}{rest:List Stmt}{t u:TS}{e:Expr}{te:TE}{pos:Pos}
def kZ:TS:=λD σ H=>D.nx σ H
def KA(t u:TS):TS:=λD σ H=>t { D with nx:=u D} σ H
theorem Bg:Cd X [] kZ:=λ_ _ σ H _ I h=>xU ⟨σ,H,I,h⟩
theorem AM(h1:PS X st t)(h2:Cd X rest u):Cd X (st :: rest) (KA t u):=by
 intro ge s σ H D I h;refine wpAny_execs_cons (AZ (h1 ge s σ H { D with nx:=u D} I h) λf F q=>?_);cases f with
 |next =>
  obtain⟨J,H',O,q⟩:=q;exact h2 ge F J H' D O q
 |ret v=>exact q
 |brk=>exact q
 |cont=>exact q
theorem AR(h1:PS X st t):Cd X [st] t:=by
 intro ge s σ H D I h;refine wpAny_execs_cons (AZ (h1 ge s σ H D I h) λf F q=>?_);cases f with
 |next=>exact xU q
 |ret v=>exact q
 |brk=>exact q
 |cont=>exact q
theorem AI.quiet(I:AI X ge σ H s):interactive X.env=false:=by simp[interactive,I.ok.kind]
def ke(te:TE):TS:=λD σ H=>te σ H λ_ H1=>D.nx σ H1
theorem Dr(J:PE X e te)(O:yC e none pos.line X.env=pure false:=by rfl):PS X (.Expr e pos) (ke te):=by
 intro ge s σ H D I h;exact wpAny_Expr_any (AZ (J ge s σ H _ I h) λv s1 ⟨x,H1,I1,r1,F⟩=>⟨σ,H1,I1,F⟩) I.quiet O
def QI(te:TE):TS:=λD σ H=>te σ H D.rt
theorem Al(J:PE X e te):PS X (.Return (some e) pos) (QI te):=by
 intro ge s σ H D I h;exact wpAny_Return_some (AZ (J ge s σ H _ I h) λv s1 ⟨x,H1,I1,O,F⟩=>⟨x,σ,H1,I1,O,F⟩)
def Nk(c:TT)(t u:TS):TS:=λD σ H=>c σ H λb H1=>if b=true then t D σ H1 else u D σ H1
theorem BU(hc:PT X c tc)(ha:Cd X a t)(hb:Cd X b u):PS X (.If c a b pos) (Nk tc t u):=by
 intro ge s σ H D I h;refine wpAny_If (AZ (hc ge s σ H _ I h) λd J ⟨H1,O,F⟩=>?_);cases d with
 |true=>exact ha ge J σ H1 D O F
 |false=>exact hb ge J σ H1 D O F
def iV:TS:=λ_ _ _=>False
theorem Ee:Cd X sts iV:=λ_ _ _ _ _ _ h=>h.elim
end
abbrev TG:=V->St->Hp->(St->Hp->Prop)->Prop
abbrev E5:=List V->St->Hp->(St->Hp->Prop)->Prop
def PG(X:Cx)(J:Expr)(t:TG):Prop :=
 ∀(ge:List (Addr×Obj)) (s:oq) (σ:St) (H:Hp) (v:V) (u:Value) (Q:St->Hp->Prop),AI X ge σ H s->Ao v u->t v σ H Q →
  wpAny (model X.prog X.w) X.A (zB J X.env u) (λ_ s'=>∃F H',AI X ge F H' s'/\Q F H') X.xe s
def JM(X:Cx)(ts:List Expr)(t:E5):Prop :=
 ∀(ge:List (Addr×Obj)) (s:oq) (σ:St) (H:Hp) (vs:List V) (J:List Value) (Q:St->Hp->Prop),AI X ge σ H s->Af vs J->t vs σ H Q →
  wpAny (model X.prog X.w) X.A (aa7 ((tS ts X.env).map (·.2)) J) (λ_ s'=>∃F H',AI X ge F H' s'/\Q F H') X.xe s
abbrev QC:=V->V->V->Hp->(Hp->Prop)->Prop
def Wi(X:Cx)(t:QC):Prop :=
 ∀(ge:List (Addr×Obj)) (s:oq) (σ:St) (H:Hp) (o i v:V) (F J u:Value) (Q:Hp->Prop),AI X ge σ H s->Ao o F->Ao i J->Ao v u->t o i v H Q →
  wpAny (model X.prog X.w) X.A (setItem F J u) (λ_ s'=>∃H',AI X ge σ H' s'/\Q H') X.xe s
section
variable {X:Cx}{pos:Pos}
def BH(i:Nat):TG:=λv σ H Q=>Q (σ.set i (some v)) H
theorem Bj(F:X.N.Nodup)(hi:X.N[i]?=some x)(hx:IH X.env.scope x)(J:X.fn x=true\/X.env.scope.names.lookup x=some .local:=by first|exact .inl rfl|exact .inr rfl|assumption):PG X (.Name x pos) (BH i):=by
 intro ge s σ H v u Q I r h;exact ab7 (MD I F hi hx r (λs' O=>⟨_,H,O,h⟩) J)
inductive Vu(vs:List V)(σ:St)(H:Hp)(Q:St->Hp->Prop):Prop
 |mk (e:vs=[]) (q:Q σ H):Vu vs σ H Q
def KG:E5:=λvs σ H Q=>Vu vs σ H Q
inductive Ua(t:TG)(u:E5)(vs:List V)(σ:St)(H:Hp)(Q:St->Hp->Prop):Prop
 |mk (v:V) (r:List V) (e:vs=v :: r) (q:t v σ H λF H'=>u r F H' Q):Ua t u vs σ H Q
def Fj(t:TG)(u:E5):E5:=λvs σ H Q=>Ua t u vs σ H Q
theorem CV:JM X [] KG:=by
 intro ge s σ H vs F Q I r h;obtain⟨e,h⟩:=h;subst e;cases r;exact ab5 ⟨σ,H,I,h⟩
theorem Av {e:Expr}{es:List Expr}{t:TG}{u:E5}(h1:PG X e t)(h2:JM X es u)
  (hs:(tS (e :: es) X.env).map (·.2)=zB e X.env :: (tS es X.env).map (·.2):=by rfl):JM X (e :: es) (Fj t u):=by
 intro ge s σ H vs us Q I r h;obtain⟨v,vr,e1,h⟩:=h;subst e1;cases r with
 |cons r rr =>
  rw[hs];refine yB (AZ (h1 ge s σ H _ _ _ I r h) λ_ J ⟨F,H1,O,q1⟩=>?_);exact h2 ge J F H1 _ _ Q O rr q1
inductive Vl(K:ow)(n:Nat)(t:E5)(v:V)(σ:St)(H:Hp)(Q:St->Hp->Prop):Prop
 |mk (a:Addr) (xs:List V) (e:v=.ref a) (s:AH K H a xs) (l:xs.length=n) (q:t xs σ H Q):Vl K n t v σ H Q
def Hm(K:ow)(n:Nat)(t:E5):TG:=λv σ H Q=>Vl K n t v σ H Q
theorem gy {es:List Expr}{k:Nat}{t:E5}{n:Nat}(hc:X.B9=true)(h:JM X es t)
  (hn:(tS es X.env).length=n:=by rfl)(aa:(tS es X.env).findIdx? (·.1)=none:=by rfl):PG X (.Tuple es k pos) (Hm X.K n t):=by
 intro ge s σ H v u Q I r F;obtain⟨a,xs,e1,hq,hl,F⟩:=F;subst e1;cases r;obtain⟨its,J,O,hz⟩:=I.tuple hq;refine assign_Tuple_tuple (I.ok.hd hc) O (by simp[hn,<-hl,J.length]) aa λh' hx=>?_
 have I1:AI X ge σ H { s with heap:=h'}:=I.Bf (t':=s.toks) λb o e=>hx b o (o6 (oK e)) e
 exact h ge _ σ H xs _ Q I1 (by simpa using J) F
def Wj(to ti:TE)(t:QC):TG:=λv σ H Q=>to σ H λo H1=>ti σ H1 λi H2=>t o i v H2 λF=>Q σ F
theorem Ik {o i:Expr}{to ti:TE}{t:QC}(ho:PE X o to)(hi:PE X i ti)(hs:Wi X t)
  (O:∀v,zB (.Subscript o i pos) X.env v=(do
   let F <-holding [v] (eval o X.env)
   let J <-holding [v,F] (eval i X.env)
   standAt pos
   holding [v,F,J] (setItem F J v)
   release [v,F,J] []):=by intro _;rfl):PG X (.Subscript o i pos) (Wj to ti t):=by
 intro ge s σ H v u Q I r h;rw[O];refine oa (qW (AZ (ho ge s σ H _ I h) λF s1 ⟨x,H1,I1,r1,q1⟩=>?_));refine oa (qW (AZ (hi ge s1 σ H1 _ I1 q1) λJ s2 ⟨y,H2,I2,r2,q2⟩=>?_));refine oa (xt (oa (qW (AZ (hs ge s2 σ H2 x y v F J u _ I2 r1 r2 r q2) λ_ s3 ⟨H3,I3,q3⟩=>?_))));exact wpAny_release ⟨σ,H3,I3,q3⟩
def JC(te:TE)(g:TG):TS:=λD σ H=>te σ H λx H1=>g x σ H1 D.nx
theorem D8 {tg e:Expr}{te:TE}{g:TG}(he:PE X e te)(hg:PG X tg g)(hs:swapsWithSole [tg] e pos.line X.env=pure false:=by rfl)(F:swappedStores [tg] e X.env=pure none:=by rfl)
  (h1:(tS [tg] X.env).map (·.2)=[zB tg X.env]:=by rfl):PS X (.Assign [tg] e pos) (JC te g):=by
 intro ge s σ H D I h;refine wpAny_Assign_stores (AZ (he ge s σ H _ I h) λv J ⟨x,H1,I1,O,q1⟩=>?_) hs F;rw[h1];exact AZ (hg ge J σ H1 x v _ I1 O q1) λ_ s2 q=>q
theorem jW{i:Nat}{x:Str}{e:Expr}{te:TE}{pos':Pos}(hN:X.N.Nodup)(hi:X.N[i]?=some x)(hx:IH X.env.scope x)(he:PE X e te)(hs:yC e (some (.Name x pos')) pos.line X.env=pure false:=by rfl)(F:X.fn x=true\/X.env.scope.names.lookup x=some .local:=by first|exact .inl rfl|exact .inr rfl|assumption):
  PS X (.Assign [.Name x pos'] e pos) (JC te (BH i)):=by
 intro ge s σ H D I h;refine wpAny_Assign_Name (AZ (he ge s σ H _ I h) λv s1 ⟨y,H1,O,J,q1⟩=>?_) hs;exact MD O hN hi hx J (λs2 I2=>⟨_,H1,I2,q1⟩) F
def mH(i j:Nat)(ta:TA):TS:=λD σ H=>ta σ H λvs H1=>∃v w,vs=[v,w]/\D.nx ((σ.set i (some v)).set j (some w)) H1
theorem iU {kt k2 pt2}(hc:X.B9=true)(hN:X.N.Nodup)(hi:X.N[i]?=some x)(hj:X.N[j]?=some y)(aa:i≠j)
  (hx:X.env.scope.names.lookup x=some .local)(hy:X.env.scope.names.lookup y=some .local)(ha:PA X [a,b] ta)
  (hw:swappedStores [.Tuple [.Name x px,.Name y py] kt pt] (.Tuple [a,b] k2 pt2) X.env=pure (some [x,y]))
  (hs:swapsWithSole [.Tuple [.Name x px,.Name y py] kt pt] (.Tuple [a,b] k2 pt2) pos.line X.env=pure false:=by rfl) :
  PS X (.Assign [.Tuple [.Name x px,.Name y py] kt pt] (.Tuple [a,b] k2 pt2) pos) (mH i j ta):=by
 intro ge s σ H D I h;rw[exec_Assign_arm];refine oa (xt ?_);rw[hs];refine oa (ou ?_);rw[oC ∅];refine oa (Tuple_ (AZ (ha _ ge s σ H _ I h) λus J ⟨vs,H1,I1,r1,q1⟩=>?_));obtain⟨v,w,e1,q1⟩:=q1;subst e1;obtain⟨F,O,rfl,rv,ab⟩:∃F O,us=[F,O]/\Ao v F/\Ao w O:=by
  cases r1 with
  |cons p q =>
   cases q with
   |cons p' q' =>
    cases q';exact⟨_,_,G,p,p'⟩
 refine qZ ?_ (by show 2<=oR;decide);have I2:AI X ge σ H1 { J with heap:=J.heap.push { cls:=.type "tuple",data:=.seq [F,O].toArray}}:=I1.Bf (t':=J.toks) λb o e=>oo _ e
 rw[hw];refine oa (ou ?_);show wpAny (model X.prog X.w) X.A (do rule "assign.swapped-stores";let items <-unpackItems (.ref J.heap.objs.size) 2 none;aa7 [λv=>acB X.env y v,λv=>acB X.env x v] items.reverse;pure Flow.next) _ _ _;refine oa (uj (oa (unpackItems_tuple (items:=#[F,O]) (I.ok.hd hc) (abq J.heap _) λh' ac=>?_)));have I3:=I2.Bf (h':=h') (t':=J.toks) λb o e=>ac b o (o6 (oK e)) e
 show wpAny _ _ (aa7 [λv=>acB X.env y v,λv=>acB X.env x v] [O,F] >>= λ_=>pure Flow.next) _ _ _;refine oa (yB (wpAny_bindName (MD I3 hN hj (.inl hy) ab (λs2 I4=>?_) (.inr hy))));refine yB (wpAny_bindName (MD I4 hN hi (.inl hx) rv (λs3 I5=>ab5 (ou ?_)) (.inr hx)));rw[List.set_comm _ _ (qp aa)]at I5;exact⟨_,H1,I5,q1⟩
end
section
variable {X:Cx}{pos:Pos}
def Uz(c:TT)(tb:TS):TS:=λD σ H=>∃W:Nat->St->Hp->Prop,(∃m,W m σ H)/\∀m σ H,W m σ H →
 c σ H λb H1=>if b=true then ∃N:St->Hp->Prop,(∀F H',N F H'->∃J,J<m/\W J F H')/\tb { D with nx:=N,ct:=N,bk:=D.nx} σ H1 else D.nx σ H1
theorem Kn(hp:pZ (model X.prog X.w) X.A X.env X.xe)(hc:PT X c tc)(hb:Cd X body tb):PS X (.While c body [] pos) (Uz tc tb):=by
 intro ge s σ H D I h;obtain⟨W,⟨m0,w0⟩,aa⟩:=h;refine wpAny_While (codeAny_whileLoop (λn s'=>∃σ' H',AI X ge σ' H' s'/\W n σ' H') ?_ m0 ⟨σ,H,I,w0⟩);rintro n s1 ⟨O,H1,I1,w1⟩;refine uB hp (AZ (hc ge s1 O H1 _ I1 (aa n O H1 w1)) λb s2 ⟨H2,I2,q2⟩=>?_);cases b with
 |true =>
  obtain⟨N,hN,q2⟩:=q2;rw[oH rfl];refine uB hp (AZ (hb ge s2 O H2 _ I2 q2) λf s3 q3=>?_);cases f with
  |next =>
   obtain⟨F,J,I3,n3⟩:=q3;obtain⟨m',hm,w3⟩:=hN F J n3;exact⟨m',hm,F,J,I3,w3⟩
  |cont =>
   obtain⟨F,J,I3,n3⟩:=q3;obtain⟨m',hm,w3⟩:=hN F J n3;exact⟨m',hm,F,J,I3,w3⟩
  |brk=>exact q3
  |ret v=>exact q3
 |false =>
  rw[oC o8];exact xU ⟨O,H2,I2,q2⟩
end
structure It where
 go:Nat->Hp->Prop
 De:Nat->Hp->V->Hp->Prop
 DZ:Nat->Hp->Prop
def Fu(X:Cx)(ge:List (Addr×Obj))(H:Hp)(b:Addr):Prop :=
 H b=none/\b≠X.env.locals/\b∉X.fs/\(b∈X.ex\/X.s₀.heap.objs.size<=b)/\(∀x c,X.env.cells.lookup x=some c->c≠b)/\∀p∈X.pn++ge,p.1≠b
theorem AI.Ht(I:AI X ge σ H s)(F:s.heap.objs.size<=b)(J:H' b=none):Fu X ge H' b:=by
 refine⟨J,rK (pX I.lt F),I.Wm F,.inr (oO I.sz F),λx c e z=>?_,λp O z=>?_⟩
 ·obtain⟨v,q⟩:=I.cell x c e;exact absurd (pX q.lt (by rw[z];exact F)) (tD _)
 ·exact absurd (pX (oK (I.pin p O).1) (by rw[z];exact F)) (tD _)
structure Fn(P:pG)(w:World)(K:ow)(tg:Expr)(J:It)(fp:List Addr)(it:Addr)(tn:Nat->Heap->Prop):Prop where
 mem:it∈fp
 Cw:∀i h,tn i h->∀b∈fp,∃o,h.get? b=some o/\∀v,o.data≠.cell v
 keep:∀i h h',tn i h->(∀b∈fp,∀o,h.get? b=some o->h'.get? b=some o)->tn i h'
 item:∀(X:Cx),X.prog=P->X.w=w->X.K=K->X.B9=true->∀(i:Nat) (ge:List (Addr×Obj)) (s:oq) (σ:St) (H:Hp) (E:Value->oq->Prop),AI X ge σ H s->(∀b∈fp,Fu X ge H b)->tn i s.heap->J.go i H →
  wpAny (model P w) X.A (vh (.ref it)) (λr s1=>∃u,r=some u /\
   wpAny (model P w) X.A (xT tg (.ref it) u) (λ_ s2=>∃x H',AI X ge σ H' s2/\Ao x u/\J.De i H x H'/\tn (i+1) s2.heap/\∀b∈fp,H' b=none) E s1) E s
 done:∀(X:Cx),X.prog=P->X.w=w->X.K=K->X.B9=true->∀(i:Nat) (ge:List (Addr×Obj)) (s:oq) (σ:St) (H:Hp) (E:Value->oq->Prop),AI X ge σ H s->(∀b∈fp,Fu X ge H b)->tn i s.heap->J.DZ i H →
  wpAny (model P w) X.A (vh (.ref it)) (λr s1=>r=none/\AI X ge σ H s1) E s
 self:∀(A:qM) (i:Nat) (s:oq) (Q:Value->oq->Prop) (E:Value->oq->Prop),tn i s.heap->Q (.ref it) s->wpAny (model P w) A (zF (.ref it)) Q E s
abbrev TI:=St->Hp->(It->Hp->Prop)->Prop
def XF(X:Cx)(ge:List (Addr×Obj))(σ:St)(tg:Expr)(R:It->Hp->Prop)(aa:Value)(s2:oq):Prop :=
 ∃(O:Addr) (fp:List Addr) (F:Nat->Heap->Prop) (J:It) (H':Hp),aa=.ref O/\AI X ge σ H' s2/\Fn X.prog X.w X.K tg J fp O F/\F 0 s2.heap/\(∀b∈fp,Fu X ge H' b)/\R J H'
def PI(X:Cx)(tg iter:Expr)(wi:TI):Prop :=
 ∀(ge:List (Addr×Obj)) (s:oq) (σ:St) (H:Hp) (R:It->Hp->Prop),AI X ge σ H s->wi σ H R →
  wpAny (model X.prog X.w) X.A (eval iter X.env) (λv F=>wpAny (model X.prog X.w) X.A (zF v) (XF X ge σ tg R) X.xe F) X.xe s
theorem NY (J : s.heap.get? it = some o) (hc : o.cls = .type n) (hd : o.data = .fields vs)
    (O:["enumerate","zip","dict_itemiterator","dict_reverseitemiterator","odict_iterator","itertools.zip_longest","itertools.pairwise"].contains n=false) (F:Q Unit.unit s):wpAny M A (xT tg (.ref it) u) Q E s:=by
  unfold xT;cases tg<;>first
    |exact ou F
    | (cases u <;> first
        |exact ou F
        | (refine oa (aa3 J ?_)
           rw[hc,hd];show wpAny M A (if (["enumerate","zip","dict_itemiterator","dict_reverseitemiterator","odict_iterator","itertools.zip_longest","itertools.pairwise"].contains n && vs[0]? == some (rR _))=true then _ else _) Q E s;rw[oC (by intro h;rw[O,x6]at h;cases h)];exact ou F))
def HN(K:ow)(a:Addr):It :=
 ⟨λi H=>∃xs x,AJ K H a xs/\xs[i]?=some x,λi H x H'=>H'=H/\∀xs,AJ K H a xs->xs[i]?=some x,λi H=>∃xs,AJ K H a xs/\xs.length<=i⟩
def HL(K:ow)(a:Addr):It :=
 ⟨λi H=>∃xs x,AH K H a xs/\xs[i]?=some x,λi H x H'=>H'=H/\∀xs,AH K H a xs->xs[i]?=some x,λi H=>∃xs,AH K H a xs/\xs.length<=i⟩
def Ec(lo:Int)(n:Nat):It:=⟨λi _=>i<n,λi H x H'=>H'=H/\x=.int (lo+i),λi _=>n<=i⟩
theorem Za{P:pG}{w:World}{K:ow}{tg:Expr}(a F:Addr):Fn P w K tg (HN K a) [F] F (λi h=>h.IsListIter F a i) where
 mem:=by simp
 Cw:=λi h st b J=>by
  have e:b=F:=by simpa using J
  subst e;obtain⟨o,e,c,d⟩:=st;exact⟨o,e,λv z=>by rw[d]at z;cases z⟩
 keep:=λi h h' st k=>st.at λo e=>k F #v[] o e
 item:=by
  intro X hP hw hK hc i ge s σ H E I O st hg;subst hP hw hK;obtain⟨xs,x,hq,hx⟩:=hg;obtain⟨its,rv,p,hz⟩:=I.list hq;obtain⟨u,hu,ru⟩:=rv.get hx;obtain⟨f0,f1,f2,f3,f4,f5⟩:=O F #v[];refine aas st p.isList (x:=u) (by simpa using hu) λh' aa sb=>?_
  have I1:AI X ge σ H { s with heap:=h'}:=I.FD (t':=s.toks) (λb o J e=>(sb.2 b J).trans e) f0 f1 f3 f4 f5;obtain⟨o,e,c,d⟩:=id aa;exact⟨u,G,NY (s:={ s with heap:=h'}) e c d ∅ ⟨x,H,I1,ru,⟨G,λys hy=>by rw[I.list_inj hy hq];exact hx⟩,aa,λb J=>(O b J).1⟩⟩
 done:=by
  intro X hP hw hK hc i ge s σ H E I O st hg;subst hP hw hK;obtain⟨xs,hq,hx⟩:=hg;obtain⟨its,rv,p,hz⟩:=I.list hq;obtain⟨f0,f1,f2,f3,f4,f5⟩:=O F #v[];have hl:=rv.length;exact aaP (I.ok.hd hc) st p.isList (by simp;lia) λh' eb=>⟨G,I.FD (t':=s.toks) (λb o J e=>eb b o J e) f0 f1 f3 f4 f5⟩
 self:=λ_ _ _ _ _ st h=>wpAny_pyIter_listiter st h
theorem YR{P:pG}{w:World}{K:ow}{tg:Expr}(a F:Addr):Fn P w K tg (HL K a) [F] F (λi h=>h.IsTupleIter F a i) where
 mem:=by simp
 Cw:=λi h st b J=>by
  have e:b=F:=by simpa using J
  subst e;obtain⟨o,e,c,d⟩:=st;exact⟨o,e,λv z=>by rw[d]at z;cases z⟩
 keep:=λi h h' st k=>st.at λo e=>k F #v[] o e
 item:=by
  intro X hP hw hK hc i ge s σ H E I O st hg;subst hP hw hK;obtain⟨xs,x,hq,hx⟩:=hg;obtain⟨its,rv,p,hz⟩:=I.tuple hq;obtain⟨u,hu,ru⟩:=rv.get hx;obtain⟨f0,f1,f2,f3,f4,f5⟩:=O F #v[];refine wpAny_pyNext_tuple_item st (show s.heap.IsTuple a its.toArray from p) (x:=u) (by simpa using hu) λh' aa sb=>?_
  have I1:AI X ge σ H { s with heap:=h'}:=I.FD (t':=s.toks) (λb o J e=>(sb.2 b J).trans e) f0 f1 f3 f4 f5;obtain⟨o,e,c,d⟩:=id aa;exact⟨u,G,NY (s:={ s with heap:=h'}) e c d ∅ ⟨x,H,I1,ru,⟨G,λys hy=>by rw[I.Rk hy hq];exact hx⟩,aa,λb J=>(O b J).1⟩⟩
 done:=by
  intro X hP hw hK hc i ge s σ H E I O st hg;subst hP hw hK;obtain⟨xs,hq,hx⟩:=hg;obtain⟨its,rv,p,hz⟩:=I.tuple hq;obtain⟨f0,f1,f2,f3,f4,f5⟩:=O F #v[];have hl:=rv.length;exact wpAny_pyNext_tuple_end (I.ok.hd hc) st (show s.heap.IsTuple a its.toArray from p) (by simp;lia) λh' eb=>⟨G,I.FD (t':=s.toks) (λb o J e=>eb b o J e) f0 f1 f3 f4 f5⟩
 self:=λ_ _ _ _ _ st h=>wpAny_pyIter_tupleiter st h
theorem YN{P:pG}{w:World}{K:ow}{tg:Expr}(F:Addr)(lo:Int)(n:Nat):Fn P w K tg (Ec lo n) [F] F (λi h=>aac h F (lo+(i:Nat)*1) ((n:Int)-(i:Nat)) 1) where
 mem:=by simp
 Cw:=λi h st b J=>by
  have e:b=F:=by simpa using J
  subst e;exact⟨_,st,λv z=>by
   have z':yq _=xy v:=z;cases z'⟩
 keep:=λi h h' st k=>k F #v[] _ st
 item:=by
  intro X hP hw hK hc i ge s σ H E I O st hg;subst hP hw hK;obtain⟨f0,f1,f2,f3,f4,f5⟩:=O F #v[];have W:=Walks.range (prog:=X.prog) (w:=X.w) (I.ok.hd hc) F lo 1 n;refine W.item i s _ _ hg st λv h' tk hv aa kk=>?_
  obtain⟨t,rfl⟩:=hv;have I1:AI X ge σ H { s with heap:=h',toks:=tk}:=I.FD (λb o J e=>kk b o (by simpa using J) e) f0 f1 f3 f4 f5;refine⟨_,G,NY (s:={ s with heap:=h',toks:=tk}) (n:="range_iterator") aa rfl rfl ∅ ⟨.int (lo+i),H,I1,⟨t,?_⟩,⟨G,G⟩,aa,λb J=>(O b J).1⟩⟩;rw[Int.mul_one]
 done:=by
  intro X hP hw hK hc i ge s σ H E I O st hg;subst hP hw hK;obtain⟨f0,f1,f2,f3,f4,f5⟩:=O F #v[];exact aat (I.ok.hd hc) st (by have:n<=i:=hg;lia) λh' eb=>⟨G,I.FD (t':=s.toks) (λb o J e=>eb b o J e) f0 f1 f3 f4 f5⟩
 self:=λ_ _ _ _ _ st h=>aaq st h
section
variable {X:Cx}{tg:Expr}
inductive UJ(K:ow)(x:V)(H:Hp)(R:It->Hp->Prop):Prop
 |mk (a:Addr) (e:x=.ref a) (s:∃xs,AJ K H a xs) (q:R (HN K a) H):UJ K x H R
inductive VY(K:ow)(x:V)(H:Hp)(R:It->Hp->Prop):Prop
 |mk (a:Addr) (e:x=.ref a) (s:∃xs,AH K H a xs) (q:R (HL K a) H):VY K x H R
def V0(K:ow)(tl:TE):TI:=λσ H R=>tl σ H λx H1=>UJ K x H1 R
def QA(K:ow)(tl:TE):TI:=λσ H R=>tl σ H λx H1=>VY K x H1 R
theorem gV(hl:PE X l tl):PI X tg l (V0 X.K tl):=by
 intro ge s σ H R I h;refine AZ (hl ge s σ H _ I h) λv F ⟨x,H1,J,O,q1⟩=>?_
 obtain⟨a,e,⟨xs,hq⟩,q⟩:=q1;subst e;cases O;obtain⟨its,rv,p,hz⟩:=J.list hq;refine tN p.isList ?_;refine⟨F.heap.objs.size,[F.heap.objs.size],_,_,H1,G,J.Bf (t':=F.toks) λb o e=>oo _ e,Za a _,⟨_,oJ _ rfl,G,G⟩,λb hb=>?_,q⟩;have e:b=F.heap.objs.size:=by simpa using hb
 subst e;exact J.Ht (oz _) (J.AY.fresh (oz _))
theorem jf(hl:PE X l tl):PI X tg l (QA X.K tl):=by
 intro ge s σ H R I h;refine AZ (hl ge s σ H _ I h) λv F ⟨x,H1,J,O,q1⟩=>?_
 obtain⟨a,e,⟨xs,hq⟩,q⟩:=q1;subst e;cases O;obtain⟨its,rv,p,hz⟩:=J.tuple hq;refine r8 (show F.heap.IsTuple a its.toArray from p) ?_;refine⟨F.heap.objs.size,[F.heap.objs.size],_,_,H1,G,J.Bf (t':=F.toks) λb o e=>oo _ e,YR a _,⟨_,oJ _ rfl,G,G⟩,λb hb=>?_,q⟩;have e:b=F.heap.objs.size:=by simpa using hb
 subst e;exact J.Ht (oz _) (J.AY.fresh (oz _))
theorem SR {lo hi:Int}(I:AI X ge σ H s)(h1:-(2 ^ 62)<=lo)(h2:lo<2 ^ 62)(h3:-(2 ^ 62)<=hi)(O:hi<2 ^ 62)
  (q:R (Ec lo (hi-lo).toNat) H):wpAny (model X.prog X.w) X.A (zF (.ref s.heap.objs.size)) (XF X ge σ tg R) E { s with heap:=s.heap.push { cls:=.type "range",data:=.fields #[.int lo t,.int hi u,.int 1 v]},toks:=tk}:=by
 refine abR (abS.new ..) (small_one h1 h2 h3 O) ?_;have F:AI X ge σ H { s with heap:=s.heap.push { cls:=.type "range",data:=.fields #[.int lo t,.int hi u,.int 1 v]},toks:=tk}:=I.Bf λb o e=>oo _ e
 refine⟨(s.heap.push { cls:=.type "range",data:=.fields #[.int lo t,.int hi u,.int 1 v]}).objs.size,[(s.heap.push { cls:=.type "range",data:=.fields #[.int lo t,.int hi u,.int 1 v]}).objs.size],_,_,H,G,
  F.Bf (t':=tk) λb o e=>oo _ e,YN _ lo (hi-lo).toNat,?_,λb J=>?_,q⟩
 ·have e1:lo+((0:Nat):Int)*1=lo:=by simp
  have e2:(((hi-lo).toNat:Nat):Int)-((0:Nat):Int)=tJ lo hi 1:=by rw[rangeSize_one];split<;>lia
  show aac _ _ (lo+((0:Nat):Int)*1) ((((hi-lo).toNat:Nat):Int)-((0:Nat):Int)) 1;rw[e1,e2];exact oJ _ rfl
 ·have e:b=(s.heap.push { cls:=.type "range",data:=.fields #[.int lo t,.int hi u,.int 1 v]}).objs.size:=by simpa using J
  subst e;exact F.Ht (oz _) (F.AY.fresh (oz _))
def kq(ta:TA):TI:=λσ H R=>ta σ H λvs H1=>∃j:Int,vs=[.int j]/\-(2 ^ 62)<=j/\j<2 ^ 62/\R (Ec 0 j.toNat) H1
def km(ta:TA):TI:=λσ H R=>ta σ H λvs H1=>∃i j:Int,vs=[.int i,.int j]/\(-(2 ^ 62)<=i/\i<2 ^ 62/\-(2 ^ 62)<=j/\j<2 ^ 62)/\R (Ec i (j-i).toNat) H1
theorem F4{a:Expr}{ta:TA}{p pos:Pos}(hg:Gl X "range")(J:X.mg "range" = none)(O:PA X [a] ta)(hs:pK [a] X.env=[(false,eval a X.env)]:=by rfl):PI X tg (.Call (.Name "range" p) [a] [] pos) (kq ta):=by
 intro ge s σ H R I h;refine Call_ (FC I hg J aa0 (rE (AZ (O pos ge s σ H _ I h) λus s1 ⟨vs,H1,I1,r1,F⟩=>?_) hs rfl));obtain⟨j,e,F,q2,q⟩:=F;subst e;cases r1 with
 |cons r rr =>
  cases rr;obtain⟨t,rfl⟩:=r;exact call_range_1 (SR I1 () () F q2 (by simpa using q))
theorem Ki{a b:Expr}{ta:TA}{p pos:Pos}(hg:Gl X "range")(O:X.mg "range" = none)(ha:PA X [a,b] ta)(hs:pK [a,b] X.env=[(false,eval a X.env),(false,eval b X.env)]:=by rfl)(J:pK [b] X.env=[(false,eval b X.env)]:=by rfl):
  PI X tg (.Call (.Name "range" p) [a,b] [] pos) (km ta):=by
 intro ge s σ H R I h;refine Call_ (FC I hg O aa0 (rE (AZ (ha pos ge s σ H _ I h) λus s1 ⟨vs,H1,I1,r1,F⟩=>?_) (by rw[hs,J]) (by rw[J];rfl)));obtain⟨i,j,e,⟨F,q2,q3,q4⟩,q⟩:=F;subst e;cases r1 with
 |cons r rr =>
  cases rr with
  |cons r' rr =>
   cases rr;obtain⟨t,rfl⟩:=r;obtain⟨t',rfl⟩:=r';exact call_range_2 (SR I1 F q2 q3 q4 q)
def QB(wi:TI)(g:TG)(tb:TS):TS:=λD σ H=>wi σ H λJ H1=>∃W:Nat->Nat->St->Hp->Prop,(∃m,W 0 m σ H1)/\∀i m σ H,W i m σ H →
 (J.DZ i H/\D.nx σ H)\/(J.go i H/\∃N:St->Hp->Prop,(∀O H',N O H'->∃F,F<m/\W (i+1) F O H')/\∀x H',J.De i H x H'->g x σ H' λσ2 H2=>tb { D with nx:=N,ct:=N,bk:=D.nx} σ2 H2)
def K1(fp:List Addr)(h:Heap):List (Addr×Obj):=fp.filterMap λb=>(h.get? b).map λo=>(b,o)
theorem L1(F:b∈fp)(e:h.get? b=some o):(b,o)∈K1 fp h:=abv.mpr ⟨b,F,by rw[e];rfl⟩
theorem Yw(O:p∈K1 fp h):p.1∈fp/\h.get? p.1=some p.2:=by
 obtain⟨b,F,e⟩:=abv.mp O;cases q:h.get? b with
 |none=>rw[q]at e;cases e
 |some o =>
  rw[q]at e;have J:(b,o)=p:=oV e;subst J;exact⟨F,q⟩
theorem AI.Um(I:AI X ge σ H s)(hf:∀b∈fp,Fu X ge H b)(O:∀b∈fp,∃o,s.heap.get? b=some o/\∀v,o.data≠.cell v):AI X (ge++K1 fp s.heap) σ H s :=
 I.Me λp hp=>(oM.mp hp).elim (λz=>I.pin p (qB _ z)) λz=>by
  obtain⟨F,e⟩:=Yw z;obtain⟨f0,f1,f2,_⟩:=hf p.1 F;obtain⟨o,J,d⟩:=O p.1 F;rw[e]at J;cases J;exact⟨e,f0,f1,f2,d⟩
theorem AI.Kr(I:AI X (ge++pl) σ H s):AI X ge σ H s:=I.Me λp F=>I.pin p (qB _ (uK _ F))
theorem Bk {iter:Expr}{body:List Stmt}{wi:TI}{g:TG}{tb:TS}{pos:Pos}(hp:pZ (model X.prog X.w) X.A X.env X.xe)(hc:X.B9=true)(hi:PI X tg iter wi)(hg:PG X tg g)(hb:Cd X body tb)
  (hs:∀x,t7 iter X.env x=pure x:=by intro _;rfl):PS X (.For tg iter body [] pos) (QB wi g tb):=by
 intro ge s σ H D I h;refine wpAny_For (AZ (hi ge s σ H _ I h) λv s1 h1=>AZ h1 λak s2 h2=>?_) hs;obtain⟨it,fp,tn,J,H2,e,I2,T,ai,f2,W,⟨m0,w0⟩,af⟩:=h2;subst e;have aa:∀{H':Hp},(∀b∈fp,H' b=none)->∀b∈fp,Fu X ge H' b:=λhn b hb=>⟨hn b hb,(f2 b hb).2⟩
 refine codeAny_forLoop_any (λn s'=>∃i σ' H',AI X ge σ' H' s'/\tn i s'.heap/\(∀b∈fp,H' b=none)/\W i n σ' H') ?_ m0 ⟨0,σ,H2,I2,ai,λb hb=>(f2 b hb).1,w0⟩;rintro n s3 ⟨i,σ3,H3,I3,ac,ad,w3⟩;rcases af i n σ3 H3 w3 with ⟨ag,qn⟩|⟨go,N,hN,step⟩
 ·refine uB hp (AZ (T.done X rfl rfl rfl hc i ge s3 σ3 H3 X.xe I3 (aa ad) ac ag) λr s4 ⟨hr,I4⟩=>?_);subst hr;exact xU ⟨σ3,H3,I4,qn⟩
 ·refine uB hp (AZ (T.item X rfl rfl rfl hc i ge s3 σ3 H3 X.xe I3 (aa ad) ac go) λr s4 ⟨u,hr,h4⟩=>?_);subst hr;refine uB hp (AZ h4 λ_ s5 ⟨x,H5,I5,r5,y5,ab,ah⟩=>?_);have aj:=I5.Um (aa ah) (T.Cw _ _ ab);refine uB hp (AZ (hg _ s5 σ3 H5 x u _ aj r5 (step x H5 y5)) λ_ s6 ⟨σ6,H6,I6,q6⟩=>?_);refine uB hp (AZ (hb _ s6 σ6 H6 _ I6 q6) λf s7 q7=>?_);have ae:∀{O:St} {H7:Hp},AI X (ge++K1 fp s5.heap) O H7 s7->N O H7->∃m,m<n/\∃i σ' H',AI X ge σ' H' s7/\tn i s7.heap/\(∀b∈fp,H' b=none)/\W i m σ' H':=λ{O H7} F n7=>by
   obtain⟨m',hm,w7⟩:=hN O H7 n7;refine⟨m',hm,i+1,O,H7,F.Kr,T.keep _ _ _ ab λb hb o e=>(F.pin (b,o) (qB _ (qB _ (L1 hb e)))).1,λb hb=>?_,w7⟩;obtain⟨o,e,d⟩:=T.Cw _ _ ab b hb;exact(F.pin (b,o) (qB _ (qB _ (L1 hb e)))).2.1
  cases f with
  |next=>obtain⟨O,H7,F,n7⟩:=q7;exact ae F n7
  |cont=>obtain⟨O,H7,F,n7⟩:=q7;exact ae F n7
  |brk=>obtain⟨O,H7,F,q7⟩:=q7;exact⟨O,H7,F.Kr,q7⟩
  |ret v=>obtain⟨x7,O,H7,F,r7,q7⟩:=q7;exact⟨x7,O,H7,F.Kr,r7,q7⟩
end
theorem IT {K:ow}{a:Addr}{xs:List V}{g:TG}{tb:TS}{D:Dx}{σ:St}{H:Hp}(F:Nat->St->Hp->Prop)(h0:F 0 σ H)(hl:∀i σ H,i<=xs.length->F i σ H->AJ K H a xs)
  (hs:∀i x σ H,xs[i]?=some x->F i σ H->g x σ H λJ H2=>tb { D with nx:=F (i+1),ct:=F (i+1),bk:=D.nx} J H2)(hd:∀σ H,F xs.length σ H->D.nx σ H) :
  ∃W:Nat->Nat->St->Hp->Prop,(∃m,W 0 m σ H)/\∀i m σ H,W i m σ H →
   ((HN K a).DZ i H/\D.nx σ H)\/((HN K a).go i H/\∃N:St->Hp->Prop,(∀O H',N O H'->∃m',m' < m/\W (i+1) m' O H')/\∀x H',(HN K a).De i H x H'->g x σ H' λJ H2=>tb { D with nx:=N,ct:=N,bk:=D.nx} J H2):=by
 refine⟨λi m σ H=>m=xs.length-i/\i<=xs.length/\F i σ H,⟨xs.length,#v[],o9 _,h0⟩,?_⟩;rintro i m σ H ⟨rfl,hi,p⟩;have q:=hl i σ H hi p;by_cases aa:i<xs.length
 ·refine .inr ⟨⟨xs,xs[i],q,by simp[aa]⟩,F (i+1),λO H' p'=>⟨xs.length-(i+1),(),G,aa,p'⟩,λx H' y=>?_⟩;obtain⟨e,y⟩:=y;subst e;exact hs i x σ _ (y xs q) p
 ·have e:i=xs.length:=()
  subst e;exact .inl ⟨⟨xs,q,oz _⟩,hd σ H p⟩
theorem Ji {K:ow}{a:Addr}{xs:List V}{g:TG}{tb:TS}{D:Dx}{σ:St}{H:Hp}(F:Nat->St->Hp->Prop)(h0:F 0 σ H)(hl:∀i σ H,i<=xs.length->F i σ H->AH K H a xs)
  (hs:∀i x σ H,xs[i]?=some x->F i σ H->g x σ H λJ H2=>tb { D with nx:=F (i+1),ct:=F (i+1),bk:=D.nx} J H2)(hd:∀σ H,F xs.length σ H->D.nx σ H) :
  ∃W:Nat->Nat->St->Hp->Prop,(∃m,W 0 m σ H)/\∀i m σ H,W i m σ H →
   ((HL K a).DZ i H/\D.nx σ H)\/((HL K a).go i H/\∃N:St->Hp->Prop,(∀O H',N O H'->∃m',m' < m/\W (i+1) m' O H')/\∀x H',(HL K a).De i H x H'->g x σ H' λJ H2=>tb { D with nx:=N,ct:=N,bk:=D.nx} J H2):=by
 refine⟨λi m σ H=>m=xs.length-i/\i<=xs.length/\F i σ H,⟨xs.length,#v[],o9 _,h0⟩,?_⟩;rintro i m σ H ⟨rfl,hi,p⟩;have q:=hl i σ H hi p;by_cases aa:i<xs.length
 ·refine .inr ⟨⟨xs,xs[i],q,by simp[aa]⟩,F (i+1),λO H' p'=>⟨xs.length-(i+1),by omega,G,aa,p'⟩,λx H' y=>?_⟩;obtain⟨e,y⟩:=y;subst e;exact hs i x σ _ (y xs q) p
 ·have e:i=xs.length:=by omega
  subst e;exact .inl ⟨⟨xs,q,oz _⟩,hd σ H p⟩
theorem Fb {lo:Int}{n:Nat}{g:TG}{tb:TS}{D:Dx}{σ:St}{H:Hp}(F:Nat->St->Hp->Prop)(h0:F 0 σ H)
  (hs:∀i σ H,i<n->F i σ H->g (.int (lo+i)) σ H λJ H2=>tb { D with nx:=F (i+1),ct:=F (i+1),bk:=D.nx} J H2)(hd:∀σ H,F n σ H->D.nx σ H) :
  ∃W:Nat->Nat->St->Hp->Prop,(∃m,W 0 m σ H)/\∀i m σ H,W i m σ H →
   ((Ec lo n).DZ i H/\D.nx σ H)\/((Ec lo n).go i H/\∃N:St->Hp->Prop,(∀O H',N O H'->∃m',m' < m/\W (i+1) m' O H')/\∀x H',(Ec lo n).De i H x H'->g x σ H' λJ H2=>tb { D with nx:=N,ct:=N,bk:=D.nx} J H2):=by
 refine⟨λi m σ H=>m=n-i/\i<=n/\F i σ H,⟨n,#v[],o9 _,h0⟩,?_⟩;rintro i m σ H ⟨rfl,hi,p⟩;by_cases aa:i<n
 ·refine .inr ⟨aa,F (i+1),λO H' p'=>⟨n-(i+1),(),G,aa,p'⟩,λx H' y=>?_⟩;obtain⟨e,y⟩:=y;subst e y;exact hs i σ _ aa p
 ·have e:i=n:=()
  subst e;exact .inl ⟨oz _,hd σ H p⟩
theorem Kt {c:TT}{tb:TS}{D:Dx}{σ:St}{H:Hp}(J:St->Hp->Prop)(μ:St->Hp->Nat)(h0:J σ H)
  (hs:∀σ H,J σ H->c σ H λb H1=>if b=true then tb { D with nx:=λF H'=>J F H'/\μ F H' < μ σ H,ct:=λF H'=>J F H'/\μ F H' < μ σ H,bk:=D.nx} σ H1 else D.nx σ H1)
  (aa:∀σ H Q O,(∀b H1,Q b H1->O b H1)->c σ H Q->c σ H O):Uz c tb D σ H:=by
 refine⟨λm σ H=>m=μ σ H/\J σ H,⟨_,G,h0⟩,?_⟩;rintro m σ H ⟨rfl,p⟩;refine aa σ H _ _ (λb H1 q=>?_) (hs σ H p);cases b with
 |true=>exact⟨_,λF H' ⟨p',l⟩=>⟨_,l,G,p'⟩,q⟩
 |false=>exact q
abbrev R2:=V->V->Hp->VK->Prop
def B5(X:Cx)(f:Value->Value->Sem Value)(r:R2):Prop :=
 ∀(ge:List (Addr×Obj)) (s:oq) (σ:St) (H:Hp) (x y:V) (v u:Value) (Q:VK),AI X ge σ H s->Ao x v->Ao y u->r x y H Q →
  wpAny (model X.prog X.w) X.A (f v u) (EP X ge σ Q) X.xe s
def Qc(X:Cx)(f:Value->Sem Value)(r:V->Hp->VK->Prop):Prop :=
 ∀(ge:List (Addr×Obj)) (s:oq) (σ:St) (H:Hp) (x:V) (v:Value) (Q:VK),AI X ge σ H s->Ao x v->r x H Q →
  wpAny (model X.prog X.w) X.A (f v) (EP X ge σ Q) X.xe s
def Cr(X:Cx)(f:Value)(r:List V->Hp->VK->Prop):Prop :=
 ∀(ge:List (Addr×Obj)) (s:oq) (σ:St) (H:Hp) (xs:List V) (F:List Value) (Q:VK),AI X ge σ H s->Af xs F->r xs H Q →
  wpAny (model X.prog X.w) X.A (call f F) (EP X ge σ Q) X.xe s
def mG(X:Cx)(r:V->Hp->(Bool->Hp->Prop)->Prop):Prop :=
 ∀(ge:List (Addr×Obj)) (s:oq) (σ:St) (H:Hp) (x:V) (v:Value) (Q:Bool->Hp->Prop),AI X ge σ H s->Ao x v->r x H Q →
  wpAny (model X.prog X.w) X.A (truthy v) (TP X ge σ Q) X.xe s
def BK(r:R2)(ta tb:TE):TE:=λσ H Q=>ta σ H λx H1=>tb σ H1 λy H2=>r x y H2 Q
def XN(r:V->Hp->VK->Prop)(ta:TE):TE:=λσ H Q=>ta σ H λx H1=>r x H1 Q
inductive IR(C:Int->Int->Prop)(g:Int->Int->V)(x y:V)(H:Hp)(Q:VK):Prop
 |mk (i j:Int) (a:x=.int i) (b:y=.int j) (c:C i j) (q:Q (g i j) H):IR C g x y H Q
def rI(C:Int->Int->Prop)(g:Int->Int->V):R2:=λx y H Q=>IR C g x y H Q
inductive XR(g:Int->Int->V)(x y:V)(H:Hp)(Q:VK):Prop
 |mk (i j:Int) (a:x=.int i) (b:y=.int j) (q:Q (g i j) H):XR g x y H Q
def EY(g:Int->Int->V):R2:=λx y H Q=>XR g x y H Q
def rU(g:Int->V):V->Hp->VK->Prop:=λx H Q=>∃i,x=.int i/\Q (g i) H
section
variable {X:Cx}{a b c:Expr}{ta tb tc:TE}{pos:Pos}
theorem QS (O:PE X a ta)(hb:PE X b tb){R:V->V->Hp->Prop}(I:AI X ge σ H s)
  (h:ta σ H λx H1=>tb σ H1 λy H2=>R x y H2){f:Value->Value->Sem Value}
  (J:∀v u F x y H2,AI X ge σ H2 F->Ao x v->Ao y u->R x y H2->wpAny (model X.prog X.w) X.A (f v u) Q X.xe F) :
  wpAny (model X.prog X.w) X.A (eval a X.env) (λv s₁=>wpAny (model X.prog X.w) X.A (eval b X.env) (λu s₂=>wpAny (model X.prog X.w) X.A (f v u) Q X.xe s₂) X.xe s₁) X.xe s:=by
 refine AZ (O ge s σ H _ I h) λv s1 ⟨x,H1,I1,r1,q1⟩=>?_
 refine AZ (hb ge s1 σ H1 _ I1 q1) λu F ⟨y,H2,I2,r2,q2⟩=>?_
 exact J v u F x y H2 I2 r1 r2 q2
theorem AN(ho:B5 X (ud op) r)(J:PE X a ta)(hb:PE X b tb):PE X (.BinOp a op b pos) (BK r ta tb):=by
 intro ge s σ H Q I h;exact wpAny_BinOp (QS J hb I h λv u s2 x y H2 O F ry q=>ho ge s2 σ H2 x y v u Q O F ry q)
theorem En(F:Qc X (unaryOp op) r)(ha:PE X a ta):PE X (.UnaryOp op a pos) (XN r ta):=by
 intro ge s σ H Q I h;exact UnaryOp_ (AZ (ha ge s σ H _ I h) λv O ⟨x,H1,I1,r1,J⟩=>F ge O σ H1 x v Q I1 r1 J)
theorem JR {f:Value->Value->Sem Value}{C:Int->Int->Prop}{g:Int->Int->Int}
  (J:∀(i j:Int) (t u:Tok) (s:oq) (Q:Value->oq->Prop) (E:Value->oq->Prop),C i j->Q (.int (g i j) s.toks) { s with toks:=s.toks+1}->wpAny (model X.prog X.w) X.A (f (.int i t) (.int j u)) Q E s) :
  B5 X f (rI C λi j=>.int (g i j)):=by
 intro ge s σ H x y v u Q I F ry h;obtain⟨i,j,rfl,rfl,O,q⟩:=h;obtain⟨t,rfl⟩:=F;obtain⟨t',rfl⟩:=ry;exact J i j t t' s _ _ O ⟨.int (g i j),H,I.Cn _,⟨_,G⟩,q⟩
theorem WW {f:Value->Value->Sem Value}{g:Int->Int->Int}
  (J:∀(i j:Int) (t u:Tok) (s:oq) (Q:Value->oq->Prop) (E:Value->oq->Prop),Q (.int (g i j) s.toks) { s with toks:=s.toks+1}->wpAny (model X.prog X.w) X.A (f (.int i t) (.int j u)) Q E s) :
  B5 X f (EY λi j=>.int (g i j)):=by
 intro ge s σ H x y v u Q I F O h;obtain⟨i,j,rfl,rfl,q⟩:=h;obtain⟨t,rfl⟩:=F;obtain⟨t',rfl⟩:=O;exact J i j t t' s _ _ ⟨.int (g i j),H,I.Cn _,⟨_,G⟩,q⟩
theorem P4 {g:Int->Int->Bool}
  (J:∀(i j:Int) (t u:Tok) (s:oq) (Q:Value->oq->Prop) (E:Value->oq->Prop),Q (.bool (g i j)) s->wpAny (model X.prog X.w) X.A (f (.int i t) (.int j u)) Q E s) :
  B5 X f (EY λi j=>.bl (g i j)):=by
 intro ge s σ H x y v u Q I F O h;obtain⟨i,j,rfl,rfl,q⟩:=h;obtain⟨t,rfl⟩:=F;obtain⟨t',rfl⟩:=O;exact J i j t t' s _ _ ⟨.bl (g i j),H,I,G,q⟩
def mZ(i j:Int):Prop:=0<j/\j<1073741824
def mK(i j:Int):Prop:=0<=j/\j<=1000000/\i.natAbs<2 ^ 64
def Gz(i j:Int):Prop:=(-(2 ^ 64)<i/\i<2 ^ 64)\/(-(2 ^ 64)<j/\j<2 ^ 64)
theorem Gz.ok(h:Gz i j):IntMulOk i j:=by
 rcases h with ⟨h1,h2⟩|⟨h1,h2⟩
 ·exact .of_left (intBits_le_64 h1 h2)
 ·exact .of_right (intBits_le_64 h1 h2)
theorem BM:B5 X (ud .Add) (EY λi j=>.int (i+j)):=WW λ_ _ _ _ _ _ _ q=>add_int q
theorem CB:B5 X (ud .Sub) (EY λi j=>.int (i-j)):=WW λ_ _ _ _ _ _ _ q=>sub_int q
theorem DU:B5 X (ud .Mult) (rI Gz λi j=>.int (i*j)):=JR λ_ _ _ _ _ _ _ F q=>mul_int q F.ok
theorem EM:B5 X (ud .FloorDiv) (rI mZ λi j=>.int (i / j)):=JR λi j _ _ _ _ _ F q=>by
 have h1:(0:Int)<j:=F.1;have h2:j<1073741824:=F.2;exact floordiv_int (by omega) (by rw[Int.fdiv_eq_ediv_of_nonneg i (by omega)];exact q) (.inl (aaf (by omega)))
theorem Bw:B5 X (ud .Mod) (rI (λ_ j=>0<j) λi j=>.int (i%j)):=JR λi j _ _ _ _ _ F q=>by
 have h1:(0:Int)<j:=F;exact mod_int' () (by rw[yJ i ()];exact q)
theorem eI:B5 X (ud .Mod) (rI (λ_ j=>j≠0) λi j=>.int (i.fmod j)):=JR λ_ _ _ _ _ _ _ F q=>mod_int' F q
theorem i5:B5 X (ud .Pow) (rI mK λi j=>.int (i ^ j.toNat)):=JR λ_ _ _ _ _ _ _ F q=>pow_int_small F.1 F.2.1 F.2.2 q
theorem nN {f:Value->Sem Value}{g:Int->Int}
  (J:∀(i:Int) (t:Tok) (s:oq) (Q:Value->oq->Prop) (E:Value->oq->Prop),Q (.int (g i) s.toks) { s with toks:=s.toks+1}->wpAny (model X.prog X.w) X.A (f (.int i t)) Q E s) :
  Qc X f (rU λi=>.int (g i)):=by
 intro ge s σ H x v Q I F h;obtain⟨i,rfl,q⟩:=h;obtain⟨t,rfl⟩:=F;exact J i t s _ _ ⟨.int (g i),H,I.Cn _,⟨_,G⟩,q⟩
theorem Ej:Qc X (unaryOp .USub) (rU λi=>.int (-i)):=nN λ_ _ _ _ _ q=>neg_int q
end
def V9:V->V->Bool
 |.Ay,.Ay=>true | .Ay,.int _=>true | .int _,.Ay=>true | .Ay,.bl _=>true | .bl _,.Ay=>true | .Ay,.str _=>true | .str _,.Ay=>true
 |.int _,.int _=>true | .bl _,.bl _=>true | .str _,.str _=>true | .Eb _,.Eb _=>true
 |.int _,.str _=>true | .str _,.int _=>true | .bl _,.str _=>true | .str _,.bl _=>true
 |_,_=>false
inductive XC(x y:V)(H:Hp)(Q:VK):Prop
 |mk (c:V9 x y=true) (q:Q (.bl (decide (x=y))) H):XC x y H Q
inductive XD(x y:V)(H:Hp)(Q:VK):Prop
 |mk (c:V9 x y=true) (q:Q (.bl (!decide (x=y))) H):XD x y H Q
def nK:R2:=λx y H Q=>XC x y H Q
def nR:R2:=λx y H Q=>XD x y H Q
theorem Tv:decide (V.int i=V.int j)=(i == j):=by
 rw[tW];simp
theorem UD:decide (V.bl i=V.bl j)=(i == j):=by
 rw[tW];simp
theorem S5:decide (V.str i=V.str j)=(i == j):=by
 rw[tW];simp
theorem TF:decide (V.Eb i=V.Eb j)=(i.toList == j.toList):=by
 rw[tW];cases i;cases j;simp
section
variable {X:Cx}{a b c:Expr}{ta tb tc:TE}{pos:Pos}
theorem Bv(I:AI X ge σ H s)(q:Q (.bl k) H)(e:k=k'):EP X ge σ Q (.bool k') s:=by
 subst e;exact⟨.bl k,H,I,G,q⟩
theorem Dv:B5 X (r6 .Eq) nK:=by
 intro ge s σ H x y v u Q I O F h;obtain⟨J,q⟩:=h;cases x with
 |Ay =>
  cases O;cases y with
  |Ay=>cases F;exact PySem.EqNone.eq_none_none (Bv I q #v[])
  |bl j=>cases F;exact PySem.EqNone.eq_none_bool (Bv I q #v[])
  |int j=>obtain⟨t',rfl⟩:=F;exact PySem.EqNone.eq_none_int (Bv I q #v[])
  |str j=>obtain⟨t',rfl⟩:=F;exact PySem.EqNone.eq_none_str (Bv I q #v[])
  |_=>exact absurd (show false=true from J) o8
 |bl i =>
  cases O;cases y with
  |Ay=>cases F;exact PySem.EqNone.eq_bool_none (Bv I q #v[])
  |bl j=>cases F;exact eq_bool (Bv I q UD)
  |str j=>obtain⟨t',rfl⟩:=F;exact PySem.EqMixed.eq_bool_str (Bv I q #v[])
  |_=>exact absurd (show false=true from J) o8
 |int i =>
  obtain⟨t,rfl⟩:=O;cases y with
  |Ay=>cases F;exact PySem.EqNone.eq_int_none (Bv I q #v[])
  |int j=>obtain⟨t',rfl⟩:=F;exact eq_int (Bv I q Tv)
  |str j=>obtain⟨t',rfl⟩:=F;exact PySem.EqMixed.eq_int_str (Bv I q #v[])
  |_=>exact absurd (show false=true from J) o8
 |str i =>
  obtain⟨t,rfl⟩:=O;cases y with
  |Ay=>cases F;exact PySem.EqNone.eq_str_none (Bv I q #v[])
  |bl j=>cases F;exact PySem.EqMixed.eq_str_bool (Bv I q #v[])
  |int j=>obtain⟨t',rfl⟩:=F;exact PySem.EqMixed.eq_str_int (Bv I q #v[])
  |str j=>obtain⟨t',rfl⟩:=F;exact eq_str (Bv I q S5)
  |_=>exact absurd (show false=true from J) o8
 |Eb i =>
  obtain⟨t,rfl⟩:=O;cases y with
  |Eb j=>obtain⟨t',rfl⟩:=F;exact PySem.W.eq_bytes (Bv I q TF)
  |_=>exact absurd (show false=true from J) o8
 |_=>cases y<;>exact absurd (show false=true from J) o8
theorem GF:B5 X (r6 .NotEq) nR:=by
 intro ge s σ H x y v u Q I O F h;obtain⟨J,q⟩:=h;cases x with
 |Ay =>
  cases O;cases y with
  |Ay=>cases F;exact PySem.EqNone.ne_none_none (Bv I q #v[])
  |bl j=>cases F;exact PySem.EqNone.ne_none_bool (Bv I q #v[])
  |int j=>obtain⟨t',rfl⟩:=F;exact PySem.EqNone.ne_none_int (Bv I q #v[])
  |str j=>obtain⟨t',rfl⟩:=F;exact PySem.EqNone.ne_none_str (Bv I q #v[])
  |_=>exact absurd (show false=true from J) o8
 |bl i =>
  cases O;cases y with
  |Ay=>cases F;exact PySem.EqNone.ne_bool_none (Bv I q #v[])
  |bl j=>cases F;exact ne_bool (Bv I q (congrArg not UD))
  |str j=>obtain⟨t',rfl⟩:=F;exact PySem.EqMixed.ne_bool_str (Bv I q #v[])
  |_=>exact absurd (show false=true from J) o8
 |int i =>
  obtain⟨t,rfl⟩:=O;cases y with
  |Ay=>cases F;exact PySem.EqNone.ne_int_none (Bv I q #v[])
  |int j=>obtain⟨t',rfl⟩:=F;exact ne_int (Bv I q (congrArg not Tv))
  |str j=>obtain⟨t',rfl⟩:=F;exact PySem.EqMixed.ne_int_str (Bv I q #v[])
  |_=>exact absurd (show false=true from J) o8
 |str i =>
  obtain⟨t,rfl⟩:=O;cases y with
  |Ay=>cases F;exact PySem.EqNone.ne_str_none (Bv I q #v[])
  |bl j=>cases F;exact PySem.EqMixed.ne_str_bool (Bv I q #v[])
  |int j=>obtain⟨t',rfl⟩:=F;exact PySem.EqMixed.ne_str_int (Bv I q #v[])
  |str j=>obtain⟨t',rfl⟩:=F;exact ne_str (Bv I q (congrArg not S5))
  |_=>exact absurd (show false=true from J) o8
 |Eb i =>
  obtain⟨t,rfl⟩:=O;cases y with
  |Eb j=>obtain⟨t',rfl⟩:=F;exact PySem.W.ne_bytes (Bv I q (congrArg not TF))
  |_=>exact absurd (show false=true from J) o8
 |_=>cases y<;>exact absurd (show false=true from J) o8
theorem Gq:B5 X (r6 .Lt) (EY λi j=>.bl (decide (i<j))):=P4 λ_ _ _ _ _ _ _ q=>lt_int q
theorem LD:B5 X (r6 .LtE) (EY λi j=>.bl (decide (i<=j))):=P4 λ_ _ _ _ _ _ _ q=>le_int q
theorem FF:B5 X (r6 .Gt) (EY λi j=>.bl (decide (j<i))):=P4 λ_ _ _ _ _ _ _ q=>gt_int q
theorem U8:B5 X (r6 .Is) (λx y H Q=>y=.Ay/\Q (.bl (decide (x=.Ay))) H):=by
 intro ge s σ H x y v u Q I F J h;obtain⟨rfl,q⟩:=h;cases J;refine is_none_gen (Bv I q ?_);cases x<;>first
  |(cases F;rfl)
  |(obtain⟨t,rfl⟩:=F;rfl)
theorem UX(b:Expr){op:CmpOp}(h:op≠.In:=by decide)(h2:op≠.NotIn:=by decide):vB op b=false:=by
 have J:(op == CmpOp.In)=false:=by cases op<;>first|rfl|exact absurd rfl h
 have F:(op == CmpOp.NotIn)=false:=by cases op<;>first|rfl|exact absurd rfl h2
 cases b<;>simp[vB,J,F]
theorem eV(ho:B5 X (r6 op) r)(O:PE X a ta)(hb:PE X b tb)(F:vB op b=false):PE X (.Compare a [op] [b] pos) (BK r ta tb):=by
 intro ge s σ H Q I h;exact wpAny_Compare1 (QS O hb I h λv u s2 x y H2 I2 J ry q=>ho ge s2 σ H2 x y v u Q I2 J ry q) F
def Pg(t:TE):TT:=λσ H Q=>t σ H λx H'=>Qh x H' Q
theorem eF(ho:B5 X (r6 op) r)(J:PE X a ta)(hb:PE X b tb)(F:vB op b=false):PT X (.Compare a [op] [b] pos) (Pg (BK r ta tb)):=by
 intro ge s σ H Q I h;refine aaN (AZ (J ge s σ H _ I h) λv O ⟨x,H1,I1,r1,q1⟩=>AZ (hb ge O σ H1 _ I1 q1) λu s2 ⟨y,H2,I2,r2,q2⟩=>
  AZ (ho ge s2 σ H2 x y v u _ I2 r1 r2 q2) λc s3 ⟨z,H3,I3,r3,k,e,q3⟩=>?_) F
 subst e;cases r3;exact t8 ⟨H3,I3,q3⟩
def WQ(K:ow)(x:V)(H:Hp)(k:Bool):Prop :=
 match x with
 |.Ay=>k=false
 |.bl b=>k=b
 |.int i=>k=(i != 0)
 |.str y=>y.length<=oR/\k=((y.length:Int) != 0)
 |.Eb y=>y.size<=oR/\k=((y.size:Int) != 0)
 |.ref p=>(∃xs,AJ K H p xs/\k=!xs.isEmpty)\/(∃xs,AH K H p xs/\k=!xs.isEmpty)\/∃ii,H p=some (.dK ii)/\k=!ii.isEmpty
 |_=>False
theorem YS(r:KV ii vs):(!vs.isEmpty)=!ii.isEmpty:=by
 cases r<;>rfl
theorem RA(r:Af xs its):(!its.toArray.isEmpty)=!xs.isEmpty:=by
 cases r<;>simp
theorem K6:(oR:Nat)<2 ^ 63:=by rw[pD];decide
theorem jR:mG X (λx H Q=>∃k,WQ X.K x H k/\Q k H):=by
 intro ge s σ H x v Q I J h;obtain⟨k,e,q⟩:=h;have hl:=K6;have hs:oR=16777216:=pD;cases x with
 |Ay =>
  cases J;have F:k=false:=e;subst F;exact truthy_none ⟨H,I,q⟩
 |bl b =>
  cases J;have F:k=b:=e;subst F;exact t8 ⟨H,I,q⟩
 |int i =>
  obtain⟨t,rfl⟩:=J;have F:k=(i != 0):=e;subst F;exact PySem.P.truthy_int ⟨H,I,q⟩
 |str y =>
  obtain⟨t,rfl⟩:=J;obtain⟨hy,F⟩:y.length<=oR/\k=((y.length:Int) != 0):=e;subst F;exact PySem.P.truthy_str () ⟨H,I.Cn _,q⟩
 |Eb y =>
  obtain⟨t,rfl⟩:=J;obtain⟨hy,F⟩:y.size<=oR/\k=((y.size:Int) != 0):=e;subst F;exact PySem.W.truthy_bytes () ⟨H,I.Cn _,q⟩
 |ref p =>
  cases J;have F:(∃xs,AJ X.K H p xs/\k=!xs.isEmpty)\/(∃xs,AH X.K H p xs/\k=!xs.isEmpty)\/∃ii,H p=some (.dK ii)/\k=!ii.isEmpty:=e;rcases F with ⟨xs,O,F⟩|⟨xs,O,F⟩|⟨ii,O,F⟩
  ·subst F;obtain⟨its,r,pl,hz⟩:=I.list O;have aa:=r.length;exact wpAny_truthy_list pl.isList (by simp only[oD];lia) ⟨H,I.Cn _,by rw[RA r];exact q⟩
  ·subst F;obtain⟨its,r,pl,hz⟩:=I.tuple O;have aa:=r.length;exact truthy_tuple pl (by simp only[oD];lia) ⟨H,I.Cn _,by rw[RA r];exact q⟩
  ·subst F;obtain⟨hz,hS,vs,r,m⟩:ii.length<=oR/\(p == ui)=false/\∃vs,KV ii vs/\s.heap.DictOf (Dn X.prog X.w) p vs:=I.AY p _ O;have aa:ii.length=vs.length:=aa5 r;exact wpAny_truthy_dict hS m () ⟨H,I.Cn _,by rw[YS r];exact q⟩
 |_=>exact(show False from e).elim
theorem Z7(J:PE X a ta)(he:∀F,isTrue a X.env F=(do let v <-F;standAt a.pos;holding [v] (truthy v))):
  PT X a (λσ H Q=>ta σ H λx H'=>∃k,WQ X.K x H' k/\Q k H'):=by
 intro ge s σ H Q I h;exact isTrue_plain (AZ (J ge s σ H _ I h) λv O ⟨x,H1,I1,r1,q1⟩=>jR ge O σ H1 x v Q I1 r1 q1) (he _)
theorem FI(r:Af [x] us):∃u,us=[u]/\Ao x u:=by
 cases r with
 |cons r1 r2=>cases r2;exact⟨_,G,r1⟩
theorem LK(r:Af [x,y] us):∃u F,us=[u,F]/\Ao x u/\Ao y F:=by
 cases r with
 |cons r1 r2 =>
  cases r2 with
  |cons r3 r4=>cases r4;exact⟨_,_,G,r1,r3⟩
theorem R5:Cr X (.builtin "abs") (λxs H Q=>∃i,xs=[.int i]/\Q (.int (if i<0 then -i else i)) H):=by
 intro ge s σ H xs F Q I r h;obtain⟨i,rfl,q⟩:=h;obtain⟨u,rfl,t,rfl⟩:=FI r;exact call_abs_int λu tk=>⟨.int (if i<0 then -i else i),H,I.Cn _,⟨_,G⟩,q⟩
theorem OC(J:X.B9=true):Cr X (.builtin "max") (λxs H Q=>∃i j,xs=[.int i,.int j]/\Q (.int (if j>i then j else i)) H):=by
 intro ge s σ H xs O Q I r h;obtain⟨i,j,rfl,q⟩:=h;obtain⟨u,w',rfl,⟨t,rfl⟩,⟨t',rfl⟩⟩:=LK r;refine max_two_ints (I.ok.hd J) λh' tk k=>⟨_,H,I.Bf k,?_,q⟩
 by_cases F:j>i
 ·rw[oH F,oH F];exact⟨_,G⟩
 ·rw[oC F,oC F];exact⟨_,G⟩
theorem OM(J:X.B9=true):Cr X (.builtin "min") (λxs H Q=>∃i j,xs=[.int i,.int j]/\Q (.int (if j<i then j else i)) H):=by
 intro ge s σ H xs O Q I r h;obtain⟨i,j,rfl,q⟩:=h;obtain⟨u,w',rfl,⟨t,rfl⟩,⟨t',rfl⟩⟩:=LK r;refine min_two_ints (I.ok.hd J) λh' tk k=>⟨_,H,I.Bf k,?_,q⟩
 by_cases F:j<i
 ·rw[oH F,oH F];exact⟨_,G⟩
 ·rw[oC F,oC F];exact⟨_,G⟩
end
structure QR(h:Heap)(x dx C:Addr)(mA:Str->Option Value):Prop where
 Cw:h.get? x=some (zV C dx)
 ns:h.Ns1 dx mA
 ne:dx≠x
theorem ZE{h:Heap}(n:h.Ns1 dx mA):∃od,h.get? dx=some od/\∀name,aaI name od=some (mA name):=by
 obtain⟨o,es,ep,ho,hd,hk,_,F⟩:=n;refine⟨o,ho,λname=>?_⟩;have e:=F name;unfold nsFind findBy at e;rw[<-Array.find?_toList]at e;unfold aaI;rw[hd];dsimp only;split
 ·rename_i y q
  rw[q]at e;exact congrArg some e
 ·rename_i q
  rw[q]at e;have a:es.toList.any (·.refKey)=false:=by
   rw[List.any_eq_false];intro y J;obtain⟨z,t,aa⟩:=hk y (Array.mem_toList_iff.mp J);simp[DictEntry.refKey,aa]
  have O:¬es.toList.any (·.refKey)=true:=by rw[a];exact o8
  rw[oC O];exact congrArg some e
theorem QR.Gv(I:QR h x dx C mA):∃od,PySem.W.InstAt h x (zV C dx) C (some od)/\∀name,aaI name od=some (mA name) :=
 let ⟨od,ho,hl⟩:=ZE I.ns
 ⟨od,⟨I.Cw,G,G,ho⟩,hl⟩
theorem Fo.TZ(r:Fo (some v) o):∃u,o=some u/\Ao v u:=by
 cases o with
 |none=>exact(show False from r).elim
 |some u=>exact⟨u,G,r⟩
section
variable {P:pG}{w:World}{H H':Hp}{h h':Heap}{a C dx:Addr}{fs fs':List (Str×V)}
theorem gR(J:Bp P w H h)(e:H a=some (.Fz C dx fs)):∃F,QR h a dx C F/\(∀f,Fo (fs.lookup f) (F f))/\PySem.Within F (fs.map (·.1))/\fs.length<=1000/\H dx=some (.EZ a):=by
 obtain⟨d,z,ne,O,F,n,r,q⟩:=(show BP P w H h a (.Fz C dx fs) from J a _ e);exact⟨F,⟨O,n,ne⟩,r,q,z,d⟩
end
structure QX(K:ow)(C:Addr):Prop where
 pg:acz K C Str.empty=true
 hd:PySem.W.hasDictIn K C=true
 po:PySem.W.plainOver K C=true
 sa:ac8 K (.ref C) "__setattr__" = some (some (.builtin "object.__setattr__"))
theorem QX.get{K:ow}(c:QX K C)(f:Str):acz K C f=true:=c.pg
section
variable {X:Cx}{ge:List (Addr×Obj)}{σ:St}{H:Hp}{s:oq}{A:qM}{E:Value->oq->Prop}{Q:Value->oq->Prop}{c:Value}{b:Bool}
inductive DR(K:ow)(H:Hp):V->Value->Prop where
 |Ay:DR K H .Ay (.type "NoneType")
 |bl (x:Bool):DR K H (.bl x) (.type "bool")
 |int (i:Int):DR K H (.int i) (.type "int")
 |str (x:Str):DR K H (.str x) (.type "str")
 |JJ (x:UInt64):DR K H (.JJ x) (.type "float")
 |AE {a:Addr} {xs:List V} (e:H a=some (.AE xs)):DR K H (.ref a) (.type "list")
 |EF {a:Addr} {o:Obj} {xs:List V} (e:H a=some (.EF o (.AE xs))):DR K H (.ref a) (.type "list")
 |AF {a:Addr} {xs:List V} (e:H a=some (.AF xs)):DR K H (.ref a) (.type "tuple")
 |dK {a:Addr} {ii:List (Aq×V)} (e:H a=some (.dK ii)):DR K H (.ref a) (.type "dict")
 |dT {a:Addr} {ii:List (List Aq×V)} (e:H a=some (.dT ii)):DR K H (.ref a) (.type "dict")
 | Fz {a C dx:Addr} {fs:List (Str×V)} (e:H a=some (.Fz C dx fs)) (cl:QX K C) (ha:ac8 K (.ref C) "__class__" = some (some (.builtin "object.__class__")))
   (O:PySem.W.specialIn K (.builtin "object.__class__") "__get__" = some (some (.builtin "getset_descriptor.__get__"))) (F:PySem.W.takesIn K (.builtin "object.__class__")=some true)
   (J:PySem.W.mroIn K C (.type "object")=some true):DR K H (.ref a) (.ref C)
theorem ZY{x:V}{u t:Value}(I:AI X ge σ H s)(F:Ao x u)(ty:DR X.K H x t)(e:wY X.K t c=some b)(h:∀tk,Q (.bool b) { s with toks:=tk}):
  wpAny (model X.prog X.w) A (call (.builtin "isinstance") [u,c]) Q E s:=by
 cases ty with
 |Ay=>cases (show u=qQ from F);exact rX PySem.W.kitx_none I.Dl uh e (λz=>nomatch z) h
 |bl y=>cases (show u=uO y from F);exact rX PySem.W.kitx_bool I.Dl uh e (λz=>nomatch z) h
 |int i=>obtain⟨t,q⟩:=(show ∃t,u=vZ i t from F);cases q;exact rX PySem.W.kitx_int I.Dl uh e (λz=>nomatch z) h
 |str y=>obtain⟨t,q⟩:=(show ∃t,u=abI y t from F);cases q;exact rX PySem.W.kitx_str I.Dl uh e (λz=>nomatch z) h
 |JJ y=>obtain⟨t,q⟩:=(show ∃t,u=Value.float y t from F);cases q;exact rX PySem.W.kitx_float I.Dl uh e (λz=>nomatch z) h
 |@AE a xs ea =>
  cases (show u=qA a from F);obtain⟨_,_,n,_,h1⟩:=(show BP X.prog X.w H s.heap a (.AE xs) from I.AY a _ ea);exact rX ab3 I.Dl ⟨_,h1,G⟩ e (λz=>nomatch z) h
 |@EF a ob xs ea =>
  cases (show u=qA a from F);obtain⟨_,_,_,n,_,h1⟩:=(show BP X.prog X.w H s.heap a (.EF ob (.AE xs)) from I.AY a _ ea);exact rX ab3 I.Dl ⟨_,h1,G⟩ e (λz=>nomatch z) h
 |@AF a xs ea =>
  cases (show u=qA a from F);obtain⟨_,_,_,p,_⟩:=(show BP X.prog X.w H s.heap a (.AF xs) from I.AY a _ ea);obtain⟨o,h1,h2,_⟩:=p;exact rX PySem.W.kitx_tuple I.Dl ⟨o,h1,h2⟩ e (λz=>nomatch z) h
 |@dK a ii ea =>
  cases (show u=qA a from F);obtain⟨_,_,vs,_,p⟩:=(show BP X.prog X.w H s.heap a (.dK ii) from I.AY a _ ea);obtain⟨o,es,ep,h1,h2,_⟩:=p;exact rX ab2 I.Dl ⟨o,h1,h2.1⟩ e (λz=>nomatch z) h
 |@dT a ii ea =>
  cases (show u=qA a from F);obtain⟨_,_,xs,_,o,es,ep,h1,h2,_⟩:=(show BP X.prog X.w H s.heap a (.dT ii) from I.AY a _ ea);exact rX ab2 I.Dl ⟨o,h1,h2.1⟩ e (λz=>nomatch z) h
 |@Fz a C dx fs ea cl ha hn htk hm =>
  cases (show u=qA a from F);obtain⟨mA,O,_⟩:=gR I.AY ea;obtain⟨od,J,_⟩:=O.Gv;exact rX (PySem.W.kitx_own (cl.get _) cl.hd ha hn htk hm) I.Dl J e (λz=>nomatch z) h
end
structure Room(k:Nat)(A:qM):Prop where
 hd:A.handled=none
 dp:A.depth+3*k+5<recursionLimit
 un:A.units+16*k+200<cLine
theorem Room.mono(r:Room k A)(h:j<=k):Room j A:=⟨r.hd,by have:=r.dp;lia,by have:=r.un;lia⟩
theorem Room.deeper(r:Room (k+1) A)(env:Env):Room k (A.deeper env) :=
 ⟨r.hd,by have:=r.dp;show A.depth+1+3*k+5<_;lia,by have:=r.un;show A.units+3+16*k+200<_;lia⟩
theorem Room.in1(r:Room (k+1) A):Room k A.in1 :=
 ⟨r.hd,by have:=r.dp;show A.depth+3*k+5<_;lia,by have:=r.un;show A.units+1+16*k+200<_;lia⟩
theorem Room.depth(r:Room k A):A.depth<recursionLimit:=by have:=r.dp;omega
theorem Room.units(r:Room k A):A.units+64<cLine:=by have:=r.un;lia
def Ba:TA:=λ_ H Q=>Q [] H
def A7(ta:TE)(F:TA):TA:=λσ H Q=>ta σ H λx H1=>F σ H1 λxs H2=>Q (x :: xs) H2
section
variable {X:Cx}{e:Expr}{es:List Expr}{te:TE}{t:TA}{pos:Pos}
theorem AD:PA X [] Ba:=λ_ _ _ _ H Q I h=>abV ⟨[],H,I,.nil,h⟩
theorem AA(F:PE X e te)(hr:PA X es t)(hs:pK (e :: es) X.env=(false,eval e X.env) :: pK es X.env:=by rfl):PA X (e :: es) (A7 te t):=by
 intro pos ge s σ H Q I h;rw[hs];show wpAny _ _ (spliced ((false,eval e X.env) :: uD pos (pK es X.env))) _ _ s;refine abn (AZ (F ge s σ H _ I h) λu J ⟨x,H1,I1,O,q1⟩=>?_);exact AZ (hr pos ge J σ H1 _ I1 q1) λus s2 ⟨xs,H2,I2,r2,q2⟩=>⟨x :: xs,H2,I2,.cons O r2,q2⟩
inductive Vt(xs:List V)(H:Hp)(Q:VK):Prop
 |mk (n:xs.length<=oR) (q:∀p,H p=none->Q (.ref p) (AG H p (.AF xs))):Vt xs H Q
inductive Vj(xs:List V)(H:Hp)(Q:VK):Prop
 |mk (n:xs.length<=oR) (q:∀p,H p=none->Q (.ref p) (AG H p (.AE xs))):Vj xs H Q
def JB(t:TA):TE:=λσ H Q=>t σ H λxs H1=>Vt xs H1 Q
def LV(t:TA):TE:=λσ H Q=>t σ H λxs H1=>Vj xs H1 Q
theorem BB{x1}(h:PA X es t):PE X (.Tuple es x1 pos) (JB t):=by
 intro ge s σ H Q I hq;refine wpAny_Tuple_spliced (AZ (h pos ge s σ H _ I hq) λus F ⟨xs,H1,J,r,z,q⟩=>⟨by rw[<-r.length];exact z,?_⟩);have O:H1 F.heap.objs.size=none:=J.AY.fresh (oz _);refine⟨.ref F.heap.objs.size,AG H1 F.heap.objs.size (.AF xs),J.laid (t':=F.toks) (λb u e=>oo _ e) (oz _) ?_,G,q _ O⟩;exact⟨z,us,r,⟨_,oJ _ rfl,G,_,G⟩,_,oJ _ rfl,G⟩
theorem CJ(h:PA X es t):PE X (.List es pos) (LV t):=by
 intro ge s σ H Q I hq;refine wpAny_List_spliced (AZ (h pos ge s σ H _ I hq) λus F ⟨xs,H1,J,r,z,q⟩=>⟨by rw[<-r.length];exact z,?_⟩);have O:H1 F.heap.objs.size=none:=J.AY.fresh (oz _);refine⟨.ref F.heap.objs.size,AG H1 F.heap.objs.size (.AE xs),J.laid (t':=F.toks) (λb u e=>oo _ e) (oz _) ?_,G,q _ O⟩;exact⟨z,us,0,r,oJ _ rfl⟩
end
abbrev Sp:=List V->Hp->VK->XK->Prop
abbrev IE:=List Env->Hp->oq->XK->Value->oq->Prop
structure IA(P:pG)(w:World)(K:ow)(mg:Str->Option Value)(base:Heap)(A:qM)(outer:List Env)(s:oq)(H:Hp):Prop where
 frames:A.frames=some outer
 Cv:Mod K mg base
 bs:∀b o,base.get? b=some o->s.heap.get? b=some o/\H b=none
 GW:base.objs.size<=s.heap.objs.size
 Ew:s.heap.FunFrames base outer
 IJ:∀b∈F3 outer,H b=none
 AY:Bp P w H s.heap
 C5:xx s.gens
def CE(F:List Env)(P:pG)(w:World)(H:Hp)(s:oq)(Q:VK)(u:Value)(s':oq):Prop :=
 ∃v H',s'.os=s.os/\xx s'.gens/\Un (F3 F) [] H H' s.heap s'.heap/\Bp P w H' s'.heap/\Ao v u/\Q v H'
def CR(CX:IE)(F:List Env)(P:pG)(w:World)(H:Hp)(s:oq)(Q:VK)(E:XK)(r:Result)(s':oq):Prop :=
 match r with
 |.ok (.ret u)=>CE F P w H s Q u s'
 |.ok _=>False
 |.error e=>CX F H s E e s'
structure Ai(P:pG)(w:World)(K:ow)(mg:Str->Option Value)(base:Heap)(CX:IE)(k:Nat)(f:Addr)(fd:qU)(ps:List Str)(sp:Sp):Prop where
 len:∀vs H Q E,sp vs H Q E->vs.length=ps.length
 XH:∀(A:qM) (outer:List Env) (s:oq) (H:Hp) (args:Args) (us:List Value) (vs:List V) (Q:VK) (E:XK),Room k A->IA P w K mg base A outer s H->aau s fd args (ps.zip us)->Af vs us->sp vs H Q E →
  vV (model P w) A (.call (.ref f) args) (CR CX outer P w H s Q E) s
theorem IA.in1{K:ow}(e:IA P w K mg base A outer s H):
  IA P w K mg base A.in1 outer s H:=⟨e.frames,e.Cv,e.bs,e.GW,e.Ew,e.IJ,e.AY,e.C5⟩
section
variable {X:Cx}{ge:List (Addr×Obj)}{σ:St}{H:Hp}{s s':oq}
theorem AI.Wt(I:AI X ge σ H s):IA X.prog X.w X.K X.mg X.base X.A X.DE s H :=
 ⟨I.ok.frames,I.ok.Cv,I.bs,oO I.ok.GW I.sz,I.DE,I.Te,I.AY,I.C5⟩
theorem AI.after(I:AI X ge σ H s)(h:CE X.DE X.prog X.w H s Q u s'):EP X ge σ Q u s':=by
 obtain⟨v,H',os,aa,un,F,r,q⟩:=h;obtain⟨O,g,d,t,J⟩:=s';obtain rfl:J=s.os:=os;exact⟨v,H',I.call (h':=O) (g':=g) (d':=d) (t':=t) (ch:=[]) un F aa (λb z=>absurd z #v[]),r,q⟩
end
def DO(sp:Sp)(dvs:List V)(E:XK)(t:TA):TE:=λσ H Q=>t σ H λvs H1=>sp (vs++dvs) H1 Q E
def Eo(K:ow)(fd:qU)(ps:List Str)(ds:List Value):Prop :=
 ∀(s:oq) (F:List Value),K.In s.heap->(F++ds).length=ps.length->aau s fd ⟨F,[]⟩ (ps.zip (F++ds))
theorem Eo.all{K:ow}(h:∀F:List Value,F.length=ps.length->wc fd ⟨F,[]⟩=pure (ps.zip F)):Eo K fd ps []:=λs F _ J=>by
 rw[qS]at J ⊢;exact .of_eq (h F J)
def PY(CX:IE)(X:Cx)(E:XK):Prop:=∀(ge:List (Addr×Obj)) (σ:St) (H:Hp) (s:oq) (e:Value) (s':oq),AI X ge σ H s->CX X.DE H s E e s'->X.xe e s'
section
variable {X:Cx}{CX:IE}{k:Nat}{f C:Addr}{fd:qU}{ps:List Str}{sp:Sp}{dvs:List V}{ds:List Value}{E:XK}{x m:Str}{p pos apos:Pos}{e o:Expr}{es:List Expr}{ta:TE}{t:TA}
theorem i9 (F:Ai X.prog X.w X.K X.mg X.base CX k f fd ps sp)(hr:Room k X.A)(hb:Eo X.K fd ps ds)(hd:Af dvs ds)(hx:PY CX X E)
  (I:AI X ge σ H s)(r:Af vs us)(h:sp (vs++dvs) H Q E):wpAny (model X.prog X.w) X.A (call (.ref f) us) (EP X ge σ Q) X.xe s:=by
 have O:Af (vs++dvs) (us++ds):=r.append hd;have hl:(us++ds).length=ps.length:=by rw[<-O.length];exact F.len _ _ _ _ h
 refine ac2 (vW (F.XH X.A X.DE s H ⟨us,[]⟩ (us++ds) (vs++dvs) Q E hr I.Wt (hb s us I.Dl hl) O h) λr s' J=>?_);cases r with
 |error e=>exact hx ge σ H s e s' I J
 |ok fl =>
  cases fl with
  |ret u=>exact I.after J
  |next=>exact qP J
  |brk=>exact qP J
  |cont=>exact qP J
theorem dA (F:Ai X.prog X.w X.K X.mg X.base CX k f fd ps sp)(hr:Room k X.A)(hg:Gl X x)(O:X.mg x=some (.ref f))(hk:yh X.K (.ref f)=true)(hb:Eo X.K fd ps ds)(hd:Af dvs ds)(hx:PY CX X E)
  (ha:PA X (e :: es) t)(aa:(x == ("__debug__":Str))=false:=by decide)(he:pK (e :: es) X.env=(false,eval e X.env) :: pK es X.env:=by rfl)(ab:(uD pos (pK es X.env)).any (·.1)=false:=by rfl) :
  PE X (.Call (.Name x p) (e :: es) [] pos) (DO sp dvs E t):=by
 intro ge s σ H Q I h;refine uv (dC I hg O ?_ aa);refine PySem.W.callWith_K (h₀:=X.base) I.ok.Cv.Ql hk (AZ (ha pos ge s σ H _ I h) λus s1 ⟨vs,H1,J,r,q⟩=>⟨J.Dl,?_⟩) he ab;exact i9 F hr hb hd hx J r q
end
structure An(N P:List Str)(sc:Scope):Prop where
 kind:sc.kind=.function
 co:sc.isCoroutine=false
 Qn:sc.isGenerator=false
 nd:N.Nodup
 pre:N.take P.length=P
 XY:∀x∈P,sc.names.lookup x=some .local\/sc.names.lookup x=some .cell
 gn:∀y∈sc.names,y.2≠.free
abbrev KP(K:ow)(f:Addr):Prop:=yh K (.ref f)=true
theorem Fx:0<=oR:=by decide
theorem IL:1<=oR:=by decide
theorem CI:2<=oR:=by decide
theorem Dd:3<=oR:=by decide
theorem Dz:4<=oR:=by decide
theorem nO:5<=oR:=by decide
theorem RU{O:Str->Option aaX}:∀{F:List (Str×Value)} {m:Str->Option Value},(∀v,(x,v)∉F)->bindL O F m x=m x
 |[],_,_=>rfl
 |(n,v) :: r,m,h=>by
  unfold bindL;rw[RU λw J=>h w (pF _ J)];split
  ·have:x≠n:=by rintro rfl;exact h v rh
   simp[this]
  ·rfl
theorem RW{O:Str->Option aaX}:∀{F:List (Str×Value)} {m:Str->Option Value},(∀v,(x,v)∉F)->bindC O F m x=m x
 |[],_,_=>rfl
 |(n,v) :: r,m,h=>by
  unfold bindC;rw[RW λw J=>h w (pF _ J)];split
  ·rfl
  ·have:x≠n:=by rintro rfl;exact h v rh
   simp[this]
theorem Rt{F:Str->Option aaX}:∀{P:List Str} {vs:List Value} {i:Nat} {m:Str->Option Value},P.Nodup->P[i]?=some x->vs[i]?=some v->F x=some .local →
  bindL F (P.zip vs) m x=some v
 |[],_,_,_,_,h,_,_=>by simp at h
 |_ :: _,[],_,_,_,_,h,_=>by simp at h
 |p :: P,w :: vs,0,m,nd,h1,h2,hk=>by
  simp at h1 h2;subst h1;subst h2;show bindL F ((p,w) :: P.zip vs) m p=_;unfold bindL;rw[RU λv J=>(qt.mp nd).1 (xN J).1,oH hk];simp
 |p :: P,w :: vs,i+1,m,nd,h1,h2,hk=>by
  show bindL F ((p,w) :: P.zip vs) m x=_;unfold bindL;exact Rt (i:=i) (qt.mp nd).2 (by simpa using h1) (by simpa using h2) hk
theorem Ru{F:Str->Option aaX}:∀{P:List Str} {vs:List Value} {i:Nat} {m:Str->Option Value},P.Nodup->P[i]?=some x->vs[i]?=some v->F x≠some .local →
  bindC F (P.zip vs) m x=some v
 |[],_,_,_,_,h,_,_=>by simp at h
 |_ :: _,[],_,_,_,_,h,_=>by simp at h
 |p :: P,w :: vs,0,m,nd,h1,h2,hk=>by
  simp at h1 h2;subst h1;subst h2;show bindC F ((p,w) :: P.zip vs) m p=_;unfold bindC;rw[RW λv J=>(qt.mp nd).1 (xN J).1,oC hk];simp
 |p :: P,w :: vs,i+1,m,nd,h1,h2,hk=>by
  show bindC F ((p,w) :: P.zip vs) m x=_;unfold bindC;exact Ru (i:=i) (qt.mp nd).2 (by simpa using h1) (by simpa using h2) hk
def GC(N:List Str)(vs:List V):St:=vs.map some++oE (N.length-vs.length) none
def IB(CX:IE)(P:pG)(w:World)(K:ow)(mg:Str->Option Value)(base:Heap)(N:List Str)(qual:Str)(scope:Scope)(f:Addr)(F:Value)(A:qM)(outer:List Env)(s:oq)(H:Hp)(E:XK):Cx where
 prog:=P
 w:=w
 K:=K
 mg:=mg
 base:=base
 A:=A.deeper (xS qual scope s.heap.objs.size f F)
 N:=N
 s₀:=s
 H₀:=H
 env:=xS qual scope s.heap.objs.size f F
 outer:=outer
 DE:=xS qual scope s.heap.objs.size f F :: outer
 ex:=[]
 B9:=true
 fn:=λ_=>true
 pn:=[]
 xe:=λe s'=>wpAny (model P w) (A.deeper (xS qual scope s.heap.objs.size f F)) (leaving (xS qual scope s.heap.objs.size f F) e) (λ_ J=>CX outer H s E e J) (λO J=>CX outer H s E O J) s'
theorem Ry{F:Scope}(h:F.names.lookup x=some .cell):∃c,(zX n F.names []).lookup x=some c:=by
 have q:=aai F.names n [] (.inl h);exact ve.mp q
theorem Zd {K:ow}
  (S:An N ps scope)(hd:A.handled=none)(F:IA P w K mg base A outer s H)(hl:vs.length=ps.length)(r:Af vs us)
  (x:InCallC s s.heap.objs.size (bindL (xS qual scope s.heap.objs.size f cd).kindOf (ps.zip us) λ_=>none) (zX (s.heap.objs.size+1) scope.names []) (bindC (xS qual scope s.heap.objs.size f cd).kindOf (ps.zip us) λ_=>none) s1) :
  AI (IB CX P w K mg base N qual scope f cd A outer s H E) [] (GC N vs) H s1:=by
 have ab:ps.length<=N.length:=by have:=congrArg uf S.pre;rw[pN]at this;lia
 obtain⟨h1,tk,rfl,hk⟩:=x.done;have O:∀b:Addr,b∉(IB CX P w K mg base N qual scope f cd A outer s H E).ex:=λb z=>absurd (show b∈([]:List Addr) from z) #v[]
 exists ⟨F.Cv,S.kind,G,G,oz _,λy z c h1 h2=>?_,λy hy=>?_,λy c _ h=>?_,λ_=>hd,aaS F.frames,.inr ⟨G,G⟩,λb z=>absurd z (O b),F.bs,F.GW,λb _ _=>O b,λb z=>absurd z (O b),F.Ew,F.IJ⟩,
  rfl,F.C5,Un.Bf hk,⟨_,x.toInCall.ns,λi y v h1 h2 h3=>?_⟩,λy c h=>⟨_,x.cell y c h⟩,F.AY.fresh (oz _),λy c h=>?_,λp J=>absurd (show p∈([]:List (Addr×Obj)) from J) #v[],F.AY.Bf hk
 ·exact name_of_addr x.apart (sR h1) (sR h2)
 ·have hy:scope.names.lookup y=some .cell\/scope.names.lookup y=some .free:=hy;rcases hy with hy|hy
  ·exact Ry hy
  ·exact absurd rfl (S.gn _ (sR hy))
 ·exact va (x.above y c (sR h))
 ·have hi:i<vs.length:=by
   unfold GC at h2;by_cases hi:i<vs.length
   ·exact hi
   ·rw[pE (by simpa using hi)]at h2;rw[tK]at h2;split at h2<;>cases h2
  have ha:vs[i]?=some v:=by
   unfold GC at h2;rw[pR (by simpa using hi),om]at h2;cases e:vs[i]? with
   |none=>rw[e]at h2;cases h2
   |some a=>rw[e]at h2;cases h2;rfl
  obtain⟨u,hu,rv⟩:=r.get ha;have J:ps[i]?=some y:=by
   rw[<-S.pre,List.getElem?_take_of_lt ()];exact h1
  have aa:ps.Nodup:=by rw[<-S.pre];exact S.nd.sublist (ab1 _ _)
  exists u,rv;rcases S.XY y (oi J)with k|k
  ·exact .inl ⟨k,Rt aa J hu k⟩
  ·obtain⟨c,e⟩:=Ry (n:=s.heap.objs.size+1) k;refine .inr ⟨.inl k,c,e,?_⟩;have q:=x.cell y c e;rw[Ru aa J hu (by show scope.names.lookup y≠_;rw[k];decide)]at q;exact q
 ·exact F.AY.fresh (va (x.above y c (sR h)))
 ·unfold GC;show _=N.length;rw[oF,kb,xB]
  lia
theorem VL {CX:IE}{P:pG}{w:World}{K:ow}{mg:Str->Option Value}{base:Heap}{k:Nat}{f:Addr}{name qual:Str}{params:vC}{body:List Stmt}{scope:Scope}{dV kV doc pm im ct oc:Value}{an od:Option Addr}
  {osl:Array (Option Value)}{N ps:List Str}{sp:Sp}(lk:K.lookup f=some ⟨oc,od,.func (sZ name qual params body scope dV kV doc pm an im ct),osl⟩)(ae:yg K im qual=true)(S:An N ps scope)
  (ab:∀vs H Q E,sp vs H Q E->vs.length=ps.length)
  (ag:∀(A:qM) (O:List Env) (s:oq) (H:Hp) (vs:List V) (Q:VK) (E:XK),Room k (A.deeper (xS qual scope s.heap.objs.size f im))->sp vs H Q E →
   ∃t,Cd (IB CX P w K mg base N qual scope f im A O s H E) body t/\t { nx:=λ_ H'=>Q .Ay H',rt:=Q} (GC N vs) H) :
  Ai P w K mg base CX (k+1) f (sZ name qual params body scope dV kV doc pm an im ct) ps sp:=by
 refine⟨ab,λA O s H args us vs Q E hr e0 hb r aa=>?_⟩;have hl:=ab _ _ _ _ aa;have KX:K.In s.heap:=e0.Cv.Ql.keeps λb o e=>(e0.bs b o e).1
 have af:s.heap.NoLimit:=e0.Cv.nolimit.keeps λb o e=>(e0.bs b o e).1
 have ad:∀y∈ps.zip us,scope.names.lookup y.1=some .local\/(scope.names.lookup y.1=some .cell/\((zX (s.heap.objs.size+1) scope.names []).lookup y.1).isSome=true):=λ⟨n,v⟩ hy=>by
  rcases S.XY n (xN hy).1 with q|q
  ·exact .inl q
  ·exact .inr ⟨q,aai _ _ _ (.inl q)⟩
 refine codeAny_call_function hr.depth (KX _ _ lk) rfl S.co S.Qn rfl (PySem.W.codeRec_of KX ae) (hb _ _ _ _ ?_);refine wpAny_newFunctionEnv_cells S.kind ad λenv he s1 x=>?_
 subst he;refine⟨af.keeps x.toInCall.keep,codeAny_func ?_⟩;obtain⟨t,ht,hq⟩:=ag A O s H vs Q E (hr.deeper _) aa;have I:AI (IB CX P w K mg base N qual scope f im A O s H E) [] (GC N vs) H s1:=Zd S hr.hd e0 hl r x;refine qR (ht [] s1 (GC N vs) H _ I hq) (λfl s' F=>?_) λe s' F=>F
 have ac:∀{σ':St} {H':Hp} {v:V} {u:Value},AI (IB CX P w K mg base N qual scope f im A O s H E) [] σ' H' s'->Ao v u->Q v H'->CE O P w H s Q u s' :=
  λ{σ' H' v u} J rv q=>⟨v,H',J.os,J.C5,J.base,J.AY,rv,q⟩
 cases fl with
 |ret u =>
  obtain⟨v,σ',H',J,rv,q⟩:=F;exact ac J rv q
 |next =>
  obtain⟨σ',H',J,q⟩:=F;exact ac (v:=V.Ay) (u:=qQ) J rfl q
 |brk =>
  obtain⟨_,_,_,q⟩:=F;exact qP q
 |cont =>
  obtain⟨_,_,_,q⟩:=F;exact qP q
section
variable {X:Cx}{x:Str}{p pos:Pos}{e:Expr}{es:List Expr}{t:TA}{id T:String}{r:List V->Hp->VK->Prop}
def JK(r:List V->Hp->VK->Prop)(t:TA):TE:=λσ H Q=>t σ H λvs H1=>r vs H1 Q
theorem CA (hc:Cr X (.builtin id) r)(hg:Gl X x)(F:X.mg x=none)(hv:qY x=some (.builtin id))(J:PA X (e :: es) t)(hn:x≠"__name__":=by decide)(aa:(x == ("__debug__":Str))=false:=by decide)
  (he:pK (e :: es) X.env=(false,eval e X.env) :: pK es X.env:=by rfl)(ab:(uD pos (pK es X.env)).any (·.1)=false:=by rfl):PE X (.Call (.Name x p) (e :: es) [] pos) (JK r t):=by
 intro ge s σ H Q I h;refine uv (FC I hg F hv ?_ hn aa);exact PyProof.Rows.callWith_builtin1 (AZ (J pos ge s σ H _ I h) λus O ⟨vs,H1,I1,r1,q1⟩=>hc ge O σ H1 vs us Q I1 r1 q1) he ab
theorem D5 (hc:Cr X (.type T) r)(hg:Gl X x)(F:X.mg x=none)(hv:qY x=some (.type T))(J:PA X (e :: es) t)(hn:x≠"__name__":=by decide)(aa:(x == ("__debug__":Str))=false:=by decide)
  (he:pK (e :: es) X.env=(false,eval e X.env) :: pK es X.env:=by rfl)(ab:(uD pos (pK es X.env)).any (·.1)=false:=by rfl):PE X (.Call (.Name x p) (e :: es) [] pos) (JK r t):=by
 intro ge s σ H Q I h;refine uv (FC I hg F hv ?_ hn aa);exact rE (AZ (J pos ge s σ H _ I h) λus O ⟨vs,H1,I1,r1,q1⟩=>hc ge O σ H1 vs us Q I1 r1 q1) he ab
end
end L2
namespace HT
open PySem PyProof.Rows
section
open PySem.SeqAt
open PySem.AutoSeq1 (wpAny_loadPart')
open PySem.MeetsSeq PySem.MeetsSeq2 PySem.MeetsSeq3
end
section
variable {prog:pG}{w:World}{A:qM}{E:Value->oq->Prop}{s:oq}
theorem eK {t b:Addr}{vs J:List Value}{Q:Value->oq->Prop}(ht:IsTup s.heap t vs.toArray)(hb:IsTup s.heap b J.toArray)(hv:vs≠[])
  (h1:J=[]->Q (.ref t) s)(h2:J≠[]->Q (.ref s.heap.objs.size) { s with heap:=s.heap.push { cls:=.type "tuple",data:=.seq (vs++J).toArray}})
  (hsz:vs.length+J.length<=oR):wpAny (model prog w) A (ud .Add (.ref t) (.ref b)) Q E s:=by
 obtain⟨⟨cls,dd,data,sl⟩,ho,hc,n,hd⟩:=id ht;obtain⟨⟨ae,ab,af,ac⟩,O,ad,n2,aa⟩:=id hb;simp only at hc hd ad aa;subst hc hd ad aa;have e:vs.toArray++J.toArray=(vs++J).toArray:=by simp
 by_cases hw:J=[]
 ·exact concat_meets ⟨_,ho,G⟩ ⟨_,O,G⟩ noFill_tuple_add seq_tuple_add aah zQ (zq _ _)
   (tuple_addW1 t b vs.toArray J.toArray n n2 dd ab sl ac (by simpa using hv) (by simp[hw])) ⟨ho,O,h1 hw⟩
 ·refine concat_meets ⟨_,ho,G⟩ ⟨_,O,G⟩ noFill_tuple_add seq_tuple_add aah zQ (zq _ _)
   (tuple_addW2 t b vs.toArray J.toArray n n2 dd ab sl ac (by simpa using hv) (by simpa using hw) (by rw[oD,oD];exact hsz)) ⟨ho,O,?_⟩
  rw[e];exact h2 hw
def Ad(n d:Nat):Option Int->Nat
 |none=>d
 |some v=>if v<0 then (v+(n:Int)).toNat else min v.toNat n
theorem iP(n d:Nat)(hd:d<=n)(o:Option Int):Ad n d o<=n:=by
 cases o with
 |none=>exact hd
 |some v =>
  show(if v<0 then (v+(n:Int)).toNat else min v.toNat n)<=n;by_cases F:v<0
  ·rw[oH F];lia
  ·rw[oC F];exact Nat.min_le_right _ _
theorem S9(v:Int)(n d:Nat):(if v<0 then max (v+(n:Int)) 0 else min v (n:Int))=((Ad n d (some v):Nat):Int):=by
 show(if v<0 then max (v+(n:Int)) 0 else min v (n:Int))=(((if v<0 then (v+(n:Int)).toNat else min v.toNat n):Nat):Int);by_cases F:v<0
 ·simp only[oH F];lia
 ·simp only[oC F];lia
theorem YK(lo hi:Option Int)(n:Nat):wD lo hi 1 (n:Int)=(((Ad n 0 lo:Nat):Int),((Ad n n hi:Nat):Int)):=by
 have h1:¬((1:Int)<0):=by omega
 unfold wD;simp only[h1,wj];refine Prod.ext ?_ ?_
 ·cases lo with
  |none=>rfl
  |some v=>exact S9 v n 0
 ·cases hi with
  |none=>rfl
  |some v=>exact S9 v n n
theorem YL(i j:Nat):uH (i:Int) (j:Int) 1=j-i:=by
 unfold uH;have h1:(1:Int)>0:=()
 simp only[h1,if_true,Int.ediv_one];split<;>lia
theorem Qv(p:xJ v o)(h:Q o s):wpAny (model prog w) A (oY.Slice.slicePartIndex v) Q E s:=by
 cases p with
 |none=>exact slicePart_none h
 |int i t=>exact slicePart_int h
theorem Qq {sl:Addr}{vl F:Value}{lo hi:Option Int}{n:Nat}(hs:s.heap.IsSliceOf sl vl F .none)(pl:xJ vl lo)(pu:xJ F hi)
  (h:Q (((Ad n 0 lo:Nat):Int),1,Ad n n hi-Ad n 0 lo) s):wpAny (model prog w) A (yE (.ref sl) (pure (n:Int))) Q E s:=by
 obtain⟨os,O,aa,J⟩:=id hs;unfold yE oY.Slice.sliceFields;refine oa (oa (rY O J (x:=vl) rfl (oa (rY O J (x:=F) rfl (oa (rY O J (x:=.none) rfl (ou ?_)))))));refine oa (slicePart_none ?_);show wpAny _ _ (if ((1:Int) == 0)=true then _ else _) _ _ s;rw[oC ∅];refine oa (Qv pl (oa (Qv pu (oa (ou ?_)))));show wpAny _ _ (match wD lo hi 1 (n:Int)with|(lo,hi)=>pure (lo,(1:Int),uH lo hi 1)) _ _ s;rw[YK lo hi n];show wpAny _ _ (pure (((Ad n 0 lo:Nat):Int),(1:Int),uH ((Ad n 0 lo:Nat):Int) ((Ad n n hi:Nat):Int) 1)) _ _ s;rw[YL];exact ou h
theorem Zo(xs:Array Value)(i k:Nat):((oN k).filterMap λ(m:Nat)=>xs[((i:Int)+(m:Int)*1).toNat]?).toArray=((xs.toList.drop i).take k).toArray:=by
 have e:(λ(m:Nat)=>xs[((i:Int)+(m:Int)*1).toNat]?)=λm=>xs[i+m]?:=by
  funext m
  have:((i:Int)+(m:Int)*1).toNat=i+m:=()
  rw[this]
 rw[e]
 have:=pick_run xs i k
 rw[List.filterMap_map]at this;have F:((λx=>xs[x]?) ∘ λx=>i+x)=λm=>xs[i+m]?:=rfl
 rw[F]at this;rw[this]
theorem XZ {t sl:Addr}{items:Array Value}{vl O:Value}{lo hi:Option Int}{Q:Value->oq->Prop}(F:IsTup s.heap t items)(hs:s.heap.IsSliceOf sl vl O .none)(pl:xJ vl lo)(pu:xJ O hi)
  (hw:¬(Ad items.size 0 lo=0/\Ad items.size items.size hi=items.size))
  (h:Q (.ref s.heap.objs.size) { s with heap:=s.heap.push { cls:=.type "tuple",data:=.seq ((items.toList.drop (Ad items.size 0 lo)).take (Ad items.size items.size hi-Ad items.size 0 lo)).toArray}})
  (hsz:items.size<=oR):wpAny (model prog w) A (wZ (.ref t) (.ref sl)) Q E s:=by
 have J:sizeOk (.seq ((items.toList.drop (Ad items.size 0 lo)).take (Ad items.size items.size hi-Ad items.size 0 lo)).toArray):=by
  show((items.toList.drop (Ad items.size 0 lo)).take (Ad items.size items.size hi-Ad items.size 0 lo)).toArray.size<=oR;rw[oD,pN,pS,qm];omega
 have hj:Ad items.size items.size hi<=items.size:=iP _ _ (oz _) hi;obtain⟨os,ab,ac,ae⟩:=id hs;have ad:s.TypeIs (.ref sl) "slice":=⟨os,ab,ac⟩;unfold wZ
 try with_reducible refine qW ?_
 first|refine oa (ou ?_)|skip
 refine oa (ab9 F.typeIs ∅ ?_);refine oa (si (name:=tq "__getitem__") F.typeIs rP
  (sk rP F.typeIs abk ?_ (abJ _ _)))
 show wpAny _ _ (yF (.ref t) >>= _) _ _ s;refine oa (tupleItemsOf_ F ?_);refine oa (wV ad ?_);rw[oH ∅];refine oa (Qq hs pl pu ?_);have aa:¬((((Ad items.size 0 lo:Nat):Int) == 0 && (1:Int) == 1 && (Ad items.size items.size hi-Ad items.size 0 lo) == items.size)=true):=by
  intro q;rw[sj,sj]at q;have q1:((Ad items.size 0 lo:Nat):Int)=0:=eq_of_beq q.1.1;have q2:Ad items.size items.size hi-Ad items.size 0 lo=items.size:=eq_of_beq q.2;exact hw ⟨by omega,by omega⟩
 show wpAny _ _ (if (((Ad items.size 0 lo:Nat):Int) == 0 && (1:Int) == 1 && (Ad items.size items.size hi-Ad items.size 0 lo) == items.size)=true then _ else _) _ _ s;rw[oC aa,Zo]
 first
  |exact oa (m:=uW _) (qZ (ou ⟨_,G,ou h⟩) J)
  |exact oa (m:=uW _) (qZ (oa (ou (ou ⟨_,G,ou h⟩))) J)
  |exact oa (oa (m:=uW _) (qZ (ou (ou ⟨_,G,ou h⟩)) J))
  |exact oa (oa (m:=uW _) (qZ (ou ⟨_,G,ou h⟩) J))
end
end HT
namespace L2
open PySem PySem.Spec PyProof.Rows
abbrev TO:=St->Hp->(Option Int->Hp->Prop)->Prop
def PO(X:Cx)(e:Option Expr)(t:TO):Prop :=
 ∀(ge:List (Addr×Obj)) (s:oq) (σ:St) (H:Hp) (Q:Option Int->Hp->Prop),AI X ge σ H s->t σ H Q →
  wpAny (model X.prog X.w) X.A (evalPart e X.env) (λu s'=>∃o H',AI X ge σ H' s'/\xJ u o/\Q o H') X.xe s
def MT:TO:=λ_ H Q=>Q none H
def NV(t:TE):TO:=λσ H Q=>t σ H λx H1=>∃i,x=.int i/\Q (some i) H1
theorem L0:∀{F:List Value},Af (ns.map V.int) F->sv F ns:=by
 induction ns with
 |nil=>intro F r;rw[rT]at r;cases r;exact .nil
 |cons n ns ih =>
  intro F r;rw[oP]at r;cases r with
  |cons r1 r2 =>
   obtain⟨t,e⟩:=r1;subst e;exact .cons n t (ih r2)
section
variable {X:Cx}{e:Expr}{te:TE}{lo hi:Option Expr}{tl th:TO}{pos p2:Pos}
theorem Fe:PO X none MT:=by
 intro ge s σ H Q I h;rw[evalPart_none];exact ou ⟨none,H,I,.none,h⟩
theorem D7(h:PE X e te):PO X (some e) (NV te):=by
 intro ge s σ H Q I F;rw[evalPart_some];refine AZ (h ge s σ H _ I F) λu s1 ⟨x,H1,O,J,q1⟩=>?_
 obtain⟨i,rfl,q⟩:=q1;obtain⟨t,rfl⟩:=J;exact⟨some i,H1,O,.int i t,q⟩
def JO(X:Cx)(r:V->Option Int->Option Int->Hp->VK->Prop):Prop :=
 ∀(ge:List (Addr×Obj)) (s:oq) (σ:St) (H:Hp) (x:V) (v J F:Value) (lo hi:Option Int) (sl:Addr) (Q:VK),AI X ge σ H s->Ao x v->s.heap.IsSliceOf sl J F .none->xJ J lo->xJ F hi->r x lo hi H Q →
  ∃T id,typeLookup (.type T) "__getitem__" = pure (some (.builtin id))/\s.TypeIs v T/\wpAny (model X.prog X.w) X.A (wZ v (.ref sl)) (EP X ge σ Q) X.xe s
def Nv(r:V->Option Int->Option Int->Hp->VK->Prop)(te:TE)(tl th:TO):TE:=λσ H Q=>te σ H λx H1=>tl σ H1 λl H2=>th σ H2 λu F=>r x l u F Q
theorem Ef(hr:JO X r)(he:PE X e te)(hl:PO X lo tl)(hu:PO X hi th):PE X (.Subscript e (.Slice lo hi none p2) pos) (Nv r te tl th):=by
 intro ge s σ H Q I h;refine acX (AZ (he ge s σ H _ I h) λv s1 ⟨x,H1,I1,r1,q1⟩=>?_);refine wpAny_Slice (AZ (hl ge s1 σ H1 _ I1 q1) λO s2 ⟨l,H2,I2,pl,q2⟩=>AZ (hu ge s2 σ H2 _ I2 q2) λJ F ⟨u,H3,I3,pu,q3⟩=>?_);rw[evalPart_none];refine ou ?_;have I4:AI X ge σ H3 { F with heap:=F.heap.push { cls:=.type "slice",data:=.fields #[O,J,.none]}}:=I3.Bf (t':=F.toks) λb ob q=>oo _ q
 obtain⟨T,id,hT,ht,hg⟩:=hr ge { F with heap:=F.heap.push { cls:=.type "slice",data:=.fields #[O,J,.none]}} σ H3 x v O J l u F.heap.objs.size Q I4 r1 (Heap.IsSliceOf.new ..) pl pu q3;show wpAny (model X.prog X.w) X.A (aa9 e (.Slice lo hi none p2) v (.ref F.heap.objs.size)) (EP X ge σ Q) X.xe { F with heap:=F.heap.push { cls:=.type "slice",data:=.fields #[O,J,.none]}};exact tail_any (ops:=[.ref F.heap.objs.size,v]) ht hT hg (by with_unfolding_all rfl)
def Ck(xs:List V)(lo hi:Option Int):List V:=(xs.drop (HT.Ad xs.length 0 lo)).take (HT.Ad xs.length xs.length hi-HT.Ad xs.length 0 lo)
theorem Qu(xs:List V)(lo hi:Option Int):(Ck xs lo hi).length<=xs.length:=by
 unfold Ck;rw[pN,pS];omega
def QL(K:ow):V->Option Int->Option Int->Hp->VK->Prop:=λx lo hi H Q=>∃a xs,x=.ref a/\AH K H a xs /\
 ¬(HT.Ad xs.length 0 lo=0/\HT.Ad xs.length xs.length hi=xs.length)/\∀p,H p=none->Q (.ref p) (AG H p (.AF (Ck xs lo hi)))
theorem UM:JO X (QL X.K):=by
 intro ge s σ H x v vl vu lo hi sl Q I rx hs pl pu h;obtain⟨a,xs,rfl,hx,O,q⟩:=h;cases rx;obtain⟨its,r,J,hz⟩:=I.tuple hx;have F:its.toArray.size=xs.length:=by rw[oD];exact r.length.symm
 exists "tuple",_,rP.lookup,J.typeIs;refine HT.XZ J hs pl pu (by rw[F];exact O) ?_ (by rw[F];exact hz);rw[F];refine⟨.ref s.heap.objs.size,_,I.laid (t':=s.toks) (o:=.AF (Ck xs lo hi)) (λb ob q=>oo _ q) (oz _) ?_,G,q _ (I.AY.fresh (oz _))⟩;exact⟨oO (Qu xs lo hi) hz,_,(r.drop (HT.Ad xs.length 0 lo)).take (HT.Ad xs.length xs.length hi-HT.Ad xs.length 0 lo),abq _ _,_,oJ _ rfl,G⟩
def VT(K:ow):R2:=λx y H Q=>∃a b xs ys,x=.ref a/\y=.ref b/\AH K H a xs/\AH K H b ys/\xs≠[]/\xs.length+ys.length<=oR /\
 (ys=[]->Q (.ref a) H)/\(ys≠[]->∀p,H p=none->Q (.ref p) (AG H p (.AF (xs++ys))))
theorem Af.Ou(r:Af xs us):us=[]↔xs=[]:=by
 cases r with
 |nil=>simp
 |cons _ _=>simp
theorem Oq:B5 X (ud .Add) (VT X.K):=by
 intro ge s σ H x y v u Q I O ry h;obtain⟨a,b,xs,ys,rfl,rfl,ha,hb,hx,hz,q1,q2⟩:=h;cases O;cases ry;obtain⟨its,J,p1,_⟩:=I.tuple ha;obtain⟨aa,F,p2,_⟩:=I.tuple hb;refine HT.eK p1 p2 (λz=>hx (J.Ou.mp z)) (λz=>⟨.ref a,H,I,G,q1 (F.Ou.mp z)⟩) (λz=>?_) (by rw[<-J.length,<-F.length];exact hz);refine⟨.ref s.heap.objs.size,_,I.laid (t':=s.toks) (o:=.AF (xs++ys)) (λb ob q=>oo _ q) (oz _) ?_,G,q2 (λw=>z (F.Ou.mpr w)) _ (I.AY.fresh (oz _))⟩;exact⟨by rw[oF];exact hz,_,J.append F,abq _ _,_,oJ _ rfl,G⟩
def DT(n:Nat)(i:Int):Option Nat:=if 0<=i then (if i<n then some i.toNat else none) else if -(n:Int)<=i then some (i+n).toNat else none
def BY{α:Type}(xs:List α)(i:Int):Option α:=(DT xs.length i).bind λj=>xs[j]?
theorem O0(h:DT n i=some j):seqIndex? i n=some j/\j<n/\-(n:Int)<=i/\i<n:=by
 unfold DT at h;by_cases F:0<=i
 ·rw[oH F]at h;by_cases h1:i<n
  ·rw[oH h1]at h;have e:i.toNat=j:=oV h;exact⟨by rw[ach F h1,e],(),(),h1⟩
  ·rw[oC h1]at h;cases h
 ·rw[oC F]at h;by_cases h1:-(n:Int)<=i
  ·rw[oH h1]at h;have e:(i+n).toNat=j:=oV h;exact⟨by rw[abO () h1,e],(),h1,()⟩
  ·rw[oC h1]at h;cases h
theorem Su(h:BY xs i=some v):∃j,seqIndex? i xs.length=some j/\xs[j]?=some v/\j<xs.length/\-(xs.length:Int)<=i/\i<xs.length:=by
 unfold BY at h;cases e:DT xs.length i with
 |none=>rw[e]at h;cases h
 |some j =>
  rw[e]at h;obtain⟨h1,h2,F,J⟩:=O0 e;exact⟨j,h1,h,h2,F,J⟩
theorem BE{α:Type}{xs:List α}{j:Nat}{v:α}(h:xs[j]?=some v):BY xs (j:Int)=some v:=by
 have F:j<xs.length:=(oh.mp h).1;have e:DT xs.length (j:Int)=some j:=by
  unfold DT;rw[oH (),oH ()];simp
 unfold BY;rw[e];exact h
def Mp(b:Expr):Prop:=∀o i,aan b false o i=operate [o,i] (wZ o i)
def Fw(X:Cx)(r:R2):Prop :=
 ∀(value F:Expr) (ge:List (Addr×Obj)) (s:oq) (σ:St) (H:Hp) (x y:V) (v u:Value) (Q:VK),AI X ge σ H s->Ao x v->Ao y u->r x y H Q →
  aan F false v u=operate [v,u] (wZ v u)->wpAny (model X.prog X.w) X.A (aa9 value F v u) (EP X ge σ Q) X.xe s
def W8(X:Cx)(id:String)(r:V->List V->Hp->VK->Prop):Prop :=
 ∀(ge:List (Addr×Obj)) (s:oq) (σ:St) (H:Hp) (x:V) (xs:List V) (v:Value) (F:List Value) (Q:VK),AI X ge σ H s->Ao x v->Af xs F->r x xs H Q →
  wpAny (model X.prog X.w) X.A (call (.builtin id) (v :: F)) (EP X ge σ Q) X.xe s
variable {a b:Expr}{ta tb:TE}
theorem Fw.or(h:Fw X r)(h':Fw X r'):Fw X (λx y H Q=>r x y H Q\/r' x y H Q):=by
 intro value F ge s σ H x y v u Q I J ry q O;rcases q with q|q
 ·exact h value F ge s σ H x y v u Q I J ry q O
 ·exact h' value F ge s σ H x y v u Q I J ry q O
theorem Io(O:Fw X r)(J:PE X a ta)(hb:PE X b tb)(hs:Mp b):PE X (.Subscript a b pos) (BK r ta tb):=by
 intro ge s σ H Q I h;exact acX (QS J hb I h λv u s2 x y H2 I2 F ry q=>O a b ge s2 σ H2 x y v u Q I2 F ry q (hs _ _))
inductive Wu(K:ow)(x y:V)(H:Hp)(Q:VK):Prop
 |mk (p:Addr) (xs:List V) (i:Int) (v:V) (a:x=.ref p) (b:y=.int i) (c:AJ K H p xs) (d:BY xs i=some v) (q:Q v H):Wu K x y H Q
inductive Wx(K:ow)(x y:V)(H:Hp)(Q:VK):Prop
 |mk (p:Addr) (xs:List V) (i:Int) (v:V) (a:x=.ref p) (b:y=.int i) (c:AH K H p xs) (d:BY xs i=some v) (q:Q v H):Wx K x y H Q
def Er(K:ow):R2:=λx y H Q=>Wu K x y H Q
def EX(K:ow):R2:=λx y H Q=>Wx K x y H Q
theorem TC:Fw X (Er X.K):=by
 intro value ab ge s σ H x y v u Q I rx ry h hs;obtain⟨p,xs,i,z,rfl,rfl,hq,he,q⟩:=h;cases rx;obtain⟨t,rfl⟩:=ry;obtain⟨its,r,pl,hz⟩:=I.list hq;obtain⟨j,h1,h2,h3,h4,h5⟩:=Su he;obtain⟨w,O,aa⟩:=r.get h2;have hl:=r.length;have hn:=K6;have J:EP X ge σ Q w s:=⟨z,H,I,aa,q⟩;by_cases h0:0<=i
 ·have F:i.toNat=j:=by
   rw[ach h0 h5]at h1;exact oV h1
  exact item_listR pl.isList h0 () (by rw[F];simpa using O) J hs
 ·have F:(i+(its.toArray.size:Int)).toNat=j:=by
   rw[abO () h4]at h1;rw[oD,<-hl];exact oV h1
  exact aam (x:=w) pl.isList.typeIs ab6.lookup
   (wpAny_getItem_list_neg (Q:=λr s'=>r=w/\EP X ge σ Q r s') pl.isList () (by rw[oD]<;>lia) () (by rw[F];simpa using O) ⟨G,J⟩) hs
theorem iC:Fw X (EX X.K):=by
 intro value ab ge s σ H x y v u Q I F ry h hs;obtain⟨p,xs,i,z,rfl,rfl,hq,O,q⟩:=h;cases F;obtain⟨t,rfl⟩:=ry;obtain⟨its,r,pl,hz⟩:=I.tuple hq;obtain⟨j,h1,h2,h3,h4,h5⟩:=Su O;obtain⟨w,ew,J⟩:=r.get h2;have hl:=r.length;have hn:=K6;have aa:EP X ge σ Q w s:=⟨z,H,I,J,q⟩;exact aam (x:=w) pl.typeIs slot_tuple_getitem.lookup
  (getItem_tuple (j:=j) (Q:=λr s'=>r=w/\EP X ge σ Q r s') pl () () (by rw[oD,<-hl];exact h1) (by simpa using ew) ⟨G,aa⟩) hs
theorem YG(its:List Value)(n j:Nat)(u:Value):pI (·.setIfInBounds j u) { cls:=.type "list",data:=.seq its.toArray n}={ cls:=.type "list",data:=.seq (its.set j u).toArray n}:=by
 simp[pI]
theorem AI.AE(I:AI X ge σ H s)(h:H p=some (.AE xs)):
  ∃(its:List Value) (n:Nat),Af xs its/\s.heap.get? p=some { cls:=.type "list",data:=.seq its.toArray n}/\xs.length<=oR:=by
 obtain⟨z,its,n,r,e⟩:=I.AY p _ h;exact⟨its,n,r,e,z⟩
theorem AI.jA {ge:List (Addr×Obj)}{σ:St}{H:Hp}{s:oq}{p:Addr}{xs ys:List V}{its its':List Value}{n F:Nat}{f:Obj->Obj}(I:AI X ge σ H s)(h:H p=some (.AE xs))
  (ho:s.heap.get? p=some { cls:=.type "list",data:=.seq its.toArray n})(J:f { cls:=.type "list",data:=.seq its.toArray n}={ cls:=.type "list",data:=.seq its'.toArray F})(r:Af ys its')(hz:ys.length<=oR)(t:Nat) :
  AI X ge σ (AG H p (.AE ys)) { s with heap:=s.heap.update p f,toks:=t}:=by
 have e:(s.heap.update p f).get? p=some { cls:=.type "list",data:=.seq its'.toArray F}:=by
  rw[tU f ho (by rw[J]<;>rfl),J]
 refine I.Fi (x:=p) (e:=p) (by rw[h];trivial) (.inl rfl) (λb u O q=>(rQ _ _ (qp O)).trans q) ⟨_,e⟩ ?_;exact⟨hz,its',F,r,e⟩
inductive Vm(o i v:V)(H:Hp)(Q:Hp->Prop):Prop
 |mk (p:Addr) (xs:List V) (k:Int) (j:Nat) (J:o=.ref p) (F:i=.int k) (h:H p=some (.AE xs)) (x:DT xs.length k=some j) (q:Q (AG H p (.AE (xs.set j v)))):Vm o i v H Q
def VX:V->V->V->Hp->(Hp->Prop)->Prop:=λo i v H Q=>Vm o i v H Q
theorem IS:Wi X VX:=by
 intro ge s σ H o i v ov iv u Q I ro ri rv h;obtain⟨p,xs,k,j,rfl,rfl,hp,hj,q⟩:=h;cases ro;obtain⟨t,rfl⟩:=ri;obtain⟨its,n,r,O,hz⟩:=I.AE hp;obtain⟨h1,h2,h3,h4⟩:=O0 hj;have F:=r.length;have hn:=K6;have I':AI X ge σ (AG H p (.AE (xs.set j v))) { s with heap:=s.heap.update p (pI (·.setIfInBounds j u))} :=
  I.jA hp O (YG its n j u) (r.set rv j) (by rw[vH];exact hz) s.toks
 by_cases h0:0<=k
 ·have J:k.toNat=j:=by
   rw[ach h0 h4]at h1;exact oV h1
  exact PySem.W.ki_setAt O h0 () (by rw[oD,<-F];exact h4) (by rw[J];exact⟨_,I',q⟩)
 ·have J:(k+(its.toArray.size:Int)).toNat=j:=by
   rw[abO () h3]at h1;rw[oD,<-F];exact oV h1
  exact PySem.W.ki_setBack O () (by rw[oD,<-F];exact h3) () (by rw[J];exact⟨_,I',q⟩)
theorem Xn(lo hi:Option Int)(n:Nat):(wB lo hi none n).1=((HT.Ad n 0 lo:Nat):Int)/\(wB lo hi none n).2.1=((HT.Ad n n hi:Nat):Int)/\(wB lo hi none n).2.2=1:=by
 refine⟨?_,?_,G⟩
 ·cases lo with
  |none=>simp[wB,HT.Ad]
  |some i =>
   simp only[wB,HT.Ad,zo,show(1:Int)>0 by decide,if_true];by_cases h:i<0
   ·simp only[h,if_true]<;>lia
   ·simp only[h,wj]<;>lia
 ·cases hi with
  |none=>simp[wB,HT.Ad]
  |some i =>
   simp only[wB,HT.Ad,zo,show(1:Int)>0 by decide,if_true];by_cases h:i<0
   ·simp only[h,if_true]<;>lia
   ·simp only[h,wj]<;>lia
theorem Xl(its:List Value)(lo hi:Option Int):slicePick its.toArray lo hi none=((its.drop (HT.Ad its.length 0 lo)).take (HT.Ad its.length its.length hi-HT.Ad its.length 0 lo)).toArray:=by
 obtain⟨h1,h2,F⟩:=Xn lo hi its.toArray.size;unfold slicePick;rw[h1,h2,F];simp only[sliceRange_one,pick_run,oD]<;>rfl
inductive V5(K:ow)(x:V)(lo hi:Option Int)(H:Hp)(Q:VK):Prop
 |mk (a:Addr) (xs:List V) (e:x=.ref a) (s:AJ K H a xs) (q:∀p,H p=none->Q (.ref p) (AG H p (.AE (Ck xs lo hi)))):V5 K x lo hi H Q
def Nl(K:ow):V->Option Int->Option Int->Hp->VK->Prop:=λx lo hi H Q=>V5 K x lo hi H Q
theorem cV:JO X (Nl X.K):=by
 intro ge s σ H x v vl vu lo hi sl Q I J hs pl pu h;obtain⟨a,xs,rfl,hx,q⟩:=h;cases J;obtain⟨its,r,F,hz⟩:=I.list hx;have O:=r.length;exists "list",_,ab6.lookup,F.isList.typeIs;refine wpAny_getItem_list_slice F.isList hs pl pu .none #v[] ?_ (by rw[oD]<;>lia);rw[Xl,<-O];refine⟨.ref s.heap.objs.size,_,I.laid (t':=s.toks) (o:=.AE (Ck xs lo hi)) (λb ob q=>oo _ q) (oz _) ?_,G,q _ (I.AY.fresh (oz _))⟩;exact⟨oO (Qu xs lo hi) hz,_,0,(r.drop (HT.Ad xs.length 0 lo)).take (HT.Ad xs.length xs.length hi-HT.Ad xs.length 0 lo),oJ _ rfl⟩
inductive J9(K:ow)(xs:List V)(H:Hp)(Q:VK):Prop
 |mk (p:Addr) (ys:List V) (e:xs=[.ref p]) (s:AJ K H p ys\/AH K H p ys) (q:Q (.int ys.length) H):J9 K xs H Q
theorem Qt:Cr X (.builtin "len") (J9 X.K):=by
 intro ge s σ H xs us Q I r h;obtain⟨p,ys,rfl,hq,q⟩:=h;obtain⟨u,rfl,O⟩:=FI r;cases O;have hn:=K6;rcases hq with hq|hq
 ·obtain⟨its,F,pl,hz⟩:=I.list hq;have J:=F.length;exact Calls.call_len_list pl.isList (by simp only[oD]<;>lia) ⟨.int ys.length,H,I.Cn _,⟨s.toks+1,by rw[oD,J]⟩,q⟩
 ·obtain⟨its,F,pl,hz⟩:=I.tuple hq;have J:=F.length;exact len_tuple pl (by simp only[oD]<;>lia) ⟨.int ys.length,H,I.Cn _,⟨s.toks+1,by rw[oD,J]⟩,q⟩
theorem Xp:Cr X (.type "list") (λxs H Q=>∃p ys,xs=[.ref p]/\(AJ X.K H p ys\/AH X.K H p ys)/\∀l,H l=none->Q (.ref l) (AG H l (.AE ys))):=by
 intro ge s σ H xs us Q I r h;obtain⟨p,ys,rfl,hq,q⟩:=h;obtain⟨u,rfl,rx⟩:=FI r;cases rx;have aa:∀(its:List Value),Af ys its->ys.length<=oR->∀(h':Heap) (J:Nat),(∀b o',s.heap.get? b=some o'->h'.get? b=some o') →
   h'.get? s.heap.objs.size=some { cls:=.type "list",dict:=none,data:=.seq its.toArray J,slots:=#[]}->EP X ge σ Q (.ref s.heap.objs.size) { s with heap:=h'}:=λits F hz h' J O e =>
  ⟨.ref s.heap.objs.size,_,I.laid (t':=s.toks) O (oz _) (show BP X.prog X.w _ h' _ (.AE ys) from ⟨hz,its,J,F,e⟩),G,q _ (I.AY.fresh (oz _))⟩
 rcases hq with hq|hq
 ·obtain⟨its,F,pl,hz⟩:=I.list hq;have ab:=F.length;obtain⟨o,ho,hc,n,hd⟩:=pl.isList;exact call_list_seq p (.inl rfl) ho hc hd (λh' J O e=>aa its F hz h' J O e) (by simp only[oD]<;>lia)
 ·obtain⟨its,F,pl,hz⟩:=I.tuple hq;have ab:=F.length;obtain⟨o,ho,hc,n,hd⟩:=pl;exact call_list_seq p (.inr rfl) ho hc hd (λh' J O e=>aa its F hz h' J O e) (by simp only[oD]<;>lia)
theorem Xk:Cr X (.type "tuple") (λxs H Q=>∃p ys,xs=[.ref p]/\((AJ X.K H p ys/\∀l,H l=none->Q (.ref l) (AG H l (.AF ys)))\/(AH X.K H p ys/\Q (.ref p) H))):=by
 intro ge s σ H xs us Q I r h;obtain⟨p,ys,rfl,h⟩:=h;obtain⟨u,rfl,rx⟩:=FI r;cases rx;rcases h with ⟨J,q⟩|⟨J,q⟩
 ·obtain⟨its,F,pl,hz⟩:=I.list J;have aa:=F.length;refine call_tuple_list pl.isList (λh' kp=>?_) (by simp only[oD] <;> omega);have O:AI X ge σ H { s with heap:=h' }:=I.Bf (t':=s.toks) kp;have I2:AI X ge σ (AG H h'.objs.size (.AF ys)) { s with heap:=h'.push { cls:=.type "tuple",data:=.seq its.toArray } } :=
   O.laid (t':=s.toks) (λb o e=>oo _ e) (oz _) (show BP X.prog X.w _ _ _ (.AF ys) from ⟨hz,its,F,abq _ _,_,oJ _ rfl,G⟩)
  exact⟨.ref h'.objs.size,_,I2,G,q _ (O.AY.fresh (oz _))⟩
 ·obtain⟨its,F,pl,hz⟩:=I.tuple J;exact call_tuple_same pl ⟨.ref p,H,I,G,q⟩
def Lp(K:ow)(T:String)(x:V)(H:Hp):Prop:=match x with
 |.str _=>T="str"
 |.int _=>T="int"
 | .ref p=>(T="list"/\∃xs,AJ K H p xs)\/(T="tuple"/\∃o,K.lookup p=some o/\o.cls=.type "tuple"/\o.dict=none) \/
   (T="dict"/\((∃ii,H p=some (.dK ii))\/∃ii,H p=some (.dT ii)))\/(T="set"/\∃S n,H p=some (.set S n))
 |_=>False
theorem iM(I:AI X ge σ H s)(r:Ao x v)(ty:Lp X.K T x H):
  s.TypeIs v T/\∀a,v=.ref a->∃O,s.heap.get? a=some O/\O.dict=none:=by
 cases x with
 |str z =>
  obtain⟨t,rfl⟩:=r;cases (show T="str" from ty);exact⟨typeIs_str s z t,λ_ e=>nomatch e⟩
 |int i =>
  obtain⟨t,rfl⟩:=r;cases (show T="int" from ty);exact⟨ac0 s i t,λ_ e=>nomatch e⟩
 |ref p =>
  cases r;rcases ty with ⟨rfl,xs,hq⟩|⟨rfl,o,F,hc,hd⟩|⟨rfl,F⟩|⟨rfl,S,n,F⟩
  ·obtain⟨its,_,pl,_⟩:=I.list hq;refine⟨pl.isList.typeIs,λa e=>?_⟩;cases e;obtain⟨o,n,e,c,hd,_⟩:=pl;exact⟨o,e,hd⟩
  ·refine⟨⟨o,I.Dl p o F,hc⟩,λa e=>?_⟩;cases e;exact⟨o,I.Dl _ o F,hd⟩
  ·have z:∃o,s.heap.get? p=some o/\o.ExactDict:=by
    rcases F with ⟨ii,F⟩|⟨ii,F⟩
    ·obtain⟨_,_,_,_,o,_,_,e,ex,_⟩:=I.AY p _ F;exact⟨o,e,ex⟩
    ·obtain⟨_,_,_,_,o,_,_,e,ex,_⟩:=I.AY p _ F;exact⟨o,e,ex⟩
   obtain⟨o,e,ex⟩:=z;refine⟨⟨o,e,ex.1⟩,λa J=>?_⟩;cases J;exact⟨o,e,ex.2.1⟩
  ·obtain⟨o,_,_,_,e,ex,_⟩:=I.AY p _ F;refine⟨⟨o,e,ex.1⟩,λa J=>?_⟩;cases J;exact⟨o,e,ex.2.1⟩
 |_=>exact qP ty
def W9(K:ow)(T:String)(r:V->List V->Hp->VK->Prop)(to:TE)(t:TA):TE:=λσ H Q=>to σ H λx H1=>Lp K T x H1/\t σ H1 λxs H2=>r x xs H2 Q
variable {o:Expr}{es:List Expr}{to:TE}{t:TA}{name:Str}{apos cpos:Pos}{T id:String}{r:V->List V->Hp->VK->Prop}
theorem ki (pa:acS T)(ac:Slot T name id)(ab:typeOf (.builtin id)=pure (.type "method_descriptor"))(hm:W8 X id r)(ho:PE X o to)(ha:PA X (e :: es) t)
  (aa:aa8 o name X.env (eval o X.env)=eval o X.env:=by rfl)
  (af:((uD cpos (pK (e :: es) X.env)).all (λx=>!x.1) && (backToKw cpos (acf [] X.env)).all (λx=>x.1.isSome)
   && decide ((e :: es).length+([]:List aay).length+(if ([]:List aay).isEmpty then 0 else 1)<30))=true:=by rfl)
  (ad:(apos.endLine == cpos.line)=true:=by rfl)(hs:pK (e :: es) X.env=(false,eval e X.env) :: pK es X.env:=by rfl)(ae:(uD cpos (pK es X.env)).any (·.1)=false:=by rfl) :
  PE X (.Call (.Attribute o name apos) (e :: es) [] cpos) (W9 X.K T r to t):=by
 intro ge s σ H Q I h;refine aao aa af ad rfl (AZ (ho ge s σ H _ I h) λv s1 ⟨x,H1,J,F,ty,q1⟩=>?_);obtain⟨h1,h2⟩:=iM J F ty;exists T,id,pa,ac,ab,h1,h2;have O:=ha cpos ge s1 σ H1 _ J q1;rw[hs]at O ⊢;refine aaa (by show(false || (uD cpos (pK es X.env)).any (·.1))=false;rw[ae]<;>rfl) (aaT ?_);exact AZ O λus s2 ⟨vs,H2,I2,r2,q2⟩=>hm ge s2 σ H2 x vs v us Q I2 F r2 q2
end
def JH(X:Cx)(id:String)(r:V->List V->Hp->VK->Prop):Prop :=
 ∀(ge:List (Addr×Obj)) (s:oq) (σ:St) (H:Hp) (x:V) (xs:List V) (v:Value) (F:List Value) (Q:VK),AI X ge σ H s->Ao x v->Af xs F->r x xs H Q →
  wpAny (model X.prog X.w) X.A (call (.builtin id) (v :: F)) (EP X ge σ Q) X.xe s
theorem Af.Aj:∀{x:V} {F:List Value},Af [x] F->∃u,F=[u]/\Ao x u
 |_,_,.cons r .nil=>⟨_,G,r⟩
theorem Af.eraseIdx:∀{xs:List V} {F:List Value} (i:Nat),Af xs F->Af (xs.eraseIdx i) (F.eraseIdx i)
 |_,_,_,.nil=>.nil
 |_,_,0,.cons _ t=>t
 |_,_,i+1,.cons r t=>.cons r (Af.eraseIdx i t)
theorem Af.XE(h:Af xs us):∀k:Nat,Af (oE k xs).flatten (oE k us).flatten
 |0=>.nil
 |k+1=>by
  rw[qo,qo,ql,ql];exact Af.append h (Af.XE h k)
theorem RG{α:Type}:∀(l:List α) (i:Nat),(l.eraseIdx i).length<=l.length
 |[],_=>oz _
 |_ :: _,0=>aae _
 |_ :: r,i+1=>Nat.succ_le_succ (RG r i)
theorem Rm(its:List Value):∀(k:Nat) (F:List Value),
  wW (λx1 J=>x1++J) F.toArray (oE k its.toArray)=(F++(oE k its).flatten).toArray
 |0,F=>by simp
 |k+1,F=>by
  have e:F.toArray++its.toArray=(F++its).toArray:=by simp
  have O:(F++its)++(oE k its).flatten=F++(oE (k+1) its).flatten:=by
   rw[qo,ql,tL]
  rw[<-O,<-Rm its k (F++its),<-e,qo,uz]
section
variable {X:Cx}{ge:List (Addr×Obj)}{σ:St}{H:Hp}{s:oq}{l b:Addr}{xs ys zs:List V}
theorem AI.GJ {its its':List Value}{n:Nat}{f:Array Value->Array Value}{t':Nat}(I:AI X ge σ H s)(hH:H l=some (.AE xs))
  (e:s.heap.get? l=some { cls:=.type "list",data:=.seq its.toArray n})(F:f its.toArray=its'.toArray)(O:Af ys its')(hz:ys.length<=oR) :
  AI X ge σ (AG H l (.AE ys)) { s with heap:=s.heap.update l (pI f),toks:=t'}:=by
 have q:=zv e f;rw[F]at q;refine I.Fi (x:=l) (e:=l) (by rw[hH];exact trivial) (.inl rfl) (λb' u J hu=>(rQ s.heap (pI f) (qp J)).trans hu) ⟨_,q⟩ ?_;exact⟨hz,its',_,O,q⟩
theorem AI.Nh(I:AI X ge σ H s)(F:Af ys its)(hz:ys.length<=oR):
  AI X ge σ (AG H s.heap.objs.size (.AE ys)) { s with heap:=s.heap.push { cls:=.type "list",data:=.seq its.toArray},toks:=t'} :=
 I.laid (λ_ _ q=>oo _ q) (oz _) ⟨hz,its,0,F,oJ _ rfl⟩
theorem AI.fresh(I:AI X ge σ H s):H s.heap.objs.size=none:=I.AY.fresh (oz _)
theorem AI.DX(I:AI X ge σ H s)(F:H l=some (.AE xs)):xs.length<=oR/\∃(its:List Value) (n:Nat),Af xs its/\xs.length=its.length/\s.heap.get? l=some { cls:=.type "list",data:=.seq its.toArray n}:=by
 obtain⟨z,its,n,r,e⟩:=I.AY l _ F;exact⟨z,its,n,r,r.length,e⟩
theorem Rw(h:n<=oR):uV n=false:=by
 unfold uV;exact qu ()
end
section
variable {X:Cx}
inductive Wr(x:V)(vs:List V)(H:Hp)(Q:VK):Prop
 |mk (l:Addr) (xs:List V) (y:V) (J:x=.ref l) (F:vs=[y]) (h:H l=some (.AE xs)) (n:xs.length<oR) (q:Q .Ay (AG H l (.AE (xs++[y])))):Wr x vs H Q
def dF:V->List V->Hp->VK->Prop:=λx vs H Q=>Wr x vs H Q
theorem Ed:JH X "list.append" dF:=by
 intro ge s σ H x vs v us Q I O rv h;obtain⟨l,xs,y,rfl,rfl,J,hz,q⟩:=h;cases O;obtain⟨u,rfl,ru⟩:=rv.Aj;obtain⟨z,its,n,r,hl,e⟩:=I.DX J;refine we F.slot_list_append ⟨_,e,G⟩ F.entry_list_append (F.args_list_append_2 _ _) (PySem.list_append l its.toArray n u (by rw[oD];lia)) ⟨e,?_⟩;refine⟨.Ay,_,I.GJ (its':=its++[u]) J e #v[] (r.append (.cons ru .nil)) ?_,G,q⟩;rw[oF,rn]
 lia
def gZ:V->List V->Hp->VK->Prop:=λx vs H Q=>∃l b xs zs,x=.ref l/\vs=[.ref b]/\H l=some (.AE xs)/\H b=some (.AE zs)/\xs.length+zs.length<=oR/\Q .Ay (AG H l (.AE (xs++zs)))
theorem Zb:JH X "list.extend" gZ:=by
 intro ge s σ H x vs v us Q I rx rv h;obtain⟨l,b,xs,zs,rfl,rfl,O,hB,hz,q⟩:=h;cases rx;obtain⟨u,rfl,ru⟩:=rv.Aj;cases ru;obtain⟨z,its,n,r,hl,e⟩:=I.DX O;obtain⟨z2,J,n2,r2,ab,e2⟩:=I.DX hB;have hsz:its.toArray.size+J.toArray.size<=oR:=by rw[oD,oD];lia
 have aa:¬(!its.toArray.isEmpty && uV (its.toArray.size+J.toArray.size))=true:=by
  rw[Rw hsz,x5];exact o8
 refine we F.slot_list_extend ⟨_,e,G⟩ F.entry_list_extend (F.args_list_extend_2 _ _)
  (AutoSeq1.list_extend_list_list_0 l its.toArray n b J.toArray n2 aa (by rw[oD];lia) ()) ⟨e,e2,?_⟩
 refine⟨.Ay,_,I.GJ (its':=its++J) O e #v[] (r.append r2) ?_,G,q⟩;rw[oF]
 lia
def iZ:V->List V->Hp->VK->Prop:=λx vs H Q=>∃l xs i k y,x=.ref l/\vs=[.int i]/\H l=some (.AE xs)/\-(2 ^ 63)<=i/\i<2 ^ 63/\seqIndex? i xs.length=some k/\xs[k]?=some y/\Q y (AG H l (.AE (xs.eraseIdx k)))
theorem bY:JH X "list.pop" iZ:=by
 intro ge s σ H x vs v us Q I O rv h;obtain⟨l,xs,i,k,y,rfl,rfl,J,h1,h2,hk,hy,q⟩:=h;cases O;obtain⟨u,rfl,ru⟩:=rv.Aj;obtain⟨t,rfl⟩:=ru;obtain⟨z,its,n,r,hl,e⟩:=I.DX J;obtain⟨w,hw,aa⟩:=r.get hy;refine we F.slot_list_pop ⟨_,e,G⟩ F.entry_list_pop (F.args_list_pop_2 _ _)
  (MeetsSeq.list_pop_at l its.toArray n i t k w (fitsIndex_both h1 h2) (by rw[oD,<-hl];exact hk) (by rw[<-Array.getElem?_toList];exact hw) (by rw[oD];lia)) ⟨e,?_⟩
 refine⟨y,_,I.GJ (its':=its.eraseIdx k) J e ?_ (r.eraseIdx k) ?_,aa,q⟩
 ·show its.toArray.eraseIdxIfInBounds k=(its.eraseIdx k).toArray;rw[List.eraseIdxIfInBounds_toArray]
 ·have:=RG xs k
  lia
inductive Wz(x y:V)(H:Hp)(Q:VK):Prop
 |mk (l b:Addr) (xs zs:List V) (J:x=.ref l) (F:y=.ref b) (h1:H l=some (.AE xs)) (h2:H b=some (.AE zs)) (n:xs.length+zs.length<=oR) (q:∀p,H p=none->Q (.ref p) (AG H p (.AE (xs++zs)))):Wz x y H Q
def P2:R2:=λx y H Q=>Wz x y H Q
theorem Gm:B5 X (ud .Add) P2:=by
 intro ge s σ H x y v u Q I J ry h;obtain⟨l,b,xs,zs,rfl,rfl,hH,hB,hz,q⟩:=h;cases J;cases ry;obtain⟨z,its,n,r,hl,e⟩:=I.DX hH;obtain⟨z2,F,n2,r2,aa,e2⟩:=I.DX hB;refine PySem.P.add_list e e2 ?_ (by rw[oD,oD];omega);have O:its.toArray++F.toArray=(its++F).toArray:=by simp
 rw[O];exact⟨.ref _,_,I.Nh (t':=s.toks) (r.append r2) (by rw[oF];omega),G,q _ I.fresh⟩
def WM:R2:=λx y H Q=>∃l k xs,x=.ref l/\y=.int k/\H l=some (.AE xs)/\-(2 ^ 63)<=k/\k<2 ^ 63/\xs.length*k.toNat<=oR /\
 ∀p,H p=none->Q (.ref p) (AG H p (.AE (oE k.toNat xs).flatten))
theorem fP{α:Type}(xs:List α)(k:Nat):(oE k xs).flatten.length=k*xs.length:=by
 induction k with
 |zero=>simp
 |succ k ih=>rw[qo,ql,oF,ih,Nat.succ_mul,vR]
theorem iH:B5 X (ud .Mult) WM:=by
 intro ge s σ H x y v u Q I rx ry h;obtain⟨l,k,xs,rfl,rfl,hH,h1,h2,hz,q⟩:=h;cases rx;obtain⟨t,rfl⟩:=ry;obtain⟨z,its,n,r,hl,e⟩:=I.DX hH;have ac:its.toArray.size*k.toNat<=oR:=by rw[oD,<-hl];exact hz
 have ae:¬its.toArray.size*k.toNat>(2 ^ 63-1) / 8:=by
  have:(oR:Nat)<=(2 ^ 63-1) / 8:=by decide
  lia
 have ab:¬(!Builtin.List.listFitsIndex k)=true:=by
  rw[fitsIndex_both h1 h2];exact o8
 have ad:¬uV (its.toArray.size*k.toNat)=true:=by
  rw[Rw ac];exact o8
 have aa:wW (λJ O=>J++O) #[] (oE (if its.toArray.isEmpty=true then 0 else k.toNat) its.toArray)=(oE k.toNat its).flatten.toArray:=by
  have f0:∀m:Nat,wW (λJ O=>J++O) #[] (oE m its.toArray)=(oE m its).flatten.toArray:=λm=>by
   have:=Rm its m []
   rw[uA]at this;exact this
  rw[f0];cases its with
  |nil=>simp
  |cons a r'=>rw[oC #v[]]
 refine wpAny_binaryOp_repeat_ref (T:="list") (U:="int") ∅ ⟨_,e,G⟩ (λs'=>ac0 s' k t) noFill_list_mul F.fills_int_mul acH repeat_list F.slot_int_index.lookup
  (we acH (ac0 s k t) F.entry_int_rmul (F.args_int_rmul_2 _ _) (int___rmul___int_list k t l its.toArray n)
   ⟨e,G,⟨_,e,G⟩,we F.slot_list_mul ⟨_,e,G⟩ F.entry_list_mul (F.args_list_mul_2 _ _) (AutoListH.list___mul___list_int_3 l its.toArray n k t ab ae ad) ⟨e,?_⟩⟩)
 rw[aa];exact⟨.ref _,_,I.Nh (t':=s.toks) (r.XE k.toNat) (by rw[fP,wN];exact hz),G,q _ I.fresh⟩
end
section
variable {κ:Type}[DecidableEq κ]
def Bm(ii:List (κ×V))(k:κ):Option V:=(ii.find? λF=>decide (F.1=k)).map (·.2)
def CM(ii:List (κ×V))(k:κ)(v:V):List (κ×V) :=
 if (ii.any λF=>decide (F.1=k))=true then ii.map (λF=>if F.1=k then (F.1,v) else F) else ii++[(k,v)]
theorem EK{p:κ×V}{k:κ}(e:p.1=k):Bm (p :: r) k=some p.2:=by simp[Bm,vG,e]
theorem D6{p:κ×V}{k:κ}(e:¬p.1=k):Bm (p :: r) k=Bm r k:=by simp[Bm,vG,e]
theorem Kq(k:κ):∀ii:List (κ×V),(ii.any λF=>decide (F.1=k))=(Bm ii k).isSome
 |[]=>rfl
 |p :: r=>by
  rw[aa4];by_cases e:p.1=k
  ·simp only[EK e,qC e,Bool.true_or,Option.isSome_some]
  ·rw[D6 e,qu e,Bool.false_or];exact Kq k r
theorem SF(k j:κ)(y:V):∀ii:List (κ×V),Bm (ii.map λF=>if F.1=k then (F.1,y) else F) j=(Bm ii j).map λx=>if j=k then y else x
 |[]=>rfl
 |p :: r=>by
  have J:=SF k j y r;rw[oP];by_cases h:p.1=k
  ·rw[oH h];by_cases e:p.1=j
   ·rw[EK (p:=(p.1,y)) e,EK e,vJ,oH (e.symm.trans h)]
   ·rw[D6 (p:=(p.1,y)) e,D6 e,J]
  ·rw[oC h];by_cases e:p.1=j
   ·rw[EK (p:=p) e,EK e,vJ,oC (λz=>h (e.trans z))]
   ·rw[D6 (p:=p) e,D6 e,J]
theorem RJ(k j:κ)(y:V):∀ii:List (κ×V),Bm ii k=none->Bm (ii++[(k,y)]) j=if j=k then some y else Bm ii j
 |[],_=>by
  by_cases e:k=j
  ·rw[oH e.symm];exact EK (p:=(k,y)) e
  ·rw[oC (λz=>e z.symm)];exact D6 (p:=(k,y)) e
 |p :: r,hn=>by
  rw[uc];have F:¬p.1=k:=λz=>by rw[EK z]at hn;cases hn
  rw[D6 F]at hn;have J:=RJ k j y r hn;by_cases e:p.1=j
  ·rw[EK e,EK e,oC (λz=>F (e.trans z))]
  ·rw[D6 e,D6 e,J]
theorem cF(ii:List (κ×V))(k j:κ)(y:V):Bm (CM ii k y) j=if j=k then some y else Bm ii j:=by
 unfold CM;by_cases a:(ii.any λF=>decide (F.1=k))=true
 ·rw[oH a,SF];rw[Kq]at a;by_cases e:j=k
  ·obtain⟨x,J⟩:=ve.mp a;rw[oH e,e,J,vJ,oH rfl]
  ·rw[oC e];cases Bm ii j with
   |none=>rfl
   |some x=>rw[vJ,oC e]
 ·rw[oC a];refine RJ k j y ii ?_;rw[Kq]at a;cases q:Bm ii k with
  |none=>rfl
  |some x=>rw[q]at a;exact(a rfl).elim
theorem Ly(ii:List (κ×V))(k:κ)(v:V):(CM ii k v).length<=ii.length+1:=by
 unfold CM;split
 ·rw[kb];lia
 ·rw[oF,pk,rV];lia
theorem Fo.Kl(r:Fo o u):o.isSome=u.isSome:=by
 cases o with
 |none=>cases u with
  |none=>rfl
  |some _=>exact(show False from r).elim
 |some _=>cases u with
  |none=>exact(show False from r).elim
  |some _=>rfl
theorem KV.II(r:KV ii vs)(k:κ):Fo (Bm ii k) (y9 vs k):=by
 unfold KV at r
 induction r with
 |nil=>exact uh
 |@cons p q ps qs h t ih =>
  obtain⟨h1,h2⟩:=h;by_cases e:p.1=k
  ·have F:q.1=k:=h1.symm.trans e;have b:y9 (q :: qs) k=some q.2:=by simp[y9,vG,F]
   rw[EK e,b];exact h2
  ·have F:¬q.1=k:=λz=>e (h1.trans z)
   have b:y9 (q :: qs) k=y9 qs k:=by simp[y9,vG,F]
   rw[D6 e,b];exact ih
theorem KV.any(r:KV ii vs)(k:κ):(ii.any λF=>decide (F.1=k))=vs.any λF=>decide (F.1=k):=by
 unfold KV at r
 induction r with
 |nil=>rfl
 |cons h t ih=>rw[aa4,aa4,ih,h.1]
theorem KV.P9(r:KV ii vs)(k:κ)(J:Ao y u):
  KV (ii.map λF=>if F.1=k then (F.1,y) else F) (vs.map λF=>if F.1=k then (F.1,u) else F):=by
 unfold KV at r ⊢
 induction r with
 |nil=>exact .nil
 |@cons p q ps qs h t ih =>
  rw[oP,oP];refine .cons ?_ ih;obtain⟨h1,h2⟩:=h;by_cases e:p.1=k
  ·rw[oH e,oH (h1.symm.trans e)];exact⟨h1,J⟩
  ·rw[oC e,oC (λz=>e (h1.trans z))];exact⟨h1,h2⟩
theorem KV.put(r:KV ii vs)(k:κ)(F:Ao y u):KV (CM ii k y) (stored vs k u):=by
 unfold CM stored;rw[r.any k];by_cases e:(vs.any λJ=>decide (J.1=k))=true
 ·rw[oH e,oH e];exact r.P9 k F
 ·rw[oC e,oC e];exact wO.snoc r ⟨G,F⟩
theorem KV.length{ii:List (κ×V)}(r:KV ii vs):ii.length=vs.length:=aa5 r
end
theorem J1(r:Ao (kV k) u):(Dn P w).is k u=true:=by
 cases k with
 |inl i=>obtain⟨t,e⟩:=(show ∃t,u=vZ i t from r);subst e;exact X3 P w i t
 |inr x=>obtain⟨t,e⟩:=(show ∃t,u=abI x t from r);subst e;exact Xx P w x t
theorem RR:∀{ks:List Aq} {F:List Value},Af (ks.map kV) F->ItemsAre (Dn P w) ks F
 |[],_,r=>by rw[rT]at r;cases r;exact .nil
 |k :: ks,_,r=>by
  rw[oP]at r;cases r with
  |cons h t=>exact .cons (J1 h) (RR t)
abbrev KT(H:Hp):List (List Aq×V)->List (List Aq×Addr×Value)->Prop:=wO λp q=>p.1=q.1/\H q.2.1=some (.AF (p.1.map kV))/\Ao p.2 q.2.2
theorem KT.II(r:KT H ii xs)(k:List Aq):Fo (Bm ii k) ((atKey xs k).map (·.2)):=by
 induction r with
 |nil=>exact uh
 |@cons p q ps qs h t ih =>
  obtain⟨h1,_,h2⟩:=h;by_cases e:p.1=k
  ·have F:q.1=k:=h1.symm.trans e;have b:atKey (q :: qs) k=some q.2:=by simp[atKey,vG,F]
   rw[EK e,b];exact h2
  ·have F:¬q.1=k:=λz=>e (h1.trans z)
   have b:atKey (q :: qs) k=atKey qs k:=by simp[atKey,vG,F]
   rw[D6 e,b];exact ih
theorem KT.P9(r:KT H ii xs)(k:List Aq)(O:Ao y u):
  KT H (ii.map λF=>if F.1=k then (F.1,y) else F) (xs.map (putAt k u)):=by
 induction r with
 |nil=>exact .nil
 |@cons p q ps qs h t ih =>
  rw[oP,oP];refine .cons ?_ ih;obtain⟨h1,h2,J⟩:=h;unfold putAt;by_cases e:p.1=k
  ·rw[oH e,oH (h1.symm.trans e)];exact⟨h1,h2,O⟩
  ·rw[oC e,oC (λz=>e (h1.trans z))];exact⟨h1,h2,J⟩
theorem KT.put(r:KT H ii xs)(k:List Aq)(O:H b=some (.AF (k.map kV)))(F:Ao y u):
  KT H (CM ii k y) (storedH xs k b u):=by
 have e:(ii.any λJ=>decide (J.1=k))=(atKey xs k).isSome:=by
  rw[Kq,(r.II k).Kl,yR]
 unfold CM storedH;rw[e];by_cases q:(atKey xs k).isSome=true
 ·rw[oH q,oH q];exact r.P9 k F
 ·rw[oC q,oC q];exact wO.snoc r ⟨G,O,F⟩
theorem KT.keeps(r:KT H ii xs)(F:∀b ys,H b=some (.AF ys)->H' b=some (.AF ys)):KT H' ii xs :=
 wO.QO r λ_ _ z=>⟨z.1,F _ _ z.2.1,z.2.2⟩
section
variable {P:pG}{w:World}{H:Hp}{h:Heap}{a:Addr}
theorem VZ(F:Bp P w H h)(e:Rd H a u):BP P w H h a u:=e.ok F
theorem J4(F:Bp P w H h)(e:Rd H a (.dK ii)):ii.length<=oR/\(a == ui)=false/\∃vs,KV ii vs/\h.DictOf (Dn P w) a vs :=
 show BP P w H h a (.dK ii) from VZ F e
theorem V2(F:Bp P w H h)(e:H a=some (.dK ii)):ii.length<=oR/\(a == ui)=false/\∃vs,KV ii vs/\h.DictOf (Dn P w) a vs:=J4 F (.inl e)
theorem K2(F:Bp P w H h)(e:H a=some (.AF (ks.map kV))):(zZ (Dn P w)).is h ks a:=by
 obtain⟨_,its,r,⟨o,h1,h2,n,J⟩,_⟩:=(show BP P w H h a (.AF (ks.map kV)) from F a _ e);exact⟨o,its.toArray,n,h1,h2,J,by simpa using RR r⟩
theorem LN(F:Bp P w H h)(e:Rd H a (.dT ii)):ii.length<=oR/\(a == ui)=false /\
  ∃xs,KT H ii xs/\h.DictOfH (zZ (Dn P w)) a xs:=by
 obtain⟨z,y,xs,r,o,es,ep,h1,h2,h3,O,J⟩:=(show BP P w H h a (.dT ii) from VZ F e);refine⟨z,y,xs,r,o,es,ep,h1,h2,h3,O,λx hx=>?_,J⟩;have all:∀{l:List (List Aq×V)} {m:List (List Aq×Addr×Value)},KT H l m->∀x∈m,(zZ (Dn P w)).is h x.1 x.2.1:=by
  intro l m q
  induction q with
  |nil=>intro x hx;exact nomatch hx
  |@cons p q ps qs hq t ih =>
   intro x hx;rcases oG.mp hx with e|hx
   ·subst e;exact K2 F (by rw[<-hq.1];exact hq.2.1)
   ·exact ih x hx
 exact all r x hx
theorem lH(F:Bp P w H h)(e:H a=some (.dT ii)):ii.length<=oR/\(a == ui)=false /\
  ∃xs,KT H ii xs/\h.DictOfH (zZ (Dn P w)) a xs:=LN F (.inl e)
end
def DP(H:Hp)(a:Addr)(y:V)(r:Option V):Prop :=
 (∃ii k,Rd H a (.dK ii)/\y=kV k/\r=Bm ii k)\/∃ii k b,Rd H a (.dT ii)/\y=.ref b/\H b=some (.AF (k.map kV))/\r=Bm ii k
def FJ(H:Hp)(a:Addr)(y v:V)(H':Hp):Prop :=
 (∃ii k,H a=some (.dK ii)/\y=kV k/\ii.length<oR/\H'=AG H a (.dK (CM ii k v))) \/
 ∃ii k b,H a=some (.dT ii)/\y=.ref b/\H b=some (.AF (k.map kV))/\ii.length<oR/\H'=AG H a (.dT (CM ii k v))
theorem DP.k{k}(e:H a=some (.dK ii)):DP H a (kV k) (Bm ii k):=.inl ⟨ii,k,.inl e,G,G⟩
theorem DP.t{k}(e:H a=some (.dT ii))(F:H b=some (.AF (k.map kV))):DP H a (.ref b) (Bm ii k):=.inr ⟨ii,k,b,.inl e,G,F,G⟩
theorem FJ.k{k}(e:H a=some (.dK ii))(F:ii.length<oR):FJ H a (kV k) v (AG H a (.dK (CM ii k v))):=.inl ⟨ii,k,e,G,F,G⟩
theorem FJ.t{k}(e:H a=some (.dT ii))(F:H b=some (.AF (k.map kV)))(J:ii.length<oR):
  FJ H a (.ref b) v (AG H a (.dT (CM ii k v))):=.inr ⟨ii,k,b,e,G,F,J,G⟩
section
variable {X:Cx}{ge:List (Addr×Obj)}{σ:St}{H:Hp}{s:oq}{a:Addr}{y v:V}{u r:Value}{o:Option V}{A:qM}{E:Value->oq->Prop}
theorem AI.F1(I:AI X ge σ H s):ui<s.heap.objs.size:=by
 have h:rH<s.heap.objs.size:=(I.Cv.ET.keeps I.bk).lt;exact abA ∅ h
theorem Y5(hu:A.units+1<cLine)(I:AI X ge σ H s)(g:DP H a y (some v))(ry:Ao y u)(h:∀F s',AI X ge σ H s'->Ao v F->Q F s'):
  wpAny (model X.prog X.w) A (wZ (.ref a) u) Q E s:=by
 rcases g with ⟨ii,k,e,ey,l⟩|⟨ii,k,b,e,ey,eb,l⟩
 ·subst ey;obtain⟨z,hd,vs,rel,dd⟩:=J4 I.AY e;obtain⟨F,J,O⟩:=Fo.TZ (v:=v) (o:=y9 vs k) (by rw[l];exact rel.II k);exact wpAny_getItem_of (J1 ry) dd.mapOf J (h F _ (I.Cn _) O)
 ·subst ey;cases (show u=qA b from ry);obtain⟨z,hd,xs,rel,dd⟩:=LN I.AY e;obtain⟨F,J,O⟩:=Fo.TZ (v:=v) (o:=(atKey xs k).map (·.2)) (by rw[l];exact rel.II k);obtain⟨p,hp,aa⟩:=qe.mp J;refine wpAny_getItem_heap (wU hu) (K2 I.AY eb) dd hp ?_;rw[aa];exact h F _ (I.Cn _) O
theorem mu(hu:A.units+1<cLine)(I:AI X ge σ H s)(g:DP H a y o)(O:Ao y u)(h:∀s',AI X ge σ H s'->Q (.bool o.isSome) s'):
  wpAny (model X.prog X.w) A (r6 .In u (.ref a)) Q E s:=by
 rcases g with ⟨ii,k,e,J,l⟩|⟨ii,k,b,e,J,eb,l⟩
 ·subst J;obtain⟨z,hd,vs,rel,F⟩:=J4 I.AY e;refine wpAny_in_of (J1 O) hd F.mapOf ?_;rw[<-(rel.II k).Kl,<-l];exact h _ (I.Cn _)
 ·subst J;cases (show u=qA b from O);obtain⟨z,hd,xs,rel,F⟩:=LN I.AY e;refine wpAny_in_heap (wU hu) (K2 I.AY eb) hd F ?_;have q:=(rel.II k).Kl;rw[yR]at q;rw[<-q,<-l];exact h _ (I.Cn _)
theorem dP(hu:A.units+1<cLine)(I:AI X ge σ H s)(g:DP H a y o)(O:Ao y u)(h:∀s',AI X ge σ H s'->Q (.bool (!o.isSome)) s'):
  wpAny (model X.prog X.w) A (r6 .NotIn u (.ref a)) Q E s:=by
 rcases g with ⟨ii,k,e,J,l⟩|⟨ii,k,b,e,J,eb,l⟩
 ·subst J;obtain⟨z,hd,vs,rel,F⟩:=J4 I.AY e;refine wpAny_notIn_of (J1 O) hd F.mapOf ?_;rw[<-(rel.II k).Kl,<-l];exact h _ (I.Cn _)
 ·subst J;cases (show u=qA b from O);obtain⟨z,hd,xs,rel,F⟩:=LN I.AY e;refine wpAny_notIn_heap (wU hu) (K2 I.AY eb) hd F ?_;have q:=(rel.II k).Kl;rw[yR]at q;rw[<-q,<-l];exact h _ (I.Cn _)
theorem Oh(I:AI X ge σ H s)(F:Lu (H a))(hs:qr a s.heap h')(O:∃q,h'.get? a=some q)(aa:BP X.prog X.w (AG H a ob) h' a ob):
  AI X ge σ (AG H a ob) { s with heap:=h',toks:=t'} :=
 I.Fi (x:=a) (e:=a) F (.inl rfl) (λb q J z=>(hs.2 b J).trans z) O aa
theorem UL(z:ii.length<=oR)(hd:(a == ui)=false)(rel:KV ii vs)(F:h'.DictOf (Dn P w) a vs):
  BP P w H' h' a (.dK ii):=⟨z,hd,vs,rel,F⟩
theorem ZN(hu:A.units+1<cLine)(I:AI X ge σ H s)(g:FJ H a y v H')(ry:Ao y u)(rv:Ao v r)(h:∀s',AI X ge σ H' s'->Q Unit.unit s'):
  wpAny (model X.prog X.w) A (setItem (.ref a) u r) Q E s:=by
 rcases g with ⟨ii,k,e,ey,l,O⟩|⟨ii,k,b,e,ey,eb,l,O⟩
 ·subst ey O;obtain⟨z,hd,vs,rel,dd⟩:=V2 I.AY e;have hz:vs.length<=oR:=by rw[<-rel.length];exact z
  have hl:(CM ii k v).length<=oR:=by have:=Ly ii k v;lia
  refine wpAny_setItem_pairs (hsz:=hz) (J1 ry) dd λh' F hs=>h _ ?_
  have he:∃q,h'.get? a=some q:=let ⟨q,_,_,J,_⟩:=F;⟨q,J⟩
  exact Oh I (by rw[e];exact uh) hs he (UL hl hd (rel.put k rv) F)
 ·subst ey O;cases (show u=qA b from ry);obtain⟨z,hd,xs,rel,dd⟩:=lH I.AY e;have hz:xs.length<=oR:=by rw[<-Paired.length rel];exact z
  have hl:(CM ii k v).length<=oR:=by have:=Ly ii k v;lia
  refine wpAny_setItem_heap (hsz:=hz) (wU hu) (K2 I.AY eb) dd λh' F hs=>h _ ?_
  obtain⟨q,es,ep,J,h2,h3,h4,_,h5⟩:=F;refine Oh I (by rw[e];exact uh) hs ⟨q,J⟩ ⟨hl,hd,_,(rel.put k eb rv).keeps λc ys ec=>?_,q,es,ep,J,h2,h3,h4,h5⟩;rw[AV (Va ec e (λz=>nomatch z))];exact ec
end
section
variable {X:Cx}{ge:List (Addr×Obj)}{σ:St}{H:Hp}{s:oq}{a:Addr}{ii:List (Aq×V)}{k:Aq}{u:Value}{A:qM}{E:Value->oq->Prop}
theorem kI(I:AI X ge σ H s)(e:Rd H a (.dK ii))(h:∀t s',AI X ge σ H s'->Q (.int ii.length t) s'):wpAny (model X.prog X.w) A (call (.builtin "len") [.ref a]) Q E s:=by
 obtain⟨z,hd,vs,rel,F⟩:=J4 I.AY e;refine call_len_dict hd F (by rw[<-rel.length];rw[pD]at z;lia) ?_;rw[<-rel.length];exact h _ _ (I.Cn _)
end
def QF(i:Expr):Prop:=∀F J,aan i false F J=operate [F,J] (wZ F J)
theorem gU {T id:String}
  (hl:typeLookup (.type T) "__getitem__" = pure (some (.builtin id)))(hs:QF slice)
  (h:wpAny (model prog w) A (eval value env) (λo s₁=>wpAny (model prog w) A (eval slice env) (λi F=>F.TypeIs o T/\wpAny (model prog w) A (wZ o i) Q E F) E s₁) E s) :
  wpAny (model prog w) A (eval (.Subscript value slice pos) env) Q E s:=by
 refine acX (qR h (λo s₁ h₁=>qR h₁ (λi F J=>?_) λ_ _ x=>x) λ_ _ x=>x);obtain⟨hT,J⟩:=J;unfold aa9;refine oa ?_;rw[getitemInPython_of_ne hT.not_modules];refine oa (z9 hT hl ?_);have O:wpAny (model prog w) A (aan slice false o i) (λr s₃=>wpAny (model prog w) A (letTemporaryGo value o r >>= λ_=>pure r) Q E s₃) E F:=by
  rw[hs o i];exact wpAny_operating (qR J (λr s₃ h₃=>oa (wpAny_letTemporaryGo (ou h₃))) λ_ _ x=>x)
 first
  |exact ou (oa O)
  |exact oa (ou (oa O))
  |exact oa O
theorem X2(I:AI X ge σ H s)(g:DP H a y o):s.TypeIs (.ref a) "dict":=by
 rcases g with ⟨ii,k,e,_,_⟩|⟨ii,k,b,e,_,_,_⟩
 ·obtain⟨_,_,vs,_,F⟩:=J4 I.AY e;exact F.typeIs
 ·obtain⟨_,_,xs,_,F⟩:=LN I.AY e;exact F.typeIs
inductive VP(x y:V)(H:Hp)(Q:VK):Prop
 |mk (a:Addr) (v:V) (e:x=.ref a) (d:DP H a y (some v)) (q:Q v H):VP x y H Q
inductive V7(x y:V)(H:Hp)(Q:VK):Prop
 |mk (a:Addr) (o:Option V) (e:x=.ref a) (d:DP H a y o) (q:Q (.bl o.isSome) H):V7 x y H Q
inductive Vg(x y v:V)(H:Hp)(Q:Hp->Prop):Prop
 |mk (a:Addr) (F:Hp) (e:x=.ref a) (d:FJ H a y v F) (q:Q F):Vg x y v H Q
def NN(td ty:TE):TE:=λσ H Q=>td σ H λx H1=>ty σ H1 λy H2=>VP x y H2 Q
def mB(ty td:TE):TE:=λσ H Q=>ty σ H λy H1=>td σ H1 λx H2=>V7 x y H2 Q
def gW(ty td:TE):TE:=λσ H Q=>ty σ H λy H1=>td σ H1 λx H2=>∃a o,x=.ref a/\DP H2 a y o/\Q (.bl (!o.isSome)) H2
def V3(td ty tv:TE):TS:=λD σ H=>tv σ H λv H1=>td σ H1 λx H2=>ty σ H2 λy F=>Vg x y v F (D.nx σ)
section
variable {X:Cx}{o i e value:Expr}{pos pos' tpos:Pos}{td ty tv:TE}
theorem dG(hu:X.A.units+1<cLine)(ho:PE X o td)(hi:PE X i ty)(hs:QF i):PE X (.Subscript o i pos) (NN td ty):=by
 intro ge s σ H Q I h;refine gU PySem.F.slot_dict_getitem.lookup hs (AZ (ho ge s σ H _ I h) λu s1 ⟨x,H1,I1,O,q1⟩=>AZ (hi ge s1 σ H1 _ I1 q1) λiv s2 ⟨y,H2,J,ry,a,v,ex,g,q2⟩=>?_);subst ex;obtain rfl:u=qA a:=O;exact⟨X2 J g,Y5 hu J g ry λw' s3 I3 aa=>⟨v,H2,I3,aa,q2⟩⟩
theorem VD(hu:X.A.units+1<cLine)(hi:PE X i ty)(ho:PE X o td):PC X .In i o (mB ty td):=by
 intro ge s σ H Q I h;refine AZ (hi ge s σ H _ I h) λiv J ⟨y,H1,O,ry,q1⟩=>AZ (ho ge J σ H1 _ O q1) λu s2 ⟨x,H2,I2,F,a,ov,ex,g,q2⟩=>?_
 subst ex;obtain rfl:u=qA a:=F;exact mu hu I2 g ry λs3 I3=>⟨.bl ov.isSome,H2,I3,G,q2⟩
theorem L5(hu:X.A.units+1<cLine)(hi:PE X i ty)(ho:PE X o td):PC X .NotIn i o (gW ty td):=by
 intro ge s σ H Q I h;refine AZ (hi ge s σ H _ I h) λiv J ⟨y,H1,O,ry,q1⟩=>AZ (ho ge J σ H1 _ O q1) λu s2 ⟨x,H2,I2,F,a,ov,ex,g,q2⟩=>?_
 subst ex;obtain rfl:u=qA a:=F;exact dP hu I2 g ry λs3 I3=>⟨.bl (!ov.isSome),H2,I3,G,q2⟩
theorem Jj(hu:X.A.units+1<cLine)(ho:PE X o td)(hi:PE X i ty)(hv:PE X value tv)(hs:yC value (some (.Subscript o i pos')) pos.line X.env=pure false):
  PS X (.Assign [.Subscript o i pos'] value pos) (V3 td ty tv):=by
 intro ge s σ H D I h;refine wpAny_Assign_Subscript (AZ (hv ge s σ H _ I h) λr J ⟨v,H1,O,rv,q1⟩=>AZ (ho ge J σ H1 _ O q1) λu s2 ⟨x,H2,I2,F,q2⟩=>AZ (hi ge s2 σ H2 _ I2 q2) λiv s3 ⟨y,H3,I3,ry,a,H4,ex,g,q3⟩=>?_) hs;subst ex;obtain rfl:u=qA a:=F;exact ZN hu I3 g ry rv λs4 I4=>⟨σ,H4,I4,q3⟩
end
theorem SW(h:Heap)(F:ui<h.objs.size):BP P w H (h.push { cls:=.type "dict",data:=.dict #[]}) h.objs.size (.dK []) :=
 ⟨o9 _,beq_eq_false_iff_ne.mpr (qp (o6 F)),[],.nil,Heap.DictOf.new h⟩
theorem bI(h:Heap)(F:ui<h.objs.size):BP P w H (h.push { cls:=.type "dict",data:=.dict #[]}) h.objs.size (.dT []) :=
 ⟨o9 _,beq_eq_false_iff_ne.mpr (qp (o6 F)),[],.nil,_,#[],0,oJ _ rfl,⟨G,G,G⟩,G,G,aaD⟩
def Ud:TE:=λ_ H Q=>∀p,H p=none->Q (.ref p) (AG H p (.dK []))
def jH:TE:=λ_ H Q=>∀p,H p=none->Q (.ref p) (AG H p (.dT []))
section
variable {X:Cx}{pos:Pos}
theorem OU:PE X (.Dict [] [] pos) Ud:=λge s σ H Q I h =>
 wpAny_Dict_empty ⟨.ref s.heap.objs.size,_,I.laid (a:=s.heap.objs.size) (o:=.dK []) (t':=s.toks) (λ_ _ q=>oo _ q) (oz _) (SW s.heap I.F1),G,h _ (I.AY.fresh (oz _))⟩
theorem bG:PE X (.Dict [] [] pos) jH:=λge s σ H Q I h =>
 wpAny_Dict_empty ⟨.ref s.heap.objs.size,_,I.laid (a:=s.heap.objs.size) (o:=.dT []) (t':=s.toks) (λ_ _ q=>oo _ q) (oz _) (bI s.heap I.F1),G,h _ (I.AY.fresh (oz _))⟩
end
def PN:List (TE×TE)->St->Hp->(List (V×V)->Hp->Prop)->Prop
 |[],_,H,Q=>Q [] H
 |(tk,tv) :: r,σ,H,Q=>tk σ H λx H1=>tv σ H1 λy H2=>PN r σ H2 λps F=>Q ((x,y) :: ps) F
abbrev VV:List (V×V)->List (Value×Value)->Prop:=wO λp q=>Ao p.1 q.1/\Ao p.2 q.2
def N5(X:Cx)(pos:Pos)(O:List (Option Expr))(F:List Expr)(J:List (TE×TE)):Prop :=
 ∀(ge:List (Addr×Obj)) (s:oq) (σ:St) (H:Hp) (Q:List (V×V)->Hp->Prop),AI X ge σ H s->PN J σ H Q →
  wpAny (model X.prog X.w) X.A (evalPairs (pairTrees O F X.env pos)) (λvs s'=>∃ps H',AI X ge σ H' s'/\VV ps vs/\Q ps H') X.xe s
theorem eC:N5 X pos [] [] []:=λge s σ H Q I h=>pairTrees_nil_walk ⟨[],H,I,.nil,h⟩
theorem cK(hk:PE X k tk)(hv:PE X v tv)(O:N5 X pos ks vs trs):
  N5 X pos (some k :: ks) (v :: vs) ((tk,tv) :: trs):=λge s σ H Q I h =>
 pairTrees_cons_walk (AZ (hk ge s σ H _ I h) λu J ⟨x,H1,I1,F,q1⟩=>AZ (hv ge J σ H1 _ I1 q1) λw2 s2 ⟨y,H2,I2,ry,q2⟩=>
  AZ (O ge s2 σ H2 _ I2 q2) λws s3 ⟨ps,H3,I3,rel,q3⟩=>⟨(x,y) :: ps,H3,I3,.cons ⟨F,ry⟩ rel,q3⟩)
def Gj(ii J:List (Aq×V)):List (Aq×V):=J.foldl (λO F=>CM O F.1 F.2) ii
theorem KV.ko:∀{F:List (Aq×V)} {rs:List (Aq×Value)} {ii:List (Aq×V)} {vs:List (Aq×Value)},KV F rs->KV ii vs->KV (Gj ii F) (merged vs rs):=by
 intro F rs ii vs r;unfold KV at r
 induction r generalizing ii vs with
 |nil=>intro q;exact q
 |@cons p q ps qs h t ih =>
  intro J;have e:KV (CM ii p.1 p.2) (stored vs q.1 q.2):=by
   have:=J.put p.1 h.2
   rw[<-h.1];exact this
  exact ih e
theorem Qs:∀(F ii:List (Aq×V)),(Gj ii F).length<=ii.length+F.length
 |[],ii=>by show ii.length<=ii.length+0;lia
 |p :: r,ii=>by
  have h1:=Qs r (CM ii p.1 p.2);have h2:=Ly ii p.1 p.2;show(Gj (CM ii p.1 p.2) r).length<=_;rw[pk];lia
theorem RC:∀{ii:List (Aq×V)} {J:List (Value×Value)},VV (ii.map λF=>(kV F.1,F.2)) J->∃rs,Carries (Dn P w) J rs/\KV ii rs
 |[],_,r=>by rw[rT]at r;cases r;exact⟨[],uh,.nil⟩
 |p :: ii,_,r=>by
  rw[oP]at r;cases r with
  |@cons a b as bs h t =>
   obtain⟨rs,c,q⟩:=RC (P:=P) (w:=w) t;obtain⟨b1,O⟩:=b;exact⟨(p.1,O) :: rs,⟨J1 h.1,G,c⟩,.cons ⟨G,h.2⟩ q⟩
def kN(J:List (TE×TE)):TE:=λσ H Q=>∀p,H p=none->PN J σ (AG H p (.dK [])) λps H2=>H2 p=some (.dK [])/\∃ii:List (Aq×V),ps=ii.map (λF=>(kV F.1,F.2))/\ii.length<=15/\Q (.ref p) (AG H2 p (.dK (Gj [] ii)))
theorem fV (h:N5 X pos keys values trs)(ab:keys.all (·.isSome)=true)(hl:keys.length=values.length)(h0:keys≠[])
  (aa:keys.length<=15):PE X (.Dict keys values pos) (kN trs):=by
 intro ge s σ H Q I q;have hn:=I.AY.fresh (oz s.heap.objs.size);have I1:=I.laid (a:=s.heap.objs.size) (o:=.dK []) (h':=s.heap.push { cls:=.type "dict",data:=.dict #[]}) (t':=s.toks) (λ_ _ q=>oo _ q) (oz _) (SW s.heap I.F1);refine wpAny_Dict_walk (knd:=Dn X.prog X.w) ab hl h0 aa (AZ (h ge _ σ _ _ I1 (q _ hn)) λws s2 ⟨ps,H2,F,rel,e,ii,ep,lk,q2⟩=>?_);subst ep;obtain⟨rs,c,O⟩:=RC (P:=X.prog) (w:=X.w) rel;obtain⟨z,hd,ac,r0,dd⟩:=V2 F.AY e;cases r0;refine⟨rs,c,dd,λh' J hs=>⟨.ref s.heap.objs.size,_,?_,G,q2⟩⟩;have hz:(Gj [] ii).length<=oR:=by
  have h1:=Qs ii [];rw[rV]at h1;rw[pD];lia
 have he:∃q,h'.get? s.heap.objs.size=some q:=let ⟨q,_,_,hq,_⟩:=J;⟨q,hq⟩
 exact Oh F (by rw[e];exact uh) hs he (UL hz hd (O.ko .nil) J)
end L2
namespace Att
open PySem PySem.W PySem.Calls PyProof.Rows
theorem Xg:∀(ns:List Int) (vs:List Value),WellAll P h vs (ns.map WData.int)->sv vs ns:=by
 intro ns
 induction ns with
 |nil =>
  intro vs w;rw[rT]at w;cases w;exact .nil
 |cons n ns ih =>
  intro vs w;rw[oP]at w;cases w with
  |cons a b =>
   cases a;exact .cons _ _ (ih _ b)
theorem Zn {l:OpenLaw}(hn:l.most=some n)
  (aa:l.row.toRowW.claim.pre args=true)(ac:WellAll P h vals args) :
  ∃a vs ns,vals=[qA a]/\args=[WData.list (ns.map WData.int)]/\h.get? a=some { cls:=.type "list",data:=.seq vs.toArray}/\sv vs ns/\ns.length<=n:=by
 have ab:WShape.hasAll [] args [.list .int]=true:=(pre_splitW aa).1;have O:l.pre.holds [] { args:=args}=true:=(pre_splitW aa).2;obtain⟨d,r,rfl,h1,h2⟩:=hasAllW_cons ab;obtain rfl:=hasAllW_nil h2;obtain⟨xs,rfl,h3⟩:=hasW_list h1;obtain⟨ns,rfl⟩:=items_int h3;have ad:ns.length<=n:=by
  unfold OpenLaw.pre at O;have J:(WTm.not (.lt (.lit (.int (n:Int))) (.len (.arg 0)))).holds [] { args:=[.list (ns.map .int)]}=true:=by
   have J:=(holds_andW O).1;rw[hn]at J;exact J
  have F:=condW_of J (w_not (w_lt w_lit (w_len_list (w_arg rfl))));rw[kb]at F;refine Nat.le_of_not_lt λq=>?_
  have q':(n:Int)<((ns.length:Nat):Int):=by omega
  first
   |(rw[qC q']at F;exact absurd F ∅)
   |(simp at F;omega)
 cases ac with
 |cons w1 w2 =>
  cases w2;cases w1 with
  |list ho hall=>exact⟨_,_,ns,G,G,ho,Xg ns _ hall,ad⟩
theorem Y8(l:OpenLaw)(args:List WData):l.row.toRowW.claim.post args (.bool true) args=true :=
 postW_of (r:=l.row.toRowW) (X:=(true == true))
  (show WShape.has [] (.bool true) .bool=true by first|rfl|decide|simp[WShape.has,WShape.arms,WShape.armsAll])
  (show(WTm.eq .res (.lit (.bool true))).value [] { args:=args,res:=some (.bool true),after:=args}=some (.bool (true == true)) from w_eq_bool (w_res rfl) w_lit) rfl
theorem X6 {l:OpenLaw}{n:Nat}{q:pG}{aa:List Str}{XP:(Str->Option Value)->Heap->Prop}{YP:World->Heap->Prop}{d:DefRec}
  (hn:l.most=some n)(ac:d.params.defaults=[])
  (ad:∀(w:World) (s₀ F:oq) (mg mb:Str->Option Value) (J:Addr) (o:Obj) (pm O doc:Value) (a:Addr) (vs:List Value) (ns:List Int),
   Ground q aa [] XP w s₀ mg mb F.heap->YP w F.heap →
   F.heap.get? J=some o->o.data=.func (docDef d.name d.params d.body d.scope pm O doc)->F.heap.CodeRec O d.name->mg d.name=some (.ref J) →
   F.heap.get? a=some { cls:=.type "list",data:=.seq vs.toArray}->sv vs ns->ns.length<=n->F.gens = #[] →
   vV (model l.prog w) y8 (.call (.ref J) ⟨[.ref a],[]⟩) (λr s'=>r=.ok (.ret (.bool true))/\OldK F.heap s'.heap/\s'.os=F.os/\xx s'.gens) F) :
  WalkO q aa XP YP l.row.toRowW d [] (λf vs=>acV f vs):=by
 intro w s₀ F mg mb G Y J o pm O doc dV kV ho hd ai hD aj hg args ao as af al ak ag am;obtain rfl:dV=.none:=Dflts.none hD ac;obtain rfl:kV=.none:=Dflts.noKw hD;obtain⟨a,vs,ns,rfl,rfl,ab,ae,ah⟩:=Zn hn af ag;refine enter_call (vW (ad w s₀ F mg mb J o pm O doc a vs ns G Y ho (fd_plain hd) ai aj ab ae ah hg) λr s' hq=>?_);obtain⟨rfl,h2,h3,h4⟩:=hq;exact⟨.inl ⟨.bool true,.bool true,[],rfl,λ_=>rfl,.bool true,Y8 l _,λ_=>⟨yQ,λ_ hm=>(nomatch hm)⟩⟩,h2,h3,h4⟩
end Att
namespace L2
open PySem PySem.Spec PyProof.Rows
theorem RS:∀{vs:List Value} {ns:List Int},sv vs ns->Af (ns.map V.int) vs
 |_,_,.nil=>.nil
 |_,_,.cons n t h=>.cons ⟨t,G⟩ (RS h)
def F6(s:Stmt):vC:=match s with
 |.FunctionDef _ a _ _ _ _ _ _ _ _=>a
 |_=>{ posonlyargs:=[],args:=[],vararg:=none,kwonlyargs:=[],kw_defaults:=[],kwarg:=none,defaults:=[]}
def Eh(s:Stmt):List Stmt:=match s with
 |.FunctionDef _ _ b _ _ _ _ _ _ _=>b
 |_=>[]
def Ac(s:Stmt):Scope:=match s with
 |.FunctionDef _ _ _ _ _ _ sc _ _ _=>sc
 |_=>{ kind:=.function,names:=[],isGenerator:=false,isCoroutine:=false}
abbrev Ae:IE:=λ_ _ _ _ _ _=>False
abbrev E0:XK:=λ_ _ _=>False
theorem kO:PY Ae X E0:=λ_ _ _ _ _ _ _ h=>h.elim
structure Fun(K:ow)(x qual:Str)(st:Stmt)(f:Addr)(fd:qU):Prop where
 ex:∃(oc:Value) (od:Option Addr) (kV doc pm:Value) (an:Option Addr) (im ct:Value) (osl:Array (Option Value)),
  fd=sZ x qual (F6 st) (Eh st) (Ac st) .none kV doc pm an im ct/\K.lookup f=some ⟨oc,od,.func fd,osl⟩/\yg K im qual=true
 kp:KP K f
section
variable {P:pG}{w:World}{K:ow}{mg:Str->Option Value}{base:Heap}
theorem Fun.ok {x qual:Str}{st:Stmt}{f:Addr}{fd:qU}{N ps:List Str}{k:Nat}{sp:Sp}(F:Fun K x qual st f fd)(S:An N ps (Ac st))(O:∀vs H Q E,sp vs H Q E->vs.length=ps.length)
  (ac:∀(im:Value) (A:qM) (J:List Env) (s:oq) (H:Hp) (vs:List V) (Q:VK) (E:XK),Room k (A.deeper (xS qual (Ac st) s.heap.objs.size f im))->sp vs H Q E →
   ∃t,Cd (IB Ae P w K mg base N qual (Ac st) f im A J s H E).JG (Eh st) t/\t { nx:=λ_ H'=>Q .Ay H',rt:=Q} (GC N vs) H):Ai P w K mg base Ae (k+1) f fd ps sp:=by
 obtain⟨oc,od,kV,doc,pm,an,im,ct,osl,rfl,lk,ab⟩:=F.ex;refine VL lk ab S O λA J s H vs Q E hr aa=>?_
 obtain⟨t,h,q⟩:=ac im A J s H vs Q E hr aa;exact⟨t,h.JG,q⟩
theorem Fun.NQ {st:Stmt}(F:Fun K x qual st f fd)
  (h:∀(kV doc pm:Value) (an:Option Addr) (im ct:Value) (J:List Value),J.length=ps.length->wc (sZ x qual (F6 st) (Eh st) (Ac st) .none kV doc pm an im ct) ⟨J,[]⟩=pure (ps.zip J)):Eo K fd ps []:=by
 obtain⟨oc,od,kV,doc,pm,an,im,ct,osl,rfl,O,aa⟩:=F.ex;exact .all (h kV doc pm an im ct)
theorem UN {st:Stmt}{kV doc pm im ct:Value}(l:K.lookup f=some ⟨oc,od,.func (sZ x qual (F6 st) (Eh st) (Ac st) .none kV doc pm an im ct),osl⟩)
  (c:yg K im qual=true)(k:KP K f):Fun K x qual st f (sZ x qual (F6 st) (Eh st) (Ac st) .none kV doc pm an im ct):=⟨⟨oc,od,kV,doc,pm,an,im,ct,osl,G,l,c⟩,k⟩
end
theorem Hh(F:Room k A):A.units+1<cLine:=rD (Nat.add_le_add_left (by decide:1<=64) _) F.units
section
variable {X:Cx}
theorem pv (i:Nat){x:Str}{pos:Pos}(F:X.N[i]?=some x:=by rfl)(J:Qg X.env.scope x:=by first|exact qL rfl|exact abE (qL rfl)|exact abE (abE rfl))(hd:(x == ("__debug__":Str))=false:=by decide)
  (O:(x == ("__classdict__":Str))=false:=by decide):PE X (.Name x pos) (Ag i):=iL F J hd O
end
theorem Br{A B:Prop}(h:B):if false=true then A else B:=by
 rw[oC o8];exact h
theorem FO{A B:Prop}(h:A):if true=true then A else B:=by
 rw[oH rfl];exact h
theorem Nq{c A B:Prop}[Decidable c](h1:c->A)(h2:¬c->B):if c then A else B:=by
 by_cases h:c
 ·rw[oH h];exact h1 h
 ·rw[oC h];exact h2 h
theorem Hd{c A B:Prop}[Decidable c](F:c)(h:B):if (!decide c)=true then A else B:=by
 rw[qC F];exact Br h
def AK(H H':Hp):Prop:=∀b o,H b=some o->H' b=some o
theorem AK.refl(H:Hp):AK H H:=λ_ _ h=>h
theorem AK.trans(a:AK H H1)(b:AK H1 H2):AK H H2:=λc o h=>b c o (a c o h)
theorem AK.free(e:AK H H')(h:H' l=Option.none):H l=Option.none:=by
 cases q:H l with
 |none=>rfl
 |some o =>
  rw[e l o q]at h;cases h
theorem AK.seq{K:ow}(e:AK H H')(h:AJ K H a xs):AJ K H' a xs:=by
 rcases h with (h|⟨o,h⟩)|h
 ·exact .inl (.inl (e _ _ h))
 ·exact .inl (.inr ⟨o,e _ _ h⟩)
 ·exact .inr h
section
variable {X:Cx}
theorem OJ:Cr X (.builtin "len") (λxs H Q=>∃a ii,xs=[V.ref a]/\H a=some (.dK ii)/\Q (.int ii.length) H):=by
 intro ge s σ H xs us Q I r h;obtain⟨a,ii,rfl,F,q⟩:=h;obtain⟨u,rfl,J⟩:=FI r;cases J;exact kI I (.inl F) λt s' O=>⟨.int ii.length,H,O,⟨t,G⟩,q⟩
variable {K:ow}{H:Hp}{a:Addr}{xs:List V}
theorem AH.up(h:AH [] H a xs):AH K H a xs:=h.elim .inl λ⟨_,_,_,e,_⟩=>nomatch e
theorem AJ.up(h:AJ [] H a xs):AJ K H a xs:=h.elim .inl λ⟨_,_,_,e,_⟩=>nomatch e
def wk(t:TE):TE:=λσ H Q=>∃F,t σ H F/\∀x H,F x H->Q x H
theorem PE.wk(h:PE X e t):PE X e (L2.wk t):=λge s σ H Q I ⟨_,h1,h2⟩=>AZ (h ge s σ H _ I h1) λ_ _ ⟨v,H',F,r,q⟩=>⟨v,H',F,r,h2 _ _ q⟩
theorem Fn.mono{P:pG}{w:World}{tg:pJ}{J F:It}{fp:List Addr}{it:Addr}{tn:Nat->Heap->Prop}(T:Fn P w K tg J fp it tn)(g:∀i H,F.go i H->J.go i H)(y:∀i H x H',J.De i H x H'->F.De i H x H')(d:∀i H,F.DZ i H->J.DZ i H):Fn P w K tg F fp it tn where
 mem:=T.mem
 Cw:=T.Cw
 keep:=T.keep
 item:=λX hP O hK hc i ge s σ H E I hf st hg=>AZ (T.item X hP O hK hc i ge s σ H E I hf st (g _ _ hg)) λ_ _ ⟨u,e,q⟩=>⟨u,e,AZ q λ_ _ ⟨x,H',I',r,z,t,n⟩=>⟨x,H',I',r,y _ _ _ _ z,t,n⟩⟩
 done:=λX hP O hK hc i ge s σ H E I hf st hg=>T.done X hP O hK hc i ge s σ H E I hf st (d _ _ hg)
 self:=T.self
theorem Lp.up(h:Lp [] T x H):Lp K T x H:=match x,h with
 |.str _,h=>h
 |.int _,h=>h
 |.ref _,.inl ⟨e,xs,h⟩=>.inl ⟨e,xs,h.up⟩
 |.ref _,.inr (.inl ⟨_,_,h,_⟩)=>nomatch h
 |.ref _,.inr (.inr h)=>.inr (.inr h)
end
def Ci(X:Cx)(scope:Scope)(cl:List (Str×Addr))(C:Addr)(Nc:List Str)(ex:List Addr)(ge:List (Addr×Obj))(s₀:oq)(H₀:Hp):Cx where
 prog:=X.prog
 w:=X.w
 K:=X.K
 mg:=X.mg
 base:=X.base
 A:=X.A
 N:=Nc
 s₀:=s₀
 H₀:=H₀
 env:=compEnvC scope cl C X.env
 outer:=X.DE
 DE:=X.DE
 ex:=ex
 fn:=λy=>scope.names.lookup y == some .local
 B9:=true
 pn:=X.pn++ge
 xe:=λ_ _=>False
structure Gb(X:Cx)(scope:Scope)(cl:List (Str×Addr))(Nc:List Str)(cap:List (Nat×Nat)):Prop where
 Nr:xR scope X.env=pure cl
 kind:scope.kind=.function
 names:∀y∈scope.names,y.2=.local->scope.names.lookup y.1=some .local
 ig:∀y∈scope.names,y.2≠.cell
 sub:∀x c,cl.lookup x=some c->X.env.cells.lookup x=some c/\scope.names.lookup x≠some .local
 has:∀x,((yn scope X.env).names.lookup x=some .cell\/(yn scope X.env).names.lookup x=some .free)->∃c,cl.lookup x=some c
 lS:∀j i,(j,i)∈cap->∃x c,Nc[j]?=some x/\X.N[i]?=some x/\cl.lookup x=some c/\X.env.scope.names.lookup x=some .cell/\(yn scope X.env).names.lookup x=some .cell
theorem gH (aa:xR scope X.env=pure cl)(kind:scope.kind=.function)(names:∀y∈scope.names,y.2=.local->scope.names.lookup y.1=some .local)(O:∀y∈scope.names,y.2≠.cell)
  (J:∀p∈cl,X.env.cells.lookup p.1=some p.2/\scope.names.lookup p.1=some .free)(ab:((yn scope X.env).names.all λp=>(p.2 != .cell && p.2 != .free) || (cl.lookup p.1).isSome)=true)
  (ac:∀p∈cap,∃x c,Nc[p.1]?=some x/\X.N[p.2]?=some x/\cl.lookup x=some c/\X.env.scope.names.lookup x=some .cell/\(yn scope X.env).names.lookup x=some .cell):Gb X scope cl Nc cap :=
 ⟨aa,kind,names,O,λx c e=>⟨(J (x,c) (sR e)).1,λz=>by
  have:=(J (x,c) (sR e)).2
  rw[z]at this;cases this⟩,λx e=>by
  have F:∀k,(yn scope X.env).names.lookup x=some k->(k=.cell\/k=.free)->∃c,cl.lookup x=some c:=λk e hk=>by
   have:=ze.mp ab (x,k) (sR e)
   rcases hk with rfl|rfl
   ·exact ve.mp (by simpa using this)
   ·exact ve.mp (by simpa using this)
  rcases e with e|e
  ·exact F _ e (.inl rfl)
  ·exact F _ e (.inr rfl),λj i m=>ac (j,i) m⟩
def Il(n:Nat)(cap:List (Nat×Nat))(σ:St):St:=(oN n).map λj=>((cap.find? λp=>p.1 == j).bind λp=>σ[p.2]?).bind id
theorem Zh(h:(Il n cap σ)[j]?=some (some v)):∃i,(j,i)∈cap/\σ[i]?=some (some v):=by
 unfold Il at h;rw[om]at h;cases e:(oN n)[j]? with
 |none=>rw[e]at h;cases h
 |some k =>
  rw[e]at h;have F:k=j:=by
   obtain⟨J,q⟩:=oh.mp e;rw[yy]at q;exact q.symm
  subst F;simp only[vJ,xh]at h;cases f:cap.find? λp=>p.1 == k with
  |none=>rw[f]at h;cases h
  |some p =>
   rw[f]at h;have h1:=yY f;have h2:p.1=k:=by
    have:=acM f
    exact eq_of_beq this
   exists p.2,?_
   ·rw[<-h2];exact h1
   ·simp only[xv]at h;cases g:σ[p.2]? with
    |none=>rw[g]at h;cases h
    |some o=>rw[g]at h;simpa using h
section
variable {X:Cx}{ge:List (Addr×Obj)}{σ:St}{H:Hp}{s:oq}{scope:Scope}{cl:List (Str×Addr)}{Nc:List Str}{cap:List (Nat×Nat)}{fp:List Addr}
theorem aG (I:AI X ge σ H s)(ad:X.B9=true)(S:Gb X scope cl Nc cap)(aa:∀b∈fp,Fu X ge H b)(af:∀b∈fp,∃o,s.heap.get? b=some o)(hC:s.heap.objs.size<=C)
  (hn:h1.Ns C m)(J:∀b o,s.heap.get? b=some o->h1.get? b=some o):AI (Ci X scope cl C Nc fp ge s H) [] (Il Nc.length cap σ) H { s with heap:=h1,toks:=tk}:=by
 have ac:∀b o,s.heap.get? b=some o->b≠C:=λb o e=>o6 (pX (oK e) hC)
 exists ⟨I.ok.Cv,S.kind,I.ok.ET,I.ok.KR,hC,λx y c O e2=>?_,λx hx=>S.has x hx,λx c O e2=>?_,λ_=>I.ok.hd ad,I.ok.frames,.inl rfl,λb F=>⟨?_,λx c e=>?_⟩,I.bs,oO I.ok.GW I.sz,λb o e F=>?_,λb F z=>?_,I.DE,I.Te⟩,
  rfl,I.C5,Un.Bf J,⟨m,hn,λj x v O e2 e3=>?_⟩,λx c e=>?_,I.AY.fresh hC,λx c e=>?_,λp hp=>?_,I.AY.Bf J
 ·exact I.ok.inj x y c (S.sub x c O).1 (S.sub y c e2).1
 ·exact absurd (beq_iff_eq.mp O) (S.sub x c e2).2
 ·obtain⟨o,e⟩:=af b F;exact ac b o e
 ·exact(aa b F).2.2.2.2.1 x c (S.sub x c e).1
 ·rcases(aa b F).2.2.2.1 with z|z
  ·exact I.ok.LU b o e z
  ·exact absurd (pX (oK e) (oO I.ok.GW z)) (tD _)
 ·rcases oG.mp (I.M9 b z)with z|z
  ·exact(aa b F).2.1 z
  ·exact(aa b F).2.2.1 z
 ·obtain⟨i,hm,hv⟩:=Zh e2;obtain⟨x',c,q1,q2,q3,q4,q5⟩:=S.lS j i hm;have ab:Nc[j]?=some x:=O;rw[q1]at ab;cases ab;obtain⟨mo,_,hl⟩:=I.D4;obtain⟨u,r,l⟩:=hl i x v q2 hv (.inr (.inl q4));exists u,r;rcases l with ⟨k,_⟩|⟨_,c',e',z⟩
  ·have k':X.env.scope.names.lookup x=some .local:=k;rw[q4]at k';cases k'
  ·have:c'=c:=oV (e'.symm.trans (S.sub x c q3).1)
   subst this;obtain⟨o,ho,hd⟩:=z;exact .inr ⟨.inl q5,c',q3,⟨o,J _ _ ho,hd⟩⟩
 ·obtain⟨v,o,ho,hd⟩:=I.cell x c (S.sub x c e).1;exact⟨v,o,J _ _ ho,hd⟩
 ·exact I.FH x c (S.sub x c e).1
 ·have ae:p∈X.pn++ge:=by
   have z:p∈(X.pn++ge)++[]:=hp;rw[qS]at z;exact z
  obtain⟨e,n,ne,nf,d⟩:=I.pin p ae;refine⟨J _ _ e,n,ac _ _ e,λz=>?_,d⟩;rcases oG.mp (I.M9 p.1 z)with z|z
  ·exact ne z
  ·exact nf z
 ·show(Il Nc.length cap σ).length=Nc.length;unfold Il;rw[kb,pC]
theorem Zc(I:AI X ge σ H s)(aa:∀b∈fp,Fu X ge H b)(J:AI (Ci X scope cl C Nc fp ge s H) [] σc H' s')(hs:qr C s'.heap h'):AI X ge σ H' { s' with heap:=h'}:=by
 have hC:s.heap.objs.size<=C:=J.ok.above;have ab:∀b o,s.heap.get? b=some o->b≠C:=λb o e=>o6 (pX (oK e) hC)
 have u:=J.base;refine I.j8 (s':={ s' with heap:=h'}) (ch:=fp) J.os ⟨λb o e n F O=>?_,λb o e n F O=>?_,u.free,λb o e O=>?_,u.JA,u.Hz,u.Hs⟩ (λb o e=>?_) J.C5 λb F=>⟨(aa b F).2.2.2.1,(aa b F).2.1,(aa b F).2.2.2.2.1,(aa b F).2.2.2.2.2⟩
 ·exact(hs.2 b (ab b o e)).trans (u.keep b o e n F O)
 ·obtain⟨sl,q⟩:=u.slot b o e n F O;exact⟨sl,(hs.2 b (ab b o e)).trans q⟩
 ·obtain⟨o',q⟩:=u.Hf b o e O;exact⟨o',(hs.2 b (ab b o e)).trans q⟩
 ·refine(J.AY b o e).Fp (λc v hc q=>(hs.2 c ?_).trans q) (λ_ q=>q) λ_ _ q=>q
  intro z;subst z;have fr:H' c=none:=J.free;rcases hc with hc|hc
  ·rw[hc]at fr;rw[fr]at e;cases e
  ·rw[fr]at hc;cases hc
end
def NK(n:Nat)(cap:List (Nat×Nat))(wi:TI)(g:TG)(te:TE):TE:=λσ H Q=>wi σ H λJ H1=>∀F,H1 F=none →
 ∃W:Nat->Nat->List V->St->Hp->Prop,(∃m,W 0 m [] (Il n cap σ) (AG H1 F (.AE [])))/\∀i m ys σc H2,W i m ys σc H2 →
  (J.DZ i H2/\Q (.ref F) H2)\/(J.go i H2/\∀x H3,J.De i H2 x H3->g x σc H3 λσ4 H4=>te σ4 H4 λv H5=>H5 F=some (.AE ys)/\ys.length<oR/\∃O,O<m/\W (i+1) O (ys++[v]) σ4 (AG H5 F (.AE (ys++[v]))))
def Jn(n:Nat)(cap:List (Nat×Nat))(wi:TI)(g:TG)(tt:TT)(te:TE):TE:=λσ H Q=>wi σ H λJ H1=>∀F,H1 F=none →
 ∃W:Nat->Nat->List V->St->Hp->Prop,(∃m,W 0 m [] (Il n cap σ) (AG H1 F (.AE [])))/\∀i m ys σc H2,W i m ys σc H2 →
  (J.DZ i H2/\Q (.ref F) H2)\/(J.go i H2/\∀x H3,J.De i H2 x H3->g x σc H3 λσ4 H4=>tt σ4 H4 λok H5=>if ok=true then (te σ4 H5 λv H6=>H6 F=some (.AE ys)/\ys.length<oR/\∃O,O<m/\W (i+1) O (ys++[v]) σ4 (AG H6 F (.AE (ys++[v])))) else ∃O,O<m/\W (i+1) O ys σ4 H5)
def Lw(X:Cx)(ifs:List pJ)(tt:TT):Prop:=∀(ge:List (Addr×Obj)) (s:oq) (σ:St) (H:Hp) (Q:Bool->Hp->Prop),AI X ge σ H s->tt σ H Q →
 wpAny (model X.prog X.w) X.A (forIn ifs true λc r=>if r=true then do let F <-isTrue c X.env (eval c X.env);pure (vD F) else pure (vD r)) (λF s'=>∃H',AI X ge σ H' s'/\Q F H') X.xe s
theorem gD(h:PT X c tt):Lw X [c] tt:=λge s σ H Q I q=>wpAny_tests_one (h ge s σ H Q I q)
theorem S4:Lw X [] (λ_ H Q=>Q true H):=λ_ _ _ H _ I q=>wpAny_tests_nil ⟨H,I,q⟩
section
variable {prog:pG}{w:World}{A:qM}{s:oq}
theorem Xr (I:Nat->oq->Prop)
  (ab:∀n s,I n s->wpAny (model prog w) A (vh it) (λr J=>match r with
   |none=>R (.ok .next) J
   | some v=>wpAny (model prog w) A (xT tg it v) (λ_ aa=>wpAny (model prog w) A (zB tg env v) (λ_ s₂ =>
     wpAny (model prog w) A (forIn ifs true λc r=>if r=true then do let F <-isTrue c env (eval c env);pure (vD F) else pure (vD r)) (λF O=>if F=true then
      wpAny (model prog w) A (eval elt env) (λx s₄ =>
       wpAny (model prog w) A (call (.builtin "list.append") [acc,x]) (λ_ s₅=>∃m,m<n/\I m s₅) (λ_ _=>False) s₄) (λ_ _=>False) O
      else ∃m,m<n/\I m O) (λ_ _=>False) s₂)
     (λ_ _=>False) aa) (λ_ _=>False) J) (notedBy (model prog w) A env λe s'=>R (.error e) s') s)
  (n:Nat) (h:I n s):vV (model prog w) A (.compLoop (.ListComp elt [⟨tg,iter,ifs,0⟩] scope pos) 0 it acc env) R s:=by
 refine codeAny_loop rfl I (λn s hI=>?_) n h;show wpAny _ A ((compTurn (.ListComp elt [⟨tg,iter,ifs,0⟩] scope pos) 0 it acc env).onRaise (λx=>do noteFrame x env;theTreesLotGoes x)) _ _ s;refine wpAny_noted ?_;rw[compTurn_list];refine oa (xt (oa (qR (ab n s hI) (λr J h₁=>?_) λ_ _ h'=>h')));cases r with
 |none=>exact ou h₁
 |some v =>
  refine oa (qR h₁ (λ_ aa ac=>?_) λ_ _ h'=>qP h');refine oa (qR ac (λ_ s₂ h₂=>oa (qR h₂ (λF O h₃=>?_) λ_ _ h'=>qP h')) λ_ _ h'=>qP h');cases F with
  |false=>exact ou ⟨G,h₃⟩
  |true =>
   exact oa (oa (qR h₃ (λx s₄ h₄=>oa (qR h₄ (λ_ s₅ h₅=>ou (ou ⟨G,h₅⟩)) λ_ _ h'=>qP h')) λ_ _ h'=>qP h'))
end
section
variable {X:Cx}{elt iter tg:pJ}{ifs:List pJ}{pos:Pos}{scope:Scope}{cl:List (Str×Addr)}{Nc:List Str}{cap:List (Nat×Nat)}{wi:TI}{g:TG}{tt:TT}{te:TE}
theorem RK (hc:X.B9=true)(hi:PI X tg iter wi)(S:Gb X scope cl Nc cap)
  (hg:∀C fp ge s H,PG (Ci X scope cl C Nc fp ge s H) tg g)(ht:∀C fp ge s H,Lw (Ci X scope cl C Nc fp ge s H) ifs tt)(he:∀C fp ge s H,PE (Ci X scope cl C Nc fp ge s H) elt te)
  (hs:∀y,t7 iter X.env y=pure y)(I:AI X ge σ H s)(h:Jn Nc.length cap wi g tt te σ H Q)
  (bc:∀(aa C:Addr) (H5:Hp) (s6:oq) (m6:Str->Option Value),AI X ge σ H5 s6->Fu X ge H5 C->s6.heap.Ns C m6->Q (.ref aa) H5->compPost (model X.prog X.w) X.A X.xe use P (.ref aa) C (.ok .next) s6) :
  wpAny (model X.prog X.w) X.A (comprehension (.ListComp elt [⟨tg,iter,ifs,0⟩] scope pos) scope X.env pos' (newList []) false (eval iter X.env) use) P X.xe s:=by
 refine wpAny_comprehension_free (use:=use) (cl:=cl) rfl hs S.Nr S.kind S.names ?_;refine AZ (hi ge s σ H _ I h) λv s1 h1=>AZ h1 λbh O h2=>?_
 obtain⟨it,fp,tn,J,H2,e,I2,T,am,f2,rd⟩:=h2;subst e;refine qZ ?_;have a1:H2 O.heap.objs.size=none:=I2.AY.fresh (oz _);obtain⟨W,⟨m0,w0⟩,au⟩:=rd O.heap.objs.size a1;have I3:AI X ge σ (AG H2 O.heap.objs.size (.AE [])) { O with heap:=O.heap.push { cls:=.type "list",dict:=none,data:=.seq ([]:List Value).toArray}} :=
  I2.laid (t':=O.toks) (λb u e=>oo _ e) (oz _) ⟨o9 _,[],0,.nil,oJ _ rfl⟩
 have ac:tn 0 (O.heap.push { cls:=.type "list",dict:=none,data:=.seq ([]:List Value).toArray}):=T.keep _ _ _ am λb _ o e=>oo _ e
 have f3:∀b∈fp,Fu X ge (AG H2 O.heap.objs.size (.AE [])) b:=λb F=>by
  obtain⟨o,e,_⟩:=T.Cw _ _ am b F;refine⟨?_,(f2 b F).2⟩;rw[AV (o6 (oK e))];exact(f2 b F).1
 generalize be:O.heap.push { cls:=.type "list",dict:=none,data:=.seq ([]:List Value).toArray}=h3 at I3 ac ⊢;generalize bf:AG H2 O.heap.objs.size (.AE [])=H3 at I3 f3 w0;generalize O.heap.objs.size=aa at *;refine wpAny_newFunctionEnv S.ig (by intro y hy;simp at hy) (λh4 ap ak=>?_) S.kind;dsimp only at ap ak ⊢;have ah:∀b o,h3.get? b=some o->h4.get? b=some o:=λb o e=>ak.extBut b o (o6 (oK e)) (oo _ e)
 have f0:∀b∈fp,∃o,h3.get? b=some o:=λb F=>by
  obtain⟨o,e,_⟩:=T.Cw _ _ ac b F;exact⟨o,e⟩
 have I4:=aG (tk:=O.toks+([]:List (Str×Value)).length) I3 hc S f3 f0 (C:=h3.objs.size) (oz _) ap ah;have al:tn 0 h4:=T.keep _ _ _ ac λb _ o e=>ah b o e
 have ad:∀{H':Hp},(∀b∈fp,H' b=none)->∀b∈fp,Fu (Ci X scope cl h3.objs.size Nc fp ge { O with heap:=h3} H3) [] H' b:=λhn b F=>by
  obtain⟨o,e⟩:=f0 b F;refine⟨hn b F,o6 (oK e),I4.ok.Lb b F,.inl F,λx c q=>(f3 b F).2.2.2.2.1 x c (S.sub x c q).1,λp hp=>?_⟩;have z:p∈(X.pn++ge)++[]:=hp;rw[qS]at z;exact(f3 b F).2.2.2.2.2 p z
 have aj:vV (model X.prog X.w) X.A (.compLoop (.ListComp elt [⟨tg,iter,ifs,0⟩] scope pos) 0 (.ref it) (.ref aa) (compEnvC scope cl h3.objs.size X.env)) (compPost (model X.prog X.w) X.A X.xe use P (.ref aa) h3.objs.size)
   { O with heap:=h4,toks:=O.toks+([]:List (Str×Value)).length}:=by
  refine Xr (λn s'=>∃i ys σ' H',AI (Ci X scope cl h3.objs.size Nc fp ge { O with heap:=h3} H3) [] σ' H' s'/\tn i s'.heap/\(∀b∈fp,H' b=none)/\W i n ys σ' H') ?_ m0 ⟨0,[],_,H3,I4,al,λb F=>(f3 b F).1,w0⟩;rintro n s5 ⟨i,ys,σ5,H5,I5,ao,ai,w5⟩;rcases au i n ys σ5 H5 w5 with ⟨av,qn⟩|⟨go,step⟩
  ·refine AZ (T.done (Ci X scope cl h3.objs.size Nc fp ge { O with heap:=h3} H3) rfl rfl rfl rfl i [] s5 σ5 H5 _ I5 (ad ai) ao av) λr s6 ⟨hr,I6⟩=>?_
   subst hr;obtain⟨m6,aw,_⟩:=id I6.D4;exact bc aa _ H5 s6 m6 (Zc (h':=s6.heap) I3 f3 I6 ⟨G,λ_ _=>rfl⟩) (I3.Ht (oz _) I6.free) aw qn
  ·refine qR (T.item (Ci X scope cl h3.objs.size Nc fp ge { O with heap:=h3} H3) rfl rfl rfl rfl i [] s5 σ5 H5 (λ_ _=>False) I5 (ad ai) ao go) (λr s6 ⟨u,hr,h6⟩=>?_) λ_ _ z=>qP z
   subst hr;refine AZ h6 λ_ s7 ⟨y,H7,I7,r7,y7,ae,a2⟩=>?_
   have a7:=I7.Um (ad a2) (T.Cw _ _ ae);have kp:∀{σ8:St} {H8:Hp} {s8:oq},AI (Ci X scope cl h3.objs.size Nc fp ge { O with heap:=h3} H3) ([]++K1 fp s7.heap) σ8 H8 s8->tn (i+1) s8.heap/\∀b∈fp,H8 b=none:=λ{σ8 H8 s8} I8 =>
    ⟨T.keep _ _ _ ae λb F o e=>(I8.pin (b,o) (qB _ (qB _ (L1 F e)))).1,λb F=>by
     obtain⟨o,e,d⟩:=T.Cw _ _ ae b F;exact(I8.pin (b,o) (qB _ (qB _ (L1 F e)))).2.1⟩
   refine AZ (hg _ _ _ _ _ _ s7 σ5 H7 y u _ a7 r7 (step y H7 y7)) λ_ s8 ⟨σ8,H8,I8,q8⟩=>?_
   refine AZ (ht _ _ _ _ _ _ s8 σ8 H8 _ I8 q8) λok s9 ⟨H9,I9,q9⟩=>?_
   cases ok with
   |false =>
    rw[oC o8]at q9 ⊢;obtain⟨m',hm,w'⟩:=q9;obtain⟨ax,az⟩:=kp I9;exact⟨m',hm,i+1,ys,σ8,H9,I9.Kr,ax,az,w'⟩
   |true =>
    rw[oH rfl]at q9 ⊢;refine AZ (he _ _ _ _ _ _ s9 σ8 H9 _ I9 q9) λa5 a6 ⟨ab,a3,ar,a4,a0,aq,m',hm,ay⟩=>?_
    refine AZ (Ed _ a6 σ8 a3 (.ref aa) [ab] (.ref aa) [a5] (λ_ af=>W (i+1) m' (ys++[ab]) σ8 af) ar rfl (.cons a4 .nil) ⟨aa,ys,ab,G,G,a0,aq,ay⟩) λ_ bg ⟨_,af,ag,_,a9⟩=>?_
    obtain⟨bd,a8⟩:=kp ag;exact⟨m',hm,i+1,ys++[ab],σ8,af,ag.Kr,bd,a8,a9⟩
 exact codeAny_compStart_list aj (T.self _ 0 _ _ _ al aj)
theorem SM (hc:X.B9=true)(hi:PI X tg iter wi)(S:Gb X scope cl Nc cap)
  (hg:∀C fp ge s H,PG (Ci X scope cl C Nc fp ge s H) tg g)(J:∀C fp ge s H,Lw (Ci X scope cl C Nc fp ge s H) ifs tt)(he:∀C fp ge s H,PE (Ci X scope cl C Nc fp ge s H) elt te)
  (hs:∀y,t7 iter X.env y=pure y:=by intro _;rfl):PE X (.ListComp elt [⟨tg,iter,ifs,0⟩] scope pos) (Jn Nc.length cap wi g tt te):=by
 intro ge s σ H Q I h;rw[eval_ListComp];exact RK (use:=none) hc hi S hg J he hs I h λaa C H5 s6 m6 ab F hn qn=>⟨m6,hn,λh7 O=>⟨.ref aa,H5,ab.FD (t':=s6.toks) (λb o hb q=>(O.2 b hb).trans q) F.1 F.2.1 F.2.2.2.1 F.2.2.2.2.1 F.2.2.2.2.2,G,qn⟩⟩
theorem RB:Jn n cap wi g (λ_ H Q=>Q true H) te=NK n cap wi g te:=by
 unfold Jn NK;simp only[if_true]
theorem DN (J:X.B9=true)(hi:PI X tg iter wi)(S:Gb X scope cl Nc cap)
  (hg:∀C fp ge s H,PG (Ci X scope cl C Nc fp ge s H) tg g)(F:∀C fp ge s H,PE (Ci X scope cl C Nc fp ge s H) elt te)
  (O:∀y,t7 iter X.env y=pure y:=by intro _;rfl):PE X (.ListComp elt [⟨tg,iter,[],0⟩] scope pos) (NK Nc.length cap wi g te) :=
 RB ▸ SM (ifs:=[]) (pos:=pos) J hi S hg (λ_ _ _ _ _=>S4) F O
theorem Z8 {ct:pJ}(O:X.B9=true)(hi:PI X tg iter wi)(S:Gb X scope cl Nc cap)
  (hg:∀C fp ge s H,PG (Ci X scope cl C Nc fp ge s H) tg g)(F:∀C fp ge s H,PT (Ci X scope cl C Nc fp ge s H) ct tt)(J:∀C fp ge s H,PE (Ci X scope cl C Nc fp ge s H) elt te)
  (hs:∀y,t7 iter X.env y=pure y:=by intro _;rfl):PE X (.ListComp elt [⟨tg,iter,[ct],0⟩] scope pos) (Jn Nc.length cap wi g tt te) :=
 SM O hi S hg (λC fp ge s H=>gD (F C fp ge s H)) J hs
theorem Xv {i:Nat}{y:Str}{J aa:Pos}(hN:X.N.Nodup)(ae:X.N[i]?=some y)(hy:IH X.env.scope y)
  (hc:X.B9=true)(hi:PI X tg iter wi)(S:Gb X scope cl Nc cap)
  (hg:∀C fp ge s H,PG (Ci X scope cl C Nc fp ge s H) tg g)(ht:∀C fp ge s H,Lw (Ci X scope cl C Nc fp ge s H) ifs tt)(he:∀C fp ge s H,PE (Ci X scope cl C Nc fp ge s H) elt te)
  (ab:yC (.ListComp elt [⟨tg,iter,ifs,0⟩] scope pos) (some (.Name y J)) aa.line X.env=pure true:=by rfl)(hs:∀z,t7 iter X.env z=pure z:=by intro _;rfl)
  (hf:X.fn y=true\/X.env.scope.names.lookup y=some .local:=by first|exact .inl rfl|exact .inr rfl|assumption) :
  PS X (.Assign [.Name y J] (.ListComp elt [⟨tg,iter,ifs,0⟩] scope pos) aa) (JC (Jn Nc.length cap wi g tt te) (BH i)):=by
 intro ge s σ H D I h;rw[exec_Assign_Name_used _ _ _ _ ab];refine oa (xt (oa ?_));show wpAny _ X.A (do let _ <-comprehension (.ListComp elt [⟨tg,iter,ifs,0⟩] scope pos) scope X.env _ (newList []) false (eval iter X.env) (some (zB (.Name y J) X.env))) _ _ s;refine oa (qR (RK (use:=some (zB (.Name y J) X.env)) (P:=λ_ s'=>SP X ge D .next s') hc hi S hg ht he hs I h λO C H5 s6 m6 ac F af qn=>?_) (λ_ s' hq=>ou (ou hq)) λ_ _ e=>e);show wpAny (model X.prog X.w) X.A (zB (.Name y J) X.env (.ref O)) _ X.xe s6;refine ab7 (RL (v:=.ref O) ac hN ae hy rfl (λs7 I7 ⟨a7,ag,e7⟩=>?_) hf);have nC:C≠a7:=by
  rcases e7 with e7|e7
  ·rw[e7];exact F.2.1
  ·exact qp (F.2.2.2.2.1 _ _ e7)
 refine⟨m6,af.sameBut ag nC,λh8 ad=>⟨_,H5,?_,qn⟩⟩;exact I7.FD (t':=s7.toks) (λb o hb q=>(ad.2 b hb).trans q) F.1 F.2.1 F.2.2.2.1 F.2.2.2.2.1 F.2.2.2.2.2
theorem Ga {i:Nat}{y:Str}{J F:Pos}(hN:X.N.Nodup)(ab:X.N[i]?=some y)(hy:IH X.env.scope y)
  (hc:X.B9=true)(hi:PI X tg iter wi)(S:Gb X scope cl Nc cap)
  (hg:∀C fp ge s H,PG (Ci X scope cl C Nc fp ge s H) tg g)(he:∀C fp ge s H,PE (Ci X scope cl C Nc fp ge s H) elt te)
  (aa:yC (.ListComp elt [⟨tg,iter,[],0⟩] scope pos) (some (.Name y J)) F.line X.env=pure true:=by rfl)(hs:∀z,t7 iter X.env z=pure z:=by intro _;rfl)
  (O:X.fn y=true\/X.env.scope.names.lookup y=some .local:=by first|exact .inl rfl|exact .inr rfl|assumption) :
  PS X (.Assign [.Name y J] (.ListComp elt [⟨tg,iter,[],0⟩] scope pos) F) (JC (NK Nc.length cap wi g te) (BH i)) :=
 RB ▸ Xv (ifs:=[]) hN ab hy hc hi S hg (λ_ _ _ _ _=>S4) he aa hs O
end
section
variable {X:Cx}
def BJ(i:Int):Prop:=i.natAbs<2 ^ 8968
theorem Sx(h:BJ i):i.natAbs.log2<8968:=by
 by_cases z:i.natAbs=0
 ·rw[z];decide
 ·exact(Nat.log2_lt z).mpr h
theorem SJ(h:BJ i):aba i<=8969:=by
 have:=Sx h
 unfold aba;split<;>omega
def LH(i j:Int):Prop:=BJ i/\BJ j
theorem DM:B5 X (ud .Mult) (rI LH λi j=>.int (i*j)):=JR λ_ _ _ _ _ _ _ F q=>mul_int q (IntMulOk.of_bits (oO (SJ F.1) ∅) (oO (SJ F.2) ∅))
def Ip(_ j:Int):Prop:=j≠0/\BJ j
theorem Gd:B5 X (ud .FloorDiv) (rI Ip λi j=>.int (i.fdiv j)):=JR λ_ _ _ _ _ _ _ F q=>floordiv_int F.1 q (.inl (PyProof.noPylong_of_log2 (by have:=Sx F.2;omega)))
def Lo(lo step:Int)(n:Nat):It:=⟨λi _=>i<n,λi H x H'=>H'=H/\x=.int (lo+i*step),λi _=>n<=i⟩
theorem Ym{P:pG}{w:World}{K:ow}{tg:pJ}(F:Addr)(lo step:Int)(n:Nat):Fn P w K tg (Lo lo step n) [F] F (λi h=>aac h F (lo+(i:Nat)*step) ((n:Int)-(i:Nat)) step) where
 mem:=by simp
 Cw:=λi h st b J=>by
  obtain rfl:b=F:=by simpa using J
  exact⟨_,st,λv z=>by
   have z':yq _=xy v:=z;cases z'⟩
 keep:=λi h h' st k=>k F #v[] _ st
 item:=by
  intro X hP hw hK hc i ge s σ H E I O st hg;subst hP hw hK;obtain⟨f0,f1,f2,f3,f4,f5⟩:=O F #v[];have W:=Walks.range (prog:=X.prog) (w:=X.w) (I.ok.hd hc) F lo step n;refine W.item i s _ _ hg st λv h' tk hv aa kk=>?_
  obtain⟨t,rfl⟩:=hv;have I1:AI X ge σ H { s with heap:=h',toks:=tk}:=I.FD (λb o J e=>kk b o (by simpa using J) e) f0 f1 f3 f4 f5;exact⟨_,G,NY (s:={ s with heap:=h',toks:=tk}) (n:="range_iterator") aa rfl rfl ∅ ⟨.int (lo+i*step),H,I1,⟨t,G⟩,⟨G,G⟩,aa,λb J=>(O b J).1⟩⟩
 done:=by
  intro X hP hw hK hc i ge s σ H E I O st hg;subst hP hw hK;obtain⟨f0,f1,f2,f3,f4,f5⟩:=O F #v[];exact aat (I.ok.hd hc) st (by have:n<=i:=hg;omega) λh' eb=>⟨G,I.FD (t':=s.toks) (λb o J e=>eb b o J e) f0 f1 f3 f4 f5⟩
 self:=λ_ _ _ _ _ st h=>aaq st h
theorem aW {lo step:Int}{n:Nat}{g:TG}{tb:TS}{D:Dx}{σ:St}{H:Hp}(F:Nat->St->Hp->Prop)(h0:F 0 σ H)
  (hs:∀i σ H,i<n->F i σ H->g (.int (lo+i*step)) σ H λJ H2=>tb { D with nx:=F (i+1),ct:=F (i+1),bk:=D.nx} J H2)(hd:∀σ H,F n σ H->D.nx σ H) :
  ∃W:Nat->Nat->St->Hp->Prop,(∃m,W 0 m σ H)/\∀i m σ H,W i m σ H →
   ((Lo lo step n).DZ i H/\D.nx σ H)\/((Lo lo step n).go i H/\∃N:St->Hp->Prop,(∀O H',N O H'->∃m',m' < m/\W (i+1) m' O H')/\∀x H',(Lo lo step n).De i H x H'->g x σ H' λJ H2=>tb { D with nx:=N,ct:=N,bk:=D.nx} J H2):=by
 refine⟨λi m σ H=>m=n-i/\i<=n/\F i σ H,⟨n,#v[],o9 _,h0⟩,?_⟩;rintro i m σ H ⟨rfl,hi,p⟩;rcases oW i n with aa|hge
 ·refine .inr ⟨aa,F (i+1),λO H' p'=>⟨n-(i+1),by omega,G,aa,p'⟩,λx H' y=>?_⟩;obtain⟨e,y⟩:=y;subst e y;exact hs i σ _ aa p
 ·obtain rfl:i=n:=by omega
  exact .inl ⟨oz _,hd σ H p⟩
def lM(K:ow)(c:V)(cv:Value):List V->Hp->VK->Prop:=λxs H Q=>∃x t b,xs=[x,c]/\DR K H x t/\wY K t cv=some b/\Q (.bl b) H
theorem Jd(J:∀u,Ao c u->u=cv):Cr X (.builtin "isinstance") (lM X.K c cv):=by
 intro ge s σ H xs us Q I r h;obtain⟨x,t,b,rfl,ty,e,q⟩:=h;obtain⟨u,w',rfl,F,O⟩:=LK r;cases J w' O;exact ZY I F ty e λtk=>⟨.bl b,H,I.Cn _,G,q⟩
theorem JS:qY "isinstance" = some (.builtin "isinstance"):=by decide +kernel
theorem iy:qY "int" = some (.type "int"):=by decide +kernel
theorem fC:qY "bool" = some (.type "bool"):=by decide +kernel
theorem Dm:qY "tuple" = some (.type "tuple"):=by decide +kernel
theorem UO:qY "all" = some (.builtin "all"):=by decide +kernel
theorem Gh:qY "len" = some (.builtin "len"):=by decide +kernel
theorem iE:qY "abs" = some (.builtin "abs"):=by decide +kernel
theorem Mx:qY "max" = some (.builtin "max"):=by decide +kernel
theorem ND:qY "min" = some (.builtin "min"):=by decide +kernel
theorem Ks(K:ow)(t:Value):wY K t t=some true:=by
 unfold wY;rw[oH (beq_self_eq_true t)]
theorem Xm(K:ow):wY K (.type "int") (.type "bool")=some false:=by first|rfl|decide +kernel|kernel_rfl
theorem TM:∀{bs:List Bool} {F:List Value},Af (bs.map V.bl) F->F=bs.map uO
 |[],_,.nil=>rfl
 |b :: r,_,.cons (b:=u) h t=>by
  have h':u=uO b:=h;rw[h',TM t];rfl
def nG(K:ow):List V->Hp->VK->Prop:=λxs H Q=>∃(p:Addr) (bs:List Bool),xs=[.ref p]/\AJ K H p (bs.map V.bl)/\Q (.bl (bs.all id)) H
theorem ZO(bs:List Bool):((oN bs.length).all λi=>(bs[i]?).getD true)=bs.all id:=by
 rw[tW,ze,ze];constructor
 ·intro h b J;obtain⟨i,hi,rfl⟩:=List.mem_iff_getElem.mp J
  have:=h i (pW.mpr hi)
  rw[og hi]at this;exact this
 ·intro h i hi;have F:=pW.mp hi;rw[og F];exact h _ (qd F)
theorem RI(hc:X.B9=true):Cr X (.builtin "all") (nG X.K):=by
 intro ge s σ H xs us Q I r h;obtain⟨p,bs,rfl,hq,q⟩:=h;obtain⟨u,rfl,r1⟩:=FI r;cases r1;obtain⟨its,rv,pl,hz⟩:=I.list hq;have e:=TM rv;subst e;have aa:p<s.heap.objs.size:=by
  obtain⟨o,_,ho,_⟩:=pl;exact oK ho
 refine call_all_walk (tN pl.isList ?_);refine⟨s.heap.objs.size,_,_,_,_,_,λi=>(bs[i]?).getD true,G,Walks.list (show X.A.in1.handled=none from I.ok.hd hc) _ p (o6 aa) (bs.map uO).toArray,⟨⟨_,oJ _ rfl,G,G⟩,pl.isList.push _⟩,λi v s' O E' F J=>?_,λh' tk k=>?_⟩
 ·have F:(bs.map uO).toArray[i]?=some v:=F;have J:O ((bs[i]?).getD true) s':=J;rw[sT,om]at F;cases e:bs[i]? with
  |none=>rw[e]at F;cases F
  |some b =>
   rw[e]at F;obtain rfl:uO b=v:=oV F;have ab:O b s':=by
    rw[e]at J;exact J
   exact ou ab
 ·refine⟨.bl (bs.all id),H,I.Bf λb o eb=>?_,?_,q⟩
  ·exact k b o (λz=>by
    have:b=s.heap.objs.size:=by simpa using z
    exact absurd (oK eb) (by rw[this];exact tD _)) (oo _ eb)
  ·show uO _=uO _;rw[oD,kb,ZO]
end
section
variable {prog:pG}{w:World}{A:qM}{E:Value->oq->Prop}{s:oq}
theorem Q6 {c t:Addr}{k:Nat}{vs:Array Value}{y:Value}{Q:Value->oq->Prop}(hc:s.heap.IsTupleIter c t k)(ht:s.heap.IsTuple t vs)(hy:vs[k]?=some y)
  (hQ:∀h',h'.IsTupleIter c t (k+1)->qr c s.heap h'->Q y { s with heap:=h'}):wpAny (model prog w) A (qT (.ref c)) Q E s:=by
 obtain⟨ob,O,e2,J⟩:=id hc;obtain⟨ot,f1,_,nt,f2⟩:=ht;unfold qT;refine oa (si (name:=tq "__next__") hc.typeIs tT (sk tT hc.typeIs xn ?_ (xj _)));show wpAny _ _ (field (.ref c) 0 >>= _) _ _ s;refine oa (rY O J (x:=.ref t) rfl ?_);show wpAny _ _ (if (qA t == qQ)=true then _ else _) _ _ _;rw[oC (show ¬((qA t == qQ)=true) by exact o8)];show wpAny _ _ (field (.ref c) 1 >>= _) _ _ s;refine oa (rY O J (x:=.int k 0) rfl ?_);show wpAny _ _ (abP (.ref t) >>= _) _ _ _;refine oa (tH f1 f2 ?_);simp only[sN,hy];refine oa (ue O J #v[] (ou ⟨y,G,ou (hQ _ ?_ (rM ..))⟩));exact⟨_,tU _ O (Obj.isFreed_of_fields (abD J _)),(Obj.cls_mapFields ..).trans e2,by rw[abD J];simp[rR]⟩
theorem RZ {c t:Addr}{k:Nat}{vs:Array Value}{Q:Value->oq->Prop}(hh:A.handled=none)(J:s.heap.IsTupleIter c t k)(ht:s.heap.IsTuple t vs)(hy:vs[k]?=none)
  (hE:∀h' x,uQ c s.heap h'->(∃o,h'.get? x=some o/\o.cls=.type "StopIteration")->E (.ref x) { s with heap:=h'}):wpAny (model prog w) A (qT (.ref c)) Q E s:=by
 obtain⟨ob,e1,e2,O⟩:=id J;obtain⟨ot,f1,_,nt,f2⟩:=ht;unfold qT;refine oa (si (name:=tq "__next__") J.typeIs tT (sk tT J.typeIs xn ?_ (xj _)));show wpAny _ _ (field (.ref c) 0 >>= _) _ _ s;refine oa (rY e1 O (x:=.ref t) rfl ?_);show wpAny _ _ (if (qA t == qQ)=true then _ else _) _ _ _;rw[oC (show ¬((qA t == qQ)=true) by exact o8)];show wpAny _ _ (field (.ref c) 1 >>= _) _ _ s;refine oa (rY e1 O (x:=.int k 0) rfl ?_);show wpAny _ _ (abP (.ref t) >>= _) _ _ _;refine oa (tH f1 f2 ?_);simp only[sN,hy];refine oa (uj (oa (ue e1 O #v[] ?_)));show wpAny _ _ (newExc (.type "StopIteration") [] >>= _) _ _ (_:oq);refine oa ?_;simp only[newExc,newTuple];refine oa (qZ ?_ (by size_fits));refine oa (m:=yj _ _) (aap (a:=qQ) (by first|rfl|(simp only[yj];rfl)) ?_);refine qZ ?_ (by size_fits);simp only[raiseNew];refine oa (wpAny_handled ?_);first|rw[show A.in1.handled=none from hh]|rw[hh]
 refine oa (ou (wpAny_throw (hE _ _ (((rM ..).extBut.push _).push _) ⟨_,oJ _ rfl,G⟩)))
theorem U6(hh:A.handled=none)(c t:Addr)(aa:t≠c)(vs:Array Value):
  Draws prog w A c [c,t] vs.size (λi v=>vs[i]?=some v) (λi h=>h.IsTupleIter c t i/\h.IsTuple t vs) where
 live:=λ_ _ st=>let ⟨o,ho,_⟩:=st.1;⟨o,ho⟩
 frame:=λ_ _ _ st J=>⟨let ⟨o,ho,r⟩:=st.1;⟨o,J c #v[] o ho,r⟩,let ⟨o,ho,r⟩:=st.2;⟨o,J t #v[] o ho,r⟩⟩
 item:=λi s' O E' hi st hQ=>Q6 st.1 st.2 (y:=vs[i]) (by simp[hi]) λh' k1 F=>hQ _ h' s'.toks (by simp[hi]) ⟨k1,st.2.extBut F.extBut aa⟩ F
 done:=λs' O E' st hE=>RZ hh st.1 st.2 #v[] hE
set_option maxHeartbeats 1000000 in
theorem X4(t:Addr)(vs:Array Value)(n:Nat)(O:Option Addr)(sl:Array (Option Value)):
  Meets (oY.«enumerate.__new__» ⟨[.type "enumerate",.ref t],[]⟩) (λ_ R s=>s.heap.get? t=some { cls:=.type "tuple",dict:=O,data:=.seq vs n,slots:=sl} /\
   R (.ok (.ret (.ref (s.heap.push { cls:=.type "tuple_iterator",data:=.fields #[.ref t,.int 0 0]}).objs.size)))
    { s with heap:=(s.heap.push { cls:=.type "tuple_iterator",data:=.fields #[.ref t,.int 0 0]}).push { cls:=.type "enumerate",data:=.fields #[.none,.bool false,.ref s.heap.objs.size,rR 0,.none,.none]}}) :=
 .of_wp λprog w A R s h=>by
  obtain⟨hp,g,d,tk,os⟩:=s;obtain⟨F,h⟩:=h;have aa:=sub_enumerate;have J:uX (uS ⟨hp,g,d,tk,os⟩) t vs:=⟨_,F,G,n,G⟩
  wp_walk using uU F
  refine wpAny_stack_any λst=>ou ?_
  split
  ·rename_i c _ _ _ _ _
   cases (c == uP "enumerate")<;>(wp_walk using uU F,r8 J;exact⟨_,G,h⟩)
  ·wp_walk using uU F,r8 J;exact⟨_,G,h⟩
theorem Yh {t:Addr}{vs:Array Value}{Q:Value->oq->Prop}(hT:s.heap.IsTuple t vs)
  (h:∀h',abp h' (s.heap.objs.size+1) s.heap.objs.size 0 .none->h'.IsTupleIter s.heap.objs.size t 0->(∀b o,s.heap.get? b=some o->h'.get? b=some o)->Q (.ref (s.heap.objs.size+1)) { s with heap:=h'}) :
  wpAny (model prog w) A (call (.type "enumerate") [.ref t]) Q E s:=by
 obtain⟨⟨c,aa,dt,sl⟩,O,hc,n,hd⟩:=hT;obtain rfl:c=.type "tuple":=hc;obtain rfl:dt=.seq vs n:=hd;refine callType_new PySem.F.called_enumerate ∅ (PySem.F.typeCall_enumerate_1 _) (PySem.F.newCall_enumerate_1 _) (λab=>PySem.F.args_object_init_2 ab _) PySem.F.entry_enumerate_new (X4 t vs n aa sl) ⟨O,?_⟩;have z:(s.heap.push { cls:=.type "tuple_iterator",data:=.fields #[.ref t,.int 0 0]}).objs.size=s.heap.objs.size+1:=rz ..;show _/\_;rw[z];have J:abp ((s.heap.push { cls:=.type "tuple_iterator",data:=.fields #[.ref t,.int 0 0]}).push { cls:=.type "enumerate",data:=.fields #[.none,.bool false,.ref s.heap.objs.size,rR 0,.none,.none]}) (s.heap.objs.size+1) s.heap.objs.size 0 .none:=by
  have q:=oJ (s.heap.push { cls:=.type "tuple_iterator",data:=.fields #[.ref t,.int 0 0]}) (o:={ cls:=.type "enumerate",data:=.fields #[.none,.bool false,.ref s.heap.objs.size,rR 0,.none,.none]}) rfl;rw[z]at q;exact q
 exact⟨⟨_,J,G⟩,h _ J ⟨_,oo _ (oJ _ rfl),G,G⟩ λb o q=>oo _ (oo _ q)⟩
end
section
variable {X:Cx}
def Lr(a:Addr): It :=
  ⟨λi H => ∃xs x,H a=some (.AF xs)/\xs[i]? = some x,
   λi H v H' => ∃p x,v = .ref p/\H p=none/\H' = AG H p (.AF [.int i,x]) /\ ∀xs,H a=some (.AF xs) → xs[i]? = some x,
   λi H => ∃xs,H a=some (.AF xs)/\xs.length=i⟩
theorem Y9{P:pG}{w:World}{K:ow}{es:List pJ}{kk:Nat}{pos:Pos}{a e J:Addr}(ae:e≠J):
  Fn P w K (.Tuple es kk pos) (Lr a) [e,J] e (λi h=>(∃aa,abp h e J ((i:Nat):Int) aa)/\h.IsTupleIter J a i) where
 mem:=by simp
 Cw:=λi h st c F=>by
  obtain⟨⟨aa,h1⟩,o2,h2,_,d2⟩:=st;simp only[oG,o3,qN]at F;rcases F with rfl|rfl
  ·exact⟨_,h1,λv z=>by have z':yq _=xy v:=z;cases z'⟩
  ·exact⟨_,h2,λv z=>by rw[d2]at z;cases z⟩
 keep:=λi h h' st k=>by
  obtain⟨⟨aa,h1⟩,o2,h2,r⟩:=st;exact⟨⟨aa,k e #v[] _ h1⟩,o2,k J #v[] _ h2,r⟩
 item:=by
  intro X hP hw hK F i ge s σ H E I O st hg;subst hP hw hK;obtain⟨xs,x,qa,hx⟩:=hg;obtain⟨its,rv,pa,_⟩:=I.tuple (AH.of (K:=X.K) qa);obtain⟨ux,ag,rx⟩:=rv.get hx;obtain⟨⟨aa,h1⟩,h2⟩:=st;have am:e≠a:=λz=>by
   have:=(O e #v[]).1
   rw[z,qa]at this;cases this
  have ad:a≠J:=λz=>by
   have:=(O J #v[]).1
   rw[<-z,qa]at this;cases this
  have ao:i<its.toArray.size:=by
   rw[oD];exact(oh.mp ag).1
  have D:Draws X.prog X.w X.A.in1 J [J,a] its.toArray.size (λi v=>its.toArray[i]?=some v) (λi h=>h.IsTupleIter J a i/\h.IsTuple a its.toArray):=U6 (show X.A.in1.handled=none from I.ok.hd F) J a ad its.toArray;refine zS D h1 ⟨h2,pa⟩ ao ae (by simp[ae,am]) λy h' tk hy a1 a2 a3 a4 k=>?_
  have al:y=ux:=by
   have q1:its.toArray[i]?=some y:=hy;rw[sT,ag]at q1;exact(oV q1).symm
  subst al;refine⟨_,G,yN a1 λab b1 sb=>?_⟩;have sb:qr e h' ab:=sb;have ah:s.heap.objs.size≠e:=rK (oK h1);have aj:s.heap.objs.size≠J:=by
   obtain⟨o,g,_⟩:=id h2;exact rK (oK g)
  have hn:H s.heap.objs.size=none:=I.AY.fresh (oz _);have ac:∀c o,c∉[e,J]->s.heap.get? c=some o->ab.get? c=some o:=λc o F q =>
   (sb.2 c λz=>F (by simp[z])).trans (k c o (λz=>F (by simp[z])) (λz=>F (by simp[z])) q)
  have tO:ab.get? s.heap.objs.size=some { cls:=.type "tuple",data:=.seq #[.int i tk,y]}:=(sb.2 _ ah).trans a3;have nt:∀c u,H c=some u->c∉[e,J]:=λc u q F=>by
   have:=(O c F).1
   rw[q]at this;cases this
  have ai:BP X.prog X.w (AG H s.heap.objs.size (.AF [.int i,x])) ab s.heap.objs.size (.AF [.int i,x]) :=
   ⟨by exact CI,[.int i tk,y],.cons ⟨tk,G⟩ (.cons rx .nil),⟨_,tO,G,_,G⟩,_,tO,G⟩
  have I1:AI X ge σ (AG H s.heap.objs.size (.AF [.int i,x])) { s with heap:=ab,toks:=tk+1}:=by
   refine I.step (g':=s.gens) (d':=s.drawn) (t':=tk+1) (ch:=[e,J]) (λc F=>⟨(O c F).2.2.2.1,(O c F).2.1,(O c F).2.2.2.2.1,(O c F).2.2.2.2.2⟩) (λc o _ _ F q _=>ac c o F q) (λc o _ _ F q _=>⟨o.slots,ac c o F q⟩)
    (λc o _ q n=>by rw[AV (o6 (oK q))];exact n) (λc o F q=>⟨o,ac c o F q⟩) (λc vs q=>by rw[AV (BD q hn)];exact q) (λc o vs q=>by rw[AV (BD q hn)];exact q)
    (λc ps q=>⟨#[],by rw[AV (BD q hn),q];simp⟩) (λm hm=>?_) (λc o q=>?_) I.C5
   ·obtain⟨o,ak,ep,ho,r⟩:=hm;exact⟨o,ak,ep,ac _ o (λq=>(O _ q).2.1 rfl) ho,r⟩
   ·by_cases af:c=s.heap.objs.size
    ·subst af;rw[AQ]at q;cases q;exact ai
    ·rw[AV af]at q;refine(I.AY c o q).Fp (λd v hd z=>ac d v ?_ z) (λd z=>by rw[AV (BD z hn)];exact z) λd vs z=>by rw[AV (BD z hn)];exact z
     rcases hd with hd|hd
     ·rw[hd];exact nt c o q
     ·exact nt d _ hd
  have g2:ab.IsTupleIter J a (i+1):=by
   obtain⟨⟨o,g,r⟩,_⟩:=a2;exact⟨o,(sb.2 _ (qp ae)).trans g,r⟩
  have g1:abp ab e J (((i+1:Nat)):Int) y:=by
   have:((i+1:Nat):Int)=(i:Int)+1:=()
   rw[this];exact b1
  exact⟨.ref s.heap.objs.size,_,I1,G,⟨_,x,G,hn,G,λap q=>by rw[qa]at q;cases q;exact hx⟩,⟨⟨_,g1⟩,g2⟩,λc F=>by
   have:c≠s.heap.objs.size:=by
    simp only[oG,o3,qN]at F;rcases F with rfl|rfl
    ·exact qp ah
    ·exact qp aj
   rw[AV this];exact(O c F).1⟩
 done:=by
  intro X hP hw hK F i ge s σ H E I O st hg;subst hP hw hK;obtain⟨xs,qa,hl⟩:=hg;obtain⟨its,rv,pa,_⟩:=I.tuple (AH.of (K:=X.K) qa);obtain⟨⟨aa,h1⟩,h2⟩:=st;have ad:a≠J:=λz=>by
   have:=(O J #v[]).1
   rw[<-z,qa]at this;cases this
  have D:Draws X.prog X.w X.A.in1 J [J,a] its.toArray.size (λi v=>its.toArray[i]?=some v) (λi h=>h.IsTupleIter J a i/\h.IsTuple a its.toArray):=U6 (show X.A.in1.handled=none from I.ok.hd F) J a ad its.toArray;have hi:its.toArray.size=i:=by
   rw[oD,<-rv.length];exact hl
  obtain⟨f0,f1,f2,f3,f4,f5⟩:=O J #v[];refine aar D h1 (by rw[hi];exact⟨h2,pa⟩) λh' k=>⟨G,I.FD (t':=s.toks) (λb o hb q=>k b o hb q) f0 f1 f3 f4 f5⟩
 self:=λ_ _ _ _ _ st h=>by
  obtain⟨⟨aa,h1⟩,_⟩:=st;exact xl h1 h
def VN(ta:TA):TI:=λσ H R=>ta σ H λvs H1=>∃a xs,vs=[.ref a]/\H1 a=some (.AF xs)/\R (Lr a) H1
theorem Ml{es:List pJ}{kk:Nat}{tpos:Pos}{a:pJ}{ta:TA}{p pos:Pos}(hg:Gl X "enumerate")(hm:X.mg "enumerate" = none)(ha:PA X [a] ta)(hs:pK [a] X.env=[(false,eval a X.env)]:=by rfl):
  PI X (.Tuple es kk tpos) (.Call (.Name "enumerate" p) [a] [] pos) (VN ta):=by
 intro ge s σ H R I h;refine Call_ (FC I hg hm yz (rE (AZ (ha pos ge s σ H _ I h) λus F ⟨vs,H1,J,r1,q1⟩=>?_) hs rfl));obtain⟨la,xs,e,qa,q⟩:=q1;subst e;obtain⟨u1,rfl,ra⟩:=FI r1;cases ra;obtain⟨its,rv,pa,_⟩:=J.tuple (AH.of (K:=X.K) qa);refine Yh pa λh' z1 z2 zk=>xl z1 ?_
 have I2:AI X ge σ H1 { F with heap:=h'}:=J.Bf (t':=F.toks) zk;refine⟨F.heap.objs.size+1,_,_,_,H1,G,I2,Y9 (acy _),⟨⟨_,z1⟩,z2⟩,λc O=>?_,q⟩;have aa:F.heap.objs.size<=c:=by
  simp only[oG,o3,qN]at O;rcases O with rfl|rfl<;>lia
 exact J.Ht (H':=H1) aa (J.AY.fresh aa)
theorem MI {a:Addr}{xs:List V}{g:TG}{tb:TS}{D:Dx}{σ:St}{H:Hp}(F:Nat->St->Hp->Prop)(h0:F 0 σ H)(hl:∀i σ H,i<=xs.length->F i σ H->H a=some (.AF xs))
  (hs:∀i x σ H p,xs[i]?=some x->F i σ H->H p=none->g (.ref p) σ (AG H p (.AF [.int i,x])) λJ H2=>tb { D with nx:=F (i+1),ct:=F (i+1),bk:=D.nx} J H2)(hd:∀σ H,F xs.length σ H->D.nx σ H) :
  ∃W:Nat->Nat->St->Hp->Prop,(∃m,W 0 m σ H)/\∀i m σ H,W i m σ H →
   ((Lr a).DZ i H/\D.nx σ H)\/((Lr a).go i H/\∃N:St->Hp->Prop,(∀O H',N O H'->∃m',m' < m/\W (i+1) m' O H')/\∀x H',(Lr a).De i H x H'->g x σ H' λJ H2=>tb { D with nx:=N,ct:=N,bk:=D.nx} J H2):=by
 refine⟨λi m σ H=>m=xs.length-i/\i<=xs.length/\F i σ H,⟨xs.length,#v[],o9 _,h0⟩,?_⟩;rintro i m σ H ⟨rfl,hi,p⟩;have qa:=hl i σ H hi p;rcases oW i xs.length with aa|hge
 ·refine .inr ⟨⟨xs,xs[i],qa,by simp[aa]⟩,F (i+1),λO H' p'=>⟨xs.length-(i+1),(),G,aa,p'⟩,λv H' yl=>?_⟩;obtain⟨pa,x,rfl,hp,rfl,hx⟩:=yl;exact hs i x σ H pa (hx xs qa) p hp
 ·obtain rfl:i=xs.length:=()
  exact .inl ⟨⟨xs,qa,G⟩,hd σ H p⟩
def eP:V->List V->Hp->VK->Prop:=λx vs H Q=>∃l xs k y,x=.ref l/\vs=[.int k,y]/\H l=some (.AE xs)/\0<=k/\k<=xs.length/\xs.length<1000000/\Q .Ay (AG H l (.AE (xs.take k.toNat++y :: xs.drop k.toNat)))
theorem RX:JH X "list.insert" eP:=by
 intro ge s σ H x vs v us Q I rx rv h;obtain⟨l,xs,k,y,rfl,rfl,O,k0,k1,hz,q⟩:=h;cases rx;obtain⟨u1,J,rfl,r1,r2⟩:=LK rv;obtain⟨t,rfl⟩:=r1;obtain⟨z,its,n,r,hl,e⟩:=I.DX O;have ab:its.length<=oR:=by rw[<-hl];exact z
 have aa:¬(!Builtin.List.listFitsIndex k)=true:=by
  unfold oY.List.listFitsIndex;simp only[acj,Bool.not_eq_false',sj,uE]
  lia
 refine we wR ⟨_,e,G⟩ PySem.F.entry_list_insert (PySem.F.args_list_insert_3 _ _ _) (AutoSeq1.list_insert_list_int_val_1 l its.toArray n k t J aa (by rw[oD];exact ab)) ⟨e,?_⟩;refine⟨.Ay,_,I.GJ (its':=its.take k.toNat++J :: its.drop k.toNat) O e ?_ ((r.take _).append (.cons r2 (r.drop _))) ?_,G,q⟩
 ·have hk:¬k<0:=()
  have hm:min k.toNat its.toArray.size=k.toNat:=by rw[oD];lia
  simp only[oC hk,hm];apply Array.toList_inj.mp;simp;exact oQ #v[]
 ·rw[oF,pk,pN,pS];rw[pD]at *
  lia
theorem ZA(hc:X.B9=true):Cr X (.builtin "min") (λxs H Q=>∃(p:Addr) (ns:List Int),xs=[.ref p]/\H p=some (.AF (ns.map V.int))/\0<ns.length/\∀m,m∈ns->(∀a∈ns,m<=a)->Q (.int m) H):=by
 intro ge s σ H xs us Q I r h;obtain⟨p,ns,rfl,hp,ae,q⟩:=h;obtain⟨u,rfl,r1⟩:=FI r;cases r1;obtain⟨its,rv,pa,_⟩:=I.tuple (AH.of (K:=X.K) hp);have ad:its.length=ns.length:=by rw[<-rv.length,kb]
 have ab:p<s.heap.objs.size:=by
  obtain⟨o,ho,_⟩:=id pa;exact oK ho
 have O:∀i v,its.toArray[i]?=some v->∃t,v=.int (ns.getD i 0) t/\i<ns.length:=λi v F=>by
  rw[sT]at F;have hi:i<its.length:=(oh.mp F).1;have aa:i<ns.length:=()
  have hx:(ns.map V.int)[i]?=some (.int ns[i]):=by rw[om,og aa];rfl
  obtain⟨u,hu,ru⟩:=rv.get hx;rw[hu]at F;obtain rfl:u=v:=oV F;obtain⟨t,rfl⟩:=ru;exact⟨t,by rw[oj,og aa];rfl,aa⟩
 refine call_min_walk (r8 pa ?_);refine⟨s.heap.objs.size,_,_,_,_,_,λi j=>decide (ns.getD i 0<ns.getD j 0),G,Walks.tuple (show X.A.in1.handled=none from I.ok.hd hc) _ p (o6 ab) its.toArray,⟨⟨_,oJ _ rfl,G,G⟩,pa.push _⟩,λb J=>?_,by rw[oD];lia,λi j vi vj s' Q' E' hi hj ac=>?_,λv h' tk F k=>?_⟩
 ·simp only[oG,o3,qN]at J;rw[rz];rcases J with rfl|rfl
  ·exact vc _
  ·exact tM ab
 ·obtain⟨t1,rfl,_⟩:=O i vi hi;obtain⟨t2,rfl,_⟩:=O j vj hj;exact lt_int ac
 ·obtain⟨t,rfl,J⟩:=O _ v F;obtain⟨h1,h2⟩:=argBest_lt (λi=>ns.getD i 0) (its.toArray.size-1);refine⟨.int _,H,I.Bf λb o eb=>?_,⟨t,G⟩,q _ (getD_mem J) λa ha=>?_⟩
  ·exact k b o (λz=>by
    have:b=s.heap.objs.size:=by simpa using z
    exact absurd (oK eb) (by rw[this];exact tD _)) (oo _ eb)
  ·obtain⟨j,hj,rfl⟩:=mem_getD ha;exact h2 j (by rw[oD];lia)
end
section
variable {X:Cx}
def Ld(a:Addr): It :=
  ⟨λi H => ∃xs x,H a=some (.AE xs)/\xs[i]? = some x,
   λi H v H' => ∃p x,v = .ref p/\H p=none/\H' = AG H p (.AF [.int i,x]) /\ ∀xs,H a=some (.AE xs) → xs[i]? = some x,
   λi H => ∃xs,H a=some (.AE xs)/\xs.length=i⟩
theorem Yd{P:pG}{w:World}{K:ow}{es:List pJ}{kk:Nat}{pos:Pos}{a e J:Addr}(ae:e≠J):
  Fn P w K (.Tuple es kk pos) (Ld a) [e,J] e (λi h=>(∃aa,abp h e J ((i:Nat):Int) aa)/\h.IsListIter J a i) where
 mem:=by simp
 Cw:=λi h st c F=>by
  obtain⟨⟨aa,h1⟩,o2,h2,_,d2⟩:=st;simp only[oG,o3,qN]at F;rcases F with rfl|rfl
  ·exact⟨_,h1,λv z=>by have z':yq _=xy v:=z;cases z'⟩
  ·exact⟨_,h2,λv z=>by rw[d2]at z;cases z⟩
 keep:=λi h h' st k=>by
  obtain⟨⟨aa,h1⟩,o2,h2,r⟩:=st;exact⟨⟨aa,k e #v[] _ h1⟩,o2,k J #v[] _ h2,r⟩
 item:=by
  intro X hP hw hK F i ge s σ H E I O st hg;subst hP hw hK;obtain⟨xs,x,qa,hx⟩:=hg;obtain⟨its,rv,pa,_⟩:=I.list (AJ.of (K:=X.K) qa);obtain⟨ux,ag,rx⟩:=rv.get hx;obtain⟨⟨aa,h1⟩,h2⟩:=st;have am:e≠a:=λz=>by
   have:=(O e #v[]).1
   rw[z,qa]at this;cases this
  have ad:a≠J:=λz=>by
   have:=(O J #v[]).1
   rw[<-z,qa]at this;cases this
  have ao:i<its.toArray.size:=by
   rw[oD];exact(oh.mp ag).1
  have D:Draws X.prog X.w X.A.in1 J [J,a] its.toArray.size (λi v=>its.toArray[i]?=some v) (λi h=>h.IsListIter J a i/\h.IsList a its.toArray):=Draws.list (show X.A.in1.handled=none from I.ok.hd F) J a ad its.toArray;refine zS D h1 ⟨h2,pa.isList⟩ ao ae (by simp[ae,am]) λy h' tk hy a1 a2 a3 a4 k=>?_
  have al:y=ux:=by
   have q1:its.toArray[i]?=some y:=hy;rw[sT,ag]at q1;exact(oV q1).symm
  subst al;refine⟨_,G,yN a1 λab b1 sb=>?_⟩;have sb:qr e h' ab:=sb;have ah:s.heap.objs.size≠e:=rK (oK h1);have aj:s.heap.objs.size≠J:=by
   obtain⟨o,g,_⟩:=id h2;exact rK (oK g)
  have hn:H s.heap.objs.size=none:=I.AY.fresh (oz _);have ac:∀c o,c∉[e,J]->s.heap.get? c=some o->ab.get? c=some o:=λc o F q =>
   (sb.2 c λz=>F (by simp[z])).trans (k c o (λz=>F (by simp[z])) (λz=>F (by simp[z])) q)
  have tO:ab.get? s.heap.objs.size=some { cls:=.type "tuple",data:=.seq #[.int i tk,y]}:=(sb.2 _ ah).trans a3;have nt:∀c u,H c=some u->c∉[e,J]:=λc u q F=>by
   have:=(O c F).1
   rw[q]at this;cases this
  have ai:BP X.prog X.w (AG H s.heap.objs.size (.AF [.int i,x])) ab s.heap.objs.size (.AF [.int i,x]) :=
   ⟨by exact CI,[.int i tk,y],.cons ⟨tk,G⟩ (.cons rx .nil),⟨_,tO,G,_,G⟩,_,tO,G⟩
  have I1:AI X ge σ (AG H s.heap.objs.size (.AF [.int i,x])) { s with heap:=ab,toks:=tk+1}:=by
   refine I.step (g':=s.gens) (d':=s.drawn) (t':=tk+1) (ch:=[e,J]) (λc F=>⟨(O c F).2.2.2.1,(O c F).2.1,(O c F).2.2.2.2.1,(O c F).2.2.2.2.2⟩) (λc o _ _ F q _=>ac c o F q) (λc o _ _ F q _=>⟨o.slots,ac c o F q⟩)
    (λc o _ q n=>by rw[AV (o6 (oK q))];exact n) (λc o F q=>⟨o,ac c o F q⟩) (λc vs q=>by rw[AV (BD q hn)];exact q) (λc o vs q=>by rw[AV (BD q hn)];exact q)
    (λc ps q=>⟨#[],by rw[AV (BD q hn),q];simp⟩) (λm hm=>?_) (λc o q=>?_) I.C5
   ·obtain⟨o,ak,ep,ho,r⟩:=hm;exact⟨o,ak,ep,ac _ o (λq=>(O _ q).2.1 rfl) ho,r⟩
   ·by_cases af:c=s.heap.objs.size
    ·subst af;rw[AQ]at q;cases q;exact ai
    ·rw[AV af]at q;refine(I.AY c o q).Fp (λd v hd z=>ac d v ?_ z) (λd z=>by rw[AV (BD z hn)];exact z) λd vs z=>by rw[AV (BD z hn)];exact z
     rcases hd with hd|hd
     ·rw[hd];exact nt c o q
     ·exact nt d _ hd
  have g2:ab.IsListIter J a (i+1):=by
   obtain⟨⟨o,g,r⟩,_⟩:=a2;exact⟨o,(sb.2 _ (qp ae)).trans g,r⟩
  have g1:abp ab e J (((i+1:Nat)):Int) y:=by
   have:((i+1:Nat):Int)=(i:Int)+1:=()
   rw[this];exact b1
  exact⟨.ref s.heap.objs.size,_,I1,G,⟨_,x,G,hn,G,λap q=>by rw[qa]at q;cases q;exact hx⟩,⟨⟨_,g1⟩,g2⟩,λc F=>by
   have:c≠s.heap.objs.size:=by
    simp only[oG,o3,qN]at F;rcases F with rfl|rfl
    ·exact qp ah
    ·exact qp aj
   rw[AV this];exact(O c F).1⟩
 done:=by
  intro X hP hw hK F i ge s σ H E I O st hg;subst hP hw hK;obtain⟨xs,qa,hl⟩:=hg;obtain⟨its,rv,pa,_⟩:=I.list (AJ.of (K:=X.K) qa);obtain⟨⟨aa,h1⟩,h2⟩:=st;have ad:a≠J:=λz=>by
   have:=(O J #v[]).1
   rw[<-z,qa]at this;cases this
  have D:Draws X.prog X.w X.A.in1 J [J,a] its.toArray.size (λi v=>its.toArray[i]?=some v) (λi h=>h.IsListIter J a i/\h.IsList a its.toArray):=Draws.list (show X.A.in1.handled=none from I.ok.hd F) J a ad its.toArray;have hi:its.toArray.size=i:=by
   rw[oD,<-rv.length];exact hl
  obtain⟨f0,f1,f2,f3,f4,f5⟩:=O J #v[];refine aar D h1 (by rw[hi];exact⟨h2,pa.isList⟩) λh' k=>⟨G,I.FD (t':=s.toks) (λb o hb q=>k b o hb q) f0 f1 f3 f4 f5⟩
 self:=λ_ _ _ _ _ st h=>by
  obtain⟨⟨aa,h1⟩,_⟩:=st;exact xl h1 h
def hJ(ta:TA):TI:=λσ H R=>ta σ H λvs H1=>∃a xs,vs=[.ref a]/\H1 a=some (.AE xs)/\R (Ld a) H1
theorem MG{es:List pJ}{kk:Nat}{tpos:Pos}{a:pJ}{ta:TA}{p pos:Pos}(hg:Gl X "enumerate")(hm:X.mg "enumerate" = none)(ha:PA X [a] ta)(hs:pK [a] X.env=[(false,eval a X.env)]:=by rfl):
  PI X (.Tuple es kk tpos) (.Call (.Name "enumerate" p) [a] [] pos) (hJ ta):=by
 intro ge s σ H R I h;refine Call_ (FC I hg hm yz (rE (AZ (ha pos ge s σ H _ I h) λus F ⟨vs,H1,J,r1,q1⟩=>?_) hs rfl));obtain⟨la,xs,e,qa,q⟩:=q1;subst e;obtain⟨u1,rfl,ra⟩:=FI r1;cases ra;obtain⟨its,rv,pa,_⟩:=J.list (AJ.of (K:=X.K) qa);refine call_enumerate_list pa.isList λh' z1 z2 _ zk=>xl z1 ?_
 have I2:AI X ge σ H1 { F with heap:=h'}:=J.Bf (t':=F.toks) zk;refine⟨F.heap.objs.size+1,_,_,_,H1,G,I2,Yd (acy _),⟨⟨_,z1⟩,z2⟩,λc O=>?_,q⟩;have aa:F.heap.objs.size<=c:=by
  simp only[oG,o3,qN]at O;rcases O with rfl|rfl<;>lia
 exact J.Ht (H':=H1) aa (J.AY.fresh aa)
theorem L8 {a:Addr}{xs:List V}{g:TG}{tb:TS}{D:Dx}{σ:St}{H:Hp}(F:Nat->St->Hp->Prop)(h0:F 0 σ H)(hl:∀i σ H,i<=xs.length->F i σ H->H a=some (.AE xs))
  (hs:∀i x σ H p,xs[i]?=some x->F i σ H->H p=none->g (.ref p) σ (AG H p (.AF [.int i,x])) λJ H2=>tb { D with nx:=F (i+1),ct:=F (i+1),bk:=D.nx} J H2)(hd:∀σ H,F xs.length σ H->D.nx σ H) :
  ∃W:Nat->Nat->St->Hp->Prop,(∃m,W 0 m σ H)/\∀i m σ H,W i m σ H →
   ((Ld a).DZ i H/\D.nx σ H)\/((Ld a).go i H/\∃N:St->Hp->Prop,(∀O H',N O H'->∃m',m' < m/\W (i+1) m' O H')/\∀x H',(Ld a).De i H x H'->g x σ H' λJ H2=>tb { D with nx:=N,ct:=N,bk:=D.nx} J H2):=by
 refine⟨λi m σ H=>m=xs.length-i/\i<=xs.length/\F i σ H,⟨xs.length,#v[],o9 _,h0⟩,?_⟩;rintro i m σ H ⟨rfl,hi,p⟩;have qa:=hl i σ H hi p;rcases oW i xs.length with aa|hge
 ·refine .inr ⟨⟨xs,xs[i],qa,by simp[aa]⟩,F (i+1),λO H' p'=>⟨xs.length-(i+1),(),G,aa,p'⟩,λv H' yl=>?_⟩;obtain⟨pa,x,rfl,hp,rfl,hx⟩:=yl;exact hs i x σ H pa (hx xs qa) p hp
 ·obtain rfl:i=xs.length:=()
  exact .inl ⟨⟨xs,qa,G⟩,hd σ H p⟩
theorem JX(h:k (σ.set i (some v)) H):BH i v σ H k:=h
theorem Jf{t u:L2.TS}{D:Dx}{σ:L2.St}{H:Hp}(h:∀U:L2.St->Hp->Prop,u D=U->t { D with nx:=U} σ H):KA t u D σ H:=h _ rfl
theorem nx_hide{t:L2.TS}{N c b:L2.St->Hp->Prop}{r:VK}{σ:L2.St}{H:Hp}(h:∀U:L2.St->Hp->Prop,N=U->t { nx:=U,rt:=r,ct:=c,bk:=b} σ H):t { nx:=N,rt:=r,ct:=c,bk:=b} σ H:=h _ rfl
theorem DD {X:Cx}{o e:pJ}{es:List pJ}{to:TE}{t:TA}{name:Str}{apos cpos:Pos}{T id:String}{r:V->List V->Hp->VK->Prop}(pa:acS T)(ab:Slot T name id)(aa:typeOf (.builtin id)=pure (.type "method_descriptor"))(F:W8 X id r)(ho:PE X o to)(O:PA X (e :: es) t)
  (J:aa8 o name X.env (eval o X.env)=eval o X.env:=by rfl)
  (ae:((uD cpos (pK (e :: es) X.env)).all (λx=>!x.1) && (backToKw cpos (acf [] X.env)).all (λx=>x.1.isSome) && decide ((e :: es).length+([]:List aay).length+(if ([]:List aay).isEmpty then 0 else 1)<30))=true:=by rfl)
  (ac:(apos.endLine == cpos.line)=true:=by rfl)(hs:pK (e :: es) X.env=(false,eval e X.env) :: pK es X.env:=by rfl)(ad:(uD cpos (pK es X.env)).any (·.1)=false:=by rfl) :
  PE X (.Call (.Attribute o name apos) (e :: es) [] cpos) (W9 [] T r to t):=λge s σ H Q I h=>ki pa ab aa F ho.wk O J ae ac hs ad ge s σ H Q I ⟨_,h,λ_ _ ⟨ty,q⟩=>⟨ty.up,q⟩⟩
theorem L3:∀{ns:List Int} {F:List Value},Af (ns.map V.int) F->sv F ns
 |[],_,.nil=>.nil
 |n :: r,_,.cons (b:=u) h t=>by
  obtain⟨k,rfl⟩:=h;exact .cons n k (L3 t)
theorem Q5(ns:List Int):vg (.tuple (ns.map acT))=true:=by
 simp[vg,yf,wQ,PySem.W.ke_canLayAll0,PySem.W.ke_depthAll]
theorem aJ(ns F:List Int):acU (.tuple (ns.map acT)) (.tuple (F.map acT))=decide (ns=F):=by
 simp only[acU];exact PySem.W.ke_sameAll ns F
theorem OD(hu:X.A.units+64<cLine):B5 X (r6 .Eq) (λx y H Q=>∃(p q:Addr) (ns F:List Int),x=.ref p/\y=.ref q/\H p=some (.AF (ns.map V.int))/\H q=some (.AF (F.map V.int))/\Q (.bl (decide (ns=F))) H):=by
 intro ge s σ H x y v u Q I J ry h;obtain⟨p,q,ns,F,rfl,rfl,hp,hq,k⟩:=h;cases J;cases ry;obtain⟨its,O,t1,_⟩:=I.tuple (AH.of (K:=X.K) hp);obtain⟨aa,r2,t2,_⟩:=I.tuple (AH.of (K:=X.K) hq);refine eq_dataH_same (reads_tuple_ints t1 (L3 O)) (reads_tuple_ints t2 (L3 r2)) (Q5 ns) (Q5 F) hu (SeqAt.noMix_of_shape (.tuples .int) rfl _ _ (tuples_map_has λ_=>rfl) (tuples_map_has λ_=>rfl)) ?_;rw[aJ];exact⟨.bl _,H,I,G,k⟩
def Bs(t:Bool)(h:Heap)(c a:Addr)(k:Nat):Prop:=if t then h.IsTupleIter c a k else h.IsListIter c a k
def DL(t:Bool)(h:Heap)(a:Addr)(vs:Array Value):Prop:=if t then h.IsTuple a vs else h.IsList a vs
theorem Bs.ext(x:Bs t h c a k)(F:uQ b h h')(n:c≠b):Bs t h' c a k:=by
 cases t
 ·exact acI.extBut x F n
 ·exact adq x F n
theorem Bs.at(x:Bs t h c a k)(e:∀o,h.get? c=some o->h'.get? c=some o):Bs t h' c a k:=by
 cases t
 ·exact acI.at x e
 ·exact acm.at x e
theorem Bs.Cw(x:Bs t h c a k):∃o,h.get? c=some o/\∀v,o.data≠.cell v:=by
 cases t
 ·obtain⟨o,e,_,d⟩:=x;exact⟨o,e,λv z=>by rw[d]at z;cases z⟩
 ·obtain⟨o,e,_,d⟩:=x;exact⟨o,e,λv z=>by rw[d]at z;cases z⟩
theorem DL.ext(x:DL t h a vs)(F:uQ b h h')(n:a≠b):DL t h' a vs:=by
 cases t
 ·exact wq.extBut x F n
 ·exact uX.extBut x F n
variable {prog:pG}{w:World}{A:qM}{E:Value->oq->Prop}{s:oq}
theorem OA {t:Bool}{c a:Addr}{k:Nat}{vs:Array Value}{y:Value}{Q:Value->oq->Prop}(O:Bs t s.heap c a k)(F:DL t s.heap a vs)(J:vs[k]?=some y)
  (hQ:∀h',Bs t h' c a (k+1)->qr c s.heap h'->Q y { s with heap:=h'}):wpAny (model prog w) A (qT (.ref c)) Q E s:=by
 cases t
 ·exact wpAny_nextOf_list_item O F J hQ
 ·exact Q6 O F J hQ
theorem Ro {t:Bool}{c a:Addr}{k:Nat}{vs:Array Value}{Q:Value->oq->Prop}(hh:A.handled=none)(O:Bs t s.heap c a k)(F:DL t s.heap a vs)(J:vs[k]?=none)
  (hE:∀h' x,uQ c s.heap h'->(∃o,h'.get? x=some o/\o.cls=.type "StopIteration")->E (.ref x) { s with heap:=h'}):wpAny (model prog w) A (qT (.ref c)) Q E s:=by
 cases t
 ·exact wpAny_nextOf_list_end hh O F J hE
 ·exact RZ hh O F J hE
theorem Yv {t1 t2:Bool}{z TI J i1 i2 l1 l2:Addr}{k1 k2:Nat}{xs ys:Array Value}{x y a b:Value}{Q:Value->oq->Prop}(F:zA z TI J i1 i2 l1 l2)
  (qz:IsZip s.heap z TI J .none)(qI:sV s.heap TI (.ref i1) (.ref i2))(qO:sV s.heap J a b)
  (q1:Bs t1 s.heap i1 l1 k1)(q2:Bs t2 s.heap i2 l2 k2)(m1:DL t1 s.heap l1 xs)(m2:DL t2 s.heap l2 ys)(hx:xs[k1]?=some x)(hy:ys[k2]?=some y)
  (hQ:∀g,IsZip g z TI J (rR s.heap.objs.size)->sV g J x y->Bs t1 g i1 l1 (k1+1)->Bs t2 g i2 l2 (k2+1)->sV g s.heap.objs.size x y->g.objs.size=s.heap.objs.size+1 →
   (∀c o,c≠z->c≠J->c≠i1->c≠i2->s.heap.get? c=some o->g.get? c=some o)->Q (.ref s.heap.objs.size) { s with heap:=g}) :
  wpAny (model prog w) A (oY.«zip.__next__» ⟨[.ref z],[]⟩) (λad s'=>∃v,ad=.done (.ret v)/\Q v s') E s:=by
 show wpAny _ A (field (.ref z) 2 >>= _) _ _ _;refine oa (rY qz rfl (x:=.bool false) rfl ?_);show wpAny _ A (field (.ref z) 3 >>= _) _ _ _;refine oa (rY qz rfl (x:=.ref TI) rfl (oa (tH qI rfl ?_)));show wpAny _ A (tE (.ref z) >>= _) _ _ _;refine oa ?_;unfold tE;refine oa (rY qz rfl (x:=.none) rfl (ou ?_));simp only[if_true];refine oa (uj (oa (rY qz rfl (x:=.ref J) rfl (oa (uw qz #v[] λg1 z1 s1=>?_)))));replace z1:IsZip g1 z TI J .ellipsis:=z1;refine oa ?_;simp only[acx,acP,wG,aaA];refine oa (oa (yO ?_));show wpAny _ A (qT (.ref i1) >>= _) _ _ _;refine oa (OA (q1.ext s1.extBut F.i1z) (m1.ext s1.extBut F.l1z) hx λg2 n1 s2=>ou ?_);have O2:sV g2 J a b:=s2.extBut _ _ F.TOi1 (s1.extBut _ _ F.TOz qO);refine oa (tH O2 rfl (oa (xV O2 λg3 O3 s3=>?_)));replace O3:sV g3 J x b:=O3;refine oa (yt (ou (oa (oa (yO ?_)))));show wpAny _ A (qT (.ref i2) >>= _) _ _ _;refine oa (OA (((q2.ext s1.extBut F.i2z).ext s2.extBut F.i12.symm).ext s3.extBut F.TOi2.symm) (((m2.ext s1.extBut F.l2z).ext s2.extBut F.l2i1).ext s3.extBut F.l2TO) hy λg4 n2 s4=>ou ?_);have O4:sV g4 J x b:=s4.extBut _ _ F.TOi2 O3;refine oa (tH O4 rfl (oa (xV O4 λO O5 s5=>?_)));replace O5:sV O J x y:=O5;refine oa (yt (ou (ou (oa (tH O5 rfl (oa (aaO ?_)))))));have ab:O.objs.size=s.heap.objs.size:=by rw[s5.1,s4.1,s3.1,s2.1,s1.1]
 have z5:IsZip O z TI J .ellipsis:=s5.extBut _ _ F.TOz.symm (s4.extBut _ _ F.i2z.symm (s3.extBut _ _ F.TOz.symm (s2.extBut _ _ F.i1z.symm z1)));have kp:∀c o,c≠z->c≠J->c≠i1->c≠i2->s.heap.get? c=some o->O.get? c=some o:=λc o c1 c2 c3 c4 e =>
  s5.extBut _ _ c2 (s4.extBut _ _ c4 (s3.extBut _ _ c2 (s2.extBut _ _ c3 (s1.extBut _ _ c1 e))))
 have N1:Bs t1 O i1 l1 (k1+1):=((n1.ext s3.extBut F.TOi1.symm).ext s4.extBut F.i12).ext s5.extBut F.TOi1.symm;have N2:Bs t2 O i2 l2 (k2+1):=n2.ext s5.extBut F.TOi2.symm;have ac:z<O.objs.size:=oK z5;show wpAny _ A (wI (.ref z) (.ref O.objs.size) >>= _) _ _ _;refine oa ?_;unfold wI;have z6:IsZip (O.push { cls:=.type "tuple",data:=.seq #[x,y]}) z TI J .ellipsis:=oo _ z5;refine oa (uw z6 #v[] λg7 z7 s7=>?_);replace z7:IsZip g7 z TI J (rR O.objs.size):=z7;refine uw z7 #v[] λg8 z8 s8=>?_
 replace z8:IsZip g8 z TI J (rR O.objs.size):=z8;have up:∀c o,c≠z->O.get? c=some o->g8.get? c=some o:=λc o c1 e=>s8.extBut _ _ c1 (s7.extBut _ _ c1 (oo _ e))
 have T8:sV g8 O.objs.size x y:=s8.extBut _ _ (rK ac) (s7.extBut _ _ (rK ac) (oJ _ rfl));have aa:g8.objs.size=O.objs.size+1:=by rw[s8.1,s7.1,rz]
 rw[ab]at z8 T8 aa;refine ou ⟨_,G,?_⟩;show Q (.ref O.objs.size) _;rw[ab];exact hQ g8 z8 (up _ _ F.TOz O5) (N1.at λo e=>up _ o F.i1z e) (N2.at λo e=>up _ o F.i2z e) T8 aa λc o c1 c2 c3 c4 e=>up c o c1 (kp c o c1 c2 c3 c4 e)
theorem Z3 {t1 t2:Bool}{z TI O i1 i2 l1 l2:Addr}{k1 k2:Nat}{xs ys:Array Value}{a b:Value}{Q:Fin->oq->Prop}(hh:A.handled=none)(F:zA z TI O i1 i2 l1 l2)
  (qz:IsZip s.heap z TI O .none)(qI:sV s.heap TI (.ref i1) (.ref i2))(qO:sV s.heap O a b)
  (q1:Bs t1 s.heap i1 l1 k1)(q2:Bs t2 s.heap i2 l2 k2)(m1:DL t1 s.heap l1 xs)(m2:DL t2 s.heap l2 ys)(aa:xs[k1]?=none\/ys[k2]?=none)
  (hE:∀g e,(∀c o,c≠z->c≠O->c≠i1->c≠i2->s.heap.get? c=some o->g.get? c=some o)->(∃o,g.get? e=some o/\o.cls=.type "StopIteration")->E (.ref e) { s with heap:=g}) :
  wpAny (model prog w) A (oY.«zip.__next__» ⟨[.ref z],[]⟩) Q E s:=by
 show wpAny _ A (field (.ref z) 2 >>= _) _ _ _;refine oa (rY qz rfl (x:=.bool false) rfl ?_);show wpAny _ A (field (.ref z) 3 >>= _) _ _ _;refine oa (rY qz rfl (x:=.ref TI) rfl (oa (tH qI rfl ?_)));show wpAny _ A (tE (.ref z) >>= _) _ _ _;refine oa ?_;unfold tE;refine oa (rY qz rfl (x:=.none) rfl (ou ?_));simp only[if_true];refine oa (uj (oa (rY qz rfl (x:=.ref O) rfl (oa (uw qz #v[] λg1 z1 J=>?_)))));replace z1:IsZip g1 z TI O .ellipsis:=z1;refine oa ?_;simp only[acx,acP,wG,aaA];refine oa (oa (yO ?_));show wpAny _ A (qT (.ref i1) >>= _) _ _ _;cases hx:xs[k1]? with
 |none =>
  refine oa (Ro hh (q1.ext J.extBut F.i1z) (m1.ext J.extBut F.l1z) hx λg2 e s2 he=>?_);obtain⟨oe,w1,w2⟩:=he;have z2:IsZip g2 z TI O .ellipsis:=s2 _ _ F.i1z.symm z1;have ez:e≠z:=λx=>by subst x;rw[z2]at w1;cases w1;simp at w2
  exact uw z2 #v[] λg3 _ s3=>hE g3 e (λc o c1 _ c3 _ x=>s3.extBut _ _ c1 (s2 _ _ c3 (J.extBut _ _ c1 x))) ⟨oe,s3.extBut _ _ ez w1,w2⟩
 |some x =>
  have hy:ys[k2]?=none:=by rcases aa with h|h;rw[hx]at h;cases h;exact h
  refine oa (OA (q1.ext J.extBut F.i1z) (m1.ext J.extBut F.l1z) hx λg2 n1 s2=>ou ?_);have O2:sV g2 O a b:=s2.extBut _ _ F.TOi1 (J.extBut _ _ F.TOz qO);refine oa (tH O2 rfl (oa (xV O2 λg3 O3 s3=>?_)));refine oa (yt (ou (oa (oa (yO ?_)))));show wpAny _ A (qT (.ref i2) >>= _) _ _ _;refine oa (Ro hh (((q2.ext J.extBut F.i2z).ext s2.extBut F.i12.symm).ext s3.extBut F.TOi2.symm) (((m2.ext J.extBut F.l2z).ext s2.extBut F.l2i1).ext s3.extBut F.l2TO) hy λg4 e s4 he=>?_);obtain⟨oe,w1,w2⟩:=he;have z4:IsZip g4 z TI O .ellipsis:=s4 _ _ F.i2z.symm (s3.extBut _ _ F.TOz.symm (s2.extBut _ _ F.i1z.symm z1));have ez:e≠z:=λx=>by subst x;rw[z4]at w1;cases w1;simp at w2
  exact uw z4 #v[] λg5 _ s5=>hE g5 e (λc o c1 c2 c3 c4 x=>s5.extBut _ _ c1 (s4 _ _ c4 (s3.extBut _ _ c2 (s2.extBut _ _ c3 (J.extBut _ _ c1 x))))) ⟨oe,s5.extBut _ _ ez w1,w2⟩
theorem Xo {t1 t2:Bool}{z TI J O i2 l1 l2:Addr}{k1 k2:Nat}{xs ys:Array Value}{x y a b:Value}{Q:Option Value->oq->Prop}(ap:zA z TI J O i2 l1 l2)
  (qz:IsZip s.heap z TI J .none)(qI:sV s.heap TI (.ref O) (.ref i2))(qO:sV s.heap J a b)
  (q1:Bs t1 s.heap O l1 k1)(q2:Bs t2 s.heap i2 l2 k2)(m1:DL t1 s.heap l1 xs)(m2:DL t2 s.heap l2 ys)(hx:xs[k1]?=some x)(hy:ys[k2]?=some y)
  (hQ:∀g,IsZip g z TI J (rR s.heap.objs.size)->sV g J x y->Bs t1 g O l1 (k1+1)->Bs t2 g i2 l2 (k2+1)->sV g s.heap.objs.size x y->g.objs.size=s.heap.objs.size+1 →
   (∀c o,c≠z->c≠J->c≠O->c≠i2->s.heap.get? c=some o->g.get? c=some o)->Q (some (.ref s.heap.objs.size)) { s with heap:=g}) :
  wpAny (model prog w) A (vh (.ref z)) Q E s:=by
 have ty:s.TypeIs (.ref z) "zip":=⟨_,qz,G⟩;unfold vh;exact oa (xr (si (name:=tq "__next__") ty vU (sk vU ty aag
   (Yv ap qz qI qO q1 q2 m1 m2 hx hy λg a1 a2 a3 a4 a5 a6 a7=>ou (hQ g a1 a2 a3 a4 a5 a6 a7)) (zP _))))
theorem Xw {t1 t2:Bool}{z TI TO J O l1 l2:Addr}{k1 k2:Nat}{xs ys:Array Value}{a b:Value}{Q:Option Value->oq->Prop}(hh:A.handled=none)(ap:zA z TI TO J O l1 l2)
  (qz:IsZip s.heap z TI TO .none)(qI:sV s.heap TI (.ref J) (.ref O))(qO:sV s.heap TO a b)
  (q1:Bs t1 s.heap J l1 k1)(q2:Bs t2 s.heap O l2 k2)(m1:DL t1 s.heap l1 xs)(m2:DL t2 s.heap l2 ys)(aa:xs[k1]?=none\/ys[k2]?=none)
  (hQ:∀g,(∀c o,c≠z->c≠TO->c≠J->c≠O->s.heap.get? c=some o->g.get? c=some o)->Q none { s with heap:=g}):wpAny (model prog w) A (vh (.ref z)) Q E s:=by
 have ty:s.TypeIs (.ref z) "zip":=⟨_,qz,G⟩;unfold vh;refine oa (xr (si (name:=tq "__next__") ty vU (sk vU ty aag (Z3 hh ap qz qI qO q1 q2 m1 m2 aa λg e hk he=>?_) (zP _))));obtain⟨o,w1,w2⟩:=he;exact oa (zJ (T:="StopIteration") (b:=true) ⟨o,w1,w2⟩ isSubtype_stop (ou (hQ _ hk)))
def FV(t:Bool)(l:Addr):Obj:=if t then { cls:=.type "tuple_iterator",data:=.fields #[.ref l,.int 0 0]} else { cls:=.type "list_iterator",data:=.fields #[.ref l,.int 0 0]}
abbrev JQ(t1 t2:Bool)(h:Heap)(J F:Addr):Heap:=(h.push (FV t1 J)).push (FV t2 F)
abbrev N4(t1 t2:Bool)(h:Heap)(F J:Addr):Heap:=((JQ t1 t2 h F J).push { cls:=.type "tuple",data:=.seq #[.ref h.objs.size,.ref (h.push (FV t1 F)).objs.size]}).push { cls:=.type "tuple",data:=.seq #[.none,.none]}
abbrev JI(t1 t2:Bool)(h:Heap)(F J:Addr):Heap:=(N4 t1 t2 h F J).push { cls:=.type "zip",data:=.fields #[.none,.bool false,.bool false,.ref (JQ t1 t2 h F J).objs.size,.ref ((JQ t1 t2 h F J).push { cls:=.type "tuple",data:=.seq #[.ref h.objs.size,.ref (h.push (FV t1 F)).objs.size]}).objs.size]}
set_option maxHeartbeats 4000000 in
theorem YJ(t1 t2:Bool)(F l2:Addr)(xs ys:Array Value):
  Meets (oY.«zip.__new__» ⟨[.type "zip",.ref F,.ref l2],[]⟩) (λ_ R s=>DL t1 s.heap F xs/\DL t2 s.heap l2 ys/\R (.ok (.ret (.ref (N4 t1 t2 s.heap F l2).objs.size))) { s with heap:=JI t1 t2 s.heap F l2}) :=
 .of_wp λprog w A R s h=>by
  obtain⟨O,g,d,tk,J⟩:=s;obtain⟨m1,m2,h⟩:=h;have aa:=sub_zip;cases t1<;>cases t2
  ·have a1:wq (uS ⟨O,g,d,tk,J⟩) F xs:=m1;have a2:wq (uS ⟨O.push { cls:=.type "list_iterator",data:=.fields #[.ref F,.int 0 0]},g,d,tk,J⟩) l2 ys:=ack m2 _
   wp_walk using tN a1,tN a2
   exact⟨_,G,h⟩
  ·have a1:wq (uS ⟨O,g,d,tk,J⟩) F xs:=m1;have a2:uX (uS ⟨O.push { cls:=.type "list_iterator",data:=.fields #[.ref F,.int 0 0]},g,d,tk,J⟩) l2 ys:=abW m2 _
   wp_walk using tN a1,r8 a2
   exact⟨_,G,h⟩
  ·have a1:uX (uS ⟨O,g,d,tk,J⟩) F xs:=m1;have a2:wq (uS ⟨O.push { cls:=.type "tuple_iterator",data:=.fields #[.ref F,.int 0 0]},g,d,tk,J⟩) l2 ys:=ack m2 _
   wp_walk using r8 a1,tN a2
   exact⟨_,G,h⟩
  ·have a1:uX (uS ⟨O,g,d,tk,J⟩) F xs:=m1;have a2:uX (uS ⟨O.push { cls:=.type "tuple_iterator",data:=.fields #[.ref F,.int 0 0]},g,d,tk,J⟩) l2 ys:=abW m2 _
   wp_walk using r8 a1,r8 a2
   exact⟨_,G,h⟩
theorem ZG {t1 t2:Bool}{J O:Addr}{xs ys:Array Value}{Q:Value->oq->Prop}(m1:DL t1 s.heap J xs)(m2:DL t2 s.heap O ys)
  (h:∀g,IsZip g (s.heap.objs.size+4) (s.heap.objs.size+2) (s.heap.objs.size+3) .none->sV g (s.heap.objs.size+2) (.ref s.heap.objs.size) (.ref (s.heap.objs.size+1)) →
   sV g (s.heap.objs.size+3) .none .none->Bs t1 g s.heap.objs.size J 0->Bs t2 g (s.heap.objs.size+1) O 0->g.objs.size=s.heap.objs.size+5 →
   (∀c o,s.heap.get? c=some o->g.get? c=some o)->Q (.ref (s.heap.objs.size+4)) { s with heap:=g}) :
  wpAny (model prog w) A (call (.type "zip") [.ref J,.ref O]) Q E s:=by
 refine callType_new PySem.F.called_zip ∅ (PySem.F.typeCall_zip_2 _ _) (PySem.F.newCall_zip_2 _ _) (λaa=>PySem.F.args_object_init_3 aa _ _) PySem.F.entry_zip_new (YJ t1 t2 J O xs ys) ⟨m1,m2,?_⟩;have y1:(s.heap.push (FV t1 J)).objs.size=s.heap.objs.size+1:=rz ..;have y2:(JQ t1 t2 s.heap J O).objs.size=s.heap.objs.size+2:=by rw[rz,y1]
 have y3:((JQ t1 t2 s.heap J O).push { cls:=.type "tuple",data:=.seq #[.ref s.heap.objs.size,.ref (s.heap.push (FV t1 J)).objs.size]}).objs.size=s.heap.objs.size+3:=by rw[rz,y2]
 have y4:(N4 t1 t2 s.heap J O).objs.size=s.heap.objs.size+4:=by rw[rz,y3]
 have y5:(JI t1 t2 s.heap J O).objs.size=s.heap.objs.size+5:=by rw[rz,y4]
 have f1:∀(t:Bool) (l:Addr),(FV t l).isFreed=false:=λt l=>by cases t<;>rfl
 have e5:(JI t1 t2 s.heap J O).get? (N4 t1 t2 s.heap J O).objs.size=some _:=oJ _ rfl;have e4:(JI t1 t2 s.heap J O).get? ((JQ t1 t2 s.heap J O).push { cls:=.type "tuple",data:=.seq #[.ref s.heap.objs.size,.ref (s.heap.push (FV t1 J)).objs.size]}).objs.size=some _:=oo _ (oJ _ rfl);have e3:(JI t1 t2 s.heap J O).get? (JQ t1 t2 s.heap J O).objs.size=some _:=oo _ (oo _ (oJ _ rfl));have e2:(JI t1 t2 s.heap J O).get? (s.heap.push (FV t1 J)).objs.size=some (FV t2 O):=oo _ (oo _ (oo _ (oJ _ (f1 _ _))));have e1:(JI t1 t2 s.heap J O).get? s.heap.objs.size=some (FV t1 J):=oo _ (oo _ (oo _ (oo _ (oJ _ (f1 _ _)))));have iK:∀(t:Bool) (g:Heap) (c l:Addr),g.get? c=some (FV t l)->Bs t g c l 0:=λt g c l e=>by cases t<;>exact⟨_,e,G,G⟩
 show _/\_;rw[y2,y3,y4]at e5;rw[y1,y2]at e3;rw[y3]at e4;rw[y1]at e2;rw[y4];exact⟨⟨_,e5,G⟩,h _ e5 e3 e4 (iK _ _ _ _ e1) (iK _ _ _ _ e2) y5 λc o q=>oo _ (oo _ (oo _ (oo _ (oo _ q))))⟩
def BV(t:Bool)(K:ow)(H:Hp)(a:Addr)(xs:List V):Prop:=if t then AH K H a xs else AJ K H a xs
theorem DL.lt(x:DL t h a vs):a<h.objs.size:=by
 cases t
 ·obtain⟨o,e,_⟩:=x;exact oK e
 ·obtain⟨o,e,_⟩:=x;exact oK e
theorem AI.KQ(I:AI X ge σ H s)(h:BV t X.K H a xs):∃its:List Value,Af xs its/\DL t s.heap a its.toArray/\xs.length<=oR:=by
 cases t
 ·obtain⟨its,F,p,z⟩:=I.list h;exact⟨its,F,p.isList,z⟩
 ·obtain⟨its,F,p,z⟩:=I.tuple h;exact⟨its,F,p,z⟩
theorem AI.S7(I:AI X ge σ H s)(h:BV t X.K H a xs)(g:BV t X.K H a ys):xs=ys:=by
 cases t
 ·exact I.list_inj h g
 ·exact I.Rk h g
theorem BV.l{K:ow}(h:H a=some (.AE xs)):BV false K H a xs:=AJ.of h
theorem BV.t{K:ow}(h:H a=some (.AF xs)):BV true K H a xs:=AH.of h
def Ka(K:ow)(t1 t2:Bool)(a b:Addr): It :=
  ⟨λi H => ∃xs ys x y,BV t1 K H a xs/\BV t2 K H b ys/\xs[i]? = some x/\ys[i]? = some y,
   λi H v H' => ∃p x y,v = .ref p/\H p=none/\H' = AG H p (.AF [x,y])/\(∀xs,BV t1 K H a xs → xs[i]? = some x) /\ ∀ys,BV t2 K H b ys → ys[i]? = some y,
   λi H => ∃xs ys,BV t1 K H a xs/\BV t2 K H b ys/\(xs.length<=i\/ys.length<=i)⟩
theorem Zl{t1 t2:Bool}{P:pG}{w:World}{K:ow}{es:List pJ}{kk:Nat}{pos:Pos}{a b z TI TO i1 O:Addr}(D:zA z TI TO i1 O a b):
  Fn P w K (.Tuple es kk pos) (Ka K t1 t2 a b) [z,TI,TO,i1,O] z (λi h=>IsZip h z TI TO .none/\sV h TI (.ref i1) (.ref O)/\(∃u v,sV h TO u v)/\Bs t1 h i1 a i/\Bs t2 h O b i) where
 mem:=by simp
 Cw:=λi h st c F=>by
  obtain⟨h1,h2,⟨u,v,h3⟩,h4,h5⟩:=st;simp only[oG,o3,qN]at F;rcases F with rfl|rfl|rfl|rfl|rfl
  ·exact⟨_,h1,λv z=>by have z':yq _=xy v:=z;cases z'⟩
  ·exact⟨_,h2,λv z=>by have z':Data.seq _ _=xy v:=z;cases z'⟩
  ·exact⟨_,h3,λv z=>by have z':Data.seq _ _=xy v:=z;cases z'⟩
  ·exact h4.Cw
  ·exact h5.Cw
 keep:=λi h h' st k=>by
  obtain⟨h1,h2,⟨u,v,h3⟩,h4,h5⟩:=st;exact⟨k z #v[] _ h1,k TI #v[] _ h2,⟨u,v,k TO #v[] _ h3⟩,h4.at λo e=>k i1 #v[] o e,h5.at λo e=>k O #v[] o e⟩
 item:=by
  intro X hP hw hK F i ge s σ H E I J st hg;subst hP hw hK;obtain⟨xs,ys,x,y,qa,qb,hx,hy⟩:=hg;obtain⟨its,rv,pa,_⟩:=I.KQ qa;obtain⟨af,ac,pb,_⟩:=I.KQ qb;obtain⟨ux,ai,rx⟩:=rv.get hx;obtain⟨uy,aj,ry⟩:=ac.get hy;obtain⟨h1,h2,⟨u,v,h3⟩,h4,h5⟩:=st;refine Xo D h1 h2 h3 h4 h5 pa pb (x:=ux) (y:=uy) (by simpa using ai) (by simpa using aj) λh' a1 a2 a3 a4 a5 a6 k=>?_
  refine⟨_,G,wpAny_letOwnedTupleGo_zip a1 λab b1 sb=>?_⟩;have hsz:s.heap.objs.size≠z:=rK (oK h1);have ak:∀c∈[z,TI,TO,i1,O],s.heap.objs.size≠c:=λc F=>by
   have:∃o,s.heap.get? c=some o:=by
    obtain⟨o4,g4,_⟩:=h4.Cw;obtain⟨o5,g5,_⟩:=h5.Cw;simp only[oG,o3,qN]at F;rcases F with rfl|rfl|rfl|rfl|rfl
    ·exact⟨_,h1⟩
    ·exact⟨_,h2⟩
    ·exact⟨_,h3⟩
    ·exact⟨_,g4⟩
    ·exact⟨_,g5⟩
   obtain⟨o,e⟩:=this;exact rK (oK e)
  have hn:H s.heap.objs.size=none:=I.AY.fresh (oz _);have aa:∀c o,c∉[z,TI,TO,i1,O]->s.heap.get? c=some o->ab.get? c=some o:=λc o F e =>
   (sb.2 c λq=>F (by simp[q])).trans (k c o (λq=>F (by simp[q])) (λq=>F (by simp[q])) (λq=>F (by simp[q])) (λq=>F (by simp[q])) e)
  have tO:ab.get? s.heap.objs.size=some { cls:=.type "tuple",data:=.seq #[ux,uy]}:=(sb.2 _ hsz).trans a5;have nt:∀c u,H c=some u->c∉[z,TI,TO,i1,O]:=λc u e F=>by
   have:=(J c F).1
   rw[e]at this;cases this
  have ag:BP X.prog X.w (AG H s.heap.objs.size (.AF [x,y])) ab s.heap.objs.size (.AF [x,y]) :=
   ⟨by exact CI,[ux,uy],.cons rx (.cons ry .nil),⟨_,tO,G,_,G⟩,_,tO,G⟩
  have I1:AI X ge σ (AG H s.heap.objs.size (.AF [x,y])) { s with heap:=ab}:=by
   refine I.step (g':=s.gens) (d':=s.drawn) (t':=s.toks) (ch:=[z,TI,TO,i1,O]) (λc F=>⟨(J c F).2.2.2.1,(J c F).2.1,(J c F).2.2.2.2.1,(J c F).2.2.2.2.2⟩) (λc o _ _ F e _=>aa c o F e) (λc o _ _ F e _=>⟨o.slots,aa c o F e⟩)
    (λc o _ e n=>by rw[AV (o6 (oK e))];exact n) (λc o F e=>⟨o,aa c o F e⟩) (λc vs e=>by rw[AV (BD e hn)];exact e) (λc o vs e=>by rw[AV (BD e hn)];exact e)
    (λc ps e=>⟨#[],by rw[AV (BD e hn),e];simp⟩) (λm hm=>?_) (λc o e=>?_) I.C5
   ·obtain⟨o,ad,ep,ho,r⟩:=hm;exact⟨o,ad,ep,aa _ o (λq=>(J _ q).2.1 rfl) ho,r⟩
   ·by_cases ae:c=s.heap.objs.size
    ·subst ae;rw[AQ]at e;cases e;exact ag
    ·rw[AV ae]at e;refine(I.AY c o e).Fp (λd v hd q=>aa d v ?_ q) (λd q=>by rw[AV (BD q hn)];exact q) λd vs q=>by rw[AV (BD q hn)];exact q
     rcases hd with hd|hd
     ·rw[hd];exact nt c o e
     ·exact nt d _ hd
  have g4:Bs t1 ab i1 a (i+1):=a3.at λo e=>(sb.2 _ D.i1z).trans e
  have g5:Bs t2 ab O b (i+1):=a4.at λo e=>(sb.2 _ D.i2z).trans e
  have g2:sV ab TI (.ref i1) (.ref O):=(sb.2 _ D.TIz).trans (k _ _ D.TIz D.TITO D.TIi1 D.TIi2 h2);have g3:sV ab TO ux uy:=(sb.2 _ D.TOz).trans a2;exact⟨.ref s.heap.objs.size,_,I1,G,⟨_,x,y,G,hn,G,λam q=>by rw[I.S7 q qa];exact hx,λal q=>by rw[I.S7 q qb];exact hy⟩,⟨b1,g2,⟨_,_,g3⟩,g4,g5⟩,λc F=>by rw[AV (qp (ak c F))];exact(J c F).1⟩
 done:=by
  intro X hP hw hK F i ge s σ H E I J st hg;subst hP hw hK;obtain⟨xs,ys,qa,qb,hl⟩:=hg;obtain⟨its,rv,pa,_⟩:=I.KQ qa;obtain⟨af,ac,pb,_⟩:=I.KQ qb;obtain⟨h1,h2,⟨u,v,h3⟩,h4,h5⟩:=st;have l1:=rv.length;have l2:=ac.length;have ah:its.toArray[i]?=none\/af.toArray[i]?=none:=by
   rcases hl with hl|hl
   ·exact .inl (by simp;lia)
   ·exact .inr (by simp;lia)
  refine Xw (I.ok.hd F) D h1 h2 h3 h4 h5 pa pb ah λh' k=>⟨G,?_⟩
  have aa:∀c o,c∉[z,TI,TO,i1,O]->s.heap.get? c=some o->h'.get? c=some o:=λc o F e =>
   k c o (λq=>F (by simp[q])) (λq=>F (by simp[q])) (λq=>F (by simp[q])) (λq=>F (by simp[q])) e
  have nt:∀c u,H c=some u->c∉[z,TI,TO,i1,O]:=λc u e F=>by
   have:=(J c F).1
   rw[e]at this;cases this
  refine I.step (g':=s.gens) (d':=s.drawn) (t':=s.toks) (ch:=[z,TI,TO,i1,O]) (λc F=>⟨(J c F).2.2.2.1,(J c F).2.1,(J c F).2.2.2.2.1,(J c F).2.2.2.2.2⟩) (λc o _ _ F e _=>aa c o F e) (λc o _ _ F e _=>⟨o.slots,aa c o F e⟩)
   (λ_ _ _ _ n=>n) (λc o F e=>⟨o,aa c o F e⟩) (λ_ _ e=>e) (λ_ _ _ e=>e) (λc ps e=>⟨#[],by rw[e];simp⟩) (λm hm=>?_) (λc o e=>?_) I.C5
  ·obtain⟨o,ad,ep,ho,r⟩:=hm;exact⟨o,ad,ep,aa _ o (λq=>(J _ q).2.1 rfl) ho,r⟩
  ·refine(I.AY c o e).Fp (λd v hd q=>aa d v ?_ q) (λ_ q=>q) λ_ _ q=>q
   rcases hd with hd|hd
   ·rw[hd];exact nt c o e
   ·exact nt d _ hd
 self:=λ_ _ _ _ _ st h=>wpAny_pyIter_zip st.1 h
def kP(K:ow)(t1 t2:Bool)(ta:TA):TI:=λσ H R=>ta σ H λvs H1=>∃a b,vs=[.ref a,.ref b]/\(∃xs,BV t1 K H1 a xs)/\(∃ys,BV t2 K H1 b ys)/\R (Ka K t1 t2 a b) H1
theorem Kw{t1 t2:Bool}{es:List pJ}{kk:Nat}{tpos:Pos}{a b:pJ}{ta:TA}{p pos:Pos}(hg:Gl X "zip")(hm:X.mg "zip" = none)(ha:PA X [a,b] ta)(hs:pK [a,b] X.env=(false,eval a X.env) :: pK [b] X.env:=by rfl)(ac:(uD pos (pK [b] X.env)).any (·.1)=false:=by rfl):
  PI X (.Tuple es kk tpos) (.Call (.Name "zip" p) [a,b] [] pos) (kP X.K t1 t2 ta):=by
 intro ge s σ H R I h;refine Call_ (FC I hg hm PyProof.Rows.boot_zip (rE (AZ (ha pos ge s σ H _ I h) λus F ⟨vs,H1,J,r1,q1⟩=>?_) hs ac));obtain⟨O,lb,e,⟨xs,qa⟩,⟨ys,qb⟩,q⟩:=q1;subst e;obtain⟨u1,u2,rfl,ra,rb⟩:=LK r1;cases ra;cases rb;obtain⟨its,rv,pa,_⟩:=J.KQ qa;obtain⟨ag,af,pb,_⟩:=J.KQ qb;have ab:O<F.heap.objs.size:=by
  exact pa.lt
 have ad:lb<F.heap.objs.size:=by
  exact pb.lt
 refine ZG pa pb λh' z1 z2 z3 z4 z5 zs zk=>?_
 refine wpAny_pyIter_zip z1 ?_;have I2:AI X ge σ H1 { F with heap:=h'}:=J.Bf (t':=F.toks) zk;have D:zA (F.heap.objs.size+4) (F.heap.objs.size+2) (F.heap.objs.size+3) F.heap.objs.size (F.heap.objs.size+1) O lb:=by
  have ae:@LT.lt Nat _ O F.heap.objs.size:=ab;have ah:@LT.lt Nat _ lb F.heap.objs.size:=ad;constructor<;>(show @Ne Nat _ _;lia)
 refine⟨F.heap.objs.size+4,_,_,_,H1,G,I2,Zl D,⟨z1,z2,⟨_,_,z3⟩,z4,z5⟩,λc hc=>?_,q⟩;have aa:F.heap.objs.size<=c:=by
  simp only[oG,o3,qN]at hc;rcases hc with rfl|rfl|rfl|rfl|rfl<;>lia
 have f:=J.Ht (H':=H1) aa (J.AY.fresh aa);exact f
theorem Zz {t1 t2:Bool}{K:ow}{a b:Addr}{xs ys:List V}{g:TG}{tb:TS}{D:Dx}{σ:St}{H:Hp}(n:Nat)(hn:n=min xs.length ys.length)(F:Nat->St->Hp->Prop)(h0:F 0 σ H)(hl:∀i σ H,i<=n->F i σ H->BV t1 K H a xs/\BV t2 K H b ys)
  (hs:∀i x y σ H p,xs[i]?=some x->ys[i]?=some y->F i σ H->H p=none->g (.ref p) σ (AG H p (.AF [x,y])) λJ H2=>tb { D with nx:=F (i+1),ct:=F (i+1),bk:=D.nx} J H2)(hd:∀σ H,F n σ H->D.nx σ H) :
  ∃W:Nat->Nat->St->Hp->Prop,(∃m,W 0 m σ H)/\∀i m σ H,W i m σ H →
   ((Ka K t1 t2 a b).DZ i H/\D.nx σ H)\/((Ka K t1 t2 a b).go i H/\∃N:St->Hp->Prop,(∀O H',N O H'->∃m',m' < m/\W (i+1) m' O H')/\∀x H',(Ka K t1 t2 a b).De i H x H'->g x σ H' λJ H2=>tb { D with nx:=N,ct:=N,bk:=D.nx} J H2):=by
 refine⟨λi m σ H=>m=n-i/\i<=n/\F i σ H,⟨n,#v[],o9 _,h0⟩,?_⟩;rintro i m σ H ⟨rfl,hi,p⟩;obtain⟨qa,qb⟩:=hl i σ H hi p;rcases oW i n with aa|hge
 ·have h1:i<xs.length:=()
  have h2:i<ys.length:=()
  refine .inr ⟨⟨xs,ys,xs[i],ys[i],qa,qb,by simp[h1],by simp[h2]⟩,F (i+1),λO H' p'=>⟨n-(i+1),(),G,aa,p'⟩,λv H' yl=>?_⟩;obtain⟨pa,x,y,rfl,hp,rfl,hx,hy⟩:=yl;exact hs i x y σ H pa (hx xs qa) (hy ys qb) p hp
 ·obtain rfl:i=n:=()
  exact .inl ⟨⟨xs,ys,qa,qb,()⟩,hd σ H p⟩
theorem ie:qY "sum" = some (.builtin "sum"):=by decide +kernel
theorem Y1(O:X.B9=true):Cr X (.builtin "sum") (λxs H Q=>∃(p:Addr) (ns:List Int),xs=[.ref p]/\H p=some (.AE (ns.map V.int))/\Q (.int ns.sum) H):=by
 intro ge s σ H xs us Q I r h;obtain⟨p,ns,rfl,hp,q⟩:=h;obtain⟨u,rfl,J⟩:=r.Aj;cases J;obtain⟨its,rv,pl,hz⟩:=I.list (AJ.of (K:=X.K) hp);have hi:sv its ns:=L3 rv;obtain⟨ys,F⟩:=hi.allInts.items;have aa:s.heap.IsList p (intItems ys):=F ▸ pl.isList;refine sum_intListG (I.ok.hd O) aa λh' tk t' hk=>?_
 have e1:ns=ys.toList.map (·.1):=by
  rw[<-nums_intItems,<-F];exact(show numsOf its.toArray.toList=ns from hi.numsOf).symm
 have e2:preSum (numAt ys) ys.size=ns.sum:=by rw[preSum_eq,oQ #v[],e1]
 rw[e2];exact⟨.int ns.sum,H,I.Bf hk,⟨t',G⟩,q⟩
def kM(ta:TA):TI:=λσ H R=>ta σ H λvs H1=>∃n:Nat,vs=[.int ((n:Int)-1),.int (-1),.int (-1)]/\n<=1000/\R (Lo ((n:Int)-1) (-1) n) H1
theorem Uu(n:Nat):tJ ((n:Int)-1) (-1) (-1)=n:=by
 unfold tJ;simp only[show ¬((-1:Int)>0) by decide,wj];rw[show -(-1:Int)=1 by decide,Int.ediv_one];split<;>omega
theorem jr{n:Nat}(h:n<=1000):wC ((n:Int)-1) (-1) (-1)=true:=by
 unfold wC;rw[Uu];simp only[oY.Range.rangeFitsLong,sj,Bool.or_eq_true,uE,beq_iff_eq];refine⟨⟨⟨⟨⟨?_,?_⟩,⟨?_,?_⟩⟩,⟨?_,?_⟩⟩,⟨?_,?_⟩⟩,.inr ?_⟩<;>first|omega|decide
theorem Y6 {tg:pJ}{a b c:pJ}{ta:TA}{p pos:Pos}(hg:Gl X "range")(hm:X.mg "range" = none)(ha:PA X [a,b,c] ta)
  (hs:pK [a,b,c] X.env=(false,eval a X.env) :: pK [b,c] X.env:=by rfl)(aa:(uD pos (pK [b,c] X.env)).any (·.1)=false:=by rfl):PI X tg (.Call (.Name "range" p) [a,b,c] [] pos) (kM ta):=by
 intro ge s σ H R I h;refine Call_ (FC I hg hm aa0 (rE (AZ (ha pos ge s σ H _ I h) λus F ⟨vs,H1,I1,r1,q1⟩=>?_) hs aa));obtain⟨n,e,hn,q⟩:=q1;subst e;cases r1 with
 |cons r rr =>
  cases rr with
  |cons r' rr =>
   cases rr with
   |cons r'' rr =>
    cases rr;obtain⟨t,rfl⟩:=r;obtain⟨t',rfl⟩:=r';obtain⟨O,rfl⟩:=r'';refine call_range_3 (by omega) ?_ (.inl (aaf (by omega)));refine abR (abS.new ..) (jr hn) ?_;have J:AI X ge σ H1 { F with heap:=F.heap.push { cls:=.type "range",data:=.fields #[.int ((n:Int)-1) t,.int (-1) t',.int (-1) O]}}:=I1.Bf (t':=F.toks) λb o e=>oo _ e
    refine⟨_,[(F.heap.push { cls:=.type "range",data:=.fields #[.int ((n:Int)-1) t,.int (-1) t',.int (-1) O]}).objs.size],_,_,H1,G,J.Bf (t':=F.toks) λb o e=>oo _ e,Ym _ ((n:Int)-1) (-1) n,?_,λb hb=>?_,q⟩
    ·have e1:((n:Int)-1)+((0:Nat):Int)*(-1)=(n:Int)-1:=by simp
     have e2:((n:Nat):Int)-((0:Nat):Int)=tJ ((n:Int)-1) (-1) (-1):=by rw[Uu];simp
     show aac _ _ (((n:Int)-1)+((0:Nat):Int)*(-1)) (((n:Nat):Int)-((0:Nat):Int)) (-1);rw[e1,e2];exact oJ _ rfl
    ·have e:b=(F.heap.push { cls:=.type "range",data:=.fields #[.int ((n:Int)-1) t,.int (-1) t',.int (-1) O]}).objs.size:=by simpa using hb
     subst e;exact J.Ht (oz _) (J.AY.fresh (oz _))
end
end L2
namespace My
open PySem L2
variable {H:Hp}
def BO(H:Hp)(a:Addr):Hp:=λb=>if b=a then none else H b
theorem IV(H:Hp)(a:Addr):BO H a a=none:=oH rfl
theorem Ic(h:b≠a):BO H a b=H b:=oC h
theorem DC(H:Hp)(a:Addr):AK (BO H a) H:=λb o e=>by
 by_cases h:b=a
 ·subst h;rw[IV]at e;cases e
 ·rw[Ic h]at e;exact e
theorem Df(a:Addr)(s:AK H H'):AK (BO H a) (BO H' a):=λb o e=>by
 by_cases h:b=a
 ·subst h;rw[IV]at e;cases e
 ·rw[Ic h]at e ⊢;exact s _ _ e
theorem NC(H:Hp)(a:Addr)(o:HO):AK (BO H a) (AG H a o):=λb u e=>by
 by_cases h:b=a
 ·subst h;rw[IV]at e;cases e
 ·rw[Ic h]at e;rw[AV h];exact e
theorem Mc(H:Hp)(a:Addr)(o:HO):BO (AG H a o) a=BO H a:=by
 funext b
 by_cases h:b=a
 ·subst h;rw[IV,IV]
 ·rw[Ic h,Ic h,AV h]
theorem Sz(h:H a=none):BO H a=H:=by
 funext b
 by_cases z:b=a
 ·subst z;rw[IV,h]
 ·exact Ic z
theorem FA(e:H b=some o)(h:b≠a):BO H a b=some o:=by rw[Ic h];exact e
section
variable {α:Type}{R:Hp->Addr->α->Prop}
def At(R:Hp->Addr->α->Prop)(H:Hp)(bs:List Addr)(xs:List α):Prop:=bs.length=xs.length/\∀(i:Nat) (b:Addr) (x:α),bs[i]?=some b->xs[i]?=some x->R H b x
def Mo(R:Hp->Addr->α->Prop):Prop:=∀{H H':Hp} {b:Addr} {x:α},AK H H'->R H b x->R H' b x
theorem At.nil:At R H [] []:=⟨G,λi b x e=>by simp at e⟩
theorem At.keep(h:At R H bs xs)(m:Mo R)(s:AK H H'):At R H' bs xs:=⟨h.1,λi b x J F=>m s (h.2 i b x J F)⟩
theorem At.snoc(h:At R H bs xs)(r:R H b x):At R H (bs++[b]) (xs++[x]):=by
 refine⟨by simp[h.1],λi c y F J=>?_⟩;have O:=h.1;rcases oW i bs.length with z|z
 ·rw[pR z]at F;rw[pR (by omega)]at J;exact h.2 i c y F J
 ·rw[pE z]at F;rw[pE (by omega)]at J;rw[O]at F;cases hi:i-xs.length with
  |zero=>rw[hi]at F J;cases F;cases J;exact r
  |succ k=>rw[hi]at F;simp at F
theorem At.Kf(h:At R H bs xs)(g:At R H cs ys):At R H (bs++cs) (xs++ys):=by
 refine⟨by simp[h.1,g.1],λi c y F J=>?_⟩;have O:=h.1;rcases oW i bs.length with z|z
 ·rw[pR z]at F;rw[pR (by omega)]at J;exact h.2 i c y F J
 ·rw[pE z]at F;rw[pE (by omega)]at J;rw[O]at F;exact g.2 _ c y F J
theorem At.take(h:At R H bs xs)(k:Nat):At R H (bs.take k) (xs.take k):=by
 refine⟨by simp[h.1],λi c y F J=>?_⟩;rw[yw]at F J;split at F
 ·rename_i O;rw[oH O]at J;exact h.2 i c y F J
 ·cases F
theorem At.drop(h:At R H bs xs)(k:Nat):At R H (bs.drop k) (xs.drop k):=by
 refine⟨by simp[h.1],λi c y J F=>?_⟩;rw[sX]at J F;exact h.2 _ c y J F
theorem At.set(h:At R H bs xs)(k:Nat)(r:R H b x):At R H (bs.set k b) (xs.set k x):=by
 refine⟨by simp[h.1],λi c y F J=>?_⟩;rw[List.getElem?_set]at F J;by_cases hk:k=i
 ·subst hk;have hl:=h.1;by_cases O:k<bs.length
  ·rw[oH rfl,oH O]at F;rw[oH rfl,oH (by omega)]at J;cases F;cases J;exact r
  ·rw[oH rfl,oC O]at F;cases F
 ·rw[oC hk]at F J;exact h.2 _ c y F J
theorem At.get{i:Nat}(h:At R H bs xs)(e:xs[i]?=some x):∃b,bs[i]?=some b/\R H b x:=by
 have hi:i<bs.length:=by rw[h.1];exact(oh.mp e).1
 exact⟨bs[i],og hi,h.2 i _ x (og hi) e⟩
theorem At.ref{i:Nat}(h:At R H bs xs)(e:(bs.map V.ref)[i]?=some v):∃b x,v=.ref b/\bs[i]?=some b/\xs[i]?=some x/\R H b x:=by
 rw[om]at e;cases q:bs[i]? with
 |none=>rw[q]at e;cases e
 |some b =>
  rw[q]at e;have hi:i<xs.length:=by rw[<-h.1];exact(oh.mp q).1
  exact⟨b,xs[i],(oV e).symm,G,og hi,h.2 i b _ q (og hi)⟩
theorem Cg{bs:List Addr}{i:Nat}(h:bs[i]?=some b):(bs.map V.ref)[i]?=some (.ref b):=by rw[om,h];rfl
def As(R:Hp->Addr->α->Prop)(H:Hp)(b:Addr)(xs:List α):Prop:=∃bs:List Addr,H b=some (.AF (bs.map V.ref))/\At R H bs xs
def BC(R:Hp->Addr->α->Prop)(H:Hp)(b:Addr)(xs:List α):Prop:=∃bs:List Addr,H b=some (.AE (bs.map V.ref))/\At R H bs xs
theorem Cq(m:Mo R):Mo (As R):=λs ⟨bs,e,h⟩=>⟨bs,s _ _ e,h.keep m s⟩
theorem Ij(m:Mo R):Mo (BC R):=λs ⟨bs,e,h⟩=>⟨bs,s _ _ e,h.keep m s⟩
end
def AO(H:Hp)(b:Addr)(q:Rat):Prop:=H b=some (.AF [.int q.num,.int q.den])
def Bl(H:Hp)(b:Addr)(ns:List Int):Prop:=H b=some (.AE (ns.map V.int))
theorem A9:Mo AO:=λs h=>s _ _ h
theorem Dp:Mo Bl:=λs h=>s _ _ h
theorem AO.BO(h:AO H b q)(e:H a=some (.AE ys)):AO (BO H a) b q:=FA h λz=>by rw[z]at h;unfold AO at h;rw[e]at h;cases h
theorem Mt(e:H a=some (.AE ys))(h:At AO H bs qs):At AO (BO H a) bs qs:=⟨h.1,λi b x J F=>(h.2 i b x J F).BO e⟩
structure Kg(J:It)(H1:Hp)(n:Nat)(f:Nat->Hp->V->Hp->Prop):Prop where
 go:∀i H2,i<n->AK H1 H2->J.go i H2
 yl:∀i H2 x H3,i<n->AK H1 H2->J.De i H2 x H3->f i H2 x H3
 st:∀H2,AK H1 H2->J.DZ n H2
section
variable {K:ow}
theorem F7(h:H a=some (.AF xs)):Kg (HL K a) H xs.length (λi H2 x F=>F=H2/\xs[i]?=some x) :=
 ⟨λi H2 hi s=>⟨xs,xs[i],AH.of (s _ _ h),og hi⟩,λi H2 x F _ s y=>⟨y.1,y.2 _ (AH.of (s _ _ h))⟩,λH2 s=>⟨xs,AH.of (s _ _ h),oz _⟩⟩
theorem Fc(h:H a=some (.AE xs)):Kg (HN K a) H xs.length (λi H2 x F=>F=H2/\xs[i]?=some x) :=
 ⟨λi H2 hi s=>⟨xs,xs[i],AJ.of (s _ _ h),og hi⟩,λi H2 x F _ s y=>⟨y.1,y.2 _ (AJ.of (s _ _ h))⟩,λH2 s=>⟨xs,AJ.of (s _ _ h),oz _⟩⟩
theorem Rf:Kg (Ec lo n) H n (λi H2 x F=>F=H2/\x=.int (lo+i)):=⟨λ_ _ hi _=>hi,λ_ _ _ _ _ _ y=>y,λ_ _=>oz _⟩
theorem Mh(h1:∀H2,AK H H2->BV t1 K H2 a xs)(h2:∀H2,AK H H2->BV t2 K H2 b ys)(hl:xs.length=ys.length):
  Kg (Ka K t1 t2 a b) H xs.length (λi H2 x F=>∃p u v,x=.ref p/\H2 p=none/\F=AG H2 p (.AF [u,v])/\xs[i]?=some u/\ys[i]?=some v) :=
 ⟨λi H2 hi s=>⟨xs,ys,xs[i],ys[i],h1 _ s,h2 _ s,og hi,og (by omega)⟩,λi H2 x F _ s y=>by
  obtain⟨p,u,v,e1,e2,e3,O,J⟩:=y;exact⟨p,u,v,e1,e2,e3,O _ (h1 _ s),J _ (h2 _ s)⟩,λH2 s=>⟨xs,ys,h1 _ s,h2 _ s,.inl (oz _)⟩⟩
theorem CP {g:TG}{te:TE}{G:Hp->Prop}(r:Kg J H1 n f)(hn:n<=1000)(ab:H1 acc=none)(Iv:Nat->List V->St->Hp->Prop)(h0:Iv 0 [] σ0 H1)
  (hs:∀(i:Nat) (ys:List V) (σ:St) (H2:Hp) (x:V) (H3:Hp),i<n->AK H1 H2->H2 acc=some (.AE ys)->Iv i ys σ (BO H2 acc)->f i H2 x H3->∀C:St->VK,(∀(O:St) (v:V) (F:Hp),AK H2 F->Iv (i+1) (ys++[v]) O (BO F acc)->C O v F) →
   g x σ H3 λO H4=>te O H4 (C O))
  (ac:∀(ys:List V) (σ:St) (H2:Hp),AK H1 H2->H2 acc=some (.AE ys)->ys.length=n->Iv n ys σ (BO H2 acc)->G H2) :
  ∃W:Nat->Nat->List V->St->Hp->Prop,(∃m,W 0 m [] σ0 (AG H1 acc (.AE [])))/\∀i m ys σc H2,W i m ys σc H2 →
   (J.DZ i H2/\G H2)\/(J.go i H2/\∀x H3,J.De i H2 x H3->g x σc H3 λO H4=>te O H4 λv F=>F acc=some (.AE ys)/\ys.length<oR/\∃m',m' < m/\W (i+1) m' (ys++[v]) O (AG F acc (.AE (ys++[v])))):=by
 exists λi m ys σ H2=>m=n-i/\i<=n/\AK H1 H2/\H2 acc=some (.AE ys)/\ys.length=i/\Iv i ys σ (BO H2 acc),⟨n,rfl,o9 _,?_,AQ,rfl,?_⟩
 ·intro b o e;rw[AV (BD e ab)];exact e
 ·rw[Mc,Sz ab];exact h0
 ·rintro i m ys σc H2 ⟨rfl,hi,sm,ha,hl,iv⟩;rcases oW i n with aa|hge
  ·refine .inr ⟨r.go i H2 aa sm,λx H3 yl=>?_⟩;refine hs i ys σc H2 x H3 aa sm ha iv (r.yl i H2 x H3 aa sm yl) (λO v F=>F acc=some (.AE ys)/\ys.length<oR/\∃m',m' < n-i/\(m'=n-(i+1)/\i+1<=n/\AK H1 (AG F acc (.AE (ys++[v])))/\(AG F acc (.AE (ys++[v]))) acc=some (.AE (ys++[v]))/\(ys++[v]).length=i+1/\Iv (i+1) (ys++[v]) O (BO (AG F acc (.AE (ys++[v]))) acc))) ?_;intro O v F s5 ad;exists s5 _ _ ha,by rw[pD];omega,n-(i+1),by omega,rfl,aa,?_,AQ,by simp[hl]
   ·intro b o e;rw[AV (BD e ab)];exact s5 _ _ (sm _ _ e)
   ·rw[Mc];exact ad
  ·obtain rfl:i=n:=by omega
   exact .inl ⟨r.st H2 sm,ac ys σc H2 sm ha hl iv⟩
end
end My
namespace L2
open PySem PySem.Spec PyProof.Rows
structure AX(P:pG)(w:World)(K:ow)(mg:Str->Option Value)(base:Heap)(k:Nat)(x:Str)(ps:List Str)(sp:Sp):Prop where
 ex:∃f fd,Ai P w K mg base Ae k f fd ps sp/\Eo K fd ps []/\KP K f/\mg x=some (.ref f)
theorem iN{X:Cx}{k:Nat}{x:Str}{ps:List Str}{sp:Sp}{e:Expr}{es:List Expr}{t:TA}{p pos:Pos}(c:AX X.prog X.w X.K X.mg X.base k x ps sp)(hr:Room k X.A)(O:PA X (e :: es) t)(hg:Gl X x:=by rfl)(aa:(x == ("__debug__":Str))=false:=by decide)(he:pK (e :: es) X.env=(false,eval e X.env) :: pK es X.env:=by rfl)(ab:(uD pos (pK es X.env)).any (·.1)=false:=by rfl):
  PE X (.Call (.Name x p) (e :: es) [] pos) (DO sp [] E0 t):=by
 obtain⟨f,fd,F,b,hk,J⟩:=c.ex;exact dA F hr hg J hk b .nil kO O aa he ab
theorem Aw{N P:List Str}{F:Scope}(h1:F.kind=.function:=by rfl)(h2:F.isCoroutine=false:=by rfl)(O:F.isGenerator=false:=by rfl)(h4:N.Nodup:=by decide +kernel)(h5:N.take P.length=P:=by rfl)(J:∀x∈P,F.names.lookup x=some .local\/F.names.lookup x=some .cell:=by decide +kernel)(h7:∀y∈F.names,y.2≠.free:=by decide +kernel):An N P F:=⟨h1,h2,O,h4,h5,J,h7⟩
theorem Fun.Ax {P:pG}{w:World}{K:ow}{mg:Str->Option Value}{base:Heap}{x qual:Str}{st:Stmt}{f:Addr}{fd:qU}{N ps:List Str}{k:Nat}{sp:Sp}(F:Fun K x qual st f fd)(S:An N ps (Ac st))
  (aa:∀(im:Value) (A:qM) (O:List Env) (s:oq) (H:Hp) (vs:List V) (Q:VK) (E:XK),Room k (A.deeper (xS qual (Ac st) s.heap.objs.size f im))->sp vs H Q E →
   ∃t,Cd (IB Ae P w K mg base N qual (Ac st) f im A O s H E).JG (Eh st) t/\t { nx:=λ_ H'=>Q .Ay H',rt:=Q} (GC N vs) H)(J:∀vs H Q E,sp vs H Q E->vs.length=ps.length:=by (rintro vs H Q E ⟨⟩;subst_vars;rfl)):Ai P w K mg base Ae (k+1) f fd ps sp:=F.ok S J aa
theorem nw(h:H p=none)(o:HO):∃H',AG H p o=H'/\AK H H'/\H' p=some o:=⟨_,G,λb u q=>by rw[AV (BD q h)];exact q,AQ⟩
@[elab_as_elim] theorem BS {C:Hp->Prop}{H:Hp}{p:Addr}(h:H p=none)(o:HO)(q:∀H',AK H H'->H' p=some o->C H'):C (AG H p o):=q _ (λb u q=>by rw[AV (BD q h)];exact q) AQ
end L2
namespace My
open PySem L2
theorem JF(h:H p=none)(q:Rat):∃H',AG H p (.AF [.int q.num,.int q.den])=H'/\AK H H'/\AO H' p q:=nw h _
@[elab_as_elim] theorem mJ {C:Hp->Prop}{H:Hp}{p:Addr}(h:H p=none)(r:Rat)(q:∀H',AK H H'->AO H' p r->C H'):C (AG H p (.AF [.int r.num,.int r.den])):=@BS C H p h _ q
end My
namespace L2
open PySem PySem.Spec PyProof.Rows
section
variable {X:Cx}{K:ow}
theorem Bh:Fw X (EX []):=λv s p s' σ H x y O u Q I F J q hs=>iC v s p s' σ H x y O u Q I F J (match q with|⟨p,xs,i,v,a,b,c,d,q⟩=>⟨p,xs,i,v,a,b,c.up,d,q⟩) hs
theorem CH:Fw X (Er []):=λv s p s' σ H x y O u Q I F J q hs=>TC v s p s' σ H x y O u Q I F J (match q with|⟨p,xs,i,v,a,b,c,d,q⟩=>⟨p,xs,i,v,a,b,c.up,d,q⟩) hs
theorem pT{X:Cx}{a b:pJ}{ta tb:TE}{pos:Pos}(J:PE X a ta)(F:PE X b tb)(O:Mp b:=by exact λ_ _=>rfl):PE X (.Subscript a b pos) (BK (EX []) ta tb):=Io Bh J F O
theorem pL{X:Cx}{a b:pJ}{ta tb:TE}{pos:Pos}(J:PE X a ta)(F:PE X b tb)(O:Mp b:=by exact λ_ _=>rfl):PE X (.Subscript a b pos) (BK (Er []) ta tb):=Io CH J F O
theorem Lv:JO X (QL []):=λge s σ H x v vl F lo hi sl Q I J hs pl O ⟨a,xs,e,c,q⟩=>UM ge s σ H x v vl F lo hi sl Q I J hs pl O ⟨a,xs,e,c.up,q⟩
theorem KS:JO X (Nl []):=λge s σ H x v vl F lo hi sl Q I J hs pl O ⟨a,xs,e,c,q⟩=>cV ge s σ H x v vl F lo hi sl Q I J hs pl O ⟨a,xs,e,c.up,q⟩
theorem Kx:Cr X (.builtin "len") (J9 []):=λge s σ H xs F Q I r ⟨p,ys,e,h,q⟩=>Qt ge s σ H xs F Q I r ⟨p,ys,e,h.imp AJ.up AH.up,q⟩
theorem E9:Cr X (.type "tuple") (λxs H Q=>∃p ys,xs=[.ref p]/\((AJ [] H p ys/\∀l,H l=none->Q (.ref l) (AG H l (.AF ys)))\/(AH [] H p ys/\Q (.ref p) H))):=λge s σ H xs F Q I r ⟨p,ys,e,h⟩=>Xk ge s σ H xs F Q I r ⟨p,ys,e,h.imp (And.imp_left AJ.up) (And.imp_left AH.up)⟩
theorem Ss:Cr X (.type "list") (λxs H Q=>∃p ys,xs=[.ref p]/\(AJ [] H p ys\/AH [] H p ys)/\∀l,H l=none->Q (.ref l) (AG H l (.AE ys))):=λge s σ H xs F Q I r ⟨p,ys,e,h,q⟩=>Xp ge s σ H xs F Q I r ⟨p,ys,e,h.imp AJ.up AH.up,q⟩
theorem CZ {es:List pJ}{k:Nat}{t:E5}{n:Nat}{pos:Pos}(F:X.B9=true)(g:JM X es t)
  (O:(tS es X.env).length=n:=by rfl)(J:(tS es X.env).findIdx? (·.1)=none:=by rfl):PG X (.Tuple es k pos) (Hm [] n t):=λge s σ H v u Q I r h=>gy F g O J ge s σ H v u Q I r (match h with|⟨a,xs,e,c,l,q⟩=>⟨a,xs,e,c.up,l,q⟩)
theorem Ds(hl:PE X l tl):PI X tg l (QA [] tl):=λge s σ H R I h =>
 AZ (jf (tg:=tg) hl.wk ge s σ H (λJ H'=>∃a,J=HL X.K a/\R (HL [] a) H') I ⟨_,h,λ_ _ ⟨a,e,⟨xs,c⟩,q⟩=>⟨a,e,⟨xs,c.up⟩,a,G,q⟩⟩) λ_ _ w=>AZ w λ_ _ ⟨O,fp,F,J,H',e,I',T,t0,hf,a,ej,q⟩=>
  ⟨O,fp,F,HL [] a,H',e,I',(ej ▸ T).mono (λ_ _ ⟨xs,x,c,e⟩=>⟨xs,x,c.up,e⟩) (λ_ _ _ _ ⟨e,f⟩=>⟨e,λxs c=>f xs c.up⟩) (λ_ _ ⟨xs,c,e⟩=>⟨xs,c.up,e⟩),t0,hf,q⟩
theorem DV(hl:PE X l tl):PI X tg l (V0 [] tl):=λge s σ H R I h =>
 AZ (gV (tg:=tg) hl.wk ge s σ H (λJ H'=>∃a,J=HN X.K a/\R (HN [] a) H') I ⟨_,h,λ_ _ ⟨a,e,⟨xs,c⟩,q⟩=>⟨a,e,⟨xs,c.up⟩,a,G,q⟩⟩) λ_ _ w=>AZ w λ_ _ ⟨O,fp,F,J,H',e,I',T,t0,hf,a,ej,q⟩=>
  ⟨O,fp,F,HN [] a,H',e,I',(ej ▸ T).mono (λ_ _ ⟨xs,x,c,e⟩=>⟨xs,x,c.up,e⟩) (λ_ _ _ _ ⟨e,f⟩=>⟨e,λxs c=>f xs c.up⟩) (λ_ _ ⟨xs,c,e⟩=>⟨xs,c.up,e⟩),t0,hf,q⟩
theorem Np(h:X.K=K:=by rfl):Fw X (Er K):=h ▸ TC
theorem aA(h:X.K=K:=by rfl):Cr X (.builtin "len") (J9 K):=h ▸ Qt
theorem AU(i:Nat){N P:List Str}{F:Scope}(S:An N P F){x:Str}{e:pJ}{te:TE}{pos pos':Pos}(O:PE X e te)(J:X.N=N:=by rfl)(hi:X.N[i]?=some x:=by rfl)(hx:IH X.env.scope x:=by first|exact qL rfl|exact abE rfl)(hs:yC e (some (.Name x pos')) pos.line X.env=pure false:=by rfl)(hf:X.fn x=true\/X.env.scope.names.lookup x=some .local:=by first|exact .inl rfl|exact .inr rfl|assumption):PS X (.Assign [.Name x pos'] e pos) (JC te (BH i)):=jW (J ▸ S.nd) hi hx O hs hf
theorem Ak(i:Nat){N P:List Str}{F:Scope}(S:An N P F){x:Str}{pos:Pos}(J:X.N=N:=by rfl)(hi:X.N[i]?=some x:=by rfl)(hx:IH X.env.scope x:=by first|exact qL rfl|exact abE rfl)(O:X.fn x=true\/X.env.scope.names.lookup x=some .local:=by first|exact .inl rfl|exact .inr rfl|assumption):PG X (.Name x pos) (BH i):=Bj (J ▸ S.nd) hi hx O
theorem CD {scope:Scope}{cl:List (Str×Addr)}{Nc:List Str}{cap:List (Nat×Nat)}(F:xR scope X.env=pure cl:=by rfl)(kind:scope.kind=.function:=by rfl)(names:∀y∈scope.names,y.2=.local->scope.names.lookup y.1=some .local:=by decide +kernel)(aa:∀y∈scope.names,y.2≠.cell:=by decide +kernel)
  (O:∀p∈cl,X.env.cells.lookup p.1=some p.2/\scope.names.lookup p.1=some .free:=by repeat first|exact sP _|refine tF.mpr ⟨⟨rfl,rfl⟩,?_⟩)(ab:((yn scope X.env).names.all λp=>(p.2 != .cell && p.2 != .free) || (cl.lookup p.1).isSome)=true:=by rfl)
  (J:∀p∈cap,∃x c,Nc[p.1]?=some x/\X.N[p.2]?=some x/\cl.lookup x=some c/\X.env.scope.names.lookup x=some .cell/\(yn scope X.env).names.lookup x=some .cell:=by repeat first|exact sP _|refine tF.mpr ⟨⟨_,_,rfl,rfl,rfl,rfl,rfl⟩,?_⟩):Gb X scope cl Nc cap:=gH F kind names aa O ab J
theorem LX(K:ow){e:pJ}{te:TE}{p pos:Pos}(m:X.mg "len" = none)(J:PE X e te)(h:X.K=K:=by rfl)(O:Gl X "len":=by rfl)(F:pK [e] X.env=(false,eval e X.env) :: pK [] X.env:=by rfl):PE X (.Call (.Name "len" p) [e] [] pos) (JK (J9 K) (A7 te Ba)):=CA (aA (K:=K) h) O m Gh (AA J AD F) ∅ ∅ F rfl
theorem C8{e:pJ}{te:TE}{p pos:Pos}(m:X.mg "len" = none)(J:PE X e te)(O:Gl X "len":=by rfl)(F:pK [e] X.env=(false,eval e X.env) :: pK [] X.env:=by rfl):PE X (.Call (.Name "len" p) [e] [] pos) (JK (J9 []) (A7 te Ba)):=CA (Kx) O m Gh (AA J AD F) ∅ ∅ F rfl
theorem Lg{e:pJ}{te:TE}{p pos:Pos}(m:X.mg "tuple" = none)(J:PE X e te)(O:Gl X "tuple":=by rfl)(F:pK [e] X.env=(false,eval e X.env) :: pK [] X.env:=by rfl):PE X (.Call (.Name "tuple" p) [e] [] pos) (JK (λxs H Q=>∃p ys,xs=[.ref p]/\((AJ [] H p ys/\∀l,H l=none->Q (.ref l) (AG H l (.AF ys)))\/(AH [] H p ys/\Q (.ref p) H))) (A7 te Ba)):=D5 (E9) O m Dm (AA J AD F) ∅ ∅ F rfl
theorem BF{a b:pJ}{ta tb:TE}{pos:Pos}{op:CmpOp}{r:R2}(F:B5 X (r6 op) r)(O:PE X a ta)(J:PE X b tb)(h:op≠.In:=by decide)(h2:op≠.NotIn:=by decide):PT X (.Compare a [op] [b] pos) (Pg (BK r ta tb)):=eF F O J (UX b h h2)
theorem EH{a b:pJ}{ta tb:TE}{pos:Pos}{op:CmpOp}{r:R2}(F:B5 X (r6 op) r)(O:PE X a ta)(J:PE X b tb)(h:op≠.In:=by decide)(h2:op≠.NotIn:=by decide):PE X (.Compare a [op] [b] pos) (BK r ta tb):=eV F O J (UX b h h2)
theorem IM{o i:pJ}{td ty:TE}{pos:Pos}(J:X.A.units+1<cLine)(F:PE X o td)(hi:PE X i ty)(O:QF i:=by exact λ_ _=>rfl):PE X (.Subscript o i pos) (NN td ty):=dG J F hi O
theorem A3{a b:pJ}{ta tb:TE}{pos:Pos}{r:R2}(hr:Fw X r)(J:PE X a ta)(F:PE X b tb)(O:Mp b:=by exact λ_ _=>rfl):PE X (.Subscript a b pos) (BK r ta tb):=Io hr J F O
theorem AS{k:Nat}{x:Str}{ps:List Str}{sp:Sp}{e:pJ}{es:List pJ}{t:TA}{p pos:Pos}(c:AX X.prog X.w X.K X.mg X.base k x ps sp)(ha:PA X (e :: es) t)(hr:Room k X.A:=by first|assumption|exact Room.mono (by assumption) ∅)(hg:Gl X x:=by rfl)(J:(x == ("__debug__":Str))=false:=by decide)(O:pK (e :: es) X.env=(false,eval e X.env) :: pK es X.env:=by rfl)(F:(uD pos (pK es X.env)).any (·.1)=false:=by rfl):
  PE X (.Call (.Name x p) (e :: es) [] pos) (DO sp [] E0 t):=iN c hr ha hg J O F
def jU:V->List V->Hp->VK->Prop:=λx vs H Q=>∃(l:Addr) (ns:List Int) (k:Int),x=.ref l/\vs=[.int k]/\H l=some (.AE (ns.map V.int))/\k∈ns/\ns.length<=1000000/\Q (.int ((ns.idxOf k:Nat):Int)) H
theorem MN:JH X "list.index" jU:=by
 intro ge s σ H x vs v us Q I rx rv h;obtain⟨l,ns,k,rfl,rfl,hH,hk,hz,q⟩:=h;cases rx;obtain⟨u,rfl,ru⟩:=rv.Aj;obtain⟨t,rfl⟩:=ru;obtain⟨z,its,n,r,hl,e⟩:=I.DX hH;have hi:=L0 r;have ab:=hi.length;have J:ns.idxOf k<ns.length:=rJ.mpr hk;refine we t9 ⟨_,e,G⟩ PySem.F.entry_list_index (PySem.F.args_list_index_2 _ _)
  (MeetsSeq.list_index l its.toArray n (.int k t) (isInt k) (λy hy=>eq_isInt k t hi y (by simpa using hy)) (ns.idxOf k) (by simpa [ab]using J) (by omega) ?_ ?_) ⟨e,⟨.int ((ns.idxOf k:Nat):Int),H,I.Cn _,⟨_,G⟩,q⟩⟩
 ·show isInt k its[ns.idxOf k]=true;rw[acD k hi _ (by omega) J];simpa using yx J
 ·intro j O aa;show isInt k its[j]=false;rw[acD k hi j (by simpa using O) (by omega)];exact ne_of_lt_idxOf aa _
theorem fO:∀{F:List Value},sv F ns->Af (ns.map V.int) F:=by
 induction ns with
 |nil=>intro F r;cases r;exact .nil
 |cons n ns ih =>
  intro F r;cases r with
  |cons=>exact .cons ⟨_,G⟩ (ih (by assumption))
end
end L2
namespace L2
open PySem PySem.Spec PyProof.Rows PySem.SeqAt
section
variable {prog:pG}{w:World}{A:qM}{E:Value->oq->Prop}
abbrev WO(items:Array Value)(x:Value):Nat->Option abF×PUnit->Sem (ForInStep (Option abF×PUnit)):=λi _=>match items[i]? with
 |some y=>do let b <-eqBool y x;if b=true then (do let r <-retInt (i:Int);pure (ForInStep.done (some r,Unit.unit))) else pure (vD (none,Unit.unit))
 |_=>pure (vD (none,Unit.unit))
theorem cP(items:Array Value)(x:Value)(e:Value->Bool)(j:Nat)(O:j<items.size)(ab:e items[j]=true)(aa:∀m (hm:m<items.size),m<j->e items[m]=false):
  ∀(k i:Nat) (s:oq),i+k=j->(∀y,y∈items->EqAt A s y x (e y))->Q (some (.done (.ret (.int j s.toks))),Unit.unit) { s with toks:=s.toks+1} →
   wpAny (model prog w) A (forIn (List.range' i (items.size-i) 1) ((none:Option abF),Unit.unit) (WO items x)) Q E s:=by
 intro k
 induction k with
 |zero =>
  intro i s hi F q;have e1:i=j:=by omega
  subst e1;rw[show items.size-i=(items.size-i-1)+1 by omega,acw,wG];refine oa ?_;show wpAny _ _ (match items[i]? with|some y=>_|_=>_) _ _ s;rw[show items[i]?=some items[i] by simp[O]];refine oa (F _ (abT O) prog w _ _ ?_);rw[ab]
  wp_walk
  exact q
 |succ k ih =>
  intro i s hi F q;have J:i<items.size:=by omega
  rw[show items.size-i=(items.size-(i+1))+1 by omega,acw,wG];refine oa ?_;show wpAny _ _ (match items[i]? with|some y=>_|_=>_) _ _ s;rw[show items[i]?=some items[i] by simp[J]];refine oa (F _ (abT J) prog w _ _ ?_);rw[aa i J (by omega)];exact ou (ih (i+1) s (by omega) F q)
set_option maxHeartbeats 1000000 in
theorem Xj (t:Addr)(items:Array Value)(n:Nat)(O:Option Addr)(sl:Array (Option Value))(x:Value)(e:Value->Bool)(j:Nat)(hj:j<items.size)
  (aa:e items[j]=true)(J:∀m (hm:m<items.size),m<j->e items[m]=false) :
  Meets (oY.«tuple.index» ⟨[.ref t,x],[]⟩) (λA R s=>s.heap.get? t=some { cls:=.type "tuple",dict:=O,data:=.seq items n,slots:=sl}/\(∀y,y∈items->EqAt A.in1 s y x (e y))/\R (.ok (.ret (.int j s.toks))) { s with toks:=s.toks+1}):=by
 intro prog w A R s h;obtain⟨hp,g,d,tk,os⟩:=s;obtain⟨F,he,h⟩:=h
 wp_walk using uU F
 show wpAny (model prog w) A.in1 (forIn [:min items.size items.size] ((none:Option abF),Unit.unit) (WO items x)) _ _ _;rw[abj];simp only[acA.size,Nat.min_self,Nat.sub_zero,Nat.add_sub_cancel,Nat.div_one];refine cP (A:=A.in1) items x e j hj aa J j 0 _ (by omega) he ?_
 wp_walk
 exact h
end
section
variable {X:Cx}
def dB:V->List V->Hp->VK->Prop:=λx vs H Q=>∃(l:Addr) (ns:List Int) (k:Int),x=.ref l/\vs=[.int k]/\H l=some (.AF (ns.map V.int))/\k∈ns/\Q (.int ((ns.idxOf k:Nat):Int)) H
theorem Ze:JH X "tuple.index" dB:=by
 intro ge s σ H x vs v us Q I rx rv h;obtain⟨l,ns,k,rfl,rfl,hH,hk,q⟩:=h;cases rx;obtain⟨u,rfl,ru⟩:=rv.Aj;obtain⟨t,rfl⟩:=ru;obtain⟨its,r,⟨⟨c,aa,dt,sl⟩,e,hc,n,hd⟩,_⟩:=I.tuple (AH.of (K:=X.K) hH);obtain rfl:c=.type "tuple":=hc;obtain rfl:dt=.seq its.toArray n:=hd;have hi:=L0 r;have ac:=hi.length;have J:ns.idxOf k<ns.length:=rJ.mpr hk;refine we zt ⟨_,e,G⟩ PySem.F.entry_tuple_index (PySem.F.args_tuple_index_2 _ _)
  (Xj l its.toArray n aa sl (.int k t) (isInt k) (ns.idxOf k) (by simpa [ac]using J) ?_ ?_) ⟨e,λy hy=>(eq_isInt k t hi y (by simpa using hy)).at _ _,⟨.int ((ns.idxOf k:Nat):Int),H,I.Cn _,⟨_,G⟩,q⟩⟩
 ·show isInt k its[ns.idxOf k]=true;rw[acD k hi _ (by omega) J];simpa using yx J
 ·intro j O ab;show isInt k its[j]=false;rw[acD k hi j (by simpa using O) (by omega)];exact ne_of_lt_idxOf ab _
end
end L2
namespace HT
open PySem PySem.Spec PyProof.Rows L2
section
variable {prog:pG}{w:World}{A:qM}{E:Value->oq->Prop}{s:oq}
theorem Xa {lo hi:Option Int}(F:IsTup s.heap t items)(O:s.heap.IsSliceOf sl vl vu .none)(pl:xJ vl lo)(pu:xJ vu hi)
  (J:Ad items.size 0 lo=0/\Ad items.size items.size hi=items.size)(h:Q (.ref t) s):wpAny (model prog w) A (wZ (.ref t) (.ref sl)) Q E s:=by
 obtain⟨os,aa,ad,ae⟩:=id O;have ac:s.TypeIs (.ref sl) "slice":=⟨os,aa,ad⟩;unfold wZ;try with_reducible refine qW ?_
 first|refine oa (ou ?_)|skip
 refine oa (ab9 F.typeIs ∅ (oa (si (name:=tq "__getitem__") F.typeIs rP (sk rP F.typeIs abk ?_ (abJ _ _)))));show wpAny _ _ (yF (.ref t) >>= _) _ _ s;refine oa (tupleItemsOf_ F (oa (wV ac ?_)));rw[oH ∅];refine oa (Qq O pl pu ?_);have ab:((((Ad items.size 0 lo:Nat):Int) == 0 && (1:Int) == 1 && (Ad items.size items.size hi-Ad items.size 0 lo) == items.size)=true):=by rw[J.1,J.2];simp
 show wpAny _ _ (if (((Ad items.size 0 lo:Nat):Int) == 0 && (1:Int) == 1 && (Ad items.size items.size hi-Ad items.size 0 lo) == items.size)=true then _ else _) _ _ s;rw[oH ab];unfold oY.Tuple.tupleIsExact;refine oa ?_
 first|refine oa (wV F.typeIs (ou ?_))|refine wV F.typeIs ?_
 first
  |(rw[oH ∅];refine oa (uj (ou ⟨_,G,ou h⟩)))
  |(rw[oH (by rfl)];exact oa (uj (ou ⟨_,G,ou h⟩)))
end
end HT
namespace L2
open PySem PySem.Spec PyProof.Rows
section
variable {X:Cx}{K:ow}
def VU(K:ow):V->Option Int->Option Int->Hp->VK->Prop:=λx lo hi H Q=>∃a xs,x=.ref a/\AH K H a xs /\
 ((HT.Ad xs.length 0 lo=0/\HT.Ad xs.length xs.length hi=xs.length)->Q (.ref a) H)/\(¬(HT.Ad xs.length 0 lo=0/\HT.Ad xs.length xs.length hi=xs.length)->∀p,H p=none->Q (.ref p) (AG H p (.AF (Ck xs lo hi))))
theorem fM:JO X (VU X.K):=by
 intro ge s σ H x v vl vu lo hi sl Q I O hs pl pu h;obtain⟨a,xs,rfl,hx,q1,q2⟩:=h;by_cases F:HT.Ad xs.length 0 lo=0/\HT.Ad xs.length xs.length hi=xs.length
 ·cases O;obtain⟨its,r,J,hz⟩:=I.tuple hx;have aa:its.toArray.size=xs.length:=by rw[oD];exact r.length.symm
  exact⟨"tuple",_,rP.lookup,J.typeIs,HT.Xa J hs pl pu (by rw[aa];exact F) ⟨.ref a,H,I,G,q1 F⟩⟩
 ·exact UM ge s σ H _ v vl vu lo hi sl Q I O hs pl pu ⟨a,xs,G,hx,F,q2 F⟩
theorem WA:JO X (VU []):=λge s σ H x v vl F lo hi sl Q I J hs pl O ⟨a,xs,e,c,q⟩=>fM ge s σ H x v vl F lo hi sl Q I J hs pl O ⟨a,xs,e,c.up,q⟩
theorem eG(I:AI X ge σ H s)(ty:H p=some (.AF xs)):
  s.TypeIs (.ref p) "tuple"/\∀a,qA p=.ref a->∃F,s.heap.get? a=some F/\F.dict=none:=by
 obtain⟨_,its,r,⟨o,e,c⟩,O,e2,c2⟩:=I.AY p _ ty;exact⟨⟨o,e,c.1⟩,λa J=>by cases J;exact⟨O,e2,c2⟩⟩
def nM(r:V->List V->Hp->VK->Prop)(to:TE)(t:TA):TE:=λσ H Q=>to σ H λx H1=>(∃p xs,x=.ref p/\H1 p=some (.AF xs))/\t σ H1 λxs H2=>r x xs H2 Q
variable {o e:Expr}{es:List Expr}{to:TE}{t:TA}{name:Str}{apos cpos:Pos}{id:String}{r:V->List V->Hp->VK->Prop}
theorem ir (pa:acS "tuple")(ac:Slot "tuple" name id)(ab:typeOf (.builtin id)=pure (.type "method_descriptor"))(O:JH X id r)(ho:PE X o to)(ha:PA X (e :: es) t)
  (aa:aa8 o name X.env (eval o X.env)=eval o X.env:=by rfl)
  (af:((uD cpos (pK (e :: es) X.env)).all (λx=>!x.1) && (backToKw cpos (acf [] X.env)).all (λx=>x.1.isSome)
   && decide ((e :: es).length+([]:List aay).length+(if ([]:List aay).isEmpty then 0 else 1)<30))=true:=by rfl)
  (ad:(apos.endLine == cpos.line)=true:=by rfl)(hs:pK (e :: es) X.env=(false,eval e X.env) :: pK es X.env:=by rfl)(ae:(uD cpos (pK es X.env)).any (·.1)=false:=by rfl) :
  PE X (.Call (.Attribute o name apos) (e :: es) [] cpos) (nM r to t):=by
 intro ge s σ H Q I h;refine aao aa af ad rfl (AZ (ho ge s σ H _ I h) λv s1 ⟨x,H1,F,r1,⟨p,xs,ex,hp⟩,q1⟩=>?_);subst ex;cases r1;obtain⟨h1,h2⟩:=eG F hp;exists "tuple",id,pa,ac,ab,h1,h2;have J:=ha cpos ge s1 σ H1 _ F q1;rw[hs]at J ⊢;refine aaa (by show(false || (uD cpos (pK es X.env)).any (·.1))=false;rw[ae]<;>rfl) (aaT ?_);exact AZ J λus s2 ⟨vs,H2,I2,r2,q2⟩=>O ge s2 σ H2 (.ref p) vs (.ref p) us Q I2 rfl r2 q2
inductive D0(H:Hp):V->rj->Prop
 |int (i:Int):D0 H (.int i) (.int i)
 |bl (b:Bool):D0 H (.bl b) (.bool b)
 |str (z:Str):D0 H (.str z) (.str z)
 |AF {p:Addr} {xs:List V} {ds:List rj} (h:H p=some (.AF xs)) (F:xs.length=ds.length) (hd:∀(i:Nat) (x:V) (d:rj),xs[i]?=some x->ds[i]?=some d->D0 H x d):D0 H (.ref p) (.tuple ds)
variable {ge:List (Addr×Obj)}{σ:L2.St}{H:Hp}{s:oq}
theorem OK(h:Heap):∀{xs:List V} {its:List Value} {ds:List rj},Af xs its->xs.length=ds.length->(∀(i:Nat) (x:V) (d:rj),xs[i]?=some x->ds[i]?=some d->∀u,Ao x u->Reads h u d [])->ReadsAll h its ds []
 |[],_,ds,.nil,hl,_=>by
  have:ds=[]:=r9.mp hl.symm
  subst this;exact .nil
 |x :: xs,_,[],_,hl,_=>by simp at hl
 |x :: xs,_,d :: ds,.cons r rs,hl,hd =>
  .cons (as:=[]) (bs:=[]) (hd 0 x d rfl rfl _ r) (OK h rs (by simpa using hl) λi J d' O F=>hd (i+1) J d' (by simpa using O) (by simpa using F))
theorem Ih(I:AI X ge σ H s)(h:D0 H v d):∀u,Ao v u->Reads s.heap u d []:=by
 induction h with
 |int i =>
  intro u r;obtain⟨t,rfl⟩:=r;exact .int _ _
 |bl b =>
  intro u r;cases r;exact .bool _
 |str z =>
  intro u r;obtain⟨t,rfl⟩:=r;exact .str _ _
 |AF h hl hd ih =>
  intro u r;cases r;obtain⟨its,rv,tp,_⟩:=I.tuple (AH.of (K:=X.K) h);obtain⟨o,F,J,n,O⟩:=tp;exact .tuple F J O (by simpa using OK s.heap rv hl ih)
inductive FX:Nat->rj->Prop
 |int {n:Nat} (i:Int):FX n (.int i)
 |bl {n:Nat} (b:Bool):FX n (.bool b)
 |AF {n:Nat} {ds:List rj} (h:∀d∈ds,FX n d):FX (n+1) (.tuple ds)
theorem PB:∀{ds:List rj},(∀d∈ds,d.canLay0=true)->yS ds=true
 |[],_=>rfl
 |d :: ds,h=>by
  simp only[yS,sj];exact⟨h d #v[],PB λx F=>h x (by simp[F])⟩
theorem OX:∀{ds:List rj},(∀d∈ds,d.depth<=n)->zU ds<=n
 |[],_=>o9 _
 |d :: ds,h=>by
  have:=OX (ds:=ds) λx F=>h x (by simp[F])
  have:=h d #v[]
  simp only[zU];omega
theorem FX.ok(h:FX n d):d.canLay0=true/\d.depth<=n+1:=by
 induction h with
 |int i=>exact⟨G,by simp[wQ]⟩
 |bl b=>exact⟨G,by simp[wQ]⟩
 |@AF n ds h ih =>
  exists by simp only[yf];exact PB λd hd=>(ih d hd).1
  have:=OX λd hd=>(ih d hd).2
  simp only[wQ];omega
theorem FX.shaped(h:FX n d)(F:n<=60):vg d=true:=by
 unfold vg;rw[sj];exact⟨h.ok.1,qC (by have:=h.ok.2;omega)⟩
def Ux(b:Bool):R2:=λx y H Q=>∃(n:Nat) (d:rj),n<=60/\D0 H x d/\D0 H y d/\FX n d/\Q (.bl b) H
theorem jk(hu:X.A.units+64<cLine):B5 X (r6 .Eq) (Ux true):=by
 intro ge s σ H x y v u Q I O ry h;obtain⟨n,d,J,hx,hy,F,k⟩:=h;refine eq_dataH (Ih I hx v O) (Ih I hy u ry) (F.shaped J) (F.shaped J) hu ?_;rw[aaJ _ F.ok.1];exact⟨.bl true,H,I,G,k⟩
theorem PX(hu:X.A.units+64<cLine):B5 X (r6 .NotEq) (Ux false):=by
 intro ge s σ H x y v u Q I O ry h;obtain⟨n,d,J,hx,hy,F,k⟩:=h;refine ne_dataH (Ih I hx v O) (Ih I hy u ry) (F.shaped J) (F.shaped J) hu ?_;rw[aaJ _ F.ok.1];exact⟨.bl false,H,I,G,k⟩
def mh:R2:=λx y H Q=>∃(d e:rj),D0 H x d/\D0 H y e/\(d.canLay0=true/\d.depth<=64)/\(e.canLay0=true/\e.depth<=64)/\Q (.bl (!PyData.eqv d e)) H
theorem XX(h:d.canLay0=true/\d.depth<=64):vg d=true:=by
 unfold vg;rw[sj];exact⟨h.1,qC h.2⟩
theorem i7(hu:X.A.units+64<cLine):B5 X (r6 .NotEq) mh:=by
 intro ge s σ H x y v u Q I F ry h;obtain⟨d,e,hx,J,O,se,k⟩:=h;exact ne_dataH (Ih I hx v F) (Ih I J u ry) (XX O) (XX se) hu ⟨.bl _,H,I,G,k⟩
theorem R1:∀{xs:List V} {F:List Value},xs.length=F.length->(∀(i:Nat) (x:V) (u:Value),xs[i]?=some x->F[i]?=some u->Ao x u)->Af xs F
 |[],[],_,_=>.nil
 |[],_ :: _,h,_=>by simp at h
 |_ :: _,[],h,_=>by simp at h
 |x :: xs,u :: F,h,g=>.cons (g 0 x u rfl rfl) (R1 (by simpa using h) λi y v O J=>g (i+1) y v (by simpa using O) (by simpa using J))
theorem ZV(hc:X.B9=true):Cr X (.builtin "max") (λxs H Q=>∃(p:Addr) (ns:List Int),xs=[.ref p]/\H p=some (.AF (ns.map V.int))/\0<ns.length/\∀m,m∈ns->(∀a∈ns,a<=m)->Q (.int m) H):=by
 intro ge s σ H xs us Q I r h;obtain⟨p,ns,rfl,hp,ae,q⟩:=h;obtain⟨u,rfl,r1⟩:=FI r;cases r1;obtain⟨its,rv,pa,_⟩:=I.tuple (AH.of (K:=X.K) hp);have ad:its.length=ns.length:=by rw[<-rv.length,kb]
 have ab:p<s.heap.objs.size:=by
  obtain⟨o,ho,_⟩:=id pa;exact oK ho
 have O:∀i v,its.toArray[i]?=some v->∃t,v=.int (ns.getD i 0) t/\i<ns.length:=λi v F=>by
  rw[sT]at F;have hi:i<its.length:=(oh.mp F).1;have aa:i<ns.length:=by omega
  have hx:(ns.map V.int)[i]?=some (.int ns[i]):=by rw[om,og aa];rfl
  obtain⟨u,hu,ru⟩:=rv.get hx;rw[hu]at F;obtain rfl:u=v:=oV F;obtain⟨t,rfl⟩:=ru;exact⟨t,by rw[oj,og aa];rfl,aa⟩
 refine call_max_walk (r8 pa ?_);refine⟨s.heap.objs.size,_,_,_,_,_,λi j=>decide (-(ns.getD i 0) < -(ns.getD j 0)),G,Walks.tuple (show X.A.in1.handled=none from I.ok.hd hc) _ p (o6 ab) its.toArray,⟨⟨_,oJ _ rfl,G,G⟩,pa.push _⟩,λb J=>?_,by rw[oD];omega,λi j vi vj s' Q' E' hi hj ac=>?_,λv h' tk F k=>?_⟩
 ·simp only[oG,o3,qN]at J;rw[rz];rcases J with rfl|rfl
  ·exact vc _
  ·exact tM ab
 ·obtain⟨t1,rfl,_⟩:=O i vi hi;obtain⟨t2,rfl,_⟩:=O j vj hj;refine gt_int ?_;have e:decide (ns.getD j 0<ns.getD i 0)=decide (-(ns.getD i 0) < -(ns.getD j 0)):=by
   rw[tW,uE,uE];omega
  first
   |(rw[e];exact ac)
   |(rw[show decide (ns.getD i 0>ns.getD j 0)=decide (-(ns.getD i 0) < -(ns.getD j 0)) from e];exact ac)
 ·obtain⟨t,rfl,J⟩:=O _ v F;obtain⟨h1,h2⟩:=argBest_lt (λi=>-(ns.getD i 0)) (its.toArray.size-1);refine⟨.int _,H,I.Bf λb o eb=>?_,⟨t,G⟩,q _ (getD_mem J) λa ha=>?_⟩
  ·exact k b o (λz=>by
    have:b=s.heap.objs.size:=by simpa using z
    exact absurd (oK eb) (by rw[this];exact tD _)) (oo _ eb)
  ·obtain⟨j,hj,rfl⟩:=mem_getD ha
   have:=h2 j (by rw[oD];omega)
   have h3:-(ns.getD (argBest (λi j=>decide (-(ns.getD i 0) < -(ns.getD j 0))) (its.toArray.size-1)) 0)<=-(ns.getD j 0):=this;omega
theorem cI(hs:xs.toList.Pairwise (· < ·)):∀(F lo hi:Nat),lo<=hi->hi<=xs.size->hi-lo<=F->(∀(i x:Nat),i<lo->xs[i]?=some x->x<j)->(∀(i x:Nat),hi<=i->xs[i]?=some x->j<=x) →
  xk xs j F lo hi<=xs.size/\(∀(i x:Nat),i<xk xs j F lo hi->xs[i]?=some x->x<j)/\(∀(i x:Nat),xk xs j F lo hi<=i->xs[i]?=some x->j<=x):=by
 have aa:∀(a b x y:Nat),a<b->xs[a]?=some x->xs[b]?=some y->x<y:=λa b x y ac ha hb=>by
  rw[<-Array.getElem?_toList]at ha hb;obtain⟨h1,rfl⟩:=oh.mp ha;obtain⟨h2,rfl⟩:=oh.mp hb;exact qg.mp hs a b h1 h2 ac
 intro F
 induction F with
 |zero =>
  intro lo hi h1 h2 h3 h4 O;obtain rfl:lo=hi:=()
  exact⟨h2,h4,O⟩
 |succ f ih =>
  intro lo hi h1 h2 h3 h4 O;unfold xk;by_cases c:lo<hi
  ·rw[oH c];have hm:(lo+hi) / 2<xs.size:=()
   have J:xs[(lo+hi) / 2]?=some xs[(lo+hi) / 2]:=pY hm;have eg:xs.getD ((lo+hi) / 2) j=xs[(lo+hi) / 2]:=by rw[qh,J];rfl
   dsimp only;rw[eg];by_cases d:xs[(lo+hi) / 2]<j
   ·rw[oH d];refine ih _ _ () h2 () (λi x ab e=>?_) O;rcases oW i ((lo+hi) / 2)with z|z
    ·exact abA (aa i _ x _ z e J) d
    ·obtain rfl:i=(lo+hi) / 2:=()
     rw[J]at e;cases e;exact d
   ·rw[oC d];refine ih _ _ () () () h4 (λi x ab e=>?_);rcases oW ((lo+hi) / 2) i with z|z
    ·have:=aa _ i _ x z J e;lia
    ·obtain rfl:i=(lo+hi) / 2:=()
     rw[J]at e;cases e;lia
  ·rw[oC c];obtain rfl:lo=hi:=()
   exact⟨h2,h4,O⟩
theorem SI(F:xs.toList.Pairwise (· < ·))(j:Nat):pQ xs j<=xs.size/\(∀(i x:Nat),i<pQ xs j->xs[i]?=some x->x<j)/\(∀(i x:Nat),pQ xs j<=i->xs[i]?=some x->j<=x):=by
 unfold pQ;exact cI F _ 0 xs.size (o9 _) (oz _) () (λi _ h=>()) λi x h e=>by
  rw[xm h]at e;cases e
theorem YD(J:xs.toList.Pairwise (· < ·))(hn:xs[pQ xs j]?≠some j):(oZ.insertAt xs (pQ xs j) j).toList.Pairwise (· < ·):=by
 obtain⟨b1,b2,b3⟩:=SI J j;rw[oZ.toList_insertAt,uM];have hd:∀y∈xs.toList.drop (pQ xs j),j<y:=λy hy=>by
  obtain⟨k,O,rfl⟩:=qV hy;rw[List.getElem_drop];have F:pQ xs j+k<xs.toList.length:=by rw[pS]at O;omega
  have e:xs[pQ xs j+k]?=some xs.toList[pQ xs j+k]:=by rw[<-Array.getElem?_toList];exact og F
  have:=b3 _ _ (Nat.le_add_right _ _) e
  rcases oW j xs.toList[pQ xs j+k]with z|z
  ·exact z
  ·have ej:xs.toList[pQ xs j+k]=j:=by omega
   cases k with
   |zero=>rw[ej]at e;exact absurd e hn
   |succ k =>
    have ab:pQ xs j<xs.toList.length:=by omega
    have e0:xs[pQ xs j]?=some xs.toList[pQ xs j]:=by rw[<-Array.getElem?_toList];exact og ab
    have g0:=b3 _ _ (oz _) e0
    have:=qg.mp J (pQ xs j) (pQ xs j+(k+1)) ab F (by omega)
    omega
 refine⟨J.sublist (ab1 _ _),vI.mpr ⟨hd,J.sublist (List.drop_sublist _ _)⟩,λa ha b hb=>?_⟩;have aa:a<j:=by
  obtain⟨k,O,rfl⟩:=qV ha;rw[List.getElem_take];rw[pN]at O;have F:k<xs.toList.length:=by omega
  exact b2 k _ (by omega) (by rw[<-Array.getElem?_toList];exact og F)
 rcases oG.mp hb with z|z
 ·rw[z];exact aa
 ·exact abA aa (hd b z)
structure EC(b:Bool)(t:oZ):Prop where
 led:t.led=b
 QY:t.dummies = #[]
 Qa:t.plain=true->t.place.toList.Pairwise (· < ·)
theorem EC.NT{t:oZ}(x:EC b t)(n:Nat):EC b (t.standIn n):=⟨x.led,G,λz=>by cases z⟩
theorem YF{t:oZ}(hd:t.dummies = #[]):∀(J:Nat) (p:ac9) (j:Nat) (d:Option Nat),p.dummy=none->ab4 t (λ_=>h+1) h J p=some (.empty j d)->d=none/\t.slot j=.empty:=by
 intro J
 induction J with
 |zero=>intro p j d _ e;cases e
 |succ f ih =>
  intro p j d hp e;have ad:∀q:ac9,q.dummy=none->(t.advance q).dummy=none:=λq O=>by
   unfold oZ.advance;split
   ·exact O
   ·exact O
  unfold ab4 at e;split at e
  ·rename_i F
   simp only[xh,adp]at e;exact⟨by rw[<-e.2];exact hp,by rw[<-e.1];exact F⟩
  ·rename_i F
   unfold adl at F;dsimp only at F;split at F
   ·cases F
   ·rw[hd]at F
    have:zy #[] p.j=false:=by unfold zy;simp
    rw[this]at F;cases F
  ·rename_i i F
   have ne:((h+1:Int) == h)=false:=by rw[beq_eq_false_iff_ne];lia
   rw[ne]at e;exact ih _ j d (ad p hp) e
theorem EC.nV{t:oZ}(x:EC b t)(es:Array (Int×Value))(h:Int)(v:Value):EC b (layNew t es h v).2.1:=by
 unfold layNew;cases e:t.freeSlot h with
 |none=>exact x.NT _
 |some q =>
  obtain⟨F,wd⟩:=q;have hs:t.place[pQ t.place F]?≠some F:=by
   unfold oZ.freeSlot at e;split at e
   ·rename_i j d hp
    obtain⟨rfl,J⟩:=YF x.QY _ _ j d rfl hp;simp only[zo,xh,adj]at e;rw[<-e.1];intro z;unfold adl at J;dsimp only at J;rw[z]at J;simp at J
   ·cases e
  have O:EC b (t.put F).1:=by
   refine⟨x.led,?_,λz=>YD (x.Qa z) hs⟩;show(if _ then _ else t.dummies) = #[];rw[x.QY]
   have:zy #[] F=false:=by unfold zy;simp
   rw[this];rfl
  show EC b ((t.put F).1.orStandIn _);unfold oZ.orStandIn;split
  ·exact O
  ·exact O.NT _
theorem Xt(owner:Array (Option Nat))(n:Nat):(((oN n).filterMap λj=>(owner.getD j none).map (j,·)).map (·.1)).Pairwise (· < ·):=by
 have e:∀l:List Nat,((l.filterMap λj=>(owner.getD j none).map (j,·)).map (·.1))=l.filter λj=>(owner.getD j none).isSome:=by
  intro l
  induction l with
  |nil=>rfl
  |cons j l ih =>
   rw[vk,acq];cases h:owner.getD j none with
   |none=>simpa using ih
   |some q=>simpa using ih
 rw[e];exact ug.sublist List.filter_sublist
theorem EC.j5{t:oZ}(x:EC b t)(es:Array (Int×Value))(n:Nat):EC b (zG t es n).2.1:=by
 unfold zG;cases e:t.relaid (es.map (·.1)) n with
 |none=>exact x.NT _
 |some q =>
  obtain⟨t',F⟩:=q;dsimp only;split
  ·unfold oZ.relaid oZ.laid at e;cases o:oZ.layClean (oZ.sizeAbove n-1) (es.map (·.1))with
   |none=>rw[o]at e;cases e
   |some owner =>
    rw[o]at e;simp only[Option.bind_eq_bind,xv,Option.pure_def,xh,adj]at e;rw[<-e.1];exact⟨x.led,G,λ_=>by simpa using Xt owner _⟩
  ·exact x.NT _
def Hy(e:Int×Value):Int:=match e.2 with
 |.int k _=>k
 |_=>0
def EI(prog:pG)(w:World)(l:List (Int×Value)):Prop:=∀e∈l,∃k t,e=((vX prog w).hash k,.int k t)
def Ca(prog:pG)(w:World)(b:Bool)(h:Heap)(a:Addr)(ks:List Int):Prop :=
 ∃o es ep t,h.get? a=some o/\o.ExactSet/\o.data=.set es ep t/\EI prog w es.toList/\(es.toList.map Hy).Perm ks/\es.size<xC/\t.fits es.size=true/\EC b t
variable {prog:pG}{w:World}
theorem EI.el(h:EI prog w l):ElemsOf (vX prog w) l:=λe F=>by
 obtain⟨k,t,rfl⟩:=h e F;exact⟨⟨k,y6 prog w k t,G⟩,G⟩
theorem EI.Ct(h:EI prog w l)(p:uR m l):EI prog w m:=λe F=>h e (p.mem_iff.mp F)
theorem jQ(k F:Int)(t:Tok):(vX prog w).is k (.int F t)=decide (k=F):=KeyKind.is_eq_decide (y6 prog w F t) k
theorem RD{h:Heap}{o:Obj}{es:Array (Int×Value)}{t:oZ}(J:h.get? a=some o)(hd:o.data=.set es ep t)(F:Array (Int×Value))(t':oZ):
  (h.update a (acR F t')).get? a=some { o with data:=.set F (ep+1) t'}:=by
 have g:=tU (acR F t') J (by rw[putSet_of F t' hd];rfl)
 rwa [putSet_of F t' hd]at g
variable {A:qM}{E:Value->oq->Prop}
theorem Tt(h:Q Unit.unit F):wpAny (model prog w) A (match b with|true=>rule "set.scan.the-table-gave-way" | false=>pure Unit.unit) Q E F:=by
 cases b
 ·exact ou h
 ·exact uj h
theorem cY {b:Bool}{a:Addr}{ks:List Int}{k:Int}{tk:Tok}{Q:Bool->oq->Prop}(hS:Ca prog w b s.heap a ks)(hr:ks.length+1<xC)
  (h:∀h',qr a s.heap h'->Ca prog w b h' a (if k∈ks then ks else ks++[k])->Q (!decide (k∈ks)) { s with heap:=h'}) :
  wpAny (model prog w) A (setAddHashed a (.int k tk) ((vX prog w).hash k)) Q E s:=by
 obtain⟨o,es,ep,t,ho,ab,hd,aa,hp,hb,hf,ti⟩:=hS;have ai:=y6 prog w k tk;have ad:(vZ k tk).scannable=true:=rfl;have sz:es.size=ks.length:=by rw[<-Array.length_toList,<-hp.length_eq,kb]
 have af:k∈ks↔∃e∈es.toList,(vX prog w).is k e.2=true:=by
  rw[<-hp.mem_iff,oI];constructor
  ·rintro⟨e,J,rfl⟩;obtain⟨k',t',rfl⟩:=aa e J;exact⟨_,J,y6 prog w k' t'⟩
  ·rintro⟨e,J,q⟩;obtain⟨k',t',rfl⟩:=aa e J;rw[jQ,uE]at q;exact⟨_,J,q.symm⟩
 unfold setAddHashed setAddHashedIn;refine qW ?_;refine oa (uF ho hd hf ?_);dsimp only;rw[byScan_of ad hb aa.el];simp only[↓reduceIte];unfold setAddByScan;refine oa (oa (uj (oa (wpAny_setScan_of ai ho hd hf aa.el ?_))));cases fi:List.findIdx? (λe=>(vX prog w).is k e.2) es.toList with
 |some j =>
  obtain⟨hj,aj,_⟩:=List.findIdx?_eq_some_iff_getElem.mp fi;have hk:k∈ks:=af.mpr ⟨_,qd hj,aj⟩;have ah:=h s.heap (abX a s.heap) (by rw[oH hk];exact⟨o,es,ep,t,ho,ab,hd,aa,hp,hb,hf,ti⟩);rw[qC hk]at ah;exact ou (ou ah)
 |none =>
  have hk:¬k∈ks:=λz=>by
   obtain⟨e,J,q⟩:=af.mp z;rw[List.findIdx?_eq_none_iff.mp fi e J]at q;cases q
  rw[oC hk,qu hk]at h;have O:=layNew_perm t es ((vX prog w).hash k) (.int k tk);have lf:=layNew_fits t es ((vX prog w).hash k) (.int k tk);have lt:=ti.nV es ((vX prog w).hash k) (.int k tk);generalize layNew t es ((vX prog w).hash k) (.int k tk)=L at O lf lt ⊢;obtain⟨F,t1,wd,gv⟩:=L;dsimp only at O lf lt ⊢;rw[abU]at O;have ae:EI prog w F.toList:=EI.Ct (λe J=>by
   rcases oM.mp J with z|z
   ·exact aa e z
   ·exact⟨k,tk,pH.mp z⟩) O
  have ag:(F.toList.map Hy).Perm (ks++[k]):=by
   refine(O.map Hy).trans ?_;rw[oU];exact hp.append_right _
  have ak:F.size=ks.length+1:=by rw[<-Array.length_toList,O.length_eq,oF,qm,sz];rfl
  have ac:∀t2:oZ,t2.fits F.size=true->EC b t2->wpAny (model prog w) A (do
    storeSet a F t2
    if (!wd && t2.tooFull)=true then do
      (match (zG t2 F (uT F.size)).2.2 with|true=>rule "set.scan.the-table-gave-way" | false=>pure Unit.unit)
      storeSet a (zG t2 F (uT F.size)).1 (zG t2 F (uT F.size)).2.1
      pure (some true)
     else pure (some true)) (λr s'=>r=some true/\∃h',s'={ s with heap:=h'}/\qr a s.heap h'/\Ca prog w b h' a (ks++[k])) E s:=λt2 f2 i2=>by
   have b1:F.size<xC:=()
   refine oa (acb ho hd ?_ (yV b1));have g1:=RD ho hd F t2;have sb:=rM s.heap a (acR F t2);split
   ·have rp:=relayAll_perm t2 F (uT F.size);have rf:=relayAll_fits t2 F (uT F.size);have ri:=i2.j5 F (uT F.size);generalize zG t2 F (uT F.size)=R at rp rf ri ⊢;obtain⟨e2,t3,am⟩:=R;dsimp only at rp rf ri ⊢;have al:e2.size=F.size:=by rw[<-Array.length_toList,rp.length_eq,qm]
    refine oa (Tt (oa (acb g1 rfl ?_ (yV ()))));have g2:=RD g1 rfl e2 t3;exact ou ⟨G,_,G,sb.trans (rM _ a _),_,e2,_,t3,g2,ab,G,ae.Ct rp,(rp.map Hy).trans ag,(),rf,ri⟩
   ·exact ou ⟨G,_,G,sb,_,F,_,t2,g1,ab,G,ae,ag,b1,f2,i2⟩
  refine oa (Tt ?_);split
  ·refine oa ?_;rw[hashByValue_scannable 8 ad];refine ou (qR (ac _ lf lt) (λr s' x=>?_) λ_ _ z=>z);obtain⟨rfl,h',rfl,x1,x2⟩:=x;exact ou (h h' x1 x2)
  ·refine oa (ou ?_);simp only[↓reduceIte];refine qR (ac _ lf lt) (λr s' x=>?_) λ_ _ z=>z
   obtain⟨rfl,h',rfl,x1,x2⟩:=x;exact ou (h h' x1 x2)
def Hw(F:List Int)(k:Int):List Int:=if k∈F then F else F++[k]
def C3(ns:List Int):List Int:=ns.foldl Hw []
theorem YA(ns:List Int)(k:Int):C3 (ns++[k])=Hw (C3 ns) k:=by unfold C3;rw[vM];rfl
theorem RF(ns:List Int):(C3 ns).length<=ns.length:=by
 have J:∀(l F:List Int),(l.foldl Hw F).length<=F.length+l.length:=by
  intro l
  induction l with
  |nil=>intro F;exact oz _
  |cons k l ih =>
   intro F;rw[uz];refine oO (ih _) ?_;unfold Hw;split
   ·rw[pk];lia
   ·rw[oF,pk,pk,rV];lia
 have:=J ns []
 rw[rV]at this;unfold C3;lia
theorem ZC(ns:List Int)(k:Int):k∈C3 ns↔k∈ns:=by
 have J:∀(l F:List Int),k∈l.foldl Hw F↔k∈F\/k∈l:=by
  intro l
  induction l with
  |nil=>intro F;simp
  |cons x l ih =>
   intro F;rw[uz,ih,oG];unfold Hw;split
   ·rename_i h
    constructor
    ·rintro(z|z)
     ·exact .inl z
     ·exact .inr (.inr z)
    ·rintro(z|rfl|z)
     ·exact .inl z
     ·exact .inl h
     ·exact .inr z
   ·rw[oM,pH];constructor
    ·rintro((z|z)|z)
     ·exact .inl z
     ·exact .inr (.inl z)
     ·exact .inr (.inr z)
    ·rintro(z|z|z)
     ·exact .inl (.inl z)
     ·exact .inl (.inr z)
     ·exact .inr z
 have:=J ns []
 unfold C3;simpa using this
theorem Xu(ns:List Int):(C3 ns).Nodup:=by
 have go:∀(l F:List Int),F.Nodup->(l.foldl Hw F).Nodup:=by
  intro l
  induction l with
  |nil=>intro F h;exact h
  |cons x l ih =>
   intro F h;rw[uz];refine ih _ ?_;unfold Hw;split
   ·exact h
   ·rename_i O
    rw[qD];exact⟨h,#v[],λa ha b J=>by rw[pH.mp J];exact λz=>O (z ▸ ha)⟩
 exact go ns [] aaD
abbrev Ey(w:World):Bool:=!w.params.followText "set-order"
theorem aE{St:Nat->Heap->Prop}{items:Array Value}(W:Walks prog w A.in1 I [I,ax] [I] items.size (λi v=>items[i]?=some v) St)(aa:S≠I)(ah:S≠ax)(hv:sv items.toList ns)(hb:items.size+1<xC):
  ∀(k i:Nat) (s:oq),items.size-i=k->i<=items.size->St i s.heap->Ca prog w b s.heap S (C3 (ns.take i)) →
   (∀h' tk,(∀c o,c≠S->c≠I->s.heap.get? c=some o->h'.get? c=some o)->Ca prog w b h' S (C3 ns)->R (.ok (.ret .none)) { s with heap:=h',toks:=tk}) →
   vV (model prog w) A (.builtin "set.update.loop" ⟨[.ref S,.ref I],[]⟩) R s:=by
 have ln:ns.length=items.size:=by rw[<-Array.length_toList];exact hv.length.symm
 have ac:∀{h h':Heap} {ks:List Int},Ca prog w b h S ks->(∀o,h.get? S=some o->h'.get? S=some o)->Ca prog w b h' S ks:=λx k=>by
  obtain⟨o,es,ep,t,ho,rest⟩:=x;exact⟨o,es,ep,t,k o ho,rest⟩
 intro k
 induction k with
 |zero =>
  intro i s hk hi ab hS hR;obtain rfl:i=items.size:=()
  refine tZ zK ?_;rw[uG w6 _];show wpAny _ A.in1 (vh (.ref I) >>= _) _ _ s;refine oa (W.done s _ _ ab λh' tk J=>ou (hR h' tk (λc o _ O e=>J c o (by simpa using O) e) ?_));rw[oQ ()]at hS;exact ac hS λo e=>J S o (by simpa using aa) e
 |succ k ih =>
  intro i s hk hi ab hS hR;have ad:i<items.size:=()
  refine tZ zK ?_;rw[uG w6 _];show wpAny _ A.in1 (vh (.ref I) >>= _) _ _ s;refine oa (W.item i s _ _ ad ab λv h' tk hP ai J=>?_);obtain⟨t,rfl⟩:=sv.int_at hv i v (by rw[vO];exact hP);have ae:Ca prog w b h' S (C3 (ns.take i)):=ac hS λo e=>J S o (by simpa using aa) e
  show wpAny _ A.in1 (holding [vZ (ns.getD i 0) t] (setAdd S (.int (ns.getD i 0) t)) >>= _) _ _ _;refine oa (qW ?_);unfold setAdd;refine qW (oa ((vX prog w).pyHash (y6 prog w (ns.getD i 0) t) ?_));have ag:(C3 (ns.take i)).length+1<xC:=by
   have:=RF (ns.take i)
   rw[pN]at this;lia
  refine cY (s:={ s with heap:=h',toks:=tk+1}) ae ag λh2 sb x2=>?_
  have eN:C3 (ns.take (i+1))=if ns.getD i 0∈C3 (ns.take i) then C3 (ns.take i) else C3 (ns.take i)++[ns.getD i 0]:=by
   have e:ns[i]?=some (ns.getD i 0):=by rw[oj,og ()];rfl
   rw[xg,e];exact YA _ _
  rw[<-eN]at x2;have fr:∀c o,c≠S->h'.get? c=some o->h2.get? c=some o:=λc o hc e=>by rw[sb.2 c hc];exact e
  refine ou ⟨xp w6 _,ih (i+1) _ () ad (W.frame _ _ _ ai λc hc o e=>fr c o (λz=>?_) e) x2 λh3 af k3 x3=>?_⟩
  ·rcases oG.mp hc with y|y
   ·exact aa (z.symm.trans y)
   ·exact ah (z.symm.trans (pH.mp y))
  ·exact hR h3 af (λc o c1 O e=>k3 c o c1 O (fr c o c1 (J c o (by simpa using O) e))) x3
theorem bE(a:Value){Q₁:Value->oq->Prop}(h:Q₁ (.ref s.heap.objs.size) { s with heap:=s.heap.push { cls:=.type "set",dict:=none,data:=.set #[] 0 (.fresh 0 0 (Ey w))}}):
  vV (model prog w) A (.call (.builtin "set.__new__") ⟨[.type "set",a],[]⟩) (wants Q₁ E) s:=by
 refine codeAny_of_tree ?_;show wpAny _ A.in1 (do checkBuiltinCall "set.__new__" ⟨[.type "set",a],[]⟩;again (.builtin "set.__new__" ⟨[.type "set",a],[]⟩)) _ _ s;refine oa (aap (PySem.F.newCall_set_1 a) (ou ⟨xp aaG _,tZ PySem.F.entry_set_new ?_⟩));rw[uG aaG _];unfold oY.«set.__new__» adf;have aa:=sub_set_self;obtain⟨O,g,d,tk,J⟩:=s;dsimp only
 wp_walk
 refine zI (ou ?_);dsimp only;simp only[newObj];refine oa (wpAny_alloc (ou ?_));exact ou h
abbrev GI(w:World):Obj:={ cls:=.type "set",dict:=none,data:=.set #[] 0 (.fresh 0 0 (Ey w))}
theorem aD(h:Heap):Ca prog w (Ey w) (h.push (GI w)) h.objs.size [] :=
 ⟨GI w,#[],0,_,oJ h rfl,⟨G,G,G⟩,G,λe F=>by simp at F,yc _,∅,G,⟨G,G,λ_=>yQ⟩⟩
set_option maxRecDepth 100000 in
set_option maxHeartbeats 3200000 in
theorem ZP {l:Addr}{items:Array Value}{ns:List Int}{Q:Value->oq->Prop}(hh:A.handled=none)(hl:s.heap.IsList l items)(hv:sv items.toList ns)(hb:items.size+1<xC)
  (h:∀(h':Heap) (tk:Nat),Ca prog w (Ey w) h' s.heap.objs.size (C3 ns)->(∀b o,s.heap.get? b=some o->h'.get? b=some o)->Q (.ref s.heap.objs.size) { s with heap:=h',toks:=tk}) :
  wpAny (model prog w) A (call (.type "set") [.ref l]) Q E s:=by
 obtain⟨c,tl,ak⟩:=sY.mro;have am:=sY.made;have av:=sY.sub;refine ac2 (codeAny_of_tree ?_);show wpAny _ _ (callAny (.type "set") _) _ _ _;refine ou ⟨abo _ (by decide +kernel),tZ PySem.F.entry_type_call ?_⟩;rw[qM.under_plain (weight_type_call_type "set" [.ref l] []) rfl];have h1:=sY.notType;have h2:=sY.canCreate;have ap:=PySem.F.typeCall_set_1 (.ref l)
 repeat (any_goals (first|assumption|wp_step))
 refine vW (bE (.ref l) (E:=E) (Q₁:=λob s₁=>ob=.ref s.heap.objs.size/\s₁={ s with heap:=s.heap.push (GI w)}) ⟨G,G⟩) λr s₁ J=>?_
 cases r with
 |error e=>exact J
 |ok fl =>
  cases fl with
  |ret ob =>
   obtain⟨rfl,rfl⟩:=J;have oS:(s.heap.push (GI w)).get? s.heap.objs.size=some (GI w):=oJ _ rfl;have hT:adm { s with heap:=s.heap.push (GI w)} (.ref s.heap.objs.size) "set":=⟨_,oS,G⟩;have al:=sY.init.lookup;have ar:=sY.init.bind (.ref s.heap.objs.size)
   repeat (any_goals (first|assumption|wp_step))
   refine vW (codeAny_call_builtin (R:=wants (λr s₂=>r=.none/\∃h' tk,s₂={ s with heap:=h',toks:=tk}/\Ca prog w (Ey w) h' s.heap.objs.size (C3 ns)/\(∀b o,s.heap.get? b=some o->h'.get? b=some o)) E)
    sY.init.plain PySem.F.entry_set_init (check_set_init_1 hT ?_)) λr₂ s₂ aa=>?_
   ·obtain⟨ol,ab,ad,nl,af⟩:=hl;obtain⟨oc,od,ao,osl⟩:=ol;simp only at ad af;subst ad;subst af;have ah:(s.heap.push (GI w)).get? l=some { cls:=.type "list",dict:=od,data:=.seq items nl,slots:=osl}:=oo _ ab;have au:=PySem.F.sub_list_set;have aj:=PySem.F.sub_list_frozenset;have aq:(uP "list" == uP "dict")=false:=by decide
    have ae:(s.heap.push (GI w)).IsList l items:=⟨_,ah,G,nl,G⟩;unfold oY.«set.__init__» noKeywords ac3;generalize ag:zF=PI
    wp_walk
    subst ag;refine tN ae (oa (aaQ ?_));have ac:l<s.heap.objs.size:=oK ab;have ai:A.in1.in1.in1.handled=none:=by simp[hh]
    have lI:l≠(s.heap.push (GI w)).objs.size:=by rw[rz];exact o6 (tM ac)
    have sI:s.heap.objs.size≠(s.heap.push (GI w)).objs.size:=by rw[rz];exact o6 (vc _)
    refine aE (Walks.list ai _ l lI items) sI (rK ac) hv hb (b:=Ey w) (items.size-0) 0 _ () (o9 _) ⟨⟨_,oJ _ rfl,G,G⟩,ae.push _⟩ ?s0 ?fin
    case s0 =>
     obtain⟨o,es,ep,t,ho,rest⟩:=aD (prog:=prog) (w:=w) s.heap;exact⟨o,es,ep,t,oo _ ho,rest⟩
    case fin =>
     intro h' tk O x3;show wpAny _ _ _ _ _ _;refine ou ?_;show wpAny _ _ (ret qQ) _ _ _;refine ou ⟨G,h',tk,G,x3,λb o e=>?_⟩;have lb:=oK e;exact O b o (o6 lb) (by rw[rz];exact o6 (tM lb)) (oo _ (oo _ e))
   ·cases r₂ with
    |error e=>exact aa
    |ok fl₂ =>
     cases fl₂ with
     |ret r =>
      obtain⟨rfl,h',tk,rfl,x3,O⟩:=aa
      repeat (any_goals (first|assumption|wp_step))
      exact h _ _ x3 O
     |_=>exact aa.elim
  |_=>exact J.elim
theorem Rh:Manifest.owners.lookup (String.ofList ['r','o','t','a','r','e','t','i','_','t','e','s'].reverse)=some Manifest.sig_set_iterator:=by kernel_rfl
theorem Kh:Slot "set_iterator" "__next__" "set_iterator.__next__":=.of (owner:="set_iterator") (n:="__next__") (by rw[typeLookup_type,aaK];kernel_rfl) (by decide +kernel) (by decide +kernel) (by decide +kernel)
 (by first|exact .inl (by decide +kernel)|exact .inr (by decide +kernel)) (by rw[aaL];kernel_rfl)
theorem Xc:entryFor table "set_iterator.__next__" = some oY.«set_iterator.__next__»:=entryFor_of_tree (by kernel_rfl)
theorem Xe(a:Value):argsOk "set_iterator.__next__" ⟨[a],[]⟩:=by
 unfold argsOk;rw[signature?_of (id:="set_iterator.__next__") (n:=['_','_','t','x','e','n','_','_']) (o:=['r','o','t','a','r','e','t','i','_','t','e','s']) (by kernel_rfl) Rh];kernel_rfl
theorem Qr:Slot "set_iterator" "__iter__" "set_iterator.__iter__":=.of (owner:="set_iterator") (n:="__iter__") (by rw[typeLookup_type,aaK];kernel_rfl) (by decide +kernel) (by decide +kernel) (by decide +kernel)
 (by first|exact .inl (by decide +kernel)|exact .inr (by decide +kernel)) (by rw[aaL];kernel_rfl)
theorem Xb:entryFor table "set_iterator.__iter__" = some oY.«dict_keyiterator.__iter__»:=entryFor_alias (id':="dict_keyiterator.__iter__") (by kernel_rfl) rfl (by decide +kernel) (by kernel_rfl)
theorem Xf(a:Value):argsOk "set_iterator.__iter__" ⟨[a],[]⟩:=by
 unfold argsOk;rw[signature?_of (id:="set_iterator.__iter__") (n:=['_','_','r','e','t','i','_','_']) (o:=['r','o','t','a','r','e','t','i','_','t','e','s']) (by kernel_rfl) Rh];kernel_rfl
theorem Xd:entryFor table "set.__iter__" = some oY.«frozenset.__iter__»:=entryFor_alias (id':="frozenset.__iter__") (by kernel_rfl) rfl (by decide +kernel) (by kernel_rfl)
theorem Q7{α:Type}{l:List α}(h:i<l.length):(l[i] :: l.eraseIdx i).Perm l:=by
 rw[xE];have e:l=l.take i++l[i] :: l.drop (i+1):=by rw[tQ,rF]
 conv=>rhs;rw[e]
 exact List.perm_middle.symm
theorem YM{src:Source}{n:Nat}{Q:Nat->oq->Prop}(F:n≠0)(h:Q (w.draws src (s.drawn.get src)%n) { s with drawn:=s.drawn.bump src}):wpAny (model prog w) A (choose src n) Q E s:=λ_ _ _=>⟨F,h⟩
theorem OP{α:Type}(next:Nat->Nat)(xs:Array α):(uu next xs).toList.Perm xs.toList:=by
 have go:∀(F k:Nat) (left:List α) (out:Array α),left.length<=F->(abM next F k left out).toList.Perm (out.toList++left):=by
  intro F
  induction F with
  |zero =>
   intro k left out O;obtain rfl:left=[]:=r9.mp ();unfold abM;simp
  |succ f ih =>
   intro k left out O;unfold abM;cases e:left[next k%left.length]? with
   |none =>
    dsimp only
    have:left=[]:=by
     cases left with
     |nil=>rfl
     |cons x l =>
      have:=Nat.mod_lt (next k) (show 0<(x :: l).length by simp)
      rw[og this]at e;cases e
    rw[this];simp
   |some x =>
    dsimp only;obtain⟨J,ex⟩:=oh.mp e;refine(ih _ _ _ (by rw[yK J];lia)).trans ?_;rw[abU,tL];refine uR.append_left _ ?_;rw[<-ex];exact Q7 J
 have:=go xs.size 0 xs.toList #[] #v[]
 simpa [uu]using this
theorem SN{α:Type}{R:List α->oq->Prop}:∀(n:Nat) (xs:List α) (s:oq),n=xs.length->(∀ys d',ys.Perm xs->R ys { s with drawn:=d'})->wpAny (model prog w) A (drawOrder n xs) R E s
 |0,xs,s,hn,h=>by
  obtain rfl:xs=[]:=r9.mp hn.symm;unfold drawOrder;exact ou (h [] s.drawn (yc _))
 |n+1,[],s,hn,h=>by cases hn
 |n+1,x :: xs,s,hn,h=>by
  unfold drawOrder;refine oa (YM #v[] ?_);have F:=Nat.mod_lt (w.draws .order (s.drawn.get .order)) (show 0<(x :: xs).length by simp);generalize w.draws .order (s.drawn.get .order)%(x :: xs).length=i at F ⊢;rw[og F];dsimp only;refine oa (SN n ((x :: xs).eraseIdx i) _ (by rw[yK F];simp at hn ⊢;omega) λys d' p=>ou (h _ d' ?_));exact(uR.cons _ p).trans (Q7 F)
end
section
variable {prog:pG}{w:World}{A:qM}{E:Value->oq->Prop}{s:oq}
abbrev Dj(first:Value)(i:Nat)(a:Addr)(n ep:Nat):Obj:={ cls:=.type "set_iterator",data:=.fields #[first,.int i 0,.ref a,.int n 0,.int ep 0]}
theorem L4 (hI:s.heap.get? I=some (Dj first i a n ep))
  (hc:wpAny (model prog w) A.in1 (oY.«set_iterator.__next__» ⟨[.ref I],[]⟩) (λJ s'=>∃r,J=.done (.ret r)/\Q (some r) s') (λe s'=>∃F o,s'.heap.get? F=some o/\o.cls=.type "StopIteration"/\e=.ref F/\Q none s') s) :
  wpAny (model prog w) A (vh (.ref I)) Q E s:=by
 have O:s.TypeIs (.ref I) "set_iterator":=⟨_,hI,G⟩;unfold vh;refine oa (xr (si (name:=tq "__next__") O Kh (sk Kh O Xc ?_ (Xe _))));refine qR hc (λJ s' x=>?_) (λe s' x=>?_)
 ·obtain⟨r,rfl,q⟩:=x;exact⟨r,G,ou q⟩
 ·obtain⟨F,o,ho,aa,rfl,q⟩:=x;refine oa (zJ (T:="StopIteration") (b:=true) ⟨_,ho,aa⟩ isSubtype_stop ?_);exact ou q
theorem L9{h:Heap}{I:Addr}{f0 f1 f2 f3 f4:Value}{cl:Value}(F:h.get? I=some { cls:=cl,data:=.fields #[f0,f1,f2,f3,f4]})(k:Nat)(v:Value):
  (h.update I (yM (·.setIfInBounds k v))).get? I=some { cls:=cl,data:=.fields (#[f0,f1,f2,f3,f4].setIfInBounds k v)}:=tU _ F rfl
theorem SH {h:Heap}{I:Addr}{R:Fin->oq->Prop}{X:Value->oq->Prop}(hh:A.handled=none)(F:oq)(O:uQ I h F.heap)
  (hX:∀J o h',h'.get? J=some o->o.cls=.type "StopIteration"->uQ I h h'->X (.ref J) { F with heap:=h'}):wpAny (model prog w) A (newExc (.type "StopIteration") [] >>= λe=>raiseNew e) R X F:=by
 refine oa ?_;simp only[newExc,newTuple];refine oa (qZ ?_ (by size_fits));refine oa (m:=yj _ _) (aap (a:=qQ) (by first|rfl|(simp only[yj];rfl)) ?_);refine qZ ?_ (by size_fits);simp only[raiseNew];refine oa (wpAny_handled ?_);rw[hh];refine oa (ou (wpAny_throw ?_));exact hX _ _ _ (oJ _ rfl) rfl ((O.push _).push _)
section
variable {I a:Addr}{o:Obj}{es:Array (Int×Value)}{i n ep sl:Nat}{t:oZ}{Q:Option Value->oq->Prop}
theorem eM {v:Value}{nx:Nat}(F:s.heap.get? I=some (Dj (.int sl 0) i a n ep))(ho:s.heap.get? a=some o)(hd:o.data=.set es ep t)(hf:t.fits es.size=true)(hn:es.size=n)
  (hN:∀(A':qM) (E':Value->oq->Prop) (J:Option (Value×Nat)->oq->Prop),J (some (v,nx)) s->wpAny (model prog w) A' (xD a sl i ep) J E' s)
  (hQ:∀h',h'.get? I=some (Dj (.int nx 0) (i+1) a n ep)->qr I s.heap h'->Q (some v) { s with heap:=h'}):wpAny (model prog w) A (vh (.ref I)) Q E s:=by
 refine L4 F ?_;unfold oY.«set_iterator.__next__»;refine oa (ou ?_);refine oa (yo F rfl ?_);show wpAny _ _ (aa2 a >>= _) _ _ s;refine oa (vn ho hd hf ?_);rw[oC (by simp[hn])];show wpAny _ _ (xD a ((sl:Int).toNat) ((i:Int).toNat) ((ep:Int).toNat) >>= _) _ _ s;simp only[sN];refine oa (hN _ _ _ ?_);show wpAny _ _ (zH (.ref I) 0 (rR nx) >>= _) _ _ s;refine oa (ue F rfl #v[] ?_);have O:=L9 F 0 (rR nx);show wpAny _ _ (zH (.ref I) 1 (rR ((i:Int)+1)) >>= _) _ _ _;refine oa (ue O rfl #v[] (ou ⟨v,G,hQ _ ?_ ?_⟩))
 ·have g2:=L9 (f0:=rR nx) (by simpa using O) 1 (rR ((i:Int)+1));rw[g2];simp[rR]
 ·exact(rM ..).trans (rM ..)
theorem gq (hh:A.handled=none)(F:s.heap.get? I=some (Dj (.int sl 0) i a n ep))(ho:s.heap.get? a=some o)(hd:o.data=.set es ep t)(O:t.fits es.size=true)(hn:es.size=n)
  (hN:∀(A':qM) (E':Value->oq->Prop) (J:Option (Value×Nat)->oq->Prop),J none s->wpAny (model prog w) A' (xD a sl i ep) J E' s)
  (hQ:∀h',uQ I s.heap h'->Q none { s with heap:=h'}):wpAny (model prog w) A (vh (.ref I)) Q E s:=by
 refine L4 F ?_;unfold oY.«set_iterator.__next__»;refine oa (ou ?_);refine oa (yo F rfl ?_);show wpAny _ _ (aa2 a >>= _) _ _ s;refine oa (vn ho hd O ?_);rw[oC (by simp[hn])];show wpAny _ _ (xD a ((sl:Int).toNat) ((i:Int).toNat) ((ep:Int).toNat) >>= _) _ _ s;simp only[sN];refine oa (hN _ _ _ ?_);show wpAny _ _ (zH (.ref I) 2 .none >>= _) _ _ s;refine oa (ue F rfl #v[] ?_);exact SH (A:=A.in1) (h:=s.heap) (I:=I) hh { s with heap:=s.heap.update I (yM (·.setIfInBounds 2 qQ))} (rM ..).extBut (λob o' h' e1 e2 e3=>⟨ob,o',e1,e2,G,hQ h' e3⟩)
end
end
section
variable {prog:pG}{w:World}{A:qM}{E:Value->oq->Prop}{s:oq}{a I:Addr}{o:Obj}{es:Array (Int×Value)}{i n ep:Nat}{t:oZ}
theorem Mn(h:Q (w.params.followText "set-order") s):wpAny (model prog w) A setsByText Q E s:=by
 unfold setsByText;exact oa (zI (ou h))
def Ea(t:oZ):Nat->Nat
 |0=>0
 |i+1=>t.place.getD i 0+1
theorem Zm(hs:t.place.toList.Pairwise (· < ·)):∀i,i<=t.place.size->pQ t.place (Ea t i)=i:=by
 have aa:∀(a b x y:Nat),a<b->t.place[a]?=some x->t.place[b]?=some y->x<y:=λa b x y ab J O=>by
  rw[<-Array.getElem?_toList]at J O;obtain⟨h1,rfl⟩:=oh.mp J;obtain⟨h2,rfl⟩:=oh.mp O;exact qg.mp hs a b h1 h2 ab
 intro i hi;obtain⟨b1,b2,b3⟩:=SI hs (Ea t i);rcases vN (pQ t.place (Ea t i)) i with z|z|z
 ·have e:t.place[pQ t.place (Ea t i)]?=some t.place[pQ t.place (Ea t i)]:=pY ();have g:=b3 _ _ (oz _) e;generalize t.place[pQ t.place (Ea t i)]=x at e g;cases i with
  |zero=>lia
  |succ i =>
   have F:t.place[i]?=some t.place[i]:=pY ();have gi:Ea t (i+1)=t.place[i]+1:=by show t.place.getD i 0+1=_;rw[qh,F];rfl
   rcases oW (pQ t.place (Ea t (i+1))) i with y|y
   ·have:=aa _ _ _ _ y e F;lia
   ·have eb:pQ t.place (Ea t (i+1))=i:=()
    rw[eb,F]at e;cases e;lia
 ·exact z
 ·have F:t.place[i]?=some t.place[i]:=pY ();have g:=b2 i _ z F;generalize t.place[i]=x at F g;cases i with
  |zero=>simp[Ea]at g
  |succ i =>
   have e0:t.place[i]?=some t.place[i]:=pY ();have gi:Ea t (i+1)=t.place[i]+1:=by show t.place.getD i 0+1=_;rw[qh,e0];rfl
   have:=aa i (i+1) _ _ () e0 F
   lia
theorem bT(hb:w.params.followText "set-order" = false)(ho:s.heap.get? a=some o)(hd:o.data=.set es ep t)(F:t.fits es.size=true)(ti:EC true t)(J:(!t.plain && decide (es.size>1))=false)(hi:i<=es.size)(h:Q (if i<es.size then some ((es.getD i (0,.none)).2,Ea t (i+1)) else none) s):wpAny (model prog w) A (xD a (Ea t i) i ep) Q E s:=by
 have sz:t.place.size=es.size:=by
  unfold oZ.fits at F;simp only[sj,beq_iff_eq]at F;exact F.1
 have aa:t.place.toList.Pairwise (· < ·):=by
  cases O:t.plain with
  |true=>exact ti.Qa O
  |false =>
   rw[O]at J
   have:t.place.toList.length<=1:=by simp at J;rw[qm];lia
   match hl:t.place.toList,this with
   |[],_=>exact yQ
   |[x],_=>exact w8 _ _
 unfold xD;refine oa (uF ho hd F ?_);refine oa (Mn ?_);rw[hb];refine rZ (λz=>by cases z) (λ_=>?_);refine rZ (λz=>absurd z (show ¬((!t.plain && decide (es.size>1))=true) by rw[J];decide)) (λ_=>?_);refine oa ?_;refine rZ (λz=>absurd z (show ¬((!t.led && !es.isEmpty)=true) by rw[ti.led];simp)) (λ_=>ou ?_);rw[Zm aa i ()];refine ou ?_;rcases oW i es.size with z|z
 ·rw[oH z]at h;have e1:es[i]?=some (es.getD i (0,.none)):=by rw[qh,pY z];rfl
  have e2:t.place[i]?=some (t.place.getD i 0):=by rw[qh,pY ()];rfl
  rw[e1,e2];exact h
 ·rw[oC ()]at h;rw[xm z];exact h
theorem ZI(J:w.params.followText "set-order" = true)(F:s.heap.get? a=some o)(hd:o.data=.set es ep t)(O:t.fits es.size=true)(h:Q ((uu (w.params.setOrder a ep) es)[i]?.map λe=>(e.2,0)) s):wpAny (model prog w) A (xD a 0 i ep) Q E s:=by
 unfold xD;refine oa (uF F hd O ?_);refine oa (Mn ?_);rw[J];refine rZ (λ_=>?_) (λz=>absurd rfl z);dsimp only;refine rZ (λz=>absurd z #v[]) (λ_=>?_);unfold setWalk;refine oa (oa (uF F hd O ?_));refine oa (Mn ?_);rw[J];refine rZ (λ_=>?_) (λz=>absurd rfl z);refine oa (zI (ou ?_));exact ou h
theorem bU(J:s.TypeIs (.ref a) "set")(h:Q false s):wpAny (model prog w) A (yu (.ref a)) Q E s:=by
 unfold yu;refine oa (z9 J PySem.F.slot_set_len.lookup ?_);generalize O:("set.__len__":String)=aa
 wp_delta
 rw[show splitId aa=some ("set","__len__") from by subst O;decide +kernel];subst O;refine oa (zJ (T:="set") (b:=true) J (by rw[aaL];kernel_rfl) ?_);refine rZ (λz=>absurd z ∅) (λ_=>rZ (λ_=>?_) (λz=>absurd (by decide +kernel) z));exact oa (wV J (ou h))
abbrev Gy(ys:List Nat):Obj:={ cls:=.type "tuple",data:=.seq (ys.map λy:Nat=>rR (y:Int)).toArray}
theorem cH {Q:Value->oq->Prop}(J:s.heap.get? a=some o)(hx:o.ExactSet)(hd:o.data=.set es ep t)(O:t.fits es.size=true)(hz:es.size<=oR)
  (h1:(!w.params.followText "set-order" && (!t.plain && decide (es.size>1)))=false->Q (.ref s.heap.objs.size) { s with heap:=s.heap.push (Dj (.int 0 0) 0 a es.size ep)})
  (h2:(!w.params.followText "set-order" && (!t.plain && decide (es.size>1)))=true->∀ys d',ys.Perm (oN es.size)->Q (.ref (s.heap.objs.size+1)) { s with heap:=(s.heap.push (Gy ys)).push (Dj (.ref s.heap.objs.size) 0 a es.size ep),drawn:=d'}) :
  wpAny (model prog w) A (zF (.ref a)) Q E s:=by
 have hT:s.TypeIs (.ref a) "set":=⟨o,J,hx.1⟩;refine ab8 hT aaH (sk aaH hT Xd ?_ (PySem.F.args_set_iter_1 _));unfold oY.«frozenset.__iter__»;refine oa (ou ?_);unfold ado;refine oa (oa (vn J hd O (ou ?_)));unfold setDrawn;refine oa (oa (uF J hd O (oa (Mn (ou ?_)))));refine rZ (λz=>?_) (λz=>?_)
 ·have z':(!w.params.followText "set-order" && (!t.plain && decide (es.size>1)))=true:=z;refine oa (SN es.size (oN es.size) s #v[] λys d' p=>?_);have ly:ys.length=es.size:=by rw[p.length_eq,pC]
  unfold newTuple;refine oa (qZ ?_ (by simp only[sizeOk,oD,kb,ly];exact hz));have ab:=oo (Gy ys) J;refine oa (aca (s:={ s with heap:=s.heap.push (Gy ys),drawn:=d'}) ab hd O ?_);unfold newFields;refine oa (qZ (ou ⟨_,G,"set_iterator",_,⟨_,oJ _ rfl,G⟩,Kh.lookup,?_⟩));have aa:=h2 z' ys d' p;have e:(s.heap.push (Gy ys)).objs.size=s.heap.objs.size+1:=rz ..;simp only[e];exact aa
 ·refine oa (ou ?_);refine oa (aca J hd O ?_);unfold newFields;refine oa (qZ (ou ⟨_,G,"set_iterator",_,⟨_,oJ _ rfl,G⟩,Kh.lookup,?_⟩));have z':(!w.params.followText "set-order" && (!t.plain && decide (es.size > 1)))=false:=by
   have:¬(!w.params.followText "set-order" && (!t.plain && decide (es.size>1)))=true:=z
   rwa [acj]at this
  exact h1 z'
variable {tp:Addr}{Q:Option Value->oq->Prop}
theorem YO {ys:List Nat}{y:Nat}{e:Int×Value}(F:s.heap.get? I=some (Dj (.ref tp) i a n ep))(hT:s.heap.get? tp=some (Gy ys))(O:s.heap.get? a=some o)(hd:o.data=.set es ep t)(J:t.fits es.size=true)(hn:es.size=n)(hy:ys[i]?=some y)(he:es[y]?=some e)
  (hQ:∀h',h'.get? I=some (Dj (.ref tp) (i+1) a n ep)->qr I s.heap h'->Q (some e.2) { s with heap:=h'}):wpAny (model prog w) A (vh (.ref I)) Q E s:=by
 refine L4 F ?_;unfold oY.«set_iterator.__next__»;refine oa (ou (oa (yo F rfl ?_)));show wpAny _ _ (aa2 a >>= _) _ _ s;refine oa (vn O hd J ?_);rw[oC (by simp[hn])];show wpAny _ _ (abP (.ref tp) >>= _) _ _ s;refine oa (tH hT rfl ?_);have e1:(ys.map λy:Nat=>rR (y:Int)).toArray[((i:Int)).toNat]?=some (rR (y:Int)):=by
  rw[sN,sT,om,hy];rfl
 dsimp only;rw[e1];show wpAny _ _ (setNextDrawn a ((y:Int).toNat) ((ep:Int).toNat) >>= _) _ _ s;rw[sN,sN];unfold setNextDrawn;refine oa (oa (uF O hd J ?_));refine rZ (λz=>absurd z #v[]) (λ_=>?_);rw[he];refine ou ?_;show wpAny _ _ (zH (.ref I) 1 (rR ((i:Int)+1)) >>= _) _ _ s;refine oa (ue F rfl #v[] (ou ⟨e.2,G,hQ _ ?_ (rM ..)⟩));rw[L9 F 1 (rR ((i:Int)+1))];simp[rR]
theorem ZD {ys:List Nat}(hh:A.handled=none)(F:s.heap.get? I=some (Dj (.ref tp) i a n ep))(hT:s.heap.get? tp=some (Gy ys))(ho:s.heap.get? a=some o)(hd:o.data=.set es ep t)(O:t.fits es.size=true)(hn:es.size=n)(hy:ys[i]?=none)
  (hQ:∀h',uQ I s.heap h'->Q none { s with heap:=h'}):wpAny (model prog w) A (vh (.ref I)) Q E s:=by
 refine L4 F ?_;unfold oY.«set_iterator.__next__»;refine oa (ou (oa (yo F rfl ?_)));show wpAny _ _ (aa2 a >>= _) _ _ s;refine oa (vn ho hd O ?_);rw[oC (by simp[hn])];show wpAny _ _ (abP (.ref tp) >>= _) _ _ s;refine oa (tH hT rfl ?_);have J:(ys.map λy:Nat=>rR (y:Int)).toArray[((i:Int)).toNat]?=none:=by
  rw[sN,sT,om,hy];rfl
 dsimp only;rw[J];show wpAny _ _ (zH (.ref I) 0 (rR 0) >>= _) _ _ s;refine oa (ue F rfl #v[] ?_);have g1:=L9 F 0 (rR 0);show wpAny _ _ (zH (.ref I) 2 .none >>= _) _ _ _;refine oa (ue g1 rfl #v[] ?_);exact SH (A:=A.in1) (h:=s.heap) (I:=I) hh { s with heap:=(s.heap.update I (yM (·.setIfInBounds 0 (rR 0)))).update I (yM (·.setIfInBounds 2 qQ))} ((rM ..).trans (rM ..)).extBut (λob o' h' J e2 e3=>⟨ob,o',J,e2,G,hQ h' e3⟩)
theorem RT{Q:Value->oq->Prop}(J:s.heap.get? I=some (Dj first i a n ep))(h:Q (.ref I) s):wpAny (model prog w) A (zF (.ref I)) Q E s:=by
 have F:s.TypeIs (.ref I) "set_iterator":=⟨_,J,G⟩;refine ab8 F Qr (sk Qr F Xb ?_ (Xf _));show wpAny _ _ (ret (.ref I)) _ _ s;exact ou ⟨_,G,"set_iterator",_,F,Kh.lookup,h⟩
theorem Sm (hh:A.handled=none)(ab:a≠I)(hd:o.data=.set es ep t)(hf:t.fits es.size=true)(hn:es.size=n)(sl:Nat->Nat)(aa:Nat->Value)
  (hN:∀(s:oq),s.heap.get? a=some o->∀i,i<=n->∀(O:qM) (E':Value->oq->Prop) (F:Option (Value×Nat)->oq->Prop),F (if i<n then some (aa i,sl (i+1)) else none) s->wpAny (model prog w) O (xD a (sl i) i ep) F E' s) :
  Walks prog w A I [I,a] [I] n (λi v=>v=aa i) (λi h=>h.get? I=some (Dj (.int (sl i) 0) i a n ep)/\h.get? a=some o) where
 sub:=λb J=>by simp at J;simp[J]
 frame:=λi h h' st hk=>⟨hk I #v[] _ st.1,hk a #v[] _ st.2⟩
 item:=λi s Q E hi st hQ=>by
  refine eM (v:=aa i) (nx:=sl (i+1)) st.1 st.2 hd hf hn (λO E' F q=>hN s st.2 i () O E' F (by rw[oH hi];exact q)) λh' e1 e2=>?_
  exact hQ _ h' s.toks rfl ⟨e1,by rw[e2.2 a ab];exact st.2⟩ λb ob J e=>by rw[e2.2 b (by simpa using J)];exact e
 done:=λs Q E st hQ=>by
  refine gq hh st.1 st.2 hd hf hn (λO E' F q=>hN s st.2 n (oz _) O E' F (by rw[oC (tD _)];exact q)) λh' e1=>?_
  exact hQ h' s.toks λb ob J e=>e1 b ob (by simpa using J) e
 self:=λi s Q E st hQ=>RT st.1 hQ
theorem Ya(hh:A.handled=none)(ab:a≠I)(aa:tp≠I)(hd:o.data=.set es ep t)(hf:t.fits es.size=true)(hn:es.size=n){ys:List Nat}(O:ys.Perm (oN n)):
  Walks prog w A I [I,a,tp] [I] n (λi v=>∃y e,ys[i]?=some y/\es[y]?=some e/\v=e.2) (λi h=>h.get? I=some (Dj (.ref tp) i a n ep)/\h.get? a=some o/\h.get? tp=some (Gy ys)) where
 sub:=λb F=>by simp at F;simp[F]
 frame:=λi h h' st hk=>⟨hk I #v[] _ st.1,hk a #v[] _ st.2.1,hk tp #v[] _ st.2.2⟩
 item:=λi s Q E hi st J=>by
  have ly:ys.length=n:=by rw[O.length_eq,pC]
  have ey:ys[i]?=some ys[i]:=og (by omega);have hy:ys[i]<es.size:=by rw[hn];exact pW.mp (O.mem_iff.mp (qd _))
  have ee:es[ys[i]]?=some es[ys[i]]:=pY hy;refine YO st.1 st.2.2 st.2.1 hd hf hn ey ee λh' e1 e2=>?_
  exact J _ h' s.toks ⟨_,_,ey,ee,G⟩ ⟨e1,by rw[e2.2 a ab];exact st.2.1,by rw[e2.2 tp aa];exact st.2.2⟩ λb ob F e=>by rw[e2.2 b (by simpa using F)];exact e
 done:=λs Q E st J=>by
  have ly:ys.length=n:=by rw[O.length_eq,pC]
  refine ZD hh st.1 st.2.2 st.2.1 hd hf hn (pM (by omega)) λh' e1=>?_
  exact J h' s.toks λb ob F e=>e1 b ob (by simpa using F) e
 self:=λi s Q E st J=>RT st.1 J
open PySem.W
variable {S:Addr}
theorem cW {R:Result->oq->Prop}{Good:List Value->Prop}{res:Value}{c₀:Nat}(hT:s.TypeIs (.ref a) "set")(ad:S≠a)(hS:s.heap.get? S=some { cls:=.type "list",data:=.seq #[] c₀})(hn:n<=oR)
  (aj:∀E':Value->oq->Prop,wpAny (model prog w) A.in1 (zF (.ref a)) (λit s1=>∃(I:Addr) (h1:Heap) (d1:Drawn) (fp:List Addr) (P:Nat->Value->Prop) (St:Nat->Heap->Prop),it=.ref I/\s1={ s with heap:=h1,drawn:=d1}/\Walks prog w A.in1 I fp [I] n P St/\S∉fp/\St 0 h1/\(∀b o,s.heap.get? b=some o->h1.get? b=some o)/\s.heap.get? I=none/\∀O,aax P O n->Good O.toList) E' s)
  (hR:∀h' tk d' O c,(∀b o,b≠S->s.heap.get? b=some o->h'.get? b=some o)->h'.get? S=some { cls:=.type "list",dict:=none,data:=.seq O c,slots:=#[]}->Good O.toList->R (.ok (.ret res)) { s with heap:=h',toks:=tk,drawn:=d'}) :
  wpAny (model prog w) A.in1 (vY (.ref S) (.ref a) res) (λao s'=>match ao with | .done f=>R (.ok f) s' | .again c'=>c'.quiet=true/\vV (model prog w) A c' R s') (λe s'=>R (.error e) s') s:=by
 unfold vY;refine oa (wV (T:="set") hT ?_);have r1:za (.ref S) (.ref a)=false:=by simp[za,ad]
 have r2:(uP "set" == uP "list")=false:=by decide
 have r3:(uP "set" == uP "tuple")=false:=by decide
 simp only[r1,r2,r3,Bool.or_false,uk,wj];refine oa (qR (aj _) (λit s1 x=>?_) λ_ _ z=>z);obtain⟨I,h1,d1,fp,P,St,rfl,rfl,W,ab,st,k1,nI,ae⟩:=x;have S1:=k1 _ _ hS;have ac:∀(h:Heap) (c₁ tk:Nat),St 0 h->(∀b o,b≠S->s.heap.get? b=some o->h.get? b=some o)->h.get? S=some { cls:=.type "list",data:=.seq #[] c₁}->vV (model prog w) A (.builtin "list.extend.loop" ⟨[.ref S,.ref I,res],[]⟩) R { s with heap:=h,toks:=tk,drawn:=d1}:=λh c₁ tk ai hk al=>by
  refine codeAny_extend_loopS W.toS hn S ab res n 0 _ #[] c₁ rfl (o9 _) ai al (aax.nil _) λs' ah c' hm ag af=>?_
  have es:=Moved.eq_with hm;rw[es];refine hR s'.heap s'.toks d1 ah c' (λb o J e=>hm.heap b o (λak=>?_) (hk b o J e)) ag (ae _ af);rcases oG.mp ak with z|z
  ·exact J z
  ·rw[pH.mp z,nI]at e;cases e
 have am:adm { s with heap:=h1,drawn:=d1} (.ref a) "set":=by
  obtain⟨oT,e1,e2⟩:=hT;exact⟨oT,k1 _ _ e1,e2⟩
 refine oa (qW (bU am ?_));refine rZ (λ_=>?_) (λ_=>ou ⟨xp yZ _,ac _ c₀ _ st (λb o _ e=>k1 b o e) S1⟩);refine oa (uj (oa ?_));show wpAny _ _ (updateSeq S (·.push .none) >>= λ_=>updateSeq S (·.pop)) _ _ _;refine oa (wpAny_updateSeq S1 rfl ?_);have S2:=tU (pI (·.push qQ)) S1 rfl;refine wpAny_updateSeq (hz:=by seq_fits) S2 rfl ?_;have S3:=tU (pI (·.pop)) S2 rfl;refine ou ⟨xp yZ _,ac _ _ _ ?_ (λb o J e=>?_) S3⟩
 ·refine W.frame 0 _ _ st λb J o e=>?_
  have aa:b≠S:=λz=>ab (z ▸ J)
  rw[rQ _ _ (qp aa),rQ _ _ (qp aa)];exact e
 ·rw[rQ _ _ (qp J),rQ _ _ (qp J)];exact k1 b o e
theorem UA:∀{l:List (Int×Value)},EI prog w l->sv (l.map (·.2)) (l.map Hy)
 |[],_=>.nil
 |e :: l,h=>by
  obtain⟨k,t,rfl⟩:=h e #v[];exact .cons k t (UA λx F=>h x (by simp[F]))
def LL(ks:List Int)(vs:List Value):Prop:=∃F,sv vs F/\F.Perm ks
theorem Om{l m:List (Int×Value)}(h:EI prog w l)(p:m.Perm l)(q:(l.map Hy).Perm ks):LL ks (m.map (·.2)):=⟨m.map Hy,UA (h.Ct p),(p.map Hy).trans q⟩
theorem OG(h:aax P acc vs.length)(F:∀i v,i<vs.length->P i v->vs[i]?=some v):acc.toList=vs:=by
 refine t5 λi=>?_
 rcases oW i vs.length with z|z
 ·have hi:i<acc.size:=by rw[h.1];exact z
  rw[vO,pY hi];exact(F i _ z (h.2 i _ (pY hi))).symm
 ·rw[pM z,pM (by rw[qm,h.1];exact z)]
theorem Yu(hh:A.handled=none)(x:Ca prog w (Ey w) s.heap a ks)(ad:S<s.heap.objs.size)(ag:S≠a):
  wpAny (model prog w) A (zF (.ref a)) (λit s1=>∃(I:Addr) (h1:Heap) (d1:Drawn) (fp:List Addr) (P:Nat->Value->Prop) (St:Nat->Heap->Prop),it=.ref I/\s1={ s with heap:=h1,drawn:=d1}/\Walks prog w A I fp [I] ks.length P St/\S∉fp/\St 0 h1/\(∀b o,s.heap.get? b=some o->h1.get? b=some o)/\s.heap.get? I=none/\∀aa,aax P aa ks.length->LL ks aa.toList) E s:=by
 obtain⟨o,es,ep,t,ho,ai,hd,ae,hp,hb,O,ti⟩:=x;have F:es.size=ks.length:=by rw[<-Array.length_toList,<-hp.length_eq,kb]
 have la:=oK ho;refine cH ho ai hd O (yV hb) (λz=>?_) (λz ys d' yp=>?_)
 ·have aI:a≠s.heap.objs.size:=o6 la;have ac:S∉[s.heap.objs.size,a]:=by simp only[oG,o3,qN,not_or];exact⟨o6 ad,ag⟩
  have gI:(s.heap.push (Dj (.int 0 0) 0 a es.size ep)).get? s.heap.objs.size=some (Dj (.int 0 0) 0 a es.size ep):=oJ _ rfl;have ga:=oo (Dj (.int 0 0) 0 a es.size ep) ho;cases ab:w.params.followText "set-order" with
  |true =>
   have pp:=OP (w.params.setOrder a ep) es;have ps:(uu (w.params.setOrder a ep) es).size=es.size:=by rw[<-Array.length_toList,pp.length_eq,qm]
   refine⟨_,_,s.drawn,_,_,_,G,G,Sm hh aI hd O F (λ_=>0) (λi=>((uu (w.params.setOrder a ep) es).getD i (0,.none)).2) (λs' af i hi A' E' Q' q=>ZI ab af hd O ?_),ac,⟨by rw[<-F];exact gI,ga⟩,λb ob e=>oo _ e,v5 (oz _),λaa ha=>?_⟩
   ·rcases oW i ks.length with y|y
    ·rw[oH y]at q;have e1:(uu (w.params.setOrder a ep) es)[i]?=some ((uu (w.params.setOrder a ep) es).getD i (0,.none)):=by rw[qh,pY ()];rfl
     rw[e1];exact q
    ·rw[oC ()]at q;rw[xm ()];exact q
   ·have J:((uu (w.params.setOrder a ep) es).toList.map (·.2)).length=ks.length:=by rw[kb,qm,ps,F]
    rw[OG (vs:=(uu (w.params.setOrder a ep) es).toList.map (·.2)) (by rw[J];exact ha) (λi v hi e=>by
     rw[J]at hi;rw[e,om,vO,qh,pY ()];rfl)]
    exact Om ae pp hp
  |false =>
   rw[ab]at z;have z':(!t.plain && decide (es.size>1))=false:=by simpa using z
   have aj:EC true t:=⟨by rw[ti.led];show(!w.params.followText "set-order")=true;rw[ab];rfl,ti.QY,ti.Qa⟩;refine⟨_,_,s.drawn,_,_,_,G,G,Sm hh aI hd O F (Ea t) (λi=>(es.getD i (0,.none)).2) (λs' af i hi A' E' Q' q=>bT ab af hd O aj z' () (by rw[F];exact q)),ac,⟨by rw[<-F];exact gI,ga⟩,λb ob e=>oo _ e,v5 (oz _),λaa ha=>?_⟩;have J:(es.toList.map (·.2)).length=ks.length:=by rw[kb,qm,F]
   rw[OG (vs:=es.toList.map (·.2)) (by rw[J];exact ha) (λi v hi e=>by
    rw[J]at hi;rw[e,om,vO,qh,pY ()];rfl)]
   exact Om ae (yc _) hp
 ·have e1:(s.heap.push (Gy ys)).objs.size=s.heap.objs.size+1:=rz ..;have aI:a≠s.heap.objs.size+1:=o6 (tM la);have tI:s.heap.objs.size≠s.heap.objs.size+1:=o6 (vc _);have ac:S∉[s.heap.objs.size+1,a,s.heap.objs.size]:=by simp only[oG,o3,qN,not_or];exact⟨o6 (tM ad),ag,o6 ad⟩
  have ah:ys.Perm (oN ks.length):=by rw[<-F];exact yp
  have gI:((s.heap.push (Gy ys)).push (Dj (.ref s.heap.objs.size) 0 a es.size ep)).get? (s.heap.objs.size+1)=some (Dj (.ref s.heap.objs.size) 0 a es.size ep):=by rw[<-e1];exact oJ _ rfl
  refine⟨_,_,d',_,_,_,G,G,Ya (tp:=s.heap.objs.size) hh aI tI hd O F ah,ac,⟨by rw[<-F];exact gI,oo _ (oo _ ho),oo _ (oJ _ rfl)⟩,λb ob e=>oo _ (oo _ e),v5 (aae _),λaa ha=>?_⟩;have ly:ys.length=ks.length:=by rw[ah.length_eq,pC]
  have pm:(ys.filterMap λy=>es[y]?).Perm es.toList:=(yp.filterMap _).trans (by rw[filterMap_getElem?_range]);have em:∀l:List Nat,(∀y∈l,y<es.size)->l.filterMap (λy=>es[y]?)=l.map λy=>es.getD y (0,.none):=by
   intro l
   induction l with
   |nil=>intro _;rfl
   |cons y l ih =>
    intro hl;have e0:es[y]?=some (es.getD y (0,.none)):=by rw[qh,pY (hl y #v[])];rfl
    rw[vk,e0,oP];exact congrArg _ (ih λx hx=>hl x (by simp[hx]))
  rw[em ys λy hy=>pW.mp (yp.mem_iff.mp hy)]at pm;have J:((ys.map λy=>es.getD y (0,.none)).map (·.2)).length=ks.length:=by rw[kb,kb,ly]
  rw[OG (vs:=(ys.map λy=>es.getD y (0,.none)).map (·.2)) (by rw[J];exact ha) (λi v hi e=>by
   obtain⟨y,q,e1,e2,rfl⟩:=e;rw[om,om,e1];show some (es.getD y (0,.none)).2=_;rw[qh,e2];rfl)]
  exact Om ae pm hp
end
end L2
namespace L2
open PySem PySem.Spec PyProof.Rows PySem.W
section
variable {prog:pG}{w:World}{A:qM}{E:Value->oq->Prop}{s:oq}{a:Addr}
theorem Ca.keep(x:Ca prog w b h a ks)(k:∀o,h.get? a=some o->h'.get? a=some o):Ca prog w b h' a ks:=by
 obtain⟨o,es,ep,t,F,rest⟩:=x;exact⟨o,es,ep,t,k o F,rest⟩
theorem Ca.type(x:Ca prog w b s.heap a ks):s.TypeIs (.ref a) "set":=by
 obtain⟨o,es,ep,t,F,J,_⟩:=x;exact⟨o,F,J.1⟩
theorem Xy {R:List Value->oq->Prop}{ks:List Int}(hh:A.handled=none)(x:Ca prog w (Ey w) s.heap a ks)(hn:ks.length<=oR)
  (h:∀(h':Heap) (tk:Nat) (d':Drawn) (vs:List Value),(∀b o,s.heap.get? b=some o->h'.get? b=some o)->s.heap.objs.size<h'.objs.size->LL ks vs->R vs { s with heap:=h',toks:=tk,drawn:=d'}):wpAny (model prog w) A (collect (.ref a)) R E s:=by
 have la:a<s.heap.objs.size:=by
  obtain⟨o,_,_,_,ho,_⟩:=x;exact oK ho
 unfold collect;refine oa (aaQ (tZ aa1 ?_));rw[uG PySem.F.plain_proto_collect _];show wpAny _ A.in1 (newList [] >>= λl=>again (.builtin "list.__iadd__" ⟨[l,.ref a],[]⟩)) _ _ s;refine oa (qZ (ou ⟨xp zR _,tZ entry_list_iadd' ?_⟩));rw[uG zR _];have gS:(s.heap.push { cls:=.type "list",data:=.seq ([]:List Value).toArray}).get? s.heap.objs.size=some { cls:=.type "list",data:=.seq #[]}:=oJ _ rfl;show wpAny _ A.in1 (vY (.ref s.heap.objs.size) (.ref a) (.ref s.heap.objs.size)) _ _ _;have x1:Ca prog w (Ey w) (s.heap.push { cls:=.type "list",data:=.seq ([]:List Value).toArray}) a ks:=x.keep λo e=>oo _ e
 have ls:s.heap.objs.size<(s.heap.push { cls:=.type "list",data:=.seq ([]:List Value).toArray}).objs.size:=by rw[rz];exact vc _
 have go:=cW (A:=A) (s:={ s with heap:=s.heap.push { cls:=.type "list",data:=.seq ([]:List Value).toArray}}) (a:=a) (S:=s.heap.objs.size) (n:=ks.length) (Good:=LL ks) (res:=.ref s.heap.objs.size) (c₀:=0)
  (R:=λ(q:Result) (s':oq)=>∃(h':Heap) (tk:Nat) (d':Drawn) (J:Array Value) (c:Nat),q=.ok (.ret (.ref s.heap.objs.size))/\s'={ s with heap:=h',toks:=tk,drawn:=d'}/\(∀b o,s.heap.get? b=some o->h'.get? b=some o)/\h'.get? s.heap.objs.size=some { cls:=.type "list",dict:=none,data:=.seq J c,slots:=#[]}/\LL ks J.toList)
  (Ca.type (s:={ s with heap:=s.heap.push { cls:=.type "list",data:=.seq ([]:List Value).toArray}}) x1) (rK la) gS hn (λE'=>Yu (A:=A.in1) (s:={ s with heap:=s.heap.push { cls:=.type "list",data:=.seq ([]:List Value).toArray}}) hh x1 ls (rK la))
  (λh' tk d' J c k1 O k3=>⟨h',tk,d',J,c,G,G,λb o e=>k1 b o (o6 (oK e)) (oo _ e),O,k3⟩)
 refine qR go (λaa s' y=>?_) λe s' y=>?_
 ·cases aa with
  |done f =>
   obtain⟨h',tk,d',J,c,e,rfl,k1,O,k3⟩:=y;cases e;show wpAny _ A (load s.heap.objs.size >>= _) _ _ _;exact oa (aa3 O (ou (h h' tk d' J.toList k1 (oK O) k3)))
  |again c₁ =>
   refine⟨y.1,vW y.2 λq s₂ y=>?_⟩;obtain⟨h',tk,d',J,c,rfl,rfl,k1,O,k3⟩:=y;show wpAny _ A (load s.heap.objs.size >>= _) _ _ _;exact oa (aa3 O (ou (h h' tk d' J.toList k1 (oK O) k3)))
 ·obtain⟨_,_,_,_,_,e',_⟩:=y;cases e'
theorem Yb {ks:List Int}{Q:Value->oq->Prop}(hh:A.handled=none)(x:Ca prog w (Ey w) s.heap a ks)(aa:ks.length<64)
  (h:∀(D:Addr) (h':Heap) (tk:Nat) (d':Drawn) (out:Array Value) (e:Nat) (J:List Int),(∀b o,s.heap.get? b=some o->h'.get? b=some o)->s.heap.objs.size<=D->h'.get? D=some (pj "list" out e)->sv out.toList J->J.Perm ks->J.Pairwise (·<=·)->Q (.ref D) { s with heap:=h',toks:=tk,drawn:=d'}) :
  wpAny (model prog w) A (call (.builtin "sorted") [.ref a]) Q E s:=by
 refine Calls.call_function_entry acg abN abK (args_sorted1 _) ?_;unfold oY.«sorted»;refine oa (m:=acY "sorted" 1 1 _) (ou (oa (Xy (A:=A.in1) hh x (by rw[pD];lia) λh1 tk d1 vs k1 lh gd=>?_)));obtain⟨ns,hI,hP⟩:=gd;have lv:vs.length<64:=by rw[hI.length,hP.length_eq];exact aa
 refine oa (wo ?_ (by rw[pD];lia));have O:(h1.push (pj "list" vs.toArray 0)).get? h1.objs.size=some (pj "list" vs.toArray 0):=oJ _ rfl;refine oa (qW (sk aaM ⟨_,O,G⟩ zY (list_sort_tree O hI lv λout ab a1 a2 a3=>⟨_,G,ou ⟨_,G,?_⟩⟩) (args_list_sort _)));obtain⟨e,he⟩:=sortedHeap_at (out:=out) O;refine h _ _ _ d1 out e ab (λb o eb=>?_) (va lh) he a1 (a2.trans hP) a3;have F:=k1 b o eb;rw[sortedHeap_old (o6 (oK F)) (by rw[rz];exact tM (oK F))];exact oo _ F
end
section
variable {X:Cx}
theorem ZJ(I:AI X ge σ H s)(d:Drawn):AI X ge σ H { s with drawn:=d}:=⟨I.ok,I.os,I.C5,I.base,I.D4,I.cell,I.free,I.FH,I.pin,I.AY,I.len⟩
def KI(P:pG)(w:World)(a:Addr)(ks:List Int):HO:=.ext λh=>Ca P w (Ey w) h a ks
theorem gY(x:Ca P w (Ey w) h a ks):BP P w H h a (KI P w a ks) :=
 ⟨x,let ⟨o,_,_,_,ho,_⟩:=x;⟨o,ho⟩,λ_ _ y k=>y.keep λo e=>k o e⟩
theorem ZQ(O:X.B9=true):Cr X (.type "set") (λxs H Q=>∃(p:Addr) (ns:List Int),xs=[.ref p]/\AJ X.K H p (ns.map V.int)/\ns.length<=1000/\∀a,H a=none->Q (.ref a) (AG H a (KI X.prog X.w a (C3 ns)))):=by
 intro ge s σ H xs us Q I r h;obtain⟨p,ns,rfl,hp,hl,q⟩:=h;obtain⟨u,rfl,J⟩:=FI r;cases J;obtain⟨its,F,pl,_⟩:=I.list hp;have aa:its.length=ns.length:=by rw[<-F.length,kb]
 refine ZP (I.ok.hd O) pl.isList (ns:=ns) (by simpa using L0 F) (by rw[oD,aa];unfold xC;lia) λh' tk x k=>?_
 have hn:H s.heap.objs.size=none:=I.AY.fresh (oz _);exact⟨.ref s.heap.objs.size,_,I.laid (t':=tk) (λb u e=>k b u e) (oz _) (gY x),G,q _ hn⟩
theorem Yj(hc:X.B9=true):Cr X (.builtin "sorted") (λxs H Q=>∃(a:Addr) (ks:List Int),xs=[.ref a]/\H a=some (KI X.prog X.w a ks)/\ks.length<64/\∀(l:Addr) (F:List Int),H l=none->F.Perm ks->F.Pairwise (·<=·)->Q (.ref l) (AG H l (.AE (F.map V.int)))):=by
 intro ge s σ H xs us Q I r h;obtain⟨a,ks,rfl,ha,aa,q⟩:=h;obtain⟨u,rfl,r1⟩:=FI r;cases r1;have x:Ca X.prog X.w (Ey X.w) s.heap a ks:=(I.AY a _ ha).1;refine Yb (I.ok.hd hc) x aa λD h' tk d' out e F k O he a1 J a3=>?_
 have hz:(F.map V.int).length<=oR:=by rw[kb,J.length_eq,pD];lia
 have hn:H D=none:=I.AY.fresh O;exact⟨.ref D,_,ZJ (I.laid (t':=tk) (λb u e=>k b u e) O (show BP X.prog X.w _ _ _ (.AE (F.map V.int)) from ⟨hz,out.toList,e,fO a1,he⟩)) d',G,q _ F hn J a3⟩
end
section
variable {X:Cx}
theorem MF:∀{bs:List Addr} {F:List Value},Af (bs.map V.ref) F->F=bs.map qA
 |[],_,.nil=>rfl
 |b :: r,_,.cons (b:=u) h t=>by
  have h':u=qA b:=h;rw[h',MF t];rfl
variable {n:Nat}{lt:Nat->Nat->Bool}{cmp:Nat->Nat->(Bool->oq->Prop)->oq->Prop}{s:oq}{p:Array Nat}
structure B7(n:Nat)(p:Array Nat):Prop where
 pm:p.toList.Perm (oN n)
 sz:p.size=n
 below:∀k,k<n->p.getD k 0<n
 inj:∀i j,i<n->j<n->p.getD i 0=p.getD j 0->i=j
theorem dW(h:k<p.size):p[k]?=some (p.getD k 0):=by
 rw[pY h];simp[h]
theorem Eg{q:Array Nat}(F:j<p.size)(e:q[k]?=p[j]?):q.getD k 0=p.getD j 0:=by
 rw[dW F]at e;simp only[qh,e];rfl
theorem N8(g:B7 n p)(hq:q.Perm p)(hs:q.size=p.size)(f:Nat->Nat)(J:∀k,k<n->f k<n)(fi:∀i j,i<n->j<n->f i=f j->i=j)(e:∀k,k<n->q.getD k 0=p.getD (f k) 0):B7 n q :=
 ⟨(yD.mp hq).trans g.pm,by rw[hs,g.sz],λk O=>by rw[e k O];exact g.below _ (J k O),λi j hi F h=>by
  rw[e i hi,e j F]at h;exact fi i j hi F (g.inj _ _ (J i hi) (J j F) h)⟩
theorem K3(g:B7 n p)(F:m<=n)(J:k<n):(wA p 0 m).getD k 0=p.getD (if k<m then m-1-k else k) 0:=by
 have e:=abl (xs:=p) (i:=0) (j:=m) (by rw[g.sz];exact F) k;unfold wA;split
 ·rename_i h
  rw[oH ⟨o9 _,h⟩,vd]at e;exact Eg (by rw[g.sz];omega) e
 ·rename_i h
  rw[oC (λz=>h z.2)]at e;exact Eg (by rw[g.sz];omega) e
theorem SX(g:B7 n p)(J:m<=n):B7 n (wA p 0 m) :=
 N8 g (mirror_perm _ _ _ _) (mirror_size _ _ _ _) (λk=>if k<m then m-1-k else k) (λk F=>by (try dsimp only);split<;>omega) (λi j hi O h=>by
  try dsimp only at h
  split at h<;>split at h<;>omega) λk F=>K3 g J F
theorem PZ(g:B7 n p)(F:k<n)(J:l<=k)(hi:i<n):(bubble p k (k-l)).getD i 0=p.getD (if i=l then k else if l<i/\i<=k then i-1 else i) 0:=by
 have e:=getElem?_bubble (xs:=p) (src:=k) (by rw[g.sz];exact F) (k-l) () i;rw[show k-(k-l)=l by lia]at e;split
 ·rename_i h
  rw[oH h]at e;exact Eg (by rw[g.sz];lia) e
 ·rename_i h
  rw[oC h]at e;split
  ·rename_i h2
   rw[oH h2]at e;exact Eg (by rw[g.sz];lia) e
  ·rename_i h2
   rw[oC h2]at e;exact Eg (by rw[g.sz];lia) e
theorem bQ(g:B7 n p)(F:k<n)(J:l<=k):B7 n (bubble p k (k-l)) :=
 N8 g (bubble_perm _ _ _) (bubble_size _ _ _) (λi=>if i=l then k else if l<i/\i<=k then i-1 else i) (λi hi=>by (try dsimp only);split<;>(try split)<;>lia) (λi j hi O h=>by
  try dsimp only at h
  split at h<;>split at h<;>(try split at h)<;>(try split at h)<;>lia) λi hi=>PZ g F J hi
def Cm:List Int->List Int->Bool
 |[],[]=>false
 |[],_ :: _=>true
 |_ :: _,[]=>false
 |x :: xs,y :: ys=>if x=y then Cm xs ys else decide (x<y)
theorem Ra:∀{a b:List Int},Cm a b=true->Cm b a=false
 |[],[],h=>by cases h
 |[],_ :: _,_=>rfl
 |_ :: _,[],h=>by cases h
 |x :: xs,y :: ys,h=>by
  unfold Cm at h ⊢;by_cases e:x=y
  ·rw[oH e]at h;rw[oH e.symm];exact Ra h
  ·rw[oC e]at h;rw[oC (λz=>e z.symm)]
   have:=tr.mp h
   exact qu (by omega)
theorem Q8:∀{a b c:List Int},Cm a b=true->Cm b c=true->Cm a c=true
 |[],[],_,h,_=>by cases h
 |[],_ :: _,[],_,h=>by cases h
 |[],_ :: _,_ :: _,_,_=>rfl
 |_ :: _,[],_,h,_=>by cases h
 |_ :: _,_ :: _,[],_,h=>by cases h
 |x :: xs,y :: ys,z :: zs,h,g=>by
  unfold Cm at h g ⊢;by_cases e:x=y
  ·rw[oH e]at h;by_cases F:y=z
   ·rw[oH F]at g;rw[oH (e.trans F)];exact Q8 h g
   ·rw[oC F]at g;rw[oC (λq=>F (e.symm.trans q)),e];exact g
  ·rw[oC e]at h;have h':=tr.mp h;by_cases F:y=z
   ·rw[oC (λq=>e (q.trans F.symm)),<-F];exact h
   ·rw[oC F]at g;have g':=tr.mp g;rw[oC (by omega)];exact qC (by omega)
theorem SK:∀{a b:List Int},a≠b->Cm a b=true\/Cm b a=true
 |[],[],h=>absurd rfl h
 |[],_ :: _,_=>.inl rfl
 |_ :: _,[],_=>.inr rfl
 |x :: xs,y :: ys,h=>by
  unfold Cm;by_cases e:x=y
  ·rw[oH e,oH e.symm];exact SK λz=>h (by rw[e,z])
  ·rw[oC e,oC (λz=>e z.symm)];rcases Int.lt_trichotomy x y with z|z|z
   ·exact .inl (qC z)
   ·exact absurd z e
   ·exact .inr (qC z)
variable {prog:pG}{w:World}{A:qM}{E:Value->oq->Prop}
theorem Sh:∀{xs ys:List Value} {ns F:List Int} (i:Nat),sv xs ns->sv ys F->Q (Cm ns F) s->KatLex prog w A b (decide (xs.length<ys.length)) Q (xs.zip ys) i s
 |[],[],_,_,i,hx,hy,h=>by
  cases hx;cases hy;exact kat_nil h
 |[],_ :: _,_,_,i,hx,hy,h=>by
  cases hx;cases hy with
  |cons=>exact kat_nil h
 |_ :: _,[],_,_,i,hx,hy,h=>by
  cases hy;cases hx with
  |cons=>exact kat_nil h
 |x :: xs,y :: ys,_,_,i,hx,hy,h=>by
  cases hx with
  |@cons m t _ ns' hx' =>
  cases hy with
  |@cons m' t' _ ms' hy' =>
  refine kat_cons (wpAny_eqBool_int ?_);have J:decide ((vZ m t :: xs).length<(vZ m' t' :: ys).length)=decide (xs.length<ys.length):=by
   rw[decide_eq_decide];simp
  rw[J];unfold Cm at h;refine kat_go (λe=>kat_yes (Sh (i+1) hx' hy' ?_)) (λe=>kat_no ?_)
  ·rw[oH (by simpa using e)]at h;exact h
  ·rw[oC (by simpa using e)]at h;cases O:(b && i == 0)with
   |true=>exact oneLt_int h
   |false=>exact kat_one _ _ (lt_int h)
def NA(h:Heap)(bs:List Addr)(rows:List (List Int)):Prop:=bs.length=rows.length/\∀(i:Nat) (b:Addr) (r:List Int),bs[i]?=some b->rows[i]?=some r->r≠[]/\∃xs:List Value,IsTup h b xs.toArray/\sv xs r
theorem NA.UP:∀{bs:List Addr} {rows:List (List Int)},NA h bs rows->∃fs:List Value,KatTups h (bs.map qA) fs/\fs.length=bs.length/\∀v∈fs,∃i t,v=vZ i t
 |[],rows,x=>⟨[],.nil,G,λv hv=>by cases hv⟩
 |b :: bs,[],x=>by have:=x.1;cases this
 |b :: bs,r :: rows,x=>by
  obtain⟨ne,xs,⟨o,O,e2,n,J⟩,hi⟩:=x.2 0 b r rfl rfl;obtain⟨fs,k,l,t⟩:=NA.UP (bs:=bs) (rows:=rows) ⟨by have:=x.1;simpa using this,λi b' F h1 h2=>x.2 (i+1) b' F (by simpa using h1) (by simpa using h2)⟩;cases hi with
  |nil=>exact absurd rfl ne
  |@cons m tk vs' ns' hr =>
   refine⟨.int m tk :: fs,.cons O e2 J #v[] k,by simp[l],λv hv=>?_⟩;rcases oG.mp hv with rfl|hv
   ·exact⟨_,_,G⟩
   ·exact t v hv
end
end L2
namespace L2
open PySem PySem.Spec PyProof.Rows
theorem cE(I:AI X ge σ H s)(h:H b=some (.AF (r.map V.int))):∃xs:List Value,IsTup s.heap b xs.toArray/\sv xs r:=by
 obtain⟨its,F,tp,_⟩:=I.tuple (AH.of (K:=X.K) h);exact⟨its,tp,L0 F⟩
end L2
namespace L2
open PySem PySem.Spec PyProof.Rows PySem.W
section
variable {prog:pG}{w:World}{A:qM}{E:Value->oq->Prop}{s:oq}
theorem YU {l J:Addr}{vs:List Value}{Q:Value->oq->Prop}(hl:s.heap.IsList l vs.toArray)(ab:vs.length<64)
  (h:∀s':oq,(∀b o,s.heap.get? b=some o->s'.heap.get? b=some o)->s'.heap.get? (s.heap.objs.size+1)=some (pj "list" vs.toArray 0)->s'={ s with heap:=s'.heap} →
   wpAny (model prog w) A.in1.in1 (zD (s.heap.objs.size+1) (.ref J) false) (λf F=>f=.done (.ret .none)/\Q (.ref (s.heap.objs.size+1)) F) E s'):wpAny (model prog w) A (call (.builtin "sorted") [.ref l] [(tq "key",.ref J)]) Q E s:=by
 refine aak acg abN abK (ksk_s1 _ _) ?_;unfold oY.«sorted»;refine oa (m:=acY "sorted" 1 1 _) (ou ?_);refine oa (collect_list hl ?_ (by rw[pD];lia));refine oa (wo ?_ (by rw[pD];lia));have sz:((s.heap.push (pj "list" #[] 0)).update s.heap.objs.size (pI (·++vs.toArray))).objs.size=s.heap.objs.size+1:=by rw[Heap.size_update,size_push']
 have hL:(((s.heap.push (pj "list" #[] 0)).update s.heap.objs.size (pI (·++vs.toArray))).push (pj "list" vs.toArray 0)).get? (s.heap.objs.size+1)=some (pj "list" vs.toArray 0):=by rw[<-sz];exact oJ _ rfl
 show wpAny _ _ _ _ _ { s with heap:=((s.heap.push (pj "list" #[] 0)).update s.heap.objs.size (pI (·++vs.toArray))).push (pj "list" vs.toArray 0)};rw[sz];have aa:∀b o,s.heap.get? b=some o->(((s.heap.push (pj "list" #[] 0)).update s.heap.objs.size (pI (·++vs.toArray))).push (pj "list" vs.toArray 0)).get? b=some o:=λb o q=>by
  have O:b<s.heap.objs.size:=oK q;rw[abY _ _ _ (by rw[sz];exact o6 (tM O)),xX _ _ _ _ (o6 O),abY _ _ _ (o6 O)];exact q
 refine oa (qW (abm aaM ⟨_,hL,G⟩ zY (qR (?body:wpAny (model prog w) A.in1.in1 (oY.«list.sort» ⟨[.ref (s.heap.objs.size+1)],[(tq "key",.ref J)]⟩) (λf F=>f=.done (.ret .none)/\Q (.ref (s.heap.objs.size+1)) F) E _) ?_ λ_ _ e=>e) (ksk_l1 _ _)))
 case body =>
  rw[ksk_t1];exact h _ aa hL rfl
 rintro f F ⟨rfl,hq⟩;exact⟨_,G,ou ⟨_,G,hq⟩⟩
end
def WT(sp:Sp)(H:Hp)(x:V)(r:List Int):Prop:=∀H2,AK H H2->∀J:VK,(∀p F,AK H2 F->F p=some (.AF (r.map V.int))->J (.ref p) F)->sp [x] H2 J E0
section
variable {X:Cx}{ge:List (Addr×Obj)}{σ:St}{H:Hp}{s:oq}
theorem Oo(r:Af xs its){i:Nat}(h:its[i]?=some u):∃x,xs[i]?=some x/\Ao x u:=by
 induction r generalizing i with
 |nil=>cases h
 |cons a _ ih =>
  cases i with
  |zero=>cases h;exact⟨_,G,a⟩
  |succ i=>exact ih (by simpa using h)
end
structure GN(lt:Nat->Nat->Bool):Prop where
 Hx:∀i j,lt i j=true->lt j i=false
 XQ:∀i j k,lt i k=true->lt i j=true\/lt j k=true
section
variable {n:Nat}{lt:Nat->Nat->Bool}{cmp:Nat->Nat->(Bool->oq->Prop)->oq->Prop}{s:oq}{p:Array Nat}
theorem GN.no(L:GN lt)(h1:lt i j=false)(h2:lt j k=false):lt i k=false:=by
 cases e:lt i k with
 |false=>rfl
 |true =>
  rcases L.XQ i j k e with z|z
  ·rw[h1]at z;cases z
  ·rw[h2]at z;cases z
def FR(lt:Nat->Nat->Bool)(p:Array Nat)(m:Nat):Prop:=∀i j,i<j->j<m->lt (p.getD j 0) (p.getD i 0)=false
def HK(lt:Nat->Nat->Bool)(p:Array Nat)(m:Nat):Prop:=∀i j,i<j->j<m->lt (p.getD i 0) (p.getD j 0)=false
def Nu(lt:Nat->Nat->Bool)(p:Array Nat)(l m:Nat):Prop:=∀i j,l<=i->i<m->l<=j->j<m->lt (p.getD i 0) (p.getD j 0)=false
theorem MR(g:B7 n p)(F:m<=n)(J:k<n):(wA p l m).getD k 0=p.getD (if l<=k/\k<m then l+m-1-k else k) 0:=by
 have e:=abl (xs:=p) (i:=l) (j:=m) (by rw[g.sz];exact F) k;unfold wA;split
 ·rename_i h
  rw[oH h]at e;exact Eg (by rw[g.sz];omega) e
 ·rename_i h
  rw[oC h]at e;exact Eg (by rw[g.sz];omega) e
theorem Ri(g:B7 n p)(J:m<=n):B7 n (wA p l m) :=
 N8 g (mirror_perm _ _ _ _) (mirror_size _ _ _ _) (λk=>if l<=k/\k<m then l+m-1-k else k) (λk F=>by (try dsimp only);split<;>omega) (λi j hi O h=>by
  try dsimp only at h
  split at h<;>split at h<;>omega) λk F=>MR g J F
theorem Td(g:B7 n p)(J:m<=n)(d:HK lt p m)(e:Nu lt p l m):HK lt (wA p l m) m:=λi j O F=>by
 rw[MR g J (by omega),MR g J (by omega)];by_cases h1:l<=i
 ·rw[oH ⟨h1,by omega⟩,oH ⟨by omega,F⟩];exact e _ _ (by omega) (by omega) (by omega) (by omega)
 ·rw[oC (λz=>h1 z.1)];by_cases h2:l<=j
  ·rw[oH ⟨h2,F⟩];exact d _ _ (by omega) (by omega)
  ·rw[oC (λz=>h2 z.1)];exact d _ _ O F
theorem fB(g:B7 n p)(F:m<=n)(d:HK lt p m):FR lt (wA p 0 m) m:=λi j O J=>by
 rw[K3 g F (k:=j) (by omega),K3 g F (k:=i) (by omega),oH J,oH (show i<m by omega)];exact d _ _ (by omega) (by omega)
theorem PF(F:∀i j C,i<n->j<n->C (lt i j) s->cmp i j C s)(g:B7 n p)(L:GN lt):∀(f a:Nat) {Q:Nat->oq->Prop},1<=a->a+f<=n->FR lt p a →
  (∀m,a<=m->m<=a+f->FR lt p m->(m=a+f\/lt (p.getD m 0) (p.getD (m-1) 0)=true)->Q m s)->(kas_asc p f a).kasWp cmp Q s
 |0,a,Q,_,_,u,q=>q a (oz _) (oz _) u (.inl rfl)
 |f+1,a,Q,a1,af,u,q=>by
  show cmp _ _ _ s;refine F _ _ _ (g.below _ ()) (g.below _ ()) ?_;cases e:lt (p.getD a 0) (p.getD (a-1) 0)with
  |true=>exact q a (oz _) () u (.inr e)
  |false =>
   refine PF F g L f (a+1) () () (λi j J hj=>?_) (λm h1 h2 h3 O=>q m () () h3 (by rcases O with z|z;exact .inl ();exact .inr z));rcases oW j a with z|z
   ·exact u i j J z
   ·obtain rfl:j=a:=()
    rcases oW i (j-1)with y|y
    ·exact L.no e (u i (j-1) y ())
    ·obtain rfl:i=j-1:=()
     exact e
theorem MC(hc:∀i j C,i<n->j<n->C (lt i j) s->cmp i j C s)(L:GN lt):∀(f a t:Nat) (p:Array Nat) {Q:Array Nat×Nat×Nat->oq->Prop},B7 n p->1<=a->a+f<=n->t+1<=a->HK lt p a->Nu lt p (a-(t+1)) a →
  (∀m F t',1<=m->m<=a+f->t' + 1<=m->B7 n F->HK lt F m->Nu lt F (m-(t' + 1)) m->Q (F,m,t') s)->(zC f p a t).kasWp cmp Q s
 |0,a,t,p,Q,g,a1,_,ta,d,eq,q=>q a p t a1 (oz _) ta g d eq
 |f+1,a,t,p,Q,g,a1,af,ta,d,eq,q=>by
  show cmp _ _ _ s;refine hc _ _ _ (g.below _ ()) (g.below _ ()) ?_;cases e:lt (p.getD a 0) (p.getD (a-1) 0)with
  |true =>
   have nx:lt (p.getD (a-1) 0) (p.getD a 0)=false:=L.Hx _ _ e;have ab:∀{F:Array Nat},B7 n F->HK lt F a->F.getD a 0=p.getD a 0->(∀i,i<a->∃j,j<a/\F.getD i 0=p.getD j 0)->HK lt F (a+1):=λ{F} g' d' ea ei i j aa hj=>by
    rcases oW j a with z|z
    ·exact d' i j aa z
    ·obtain rfl:j=a:=()
     obtain⟨k,hk,ek⟩:=ei i aa;rw[ea,ek];rcases oW k (j-1)with y|y
     ·exact L.no (d k (j-1) y ()) nx
     ·obtain rfl:k=j-1:=()
      exact nx
   have ac:∀{F:Array Nat},Nu lt F (a+1-(0+1)) (a+1):=λ{F} i j h1 h2 O J=>by
    obtain rfl:i=a:=()
    obtain rfl:j=i:=()
    cases z:lt (F.getD j 0) (F.getD j 0)with
    |false=>rfl
    |true=>have:=L.Hx _ _ z;rw[z]at this;cases this
   by_cases ht:t>0
   ·show(if t>0 then zC f (wA p (a-(t+1)) a) (a+1) 0 else zC f p (a+1) 0).kasWp cmp Q s;rw[oH ht];have g':=Ri g (l:=a-(t+1)) (m:=a) ();have ra:∀k,k<n->_:=λk hk=>MR g (l:=a-(t+1)) (m:=a) () (k:=k) hk
    refine MC hc L f (a+1) 0 _ g' () () () (ab g' (Td g () d eq) ?_ λi hi=>?_) ac (λm F t' h1 h2 O J h5 h6=>q m F t' h1 () O J h5 h6)
    ·rw[ra a (),oC ()]
    ·refine⟨_,?_,ra i ()⟩;split<;>lia
   ·show(if t>0 then zC f (wA p (a-(t+1)) a) (a+1) 0 else zC f p (a+1) 0).kasWp cmp Q s;rw[oC ht];exact MC hc L f (a+1) 0 p g () () () (ab g d rfl λi hi=>⟨i,hi,G⟩) ac (λm F t' h1 h2 O J h5 h6=>q m F t' h1 () O J h5 h6)
  |false =>
   show cmp _ _ _ s;refine hc _ _ _ (g.below _ ()) (g.below _ ()) ?_;cases e2:lt (p.getD (a-1) 0) (p.getD a 0)with
   |true=>exact q a p t a1 () ta g d eq
   |false =>
    show(zC f p (a+1) (t+1)).kasWp cmp Q s;have la:∀i,a-(t+1)<=i->i<a->lt (p.getD i 0) (p.getD a 0)=false/\lt (p.getD a 0) (p.getD i 0)=false:=λi h1 h2 =>
     ⟨L.no (eq i (a-1) h1 h2 () ()) e2,L.no e (eq (a-1) i () () h1 h2)⟩
    refine MC hc L f (a+1) (t+1) p g () () () (λi j aa hj=>?_) (λi j h1 h2 O J=>?_) (λm F t' h1 h2 O J h5 h6=>q m F t' h1 () O J h5 h6)
    ·rcases oW j a with z|z
     ·exact d i j aa z
     ·obtain rfl:j=a:=()
      rcases oW i (j-1)with y|y
      ·exact L.no (d i (j-1) y ()) e2
      ·obtain rfl:i=j-1:=()
       exact e2
    ·rcases oW i a with zi|zi
     ·rcases oW j a with zj|zj
      ·exact eq i j () zi () zj
      ·obtain rfl:j=a:=()
       exact(la i () zi).1
     ·obtain rfl:i=a:=()
      rcases oW j i with zj|zj
      ·exact(la j () zj).2
      ·obtain rfl:j=i:=()
       cases z:lt (p.getD j 0) (p.getD j 0)with
       |false=>rfl
       |true=>have:=L.Hx _ _ z;rw[z]at this;cases this
theorem So(hc:∀i j C,i<n->j<n->C (lt i j) s->cmp i j C s)(g:B7 n p)(L:GN lt)(k1:1<=k)(kn:k+1<=n)(d:HK lt p (k+1))(q:∀m J,1<=m->m<=n->B7 n J->FR lt J m->Q (m,J) s):(abL k n p).kasWp cmp Q s:=by
 unfold abL;rw[wF];refine MC hc L (n-(k+1)) (k+1) 0 p g () () () d (λi j h1 h2 h3 h4=>?_) λm J t' m1 mn tm g' d' e'=>?_
 ·obtain rfl:i=k:=()
  obtain rfl:j=i:=()
  cases z:lt (p.getD j 0) (p.getD j 0)with
  |false=>rfl
  |true=>have:=L.Hx _ _ z;rw[z]at this;cases this
 try dsimp only
 have ab:∀F:Array Nat,B7 n F->HK lt F m->(kas_tail3 m n F).kasWp cmp Q s:=λF aa ac=>by
  unfold kas_tail3;rw[wF];have gr:=SX aa (m:=m) ();refine PF hc gr L (n-m) m m1 () (fB aa () ac) λm' h1 h2 u' _=>?_
  exact q m' _ () () gr u'
 by_cases O:t' > 0
 ·rw[oH O];exact ab _ (Ri g' ()) (Td g' () d' e')
 ·rw[oC O];exact ab _ g' d'
theorem ZK(F:∀i j C,i<n->j<n->C (lt i j) s->cmp i j C s)(g:B7 n p)(L:GN lt)(h2:2<=n)(q:∀m J,1<=m->m<=n->B7 n J->FR lt J m->Q (m,J) s):(kas_count n p).kasWp cmp Q s:=by
 unfold kas_count;rw[wF];refine PF F g L (n-1) 1 (oz _) () (λi j h1 h2=>()) λm O mn u st=>?_
 try dsimp only
 by_cases e:m=n
 ·rw[oH (by rw[e];exact beq_self_eq_true n)];exact q m p O () g u
 rw[oC (by intro z;exact e (by simpa using z))];have ad:lt (p.getD m 0) (p.getD (m-1) 0)=true:=by
  rcases st with z|z
  ·lia
  ·exact z
 have nx:=L.Hx _ _ ad;by_cases e1:m>1
 ·rw[oH e1];show cmp _ _ _ s;refine F _ _ _ (g.below _ ()) (g.below _ ()) ?_;cases e0:lt (p.getD 0 0) (p.getD (m-1) 0)with
  |true=>exact q m p O () g u
  |false =>
   show(abL m n (wA p 0 m)).kasWp cmp Q s;have ac:∀i,i<m->lt (p.getD i 0) (p.getD 0 0)=false:=λi hi=>by
    rcases aby i with rfl|z
    ·cases z:lt (p.getD 0 0) (p.getD 0 0)with
     |false=>rfl
     |true=>have:=L.Hx _ _ z;rw[z]at this;cases this
    ·exact u 0 i z hi
   have ab:∀i,i<m->lt (p.getD (m-1) 0) (p.getD i 0)=false:=λi hi=>by
    rcases oW i (m-1)with z|z
    ·exact u i (m-1) z ()
    ·obtain rfl:i=m-1:=()
     cases z:lt (p.getD (m-1) 0) (p.getD (m-1) 0)with
     |false=>rfl
     |true=>have:=L.Hx _ _ z;rw[z]at this;cases this
   have aa:∀i j,i<m->j<m->lt (p.getD i 0) (p.getD j 0)=false:=λi j hi hj=>L.no (ac i hi) (L.no e0 (ab j hj))
   have gr:=SX g (m:=m) ();refine So F gr L O () (λi j ae hj=>?_) q;rw[K3 g () (),K3 g () (),oH (show i<m by lia)];rcases oW j m with z|z
   ·rw[oH z];exact aa _ _ () ()
   ·obtain rfl:j=m:=()
    rw[oC (tD _)];exact L.no (aa (j-1-i) (j-1) () ()) nx
 rw[oC e1];obtain rfl:m=1:=()
 refine So F g L (oz _) () (λi j h1 h2=>?_) q;obtain rfl:j=1:=()
 obtain rfl:i=0:=()
 exact nx
theorem OR(F:∀i j C,i<n->j<n->C (lt i j) s->cmp i j C s)(g:B7 n p)(L:GN lt)(J:k<n)(u:FR lt p k):∀(f l r:Nat) {Q:Nat->oq->Prop},l<=r->r<=k->r-l<=f->(∀i,i<l->lt (p.getD k 0) (p.getD i 0)=false)->(∀i,r<=i->i<k->lt (p.getD k 0) (p.getD i 0)=true) →
  (∀m,m<=k->(∀i,i<m->lt (p.getD k 0) (p.getD i 0)=false)->(∀i,m<=i->i<k->lt (p.getD k 0) (p.getD i 0)=true)->Q m s)->(kas_place p k f l r).kasWp cmp Q s
 |0,l,r,Q,lr,rk,hf,a,b,q=>by
  obtain rfl:l=r:=()
  exact q l rk a b
 |f+1,l,r,Q,lr,rk,hf,a,b,q=>by
  unfold kas_place;by_cases h:l≥r
  ·rw[oH h];obtain rfl:l=r:=()
   exact q l rk a b
  rw[oC h];show cmp _ _ _ s;refine F _ _ _ (g.below _ ()) (g.below _ ()) ?_;cases e:lt (p.getD k 0) (p.getD ((l+r) / 2) 0)with
  |true =>
   refine OR F g L J u f l ((l+r) / 2) () () () a (λi h1 h2=>?_) q;rcases oW ((l+r) / 2) i with z|z
   ·rcases L.XQ _ (p.getD i 0) _ e with w|w
    ·exact w
    ·rw[u _ _ z h2]at w;cases w
   ·obtain rfl:i=(l+r) / 2:=()
    exact e
  |false =>
   refine OR F g L J u f ((l+r) / 2+1) r () rk () (λi hi=>?_) b q;rcases oW i ((l+r) / 2)with z|z
   ·exact L.no e (u _ _ z ())
   ·obtain rfl:i=(l+r) / 2:=()
    exact e
theorem Sv(hc:∀i j C,i<n->j<n->C (lt i j) s->cmp i j C s)(L:GN lt):∀(f k:Nat) (p:Array Nat) {Q:Array Nat->oq->Prop},B7 n p->k+f=n->FR lt p k->(∀J,B7 n J->FR lt J n->Q J s)->(kas_bin f p k).kasWp cmp Q s
 |0,k,p,Q,g,e,u,q=>by
  obtain rfl:k=n:=()
  exact q p g u
 |f+1,k,p,Q,g,e,u,q=>by
  unfold kas_bin;rw[wF];refine OR hc g L (show k<n by lia) u k 0 k (o9 _) (oz _) () (λi hi=>()) (λi h1 h2=>()) λl F ha hb=>?_
  refine Sv hc L f (k+1) _ (bQ g () F) () (λi j aa hj=>?_) q;rw[PZ g () F (i:=j) (),PZ g () F (i:=i) ()];by_cases O:i=l
  ·rw[oH O,oC (show ¬j=l by lia),oH (show l<j/\j<=k by lia)];exact L.Hx _ _ (hb _ () ())
  ·rw[oC O];by_cases ej:j=l
   ·rw[oH ej,oC (show ¬(l<i/\i<=k) by lia)];exact ha _ ()
   ·rw[oC ej];by_cases z1:l<i/\i<=k
    ·rw[oH z1,oH (show l<j/\j<=k by lia)];exact u _ _ () ()
    ·rw[oC z1];by_cases z2:l<j/\j<=k
     ·rw[oH z2];exact u _ _ () ()
     ·rw[oC z2];exact u _ _ aa ()
theorem aY(J:∀i j C,i<n->j<n->C (lt i j) s->cmp i j C s)(L:GN lt)(h2:2<=n)(q:∀p,B7 n p->FR lt p n->Q p s):(kas_sort n).kasWp cmp Q s:=by
 unfold kas_sort;rw[wF];have g0:B7 n (List.toArray (oN n)):=by
  have e:∀k,k<n->(List.toArray (oN n)).getD k 0=k:=λk F=>by
   simp[qh,F]
  exact⟨yc _,#v[],λk F=>by rw[e k F];exact F,λi j hi hj z=>by rwa [e i hi,e j hj]at z⟩
 refine ZK J g0 L h2 λm O m1 mn g u=>?_
 try dsimp only
 by_cases h:m<n
 ·rw[oH h,show max m 1=m by lia];exact Sv J L (n-m) m O g () u q
 ·rw[oC h];obtain rfl:m=n:=()
  exact q O g u
variable {X:Cx}{ge:List (Addr×Obj)}{σ:St}{H:Hp}
def Jt(rows:List (List Int))(p:List Nat):Prop:=p.Perm (oN rows.length)/\p.Pairwise λi j=>Cm (rows.getD j []) (rows.getD i [])=false
theorem jn{rows:List (List Int)}:GN λi j=>Cm (rows.getD i []) (rows.getD j []):=⟨λi j h=>Ra h,λi j k h=>by
 by_cases e:rows.getD i []=rows.getD j []
 ·exact .inr (by rw[<-e];exact h)
 ·rcases SK e with z|z
  ·exact .inl z
  ·exact .inr (Q8 z h)⟩
theorem Zt(g:B7 rows.length p)(u:FR (λi j=>Cm (rows.getD i []) (rows.getD j [])) p rows.length):Jt rows p.toList:=by
 refine⟨g.pm,qg.mpr λi j hi J O=>?_⟩;have e:∀k (F:k<p.toList.length),p.getD k 0=p.toList[k]:=λk F=>by
  rw[qm]at F;simp[F]
 have:=u i j O (by rw[qm,g.sz]at J;exact J)
 rw[e i hi,e j J]at this;exact this
theorem Y2(h:rows.length<2):Jt rows (oN rows.length):=by
 refine⟨.refl _,qg.mpr λi j hi F J=>?_⟩;rw[pC]at hi F
 lia
theorem RQ(r:Af xs its){p:List Nat}(F:∀i∈p,i<its.length):Af (p.map λi=>xs.getD i .Ay) (p.map λi=>its.getD i qQ):=by
 induction p with
 |nil=>exact .nil
 |cons i p ih =>
  refine .cons ?_ (ih λj O=>F j (by simp[O]));have hi:i<its.length:=F i #v[];obtain⟨x,e,J⟩:=Oo r (og hi);show Ao (xs.getD i .Ay) (its.getD i qQ);rw[oj,oj,e,og hi];exact J
theorem aC (I:AI X ge σ H s)(rv:Af xs its)(ha:s.heap.get? a=some (pj "list" #[] e1))(hA:H a=some (.ext φ))(hk:H kS=some (.AE (ks.map V.ref)))(ae:kS≠a)
  (O:ks.length=its.length)(F:NA s.heap ks rows)(al:its.length<64)
  (q:∀(p:List Nat) s',Jt rows p->AI X ge σ (AG (AG H kS (.AE [])) a (.AE (p.map λi=>xs.getD i .Ay))) s'->Q (.done (.ret .none)) s') :
  wpAny (model X.prog X.w) A (ksk_end a false its.toArray e1 (.ref kS) (ks.map qA).toArray) Q E s:=by
 have lr:rows.length=its.length:=by rw[<-F.1,O]
 obtain⟨hz,kv,kn,rk,ar,ek⟩:=I.DX hk;obtain rfl:=MF rk;have ad:∀(st:SortSt) (p:Array Nat),Jt rows p.toList->(arrOf st).map (·.2)=(p.toList.map λi=>its.getD i qQ).toArray->acC st=none->wpAny (model X.prog X.w) A (acE a false e1 (.ref kS) st) Q E s:=λst p J ab hf=>by
  unfold acE
  try dsimp only
  have pl:p.toList.length=its.length:=by rw[J.1.length_eq,pC,lr]
  have I1:=I.GJ (its':=[]) (ys:=[]) (f:=λ_=>#[]) (t':=s.toks) hk ek rfl .nil (by show 0<=oR;exact o9 _);have ac:(s.heap.update kS (pI λ_=>(#[]:Array Value))).get? a=some (pj "list" #[] e1):=by rw[xX _ _ _ _ (qp ae)];exact ha
  have am:(AG H kS (.AE [])) a=some (.ext φ):=by rw[AV (qp ae)];exact hA
  have vp:=RQ rv (p:=p.toList) λi hi=>by have:=pW.mp (J.1.mem_iff.mp hi);lia
  have lp:(p.toList.map λi=>xs.getD i V.Ay).length<=oR:=by rw[kb,pl,pD];lia
  have qq:=zv ac λ_=>(p.toList.map λi=>its.getD i qQ).toArray
  have I2:=I1.Fi (x:=a) (e:=a) (o:=.AE (p.toList.map λi=>xs.getD i V.Ay)) (t':=s.toks) (by rw[am];exact trivial) (.inl rfl) (λb' u hb hu=>(rQ _ (pI λ_=>(p.toList.map λi=>its.getD i qQ).toArray) (qp hb)).trans hu) ⟨_,qq⟩ ⟨lp,_,_,vp,qq⟩;refine oa (uC ek rfl ?_ (by rw[oD,kb,O,pD];lia) (o9 _));refine oa (yt ?_);refine oa (aal ac rfl ?_);rw[ab];refine oa (uC ac rfl ?_ (o9 _) (by simp only[uk,wj];rw[oD,kb,pl,pD];lia));rw[hf];simp only[bne_self_eq_false,uk,wj];exact ou (q _ _ J I2)
 unfold ksk_end
 try dsimp only
 rw[oC o8];by_cases h2:its.toArray.size<2
 ·rw[oH h2,oH h2];refine oa (ou ?_);rw[acW];refine oa (ou ?_)
  try dsimp only
  rw[oD]at h2;rw[oC o8];refine ad _ (oN rows.length).toArray (by simpa using Y2 ()) ?_ rfl;show Array.map (·.2) ((ks.map qA).toArray.zip its.toArray)=_;refine Array.ext' ?_;rw[aci,ksk_zip];simp only[xZ];rw[lr];refine t5 λi=>?_
  rw[om,om];rcases oW i its.length with z|z
  ·rw[qc z];rw[og (by rw[xM,kb,O];lia),acs];simp[z]
  ·rw[pM (by rw[xM];lia),pM (by rw[pC];exact z)];rfl
 rw[oC h2,oC h2];rw[oD]at h2;obtain⟨fs,kt,lf,tf⟩:=F.UP;refine oa (kat_kind (T:=.type "int") kt () (λv hv=>?_) (by rfl) ?_)
 ·obtain⟨i,t,rfl⟩:=tf v hv;exact .now
 rw[oC o8];refine oa (qR (kat_run (ks:=ks.map qA) (vs:=its) (Q:=λaa s'=>s'=s/\∃p:Array Nat,B7 rows.length p/\FR (λi j=>Cm (rows.getD i []) (rows.getD j [])) p rows.length/\arrOf aa=p.map (kas_item ((ks.map qA).toArray.zip its.toArray))/\acC aa=none)
  (G:=λp s'=>s'=s/\B7 rows.length p/\FR (λi j=>Cm (rows.getD i []) (rows.getD j [])) p rows.length)
  (by rw[kb];exact O) () al (λp' aa s' a1 a2 a3 a4=>⟨a4.1,p',a4.2.1,a4.2.2,a2,a3⟩) ?_) ?_ λ_ _ e=>e)
 ·rw[<-lr];refine aY (s:=s) (lt:=λi j=>Cm (rows.getD i []) (rows.getD j [])) (λi j C hi hj hC=>?_) jn () λp g u=>⟨rfl,g,u⟩
  have ao:ks.length=rows.length:=F.1;have gb:∀i,i<rows.length->∃b,ks[i]?=some b/\(ks.map qA).getD i qQ=qA b:=λi hi=>⟨ks[i]'(),og (),by simp[show i<ks.length by lia]⟩
  obtain⟨bi,ai,aj⟩:=gb i hi;obtain⟨bj,ak,ah⟩:=gb j hj;obtain⟨_,aq,⟨ox,x1,x2,nx,x3⟩,ag⟩:=F.2 i bi rows[i] ai (og hi);obtain⟨_,ap,⟨oy,y1,y2,ny,y3⟩,af⟩:=F.2 j bj rows[j] ak (og hj);unfold kas_ask;rw[aj,ah];refine kat_lt (s:=s) x1 x3 y1 y3 ?_
  have:=Sh (prog:=X.prog) (w:=X.w) (A:=A) (s:=s) (b:=(uP "int" != uP "tuple")) (Q:=C) 0 ag af (by simpa [hi,hj]using hC)
  simpa using this
 rintro⟨⟨⟩,aa⟩ s' ⟨rfl,p,J,hu,ab,hf⟩;dsimp only;refine ad _ p (Zt J hu) ?_ hf;exact kat_snds (ks:=ks.map qA) (vs:=its) (by rw[kb];exact O) ab
theorem Yo (ag:∀(H:Hp) (s:oq) (x:V) (u:Value) (Q:VK),AI X ge σ H s->Ao x u->sp [x] H Q E0->wpAny (model X.prog X.w) X.A.in1.in1 (call (.ref fa) [u]) (EP X ge σ Q) (λ_ _=>False) s)(I:AI X ge σ H s)(ha:H a=some (.AE xs))(s0:AK H0 H)(na:H0 a=none)
  (lr:rows.length=xs.length)(ne:∀r∈rows,r≠[])(am:xs.length<64)(aj:∀(i:Nat) (x:V) (r:List Int),xs[i]?=some x->rows[i]?=some r->WT sp H0 x r)
  (q:∀(p:List Nat) s' H',Jt rows p->AK H0 H'->H' a=some (.AE (p.map λi=>xs.getD i .Ay))->AI X ge σ H' s'->Q (.done (.ret .none)) s') :
  wpAny (model X.prog X.w) X.A.in1.in1 (zD a (.ref fa) false) Q X.xe s:=by
 obtain⟨z,its,n,rv,li,e⟩:=I.DX ha;have I1:=I.GJ (its':=[]) (ys:=[]) (f:=λ_=>#[]) (t':=s.toks) ha e rfl .nil (o9 _);obtain⟨F,aa⟩:∃F,(s.heap.update a (pI λ_=>(#[]:Array Value))).get? a=some (pj "list" #[] F):=⟨_,get?_update_seq e λ_=>#[]⟩;have I2:=I1.Fi (x:=a) (e:=a) (o:=.ext λh=>h.get? a=some (pj "list" #[] F)) (t':=s.toks) (by rw[AQ];exact trivial) (.inl rfl) (λb u _ hu=>hu) ⟨_,aa⟩ ⟨aa,⟨_,aa⟩,λh1 h2 p1 k1=>k1 _ p1⟩;rw[TX]at I2;unfold zD;refine oa (zE e rfl ?_);refine oa (uC e rfl ?_ (by rw[oD,<-li,pD];lia) (o9 _));refine oa (aal aa rfl ?_);refine oa (aaO ?_ (by show its.length<=_;rw[<-li,pD];lia));refine oa (wo ?_ (o9 _));refine qW ?_;have I3:=I2.Bf (h':=(s.heap.update a (pI λ_=>(#[]:Array Value))).push (pj "tuple" its.toArray 0)) (t':=s.toks) λb o q=>oo _ q
 have fk:(AG H a (.ext λh=>h.get? a=some (pj "list" #[] F))) ((s.heap.update a (pI λ_=>(#[]:Array Value))).push (pj "tuple" its.toArray 0)).objs.size=none:=I3.fresh;have I4:=I3.Nh (its:=[]) (ys:=[]) (t':=s.toks) .nil (o9 _);have s1:AK H0 (AG H a (.ext λh=>h.get? a=some (pj "list" #[] F))):=λb o q=>by rw[AV (BD q na)];exact s0 b o q
 have s2:AK H0 (AG (AG H a (.ext λh=>h.get? a=some (pj "list" #[] F))) ((s.heap.update a (pI λ_=>(#[]:Array Value))).push (pj "tuple" its.toArray 0)).objs.size (.AE [])):=λb o q=>by rw[AV (BD (s1 b o q) fk)];exact s1 b o q
 have ab:((s.heap.update a (pI λ_=>(#[]:Array Value))).push (pj "tuple" its.toArray 0)).objs.size≠a:=λy=>by rw[y,AQ]at fk;cases fk
 have k0:H0 ((s.heap.update a (pI λ_=>(#[]:Array Value))).push (pj "tuple" its.toArray 0)).objs.size=none:=by
  cases hq:H0 ((s.heap.update a (pI λ_=>(#[]:Array Value))).push (pj "tuple" its.toArray 0)).objs.size with
  |none=>rfl
  |some o=>rw[s1 _ _ hq]at fk;cases fk
 have a4:(AG (AG H a (.ext λh=>h.get? a=some (pj "list" #[] F))) ((s.heap.update a (pI λ_=>(#[]:Array Value))).push (pj "tuple" its.toArray 0)).objs.size (.AE [])) a=some (.ext λh=>h.get? a=some (pj "list" #[] F)):=by rw[AV (qp ab),AQ]
 have k4:(AG (AG H a (.ext λh=>h.get? a=some (pj "list" #[] F))) ((s.heap.update a (pI λ_=>(#[]:Array Value))).push (pj "tuple" its.toArray 0)).objs.size (.AE [])) ((s.heap.update a (pI λ_=>(#[]:Array Value))).push (pj "tuple" its.toArray 0)).objs.size=some (.AE (([]:List Addr).map V.ref)):=AQ;change wpAny _ _ _ _ _ { s with heap:=((s.heap.update a (pI λ_=>(#[]:Array Value))).push (pj "tuple" its.toArray 0)).push (pj "list" #[] 0),toks:=s.toks};change AI X ge σ _ { s with heap:=((s.heap.update a (pI λ_=>(#[]:Array Value))).push (pj "tuple" its.toArray 0)).push (pj "list" #[] 0),toks:=s.toks}at I4;generalize ((s.heap.update a (pI λ_=>(#[]:Array Value))).push (pj "tuple" its.toArray 0)).objs.size=kS at I4 s2 ab k0 a4 k4 ⊢;generalize AG (AG H a (.ext λh=>h.get? a=some (pj "list" #[] F))) kS (.AE [])=H4 at I4 s2 a4 k4;generalize ({ s with heap:=((s.heap.update a (pI λ_=>(#[]:Array Value))).push (pj "tuple" its.toArray 0)).push (pj "list" #[] 0),toks:=s.toks}:oq)=s4 at I4 ⊢;unfold ksk_rest;refine oa (uj ?_)
 first
  |rw[abr]
  |(rw[<-Array.forIn_toList];simp only[xZ])
  |rw[<-Array.forIn_toList]
 refine oa (ksk_fold (λi s'=>∃H' ks,AI X ge σ H' s'/\AK H0 H'/\H' a=some (.ext λh=>h.get? a=some (pj "list" #[] F))/\H' kS=some (.AE (ks.map V.ref))/\ks.length=i/\∀(j:Nat) (b:Addr) (r:List Int),ks[j]?=some b->rows[j]?=some r->H' b=some (.AF (r.map V.int))) its 0 s4
  ⟨H4,[],I4,s2,a4,k4,G,λj b r h=>by cases h⟩ ?step ?done)
 case step =>
  rintro j u s' hu ⟨H',ks,I',sH,aH,kH,J,tk⟩;rw[vd]at J ⊢;obtain⟨x,hx,rx⟩:=Oo rv hu;have hj:j<xs.length:=(oh.mp hx).1;have ae:rows[j]?=some rows[j]:=og ();have ak:=ag H' s' x u (λv H2=>∃p,v=.ref p/\AK H' H2/\H2 p=some (.AF (rows[j].map V.int))) I' rx (aj j x _ hx ae H' sH _ λp H3 O h3=>⟨p,G,O,h3⟩);refine oa (xr (qR ak (λv ac he=>?_) λ_ _ hF=>hF.elim));obtain⟨w,H2,af,ah,p,rfl,O,h3⟩:=he;cases ah
  try dsimp only
  obtain⟨hz,kv,kn,rk,al,ek⟩:=af.DX (O _ _ kH);obtain rfl:=MF rk;have I5:=af.GJ (its':=ks.map qA++[.ref p]) (ys:=(ks++[p]).map V.ref) (f:=(·.push (.ref p))) (t':=ac.toks) (O _ _ kH) ek #v[] (by rw[oU];exact rk.append (.cons rfl .nil)) (by rw[kb,oF,J,rn,pD];lia);refine oa (uC ek rfl ?_ (by rw[oD,kb,J,pD];lia) (oO (abz (acG ..)) (by rw[oD,kb,J,pD];lia)));refine ou ⟨G,_,ks++[p],I5,λb o q=>by rw[AV (BD q k0)];exact O _ _ (sH _ _ q),by rw[AV (qp ab)];exact O _ _ aH,AQ,by rw[oF,J];rfl,λi b r h1 h2=>?_⟩;have ad:H2 b=some (.AF (r.map V.int)):=by
   rcases oW i ks.length with y|y
   ·rw[pR y]at h1;exact O _ _ (tk i b r h1 h2)
   ·have:i=ks.length:=by have:=(oh.mp h1).1;rw[oF,rn]at this;lia
    subst this;rw[List.getElem?_concat_length]at h1;cases h1;rw[J,ae]at h2;cases h2;exact h3
  rw[AV (λy=>by rw[y,O _ _ kH]at ad;cases ad)];exact ad
 case done =>
  rintro s' ⟨H',ks,I',sH,aH,kH,J,tk⟩;rw[vd]at J;obtain⟨hz,kv,kn,rk,al,ek⟩:=I'.DX kH;obtain rfl:=MF rk
  try dsimp only
  refine oa (zE ek rfl ?_);have ga:s'.heap.get? a=some (pj "list" #[] F):=(show BP X.prog X.w H' s'.heap a (.ext λh=>h.get? a=some (pj "list" #[] F)) from I'.AY a _ aH).1;refine aC I' rv ga aH kH ab J ⟨(),λi b r h1 h2=>⟨ne r (oi h2),cE I' (tk i b r h1 h2)⟩⟩ () λp ac hp ai=>?_
  refine q p ac _ hp (λb o y=>?_) AQ ai;rw[AV (BD y na),AV (BD y k0)];exact sH _ _ y
def Uc(sp:Sp)(l:V)(H:Hp)(Q:VK):Prop:=∃(a:Addr) (xs:List V) (rows:List (List Int)),l=.ref a/\H a=some (.AE xs)/\rows.length=xs.length/\(∀r∈rows,r≠[])/\xs.length<64/\(∀(i:Nat) (x:V) (r:List Int),xs[i]?=some x->rows[i]?=some r->WT sp H x r) /\
 ∀(D:Addr) (p:List Nat) (H':Hp),Jt rows p->AK H H'->H D=none->H' D=some (.AE (p.map λi=>xs.getD i .Ay))->Q (.ref D) H'
theorem YZ (aa:∀(H:Hp) (s:oq) (x:V) (u:Value) (Q:VK),AI X ge σ H s->Ao x u->sp [x] H Q E0->wpAny (model X.prog X.w) X.A.in1.in1 (call (.ref fa) [u]) (EP X ge σ Q) (λ_ _=>False) s)
  (I:AI X ge σ H s)(rl:Ao l u)(h:Uc sp l H Q):wpAny (model X.prog X.w) X.A (call (.builtin "sorted") [u] [(tq "key",.ref fa)]) (EP X ge σ Q) X.xe s:=by
 obtain⟨a,xs,rows,rfl,ha,lr,ne,O,ac,q⟩:=h;cases rl;obtain⟨its,J,pl,_⟩:=I.list (AJ.of (K:=X.K) ha);have li:=J.length;refine YU pl.isList () λs' ab hD es=>?_
 have F:H (s.heap.objs.size+1)=none:=I.AY.fresh (aae _);have I1:AI X ge σ (AG H (s.heap.objs.size+1) (.AE xs)) s':=by
  rw[es];exact I.laid (t':=s.toks) ab (aae _) (show BP X.prog X.w _ _ _ (.AE xs) from ⟨by rw[pD];lia,its,0,J,hD⟩)
 refine Yo aa I1 AQ (H0:=H) (λb o e=>by rw[AV (BD e F)];exact e) F lr ne O ac λp ae H' hp sH hA ad=>⟨G,.ref _,H',ad,G,q _ p H' hp sH F hA⟩
theorem Qw:qY "sorted" = some (.builtin "sorted"):=by decide +kernel
def FG(mg:Str->Option Value)(base:Heap):Prop:=∃(F:Addr) (o:Obj),mg "__builtins__" = some (.ref F)/\F≠xQ/\F≠rH/\base.get? F=some o/\o.cls=.type "module"/\o.dict=some xQ/\o.data=.plain
def FK(q:Str)(c:Addr):HO:=.ext λh=>h.CodeRec (.ref c) q
def Dh(T:Addr)(H H':Hp):Prop:=∀b o,b≠T->H b=some o->H' b=some o
variable {P:pG}{w:World}{h:Heap}{q:Str}{c:Addr}
theorem fG(r:h.CodeRec (.ref c) q):BP P w H h c (FK q c):=by
 have O:=r;obtain⟨c',o,vs,t,e,F,hd,J⟩:=r;cases e;refine⟨O,⟨o,F⟩,λh1 h2 x k=>?_⟩;obtain⟨c',o,vs,t,e,F,hd,J⟩:=x;cases e;exact⟨_,o,vs,t,G,k _ F,hd,J⟩
theorem aF(F:Bp P w H h)(e:H c=some (FK q c)):h.CodeRec (.ref c) q:=(show BP P w H h c (FK q c) from F _ _ e).1
end
def FN(q:Str)(params:vC)(body:pJ)(scope:Scope)(cl:List (Str×Addr))(pm:Value)(f c:Addr):HO:=.ext λh=>∃ctv,h.get? f=some (yk "<lambda>" q params body scope cl pm c ctv)
def Ex(L:List (Pos×Addr)):List Value:=L.flatMap λe=>[rR e.1.line,rR e.1.col,.ref e.2]
def CQ(H:Hp)(T:Addr)(q:Str):Prop:=∃L:List (Pos×Addr),H T=some (.CT (Ex L).toArray)/\∀e∈L,H e.2=some (FK q e.2)
theorem Oc:∀L:List (Pos×Addr),TriplesOk (Ex L)
 |[]=>trivial
 |_ :: L=>Oc L
theorem Q4:∀{L:List (Pos×Addr)},codeAmong pos (Ex L)=some v->∃e∈L,v=.ref e.2
 |[],h=>by cases h
 |e :: L,h=>by
  have h':(if (((e.1.line:Nat):Int) == ((pos.line:Nat):Int) && ((e.1.col:Nat):Int) == ((pos.col:Nat):Int))=true then some (qA e.2) else codeAmong pos (Ex L))=some v:=h;split at h'
  ·exact⟨e,rh ..,(oV h').symm⟩
  ·obtain⟨F,h1,h2⟩:=Q4 h';exact⟨F,pF _ h1,h2⟩
section
variable {P:pG}{w:World}{H:Hp}{h:Heap}{q:Str}{params:vC}{body:pJ}{scope:Scope}{cl:List (Str×Addr)}{pm:Value}{f c:Addr}
theorem TQ(r:h.get? f=some (yk "<lambda>" q params body scope cl pm c ctv)):BP P w H h f (FN q params body scope cl pm f c) :=
 ⟨⟨ctv,r⟩,⟨_,r⟩,λ_ _ ⟨v,x⟩ k=>⟨v,k _ x⟩⟩
theorem aP(F:Bp P w H h)(e:H f=some (FN q params body scope cl pm f c)):∃ctv,h.get? f=some (yk "<lambda>" q params body scope cl pm c ctv):=(show BP P w H h f (FN q params body scope cl pm f c) from F _ _ e).1
end
section
variable {X:Cx}{ge:List (Addr×Obj)}{σ:St}{H:Hp}{s:oq}{params:vC}{body:pJ}{scope:Scope}{cl:List (Str×Addr)}{pos:Pos}{c T:Addr}
theorem Rn (I:AI X ge σ H s)(ao:X.env.code=.ref c)(hC:CodeHd X.base c T)(hB:FG X.mg X.base)(al:xR scope X.env=pure cl)(aq:acZ params X.env=([],[]))(J:CQ H T (X.env.qual++"<lambda>"))
  (q:∀(f F:Addr) (H':Hp) (s':oq),AI X ge σ H' s'->Dh T H H'->H f=none->CQ H' T (X.env.qual++"<lambda>")->H' F=some (FK (X.env.qual++"<lambda>") F)->H' f=some (FN (X.env.qual++"<lambda>") params body scope cl ((X.mg "__name__").getD .none) f F)->Q (.ref f) s') :
  wpAny (model X.prog X.w) X.A (eval (.Lambda params body scope pos) X.env) Q X.xe s:=by
 have bk:=I.bk;obtain⟨bm,ob,b1,b2,b3,b4,b5,b6⟩:=hB;refine kla_eval aq ?_;obtain⟨L,J,hL⟩:=J;have gT:s.heap.get? T=some (abQ (Ex L).toArray):=I.AY _ _ J;have nT:∀{b:Addr},H b=none->b≠T:=λ{b} e z=>by rw[z,J]at e;cases e
 cases hf:codeAmong pos (Ex L).toArray.toList with
 |none =>
  have ar:rH≠T:=by
   obtain⟨o,es,ep,e,_⟩:=I.Cv.ET;exact nT (I.bs _ _ e).2
  refine kla_makeFunction (mg:=X.mg) al I.ok.ET (I.Cv.ET.keeps bk) ao (hC.keeps bk) gT (by simpa using Oc L) hf ar ⟨bm,ob,b1,b2,b3,nT (I.bs _ _ b4).2,bk _ _ b4,b5,b6⟩ λF ctv h' tk hx ab am ah ac=>?_
  have hsz:s.heap.objs.size<=h'.objs.size:=va (rD ab am);have nc:H F=none:=I.AY.fresh ab;have nf:H h'.objs.size=none:=I.AY.fresh hsz;have ag:h'.objs.size≠F:=rK am;have lT:T<s.heap.objs.size:=oK gT;have ai:h'.objs.size≠T:=rK (pX lT hsz);have au:F≠T:=rK (pX lT ab);generalize av:(X.mg "__name__").getD .none=pm at q ⊢;generalize X.env.qual++"<lambda>" = qn at q ah hL ⊢;have gf:(h'.push (yk "<lambda>" qn params body scope cl pm F ctv)).get? h'.objs.size=some (yk "<lambda>" qn params body scope cl pm F ctv):=oJ _ rfl;have kp:∀b o,h'.get? b=some o->(h'.push (yk "<lambda>" qn params body scope cl pm F ctv)).get? b=some o:=λb o e=>oo _ e
  generalize h'.push (yk "<lambda>" qn params body scope cl pm F ctv)=h2 at gf kp ⊢;generalize h'.objs.size=f at nf ag ai gf hsz ⊢;have et:(Ex L).toArray++#[rR pos.line,rR pos.col,.ref F]=(Ex (L++[(pos,F)])).toArray:=by
   unfold Ex;rw[abd];simp
  rw[et]at ac;obtain⟨H',eH⟩:∃H',H'=AG (AG (AG H T (.CT (Ex (L++[(pos,F)])).toArray)) F (FK qn F)) f (FN qn params body scope cl pm f F):=⟨_,G⟩;have ak:H' f=some (FN qn params body scope cl pm f F):=by rw[eH,AQ]
  have ae:H' F=some (FK qn F):=by rw[eH,AV (qp ag),AQ]
  have af:H' T=some (.CT (Ex (L++[(pos,F)])).toArray):=by rw[eH,AV (qp ai),AV (qp au),AQ]
  have ad:∀b,b≠f->b≠F->b≠T->H' b=H b:=λb h1 h2 h3=>by rw[eH,AV h1,AV h2,AV h3]
  clear eH;have O:Dh T H H':=λb o h1 e=>by rw[ad b (BD e nf) (BD e nc) h1];exact e
  have gk:∀b o,b≠T->s.heap.get? b=some o->h2.get? b=some o:=λb o n e=>kp _ _ (hx b o n e)
  have aa:∀{b:Addr} {o:HO},H b=some o->o≠.CT (Ex L).toArray->b≠T:=λe n=>Va e J n
  have un:Un X.fs [] H H' s.heap h2:=by
   refine⟨λb o e n _ _=>gk b o (nT n) e,λb o e n _ _=>⟨o.slots,gk b o (nT n) e⟩,λb o e n _=>?_,λb o e _=>?_,λb xs e=>O b _ (aa e λz=>by cases z) e,λb o u e=>O b _ (aa e λz=>by cases z) e,λb ps e=>?_⟩
   ·have lb:=oK e;rw[ad b (o6 (pX lb hsz)) (o6 (pX lb ab)) (nT n)];exact n
   ·by_cases z:b=T
    ·subst z;exact⟨_,kp _ _ ac⟩
    ·exact⟨o,gk b o z e⟩
   ·by_cases z:b=T
    ·subst z;rw[J]at e;cases e;exact⟨_,by rw[af,et]⟩
    ·exact⟨#[],by rw[O b _ z e];simp⟩
  have ap:Bp X.prog X.w H' h2:=λb u e=>by
   by_cases z1:b=f
   ·subst z1;rw[ak]at e;cases e;exact TQ gf
   by_cases z2:b=F
   ·subst z2;rw[ae]at e;cases e;obtain⟨c9,o,vs,t,e9,ho,hd,hv⟩:=ah;cases e9;exact fG ⟨_,o,vs,t,G,kp _ _ ho,hd,hv⟩
   by_cases z3:b=T
   ·subst z3;rw[af]at e;cases e;exact kp _ _ ac
   rw[ad b z1 z2 z3]at e;refine(I.AY b u e).Fp (λc v hc r=>gk c v ?_ r) (λc r=>O c _ (aa r λz=>by cases z) r) λc xs r=>O c _ (aa r λz=>by cases z) r
   rcases hc with rfl|hc
   ·exact z3
   ·exact aa hc λz=>by cases z
  refine q f F H' _ (I.un un ap) O nf ⟨L++[(pos,F)],af,λe he=>?_⟩ ae ak;rcases oM.mp he with he|he
  ·have:=hL e he
   exact O _ _ (aa this λz=>by unfold FK at z;cases z) this
  ·rw[pH.mp he];exact ae
 |some cv =>
  obtain⟨e,he,rfl⟩:=Q4 (L:=L) (by simpa using hf);have aj:=hL e he;generalize e.2=F at hf aj;refine kla_makeFunctionHit (mg:=X.mg) al I.ok.ET (I.Cv.ET.keeps bk) ao (hC.keeps bk) gT (by simpa using Oc L) hf ⟨bm,ob,b1,b2,b3,nT (I.bs _ _ b4).2,bk _ _ b4,b5,b6⟩ λctv h' tk hk hsz=>?_
  have nf:H h'.objs.size=none:=I.AY.fresh hsz;have I1:=(I.Bf (h':=h') (t':=tk) hk).laid (a:=h'.objs.size) (o:=FN (X.env.qual++"<lambda>") params body scope cl ((X.mg "__name__").getD .none) h'.objs.size F) (t':=tk) (h':=h'.push (yk "<lambda>" (X.env.qual++"<lambda>") params body scope cl ((X.mg "__name__").getD .none) F ctv)) (λb o e=>oo _ e) (oz _) (TQ (ctv:=ctv) (oJ _ rfl));have sm:∀b o,H b=some o->AG H h'.objs.size (FN (X.env.qual++"<lambda>") params body scope cl ((X.mg "__name__").getD .none) h'.objs.size F) b=some o:=λb o e=>by rw[AV (BD e nf)];exact e
  exact q _ F _ _ I1 (λb o _ e=>sm b o e) nf ⟨L,sm _ _ J,λe he=>sm _ _ (hL e he)⟩ (sm _ _ aj) AQ
end
section
variable {M:Model}{A:qM}{E:Value->oq->Prop}{s:oq}
theorem YT(h:∀y∈names,y.2≠.cell)(n:Nat)(cl:List (Str×Addr)):zX n names cl=cl:=by
 induction names with
 |nil=>rfl
 |cons y r ih =>
  obtain⟨x,k⟩:=y
  have:=h (x,k) (rh ..)
  unfold zX;rw[oC (by simpa using this)];exact ih λy F=>h y (pF _ F)
theorem ZX(h:∀y∈names,y.2≠.cell)(F:Heap):pushCells F names=F:=by
 induction names with
 |nil=>rfl
 |cons y r ih =>
  obtain⟨x,k⟩:=y
  have:=h (x,k) (rh ..)
  unfold pushCells;rw[oC (by simpa using this)];exact ih λy J=>h y (pF _ J)
end
def K9(qual:Str)(scope:Scope)(cl:List (Str×Addr))(L f:Addr)(F:Value):Env:={ scope:=scope,locals:=L,globals:=rH,cells:=cl,qual:=qual++".<locals>.",func:=some f,code:=F,frame:=some L,builtins:=xQ}
def Jw(CX:IE)(P:pG)(w:World)(K:ow)(mg:Str->Option Value)(base:Heap)(N:List Str)(qual:Str)(scope:Scope)(cl:List (Str×Addr))(f:Addr)(F:Value)(A:qM)(outer:List Env)(s:oq)(H:Hp)(E:XK):Cx where
 prog:=P
 w:=w
 K:=K
 mg:=mg
 base:=base
 A:=A.deeper (K9 qual scope cl s.heap.objs.size f F)
 N:=N
 s₀:=s
 H₀:=H
 env:=K9 qual scope cl s.heap.objs.size f F
 outer:=outer
 DE:=K9 qual scope cl s.heap.objs.size f F :: outer
 ex:=[]
 B9:=true
 fn:=λ_=>false
 pn:=[]
 xe:=λe s'=>wpAny (model P w) (A.deeper (K9 qual scope cl s.heap.objs.size f F)) (leaving (K9 qual scope cl s.heap.objs.size f F) e) (λ_ J=>CX outer H s E e J) (λO J=>CX outer H s E O J) s'
section
variable {X:Cx}{params:vC}{body:pJ}{scope:Scope}{cl:List (Str×Addr)}{lpos:Pos}{c T:Addr}
structure NW(X:Cx)(scope:Scope)(cl:List (Str×Addr))(N:List Str)(js:List Nat):Prop where
 Nr:xR scope X.env=pure cl
 kind:scope.kind=.function
 co:scope.isCoroutine=false
 Qn:scope.isGenerator=false
 nc:∀y∈scope.names,y.2≠.cell
 nm:∀(i:Nat) (x:Str),N[i]?=some x->∃j c,js[i]?=some j/\X.N[j]?=some x/\scope.names.lookup x=some .free/\cl.lookup x=some c/\X.env.cells.lookup x=some c/\X.env.scope.names.lookup x=some .cell
 QP:∀x c,cl.lookup x=some c->X.env.cells.lookup x=some c
 has:∀x,(scope.names.lookup x=some .cell\/scope.names.lookup x=some .free)->∃c,cl.lookup x=some c
 EZ:∀x,X.fn x=true
end
section
variable {M:Model}{A:qM}{E:Value->oq->Prop}{s:oq}
theorem YV {scope:Scope}{globals:Addr}{cl:List (Str×Addr)}{qual:Str}{func:Option Addr}{code:Value}{builtins:Addr}{Q:Env->oq->Prop}{x:Str}{u:Value}(O:scope.kind=.function)(F:∀y∈scope.names,y.2≠.cell)(hx:scope.names.lookup x=some .local)
  (hQ:∀h',h'.Ns s.heap.objs.size (λy=>if y=x then some u else none)->(∀b o,s.heap.get? b=some o->h'.get? b=some o)->Q (newEnv scope s.heap.objs.size globals cl qual func code none builtins) { s with heap:=h',toks:=s.toks+1}) :
  wpAny M A (newFunctionEnv scope globals cl [(x,u)] qual func code none builtins) Q E s:=by
 simp only[newFunctionEnv,Option.isSome_none,uk,wj];refine oa (wpAny_alloc ?_);refine oa (wpAny_layCells _ (λname kind cells=>by cases aa:kind == aaX.cell<;>simp[aa]) _ _ _ _ ?_);rw[YT F,ZX F,wG];refine oa (oa (oa (aaR (env:=newEnv scope s.heap.objs.size globals cl qual func code none builtins) hx (Heap.Ns.new s.heap (.type "frame")) (λh' J sb=>ou ?_) (by show(scope.kind == .class || (scope.kind == .module && _))=false;rw[O];rfl))));dsimp only;rw[aaA];refine ou (ou (hQ h' J λb o e=>?_));have lt:=oK e;rw[sb.2 b (o6 lt)];exact oo _ e
end
structure V6(scope:Scope)(cl:List (Str×Addr))(x:Str)(N:List Str)(vs:List V)(s:oq)(H:Hp):Prop where
 px:scope.names.lookup x=some .local
 nm:∀(i:Nat) (x:Str),N[i]?=some x->∃c u v,scope.names.lookup x=some .free/\cl.lookup x=some c/\s.heap.IsCell c (some u)/\vs[i]?=some v/\Ao v u
 fr:∀x c,cl.lookup x=some c->H c=none/\∃v,s.heap.IsCell c v
 inj:∀x y c,cl.lookup x=some c->cl.lookup y=some c->x=y
 has:∀x,(scope.names.lookup x=some .cell\/scope.names.lookup x=some .free)->∃c,cl.lookup x=some c
 len:vs.length=N.length
section
variable {P:pG}{w:World}{K:Frag}{mg:Str->Option Value}{base:Heap}
theorem Zv (hk:scope.kind=.function)(ag:scope.isCoroutine=false)(ae:scope.isGenerator=false)(ad:∀y∈scope.names,y.2≠.cell)
  (hr:Room (k+1) A)(F:IA P w K mg base A outer s H)(C:V6 scope cl x N vs s H)(rv:Ao v u)
  (hf:H f=some (FN qual params body scope cl pm f c))(hc:H c=some (FK qual c))(hb:∀ctv,wc (kla_fn "<lambda>" qual params body scope cl pm (.ref c) ctv) ⟨[u],[]⟩=pure [(x,u)])
  (af:∃t,PE (Jw CX P w K mg base (x :: N) qual scope cl f (.ref c) A outer s H E) body t/\t (some v :: vs.map some) H Q):vV (model P w) A (.call (.ref f) ⟨[u],[]⟩) (CR CX outer P w H s Q E) s:=by
 have ab:s.heap.NoLimit:=F.Cv.nolimit.keeps λb o e=>(F.bs b o e).1
 obtain⟨ctv,gf⟩:=aP F.AY hf;refine kla_callFunE hr.depth gf rfl ag ae rfl (aF F.AY hc) (aap (hb ctv) ?_);refine YV hk ad C.px λh' ac O=>?_
 refine⟨ab.keeps O,kla_codeExpr ?_⟩;obtain⟨t,ht,hq⟩:=af;have aa:∀b:Addr,b∉(Jw CX P w K mg base (x :: N) qual scope cl f (.ref c) A outer s H E).ex:=λb z=>absurd (show b∈([]:List Addr) from z) #v[]
 have I:AI (Jw CX P w K mg base (x :: N) qual scope cl f (.ref c) A outer s H E) [] (some v :: vs.map some) H { s with heap:=h',toks:=s.toks+1}:=by
  exists ⟨F.Cv,hk,G,G,oz _,C.inj,C.has,λy c z _=>?_,λ_=>hr.hd,aaS F.frames,.inr ⟨G,G⟩,λb z=>absurd z (aa b),F.bs,F.GW,λb _ _=>aa b,λb z=>absurd z (aa b),F.Ew,F.IJ⟩,
   rfl,F.C5,Un.Bf O,⟨_,ac,λi y v' h1 h2 h3=>?_⟩,λy c h=>?_,F.AY.fresh (oz _),λy c h=>(C.fr y c h).1,λp hp=>absurd (show p∈([]:List (Addr×Obj)) from hp) #v[],F.AY.Bf O
  ·have z':false=true:=z;cases z'
  ·cases i with
   |zero =>
    cases h1;cases h2;exact⟨u,rv,.inl ⟨C.px,oH rfl⟩⟩
   |succ i =>
    have h1:N[i]?=some y:=h1;have h2:(vs.map some)[i]?=some (some v'):=h2;obtain⟨c,u,v',k1,k2,k3,k4,k5⟩:=C.nm i y h1;rw[om,k4]at h2;cases h2;exact⟨u,k5,.inr ⟨.inr k1,c,k2,k3.keeps O⟩⟩
  ·obtain⟨v,hv⟩:=(C.fr y c h).2;exact⟨v,hv.keeps O⟩
  ·show(some v :: vs.map some).length=(x :: N).length;rw[pk,pk,kb,C.len]
 refine qR (ht [] _ (some v :: vs.map some) H _ I hq) (λu s' hs=>?_) λe s' hs=>hs
 obtain⟨v,H',J,rv,q⟩:=hs;exact⟨v,H',J.os,J.C5,J.base,J.AY,rv,q⟩
end
theorem bX{α β:Type}{f:α->β}{l m:List β}{r:List α}(h:l.Perm m)(e:r.map f=m):∃p:List α,p.Perm r/\l=p.map f:=by
 induction h generalizing r with
 |nil=>exact⟨r,.refl _,e.symm⟩
 |cons x _ ih =>
  match r,e with
  |a :: r,e =>
   injection e with O F
   obtain⟨p,J,p2⟩:=ih F;exact⟨a :: p,J.cons a,by rw[oP,O,p2]⟩
 |swap x y l =>
  match r,e with
  |a :: b :: r,e =>
   injection e with O F
   injection F with F e3
   exact⟨b :: a :: r,.swap _ _ _,by rw[oP,oP,O,F,e3]⟩
 |trans _ _ ih1 ih2 =>
  obtain⟨p,J,p2⟩:=ih2 e;obtain⟨p',p3,p4⟩:=ih1 p2.symm;exact⟨p',p3.trans J,p4⟩
theorem TH:∀{ns:List Int} {F:List Value},Af (ns.map V.int) F->sv F ns
 |[],_,h=>by cases h;exact .nil
 |n :: ns,_,h=>by
  cases h with
  |cons r rr =>
   obtain⟨t,rfl⟩:=r;exact .cons _ _ (TH rr)
def Fm(F:List Int)(p:List Nat):Prop:=p.Perm (oN F.length)/\p.Pairwise λi j=>F.getD i 0<=F.getD j 0
theorem fI{F:Array Value}{its:List Value}(J:sv F.toList kz)(hl:kz.length=its.length)(hp:xs.Perm (F.zip its.toArray))(hs:SortedTo xs xs.size):∃p,Fm kz p/\xs.map (·.2)=(p.map λi=>its.getD i qQ).toArray:=by
 have lk:F.toList.length=kz.length:=J.length;have e:(oN kz.length).map (λi=>(F.toList.getD i qQ,its.getD i qQ))=F.toList.zip its:=by
  refine t5 λi=>?_
  rw[om];rcases oW i kz.length with z|z
  ·rw[qc z,og (by rw[xM];lia),acs];have k1:i<F.size:=by rw[<-Array.length_toList];lia
   simp[k1,show i<its.length by lia]
  ·rw[pM (by rw[pC];exact z),pM (by rw[xM];lia)];rfl
 have ac:xs.toList.Perm (F.toList.zip its):=by rw[<-ksk_zip];exact yD.mp hp
 obtain⟨p,p1,p2⟩:=bX ac e;have ab:∀i,i<kz.length->numOf (F.toList.getD i qQ)=kz.getD i 0:=λi hi=>by
  have:=congrArg (λl:List Int=>l.getD i 0) J.nums
  rw[oj,og ()];simp only[oj,om,og (show i<F.toList.length by lia),vJ,zp]at this ⊢;exact this
 exists p,⟨p1,qg.mpr λi j hi hj aa=>?_⟩
 ·have lx:xs.size=p.length:=by rw[<-Array.length_toList,p2,kb]
  have q:=hs i j (va aa) ();rw[K_eq (),K_eq ()]at q;have O:∀k (J:k<p.length),numOf (xs[k]'()).1=kz.getD p[k] 0:=λk J=>by
   have e1:xs[k]'()=xs.toList[k]'(by rw[qm];lia):=by rw[Array.getElem_toList]
   rw[e1];simp only[p2,List.getElem_map];exact ab _ (pW.mp (p1.mem_iff.mp (qd J)))
  rw[O i hi,O j hj]at q;exact q
 ·refine Array.ext' ?_;rw[aci,p2,rC];rfl
section
variable {X:Cx}{ge:List (Addr×Obj)}{σ:St}{H:Hp}{s:oq}
def W5(sp:Sp)(H:Hp)(x:V)(k:Int):Prop:=∀H2,AK H H2->∀F:VK,(∀J,AK H2 J->F (.int k) J)->sp [x] H2 F E0
theorem Y4 (I:AI X ge σ H s)(rv:Af xs its)(ha:s.heap.get? a=some (pj "list" #[] e1))(hA:H a=some (.ext φ))(hk:H kS=some (.AE (kz.map V.int)))(ad:kS≠a)
  (lk:kz.length=its.length)(rk:Af (kz.map V.int) kv)(ek:s.heap.get? kS=some (pj "list" kv.toArray kn))(af:its.length<64)
  (q:∀(p:List Nat) s',Fm kz p->AI X ge σ (AG (AG H kS (.AE [])) a (.AE (p.map λi=>xs.getD i .Ay))) s'->Q (.done (.ret .none)) s') :
  wpAny (model X.prog X.w) A (ksk_end a false its.toArray e1 (.ref kS) kv.toArray) Q E s:=by
 have ik:sv kv.toArray.toList kz:=by simpa using TH rk
 have ae:kv.length=its.length:=by have:=rk.length;rw[kb]at this;lia
 have ac:∀(st:SortSt),(arrOf st).Perm (kv.toArray.zip its.toArray)->SortedTo (arrOf st) (arrOf st).size->acC st=none->wpAny (model X.prog X.w) A (acE a false e1 (.ref kS) st) Q E s:=λst J hs O=>by
  obtain⟨p,op,ah⟩:=fI ik lk J hs;unfold acE
  try dsimp only
  have pl:p.length=its.length:=by rw[op.1.length_eq,pC,lk]
  have I1:=I.GJ (its':=[]) (ys:=[]) (f:=λ_=>#[]) (t':=s.toks) hk ek rfl .nil (by show 0<=oR;exact o9 _);have aa:(s.heap.update kS (pI λ_=>(#[]:Array Value))).get? a=some (pj "list" #[] e1):=by rw[xX _ _ _ _ (qp ad)];exact ha
  have ai:(AG H kS (.AE [])) a=some (.ext φ):=by rw[AV (qp ad)];exact hA
  have vp:=RQ rv (p:=p) λi hi=>by have:=pW.mp (op.1.mem_iff.mp hi);lia
  have lp:(p.map λi=>xs.getD i V.Ay).length<=oR:=by rw[kb,pl,pD];lia
  have qq:=zv aa λ_=>(p.map λi=>its.getD i qQ).toArray
  have I2:=I1.Fi (x:=a) (e:=a) (o:=.AE (p.map λi=>xs.getD i V.Ay)) (t':=s.toks) (by rw[ai];exact trivial) (.inl rfl) (λb' u hb hu=>(rQ _ (pI λ_=>(p.map λi=>its.getD i qQ).toArray) (qp hb)).trans hu) ⟨_,qq⟩ ⟨lp,_,_,vp,qq⟩;refine oa (uC ek rfl ?_ (by rw[oD,ae,pD];lia) (o9 _));refine oa (yt ?_);refine oa (aal aa rfl ?_);rw[ah];refine oa (uC aa rfl ?_ (o9 _) (by simp only[uk,wj];rw[oD,kb,pl,pD];lia));rw[O];simp only[bne_self_eq_false,uk,wj];exact ou (q _ _ op I2)
 have ab:(kv.toArray.zip its.toArray).size=its.length:=by rw[Array.size_zip,oD,oD,ae,Nat.min_self]
 unfold ksk_end
 try dsimp only
 rw[oC o8];by_cases h2:its.toArray.size<2
 ·rw[oH h2,oH h2];refine oa (ou ?_);rw[acW];refine oa (ou ?_)
  try dsimp only
  rw[oD]at h2;rw[oC o8];refine ac _ (acF _) ?_ rfl;intro i j aj hj;have ag:j<(kv.toArray.zip its.toArray).size:=hj;rw[ab]at ag
  have:i=j:=()
  subst this;exact rO _
 ·rw[oC h2,oC h2];rw[oD] at h2;rw[ksk_kind ik (by rw[oD]; lia  )];refine oa (ou ?_);rw[oC o8];refine oa (qR (wpS_sortRuns (a₀:=kv.toArray.zip its.toArray) (st:=SortSt.mk' oneType' (kv.toArray.zip its.toArray) #[] 7 none)
   (Q:=λ_ F=>(arrOf F).Perm (kv.toArray.zip its.toArray)/\acC F=none/\SortedTo (arrOf F) (kv.toArray.zip its.toArray).size)
   (ksk_intKeys ik) ⟨acF _,G,G,G⟩ (by rw[ab];lia) (by rw[ab];exact af) λF a1 a2 a3=>⟨a1,a2,a3⟩) ?_ λ_ _ e=>e)
  rintro⟨⟨⟩,F⟩ s' ⟨rfl,J,O,hs⟩
  try dsimp only
  exact ac _ J (by rw[J.size_eq];exact hs) O
theorem X9 (ah:∀(H:Hp) (s:oq) (x:V) (u:Value) (Q:VK),AI X ge σ H s->Ao x u->sp [x] H Q E0->wpAny (model X.prog X.w) X.A.in1.in1 (call (.ref fa) [u]) (EP X ge σ Q) (λ_ _=>False) s)(I:AI X ge σ H s)(ha:H a=some (.AE xs))(s0:AK H0 H)(na:H0 a=none)
  (lr:kz.length=xs.length)(ao:xs.length<64)(al:∀(i:Nat) (x:V) (k:Int),xs[i]?=some x->kz[i]?=some k->W5 sp H0 x k)
  (q:∀(p:List Nat) s' H',Fm kz p->AK H0 H'->H' a=some (.AE (p.map λi=>xs.getD i .Ay))->AI X ge σ H' s'->Q (.done (.ret .none)) s') :
  wpAny (model X.prog X.w) X.A.in1.in1 (zD a (.ref fa) false) Q X.xe s:=by
 obtain⟨z,its,n,rv,li,e⟩:=I.DX ha;have I1:=I.GJ (its':=[]) (ys:=[]) (f:=λ_=>#[]) (t':=s.toks) ha e rfl .nil (o9 _);obtain⟨F,aa⟩:∃F,(s.heap.update a (pI λ_=>(#[]:Array Value))).get? a=some (pj "list" #[] F):=⟨_,get?_update_seq e λ_=>#[]⟩;have I2:=I1.Fi (x:=a) (e:=a) (o:=.ext λh=>h.get? a=some (pj "list" #[] F)) (t':=s.toks) (by rw[AQ];exact trivial) (.inl rfl) (λb u _ hu=>hu) ⟨_,aa⟩ ⟨aa,⟨_,aa⟩,λh1 h2 p1 k1=>k1 _ p1⟩;rw[TX]at I2;unfold zD;refine oa (zE e rfl ?_);refine oa (uC e rfl ?_ (by rw[oD,<-li,pD];lia) (o9 _));refine oa (aal aa rfl ?_);refine oa (aaO ?_ (by show its.length<=_;rw[<-li,pD];lia));refine oa (wo ?_ (o9 _));refine qW ?_;have I3:=I2.Bf (h':=(s.heap.update a (pI λ_=>(#[]:Array Value))).push (pj "tuple" its.toArray 0)) (t':=s.toks) λb o q=>oo _ q
 have fk:(AG H a (.ext λh=>h.get? a=some (pj "list" #[] F))) ((s.heap.update a (pI λ_=>(#[]:Array Value))).push (pj "tuple" its.toArray 0)).objs.size=none:=I3.fresh;have I4:=I3.Nh (its:=[]) (ys:=[]) (t':=s.toks) .nil (o9 _);have s1:AK H0 (AG H a (.ext λh=>h.get? a=some (pj "list" #[] F))):=λb o q=>by rw[AV (BD q na)];exact s0 b o q
 have s2:AK H0 (AG (AG H a (.ext λh=>h.get? a=some (pj "list" #[] F))) ((s.heap.update a (pI λ_=>(#[]:Array Value))).push (pj "tuple" its.toArray 0)).objs.size (.AE [])):=λb o q=>by rw[AV (BD (s1 b o q) fk)];exact s1 b o q
 have ab:((s.heap.update a (pI λ_=>(#[]:Array Value))).push (pj "tuple" its.toArray 0)).objs.size≠a:=λy=>by rw[y,AQ]at fk;cases fk
 have k0:H0 ((s.heap.update a (pI λ_=>(#[]:Array Value))).push (pj "tuple" its.toArray 0)).objs.size=none:=by
  cases hq:H0 ((s.heap.update a (pI λ_=>(#[]:Array Value))).push (pj "tuple" its.toArray 0)).objs.size with
  |none=>rfl
  |some o=>rw[s1 _ _ hq]at fk;cases fk
 have a4:(AG (AG H a (.ext λh=>h.get? a=some (pj "list" #[] F))) ((s.heap.update a (pI λ_=>(#[]:Array Value))).push (pj "tuple" its.toArray 0)).objs.size (.AE [])) a=some (.ext λh=>h.get? a=some (pj "list" #[] F)):=by rw[AV (qp ab),AQ]
 have k4:(AG (AG H a (.ext λh=>h.get? a=some (pj "list" #[] F))) ((s.heap.update a (pI λ_=>(#[]:Array Value))).push (pj "tuple" its.toArray 0)).objs.size (.AE [])) ((s.heap.update a (pI λ_=>(#[]:Array Value))).push (pj "tuple" its.toArray 0)).objs.size=some (.AE ((kz.take 0).map V.int)):=AQ;change wpAny _ _ _ _ _ { s with heap:=((s.heap.update a (pI λ_=>(#[]:Array Value))).push (pj "tuple" its.toArray 0)).push (pj "list" #[] 0),toks:=s.toks};change AI X ge σ _ { s with heap:=((s.heap.update a (pI λ_=>(#[]:Array Value))).push (pj "tuple" its.toArray 0)).push (pj "list" #[] 0),toks:=s.toks}at I4;generalize ((s.heap.update a (pI λ_=>(#[]:Array Value))).push (pj "tuple" its.toArray 0)).objs.size=kS at I4 s2 ab k0 a4 k4 ⊢;generalize AG (AG H a (.ext λh=>h.get? a=some (pj "list" #[] F))) kS (.AE [])=H4 at I4 s2 a4 k4;generalize ({ s with heap:=((s.heap.update a (pI λ_=>(#[]:Array Value))).push (pj "tuple" its.toArray 0)).push (pj "list" #[] 0),toks:=s.toks}:oq)=s4 at I4 ⊢;unfold ksk_rest;refine oa (uj ?_)
 first
  |rw[abr]
  |(rw[<-Array.forIn_toList];simp only[xZ])
  |rw[<-Array.forIn_toList]
 refine oa (ksk_fold (λi s'=>∃H',AI X ge σ H' s'/\AK H0 H'/\H' a=some (.ext λh=>h.get? a=some (pj "list" #[] F))/\H' kS=some (.AE ((kz.take i).map V.int))) its 0 s4
  ⟨H4,I4,s2,a4,k4⟩ ?step ?done)
 case step =>
  rintro j u s' hu ⟨H',I',sH,aH,J⟩;rw[vd]at J ⊢;obtain⟨x,hx,rx⟩:=Oo rv hu;have hj:j<xs.length:=(oh.mp hx).1;have af:kz[j]?=some kz[j]:=og ();have lt:((kz.take j).map V.int).length=j:=by rw[kb,pN];lia
  have ak:=ah H' s' x u (λv H2=>v=.int kz[j]/\AK H' H2) I' rx (al j x _ hx af H' sH _ λH3 O=>⟨G,O⟩);refine oa (xr (qR ak (λv ac he=>?_) λ_ _ hF=>hF.elim));obtain⟨w,H2,ag,ai,rfl,O⟩:=he;obtain⟨tk,rfl⟩:=ai
  try dsimp only
  obtain⟨hz,kv,kn,rk,am,ek⟩:=ag.DX (O _ _ J);have ae:kv.length=j:=by have:=rk.length;lia
  have ad:(kz.take (j+1)).map V.int=(kz.take j).map V.int++[.int kz[j]]:=by
   rw[vz,vz,xg,om,af];rfl
  have I5:=ag.GJ (its':=kv++[.int kz[j] tk]) (ys:=(kz.take (j+1)).map V.int) (f:=(·.push (.int kz[j] tk))) (t':=ac.toks) (O _ _ J) ek #v[] (by rw[ad];exact rk.append (.cons ⟨tk,G⟩ .nil)) (by rw[ad,oF,lt,rn,pD];lia);refine oa (uC ek rfl ?_ (by rw[oD,ae,pD];lia) (oO (abz (acG ..)) (by rw[oD,ae,pD];lia)));exact ou ⟨G,_,I5,λb o q=>by rw[AV (BD q k0)];exact O _ _ (sH _ _ q),by rw[AV (qp ab)];exact O _ _ aH,AQ⟩
 case done =>
  rintro s' ⟨H',I',sH,aH,J⟩;rw[vd,oQ ()]at J;obtain⟨hz,kv,kn,rk,am,ek⟩:=I'.DX J
  try dsimp only
  refine oa (zE ek rfl ?_);have ga:s'.heap.get? a=some (pj "list" #[] F):=(show BP X.prog X.w H' s'.heap a (.ext λh=>h.get? a=some (pj "list" #[] F)) from I'.AY a _ aH).1;refine Y4 I' rv ga aH J ab () rk ek () λp ac hp aj=>?_
  refine q p ac _ hp (λb o y=>?_) AQ aj;rw[AV (BD y na),AV (BD y k0)];exact sH _ _ y
end
section
variable {prog:pG}{w:World}{A:qM}{E:Value->oq->Prop}{s:oq}
theorem Yc {R:Result->oq->Prop}{r S:Addr}{a b c:Int}{t u v:Tok}{n J:Nat}(hh:A.handled=none)(hr:abS s.heap r a b c t u v)(aa:wC a b c=true)(hn:tJ a b c=n)(ab:n<=2 ^ 24)(hS:s.heap.get? S=some { cls:=.type "list",data:=.seq #[] J})
  (O:∀h' tk F c',(∀b o,b≠S->s.heap.get? b=some o->h'.get? b=some o)->h'.get? S=some { cls:=.type "list",dict:=none,data:=.seq F c',slots:=#[]} →
   aax (λi v=>∃t,v=.int (a+i*c) t) F n->R (.ok (.ret (.ref S))) { s with heap:=h',toks:=tk}):vV (model prog w) A (.builtin "list.__iadd__" ⟨[.ref S,.ref r],[]⟩) R s :=
 tZ entry_list_iadd' (wpAny_extend_range hh hr aa hn ab S (.ref S) J hS O)
theorem Xi {r:Addr}{a b c:Int}{t u v:Tok}{n:Nat}{Q:List Value->oq->Prop}(hh:A.handled=none)(O:abS s.heap r a b c t u v)(aa:wC a b c=true)(hn:tJ a b c=n)(ab:n<=2 ^ 24)
  (h:∀(h':Heap) (tk:Nat) (F:Array Value),s.heap.objs.size<h'.objs.size->(∀b o,s.heap.get? b=some o->h'.get? b=some o)->aax (λi v=>∃t,v=.int (a+i*c) t) F n->Q F.toList { s with heap:=h',toks:=tk}) :
  wpAny (model prog w) A (collect (.ref r)) Q E s:=by
 unfold collect;refine oa (aaQ (tZ aa1 ?_));show wpAny _ _ (do again (.builtin "list.__iadd__" ⟨[<-newList [],.ref r],[]⟩)) _ _ s;refine oa (wo (ou ⟨abo _ (by decide +kernel),Yc (s:={ s with heap:=s.heap.push (pj "list" #[] 0)}) (S:=s.heap.objs.size) hh (oo _ O) aa hn ab (oJ _ rfl) λh' tk F c' hk J hI=>?_⟩))
 try dsimp only
 refine oa (aa3 J ?_);exact ou (h h' tk F (oK J) (λb o e=>hk b o (o6 (oK e)) (oo _ e)) hI)
end
section
variable {prog:pG}{w:World}{A:qM}{E:Value->oq->Prop}{s:oq}
theorem YW {r O:Addr}{n:Nat}{t u v:Tok}{Q:Value->oq->Prop}(hh:A.handled=none)(hr:abS s.heap r 0 n 1 t u v)(ac:n<64)
  (h:∀(D:Addr) (its:List Value) (h':Heap) (tk:Nat),s.heap.objs.size<=D->(∀b o,s.heap.get? b=some o->h'.get? b=some o)->h'.get? D=some (pj "list" its.toArray 0)->Af ((oN n).map λi:Nat=>V.int (i:Int)) its →
   wpAny (model prog w) A.in1.in1 (zD D (.ref O) false) (λf J=>f=.done (.ret .none)/\Q (.ref D) J) E { s with heap:=h',toks:=tk}):wpAny (model prog w) A (call (.builtin "sorted") [.ref r] [(tq "key",.ref O)]) Q E s:=by
 refine aak acg abN abK (ksk_s1 _ _) ?_;unfold oY.«sorted»;refine oa (m:=acY "sorted" 1 1 _) (ou ?_);refine oa (Xi hh hr (small_one () () () ()) (n:=n) (by rw[rangeSize_one];split<;>lia) () λh1 tk F ab k1 hI=>?_);obtain⟨hl,hI⟩:=hI;have rv:Af ((oN n).map λi:Nat=>V.int (i:Int)) F.toList:=by
  refine R1 (by rw[kb,pC,qm,hl]) λi x u e1 e2=>?_
  have hi:i<n:=by
   have:=(oh.mp e2).1
   rw[qm,hl]at this;exact this
  rw[om,qc hi]at e1;obtain⟨t',ht⟩:=hI i u (by rw[<-Array.getElem?_toList];exact e2);cases e1;exact⟨t',by rw[ht];congr 1;lia⟩
 have al:F.toList.length=n:=by rw[qm,hl]
 refine oa (wo ?_ (by rw[al,pD];lia));have hL:(h1.push (pj "list" F.toList.toArray 0)).get? h1.objs.size=some (pj "list" F.toList.toArray 0):=oJ _ rfl;have aa:∀b o,s.heap.get? b=some o->(h1.push (pj "list" F.toList.toArray 0)).get? b=some o:=λb o q=>oo _ (k1 b o q)
 show wpAny _ _ _ _ _ { s with heap:=h1.push (pj "list" F.toList.toArray 0),toks:=tk};refine oa (qW (abm aaM ⟨_,hL,G⟩ zY (qR (?body:wpAny (model prog w) A.in1.in1 (oY.«list.sort» ⟨[.ref h1.objs.size],[(tq "key",.ref O)]⟩) (λf J=>f=.done (.ret .none)/\Q (.ref h1.objs.size) J) E _) ?_ λ_ _ e=>e) (ksk_l1 _ _)))
 case body =>
  rw[ksk_t1];exact h _ _ _ _ (va ab) aa hL rv
 rintro f J ⟨rfl,hq⟩;exact⟨_,G,ou ⟨_,G,hq⟩⟩
end
section
variable {X:Cx}{ge:List (Addr×Obj)}{σ:St}{H:Hp}{s:oq}{params:vC}{body:pJ}{scope:Scope}{cl:List (Str×Addr)}{lpos:Pos}{c T:Addr}
def K7(f c:Addr)(q:Str)(params:vC)(body:pJ)(scope:Scope)(cl:List (Str×Addr))(pm:Value)(vs:List V)(rd:V->List V->Hp->VK->Prop):Sp:=λxs H Q _=>∃x,xs=[x]/\H f=some (FN q params body scope cl pm f c)/\H c=some (FK q c)/\rd x vs H Q
theorem Sg (S:NW X scope cl N js)(ab:scope.names.lookup pn=some .local)(af:js.length=N.length)(ag:vs.length=js.length)(ae:∀(i j:Nat),js[i]?=some j->∃v,vs[i]?=some v/\σ[j]?=some (some v))(hr:Room (k+3) X.A)
  (hb:∀(qual:Str) (pm:Value) (c:Addr) (ctv u:Value),wc (kla_fn "<lambda>" qual params body scope cl pm (.ref c) ctv) ⟨[u],[]⟩=pure [(pn,u)])
  (ad:∀(f c:Addr) (A:qM) (ac:List Env) (s:oq) (x:V) (vs:List V) (H:Hp) (Q:VK),rd x vs H Q->∃t,PE (Jw Ae X.prog X.w X.K X.mg X.base (pn :: N) q scope cl f (.ref c) A ac s H E0) body t/\t (some x :: vs.map some) H Q)
  (I:AI X ge σ H s)(rx:Ao x u)(h:K7 f c' q params body scope cl pm vs rd [x] H Q E0):wpAny (model X.prog X.w) X.A.in1.in1 (call (.ref f) [u]) (EP X ge σ Q) (λ_ _=>False) s:=by
 obtain⟨x',e,h1,h2,h3⟩:=h;cases e;have C:V6 scope cl pn N vs s H:=by
  refine⟨ab,λi x hi=>?_,λx F O=>?_,λx y F O hy=>?_,S.has,()⟩
  ·obtain⟨jj,F,h1,h2,h3,h4,h5,h6⟩:=S.nm i x hi;obtain⟨v,h7,h8⟩:=ae i jj h1;obtain⟨m,_,lc⟩:=I.D4;obtain⟨u,ru,lk⟩:=lc jj x v h2 h8 (.inr (.inl h6));rcases lk with ⟨z,_⟩|⟨_,c2,z1,z2⟩
   ·have z':X.env.scope.names.lookup x=some .local:=z;rw[h6]at z';cases z'
   ·rw[h5]at z1;cases z1;exact⟨F,u,v,h3,h4,z2,h7,ru⟩
  ·have aa:=S.QP x F O;exact⟨I.FH x F aa,I.cell x F aa⟩
  ·exact I.ok.inj x y F (S.QP x F O) (S.QP y F hy)
 refine ac2 (vW (Zv (k:=k) (x:=pn) (N:=N) (vs:=vs) (v:=x) (CX:=Ae) (Q:=Q) (E:=E0) S.kind S.co S.Qn S.nc hr.in1.in1 I.Wt.in1.in1 C rx h1 h2 (λctv=>hb _ _ _ ctv u) (ad f c' _ _ s x vs H Q h3)) λr s' J=>?_);cases r with
 |error e=>exact qP J
 |ok fl =>
  cases fl with
  |ret u=>exact I.after J
  |next=>exact qP J
  |brk=>exact qP J
  |cont=>exact qP J
def VB(ta:TE)(T:Addr)(q:Str)(params:vC)(body:pJ)(scope:Scope)(cl:List (Str×Addr))(pm:Value)(js:List Nat)(rd:V->List V->Hp->VK->Prop):TE:=λσ H Q=>ta σ H λv H1=>∃n:Nat,v=.int (n:Int)/\n<64/\CQ H1 T q /\
 ∃vs:List V,vs.length=js.length/\(∀(i j:Nat),js[i]?=some j->∃v,vs[i]?=some v/\σ[j]?=some (some v)) /\
 ∀(f c:Addr) (H2:Hp),Dh T H1 H2->H1 f=none->CQ H2 T q->H2 c=some (FK q c)->H2 f=some (FN q params body scope cl pm f c)->∃F:List Int,F.length=n/\(∀(i:Nat) (k:Int),F[i]?=some k->W5 (K7 f c q params body scope cl pm vs rd) H2 (.int (i:Int)) k) /\
 ∀(D:Addr) (p:List Nat) (H':Hp),Fm F p->AK H2 H'->H2 D=none->H' D=some (.AE (p.map λi:Nat=>V.int (i:Int)))->Q (.ref D) H'
theorem Zp {k:Nat}{pn:Str}{N:List Str}{js:List Nat}{rd:V->List V->Hp->VK->Prop}{a:pJ}{kp p p' J pos:Pos}{ta:TE}(hc:X.B9=true)(S:NW X scope cl N js)(ap:scope.names.lookup pn=some .local)(ad:js.length=N.length)(hr:Room (k+3) X.A)(hg:Gl X "sorted")(hm:X.mg "sorted" = none)(aq:Gl X "range")(aj:X.mg "range" = none)(ha:PE X a ta)
  (ao:X.env.code=.ref c)(hC:CodeHd X.base c T)(hB:FG X.mg X.base)(ag:acZ params X.env=([],[]))
  (hb:∀(qual:Str) (pm:Value) (c:Addr) (ctv u:Value),wc (kla_fn "<lambda>" qual params body scope cl pm (.ref c) ctv) ⟨[u],[]⟩=pure [(pn,u)])
  (am:∀(f c:Addr) (A:qM) (ar:List Env) (s:oq) (x:V) (vs:List V) (H:Hp) (Q:VK),rd x vs H Q->∃t,PE (Jw Ae X.prog X.w X.K X.mg X.base (pn :: N) (X.env.qual++"<lambda>") scope cl f (.ref c) A ar s H E0) body t/\t (some x :: vs.map some) H Q)
  (hs:pK [.Call (.Name "range" p') [a] [] J] X.env=[(false,eval (.Call (.Name "range" p') [a] [] J) X.env)]:=by rfl)(ac:pK [a] X.env=[(false,eval a X.env)]:=by rfl) :
  PE X (.Call (.Name "sorted" p) [.Call (.Name "range" p') [a] [] J] [⟨some "key",.Lambda params body scope lpos,kp⟩] pos) (VB ta T (X.env.qual++"<lambda>") params body scope cl ((X.mg "__name__").getD .none) js rd):=by
 intro ge s σ H Q I h;refine uv (FC I hg hm Qw ?_ ∅ ∅);refine callWith_kw ?_ (by rw[hs];rfl) (by rw[hs];rfl) rfl rfl;rw[hs];refine abn ?_;refine uv (FC I aq aj aa0 ?_ ∅ ∅);have al:PA X [a] (A7 ta Ba):=AA ha AD (by rw[ac];rfl);have hq:A7 ta Ba σ H (λvs H1=>match vs with
   |[v]=>VB (λ_ H Q=>Q v H) T (X.env.qual++"<lambda>") params body scope cl ((X.mg "__name__").getD .none) js rd σ H1 Q
   |_=>False):=h
 refine rE (AZ (al J ge _ σ H _ I hq) λus F ⟨vs,H2,O,r2,q2⟩=>?_) (by rw[ac];rfl) (by rfl);cases r2 with
 |nil=>exact qP q2
 |cons r rr =>
  cases rr with
  |cons _ _=>exact qP q2
  |nil =>
   obtain⟨n,rfl,hn,hT,vs,ai,au,hk⟩:=q2;obtain⟨t,rfl⟩:=r;refine call_range_1 (abV ?_);have I3:=O.Bf (h':=F.heap.push { cls:=.type "range",data:=.fields #[.int 0 F.toks,.int (n:Int) t,.int 1 (F.toks+1)]}) (t':=F.toks+1+1) λb o e=>oo _ e
   have gr:(F.heap.push { cls:=.type "range",data:=.fields #[.int 0 F.toks,.int (n:Int) t,.int 1 (F.toks+1)]}).get? F.heap.objs.size=some { cls:=.type "range",data:=.fields #[.int 0 F.toks,.int (n:Int) t,.int 1 (F.toks+1)]}:=oJ _ rfl;have I4:AI X ((F.heap.objs.size,({ cls:=.type "range",data:=.fields #[.int 0 F.toks,.int (n:Int) t,.int 1 (F.toks+1)]}:Obj)) :: ge) σ H2 _:=I3.Me (λp hp=>?pin)
   case pin =>
    rcases oG.mp hp with rfl|hp
    ·exact⟨gr,O.fresh,rK O.lt,O.Wm (oz _),λv z=>by cases z⟩
    ·exact I3.pin p (qB _ hp)
   refine kws_cons (Rn I4 ao hC hB S.Nr ag hT λf c' H5 s5 I5 bt nf tb ah af=>kws_nil ?_);have g5:=(I5.pin _ (qB _ (rh ..))).1;obtain⟨kz,aw,ak,q⟩:=hk f c' H5 bt nf tb ah af;refine YW (n:=n) (I5.ok.hd hc) g5 hn λD its h' tk hD ae hg rv=>?_
   have aa:H5 D=none:=I5.AY.fresh hD;have lx:((oN n).map λi:Nat=>V.int (i:Int)).length=n:=by rw[kb,pC]
   have I6:=I5.laid (a:=D) (o:=.AE ((oN n).map λi:Nat=>V.int (i:Int))) (t':=tk) ae hD (show BP X.prog X.w _ h' D (.AE _) from ⟨by rw[lx,pD];lia,its,0,rv,hg⟩);refine X9 (sp:=K7 f c' (X.env.qual++"<lambda>") params body scope cl ((X.mg "__name__").getD .none) vs rd) (λH s x u Q I rx hx=>Sg S ap ad ai au hr hb am I rx hx) I6 AQ (H0:=H5) (λb o e=>by rw[AV (BD e aa)];exact e) aa () () (λi x k e1 e2=>?_) λp av H' hp sH hA ab=>⟨G,.ref _,H',ab.Me λp hp=>?_,G,q D p H' hp sH aa ?_⟩
   ·rw[om]at e1;obtain⟨j,hj,rfl⟩:=qe.mp e1;have il:i<n:=by have:=(oh.mp hj).1;rwa [pC]at this
    rw[qc il]at hj;cases hj;exact ak i k e2
   ·exact ab.pin p (qB _ (pF _ hp))
   ·rw[hA];congr 2;refine sQ λi hi=>?_
    have il:i<n:=by have:=pW.mp (hp.1.mem_iff.mp hi);lia
    rw[oj,om,qc il];rfl
def UK(ta:TE)(T:Addr)(q:Str)(params:vC)(body:pJ)(scope:Scope)(cl:List (Str×Addr))(pm:Value)(js:List Nat)(rd:V->List V->Hp->VK->Prop):TE:=λσ H Q=>ta σ H λv H1=>CQ H1 T q /\
 ∃vs:List V,vs.length=js.length/\(∀(i j:Nat),js[i]?=some j->∃v,vs[i]?=some v/\σ[j]?=some (some v)) /\
 ∀(f c:Addr) (H2:Hp),Dh T H1 H2->H1 f=none->CQ H2 T q->H2 c=some (FK q c)->H2 f=some (FN q params body scope cl pm f c)->Uc (K7 f c q params body scope cl pm vs rd) v H2 Q
theorem bA {k:Nat}{pn:Str}{N:List Str}{js:List Nat}{rd:V->List V->Hp->VK->Prop}{e:pJ}{kp p pos:Pos}{ta:TE}(S:NW X scope cl N js)(ac:scope.names.lookup pn=some .local)(ad:js.length=N.length)(hr:Room (k+3) X.A)(hg:Gl X "sorted")(hm:X.mg "sorted" = none)(ha:PE X e ta)
  (ab:X.env.code=.ref c)(hC:CodeHd X.base c T)(hB:FG X.mg X.base)(aa:acZ params X.env=([],[]))
  (hb:∀(qual:Str) (pm:Value) (c:Addr) (ctv u:Value),wc (kla_fn "<lambda>" qual params body scope cl pm (.ref c) ctv) ⟨[u],[]⟩=pure [(pn,u)])
  (ak:∀(f c:Addr) (A:qM) (aj:List Env) (s:oq) (x:V) (vs:List V) (H:Hp) (Q:VK),rd x vs H Q->∃t,PE (Jw Ae X.prog X.w X.K X.mg X.base (pn :: N) (X.env.qual++"<lambda>") scope cl f (.ref c) A aj s H E0) body t/\t (some x :: vs.map some) H Q)
  (J:pK [e] X.env=[(false,eval e X.env)]:=by rfl):PE X (.Call (.Name "sorted" p) [e] [⟨some "key",.Lambda params body scope lpos,kp⟩] pos) (UK ta T (X.env.qual++"<lambda>") params body scope cl ((X.mg "__name__").getD .none) js rd):=by
 intro ge s σ H Q I h;refine uv (FC I hg hm Qw ?_ ∅ ∅);have ai:PA X [e] (A7 ta Ba):=AA ha AD (by rw[J];rfl);have hq:A7 ta Ba σ H (λvs H1=>match vs with
   |[v]=>UK (λ_ H Q=>Q v H) T (X.env.qual++"<lambda>") params body scope cl ((X.mg "__name__").getD .none) js rd σ H1 Q
   |_=>False):=h
 refine callWith_kw (AZ (ai pos ge s σ H _ I hq) λus s1 ⟨vs,H1,I1,r1,F⟩=>?_) (by rw[J];rfl) (by rw[J];rfl) rfl rfl;cases r1 with
 |nil=>exact qP F
 |cons r rr =>
  cases rr with
  |cons _ _=>exact qP F
  |nil =>
   obtain⟨hT,vs,ah,ae,hk⟩:=F;refine kws_cons (Rn I1 ab hC hB S.Nr aa hT λf O H2 s2 I2 bt nf tb af ag=>kws_nil ?_);exact YZ (sp:=K7 f O (X.env.qual++"<lambda>") params body scope cl ((X.mg "__name__").getD .none) vs rd) (λH s x u Q I rx hx=>Sg S ac ad ah ae hr hb ak I rx hx) I2 r (hk f O H2 bt nf tb af ag)
end
end L2
namespace L2
open PySem PySem.Spec PyProof.Rows
section
variable {pr:pG}{w:World}{A:qM}{E:Value->oq->Prop}
theorem SS(J:t≠j):∀(n i:Nat) (s:oq) (Q:List Value->oq->Prop),s.heap.IsListIter j t i->s.heap.IsList t zs->i+n<=zs.size →
  (∀g,g.IsListIter j t (i+n)->qr j s.heap g->Q ((zs.toList.drop i).take n) { s with heap:=g})->wpAny (model pr w) A (draw (.ref j) n) Q E s
 |0,i,s,Q,a,_,_,q=>ou (M:=model pr w) (by simpa using q s.heap a (abX ..))
 |n+1,i,s,Q,a,b,le,q=>by
  have lt:i<zs.size:=()
  show wpAny _ _ (vh (.ref j) >>= _) Q E s;refine oa (aas a b (x:=zs[i]) (by simp[lt]) λg1 a1 F=>?_);refine oa (qW (SS J n (i+1) _ _ a1 (b.extBut F.extBut J) () λg2 O e2=>ou ?_));have z:=q g2 (by rw[show i+(n+1)=i+1+n by lia];exact O) (F.trans e2);rw[show zs.toList.drop i=zs[i] :: zs.toList.drop (i+1) by simp[List.drop_eq_getElem_cons,lt],List.take_succ_cons]at z;exact z
theorem ji {s:oq}{t:Addr}{zs:Array Value}{Q:List Value->oq->Prop}(hh:A.handled=none)(b:s.heap.IsList t zs)
  (q:∀g,uQ s.heap.objs.size s.heap g->Q zs.toList { s with heap:=g}):wpAny (model pr w) A (unpackItems (.ref t) zs.size none) Q E s:=by
 have O:t≠s.heap.objs.size:=by obtain⟨o,ho,_⟩:=b;exact o6 (oK ho)
 unfold unpackItems;refine oa ?_;unfold notIterableAtAll;refine oa (z9 b.typeIs slot_list_iter.lookup (ou ?_));rw[oC o8];refine oa (qW (tN b ?_));refine oa (qW (SS O zs.size 0 _ _ ⟨_,oJ _ rfl,G,G⟩ (b.push _) () λg1 a1 J=>?_));rw[List.drop_zero,oQ #v[],oC #v[]];refine oa (qW (aaP hh a1 ((b.push _).extBut J.extBut O) #v[] λg2 e2=>?_));rw[oC #v[]];exact ou (q g2 λc o F e=>e2 c o F (J.extBut c o F (oo _ e)))
end
section
variable {X:Cx}{pos:Pos}
def Wg(K:ow)(n:Nat)(t:E5):TG:=λv σ H Q=>∃a xs,v=.ref a/\AJ K H a xs/\xs.length=n/\t xs σ H Q
theorem iO {es:List Expr}{k:Nat}{t:E5}{n:Nat}(hc:X.B9=true)(h:JM X es t)
  (hn:(tS es X.env).length=n:=by rfl)(aa:(tS es X.env).findIdx? (·.1)=none:=by rfl):PG X (.Tuple es k pos) (Wg X.K n t):=by
 intro ge s σ H v u Q I r F;obtain⟨a,xs,rfl,hq,hl,F⟩:=F;cases r;obtain⟨its,J,⟨o,m,e,c,_,d⟩,hz⟩:=I.list hq;have il:s.heap.IsList a its.toArray:=⟨o,e,c,m,d⟩;have ln:(tS es X.env).length=its.toArray.size:=by simp[hn,<-hl,J.length]
 rw[assign_Tuple];refine oa (xt ?_);unfold unpack;rw[ln,aa];refine oa (qW (ji (I.ok.hd hc) il λg hx=>?_));have O:AI X ge σ H { s with heap:=g}:=I.Bf (t':=s.toks) λb o e=>hx b o (o6 (oK e)) e
 exact h ge _ σ H xs _ Q O (by simpa using J) F
theorem jy {K:ow}{es:List pJ}{k:Nat}{t:E5}{n:Nat}(J:X.B9=true)(g:JM X es t)(h:X.K=K:=by rfl)
  (F:(tS es X.env).length=n:=by rfl)(O:(tS es X.env).findIdx? (·.1)=none:=by rfl):PG X (.Tuple es k pos) (Wg K n t):=h ▸ iO J g F O
end
end L2
namespace L2
open PySem PySem.Spec PyProof.Rows PySem.W
theorem YX {P:pG}{w:World}{K:ow}{mg mb:Str->Option Value}{k:Nat}{fa a:Addr}{Ts:List Addr}{fd:qU}{x:Str}{sp:Sp}{O:oq}{vs:List Value}{ns:List Int}
  (KX:K.In O.heap)(aj:O.heap.Ns rH mg)(J:O.heap.Ns xQ mb)(ar:∀x:Str,x≠"__name__"->mb x=qY x)(ax:O.heap.NoLimit)(hg:O.gens = #[])
  (gT:∀T∈Ts,O.heap.get? T=some (abQ #[]))(ap:∀T∈Ts,K.lookup T=none)(hC:∀T∈Ts,∃c,CodeHd O.heap c T)(aw:FG mg O.heap)
  (ha:O.heap.get? a=some { cls:=.type "list",data:=.seq vs.toArray})(hi:sv vs ns)(hl:ns.length<=oR)(hr:Room k y8)
  (F:∀base:Heap,K.In base->base.Ns rH mg->FG mg base->Ai P w K mg base Ae k fa fd [x] sp)(ay:∀(s:oq) (u:Value),aau s fd ⟨[u],[]⟩ [(x,u)])
  (au:∀H:Hp,(∀T∈Ts,H T=some (.CT #[]))->AJ K H a (ns.map V.int)->sp [.ref a] H (λv _=>v=.bl true) λ_ _ _=>False) :
  vV (model P w) y8 (.call (.ref fa) ⟨[.ref a],[]⟩) (λr s'=>r=.ok (.ret (.bool true))/\OldK O.heap s'.heap/\s'.os=O.os/\xx s'.gens) O:=by
 have rv:=RS hi;have av:=hi.length;have ah:a∉Ts:=λz=>by rw[gT a z]at ha;cases ha
 have af:∀H:Hp,(∀T∈Ts,H T=some (.CT #[]))->(∀b,H b=none\/(∃o xs,H b=some (.EF o (.AE xs)))\/b∈Ts)->AJ K H a (ns.map V.int)->Bp P w H O.heap->(∀b,H b≠none->b=a\/b∈Ts)->(H a≠none->K.lookup a=none) →
   vV (model P w) y8 (.call (.ref fa) ⟨[.ref a],[]⟩) (λr s'=>r=.ok (.ret (.bool true))/\OldK O.heap s'.heap/\s'.os=O.os/\xx s'.gens) O:=by
  intro H hT hO hS ag hA hK;have ad:∀{b:Addr} {o:Obj},O.heap.get? b=some o->H b=none->(GO O.heap H).get? b=some o:=λe n=>cJ e n
  have ak:∀{b:Addr} {o:Obj},O.heap.get? b=some o->o≠{ cls:=.type "list",data:=.seq vs.toArray}->o≠abQ #[]->H b=none:=λ{b o} e d1 d2=>by
   cases q:H b with
   |none=>rfl
   |some u =>
    rcases hA b (by rw[q];simp)with e'|e'
    ·subst e';rw[ha]at e;exact absurd (oV e).symm d1
    ·rw[gT b e']at e;exact absurd (oV e).symm d2
  have ac:∀{b:Addr} {m:Str->Option Value},O.heap.Ns b m->(GO O.heap H).Ns b m:=λ{b m} ⟨o,es,ep,e,d,r⟩=>⟨o,es,ep,ad e (ak e (λz=>by rw[z]at d;cases d) (λz=>by rw[z]at d;cases d)),d,r⟩
  have am:K.In (GO O.heap H):=λb o e=>ad (KX b o e) (by
   cases q:H b with
   |none=>rfl
   |some u =>
    rcases hA b (by rw[q];simp)with e'|e'
    ·subst e';rw[hK (by rw[q];simp)]at e;cases e
    ·rw[ap b e']at e;cases e)
  have hM:Mod K mg (GO O.heap H):=⟨am,ac aj,⟨mb,ac J,ar⟩,let ⟨mc,h1,h2⟩:=ax;⟨mc,ac h1,h2⟩⟩;have ao:FG mg (GO O.heap H):=by
   obtain⟨bm,o,b1,b2,b3,b4,b5,b6⟩:=aw;exact⟨bm,o,b1,b2,b3,ad b4 (ak b4 (λz=>by rw[z]at b6;exact nomatch b6.2) (λz=>by rw[z]at b6;exact nomatch b6.2)),b5,b6⟩
  have e0:IA P w K mg (GO O.heap H) y8 [] O H:=⟨G,hM,λb o e=>dO e,abz (Zk _ _),trivial,λb J=>absurd (show b∈([]:List Addr) from J) #v[],ag,.of_eq hg⟩;refine vW ((F _ am (ac aj) ao).XH y8 [] O H ⟨[.ref a],[]⟩ [.ref a] [.ref a] _ _ hr e0 (ay O (.ref a)) (.cons rfl .nil) (au H hT hS)) λr s' h=>?_
  cases r with
  |error e=>exact qP h
  |ok fl =>
   cases fl with
   |next=>exact qP h
   |brk=>exact qP h
   |cont=>exact qP h
   |ret u =>
    obtain⟨v,H',os,aq,un,ai,r',q⟩:=h;have q':v=.bl true:=q;subst q';obtain rfl:u=uO true:=r';have al:∀b o,O.heap.get? b=some o->s'.heap.get? b=some o\/(b∈Ts/\o=abQ #[]/\∃ab,s'.heap.get? b=some (abQ (#[]++ab))):=λb o e=>by
     cases q:H b with
     |none=>exact .inl (un.keep b o e q (by intro z;exact absurd (show b∈([]:List Addr) from z) #v[]) #v[])
     |some u =>
      rcases hO b with z|⟨ob,xs,z⟩|z
      ·rw[q]at z;cases z
      ·have z2:=un.Hz b ob _ z;obtain⟨e1,_⟩:=ag b _ z;obtain⟨e2,_⟩:=ai b _ z2;rw[e]at e1;cases e1;exact .inl e2
      ·rw[gT b z]at e;obtain⟨ab,z2⟩:=un.Hs b _ (hT b z);exact .inr ⟨z,(oV e).symm,ab,ai b _ z2⟩
    refine⟨G,⟨λb o e=>?_,λb o e=>?_⟩,os,aq⟩
    ·rcases al b o e with z|⟨J,rfl,ab,z⟩
     ·exact .inl z
     ·obtain⟨c,hc⟩:=hC b J;exact .inr (.inl ⟨(hc.tab (gT b J)).isCodeTable,G,#[],ab,G,z⟩)
    ·rcases al b o e with z|⟨J,rfl,ab,z⟩
     ·exact⟨_,z⟩
     ·exact⟨_,z⟩
 have nI:∀(H0:Hp) (b:Addr),b∉Ts->(λb=>if b∈Ts then some (HO.CT #[]) else H0 b:Hp) b=H0 b:=λH0 b J=>oC J
 have yI:∀(H0:Hp) (b:Addr),b∈Ts->(λb=>if b∈Ts then some (HO.CT #[]) else H0 b:Hp) b=some (.CT #[]):=λH0 b J=>oH J
 cases hk:K.lookup a with
 |some o =>
  have e:=KX a o hk;rw[ha]at e;cases e;refine af (λb=>if b∈Ts then some (.CT #[]) else none) (λT h=>yI (λ_=>none) T h) (λb=>?_) (.inr ⟨_,vs.toArray,_,hk,G,G,G,by rw[oD,av];exact hl,by simpa using rv⟩) (λb u z=>?_) (λb z=>?_) λz=>absurd (nI (λ_=>none) a ah) z
  ·by_cases J:b∈Ts
   ·exact .inr (.inr J)
   ·exact .inl (nI (λ_=>none) b J)
  ·by_cases J:b∈Ts
   ·rw[yI (λ_=>none) b J]at z;cases z;exact gT b J
   ·rw[nI (λ_=>none) b J]at z;cases z
  ·by_cases J:b∈Ts
   ·exact .inr J
   ·exact absurd (nI (λ_=>none) b J) z
 |none =>
  let H0:Hp:=AG (λ_=>none) a (.EF { cls:=.type "list",data:=.seq vs.toArray} (.AE (ns.map V.int)))
  have ae:H0 a=some (.EF { cls:=.type "list",data:=.seq vs.toArray} (.AE (ns.map V.int))):=AQ;refine af (λb=>if b∈Ts then some (.CT #[]) else H0 b) (λT h=>yI H0 T h) (λb=>?_) (.inl (.inr ⟨{ cls:=.type "list",data:=.seq vs.toArray},(nI H0 a ah).trans ae⟩)) (λb u z=>?_) (λb z=>?_) λ_=>hk
  ·by_cases J:b∈Ts
   ·exact .inr (.inr J)
   ·by_cases aa:b=a
    ·subst aa;exact .inr (.inl ⟨_,_,(nI H0 b J).trans ae⟩)
    ·exact .inl ((nI H0 b J).trans (AV aa))
  ·by_cases J:b∈Ts
   ·rw[yI H0 b J]at z;cases z;exact gT b J
   ·rw[nI H0 b J]at z;by_cases aa:b=a
    ·subst aa;rw[ae]at z;cases z;exact⟨ha,by rw[kb];exact hl,vs,_,rv,ha⟩
    ·rw[show H0 b=none from AV aa]at z;cases z
  ·by_cases J:b∈Ts
   ·exact .inr J
   ·by_cases aa:b=a
    ·exact .inl aa
    ·exact absurd ((nI H0 b J).trans (AV aa)) z
theorem Yx {l:xP}{K:Params->ow}{sp:World->Sp}{Ts:List Addr}
  (hn:l.most=some n)(ag:n<=oR)(ad:d.params.defaults=[])(hr:Room k y8)
  (hY:∀(w:World) (h:Heap),YP w h->(K w.params).In h/\∀T∈Ts,h.get? T=some (abQ #[]))
  (F:∀(w:World) (mg:Str->Option Value) (J:Addr) (h:Heap),(K w.params).In h->h.Ns rH mg->mg d.name=some (.ref J) →
   ∃fd:qU,(∀(s:oq) (u:Value),aau s fd ⟨[u],[]⟩ [(x,u)])/\(∀T∈Ts,(K w.params).lookup T=none/\∃c,codeHdIn (K w.params) c T=true) /\
    ∀base:Heap,(K w.params).In base->base.Ns rH mg->FG mg base->Ai l.prog w (K w.params) mg base Ae k J fd [x] (sp w))
  (af:∀(w:World) (H:Hp) (a:Addr) (ns:List Int),ns.length<=n->(∀T∈Ts,H T=some (.CT #[]))->AJ (K w.params) H a (ns.map V.int)->sp w [.ref a] H (λv _=>v=.bl true) λ_ _ _=>False) :
  adk q loose XP YP l.row.toRowW d [] (λf vs=>acV f vs):=by
 refine Att.X6 hn ad λw s₀ s₁ mg mb J o pm cd doc a vs ns G Y ho hd ai ah ac ae ab hg=>?_
 obtain⟨KX,gT⟩:=hY w _ Y;obtain⟨fd,hb,aa,hF⟩:=F w mg J _ KX G.T.g ah;have bm:FG mg s₁.heap:=by
  obtain⟨bm,ob,b1,b2,O,b4,b5,b6⟩:=G.T.bmain;refine⟨bm,ob,b1,b2,λz=>?_,O,b4,b5,b6⟩;obtain⟨o,es,ep,e,hd,_⟩:=G.T.g;rw[z,e]at O;cases O;rw[hd]at b6;cases b6
 exact YX KX G.T.g G.T.b G.T.builtins G.T.nolimit hg gT (λT h=>(aa T h).1) (λT h=>let ⟨c,hc⟩:=(aa T h).2;⟨c,codeHd_of_K KX hc⟩) bm ac ae (oO ab ag) hr hF hb λH hO hS=>af w H a ns ab hO hS
end L2
namespace Mth
theorem Rz(a b:Int):qJ b (a.fmod b)=qJ a b:=by
 rw[Int.fmod_def];have e:a-b*a.fdiv b=a+b*(-(a.fdiv b)):=by rw[Int.mul_neg,Int.sub_eq_add_neg]
 rw[e,Int.gcd_add_mul_left_right,Int.gcd_comm]
theorem fT(a b:Int)(h:b≠0):(a.fmod b).natAbs<b.natAbs:=by
 rw[Int.fmod_eq_emod];have h1:=qK a h;have h2:=Int.emod_lt a h;split
 ·lia
 ·rename_i z
  have:¬b ∣ a:=λq=>z (abE q)
  have hz:a%b≠0:=λq=>this (Int.dvd_of_emod_eq_zero q)
  lia
def BN(t b:Int):Int:=if b<0 then -(qJ t b:Int) else (qJ t b:Int)
def BR(t b:Int):Int×Int:=(t.fdiv (BN t b),b.fdiv (BN t b))
theorem MY(t b:Int)(h:b≠0):0<qJ t b:=Int.gcd_pos_of_ne_zero_right _ h
theorem Mk(t b:Int)(h:b≠0):BN t b≠0:=by
 have:=MY t b h
 unfold BN;split<;>lia
theorem Qx(t b:Int):BN t b ∣ t:=by
 unfold BN;split
 ·exact Int.neg_dvd.mpr (uY t b)
 ·exact uY t b
theorem Qz(t b:Int):BN t b ∣ b:=by
 unfold BN;split
 ·exact Int.neg_dvd.mpr (vL t b)
 ·exact vL t b
theorem M8(t b:Int):(BR t b).1*BN t b=t:=by
 show t.fdiv (BN t b)*BN t b=t;rw[qw (Qx t b),abb (Qx t b)]
theorem K4(t b:Int):(BR t b).2*BN t b=b:=by
 show b.fdiv (BN t b)*BN t b=b;rw[qw (Qz t b),abb (Qz t b)]
theorem SE(t b:Int)(h:b≠0):0<(BR t b).2:=by
 have e:=K4 t b;have g:=MY t b h;rcases Int.lt_or_lt_of_ne h with h1|h1
 ·have F:BN t b<0:=by unfold BN;rw[oH h1];lia
  rcases xG 0 (BR t b).2 with q|q
  ·exact q
  ·have:0<=(BR t b).2*BN t b:=Int.mul_nonneg_of_nonpos_of_nonpos q (wJ F)
   lia
 ·have F:0<BN t b:=by unfold BN;rw[oC ()];lia
  rcases xG 0 (BR t b).2 with q|q
  ·exact q
  ·have:(BR t b).2*BN t b<=0:=xb q (wJ F)
   lia
theorem Q9(t b:Int):(BR t b).1*b=t*(BR t b).2:=by
 have J:=M8 t b;have F:=K4 t b;generalize (BR t b).1=n at *;generalize (BR t b).2=d at *;generalize BN t b=p at *;subst J;subst F;rw[xH d p,xo]
theorem bK(t b:Int)(h:b≠0):qJ (BR t b).1 (BR t b).2=1:=by
 have O:=M8 t b;have F:=K4 t b;have g:=MY t b h;have J:(BN t b).natAbs=qJ t b:=by unfold BN;split<;>lia
 have k:qJ ((BR t b).1*BN t b) ((BR t b).2*BN t b)=qJ (BR t b).1 (BR t b).2*(BN t b).natAbs:=Int.gcd_mul_right _ _ _;rw[O,F,J]at k
 have:1*qJ t b=qJ (BR t b).1 (BR t b).2*qJ t b:=by rw[wu];exact k
 exact(Nat.eq_of_mul_eq_mul_right g this).symm
theorem TY(t b:Int)(h:b≠0):(BN t b).natAbs<=b.natAbs:=by
 have e:(BN t b).natAbs=qJ t b:=by unfold BN;split<;>lia
 rw[e];exact vA (aaw.mpr h) (by
  have:=vL t b
  exact yv.mp this)
theorem ZF(t b:Int)(h:b≠0):(BR t b).1.natAbs<=t.natAbs:=by
 have e:=congrArg acK (M8 t b);rw[pP]at e
 have:1<=(BN t b).natAbs:=aaw.mpr (Mk t b h)
 calc (BR t b).1.natAbs=(BR t b).1.natAbs*1:=(acd _).symm
  _<=(BR t b).1.natAbs*(BN t b).natAbs:=rN _ this
  _=t.natAbs:=e
theorem ZH(t b:Int)(h:b≠0):(BR t b).2.natAbs<=b.natAbs:=by
 have e:=congrArg acK (K4 t b);rw[pP]at e
 have:1<=(BN t b).natAbs:=aaw.mpr (Mk t b h)
 calc (BR t b).2.natAbs=(BR t b).2.natAbs*1:=(acd _).symm
  _<=(BR t b).2.natAbs*(BN t b).natAbs:=rN _ this
  _=b.natAbs:=e
end Mth
namespace Wd
variable {p:Int}{B0 m:Nat}{B x:Rat}
abbrev Ah:=Nat->Rat
abbrev A5:=List Bool->Rat
def sh(v:Ah):Ah:=λj=>v (j+1)
def BG(w:A5):A5:=λT=>w (false :: T)
def Az(w:A5):A5:=λT=>w (true :: T)
def wg:Ah->A5->A5
 |_,_,[]=>0
 |v,w,false :: S=>wg (sh v) (BG w) S
 |v,w,true :: S=>v 0*w (false :: S)-wg (sh v) (Az w) S
def Aj:A5
 |[]=>1
 |false :: S=>Aj S
 |true :: _=>0
theorem Km(S:List Bool):∀(u v:Ah) (w:A5),wg (λj=>u j+v j) w S=wg u w S+wg v w S:=by
 induction S with
 |nil=>intro u v w;simp only[wg];grind
 |cons b S ih =>
  intro u v w;have h:=ih (sh u) (sh v);have e:sh (λj=>u j+v j)=λj=>sh u j+sh v j:=rfl
  cases b
  ·simp only[wg,e,h]
  ·simp only[wg,e,h];grind
theorem HP(S:List Bool):∀(c:Rat) (v:Ah) (w:A5),wg (λj=>c*v j) w S=c*wg v w S:=by
 induction S with
 |nil=>intro c v w;simp[wg]
 |cons b S ih =>
  intro c v w;have h:=ih c (sh v);have e:sh (λj=>c*v j)=λj=>c*sh v j:=rfl
  cases b
  ·simp only[wg,e,h]
  ·simp only[wg,e,h];grind
theorem K5(S:List Bool):∀(v:Ah) (w x:A5),wg v (λT=>w T+x T) S=wg v w S+wg v x S:=by
 induction S with
 |nil=>intro v w x;simp only[wg];grind
 |cons b S ih =>
  intro v w x;have F:BG (λT=>w T+x T)=λT=>BG w T+BG x T:=rfl
  have J:Az (λT=>w T+x T)=λT=>Az w T+Az x T:=rfl
  cases b
  ·simp only[wg,F,ih]
  ·simp only[wg,J,ih];grind
theorem Fd(S:List Bool):∀(c:Rat) (v:Ah) (w:A5),wg v (λT=>c*w T) S=c*wg v w S:=by
 induction S with
 |nil=>intro c v w;simp[wg]
 |cons b S ih =>
  intro c v w;have F:BG (λT=>c*w T)=λT=>c*BG w T:=rfl
  have J:Az (λT=>c*w T)=λT=>c*Az w T:=rfl
  cases b
  ·simp only[wg,F,ih]
  ·simp only[wg,J,ih];grind
theorem g9(S:List Bool)(v:Ah)(w x:A5):wg v (λT=>w T-x T) S=wg v w S-wg v x S:=by
 have e:(λT=>w T-x T)=λT=>w T+(λT=>(-1)*x T) T:=by funext T;grind
 rw[e,K5,Fd];grind
theorem Jx(S:List Bool):∀(v:Ah) (w:A5),wg v (wg v w) S=0:=by
 induction S with
 |nil=>intro v w;simp[wg]
 |cons b S ih =>
  intro v w;cases b
  ·have F:BG (wg v w)=wg (sh v) (BG w):=rfl;simp only[wg,F,ih]
  ·have J:Az (wg v w)=λT=>v 0*BG w T-wg (sh v) (Az w) T:=rfl
   have O:(λT=>v 0*BG w T)=λT=>v 0*BG w T:=rfl
   simp only[wg,J];rw[g9 (x:=wg (sh v) (Az w)) (w:=λT=>v 0*BG w T),Fd,ih];grind
theorem Kv(u v:Ah)(w:A5)(S:List Bool):wg u (wg v w) S=- wg v (wg u w) S:=by
 have h:=Jx S (λj=>u j+v j) w;have e:wg (λj=>u j+v j) w=λT=>wg u w T+wg v w T:=by funext T;exact Km T u v w
 rw[Km,e,K5,K5,Jx,Jx]at h
 grind
theorem MS(S:List Bool)(v:Ah):wg v (λ_=>0) S=0:=by
 have h:=Fd S 0 v (λ_=>0);have e:(λT:List Bool=>(0:Rat)*(λ_=>(0:Rat)) T)=λ_=>0:=by funext T;grind
 rw[e]at h;grind
def Aa:List Ah->A5->A5
 |[],w=>w
 |v :: L,w=>Aa L (wg v w)
theorem Gf(L M:List Ah)(w:A5):Aa (L++M) w=Aa M (Aa L w):=by
 induction L generalizing w with
 |nil=>rfl
 |cons v L ih=>simp[Aa,ih]
theorem HR(L:List Ah):∀(c:Rat) (w:A5),Aa L (λT=>c*w T)=λT=>c*Aa L w T:=by
 induction L with
 |nil=>intro c w;rfl
 |cons v L ih =>
  intro c w;have e:wg v (λT=>c*w T)=λT=>c*wg v w T:=by funext T;exact Fd T c v w
  simp only[Aa];rw[e,ih]
theorem gX(L:List Ah):∀(w x:A5),Aa L (λT=>w T+x T)=λT=>Aa L w T+Aa L x T:=by
 induction L with
 |nil=>intro w x;rfl
 |cons v L ih =>
  intro w x;have e:wg v (λT=>w T+x T)=λT=>wg v w T+wg v x T:=by funext T;exact K5 T v w x
  simp only[Aa];rw[e,ih]
theorem cD(L:List Ah):Aa L (λ_=>0)=λ_=>0:=by
 induction L with
 |nil=>rfl
 |cons v L ih =>
  have e:wg v (λ_=>0)=λ_=>0:=by funext T;exact MS T v
  simp only[Aa];rw[e,ih]
def sg(n:Nat):Rat:=if n%2=0 then 1 else -1
theorem Ol(n:Nat):sg (n+1)=- sg n:=by unfold sg;split<;>split<;>first|lia|grind
theorem Iq(n:Nat):sg n*sg n=1:=by unfold sg;split<;>grind
theorem US(L:List Ah):∀(v:Ah) (w:A5) (S:List Bool),Aa L (wg v w) S=sg L.length*wg v (Aa L w) S:=by
 induction L with
 |nil=>intro v w S;simp[Aa,sg]
 |cons u L ih =>
  intro v w S;simp only[Aa,pk];have e:wg u (wg v w)=λT=>(-1)*wg v (wg u w) T:=by funext T;rw[Kv];grind
  rw[e,HR];simp only[];rw[ih,Ol];grind
theorem OQ(P Q R:List Ah)(v:Ah)(w:A5)(S:List Bool):Aa (P++v :: Q++v :: R) w S=0:=by
 have e:P++v :: Q++v :: R=P++(v :: (Q++(v :: R))):=by simp
 rw[e,Gf];generalize Aa P w=x;simp only[Aa];rw[Gf];simp only[Aa];have h:wg v (Aa Q (wg v x))=λ_=>0:=by
  funext T
  have h2:Aa Q (wg v x)=λT=>sg Q.length*wg v (Aa Q x) T:=by funext T;exact US Q v x T
  rw[h2,Fd,Jx];grind
 rw[h,cD]
theorem OB(P Q:List Ah)(u v:Ah)(w:A5)(S:List Bool):
  Aa (P++(λj=>u j+v j) :: Q) w S=Aa (P++u :: Q) w S+Aa (P++v :: Q) w S:=by
 rw[Gf,Gf,Gf];simp only[Aa];have e:wg (λj=>u j+v j) (Aa P w)=λT=>wg u (Aa P w) T+wg v (Aa P w) T:=by funext T;exact Km T u v _
 rw[e,gX]
theorem Xs(P Q:List Ah)(c:Rat)(v:Ah)(w:A5)(S:List Bool):
  Aa (P++(λj=>c*v j) :: Q) w S=c*Aa (P++v :: Q) w S:=by
 rw[Gf,Gf];simp only[Aa];have e:wg (λj=>c*v j) (Aa P w)=λT=>c*wg v (Aa P w) T:=by funext T;exact HP T c v _
 rw[e,HR]
theorem cN(P Q R:List Ah)(u v:Ah)(w:A5)(S:List Bool):
  Aa (P++u :: Q++v :: R) w S=- Aa (P++v :: Q++u :: R) w S:=by
 have h:=OQ P Q R (λj=>u j+v j) w S;have F:∀x y:Ah,P++x :: Q++y :: R=P++x :: (Q++y :: R):=by intro x y;simp
 have h1:Aa (P++(λj=>u j+v j) :: Q++(λj=>u j+v j) :: R) w S
   = Aa (P++u :: Q++(λj=>u j+v j) :: R) w S+Aa (P++v :: Q++(λj=>u j+v j) :: R) w S:=by
  rw[F,OB,<-F,<-F]
 rw[h1,OB,OB,OQ,OQ]at h
 grind
def DJ(c:Nat)(v:Ah):Ah:=λj=>v (j+c)
def pre(c:Nat)(w:A5):A5:=λT=>w (oE c true++T)
theorem Pb(c:Nat):∀(v:Ah) (w:A5) (S:List Bool),(∀j,j<c->v j=0) →
  wg v w (oE c true++S)=sg c*wg (DJ c v) (pre c w) S:=by
 induction c with
 |zero=>intro v w S _;simp[sg];rfl
 |succ c ih =>
  intro v w S h;have J:=h 0 ()
  have:=ih (sh v) (Az w) S (λj hj=>h (j+1) ())
  simp only[qo,uc,wg];rw[this,J,Ol];have O:DJ c (sh v)=DJ (c+1) v:=by funext j;simp only[DJ,sh];congr 1
  have F:pre c (Az w)=pre (c+1) w:=by funext T;simp[pre,Az,qo]
  rw[O,F];grind
theorem dN(S:List Bool):∀(v:Ah) (w:A5),(∀b∈S,b=false)->wg v w S=0:=by
 induction S with
 |nil=>intro v w _;rfl
 |cons b S ih =>
  intro v w h
  have:=h b #v[]
  subst this;exact ih _ _ (λb F=>h b (by simp[F]))
theorem iQ(d e:Nat):∀(v:Ah) (w:A5),
  wg v w (oE d false++true :: oE e false)=v d*w (oE (d+1+e) false):=by
 induction d with
 |zero =>
  intro v w;simp only[abg,uA,wg];rw[dN _ _ _ (λb F=>(abw.mp F).2)]
  have:(0+1+e)=e+1:=()
  rw[this,qo];grind
 |succ d ih =>
  intro v w
  have:=ih (sh v) (BG w)
  simp only[qo,uc,wg];rw[this]
  have:d+1+1+e=(d+1+e)+1:=()
  rw[this,qo];rfl
def Tk(c m:Nat):List Bool:=oE c true++oE (m-c) false
def Sj(c j m:Nat):List Bool:=oE c true++(oE (j-c) false++true :: oE (m-1-j) false)
theorem Pj(w:A5)(hz:∀i,i<c->v i=0)(h1:c<=j)(h2:j<m):
  wg v w (Sj c j m)=sg c*(v j*w (Tk c m)):=by
 unfold Sj;rw[Pb c v w _ hz,iQ];have e:j-c+1+(m-1-j)=m-c:=()
 simp only[DJ,pre,e,Tk]
 have:j-c+c=j:=()
 rw[this]
theorem fE(h:c<m):Sj c c m=Tk (c+1) m:=by
 unfold Sj Tk;have e:m-1-c=m-(c+1):=()
 rw[vT,abg,uA,e,uN,tL];rfl
def CF:Nat->Rat
 |0=>1
 |c+1=>CF c*sg c
theorem Jr(c:Nat):CF c*CF c=1:=by
 induction c with
 |zero=>simp[CF]
 |succ c ih=>simp only[CF];have:=Iq c;grind
def ld(c m:Nat)(w:A5):Rat:=CF c*w (Tk c m)
theorem kL(w:A5)(hz:∀i,i<c->v i=0)(h:c<m):ld (c+1) m (wg v w)=v c*ld c m w:=by
 have:=Pj (v:=v) w hz (oz c) h
 rw[fE h]at this;unfold ld;rw[this];simp only[CF];have:=Iq c;grind
def BL(x:Rat):Prop:=∃n:Int,x=n
theorem BL.GU(h:BL x)(g:BL y):BL (x*y):=by
 obtain⟨a,rfl⟩:=h;obtain⟨b,rfl⟩:=g;exact⟨a*b,by grind⟩
theorem BL.sub(h:BL x)(g:BL y):BL (x-y):=by
 obtain⟨a,rfl⟩:=h;obtain⟨b,rfl⟩:=g;exact⟨a-b,by grind⟩
theorem BL.of(n:Int):BL (n:Rat):=⟨n,G⟩
theorem Mw(S:List Bool):∀(v:Ah) (w:A5),(∀j,BL (v j))->(∀T,BL (w T))->BL (wg v w S):=by
 induction S with
 |nil=>intro v w _ _;exact⟨0,G⟩
 |cons b S ih =>
  intro v w h g;cases b
  ·exact ih _ _ (λj=>h (j+1)) (λT=>g _)
  ·exact((h 0).GU (g _)).sub (ih _ _ (λj=>h (j+1)) (λT=>g _))
theorem Oi(S:List Bool):BL (Aj S):=by
 induction S with
 |nil=>exact⟨1,G⟩
 |cons b S ih=>cases b;exact ih;exact⟨0,G⟩
theorem dY(n:Nat):Aj (oE n false)=1:=by
 induction n with
 |zero=>rfl
 |succ n ih=>rw[qo];exact ih
theorem PK(m:Nat):ld 0 m Aj=1:=by
 simp[ld,CF,Tk,dY]
def Fy(S:List Bool):Nat:=(S.filter id).length
theorem jh(S:List Bool):∀(v:Ah) (w:A5) (d:Nat),(∀T,Fy T<d->w T=0)->Fy S<d+1->wg v w S=0:=by
 induction S with
 |nil=>intro v w d _ _;rfl
 |cons b S ih =>
  intro v w d h g;cases b
  ·exact ih (sh v) (BG w) d (λT F=>h _ (by simpa [Fy]using F)) (by simpa [Fy]using g)
  ·simp only[wg];have J:Fy S<d:=by simp[Fy]at g ⊢;lia
   rw[h (false :: S) (by simpa [Fy]using J)];cases d with
   |zero=>lia
   |succ d=>rw[ih (sh v) (Az w) d (λT F=>h _ (by simp[Fy]at F ⊢;lia)) J];grind
theorem gh(L:List Ah):∀(w:A5) (d:Nat),(∀T,Fy T<d->w T=0)->∀S,Fy S<d+L.length->Aa L w S=0:=by
 induction L with
 |nil=>intro w d h S F;exact h S (by simpa using F)
 |cons v L ih =>
  intro w d h S F;exact ih (wg v w) (d+1) (λT J=>jh T v w d h J) S (by simp at F;lia)
theorem gQ(c:Nat)(L:List Ah):∀(w:A5) (S:List Bool),(∀v∈L,∀j,j<c->v j=0) →
  ∃e:Rat,Aa L w (oE c true++S)=e*Aa (L.map (DJ c)) (pre c w) S:=by
 induction L with
 |nil=>intro w S _;exact⟨1,by simp[Aa,pre]⟩
 |cons v L ih =>
  intro w S h;obtain⟨e,J⟩:=ih (wg v w) S (λu F=>h u (by simp[F]));exists e*sg c;simp only[Aa,oP];rw[J]
  have:pre c (wg v w)=λT=>sg c*wg (DJ c v) (pre c w) T:=by
   funext T;exact Pb c v w T (h v #v[])
  rw[this,HR];grind
theorem gO(w:A5)(hz:∀v∈L,∀j,j<c->v j=0)(h1:c<=n)(h2:n<c+L.length):Aa L w (Tk n m)=0:=by
 have e:Tk n m=oE c true++(oE (n-c) true++oE (m-n) false):=by
  unfold Tk;rw[<-List.append_assoc,vo];congr 2;lia
 obtain⟨x,F⟩:=gQ c L w (oE (n-c) true++oE (m-n) false) hz;rw[e,F,gh _ _ 0 (λT J=>())]
 ·grind
 ·simp[Fy,tV];lia
def Ab(B x:Rat):Prop:=-B<=x/\x<=B
theorem Ab.nn(h:Ab B x):0<=B:=by obtain⟨a,b⟩:=h;grind
theorem Ab.GU(h:Ab B x)(g:Ab C y):Ab (B*C) (x*y):=by
 obtain⟨h1,h2⟩:=h;obtain⟨J,O⟩:=g;have F:=sM (show 0<=B-x by grind) (show 0<=C+y by grind);have a2:=sM (show 0<=B+x by grind) (show 0<=C-y by grind);have a3:=sM (show 0<=B-x by grind) (show 0<=C-y by grind);have a4:=sM (show 0<=B+x by grind) (show 0<=C+y by grind);constructor<;>grind
theorem Ab.sub(h:Ab B x)(g:Ab C y):Ab (B+C) (x-y):=by
 obtain⟨h1,h2⟩:=h;obtain⟨F,J⟩:=g;constructor<;>grind
theorem Ab.le(h:Ab B x)(g:B<=C):Ab C x:=by
 obtain⟨h1,h2⟩:=h;constructor<;>grind
theorem Ab.neg(h:Ab B x):Ab B (-1*x):=by
 obtain⟨h1,h2⟩:=h;constructor<;>grind
theorem Pu(S:List Bool):∀(v:Ah) (w:A5),(∀j,Ab V (v j))->(∀T:List Bool,T.length=S.length->Ab W (w T))->Ab ((S.length:Nat)*(V*W)) (wg v w S):=by
 induction S with
 |nil=>intro v w _ _;simp only[wg,rV];constructor<;>grind
 |cons b S ih =>
  intro v w h g;have O:=(g (b :: S) rfl).nn;have J:=(h 0).nn;have aa:=sM J O;have e:(((b :: S).length:Nat):Rat)=(S.length:Nat)+1:=by rw[pk];grind
  cases b
  ·have:=ih (sh v) (BG w) (λj=>h (j+1)) (λT F=>g _ (by simp[F]))
   simp only[wg];refine this.le ?_;rw[e];grind
  ·have h1:=ih (sh v) (Az w) (λj=>h (j+1)) (λT F=>g _ (by simp[F]));have h2:=(h 0).GU (g (false :: S) #v[]);simp only[wg];refine(h2.sub h1).le ?_;rw[e];grind
def vr(r:List Int):Ah:=λj=>((r.getD j 0:Int):Rat)
def Co(row F:List Int)(k:Nat)(p:Int):List Int:=xO (λx y=>(F.getD k 0*x-row.getD k 0*y).fdiv p) row F
structure Qo(f:Ah->Rat):Prop where
 Dc:∀u v:Ah,f (λj=>u j+v j)=f u+f v
 HI:∀(c:Rat) (v:Ah),f (λj=>c*v j)=c*f v
structure Bi(B n m k:Nat)(A0:List Ah)(top:List (List Int))(Z:List (List Int×Ah))(p:Int)(w:A5):Prop where
 GS:top.length=k
 FL:k+Z.length=n
 nm:n<=m
 Iw:∀r∈top,r.length=m
 Di:∀z∈Z,z.1.length=m
 pz:p≠0
 pl:ld k m w=p
 rel:∀z∈Z,∀S,p*wg z.2 w S=wg (vr z.1) w S
 E4:∀z∈Z,∀j,j<k->vr z.1 j=0
 Hl:∀S,BL (w S)
 Fs:∀z∈Z,∀j,BL (z.2 j)
 all:Aa (Z.map (·.2)) w=Aa A0 Aj
 FT:∀i,i<k->(top.getD i []).getD i 0≠0/\∀j,j<i->(top.getD i []).getD j 0=0
 Hv:0<k->(top.getD (k-1) []).getD (k-1) 0=p
 IC:∀z∈Z,∀j,Ab B (z.2 j)
 IF:∀T,Ab ((T.length*B) ^ k:Nat) (w T)
 JN:∀r∈top,∀j,Ab ((m*B) ^ n:Nat) (vr r j)
 b1:1<=B
 Lf:∀f,Qo f->(∀a∈A0,f a=0)->(∀r∈top,f (vr r)=0)/\∀z∈Z,f (vr z.1)=0
 KC:∀f,Qo f->(∀r∈top,f (vr r)=0)->(∀z∈Z,f (vr z.1)=0)->∀a∈A0,f a=0
def ng(z:List Int×Ah):List Int×Ah:=(z.1.map (λx=>-x),λj=>(-1)*z.2 j)
theorem Xq(r:List Int)(j:Nat):(r.map (λx=>-x)).getD j 0=- r.getD j 0:=by
 simp only[oj,om];cases r[j]?<;>simp
theorem Ms(r:List Int):vr (r.map (λx=>-x))=λj=>(-1)*vr r j:=by
 funext j;simp only[vr,Xq];grind
theorem Bi.mX
  (B:Bi B0 n m k A0 top (f :: P++z :: Q) p w):Bi B0 n m k A0 top (z :: P++ng f :: Q) p w:=by
 have O:f∈f :: P++z :: Q:=by simp
 have J:∀y∈z :: P++ng f :: Q,y∈f :: P++z :: Q\/y=ng f:=by
  intro y F;simp at F ⊢;grind
 refine { GS:=B.GS,FL:=?_,nm:=B.nm,Iw:=B.Iw,Di:=?_,pz:=B.pz,pl:=B.pl,rel:=?_,E4:=?_,Hl:=B.Hl,Fs:=?_,all:=?_,FT:=B.FT,Hv:=B.Hv,IC:=?_,IF:=B.IF,JN:=B.JN,b1:=B.b1,Lf:=?_,KC:=?_}
 ·have:=B.FL;simp at this ⊢;lia
 ·intro y F;rcases J y F with h|h
  ·exact B.Di y h
  ·subst h;simp[ng];exact B.Di f O
 ·intro y F S;rcases J y F with h|h
  ·exact B.rel y h S
  ·subst h
   have:=B.rel f O S
   simp only[ng,Ms];rw[HP,HP];grind
 ·intro y F j hj;rcases J y F with h|h
  ·exact B.E4 y h j hj
  ·subst h
   have:=B.E4 f O j hj
   simp only[ng,Ms];grind
 ·intro y F j;rcases J y F with h|h
  ·exact B.Fs y h j
  ·subst h;exact(BL.of (-1)).GU (B.Fs f O j)
 ·rw[<-B.all]
  funext S
  simp only[oU,oP,ng];have h1:=Xs (z.2 :: P.map (·.2)) (Q.map (·.2)) (-1) f.2 w S;have h2:=cN [] (P.map (·.2)) (Q.map (·.2)) z.2 f.2 w S;simp only[uA]at h2;rw[h1,h2];grind
 ·intro y F j;rcases J y F with h|h
  ·exact B.IC y h j
  ·subst h;exact(B.IC f O j).neg
 ·intro g hg h0
  have:=B.Lf g hg h0
  refine⟨this.1,λy F=>?_⟩;rcases J y F with h|h
  ·exact this.2 y h
  ·subst h;simp only[ng,Ms];rw[hg.HI,this.2 f O];grind
 ·intro g hg h1 h2;refine B.KC g hg h1 λy F=>?_
  have aa:=h2 (ng f) #v[];simp only[ng,Ms]at aa;rw[hg.HI]at aa;simp only[uc,oG,oM]at F;rcases F with h|h|h|h
  ·subst h;grind
  ·exact h2 y (by simp[h])
  ·subst h;exact h2 y #v[]
  ·exact h2 y (by simp[h])
theorem UE{p:Rat}(hp:p≠0)(J:∀S,p*wg a w S=wg r w S)(F:∀S,p*wg b w S=wg z w S)(S:List Bool):
  p*wg a (wg b w) S=wg r (wg b w) S:=by
 have h1:wg a (wg z w) S=p*wg a (wg b w) S:=by
  have:wg z w=λT=>p*wg b w T:=by funext T;exact(F T).symm
  rw[this,Fd]
 have h2:wg z (wg r w) S=p*wg z (wg a w) S:=by
  have:wg r w=λT=>p*wg a w T:=by funext T;exact(J T).symm
  rw[this,Fd]
 have O:wg r (wg z w) S=p*wg r (wg b w) S:=by
  have:wg z w=λT=>p*wg b w T:=by funext T;exact(F T).symm
  rw[this,Fd]
 have h4:=Kv a z w S;have h5:=Kv z r w S
 have:p*(p*wg a (wg b w) S)=p*wg r (wg b w) S:=by grind
 grind
theorem dR{p:Rat}(F:∀S,p*wg b w S=wg z w S)(S:List Bool):wg z (wg b w) S=0:=by
 rw[Kv]
 have:wg z w=λT=>p*wg b w T:=by funext T;exact(F T).symm
 rw[this,Fd,Jx];grind
theorem MZ(h1:row.length=m)(h2:lead.length=m):(Co row lead k p).length=m:=by
 simp[Co,h1,h2]
theorem dZ(h1:row.length=m)(h2:lead.length=m)(j:Nat):
  (Co row lead k p).getD j 0=(lead.getD k 0*row.getD j 0-row.getD k 0*lead.getD j 0).fdiv p:=by
 by_cases hj:j<m
 ·have J:row.getD j 0=row[j]:=by rw[oj,og ()];rfl
  have O:lead.getD j 0=lead[j]:=by rw[oj,og ()];rfl
  have F:j<(Co row lead k p).length:=by rw[MZ h1 h2];exact hj
  rw[J,O,oj,og F];simp[Co]
 ·have o:∀l:List Int,l.length=m->l.getD j 0=0:=by
   intro l F;rw[oj,pM ()];rfl
  rw[o _ (MZ h1 h2),o row h1,o lead h2];simp
theorem YI(h:vr r j=0):r.getD j 0=0:=by
 simp only[vr]at h;exact_mod_cast h
theorem Rr (hk:k<m)(hr:r.length=m)(ab:z.length=m)(hp:p≠0)(ad:ld k m w=p)
  (ha:∀S,(p:Rat)*wg a w S=wg (vr r) w S)(O:∀S,(p:Rat)*wg b w S=wg (vr z) w S)(zr:∀j,j<k->vr r j=0)(zz:∀j,j<k->vr z j=0)
  (hq:z.getD k 0≠0)(iw:∀S,BL (w S))(ia:∀j,BL (a j))(ib:∀j,BL (b j)) :
  ld (k+1) m (wg b w)=z.getD k 0/\(∀j,(p:Rat)*vr (Co r z k p) j=(z.getD k 0:Int)*vr r j-(r.getD k 0:Int)*vr z j) /\
  (∀S,((z.getD k 0:Int):Rat)*wg a (wg b w) S=wg (vr (Co r z k p)) (wg b w) S)/\∀j,j<k+1->vr (Co r z k p) j=0:=by
 have ac:(p:Rat)≠0:=by exact_mod_cast hp
 have ae:((z.getD k 0:Int):Rat)≠0:=by exact_mod_cast hq
 have l1:ld (k+1) m (wg b w)=z.getD k 0:=by
  have h1:=kL w zz hk;have h2:ld (k+1) m (wg (vr z) w)=p*ld (k+1) m (wg b w):=by
   unfold ld;rw[<-O];grind
  rw[h2,ad]at h1
  have:vr z k=((z.getD k 0:Int):Rat):=rfl
  rw[this]at h1;grind
 let M:Ah:=λj=>((z.getD k 0:Int):Rat)*vr r j+(-((r.getD k 0:Int):Rat))*vr z j
 have hM:∀S,wg M (wg b w) S=((z.getD k 0:Int):Rat)*(p*wg a (wg b w) S):=by
  intro S;have e:=Km S (λj=>((z.getD k 0:Int):Rat)*vr r j) (λj=>(-((r.getD k 0:Int):Rat))*vr z j) (wg b w);rw[HP,HP,dR O S,<-UE ac ha O S]at e;show wg M (wg b w) S=_;rw[show M=λj=>((z.getD k 0:Int):Rat)*vr r j+(-((r.getD k 0:Int):Rat))*vr z j from rfl,e];grind
 have zM:∀j,j<k+1->M j=0:=by
  intro j hj;show((z.getD k 0:Int):Rat)*vr r j+(-((r.getD k 0:Int):Rat))*vr z j=0;rcases oW j k with h|h
  ·rw[zr j h,zz j h];grind
  ·have:j=k:=()
   subst this;show((z.getD j 0:Int):Rat)*((r.getD j 0:Int):Rat)+(-((r.getD j 0:Int):Rat))*((z.getD j 0:Int):Rat)=0
   grind
 have dv:∀j,∃c:Int,M j=p*c:=by
  intro j;rcases oW j (k+1)with h|h
  ·exact⟨0,by rw[zM j h];grind⟩
  ·rcases oW j m with h2|h2
   ·have h3:=Pj (v:=M) (wg b w) zM h h2;rw[hM] at h3;obtain⟨c,F⟩:=Mw (Sj (k+1) j m) a (wg b w) ia (λT=>Mw T b w ib iw);have h4:wg b w (Tk (k+1) m)=CF (k+1)*((z.getD k 0:Int):Rat):=by
     have:=Jr (k+1)
     rw[<-l1];unfold ld;grind
    rw[h4]at h3;have h5:=Jr (k+1);have h6:=Iq (k+1);have J:BL (sg (k+1)*CF (k+1)):=by
     have i1:∀c,BL (sg c):=by intro c;unfold sg;split;exact⟨1,G⟩;exact⟨-1,G⟩
     have i2:∀c,BL (CF c):=by
      intro c;induction c with
      |zero=>exact⟨1,G⟩
      |succ c ih=>exact ih.GU (i1 c)
     exact(i1 _).GU (i2 _)
    obtain⟨t,J⟩:=J;exists t*c;rw[F]at h3
    have:M j=sg (k+1)*CF (k+1)*(p*c):=by
     have:((z.getD k 0:Int):Rat)*(M j)=((z.getD k 0:Int):Rat)*(sg (k+1)*CF (k+1)*(p*c)):=by grind
     grind
    rw[this,J];grind
   ·exists 0;show((z.getD k 0:Int):Rat)*vr r j+(-((r.getD k 0:Int):Rat))*vr z j=_;have e1:r.getD j 0=0:=by rw[oj,pM ()];rfl
    have e2:z.getD j 0=0:=by rw[oj,pM ()];rfl
    simp only[vr,e1,e2];grind
 have ex:∀j,(p:Rat)*vr (Co r z k p) j=M j:=by
  intro j;obtain⟨c,F⟩:=dv j;have aa:M j=((z.getD k 0*r.getD j 0-r.getD k 0*z.getD j 0:Int):Rat):=by
   show((z.getD k 0:Int):Rat)*((r.getD j 0:Int):Rat)+(-((r.getD k 0:Int):Rat))*((z.getD j 0:Int):Rat)=_
   grind
  have hi:z.getD k 0*r.getD j 0-r.getD k 0*z.getD j 0=p*c:=by
   rw[aa]at F;exact_mod_cast F
  simp only[vr];rw[dZ hr ab,hi,F,qw (abZ p c),uZ _ hp]
 have eN:(λj=>(p:Rat)*vr (Co r z k p) j)=M:=funext ex;exists l1,?_,?_
 ·intro j;rw[ex j];show((z.getD k 0:Int):Rat)*vr r j+(-((r.getD k 0:Int):Rat))*vr z j=_
  grind
 ·intro S;have h:=hM S;rw[<-eN,HP]at h
  grind
 ·intro j hj;have h:=ex j;rw[zM j hj]at h
  grind
theorem Bi.XG(B:Bi B0 n m k A0 top Z p w)(hz:z∈Z)(j:Nat):Ab ((m*B0) ^ (k+1):Nat) (vr z.1 j):=by
 have aa:∀a:Nat,(0:Rat)<=(a:Rat):=λa=>by exact_mod_cast o9 a
 have O:Ab ((m*B0) ^ (k+1):Nat) (0:Rat):=by have:=aa ((m*B0) ^ (k+1));constructor<;>grind
 have ac:=B.FL;have ab:=B.nm;have hl:0<Z.length:=sL hz;rcases oW j k with h|h
 ·rw[B.E4 z hz j h];exact O
 ·rcases oW j m with h2|h2
  ·have e:=Pj (v:=vr z.1) w (B.E4 z hz) h h2;rw[<-B.rel z hz]at e;have hp:(p:Rat)≠0:=by have:=B.pz;exact_mod_cast this
   have ht:w (Tk k m)=CF k*p:=by
    have:=Jr k
    have:=B.pl
    unfold ld at this;grind
   rw[ht]at e;have e2:vr z.1 j=sg k*CF k*wg z.2 w (Sj k j m):=by
    have h5:=Jr k;have h6:=Iq k
    have:p*(vr z.1 j)=p*(sg k*CF k*wg z.2 w (Sj k j m)):=by grind
    grind
   have ls:(Sj k j m).length=m:=by unfold Sj;simp;lia
   have F:=Pu (V:=(B0:Nat)) (W:=((m*B0) ^ k:Nat)) (Sj k j m) z.2 w (B.IC z hz) (λT hT=>by have:=B.IF T;rw[hT,ls]at this;exact this);rw[ls]at F;have eb:((m:Nat):Rat)*(((B0:Nat):Rat)*(((m*B0) ^ k:Nat):Rat))=(((m*B0) ^ (k+1):Nat):Rat):=by
    rw[vS]
    have:m*(B0*(m*B0) ^ k)=(m*B0) ^ k*(m*B0):=by rw[<-Nat.mul_assoc,wN]
    rw[<-this];simp[wH]
   rw[eb]at F;rw[e2];have J:∀c,sg c=1\/sg c=-1:=by intro c;unfold sg;split;exact .inl rfl;exact .inr rfl
   have s2:∀c,CF c=1\/CF c=-1:=by
    intro c;induction c with
    |zero=>exact .inl rfl
    |succ c ih =>
     simp only[CF];rcases ih with a|a<;>rcases J c with b|b<;>rw[a,b]<;>grind
   rcases J k with a|a<;>rcases s2 k with b|b<;>rw[a,b]
   ·simpa using F
   ·have:=F.neg;simpa using this
   ·have:=F.neg;simpa using this
   ·rw[show(-1:Rat) * -1*wg z.2 w (Sj k j m)=wg z.2 w (Sj k j m) by grind];exact F
  ·have e1:z.1.getD j 0=0:=by rw[oj,pM (by rw[B.Di z hz];lia)];rfl
   have:vr z.1 j=0:=by simp only[vr,e1];rfl
   rw[this];exact O
theorem Ut(h:1<=a)(hi:i<=n):a ^ i<=a ^ n:=qj h hi
theorem Bi.step
  (B:Bi B0 n m k A0 top (z :: Z) p w)(hq:z.1.getD k 0≠0) :
  Bi B0 n m (k+1) A0 (top++[z.1]) (Z.map λy=>(Co y.1 z.1 k p,y.2)) (z.1.getD k 0) (wg z.2 w):=by
 have ad:=B.FL;have ag:=B.nm;simp at ad;have ac:k<m:=()
 have hz:z∈z :: Z:=by simp
 have aa:∀y∈Z,_:=λy F=>Rr ac (B.Di y (by simp[F])) (B.Di z hz) B.pz B.pl (B.rel y (by simp[F])) (B.rel z hz) (B.E4 y (by simp[F])) (B.E4 z hz) hq B.Hl (B.Fs y (by simp[F])) (B.Fs z hz)
 have l1:=(Rr ac (B.Di z hz) (B.Di z hz) B.pz B.pl (B.rel z hz) (B.rel z hz) (B.E4 z hz) (B.E4 z hz) hq B.Hl (B.Fs z hz) (B.Fs z hz)).1;have ae:(p:Rat)≠0:=by have:=B.pz;exact_mod_cast this
 have ab:=B.GS;refine { GS:=by simp[B.GS],FL:=by simp;lia,nm:=B.nm,Iw:=?_,Di:=?_,pz:=hq,pl:=l1,rel:=?_,E4:=?_,Hl:=λS=>Mw S z.2 w (B.Fs z hz) B.Hl,Fs:=?_,all:=?_,FT:=?_,Hv:=?_,IC:=?_,IF:=?_,JN:=?_,b1:=B.b1,Lf:=?_,KC:=?_}
 ·intro r hr;simp at hr;rcases hr with h|h
  ·exact B.Iw r h
  ·subst h;exact B.Di z hz
 ·intro y F;simp at F;obtain⟨a,b,J,rfl⟩:=F;exact MZ (B.Di (a,b) (by simp[J])) (B.Di z hz)
 ·intro y F S;simp at F;obtain⟨a,b,J,rfl⟩:=F;exact(aa (a,b) J).2.2.1 S
 ·intro y F;simp at F;obtain⟨a,b,J,rfl⟩:=F;exact(aa (a,b) J).2.2.2
 ·intro y F;simp at F;obtain⟨a,b,J,rfl⟩:=F;exact B.Fs (a,b) (by simp[J])
 ·rw[<-B.all];simp[Aa,w9]
 ·intro i hi;rcases oW i k with h|h
  ·have:(top++[z.1]).getD i []=top.getD i []:=by
    rw[oj,oj,pR ()]
   rw[this];exact B.FT i h
  ·have:i=k:=()
   subst this
   have:(top++[z.1]).getD i []=z.1:=by
    rw[oj,pE (),ab];simp
   rw[this];exact⟨hq,λj hj=>YI (B.E4 z hz j hj)⟩
 ·intro _
  have:(top++[z.1]).getD (k+1-1) []=z.1:=by
   rw[oj,pE ()];simp[ab]
  rw[this];rfl
 ·intro y F;simp at F;obtain⟨a,b,J,rfl⟩:=F;exact B.IC (a,b) (by simp[J])
 ·intro T;have bd:=Pu (V:=(B0:Nat)) (W:=((T.length*B0) ^ k:Nat)) T z.2 w (B.IC z hz) (λU hU=>by have:=B.IF U; rw[hU] at this; exact this);have eb:((T.length:Nat):Rat)*(((B0:Nat):Rat)*(((T.length*B0) ^ k:Nat):Rat))=(((T.length*B0) ^ (k+1):Nat):Rat):=by
   rw[vS]
   have:T.length*(B0*(T.length*B0) ^ k)=(T.length*B0) ^ k*(T.length*B0):=by rw[<-Nat.mul_assoc,wN]
   rw[<-this];simp[wH]
  rw[eb]at bd;exact bd
 ·intro r hr j;simp at hr;rcases hr with h|h
  ·exact B.JN r h j
  ·subst h;refine(B.XG hz j).le ?_
   have:=B.b1
   have h1:1<=m*B0:=ace () ()
   exact_mod_cast Ut h1 ()
 ·intro f O h0;have hl:=B.Lf f O h0;exists ?_
  ·intro r hr;simp at hr;rcases hr with h|h
   ·exact hl.1 r h
   ·subst h;exact hl.2 z hz
  ·intro y F; simp at F; obtain⟨a,b,J,rfl⟩:=F;have h1:=(aa (a,b) J).2.1;have e:(λj=>(p:Rat)*vr (Co a z.1 k p) j)=λj=>(λj=>((z.1.getD k 0:Int):Rat)*vr a j) j+(λj=>(-((a.getD k 0:Int):Rat))*vr z.1 j) j:=by
    funext j;rw[h1 j];grind
   have h2:=congrArg f e;rw[O.HI,O.Dc,O.HI,O.HI,hl.2 z hz,hl.2 (a,b) (by simp[J])]at h2
   grind
 ·intro f O h1 h2;have fz:f (vr z.1)=0:=h1 z.1 #v[];have af:((z.1.getD k 0:Int):Rat)≠0:=by exact_mod_cast hq
  refine B.KC f O (λr hr=>h1 r (by simp[hr])) λy F=>?_
  rcases oG.mp F with h|h
  ·subst h;exact fz
  ·have e1:=(aa y h).2.1;have e:(λj=>(p:Rat)*vr (Co y.1 z.1 k p) j)=λj=>(λj=>((z.1.getD k 0:Int):Rat)*vr y.1 j) j+(λj=>(-((y.1.getD k 0:Int):Rat))*vr z.1 j) j:=by
    funext j;rw[e1 j];grind
   have h3:=congrArg f e;rw[O.HI,O.Dc,O.HI,O.HI,fz,h2 _ (vm h)]at h3
   grind
theorem gP(Z:List (List Int×Ah)):∀{p:Rat} {w:A5},p≠0->(∀z∈Z,∀S,p*wg z.2 w S=wg (vr z.1) w S) →
  ∃c:Rat,c≠0/\∀S,c*Aa (Z.map (·.2)) w S=Aa (Z.map (λz=>vr z.1)) w S:=by
 induction Z with
 |nil=>intro p w _ _;exact⟨1,by grind,λS=>by simp[Aa]⟩
 |cons z Z ih =>
  intro p w F h;obtain⟨c,hc,J⟩:=ih (p:=p) (w:=wg z.2 w) F (λy O S=>UE F (h y (by simp[O])) (h z #v[]) S);refine⟨p*c,by grind,λS=>?_⟩;simp only[oP,Aa];have e:wg (vr z.1) w=λT=>p*wg z.2 w T:=by funext T;exact(h z #v[] T).symm
  rw[e,HR];simp only[];rw[<-J];grind
theorem Bi.none
  (B:Bi B0 n m k A0 top Z p w)(aa:k<n)(h0:∀z∈Z,z.1.getD k 0=0):ld n m (Aa A0 Aj)=0:=by
 have J:(p:Rat)≠0:=by have:=B.pz;exact_mod_cast this
 obtain⟨c,hc,O⟩:=gP Z J B.rel;have h:=gO (c:=k+1) (n:=n) (m:=m) (L:=Z.map (λz=>vr z.1)) w ?_ () (by have:=B.FL;simp;lia)
 ·rw[<-O,B.all]at h;unfold ld;grind
 ·intro v F j hj;rw[oI]at F;obtain⟨z,hz,rfl⟩:=F;rcases oW j k with h|h
  ·exact B.E4 _ hz j h
  ·have:j=k:=()
   subst this
   have:=h0 _ hz
   simp only[vr];rw[this];rfl
theorem Bi.n8{R:List (List Int)}(aa:1<=B0)(hb:∀r∈R,∀j,Ab B0 (vr r j))(h1:R.length=n)(h2:n<=m)(h3:∀r∈R,r.length=m):
  Bi B0 n m 0 (R.map vr) [] (R.map λr=>(r,vr r)) 1 Aj:=by
 refine { GS:=rfl,FL:=by simp[h1],nm:=h2,Iw:=by simp,Di:=?_,pz:=by lia,pl:=?_,rel:=?_,E4:=by intro _ _ j hj;lia,Hl:=Oi,Fs:=?_,all:=?_,FT:=by intro i hi;lia,Hv:=by intro h;lia,IC:=?_,IF:=?_,JN:=by simp,b1:=aa,Lf:=?_,KC:=?_}
 ·intro z hz;simp at hz;obtain⟨a,F,rfl⟩:=hz;exact h3 a F
 ·rw[PK];rfl
 ·intro z hz S;simp at hz;obtain⟨a,F,rfl⟩:=hz;simp only[];grind
 ·intro z hz j;simp at hz;obtain⟨a,F,rfl⟩:=hz;exact⟨_,G⟩
 ·simp[w9]
 ·intro z hz j;simp at hz;obtain⟨a,F,rfl⟩:=hz;exact hb a F j
 ·intro T
  have:Aj T=1\/Aj T=0:=by
   induction T with
   |nil=>exact .inl rfl
   |cons b T ih=>cases b;exact ih;exact .inr rfl
  rw[abC];rcases this with h|h<;>rw[h]<;>constructor<;>grind
 ·intro f J h0;refine⟨#v[],?_⟩;intro z hz;simp at hz;obtain⟨a,F,rfl⟩:=hz;exact h0 _ (vm F)
 ·intro f J h1 h2 a F;obtain⟨r,O,rfl⟩:=oI.mp F;exact h2 (r,vr r) (oI.mpr ⟨r,O,G⟩)
theorem Bi.fin
  (B:Bi B0 n m n A0 top Z p w):Z=[]/\ld n m (Aa A0 Aj)=p:=by
 have:Z=[]:=by have:=B.FL;exact r9.mp ()
 subst this;exists rfl;rw[<-B.all];exact B.pl
end Wd
namespace Mth
variable {q:Rat}
theorem F5(t b:Int)(h:b≠0):BR t b=(((t:Rat) / (b:Rat)).num,(((t:Rat) / (b:Rat)).den:Int)):=by
 have g:=bK t b h;have p:=SE t b h;have c:=Q9 t b;generalize (BR t b)=x at *;obtain⟨n,d⟩:=x;simp only at g p c;have hd:d=(d.toNat:Int):=()
 have J:d.toNat≠0:=()
 have F:n.natAbs.Coprime d.toNat:=by
  have:qJ n d=n.natAbs.gcd d.toNat:=by rw[qJ];congr 1;lia
  unfold aad;rw[<-this];exact g
 let r:Rat:=⟨n,d.toNat,J,F⟩
 have O:r*(d:Rat)=n:=by
  have h1:r=(n:Rat) / ((d.toNat:Nat):Rat):=by
   have:=yA r
   rw[<-this,yU];rfl
  have h2:((d.toNat:Nat):Rat)=(d:Rat):=by
   have:((d.toNat:Nat):Rat)=(((d.toNat:Nat):Int):Rat):=rfl
   rw[this,<-hd]
  have h3:(d:Rat)≠0:=by have:d≠0:=();exact_mod_cast this
  rw[h1,h2];grind
 have hb:(b:Rat)≠0:=by exact_mod_cast h
 have aa:(d:Rat)≠0:=by exact_mod_cast (show d≠0 by lia)
 have cr:(n:Rat)*b=t*d:=by exact_mod_cast c
 have e:(t:Rat) / (b:Rat)=r:=by grind
 rw[e];show(n,d)=(n,((d.toNat:Nat):Int));rw[<-hd]
def fr(q:Rat):Int×Int:=(q.num,q.den)
theorem je(h:fr p=fr q):p=q:=by
 unfold fr at h;have h1:=congrArg ye h;have h2:=congrArg aaZ h;simp at h1 h2;exact Rat.ext h1 ()
theorem Ff(q:Rat):q*((q.den:Nat):Rat)=q.num:=by
 have h1:=yA q;rw[yU]at h1
 have:((q.den:Nat):Rat)≠0:=by exact_mod_cast q.den_nz
 have h2:(((q.den:Nat):Int):Rat)=((q.den:Nat):Rat):=rfl;rw[h2]at h1
 grind
theorem IP(q:Rat):((q.den:Nat):Rat)≠0:=by exact_mod_cast q.den_nz
theorem iD(q:Rat):((q.num:Int):Rat) / ((((q.den:Nat):Int)):Rat)=q:=by
 have:=Ff q
 have h2:(((q.den:Nat):Int):Rat)=((q.den:Nat):Rat):=rfl
 have:=IP q
 rw[h2];grind
theorem ic(n:Nat):(((n:Nat):Int):Rat)=((n:Nat):Rat):=rfl
theorem UU(p q:Rat):BR (p.num*q.den+q.num*p.den) (p.den*q.den)=fr (p+q):=by
 have J:=p.den_nz;have F:=q.den_nz;have h:((p.den:Int)*(q.den:Int))≠0:=tP () ();rw[F5 _ _ h];have e:(((p.num*q.den+q.num*p.den:Int)):Rat) / (((p.den:Int)*(q.den:Int):Int):Rat)=p+q:=by
  have:=Ff p;have:=Ff q;have:=IP p;have:=IP q
  simp only[zW,ph,ic]
  grind
 rw[e];rfl
theorem U7(p q:Rat):BR (p.num*q.den-q.num*p.den) (p.den*q.den)=fr (p-q):=by
 have J:=p.den_nz;have F:=q.den_nz;have h:((p.den:Int)*(q.den:Int))≠0:=tP () ();rw[F5 _ _ h];have e:(((p.num*q.den-q.num*p.den:Int)):Rat) / (((p.den:Int)*(q.den:Int):Int):Rat)=p-q:=by
  have:=Ff p;have:=Ff q;have:=IP p;have:=IP q
  simp only[tY,ph,ic]
  grind
 rw[e];rfl
theorem Us(p q:Rat):BR (p.num*q.num) (p.den*q.den)=fr (p*q):=by
 have J:=p.den_nz;have F:=q.den_nz;have h:((p.den:Int)*(q.den:Int))≠0:=tP () ();rw[F5 _ _ h];have e:(((p.num*q.num:Int)):Rat) / (((p.den:Int)*(q.den:Int):Int):Rat)=p*q:=by
  have:=Ff p;have:=Ff q;have:=IP p;have:=IP q
  simp only[ph,ic]
  grind
 rw[e];rfl
def Sb(n d:Nat)(q:Rat):Prop:=q.num.natAbs<=2 ^ n/\q.den<=2 ^ d
theorem ft(h:b≠0):(BR t b).1.natAbs<=t.natAbs/\(BR t b).2.natAbs<=b.natAbs:=by
 have h1:=M8 t b;have h2:=K4 t b;have h3:=Mk t b h;have J:t.natAbs=(BR t b).1.natAbs*(BN t b).natAbs:=by rw[<-Int.natAbs_mul,h1]
 have O:b.natAbs=(BR t b).2.natAbs*(BN t b).natAbs:=by rw[<-Int.natAbs_mul,h2]
 have F:1<=(BN t b).natAbs:=()
 rw[J,O];exact⟨vt _ F,vt _ F⟩
theorem NU(h:b≠0)(h1:t.natAbs<=2 ^ n)(h2:b.natAbs<=2 ^ d)(e:BR t b=fr q):Sb n d q:=by
 have:=ft (t:=t) h
 rw[e]at this;simp only[fr,pO]at this;exact⟨(),()⟩
theorem C4(h:a<=2 ^ m)(g:b<=2 ^ n):a*b<=2 ^ (m+n):=by rw[wz];exact wX h g
theorem Kd(p q:Rat):((p.den:Int)*(q.den:Int))≠0:=by
 have F:=p.den_nz;have J:=q.den_nz;exact tP () ()
theorem Sb.Dc(h:Sb n d p)(g:Sb n' d' q)(h1:n+d'<=N)(h2:n' + d<=N):Sb (N+1) (d+d') (p+q):=by
 refine NU (Kd p q) ?_ ?_ (UU p q)
 ·have F:(p.num*q.den).natAbs<=2 ^ N:=by
   rw[pP,pO];exact oO (C4 h.1 g.2) (qj ∅ h1)
  have J:(q.num*p.den).natAbs<=2 ^ N:=by
   rw[pP,pO];exact oO (C4 g.1 h.2) (qj ∅ h2)
  have:=ab0 (p.num*q.den) (q.num*p.den)
  rw[vS];lia
 ·rw[pP,pO,pO];exact C4 h.2 g.2
theorem Sb.sub(h:Sb n d p)(g:Sb n' d' q)(h1:n+d'<=N)(h2:n' + d<=N):Sb (N+1) (d+d') (p-q):=by
 refine NU (Kd p q) ?_ ?_ (U7 p q)
 ·have F:(p.num*q.den).natAbs<=2 ^ N:=by
   rw[pP,pO];exact oO (C4 h.1 g.2) (qj ∅ h1)
  have J:(q.num*p.den).natAbs<=2 ^ N:=by
   rw[pP,pO];exact oO (C4 g.1 h.2) (qj ∅ h2)
  have:=yP (p.num*q.den) (q.num*p.den)
  rw[vS];lia
 ·rw[pP,pO,pO];exact C4 h.2 g.2
theorem Sb.mono(h:Sb n d p)(h1:n<=n')(h2:d<=d'):Sb n' d' p :=
 ⟨oO h.1 (qj ∅ h1),oO h.2 (qj ∅ h2)⟩
theorem Sb.zero:Sb 0 0 0:=by constructor<;>decide
def CU(c:Int)(q:Rat):Int:=c.fdiv (qJ c q.den:Int)*q.den
def cb(r:List Rat):Int:=r.foldl CU 1
theorem U4(h:0<c)(q:Rat):0<CU c q/\c ∣ CU c q/\(q.den:Int) ∣ CU c q/\CU c q<=c*q.den:=by
 have hq:=q.den_nz;have hg:0<qJ c q.den:=um _ ();obtain⟨x,F⟩:=uY c (q.den:Int);obtain⟨y,O⟩:=vL c (q.den:Int);generalize hG:qJ c (q.den:Int)=G at *;have ab:(G:Int)≠0:=()
 have e:c.fdiv (G:Int)=x:=by
  rw[qw ⟨x,F⟩]
  conv=>lhs;rw[F]
  rw[uZ _ ab]
 have J:0<x:=by
  rcases xG 0 x with h'|h'
  ·exact h'
  ·have:(G:Int)*x<=0:=Int.mul_nonpos_of_nonneg_of_nonpos () h'
   lia
 have aa:(0:Int)<q.den:=()
 unfold CU;rw[hG,e];exists wt J aa,⟨y,?_⟩,⟨x,xH _ _⟩
 ·conv=>lhs;rw[O]
  conv=>rhs;rw[F]
  rw[Int.mul_left_comm,xo]
 ·refine vE ?_ ()
  have:1*x<=(G:Int)*x:=vE () ()
  lia
theorem VS(r:List Rat):∀{c:Int} {D d:Nat},0<c->c.natAbs<=2 ^ D->(∀q∈r,q.den<=2 ^ d) →
  0<r.foldl CU c/\c ∣ r.foldl CU c/\(∀q∈r,(q.den:Int) ∣ r.foldl CU c)/\(r.foldl CU c).natAbs<=2 ^ (D+d*r.length):=by
 induction r with
 |nil=>intro c D d h g _;exact⟨h,Int.dvd_refl _,#v[],by simpa using g⟩
 |cons q r ih =>
  intro c D d h g hd;obtain⟨a1,O,a3,a4⟩:=U4 h q;have hq:=hd q #v[];have a5:(CU c q).natAbs<=2 ^ (D+d):=by
   have J:(CU c q).natAbs<=c.natAbs*q.den:=by
    have e1:((c.natAbs*q.den:Nat):Int)=c*q.den:=by rw[acL];congr 1;lia
    lia
   exact oO J (C4 g hq)
  obtain⟨b1,F,b3,b4⟩:=ih (D:=D+d) (d:=d) a1 a5 (λp hp=>hd p (by simp[hp]));exists b1,yH O F,?_
  ·intro p hp;rcases oG.mp hp with rfl|hp
   ·exact yH a3 F
   ·exact b3 p hp
  ·rw[pk,su]
   have:D+(d*r.length+d)=D+d+d*r.length:=()
   rw[this];exact b4
def wh(b:Int)(q:Rat):Int:=q.num*b.fdiv q.den
theorem Gk(h:(q.den:Int) ∣ b):((wh b q:Int):Rat)=b*q:=by
 obtain⟨x,F⟩:=h;have J:=q.den_nz;have e:b.fdiv q.den=x:=by
  rw[qw ⟨x,F⟩,F,uZ _ ()]
 unfold wh;rw[e,F]
 have:=Ff q
 simp only[ph,ic]
 grind
end Mth
namespace Wd
open Mth
def KD(R:List (List Int))(k i:Nat):List (List Int):=if i=k then R else (R.set k (R.getD i [])).set i ((R.getD k []).map λx=>-x)
theorem Pc{α:Type}(A B:List α)(x d:α)(h:A.length=i):(A++x :: B).getD i d=x:=by
 subst h;rw[oj,pE (oz _)];simp
theorem Tr{α:Type}(A B:List α)(x y:α)(h:A.length=i):(A++x :: B).set i y=A++y :: B:=by
 subst h;rw[List.set_append_right _ _ (oz _)];simp
theorem Bi.led (B:Bi B0 n m k A0 top Z p w)(h1:k<=i)(h2:i<n)
  (J:((top++Z.map (·.1)).getD i []).getD k 0≠0):∃z Z',Bi B0 n m k A0 top (z :: Z') p w/\KD (top++Z.map (·.1)) k i=top++z.1 :: Z'.map (·.1)/\z.1.getD k 0≠0:=by
 have hl:=B.FL;have O:=B.GS;cases Z with
 |nil=>simp at hl;lia
 |cons f Zr =>
  by_cases aa:i=k
  ·subst aa;exists f,Zr,B,?_
   ·unfold KD;rw[oH rfl];rfl
   ·rw[oP,Pc _ _ _ _ O]at J;exact J
  ·have hj:i-k-1<Zr.length:=by simp at hl;lia
   have e:Zr=Zr.take (i-k-1)++Zr[i-k-1] :: Zr.drop (i-k-1+1):=by rw[tQ,rF]
   generalize Zr.take (i-k-1)=F at e;have ac:(Zr.take (i-k-1)).length=i-k-1:=by simp;lia
   have ab:F.length=i-k-1:=by
    have:=congrArg uf e
    simp at this;lia
   generalize Zr[i-k-1]=z at e;generalize Zr.drop (i-k-1+1)=Q at e;subst e;have B':Bi B0 n m k A0 top (f :: F++z :: Q) p w:=B;have e1:top++zm (·.1) (f :: (F++z :: Q))=(top++f.1 :: F.map (·.1))++z.1 :: Q.map (·.1):=by simp
   have l1:(top++f.1 :: F.map (·.1)).length=i:=by simp;lia
   have gi:(top++zm (·.1) (f :: (F++z :: Q))).getD i []=z.1:=by rw[e1];exact Pc _ _ _ _ l1
   have gk:(top++zm (·.1) (f :: (F++z :: Q))).getD k []=f.1:=by rw[oP];exact Pc _ _ _ _ O
   exists z,F++ng f :: Q,B'.mX,?_
   ·unfold KD;rw[oC aa,gi,gk,oP,Tr _ _ _ _ O];have e2:top++z.1 :: zm (·.1) (F++z :: Q)=(top++z.1 :: F.map (·.1))++z.1 :: Q.map (·.1):=by simp
    rw[e2,Tr _ _ _ _ (by simp;lia)];simp[ng]
   ·rw[gi]at J;exact J
theorem GA(h:Ab ((N:Nat):Rat) ((x:Int):Rat)):x.natAbs<=N:=by
 obtain⟨h1,h2⟩:=h;have a:x<=(N:Int):=by
  have:((x:Int):Rat)<=(((N:Nat):Int):Rat):=h2
  exact_mod_cast this
 have b:-(N:Int)<=x:=by
  have:((-(N:Int):Int):Rat)<=((x:Int):Rat):=by rw[vK];exact h1
  exact_mod_cast this
 lia
theorem Ii(h:x.natAbs<=N):Ab ((N:Nat):Rat) ((x:Int):Rat):=by
 have a:x<=(N:Int):=()
 have b:-(N:Int)<=x:=()
 constructor
 ·have:((-(N:Int):Int):Rat)<=((x:Int):Rat):=by exact_mod_cast b
  rw[vK]at this;exact this
 ·have:((x:Int):Rat)<=(((N:Nat):Int):Rat):=by exact_mod_cast a
  exact this
theorem mem_getD{r:List Int}(h:x∈r):∃j,r.getD j 0=x:=by
 obtain⟨j,F,e⟩:=qV h;exact⟨j,by rw[oj,og F];exact e⟩
theorem Sa{r:List Int}(h:∀x∈r,x.natAbs<=N)(j:Nat):(r.getD j 0).natAbs<=N:=by
 rw[oj];by_cases F:j<r.length
 ·rw[og F];exact h _ (qd F)
 ·rw[pM ()];simp
def vq(r:List Rat):Ah:=λj=>r.getD j 0
def dt(n m:Nat)(T:List (List Rat)):Rat:=ld n m (Aa (T.map vq) Aj)
theorem Ph(h:∀q∈r,(q.den:Int) ∣ b):vr (r.map (wh b))=λj=>(b:Rat)*vq r j:=by
 funext j
 simp only[vr,vq,oj,om];cases e:r[j]? with
 |none=>simp
 |some q=>simp;exact Gk (h q (oi e))
def El:List Int->Int
 |[]=>1
 |b :: L=>b*El L
theorem Yi(T:List (List Rat))(β:List Rat->Int)(h:∀r∈T,∀q∈r,(q.den:Int) ∣ β r):
  ∀w S,Aa (T.map λr=>vr (r.map (wh (β r)))) w S=((El (T.map β):Int):Rat)*Aa (T.map vq) w S:=by
 induction T with
 |nil=>intro w S;simp[Aa,El]
 |cons r T ih =>
  intro w S;simp only[oP,Aa,El];rw[ih (λF J=>h F (by simp[J]))];have e:wg (vr (r.map (wh (β r)))) w=λT=>((β r:Int):Rat)*wg (vq r) w T:=by
   funext T;rw[Ph (h r #v[])];exact HP T _ _ w
  rw[e,HR,ph];grind
theorem OF(T:List (List Rat))(β:List Rat->Int)(h:∀r∈T,∀q∈r,(q.den:Int) ∣ β r):
  ld n m (Aa ((T.map λr=>r.map (wh (β r))).map vr) Aj)=((El (T.map β):Int):Rat)*dt n m T:=by
 unfold dt ld;rw[rC]
 have:=Yi T β h Aj (Tk n m)
 have e:(vr ∘ λr:List Rat=>zm (wh (β r)) r)=λr:List Rat=>vr (r.map (wh (β r))):=rfl
 rw[e,this]
 grind
theorem SV(L:List Int):(∀b∈L,0<b/\b.natAbs<=2 ^ d)->0<El L/\(El L).natAbs<=2 ^ (d*L.length):=by
 induction L with
 |nil=>intro _;exact⟨∅,by simp[El]⟩
 |cons b L ih =>
  intro h;obtain⟨h1,h2⟩:=ih (λx O=>h x (by simp[O]));obtain⟨J,F⟩:=h b #v[];exists wt J h1;simp only[El];rw[pP,pk,su,vR];exact C4 F h2
def Am(f:Nat->Rat):Nat->Rat
 |0=>0
 |n+1=>Am f n+f n
theorem OY:∀{n:Nat},i<n->(∀l,l<n->l≠i->f l=0)->Am f n=f i:=by
 intro n
 induction n with
 |zero=>intro h;lia
 |succ n ih =>
  intro h g;by_cases hi:i=n
  ·subst hi
   have:∀m,m<=i->Am f m=0:=by
    intro m
    induction m with
    |zero=>intro _;rfl
    |succ m ihm=>intro J;simp only[Am];rw[ihm (),g m () ()];grind
   simp only[Am];rw[this i (oz _)];grind
  ·simp only[Am];rw[ih () (λl O F=>g l () F),g n () ()];grind
def en(T:List (List Rat))(i j:Nat):Rat:=(T.getD i []).getD j 0
theorem L7:∀{n:Nat},(∀l,l<n->f l=0)->Am f n=0:=by
 intro n
 induction n with
 |zero=>intro _;rfl
 |succ n ih=>intro h;simp only[Am];rw[ih (λl F=>h l ()),h n ()];grind
end Wd
namespace Wd
def fx(n:Nat)(x:Nat->Rat):Ah->Rat:=λv=>Am (λj=>v j*x j) n-v n
theorem Jb(f g:Nat->Rat):∀n,Am (λj=>f j+g j) n=Am f n+Am g n:=by
 intro n
 induction n with
 |zero=>simp only[Am];grind
 |succ n ih=>simp only[Am];rw[ih];grind
theorem Rg(c:Rat)(f:Nat->Rat):∀n,Am (λj=>c*f j) n=c*Am f n:=by
 intro n
 induction n with
 |zero=>simp only[Am];grind
 |succ n ih=>simp only[Am];rw[ih];grind
theorem EJ:∀{n},(∀j,j<n->f j=g j)->Am f n=Am g n:=by
 intro n
 induction n with
 |zero=>intro _;rfl
 |succ n ih=>intro h;simp only[Am];rw[ih (λj F=>h j ()),h n ()]
theorem U3(n:Nat)(x:Nat->Rat):Qo (fx n x):=by
 constructor
 ·intro u v;have e:Am (λj=>(u j+v j)*x j) n=Am (λj=>u j*x j+v j*x j) n:=EJ (λj _=>by grind);simp only[fx];rw[e,Jb];grind
 ·intro c v;have e:Am (λj=>c*v j*x j) n=Am (λj=>c*(v j*x j)) n:=EJ (λj _=>by grind);simp only[fx];rw[e,Rg];grind
theorem dU(A:Nat->Ah)(hd:∀i,i<n->A i i≠0)(hz:∀i j,i<n->j<i->A i j=0):∀k,k<=n->∃x:Nat->Rat,∀i,n-k<=i->i<n->fx n x (A i)=0:=by
 intro k
 induction k with
 |zero=>intro _;exact⟨λ_=>0,λi h1 h2=>()⟩
 |succ k ih =>
  intro hk;obtain⟨x,hx⟩:=ih ()
  let F:=n-(k+1)
  have ab:F<n:=by show n-(k+1)<n;lia
  let rest:=Am (λj=>if j=F then 0 else A F j*x j) n
  let J:Nat->Rat:=λj=>if j=F then (A F n-rest) / A F F else x j
  refine⟨J,λi h1 h2=>?_⟩;have split:∀(B:Ah) (y:Nat->Rat),Am (λj=>B j*y j) n=B F*y F+Am (λj=>if j=F then 0 else B j*y j) n:=by
   intro B y;have e:Am (λj=>B j*y j) n=Am (λj=>(if j=F then B F*y F else 0)+(if j=F then 0 else B j*y j)) n:=by
    refine EJ λj _=>?_
    by_cases h:j=F
    ·simp only[oH h,h];grind
    ·simp only[oC h];grind
   rw[e,Jb];congr 1;rw[OY (i:=F) ab (λl _ ad=>oC ad)];simp
  by_cases aa:i=F
  ·subst aa;have ad:=hd F ab;have e2:Am (λj=>if j=F then 0 else A F j*J j) n=rest:=by
    refine EJ λj _=>?_
    by_cases h:j=F
    ·simp only[oH h]
    ·simp only[oC h,J]
   simp only[fx];rw[split,e2];simp only[J,oH]
   grind
  ·have ac:F<i:=by
    have:n-(k+1)<=i:=h1
    show n-(k+1)<i
    have:i≠n-(k+1):=aa
    lia
   have O:=hx i (by have:n-(k+1)<i:=ac;lia) h2;simp only[fx]at O ⊢;rw[split]at O ⊢;have z:A i F=0:=hz i F h2 ac;have e2:Am (λj=>if j=F then 0 else A i j*J j) n=Am (λj=>if j=F then 0 else A i j*x j) n:=by
    refine EJ λj _=>?_
    by_cases h:j=F
    ·simp only[oH h]
    ·simp only[oC h,J]
   rw[e2,z];rw[z]at O
   grind
def ct:Ah->A5->A5
 |_,_,[]=>0
 |y,w,false :: S=>y 0*w (true :: S)+ct (sh y) (BG w) S
 |y,w,true :: S=>- ct (sh y) (Az w) S
theorem jC(S:List Bool):∀(y:Ah) (w x:A5),ct y (λT=>w T+x T) S=ct y w S+ct y x S:=by
 induction S with
 |nil=>intro y w x;simp only[ct];grind
 |cons b S ih =>
  intro y w x;have F:BG (λT=>w T+x T)=λT=>BG w T+BG x T:=rfl
  have J:Az (λT=>w T+x T)=λT=>Az w T+Az x T:=rfl
  cases b
  ·simp only[ct,F,ih];grind
  ·simp only[ct,J,ih];grind
theorem Oa(S:List Bool):∀(c:Rat) (y:Ah) (w:A5),ct y (λT=>c*w T) S=c*ct y w S:=by
 induction S with
 |nil=>intro c y w;simp only[ct];grind
 |cons b S ih =>
  intro c y w;have F:BG (λT=>c*w T)=λT=>c*BG w T:=rfl
  have J:Az (λT=>c*w T)=λT=>c*Az w T:=rfl
  cases b
  ·simp only[ct,F,ih];grind
  ·simp only[ct,J,ih];grind
theorem jq(S:List Bool)(y:Ah)(w x:A5):ct y (λT=>w T-x T) S=ct y w S-ct y x S:=by
 have e:(λT=>w T-x T)=λT=>w T+(λT=>(-1)*x T) T:=by funext T;grind
 rw[e,jC,Oa];grind
def Gu(u y:Ah):Nat->Rat
 |0=>0
 |n+1=>u 0*y 0+Gu (sh u) (sh y) n
theorem kD(S:List Bool):∀(v y:Ah) (w:A5),ct y (wg v w) S+wg v (ct y w) S=Gu v y S.length*w S:=by
 induction S with
 |nil=>intro v y w;simp only[ct,wg,Gu,rV];grind
 |cons b S ih =>
  intro v y w;cases b
  ·have h:=ih (sh v) (sh y) (BG w);have J:BG (wg v w)=wg (sh v) (BG w):=rfl;have F:BG (ct y w)=λT=>(λT=>y 0*Az w T) T+ct (sh y) (BG w) T:=rfl
   simp only[ct,wg,Gu,pk,J];rw[F,K5,Fd]
   have:BG w S=w (false :: S):=rfl
   grind
  ·have h:=ih (sh v) (sh y) (Az w);have J:Az (wg v w)=λT=>(λT=>v 0*BG w T) T-wg (sh v) (Az w) T:=rfl
   have F:Az (ct y w)=λT=>(-1)*ct (sh y) (Az w) T:=by funext T;show-ct (sh y) (Az w) T=_;grind
   simp only[ct,wg,Gu,pk];rw[J,F,jq,Oa,Fd]
   have:Az w S=w (true :: S):=rfl
   grind
theorem UR(S:List Bool):∀(v:Ah) (w x:A5),(∀T:List Bool,T.length=S.length->w T=x T)->wg v w S=wg v x S:=by
 induction S with
 |nil=>intro v w x _;rfl
 |cons b S ih =>
  intro v w x h;cases b
  ·exact ih _ _ _ (λT F=>h (false :: T) (by simp[F]))
  ·simp only[wg];rw[h (false :: S) #v[],ih (sh v) (Az w) (Az x) (λT F=>h (true :: T) (by simp[F]))]
theorem jY(S:List Bool):∀y:Ah,ct y Aj S=0:=by
 induction S with
 |nil=>intro y;rfl
 |cons b S ih =>
  intro y;cases b
  ·simp only[ct];have e:BG Aj=Aj:=rfl;have F:Aj (true :: S)=0:=rfl;rw[e,ih,F];grind
  ·simp only[ct];have e:Az Aj=λT=>0*Aj T:=by funext T;show(0:Rat)=_;grind
   rw[e,Oa];grind
theorem jG(m:Nat)(y:Ah)(L:List Ah):∀(w:A5),(∀v∈L,Gu v y m=0)->(∀S:List Bool,S.length=m->ct y w S=0)->∀S:List Bool,S.length=m->ct y (Aa L w) S=0:=by
 induction L with
 |nil=>intro w _ h;exact h
 |cons v L ih =>
  intro w F h;refine ih (wg v w) (λu J=>F u (by simp[J])) λS O=>?_
  have e:=kD S v y w;have e2:wg v (ct y w) S=0:=by
   rw[UR S v (ct y w) (λ_=>0) (λT hT=>h T ()),MS]
  rw[e2,O,F v #v[]]at e
  grind
theorem UY(c:Nat):∀(y:Ah) (w:A5) (S:List Bool),ct y w (oE c true++S)=sg c*ct (DJ c y) (pre c w) S:=by
 induction c with
 |zero=>intro y w S;simp[sg];rfl
 |succ c ih =>
  intro y w S;simp only[qo,uc,ct];rw[ih,Ol];have J:DJ c (sh y)=DJ (c+1) y:=by funext j;simp only[DJ,sh];congr 1
  have F:pre c (Az w)=pre (c+1) w:=by funext T;simp[pre,Az,qo]
  rw[J,F];grind
theorem bR(n:Nat):∀u y:Ah,Gu u y n=Am (λj=>u j*y j) n:=by
 have F:∀n (f:Nat->Rat),Am f (n+1)=f 0+Am (λj=>f (j+1)) n:=by
  intro n f
  induction n with
  |zero=>simp only[Am];grind
  |succ n ih=>rw[Am,ih];simp only[Am];grind
 induction n with
 |zero=>intro u y;rfl
 |succ n ih =>
  intro u y;simp only[Gu];rw[ih,F];rfl
def KW(n j:Nat):List Bool:=oE j true++false :: (oE (n-1-j) true++[true])
def Nz(n j:Nat):Rat:=CF n*sg (n-1-j)
theorem U5(h:∀a∈A,fx n x a=0)(hj:j<n):(KW n j).length=n+1/\(Nz n j=1\/Nz n j=-1)/\x j*ld n (n+1) (Aa A Aj)=Nz n j*Aa A Aj (KW n j):=by
 let y:Ah:=λi=>if i=n then -1 else x i
 have aa:∀v∈A,Gu v y (n+1)=0:=by
  intro v hv;rw[bR];simp only[Am];have e:Am (λj=>v j*y j) n=Am (λj=>v j*x j) n:=EJ λi hi=>by simp only[y,oC (show i≠n by lia)]
  have:=h v hv
  simp only[fx]at this;rw[e];simp only[y,oH];grind
 have hz:=jG (n+1) y A Aj aa (λS _=>jY S y) (oE j true++(false :: (oE (n-1-j) true++[false]))) (by simp;lia);generalize Aa A Aj=w at hz ⊢;rw[UY]at hz;simp only[ct]at hz;rw[UY]at hz;simp only[ct]at hz;have F:∀c,sg c=1\/sg c=-1:=by intro c;unfold sg;split;exact .inl rfl;exact .inr rfl
 have s2:∀c,CF c=1\/CF c=-1:=by
  intro c;induction c with
  |zero=>exact .inl rfl
  |succ c ih =>
   simp only[CF];rcases ih with a|a<;>rcases F c with b|b<;>rw[a,b]<;>grind
 have eT:oE j true++true :: (oE (n-1-j) true++[false])=Tk n (n+1):=by
  unfold Tk;rw[show n+1-n=1 by lia,List.replicate_one]
  have:oE j true++true :: (oE (n-1-j) true++[false])=(oE j true++oE 1 true++oE (n-1-j) true)++[false]:=by simp
  rw[this,vo,vo];congr 2;lia
 have O:DJ j y 0=x j:=by simp only[DJ,y,vd,oC (show j≠n by lia)]
 have J:DJ (n-1-j) (sh (DJ j y)) 0=-1:=by
  simp only[DJ,sh,y];rw[oH ()]
 have w1:pre j w (true :: (oE (n-1-j) true++[false]))=w (Tk n (n+1)):=by unfold pre;rw[eT]
 have w2:pre (n-1-j) (BG (pre j w)) [true]=w (oE j true++false :: (oE (n-1-j) true++[true])):=rfl;rw[O,J,w1,w2]at hz;unfold KW Nz;exists by simp;lia,?_
 ·rcases s2 n with a|a<;>rcases F (n-1-j)with b|b<;>rw[a,b]<;>grind
 ·unfold ld;have hs:=F j;rcases F j with a|a<;>rw[a]at hz<;>grind
theorem Sr(F:c≠0):fx n x (λj=>c*v j)=0↔fx n x v=0:=by
 rw[(U3 n x).HI];constructor
 ·intro h;grind
 ·intro h;rw[h];grind
end Wd
namespace Mth
theorem fJ(h:0<c)(h1:c ∣ M)(h2:(q.den:Int) ∣ M):CU c q ∣ M:=by
 have hq:=q.den_nz;have hg:0<qJ c q.den:=um _ ();have F:=uY c (q.den:Int);have e:CU c q=c / (qJ c q.den:Int)*q.den:=by unfold CU;rw[qw F]
 have l:c / (qJ c q.den:Int)*q.den=(Int.lcm c q.den:Int):=by
  have J:(qJ c q.den:Int)*(Int.lcm c q.den:Int)=c*q.den:=by
   have:=Int.gcd_mul_lcm c (q.den:Int)
   have O:((c*(q.den:Int)).natAbs:Int)=c*q.den:=by
    have:0<c*(q.den:Int):=wt h ()
    lia
   rw[<-O,pP,<-this,acL]
  have h5:(qJ c q.den:Int)≠0:=()
  refine Int.eq_of_mul_eq_mul_left h5 ?_;rw[J,<-Int.mul_assoc,Int.mul_ediv_cancel' F]
 rw[e,l];exact Int.coe_lcm_dvd h1 h2
theorem Mv(r:List Rat):∀{c:Int},0<c->c ∣ M->(∀q∈r,(q.den:Int) ∣ M)->r.foldl CU c ∣ M:=by
 induction r with
 |nil=>intro c _ h _;exact h
 |cons q r ih =>
  intro c F h1 h2;exact ih (U4 F q).1 (fJ F h1 (h2 q #v[])) (λp J=>h2 p (by simp[J]))
theorem kd(F:0<M)(h:∀q∈r,(q.den:Int) ∣ M):(cb r).natAbs<=M.natAbs:=by
 have h1:cb r ∣ M:=Mv r ∅ (aab _) h;exact vA () (vP.mpr h1)
theorem Tf{M k:Int}(h:(M:Rat)*q=k):(q.den:Int) ∣ M:=by
 have h1:=Ff q;have e:(((M*q.num:Int)):Rat)=((k*q.den:Int):Rat):=by
  rw[ph,ph,ic];grind
 have J:M*q.num=k*q.den:=by exact_mod_cast e
 have O:M.natAbs*q.num.natAbs=k.natAbs*q.den:=by
  have:=congrArg acK J
  rw[pP,pP,pO]at this;exact this
 have F:aad q.den q.num.natAbs:=aad.symm q.reduced
 have:q.den ∣ M.natAbs:=aad.dvd_of_dvd_mul_right F ⟨k.natAbs,by rw[O,wN]⟩
 exact yv.mpr this
theorem Th:∀{r:List Rat} {p:Rat},p∈r->p.den<=(r.map (·.den)).sum
 |q :: r,p,h=>by
  rw[oP,qk];rcases oG.mp h with rfl|h
  ·lia
  ·have:=Th h;lia
theorem Jp(r:List Rat):0<cb r/\∀q∈r,(q.den:Int) ∣ cb r:=by
 obtain⟨a,_,b,_⟩:=VS r (c:=1) (D:=0) (d:=(r.map (·.den)).sum) ∅ ∅ (λp F=>by
  have h1:p.den<=(r.map (·.den)).sum:=Th F;have h2:(r.map (·.den)).sum<2 ^ (r.map (·.den)).sum:=Nat.lt_two_pow_self
  lia)
 exact⟨a,b⟩
def Vb(v:Nat)(q:Rat):Prop:=Wd.Ab ((2 ^ v:Nat):Rat) q
theorem Sb.vb(h:Sb n d q):Vb n q:=by
 have h1:=Ff q;have h2:(1:Rat)<=((q.den:Nat):Rat):=by
  have:1<=q.den:=by have:=q.den_nz;lia
  exact_mod_cast this
 have J:=Wd.Ii h.1;obtain⟨a,b⟩:=J;have O:(0:Rat)<=((2 ^ n:Nat):Rat):=by exact_mod_cast o9 _
 rw[<-h1]at a b;constructor
 ·by_cases F:0<=q
  ·grind
  ·have:0<=(-q)*(((q.den:Nat):Rat)-1):=sM (by grind) (by grind)
   grind
 ·by_cases F:0<=q
  ·have:0<=q*(((q.den:Nat):Rat)-1):=sM F (by grind)
   grind
  ·grind
theorem VQ(h:(q.den:Int) ∣ b)(h1:Vb v q)(h2:b.natAbs<=2 ^ D):(wh b q).natAbs<=2 ^ (D+v):=by
 refine Wd.GA ?_;rw[Gk h]
 have:=(Wd.Ii h2).GU h1
 have e:(((2 ^ D:Nat)):Rat)*((2 ^ v:Nat):Rat)=((2 ^ (D+v):Nat):Rat):=by rw[wz,wH]
 rw[e]at this;exact this
end Mth
namespace Wd
open Mth
variable {T:List (List Rat)}{rs:List Ap}{i:Nat}{x:Nat->Rat}
theorem gc(S:List Bool):∀(u v:Ah) (w:A5),(∀j,j<S.length->u j=v j)->wg u w S=wg v w S:=by
 induction S with
 |nil=>intro u v w _;rfl
 |cons b S ih =>
  intro u v w h;have h2:=ih (sh u) (sh v);cases b
  ·exact h2 _ (λj F=>h (j+1) (by simp;lia))
  ·simp only[wg];rw[h 0 #v[],h2 _ (λj F=>h (j+1) (by simp;lia))]
theorem eL(S:List Bool):∀(v:Ah) (w:A5),wg v w (S++[false])=wg v (λT=>w (T++[false])) S:=by
 induction S with
 |nil=>intro v w;rfl
 |cons b S ih =>
  intro v w;cases b
  ·exact ih (sh v) (BG w)
  ·simp only[uc,wg];rw[ih];rfl
theorem Z5(S:List Bool):Aj (S++[false])=Aj S:=by
 induction S with
 |nil=>rfl
 |cons b S ih=>cases b;exact ih;rfl
theorem bH(n:Nat)(L:List (Ah×Ah)):∀(w x:A5),(∀p∈L,∀j,j<n->p.1 j=p.2 j)->(∀T:List Bool,T.length=n->w (T++[false])=x T)->∀S:List Bool,S.length=n->Aa (L.map (·.1)) w (S++[false])=Aa (L.map (·.2)) x S:=by
 induction L with
 |nil=>intro w x _ h S F;exact h S F
 |cons p L ih =>
  intro w x J h S F;refine ih (wg p.1 w) (wg p.2 x) (λq O=>J q (by simp[O])) (λT hT=>?_) S F;rw[eL,gc T p.1 p.2 _ (λj hj=>J p #v[] j ())];exact UR T p.2 _ _ (λU hU=>h U ())
theorem VA(h:j<row.length):vq (row++[q]) j=vq row j:=by
 simp only[vq,oj];rw[pR h]
theorem lC:vq (row++[q]) row.length=q:=by
 simp only[vq,oj];rw[pE (oz _)];simp
theorem eX(hT:T.length=n)(hr:r.length=n)(J:∀x∈T,x.length=n):dt n (n+1) (xO (λrow q=>row++[q]) T r)=dt n n T:=by
 have e1:(xO (λrow q=>row++[q]) T r).map vq=((T.zip r).map λp=>(vq (p.1++[p.2]),vq p.1)).map (·.1):=by
  rw[rC,acu,List.zip,acu];rfl
 have F:T.map vq=((T.zip r).map λp=>(vq (p.1++[p.2]),vq p.1)).map (·.2):=by
  rw[rC]
  have:(T.zip r).map ye=T:=List.map_fst_zip ()
  conv=>lhs;rw[<-this]
  rw[rC];rfl
 unfold dt ld;rw[e1,F];congr 1;have t1:Tk n (n+1)=Tk n n++[false]:=by
  unfold Tk;rw[show n+1-n=1 by lia,vT];simp
 rw[t1];refine bH n _ Aj Aj (λp hp j hj=>?_) (λT _=>Z5 T) _ (by unfold Tk;simp);obtain⟨q,O,rfl⟩:=oI.mp hp;exact VA (by rw[J q.1 (xN O).1];exact hj)
theorem cX(h:row.length=n):fx n x (vq (row++[q]))=Am (λj=>vq row j*x j) n-q:=by
 simp only[fx];rw[EJ (λj F=>by rw[VA ()])]
 have:=lC (row:=row) (q:=q)
 rw[h]at this;rw[this]
def DH(T:List (List Rat))(i j:Nat)(v:Rat):List (List Rat):=T.set i ((T.getD i []).set j v)
structure Sq(n:Nat)(T:List (List Rat)):Prop where
 len:T.length=n
 col:∀r∈T,r.length=n
theorem Sq.row(h:Sq n T)(hi:i<n):(T.getD i []).length=n/\T[i]?=some (T.getD i []):=by
 have e:T[i]?=some (T[i]'(by rw[h.len];exact hi)):=og _;have F:T.getD i []=T[i]'(by rw[h.len];exact hi):=by rw[oj,e];rfl
 rw[F];exact⟨h.col _ (qd _),e⟩
theorem Sq.set(h:Sq n T)(hi:i<n):Sq n (DH T i j v):=by
 refine⟨by unfold DH;rw[vH];exact h.len,λr F=>?_⟩;unfold DH at F;rcases List.mem_or_eq_of_mem_set F with h1|h1
 ·exact h.col r h1
 ·rw[h1,vH];exact(h.row hi).1
theorem IZ(h:Sq n T)(hi:i<n)(hj:j<n)(F J:Nat):en (DH T i j v) F J=if F=i/\J=j then v else en T F J:=by
 unfold en DH;have hl:=(h.row hi).1;by_cases e:i=F
 ·subst e
  have:(T.set i ((T.getD i []).set j v)).getD i []=(T.getD i []).set j v:=by
   rw[oj,sJ (by rw[h.len];exact hi)];rfl
  rw[this];by_cases O:j=J
  ·subst O;rw[oH ⟨G,G⟩,oj,sJ ()];rfl
  ·rw[oC (λz=>O z.2.symm),oj,tG O,<-List.getD_eq_getElem?_getD]
 ·have:(T.set i ((T.getD i []).set j v)).getD F []=T.getD F []:=by
   rw[oj,tG e,<-List.getD_eq_getElem?_getD]
  rw[this,oC (λz=>e z.1.symm)]
abbrev Ap:=Nat×Nat×Rat
def Cf(T:List (List Rat))(r:Ap):List (List Rat) :=
 if r.1=r.2.1 then T else
 let T1:=DH T r.1 r.1 (en T r.1 r.1+r.2.2)
 let T2:=DH T1 r.2.1 r.2.1 (en T1 r.2.1 r.2.1+r.2.2)
 let F:=DH T2 r.1 r.2.1 (en T2 r.1 r.2.1-r.2.2)
 DH F r.2.1 r.1 (en F r.2.1 r.1-r.2.2)
def EO(n:Nat):List (List Rat):=oE n (oE n 0)
def Bo(n:Nat)(rs:List Ap):List (List Rat):=rs.foldl Cf (EO n)
theorem T5(n:Nat):Sq n (EO n):=⟨by simp[EO],λr F=>by rw[(abw.mp F).2];simp⟩
theorem UB(n i j:Nat):en (EO n) i j=0:=by
 unfold en EO;rw[oj,oj,tK];split
 ·simp only[zp];rw[tK];split<;>rfl
 ·rfl
def DG(r:Ap)(i j:Nat):Rat :=
 if r.1=r.2.1 then 0 else (if i=r.1/\j=r.1 then r.2.2 else 0)+(if i=r.2.1/\j=r.2.1 then r.2.2 else 0)-(if i=r.1/\j=r.2.1 then r.2.2 else 0)-(if i=r.2.1/\j=r.1 then r.2.2 else 0)
theorem RE(h:Sq n T)(h1:r.1<n)(h2:r.2.1<n):Sq n (Cf T r)/\∀i j,en (Cf T r) i j=en T i j+DG r i j:=by
 unfold Cf DG;by_cases e:r.1=r.2.1
 ·simp only[oH e];exact⟨h,λi j=>by grind⟩
 ·simp only[oC e];have F:=h.set (j:=r.1) (v:=en T r.1 r.1+r.2.2) h1;have e1:=IZ h (v:=en T r.1 r.1+r.2.2) h1 h1;generalize DH T r.1 r.1 (en T r.1 r.1+r.2.2)=T1 at F e1;have O:=F.set (j:=r.2.1) (v:=en T1 r.2.1 r.2.1+r.2.2) h2;have e2:=IZ F (v:=en T1 r.2.1 r.2.1+r.2.2) h2 h2;generalize DH T1 r.2.1 r.2.1 (en T1 r.2.1 r.2.1+r.2.2)=T2 at O e2;have J:=O.set (j:=r.2.1) (v:=en T2 r.1 r.2.1-r.2.2) h1;have e3:=IZ O (v:=en T2 r.1 r.2.1-r.2.2) h1 h2;generalize DH T2 r.1 r.2.1 (en T2 r.1 r.2.1-r.2.2)=T3 at J e3;have q4:=J.set (j:=r.1) (v:=en T3 r.2.1 r.1-r.2.2) h2;have e4:=IZ J (v:=en T3 r.2.1 r.1-r.2.2) h2 h1;refine⟨q4,λi j=>?_⟩;rw[e4];simp only[e3,e2,e1]
  grind
theorem dD:∀(rs:List Ap) {T:List (List Rat)},Sq n T->(∀r∈rs,r.1<n/\r.2.1<n)->Sq n (rs.foldl Cf T)/\∀i j,en (rs.foldl Cf T) i j=en T i j+(rs.map λr=>DG r i j).sum:=by
 intro rs
 induction rs with
 |nil=>intro T h _;exact⟨h,λi j=>by simp only[rT,wM,ac6];grind⟩
 |cons r rs ih =>
  intro T h F;obtain⟨a,b⟩:=RE h (F r #v[]).1 (F r #v[]).2;obtain⟨c,d⟩:=ih a (λx J=>F x (by simp[J]));refine⟨c,λi j=>?_⟩;rw[uz,d,b,oP,qk];grind
theorem bD(c:Nat)(L:List Ah):∀(w:A5) (S:List Bool),(∀v∈L,∀j,j<c->v j=0) →
  ∃e:Rat,e*e=1/\Aa L w (oE c true++S)=e*Aa (L.map (DJ c)) (pre c w) S:=by
 induction L with
 |nil=>intro w S _;exact⟨1,by grind,by simp[Aa,pre]⟩
 |cons v L ih =>
  intro w S h;obtain⟨e,h1,J⟩:=ih (wg v w) S (λu F=>h u (by simp[F]));refine⟨e*sg c,by have:=Iq c;grind,?_⟩;simp only[Aa,oP];rw[J]
  have:pre c (wg v w)=λT=>sg c*wg (DJ c v) (pre c w) T:=by
   funext T;exact Pb c v w T (h v #v[])
  rw[this,HR];grind
theorem Lz(f:Nat->Rat):∀n,Am f (n+1)=f 0+Am (λj=>f (j+1)) n:=by
 intro n
 induction n with
 |zero=>simp only[Am];grind
 |succ n ih =>
  have:Am f (n+1+1)=Am f (n+1)+f (n+1):=rfl
  rw[this,ih];simp only[Am];grind
theorem aU(r:Ah)(c:Ah->Rat)(M:List Ah):∀(w:A5),(∀S,wg r w S=0)->Aa (M.map λv=>λj=>v j + -c v*r j) w=Aa M w:=by
 induction M with
 |nil=>intro w _;rfl
 |cons v M ih =>
  intro w h;simp only[oP,Aa];have e:wg (λj=>v j + -c v*r j) w=wg v w:=by
   funext S
   have h1:=Km S v (λj=>-c v*r j) w;rw[HP,h S]at h1;rw[h1];grind
  rw[e];refine ih _ (λS=>?_);have F:wg r w=λ_=>0:=funext h
  rw[Kv,F,MS];grind
theorem m8:∀(n:Nat) (L:List Ah),L.length=n->ld n n (Aa L Aj)=0->∃x:Nat->Rat,(∃j,j<n/\x j≠0)/\∀v∈L,Am (λj=>v j*x j) n=0:=by
 intro n
 induction n with
 |zero =>
  intro L O h
  have:L=[]:=r9.mp O
  subst this;have h1:=PK 0;rw[show Aa [] Aj=Aj from rfl,h1]at h
  grind
 |succ n ih =>
  intro L O h;by_cases hz:∀v∈L,v 0=0
  ·refine⟨λj=>if j=0 then 1 else 0,⟨0,(),#v[]⟩,λv F=>?_⟩;rw[OY (i:=0) () (λl _ J=>by simp[J])];rw[hz v F];grind
  ·have ac:∃r,r∈L/\r 0≠0:=by
    apply uI;intro hn;exact hz (λv F=>uI λz=>hn ⟨v,F,z⟩)
   obtain⟨r,hr,h0⟩:=ac;obtain⟨A,B,rfl⟩:=vF hr;have J:(A++B).length=n:=by simp at O ⊢;lia
   let c:Ah->Rat:=λv=>v 0 / r 0
   let f:Ah->Ah:=λv=>λj=>v j + -c v*r j
   have e1:∀S,Aa (A++r :: B) Aj S=sg A.length*Aa ((A++B).map f) (wg r Aj) S:=by
    intro S;have q1:Aa ((A++B).map f) (wg r Aj)=Aa (A++B) (wg r Aj):=aU r c (A++B) (wg r Aj) (λS=>Jx S r Aj);rw[q1,Gf,Gf];have q2:Aa A (wg r Aj)=λT=>sg A.length*wg r (Aa A Aj) T:=funext λT=>US A r Aj T
    rw[q2,HR];show Aa B (wg r (Aa A Aj)) S=_
    have:=Iq A.length
    grind
   have fz:∀v∈(A++B).map f,∀j,j<1->v j=0:=by
    intro v F j hj;obtain⟨u,_,rfl⟩:=oI.mp F
    have:j=0:=()
    subst this;show u 0 + -(u 0 / r 0)*r 0=0
    have:u 0 / r 0*r 0=u 0:=uo h0
    grind
   obtain⟨e,ee,he⟩:=bD 1 ((A++B).map f) (wg r Aj) (oE n true) fz;have e2:pre 1 (wg r Aj)=λT=>r 0*Aj T:=by
    funext T
    show wg r Aj (true :: T)=_;simp only[wg]
    have:Az Aj=λ_=>0:=by funext S;rfl
    rw[this,MS];show r 0*Aj T-0=_
    grind
   have e3:Tk (n+1) (n+1)=oE 1 true++oE n true:=by unfold Tk;simp[qo]
   have e4:Tk n n=oE n true:=by unfold Tk;simp
   have h2:ld n n (Aa (((A++B).map f).map (DJ 1)) Aj)=0:=by
    unfold ld at h ⊢;rw[e3,e1,he,e2,HR]at h;rw[e4];have t1:=Jr (n+1);have t2:=Iq A.length;have nt:CF (n+1)≠0:=λz=>by rw[z]at t1;grind
    have ns:sg A.length≠0:=λz=>by rw[z]at t2;grind
    have ne:e≠0:=λz=>by rw[z]at ee;grind
    have z:=(sS.mp h).resolve_left nt;have z:=(sS.mp z).resolve_left ns;have z:=(sS.mp z).resolve_left ne;have z:=(sS.mp z).resolve_left h0;rw[z];grind
   obtain⟨y,⟨j,hj,hy⟩,hs⟩:=ih _ (by simp only[kb];exact J) h2
   let s:=Am (λj=>r (j+1)*y j) n
   let x:Nat->Rat:=λj=>match j with|0=>-s / r 0|j+1=>y j
   have x0:r 0*x 0=-s:=by
    show r 0*(-s / r 0)=-s;rw[vf];exact uo h0
   have aa:Am (λj=>r j*x j) (n+1)=0:=by
    rw[Lz];show r 0*x 0+s=0;rw[x0];grind
   refine⟨x,⟨j+1,(),hy⟩,λv F=>?_⟩;have ab:v=r\/v∈A++B:=by
    rcases oM.mp F with z|z
    ·exact .inr (oM.mpr (.inl z))
    ·rcases oG.mp z with z|z
     ·exact .inl z
     ·exact .inr (oM.mpr (.inr z))
   rcases ab with rfl|hm
   ·exact aa
   ·have g1:=hs (DJ 1 (f v)) (oI.mpr ⟨f v,oI.mpr ⟨v,hm,G⟩,G⟩);have g2:Am (λj=>f v j*x j) (n+1)=0:=by
     rw[Lz,show f v 0=0 from fz _ (oI.mpr ⟨v,hm,G⟩) 0 ()]
     have:Am (λj=>f v (j+1)*x (j+1)) n=0:=g1
     rw[this];grind
    have g3:Am (λj=>f v j*x j) (n+1)=Am (λj=>v j*x j) (n+1) + -c v*Am (λj=>r j*x j) (n+1):=by
     rw[<-Rg,<-Jb];refine EJ λj _=>?_
     show(v j + -c v*r j)*x j=_
     grind
    rw[g2,aa]at g3
    grind
def BI(X:Nat->Rat)(r:Ap):Rat:=r.2.2*(X r.1-X r.2.1)
def DS(X:Nat->Rat)(i:Nat)(r:Ap):Rat:=(if i=r.1 then BI X r else 0)-(if i=r.2.1 then BI X r else 0)
def CS(X:Nat->Rat)(rs:List Ap)(i:Nat):Rat:=(rs.map (DS X i)).sum
def Pz(n:Nat)(rs:List Ap):Prop:=∀S:Nat->Prop,S 0->(∀r∈rs,S r.1↔S r.2.1)->∀p,p<n->S p
theorem L6(c:Rat)(hi:i<n):Am (λj=>if j=i then c else 0) n=c:=by
 rw[OY (i:=i) hi (λl _ h=>by rw[oC h])];rw[oH rfl]
theorem aL(h1:r.1<n)(h2:r.2.1<n)(X:Nat->Rat)(i:Nat):Am (λj=>DG r i j*X j) n=DS X i r:=by
 by_cases e:r.1=r.2.1
 ·have:∀j,DG r i j*X j=0:=λj=>by unfold DG;rw[oH e];grind
  rw[L7 (λl _=>this l)];unfold DS BI;rw[e];grind
 ·have:∀j,DG r i j*X j=(if j=r.1 then (if i=r.1 then r.2.2*X r.1 else 0)-(if i=r.2.1 then r.2.2*X r.1 else 0) else 0)+(if j=r.2.1 then (if i=r.2.1 then r.2.2*X r.2.1 else 0)-(if i=r.1 then r.2.2*X r.2.1 else 0) else 0):=by
   intro j;unfold DG;rw[oC e];by_cases F:j=r.1
   ·subst F;by_cases O:i=r.1<;>by_cases J:i=r.2.1<;>simp[O,J,e]<;>grind
   ·by_cases a4:j=r.2.1
    ·subst a4;by_cases O:i=r.1<;>by_cases J:i=r.2.1<;>simp[F,O,J,e]<;>grind
    ·simp[F,a4];grind
  rw[EJ (g:=λj=>(if j=r.1 then (if i=r.1 then r.2.2*X r.1 else 0)-(if i=r.2.1 then r.2.2*X r.1 else 0) else 0)+(if j=r.2.1 then (if i=r.2.1 then r.2.2*X r.2.1 else 0)-(if i=r.1 then r.2.2*X r.2.1 else 0) else 0)) (λj _=>this j)];rw[Jb,L6 _ h1,L6 _ h2];unfold DS BI
  grind
theorem R7(f:Ap->Nat->Rat):∀rs:List Ap,Am (λj=>(rs.map λr=>f r j).sum) n=(rs.map λr=>Am (f r) n).sum:=by
 intro rs
 induction rs with
 |nil=>simp only[rT,wM];exact L7 λ_ _=>rfl
 |cons r rs ih=>simp only[oP,qk];rw[Jb,ih]
theorem OT(c:Rat)(f:Ap->Rat)(rs:List Ap):(rs.map f).sum*c=(rs.map λr=>f r*c).sum:=by
 induction rs with
 |nil=>simp only[rT,wM];grind
 |cons r rs ih=>simp only[oP,qk];rw[<-ih];grind
theorem OO{f g:Ap->Rat}(h:∀r∈rs,f r=g r):(rs.map f).sum=(rs.map g).sum:=by rw[sQ h]
theorem HV(h:∀r∈rs,r.1<n/\r.2.1<n):Sq n (Bo n rs)/\∀i j,en (Bo n rs) i j=(rs.map λr=>DG r i j).sum:=by
 obtain⟨a,b⟩:=dD rs (T5 n) h;refine⟨a,λi j=>?_⟩
 have:=b i j
 rw[UB]at this;show en (rs.foldl Cf (EO n)) i j=_;rw[this];grind
theorem SD(h:∀r∈rs,r.1<n/\r.2.1<n)(X:Nat->Rat)(i:Nat):Am (λj=>en (Bo n rs) i j*X j) n=CS X rs i:=by
 rw[EJ (g:=λj=>(rs.map λr=>DG r i j*X j).sum) (λj _=>by rw[(HV h).2,OT])];rw[R7 (λr j=>DG r i j*X j)];exact OO λr F=>aL (h r F).1 (h r F).2 X i
theorem bS(h1:r.1<n)(h2:r.2.1<n)(X Y:Nat->Rat):Am (λi=>Y i*DS X i r) n=BI X r*(Y r.1-Y r.2.1):=by
 have:∀i,Y i*DS X i r=(if i=r.1 then Y r.1*BI X r else 0)+(if i=r.2.1 then-(Y r.2.1*BI X r) else 0):=by
  intro i;unfold DS;by_cases a:i=r.1<;>by_cases b:i=r.2.1<;>simp[a,b]<;>grind
 rw[EJ (λi _=>this i),Jb,L6 _ h1,L6 _ h2];grind
theorem aN(h:∀r∈rs,r.1<n/\r.2.1<n)(X Y:Nat->Rat):Am (λi=>Y i*CS X rs i) n=(rs.map λr=>BI X r*(Y r.1-Y r.2.1)).sum:=by
 rw[EJ (g:=λi=>(rs.map λr=>Y i*DS X i r).sum) (λi _=>by unfold CS;rw[vf,OT];exact OO λr _=>vf _ _)];rw[R7 (λr i=>Y i*DS X i r)];exact OO λr F=>bS (h r F).1 (h r F).2 X Y
theorem lB(x:Rat):0<=x*x:=by
 rcases Rat.le_total (a:=0) (b:=x)with h|h
 ·exact sM h h
 ·have:0<=-x:=by grind
  have:=sM this this
  grind
theorem jo{f:Ap->Rat}:∀{rs:List Ap},(∀r∈rs,0<=f r)->0<=(rs.map f).sum:=by
 intro rs
 induction rs with
 |nil=>intro _;simp only[rT,wM];exact Rat.le_refl
 |cons r rs ih =>
  intro h;simp only[oP,qk];have h1:=h r #v[];have h2:=ih (λx F=>h x (by simp[F]))
  grind
theorem fA{f:Ap->Rat}:∀{rs:List Ap},(∀r∈rs,0<=f r)->(rs.map f).sum=0->∀r∈rs,f r=0:=by
 intro rs
 induction rs with
 |nil=>intro _ _ r F;cases F
 |cons r rs ih =>
  intro h e x hx;simp only[oP,qk]at e;have h1:=h r #v[];have h2:=jo (f:=f) (rs:=rs) (λx hx=>h x (by simp[hx]));rcases oG.mp hx with rfl|hx
  ·grind
  ·exact ih (λx hx=>h x (by simp[hx])) (by grind) x hx
theorem RM(h:∀r∈rs,r.1<n/\r.2.1<n/\0<r.2.2)(g:Pz n rs)(h0:X 0=0)(hb:∀i,i<n->X i=0\/CS X rs i=0):∀i,i<n->X i=0:=by
 have h':∀r∈rs,r.1<n/\r.2.1<n:=λr F=>⟨(h r F).1,(h r F).2.1⟩
 have J:=aN h' X X;rw[L7 (λi hi=>by rcases hb i hi with z|z<;>rw[z]<;>grind)]at J;have nn:∀r∈rs,0<=BI X r*(X r.1-X r.2.1):=by
  intro r F;have a:=lB (X r.1-X r.2.1);have b:=sM (Rat.le_of_lt (h r F).2.2) a;unfold BI;grind
 have e2:=fA nn J.symm;refine g (λp=>X p=0) h0 (λr F=>?_);have e3:=e2 r F;unfold BI at e3;have pe:r.2.2≠0:=λz=>by have:=(h r F).2.2;rw[z]at this;exact absurd this (Rat.lt_irrefl)
 have e4:r.2.2*((X r.1-X r.2.1)*(X r.1-X r.2.1))=0:=by grind
 have O:=(sS.mp e4).resolve_left pe;have e6:X r.1-X r.2.1=0:=by rcases sS.mp O with z|z<;>exact z
 have e7:X r.1=X r.2.1:=by grind
 rw[e7]
def Ep(T:List (List Rat)):List (List Rat):=(T.drop 2).map (·.drop 2)
theorem Jg(q:Sq (n+2) T):(Ep T).length=n/\∀r∈Ep T,r.length=n:=by
 refine⟨by unfold Ep;rw[kb,pS,q.len];lia,λr J=>?_⟩;obtain⟨s,F,rfl⟩:=oI.mp J;rw[pS,q.col s (tX F)];lia
theorem Oy(q:Sq (n+2) T)(hi:i<n):(Ep T)[i]?=some ((T.getD (i+2) []).drop 2):=by
 unfold Ep;rw[om,sX,vR 2 i,(q.row ()).2];rfl
theorem Tc(r:List Rat)(j:Nat):vq (r.drop 2) j=r.getD (j+2) 0:=by
 unfold vq;rw[oj,sX,vR 2 j,<-List.getD_eq_getElem?_getD]
def LM(a b:Rat)(x:Nat->Rat):Nat->Rat
 |0=>a
 |1=>b
 |j+2=>x j
theorem Rv(f:Nat->Rat)(a b:Rat)(x:Nat->Rat)(n:Nat):Am (λj=>f j*LM a b x j) (n+2)=f 0*a+(f 1*b+Am (λj=>f (j+2)*x j) n):=by
 rw[Lz,Lz];rfl
theorem iz(h:∀r∈rs,r.1<n+2/\r.2.1<n+2/\0<r.2.2)(g:Pz (n+2) rs):dt n n (Ep (Bo (n+2) rs))≠0:=by
 have h':∀r∈rs,r.1<n+2/\r.2.1<n+2:=λr F=>⟨(h r F).1,(h r F).2.1⟩
 have q:=(HV h').1;intro z;obtain⟨x,⟨j,hj,J⟩,hs⟩:=m8 n _ (by rw[kb];exact(Jg q).1) z;have e:=RM h g (X:=LM 0 0 x) rfl (λi hi=>by
  match i with
  |0=>exact .inl rfl
  |1=>exact .inl rfl
  |i+2 =>
   right
   rw[<-SD h',Rv];have e1:=hs (vq ((Bo (n+2) rs).getD (i+2) [] |>.drop 2)) (oI.mpr ⟨_,oi (Oy q ()),G⟩);have O:Am (λj=>en (Bo (n+2) rs) (i+2) (j+2)*x j) n=0:=by
    rw[<-e1];refine EJ λj _=>?_
    rw[Tc];rfl
   rw[O];grind) (j+2) ()
 exact J e
def Fh(T:List (List Rat)):List Rat:=(T.drop 2).map λr=>0-r.getD 0 0
theorem ON(q:Sq (n+2) T):(Fh T).length=n:=by unfold Fh;rw[kb,pS,q.len];lia
theorem Rj(q:Sq (n+2) T)(hi:i<n):(Fh T)[i]?=some (0-en T (i+2) 0):=by
 unfold Fh;rw[om,sX,vR 2 i,(q.row ()).2];rfl
theorem k7 (h:∀r∈rs,r.1<n+2/\r.2.1<n+2)
  (O:∀y∈xO (λrow q=>row++[q]) (Ep (Bo (n+2) rs)) (Fh (Bo (n+2) rs)),fx n x (vq y)=0):∀i,2<=i->i<n+2->CS (LM 1 0 x) rs i=0:=by
 have q:=(HV h).1;intro i h2 hi;obtain⟨k,rfl⟩:∃k,i=k+2:=⟨i-2,()⟩;rw[<-SD h,Rv];have J:=O ((((Bo (n+2) rs).getD (k+2) []).drop 2)++[0-en (Bo (n+2) rs) (k+2) 0]) (by
  refine oi (i:=k) ?_;rw[vQ,Oy q (),Rj q ()])
 rw[cX (by rw[pS,(q.row (i:=k+2) ()).1];lia)]at J;have F:Am (λj=>en (Bo (n+2) rs) (k+2) (j+2)*x j) n=Am (λj=>vq (((Bo (n+2) rs).getD (k+2) []).drop 2) j*x j) n:=by
  refine EJ λj _=>?_
  rw[Tc];rfl
 rw[F];grind
theorem BL.Dc{x y:Rat}(h:BL x)(g:BL y):BL (x+y):=by
 obtain⟨a,rfl⟩:=h;obtain⟨b,rfl⟩:=g;exact⟨a+b,by grind⟩
theorem BL.neg{x:Rat}(h:BL x):BL (-x):=by
 obtain⟨a,rfl⟩:=h;exact⟨-a,by grind⟩
theorem BL.zero:BL 0:=⟨0,G⟩
theorem eS:∀{rs:List Ap},(∀r∈rs,BL (f r))->BL (rs.map f).sum:=by
 intro rs
 induction rs with
 |nil=>intro _;exact⟨0,G⟩
 |cons r rs ih=>intro h;simp only[oP,qk];exact(h r #v[]).Dc (ih λx F=>h x (by simp[F]))
theorem Ab.Dc{B C x y:Rat}(h:Ab B x)(g:Ab C y):Ab (B+C) (x+y):=by
 obtain⟨h1,h2⟩:=h;obtain⟨J,F⟩:=g;constructor<;>grind
theorem jL:∀{rs:List Ap},(∀r∈rs,Ab B (f r))->Ab ((rs.length:Nat)*B) (rs.map f).sum:=by
 intro rs
 induction rs with
 |nil=>intro _;simp only[rT,wM,rV];constructor<;>grind
 |cons r rs ih =>
  intro h;simp only[oP,qk];have e:(((r :: rs).length:Nat):Rat)*B=B+(rs.length:Nat)*B:=by rw[pk];grind
  rw[e];exact(h r #v[]).Dc (ih λx F=>h x (by simp[F]))
def Cj:List Ap->Nat
 |[]=>1
 |r :: rs=>r.2.2.den*Cj rs
theorem Jc:∀rs:List Ap,0<Cj rs
 |[]=>Nat.one_pos
 |r :: rs=>ace r.2.2.den_pos (Jc rs)
theorem Tj:∀{rs:List Ap},(∀r∈rs,r.2.2.den<=2 ^ β)->Cj rs<=2 ^ (β*rs.length)
 |[],_=>by simp[Cj]
 |r :: rs,h=>by
  have h1:=h r #v[];have h2:=Tj (rs:=rs) λx F=>h x (by simp[F])
  have:=C4 h1 h2
  rw[pk,su,vR];exact this
theorem MH:∀{rs:List Ap} {r:Ap},r∈rs->r.2.2.den ∣ Cj rs
 |[],_,h=>by cases h
 |s :: rs,r,h=>by
  rcases oG.mp h with rfl|h
  ·exact Nat.dvd_mul_right _ _
  ·exact Nat.dvd_trans (MH h) (Nat.dvd_mul_left _ _)
theorem PD(h:q.den ∣ M):BL ((M:Nat)*q):=by
 obtain⟨k,rfl⟩:=h;exists k*q.num;have e:=Ff q;have J:((q.den*k:Nat):Rat)=(q.den:Nat)*(k:Nat):=by exact_mod_cast rfl
 have F:((k*q.num:Int):Rat)=(k:Nat)*(q.num:Int):=by rw[ph];rfl
 rw[J,F,<-e];grind
theorem Tu(r:Ap)(i j:Nat):DG r i j=0\/DG r i j=r.2.2\/DG r i j=-r.2.2:=by
 unfold DG;by_cases e:r.1=r.2.1
 ·rw[oH e];exact .inl rfl
 ·rw[oC e];by_cases a:i=r.1
  ·have b:i≠r.2.1:=λz=>e (a.symm.trans z)
   by_cases c:j=r.1
   ·have d:j≠r.2.1:=λz=>e (c.symm.trans z)
    simp[a,c,e];grind
   ·by_cases d:j=r.2.1
    ·simp[a,d,e];grind
    ·simp[a,c,d,e];grind
  ·by_cases b:i=r.2.1
   ·by_cases c:j=r.1
    ·have d:j≠r.2.1:=λz=>e (c.symm.trans z)
     have F:r.2.1≠r.1:=λz=>e z.symm
     simp[b,c,e,F];grind
    ·have F:r.2.1≠r.1:=λz=>e z.symm
     by_cases d:j=r.2.1
     ·simp[b,d,F];grind
     ·simp[b,c,d,F];grind
   ·simp[a,b];grind
theorem fN(h:0<=B):Ab B 0:=by constructor<;>grind
theorem Pa(h:∀r∈rs,r.1<n/\r.2.1<n/\Sb α β r.2.2)(J:rs.length<=16)(i j:Nat):BL ((Cj rs:Nat)*en (Bo n rs) i j)/\Vb (α+4) (en (Bo n rs) i j):=by
 rw[(HV λr F=>⟨(h r F).1,(h r F).2.1⟩).2];constructor
 ·rw[vf,OT];refine eS λr F=>?_
  have q:=PD (MH F);rw[vf];rcases Tu r i j with e|e|e<;>rw[e]
  ·rw[zx];exact BL.zero
  ·exact q
  ·have:=q.neg
   rwa [Rat.mul_neg]
 ·have q:∀r∈rs,Ab ((2 ^ α:Nat):Rat) (DG r i j):=λr F=>by
   have v:Ab ((2 ^ α:Nat):Rat) r.2.2:=(h r F).2.2.vb;rcases Tu r i j with e|e|e<;>rw[e]
   ·exact fN v.nn
   ·exact v
   ·have:=v.neg
    rwa [show -1*r.2.2=-r.2.2 by grind]at this
  refine(jL q).le ?_
  have:rs.length*2 ^ α<=2 ^ (α+4):=by rw[wz,wN];exact rN _ J
  have e:(((rs.length*2 ^ α:Nat)):Rat)=(rs.length:Nat)*((2 ^ α:Nat):Rat):=by exact_mod_cast rfl
  rw[<-e];exact_mod_cast this
theorem Tg(L:List Ah):∀(w:A5),(∀v∈L,∀j,BL (v j))->(∀T,BL (w T))->∀S,BL (Aa L w S):=by
 induction L with
 |nil=>intro w _ h;exact h
 |cons v L ih=>intro w h g;exact ih _ (λu F=>h u (by simp[F])) (λT=>Mw T v w (h v #v[]) g)
theorem iJ(L:List Ah)(s:Nat):∀(w:A5) (W:Nat),(∀v∈L,∀j,Ab ((V:Nat):Rat) (v j))->(∀T:List Bool,T.length=s->Ab ((W:Nat):Rat) (w T))->∀S:List Bool,S.length=s->Ab (((s*V) ^ L.length*W:Nat):Rat) (Aa L w S):=by
 induction L with
 |nil=>intro w W _ h S F;rw[rV,abC,wu];exact h S F
 |cons v L ih =>
  intro w W h g S F
  have:=ih (wg v w) (s*(V*W)) (λu O=>h u (by simp[O])) (λT J=>by
   have:=Pu (V:=((V:Nat):Rat)) (W:=((W:Nat):Rat)) T v w (h v #v[]) (λU hU=>g U ())
   rw[J]at this;have e:(((s*(V*W):Nat)):Rat)=(s:Nat)*(((V:Nat):Rat)*((W:Nat):Rat)):=by rw[wH,wH]
   rw[e];exact this) S F
  rw[pk,vS,adi,adi s V W];exact this
theorem gu(S:List Bool):Ab ((1:Nat):Rat) (Aj S):=by
 induction S with
 |nil=>show Ab _ 1;constructor<;>decide
 |cons b S ih =>
  cases b
  ·exact ih
  ·show Ab _ 0;constructor<;>decide
theorem jE(lA:A.length=n)(n1:n+1<=16)(hi:∀a∈A,∀j,BL (a j))(hb:∀a∈A,∀j,Ab ((2 ^ E:Nat):Rat) (a j))(hx:∀a∈A,fx n x a=0)(hd:ld n (n+1) (Aa A Aj)≠0):
  ∃W:Int,W≠0/\W.natAbs<=2 ^ ((4+E)*n)/\∀j,j<n->∃k:Int,(W:Rat)*x j=k/\k.natAbs<=2 ^ ((4+E)*n):=by
 have bd:∀S:List Bool,S.length=n+1->∀k:Int,Aa A Aj S=k->k.natAbs<=2 ^ ((4+E)*n):=by
  intro S hS k F;have b:=iJ (V:=2 ^ E) A (n+1) Aj 1 hb (λT _=>gu T) S hS;rw[F,lA,acd]at b;refine oO (GA b) ?_;have h1:(n+1)*2 ^ E<=2 ^ (4+E):=by rw[wz 2 4];exact v9 _ ()
  have h2:=abh h1 n
  rwa [<-Nat.pow_mul]at h2
 obtain⟨w,J⟩:=Tg A Aj hi Oi (Tk n (n+1));have tt:CF n=1\/CF n=-1:=by
  have:(CF n-1)*(CF n+1)=0:=by have:=Jr n;grind
  rcases sS.mp this with z|z
  ·left;grind
  ·right;grind
 have lt:(Tk n (n+1)).length=n+1:=by unfold Tk;simp
 have bw:=bd _ lt w J;have O:∀W:Int,ld n (n+1) (Aa A Aj)=W->W.natAbs<=2 ^ ((4+E)*n)->∃W:Int,W≠0/\W.natAbs<=2 ^ ((4+E)*n)/\∀j,j<n->∃k:Int,(W:Rat)*x j=k/\k.natAbs<=2 ^ ((4+E)*n):=by
  intro W hW hl;refine⟨W,λz=>hd (by rw[hW,z];rfl),hl,λj hj=>?_⟩;obtain⟨l1,l2,l3⟩:=U5 hx hj;obtain⟨k,F⟩:=Tg A Aj hi Oi (KW n j);have bk:=bd _ l1 k F;rw[hW,F]at l3;rcases l2 with h1|h1<;>rw[h1]at l3
  ·exact⟨k,by grind,bk⟩
  ·refine⟨-k,?_,by rw[ya];exact bk⟩;rw[vK];grind
 rcases tt with e|e
 ·exact O w (by unfold ld;rw[J,e];grind) bw
 ·refine O (-w) ?_ (by rw[ya];exact bw);unfold ld;rw[J,e,vK];grind
end Wd
namespace Mth
variable {s x:Int}{m:Nat}
theorem HX:∀(n:Nat) (l:List Int),l.Nodup->(∀x∈l,0<=x/\x<n)->l.length<=n
 |0,l,_,h=>by
  cases l with
  |nil=>exact oz _
  |cons a r =>
   have:=h a (rh ..)
   lia
 |n+1,l,hn,h=>by
  by_cases J:(n:Int)∈l
  ·have h1:=HX n (l.erase (n:Int)) (hn.erase _) (λx F=>by
    have aa:=List.mem_of_mem_erase F;have O:x≠(n:Int):=λz=>by
     rw[z]at F;exact(yW.not_mem_erase hn) F
    have:=h x aa
    lia)
   have h2:=zh J
   have:0<l.length:=sL J
   lia
  ·have h1:=HX n l hn (λx F=>by
    have O:x≠(n:Int):=λz=>J (z ▸ F)
    have:=h x F
    lia)
   lia
theorem Kz:∀(l F:List Int),l.Nodup->(∀x∈l,x∈F)->l.length<=F.length
 |[],_,_,_=>o9 _
 |a :: r,F,hn,h=>by
  have h1:=qt.mp hn;have h2:=Kz r (F.erase a) h1.2 λx O=>(List.mem_erase_of_ne (λz:x=a=>h1.1 (z ▸ O))).mpr (h x (pF _ O))
  have J:=h a (rh ..);have h3:=zh J
  have:=sL J
  rw[pk]
  lia
abbrev Au(n:Nat)(e:Int):Prop:=0<=e/\e<n
def C7(φ:Int->Int):Nat->Int->Int
 |0,s=>s
 |k+1,s=>φ (C7 φ k s)
structure LI(φ:Int->Int)(n:Nat):Prop where
 nA:∀e,Au n e->Au n (φ e)
 inj:∀a b,Au n a->Au n b->φ a=φ b->a=b
section
variable {φ:Int->Int}{n:Nat}(P:LI φ n)
include P
theorem F9(F:Au n s):∀k,Au n (C7 φ k s)
 |0=>F
 |k+1=>P.nA _ (F9 F k)
theorem R6(F:Au n s):∀(i j:Nat),i<=j->C7 φ i s=C7 φ j s->C7 φ (j-i) s=s
 |0,j,_,e=>by rw[Nat.sub_zero];exact e.symm
 |i+1,0,h,_=>absurd h ()
 |i+1,j+1,h,e=>by
  rw[Nat.add_sub_add_right];exact R6 F i j () (P.inj _ _ (F9 P F i) (F9 P F j) e)
omit P in
def ID(φ:Int->Int)(s:Int)(m:Nat):Prop:=1<=m/\C7 φ m s=s/\∀k,1<=k->k<m->C7 φ k s≠s
omit P in
theorem ID.mS(h:ID φ s m)(h':ID φ s m'):m=m':=by
 rcases vN m m' with z|z|z
 ·exact absurd h.2.1 (h'.2.2 m h.1 z)
 ·exact z
 ·exact absurd h'.2.1 (h.2.2 m' h'.1 z)
omit P in
def Du(φ:Int->Int)(s:Int)(m:Nat):List Int:=(oN m).map λk=>C7 φ k s
omit P in
theorem Rq:(Du φ s m).length=m:=by simp[Du]
omit P in
theorem FZ:x∈Du φ s m↔∃k,k<m/\C7 φ k s=x:=by simp[Du]
omit P in
theorem YE:Du φ s (m+1)=Du φ s m++[C7 φ m s]:=by simp[Du,zT]
theorem Qy(J:Au n s)(h:∀k,1<=k->k<m->C7 φ k s≠s):(Du φ s m).Nodup:=by
 unfold Du yW;rw[sO];refine tu.imp_of_mem ?_ (ug (n:=m));intro a b ha F O e;exact h (b-a) () (by have:=pW.mp F;lia) (R6 P J a b () e)
theorem UG(hs:Au n s):∃m,m<=n/\ID φ s m:=by
 by_cases hz:∃m,1<=m/\m<=n/\C7 φ m s=s
 ·have aa:∀N m,m<=N->1<=m->m<=n->C7 φ m s=s->∃m,m<=n/\ID φ s m:=by
   intro N
   induction N with
   |zero=>intro m h1 h2;lia
   |succ N ih =>
    intro m h1 h2 O h4;by_cases q:∃k,1<=k/\k<m/\C7 φ k s=s
    ·obtain⟨k,F,k2,J⟩:=q;exact ih k () F () J
    ·exact⟨m,O,h2,h4,λk F k2 J=>q ⟨k,F,k2,J⟩⟩
  obtain⟨m,h1,h2,O⟩:=hz;exact aa m m (oz _) h1 h2 O
 ·have h1:=Qy P (m:=n+1) hs λk F k2 J=>hz ⟨k,F,(),J⟩
  have h2:=HX n _ h1 λx hx=>by
   obtain⟨k,_,e⟩:=FZ.mp hx;rw[<-e];exact F9 P hs k
  rw[Rq]at h2
  lia
omit P in
open Classical in
def C9(φ:Int->Int)(s:Int):Nat:=if h:∃m,ID φ s m then h.choose else 1
theorem Ia(F:Au n s):ID φ s (C9 φ s):=by
 obtain⟨m,_,h⟩:=UG P F;have e:∃m,ID φ s m:=⟨m,h⟩;unfold C9;rw[dif_pos e];exact e.choose_spec
theorem i6(F:Au n s):C9 φ s<=n:=by
 obtain⟨m,h1,h⟩:=UG P F;rw[(Ia P F).mS h];exact h1
omit P in
def CC(φ:Int->Int)(s:Int):List Int:=Du φ s (C9 φ s)
theorem eO(F:Au n s):(CC φ s).Nodup:=Qy P F (Ia P F).2.2
theorem Mj(F:Au n s)(J:x∈CC φ s):Au n x:=by
 obtain⟨k,_,e⟩:=FZ.mp J;rw[<-e];exact F9 P F k
theorem Kj(F:Au n s):s∈CC φ s:=FZ.mpr ⟨0,(Ia P F).1,G⟩
theorem Zs(J:Au n s)(O:x∈CC φ s):φ x∈CC φ s:=by
 obtain⟨k,hk,e⟩:=FZ.mp O;have F:=Ia P J;by_cases q:k+1<C9 φ s
 ·exact FZ.mpr ⟨k+1,q,by rw[<-e];rfl⟩
 ·have:k+1=C9 φ s:=()
  refine FZ.mpr ⟨0,F.1,?_⟩;rw[<-e];show s=C7 φ (k+1) s;rw[this,F.2.1]
theorem aB(F:Au n s)(O:Au n x)(h:φ x∈CC φ s):x∈CC φ s:=by
 obtain⟨k,hk,e⟩:=FZ.mp h;have J:=Ia P F;cases k with
 |succ k=>exact FZ.mpr ⟨k,(),P.inj _ _ (F9 P F k) O e⟩
 |zero =>
  have hm:C9 φ s-1+1=C9 φ s:=by have:=J.1;lia
  refine FZ.mpr ⟨C9 φ s-1,(),P.inj _ _ (F9 P F _) O ?_⟩;rw[<-e];show C7 φ (C9 φ s-1+1) s=s;rw[hm];exact J.2.1
theorem YB{S:List Int}(hs:Au n s)(J:∀x,Au n x->φ x∈S->x∈S)(h:s∉S):∀x∈CC φ s,x∉S:=by
 intro x F;obtain⟨k,O,e⟩:=FZ.mp F;subst e;clear F O
 induction k with
 |zero=>exact h
 |succ k ih=>exact λz=>ih (J _ (F9 P hs k) z)
omit P in
open Classical in
def A4(φ:Int->Int):Nat->List (List Int)
 |0=>[]
 |i+1=>if (i:Int)∈(A4 φ i).flatten then A4 φ i else A4 φ i++[CC φ i]
omit P in
theorem YQ(h:(i:Int)∈(A4 φ i).flatten):A4 φ (i+1)=A4 φ i:=by
 rw[A4,oH h]
omit P in
theorem YH(h:(i:Int)∉(A4 φ i).flatten):A4 φ (i+1)=A4 φ i++[CC φ i]:=by
 rw[A4,oC h]
omit P in
structure Px(φ:Int->Int)(n i:Nat)(R:List (List Int)):Prop where
 of:∀r∈R,∃s,Au n s/\s<i/\r=CC φ s/\∀x∈r,s<=x
 nd:R.flatten.Nodup
 all:∀e,0<=e->e<(i:Int)->e∈R.flatten
 Wc:R.Pairwise λr r'=>∀s s',r=CC φ s->Au n s->r'=CC φ s'->Au n s'->(∀x∈r,s<=x)->(∀x∈r',s'<=x)->s<s'
theorem Px.nY{i:Nat}{R:List (List Int)}(h:Px φ n i R)(hi:Au n x)(F:φ x∈R.flatten):x∈R.flatten:=by
 obtain⟨r,J,F⟩:=pV.mp F;obtain⟨s,O,_,e,_⟩:=h.of r J;subst e;exact pV.mpr ⟨_,J,aB P O hi F⟩
theorem Rl{s':Int}(J:Au n s)(F:Au n s')(e:CC φ s=CC φ s')(h:∀x∈CC φ s,s<=x)(h':∀x∈CC φ s',s'<=x):s=s':=by
 have h1:=h' s (e ▸ Kj P J);have h2:=h s' (e ▸ Kj P F)
 lia
theorem HQ:∀i,i<=n->Px φ n i (A4 φ i)
 |0,_=>⟨λr h=>by simp[A4]at h,by simp[A4],λe h1 h2=>(),by simp[A4]⟩
 |i+1,hi=>by
  have F:=HQ i ();have O:Au n (i:Int):=⟨(),()⟩;unfold A4;by_cases q:(i:Int)∈(A4 φ i).flatten
  ·rw[oH q];refine⟨λr hr=>?_,F.nd,λe h1 h2=>?_,F.Wc⟩
   ·obtain⟨s,a,b,c,d⟩:=F.of r hr;exact⟨s,a,(),c,d⟩
   ·by_cases z:e=i
    ·rw[z];exact q
    ·exact F.all e h1 ()
  ·rw[oC q];have ap:=YB P O (λx J h=>F.nY P J h) q;have aa:∀x∈CC φ (i:Int),(i:Int)<=x:=λx J=>by
    rcases xG x i with z|z
    ·exact absurd (F.all x (Mj P O J).1 z) (ap x J)
    ·exact z
   exists λr hr=>?_,?_,λe h1 h2=>?_
   ·rcases oM.mp hr with hr|hr
    ·obtain⟨s,a,b,c,d⟩:=F.of r hr;exact⟨s,a,(),c,d⟩
    ·have e:r=CC φ (i:Int):=by simpa using hr
     subst e;exact⟨i,O,(),G,aa⟩
   ·rw[rS,qD];refine⟨F.nd,by simpa using eO P O,λx J y hy e=>?_⟩;subst e;exact ap x (by simpa using hy) J
   ·rw[rS,oM];by_cases z:e=i
    ·rw[z];right;simpa using Kj P O
    ·left;exact F.all e h1 ()
   ·rw[uM];refine⟨F.Wc,w8 ..,λr hr r' ad s s' e ab e' ac l l'=>?_⟩;have er:r'=CC φ (i:Int):=by simpa using ad
    obtain⟨t,ht,ae,et,lt⟩:=F.of r hr;have h1:s=t:=Rl P ab ht (e.symm.trans et) (e ▸ l) (et ▸ lt);have h2:s'=(i:Int):=Rl P ac O (e'.symm.trans er) (e' ▸ l') aa
    lia
theorem Xh:(A4 φ n).flatten.length=n:=by
 have h:=HQ P n (oz _);have h1:=HX n _ h.nd λx F=>by
  obtain⟨r,hr,F⟩:=pV.mp F;obtain⟨s,O,_,e,_⟩:=h.of r hr;subst e;exact Mj P O F
 have h2:((oN n).map (λk:Nat=>(k:Int))).length<=(A4 φ n).flatten.length:=by
  have nd:((oN n).map (λk:Nat=>(k:Int))).Nodup:=by
   unfold yW;rw[sO];exact xf (λ{a b} h=>()) (ug (n:=n))
  refine Kz _ _ nd ?_;intro x F;obtain⟨k,J,e⟩:=oI.mp F
  have:=pW.mp J
  exact h.all x () ()
 rw[kb,pC]at h2
 lia
end
end Mth
namespace Mth
variable {e:Int}{L:List (Int×Int)}
def Gn(row:List Int)(k:Nat):Int:=row.getD (if k=0 then row.length-1 else k-1) 0
def CL(row:List Int):List (Int×Int):=(oN row.length).map λk=>(row.getD k 0,Gn row k)
def B6(ts:List (List Int)):List (Int×Int):=(ts.map CL).flatten
theorem Ye(row:List Int):(oN row.length).map (λk=>row.getD k 0)=row:=by
 refine acp #v[] λi h1 h2=>?_
 simp[adb,h2]
theorem ME(row:List Int):(CL row).map (·.1)=row:=by
 unfold CL;rw[rC];exact Ye row
theorem Sk(row:List Int):(CL row).length=row.length:=by simp[CL]
theorem Y7(r:List Int)(l:Int):(CL (r++[l])).map (·.2)=l :: r:=by
 unfold CL;rw[rC];have F:(r++[l]).length=r.length+1:=by simp
 rw[F,tR,oP,rC];congr 1
 ·show Gn (r++[l]) 0=l;unfold Gn;rw[oH rfl,F];simp[adb]
 ·refine acp #v[] λi h1 h2=>?_
  simp[Gn,adb,pR h2,h2]
theorem SU(row:List Int):((CL row).map (·.2)).Perm row:=by
 rcases aaz row with h|⟨r,l,h⟩
 ·subst h;exact .nil
 ·rw[List.concat_eq_append]at h;subst h;rw[Y7];exact(yL l r).symm
theorem JU:∀ts:List (List Int),(B6 ts).map (·.1)=ts.flatten
 |[]=>rfl
 |r :: ts=>by
  have F:=JU ts;unfold B6 at *;rw[oP,ql,oU,ME,F,ql]
theorem N9:∀ts:List (List Int),((B6 ts).map (·.2)).Perm ts.flatten
 |[]=>.nil
 |r :: ts=>by
  have F:=N9 ts;unfold B6 at *;rw[oP,ql,oU,ql];exact(SU r).append F
theorem X1(ts:List (List Int))(r:List Int):B6 (ts++[r])=B6 ts++CL r:=by simp[B6]
def lk(L:List (Int×Int))(e:Int):Option Int:=(L.find? λp=>decide (p.1=e)).map (·.2)
theorem Js(h:lk L e=some v):(e,v)∈L:=by
 unfold lk at h;cases q:L.find? λp=>decide (p.1=e)with
 |none=>rw[q]at h;cases h
 |some p =>
  rw[q]at h;have h1:=yY q;have h2:=acM q;have F:p.1=e:=of_decide_eq_true h2;have J:p.2=v:=oV h;rw[<-F,<-J];exact h1
theorem MU(h:e∈L.map (·.1)):∃v,lk L e=some v:=by
 obtain⟨p,F,J⟩:=oI.mp h;unfold lk;cases q:L.find? λp=>decide (p.1=e)with
 |none =>
  have:=List.find?_eq_none.mp q p F
  exact absurd (qC J) this
 |some p=>exact⟨p.2,G⟩
theorem fo(h:e∉L.map (·.1)):lk L e=none:=by
 cases q:lk L e with
 |none=>rfl
 |some v=>exact absurd (oI.mpr ⟨_,Js q,G⟩) h
theorem OI{α β:Type}{f:α->β}:∀{L:List α},(L.map f).Nodup->∀{p q},p∈L->q∈L->f p=f q->p=q
 |[],_,p,_,hp,_,_=>absurd hp #v[]
 |a :: L,h,p,q,hp,hq,e=>by
  rw[oP,qt]at h;rcases oG.mp hp with h1|h1
  ·rcases oG.mp hq with h2|h2
   ·rw[h1,h2]
   ·exact(h.1 (oI.mpr ⟨q,h2,by rw[<-e,h1]⟩)).elim
  ·rcases oG.mp hq with h2|h2
   ·exact(h.1 (oI.mpr ⟨p,h1,by rw[e,h2]⟩)).elim
   ·exact OI h.2 h1 h2 e
theorem VW(J:(L.map (·.1)).Nodup)(h:(e,v)∈L):lk L e=some v:=by
 obtain⟨u,F⟩:=MU (oI.mpr ⟨_,h,G⟩)
 have:=OI J (Js F) h rfl
 rw[F,(Prod.mk.inj this).2]
structure DF(n:Nat)(ts:List (List Int)):Prop where
 nd:ts.flatten.Nodup
 mem:∀e,e∈ts.flatten↔Au n e
 Na:n%2=0
def Cu(e:Int):Int:=if e%2=0 then e+1 else e-1
theorem K8(h:n%2=0)(F:Au n e):Au n (Cu e):=by
 unfold Cu;obtain⟨h1,h2⟩:=F;split<;>constructor<;>lia
theorem Ky(e:Int):Cu (Cu e)=e:=by
 unfold Cu;split<;>split<;>lia
def Ar(ts:List (List Int))(e:Int):Int:=(lk (B6 ts) (Cu e)).getD 0
section
variable {n:Nat}{ts:List (List Int)}(T:DF n ts)
include T
theorem DF.len:ts.flatten.length=n:=by
 have h1:=HX n _ T.nd λx F=>(T.mem x).mp F
 have h2:((oN n).map (λk:Nat=>(k:Int))).length<=ts.flatten.length:=by
  have O:((oN n).map (λk:Nat=>(k:Int))).Nodup:=by
   unfold yW;rw[sO];exact xf (λ{a b} h=>()) (ug (n:=n))
  refine Kz _ _ O λx F=>?_
  obtain⟨k,J,e⟩:=oI.mp F
  have:=pW.mp J
  exact(T.mem x).mpr ⟨(),()⟩
 rw[kb,pC]at h2
 lia
theorem DF.mE:(B6 ts).length=n:=by
 have:=congrArg uf (JU ts)
 rw[kb,T.len]at this;exact this
theorem DF.Gv(J:Au n e):∃v,lk (B6 ts) e=some v/\Au n v:=by
 obtain⟨v,F⟩:=MU (L:=B6 ts) (e:=e) (by rw[JU];exact(T.mem e).mpr J);refine⟨v,F,(T.mem v).mp ?_⟩;exact(N9 ts).mem_iff.mp (oI.mpr ⟨_,Js F,G⟩)
theorem DF.NF(F:Au n e):lk (B6 ts) (Cu e)=some (Ar ts e):=by
 obtain⟨v,J,_⟩:=T.Gv (K8 T.Na F);unfold Ar;rw[J];rfl
theorem DF.Ct:LI (Ar ts) n:=by
 refine⟨λe J=>?_,λa b ha F e=>?_⟩
 ·obtain⟨v,O,hi⟩:=T.Gv (K8 T.Na J);unfold Ar;rw[O];exact hi
 ·have h1:=Js (T.NF ha);have h2:=Js (T.NF F);rw[e]at h1;have nd:((B6 ts).map (·.2)).Nodup:=(N9 ts).nodup_iff.mpr T.nd;have h3:=(Prod.mk.inj (OI nd h1 h2 rfl)).1;rw[<-Ky a,h3,Ky]
end
def DQ:Nat->List (List Int)->List (Int×Int)
 |_,[]=>[]
 |i,r :: R=>r.map (λe=>(e,(i:Int)))++DQ (i+1) R
theorem RY:∀(i:Nat) (R:List (List Int)) (r:List Int),DQ i (R++[r])=DQ i R++r.map λe=>(e,((i+R.length:Nat):Int))
 |i,[],r=>by simp[DQ]
 |i,s :: R,r=>by
  rw[uc];unfold DQ;rw[RY (i+1) R r,tL];congr 3
  funext e
  rw[pk,Nat.add_right_comm,Nat.add_assoc]
theorem Ko:∀(i:Nat) (R:List (List Int)),(DQ i R).map (·.1)=R.flatten
 |_,[]=>rfl
 |i,r :: R=>by
  unfold DQ;rw[oU,Ko (i+1) R,rC,ql];congr 1;exact adh (λ_=>rfl) r
theorem JV{α:Type}{R:List α}{r:α}(h:R[j]?=some r):R.take (j+1)=R.take j++[r]:=by
 rw[xg,h];rfl
section
variable {φ:Int->Int}{n:Nat}(P:LI φ n)
include P
theorem fY{s:Int}(F:Au n s):(CC φ s).headD 0=s:=by
 have h:=(Ia P F).1;unfold CC Du;obtain⟨m,e⟩:∃m,C9 φ s=m+1:=⟨C9 φ s-1,()⟩;rw[e,tR,oP];rfl
theorem MK{r:List Int}(h:r∈A4 φ n):Au n (r.headD 0)/\r=CC φ (r.headD 0)/\∀x∈r,r.headD 0<=x:=by
 obtain⟨s,F,_,e,l⟩:=(HQ P n (oz _)).of r h;subst e;rw[fY P F];exact⟨F,G,l⟩
theorem MM:(A4 φ n).flatten.Nodup:=(HQ P n (oz _)).nd
theorem Kk{x:Int}:x∈(A4 φ n).flatten↔Au n x:=by
 constructor
 ·intro h;obtain⟨r,J,F⟩:=pV.mp h;obtain⟨h1,h2,_⟩:=MK P J;rw[h2]at F;exact Mj P h1 F
 ·intro h;exact(HQ P n (oz _)).all x h.1 h.2
end
end Mth
namespace Mth
variable {f:Int->Rat}{ts:List (List Int)}
def cp:Int->List Int->List (Int×Int)
 |_,[]=>[]
 |y,a :: l=>(a,y) :: cp a l
theorem Ug:∀(y:Int) (l:List Int),(cp y l).length=l.length
 |_,[]=>rfl
 |_,a :: l=>by simp[cp,Ug a l]
theorem Up:∀(y:Int) (l:List Int) (k:Nat),k<l.length->(cp y l)[k]?=some (l.getD k 0,if k=0 then y else l.getD (k-1) 0)
 |_,a :: l,0,_=>rfl
 |y,a :: l,k+1,h=>by
  show(cp a l)[k]?=_;rw[Up a l k (by simpa using h)];cases k with
  |zero=>rfl
  |succ k=>simp
theorem T6(row:List Int):CL row=cp (row.getLastD 0) row:=by
 refine t5 λk=>?_
 by_cases h:k<row.length
 ·rw[Up _ _ _ h];unfold CL Gn;rw[om,qc h];show some (row.getD k 0,row.getD (if k=0 then row.length-1 else k-1) 0)=_;congr 2;by_cases z:k=0
  ·rw[oH z,oH z];rw[yX,List.getLast?_eq_getElem?,oj]
  ·rw[oC z,oC z]
 ·rw[pM (by rw[Sk];lia),pM (by rw[Ug];lia)]
theorem Uo:∀(y:Int) (l m:List Int),cp y (l++m)=cp y l++cp (l.getLastD y) m
 |_,[],m=>rfl
 |y,a :: l,m=>by
  show(a,y) :: cp a (l++m)=(a,y) :: (cp a l++cp ((a :: l).getLastD y) m);rw[Uo a l m,show(a :: l).getLastD y=l.getLastD a by cases l<;>rfl]
theorem VC:∀(y:Int) (l:List Int),(cp y l).map (·.1)=l
 |_,[]=>rfl
 |y,a :: l=>by simp[cp,VC a l]
def pr(ts:List (List Int))(x:Int):Int:=(lk (B6 ts) x).getD 0
theorem PR(ts:List (List Int))(e:Int):Ar ts e=pr ts (Cu e):=rfl
theorem Vw(F:ts.flatten.Nodup)(h:(x,y)∈B6 ts):pr ts x=y:=by
 unfold pr;rw[VW (by rw[JU];exact F) h];rfl
theorem jF(J:ts.flatten.Nodup)(h:x∈ts.flatten):(x,pr ts x)∈B6 ts:=by
 rw[<-JU]at h;obtain⟨v,F⟩:=MU h
 have:=Js F
 unfold pr;rw[F];exact this
theorem SQ{l m:List Rat}(h:l.Perm m):l.sum=m.sum:=by
 induction h with
 |nil=>rfl
 |cons a _ ih=>rw[qk,qk,ih]
 |swap a b l=>rw[qk,qk,qk,qk];grind
 |trans _ _ i1 i2=>exact i1.trans i2
theorem bJ{t:List Int}(h:∀x∈t,f x=g x):(t.map f).sum=(t.map g).sum:=by rw[sQ h]
theorem Tx:∀t:List Int,(t.map λx=>f x+g x).sum=(t.map f).sum+(t.map g).sum
 |[]=>by simp;grind
 |a :: t=>by rw[oP,oP,oP,qk,qk,qk,Tx t];grind
theorem RP(c:Rat):∀t:List Int,(t.map λx=>c*f x).sum=c*(t.map f).sum
 |[]=>by simp
 |a :: t=>by rw[oP,oP,qk,qk,RP c t];grind
theorem cA(O:ts.flatten.Nodup)(F:t∈ts)(g:Int->Rat):(t.map λx=>g (pr ts x)).sum=(t.map g).sum:=by
 have h1:(t.map λx=>g (pr ts x))=((CL t).map λp=>g p.2):=by
  conv=>lhs;rw[<-ME t]
  rw[rC];refine sQ λp J=>?_
  show g (pr ts p.1)=g p.2;rw[Vw O (x:=p.1) (y:=p.2) (pV.mpr ⟨CL t,oI.mpr ⟨t,F,G⟩,J⟩)]
 rw[h1,show((CL t).map λp=>g p.2)=((CL t).map (·.2)).map g by rw[rC];rfl];exact SQ ((SU t).map g)
theorem Sy{p:Int->Rat}(O:LI φ n)(F:Au n a)(J:∀x,Au n x->p (φ x)=p x):∀k,p (C7 φ k a)=p a
 |0=>rfl
 |k+1=>(J _ (F9 O F k)).trans (Sy O F J k)
end Mth
namespace Fl
abbrev AL:=Int×Int×Int×Int
abbrev AL.l(b:AL):Int:=b.1
abbrev AL.d(b:AL):Int:=b.2.1
abbrev AL.r(b:AL):Int:=b.2.2.1
abbrev AL.u(b:AL):Int:=b.2.2.2
def nZ(b:AL):Prop:=(b.l<b.r/\b.d<b.u)\/(b.l=b.r/\b.d=b.u)
def Ke(w h:Int)(b:AL):Prop:=0<=b.l/\0<=b.d/\b.r<=w/\b.u<=h
def Dw(x y:Int)(b:AL):Bool:=decide (b.l<=x/\x<b.r/\b.d<=y/\y<b.u)
theorem Ge:Dw x y b=true↔b.l<=x/\x<b.r/\b.d<=y/\y<b.u:=tr
structure Tile(w h:Int)(bs:List AL):Prop where
 ok:∀b∈bs,nZ b
 Bz:∀b∈bs,Ke w h b
 Aj:∀x y,0<=x->x<w->0<=y->y<h->bs.countP (Dw x y)=1
theorem X8(O:0<w)(hh:0<h):Tile w h [(0,0,w,h)]:=by
 refine⟨λb F=>?_,λb F=>?_,λx y x0 x1 J y1=>?_⟩
 ·rw[pH.mp F];exact .inl ⟨O,hh⟩
 ·rw[pH.mp F];exact⟨rO _,rO _,rO _,rO _⟩
 ·have:Dw x y (0,0,w,h)=true:=Ge.mpr ⟨x0,x1,J,y1⟩
  simp[zf,this]
structure Parts(b:AL)(ps:List AL):Prop where
 ok:∀p∈ps,p.l<p.r/\p.d<p.u
 Bz:∀p∈ps,b.l<=p.l/\b.d<=p.d/\p.r<=b.r/\p.u<=b.u
 Aj:∀x y,ps.countP (Dw x y)=if Dw x y b=true then 1 else 0
theorem Tile.Qj(t:Tile w h (A++b :: B))(p:Parts b ps):Tile w h (A++ps++B):=by
 have J:=t.Bz b #v[];refine⟨λq F=>?_,λq F=>?_,λx y x0 x1 O y1=>?_⟩
 ·rcases oM.mp F with z|z
  ·rcases oM.mp z with z|z
   ·exact t.ok q (by simp[z])
   ·exact .inl (p.ok q z)
  ·exact t.ok q (by simp[z])
 ·rcases oM.mp F with z|z
  ·rcases oM.mp z with z|z
   ·exact t.Bz q (by simp[z])
   ·have:=p.Bz q z
    unfold Ke at J ⊢
    lia
  ·exact t.Bz q (by simp[z])
 ·have:=t.Aj x y x0 x1 O y1
  rw[wL,zf]at this;rw[wL,wL,p.Aj]
  lia
theorem GB:(b :: l).countP (Dw x y)=l.countP (Dw x y)+if Dw x y b=true then 1 else 0:=zf ..
theorem Md:([]:List AL).countP (Dw x y)=0:=rfl
theorem kE(h1:b.l<x)(h2:x<b.r)(J:b.d<b.u):Parts b [(b.l,b.d,x,b.u),(x,b.d,b.r,b.u)]:=by
 refine⟨λp F=>?_,λp F=>?_,λu v=>?_⟩
 ·simp only[oG,o3,qN]at F;rcases F with rfl|rfl<;>exact⟨by dsimp only[AL.l,AL.d,AL.r,AL.u]at *;lia,by dsimp only[AL.l,AL.d,AL.r,AL.u]at *;lia⟩
 ·simp only[oG,o3,qN]at F;rcases F with rfl|rfl<;>exact⟨by dsimp only[AL.l,AL.d,AL.r,AL.u]at *;lia,by dsimp only[AL.l,AL.d,AL.r,AL.u]at *;lia,by dsimp only[AL.l,AL.d,AL.r,AL.u]at *;lia,by dsimp only[AL.l,AL.d,AL.r,AL.u]at *;lia⟩
 ·rw[GB,GB,Md];simp only[Ge,AL.l,AL.d,AL.r,AL.u]at *;split<;>split<;>split<;>lia
theorem j4(h1:b.d<y)(h2:y<b.u)(J:b.l<b.r):Parts b [(b.l,b.d,b.r,y),(b.l,y,b.r,b.u)]:=by
 refine⟨λp F=>?_,λp F=>?_,λu v=>?_⟩
 ·simp only[oG,o3,qN]at F;rcases F with rfl|rfl<;>exact⟨by dsimp only[AL.l,AL.d,AL.r,AL.u]at *;omega,by dsimp only[AL.l,AL.d,AL.r,AL.u]at *;omega⟩
 ·simp only[oG,o3,qN]at F;rcases F with rfl|rfl<;>exact⟨by dsimp only[AL.l,AL.d,AL.r,AL.u]at *;omega,by dsimp only[AL.l,AL.d,AL.r,AL.u]at *;omega,by dsimp only[AL.l,AL.d,AL.r,AL.u]at *;omega,by dsimp only[AL.l,AL.d,AL.r,AL.u]at *;omega⟩
 ·rw[GB,GB,Md];simp only[Ge,AL.l,AL.d,AL.r,AL.u]at *;split<;>split<;>split<;>omega
theorem j9(h1:b.l<x)(h2:x<f)(h3:f<b.r)(h4:b.d<y)(J:y<u)(h6:u<b.u):
  Parts b [(b.l,b.d,f,y),(f,b.d,b.r,u),(x,u,b.r,b.u),(b.l,y,x,b.u),(x,y,f,u)]:=by
 refine⟨λp F=>?_,λp F=>?_,λs t=>?_⟩
 ·simp only[oG,o3,qN]at F;rcases F with rfl|rfl|rfl|rfl|rfl<;>exact⟨by dsimp only[AL.l,AL.d,AL.r,AL.u]at *;omega,by dsimp only[AL.l,AL.d,AL.r,AL.u]at *;omega⟩
 ·simp only[oG,o3,qN]at F;rcases F with rfl|rfl|rfl|rfl|rfl<;>exact⟨by dsimp only[AL.l,AL.d,AL.r,AL.u]at *;omega,by dsimp only[AL.l,AL.d,AL.r,AL.u]at *;omega,by dsimp only[AL.l,AL.d,AL.r,AL.u]at *;omega,by dsimp only[AL.l,AL.d,AL.r,AL.u]at *;omega⟩
 ·rw[GB,GB,GB,GB,GB,Md];simp only[Ge,AL.l,AL.d,AL.r,AL.u]at *;by_cases c1:s<b.1<;>by_cases O:s<x<;>by_cases c3:s<f<;>by_cases c4:s<b.2.2.1<;>by_cases d1:t<b.2.1<;>by_cases d2:t<y<;>by_cases d3:t<u<;>by_cases d4:t<b.2.2.2<;>(try omega)<;>(repeat (first|rw[oH (by omega)]|rw[oC (by omega)]))
theorem Zj{α:Type}{p:α->Bool}{l:List α}(O:i<j)(hj:j<l.length)(J:p (l[i]'(by omega))=true)(F:p l[j]=true):2<=l.countP p:=by
 have e:l=l.take (i+1)++l.drop (i+1):=(rF _ _).symm;rw[e,wL];have a:0<(l.take (i+1)).countP p:=xY.mpr ⟨l[i],List.mem_take_iff_getElem.mpr ⟨i,by omega,G⟩,J⟩;have b:0<(l.drop (i+1)).countP p:=xY.mpr ⟨l[j],List.mem_drop_iff_getElem.mpr ⟨j-(i+1),by omega,by congr 1;omega⟩,F⟩;omega
theorem Tile.Ct(t:Tile w h bs)(p:cs.Perm bs):Tile w h cs :=
 ⟨λb F=>t.ok b (p.mem_iff.mp F),λb F=>t.Bz b (p.mem_iff.mp F),λx y a b c d=>by rw[p.countP_eq];exact t.Aj x y a b c d⟩
theorem Zi(h1:b.l<b.r)(h2:b.d<b.u):Parts b [b]:=by
 refine⟨λp F=>?_,λp F=>?_,λs t=>?_⟩
 ·rw[pH.mp F];exact⟨h1,h2⟩
 ·rw[pH.mp F];exact⟨rO _,rO _,rO _,rO _⟩
 ·rw[GB,Md];lia
end Fl
namespace Ln
abbrev Sd:Type:=Int×Int×Int
abbrev Sd.v(s:Sd):Int:=s.1
abbrev Sd.a(s:Sd):Int:=s.2.1
abbrev Sd.z(s:Sd):Int:=s.2.2
def HJ(s t:Sd):Prop:=t.v<s.v\/(s.v=t.v/\s.a<=t.a)
def CG(s t:Sd):Prop:=t.v<s.v\/(s.v=t.v/\s.z<t.a)
def DI(F:List Sd)(s:Sd):List Sd:=match F.getLast? with
 |none=>F++[s]
 |some q=>if q.v=s.v/\s.a<=q.z then F.dropLast++[(s.v,q.a,max s.z q.z)] else F++[s]
theorem Ku(s:Sd):DI [] s=[s]:=rfl
theorem MJ(a:List Sd)(q s:Sd):DI (a++[q]) s=if q.v=s.v/\s.a<=q.z then a++[(s.v,q.a,max s.z q.z)] else a++[q]++[s]:=by
 unfold DI;rw[aaV];simp
theorem Mg{α:Type}(l:List α):l=[]\/∃a q,l=a++[q]:=by
 rcases aaz l with h|⟨a,q,h⟩
 ·exact .inl h
 ·exact .inr ⟨a,q,by simpa using h⟩
end Ln
namespace My
open PySem L2 Mth
variable {x:Addr}{H:Hp}{e:Int}{L:List (Int×Int)}{ts:List (List Int)}{j:Nat}
theorem AW(h:H p=none)(o:HO):AK H (AG H p o):=λb u q=>by rw[AV (BD q h)];exact q
def Cz(x:Addr)(H H':Hp):Prop:=∀b o,b≠x->H b=some o->H' b=some o
theorem Cz.refl(x:Addr)(H:Hp):Cz x H H:=λ_ _ _ h=>h
theorem Cz.put(h:Cz x H H')(o:HO):Cz x H (AG H' x o):=λb u n q=>by rw[AV n];exact h b u n q
theorem Cz.trans(a:Cz x H H1)(b:Cz x H1 H2):Cz x H H2:=λc o n h=>b c o n (a c o n h)
theorem _root_.L2.AK.b(h:AK H H'):Cz x H H':=λb o _ q=>h b o q
theorem Cz.same(h:Cz x H H')(s:AK H0 H)(n:H0 x=none):AK H0 H':=λb o q=>h b o (BD q n) (s b o q)
theorem Cz.Aj:Cz x H (AG H x o):=(Cz.refl x H).put o
theorem _root_.L2.AK.up(s:AK H0 H)(n:H0 x=none)(o:HO):AK H0 (AG H x o):=Cz.Aj.same s n
theorem Ju{c A B:Prop}[Decidable c](F:¬c)(h:A):if (!decide c)=true then A else B:=by
 rw[qu F];exact FO h
theorem By{c A B:Prop}[Decidable c](F:c)(h:A):if decide c=true then A else B:=by
 rw[qC F];exact FO h
theorem Be{c A B:Prop}[Decidable c](F:¬c)(h:B):if decide c=true then A else B:=by
 rw[qu F];exact Br h
theorem iv(h:a=b):V.int a=V.int b:=by rw[h]
theorem E7(h:a≠b):¬V.int a=V.int b:=λz=>h (V.int.inj z)
theorem GX(h:n<=100000):n<oR:=by rw[pD];lia
abbrev Cy(L:List (Int×Int)):List (Aq×V):=L.map λp=>(pU p.1,V.int p.2)
theorem Oj(e:Int):∀L:List (Int×Int),Bm (Cy L) (pU e:Aq)=(lk L e).map V.int
 |[]=>rfl
 |p :: L=>by
  show Bm ((pU p.1,V.int p.2) :: Cy L) (pU e:Aq)=_;by_cases h:p.1=e
  ·rw[EK (p:=((pU p.1:Aq),V.int p.2)) (by rw[h])];unfold lk;rw[List.find?_cons_of_pos (by simpa using h)];rfl
  ·rw[D6 (p:=((pU p.1:Aq),V.int p.2)) (λz=>h (aaj z)),Oj e L];unfold lk;rw[List.find?_cons_of_neg (by simpa using h)]
theorem Og{k:Aq}{v:V}(h:Bm ii k=none):CM ii k v=ii++[(k,v)]:=by
 unfold CM;rw[Kq,h];rfl
theorem TV(h:e∉L.map (·.1)):CM (Cy L) (pU e:Aq) (.int v)=Cy (L++[(e,v)]):=by
 rw[Og (by rw[Oj,fo h];rfl)];simp
abbrev KU(l:List Int):List (Aq×V):=l.map λe=>(pU e,V.bl true)
theorem Ox(e:Int):∀l:List Int,Bm (KU l) (pU e:Aq)=if e∈l then some (V.bl true) else none
 |[]=>rfl
 |p :: L=>by
  show Bm ((pU p,V.bl true) :: KU L) (pU e:Aq)=_;by_cases h:p=e
  ·rw[EK (p:=((pU p:Aq),V.bl true)) (by rw[h]),oH (by simp[h])]
  ·rw[D6 (p:=((pU p:Aq),V.bl true)) (λz=>h (aaj z)),Ox e L]
   have:e∈p :: L↔e∈L:=by simp[qp h]
   by_cases q:e∈L
   ·rw[oH q,oH (this.mpr q)]
   ·rw[oC q,oC λz=>q (this.mp z)]
theorem cR(h:e∉l):CM (KU l) (pU e:Aq) (.bl true)=KU (l++[e]):=by
 rw[Og (by rw[Ox,oC h])];simp
theorem Oe(h:H d=some (.dK (Cy L)))(q:lk L e=some v):DP H d (.int e) (some (.int v)):=by
 have:=DP.k (k:=pU e) h
 rw[Oj,q]at this;exact this
def JL(H:Hp)(a:Addr)(bs:List Addr)(ts:List (List Int)):Prop :=
 H a=some (.AF (bs.map V.ref))/\bs.length=ts.length/\∀(i:Nat) (b:Addr) (row:List Int),bs[i]?=some b->ts[i]?=some row->H b=some (.AF (row.map V.int))
theorem JL.keep(h:JL H a bs ts)(s:AK H H'):JL H' a bs ts :=
 ⟨s _ _ h.1,h.2.1,λi b row J F=>s _ _ (h.2.2 i b row J F)⟩
theorem UZ{bs:List Addr}{i:Nat}{x:V}(F:bs.length=ts.length)(h:(bs.map V.ref)[i]?=some x):∃b row,x=.ref b/\bs[i]?=some b/\ts[i]?=some row:=by
 rw[om]at h;cases e:bs[i]? with
 |none=>rw[e]at h;cases h
 |some b =>
  rw[e]at h;have hi:i<bs.length:=(oh.mp e).1;exact⟨b,ts[i]'(),(oV h).symm,G,og ()⟩
theorem int_at{row:List Int}{i:Nat}{x:V}(h:(row.map V.int)[i]?=some x):∃e,x=.int e/\row[i]?=some e:=by
 rw[om]at h;cases q:row[i]? with
 |none=>rw[q]at h;cases h
 |some e =>
  rw[q]at h;exact⟨e,(oV h).symm,G⟩
theorem iB{row:List Int}{i:Nat}(h:row[i]?=some e):(row.map V.int)[i]?=some (.int e):=by rw[om,h];rfl
theorem fm{row:List Int}(h:j<row.length):BY (row.map V.int) ((j:Int)-1)=some (.int (Gn row j)):=by
 have g:∀i,i<row.length->(row.map V.int)[i]?=some (.int (row.getD i 0)):=λi hi=>by
  rw[om,og hi,oj,og hi];rfl
 unfold Gn;cases j with
 |zero =>
  rw[oH rfl];have F:(row.map V.int).length=row.length:=kb ..;have e:DT (row.map V.int).length (((0:Nat):Int)-1)=some (row.length-1):=by
   unfold DT;rw[F,oC ∅,oH ()];congr 1
   lia
  unfold BY;rw[e];exact g _ ()
 |succ j =>
  rw[oC (),show(((j+1:Nat):Int)-1)=((j:Nat):Int) by lia];exact BE (g j ())
theorem OH(O:ts.flatten.Nodup)(h1:ts[i]?=some row)(h2:row[j]?=some e):e∉(ts.take i).flatten++row.take j:=by
 obtain⟨hi,q1⟩:=oh.mp h1;obtain⟨hj,q2⟩:=oh.mp h2;have e1:ts=ts.take i++row :: ts.drop (i+1):=by rw[<-q1,tQ,rF]
 have F:row=row.take j++e :: row.drop (j+1):=by rw[<-q2,tQ,rF]
 rw[e1,rS,ql,qD]at O;obtain⟨_,J,n3⟩:=O;intro z;rcases oM.mp z with z|z
 ·exact n3 e z e (uK _ (by rw[F];simp)) rfl
 ·rw[qD]at J;have n4:=J.1;rw[F,qD]at n4;exact n4.2.2 e z e #v[] rfl
theorem Eu(x y z:V):BY [x,y,z] 0=some x:=BE (j:=0) rfl
theorem C6(x y z:V):BY [x,y,z] 1=some y:=BE (j:=1) rfl
theorem DW(x y z:V):BY [x,y,z] 2=some z:=BE (j:=2) rfl
theorem BG{x y:V}:BY [x,y] 0=some x:=BE (j:=0) rfl
theorem Az{x y:V}:BY [x,y] 1=some y:=BE (j:=1) rfl
theorem JY(xs:List V)(h:j<=xs.length):Ck xs none (some (j:Int))=xs.take j:=by
 unfold Ck;have J:HT.Ad xs.length 0 none=0:=rfl;have F:HT.Ad xs.length xs.length (some (j:Int))=j:=by simp[HT.Ad];rw[oC ()];lia
 rw[J,F];simp
theorem Ja(xs:List V)(h:j<=xs.length):Ck xs (some (j:Int)) none=xs.drop j:=by
 unfold Ck;have J:HT.Ad xs.length 0 (some (j:Int))=j:=by simp[HT.Ad];rw[oC (by omega)];omega
 have F:HT.Ad xs.length xs.length none=xs.length:=rfl;rw[J,F,oQ];simp
theorem Et(h:n<=100000):n<=oR:=va (GX h)
theorem MW(h:j<=n):HT.Ad n d (some (j:Int))=j:=by simp[HT.Ad];rw[oC ()];lia
def Dt(H:Hp)(b:Addr)(ns:List Int):Prop:=H b=some (.AF (ns.map V.int))
theorem IU:Mo Dt:=λs h=>s _ _ h
theorem Dt.BO(h:Dt H b t)(e:H a=some (.AE ys)):Dt (BO H a) b t:=FA h λz=>by rw[z]at h;unfold Dt at h;rw[e]at h;cases h
theorem bV(h:j<n):DT n ((j:Nat):Int)=some j:=by unfold DT;rw[oH (),oH ()];simp
abbrev Qi(K:ow)(H:Hp)(a:Addr)(ns:List Int):Prop:=AJ K H a (ns.map V.int)/\ns.length<=63
end My
namespace My
open PySem
variable {H:Hp}{Z:Int}{T:List (List Rat)}{rs:List Ap}{ys:List V}{D N c i j m α β:Nat}{X:Nat->Rat}{p q:Rat}
def top(i:Nat):Stmt:=PySem.Challenge.pw_currentfloor_k31_whole_laid_again.main.body.getD i (.Pass ⟨0,0,0,0⟩)
abbrev sCommon:Stmt:=top 7
abbrev sFraction:Stmt:=top 8
abbrev sPlus:Stmt:=top 9
abbrev sMinus:Stmt:=top 10
abbrev sTimes:Stmt:=top 11
abbrev s_less:Stmt:=top 12
abbrev sCBot:Stmt:=top 13
abbrev sWholes:Stmt:=top 14
abbrev sLed:Stmt:=top 16
abbrev sSweptRow:Stmt:=top 17
abbrev sSwept:Stmt:=top 18
abbrev sBack:Stmt:=top 19
abbrev sAnswer:Stmt:=top 20
abbrev sEaseTable:Stmt:=top 22
abbrev sPoleless:Stmt:=top 23
abbrev sHeights:Stmt:=top 24
abbrev sFallOf:Stmt:=top 25
abbrev sRunBy:Stmt:=top 26
abbrev sRunnings:Stmt:=top 27
abbrev sEaseOf:Stmt:=top 28
abbrev sOther:Stmt:=top 30
abbrev sAhead:Stmt:=top 31
abbrev sRingFrom:Stmt:=top 32
abbrev sRings:Stmt:=top 33
abbrev sLandOf:Stmt:=top 34
abbrev s_land_sides:Stmt:=top 36
abbrev s_rising:Stmt:=top 37
abbrev s_laid:Stmt:=top 38
abbrev s_is_point:Stmt:=top 39
abbrev s_without_points:Stmt:=top 40
abbrev s_numbers_of:Stmt:=top 41
abbrev s_whole_floor:Stmt:=top 42
abbrev s_is_neither:Stmt:=top 44
abbrev s_is_out:Stmt:=top 45
abbrev s_overlap:Stmt:=top 46
abbrev s_first_overlap:Stmt:=top 47
abbrev s_borders:Stmt:=top 48
abbrev s_covered_cells:Stmt:=top 49
abbrev s_first_gap:Stmt:=top 50
abbrev s_looked_whole:Stmt:=top 51
abbrev s_looked:Stmt:=top 52
abbrev s_check_covers:Stmt:=top 53
abbrev s_begun_least:Stmt:=top 55
abbrev s_told_turns:Stmt:=top 56
abbrev s_level_sides:Stmt:=top 58
abbrev s_lines_of:Stmt:=top 59
abbrev s_placed:Stmt:=top 60
abbrev s_place_at:Stmt:=top 61
abbrev s_rope_of:Stmt:=top 62
abbrev s_turns_of:Stmt:=top 63
abbrev s_net_of:Stmt:=top 64
abbrev sCellAt:Stmt:=top 66
abbrev sLow:Stmt:=top 67
abbrev sLMul:Stmt:=top 70
abbrev sWhole:Stmt:=top 71
abbrev sLFrac:Stmt:=top 72
abbrev sLFracs:Stmt:=top 73
abbrev s_law_across:Stmt:=top 74
abbrev s_law_down:Stmt:=top 75
abbrev s_law_two:Stmt:=top 76
abbrev s_law_wheel:Stmt:=top 77
abbrev s_law_cut:Stmt:=top 78
abbrev s_law_boxes:Stmt:=top 79
abbrev s_law_share:Stmt:=top 80
abbrev s_law_scaled:Stmt:=top 81
abbrev s_law_points:Stmt:=top 82
abbrev sLaw:Stmt:=top 83
open L2 Mth
section
variable {P:pG}{w:World}{K:ow}{mg:Str->Option Value}{base:Heap}
inductive NR(vs:List V)(H:Hp)(Q:VK)(_:XK):Prop
 |mk (a b:Int) (J:vs=[.int a,.int b]) (F:Q (.int (qJ a b:Int)) H)
theorem T7(h:qJ x 0=n):(if x<0 then -x else x)=(n:Int):=by
 rw[<-h,Int.gcd_zero_right];split<;>lia
theorem NZ:An ["one","other","rest"] ["one","other"] (Ac sCommon):=Aw
theorem ZL(F:Fun K "common_part" "common_part" sCommon f fd)(ma:mg "abs" = none):Ai P w K mg base Ae 1 f fd ["one","other"] NR:=by
 refine F.Ax NZ λim A aa s H vs Q E hr h=>?_
 obtain⟨a,b,rfl,q⟩:=h;exists _,AM (Kn oX (BF GF (pv 1) AB)
   (AM (AU 2 NZ (AN eI (pv 0) (pv 1)))
   (AM (AU 0 NZ (pv 1))
   (AR (AU 1 NZ (pv 2))))))
  (AR (Al (CA R5 (by rfl) ma PyProof.Rows.boot_abs (AA (pv 0) AD))))
 refine Kt (λσ H2=>∃x y r,σ=[some (.int x),some (.int y),r]/\H2=H/\qJ x y=qJ a b) (λσ _=>match σ with | [_,some (.int y),_]=>y.natAbs|_=>0) ⟨a,b,none,G,G,G⟩ ?_ ?_
 ·rintro σ H2 ⟨x,y,r,rfl,rfl,g⟩;exists _,G,G,_,rfl;by_cases J:y=0
  ·refine Hd (iv J) ?_;subst J;exists _,G,x,rfl;rw[T7 g];exact q
  ·refine Ju (E7 J) ?_;exact⟨_,G,_,G,_,_,G,G,J,_,G,_,G,⟨y,x.fmod y,some (.int (x.fmod y)),G,G,(Rz x y).trans g⟩,fT x y J⟩
 ·rintro σ H2 Q1 Q2 hq ⟨v,e,O,b,eb,z⟩;exact⟨v,e,O,b,eb,hq _ _ z⟩
theorem SG{X:Cx}:PS X st (λ_ _ _=>False):=by
 intro ge s σ H D I h;exact qP h
inductive TJ(C:Addr)(vs:List V)(H:Hp)(Q:VK)(E:XK):Prop
 |mk (t b:Int) (O:vs=[.int t,.int b]) (J:BJ b) (F:(b=0->False)) (aa:(b≠0->∀p,H p=none->Q (.ref p) (AG H p (.AF [.int (BR t b).1,.int (BR t b).2])))):TJ C vs H Q E
def Ig(C:Addr):Sp:=λvs H Q E=>TJ C vs H Q E
theorem Qe:An ["top","bottom","part"] ["top","bottom"] (Ac sFraction):=Aw
theorem X0(F:Fun K "fraction" "fraction" sFraction f fd)(G:AX P w K mg base 1 "common_part" ["one","other"] NR):Ai P w K mg base Ae 2 f fd ["top","bottom"] (Ig C):=by
 refine F.Ax Qe λim A ab s H vs Q E hr h=>?_
 obtain⟨t,b,rfl,hb,h0,h1⟩:=h;exists _,AM (BU (BF Dv (pv 1) AB) (AR SG) Bg)
  (AM (AU 2 Qe (AS G (AA (pv 0) (AA (pv 1) AD))))
  (AM (BU (BF Gq (pv 1) AB) (AR (AU 2 Qe (En Ej (pv 2)))) Bg)
  (AR (Al (BB (AA (AN Gd (pv 0) (pv 2)) (AA (AN Gd (pv 1) (pv 2)) AD)))))))
 exists _,rfl,rfl,_,rfl;by_cases hz:b=0
 ·refine By (iv hz) ?_;exact(h0 hz).elim
 refine Be (E7 hz) ?_;exists _,rfl,_,rfl,t,b,rfl;exists _,rfl,_,_,rfl,rfl,_,rfl;have aa:∀O,O=Mth.BN t b->QI (JB (A7 (BK (rI Ip λi j=>V.int (i.fdiv j)) (Ag 0) (Ag 2)) (A7 (BK (rI Ip λi j=>V.int (i.fdiv j)) (Ag 1) (Ag 2)) Ba)))
   { nx:=λ_ H'=>Q .Ay H',rt:=Q} [some (.int t),some (.int b),some (.int O)] H:=by
  rintro O rfl;have hp:Ip t (Mth.BN t b):=⟨Mk t b hz,rD (TY t b hz) hb⟩;exact⟨_,rfl,_,rfl,_,_,rfl,rfl,hp,_,rfl,_,rfl,_,_,rfl,rfl,hp,by exact CI,h1 hz⟩
 by_cases J:b<0
 ·refine By J ?_;exact⟨_,rfl,_,rfl,aa _ (by unfold Mth.BN;rw[oH J])⟩
 ·refine Be J ?_;exact aa _ (by unfold Mth.BN;rw[oC J])
open Wd
theorem F8(s:AK H0 H)(n:H0 x=none)(o:HO):AK H0 (AG H x o):=λb u q=>by rw[AV (BD q n)];exact s b u q
theorem DY{i:Int}(h:i.natAbs<=2 ^ n)(F:n<8968):BJ i:=rD h (aaY ∅ F)
theorem MQ{ns:List Int}(h:(ns.map V.int)[i]?=some v):∃e,v=.int e/\ns[i]?=some e:=by
 rw[om]at h;cases q:ns[i]? with
 |none=>rw[q]at h;cases h
 |some e=>rw[q]at h;exact⟨e,(oV h).symm,G⟩
theorem IY{ns:List Int}(h:i<ns.length):BY (ns.map V.int) (i:Int)=some (.int (ns.getD i 0)):=by
 refine BE ?_;rw[om,og h,oj,og h];rfl
theorem Bc{α:Type}{xs:List α}{x:α}(h:xs[i]?=some x):xs.take (i+1)=xs.take i++[x]:=by
 rw[xg,h];rfl
variable {f g h C:Addr}{fd gd hd:qU}
inductive QV(vs:List V)(H:Hp)(Q:VK)(_:XK):Prop
 |mk (a:Addr) (F:List Rat) (d:Nat) (aa:vs=[.ref a]) (O:As AO H a F) (J:(∀q∈F,q.den<=2 ^ d)) (ab:d*F.length+d<8968) (ac:Q (.int (cb F)) H)
theorem Hr:An ["row","common","one"] ["row"] (Ac sCBot):=Aw
theorem fv(F:Fun K "common_bottom" "common_bottom" sCBot f fd)(G:AX P w K mg base 1 "common_part" ["one","other"] NR):
  Ai P w K mg base Ae 2 f fd ["row"] QV:=by
 refine F.Ax Hr λim A ag s H vs Q E hr h=>?_
 obtain⟨a,J,d,rfl,⟨bs,ha,hA⟩,hd,hsz,q⟩:=h;exists _,AM (AU 1 Hr AB)
  (AM (Bk oX rfl (Ds (pv 0)) (Ak 2 Hr)
   (AR (AU 1 Hr (AN DM (AN Gd (pv 1) (AS G (AA (pv 1) (AA (A3 Bh (pv 2) AB) AD)))) (A3 Bh (pv 2) AB)))))
  (AR (Al (pv 1))))
 exists _,rfl,a,rfl,⟨_,AH.of ha⟩;refine Ji (xs:=bs.map V.ref) (λi σ H2=>∃u,H2=H/\σ=[some (.ref a),some (.int ((J.take i).foldl CU 1)),u]) ⟨none,rfl,rfl⟩ (λi σ H2 _ ⟨_,e,_⟩=>by rw[e];exact AH.of ha) ?_ ?_
 ·rintro i x σ H2 hx ⟨u,rfl,rfl⟩;obtain⟨b,y,rfl,_,O,hB⟩:=hA.ref hx;have hi:i<J.length:=(oh.mp O).1;have ym:y∈J:=oi O;obtain⟨c1,c2,c3,c4⟩:=VS (J.take i) (c:=1) (D:=0) (d:=d) ∅ ∅ (λp hp=>hd p (uL hp));generalize hc:(J.take i).foldl CU 1=c at *;have lt:(J.take i).length<=J.length:=by simp;lia
  have af:d*(J.take i).length<=d*J.length:=rN d lt;have aa:y.den<=2 ^ d:=hd y ym;have ad:(qJ c y.den:Int)≠0:=by have:=um (y.den:Int) (show c≠0 by lia);lia
  have ac:BJ (qJ c y.den:Int):=by
   refine DY (n:=d) ?_ ();rw[pO];refine oO (vA ?_ (yv.mp (vL c (y.den:Int)))) ?_
   ·have:=y.den_nz;lia
   ·simpa using aa
  have ab:BJ (c.fdiv (qJ c y.den:Int)):=by
   refine DY (n:=0+d*(J.take i).length) (oO ?_ c4) ();rw[qw (uY c _)];exact uJ c _
  have ae:BJ (y.den:Int):=DY (n:=d) (by simpa using aa) ();exists _,rfl,_,rfl,_,rfl,b,_,_,_,rfl,rfl,AH.of hB,Az,c,y.den,rfl,_,_,rfl,rfl,⟨ad,ac⟩,_,rfl,b,_,_,_,rfl,rfl,AH.of hB,Az,_,_,rfl,rfl,⟨ab,ae⟩;exists some (.ref b),rfl;rw[Bc O,vM];show _=[some (V.ref a),some (.int (CU ((J.take i).foldl CU 1) y)),some (.ref b)];rw[hc];rfl
 ·rintro σ H2 ⟨u,rfl,rfl⟩;exists _,rfl;rw[kb,hA.1,qE];exact q
inductive Kp(vs:List V)(H:Hp)(Q:VK)(_:XK):Prop
 |mk (a:Addr) (F:List Rat) (b:Int) (aa:vs=[.ref a,.int b]) (O:As AO H a F) (J:F.length<=1000) (ab:(∀q∈F,BJ q.num/\BJ (q.den:Int)/\BJ (b.fdiv q.den))) (ac:∀p H',AK H H'->H p=none->Bl H' p (F.map (wh b))->Q (.ref p) H')
theorem m5:An ["row","bottom"] ["row","bottom"] (Ac sWholes):=Aw
theorem lj:(["one","bottom"]:List Str).Nodup:=by decide +kernel
theorem ZW(F:Fun K "wholes" "wholes" sWholes f fd):Ai P w K mg base Ae 1 f fd ["row","bottom"] Kp:=by
 refine F.Ax m5 λim A ae s H vs Q E hr h=>?_
 obtain⟨a,qs,b,rfl,⟨bs,ha,hA⟩,hn,hsz,q⟩:=h;exists _,AR (Al (DN (Nc:=["one","bottom"]) (cap:=[(1,1)]) (g:=BH 0) (te:=BK (rI LH λi j=>.int (i*j)) (BK (EX []) (Ag 0) (tC (.int 0))) (BK (rI Ip λi j=>.int (i.fdiv j)) (Ag 1) (BK (EX []) (Ag 0) (tC (.int 1))))) rfl (Ds (pv 0))
   CD
   (λ_ _ _ _ _=>Bj (i:=0) lj rfl (qL rfl)) (λ_ _ _ _ _=>AN DM (A3 Bh (pv 0) AB) (AN Gd (pv 1) (A3 Bh (pv 0) AB)))))
 refine⟨_,G,a,G,⟨_,AH.of ha⟩,λac ab=>?_⟩;refine CP (F7 ha) (by rw[kb,hA.1];exact hn) ab (λi ys σ _=>ys=((qs.take i).map (wh b)).map V.int/\∃u,σ=[u,some (.int b)]) ⟨G,none,G⟩ ?_ ?_
 ·rintro i ys σ H2 x H3 hi O af ⟨J,u,rfl⟩ ⟨rfl,hx⟩ C hC;obtain⟨c,y,rfl,_,hy,hB⟩:=hA.ref hx;obtain⟨s1,s2,s3⟩:=hsz y (oi hy);have aa:=A9 O hB;have yd:=y.den_nz;refine⟨_,G,c,_,_,_,G,G,AH.of aa,BG,_,G,_,G,c,_,_,_,G,G,AH.of aa,Az,_,_,G,G,⟨(),s2⟩,_,_,G,G,⟨s1,s3⟩,?_⟩;refine hC _ _ _ (AK.refl _) ⟨?_,_,G⟩;rw[J,Bc hy,oU,oU];rfl
 ·rintro ys σ H2 O ad hl ⟨J,_⟩;refine q ac H2 O ab ?_;rw[kb,hA.1,qE]at J;unfold Bl;rw[ad,J]
inductive Vd(vs:List V)(H:Hp)(Q:VK)(_:XK):Prop
 |mk (a:Addr) (R:List (List Int)) (k m:Nat) (ac:vs=[.ref a,.int k]) (af:BC Bl H a R) (O:k<R.length) (ad:R.length<=1000) (J:(∀r∈R,r.length=m)) (ae:k<m) (F:m<=1000) (aa:((∀i,k<=i->i<R.length->(R.getD i []).getD k 0=0)->Q .Ay H)) (ab:∀i p H',k<=i->i<R.length->(R.getD i []).getD k 0≠0->AK H H'->H p=none->BC Bl H' p (KD R k i)->Q (.ref p) H')
theorem QK:An ["rows","k","place","exchanged"] ["rows","k"] (Ac sLed):=Aw
theorem mv:(["number"]:List Str).Nodup:=by decide +kernel
theorem getD_some{α:Type}{xs:List α}{x d:α}(h:xs[i]?=some x):xs.getD i d=x:=by rw[oj,h];rfl
theorem To:qY "list" = some (.type "list"):=by decide +kernel
theorem Od(h:j<n):DT n (j:Int)=some j:=by
 unfold DT;rw[oH (),oH ()];simp
theorem jD(F:Fun K "led" "led" sLed f fd)(ml:mg "len" = none)(mr:mg "range" = none)(ao:mg "list" = none):Ai P w K mg base Ae 1 f fd ["rows","k"] Vd:=by
 refine F.Ax QK λim A aw s H vs Q E hr h=>?_
 obtain⟨a,R,k,m,rfl,⟨bs,O,hA⟩,hk,hR,hm,au,aq,qn,qs⟩:=h;exists _,AM (Bk oX rfl (Ki (by rfl) mr (AA (pv 1) (AA (CA Kx (by rfl) ml Gh (AA (pv 0) AD)) AD))) (Ak 2 QK)
   (AR (BU (BF GF (A3 CH (A3 CH (pv 0) (pv 2)) (pv 1)) AB)
    (AM (AU 3 QK (D5 Ss (by rfl) ao To (AA (pv 0) AD)))
    (AM (BU (BF GF (pv 2) (pv 1))
     (AM (D8 (A3 CH (pv 0) (pv 2)) (Ik (pv 3) (pv 1) IS))
     (AR (D8 (DN (Nc:=["number"]) (cap:=[]) (g:=BH 0) (te:=XN (rU λi=>.int (-i)) (Ag 0)) rfl (DV (A3 CH (pv 0) (pv 1)))
      CD (λ_ _ _ _ _=>Bj (i:=0) mv rfl (qL rfl)) (λ_ _ _ _ _=>En Ej (pv 0))) (Ik (pv 3) (pv 2) IS)))) Bg)
    (AR (Al (pv 3))))) Bg)))
  (AR (Al Ie))
 have ar:bs.length=R.length:=hA.1;refine⟨_,G,_,G,a,_,G,.inl (AJ.of O),_,_,G,⟨(),(),by rw[kb];lia,by rw[kb];lia⟩,?_⟩;rw[kb,show((bs.length:Int)-(k:Int)).toNat=R.length-k by lia];refine Fb (n:=R.length-k) (λi σ H2=>H2=H/\(∃u v,σ=[some (.ref a),some (.int k),u,v])/\∀j,k<=j->j<k+i->(R.getD j []).getD k 0=0) ⟨G,⟨none,none,G⟩,λj h1 h2=>()⟩ ?_ ?_
 ·rintro i σ H2 hi ⟨rfl,⟨u,v,rfl⟩,hz⟩;have ac:k+i<R.length:=()
  have ei:R[k+i]?=some R[k+i]:=og ac;obtain⟨b,hb,hB⟩:=hA.get ei;have rl:R[k+i].length=m:=hm _ (qd ac);have gi:R.getD (k+i) []=R[k+i]:=getD_some ei;have ae:(k:Int)+(i:Int)=((k+i:Nat):Int):=()
  refine⟨_,G,_,G,a,_,_,_,G,G,AJ.of O,by rw[ae];exact BE (Cg hb),_,G,b,_,_,_,G,G,AJ.of hB,IY (),G,_,G,?_⟩;by_cases hv:R[k+i].getD k 0=0
  ·refine Hd (iv hv) ⟨G,⟨_,_,G⟩,λj h1 h2=>?_⟩;rcases oW j (k+i)with h3|h3
   ·exact hz j h1 h3
   ·obtain rfl:j=k+i:=()
    rw[gi];exact hv
  ·refine Ju (E7 hv) ?_;refine⟨_,G,a,_,G,.inl (AJ.of O),λl J=>?_⟩;exists _,G,_,G,G,_,rfl;by_cases ai:i=0
   ·subst ai;refine Hd (iv ()) ?_;refine⟨_,G,qs (k+0) l _ () ac (by rw[gi];exact hv) (AW J _) J ?_⟩;unfold KD;rw[oH ()];exact⟨bs,AQ,hA.keep Dp (AW J _)⟩
   ·refine Ju (E7 ()) ?_;have ek:R[k]?=some R[k]:=og hk;obtain⟨c,hc,af⟩:=hA.get ek;have gk:R.getD k []=R[k]:=getD_some ek;have al:a≠l:=BD O J;have s1:AK H2 (AG H2 l (.AE (bs.map V.ref))):=AW J _;refine⟨_,G,_,G,a,_,_,_,G,G,AJ.of (s1 _ _ O),by rw[ae];exact BE (Cg hb),_,G,_,G,l,_,_,_,G,G,AQ,Od (j:=k) (by rw[kb];lia),?_⟩;have s2:AK H2 (AG (AG H2 l (.AE (bs.map V.ref))) l (.AE ((bs.map V.ref).set k (.ref b)))):=F8 s1 J _;refine⟨_,G,_,G,a,_,_,_,G,G,AJ.of (s2 _ _ O),BE (Cg hc),c,G,⟨_,AJ.of (s2 _ _ af)⟩,λaa ad=>?_⟩;have ak:=s2 _ _ af;generalize ah:AG (AG H2 l (.AE (bs.map V.ref))) l (.AE ((bs.map V.ref).set k (.ref b)))=H3 at *;have ag:H3 l=some (.AE ((bs.map V.ref).set k (.ref b))):=by rw[<-ah];exact AQ
    have rk:R[k].length=m:=hm _ (qd hk);refine CP (Fc ak) (by rw[kb];lia) ad (λj ys σ _=>ys=((R[k].take j).map λx=>-x).map V.int/\∃u,σ=[u]) ⟨G,none,G⟩ ?_ ?_
    ·rintro j ys σ H4 x H5 hj sm av ⟨ab,u4,rfl⟩ ⟨rfl,hx⟩ C hC;obtain⟨e,rfl,he⟩:=MQ hx;refine⟨_,G,_,G,hC _ _ _ (AK.refl _) ⟨?_,_,G⟩⟩;rw[ab,Bc he,oU,oU];rfl
    ·rintro ys σ H4 sm aj ap ⟨ab,_⟩;rw[kb,qE]at ab;refine⟨_,G,_,G,l,_,_,_,G,G,sm _ _ ag,by rw[ae];exact Od (j:=k+i) (by rw[vH,kb];lia),?_⟩;have am:aa≠l:=λz=>by rw[z,ag]at ad;cases ad
     have s5:AK H2 (AG H4 l (.AE (((bs.map V.ref).set k (.ref b)).set (k+i) (.ref aa)))):=F8 (s2.trans sm) J _;refine⟨_,G,qs (k+i) l _ () ac (by rw[gi];exact hv) s5 J ?_⟩;unfold KD;rw[oC (),gi,gk];exists (bs.set k b).set (k+i) aa,?_
     ·rw[AQ,abu,abu]
     ·refine((hA.keep Dp s5).set k (Dp s5 hB)).set (k+i) ?_;show AG H4 l _ aa=_;rw[AV am,aj,ab]
 ·rintro σ H2 ⟨rfl,⟨u,v,rfl⟩,hz⟩;exact qn λi h1 h2=>hz i h1 ()
inductive Pm(vs:List V)(H:Hp)(Q:VK)(_:XK):Prop
 |mk (a b:Addr) (row F:List Int) (k m:Nat) (p:Int) (ae:vs=[.ref a,.ref b,.int k,.int p]) (ai:Bl H a row) (ab:Bl H b F) (af:row.length=m) (aa:F.length=m) (ah:k<m) (J:m<=1000) (ac:p≠0) (ad:BJ p) (aj:(∀x∈row,BJ x)) (O:(∀x∈F,BJ x)) (ag:∀q H',AK H H'->H q=none->Bl H' q (Co row F k p)->Q (.ref q) H')
theorem my:An ["row","lead","k","before"] ["row","lead","k","before"] (Ac sSweptRow):=Aw
theorem WI:(["number","other","row","lead","k","before"]:List Str).Nodup:=by decide +kernel
def mM(K:ow):TE:=BK (rI Ip λi j=>.int (i.fdiv j)) (BK (EY λi j=>.int (i-j)) (BK (rI LH λi j=>.int (i*j)) (BK (Er []) (Ag 3) (Ag 4)) (Ag 0)) (BK (rI LH λi j=>.int (i*j)) (BK (Er []) (Ag 2) (Ag 4)) (Ag 1))) (Ag 5)
theorem Xz(F:Fun K "swept_row" "swept_row" sSweptRow f fd)(mz:mg "zip" = none):Ai P w K mg base Ae 1 f fd ["row","lead","k","before"] Pm:=by
 refine F.Ax my λim A ak s H vs Q E hr h=>?_
 obtain⟨a,b,row,aa,k,m,p,rfl,ha,J,ag,ae,hk,hm,hp,bp,br,bl,q⟩:=h;exists _,AR (Al (DN (Nc:=["number","other","row","lead","k","before"]) (cap:=[(2,0),(3,1),(4,2),(5,3)]) (g:=Hm [] 2 (Fj (BH 0) (Fj (BH 1) KG))) (te:=mM K) rfl (Kw (t1:=false) (t2:=false) (by rfl) mz (AA (pv 0) (AA (pv 1) AD)))
   CD
   (λ_ _ _ _ _=>CZ rfl (Av (Bj (i:=0) WI rfl (qL rfl)) (Av (Bj (i:=1) WI rfl (qL rfl)) CV)))
   (λ_ _ _ _ _=>AN Gd (AN CB (AN DM (A3 CH (pv 3) (pv 4)) (pv 0)) (AN DM (A3 CH (pv 2) (pv 4)) (pv 1))) (pv 5))))
 refine⟨_,G,_,G,a,b,G,⟨_,BV.l ha⟩,⟨_,BV.l J⟩,λaf ad=>?_⟩;refine CP (Mh (xs:=row.map V.int) (ys:=aa.map V.int) (λH2 s=>BV.l (s _ _ ha)) (λH2 s=>BV.l (s _ _ J)) (by rw[kb,kb];lia)) (by rw[kb];lia) ad
  (λi ys σ _=>ys=((Co row aa k p).take i).map V.int/\∃u v,σ=[u,v,some (.ref a),some (.ref b),some (.int k),some (.int p)]) ⟨G,none,none,G⟩ ?_ ?_
 ·rintro i ys σ H2 x H3 hi sm al ⟨O,u,v,rfl⟩ ⟨t,n1,n2,rfl,ht,rfl,aj,ah⟩ C hC;obtain⟨x1,rfl,ab⟩:=MQ aj;obtain⟨x2,rfl,ac⟩:=MQ ah;have s3:AK H2 (AG H2 t (.AF [.int x1,.int x2])):=AW ht _;have gm:∀(l:List Int) (j:Nat),j<l.length->(∀x∈l,BJ x)->BJ (l.getD j 0):=λl j hj J=>by
   rw[oj,og hj];exact J _ (qd hj)
  exists t,_,G,AH.of AQ,G,_,_,G,_,_,G,rfl;exists _,G,_,G,b,_,_,_,G,G,AJ.of (s3 _ _ (sm _ _ J)),IY (),_,G,_,_,G,G,⟨gm _ _ () bl,br _ (oi ab)⟩,
   _,G,_,G,a,_,_,_,G,G,AJ.of (s3 _ _ (sm _ _ ha)),IY (),_,G,_,_,G,G,⟨gm _ _ () br,bl _ (oi ac)⟩,_,_,G,G,_,G,_,_,G,G,⟨hp,bp⟩
  refine hC _ _ _ s3 ⟨?_,_,_,G⟩;have e:(Co row aa k p)[i]?=some ((aa.getD k 0*x1-row.getD k 0*x2).fdiv p):=by
   unfold Co;rw[vQ,ab,ac]
  rw[O,Bc e,oU];rfl
 ·rintro ys σ H2 sm ai hl ⟨O,_⟩;refine q af H2 sm ad ?_;rw[kb]at O
  have:(Co row aa k p).length=m:=MZ ag ae
  rw[oQ ()]at O;unfold Bl;rw[ai,O]
inductive TR(vs:List V)(H:Hp)(Q:VK)(_:XK):Prop
 |mk (a:Addr) (R:List (List Int)) (n m B0:Nat) (ad:vs=[.ref a]) (ag:BC Bl H a R) (aa:R.length=n) (ae:n<=m) (O:m<=100) (af:(∀r∈R,r.length=m)) (F:1<=B0) (ab:(∀r∈R,∀x∈r,x.natAbs<=B0)) (ac:(m*B0) ^ n<2 ^ 8968) (ah:(∀H',AK H H'->ld n m (Aa (R.map vr) Aj)=0->Q .Ay H')) (J:∀p H' T,AK H H'->BC Bl H' p T->(∃Z c v,Bi B0 n m n (R.map vr) T Z c v)->Q (.ref p) H')
theorem Hn:An ["rows","size","before","k","lead"] ["rows"] (Ac sSwept):=Aw
theorem l9:(["row","lead","k","before"]:List Str).Nodup:=by decide +kernel
theorem S0{J:List (List Int)}{Z:List (List Int×Ah)}{p:Int}(B:Bi B0 n m k A0 J Z p v)(F:(m*B0) ^ n<2 ^ 8968)(hz:z∈Z):∀x∈z.1,BJ x:=by
 intro x O;obtain⟨j,rfl⟩:=Wd.mem_getD O;have h:=GA (B.XG hz j);have hl:=B.FL;have hp:0<Z.length:=sL hz;have h1:1<=m*B0:=ace (by have:=B.nm;lia) B.b1;exact rD (oO h (Ut h1 ())) F
theorem Vn{F:List (List Int)}{Z:List (List Int×Ah)}{p:Int}(B:Bi B0 n m k A0 F Z p v)(hb:(m*B0) ^ n<2 ^ 8968):BJ p:=by
 rcases aby k with rfl|hk
 ·have h1:=B.pl
  have:(p:Rat)=ld 0 m v:=h1.symm
  have J:=B.IF (Tk 0 m);have e:ld 0 m v=v (Tk 0 m):=by simp[ld,CF]
  rw[<-e,<-this]at J
  have:=GA J
  have z:(1:Nat)<2 ^ 8968:=by
   have:=Nat.one_lt_two_pow (n:=8968) ∅
   exact this
  rw[abC]at this;exact rD this z
 ·have hl:=B.Hv hk;have ht:=B.GS;have O:F.getD (k-1) []∈F:=by
   rw[oj,og (by omega)];exact qd _
  have:=GA (B.JN _ O (k-1))
  rw[hl]at this;exact rD this hb
theorem Zx (F:Fun K "swept" "swept" sSwept f fd)(G:AX P w K mg base 1 "led" ["rows","k"] Vd)
  (G2:AX P w K mg base 1 "swept_row" ["row","lead","k","before"] Pm)
  (ml:mg "len" = none)(mr:mg "range" = none):Ai P w K mg base Ae 2 f fd ["rows"] TR:=by
 refine F.Ax Hn λim A bc s H vs Q E hr h=>?_
 obtain⟨a,R,n,m,B0,rfl,hA,hn,a1,hm,au,a4,a3,af,qn,qs⟩:=h;exists _,AM (AU 1 Hn (CA Kx (by rfl) ml Gh (AA (pv 0) AD)))
  (AM (AU 2 Hn AB)
  (AM (Bk oX rfl (F4 (by rfl) mr (AA (pv 1) AD)) (Ak 3 Hn)
   (AM (AU 0 Hn (AS G (AA (pv 0) (AA (pv 3) AD))))
   (AM (BU (BF U8 (pv 0) Ie) (AR (Al Ie)) Bg)
   (AM (AU 4 Hn (A3 CH (pv 0) (pv 3)))
   (AM (AU 0 Hn (AN Gm (Ef KS (pv 0) Fe (D7 (AN BM (pv 3) AB)))
    (DN (Nc:=["row","lead","k","before"]) (cap:=[(1,4),(2,3),(3,2)]) (g:=BH 0) (te:=DO Pm [] E0 (A7 (Ag 0) (A7 (Ag 1) (A7 (Ag 2) (A7 (Ag 3) Ba))))) rfl (DV (Ef KS (pv 0) (D7 (AN BM (pv 3) AB)) Fe))
     CD
     (λ_ _ _ _ _=>Bj (i:=0) l9 rfl (qL rfl)) (λ_ _ _ _ _=>AS G2 (AA (pv 0) (AA (pv 1) (AA (pv 2) (AA (pv 3) AD))))))))
   (AR (AU 2 Hn (A3 CH (pv 4) (pv 3)))))))))
  (AR (Al (pv 0)))))
 obtain⟨bs,ha,ak⟩:=id hA;exists _,rfl,a,_,rfl,.inl (AJ.of ha);refine⟨_,rfl,(((bs.map V.ref).length:Nat):Int),rfl,by rw[kb,ak.1];lia,by rw[kb,ak.1];lia,?_⟩;rw[show((((bs.map V.ref).length:Nat):Int)).toNat=n by rw[kb,ak.1];lia];refine Fb (n:=n) (λk σ H2=>AK H H2/\∃(c:Addr) (J:List (List Int)) (Z:List (List Int×Ah)) (p:Int) (v:A5) (u1 u2:Option V),σ=[some (.ref c),some (.int (((bs.map V.ref).length:Nat):Int)),some (.int p),u1,u2]/\BC Bl H2 c (J++Z.map (·.1))/\Bi B0 n m k (R.map vr) J Z p v)
  ⟨AK.refl _,a,[],R.map λr=>(r,vr r),1,Aj,none,none,rfl,by simp[w9];exact hA,Bi.n8 a4 (λr hr j=>Ii (Sa (a3 r hr) j)) hn a1 au⟩ ?_ ?_
 ·rintro k σ H2 hk ⟨sm,c,J,Z,p,v,u1,u2,rfl,hL,B⟩;have lT:=B.GS;have lZ:=B.FL;have a6:(J++Z.map (·.1)).length=n:=by simp;lia
  have zk:(0:Int)+(k:Nat)=((k:Nat):Int):=()
  exists _,rfl,_,rfl,c,J++Z.map (·.1),k,m,by rw[zk];rfl,hL,(),(),?_,(),(),?_
  ·intro r hr;rcases oM.mp hr with h1|h1
   ·exact B.Iw r h1
   ·obtain⟨z,hz,rfl⟩:=oI.mp h1;exact B.Di z hz
  ·
   intro h0;exists _,rfl,rfl,_,rfl;refine By rfl ?_;refine qn H2 sm (B.none hk λz hz=>?_);obtain⟨j,hj,e⟩:=qV hz;have hh:=h0 (k+j) () ()
   have:(J++Z.map (·.1)).getD (k+j) []=z.1:=by
    rw[oj,pE (),show k+j-J.length=j by lia,om,og hj,e];rfl
   rw[this]at hh;exact hh
  ·intro i c2 H3 h1 h2 h3 s3 a7 ao;obtain⟨z,O,B2,eR,hz⟩:=B.led h1 () h3;rw[eR]at ao;exists _,rfl,rfl,_,rfl;refine Be (λz=>by cases z) ?_;obtain⟨cs,ai,ad⟩:=id ao;have az:=B2.FL;simp at az;have a2:cs.length=n:=by rw[ad.1];simp;lia
   have ek:(J++z.1 :: O.map (·.1))[k]?=some z.1:=by rw[pE (),lT];simp
   obtain⟨b,hb,hB⟩:=ad.get ek;refine⟨_,rfl,_,rfl,c2,_,_,_,rfl,rfl,AJ.of ai,by rw[zk];exact BE (Cg hb),?_⟩;have k1:((0:Int)+(k:Nat))+1=((k+1:Nat):Int):=()
   refine⟨_,rfl,_,rfl,_,_,rfl,rfl,_,rfl,c2,_,rfl,AJ.of ai,λp1 ay=>?_⟩
   (try dsimp only)
   rw[k1,JY _ (by rw[kb];lia)];have s4:AK H3 (AG H3 p1 (.AE ((cs.map V.ref).take (k+1)))):=AW ay _;have ap:(AG H3 p1 (.AE ((cs.map V.ref).take (k+1)))) p1=some (.AE ((cs.map V.ref).take (k+1))):=AQ;generalize AG H3 p1 (.AE ((cs.map V.ref).take (k+1)))=H4 at s4 ap;refine⟨_,rfl,_,rfl,_,_,rfl,rfl,_,rfl,c2,_,rfl,AJ.of (s4 _ _ ai),λp2 av=>?_⟩
   (try dsimp only)
   rw[k1,Ja _ (by rw[kb];lia)];have s5:AK H4 (AG H4 p2 (.AE ((cs.map V.ref).drop (k+1)))):=AW av _;have aj:(AG H4 p2 (.AE ((cs.map V.ref).drop (k+1)))) p2=some (.AE ((cs.drop (k+1)).map V.ref)):=by rw[AQ,vw]
   generalize AG H4 p2 (.AE ((cs.map V.ref).drop (k+1)))=H5 at s5 aj;refine⟨p2,rfl,⟨_,AJ.of aj⟩,λac aw=>?_⟩;have ag:AK H3 H5:=s4.trans s5;have aq:At Bl H5 (cs.drop (k+1)) (O.map (·.1)):=by
    have:=(ad.drop (k+1)).keep Dp ag
    have e:(J++z.1 :: O.map (·.1)).drop (k+1)=O.map (·.1):=by
     rw[List.drop_append,List.drop_of_length_le (),show k+1-J.length=1 by lia];rfl
    rw[e]at this;exact this
   have al:z∈z :: O:=by simp
   refine CP (Fc aj) (by rw[kb,pS];lia) aw
    (λi ys σ hp=>∃ds:List Addr,ys=ds.map V.ref/\At Bl hp ds ((O.map λy=>Co y.1 z.1 k p).take i)/\∃u,σ=[u,some (.ref b),some (.int ((0:Int)+(k:Nat))),some (.int p)]) ⟨[],rfl,At.nil,none,rfl⟩ ?_ ?_
   ·rintro i ys σ H6 x H7 hi ab ae ⟨ds,rfl,hD,u,rfl⟩ ⟨rfl,hx⟩ C hC;obtain⟨e,r,rfl,he,aa,hE⟩:=aq.ref hx;rw[om]at aa;cases q:O[i]? with
    |none=>rw[q]at aa;cases aa
    |some y =>
     rw[q]at aa;obtain rfl:y.1=r:=oV aa;have ym:y∈z :: O:=pF _ (oi q);refine⟨_,rfl,_,rfl,_,rfl,_,rfl,e,b,y.1,z.1,k,m,p,by rw[zk];rfl,ab _ _ hE,ab _ _ (ag _ _ hB),B2.Di y ym,B2.Di z al,(),(),B.pz,Vn B af,S0 B2 af ym,S0 B2 af al,?_⟩;intro r2 H8 s8 am a0;refine hC _ _ _ s8 ⟨ds++[r2],#v[],?_,_,rfl⟩;have ne:r2≠ac:=λz=>by rw[z,ae]at am;cases am
     have e3:(O.map λy=>Co y.1 z.1 k p)[i]?=some (Co y.1 z.1 k p):=by rw[om,q];rfl
     rw[Bc e3];exact(hD.keep Dp (Df ac s8)).snoc (FA a0 ne)
   ·rintro ys σ H6 ab ae a8 ⟨ds,rfl,hD,u,rfl⟩;rw[kb,pS,oQ (by simp;lia)]at hD;have ar:=ab _ _ (s5 _ _ ap);have a5:(cs.map V.ref).length=n:=by rw[kb];exact a2
    have a9:ds.length=O.length:=by rw[hD.1];simp
    refine⟨p1,ac,_,_,rfl,rfl,ar,ae,by rw[pN,kb,kb];exact Et (),λc3 ax=>?_⟩;have s7:AK H6 (AG H6 c3 (.AE ((cs.map V.ref).take (k+1)++ds.map V.ref))):=AW ax _;have ah:=(ag.trans ab).trans s7;have b1:z.1.length=m:=B2.Di z al;refine⟨_,rfl,_,rfl,b,_,_,_,rfl,rfl,AJ.of (ah _ _ hB),by rw[zk];exact IY (),?_⟩;have B3:=B2.step hz;refine⟨sm.trans (s3.trans ah),c3,J++[z.1],_,z.1.getD k 0,_,_,_,rfl,⟨cs.take (k+1)++ds,?_,?_⟩,B3⟩
    ·rw[AQ,oU,vz]
    ·have t1:=(ad.take (k+1)).keep Dp ah;have e:(J++z.1 :: O.map (·.1)).take (k+1)=J++[z.1]:=by
      rw[List.take_append,oQ (),show k+1-J.length=1 by lia];rfl
     rw[e]at t1;have t2:=(hD.keep Dp (DC H6 ac)).keep Dp s7;have e2:zm (·.1) (O.map λy=>(Co y.1 z.1 k p,y.2))=O.map λy=>Co y.1 z.1 k p:=by simp[w9]
     rw[e2];exact t1.Kf t2
 ·rintro σ H2 ⟨sm,c,J,Z,p,v,u1,u2,rfl,hL,B⟩;obtain⟨rfl,_⟩:=B.fin;rw[rT,qS]at hL;exact⟨_,rfl,qs c H2 J sm hL ⟨[],p,v,B⟩⟩
variable {f1 f2 f3 f4:Addr}{d1 d2 d3 d4:qU}
structure TK(n m d E D:Nat)(T:List (List Rat)):Prop where
 len:T.length=n
 col:∀r∈T,r.length=m
 nm:n<=m
 XM:m<=15
 den:∀r∈T,∀q∈r,q.den<=2 ^ d
 num:∀r∈T,∀q∈r,BJ q.num
 nJ:∀r∈T,(cb r).natAbs<=2 ^ D
 nP:∀r∈T,∀q∈r,(wh (cb r) q).natAbs<=2 ^ E
 bd:(4+E)*n<7990/\D<7990/\d*m+d<7990
theorem TK.F2(h:TK n m d E D T)(F:r∈T):0<cb r/\(∀q∈r,(q.den:Int) ∣ cb r)/\(cb r).natAbs<=2 ^ D :=
 ⟨(Jp r).1,(Jp r).2,h.nJ r F⟩
def Dy(T:List (List Rat)):List (List Int):=T.map λr=>r.map (wh (cb r))
theorem TK.Qk(h:TK n m d E D T):∀r∈Dy T,r.length=m/\∀x∈r,x.natAbs<=2 ^ E:=by
 intro r O;obtain⟨s,F,rfl⟩:=oI.mp O;refine⟨by rw[kb];exact h.col s F,λx hx=>?_⟩;obtain⟨q,J,rfl⟩:=oI.mp hx;exact h.nP s F q J
theorem TK.F1(h:TK n m d E D T):(m*2 ^ E) ^ n<2 ^ 8968:=by
 have h1:m*2 ^ E<=2 ^ (4+E):=by
  rw[wz 2 4];exact v9 _ (by have:=h.XM;omega)
 have h2:=abh h1 n;rw[<-Nat.pow_mul]at h2;exact rD h2 (aaY ∅ (by have:=h.bd;omega))
theorem TK.wb(h:TK n m d E D T)(J:r∈T):∀q∈r,BJ q.num/\BJ (q.den:Int)/\BJ ((cb r).fdiv q.den):=by
 intro q F;obtain⟨c1,O,c3⟩:=h.F2 J
 have:=h.bd
 refine⟨h.num r J q F,DY (n:=d) (by simpa using h.den r J q F) (by omega),DY (n:=D) (oO ?_ c3) (by omega)⟩;rw[qw (O q F)];exact uJ _ _
theorem mO:(["row"]:List Str).Nodup:=by decide +kernel
theorem dI(h:xs[xs.length-1]?=some v):BY xs (-1)=some v:=by
 have F:0<xs.length:=by have:=(oh.mp h).1;omega
 have e:DT xs.length (-1)=some (xs.length-1):=by
  unfold DT;rw[oC ∅,oH (by omega)];congr 1;omega
 unfold BY;rw[e];exact h
theorem EB:Mo (As AO):=λs h=>Cq (R:=AO) (λs h=>A9 s h) s h
variable {C2:Addr}
structure W6(B0 n:Nat)(T:List (List Int))(c:Int)(x:Nat->Rat)(u:Nat->Int):Prop where
 n0:0<n
 len:T.length=n
 col:∀r∈T,r.length=n+1
 c0:c≠0
 Hv:(T.getD (n-1) []).getD (n-1) 0=c
 FT:∀i,i<n->(T.getD i []).getD i 0≠0/\∀j,j<i->(T.getD i []).getD j 0=0
 CN:∀i,i<n->fx n x (vr (T.getD i []))=0
 VJ:∀j,j<n->((u j:Int):Rat)=c*x j
 F1:(∀r∈T,∀y∈r,BJ y)/\(∀j,j<n->BJ (u j))/\BJ c
inductive VF(vs:List V)(H:Hp)(Q:VK)(_:XK):Prop
 |mk (a:Addr) (B0 n:Nat) (T:List (List Int)) (c:Int) (x:Nat->Rat) (u:Nat->Int) (O:vs=[.ref a]) (J:BC Bl H a T) (F:n<=100) (aa:W6 B0 n T c x u) (ab:∀p H',AK H H'->H p=none->As AO H' p ((oN n).map x)->Q (.ref p) H')
theorem Hu:An ["rows","size","whole","found","k","row","known"] ["rows"] (Ac sBack):=Aw
theorem Wl:(["number","other"]:List Str).Nodup:=by decide +kernel
theorem mV:(["number","whole"]:List Str).Nodup:=by decide +kernel
def E3(u:Nat->Int)(n k:Nat):List Int:=(oN (n-k)).map λi=>u (k+i)
theorem bF(h:k<n):E3 u n k=u k :: E3 u n (k+1):=by
 unfold E3;rw[show n-k=(n-(k+1))+1 by lia,tR,oP,rC];congr 1;refine sQ λi _=>?_
 show u (k+(i+1))=u (k+1+i);congr 1;lia
def Em(r:List Int)(u:Nat->Int)(n k:Nat):List Int:=(oN (n-k)).map λi=>r.getD (k+i) 0*u (k+i)
theorem YC(h:k<n):Em r u n k=(r.getD k 0*u k) :: Em r u n (k+1):=by
 unfold Em;rw[show n-k=(n-(k+1))+1 by lia,tR,oP,rC];congr 1;refine sQ λi _=>?_
 show r.getD (k+(i+1)) 0*u (k+(i+1))=r.getD (k+1+i) 0*u (k+1+i)
 have:k+(i+1)=k+1+i:=()
 rw[this]
theorem aV{c:Int}(F:∀j,j<n->((u j:Int):Rat)=c*x j)(hs:fx n x (vr r)=0)(hk:k<n)(hd:r.getD k 0≠0)(hz:∀j,j<k->r.getD j 0=0):
  (r.getD n 0*c-(Em r u n (k+1)).sum).fdiv (r.getD k 0)=u k:=by
 have ab:∀m,m<=n->(((Em r u n (n-m)).sum:Int):Rat)=c*(Am (λj=>vr r j*x j) n-Am (λj=>vr r j*x j) (n-m)):=by
  intro m
  induction m with
  |zero=>intro _;simp[Em];grind
  |succ m ih =>
   intro hm;rw[YC (show n-(m+1)<n by lia),qk,zW,ph,F _ ()];rw[show n-(m+1)+1=n-m by lia,ih ()];have e:Am (λj=>vr r j*x j) (n-m)=Am (λj=>vr r j*x j) (n-(m+1))+vr r (n-(m+1))*x (n-(m+1)):=by
    rw[show n-m=n-(m+1)+1 by lia];rfl
   rw[e]
   have:vr r (n-(m+1))=((r.getD (n-(m+1)) 0:Int):Rat):=rfl
   rw[<-this];grind
 have t:=ab (n-(k+1)) ();rw[show n-(n-(k+1))=k+1 by lia]at t;have ac:Am (λj=>vr r j*x j) (k+1)=vr r k*x k:=by
  simp only[Am];rw[L7 (λl hl=>by rw[show vr r l=0 by simp only[vr,hz l hl];rfl];grind)];grind
 rw[ac]at t;have ad:Am (λj=>vr r j*x j) n=vr r n:=by simp only[fx]at hs;grind
 rw[ad]at t;have aa:(((r.getD n 0*c-(Em r u n (k+1)).sum:Int)):Rat)=((r.getD k 0*u k:Int):Rat):=by
  rw[tY,ph,ph,t,F k hk];have a1:vr r n=((r.getD n 0:Int):Rat):=rfl;have O:vr r k=((r.getD k 0:Int):Rat):=rfl;rw[<-a1,<-O];grind
 have J:r.getD n 0*c-(Em r u n (k+1)).sum=r.getD k 0*u k:=by exact_mod_cast aa
 rw[J,qw (abZ _ _),uZ _ hd]
theorem OS{r:List Int}(h:∀y∈r,BJ y)(F:j<r.length):BJ (r.getD j 0):=by
 rw[oj,og F];exact h _ (qd F)
theorem gj(xs:List V)(h:i<=j)(O:j<=xs.length):Ck xs (some (i:Int)) (some (j:Int))=(xs.drop i).take (j-i):=by
 unfold Ck;have J:HT.Ad xs.length 0 (some (i:Int))=i:=by simp[HT.Ad];rw[oC ()];lia
 have F:HT.Ad xs.length xs.length (some (j:Int))=j:=by simp[HT.Ad];rw[oC ()];lia
 rw[J,F]
theorem fD (F:Fun K "found_back" "found_back" sBack f fd)(G:AX P w K mg base 2 "fraction" ["top","bottom"] (Ig C))
  (ml:mg "len" = none)(mr:mg "range" = none)(mz:mg "zip" = none)(aw:mg "sum" = none)(mt:mg "tuple" = none):Ai P w K mg base Ae 3 f fd ["rows"] VF:=by
 refine F.Ax Hu λim A a2 s H vs Q E hr h=>?_
 obtain⟨a,B0,n,T,c,x,u,rfl,⟨bs,ha,hA⟩,hn,S,q⟩:=h;exists _,AM (AU 1 Hu (CA Kx (by rfl) ml Gh (AA (pv 0) AD)))
  (AM (AU 2 Hu (A3 CH (A3 CH (pv 0) (En Ej AB)) (AN CB (pv 1) AB)))
  (AM (AU 3 Hu (CJ AD))
  (AM (Bk oX rfl (Y6 (by rfl) mr (AA (AN CB (pv 1) AB) (AA (En Ej AB) (AA (En Ej AB) AD)))) (Ak 4 Hu)
   (AM (AU 5 Hu (A3 CH (pv 0) (pv 4)))
   (AM (AU 6 Hu (CA (Y1 rfl) (by rfl) aw ie (AA (DN (Nc:=["number","other"]) (cap:=[]) (g:=Hm [] 2 (Fj (BH 0) (Fj (BH 1) KG))) (te:=BK (rI LH λi j=>.int (i*j)) (Ag 0) (Ag 1)) rfl
     (Kw (t1:=false) (t2:=false) (by rfl) mz (AA (Ef KS (pv 5) (D7 (AN BM (pv 4) AB)) (D7 (pv 1))) (AA (pv 3) AD)))
     CD (λ_ _ _ _ _=>CZ rfl (Av (Bj (i:=0) Wl rfl (qL rfl)) (Av (Bj (i:=1) Wl rfl (qL rfl)) CV)))
     (λ_ _ _ _ _=>AN DM (pv 0) (pv 1))) AD)))
   (AR (AU 3 Hu (AN Gm (CJ (AA (AN Gd (AN CB (AN DM (A3 CH (pv 5) (pv 1)) (pv 2)) (pv 6)) (A3 CH (pv 5) (pv 4))) AD)) (pv 3)))))))
  (AR (Al (D5 E9 (by rfl) mt Dm (AA (DN (Nc:=["number","whole"]) (cap:=[(1,2)]) (g:=BH 0) (te:=DO (Ig C) [] E0 (A7 (Ag 0) (A7 (Ag 1) Ba))) rfl (DV (pv 3))
   CD
   (λ_ _ _ _ _=>Bj (i:=0) mV rfl (qL rfl)) (λ_ _ _ _ _=>AS G (AA (pv 0) (AA (pv 1) AD)))) AD)))))))
 have n0:=S.n0;have lT:=S.len;have lb:bs.length=n:=by rw[hA.1];exact lT
 have gT:∀i,i<n->∃b,bs[i]?=some b/\Bl H b (T.getD i [])/\(T.getD i []).length=n+1/\(∀y∈T.getD i [],BJ y):=by
  intro i hi;have e:T[i]?=some (T[i]'()):=og _;obtain⟨b,h1,h2⟩:=hA.get e;have hm:T[i]'()∈T:=qd _;rw[getD_some e];exact⟨b,h1,h2,S.col _ hm,S.F1.1 _ hm⟩
 obtain⟨bz,a0,ax,lz,_⟩:=gT (n-1) ();exists _,rfl,a,_,rfl,.inl (AJ.of ha);rw[kb,lb];have au:((n:Nat):Int)-1=((n-1:Nat):Int):=()
 refine⟨_,rfl,_,rfl,a,_,_,_,rfl,rfl,AJ.of ha,dI (by rw[kb,lb];exact Cg a0),_,rfl,_,_,rfl,rfl,bz,_,_,_,rfl,rfl,AJ.of ax,by rw[au];exact IY (),?_⟩;rw[S.Hv];refine⟨by exact Fx,λl0 ak=>?_⟩;have s0:=AW ak (.AE [])
 try dsimp only
 try refine JX ?_
 first|refine Jf λay am=>?_|refine nx_hide λay am=>?_
 refine⟨_,rfl,_,_,rfl,rfl,_,rfl,_,rfl,n,rfl,(),?_⟩;refine aW (n:=n) (lo:=((n:Nat):Int)-1) (step:=-1) (λi σ H2=>AK H H2/\∃l u4 u5 u6,σ=[some (.ref a),some (.int ((n:Nat):Int)),some (.int c),some (.ref l),u4,u5,u6]/\H l=none/\Bl H2 l (E3 u n (n-i)))
  ⟨s0,l0,none,none,none,rfl,ak,by unfold Bl E3;rw[AQ];simp⟩ ?_ ?_
 ·rintro i σ H2 hi ⟨O,l,u4,u5,u6,rfl,nl,hl⟩;have hk:n-1-i<n:=()
  obtain⟨k,a1⟩:∃k,k=n-1-i:=⟨_,rfl⟩;have ek:((n:Nat):Int)-1+(i:Nat)*(-1)=((k:Nat):Int):=()
  obtain⟨b,hb,hB,lr,br⟩:=gT k ();generalize af:T.getD k []=row at hB lr br;rw[ek];have aq:=O _ _ ha;have ai:=O _ _ hB;exists _,rfl,_,rfl,a,_,_,_,rfl,rfl,AJ.of aq,BE (Cg hb);have k1:((k:Nat):Int)+1=((k+1:Nat):Int):=()
  refine⟨_,rfl,_,rfl,_,_,rfl,rfl,_,rfl,_,rfl,_,rfl,b,_,rfl,AJ.of ai,λp1 av=>?_⟩
  (try dsimp only)
  rw[k1,gj _ () (by rw[kb];lia)];have s3:=AW av (.AE (((row.map V.int).drop (k+1)).take (n-(k+1))));have e1:(AG H2 p1 (.AE (((row.map V.int).drop (k+1)).take (n-(k+1))))) p1=some (.AE (((row.drop (k+1)).take (n-(k+1))).map V.int)):=by rw[AQ,vz,vw]
  generalize AG H2 p1 (.AE (((row.map V.int).drop (k+1)).take (n-(k+1))))=H3 at s3 e1;have ni:n-i=k+1:=()
  rw[ni]at hl;have aj:=s3 _ _ hl;refine⟨_,rfl,p1,l,rfl,⟨_,BV.l e1⟩,⟨_,BV.l aj⟩,λac ag=>?_⟩;have lf:(E3 u n (k+1)).length=n-(k+1):=by unfold E3;simp
  refine CP (Mh (xs:=((row.drop (k+1)).take (n-(k+1))).map V.int) (ys:=(E3 u n (k+1)).map V.int) (λH4 s=>BV.l (s _ _ e1)) (λH4 s=>BV.l (s _ _ aj)) (by simp[lf];lia)) (by simp;lia) ag
   (λj ys σ _=>ys=((Em row u n (k+1)).take j).map V.int/\∃v1 v2,σ=[v1,v2]) ⟨rfl,none,none,rfl⟩ ?_ ?_
  ·rintro j ys σ H4 z H5 hj s4 aa ⟨ae,v1,v2,rfl⟩ ⟨t,n1,n2,rfl,ht,rfl,ao,ah⟩ Cc hC;have ab:j<n-(k+1):=by simp at hj;lia
   have g1:n1=.int (row.getD (k+1+j) 0):=by
    rw[om,yw,oH ab,sX,og ()]at ao;rw[oj,og ()];exact(oV ao).symm
   have g2:n2=.int (u (k+1+j)):=by
    unfold E3 at ah;rw[om,om,qc ab]at ah;exact(oV ah).symm
   subst g1 g2;have J:=AW ht (.AF [.int (row.getD (k+1+j) 0),.int (u (k+1+j))]);exists t,_,rfl,AH.of AQ,rfl,_,_,rfl,_,_,rfl,rfl;refine⟨_,rfl,_,rfl,_,_,rfl,rfl,⟨OS br (),S.F1.2.1 _ ()⟩,?_⟩;refine hC _ _ _ J ⟨?_,_,_,rfl⟩;have e:(Em row u n (k+1))[j]?=some (row.getD (k+1+j) 0*u (k+1+j)):=by unfold Em;rw[om,qc ab];rfl
   rw[ae,Bc e,oU];rfl
  ·rintro ys σ H4 s4 aa ar ⟨ae,_⟩;have lp:(Em row u n (k+1)).length=n-(k+1):=by unfold Em;simp
   rw[oQ (by simp;lia)]at ae;rw[ae]at aa;exists ac,_,rfl,aa;have ad:=s3.trans s4;have bn:=aV (r:=row) S.VJ (by rw[<-af];exact S.CN k ()) (k:=k) () (by rw[<-af];exact(S.FT k ()).1) (by rw[<-af];exact(S.FT k ()).2);refine⟨_,rfl,_,rfl,b,_,_,_,rfl,rfl,AJ.of (ad _ _ ai),IY (),_,rfl,_,_,rfl,rfl,⟨OS br (),S.F1.2.2⟩,_,rfl,_,_,rfl,rfl,_,rfl,_,rfl,b,_,_,_,rfl,rfl,AJ.of (ad _ _ ai),IY (),_,_,rfl,rfl,
    ⟨by rw[<-af];exact(S.FT k ()).1,OS br ()⟩,by exact IL,λp2 ap=>?_⟩
   (try dsimp only)
   rw[bn];have J:=AW ap (.AE [.int (u k)]);refine⟨_,rfl,p2,l,_,_,rfl,rfl,AQ,J _ _ (s4 _ _ aj),by simp[lf];exact Et (),λp3 al=>?_⟩;have s6:=AW al (.AE ([V.int (u k)]++(E3 u n (k+1)).map V.int));have az:=O.trans (ad.trans (J.trans s6));exists az,p3,_,_,_,rfl,(O.trans (ad.trans J)).free al;unfold Bl;rw[AQ,show n-(i+1)=k by lia,bF (show k<n by lia)];rfl
 ·rintro σ H2 ⟨O,l,u4,u5,u6,rfl,nl,hl⟩;subst am;rw[vT]at hl;refine⟨_,rfl,l,rfl,⟨_,AJ.of hl⟩,λac ag=>?_⟩;have lf:(E3 u n 0).length=n:=by unfold E3;simp
  refine CP (Fc hl) (by rw[kb,lf];lia) ag (λj ys σ hp=>∃ds:List Addr,ys=ds.map V.ref/\At AO hp ds (((oN n).map x).take j)/\∃v,σ=[v,some (.int c)]) ⟨[],rfl,At.nil,none,rfl⟩ ?_ ?_
  ·rintro j ys σ H4 z H5 hj s4 aa ⟨ds,rfl,hD,v,rfl⟩ ⟨rfl,hx⟩ Cc hC;have ab:j<n:=by rw[kb,lf]at hj;exact hj
   have g1:z=.int (u j):=by
    unfold E3 at hx;rw[om,om,qc ()]at hx
    have:=(oV hx).symm
    rw[this];simp
   subst g1;refine⟨_,rfl,_,rfl,u j,c,rfl,S.F1.2.2,λz=>absurd z S.c0,λ_ p hp=>?_⟩;have ef:BR (u j) c=fr (x j):=by
    rw[F5 _ _ S.c0];have h1:=S.VJ j ab;have h2:((c:Int):Rat)≠0:=by have:=S.c0;exact_mod_cast this
    have:((u j:Int):Rat) / ((c:Int):Rat)=x j:=by rw[h1];grind
    rw[this];rfl
   rw[ef];have J:=AW hp (.AF [.int (fr (x j)).1,.int (fr (x j)).2]);refine hC _ _ _ J ⟨ds++[p],#v[],?_,_,rfl⟩;have e:((oN n).map x)[j]?=some (x j):=by rw[om,qc ab];rfl
   rw[Bc e];exact(hD.keep A9 (Df ac J)).snoc (AO.BO (q:=x j) AQ (J _ _ aa))
  ·rintro ys σ H4 s4 aa ar ⟨ds,rfl,hD,v,rfl⟩;rw[kb,lf,oQ #v[]]at hD;refine⟨ac,_,rfl,.inl ⟨AJ.of aa,λp hp=>?_⟩⟩;have J:=AW hp (.AF (ds.map V.ref));exact q p _ ((O.trans s4).trans J) ((O.trans s4).free hp) ⟨ds,AQ,(hD.keep A9 (DC H4 ac)).keep A9 J⟩
theorem Qf(h:As AO H b r)(e:H a=some (.AE ys)):As AO (BO H a) b r:=by
 obtain⟨cs,h1,h2⟩:=h;exact⟨cs,FA h1 (λz=>by rw[z,e]at h1;cases h1),Mt e h2⟩
def CK(T:List (List Rat))(r:List Rat):List (List Rat):=xO (λrow q=>row++[q]) T r
theorem iT{c:Int}(ok:TK n (n+1) d E' D J)(n0:0<n){Z:List (List Int×Ah)}(hb:((n+1)*B0) ^ n<2 ^ 8968)(B:Bi B0 n (n+1) n ((Dy J).map vr) T2 Z c v):
  ∃x u,W6 B0 n T2 c x u/\(∀r∈J,fx n x (vq r)=0)/\dt n (n+1) J≠0:=by
 obtain⟨rfl,eD⟩:=B.fin;have lT:=B.GS;have ad:∀i,i<n->T2.getD i []∈T2:=λi hi=>by
  rw[oj,og ()];exact qd _
 obtain⟨x,hx⟩:=dU (n:=n) (λi=>vr (T2.getD i [])) (λi hi=>by
   have:=(B.FT i hi).1
   show((((T2.getD i []).getD i 0:Int)):Rat)≠0
   exact_mod_cast this) (λi j hi O=>by
   show((((T2.getD i []).getD j 0:Int)):Rat)=0;rw[(B.FT i hi).2 j O];rfl) n (oz _)
 have aa:∀i,i<n->fx n x (vr (T2.getD i []))=0:=λi hi=>hx i () hi
 have hA:∀a∈(Dy J).map vr,fx n x a=0:=B.KC (fx n x) (U3 n x) (λr F=>by
  obtain⟨i,hi,er⟩:=qV F
  have:=aa i ()
  rw[oj,og hi]at this;simp only[zp]at this;rw[er]at this;exact this) #v[]
 have pz:((c:Int):Rat)≠0:=by have:=B.pz;exact_mod_cast this
 have wv:v=Aa ((Dy J).map vr) Aj:=B.all;have ex:∀j:Nat,∃k:Int,j<n->((k:Int):Rat)=c*x j/\BJ k:=by
  intro j;by_cases O:j<n
  ·obtain⟨l1,l2,l3⟩:=U5 hA O;rw[eD,<-wv]at l3;obtain⟨k,hk⟩:=B.Hl (KW n j);have bw:=B.IF (KW n j);rw[l1,hk]at bw;have ab:k.natAbs<=((n+1)*B0) ^ n:=GA bw;rcases l2 with h1|h1
   ·refine⟨k,λ_=>⟨?_,rD ab hb⟩⟩;rw[<-hk];rw[h1]at l3;grind
   ·refine⟨-k,λ_=>⟨?_,by unfold BJ;rw[ya];exact rD ab hb⟩⟩;rw[vK,<-hk];rw[h1]at l3;grind
  ·exact⟨0,λh=>absurd h O⟩
 obtain⟨u,hu⟩:=Classical.axiomOfChoice ex;have ac:∀r∈T2,∀y∈r,BJ y:=λr F y hy=>by
  obtain⟨j,rfl⟩:=Wd.mem_getD hy;exact rD (GA (B.JN r F j)) hb
 exists x,u,⟨n0,lT,B.Iw,B.pz,B.Hv n0,B.FT,aa,λj O=>(hu j O).1,ac,λj O=>(hu j O).2,Vn B hb⟩,?_
 ·intro r F;obtain⟨c1,c2,_⟩:=ok.F2 F;have h1:=hA (vr (r.map (wh (cb r)))) (vm (oI.mpr ⟨r,F,G⟩));rw[Ph c2]at h1;exact(Sr (by exact_mod_cast (show cb r≠0 by lia))).mp h1
 ·intro z;have sc:=OF (n:=n) (m:=n+1) J cb (λr F=>(ok.F2 F).2.1);rw[z]at sc;have e2:ld n (n+1) (Aa ((Dy J).map vr) Aj)=c:=eD
  have:((c:Int):Rat)=0:=by rw[<-e2];unfold Dy;rw[sc];grind
  exact pz this
inductive RN(C2:Addr)(vs:List V)(H:Hp)(Q:VK)(E:XK):Prop
 |mk (a b:Addr) (T:List (List Rat)) (r:List Rat) (n d F D:Nat) (ad:vs=[.ref a,.ref b]) (ag:As (As AO) H a T) (aa:As AO H b r) (ae:T.length=n) (O:r.length=n) (af:(∀x∈T,x.length=n)) (J:TK n (n+1) d F D (CK T r)) (ab:(dt n (n+1) (CK T r)=0->∀H',AK H H'->False)) (ac:(dt n (n+1) (CK T r)≠0->∀p H' x,AK H H'->(∀y∈CK T r,fx n x (vq y)=0)->As AO H' p ((oN n).map x)->Q (.ref p) H')):RN C2 vs H Q E
def R9(C2:Addr):Sp:=λvs H Q E=>RN C2 vs H Q E
theorem QJ:An ["table","right","joined","rows"] ["table","right"] (Ac sAnswer):=Aw
theorem V8:(["row","number"]:List Str).Nodup:=by decide +kernel
theorem Y0 (F:Fun K "answer" "answer" sAnswer f fd)(G1:AX P w K mg base 2 "common_bottom" ["row"] QV)
  (G2:AX P w K mg base 1 "wholes" ["row","bottom"] Kp)
  (G3:AX P w K mg base 2 "swept" ["rows"] TR)
  (G4:AX P w K mg base 3 "found_back" ["rows"] VF)
  (ml:mg "len" = none)(mz:mg "zip" = none):Ai P w K mg base Ae 4 f fd ["table","right"] (R9 C2):=by
 refine F.Ax QJ λim A a4 s H vs Q E O h=>?_
 obtain⟨a,b,T,r,n,d,E',D,rfl,⟨bs,ha,hA⟩,⟨cs,hb,hB⟩,lT,lr,cT,J,q0,q1⟩:=h;exists _,AM (BU (BF Dv (CA Kx (by rfl) ml Gh (AA (pv 0) AD)) AB) (AR (Al (BB AD))) Bg)
  (AM (Ga (i:=2) QJ.nd rfl (qL rfl) (Nc:=["row","number"]) (cap:=[]) (g:=Hm [] 2 (Fj (BH 0) (Fj (BH 1) KG))) (te:=BK (VT K) (Ag 0) (JB (A7 (Ag 1) Ba))) rfl (Kw (t1:=true) (t2:=true) (by rfl) mz (AA (pv 0) (AA (pv 1) AD)))
   CD (λ_ _ _ _ _=>CZ rfl (Av (Bj (i:=0) V8 rfl (qL rfl)) (Av (Bj (i:=1) V8 rfl (qL rfl)) CV)))
   (λ_ _ _ _ _=>AN Oq (pv 0) (BB (AA (pv 1) AD))))
  (AM (AU 3 QJ (AS G3 (AA (DN (Nc:=["row"]) (cap:=[]) (g:=BH 0) (te:=DO Kp [] E0 (A7 (Ag 0) (A7 (DO QV [] E0 (A7 (Ag 0) Ba)) Ba))) rfl (DV (pv 2))
   CD (λ_ _ _ _ _=>Bj (i:=0) mO rfl (qL rfl))
   (λ_ _ _ _ _=>AS G2 (AA (pv 0) (AA (AS G1 (AA (pv 0) AD)) AD)))) AD)))
  (AM (BU (BF U8 (pv 3) Ie) (AR SG) Bg)
  (AR (Al (AS G4 (AA (pv 3) AD)))))))
 have lb:bs.length=n:=by rw[hA.1];exact lT
 have lc:cs.length=n:=by rw[hB.1];exact lr
 have az:=J.XM;exists _,G,a,_,G,.inr (AH.of ha),G,_,rfl;by_cases av:n=0
 ·subst av;refine By (iv (by rw[kb,lb];rfl)) ?_;have e1:T=[]:=r9.mp lT;subst e1;refine⟨by exact Fx,λp hp=>q1 ?_ p _ (λ_=>0) (AW hp _) (by simp[CK]) ⟨[],AQ,At.nil⟩⟩
  have:dt 0 1 (CK [] r)=1:=by unfold dt CK;exact PK 1
  rw[this];grind
 refine Be (E7 (by rw[kb,lb];lia)) ?_;have lJ:(CK T r).length=n:=J.len;have jg:∀i row q,T[i]?=some row->r[i]?=some q->(CK T r)[i]?=some (row++[q]):=λi row q h1 h2=>by
  unfold CK;rw[vQ,h1,h2]
 refine⟨_,G,_,G,a,b,G,⟨_,BV.t ha⟩,⟨_,BV.t hb⟩,λae ak=>?_⟩;refine CP (Mh (xs:=bs.map V.ref) (ys:=cs.map V.ref) (λH3 s=>BV.t (s _ _ ha)) (λH3 s=>BV.t (s _ _ hb)) (by rw[kb,kb];lia)) (by rw[kb];lia) ak
  (λi ys σ hp=>∃ds:List Addr,ys=ds.map V.ref/\At (As AO) hp ds ((CK T r).take i)/\∃u v,σ=[u,v]) ⟨[],G,At.nil,none,none,G⟩ ?_ ?_
 ·rintro i ys σ H3 z H4 hi sm aw ⟨ds,rfl,hD,u,v,rfl⟩ ⟨t,n1,n2,rfl,ht,rfl,ay,al⟩ Cc hC;obtain⟨c1,row,rfl,_,ab,es,ap,ah⟩:=hA.ref ay;obtain⟨c2,qq,rfl,_,ar,aj⟩:=hB.ref al;have s3:AK H3 (AG H3 t (.AF [.ref c1,.ref c2])):=AW ht _;have rl:row.length=n:=cT row (oi ab);have a1:es.length=n:=by rw[ah.1];exact rl
  exists t,_,G,AH.of AQ,G,_,_,G,_,_,G,rfl;refine⟨_,G,_,G,by exact IL,λt1 am=>?_⟩;have s4:=AW am (.AF [.ref c2]);have ai:=s3.trans s4;refine⟨c1,t1,es.map V.ref,[.ref c2],G,G,AH.of (ai _ _ (sm _ _ ap)),AH.of AQ,?_,by simp;exact Et (),λz=>by simp at z,λ_ p hp=>?_⟩
  ·intro z;have z2:=congrArg uf z;simp only[kb,rV]at z2
   lia
  have s5:=AW hp (.AF (es.map V.ref++[.ref c2]));have aa:=ai.trans s5;refine hC _ _ _ aa ⟨ds++[p],#v[],?_,_,_,G⟩;rw[Bc (jg i row qq ab ar)];refine(hD.keep EB (Df ae aa)).snoc (Qf ⟨es++[c2],by rw[AQ];simp,?_⟩ (aa _ _ aw));exact(ah.keep A9 (sm.trans aa)).snoc ((sm.trans aa) _ _ aj)
 rintro ys σ1 H2 s2 ag a0 ⟨ds,rfl,hD,u,v,rfl⟩;rw[kb,lb,oQ ()]at hD;have ax:=hD.keep EB (DC H2 ae);have ao:ds.length=n:=by rw[hD.1];exact lJ
 refine⟨_,G,ae,G,⟨_,AJ.of ag⟩,λac aq=>?_⟩;refine CP (Fc ag) (by rw[kb];lia) aq (λi ys σ hp=>∃gs:List Addr,ys=gs.map V.ref/\At Bl hp gs ((Dy (CK T r)).take i)/\∃u,σ=[u]) ⟨[],G,At.nil,none,G⟩ ?_ ?_
 ·rintro i ys σ H3 z H4 hi sm ad ⟨gs,rfl,hG,u,rfl⟩ ⟨rfl,hx⟩ Cc hC;obtain⟨c,row,rfl,_,ab,hR⟩:=ax.ref hx;have rm:row∈CK T r:=oi ab;have af:=EB sm hR
  have:=J.bd
  refine⟨_,G,_,G,c,row,d,G,af,λq hq=>J.den row rm q hq,by rw[J.col row rm];lia,?_⟩;refine⟨c,row,cb row,G,af,by rw[J.col row rm];lia,J.wb rm,λp H5 s5 np hp=>?_⟩;refine hC _ _ _ s5 ⟨gs++[p],#v[],?_,_,G⟩;have ne:p≠ac:=λz=>by rw[z,ad]at np;cases np
  have e3:(Dy (CK T r))[i]?=some (row.map (wh (cb row))):=by unfold Dy;rw[om,ab];rfl
  rw[Bc e3];exact(hG.keep Dp (Df ac s5)).snoc (FA hp ne)
 rintro ys σ2 H3 s3 ad a3 ⟨gs,rfl,hG,u,rfl⟩;have lw:(Dy (CK T r)).length=n:=by unfold Dy;rw[kb];exact lJ
 rw[kb,ao,oQ ()]at hG;exists ac,Dy (CK T r),n,n+1,2 ^ E',G,⟨gs,ad,hG.keep Dp (DC H3 ac)⟩,lw,(),(),λr O=>(J.Qk r O).1,abB,λr O=>(J.Qk r O).2,J.F1,?_
 ·intro H4 s4 h0;refine⟨_,G,G,_,G,By rfl ?_⟩;refine q0 ?_ H4 (s2.trans (s3.trans s4));have sc:=OF (n:=n) (m:=n+1) (CK T r) cb (λr O=>(J.F2 O).2.1);obtain⟨pp,pl⟩:=SV ((CK T r).map cb) (d:=D) (λb hb=>by
   obtain⟨r,O,rfl⟩:=oI.mp hb;exact⟨(J.F2 O).1,(J.F2 O).2.2⟩)
  have pq:((El ((CK T r).map cb):Int):Rat)≠0:=by
   have:El ((CK T r).map cb)≠0:=()
   exact_mod_cast this
  have h1:((El ((CK T r).map cb):Int):Rat)*dt n (n+1) (CK T r)=0:=by rw[<-sc];exact h0
  grind
 ·intro p H4 T2 s4 hL ⟨Z,c,v,B⟩;refine⟨_,G,G,_,G,Be (λz=>by cases z) ?_⟩;obtain⟨x,u,S,hx,hd⟩:=iT J () J.F1 B;exact⟨_,G,p,_,n,T2,c,x,u,G,hL,(),S,λp5 H5 s5 a2 au=>q1 hd p5 H5 x (s2.trans (s3.trans (s4.trans s5))) hx au⟩
abbrev P6(H:Hp)(Q:VK)(q:Rat):Prop:=∀p,H p=none->Q (.ref p) (AG H p (.AF [.int q.num,.int q.den]))
abbrev Sf(q:Rat):Prop:=Sb 4480 4480 q
theorem Sf.n(h:Sf q):BJ q.num:=DY h.1 ∅
theorem Sf.d(h:Sf q):BJ (q.den:Int):=DY (n:=4480) (by simpa using h.2) ∅
theorem Sf.dd(h:Sf p)(g:Sf q):BJ ((p.den:Int)*(q.den:Int)):=by
 refine DY (n:=8960) ?_ ∅;rw[pP,pO,pO];exact C4 h.2 g.2
inductive C1(op:Rat->Rat->Rat)(vs:List V)(H:Hp)(Q:VK)(_:XK):Prop
 |mk (p q:Addr) (x y:Rat) (O:vs=[.ref p,.ref q]) (J:AO H p x) (F:AO H q y) (aa:Sf x) (ab:Sf y) (ac:P6 H Q (op x y))
theorem jz:An ["one","other"] ["one","other"] (Ac sPlus):=Aw
theorem cU(F:Fun K "plus" "plus" sPlus f fd)(G:AX P w K mg base 2 "fraction" ["top","bottom"] (Ig C)):
  Ai P w K mg base Ae 3 f fd ["one","other"] (C1 λx y=>x+y):=by
 refine F.Ax jz λim A aa s H vs Q E hr h=>?_
 obtain⟨p,q,x,y,rfl,hp,hq,O,J,k⟩:=h;exists _,AR (Al (AS G (AA (AN BM (AN DM (A3 Bh (pv 0) AB) (A3 Bh (pv 1) AB)) (AN DM (A3 Bh (pv 1) AB) (A3 Bh (pv 0) AB))) (AA (AN DM (A3 Bh (pv 0) AB) (A3 Bh (pv 1) AB)) AD))));refine⟨_,rfl,p,_,_,_,rfl,rfl,AH.of hp,BG,_,rfl,q,_,_,_,rfl,rfl,AH.of hq,Az,_,_,rfl,rfl,⟨O.n,J.d⟩,_,rfl,q,_,_,_,rfl,rfl,AH.of hq,BG,_,rfl,p,_,_,_,rfl,rfl,AH.of hp,Az,_,_,rfl,rfl,⟨J.n,O.d⟩,_,_,rfl,rfl,
  _,rfl,p,_,_,_,rfl,rfl,AH.of hp,Az,_,rfl,q,_,_,_,rfl,rfl,AH.of hq,Az,_,_,rfl,rfl,⟨O.d,J.d⟩,_,_,rfl,Sf.dd O J,λz=>absurd z (Kd x y),λ_ t ht=>?_⟩
 have e:=UU x y;have q1:=k t ht;have e1:=congrArg ye e;have e2:=congrArg aaZ e;simp only[fr]at e1 e2;rw[e1,e2];exact q1
theorem j6:An ["one","other"] ["one","other"] (Ac sMinus):=Aw
theorem cQ(F:Fun K "minus" "minus" sMinus f fd)(G:AX P w K mg base 2 "fraction" ["top","bottom"] (Ig C)):
  Ai P w K mg base Ae 3 f fd ["one","other"] (C1 λx y=>x-y):=by
 refine F.Ax j6 λim A aa s H vs Q E hr h=>?_
 obtain⟨p,q,x,y,rfl,hp,hq,O,J,k⟩:=h;exists _,AR (Al (AS G (AA (AN CB (AN DM (A3 Bh (pv 0) AB) (A3 Bh (pv 1) AB)) (AN DM (A3 Bh (pv 1) AB) (A3 Bh (pv 0) AB))) (AA (AN DM (A3 Bh (pv 0) AB) (A3 Bh (pv 1) AB)) AD))));refine⟨_,rfl,p,_,_,_,rfl,rfl,AH.of hp,BG,_,rfl,q,_,_,_,rfl,rfl,AH.of hq,Az,_,_,rfl,rfl,⟨O.n,J.d⟩,_,rfl,q,_,_,_,rfl,rfl,AH.of hq,BG,_,rfl,p,_,_,_,rfl,rfl,AH.of hp,Az,_,_,rfl,rfl,⟨J.n,O.d⟩,_,_,rfl,rfl,
  _,rfl,p,_,_,_,rfl,rfl,AH.of hp,Az,_,rfl,q,_,_,_,rfl,rfl,AH.of hq,Az,_,_,rfl,rfl,⟨O.d,J.d⟩,_,_,rfl,Sf.dd O J,λz=>absurd z (Kd x y),λ_ t ht=>?_⟩
 have e:=U7 x y;have q1:=k t ht;have e1:=congrArg ye e;have e2:=congrArg aaZ e;simp only[fr]at e1 e2;rw[e1,e2];exact q1
theorem lK:An ["one","other"] ["one","other"] (Ac sTimes):=Aw
theorem Zy(F:Fun K "times" "times" sTimes f fd)(G:AX P w K mg base 2 "fraction" ["top","bottom"] (Ig C)):
  Ai P w K mg base Ae 3 f fd ["one","other"] (C1 λx y=>x*y):=by
 refine F.Ax lK λim A aa s H vs Q E hr h=>?_
 obtain⟨p,q,x,y,rfl,hp,hq,O,J,k⟩:=h;exists _,AR (Al (AS G (AA (AN DM (A3 Bh (pv 0) AB) (A3 Bh (pv 1) AB)) (AA (AN DM (A3 Bh (pv 0) AB) (A3 Bh (pv 1) AB)) AD))));refine⟨_,rfl,p,_,_,_,rfl,rfl,AH.of hp,BG,_,rfl,q,_,_,_,rfl,rfl,AH.of hq,BG,_,_,rfl,rfl,⟨O.n,J.n⟩,
  _,rfl,p,_,_,_,rfl,rfl,AH.of hp,Az,_,rfl,q,_,_,_,rfl,rfl,AH.of hq,Az,_,_,rfl,rfl,⟨O.d,J.d⟩,_,_,rfl,Sf.dd O J,λz=>absurd z (Kd x y),λ_ t ht=>?_⟩
 have e:=Us x y;have q1:=k t ht;have e1:=congrArg ye e;have e2:=congrArg aaZ e;simp only[fr]at e1 e2;rw[e1,e2];exact q1
abbrev LF:Hp->Addr->List Rat->Prop:=BC AO
theorem NL:Mo LF:=λs h=>Ij (R:=AO) (λs h=>A9 s h) s h
theorem Ui(h:LF H b r)(n:b≠a)(e:H a=some (.AE ys)):LF (BO H a) b r:=by
 obtain⟨cs,h1,h2⟩:=h;exact⟨cs,FA h1 n,Mt e h2⟩
theorem PV(h:At AO H bs qs)(e:H a=some (.AE ys))(o:HO):At AO (AG H a o) bs qs:=(Mt e h).keep A9 (NC H a o)
def GD(H:Hp)(b:Addr)(r:Ap):Prop:=∃e,H b=some (.AF [.int (r.1:Int),.int (r.2.1:Int),.ref e])/\AO H e r.2.2
theorem IX:Mo GD:=λs ⟨e,h1,h2⟩=>⟨e,s _ _ h1,s _ _ h2⟩
def Iz(H:Hp)(a:Addr)(n:Nat)(rs:List Ap):Prop:=∃(r:Addr) (t:V),H a=some (.AF [.int (n:Int),.ref r,t])/\As GD H r rs
theorem UC(s:AK H H')(h:Iz H a n rs):Iz H' a n rs:=by
 obtain⟨r,t,h1,h2⟩:=h;exact⟨r,t,s _ _ h1,Cq (R:=GD) (λs h=>IX s h) s h2⟩
structure FY(H:Hp)(R:Addr)(bs:List Addr)(T:List (List Rat)):Prop where
 h1:H R=some (.AE (bs.map V.ref))
 rows:At LF H bs T
 nd:(R :: bs).Nodup
theorem FY.keep(M:FY H R bs T)(s:AK H H'):FY H' R bs T:=⟨s _ _ M.h1,M.rows.keep NL s,M.nd⟩
theorem Vq{l:List Addr}(h:l.Nodup)(h1:l[i]?=some b)(h2:l[j]?=some b):i=j:=by
 obtain⟨O,e1⟩:=oh.mp h1;obtain⟨F,J⟩:=oh.mp h2;have hp:=qg.mp h;rcases vN i j with z|z|z
 ·exact absurd (e1.trans J.symm) (hp i j O F z)
 ·exact z
 ·exact absurd (J.trans e1.symm) (hp j i F O z)
theorem FY.put{R b p:Addr}(M:FY H R bs T)(J:bs[i]?=some b)(hc:H b=some (.AE (cs.map V.ref)))(hr:At AO H cs (T.getD i []))(hp:AO H p v):
  FY (AG H b (.AE ((cs.map V.ref).set j (.ref p)))) R bs (DH T i j v):=by
 have bm:b∈bs:=oi J;obtain⟨n1,n2⟩:=qt.mp M.nd;have e1:R≠b:=λz=>n1 (by rw[z];exact bm)
 refine⟨by rw[AV e1];exact M.h1,⟨by unfold DH;rw[vH];exact M.rows.1,λk c x O F=>?_⟩,M.nd⟩;unfold DH at F;by_cases hk:i=k
 ·subst hk;rw[J]at O;cases O;have hl:i<T.length:=by rw[<-M.rows.1];exact(oh.mp J).1
  rw[sJ hl]at F;cases F;refine⟨cs.set j p,by rw[AQ,abu],PV (hr.set j hp) hc _⟩
 ·rw[tG hk]at F;have ne:c≠b:=λz=>hk (Vq n2 J (by rw[O,z]))
  exact NL (NC H b _) (Ui (M.rows.2 k c x O F) ne hc)
theorem FY.get(M:FY H R bs T)(q:Sq n T)(hi:i<n)(hj:j<n):∃b cs c,bs[i]?=some b/\H b=some (.AE (cs.map V.ref))/\At AO H cs (T.getD i [])/\cs[j]?=some c/\AO H c (en T i j)/\cs.length=n:=by
 obtain⟨l,e⟩:=q.row hi;obtain⟨b,J,cs,h1,h2⟩:=M.rows.get e;have F:(T.getD i [])[j]?=some ((T.getD i [])[j]'()):=og _;obtain⟨c,O,h4⟩:=h2.get F;refine⟨b,cs,c,J,h1,h2,O,?_,by rw[h2.1];exact l⟩
 have:en T i j=(T.getD i [])[j]'():=by unfold en;rw[oj,F];rfl
 rw[this];exact h4
theorem dH(n:Nat)(t:Addr):(oE n [V.ref t]).flatten=(oE n t).map V.ref:=by
 induction n with
 |zero=>rfl
 |succ n ih=>rw[qo,ql,ih,qo];rfl
theorem Mr {D:Dx}(O:σ[1]?=some (some (.ref R)))(J:σ[a]?=some (some (.int (i:Int))))(hb:σ[b]?=some (some (.int (j:Int))))(he:σ[4]?=some (some (.ref e)))
  (M:FY H R bs T)(sq:Sq n T)(hi:i<n)(hj:j<n)(fe:AO H e q)(s1:Sf (en T i j))(s2:Sf q)(sm:AK H0 H)(fr:∀b∈bs,H0 b=none)
  (k:∀H',AK H0 H'->FY H' R bs (DH T i j (op (en T i j) q))->AO H' e q->D.nx σ H') :
  JC (DO (C1 op) [] E0 (A7 (BK (Er []) (BK (Er []) (Ag 1) (Ag a)) (Ag b)) (A7 (Ag 4) Ba))) (Wj (BK (Er []) (Ag 1) (Ag a)) (Ag b) VX) D σ H:=by
 obtain⟨b1,cs,c,h1,h2,h3,h4,h5,h6⟩:=M.get sq hi hj;refine⟨_,O,_,J,R,_,_,_,G,G,AJ.of M.h1,BE (Cg h1),_,hb,b1,_,_,_,G,G,AJ.of h2,BE (Cg h4),_,he,c,e,_,_,G,h5,fe,s1,s2,λp hp=>?_⟩;have F:=AW hp (.AF [.int (op (en T i j) q).num,.int (op (en T i j) q).den]);refine⟨_,O,_,J,R,_,_,_,G,G,AJ.of (F _ _ M.h1),BE (Cg h1),_,hb,b1,_,_,_,G,G,F _ _ h2,Od (by rw[kb];lia),?_⟩;have bn:H0 b1=none:=fr b1 (oi h1);refine k _ (F8 (sm.trans F) bn _) ((M.keep F).put h1 (F _ _ h2) (h3.keep A9 F) AQ) ?_;exact A9 (NC _ b1 _) (AO.BO (F _ _ fe) (F _ _ h2))
inductive VG(vs:List V)(H:Hp)(Q:VK)(_:XK):Prop
 |mk (a:Addr) (n α β:Nat) (rs:List Ap) (ab:vs=[.ref a]) (ae:Iz H a n rs) (O:n<=100) (ac:rs.length<=100) (J:(∀r∈rs,r.1<n/\r.2.1<n/\Sb α β r.2.2)) (ad:α+(β+1)*rs.length<=3900) (F:β*rs.length<=3900) (aa:∀p H',AK H H'->As (As AO) H' p (Bo n rs)->Q (.ref p) H')
theorem LP:An ["net","rows","one","other","ease"] ["net"] (Ac sEaseTable):=Aw
theorem m7:(["place","net"]:List Str).Nodup:=by decide +kernel
theorem Pf:(["row"]:List Str).Nodup:=by decide +kernel
def VI(K:ow):List V->Hp->VK->Prop:=λxs H Q=>∃p ys,xs=[.ref p]/\((AJ K H p ys/\∀l,H l=none->Q (.ref l) (AG H l (.AF ys)))\/(AH K H p ys/\Q (.ref p) H))
theorem We(h:As AO H b r)(e:H a=some (.AE ys)):As AO (BO H a) b r:=by
 obtain⟨cs,h1,h2⟩:=h;exact⟨cs,FA h1 (λz=>by rw[z,e]at h1;cases h1),Mt e h2⟩
theorem Gg:Mo (As AO):=λs h=>Cq (R:=AO) (λs h=>A9 s h) s h
theorem fQ(h:Sb α β r.2.2)(i j:Nat):DG r i j=0\/DG r i j=r.2.2\/DG r i j=-r.2.2:=by
 unfold DG;by_cases e:r.1=r.2.1
 ·rw[oH e];exact .inl rfl
 ·rw[oC e];by_cases a:i=r.1/\j=r.1
  ·have b:¬(i=r.2.1/\j=r.2.1):=λz=>e (a.1.symm.trans z.1)
   have c:¬(i=r.1/\j=r.2.1):=λz=>e (a.2.symm.trans z.2)
   have d:¬(i=r.2.1/\j=r.1):=λz=>e (a.1.symm.trans z.1)
   rw[oH a,oC b,oC c,oC d];right;left;grind
  ·rw[oC a];by_cases b:i=r.2.1/\j=r.2.1
   ·have c:¬(i=r.1/\j=r.2.1):=λz=>e (z.1.symm.trans b.1)
    have d:¬(i=r.2.1/\j=r.1):=λz=>e (z.2.symm.trans b.2)
    rw[oH b,oC c,oC d];right;left;grind
   ·rw[oC b];by_cases c:i=r.1/\j=r.2.1
    ·have d:¬(i=r.2.1/\j=r.1):=λz=>e (c.1.symm.trans z.1)
     rw[oH c,oC d];right;right;grind
    ·rw[oC c];by_cases d:i=r.2.1/\j=r.1
     ·rw[oH d];right;right;grind
     ·rw[oC d];left;grind
def GY(n α β k:Nat)(T:List (List Rat)):Prop:=Sq n T/\∀i j,Sb (α+(β+1)*k) (β*k) (en T i j)
theorem GY.zero(n α β:Nat):GY n α β 0 (EO n):=⟨T5 n,λi j=>by rw[UB];exact Sb.zero.mono (o9 _) (o9 _)⟩
theorem GY.Aj(h:GY n α β k T)(F:Sb α β q)(i j:Nat):Sb (α+(β+1)*(k+1)) (β*(k+1)) (en T i j+q)/\Sb (α+(β+1)*(k+1)) (β*(k+1)) (en T i j-q):=by
 have J:β*k<=(β+1)*k:=v9 _ ();constructor
 ·have:=(h.2 i j).Dc F (N:=α+(β+1)*k+β) () ()
  exact this.mono (by rw[su];lia) (by rw[su];lia)
 ·have:=(h.2 i j).sub F (N:=α+(β+1)*k+β) () ()
  exact this.mono (by rw[su];lia) (by rw[su];lia)
theorem GY.step(h:GY n α β k T)(h1:r.1<n)(h2:r.2.1<n)(F:Sb α β r.2.2):GY n α β (k+1) (Cf T r):=by
 obtain⟨a,b⟩:=RE h.1 h1 h2;refine⟨a,λi j=>?_⟩;rw[b];have o:=h.Aj F i j;rcases fQ F i j with e|e|e
 ·rw[e,zw];exact(h.2 i j).mono (by rw[su];lia) (by rw[su];lia)
 ·rw[e];exact o.1
 ·rw[e,<-Rat.sub_eq_add_neg];exact o.2
theorem eZ(F:Fun K "ease_table" "ease_table" sEaseTable f fd)(G1:AX P w K mg base 3 "plus" ["one","other"] (C1 λx y=>x+y))(G2:AX P w K mg base 3 "minus" ["one","other"] (C1 λx y=>x-y))(mr:mg "range" = none)(mt:mg "tuple" = none):
  Ai P w K mg base Ae 4 f fd ["net"] VG:=by
 refine F.Ax LP λim A be s H vs Q E hr h=>?_
 obtain⟨a,n,α,β,rs,rfl,⟨ra,tv,ha,bs,ao,ak⟩,hn,hm,az,z1,z2,q⟩:=h;exists _,AM (Ga (i:=1) LP.nd rfl (qL rfl) (Nc:=["place","net"]) (cap:=[(1,0)]) (g:=BH 0) (te:=BK WM (LV (A7 (JB (A7 (tC (.int 0)) (A7 (tC (.int 1)) Ba))) Ba)) (BK (EX []) (Ag 1) (tC (.int 0)))) rfl (F4 (by rfl) mr (AA (A3 Bh (pv 0) AB) AD))
   CD
   (λ_ _ _ _ _=>Bj (i:=0) m7 rfl (qL rfl)) (λ_ _ _ _ _=>AN iH (CJ (AA (BB (AA AB (AA AB AD))) AD)) (A3 Bh (pv 1) AB)))
  (AM (Bk oX rfl (Ds (A3 Bh (pv 0) AB)) (CZ rfl (Av (Ak 2 LP) (Av (Ak 3 LP) (Av (Ak 4 LP) CV))))
   (AR (BU (BF GF (pv 2) (pv 3))
    (AM (D8 (AS G1 (AA (A3 CH (A3 CH (pv 1) (pv 2)) (pv 2)) (AA (pv 4) AD))) (Ik (A3 CH (pv 1) (pv 2)) (pv 2) IS))
    (AM (D8 (AS G1 (AA (A3 CH (A3 CH (pv 1) (pv 3)) (pv 3)) (AA (pv 4) AD))) (Ik (A3 CH (pv 1) (pv 3)) (pv 3) IS))
    (AM (D8 (AS G2 (AA (A3 CH (A3 CH (pv 1) (pv 2)) (pv 3)) (AA (pv 4) AD))) (Ik (A3 CH (pv 1) (pv 2)) (pv 3) IS))
    (AR (D8 (AS G2 (AA (A3 CH (A3 CH (pv 1) (pv 3)) (pv 2)) (AA (pv 4) AD))) (Ik (A3 CH (pv 1) (pv 3)) (pv 2) IS)))))) Bg)))
  (AR (Al (D5 E9 (by rfl) mt Dm (AA (DN (Nc:=["row"]) (cap:=[]) (g:=BH 0) (te:=JK (VI []) (A7 (Ag 0) Ba)) rfl (DV (pv 1))
   CD (λ_ _ _ _ _=>Bj (i:=0) Pf rfl (qL rfl)) (λ_ _ _ _ _=>D5 E9 (by rfl) mt Dm (AA (pv 0) AD))) AD)))))
 have al:∀x y z:V,BY [x,y,z] 0=some x:=λx y z=>BE (j:=0) rfl
 have ar:∀x y z:V,BY [x,y,z] 1=some y:=λx y z=>BE (j:=1) rfl
 refine⟨_,G,a,_,_,_,G,G,AH.of ha,al _ _ _,((n:Nat):Int),G,(),(),λaa aq=>?_⟩;rw[show((n:Nat):Int).toNat=n by lia];refine CP Rf () aq (λi ys σ J=>∃ds:List Addr,ys=ds.map V.ref/\At LF J ds (oE i (oE n 0))/\ds.Nodup/\(∀d∈ds,H d=none)/\∃u,σ=[u,some (.ref a)]) ⟨[],G,At.nil,#v[],#v[],none,G⟩ ?_ ?_
 ·rintro i ys σ H2 x H3 hi sm ae ⟨ds,rfl,hD,nd,fr,u,rfl⟩ ⟨rfl,rfl⟩ Cc hC;refine⟨by exact CI,λt ht=>⟨by exact IL,λl hl=>?_⟩⟩;obtain⟨H4,zg,s1,zz⟩:=nw ht (.AF [.int 0,.int 1]);rw[zg]at hl ⊢;have e1:AO H4 t 0:=zz;refine BS hl (.AE [.ref t]) λH5 s2 e2=>?_
  have ab:=s1.trans s2;refine⟨_,G,a,_,_,_,G,G,AH.of (ab _ _ (sm _ _ ha)),al _ _ _,l,((n:Nat):Int),[.ref t],G,G,e2,(),(),by simp;exact Et (),λp J=>?_⟩;rw[show((n:Nat):Int).toNat=n by lia];rw[dH];have O:=AW J (.AE ((oE n t).map V.ref));have aj:=ab.trans O;have av:p≠aa:=λz=>by rw[z,ab _ _ ae]at J;cases J
  have pf:H p=none:=(sm.trans ab).free J;refine hC _ _ _ aj ⟨ds++[p],#v[],?_,?_,?_,_,G⟩
  ·rw[uN];refine(hD.keep NL (Df aa aj)).snoc (Ui ⟨oE n t,AQ,⟨#v[],λk c y e3 e4=>?_⟩⟩ av (aj _ _ ae));rw[tK]at e3 e4;split at e3
   ·rename_i hk
    rw[oH hk]at e4;cases e3;cases e4;exact A9 (s2.trans O) e1
   ·cases e3
  ·rw[qD];refine⟨nd,#v[],λx hx y hy z=>?_⟩;rw[pH]at hy;subst hy;subst z;obtain⟨k,hk,ek⟩:=qV hx;have ac:k<(oE i (oE n (0:Rat))).length:=by rw[<-hD.1];exact hk
   obtain⟨cs,h1,_⟩:=hD.2 k x _ (by rw[og hk,ek]) (og ac)
   have:=ab _ _ (DC _ _ _ _ h1)
   rw[this]at J;cases J
  ·intro d a5;rcases oM.mp a5 with h'|h'
   ·exact fr d h'
   ·rw[pH]at h';rw[h'];exact pf
 rintro ys σ1 H2 s2 ae ac ⟨ds,rfl,hD,nd,fr,u,rfl⟩;have M0:FY H2 aa ds (EO n):=by
  refine⟨ae,hD.keep NL (DC H2 aa),qt.mpr ⟨λz=>?_,nd⟩⟩;obtain⟨k,hk,ek⟩:=qV z;have ac:k<(oE n (oE n (0:Rat))).length:=by rw[<-hD.1];exact hk
  obtain⟨cs,h1,_⟩:=hD.2 k aa _ (by rw[og hk,ek]) (og ac);rw[IV]at h1;cases h1
 have ad:∀b∈ds,H b=none:=fr
 try dsimp only
 try refine JX ?_
 first|refine Jf λa0 am=>?_|refine nx_hide λa0 am=>?_
 exists _,G,a,_,_,_,G,G,AH.of (s2 _ _ ha),ar _ _ _,ra,G,⟨_,AH.of (s2 _ _ ao)⟩;refine Ji (xs:=bs.map V.ref) (λk σ H3=>AK H H3/\(∃u2 u3 u4,σ=[some (.ref a),some (.ref aa),u2,u3,u4])/\FY H3 aa ds ((rs.take k).foldl Cf (EO n))/\GY n α β k ((rs.take k).foldl Cf (EO n)))
  ⟨s2,⟨none,none,none,G⟩,M0,GY.zero n α β⟩ (λk σ H3 _ ⟨O,_⟩=>AH.of (O _ _ ao)) ?_ ?_
 ·rintro k x σ H3 hx ⟨O,⟨u2,u3,u4,rfl⟩,M,ts⟩;obtain⟨c,r,rfl,_,ai,e,hc,he⟩:=ak.ref hx;have rm:r∈rs:=oi ai;obtain⟨r1,r2,rq⟩:=az r rm;have hk:k<rs.length:=(oh.mp ai).1;have ag:=ts.step r1 r2 rq;rw[Bc ai,vM];show Hm [] 3 _ _ _ _ _;exists c,_,G,AH.of (O _ _ hc),G,_,_,G,_,_,G,_,_,G,rfl;have bd:∀(T':List (List Rat)),T'=Cf ((rs.take k).foldl Cf (EO n)) r->wW Cf (wW Cf (EO n) (List.take k rs)) [r]=T':=λT' h=>h.symm
  exists _,G,_,G,G,_,rfl;generalize hT:(rs.take k).foldl Cf (EO n)=T at M ts ag;have bc:(β+1)*(k+1)<=(β+1)*rs.length:=rN _ hk;have a9:β*(k+1)<=β*rs.length:=rN _ hk;have a8:β*rs.length+rs.length=(β+1)*rs.length:=by rw[yr,wu]
  have up:∀{x:Rat},Sb (α+(β+1)*(k+1)) (β*(k+1)) x->Sf x:=λh=>h.mono () ()
  have lo:∀i j,Sf (en T i j):=λi j=>up ((ts.2 i j).mono (by rw[su];lia) (by rw[su];lia))
  have sq:Sf r.2.2:=by
   have a7:β<=β*rs.length:=vt _ ();exact rq.mono () ()
  by_cases eq:r.1=r.2.1
  ·refine Hd (iv (by rw[eq])) ⟨O,⟨_,_,_,G⟩,?_,?_⟩
   ·have:wW Cf T [r]=T:=by show Cf T r=T;unfold Cf;rw[oH eq]
    rw[this];exact M
   ·show GY n α β (k+1) (Cf T r);exact ag
  ·refine Ju (E7 ()) ?_;have ah:=ts.1;refine Mr (i:=r.1) (j:=r.1) (a:=2) (b:=2) (op:=λx y=>x+y) rfl rfl rfl rfl M ah r1 r1 (O _ _ he) (lo _ _) sq O ad λH4 s4 M4 f4=>?_
   have q1:=ah.set (j:=r.1) (v:=en T r.1 r.1+r.2.2) r1;have e1:=IZ ah (v:=en T r.1 r.1+r.2.2) r1 r1;generalize a2:DH T r.1 r.1 (en T r.1 r.1+r.2.2)=T1 at M4 q1 e1;have g1:en T1 r.2.1 r.2.1=en T r.2.1 r.2.1:=by rw[e1,oC (λz=>eq z.1.symm)]
   refine Mr (i:=r.2.1) (j:=r.2.1) (a:=3) (b:=3) (op:=λx y=>x+y) rfl rfl rfl rfl M4 q1 r2 r2 f4 (by rw[g1];exact lo _ _) sq s4 ad λH5 s5 M5 f5=>?_
   have q2:=q1.set (j:=r.2.1) (v:=en T1 r.2.1 r.2.1+r.2.2) r2;have e2:=IZ q1 (v:=en T1 r.2.1 r.2.1+r.2.2) r2 r2;generalize au:DH T1 r.2.1 r.2.1 (en T1 r.2.1 r.2.1+r.2.2)=T2 at M5 q2 e2;have g2:en T2 r.1 r.2.1=en T r.1 r.2.1:=by rw[e2,oC (λz=>eq z.1),e1,oC (λz=>eq z.2.symm)]
   refine Mr (i:=r.1) (j:=r.2.1) (a:=2) (b:=3) (op:=λx y=>x-y) rfl rfl rfl rfl M5 q2 r1 r2 f5 (by rw[g2];exact lo _ _) sq s5 ad λH6 s6 M6 f6=>?_
   have q3:=q2.set (j:=r.2.1) (v:=en T2 r.1 r.2.1-r.2.2) r1;have e3:=IZ q2 (v:=en T2 r.1 r.2.1-r.2.2) r1 r2;generalize aw:DH T2 r.1 r.2.1 (en T2 r.1 r.2.1-r.2.2)=T3 at M6 q3 e3;have g3:en T3 r.2.1 r.1=en T r.2.1 r.1:=by rw[e3,oC (λz=>eq z.1.symm),e2,oC (λz=>eq z.2),e1,oC (λz=>eq z.1.symm)]
   refine Mr (i:=r.2.1) (j:=r.1) (a:=3) (b:=2) (op:=λx y=>x-y) rfl rfl rfl rfl M6 q3 r2 r1 f6 (by rw[g3];exact lo _ _) sq s6 ad λH7 s7 M7 f7=>?_
   refine⟨s7,⟨_,_,_,G⟩,?_,ag⟩
   have:wW Cf T [r]=DH T3 r.2.1 r.1 (en T3 r.2.1 r.1-r.2.2):=by
    show Cf T r=_;unfold Cf;rw[oC eq];simp only[a2,au,aw]
   rw[this];exact M7
 ·rintro σ H3 ⟨O,⟨u2,u3,u4,rfl⟩,M,ts⟩;subst am;rw[kb,ak.1,qE]at M ts;have ap:ds.length=n:=by rw[hD.1];simp
  refine⟨_,G,aa,G,⟨_,AJ.of M.h1⟩,λaf ay=>?_⟩;refine CP (Fc M.h1) (by rw[kb];lia) ay (λi ys σ J=>∃gs:List Addr,ys=gs.map V.ref/\At (As AO) J gs ((rs.foldl Cf (EO n)).take i)/\∃u,σ=[u]) ⟨[],G,At.nil,none,G⟩ ?_ ?_
  ·rintro i ys σ H4 x H5 hi s4 a3 ⟨gs,rfl,hG,u,rfl⟩ ⟨rfl,hx⟩ Cc hC;obtain⟨b,row,rfl,_,hy,cs,hB,a4⟩:=M.rows.ref hx;have a1:=s4 _ _ hB;refine⟨_,G,b,_,G,.inl ⟨AJ.of a1,λp J=>?_⟩⟩;have sp:=AW J (.AF (cs.map V.ref));refine hC _ _ _ sp ⟨gs++[p],#v[],?_,_,G⟩;rw[Bc hy];exact(hG.keep Gg (Df af sp)).snoc (We ⟨cs,AQ,a4.keep A9 (s4.trans sp)⟩ (sp _ _ a3))
  ·rintro ys σ H4 s4 ax a6 ⟨gs,rfl,hG,u,rfl⟩;rw[kb,ap,oQ (by rw[ts.1.len];exact oz _)]at hG;refine⟨af,_,G,.inl ⟨AJ.of ax,λp J=>?_⟩⟩;have sp:=AW J (.AF (gs.map V.ref));exact q p _ ((O.trans s4).trans sp) ⟨gs,AQ,(hG.keep Gg (DC H4 af)).keep Gg sp⟩
structure HB(n m α β:Nat):Prop where
 Lx:n<=13
 Ll:m<=16
 bd:(8+β*m+α)*n+β*m+α+20<=3900
structure CW(n m α β:Nat)(rs:List Ap):Prop where
 hb:HB n m α β
 len:rs.length<=m
 Cs:∀r∈rs,r.1<n+2/\r.2.1<n+2/\Sb α β r.2.2
 pos:∀r∈rs,0<r.2.2
 Ho:Pz (n+2) rs
theorem CW.Kc(k:CW n m α β rs):∀r∈rs,r.1<n+2/\r.2.1<n+2:=λr F=>⟨(k.Cs r F).1,(k.Cs r F).2.1⟩
theorem CW.den(k:CW n m α β rs):Cj rs<=2 ^ (β*m) :=
 oO (Tj λr F=>(k.Cs r F).2.2.2) (qj ∅ (rN _ k.len))
def Dg(n:Nat)(rs:List Ap):List (List Rat):=CK (Ep (Bo (n+2) rs)) (Fh (Bo (n+2) rs))
theorem CW.row(k:CW n m α β rs)(hy:y∈Dg n rs):y.length=n+1/\∀q∈y,BL ((Cj rs:Nat)*q)/\Vb (α+4) q:=by
 have F:=(HV k.Kc).1;obtain⟨i,hi,e⟩:=qV hy;have J:i<n:=by
  have:i<(Dg n rs).length:=hi
  unfold Dg CK at this;rw[abf,(Jg F).1]at this
  lia
 have e2:(Dg n rs)[i]?=some ((((Bo (n+2) rs).getD (i+2) []).drop 2)++[0-en (Bo (n+2) rs) (i+2) 0]):=by
  unfold Dg CK;rw[vQ,Oy F J,Rj F J]
 rw[og hi,e]at e2;cases e2;have rl:=(F.row (i:=i+2) ()).1;have O:rs.length<=16:=oO k.len k.hb.Ll;refine⟨by rw[oF,pS,rl];simp,λq hq=>?_⟩;rcases oM.mp hq with h|h
 ·have h:=tX h;obtain⟨j,hj,ej⟩:=qV h
  have:q=en (Bo (n+2) rs) (i+2) j:=by unfold en;rw[oj (l:=(Bo (n+2) rs).getD (i+2) []),og hj,ej];rfl
  rw[this];exact Pa k.Cs O _ _
 ·rw[pH]at h;rw[h];obtain⟨a,b⟩:=Pa k.Cs O (i+2) 0;constructor
  ·have:=a.neg
   rwa [show -((Cj rs:Nat)*en (Bo (n+2) rs) (i+2) 0)=(Cj rs:Nat)*(0-en (Bo (n+2) rs) (i+2) 0) by grind]at this
  ·have:=Ab.neg b
   rwa [show -1*en (Bo (n+2) rs) (i+2) 0=0-en (Bo (n+2) rs) (i+2) 0 by grind]at this
theorem CW.XB(k:CW n m α β rs)(F:y∈Dg n rs):∀q∈y,(q.den:Int) ∣ (Cj rs:Int):=λq O=>by
 obtain⟨c,J⟩:=((k.row F).2 q O).1;exact Tf (k:=c) (by rw[ic];exact J)
theorem CW.tk(k:CW n m α β rs):TK n (n+1) (β*m) (β*m+(α+4)) (β*m) (Dg n rs):=by
 have sq:=(HV k.Kc).1;have hd:=k.den;have pd:(0:Int)<(Cj rs:Int):=by have:=Jc rs;lia
 have aa:∀r∈Dg n rs,(cb r).natAbs<=2 ^ (β*m):=λr F=>oO (kd pd (k.XB F)) (by rw[pO];exact hd)
 have O:∀r∈Dg n rs,∀q∈r,q.den<=2 ^ (β*m):=λr F q J=>oO (vA (Jc rs) (by exact_mod_cast k.XB F q J)) hd
 have b:=k.hb.bd;generalize β*m=s at *;have e1:(8+s+α)*n=8*n+s*n+α*n:=by rw[yr,yr]
 rw[e1]at b;have ab:=k.hb.Lx;exists ?_,λr F=>(k.row F).1,(),(),O,λr F q J=>?_,aa,λr F q J=>?_,?_,by lia  
 ·unfold Dg CK;rw[abf,(Jg sq).1,ON sq];lia
 ·have h1:=VQ (b:=(q.den:Int)) (D:=s) (Int.dvd_refl _) ((k.row F).2 q J).2 (by rw[pO];exact O r F q J)
  have:wh (q.den:Int) q=q.num:=by
   unfold wh;rw[Int.fdiv_self (by have:=q.den_nz;lia),Int.mul_one]
  rw[this]at h1;exact DY h1 ()
 ·exact VQ ((Jp r).2 q J) ((k.row F).2 q J).2 (aa r F)
 ·have:(4+(s+(α+4)))*n=8*n+s*n+α*n:=by rw[<-e1];congr 1;lia
  lia
 ·have:s*(n+1)=s*n+s:=su _ _
  lia
theorem CW.ne(k:CW n m α β rs):dt n (n+1) (Dg n rs)≠0:=by
 have J:=(HV k.Kc).1;have c:=Jg J;unfold Dg CK;rw[eX c.1 (ON J) c.2];exact iz (λr F=>⟨(k.Cs r F).1,(k.Cs r F).2.1,k.pos r F⟩) k.Ho
structure EG(n B:Nat)(rs:List Ap)(X:Nat->Rat):Prop where
 x0:X 0=1
 x1:X 1=0
 nQ:∀i,2<=i->i<n+2->CS X rs i=0
 wh:∃W:Int,W≠0/\W.natAbs<=2 ^ B/\∀j,j<n+2->∃k:Int,(W:Rat)*X j=k/\k.natAbs<=2 ^ B
theorem CW.nz(k:CW n m α β rs)(hx:∀y∈Dg n rs,fx n x (vq y)=0):EG n ((8+β*m+α)*n) rs (LM 1 0 x):=by
 have tk:=k.tk;have aa:=k.hb.Lx;exists rfl,G,k7 k.Kc hx;have sc:=OF (n:=n) (m:=n+1) (Dg n rs) cb (λr F=>(tk.F2 F).2.1);have pp:El ((Dg n rs).map cb)≠0:=by
  have:=(SV (d:=β*m) ((Dg n rs).map cb) (λb hb=>by
   obtain⟨r,F,rfl⟩:=oI.mp hb;exact⟨(tk.F2 F).1,(tk.F2 F).2.2⟩)).1
  lia
 obtain⟨W,w0,wl,wx⟩:=jE (n:=n) (E:=β*m+(α+4)) (A:=(Dy (Dg n rs)).map vr) (x:=x) (by unfold Dy;rw[kb,kb];exact tk.len) ()
  (λa J j=>by obtain⟨r,_,rfl⟩:=oI.mp J;exact BL.of _)
  (λa J j=>by
   obtain⟨r,F,rfl⟩:=oI.mp J;exact Ii (Sa ((tk.Qk r F).2) j))
  (λa J=>by
   obtain⟨r,F,rfl⟩:=oI.mp J;unfold Dy at F;obtain⟨y,O,rfl⟩:=oI.mp F;rw[Ph (tk.F2 O).2.1];have c0:((cb y:Int):Rat)≠0:=by
    have:cb y≠0:=by have:=(tk.F2 O).1;lia
    exact_mod_cast this
   exact(Sr c0).mpr (hx y O))
  (by
   unfold Dy;rw[sc];intro z;rcases sS.mp z with h|h
   ·exact pp (by exact_mod_cast h)
   ·exact k.ne h)
 have eB:(4+(β*m+(α+4)))*n=(8+β*m+α)*n:=by congr 1;lia
 rw[eB]at wl wx;refine⟨W,w0,wl,λj hj=>?_⟩
 match j,hj with
 |0,_=>exact⟨W,by show(W:Rat)*1=W;grind,wl⟩
 |1,_=>exact⟨0,by show(W:Rat)*0=0;grind,#v[]⟩
 |j+2,hj=>exact wx j ()
theorem QG(h:2<=n):HT.Ad n 0 (some 2)=2:=by simp[HT.Ad];lia
inductive Uv(vs:List V)(H:Hp)(Q:VK)(_:XK):Prop
 |mk (a:Addr) (T:List (List Rat)) (n:Nat) (O:vs=[.ref a]) (J:As (As AO) H a T) (F:Sq (n+2) T) (aa:n<=100) (ab:∀p H',AK H H'->As (As AO) H' p (Ep T)->Q (.ref p) H')
theorem mY:An ["table"] ["table"] (Ac sPoleless):=Aw
theorem fS(F:Fun K "poleless" "poleless" sPoleless f fd)(mt:mg "tuple" = none):Ai P w K mg base Ae 1 f fd ["table"] Uv:=by
 refine F.Ax mY λim A ah s H vs Q E hr h=>?_
 obtain⟨a,T,n,rfl,⟨bs,ha,hA⟩,sq,hn,q⟩:=h;exists _,AR (Al (D5 E9 (by rfl) mt Dm (AA (DN (Nc:=["row"]) (cap:=[]) (g:=BH 0) (te:=Nv (QL []) (Ag 0) (NV (tC (.int 2))) MT) rfl (Ds (Ef Lv (pv 0) (D7 AB) Fe))
   CD (λ_ _ _ _ _=>Bj (i:=0) Pf rfl (qL rfl)) (λ_ _ _ _ _=>Ef Lv (pv 0) (D7 AB) Fe)) AD)))
 have lb:bs.length=n+2:=by rw[hA.1];exact sq.len
 refine⟨_,G,2,G,a,_,G,AH.of ha,λz=>?_,λp0 ab=>?_⟩
 ·have:=z.1
  rw[QG (by rw[kb];lia)]at this;cases this
 rw[show Ck (bs.map V.ref) (some 2) none=(bs.drop 2).map V.ref by rw[show(some (2:Int))=some ((2:Nat):Int) from rfl,Ja _ (by rw[kb];lia),vw]];refine BS ab (.AF ((bs.drop 2).map V.ref)) λH1 s0 h0=>?_
 have ae:=(hA.keep Gg s0).drop 2;refine⟨p0,G,⟨_,AH.of h0⟩,λO ag=>?_⟩;refine CP (F7 h0) (by rw[kb,pS];lia) ag (λi ys σ J=>∃ds:List Addr,ys=ds.map V.ref/\At (As AO) J ds ((Ep T).take i)/\∃u,σ=[u]) ⟨[],G,At.nil,none,G⟩ ?_ ?_
 ·rintro i ys σ H2 x H3 hi sm af ⟨ds,rfl,hD,u,rfl⟩ ⟨rfl,hx⟩ Cc hC;obtain⟨b,row,rfl,_,hy,cs,hB,aa⟩:=ae.ref hx;have ac:=sm _ _ hB;have rl:row.length=n+2:=sq.col row (tX (oi hy));have cl:cs.length=n+2:=by rw[aa.1];exact rl
  refine⟨_,G,2,G,b,_,G,AH.of ac,λz=>?_,λp J=>?_⟩
  ·have:=z.1
   rw[QG (by rw[kb];lia)]at this;cases this
  rw[show Ck (cs.map V.ref) (some 2) none=(cs.drop 2).map V.ref by rw[show(some (2:Int))=some ((2:Nat):Int) from rfl,Ja _ (by rw[kb];lia),vw]];have sp:=AW J (.AF ((cs.drop 2).map V.ref));refine hC _ _ _ sp ⟨ds++[p],#v[],?_,_,G⟩;have ec:(Ep T)[i]?=some (row.drop 2):=by unfold Ep;rw[om,hy];rfl
  rw[Bc ec];exact(hD.keep Gg (Df O sp)).snoc (We ⟨cs.drop 2,AQ,(aa.keep A9 (sm.trans sp)).drop 2⟩ (sp _ _ af))
 ·rintro ys σ H4 s4 ad ai ⟨gs,rfl,hG,u,rfl⟩;rw[kb,pS,oQ (by rw[(Jg sq).1];lia)]at hG;refine⟨O,_,G,.inl ⟨AJ.of ad,λp J=>?_⟩⟩;have sp:=AW J (.AF (gs.map V.ref));exact q p _ ((s0.trans s4).trans sp) ⟨gs,AQ,(hG.keep Gg (DC H4 O)).keep Gg sp⟩
theorem IQ{W k:Int}(F:W≠0)(e:(W:Rat)*q=k)(h1:k.natAbs<=2 ^ b)(h2:W.natAbs<=2 ^ a):Sb b a q:=by
 refine NU F h1 h2 ?_;rw[F5 k W F];have J:(W:Rat)≠0:=by exact_mod_cast F
 have:(k:Rat) / (W:Rat)=q:=by
  rw[<-e,vf];rw[Rat.div_def,Rat.mul_assoc,Rat.mul_inv_cancel _ J,Rat.mul_one]
 rw[this];rfl
theorem kT(m0:0<M)(hi:BL ((M:Nat)*q))(J:M<=2 ^ D)(O:Vb v q):Sb (D+v) D q:=by
 obtain⟨k,F⟩:=hi;have ab:Ab ((2 ^ D:Nat):Rat) ((M:Nat):Rat):=Ii (x:=(M:Int)) (by rw[pO];exact J)
 have:=ab.GU O
 rw[F,<-Rat.natCast_mul,<-Nat.pow_add]at this;exact IQ (W:=(M:Int)) () (by rw[ic];exact F) (GA this) (by rw[pO];exact J)
theorem CW.sf(k:CW n m α β rs)(i j:Nat):Sf (en (Bo (n+2) rs) i j):=by
 obtain⟨a,b⟩:=Pa k.Cs (oO k.len k.hb.Ll) i j
 have:=k.hb.bd
 exact(kT (Jc rs) a k.den b).mono (by omega) (by omega)
theorem n9:Sf 0:=Sb.zero.mono (o9 _) (o9 _)
theorem Yk(n:Nat)(x:Nat->Rat):(oN (n+2)).map (LM 1 0 x)=1 :: 0 :: (oN n).map x:=by
 rw[tR,tR];simp[rC];exact⟨G,G,λ_ _=>rfl⟩
inductive NO(vs:List V)(H:Hp)(Q:VK)(_:XK):Prop
 |mk (a:Addr) (n m α β:Nat) (rs:List Ap) (O:vs=[.ref a]) (J:Iz H a (n+2) rs) (F:CW n m α β rs) (aa:∀p H' X,AK H H'->EG n ((8+β*m+α)*n) rs X->As AO H' p ((oN (n+2)).map X)->Q (.ref p) H')
theorem QH:An ["net","table","right"] ["net"] (Ac sHeights):=Aw
theorem Yg (F:Fun K "heights" "heights" sHeights f fd)(G1:AX P w K mg base 4 "ease_table" ["net"] VG)
  (G2:AX P w K mg base 3 "minus" ["one","other"] (C1 λx y=>x-y))
  (G3:AX P w K mg base 1 "poleless" ["table"] Uv)
  (G4:AX P w K mg base 4 "answer" ["table","right"] (R9 C2))(mt:mg "tuple" = none) :
  Ai P w K mg base Ae 5 f fd ["net"] NO:=by
 refine F.Ax QH λim A a7 s H vs Q E hr h=>?_
 obtain⟨a,n,m,α,β,rs,rfl,hN,k,q⟩:=h;exists _,AM (AU 1 QH (AS G1 (AA (pv 0) AD)))
  (AM (AU 2 QH (D5 E9 (by rfl) mt Dm (AA (DN (Nc:=["row"]) (cap:=[]) (g:=BH 0) (te:=DO (C1 λx y=>x-y) [] E0 (A7 (JB (A7 (tC (.int 0)) (A7 (tC (.int 1)) Ba))) (A7 (BK (EX []) (Ag 0) (tC (.int 0))) Ba))) rfl (Ds (Ef Lv (pv 1) (D7 AB) Fe))
   CD (λ_ _ _ _ _=>Bj (i:=0) Pf rfl (qL rfl)) (λ_ _ _ _ _=>AS G2 (AA (BB (AA AB (AA AB AD))) (AA (A3 Bh (pv 0) AB) AD)))) AD)))
  (AR (Al (AN Oq (BB (AA (BB (AA AB (AA AB AD))) (AA (BB (AA AB (AA AB AD))) AD)))
   (AS G4 (AA (AS G3 (AA (pv 1) AD)) (AA (pv 2) AD)))))))
 have a8:rs.length<=16:=oO k.len k.hb.Ll;have a5:=k.hb.Lx;have bd:=k.hb.bd;have bl:β*rs.length<=β*m:=rN _ k.len;have a6:(β+1)*rs.length=β*rs.length+rs.length:=by rw[yr,wu]
 have sq:=(HV k.Kc).1;have aw:=k.sf;refine⟨_,G,a,n+2,α,β,rs,G,hN,(),(),k.Cs,(),(),λt H1 s1 hT=>?_⟩;have ht:=(Jg sq);have ak:=ON sq;obtain⟨bs,ha,hA⟩:=hT;have lb:bs.length=n+2:=by rw[hA.1];exact sq.len
 refine⟨_,G,2,G,t,_,G,AH.of ha,λz=>?_,λp0 aq=>?_⟩
 ·have:=z.1
  rw[QG (by rw[kb];lia)]at this;cases this
 rw[show Ck (bs.map V.ref) (some 2) none=(bs.drop 2).map V.ref by rw[show(some (2:Int))=some ((2:Nat):Int) from rfl,Ja _ (by rw[kb];lia),vw]];refine BS aq (.AF ((bs.drop 2).map V.ref)) λH2 s0 h0=>?_
 have a3:=(hA.keep Gg s0).drop 2;refine⟨p0,G,⟨_,AH.of h0⟩,λab am=>?_⟩;refine CP (F7 h0) (by rw[kb,pS];lia) am (λi ys σ hp=>∃ds:List Addr,ys=ds.map V.ref/\At AO hp ds ((Fh (Bo (n+2) rs)).take i)/\∃u,σ=[u]) ⟨[],G,At.nil,none,G⟩ ?_ ?_
 ·rintro i ys σ H3 x H4 hi sm ax ⟨ds,rfl,hD,u,rfl⟩ ⟨rfl,hx⟩ Cc hC;obtain⟨b,row,rfl,_,hy,cs,hB,a2⟩:=a3.ref hx;have ay:=sm _ _ hB;have rl:row.length=n+2:=sq.col row (tX (oi hy));have er:row[0]?=some (row.getD 0 0):=by rw[oj,og ()];rfl
  obtain⟨c,hc,ar⟩:=a2.get er;have i':i<n:=by
   have:i<(bs.drop 2).length:=by rw[kb]at hi;exact hi
   rw[pS]at this;lia
  have a0:row=(Bo (n+2) rs).getD (i+2) []:=by
   rw[sX,vR 2 i,(sq.row (i:=i+2) ()).2]at hy;exact(oV hy).symm
  refine⟨by exact CI,λz hz=>?_⟩;refine BS hz (.AF [.int 0,.int 1]) λH5 sz zz=>?_
  have ez:AO H5 z 0:=zz;refine⟨_,G,b,_,_,_,G,G,AH.of (sz _ _ ay),BE (j:=0) (Cg hc),z,c,0,row.getD 0 0,G,ez,sz _ _ (sm _ _ ar),n9,by rw[a0];exact aw (i+2) 0,λp hp=>?_⟩;have sp:=AW hp (.AF [.int (0-row.getD 0 0).num,.int (0-row.getD 0 0).den]);have ac:=sz.trans sp;refine hC _ _ _ ac ⟨ds++[p],#v[],?_,_,G⟩;have ec:(Fh (Bo (n+2) rs))[i]?=some (0-row.getD 0 0):=by unfold Fh;rw[om,hy];rfl
  rw[Bc ec];exact(hD.keep A9 (Df ab ac)).snoc (AO.BO (q:=0-row.getD 0 0) AQ (ac _ _ ax))
 ·rintro ys σ H4 s4 av a4 ⟨gs,rfl,hG,u,rfl⟩;rw[kb,pS,oQ (by rw[ak];lia)]at hG;refine⟨ab,_,G,.inl ⟨AJ.of av,λrt ao=>?_⟩⟩;have s5:=AW ao (.AF (gs.map V.ref));have hR:As AO (AG H4 rt (.AF (gs.map V.ref))) rt (Fh (Bo (n+2) rs)):=⟨gs,AQ,(hG.keep A9 (DC H4 ab)).keep A9 s5⟩;generalize AG H4 rt (.AF (gs.map V.ref))=H5 at s5 hR;have al:=(s0.trans s4).trans s5;refine⟨by exact CI,λJ ap=>⟨by exact CI,λO ai=>⟨by exact CI,λz3 ae=>?_⟩⟩⟩;obtain⟨H6,zg,t1,zz⟩:=nw ap (.AF [.int 1,.int 1]);rw[zg]at ai ae ⊢;have e1:AO H6 J 1:=zz;obtain⟨H7,zg,t2,zz⟩:=nw ai (.AF [.int 0,.int 1]);rw[zg]at ae ⊢;have e2:AO H7 O 0:=zz;refine BS ae (.AF [.ref J,.ref O]) λH8 t3 e3=>?_
  have ad:=al.trans ((t1.trans t2).trans t3);refine⟨_,G,t,Bo (n+2) rs,n,G,⟨bs,ad _ _ ha,hA.keep Gg ad⟩,sq,(),λpt H9 s9 hP=>?_⟩;refine⟨_,G,pt,rt,Ep (Bo (n+2) rs),Fh (Bo (n+2) rs),n,_,_,_,G,hP,Cq (R:=AO) (λs h=>A9 s h) (((t1.trans t2).trans t3).trans s9) hR,ht.1,ak,ht.2,k.tk,λz=>absurd z k.ne,λ_ pa ah x au hx hX=>?_⟩;have af:=k.nz hx;obtain⟨xs,az,aj⟩:=hX;have aa:=s9.trans au;have ag:=(s1.trans ad).trans aa;have a1:At AO ah ([J,O]++xs) (1 :: 0 :: (oN n).map x):=by
   refine At.Kf (xs:=[1,0]) (At.snoc (bs:=[J]) (xs:=[1]) (At.snoc (bs:=[]) (xs:=[]) At.nil ?_) ?_) aj
   ·exact((t2.trans t3).trans aa) _ _ e1
   ·exact(t3.trans aa) _ _ e2
  rw[<-Yk]at a1;have lx:xs.length=n:=by rw[aj.1];simp
  refine⟨z3,pa,[.ref J,.ref O],xs.map V.ref,G,G,AH.of (aa _ _ e3),AH.of az,#v[],by rw[kb];exact Et (by simp;lia),λz=>?_,λz p hp=>?_⟩
  ·have xe:xs=[]:=List.map_eq_nil_iff.mp z;subst xe;exact q z3 ah _ ag af ⟨[J,O],aa _ _ e3,a1⟩
  ·have sp:=AW hp (.AF ([.ref J,.ref O]++xs.map V.ref));exact q p _ _ (ag.trans sp) af ⟨[J,O]++xs,by rw[AQ];simp,a1.keep A9 sp⟩
theorem eQ{t u:L2.TS}{D:Dx}{σ:L2.St}{G:L2.St->Hp->Prop}(m:∀U:L2.St->Hp->Prop,(∀σ H,G σ H->U σ H)->t { D with nx:=U} σ H)(r:∀σ H,G σ H->u D σ H):KA t u D σ H:=m _ r
def Uw(Z:Int)(N c:Nat)(q:Rat):Prop:=∃k:Int,(Z:Rat)*q=k/\k.natAbs<=c*2 ^ N
theorem Uw.Dc(h:Uw Z N c p)(g:Uw Z N d q):Uw Z N (c+d) (p+q):=by
 obtain⟨k,h1,h2⟩:=h;obtain⟨l,J,F⟩:=g;refine⟨k+l,by rw[zW,<-h1,<-J];grind,?_⟩;rw[yr];exact oO (ab0 _ _) (Nat.add_le_add h2 F)
theorem Uw.neg(h:Uw Z N c p):Uw Z N c (-p):=by
 obtain⟨k,h1,h2⟩:=h;exact⟨-k,by rw[vK,<-h1];grind,by rw[ya];exact h2⟩
theorem Uw.sub(h:Uw Z N c p)(g:Uw Z N d q):Uw Z N (c+d) (p-q):=by
 rw[Rat.sub_eq_add_neg];exact h.Dc g.neg
theorem Uw.mono(h:Uw Z N c p)(e:c<=d):Uw Z N d p:=by
 obtain⟨k,h1,h2⟩:=h;exact⟨k,h1,oO h2 (v9 _ e)⟩
theorem Uw.zero(Z:Int)(N:Nat):Uw Z N 0 0:=⟨0,by rw[zx];rfl,#v[]⟩
theorem Uw.sf(h:Uw Z N c q)(J:Z≠0){z:Nat}(hz:Z.natAbs<=2 ^ z)(F:c<=64)(O:N+6<=3900)(z3:z<=3900:=by decide):Sf q:=by
 obtain⟨k,h1,h2⟩:=h;refine IQ J h1 (oO h2 ?_) (oO hz (qj ∅ ()))
 have:c*2 ^ N<=2 ^ (N+6):=by rw[wz,wN];exact rN _ F
 exact oO this (qj ∅ ())
structure Le(n:Nat)(rs:List Ap)(X:Nat->Rat)(Z:Int)(N:Nat):Prop where
 z0:Z≠0
 zl:Z.natAbs<=2 ^ 3900
 nl:N+6<=3900
 hs:∀j,j<n+2->Sf (X j)
 fs:∀r∈rs,Sf (X r.1-X r.2.1)
 es:∀r∈rs,Sf r.2.2
 ru:∀r∈rs,Uw Z N 1 (BI X r)
theorem EG.Py(k:CW n m α β rs)(h:EG n ((8+β*m+α)*n) rs X):∃Z N,Le n rs X Z N:=by
 obtain⟨W,w0,J,O⟩:=h.wh;have bd:=k.hb.bd;have bm:∀r∈rs,β<=β*m:=λr F=>by
  have:0<rs.length:=sL F
  have:=k.len
  exact vt _ ()
 generalize (8+β*m+α)*n=B at *;have hd:=k.den;have hp:=Jc rs;have aa:∀r∈rs,∃c:Int,(W:Rat)*(X r.1-X r.2.1)=c/\c.natAbs<=2 ^ (B+1):=λr F=>by
  obtain⟨a1,a2,a3⟩:=k.Cs r F;obtain⟨x,e1,l1⟩:=O _ a1;obtain⟨y,e2,l2⟩:=O _ a2;exists x-y,by rw[tY,<-e1,<-e2];grind
  have:=yP x y
  rw[vS];lia
 refine⟨W*(Cj rs:Int),β*m+α+(B+1),tP w0 (),?_,(),λj hj=>?_,λr F=>?_,λr F=>?_,λr F=>?_⟩
 ·rw[pP,pO];exact oO (C4 J hd) (qj ∅ ())
 ·obtain⟨c,e,l⟩:=O j hj;exact(IQ w0 e l J).mono () ()
 ·obtain⟨c,e,l⟩:=aa r F;exact(IQ w0 e l J).mono () ()
 ·have:=bm r F
  exact(k.Cs r F).2.2.mono () ()
 ·obtain⟨c,e,l⟩:=aa r F;obtain⟨v,hv⟩:=PD (MH F);exists v*c,?_
  ·rw[ph,ph,<-hv,<-e,ic];unfold BI;grind
  ·have ab:Ab ((2 ^ (β*m):Nat):Rat) ((Cj rs:Nat):Rat):=Ii (x:=(Cj rs:Int)) (by rw[pO];exact hd);have vb:=ab.GU (k.Cs r F).2.2.vb;rw[hv,<-Rat.natCast_mul,<-Nat.pow_add]at vb;rw[pP,wu];exact C4 (GA vb) l
theorem Le.DS(s:Le n rs X Z N)(i:Nat)(F:r∈rs):Uw Z N 2 (DS X i r):=by
 have h:=s.ru r F
 have:∀c:Prop,[Decidable c]->Uw Z N 1 (if c then BI X r else 0):=λc _=>by
  by_cases e:c
  ·rw[oH e];exact h
  ·rw[oC e];exact(Uw.zero Z N).mono ()
 exact(this _).sub (this _)
theorem OE(e:rs[k]?=some r):CS X (rs.take (k+1)) i=CS X (rs.take k) i+Wd.DS X i r:=by
 unfold CS;rw[Bc e,oU,acO];simp only[oP,rT,qk,wM,zw]
theorem Le.sum(s:Le n rs X Z N)(i:Nat):∀k,k<=rs.length->Uw Z N (2*k) (CS X (rs.take k) i):=by
 intro k
 induction k with
 |zero=>intro _;exact Uw.zero Z N
 |succ k ih =>
  intro F;have e:rs[k]?=some rs[k]:=og F;rw[OE e,su];exact(ih ()).Dc (s.DS i (qd _))
theorem JW(X:Nat->Rat)(h:i<n):((oN n).map X)[i]?=some (X i):=by
 rw[om,qc h];rfl
inductive Kb(H:Hp)(b:Addr)(l:List Rat):Prop
 |l (h:BC AO H b l)
 |t (h:As AO H b l)
theorem Vk(s:AK H H'):Kb H b l->Kb H' b l
 |.l h=>.l (Ij (R:=AO) (λs h=>A9 s h) s h)
 |.t h=>.t (Cq (R:=AO) (λs h=>A9 s h) s h)
theorem Kb.ix{l}(h:Kb H b l)(e:l[i]?=some q)(k:∀c,AO H c q->Q (.ref c) H):Er [] (.ref b) (.int (i:Int)) H Q\/EX [] (.ref b) (.int (i:Int)) H Q:=by
 rcases h with ⟨bs,F,J⟩|⟨bs,F,J⟩
 ·obtain⟨c,h1,O⟩:=J.get e;exact .inl ⟨b,_,_,_,G,G,AJ.of F,BE (Cg h1),k c O⟩
 ·obtain⟨c,h1,O⟩:=J.get e;exact .inr ⟨b,_,_,_,G,G,AH.of F,BE (Cg h1),k c O⟩
inductive PU(vs:List V)(H:Hp)(Q:VK)(_:XK):Prop
 |mk (a b:Addr) (r:Ap) (n:Nat) (X:Nat->Rat) (aa:vs=[.ref a,.ref b]) (O:GD H a r) (F:Kb H b ((oN n).map X)) (ab:r.1<n) (ad:r.2.1<n) (ae:Sf (X r.1)) (J:Sf (X r.2.1)) (ac:P6 H Q (X r.1-X r.2.1))
theorem mw:An ["rope","levels"] ["rope","levels"] (Ac sFallOf):=Aw
theorem gK(F:Fun K "fall_of" "fall_of" sFallOf f fd)(G:AX P w K mg base 3 "minus" ["one","other"] (C1 λx y=>x-y)):
  Ai P w K mg base Ae 4 f fd ["rope","levels"] PU:=by
 refine F.Ax mw λim A aa s H vs Q E hr h=>?_
 obtain⟨a,b,r,n,X,rfl,⟨e,J,he⟩,O,r1,r2,s1,s2,q⟩:=h;exists _,AR (Al (AS G (AA (A3 (CH.or Bh) (pv 1) (A3 Bh (pv 0) AB)) (AA (A3 (CH.or Bh) (pv 1) (A3 Bh (pv 0) AB)) AD))));exact⟨_,rfl,_,rfl,a,_,_,_,rfl,rfl,AH.of J,Eu _ _ _,O.ix (JW X r1) λc1 g1=>⟨_,rfl,_,rfl,a,_,_,_,rfl,rfl,AH.of J,C6 _ _ _,O.ix (JW X r2) λc2 g2=>⟨c1,c2,_,_,rfl,g1,g2,s1,s2,q⟩⟩⟩
inductive Oz(vs:List V)(H:Hp)(Q:VK)(_:XK):Prop
 |mk (a b:Addr) (n:Nat) (rs:List Ap) (X:Nat->Rat) (O:vs=[.ref a,.ref b]) (J:Iz H a n rs) (F:Kb H b ((oN n).map X)) (aa:rs.length<=100) (ab:(∀r∈rs,r.1<n/\r.2.1<n/\Sf (X r.1)/\Sf (X r.2.1)/\Sf (X r.1-X r.2.1)/\Sf r.2.2)) (ac:∀p H',AK H H'->As AO H' p (rs.map (BI X))->Q (.ref p) H')
theorem lN:An ["net","levels"] ["net","levels"] (Ac sRunBy):=Aw
theorem lY:(["rope","levels"]:List Str).Nodup:=by decide +kernel
theorem aQ (F:Fun K "runnings_by" "runnings_by" sRunBy f fd)(G1:AX P w K mg base 3 "times" ["one","other"] (C1 λx y=>x*y))
  (G2:AX P w K mg base 4 "fall_of" ["rope","levels"] PU)(mt:mg "tuple" = none) :
  Ai P w K mg base Ae 5 f fd ["net","levels"] Oz:=by
 refine F.Ax lN λim A aj s H vs Q E hr h=>?_
 obtain⟨a,b,n,rs,X,rfl,⟨ra,tv,ha,bs,ac,ab⟩,hL,hm,ae,q⟩:=h;exists _,AR (Al (D5 E9 (by rfl) mt Dm (AA (DN (Nc:=["rope","levels"]) (cap:=[(1,1)]) (g:=BH 0) (te:=DO (C1 λx y=>x*y) [] E0 (A7 (BK (EX []) (Ag 0) (tC (.int 2))) (A7 (DO PU [] E0 (A7 (Ag 0) (A7 (Ag 1) Ba))) Ba))) rfl (Ds (A3 Bh (pv 0) AB))
   CD (λ_ _ _ _ _=>Bj (i:=0) lY rfl (qL rfl))
   (λ_ _ _ _ _=>AS G1 (AA (A3 Bh (pv 0) AB) (AA (AS G2 (AA (pv 0) (AA (pv 1) AD))) AD)))) AD)))
 have lb:bs.length=rs.length:=ab.1;refine⟨_,G,a,_,_,_,G,G,AH.of ha,C6 _ _ _,ra,G,⟨_,AH.of ac⟩,λaa ai=>?_⟩;refine CP (F7 ac) (by rw[kb];lia) ai (λi ys σ J=>∃ds:List Addr,ys=ds.map V.ref/\At AO J ds ((rs.map (BI X)).take i)/\∃u,σ=[u,some (.ref b)]) ⟨[],G,At.nil,none,G⟩ ?_ ?_
 ·rintro i ys σ H3 x H4 hi O ag ⟨ds,rfl,hD,u,rfl⟩ ⟨rfl,hx⟩ Cc hC;obtain⟨c,r,rfl,_,hy,e,hc,he⟩:=ab.ref hx;obtain⟨r1,r2,s1,s2,s3,s4⟩:=ae r (oi hy);refine⟨_,G,c,_,_,_,G,G,AH.of (O _ _ hc),DW _ _ _,_,G,_,G,c,b,r,n,X,G,⟨e,O _ _ hc,O _ _ he⟩,Vk O hL,r1,r2,s1,s2,λp J=>?_⟩;refine mJ J (X r.1-X r.2.1) λH5 sp hf=>?_
  refine⟨e,p,_,_,G,sp _ _ (O _ _ he),hf,s4,s3,λp2 af=>?_⟩;have ad:=AW af (.AF [.int (r.2.2*(X r.1-X r.2.1)).num,.int (r.2.2*(X r.1-X r.2.1)).den]);have sA:=sp.trans ad;refine hC _ _ _ sA ⟨ds++[p2],#v[],?_,_,G⟩;have ec:(rs.map (BI X))[i]?=some (BI X r):=by rw[om,hy];rfl
  rw[Bc ec];exact(hD.keep A9 (Df aa sA)).snoc (AO.BO (q:=BI X r) AQ (sA _ _ ag))
 ·rintro ys σ H4 s4 ah ak ⟨gs,rfl,hG,u,rfl⟩;rw[kb,lb,oQ (by rw[kb];exact oz _)]at hG;refine⟨aa,_,G,.inl ⟨AJ.of ah,λp J=>?_⟩⟩;have sp:=AW J (.AF (gs.map V.ref));exact q p _ (s4.trans sp) ⟨gs,AQ,(hG.keep A9 (DC H4 aa)).keep A9 sp⟩
inductive Ul(vs:List V)(H:Hp)(Q:VK)(_:XK):Prop
 |mk (a:Addr) (n m α β:Nat) (rs:List Ap) (O:vs=[.ref a]) (J:Iz H a (n+2) rs) (F:CW n m α β rs) (aa:∀p H' X,AK H H'->EG n ((8+β*m+α)*n) rs X->As AO H' p (rs.map (BI X))->Q (.ref p) H')
theorem mT:An ["net"] ["net"] (Ac sRunnings):=Aw
theorem X7 (F:Fun K "runnings" "runnings" sRunnings f fd)(G1:AX P w K mg base 5 "runnings_by" ["net","levels"] Oz)
  (G2:AX P w K mg base 5 "heights" ["net"] NO) :
  Ai P w K mg base Ae 6 f fd ["net"] Ul:=by
 refine F.Ax mT λim A aa s H vs Q E J h=>?_
 obtain⟨a,n,m,α,β,rs,rfl,hN,k,q⟩:=h;exists _,AR (Al (AS G1 (AA (pv 0) (AA (AS G2 (AA (pv 0) AD)) AD))));refine⟨_,G,_,G,a,n,m,α,β,rs,G,hN,k,λp H1 X O hX hT=>?_⟩;obtain⟨Z,N,z⟩:=hX.Py k;have ab:rs.length<=16:=oO k.len k.hb.Ll;exact⟨a,p,n+2,rs,X,G,UC O hN,.t hT,(),λr J=>⟨(k.Cs r J).1,(k.Cs r J).2.1,z.hs _ (k.Cs r J).1,z.hs _ (k.Cs r J).2.1,z.fs r J,z.es r J⟩,λp2 H2 s2 h2=>q p2 H2 X (O.trans s2) hX h2⟩
inductive R3(vs:List V)(H:Hp)(Q:VK)(_:XK):Prop
 |mk (a:Addr) (n m α β:Nat) (rs:List Ap) (O:vs=[.ref a]) (J:Iz H a (n+2) rs) (F:CW n m α β rs) (aa:∀p H' X,AK H H'->EG n ((8+β*m+α)*n) rs X->AO H' p (CS X rs 0)->Q (.ref p) H')
theorem J6:An ["net","ease","rope","running"] ["net"] (Ac sEaseOf):=Aw
theorem Zf (F:Fun K "ease_of" "ease_of" sEaseOf f fd)(G1:AX P w K mg base 3 "plus" ["one","other"] (C1 λx y=>x+y))
  (G2:AX P w K mg base 3 "minus" ["one","other"] (C1 λx y=>x-y))
  (G3:AX P w K mg base 6 "runnings" ["net"] Ul)(mz:mg "zip" = none) :
  Ai P w K mg base Ae 7 f fd ["net"] R3:=by
 refine F.Ax J6 λim A ay s H vs Q E hr h=>?_
 obtain⟨a,n,m,α,β,rs,rfl,hN,k,q⟩:=h;exists _,AM (AU 1 J6 (BB (AA AB (AA AB AD))))
  (AM (Bk oX rfl (Kw (t1:=true) (t2:=true) (by rfl) mz (AA (A3 Bh (pv 0) AB) (AA (AS G3 (AA (pv 0) AD)) AD))) (CZ rfl (Av (Ak 2 J6) (Av (Ak 3 J6) CV)))
   (AM (BU (BF Dv (A3 Bh (pv 2) AB) AB) (AR (AU 1 J6 (AS G1 (AA (pv 1) (AA (pv 3) AD))))) Bg)
   (AR (BU (BF Dv (A3 Bh (pv 2) AB) AB) (AR (AU 1 J6 (AS G2 (AA (pv 1) (AA (pv 3) AD))))) Bg))))
  (AR (Al (pv 1))))
 have az:rs.length<=16:=oO k.len k.hb.Ll;refine⟨by exact CI,λz1 au=>?_⟩;refine BS au (.AF [.int 0,.int 1]) λH1 t1 zz=>?_
 have e1:AO H1 z1 0:=zz;obtain⟨ra,tv,ha,bs,ao,ah⟩:=id hN;refine⟨_,rfl,a,_,_,_,rfl,rfl,AH.of (t1 _ _ ha),C6 _ _ _,_,rfl,a,n,m,α,β,rs,rfl,UC t1 hN,k,λpr H2 X s2 hX hR=>?_⟩;obtain⟨Z,N,z⟩:=hX.Py k;obtain⟨cs,ap,al⟩:=hR;have aa:=t1.trans s2;exists ra,pr,rfl,⟨_,BV.t (aa _ _ ao)⟩,⟨_,BV.t ap⟩;have lb:bs.length=rs.length:=ah.1;have lc:cs.length=rs.length:=by rw[al.1,kb]
 refine Zz (xs:=bs.map V.ref) (ys:=cs.map V.ref) rs.length (by rw[kb,kb];lia) (λi σ O=>AK H2 O/\∃(e:Addr) (u v:Option V),σ=[some (.ref a),some (.ref e),u,v]/\AO O e (CS X (rs.take i) 0))
  ⟨AK.refl _,z1,none,none,rfl,s2 _ _ e1⟩ (λi σ O _ ⟨J,_⟩=>⟨BV.t (J _ _ (aa _ _ ao)),BV.t (J _ _ ap)⟩) ?_ ?_
 ·rintro i x y σ O p hx hy ⟨J,e,u,v,rfl,he⟩ hp;obtain⟨c,r,rfl,_,ab,ea,hc,ax⟩:=ah.ref hx;obtain⟨d,q0,rfl,_,ag,hd⟩:=al.ref hy;have aw:q0=BI X r:=by rw[om,ab]at ag;exact(oV ag).symm
  subst aw;have rm:=oi ab;have ik:i<rs.length:=(oh.mp ab).1;refine BS hp (.AF [.ref c,.ref d]) λH4 s4 h4=>?_
  exists p,_,rfl,AH.of h4,rfl,_,_,rfl,_,_,rfl,rfl;have us:=z.sum 0 i ();have ur:=z.ru r rm;have aj:Sf (CS X (rs.take i) 0):=us.sf z.z0 z.zl () z.nl;have ai:Sf (BI X r):=ur.sf z.z0 z.zl () z.nl;have ae:=(aa.trans (J.trans s4)) _ _ hc;have am:=(J.trans s4) _ _ hd;have ad:=s4 _ _ he;have af:=J.trans s4;have ac:=OE (X:=X) (i:=0) ab;unfold Wd.DS at ac;refine eQ (t:=Nk _ _ _) (G:=λσ H5=>AK H4 H5/\∃e5:Addr,σ=[some (.ref a),some (.ref e5),some (.ref c),some (.ref d)]/\AO H5 e5 (CS X (rs.take i) 0+(if 0=r.1 then BI X r else 0))) (λU ak=>?_) ?_
  ·exists _,rfl,c,_,_,_,rfl,rfl,AH.of ae,Eu _ _ _,rfl,_,rfl;by_cases c1:r.1=0
   ·exact By (iv ()) ⟨_,rfl,_,rfl,e,d,_,_,rfl,ad,am,aj,ai,λp5 av=>ak _ _ ⟨AW av _,p5,rfl,by rw[oH c1.symm];exact AQ⟩⟩
   ·exact Be (E7 ()) (ak _ _ ⟨AK.refl _,e,rfl,by rw[oC (λz=>c1 z.symm),zw];exact ad⟩)
  ·rintro σ H5 ⟨s5,e5,rfl,h5⟩;have ar:Sf (CS X (rs.take i) 0+(if 0=r.1 then BI X r else 0)):=by
    by_cases c1:0=r.1
    ·rw[oH c1];exact(us.Dc ur).sf z.z0 z.zl () z.nl
    ·rw[oC c1,zw];exact aj
   exists _,rfl,c,_,_,_,rfl,rfl,AH.of (s5 _ _ ae),C6 _ _ _,rfl,_,rfl;by_cases c2:r.2.1=0
   ·refine By (iv ()) ⟨_,rfl,_,rfl,e5,d,_,_,rfl,h5,s5 _ _ am,ar,ai,λp6 aq=>?_⟩;exists af.trans (s5.trans (AW aq _)),p6,_,_,rfl;rw[ac,oH c2.symm,show ∀x y w:Rat,x+(y-w)=x+y-w from λx y w=>by grind];exact AQ
   ·refine Be (E7 ()) ⟨af.trans s5,e5,_,_,rfl,?_⟩;rw[ac,show(if 0=r.2.1 then BI X r else 0)=0 from oC (λz=>c2 z.symm),show ∀x y:Rat,x+(y-0)=x+y from λx y=>by grind];exact h5
 ·rintro σ O ⟨J,e,u,v,rfl,he⟩;rw[qE]at he;exact⟨_,rfl,q e O X (aa.trans J) hX he⟩
end
end My
namespace My
open PySem L2 Mth
variable {f:Addr}{fd:qU}{x:Int}{L R ts:List (List Int)}{rs:List Ap}{i:Nat}{Y:Nat->Rat}
section
variable {P:pG}{w:World}{K:ow}{mg:Str->Option Value}{base:Heap}
inductive Vz(vs:List V)(H:Hp)(Q:VK)(_:XK):Prop
 |mk (e:Int) (J:vs=[.int e]) (F:Q (.int (Cu e)) H)
theorem mR:An ["end"] ["end"] (Ac sOther):=Aw
theorem cO(F:Fun K "other_end" "other_end" sOther f fd):Ai P w K mg base Ae 1 f fd ["end"] Vz:=by
 refine F.Ax mR λim A O s H vs Q E J h=>?_
 obtain⟨e,rfl,q⟩:=h;exists _,AR (Al (SY (BF Dv (AN Bw (pv 0) AB) AB) (AN BM (pv 0) AB) (AN CB (pv 0) AB)));refine⟨_,G,_,_,G,G,(show(0:Int)<2 by decide),G,_,G,?_⟩;unfold Cu at q;by_cases h:e%2=0
 ·rw[oH h]at q;exact By (iv h) ⟨_,G,_,_,G,G,q⟩
 ·rw[oC h]at q;exact Be (E7 h) ⟨_,G,_,_,G,G,q⟩
inductive Ti(vs:List V)(H:Hp)(Q:VK)(_:XK):Prop
 |mk (a:Addr) (bs:List Addr) (ts:List (List Int)) (n:Nat) (O:vs=[.ref a]) (J:JL H a bs ts) (F:DF n ts) (aa:n<=1000) (ab:∀d H',AK H H'->H d=none->H' d=some (.dK (Cy (B6 ts)))->Q (.ref d) H')
def U9(K:ow):TS:=KA (JC Ud (BH 1)) (KA (QB (QA [] (Ag 0)) (BH 2) (QB (VN (A7 (Ag 2) Ba)) (Hm [] 2 (Fj (BH 3) (Fj (BH 4) KG)))
 (V3 (Ag 1) (Ag 4) (BK (EX []) (Ag 2) (BK (EY λi j=>.int (i-j)) (Ag 3) (tC (.int 1))))))) (QI (Ag 1)))
theorem Z2(F:JL H a bs ts)(T:DF n ts)(hn:n<=1000)(q:∀d H',AK H H'->H d=none->H' d=some (.dK (Cy (B6 ts)))->Q (.ref d) H'):
  U9 K { nx:=nx,rt:=Q} [some (.ref a),none,none,none,none] H:=by
 intro d hd
 try dsimp only
 try refine JX ?_
 first|refine Jf λak ad=>?_|refine nx_hide λak ad=>?_
 exists _,G,a,G,⟨_,AH.of (AW hd _ _ _ F.1)⟩;refine Ji (xs:=bs.map V.ref) (λi σ H2=>∃t k e,σ=[some (.ref a),some (.ref d),t,k,e]/\AK H H2/\H2 d=some (.dK (Cy (B6 (ts.take i))))) ⟨none,none,none,G,AW hd _,AQ⟩ (λi σ H2 _ ⟨_,_,_,_,s,_⟩=>AH.of (s _ _ F.1)) ?_ ?_
 ·rintro i x σ H2 hx ⟨t0,k0,e0,rfl,sm,aa⟩;obtain⟨b,row,rfl,hb,O⟩:=UZ F.2.1 hx;have hB:=sm _ _ (F.2.2 i b row hb O)
  try dsimp only
  try refine JX ?_
  first|refine Jf λah af=>?_|refine nx_hide λah af=>?_
  exists _,G,b,_,G,hB;refine MI (xs:=row.map V.int) (λj σ J=>∃k e,σ=[some (.ref a),some (.ref d),some (.ref b),k,e]/\AK H J/\J d=some (.dK (Cy (B6 (ts.take i)++(CL row).take j)))) ⟨k0,e0,G,sm,by rw[aaF,qS];exact aa⟩
   (λj σ J _ ⟨_,_,_,s,_⟩=>s _ _ (F.2.2 i b row hb O)) ?_ ?_
  ·rintro j x σ J p ai ⟨k1,e1,rfl,ac,ab⟩ hp;obtain⟨e,rfl,he⟩:=int_at ai;have hj:j<row.length:=(oh.mp he).1;have ag:AK H (AG J p (.AF [.int j,.int e])):=ac.trans (AW hp _);have aj:(AG J p (.AF [.int j,.int e])) d=some (.dK (Cy (B6 (ts.take i)++(CL row).take j))):=AW hp _ _ _ ab;have ae:(B6 (ts.take i)++(CL row).take j).map (·.1)=(ts.take i).flatten++row.take j:=by
    rw[oU,JU,vz,ME]
   have fr:e∉(B6 (ts.take i)++(CL row).take j).map (·.1):=by rw[ae];exact OH T.nd O he
   have ln:(Cy (B6 (ts.take i)++(CL row).take j)).length<oR:=by
    have l1:=congrArg uf ae;rw[kb]at l1;have l2:((ts.take i).flatten++row.take j).length<=n:=by
     rw[<-T.len];have e1:ts=ts.take i++ts.drop i:=(rF i ts).symm;have hd:ts.drop i=row :: ts.drop (i+1):=by
      obtain⟨hi,q1⟩:=oh.mp O;rw[<-q1,tQ]
     have e2:ts.flatten.length=(ts.take i).flatten.length+(row.length+(ts.drop (i+1)).flatten.length):=by
      conv=>lhs;rw[e1,hd]
      rw[rS,ql,oF,oF]
     rw[e2,oF,pN]
     lia
    rw[kb,l1];exact GX ()
   exists p,_,G,AH.of AQ,G,_,_,G,_,_,G,rfl;exists _,G,_,G,_,_,G,G,b,_,_,_,G,G,AH.of (ag _ _ (F.2.2 i b row hb O)),fm hj,_,G,_,G,d,_,G,FJ.k (k:=pU e) aj ln;exists _,_,G,ag.up hd _;rw[AQ,TV fr,tL];have rp:(CL row)[j]?=some (e,Gn row j):=by
    unfold CL;rw[om,qc hj];show some (row.getD j 0,Gn row j)=_;rw[oj,he];rfl
   rw[JV rp]
  ·rintro σ J ⟨k1,e1,rfl,ac,ab⟩;subst af;exists _,_,_,G,ac;rw[ab,JV O,X1,kb,show(CL row).take row.length=CL row from oQ (by rw[Sk];exact oz _)]
 ·rintro σ H2 ⟨t0,k0,e0,rfl,sm,aa⟩;subst ad;refine⟨_,G,q d H2 sm hd ?_⟩;rw[aa,kb,oQ (by rw[F.2.1];exact oz _)]
theorem LQ:An ["turns","ahead","turn","k","end"] ["turns"] (Ac sAhead):=Aw
theorem bO(F:Fun K "ends_ahead" "ends_ahead" sAhead f fd)(me:mg "enumerate" = none):Ai P w K mg base Ae 1 f fd ["turns"] Ti:=by
 refine F.Ax LQ λim A aa s H vs Q E J h=>?_
 obtain⟨a,bs,ts,n,rfl,O,T,hn,q⟩:=h;have hu:=Hh J;refine⟨U9 K,AM (AU 1 LQ OU)
  (AM (Bk oX rfl (Ds (pv 0)) (Ak 2 LQ)
   (AR (Bk oX rfl (Ml (by rfl) me (AA (pv 2) AD)) (CZ rfl (Av (Ak 3 LQ) (Av (Ak 4 LQ) CV)))
    (AR (Jj hu (pv 1) (pv 4) (A3 Bh (pv 2) (AN CB (pv 3) AB)) rfl)))))
  (AR (Al (pv 1)))),Z2 O T hn q⟩
inductive VE(vs:List V)(H:Hp)(Q:VK)(_:XK):Prop
 |mk (s:Int) (d:Addr) (ts:List (List Int)) (n:Nat) (O:vs=[.int s,.ref d]) (J:H d=some (.dK (Cy (B6 ts)))) (F:DF n ts) (aa:n<=1000) (ab:Au n s) (ac:∀p H',AK H H'->H p=none->H' p=some (.AF ((CC (Ar ts) s).map V.int))->Q (.ref p) H')
theorem Nm:An ["start","ahead","ring","end"] ["start","ahead"] (Ac sRingFrom):=Aw
theorem X5(F:Fun K "ring_from" "ring_from" sRingFrom f fd)(G:AX P w K mg base 1 "other_end" ["end"] Vz)(mt:mg "tuple" = none):
  Ai P w K mg base Ae 2 f fd ["start","ahead"] VE:=by
 refine F.Ax Nm λim A ad s H vs Q E hr h=>?_
 obtain⟨J,d,ts,n,rfl,hd,T,hn,hs,q⟩:=h;have hu:=Hh hr;have PM:=T.Ct;have PE:=Ia PM hs;exists _,AM (AU 2 Nm (CJ (AA (pv 0) AD)))
  (AM (AU 3 Nm (IM hu (pv 1) (AS G (AA (pv 0) AD))))
  (AM (Kn oX (BF GF (pv 3) (pv 0))
   (AM (Dr (DD pA qF qG Ed (pv 2) (AA (pv 3) AD)))
    (AR (AU 3 Nm (IM hu (pv 1) (AS G (AA (pv 3) AD)))))))
  (AR (Al (D5 E9 (by rfl) mt Dm (AA (pv 2) AD))))))
 refine⟨_,rfl,by exact IL,λl hl=>?_⟩;exists _,rfl,_,rfl,J,rfl,d,_,rfl,Oe (AW hl _ _ _ hd) (T.NF hs);refine Kt (λσ H2=>∃j,1<=j/\j<=C9 (Ar ts) J/\σ=[some (.int J),some (.ref d),some (.ref l),some (.int (C7 (Ar ts) j J))]/\AK H H2/\H2 l=some (.AE ((Du (Ar ts) J j).map V.int)))
  (λ_ H2=>match H2 l with|some (.AE xs)=>C9 (Ar ts) J-xs.length|_=>0) ⟨1,oz _,PE.1,rfl,AW hl _,AQ⟩ ?_ ?_
 ·rintro σ H2 ⟨j,j1,j2,rfl,sm,aa⟩;exists _,rfl,_,rfl,rfl,_,rfl;by_cases O:C7 (Ar ts) j J=J
  ·refine Hd (iv O) ?_;have hj:j=C9 (Ar ts) J:=by
    rcases oW j (C9 (Ar ts) J)with z|z
    ·exact absurd O (PE.2.2 j j1 z)
    ·lia
   subst hj;refine⟨_,rfl,l,_,rfl,.inl ⟨AJ.of aa,λp hp=>?_⟩⟩;exact q p _ (sm.trans (AW hp _)) (sm.free hp) AQ
  ·refine Ju (E7 O) ?_;have hj:j<C9 (Ar ts) J:=by
    rcases oW j (C9 (Ar ts) J)with z|z
    ·exact z
    ·exact absurd (by rw[show j=C9 (Ar ts) J by lia];exact PE.2.1) O
   have ae:=i6 PM hs;have ab:(Du (Ar ts) J j).length=j:=Rq;refine⟨_,rfl,.inl ⟨rfl,_,AJ.of aa⟩,_,rfl,l,_,_,rfl,rfl,aa,by rw[kb,ab];exact GX (),?_⟩;have ac:=sm.up hl (.AE ((Du (Ar ts) J j).map V.int++[.int (C7 (Ar ts) j J)]));exists _,rfl,_,rfl,_,rfl,d,_,rfl,Oe (ac _ _ hd) (T.NF (F9 PM hs j));exists ⟨j+1,(),hj,rfl,ac,?_⟩
   ·rw[AQ,YE,oU];rfl
   ·rw[AQ,aa];show C9 (Ar ts) J-((Du (Ar ts) J j).map V.int++[V.int (C7 (Ar ts) j J)]).length<C9 (Ar ts) J-((Du (Ar ts) J j).map V.int).length;rw[oF,kb,ab,rn]
    lia
 ·rintro σ H2 Q1 Q2 hq ⟨v,e,v',e',sc,b,eb,z⟩;exact⟨v,e,v',e',sc,b,eb,hq _ _ z⟩
def Hi(H:Hp)(bs:List Addr)(R:List (List Int)):Prop:=bs.length=R.length/\∀(i:Nat) (b:Addr) (row:List Int),bs[i]?=some b->R[i]?=some row->H b=some (.AF (row.map V.int))
theorem Hi.snoc(h:Hi H bs R)(s:∀c ys,H c=some (.AF ys)->H' c=some (.AF ys))(O:H' b=some (.AF (row.map V.int))):Hi H' (bs++[b]) (R++[row]):=by
 refine⟨by rw[oF,oF,h.1];rfl,λi c r F J=>?_⟩;rcases oW i bs.length with z|z
 ·rw[pR z]at F;rw[pR (by rw[<-h.1];exact z)]at J;exact s _ _ (h.2 i c r F J)
 ·have hi:i<bs.length+1:=by
   have:=(oh.mp F).1
   rw[oF]at this;exact this
  have aa:i=bs.length:=()
  subst aa;rw[pE (oz _),vT]at F;rw[h.1,pE (oz _),vT]at J;cases F;cases J;exact O
theorem Hi.keep(h:Hi H bs R)(s:∀c ys,H c=some (.AF ys)->H' c=some (.AF ys)):Hi H' bs R:=⟨h.1,λi b r J F=>s _ _ (h.2 i b r J F)⟩
theorem RO(J:LI φ n)(hi:i<=n):(A4 φ i).flatten.length<=n/\(A4 φ i).length<=n:=by
 have L:=HQ J i hi;have aa:∀x∈(A4 φ i).flatten,Au n x:=λx O=>by
  obtain⟨r,F,O⟩:=pV.mp O;obtain⟨s,hs,_,e,_⟩:=L.of r F;subst e;exact Mj J hs O
 have h1:=HX n _ L.nd aa;refine⟨h1,oO ?_ h1⟩
 have:∀R:List (List Int),(∀r∈R,1<=r.length)->R.length<=R.flatten.length:=by
  intro R
  induction R with
  |nil=>intro _;exact oz _
  |cons r R ih =>
   intro h;have h2:=ih λr' ab=>h r' (pF _ ab)
   have h3:=h r (rh ..);rw[ql,oF,pk]
   lia
 refine this _ λr F=>?_
 obtain⟨s,hs,_,e,_⟩:=L.of r F;subst e;exact sL (Kj J hs)
inductive Tq(vs:List V)(H:Hp)(Q:VK)(_:XK):Prop
 |mk (a:Addr) (bs:List Addr) (ts:List (List Int)) (n:Nat) (O:vs=[.ref a]) (J:JL H a bs ts) (F:DF n ts) (aa:n<=1000) (ab:∀p cs H',AK H H'->H p=none->H' p=some (.AF (cs.map V.ref))->Hi H' cs (A4 (Ar ts) n)->Q (.ref p) H')
theorem Ir:An ["turns","ahead","seen","lands","start","ring","end"] ["turns"] (Ac sRings):=Aw
theorem aT (F:Fun K "rings" "rings" sRings f fd)(G:AX P w K mg base 1 "ends_ahead" ["turns"] Ti)
  (G2:AX P w K mg base 2 "ring_from" ["start","ahead"] VE)
  (ml:mg "len" = none)(mr:mg "range" = none)(mt:mg "tuple" = none):Ai P w K mg base Ae 3 f fd ["turns"] Tq:=by
 refine F.Ax Ir λim A a2 s H vs Q E hr h=>?_
 obtain⟨a,bs,ts,n,rfl,hT,T,hn,q⟩:=h;have hu:=Hh hr;have PM:=T.Ct;exists _,AM (AU 1 Ir (AS G (AA (pv 0) AD)))
  (AM (AU 2 Ir OU)
  (AM (AU 3 Ir (CJ AD))
  (AM (Bk oX rfl (F4 (by rfl) mr (AA (CA OJ (by rfl) ml Gh (AA (pv 1) AD)) AD)) (Ak 4 Ir)
   (AR (BU (HY (L5 hu (pv 4) (pv 2)))
    (AM (AU 5 Ir (AS G2 (AA (pv 4) (AA (pv 1) AD))))
    (AM (Bk oX rfl (Ds (pv 5)) (Ak 6 Ir) (AR (Jj hu (pv 2) (pv 6) NM rfl)))
    (AR (Dr (DD pA qF qG Ed (pv 3) (AA (pv 5) AD)))))) Bg)))
  (AR (Al (D5 E9 (by rfl) mt Dm (AA (pv 3) AD)))))))
 refine⟨_,rfl,a,bs,ts,n,rfl,hT,T,hn,λd H1 s1 nd hd=>?_⟩;intro J af;refine⟨by exact Fx,λO ab=>?_⟩;have s2:AK H1 (AG H1 J (.dK [])):=AW af _;have s3:AK (AG H1 J (.dK [])) (AG (AG H1 J (.dK [])) O (.AE [])):=AW ab _;have a0:d≠J:=BD hd af;have ah:O≠J:=λz=>by rw[z,AQ]at ab;cases ab
 have ao:d≠O:=BD (s2 _ _ hd) ab;have ap:H J=none:=s1.free af;have au:H O=none:=(s1.trans s2).free ab;have a1:(Cy (B6 ts)).length=n:=by rw[kb,T.mE]
 try dsimp only
 try refine JX ?_
 first|refine Jf λaz al=>?_|refine nx_hide λaz al=>?_
 refine⟨_,rfl,d,_,rfl,s3 _ _ (s2 _ _ hd),((Cy (B6 ts)).length:Int),rfl,(),(),?_⟩;rw[show(((Cy (B6 ts)).length:Int)).toNat=n by lia];refine Fb (n:=n) (λi σ H2=>∃st rg en cs,σ=[some (.ref a),some (.ref d),some (.ref J),some (.ref O),st,rg,en]/\AK H H2/\H2 d=some (.dK (Cy (B6 ts)))/\H2 J=some (.dK (KU (A4 (Ar ts) i).flatten)) /\
  H2 O=some (.AE (cs.map V.ref))/\Hi H2 cs (A4 (Ar ts) i)) ⟨none,none,none,[],rfl,s1.trans (s2.trans s3),s3 _ _ (s2 _ _ hd),?_,AQ,⟨rfl,λi b row e1 e2=>by simp at e1⟩⟩ ?_ ?_
 ·rw[AV (qp ah),AQ];rfl
 ·rintro i σ H2 hi ⟨st,rg,en,cs,rfl,sm,ad,aa,ac,hR⟩;have ar:Au n (i:Int):=⟨(),()⟩;have L:=HQ PM i ();exists _,rfl,_,rfl,J,_,rfl,DP.k (k:=pU ((0:Int)+(i:Nat))) aa,_,rfl;rw[Ox,show(0:Int)+(i:Nat)=(i:Int) by lia];by_cases hm:(i:Int)∈(A4 (Ar ts) i).flatten
  ·rw[oH hm];have e0:=YQ hm;refine Br ⟨_,_,_,cs,rfl,sm,ad,?_,ac,?_⟩
   ·rw[aa,e0]
   ·rw[e0];exact hR
  ·rw[oC hm];refine FO ?_;have e1:=YH hm;refine⟨_,rfl,_,rfl,(i:Int),d,ts,n,rfl,ad,T,hn,ar,λr H3 s4 nr ag=>?_⟩;have ay:=sm.trans s4;have aw:r≠J:=λz=>by rw[z,aa]at nr;cases nr
   have ll:=RO PM (i:=i+1) ();rw[e1,rS,oF,oF]at ll;simp only[ql,acr,qS,rn]at ll
   try dsimp only
   try refine JX ?_
   first|refine Jf λax aj=>?_|refine nx_hide λax aj=>?_
   exists _,rfl,r,rfl,⟨_,AH.of ag⟩;refine Ji (xs:=(CC (Ar ts) i).map V.int) (λk σ H4=>∃en,σ=[some (.ref a),some (.ref d),some (.ref J),some (.ref O),some (.int (i:Int)),some (.ref r),en]/\Cz J H3 H4/\H4 J=some (.dK (KU ((A4 (Ar ts) i).flatten++(CC (Ar ts) i).take k))))
    ⟨en,rfl,Cz.refl _ _,by rw[aaF,qS];exact s4 _ _ aa⟩ (λk σ H4 _ ⟨_,_,sb,_⟩=>AH.of (sb _ _ aw ag)) ?_ ?_
   ·rintro k x σ H4 hx ⟨av,rfl,sb,ae⟩;obtain⟨e,rfl,he⟩:=int_at hx;have fr:e∉(A4 (Ar ts) i).flatten++(CC (Ar ts) i).take k:=by
     have am:=(HQ PM (i+1) ()).nd;rw[e1]at am;have aq:(A4 (Ar ts) i++[CC (Ar ts) i])[(A4 (Ar ts) i).length]?=some (CC (Ar ts) i):=by
      rw[pE (oz _),vT];rfl
     have:=OH am aq he
     rw[List.take_append_of_le_length (oz _),qE]at this;exact this
    exists _,rfl,_,rfl,J,_,rfl,FJ.k (k:=pU e) ae ?_
    ·rw[kb,oF,pN];exact GX ()
    ·exists _,rfl,sb.put _;rw[AQ,cR fr,tL,JV he]
   ·rintro σ H4 ⟨av,rfl,sb,ae⟩;subst aj;rw[kb,qE] at ae;have ak:H4 O=some (.AE (cs.map V.ref)):=sb _ _ ah (s4 _ _ ac);refine⟨_,rfl,.inl ⟨rfl,_,AJ.of ak⟩,_,rfl,O,_,_,rfl,rfl,ak,by rw[kb,hR.1]; exact GX (by lia  ),?_⟩;have ai:∀c ys,H3 c=some (.AF ys)->(AG H4 O (.AE (cs.map V.ref++[.ref r]))) c=some (.AF ys):=λc ys e=>by
     have n1:c≠J:=λz=>by rw[z,s4 _ _ aa]at e;cases e
     have n2:c≠O:=λz=>by rw[z,s4 _ _ ac]at e;cases e
     rw[AV n2];exact sb _ _ n1 e
    exists _,_,_,cs++[r],rfl,?_,?_,?_,?_
    ·exact(sb.same ay ap).up au _
    ·rw[AV ao];exact sb _ _ a0 (s4 _ _ ad)
    ·rw[AV (qp ah),ae,e1,rS];simp
    ·rw[AQ,oU];rfl
    ·rw[e1];exact(hR.keep λc ys e=>s4 _ _ e).snoc ai (ai _ _ ag)
 ·rintro σ H2 ⟨st,rg,en,cs,rfl,sm,ad,aa,ac,hR⟩;subst al;refine⟨_,rfl,O,_,rfl,.inl ⟨AJ.of ac,λp hp=>?_⟩⟩;exact q p cs _ (sm.trans (AW hp _)) (sm.free hp) AQ (hR.keep λc ys e=>AW hp _ _ _ e)
def Si:Sp:=λvs H Q _=>∃(a:Addr) (bs:List Addr) (ts:List (List Int)) (n:Nat),vs=[.ref a]/\JL H a bs ts/\DF n ts/\n<=1000 /\
 ∀p H',AK H H'->H p=none->H' p=some (.AF (((oN n).map λe:Nat=>(lk (DQ 0 (A4 (Ar ts) n)) (e:Int)).getD 0).map V.int))->Q (.ref p) H'
theorem LS:An ["turns","numbers","number","ring","end"] ["turns"] (Ac sLandOf):=Aw
theorem kJ:(["end","numbers"]:List Str).Nodup:=by decide +kernel
theorem bW(h:R[j]?=some row)(k:Nat):((DQ 0 (R.take j)++(row.take k).map λe=>(e,(j:Int))).map (·.1))=(R.take j).flatten++row.take k:=by
 rw[oU,Ko,rC];congr 1;exact adh (λ_=>rfl) _
theorem cB(h:R[j]?=some row):DQ 0 (R.take (j+1))=DQ 0 (R.take j)++row.map λe=>(e,(j:Int)):=by
 have F:j<R.length:=(oh.mp h).1;rw[JV h,RY,pN,vd,Nat.min_eq_left ()]
theorem aK(h:R[i]?=some row)(j:Nat):((R.take i).flatten++row.take j).length<=R.flatten.length:=by
 obtain⟨hi,F⟩:=oh.mp h;have O:R=R.take i++row :: R.drop (i+1):=by rw[<-F,tQ,rF]
 have J:R.flatten.length=(R.take i).flatten.length+(row.length+(R.drop (i+1)).flatten.length):=by
  conv=>lhs;rw[O]
  rw[rS,ql,oF,oF]
 rw[J,oF,pN]
 lia
theorem Yt {L:List (Int×Int)}{G:Hp->Prop}(hσ:σ0=[none,some (.ref D)])(hD:H1 D=some (.dK (Cy L)))(hl:∀e:Nat,e<n->∃v,lk L e=some v)(hn:n<=1000)(aa:H1 acc=none)
  (ab:∀H2,AK H1 H2->H2 acc=some (.AE (((oN n).map λe:Nat=>(lk L (e:Int)).getD 0).map V.int))->G H2) :
  ∃W:Nat->Nat->List V->St->Hp->Prop,(∃m,W 0 m [] σ0 (AG H1 acc (.AE [])))/\∀i m ys F H2,W i m ys F H2 →
  ((Ec 0 n).DZ i H2/\G H2)\/((Ec 0 n).go i H2/\∀x H3,(Ec 0 n).De i H2 x H3->BH 0 x F H3 λσ4 H4=>NN (Ag 1) (Ag 0) σ4 H4 λv H5=>H5 acc=some (.AE ys)/\ys.length<oR/\∃m',m' < m/\W (i+1) m' (ys++[v]) σ4 (AG H5 acc (.AE (ys++[v])))):=by
 refine⟨λi m ys F H2=>m=n-i/\i<=n/\AK H1 H2/\H2 acc=some (.AE ys)/\ys=((oN i).map λe:Nat=>(lk L (e:Int)).getD 0).map V.int/\∃u,F=[u,some (.ref D)],⟨n,rfl,o9 _,AW aa _,AQ,rfl,none,hσ⟩,?_⟩;rintro i m ys F H2 ⟨rfl,hi,sm,ha,O,u,rfl⟩;rcases oW i n with J|hge
 ·refine .inr ⟨J,λx H3 yl=>?_⟩;obtain⟨rfl,rfl⟩:=yl;obtain⟨v,hv⟩:=hl i J;refine⟨_,rfl,_,rfl,D,.int v,rfl,?_,ha,?_,n-(i+1),(),rfl,J,?_,AQ,?_,_,rfl⟩
  ·rw[show(0:Int)+(i:Nat)=(i:Int) by lia];exact Oe (sm _ _ hD) hv
  ·rw[O,kb,kb,pC];exact GX ()
  ·exact sm.up aa _
  ·rw[O,zT,oU,oU,oP,rT,hv];rfl
 ·obtain rfl:i=n:=()
  exact .inl ⟨oz _,ab H2 sm (by rw[ha,O])⟩
theorem ZR (F:Fun K "land_of" "land_of" sLandOf f fd)(G:AX P w K mg base 3 "rings" ["turns"] Tq)
  (ml:mg "len" = none)(mr:mg "range" = none)(mt:mg "tuple" = none)(me:mg "enumerate" = none):Ai P w K mg base Ae 4 f fd ["turns"] Si:=by
 refine F.ok LS (λvs H Q E h=>?_) (λim A ap s H vs Q E hr h=>?_)
 ·obtain⟨a,bs,ts,n,rfl,_⟩:=h;rfl
 obtain⟨a,bs,ts,n,rfl,hT,T,hn,q⟩:=h;have hu:=Hh hr;have PM:=T.Ct;have nd:=MM PM;have am:=Xh PM;exists _,AM (AU 1 LS OU)
  (AM (Bk oX rfl (Ml (by rfl) me (AA (AS G (AA (pv 0) AD)) AD)) (CZ rfl (Av (Ak 2 LS) (Av (Ak 3 LS) CV)))
   (AR (Bk oX rfl (Ds (pv 3)) (Ak 4 LS) (AR (Jj hu (pv 1) (pv 4) (pv 2) rfl)))))
  (AR (Al (D5 E9 (by rfl) mt Dm (AA (DN (Nc:=["end","numbers"]) (cap:=[(1,1)]) (g:=BH 0) (te:=NN (Ag 1) (Ag 0)) rfl (F4 (by rfl) mr (AA (CA OJ (by rfl) ml Gh (AA (pv 1) AD)) AD))
   CD
   (λ_ _ _ _ _=>Bj (i:=0) kJ rfl (qL rfl)) (λ_ _ _ _ _=>IM hu (pv 1) (pv 0))) AD)))))
 intro d hd;have s0:AK H (AG H d (.dK [])):=AW hd _;refine⟨_,rfl,a,bs,ts,n,rfl,hT.keep s0,T,hn,λrr cs H1 s1 aq ae hR=>?_⟩;have af:H1 d=some (.dK []):=s1 _ _ AQ;exists rr,_,rfl,ae;refine MI (xs:=cs.map V.ref) (λj σ H2=>∃nu rg O,σ=[some (.ref a),some (.ref d),nu,rg,O]/\Cz d H1 H2/\H2 d=some (.dK (Cy (DQ 0 ((A4 (Ar ts) n).take j))))) ⟨none,none,none,rfl,Cz.refl _ _,af⟩
  (λj σ H2 _ ⟨_,_,_,_,sb,_⟩=>sb _ _ (λz=>by rw[z,af]at ae;cases ae) ae) ?_ ?_
 ·rintro j x σ H2 p hx ⟨nu,rg,O,rfl,sb,ac⟩ hp;obtain⟨b,row,rfl,hb,ab⟩:=UZ hR.1 hx;have ad:=hR.2 j b row hb ab;have bd:b≠d:=λz=>by rw[z,af]at ad;cases ad
  have J:=AW hp (.AF [.int j,.ref b]);exists p,_,rfl,AH.of AQ,rfl,_,_,rfl,_,_,rfl,rfl;have ai:=J _ _ (sb _ _ bd ad);exists _,rfl,b,rfl,⟨_,AH.of ai⟩;refine Ji (xs:=row.map V.int) (λk σ H4=>∃O,σ=[some (.ref a),some (.ref d),some (.int j),some (.ref b),O]/\Cz d H1 H4/\H4 d=some (.dK (Cy (DQ 0 ((A4 (Ar ts) n).take j)++(row.take k).map λe=>(e,(j:Int))))))
   ⟨O,rfl,sb.trans (AK.b J),by rw[aaF,rT,qS];exact J _ _ ac⟩ (λk σ H4 _ ⟨_,_,aa,_⟩=>AH.of (aa _ _ bd ad)) ?_ ?_
  ·rintro k x σ H4 aj ⟨al,rfl,aa,ag⟩;obtain⟨e,rfl,he⟩:=int_at aj;have ky:=bW ab k;exists _,rfl,_,rfl,_,rfl,d,_,rfl,FJ.k (k:=pU e) ag ?_
   ·have l1:=congrArg uf ky;rw[kb]at l1;rw[kb,l1]
    have:=aK ab k
    exact GX ()
   ·exists _,rfl,aa.put _;rw[AQ,TV (by rw[ky];exact OH nd ab he),tL,JV he,oU];rfl
  ·rintro σ H4 ⟨al,rfl,aa,ag⟩;exists _,_,_,rfl,aa;rw[ag,kb,qE,cB ab]
 ·rintro σ H2 ⟨nu,rg,O,rfl,sb,ac⟩;rw[kb,oQ (by rw[hR.1]; exact oz _)] at ac;have sm:AK H H2:=sb.same (s0.trans s1) hd;have ao:(Cy (DQ 0 (A4 (Ar ts) n))).length=n:=by
   have:=congrArg uf (Ko 0 (A4 (Ar ts) n))
   rw[kb,am]at this;rw[kb,this]
  refine⟨_,rfl,d,_,rfl,ac,((Cy (DQ 0 (A4 (Ar ts) n))).length:Int),rfl,(),(),λah ak=>?_⟩;rw[show(((Cy (DQ 0 (A4 (Ar ts) n))).length:Int)).toNat=n by lia];refine Yt rfl ac (λe he=>?_) hn ak λH3 J h3=>?_
  ·refine MU ?_;rw[Ko];exact(Kk PM).mpr ⟨(),()⟩
  ·exact⟨ah,_,rfl,.inl ⟨AJ.of h3,λp hp=>q p _ ((sm.trans J).trans (AW hp _)) ((sm.trans J).free hp) AQ⟩⟩
abbrev Ap:Type:=Nat×Nat×Rat
structure Pk(q:Rat):Prop where
 pos:0<q.num
 top:q.num<1000
 oA:(q.den:Int)<1000
variable {f g h f1 f2 f3 f4:Addr}{fd gd hd d1 d2 d3 d4:qU}
theorem Vc(h:2<=n):HT.Ad n n (some 2)=2:=by simp[HT.Ad];omega
def EN(F:List Nat)(i:Nat):List Int:=((oN F.length).filter λe=>decide (F[e]?=some i)).map (λe:Nat=>(e:Int))
theorem Yf(F:List Nat)(p i:Nat):EN (F++[p]) i=if p=i then EN F i++[(F.length:Int)] else EN F i:=by
 unfold EN;rw[oF,rn,zT,tV,oU];have O:(oN F.length).filter (λe=>decide ((F++[p])[e]?=some i))=(oN F.length).filter λe=>decide (F[e]?=some i) :=
  List.filter_congr λx hx=>by rw[pR (pW.mp hx)]
 have J:(F++[p])[F.length]?=some p:=by simp
 rw[O];by_cases h:p=i
 ·rw[oH h,zN (by rw[J,h];simp)];rfl
 ·rw[oC h,zL (by rw[J];simpa using h)];simp
theorem ZZ:x∈EN hs i↔0<=x/\hs[x.toNat]?=some i:=by
 unfold EN;rw[oI];constructor
 ·rintro⟨e,F,rfl⟩;rw[rW]at F;exact⟨(),by simpa using F.2⟩
 ·rintro⟨J,h1⟩;refine⟨x.toNat,rW.mpr ⟨pW.mpr (oh.mp h1).1,by simpa using h1⟩,()⟩
theorem bZ(F:List Nat)(i:Nat):(EN F i).Pairwise (· < ·):=by
 unfold EN;rw[sO];refine xf (λh=>by omega) (tu.filter _ (ug))
def E1(rs:List Ap):List Nat:=rs.flatMap λr=>[r.1,r.2.1]
def hm(rs:List Ap):List Nat:=E1 rs++[0,1]
theorem Mf:∀rs:List Ap,(E1 rs).length=2*rs.length
 |[]=>rfl
 |r :: rs=>by show(r.1 :: r.2.1 :: E1 rs).length=_;simp[Mf rs];lia
theorem NI(rs:List Ap):(hm rs).length=2*rs.length+2:=by unfold hm;rw[oF,Mf];rfl
theorem aM(rs:List Ap)(r:Ap):E1 (rs++[r])=E1 rs++[r.1]++[r.2.1]:=by unfold E1;simp
structure Fq(n:Nat)(rs:List Ap)(ts:List (List Int)):Prop where
 m1:1<=rs.length
 KZ:rs.length<=14
 n2:2<=n
 nH:n<=15
 len:ts.length=n
 tn:DF (2*rs.length+2) ts
 ne:∀t∈ts,t≠[]
 Ng:∀r∈rs,Pk r.2.2/\r.1<n/\r.2.1<n
 Nb:∀(p:Nat) (t:List Int),ts[p]?=some t->∀x:Int,x∈t->(hm rs)[x.toNat]?=some p
 Ho:∀S:Nat->Prop,S 0->(∀r∈rs,(S r.1↔S r.2.1))->∀p,p<n->S p
theorem UI(F:ts.flatten.Nodup)(h:t∈ts):t.Nodup:=by
 obtain⟨A,B,rfl⟩:=vF h;rw[rS,ql,qD,qD]at F;exact F.2.1.1
theorem Fq.Ct{n:Nat}(k:Fq n rs ts){p:Nat}(h:ts[p]?=some t):t.Perm (EN (hm rs) p):=by
 have tm:=oi h;refine(List.perm_ext_iff_of_nodup (UI k.tn.nd tm) ((bZ _ _).imp λh=>())).mpr λx=>?_
 rw[ZZ];constructor
 ·intro F;exact⟨((k.tn.mem x).mp (pV.mpr ⟨t,tm,F⟩)).1,k.Nb p t h x F⟩
 ·rintro⟨h0,h1⟩;have hl:=(oh.mp h1).1;rw[NI]at hl;obtain⟨t',O,F⟩:=pV.mp ((k.tn.mem x).mpr ⟨h0,()⟩);obtain⟨j,hj,e⟩:=qV O;have J:ts[j]?=some t':=by rw[og hj,e]
  have:=k.Nb j t' J x F
  rw[h1]at this;obtain rfl:p=j:=oV this;rw[h]at J;cases J;exact F
variable {C f5 f6:Addr}{d5 d6:qU}
theorem ZM:qY "sorted" = some (.builtin "sorted"):=by decide +kernel
open Wd
def ES(L:List (List Int))(x:Int):Nat:=L.findIdx λr=>decide (x∈r)
theorem K0(h:x∈L.flatten):∃r,L[ES L x]?=some r/\x∈r:=by
 obtain⟨r,J,O⟩:=pV.mp h;have F:ES L x<L.length:=List.findIdx_lt_length_of_exists ⟨r,J,qC O⟩;exact⟨L[ES L x],og F,of_decide_eq_true (List.findIdx_getElem (w:=F))⟩
theorem kg(nd:L.flatten.Nodup)(h1:L[i]?=some r)(h2:L[j]?=some s)(hx:x∈r)(J:x∈s):i=j:=by
 have F:=(aaE.mp nd).2;rw[qg]at F;obtain⟨l1,e1⟩:=oh.mp h1;obtain⟨l2,O⟩:=oh.mp h2;rcases vN i j with z|z|z
 ·exact absurd rfl (F i j l1 l2 z x (by rw[e1];exact hx) x (by rw[O];exact J))
 ·exact z
 ·exact absurd rfl (F j i l2 l1 z x (by rw[O];exact J) x (by rw[e1];exact hx))
theorem Tw(O:L.flatten.Nodup)(F:L[l]?=some r)(J:x∈r):ES L x=l:=by
 obtain⟨r',h1,h2⟩:=K0 (pV.mpr ⟨r,oi F,J⟩);exact kg O h1 F h2 J
theorem Yr(T:DF n us)(hx:Au n x):ES (A4 (Ar us) n) (Ar us x)=ES (A4 (Ar us) n) x:=by
 have P:=T.Ct;obtain⟨r,h1,h2⟩:=K0 ((Kk P).mpr hx);obtain⟨O,J,_⟩:=MK P (oi h1);have F:=h2;rw[J]at F
 have:=Zs P O F
 rw[<-J]at this;exact Tw (MM P) h1 this
theorem TU:∀(L:List (List Int)) (i:Nat) (l:Nat) (r:List Int) (x:Int),L[l]?=some r->x∈r->(x,((i+l:Nat):Int))∈DQ i L
 |[],i,l,r,x,h,_=>by cases l<;>cases h
 |c :: L,i,0,r,x,h,hx=>by cases h;exact oM.mpr (.inl (oI.mpr ⟨x,hx,#v[]⟩))
 |c :: L,i,l+1,r,x,h,hx=>by
  have:=TU L (i+1) l r x (by simpa using h) hx
  rw[show i+1+l=i+(l+1) by lia]at this;exact oM.mpr (.inr this)
theorem jZ(F:L.flatten.Nodup)(h:x∈L.flatten):lk (DQ 0 L) x=some ((ES L x:Nat):Int):=by
 obtain⟨r,h1,h2⟩:=K0 h
 have:=TU L 0 _ r x h1 h2
 rw[vd]at this;exact VW (by rw[Ko];exact F) this
theorem ML(f:Int->Rat)(F:List Nat)(q p:Nat):((EN (F++[q]) p).map f).sum=((EN F p).map f).sum+if p=q then f (F.length:Int) else 0:=by
 rw[Yf];by_cases e:q=p
 ·rw[oH e,oH e.symm,oU,acO];simp;grind
 ·rw[oC e,oC (λz=>e z.symm)];grind
theorem SA{f:Int->Rat}(F:∀(k:Nat) (r:Ap),rs[k]?=some r->f (2*(k:Int))=BI Y r/\f (2*(k:Int)+1)=- BI Y r)(p:Nat):∀j,j<=rs.length->((EN (E1 (rs.take j)) p).map f).sum=CS Y (rs.take j) p
 |0,_=>by simp[E1,EN,CS]
 |j+1,hj=>by
  have e:rs[j]?=some rs[j]:=og hj;have J:(E1 (rs.take j)).length=2*j:=by rw[Mf,pN];lia
  rw[OE e,JV e,aM,ML,ML,SA F p j (),oF,J];obtain⟨e1,O⟩:=F j _ e;rw[show((2*j:Nat):Int)=2*(j:Int) by lia,show((2*j+[rs[j].1].length:Nat):Int)=2*(j:Int)+1 by simp,e1,O];unfold DS;split<;>split<;>grind
theorem Fq.Cs{f:Int->Rat}(k:Fq n rs ts)(J:∀(k:Nat) (r:Ap),rs[k]?=some r->f (2*(k:Int))=BI Y r/\f (2*(k:Int)+1)=- BI Y r)(F:ts[i]?=some t):(t.map f).sum=CS Y rs i+(if i=0 then f (2*(rs.length:Int)) else 0)+if i=1 then f (2*(rs.length:Int)+1) else 0:=by
 rw[SQ ((k.Ct F).map f)];show((EN (E1 rs++[0,1]) i).map f).sum=_;rw[show E1 rs++[0,1]=E1 rs++[0]++[1] by simp,ML,ML,oF,Mf];have s:=SA J i rs.length (oz _);rw[qE]at s;rw[s,show((2*rs.length:Nat):Int)=2*(rs.length:Int) by lia,show((2*rs.length+[0].length:Nat):Int)=2*(rs.length:Int)+1 by simp]
structure JD(rs:List Ap)(ts:List (List Int))(Y:Nat->Rat)(p:Int->Rat):Prop where
 Qd:∀x,Au (2*rs.length+2) x->p (Ar ts x)=p x
 df:∀(k:Nat) (r:Ap),rs[k]?=some r->p (2*(k:Int))-p (2*(k:Int)+1)=BI Y r
 o:p (2*(rs.length:Int))=0
theorem Sn(k:Fq n rs ts)(h:JD rs ts Y p)(hi:i<n):CS Y rs i=if i=0 then p (2*(rs.length:Int)+1) else if i=1 then-p (2*(rs.length:Int)+1) else 0:=by
 have J:ts[i]?=some (ts[i]'(by rw[k.len];exact hi)):=og _;generalize ts[i]'(by rw[k.len];exact hi)=t at J;have tm:=oi J;have F:∀j:Nat,Cu (2*(j:Int))=2*(j:Int)+1/\Cu (2*(j:Int)+1)=2*(j:Int):=λj=>by
  unfold Cu;rw[oH (),oC ()];lia
 have e:=k.Cs (f:=λx=>p x-p (Cu x)) (Y:=Y) (λj r O=>by
  have:=h.df j r O
  rw[(F j).1,(F j).2];exact⟨this,by grind⟩) J
 have z:(t.map λx=>p x-p (Cu x)).sum=0:=by
  rw[bJ (g:=λx=>p x+(-1)*p (pr ts x)) (λx hx=>by
   have xi:=(k.tn.mem x).mp (pV.mpr ⟨t,tm,hx⟩)
   have:=h.Qd _ (K8 k.tn.Na xi)
   rw[PR,Ky]at this;rw[this];grind),Tx,RP,cA k.tn.nd tm p]
  grind
 rw[z]at e;rw[(F _).1,(F _).2,h.o]at e;split at e
 ·rename_i a;subst a
  rw[oH rfl];simp at e;grind
 ·rename_i a
  rw[oC a];split at e
  ·rename_i b;rw[oH b];grind
  ·rename_i b;rw[oC b];grind
def EW(ts:List (List Int))(n:Nat)(p:Int->Rat)(j:Int):Rat:=p (((A4 (Ar ts) n).getD j.toNat []).headD 0)
theorem bC(T:DF n ts)(O:∀x,Au n x->p (Ar ts x)=p x)(hx:Au n x):EW ts n p ((ES (A4 (Ar ts) n) x:Nat):Int)=p x:=by
 have P:=T.Ct;obtain⟨r,h1,h2⟩:=K0 ((Kk P).mpr hx);obtain⟨F,J,_⟩:=MK P (oi h1);unfold EW;rw[sN,oj,h1];show p (r.headD 0)=p x;rw[J]at h2;obtain⟨k,_,e⟩:=FZ.mp h2;rw[<-e];exact(Sy P F O k).symm
theorem T4(T:DF n ts)(F:Au n x):ES (A4 (Ar ts) n) x<(A4 (Ar ts) n).length:=by
 obtain⟨r,h1,_⟩:=K0 ((Kk T.Ct).mpr F);exact(oh.mp h1).1
theorem Rb(T:DF n ts)(O:j<(A4 (Ar ts) n).length):∃x,Au n x/\ES (A4 (Ar ts) n) x=j:=by
 have h1:(A4 (Ar ts) n)[j]?=some (A4 (Ar ts) n)[j]:=og O;obtain⟨F,J,_⟩:=MK T.Ct (oi h1);refine⟨_,F,Tw (MM T.Ct) h1 ?_⟩
 have:=Kj T.Ct F
 rw[<-J]at this;exact this
def Vy(ts:List (List Int))(m:Nat):Prop:=∀S:Int->Prop,(∀x,Au (2*m+2) x->(S x↔S (Ar ts x)))->(∀k:Nat,k<m->(S (2*(k:Int))↔S (2*(k:Int)+1)))->S (2*(m:Int))->∀x,Au (2*m+2) x->S x
end
end My
namespace My
open PySem L2 Mth Wd
variable {e:Int}{ts:List (List Int)}
abbrev DK(l:List (Int×Addr)):List (Aq×V):=l.map λp=>(pU p.1,V.ref p.2)
theorem JT:∀{l:List (Int×Addr)},e∉l.map (·.1)->Bm (DK l) (pU e:Aq)=none
 |[],_=>rfl
 |p :: l,h=>by
  show Bm ((pU p.1,V.ref p.2) :: DK l) (pU e:Aq)=_;rw[D6 (p:=((pU p.1:Aq),V.ref p.2)) (λz=>h (by rw[<-Sum.inl.inj z];simp)),JT (λz=>h (by simp only[oP];exact pF _ z))]
theorem MP:∀{l:List (Int×Addr)},e∈l.map (·.1)->∃a,(e,a)∈l/\Bm (DK l) (pU e:Aq)=some (.ref a)
 |p :: l,h=>by
  show ∃a,(e,a)∈p :: l/\Bm ((pU p.1,V.ref p.2) :: DK l) (pU e:Aq)=some (.ref a);by_cases z:p.1=e
  ·exact⟨p.2,by rw[<-z];exact rh ..,by rw[EK (p:=((pU p.1:Aq),V.ref p.2)) (by rw[z])]⟩
  ·have F:e∈l.map (·.1):=by
    rw[oP]at h;rcases oG.mp h with y|y
    ·exact absurd y.symm z
    ·exact y
   obtain⟨a,h1,h2⟩:=MP F;exact⟨a,pF _ h1,by rw[D6 (p:=((pU p.1:Aq),V.ref p.2)) (λy=>z (aaj y))];exact h2⟩
theorem fX(h:e∉l.map (·.1)):CM (DK l) (pU e:Aq) (.ref a)=DK (l++[(e,a)]):=by
 rw[Og (JT h)];simp
structure CO(H:Hp)(L:Nat)(P:Int->Rat)(Z:Int)(N:Nat)(l:List (Int×Addr)):Prop where
 nd:(l.map (·.1)).Nodup
 Bz:∀q∈l,Au L q.1
 fr:∀q∈l,AO H q.2 (P q.1)/\Uw Z N l.length (P q.1)
section
variable {H H':Hp}{L:Nat}{P:Int->Rat}{Z:Int}{N:Nat}{l:List (Int×Addr)}
theorem CO.keep(k:CO H L P Z N l)(s:AK H H'):CO H' L P Z N l:=⟨k.nd,k.Bz,λq F=>⟨A9 s (k.fr q F).1,(k.fr q F).2⟩⟩
theorem CO.VO(k:CO H L P Z N l)(hd:H d=some (.dK kv))(o:HO):CO (AG H d o) L P Z N l:=⟨k.nd,k.Bz,λq F=>⟨by
 have h:H q.2=_:=(k.fr q F).1;show AG H d o q.2=_;rw[AV (λz=>by rw[z,hd]at h;cases h)];exact h,(k.fr q F).2⟩⟩
theorem CO.len(k:CO H L P Z N l):l.length<=L:=by
 have:=HX L (l.map (·.1)) k.nd (λx J=>by
  obtain⟨q,F,rfl⟩:=oI.mp J;exact k.Bz q F)
 rwa [kb]at this
theorem CO.Aj(O:Au L e)(h:AO H a 0)(J:P e=0):CO H L P Z N [(e,a)]:=by
 refine⟨#v[],λq F=>?_,λq F=>?_⟩
 ·rw[pH.mp F];exact O
 ·rw[pH.mp F,J];exact⟨h,(Uw.zero Z N).mono ()⟩
theorem CO.Dc(k:CO H L P Z N l)(O:e∉l.map (·.1))(he:Au L e)(h:AO H a (P e))(u:Uw Z N (l.length+1) (P e)):CO H L P Z N (l++[(e,a)]):=by
 refine⟨?_,λq F=>?_,λq F=>?_⟩
 ·rw[oU,qD];refine⟨k.nd,#v[],λx hx y J=>?_⟩;simp only[oP,rT,pH]at J;subst J;exact λz=>O (z ▸ hx)
 ·rcases oM.mp F with z|z
  ·exact k.Bz q z
  ·rw[pH.mp z];exact he
 ·rw[oF];rcases oM.mp F with z|z
  ·exact⟨(k.fr q z).1,(k.fr q z).2.mono #v[]⟩
  ·rw[pH.mp z];exact⟨h,u⟩
theorem CO.all(k:CO H L P Z N l)(h:L<=l.length)(F:Au L e):e∈l.map (·.1):=by
 by_cases z:e∈l.map (·.1)
 ·exact z
 ·have:=HX L (e :: l.map (·.1)) (qt.mpr ⟨z,k.nd⟩) (λx hx=>by
   rcases oG.mp hx with rfl|hx
   ·exact F
   ·obtain⟨q,J,rfl⟩:=oI.mp hx;exact k.Bz q J)
  rw[pk,kb]at this
  lia
end
def EU(ts:List (List Int))(n:Nat):List Int:=(oN n).map λe:Nat=>((ES (A4 (Ar ts) n) (e:Int):Nat):Int)
theorem jP(T:DF n ts):((oN n).map λe:Nat=>(lk (DQ 0 (A4 (Ar ts) n)) (e:Int)).getD 0)=EU ts n:=by
 unfold EU;refine sQ λe F=>?_
 have:=pW.mp F
 rw[jZ (MM T.Ct) ((Kk T.Ct).mpr ⟨(),()⟩)];rfl
theorem Uy{n e:Nat}(h:e<n):BY ((EU ts n).map V.int) ((e:Nat):Int)=some (.int ((ES (A4 (Ar ts) n) (e:Int):Nat):Int)) :=
 BE (iB (by unfold EU;rw[om,qc h];rfl))
theorem fK(ts:List (List Int))(n:Nat):(EU ts n).length=n:=by unfold EU;rw[kb,pC]
theorem dE(T:DF n ts)(J:x∈EU ts n)(h:∀a∈EU ts n,a<=x):x=((A4 (Ar ts) n).length:Int)-1:=by
 have mm:∀e,Au n e->((ES (A4 (Ar ts) n) e:Nat):Int)∈EU ts n:=λe F=>by
  unfold EU;exact oI.mpr ⟨e.toNat,pW.mpr (by have:=F.1;have:=F.2;lia),by rw[show((e.toNat:Nat):Int)=e by have:=F.1;lia]⟩
 unfold EU at J;obtain⟨e,F,rfl⟩:=oI.mp J
 have:=pW.mp F
 have l1:=T4 T (x:=(e:Int)) ⟨(),()⟩;obtain⟨y,O,ey⟩:=Rb T (j:=(A4 (Ar ts) n).length-1) ()
 have:=h _ (mm y O)
 rw[ey]at this
 lia
structure XT(rs:List Ap)(Y:Nat->Rat)(Z:Int)(N:Nat):Prop where
 z0:Z≠0
 zl:Z.natAbs<=2 ^ 2224
 nl:N<=2235
 ru:∀r∈rs,Uw Z N 1 (BI Y r)
structure D3(rs:List Ap)(ts:List (List Int))(Y:Nat->Rat)(p:Int->Rat)(Z:Int)(N:Nat):Prop where
 KZ:rs.length<=14
 tn:DF (2*rs.length+2) ts
 hg:Vy ts rs.length
 pp:JD rs ts Y p
 wd:XT rs Y Z N
abbrev BA(rs:List Ap)(ts:List (List Int))(x:Int):Int:=((ES (A4 (Ar ts) (2*rs.length+2)) x:Nat):Int)
abbrev CY(rs:List Ap)(ts:List (List Int)):Nat:=(A4 (Ar ts) (2*rs.length+2)).length
section
variable {rs:List Ap}{ts:List (List Int)}{Y:Nat->Rat}{p:Int->Rat}{Z:Int}{N:Nat}{H:Hp}{l:List (Int×Addr)}
theorem D3.in(D:D3 rs ts Y p Z N)(F:Au (2*rs.length+2) x):Au (CY rs ts) (BA rs ts x):=⟨by unfold BA;lia,by unfold BA CY;have:=T4 D.tn F;lia⟩
theorem D3.le(D:D3 rs ts Y p Z N):CY rs ts<=30:=by
 have:=(RO D.tn.Ct (oz _)).2
 have:=D.KZ
 unfold CY
 lia
theorem D3.at(D:D3 rs ts Y p Z N)(F:Au (2*rs.length+2) x):EW ts (2*rs.length+2) p (BA rs ts x)=p x:=bC D.tn D.pp.Qd F
theorem D3.sf(D:D3 rs ts Y p Z N)(h:Uw Z N c q)(F:c<=64):Sf q:=h.sf D.wd.z0 D.wd.zl F (by have:=D.wd.nl;lia)
theorem D3.nE (D:D3 rs ts Y p Z N)(k:CO H (CY rs ts) (EW ts (2*rs.length+2) p) Z N l)(h0:BA rs ts (2*(rs.length:Int))∈l.map (·.1))
  (cl:∀j:Nat,j<rs.length->(BA rs ts (2*(j:Int))∈l.map (·.1)↔BA rs ts (2*(j:Int)+1)∈l.map (·.1))):CY rs ts<=l.length:=by
 have all:=D.hg (λx=>BA rs ts x∈l.map (·.1)) (λx F=>by rw[show BA rs ts (Ar ts x)=BA rs ts x by unfold BA;rw[Yr D.tn F]]) cl h0
 have:=Kz ((oN (CY rs ts)).map λj:Nat=>(j:Int)) (l.map (·.1)) (by
  rw[yW,sO];exact xf (λh e=>h ()) xu) (λx F=>by
  obtain⟨j,hj,rfl⟩:=oI.mp F;obtain⟨y,O,J⟩:=Rb D.tn (pW.mp hj)
  have:=all y O
  unfold BA at this
  rwa [J]at this)
 rwa [kb,kb,pC]at this
theorem D3.step(D:D3 rs ts Y p Z N)(k:CO H (CY rs ts) (EW ts (2*rs.length+2) p) Z N l){j:Nat}(hj:rs[j]?=some r):
  (BA rs ts (2*(j:Int)+1)∈l.map (·.1)->∃a,(BA rs ts (2*(j:Int)+1),a)∈l/\Bm (DK l) (pU (BA rs ts (2*(j:Int)+1)):Aq)=some (.ref a)/\AO H a (p (2*(j:Int)+1))/\Sf (p (2*(j:Int)+1)) /\
   (BA rs ts (2*(j:Int))∉l.map (·.1)->∀b H',AK H H'->AO H' b (p (2*(j:Int)+1)+BI Y r)->CO H' (CY rs ts) (EW ts (2*rs.length+2) p) Z N (l++[(BA rs ts (2*(j:Int)),b)]))) /\
  (BA rs ts (2*(j:Int))∈l.map (·.1)->∃a,(BA rs ts (2*(j:Int)),a)∈l/\Bm (DK l) (pU (BA rs ts (2*(j:Int))):Aq)=some (.ref a)/\AO H a (p (2*(j:Int)))/\Sf (p (2*(j:Int))) /\
   (BA rs ts (2*(j:Int)+1)∉l.map (·.1)->∀b H',AK H H'->AO H' b (p (2*(j:Int))-BI Y r)->CO H' (CY rs ts) (EW ts (2*rs.length+2) p) Z N (l++[(BA rs ts (2*(j:Int)+1),b)]))):=by
 have jl:=(oh.mp hj).1;have J:Au (2*rs.length+2) (2*(j:Int)):=⟨(),by push_cast;lia⟩;have F:Au (2*rs.length+2) (2*(j:Int)+1):=⟨(),by push_cast;lia⟩;have df:=D.pp.df j r hj;have ru:=D.wd.ru r (oi hj);have kl:=k.len;have aa:=D.le;constructor
 ·intro h;obtain⟨a,h1,h2⟩:=MP h;obtain⟨f1,f2⟩:=k.fr _ h1;dsimp only at f1 f2;rw[D.at F]at f1 f2;refine⟨a,h1,h2,f1,D.sf f2 (),λhn b H' s O=>?_⟩;have e:p (2*(j:Int)+1)+BI Y r=p (2*(j:Int)):=by grind
  refine(k.keep s).Dc hn (D.in J) ?_ ?_
  ·rw[D.at J,<-e];exact O
  ·rw[D.at J,<-e];exact f2.Dc ru
 ·intro h;obtain⟨a,h1,h2⟩:=MP h;obtain⟨f1,f2⟩:=k.fr _ h1;dsimp only at f1 f2;rw[D.at J]at f1 f2;refine⟨a,h1,h2,f1,D.sf f2 (),λhn b H' s O=>?_⟩;have e:p (2*(j:Int))-BI Y r=p (2*(j:Int)+1):=by grind
  refine(k.keep s).Dc hn (D.in F) ?_ ?_
  ·rw[D.at F,<-e];exact O
  ·rw[D.at F,<-e];exact f2.sub ru
end
end My
namespace My
open PySem L2 Mth Wd
variable {ts:List (List Int)}{rs:List Ap}{Y:Nat->Rat}
def Lh(x y:Rat):Rat:=if y<x then y else x
def Li(x y:Rat):Rat:=if y<x then x else y
theorem Ob(h:j<=rs.length):BY ((EU ts (2*rs.length+2)).map V.int) (2*(j:Int))=some (.int (BA rs ts (2*(j:Int)))):=by
 have:=Uy (ts:=ts) (n:=2*rs.length+2) (e:=2*j) ()
 rwa [show((2*j:Nat):Int)=2*(j:Int) by lia]at this
theorem Ov(h:j<=rs.length):BY ((EU ts (2*rs.length+2)).map V.int) (2*(j:Int)+1)=some (.int (BA rs ts (2*(j:Int)+1))):=by
 have:=Uy (ts:=ts) (n:=2*rs.length+2) (e:=2*j+1) ()
 rwa [show((2*j+1:Nat):Int)=2*(j:Int)+1 by lia]at this
section
variable {P:pG}{w:World}{K:ow}{mg:Str->Option Value}{base:Heap}{f g h f1 f2 f3 f4 f5:Addr}{fd gd hd d1 d2 d3 d4 d5:qU}
inductive VH(vs:List V)(H:Hp)(Q:VK)(_:XK):Prop
 |mk (p q:Addr) (x y:Rat) (O:vs=[.ref p,.ref q]) (J:AO H p x) (F:AO H q y) (aa:Sf x) (ab:Sf y) (ac:Q (.bl (decide (x<y))) H)
theorem kQ:An ["one","other"] ["one","other"] (Ac s_less):=Aw
theorem cZ(F:Fun K "less" "less" s_less f fd):Ai P w K mg base Ae 1 f fd ["one","other"] VH:=by
 refine F.Ax kQ λim A aa s H vs Q E hr h=>?_
 obtain⟨p,q,x,y,rfl,O,J,sx,sy,k⟩:=h;exists _,AR (Al (EH Gq (AN DM (pT (pv 0) AB) (pT (pv 1) AB)) (AN DM (pT (pv 1) AB) (pT (pv 0) AB))));rw[show decide (x<y)=decide (x.num*(y.den:Int)<y.num*(x.den:Int)) from decide_eq_decide.mpr (Rat.lt_iff x y)]at k;exact⟨_,G,p,_,_,_,G,G,AH.of O,BG,_,G,q,_,_,_,G,G,AH.of J,Az,_,_,G,G,⟨sx.n,sy.d⟩,_,G,q,_,_,_,G,G,AH.of J,BG,_,G,p,_,_,_,G,G,AH.of O,Az,_,_,G,G,⟨sy.n,sx.d⟩,_,_,G,G,k⟩
inductive Vr(vs:List V)(H:Hp)(Q:VK)(_:XK):Prop
 |mk (p q:Addr) (x y:Rat) (O:vs=[.ref p,.ref q]) (J:AO H p x) (F:AO H q y) (aa:Sf x) (ab:Sf y) (ac:∀t a b,H t=none->AO H a (Lh x y)->AO H b (Li x y)->Q (.ref t) (AG H t (.AF [.ref a,.ref b])))
theorem mD:An ["one","other"] ["one","other"] (Ac s_rising):=Aw
theorem Yp(F:Fun K "rising" "rising" s_rising f fd)(G:AX P w K mg base 1 "less" ["one","other"] VH):Ai P w K mg base Ae 2 f fd ["one","other"] Vr:=by
 refine F.Ax mD λim A aa s H vs Q E hr h=>?_
 obtain⟨p,q,x,y,rfl,hp,O,sx,sy,k⟩:=h;exists _,AR (Al (SY (Ei (AS G (AA (pv 1) (AA (pv 0) AD)))) (BB (AA (pv 1) (AA (pv 0) AD))) (BB (AA (pv 0) (AA (pv 1) AD)))));exists _,rfl,_,rfl,q,p,y,x,rfl,O,hp,sy,sx,_,rfl;unfold Lh Li at k;by_cases z:y<x
 ·rw[oH z,oH z]at k;exact By z ⟨_,rfl,_,rfl,by exact CI,λt J=>k t q p J O hp⟩
 ·rw[oC z,oC z]at k;exact Be z ⟨_,rfl,_,rfl,by exact CI,λt J=>k t p q J hp O⟩
inductive S6(vs:List V)(H:Hp)(Q:VK)(_:XK):Prop
 |mk (a b:Addr) (rs:List Ap) (ts:List (List Int)) (Y:Nat->Rat) (p:Int->Rat) (Z:Int) (N:Nat) (O:vs=[.ref a,.ref b]) (ab:H a=some (.AF ((EU ts (2*rs.length+2)).map V.int))) (J:As AO H b (rs.map (BI Y))) (aa:D3 rs ts Y p Z N)
  (F:∀d l H',AK H H'->H' d=some (.dK (DK l))->CO H' (CY rs ts) (EW ts (2*rs.length+2) p) Z N l->CY rs ts<=l.length->Q (.ref d) H')
theorem JE:An ["lands","widths","outer","sides","k","width","right","left"] ["lands","widths"] (Ac s_land_sides):=Aw
seal L2.Cd L2.PS L2.PE L2.PA in
theorem Zw (F:Fun K "land_sides" "land_sides" s_land_sides f fd)(G1:AX P w K mg base 3 "plus" ["one","other"] (C1 λx y=>x+y))
  (G2:AX P w K mg base 3 "minus" ["one","other"] (C1 λx y=>x-y))(ml:mg "len" = none)(mx:mg "max" = none)(me:mg "enumerate" = none):Ai P w K mg base Ae 4 f fd ["lands","widths"] S6:=by
 refine F.Ax JE λim A a1 s H vs Q E hr h=>?_
 obtain⟨a,b,rs,ts,Y,p,Z,N,rfl,ha,⟨bs,hb,hB⟩,D,q⟩:=h;have hu:=Hh hr;exists _,AM (AU 2 JE (C8 ml (pv 1)))
  (AM (AU 3 JE (fV (cK (pT (pv 0) (AN DU AB (pv 2))) (BB (AA AB (AA AB AD))) eC) rfl rfl (λz=>by cases z) ∅))
  (AM (Kn oX (BF LD (CA OJ (by rfl) ml Gh (AA (pv 3) AD)) (CA (ZV rfl) (by rfl) mx Mx (AA (pv 0) AD)))
   (AR (Bk oX rfl (Ml (by rfl) me (AA (pv 1) AD)) (CZ (n:=2) rfl (Av (Ak 4 JE) (Av (Ak 5 JE) CV)))
    (AM (AU 6 JE (pT (pv 0) (AN DU AB (pv 4))))
    (AM (AU 7 JE (pT (pv 0) (AN BM (AN DU AB (pv 4)) AB)))
    (AR (BU (PW.pt (Ek (HY (VD hu (pv 7) (pv 3))) (HU (HY (L5 hu (pv 6) (pv 3))))))
     (AR (Jj hu (pv 3) (pv 6) (AS G1 (AA (IM hu (pv 3) (pv 7)) (AA (pv 5) AD))) rfl))
     (AR (BU (PW.pt (Ek (HY (VD hu (pv 6) (pv 3))) (HU (HY (L5 hu (pv 7) (pv 3))))))
      (AR (Jj hu (pv 3) (pv 7) (AS G2 (AA (IM hu (pv 3) (pv 6)) (AA (pv 5) AD))) rfl)) Bg)))))))))
  (AR (Al (pv 3)))))
 have a0:=D.KZ;have lb:bs.length=rs.length:=by rw[hB.1,kb]
 have i0:Au (2*rs.length+2) (2*(rs.length:Int)):=⟨(),by push_cast;lia⟩;exists _,G,b,_,G,.inr (AH.of hb);rw[kb,lb];intro d hd;refine BS hd (.dK []) λH1 s1 e1=>?_
 refine⟨_,G,_,G,_,_,G,G,.inl ⟨∅,∅⟩,a,_,_,_,G,G,AH.of (s1 _ _ ha),Ob (oz _),by exact CI,λz hz=>?_⟩;refine BS hz (.AF [.int 0,.int 1]) λH2 s2 zz=>?_
 have fz:AO H2 z 0:=zz;have e2:=s2 _ _ e1;refine⟨e2,[(pU (BA rs ts (2*(rs.length:Int))),.ref z)],G,by show 1<=15;decide,?_⟩;have s3:AK H (AG H2 d (.dK (Gj [] [((pU (BA rs ts (2*(rs.length:Int))):Aq),V.ref z)]))):=(s1.trans s2).up hd _;have e3:(AG H2 d (.dK (Gj [] [((pU (BA rs ts (2*(rs.length:Int))):Aq),V.ref z)]))) d=some (.dK (DK [(BA rs ts (2*(rs.length:Int)),z)])):=AQ;have k3:CO (AG H2 d (.dK (Gj [] [((pU (BA rs ts (2*(rs.length:Int))):Aq),V.ref z)]))) (CY rs ts) (EW ts (2*rs.length+2) p) Z N [(BA rs ts (2*(rs.length:Int)),z)] :=
  (CO.Aj (D.in i0) fz (by rw[D.at i0];exact D.pp.o)).VO e2 _
 generalize AG H2 d (.dK (Gj [] [((pU (BA rs ts (2*(rs.length:Int))):Aq),V.ref z)]))=H3 at s3 e3 k3;have ad:a≠d:=λz=>by rw[z,hd]at ha;cases ha
 have bd:b≠d:=λz=>by rw[z,hd]at hb;cases hb
 refine Kt (λσ H4=>∃l u1 u2 u3 u4,σ=[some (.ref a),some (.ref b),some (.int (rs.length:Int)),some (.ref d),u1,u2,u3,u4]/\AK H H4/\H4 d=some (.dK (DK l))/\CO H4 (CY rs ts) (EW ts (2*rs.length+2) p) Z N l/\BA rs ts (2*(rs.length:Int))∈l.map (·.1))
  (λ_ H4=>match H4 d with|some (.dK kv)=>CY rs ts-kv.length|_=>0) ⟨_,none,none,none,none,G,s3,e3,k3,#v[]⟩ ?_ ?_
 ·rintro σ H4 ⟨l,u1,u2,u3,u4,rfl,s4,af,k4,c4⟩;refine⟨_,G,d,_,G,af,_,G,a,_,G,s4 _ _ ha,by rw[fK];lia,λx hx ay=>?_⟩;rw[dE D.tn hx ay,kb];exists _,_,G,G,_,rfl;by_cases ao:(l.length:Int)<=(CY rs ts:Int)-1
  ·refine By ao ?_;exists _,G,b,_,G,s4 _ _ hb;refine MI (xs:=bs.map V.ref) (λi σ H5=>∃J u1 u2 u3 u4,σ=[some (.ref a),some (.ref b),some (.int (rs.length:Int)),some (.ref d),u1,u2,u3,u4]/\AK H H5/\H5 d=some (.dK (DK J))/\CO H5 (CY rs ts) (EW ts (2*rs.length+2) p) Z N J/\BA rs ts (2*(rs.length:Int))∈J.map (·.1)/\l.length<=J.length /\
     (J.length=l.length->J=l/\∀j:Nat,j<i->(BA rs ts (2*(j:Int))∈l.map (·.1)↔BA rs ts (2*(j:Int)+1)∈l.map (·.1))))
    ⟨l,u1,u2,u3,u4,G,s4,af,k4,c4,oz _,λ_=>⟨G,λj hj=>absurd hj (acQ _)⟩⟩ (λi σ H5 _ ⟨_,_,_,_,_,_,s5,_⟩=>s5 _ _ hb) ?_ ?_
   ·rintro i x σ H5 tp hx ⟨J,v1,v2,v3,v4,rfl,s5,ae,k5,c5,ai,ag⟩ av;obtain⟨c,q1,rfl,_,hy,hc⟩:=hB.ref hx;obtain⟨r,ah,rfl⟩:∃r,rs[i]?=some r/\BI Y r=q1:=by
     rw[om]at hy;cases e:rs[i]? with
     |none=>rw[e]at hy;cases hy
     |some r=>rw[e]at hy;exact⟨r,G,oV hy⟩
    have il:=(oh.mp ah).1;refine BS av (.AF [.int (i:Int),.ref c]) λH6 s6 e6=>?_
    have aa:=s6 _ _ ae;have k6:=k5.keep s6;have ac:=s5.trans s6;exists tp,_,G,AH.of e6,G,_,_,G,_,_,G,rfl;refine⟨_,G,_,G,_,_,G,G,.inl ⟨∅,∅⟩,a,_,_,_,G,G,AH.of (ac _ _ ha),Ob (),?_⟩;refine⟨_,G,_,G,_,_,G,G,.inl ⟨∅,∅⟩,_,_,G,G,a,_,_,_,G,G,AH.of (ac _ _ ha),Ov (),?_⟩;obtain⟨aw,ak⟩:=D.step k6 ah;have aj:=D.sf (D.wd.ru r (oi ah)) ∅;have fc:=A9 ac (by exact hc);have kl:=k6.len;have az:=D.le;have am:(DK J).length<oR:=by rw[kb];exact GX ()
    have g1:=DP.k (k:=pU (BA rs ts (2*(i:Int)+1))) aa;have g0:=DP.k (k:=pU (BA rs ts (2*(i:Int)))) aa;have ap:∀(h:BA rs ts (2*(i:Int))∈J.map (·.1)↔BA rs ts (2*(i:Int)+1)∈J.map (·.1)),J.length=l.length->J=l/\∀j:Nat,j<i+1->(BA rs ts (2*(j:Int))∈l.map (·.1)↔BA rs ts (2*(j:Int)+1)∈l.map (·.1)):=λh z=>by
     obtain⟨rfl,c2⟩:=ag z;refine⟨G,λj hj=>?_⟩;rcases oW j i with y|y
     ·exact c2 j y
     ·obtain rfl:j=i:=()
      exact h
    have au:∀(e:Int) (t:Addr) (H8:Hp),e∉J.map (·.1)->AK H6 H8->CO H8 (CY rs ts) (EW ts (2*rs.length+2) p) Z N (J++[(e,t)])->∃ab w1 w2 w3 w4,[some (V.ref a),some (.ref b),some (.int (rs.length:Int)),some (.ref d),some (.int (i:Int)),some (.ref c),some (.int (BA rs ts (2*(i:Int)))),some (.int (BA rs ts (2*(i:Int)+1)))]=[some (.ref a),some (.ref b),some (.int (rs.length:Int)),some (.ref d),w1,w2,w3,w4] /\
      AK H (AG H8 d (.dK (CM (DK J) (pU e:Aq) (.ref t))))/\(AG H8 d (.dK (CM (DK J) (pU e:Aq) (.ref t)))) d=some (.dK (DK ab))/\CO (AG H8 d (.dK (CM (DK J) (pU e:Aq) (.ref t)))) (CY rs ts) (EW ts (2*rs.length+2) p) Z N ab/\BA rs ts (2*(rs.length:Int))∈ab.map (·.1)/\l.length<=ab.length /\
      (ab.length=l.length->ab=l/\∀j:Nat,j<i+1->(BA rs ts (2*(j:Int))∈l.map (·.1)↔BA rs ts (2*(j:Int)+1)∈l.map (·.1))):=λe t H8 hn O k8=>by
     refine⟨J++[(e,t)],_,_,_,_,G,(ac.trans O).up hd _,by rw[AQ,fX hn],k8.VO (O _ _ aa) _,by rw[oU];exact oM.mpr (.inl c5),by rw[oF];lia,λz=>?_⟩;rw[oF,rn]at z
     lia
    exists _,G,_,G,d,_,G,g1,_,rfl;by_cases h1:BA rs ts (2*(i:Int)+1)∈J.map (·.1)
    ·obtain⟨al,_,vl,fl,sl,ax⟩:=aw h1;rw[vl];rw[vl]at g1;refine FO ?_;exists _,G,_,G,d,_,G,g0,_,rfl;by_cases h0:BA rs ts (2*(i:Int))∈J.map (·.1)
     ·obtain⟨ar,_,vr,fr,sr,aq⟩:=ak h0;rw[vr];rw[vr]at g0;refine Br ?_;refine⟨_,G,_,G,d,_,G,g0,_,G,FO ?_⟩;refine⟨_,G,_,G,d,_,G,g1,_,G,Br ?_⟩;exact⟨J,_,_,_,_,G,ac,aa,k6,c5,ai,ap ⟨λ_=>h1,λ_=>h0⟩⟩
     ·rw[JT h0];refine FO ?_;refine⟨_,G,_,G,d,_,G,g1,_,G,al,c,_,_,G,fl,fc,sl,aj,λt ht=>?_⟩;have O:=AW ht (.AF [.int (p (2*(i:Int)+1)+BI Y r).num,.int (p (2*(i:Int)+1)+BI Y r).den]);exact⟨_,G,_,G,d,_,G,FJ.k (k:=pU (BA rs ts (2*(i:Int)))) (O _ _ aa) am,au _ t _ h0 O (ax h0 t _ O AQ)⟩
    ·rw[JT h1];rw[JT h1]at g1;refine Br (Br ?_);exists _,G,_,G,d,_,G,g0,_,rfl;by_cases h0:BA rs ts (2*(i:Int))∈J.map (·.1)
     ·obtain⟨ar,_,vr,fr,sr,aq⟩:=ak h0;rw[vr];rw[vr]at g0;refine FO ?_;refine⟨_,G,_,G,d,_,G,g1,_,G,FO ?_⟩;refine⟨_,G,_,G,d,_,G,g0,_,G,ar,c,_,_,G,fr,fc,sr,aj,λt ht=>?_⟩;have O:=AW ht (.AF [.int (p (2*(i:Int))-BI Y r).num,.int (p (2*(i:Int))-BI Y r).den]);exact⟨_,G,_,G,d,_,G,FJ.k (k:=pU (BA rs ts (2*(i:Int)+1))) (O _ _ aa) am,au _ t _ h1 O (aq h1 t _ O AQ)⟩
     ·rw[JT h0];refine Br (Br ?_);exact⟨J,_,_,_,_,G,ac,aa,k6,c5,ai,ap ⟨λz=>absurd z h0,λz=>absurd z h1⟩⟩
   ·rintro σ H5 ⟨J,v1,v2,v3,v4,rfl,s5,ae,k5,c5,ai,ag⟩;exists ⟨J,_,_,_,_,G,s5,ae,k5,c5⟩;show(match H5 d with|some (.dK kv)=>CY rs ts-kv.length|_=>0)<(match H4 d with|some (.dK kv)=>CY rs ts-kv.length|_=>0);rw[ae,af];show CY rs ts-(DK J).length<CY rs ts-(DK l).length;rw[kb,kb];rcases oW l.length J.length with z|z
    ·lia
    ·obtain⟨rfl,c2⟩:=ag ()
     have:=D.nE k5 c5 (λj hj=>c2 j (by rw[kb,lb];exact hj))
     lia
  ·refine Be ao ?_;exact⟨_,G,q d l H4 s4 af k4 ()⟩
 ·rintro σ H4 Q1 Q2 hq ⟨v,e,d',kv,z1,z2,v',e',a',ns,y1,y2,y3,z⟩;exact⟨v,e,d',kv,z1,z2,v',e',a',ns,y1,y2,y3,λm hm hl=>by
   obtain⟨i,j,e1,e2,b,eb,zz⟩:=z m hm hl;exact⟨i,j,e1,e2,b,eb,hq _ _ zz⟩⟩
theorem R0(X Y:Nat->Rat)(i:Nat):∀rs:List Ap,CS (λj=>X j-Y j) rs i=CS X rs i-CS Y rs i
 |[]=>by unfold CS;simp;grind
 |r :: rs=>by
  have e:DS (λj=>X j-Y j) i r=DS X i r-DS Y i r:=by
   unfold DS BI;split<;>split<;>grind
  have:=R0 X Y i rs
  unfold CS at this ⊢;rw[oP,oP,oP,qk,qk,qk,this,e]
  grind
theorem bB(k:CW n m α β rs)(F:EG n B rs X)(O:Y 0=1)(y1:Y 1=0)(yb:∀i,2<=i->i<n+2->CS Y rs i=0):∀j,j<n+2->X j=Y j:=by
 have:=RM (X:=λj=>X j-Y j) (λr J=>⟨(k.Cs r J).1,(k.Cs r J).2.1,k.pos r J⟩) k.Ho (by show X 0-Y 0=0;rw[F.x0,O];grind) (λi hi=>by
  match i,hi with
  |0,_=>left;show X 0-Y 0=0;rw[F.x0,O];grind
  |1,_=>left;show X 1-Y 1=0;rw[F.x1,y1];grind
  |i+2,hi=>right;rw[R0,F.nQ (i+2) () hi,yb (i+2) () hi];grind)
 intro j hj
 have:=this j hj
 grind
structure XA(n:Nat)(rs:List Ap)(X:Nat->Rat)(F:Rat):Prop where
 hs:∀j,j<n+2->Sf (X j)
 ys:∀j,j<n+2->Sf (X j*F)
 fs:∀r∈rs,Sf (X r.1-X r.2.1)
 ds:∀r∈rs,Sf (X r.1*F-X r.2.1*F)
 es:∀r∈rs,Sf r.2.2
 rx:∀r∈rs,Sf (BI X r)
 sF:Sf F
theorem EG.iW(k:CW n 14 10 10 rs)(h:EG n ((8+10*14+10)*n) rs X)(hF:Sb 30 30 F):XA n rs X F/\∃Z N,XT rs (λj=>X j*F) Z N/\∀j,j<n+2->∃c:Int,(Z:Rat)*(X j*F)=c/\c.natAbs<=2 ^ 2224:=by
 obtain⟨Z,N,z⟩:=h.Py k;obtain⟨W,w0,wl,wx⟩:=h.wh;have ae:=k.hb.Lx;have hB:(8+10*14+10)*n<=2054:=()
 generalize (8+10*14+10)*n=B at *;have hd:Cj rs<=2 ^ 140:=k.den;have hp:=Jc rs;have aa:(F.den:Int)≠0:=by have:=F.den_nz;lia
 have O:((F.den:Int):Rat)*F=(F.num:Int):=by
  have d0:(F.den:Rat)≠0:=by have:=F.den_nz;exact_mod_cast this
  have e:F=(F.num:Rat) / (F.den:Rat):=(yA F).symm.trans (by rw[yU];rfl);rw[ic]
  conv=>lhs;rw[e]
  grind
 have fn:F.num.natAbs<=2 ^ 30:=hF.1;have fl:(F.den:Int).natAbs<=2 ^ 30:=by rw[pO];exact hF.2
 have wf:(W*(F.den:Int)).natAbs<=2 ^ (B+30):=by rw[pP];exact C4 wl fl
 have ac:∀r∈rs,∃c:Int,(W:Rat)*(X r.1-X r.2.1)=c/\c.natAbs<=2 ^ (B+1):=λr J=>by
  obtain⟨a1,a2,a3⟩:=k.Cs r J;obtain⟨x,e1,l1⟩:=wx _ a1;obtain⟨y,e2,l2⟩:=wx _ a2;exists x-y,by rw[tY,<-e1,<-e2];grind
  have:=yP x y
  rw[vS];lia
 have ad:∀r∈rs,∃c:Int,((W*(Cj rs:Int)*(F.den:Int):Int):Rat)*BI (λj=>X j*F) r=c/\c.natAbs<=2 ^ (140+10+(B+1)+30):=λr J=>by
  obtain⟨c,e,l⟩:=ac r J;obtain⟨v,hv⟩:=PD (MH J);exists v*c*F.num,?_
  ·rw[ph,ph,ph,ph,<-hv,<-e,<-O,ic];unfold BI;grind
  ·have ab:Ab ((2 ^ 140:Nat):Rat) ((Cj rs:Nat):Rat):=Ii (x:=(Cj rs:Int)) (by rw[pO];exact hd);have vb:=ab.GU (k.Cs r J).2.2.vb;rw[hv,<-Rat.natCast_mul,<-Nat.pow_add]at vb;rw[pP,pP];exact C4 (C4 (GA vb) l) fn
 have w2:(2:Nat) ^ (B+30)<=2 ^ 3900:=qj ∅ ();have fu:∀r∈rs,Uw (W*(F.den:Int)) (B+1+30) 1 (X r.1*F-X r.2.1*F):=λr J=>by
  obtain⟨c,e,l⟩:=ac r J;exact⟨c*F.num,by rw[ph,ph,<-e,<-O];grind,by rw[pP,wu];exact C4 l fn⟩
 refine⟨⟨z.hs,λj hj=>?_,z.fs,λr J=>(fu r J).sf (tP w0 aa) (oO wf w2) ∅ (),z.es,λr J=>(z.ru r J).sf z.z0 z.zl ∅ z.nl,hF.mono ∅ ∅⟩,W*(Cj rs:Int)*(F.den:Int),140+10+(B+1)+30,⟨tP (tP w0 ()) aa,?_,(),λr J=>?_⟩,λj hj=>?_⟩
 ·obtain⟨c,e,l⟩:=wx j hj;refine(IQ (W:=W*(F.den:Int)) (k:=c*F.num) (b:=B+30) (a:=B+30) (tP w0 aa) ?_ (by rw[pP];exact C4 l fn) wf).mono () ();rw[ph,ph,<-e,<-O];grind
 ·rw[pP,pP,pO (Cj rs)];exact oO (C4 (C4 wl hd) fl) (qj ∅ ())
 ·obtain⟨c,e,l⟩:=ad r J;exact⟨c,e,by rw[wu];exact l⟩
 ·obtain⟨c,e,l⟩:=wx j hj;refine⟨c*(Cj rs:Int)*F.num,by rw[ph,ph,ph,ph,<-e,<-O,ic];grind,?_⟩;rw[pP,pP,pO (Cj rs)];exact oO (C4 (C4 l hd) fn) (qj ∅ ())
theorem Fq.k(k:Fq (n+2) rs ts):CW n 14 10 10 rs:=by
 have:=k.nH
 refine⟨⟨(),∅,()⟩,k.KZ,λr F=>?_,λr F=>?_,k.Ho⟩
 ·obtain⟨⟨e1,J,O⟩,h1,h2⟩:=k.Ng r F;exact⟨h1,h2,by show r.2.2.num.natAbs<=2 ^ 10;lia,by show r.2.2.den<=2 ^ 10;lia⟩
 ·have:=(k.Ng r F).1.pos
  rw[Rat.lt_iff];simpa using this
def LR(p:Int->Rat)(Y:Nat->Rat)(k:Nat)(r:Ap):List Rat:=[Lh (p (2*(k:Int))) (p (2*(k:Int)+1)),Lh (Y r.1) (Y r.2.1),Li (p (2*(k:Int))) (p (2*(k:Int)+1)),Li (Y r.1) (Y r.2.1)]
def Im(p:Int->Rat)(Y:Nat->Rat)(rs:List Ap):List (List Rat):=rs.mapIdx λk r=>LR p Y k r
theorem Tp(h:rs[k]?=some r):(Im p Y rs)[k]?=some (LR p Y k r):=by
 unfold Im;rw[List.getElem?_mapIdx,h];rfl
theorem R4(p:Int->Rat)(Y:Nat->Rat)(rs:List Ap):(Im p Y rs).length=rs.length:=by unfold Im;rw[List.length_mapIdx]
def FE(H:Hp)(a:Addr)(W U:Rat)(rows:List (List Rat)):Prop:=∃p q r,H a=some (.AF [.ref p,.ref q,.ref r])/\AO H p W/\AO H q U/\As (As AO) H r rows
theorem Je(s:AK H H')(h:FE H a W U rows):FE H' a W U rows:=by
 obtain⟨p,q,r,h1,h2,F,J⟩:=h;exact⟨p,q,r,s _ _ h1,s _ _ h2,s _ _ F,Cq (R:=As AO) (λs h=>EB s h) s J⟩
structure nh(n:Nat)(rs:List Ap)(ts:List (List Int))(X:Nat->Rat)(F:Rat)(p:Int->Rat)(Z:Int)(N:Nat):Prop where
 nk:CW n 14 10 10 rs
 hx:EG n ((8+10*14+10)*n) rs X
 hf:XA n rs X F
 ld:D3 rs ts (λj=>X j*F) p Z N
theorem gC(h:H t=some (.AF [.ref c0,.ref c1,.ref c2,.ref c3]))(h0:AO H c0 x0)(h1:AO H c1 x1)(h2:AO H c2 x2)(O:AO H c3 x3):As AO H t [x0,x1,x2,x3] :=
 ⟨[c0,c1,c2,c3],h,G,λi b x J F=>by
  match i,J,F with
  |0,J,F=>cases J;cases F;exact h0
  |1,J,F=>cases J;cases F;exact h1
  |2,J,F=>cases J;cases F;exact h2
  |3,J,F=>cases J;cases F;exact O⟩
theorem jT(F:H l=some (.AE ys))(h:As AO H b r):As AO (AG H l o) b r:=by
 obtain⟨bs,h1,h2⟩:=h;exact⟨bs,by rw[AV (λz=>by rw[z,F]at h1;cases h1)];exact h1,PV h2 F o⟩
theorem eE(J:H l=some (.AE ys))(h:At (As AO) H bs rr):At (As AO) (AG H l o) bs rr:=⟨h.1,λi b x O F=>jT J (h.2 i b x O F)⟩
theorem D3.Gv(D:D3 rs ts Y p Z N)(k:CO H (CY rs ts) (EW ts (2*rs.length+2) p) Z N l)(J:CY rs ts<=l.length)(hd:H d=some (.dK (DK l)))(F:Au (2*rs.length+2) x):
  ∃a,DP H d (.int (BA rs ts x)) (some (.ref a))/\AO H a (p x)/\Sf (p x):=by
 obtain⟨a,h1,h2⟩:=MP (k.all J (D.in F));obtain⟨f1,f2⟩:=k.fr _ h1;dsimp only at f1 f2;rw[D.at F]at f1 f2;have g:=DP.k (k:=pU (BA rs ts x)) hd;rw[h2]at g
 have:=k.len
 have:=D.le
 exact⟨a,g,f1,D.sf f2 ()⟩
variable {f6:Addr}{d6:qU}
inductive Uk(vs:List V)(H:Hp)(Q:VK)(_:XK):Prop
 |mk (a b J ta:Addr) (n:Nat) (rs:List Ap) (ts:List (List Int)) (F:Rat) (ac:vs=[.ref a,.ref b]) (af:H a=some (.AF [.int ((n+2:Nat):Int),.ref J,.ref ta])) (ab:As GD H J rs) (ad:As Dt H ta ts) (aa:AO H b F) (ae:CW n 14 10 10 rs)
  (O:∀X,EG n ((8+10*14+10)*n) rs X->∃p Z N,nh n rs ts X F p Z N/\∀q H',AK H H'->(∀x,Au (2*rs.length+2) x->Sf (p x))->FE H' q (p (2*(rs.length:Int)+1)) F (Im p (λj=>X j*F) rs)->Q (.ref q) H')
theorem GG:An ["net","fall","levels","lands","sides","rectangles","k","rope","across","upward","width"] ["net","fall"] (Ac s_laid):=Aw
theorem k9:(["level","fall"]:List Str).Nodup:=by decide +kernel
set_option maxHeartbeats 4000000 in
seal L2.Cd L2.PS L2.PE L2.PA in
theorem fF (F0:Fun K "laid" "laid" s_laid f fd)(G1:AX P w K mg base 3 "times" ["one","other"] (C1 λx y=>x*y))
  (G2:AX P w K mg base 5 "heights" ["net"] NO)
  (G3:AX P w K mg base 4 "land_of" ["turns"] Si)
  (G4:AX P w K mg base 4 "land_sides" ["lands","widths"] S6)
  (G5:AX P w K mg base 5 "runnings_by" ["net","levels"] Oz)
  (G6:AX P w K mg base 2 "rising" ["one","other"] Vr)(ml:mg "len" = none)(me:mg "enumerate" = none)(mt:mg "tuple" = none):Ai P w K mg base Ae 6 f fd ["net","fall"] Uk:=by
 refine F0.Ax GG λim A cb s H vs Q E hr h=>?_
 obtain⟨a,b,ra,ta,n,rs,ts,F,rfl,ha,b6,bv,hb,nk,qq⟩:=h;have hu:=Hh hr;exists _,AM (Ga (i:=2) GG.nd rfl (qL rfl) (Nc:=["level","fall"]) (cap:=[(1,1)]) (g:=BH 0) (te:=DO (C1 λx y=>x*y) [] E0 (A7 (Ag 0) (A7 (Ag 1) Ba))) rfl (Ds (AS G2 (AA (pv 0) AD)))
   CD (λ_ _ _ _ _=>Bj (i:=0) k9 rfl (qL rfl))
   (λ_ _ _ _ _=>AS G1 (AA (pv 0) (AA (pv 1) AD))))
  (AM (AU 3 GG (AS G3 (AA (pT (pv 0) AB) AD)))
  (AM (AU 4 GG (AS G4 (AA (pv 3) (AA (AS G5 (AA (pv 0) (AA (pv 2) AD))) AD))))
  (AM (AU 5 GG (CJ AD))
  (AM (Bk oX rfl (Ml (by rfl) me (AA (pT (pv 0) AB) AD)) (CZ (n:=2) rfl (Av (Ak 6 GG) (Av (Ak 7 GG) CV)))
   (AM (AU 8 GG (AS G6 (AA (IM hu (pv 4) (pT (pv 3) (AN DU AB (pv 6)))) (AA (IM hu (pv 4) (pT (pv 3) (AN BM (AN DU AB (pv 6)) AB))) AD))))
   (AM (AU 9 GG (AS G6 (AA (pL (pv 2) (pT (pv 7) AB)) (AA (pL (pv 2) (pT (pv 7) AB)) AD))))
   (AR (Dr (DD pA qF qG Ed (pv 5) (AA (BB (AA (pT (pv 8) AB) (AA (pT (pv 9) AB) (AA (pT (pv 8) AB) (AA (pT (pv 9) AB) AD))))) AD))))))
  )
  (AM (AU 10 GG (IM hu (pv 4) (pT (pv 3) (AN BM (AN DU AB (C8 ml (pT (pv 0) AB))) AB))))
  (AR (Al (BB (AA (pv 10) (AA (pv 1) (AA (Lg mt (pv 5)) AD)))))))))))
  
 have b9:=nk.hb.Lx;obtain⟨cs,aw,ag⟩:=b6;have lc:cs.length=rs.length:=ag.1;refine⟨_,G,a,n,14,10,10,rs,G,⟨ra,_,ha,cs,aw,ag⟩,nk,λhp H1 X s1 hX hT=>?_⟩;obtain⟨p,Z,N,O,q⟩:=qq X hX;have D:=O.ld;have ca:=D.KZ;obtain⟨bs,a3,hB⟩:=hT;have lb:bs.length=n+2:=by rw[hB.1,kb,pC]
 refine⟨hp,G,⟨_,AH.of a3⟩,λaa bh=>?_⟩;refine CP (F7 a3) (by rw[kb];lia) bh (λi ys σ Hq=>∃ds:List Addr,ys=ds.map V.ref/\At AO Hq ds (((oN (n+2)).map λj=>X j*F).take i)/\∃u,σ=[u,some (.ref b)]) ⟨[],G,At.nil,none,G⟩ ?_ ?_
 ·rintro i ys σ H3 x H4 hi sm bz ⟨ds,rfl,hD,u,rfl⟩ ⟨rfl,hx⟩ Cc hC;obtain⟨c,xq,rfl,_,hy,hc⟩:=hB.ref hx;have aq:i<n+2:=by rw[kb,lb]at hi;exact hi
  rw[JW X aq]at hy;cases hy;refine⟨_,G,_,G,c,b,_,_,G,sm _ _ hc,sm _ _ (s1 _ _ hb),O.hf.hs i aq,O.hf.sF,λt ht=>?_⟩;have st:=AW ht (.AF [.int (X i*F).num,.int (X i*F).den]);refine hC _ _ _ st ⟨ds++[t],#v[],?_,_,G⟩;rw[Bc (JW (λj=>X j*F) aq)];exact(hD.keep A9 (Df aa st)).snoc (AO.BO (q:=X i*F) AQ (st _ _ bz))
 rintro ys σ H2 s2 bg b8 ⟨gs,rfl,hG,u,rfl⟩;rw[kb,lb,oQ (by rw[kb,pC];exact oz _)]at hG;replace hG:=hG.keep A9 (DC H2 aa);have ah:=s1.trans s2;have a0:=O.nk.Kc;have a4:BC AO H2 aa ((oN (n+2)).map λj=>X j*F):=⟨gs,bg,hG⟩;obtain⟨tb,bj,a6⟩:=bv;refine⟨_,G,a,_,_,_,G,G,AH.of (ah _ _ ha),DW _ _ _,ta,tb,ts,2*rs.length+2,G,⟨ah _ _ bj,a6.1,λi c row e1 e2=>ah _ _ (a6.2 i c row e1 e2)⟩,D.tn,(),λlp H3 s3 nl ay=>?_⟩;rw[jP D.tn]at ay;have ak:=ah.trans s3;refine⟨_,G,_,G,_,G,a,aa,n+2,rs,(λj=>X j*F),G,⟨ra,_,ak _ _ ha,cs,ak _ _ aw,ag.keep IX ak⟩,Vk s3 (.l a4),(),λr hr=>?_,λwp H4 s4 be=>?_⟩
 ·obtain⟨r1,r2⟩:=a0 r hr;exact⟨r1,r2,O.hf.ys _ r1,O.hf.ys _ r2,O.hf.ds r hr,O.hf.es r hr⟩
 refine⟨lp,wp,rs,ts,_,p,Z,N,G,s4 _ _ ay,be,D,λd l H5 s5 aj af am=>?_⟩;have ap:=s4.trans s5;have ae:=ak.trans ap;have au:=ap _ _ ay;have bn:=Ij (R:=AO) (λs h=>A9 s h) (s3.trans ap) a4;obtain⟨cc,a5,a1⟩:=bn;have a9:=ae _ _ ha;have av:=ae _ _ aw;have bt:=ag.keep IX ae;have b4:=ae _ _ hb;refine⟨by exact Fx,λR hR=>?_⟩;refine BS hR (.AE []) λH6 s6 zz=>?_
 have e6:H6 R=some (.AE (([]:List Addr).map V.ref)):=zz;exists _,G,a,_,_,_,G,G,AH.of (s6 _ _ a9),C6 _ _ _,ra,_,G,s6 _ _ av;refine MI (xs:=cs.map V.ref) (λi σ H7=>∃u6 u7 u8 u9 ds,σ=[some (.ref a),some (.ref b),some (.ref aa),some (.ref lp),some (.ref d),some (.ref R),u6,u7,u8,u9,none]/\AK H5 H7/\H7 R=some (.AE (ds.map V.ref))/\At (As AO) H7 ds ((Im p (λj=>X j*F) rs).take i))
  ⟨none,none,none,none,[],G,s6,e6,At.nil⟩ (λi σ H7 _ ⟨_,_,_,_,_,_,J,_⟩=>J _ _ av) ?_ ?_
 ·rintro i x σ H7 tp hx ⟨u6,u7,u8,u9,ds,rfl,J,eR,hD⟩ bi;obtain⟨c,r,rfl,_,hy,e,hc,he⟩:=bt.ref hx;have il:=(oh.mp hy).1;obtain⟨r1,r2⟩:=a0 r (oi hy);refine BS bi (.AF [.int (i:Int),.ref c]) λH8 s8 e8=>?_
  have ad:=J.trans s8;have bl:=s8 _ _ eR;have br:=hD.keep (λs h=>Cq (R:=AO) (λs h=>A9 s h) s h) s8;have i0:Au (2*rs.length+2) (2*(i:Int)):=⟨(),by push_cast;lia⟩;have i1:Au (2*rs.length+2) (2*(i:Int)+1):=⟨(),by push_cast;lia⟩;obtain⟨ar,gr,fr,sr⟩:=D.Gv (af.keep ad) am (ad _ _ aj) i0;obtain⟨al,gl,fl,sl⟩:=D.Gv (af.keep ad) am (ad _ _ aj) i1;exists tp,_,G,AH.of e8,G,_,_,G,_,_,G,rfl;refine⟨_,G,_,G,_,G,_,_,G,G,.inl ⟨∅,∅⟩,lp,_,_,_,G,G,AH.of (ad _ _ au),Ob (),d,_,G,gr,
   _,G,_,G,_,G,_,_,G,G,.inl ⟨∅,∅⟩,_,_,G,G,lp,_,_,_,G,G,AH.of (ad _ _ au),Ov (),d,_,G,gl,ar,al,_,_,G,fr,fl,sr,sl,λac c0 c2 bw h0 h2=>?_⟩
  refine BS bw (.AF [.ref c0,.ref c2]) λH9 s9 e9=>?_
  have ab:=ad.trans s9;have b0:=s9 _ _ bl;have b3:=A9 s9 h0;have bq:=A9 s9 h2;have bm:=br.keep (λs h=>Cq (R:=AO) (λs h=>A9 s h) s h) s9;obtain⟨x1,g1,y1⟩:=a1.get (JW (λj=>X j*F) r1);obtain⟨x2,g2,y2⟩:=a1.get (JW (λj=>X j*F) r2);refine⟨_,G,_,G,c,_,_,_,G,G,AH.of (ab _ _ hc),Eu _ _ _,aa,_,_,_,G,G,AJ.of (ab _ _ a5),BE (Cg g1),_,G,_,G,c,_,_,_,G,G,AH.of (ab _ _ hc),C6 _ _ _,aa,_,_,_,G,G,AJ.of (ab _ _ a5),BE (Cg g2),
   x1,x2,_,_,G,A9 ab y1,A9 ab y2,O.hf.ys _ r1,O.hf.ys _ r2,λup c1 c3 bo h1 h3=>?_⟩
  refine BS bo (.AF [.ref c1,.ref c3]) λHA sA eA=>?_
  have b5:=ab.trans sA;have a7:=sA _ _ b0;have bd:=A9 sA b3;have bp:=A9 sA bq;have b2:=A9 sA h1;have bu:=A9 sA h3;have az:=sA _ _ e9;have bc:=bm.keep (λs h=>Cq (R:=AO) (λs h=>A9 s h) s h) sA;refine⟨_,G,.inl ⟨G,_,AJ.of a7⟩,_,G,ac,_,_,_,G,G,AH.of az,BG,_,G,up,_,_,_,G,G,AH.of eA,BG,_,G,ac,_,_,_,G,G,AH.of az,Az,_,G,up,_,_,_,G,G,AH.of eA,Az,by exact Dz,λbx b7=>?_⟩;have sB:=AW b7 (.AF [.ref c0,.ref c1,.ref c2,.ref c3]);have tB:As AO (AG HA bx (.AF [.ref c0,.ref c1,.ref c2,.ref c3])) bx (LR p (λj=>X j*F) i r):=gC AQ (A9 sB bd) (A9 sB b2) (A9 sB bp) (A9 sB bu);have a8:=b5.trans sB;have ao:=sB _ _ a7;have ax:=bc.keep (λs h=>Cq (R:=AO) (λs h=>A9 s h) s h) sB;generalize AG HA bx (.AF [.ref c0,.ref c1,.ref c2,.ref c3])=HB at sB tB a8 ao ax;refine⟨R,_,_,G,G,ao,by rw[kb,ax.1,pN];exact GX (),?_⟩;refine⟨_,_,_,_,ds++[bx],G,a8.up hR _,by rw[AQ];simp,?_⟩;rw[Bc (Tp hy)];exact eE ao (ax.snoc tB)
 ·rintro σ H7 ⟨u6,u7,u8,u9,ds,rfl,J,eR,hD⟩;rw[kb,lc,oQ (by rw[R4];exact oz _)]at hD;have io:Au (2*rs.length+2) (2*(rs.length:Int)+1):=⟨(),by push_cast;lia⟩;obtain⟨wa,gw,fw,sw⟩:=D.Gv (af.keep J) am (J _ _ aj) io;exists _,G,_,G,_,G,a,_,_,_,G,G,AH.of (J _ _ a9),C6 _ _ _,ra,_,G,.inr (AH.of (J _ _ av));rw[kb,lc];refine⟨_,_,G,G,.inl ⟨∅,∅⟩,_,_,G,G,lp,_,_,_,G,G,AH.of (J _ _ au),Ov (oz _),d,_,G,gw,?_⟩;refine⟨_,G,_,G,_,G,R,_,G,.inl ⟨AJ.of eR,λrc bf=>⟨by exact Dd,λq1 a2=>?_⟩⟩⟩;obtain⟨H8,zg,s8,e8⟩:=nw bf (.AF (ds.map V.ref));rw[zg]at a2 ⊢;have s9:=AW a2 (.AF [.ref wa,.ref b,.ref rc]);have ai:=s8.trans s9;exact q q1 _ ((ae.trans J).trans ai) (λx hx=>by obtain⟨_,_,_,z⟩:=D.Gv (af.keep J) am (J _ _ aj) hx;exact z) ⟨wa,b,rc,AQ,A9 ai fw,ai _ _ (J _ _ b4),ds,s9 _ _ e8,hD.keep (λs h=>Cq (R:=AO) (λs h=>A9 s h) s h) ai⟩
abbrev nums(W U:Rat)(rows:List (List Rat)):List Rat:=W :: U :: rows.flatten
theorem Ve:∀{rows:List (List Rat)},(∀r∈rows,r.length=4)->rows.flatten.length=4*rows.length
 |[],_=>rfl
 |r :: rows,h=>by
  rw[ql,oF,h r #v[],Ve (λx F=>h x (by simp[F])),pk];lia
inductive Pq(vs:List V)(H:Hp)(Q:VK)(_:XK):Prop
 |mk (a:Addr) (F:List Rat) (Z:Int) (aa:vs=[.ref a]) (O:BC AO H a F) (J:∀q∈F,(q.den:Int) ∣ Z) (ab:0<Z) (ac:Z.natAbs<=2 ^ 3900) (ad:Q (.int (cb F)) H)
theorem bM(F:Fun K "common_bottom" "common_bottom" sCBot f fd)(G:AX P w K mg base 1 "common_part" ["one","other"] NR):Ai P w K mg base Ae 2 f fd ["row"] Pq:=by
 refine F.Ax Hr λim A ab s H vs Q E hr h=>?_
 obtain⟨a,J,Z,rfl,⟨bs,ha,hA⟩,hd,Z0,hZ,q⟩:=h;exists _,AM (AU 1 Hr AB)
  (AM (Bk oX rfl (DV (pv 0)) (Ak 2 Hr)
   (AR (AU 1 Hr (AN DM (AN Gd (pv 1) (AS G (AA (pv 1) (AA (pT (pv 2) AB) AD)))) (pT (pv 2) AB)))))
  (AR (Al (pv 1))))
 exists _,rfl,a,rfl,⟨_,AJ.of ha⟩;refine IT (xs:=bs.map V.ref) (λi σ H2=>∃u,H2=H/\σ=[some (.ref a),some (.int ((J.take i).foldl CU 1)),u]) ⟨none,rfl,rfl⟩ (λi σ H2 _ ⟨_,e,_⟩=>by rw[e];exact AJ.of ha) ?_ ?_
 ·rintro i x σ H2 hx ⟨u,rfl,rfl⟩;obtain⟨b,y,rfl,_,hy,hB⟩:=hA.ref hx;have ym:=oi hy;have O:∀{z:Int},0<z->z ∣ Z->BJ z:=λ{z} z0 hz=>DY (n:=3900) (oO (vA () (vP.mpr hz)) hZ) ∅
  have c1:0<(J.take i).foldl CU 1:=(Jp (J.take i)).1;have c2:(J.take i).foldl CU 1 ∣ Z:=Mv _ ∅ (aab _) λp hp=>hd p (uL hp)
  generalize hc:(J.take i).foldl CU 1=c at *;have yd:=y.den_nz;have g0:0<(qJ c y.den:Int):=by have:=um (y.den:Int) (show c≠0 by lia);lia
  have gd:(qJ c y.den:Int) ∣ c:=uY ..;have k1:=O c1 c2;have k2:=O (z:=(y.den:Int)) () (hd y ym);have k3:=O g0 (yH gd c2);have e1:c.fdiv (qJ c y.den:Int) ∣ c:=by rw[qw gd];exact Int.ediv_dvd_of_dvd gd
  have e2:0<c.fdiv (qJ c y.den:Int):=by rw[qw gd];exact Int.ediv_pos_of_pos_of_dvd c1 () gd
  have aa:H2 b=some (.AF [.int y.num,.int y.den]):=hB;exists _,rfl,_,rfl,_,rfl,b,_,_,_,rfl,rfl,AH.of aa,Az,c,_,rfl;refine⟨_,_,rfl,rfl,⟨(),k3⟩,_,rfl,b,_,_,_,rfl,rfl,AH.of aa,Az,_,_,rfl,rfl,⟨O e2 (yH e1 c2),k2⟩,?_⟩;exists some (.ref b),rfl;rw[Bc hy,vM];show _=[some (V.ref a),some (.int (CU ((J.take i).foldl CU 1) y)),some (.ref b)];rw[hc];rfl
 ·rintro σ H2 ⟨u,rfl,rfl⟩;exists _,rfl;rw[kb,hA.1,qE];exact q
inductive P8(vs:List V)(H:Hp)(Q:VK)(_:XK):Prop
 |mk (a:Addr) (W U:Rat) (rows:List (List Rat)) (O:vs=[.ref a]) (J:FE H a W U rows) (F:rows.length<=40) (aa:∀r∈rows,r.length=4) (ab:∀p H',AK H H'->BC AO H' p (nums W U rows)->Q (.ref p) H')
theorem QT:An ["floor","numbers","rectangle"] ["floor"] (Ac s_numbers_of):=Aw
theorem dS(F:Fun K "numbers_of" "numbers_of" s_numbers_of f fd)(ad:mg "list" = none):Ai P w K mg base Ae 1 f fd ["floor"] P8:=by
 refine F.Ax QT λim A ag s H vs Q E hr h=>?_
 obtain⟨a,W,U,rows,rfl,⟨p,q0,r,ha,hW,hU,bs,ac,hB⟩,hl,h4,q⟩:=h;exists _,AM (AU 1 QT (CJ (AA (pT (pv 0) AB) (AA (pT (pv 0) AB) AD))))
  (AM (Bk oX rfl (Ds (pT (pv 0) AB)) (Ak 2 QT)
   (AR (Dr (DD pA PySem.F.slot_list_extend PySem.F.type_list_extend Zb (pv 1) (AA (D5 Ss (by rfl) ad To (AA (pv 2) AD)) AD)))))
  (AR (Al (pv 1))))
 refine⟨_,G,a,_,_,_,G,G,AH.of ha,Eu _ _ _,_,G,a,_,_,_,G,G,AH.of ha,C6 _ _ _,by exact CI,λL hL=>?_⟩;refine BS hL (.AE [.ref p,.ref q0]) λH1 O zz=>?_
 have e1:H1 L=some (.AE ([p,q0].map V.ref)):=zz;have lb:bs.length=rows.length:=hB.1;exists _,G,a,_,_,_,G,G,AH.of (O _ _ ha),DW _ _ _,r,G,⟨_,AH.of (O _ _ ac)⟩;refine Ji (xs:=bs.map V.ref) (λi σ H2=>AK H H2/\∃(u:Option V) (cs:List Addr),σ=[some (.ref a),some (.ref L),u]/\H2 L=some (.AE (cs.map V.ref))/\At AO H2 cs (W :: U :: (rows.take i).flatten))
  ⟨O,none,[p,q0],G,e1,(At.nil.snoc (R:=AO) (b:=p) (x:=W) (O _ _ hW)).snoc (b:=q0) (x:=U) (O _ _ hU)⟩ (λi σ H2 _ ⟨J,_⟩=>AH.of (J _ _ ac)) ?_ ?_
 ·rintro i x σ H2 hx ⟨J,u,cs,rfl,aa,hC⟩;obtain⟨b,row,rfl,_,ab,es,ae,hE⟩:=hB.ref hx;have hi:i<rows.length:=(oh.mp ab).1;have le:es.length=4:=by rw[hE.1];exact h4 row (oi ab)
  have lc:cs.length=2+4*i:=by
   rw[hC.1,pk,pk,Ve (λx hx=>h4 x (uL hx)),pN];lia
  refine⟨_,G,.inl ⟨G,_,AJ.of aa⟩,_,G,b,_,G,.inr (AH.of (J _ _ ae)),λlf af=>?_⟩;refine BS af (.AE (es.map V.ref)) λH3 s3 e3=>?_
  refine⟨L,lf,_,_,G,G,s3 _ _ aa,e3,by rw[kb,kb];exact Et (),?_⟩;exists (J.trans s3).up hL _,_,cs++es,G,by rw[AQ];simp
  have:=(hC.keep A9 s3).Kf (hE.keep A9 (J.trans s3))
  rw[Bc ab,rS,ql,acr,qS];exact PV this (s3 _ _ aa) _
 ·rintro σ H2 ⟨J,u,cs,rfl,aa,hC⟩;rw[kb,lb,qE]at hC;exact⟨_,G,q L H2 J ⟨cs,aa,hC⟩⟩
inductive P7(vs:List V)(H:Hp)(Q:VK)(_:XK):Prop
 |mk (a:Addr) (b:Int) (W U:Rat) (rows:List (List Rat)) (O:vs=[.ref a,.int b]) (ac:FE H a W U rows) (J:rows.length<=40) (aa:∀r∈rows,r.length=4) (F:∀q∈nums W U rows,BJ q.num/\BJ (q.den:Int)/\BJ (b.fdiv q.den))
  (ab:∀p l H',AK H H'->H' p=some (.AF [.int (wh b W),.int (wh b U),.ref l])->BC Bl H' l (rows.map λr=>r.map (wh b))->Q (.ref p) H')
theorem Wq:An ["floor","bottom","sides"] ["floor","bottom"] (Ac s_whole_floor):=Aw
theorem kh:(["rectangle","bottom"]:List Str).Nodup:=by decide +kernel
theorem kf(F:Fun K "whole_floor" "whole_floor" s_whole_floor f fd)(G1:AX P w K mg base 1 "wholes" ["row","bottom"] Kp):
  Ai P w K mg base Ae 2 f fd ["floor","bottom"] P7:=by
 refine F.Ax Wq λim A ak s H vs Q E hr h=>?_
 obtain⟨a,b,W,U,rows,rfl,⟨p,q0,r,ha,hW,hU,bs,ad,hB⟩,hl,h4,hsz,q⟩:=h;exists _,AM (AU 2 Wq (AS G1 (AA (Ef Lv (pv 0) Fe (D7 AB)) (AA (pv 1) AD))))
  (AR (Al (BB (AA (pL (pv 2) AB) (AA (pL (pv 2) AB) (AA
   (DN (Nc:=["rectangle","bottom"]) (cap:=[(1,1)]) (g:=BH 0) (te:=DO Kp [] E0 (A7 (Ag 0) (A7 (Ag 1) Ba))) rfl (Ds (pT (pv 0) AB)) CD
   (λ_ _ _ _ _=>Bj (i:=0) kh rfl (qL rfl)) (λ_ _ _ _ _=>AS G1 (AA (pv 0) (AA (pv 1) AD)))) AD))))))
 refine⟨_,G,2,G,a,_,G,AH.of ha,λz=>?_,λp1 ah=>?_⟩
 ·have:=z.2
  rw[Vc (by show 2<=3;decide)]at this;cases this
 rw[show Ck [V.ref p,.ref q0,.ref r] none (some 2)=[p,q0].map V.ref by rw[show(some (2:Int))=some ((2:Nat):Int) from rfl,JY _ (by show 2<=3;decide)];rfl];refine BS ah (.AF ([p,q0].map V.ref)) λH1 s1 e1=>?_
 have a1:At AO H1 [p,q0] [W,U]:=(At.nil.snoc (R:=AO) (b:=p) (x:=W) (s1 _ _ hW)).snoc (b:=q0) (x:=U) (s1 _ _ hU);refine⟨_,G,p1,[W,U],b,G,⟨_,e1,a1⟩,by show 2<=1000;decide,λy hy=>hsz y (by simp only[oG,o3,qN]at hy;rcases hy with rfl|rfl<;>simp),λl2 H2 s2 _ af=>?_⟩;have ac:H2 l2=some (.AE [.int (wh b W),.int (wh b U)]):=af;have aa:=s1.trans s2;have lb:bs.length=rows.length:=hB.1;exists _,G,l2,_,_,_,G,G,AJ.of ac,BG,_,G,l2,_,_,_,G,G,AJ.of ac,Az;refine⟨_,G,a,_,_,_,G,G,AH.of (aa _ _ ha),DW _ _ _,r,G,⟨_,AH.of (aa _ _ ad)⟩,λO ag=>?_⟩;refine CP (F7 (aa _ _ ad)) (by rw[kb];lia) ag (λi ys σ hp=>∃J:List Addr,ys=J.map V.ref/\At Bl hp J ((rows.map λr=>r.map (wh b)).take i)/\∃u,σ=[u,some (.int b)]) ⟨[],G,At.nil,none,G⟩ ?_ ?_
 ·rintro i ys σ H3 z H4 hi sm ab ⟨J,rfl,hG,u,rfl⟩ ⟨rfl,hx⟩ Cc hC;obtain⟨c,row,rfl,_,ae,hR⟩:=hB.ref hx;have rm:row∈rows:=oi ae;refine⟨_,G,_,G,c,row,b,G,EB (aa.trans sm) hR,by rw[h4 row rm];lia,λy hy=>hsz y (by simp only[oG];exact .inr (.inr (pV.mpr ⟨row,rm,hy⟩))),λp5 H5 s5 np hp=>?_⟩;refine hC _ _ _ s5 ⟨J++[p5],#v[],?_,_,G⟩;have ne:p5≠O:=λz=>by rw[z,ab]at np;cases np
  rw[Bc (show(rows.map λr=>r.map (wh b))[i]?=some (row.map (wh b)) by rw[om,ae];rfl)];exact(hG.keep Dp (Df O s5)).snoc (FA hp ne)
 rintro ys σ2 H3 s3 ab aj ⟨J,rfl,hG,u,rfl⟩;rw[kb,lb,oQ (by rw[kb];lia)]at hG;refine⟨by exact Dd,λpp ai=>?_⟩;have s4:=AW ai (.AF [.int (wh b W),.int (wh b U),.ref O]);exact q pp O _ (aa.trans (s3.trans s4)) AQ ⟨J,s4 _ _ ab,(hG.keep Dp (DC H3 O)).keep Dp s4⟩
end
end My
namespace L2
open PySem PySem.Spec PyProof.Rows
section
variable {X:Cx}{K:ow}{P:pG}{w:World}
theorem cS(J:X.B9=true)(h:X.K=K:=by rfl)(O:X.prog=P:=by rfl)(F:X.w=w:=by rfl):Cr X (.type "set") (λxs H Q=>∃(p:Addr) (ns:List Int),xs=[.ref p]/\AJ K H p (ns.map V.int)/\ns.length<=1000/\∀a,H a=none->Q (.ref a) (AG H a (KI P w a (C3 ns)))):=by
 subst h O F;exact ZQ J
theorem gE(O:X.B9=true)(hp:X.prog=P:=by rfl)(J:X.w=w:=by rfl):Cr X (.builtin "sorted") (λxs H Q=>∃(a:Addr) (ks:List Int),xs=[.ref a]/\H a=some (KI P w a ks)/\ks.length<64/\∀(l:Addr) (F:List Int),H l=none->F.Perm ks->F.Pairwise (·<=·)->Q (.ref l) (AG H l (.AE (F.map V.int)))):=by
 subst hp J;exact Yj O
end
end L2
namespace My
open PySem L2 Mth Wd
variable {H:Hp}{cs:List Addr}{xs:List Int}{p:List Nat}
abbrev Bx:Type:=Fl.AL
def Dk(H:Hp)(a:Addr)(b:Bx):Prop:=H a=some (.AE [.int b.l,.int b.d,.int b.r,.int b.u])
theorem jI:Mo Dk:=λs h=>s _ _ h
theorem NH(s:AK H H')(h:BC Dk H a bs):BC Dk H' a bs:=Ij (R:=Dk) (λs h=>jI s h) s h
structure E8(m n:Int)(bs:List Bx):Prop where
 ok:∀b∈bs,(b.l<b.r/\b.d<b.u)\/(b.l=b.r/\b.d=b.u)
 Bz:∀b∈bs,0<=b.l/\0<=b.d/\b.r<=m/\b.u<=n
 Nw:∀(i j:Nat) (b c:Bx),i<j->bs[i]?=some b->bs[j]?=some c->max b.l c.l<min b.r c.r->max b.d c.d<min b.u c.u->False
 Lj:∀x y,0<=x->x<m->0<=y->y<n->∃b∈bs,b.l<=x/\x<b.r/\b.d<=y/\y<b.u
theorem GQ{a b c d:V}:BY [a,b,c,d] 0=some a:=BE (j:=0) rfl
theorem GR{a b c d:V}:BY [a,b,c,d] 1=some b:=BE (j:=1) rfl
theorem G0{a b c d:V}:BY [a,b,c,d] 2=some c:=BE (j:=2) rfl
theorem GP{a b c d:V}:BY [a,b,c,d] 3=some d:=BE (j:=3) rfl
section
variable {P:pG}{w:World}{K:ow}{mg:Str->Option Value}{base:Heap}{f g h:Addr}{fd gd hd:qU}
inductive WU(vs:List V)(H:Hp)(Q:VK)(_:XK):Prop
 |mk (a:Addr) (b:Bx) (O:vs=[.ref a]) (J:Dk H a b) (F:(b.l<b.r/\b.d<b.u)\/(b.l=b.r/\b.d=b.u)) (aa:Q (.bl false) H)
theorem lV:An ["rectangle"] ["rectangle"] (Ac s_is_neither):=Aw
theorem kW(F:Fun K "is_neither" "is_neither" s_is_neither f fd):Ai P w K mg base Ae 1 f fd ["rectangle"] WU:=by
 refine F.Ax lV λim A aa s H vs Q E hr h=>?_
 obtain⟨a,b,rfl,J,O,q⟩:=h;exists _,AM (BU (PW.pt (GH (BF FF (pL (pv 0) AB) (pL (pv 0) AB))
   (Jo (BF FF (pL (pv 0) AB) (pL (pv 0) AB))))) Ee Bg)
  (AR (Al (EH GF (EH Dv (pL (pv 0) AB) (pL (pv 0) AB))
   (EH Dv (pL (pv 0) AB) (pL (pv 0) AB)))))
 refine⟨_,G,a,_,_,_,G,G,AJ.of J,GQ,_,G,a,_,_,_,G,G,AJ.of J,G0,_,_,G,G,_,G,Be () ?_⟩;refine⟨_,G,a,_,_,_,G,G,AJ.of J,GR,_,G,a,_,_,_,G,G,AJ.of J,GP,_,_,G,G,_,G,Be () ?_⟩;exists _,G,a,_,_,_,G,G,AJ.of J,GQ,_,G,a,_,_,_,G,G,AJ.of J,G0,G,_,G,a,_,_,_,G,G,AJ.of J,GR,_,G,a,_,_,_,G,G,AJ.of J,GP,G,rfl;have e:decide (V.int b.l=V.int b.r)=decide (V.int b.d=V.int b.u):=by
  rcases O with ⟨h1,h2⟩|⟨h1,h2⟩
  ·rw[qu (E7 ()),qu (E7 ())]
  ·rw[qC (iv h1),qC (iv h2)]
 rw[e,qC rfl];exact q
inductive VR(vs:List V)(H:Hp)(Q:VK)(_:XK):Prop
 |mk (a:Addr) (b:Bx) (m n:Int) (O:vs=[.ref a,.int m,.int n]) (J:Dk H a b) (F:0<=b.l/\0<=b.d/\b.r<=m/\b.u<=n) (aa:Q (.bl false) H)
theorem kB:An ["rectangle","width","height"] ["rectangle","width","height"] (Ac s_is_out):=Aw
theorem jS(F:Fun K "is_out" "is_out" s_is_out f fd):Ai P w K mg base Ae 1 f fd ["rectangle","width","height"] VR:=by
 refine F.Ax kB λim A aa s H vs Q E O h=>?_
 obtain⟨a,b,m,n,rfl,J,⟨h1,h2,h3,h4⟩,q⟩:=h;exists _,AR (Al (Pr (EH Gq (pL (pv 0) AB) AB) (Pr (EH Gq (pL (pv 0) AB) AB)
  (Pr (EH FF (pL (pv 0) AB) (pv 1)) (LA (EH FF (pL (pv 0) AB) (pv 2)))))))
 refine⟨_,G,a,_,_,_,G,G,AJ.of J,GQ,_,_,G,G,_,G,Be () ?_⟩;refine⟨_,G,a,_,_,_,G,G,AJ.of J,GR,_,_,G,G,_,G,Be () ?_⟩;refine⟨_,G,a,_,_,_,G,G,AJ.of J,G0,_,G,_,_,G,G,_,G,Be () ?_⟩;exists _,G,a,_,_,_,G,G,AJ.of J,GP,_,G,_,_,G,rfl;rw[qu ()];exact q
inductive WV(vs:List V)(H:Hp)(Q:VK)(_:XK):Prop
 |mk (a c:Addr) (b d:Bx) (O:vs=[.ref a,.ref c]) (J:Dk H a b) (F:Dk H c d) (aa:max b.l d.l<min b.r d.r->max b.d d.d<min b.u d.u->False) (ab:Q (.bl false) H)
theorem QE:An ["one","other","across","upward"] ["one","other"] (Ac s_overlap):=Aw
theorem XI(i j:Int):(if j>i then j else i)=max i j:=by split<;>lia
theorem W7(i j:Int):(if j<i then j else i)=min i j:=by split<;>lia
theorem kc(F:Fun K "overlap" "overlap" s_overlap f fd)(mx:mg "max" = none)(mn:mg "min" = none):Ai P w K mg base Ae 1 f fd ["one","other"] WV:=by
 refine F.Ax QE λim A aa s H vs Q E hr h=>?_
 obtain⟨a,c,b,d,rfl,J,O,hn,q⟩:=h;exists _,AM (AU 2 QE (EH Gq (CA (OC rfl) (by rfl) mx Mx (AA (pL (pv 0) AB) (AA (pL (pv 1) AB) AD)))
   (CA (OM rfl) (by rfl) mn ND (AA (pL (pv 0) AB) (AA (pL (pv 1) AB) AD)))))
  (AM (AU 3 QE (EH Gq (CA (OC rfl) (by rfl) mx Mx (AA (pL (pv 0) AB) (AA (pL (pv 1) AB) AD)))
   (CA (OM rfl) (by rfl) mn ND (AA (pL (pv 0) AB) (AA (pL (pv 1) AB) AD)))))
  (AR (Al (NG (pv 2) (LA (pv 3))))))
 exists _,G,a,_,_,_,G,G,AJ.of J,GQ,_,G,c,_,_,_,G,G,AJ.of O,GQ,_,_,G,_,G,a,_,_,_,G,G,AJ.of J,G0,_,G,c,_,_,_,G,G,AJ.of O,G0,_,_,G,_,_,G,rfl;exists _,G,a,_,_,_,G,G,AJ.of J,GR,_,G,c,_,_,_,G,G,AJ.of O,GR,_,_,G,_,G,a,_,_,_,G,G,AJ.of J,GP,_,G,c,_,_,_,G,G,AJ.of O,GP,_,_,G,_,_,G,rfl;rw[XI,W7,XI,W7];exists _,G,_,rfl;by_cases h1:max b.l d.l<min b.r d.r
 ·refine By h1 ⟨_,G,?_⟩;rw[qu (hn h1)];exact q
 ·exact Be h1 q
inductive WK(vs:List V)(H:Hp)(Q:VK)(_:XK):Prop
 |mk (a:Addr) (bs:List Bx) (O:vs=[.ref a]) (J:BC Dk H a bs) (F:bs.length<=1000) (aa:∀(i j:Nat) (b c:Bx),i<j->bs[i]?=some b->bs[j]?=some c->max b.l c.l<min b.r c.r->max b.d c.d<min b.u c.u->False) (ab:∀H',AK H H'->Q .Ay H')
theorem Nf:An ["rectangles","j","one","k"] ["rectangles"] (Ac s_first_overlap):=Aw
theorem lE(F:Fun K "first_overlap" "first_overlap" s_first_overlap f fd)(G:AX P w K mg base 1 "overlap" ["one","other"] WV)(me:mg "enumerate" = none)(mr:mg "range" = none)(ml:mg "len" = none):Ai P w K mg base Ae 2 f fd ["rectangles"] WK:=by
 refine F.Ax Nf λim A ab s H vs Q E hr h=>?_
 obtain⟨a,bs,rfl,⟨cs,ha,hC⟩,hl,no,q⟩:=h;exists _,AM (Bk oX rfl (MG (by rfl) me (AA (pv 0) AD)) (CZ (n:=2) rfl (Av (Ak 1 Nf) (Av (Ak 2 Nf) CV)))
   (AR (Bk oX rfl (Ki (by rfl) mr (AA (AN BM (pv 1) AB) (AA (C8 ml (pv 0)) AD))) (Ak 3 Nf)
    (AR (BU (Ei (AS G (AA (pv 2) (AA (pL (pv 0) (pv 3)) AD)))) Ee Bg)))))
  (AR (Al Ie))
 have lc:cs.length=bs.length:=hC.1;exists _,rfl,a,_,rfl,ha;refine L8 (xs:=cs.map V.ref) (λi σ H2=>AK H H2/\∃u1 u2 J,σ=[some (.ref a),u1,u2,J]) ⟨AK.refl _,none,none,none,rfl⟩ (λi σ H2 _ ⟨s2,_⟩=>s2 _ _ ha) ?_ ?_
 ·rintro i x σ H2 p hx ⟨s2,u1,u2,J,rfl⟩ hp;obtain⟨c,b,rfl,_,hy,fb⟩:=hC.ref hx;have bi:i<bs.length:=(oh.mp hy).1;refine BS hp (.AF [.int ((i:Nat):Int),.ref c]) λH3 s3 g3=>?_
  have O:=s2.trans s3;exists p,_,rfl,AH.of g3,rfl,_,_,rfl,_,_,rfl,rfl;exists _,rfl,_,_,rfl,rfl,_,rfl,a,_,rfl,.inl (AJ.of (O _ _ ha)),_,_,rfl,?_
  ·rw[kb,lc];omega
  rw[kb,lc,show((bs.length:Int)-((i:Int)+1)).toNat=bs.length-(i+1) by omega];refine Fb (λk σ H4=>H4=H3/\∃J,σ=[some (.ref a),some (.int ((i:Nat):Int)),some (.ref c),J]) ⟨rfl,J,rfl⟩ ?_ ?_
  ·rintro k σ H4 hk ⟨rfl,u4,rfl⟩;have hz:bs[i+1+k]?=some bs[i+1+k]:=og (by omega);obtain⟨cz,aa,fz⟩:=hC.get hz;exact⟨_,rfl,_,rfl,_,rfl,a,_,_,_,rfl,rfl,AJ.of (O _ _ ha),BE (j:=i+1+k) (Cg aa),c,cz,b,_,rfl,O _ _ fb,O _ _ fz,no i _ b _ (by omega) hy hz,_,rfl,Br ⟨rfl,_,rfl⟩⟩
  ·rintro σ H4 ⟨rfl,u4,rfl⟩;exact⟨O,_,_,_,rfl⟩
 ·rintro σ H2 ⟨s2,u1,u2,J,rfl⟩;exact q _ s2
def E6(t:Nat)(b:Bx):Int:=if t=0 then b.l else b.d
def FP(t:Nat)(b:Bx):Int:=if t=0 then b.r else b.u
theorem Vf{t:Nat}(h:t<=1)(b:Bx):BY [V.int b.l,.int b.d,.int b.r,.int b.u] (t:Int)=some (.int (E6 t b))/\BY [V.int b.l,.int b.d,.int b.r,.int b.u] ((t:Int)+2)=some (.int (FP t b)):=by
 rcases(show t=0\/t=1 by lia)with rfl|rfl
 ·exact⟨GQ,G0⟩
 ·exact⟨GR,GP⟩
structure Bd(t:Nat)(m:Int)(bs:List Bx)(xs:List Int):Prop where
 up:xs.Pairwise (· < ·)
 mem:∀v,v∈xs↔v=0\/v=m\/v∈bs.map (E6 t)++bs.map (FP t)
 len:xs.length<=62
inductive WL(vs:List V)(H:Hp)(Q:VK)(_:XK):Prop
 |mk (a:Addr) (bs:List Bx) (t:Nat) (m:Int) (O:vs=[.ref a,.int t,.int m]) (J:BC Dk H a bs) (F:bs.length<=30) (aa:t<=1) (ab:∀l xs H',AK H H'->Bl H' l xs->Bd t m bs xs->Q (.ref l) H')
theorem QD:An ["rectangles","at","most","lesser","greater"] ["rectangles","at","most"] (Ac s_borders):=Aw
theorem WZ:(["rectangle","at"]:List Str).Nodup:=by decide +kernel
theorem jB:qY "set" = some (.type "set"):=by decide +kernel
theorem lG(F:Fun K "borders" "borders" s_borders f fd)(ad:mg "set" = none)(ac:mg "sorted" = none):Ai P w K mg base Ae 1 f fd ["rectangles","at","most"] WL:=by
 refine F.Ax QD λim A ag s H vs Q E hr h=>?_
 obtain⟨a,bs,t,m,rfl,⟨cs,ha,hC⟩,hl,ht,q⟩:=h;exists _,AM (Ga (i:=3) QD.nd rfl (qL rfl) (Nc:=["rectangle","at"]) (cap:=[(1,1)]) (g:=BH 0) (te:=BK (Er []) (Ag 0) (Ag 1)) rfl (DV (pv 0)) CD
   (λ_ _ _ _ _=>Bj (i:=0) WZ rfl (qL rfl)) (λ_ _ _ _ _=>pL (pv 0) (pv 1)))
  (AM (Ga (i:=4) QD.nd rfl (qL rfl) (Nc:=["rectangle","at"]) (cap:=[(1,1)]) (g:=BH 0) (te:=BK (Er []) (Ag 0) (BK (EY λi j=>.int (i+j)) (Ag 1) (tC (.int 2)))) rfl (DV (pv 0)) CD
   (λ_ _ _ _ _=>Bj (i:=0) WZ rfl (qL rfl)) (λ_ _ _ _ _=>pL (pv 0) (AN BM (pv 1) AB)))
  (AR (Al (CA (gE (P:=P) (w:=w) rfl) (by rfl) ac ZM (AA (D5 (cS (K:=K) (P:=P) (w:=w) rfl) (by rfl) ad jB (AA (AN Gm (AN Gm (CJ (AA AB (AA (pv 2) AD))) (pv 3)) (pv 4)) AD)) AD)))))
 have lc:cs.length=bs.length:=hC.1;refine⟨_,G,a,G,⟨_,AJ.of ha⟩,λl1 h1=>?_⟩;refine CP (Fc ha) (by rw[kb,lc];lia) h1 (λi ys σ _=>ys=((bs.take i).map (E6 t)).map V.int/\∃u,σ=[u,some (.int (t:Int))]) ⟨G,none,G⟩ ?_ ?_
 ·rintro i ys σ H2 x H3 hi sm ae ⟨J,u,rfl⟩ ⟨rfl,hx⟩ C aa;obtain⟨c,b,rfl,_,hy,hB⟩:=hC.ref hx;refine⟨_,G,_,G,c,_,_,_,G,G,AJ.of (sm _ _ hB),(Vf ht b).1,aa _ _ _ (AK.refl _) ⟨?_,_,G⟩⟩;rw[J,Bc hy,oU,oU];rfl
 rintro ys σ H1 O g1 _ ⟨J,_⟩;rw[kb,lc,qE]at J;subst J;refine⟨_,G,a,G,⟨_,AJ.of (O _ _ ha)⟩,λl2 h2=>?_⟩;refine CP (Fc (O _ _ ha)) (by rw[kb,lc];lia) h2 (λi ys σ _=>ys=((bs.take i).map (FP t)).map V.int/\∃u,σ=[u,some (.int (t:Int))]) ⟨G,none,G⟩ ?_ ?_
 ·rintro i ys σ H2 x H3 hi sm ae ⟨J,u,rfl⟩ ⟨rfl,hx⟩ C aa;obtain⟨c,b,rfl,_,hy,hB⟩:=hC.ref hx;refine⟨_,G,_,G,_,_,G,G,c,_,_,_,G,G,AJ.of (sm _ _ (O _ _ hB)),(Vf ht b).2,aa _ _ _ (AK.refl _) ⟨?_,_,G⟩⟩;rw[J,Bc hy,oU,oU];rfl
 rintro ys σ H2 s2 g2 _ ⟨J,_⟩;rw[kb,lc,qE]at J;subst J;refine⟨_,G,by exact CI,λl3 h3=>?_⟩;refine BS h3 (.AE [.int 0,.int m]) λH3 s3 g3=>?_
 refine⟨_,G,l3,l1,_,_,G,G,g3,s3 _ _ (s2 _ _ g1),by rw[kb,kb];exact Et (by show 2+bs.length<=_;lia),λl4 h4=>?_⟩;obtain⟨H4,zg,s4,g4⟩:=nw h4 (.AE ([.int 0,.int m]++(bs.map (E6 t)).map V.int));rw[zg];have ab:=s3.trans s4;refine⟨_,G,l4,l2,_,_,G,G,g4,ab _ _ g2,by rw[oF,kb,kb,kb,kb];exact Et (by show 2+bs.length+bs.length<=_;lia),λl5 h5=>?_⟩;rw[show [V.int 0,.int m]++(bs.map (E6 t)).map V.int++(bs.map (FP t)).map V.int=((0:Int) :: m :: (bs.map (E6 t)++bs.map (FP t))).map V.int by simp];have ln:((0:Int) :: m :: (bs.map (E6 t)++bs.map (FP t))).length=2+2*bs.length:=by simp;lia
 have la:=RF ((0:Int) :: m :: (bs.map (E6 t)++bs.map (FP t)));refine BS h5 (.AE (((0:Int) :: m :: (bs.map (E6 t)++bs.map (FP t))).map V.int)) λH5 s5 g5=>?_
 refine⟨l5,_,G,AJ.of g5,by rw[ln];lia,λl6 h6=>?_⟩;refine BS h6 (KI P w l6 (C3 ((0:Int) :: m :: (bs.map (E6 t)++bs.map (FP t))))) λH6 s6 g6=>?_
 refine⟨l6,_,G,g6,(),λl7 ms h7 pm af=>?_⟩;refine q l7 ms _ ((O.trans s2).trans ((ab.trans (s5.trans s6)).trans (AW h7 _))) AQ ⟨?_,λv=>by rw[pm.mem_iff,ZC];simp only[oG],by have:=pm.length_eq;lia⟩;exact(af.and (pm.nodup_iff.mpr (Xu _))).imp λ⟨a,b⟩=>by lia
theorem Eg(h:j<xs.length):xs.getD j 0=xs[j]:=by rw[oj,og h];rfl
theorem PJ(h:xs.Pairwise (· < ·))(F:j<xs.length)(J:i<j):xs.getD i 0<xs.getD j 0:=by
 rw[Eg F,Eg (show i<xs.length by lia)];exact qg.mp h i j () F J
theorem Mu(h:xs.Pairwise (· < ·))(J:j<xs.length)(F:v∈xs):xs.idxOf v<xs.length/\(xs.idxOf v<=j↔v<=xs.getD j 0):=by
 have hi:=rJ.mpr F;have e:xs.getD (xs.idxOf v) 0=v:=by rw[Eg hi];exact yx hi
 refine⟨hi,λz=>?_,λz=>?_⟩
 ·rcases oW (xs.idxOf v) j with y|y
  ·have:=PJ h J y;lia
  ·obtain O:xs.idxOf v=j:=()
   rw[<-O,e];exact rO _
 ·rcases oW j (xs.idxOf v)with y|y
  ·have:=PJ h hi y;lia
  ·exact y
def Lq(xs ys:List Int)(b:Bx)(j k:Nat):Prop:=xs.idxOf b.l<=j/\j<xs.idxOf b.r/\ys.idxOf b.d<=k/\k<ys.idxOf b.u
theorem Bd.of(h:Bd t m bs xs)(F:b∈bs):E6 t b∈xs/\FP t b∈xs :=
 ⟨(h.mem _).mpr (.inr (.inr (uK _ (oI.mpr ⟨b,F,G⟩)))),(h.mem _).mpr (.inr (.inr (qB _ (oI.mpr ⟨b,F,G⟩))))⟩
theorem Bd.KY(h:Bd t m bs xs)(m0:0<m)(J:∀b∈bs,0<=E6 t b/\E6 t b<=FP t b/\FP t b<=m)(F:j+1<xs.length):0<=xs.getD j 0/\xs.getD j 0<m:=by
 have all:∀v∈xs,0<=v/\v<=m:=λv O=>by
  rcases(h.mem v).mp O with rfl|rfl|z
  ·lia
  ·lia
  ·rcases oM.mp z with z|z<;>(obtain⟨b,h1,rfl⟩:=oI.mp z;have:=J b h1;lia)
 have a:=all _ (show xs.getD j 0∈xs by rw[Eg ()];exact qd _);have b:=all _ (show xs.getD (j+1) 0∈xs by rw[Eg F];exact qd _)
 have:=PJ h.up F (vc j)
 lia
def kC(j k:Nat):List Aq:=[.inl (j:Int),.inl (k:Int)]
def Jv(ii:List (List Aq×V))(c:Nat->Nat->Prop):Prop:=∀j k,c j k->(Bm ii (kC j k)).isSome=true
theorem ZS(h:Jv ii c)(J F:Nat)(v:V)(e:∀j k,c' j k->c j k\/(j=J/\k=F)):Jv (CM ii (kC J F) v) c':=by
 intro j k z;rw[cF];split
 ·rfl
 ·rename_i n
  rcases e j k z with y|⟨rfl,rfl⟩
  ·exact h j k y
  ·exact absurd rfl n
inductive Vh(vs:List V)(H:Hp)(Q:VK)(_:XK):Prop
 |mk (c r a:Addr) (xs ys:List Int) (bs:List Bx) (ac:vs=[.ref c,.ref r,.ref a]) (af:Bl H c xs) (O:Bl H r ys) (ad:BC Dk H a bs) (J:bs.length<=30) (ae:xs.length<=62) (F:ys.length<=62) (aa:∀b∈bs,b.l∈xs/\b.r∈xs/\b.d∈ys/\b.u∈ys)
  (ab:∀p ii H',AK H H'->H' p=some (.dT ii)->Jv ii (λj k=>∃b∈bs,Lq xs ys b j k)->Q (.ref p) H')
theorem LJ:An ["columns","rows","rectangles","covered","rectangle","column","row"] ["columns","rows","rectangles"] (Ac s_covered_cells):=Aw
theorem hV(F:Fun K "covered_cells" "covered_cells" s_covered_cells f fd)(mr:mg "range" = none):Ai P w K mg base Ae 1 f fd ["columns","rows","rectangles"] Vh:=by
 refine F.Ax LJ λim A ac s H vs Q E hr h=>?_
 obtain⟨c,r,a,xs,ys,bs,rfl,hc,aa,⟨cs,ha,hC⟩,hl,lx,ly,hm,q⟩:=h;have hu:=Hh hr;exists _,AM (AU 3 LJ bG)
  (AM (Bk oX rfl (DV (pv 2)) (Ak 4 LJ)
   (AR (Bk oX rfl (Ki (by rfl) mr
     (AA (DD pA t9 vv MN (pv 0) (AA (pL (pv 4) AB) AD))
      (AA (DD pA t9 vv MN (pv 0) (AA (pL (pv 4) AB) AD)) AD))) (Ak 5 LJ)
    (AR (Bk oX rfl (Ki (by rfl) mr
      (AA (DD pA t9 vv MN (pv 1) (AA (pL (pv 4) AB) AD))
       (AA (DD pA t9 vv MN (pv 1) (AA (pL (pv 4) AB) AD)) AD))) (Ak 6 LJ)
     (AR (Jj hu (pv 3) (BB (AA (pv 5) (AA (pv 6) AD))) NM rfl)))))))
  (AR (Al (pv 3))))
 have lc:cs.length=bs.length:=hC.1;refine λD hD=>?_
 refine BS hD (.dT []) λH1 s1 g1=>?_
 exists _,G,a,G,⟨_,AJ.of (s1 _ _ ha)⟩;refine IT (xs:=cs.map V.ref) (λi σ H2=>AK H H2/\(∃u4 u5 J,σ=[some (.ref c),some (.ref r),some (.ref a),some (.ref D),u4,u5,J])/\∃ii,H2 D=some (.dT ii)/\ii.length<=i*4000/\Jv ii λj k=>∃b∈bs.take i,Lq xs ys b j k)
  ⟨s1,⟨none,none,none,G⟩,[],g1,o9 _,λj k ⟨b,hb,_⟩=>by cases hb⟩ (λi σ H2 _ ⟨s2,_⟩=>AJ.of (s2 _ _ ha)) ?_ ?_
 ·rintro i x σ H2 hx ⟨s2,⟨u4,u5,J,rfl⟩,ii,hk,nk,O⟩;obtain⟨cb,b,rfl,_,hy,fb⟩:=hC.ref hx;have bi:i<bs.length:=(oh.mp hy).1;obtain⟨m1,m2,m3,m4⟩:=hm b (oi hy);have i2:=rJ.mpr m2;have i4:=rJ.mpr m4;have i1:=rJ.mpr m1;have i3:=rJ.mpr m3;refine⟨_,G,.inl ⟨G,_,AJ.of (s2 _ _ hc)⟩,_,G,cb,_,_,_,G,G,AJ.of (s2 _ _ fb),GQ,c,xs,_,G,G,s2 _ _ hc,m1,by lia  ,?_⟩;refine⟨_,G,.inl ⟨G,_,AJ.of (s2 _ _ hc)⟩,_,G,cb,_,_,_,G,G,AJ.of (s2 _ _ fb),G0,c,xs,_,G,G,s2 _ _ hc,m2,by lia  ,?_⟩;refine⟨_,_,G,by lia  ,?_⟩;rw[show(((xs.idxOf b.r:Nat):Int)-((xs.idxOf b.l:Nat):Int)).toNat=xs.idxOf b.r-xs.idxOf b.l by lia  ];refine Fb (λn σ H3=>AK H H3/\(∃u5 J,σ=[some (.ref c),some (.ref r),some (.ref a),some (.ref D),some (.ref cb),u5,J])/\∃ii,H3 D=some (.dT ii)/\ii.length<=i*4000+n*62/\Jv ii λj k=>(∃b∈bs.take i,Lq xs ys b j k)\/(xs.idxOf b.l<=j/\j<xs.idxOf b.l+n/\ys.idxOf b.d<=k/\k<ys.idxOf b.u))
   ⟨s2,⟨u5,J,G⟩,ii,hk,(),λj k z=>O j k (z.elim id λy=>())⟩ ?_ ?_
  ·rintro n σ H3 hn ⟨s3,⟨u5,J,rfl⟩,ii,hk,nk,O⟩;refine⟨_,G,.inl ⟨G,_,AJ.of (s3 _ _ aa)⟩,_,G,cb,_,_,_,G,G,AJ.of (s3 _ _ fb),GR,r,ys,_,G,G,s3 _ _ aa,m3,by lia  ,?_⟩;refine⟨_,G,.inl ⟨G,_,AJ.of (s3 _ _ aa)⟩,_,G,cb,_,_,_,G,G,AJ.of (s3 _ _ fb),GP,r,ys,_,G,G,s3 _ _ aa,m4,by lia  ,?_⟩;refine⟨_,_,G,by lia  ,?_⟩;rw[show(((ys.idxOf b.u:Nat):Int)-((ys.idxOf b.d:Nat):Int)).toNat=ys.idxOf b.u-ys.idxOf b.d by lia  ];refine Fb (λt σ H4=>AK H H4/\(∃J,σ=[some (.ref c),some (.ref r),some (.ref a),some (.ref D),some (.ref cb),some (.int (((xs.idxOf b.l:Nat):Int)+(n:Int))),J])/\∃ii,H4 D=some (.dT ii)/\ii.length<=i*4000+n*62+t /\
     Jv ii λj k=>((∃b∈bs.take i,Lq xs ys b j k)\/(xs.idxOf b.l<=j/\j<xs.idxOf b.l+n/\ys.idxOf b.d<=k/\k<ys.idxOf b.u))\/(j=xs.idxOf b.l+n/\ys.idxOf b.d<=k/\k<ys.idxOf b.d+t))
    ⟨s3,⟨J,G⟩,ii,hk,(),λj k z=>O j k (z.elim id λy=>())⟩ ?_ ?_
   ·rintro t σ H4 ht ⟨s4,⟨J,rfl⟩,ii,hk,nk,O⟩;refine⟨_,G,_,G,_,G,by exact CI,λtp ab=>?_⟩;refine BS ab (.AF [.int (((xs.idxOf b.l:Nat):Int)+(n:Int)),.int (((ys.idxOf b.d:Nat):Int)+(t:Int))]) λH5 s5 zz=>?_
    have g5:H5 tp=some (.AF ((kC (xs.idxOf b.l+n) (ys.idxOf b.d+t)).map kV)):=zz;refine⟨D,_,G,FJ.t (s5 _ _ hk) g5 (by rw[pD];lia),(s4.trans s5).up hD _,⟨_,G⟩,_,AQ,by have:=Ly ii (kC (xs.idxOf b.l+n) (ys.idxOf b.d+t)) (V.bl true);lia,ZS O _ _ _ λj k z=>?_⟩;rcases z with z|z
    ·exact .inl (.inl z)
    ·rcases(show k<ys.idxOf b.d+t\/k=ys.idxOf b.d+t by lia)with y|y
     ·exact .inl (.inr ⟨z.1,z.2.1,y⟩)
     ·exact .inr ⟨z.1,y⟩
   ·rintro σ H4 ⟨s4,⟨J,rfl⟩,ii,hk,nk,O⟩;refine⟨s4,⟨_,_,G⟩,ii,hk,(),λj k z=>O j k ?_⟩;rcases z with z|z
    ·exact .inl (.inl z)
    ·rcases(show j<xs.idxOf b.l+n\/j=xs.idxOf b.l+n by lia)with y|y
     ·exact .inl (.inr ⟨z.1,y,z.2.2⟩)
     ·exact .inr ⟨y,(),()⟩
  ·rintro σ H3 ⟨s3,⟨u5,J,rfl⟩,ii,hk,nk,O⟩;refine⟨s3,⟨_,_,_,G⟩,ii,hk,(),λj k z=>O j k ?_⟩;rw[Bc hy]at z;obtain⟨b',mb,z⟩:=z;rcases oM.mp mb with y|y
   ·exact .inl ⟨b',y,z⟩
   ·rw[pH.mp y]at z;unfold Lq at z;exact .inr ()
 ·rintro σ H2 ⟨s2,⟨u4,u5,J,rfl⟩,ii,hk,nk,O⟩;rw[kb,lc,qE]at O;exact⟨_,G,q D ii H2 s2 hk O⟩
inductive WY(vs:List V)(H:Hp)(Q:VK)(_:XK):Prop
 |mk (m n:Int) (a:Addr) (bs:List Bx) (aa:vs=[.int m,.int n,.ref a]) (O:BC Dk H a bs) (F:bs.length<=30) (ab:0<m) (ac:0<n) (ad:E8 m n bs) (J:∀H',AK H H'->Q .Ay H')
theorem KH:An ["width","height","rectangles","columns","rows","covered","row","column"] ["width","height","rectangles"] (Ac s_first_gap):=Aw
theorem jx (F:Fun K "first_gap" "first_gap" s_first_gap f fd)(G1:AX P w K mg base 1 "borders" ["rectangles","at","most"] WL)(G2:AX P w K mg base 1 "covered_cells" ["columns","rows","rectangles"] Vh)
  (mr:mg "range" = none)(ml:mg "len" = none):Ai P w K mg base Ae 2 f fd ["width","height","rectangles"] WY:=by
 refine F.Ax KH λim A ai s H vs Q E hr h=>?_
 obtain⟨m,n,a,bs,rfl,hA,hl,m0,n0,cv,q⟩:=h;have hu:=Hh hr;exists _,AM (AU 3 KH (AS G1 (AA (pv 2) (AA AB (AA (pv 0) AD)))))
  (AM (AU 4 KH (AS G1 (AA (pv 2) (AA AB (AA (pv 1) AD)))))
  (AM (AU 5 KH (AS G2 (AA (pv 3) (AA (pv 4) (AA (pv 2) AD)))))
  (AM (Bk oX rfl (F4 (by rfl) mr (AA (AN CB (C8 ml (pv 4)) AB) AD)) (Ak 6 KH)
   (AR (Bk oX rfl (F4 (by rfl) mr (AA (AN CB (C8 ml (pv 3)) AB) AD)) (Ak 7 KH)
    (AR (BU (HY (L5 hu (BB (AA (pv 7) (AA (pv 6) AD))) (pv 5))) Ee Bg)))))
  (AR (Al Ie)))))
 refine⟨_,G,_,G,a,bs,0,m,G,hA,hl,o9 _,λc xs H1 s1 hc O=>?_⟩;refine⟨_,G,_,G,a,bs,1,n,G,NH s1 hA,hl,oz _,λr ys H2 s2 ad aa=>?_⟩;have ac:=s1.trans s2;refine⟨_,G,_,G,_,G,c,r,a,xs,ys,bs,G,s2 _ _ hc,ad,NH ac hA,hl,O.len,aa.len,λb J=>⟨(O.of J).1,(O.of J).2,(aa.of J).1,(aa.of J).2⟩,λD ii H3 s3 hD ck=>?_⟩;have ag:H3 c=some (.AE (xs.map V.int)):=s3 _ _ (s2 _ _ hc);have af:H3 r=some (.AE (ys.map V.int)):=s3 _ _ ad;have ah:=ac.trans s3;have lx:=O.len;have ly:=aa.len;have cc:∀j k,j<xs.length-1->k<ys.length-1->(Bm ii (kC j k)).isSome=true:=λj k hj hk=>by
  have ob:∀b∈bs,b.l<=b.r/\b.d<=b.u:=λb J=>by have:=cv.ok b J;lia
  obtain⟨x0,x1⟩:=O.KY m0 (λb J=>⟨(cv.Bz b J).1,(ob b J).1,(cv.Bz b J).2.2.1⟩) (show j+1<xs.length by lia);obtain⟨y0,y1⟩:=aa.KY n0 (λb J=>⟨(cv.Bz b J).2.1,(ob b J).2,(cv.Bz b J).2.2.2⟩) (show k+1<ys.length by lia);obtain⟨b,J,z1,z2,z3,z4⟩:=cv.Lj _ _ x0 x1 y0 y1;obtain⟨m1,m2⟩:b.l∈xs/\b.r∈xs:=O.of J;obtain⟨m3,m4⟩:b.d∈ys/\b.u∈ys:=aa.of J;have w1:=(Mu O.up (show j<xs.length by lia) m1).2;have w2:=(Mu O.up (show j<xs.length by lia) m2).2;have w3:=(Mu aa.up (show k<ys.length by lia) m3).2;have w4:=(Mu aa.up (show k<ys.length by lia) m4).2;exact ck j k ⟨b,J,w1.mpr z1,(),w3.mpr z3,()⟩
 refine⟨_,G,r,_,G,.inl (AJ.of af),_,_,G,G,_,G,by rw[kb];lia,by rw[kb];lia,?_⟩;rw[kb,show((ys.length:Int)-1).toNat=ys.length-1 by lia];refine Fb (λk σ H4=>AK H3 H4/\∃u6 u7,σ=[some (.int m),some (.int n),some (.ref a),some (.ref c),some (.ref r),some (.ref D),u6,u7]) ⟨AK.refl _,none,none,G⟩ ?_ ?_
 ·rintro k σ H4 hk ⟨s4,u6,u7,rfl⟩;rw[zd];refine⟨_,G,c,_,G,.inl (AJ.of (s4 _ _ ag)),_,_,G,G,_,G,by rw[kb];lia,by rw[kb];lia,?_⟩;rw[kb,show((xs.length:Int)-1).toNat=xs.length-1 by lia];refine Fb (λj σ H5=>AK H3 H5/\∃u7,σ=[some (.int m),some (.int n),some (.ref a),some (.ref c),some (.ref r),some (.ref D),some (.int (k:Int)),u7]) ⟨s4,u7,G⟩ ?_ ?_
  ·rintro j σ H5 hj ⟨s5,u7,rfl⟩;rw[zd];refine⟨_,G,_,G,by exact CI,λtp ae=>?_⟩;refine BS ae (.AF [.int (j:Int),.int (k:Int)]) λH6 s6 zz=>?_
   have g6:H6 tp=some (.AF ((kC j k).map kV)):=zz;have ab:=s5.trans s6;exists _,G,D,_,G,DP.t (ab _ _ hD) g6,_,rfl;rw[cc j k hj hk];exact Br ⟨ab,_,G⟩
  ·rintro σ H5 ⟨s5,u7,rfl⟩;exact⟨s5,_,_,G⟩
 ·rintro σ H4 ⟨s4,u6,u7,rfl⟩;exact q _ (ah.trans s4)
inductive WB(vs:List V)(H:Hp)(Q:VK)(_:XK):Prop
 |mk (m n:Int) (a:Addr) (bs:List Bx) (aa:vs=[.int m,.int n,.ref a]) (O:BC Dk H a bs) (F:bs.length<=30) (ab:0<m) (ac:0<n) (ad:E8 m n bs) (J:∀p H',AK H H'->H' p=some (.AF [.str "covers"])->Q (.ref p) H')
theorem Iy:An ["width","height","rectangles","k","rectangle","pair","gap"] ["width","height","rectangles"] (Ac s_looked_whole):=Aw
theorem lF (F:Fun K "looked_whole" "looked_whole" s_looked_whole f fd)(G1:AX P w K mg base 1 "is_neither" ["rectangle"] WU)(G2:AX P w K mg base 1 "is_out" ["rectangle","width","height"] VR)(G3:AX P w K mg base 2 "first_overlap" ["rectangles"] WK)(G4:AX P w K mg base 2 "first_gap" ["width","height","rectangles"] WY)
  (me:mg "enumerate" = none):Ai P w K mg base Ae 3 f fd ["width","height","rectangles"] WB:=by
 refine F.Ax Iy λim A ab s H vs Q E hr h=>?_
 obtain⟨m,n,a,bs,rfl,hA,hl,m0,n0,cv,q⟩:=h;exists _,AM (Bk oX rfl (MG (by rfl) me (AA (pv 2) AD)) (CZ (n:=2) rfl (Av (Ak 3 Iy) (Av (Ak 4 Iy) CV)))
   (AR (BU (Ei (AS G1 (AA (pv 4) AD))) Ee Bg)))
  (AM (Bk oX rfl (MG (by rfl) me (AA (pv 2) AD)) (CZ (n:=2) rfl (Av (Ak 3 Iy) (Av (Ak 4 Iy) CV)))
   (AR (BU (Ei (AS G2 (AA (pv 4) (AA (pv 0) (AA (pv 1) AD))))) Ee Bg)))
  (AM (AU 5 Iy (AS G3 (AA (pv 2) AD)))
  (AM (BU (HY (Tz (pv 5))) Ee Bg)
  (AM (AU 6 Iy (AS G4 (AA (pv 0) (AA (pv 1) (AA (pv 2) AD)))))
  (AM (BU (HY (Tz (pv 6))) Ee Bg)
  (AR (Al (BB (AA PQ AD)))))))))
 obtain⟨cs,ha,hC⟩:=id hA;have lc:cs.length=bs.length:=hC.1;exists _,G,a,_,G,ha;refine L8 (xs:=cs.map V.ref) (λi σ H2=>AK H H2/\∃u3 O,σ=[some (.int m),some (.int n),some (.ref a),u3,O,none,none]) ⟨AK.refl _,none,none,G⟩ (λi σ H2 _ ⟨J,_⟩=>J _ _ ha) ?_ ?_
 ·rintro i x σ H2 p hx ⟨J,u3,O,rfl⟩ hp;obtain⟨c,b,rfl,_,hy,fb⟩:=hC.ref hx;refine BS hp (.AF [.int ((i:Nat):Int),.ref c]) λH3 s3 g3=>?_
  exact⟨p,_,G,AH.of g3,G,_,_,G,_,_,G,G,_,G,c,b,G,(J.trans s3) _ _ fb,cv.ok b (oi hy),_,G,Br ⟨J.trans s3,_,_,G⟩⟩
 rintro σ H1 ⟨s1,u3,O,rfl⟩;exists _,G,a,_,G,s1 _ _ ha;refine L8 (xs:=cs.map V.ref) (λi σ H2=>AK H H2/\∃u3 O,σ=[some (.int m),some (.int n),some (.ref a),u3,O,none,none]) ⟨s1,u3,O,G⟩ (λi σ H2 _ ⟨J,_⟩=>J _ _ ha) ?_ ?_
 ·rintro i x σ H2 p hx ⟨J,u3,O,rfl⟩ hp;obtain⟨c,b,rfl,_,hy,fb⟩:=hC.ref hx;refine BS hp (.AF [.int ((i:Nat):Int),.ref c]) λH3 s3 g3=>?_
  exact⟨p,_,G,AH.of g3,G,_,_,G,_,_,G,G,_,G,_,G,_,G,c,b,m,n,G,(J.trans s3) _ _ fb,cv.Bz b (oi hy),_,G,Br ⟨J.trans s3,_,_,G⟩⟩
 rintro σ H2 ⟨J,v3,v4,rfl⟩;refine⟨_,G,a,bs,G,NH J hA,(),cv.Nw,λH3 s3=>⟨_,G,_,G,Br ?_⟩⟩;have aa:=J.trans s3;refine⟨_,G,_,G,_,G,m,n,a,bs,G,NH aa hA,hl,m0,n0,cv,λH4 s4=>⟨_,G,_,G,Br ?_⟩⟩;exact⟨by exact IL,λt ht=>q t _ (aa.trans (s4.trans (AW ht _))) AQ⟩
def Bq(B:Int)(r:List Rat):Bx:=⟨wh B (r.getD 0 0),wh B (r.getD 1 0),wh B (r.getD 2 0),wh B (r.getD 3 0)⟩
theorem Uq{rows:List (List Rat)}(aa:∀r∈rows,r.length=4)(hL:BC Bl H l (rows.map λr=>r.map (wh B))):BC Dk H l (rows.map (Bq B)):=by
 obtain⟨cs,h1,h2,h3⟩:=hL;refine⟨cs,h1,by rw[h2,kb,kb],λi c b e1 F=>?_⟩;rw[om]at F;obtain⟨r,J,rfl⟩:=qe.mp F
 have:=h3 i c (r.map (wh B)) e1 (by rw[om,J];rfl)
 have O:=aa r (oi J)
 match r,O with
 |[q0,q1,q2,q3],_=>exact this
inductive WR(vs:List V)(H:Hp)(Q:VK)(_:XK):Prop
 |mk (a:Addr) (W U:Rat) (rows:List (List Rat)) (Z:Int) (ac:vs=[.ref a]) (af:FE H a W U rows) (O:rows.length<=30) (ad:∀r∈rows,r.length=4) (J:0<Z) (ae:Z.natAbs<=2 ^ 3900) (F:∀q∈nums W U rows,(q.den:Int) ∣ Z/\Sf q) (aa:∀B:Int,0<B->(∀q∈nums W U rows,(q.den:Int) ∣ B)->0<wh B W/\0<wh B U/\E8 (wh B W) (wh B U) (rows.map (Bq B)))
  (ab:∀p H',AK H H'->H' p=some (.AF [.str "covers"])->Q (.ref p) H')
theorem Nd:An ["floor","bottom","whole","found"] ["floor"] (Ac s_looked):=Aw
theorem ZT(F:Fun K "looked" "looked" s_looked f fd)(G1:AX P w K mg base 1 "numbers_of" ["floor"] P8)(G3:AX P w K mg base 2 "common_bottom" ["row"] Pq)(G4:AX P w K mg base 3 "looked_whole" ["width","height","rectangles"] WB)(G5:AX P w K mg base 2 "whole_floor" ["floor","bottom"] P7):
  Ai P w K mg base Ae 4 f fd ["floor"] WR:=by
 refine F.Ax Nd λim A ac s H vs Q E hr h=>?_
 obtain⟨a,W,U,rows,Z,rfl,hF,ab,aa,Z0,hZ,hd,hc,q⟩:=h;exists _,AM (AU 1 Nd (AS G3 (AA (AS G1 (AA (pv 0) AD)) AD)))
  (AM (AU 2 Nd (AS G5 (AA (pv 0) (AA (pv 1) AD))))
  (AM (AU 3 Nd (AS G4 (AA (pT (pv 2) AB) (AA (pT (pv 2) AB) (AA (pT (pv 2) AB) AD)))))
  (AM (BU (BF Dv (pT (pv 3) AB) PQ) Ee Bg)
  (AR (Al (pv 3))))))
 refine⟨_,G,a,W,U,rows,G,hF,(),aa,λpn H1 s1 hN=>⟨pn,_,Z,G,hN,λy J=>(hd y J).1,Z0,hZ,?_⟩⟩;obtain⟨B0,B1⟩:=Jp (nums W U rows);have BZ:cb (nums W U rows) ∣ Z:=Mv _ ∅ (aab _) λy J=>(hd y J).1
 generalize cb (nums W U rows)=B at *;refine⟨_,G,_,G,a,B,W,U,rows,G,Je s1 hF,(),aa,λy J=>⟨(hd y J).2.n,(hd y J).2.d,?_⟩,λpw l H2 s2 O hL=>?_⟩
 ·have yd:=y.den_nz;rw[qw (B1 y J)];refine DY (n:=3900) (oO (uJ _ _) (oO (vA () (vP.mpr BZ)) hZ)) ∅
 obtain⟨w0,u0,cv⟩:=hc B B0 B1;have hB:=Uq aa hL;exists _,G,pw,_,_,_,G,G,AH.of O,Eu _ _ _,_,G,pw,_,_,_,G,G,AH.of O,C6 _ _ _,_,G,pw,_,_,_,G,G,AH.of O,DW _ _ _;refine⟨_,_,l,_,G,hB,by rw[kb];exact ab,w0,u0,cv,λp H3 s3 hp=>?_⟩;exact⟨_,G,p,_,_,_,G,G,AH.of hp,BE (j:=0) rfl,G,_,G,Be (λe=>absurd (V.str.inj e) ∅) ⟨_,G,q p _ ((s1.trans s2).trans s3) hp⟩⟩
theorem Y3 {f:Nat->Hp->V->Hp->Prop}{g:TG}{tt:TT}{te:TE}{G:Hp->Prop}(r:Kg J H1 n f)(hn:n<=1000)(ac:H1 acc=none)(Iv:Nat->List V->St->Hp->Prop)(h0:Iv 0 [] σ0 H1)
  (hs:∀(i:Nat) (ys:List V) (σ:St) (H2:Hp) (x:V) (H3:Hp),i<n->AK H1 H2->H2 acc=some (.AE ys)->Iv i ys σ (BO H2 acc)->f i H2 x H3->∀(C:St->VK) (N:St->Hp->Prop),(∀(O:St) (v:V) (F:Hp),AK H2 F->Iv (i+1) (ys++[v]) O (BO F acc)->C O v F)->(∀(O:St) (F:Hp),AK H2 F->Iv (i+1) ys O (BO F acc)->N O F) →
   g x σ H3 λO H4=>tt O H4 λok F=>if ok=true then te O F (C O) else N O F)
  (ad:∀(ys:List V) (σ:St) (H2:Hp),AK H1 H2->H2 acc=some (.AE ys)->Iv n ys σ (BO H2 acc)->G H2) :
  ∃W:Nat->Nat->List V->St->Hp->Prop,(∃m,W 0 m [] σ0 (AG H1 acc (.AE [])))/\∀i m ys σc H2,W i m ys σc H2 →
   (J.DZ i H2/\G H2)\/(J.go i H2/\∀x H3,J.De i H2 x H3->g x σc H3 λO H4=>tt O H4 λok F=>if ok=true then (te O F λv H6=>H6 acc=some (.AE ys)/\ys.length<oR/\∃m',m' < m/\W (i+1) m' (ys++[v]) O (AG H6 acc (.AE (ys++[v])))) else ∃m',m' < m/\W (i+1) m' ys O F):=by
 exists λi m ys σ H2=>m=n-i/\i<=n/\AK H1 H2/\H2 acc=some (.AE ys)/\ys.length<=i/\Iv i ys σ (BO H2 acc),⟨n,rfl,o9 _,?_,AQ,oz _,?_⟩
 ·intro b o e;rw[AV (BD e ac)];exact e
 ·rw[Mc,Sz ac];exact h0
 ·rintro i m ys σc H2 ⟨rfl,hi,sm,ha,hl,iv⟩;rcases oW i n with aa|hge
  ·refine .inr ⟨r.go i H2 aa sm,λx H3 yl=>?_⟩;refine hs i ys σc H2 x H3 aa sm ha iv (r.yl i H2 x H3 aa sm yl) (λO v F=>F acc=some (.AE ys)/\ys.length<oR/\∃m',m' < n-i/\(m'=n-(i+1)/\i+1<=n/\AK H1 (AG F acc (.AE (ys++[v])))/\(AG F acc (.AE (ys++[v]))) acc=some (.AE (ys++[v]))/\(ys++[v]).length<=i+1/\Iv (i+1) (ys++[v]) O (BO (AG F acc (.AE (ys++[v]))) acc)))
    (λO F=>∃m',m' < n-i/\(m'=n-(i+1)/\i+1<=n/\AK H1 F/\F acc=some (.AE ys)/\ys.length<=i+1/\Iv (i+1) ys O (BO F acc))) ?_ ?_
   ·intro O v F s5 ab;exists s5 _ _ ha,by rw[pD];lia,n-(i+1),(),rfl,aa,?_,AQ,by rw[oF,rn];lia  
    ·intro b o e;rw[AV (BD e ac)];exact s5 _ _ (sm _ _ e)
    ·rw[Mc];exact ab
   ·intro O F s5 ab;exact⟨n-(i+1),(),rfl,aa,sm.trans s5,s5 _ _ ha,(),ab⟩
  ·obtain rfl:i=n:=()
   exact .inl ⟨r.st H2 sm,ad ys σc H2 sm ha iv⟩
open Fl
def DA(r:List Rat):Bool:=decide (r.getD 0 0=r.getD 2 0) && decide (r.getD 1 0=r.getD 3 0)
theorem Uj(a b:Rat):decide ([a.num,(a.den:Int)]=[b.num,(b.den:Int)])=decide (a=b):=by
 rw[decide_eq_decide];constructor
 ·intro h;simp only[List.cons.injEq,and_true]at h;exact Rat.ext h.1 (by have:=h.2;lia)
 ·rintro rfl;rfl
theorem mW{p:Addr}(h:As AO H p r)(n:r.length=4):∃(O c1 c2 c3:Addr) (x0 x1 J x3:Rat),r=[x0,x1,J,x3]/\H p=some (.AF [.ref O,.ref c1,.ref c2,.ref c3])/\AO H O x0/\AO H c1 x1/\AO H c2 J/\AO H c3 x3:=by
 obtain⟨cs,hp,F⟩:=h;have lc:cs.length=4:=by rw[F.1,n]
 match r,n,cs,lc with
 |[x0,x1,J,x3],_,[O,c1,c2,c3],_=>exact⟨O,c1,c2,c3,x0,x1,J,x3,G,hp,F.2 0 _ _ rfl rfl,F.2 1 _ _ rfl rfl,F.2 2 _ _ rfl rfl,F.2 3 _ _ rfl rfl⟩
variable {f1 f2 f3:Addr}{d1 d2 d3:qU}
inductive Pn(vs:List V)(H:Hp)(Q:VK)(_:XK):Prop
 |mk (p:Addr) (r:List Rat) (O:vs=[.ref p]) (J:As AO H p r) (F:r.length=4) (aa:Q (.bl (DA r)) H)
theorem mQ:An ["rectangle"] ["rectangle"] (Ac s_is_point):=Aw
theorem jd(F:Fun K "is_point" "is_point" s_is_point f fd):Ai P w K mg base Ae 1 f fd ["rectangle"] Pn:=by
 refine F.Ax mQ λim A aa s H vs Q E hr h=>?_
 obtain⟨p,r,rfl,J,n4,q⟩:=h;obtain⟨c0,c1,c2,c3,x0,x1,O,x3,rfl,J,h0,h1,h2,h3⟩:=mW J n4;exists _,AR (Al (NG (EH (OD hr.units) (pT (pv 0) AB) (pT (pv 0) AB)) (LA (EH (OD hr.units) (pT (pv 0) AB) (pT (pv 0) AB)))));exists _,G,p,_,_,_,G,G,AH.of J,GQ,_,G,p,_,_,_,G,G,AH.of J,G0,c0,c2,[x0.num,(x0.den:Int)],[O.num,(O.den:Int)],G,G,h0,h2,_,rfl;rw[Uj];have e:DA [x0,x1,O,x3]=(decide (x0=O) && decide (x1=x3)):=rfl;rw[e]at q;by_cases z:x0=O
 ·refine By z ?_;exists _,G,p,_,_,_,G,G,AH.of J,GR,_,G,p,_,_,_,G,G,AH.of J,GP,c1,c3,[x1.num,(x1.den:Int)],[x3.num,(x3.den:Int)],G,G,h1,h3;rw[Uj];rw[qC z,Bool.true_and]at q;exact q
 ·refine Be z ?_;rw[qu z,x6]at q
  first|exact q|(rw[qu z];exact q)
inductive Wa(vs:List V)(H:Hp)(Q:VK)(_:XK):Prop
 |mk (a:Addr) (W U:Rat) (rows:List (List Rat)) (O:vs=[.ref a]) (J:FE H a W U rows) (F:rows.length<=1000) (aa:(∀r∈rows,r.length=4)) (ab:∀p H',AK H H'->FE H' p W U (rows.filter λr=>!DA r)->Q (.ref p) H')
theorem mI:An ["floor"] ["floor"] (Ac s_without_points):=Aw
theorem mC:(["rectangle"]:List Str).Nodup:=by decide +kernel
theorem j7(F:Fun K "without_points" "without_points" s_without_points f fd)(G:AX P w K mg base 1 "is_point" ["rectangle"] Pn)(mt:mg "tuple" = none):Ai P w K mg base Ae 2 f fd ["floor"] Wa:=by
 refine F.Ax mI λim A ao s H vs Q E hr h=>?_
 obtain⟨a,W,U,rows,rfl,⟨p,q0,r,ha,fW,fU,fR⟩,am,n4,q⟩:=h;exists _,AR (Al (BB (AA (pT (pv 0) AB) (AA (pT (pv 0) AB) (AA (D5 E9 (by rfl) mt Dm (AA
   (Z8 (Nc:=["rectangle"]) (cap:=[]) (g:=BH 0) (tt:=Wf (Pg (DO Pn [] E0 (A7 (Ag 0) Ba)))) (te:=Ag 0) rfl (Ds (pT (pv 0) AB))
    CD (λ_ _ _ _ _=>Bj (i:=0) mC rfl (qL rfl))
    (λ_ _ _ _ _=>Gi (Ei (AS G (AA (pv 0) AD)))) (λ_ _ _ _ _=>pv 0)) AD)) AD)))))
 obtain⟨cs,ae,hC⟩:=id fR;have lc:cs.length=rows.length:=hC.1;refine⟨_,rfl,a,_,_,_,rfl,rfl,AH.of ha,Eu _ _ _,_,rfl,a,_,_,_,rfl,rfl,AH.of ha,C6 _ _ _,_,rfl,a,_,_,_,rfl,rfl,AH.of ha,DW _ _ _,r,rfl,⟨_,AH.of ae⟩,λab ak=>?_⟩;refine Y3 (F7 ae) (by rw[kb];lia) ak (λi ws σ hp=>∃es:List Addr,ws=es.map V.ref/\At (As AO) hp es ((rows.take i).filter λr=>!DA r)/\∃u,σ=[u]) ⟨[],rfl,At.nil,none,rfl⟩ ?_ ?_
 ·rintro i ws σ H5 x H6 hi sm al ⟨es,rfl,hE,u,rfl⟩ ⟨rfl,hx⟩ Cc Nn ag af;obtain⟨g1,b,rfl,_,hb,hg⟩:=hC.ref hx;have ac:As AO H6 g1 b:=EB sm hg;exists _,rfl,g1,b,rfl,ac,n4 b (oi hb),_,rfl;cases e:DA b with
  |true =>
   refine Br ?_;exact af _ _ (AK.refl _) ⟨es,rfl,by rw[Bc hb,tV,zL (by simp[e])];simpa using hE,_,rfl⟩
  |false =>
   refine FO ?_;refine⟨_,rfl,ag _ _ _ (AK.refl _) ⟨es++[g1],#v[],?_,_,rfl⟩⟩;rw[Bc hb,tV,zN (by simp[e])];exact hE.snoc (Qf ac al)
 rintro ws σ H2 s2 aj ⟨es,rfl,ad,u,rfl⟩;rw[kb,lc,qE]at ad;refine⟨ab,_,rfl,.inl ⟨AJ.of aj,λJ ah=>?_⟩⟩;have O:=AW ah (.AF (es.map V.ref));have f3:As (As AO) (AG H2 J (.AF (es.map V.ref))) J (rows.filter λr=>!DA r):=⟨es,AQ,(ad.keep EB (DC H2 ab)).keep EB O⟩;generalize AG H2 J (.AF (es.map V.ref))=H3 at O f3;refine⟨by exact Dd,λpp ai=>?_⟩;have v4:=AW ai (.AF [.ref p,.ref q0,.ref J]);have aa:=s2.trans (O.trans v4);exact q pp _ aa ⟨p,q0,J,AQ,aa _ _ fW,aa _ _ fU,Cq (R:=As AO) (λs h=>EB s h) v4 f3⟩
open PySem.Spec PyProof.Rows Ln
theorem MB{β:Type}{b:β}:∀{l:List (Str×β)},l.lookup x=some b->(x,b)∈l
 |[],h=>by cases h
 |(y,c) :: l,h=>by
  rw[List.lookup_cons]at h;split at h
  ·rename_i z
   cases h;rw[eq_of_beq z];exact rh ..
  ·exact pF _ (MB h)
theorem Sl (aa:xR scope X.env=pure cl)(kind:scope.kind=.function)(co:scope.isCoroutine=false)(O:scope.isGenerator=false)
  (hl:N.length=js.length)(nm:∀p∈N.zip js,∃c,X.N[p.2]?=some p.1/\scope.names.lookup p.1=some .free/\cl.lookup p.1=some c/\X.env.cells.lookup p.1=some c/\X.env.scope.names.lookup p.1=some .cell)
  (ab:∀p∈cl,X.env.cells.lookup p.1=some p.2)(F:∀y∈scope.names,y.2≠.cell)(ac:∀y∈scope.names,y.2=.free->∃c,cl.lookup y.1=some c)(ad:∀x,X.fn x=true):NW X scope cl N js:=by
 refine⟨aa,kind,co,O,F,λi x hi=>?_,λx c h=>ab _ (MB h),λx h=>?_,ad⟩
 ·have il:=(oh.mp hi).1;have J:js[i]?=some js[i]:=og (by omega);obtain⟨c,h1,h2,h3,h4,h5⟩:=nm (x,js[i]) (oi (i:=i) (by rw[List.getElem?_zip_eq_some];exact⟨hi,J⟩));exact⟨_,c,J,h1,h2,h3,h4,h5⟩
 ·rcases h with h|h
  ·exact absurd rfl (F _ (MB h))
  ·exact ac _ (MB h) rfl
def B4(H:Hp)(p:Addr)(s:Sd):Prop:=H p=some (.AF [.int s.1,.int s.2.1,.int s.2.2])
theorem Gs:Mo B4:=λs h=>s _ _ h
def IG(b:AL):List Sd:=[(b.u,b.l,b.r),(b.d,b.l,b.r)]
def Ce(w h:Int)(bs:List AL):List Sd:=[(h,0,w),(0,0,w)]++bs.flatMap IG
def NJ:Str:=(("level_sides":Str)++".<locals>.")++"<lambda>"
def Fv(s:Sd):List Int:=[-s.v,s.a]
def lQ:V->List V->Hp->VK->Prop:=λx _ H Q=>∃(p:Addr) (s:Sd),x=.ref p/\B4 H p s/\∀t,H t=none->Q (.ref t) (AG H t (.AF ((Fv s).map V.int)))
theorem NB(h:At B4 H cs ss)(e:H L=some (.AE ys))(o:HO):At B4 (AG H L o) cs ss :=
 ⟨h.1,λi b x J F=>by
  have:=h.2 i b x J F
  unfold B4 at this ⊢;rw[AV (λz=>by rw[z,e]at this;cases this)];exact this⟩
theorem EL(h:CQ H T q)(s:AK H H'):CQ H' T q:=by
 obtain⟨L,h1,h2⟩:=h;exact⟨L,s _ _ h1,λe F=>s _ _ (h2 e F)⟩
theorem PH(bs:List AL):(bs.flatMap IG).length=2*bs.length:=by
 induction bs with
 |nil=>rfl
 |cons b r ih=>rw[List.flatMap_cons,oF,ih,pk];show 2+_=_;lia
theorem gL{α:Type}{R:Hp->Addr->α->Prop}{xs:List α}(d:α)(h:At R H cs xs)(hp:∀i∈p,i<xs.length):At R H (p.map λi=>cs.getD i 0) (p.map λi=>xs.getD i d):=by
 refine⟨by rw[kb,kb],λi b x e1 F=>?_⟩;rw[om]at e1 F;obtain⟨j,O,rfl⟩:=qe.mp e1;rw[O]at F;cases F;have J:=hp j (oi O);have jc:j<cs.length:=by rw[h.1];exact J
 refine h.2 j _ _ ?_ ?_
 ·rw[oj,og jc];rfl
 ·show xs[j]?=some (xs.getD j d);rw[oj,og J];rfl
theorem aS(F:∀i∈p,i<cs.length):(p.map λi=>(cs.map V.ref).getD i .Ay)=(p.map λi=>cs.getD i 0).map V.ref:=by
 rw[rC];refine sQ λi hi=>?_
 have:=F i hi
 rw[oj,om,og this];show V.ref _=V.ref (cs.getD i 0);rw[oj,og this];rfl
theorem OP{α:Type}(xs:List α)(d:α)(F:p.Perm (oN xs.length)):(p.map λi=>xs.getD i d).Perm xs:=by
 have e:(oN xs.length).map (λi=>xs.getD i d)=xs:=by
  refine t5 λi=>?_
  rw[om];rcases oW i xs.length with z|z
  ·rw[qc z,og z];simp[z]
  ·rw[pM (by rw[pC];exact z),pM z];rfl
 have:=F.map λi=>xs.getD i d
 rw[e]at this;exact this
variable {c T:Addr}
theorem Fun.XW {x qual:Str}{st:Stmt}{f:Addr}{fd:qU}{N ps:List Str}{k:Nat}{sp:Sp}(F:Fun K x qual st f fd)(S:An N ps (Ac st))(O:∀vs H Q E,sp vs H Q E->vs.length=ps.length)
  (ac:∀(A:qM) (J:List Env) (s:oq) (H:Hp) (vs:List V) (Q:VK) (E:XK),Room k (A.deeper (x4 qual (Ac st) s.heap.objs.size f fd.code))->sp vs H Q E →
   ∃t,Cd (IB Ae P w K mg base N qual (Ac st) f fd.code A J s H E).JG (Eh st) t/\t { nx:=λ_ H'=>Q .Ay H',rt:=Q} (GC N vs) H):Ai P w K mg base Ae (k+1) f fd ps sp:=by
 obtain⟨oc,od,kV,doc,pm,an,im,ct,osl,rfl,lk,ab⟩:=F.ex;refine VL lk ab S O λA J s H vs Q E hr aa=>?_
 obtain⟨t,h,q⟩:=ac A J s H vs Q E hr aa;exact⟨t,h.JG,q⟩
inductive WE(T:Addr)(vs:List V)(H:Hp)(Q:VK)(_:XK):Prop
 |mk (F O:Int) (J:Addr) (bs:List AL) (ac:vs=[.int F,.int O,.ref J]) (ae:BC Dk H J bs) (ab:bs.length<=14) (ad:CQ H T NJ) (aa:∀(D:Addr) (L:List Sd) (H':Hp),Dh T H H'->CQ H' T NJ->BC B4 H' D L->L.Perm (Ce F O bs)->L.Pairwise (λs t=>Cm (Fv t) (Fv s)=false)->Q (.ref D) H')
theorem KJ:An ["width","height","rectangles","sides","left","low","right","high"] ["width","height","rectangles"] (Ac s_level_sides):=Aw
set_option maxHeartbeats 4000000 in
theorem kr(F:Fun K "level_sides" "level_sides" s_level_sides f fd)(am:fd.code=.ref c)(hC:ac7 base c T)(hB:FG mg base)(ms:mg "sorted" = none):Ai P w K mg base Ae 5 f fd ["width","height","rectangles"] (WE T):=by
 refine Fun.XW F KJ (λvs H Q E h=>?_) (λA ar s H vs Q E hr h=>?_)
 ·obtain⟨J,O,rp,bs,rfl,_⟩:=h;rfl
 obtain⟨J,O,rp,bs,rfl,hL,av,hT,q⟩:=h;exists _,AM (AU 3 KJ (CJ (AA (BB (AA (pv 1) (AA AB (AA (pv 0) AD)))) (AA (BB (AA AB (AA AB (AA (pv 0) AD)))) AD))))
  (AM (Bk oX rfl (DV (pv 2)) (jy (n:=4) (K:=K) rfl (Av (Ak 4 KJ) (Av (Ak 5 KJ) (Av (Ak 6 KJ) (Av (Ak 7 KJ) CV)))))
   (AM (Dr (DD pA qF qG Ed (pv 3) (AA (BB (AA (pv 7) (AA (pv 4) (AA (pv 6) AD)))) AD)))
   (AR (Dr (DD pA qF qG Ed (pv 3) (AA (BB (AA (pv 5) (AA (pv 4) (AA (pv 6) AD)))) AD))))))
  (AR (Al (bA (k:=1) (pn:="side") (N:=[]) (js:=[]) (cl:=[]) (rd:=lQ) (T:=T) (c:=c)
    (Sl rfl rfl rfl rfl rfl (sP _) (sP _) (by decide +kernel) (tF.mpr ⟨(λz=>by cases z),sP _⟩) λ_=>rfl) rfl rfl hr (by rfl) ms (pv 3) am hC hB rfl (λ_ _ _ _ _=>rfl)
    (λf c A ar s x vs H Q h=>⟨_,BB (AA (En Ej (pT (pv 0) AB)) (AA (pT (pv 0) AB) AD)),by
     obtain⟨p,s,rfl,hp,h⟩:=h;exact⟨_,G,p,_,_,_,G,G,AH.of hp,Eu _ _ _,_,G,_,G,p,_,_,_,G,G,AH.of hp,C6 _ _ _,by exact CI,h⟩⟩)))))
 refine⟨_,G,_,G,by exact Dd,λp1 ap=>?_⟩;have s1:=AW ap (.AF [.int O,.int 0,.int J]);have g1:B4 (AG H p1 (.AF [.int O,.int 0,.int J])) p1 (O,0,J):=AQ;generalize AG H p1 (.AF [.int O,.int 0,.int J])=H1 at s1 g1;refine⟨_,G,by exact Dd,λp2 aj=>?_⟩;have s2:=AW aj (.AF [.int 0,.int 0,.int J]);have g2:B4 (AG H1 p2 (.AF [.int 0,.int 0,.int J])) p2 (0,0,J):=AQ;generalize AG H1 p2 (.AF [.int 0,.int 0,.int J])=H2 at s2 g2;refine⟨by exact CI,λl hl=>?_⟩;have nl:H l=none:=by
  cases z:H l with
  |none=>rfl
  |some o=>rw[s2 _ _ (s1 _ _ z)]at hl;cases hl
 obtain⟨H3,zg,s3,zz⟩:=nw hl (.AE [.ref p1,.ref p2]);rw[zg];have g3:H3 l=some (.AE ([p1,p2].map V.ref)):=zz;have ad:=s1.trans (s2.trans s3);obtain⟨cs,ac,hC⟩:=id hL;have lc:cs.length=bs.length:=hC.1;exists _,G,rp,G,⟨_,AJ.of (ad _ _ ac)⟩;refine IT (xs:=cs.map V.ref) (λi σ H4=>AK H H4/\∃(u4 u5 u6 u7:Option V) (es:List Addr),σ=[some (.int J),some (.int O),some (.ref rp),some (.ref l),u4,u5,u6,u7]/\H4 l=some (.AE (es.map V.ref))/\At B4 H4 es ([(O,0,J),(0,0,J)]++(bs.take i).flatMap IG))
  ⟨ad,none,none,none,none,[p1,p2],G,g3,by simpa using (At.nil.snoc (R:=B4) (b:=p1) (x:=(O,0,J)) ((s2.trans s3) _ _ g1)).snoc (b:=p2) (x:=(0,0,J)) (s3 _ _ g2)⟩ (λi σ H4 _ z=>AJ.of (z.1 _ _ ac)) ?_ ?_
 ·rintro i x σ H4 hx ⟨s4,u4,u5,u6,u7,es,rfl,aa,hE⟩;obtain⟨b,bx,rfl,_,hb,au⟩:=hC.ref hx;have il:i<bs.length:=(oh.mp hb).1;have le:es.length=2+2*i:=by rw[hE.1,oF,PH,pN];show 2+_=_;lia
  obtain⟨b0,b1,b2,b3⟩:=bx;exists b,_,G,AJ.of (s4 _ _ au),G,_,_,G,_,_,G,_,_,G,_,_,G,rfl;refine⟨_,G,.inl ⟨G,_,AJ.of aa⟩,_,G,_,G,_,G,by exact Dd,λq1 ao=>?_⟩;have s5:=AW ao (.AF [.int b3,.int b0,.int b2]);have g5:B4 (AG H4 q1 (.AF [.int b3,.int b0,.int b2])) q1 (b3,b0,b2):=AQ;generalize AG H4 q1 (.AF [.int b3,.int b0,.int b2])=H5 at s5 g5;refine⟨l,_,_,G,G,s5 _ _ aa,by rw[kb,pD];lia,?_⟩;have s6:=F8 (s4.trans s5) nl (.AE (es.map V.ref++[.ref q1]));have A6:=NB ((hE.keep Gs s5).snoc g5) (s5 _ _ aa) (.AE (es.map V.ref++[.ref q1]));have g6:AG H5 l (.AE (es.map V.ref++[.ref q1])) l=some (.AE ((es++[q1]).map V.ref)):=by rw[AQ];simp
  generalize AG H5 l (.AE (es.map V.ref++[.ref q1]))=H6 at s6 A6 g6;refine⟨_,G,.inl ⟨G,_,AJ.of g6⟩,_,G,_,G,_,G,by exact Dd,λq2 aq=>?_⟩;have s7:=AW aq (.AF [.int b1,.int b0,.int b2]);have g7:B4 (AG H6 q2 (.AF [.int b1,.int b0,.int b2])) q2 (b1,b0,b2):=AQ;generalize AG H6 q2 (.AF [.int b1,.int b0,.int b2])=H7 at s7 g7;refine⟨l,_,_,G,G,s7 _ _ g6,by rw[kb,oF,pD,le,rn];lia,?_⟩;refine⟨F8 (s6.trans s7) nl _,_,_,_,_,es++[q1]++[q2],G,by rw[AQ];simp,?_⟩;have A8:=NB ((A6.keep Gs s7).snoc g7) (s7 _ _ g6) (.AE ((es++[q1]).map V.ref++[.ref q2]));rw[Bc hb,abd];simpa [IG,AL.u,AL.l,AL.r,AL.d]using A8
 rintro σ H4 ⟨s4,u4,u5,u6,u7,es,rfl,aa,hE⟩;rw[kb,lc,qE]at hE;have ag:(Ce J O bs).length=2+2*bs.length:=by unfold Ce;rw[oF,PH];rfl
 have hE:At B4 H4 es (Ce J O bs):=hE;have le:es.length=(Ce J O bs).length:=hE.1;refine⟨_,G,EL hT s4,[],G,(λi j z=>by simp at z),λff c' H5 bt nf tb al af=>?_⟩;obtain⟨TL,ah,_⟩:=EL hT s4;have b5:∀{b:Addr} {o:HO},H4 b=some o->(∀z,o≠.CT z)->H5 b=some o:=λ{b o} e n=>bt b o (λz=>by rw[z,ah]at e;exact n _ (oV e).symm) e
 have ai:=b5 aa (λz y=>by cases y);have ab:At B4 H5 es (Ce J O bs):=⟨hE.1,λi b x e1 e2=>b5 (hE.2 i b x e1 e2) (λz y=>by cases y)⟩;refine⟨l,_,(Ce J O bs).map Fv,G,ai,by rw[kb,kb,le],λr hr=>?_,by rw[kb,le,ag];lia,λi x r e1 e2=>?_,λD p H6 op s6 nD hD=>?_⟩
 ·obtain⟨s,_,rfl⟩:=oI.mp hr;intro z;cases z
 ·obtain⟨b,sd,rfl,_,ak,hR⟩:=ab.ref e1;rw[om,ak]at e2;cases e2;exact λH7 s7 QQ hq=>⟨_,G,s7 _ _ af,s7 _ _ al,b,sd,G,s7 _ _ hR,λt ht=>hq t _ (AW ht _) AQ⟩
 ·have pl:∀i∈p,i<(Ce J O bs).length:=λi hi=>by have:=pW.mp (op.1.mem_iff.mp hi);rwa [kb]at this
  refine q D (p.map λi=>(Ce J O bs).getD i (0,0,0)) H6 (λb o n e=>s6 _ _ (bt b o n (s4 _ _ e))) (EL tb s6) ⟨p.map λi=>es.getD i 0,?_,(gL (0,0,0) ab pl).keep Gs s6⟩ (OP _ _ (by have:=op.1;rwa [kb]at this)) ?_
  ·rw[hD,aS (λi hi=>by rw[le];exact pl i hi)]
  ·rw[sO];refine(tu.and_mem.mp op.2).imp λ{i j} h=>?_
   obtain⟨hi,hj,h⟩:=h;have ae:∀k,k∈p->((Ce J O bs).map Fv).getD k []=Fv ((Ce J O bs).getD k (0,0,0)):=λk hk=>by
    rw[oj,om,oj,og (pl k hk)];rfl
   rw[ae i hi,ae j hj]at h;exact h
theorem MA:BY ((es++[b]).map V.ref) (-1)=some (.ref b):=by
 unfold BY DT;have e:((es++[b]).map V.ref).length=es.length+1:=by simp
 rw[e,oC (),oH (),xv,show((-1:Int)+((es.length+1:Nat):Int)).toNat=es.length by lia];rw[om,pE (),vT];rfl
theorem Zu:DT ((es++[b]).map V.ref).length (-1)=some es.length:=by
 unfold DT;have e:((es++[b]).map V.ref).length=es.length+1:=by simp
 rw[e,oC (by omega),oH (by omega),show((-1:Int)+((es.length+1:Nat):Int)).toNat=es.length by omega]
theorem dQ{α:Type}{R:Hp->Addr->α->Prop}{xs:List α}{x:α}(h:At R H cs (xs++[x])):∃es b,cs=es++[b]/\At R H es xs/\R H b x:=by
 rcases Mg cs with rfl|⟨es,b,rfl⟩
 ·have:=h.1;simp at this
 ·have l:es.length=xs.length:=by have:=h.1;simpa using this
  refine⟨es,b,G,⟨l,λi c y J F=>h.2 i c y (by rw[pR (oh.mp J).1];exact J) (by rw[pR (oh.mp F).1];exact F)⟩,h.2 es.length b x #v[] (by rw[l];simp)⟩
theorem gJ(F:List Sd)(s:Sd):(DI F s).length<=F.length+1:=by
 rcases Mg F with rfl|⟨a,q,rfl⟩
 ·rw[Ku];simp
 ·rw[MJ];split<;>simp
theorem OV:∀(L F:List Sd),(L.foldl DI F).length<=F.length+L.length
 |[],F=>by simp
 |s :: L,F=>by
  have h1:=OV L (DI F s);have h2:=gJ F s;rw[uz,pk];lia
theorem iR(x y:Int):(if y>x then y else x)=max x y:=by split<;>lia
inductive WX(vs:List V)(H:Hp)(Q:VK)(_:XK):Prop
 |mk (D:Addr) (L:List Sd) (O:vs=[.ref D]) (J:BC B4 H D L) (F:L.length<=40) (aa:∀l H',AK H H'->BC B4 H' l (L.foldl DI [])->Q (.ref l) H')
theorem LW:An ["sides","lines","level","left","right"] ["sides"] (Ac s_lines_of):=Aw
set_option maxHeartbeats 4000000 in
theorem cL(F:Fun K "lines_of" "lines_of" s_lines_of f fd)(mx:mg "max" = none):Ai P w K mg base Ae 1 f fd ["sides"] WX:=by
 refine F.Ax LW λim A ah s H vs Q E hr h=>?_
 obtain⟨D,L,rfl,⟨cs,hD,hC⟩,ag,q⟩:=h;exists _,AM (AU 1 LW (CJ AD))
  (AM (Bk oX rfl (DV (pv 0)) (CZ (n:=3) rfl (Av (Ak 2 LW) (Av (Ak 3 LW) (Av (Ak 4 LW) CV))))
   (AR (BU (PW.pt (Ek (Z7 (pv 1) (λ_=>rfl)) (Ek (BF Dv (pT (pL (pv 1) (En Ej AB)) AB) (pv 2)) (HU (BF LD (pv 3) (pT (pL (pv 1) (En Ej AB)) AB))))))
    (AR (D8 (BB (AA (pv 2) (AA (pT (pL (pv 1) (En Ej AB)) AB) (AA (CA (OC rfl) (by rfl) mx Mx (AA (pv 4) (AA (pT (pL (pv 1) (En Ej AB)) AB) AD))) AD)))) (Ik (pv 1) (En Ej AB) IS)))
    (AR (Dr (DD pA qF qG Ed (pv 1) (AA (BB (AA (pv 2) (AA (pv 3) (AA (pv 4) AD)))) AD)))))))
  (AR (Al (pv 1))))
 refine⟨by exact Fx,λl hl=>?_⟩;obtain⟨H1,zg,s1,zz⟩:=nw hl (.AE []);rw[zg];have g1:H1 l=some (.AE (([]:List Addr).map V.ref)):=zz;have lc:cs.length=L.length:=hC.1;exists _,G,D,G,⟨_,AJ.of (s1 _ _ hD)⟩;refine IT (xs:=cs.map V.ref) (λi σ H2=>AK H H2/\∃(u2 u3 u4:Option V) (es:List Addr),σ=[some (.ref D),some (.ref l),u2,u3,u4]/\H2 l=some (.AE (es.map V.ref))/\At B4 H2 es ((L.take i).foldl DI []))
  ⟨s1,none,none,none,[],G,g1,At.nil⟩ (λi σ H2 _ z=>AJ.of (z.1 _ _ hD)) ?_ ?_
 ·rintro i x σ H2 hx ⟨s2,u2,u3,u4,es,rfl,J,hE⟩;obtain⟨b,sd,rfl,_,ad,hb⟩:=hC.ref hx;have il:i<L.length:=(oh.mp ad).1;have fl:=OV (L.take i) [];rw[pN,rV] at fl;have le:=hE.1;obtain⟨v,a,z⟩:=sd;exists b,_,G,AH.of (s2 _ _ hb),G,_,_,G,_,_,G,_,_,G,rfl;rw[Bc ad,vM,uz,ac6];generalize (L.take i).foldl DI []=aa at hE le fl;have ac:DI aa (v,a,z)=aa++[(v,a,z)]->∀p,H2 p=none->AK H (AG (AG H2 p (.AF [.int v,.int a,.int z])) l (.AE (es.map V.ref++[.ref p])))/\∃(u2 u3 u4:Option V) (ae:List Addr),[some (V.ref D),some (V.ref l),some (V.int v),some (V.int a),some (V.int z)]=[some (.ref D),some (.ref l),u2,u3,u4]/\(AG (AG H2 p (.AF [.int v,.int a,.int z])) l (.AE (es.map V.ref++[.ref p]))) l=some (.AE (ae.map V.ref))/\At B4 (AG (AG H2 p (.AF [.int v,.int a,.int z])) l (.AE (es.map V.ref++[.ref p]))) ae (DI aa (v,a,z)):=λem p O=>by
   rw[em];have s3:=AW O (.AF [.int v,.int a,.int z]);have g3:B4 (AG H2 p (.AF [.int v,.int a,.int z])) p (v,a,z):=AQ;generalize AG H2 p (.AF [.int v,.int a,.int z])=H3 at s3 g3;exact⟨F8 (s2.trans s3) hl _,_,_,_,es++[p],G,by rw[AQ];simp,NB ((hE.keep Gs s3).snoc g3) (s3 _ _ J) _⟩
  have sz:(es.map V.ref).length<oR:=by rw[kb,pD];lia
  rcases Mg aa with rfl|⟨a0,q0,rfl⟩
  ·refine⟨_,G,false,.inl ⟨_,AJ.of J,?_⟩,Br ?_⟩
   ·have:es=[]:=r9.mp le
    rw[this];rfl
   ·exact⟨_,G,.inl ⟨G,_,AJ.of J⟩,_,G,_,G,_,G,by exact Dd,λp O=>⟨l,_,_,G,G,AW O _ _ _ J,sz,ac (Ku _) p O⟩⟩
  obtain⟨ea,b0,rfl,af,ab⟩:=dQ hE;obtain⟨qv,qa,qz⟩:=q0;have em:¬(qv=v/\a<=qz)->DI (a0++[(qv,qa,qz)]) (v,a,z)=a0++[(qv,qa,qz)]++[(v,a,z)]:=λn=>by rw[MJ];exact oC n
  refine⟨_,G,true,.inl ⟨_,AJ.of J,#v[]⟩,FO ?_⟩;exists _,G,_,G,l,_,_,_,G,G,AJ.of J,MA,b0,_,_,_,G,G,AH.of ab,Eu _ _ _,_,G,G,_,rfl;by_cases h1:qv=v
  case neg =>
   refine Be (λe=>h1 (by injection e)) ?_;exact⟨_,G,.inl ⟨G,_,AJ.of J⟩,_,G,_,G,_,G,by exact Dd,λp O=>⟨l,_,_,G,G,AW O _ _ _ J,sz,ac (em λc=>h1 c.1) p O⟩⟩
  refine By (by rw[h1]) ⟨_,G,_,G,_,G,l,_,_,_,G,G,AJ.of J,MA,b0,_,_,_,G,G,AH.of ab,DW _ _ _,_,_,G,G,_,G,?_⟩;by_cases h2:a<=qz
  case neg =>
   refine Be h2 ?_;exact⟨_,G,.inl ⟨G,_,AJ.of J⟩,_,G,_,G,_,G,by exact Dd,λp O=>⟨l,_,_,G,G,AW O _ _ _ J,sz,ac (em λc=>h2 c.2) p O⟩⟩
  refine By h2 ?_;refine⟨_,G,_,G,_,G,l,_,_,_,G,G,AJ.of J,MA,b0,_,_,_,G,G,AH.of ab,C6 _ _ _,_,G,_,G,_,G,l,_,_,_,G,G,AJ.of J,MA,b0,_,_,_,G,G,AH.of ab,DW _ _ _,_,_,G,by exact Dd,λp O=>?_⟩;rw[iR];have s3:=AW O (.AF [.int v,.int qa,.int (max z qz)]);have g3:B4 (AG H2 p (.AF [.int v,.int qa,.int (max z qz)])) p (v,qa,max z qz):=AQ;generalize AG H2 p (.AF [.int v,.int qa,.int (max z qz)])=H3 at s3 g3;exists _,G,_,G,l,_,_,_,G,G,s3 _ _ J,Zu;rw[MJ,oH ⟨h1,h2⟩];refine⟨F8 (s2.trans s3) hl _,_,_,_,ea++[p],G,?_,NB ((af.keep Gs s3).snoc g3) (s3 _ _ J) _⟩;rw[AQ];simp
 ·rintro σ H2 ⟨s2,u2,u3,u4,es,rfl,J,hE⟩;rw[kb,lc,qE]at hE;exact⟨_,G,q l H2 s2 ⟨es,J,hE⟩⟩
theorem jJ(s:AK H H')(h:BC B4 H l L):BC B4 H' l L:=by
 obtain⟨cs,h1,h2⟩:=h;exact⟨cs,s _ _ h1,h2.keep Gs s⟩
def IK(L:List Sd):List Sd:=[L.getD 0 (0,0,0),L.getD (L.length-1) (0,0,0)]++(L.drop 1).dropLast
theorem eJ(h:2<=L.length):(IK L).length=L.length:=by
 unfold IK;rw[oF,aaW,pS];show 2+_=_;omega
def Ez(v x:Int)(l:Sd):Bool:=decide (l.v=v) && (decide (l.a<=x) && decide (x<=l.z))
def Gx(P:List Sd)(v x:Int):Nat:=P.findIdx (Ez v x)
abbrev Rp:Type:=Nat×Nat×Rat
def FW(H:Hp)(p:Addr)(r:Rp):Prop:=∃q,H p=some (.AF [.int (r.1:Int),.int (r.2.1:Int),.ref q])/\AO H q r.2.2
theorem J3:Mo FW:=λs ⟨q,h1,h2⟩=>⟨q,s _ _ h1,s _ _ h2⟩
def Bu(P:List Sd)(b:AL):Rp:=(Gx P b.u b.l,Gx P b.d b.l,((b.r-b.l:Int):Rat) / ((b.u-b.d:Int):Rat))
theorem jK{xs:List V}(h:2<=xs.length):Ck xs (some 1) (some (-1))=(xs.drop 1).dropLast:=by
 have F:HT.Ad xs.length 0 (some 1)=1:=by
  simp only[HT.Ad];split<;>lia
 have J:HT.Ad xs.length xs.length (some (-1))=xs.length-1:=by
  simp only[HT.Ad];split<;>lia
 unfold Ck;rw[F,J,xA,pS]
variable {C0:Addr}
inductive Ws(vs:List V)(H:Hp)(Q:VK)(_:XK):Prop
 |mk (l:Addr) (L:List Sd) (aa:vs=[.ref l]) (O:BC B4 H l L) (J:2<=L.length) (ab:L.length<=40) (ac:∀F H',AK H H'->BC B4 H' F (IK L)->Q (.ref F) H')
theorem mL:An ["lines"] ["lines"] (Ac s_placed):=Aw
theorem Yn(F:Fun K "placed" "placed" s_placed f fd):Ai P w K mg base Ae 1 f fd ["lines"] Ws:=by
 refine F.Ax mL λim A af s H vs Q E hr h=>?_
 obtain⟨l,L,rfl,⟨cs,hl,hC⟩,n2,ae,q⟩:=h;exists _,AR (Al (AN Gm (CJ (AA (pL (pv 0) AB) (AA (pL (pv 0) (En Ej AB)) AD))) (Ef KS (pv 0) (D7 AB) (D7 (En Ej AB)))));have lc:cs.length=L.length:=hC.1;obtain⟨O,e0,h0⟩:=hC.get (show L[0]?=some (L.getD 0 (0,0,0)) by rw[oj,og (show 0<L.length by lia)];rfl);obtain⟨J,ez,hz⟩:=hC.get (show L[L.length-1]?=some (L.getD (L.length-1) (0,0,0)) by rw[oj,og (show L.length-1<L.length by lia)];rfl);have el:BY (cs.map V.ref) (-1)=some (.ref J):=by
  unfold BY DT;rw[kb,oC (),oH (),xv,show((-1:Int)+(cs.length:Int)).toNat=L.length-1 by lia];exact Cg ez
 refine⟨_,G,l,_,_,_,G,G,AJ.of hl,BE (j:=0) (Cg e0),_,G,_,G,l,_,_,_,G,G,AJ.of hl,el,by exact CI,λp1 ab=>?_⟩;obtain⟨H1,zg,s1,zz⟩:=nw ab (.AE [.ref O,.ref J]);rw[zg];have g1:H1 p1=some (.AE ([O,J].map V.ref)):=zz;refine⟨_,G,_,G,_,G,_,G,l,_,G,AJ.of (s1 _ _ hl),λp2 ad=>?_⟩;rw[jK (by rw[kb];lia),<-List.map_drop,<-List.map_dropLast];obtain⟨H2,zg,s2,g2⟩:=nw ad (.AE ((cs.drop 1).dropLast.map V.ref));rw[zg];refine⟨p1,p2,_,_,G,G,s2 _ _ g1,g2,by rw[kb,kb,aaW,pS,pD];show 2+_<=_;lia,λp3 ac=>?_⟩;have s3:=AW ac (.AE ([O,J].map V.ref++(cs.drop 1).dropLast.map V.ref));have aa:=s1.trans (s2.trans s3);refine q p3 _ aa ⟨[O,J]++(cs.drop 1).dropLast,by rw[AQ,oU],?_⟩;have A1:At B4 H [O,J] [L.getD 0 (0,0,0),L.getD (L.length-1) (0,0,0)]:=by simpa using (At.nil.snoc (R:=B4) h0).snoc hz
 have A2:At B4 H (cs.drop 1).dropLast (L.drop 1).dropLast:=by
  rw[xA,xA,pS,pS,lc];exact(hC.drop 1).take _
 exact(A1.Kf A2).keep Gs aa
inductive WD(vs:List V)(H:Hp)(Q:VK)(_:XK):Prop
 |mk (l:Addr) (L:List Sd) (v x:Int) (O:vs=[.ref l,.int v,.int x]) (J:BC B4 H l L) (F:(∃s∈L,Ez v x s=true)) (aa:∀H',AK H H'->Q (.int (Gx L v x:Int)) H')
theorem QN:An ["lines","level","x","place","line"] ["lines","level","x"] (Ac s_place_at):=Aw
theorem YY(F:Fun K "place_at" "place_at" s_place_at f fd)(me:mg "enumerate" = none):Ai P w K mg base Ae 1 f fd ["lines","level","x"] WD:=by
 refine F.Ax QN λim A ac s H vs Q E hr h=>?_
 obtain⟨l,L,v,x,rfl,⟨cs,hl,hC⟩,⟨sx,mx,tx⟩,q⟩:=h;exists _,AM (Bk oX rfl (MG (by rfl) me (AA (pv 0) AD)) (CZ (n:=2) rfl (Av (Ak 3 QN) (Av (Ak 4 QN) CV)))
   (AR (BU (PW.pt (Ek (BF Dv (pT (pv 4) AB) (pv 1)) (Ek (BF LD (pT (pv 4) AB) (pv 2)) (HU (BF LD (pv 2) (pT (pv 4) AB)))))) (AR (Al (pv 3))) Bg)))
  (AR (Al Ie))
 exists _,G,l,_,G,hl;refine L8 (xs:=cs.map V.ref) (λi σ H2=>AK H H2/\(∃u3 O,σ=[some (.ref l),some (.int v),some (.int x),u3,O])/\∀k s,k<i->L[k]?=some s->Ez v x s=false)
  ⟨AK.refl _,⟨none,none,G⟩,λ_ _ z=>absurd z (acQ _)⟩ (λi σ H2 _ ⟨s2,_⟩=>s2 _ _ hl) ?_ ?_
 ·rintro i y σ H2 p hx ⟨s2,⟨u3,O,rfl⟩,no⟩ hp;obtain⟨c,sd,rfl,_,hy,fb⟩:=hC.ref hx;obtain⟨H3,zg,s3,g3⟩:=nw hp (.AF [.int ((i:Nat):Int),.ref c]);rw[zg];have ab:=s2.trans s3;have aa:=ab _ _ fb;obtain⟨J,sa,sz⟩:=sd;have next:Ez v x (J,sa,sz)=false->AK H H3/\(∃u3 O,[some (V.ref l),some (V.int v),some (V.int x),some (V.int ((i:Nat):Int)),some (V.ref c)]=[some (.ref l),some (.int v),some (.int x),u3,O])/\∀k s,k<i+1->L[k]?=some s->Ez v x s=false:=λe=>by
   refine⟨ab,⟨_,_,G⟩,λk s z1 z2=>?_⟩;rcases(show k<i\/k=i by lia)with y|rfl
   ·exact no k s y z2
   ·rw[hy]at z2;cases z2;exact e
  exists p,_,G,AH.of g3,G,_,_,G,_,_,G,rfl;exists _,G,c,_,_,_,G,G,AH.of aa,Eu _ _ _,_,G,G,_,rfl;by_cases h1:J=v
  case neg=>exact Be (λe=>h1 (by injection e)) (next (by show(decide (J=v) && _)=false;rw[qu h1,x6]))
  refine By (by rw[h1]) ⟨_,G,c,_,_,_,G,G,AH.of aa,C6 _ _ _,_,G,_,_,G,G,_,G,?_⟩;by_cases h2:sa<=x
  case neg=>exact Be h2 (next (by show(decide (J=v) && (decide (sa<=x) && _))=false;rw[qu h2,x6,x5]))
  refine By h2 ⟨_,G,_,G,c,_,_,_,G,G,AH.of aa,DW _ _ _,_,_,G,G,_,G,?_⟩;by_cases h3:x<=sz
  case neg=>exact Be h3 (next (by show(decide (J=v) && (decide (sa<=x) && decide (x<=sz)))=false;rw[qu h3,x5,x5]))
  refine By h3 ⟨_,G,?_⟩;have il:i<L.length:=(oh.mp hy).1;have e:Gx L v x=i:=by
   unfold Gx;rw[acN il];refine⟨?_,λj hj=>?_⟩
   ·have:=(oh.mp hy).2
    rw[this];show(decide (J=v) && (decide (sa<=x) && decide (x<=sz)))=true;rw[qC h1,qC h2,qC h3];rfl
   ·exact no j _ hj (og ())
  rw[<-e];exact q H3 ab
 ·rintro σ H2 ⟨s2,⟨u3,O,rfl⟩,no⟩;obtain⟨k,hk,rfl⟩:=qV mx
  have:=no k _ (by rw[kb,hC.1];exact hk) (og hk)
  rw[tx]at this;cases this
inductive QW(vs:List V)(H:Hp)(Q:VK)(_:XK):Prop
 |mk (l F:Addr) (L:List Sd) (b:AL) (ac:vs=[.ref l,.ref F]) (af:BC B4 H l L) (aa:Dk H F b) (ad:(∃s∈L,Ez b.u b.l s=true)) (O:(∃s∈L,Ez b.d b.l s=true)) (ae:b.d<b.u) (J:BJ (b.u-b.d)) (ab:∀t H',AK H H'->FW H' t (Bu L b)->Q (.ref t) H')
theorem La:An ["lines","rectangle","left","low","right","high"] ["lines","rectangle"] (Ac s_rope_of):=Aw
theorem gB (F:Fun K "rope_of" "rope_of" s_rope_of f fd)(G1:AX P w K mg base 1 "place_at" ["lines","level","x"] WD)
  (G2:AX P w K mg base 2 "fraction" ["top","bottom"] (Ig C0)):Ai P w K mg base Ae 3 f fd ["lines","rectangle"] QW:=by
 refine F.Ax La λim A ac s H vs Q E hr h=>?_
 obtain⟨l,rb,L,⟨J,x1,x2,O⟩,rfl,hL,hb,e1,e2,du,bg,q⟩:=h;exists _,AM (AU 2 La (pL (pv 1) AB))
  (AM (AU 3 La (pL (pv 1) AB))
  (AM (AU 4 La (pL (pv 1) AB))
  (AM (AU 5 La (pL (pv 1) AB))
  (AR (Al (BB (AA (AS G1 (AA (pv 0) (AA (pv 5) (AA (pv 2) AD)))) (AA (AS G1 (AA (pv 0) (AA (pv 3) (AA (pv 2) AD)))) (AA (AS G2 (AA (AN CB (pv 4) (pv 2)) (AA (AN CB (pv 5) (pv 3)) AD))) AD)))))))))
 have aa:H rb=some (.AE [.int J,.int x1,.int x2,.int O]):=hb;exists _,G,rb,_,_,_,G,G,AJ.of aa,BE (j:=0) rfl;exists _,G,rb,_,_,_,G,G,AJ.of aa,BE (j:=1) rfl;exists _,G,rb,_,_,_,G,G,AJ.of aa,BE (j:=2) rfl;exists _,G,rb,_,_,_,G,G,AJ.of aa,BE (j:=3) rfl;dsimp only[AL.l,AL.d,AL.r,AL.u]at e1 e2 du bg;have ab:O-x1≠0:=by omega
 refine⟨_,G,_,G,_,G,l,L,O,J,G,hL,e1,λH1 s1=>?_⟩;refine⟨_,G,_,G,_,G,l,L,x1,J,G,jJ s1 hL,e2,λH2 s2=>?_⟩;refine⟨_,G,_,G,_,_,G,G,_,G,_,G,_,_,G,G,x2-J,O-x1,G,bg,λz=>ab z,λ_ p hp=>?_⟩;have ef:=F5 (x2-J) (O-x1) ab;rw[ef];obtain⟨H3,zg,s3,zz⟩:=nw hp (.AF [.int (((x2-J:Int):Rat) / ((O-x1:Int):Rat)).num,.int ((((x2-J:Int):Rat) / ((O-x1:Int):Rat)).den:Int)]);rw[zg];have g3:AO H3 p (((x2-J:Int):Rat) / ((O-x1:Int):Rat)):=zz;refine⟨by exact Dd,λt ht=>?_⟩;have s4:=AW ht (.AF [.int (Gx L O J:Int),.int (Gx L x1 J:Int),.ref p]);exact q t _ (s1.trans (s2.trans (s3.trans s4))) ⟨p,AQ,s4 _ _ g3⟩
def GV:List Int->Int
 |[]=>0
 |[x]=>x
 |x :: y :: r=>min x (GV (y :: r))
theorem Ub:∀{l:List Int},l≠[]->GV l∈l/\∀x∈l,GV l<=x
 |[],h=>absurd rfl h
 |[x],_=>⟨by simp[GV],λy F=>by rw[pH.mp F];exact rO _⟩
 |x :: y :: r,_=>by
  obtain⟨h1,h2⟩:=Ub (l:=y :: r) #v[];have e:GV (x :: y :: r)=min x (GV (y :: r)):=rfl;rw[e];generalize GV (y :: r)=m at h1 h2;refine⟨?_,λz hz=>?_⟩
  ·rcases Int.le_total x m with h|h
   ·rw[show min x m=x by lia];exact rh ..
   ·rw[show min x m=m by lia];exact pF _ h1
  ·rcases oG.mp hz with rfl|hz
   ·lia
   ·have:=h2 z hz;lia
def Cb(t:List Int):List Int:=t.drop (t.idxOf (GV t))++t.take (t.idxOf (GV t))
theorem Ys(F:m∈t)(h:∀a∈t,m<=a):GV t=m:=by
 obtain⟨h1,h2⟩:=Ub (l:=t) (abx F)
 have:=h _ h1
 have:=h2 _ F
 lia
variable {f4:Addr}{d4:qU}
inductive Pl(vs:List V)(H:Hp)(Q:VK)(_:XK):Prop
 |mk (a:Addr) (t:List Int) (O:vs=[.ref a]) (J:H a=some (.AF (t.map V.int))) (F:t≠[]) (aa:t.length<=1000) (ab:∀p H',AK H H'->H' p=some (.AF ((Cb t).map V.int))->Q (.ref p) H')
theorem V4:An ["turn","cut"] ["turn"] (Ac s_begun_least):=Aw
theorem iY(F:Fun K "begun_least" "begun_least" s_begun_least f fd)(mn:mg "min" = none):Ai P w K mg base Ae 1 f fd ["turn"] Pl:=by
 refine F.Ax V4 λim A ae s H vs Q E hr h=>?_
 obtain⟨a,t,rfl,J,ht,hl,q⟩:=h;exists _,AM (AU 1 V4 (ir PySem.F.plainAttrs_tuple zt PySem.F.type_tuple_index Ze (pv 0) (AA (CA (ZA rfl) (by rfl) mn ND (AA (pv 0) AD)) AD)))
  (AR (Al (AN Oq (Ef WA (pv 0) (D7 (pv 1)) Fe) (Ef WA (pv 0) Fe (D7 (pv 1))))))
 have tl:0<t.length:=abe.mpr ht;refine⟨_,G,⟨a,_,G,J⟩,_,G,a,t,G,J,tl,λm mm ad=>?_⟩;exists a,t,m,G,G,J,mm;have em:=Ys mm ad;have hc:t.idxOf m<t.length:=rJ.mpr mm;have eb:Cb t=t.drop (t.idxOf m)++t.take (t.idxOf m):=by unfold Cb;rw[em]
 generalize t.idxOf m=c at hc eb;refine⟨_,G,_,G,_,G,a,_,G,AH.of J,λz=>?_,λz p hp=>?_⟩
 ·
  have c0:c=0:=by rw[MW (by rw[kb];lia)]at z;exact z.1
  subst c0;refine⟨_,G,_,G,_,G,a,_,G,AH.of J,λO=>?_,λO p2 aa=>?_⟩
  ·have:=O.2
   rw[MW (o9 _),kb]at this
   lia
  ·refine⟨a,p2,_,[],G,G,AH.of (AW aa _ _ _ J),?_,?_,?_,λ_=>?_,λz3=>absurd rfl z3⟩
   ·rw[show Ck (t.map V.int) none (some ((0:Nat):Int))=[] by rw[JY _ (o9 _)];rfl];exact AH.of AQ
   ·intro z4
    have:=congrArg uf z4
    simp at this;exact ht this
   ·rw[kb];exact Et (by simp;lia)
   ·refine q a _ (AW aa _) ?_;rw[eb];simpa using AW aa _ _ _ J
 ·have ec:Ck (t.map V.int) (some (c:Int)) none=(t.drop c).map V.int:=by rw[Ja _ (by rw[kb];lia),vw]
  rw[ec];obtain⟨H1,zg,s1,g1⟩:=nw hp (.AF ((t.drop c).map V.int));rw[zg];have cn:c≠0:=λe=>z (by subst e;rw[MW (o9 _)];exact⟨G,G⟩)
  refine⟨_,G,_,G,_,G,a,_,G,AH.of (s1 _ _ J),λO=>?_,λO p2 aa=>?_⟩
  ·have:=O.2
   rw[MW (by rw[kb];lia),kb]at this
   lia
  ·have ab:Ck (t.map V.int) none (some (c:Int))=(t.take c).map V.int:=by rw[JY _ (by rw[kb];lia),vz]
   rw[ab];obtain⟨H2,zg,s2,g2⟩:=nw aa (.AF ((t.take c).map V.int));rw[zg];refine⟨p,p2,_,_,G,G,AH.of (s2 _ _ g1),AH.of g2,?_,?_,λz3=>?_,λ_ p3 ac=>?_⟩
   ·intro z4
    have:=congrArg uf z4
    simp at this
    lia
   ·simp;exact Et ()
   ·have:=congrArg uf z3
    rw[kb,pN]at this;have e0:([]:List V).length=0:=rfl
    lia
   ·refine q p3 _ (s1.trans (s2.trans (AW ac _))) ?_;rw[AQ,eb,oU]
inductive Sw(vs:List V)(H:Hp)(Q:VK)(_:XK):Prop
 |mk (a:Addr) (ts:List (List Int)) (O:vs=[.ref a]) (J:BC Dt H a ts) (F:ts.length<=1000) (aa:(∀t∈ts,t≠[]/\t.length<=1000)) (ab:∀p H',AK H H'->As Dt H' p (ts.map Cb)->Q (.ref p) H')
theorem nF:An ["turns"] ["turns"] (Ac s_told_turns):=Aw
theorem iu:(["turn"]:List Str).Nodup:=by decide +kernel
theorem aZ(F:Fun K "told_turns" "told_turns" s_told_turns f fd)(G:AX P w K mg base 1 "begun_least" ["turn"] Pl)(mt:mg "tuple" = none):Ai P w K mg base Ae 2 f fd ["turns"] Sw:=by
 refine F.Ax nF λim A ad s H vs Q E hr h=>?_
 obtain⟨a,ts,rfl,⟨bs,ha,hB⟩,hl,ht,q⟩:=h;exists _,AR (Al (Lg mt (DN (Nc:=["turn"]) (cap:=[]) (g:=BH 0) (te:=DO Pl [] E0 (A7 (Ag 0) Ba)) rfl (DV (pv 0))
   CD (λ_ _ _ _ _=>Bj (i:=0) iu rfl (qL rfl))
   (λ_ _ _ _ _=>AS G (AA (pv 0) AD)))))
 have lb:bs.length=ts.length:=hB.1;refine⟨_,rfl,a,rfl,⟨_,AJ.of ha⟩,λO ac=>?_⟩;refine CP (Fc ha) (by rw[kb];lia) ac (λi ys σ J=>∃ds:List Addr,ys=ds.map V.ref/\At Dt J ds ((ts.map Cb).take i)/\∃u,σ=[u]) ⟨[],rfl,At.nil,none,rfl⟩ ?_ ?_
 ·rintro i ys σ H3 x H4 hi sm ab ⟨ds,rfl,hD,u,rfl⟩ ⟨rfl,hx⟩ Cc hC;obtain⟨c,t,rfl,_,hy,hc⟩:=hB.ref hx;obtain⟨t1,t2⟩:=ht t (oi hy);refine⟨_,rfl,c,t,rfl,sm _ _ hc,t1,t2,λp H5 s5 J=>?_⟩;refine hC _ _ _ s5 ⟨ds++[p],#v[],?_,_,rfl⟩;have ec:(ts.map Cb)[i]?=some (Cb t):=by rw[om,hy];rfl
  rw[Bc ec];exact(hD.keep IU (Df O s5)).snoc (Dt.BO (t:=Cb t) J (s5 _ _ ab))
 ·rintro ys σ H4 s4 aa ae ⟨gs,rfl,hG,u,rfl⟩;rw[kb,lb,oQ (by rw[kb];exact oz _)]at hG;refine⟨O,_,rfl,.inl ⟨AJ.of aa,λp J=>?_⟩⟩;have sp:=AW J (.AF (gs.map V.ref));exact q p _ (s4.trans sp) ⟨gs,AQ,(hG.keep IU (DC H4 O)).keep IU sp⟩
end
end My
namespace My
open PySem PySem.Spec PyProof.Rows L2 Mth Wd Fl Ln
variable {as ts:List (List Int)}
def J2:Str:=(("turns_of":Str)++".<locals>.")++"<lambda>"
def lP:V->List V->Hp->VK->Prop:=λx vs H Q=>∃(i:Nat) (F:Addr) (ns:List Int) (k:Int),x=.int (i:Int)/\vs=[.ref F]/\H F=some (.AE (ns.map V.int))/\ns[i]?=some k/\Q (.int k) H
abbrev EE:Rp:=(0,0,0)
def B8(rs:List Rp)(p:List Nat)(i:Nat):List Int:=(p.filter λk=>decide ((rs.getD k EE).2.1=i)).reverse.map λk:Nat=>2*(k:Int)+1
def Bn(rs:List Rp)(p:List Nat)(i:Nat):List Int:=(p.filter λk=>decide ((rs.getD k EE).1=i)).map λk:Nat=>2*(k:Int)
def EA(rs:List Rp)(p:List Nat)(n i:Nat):List Int:=(B8 rs p i++if i=0 then [2*(n:Int)] else [])++(Bn rs p i++if i=1 then [2*(n:Int)+1] else [])
def Cp(pl:Nat)(rs:List Rp)(p:List Nat):List (List Int):=(oN pl).map (EA rs p rs.length)
structure Es(H:Hp)(Ta Tb:Addr)(ba bb:List Addr)(as bs:List (List Int)):Prop where
 ha:H Ta=some (.AE (ba.map V.ref))
 hb:H Tb=some (.AE (bb.map V.ref))
 ra:At Bl H ba as
 rb:At Bl H bb bs
 nd:(Ta :: Tb :: (ba++bb)).Nodup
section
variable {H H':Hp}{Ta Tb b:Addr}{ba bb:List Addr}{as bs:List (List Int)}{i:Nat}{t:List Int}
theorem Tn{bs:List Addr}(r:At Bl H bs ts)(nd:bs.Nodup)(O:bs[i]?=some b):At Bl (AG H b (.AE (t.map V.int))) bs (ts.set i t):=by
 refine⟨by rw[vH];exact r.1,λk c x F J=>?_⟩;by_cases hk:i=k
 ·subst hk;rw[O]at F;cases F;have hl:i<ts.length:=by rw[<-r.1];exact(oh.mp O).1
  rw[sJ hl]at J;cases J;exact AQ
 ·rw[tG hk]at J;have ne:c≠b:=λz=>hk (Vq nd O (by rw[F,z]))
  show AG H b _ c=_;rw[AV ne];exact r.2 k c x F J
theorem R8{bs:List Addr}(r:At Bl H bs ts)(n:b∉bs)(o:HO):At Bl (AG H b o) bs ts:=⟨r.1,λk c x F J=>by
 show AG H b _ c=_;rw[AV (λz=>n (by rw[<-z];exact oi F))];exact r.2 k c x F J⟩
theorem Es.WJ(M:Es H Ta Tb ba bb as bs)(h:ba[i]?=some b):Es (AG H b (.AE (t.map V.int))) Ta Tb ba bb (as.set i t) bs:=by
 obtain⟨n1,n2⟩:=qt.mp M.nd;obtain⟨O,n4⟩:=qt.mp n2;obtain⟨J,n6,n7⟩:=qD.mp n4;have F:=oi h;have e1:Ta≠b:=λz=>n1 (by rw[z];simp[F])
 have e2:Tb≠b:=λz=>O (by rw[z];simp[F])
 exact⟨by rw[AV e1];exact M.ha,by rw[AV e2];exact M.hb,Tn M.ra J h,R8 M.rb (λz=>n7 b F b z rfl) _,M.nd⟩
theorem Es.Wn(M:Es H Ta Tb ba bb as bs)(h:bb[i]?=some b):Es (AG H b (.AE (t.map V.int))) Ta Tb ba bb as (bs.set i t):=by
 obtain⟨n1,n2⟩:=qt.mp M.nd;obtain⟨J,n4⟩:=qt.mp n2;obtain⟨n5,O,n7⟩:=qD.mp n4;have F:=oi h;have e1:Ta≠b:=λz=>n1 (by rw[z];simp[F])
 have e2:Tb≠b:=λz=>J (by rw[z];simp[F])
 exact⟨by rw[AV e1];exact M.ha,by rw[AV e2];exact M.hb,R8 M.ra (λz=>n7 b z b F rfl) _,Tn M.rb O h,M.nd⟩
end
theorem Z1(i:Nat):(oE (i+1) ([]:List Int))=oE i []++[[]]:=by
 rw[uN]
theorem Q3(hσ:∃u,σ0=[u]){G:Hp->Prop}(n:pl<=1000)(ac:H F=none)(gd:∀es H',AK H H'->H' F=some (.AE (es.map V.ref))->At Bl H' es (oE pl [])->(F :: es).Nodup->(∀b∈F :: es,H b=none)->G H'):
  ∃W:Nat->Nat->List V->L2.St->Hp->Prop,(∃m,W 0 m [] σ0 (AG H F (.AE [])))/\∀i m ys σc H2,W i m ys σc H2 →
   ((Ec 0 pl).DZ i H2/\G H2)\/((Ec 0 pl).go i H2/\∀x H3,(Ec 0 pl).De i H2 x H3->BH 0 x σc H3 λσ4 H4=>LV Ba σ4 H4 λv H5=>H5 F=some (.AE ys)/\ys.length<oR/\∃m',m' < m/\W (i+1) m' (ys++[v]) σ4 (AG H5 F (.AE (ys++[v])))):=by
 refine CP (Rf (lo:=0) (n:=pl)) n ac (λi ys σ hp=>∃es:List Addr,ys=es.map V.ref/\At Bl hp es (oE i [])/\es.Nodup/\(∀b∈es,H b=none/\b≠F)/\∃u,σ=[u]) ⟨[],rfl,At.nil,aaD,(λb hb=>by cases hb),hσ⟩ ?_ ?_
 ·rintro i ys σ H2 x H3 hi sm ab ⟨es,rfl,O,nd,aa,u,rfl⟩ ⟨rfl,rfl⟩ Cc hC;refine⟨by exact Fx,λl J=>?_⟩;have s1:=AW J (.AE []);have la:l≠F:=λz=>by rw[z,ab]at J;cases J
  have lo:H l=none:=by
   cases z:H l with
   |none=>rfl
   |some o=>rw[sm _ _ z]at J;cases J
  have ln:l∉es:=λz=>by
   obtain⟨j,hj,e⟩:=qV z
   have:=O.2 j l [] (by rw[<-e];exact og hj) (by rw[tK,oH (by have:=O.1;rw[xB]at this;lia)])
   have:=DC _ _ _ _ this
   rw[J]at this;cases this
  refine hC _ _ _ s1 ⟨es++[l],#v[],?_,?_,λb hb=>?_,_,rfl⟩
  ·rw[Z1];exact(O.keep Dp (Df F s1)).snoc (FA AQ la)
  ·rw[qD];exact⟨nd,#v[],λa ha b hb e=>ln (by rw[<-List.mem_singleton.mp hb,<-e];exact ha)⟩
  ·rcases oM.mp hb with hb|hb
   ·exact aa b hb
   ·rw[pH.mp hb];exact⟨lo,la⟩
 ·rintro ys σ H2 s2 ab ad ⟨es,rfl,O,nd,aa,u,rfl⟩;refine gd es H2 s2 ab (O.keep Dp (DC H2 F)) (qt.mpr ⟨λz=>(aa F z).2 rfl,nd⟩) λb hb=>?_
  rcases oG.mp hb with rfl|hb
  ·exact ac
  ·exact(aa b hb).1
theorem RV(rs:List Rp)(q:List Nat)(k j:Nat):Bn rs (q++[k]) j=Bn rs q j++if (rs.getD k EE).1=j then [2*(k:Int)] else []:=by
 unfold Bn;rw[tV,oU];by_cases h:(rs.getD k EE).1=j
 ·simp[h,-List.getD_eq_getElem?_getD]
 ·simp[h,-List.getD_eq_getElem?_getD]
theorem Rc(rs:List Rp)(q:List Nat)(k j:Nat):B8 rs (q++[k]) j=(if (rs.getD k EE).2.1=j then [2*(k:Int)+1] else [])++B8 rs q j:=by
 unfold B8;rw[tV,List.reverse_append,oU];by_cases h:(rs.getD k EE).2.1=j
 ·simp[h,-List.getD_eq_getElem?_getD]
 ·simp[h,-List.getD_eq_getElem?_getD]
theorem Mq{g g':Nat->List Int}(h:∀j,j≠a->g' j=g j):((oN n).map g).set a (g' a)=(oN n).map g':=by
 refine t5 λj=>?_
 by_cases e:a=j
 ·subst e;rcases oW a n with z|z
  ·rw[sJ (by simpa using z),om,qc z];rfl
  ·rw[pM (by simpa using z),pM (by simpa using z)]
 ·rw[tG e,om,om];cases z:(oN n)[j]? with
  |none=>rfl
  |some x =>
   have:x=j:=by
    obtain⟨h1,h2⟩:=oh.mp z;rw[<-h2,yy]
   subst this;exact congrArg some (h x λz=>e z.symm).symm
theorem Ib{g:Nat->List Int}(h:a<n):((oN n).map g)[a]?=some (g a):=by rw[om,qc h];rfl
theorem Mb(h:CQ H T q)(e:H b=some (.AE xs)):CQ (AG H b o) T q:=by
 obtain⟨L,h1,h2⟩:=h;refine⟨L,?_,λc F=>?_⟩
 ·rw[AV (λz=>by rw[z,e]at h1;cases h1)];exact h1
 ·rw[AV (λz=>by have:=h2 c F;rw[z,e]at this;cases this)];exact h2 c F
theorem MX(h:Dh T H H')(n:H b=none):Dh T H (AG H' b o):=λc u k e=>by
 rw[AV (BD e n)];exact h c u k e
theorem Es.P5{i:Nat}(M:Es H Ta Tb ba bb as bs)(h:as[i]?=some t):∃b,ba[i]?=some b/\H b=some (.AE (t.map V.int)):=by
 have F:=(oh.mp h).1;rw[<-M.ra.1]at F;exact⟨ba[i],og F,M.ra.2 i _ _ (og F) h⟩
theorem Es.P1{i:Nat}(M:Es H Ta Tb ba bb as bs)(h:bs[i]?=some t):∃b,bb[i]?=some b/\H b=some (.AE (t.map V.int)):=by
 have F:=(oh.mp h).1;rw[<-M.rb.1]at F;exact⟨bb[i],og F,M.rb.2 i _ _ (og F) h⟩
theorem MO(rs:List Rp)(p:List Nat)(i:Nat):(B8 rs p i).length<=p.length:=by
 unfold B8;rw[kb,List.length_reverse];exact aaB _ _
theorem MV(rs:List Rp)(p:List Nat)(i:Nat):(Bn rs p i).length<=p.length:=by
 unfold Bn;rw[kb];exact aaB _ _
theorem Hc{l:List Addr}{i:Nat}(h:l[i]?=some b):(l.map V.ref)[i]?=some (.ref b):=by rw[om,h];rfl
section
variable {P:pG}{w:World}{K:ow}{mg:Str->Option Value}{base:Heap}{f g h f1 f2 f3 c T:Addr}{fd gd hd d1 d2 d3:qU}
inductive W3(T:Addr)(vs:List V)(H:Hp)(Q:VK)(_:XK):Prop
 |mk (pl:Nat) (J F:Addr) (rs:List Rp) (ls:List Int) (af:vs=[.int (pl:Int),.ref J,.ref F]) (ai:As FW H J rs) (ac:H F=some (.AE (ls.map V.int))) (ag:ls.length=rs.length) (ab:rs.length<=14) (ah:2<=pl) (O:pl<=40) (ad:(∀r∈rs,r.1<pl/\r.2.1<pl)) (ae:(∀p,Fm ls p->∀t∈Cp pl rs p,t≠[])) (aj:CQ H T J2) (aa:∀(t:Addr) (p:List Nat) (H':Hp),Dh T H H'->CQ H' T J2->Fm ls p->As Dt H' t ((Cp pl rs p).map Cb)->Q (.ref t) H')
theorem LY:An ["places","ropes","lefts","outer","above","below","k"] ["places","ropes","lefts"] (Ac s_turns_of):=Aw
theorem V1:(["place"]:List Str).Nodup:=by decide +kernel
theorem W4:(["one","other"]:List Str).Nodup:=by decide +kernel
set_option maxHeartbeats 4000000 in
theorem Z6 (F:Fun K "turns_of" "turns_of" s_turns_of f fd)(bl:fd.code=.ref c)(hC:ac7 base c T)(hB:FG mg base)(G1:AX P w K mg base 2 "told_turns" ["turns"] Sw)
  (ml:mg "len" = none)(mr:mg "range" = none)(ms:mg "sorted" = none)(mz:mg "zip" = none)(mt:mg "tuple" = none):Ai P w K mg base Ae 6 f fd ["places","ropes","lefts"] (W3 T):=by
 refine Fun.XW F LY (λvs H Q E h=>?_) (λA bx s H vs Q E hr h=>?_)
 ·obtain⟨pl,ra,la,rs,ls,rfl,_⟩:=h;rfl
 obtain⟨pl,ra,la,rs,ls,rfl,⟨cs,a7,hR⟩,a6,ll,b0,p2,b4,bj,bn,hT,q⟩:=h;have r2:=hr.mono (show 2<=5 by decide);have r4:=hr.mono (show 1+3<=5 by decide);exists _,AM (AU 3 LY (C8 ml (pv 1)))
  (AM (Ga (i:=4) LY.nd rfl (qL rfl) (Nc:=["place"]) (cap:=[]) (g:=BH 0) (te:=LV Ba) rfl (F4 (by rfl) mr (AA (pv 0) AD)) CD (λ_ _ _ _ _=>Bj (i:=0) V1 rfl (qL rfl)) (λ_ _ _ _ _=>CJ AD))
  (AM (Ga (i:=5) LY.nd rfl (qL rfl) (Nc:=["place"]) (cap:=[]) (g:=BH 0) (te:=LV Ba) rfl (F4 (by rfl) mr (AA (pv 0) AD)) CD (λ_ _ _ _ _=>Bj (i:=0) V1 rfl (qL rfl)) (λ_ _ _ _ _=>CJ AD))
  (AM (Bk oX rfl (DV (Zp (k:=1) (pn:="rope") (N:=["lefts"]) (js:=[2]) (rd:=lP) (T:=T) (c:=c) rfl
    (Sl rfl rfl rfl rfl rfl (tF.mpr ⟨⟨_,G,G,G,G,G⟩,sP _⟩) (tF.mpr ⟨G,sP _⟩) (by decide +kernel) (tF.mpr ⟨(λz=>by first|exact⟨_,G⟩|cases z),tF.mpr ⟨(λz=>by first|exact⟨_,G⟩|cases z),sP _⟩⟩) λ_=>rfl) rfl rfl r4 (by rfl) ms (by rfl) mr (pv 3) bl hC hB rfl (λ_ _ _ _ _=>rfl)
    (λf c A bx s x vs H Q h=>⟨_,pL (pv 1) (pv 0),by
     obtain⟨i,lp,ns,k,rfl,rfl,hl,hk,h⟩:=h;exact⟨_,G,_,G,lp,_,_,_,G,G,AJ.of hl,BE (by rw[om,hk];rfl),h⟩⟩))) (Ak 6 LY)
   (AM (Dr (DD pA qF qG Ed (pL (pv 5) (pT (pT (pv 1) (pv 6)) AB)) (AA (AN DU AB (pv 6)) AD)))
   (AR (Dr (DD pA wR zu RX (pL (pv 4) (pT (pT (pv 1) (pv 6)) AB)) (AA AB (AA (AN BM (AN DU AB (pv 6)) AB) AD)))))))
  (AM (Dr (DD pA qF qG Ed (pL (pv 4) AB) (AA (AN DU AB (pv 3)) AD)))
  (AM (Dr (DD pA qF qG Ed (pL (pv 5) AB) (AA (AN BM (AN DU AB (pv 3)) AB) AD)))
  (AR (Al (AS G1 (AA (DN (Nc:=["one","other"]) (cap:=[]) (g:=Hm [] 2 (Fj (BH 0) (Fj (BH 1) KG))) (te:=JK (VI []) (A7 (BK P2 (Ag 0) (Ag 1)) Ba)) rfl (Kw (t1:=false) (t2:=false) (by rfl) mz (AA (pv 4) (AA (pv 5) AD))) CD
    (λ_ _ _ _ _=>CZ (n:=2) rfl (Av (Bj (i:=0) W4 rfl (qL rfl)) (Av (Bj (i:=1) W4 rfl (qL rfl)) CV))) (λ_ _ _ _ _=>Lg mt (AN Gm (pv 0) (pv 1)))) AD)))))))))
 have ln:(cs.map V.ref).length=rs.length:=by rw[kb,hR.1]
 exists _,G,ra,_,G,.inr (AH.of a7);rw[ln];refine⟨_,G,(pl:Int),G,(),(),λTa bq=>?_⟩;refine Q3 (pl:=pl) ⟨none,G⟩ () bq λba H1 s1 hA rA bd bg=>?_
 refine⟨_,G,(pl:Int),G,(),(),λTb bu=>?_⟩;refine Q3 (pl:=pl) ⟨none,G⟩ () bu λbb H2 s2 bo rB bw a3=>?_
 have bv:∀b∈Ta :: ba,H1 b≠none:=λb hb z=>by
  rcases oG.mp hb with rfl|hb
  ·rw[hA]at z;cases z
  ·obtain⟨j,O,e⟩:=qV hb
   have:=rA.2 j b [] (by rw[<-e];exact og O) (by rw[tK,oH (by have:=rA.1;rw[xB]at this;lia)])
   have this:H1 b=_:=this;rw[z]at this;cases this
 have M:Es H2 Ta Tb ba bb ((oN pl).map (B8 rs ([]:List Nat))) ((oN pl).map (Bn rs ([]:List Nat))):=by
  have e1:(oN pl).map (B8 rs ([]:List Nat))=oE pl []:=by rw[<-List.length_range (n:=pl),<-List.map_const'];simp[B8]
  have e2:(oN pl).map (Bn rs ([]:List Nat))=oE pl []:=by rw[<-List.length_range (n:=pl),<-List.map_const'];simp[Bn]
  rw[e1,e2];exists s2 _ _ hA,bo,rA.keep Dp s2,rB;obtain⟨n1,n2⟩:=qt.mp bd;obtain⟨n3,n4⟩:=qt.mp bw;have ap:∀a∈Ta :: ba,∀b∈Tb :: bb,a≠b:=λa ha b hb z=>bv a ha (by rw[z];exact a3 b hb)
  refine qt.mpr ⟨λz=>?_,qt.mpr ⟨λz=>?_,qD.mpr ⟨n2,n4,λa ha b hb=>ap a (pF _ ha) b (pF _ hb)⟩⟩⟩
  ·rcases oG.mp z with z|z
   ·exact ap Ta #v[] Tb #v[] z
   ·rcases oM.mp z with z|z
    ·exact n1 z
    ·exact ap Ta #v[] Ta (pF _ z) rfl
  ·rcases oM.mp z with z|z
   ·exact ap Tb (pF _ z) Tb #v[] rfl
   ·exact n3 z
 have af:=s1.trans s2;have ai:∀b∈ba++bb,H b=none:=λb hb=>by
  rcases oM.mp hb with hb|hb
  ·exact bg b (pF _ hb)
  ·cases z:H b with
   |none=>rfl
   |some o=>have:=a3 b (pF _ hb);rw[s1 _ _ z]at this;cases this
 obtain⟨TL,al,_⟩:=id hT;have az:∀{J:Hp} {b:Addr} {o:HO},Dh T H J->H b=some o->(∀z,o≠.CT z)->J b=some o:=λ{J b o} bt e n=>bt b o (λz=>by rw[z,al]at e;exact n _ (oV e).symm) e
 refine⟨_,G,rs.length,G,(),EL hT af,[.ref la],G,(λi j z=>by
  rcases i with _|i
  ·cases z;exact⟨_,G,G⟩
  ·simp at z),λff c' H5 bt nf tb bh bc=>⟨ls,ll,λi k e=>?_,λD p H6 op s6 nD hD=>?_⟩⟩
 ·have a8:=bt la _ (λz=>by have:=af _ _ al;rw[<-z,af _ _ a6]at this;cases this) (af _ _ a6);exact λH7 s7 QQ hq=>⟨_,G,s7 _ _ bc,s7 _ _ bh,i,la,ls,k,G,G,s7 _ _ a8,e,hq _ (AK.refl _)⟩
 have ao:H2 T=some (.CT (Ex TL).toArray):=af _ _ al;have aj:∀{b:Addr} {o:HO},H2 b=some o->(∀z,o≠.CT z)->H6 b=some o:=λ{b o} e n=>s6 _ _ (bt b o (λz=>by rw[z,ao]at e;exact n _ (oV e).symm) e)
 have M6:Es H6 Ta Tb ba bb ((oN pl).map (B8 rs ([]:List Nat))) ((oN pl).map (Bn rs ([]:List Nat))):=⟨aj M.ha (λz y=>by cases y),aj M.hb (λz y=>by cases y),⟨M.ra.1,λi b x e1 e2=>aj (M.ra.2 i b x e1 e2) (λz y=>by cases y)⟩,⟨M.rb.1,λi b x e1 e2=>aj (M.rb.2 i b x e1 e2) (λz y=>by cases y)⟩,M.nd⟩;have lp:p.length=rs.length:=by rw[op.1.length_eq,pC,ll]
 have kp:∀k∈p,k<rs.length:=λk hk=>by have:=pW.mp (op.1.mem_iff.mp hk);lia
 have ax:∀b∈ba++bb,D≠b:=λb hb z=>by
  have h5:H5 b≠none:=λy=>by
   rcases oM.mp hb with hb|hb
   ·obtain⟨j,O⟩:=qX hb;have jl:=(oh.mp O).1;rw[M.ra.1]at jl;have e:H2 b=_:=M.ra.2 j b _ O (og jl);rw[bt b _ (λz=>by rw[z,ao]at e;cases e) e]at y;cases y
   ·obtain⟨j,O⟩:=qX hb;have jl:=(oh.mp O).1;rw[M.rb.1]at jl;have e:H2 b=_:=M.rb.2 j b _ O (og jl);rw[bt b _ (λz=>by rw[z,ao]at e;cases e) e]at y;cases y
  exact h5 (by rw[<-z];exact nD)
 exists D,G,⟨_,AJ.of hD⟩;refine IT (xs:=p.map λi:Nat=>V.int (i:Int)) (λi σ J=>(∃u,σ=[some (.int (pl:Int)),some (.ref ra),some (.ref la),some (.int (rs.length:Int)),some (.ref Ta),some (.ref Tb),u])/\Dh T H J/\CQ J T J2/\J D=some (.AE (p.map λi:Nat=>V.int (i:Int)))/\Es J Ta Tb ba bb ((oN pl).map (B8 rs (p.take i))) ((oN pl).map (Bn rs (p.take i))))
  ⟨⟨none,G⟩,λb o n e=>s6 _ _ (bt b o n (af _ _ e)),EL tb s6,hD,M6⟩ (λi σ J _ z=>AJ.of z.2.2.2.1) ?_ ?_
 ·rintro i x σ J hx ⟨⟨u,rfl⟩,bi,ti,di,Mi⟩;rw[om]at hx;obtain⟨k,hk,rfl⟩:=qe.mp hx;have kl:=kp k (oi hk);obtain⟨cb,aq⟩:∃cb,cs[k]?=some cb:=⟨_,og (by rw[hR.1];exact kl)⟩;have er:rs[k]?=some (rs.getD k EE):=by rw[oj,og kl];rfl
  obtain⟨qf,a4,_⟩:=hR.2 k cb _ aq er;obtain⟨r1,a0⟩:=bj _ (oi er);have et:=Bc hk;generalize hr:rs.getD k EE=r at a4 r1 a0 er;have ay:∀{J},Dh T H J->J ra=some (.AF (cs.map V.ref)):=λb=>az b a7 (λz y=>by cases y)
  have ar:∀{J},Dh T H J->J cb=some (.AF [.int (r.1:Int),.int (r.2.1:Int),.ref qf]):=λb=>az b a4 (λz y=>by cases y)
  obtain⟨b1,aa,ab⟩:=Mi.P1 (Ib (g:=Bn rs (p.take i)) r1);have l1:=MV rs (p.take i) r.1;have lt:(p.take i).length<=14:=by rw[pN];lia
  have ag:Gz 2 (k:Int):=.inl ⟨∅,∅⟩;refine⟨_,G,_,G,_,G,ra,_,_,_,G,G,AH.of (ay bi),BE (Hc aq),cb,_,_,_,G,G,AH.of (ar bi),Eu _ _ _,Tb,_,_,_,G,G,AJ.of Mi.hb,BE (Hc aa),.inl ⟨G,_,AJ.of ab⟩,_,G,_,_,G,G,ag,b1,_,_,G,G,ab,by rw[kb,pD];lia,?_⟩;have m1:b1∈ba++bb:=oM.mpr (.inr (oi aa));have M1:=Mi.Wn (t:=Bn rs (p.take (i+1)) r.1) aa;have e1:(Bn rs (p.take (i+1)) r.1).map V.int=(Bn rs (p.take i) r.1).map V.int++[.int (2*(k:Int))]:=by rw[et,RV,hr,oH rfl,oU];rfl
  rw[Mq (g':=Bn rs (p.take (i+1))) (λj O=>by rw[et,RV,hr,oC (λz=>O z.symm),qS]),e1]at M1;have ad:Dh T H (AG J b1 (.AE ((Bn rs (p.take i) r.1).map V.int++[.int (2*(k:Int))]))):=MX bi (ai _ m1);have ah:=Mb (o:=.AE ((Bn rs (p.take i) r.1).map V.int++[.int (2*(k:Int))])) ti ab;have a5:AG J b1 (.AE ((Bn rs (p.take i) r.1).map V.int++[.int (2*(k:Int))])) D=_:=(AV (ax _ m1)).trans di;generalize AG J b1 (.AE ((Bn rs (p.take i) r.1).map V.int++[.int (2*(k:Int))]))=Hj at M1 ad ah a5;obtain⟨b2,ae,ac⟩:=M1.P5 (Ib (g:=B8 rs (p.take i)) a0);have l2:=MO rs (p.take i) r.2.1;refine⟨_,G,_,G,_,G,ra,_,_,_,G,G,AH.of (ay ad),BE (Hc aq),cb,_,_,_,G,G,AH.of (ar ad),C6 _ _ _,Ta,_,_,_,G,G,AJ.of M1.ha,BE (Hc ae),.inl ⟨G,_,AJ.of ac⟩,_,G,_,_,G,G,ag,_,_,G,G,b2,_,_,_,G,G,ac,∅,(),by rw[kb];lia,?_⟩;have m2:b2∈ba++bb:=oM.mpr (.inl (oi ae));have M2:=M1.WJ (t:=B8 rs (p.take (i+1)) r.2.1) ae;have e2:B8 rs (p.take (i+1)) r.2.1=(2*(k:Int)+1) :: B8 rs (p.take i) r.2.1:=by rw[et,Rc,hr,oH rfl];rfl
  rw[Mq (g':=B8 rs (p.take (i+1))) (λj O=>by rw[et,Rc,hr,oC (λz=>O z.symm),uA]),e2]at M2;exact⟨⟨_,G⟩,MX ad (ai _ m2),Mb ah ac,(AV (ax _ m2)).trans a5,M2⟩
 rintro σ J ⟨⟨u,rfl⟩,bi,ti,di,Mi⟩;rw[kb,qE]at Mi;have ag:Gz 2 (rs.length:Int):=.inl ⟨∅,∅⟩;obtain⟨b1,aa,ab⟩:=Mi.P5 (Ib (g:=B8 rs p) (a:=0) ());have l1:=MO rs p 0;refine⟨_,G,Ta,_,_,_,G,G,AJ.of Mi.ha,BE (j:=0) (Hc aa),.inl ⟨G,_,AJ.of ab⟩,_,G,_,_,G,G,ag,b1,_,_,G,G,ab,by rw[kb,pD];lia,?_⟩;have m1:b1∈ba++bb:=oM.mpr (.inl (oi aa));have M1:=Mi.WJ (t:=(λj=>B8 rs p j++if j=0 then [2*(rs.length:Int)] else []) 0) aa;rw[Mq (g':=λj=>B8 rs p j++if j=0 then [2*(rs.length:Int)] else []) (λj O=>by show B8 rs p j++_=_;rw[oC O,qS])]at M1;have e1:((λj=>B8 rs p j++if j=0 then [2*(rs.length:Int)] else []) 0).map V.int=(B8 rs p 0).map V.int++[.int (2*(rs.length:Int))]:=by show(B8 rs p 0++_).map V.int=_;rw[oH rfl,oU];rfl
 rw[e1]at M1;have ad:Dh T H (AG J b1 (.AE ((B8 rs p 0).map V.int++[.int (2*(rs.length:Int))]))):=MX bi (ai _ m1);have ah:=Mb (o:=.AE ((B8 rs p 0).map V.int++[.int (2*(rs.length:Int))])) ti ab;generalize AG J b1 (.AE ((B8 rs p 0).map V.int++[.int (2*(rs.length:Int))]))=Hj at M1 ad ah;obtain⟨b2,ae,ac⟩:=M1.P1 (Ib (g:=Bn rs p) (a:=1) ());have l2:=MV rs p 1;refine⟨_,G,Tb,_,_,_,G,G,AJ.of M1.hb,BE (j:=1) (Hc ae),.inl ⟨G,_,AJ.of ac⟩,_,G,_,_,G,G,ag,_,_,G,G,b2,_,_,G,G,ac,by rw[kb,pD];lia,?_⟩;have m2:b2∈ba++bb:=oM.mpr (.inr (oi ae));have M2:=M1.Wn (t:=(λj=>Bn rs p j++if j=1 then [2*(rs.length:Int)+1] else []) 1) ae;rw[Mq (g':=λj=>Bn rs p j++if j=1 then [2*(rs.length:Int)+1] else []) (λj O=>by show Bn rs p j++_=_;rw[oC O,qS])]at M2;have e2:((λj=>Bn rs p j++if j=1 then [2*(rs.length:Int)+1] else []) 1).map V.int=(Bn rs p 1).map V.int++[.int (2*(rs.length:Int)+1)]:=by show(Bn rs p 1++_).map V.int=_;rw[oH rfl,oU];rfl
 rw[e2]at M2;have aw:Dh T H (AG Hj b2 (.AE ((Bn rs p 1).map V.int++[.int (2*(rs.length:Int)+1)]))):=MX ad (ai _ m2);have au:=Mb (o:=.AE ((Bn rs p 1).map V.int++[.int (2*(rs.length:Int)+1)])) ah ac;generalize AG Hj b2 (.AE ((Bn rs p 1).map V.int++[.int (2*(rs.length:Int)+1)]))=Hk at M2 aw au;have av:ba.length=pl:=by rw[M2.ra.1,kb,pC]
 have b3:bb.length=pl:=by rw[M2.rb.1,kb,pC]
 refine⟨_,G,_,G,Ta,Tb,G,⟨_,BV.l M2.ha⟩,⟨_,BV.l M2.hb⟩,λak bf=>?_⟩;refine CP (Mh (xs:=ba.map V.ref) (ys:=bb.map V.ref) (λH3 s=>BV.l (s _ _ M2.ha)) (λH3 s=>BV.l (s _ _ M2.hb)) (by rw[kb,kb];lia)) (by rw[kb];lia) bf
  (λi ys σ hp=>∃ds:List Addr,ys=ds.map V.ref/\At Dt hp ds ((Cp pl rs p).take i)/\∃u v,σ=[u,v]) ⟨[],G,At.nil,none,none,G⟩ ?_ ?_
 ·rintro i ys σ H3 x H4 hi sm br ⟨ds,rfl,bp,u,v,rfl⟩ ⟨pz,x1,x2,rfl,be,rfl,e1,e2⟩ Cc hC;obtain⟨H4,zg,sz,zz⟩:=nw be (.AF [x1,x2]);rw[zg];have gz:H4 pz=_:=zz;have ip:i<pl:=by rw[kb,av]at hi;exact hi
  obtain⟨c1,h1,g1⟩:=M2.P5 (Ib (g:=λj=>B8 rs p j++if j=0 then [2*(rs.length:Int)] else []) ip);obtain⟨c2,h2,g2⟩:=M2.P1 (Ib (g:=λj=>Bn rs p j++if j=1 then [2*(rs.length:Int)+1] else []) ip);rw[Hc h1]at e1;rw[Hc h2]at e2;cases e1;cases e2;have l1:=MO rs p i;have l2:=MV rs p i;exists pz,_,G,AH.of gz,G,_,_,G,_,_,G,rfl;refine⟨_,G,_,G,c1,c2,_,_,G,G,sz _ _ (sm _ _ g1),sz _ _ (sm _ _ g2),?_,λl hl=>?_⟩
  ·rw[kb,kb,oF,oF,pD];have a1:(if i=0 then [2*(rs.length:Int)] else []).length<=1:=by split<;>simp
   have a2:(if i=1 then [2*(rs.length:Int)+1] else []).length<=1:=by split<;>simp
   lia
  rw[<-List.map_append];have s5:=AW hl (.AE ((EA rs p rs.length i).map V.int));have g5:AG H4 l (.AE ((EA rs p rs.length i).map V.int)) l=_:=AQ;refine⟨l,_,G,.inl ⟨AJ.of g5,λt ht=>?_⟩⟩;have s6:=AW ht (.AF ((EA rs p rs.length i).map V.int));have am:=sz.trans (s5.trans s6);refine hC _ _ _ am ⟨ds++[t],#v[],?_,_,_,G⟩;have ec:(Cp pl rs p)[i]?=some (EA rs p rs.length i):=Ib ip;rw[Bc ec];exact(bp.keep IU (Df ak am)).snoc (Dt.BO (t:=EA rs p rs.length i) AQ (am _ _ br))
 ·rintro ys σ H4 s4 bm bz ⟨gs,rfl,hG,u,v,rfl⟩;have lt:(Cp pl rs p).length=pl:=by unfold Cp;rw[kb,pC]
  rw[kb,av,oQ ()]at hG;refine⟨ak,Cp pl rs p,G,⟨gs,bm,hG.keep IU (DC H4 ak)⟩,(),λt ht=>⟨bn p op t ht,?_⟩,λt H5 s5 a9=>?_⟩
  ·obtain⟨j,_,rfl⟩:=oI.mp ht;have l1:=MO rs p j;have l2:=MV rs p j;unfold EA;rw[oF,oF,oF];have a1:(if j=0 then [2*(rs.length:Int)] else []).length<=1:=by split<;>simp
   have a2:(if j=1 then [2*(rs.length:Int)+1] else []).length<=1:=by split<;>simp
   lia
  ·exact q t p H5 (λb o n e=>s5 _ _ (s4 _ _ (aw b o n e))) (EL au (s4.trans s5)) op a9
end
end My
namespace Ln
abbrev ED(l:List Sd)(v x:Int):Prop:=∃s∈l,s.v=v/\s.a<=x/\x<s.z
theorem Jk:ED (a++[s]) v x↔ED a v x\/(s.v=v/\s.a<=x/\x<s.z):=by simp[ED,or_and_right,exists_or]
structure Lk(pre ls rest:List Sd):Prop where
 ap:ls.Pairwise CG
 wd:∀l∈ls,l.a<l.z
 cv:∀v x,ED ls v x↔ED pre v x
 bf:∀l∈ls,∀t∈rest,HJ l t
theorem Ma:(a++[q]).Pairwise CG↔a.Pairwise CG/\∀l∈a,CG l q:=by simp[uM]
theorem HS{P:Sd->Prop}:(∀l∈a++[q],P l)↔(∀l∈a,P l)/\P q:=by simp[or_imp,forall_and]
theorem Lk.Dc(h:Lk pre (a++[q]) (s :: rest))(w:s.a<s.z)(p:∀t∈rest,HJ s t):Lk (pre++[s]) (DI (a++[q]) s) rest:=by
 obtain⟨O,wd,cv,bf⟩:=h;rw[Ma]at O;rw[HS]at wd bf;obtain⟨b1,b2⟩:=bf;have bq:=b2 s #v[];rw[MJ];split
 ·obtain⟨m,e,m1,m2,m3⟩:∃m:Sd,((s.v,q.a,max s.z q.z):Sd)=m/\m.v=s.v/\m.a=q.a/\m.z=max s.z q.z:=⟨_,G,G,G,G⟩;rw[e];refine⟨Ma.mpr ⟨O.1,λl J=>?_⟩,HS.mpr ⟨wd.1,?_⟩,λv x=>?_,HS.mpr ⟨λl J t F=>b1 l J t (by simp[F]),λt F=>?_⟩⟩
  ·have:=O.2 l J
   unfold CG HJ at *;lia
  ·lia
  ·rw[Jk,Jk,<-cv v x,Jk];unfold HJ at bq;exists ?_
   ·rintro(z|z)
    ·exact .inl (.inl z)
    ·lia
   ·rintro((z|z)|z)
    ·exact .inl z
    ·exact .inr ()
    ·exact .inr ()
  ·have:=p t F
   have:=b2 t (by simp[F])
   unfold HJ at *;lia
 ·have e:CG q s:=by unfold CG HJ at *;lia
  refine⟨Ma.mpr ⟨Ma.mpr O,HS.mpr ⟨λl J=>?_,e⟩⟩,HS.mpr ⟨HS.mpr wd,w⟩,λv x=>?_,HS.mpr ⟨HS.mpr ⟨λl J t F=>b1 l J t (by simp[F]),λt F=>b2 t (by simp[F])⟩,p⟩⟩
  ·have:=O.2 l J
   unfold CG at *;lia
  ·rw[Jk (a:=a++[q]),Jk (a:=pre),cv v x]
theorem TN:∀{rest pre ls:List Sd},Lk pre ls rest->rest.Pairwise HJ->(∀t∈rest,t.a<t.z)->Lk (pre++rest) (rest.foldl DI ls) []
 |[],pre,ls,h,_,_=>by simpa using h
 |s :: rest,pre,ls,h,pw,w=>by
  obtain⟨F,p2⟩:=vI.mp pw;have J:=w s #v[];rw[List.append_cons];refine TN ?_ p2 (λt O=>w t (by simp[O]));rcases Mg ls with rfl|⟨a,q,rfl⟩
  ·exact⟨w8 _ _,by simpa [Ku]using J,λv x=>by have:=h.cv v x;rw[Jk,<-this,Ku];simp[ED],by simpa [Ku]using F⟩
  ·exact h.Dc J F
end Ln
namespace My
open PySem L2 Mth Wd Fl Ln
variable {p:Int->Int}{rs:List Ap}
abbrev mF(L:List Sd):Prop:=L.Pairwise λs t=>Cm (Fv t) (Fv s)=false
theorem iG(h:Cm (Fv t) (Fv s)=false):HJ s t:=by
 unfold HJ;simp only[Cm,Fv]at h;split at h
 ·split at h<;>simp at h<;>lia
 ·simp at h;lia
structure BW(m n:Int)(bs:List AL)(X:List Sd):Prop where
 cv:E8 m n bs
 np:∀b∈bs,b.l<b.r/\b.d<b.u
 m0:0<m
 n0:0<n
 xa:∀(i j:Nat) (s t:Sd),X[i]?=some s->X[j]?=some t->i≠j->CG s t\/CG t s
 wd:∀s∈X,s.a<s.z
 xc:∀v x,ED X v x↔ED (Ce m n bs) v x
 x0:X[0]?=some (n,0,m)
 x1:X[1]?=some (0,0,m)
 rg:∀s∈X,0<=s.a/\s.z<=m/\0<=s.v/\s.v<=n
theorem gN(J:∀s∈P,∀t∈P,s=t\/CG s t\/CG t s)(wd:∀s∈P,s.a<s.z)(O:0<m)(h:∀x,0<=x->x<m->ED P v x)(g:∀x,ED P v x->0<=x/\x<m):(v,0,m)∈P:=by
 obtain⟨s,F,rfl,h1,h2⟩:=h 0 () O;have g1:=g s.a ⟨s,F,G,(),wd s F⟩;have g2:=g (s.z-1) ⟨s,F,G,(),()⟩;have e:s.z=m:=by
  refine xF () (xI.mp λz=>?_);obtain⟨t,ht,e,h3,h4⟩:=h s.z () z;unfold CG at J;rcases J s F t ht with rfl|y|y<;>lia
 rw[show s=(s.v,0,m) from Prod.ext rfl (Prod.ext (by show s.a=0;lia) e)]at F;exact F
theorem LB(cv:E8 m n bs)(O:∀b∈bs,b.l<b.r/\b.d<b.u)(F:0<m)(n0:0<n)(h:s∈Ce m n bs):s.a<s.z/\0<=s.a/\s.z<=m/\0<=s.v/\s.v<=n:=by
 unfold Ce IG at h;simp only[oM,oG,o3,qN,v8]at h;rcases h with (rfl|rfl)|⟨b,J,rfl|rfl⟩
 ·exact⟨F,by show(0:Int)<=0;omega,rO _,by show 0<=n;omega,rO _⟩
 ·exact⟨F,by show(0:Int)<=0;omega,rO _,rO _,by show 0<=n;omega⟩
 all_goals
  have:=cv.Bz b J
  have:=O b J
  dsimp only[Sd.a,Sd.z,Sd.v,AL.l,AL.r,AL.u,AL.d]at *;omega
theorem ja(cv:E8 m n bs)(np:∀b∈bs,b.l<b.r/\b.d<b.u)(m0:0<m)(n0:0<n)(pm:L.Perm (Ce m n bs))(ri:mF L):2<=(L.foldl DI []).length/\BW m n bs (IK (L.foldl DI [])):=by
 have k:=TN (rest:=L) (pre:=[]) (ls:=[]) ⟨.nil,#v[],λv x=>Iff.rfl,#v[]⟩ (ri.imp λh=>iG h) λt J=>(LB cv np m0 n0 (pm.mem_iff.mp J)).1
 generalize L.foldl DI []=P at k;obtain⟨ap,wd,xc,_⟩:=k;have xc:∀v x,ED P v x↔ED (Ce m n bs) v x:=λv x=>by rw[xc v x];simp only[ED,uA,pm.mem_iff]
 have rg:∀s∈P,0<=s.a/\s.z<=m/\0<=s.v/\s.v<=n:=λs F=>by
  have w:=wd s F;obtain⟨t,J,e1,e2,e3⟩:=(xc s.v s.a).mp ⟨s,F,G,by omega,w⟩;obtain⟨u,hu,f1,f2,f3⟩:=(xc s.v (s.z-1)).mp ⟨s,F,G,by omega,by omega⟩
  have:=LB cv np m0 n0 J
  have:=LB cv np m0 n0 hu
  omega
 have al:∀s∈P,∀t∈P,s=t\/CG s t\/CG t s:=λs F t J=>tu.forall_of_forall_of_flip (R:=λs t=>s=t\/CG s t\/CG t s) (λ_ _=>.inl rfl) (ap.imp λh=>.inr (.inl h)) (ap.imp λh=>.inr (.inr h)) F J
 have aa:∀v,(v,0,m)∈Ce m n bs->(v,0,m)∈P:=λv hv=>gN al wd m0 (λx h0 h1=>(xc v x).mpr ⟨_,hv,G,h0,h1⟩) λx ⟨s,F,e,h1,h2⟩=>by have:=rg s F;omega
 obtain⟨A,B,rfl⟩:=vF (aa n (by simp[Ce]));obtain rfl:A=[]:=xK.mpr λh O=>by
  have:=(uM.mp ap).2.2 h O (n,0,m) #v[]
  have:=rg h (by simp[O])
  have:=wd h (by simp[O])
  unfold CG at *;dsimp only[Sd.a,Sd.z,Sd.v]at *;omega
 rw[uA]at *;have zb:=aa 0 (by simp[Ce]);rw[oG,or_iff_right (by intro z;have:=congrArg ye z;dsimp only at this;omega)]at zb;obtain⟨C,D,rfl⟩:=vF zb;obtain rfl:D=[]:=xK.mpr λh O=>by
  have:=(vI.mp (uM.mp (vI.mp ap).2).2.1).1 h O
  have:=rg h (by simp[O])
  have:=wd h (by simp[O])
  unfold CG at *;dsimp only[Sd.a,Sd.z,Sd.v]at *;omega
 have e:IK ((n,0,m) :: (C++[(0,0,m)]))=(n,0,m) :: (0,0,m) :: C:=by simp[IK]
 rw[e];have pp:((n,0,m) :: (0,0,m) :: C).Perm ((n,0,m) :: (C++[(0,0,m)])):=.cons _ (yL ..).symm;refine⟨#v[],cv,np,m0,n0,λi j s t F J ne=>?_,λs F=>wd s (pp.mem_iff.mp F),λv x=>by rw[<-xc v x];simp only[ED,pp.mem_iff],G,G,λs F=>rg s (pp.mem_iff.mp F)⟩;have pw:=(pp.pairwise_iff (R:=λs t=>CG s t\/CG t s) (λh=>h.symm)).mpr (ap.imp λh=>.inl h);rw[qg]at pw;obtain⟨i1,rfl⟩:=oh.mp F;obtain⟨j1,rfl⟩:=oh.mp J;rcases Nat.lt_or_gt_of_ne ne with z|z
 ·exact pw i j i1 j1 z
 ·exact(pw j i j1 i1 z).symm
section
variable {m n x y v:Int}{bs:List AL}{X:List Sd}{i j:Nat}{b c:AL}{s:Sd}
theorem BW.uq(G:BW m n bs X)(F:bs[i]?=some b)(J:bs[j]?=some c)(h1:b.l<=x/\x<b.r/\b.d<=y/\y<b.u)(h2:c.l<=x/\x<c.r/\c.d<=y/\y<c.u):i=j:=by
 rcases vN i j with z|z|z
 ·exact(G.cv.Nw i j b c z F J (by omega) (by omega)).elim
 ·exact z
 ·exact(G.cv.Nw j i c b z J F (by omega) (by omega)).elim
theorem BW.eq(G:BW m n bs X)(J:b∈bs)(O:c∈bs)(h1:b.l<=x/\x<b.r/\b.d<=y/\y<b.u)(h2:c.l<=x/\x<c.r/\c.d<=y/\y<c.u):b=c:=by
 obtain⟨i,hi⟩:=qX J;obtain⟨j,F⟩:=qX O;obtain rfl:=G.uq hi F h1 h2;rw[hi]at F;exact oV F
theorem BW.pl(G:BW m n bs X)(h:X[i]?=some s)(e:s.v=v)(h1:s.a<=x)(h2:x<=s.z):Gx X v x=i:=by
 obtain⟨hi,rfl⟩:=oh.mp h;refine(acN hi).mpr ⟨by simp[Ez,e,h1,h2],λj F=>?_⟩
 have:=G.xa j i _ _ (og (by omega)) h (by omega)
 have:=G.wd _ (qd hi)
 have:=G.wd _ (qd (show j<X.length by omega))
 unfold CG at *;simp only[Ez,aav,decide_eq_false_iff_not];omega
theorem BW.has(G:BW m n bs X)(h:s∈Ce m n bs):∃t,X[Gx X s.v s.a]?=some t/\t.v=s.v/\t.a<=s.a/\s.z<=t.z:=by
 have w:=(LB G.cv G.np G.m0 G.n0 h).1;obtain⟨t,J,e,h1,h2⟩:=(G.xc s.v s.a).mpr ⟨s,h,rfl,(),w⟩;obtain⟨i,hi⟩:=qX J;rw[G.pl hi e h1 ()];refine⟨t,hi,e,h1,xI.mp λz=>?_⟩;obtain⟨u,O,f,h3,h4⟩:=(G.xc s.v t.z).mpr ⟨s,h,rfl,(),z⟩;obtain⟨j,F⟩:=qX O
 have:=G.xa i j _ _ hi F (λy=>by subst y;rw[hi]at F;cases F;lia)
 unfold CG at this
 lia
theorem BW.ln(G:BW m n bs X)(F:b∈bs):(∃t,X[(Bu X b).1]?=some t/\t.v=b.u/\t.a<=b.l/\b.r<=t.z)/\∃t,X[(Bu X b).2.1]?=some t/\t.v=b.d/\t.a<=b.l/\b.r<=t.z :=
 ⟨G.has (s:=(b.u,b.l,b.r)) (by simp only[Ce,IG,oM,v8];exact .inr ⟨b,F,#v[]⟩),G.has (s:=(b.d,b.l,b.r)) (by simp only[Ce,IG,oM,v8];exact .inr ⟨b,F,#v[]⟩)⟩
theorem BW.cell(G:BW m n bs X)(h:ED X v x):(0<v->∃b∈bs,b.u=v/\b.l<=x/\x<b.r)/\(v<n->∃b∈bs,b.d=v/\b.l<=x/\x<b.r):=by
 obtain⟨s,hs,rfl,h1,h2⟩:=(G.xc v x).mp h;have r:=LB G.cv G.np G.m0 G.n0 hs;simp only[Ce,IG,oM,oG,o3,qN,v8]at hs;have up:0<s.v->∃b∈bs,b.l<=x/\x<b.r/\b.d<=s.v-1/\s.v-1<b.u:=λz=>G.cv.Lj x (s.v-1) (by omega) (by omega) (by omega) (by omega)
 have dn:s.v<n->∃b∈bs,b.l<=x/\x<b.r/\b.d<=s.v/\s.v<b.u:=λz=>G.cv.Lj x s.v (by omega) (by omega) (by omega) z
 refine⟨λz=>?_,λz=>?_⟩
 ·obtain⟨b,F,O⟩:=up z;refine⟨b,F,?_,O.1,O.2.1⟩
  have:=G.cv.Bz b F
  rcases hs with (rfl|rfl)|⟨c,J,rfl|rfl⟩<;>dsimp only[Sd.v,Sd.a,Sd.z]at *
  ·omega
  ·omega
  ·have:=G.np c J
   rw[G.eq (x:=x) (y:=c.u-1) F J (by omega) (by omega)]
  ·have:=G.np c J
   refine xF (xI.mp λq=>?_) (by omega)
   have:=G.eq (x:=x) (y:=c.d) F J (by omega) (by omega)
   subst this;omega
 ·obtain⟨b,F,O⟩:=dn z;refine⟨b,F,?_,O.1,O.2.1⟩
  have:=G.cv.Bz b F
  rcases hs with (rfl|rfl)|⟨c,J,rfl|rfl⟩<;>dsimp only[Sd.v,Sd.a,Sd.z]at *
  ·omega
  ·omega
  ·have:=G.np c J
   refine xF (by omega) (xI.mp λq=>?_)
   have:=G.eq (x:=x) (y:=c.u-1) F J (by omega) (by omega)
   subst this;omega
  ·have:=G.np c J
   rw[G.eq (x:=x) (y:=c.d) F J (by omega) (by omega)]
theorem BW.Nt(G:BW m n bs X)(h:X[i]?=some s)(h1:s.a<=x)(h2:x<s.z):(0<s.v->∃b∈bs,(Bu X b).1=i/\b.l<=x/\x<b.r)/\(s.v<n->∃b∈bs,(Bu X b).2.1=i/\b.l<=x/\x<b.r):=by
 obtain⟨c1,c2⟩:=G.cell ⟨s,oi h,rfl,h1,h2⟩;refine⟨λz=>?_,λz=>?_⟩
 ·obtain⟨b,F,e,O⟩:=c1 z;obtain⟨t,J,e2,h4⟩:=(G.ln F).1;refine⟨b,F,uI λne=>?_,O⟩
  have:=G.xa _ _ _ _ J h ne
  unfold CG at this;omega
 ·obtain⟨b,F,e,O⟩:=c2 z;obtain⟨t,J,e2,h4⟩:=(G.ln F).2;refine⟨b,F,uI λne=>?_,O⟩
  have:=G.xa _ _ _ _ J h ne
  unfold CG at this;omega
def Ch(f g:Nat->Int):Int->List Nat->Int->Prop
 |a,[],z=>a=z
 |a,k :: q,z=>f k=a/\Ch f g (g k) q z
theorem Vx:∀{q:List Nat} {a:Int},a<=z->q.Nodup->q.Pairwise (λj k=>f j<=f k)->(∀k∈q,a<=f k/\f k<g k/\g k<=z)->(∀x,a<=x->x<z->∃k∈q,f k<=x/\x<g k)->(∀j∈q,∀k∈q,∀x,f j<=x->x<g j->f k<=x->x<g k->j=k)->Ch f g a q z
 |[],a,h,_,_,_,c,_=>xF h (xI.mp λy=>by obtain⟨k,hk,_⟩:=c a () y;cases hk)
 |k :: q,a,h,nd,pw,b,c,u=>by
  obtain⟨n1,n2⟩:=qt.mp nd;obtain⟨F,p2⟩:=vI.mp pw;have bk:=b k #v[];have e:f k=a:=by
   obtain⟨j,hj,h1,h2⟩:=c a () ();rcases oG.mp hj with rfl|hj
   ·lia
   ·have:=F j hj;lia
  have O:∀j∈q,g k<=f j:=λj hj=>xI.mp λy=>n1 (by
   have:=F j hj
   have bj:=b j (by simp[hj]);rw[u k #v[] j (by simp[hj]) (f j) this y () ()];exact hj)
  refine⟨e,Vx bk.2.2 n2 p2 (λj hj=>⟨O j hj,(b j (by simp[hj])).2⟩) (λx h1 h2=>?_) λi hi j hj=>u i (by simp[hi]) j (by simp[hj])⟩;obtain⟨j,hj,h3,J⟩:=c x () h2;rcases oG.mp hj with rfl|hj
  ·lia
  ·exact⟨j,hj,h3,J⟩
def E2(p:Int->Int):Int->List Int->Int->Prop
 |u,[],w=>u=w
 |u,y :: t,w=>p (Cu y)=u/\E2 p (p y) t w
theorem IW:∀{t s:List Int} {u:Int},E2 p u (t++s) w↔∃v,E2 p u t v/\E2 p v s w
 |[],s,u=>by simp[E2]
 |y :: t,s,u=>by
  show(_/\E2 p (p y) (t++s) w)↔_;rw[IW];exact⟨λ⟨h,v,h1,h2⟩=>⟨v,⟨h,h1⟩,h2⟩,λ⟨v,⟨h,h1⟩,h2⟩=>⟨h,v,h1,h2⟩⟩
theorem dJ{c:Int}(h:E2 p c t c)(j:Nat):∃d,E2 p d (t.drop j++t.take j) d:=by
 rw[<-List.take_append_drop j t,IW]at h;obtain⟨v,h1,h2⟩:=h;exact⟨v,IW.mpr ⟨c,h2,h1⟩⟩
theorem Pe:∀{t:List Int} {u z:Int},E2 p u t w->p z=u->(∀e∈cp z t,p e.2=p (Cu e.1))/\p (t.getLastD z)=w
 |[],u,z,h,e=>⟨by simp[cp],by rw[<-h];exact e⟩
 |y :: t,u,z,⟨h,h2⟩,e=>by
  obtain⟨J,F⟩:=Pe h2 (z:=y) rfl;refine⟨λx hx=>?_,by rw[abt];exact F⟩;rcases oG.mp hx with rfl|hx
  ·show p z=p (Cu y);rw[h,e]
  ·exact J x hx
theorem gA{c:Int}(h:E2 p c t c):∀e∈CL t,p e.2=p (Cu e.1):=by
 rw[T6];cases t with
 |nil=>simp[cp]
 |cons y t =>
  refine(Pe h ?_).1
  have:=(Pe h.2 (z:=y) rfl).2
  rw[abt];exact this
def pB(m:Int)(bs:List AL)(x:Int):Int:=match bs[(x / 2).toNat]? with
 |some b=>if x%2=0 then b.r else b.l
 |none=>if x%2=0 then 0 else m
abbrev N7(bs:List AL)(k:Nat):Int:=(bs.map AL.l).getD k 0
abbrev N0(bs:List AL)(k:Nat):Int:=(bs.map AL.r).getD k 0
theorem Jh(k:Nat):Cu (2*(k:Int))=2*(k:Int)+1/\Cu (2*(k:Int)+1)=2*(k:Int):=by unfold Cu;rw[oH (),oC ()];lia
variable {a z:Int}{k:Nat}{p q:List Nat}
theorem Gr(h:bs[k]?=some b):N7 bs k=b.l/\N0 bs k=b.r:=by simp[N7,N0,h]
theorem LG(h:bs[k]?=some b):pB m bs (2*(k:Int))=b.r/\pB m bs (2*(k:Int)+1)=b.l:=by
 unfold pB;rw[show(2*(k:Int) / 2).toNat=k by lia,show((2*(k:Int)+1) / 2).toNat=k by lia,h];dsimp only;rw[oH (),oC ()];exact⟨G,G⟩
theorem P0:pB m bs (2*(bs.length:Int))=0/\pB m bs (2*(bs.length:Int)+1)=m:=by
 unfold pB;rw[show(2*(bs.length:Int) / 2).toNat=bs.length by lia,show((2*(bs.length:Int)+1) / 2).toNat=bs.length by lia,pM (oz _)];dsimp only;rw[oH (),oC ()];exact⟨G,G⟩
theorem Pw:∀{q:List Nat} {a:Int},(∀k∈q,k<bs.length)->Ch (N7 bs) (N0 bs) a q z->E2 (pB m bs) a (q.map λk:Nat=>2*(k:Int)) z/\E2 (pB m bs) z (q.reverse.map λk:Nat=>2*(k:Int)+1) a
 |[],a,_,h=>⟨h,h.symm⟩
 |k :: q,a,hk,⟨e,h⟩=>by
  have bk:bs[k]?=some (bs[k]'(hk k #v[])):=og _;obtain⟨J,O⟩:=Gr bk;obtain⟨e3,F⟩:=LG (m:=m) bk;obtain⟨h1,h2⟩:=Pw (λj hj=>hk j (by simp[hj])) h;rw[O,<-e3]at h1 h2;refine⟨⟨by rw[(Jh k).1,F,<-J];exact e,h1⟩,?_⟩;rw[List.reverse_cons,oU,IW];exact⟨_,h2,by rw[(Jh k).2],by rw[F,<-J];exact e⟩
theorem Po(h:bs[k]?=some b):(bs.map (Bu X)).getD k EE=Bu X b:=by simp[h]
theorem BW.ch(G:BW m n bs X)(o:Fm (bs.map AL.l) p)(O:Rp->Nat)(hs:s.a<s.z)(f:∀x,s.a<=x->x<s.z->∃b∈bs,O (Bu X b)=i/\b.l<=x/\x<b.r)(w:∀b∈bs,O (Bu X b)=i->s.a<=b.l/\b.r<=s.z/\b.d<=y/\y<b.u):Ch (N7 bs) (N0 bs) s.a (p.filter λk=>decide (O ((bs.map (Bu X)).getD k EE)=i)) s.z:=by
 have pm:∀k,k∈p↔k<bs.length:=λk=>by rw[o.1.mem_iff,pW,kb]
 have mq:∀k,k∈p.filter (λk=>decide (O ((bs.map (Bu X)).getD k EE)=i))↔∃b,bs[k]?=some b/\O (Bu X b)=i:=λk=>by
  rw[rW,pm,tr];refine⟨λ⟨h1,h2⟩=>?_,λ⟨b,h1,h2⟩=>⟨(oh.mp h1).1,by rw[Po h1];exact h2⟩⟩;have J:=og h1;rw[Po J]at h2;exact⟨_,J,h2⟩
 refine Vx (by omega) ((o.1.nodup_iff.mpr xu).filter _) (o.2.filter _) (λk J=>?_) (λx h1 h2=>?_) λj hj k J x h1 h2 h3 h4=>?_
 ·obtain⟨b,F,e⟩:=(mq k).mp J;rw[(Gr F).1,(Gr F).2]
  have:=w b (oi F) e
  have:=G.np b (oi F)
  omega
 ·obtain⟨b,F,e,h3⟩:=f x h1 h2;obtain⟨k,J⟩:=qX F;exact⟨k,(mq k).mpr ⟨b,J,e⟩,by rw[(Gr J).1,(Gr J).2];exact h3⟩
 ·obtain⟨b,F,e⟩:=(mq j).mp hj;obtain⟨c,hc,e'⟩:=(mq k).mp J;rw[(Gr F).1]at h1;rw[(Gr F).2]at h2;rw[(Gr hc).1]at h3;rw[(Gr hc).2]at h4
  have:=w b (oi F) e
  have:=w c (oi hc) e'
  exact G.uq (x:=x) (y:=y) F hc (by omega) (by omega)
theorem BW.mj(G:BW m n bs X)(o:Fm (bs.map AL.l) p)(h:X[i]?=some s):∃c,E2 (pB m bs) c (EA (bs.map (Bu X)) p bs.length i) c:=by
 have sm:=oi h;have wd:=G.wd s sm;have rg:=G.rg s sm;have kp:∀(P:Nat->Bool),∀k∈p.filter P,k<bs.length:=λP k J=>by
  have:=o.1.mem_iff.mp (rW.mp J).1
  rwa [pW,kb]at this
 have A:∀b∈bs,(Bu X b).2.1=i->s.a<=b.l/\b.r<=s.z/\b.d<=s.v/\s.v<b.u/\b.u<=n:=λb F e=>by
  obtain⟨t,O,e1,h1⟩:=(G.ln F).2;rw[e,h]at O;cases O
  have:=G.np b F
  have:=G.cv.Bz b F
  lia
 have B:∀b∈bs,(Bu X b).1=i->s.a<=b.l/\b.r<=s.z/\b.d<=s.v-1/\s.v-1<b.u/\0<=b.d:=λb F e=>by
  obtain⟨t,O,e1,h1⟩:=(G.ln F).1;rw[e,h]at O;cases O
  have:=G.np b F
  have:=G.cv.Bz b F
  lia
 have no:∀(aa:Rp->Nat),(∀b∈bs,aa (Bu X b)≠i)->(p.filter λk=>decide (aa ((bs.map (Bu X)).getD k EE)=i))=[]:=λaa hn=>List.filter_eq_nil_iff.mpr λk J=>by
  have J:=o.1.mem_iff.mp J;rw[pW,kb]at J;rw[Po (og J),tr];exact hn _ (qd J)
 obtain⟨o1,o2⟩:=P0 (m:=m) (bs:=bs);have ca:=λz:s.v<n=>Pw (m:=m) (kp _) (G.ch (y:=s.v) o (λr=>r.2.1) wd (λx h1 h2=>(G.Nt h h1 h2).2 z) λb F e=>by have:=A b F e;lia)
 have cb:=λz:0<s.v=>Pw (m:=m) (kp _) (G.ch (y:=s.v-1) o (λr=>r.1) wd (λx h1 h2=>(G.Nt h h1 h2).1 z) λb F e=>by have:=B b F e;lia)
 unfold EA B8 Bn;have n0:=G.n0;by_cases i0:i=0
 ·subst i0;rw[G.x0]at h;cases h;rw[no (λr=>r.2.1) λb F e=>by have:=A b F e;dsimp only[Sd.v]at this;lia];refine⟨m,IW.mpr ⟨0,?_,?_⟩⟩
  ·exact⟨by rw[(Jh _).1];exact o2,o1⟩
  ·rw[oC ∅,qS];exact(cb n0).1
 by_cases i1:i=1
 ·subst i1;rw[G.x1]at h;cases h;rw[no (λr=>r.1) λb F e=>by have:=B b F e;dsimp only[Sd.v]at this;lia];refine⟨m,IW.mpr ⟨0,?_,?_⟩⟩
  ·rw[oC ∅,qS];exact(ca n0).2
  ·exact⟨by rw[(Jh _).2];exact o1,o2⟩
 rw[oC i0,oC i1,qS,qS];have a0:=G.xa _ _ _ _ G.x0 h (qp i0);have a1:=G.xa _ _ _ _ G.x1 h (qp i1);unfold CG at a0 a1;dsimp only[Sd.v,Sd.a,Sd.z]at *;exact⟨_,IW.mpr ⟨_,(ca ()).2,(cb ()).1⟩⟩
theorem Hg:∀{rs:List Ap} {k:Nat} {r:Ap},rs[k]?=some r->(hm rs)[2*k]?=some r.1/\(hm rs)[2*k+1]?=some r.2.1
 |r0 :: rs,0,r,h=>by cases h;exact⟨G,G⟩
 |r0 :: rs,k+1,r,h=>Hg (rs:=rs) (k:=k) h
theorem Ni:∀rs:List Ap,(hm rs)[2*rs.length]?=some 0/\(hm rs)[2*rs.length+1]?=some 1
 |[]=>⟨G,G⟩
 |r :: rs=>Ni rs
theorem Se(o:p.Perm (oN rs.length)):x∈EA rs p rs.length i↔0<=x/\(hm rs)[x.toNat]?=some i:=by
 have gd:∀k,k<rs.length->rs[k]?=some (rs.getD k EE):=λk F=>by simp[F]
 unfold EA B8 Bn;simp only[oM,oI,acv,rW,o.mem_iff,pW,uE];obtain⟨O,J⟩:=Ni rs;constructor
 ·rintro((⟨k,⟨F,e⟩,rfl⟩|h)|⟨k,⟨F,e⟩,rfl⟩|h)
  ·rw[show(2*(k:Int)+1).toNat=2*k+1 by lia,(Hg (gd k F)).2,e];exact⟨(),G⟩
  ·split at h<;>simp at h
   rw[h,show(2*(rs.length:Int)).toNat=2*rs.length by lia,O];exact⟨(),by simp_all⟩
  ·rw[show(2*(k:Int)).toNat=2*k by lia,(Hg (gd k F)).1,e];exact⟨(),G⟩
  ·split at h<;>simp at h
   rw[h,show(2*(rs.length:Int)+1).toNat=2*rs.length+1 by lia,J];exact⟨(),by simp_all⟩
 ·rintro⟨x0,h⟩;have hl:=(oh.mp h).1;rw[NI]at hl;obtain⟨k,e|e⟩:∃k:Nat,x.toNat=2*k\/x.toNat=2*k+1:=⟨x.toNat / 2,()⟩
  all_goals rw[e]at h;rcases oW k rs.length with z|z
  ·rw[(Hg (gd k z)).1]at h;exact .inr (.inl ⟨k,⟨z,oV h⟩,()⟩)
  ·obtain rfl:k=rs.length:=()
   rw[O]at h;cases h;exact .inl (.inr (by simp;lia))
  ·rw[(Hg (gd k z)).2]at h;exact .inl (.inl ⟨k,⟨z,oV h⟩,()⟩)
  ·obtain rfl:k=rs.length:=()
   rw[J]at h;cases h;exact .inr (.inr (by simp;lia))
theorem dX(o:p.Perm (oN rs.length)):(EA rs p rs.length i).Nodup:=by
 have J:=o.nodup_iff.mpr xu;have lt:∀k∈p,k<rs.length:=λk F=>pW.mp (o.mem_iff.mp F)
 unfold EA B8 Bn;have a:((p.filter λk=>decide ((rs.getD k EE).2.1=i)).reverse.map λk:Nat=>2*(k:Int)+1).Nodup:=sO.mpr (List.pairwise_reverse.mpr ((J.filter _).imp λh e=>h ()));have b:((p.filter λk=>decide ((rs.getD k EE).1=i)).map λk:Nat=>2*(k:Int)).Nodup:=sO.mpr ((J.filter _).imp λh e=>h ());rw[qD,qD,qD];simp only[oM,oI,acv,rW];exists ⟨a,by split<;>simp,?_⟩,⟨b,by split<;>simp,?_⟩
 ·rintro _ ⟨k,F,rfl⟩ y hy
  have:=lt k F.1
  split at hy<;>simp at hy
  lia
 ·rintro _ ⟨k,F,rfl⟩ y hy
  have:=lt k F.1
  split at hy<;>simp at hy
  lia
 ·rintro x (⟨k,F,rfl⟩|hx) y (⟨j,O,rfl⟩|hy)
  ·lia
  ·have:=lt k F.1
   split at hy<;>simp at hy
   lia
  ·have:=lt j O.1
   split at hx<;>simp at hx
   lia
  ·split at hx<;>simp at hx
   split at hy<;>simp at hy
   lia
theorem OZ(t:List Int):(Cb t).Perm t:=by
 unfold Cb;exact List.perm_append_comm.trans (uR.of_eq (rF _ _))
theorem BW.io(G:BW m n bs X)(h:X[i]?=some s):(i≠0->s.v<n)/\(i≠1->0<s.v):=by
 have:=G.rg s (oi h)
 have:=G.wd s (oi h)
 refine⟨λz=>?_,λz=>?_⟩
 ·have F:=G.xa _ _ _ _ G.x0 h (qp z);unfold CG at F;dsimp only[Sd.v,Sd.a,Sd.z]at *;omega
 ·have F:=G.xa _ _ _ _ G.x1 h (qp z);unfold CG at F;dsimp only[Sd.v,Sd.a,Sd.z]at *;omega
theorem BW.KL(G:BW m n bs X)(F:b∈bs):(∃s∈X,Ez b.u b.l s=true)/\∃s∈X,Ez b.d b.l s=true:=by
 have:=G.np b F
 obtain⟨⟨t,J,e1,h1⟩,u,O,e2,h2⟩:=G.ln F;exact⟨⟨t,oi J,by simp[Ez,e1,h1];lia⟩,u,oi O,by simp[Ez,e2,h2];lia⟩
theorem BW.below(G:BW m n bs X)(h:i<X.length)(J:i≠1):∃b∈bs,(Bu X b).1=i:=by
 have e:=og h;obtain⟨b,F,h1,_⟩:=(G.Nt e (rO _) (G.wd _ (qd h))).1 ((G.io e).2 J);exact⟨b,F,h1⟩
theorem BW.Ho(G:BW m n bs X){S:Nat->Prop}(O:S 0)(h:∀r∈bs.map (Bu X),(S r.1↔S r.2.1)):∀(d i:Nat) (s:Sd),X[i]?=some s->n-s.v<d->S i
 |0,i,s,e,hd=>by have:=G.rg s (oi e);lia
 |d+1,i,s,e,hd=>by
  by_cases z:i=0
  ·rw[z];exact O
  obtain⟨b,F,h1,_⟩:=(G.Nt e (rO _) (G.wd _ (oi e))).2 ((G.io e).1 z);obtain⟨⟨t,ht,e1,_⟩,u,J,e2,_⟩:=G.ln F;rw[h1,e]at J;cases J
  have:=G.np b F
  rw[<-h1];exact(h _ (oI.mpr ⟨b,F,rfl⟩)).mp (G.Ho O h d _ t ht ())
theorem BW.nq(G:BW m n bs X):X.length<=bs.length+1:=by
 have:=Kz ((oN X.length).map λi:Nat=>(i:Int)) (1 :: bs.map λb=>((Bu X b).1:Int)) (sO.mpr (xu.imp λh e=>h (by omega))) λx J=>by
  obtain⟨i,hi,rfl⟩:=oI.mp J;by_cases z:i=1
  ·simp[z]
  ·obtain⟨b,F,e⟩:=G.below (pW.mp hi) z;exact pF _ (oI.mpr ⟨b,F,by rw[e]⟩)
 rw[kb,pC,pk,kb]at this;exact this
abbrev Bb(X:List Sd)(bs:List AL):List Ap:=bs.map (Bu X)
theorem BW.ne(G:BW m n bs X)(o:p.Perm (oN (Bb X bs).length)):∀t∈Cp X.length (Bb X bs) p,t≠[]:=λt F=>by
 obtain⟨i,hi,rfl⟩:=oI.mp F;obtain⟨x,hx⟩:∃x:Int,0<=x/\(hm (Bb X bs))[x.toNat]?=some i:=by
  by_cases z:i=1
  ·exact⟨((2*(Bb X bs).length+1:Nat):Int),(),by rw[z];exact(Ni _).2⟩
  ·obtain⟨b,J,e⟩:=G.below (pW.mp hi) z;obtain⟨k,O⟩:=qX J;exact⟨((2*k:Nat):Int),(),by rw[<-e];exact(Hg (by simp[O])).1⟩
 exact abx ((Se o).mpr hx)
theorem BW.lt(G:BW m n bs X):∀r∈Bb X bs,r.1<X.length/\r.2.1<X.length:=λr hr=>by
 obtain⟨b,J,rfl⟩:=oI.mp hr;obtain⟨⟨t,F,_⟩,u,O,_⟩:=G.ln J;exact⟨(oh.mp F).1,(oh.mp O).1⟩
theorem BW.nU(G:BW m n bs X)(o:Fm (bs.map AL.l) p)(ae:bs.length<=14)(ez:∀b∈bs,Pk (((b.r-b.l:Int):Rat) / ((b.u-b.d:Int):Rat))):Fq X.length (Bb X bs) ((Cp X.length (Bb X bs) p).map Cb)/\∀x,Au (2*bs.length+2) x->pB m bs (Ar ((Cp X.length (Bb X bs) p).map Cb) x)=pB m bs x:=by
 have lr:(Bb X bs).length=bs.length:=kb ..;have o1:p.Perm (oN (Bb X bs).length):=by rw[lr];have:=o.1;rwa [kb]at this
 have ta:∀{i:Nat} {t:List Int},((Cp X.length (Bb X bs) p).map Cb)[i]?=some t->i<X.length/\t=Cb (EA (Bb X bs) p (Bb X bs).length i):=λ{i t} h=>by
  unfold Cp at h;rw[rC,om]at h;obtain⟨j,hj,rfl⟩:=qe.mp h;obtain⟨h1,h2⟩:=oh.mp hj;rw[pC]at h1;rw[yy]at h2;subst h2;exact⟨h1,rfl⟩
 have tm:∀{i:Nat} {t:List Int},((Cp X.length (Bb X bs) p).map Cb)[i]?=some t->∀x,x∈t↔0<=x/\(hm (Bb X bs))[x.toNat]?=some i:=λh x=>by rw[(ta h).2,(OZ _).mem_iff,Se o1]
 have ad:∀i,i<X.length->((Cp X.length (Bb X bs) p).map Cb)[i]?=some (Cb (EA (Bb X bs) p (Bb X bs).length i)):=λi hi=>by simp[Cp,hi]
 have aa:((Cp X.length (Bb X bs) p).map Cb).length=X.length:=by simp[Cp]
 have lt:=G.lt;have ab:2<=X.length:=(oh.mp G.x1).1;have bl:1<=bs.length:=by
  obtain⟨b,hb,_⟩:=G.cv.Lj 0 0 () G.m0 () G.n0;exact sL hb
 have ne:=G.ne o1;have ac:∀e q,(hm (Bb X bs))[e]?=some q->q<X.length:=λe q h=>by
  have:=oi h
  unfold hm E1 at this;simp only[oM,v8,oG,o3,qN]at this;rcases this with ⟨r,O,rfl|rfl⟩|rfl|rfl
  ·exact(lt r O).1
  ·exact(lt r O).2
  ·lia
  ·lia
 have tn:DF (2*(Bb X bs).length+2) ((Cp X.length (Bb X bs) p).map Cb):=by
  refine⟨aaE.mpr ⟨λt J=>?_,qg.mpr λi j hi hj ij x h1 y h2 q=>?_⟩,λe=>?_,()⟩
  ·obtain⟨u,hu,rfl⟩:=oI.mp J;obtain⟨i,hi,rfl⟩:=oI.mp hu;exact(OZ _).nodup_iff.mpr (dX o1)
  ·subst q;have e1:=((tm (og hi) x).mp h1).2;rw[((tm (og hj) x).mp h2).2]at e1;cases e1
   lia
  ·rw[pV];constructor
   ·rintro⟨t,J,F⟩;obtain⟨i,hi⟩:=qX J;obtain⟨h0,h1⟩:=(tm hi e).mp F
    have:=(oh.mp h1).1
    rw[NI]at this;exact⟨h0,()⟩
   ·rintro⟨h0,h1⟩;have hl:e.toNat<(hm (Bb X bs)).length:=by rw[NI];lia
    have hq:=og hl;have a:=ad _ (ac _ _ hq);exact⟨_,oi a,(tm a e).mpr ⟨h0,hq⟩⟩
 refine⟨⟨(),(),ab,by have:=G.nq;lia,aa,tn,λt J=>?_,λr O=>⟨?_,lt r O⟩,λq t h x F=>((tm h x).mp F).2,λS h0 hS q hq=>?_⟩,λx F=>?_⟩
 ·obtain⟨u,hu,rfl⟩:=oI.mp J;exact λz=>ne u hu (List.nil_perm.mp (z ▸ OZ u))
 ·obtain⟨b,hb,rfl⟩:=oI.mp O;exact ez b hb
 ·have e:=og hq;exact G.Ho h0 hS ((n-X[q].v).toNat+1) q _ e ()
 ·rw[PR];have F:=K8 () F;rw[<-lr]at F
  have:=jF tn.nd ((tn.mem _).mpr F)
  unfold B6 at this;obtain⟨r,O,hm⟩:=pV.mp this;obtain⟨t,J,rfl⟩:=oI.mp O;obtain⟨i,hi⟩:=qX J;obtain⟨i1,rfl⟩:=ta hi;obtain⟨c,hc⟩:=G.mj o (og i1);rw[<-lr]at hc;obtain⟨d,hd⟩:=dJ hc _
  have:=gA hd _ hm
  rw[Ky]at this;exact this
theorem M3{S:Int->Prop}:∀{t:List Int} {z:Int},(∀e∈cp z t,(S e.1↔S e.2))->∀x∈t,(S x↔S z)
 |y :: t,z,h,x,hx=>by
  have h1:S y↔S z:=h (y,z) (by simp[cp]);rcases oG.mp hx with rfl|hx
  ·exact h1
  ·exact(M3 (λe F=>h e (by simp[cp,F])) x hx).trans h1
theorem gF{S:Int->Prop}(nd:t.Nodup)(h:∀e∈CL t,e.1≠o->(S e.1↔S e.2)):∀x∈t,∀y∈t,S x->S y:=by
 rw[T6]at h;have aa:∀{z:Int} {l:List Int} {e:Int×Int},e∈cp z l->e.1∈l:=λ{z l e} F=>by
  have:=vm (f:=(·.1)) F
  rwa [VC]at this
 by_cases z:o∈t
 ·obtain⟨A,B,rfl⟩:=vF z;rw[Uo]at h;obtain⟨_,n2,n3⟩:=qD.mp nd;have oB:=(qt.mp n2).1;have b:=M3 (z:=o) (t:=B) (S:=S) λe F=>h e (by simp[cp,F]) λy=>oB (y ▸ aa F)
  have zl:S ((A++o :: B).getLastD 0)↔S o:=by
   rw[show(A++o :: B).getLastD 0=(o :: B).getLast #v[] by rw[yX,aaV,List.getLast?_eq_some_getLast (aco o B)];rfl];rcases oG.mp (List.getLast_mem (aco o B))with y|y
   ·rw[y]
   ·exact b _ y
  have a:=M3 (z:=(A++o :: B).getLastD 0) (t:=A) (S:=S) λe F=>h e (uK _ F) λy=>n3 e.1 (aa F) o #v[] y
  have J:∀x∈A++o :: B,(S x↔S o):=λx hx=>by
   rcases oM.mp hx with hx|hx
   ·exact(a x hx).trans zl
   ·rcases oG.mp hx with rfl|hx
    ·exact Iff.rfl
    ·exact b x hx
  exact λx hx y O hs=>(J y O).mpr ((J x hx).mp hs)
 ·have J:=M3 (S:=S) λe F=>h e F λy=>z (y ▸ aa F)
  exact λx hx y O hs=>(J y O).mpr ((J x hx).mp hs)
theorem Fq.kx{n:Nat}(k:Fq n rs ts):Vy ts rs.length:=λS h1 h2 h0=>by
 have mt:∀x,Au (2*rs.length+2) x->∃(i:Nat) (t:List Int),ts[i]?=some t/\x∈t/\(hm rs)[x.toNat]?=some i:=λx J=>by
  obtain⟨t,F,h⟩:=pV.mp ((k.tn.mem x).mpr J);obtain⟨i,hi⟩:=qX F;exact⟨i,t,hi,h,k.Nb i t hi x h⟩
 obtain⟨o1,o2⟩:=Ni rs;have al:∀(i:Nat) (t:List Int),ts[i]?=some t->∀x∈t,∀y∈t,S x->S y:=λi t F=>by
  have tm:=oi F;refine gF (o:=2*(rs.length:Int)+i) (UI k.tn.nd tm) λe he ne=>?_
  have em:e.1∈t:=by
   have:=vm (f:=(·.1)) he
   rwa [ME]at this
  have er:=(k.tn.mem e.1).mp (pV.mpr ⟨t,tm,em⟩);have hh:=k.Nb i t F e.1 em;have p:=Vw k.tn.nd (x:=e.1) (y:=e.2) (pV.mpr ⟨CL t,oI.mpr ⟨t,tm,G⟩,he⟩);have q:=h1 _ (K8 k.tn.Na er);rw[PR,Ky,p]at q;refine Iff.trans ?_ q;obtain⟨j,hj⟩:∃j:Nat,e.1=2*(j:Int)\/e.1=2*(j:Int)+1:=⟨(e.1 / 2).toNat,by have:=er.1;lia⟩;have jl:j<rs.length:=by
   have:=er.2
   refine Nat.lt_of_not_le λz=>ne ?_
   rcases hj with hj|hj
   ·rw[hj,show(2*(j:Int)).toNat=2*rs.length by lia,o1]at hh;cases hh;lia
   ·rw[hj,show(2*(j:Int)+1).toNat=2*rs.length+1 by lia,o2]at hh;cases hh;lia
  rcases hj with hj|hj
  ·rw[hj,(Jh j).1];exact h2 j jl
  ·rw[hj,(Jh j).2];exact(h2 j jl).symm
 have all:=k.Ho (λi=>∀t,ts[i]?=some t->∀x∈t,S x) (λt F x J=>by
  obtain⟨i,u,O,aa,e⟩:=mt (2*(rs.length:Int)) ⟨(),()⟩;rw[show(2*(rs.length:Int)).toNat=2*rs.length by lia,o1]at e;cases e;rw[F]at O;cases O;exact al 0 t F _ aa x J h0) λr hr=>by
  obtain⟨j,hj⟩:=qX hr;have jl:=(oh.mp hj).1;obtain⟨i,u,O,J,e⟩:=mt (2*(j:Int)) ⟨(),()⟩;obtain⟨i',u',ab,ac,e'⟩:=mt (2*(j:Int)+1) ⟨(),()⟩;rw[show(2*(j:Int)).toNat=2*j by lia,(Hg hj).1]at e;rw[show(2*(j:Int)+1).toNat=2*j+1 by lia,(Hg hj).2]at e';cases e;cases e'
  have:=h2 j jl
  refine⟨λh t F x aa=>?_,λh t F x aa=>?_⟩
  ·rw[ab]at F;cases F;exact al _ _ ab _ ac x aa (this.mp (h u O _ J))
  ·rw[O]at F;cases F;exact al _ _ O _ J x aa (this.mpr (h u' ab _ ac))
 intro x J;obtain⟨i,t,F,J,e⟩:=mt x J;have il:=(oh.mp F).1;rw[k.len]at il;exact all i il t F x J
open PySem.Spec PyProof.Rows
abbrev CN(rows:List (List Rat)):List (List Rat):=rows.filter λr=>!DA r
def WS(T1 T2:Addr)(H H':Hp):Prop:=∀b o,b≠T1->b≠T2->H b=some o->H' b=some o
def covD:rj:=.tuple [.str "covers"]
theorem Ot:covD.canLay0=true/\covD.depth<=64:=⟨by first|rfl|decide +kernel|(simp only[covD,yf,yS];decide),by first|decide|(simp[covD,wQ,zU])⟩
theorem Ue{p:Addr}(h:H p=some (.AF [.str "covers"])):D0 H (.ref p) covD:=by
 refine .AF h rfl λi x d F J=>?_
 match i,F,J with
 |0,F,J=>cases F;cases J;exact .str _
 |n+1,F,J=>simp at F
structure N3(W U:Rat)(rows:List (List Rat))(Z:Int):Prop where
 XJ:rows.length<=30
 LZ:∀r∈rows,r.length=4
 Z0:0<Z
 Z9:Z.natAbs<=2 ^ 3900
 sz:∀q∈nums W U rows,(q.den:Int) ∣ Z/\Sf q
 cv:∀B:Int,0<B->(∀q∈nums W U rows,(q.den:Int) ∣ B)->0<wh B W/\0<wh B U/\E8 (wh B W) (wh B U) (rows.map (Bq B))
theorem bP{q O:Str}(h:CQ H T q)(n:T2≠T)(b:Dh T H H')(h2:CQ H T2 O):CQ H' T2 O:=by
 obtain⟨L,t1,_⟩:=h;obtain⟨L2,e1,F⟩:=h2;refine⟨L2,b _ _ n e1,λc J=>b _ _ (λz=>?_) (F c J)⟩
 have:=F c J
 rw[z,t1]at this;cases this
theorem JZ{T b:Addr}{q:Str}(h:CQ H T q)(F:Dh T H H')(e:H b=some o)(n:∀z,o≠.CT z):H' b=some o:=by
 obtain⟨L,t1,_⟩:=h;exact F b o (λz=>by rw[z,t1]at e;exact n _ (oV e).symm) e
theorem FW.BO{a b:Addr}(h:FW H b r)(e:H a=some (.AE ys)):FW (BO H a) b r:=by
 obtain⟨q,h1,h2⟩:=h;refine⟨q,FA h1 (λz=>by rw[z,e]at h1;cases h1),?_⟩;exact FA h2 (λz=>by have h2:H q=_:=h2;rw[z,e]at h2;cases h2)
variable {P:pG}{w:World}{K:ow}{mg:Str->Option Value}{base:Heap}{f g h T1 T2:Addr}{fd gd hd:qU}
inductive Vp(vs:List V)(H:Hp)(Q:VK)(_:XK):Prop
 |mk (a:Addr) (W U:Rat) (rows:List (List Rat)) (Z:Int) (O:vs=[.ref a]) (J:FE H a W U rows) (F:N3 W U rows Z) (aa:∀H',AK H H'->Q .Ay H')
theorem WG:An ["floor","found"] ["floor"] (Ac s_check_covers):=Aw
theorem jv(F:Fun K "check_covers" "check_covers" s_check_covers f fd)(G:AX P w K mg base 4 "looked" ["floor"] WR):Ai P w K mg base Ae 5 f fd ["floor"] Vp:=by
 refine F.Ax WG λim A ac s H vs Q E hr h=>?_
 obtain⟨a,W,U,rows,Z,rfl,hF,k,q⟩:=h;exists _,AM (AU 1 WG (AS G (AA (pv 0) AD)))
  (AR (BU (BF (i7 hr.units) (pv 1) (BB (AA PQ AD))) Ee Bg))
 refine⟨_,rfl,a,W,U,rows,Z,rfl,hF,k.XJ,k.LZ,k.Z0,k.Z9,k.sz,k.cv,λp H1 O hp=>?_⟩;refine⟨_,rfl,by exact IL,λc aa=>?_⟩;refine BS aa (.AF [.str "covers"]) λH2 J ab=>?_
 exists covD,covD,Ue (J _ _ hp),Ue ab,Ot,Ot,_,rfl;rw[aaJ _ Ot.1];exact Br (q _ (O.trans J))
inductive Wv(T1 T2:Addr)(vs:List V)(H:Hp)(Q:VK)(_:XK):Prop
 |mk (a:Addr) (W U:Rat) (rows:List (List Rat)) (Z:Int) (ad:vs=[.ref a]) (ag:FE H a W U rows) (aa:N3 W U rows Z) (ae:N3 W U (CN rows) Z) (O:CQ H T1 NJ) (af:CQ H T2 J2) (J:T2≠T1) (ab:(CN rows).length<=14) (ac:∀B:Int,0<B->(∀q∈nums W U (CN rows),(q.den:Int) ∣ B)->∀b∈(CN rows).map (Bq B),b.l<b.r/\b.d<b.u)
  (ah:∀(B m n:Int) (bs:List AL) (X:List Sd) (p:List Nat) (t F ta:Addr) (H':Hp),0<B->(∀q∈nums W U (CN rows),(q.den:Int) ∣ B)->m=wh B W->n=wh B U->bs=(CN rows).map (Bq B)->BW m n bs X->Fm (bs.map AL.l) p->WS T1 T2 H H'->H' t=some (.AF [.int (X.length:Int),.ref F,.ref ta])->As GD H' F (Bb X bs)->As Dt H' ta ((Cp X.length (Bb X bs) p).map Cb)->Q (.ref t) H')
theorem J0:An ["floor","solid","whole","lines","ropes","lefts"] ["floor"] (Ac s_net_of):=Aw
theorem ku:(["rectangle","lines"]:List Str).Nodup:=by decide +kernel
theorem mi:(["rectangle"]:List Str).Nodup:=by decide +kernel
set_option maxHeartbeats 4000000 in
theorem kF (F:Fun K "net_of" "net_of" s_net_of f fd)(G1:AX P w K mg base 5 "check_covers" ["floor"] Vp)(G2:AX P w K mg base 2 "without_points" ["floor"] Wa)(G3:AX P w K mg base 1 "numbers_of" ["floor"] P8)
  (G4:AX P w K mg base 2 "common_bottom" ["row"] Pq)(G5:AX P w K mg base 2 "whole_floor" ["floor","bottom"] P7)(G6:AX P w K mg base 5 "level_sides" ["width","height","rectangles"] (WE T1))(G7:AX P w K mg base 1 "lines_of" ["sides"] WX)
  (G8:AX P w K mg base 1 "placed" ["lines"] Ws)(G9:AX P w K mg base 3 "rope_of" ["lines","rectangle"] QW)(G:AX P w K mg base 6 "turns_of" ["places","ropes","lefts"] (W3 T2))(ml:mg "len" = none)(mt:mg "tuple" = none):Ai P w K mg base Ae 7 f fd ["floor"] (Wv T1 T2):=by
 refine F.Ax J0 λim A bl s H vs Q E hr h=>?_
 obtain⟨a,W,U,rows,Z,rfl,hF,k,ks,ax,a2,nT,a3,np,q⟩:=h;exists _,AM (Dr (AS G1 (AA (pv 0) AD)))
  (AM (AU 1 J0 (AS G2 (AA (pv 0) AD)))
  (AM (BU (BF FF (C8 ml (pT (pv 1) AB)) AB) Ee Bg)
  (AM (AU 2 J0 (AS G5 (AA (pv 1) (AA (AS G4 (AA (AS G3 (AA (pv 1) AD)) AD)) AD))))
  (AM (AU 3 J0 (AS G8 (AA (AS G7 (AA (AS G6 (AA (pT (pv 2) AB) (AA (pT (pv 2) AB) (AA (pT (pv 2) AB) AD)))) AD)) AD)))
  (AM (AU 4 J0 (Lg mt (DN (Nc:=["rectangle","lines"]) (cap:=[(1,3)]) (g:=BH 0) (te:=DO QW [] E0 (A7 (Ag 1) (A7 (Ag 0) Ba))) rfl (DV (pT (pv 2) AB))
    CD
    (λ_ _ _ _ _=>Bj (i:=0) ku rfl (qL rfl)) (λ_ _ _ _ _=>AS G9 (AA (pv 1) (AA (pv 0) AD))))))
  (AM (Ga (i:=5) J0.nd rfl (qL rfl) (Nc:=["rectangle"]) (cap:=[]) (g:=BH 0) (te:=BK (Er []) (Ag 0) (tC (.int 0))) rfl (DV (pT (pv 2) AB)) CD (λ_ _ _ _ _=>Bj (i:=0) mi rfl (qL rfl)) (λ_ _ _ _ _=>pL (pv 0) AB))
  (AR (Al (BB (AA (C8 ml (pv 3)) (AA (pv 4) (AA (AS G (AA (C8 ml (pv 3)) (AA (pv 4) (AA (pv 5) AD)))) AD))))))))))))
 have bf:=k.XJ;refine⟨_,rfl,a,W,U,rows,Z,rfl,hF,k,λH1 s1=>?_⟩;refine⟨_,rfl,a,W,U,rows,rfl,Je s1 hF,(),k.LZ,λps H2 s2 am=>?_⟩;obtain⟨x1,x2,x3,e1,bi,bn,bc,e4,a1⟩:=id am;have lb:((bc.map V.ref).length:Int)=((CN rows).length:Int):=by rw[kb,a1.1]
 exists _,rfl,ps,_,_,_,rfl,rfl,AH.of e1,DW _ _ _,x3,_,rfl,.inr (AH.of e4),_,_,rfl,rfl,_,rfl;rw[lb];refine Be () ?_;refine⟨_,rfl,_,rfl,ps,W,U,CN rows,rfl,am,(),ks.LZ,λpn H3 s3 hN=>⟨pn,_,Z,rfl,hN,λy O=>(ks.sz y O).1,ks.Z0,ks.Z9,?_⟩⟩;obtain⟨B0,B1⟩:=Jp (nums W U (CN rows));have BZ:cb (nums W U (CN rows)) ∣ Z:=Mv _ ∅ (aab _) λy O=>(ks.sz y O).1
 have q:=q (cb (nums W U (CN rows)));generalize cb (nums W U (CN rows))=B at *;have Z0:=ks.Z0;have fb:∀y∈nums W U (CN rows),(B.fdiv y.den).natAbs<=2 ^ 3900:=λy O=>by
  rw[qw (B1 y O)];exact oO (uJ _ _) (oO (vA () (vP.mpr BZ)) ks.Z9)
 refine⟨ps,B,W,U,CN rows,rfl,Je s3 am,(),ks.LZ,λy O=>⟨(ks.sz y O).2.n,(ks.sz y O).2.d,DY (n:=3900) (fb y O) ∅⟩,λpw l H4 s4 hw hL=>?_⟩;have hB:=Uq ks.LZ hL;obtain⟨m0,n0,cv⟩:=ks.cv B B0 B1;have np:=np B B0 B1;have nB:(wh B U).natAbs<=2 ^ 8380:=by
  unfold wh;rw[pP,show 8380=4480+3900 from rfl,wz];exact wX (ks.sz U #v[]).2.1 (fb U #v[])
 have av:((CN rows).map (Bq B)).length<=14:=by rw[kb];exact a3
 obtain⟨m,em⟩:∃m,m=wh B W:=⟨_,rfl⟩;obtain⟨n,en⟩:∃n,n=wh B U:=⟨_,rfl⟩;obtain⟨bs,eb⟩:∃bs,bs=(CN rows).map (Bq B):=⟨_,rfl⟩;have q:=λX p t J ta H'=>q m n bs X p t J ta H' B0 B1 em en eb
 rw[<-em]at hw m0 cv;rw[<-en]at hw n0 cv nB;rw[<-eb]at hB cv av np;clear em en eb hL hN fb;have ab:=s1.trans (s2.trans (s3.trans s4));exists _,rfl,pw,_,_,_,rfl,rfl,AH.of hw,Eu _ _ _,_,rfl,pw,_,_,_,rfl,rfl,AH.of hw,C6 _ _ _,_,rfl,pw,_,_,_,rfl,rfl,AH.of hw,DW _ _ _;refine⟨m,n,l,bs,rfl,hB,av,EL ax ab,λD L H5 aa be hD pL rL=>?_⟩;obtain⟨o1,o2⟩:=ja cv np m0 n0 pL rL;have lL:L.length<=30:=by
  rw[pL.length_eq,Ce,oF,PH];show 2+_<=_;lia
 have fl:=OV L [];rw[rV]at fl;refine⟨D,L,rfl,hD,(),λl1 H6 s6 aw=>?_⟩;refine⟨l1,_,rfl,aw,o1,(),λl2 H7 s7 ap=>?_⟩;have lX:(IK (L.foldl DI [])).length=(L.foldl DI []).length:=eJ o1;generalize IK (L.foldl DI [])=X at *;have t1:=EL ax ab;have ar:=s7 _ _ (s6 _ _ (JZ t1 aa hw (λz y=>by cases y)));obtain⟨cs,hl,hC⟩:=hB;have ae:=s7 _ _ (s6 _ _ (JZ t1 aa hl (λz y=>by cases y)));have ak:At Dk H7 cs bs:=⟨hC.1,λi b x e1 e2=>s7 _ _ (s6 _ _ (JZ t1 aa (hC.2 i b x e1 e2) (λz y=>by cases y)))⟩;have b7:∀b o,b≠T1->H b=some o->H7 b=some o:=λb o n e=>s7 _ _ (s6 _ _ (aa b o n (ab _ _ e)))
 have aq:CQ H7 T2 J2:=EL (bP t1 nT aa (EL a2 ab)) (s6.trans s7);clear hw hl hC hD aw t1 be aa ab;have lc:cs.length=bs.length:=ak.1;have lr:(bs.map (Bu X)).length=bs.length:=kb _;refine⟨_,rfl,pw,_,_,_,rfl,rfl,AH.of ar,DW _ _ _,l,rfl,⟨_,AJ.of ae⟩,λag a0=>?_⟩;refine CP (Fc ae) (by rw[kb];lia) a0 (λi ys σ hp=>∃ds:List Addr,ys=ds.map V.ref/\At FW hp ds ((bs.map (Bu X)).take i)/\∃u,σ=[u,some (.ref l2)]) ⟨[],rfl,At.nil,none,rfl⟩ ?_ ?_
 ·rintro i ys σ H8 x H9 hi sm al ⟨ds,rfl,hD,u,rfl⟩ ⟨rfl,hx⟩ Cc ai;obtain⟨cb,b,rfl,_,hb,ad⟩:=ak.ref hx;have bm:=oi hb;refine⟨_,rfl,_,rfl,l2,cb,X,b,rfl,Ij (R:=B4) (λs h=>Gs s h) sm ap,sm _ _ ad,(o2.KL bm).1,(o2.KL bm).2,(np b bm).2,DY (n:=8380) (by have:=cv.Bz b bm;have:=np b bm;lia) ∅,λt H9 s9 ht=>?_⟩;refine ai _ _ _ s9 ⟨ds++[t],#v[],?_,_,rfl⟩;have ec:(bs.map (Bu X))[i]?=some (Bu X b):=by rw[om,hb];rfl
  rw[Bc ec];exact(hD.keep J3 (Df ag s9)).snoc (ht.BO (s9 _ _ al))
 rintro ys σ H8 s8 al bh ⟨ds,rfl,hD,u,rfl⟩;rw[kb,lc,oQ ()]at hD;refine⟨ag,_,rfl,.inl ⟨AJ.of al,λJ bd=>?_⟩⟩;have s9:=AW bd (.AF (ds.map V.ref));have ah:As FW (AG H8 J (.AF (ds.map V.ref))) J (bs.map (Bu X)):=⟨ds,AQ,(hD.keep J3 (DC H8 ag)).keep J3 s9⟩;generalize AG H8 J (.AF (ds.map V.ref))=H9 at s9 ah;have ac:=s8.trans s9;refine⟨_,rfl,pw,_,_,_,rfl,rfl,AH.of (ac _ _ ar),DW _ _ _,l,rfl,⟨_,AJ.of (ac _ _ ae)⟩,λla a9=>?_⟩;refine CP (Fc (ac _ _ ae)) (by rw[kb];lia) a9 (λi ys σ hp=>ys=((bs.map AL.l).take i).map V.int/\∃u,σ=[u]) ⟨rfl,none,rfl⟩ ?_ ?_
 ·rintro i ys σ Ha x Hb hi sm bj ⟨rfl,u,rfl⟩ ⟨rfl,hx⟩ Cc ai;obtain⟨cb,b,rfl,_,hb,ad⟩:=ak.ref hx;have ad:H7 cb=_:=ad;refine⟨_,rfl,cb,_,_,_,rfl,rfl,AJ.of (sm _ _ (ac _ _ ad)),GQ,ai _ _ _ (AK.refl _) ⟨?_,_,rfl⟩⟩;rw[Bc (show(bs.map AL.l)[i]?=some b.l by rw[om,hb];rfl),oU];rfl
 rintro ys σ Ha sa ao bg ⟨rfl,u,rfl⟩;rw[kb,lc,oQ (by rw[kb];lia)]at ao;have af:=ac.trans sa;obtain⟨es,au,a8⟩:=Ij (R:=B4) (λs h=>Gs s h) af ap;have a4:((es.map V.ref).length:Int)=(X.length:Int):=by rw[kb,a8.1]
 exists _,rfl,l2,_,rfl,.inl (AJ.of au),_,rfl,_,rfl,l2,_,rfl,.inl (AJ.of au),_,rfl,_,rfl;rw[a4];refine⟨X.length,J,la,bs.map (Bu X),bs.map AL.l,rfl,Cq (R:=FW) (λs h=>J3 s h) sa ah,ao,by rw[kb,kb],(),(),(),o2.lt,λp op=>o2.ne (by have:=op.1;rwa [kb]at this ⊢),EL aq af,λta p Hb bb tb op a6=>?_⟩;refine⟨by exact Dd,λt ht=>?_⟩;have sb:=AW ht (.AF [.int (X.length:Int),.ref J,.ref ta]);have aj:=EL aq af;obtain⟨az,a5,ay⟩:=Cq (R:=FW) (λs h=>J3 s h) sa ah;have a7:As FW Hb J (bs.map (Bu X)):=⟨az,JZ aj bb a5 (λz y=>by cases y),ay.1,λi b x e1 e2=>by
  obtain⟨qf,g1,g2⟩:=ay.2 i b x e1 e2;exact⟨qf,JZ aj bb g1 (λz y=>by cases y),JZ aj bb g2 (λz y=>by cases y)⟩⟩
 exact q X p t J ta _ o2 op (λb o n1 n2 e=>sb _ _ (bb b o n2 (af _ _ (b7 b o n1 e)))) AQ (Cq (R:=FW) (λs h=>J3 s h) sb a7) (Cq (R:=Dt) (λs h=>IU s h) sb a6)
end
end My
namespace My
open PySem L2 Mth Wd
section
variable {P:pG}{w:World}{K:ow}{mg:Str->Option Value}{base:Heap}{f g h f1 f2:Addr}{fd gd hd d1 d2:qU}
inductive Jy(vs:List V)(H:Hp)(Q:VK)(_:XK):Prop
 |mk (t b:Int) (O:vs=[.int t,.int b]) (J:0<b) (F:BJ b) (aa:P6 H Q ((t:Rat) / (b:Rat)))
theorem Nj:An ["_law_top","_law_bottom","_law_one","_law_other"] ["_law_top","_law_bottom"] (Ac sLow):=Aw
theorem ju(a:Int):(if a<0 then -a else a)=(a.natAbs:Int):=by split<;>lia
theorem aX(F:0<y):qJ y (x%y)=qJ x y:=by
 have:=Rz x y
 rwa [yJ x (wJ F)]at this
theorem iS(F:Fun K "_law_low" "_law_low" sLow f fd)(ma:mg "abs" = none):Ai P w K mg base Ae 1 f fd ["_law_top","_law_bottom"] Jy:=by
 refine F.Ax Nj λim A aa s H vs Q E hr h=>?_
 obtain⟨t,b,rfl,hb,bb,q⟩:=h;exists _,AM (AU 2 Nj (CA R5 (by rfl) ma iE (AA (pv 0) AD)))
  (AM (AU 3 Nj (pv 1))
  (AM (Kn oX (BF GF (pv 3) AB) (AR (iU (i:=2) (j:=3) rfl Nj.nd rfl rfl ∅ rfl rfl (AA (pv 3) (AA (AN Bw (pv 2) (pv 3)) AD)) rfl)))
  (AR (Al (BB (AA (AN Gd (pv 0) (pv 2)) (AA (AN Gd (pv 1) (pv 2)) AD)))))))
 exists _,G,t,G,_,rfl;rw[ju];refine Kt (λσ H2=>∃x y,σ=[some (.int t),some (.int b),some (.int x),some (.int y)]/\H2=H/\0<=x/\0<=y/\qJ x y=qJ t b) (λσ _=>match σ with | [_,_,_,some (.int y)]=>y.natAbs|_=>0) ⟨_,_,G,G,(),(),by unfold qJ;simp⟩ ?_ ?_
 ·rintro σ H2 ⟨x,y,rfl,rfl,x0,y0,gg⟩;exists _,G,G,_,rfl;by_cases hy:y=0
  ·refine Hd (iv hy) ?_;subst hy;have gx:x=(qJ t b:Int):=by
    have:=T7 gg
    rw[oC ()]at this;exact this
   have pe:Mth.BN t b=x:=by unfold Mth.BN;rw[oC (),gx]
   have gp:0<qJ t b:=Mth.MY t b ();have hx:Ip t x:=⟨(),by rw[<-pe];exact rD (TY t b ()) bb⟩;have J:=F5 t b ();unfold BR at J;rw[pe]at J;have e1:=congrArg ye J;have e2:=congrArg aaZ J;simp only at e1 e2;exists _,G,_,G,_,_,G,G,hx,_,G,_,G,_,_,G,G,hx,by exact CI
   (try dsimp only)
   rw[e1,e2];exact q
  ·refine Ju (E7 hy) ?_;have O:0<y:=()
   have m0:=qK x (Int.ne_of_gt O);have m1:=qi x O;exists _,G,_,G,_,G,_,_,G,G,O,_,_,G,⟨y,x%y,G,G,y0,m0,(aX O).trans gg⟩;show(x%y).natAbs<y.natAbs
   lia
 ·rintro σ H2 Q1 Q2 hq ⟨v,e,sc,b,eb,z⟩;exact⟨v,e,sc,b,eb,hq _ _ z⟩
theorem nW(p q:Rat):0<(p.den:Int)*(q.den:Int):=by
 have F:=p.den_nz;have J:=q.den_nz;exact wt () ()
theorem kY(p q:Rat):(((p.num*q.num:Int)):Rat) / (((p.den:Int)*(q.den:Int):Int):Rat)=p*q:=by
 have h:=Us p q;rw[F5 _ _ (Kd p q)]at h;exact je h
theorem m9:An ["_law_one","_law_other"] ["_law_one","_law_other"] (Ac sLMul):=Aw
theorem eY(F:Fun K "_law_mul" "_law_mul" sLMul f fd)(G:AX P w K mg base 1 "_law_low" ["_law_top","_law_bottom"] Jy):
  Ai P w K mg base Ae 2 f fd ["_law_one","_law_other"] (C1 λx y=>x*y):=by
 refine F.ok m9 (λvs H Q E h=>?_) (λim A aa s H vs Q E hr h=>?_)
 ·obtain⟨p,q,x,y,rfl,_⟩:=h;rfl
 obtain⟨p,q,x,y,rfl,hp,hq,O,J,k⟩:=h;exists _,AR (Al (AS G (AA (AN DM (pT (pv 0) AB) (pT (pv 1) AB))
  (AA (AN DM (pT (pv 0) AB) (pT (pv 1) AB)) AD))))
 exists _,rfl,p,_,_,_,rfl,rfl,AH.of hp,BG,_,rfl,q,_,_,_,rfl,rfl,AH.of hq,BG,_,_,rfl,rfl,⟨O.n,J.n⟩,
  _,rfl,p,_,_,_,rfl,rfl,AH.of hp,Az,_,rfl,q,_,_,_,rfl,rfl,AH.of hq,Az,_,_,rfl,rfl,⟨O.d,J.d⟩,_,_,rfl,nW x y,Sf.dd O J
 rw[kY];exact k
inductive TB(vs:List V)(H:Hp)(Q:VK)(_:XK):Prop
 |mk (i:Int) (J:vs=[.int i]) (F:Q (.bl true) H)
theorem lR:An ["_law_found"] ["_law_found"] (Ac sWhole):=Aw
theorem aO(F:Fun K "_law_whole" "_law_whole" sWhole f fd)(J:mg "isinstance" = none)(O:mg "int" = none)(mb:mg "bool" = none):Ai P w K mg base Ae 1 f fd ["_law_found"] TB:=by
 refine F.Ax lR λim A aa s H vs Q E hr h=>?_
 obtain⟨i,rfl,q⟩:=h;exists _,AR (Al (NG (CA (Jd (c:=.ty "int") (cv:=.type "int") λ_ z=>z) (by rfl) J JS (AA (pv 0) (AA (Jl (v:=.ty "int") (by rfl) O iy rfl) AD)))
  (LA (i8 (CA (Jd (c:=.ty "bool") (cv:=.type "bool") λ_ z=>z) (by rfl) J JS (AA (pv 0) (AA (Jl (v:=.ty "bool") (by rfl) mb fC rfl) AD)))))))
 refine⟨_,G,_,_,_,G,DR.int i,Ks K _,_,G,FO ?_⟩;exact⟨_,G,_,_,_,G,DR.int i,Xm K,_,G,q⟩
inductive Ow(vs:List V)(H:Hp)(Q:VK)(_:XK):Prop
 |mk (p:Addr) (q:Rat) (O:vs=[.ref p]) (J:AO H p q) (F:BJ (q.den:Int)) (aa:∀H',AK H H'->Q (.bl true) H')
theorem l8:An ["_law_found"] ["_law_found"] (Ac sLFrac):=Aw
theorem aR(F : Fun K "_law_fraction" "_law_fraction" sLFrac f fd) (G : AX P w K mg base 1 "_law_low" ["_law_top", "_law_bottom"] Jy)
    (G2:AX P w K mg base 1 "_law_whole" ["_law_found"] TB) (ms:mg "isinstance" = none) (mt:mg "tuple" = none) (ml:mg "len" = none) :
    Ai P w K mg base Ae 2 f fd ["_law_found"] Ow:=by
  refine F.Ax l8 λim A aa s H vs Q E hr h => ?_
  obtain⟨p, q, rfl, J, bd, k⟩ := h;have hu : (A.deeper (x4 "_law_fraction" (Ac sLFrac) s.heap.objs.size f im)).units + 64 < cLine := hr.units;exists _, AM (BU (PW.pt (GH (Gi (Ei (CA (Jd (c := .ty "tuple") (cv := .type "tuple") λ_ z => z) (by rfl) ms JS (AA (pv 0) (AA (Jl (v := .ty "tuple") (by rfl) mt Dm rfl) AD)))))
        (GH (BF GF (C8 ml (pv 0)) AB)
        (GH (Gi (Ei (AS G2 (AA (pT (pv 0) AB) AD))))
        (Jo (Gi (Ei (AS G2 (AA (pT (pv 0) AB) AD))))))))) (AR (Al NM)) Bg)
    (AR (Al (NG (EH FF (pT (pv 0) AB) AB) (LA (EH (OD hu) (AS G (AA (pT (pv 0) AB) (AA (pT (pv 0) AB) AD))) (pv 0))))))
  have dp:(0:Int)<(q.den:Int):=by have:=q.den_nz;lia
  refine⟨_,rfl,_,_,_,rfl,DR.AF J,Ks K _,_,rfl,Br ?_⟩;refine⟨_,rfl,p,_,rfl,.inr (AH.of J),rfl,_,rfl,Br ?_⟩;refine⟨_,rfl,p,_,_,_,rfl,rfl,AH.of J,BG,_,rfl,_,rfl,Br ?_⟩;refine⟨_,rfl,p,_,_,_,rfl,rfl,AH.of J,Az,_,rfl,_,rfl,Br ?_⟩;refine⟨_,rfl,p,_,_,_,rfl,rfl,AH.of J,Az,_,_,rfl,rfl,_,rfl,By dp ?_⟩;exists _,rfl,p,_,_,_,rfl,rfl,AH.of J,BG,_,rfl,p,_,_,_,rfl,rfl,AH.of J,Az,q.num,q.den,rfl,dp,bd;rw[iD];intro t O;exists _,rfl,t,p,[q.num,q.den],[q.num,q.den],rfl,rfl,AQ,AW O _ _ _ J;rw[qC rfl];exact k _ (AW O _)
inductive OW(vs:List V)(H:Hp)(Q:VK)(_:XK):Prop
 |mk (p:Addr) (F:List Rat) (m:Int) (aa:vs=[.ref p,.int m]) (O:As AO H p F) (J:m=F.length) (ab:F.length<=1000) (ac:(∀q∈F,BJ (q.den:Int))) (ad:∀H',AK H H'->Q (.bl true) H')
theorem mU:An ["_law_found","_law_many"] ["_law_found","_law_many"] (Ac sLFracs):=Aw
theorem ka:(["_law_one"]:List Str).Nodup:=by decide +kernel
theorem Zg(F : Fun K "_law_fractions" "_law_fractions" sLFracs f fd) (G : AX P w K mg base 2 "_law_fraction" ["_law_found"] Ow) (ms : mg "isinstance" = none) (mt : mg "tuple" = none)
    (ml:mg "len" = none) (ma:mg "all" = none):Ai P w K mg base Ae 3 f fd ["_law_found","_law_many"] OW:=by
  refine F.Ax mU λim A ad s H vs Q E hr h => ?_
  obtain⟨p, qs, m, rfl, ⟨bs, J, hA⟩, rfl, hn, hb, q⟩ := h;exists _, AM (BU (PW.pt (GH (Gi (Ei (CA (Jd (c := .ty "tuple") (cv := .type "tuple") λ_ z => z) (by rfl) ms JS (AA (pv 0) (AA (Jl (v := .ty "tuple") (by rfl) mt Dm rfl) AD)))))
        (Jo (BF GF (C8 ml (pv 0)) (pv 1))))) (AR (Al NM)) Bg)
    (AR (Al (CA (RI rfl) (by rfl) ma UO (AA (DN (Nc := ["_law_one"]) (cap := []) (g := BH 0) (te := DO Ow [] E0 (A7 (Ag 0) Ba)) rfl (Ds (pv 0))
      CD (λ_ _ _ _ _=>Bj (i:=0) ka rfl (qL rfl)) (λ_ _ _ _ _=>AS G (AA (pv 0) AD))) AD))))
  refine⟨_,rfl,_,_,_,rfl,DR.AF J,Ks K _,_,rfl,Br ?_⟩;exists _,rfl,p,_,rfl,.inr (AH.of J),_,rfl,rfl,_,rfl;refine Hd (by rw[kb,hA.1]) ?_;refine⟨_,rfl,p,rfl,⟨_,AH.of J⟩,λaa ab => ?_⟩;refine CP (F7 J) (by rw[kb,hA.1];exact hn) ab (λi ys σ _=>ys=(oE i true).map V.bl /\ ∃u,σ=[u]) ⟨rfl,none,rfl⟩ ?_ ?_
  · rintro i ys σ H2 x H3 hi sm ae ⟨O,u,rfl⟩ ⟨rfl,hx⟩ Cc hC;obtain⟨c,y,rfl,_,hy,hB⟩:=hA.ref hx;refine⟨_,rfl,c,y,rfl,A9 sm hB,hb y (oi hy),λH4 s4=>hC _ _ _ s4 ⟨?_,_,rfl⟩⟩;rw[O,uN,oU];rfl
  · rintro ys σ H2 sm ac hl ⟨O,_⟩;refine⟨aa,oE (bs.map V.ref).length true,rfl,AJ.of (by rw[ac,O]),?_⟩;rw[show(oE (bs.map V.ref).length true).all id=true by simp];exact q H2 sm
theorem jV{t b:Int}(F:0<b)(h1:t.natAbs<=2 ^ n)(h2:b.natAbs<=2 ^ d):Sb n d ((t:Rat) / (b:Rat)):=NU () h1 h2 (F5 t b ())
theorem bN{t b:Int}(O:0<t)(ab:t<1000)(hb:0<b)(aa:b<1000):Pk ((t:Rat) / (b:Rat)):=by
 have e:=F5 t b ();have F:=ZF t b ();have J:=ZH t b ();have c:=Q9 t b;have d:=SE t b ();rw[e]at F J c d;dsimp only at F J c d;generalize ((t:Rat) / (b:Rat))=q at F J c d;have n0:0<q.num:=by
  rcases xG 0 q.num with h|h
  ·exact h
  ·have h1:0<t*(q.den:Int):=wt O d;have h2:q.num*b<=0:=xb h ()
   lia
 exact⟨n0,(),()⟩
inductive Mz(K:ow)(vs:List V)(H:Hp)(Q:VK)(_:XK):Prop
 |mk (a:Addr) (ns:List Int) (k:Int) (O:vs=[.ref a,.int k]) (J:Qi K H a ns) (F:0<=k) (aa:k<1000000) (ab:∀z,Q (.int z) H)
theorem Lc:An ["_law_script","_law_k","_law_cell_here","_law_first","_law_second"] ["_law_script","_law_k"] (Ac sCellAt):=Aw
theorem dM(F:Fun K "_law_cell" "_law_cell" sCellAt f fd)(ml:mg "len" = none):Ai P w K mg base Ae 1 f fd ["_law_script","_law_k"] (Mz K):=by
 refine F.Ax Lc λim A ag s H vs Q E hr h=>?_
 obtain⟨a,ns,k,rfl,⟨J,hl⟩,h0,af,q⟩:=h;exists _,AM (BU (PW.pt (Ek (BF FF (LX K ml (pv 0)) AB) (HU (BF Dv (AN Bw (Io (Np (K:=K)) (pv 0) AB (λ_ _=>rfl)) AB) AB))))
   (AM (BU (BF Dv (pv 1) AB) (AR (Al (AN EM (Io (Np (K:=K)) (pv 0) AB (λ_ _=>rfl)) AB))) Bg)
    (AM (BU (BF Gq (pv 1) (LX K ml (pv 0))) (AR (Al (Io (Np (K:=K)) (pv 0) (pv 1) (λ_ _=>rfl)))) Bg)
     (AR (Al AB)))) Bg)
  (AM (AU 2 Lc AB)
  (AM (BU (BF FF (LX K ml (pv 0)) AB)
   (AR (AU 2 Lc (AN Bw (Io (Np (K:=K)) (pv 0) (AN Bw (pv 1) (LX K ml (pv 0))) (λ_ _=>rfl)) (AN i5 AB AB)))) Bg)
  (AM (AU 3 Lc (AN Bw (AN DU (AN BM (AN BM (AN BM (pv 2) (AN DU (AN DU AB (pv 1)) (pv 1))) (AN DU AB (pv 1))) AB) AB) AB))
  (AM (AU 4 Lc (AN Bw (AN BM (AN DU (pv 3) (pv 3)) (pv 1)) AB))
  (AR (Al (AN Bw (AN BM (AN DU (pv 4) AB) (pv 3)) AB)))))))
 have c7:Gz 7 k:=.inl ⟨∅,∅⟩;have ac:Gz 13 k:=.inl ⟨∅,∅⟩;have ck:∀y:Int,Gz y k:=λ_=>.inr ⟨(),()⟩
 have cf:∀z y:Int,Gz z (y%2147483647):=λ_ y=>.inr ⟨by have:=qK y (b:=2147483647) ∅;lia,by have:=qi y (b:=2147483647) ∅;lia⟩
 have ab:∀{u:Int} {r:List Int},ns=u :: r->BY (ns.map V.int) 0=some (.int u):=λ{u r} e=>(BE (by rw[e];rfl):BY (ns.map V.int) ((0:Nat):Int)=some (V.int u))
 have ad:∀{j:Int},0<=j->j<(ns.length:Int)->∃u,BY (ns.map V.int) j=some (.int u):=λ{j} h1 h2=>by
  have hj:j.toNat<ns.length:=()
  have e:BY (ns.map V.int) ((j.toNat:Nat):Int)=some (.int ns[j.toNat]):=BE (by rw[om,og hj];rfl);rw[show((j.toNat:Nat):Int)=j by lia]at e;exact⟨_,e⟩
 have aa:(((ns.map V.int).length:Nat):Int)=(ns.length:Int):=by rw[kb]
 by_cases O:(0:Int)<(((ns.map V.int).length:Nat):Int)
 ·rw[aa] at O;obtain⟨u,r,e⟩:∃u r,ns=u :: r:=by
   cases ns with
   |nil=>exact absurd O ∅
   |cons u r=>exact⟨u,r,G⟩
  by_cases ho:V.int (u%2)=V.int 1
  ·refine⟨_,G,a,_,G,.inl J,_,_,G,G,_,G,By (by rw[aa];exact O) ⟨_,G,a,_,_,_,G,G,J,ab e,_,_,G,G,(show(0:Int)<2 by decide),G,_,G,By ho ?_⟩⟩;exists _,G,G,_,rfl;by_cases ae:V.int k=V.int 0
   ·exact By ae ⟨_,G,a,_,_,_,G,G,J,ab e,_,_,G,G,⟨∅,∅⟩,q _⟩
   ·refine Be ae ⟨_,G,_,G,a,_,G,.inl J,_,_,G,G,_,G,?_⟩;by_cases hk:k<(((ns.map V.int).length:Nat):Int)
    ·obtain⟨u,e⟩:=ad h0 (by rw[aa]at hk;exact hk);exact By hk ⟨_,G,_,G,a,_,_,_,G,G,J,e,q _⟩
    ·exact Be hk (q _)
  ·obtain⟨u2,e2⟩:=ad (j:=k % (ns.length:Int)) (qK _ (by lia  )) (qi _ (by lia  ));refine⟨_,G,a,_,G,.inl J,_,_,G,G,_,G,By (by rw[aa]; exact O) ⟨_,G,a,_,_,_,G,G,J,ab e,_,_,G,G,(show(0:Int)<2 by decide),G,_,G,Be ho ?_⟩⟩;refine⟨_,G,a,_,G,.inl J,_,_,G,G,_,G,By (by rw[aa]; exact O) ?_⟩;refine⟨_,G,_,G,_,G,a,_,G,.inl J,_,_,G,G,(by rw[aa]; exact O),a,_,_,_,G,G,J,(by rw[aa]; exact e2),_,_,G,G,⟨∅,∅,∅⟩,_,_,G,G,(show(0:Int)<10 ^ ((18:Int).toNat) by decide),?_⟩;exact⟨_,G,_,G,_,_,G,G,c7,_,G,_,_,G,G,ck _,_,_,G,G,_,G,_,_,G,G,ac,_,_,G,G,_,_,G,G,_,_,G,G,.inr ⟨∅,∅⟩,_,_,G,G,(show(0:Int)<2147483647 by decide),
    _,G,_,G,_,_,G,G,cf _ _,_,G,_,_,G,G,_,_,G,G,(show(0:Int)<1000000007 by decide),_,G,_,_,G,G,.inr ⟨∅,∅⟩,_,G,_,_,G,G,_,_,G,G,(show(0:Int)<2147483629 by decide),q _⟩
 ·refine⟨_,G,a,_,G,.inl J,_,_,G,G,_,G,Be O (Br ?_)⟩;refine⟨_,G,a,_,G,.inl J,_,_,G,G,_,G,Be O ?_⟩;exact⟨_,G,_,G,_,_,G,G,c7,_,G,_,_,G,G,ck _,_,_,G,G,_,G,_,_,G,G,ac,_,_,G,G,_,_,G,G,_,_,G,G,.inr ⟨∅,∅⟩,_,_,G,G,(show(0:Int)<2147483647 by decide),
    _,G,_,G,_,_,G,G,cf _ _,_,G,_,_,G,G,_,_,G,G,(show(0:Int)<1000000007 by decide),_,G,_,_,G,G,.inr ⟨∅,∅⟩,_,G,_,_,G,G,_,_,G,G,(show(0:Int)<2147483629 by decide),q _⟩
open Fl
abbrev tB(b:AL):Prop:=b.l<b.r/\b.d<b.u
def BQ(H:Hp)(p:Addr)(b:AL):Prop:=H p=some (.AF [.int b.l,.int b.d,.int b.r,.int b.u])
theorem Fg:Mo BQ:=λs h=>s _ _ h
@[elab_as_elim] theorem KO {C:Hp->Prop}{H:Hp}{p:Addr}(h:H p=none)(a b c d:Int)(q:∀H',AK H H'->BQ H' p (a,b,c,d)->C H'):C (AG H p (.AF [.int a,.int b,.int c,.int d])):=@BS C H p h _ q
theorem Of(F:H p=none)(a b c d:Int):∃H',AG H p (.AF [.int a,.int b,.int c,.int d])=H'/\AK H H'/\BQ H' p (a,b,c,d):=⟨_,G,AW F _,AQ⟩
theorem LO(s:AK H H')(h:BC BQ H a bs):BC BQ H' a bs:=Ij (R:=BQ) (λs h=>Fg s h) s h
theorem Parts.swap(h:Parts b [p,q]):Parts b [q,p]:=by
 have pm:[q,p].Perm [p,q]:=ac5 _ _ _;exact⟨λx F=>h.ok x (pm.subset F),λx F=>h.Bz x (pm.subset F),λx y=>by rw[pm.countP_eq];exact h.Aj x y⟩
variable {f3:Addr}{d3:qU}
theorem Ur{Q : VK}(q : ∀l ps H', AK H H' → BC BQ H' l ps → Parts b ps → ps.length = 2 → Q (.ref l) H'){F b1 J d1 O b2 c2 d2 : Int}(pt : Parts b [(F, b1, J, d1), (O, b2, c2, d2)]): ∀p, H p = none → ∀p2, (AG H p (.AF [.int F, .int b1, .int J, .int d1])) p2 = none → ∀p3, (AG (AG H p (.AF [.int F, .int b1, .int J, .int d1])) p2 (.AF [.int O, .int b2, .int c2, .int d2])) p3 = none →
      Q (.ref p3) (AG (AG (AG H p (.AF [.int F,.int b1,.int J,.int d1])) p2 (.AF [.int O,.int b2,.int c2,.int d2])) p3 (.AE [.ref p,.ref p2])):=by
  intro p hp p2 ab p3 aa;obtain⟨H1,e1,s1,g1⟩:=Of hp F b1 J d1;rw[e1]at ab aa ⊢;obtain⟨H2,e2,s2,g2⟩:=Of ab O b2 c2 d2;rw[e2]at aa ⊢;have s3:=AW aa (.AE [.ref p,.ref p2]);exact q p3 [(F,b1,J,d1),(O,b2,c2,d2)] _ (s1.trans (s2.trans s3)) ⟨[p,p2],AQ,(At.nil.snoc (R:=BQ) (b:=p) (x:=(F,b1,J,d1)) ((s2.trans s3) _ _ g1)).snoc (b:=p2) (x:=(O,b2,c2,d2)) (s3 _ _ g2)⟩ pt rfl
inductive NS(D:AL->Prop)(vs:List V)(H:Hp)(Q:VK)(_:XK):Prop
 |mk (p:Addr) (b:AL) (c:Int) (O:vs=[.ref p,.int c]) (J:BQ H p b) (F:tB b) (aa:D b) (ab:∀l ps H',AK H H'->BC BQ H' l ps->Parts b ps->ps.length=2->Q (.ref l) H')
theorem J8:An ["_law_box","_law_cell_here","_law_left","_law_low_here","_law_right","_law_high","_law_place"] ["_law_box","_law_cell_here"] (Ac s_law_across):=Aw
theorem J5:An ["_law_box","_law_cell_here","_law_left","_law_low_here","_law_right","_law_high","_law_place"] ["_law_box","_law_cell_here"] (Ac s_law_down):=Aw
set_option maxHeartbeats 4000000 in
theorem Yl(F:Fun K "_law_across" "_law_across" s_law_across f fd):Ai P w K mg base Ae 1 f fd ["_law_box","_law_cell_here"] (NS λb=>1<b.u-b.d):=by
 refine F.Ax J8 λim A ad s H vs Q E hr h=>?_
 obtain⟨J,⟨l,d,r,u⟩,c,rfl,hb,⟨t1,t2⟩,h2,q⟩:=h;dsimp only[AL.l,AL.d,AL.r,AL.u]at t1 t2 h2;exists _,AM (D8 (pv 0) (CZ (n:=4) rfl (Av (Ak 2 J8) (Av (Ak 3 J8) (Av (Ak 4 J8) (Av (Ak 5 J8) CV))))))
  (AM (AU 6 J8 (AN BM (AN BM (pv 3) AB) (AN Bw (pv 1) (AN CB (AN CB (pv 5) (pv 3)) AB))))
  (AR (Al (CJ (AA (BB (AA (pv 2) (AA (pv 6) (AA (pv 4) (AA (pv 5) AD))))) (AA (BB (AA (pv 2) (AA (pv 3) (AA (pv 4) (AA (pv 6) AD))))) AD))))))
 have ab:H J=some (.AF [.int l,.int d,.int r,.int u]):=hb;exists _,G,J,_,G,AH.of ab,G,_,_,G,_,_,G,_,_,G,_,_,G,rfl;refine⟨_,G,_,_,G,G,_,G,_,G,_,G,_,_,G,G,_,_,G,G,_,_,G,G,(show(0:Int)<u-d-1 by lia),_,_,G,G,?_⟩;have m0:=qK c (show u-d-1≠0 by lia);have m1:=qi c (show 0<u-d-1 by lia);generalize c%(u-d-1)=m at *;refine⟨_,G,_,G,_,G,_,G,by exact Dz,λp hp=>⟨_,G,_,G,_,G,_,G,by exact Dz,λp2 ac=>⟨by exact CI,λO aa=>?_⟩⟩⟩;exact Ur q (Parts.swap (j4 (b:=(l,d,r,u)) (by show d<d+1+m;lia) (by show d+1+m<u;lia) t1)) p hp p2 ac O aa
set_option maxHeartbeats 4000000 in
theorem fH(F:Fun K "_law_down" "_law_down" s_law_down f fd):Ai P w K mg base Ae 1 f fd ["_law_box","_law_cell_here"] (NS λb=>1<b.r-b.l):=by
 refine F.Ax J5 λim A ad s H vs Q E hr h=>?_
 obtain⟨J,⟨l,d,r,u⟩,c,rfl,hb,⟨t1,t2⟩,h2,q⟩:=h;dsimp only[AL.l,AL.d,AL.r,AL.u]at t1 t2 h2;exists _,AM (D8 (pv 0) (CZ (n:=4) rfl (Av (Ak 2 J5) (Av (Ak 3 J5) (Av (Ak 4 J5) (Av (Ak 5 J5) CV))))))
  (AM (AU 6 J5 (AN BM (AN BM (pv 2) AB) (AN Bw (pv 1) (AN CB (AN CB (pv 4) (pv 2)) AB))))
  (AR (Al (CJ (AA (BB (AA (pv 2) (AA (pv 3) (AA (pv 6) (AA (pv 5) AD))))) (AA (BB (AA (pv 6) (AA (pv 3) (AA (pv 4) (AA (pv 5) AD))))) AD))))))
 have ab:H J=some (.AF [.int l,.int d,.int r,.int u]):=hb;exists _,G,J,_,G,AH.of ab,G,_,_,G,_,_,G,_,_,G,_,_,G,rfl;refine⟨_,G,_,_,G,G,_,G,_,G,_,G,_,_,G,G,_,_,G,G,_,_,G,G,(show(0:Int)<r-l-1 by lia),_,_,G,G,?_⟩;have m0:=qK c (show r-l-1≠0 by lia);have m1:=qi c (show 0<r-l-1 by lia);generalize c%(r-l-1)=m at *;refine⟨_,G,_,G,_,G,_,G,by exact Dz,λp hp=>⟨_,G,_,G,_,G,_,G,by exact Dz,λp2 ac=>⟨by exact CI,λO aa=>?_⟩⟩⟩;exact Ur q (kE (b:=(l,d,r,u)) (by show l<l+1+m;lia) (by show l+1+m<r;lia) t2) p hp p2 ac O aa
inductive WC(vs:List V)(H:Hp)(Q:VK)(_:XK):Prop
 |mk (l r c:Int) (O:vs=[.int l,.int r,.int c]) (J:2<r-l) (F:r-l<=200) (aa:∀p x y z H',AK H H'->H' p=some (.AF [.int x,.int y,.int z])->l<x->x<y->y<r->Q (.ref p) H')
theorem QM:An ["_law_low_here","_law_high","_law_cell_here","_law_one"] ["_law_low_here","_law_high","_law_cell_here"] (Ac s_law_two):=Aw
theorem jt(F:Fun K "_law_two" "_law_two" s_law_two f fd):Ai P w K mg base Ae 1 f fd ["_law_low_here","_law_high","_law_cell_here"] WC:=by
 refine F.Ax QM λim A aa s H vs Q E hr h=>?_
 obtain⟨l,r,c,rfl,h1,h2,q⟩:=h;exists _,AM (AU 3 QM (AN BM (AN BM (pv 0) AB) (AN Bw (pv 2) (AN CB (AN CB (pv 1) (pv 0)) AB))))
  (AM (AU 2 QM (AN EM (pv 2) (AN CB (AN CB (pv 1) (pv 0)) AB)))
  (AR (Al (BB (AA (pv 3) (AA (AN BM (AN BM (pv 3) AB) (AN Bw (pv 2) (AN CB (AN CB (pv 1) (pv 3)) AB))) (AA (AN EM (pv 2) (AN CB (AN CB (pv 1) (pv 3)) AB)) AD)))))))
 have O:=qK c (show r-l-2≠0 by lia);have m1:=qi c (show 0<r-l-2 by lia);exists _,G,_,_,G,G,_,G,_,G,_,G,_,_,G,G,_,_,G,G,_,_,G,G,(show(0:Int)<r-l-2 by lia),_,_,G,rfl
 (try dsimp only)
 generalize c%(r-l-2)=m at *;exists _,G,_,G,_,G,_,_,G,G,_,_,G,G,_,_,G,G,⟨(),()⟩
 (try dsimp only)
 generalize c / (r-l-2)=d;have n0:=qK d (show r-(l+1+m)-1≠0 by lia);have n1:=qi d (show 0<r-(l+1+m)-1 by lia);refine⟨_,G,_,G,_,_,G,G,_,G,_,G,_,G,_,_,G,G,_,_,G,G,_,_,G,G,(show(0:Int)<r-(l+1+m)-1 by lia),_,_,G,G,_,G,_,G,_,G,_,_,G,G,_,_,G,G,_,_,G,G,⟨(),()⟩,by exact Dd,λp J=>?_⟩;exact q p _ _ _ _ (AW J _) AQ () () ()
def Iu(s:Int)(b:AL):AL:=(s-b.r,b.d,s-b.l,b.u)
theorem bL:Dw x y (Iu s b)=Dw (s-1-x) y b:=by
 rw[tW,Ge,Ge];dsimp only[Iu,AL.l,AL.d,AL.r,AL.u];omega
theorem Parts.nL(h:Parts b ps):Parts b (ps.map (Iu (b.l+b.r))):=by
 refine⟨λp J=>?_,λp J=>?_,λx y=>?_⟩
 ·obtain⟨q,F,rfl⟩:=oI.mp J
  have:=h.ok q F
  dsimp only[Iu,AL.l,AL.d,AL.r,AL.u]at *;omega
 ·obtain⟨q,F,rfl⟩:=oI.mp J
  have:=h.Bz q F
  dsimp only[Iu,AL.l,AL.d,AL.r,AL.u]at *;omega
 ·rw[List.countP_map,List.countP_congr (q:=Dw (b.l+b.r-1-x) y) (λp _=>by rw[Function.comp_apply,bL]),h.Aj]
  have:Dw (b.l+b.r-1-x) y b=Dw x y b:=by
   rw[tW,Ge,Ge];omega
  rw[this]
inductive Wy(vs:List V)(H:Hp)(Q:VK)(_:XK):Prop
 |mk (p:Addr) (b:AL) (c:Int) (O:vs=[.ref p,.int c]) (J:BQ H p b) (F:2<b.r-b.l/\b.r-b.l<=200) (aa:2<b.u-b.d/\b.u-b.d<=200) (ab:∀l ps H',AK H H'->BC BQ H' l ps->Parts b ps->ps.length=5->Q (.ref l) H')
theorem EV:An ["_law_box","_law_cell_here","_law_left","_law_low_here","_law_right","_law_high","_law_one","_law_two_here","_law_three","_law_four","_law_made"] ["_law_box","_law_cell_here"] (Ac s_law_wheel):=Aw
theorem md:(["_law_box","_law_left","_law_right"]:List Str).Nodup:=by decide +kernel
seal L2.Cd L2.PS L2.PE L2.PA in
set_option maxHeartbeats 8000000 in
theorem cC(F:Fun K "_law_wheel" "_law_wheel" s_law_wheel f fd)(G:AX P w K mg base 1 "_law_two" ["_law_low_here","_law_high","_law_cell_here"] WC):Ai P w K mg base Ae 2 f fd ["_law_box","_law_cell_here"] Wy:=by
 refine F.Ax EV λim A az s H vs Q E hr h=>?_
 obtain⟨pb,⟨l,d,r,u⟩,c,rfl,hb,⟨h3,h5⟩,⟨h4,h6⟩,q⟩:=h;dsimp only[AL.l,AL.d,AL.r,AL.u]at h3 h4 h5 h6;exists _,AM (D8 (pv 0) (CZ (n:=4) rfl (Av (Ak 2 EV) (Av (Ak 3 EV) (Av (Ak 4 EV) (Av (Ak 5 EV) CV))))))
  (AM (D8 (AS G (AA (pv 2) (AA (pv 4) (AA (pv 1) AD)))) (CZ (n:=3) rfl (Av (Ak 6 EV) (Av (Ak 7 EV) (Av (Ak 1 EV) CV)))))
  (AM (D8 (AS G (AA (pv 3) (AA (pv 5) (AA (pv 1) AD)))) (CZ (n:=3) rfl (Av (Ak 8 EV) (Av (Ak 9 EV) (Av (Ak 1 EV) CV)))))
  (AM (AU 10 EV (CJ (AA (BB (AA (pv 2) (AA (pv 3) (AA (pv 7) (AA (pv 8) AD))))) (AA (BB (AA (pv 7) (AA (pv 3) (AA (pv 4) (AA (pv 9) AD)))))
   (AA (BB (AA (pv 6) (AA (pv 9) (AA (pv 4) (AA (pv 5) AD))))) AD)))))
  (AM (AU 10 EV (AN Gm (pv 10) (CJ (AA (BB (AA (pv 2) (AA (pv 8) (AA (pv 6) (AA (pv 5) AD))))) (AA (BB (AA (pv 6) (AA (pv 8) (AA (pv 7) (AA (pv 9) AD))))) AD)))))
  (AM (BU (BF Dv (AN Bw (pv 1) AB) AB)
   (AR (Ga (i:=10) EV.nd rfl (qL rfl) (Nc:=["_law_box","_law_left","_law_right"]) (cap:=[(1,2),(2,4)]) (g:=BH 0) (te:=JB (A7 (BK (EY λi j=>.int (i-j)) (BK (EY λi j=>.int (i+j)) (Ag 1) (Ag 2)) (BK (EX []) (Ag 0) (tC (.int 2)))) (A7 (BK (EX []) (Ag 0) (tC (.int 1))) (A7 (BK (EY λi j=>.int (i-j)) (BK (EY λi j=>.int (i+j)) (Ag 1) (Ag 2)) (BK (EX []) (Ag 0) (tC (.int 0)))) (A7 (BK (EX []) (Ag 0) (tC (.int 3))) Ba))))) rfl (DV (pv 10))
    CD
    (λ_ _ _ _ _=>Bj (i:=0) md rfl (qL rfl)) (λ_ _ _ _ _=>BB (AA (AN CB (AN BM (pv 1) (pv 2)) (pT (pv 0) AB)) (AA (pT (pv 0) AB) (AA (AN CB (AN BM (pv 1) (pv 2)) (pT (pv 0) AB)) (AA (pT (pv 0) AB) AD))))))) Bg)
  (AR (Al (pv 10))))))))
 have ai:H pb=some (.AF [.int l,.int d,.int r,.int u]):=hb;exists _,rfl,pb,_,rfl,AH.of ai,rfl,_,_,rfl,_,_,rfl,_,_,rfl,_,_,rfl,rfl;refine⟨_,rfl,_,rfl,_,rfl,l,r,_,rfl,h3,h5,λt1 x J c1 Ha sa ga x1 x2 x3=>⟨t1,_,rfl,AH.of ga,rfl,_,_,rfl,_,_,rfl,_,_,rfl,rfl,?_⟩⟩;refine⟨_,rfl,_,rfl,_,rfl,d,u,_,rfl,h4,h6,λt2 y O c2 Hb sb gb y1 y2 y3=>⟨t2,_,rfl,AH.of gb,rfl,_,_,rfl,_,_,rfl,_,_,rfl,rfl,?_⟩⟩;have s0:=sa.trans sb;refine⟨_,rfl,_,rfl,_,rfl,_,rfl,by exact Dz,λp1 ar=>KO ar l d J y λH1 s1 g1=>?_⟩;refine⟨_,rfl,_,rfl,_,rfl,_,rfl,by exact Dz,λp2 aj=>KO aj J d r O λH2 s2 g2=>?_⟩;refine⟨_,rfl,_,rfl,_,rfl,_,rfl,by exact Dz,λp3 au=>KO au x O r u λH3 s3 g3=>?_⟩;refine⟨by exact Dd,λp5 av=>BS av (.AE [.ref p1,.ref p2,.ref p3]) λH5 s5 g5=>?_⟩;exists _,rfl;refine⟨_,rfl,_,rfl,_,rfl,_,rfl,by exact Dz,λp4 aw=>KO aw l y x u λH4 s4 g4=>?_⟩;refine⟨_,rfl,_,rfl,_,rfl,_,rfl,by exact Dz,λp6 ag=>KO ag x y J O λH6 s6 g6=>?_⟩;refine⟨by exact CI,λp7 am=>BS am (.AE [.ref p4,.ref p6]) λH7 s7 g7=>?_⟩;refine⟨p5,p7,_,_,rfl,rfl,(s4.trans (s6.trans s7)) _ _ g5,g7,by exact nO,λp8 al=>?_⟩;obtain⟨H8,zg,s8,zz⟩:=nw al (.AE ([.ref p1,.ref p2,.ref p3]++[.ref p4,.ref p6]));rw[zg];have g8:H8 p8=some (.AE ([p1,p2,p3,p4,p6].map V.ref)):=zz;have t6:=s7.trans s8;have t4:=s6.trans t6;have t3:=s5.trans (s4.trans t4);have hC:At BQ H8 [p1,p2,p3,p4,p6] [(l,d,J,y),(J,d,r,O),(x,O,r,u),(l,y,x,u),(x,y,J,O)] :=
  ((((At.nil.snoc (R:=BQ) (b:=p1) (x:=(l,d,J,y)) ((s2.trans (s3.trans t3)) _ _ g1)).snoc (b:=p2) (x:=(J,d,r,O)) ((s3.trans t3) _ _ g2)).snoc (b:=p3) (x:=(x,O,r,u)) (t3 _ _ g3)).snoc (b:=p4) (x:=(l,y,x,u)) (t4 _ _ g4)).snoc (b:=p6) (x:=(x,y,J,O)) (t6 _ _ g6)
 have pt:=j9 (b:=(l,d,r,u)) (x:=x) (f:=J) (y:=y) (u:=O) x1 x2 x3 y1 y2 y3;have af:=s0.trans (s1.trans (s2.trans (s3.trans t3)));dsimp only[AL.l,AL.d,AL.r,AL.u]at pt;generalize ax:[(l,d,J,y),(J,d,r,O),(x,O,r,u),(l,y,x,u),(x,y,J,O)]=bs at hC pt;have lb:bs.length=5:=by rw[<-ax];rfl
 generalize [p1,p2,p3,p4,p6]=cs at g8 hC;have lc:cs.length=5:=by rw[hC.1,lb]
 refine⟨_,rfl,_,_,rfl,rfl,(show(0:Int)<2 by decide),rfl,_,rfl,?_⟩;refine Nq (λ_=>?_) (λ_=>⟨_,rfl,q p8 bs H8 af ⟨cs,g8,hC⟩ pt lb⟩);refine⟨_,rfl,p8,rfl,⟨_,AJ.of g8⟩,λaa ak=>?_⟩;refine CP (Fc g8) (by rw[kb];lia) ak (λi ys σ hp=>∃ds:List Addr,ys=ds.map V.ref/\At BQ hp ds ((bs.map (Iu (l+r))).take i)/\∃u,σ=[u,some (.int l),some (.int r)]) ⟨[],rfl,At.nil,none,rfl⟩ ?_ ?_
 ·rintro i ys σ H9 x9 ao hi sm ad ⟨ds,rfl,hD,u9,rfl⟩ ⟨rfl,hx⟩ Cc ap;obtain⟨cb,b,rfl,_,aq,hB⟩:=hC.ref hx;have ab:ao cb=_:=sm _ _ hB;refine⟨_,rfl,_,rfl,_,_,rfl,rfl,_,rfl,cb,_,_,_,rfl,rfl,AH.of ab,G0,_,_,rfl,rfl,_,rfl,cb,_,_,_,rfl,rfl,AH.of ab,GR,_,rfl,_,rfl,_,_,rfl,rfl,_,rfl,cb,_,_,_,rfl,rfl,AH.of ab,GQ,_,_,rfl,rfl,_,rfl,cb,_,_,_,rfl,rfl,AH.of ab,GP,by exact Dz,λp9 ac=>KO ac (l+r-b.r) b.d (l+r-b.l) b.u λay ae ah=>?_⟩;have ne:p9≠aa:=λz=>by rw[z,ad]at ac;cases ac
  refine ap _ _ _ ae ⟨ds++[p9],#v[],?_,_,rfl⟩;rw[Bc (x:=Iu (l+r) b) (by rw[om,aq];rfl)];exact(hD.keep Fg (Df aa ae)).snoc (show BQ _ p9 _ from FA ah ne)
 rintro ys σ2 H9 s9 ad a0 ⟨ds,rfl,hD,u9,rfl⟩;rw[kb,lc,oQ (by rw[kb,lb];exact oz _)]at hD;exact⟨_,rfl,q aa _ H9 (af.trans s9) ⟨ds,ad,hD.keep Fg (DC H9 aa)⟩ (Parts.nL pt) (by rw[kb,lb])⟩
end
end My
namespace My
open PySem L2 Mth Wd Fl
theorem Vs{T R:Prop}(m:T->R)(r:T):R:=m r
theorem iA{c:TT}{t u rest:TS}{D:Dx}{σ:L2.St}{H:Hp}(C:L2.St->Hp->Prop)(J:∀F H',C F H'->rest D F H')(hi:∀nx:L2.St->Hp->Prop,(∀F H',C F H'->nx F H')->Nk c t u { D with nx:=nx} σ H):KA (Nk c t u) rest D σ H:=hi (rest D) J
theorem S8(c:Int){n:Nat}(h:0<n):∃t:Nat,c%(n:Int)=(t:Int)/\t<n :=
 ⟨(c%(n:Int)).toNat,by have:=qK c (show(n:Int)≠0 by lia);lia,by have:=qi c (show 0<(n:Int) by lia);lia⟩
theorem Yy{α:Type}{bs:List α}{b:α}(h:bs[i]?=some b):bs=bs.take i++b :: bs.drop (i+1):=by
 obtain⟨hi,rfl⟩:=oh.mp h;rw[<-List.drop_eq_getElem_cons hi,rF]
section
variable {K:ow}{σ:L2.St}{H:Hp}{Q:VK}{v i j:Nat}{l:Addr}{bs:List AL}{ti tj tm:TE}
theorem gG (hv:σ[v]?=some (some (.ref l)))(hB:BC BQ H l bs)(hi:i<=bs.length)(O:∀H' (R:VK),R (.int (i:Int)) H'->ti σ H' R)
  (q:∀p cs H',AK H H'->H' p=some (.AE (cs.map V.ref))->At BQ H' cs (bs.take i)->Q (.ref p) H'):Nv (Nl []) (Ag v) MT (NV ti) σ H Q:=by
 obtain⟨cs,hl,F⟩:=hB;have lc:cs.length=bs.length:=F.1;refine⟨_,hv,O _ _ ⟨_,G,l,_,G,AJ.of hl,λp J=>?_⟩⟩;rw[JY _ (show i<=(cs.map V.ref).length by rw[kb];lia),<-List.map_take];exact q p _ _ (AW J _) AQ ((F.take i).keep Fg (AW J _))
theorem fZ (hv:σ[v]?=some (some (.ref l)))(hB:BC BQ H l bs)(hi:i<=bs.length)(O:∀H' (R:VK),R (.int (i:Int)) H'->ti σ H' R)
  (q:∀p cs H',AK H H'->H' p=some (.AE (cs.map V.ref))->At BQ H' cs (bs.drop i)->Q (.ref p) H'):Nv (Nl []) (Ag v) (NV ti) MT σ H Q:=by
 obtain⟨cs,hl,F⟩:=hB;have lc:cs.length=bs.length:=F.1;refine⟨_,hv,O _ _ ⟨_,G,l,_,G,AJ.of hl,λp J=>?_⟩⟩;rw[Ja _ (show i<=(cs.map V.ref).length by rw[kb];omega),<-List.map_drop];exact q p _ _ (AW J _) AQ ((F.drop i).keep Fg (AW J _))
theorem UT (g1:H p1=some (.AE (c1.map V.ref)))(h1:At BQ H c1 b1)(J:H p2=some (.AE (c2.map V.ref)))(h2:At BQ H c2 b2)(n:b1.length+b2.length<=1000)
  (q:∀p H',H p=none->AK H H'->H' p=some (.AE ((c1++c2).map V.ref))->At BQ H' (c1++c2) (b1++b2)->Q (.ref p) H'):P2 (.ref p1) (.ref p2) H Q:=by
 refine⟨p1,p2,_,_,G,G,g1,J,by rw[kb,kb];have:=h1.1;have:=h2.1;exact Et (),λO F=>?_⟩;rw[<-List.map_append];exact q O _ F (AW F _) AQ ((h1.Kf h2).keep Fg (AW F _))
end
structure Bt(W U:Int)(bs:List AL):Prop where
 t:Tile W U bs
 b:∀b∈bs,tB b
 n:0<bs.length
 m:bs.length<=14
 w:1<=W/\W<=200
 u:1<=U/\U<=200
theorem Bt.Qj{b t}(h:Bt W U bs)(e:bs[t]?=some b)(p:Parts b ps)(J:0<ps.length)(pm:ps.length+bs.length<=15):Bt W U (bs.take t++ps++bs.drop (t+1)):=by
 have es:=Yy e;have t1:t<bs.length:=(oh.mp e).1;have O:(bs.take t++ps++bs.drop (t+1)).length=t+ps.length+(bs.length-(t+1)):=by
  rw[oF,oF,pN,pS];lia
 refine⟨Tile.Qj (es ▸ h.t) p,λx F=>?_,(),(),h.w,h.u⟩;rcases oM.mp F with z|z
 ·rcases oM.mp z with z|z
  ·exact h.b x (uL z)
  ·exact p.ok x z
 ·exact h.b x (tX z)
section
variable {P:pG}{w:World}{K:ow}{mg:Str->Option Value}{base:Heap}{f:Addr}{fd:qU}
inductive Vo(vs:List V)(H:Hp)(Q:VK)(_:XK):Prop
 |mk (a:Addr) (bs:List AL) (c M W U:Int) (aa:vs=[.ref a,.int c,.int M]) (O:BC BQ H a bs) (J:Bt W U bs) (ab:M<=14) (ac:∀l F H',H l=none->AK H H'->BC BQ H' l F->Bt W U F->Q (.ref l) H')
theorem Ft:An ["_law_boxes_here","_law_cell_here","_law_most","_law_at","_law_rest","_law_left","_law_low_here","_law_right","_law_high","_law_made"] ["_law_boxes_here","_law_cell_here","_law_most"] (Ac s_law_cut):=Aw
seal L2.Cd L2.PS L2.PE L2.PA in
set_option maxHeartbeats 8000000 in
theorem jM (F:Fun K "_law_cut" "_law_cut" s_law_cut f fd)(G1:AX P w K mg base 2 "_law_wheel" ["_law_box","_law_cell_here"] Wy)
  (G2:AX P w K mg base 1 "_law_across" ["_law_box","_law_cell_here"] (NS λb=>1<b.u-b.d))
  (G3:AX P w K mg base 1 "_law_down" ["_law_box","_law_cell_here"] (NS λb=>1<b.r-b.l))(ml:mg "len" = none) :
  Ai P w K mg base Ae 3 f fd ["_law_boxes_here","_law_cell_here","_law_most"] Vo:=by
 refine F.Ax Ft λim A al s H vs Q E hr h=>?_
 obtain⟨a,bs,c,M,W,U,rfl,⟨cs,hl,hC⟩,bt,aj,q⟩:=h;exists _,AM (AU 3 Ft (AN Bw (AN EM (pv 1) AB) (C8 ml (pv 0))))
  (AM (AU 4 Ft (AN EM (AN EM (pv 1) AB) (C8 ml (pv 0))))
  (AM (D8 (pL (pv 0) (pv 3)) (CZ (n:=4) rfl (Av (Ak 5 Ft) (Av (Ak 6 Ft) (Av (Ak 7 Ft) (Av (Ak 8 Ft) CV))))))
  (AM (AU 9 Ft (CJ (AA (pL (pv 0) (pv 3)) AD)))
  (AM (BU (PW.pt (Ek (BF Dv (AN Bw (pv 1) AB) AB) (Ek (BF FF (AN CB (pv 7) (pv 5)) AB) (Ek (BF FF (AN CB (pv 8) (pv 6)) AB) (HU (BF LD (AN BM (C8 ml (pv 0)) AB) (pv 2)))))))
    (AR (AU 9 Ft (AS G1 (AA (pL (pv 0) (pv 3)) (AA (pv 4) AD)))))
    (AR (BU (PW.pt (Ek (BF Dv (AN Bw (AN Bw (pv 1) AB) AB) AB) (Ek (BF FF (AN CB (pv 8) (pv 6)) AB) (HU (BF Gq (C8 ml (pv 0)) (pv 2))))))
     (AR (AU 9 Ft (AS G2 (AA (pL (pv 0) (pv 3)) (AA (pv 4) AD)))))
     (AR (BU (PW.pt (Ek (BF FF (AN CB (pv 7) (pv 5)) AB) (HU (BF Gq (C8 ml (pv 0)) (pv 2)))))
      (AR (AU 9 Ft (AS G3 (AA (pL (pv 0) (pv 3)) (AA (pv 4) AD))))) Bg)))))
  (AR (Al (AN Gm (AN Gm (Ef KS (pv 0) Fe (D7 (pv 3))) (pv 9)) (Ef KS (pv 0) (D7 (AN BM (pv 3) AB)) Fe))))))))
 have lc:cs.length=bs.length:=hC.1;have b0:=bt.n;have ak:=bt.m;refine⟨_,G,_,_,G,G,⟨∅,∅⟩,_,G,a,_,G,.inl (AJ.of hl),_,_,G,G,by rw[kb,lc];lia,?_⟩;rw[kb,lc]
 (try dsimp only)
 obtain⟨t,et,tl⟩:=S8 (c / 4) b0;rw[et];exists _,G,_,_,G,G,⟨∅,∅⟩,_,G,a,_,G,.inl (AJ.of hl),_,_,G,G,by rw[kb,lc];exact⟨(),()⟩
 (try dsimp only)
 generalize c / 4 / _=e;have hy:bs[t]?=some bs[t]:=og tl;obtain⟨cb,ah,fb⟩:=hC.get hy;generalize bs[t]=b at hy fb;have bm:=oi hy;have tb:tB b:=bt.b b bm;have ib:Ke W U b:=bt.t.Bz b bm;have bw:=bt.w;have bu:=bt.u;obtain⟨l,d,r,u⟩:=b;have ai:H cb=some (.AF [.int l,.int d,.int r,.int u]):=fb;have ab:BY (cs.map V.ref) (t:Int)=some (.ref cb):=BE (Cg ah);exists _,G,_,G,a,_,_,_,G,G,AJ.of hl,ab,cb,_,G,AH.of ai,G,_,_,G,_,_,G,_,_,G,_,_,G,rfl;refine⟨_,G,_,G,a,_,_,_,G,G,AJ.of hl,ab,by exact IL,λp1 ag=>?_⟩;refine BS ag (.AE [.ref cb]) λH1 s1 g1=>?_
 have aa:=s1 _ _ hl;have ac:BQ H1 cb (l,d,r,u):=s1 _ _ fb;have ln:(((cs.map V.ref).length:Nat):Int)=(bs.length:Int):=by rw[kb,lc]
 dsimp only[tB,Ke,AL.l,AL.d,AL.r,AL.u]at tb ib;unfold BH
 (try dsimp only)
 refine iA (λσ H2=>∃(lm:Addr) (ps:List AL),σ=[some (.ref a),some (.int c),some (.int M),some (.int (t:Int)),some (.int e),some (.int l),some (.int d),some (.int r),some (.int u),some (.ref lm)]/\AK H H2/\BC BQ H2 lm ps/\Parts (l,d,r,u) ps/\0<ps.length/\ps.length+bs.length<=15) ?_ λnx hn=>?_
 ·rintro σ H2 ⟨lm,ps,rfl,s2,hP,pt,p0,pm⟩;have af:BC BQ H2 a bs:=LO s2 ⟨cs,hl,hC⟩;refine gG (v:=0) (i:=t) rfl af () (λH' R z=>⟨_,G,z⟩) λq1 c1 H3 s3 g3 h3=>?_
  obtain⟨ds,hd,hD⟩:=LO s3 hP;exists _,rfl;refine UT g3 h3 hd hD (by rw[pN];lia) λq3 H5 _ s5 g5 h5=>?_
  have ad:=s3.trans s5;refine fZ (v:=0) (i:=t+1) rfl (LO ad af) () (λH' R z=>⟨_,G,_,_,G,G,z⟩) λq4 c4 H6 s6 g6 h6=>?_
  refine UT (s6 _ _ g5) (h5.keep Fg s6) g6 h6 (by rw[oF,pN,pS];lia) λq5 H7 n7 s7 g7 h7=>?_
  exact q q5 _ H7 ((s2.trans (ad.trans s6)).free n7) (s2.trans (ad.trans (s6.trans s7))) ⟨_,g7,h7⟩ (bt.Qj hy pt p0 pm)
 refine⟨_,G,_,_,G,G,(show(0:Int)<4 by decide),G,_,G,?_⟩;apply Vs
 case m =>
  intro rest;refine Nq (λ_=>⟨_,G,_,G,_,_,G,G,_,_,G,G,_,G,?_⟩) (λ_=>rest);by_cases O:(2:Int)<r-l
  ·refine By O ⟨_,G,_,G,_,_,G,G,_,_,G,G,_,G,?_⟩;by_cases z2:(2:Int)<u-d
   ·refine By z2 ⟨_,G,a,_,G,.inl (AJ.of aa),_,_,G,G,_,G,_,_,G,G,_,G,?_⟩;by_cases J:((cs.map V.ref).length:Int)+4<=M
    ·refine By J ?_;rw[ln]at J;refine⟨_,G,_,G,a,_,_,_,G,G,AJ.of aa,ab,_,G,cb,(l,d,r,u),_,G,ac,⟨O,by show r-l<=200;lia⟩,⟨z2,by show u-d<=200;lia⟩,λlm ps H2 s2 hP pt p5=>hn _ _ ⟨lm,ps,G,s1.trans s2,hP,pt,(),()⟩⟩
    ·exact Be J rest
   ·exact Be z2 rest
  ·exact Be O rest
 refine⟨_,G,_,_,G,G,(show(0:Int)<4 by decide),_,_,G,G,(show(0:Int)<2 by decide),G,_,G,?_⟩;apply Vs
 case m =>
  intro rest;refine Nq (λ_=>⟨_,G,_,G,_,_,G,G,_,_,G,G,_,G,?_⟩) (λ_=>rest);by_cases O:(1:Int)<u-d
  ·refine By O ⟨_,G,a,_,G,.inl (AJ.of aa),_,G,_,_,G,G,_,G,?_⟩;by_cases J:((cs.map V.ref).length:Int)<M
   ·refine By J ?_;rw[ln]at J;refine⟨_,G,_,G,a,_,_,_,G,G,AJ.of aa,ab,_,G,cb,(l,d,r,u),_,G,ac,tb,O,λlm ps H2 s2 hP pt p5=>hn _ _ ⟨lm,ps,G,s1.trans s2,hP,pt,(),()⟩⟩
   ·exact Be J rest
  ·exact Be O rest
 exists _,G,_,G,_,_,G,G,_,_,G,G,_,rfl;have ae:=hn _ H1 ⟨p1,[(l,d,r,u)],G,s1,⟨[cb],g1,At.nil.snoc (R:=BQ) (b:=cb) (x:=(l,d,r,u)) ac⟩,Zi tb.1 tb.2,by show 0<1;decide,by show 1+_<=15;lia⟩;by_cases O:(1:Int)<r-l
 ·refine By O ⟨_,G,a,_,G,.inl (AJ.of aa),_,G,_,_,G,G,_,G,?_⟩;by_cases J:((cs.map V.ref).length:Int)<M
  ·refine By J ?_;rw[ln]at J;refine⟨_,G,_,G,a,_,_,_,G,G,AJ.of aa,ab,_,G,cb,(l,d,r,u),_,G,ac,tb,O,λlm ps H2 s2 hP pt p5=>hn _ _ ⟨lm,ps,G,s1.trans s2,hP,pt,(),()⟩⟩
  ·exact Be J ae
 ·exact Be O ae
end
end My
namespace My
open PySem PySem.Spec L2 PyProof.Rows Fl
def I0(b:AL):rj:=.tuple [.int b.l,.int b.d,.int b.r,.int b.u]
theorem iI(h:BQ H p b):D0 H (.ref p) (I0 b):=by
 refine .AF h rfl λi x d F J=>?_
 match i,F,J with
 |0,F,J=>cases F;cases J;exact .int _
 |1,F,J=>cases F;cases J;exact .int _
 |2,F,J=>cases F;cases J;exact .int _
 |3,F,J=>cases F;cases J;exact .int _
 |n+4,F,J=>simp at F
theorem RH(bs:List AL):vg (.list (bs.map I0))=true:=by
 have h:∀d∈bs.map I0,FX 1 d:=λd hd=>by
  obtain⟨b,_,rfl⟩:=oI.mp hd;refine .AF λx F=>?_
  simp only[oG,o3,qN]at F;rcases F with rfl|rfl|rfl|rfl<;>exact .int _
 have h2:=OX λd hd=>(h d hd).ok.2
 unfold vg;rw[sj];refine⟨by simp only[yf];exact PB λd hd=>(h d hd).ok.1,qC ?_⟩;simp only[wQ]
 lia
theorem Z4(hu:X.A.units+64<cLine):B5 X (r6 .NotEq) (λx y H Q=>∃(p q:Addr) (bs:List AL),x=.ref p/\y=.ref q/\BC BQ H p bs/\H q=some (.AE [])/\Q (.bl (!bs.isEmpty)) H):=by
 intro ge s σ H x y v u Q I rx ry h;obtain⟨p,q,bs,rfl,rfl,⟨cs,hp,J⟩,hq,k⟩:=h;cases rx;cases ry;obtain⟨_,its,n1,r1,_,e1⟩:=I.DX hp;obtain⟨_,aa,n2,r2,_,e2⟩:=I.DX hq;cases r2;have d1:Reads s.heap (.ref p) (.list (bs.map I0)) [p]:=.list e1 rfl rfl (by
  simpa using OK s.heap r1 (by rw[kb,kb,J.1]) λi x d O F u ru=>by
   rw[om]at O F;obtain⟨c,ec,rfl⟩:=qe.mp O;obtain⟨y,ey,rfl⟩:=qe.mp F;exact Ih I (iI (J.2 i c y ec ey)) u ru)
 have d2:Reads s.heap (.ref q) (.list (([]:List AL).map I0)) [q]:=.list e2 rfl rfl (by simpa using ReadsAll.nil);refine ne_dataH d1 d2 (RH bs) (RH []) hu ?_;have e:rj.eqv (.list (bs.map I0)) (.list (([]:List AL).map I0))=bs.isEmpty:=by
  cases bs<;>simp[rj.eqv,rj.eqvAll]
 rw[e];exact⟨.bl _,H,I,G,k⟩
end My
namespace My
open PySem L2 Mth Wd Fl
variable {H:Hp}{ds:List Addr}
theorem Pp(c:Int){u:List Int}(h:u.length=4:=by rfl):∃v:Int,BY (u.map V.int) (c%4)=some (.int v)/\v∈u:=by
 have J:=qK c (show(4:Int)≠0 by decide);have h1:=qi c (show(0:Int)<4 by decide);obtain⟨t,e⟩:=Int.eq_ofNat_of_zero_le J;rw[e];have F:t<u.length:=()
 exact⟨u[t],BE (by rw[om,og F];rfl),qd F⟩
theorem Q0{α:Type}:∀{ss:List α} {k:Nat} {x:α},ss[k]?=some x->(x :: ss.eraseIdx k).Perm ss
 |s :: ss,0,x,h=>by cases h;exact .refl _
 |s :: ss,k+1,x,h=>by
  have:=Q0 (ss:=ss) (k:=k) (by simpa using h)
  exact(ac5 s x _).trans (this.cons s)
theorem Mm(F:H b=some (.AE ys))(h:At BQ H cs xs):At BQ (AG H b o) cs xs:=⟨h.1,λi c r O J=>by
 have z:=h.2 i c r O J;unfold BQ at z ⊢;rw[AV (λe=>by rw[e,F]at z;cases z)];exact z⟩
theorem Bt.Ct(h:Bt W U bs)(p:cs.Perm bs):Bt W U cs:=⟨h.t.Ct p,λb F=>h.b b (p.subset F),p.length_eq ▸ h.n,p.length_eq ▸ h.m,h.w,h.u⟩
section
variable {P:pG}{w:World}{K:ow}{mg:Str->Option Value}{base:Heap}{f g h f1 f2 f3:Addr}{fd gd hd d1 d2 d3:qU}
inductive Wo(K:ow)(vs:List V)(H:Hp)(Q:VK)(_:XK):Prop
 |mk (a:Addr) (ns:List Int) (M:Int) (O:vs=[.ref a,.int 1,.int M]) (J:Qi K H a ns) (F:1<=M/\M<=14) (aa:∀p l W U bs H',AK H H'->H' p=some (.AF [.int W,.int U,.ref l])->BC BQ H' l bs->Bt W U bs->Q (.ref p) H')
theorem HH:An ["_law_script","_law_first","_law_most","_law_wide","_law_high","_law_boxes_here","_law_k","_law_cell_here","_law_order"] ["_law_script","_law_first","_law_most"] (Ac s_law_boxes):=Aw
seal L2.Cd L2.PS L2.PE L2.PA in
set_option maxHeartbeats 8000000 in
theorem kG (F:Fun K "_law_boxes" "_law_boxes" s_law_boxes f fd)(G1:AX P w K mg base 1 "_law_cell" ["_law_script","_law_k"] (Mz K))
  (G2:AX P w K mg base 3 "_law_cut" ["_law_boxes_here","_law_cell_here","_law_most"] Vo)(ml:mg "len" = none)(mn:mg "min" = none)(mr:mg "range" = none) :
  Ai P w K mg base Ae 4 f fd ["_law_script","_law_first","_law_most"] (Wo K):=by
 refine F.Ax HH λim A bd s H vs Q E hr h=>?_
 obtain⟨a,ns,M,rfl,⟨hS,hn⟩,⟨M1,a7⟩,q⟩:=h;have hu:(A.deeper (x4 "_law_boxes" (Ac s_law_boxes) s.heap.objs.size f im)).units+64<cLine:=hr.units;exists _,AM (AU 3 HH (AN BM AB (AN Bw (AN EM (AS G1 (AA (pv 0) (AA (pv 1) AD))) AB) (pL (CJ (AA AB (AA AB (AA AB (AA AB AD))))) (AN Bw (AS G1 (AA (pv 0) (AA (pv 1) AD))) AB)))))
  (AM (AU 4 HH (AN BM AB (AN Bw (AN EM (AS G1 (AA (pv 0) (AA (AN BM (pv 1) AB) AD))) AB) (pL (CJ (AA AB (AA AB (AA AB (AA AB AD))))) (AN Bw (AS G1 (AA (pv 0) (AA (AN BM (pv 1) AB) AD))) AB)))))
  (AM (AU 5 HH (CJ (AA (BB (AA AB (AA AB (AA (pv 3) (AA (pv 4) AD))))) AD)))
  (AM (Bk oX rfl (Ki (by rfl) mr (AA (AN BM (pv 1) AB) (AA (CA (OM rfl) (by rfl) mn ND (AA (LX K ml (pv 0)) (AA (AN BM (AN BM (pv 1) AB) (pv 2)) AD))) AD))) (Ak 6 HH)
   (AR (AU 5 HH (AS G2 (AA (pv 5) (AA (AS G1 (AA (pv 0) (AA (pv 6) AD))) (AA (pv 2) AD)))))))
  (AM (AU 7 HH (AS G1 (AA (pv 0) (AA (AN BM (pv 1) AB) AD))))
  (AM (AU 8 HH (CJ AD))
  (AM (Kn oX (BF (Z4 hu) (pv 5) (CJ AD))
   (AM (Dr (DD pA qF qG Ed (pv 8) (AA (DD pA PySem.F.slot_list_pop PySem.F.type_list_pop bY (pv 5) (AA (AN Bw (pv 7) (C8 ml (pv 5))) AD)) AD)))
   (AR (AU 7 HH (AN EM (pv 7) (AN BM (C8 ml (pv 5)) AB))))))
  (AR (Al (BB (AA (pv 3) (AA (pv 4) (AA (pv 8) AD))))))))))))
 refine⟨_,G,_,G,a,ns,1,G,⟨hS,hn⟩,∅,∅,λz1=>?_⟩;refine⟨_,_,G,G,⟨∅,∅⟩,by exact Dz,λp1 a1=>?_⟩;refine BS a1 (.AE [V.int 6,.int 9,.int 12,.int 200]) λH1 s1 g1=>?_
 refine⟨_,G,_,G,a,ns,1,G,⟨s1.seq hS,hn⟩,∅,∅,λz2=>?_⟩;obtain⟨v,ev,v6⟩:=Pp z2 (u:=[6,9,12,200]);have vb:6<=v/\v<=200:=by simp only[oG,o3,qN]at v6;lia
 refine⟨_,_,G,G,(show(0:Int)<4 by decide),p1,_,_,_,G,G,AJ.of g1,ev,_,_,G,G,(show(0:Int)<v by lia),_,_,G,G,?_⟩;have w0:=qK (z1 / 4) (show v≠0 by lia);have w1:=qi (z1 / 4) (show 0<v by lia)
 (try dsimp only)
 obtain⟨W,eW⟩:∃W,W=1+z1 / 4%v:=⟨_,G⟩;rw[<-eW];refine⟨_,G,_,G,_,_,G,G,a,ns,_,G,⟨s1.seq hS,hn⟩,∅,∅,λz3=>?_⟩;refine⟨_,_,G,G,⟨∅,∅⟩,by exact Dz,λp2 ay=>?_⟩;refine BS ay (.AE [V.int 6,.int 9,.int 12,.int 200]) λH2 s2 g2=>?_
 have af:=s1.trans s2;refine⟨_,G,_,G,_,_,G,G,a,ns,_,G,⟨af.seq hS,hn⟩,∅,∅,λz4=>?_⟩;obtain⟨v',a2,a6⟩:=Pp z4 (u:=[6,9,12,200]);have a9:6<=v'/\v'<=200:=by simp only[oG,o3,qN]at a6;lia
 refine⟨_,_,G,G,(show(0:Int)<4 by decide),p2,_,_,_,G,G,AJ.of g2,a2,_,_,G,G,(show(0:Int)<v' by lia),_,_,G,G,?_⟩;have u0:=qK (z3 / 4) (show v'≠0 by lia);have u1:=qi (z3 / 4) (show 0<v' by lia)
 (try dsimp only)
 obtain⟨U,eU⟩:∃U,U=1+z3 / 4%v':=⟨_,G⟩;rw[<-eU];refine⟨_,G,_,G,by exact Dz,λp3 a3=>?_⟩;obtain⟨H3,e3,s3,g3⟩:=Of a3 0 0 W U;rw[e3];refine⟨by exact IL,λp4 aq=>?_⟩;have n4:H p4=none:=(af.trans s3).free aq;refine BS aq (.AE [.ref p3]) λH4 s4 g4=>?_
 have ar:=af.trans (s3.trans s4);have W0:0<W:=()
 have U0:0<U:=()
 have ln:(((ns.map V.int).length:Nat):Int)<=63:=by rw[kb];lia
 refine⟨_,G,_,_,G,G,_,G,a,_,G,.inl (ar.seq hS),_,G,_,_,G,G,_,G,_,_,G,G,_,_,G,_,_,G,⟨∅,∅,by split<;>lia,by split<;>lia⟩,?_⟩;refine Fb (λi σ H5=>AK H H5/\∃(l:Addr) (bs:List AL) (u6:Option V),σ=[some (.ref a),some (.int 1),some (.int M),some (.int W),some (.int U),some (.ref l),u6,none,none]/\H l=none/\BC BQ H5 l bs/\Bt W U bs)
  ⟨ar,p4,[(0,0,W,U)],none,G,n4,⟨[p3],g4,At.nil.snoc (R:=BQ) (b:=p3) (x:=(0,0,W,U)) (s4 _ _ g3)⟩,X8 W0 U0,λb hb=>by rw[pH.mp hb];exact⟨W0,U0⟩,by show 0<1;decide,by show 1<=14;decide,(),()⟩ ?_ ?_
 ·rintro i σ H5 hi ⟨s5,l,bs,u6,rfl,nl,hB,bt⟩;refine⟨_,G,_,G,_,G,a,ns,_,G,⟨s5.seq hS,hn⟩,(),by split at hi<;>lia,λz=>?_⟩;exact⟨_,G,l,bs,z,M,W,U,G,hB,bt,a7,λl' a5 H6 ax s6 az a4=>⟨s5.trans s6,l',a5,_,G,s5.free ax,az,a4⟩⟩
 ·rintro σ H5 ⟨s5,S,xs,u6,rfl,nS,⟨cs,hl,hC⟩,bt⟩;have be:=bt.m;refine⟨_,G,_,G,_,_,G,G,a,ns,_,G,⟨s5.seq hS,hn⟩,∅,∅,λc=>?_⟩;refine⟨by exact Fx,λL hL=>?_⟩;have ai:S≠L:=BD hl hL;have fL:H L=none:=s5.free hL;refine BS hL (.AE []) λH6 s6 g6=>?_
  refine Kt (λσ O=>∃c ss J ys zs,σ=[some (.ref a),some (.int 1),some (.int M),some (.int W),some (.int U),some (.ref S),u6,some (.int c),some (.ref L)]/\AK H O/\O S=some (.AE (ss.map V.ref))/\At BQ O ss ys/\O L=some (.AE (J.map V.ref))/\At BQ O J zs/\(zs++ys).Perm xs) (λ_ O=>match O S with|some (.AE xs)=>xs.length|_=>0)
   ⟨c,cs,[],xs,[],G,s5.trans s6,s6 _ _ hl,hC.keep Fg s6,g6,At.nil,.refl _⟩ ?_ ?_
  ·rintro σ O ⟨c,ss,J,ys,zs,rfl,s7,ao,hY,aw,hZ,pm⟩;have a0:=pm.length_eq;rw[oF]at a0;have ly:=hY.1;have lz:=hZ.1;refine⟨_,G,by exact Fx,λz hz=>?_⟩;have mz:(match O S with|some (.AE xs)=>xs.length|_=>0)=ss.length:=by rw[ao];show(ss.map V.ref).length=_;rw[kb]
   rw[mz];refine BS hz (.AE []) λH8 s8 g8=>?_
   have aa:=s8 _ _ ao;have ab:=s8 _ _ aw;have ac:=hY.keep Fg s8;have av:=hZ.keep Fg s8;exists S,z,ys,G,G,⟨ss,aa,ac⟩,g8,_,rfl;by_cases h0:ys=[]
   ·subst h0;rw[qS]at pm;refine Br ?_;refine⟨_,G,_,G,_,G,by exact Dd,λp hp=>?_⟩;have s9:=AW hp (.AF [.int W,.int U,.ref L]);exact q p L W U zs _ (s7.trans (s8.trans s9)) AQ ⟨J,s9 _ _ ab,av.keep Fg s9⟩ (bt.Ct pm)
   ·have y0:0<ys.length:=abe.mpr h0;rw[show(!ys.isEmpty)=true by rw[List.isEmpty_eq_false_iff.mpr h0];rfl];refine FO ?_;obtain⟨k,hk,au⟩:=S8 c (show 0<(ss.map V.ref).length by rw[kb];lia);rw[kb]at au;have ek:ys[k]?=some ys[k]:=og ();generalize ys[k]=x at ek;obtain⟨b,hb,fb⟩:=ac.get ek;have ev:=Cg hb;refine⟨_,G,.inl ⟨G,_,AJ.of ab⟩,_,G,.inl ⟨G,_,AJ.of aa⟩,_,G,_,G,S,_,G,.inl (AJ.of aa),_,_,G,G,by rw[kb];lia,S,_,(k:Int),k,_,G,congrArg (λz=>[V.int z]) hk,aa,(),(),(O0 (by rw[kb];exact bV au)).1,ev,L,_,_,G,G,by rw[AV (qp ai)];exact ab,by rw[kb];exact GX (),?_⟩;have s9:=(s7.trans s8).up nS (.AE ((ss.map V.ref).eraseIdx k));have ak:=Mm (o:=.AE ((ss.map V.ref).eraseIdx k)) aa (av.snoc fb);have aj:=Mm (o:=.AE ((ss.map V.ref).eraseIdx k)) aa ((ac.take k).Kf (ac.drop (k+1)));have ag:(AG H8 S (.AE ((ss.map V.ref).eraseIdx k))) S=_:=AQ;have ah:(AG H8 S (.AE ((ss.map V.ref).eraseIdx k))) L=some (.AE (J.map V.ref)):=by rw[AV (qp ai)];exact ab
    generalize AG H8 S (.AE ((ss.map V.ref).eraseIdx k))=H9 at s9 ak aj ag ah;rw[xE,<-List.map_take,<-List.map_drop,<-List.map_append]at ag;have al:=s9.up fL (.AE (J.map V.ref++[.ref b]));have am:=Mm (o:=.AE (J.map V.ref++[.ref b])) ah ak;have ae:=Mm (o:=.AE (J.map V.ref++[.ref b])) ah aj;have ap:(AG H9 L (.AE (J.map V.ref++[.ref b]))) L=some (.AE ((J++[b]).map V.ref)):=by rw[AQ,oU];rfl
    have ad:=(AV (o:=.AE (J.map V.ref++[.ref b])) ai).trans ag;generalize AG H9 L (.AE (J.map V.ref++[.ref b]))=bc at al am ae ad ap;rw[<-List.eraseIdx_eq_take_drop_succ ys]at ae;have pe:=Q0 ek;have le:=pe.length_eq;rw[pk]at le;have a8:(ss.take k++ss.drop (k+1)).length+1=ss.length:=by rw[oF,pN,pS];lia
    refine⟨_,G,_,G,S,_,G,.inl (AJ.of ad),_,_,G,G,_,_,G,G,⟨by rw[kb];lia,by rw[kb];show((ss.take k++ss.drop (k+1)).length:Int)+1<1073741824;lia⟩,?_⟩;exists ⟨_,_,J++[b],_,zs++[x],G,al,ad,ae,ap,am,?_⟩
    ·refine uR.trans ?_ pm;rw[tL];exact pe.append_left zs
    ·rw[ad];show((ss.take k++ss.drop (k+1)).map V.ref).length<_;rw[kb]
     lia
  ·rintro σ H2 Q1 Q2 hq ⟨v,e,sz,k⟩;refine⟨v,e,sz,λz hz=>?_⟩;obtain⟨p,q,ns,e1,e2,e3,e4,b,eb,w⟩:=k z hz;exact⟨p,q,ns,e1,e2,e3,e4,b,eb,hq _ _ w⟩
inductive Wh(vs:List V)(H:Hp)(Q:VK)(_:XK):Prop
 |mk (c:Int) (J:vs=[.int c]) (F:∀(T B:Int) p H',AK H H'->1<=T->T<=9999->1<=B->B<=999->AO H' p ((T:Rat) / (B:Rat))->Q (.ref p) H')
theorem mf:An ["_law_cell_here"] ["_law_cell_here"] (Ac s_law_share):=Aw
theorem kA(h:H p=some (.AF [.int 1,.int 1])):AO H p (((1:Int):Rat) / ((1:Int):Rat)):=by
 have e:(((1:Int):Rat) / ((1:Int):Rat))=1:=by grind
 rw[e];exact h
theorem jw(F:Fun K "_law_share" "_law_share" s_law_share f fd)(G:AX P w K mg base 1 "_law_low" ["_law_top","_law_bottom"] Jy):
  Ai P w K mg base Ae 2 f fd ["_law_cell_here"] Wh:=by
 refine F.Ax mf λim A aa s H vs Q E hr h=>?_
 obtain⟨c,rfl,q⟩:=h;exists _,AM (BU (BF Dv (AN Bw (pv 0) AB) AB) (AR (Al (BB (AA AB (AA AB AD))))) Bg)
  (AR (Al (AS G (AA (AN BM AB (AN Bw (AN EM (pv 0) AB) AB)) (AA (AN BM AB (AN Bw (AN EM (AN EM (pv 0) AB) AB) AB)) AD)))))
 refine⟨_,rfl,_,_,rfl,rfl,(show(0:Int)<2 by decide),rfl,_,rfl,?_⟩;refine Nq (λ_=>⟨by exact CI,λp J=>q 1 1 p _ (AW J _) ∅ ∅ ∅ ∅ (kA AQ)⟩) (λ_=>?_);refine⟨_,rfl,_,_,rfl,rfl,⟨∅,∅⟩,_,_,rfl,rfl,(show(0:Int)<9999 by decide),_,_,rfl,rfl,_,rfl,_,_,rfl,rfl,⟨∅,∅⟩,_,_,rfl,rfl,⟨∅,∅⟩,_,_,rfl,rfl,(show(0:Int)<999 by decide),_,_,rfl,rfl,?_⟩;have a0:=qK (c / 2) (show(9999:Int)≠0 by decide);have a1:=qi (c / 2) (show(0:Int)<9999 by decide);have O:=qK (c / 2 / 9999) (show(999:Int)≠0 by decide);have b1:=qi (c / 2 / 9999) (show(0:Int)<999 by decide);refine⟨_,_,rfl,(),DY (n:=10) () ∅,λp J=>q _ _ p _ (AW J _) () () () () AQ⟩
abbrev b4(b:AL):List Int:=[b.l,b.d,b.r,b.u]
def BX(q:Rat)(b:AL):List Rat:=(b4 b).map λe:Int=>q*(e:Rat)
theorem gM{j:Nat}(h:(b4 b)[j]?=some e):(BX q b)[j]?=some (q*(e:Rat)):=by
 unfold BX;rw[om,h];rfl
theorem PL(h:H p=some (.AF [.int n,.int 1])):AO H p (n:Rat):=h
theorem UH(h:At (As AO) H ds rs)(e:H a=some (.AE ys))(o:HO):At (As AO) (AG H a o) ds rs :=
 ⟨h.1,λi c x J F=>EB (NC H a o) (Qf (h.2 i c x J F) e)⟩
theorem Vi{j:Nat}(h:Bt W U bs)(F:b∈bs)(J:(b4 b)[j]?=some e):e.natAbs<=200:=by
 have h1:=h.t.Bz b F;have h2:=h.b b F;have O:=h.w;have h4:=h.u;unfold Ke at h1
 have:=oi J
 simp only[b4,oG,o3,qN]at this
 lia
theorem Ls:2 ^ 64<=2 ^ 4480:=qj ∅ ∅
theorem UQ{t b:Int}(F:0<b)(h1:t.natAbs<=2 ^ 64)(h2:b.natAbs<=2 ^ 64):Sf ((t:Rat) / (b:Rat)):=have h:=jV F h1 h2;⟨oO h.1 Ls,oO h.2 Ls⟩
theorem Pd{e:Int}(h:e.natAbs<=200):Sf (e:Rat):=⟨oO (oO h ∅) Ls,abB⟩
abbrev Pt:Type:=Int×Rat×Rat
def JP(H:Hp)(p:Addr)(t:Pt):Prop:=∃x y,H p=some (.AF [.int t.1,.ref x,.ref y])/\AO H x t.2.1/\AO H y t.2.2
theorem kX:Mo JP:=λs ⟨x,y,h1,h2,F⟩=>⟨x,y,s _ _ h1,s _ _ h2,s _ _ F⟩
def FQ(t:Pt):List Rat:=[t.2.1,t.2.2,t.2.1,t.2.2]
theorem jO(t:Pt):DA (FQ t)=true:=by simp[DA,FQ]
structure FU(ps base rows:List (List Rat)):Prop where
 f:(rows.filter λr=>!DA r)=base.filter λr=>!DA r
 m:∀r∈rows,r∈base\/r∈ps
 l:rows.length=base.length+ps.length
theorem FU.nil(base:List (List Rat)):FU [] base base:=⟨G,λr h=>.inl h,G⟩
theorem FU.more{ps base rows:List (List Rat)}(h:FU ps base rows)(k:Nat)(e:DA r=true):FU (ps++[r]) base (rows.take k++r :: rows.drop k):=by
 exists ?_,λx hx=>?_
 ·rw[<-h.f,tV,acq,e];show _++(rows.drop k).filter _=_;rw[<-List.filter_append,rF]
 ·rcases oM.mp hx with hx|hx
  ·rcases h.m x (uL hx)with z|z
   ·exact .inl z
   ·exact .inr (oM.mpr (.inl z))
  ·rcases oG.mp hx with rfl|hx
   ·exact .inr (oM.mpr (.inr (pH.mpr rfl)))
   ·rcases h.m x (tX hx)with z|z
    ·exact .inl z
    ·exact .inr (oM.mpr (.inl z))
 ·have:=h.l
  rw[oF,pk,pN,pS,oF,rn];omega
theorem At.Fz(h:At R H ds rs)(k:Nat)(r:R H p x):At R H (ds.take k++p :: ds.drop k) (rs.take k++x :: rs.drop k):=by
 refine⟨by simp[h.1],λi b y J F=>?_⟩;have O:(ds.take k).length=(rs.take k).length:=by simp[h.1]
 rcases oW i (ds.take k).length with z|z
 ·rw[pR z]at J;rw[pR ()]at F;rw[yw]at J F;split at J
  ·rename_i c;rw[oH c]at F;exact h.2 i b y J F
  ·cases J
 ·rw[pE z]at J;rw[pE ()]at F;rw[<-O]at F;rcases hj:i-(ds.take k).length with _|j
  ·rw[hj]at J F;cases J;cases F;exact r
  ·rw[hj,zO,sX]at J;rw[hj,zO,sX]at F;exact h.2 _ b y J F
theorem cM(ds:List Addr)(k:Nat)(p:Addr):(ds.map V.ref).take k++V.ref p :: (ds.map V.ref).drop k=(ds.take k++p :: ds.drop k).map V.ref:=by
 rw[oU,oP,vz,vw]
inductive Wb(vs:List V)(H:Hp)(Q:VK)(_:XK):Prop
 | mk (a s t l:Addr) (W U:Int) (q:Rat) (bs:List AL) (pts:List Pt) (ac:vs=[.ref a,.ref s,.ref t]) (af:H a=some (.AF [.int W,.int U,.ref l])) (O:BC BQ H l bs) (ad:Bt W U bs) (J:AO H s q) (ae:Sf q) (F:BC JP H t pts) (aa:pts.length<=3)
   (ab:∀p rows H',AK H H'->FE H' p (q*(W:Rat)) (q*(U:Rat)) rows->FU (pts.map FQ) (bs.map (BX q)) rows->Q (.ref p) H')
theorem Gw:An ["_law_built","_law_share_here","_law_points_here","_law_wide","_law_high","_law_boxes_here","_law_rows","_law_box","_law_at","_law_x","_law_y"] ["_law_built","_law_share_here","_law_points_here"] (Ac s_law_scaled):=Aw
theorem mP:(["_law_number","_law_share_here"]:List Str).Nodup:=by decide +kernel
seal L2.Cd L2.PS L2.PE L2.PA in
set_option maxHeartbeats 8000000 in
theorem j3(F:Fun K "_law_scaled" "_law_scaled" s_law_scaled f fd)(G:AX P w K mg base 2 "_law_mul" ["_law_one","_law_other"] (C1 λx y=>x*y))(mt:mg "tuple" = none)(ml:mg "len" = none):
  Ai P w K mg base Ae 3 f fd ["_law_built","_law_share_here","_law_points_here"] Wb:=by
 refine F.Ax Gw λim A a1 s H vs Q E hr h=>?_
 obtain⟨a,sh,t,l,W,U,J,bs,pts,rfl,ha,⟨cs,hl,hC⟩,bt,hs,sf,⟨ts,ht,hP⟩,n3,q⟩:=h;have ay:=bt.m;have sW:=bt.w;have sU:=bt.u;exists _,AM (D8 (pv 0) (CZ (n:=3) rfl (Av (Ak 3 Gw) (Av (Ak 4 Gw) (Av (Ak 5 Gw) CV)))))
  (AM (AU 6 Gw (CJ AD))
  (AM (Bk oX rfl (DV (pv 5)) (Ak 7 Gw)
   (AR (Dr (DD pA qF qG Ed (pv 6) (AA (D5 E9 (by rfl) mt Dm (AA
    (DN (Nc:=["_law_number","_law_share_here"]) (cap:=[(1,1)]) (g:=BH 0) (te:=DO (C1 λx y=>x*y) [] E0 (A7 (Ag 1) (A7 (JB (A7 (Ag 0) (A7 (tC (.int 1)) Ba))) Ba))) rfl (Ds (pv 7))
    CD
    (λ_ _ _ _ _=>Bj (i:=0) mP rfl (qL rfl)) (λ_ _ _ _ _=>AS G (AA (pv 1) (AA (BB (AA (pv 0) (AA AB AD))) AD)))) AD)) AD)))))
  (AM (Bk oX rfl (DV (pv 2)) (CZ (n:=3) rfl (Av (Ak 8 Gw) (Av (Ak 9 Gw) (Av (Ak 10 Gw) CV)))) (AR (Dr (DD pA wR zu RX (pv 6) (AA (AN Bw (pv 8) (AN BM (C8 ml (pv 6)) AB)) (AA (BB (AA (pv 9) (AA (pv 10) (AA (pv 9) (AA (pv 10) AD))))) AD))))))
  (AR (Al (BB (AA (AS G (AA (pv 1) (AA (BB (AA (pv 3) (AA AB AD))) AD))) (AA (AS G (AA (pv 1) (AA (BB (AA (pv 4) (AA AB AD))) AD)))
   (AA (Lg mt (pv 6)) AD)))))))))
 have lc:cs.length=bs.length:=hC.1;exists _,rfl,a,_,rfl,AH.of ha,rfl,_,_,rfl,_,_,rfl,_,_,rfl,rfl;refine⟨by exact Fx,λL hL=>?_⟩;obtain⟨H1,zg,s1,zz⟩:=nw hL (.AE []);rw[zg];have g1:H1 L=some (.AE (([]:List Addr).map V.ref)):=zz;exists _,rfl,l,rfl,⟨_,AJ.of (s1 _ _ hl)⟩;refine IT (xs:=cs.map V.ref) (λi σ H2=>AK H H2/\∃(u:Option V) (ds:List Addr),σ=[some (.ref a),some (.ref sh),some (.ref t),some (.int W),some (.int U),some (.ref l),some (.ref L),u,none,none,none]/\H2 L=some (.AE (ds.map V.ref))/\At (As AO) H2 ds ((bs.map (BX J)).take i))
  ⟨s1,none,[],rfl,g1,At.nil⟩ (λi σ H2 _ ⟨s2,_⟩=>AJ.of (s2 _ _ hl)) ?_ ?_
 ·rintro i x σ H2 hx ⟨s2,u,ds,rfl,aa,hD⟩;obtain⟨cb,b,rfl,_,hb,fb⟩:=hC.ref hx;have hi:i<bs.length:=(oh.mp hb).1;have ld:ds.length<=i:=by rw[hD.1,pN];exact Nat.min_le_left _ _
  have aj:H2 cb=some (.AF ((b4 b).map V.int)):=s2 _ _ fb;refine⟨_,rfl,.inl ⟨rfl,_,AJ.of aa⟩,_,rfl,cb,rfl,⟨_,AH.of aj⟩,λae ao=>?_⟩;refine CP (F7 aj) (by show 4<=1000;decide) ao (λj ys σ hp=>∃es:List Addr,ys=es.map V.ref/\At AO hp es ((BX J b).take j)/\∃u,σ=[u,some (.ref sh)]) ⟨[],rfl,At.nil,none,rfl⟩ ?_ ?_
  ·rintro j au σ2 H6 x2 H7 hj am af ⟨es,rfl,hE,u2,rfl⟩ ⟨rfl,ar⟩ az al;obtain⟨e,rfl,he⟩:=MQ ar;refine⟨_,rfl,_,rfl,by exact CI,λp3 ah=>?_⟩;obtain⟨H8,zg,s3,g3⟩:=nw ah (.AF [.int e,.int 1]);rw[zg];refine⟨sh,p3,J,(e:Rat),rfl,(s2.trans (am.trans s3)) _ _ hs,PL g3,sf,Pd (Vi bt (oi hb) he),λp4 ai=>?_⟩;have s4:=AW ai (.AF [.int (J*(e:Rat)).num,.int (J*(e:Rat)).den]);have st:=s3.trans s4;refine al _ _ _ st ⟨es++[p4],#v[],?_,_,rfl⟩;rw[Bc (gM (q:=J) he)];exact(hE.keep A9 (Df ae st)).snoc (AO.BO (show AO _ p4 _ from AQ) (st _ _ af))
  rintro au σ2 H6 s6 af a0 ⟨es,rfl,hE,u2,rfl⟩;rw[show(BX J b).take ((b4 b).map V.int).length=BX J b from rfl]at hE;refine⟨ae,_,rfl,.inl ⟨AJ.of af,λO ad=>?_⟩⟩;have st:=AW ad (.AF (es.map V.ref));have gt:As AO (AG H6 O (.AF (es.map V.ref))) O (BX J b):=⟨es,AQ,(hE.keep A9 (DC H6 ae)).keep A9 st⟩;generalize AG H6 O (.AF (es.map V.ref))=H7 at st gt;have ab:=s6.trans st;refine⟨L,_,_,rfl,rfl,ab _ _ aa,by rw[kb];exact Et (),?_⟩;refine⟨F8 (s2.trans ab) hL _,_,ds++[O],rfl,by rw[AQ];simp,?_⟩;rw[Bc (x:=BX J b) (by rw[om,hb];rfl)];exact UH ((hD.keep EB ab).snoc gt) (ab _ _ aa) _
 ·rintro σ H2 ⟨s2,u,ds,rfl,aa,hD⟩;rw[kb,lc,oQ (by rw[kb]; lia  )] at hD;exists _,rfl,t,rfl,⟨_,AJ.of (s2 _ _ ht)⟩;have lt:ts.length=pts.length:=hP.1;refine IT (xs:=ts.map V.ref) (λi σ H3=>AK H H3/\∃(u8 u9 ua:Option V) (ds:List Addr) (rows:List (List Rat)),σ=[some (.ref a),some (.ref sh),some (.ref t),some (.int W),some (.int U),some (.ref l),some (.ref L),u,u8,u9,ua]/\H3 L=some (.AE (ds.map V.ref))/\At (As AO) H3 ds rows/\FU ((pts.map FQ).take i) (bs.map (BX J)) rows)
   ⟨s2,none,none,none,ds,_,rfl,aa,hD,FU.nil _⟩ (λi σ H3 _ ⟨s3,_⟩=>AJ.of (s3 _ _ ht)) ?_ ?_
  ·rintro i x σ H3 hx ⟨s3,u8,u9,ua,es,rows,rfl,ac,hE,hI⟩;obtain⟨cp,O,rfl,_,ad,px,py,fp,fx,fy⟩:=hP.ref hx;have il:=(oh.mp ad).1;have le:es.length=rows.length:=hE.1;have lr:=hI.l;rw[kb,pN,kb]at lr;exists cp,_,rfl,AH.of (s3 _ _ fp),rfl,_,_,rfl,_,_,rfl,_,_,rfl,rfl;refine⟨_,rfl,.inl ⟨rfl,_,AJ.of ac⟩,_,rfl,_,rfl,L,_,rfl,.inl (AJ.of ac),_,_,rfl,rfl,_,_,rfl,rfl,?_,_,rfl,_,rfl,_,rfl,_,rfl,by exact Dz,λp4 ai=>?_⟩
   ·show(0:Int)<_
    lia
   have s4:=AW ai (.AF [.ref px,.ref py,.ref px,.ref py]);have g4:As AO (AG H3 p4 (.AF [.ref px,.ref py,.ref px,.ref py])) p4 (FQ O):=by
    exists [px,py,px,py],AQ;have fx:=s4 _ _ (s3 _ _ fx);have fy:=s4 _ _ (s3 _ _ fy);exact(((At.nil.snoc (R:=AO) (b:=px) (x:=O.2.1) fx).snoc (b:=py) (x:=O.2.2) fy).snoc (b:=px) (x:=O.2.1) fx).snoc (b:=py) (x:=O.2.2) fy
   generalize AG H3 p4 (.AF [.ref px,.ref py,.ref px,.ref py])=H4 at s4 g4;have m1:=qK O.1 (show(((es.map V.ref).length:Int)+1)≠0 by lia);have m2:=qi O.1 (show 0<(((es.map V.ref).length:Int)+1) by lia);refine⟨L,_,_,_,rfl,rfl,s4 _ _ ac,m1,(),by rw[kb];lia,?_⟩;rw[cM];exists F8 (s3.trans s4) hL _,_,_,_,_,_,rfl,AQ,UH (At.Fz (hE.keep EB s4) _ g4) (s4 _ _ ac) _;rw[Bc (x:=FQ O) (by rw[om,ad];rfl)];exact hI.more _ (jO O)
  clear hD aa s2;rintro σ H3 ⟨s2,u8,u9,ua,ds,rows,rfl,aa,hD,hI⟩;rw[kb,lt,oQ (by rw[kb];exact oz _)]at hI;refine⟨_,rfl,_,rfl,by exact CI,λp3 ah=>?_⟩;obtain⟨H4,zg,s3,g3⟩:=nw ah (.AF [.int W,.int 1]);rw[zg];refine⟨sh,p3,J,(W:Rat),rfl,(s2.trans s3) _ _ hs,PL g3,sf,Pd (),λt1 ap=>?_⟩;obtain⟨H5,zg,s4,f1⟩:=JF ap (J*(W:Rat));rw[zg];refine⟨_,rfl,_,rfl,by exact CI,λp5 av=>?_⟩;obtain⟨H6,zg,s5,g5⟩:=nw av (.AF [.int U,.int 1]);rw[zg];have ak:=s3.trans (s4.trans s5);refine⟨sh,p5,J,(U:Rat),rfl,(s2.trans ak) _ _ hs,PL g5,sf,Pd (),λt2 ax=>?_⟩;obtain⟨H7,zg,s6,f2⟩:=JF ax (J*(U:Rat));rw[zg];have ag:=ak.trans s6;refine⟨_,rfl,L,_,rfl,.inl ⟨AJ.of (ag _ _ aa),λt3 aq=>?_⟩⟩;have v3:=AW aq (.AF (ds.map V.ref));have f3:As (As AO) (AG H7 t3 (.AF (ds.map V.ref))) t3 rows:=⟨ds,AQ,hD.keep EB (ag.trans v3)⟩;generalize AG H7 t3 (.AF (ds.map V.ref))=H8 at v3 f3;refine⟨by exact Dd,λpp aw=>?_⟩;have v4:=AW aw (.AF [.ref t1,.ref t2,.ref t3]);exact q pp rows _ (s2.trans (ag.trans (v3.trans v4))) ⟨t1,t2,t3,AQ,(s5.trans (s6.trans (v3.trans v4))) _ _ f1,(v3.trans v4) _ _ f2,Cq (R:=As AO) (λs h=>EB s h) v4 f3⟩ hI
theorem jm(h:At JP H ds rs)(e:H a=some (.AE ys))(o:HO):At JP (AG H a o) ds rs :=
 ⟨h.1,λi c x e1 e2=>by
  obtain⟨O,J,h1,h2,F⟩:=h.2 i c x e1 e2;have h2:H O=_:=h2;have F:H J=_:=F;exists O,J,?_,?_
  ·rw[AV (λz=>by rw[z,e]at h1;cases h1)];exact h1
  ·show AG H a o O=_;rw[AV (λz=>by rw[z,e]at h2;cases h2)];exact h2
  ·show AG H a o J=_;rw[AV (λz=>by rw[z,e]at F;cases F)];exact F⟩
structure QZ(W U:Int)(q:Rat)(t:Pt):Prop where
 x:∃i:Int,0<=i/\i<=12/\t.2.1=q*(((W*i:Int):Rat) / ((12:Int):Rat))
 y:∃j:Int,0<=j/\j<=12/\t.2.2=q*(((U*j:Int):Rat) / ((12:Int):Rat))
inductive Ww(K:ow)(vs:List V)(H:Hp)(Q:VK)(_:XK):Prop
 | mk (a b s l:Addr) (ns:List Int) (W U:Int) (q:Rat) (ab:vs=[.ref a,.int 5,.ref b,.ref s]) (ae:Qi K H a ns) (O:H b=some (.AF [.int W,.int U,.ref l])) (ac:AO H s q) (J:Sf q) (ad:1<=W/\W<=200) (F:1<=U/\U<=200)
   (aa:∀t pts H',AK H H'->BC JP H' t pts->pts.length<=3->(∀p∈pts,QZ W U q p)->Q (.ref t) H')
theorem J7:An ["_law_script","_law_first","_law_built","_law_share_here","_law_points_here","_law_k","_law_cell_here","_law_x","_law_y"] ["_law_script","_law_first","_law_built","_law_share_here"] (Ac s_law_points):=Aw
theorem VM{e:Int}(F:0<=e)(h1:e<=2400):Sf ((e:Rat) / ((12:Int):Rat)):=UQ ∅ () ∅
seal L2.Cd L2.PS L2.PE L2.PA in
set_option maxHeartbeats 8000000 in
theorem kK (F:Fun K "_law_points" "_law_points" s_law_points f fd)(G1:AX P w K mg base 1 "_law_cell" ["_law_script","_law_k"] (Mz K))(G2:AX P w K mg base 2 "_law_mul" ["_law_one","_law_other"] (C1 λx y=>x*y))
  (G3:AX P w K mg base 1 "_law_low" ["_law_top","_law_bottom"] Jy)(mr:mg "range" = none) :
  Ai P w K mg base Ae 3 f fd ["_law_script","_law_first","_law_built","_law_share_here"] (Ww K):=by
 refine F.Ax J7 λim A am s H vs Q E hr h=>?_
 obtain⟨a,b,sh,l,ns,W,U,sg,rfl,⟨hS,hn⟩,hb,hs,sf,⟨W1,W2⟩,⟨U1,U2⟩,q⟩:=h;exists _,AM (AU 4 J7 (CJ AD))
  (AM (Bk oX rfl (F4 (by rfl) mr (AA (AN Bw (AS G1 (AA (pv 0) (AA (pv 1) AD))) AB) AD)) (Ak 5 J7)
   (AM (AU 6 J7 (AS G1 (AA (pv 0) (AA (AN BM (AN BM (pv 1) AB) (AN Bw (pv 5) AB)) AD))))
   (AM (AU 7 J7 (AS G2 (AA (pv 3) (AA (AS G3 (AA (AN DU (pT (pv 2) AB) (AN Bw (pv 6) AB)) (AA AB AD))) AD))))
   (AM (AU 8 J7 (AS G2 (AA (pv 3) (AA (AS G3 (AA (AN DU (pT (pv 2) AB) (AN Bw (AN EM (pv 6) AB) AB)) (AA AB AD))) AD))))
   (AR (Dr (DD pA qF qG Ed (pv 4) (AA (BB (AA (AN EM (pv 6) AB) (AA (pv 7) (AA (pv 8) AD)))) AD))))))))
  (AR (Al (pv 4))))
 refine⟨by exact Fx,λL hL=>?_⟩;obtain⟨H1,J,s1,zz⟩:=nw hL (.AE []);rw[J];have g1:H1 L=some (.AE (([]:List Addr).map V.ref)):=zz;refine⟨_,G,_,G,a,ns,5,G,⟨s1.seq hS,hn⟩,∅,∅,λz=>?_⟩;have y0:=qK z (show(4:Int)≠0 by decide);have y1:=qi z (show(0:Int)<4 by decide);refine⟨_,_,G,G,(show(0:Int)<4 by decide),_,G,(),(),?_⟩;refine Fb (λi σ H2=>AK H H2/\∃(u5 u6 u7 u8:Option V) (ds:List Addr) (pts:List Pt),σ=[some (.ref a),some (.int 5),some (.ref b),some (.ref sh),some (.ref L),u5,u6,u7,u8]/\H2 L=some (.AE (ds.map V.ref))/\At JP H2 ds pts/\pts.length=i/\∀p∈pts,QZ W U sg p)
  ⟨s1,none,none,none,none,[],[],G,g1,At.nil,G,λp hp=>by cases hp⟩ ?_ ?_
 ·rintro i σ H2 hi ⟨O,u5,u6,u7,u8,ds,pts,rfl,aa,hD,rfl,hP⟩;have ld:ds.length=pts.length:=hD.1;have lp:(pts.length:Int)<4:=()
  have k0:=qK ((0:Int)+(pts.length:Nat)) (show(3:Int)≠0 by decide);have k1:=qi ((0:Int)+(pts.length:Nat)) (show(0:Int)<3 by decide);refine⟨_,G,_,G,_,_,G,G,_,G,_,_,G,G,(show(0:Int)<3 by decide),_,_,G,G,a,ns,_,G,⟨O.seq hS,hn⟩,(),(),λc=>?_⟩;have x0:=qK c (show(13:Int)≠0 by decide);have x1:=qi c (show(0:Int)<13 by decide);have w0:=qK (c / 13) (show(13:Int)≠0 by decide);have w1:=qi (c / 13) (show(0:Int)<13 by decide);have b0:0<=W*(c%13):=x8 () x0;have af:W*(c%13)<=2400:=zc (ac4 (show W<=200 by lia) (show c%13<=12 by lia) x0 ∅) ∅;have aj:0<=U*(c / 13%13):=x8 () w0;have ag:U*(c / 13%13)<=2400:=zc (ac4 (show U<=200 by lia) (show c / 13%13<=12 by lia) w0 ∅) ∅;refine⟨_,G,_,G,b,_,_,_,G,G,AH.of (O _ _ hb),Eu _ _ _,_,G,_,_,G,G,(show(0:Int)<13 by decide),_,_,G,G,.inl ⟨(),()⟩,_,12,G,∅,DY (n:=4) ∅ ∅,λp1 ah=>?_⟩;obtain⟨H3,J,s3,f3⟩:=JF ah (((W*(c%13):Int):Rat) / ((12:Int):Rat));rw[J];refine⟨sh,p1,sg,_,G,s3 _ _ (O _ _ hs),f3,sf,VM b0 af,λp2 ae=>?_⟩;generalize hx:sg*(((W*(c%13):Int):Rat) / ((12:Int):Rat))=vx;obtain⟨H4,J,s4,zz⟩:=nw ae (.AF [.int vx.num,.int vx.den]);rw[J];have f4:AO H4 p2 vx:=zz;have ac:=s3.trans s4;refine⟨_,G,_,G,b,_,_,_,G,G,AH.of (ac _ _ (O _ _ hb)),C6 _ _ _,_,G,_,_,G,G,⟨∅,∅⟩,_,_,G,G,(show(0:Int)<13 by decide),_,_,G,G,.inl ⟨(),()⟩,_,12,G,∅,DY (n:=4) ∅ ∅,λp3 ai=>?_⟩;obtain⟨H5,J,s5,f5⟩:=JF ai (((U*(c / 13%13):Int):Rat) / ((12:Int):Rat));rw[J];refine⟨sh,p3,sg,_,G,s5 _ _ (ac _ _ (O _ _ hs)),f5,sf,VM aj ag,λp4 al=>?_⟩;generalize hy:sg*(((U*(c / 13%13):Int):Rat) / ((12:Int):Rat))=vy;obtain⟨H6,J,s6,zz⟩:=nw al (.AF [.int vy.num,.int vy.den]);rw[J];have f6:AO H6 p4 vy:=zz;have ad:=ac.trans (s5.trans s6);refine⟨_,G,.inl ⟨G,_,AJ.of (ad _ _ aa)⟩,_,G,_,_,G,G,⟨∅,∅⟩,_,G,_,G,by exact Dd,λp5 ak=>?_⟩;have s7:=AW ak (.AF [.int (c / 169),.ref p2,.ref p4]);have f7:JP (AG H6 p5 (.AF [.int (c / 169),.ref p2,.ref p4])) p5 (c / 169,vx,vy):=⟨p2,p4,AQ,s7 _ _ (s6 _ _ (s5 _ _ f4)),s7 _ _ f6⟩;generalize AG H6 p5 (.AF [.int (c / 169),.ref p2,.ref p4])=H7 at s7 f7;have ab:=ad.trans s7;refine⟨L,_,_,G,G,ab _ _ aa,by rw[kb];exact Et (),?_⟩;refine⟨F8 (O.trans ab) hL _,_,_,_,_,ds++[p5],pts++[(c / 169,vx,vy)],G,by rw[AQ];simp,jm ((hD.keep kX ab).snoc f7) (ab _ _ aa) _,#v[],λp hp=>?_⟩;rcases oM.mp hp with hp|hp
  ·exact hP p hp
  ·rw[pH.mp hp];exact⟨⟨c%13,x0,(),hx.symm⟩,⟨c / 13%13,w0,(),hy.symm⟩⟩
 ·rintro σ H2 ⟨O,u5,u6,u7,u8,ds,pts,rfl,aa,hD,hl,hP⟩;exact⟨_,G,q L pts H2 O ⟨ds,aa,hD⟩ () hP⟩
end
end My
namespace My
open PySem L2 Mth Wd Fl
theorem QU{B Z t:Int}(e:(Z:Rat)*q=(t:Rat))(hd:(q.den:Int) ∣ B):wh B q*Z=B*t:=by
 have h:((wh B q*Z:Int):Rat)=((B*t:Int):Rat):=by rw[ph,ph,Gk hd,<-e];grind
 exact_mod_cast h
section
variable {Z c x y e f m n W U:Int}{bs:List AL}
theorem LC(F:0<Z)(O:0<c)(hx:x*Z=c*e)(J:y*Z=c*f):x<y↔e<f :=
 ⟨λh=>Int.lt_of_mul_lt_mul_left (a:=c) (by rw[<-hx,<-J];exact Int.mul_lt_mul_of_pos_right h F) (wJ O),λh=>Int.lt_of_mul_lt_mul_right (a:=Z) (by rw[hx,J];exact Int.mul_lt_mul_of_pos_left h O) (wJ F)⟩
theorem He(F:0<Z)(J:0<c)(hx:x*Z=c*e)(O:y*Z=c*f):x<=y↔e<=f:=by rw[<-Int.not_lt,<-Int.not_lt,LC F J O hx]
theorem Jm(F:0<Z)(J:0<c)(h:y*Z=c*e):y<=x↔e<=x*Z / c:=by
 rw[Int.le_ediv_iff_mul_le J,xH e c,<-h];exact⟨λz=>vE z (wJ F),λz=>Int.le_of_mul_le_mul_right z F⟩
structure Un(Z c:Int)(b q:AL):Prop where
 l:q.l*Z=c*b.l
 d:q.d*Z=c*b.d
 r:q.r*Z=c*b.r
 u:q.u*Z=c*b.u
theorem Un.KL{d}(u:Un Z c b d)(F:0<Z)(J:0<c):Dw (x*Z / c) (y*Z / c) b=true↔d.l<=x/\x<d.r/\d.d<=y/\y<d.u:=by
 have h1:=Jm (x:=x) F J u.l;have h2:=Jm (x:=x) F J u.r;have O:=Jm (x:=y) F J u.d;have h4:=Jm (x:=y) F J u.u;rw[Ge];generalize x*Z / c=X at *;generalize y*Z / c=Y at *
 lia
theorem Tile.Nx(t:Tile W U bs)(tb:∀b∈bs,tB b)(J:0<Z)(F:0<c)(hm:m*Z=c*W)(hn:n*Z=c*U){f:AL->AL}(hc:∀b∈bs,Un Z c b (f b)):E8 m n (bs.map f)/\∀b∈bs.map f,tB b:=by
 have z0:0*Z=c*0:=by rw[Int.zero_mul,Int.mul_zero]
 have ok:∀b∈bs.map f,tB b:=λb hb=>by
  obtain⟨a,O,rfl⟩:=oI.mp hb;exact⟨(LC J F (hc a O).l (hc a O).r).mpr (tb a O).1,(LC J F (hc a O).d (hc a O).u).mpr (tb a O).2⟩
 have nn:∀{x M V:Int},M*Z=c*V->0<=x->x<M->0<=x*Z / c/\x*Z / c<V:=λ{x M V} h a b=>by
  have h1:=Jm (x:=x) J F z0;have h2:=Jm (x:=x) J F h;generalize x*Z / c=X at *
  lia
 have aa:∀b∈bs.map f,0<=b.l/\0<=b.d/\b.r<=m/\b.u<=n:=λb hb=>by
  obtain⟨a,O,rfl⟩:=oI.mp hb;have i:=t.Bz a O;have u:=hc a O;exact⟨(He J F z0 u.l).mpr i.1,(He J F z0 u.d).mpr i.2.1,(He J F u.r hm).mpr i.2.2.1,(He J F u.u hn).mpr i.2.2.2⟩
 refine⟨⟨λb hb=>.inl (ok b hb),aa,λi j b d ac hi hj h1 h2=>?_,λx y a b c' d=>?_⟩,ok⟩
 ·have ib:=aa b (oi hi);rw[om]at hi hj;obtain⟨p,hp,rfl⟩:=qe.mp hi;obtain⟨q,hq,rfl⟩:=qe.mp hj;obtain⟨ip,rfl⟩:=oh.mp hp;obtain⟨iq,rfl⟩:=oh.mp hq;have u:=(hc _ (oi hp)).KL (x:=max (f bs[i]).l (f bs[j]).l) (y:=max (f bs[i]).d (f bs[j]).d) J F;have v:=(hc _ (oi hq)).KL (x:=max (f bs[i]).l (f bs[j]).l) (y:=max (f bs[i]).d (f bs[j]).d) J F;rw[v7,aaU,aaU]at h1 h2;have l1:=acJ (f bs[i]).l (f bs[j]).l;have l2:=acJ (f bs[i]).d (f bs[j]).d;have w1:=nn (x:=max (f bs[i]).l (f bs[j]).l) hm (zc ib.1 l1) (v7.mpr ⟨wK h1.1.1 ib.2.2.1,wK h1.2.1 ib.2.2.1⟩);have w2:=nn (x:=max (f bs[i]).d (f bs[j]).d) hn (zc ib.2.1 l2) (v7.mpr ⟨wK h2.1.1 ib.2.2.2,wK h2.2.1 ib.2.2.2⟩);have ab:=Zj ac iq (u.mpr ⟨l1,v7.mpr ⟨h1.1.1,h1.2.1⟩,l2,v7.mpr ⟨h2.1.1,h2.2.1⟩⟩) (v.mpr ⟨acn ..,v7.mpr ⟨h1.1.2,h1.2.2⟩,acn ..,v7.mpr ⟨h2.1.2,h2.2.2⟩⟩);rw[t.Aj _ _ w1.1 w1.2 w2.1 w2.2]at ab;exact absurd ab ∅
 ·have w1:=nn hm a b;have w2:=nn hn c' d;obtain⟨p,hp,ad⟩:=xY.mp (show 0<bs.countP (Dw (x*Z / c) (y*Z / c)) by rw[t.Aj _ _ w1.1 w1.2 w2.1 w2.2];decide);exact⟨_,oI.mpr ⟨p,hp,G⟩,((hc p hp).KL J F).mp ad⟩
end
theorem E8.pts(h:E8 m n ((CN rows).map (Bq B)))(hp:∀r∈rows,DA r=true->0<=(Bq B r).l/\0<=(Bq B r).d/\(Bq B r).r<=m/\(Bq B r).u<=n):E8 m n (rows.map (Bq B)):=by
 have ab:∀{r},DA r=true->(Bq B r).l=(Bq B r).r/\(Bq B r).d=(Bq B r).u:=λ{r} z=>by
  unfold DA at z;rw[sj,tr,tr]at z;exact⟨congrArg (wh B) z.1,congrArg (wh B) z.2⟩
 have all:∀b∈rows.map (Bq B),b∈(CN rows).map (Bq B)\/∃r∈rows,DA r=true/\Bq B r=b:=λb J=>by
  obtain⟨r,F,rfl⟩:=oI.mp J;by_cases z:DA r=true
  ·exact .inr ⟨r,F,z,G⟩
  ·exact .inl (oI.mpr ⟨r,rW.mpr ⟨F,by simpa using z⟩,G⟩)
 refine⟨λb J=>?_,λb J=>?_,λi j b c aa hi O h1 h2=>?_,λx y a b c d=>?_⟩
 ·rcases all b J with z|⟨r,_,z,rfl⟩
  ·exact h.ok b z
  ·exact .inr (ab z)
 ·rcases all b J with z|⟨r,F,z,rfl⟩
  ·exact h.Bz b z
  ·exact hp r F z
 ·have P:(CN rows).Pairwise λr q=>¬(max (Bq B r).l (Bq B q).l<min (Bq B r).r (Bq B q).r/\max (Bq B r).d (Bq B q).d<min (Bq B r).u (Bq B q).u) :=
   qg.mpr λi j hi O aa z=>h.Nw i j _ _ aa (by rw[om,og hi];rfl) (by rw[om,og O];rfl) z.1 z.2
  rw[CN,List.pairwise_filter]at P;rw[om]at hi O;obtain⟨p,hp,rfl⟩:=qe.mp hi;obtain⟨q,hq,rfl⟩:=qe.mp O;obtain⟨ip,rfl⟩:=oh.mp hp;obtain⟨iq,rfl⟩:=oh.mp hq;refine qg.mp P i j ip iq aa ?_ ?_ ⟨h1,h2⟩<;>rw[v7,aaU,aaU]at h1
  ·cases z:DA rows[i]
   ·rfl
   ·exact absurd h1.1.1 (by rw[(ab z).1];exact adg _)
  ·cases z:DA rows[j]
   ·rfl
   ·exact absurd h1.2.2 (by rw[(ab z).1];exact adg _)
 ·obtain⟨q,hq,z⟩:=h.Lj x y a b c d;obtain⟨r,F,rfl⟩:=oI.mp hq;exact⟨_,oI.mpr ⟨r,(rW.mp F).1,G⟩,z⟩
structure DB(W U T D:Int)(s:Rat)(bs:List AL):Prop where
 bt:Bt W U bs
 e:(D:Rat)*s=(T:Rat)
 t:1<=T/\T<=9999
 d:1<=D/\D<=999
section
variable {W U T D B:Int}{s:Rat}{bs:List AL}{rows:List (List Rat)}{pts:List Pt}
theorem DB.nt(h:DB W U T D s bs){v:Int}:((12*D:Int):Rat)*(s*(v:Rat))=((12*T*v:Int):Rat):=by
 have:=h.e
 rw[ph,ph,ph,<-this];grind
theorem DB.np(h:DB W U T D s bs){v:Int}:((12*D:Int):Rat)*(s*((v:Rat) / ((12:Int):Rat)))=((T*v:Int):Rat):=by
 have:=h.e
 have F:((12:Int):Rat)*((v:Rat) / ((12:Int):Rat))=v:=by rw[vf];exact uo ∅
 rw[ph,ph,<-this];grind
theorem DB.s0(h:DB W U T D s bs):0<s:=by
 have e:=h.e;have J:(0:Rat)<(T:Rat):=by have:=h.t;exact_mod_cast (show(0:Int)<T by lia)
 have F:(0:Rat)<(D:Rat):=by have:=h.d;exact_mod_cast (show(0:Int)<D by lia)
 exact Rat.not_le.mp λz=>by
  have:=sM (Rat.le_of_lt F) (show 0<=-s by grind)
  grind
theorem DB.num(h:DB W U T D s bs){t:Int}(e:((12*D:Int):Rat)*q=(t:Rat))(F:t.natAbs<=2 ^ 64):(q.den:Int) ∣ 12*D/\Sf q:=by
 have hd:=h.d;have z:=IQ (a:=64) (b:=64) (show 12*D≠0 by lia) e F ();exact⟨Tf e,oO z.1 Ls,oO z.2 Ls⟩
theorem DB.no(h:DB W U T D s bs):∀r∈bs.map (BX s),DA r=false:=λr O=>by
 obtain⟨b,J,rfl⟩:=oI.mp O;unfold DA;rw[aav]
 left
 rw[decide_eq_false_iff_not];show ¬s*(b.l:Rat)=s*(b.r:Rat);have l:=(h.bt.b b J).1;have F:((b.l:Int):Rat)<(b.r:Rat):=by exact_mod_cast l
 have:=wm F h.s0
 grind
theorem DB.CN(h:DB W U T D s bs)(I:FU (pts.map FQ) (bs.map (BX s)) rows):CN rows=bs.map (BX s):=I.f.trans (abc.mpr λr F=>by rw[h.no r F];rfl)
theorem DB.un(h:DB W U T D s bs)(B0:0<B)(O:∀q∈nums (s*(W:Rat)) (s*(U:Rat)) (bs.map (BX s)),(q.den:Int) ∣ B):
  wh B (s*(W:Rat))*(12*D)=B*(12*T)*W/\wh B (s*(U:Rat))*(12*D)=B*(12*T)*U/\∀b∈bs,Un (12*D) (B*(12*T)) b (Bq B (BX s b)):=by
 have w:∀{v:Int},s*(v:Rat)∈nums (s*(W:Rat)) (s*(U:Rat)) (bs.map (BX s))->wh B (s*(v:Rat))*(12*D)=B*(12*T)*v:=λ{v} hv=>by rw[QU h.nt (O _ hv),xo B]
 refine⟨w #v[],w #v[],λb F=>?_⟩;have m:∀q∈BX s b,q∈nums (s*(W:Rat)) (s*(U:Rat)) (bs.map (BX s)):=λq J=>by
  simp only[oG];exact .inr (.inr (pV.mpr ⟨_,oI.mpr ⟨b,F,G⟩,J⟩))
 exact⟨w (m _ (by simp[BX])),w (m _ (by simp[BX])),w (m _ (by simp[BX])),w (m _ (by simp[BX]))⟩
theorem DB.Nx(h:DB W U T D s bs)(B0:0<B)(hB:∀q∈nums (s*(W:Rat)) (s*(U:Rat)) (bs.map (BX s)),(q.den:Int) ∣ B):E8 (wh B (s*(W:Rat))) (wh B (s*(U:Rat))) ((bs.map (BX s)).map (Bq B))/\∀b∈(bs.map (BX s)).map (Bq B),tB b:=by
 obtain⟨F,J,O⟩:=h.un B0 hB;rw[rC];exact Tile.Nx h.bt.t h.bt.b (by have:=h.d;lia) (wt B0 (by have:=h.t;lia)) F J O
theorem DB.Qp(h:DB W U T D s bs)(hp:∀p∈pts,QZ W U s p)(n3:pts.length<=3)(I:FU (pts.map FQ) (bs.map (BX s)) rows):N3 (s*(W:Rat)) (s*(U:Rat)) rows (12*D):=by
 obtain⟨T1,T2⟩:=h.t;obtain⟨D1,D2⟩:=h.d;have bw:=h.bt.w;have bu:=h.bt.u;have ae:=h.bt.m;have ab:∀{v:Int},v.natAbs<=200->(12*T*v).natAbs<=2 ^ 64:=λ{v} hv=>by
  rw[pP,pP];exact oO (wX (rN _ (show T.natAbs<=9999 by lia)) hv) ∅
 have O:∀{V i:Int},1<=V->V<=200->0<=i->i<=12->0<=T*(V*i)/\T*(V*i)<=12*T*V/\(T*(V*i)).natAbs<=2 ^ 64:=λ{V i} h1 h2 h3 h4=>by
  have a:=x8 (show 0<=V by lia) h3;have b:=xW h4 (show 0<=V by lia);exists x8 () a,?_
  ·rw[xH 12 T,xo,xH 12 V];exact xW b ()
  ·rw[pP];exact oO (wX (show T.natAbs<=9999 by lia) (show(V*i).natAbs<=2400 by lia)) ∅
 have cs:=I.m;refine⟨by have:=I.l;rw[kb,kb]at this;lia,λr F=>?_,(),oO (show(12*D).natAbs<=2 ^ 14 by lia) (qj ∅ ∅),λq hq=>?_,λB B0 hB=>?_⟩
 ·rcases cs r F with z|z
  ·obtain⟨b,_,rfl⟩:=oI.mp z;rfl
  ·obtain⟨p,_,rfl⟩:=oI.mp z;rfl
 ·simp only[oG]at hq;rcases hq with rfl|rfl|hq
  ·exact h.num h.nt (ab ())
  ·exact h.num h.nt (ab ())
  ·obtain⟨r,F,hq⟩:=pV.mp hq;rcases cs r F with z|z
   ·obtain⟨b,hb,rfl⟩:=oI.mp z;obtain⟨v,hv,rfl⟩:=oI.mp hq;obtain⟨j,hj⟩:=aaC.mp hv;exact h.num h.nt (ab (Vi h.bt hb hj))
   ·obtain⟨p,aa,rfl⟩:=oI.mp z;obtain⟨⟨i,i0,i1,ei⟩,⟨j,j0,j1,ej⟩⟩:=hp p aa;simp only[FQ,oG,o3,qN]at hq;have qx:=h.num (q:=p.2.1) (by rw[ei];exact h.np) (O bw.1 bw.2 i0 i1).2.2;have qy:=h.num (q:=p.2.2) (by rw[ej];exact h.np) (O bu.1 bu.2 j0 j1).2.2;rcases hq with rfl|rfl|rfl|rfl<;>assumption
 ·have so:=h.CN I;have hs:∀q∈nums (s*(W:Rat)) (s*(U:Rat)) (bs.map (BX s)),(q.den:Int) ∣ B:=λq hq=>hB q (by
   simp only[oG]at hq ⊢;refine hq.imp_right λz=>z.imp_right λz=>?_
   obtain⟨r,F,z⟩:=pV.mp z;rw[<-so]at F;exact pV.mpr ⟨r,(rW.mp F).1,z⟩)
  obtain⟨hm,hn,hc⟩:=h.un B0 hs;have J:0<12*D:=()
  have c0:0<B*(12*T):=wt B0 ();have z0:∀c:Int,0*(12*D)=c*0:=λc=>by rw[Int.zero_mul,Int.mul_zero]
  refine⟨(LC J c0 (z0 _) hm).mpr (),(LC J c0 (z0 _) hn).mpr (),E8.pts (by rw[so];exact(h.Nx B0 hs).1) λr F z=>?_⟩;rcases cs r F with y|y
  ·rw[h.no r y]at z;cases z
  ·obtain⟨p,aa,rfl⟩:=oI.mp y;obtain⟨⟨i,i0,i1,ei⟩,⟨j,j0,j1,ej⟩⟩:=hp p aa;have ac:∀q∈FQ p,(q.den:Int) ∣ B:=λq hq=>hB q (by simp only[oG];exact .inr (.inr (pV.mpr ⟨_,F,hq⟩)))
   have wx:=QU (by rw[ei];exact h.np) (ac p.2.1 (by simp[FQ]));have wy:=QU (by rw[ej];exact h.np) (ac p.2.2 (by simp[FQ]));have bx:=O bw.1 bw.2 i0 i1;have ad:=O bu.1 bu.2 j0 j1;rw[xo]at hm hn;exact⟨(He J B0 (z0 _) wx).mpr bx.1,(He J B0 (z0 _) wy).mpr ad.1,(He J B0 wx hm).mpr bx.2.1,(He J B0 wy hn).mpr ad.2.1⟩
end
end My
namespace My
open PySem L2 Mth Wd Fl Ln
variable {ts:List (List Int)}
theorem NX{x y q:Rat}(F:y≠0)(e:x=q*y):x / y=q:=by rw[e];exact Rat.mul_div_cancel F
theorem JD.WN(h:JD rs ts Y p)(e:∀r∈rs,Y' r.1=Y r.1/\Y' r.2.1=Y r.2.1):JD rs ts Y' p :=
 ⟨h.Qd,λk r F=>by have z:=e r (oi F);rw[h.df k r F];unfold BI;rw[z.1,z.2],h.o⟩
def HM(X:List Sd)(j:Nat):Rat:=((X.getD j (0,0,0)).v:Rat)
theorem HZ(h:X[j]?=some s):HM X j=((s.v:Int):Rat):=by unfold HM;rw[oj,h];rfl
theorem BW.XU(G:BW m n bs X)(aa:∀x,Au (2*bs.length+2) x->pB m bs (Ar ts x)=pB m bs x)(c:Rat):JD (Bb X bs) ts (λj=>c*HM X j) (λx=>c*(pB m bs x:Rat)):=by
 exists λx O=>?_,λk r J=>?_
 ·rw[kb]at O;show c*_=c*_;rw[aa x O]
 ·rw[om]at J;obtain⟨b,F,rfl⟩:=qe.mp J;obtain⟨⟨t,t1,t2,_⟩,⟨u,u1,u2,_⟩⟩:=G.ln (oi F);have hd:((b.d:Int):Rat)<(b.u:Rat):=by exact_mod_cast (G.np b (oi F)).2
  show c*_-c*_=((b.r-b.l:Int):Rat) / ((b.u-b.d:Int):Rat)*(c*HM X (Bu X b).1-c*HM X (Bu X b).2.1);rw[(LG F).1,(LG F).2,HZ t1,HZ u1,t2,u2,tY,tY];have z:((b.r:Rat)-(b.l:Rat)) / ((b.u:Rat)-(b.d:Rat))*((b.u:Rat)-(b.d:Rat))=(b.r:Rat)-(b.l:Rat):=uo (by grind)
  grind
 ·rw[kb];show c*_=0;rw[P0.1];exact zx c
structure nj(W U:Int)(s:Rat)(bs:List AL)(n:Nat)(rs:List Ap)(ts:List (List Int)):Prop where
 k:Fq (n+2) rs ts
 le:rs.length=bs.length
 ea:∀{B:Nat} {Y:Nat->Rat},EG n B rs Y->CS Y rs 0=(W:Rat) / (U:Rat)
 ht:∀{B:Nat} {Y:Nat->Rat},EG n B rs Y->∀{k:Nat} {b:AL},bs[k]?=some b->∃r,rs[k]?=some r/\Y r.1=(b.u:Rat) / (U:Rat)/\Y r.2.1=(b.d:Rat) / (U:Rat)
 fl:∀{B:Nat} {Y:Nat->Rat},EG n B rs Y->∃p,JD rs ts (λj=>Y j*(s*(U:Rat))) p/\p (2*(rs.length:Int)+1)=s*(W:Rat)/\Im p (λj=>Y j*(s*(U:Rat))) rs=bs.map (BX s)
section
variable {W U T D B m n:Int}{s:Rat}{bs cs:List AL}{X:List Sd}{p:List Nat}
theorem DB.out(h:DB W U T D s bs)(B0:0<B)(hB:∀q∈nums (s*(W:Rat)) (s*(U:Rat)) (bs.map (BX s)),(q.den:Int) ∣ B)(em:m=wh B (s*(W:Rat)))(en:n=wh B (s*(U:Rat)))(ec:cs=(bs.map (BX s)).map (Bq B))(G:BW m n cs X)(o:Fm (cs.map AL.l) p):
  ∃N,X.length=N+2/\nj W U s bs N (Bb X cs) ((Cp X.length (Bb X cs) p).map Cb):=by
 have s0:=h.s0;have bw:=h.bt.w;have bu:=h.bt.u;have b0:(0:Rat)<(B:Rat):=by exact_mod_cast B0
 have u0:(0:Rat)<(U:Rat):=by exact_mod_cast (show(0:Int)<U by lia)
 have cm:((m:Int):Rat)=(B:Rat)*(s*(W:Rat)):=by rw[em];exact Gk (hB _ #v[])
 have cn:((n:Int):Rat)=(B:Rat)*(s*(U:Rat)):=by rw[en];exact Gk (hB _ #v[])
 have n0:((n:Int):Rat)≠0:=λz=>by
  have h1:=G.n0;have h2:n=0:=by exact_mod_cast z
  lia
 have lc:cs.length=bs.length:=by rw[ec,kb,kb]
 have ab:∀{k:Nat} {b:AL},bs[k]?=some b->∃d:AL,cs[k]?=some d/\(d.l:Rat)=(B:Rat)*(s*(b.l:Rat))/\(d.d:Rat)=(B:Rat)*(s*(b.d:Rat))/\(d.r:Rat)=(B:Rat)*(s*(b.r:Rat))/\(d.u:Rat)=(B:Rat)*(s*(b.u:Rat)):=λ{k b} J=>by
  have i:∀q∈BX s b,(q.den:Int) ∣ B:=λq hq=>hB q (by simp only[oG];exact .inr (.inr (pV.mpr ⟨_,oI.mpr ⟨b,oi J,rfl⟩,hq⟩)))
  exact⟨Bq B (BX s b),by rw[ec,om,om,J];rfl,Gk (i _ (by simp[BX])),Gk (i _ (by simp[BX])),Gk (i _ (by simp[BX])),Gk (i _ (by simp[BX]))⟩
 obtain⟨k,ac⟩:=G.nU o (by rw[lc];exact h.bt.m) λd hd=>by
  obtain⟨j,hj⟩:=aaC.mp hd;have jl:j<bs.length:=by rw[<-lc];exact(oh.mp hj).1
  have J:=og jl;generalize bs[j]=b at J;have bm:=oi J;obtain⟨d',O,e2,e3,e4,e5⟩:=ab J;rw[hj]at O;cases O;have tb:=h.bt.b b bm;have ib:=h.bt.t.Bz b bm;unfold Ke at ib;have c1:((b.d:Int):Rat)<(b.u:Rat):=by exact_mod_cast tb.2
  have ez:=bN (t:=b.r-b.l) (b:=b.u-b.d) () () () ();rw[tY,tY]at ez ⊢;rw[e2,e3,e4,e5];rw[show((B:Rat)*(s*(b.r:Rat))-(B:Rat)*(s*(b.l:Rat))) / ((B:Rat)*(s*(b.u:Rat))-(B:Rat)*(s*(b.d:Rat)))=((b.r:Rat)-(b.l:Rat)) / ((b.u:Rat)-(b.d:Rat)) by
   have n1:(b.u:Rat)-(b.d:Rat)≠0:=by grind
   have n2:(B:Rat)*s≠0:=λz=>by rcases sS.mp z with z|z<;>grind
   have e:=uo (a:=(b.r:Rat)-(b.l:Rat)) n1;exact NX (λz=>by rcases sS.mp (show((B:Rat)*s)*((b.u:Rat)-(b.d:Rat))=0 by grind)with z|z<;>contradiction) (by grind)]
  exact ez
 generalize (Cp X.length (Bb X cs) p).map Cb=ts at *;obtain⟨N,eN⟩:∃N,X.length=N+2:=⟨X.length-2,by have:=k.n2;lia⟩;rw[eN]at k;have lr:(Bb X cs).length=cs.length:=kb _;have ci:=abH (n:Rat) n0;have bi:=abH (B:Rat) (by grind);have P:=G.XU ac (n:Rat)⁻¹;have hY:∀{B':Nat} {Y:Nat->Rat},EG N B' (Bb X cs) Y->∀j,j<N+2->Y j=(n:Rat)⁻¹*HM X j:=λ{B' Y} hx=>bB k.k hx (Y:=λj=>(n:Rat)⁻¹*HM X j) (by show _*_=_;rw[HZ G.x0];exact ci) (by show _*_=_;rw[HZ G.x1];exact zx _) λi h2 hi=>by rw[Sn k P hi,oC (),oC ()]
 have aa:∀r∈Bb X cs,r.1<N+2/\r.2.1<N+2:=λr F=>(k.Ng r F).2
 have pm:=P0 (m:=m) (bs:=cs);refine⟨N,eN,k,lr.trans lc,λ{B' Y} hx=>?_,λ{B' Y} hx j b J=>?_,λ{B' Y} hx=>?_⟩
 ·rw[Sn k (P.WN λr F=>⟨hY hx _ (aa r F).1,hY hx _ (aa r F).2⟩) (),oH rfl,lr];show(n:Rat)⁻¹*_=_;rw[pm.2,cm];exact(NX (by grind) (by grind)).symm
 ·obtain⟨d,O,e2,e3,e4,e5⟩:=ab J;have F:(Bb X cs)[j]?=some (Bu X d):=by rw[om,O];rfl
  obtain⟨⟨t,t1,t2,_⟩,⟨v,v1,v2,_⟩⟩:=G.ln (oi O);have tw:=aa _ (oi F);exists _,F,?_
  ·rw[hY hx _ tw.1,HZ t1,t2,e5];exact(NX (by grind) (by grind)).symm
  ·rw[hY hx _ tw.2,HZ v1,v2,e3];exact(NX (by grind) (by grind)).symm
 ·have ad:∀r∈Bb X cs,Y r.1*(s*(U:Rat))=(B:Rat)⁻¹*HM X r.1/\Y r.2.1*(s*(U:Rat))=(B:Rat)⁻¹*HM X r.2.1:=λr F=>by
   have y1:=hY hx _ (aa r F).1;have y2:=hY hx _ (aa r F).2;have e:(n:Rat)⁻¹*(s*(U:Rat))=(B:Rat)⁻¹:=by grind
   rw[y1,y2,<-e];constructor<;>grind
  refine⟨_,(G.XU ac (B:Rat)⁻¹).WN ad,?_,t5 λj=>?_⟩
  ·rw[lr];show(B:Rat)⁻¹*_=_;rw[pm.2,cm];grind
  ·rw[om];cases J:bs[j]? with
   |none=>exact pM (by rw[R4,lr,lc];exact List.getElem?_eq_none_iff.mp J)
   |some b =>
    obtain⟨d,O,e2,e3,e4,e5⟩:=ab J;have F:(Bb X cs)[j]?=some (Bu X d):=by rw[om,O];rfl
    obtain⟨⟨t,t1,t2,_⟩,⟨v,v1,v2,_⟩⟩:=G.ln (oi O);obtain⟨k1,k2⟩:=ad _ (oi F);rw[Tp F];show some (LR _ _ _ _)=some [s*(b.l:Rat),s*(b.d:Rat),s*(b.r:Rat),s*(b.u:Rat)];unfold LR;dsimp only;rw[k1,k2,(LG O).1,(LG O).2,HZ t1,HZ v1,t2,v2,e2,e3,e4,e5];have tb:=h.bt.b b (oi J);have c1:((b.l:Int):Rat)<(b.r:Rat):=by exact_mod_cast tb.1
    have c2:((b.d:Int):Rat)<(b.u:Rat):=by exact_mod_cast tb.2
    have c3:=wm c1 s0;have c4:=wm c2 s0;have bx:∀q:Rat,(B:Rat)⁻¹*((B:Rat)*q)=q:=λq=>by grind
    rw[bx,bx,bx,bx];unfold Lh Li
    grind
open PySem.Spec PyProof.Rows
def KN(q:Rat):rj:=.tuple [.int q.num,.int (q.den:Int)]
def WH(r:List Rat):rj:=.tuple (r.map KN)
def Uh(W U:Rat)(rows:List (List Rat)):rj:=.tuple [KN W,KN U,.tuple (rows.map WH)]
theorem Jq{n:Nat}(q:Rat):FX (n+1) (KN q):=.AF λd hd=>by
 simp only[oG,o3,qN]at hd;rcases hd with rfl|rfl<;>exact .int _
theorem ZU(W U:Rat)(rows:List (List Rat)):FX 4 (Uh W U rows):=.AF λd hd=>by
 simp only[oG,o3,qN]at hd;rcases hd with rfl|rfl|rfl
 ·exact Jq W
 ·exact Jq U
 ·refine .AF λd hd=>?_
  obtain⟨r,_,rfl⟩:=oI.mp hd;refine .AF λd hd=>?_
  obtain⟨q,_,rfl⟩:=oI.mp hd;exact Jq q
theorem Gp{p:Addr}(h:AO H p q):D0 H (.ref p) (KN q):=by
 refine .AF h rfl λi x d F J=>?_
 match i,F,J with
 |0,F,J=>cases F;cases J;exact .int _
 |1,F,J=>cases F;cases J;exact .int _
 |n+2,F,J=>simp at F
theorem Vv{α:Type}{R:Hp->Addr->α->Prop}{D:α->rj}(hR:∀{H p x},R H p x->D0 H (.ref p) (D x)){H:Hp}{p:Addr}{xs:List α}(h:As R H p xs):D0 H (.ref p) (.tuple (xs.map D)):=by
 obtain⟨cs,hp,J⟩:=h;refine .AF hp (by rw[kb,kb,J.1]) λi x d F O=>?_
 rw[om]at F O;obtain⟨c,ec,rfl⟩:=qe.mp F;obtain⟨y,ey,rfl⟩:=qe.mp O;exact hR (J.2 i c y ec ey)
theorem SO{W:Rat}{U:Rat}(h:FE H a W U rows):D0 H (.ref a) (Uh W U rows):=by
 obtain⟨p,q,r,ha,fW,O,fR⟩:=h;refine .AF ha rfl λi x d F J=>?_
 match i,F,J with
 |0,F,J=>cases F;cases J;exact Gp fW
 |1,F,J=>cases F;cases J;exact Gp O
 |2,F,J=>cases F;cases J;exact Vv (R:=As AO) (D:=WH) (λh=>Vv (R:=AO) (D:=KN) (λh=>Gp h) h) fR
 |n+3,F,J=>simp at F
theorem kR(h1:CQ H T1 q1)(h2:CQ H T2 q2)(F:WS T1 T2 H H')(e:H b=some o)(n:∀z,o≠.CT z):H' b=some o:=by
 obtain⟨J,t1,_⟩:=h1;obtain⟨O,t2,_⟩:=h2;exact F b o (λz=>by rw[z,t1]at e;exact n _ (oV e).symm) (λz=>by rw[z,t2]at e;exact n _ (oV e).symm) e
variable {P:pG}{w:World}{K:ow}{mg:Str->Option Value}{base:Heap}{f T1 T2:Addr}{fd:qU}
def NP(K:ow)(T1 T2:Addr):Sp:=λvs H Q _=>∃(a:Addr) (ns:List Int),vs=[.ref a]/\AJ K H a (ns.map V.int)/\ns.length<=63/\CQ H T1 NJ/\CQ H T2 J2/\T2≠T1/\∀H',Q (.bl true) H'
theorem ER:An ["_law_script","_law_built","_law_share_here","_law_floor","_law_net","_law_due","_law_found","_law_high","_law_k","_law_one","_law_other","_law_ease","_law_low_here","_law_top"] ["_law_script"] (Ac sLaw):=Aw
theorem lg:(["_law_box"]:List Str).Nodup:=by decide +kernel
set_option maxHeartbeats 8000000 in
seal L2.Cd L2.PS L2.PE L2.PA in
theorem jN (F0 : Fun K "law" "law" sLaw f fd) (G1 : AX P w K mg base 1 "_law_cell" ["_law_script", "_law_k"] (Mz K)) (G2 : AX P w K mg base 4 "_law_boxes" ["_law_script", "_law_first", "_law_most"] (Wo K))
    (G3:AX P w K mg base 2 "_law_share" ["_law_cell_here"] Wh) (G4:AX P w K mg base 3 "_law_scaled" ["_law_built","_law_share_here","_law_points_here"] Wb) (G5:AX P w K mg base 3 "_law_points" ["_law_script","_law_first","_law_built","_law_share_here"] (Ww K))
    (G6:AX P w K mg base 7 "net_of" ["floor"] (Wv T1 T2)) (G7:AX P w K mg base 6 "laid" ["net","fall"] Uk) (G8:AX P w K mg base 3 "_law_fractions" ["_law_found","_law_many"] OW) (G9:AX P w K mg base 5 "heights" ["net"] NO)
    (GL:AX P w K mg base 1 "_law_low" ["_law_top","_law_bottom"] Jy) (GE:AX P w K mg base 7 "ease_of" ["net"] R3) (ml:mg "len" = none) (mr:mg "range" = none) (ms:mg "isinstance" = none) (mt:mg "tuple" = none) (ma:mg "all" = none) :
    Ai P w K mg base Ae 8 f fd ["_law_script"] (NP K T1 T2):=by
  refine F0.ok ER (λvs H Q E h => ?_) (λim A cf s H vs Q E hr h => ?_)
  · obtain⟨a,ns,rfl,_⟩:=h;rfl
  obtain⟨a,ns,rfl,hS,hn,ah,af,nT,q⟩:=h;have hu:=hr.units;exists _,AM (AU 1 ER (AS G2 (AA (pv 0) (AA AB (AA (pL (CJ (AA AB (AA AB (AA AB (AA AB AD))))) (AN Bw (AS G1 (AA (pv 0) (AA AB AD))) AB)) AD)))))
    (AM (AU 2 ER (AS G3 (AA (AS G1 (AA (pv 0) (AA AB AD))) AD)))
    (AM (AU 3 ER (AS G4 (AA (pv 1) (AA (pv 2) (AA (AS G5 (AA (pv 0) (AA AB (AA (pv 1) (AA (pv 2) AD))))) AD)))))
    (AM (AU 4 ER (AS G6 (AA (pv 3) AD)))
    (AM (AU 5 ER (AS G4 (AA (pv 1) (AA (pv 2) (AA (CJ AD) AD)))))
    (AM (AU 6 ER (AS G7 (AA (pv 4) (AA (pT (pv 3) AB) AD))))
    (AM (BU (PW.pt (GH (Gi (Ei (CA (Jd (c := .ty "tuple") (cv := .type "tuple") λ_ z => z) (by rfl) ms JS (AA (pv 6) (AA (Jl (v := .ty "tuple") (by rfl) mt Dm rfl) AD)))))
      (GH (BF GF (C8 ml (pv 6)) AB)
      (Jo (Gi (Ei (CA (Jd (c := .ty "tuple") (cv := .type "tuple") λ_ z=>z) (by rfl) ms JS (AA (pT (pv 6) AB) (AA (Jl (v := .ty "tuple") (by rfl) mt Dm rfl) AD))))))))) Ee Bg)
    (AM (BU (PW.pt (GH (Gi (Ei (AS G8 (AA (Ef Lv (pv 6) Fe (D7 AB)) (AA AB AD)))))
      (GH (Gi (Ei (CA (RI rfl) (by rfl) ma UO (AA (DN (Nc := ["_law_box"]) (cap := []) (g := BH 0) (te := DO OW [] E0 (A7 (Ag 0) (A7 (tC (.int 4)) Ba))) rfl (Ds (pT (pv 6) AB))
        CD (λ_ _ _ _ _=>Bj (i:=0) lg rfl (qL rfl)) (λ_ _ _ _ _=>AS G8 (AA (pv 0) (AA AB AD)))) AD))))
      (Jo (BF (PX hu) (pv 6) (pv 5)))))) Ee Bg)
    (AM (AU 7 ER (AS G9 (AA (pv 4) AD)))
    (AM (Bk oX rfl (F4 (by rfl) mr (AA (C8 ml (pT (pv 1) AB)) AD)) (Ak 8 ER)
      (AM (D8 (pT (pT (pv 4) AB) (pv 8)) (CZ (n:=3) rfl (Av (Ak 9 ER) (Av (Ak 10 ER) (Av (Ak 11 ER) CV)))))
      (AM (AU 12 ER (pT (pL (pT (pv 1) AB) (pv 8)) AB))
      (AM (AU 13 ER (pT (pL (pT (pv 1) AB) (pv 8)) AB))
      (AR (BU (PW.pt (GH (BF (PX hu) (pT (pv 7) (pv 9)) (AS GL (AA (pv 13) (AA (pT (pv 1) AB) AD))))
        (Jo (BF (PX hu) (pT (pv 7) (pv 10)) (AS GL (AA (pv 12) (AA (pT (pv 1) AB) AD))))))) Ee Bg))))))
    (AR (Al (EH (jk hu) (AS GE (AA (pv 4) AD)) (AS GL (AA (pT (pv 1) AB) (AA (pT (pv 1) AB) AD)))))))))))))))
  refine⟨_,rfl,by exact Dz,λp1 bz => ?_⟩;refine BS bz (.AE [V.int 11,.int 12,.int 13,.int 14]) λH1 s1 g1 => ?_
  refine⟨_,rfl,a,ns,4,rfl,⟨s1.seq hS,hn⟩,∅,∅,λz => ?_⟩;obtain⟨v,ev,v6⟩:=Pp z (u:=[11,12,13,14]);refine⟨_,_,rfl,rfl,(show(0:Int)<4 by decide),p1,_,_,_,rfl,rfl,AJ.of g1,ev,a,ns,v,rfl,⟨s1.seq hS,hn⟩,by simp only[oG,o3,qN]at v6;lia,λp l W U bs H2 s2 F hL bt => ?_⟩;have ag:=s1.trans s2;refine⟨_,rfl,a,ns,0,rfl,⟨ag.seq hS,hn⟩,∅,∅,λc=>⟨c,rfl,λT D sh H3 s3 bo T9 D1 D9 al => ?_⟩⟩;have d0:(D:Rat)≠0:=λz=>by
    have:D=0:=by exact_mod_cast z
    lia
  have sf:Sf ((T:Rat) / (D:Rat)):=UQ () () ();have S:DB W U T D ((T:Rat) / (D:Rat)) bs:=⟨bt,by rw[vf];exact uo d0,⟨bo,T9⟩,D1,D9⟩;have sF:Sb 30 30 ((T:Rat) / (D:Rat)*(U:Rat)):=by
    have bu:=bt.u;refine IQ (W:=D) (k:=T*U) () (by rw[ph,<- S.e];grind) ?_ ();rw[pP];exact oO (wX (show T.natAbs<=9999 by lia) (show U.natAbs<=200 by lia)) ∅
  generalize (T:Rat) / (D:Rat)=r at *;refine⟨_,rfl,_,rfl,_,rfl,_,rfl,_,rfl,a,p,sh,l,ns,W,U,r,rfl,⟨(ag.trans s3).seq hS,hn⟩,s3 _ _ F,al,sf,bt.w,bt.u,λt pts H4 s4 ht n3 ai => ?_⟩;have aj:=s3.trans s4;refine⟨p,sh,t,l,W,U,r,bs,pts,rfl,aj _ _ F,LO aj hL,bt,s4 _ _ al,sf,ht,n3,λfl rows H5 s5 hF hI => ?_⟩;have ad:=aj.trans s5;have so:=S.CN hI;have ah:=EL ah (ag.trans ad);have af:=EL af (ag.trans ad);refine⟨_,rfl,fl,_,_,rows,12*D,rfl,hF,S.Qp ai n3 hI,by rw[so];exact S.Qp (pts:=[]) (λp F=>by cases F) ∅ (FU.nil _),ah,af,nT,by rw[so,kb];exact bt.m,λB B0 hB=>by rw[so]at hB ⊢;exact(S.Nx B0 hB).2,λB m n cs X o t ra ta H6 B0 hB em en ec G hO b2 hN hR hT => ?_⟩;rw[so]at hB ec;obtain⟨N,eN,O⟩:=S.out B0 hB em en ec G hO;rw[eN]at hN;generalize (Cp X.length (Bb X cs) o).map Cb=ts at hT O;generalize Bb X cs=rs at hR O;clear em en ec G hO eN hB ht ai;have kp:=λ{b:Addr} {o:HO} (e:H5 b=some o) (n : ∀z,o ≠ .CT z)=>kR ah af b2 e n
  have ak:=kp (ad _ _ F) (λz y=>by cases y);obtain⟨cs,hl,hC⟩:=hL;have a1:=kp (ad _ _ hl) (λz y=>by cases y);have bc:At BQ H6 cs bs:=⟨hC.1,λi b x e1 e2=>kp (ad _ _ (hC.2 i b x e1 e2)) (λz y=>by cases y)⟩;have b0:AO H6 sh r:=kp (s4.trans s5 _ _ al) (λz y=>by cases y);obtain⟨wa,ua,rc,hf,hW,hU,bh⟩:=hF;have bp:=kp hf (λz y=>by cases y);have b4:AO H6 ua (r*(U:Rat)):=kp hU (λz y=>by cases y);have lc:cs.length=bs.length:=hC.1;clear kp ad aj s5 s4 s3 ag s1 s2 ah af b2 hC hl al F hf hU hW bh hS g1;refine⟨_,rfl,_,rfl,by exact Fx,λp0 br => ?_⟩;refine BS br (.AE []) λH7 s7 g7 => ?_
  refine⟨p, sh, p0, l, W, U, r, bs, [], rfl, s7 _ _ ak, LO s7 ⟨cs, a1, bc⟩, bt, s7 _ _ b0, sf, ⟨[], g7, At.nil⟩, by decide, λdu b6 H8 s8 hD a6 => ?_⟩;have er:b6=bs.map (BX r):=(abc.mpr λx J=>(a6.m x J).elim (λy=>by rw[S.no x y];rfl) λy=>by cases y).symm.trans (S.CN a6)
  rw[er]at hD;have ab:=s7.trans s8;have k:=O.k;refine⟨_,rfl,_,rfl,fl,_,_,_,rfl,rfl,AH.of (ab _ _ bp),C6 _ _ _,t,ua,ra,ta,N,rs,ts,_,rfl,ab _ _ hN,Cq (R:=GD) (λs h=>IX s h) ab hR,Cq (R:=Dt) (λs h=>IU s h) ab hT,ab _ _ b4,k.k,λY hY => ?_⟩;obtain⟨a4,Z,M,wd,_⟩:=hY.iW k.k sF;obtain⟨pt,ai,eW,eB⟩:=O.fl hY;refine⟨pt,Z,M,⟨k.k,hY,a4,k.KZ,k.tn,k.kx,ai,wd⟩,λfq H9 s9 _ ap => ?_⟩;rw[eW,eB]at ap;have a7:=Je s9 hD;have bv:=ab.trans s9;obtain⟨x1,x2,x3,ac,f1,f2,es,h3,hE⟩:=id ap;have av : ∀x∈nums (r*(W:Rat)) (r*(U:Rat)) (bs.map (BX r)),BJ (x.den:Int):=λx J=>((S.Qp (pts:=[]) (λp F=>by cases F) ∅ (FU.nil _)).sz x J).2.d
  refine⟨_,rfl,_,_,_,rfl,DR.AF ac,Ks K _,_,rfl,Br ?_⟩;refine⟨_,rfl,fq,_,rfl,.inr (AH.of ac),rfl,_,rfl,Hd rfl ?_⟩;refine⟨_,rfl,fq,_,_,_,rfl,rfl,AH.of ac,DW _ _ _,_,_,_,rfl,DR.AF h3,Ks K _,_,rfl,Br ?_⟩;refine⟨_,rfl,2,rfl,fq,_,rfl,AH.of ac,λz => ?_,λp2 bj => ?_⟩
  · have:=z.2;rw[Vc (by show 2<=3;decide)]at this;cases this
  rw[show Ck [V.ref x1,.ref x2,.ref x3] none (some 2)=[x1,x2].map V.ref by rw[show(some (2:Int))=some ((2:Nat):Int) from rfl,JY _ (by show 2<=3;decide)];rfl];refine BS bj (.AF ([x1,x2].map V.ref)) λHA sA eA => ?_
  refine⟨p2,[r*(W:Rat),r*(U:Rat)],2,rfl,⟨_,eA,(At.nil.snoc (R:=AO) (b:=x1) (x:=r*(W:Rat)) (sA _ _ f1)).snoc (b:=x2) (x:=r*(U:Rat)) (sA _ _ f2)⟩,rfl,by show 2<=1000;decide,λx J=>av x (by simp only[oG,o3,qN]at J ⊢;exact J.imp_right .inl),λHB sB=>⟨_,rfl,Br ?_⟩⟩;have am:=sA.trans sB;have ax:=am _ _ h3;refine⟨_,rfl,fq,_,_,_,rfl,rfl,AH.of (am _ _ ac),DW _ _ _,x3,rfl,⟨_,AH.of ax⟩,λbf bm => ?_⟩;refine CP (F7 ax) (by rw[kb,hE.1,kb];have:=bt.m;lia) bm (λi ys σ _=>ys=(oE i true).map V.bl /\ ∃u,σ=[u]) ⟨rfl,none,rfl⟩ ?_ ?_
  · rintro i ys σ H3 x H4 hi sm cd ⟨ar,u,rfl⟩ ⟨rfl,J⟩ C bg;obtain⟨t,y,rfl,_,hy,ht⟩:=hE.ref J;obtain⟨b,_,rfl⟩:=oI.mp (oi hy);refine⟨_,rfl,t,_,4,rfl,EB (am.trans sm) ht,rfl,by show 4<=1000;decide,λx J=>av x (by simp only[oG];exact .inr (.inr (pV.mpr ⟨_,oi hy,J⟩))),λH5 s5 => ?_⟩;refine bg _ _ _ s5 ⟨?_,_,rfl⟩;rw[ar,uN,oU];rfl
  rintro ys σ HC sC g3 _ ⟨ar,_⟩;refine⟨bf,oE (es.map V.ref).length true,rfl,AJ.of (by rw[g3,ar]),?_⟩;rw[show(oE (es.map V.ref).length true).all id=true by simp];have a2:=am.trans sC;refine⟨_,rfl,Br ⟨_,rfl,_,rfl,4,_,∅,SO (Je a2 ap),SO (Je a2 a7),ZU _ _ _,_,rfl,Br ?_⟩⟩;have ay:=bv.trans a2;clear ap a7 hD ax h3 hE ac f1 f2 av er ai eW eB wd a4 hY;refine⟨_,rfl,t,N,14,10,10,rs,rfl,⟨ra,.ref ta,ay _ _ hN,Cq (R:=GD) (λs h=>IX s h) ay hR⟩,k.k,λhh HD Y sD hY ⟨ds,a8,hH⟩=> ?_⟩;have ae:=ay.trans sD;obtain⟨rd,ca,b8⟩:=Cq (R:=GD) (λs h=>IX s h) ae hR;have ce:=bt.m;have bu:=bt.u;refine⟨_,rfl,p,_,_,_,rfl,rfl,AH.of (ae _ _ ak),DW _ _ _,l,_,rfl,.inl (AJ.of (ae _ _ a1)),_,rfl,(),by rw[kb];lia,?_⟩;refine Fb (λi σ H' => AK HD H' /\ ∃u8 u9 a3 aq a0 az,σ=[some (.ref a),some (.ref p),some (.ref sh),some (.ref fl),some (.ref t),some (.ref du),some (.ref fq),some (.ref hh),u8,u9,a3,aq,a0,az]) ⟨AK.refl _,none,none,none,none,none,none,rfl⟩ ?_ ?_
  · rintro i σ HE hi ⟨sE, u8, u9, a3, aq, a0, az, rfl⟩;rw[kb, lc] at hi;have hb : bs[i]? = some bs[i] := og (by lia  );generalize bs[i] = b at hb;obtain⟨cb, b9, fb⟩ := bc.get hb;obtain⟨ro, a9, e1, e2⟩ := O.ht hY hb;obtain⟨cr, bn, ez, er, _⟩ := b8.get a9;have a5 := (k.Ng ro (oi a9)).2;have aa := ae.trans sE;have F := aa _ _ ak;have hl := aa _ _ a1;have bd : HE cb = some (.AF [.int b.l, .int b.d, .int b.r, .int b.u]) := aa _ _ fb;obtain⟨y1, b3, bi⟩ := hH.get (show((oN (N + 2)).map Y)[ro.1]? = some (Y ro.1) by rw[om, qc a5.1]; rfl);obtain⟨y2, bw, cc⟩ := hH.get (show((oN (N + 2)).map Y)[ro.2.1]? = some (Y ro.2.1) by rw[om, qc a5.2]; rfl);have eb : BY (cs.map V.ref) ((0 : Int) + (i : Nat)) = some (.ref cb) := by rw[zd]; exact BE (Cg b9)
    refine⟨_,rfl,t,_,_,_,rfl,rfl,AH.of (aa _ _ hN),C6 _ _ _,_,rfl,ra,_,_,_,rfl,rfl,AH.of (sE _ _ ca),by rw[zd];exact BE (Cg bn),cr,_,rfl,AH.of (sE _ _ er),rfl,_,_,rfl,_,_,rfl,_,_,rfl,rfl,?_⟩;exists _,rfl,p,_,_,_,rfl,rfl,AH.of F,DW _ _ _,_,rfl,l,_,_,_,rfl,rfl,AJ.of hl,eb,cb,_,_,_,rfl,rfl,AH.of bd,GR;exists _,rfl,p,_,_,_,rfl,rfl,AH.of F,DW _ _ _,_,rfl,l,_,_,_,rfl,rfl,AJ.of hl,eb,cb,_,_,_,rfl,rfl,AH.of bd,GP;have ub:BJ U:=DY (n:=8) () ∅;refine⟨_,rfl,_,rfl,hh,_,_,_,rfl,rfl,AH.of (sE _ _ a8),BE (Cg b3),_,rfl,_,rfl,p,_,_,_,rfl,rfl,AH.of F,C6 _ _ _,b.u,U,rfl,(),ub,λv1 aw => ?_⟩;obtain⟨HF,zg,sF,au⟩:=JF aw ((b.u:Rat) / (U:Rat));rw[zg];have ao:=sE.trans sF;refine⟨1,_,∅,Gp (ao _ _ (show HD y1=_ from bi)),by rw[e1];exact Gp au,Jq _,_,rfl,Br ?_⟩;refine⟨_,rfl,_,rfl,hh,_,_,_,rfl,rfl,AH.of (ao _ _ a8),BE (Cg bw),_,rfl,_,rfl,p,_,_,_,rfl,rfl,AH.of (sF _ _ F),C6 _ _ _,b.d,U,rfl,(),ub,λv2 bq => ?_⟩;obtain⟨HG,zg,sG,bx⟩:=JF bq ((b.d:Rat) / (U:Rat));rw[zg];exact⟨1,_,∅,Gp ((ao.trans sG) _ _ (show HD y2=_ from cc)),by rw[e2];exact Gp bx,Jq _,_,rfl,Br ⟨ao.trans sG,_,_,_,_,_,_,rfl⟩⟩
  · rintro σ HE ⟨sE,u8,u9,a3,aq,a0,az,rfl⟩;have aa:=ae.trans sE;refine⟨_,rfl,t,N,14,10,10,rs,rfl,⟨ra,.ref ta,aa _ _ hN,Cq (R:=GD) (λs h=>IX s h) aa hR⟩,k.k,λpe HF Y' b5 b7 be => ?_⟩;have F:=(aa.trans b5) _ _ ak;refine⟨_,rfl,p,_,_,_,rfl,rfl,AH.of F,Eu _ _ _,_,rfl,p,_,_,_,rfl,rfl,AH.of F,C6 _ _ _,W,U,rfl,(),DY (n:=8) () ∅,λv1 aw => ?_⟩;rw[O.ea b7]at be;obtain⟨HG,zg,sG,au⟩:=JF aw ((W:Rat) / (U:Rat));rw[zg];exact⟨1,_,∅,Gp (A9 sG be),Gp au,Jq _,q _⟩
end
end My
namespace My
open PySem L2 Mth
variable {mg:Str->Option Value}
section
variable {K:ow}{x qn:Str}{st:Stmt}{f C:Addr}{oc kV doc pm im ct:Value}{od an:Option Addr}{osl:Array (Option Value)}{fd:qU}{ps:List Str}
structure Dq(K:ow)(x:Str)(st:Stmt)(ps:List Str)(f:Addr)(fd:qU):Prop where
 F:Fun K x x st f fd
 b:Eo K fd ps []
 a:abG K rH x=some (some (.ref f))
theorem Dq.all(d:Dq K x st ps f fd)(X:K.In h)(G:h.Ns rH mg):Fun K x x st f fd/\Eo K fd ps []/\yh K (.ref f)=true/\mg x=some (.ref f):=⟨d.F,d.b,d.F.kp,aa6 X G d.a⟩
theorem Dq.mk'(d:Dq K x st ps f fd)(l:xP)(w:World)(base:Heap)(X:K.In h)(G:h.Ns rH mg)(o:Fun K x x st f fd->Ai l.prog w K mg base Ae k f fd ps sp):AX l.prog w K mg base k x ps sp:=⟨f,fd,o d.F,d.b,d.F.kp,aa6 X G d.a⟩
theorem dq (a:abG K rH x=some (some (.ref f)))(l:K.lookup f=some ⟨oc,od,.func (sZ x x (F6 st) (Eh st) (Ac st) .none kV doc pm an im ct),osl⟩)(c:yg K im x=true)(k:yh K (.ref f)=true)
  (b:∀{fd},Fun K x x st f fd->Eo K fd ps []):Dq K x st ps f (sZ x x (F6 st) (Eh st) (Ac st) .none kV doc pm an im ct):=⟨UN l c k,b (UN l c k),a⟩
theorem bn1(st:Stmt)(x qn:Str){O:Str}(h:∀(kV doc pm:Value) (an:Option Addr) (im ct J:Value),wc (sZ x qn (F6 st) (Eh st) (Ac st) .none kV doc pm an im ct) ⟨[J],[]⟩=pure [(O,J)]:=by intros;rfl)(F:Fun K x qn st f fd):Eo K fd [O] []:=F.NQ λkV doc pm an im ct us hl=>by
 match us,hl with
 |[J],_=>exact h kV doc pm an im ct J
theorem bn2(st:Stmt)(x qn:Str){p0 p1:Str}(h:∀(kV doc pm:Value) (an:Option Addr) (im ct J O:Value),wc (sZ x qn (F6 st) (Eh st) (Ac st) .none kV doc pm an im ct) ⟨[J,O],[]⟩=pure [(p0,J),(p1,O)]:=by intros;rfl)(F:Fun K x qn st f fd):Eo K fd [p0,p1] []:=F.NQ λkV doc pm an im ct us hl=>by
 match us,hl with
 |[J,O],_=>exact h kV doc pm an im ct J O
theorem bn3(st:Stmt)(x qn:Str){p0 p1 p2:Str}(h:∀(kV doc pm:Value) (an:Option Addr) (im ct a0 O J:Value),wc (sZ x qn (F6 st) (Eh st) (Ac st) .none kV doc pm an im ct) ⟨[a0,O,J],[]⟩=pure [(p0,a0),(p1,O),(p2,J)]:=by intros;rfl)(F:Fun K x qn st f fd):Eo K fd [p0,p1,p2] []:=F.NQ λkV doc pm an im ct us hl=>by
 match us,hl with
 |[a0,O,J],_=>exact h kV doc pm an im ct a0 O J
theorem bn4(st:Stmt)(x qn:Str){p0 p1 p2 p3:Str}(h:∀(kV doc pm:Value) (an:Option Addr) (im ct a0 O J a3:Value),wc (sZ x qn (F6 st) (Eh st) (Ac st) .none kV doc pm an im ct) ⟨[a0,O,J,a3],[]⟩=pure [(p0,a0),(p1,O),(p2,J),(p3,a3)]:=by intros;rfl)(F:Fun K x qn st f fd):Eo K fd [p0,p1,p2,p3] []:=F.NQ λkV doc pm an im ct us hl=>by
 match us,hl with
 |[a0,O,J,a3],_=>exact h kV doc pm an im ct a0 O J a3
structure UW(fd:qU)(c:Addr):Prop where
 e:fd.code=.ref c
structure Zq(K:ow)(x:Str):Prop where
 a:abG K rH x=some none
end
set_option maxHeartbeats 4000000 in
theorem all_mk {l:xP}(X:K.In h)(G:h.Ns rH mg)(e1:mg "law" = some (.ref fa))
  (h1:Dq K "common_part" sCommon ["one","other"] f1 d1)
  (h2:Dq K "fraction" sFraction ["top","bottom"] f2 d2)
  (h3:Dq K "plus" sPlus ["one","other"] f3 d3)
  (h4:Dq K "minus" sMinus ["one","other"] f4 d4)
  (h5:Dq K "times" sTimes ["one","other"] f5 d5)
  (h6:Dq K "less" s_less ["one","other"] f6 d6)
  (h7:Dq K "common_bottom" sCBot ["row"] f7 d7)
  (h8:Dq K "wholes" sWholes ["row","bottom"] f8 d8)
  (h9:Dq K "other_end" sOther ["end"] f9 d9)
  (e4:Dq K "ends_ahead" sAhead ["turns"] f10 d10)
  (bc:Dq K "ring_from" sRingFrom ["start","ahead"] f11 d11)
  (a5:Dq K "rings" sRings ["turns"] f12 d12)
  (b0:Dq K "land_of" sLandOf ["turns"] f13 d13)
  (ay:Dq K "led" sLed ["rows","k"] f14 d14)
  (a7:Dq K "swept_row" sSweptRow ["row","lead","k","before"] f15 d15)
  (dg:Dq K "swept" sSwept ["rows"] f16 d16)
  (cb:Dq K "found_back" sBack ["rows"] f17 d17)
  (a6:Dq K "answer" sAnswer ["table","right"] f18 d18)
  (ca:Dq K "ease_table" sEaseTable ["net"] f19 d19)
  (dm:Dq K "poleless" sPoleless ["table"] f20 d20)
  (dy:Dq K "heights" sHeights ["net"] f21 d21)
  (bt:Dq K "fall_of" sFallOf ["rope","levels"] f22 d22)
  (bz:Dq K "runnings_by" sRunBy ["net","levels"] f23 d23)
  (dc:Dq K "runnings" sRunnings ["net"] f24 d24)
  (c5:Dq K "ease_of" sEaseOf ["net"] f25 d25)
  (dt:Dq K "land_sides" s_land_sides ["lands","widths"] f26 d26)
  (cx:Dq K "rising" s_rising ["one","other"] f27 d27)
  (dw:Dq K "laid" s_laid ["net","fall"] f28 d28)
  (cj:Dq K "is_point" s_is_point ["rectangle"] f29 d29)
  (ea:Dq K "without_points" s_without_points ["floor"] f30 d30)
  (eg:Dq K "numbers_of" s_numbers_of ["floor"] f31 d31)
  (e2:Dq K "whole_floor" s_whole_floor ["floor","bottom"] f32 d32)
  (cn:Dq K "is_neither" s_is_neither ["rectangle"] f33 d33)
  (bm:Dq K "is_out" s_is_out ["rectangle","width","height"] f34 d34)
  (cc:Dq K "overlap" s_overlap ["one","other"] f35 d35)
  (b5:Dq K "first_overlap" s_first_overlap ["rectangles"] f36 d36)
  (ev:Dq K "borders" s_borders ["rectangles","at","most"] f37 d37)
  (eq:Dq K "covered_cells" s_covered_cells ["columns","rows","rectangles"] f38 d38)
  (e5:Dq K "first_gap" s_first_gap ["width","height","rectangles"] f39 d39)
  (ff:Dq K "looked_whole" s_looked_whole ["width","height","rectangles"] f40 d40)
  (bu:Dq K "looked" s_looked ["floor"] f41 d41)
  (b9:Dq K "check_covers" s_check_covers ["floor"] f42 d42)
  (ck:Dq K "begun_least" s_begun_least ["turn"] f43 d43)
  (ek:Dq K "told_turns" s_told_turns ["turns"] f44 d44)
  (bx:Dq K "level_sides" s_level_sides ["width","height","rectangles"] f45 d45)
  (cq:Dq K "lines_of" s_lines_of ["sides"] f46 d46)
  (cy:Dq K "placed" s_placed ["lines"] f47 d47)
  (cm:Dq K "place_at" s_place_at ["lines","level","x"] f48 d48)
  (a8:Dq K "rope_of" s_rope_of ["lines","rectangle"] f49 d49)
  (br:Dq K "turns_of" s_turns_of ["places","ropes","lefts"] f50 d50)
  (ef:Dq K "net_of" s_net_of ["floor"] f51 d51)
  (bh:Dq K "_law_cell" sCellAt ["_law_script","_law_k"] f52 d52)
  (bd:Dq K "_law_low" sLow ["_law_top","_law_bottom"] f53 d53)
  (ei:Dq K "_law_mul" sLMul ["_law_one","_law_other"] f54 d54)
  (eo:Dq K "_law_whole" sWhole ["_law_found"] f55 d55)
  (cu:Dq K "_law_fraction" sLFrac ["_law_found"] f56 d56)
  (bf:Dq K "_law_fractions" sLFracs ["_law_found","_law_many"] f57 d57)
  (a1:Dq K "_law_across" s_law_across ["_law_box","_law_cell_here"] f58 d58)
  (bg:Dq K "_law_down" s_law_down ["_law_box","_law_cell_here"] f59 d59)
  (db:Dq K "_law_two" s_law_two ["_law_low_here","_law_high","_law_cell_here"] f60 d60)
  (dl:Dq K "_law_wheel" s_law_wheel ["_law_box","_law_cell_here"] f61 d61)
  (bn:Dq K "_law_cut" s_law_cut ["_law_boxes_here","_law_cell_here","_law_most"] f62 d62)
  (dh:Dq K "_law_boxes" s_law_boxes ["_law_script","_law_first","_law_most"] f63 d63)
  (eb:Dq K "_law_share" s_law_share ["_law_cell_here"] f64 d64)
  (dz:Dq K "_law_scaled" s_law_scaled ["_law_built","_law_share_here","_law_points_here"] f65 d65)
  (ez:Dq K "_law_points" s_law_points ["_law_script","_law_first","_law_built","_law_share_here"] f66 d66)
  (av:Dq K "law" sLaw ["_law_script"] f67 d67)
  (dj:UW d45 c1)
  (fg:UW d50 c2)
  (bp:K.lookup T1=none)
  (bo:K.lookup T2=none)
  (aq:xw K c1 T1=true)
  (ap:xw K c2 T2=true)
  (b7:Zq K "abs")
  (bv:Zq K "len")
  (b3:Zq K "range")
  (e6:Zq K "list")
  (a9:Zq K "zip")
  (c9:Zq K "tuple")
  (dd:Zq K "sum")
  (dk:Zq K "min")
  (c3:Zq K "max")
  (bw:Zq K "enumerate")
  (cw:Zq K "all")
  (df:Zq K "isinstance")
  (c8:Zq K "int")
  (ey:Zq K "bool")
  (e7:Zq K "set")
  (en:Zq K "sorted")
  : ∃fd:qU,(∀(s:oq) (v:Value),aau s fd ⟨[v],[]⟩ [("_law_script",v)])/\(∀T∈[T2,T1],K.lookup T=none/\∃c,xw K c T=true)/\∀base:Heap,K.In base->base.Ns rH mg->FG mg base->Ai l.prog w K mg base Ae 8 fa fd ["_law_script"] (NP K T1 T2):=by
 have e:=e1.symm.trans (aa6 X G av.a);cases e;have ⟨au,fj,fi,fk⟩:=av.all X G;have ar:=qH X G b7.a;have J:=qH X G bv.a;have aa:=qH X G b3.a;have am:=qH X G e6.a;have ac:=qH X G a9.a;have O:=qH X G c9.a;have ec:=qH X G dd.a;have ai:=qH X G dk.a;have ag:=qH X G c3.a;have ab:=qH X G bw.a;have aw:=qH X G cw.a;have ae:=qH X G df.a;have eh:=qH X G c8.a;have cz:=qH X G ey.a;have du:=qH X G e7.a;have aj:=qH X G en.a;refine⟨d67,λs v=>by obtain⟨_,_,_,_,_,_,_,_,_,rfl,_⟩:=au.ex;exact .of_eq rfl,λT hT=>by
  simp only[oG,o3,qN]at hT;rcases hT with rfl|rfl
  ·exact⟨bo,_,ap⟩
  ·exact⟨bp,_,aq⟩,λbase X' _ hB=>?_⟩
 have di:=abi X' aq;have a4:=abi X' ap;have O1:=h1.mk' l w base X G λF=>ZL F ar
 have O2:=h2.mk' l w base X G λF=>X0 (C:=0) F O1
 have O3:=h3.mk' l w base X G λF=>cU F O2
 have O4:=h4.mk' l w base X G λF=>cQ F O2
 have O5:=h5.mk' l w base X G λF=>Zy F O2
 have O6:=h6.mk' l w base X G λF=>cZ F
 have O7:=h7.mk' l w base X G λF=>fv F O1
 have O8:=h8.mk' l w base X G λF=>ZW F
 have OL:=h7.mk' l w base X G λF=>bM F O1
 have dr:=ay.mk' l w base X G λF=>jD F J aa am
 have dp:=a7.mk' l w base X G λF=>Xz F ac
 have b4:=dg.mk' l w base X G λF=>Zx F dr dp J aa
 have be:=cb.mk' l w base X G λF=>fD F O2 J aa ac ec O
 have az:=a6.mk' l w base X G λF=>Y0 (C2:=0) F O7 O8 b4 be J ac
 have cd:=ca.mk' l w base X G λF=>eZ F O3 O4 aa O
 have et:=dm.mk' l w base X G λF=>fS F O
 have ah:=dy.mk' l w base X G λF=>Yg F cd O4 et az O
 have el:=bt.mk' l w base X G λF=>gK F O4
 have ax:=bz.mk' l w base X G λF=>aQ F O5 el O
 have em:=dc.mk' l w base X G λF=>X7 F ax ah
 have ee:=c5.mk' l w base X G λF=>Zf F O3 O4 em ac
 have O9:=h9.mk' l w base X G λF=>cO F
 have a2:=e4.mk' l w base X G λF=>bO F ab
 have e9:=bc.mk' l w base X G λF=>X5 F O9 O
 have b6:=a5.mk' l w base X G λF=>aT F a2 e9 J aa O
 have eu:=b0.mk' l w base X G λF=>ZR F b6 J aa O ab
 have ce:=dt.mk' l w base X G λF=>Zw F O3 O4 J ag ab
 have c0:=cx.mk' l w base X G λF=>Yp F O6
 have a0:=dw.mk' l w base X G λF=>fF F O5 ah eu ce ax c0 J ab O
 have bi:=cj.mk' l w base X G λF=>jd F
 have ci:=ea.mk' l w base X G λF=>j7 F bi O
 have al:=eg.mk' l w base X G λF=>dS F am
 have ao:=e2.mk' l w base X G λF=>kf F O8
 have c7:=cn.mk' l w base X G λF=>kW F
 have bq:=bm.mk' l w base X G λF=>jS F
 have c4:=cc.mk' l w base X G λF=>kc F ag ai
 have co:=b5.mk' l w base X G λF=>lE F c4 ab aa J
 have bl:=ev.mk' l w base X G λF=>lG F du aj
 have fe:=eq.mk' l w base X G λF=>hV F aa
 have e0:=e5.mk' l w base X G λF=>jx F bl fe aa J
 have cp:=ff.mk' l w base X G λF=>lF F c7 bq co e0 ab
 have dv:=bu.mk' l w base X G λF=>ZT F al OL cp ao
 have cg:=b9.mk' l w base X G λF=>jv F dv
 have cr:=ck.mk' l w base X G λF=>iY F ai
 have a3:=ek.mk' l w base X G λF=>aZ F cr O
 have b8:=bx.mk' l w base X G λF=>kr F dj.e di hB aj
 have fb:=cq.mk' l w base X G λF=>cL F ag
 have e8:=cy.mk' l w base X G λF=>Yn F
 have er:=cm.mk' l w base X G λF=>YY F ab
 have fh:=a8.mk' l w base X G λF=>gB F er O2
 have de:=br.mk' l w base X G λF=>Z6 F fg.e a4 hB a3 J aa aj ac O
 have cf:=ef.mk' l w base X G λF=>kF F cg ci al OL ao b8 fb e8 fh de J O
 have af:=bh.mk' l w base X G λF=>dM F J
 have ad:=bd.mk' l w base X G λF=>iS F ar
 have ak:=ei.mk' l w base X G λF=>eY F ad
 have bj:=eo.mk' l w base X G λF=>aO F ae eh cz
 have dq:=cu.mk' l w base X G λF=>aR F ad bj ae O J
 have fc:=bf.mk' l w base X G λF=>Zg F dq ae O J aw
 have ew:=a1.mk' l w base X G λF=>Yl F
 have da:=bg.mk' l w base X G λF=>fH F
 have dn:=db.mk' l w base X G λF=>jt F
 have b2:=dl.mk' l w base X G λF=>cC F dn
 have c6:=bn.mk' l w base X G λF=>jM F b2 ew da J
 have d0:=dh.mk' l w base X G λF=>kG F af c6 J ai aa
 have ed:=eb.mk' l w base X G λF=>jw F ad
 have e3:=dz.mk' l w base X G λF=>j3 F ak O J
 have ej:=ez.mk' l w base X G λF=>kK F af ak ad aa
 exact jN au af d0 ed e3 ej cf a0 fc ah ad ee J aa ae O aw
theorem walk {l:xP}{K:Params->ow}(hn:l.most=some 63)(aa:d.params.defaults=[])
  (hY:∀(w:World) (h:Heap),YP w h->(K w.params).In h/\∀T∈[T2,T1],h.get? T=some (PySem.W.tabObj #[]))(ne:T2≠T1)
  (F:∀(w:World) (mg:Str->Option Value) (fa:Addr) (h:Heap),(K w.params).In h->h.Ns rH mg->mg d.name=some (.ref fa) →
   ∃fd:qU,(∀(s:oq) (u:Value),aau s fd ⟨[u],[]⟩ [("_law_script",u)])/\(∀T∈[T2,T1],(K w.params).lookup T=none/\∃c,xw (K w.params) c T=true)/\∀base:Heap,(K w.params).In base->base.Ns rH mg->FG mg base->Ai l.prog w (K w.params) mg base Ae 8 fa fd ["_law_script"] (NP (K w.params) T1 T2)) :
  adk q loose XP YP l.row.toRowW d [] (λf vs=>acV f vs) :=
 L2.Yx (n:=63) (k:=8) (x:="_law_script") (Ts:=[T2,T1]) (sp:=λw=>NP (K w.params) T1 T2) hn ∅ aa ⟨G,∅,∅⟩ hY F λ_ _ a ns hl O hS=>⟨a,ns,G,hS,hl,⟨[],O T1 #v[],λe J=>by cases J⟩,⟨[],O T2 #v[],λe J=>by cases J⟩,ne,λ_=>rfl⟩
end My
namespace PySem.W.Fast
def te3340482712725181500:=0
def tw17852976955815163202:=0
def tw3773851518360345707:=0
def tw7549777605056280124:=0
def tw14723704254069827298:=0
def tw12809214590849037795:=0
def tw2087403365168188509:=0
def tw6758436134109229779:=0
def tw12755098883977295599:=0
def tw14453846046906127758:=0
def tw10705381701762827513:=0
def tw7862497023701932816:=0
def tw7425382956644741462:=0
def tw220873212840069406:=0
def tw12596153385227587665:=0
def tw5227880329418602036:=0
def tw3822269373609628841:=0
def tw17643730281292494105:=0
def tw1279789984738334196:=0
def tw17762400193359257052:=0
def tw13647854253604969740:=0
def tw5877602352337795786:=0
def tw4029524049954867836:=0
def tw8309662392845486638:=0
def tw7948504855850682746:=0
def tw1430125275261296489:=0
def tw18423192129654138817:=0
def tw10835520404060317395:=0
def tw12076998833160451715:=0
def tw8490700425036328850:=0
def tw9067165641971614008:=0
def tw11523592251512701907:=0
def tw3328476824071841931:=0
def tw6649717330666517758:=0
def tw13873356336997644930:=0
def tw7159373525331186461:=0
def tw14851251589112895866:=0
def tw17928133436896571948:=0
def tw15997468762795700785:=0
def tw16763180202332434679:=0
def tw17670914084854743429:=0
def tw12979823452671851762:=0
def tw15387219377272447159:=0
def tw17323968261649827065:=0
def tw16196481023441689288:=0
def tw16718852386044593852:=0
def tw8957049805493819523:=0
def tw9672133612783306045:=0
def tw17308470036640169247:=0
def tw11713864230354517949:=0
def tw7526724048096872991:=0
def tw2890488209404822128:=0
def tw10627833369151968449:=0
def tw14837890832114815616:=0
def tw18050696205098385209:=0
def tw2071951244922266719:=0
def tw9695927550698708477:=0
def tw11622622394914075959:=0
def tw13685883092637886241:=0
def tw12610613554559819321:=0
def tw10844190768649259136:=0
def tw12916625506220597099:=0
def tw11857129771088658304:=0
def tw8044778531956478292:=0
def tw1934520746198498831:=0
def tw8105038891459551263:=0
def tw17874442022760910170:=0
def tw5537895894074275706:=0
def tw16076302096126222135:=0
def tw15106272537121585052:=0
def tw406463729864230041:=0
def tw13930853186622292290:=0
def tw5210967930681604651:=0
def tw1451343356783939889:=0
def tw15134047952020496964:=0
def tw15893630721766994000:=0
def tw17158223950254072438:=0
def tw2152789310638082005:=0
def tw2467410448542324541:=0
def tw1837586830010851776:=0
def tw11094625786442248655:=0
def tw11048239765698688769:=0
def tw13317547977449668904:=0
def tw17447588819867828288:=0
def tw3734270402576965489:=0
def tw5041566389329442941:=0
def tw16040528426661886860:=0
def tw2432602713462397179:=0
def tw2894471183706200470:=0
def tw13577541111599348041:=0
def tw15141964084995950090:=0
def tw17135265163486735846:=0
def tw17333357136895652612:=0
def tw16953608764722098819:=0
def tw7731919316224714886:=0
def tw11931177879723588650:=0
def tw6139914223431028862:=0
def tw10924995600281535346:=0
def tw3778139567472055884:=0
def tw15930547454579780112:=0
def tw10078208488964093956:=0
def tw7527598005549477026:=0
def tw17496773985658883155:=0
def tw17785420804782473041:=0
def tw9244101731820148638:=0
def tw5240958758894392042:=0
def tw3143085933063660306:=0
def tw12374159372897859521:=0
def tw7299761247337885197:=0
def tw15482195854068671163:=0
def tw18358901701915863258:=0
def tw14621719692142462876:=0
def tw10542411297348294844:=0
def tw15836464649460839544:=0
def tw16011417037953650411:=0
def tw1331966293555714913:=0
def tw3435940649447328042:=0
def tw918959445715695755:=0
def tw18112010016853371100:=0
def tw17634895104992769865:=0
def tw9526813770654261820:=0
def tw5220390197533792186:=0
def tw8125677100144218613:=0
def tw8158412481247528574:=0
def tw6966247302453686192:=0
def tw17071049632680836607:=0
def tw16961217880673246123:=0
def tw10835511829572651708:=0
def tw16416712425242317878:=0
def tw3711648860775406559:=0
def tw16253223338903066992:=0
def tw3213022892556381960:=0
def tw14750087198792633683:=0
def tw8131157579015530394:=0
def tw10069121657165330792:=0
def tw3923835224031794409:=0
def tw13937264483536149348:=0
def tw10466629354716743436:=0
def tw3871779437197963620:=0
def tw15831935075693702183:=0
def tw7915794324894436952:=0
def tw9580791531857488676:=0
def tw4723620837080699739:=0
def tw15107075026578481888:=0
def tw8546416807746292751:=0
def tw4839679822228846285:=0
def tw496521191073370339:=0
def tw6889880848643865218:=0
def tw11191026033825774966:=0
def tw6419566347894747475:=0
def tw6079906477541525955:=0
def tw7291403699497431375:=0
def tw9125018494439061916:=0
def tw4969376873005562217:=0
def tw2684370255225018487:=0
def tw4848015338842627015:=0
def tw6213505955686890489:=0
def tw8123531579926077049:=0
def tw12664726593924317752:=0
def tw11937510255367780794:=0
def tw16118092349512558689:=0
def tw2938808411597937478:=0
def tw3424766926049909004:=0
def tw14287636141237203965:=0
def tw17217121811393278235:=0
def tw15735478622184045900:=0
def tw13173263048546383022:=0
def tw11100782420281936747:=0
def tw6998705525383827248:=0
def tw13080315203455902671:=0
def tw1757890479980564634:=0
def tw17664415752436277944:=0
def tw5855456318196269961:=0
def tw9676957412163053464:=0
def tw15052088394062170889:=0
def tw4704483229388942084:=0
def tw7994347732240079047:=0
def tw7688759956417645610:=0
def tw2028564130418064038:=0
def tw4535970368395183054:=0
def tw5869746567533505019:=0
def tw8637862993723102650:=0
def tw15801413487150021879:=0
def tw5429196948674247070:=0
def tw545352270362477182:=0
def tw15417002873219644901:=0
def tw6613961162545593423:=0
def tw7545392061059728047:=0
def tw1567695157449128221:=0
def tw453372135945025729:=0
def tw17985164705128182308:=0
def tw1042279589426992310:=0
def tw7196102511196405981:=0
def tw8506175311371610532:=0
def tw14358688335378364771:=0
def tw12747017095348065332:=0
def tw4123611554040681463:=0
def tw2818680674374165026:=0
def tw15643659128175240984:=0
def tw6050370856009418080:=0
def tw6319679976868285389:=0
def tw2647681999031326731:=0
def tw4592165065391669523:=0
def tw2256245732405689424:=0
def tw796152588857888346:=0
def tw2078750028775323453:=0
def tw14068480183494044520:=0
def tw2286403886503492689:=0
def tw15226773954109690325:=0
def tw10523113870264506357:=0
def tw2448206607488497211:=0
def tw17070983405475387606:=0
def tw9027522107523597783:=0
def tw2173519511738573490:=0
def tw281224929996532760:=0
def tw7244035406963218112:=0
def tw13723754870820251811:=0
def tw16939147191263596918:=0
def tw964777467993791620:=0
def tw17676850233348864380:=0
def tw17780463825114048792:=0
def tw1487817425544054216:=0
def tw16936679991657488495:=0
def tw12806671737000305813:=0
def tw18117925087647314625:=0
def tw18365940529160109676:=0
def tw9432522149862696503:=0
def tw8012555488734304185:=0
def tw17569062747158218990:=0
def tw7576948282718540453:=0
def tw4761768764837135427:=0
def tw4160387781354305777:=0
def tw9224506225855754993:=0
def tw2829447634215531317:=0
def tw16813002167356152808:=0
def tw2826859062239880162:=0
def tw10329879765367613649:=0
def tw17712393582830466924:=0
def tw12296508287930658919:=0
def tw3053861779384943014:=0
def tw3076711841156943463:=0
def tw8561714848837604746:=0
def tw925790943655267256:=0
def tw1257136752400591954:=0
def tw15942086858745673644:=0
def tw13975103247862541674:=0
def tw5923464659116804408:=0
def tw5862194183478757296:=0
def tw2477307907339355309:=0
def tw12404710923435134068:=0
def tw12550001634339613831:=0
def tw11547587501860440558:=0
def tw17842220934846512661:=0
def tw8244181915874218961:=0
def tw10618816611622491453:=0
def tw10183029156278018423:=0
def tw2787111028147712125:=0
def tw1383534426632856328:=0
def tw9684274505552170104:=0
def tw2137881414101197895:=0
def tw4943969456002012425:=0
def tw17282976029144968364:=0
def tw3901373909596252530:=0
def tw3217845296627198166:=0
def tw2701899421782672229:=0
def tw250345909475765369:=0
def tw3519610416349344856:=0
def tw16793599412639898188:=0
def tw2420086198544723261:=0
def tw2502501846509079383:=0
def tw6157372100024025726:=0
def tw16394379768258798217:=0
def tw391692895318164984:=0
def tw15658231174035064468:=0
def tw12049051988302520864:=0
def tw206267567998601066:=0
def tw16317772139928256906:=0
def tw17444305180119846866:=0
def tw2347622717217033806:=0
def tw6389636100684086302:=0
def tw13153676331658289715:=0
def tw5436741430242883097:=0
def tw14941401523279579484:=0
def tw18211318609932100778:=0
def tw11160786020007311665:=0
def tw3482668631412276165:=0
def tw12545601495935509714:=0
def tw17503431524898851000:=0
def tw5215237638586326168:=0
def tw14418584984729911713:=0
def tw16455216121856317728:=0
def tw9847572526829642798:=0
def tw18440085235936602001:=0
def tw8361174753590384290:=0
def tw1736826055355262299:=0
def tw4854792649031202258:=0
def tw6359743984286024412:=0
def tw345030729072969290:=0
def tw10962846622323721724:=0
def tw8547107879922875215:=0
def tw10777729884542403718:=0
def tw12180107432616058984:=0
def tw8804973115047344643:=0
def tw14707692385133983732:=0
def tw16728616990399005104:=0
def tw4849521538516430656:=0
def tw18092955310059096835:=0
def tw16218611716777175308:=0
def tw2538183704189861123:=0
def tw5109241677382743624:=0
def tw9163109106473475449:=0
def tw17909106775672783884:=0
def tw13934263343861506974:=0
def tw6470162631306967879:=0
def tw4302153986181286576:=0
def tw3010676489045767446:=0
def tw2466042683857937568:=0
def tw6658211932313513454:=0
def tw6195591536303417383:=0
def tw4941740153633693223:=0
def tw1144947261812383427:=0
def tw12394693346231015368:=0
def tw13191708678446626102:=0
def tw4976585542217939519:=0
def tw3406487488508199936:=0
def tw4740045194930901366:=0
def tw2831994243834304609:=0
def tw16332539675910118083:=0
def tw2585472054387426688:=0
def tw9857192409217541618:=0
def tw201688273819622001:=0
def tw340742453987099794:=0
def tw7804367866346154011:=0
def tw9237897441853678892:=0
def tw3881268912993795936:=0
def tw12932936239204195847:=0
end PySem.W.Fast
open PySem PySem.W PyProof.Rows
set_option maxRecDepth 100000 in
set_option maxHeartbeats 0 in
theorem PySem.Challenge.cw_currentfloor_k31_whole_laid_again_holds : PySem.Challenge.rw_currentfloor_k31_whole_laid_again.Holds := by
  w_on; o_law; k_head; (case hw => w_witness2)
  k_fill
  refine My.walk (l := PySem.Challenge.rw_currentfloor_k31_whole_laid_again) rfl rfl (fun w h Y => ⟨PySem.W.km_in_of Y, PySem.W.km_tabs_of Y⟩) (by decide) ?F
  case F =>
    intro w mg fa h KX G hmg
    refine' My.all_mk KX G hmg (My.dq ?_ ?_ ?_ ?_ (My.bn2 My.sCommon _ _)) (My.dq ?_ ?_ ?_ ?_ (My.bn2 My.sFraction _ _)) (My.dq ?_ ?_ ?_ ?_ (My.bn2 My.sPlus _ _)) (My.dq ?_ ?_ ?_ ?_ (My.bn2 My.sMinus _ _)) (My.dq ?_ ?_ ?_ ?_ (My.bn2 My.sTimes _ _)) (My.dq ?_ ?_ ?_ ?_ (My.bn2 My.s_less _ _)) (My.dq ?_ ?_ ?_ ?_ (My.bn1 My.sCBot _ _)) (My.dq ?_ ?_ ?_ ?_ (My.bn2 My.sWholes _ _)) (My.dq ?_ ?_ ?_ ?_ (My.bn1 My.sOther _ _)) (My.dq ?_ ?_ ?_ ?_ (My.bn1 My.sAhead _ _)) (My.dq ?_ ?_ ?_ ?_ (My.bn2 My.sRingFrom _ _)) (My.dq ?_ ?_ ?_ ?_ (My.bn1 My.sRings _ _)) (My.dq ?_ ?_ ?_ ?_ (My.bn1 My.sLandOf _ _)) (My.dq ?_ ?_ ?_ ?_ (My.bn2 My.sLed _ _)) (My.dq ?_ ?_ ?_ ?_ (My.bn4 My.sSweptRow _ _)) (My.dq ?_ ?_ ?_ ?_ (My.bn1 My.sSwept _ _)) (My.dq ?_ ?_ ?_ ?_ (My.bn1 My.sBack _ _)) (My.dq ?_ ?_ ?_ ?_ (My.bn2 My.sAnswer _ _)) (My.dq ?_ ?_ ?_ ?_ (My.bn1 My.sEaseTable _ _)) (My.dq ?_ ?_ ?_ ?_ (My.bn1 My.sPoleless _ _)) (My.dq ?_ ?_ ?_ ?_ (My.bn1 My.sHeights _ _)) (My.dq ?_ ?_ ?_ ?_ (My.bn2 My.sFallOf _ _)) (My.dq ?_ ?_ ?_ ?_ (My.bn2 My.sRunBy _ _)) (My.dq ?_ ?_ ?_ ?_ (My.bn1 My.sRunnings _ _)) (My.dq ?_ ?_ ?_ ?_ (My.bn1 My.sEaseOf _ _)) (My.dq ?_ ?_ ?_ ?_ (My.bn2 My.s_land_sides _ _)) (My.dq ?_ ?_ ?_ ?_ (My.bn2 My.s_rising _ _)) (My.dq ?_ ?_ ?_ ?_ (My.bn2 My.s_laid _ _)) (My.dq ?_ ?_ ?_ ?_ (My.bn1 My.s_is_point _ _)) (My.dq ?_ ?_ ?_ ?_ (My.bn1 My.s_without_points _ _)) (My.dq ?_ ?_ ?_ ?_ (My.bn1 My.s_numbers_of _ _)) (My.dq ?_ ?_ ?_ ?_ (My.bn2 My.s_whole_floor _ _)) (My.dq ?_ ?_ ?_ ?_ (My.bn1 My.s_is_neither _ _)) (My.dq ?_ ?_ ?_ ?_ (My.bn3 My.s_is_out _ _)) (My.dq ?_ ?_ ?_ ?_ (My.bn2 My.s_overlap _ _)) (My.dq ?_ ?_ ?_ ?_ (My.bn1 My.s_first_overlap _ _)) (My.dq ?_ ?_ ?_ ?_ (My.bn3 My.s_borders _ _)) (My.dq ?_ ?_ ?_ ?_ (My.bn3 My.s_covered_cells _ _)) (My.dq ?_ ?_ ?_ ?_ (My.bn3 My.s_first_gap _ _)) (My.dq ?_ ?_ ?_ ?_ (My.bn3 My.s_looked_whole _ _)) (My.dq ?_ ?_ ?_ ?_ (My.bn1 My.s_looked _ _)) (My.dq ?_ ?_ ?_ ?_ (My.bn1 My.s_check_covers _ _)) (My.dq ?_ ?_ ?_ ?_ (My.bn1 My.s_begun_least _ _)) (My.dq ?_ ?_ ?_ ?_ (My.bn1 My.s_told_turns _ _)) (My.dq ?_ ?_ ?_ ?_ (My.bn3 My.s_level_sides _ _)) (My.dq ?_ ?_ ?_ ?_ (My.bn1 My.s_lines_of _ _)) (My.dq ?_ ?_ ?_ ?_ (My.bn1 My.s_placed _ _)) (My.dq ?_ ?_ ?_ ?_ (My.bn3 My.s_place_at _ _)) (My.dq ?_ ?_ ?_ ?_ (My.bn2 My.s_rope_of _ _)) (My.dq ?_ ?_ ?_ ?_ (My.bn3 My.s_turns_of _ _)) (My.dq ?_ ?_ ?_ ?_ (My.bn1 My.s_net_of _ _)) (My.dq ?_ ?_ ?_ ?_ (My.bn2 My.sCellAt _ _)) (My.dq ?_ ?_ ?_ ?_ (My.bn2 My.sLow _ _)) (My.dq ?_ ?_ ?_ ?_ (My.bn2 My.sLMul _ _)) (My.dq ?_ ?_ ?_ ?_ (My.bn1 My.sWhole _ _)) (My.dq ?_ ?_ ?_ ?_ (My.bn1 My.sLFrac _ _)) (My.dq ?_ ?_ ?_ ?_ (My.bn2 My.sLFracs _ _)) (My.dq ?_ ?_ ?_ ?_ (My.bn2 My.s_law_across _ _)) (My.dq ?_ ?_ ?_ ?_ (My.bn2 My.s_law_down _ _)) (My.dq ?_ ?_ ?_ ?_ (My.bn3 My.s_law_two _ _)) (My.dq ?_ ?_ ?_ ?_ (My.bn2 My.s_law_wheel _ _)) (My.dq ?_ ?_ ?_ ?_ (My.bn3 My.s_law_cut _ _)) (My.dq ?_ ?_ ?_ ?_ (My.bn3 My.s_law_boxes _ _)) (My.dq ?_ ?_ ?_ ?_ (My.bn1 My.s_law_share _ _)) (My.dq ?_ ?_ ?_ ?_ (My.bn3 My.s_law_scaled _ _)) (My.dq ?_ ?_ ?_ ?_ (My.bn4 My.s_law_points _ _)) (My.dq ?_ ?_ ?_ ?_ (My.bn1 My.sLaw _ _)) ?_ ?_ ?_ ?_ ?_ ?_ ⟨?_⟩ ⟨?_⟩ ⟨?_⟩ ⟨?_⟩ ⟨?_⟩ ⟨?_⟩ ⟨?_⟩ ⟨?_⟩ ⟨?_⟩ ⟨?_⟩ ⟨?_⟩ ⟨?_⟩ ⟨?_⟩ ⟨?_⟩ ⟨?_⟩ ⟨?_⟩
    all_goals try first | k_is | k_exc | kernel_rfl | exact ⟨rfl⟩
