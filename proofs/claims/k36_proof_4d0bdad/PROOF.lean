import PyProof.Rows.All
import Wide.All
import OpenK.AllK
import Wide.FinOn
import Lean
import PyProof.EqAt
import PyProof.EqKinds
import PyProof.TupleCall
import PySem.Challenge.RW_currentfloor_k36_whole_other_floor_turne
noncomputable section
set_option Elab.async false
set_option linter.all false
set_option maxRecDepth 100000
open List renaming length_map->ja,getElem?_eq_getElem->jb,getElem?_eq_some_iff->jc,mem_of_getElem?->jd,getD_eq_getElem?_getD->je,getElem?_map->ji,replicate->jo,forall_mem_nil->jr,mem_map->js,range->ju,forall_mem_cons->jv,length_append->jw,map_cons->jx,getElem?_append_right->jy,take_of_length_le->jz,map_append->jH,mem_append->jI,size_toArray->jJ,mem_cons->jK,getElem?_append_left->jM,mem_flatten->jN,mem_singleton->jO,getElem_of_mem->jP,length_range->jV,mem_cons_of_mem->jX,mem_range->jZ,flatten_cons->j5,sum_cons->j7,length_cons->ka,not_mem_nil->ke,getElem?_set_ne->kh,mem_append_right->kj,replicate_succ->km,getElem?_set_self->ko,getLastD_eq_getLast?->kq,map_map->kr,length_drop->kA,length_take->kB,getElem?_range->kE,flatten_append->kI,nodup_cons->kJ,append_assoc->kN,mem_cons_self->kO,map_nil->kR,getElem_mem->kU,getElem?_eq_none->kW,length_singleton->kX,getElem?_cons_succ->kZ,nodup_append->lj,append_nil->lC,mem_iff_getElem?->lD,nodup_range->lK,take_length->lL,take_append_drop->lN,pairwise_map->lP,getElem?_mapIdx->lS,range_succ_eq_map->lU,map_congr_left->lX,idxOf_lt_length_iff->l5,length_mapIdx->l9,length_eq_zero_iff->mf,mem_append_left->mh,Pairwise->mq,getElem_cons_drop->mC,length_pos_of_mem->mD,length_set->mI,mem_or_eq_of_mem_set->mJ,sum_nil->mM,length_nil->mT,length->m7,range_succ->m9,cons_append->nz,getElem?_drop->nH,getElem?_toArray->nO,Nodup->nU,mem_of_mem_drop->nV,replicate_succ'->nX,length_reverse->ow,replicate_append_replicate->oy,getElem?_replicate->oB,find?_cons->oI,getLast?_cons->oJ,mem_filter->oK,pairwise_lt_range->oP,ext_getElem?->oS,getElem?_zipWith->oV,length_replicate->oW,map_set->oX,getLast?_append->o8,any_cons->pA,map_drop->pB,perm_ext_iff_of_nodup->pC,nil_append->pK,pairwise_iff_getElem->pM,sum_append->pN,Perm->pQ,filter_append->pR,foldl->qc,find?_cons_of_neg->qv,find?_cons_of_pos->qw,map_take->qA,flatten_nil->qD,pairwise_flatten->qJ,forIn_cons->qM,of_mem_zip->qN,zipWith->qP,eq_nil_of_length_eq_zero->qY,filterMap_cons->qZ,length_pos_iff->rf,map_eq_nil_iff->rh,mem_map_of_mem->rj,take_zero->rB,append_of_mem->rO,getElem?_take->rP,getElem_idxOf->rQ,nodup_iff_pairwise_ne->rY,getElem?_inj->so,getLast?_map->su,mem_of_find?_eq_some->sT,all_eq_true->tf,ext_getElem->tj,length_erase_of_mem->tq,map->tu,mem_reverse->tD,filter_cons_of_neg->tP,filter_cons_of_pos->tQ,idxOf_cons->tU,set_append_right->uw,all_cons->uM,length_zipWith->uV,replicate_zero->uW,getD->ve,getElem_range->vf,mem_filterMap->vg,mem_replicate->vh,set_cons_succ->vk,foldl_append->vM,reverse_cons->vN,take_add_one->vO,filter_cons->wk,map_zipWith->wm,range'_succ->wo,zipIdx_cons->wq,find?_some->wK,foldl_cons->wL,zipIdx_nil->wM,forIn_nil->w9,map_id''->xj
open PySem renaming wpAny_bind->jf,Shared->jh,sizeLine->jR,wpAny_pure->jS,Program->j8,starEach->kc,Builtin->kd,PassesOwn->kD,FuncData->kF,Expr->kG,Around->kK,bootBuiltins->k7,mainGlobals->lW,wpAny_field->l8,wpAny_pyIter_tuple->md,wpAny_mono->mj,PyData->mB,mem_of_lookup->mF,IsPair->mL,wpAny_Call_Name_kw->mO,wpAny_callSpecial?_slot->mR,binaryOp->mS,compareOp->m5,backTo->nh,foldedSetIterable->nq,wpAny_newObj_type->nv,wpAny_seqItems->nA,Spec->nB,sizeLine_eq->nF,wpAny_setField_rec->nN,wpAny_passesOwn->nP,wpAny_pyIter_list->nS,wpAny_call_entry->ou,behindInMarks->oF,sysModules->oO,wpAny_truthy_bool->oT,assignEach->pj,call_meets->pk,Keyword->pF,sliceBounds->pI,tupleKind_room_in1->p8,getItem->qg,wpAny_pyIter_enum->qr,Paired->qx,attributeBase->qB,wpAny_holding->qC,noFill_tuple_add->qE,IsPart->qL,letOwnedTupleGo->qV,wpAny_execs_nil->qW,wpAny_updateSeq_pair->qX,keywordEach->rL,rawInt->rS,seq_tuple_add->r9,wpAny_letOwnedTupleGo_enum->si,wpAny_onRaise->sj,wpAny_rule->sX,callerA->sY,valueAt->sZ,Within->tH,ZipApart->tJ,assign->tK,bindArgs->tL,concat_meets->tM,wpAny_typeOf->tN,wpAny_pyNext_enum_itemD->tT,Fin->tV,swapsWith->tY,tupleKind->tZ,IsRangeIter->t7,subscripted->ug,wpAny_Call_method_late->ui,wpAny_pyIter_rangeiter->uj,wpAny_pyNext_enum_endD->um,wpAny_pyNext_range_end->uo,BindsTo->uq,codeAny->uD,pyNext->uE,relabel->uF,wpAny_isTrue_Compare1->uG,backToKw->uK,wpAny_pyIter_revIter->uL,rangeSize_one->uO,wpAny_standAt->uQ,IsEnum->vd,codeAny_mono->vE,seqIndex?->vF,seqIndex_neg->vG,wpAny_pyIter_range->vH,slot_list_getitem->vV,wpAny_assign_Name->vW,wpAny_sequenceKey->vX,seqIndex_of->v8,wpAny_letGo->v9,NameKind->wt,PlainAttrs->wQ,call->wV,newFields->wW,builtinsNs->wZ,typeIs_int->w6,wpAny_Name->w8
open Nat renaming le_refl->jj,le_trans->jW,lt_or_ge->j6,lt_of_lt_of_le->ku,zero_le->kH,pow_le_pow_right->kM,ne_of_lt->kS,lt_of_le_of_lt->lI,mul_le_mul_left->lY,mul_succ->mw,lt_irrefl->mW,eq_zero_or_pos->nI,ne_of_gt->nJ,pow_succ->nK,sub_self->nM,zero_add->oj,le_mul_of_pos_right->oC,add_comm->oY,mul_le_mul_right->o9,one_mul->pG,pow_add->pH,add_sub_cancel->pS,mul_comm->pU,lt_trichotomy->qm,Coprime->rH,add_mul->rJ,le_of_dvd->rZ,mod_two_eq_zero_or_one->r8,le_of_lt->tE,pow_lt_pow_right->uI,pow_le_pow_left->uX,pow_zero->vm,lt_succ_of_lt->vP,mul_one->vZ,mul_pos->v5,lt_succ_self->wu,succ_ne_self->wy,min_eq_left->wN,not_lt_zero->wO,mul_assoc->xk
open PySem.W renaming Frag->jk,mg_none_of->kP,kia_one->l6,fnOf->mN,keepIn->qd,kitOne->qf,OpenLaw->qS,codeIn->rC,findIn->rD,methodObj->sN,instObj->tW,cellsFrom_some->ub,lookIn->uC,mg_of->uN,nsIn->vp,hasDictIn->vR,kitx_dict->vS,kitx_list->vT,plainOver->vU,plainGet->wC,WalkO->xt
open Or renaming inl->jn,inr->om
open PySem.Heap renaming get?_push_of_some->jt,lt_size->jQ,get?_push_size->jY,SameBut->mV,size_push->mZ,IsTuple->og,IsList->pE,get?_update_other->qt,get?_update_self->qH,ExtBut->t5,IsTupleIter->wj,IsListIter->wH
open Option.some renaming inj->jL
open PySem.F renaming plainAttrs_list->jT,slot_list_append->kf,type_list_append->kg,slot_tuple_iterator_next->mY,args_tuple_add_2->oo,slot_list_insert->oq,entry_tuple_add->oE,slot_tuple_add->oQ,slot_zip_next->oZ,slot_tuple_index->pW,type_list_insert->pX,slot_list_index->qh,args_tuple_iterator_next_1->qo,entry_tuple_iterator_next->qy,plainAttrs_tuple->tF,type_tuple_index->tG,args_zip_next_1->tR,type_list_index->tS,entry_zip_next->t9,slot_list_pop->uA,type_list_pop->uB,slot_int_rmul->wG
open Option renaming some->jU,map_eq_some_iff->lV,isSome_iff_exists->pV,map_some->qQ,isSome_map->sv,getD_none->wz,getD_some->wA
open Bool renaming false_ne_true->j0,and_eq_true->mX,eq_iff_iff->oG
open PySem.PassesOwn renaming never->j3
open Sum renaming inl->j4,inr->rE
open Int renaming natAbs_natCast->j9,natAbs_mul->kn,gcd->kL,toNat_natCast->kQ,emod_nonneg->k9,emod_lt_of_pos->lq,fdiv_eq_ediv_of_dvd->lE,mul_ne_zero->mH,ne_of_gt->m8,mul_ediv_cancel_left->oh,gcd_dvd_right->oR,lt_or_le->oU,gcd_pos_of_ne_zero_left->o6,gcd_dvd_left->o7,mul_nonpos_of_nonpos_of_nonneg->qj,natAbs_sub_le->qk,mul_le_mul_of_nonneg_right->qK,natAbs_neg->rz,mul_pos->rG,ofNat_dvd_left->rN,fmod_eq_emod_of_nonneg->rX,natAbs_ediv_le_natAbs->sQ,natAbs_pos->uv,ediv_mul_cancel->uU,le_of_lt->vc,dvd_mul_right->vK,natAbs_add_le->vL,one_mul->vY,natAbs->wI,natCast_mul->wJ,dvd_trans->xg,mul_assoc->xh
open PyProof.Rows renaming callWith_type1->kz,slot_tuple_getitem->lQ,AllBare->qF,envOfC->qU,IntsAre->rA,boot_enumerate->rR,boot_range->sW,subscriptTail_builtinR->ue,subscriptTail->uP,entry_tuple_getitem->uZ,args_tuple_getitem->vD,isInt_at->wF,Subscript_->wY
open Rat renaming intCast_mul->kC,mul_nonneg->mE,mul_eq_zero->mK,intCast_neg->oM,natCast_mul->oN,lt_irrefl->pD,mul_comm->pY,num_divInt_den->pZ,divInt_eq_div->qp,intCast_sub->qT,add_zero->tI,intCast_add->tX,div_mul_cancel->vt,inv_mul_cancel->vv,mul_inv_cancel->vw,mul_zero->vx,zero_mul->vy,one_mul->v7,lt_iff->wX,mul_assoc->xu
open PySem.Builtin.SmallTypes renaming nextOf->kT,ownedTupleIsFree->mP,ownedTupleHandOut->pO
open False renaming elim->kY
open Ne renaming symm->lF
open PySem.SeqAt renaming EqAt->lG,eqv_refl->xc
open PySem.Value renaming ref->lO,bool->nY,none->ph,int->vB,str->vC,isStrOf->xv
open Classical renaming byContradiction->mG,choose_spec->uu,choose->wc
open Array renaming length_toList->mU,append_assoc->va,getElem_mem->vI
open List.Pairwise renaming imp->nj,imp_of_mem->pP
open True renaming intro->nD
open PySem.Builtin.Slice renaming slicePlaces->nT,sliceAdjust->pJ,sliceApplied->rT
open PySem.Shared renaming heap->nZ
open PySem.AutoSeq1 renaming wpAny_loadPart'->n8
open PySem.Builtin.List renaming listTooLong->n9
open PySem.Builtin.Tuple renaming tupleExact->oa,tupleItemsOf->rV
open PySem.Builtin.Range renaming rangeSize->oz,small->uS
open ForInStep renaming yield->oH
open PySem.Str renaming ofString->p7
open PySem.Builtin renaming bitXor->p9
open Function renaming comp_def->qi
open PySem.Data renaming cell->qG,fields->rF
open Prod.mk renaming inj->rK
open PySem.Calls renaming spliced_cons->rM,Name_function_global->rW,spliced_nil->sk,callWith_builtin->t4,evalArgs_plain->uH
open PySem.Obj renaming mapSeq->sV,data_mapFields->vn
open PySem.IsRange renaming new->t6
open PyProof renaming noPylong_small->t8
open Sum.inl renaming inj->ud
open Prod renaming mk->uz,fst->uJ,snd->wB
open PySem.Builtin.Int renaming intBits->uR
open PySem.Heap.SameBut renaming update->uT
open Std.Legacy.Range renaming forIn_eq_forIn_range'->uY
open PySem.PyData renaming depth->vo,canLayAll0->vQ,depthAll->wU
open PySem.SeqAt.EqAt renaming int_str->vz,str_int->vA
open PySem.Heap.IsTuple renaming push->vJ
open PySem.Heap.IsList renaming push->we
open Std.Legacy renaming Range->wD
open PyProof.Rows.IsTup renaming new->xf
open PySem.Paired renaming length->xr
open PySem.Heap.IsTupleIter renaming extBut->xw
theorem jm:type_of% @if_neg:=@if_neg
theorem jq:type_of% @if_pos:=@if_pos
theorem lM:type_of% @or_false:=@or_false
theorem l7:type_of% @decide_eq_false:=@decide_eq_false
theorem mQ:type_of% @decide_eq_true:=@decide_eq_true
theorem nQ:type_of% @decide_eq_true_eq:=@decide_eq_true_eq
namespace L2
open PySem PySem.Spec PyProof.Rows
abbrev Aa:=Sum Int Str
def Jo:Aa->Value->Bool
 | .inl k,v=>Value.isInt k v
 | .inr x,v=>xv x v
def gS(w:World):Aa->Int
 | .inl k=>hashInt k
 | .inr x=>hashStr w x
theorem GA:∀{k:Aa} {v:Value},Jo k v=true->(∃i t,k=j4 i/\v=vB i t)\/(∃x t,k=rE x/\v=vC x t)
 | .inl i,v,h=>by
  obtain⟨t,e⟩:=Value.isInt_shape (k:=i) (v:=v) h;exact .inl ⟨i,t,rfl,e⟩
 | .inr x,v,h=>by
  obtain⟨t,e⟩:=Value.isStrOf_shape (x:=x) (v:=v) h;exact .inr ⟨x,t,rfl,e⟩
theorem Yq(i:Int)(t:Tok):Jo (.inl i) (.int i t)=true:=by simp[Jo,Value.isInt]
theorem Ya(x:Str)(t:Tok):Jo (.inr x) (.str x t)=true:=by simp[Jo,xv]
theorem cu(a b:Int):decide ((j4 a:Aa)=j4 b)=(a == b):=by
 by_cases e:a=b
 ·subst e; simp
 ·have h:¬(j4 a:Aa)=j4 b:=λq=>e (ud q)
  rw[l7 h];exact(beq_eq_false_iff_ne.mpr e).symm
theorem dH(a b:Str):decide ((rE a:Aa)=rE b)=decide (a=b):=by
 by_cases e:a=b
 ·subst e; simp
 ·have h:¬(rE a:Aa)=rE b:=λq=>e (rE.inj q)
  rw[l7 h,l7 e]
theorem cy(a:Int)(b:Str):decide ((j4 a:Aa)=rE b)=false:=l7 (λq=>nomatch q)
theorem dR(a:Str)(b:Int):decide ((rE a:Aa)=j4 b)=false:=l7 (λq=>nomatch q)
def D1(prog:j8)(w:World):PySem.KeyKind prog w Aa where
 is:=Jo
 hash:=gS w
 inj:=λv a b ha hb=>by
  rcases GA ha with ⟨i,t,rfl,rfl⟩ | ⟨x,t,rfl,rfl⟩
  ·rcases GA hb with ⟨j,u,rfl,e⟩ | ⟨y,u,rfl,e⟩
   ·injection e with e1 _; rw[e1]
   ·exact nomatch e
  ·rcases GA hb with ⟨j,u,rfl,e⟩ | ⟨y,u,rfl,e⟩
   ·exact nomatch e
   ·injection e with e1 _; rw[e1]
 byValue:=λk v h=>by
  rcases GA h with ⟨i,t,rfl,rfl⟩ | ⟨x,t,rfl,rfl⟩ <;> rfl
 pyHash:=λhv h=>by
  rcases GA hv with ⟨i,t,rfl,rfl⟩ | ⟨x,t,rfl,rfl⟩
  ·exact wpAny_pyHash_int h
  ·exact wpAny_pyHash_str h
 eqBool:=λhu hv h=>by
  rcases GA hu with ⟨i,t,rfl,rfl⟩ | ⟨x,t,rfl,rfl⟩
  ·rcases GA hv with ⟨j,u,rfl,rfl⟩ | ⟨y,u,rfl,rfl⟩
   ·rw[cu] at h; exact wpAny_eqBool_int h
   ·rw[cy] at h; exact vz i t y u _ _ _ _ h
  ·rcases GA hv with ⟨j,u,rfl,rfl⟩ | ⟨y,u,rfl,rfl⟩
   ·rw[dR] at h; exact vA x t j u _ _ _ _ h
   ·rw[dH] at h; exact wpAny_eqBool_str h
 «strs»:=λk x t v h=>by
  rcases GA h with ⟨i,u,rfl,e⟩ | ⟨y,u,rfl,e⟩
  ·exact nomatch e
  ·injection e with e1 _
   subst e1;cases v <;> rfl
theorem Xd(prog:j8)(w:World)(i:Int)(t:Tok):(D1 prog w).is (.inl i) (.int i t)=true:=Yq i t
theorem XT(prog:j8)(w:World)(x:Str)(t:Tok):(D1 prog w).is (.inr x) (.str x t)=true:=Ya x t
inductive V where
 | BE | bl (b:Bool) | int (i:Int) | str (x:Str) | FO (b:Array UInt8) | J3 (b:UInt64) | ref (a:Addr) | ty (n:String)
 deriving DecidableEq
def Ax:V->Value->Prop
 | .BE,u=>u=ph
 | .bl b,u=>u=nY b
 | .int i,u=>∃t,u=vB i t
 | .str x,u=>∃t,u=vC x t
 | .FO b,u=>∃t,u=Value.bytes b t
 | .J3 b,u=>∃t,u=Value.float b t
 | .ref a,u=>u=lO a
 | .ty n,u=>u=Value.type n
abbrev Ah:List V->List Value->Prop:=qx Ax
theorem Ah.length{xs:List V}{us:List Value}(r:Ah xs us):xs.length=us.length:=xr r
theorem Ah.get:∀{xs:List V} {us:List Value} {i:Nat} {x:V},Ah xs us->xs[i]?=some x->∃u,us[i]?=some u/\Ax x u
 | _,_,_,_,.nil,e=>by simp at e
 | _,_,0,_,.cons r _,e=>by simp at e; subst e; exact⟨_,rfl,r⟩
 | _,_,i+1,x,.cons _ t,e=>by
  obtain⟨u,h1,h2⟩:=Ah.get (i:=i) (x:=x) t (by simpa using e);exact⟨u,by simpa using h1,h2⟩
theorem Ah.set{x:V}{u:Value}(r:Ax x u):∀{xs:List V} {us:List Value} (i:Nat),Ah xs us->Ah (xs.set i x) (us.set i u)
 | _,_,_,.nil=>.nil
 | _,_,0,.cons _ t=>.cons r t
 | _,_,i+1,.cons q t=>.cons q (Ah.set r i t)
theorem Ah.append:∀{xs ys:List V} {us ws:List Value},Ah xs us->Ah ys ws->Ah (xs++ys) (us++ws)
 | _,_,_,_,.nil,s=>s
 | _,_,_,_,.cons r t,s=>.cons r (Ah.append t s)
theorem Ah.take:∀{xs:List V} {us:List Value} (n:Nat),Ah xs us->Ah (xs.take n) (us.take n)
 | _,_,0,_=>.nil
 | _,_,_+1,.nil=>.nil
 | _,_,n+1,.cons r t=>.cons r (Ah.take n t)
theorem Ah.drop:∀{xs:List V} {us:List Value} (n:Nat),Ah xs us->Ah (xs.drop n) (us.drop n)
 | _,_,0,r=>r
 | _,_,_+1,.nil=>.nil
 | _,_,n+1,.cons _ t=>Ah.drop n t
def EZ:Option V->Option Value->Prop
 | some v,some u=>Ax v u
 | none,none=>True
 | _,_=>False
def KV{κ:Type}:List (κ×V)->List (κ×Value)->Prop:=qx λ(p:κ×V) (q:κ×Value)=>p.1=q.1/\Ax p.2 q.2
def kV:Aa->V
 | .inl i=>.int i
 | .inr x=>.str x
inductive HO where
  | AD (xs:List V)
  | AG (xs:List V)
  | dK (kvs:List (Aa×V)) | dT (kvs:List (List Aa×V))
  | set (S:Int->Bool) (n:Nat)
  | E1 (C dx:Addr) (fs:List (Str×V))
  | Ed (x:Addr)
  | xd (fs:List (Str×V))
  | P9 (f x:Addr)
  | QJ (lo hi:Int)
  | EL (o:Obj) (u:HO)
  | JA (ps:Array Value)
  | ext (φ:Heap->Prop)
abbrev Hp:=Addr->Option HO
def AH(H:Hp)(a:Addr)(o:HO):Hp:=λb=>if b=a then some o else H b
theorem AU{H:Hp}{a:Addr}{o:HO}:AH H a o a=some o:=by unfold AH; rw[jq rfl]
theorem Ad{H:Hp}{a b:Addr}{o:HO}(h:b≠a):AH H a o b=H b:=by unfold AH; rw[jm h]
theorem fO{H:Hp}{a b:Addr}{o u:HO}(h:H a=some o)(h':H b=some u)(d:o≠u):a≠b:=by
 intro e; subst e; rw[h] at h'; exact d (jL h')
theorem BP{H:Hp}{a b:Addr}{o:HO}(h:H a=some o)(h':H b=none):a≠b:=by
 intro e; subst e; rw[h] at h'; cases h'
section
variable (P:j8) (w:World)
def Bq(H:Hp)(h:Heap)(a:Addr):HO->Prop
 | .AD xs=>xs.length<=jR/\∃(its:List Value) (n:Nat),Ah xs its/\h.get? a=some { cls:=.type "list",data:=.seq its.toArray n }
 | .AG xs=>xs.length<=jR/\∃its:List Value,Ah xs its/\IsTup h a its.toArray/\∃o,h.get? a=some o/\o.dict=none
 | .dK kvs=>kvs.length<=jR/\(a == oO)=false/\∃vs,KV kvs vs/\h.DictOf (D1 P w) a vs
 | .dT kvs=>kvs.length<=jR/\(a == oO)=false/\∃xs:List (List Aa×Addr×Value),
   qx (λ(p:List Aa×V) (q:List Aa×Addr×Value)=>p.1=q.1/\H q.2.1=some (.AG (p.1.map kV))/\Ax p.2 q.2.2) kvs xs /\
   ∃o es ep,h.get? a=some o/\o.ExactDict/\o.data=.dict es ep/\es.toList=xs.map (entryOfKey (tZ (D1 P w)))/\(xs.map (·.1)).Nodup
 | .set S n=>h.SetOf (intKind P w) a S n
 | .E1 C dx fs=>H dx=some (.Ed a)/\fs.length<=1000/\dx≠a/\h.get? a=some (tW C dx) /\
   ∃mA,h.Ns1 dx mA/\(∀f,EZ (fs.lookup f) (mA f))/\tH mA (fs.map (·.1))
 | .Ed _=>∃o,h.get? a=some o
 | .xd fs=>∃mA,h.Ns1 a mA/\∀f,EZ (fs.lookup f) (mA f)
 | .QJ lo hi=>∃t u v,h.get? a=some { cls:=.type "range",data:=.fields #[.int lo t,.int hi u,.int 1 v] }
 | .EL o u=>h.get? a=some o/\Bq H h a u
 | .JA ps=>h.get? a=some { cls:=.none,data:=.fields ps }
 | .P9 f x=>h.get? a=some (sN (.ref f) (.ref x))
 | .ext φ=>φ h/\(∃o,h.get? a=some o)/\∀h1 h2:Heap,φ h1->(∀o,h1.get? a=some o->h2.get? a=some o)->φ h2
def By(H:Hp)(h:Heap):Prop:=∀a o,H a=some o->Bq P w H h a o
end
section
variable {P:j8} {w:World} {H H':Hp} {h h':Heap} {a:Addr} {o:HO}
theorem Bq.lt(x:Bq P w H h a o):a<h.objs.size:=by
 cases o with
 | AD xs=>obtain⟨_,_,_,_,e⟩:=x; exact jQ e
 | AG xs=>obtain⟨_,_,_,p,_⟩:=x; exact p.lt
 | dK kvs=>obtain⟨_,_,_,_,o,_,_,e,_⟩:=x; exact jQ e
 | dT kvs=>obtain⟨_,_,_,_,o,_,_,e,_⟩:=x; exact jQ e
 | set S n=>obtain⟨o,_,_,_,e,_⟩:=x; exact jQ e
 | E1 C dx fs=>obtain⟨_,_,_,e,_⟩:=x; exact jQ e
 | Ed y=>obtain⟨_,e⟩:=x; exact jQ e
 | xd fs=>obtain⟨_,⟨_,_,_,e,_⟩,_⟩:=x; exact jQ e
 | QJ lo hi=>obtain⟨_,_,_,e⟩:=x; exact jQ e
 | EL ob u=>obtain⟨e,_⟩:=x; exact jQ e
 | JA ps=>exact jQ (show h.get? a=some _ from x)
 | P9 f y=>exact jQ (show h.get? a=some _ from x)
 | ext φ=>obtain⟨_,⟨_,e⟩,_⟩:=x; exact jQ e
theorem qx.Px{α β:Type}{F G:α->β->Prop}:∀{l₁:List α} {l₂:List β},qx F l₁ l₂->(∀a b,F a b->G a b)->qx G l₁ l₂
 | _,_,.nil,_=>.nil
 | _,_,.cons r t,f=>.cons (f _ _ r) (qx.Px t f)
theorem Bq.Fs (x:Bq P w H h a o) (k:∀b u,(b=a\/H b=some (.Ed a))->h.get? b=some u->h'.get? b=some u)
  (ho:∀b,H b=some (.Ed a)->H' b=some (.Ed a)) (ht:∀b xs,H b=some (.AG xs)->H' b=some (.AG xs)):Bq P w H' h' a o:=by
 induction o with
 | AD xs=>obtain⟨z,its,n,r,e⟩:=x; exact⟨z,its,n,r,k _ _ (.inl rfl) e⟩
 | AG xs=>obtain⟨z,its,r,⟨ob,e,c⟩,ob2,e2,c2⟩:=x; exact⟨z,its,r,⟨ob,k _ _ (.inl rfl) e,c⟩,ob2,k _ _ (.inl rfl) e2,c2⟩
 | dK kvs=>obtain⟨z,y,vs,r,ob,es,ep,e,c⟩:=x; exact⟨z,y,vs,r,ob,es,ep,k _ _ (.inl rfl) e,c⟩
 | dT kvs =>
  obtain⟨z,y,xs,r,ob,es,ep,e,c⟩:=x;exact⟨z,y,xs,qx.Px r λp q z=>⟨z.1,ht _ _ z.2.1,z.2.2⟩,ob,es,ep,k _ _ (.inl rfl) e,c⟩
 | set S n=>obtain⟨ob,es,ep,t,e,c⟩:=x; exact⟨ob,es,ep,t,k _ _ (.inl rfl) e,c⟩
 | E1 C dx fs =>
  obtain⟨d,z,ne,e,mA,⟨od,es,ep,e2,c⟩,r⟩:=x;exact⟨ho _ d,z,ne,k _ _ (.inl rfl) e,mA,⟨od,es,ep,k _ _ (.inr d) e2,c⟩,r⟩
 | Ed y=>obtain⟨ob,e⟩:=x; exact⟨ob,k _ _ (.inl rfl) e⟩
 | xd fs=>obtain⟨mA,⟨od,es,ep,e,c⟩,r⟩:=x; exact⟨mA,⟨od,es,ep,k _ _ (.inl rfl) e,c⟩,r⟩
 | QJ lo hi=>obtain⟨t,u,v,e⟩:=x; exact⟨t,u,v,k _ _ (.inl rfl) e⟩
 | EL ob u ih=>obtain⟨e,q⟩:=x; exact⟨k _ _ (.inl rfl) e,ih q⟩
 | JA ps =>
  have e:h.get? a=some { cls:=.none,data:=.fields ps }:=x;show h'.get? a=some { cls:=.none,data:=.fields ps };exact k a _ (.inl rfl) e
 | P9 f y =>
  have e:h.get? a=some (sN (.ref f) (.ref y)):=x;show h'.get? a=some (sN (.ref f) (.ref y));exact k a _ (.inl rfl) e
 | ext φ=>obtain⟨p,⟨o,e⟩,st⟩:=x; exact⟨st _ _ p λo q=>k _ _ (.inl rfl) q,⟨o,k _ _ (.inl rfl) e⟩,st⟩
theorem By.lt(x:By P w H h)(e:H a=some o):a<h.objs.size:=(x a o e).lt
theorem By.Bp(x:By P w H h)(e:h.objs.size<=a):H a=none:=by
 cases q:H a with
 | none=>rfl
 | some u=>exact absurd (ku (x.lt q) e) (mW _)
theorem By.Bx(x:By P w H h)(k:∀b u,h.get? b=some u->h'.get? b=some u):By P w H h':=λa o e =>
 (x a o e).Fs (λb u _ q=>k b u q) (λ_ q=>q) λ_ _ q=>q
theorem By.De(x:By P w H h)(k:∀b u,h.get? b=some u->h'.get? b=some u)(hp:h.objs.size<=a)(new:Bq P w (AH H a o) h' a o):By P w (AH H a o) h':=λb u e=>by
 have hn:=x.Bp hp;by_cases hb:b=a
 ·subst hb; rw[AU] at e; cases e; exact new
 ·rw[Ad hb] at e;exact(x b u e).Fs (λc v _ q=>k c v q) (λc q=>by rw[Ad (BP q hn)]; exact q) λc xs q=>by rw[Ad (BP q hn)]; exact q
end
def Rd(H:Hp)(a:Addr)(u:HO):Prop:=H a=some u\/∃o,H a=some (.EL o u)
theorem Rd.of{H:Hp}{a:Addr}{u:HO}(h:H a=some u):Rd H a u:=.inl h
theorem Rd.ok{P:j8}{w:World}{H:Hp}{h:Heap}{a:Addr}{u:HO}(r:Rd H a u)(x:By P w H h):Bq P w H h a u:=by
 rcases r with r | ⟨o,r⟩
 ·exact x a u r
 ·obtain⟨_,q⟩:=x a _ r;exact q
def LM:Option HO->Prop
 | some (.AD _)=>True
 | some (.dK _)=>True
 | some (.dT _)=>True
 | some (.set _ _)=>True
 | some (.E1 _ _ _)=>True
 | some (.ext _)=>True
 | _=>False
section
variable {P:j8} {w:World} {H:Hp} {h h':Heap} {x e:Addr} {o':HO}
theorem By.IT (ok:By P w H h) (mu:LM (H x)) (he:e=x\/H e=some (.Ed x)) (k:∀b u,b≠e->h.get? b=some u->h'.get? b=some u) (heo:∃u,h'.get? e=some u)
  (new:Bq P w (AH H x o') h' x o'):By P w (AH H x o') h':=λb u q=>by
 have nown:∀c y,H c=some (.Ed y)->c≠x:=λc y r z=>by subst z; rw[r] at mu; exact mu
 have ntup:∀c xs,H c=some (.AG xs)->c≠x:=λc xs r z=>by subst z; rw[r] at mu; exact mu
 by_cases hb:b=x
 ·subst hb; rw[AU] at q; cases q; exact new
 ·rw[Ad hb] at q;by_cases hbe:b=e
  ·have q':H b=some (.Ed x):=by
    rcases he with z | z
    ·exact absurd (hbe.trans z) hb
    ·rw[hbe]; exact z
   rw[q] at q'; cases q';obtain⟨v,hv⟩:=heo;exact⟨v,by rw[hbe]; exact hv⟩
  ·refine(ok b u q).Fs (λc v hc r=>k c v ?_ r) (λc r=>by rw[Ad (nown c b r)]; exact r) λc xs r=>by rw[Ad (ntup c xs r)]; exact r
   rcases hc with rfl | hc
   ·exact hbe
   ·rintro rfl;rcases he with z | z
    ·exact nown c b hc z
    ·rw[hc] at z; cases z; exact hb rfl
end
structure Un(fs ex:List Addr)(H H':Hp)(h h':Heap):Prop where
 keep:∀b o,h.get? b=some o->H b=none->b∉fs->b∉ex->h'.get? b=some o
 slot:∀b o,h.get? b=some o->H b=none->b∈fs->b∉ex->∃sl,h'.get? b=some { o with slots:=sl }
 free:∀b o,h.get? b=some o->H b=none->b∉ex->H' b=none
 there:∀b o,h.get? b=some o->b∉ex->∃o',h'.get? b=some o'
 tups:∀b xs,H b=some (.AG xs)->H' b=some (.AG xs)
 frzs:∀b o u,H b=some (.EL o u)->H' b=some (.EL o u)
 tbls:∀b ps,H b=some (.JA ps)->∃more,H' b=some (.JA (ps++more))
section
variable {fs fs' ex ex':List Addr} {H H1 H2:Hp} {h h1 h2 h':Heap} {a x e:Addr} {o:HO}
theorem Un.any(u:Un fs ex H H1 h h1){b:Addr}{ob:Obj}(q:h.get? b=some ob)(n:H b=none)(hx:b∉ex):∃sl,h1.get? b=some { ob with slots:=sl }:=by
 by_cases hb:b∈fs
 ·exact u.slot b ob q n hb hx
 ·exact⟨ob.slots,u.keep b ob q n hb hx⟩
theorem Un.trans(a:Un fs ex H H1 h h1)(b:Un fs ex H1 H2 h1 h2):Un fs ex H H2 h h2 where
 keep:=λc ob q n hc hx=>b.keep c ob (a.keep c ob q n hc hx) (a.free c ob q n hx) hc hx
 slot:=λc ob q n hc hx=>by
  obtain⟨sl,e1⟩:=a.slot c ob q n hc hx;obtain⟨sl',e2⟩:=b.slot c _ e1 (a.free c ob q n hx) hc hx;exact⟨sl',e2⟩
 free:=λc ob q n hx=>by
  obtain⟨o',e1⟩:=a.there c ob q hx;exact b.free c o' e1 (a.free c ob q n hx) hx
 there:=λc ob q hx=>by
  obtain⟨o',e1⟩:=a.there c ob q hx;exact b.there c o' e1 hx
 tups:=λc xs q=>b.tups c xs (a.tups c xs q)
 frzs:=λc ob xs q=>b.frzs c ob xs (a.frzs c ob xs q)
 tbls:=λc ps q=>by
  obtain⟨m1,e1⟩:=a.tbls c ps q;obtain⟨m2,e2⟩:=b.tbls c _ e1;exact⟨m1++m2,by rw[e2,va]⟩
theorem Un.Bx(k:∀b u,h.get? b=some u->h'.get? b=some u):Un fs ex H H h h' :=
 ⟨λb ob q _ _ _=>k b ob q,λb ob q _ _ _=>⟨ob.slots,k b ob q⟩,λ_ _ _ n _=>n,λb ob q _=>⟨ob,k b ob q⟩,λ_ _ q=>q,λ_ _ _ q=>q,λ_ ps q=>⟨#[],by rw[q]; simp⟩⟩
theorem Un.refl:Un fs ex H H h h:=Un.Bx λ_ _ q=>q
theorem Un.De(k:∀b u,h.get? b=some u->h'.get? b=some u)(hp:h.objs.size<=a)(hn:H a=none):Un fs ex H (AH H a o) h h' where
 keep:=λb u q _ _ _=>k b u q
 slot:=λb u q _ _ _=>⟨u.slots,k b u q⟩
 free:=λb u q n _=>by rw[Ad (kS (ku (jQ q) hp))]; exact n
 there:=λb u q _=>⟨u,k b u q⟩
 tups:=λb xs q=>by rw[Ad (BP q hn)]; exact q
 frzs:=λb u xs q=>by rw[Ad (BP q hn)]; exact q
 tbls:=λb ps q=>⟨#[],by rw[Ad (BP q hn),q]; simp⟩
theorem Un.IT(mu:LM (H x))(he:e=x\/H e=some (.Ed x))(k:∀b u,b≠e->h.get? b=some u->h'.get? b=some u)(heo:∃u,h'.get? e=some u):Un fs ex H (AH H x o) h h':=by
 have hx:∀b,H b=none->b≠x:=λb n z=>by subst z; rw[n] at mu; exact mu
 have hb:∀b,H b=none->b≠e:=λb n z=>by
  subst z;rcases he with r | r
  ·exact hx b n r
  ·rw[n] at r; cases r
 have hm:∀b u,H b=some u->¬LM (some u)->b≠x:=λb u q nm z=>by subst z; rw[q] at mu; exact nm mu
 refine⟨λb u q n _ _=>k b u (hb b n) q,λb u q n _ _=>⟨u.slots,k b u (hb b n) q⟩,λb u q n _=>by rw[Ad (hx b n)]; exact n,λb u q _=>?_,
  λb xs q=>by rw[Ad (hm b _ q λz=>z)]; exact q,λb u xs q=>by rw[Ad (hm b _ q λz=>z)]; exact q,λb ps q=>⟨#[],by rw[Ad (hm b _ q λz=>z),q]; simp⟩⟩
 by_cases hbe:b=e
 ·subst hbe; exact heo
 ·exact⟨u,k b u hbe q⟩
theorem Un.mono(u:Un fs ex H H1 h h1)(hs:∀b∈fs,b∈fs')(hx:∀b∈ex,b∈ex'):Un fs' ex' H H1 h h1 :=
 ⟨λb ob q n hb he=>u.keep b ob q n (λz=>hb (hs b z)) λz=>he (hx b z),λ_ _ q n _ he=>u.any q n λz=>he (hx _ z),λb ob q n he=>u.free b ob q n λz=>he (hx b z),λb ob q he=>u.there b ob q λz=>he (hx b z),u.tups,u.frzs,u.tbls⟩
end
def NI(h:Heap)(H:Hp):List Addr:=(ju h.objs.size).filter λa=>(H a).isSome
def GX(h:Heap)(H:Hp):Heap:=PySem.W.hideAll h (NI h H)
theorem Ye(h:Heap)(H:Hp):(GX h H).objs.size=h.objs.size:=PySem.W.hideAll_size _ _
theorem Z4{h:Heap}{H:Hp}{b:Addr}{o:Obj}(e:h.get? b=some o)(n:H b=none):(GX h H).get? b=some o :=
 PySem.W.hideAll_get _ e λhm=>by
  have q:(H b).isSome=true:=(oK.mp hm).2;rw[n] at q; simp at q
theorem aG{h:Heap}{H:Hp}{b:Addr}{o:Obj}(e:(GX h H).get? b=some o):h.get? b=some o/\H b=none:=by
 have e':h.get? b=some o:=PySem.W.of_hideAll (NI h H) e;refine⟨e',?_⟩;cases q:H b with
 | none=>rfl
 | some x =>
  have hm:b∈NI h H:=oK.mpr ⟨jZ.mpr (jQ e'),by simp[q]⟩;have z:(GX h H).get? b=none:=PySem.W.hideAll_none (NI h H) hm;rw[z] at e; cases e
def aY(g h:Heap)(L:Addr):List (Addr×Obj):=(ju h.objs.size).filterMap λa=>if a=L\/(g.get? a).isSome=true then none else (h.get? a).map λo=>(a,o)
def rest(g h:Heap)(L d:Addr):List (Addr×Obj):=(aY g h L).filter λp=>decide (p.1≠d)
structure Mod(K:jk)(mg:Str->Option Value)(base:Heap):Prop where
 QG:K.In base
 Ga:base.Ns lW mg
 KA:∃mb,base.Ns wZ mb/\∀x:Str,x≠"__name__"->mb x=k7 x
 nolimit:base.NoLimit
structure Cx where
 prog:j8
 w:World
 K:jk
 mg:Str->Option Value
 base:Heap
 A:kK
 N:List Str
 s₀:jh
 H₀:Hp
 env:Env
 outer:List Env
 stack:List Env
 ex:List Addr
 fn:Str->Bool
 Cr:Bool
 pn:List (Addr×Obj)
 xe:Value->jh->Prop
def FP(l:List Env):List Addr:=l.filterMap (·.frame)
abbrev Cx.fs(X:Cx):List Addr:=FP X.outer
def QE(sc:Scope)(x:Str):Prop:=sc.names.lookup x=some .local\/sc.names.lookup x=some .cell\/sc.names.lookup x=some .free
def KI(sc:Scope)(x:Str):Prop:=sc.names.lookup x=some .local\/sc.names.lookup x=some .cell
def gU(env:Env)(h:Heap)(m:Str->Option Value)(x:Str)(u:Value):Prop :=
 (env.kindOf x=some .local/\m x=some u)\/((env.kindOf x=some .cell\/env.kindOf x=some .free)/\∃c,env.cells.lookup x=some c/\h.IsCell c (some u))
structure Cx.Ok(X:Cx):Prop where
 DV:Mod X.K X.mg X.base
 kind:X.env.scope.kind=.function
 Ga:X.env.globals=lW
 KA:X.env.builtins=wZ
 above:X.s₀.heap.objs.size<=X.env.locals
 inj:∀x y c,X.env.cells.lookup x=some c->X.env.cells.lookup y=some c->x=y
 has:∀x,(X.env.kindOf x=some .cell\/X.env.kindOf x=some .free)->∃c,X.env.cells.lookup x=some c
 LU:∀x c,X.fn x=true->X.env.cells.lookup x=some c->X.s₀.heap.objs.size<=c
 hd:X.Cr=true->X.A.handled=none
 frames:X.A.frames=some X.stack
 NF:X.stack=X.outer\/(X.stack=X.env :: X.outer/\X.env.frame=some X.env.locals)
 W4:∀b∈X.ex,b≠X.env.locals/\∀x c,X.env.cells.lookup x=some c->c≠b
 bs:∀b o,X.base.get? b=some o->X.s₀.heap.get? b=some o/\X.H₀ b=none
 Fx:X.base.objs.size<=X.s₀.heap.objs.size
 LL:∀b o,X.base.get? b=some o->b∉X.ex
 K9:∀b∈X.ex,b∉X.fs
 Ew:X.s₀.heap.FunFrames X.base X.outer
 Iy:∀b∈X.fs,X.H₀ b=none
structure AI(X:Cx)(pins:List (Addr×Obj))(σ:List (Option V))(H:Hp)(s:jh):Prop where
 ok:X.Ok
 os:s.os=X.s₀.os
 bare:qF s.gens
 base:Un X.fs X.ex X.H₀ H X.s₀.heap s.heap
 D8:∃m,s.heap.Ns X.env.locals m/\∀(i:Nat) (x:Str) (v:V),X.N[i]?=some x->σ[i]?=some (some v)->QE X.env.scope x->∃u,Ax v u/\gU X.env s.heap m x u
 cell:∀x c,X.env.cells.lookup x=some c->∃v,s.heap.IsCell c v
 free:H X.env.locals=none
 Fo:∀x c,X.env.cells.lookup x=some c->H c=none
 pin:∀p∈X.pn++pins,s.heap.get? p.1=some p.2/\H p.1=none/\p.1≠X.env.locals/\p.1∉X.fs/\∀v,p.2.data≠.cell v
 hok:By X.prog X.w H s.heap
 len:σ.length=X.N.length
section
variable {X:Cx} {pins:List (Addr×Obj)} {σ:List (Option V)} {H H':Hp} {s:jh} {h':Heap}
theorem Cx.Ok.gW(ok:X.Ok){b:Addr}{o:Obj}(e:X.base.get? b=some o):b∉X.fs:=λhb=>by
 have:=(ok.Ew.mem hb).1
 rw[e] at this; cases this
theorem AI.bs(I:AI X pins σ H s):∀b o,X.base.get? b=some o->s.heap.get? b=some o/\H b=none:=λb o e =>
 ⟨I.base.keep b o (I.ok.bs b o e).1 (I.ok.bs b o e).2 (I.ok.gW e) (I.ok.LL b o e),I.base.free b o (I.ok.bs b o e).1 (I.ok.bs b o e).2 (I.ok.LL b o e)⟩
theorem AI.bk(I:AI X pins σ H s):∀b o,X.base.get? b=some o->s.heap.get? b=some o:=λb o e=>(I.bs b o e).1
theorem AI.DV(I:AI X pins σ H s):Mod X.K X.mg X.base:=I.ok.DV
theorem AI.Dg(I:AI X pins σ H s):X.K.In s.heap:=I.ok.DV.QG.keeps I.bk
theorem AI.nolimit(I:AI X pins σ H s):s.heap.NoLimit:=I.ok.DV.nolimit.keeps I.bk
theorem AI.fr(I:AI X pins σ H s):∃m,Fr X.base X.env.locals s.heap m :=
 let ⟨m,hn,_⟩:=I.D8
 ⟨m,hn,I.bk,jW I.ok.Fx I.ok.above⟩
theorem AI.lt(I:AI X pins σ H s):X.env.locals<s.heap.objs.size:=let ⟨_,hn,_⟩:=I.D8; hn.lt
theorem AI.sz(I:AI X pins σ H s):X.s₀.heap.objs.size<=s.heap.objs.size:=jW I.ok.above (tE I.lt)
theorem AI.gz(I:AI X pins σ H s){a:Addr}(h:s.heap.objs.size<=a):a∉X.fs:=λhb=>by
 obtain⟨_,o,ho,_⟩:=I.ok.Ew.mem hb;exact absurd (ku (jQ ho) (jW I.sz h)) (mW _)
theorem AI.cne(I:AI X pins σ H s):∀x c,X.env.cells.lookup x=some c->c≠X.env.locals:=λx c e z=>by
 obtain⟨v,o,ho,hd⟩:=I.cell x c e;obtain⟨m,⟨o',es,ep,ho',hd',_⟩,_⟩:=I.D8;rw[z,ho'] at ho; cases ho; rw[hd'] at hd; cases hd
theorem AI.Ew(I:AI X pins σ H s):s.heap.FunFrames X.base X.outer:=by
 have all:∀(l:List Env),(∀b∈FP l,b∈X.fs)->X.s₀.heap.FunFrames X.base l->s.heap.FunFrames X.base l:=by
  intro l
  induction l with
  | nil=>intro _ _; trivial
  | cons env r ih =>
   intro hs hl;obtain⟨hk,⟨L,o,hf,hn,ho,hd⟩,hr⟩:=hl;have hL:L∈X.fs:=hs L (by unfold FP; rw[qZ,hf]; exact kO);obtain⟨sl,e⟩:=I.base.slot L o ho (I.ok.Iy L hL) hL λz=>I.ok.K9 L z hL
   exact⟨hk,⟨L,_,hf,hn,e,hd⟩,ih (λb hb=>hs b (by unfold FP; rw[qZ,hf]; exact jX _ hb)) hr⟩
 exact all X.outer (λ_ hb=>hb) I.ok.Ew
theorem AI.stack(I:AI X pins σ H s):s.heap.FunFrames X.base X.stack:=by
 rcases I.ok.NF with e | ⟨e,hf⟩
 ·rw[e]; exact I.Ew
 ·rw[e];obtain⟨m,hn,_⟩:=I.D8;refine .cons (by rw[I.ok.kind]; decide) hf hn ?_ I.Ew;exact Heap.get?_none_of_le (jW I.ok.Fx I.ok.above)
theorem AI.MJ(I:AI X pins σ H s):∀b∈FP X.stack,b∈X.env.locals :: X.fs:=λb hb=>by
 rcases I.ok.NF with e | ⟨e,hf⟩
 ·rw[e] at hb; exact jX _ hb
 ·rw[e] at hb;unfold FP at hb;rw[qZ,hf] at hb;exact hb
theorem AI.Sg(I:AI X pins σ H s):∀b∈FP X.stack,H b=none:=λb hb=>by
 rcases jK.mp (I.MJ b hb) with e | hb
 ·rw[e]; exact I.free
 ·obtain⟨_,o,ho,_⟩:=I.ok.Ew.mem hb;exact I.base.free b o ho (I.ok.Iy b hb) λz=>I.ok.K9 b z hb
theorem AI.step {g':Array GenState} {t':Nat} {d':Drawn} {ch:List Addr} (I:AI X pins σ H s)
  (hch:∀b∈ch,(b∈X.ex\/X.s₀.heap.objs.size<=b)/\b≠X.env.locals/\(∀x c,X.env.cells.lookup x=some c->c≠b)/\∀p∈X.pn++pins,p.1≠b)
  (keep:∀b o,b≠X.env.locals->b∉X.fs->b∉ch->s.heap.get? b=some o->H b=none->h'.get? b=some o)
  (slot:∀b o,b≠X.env.locals->b∈X.fs->b∉ch->s.heap.get? b=some o->H b=none->∃sl,h'.get? b=some { o with slots:=sl }) (free:∀b o,b∉ch->s.heap.get? b=some o->H b=none->H' b=none)
  (there:∀b o,b∉ch->s.heap.get? b=some o->∃o',h'.get? b=some o')
  (tups:∀b xs,H b=some (.AG xs)->H' b=some (.AG xs)) (frzs:∀b o u,H b=some (.EL o u)->H' b=some (.EL o u)) (tbls:∀b ps,H b=some (.JA ps)->∃more,H' b=some (.JA (ps++more)))
  (ns:∀m,s.heap.Ns X.env.locals m->h'.Ns X.env.locals m) (hok:By X.prog X.w H' h') (hg:qF g') :
  AI X pins σ H' { s with heap:=h',gens:=g',drawn:=d',toks:=t' }:=by
 have neL:∀b o,X.s₀.heap.get? b=some o->b≠X.env.locals:=λb o e=>kS (ku (jQ e) I.ok.above)
 have neC:∀b o,X.s₀.heap.get? b=some o->b∉X.ex->b∉ch:=λb o e hx hb=>by
  rcases(hch b hb).1 with z | z
  ·exact hx z
  ·exact absurd (ku (jQ e) z) (mW _)
 have cellK:∀x c,X.env.cells.lookup x=some c->∀v,s.heap.IsCell c v->h'.IsCell c v:=λx c e v ⟨o,ho,hd⟩=>by
  have nch:c∉ch:=λz=>(hch c z).2.2.1 x c e rfl
  by_cases hc:c∈X.fs
  ·obtain⟨sl,q⟩:=slot c o (I.cne x c e) hc nch ho (I.Fo x c e);exact⟨_,q,hd⟩
  ·exact⟨o,keep c o (I.cne x c e) hc nch ho (I.Fo x c e),hd⟩
 refine⟨I.ok,I.os,hg,⟨λb o e n hb hx=>?_,λb o e n hb hx=>?_,λb o e n hx=>?_,λb o e hx=>?_,λb xs e=>tups b xs (I.base.tups b xs e),λb o xs e=>frzs b o xs (I.base.frzs b o xs e),λb ps e=>?_⟩,?_,λx c e=>?_,?_,λx c e=>?_,λp hp=>?_,hok,I.len⟩
 ·exact keep b o (neL b o e) hb (neC b o e hx) (I.base.keep b o e n hb hx) (I.base.free b o e n hx)
 ·obtain⟨sl,e1⟩:=I.base.slot b o e n hb hx;obtain⟨sl',e2⟩:=slot b _ (neL b o e) hb (neC b o e hx) e1 (I.base.free b o e n hx);exact⟨sl',e2⟩
 ·obtain⟨o',e1⟩:=I.base.there b o e hx;exact free b o' (neC b o e hx) e1 (I.base.free b o e n hx)
 ·obtain⟨o',e1⟩:=I.base.there b o e hx;exact there b o' (neC b o e hx) e1
 ·obtain⟨m1,e1⟩:=I.base.tbls b ps e;obtain⟨m2,e2⟩:=tbls b _ e1;exact⟨m1++m2,by rw[e2,va]⟩
 ·obtain⟨m,hn,hl⟩:=I.D8;refine⟨m,ns m hn,λi x v e1 e2 e3=>?_⟩;obtain⟨u,r,l⟩:=hl i x v e1 e2 e3;refine⟨u,r,?_⟩;rcases l with l | ⟨k,c,e,z⟩
  ·exact .inl l
  ·exact .inr ⟨k,c,e,cellK x c e _ z⟩
 ·obtain⟨v,z⟩:=I.cell x c e;exact⟨v,cellK x c e v z⟩
 ·obtain⟨m,⟨o,_,_,ho,_⟩,_⟩:=I.D8;exact free _ o (λz=>(hch _ z).2.1 rfl) ho I.free
 ·obtain⟨v,o,ho,hd⟩:=I.cell x c e;exact free c o (λz=>(hch c z).2.2.1 x c e rfl) ho (I.Fo x c e)
 ·obtain⟨e,n,ne,nf,d⟩:=I.pin p hp;have nch:p.1∉ch:=λz=>(hch p.1 z).2.2.2 p hp rfl
  exact⟨keep p.1 p.2 ne nf nch e n,free p.1 p.2 nch e n,ne,nf,d⟩
theorem AI.un{t':Nat}(I:AI X pins σ H s)(u:Un X.fs [] H H' s.heap h')(hok:By X.prog X.w H' h'):AI X pins σ H' { s with heap:=h',toks:=t' }:=by
 obtain⟨m,⟨o,es,ep,ho,r⟩,_⟩:=id I.D8;obtain⟨sl,hL⟩:=u.any ho I.free (by simp);exact I.step (g':=s.gens) (d':=s.drawn) (ch:=[]) (λ_ z=>nomatch z) (λb o _ hb _ e n=>u.keep b o e n hb (by simp)) (λb o _ hb _ e n=>u.slot b o e n hb (by simp)) (λb o _ e n=>u.free b o e n (by simp)) (λb o _ e=>u.there b o e (by simp)) u.tups u.frzs u.tbls (λm' hm=>by
  obtain⟨o',es',ep',ho',r'⟩:=hm;rw[ho] at ho'; cases ho';exact⟨_,es',ep',hL,r'⟩) hok I.bare
theorem AI.call {g':Array GenState} {t':Nat} {d':Drawn} {ch:List Addr} (I:AI X pins σ H s) (u:Un (FP X.stack) ch H H' s.heap h') (hok:By X.prog X.w H' h') (hg:qF g')
  (hch:∀b∈ch,(b∈X.ex\/X.s₀.heap.objs.size<=b)/\b≠X.env.locals/\(∀x c,X.env.cells.lookup x=some c->c≠b)/\∀p∈X.pn++pins,p.1≠b) :
  AI X pins σ H' { s with heap:=h',gens:=g',drawn:=d',toks:=t' }:=by
 obtain⟨m,⟨o,es,ep,ho,r⟩,_⟩:=id I.D8;obtain⟨sl,hL⟩:=u.any ho I.free λz=>(hch _ z).2.1 rfl
 exact I.step (ch:=ch) hch (λb o hL hb hc e n=>u.keep b o e n (λz=>(jK.mp (I.MJ b z)).elim hL hb) hc) (λb o _ _ hc e n=>u.any e n hc) (λb o hc e n=>u.free b o e n hc) (λb o hc e=>u.there b o e hc) u.tups u.frzs u.tbls (λm' hm=>by
  obtain⟨o',es',ep',ho',r'⟩:=hm;rw[ho] at ho'; cases ho';exact⟨_,es',ep',hL,r'⟩) hok hg
theorem AI.EH {t':Nat} {it:Addr} (I:AI X pins σ H s) (k:∀b o,b≠it->s.heap.get? b=some o->h'.get? b=some o) (hn:H it=none) (hL:it≠X.env.locals)
  (h1:it∈X.ex\/X.s₀.heap.objs.size<=it) (h2:∀x c,X.env.cells.lookup x=some c->c≠it) (h3:∀p∈X.pn++pins,p.1≠it):AI X pins σ H { s with heap:=h',toks:=t' }:=by
 have nit:∀b u,H b=some u->b≠it:=λb u e z=>by rw[z,hn] at e; cases e
 refine I.step (g':=s.gens) (d':=s.drawn) (ch:=[it]) (λb hb=>?_) (λb o _ _ hc e _=>k b o (λz=>hc (by simp[z])) e) (λb o _ _ hc e _=>⟨o.slots,k b o (λz=>hc (by simp[z])) e⟩) (λ_ _ _ _ n=>n)
  (λb o hc e=>⟨o,k b o (λz=>hc (by simp[z])) e⟩) (λ_ _ e=>e) (λ_ _ _ e=>e) (λb ps e=>⟨#[],by rw[e]; simp⟩) (λm hm=>?_) (λb u e=>?_) I.bare
 ·have e:b=it:=by simpa using hb
  subst e;exact⟨h1,hL,h2,h3⟩
 ·obtain⟨o,es,ep,ho,r⟩:=hm;exact⟨o,es,ep,k _ o (lF hL) ho,r⟩
 ·refine(I.hok b u e).Fs (λc v hc q=>k c v ?_ q) (λ_ q=>q) λ_ _ q=>q
  rcases hc with z | z
  ·rw[z]; exact nit b u e
  ·exact nit c _ z
theorem AI.DW(I:AI X pins σ H s)(t:Nat):AI X pins σ H { s with toks:=t }:=I.un (h':=s.heap) (t':=t) Un.refl I.hok
theorem AI.Bx{t':Nat}(I:AI X pins σ H s)(k:∀b u,s.heap.get? b=some u->h'.get? b=some u):AI X pins σ H { s with heap:=h',toks:=t' }:=I.un (Un.Bx k) (I.hok.Bx k)
theorem AI.De{a:Addr}{o:HO}{t':Nat}(I:AI X pins σ H s)(k:∀b u,s.heap.get? b=some u->h'.get? b=some u)(hp:s.heap.objs.size<=a)(new:Bq X.prog X.w (AH H a o) h' a o):
  AI X pins σ (AH H a o) { s with heap:=h',toks:=t' }:=I.un (Un.De k hp (I.hok.Bp hp)) (I.hok.De k hp new)
theorem AI.IT {x e:Addr} {o:HO} {t':Nat} (I:AI X pins σ H s) (mu:LM (H x)) (he:e=x\/H e=some (.Ed x)) (k:∀b u,b≠e->s.heap.get? b=some u->h'.get? b=some u) (heo:∃u,h'.get? e=some u)
  (new:Bq X.prog X.w (AH H x o) h' x o):AI X pins σ (AH H x o) { s with heap:=h',toks:=t' }:=I.un (Un.IT mu he k heo) (I.hok.IT mu he k heo new)
theorem AI.SE{pins':List (Addr×Obj)}(I:AI X pins σ H s)(h:∀p∈pins',s.heap.get? p.1=some p.2/\H p.1=none/\p.1≠X.env.locals/\p.1∉X.fs/\∀v,p.2.data≠.cell v):AI X pins' σ H s :=
 ⟨I.ok,I.os,I.bare,I.base,I.D8,I.cell,I.free,I.Fo,λp hp=>(jI.mp hp).elim (λz=>I.pin p (mh _ z)) (h p),I.hok,I.len⟩
theorem R7{N:List Str}(hN:N.Nodup){i j:Nat}{x:Str}(a:N[i]?=some x)(b:N[j]?=some x):i=j:=by
 obtain⟨h1,e1⟩:=jc.mp a;obtain⟨h2,e2⟩:=jc.mp b;exact(List.getElem_inj hN).mp (e1.trans e2.symm)
theorem Qx {M:Model} {A:kK} {E:Value->jh->Prop} {i:Nat} {x:Str} {v:V} {u:Value} {Q:Unit->jh->Prop} (I:AI X pins σ H s) (hN:X.N.Nodup) (hi:X.N[i]?=some x) (hx:KI X.env.scope x) (r:Ax v u)
  (h:∀s',AI X pins (σ.set i (some v)) H s'->(∃a,mV a s.heap s'.heap/\(a=X.env.locals\/X.env.cells.lookup x=some a))->Q () s') (hf:X.fn x=true\/X.env.scope.names.lookup x=some .local:=by first | exact .inl rfl | exact .inr rfl | assumption):wpAny M A (storeName X.env x u) Q E s:=by
 obtain⟨m,hn,hl⟩:=id I.D8;have hcls:(X.env.scope.kind == .class || (X.env.scope.kind == .module && X.env.locals != X.env.globals))=false:=by rw[I.ok.kind]; rfl
 have hiσ:i<σ.length:=by rw[I.len]; exact(jc.mp hi).1
 have cne:=I.cne;have tracked:∀{a:Addr} {h':Heap},(∃o,s.heap.get? a=some o/\H a=none)->mV a s.heap h'->By X.prog X.w H h':=λ{a h'} ha hs b ob e=>by
  obtain⟨_,_,hfree⟩:=ha;refine(I.hok b ob e).Fs (λc w' hc q=>(hs.2 c ?_).trans q) (λ_ q=>q) λ_ _ q=>q
  rintro rfl;rcases hc with rfl | hc
  ·rw[hfree] at e; cases e
  ·rw[hfree] at hc; cases hc
 rcases hx with hk | hk
 ·refine wpAny_storeName_local hk hn (λh' hn' hs=>?_) hcls;obtain⟨oL,_,_,hoL,_⟩:=id hn;refine h _ ⟨I.ok,I.os,I.bare,⟨λb o e n hb hx=>?_,λb o e n hb hx=>?_,I.base.free,λb o e hx=>?_,I.base.tups,I.base.frzs,I.base.tbls⟩,⟨_,hn',λj y v' e1 e2 e3=>?_⟩,λy c e=>?_,I.free,I.Fo,λp hp=>?_,tracked ⟨oL,hoL,I.free⟩ hs,by simpa using I.len⟩ ⟨_,hs,.inl rfl⟩
  ·exact(hs.2 b (kS (ku (jQ e) I.ok.above))).trans (I.base.keep b o e n hb hx)
  ·obtain⟨sl,e1⟩:=I.base.slot b o e n hb hx;exact⟨sl,(hs.2 b (kS (ku (jQ e) I.ok.above))).trans e1⟩
  ·obtain⟨o',e1⟩:=I.base.there b o e hx;exact⟨o',(hs.2 b (kS (ku (jQ e) I.ok.above))).trans e1⟩
  ·by_cases hj:j=i
   ·subst hj;rw[hi] at e1; cases e1;rw[ko hiσ] at e2;cases e2;exact⟨u,r,.inl ⟨hk,by simp⟩⟩
   ·rw[kh (lF hj)] at e2;obtain⟨u',r',q⟩:=hl j y v' e1 e2 e3;refine⟨u',r',?_⟩;rcases q with ⟨k,e⟩ | ⟨k,c,e,z⟩
    ·refine .inl ⟨k,?_⟩
     have:y≠x:=λe=>hj (R7 hN e1 (e ▸ hi))
     simp[this,e]
    ·exact .inr ⟨k,c,e,z.sameBut hs (cne y c e)⟩
  ·obtain⟨w',z⟩:=I.cell y c e;exact⟨w',z.sameBut hs (cne y c e)⟩
  ·obtain⟨e,n,ne,nf,d⟩:=I.pin p hp;exact⟨(hs.2 p.1 ne).trans e,n,ne,nf,d⟩
 ·have hfn:X.fn x=true:=by
   rcases hf with z | z
   ·exact z
   ·rw[z] at hk; cases hk
  obtain⟨c,hc⟩:=I.ok.has x (.inl hk);obtain⟨w',z⟩:=I.cell x c hc;refine wpAny_storeName_cell I.ok.kind hk hc z (λh' hc' hs=>?_);obtain⟨oc,hoc,hocd⟩:=id z;refine h { s with heap:=h' } ⟨I.ok,I.os,I.bare,⟨λb o e n hb hx=>?_,λb o e n hb hx=>?_,I.base.free,λb o e hx=>?_,I.base.tups,I.base.frzs,I.base.tbls⟩,⟨m,hn.sameBut hs (lF (cne x c hc)),λj y v' e1 e2 e3=>?_⟩,λy c' e=>?_,I.free,I.Fo,λp hp=>?_,tracked ⟨oc,hoc,I.Fo x c hc⟩ hs,by simpa using I.len⟩ ⟨c,hs,.inr hc⟩
  ·exact(hs.2 b (kS (ku (jQ e) (I.ok.LU x c hfn hc)))).trans (I.base.keep b o e n hb hx)
  ·obtain⟨sl,e1⟩:=I.base.slot b o e n hb hx;exact⟨sl,(hs.2 b (kS (ku (jQ e) (I.ok.LU x c hfn hc)))).trans e1⟩
  ·obtain⟨o',e1⟩:=I.base.there b o e hx;exact⟨o',(hs.2 b (kS (ku (jQ e) (I.ok.LU x c hfn hc)))).trans e1⟩
  ·by_cases hj:j=i
   ·subst hj;rw[hi] at e1; cases e1;rw[ko hiσ] at e2;cases e2;exact⟨u,r,.inr ⟨.inl hk,c,hc,hc'⟩⟩
   ·rw[kh (lF hj)] at e2;obtain⟨u',r',q⟩:=hl j y v' e1 e2 e3;refine⟨u',r',?_⟩;rcases q with q | ⟨k,c',e,z'⟩
    ·exact .inl q
    ·refine .inr ⟨k,c',e,z'.sameBut hs ?_⟩;rintro rfl;exact hj (R7 hN e1 (I.ok.inj _ _ _ e hc ▸ hi))
  ·by_cases hcc:c'=c
   ·subst hcc; exact⟨_,hc'⟩
   ·obtain⟨w2,z2⟩:=I.cell y c' e;exact⟨w2,z2.sameBut hs hcc⟩
  ·obtain⟨e,n,ne,nf,d⟩:=I.pin p hp;refine⟨(hs.2 p.1 ?_).trans e,n,ne,nf,d⟩;intro q;rw[q,hoc] at e;have q':oc=p.2:=jL e;exact d w' (by rw[<-q']; exact hocd)
theorem RY {M:Model} {A:kK} {E:Value->jh->Prop} {i:Nat} {x:Str} {v:V} {u:Value} {Q:Unit->jh->Prop} (I:AI X pins σ H s) (hN:X.N.Nodup) (hi:X.N[i]?=some x) (hx:KI X.env.scope x) (r:Ax v u)
  (h:∀s',AI X pins (σ.set i (some v)) H s'->Q () s') (hf:X.fn x=true\/X.env.scope.names.lookup x=some .local:=by first | exact .inl rfl | exact .inr rfl | assumption):wpAny M A (storeName X.env x u) Q E s :=
 Qx I hN hi hx r (λs' I' _=>h s' I') hf
theorem AI.fS {s':jh} {ch:List Addr} (I:AI X pins σ H s) (ho:s'.os=s.os) (u:Un (FP X.stack) ch H H' s.heap s'.heap) (hok:By X.prog X.w H' s'.heap) (hg:qF s'.gens)
  (hch:∀b∈ch,(b∈X.ex\/X.s₀.heap.objs.size<=b)/\b≠X.env.locals/\(∀x c,X.env.cells.lookup x=some c->c≠b)/\∀p∈X.pn++pins,p.1≠b):AI X pins σ H' s':=by
 obtain⟨h',g',d',t',o'⟩:=s';have e:o'=s.os:=ho;subst e;exact I.call (g':=g') (t':=t') (d':=d') u hok hg hch
end
abbrev XK:=Value->Option Addr->Hp->Prop
abbrev St:=List (Option V)
abbrev VK:=V->Hp->Prop
abbrev TE:=St->Hp->VK->Prop
abbrev TT:=St->Hp->(Bool->Hp->Prop)->Prop
abbrev TA:=St->Hp->(List V->Hp->Prop)->Prop
structure DF where
 nx:St->Hp->Prop
 rt:VK
 bk:St->Hp->Prop:=λ_ _=>False
 ct:St->Hp->Prop:=λ_ _=>False
abbrev TS:=DF->St->Hp->Prop
def EP(X:Cx)(pins:List (Addr×Obj))(σ:St)(Q:VK)(u:Value)(s':jh):Prop:=∃v H',AI X pins σ H' s'/\Ax v u/\Q v H'
def TP(X:Cx)(pins:List (Addr×Obj))(σ:St)(Q:Bool->Hp->Prop)(b:Bool)(s':jh):Prop:=∃H',AI X pins σ H' s'/\Q b H'
def AP(X:Cx)(pins:List (Addr×Obj))(σ:St)(Q:List V->Hp->Prop)(us:List Value)(s':jh):Prop:=∃vs H',AI X pins σ H' s'/\Ah vs us/\Q vs H'
def SP(X:Cx)(pins:List (Addr×Obj))(D:DF)(f:Flow)(s':jh):Prop :=
 match f with
 | .next=>∃σ' H',AI X pins σ' H' s'/\D.nx σ' H'
 | .brk=>∃σ' H',AI X pins σ' H' s'/\D.bk σ' H'
 | .cont=>∃σ' H',AI X pins σ' H' s'/\D.ct σ' H'
 | .ret u=>∃v σ' H',AI X pins σ' H' s'/\Ax v u/\D.rt v H'
def PE(X:Cx)(e:Expr)(t:TE):Prop :=
 ∀(pins:List (Addr×Obj)) (s:jh) (σ:St) (H:Hp) (Q:VK),AI X pins σ H s->t σ H Q->wpAny (model X.prog X.w) X.A (eval e X.env) (EP X pins σ Q) X.xe s
def PT(X:Cx)(e:Expr)(t:TT):Prop :=
 ∀(pins:List (Addr×Obj)) (s:jh) (σ:St) (H:Hp) (Q:Bool->Hp->Prop),AI X pins σ H s->t σ H Q->wpAny (model X.prog X.w) X.A (isTrue e X.env (eval e X.env)) (TP X pins σ Q) X.xe s
def PW(X:Cx)(e:Expr)(t:TT):Prop :=
 ∀(whole:Sem Value) (pins:List (Addr×Obj)) (s:jh) (σ:St) (H:Hp) (Q:Bool->Hp->Prop),AI X pins σ H s->t σ H Q->wpAny (model X.prog X.w) X.A (isTrue e X.env whole) (TP X pins σ Q) X.xe s
theorem PW.pt{X:Cx}{e:Expr}{t:TT}(h:PW X e t):PT X e t:=h _
def PA(X:Cx)(es:List Expr)(t:TA):Prop :=
 ∀(pos:Pos) (pins:List (Addr×Obj)) (s:jh) (σ:St) (H:Hp) (Q:List V->Hp->Prop),AI X pins σ H s->t σ H Q->wpAny (model X.prog X.w) X.A (spliced (nh pos (kc es X.env))) (AP X pins σ Q) X.xe s
def PS(X:Cx)(st:Stmt)(t:TS):Prop :=
 ∀(pins:List (Addr×Obj)) (s:jh) (σ:St) (H:Hp) (D:DF),AI X pins σ H s->t D σ H->wpAny (model X.prog X.w) X.A (exec st X.env) (SP X pins D) X.xe s
def DC(X:Cx)(st:List Stmt)(t:TS):Prop :=
 ∀(pins:List (Addr×Obj)) (s:jh) (σ:St) (H:Hp) (D:DF),AI X pins σ H s->t D σ H->wpAny (model X.prog X.w) X.A (execs st X.env) (SP X pins D) X.xe s
theorem Ag{α:Type}{t:Sem α}{Q Q':α->jh->Prop}{M:Model}{A:kK}{E:Value->jh->Prop}{s:jh}(h:wpAny M A t Q E s)(hQ:∀a s,Q a s->Q' a s):wpAny M A t Q' E s:=mj h hQ λ_ _ x=>x
section
variable {X:Cx}
inductive WK(i:Nat)(σ:St)(H:Hp)(Q:VK):Prop
 | mk (v:V) (e:σ[i]?=some (some v)) (q:Q v H):WK i σ H Q
def Ap(i:Nat):TE:=λσ H Q=>WK i σ H Q
inductive P5(x:V)(H:Hp)(Q:Bool->Hp->Prop):Prop
 | mk (c:Bool) (e:x=.bl c) (q:Q c H):P5 x H Q
def tC(v:V):TE:=λ_ H Q=>Q v H
theorem cw{i:Nat}{x:Str}{pos:Pos}(hN:X.N[i]?=some x)(hv:QE X.env.scope x)(hd:(x == ("__debug__":Str))=false:=by decide)(hcd:(x == ("__classdict__":Str))=false:=by decide):PE X (.Name x pos) (Ap i):=by
 intro pins s σ H Q I h;obtain⟨v,e,h⟩:=h;obtain⟨m,hn,hl⟩:=I.D8;obtain⟨u,r,l⟩:=hl i x v hN e hv;have fin:EP X pins σ Q u s:=⟨v,H,I,r,h⟩;rcases l with ⟨hk,hm⟩ | ⟨hk,c,hc,hcell⟩
 ·exact w8 (wpAny_loadName_local I.ok.kind hk hn hm fin) hd
 ·rcases hk with hk | hk
  ·exact w8 (wpAny_loadName_cell I.ok.kind hk hc hcell fin) hd
  ·exact w8 (wpAny_loadName_free I.ok.kind hk hc hcell fin hcd) hd
theorem AE{i j pos}:PE X (.Constant (.int i) j pos) (tC (.int i)):=λ_ _ _ H _ I h=>wpAny_Constant_int ⟨.int i,H,I.DW _,⟨_,rfl⟩,h⟩
theorem Hi{b j pos}:PE X (.Constant (.bool b) j pos) (tC (.bl b)):=λ_ _ _ H _ I h=>Constant_bool ⟨.bl b,H,I,rfl,h⟩
theorem Kx{j pos}:PE X (.Constant .none j pos) (tC .BE):=λ_ _ _ H _ I h=>Constant_none ⟨.BE,H,I,rfl,h⟩
def Gl(X:Cx)(x:Str):Prop:=X.env.kindOf x=some .globalImplicit
theorem aE {E:Value->jh->Prop} {pins:List (Addr×Obj)} {s:jh} {σ:St} {H:Hp} {x:Str} {u:Value} {pos:Pos} {Q:Value->jh->Prop} (I:AI X pins σ H s) (hg:Gl X x) (hm:X.mg x=some u) (h:Q u s)
  (hd:(x == ("__debug__":Str))=false:=by decide):wpAny (model X.prog X.w) X.A (eval (.Name x pos) X.env) Q E s :=
 rW I.ok.kind hg (Calls.loadGlobal_global (by rw[I.ok.Ga]; exact I.DV.Ga.keeps I.bk) hm h) hd
theorem EG {E:Value->jh->Prop} {pins:List (Addr×Obj)} {s:jh} {σ:St} {H:Hp} {x:Str} {u:Value} {pos:Pos} {Q:Value->jh->Prop} (I:AI X pins σ H s) (hg:Gl X x) (hm:X.mg x=none) (hv:k7 x=some u) (h:Q u s)
  (hn:x≠"__name__":=by decide) (hd:(x == ("__debug__":Str))=false:=by decide):wpAny (model X.prog X.w) X.A (eval (.Name x pos) X.env) Q E s:=by
 obtain⟨mb,h1,h2⟩:=I.DV.KA;exact rW I.ok.kind hg (Calls.loadGlobal_builtin (by rw[I.ok.Ga]; exact I.DV.Ga.keeps I.bk) hm (by rw[I.ok.KA]; exact h1.keeps I.bk) ((h2 x hn).trans hv) h) hd
theorem Jd{x:Str}{v:V}{u:Value}{pos:Pos}(hg:Gl X x)(hm:X.mg x=none)(hv:k7 x=some u)(r:Ax v u)(hn:x≠"__name__":=by decide)(hd:(x == ("__debug__":Str))=false:=by decide):PE X (.Name x pos) (tC v) :=
 λ_ _ _ H _ I h=>EG I hg hm hv ⟨v,H,I,r,h⟩ hn hd
variable {a b:Expr} {ta tb:TE} {pos:Pos}
def PC(X:Cx)(op:CmpOp)(a b:Expr)(t:TE):Prop :=
 ∀(pins:List (Addr×Obj)) (s:jh) (σ:St) (H:Hp) (Q:VK),AI X pins σ H s->t σ H Q →
  wpAny (model X.prog X.w) X.A (eval a X.env) (λv s₁=>wpAny (model X.prog X.w) X.A (eval b X.env) (λu s₂=>wpAny (model X.prog X.w) X.A (m5 op v u) (EP X pins σ Q) X.xe s₂) X.xe s₁) X.xe s
theorem nobehind(b:Expr){op:CmpOp}(h:op≠.In)(h2:op≠.NotIn):oF op b=false:=by
 have e1:(op == CmpOp.In)=false:=by cases op <;> first | rfl | exact absurd rfl h
 have e2:(op == CmpOp.NotIn)=false:=by cases op <;> first | rfl | exact absurd rfl h2
 cases b <;> simp[oF,e1,e2]
def tB(t:TE):TT:=λσ H Q=>t σ H λx H1=>P5 x H1 Q
theorem Kr{op:CmpOp}{t:TE}(h:PC X op a b t)(h1:oF op b=false:=by first | exact nobehind _ (by decide) (by decide) | rfl):PT X (.Compare a [op] [b] pos) (tB t):=by
 intro pins s σ H Q I hw;refine uG (Ag (h pins s σ H _ I hw) λv s1 h1=>Ag h1 λu s2 h2=>Ag h2 λc s3 ⟨x,H1,I1,r1,q1⟩=>?_) h1;obtain⟨d,rfl,q⟩:=q1;cases r1;exact oT ⟨H1,I1,q⟩
theorem GI{e:Expr}{t:TE}(h:PE X e t)(he:∀whole,isTrue e X.env whole=(do let v <-whole; standAt e.pos; holding [v] (truthy v)):=by intro _; rfl):PT X e (tB t):=by
 intro pins s σ H Q I hw;refine isTrue_plain (Ag (h pins s σ H _ I hw) λv s1 ⟨x,H1,I1,r1,q1⟩=>?_) (he _);obtain⟨d,rfl,q⟩:=q1;cases r1;exact oT ⟨H1,I1,q⟩
variable {tA tB':TT} {rest:List Expr}
def Wb(t u:TT):TT:=λσ H Q=>t σ H λc H1=>if c=true then u σ H1 Q else Q false H1
def i6(t u:TT):TT:=λσ H Q=>t σ H λc H1=>if c=true then Q true H1 else u σ H1 Q
def gJ(t:TT):TT:=λσ H Q=>t σ H λc H1=>Q (!c) H1
theorem OA(ha:PT X a tA):PW X (.BoolOp .And [a] pos) tA:=by
 intro wh pins s σ H Q I h;refine isTrue_and (Ag (ha pins s σ H Q I h) λc s1 e=>?_);cases c with
 | true=>exact isTrue_and_nil e
 | false=>exact e
theorem Jk(ha:PT X a tA):PW X (.BoolOp .Or [a] pos) tA:=by
 intro wh pins s σ H Q I h;refine isTrue_or (Ag (ha pins s σ H Q I h) λc s1 e=>?_);cases c with
 | false=>exact isTrue_or_nil e
 | true=>exact e
theorem Oc(ha:PT X a tA)(hb:PW X (.BoolOp .And (b :: rest) pos) tB'):PW X (.BoolOp .And (a :: b :: rest) pos) (Wb tA tB'):=by
 intro wh pins s σ H Q I h;refine isTrue_and (Ag (ha pins s σ H _ I h) λc s1 ⟨H1,I1,q1⟩=>?_);cases c with
 | true=>exact hb wh pins s1 σ H1 Q I1 q1
 | false=>exact⟨H1,I1,q1⟩
theorem HY(ha:PT X a tA)(hb:PW X (.BoolOp .Or (b :: rest) pos) tB'):PW X (.BoolOp .Or (a :: b :: rest) pos) (i6 tA tB'):=by
 intro wh pins s σ H Q I h;refine isTrue_or (Ag (ha pins s σ H _ I h) λc s1 ⟨H1,I1,q1⟩=>?_);cases c with
 | true=>exact⟨H1,I1,q1⟩
 | false=>exact hb wh pins s1 σ H1 Q I1 q1
theorem IQ(ha:PT X a tA):PT X (.UnaryOp .Not a pos) (gJ tA):=by
 intro pins s σ H Q I h;exact isTrue_not (ha pins s σ H (λc H1=>Q (!c) H1) I h)
def dk(ta tb:TE):TE:=λσ H Q=>ta σ H λx H1=>∃c,x=.bl c/\if c=true then tb σ H1 Q else Q (.bl false) H1
def ft(ta:TE):TE:=λσ H Q=>ta σ H λx H1=>∃c,x=.bl c/\Q (.bl (!c)) H1
theorem Oa{op}{t:TE}(h:PE X a t):PE X (.BoolOp op [a] pos) t:=λpins s σ H Q I hw=>BoolOp_one (h pins s σ H Q I hw)
theorem MP(ha:PE X a ta)(hb:PE X (.BoolOp .And (b :: rest) pos) tb):PE X (.BoolOp .And (a :: b :: rest) pos) (dk ta tb):=by
 intro pins s σ H Q I h;refine BoolOp_and (Ag (ha pins s σ H _ I h) λv s1 ⟨x,H1,I1,r1,q1⟩=>?_);obtain⟨c,rfl,q1⟩:=q1;cases r1;refine oT ?_;cases c with
 | true=>exact hb pins s1 σ H1 Q I1 q1
 | false=>exact⟨.bl false,H1,I1,rfl,q1⟩
theorem cY(ha:PE X a ta):PE X (.UnaryOp .Not a pos) (ft ta):=by
 intro pins s σ H Q I h;refine UnaryOp_ (Ag (ha pins s σ H _ I h) λv s1 ⟨x,H1,I1,r1,q1⟩=>?_);obtain⟨c,rfl,q1⟩:=q1;cases r1;exact not_of (oT ⟨.bl (!c),H1,I1,rfl,q1⟩)
def Ww(t:TT)(ta tb:TE):TE:=λσ H Q=>t σ H λc H1=>if c=true then ta σ H1 Q else tb σ H1 Q
theorem Nh{c:Expr}(hc:PT X c tA)(ha:PE X a ta)(hb:PE X b tb):PE X (.IfExp c a b pos) (Ww tA ta tb):=by
 intro pins s σ H Q I h;refine wpAny_IfExp (Ag (hc pins s σ H _ I h) λd s1 ⟨H1,I1,q1⟩=>?_);cases d with
 | true=>exact ha pins s1 σ H1 Q I1 q1
 | false=>exact hb pins s1 σ H1 Q I1 q1
end
def AR(K:jk)(H:Hp)(a:Addr)(xs:List V):Prop :=
 Rd H a (.AD xs) \/
  ∃(o:Obj) (its:Array Value) (n:Nat),K.lookup a=some o/\o.cls=.type "list"/\o.dict=none/\o.data=.seq its n/\its.size<=jR/\Ah xs its.toList
def AK(K:jk)(H:Hp)(a:Addr)(xs:List V):Prop :=
 Rd H a (.AG xs) \/
  ∃(o:Obj) (its:Array Value) (n:Nat),K.lookup a=some o/\o.cls=.type "tuple"/\o.data=.seq its n/\its.size<=jR/\Ah xs its.toList
def gf:Value->Option V
 | .none=>some .BE
 | .bool b=>some (.bl b)
 | .int i _=>some (.int i)
 | .str x _=>some (.str x)
 | .bytes b _=>some (.FO b)
 | .float b _=>some (.J3 b)
 | .ref a=>some (.ref a)
 | .type n=>some (.ty n)
 | _=>none
theorem Ax.Wz{x:V}{u:Value}(r:Ax x u):gf u=some x:=by
 cases x with
 | BE=>cases r; rfl
 | bl _=>cases r; rfl
 | int _=>obtain⟨t,rfl⟩:=r; rfl
 | str _=>obtain⟨t,rfl⟩:=r; rfl
 | FO _=>obtain⟨t,rfl⟩:=r; rfl
 | J3 _=>obtain⟨t,rfl⟩:=r; rfl
 | ref _=>cases r; rfl
 | ty _=>cases r; rfl
theorem Ax.inj{x y:V}{u:Value}(r:Ax x u)(q:Ax y u):x=y:=jL (r.Wz.symm.trans q.Wz)
theorem Ah.inj:∀{xs ys:List V} {us:List Value},Ah xs us->Ah ys us->xs=ys
 | _,_,_,.nil,.nil=>rfl
 | _,_,_,.cons r t,.cons r' t'=>by rw[r.inj r',Ah.inj t t']
section
variable {X:Cx} {pins:List (Addr×Obj)} {σ:St} {H:Hp} {s:jh} {a:Addr} {xs ys:List V}
theorem AR.of{K:jk}(h:H a=some (.AD xs)):AR K H a xs:=.inl (.inl h)
theorem AK.of{K:jk}(h:H a=some (.AG xs)):AK K H a xs:=.inl (.inl h)
theorem AI.list(I:AI X pins σ H s)(h:AR X.K H a xs):∃its:List Value,Ah xs its/\PlainL s.heap a its.toArray/\xs.length<=jR:=by
 rcases h with h | ⟨o,its,n,hk,hc,hd,hs,hz,r⟩
 ·obtain⟨z,its,n,r,e⟩:=h.ok I.hok;exact⟨its,r,⟨_,n,e,rfl,rfl,rfl⟩,z⟩
 ·refine⟨its.toList,r,⟨o,n,I.Dg a o hk,hc,hd,by simpa using hs⟩,?_⟩;have e:=r.length;simp only[mU] at e;omega
theorem AI.tuple(I:AI X pins σ H s)(h:AK X.K H a xs):∃its:List Value,Ah xs its/\IsTup s.heap a its.toArray/\xs.length<=jR:=by
 rcases h with h | ⟨o,its,n,hk,hc,hs,hz,r⟩
 ·obtain⟨z,its,r,p,_⟩:=h.ok I.hok;exact⟨its,r,p,z⟩
 ·refine⟨its.toList,r,⟨o,I.Dg a o hk,hc,n,by simpa using hs⟩,?_⟩;have e:=r.length;simp only[mU] at e;omega
theorem AI.list_inj(I:AI X pins σ H s)(h:AR X.K H a xs)(h':AR X.K H a ys):xs=ys:=by
 obtain⟨its,r,⟨o,n,e,_,_,d⟩,_⟩:=I.list h;obtain⟨its',r',⟨o',n',e',_,_,d'⟩,_⟩:=I.list h';rw[e] at e'; cases e';rw[d] at d';injection d' with d1 _
 have:its=its':=by simpa using congrArg Array.toList d1
 subst this;exact r.inj r'
theorem AI.Qj(I:AI X pins σ H s)(h:AK X.K H a xs)(h':AK X.K H a ys):xs=ys:=by
 obtain⟨its,r,⟨o,e,_,n,d⟩,_⟩:=I.tuple h;obtain⟨its',r',⟨o',e',_,n',d'⟩,_⟩:=I.tuple h';rw[e] at e'; cases e';rw[d] at d';injection d' with d1 _
 have:its=its':=by simpa using congrArg Array.toList d1
 subst this;exact r.inj r'
end
abbrev Cx.Et(X:Cx)(E:Value->jh->Prop):Cx:={ X with xe:=E }
abbrev Cx.Gh(X:Cx):Cx:=X.Et λ_ _=>False
theorem Cx.Ok.Et{X:Cx}(ok:X.Ok)(E:Value->jh->Prop):(X.Et E).Ok :=
 ⟨ok.DV,ok.kind,ok.Ga,ok.KA,ok.above,ok.inj,ok.has,ok.LU,ok.hd,ok.frames,ok.NF,ok.W4,ok.bs,ok.Fx,ok.LL,ok.K9,ok.Ew,ok.Iy⟩
theorem Cx.Ok.Fd{X:Cx}{E:Value->jh->Prop}(ok:(X.Et E).Ok):X.Ok :=
 ⟨ok.DV,ok.kind,ok.Ga,ok.KA,ok.above,ok.inj,ok.has,ok.LU,ok.hd,ok.frames,ok.NF,ok.W4,ok.bs,ok.Fx,ok.LL,ok.K9,ok.Ew,ok.Iy⟩
section
variable {X:Cx} {pins:List (Addr×Obj)} {σ:St} {H:Hp} {s:jh} {E:Value->jh->Prop}
theorem AI.Et(I:AI X pins σ H s)(E:Value->jh->Prop):AI (X.Et E) pins σ H s:=⟨I.ok.Et E,I.os,I.bare,I.base,I.D8,I.cell,I.free,I.Fo,I.pin,I.hok,I.len⟩
theorem AI.Fd(I:AI (X.Et E) pins σ H s):AI X pins σ H s:=⟨I.ok.Fd,I.os,I.bare,I.base,I.D8,I.cell,I.free,I.Fo,I.pin,I.hok,I.len⟩
theorem SP.Fd{D:DF}{f:Flow}{s':jh}(h:SP (X.Et E) pins D f s'):SP X pins D f s':=by
 cases f with
 | next=>obtain⟨σ',H',I,q⟩:=h; exact⟨σ',H',I.Fd,q⟩
 | brk=>obtain⟨σ',H',I,q⟩:=h; exact⟨σ',H',I.Fd,q⟩
 | cont=>obtain⟨σ',H',I,q⟩:=h; exact⟨σ',H',I.Fd,q⟩
 | ret u=>obtain⟨v,σ',H',I,r,q⟩:=h; exact⟨v,σ',H',I.Fd,r,q⟩
theorem PE.Gh{e:Expr}{t:TE}(h:PE X.Gh e t):PE X e t:=λpins s σ H Q I hw =>
 mj (h pins s σ H Q (I.Et _) hw) (λ_ _ ⟨v,H',I',r,q⟩=>⟨v,H',I'.Fd,r,q⟩) λ_ _ z=>kY z
theorem PT.Gh{e:Expr}{t:TT}(h:PT X.Gh e t):PT X e t:=λpins s σ H Q I hw =>
 mj (h pins s σ H Q (I.Et _) hw) (λ_ _ ⟨H',I',q⟩=>⟨H',I'.Fd,q⟩) λ_ _ z=>kY z
theorem DC.Gh{st:List Stmt}{t:TS}(h:DC X.Gh st t):DC X st t:=λpins s σ H D I hw =>
 mj (h pins s σ H D (I.Et _) hw) (λ_ _ q=>q.Fd) λ_ _ z=>kY z
end
section
variable {X:Cx} {st:Stmt} {rest:List Stmt} {t u:TS} {e:Expr} {te:TE} {pos:Pos}
def eV:TS:=λD σ H=>D.nx σ H
def J1(t u:TS):TS:=λD σ H=>t { D with nx:=u D } σ H
theorem CA:DC X [] eV:=λ_ _ σ H _ I h=>qW ⟨σ,H,I,h⟩
theorem AO(h1:PS X st t)(h2:DC X rest u):DC X (st :: rest) (J1 t u):=by
 intro pins s σ H D I h;refine wpAny_execs_cons (Ag (h1 pins s σ H { D with nx:=u D } I h) λf s1 q=>?_);cases f with
 | next =>
  obtain⟨σ',H',I',q⟩:=q;exact h2 pins s1 σ' H' D I' q
 | ret v=>exact q
 | brk=>exact q
 | cont=>exact q
theorem AV(h1:PS X st t):DC X [st] t:=by
 intro pins s σ H D I h;refine wpAny_execs_cons (Ag (h1 pins s σ H D I h) λf s1 q=>?_);cases f with
 | next=>exact qW q
 | ret v=>exact q
 | brk=>exact q
 | cont=>exact q
theorem AI.eC{pins:List (Addr×Obj)}{σ:St}{H:Hp}{s:jh}(I:AI X pins σ H s):interactive X.env=false:=by simp[interactive,I.ok.kind]
def fV(te:TE):TS:=λD σ H=>te σ H λ_ H1=>D.nx σ H1
theorem C3(he:PE X e te)(hs:tY e none pos.line X.env=pure false:=by rfl):PS X (.Expr e pos) (fV te):=by
 intro pins s σ H D I h;exact wpAny_Expr_any (Ag (he pins s σ H _ I h) λv s1 ⟨x,H1,I1,r1,q1⟩=>⟨σ,H1,I1,q1⟩) I.eC hs
def Py(te:TE):TS:=λD σ H=>te σ H D.rt
theorem Aq(he:PE X e te):PS X (.Return (some e) pos) (Py te):=by
 intro pins s σ H D I h;exact wpAny_Return_some (Ag (he pins s σ H _ I h) λv s1 ⟨x,H1,I1,r1,q1⟩=>⟨x,σ,H1,I1,r1,q1⟩)
def Mj(c:TT)(t u:TS):TS:=λD σ H=>c σ H λb H1=>if b=true then t D σ H1 else u D σ H1
theorem Bn{c:Expr}{a b:List Stmt}{tc:TT}(hc:PT X c tc)(ha:DC X a t)(hb:DC X b u):PS X (.If c a b pos) (Mj tc t u):=by
 intro pins s σ H D I h;refine wpAny_If (Ag (hc pins s σ H _ I h) λd s1 ⟨H1,I1,q1⟩=>?_);cases d with
 | true=>exact ha pins s1 σ H1 D I1 q1
 | false=>exact hb pins s1 σ H1 D I1 q1
def Ut:TS:=λ_ _ _=>False
theorem Nq:PS X st Ut:=λ_ _ _ _ _ _ h=>h.elim
theorem Yx{sts:List Stmt}:DC X sts Ut:=λ_ _ _ _ _ _ h=>h.elim
end
abbrev TG:=V->St->Hp->(St->Hp->Prop)->Prop
abbrev F9:=List V->St->Hp->(St->Hp->Prop)->Prop
def PG(X:Cx)(target:Expr)(t:TG):Prop :=
 ∀(pins:List (Addr×Obj)) (s:jh) (σ:St) (H:Hp) (v:V) (u:Value) (Q:St->Hp->Prop),AI X pins σ H s->Ax v u->t v σ H Q →
  wpAny (model X.prog X.w) X.A (tK target X.env u) (λ_ s'=>∃σ' H',AI X pins σ' H' s'/\Q σ' H') X.xe s
def LN(X:Cx)(ts:List Expr)(t:F9):Prop :=
 ∀(pins:List (Addr×Obj)) (s:jh) (σ:St) (H:Hp) (vs:List V) (us:List Value) (Q:St->Hp->Prop),AI X pins σ H s->Ah vs us->t vs σ H Q →
  wpAny (model X.prog X.w) X.A (assignInOrder ((pj ts X.env).map (·.2)) us) (λ_ s'=>∃σ' H',AI X pins σ' H' s'/\Q σ' H') X.xe s
abbrev PZ:=V->V->V->Hp->(Hp->Prop)->Prop
def WL(X:Cx)(t:PZ):Prop :=
 ∀(pins:List (Addr×Obj)) (s:jh) (σ:St) (H:Hp) (o i v:V) (ov iv u:Value) (Q:Hp->Prop),AI X pins σ H s->Ax o ov->Ax i iv->Ax v u->t o i v H Q →
  wpAny (model X.prog X.w) X.A (setItem ov iv u) (λ_ s'=>∃H',AI X pins σ H' s'/\Q H') X.xe s
section
variable {X:Cx} {pos:Pos}
def BR(i:Nat):TG:=λv σ H Q=>Q (σ.set i (some v)) H
theorem Af{i:Nat}{x:Str}(hN:X.N.Nodup)(hi:X.N[i]?=some x)(hx:KI X.env.scope x)(hf:X.fn x=true\/X.env.scope.names.lookup x=some .local:=by first | exact .inl rfl | exact .inr rfl | assumption):PG X (.Name x pos) (BR i):=by
 intro pins s σ H v u Q I r h;exact vW (RY I hN hi hx r (λs' I'=>⟨_,H,I',h⟩) hf)
inductive Va(vs:List V)(σ:St)(H:Hp)(Q:St->Hp->Prop):Prop
 | mk (e:vs=[]) (q:Q σ H):Va vs σ H Q
def LB:F9:=λvs σ H Q=>Va vs σ H Q
inductive Ui(t:TG)(u:F9)(vs:List V)(σ:St)(H:Hp)(Q:St->Hp->Prop):Prop
 | mk (v:V) (r:List V) (e:vs=v :: r) (q:t v σ H λσ' H'=>u r σ' H' Q):Ui t u vs σ H Q
def GQ(t:TG)(u:F9):F9:=λvs σ H Q=>Ui t u vs σ H Q
theorem Ck:LN X [] LB:=by
 intro pins s σ H vs us Q I r h;obtain⟨e,h⟩:=h;subst e;cases r;exact assignInOrder_nil ⟨σ,H,I,h⟩
theorem BI {e:Expr} {es:List Expr} {t:TG} {u:F9} (h1:PG X e t) (h2:LN X es u)
  (hs:(pj (e :: es) X.env).map (·.2)=tK e X.env :: (pj es X.env).map (·.2):=by rfl):LN X (e :: es) (GQ t u):=by
 intro pins s σ H vs us Q I r h;obtain⟨v,vr,e1,h⟩:=h;subst e1;cases r with
 | cons r rr =>
  rw[hs];refine assignInOrder_cons (Ag (h1 pins s σ H _ _ _ I r h) λ_ s1 ⟨σ1,H1,I1,q1⟩=>?_);exact h2 pins s1 σ1 H1 _ _ Q I1 rr q1
inductive Vk(K:jk)(n:Nat)(t:F9)(v:V)(σ:St)(H:Hp)(Q:St->Hp->Prop):Prop
 | mk (a:Addr) (xs:List V) (e:v=.ref a) (s:AK K H a xs) (l:xs.length=n) (q:t xs σ H Q):Vk K n t v σ H Q
def Ih(K:jk)(n:Nat)(t:F9):TG:=λv σ H Q=>Vk K n t v σ H Q
theorem HV {es:List Expr} {k:Nat} {t:F9} {n:Nat} (hc:X.Cr=true) (h:LN X es t)
  (hn:(pj es X.env).length=n:=by rfl) (hst:(pj es X.env).findIdx? (·.1)=none:=by rfl):PG X (.Tuple es k pos) (Ih X.K n t):=by
 intro pins s σ H v u Q I r hw;obtain⟨a,xs,e1,hq,hl,hw⟩:=hw;subst e1;cases r;obtain⟨its,rv,ht,hz⟩:=I.tuple hq;refine assign_Tuple_tuple (I.ok.hd hc) ht (by simp[hn,<-hl,rv.length]) hst λh' hx=>?_
 have I1:AI X pins σ H { s with heap:=h' }:=I.Bx (t':=s.toks) λb o e=>hx b o (kS (jQ e)) e
 exact h pins _ σ H xs _ Q I1 (by simpa using rv) hw
def WB(to ti:TE)(t:PZ):TG:=λv σ H Q=>to σ H λo H1=>ti σ H1 λi H2=>t o i v H2 λH3=>Q σ H3
theorem FC {o i:Expr} {to ti:TE} {t:PZ} (ho:PE X o to) (hi:PE X i ti) (hs:WL X t)
  (ha:∀v,tK (.Subscript o i pos) X.env v=(do
   let ov <-holding [v] (eval o X.env)
   let iv <-holding [v,ov] (eval i X.env)
   standAt pos
   holding [v,ov,iv] (setItem ov iv v)
   release [v,ov,iv] []):=by intro _; rfl):PG X (.Subscript o i pos) (WB to ti t):=by
 intro pins s σ H v u Q I r h;rw[ha];refine jf (qC (Ag (ho pins s σ H _ I h) λov s1 ⟨x,H1,I1,r1,q1⟩=>?_));refine jf (qC (Ag (hi pins s1 σ H1 _ I1 q1) λiv s2 ⟨y,H2,I2,r2,q2⟩=>?_));refine jf (uQ (jf (qC (Ag (hs pins s2 σ H2 x y v ov iv u _ I2 r1 r2 r q2) λ_ s3 ⟨H3,I3,q3⟩=>?_))));exact wpAny_release ⟨σ,H3,I3,q3⟩
def Jy(te:TE)(g:TG):TS:=λD σ H=>te σ H λx H1=>g x σ H1 D.nx
theorem DZ {tg e:Expr} {te:TE} {g:TG} (he:PE X e te) (hg:PG X tg g) (hs:swapsWithSole [tg] e pos.line X.env=pure false:=by rfl) (hw:swappedStores [tg] e X.env=pure none:=by rfl)
  (h1:(pj [tg] X.env).map (·.2)=[tK tg X.env]:=by rfl):PS X (.Assign [tg] e pos) (Jy te g):=by
 intro pins s σ H D I h;refine wpAny_Assign_stores (Ag (he pins s σ H _ I h) λv s1 ⟨x,H1,I1,r1,q1⟩=>?_) hs hw;rw[h1];exact Ag (hg pins s1 σ H1 x v _ I1 r1 q1) λ_ s2 q=>q
theorem AW{i:Nat}{x:Str}{e:Expr}{te:TE}{pos':Pos}(hN:X.N.Nodup)(hi:X.N[i]?=some x)(hx:KI X.env.scope x)(he:PE X e te)(hs:tY e (some (.Name x pos')) pos.line X.env=pure false:=by rfl)(hf:X.fn x=true\/X.env.scope.names.lookup x=some .local:=by first | exact .inl rfl | exact .inr rfl | assumption):
  PS X (.Assign [.Name x pos'] e pos) (Jy te (BR i)):=by
 intro pins s σ H D I h;refine wpAny_Assign_Name (Ag (he pins s σ H _ I h) λv s1 ⟨y,H1,I1,r1,q1⟩=>?_) hs;exact RY I1 hN hi hx r1 (λs2 I2=>⟨_,H1,I2,q1⟩) hf
end
section
variable {X:Cx} {pos:Pos}
def Og(c:TT)(tb:TS):TS:=λD σ H=>∃W:Nat->St->Hp->Prop,(∃m,W m σ H)/\∀m σ H,W m σ H →
 c σ H λb H1=>if b=true then ∃N:St->Hp->Prop,(∀σ' H',N σ' H'->∃m',m' < m/\W m' σ' H')/\tb { D with nx:=N,ct:=N,bk:=D.nx } σ H1 else D.nx σ H1
theorem HJ{c:Expr}{body:List Stmt}{tc:TT}{tb:TS}(hp:kD (model X.prog X.w) X.A X.env X.xe)(hc:PT X c tc)(hb:DC X body tb):PS X (.While c body [] pos) (Og tc tb):=by
 intro pins s σ H D I h;obtain⟨W,⟨m0,w0⟩,turn⟩:=h;refine wpAny_While (codeAny_whileLoop (λn s'=>∃σ' H',AI X pins σ' H' s'/\W n σ' H') ?_ m0 ⟨σ,H,I,w0⟩);rintro n s1 ⟨σ1,H1,I1,w1⟩;refine nP hp (Ag (hc pins s1 σ1 H1 _ I1 (turn n σ1 H1 w1)) λb s2 ⟨H2,I2,q2⟩=>?_);cases b with
 | true =>
  obtain⟨N,hN,q2⟩:=q2;rw[jq rfl];refine nP hp (Ag (hb pins s2 σ1 H2 _ I2 q2) λf s3 q3=>?_);cases f with
  | next =>
   obtain⟨σ3,H3,I3,n3⟩:=q3;obtain⟨m',hm,w3⟩:=hN σ3 H3 n3;exact⟨m',hm,σ3,H3,I3,w3⟩
  | cont =>
   obtain⟨σ3,H3,I3,n3⟩:=q3;obtain⟨m',hm,w3⟩:=hN σ3 H3 n3;exact⟨m',hm,σ3,H3,I3,w3⟩
  | brk=>exact q3
  | ret v=>exact q3
 | false =>
  rw[jm j0];exact qW ⟨σ1,H2,I2,q2⟩
end
structure It where
 go:Nat->Hp->Prop
 Dv:Nat->Hp->V->Hp->Prop
 stop:Nat->Hp->Prop
def FH(X:Cx)(pins:List (Addr×Obj))(H:Hp)(b:Addr):Prop :=
 H b=none/\b≠X.env.locals/\b∉X.fs/\(b∈X.ex\/X.s₀.heap.objs.size<=b)/\(∀x c,X.env.cells.lookup x=some c->c≠b)/\∀p∈X.pn++pins,p.1≠b
theorem AI.GV{X:Cx}{pins:List (Addr×Obj)}{σ:St}{H H':Hp}{s:jh}{b:Addr}(I:AI X pins σ H s)(hb:s.heap.objs.size<=b)(hn:H' b=none):FH X pins H' b:=by
 refine⟨hn,nJ (ku I.lt hb),I.gz hb,.inr (jW I.sz hb),λx c e z=>?_,λp hp z=>?_⟩
 ·obtain⟨v,q⟩:=I.cell x c e;exact absurd (ku q.lt (by rw[z]; exact hb)) (mW _)
 ·exact absurd (ku (jQ (I.pin p hp).1) (by rw[z]; exact hb)) (mW _)
structure GW(P:j8)(w:World)(K:jk)(tg:Expr)(J:It)(fp:List Addr)(it:Addr)(tn:Nat->Heap->Prop):Prop where
 mem:it∈fp
 obj:∀i h,tn i h->∀b∈fp,∃o,h.get? b=some o/\∀v,o.data≠.cell v
 keep:∀i h h',tn i h->(∀b∈fp,∀o,h.get? b=some o->h'.get? b=some o)->tn i h'
 item:∀(X:Cx),X.prog=P->X.w=w->X.K=K->X.Cr=true->∀(i:Nat) (pins:List (Addr×Obj)) (s:jh) (σ:St) (H:Hp) (E:Value->jh->Prop),AI X pins σ H s->(∀b∈fp,FH X pins H b)->tn i s.heap->J.go i H →
  wpAny (model P w) X.A (uE (.ref it)) (λr s1=>∃u,r=some u /\
   wpAny (model P w) X.A (qV tg (.ref it) u) (λ_ s2=>∃x H',AI X pins σ H' s2/\Ax x u/\J.Dv i H x H'/\tn (i+1) s2.heap/\∀b∈fp,H' b=none) E s1) E s
 done:∀(X:Cx),X.prog=P->X.w=w->X.K=K->X.Cr=true->∀(i:Nat) (pins:List (Addr×Obj)) (s:jh) (σ:St) (H:Hp) (E:Value->jh->Prop),AI X pins σ H s->(∀b∈fp,FH X pins H b)->tn i s.heap->J.stop i H →
  wpAny (model P w) X.A (uE (.ref it)) (λr s1=>r=none/\AI X pins σ H s1) E s
 GS:∀(A:kK) (i:Nat) (s:jh) (Q:Value->jh->Prop) (E:Value->jh->Prop),tn i s.heap->Q (.ref it) s->wpAny (model P w) A (pyIter (.ref it)) Q E s
abbrev TI:=St->Hp->(It->Hp->Prop)->Prop
def W3(X:Cx)(pins:List (Addr×Obj))(σ:St)(tg:Expr)(R:It->Hp->Prop)(itv:Value)(s2:jh):Prop :=
 ∃(it:Addr) (fp:List Addr) (tn:Nat->Heap->Prop) (J:It) (H':Hp),itv=.ref it/\AI X pins σ H' s2/\GW X.prog X.w X.K tg J fp it tn/\tn 0 s2.heap/\(∀b∈fp,FH X pins H' b)/\R J H'
def PI(X:Cx)(tg iter:Expr)(wi:TI):Prop :=
 ∀(pins:List (Addr×Obj)) (s:jh) (σ:St) (H:Hp) (R:It->Hp->Prop),AI X pins σ H s->wi σ H R →
  wpAny (model X.prog X.w) X.A (eval iter X.env) (λv s1=>wpAny (model X.prog X.w) X.A (pyIter v) (W3 X pins σ tg R) X.xe s1) X.xe s
theorem K0 {M : Model} {A : kK} {E : Value → jh → Prop} {s : jh} {tg : Expr} {it : Addr} {u : Value} {o : Obj} {n : String} {vs : Array Value} {Q : Unit → jh → Prop} (ho : s.heap.get? it = some o) (hc : o.cls = .type n) (hd : o.data = .fields vs)
    (hn : ["enumerate", "zip", "dict_itemiterator", "dict_reverseitemiterator", "odict_iterator", "itertools.zip_longest", "itertools.pairwise"].contains n = false) (hQ : Q () s) : wpAny M A (qV tg (.ref it) u) Q E s := by
  unfold qV;cases tg <;> first
    | exact jS hQ
    | (cases u <;> first
        | exact jS hQ
        | (refine jf (wpAny_load ho ?_)
           rw[hc, hd];show wpAny M A (if (["enumerate", "zip", "dict_itemiterator", "dict_reverseitemiterator", "odict_iterator", "itertools.zip_longest", "itertools.pairwise"].contains n && vs[0]? == some (rS _)) = true then _ else _) Q E s;rw[jm (by intro h; rw[hn, Bool.false_and] at h; cases h)];exact jS hQ))
def J4(K:jk)(a:Addr):It :=
 ⟨λi H=>∃xs x,AR K H a xs/\xs[i]?=some x,λi H x H'=>H'=H/\∀xs,AR K H a xs->xs[i]?=some x,λi H=>∃xs,AR K H a xs/\xs.length<=i⟩
def KD(K:jk)(a:Addr):It :=
 ⟨λi H=>∃xs x,AK K H a xs/\xs[i]?=some x,λi H x H'=>H'=H/\∀xs,AK K H a xs->xs[i]?=some x,λi H=>∃xs,AK K H a xs/\xs.length<=i⟩
def FQ(lo:Int)(n:Nat):It:=⟨λi _=>i<n,λi H x H'=>H'=H/\x=.int (lo+i),λi _=>n<=i⟩
theorem YQ{P:j8}{w:World}{K:jk}{tg:Expr}(a it:Addr):GW P w K tg (J4 K a) [it] it (λi h=>h.IsListIter it a i) where
 mem:=by simp
 obj:=λi h st b hb=>by
  have e:b=it:=by simpa using hb
  subst e;obtain⟨o,e,c,d⟩:=st;exact⟨o,e,λv z=>by rw[d] at z; cases z⟩
 keep:=λi h h' st k=>st.at λo e=>k it (by simp) o e
 item:=by
  intro X hP hw hK hc i pins s σ H E I hf st hg;subst hP hw hK;obtain⟨xs,x,hq,hx⟩:=hg;obtain⟨its,rv,p,hz⟩:=I.list hq;obtain⟨u,hu,ru⟩:=rv.get hx;obtain⟨f0,f1,f2,f3,f4,f5⟩:=hf it (by simp);refine wpAny_pyNext_list_item st p.isList (x:=u) (by simpa using hu) λh' st' sb=>?_
  have I1:AI X pins σ H { s with heap:=h' }:=I.EH (t':=s.toks) (λb o hb e=>(sb.2 b hb).trans e) f0 f1 f3 f4 f5;obtain⟨o,e,c,d⟩:=id st';exact⟨u,rfl,K0 (s:={ s with heap:=h' }) e c d (by decide) ⟨x,H,I1,ru,⟨rfl,λys hy=>by rw[I.list_inj hy hq]; exact hx⟩,st',λb hb=>(hf b hb).1⟩⟩
 done:=by
  intro X hP hw hK hc i pins s σ H E I hf st hg;subst hP hw hK;obtain⟨xs,hq,hx⟩:=hg;obtain⟨its,rv,p,hz⟩:=I.list hq;obtain⟨f0,f1,f2,f3,f4,f5⟩:=hf it (by simp);have hl:=rv.length;exact wpAny_pyNext_list_end (I.ok.hd hc) st p.isList (by simp; omega) λh' eb=>⟨rfl,I.EH (t':=s.toks) (λb o hb e=>eb b o hb e) f0 f1 f3 f4 f5⟩
 GS:=λ_ _ _ _ _ st h=>wpAny_pyIter_listiter st h
theorem Xi{P:j8}{w:World}{K:jk}{tg:Expr}(a it:Addr):GW P w K tg (KD K a) [it] it (λi h=>h.IsTupleIter it a i) where
 mem:=by simp
 obj:=λi h st b hb=>by
  have e:b=it:=by simpa using hb
  subst e;obtain⟨o,e,c,d⟩:=st;exact⟨o,e,λv z=>by rw[d] at z; cases z⟩
 keep:=λi h h' st k=>st.at λo e=>k it (by simp) o e
 item:=by
  intro X hP hw hK hc i pins s σ H E I hf st hg;subst hP hw hK;obtain⟨xs,x,hq,hx⟩:=hg;obtain⟨its,rv,p,hz⟩:=I.tuple hq;obtain⟨u,hu,ru⟩:=rv.get hx;obtain⟨f0,f1,f2,f3,f4,f5⟩:=hf it (by simp);refine wpAny_pyNext_tuple_item st (show s.heap.IsTuple a its.toArray from p) (x:=u) (by simpa using hu) λh' st' sb=>?_
  have I1:AI X pins σ H { s with heap:=h' }:=I.EH (t':=s.toks) (λb o hb e=>(sb.2 b hb).trans e) f0 f1 f3 f4 f5;obtain⟨o,e,c,d⟩:=id st';exact⟨u,rfl,K0 (s:={ s with heap:=h' }) e c d (by decide) ⟨x,H,I1,ru,⟨rfl,λys hy=>by rw[I.Qj hy hq]; exact hx⟩,st',λb hb=>(hf b hb).1⟩⟩
 done:=by
  intro X hP hw hK hc i pins s σ H E I hf st hg;subst hP hw hK;obtain⟨xs,hq,hx⟩:=hg;obtain⟨its,rv,p,hz⟩:=I.tuple hq;obtain⟨f0,f1,f2,f3,f4,f5⟩:=hf it (by simp);have hl:=rv.length;exact wpAny_pyNext_tuple_end (I.ok.hd hc) st (show s.heap.IsTuple a its.toArray from p) (by simp; omega) λh' eb=>⟨rfl,I.EH (t':=s.toks) (λb o hb e=>eb b o hb e) f0 f1 f3 f4 f5⟩
 GS:=λ_ _ _ _ _ st h=>wpAny_pyIter_tupleiter st h
theorem X6{P:j8}{w:World}{K:jk}{tg:Expr}(it:Addr)(lo:Int)(n:Nat):GW P w K tg (FQ lo n) [it] it (λi h=>t7 h it (lo+(i:Nat)*1) ((n:Int)-(i:Nat)) 1) where
 mem:=by simp
 obj:=λi h st b hb=>by
  have e:b=it:=by simpa using hb
  subst e;exact⟨_,st,λv z=>by
   have z':rF _=qG v:=z;cases z'⟩
 keep:=λi h h' st k=>k it (by simp) _ st
 item:=by
  intro X hP hw hK hc i pins s σ H E I hf st hg;subst hP hw hK;obtain⟨f0,f1,f2,f3,f4,f5⟩:=hf it (by simp);have W:=Walks.range (prog:=X.prog) (w:=X.w) (I.ok.hd hc) it lo 1 n;refine W.item i s _ _ hg st λv h' tk hv st' kk=>?_
  obtain⟨t,rfl⟩:=hv;have I1:AI X pins σ H { s with heap:=h',toks:=tk }:=I.EH (λb o hb e=>kk b o (by simpa using hb) e) f0 f1 f3 f4 f5;refine⟨_,rfl,K0 (s:={ s with heap:=h',toks:=tk }) (n:="range_iterator") st' rfl rfl (by decide) ⟨.int (lo+i),H,I1,⟨t,?_⟩,⟨rfl,rfl⟩,st',λb hb=>(hf b hb).1⟩⟩;rw[Int.mul_one]
 done:=by
  intro X hP hw hK hc i pins s σ H E I hf st hg;subst hP hw hK;obtain⟨f0,f1,f2,f3,f4,f5⟩:=hf it (by simp);exact uo (I.ok.hd hc) st (by have:n<=i:=hg; omega) λh' eb=>⟨rfl,I.EH (t':=s.toks) (λb o hb e=>eb b o hb e) f0 f1 f3 f4 f5⟩
 GS:=λ_ _ _ _ _ st h=>uj st h
section
variable {X:Cx} {tg:Expr}
inductive Tz(K:jk)(x:V)(H:Hp)(R:It->Hp->Prop):Prop
 | mk (a:Addr) (e:x=.ref a) (s:∃xs,AR K H a xs) (q:R (J4 K a) H):Tz K x H R
inductive VX(K:jk)(x:V)(H:Hp)(R:It->Hp->Prop):Prop
 | mk (a:Addr) (e:x=.ref a) (s:∃xs,AK K H a xs) (q:R (KD K a) H):VX K x H R
def Vh(K:jk)(tl:TE):TI:=λσ H R=>tl σ H λx H1=>Tz K x H1 R
def Pg(K:jk)(tl:TE):TI:=λσ H R=>tl σ H λx H1=>VX K x H1 R
theorem Je{l:Expr}{tl:TE}(hl:PE X l tl):PI X tg l (Vh X.K tl):=by
 intro pins s σ H R I h;refine Ag (hl pins s σ H _ I h) λv s1 ⟨x,H1,I1,r1,q1⟩=>?_
 obtain⟨a,e,⟨xs,hq⟩,q⟩:=q1;subst e;cases r1;obtain⟨its,rv,p,hz⟩:=I1.list hq;refine nS p.isList ?_;refine⟨s1.heap.objs.size,[s1.heap.objs.size],_,_,H1,rfl,I1.Bx (t':=s1.toks) λb o e=>jt _ e,YQ a _,⟨_,jY _ rfl,rfl,rfl⟩,λb hb=>?_,q⟩;have e:b=s1.heap.objs.size:=by simpa using hb
 subst e;exact I1.GV (jj _) (I1.hok.Bp (jj _))
theorem Fj{l:Expr}{tl:TE}(hl:PE X l tl):PI X tg l (Pg X.K tl):=by
 intro pins s σ H R I h;refine Ag (hl pins s σ H _ I h) λv s1 ⟨x,H1,I1,r1,q1⟩=>?_
 obtain⟨a,e,⟨xs,hq⟩,q⟩:=q1;subst e;cases r1;obtain⟨its,rv,p,hz⟩:=I1.tuple hq;refine md (show s1.heap.IsTuple a its.toArray from p) ?_;refine⟨s1.heap.objs.size,[s1.heap.objs.size],_,_,H1,rfl,I1.Bx (t':=s1.toks) λb o e=>jt _ e,Xi a _,⟨_,jY _ rfl,rfl,rfl⟩,λb hb=>?_,q⟩;have e:b=s1.heap.objs.size:=by simpa using hb
 subst e;exact I1.GV (jj _) (I1.hok.Bp (jj _))
theorem RV {pins:List (Addr×Obj)} {σ:St} {H:Hp} {s:jh} {R:It->Hp->Prop} {E:Value->jh->Prop} {lo hi:Int} {t u v:Tok} {tk:Nat} (I:AI X pins σ H s) (h1:-(2 ^ 62)<=lo) (h2:lo<2 ^ 62) (h3:-(2 ^ 62)<=hi) (h4:hi<2 ^ 62)
  (q:R (FQ lo (hi-lo).toNat) H):wpAny (model X.prog X.w) X.A (pyIter (.ref s.heap.objs.size)) (W3 X pins σ tg R) E { s with heap:=s.heap.push { cls:=.type "range",data:=.fields #[.int lo t,.int hi u,.int 1 v] },toks:=tk }:=by
 refine vH (t6 ..) (small_one h1 h2 h3 h4) ?_;have I1:AI X pins σ H { s with heap:=s.heap.push { cls:=.type "range",data:=.fields #[.int lo t,.int hi u,.int 1 v] },toks:=tk }:=I.Bx λb o e=>jt _ e
 refine⟨(s.heap.push { cls:=.type "range",data:=.fields #[.int lo t,.int hi u,.int 1 v] }).objs.size,[(s.heap.push { cls:=.type "range",data:=.fields #[.int lo t,.int hi u,.int 1 v] }).objs.size],_,_,H,rfl,
  I1.Bx (t':=tk) λb o e=>jt _ e,X6 _ lo (hi-lo).toNat,?_,λb hb=>?_,q⟩
 ·have e1:lo+((0:Nat):Int)*1=lo:=by simp
  have e2:(((hi-lo).toNat:Nat):Int)-((0:Nat):Int)=oz lo hi 1:=by rw[uO]; split <;> omega
  show t7 _ _ (lo+((0:Nat):Int)*1) ((((hi-lo).toNat:Nat):Int)-((0:Nat):Int)) 1;rw[e1,e2];exact jY _ rfl
 ·have e:b=(s.heap.push { cls:=.type "range",data:=.fields #[.int lo t,.int hi u,.int 1 v] }).objs.size:=by simpa using hb
  subst e;exact I1.GV (jj _) (I1.hok.Bp (jj _))
def di(ta:TA):TI:=λσ H R=>ta σ H λvs H1=>∃j:Int,vs=[.int j]/\-(2 ^ 62)<=j/\j<2 ^ 62/\R (FQ 0 j.toNat) H1
def dh(ta:TA):TI:=λσ H R=>ta σ H λvs H1=>∃i j:Int,vs=[.int i,.int j]/\(-(2 ^ 62)<=i/\i<2 ^ 62/\-(2 ^ 62)<=j/\j<2 ^ 62)/\R (FQ i (j-i).toNat) H1
theorem JO{a:Expr}{ta:TA}{p pos:Pos}(hg:Gl X "range")(hm:X.mg "range" = none)(ha:PA X [a] ta)(hs:kc [a] X.env=[(false,eval a X.env)]:=by rfl):PI X tg (.Call (.Name "range" p) [a] [] pos) (di ta):=by
 intro pins s σ H R I h;refine Call_ (EG I hg hm sW (kz (Ag (ha pos pins s σ H _ I h) λus s1 ⟨vs,H1,I1,r1,q1⟩=>?_) hs rfl));obtain⟨j,e,q1,q2,q⟩:=q1;subst e;cases r1 with
 | cons r rr =>
  cases rr;obtain⟨t,rfl⟩:=r;exact call_range_1 (RV I1 (by omega) (by omega) q1 q2 (by simpa using q))
theorem Yj{a b:Expr}{ta:TA}{p pos:Pos}(hg:Gl X "range")(hm:X.mg "range" = none)(ha:PA X [a,b] ta)(hs:kc [a,b] X.env=[(false,eval a X.env),(false,eval b X.env)]:=by rfl)(hs2:kc [b] X.env=[(false,eval b X.env)]:=by rfl):
  PI X tg (.Call (.Name "range" p) [a,b] [] pos) (dh ta):=by
 intro pins s σ H R I h;refine Call_ (EG I hg hm sW (kz (Ag (ha pos pins s σ H _ I h) λus s1 ⟨vs,H1,I1,r1,q1⟩=>?_) (by rw[hs,hs2]) (by rw[hs2]; rfl)));obtain⟨i,j,e,⟨q1,q2,q3,q4⟩,q⟩:=q1;subst e;cases r1 with
 | cons r rr =>
  cases rr with
  | cons r' rr =>
   cases rr;obtain⟨t,rfl⟩:=r;obtain⟨t',rfl⟩:=r';exact call_range_2 (RV I1 q1 q2 q3 q4 q)
def Pm(wi:TI)(g:TG)(tb:TS):TS:=λD σ H=>wi σ H λJ H1=>∃W:Nat->Nat->St->Hp->Prop,(∃m,W 0 m σ H1)/\∀i m σ H,W i m σ H →
 (J.stop i H/\D.nx σ H)\/(J.go i H/\∃N:St->Hp->Prop,(∀σ' H',N σ' H'->∃m',m' < m/\W (i+1) m' σ' H')/\∀x H',J.Dv i H x H'->g x σ H' λσ2 H2=>tb { D with nx:=N,ct:=N,bk:=D.nx } σ2 H2)
def Kv(fp:List Addr)(h:Heap):List (Addr×Obj):=fp.filterMap λb=>(h.get? b).map λo=>(b,o)
theorem LX{fp:List Addr}{h:Heap}{b:Addr}{o:Obj}(hb:b∈fp)(e:h.get? b=some o):(b,o)∈Kv fp h:=vg.mpr ⟨b,hb,by rw[e]; rfl⟩
theorem YD{fp:List Addr}{h:Heap}{p:Addr×Obj}(hp:p∈Kv fp h):p.1∈fp/\h.get? p.1=some p.2:=by
 obtain⟨b,hb,e⟩:=vg.mp hp;cases q:h.get? b with
 | none=>rw[q] at e; cases e
 | some o =>
  rw[q] at e;have e':(b,o)=p:=jL e;subst e';exact⟨hb,q⟩
theorem AI.T9{pins:List (Addr×Obj)}{σ:St}{H:Hp}{s:jh}{fp:List Addr}(I:AI X pins σ H s)(hf:∀b∈fp,FH X pins H b)(ho:∀b∈fp,∃o,s.heap.get? b=some o/\∀v,o.data≠.cell v):AI X (pins++Kv fp s.heap) σ H s :=
 I.SE λp hp=>(jI.mp hp).elim (λz=>I.pin p (kj _ z)) λz=>by
  obtain⟨hb,e⟩:=YD z;obtain⟨f0,f1,f2,_⟩:=hf p.1 hb;obtain⟨o,e',d⟩:=ho p.1 hb;rw[e] at e'; cases e';exact⟨e,f0,f1,f2,d⟩
theorem AI.KZ{pins pl:List (Addr×Obj)}{σ:St}{H:Hp}{s:jh}(I:AI X (pins++pl) σ H s):AI X pins σ H s:=I.SE λp hp=>I.pin p (kj _ (mh _ hp))
theorem CV {iter:Expr} {body:List Stmt} {wi:TI} {g:TG} {tb:TS} {pos:Pos} (hp:kD (model X.prog X.w) X.A X.env X.xe) (hc:X.Cr=true) (hi:PI X tg iter wi) (hg:PG X tg g) (hb:DC X body tb)
  (hs:∀x,nq iter X.env x=pure x:=by intro _; rfl):PS X (.For tg iter body [] pos) (Pm wi g tb):=by
 intro pins s σ H D I h;refine wpAny_For (Ag (hi pins s σ H _ I h) λv s1 h1=>Ag h1 λitv s2 h2=>?_) hs;obtain⟨it,fp,tn,J,H2,e,I2,T,st2,f2,W,⟨m0,w0⟩,turn⟩:=h2;subst e;have stat:∀{H':Hp},(∀b∈fp,H' b=none)->∀b∈fp,FH X pins H' b:=λhn b hb=>⟨hn b hb,(f2 b hb).2⟩
 refine codeAny_forLoop_any (λn s'=>∃i σ' H',AI X pins σ' H' s'/\tn i s'.heap/\(∀b∈fp,H' b=none)/\W i n σ' H') ?_ m0 ⟨0,σ,H2,I2,st2,λb hb=>(f2 b hb).1,w0⟩;rintro n s3 ⟨i,σ3,H3,I3,st3,fr3,w3⟩;rcases turn i n σ3 H3 w3 with ⟨stop,qn⟩ | ⟨go,N,hN,step⟩
 ·refine nP hp (Ag (T.done X rfl rfl rfl hc i pins s3 σ3 H3 X.xe I3 (stat fr3) st3 stop) λr s4 ⟨hr,I4⟩=>?_);subst hr;exact qW ⟨σ3,H3,I4,qn⟩
 ·refine nP hp (Ag (T.item X rfl rfl rfl hc i pins s3 σ3 H3 X.xe I3 (stat fr3) st3 go) λr s4 ⟨u,hr,h4⟩=>?_);subst hr;refine nP hp (Ag h4 λ_ s5 ⟨x,H5,I5,r5,y5,st5,fr5⟩=>?_);have I5':=I5.T9 (stat fr5) (T.obj _ _ st5);refine nP hp (Ag (hg _ s5 σ3 H5 x u _ I5' r5 (step x H5 y5)) λ_ s6 ⟨σ6,H6,I6,q6⟩=>?_);refine nP hp (Ag (hb _ s6 σ6 H6 _ I6 q6) λf s7 q7=>?_);have again:∀{σ7:St} {H7:Hp},AI X (pins++Kv fp s5.heap) σ7 H7 s7->N σ7 H7->∃m,m<n/\∃i σ' H',AI X pins σ' H' s7/\tn i s7.heap/\(∀b∈fp,H' b=none)/\W i m σ' H':=λ{σ7 H7} I7 n7=>by
   obtain⟨m',hm,w7⟩:=hN σ7 H7 n7;refine⟨m',hm,i+1,σ7,H7,I7.KZ,T.keep _ _ _ st5 λb hb o e=>(I7.pin (b,o) (kj _ (kj _ (LX hb e)))).1,λb hb=>?_,w7⟩;obtain⟨o,e,d⟩:=T.obj _ _ st5 b hb;exact(I7.pin (b,o) (kj _ (kj _ (LX hb e)))).2.1
  cases f with
  | next=>obtain⟨σ7,H7,I7,n7⟩:=q7; exact again I7 n7
  | cont=>obtain⟨σ7,H7,I7,n7⟩:=q7; exact again I7 n7
  | brk=>obtain⟨σ7,H7,I7,q7⟩:=q7; exact⟨σ7,H7,I7.KZ,q7⟩
  | ret v=>obtain⟨x7,σ7,H7,I7,r7,q7⟩:=q7; exact⟨x7,σ7,H7,I7.KZ,r7,q7⟩
end
theorem ZW {K:jk} {a:Addr} {xs:List V} {g:TG} {tb:TS} {D:DF} {σ:St} {H:Hp} (Pv:Nat->St->Hp->Prop) (h0:Pv 0 σ H) (hl:∀i σ H,i<=xs.length->Pv i σ H->AR K H a xs)
  (hs:∀i x σ H,xs[i]?=some x->Pv i σ H->g x σ H λσ2 H2=>tb { D with nx:=Pv (i+1),ct:=Pv (i+1),bk:=D.nx } σ2 H2) (hd:∀σ H,Pv xs.length σ H->D.nx σ H) :
  ∃W:Nat->Nat->St->Hp->Prop,(∃m,W 0 m σ H)/\∀i m σ H,W i m σ H →
   ((J4 K a).stop i H/\D.nx σ H)\/((J4 K a).go i H/\∃N:St->Hp->Prop,(∀σ' H',N σ' H'->∃m',m' < m/\W (i+1) m' σ' H')/\∀x H',(J4 K a).Dv i H x H'->g x σ H' λσ2 H2=>tb { D with nx:=N,ct:=N,bk:=D.nx } σ2 H2):=by
 refine⟨λi m σ H=>m=xs.length-i/\i<=xs.length/\Pv i σ H,⟨xs.length,by simp,kH _,h0⟩,?_⟩;rintro i m σ H ⟨rfl,hi,p⟩;have q:=hl i σ H hi p;by_cases hlt:i<xs.length
 ·refine .inr ⟨⟨xs,xs[i],q,by simp[hlt]⟩,Pv (i+1),λσ' H' p'=>⟨xs.length-(i+1),by omega,rfl,hlt,p'⟩,λx H' y=>?_⟩;obtain⟨e,y⟩:=y;subst e;exact hs i x σ _ (y xs q) p
 ·have e:i=xs.length:=by omega
  subst e;exact .inl ⟨⟨xs,q,jj _⟩,hd σ H p⟩
theorem JZ {K:jk} {a:Addr} {xs:List V} {g:TG} {tb:TS} {D:DF} {σ:St} {H:Hp} (Pv:Nat->St->Hp->Prop) (h0:Pv 0 σ H) (hl:∀i σ H,i<=xs.length->Pv i σ H->AK K H a xs)
  (hs:∀i x σ H,xs[i]?=some x->Pv i σ H->g x σ H λσ2 H2=>tb { D with nx:=Pv (i+1),ct:=Pv (i+1),bk:=D.nx } σ2 H2) (hd:∀σ H,Pv xs.length σ H->D.nx σ H) :
  ∃W:Nat->Nat->St->Hp->Prop,(∃m,W 0 m σ H)/\∀i m σ H,W i m σ H →
   ((KD K a).stop i H/\D.nx σ H)\/((KD K a).go i H/\∃N:St->Hp->Prop,(∀σ' H',N σ' H'->∃m',m' < m/\W (i+1) m' σ' H')/\∀x H',(KD K a).Dv i H x H'->g x σ H' λσ2 H2=>tb { D with nx:=N,ct:=N,bk:=D.nx } σ2 H2):=by
 refine⟨λi m σ H=>m=xs.length-i/\i<=xs.length/\Pv i σ H,⟨xs.length,by simp,kH _,h0⟩,?_⟩;rintro i m σ H ⟨rfl,hi,p⟩;have q:=hl i σ H hi p;by_cases hlt:i<xs.length
 ·refine .inr ⟨⟨xs,xs[i],q,by simp[hlt]⟩,Pv (i+1),λσ' H' p'=>⟨xs.length-(i+1),by omega,rfl,hlt,p'⟩,λx H' y=>?_⟩;obtain⟨e,y⟩:=y;subst e;exact hs i x σ _ (y xs q) p
 ·have e:i=xs.length:=by omega
  subst e;exact .inl ⟨⟨xs,q,jj _⟩,hd σ H p⟩
theorem LZ {lo:Int} {n:Nat} {g:TG} {tb:TS} {D:DF} {σ:St} {H:Hp} (Pv:Nat->St->Hp->Prop) (h0:Pv 0 σ H)
  (hs:∀i σ H,i<n->Pv i σ H->g (.int (lo+i)) σ H λσ2 H2=>tb { D with nx:=Pv (i+1),ct:=Pv (i+1),bk:=D.nx } σ2 H2) (hd:∀σ H,Pv n σ H->D.nx σ H) :
  ∃W:Nat->Nat->St->Hp->Prop,(∃m,W 0 m σ H)/\∀i m σ H,W i m σ H →
   ((FQ lo n).stop i H/\D.nx σ H)\/((FQ lo n).go i H/\∃N:St->Hp->Prop,(∀σ' H',N σ' H'->∃m',m' < m/\W (i+1) m' σ' H')/\∀x H',(FQ lo n).Dv i H x H'->g x σ H' λσ2 H2=>tb { D with nx:=N,ct:=N,bk:=D.nx } σ2 H2):=by
 refine⟨λi m σ H=>m=n-i/\i<=n/\Pv i σ H,⟨n,by simp,kH _,h0⟩,?_⟩;rintro i m σ H ⟨rfl,hi,p⟩;by_cases hlt:i<n
 ·refine .inr ⟨hlt,Pv (i+1),λσ' H' p'=>⟨n-(i+1),by omega,rfl,hlt,p'⟩,λx H' y=>?_⟩;obtain⟨e,y⟩:=y;subst e y;exact hs i σ _ hlt p
 ·have e:i=n:=by omega
  subst e;exact .inl ⟨jj _,hd σ H p⟩
theorem Gz {c:TT} {tb:TS} {D:DF} {σ:St} {H:Hp} (Pv:St->Hp->Prop) (μ:St->Hp->Nat) (h0:Pv σ H)
  (hs:∀σ H,Pv σ H->c σ H λb H1=>if b=true then tb { D with nx:=λσ' H'=>Pv σ' H'/\μ σ' H' < μ σ H,ct:=λσ' H'=>Pv σ' H'/\μ σ' H' < μ σ H,bk:=D.nx } σ H1 else D.nx σ H1)
  (mono:∀σ H Q Q',(∀b H1,Q b H1->Q' b H1)->c σ H Q->c σ H Q'):Og c tb D σ H:=by
 refine⟨λm σ H=>m=μ σ H/\Pv σ H,⟨_,rfl,h0⟩,?_⟩;rintro m σ H ⟨rfl,p⟩;refine mono σ H _ _ (λb H1 q=>?_) (hs σ H p);cases b with
 | true=>exact⟨_,λσ' H' ⟨p',l⟩=>⟨_,l,rfl,p'⟩,q⟩
 | false=>exact q
abbrev R2:=V->V->Hp->VK->Prop
def Bk(X:Cx)(f:Value->Value->Sem Value)(r:R2):Prop :=
 ∀(pins:List (Addr×Obj)) (s:jh) (σ:St) (H:Hp) (x y:V) (v u:Value) (Q:VK),AI X pins σ H s->Ax x v->Ax y u->r x y H Q →
  wpAny (model X.prog X.w) X.A (f v u) (EP X pins σ Q) X.xe s
def QD(X:Cx)(f:Value->Sem Value)(r:V->Hp->VK->Prop):Prop :=
 ∀(pins:List (Addr×Obj)) (s:jh) (σ:St) (H:Hp) (x:V) (v:Value) (Q:VK),AI X pins σ H s->Ax x v->r x H Q →
  wpAny (model X.prog X.w) X.A (f v) (EP X pins σ Q) X.xe s
def C6(X:Cx)(f:Value)(r:List V->Hp->VK->Prop):Prop :=
 ∀(pins:List (Addr×Obj)) (s:jh) (σ:St) (H:Hp) (xs:List V) (us:List Value) (Q:VK),AI X pins σ H s->Ah xs us->r xs H Q →
  wpAny (model X.prog X.w) X.A (call f us) (EP X pins σ Q) X.xe s
def Bg(r:R2)(ta tb:TE):TE:=λσ H Q=>ta σ H λx H1=>tb σ H1 λy H2=>r x y H2 Q
def W7(r:V->Hp->VK->Prop)(ta:TE):TE:=λσ H Q=>ta σ H λx H1=>r x H1 Q
inductive IR(C:Int->Int->Prop)(g:Int->Int->V)(x y:V)(H:Hp)(Q:VK):Prop
 | mk (i j:Int) (a:x=.int i) (b:y=.int j) (c:C i j) (q:Q (g i j) H):IR C g x y H Q
def rI(C:Int->Int->Prop)(g:Int->Int->V):R2:=λx y H Q=>IR C g x y H Q
inductive W2(g:Int->Int->V)(x y:V)(H:Hp)(Q:VK):Prop
 | mk (i j:Int) (a:x=.int i) (b:y=.int j) (q:Q (g i j) H):W2 g x y H Q
def FN(g:Int->Int->V):R2:=λx y H Q=>W2 g x y H Q
def rU(g:Int->V):V->Hp->VK->Prop:=λx H Q=>∃i,x=.int i/\Q (g i) H
section
variable {X:Cx} {a b c:Expr} {ta tb tc:TE} {pos:Pos}
theorem Pr (ha:PE X a ta) (hb:PE X b tb) {pins:List (Addr×Obj)} {s:jh} {σ:St} {H:Hp} {R:V->V->Hp->Prop} (I:AI X pins σ H s)
  (h:ta σ H λx H1=>tb σ H1 λy H2=>R x y H2) {Q:Value->jh->Prop} {f:Value->Value->Sem Value}
  (hf:∀v u s2 x y H2,AI X pins σ H2 s2->Ax x v->Ax y u->R x y H2->wpAny (model X.prog X.w) X.A (f v u) Q X.xe s2) :
  wpAny (model X.prog X.w) X.A (eval a X.env) (λv s₁=>wpAny (model X.prog X.w) X.A (eval b X.env) (λu s₂=>wpAny (model X.prog X.w) X.A (f v u) Q X.xe s₂) X.xe s₁) X.xe s:=by
 refine Ag (ha pins s σ H _ I h) λv s1 ⟨x,H1,I1,r1,q1⟩=>?_
 refine Ag (hb pins s1 σ H1 _ I1 q1) λu s2 ⟨y,H2,I2,r2,q2⟩=>?_
 exact hf v u s2 x y H2 I2 r1 r2 q2
theorem AL{op:Operator}{r:R2}(ho:Bk X (mS op) r)(ha:PE X a ta)(hb:PE X b tb):PE X (.BinOp a op b pos) (Bg r ta tb):=by
 intro pins s σ H Q I h;exact wpAny_BinOp (Pr ha hb I h λv u s2 x y H2 I2 rx ry q=>ho pins s2 σ H2 x y v u Q I2 rx ry q)
theorem GK{op:UnaryOp}{r:V->Hp->VK->Prop}(ho:QD X (unaryOp op) r)(ha:PE X a ta):PE X (.UnaryOp op a pos) (W7 r ta):=by
 intro pins s σ H Q I h;exact UnaryOp_ (Ag (ha pins s σ H _ I h) λv s1 ⟨x,H1,I1,r1,q1⟩=>ho pins s1 σ H1 x v Q I1 r1 q1)
theorem JB {f:Value->Value->Sem Value} {C:Int->Int->Prop} {g:Int->Int->Int}
  (rule:∀(i j:Int) (t u:Tok) (s:jh) (Q:Value->jh->Prop) (E:Value->jh->Prop),C i j->Q (.int (g i j) s.toks) { s with toks:=s.toks+1 }->wpAny (model X.prog X.w) X.A (f (.int i t) (.int j u)) Q E s) :
  Bk X f (rI C λi j=>.int (g i j)):=by
 intro pins s σ H x y v u Q I rx ry h;obtain⟨i,j,rfl,rfl,hc,q⟩:=h;obtain⟨t,rfl⟩:=rx;obtain⟨t',rfl⟩:=ry;exact rule i j t t' s _ _ hc ⟨.int (g i j),H,I.DW _,⟨_,rfl⟩,q⟩
theorem PY {f:Value->Value->Sem Value} {g:Int->Int->Int}
  (rule:∀(i j:Int) (t u:Tok) (s:jh) (Q:Value->jh->Prop) (E:Value->jh->Prop),Q (.int (g i j) s.toks) { s with toks:=s.toks+1 }->wpAny (model X.prog X.w) X.A (f (.int i t) (.int j u)) Q E s) :
  Bk X f (FN λi j=>.int (g i j)):=by
 intro pins s σ H x y v u Q I rx ry h;obtain⟨i,j,rfl,rfl,q⟩:=h;obtain⟨t,rfl⟩:=rx;obtain⟨t',rfl⟩:=ry;exact rule i j t t' s _ _ ⟨.int (g i j),H,I.DW _,⟨_,rfl⟩,q⟩
theorem Pn {f:Value->Value->Sem Value} {g:Int->Int->Bool}
  (rule:∀(i j:Int) (t u:Tok) (s:jh) (Q:Value->jh->Prop) (E:Value->jh->Prop),Q (.bool (g i j)) s->wpAny (model X.prog X.w) X.A (f (.int i t) (.int j u)) Q E s) :
  Bk X f (FN λi j=>.bl (g i j)):=by
 intro pins s σ H x y v u Q I rx ry h;obtain⟨i,j,rfl,rfl,q⟩:=h;obtain⟨t,rfl⟩:=rx;obtain⟨t',rfl⟩:=ry;exact rule i j t t' s _ _ ⟨.bl (g i j),H,I,rfl,q⟩
def Mv(i j:Int):Prop:=0<j/\j<1073741824
def iU(i j:Int):Prop:=0<=j/\j<=1000000/\i.natAbs<2 ^ 64
def Iw(i j:Int):Prop:=(-(2 ^ 64)<i/\i<2 ^ 64)\/(-(2 ^ 64)<j/\j<2 ^ 64)
theorem Iw.ok{i j:Int}(h:Iw i j):IntMulOk i j:=by
 rcases h with ⟨h1,h2⟩ | ⟨h1,h2⟩
 ·exact .of_left (intBits_le_64 h1 h2)
 ·exact .of_right (intBits_le_64 h1 h2)
theorem BL:Bk X (mS .Add) (FN λi j=>.int (i+j)):=PY λ_ _ _ _ _ _ _ q=>add_int q
theorem DN:Bk X (mS .Sub) (FN λi j=>.int (i-j)):=PY λ_ _ _ _ _ _ _ q=>sub_int q
theorem Bt:Bk X (mS .Mult) (rI Iw λi j=>.int (i*j)):=JB λ_ _ _ _ _ _ _ hc q=>mul_int q hc.ok
theorem EE:Bk X (mS .FloorDiv) (rI Mv λi j=>.int (i / j)):=JB λi j _ _ _ _ _ hc q=>by
 have h1:(0:Int)<j:=hc.1;have h2:j<1073741824:=hc.2;exact floordiv_int (by omega) (by rw[Int.fdiv_eq_ediv_of_nonneg i (by omega)]; exact q) (.inl (t8 (by omega)))
theorem Bw:Bk X (mS .Mod) (rI (λ_ j=>0<j) λi j=>.int (i % j)):=JB λi j _ _ _ _ _ hc q=>by
 have h1:(0:Int)<j:=hc;exact mod_int' (by omega) (by rw[rX i (by omega)]; exact q)
theorem aH:Bk X (mS .Mod) (rI (λ_ j=>j≠0) λi j=>.int (i.fmod j)):=JB λ_ _ _ _ _ _ _ hc q=>mod_int' hc q
theorem UI:Bk X (mS .Pow) (rI iU λi j=>.int (i ^ j.toNat)):=JB λ_ _ _ _ _ _ _ hc q=>pow_int_small hc.1 hc.2.1 hc.2.2 q
theorem MQ:Bk X (mS .BitXor) (FN λi j=>.int (p9 i j)):=PY λ_ _ _ _ _ _ _ q=>xor_int q
theorem ie {f:Value->Sem Value} {g:Int->Int}
  (rule:∀(i:Int) (t:Tok) (s:jh) (Q:Value->jh->Prop) (E:Value->jh->Prop),Q (.int (g i) s.toks) { s with toks:=s.toks+1 }->wpAny (model X.prog X.w) X.A (f (.int i t)) Q E s) :
  QD X f (rU λi=>.int (g i)):=by
 intro pins s σ H x v Q I rx h;obtain⟨i,rfl,q⟩:=h;obtain⟨t,rfl⟩:=rx;exact rule i t s _ _ ⟨.int (g i),H,I.DW _,⟨_,rfl⟩,q⟩
theorem GJ:QD X (unaryOp .USub) (rU λi=>.int (-i)):=ie λ_ _ _ _ _ q=>neg_int q
end
def V4:V->V->Bool
 | .BE,.BE=>true | .BE,.int _=>true | .int _,.BE=>true | .BE,.bl _=>true | .bl _,.BE=>true | .BE,.str _=>true | .str _,.BE=>true
 | .int _,.int _=>true | .bl _,.bl _=>true | .str _,.str _=>true | .FO _,.FO _=>true
 | .int _,.str _=>true | .str _,.int _=>true | .bl _,.str _=>true | .str _,.bl _=>true
 | _,_=>false
inductive Wu(x y:V)(H:Hp)(Q:VK):Prop
 | mk (c:V4 x y=true) (q:Q (.bl (decide (x=y))) H):Wu x y H Q
inductive W5(x y:V)(H:Hp)(Q:VK):Prop
 | mk (c:V4 x y=true) (q:Q (.bl (!decide (x=y))) H):W5 x y H Q
def Wm:R2:=λx y H Q=>Wu x y H Q
def QC:R2:=λx y H Q=>W5 x y H Q
theorem Sx{i j:Int}:decide (V.int i=V.int j)=(i == j):=by
 rw[oG];simp
theorem UD{i j:Bool}:decide (V.bl i=V.bl j)=(i == j):=by
 rw[oG];simp
theorem SV{i j:Str}:decide (V.str i=V.str j)=(i == j):=by
 rw[oG];simp
theorem TH{i j:Array UInt8}:decide (V.FO i=V.FO j)=(i.toList == j.toList):=by
 rw[oG];cases i;cases j;simp
section
variable {X:Cx} {a b c:Expr} {ta tb tc:TE} {pos:Pos}
theorem Bs{pins:List (Addr×Obj)}{σ:St}{H:Hp}{s:jh}{Q:VK}{k k':Bool}(I:AI X pins σ H s)(q:Q (.bl k) H)(e:k=k'):EP X pins σ Q (.bool k') s:=by
 subst e;exact⟨.bl k,H,I,rfl,q⟩
theorem Dc:Bk X (m5 .Eq) Wm:=by
 intro pins s σ H x y v u Q I rx ry h;obtain⟨hs,q⟩:=h;cases x with
 | BE =>
  cases rx;cases y with
  | BE=>cases ry; exact PySem.EqNone.eq_none_none (Bs I q (by simp))
  | bl j=>cases ry; exact PySem.EqNone.eq_none_bool (Bs I q (by simp))
  | int j=>obtain⟨t',rfl⟩:=ry; exact PySem.EqNone.eq_none_int (Bs I q (by simp))
  | str j=>obtain⟨t',rfl⟩:=ry; exact PySem.EqNone.eq_none_str (Bs I q (by simp))
  | _=>exact absurd (show false=true from hs) j0
 | bl i =>
  cases rx;cases y with
  | BE=>cases ry; exact PySem.EqNone.eq_bool_none (Bs I q (by simp))
  | bl j=>cases ry; exact eq_bool (Bs I q UD)
  | str j=>obtain⟨t',rfl⟩:=ry; exact PySem.EqMixed.eq_bool_str (Bs I q (by simp))
  | _=>exact absurd (show false=true from hs) j0
 | int i =>
  obtain⟨t,rfl⟩:=rx;cases y with
  | BE=>cases ry; exact PySem.EqNone.eq_int_none (Bs I q (by simp))
  | int j=>obtain⟨t',rfl⟩:=ry; exact eq_int (Bs I q Sx)
  | str j=>obtain⟨t',rfl⟩:=ry; exact PySem.EqMixed.eq_int_str (Bs I q (by simp))
  | _=>exact absurd (show false=true from hs) j0
 | str i =>
  obtain⟨t,rfl⟩:=rx;cases y with
  | BE=>cases ry; exact PySem.EqNone.eq_str_none (Bs I q (by simp))
  | bl j=>cases ry; exact PySem.EqMixed.eq_str_bool (Bs I q (by simp))
  | int j=>obtain⟨t',rfl⟩:=ry; exact PySem.EqMixed.eq_str_int (Bs I q (by simp))
  | str j=>obtain⟨t',rfl⟩:=ry; exact eq_str (Bs I q SV)
  | _=>exact absurd (show false=true from hs) j0
 | FO i =>
  obtain⟨t,rfl⟩:=rx;cases y with
  | FO j=>obtain⟨t',rfl⟩:=ry; exact PySem.W.eq_bytes (Bs I q TH)
  | _=>exact absurd (show false=true from hs) j0
 | _=>cases y <;> exact absurd (show false=true from hs) j0
theorem Eo:Bk X (m5 .NotEq) QC:=by
 intro pins s σ H x y v u Q I rx ry h;obtain⟨hs,q⟩:=h;cases x with
 | BE =>
  cases rx;cases y with
  | BE=>cases ry; exact PySem.EqNone.ne_none_none (Bs I q (by simp))
  | bl j=>cases ry; exact PySem.EqNone.ne_none_bool (Bs I q (by simp))
  | int j=>obtain⟨t',rfl⟩:=ry; exact PySem.EqNone.ne_none_int (Bs I q (by simp))
  | str j=>obtain⟨t',rfl⟩:=ry; exact PySem.EqNone.ne_none_str (Bs I q (by simp))
  | _=>exact absurd (show false=true from hs) j0
 | bl i =>
  cases rx;cases y with
  | BE=>cases ry; exact PySem.EqNone.ne_bool_none (Bs I q (by simp))
  | bl j=>cases ry; exact ne_bool (Bs I q (congrArg not UD))
  | str j=>obtain⟨t',rfl⟩:=ry; exact PySem.EqMixed.ne_bool_str (Bs I q (by simp))
  | _=>exact absurd (show false=true from hs) j0
 | int i =>
  obtain⟨t,rfl⟩:=rx;cases y with
  | BE=>cases ry; exact PySem.EqNone.ne_int_none (Bs I q (by simp))
  | int j=>obtain⟨t',rfl⟩:=ry; exact ne_int (Bs I q (congrArg not Sx))
  | str j=>obtain⟨t',rfl⟩:=ry; exact PySem.EqMixed.ne_int_str (Bs I q (by simp))
  | _=>exact absurd (show false=true from hs) j0
 | str i =>
  obtain⟨t,rfl⟩:=rx;cases y with
  | BE=>cases ry; exact PySem.EqNone.ne_str_none (Bs I q (by simp))
  | bl j=>cases ry; exact PySem.EqMixed.ne_str_bool (Bs I q (by simp))
  | int j=>obtain⟨t',rfl⟩:=ry; exact PySem.EqMixed.ne_str_int (Bs I q (by simp))
  | str j=>obtain⟨t',rfl⟩:=ry; exact ne_str (Bs I q (congrArg not SV))
  | _=>exact absurd (show false=true from hs) j0
 | FO i =>
  obtain⟨t,rfl⟩:=rx;cases y with
  | FO j=>obtain⟨t',rfl⟩:=ry; exact PySem.W.ne_bytes (Bs I q (congrArg not TH))
  | _=>exact absurd (show false=true from hs) j0
 | _=>cases y <;> exact absurd (show false=true from hs) j0
theorem Ia:Bk X (m5 .Lt) (FN λi j=>.bl (decide (i<j))):=Pn λ_ _ _ _ _ _ _ q=>lt_int q
theorem ff:Bk X (m5 .LtE) (FN λi j=>.bl (decide (i<=j))):=Pn λ_ _ _ _ _ _ _ q=>le_int q
theorem K4:Bk X (m5 .Gt) (FN λi j=>.bl (decide (j<i))):=Pn λ_ _ _ _ _ _ _ q=>gt_int q
theorem Ub:Bk X (m5 .Is) (λx y H Q=>y=.BE/\Q (.bl (decide (x=.BE))) H):=by
 intro pins s σ H x y v u Q I rx ry h;obtain⟨rfl,q⟩:=h;cases ry;refine is_none_gen (Bs I q ?_);cases x <;> first
  | (cases rx; rfl)
  | (obtain⟨t,rfl⟩:=rx; rfl)
theorem Bk.or{f:Value->Value->Sem Value}{r r':R2}(h:Bk X f r)(h':Bk X f r'):Bk X f (λx y H Q=>r x y H Q\/r' x y H Q):=by
 intro pins s σ H x y v u Q I rx ry q;rcases q with q | q
 ·exact h pins s σ H x y v u Q I rx ry q
 ·exact h' pins s σ H x y v u Q I rx ry q
theorem BJ(b:Expr){op:CmpOp}(h:op≠.In:=by decide)(h2:op≠.NotIn:=by decide):oF op b=false:=by
 have e1:(op == CmpOp.In)=false:=by cases op <;> first | rfl | exact absurd rfl h
 have e2:(op == CmpOp.NotIn)=false:=by cases op <;> first | rfl | exact absurd rfl h2
 cases b <;> simp[oF,e1,e2]
theorem IJ{op:CmpOp}{r:R2}(ho:Bk X (m5 op) r)(ha:PE X a ta)(hb:PE X b tb)(hm:oF op b=false):PE X (.Compare a [op] [b] pos) (Bg r ta tb):=by
 intro pins s σ H Q I h;exact wpAny_Compare1 (Pr ha hb I h λv u s2 x y H2 I2 rx ry q=>ho pins s2 σ H2 x y v u Q I2 rx ry q) hm
def Ma(t:TE):TT:=λσ H Q=>t σ H λx H'=>P5 x H' Q
theorem BQ{op:CmpOp}{r:R2}(ho:Bk X (m5 op) r)(ha:PE X a ta)(hb:PE X b tb)(hm:oF op b=false):PT X (.Compare a [op] [b] pos) (Ma (Bg r ta tb)):=by
 intro pins s σ H Q I h;refine uG (Ag (ha pins s σ H _ I h) λv s1 ⟨x,H1,I1,r1,q1⟩=>Ag (hb pins s1 σ H1 _ I1 q1) λu s2 ⟨y,H2,I2,r2,q2⟩ =>
  Ag (ho pins s2 σ H2 x y v u _ I2 r1 r2 q2) λc s3 ⟨z,H3,I3,r3,k,e,q3⟩=>?_) hm
 subst e;cases r3;exact oT ⟨H3,I3,q3⟩
theorem MB:(jR:Nat)<2 ^ 63:=by rw[nF]; decide
theorem En{x:V}{us:List Value}(r:Ah [x] us):∃u,us=[u]/\Ax x u:=by
 cases r with
 | cons r1 r2=>cases r2; exact⟨_,rfl,r1⟩
theorem K6{x y:V}{us:List Value}(r:Ah [x,y] us):∃u w',us=[u,w']/\Ax x u/\Ax y w':=by
 cases r with
 | cons r1 r2 =>
  cases r2 with
  | cons r3 r4=>cases r4; exact⟨_,_,rfl,r1,r3⟩
theorem Lj:C6 X (.builtin "abs") (λxs H Q=>∃i,xs=[.int i]/\Q (.int (if i<0 then -i else i)) H):=by
 intro pins s σ H xs us Q I r h;obtain⟨i,rfl,q⟩:=h;obtain⟨u,rfl,t,rfl⟩:=En r;exact call_abs_int λu tk=>⟨.int (if i<0 then -i else i),H,I.DW _,⟨_,rfl⟩,q⟩
theorem YM(hc:X.Cr=true):C6 X (.builtin "max") (λxs H Q=>∃i j,xs=[.int i,.int j]/\Q (.int (if j > i then j else i)) H):=by
 intro pins s σ H xs us Q I r h;obtain⟨i,j,rfl,q⟩:=h;obtain⟨u,w',rfl,⟨t,rfl⟩,⟨t',rfl⟩⟩:=K6 r;refine max_two_ints (I.ok.hd hc) λh' tk k=>⟨_,H,I.Bx k,?_,q⟩
 by_cases hj:j > i
 ·rw[jq hj,jq hj]; exact⟨_,rfl⟩
 ·rw[jm hj,jm hj]; exact⟨_,rfl⟩
theorem RD(hc:X.Cr=true):C6 X (.builtin "min") (λxs H Q=>∃i j,xs=[.int i,.int j]/\Q (.int (if j<i then j else i)) H):=by
 intro pins s σ H xs us Q I r h;obtain⟨i,j,rfl,q⟩:=h;obtain⟨u,w',rfl,⟨t,rfl⟩,⟨t',rfl⟩⟩:=K6 r;refine min_two_ints (I.ok.hd hc) λh' tk k=>⟨_,H,I.Bx k,?_,q⟩
 by_cases hj:j<i
 ·rw[jq hj,jq hj]; exact⟨_,rfl⟩
 ·rw[jm hj,jm hj]; exact⟨_,rfl⟩
theorem Yh:C6 X (.type "int") (λxs H Q=>(∃i,xs=[.int i]/\Q (.int i) H)\/∃k,xs=[.bl k]/\Q (.int (if k then 1 else 0)) H):=by
 intro pins s σ H xs us Q I r h;rcases h with ⟨i,rfl,q⟩ | ⟨k,rfl,q⟩
 ·obtain⟨u,rfl,t,rfl⟩:=En r;exact call_int_int ⟨.int i,H,I,⟨_,rfl⟩,q⟩
 ·obtain⟨u,rfl,r1⟩:=En r;cases r1;exact call_int_bool ⟨.int (if k then 1 else 0),H,I.DW _,⟨_,rfl⟩,q⟩
end
structure LJ(h:Heap)(x dx C:Addr)(mA:Str->Option Value):Prop where
 obj:h.get? x=some (tW C dx)
 ns:h.Ns1 dx mA
 ne:dx≠x
theorem Yf{h:Heap}{dx:Addr}{mA:Str->Option Value}(n:h.Ns1 dx mA):∃od,h.get? dx=some od/\∀name,uC name od=some (mA name):=by
 obtain⟨o,es,ep,ho,hd,hk,_,hm⟩:=n;refine⟨o,ho,λname=>?_⟩;have e:=hm name;unfold nsFind findBy at e;rw[<-Array.find?_toList] at e;unfold uC;rw[hd];dsimp only;split
 ·rename_i y q
  rw[q] at e;exact congrArg some e
 ·rename_i q
  rw[q] at e;have a:es.toList.any (·.refKey)=false:=by
   rw[List.any_eq_false];intro y hy;obtain⟨z,t,hkey⟩:=hk y (Array.mem_toList_iff.mp hy);simp[DictEntry.refKey,hkey]
  have a':¬es.toList.any (·.refKey)=true:=by rw[a]; exact j0
  rw[jm a'];exact congrArg some e
theorem LJ.Ft{h:Heap}{x dx C:Addr}{mA:Str->Option Value}(I:LJ h x dx C mA):∃od,PySem.W.InstAt h x (tW C dx) C (some od)/\∀name,uC name od=some (mA name) :=
 let ⟨od,ho,hl⟩:=Yf I.ns
 ⟨od,⟨I.obj,rfl,rfl,ho⟩,hl⟩
section
variable {prog:j8} {w:World} {A:kK} {E:Value->jh->Prop} {s:jh} {K:jk} {x dx C f:Addr} {mA:Str->Option Value} {name:Str} {v:Value}
theorem TN {ns:List Str} {Q:Unit->jh->Prop} (X:K.In s.heap) (I:LJ s.heap x dx C mA)
  (hs:rD K (.ref C) "__setattr__" = some (some (.builtin "object.__setattr__"))) (hp:vU K C=true) (ht:PySem.W.takerIn K C name=some none) (hh:vR K C=true)
  (hw:tH mA ns) (hsz:ns.length<=jR)
  (h:∀h',LJ h' x dx C (λy=>if y=name then some v else mA y)->mV dx s.heap h'->Q () { s with heap:=h',toks:=s.toks+2 }) :
  wpAny (model prog w) A (setAttr (.ref x) name v) Q E s:=by
 obtain⟨od,J,hl⟩:=I.Ft;refine PySem.W.set_plain X J hs (PySem.W.osa_open (s:={ s with toks:=s.toks+1 }) (r:=none) X J hp ht λb=>?_);obtain⟨cd,hc,hd'⟩:=PySem.W.any_some hh;have hx:s.heap.get? x=some ⟨.ref C,some dx,.plain,#[]⟩:=I.obj;refine jf (jS (jf (jf (wpAny_loadPart hx (jf (PySem.W.Looks.here (s:={ s with toks:=s.toks+1 }) (PySem.W.looks_clsIn X hc) ?_))))));rw[hd'];refine jS (a:=some dx) (jf (jS (jf ?_)));refine wpAny_nsSet1 (s:={ s with toks:=s.toks+1 }) I.ns λh' hn2 hs2=>?_
 obtain⟨oD,esD,epD,hoD,hdD,hcD⟩:=hn2.count (tH.cons name v hw);refine jf (wpAny_lookBehind hoD (by rw[hdD]; exact pastItsLine_dict (jW hcD (by rw[ka]; omega))) ?_);exact jS (h _ ⟨(hs2.2 _ (lF I.ne)).trans I.obj,hn2,I.ne⟩ hs2)
end
theorem EZ.Td{v:V}{o:Option Value}(r:EZ (some v) o):∃u,o=some u/\Ax v u:=by
 cases o with
 | none=>exact(show False from r).elim
 | some u=>exact⟨u,rfl,r⟩
section
variable {P:j8} {w:World} {H H':Hp} {h h':Heap} {a C dx:Addr} {fs fs':List (Str×V)}
theorem bo(hok:By P w H h)(e:H a=some (.E1 C dx fs)):∃mA,LJ h a dx C mA/\(∀f,EZ (fs.lookup f) (mA f))/\tH mA (fs.map (·.1))/\fs.length<=1000/\H dx=some (.Ed a):=by
 obtain⟨d,z,ne,ob,mA,n,r,q⟩:=(show Bq P w H h a (.E1 C dx fs) from hok a _ e);exact⟨mA,⟨ob,n,ne⟩,r,q,z,d⟩
end
structure P2(K:jk)(C:Addr):Prop where
 pg:wC K C Str.empty=true
 hd:vR K C=true
 po:vU K C=true
 sa:rD K (.ref C) "__setattr__" = some (some (.builtin "object.__setattr__"))
theorem P2.get{K:jk}{C:Addr}(c:P2 K C)(f:Str):wC K C f=true:=c.pg
section
variable {X:Cx} {pins:List (Addr×Obj)} {σ:St} {H:Hp} {s:jh} {a C dx:Addr} {fs:List (Str×V)} {f:Str} {v:V} {A:kK} {E:Value->jh->Prop}
end
section
variable {X:Cx} {o e value:Expr} {f:Str} {pos pos' tpos:Pos} {ta tv:TE}
end
section
variable {X:Cx} {pins:List (Addr×Obj)} {σ:St} {H:Hp} {s:jh} {A:kK} {E:Value->jh->Prop} {Q:Value->jh->Prop} {c:Value} {b:Bool}
inductive DQ(K:jk)(H:Hp):V->Value->Prop where
 | BE:DQ K H .BE (.type "NoneType")
 | bl (x:Bool):DQ K H (.bl x) (.type "bool")
 | int (i:Int):DQ K H (.int i) (.type "int")
 | str (x:Str):DQ K H (.str x) (.type "str")
 | J3 (x:UInt64):DQ K H (.J3 x) (.type "float")
 | AD {a:Addr} {xs:List V} (e:H a=some (.AD xs)):DQ K H (.ref a) (.type "list")
 | EL {a:Addr} {o:Obj} {xs:List V} (e:H a=some (.EL o (.AD xs))):DQ K H (.ref a) (.type "list")
 | AG {a:Addr} {xs:List V} (e:H a=some (.AG xs)):DQ K H (.ref a) (.type "tuple")
 | dK {a:Addr} {kvs:List (Aa×V)} (e:H a=some (.dK kvs)):DQ K H (.ref a) (.type "dict")
 | dT {a:Addr} {kvs:List (List Aa×V)} (e:H a=some (.dT kvs)):DQ K H (.ref a) (.type "dict")
 | E1 {a C dx:Addr} {fs:List (Str×V)} (e:H a=some (.E1 C dx fs)) (cl:P2 K C) (ha:rD K (.ref C) "__class__" = some (some (.builtin "object.__class__")))
   (hn:PySem.W.specialIn K (.builtin "object.__class__") "__get__" = some (some (.builtin "getset_descriptor.__get__"))) (htk:PySem.W.takesIn K (.builtin "object.__class__")=some true)
   (hm:PySem.W.mroIn K C (.type "object")=some true):DQ K H (.ref a) (.ref C)
theorem YA{x:V}{u t:Value}(I:AI X pins σ H s)(rx:Ax x u)(ty:DQ X.K H x t)(e:qf X.K t c=some b)(h:∀tk,Q (.bool b) { s with toks:=tk }):
  wpAny (model X.prog X.w) A (call (.builtin "isinstance") [u,c]) Q E s:=by
 cases ty with
 | BE=>cases (show u=ph from rx); exact l6 PySem.W.kitx_none I.Dg nD e (λz=>nomatch z) h
 | bl y=>cases (show u=nY y from rx); exact l6 PySem.W.kitx_bool I.Dg nD e (λz=>nomatch z) h
 | int i=>obtain⟨t,q⟩:=(show ∃t,u=vB i t from rx); cases q; exact l6 PySem.W.kitx_int I.Dg nD e (λz=>nomatch z) h
 | str y=>obtain⟨t,q⟩:=(show ∃t,u=vC y t from rx); cases q; exact l6 PySem.W.kitx_str I.Dg nD e (λz=>nomatch z) h
 | J3 y=>obtain⟨t,q⟩:=(show ∃t,u=Value.float y t from rx); cases q; exact l6 PySem.W.kitx_float I.Dg nD e (λz=>nomatch z) h
 | @AD a xs ea =>
  cases (show u=lO a from rx);obtain⟨_,_,n,_,h1⟩:=(show Bq X.prog X.w H s.heap a (.AD xs) from I.hok a _ ea);exact l6 vT I.Dg ⟨_,h1,rfl⟩ e (λz=>nomatch z) h
 | @EL a ob xs ea =>
  cases (show u=lO a from rx);obtain⟨_,_,_,n,_,h1⟩:=(show Bq X.prog X.w H s.heap a (.EL ob (.AD xs)) from I.hok a _ ea);exact l6 vT I.Dg ⟨_,h1,rfl⟩ e (λz=>nomatch z) h
 | @AG a xs ea =>
  cases (show u=lO a from rx);obtain⟨_,_,_,p,_⟩:=(show Bq X.prog X.w H s.heap a (.AG xs) from I.hok a _ ea);obtain⟨o,h1,h2,_⟩:=p;exact l6 PySem.W.kitx_tuple I.Dg ⟨o,h1,h2⟩ e (λz=>nomatch z) h
 | @dK a kvs ea =>
  cases (show u=lO a from rx);obtain⟨_,_,vs,_,p⟩:=(show Bq X.prog X.w H s.heap a (.dK kvs) from I.hok a _ ea);obtain⟨o,es,ep,h1,h2,_⟩:=p;exact l6 vS I.Dg ⟨o,h1,h2.1⟩ e (λz=>nomatch z) h
 | @dT a kvs ea =>
  cases (show u=lO a from rx);obtain⟨_,_,xs,_,o,es,ep,h1,h2,_⟩:=(show Bq X.prog X.w H s.heap a (.dT kvs) from I.hok a _ ea);exact l6 vS I.Dg ⟨o,h1,h2.1⟩ e (λz=>nomatch z) h
 | @E1 a C dx fs ea cl ha hn htk hm =>
  cases (show u=lO a from rx);obtain⟨mA,O,_⟩:=bo I.hok ea;obtain⟨od,J,_⟩:=O.Ft;exact l6 (PySem.W.kitx_own (cl.get _) cl.hd ha hn htk hm) I.Dg J e (λz=>nomatch z) h
end
structure Cs(k:Nat)(A:kK):Prop where
 hd:A.handled=none
 dp:A.depth+3*k+5<recursionLimit
 un:A.units+16*k+200<cLine
theorem Cs.mono{j k:Nat}{A:kK}(r:Cs k A)(h:j<=k):Cs j A:=⟨r.hd,by have:=r.dp; omega,by have:=r.un; omega⟩
theorem Cs.deeper{k:Nat}{A:kK}(r:Cs (k+1) A)(env:Env):Cs k (A.deeper env) :=
 ⟨r.hd,by have:=r.dp; show A.depth+1+3*k+5<_; omega,by have:=r.un; show A.units+3+16*k+200<_; omega⟩
theorem Cs.in1{k:Nat}{A:kK}(r:Cs (k+1) A):Cs k A.in1 :=
 ⟨r.hd,by have:=r.dp; show A.depth+3*k+5<_; omega,by have:=r.un; show A.units+1+16*k+200<_; omega⟩
theorem Cs.depth{k:Nat}{A:kK}(r:Cs k A):A.depth<recursionLimit:=by have:=r.dp; omega
theorem Cs.units{k:Nat}{A:kK}(r:Cs k A):A.units+64<cLine:=by have:=r.un; omega
def CF:TA:=λ_ H Q=>Q [] H
def BO(ta:TE)(tr:TA):TA:=λσ H Q=>ta σ H λx H1=>tr σ H1 λxs H2=>Q (x :: xs) H2
section
variable {X:Cx} {e:Expr} {es:List Expr} {te:TE} {t:TA} {pos:Pos}
theorem AB:PA X [] CF:=λ_ _ _ _ H Q I h=>sk ⟨[],H,I,.nil,h⟩
theorem AA(ha:PE X e te)(hr:PA X es t)(hs:kc (e :: es) X.env=(false,eval e X.env) :: kc es X.env:=by rfl):PA X (e :: es) (BO te t):=by
 intro pos pins s σ H Q I h;rw[hs];show wpAny _ _ (spliced ((false,eval e X.env) :: nh pos (kc es X.env))) _ _ s;refine rM (Ag (ha pins s σ H _ I h) λu s1 ⟨x,H1,I1,r1,q1⟩=>?_);exact Ag (hr pos pins s1 σ H1 _ I1 q1) λus s2 ⟨xs,H2,I2,r2,q2⟩=>⟨x :: xs,H2,I2,.cons r1 r2,q2⟩
inductive VW(xs:List V)(H:Hp)(Q:VK):Prop
 | mk (n:xs.length<=jR) (q:∀p,H p=none->Q (.ref p) (AH H p (.AG xs))):VW xs H Q
inductive Vq(xs:List V)(H:Hp)(Q:VK):Prop
 | mk (n:xs.length<=jR) (q:∀p,H p=none->Q (.ref p) (AH H p (.AD xs))):Vq xs H Q
def LI(t:TA):TE:=λσ H Q=>t σ H λxs H1=>VW xs H1 Q
def WC(t:TA):TE:=λσ H Q=>t σ H λxs H1=>Vq xs H1 Q
theorem BZ{x1}(h:PA X es t):PE X (.Tuple es x1 pos) (LI t):=by
 intro pins s σ H Q I hq;refine wpAny_Tuple_spliced (Ag (h pos pins s σ H _ I hq) λus s1 ⟨xs,H1,I1,r,z,q⟩=>⟨by rw[<-r.length]; exact z,?_⟩);have hf:H1 s1.heap.objs.size=none:=I1.hok.Bp (jj _);refine⟨.ref s1.heap.objs.size,AH H1 s1.heap.objs.size (.AG xs),I1.De (t':=s1.toks) (λb u e=>jt _ e) (jj _) ?_,rfl,q _ hf⟩;exact⟨z,us,r,⟨_,jY _ rfl,rfl,_,rfl⟩,_,jY _ rfl,rfl⟩
theorem Bz(h:PA X es t):PE X (.List es pos) (WC t):=by
 intro pins s σ H Q I hq;refine wpAny_List_spliced (Ag (h pos pins s σ H _ I hq) λus s1 ⟨xs,H1,I1,r,z,q⟩=>⟨by rw[<-r.length]; exact z,?_⟩);have hf:H1 s1.heap.objs.size=none:=I1.hok.Bp (jj _);refine⟨.ref s1.heap.objs.size,AH H1 s1.heap.objs.size (.AD xs),I1.De (t':=s1.toks) (λb u e=>jt _ e) (jj _) ?_,rfl,q _ hf⟩;exact⟨z,us,0,r,jY _ rfl⟩
end
abbrev Sp:=List V->Hp->VK->XK->Prop
abbrev Ej:=List Env->Hp->jh->XK->Value->jh->Prop
structure Im(P:j8)(w:World)(K:jk)(mg:Str->Option Value)(base:Heap)(A:kK)(outer:List Env)(s:jh)(H:Hp):Prop where
 frames:A.frames=some outer
 DV:Mod K mg base
 bs:∀b o,base.get? b=some o->s.heap.get? b=some o/\H b=none
 Fx:base.objs.size<=s.heap.objs.size
 Ew:s.heap.FunFrames base outer
 Iy:∀b∈FP outer,H b=none
 hok:By P w H s.heap
 bare:qF s.gens
def CE(outer:List Env)(P:j8)(w:World)(H:Hp)(s:jh)(Q:VK)(u:Value)(s':jh):Prop :=
 ∃v H',s'.os=s.os/\qF s'.gens/\Un (FP outer) [] H H' s.heap s'.heap/\By P w H' s'.heap/\Ax v u/\Q v H'
def CR(CX:Ej)(outer:List Env)(P:j8)(w:World)(H:Hp)(s:jh)(Q:VK)(E:XK)(r:Result)(s':jh):Prop :=
 match r with
 | .ok (.ret u)=>CE outer P w H s Q u s'
 | .ok _=>False
 | .error e=>CX outer H s E e s'
structure An(P:j8)(w:World)(K:jk)(mg:Str->Option Value)(base:Heap)(CX:Ej)(k:Nat)(f:Addr)(fd:kF)(ps:List Str)(sp:Sp):Prop where
 len:∀vs H Q E,sp vs H Q E->vs.length=ps.length
 run:∀(A:kK) (outer:List Env) (s:jh) (H:Hp) (args:Args) (us:List Value) (vs:List V) (Q:VK) (E:XK),Cs k A->Im P w K mg base A outer s H->uq s fd args (ps.zip us)->Ah vs us->sp vs H Q E →
  uD (model P w) A (.call (.ref f) args) (CR CX outer P w H s Q E) s
theorem An.mono{P:j8}{w:World}{K:jk}{mg:Str->Option Value}{base:Heap}{CX:Ej}{j k:Nat}{f:Addr}{fd:kF}{ps:List Str}{sp:Sp}(F:An P w K mg base CX j f fd ps sp)(h:j<=k):
  An P w K mg base CX k f fd ps sp:=⟨F.len,λA outer s H args us vs Q E hr=>F.run A outer s H args us vs Q E (hr.mono h)⟩
theorem An.imp {P:j8} {w:World} {K:jk} {mg:Str->Option Value} {base:Heap} {CX:Ej} {k:Nat} {f:Addr} {fd:kF} {ps:List Str} {sp sp':Sp} (F:An P w K mg base CX k f fd ps sp)
  (h:∀vs H Q E,sp' vs H Q E->sp vs H Q E):An P w K mg base CX k f fd ps sp' :=
 ⟨λvs H Q E q=>F.len vs H Q E (h _ _ _ _ q),λA outer s H args us vs Q E hr he hb hv hs=>F.run A outer s H args us vs Q E hr he hb hv (h _ _ _ _ hs)⟩
theorem Im.in1{P:j8}{w:World}{K:jk}{mg:Str->Option Value}{base:Heap}{A:kK}{outer:List Env}{s:jh}{H:Hp}(e:Im P w K mg base A outer s H):
  Im P w K mg base A.in1 outer s H:=⟨e.frames,e.DV,e.bs,e.Fx,e.Ew,e.Iy,e.hok,e.bare⟩
section
variable {X:Cx} {pins:List (Addr×Obj)} {σ:St} {H:Hp} {s s':jh}
theorem AI.iA(I:AI X pins σ H s):Im X.prog X.w X.K X.mg X.base X.A X.stack s H :=
 ⟨I.ok.frames,I.ok.DV,I.bs,jW I.ok.Fx I.sz,I.stack,I.Sg,I.hok,I.bare⟩
theorem AI.after{Q:VK}{u:Value}(I:AI X pins σ H s)(h:CE X.stack X.prog X.w H s Q u s'):EP X pins σ Q u s':=by
 obtain⟨v,H',os,bare,un,hok,r,q⟩:=h;obtain⟨hh,g,d,t,os'⟩:=s';obtain rfl:os'=s.os:=os;exact⟨v,H',I.call (h':=hh) (g':=g) (d':=d) (t':=t) (ch:=[]) un hok bare (λb z=>absurd z (by simp)),r,q⟩
end
def DT(sp:Sp)(dvs:List V)(E:XK)(t:TA):TE:=λσ H Q=>t σ H λvs H1=>sp (vs++dvs) H1 Q E
def EV(K:jk)(fd:kF)(ps:List Str)(ds:List Value):Prop :=
 ∀(s:jh) (us:List Value),K.In s.heap->(us++ds).length=ps.length->uq s fd ⟨us,[]⟩ (ps.zip (us++ds))
theorem EV.all{K:jk}{fd:kF}{ps:List Str}(h:∀us:List Value,us.length=ps.length->tL fd ⟨us,[]⟩=pure (ps.zip us)):EV K fd ps []:=λs us _ hl=>by
 rw[lC] at hl ⊢;exact .of_eq (h us hl)
def Oe(CX:Ej)(X:Cx)(E:XK):Prop:=∀(pins:List (Addr×Obj)) (σ:St) (H:Hp) (s:jh) (e:Value) (s':jh),AI X pins σ H s->CX X.stack H s E e s'->X.xe e s'
section
variable {X:Cx} {CX:Ej} {k:Nat} {f C:Addr} {fd:kF} {ps:List Str} {sp:Sp} {dvs:List V} {ds:List Value} {E:XK} {x m:Str} {p pos apos:Pos} {e o:Expr} {es:List Expr} {ta:TE} {t:TA}
theorem cM {pins:List (Addr×Obj)} {σ:St} {H:Hp} {s:jh} {Q:VK} {us:List Value} {vs:List V} (F:An X.prog X.w X.K X.mg X.base CX k f fd ps sp) (hr:Cs k X.A) (hb:EV X.K fd ps ds) (hd:Ah dvs ds) (hx:Oe CX X E)
  (I:AI X pins σ H s) (r:Ah vs us) (h:sp (vs++dvs) H Q E):wpAny (model X.prog X.w) X.A (call (.ref f) us) (EP X pins σ Q) X.xe s:=by
 have r2:Ah (vs++dvs) (us++ds):=r.append hd;have hl:(us++ds).length=ps.length:=by rw[<-r2.length]; exact F.len _ _ _ _ h
 refine wpAny_call (vE (F.run X.A X.stack s H ⟨us,[]⟩ (us++ds) (vs++dvs) Q E hr I.iA (hb s us I.Dg hl) r2 h) λr s' hq=>?_);cases r with
 | error e=>exact hx pins σ H s e s' I hq
 | ok fl =>
  cases fl with
  | ret u=>exact I.after hq
  | next=>exact kY hq
  | brk=>exact kY hq
  | cont=>exact kY hq
theorem bh (F:An X.prog X.w X.K X.mg X.base CX k f fd ps sp) (hr:Cs k X.A) (hg:Gl X x) (hm:X.mg x=some (.ref f)) (hk:qd X.K (.ref f)=true) (hb:EV X.K fd ps ds) (hd:Ah dvs ds) (hx:Oe CX X E)
  (ha:PA X (e :: es) t) (hdb:(x == ("__debug__":Str))=false:=by decide) (he:kc (e :: es) X.env=(false,eval e X.env) :: kc es X.env:=by rfl) (hpl:(nh pos (kc es X.env)).any (·.1)=false:=by rfl) :
  PE X (.Call (.Name x p) (e :: es) [] pos) (DT sp dvs E t):=by
 intro pins s σ H Q I h;refine mO (aE I hg hm ?_ hdb);refine PySem.W.callWith_K (h₀:=X.base) I.ok.DV.QG hk (Ag (ha pos pins s σ H _ I h) λus s1 ⟨vs,H1,I1,r,q⟩=>⟨I1.Dg,?_⟩) he hpl;exact cM F hr hb hd hx I1 r q
structure Mk(K:jk)(C f:Addr):Prop where
 jD:PySem.W.makesIn K C=true
 jE:rD K (.ref C) "__init__" = some (some (.ref f))
 fn:PySem.W.isFn K (.ref f)=true
 kp:qd K (.ref C)=true
end
section
variable {X:Cx} {CX:Ej} {k:Nat} {f C:Addr} {fd:kF} {ps ks:List Str} {sp:Sp} {E:XK} {x m:Str} {p pos apos kpos:Pos} {e o:Expr} {es:List Expr} {kws:List pF} {te ta:TE} {t tk:TA} {nm:Option Str}
variable {g:List Value->List Value->List Value} {gV:List V->List V->List V}
end
structure Ay(N P:List Str)(sc:Scope):Prop where
 kind:sc.kind=.function
 co:sc.isCoroutine=false
 ir:sc.isGenerator=false
 nd:N.Nodup
 pre:N.take P.length=P
 Wj:∀x∈P,sc.names.lookup x=some .local\/sc.names.lookup x=some .cell
 cQ:∀y∈sc.names,y.2≠.free
abbrev KP(K:jk)(f:Addr):Prop:=qd K (.ref f)=true
theorem E4:0<=jR:=by decide
theorem Ei:1<=jR:=by decide
theorem B6:2<=jR:=by decide
theorem EM:3<=jR:=by decide
theorem Wv:4<=jR:=by decide
theorem Ql{kindOf:Str->Option wt}{x:Str}:∀{binds:List (Str×Value)} {m:Str->Option Value},(∀v,(x,v)∉binds)->bindL kindOf binds m x=m x
 | [],_,_=>rfl
 | (n,v) :: r,m,h=>by
  unfold bindL;rw[Ql λw hw=>h w (jX _ hw)];split
  ·have:x≠n:=by rintro rfl; exact h v kO
   simp[this]
  ·rfl
theorem Qr{kindOf:Str->Option wt}{x:Str}:∀{binds:List (Str×Value)} {m:Str->Option Value},(∀v,(x,v)∉binds)->bindC kindOf binds m x=m x
 | [],_,_=>rfl
 | (n,v) :: r,m,h=>by
  unfold bindC;rw[Qr λw hw=>h w (jX _ hw)];split
  ·rfl
  ·have:x≠n:=by rintro rfl; exact h v kO
   simp[this]
theorem RE{kindOf:Str->Option wt}{x:Str}{v:Value}:∀{P:List Str} {vs:List Value} {i:Nat} {m:Str->Option Value},P.Nodup->P[i]?=some x->vs[i]?=some v->kindOf x=some .local →
  bindL kindOf (P.zip vs) m x=some v
 | [],_,_,_,_,h,_,_=>by simp at h
 | _ :: _,[],_,_,_,_,h,_=>by simp at h
 | p :: P,w :: vs,0,m,nd,h1,h2,hk=>by
  simp at h1 h2; subst h1; subst h2;show bindL kindOf ((p,w) :: P.zip vs) m p=_;unfold bindL;rw[Ql λv hv=>(kJ.mp nd).1 (qN hv).1,jq hk];simp
 | p :: P,w :: vs,i+1,m,nd,h1,h2,hk=>by
  show bindL kindOf ((p,w) :: P.zip vs) m x=_;unfold bindL;exact RE (i:=i) (kJ.mp nd).2 (by simpa using h1) (by simpa using h2) hk
theorem Qw{kindOf:Str->Option wt}{x:Str}{v:Value}:∀{P:List Str} {vs:List Value} {i:Nat} {m:Str->Option Value},P.Nodup->P[i]?=some x->vs[i]?=some v->kindOf x≠some .local →
  bindC kindOf (P.zip vs) m x=some v
 | [],_,_,_,_,h,_,_=>by simp at h
 | _ :: _,[],_,_,_,_,h,_=>by simp at h
 | p :: P,w :: vs,0,m,nd,h1,h2,hk=>by
  simp at h1 h2; subst h1; subst h2;show bindC kindOf ((p,w) :: P.zip vs) m p=_;unfold bindC;rw[Qr λv hv=>(kJ.mp nd).1 (qN hv).1,jm hk];simp
 | p :: P,w :: vs,i+1,m,nd,h1,h2,hk=>by
  show bindC kindOf ((p,w) :: P.zip vs) m x=_;unfold bindC;exact Qw (i:=i) (kJ.mp nd).2 (by simpa using h1) (by simpa using h2) hk
def GP(N:List Str)(vs:List V):St:=vs.map some++jo (N.length-vs.length) none
def Ip(CX:Ej)(P:j8)(w:World)(K:jk)(mg:Str->Option Value)(base:Heap)(N:List Str)(qual:Str)(scope:Scope)(f:Addr)(cd:Value)(A:kK)(outer:List Env)(s:jh)(H:Hp)(E:XK):Cx where
 prog:=P
 w:=w
 K:=K
 mg:=mg
 base:=base
 A:=A.deeper (qU qual scope s.heap.objs.size f cd)
 N:=N
 s₀:=s
 H₀:=H
 env:=qU qual scope s.heap.objs.size f cd
 outer:=outer
 stack:=qU qual scope s.heap.objs.size f cd :: outer
 ex:=[]
 Cr:=true
 fn:=λ_=>true
 pn:=[]
 xe:=λe s'=>wpAny (model P w) (A.deeper (qU qual scope s.heap.objs.size f cd)) (leaving (qU qual scope s.heap.objs.size f cd) e) (λ_ s''=>CX outer H s E e s'') (λe' s''=>CX outer H s E e' s'') s'
theorem Rz{sc:Scope}{n:Nat}{x:Str}(h:sc.names.lookup x=some .cell):∃c,(cellsFrom n sc.names []).lookup x=some c:=by
 have q:=ub sc.names n [] (.inl h);exact pV.mp q
theorem YF {CX:Ej} {P:j8} {w:World} {K:jk} {mg:Str->Option Value} {base:Heap} {N ps:List Str} {qual:Str} {scope:Scope} {f:Addr} {cd:Value} {A:kK} {outer:List Env} {s s1:jh} {H:Hp} {E:XK} {us:List Value} {vs:List V}
  (S:Ay N ps scope) (hd:A.handled=none) (e0:Im P w K mg base A outer s H) (hl:vs.length=ps.length) (r:Ah vs us)
  (x:InCallC s s.heap.objs.size (bindL (qU qual scope s.heap.objs.size f cd).kindOf (ps.zip us) λ_=>none) (cellsFrom (s.heap.objs.size+1) scope.names []) (bindC (qU qual scope s.heap.objs.size f cd).kindOf (ps.zip us) λ_=>none) s1) :
  AI (Ip CX P w K mg base N qual scope f cd A outer s H E) [] (GP N vs) H s1:=by
 have hpl:ps.length<=N.length:=by have:=congrArg m7 S.pre; rw[kB] at this; omega
 obtain⟨h1,tk,rfl,hk⟩:=x.done;have noA:∀b:Addr,b∉(Ip CX P w K mg base N qual scope f cd A outer s H E).ex:=λb z=>absurd (show b∈([]:List Addr) from z) (by simp)
 refine⟨⟨e0.DV,S.kind,rfl,rfl,jj _,λy z c h1 h2=>?_,λy hy=>?_,λy c _ h=>?_,λ_=>hd,kK.frames_deeper e0.frames,.inr ⟨rfl,rfl⟩,λb z=>absurd z (noA b),e0.bs,e0.Fx,λb _ _=>noA b,λb z=>absurd z (noA b),e0.Ew,e0.Iy⟩,
  rfl,e0.bare,Un.Bx hk,⟨_,x.toInCall.ns,λi y v h1 h2 h3=>?_⟩,λy c h=>⟨_,x.cell y c h⟩,e0.hok.Bp (jj _),λy c h=>?_,λp hp=>absurd (show p∈([]:List (Addr×Obj)) from hp) (by simp),e0.hok.Bx hk,?_⟩
 ·exact name_of_addr x.apart (mF h1) (mF h2)
 ·have hy:scope.names.lookup y=some .cell\/scope.names.lookup y=some .free:=hy;rcases hy with hy | hy
  ·exact Rz hy
  ·exact absurd rfl (S.cQ _ (mF hy))
 ·exact tE (x.above y c (mF h))
 ·have hi:i<vs.length:=by
   unfold GP at h2;by_cases hi:i<vs.length
   ·exact hi
   ·rw[jy (by simpa using hi)] at h2;rw[oB] at h2;split at h2 <;> cases h2
  have ha:vs[i]?=some v:=by
   unfold GP at h2;rw[jM (by simpa using hi),ji] at h2;cases e:vs[i]? with
   | none=>rw[e] at h2; cases h2
   | some a=>rw[e] at h2; cases h2; rfl
  obtain⟨u,hu,rv⟩:=r.get ha;have hp:ps[i]?=some y:=by
   rw[<-S.pre,List.getElem?_take_of_lt (by omega)]; exact h1
  have ndP:ps.Nodup:=by rw[<-S.pre]; exact S.nd.sublist (List.take_sublist _ _)
  refine⟨u,rv,?_⟩;rcases S.Wj y (jd hp) with k | k
  ·exact .inl ⟨k,RE ndP hp hu k⟩
  ·obtain⟨c,e⟩:=Rz (n:=s.heap.objs.size+1) k;refine .inr ⟨.inl k,c,e,?_⟩;have q:=x.cell y c e;rw[Qw ndP hp hu (by show scope.names.lookup y≠_; rw[k]; decide)] at q;exact q
 ·exact e0.hok.Bp (tE (x.above y c (mF h)))
 ·unfold GP;show _=N.length;rw[jw,ja,oW];omega
theorem fT {CX:Ej} {P:j8} {w:World} {K:jk} {mg:Str->Option Value} {base:Heap} {k:Nat} {f:Addr} {name qual:Str} {params:Arguments} {body:List Stmt} {scope:Scope} {dV kV doc pm cdv ct oc:Value} {an od:Option Addr}
  {osl:Array (Option Value)} {N ps:List Str} {sp:Sp} (lk:K.lookup f=some ⟨oc,od,.func (mN name qual params body scope dV kV doc pm an cdv ct),osl⟩) (hcd:rC K cdv qual=true) (S:Ay N ps scope)
  (len:∀vs H Q E,sp vs H Q E->vs.length=ps.length)
  (hbody:∀(A:kK) (outer:List Env) (s:jh) (H:Hp) (vs:List V) (Q:VK) (E:XK),Cs k (A.deeper (qU qual scope s.heap.objs.size f cdv))->sp vs H Q E →
   ∃t,DC (Ip CX P w K mg base N qual scope f cdv A outer s H E) body t/\t { nx:=λ_ H'=>Q .BE H',rt:=Q } (GP N vs) H) :
  An P w K mg base CX (k+1) f (mN name qual params body scope dV kV doc pm an cdv ct) ps sp:=by
 refine⟨len,λA outer s H args us vs Q E hr e0 hb r hsp=>?_⟩;have hl:=len _ _ _ _ hsp;have KX:K.In s.heap:=e0.DV.QG.keeps λb o e=>(e0.bs b o e).1
 have lim:s.heap.NoLimit:=e0.DV.nolimit.keeps λb o e=>(e0.bs b o e).1
 have hkind:∀y∈ps.zip us,scope.names.lookup y.1=some .local\/(scope.names.lookup y.1=some .cell/\((cellsFrom (s.heap.objs.size+1) scope.names []).lookup y.1).isSome=true):=λ⟨n,v⟩ hy=>by
  rcases S.Wj n (qN hy).1 with q | q
  ·exact .inl q
  ·exact .inr ⟨q,ub _ _ _ (.inl q)⟩
 refine codeAny_call_function hr.depth (KX _ _ lk) rfl S.co S.ir rfl (PySem.W.codeRec_of KX hcd) (hb _ _ _ _ ?_);refine wpAny_newFunctionEnv_cells S.kind hkind λenv he s1 x=>?_
 subst he;refine⟨lim.keeps x.toInCall.keep,codeAny_func ?_⟩;obtain⟨t,ht,hq⟩:=hbody A outer s H vs Q E (hr.deeper _) hsp;have I:AI (Ip CX P w K mg base N qual scope f cdv A outer s H E) [] (GP N vs) H s1:=YF S hr.hd e0 hl r x;refine mj (ht [] s1 (GP N vs) H _ I hq) (λfl s' hs=>?_) λe s' hs=>hs
 have fin:∀{σ':St} {H':Hp} {v:V} {u:Value},AI (Ip CX P w K mg base N qual scope f cdv A outer s H E) [] σ' H' s'->Ax v u->Q v H'->CE outer P w H s Q u s' :=
  λ{σ' H' v u} J rv q=>⟨v,H',J.os,J.bare,J.base,J.hok,rv,q⟩
 cases fl with
 | ret u =>
  obtain⟨v,σ',H',J,rv,q⟩:=hs;exact fin J rv q
 | next =>
  obtain⟨σ',H',J,q⟩:=hs;exact fin (v:=V.BE) (u:=ph) J rfl q
 | brk =>
  obtain⟨_,_,_,q⟩:=hs;exact kY q
 | cont =>
  obtain⟨_,_,_,q⟩:=hs;exact kY q
section
variable {X:Cx} {x:Str} {p pos:Pos} {e:Expr} {es:List Expr} {t:TA} {id T:String} {r:List V->Hp->VK->Prop}
def QF(r:List V->Hp->VK->Prop)(t:TA):TE:=λσ H Q=>t σ H λvs H1=>r vs H1 Q
theorem A3 (hc:C6 X (.builtin id) r) (hg:Gl X x) (hm:X.mg x=none) (hv:k7 x=some (.builtin id)) (ha:PA X (e :: es) t) (hn:x≠"__name__":=by decide) (hdb:(x == ("__debug__":Str))=false:=by decide)
  (he:kc (e :: es) X.env=(false,eval e X.env) :: kc es X.env:=by rfl) (hpl:(nh pos (kc es X.env)).any (·.1)=false:=by rfl):PE X (.Call (.Name x p) (e :: es) [] pos) (QF r t):=by
 intro pins s σ H Q I h;refine mO (EG I hg hm hv ?_ hn hdb);exact PyProof.Rows.callWith_builtin1 (Ag (ha pos pins s σ H _ I h) λus s1 ⟨vs,H1,I1,r1,q1⟩=>hc pins s1 σ H1 vs us Q I1 r1 q1) he hpl
theorem CP (hc:C6 X (.type T) r) (hg:Gl X x) (hm:X.mg x=none) (hv:k7 x=some (.type T)) (ha:PA X (e :: es) t) (hn:x≠"__name__":=by decide) (hdb:(x == ("__debug__":Str))=false:=by decide)
  (he:kc (e :: es) X.env=(false,eval e X.env) :: kc es X.env:=by rfl) (hpl:(nh pos (kc es X.env)).any (·.1)=false:=by rfl):PE X (.Call (.Name x p) (e :: es) [] pos) (QF r t):=by
 intro pins s σ H Q I h;refine mO (EG I hg hm hv ?_ hn hdb);exact kz (Ag (ha pos pins s σ H _ I h) λus s1 ⟨vs,H1,I1,r1,q1⟩=>hc pins s1 σ H1 vs us Q I1 r1 q1) he hpl
end
end L2
namespace HT
open PySem PyProof.Rows
section
open PySem.SeqAt
open PySem.AutoSeq1 (wpAny_loadPart')
open PySem.MeetsSeq PySem.MeetsSeq2 PySem.MeetsSeq3
end
section
variable {prog:j8} {w:World} {A:kK} {E:Value->jh->Prop} {s:jh}
theorem bP {t b:Addr} {vs ws:List Value} {Q:Value->jh->Prop} (ht:IsTup s.heap t vs.toArray) (hb:IsTup s.heap b ws.toArray) (hv:vs≠[])
  (h1:ws=[]->Q (.ref t) s) (h2:ws≠[]->Q (.ref s.heap.objs.size) { s with heap:=s.heap.push { cls:=.type "tuple",data:=.seq (vs++ws).toArray } })
  (hsz:vs.length+ws.length<=jR):wpAny (model prog w) A (mS .Add (.ref t) (.ref b)) Q E s:=by
 obtain⟨⟨cls,dd,data,sl⟩,ho,hc,n,hd⟩:=id ht;obtain⟨⟨cls2,dd2,data2,sl2⟩,ho2,hc2,n2,hd2⟩:=id hb;simp only at hc hd hc2 hd2;subst hc hd hc2 hd2;have e:vs.toArray++ws.toArray=(vs++ws).toArray:=by simp
 by_cases hw:ws=[]
 ·exact tM ⟨_,ho,rfl⟩ ⟨_,ho2,rfl⟩ qE r9 oQ oE (oo _ _)
   (tuple_addW1 t b vs.toArray ws.toArray n n2 dd dd2 sl sl2 (by simpa using hv) (by simp[hw])) ⟨ho,ho2,h1 hw⟩
 ·refine tM ⟨_,ho,rfl⟩ ⟨_,ho2,rfl⟩ qE r9 oQ oE (oo _ _)
   (tuple_addW2 t b vs.toArray ws.toArray n n2 dd dd2 sl sl2 (by simpa using hv) (by simpa using hw) (by rw[jJ,jJ]; exact hsz)) ⟨ho,ho2,?_⟩
  rw[e];exact h2 hw
def Ak(n d:Nat):Option Int->Nat
 | none=>d
 | some v=>if v<0 then (v+(n:Int)).toNat else min v.toNat n
theorem cO(n d:Nat)(hd:d<=n)(o:Option Int):Ak n d o<=n:=by
 cases o with
 | none=>exact hd
 | some v =>
  show(if v<0 then (v+(n:Int)).toNat else min v.toNat n)<=n;by_cases hv:v<0
  ·rw[jq hv]; omega
  ·rw[jm hv]; exact Nat.min_le_right _ _
theorem So(v:Int)(n d:Nat):(if v<0 then max (v+(n:Int)) 0 else min v (n:Int))=((Ak n d (some v):Nat):Int):=by
 show(if v<0 then max (v+(n:Int)) 0 else min v (n:Int))=(((if v<0 then (v+(n:Int)).toNat else min v.toNat n):Nat):Int);by_cases hv:v<0
 ·simp only[jq hv]; omega
 ·simp only[jm hv]; omega
theorem Xk(lo hi:Option Int)(n:Nat):pJ lo hi 1 (n:Int)=(((Ak n 0 lo:Nat):Int),((Ak n n hi:Nat):Int)):=by
 have h1:¬((1:Int)<0):=by omega
 unfold pJ;simp only[h1,if_false];refine Prod.ext ?_ ?_
 ·cases lo with
  | none=>rfl
  | some v=>exact So v n 0
 ·cases hi with
  | none=>rfl
  | some v=>exact So v n n
theorem X5(i j:Nat):nT (i:Int) (j:Int) 1=j-i:=by
 unfold nT;have h1:(1:Int) > 0:=by omega
 simp only[h1,if_true,Int.ediv_one];split <;> omega
theorem QQ{v:Value}{o:Option Int}{Q:Option Int->jh->Prop}(p:qL v o)(h:Q o s):wpAny (model prog w) A (kd.Slice.slicePartIndex v) Q E s:=by
 cases p with
 | none=>exact slicePart_none h
 | int i t=>exact slicePart_int h
theorem QL {sl:Addr} {vl vu:Value} {lo hi:Option Int} {n:Nat} {Q:Int×Int×Nat->jh->Prop} (hs:s.heap.IsSliceOf sl vl vu .none) (pl:qL vl lo) (pu:qL vu hi)
  (h:Q (((Ak n 0 lo:Nat):Int),1,Ak n n hi-Ak n 0 lo) s):wpAny (model prog w) A (rT (.ref sl) (pure (n:Int))) Q E s:=by
 obtain⟨os,hos,hcs,hds⟩:=id hs;unfold rT kd.Slice.sliceFields;refine jf (jf (l8 hos hds (x:=vl) rfl (jf (l8 hos hds (x:=vu) rfl (jf (l8 hos hds (x:=.none) rfl (jS ?_)))))));refine jf (slicePart_none ?_);show wpAny _ _ (if ((1:Int) == 0)=true then _ else _) _ _ s;rw[jm (by decide)];refine jf (QQ pl (jf (QQ pu (jf (jS ?_)))));show wpAny _ _ (match pJ lo hi 1 (n:Int) with | (lo,hi)=>pure (lo,(1:Int),nT lo hi 1)) _ _ s;rw[Xk lo hi n];show wpAny _ _ (pure (((Ak n 0 lo:Nat):Int),(1:Int),nT ((Ak n 0 lo:Nat):Int) ((Ak n n hi:Nat):Int) 1)) _ _ s;rw[X5];exact jS h
theorem ZM(xs:Array Value)(i k:Nat):((ju k).filterMap λ(m:Nat)=>xs[((i:Int)+(m:Int)*1).toNat]?).toArray=((xs.toList.drop i).take k).toArray:=by
 have e:(λ(m:Nat)=>xs[((i:Int)+(m:Int)*1).toNat]?)=λm=>xs[i+m]?:=by
  funext m
  have:((i:Int)+(m:Int)*1).toNat=i+m:=by omega
  rw[this]
 rw[e]
 have:=pick_run xs i k
 rw[List.filterMap_map] at this;have e2:((λx=>xs[x]?) ∘ λx=>i+x)=λm=>xs[i+m]?:=rfl
 rw[e2] at this;rw[this]
theorem XC {t sl:Addr} {items:Array Value} {vl vu:Value} {lo hi:Option Int} {Q:Value->jh->Prop} (ht:IsTup s.heap t items) (hs:s.heap.IsSliceOf sl vl vu .none) (pl:qL vl lo) (pu:qL vu hi)
  (hw:¬(Ak items.size 0 lo=0/\Ak items.size items.size hi=items.size))
  (h:Q (.ref s.heap.objs.size) { s with heap:=s.heap.push { cls:=.type "tuple",data:=.seq ((items.toList.drop (Ak items.size 0 lo)).take (Ak items.size items.size hi-Ak items.size 0 lo)).toArray } })
  (hsz:items.size<=jR):wpAny (model prog w) A (qg (.ref t) (.ref sl)) Q E s:=by
 have htake:sizeOk (.seq ((items.toList.drop (Ak items.size 0 lo)).take (Ak items.size items.size hi-Ak items.size 0 lo)).toArray):=by
  show((items.toList.drop (Ak items.size 0 lo)).take (Ak items.size items.size hi-Ak items.size 0 lo)).toArray.size<=jR;rw[jJ,kB,kA,mU];omega
 have hj:Ak items.size items.size hi<=items.size:=cO _ _ (jj _) hi;obtain⟨os,hos,hcs,hds⟩:=id hs;have hTs:s.TypeIs (.ref sl) "slice":=⟨os,hos,hcs⟩;unfold qg
 try with_reducible refine qC ?_
 first | refine jf (jS ?_) | skip
 refine jf (vX ht.typeIs (by decide) ?_);refine jf (mR (name:=p7 "__getitem__") ht.typeIs lQ
  (ou lQ ht.typeIs uZ ?_ (vD _ _)))
 show wpAny _ _ (rV (.ref t) >>= _) _ _ s;refine jf (tupleItemsOf_ ht ?_);refine jf (tN hTs ?_);rw[jq (by decide)];refine jf (QL hs pl pu ?_);have hno:¬((((Ak items.size 0 lo:Nat):Int) == 0 && (1:Int) == 1 && (Ak items.size items.size hi-Ak items.size 0 lo) == items.size)=true):=by
  intro q;rw[mX,mX] at q;have q1:((Ak items.size 0 lo:Nat):Int)=0:=eq_of_beq q.1.1;have q2:Ak items.size items.size hi-Ak items.size 0 lo=items.size:=eq_of_beq q.2;exact hw ⟨by omega,by omega⟩
 show wpAny _ _ (if (((Ak items.size 0 lo:Nat):Int) == 0 && (1:Int) == 1 && (Ak items.size items.size hi-Ak items.size 0 lo) == items.size)=true then _ else _) _ _ s;rw[jm hno,ZM]
 first
  | exact jf (m:=oa _) (nv (jS ⟨_,rfl,jS h⟩) htake)
  | exact jf (m:=oa _) (nv (jf (jS (jS ⟨_,rfl,jS h⟩))) htake)
  | exact jf (jf (m:=oa _) (nv (jS (jS ⟨_,rfl,jS h⟩)) htake))
  | exact jf (jf (m:=oa _) (nv (jS ⟨_,rfl,jS h⟩) htake))
end
end HT
namespace L2
open PySem PySem.Spec PyProof.Rows
abbrev TO:=St->Hp->(Option Int->Hp->Prop)->Prop
def PO(X:Cx)(e:Option Expr)(t:TO):Prop :=
 ∀(pins:List (Addr×Obj)) (s:jh) (σ:St) (H:Hp) (Q:Option Int->Hp->Prop),AI X pins σ H s->t σ H Q →
  wpAny (model X.prog X.w) X.A (evalPart e X.env) (λu s'=>∃o H',AI X pins σ H' s'/\qL u o/\Q o H') X.xe s
def Ja:TO:=λ_ H Q=>Q none H
def VU(t:TE):TO:=λσ H Q=>t σ H λx H1=>∃i,x=.int i/\Q (some i) H1
theorem Qc{ns:List Int}:∀{us:List Value},Ah (ns.map V.int) us->rA us ns:=by
 induction ns with
 | nil=>intro us r; rw[kR] at r; cases r; exact .nil
 | cons n ns ih =>
  intro us r;rw[jx] at r;cases r with
  | cons r1 r2 =>
   obtain⟨t,e⟩:=r1;subst e;exact .cons n t (ih r2)
section
variable {X:Cx} {e:Expr} {te:TE} {lo hi:Option Expr} {tl th:TO} {pos p2:Pos}
theorem EO:PO X none Ja:=by
 intro pins s σ H Q I h;rw[evalPart_none];exact jS ⟨none,H,I,.none,h⟩
theorem D0(h:PE X e te):PO X (some e) (VU te):=by
 intro pins s σ H Q I hw;rw[evalPart_some];refine Ag (h pins s σ H _ I hw) λu s1 ⟨x,H1,I1,r1,q1⟩=>?_
 obtain⟨i,rfl,q⟩:=q1;obtain⟨t,rfl⟩:=r1;exact⟨some i,H1,I1,.int i t,q⟩
def FV(X:Cx)(r:V->Option Int->Option Int->Hp->VK->Prop):Prop :=
 ∀(pins:List (Addr×Obj)) (s:jh) (σ:St) (H:Hp) (x:V) (v vl vu:Value) (lo hi:Option Int) (sl:Addr) (Q:VK),AI X pins σ H s->Ax x v->s.heap.IsSliceOf sl vl vu .none->qL vl lo->qL vu hi->r x lo hi H Q →
  ∃T id,typeLookup (.type T) "__getitem__" = pure (some (.builtin id))/\s.TypeIs v T/\wpAny (model X.prog X.w) X.A (qg v (.ref sl)) (EP X pins σ Q) X.xe s
theorem FV.or{r r':V->Option Int->Option Int->Hp->VK->Prop}(h:FV X r)(h':FV X r'):FV X (λx lo hi H Q=>r x lo hi H Q\/r' x lo hi H Q):=by
 intro pins s σ H x v vl vu lo hi sl Q I rx hs pl pu q;rcases q with q | q
 ·exact h pins s σ H x v vl vu lo hi sl Q I rx hs pl pu q
 ·exact h' pins s σ H x v vl vu lo hi sl Q I rx hs pl pu q
def Wi(r:V->Option Int->Option Int->Hp->VK->Prop)(te:TE)(tl th:TO):TE:=λσ H Q=>te σ H λx H1=>tl σ H1 λl H2=>th σ H2 λu H3=>r x l u H3 Q
theorem EC{r:V->Option Int->Option Int->Hp->VK->Prop}(hr:FV X r)(he:PE X e te)(hl:PO X lo tl)(hu:PO X hi th):PE X (.Subscript e (.Slice lo hi none p2) pos) (Wi r te tl th):=by
 intro pins s σ H Q I h;refine wY (Ag (he pins s σ H _ I h) λv s1 ⟨x,H1,I1,r1,q1⟩=>?_);refine wpAny_Slice (Ag (hl pins s1 σ H1 _ I1 q1) λvl s2 ⟨l,H2,I2,pl,q2⟩=>Ag (hu pins s2 σ H2 _ I2 q2) λvu s3 ⟨u,H3,I3,pu,q3⟩=>?_);rw[evalPart_none];refine jS ?_;have I4:AI X pins σ H3 { s3 with heap:=s3.heap.push { cls:=.type "slice",data:=.fields #[vl,vu,.none] } }:=I3.Bx (t':=s3.toks) λb ob q=>jt _ q
 obtain⟨T,id,hT,ht,hg⟩:=hr pins { s3 with heap:=s3.heap.push { cls:=.type "slice",data:=.fields #[vl,vu,.none] } } σ H3 x v vl vu l u s3.heap.objs.size Q I4 r1 (Heap.IsSliceOf.new ..) pl pu q3;show wpAny (model X.prog X.w) X.A (uP e (.Slice lo hi none p2) v (.ref s3.heap.objs.size)) (EP X pins σ Q) X.xe { s3 with heap:=s3.heap.push { cls:=.type "slice",data:=.fields #[vl,vu,.none] } };exact tail_any (ops:=[.ref s3.heap.objs.size,v]) ht hT hg (by with_unfolding_all rfl)
def C8(xs:List V)(lo hi:Option Int):List V:=(xs.drop (HT.Ak xs.length 0 lo)).take (HT.Ak xs.length xs.length hi-HT.Ak xs.length 0 lo)
theorem QP(xs:List V)(lo hi:Option Int):(C8 xs lo hi).length<=xs.length:=by
 unfold C8;rw[kB,kA];omega
def Pd(K:jk):V->Option Int->Option Int->Hp->VK->Prop:=λx lo hi H Q=>∃a xs,x=.ref a/\AK K H a xs /\
 ¬(HT.Ak xs.length 0 lo=0/\HT.Ak xs.length xs.length hi=xs.length)/\∀p,H p=none->Q (.ref p) (AH H p (.AG (C8 xs lo hi)))
theorem Kw:FV X (Pd X.K):=by
 intro pins s σ H x v vl vu lo hi sl Q I rx hs pl pu h;obtain⟨a,xs,rfl,hx,hw,q⟩:=h;cases rx;obtain⟨its,r,ht,hz⟩:=I.tuple hx;have hlen:its.toArray.size=xs.length:=by rw[jJ]; exact r.length.symm
 refine⟨"tuple",_,lQ.lookup,ht.typeIs,?_⟩;refine HT.XC ht hs pl pu (by rw[hlen]; exact hw) ?_ (by rw[hlen]; exact hz);rw[hlen];refine⟨.ref s.heap.objs.size,_,I.De (t':=s.toks) (o:=.AG (C8 xs lo hi)) (λb ob q=>jt _ q) (jj _) ?_,rfl,q _ (I.hok.Bp (jj _))⟩;exact⟨jW (QP xs lo hi) hz,_,(r.drop (HT.Ak xs.length 0 lo)).take (HT.Ak xs.length xs.length hi-HT.Ak xs.length 0 lo),xf _ _,_,jY _ rfl,rfl⟩
def Vy(K:jk):R2:=λx y H Q=>∃a b xs ys,x=.ref a/\y=.ref b/\AK K H a xs/\AK K H b ys/\xs≠[]/\xs.length+ys.length<=jR /\
 (ys=[]->Q (.ref a) H)/\(ys≠[]->∀p,H p=none->Q (.ref p) (AH H p (.AG (xs++ys))))
theorem Ah.Kh{xs:List V}{us:List Value}(r:Ah xs us):us=[]↔xs=[]:=by
 cases r with
 | nil=>simp
 | cons _ _=>simp
theorem L3:Bk X (mS .Add) (Vy X.K):=by
 intro pins s σ H x y v u Q I rx ry h;obtain⟨a,b,xs,ys,rfl,rfl,ha,hb,hx,hz,q1,q2⟩:=h;cases rx;cases ry;obtain⟨its,r1,p1,_⟩:=I.tuple ha;obtain⟨its2,r2,p2,_⟩:=I.tuple hb;refine HT.bP p1 p2 (λz=>hx (r1.Kh.mp z)) (λz=>⟨.ref a,H,I,rfl,q1 (r2.Kh.mp z)⟩) (λz=>?_) (by rw[<-r1.length,<-r2.length]; exact hz);refine⟨.ref s.heap.objs.size,_,I.De (t':=s.toks) (o:=.AG (xs++ys)) (λb ob q=>jt _ q) (jj _) ?_,rfl,q2 (λw=>z (r2.Kh.mpr w)) _ (I.hok.Bp (jj _))⟩;exact⟨by rw[jw]; exact hz,_,r1.append r2,xf _ _,_,jY _ rfl,rfl⟩
def D9(n:Nat)(i:Int):Option Nat:=if 0<=i then (if i<n then some i.toNat else none) else if -(n:Int)<=i then some (i+n).toNat else none
def Bv{α:Type}(xs:List α)(i:Int):Option α:=(D9 xs.length i).bind λj=>xs[j]?
theorem OI{n:Nat}{i:Int}{j:Nat}(h:D9 n i=some j):vF i n=some j/\j<n/\-(n:Int)<=i/\i<n:=by
 unfold D9 at h;by_cases h0:0<=i
 ·rw[jq h0] at h;by_cases h1:i<n
  ·rw[jq h1] at h;have e:i.toNat=j:=jL h;exact⟨by rw[v8 h0 h1,e],by omega,by omega,h1⟩
  ·rw[jm h1] at h; cases h
 ·rw[jm h0] at h;by_cases h1:-(n:Int)<=i
  ·rw[jq h1] at h;have e:(i+n).toNat=j:=jL h;exact⟨by rw[vG (by omega) h1,e],by omega,h1,by omega⟩
  ·rw[jm h1] at h; cases h
theorem Tc{α:Type}{xs:List α}{i:Int}{v:α}(h:Bv xs i=some v):∃j,vF i xs.length=some j/\xs[j]?=some v/\j<xs.length/\-(xs.length:Int)<=i/\i<xs.length:=by
 unfold Bv at h;cases e:D9 xs.length i with
 | none=>rw[e] at h; cases h
 | some j =>
  rw[e] at h;obtain⟨h1,h2,h3,h4⟩:=OI e;exact⟨j,h1,h,h2,h3,h4⟩
theorem Bc{α:Type}{xs:List α}{j:Nat}{v:α}(h:xs[j]?=some v):Bv xs (j:Int)=some v:=by
 have hj:j<xs.length:=(jc.mp h).1;have e:D9 xs.length (j:Int)=some j:=by
  unfold D9;rw[jq (by omega),jq (by omega)]; simp
 unfold Bv; rw[e]; exact h
def OP(b:Expr):Prop:=∀o i,ug b false o i=operate [o,i] (qg o i)
def Gi(X:Cx)(r:R2):Prop :=
 ∀(value slice:Expr) (pins:List (Addr×Obj)) (s:jh) (σ:St) (H:Hp) (x y:V) (v u:Value) (Q:VK),AI X pins σ H s->Ax x v->Ax y u->r x y H Q →
  ug slice false v u=operate [v,u] (qg v u)->wpAny (model X.prog X.w) X.A (uP value slice v u) (EP X pins σ Q) X.xe s
def KG(X:Cx)(id:String)(r:V->List V->Hp->VK->Prop):Prop :=
 ∀(pins:List (Addr×Obj)) (s:jh) (σ:St) (H:Hp) (x:V) (xs:List V) (v:Value) (us:List Value) (Q:VK),AI X pins σ H s->Ax x v->Ah xs us->r x xs H Q →
  wpAny (model X.prog X.w) X.A (call (.builtin id) (v :: us)) (EP X pins σ Q) X.xe s
variable {a b:Expr} {ta tb:TE}
theorem Gi.or{r r':R2}(h:Gi X r)(h':Gi X r'):Gi X (λx y H Q=>r x y H Q\/r' x y H Q):=by
 intro value slice pins s σ H x y v u Q I rx ry q hs;rcases q with q | q
 ·exact h value slice pins s σ H x y v u Q I rx ry q hs
 ·exact h' value slice pins s σ H x y v u Q I rx ry q hs
theorem KG.or{id:String}{r r':V->List V->Hp->VK->Prop}(h:KG X id r)(h':KG X id r'):KG X id (λx xs H Q=>r x xs H Q\/r' x xs H Q):=by
 intro pins s σ H x xs v us Q I rx rs q;rcases q with q | q
 ·exact h pins s σ H x xs v us Q I rx rs q
 ·exact h' pins s σ H x xs v us Q I rx rs q
theorem A5{r:R2}(hr:Gi X r)(ha:PE X a ta)(hb:PE X b tb)(hs:OP b):PE X (.Subscript a b pos) (Bg r ta tb):=by
 intro pins s σ H Q I h;exact wY (Pr ha hb I h λv u s2 x y H2 I2 rx ry q=>hr a b pins s2 σ H2 x y v u Q I2 rx ry q (hs _ _))
inductive WX(K:jk)(x y:V)(H:Hp)(Q:VK):Prop
 | mk (p:Addr) (xs:List V) (i:Int) (v:V) (a:x=.ref p) (b:y=.int i) (c:AR K H p xs) (d:Bv xs i=some v) (q:Q v H):WX K x y H Q
inductive WY(K:jk)(x y:V)(H:Hp)(Q:VK):Prop
 | mk (p:Addr) (xs:List V) (i:Int) (v:V) (a:x=.ref p) (b:y=.int i) (c:AK K H p xs) (d:Bv xs i=some v) (q:Q v H):WY K x y H Q
def GZ(K:jk):R2:=λx y H Q=>WX K x y H Q
def FJ(K:jk):R2:=λx y H Q=>WY K x y H Q
theorem CL:Gi X (GZ X.K):=by
 intro value slice pins s σ H x y v u Q I rx ry h hs;obtain⟨p,xs,i,z,rfl,rfl,hq,he,q⟩:=h;cases rx;obtain⟨t,rfl⟩:=ry;obtain⟨its,r,pl,hz⟩:=I.list hq;obtain⟨j,h1,h2,h3,h4,h5⟩:=Tc he;obtain⟨w,ew,rw'⟩:=r.get h2;have hl:=r.length;have hn:=MB;have fin:EP X pins σ Q w s:=⟨z,H,I,rw',q⟩;by_cases h0:0<=i
 ·have hj:i.toNat=j:=by
   rw[v8 h0 h5] at h1;exact jL h1
  exact item_listR pl.isList h0 (by omega) (by rw[hj]; simpa using ew) fin hs
 ·have hj:(i+(its.toArray.size:Int)).toNat=j:=by
   rw[vG (by omega) h4] at h1;rw[jJ,<-hl];exact jL h1
  exact ue (x:=w) pl.isList.typeIs vV.lookup
   (wpAny_getItem_list_neg (Q:=λr s'=>r=w/\EP X pins σ Q r s') pl.isList (by omega) (by rw[jJ] <;> omega) (by omega) (by rw[hj]; simpa using ew) ⟨rfl,fin⟩) hs
theorem Bm:Gi X (FJ X.K):=by
 intro value slice pins s σ H x y v u Q I rx ry h hs;obtain⟨p,xs,i,z,rfl,rfl,hq,he,q⟩:=h;cases rx;obtain⟨t,rfl⟩:=ry;obtain⟨its,r,pl,hz⟩:=I.tuple hq;obtain⟨j,h1,h2,h3,h4,h5⟩:=Tc he;obtain⟨w,ew,rw'⟩:=r.get h2;have hl:=r.length;have hn:=MB;have fin:EP X pins σ Q w s:=⟨z,H,I,rw',q⟩;exact ue (x:=w) pl.typeIs slot_tuple_getitem.lookup
  (getItem_tuple (j:=j) (Q:=λr s'=>r=w/\EP X pins σ Q r s') pl (by omega) (by omega) (by rw[jJ,<-hl]; exact h1) (by simpa using ew) ⟨rfl,fin⟩) hs
theorem Xn(its:List Value)(n j:Nat)(u:Value):sV (·.setIfInBounds j u) { cls:=.type "list",data:=.seq its.toArray n }={ cls:=.type "list",data:=.seq (its.set j u).toArray n }:=by
 simp[sV]
theorem AI.AD{pins:List (Addr×Obj)}{σ:St}{H:Hp}{s:jh}{p:Addr}{xs:List V}(I:AI X pins σ H s)(h:H p=some (.AD xs)):
  ∃(its:List Value) (n:Nat),Ah xs its/\s.heap.get? p=some { cls:=.type "list",data:=.seq its.toArray n }/\xs.length<=jR:=by
 obtain⟨z,its,n,r,e⟩:=I.hok p _ h;exact⟨its,n,r,e,z⟩
theorem AI.dY {pins:List (Addr×Obj)} {σ:St} {H:Hp} {s:jh} {p:Addr} {xs ys:List V} {its its':List Value} {n n':Nat} {f:Obj->Obj} (I:AI X pins σ H s) (h:H p=some (.AD xs))
  (ho:s.heap.get? p=some { cls:=.type "list",data:=.seq its.toArray n }) (hf:f { cls:=.type "list",data:=.seq its.toArray n }={ cls:=.type "list",data:=.seq its'.toArray n' }) (r:Ah ys its') (hz:ys.length<=jR) (t:Nat) :
  AI X pins σ (AH H p (.AD ys)) { s with heap:=s.heap.update p f,toks:=t }:=by
 have e:(s.heap.update p f).get? p=some { cls:=.type "list",data:=.seq its'.toArray n' }:=by
  rw[qH f ho (by rw[hf] <;> rfl),hf]
 refine I.IT (x:=p) (e:=p) (by rw[h]; trivial) (.inl rfl) (λb u hb q=>(qt _ _ (lF hb)).trans q) ⟨_,e⟩ ?_;exact⟨hz,its',n',r,e⟩
inductive Vw(o i v:V)(H:Hp)(Q:Hp->Prop):Prop
 | mk (p:Addr) (xs:List V) (k:Int) (j:Nat) (e1:o=.ref p) (e2:i=.int k) (h:H p=some (.AD xs)) (x:D9 xs.length k=some j) (q:Q (AH H p (.AD (xs.set j v)))):Vw o i v H Q
def VO:V->V->V->Hp->(Hp->Prop)->Prop:=λo i v H Q=>Vw o i v H Q
theorem E8:WL X VO:=by
 intro pins s σ H o i v ov iv u Q I ro ri rv h;obtain⟨p,xs,k,j,rfl,rfl,hp,hj,q⟩:=h;cases ro;obtain⟨t,rfl⟩:=ri;obtain⟨its,n,r,ho,hz⟩:=I.AD hp;obtain⟨h1,h2,h3,h4⟩:=OI hj;have hl:=r.length;have hn:=MB;have I':AI X pins σ (AH H p (.AD (xs.set j v))) { s with heap:=s.heap.update p (sV (·.setIfInBounds j u)) } :=
  I.dY hp ho (Xn its n j u) (r.set rv j) (by rw[mI]; exact hz) s.toks
 by_cases h0:0<=k
 ·have hk:k.toNat=j:=by
   rw[v8 h0 h4] at h1;exact jL h1
  exact PySem.W.ki_setAt ho h0 (by omega) (by rw[jJ,<-hl]; exact h4) (by rw[hk]; exact⟨_,I',q⟩)
 ·have hk:(k+(its.toArray.size:Int)).toNat=j:=by
   rw[vG (by omega) h3] at h1;rw[jJ,<-hl];exact jL h1
  exact PySem.W.ki_setBack ho (by omega) (by rw[jJ,<-hl]; exact h3) (by omega) (by rw[hk]; exact⟨_,I',q⟩)
theorem XO(lo hi:Option Int)(n:Nat):(pI lo hi none n).1=((HT.Ak n 0 lo:Nat):Int)/\(pI lo hi none n).2.1=((HT.Ak n n hi:Nat):Int)/\(pI lo hi none n).2.2=1:=by
 refine⟨?_,?_,rfl⟩
 ·cases lo with
  | none=>simp[pI,HT.Ak]
  | some i =>
   simp only[pI,HT.Ak,wz,show(1:Int) > 0 by decide,if_true];by_cases h:i<0
   ·simp only[h,if_true] <;> omega
   ·simp only[h,if_false] <;> omega
 ·cases hi with
  | none=>simp[pI,HT.Ak]
  | some i =>
   simp only[pI,HT.Ak,wz,show(1:Int) > 0 by decide,if_true];by_cases h:i<0
   ·simp only[h,if_true] <;> omega
   ·simp only[h,if_false] <;> omega
theorem XF(its:List Value)(lo hi:Option Int):slicePick its.toArray lo hi none=((its.drop (HT.Ak its.length 0 lo)).take (HT.Ak its.length its.length hi-HT.Ak its.length 0 lo)).toArray:=by
 obtain⟨h1,h2,h3⟩:=XO lo hi its.toArray.size;unfold slicePick;rw[h1,h2,h3];simp only[sliceRange_one,pick_run,jJ] <;> rfl
inductive V7(K:jk)(x:V)(lo hi:Option Int)(H:Hp)(Q:VK):Prop
 | mk (a:Addr) (xs:List V) (e:x=.ref a) (s:AR K H a xs) (q:∀p,H p=none->Q (.ref p) (AH H p (.AD (C8 xs lo hi)))):V7 K x lo hi H Q
def WD(K:jk):V->Option Int->Option Int->Hp->VK->Prop:=λx lo hi H Q=>V7 K x lo hi H Q
theorem L6:FV X (WD X.K):=by
 intro pins s σ H x v vl vu lo hi sl Q I rx hs pl pu h;obtain⟨a,xs,rfl,hx,q⟩:=h;cases rx;obtain⟨its,r,ht,hz⟩:=I.list hx;have hlen:=r.length;refine⟨"list",_,vV.lookup,ht.isList.typeIs,?_⟩;refine wpAny_getItem_list_slice ht.isList hs pl pu .none (by simp) ?_ (by rw[jJ] <;> omega);rw[XF,<-hlen];refine⟨.ref s.heap.objs.size,_,I.De (t':=s.toks) (o:=.AD (C8 xs lo hi)) (λb ob q=>jt _ q) (jj _) ?_,rfl,q _ (I.hok.Bp (jj _))⟩;exact⟨jW (QP xs lo hi) hz,_,0,(r.drop (HT.Ak xs.length 0 lo)).take (HT.Ak xs.length xs.length hi-HT.Ak xs.length 0 lo),jY _ rfl⟩
def GO:V->Bool
 | .BE=>true
 | .bl _=>true
 | .int _=>true
 | .str _=>true
 | _=>false
def Gr:V->V->Bool
 | .BE,.BE=>true
 | .bl a,.bl b=>a == b
 | .bl a,.int b=>(if a then 1 else 0) == b
 | .int a,.bl b=>a == (if b then 1 else 0)
 | .int a,.int b=>a == b
 | .str a,.str b=>a == b
 | _,_=>false
theorem dN{A:kK}{s:jh}{y x:V}{u v:Value}(ry:Ax y u)(rx:Ax x v)(fy:GO y=true)(fx:GO x=true):lG A s u v (Gr y x):=by
 cases y with
 | BE =>
  cases ry;cases x with
  | BE=>cases rx; exact lG.same _
  | bl b=>cases rx; exact lG.none_bool b
  | int b=>obtain⟨t,rfl⟩:=rx; exact lG.none_int b t
  | str b=>obtain⟨t,rfl⟩:=rx; exact lG.none_str b t
  | _=>exact absurd (show false=true from fx) j0
 | bl a =>
  cases ry;cases x with
  | BE=>cases rx; exact lG.bool_none a
  | bl b=>cases rx; exact lG.bool_bool a b
  | int b=>obtain⟨t,rfl⟩:=rx; exact lG.bool_int a b t
  | str b=>obtain⟨t,rfl⟩:=rx; exact lG.bool_str a b t
  | _=>exact absurd (show false=true from fx) j0
 | int a =>
  obtain⟨t',rfl⟩:=ry;cases x with
  | BE=>cases rx; exact lG.int_none a t'
  | bl b=>cases rx; exact lG.int_bool a t' b
  | int b=>obtain⟨t,rfl⟩:=rx; exact lG.int_int a t' b t
  | str b=>obtain⟨t,rfl⟩:=rx; exact vz a t' b t
  | _=>exact absurd (show false=true from fx) j0
 | str a =>
  obtain⟨t',rfl⟩:=ry;cases x with
  | BE=>cases rx; exact lG.str_none a t'
  | bl b=>cases rx; exact lG.str_bool a t' b
  | int b=>obtain⟨t,rfl⟩:=rx; exact vA a t' b t
  | str b=>obtain⟨t,rfl⟩:=rx; exact lG.str_str a t' b t
  | _=>exact absurd (show false=true from fx) j0
 | _=>exact absurd (show false=true from fy) j0
def Gq(x:V)(u:Value):Bool:=match u with
 | .none=>Gr .BE x
 | .bool b=>Gr (.bl b) x
 | .int i _=>Gr (.int i) x
 | .str z _=>Gr (.str z) x
 | _=>false
theorem Tr{x y:V}{u:Value}(r:Ax y u)(f:GO y=true):Gq x u=Gr y x:=by
 cases y with
 | BE=>cases r; rfl
 | bl b=>cases r; rfl
 | int i=>obtain⟨t,rfl⟩:=r; rfl
 | str z=>obtain⟨t,rfl⟩:=r; rfl
 | _=>exact absurd (show false=true from f) j0
theorem OK{x:V}:∀{xs:List V} {us:List Value},Ah xs us->xs.all GO=true->us.any (Gq x)=xs.any λy=>Gr y x
 | _,_,.nil,_=>rfl
 | y :: xs,u :: us,.cons r t,f=>by
  rw[uM,mX] at f;rw[pA,pA,Tr r f.1,OK t f.2]
theorem Nt{A:kK}{s:jh}{x:V}{v:Value}(rx:Ax x v)(fx:GO x=true):∀{xs:List V} {us:List Value},Ah xs us->xs.all GO=true->∀u∈us,lG A s u v (Gq x u)
 | _,_,.nil,_=>λu hu=>by cases hu
 | y :: xs,u :: us,.cons r t,f=>λu' hu=>by
  rw[uM,mX] at f;rcases jK.mp hu with rfl | hu
  ·rw[Tr r f.1]; exact dN r rx f.1 fx
  ·exact Nt rx fx t f.2 u' hu
def NB(x:V)(xs:List V):Bool:=xs.any λy=>Gr y x
def ij(K:jk)(neg:Bool):R2:=λx y H Q=>∃p xs,y=.ref p/\(AR K H p xs\/AK K H p xs)/\GO x=true/\xs.all GO=true/\Q (.bl (if neg then !NB x xs else NB x xs)) H
theorem YV:Bk X (m5 .In) (ij X.K false):=by
 intro pins s σ H x y v u Q I rx ry h;obtain⟨p,xs,rfl,hq,fx,fs,q⟩:=h;cases ry;rcases hq with hq | hq
 ·obtain⟨its,r,pl,hz⟩:=I.list hq;refine SeqAt.in_listAt (Gq x) pl.isList (λw hw=>Nt rx fx r fs w (by simpa using hw)) ⟨.bl _,H,I,rfl,?_⟩;rw[show its.toArray.any (Gq x)=its.any (Gq x) by simp,OK r fs];exact q
 ·obtain⟨its,r,pl,hz⟩:=I.tuple hq;refine SeqAt.in_tupleAt (Gq x) pl (λw hw=>Nt rx fx r fs w (by simpa using hw)) ⟨.bl _,H,I,rfl,?_⟩;rw[show its.toArray.any (Gq x)=its.any (Gq x) by simp,OK r fs];exact q
inductive Pz(K:jk)(xs:List V)(H:Hp)(Q:VK):Prop
 | mk (p:Addr) (ys:List V) (e:xs=[.ref p]) (s:AR K H p ys\/AK K H p ys) (q:Q (.int ys.length) H):Pz K xs H Q
theorem KJ:C6 X (.builtin "len") (Pz X.K):=by
 intro pins s σ H xs us Q I r h;obtain⟨p,ys,rfl,hq,q⟩:=h;obtain⟨u,rfl,rx⟩:=En r;cases rx;have hn:=MB;rcases hq with hq | hq
 ·obtain⟨its,r',pl,hz⟩:=I.list hq;have hlen:=r'.length;exact Calls.call_len_list pl.isList (by simp only[jJ] <;> omega) ⟨.int ys.length,H,I.DW _,⟨s.toks+1,by rw[jJ,hlen]⟩,q⟩
 ·obtain⟨its,r',pl,hz⟩:=I.tuple hq;have hlen:=r'.length;exact len_tuple pl (by simp only[jJ] <;> omega) ⟨.int ys.length,H,I.DW _,⟨s.toks+1,by rw[jJ,hlen]⟩,q⟩
theorem C6.or{f:Value}{r r':List V->Hp->VK->Prop}(h:C6 X f r)(h':C6 X f r'):C6 X f (λxs H Q=>r xs H Q\/r' xs H Q):=by
 intro pins s σ H xs us Q I rs q;rcases q with q | q
 ·exact h pins s σ H xs us Q I rs q
 ·exact h' pins s σ H xs us Q I rs q
theorem XN:C6 X (.type "list") (λxs H Q=>∃p ys,xs=[.ref p]/\(AR X.K H p ys\/AK X.K H p ys)/\∀l,H l=none->Q (.ref l) (AH H l (.AD ys))):=by
 intro pins s σ H xs us Q I r h;obtain⟨p,ys,rfl,hq,q⟩:=h;obtain⟨u,rfl,rx⟩:=En r;cases rx;have fin:∀(its:List Value),Ah ys its->ys.length<=jR->∀(h':Heap) (c':Nat),(∀b o',s.heap.get? b=some o'->h'.get? b=some o') →
   h'.get? s.heap.objs.size=some { cls:=.type "list",dict:=none,data:=.seq its.toArray c',slots:=#[] }->EP X pins σ Q (.ref s.heap.objs.size) { s with heap:=h' }:=λits r' hz h' c' kp e =>
  ⟨.ref s.heap.objs.size,_,I.De (t':=s.toks) kp (jj _) (show Bq X.prog X.w _ h' _ (.AD ys) from ⟨hz,its,c',r',e⟩),rfl,q _ (I.hok.Bp (jj _))⟩
 rcases hq with hq | hq
 ·obtain⟨its,r',pl,hz⟩:=I.list hq;have hlen:=r'.length;obtain⟨o,ho,hc,n,hd⟩:=pl.isList;exact call_list_seq p (.inl rfl) ho hc hd (λh' c' kp e=>fin its r' hz h' c' kp e) (by simp only[jJ] <;> omega)
 ·obtain⟨its,r',pl,hz⟩:=I.tuple hq;have hlen:=r'.length;obtain⟨o,ho,hc,n,hd⟩:=pl;exact call_list_seq p (.inr rfl) ho hc hd (λh' c' kp e=>fin its r' hz h' c' kp e) (by simp only[jJ] <;> omega)
theorem FW:C6 X (.type "tuple") (λxs H Q=>∃p ys,xs=[.ref p]/\((AR X.K H p ys/\∀l,H l=none->Q (.ref l) (AH H l (.AG ys)))\/(AK X.K H p ys/\Q (.ref p) H))):=by
 intro pins s σ H xs us Q I r h;obtain⟨p,ys,rfl,h⟩:=h;obtain⟨u,rfl,rx⟩:=En r;cases rx;rcases h with ⟨hq,q⟩ | ⟨hq,q⟩
 ·obtain⟨its,r',pl,hz⟩:=I.list hq;have hlen:=r'.length;refine call_tuple_list pl.isList (λh' kp=>?_) (by simp only[jJ] <;> omega);have I1:AI X pins σ H { s with heap:=h' }:=I.Bx (t':=s.toks) kp;have I2:AI X pins σ (AH H h'.objs.size (.AG ys)) { s with heap:=h'.push { cls:=.type "tuple",data:=.seq its.toArray } } :=
   I1.De (t':=s.toks) (λb o e=>jt _ e) (jj _) (show Bq X.prog X.w _ _ _ (.AG ys) from ⟨hz,its,r',xf _ _,_,jY _ rfl,rfl⟩)
  exact⟨.ref h'.objs.size,_,I2,rfl,q _ (I1.hok.Bp (jj _))⟩
 ·obtain⟨its,r',pl,hz⟩:=I.tuple hq;exact call_tuple_same pl ⟨.ref p,H,I,rfl,q⟩
def Wt(K:jk)(T:String)(x:V)(H:Hp):Prop:=match x with
 | .str _=>T="str"
 | .int _=>T="int"
 | .ref p=>(T="list"/\∃xs,AR K H p xs)\/(T="tuple"/\∃o,K.lookup p=some o/\o.cls=.type "tuple"/\o.dict=none) \/
   (T="dict"/\((∃kvs,H p=some (.dK kvs))\/∃kvs,H p=some (.dT kvs)))\/(T="set"/\∃S n,H p=some (.set S n))
 | _=>False
theorem cJ{pins:List (Addr×Obj)}{σ:St}{H:Hp}{s:jh}{T:String}{x:V}{v:Value}(I:AI X pins σ H s)(r:Ax x v)(ty:Wt X.K T x H):
  s.TypeIs v T/\∀a,v=.ref a->∃ob,s.heap.get? a=some ob/\ob.dict=none:=by
 cases x with
 | str z =>
  obtain⟨t,rfl⟩:=r;cases (show T="str" from ty);exact⟨typeIs_str s z t,λ_ e=>nomatch e⟩
 | int i =>
  obtain⟨t,rfl⟩:=r;cases (show T="int" from ty);exact⟨w6 s i t,λ_ e=>nomatch e⟩
 | ref p =>
  cases r;rcases ty with ⟨rfl,xs,hq⟩ | ⟨rfl,o,hk,hc,hd⟩ | ⟨rfl,hk⟩ | ⟨rfl,S,n,hk⟩
  ·obtain⟨its,_,pl,_⟩:=I.list hq;refine⟨pl.isList.typeIs,λa e=>?_⟩;cases e;obtain⟨o,n,e,c,hd,_⟩:=pl;exact⟨o,e,hd⟩
  ·refine⟨⟨o,I.Dg p o hk,hc⟩,λa e=>?_⟩;cases e;exact⟨o,I.Dg _ o hk,hd⟩
  ·have z:∃o,s.heap.get? p=some o/\o.ExactDict:=by
    rcases hk with ⟨kvs,hk⟩ | ⟨kvs,hk⟩
    ·obtain⟨_,_,_,_,o,_,_,e,ex,_⟩:=I.hok p _ hk;exact⟨o,e,ex⟩
    ·obtain⟨_,_,_,_,o,_,_,e,ex,_⟩:=I.hok p _ hk;exact⟨o,e,ex⟩
   obtain⟨o,e,ex⟩:=z;refine⟨⟨o,e,ex.1⟩,λa e2=>?_⟩;cases e2;exact⟨o,e,ex.2.1⟩
  ·obtain⟨o,_,_,_,e,ex,_⟩:=I.hok p _ hk;refine⟨⟨o,e,ex.1⟩,λa e2=>?_⟩;cases e2;exact⟨o,e,ex.2.1⟩
 | _=>exact kY ty
def Wo(K:jk)(T:String)(r:V->List V->Hp->VK->Prop)(to:TE)(t:TA):TE:=λσ H Q=>to σ H λx H1=>Wt K T x H1/\t σ H1 λxs H2=>r x xs H2 Q
variable {o:Expr} {es:List Expr} {to:TE} {t:TA} {name:Str} {apos cpos:Pos} {T id:String} {r:V->List V->Hp->VK->Prop}
theorem fE (pa:wQ T) (slot:Slot T name id) (hty:typeOf (.builtin id)=pure (.type "method_descriptor")) (hm:KG X id r) (ho:PE X o to) (ha:PA X (e :: es) t)
  (hbase:qB o name X.env (eval o X.env)=eval o X.env:=by rfl)
  (hfew:((nh cpos (kc (e :: es) X.env)).all (λx=>!x.1) && (uK cpos (rL [] X.env)).all (λx=>x.1.isSome)
   && decide ((e :: es).length+([]:List pF).length+(if ([]:List pF).isEmpty then 0 else 1)<30))=true:=by rfl)
  (hline:(apos.endLine == cpos.line)=true:=by rfl) (hs:kc (e :: es) X.env=(false,eval e X.env) :: kc es X.env:=by rfl) (hplain:(nh cpos (kc es X.env)).any (·.1)=false:=by rfl) :
  PE X (.Call (.Attribute o name apos) (e :: es) [] cpos) (Wo X.K T r to t):=by
 intro pins s σ H Q I h;refine ui hbase hfew hline rfl (Ag (ho pins s σ H _ I h) λv s1 ⟨x,H1,I1,r1,ty,q1⟩=>?_);obtain⟨h1,h2⟩:=cJ I1 r1 ty;refine⟨T,id,pa,slot,hty,h1,h2,?_⟩;have hA:=ha cpos pins s1 σ H1 _ I1 q1;rw[hs] at hA ⊢;refine t4 (by show(false || (nh cpos (kc es X.env)).any (·.1))=false; rw[hplain] <;> rfl) (uH ?_);exact Ag hA λus s2 ⟨vs,H2,I2,r2,q2⟩=>hm pins s2 σ H2 x vs v us Q I2 r1 r2 q2
end
def Iz(X:Cx)(id:String)(r:V->List V->Hp->VK->Prop):Prop :=
 ∀(pins:List (Addr×Obj)) (s:jh) (σ:St) (H:Hp) (x:V) (xs:List V) (v:Value) (us:List Value) (Q:VK),AI X pins σ H s->Ax x v->Ah xs us->r x xs H Q →
  wpAny (model X.prog X.w) X.A (call (.builtin id) (v :: us)) (EP X pins σ Q) X.xe s
theorem Ah.Ae:∀{x:V} {us:List Value},Ah [x] us->∃u,us=[u]/\Ax x u
 | _,_,.cons r .nil=>⟨_,rfl,r⟩
theorem Ah.two:∀{x y:V} {us:List Value},Ah [x,y] us->∃u v,us=[u,v]/\Ax x u/\Ax y v
 | _,_,_,.cons r (.cons q .nil)=>⟨_,_,rfl,r,q⟩
theorem Ah.zero:∀{us:List Value},Ah [] us->us=[]
 | _,.nil=>rfl
theorem Ah.eraseIdx:∀{xs:List V} {us:List Value} (i:Nat),Ah xs us->Ah (xs.eraseIdx i) (us.eraseIdx i)
 | _,_,_,.nil=>.nil
 | _,_,0,.cons _ t=>t
 | _,_,i+1,.cons r t=>.cons r (Ah.eraseIdx i t)
theorem Ah.reverse{xs:List V}{us:List Value}(h:Ah xs us):Ah xs.reverse us.reverse:=by
 induction h with
 | nil=>exact .nil
 | cons r t ih=>rw[vN,vN]; exact Ah.append ih (.cons r .nil)
theorem Ah.Wn{xs:List V}{us:List Value}(h:Ah xs us):∀k:Nat,Ah (jo k xs).flatten (jo k us).flatten
 | 0=>.nil
 | k+1=>by
  rw[km,km,j5,j5];exact Ah.append h (Ah.Wn h k)
theorem Q7{α:Type}:∀(l:List α) (i:Nat),(l.eraseIdx i).length<=l.length
 | [],_=>jj _
 | _ :: _,0=>Nat.le_succ _
 | _ :: r,i+1=>Nat.succ_le_succ (Q7 r i)
theorem Qg(its:List Value):∀(k:Nat) (acc:List Value),
  qc (λx1 x2=>x1++x2) acc.toArray (jo k its.toArray)=(acc++(jo k its).flatten).toArray
 | 0,acc=>by simp
 | k+1,acc=>by
  have e:acc.toArray++its.toArray=(acc++its).toArray:=by simp
  have e2:(acc++its)++(jo k its).flatten=acc++(jo (k+1) its).flatten:=by
   rw[km,j5,kN]
  rw[<-e2,<-Qg its k (acc++its),<-e,km,wL]
section
variable {X:Cx} {pins:List (Addr×Obj)} {σ:St} {H:Hp} {s:jh} {l b:Addr} {xs ys zs:List V}
theorem AI.Ms {its its':List Value} {n:Nat} {f:Array Value->Array Value} {t':Nat} (I:AI X pins σ H s) (hH:H l=some (.AD xs))
  (e:s.heap.get? l=some { cls:=.type "list",data:=.seq its.toArray n }) (hf:f its.toArray=its'.toArray) (hv:Ah ys its') (hz:ys.length<=jR) :
  AI X pins σ (AH H l (.AD ys)) { s with heap:=s.heap.update l (sV f),toks:=t' }:=by
 have q:=PySem.IsL.update e f;rw[hf] at q;refine I.IT (x:=l) (e:=l) (by rw[hH]; exact trivial) (.inl rfl) (λb' u hb hu=>(qt s.heap (sV f) (lF hb)).trans hu) ⟨_,q⟩ ?_;exact⟨hz,its',_,hv,q⟩
theorem AI.WT{its:List Value}{t':Nat}(I:AI X pins σ H s)(hv:Ah ys its)(hz:ys.length<=jR):
  AI X pins σ (AH H s.heap.objs.size (.AD ys)) { s with heap:=s.heap.push { cls:=.type "list",data:=.seq its.toArray },toks:=t' } :=
 I.De (λ_ _ q=>jt _ q) (jj _) ⟨hz,its,0,hv,jY _ rfl⟩
theorem AI.Bp(I:AI X pins σ H s):H s.heap.objs.size=none:=I.hok.Bp (jj _)
theorem AI.GU(I:AI X pins σ H s)(hH:H l=some (.AD xs)):xs.length<=jR/\∃(its:List Value) (n:Nat),Ah xs its/\xs.length=its.length/\s.heap.get? l=some { cls:=.type "list",data:=.seq its.toArray n }:=by
 obtain⟨z,its,n,r,e⟩:=I.hok l _ hH;exact⟨z,its,n,r,r.length,e⟩
theorem Rr{n:Nat}(h:n<=jR):n9 n=false:=by
 unfold n9;exact l7 (by omega)
end
section
variable {X:Cx}
inductive WA(x:V)(vs:List V)(H:Hp)(Q:VK):Prop
 | mk (l:Addr) (xs:List V) (y:V) (e1:x=.ref l) (e2:vs=[y]) (h:H l=some (.AD xs)) (n:xs.length<jR) (q:Q .BE (AH H l (.AD (xs++[y])))):WA x vs H Q
def af:V->List V->Hp->VK->Prop:=λx vs H Q=>WA x vs H Q
theorem DY:Iz X "list.append" af:=by
 intro pins s σ H x vs v us Q I rx rv h;obtain⟨l,xs,y,rfl,rfl,hH,hz,q⟩:=h;cases rx;obtain⟨u,rfl,ru⟩:=rv.Ae;obtain⟨z,its,n,r,hl,e⟩:=I.GU hH;refine pk F.slot_list_append ⟨_,e,rfl⟩ F.entry_list_append (F.args_list_append_2 _ _) (PySem.list_append l its.toArray n u (by rw[jJ]; omega)) ⟨e,?_⟩;refine⟨.BE,_,I.Ms (its':=its++[u]) hH e (by simp) (r.append (.cons ru .nil)) ?_,rfl,q⟩;rw[jw,kX];omega
def ah:V->List V->Hp->VK->Prop:=λx vs H Q=>∃l b xs zs,x=.ref l/\vs=[.ref b]/\H l=some (.AD xs)/\H b=some (.AD zs)/\xs.length+zs.length<=jR/\Q .BE (AH H l (.AD (xs++zs)))
theorem YL:Iz X "list.extend" ah:=by
 intro pins s σ H x vs v us Q I rx rv h;obtain⟨l,b,xs,zs,rfl,rfl,hH,hB,hz,q⟩:=h;cases rx;obtain⟨u,rfl,ru⟩:=rv.Ae;cases ru;obtain⟨z,its,n,r,hl,e⟩:=I.GU hH;obtain⟨z2,its2,n2,r2,hl2,e2⟩:=I.GU hB;have hsz:its.toArray.size+its2.toArray.size<=jR:=by rw[jJ,jJ]; omega
 have hlong:¬(!its.toArray.isEmpty && n9 (its.toArray.size+its2.toArray.size))=true:=by
  rw[Rr hsz,Bool.and_false];exact j0
 refine pk F.slot_list_extend ⟨_,e,rfl⟩ F.entry_list_extend (F.args_list_extend_2 _ _)
  (AutoSeq1.list_extend_list_list_0 l its.toArray n b its2.toArray n2 hlong (by rw[jJ]; omega) (by omega)) ⟨e,e2,?_⟩
 refine⟨.BE,_,I.Ms (its':=its++its2) hH e (by simp) (r.append r2) ?_,rfl,q⟩;rw[jw];omega
def cS:V->List V->Hp->VK->Prop:=λx vs H Q=>∃l xs i k y,x=.ref l/\vs=[.int i]/\H l=some (.AD xs)/\-(2 ^ 63)<=i/\i<2 ^ 63/\vF i xs.length=some k/\xs[k]?=some y/\Q y (AH H l (.AD (xs.eraseIdx k)))
theorem Rc:Iz X "list.pop" cS:=by
 intro pins s σ H x vs v us Q I rx rv h;obtain⟨l,xs,i,k,y,rfl,rfl,hH,h1,h2,hk,hy,q⟩:=h;cases rx;obtain⟨u,rfl,ru⟩:=rv.Ae;obtain⟨t,rfl⟩:=ru;obtain⟨z,its,n,r,hl,e⟩:=I.GU hH;obtain⟨w,hw,rw'⟩:=r.get hy;refine pk F.slot_list_pop ⟨_,e,rfl⟩ F.entry_list_pop (F.args_list_pop_2 _ _)
  (MeetsSeq.list_pop_at l its.toArray n i t k w (fitsIndex_both h1 h2) (by rw[jJ,<-hl]; exact hk) (by rw[<-Array.getElem?_toList]; exact hw) (by rw[jJ]; omega)) ⟨e,?_⟩
 refine⟨y,_,I.Ms (its':=its.eraseIdx k) hH e ?_ (r.eraseIdx k) ?_,rw',q⟩
 ·show its.toArray.eraseIdxIfInBounds k=(its.eraseIdx k).toArray;rw[List.eraseIdxIfInBounds_toArray]
 ·have:=Q7 xs k
  omega
inductive WI(x y:V)(H:Hp)(Q:VK):Prop
 | mk (l b:Addr) (xs zs:List V) (e1:x=.ref l) (e2:y=.ref b) (h1:H l=some (.AD xs)) (h2:H b=some (.AD zs)) (n:xs.length+zs.length<=jR) (q:∀p,H p=none->Q (.ref p) (AH H p (.AD (xs++zs)))):WI x y H Q
def gx:R2:=λx y H Q=>WI x y H Q
theorem HU:Bk X (mS .Add) gx:=by
 intro pins s σ H x y v u Q I rx ry h;obtain⟨l,b,xs,zs,rfl,rfl,hH,hB,hz,q⟩:=h;cases rx;cases ry;obtain⟨z,its,n,r,hl,e⟩:=I.GU hH;obtain⟨z2,its2,n2,r2,hl2,e2⟩:=I.GU hB;refine PySem.P.add_list e e2 ?_ (by rw[jJ,jJ]; omega);have ea:its.toArray++its2.toArray=(its++its2).toArray:=by simp
 rw[ea];exact⟨.ref _,_,I.WT (t':=s.toks) (r.append r2) (by rw[jw]; omega),rfl,q _ I.Bp⟩
def We:R2:=λx y H Q=>∃l k xs,x=.ref l/\y=.int k/\H l=some (.AD xs)/\-(2 ^ 63)<=k/\k<2 ^ 63/\xs.length*k.toNat<=jR /\
 ∀p,H p=none->Q (.ref p) (AH H p (.AD (jo k.toNat xs).flatten))
theorem S5{α:Type}(xs:List α)(k:Nat):(jo k xs).flatten.length=k*xs.length:=by
 induction k with
 | zero=>simp
 | succ k ih=>rw[km,j5,jw,ih,Nat.succ_mul,oY]
theorem MA:Bk X (mS .Mult) We:=by
 intro pins s σ H x y v u Q I rx ry h;obtain⟨l,k,xs,rfl,rfl,hH,h1,h2,hz,q⟩:=h;cases rx;obtain⟨t,rfl⟩:=ry;obtain⟨z,its,n,r,hl,e⟩:=I.GU hH;have hlen:its.toArray.size*k.toNat<=jR:=by rw[jJ,<-hl]; exact hz
 have hcap:¬its.toArray.size*k.toNat > (2 ^ 63-1) / 8:=by
  have:(jR:Nat)<=(2 ^ 63-1) / 8:=by decide
  omega
 have hfit:¬(!Builtin.List.listFitsIndex k)=true:=by
  rw[fitsIndex_both h1 h2];exact j0
 have hlong:¬n9 (its.toArray.size*k.toNat)=true:=by
  rw[Rr hlen];exact j0
 have hnew:qc (λx1 x2=>x1++x2) #[] (jo (if its.toArray.isEmpty=true then 0 else k.toNat) its.toArray)=(jo k.toNat its).flatten.toArray:=by
  have f0:∀m:Nat,qc (λx1 x2=>x1++x2) #[] (jo m its.toArray)=(jo m its).flatten.toArray:=λm=>by
   have:=Qg its m []
   rw[pK] at this;exact this
  rw[f0];cases its with
  | nil=>simp
  | cons a r'=>rw[jm (by simp)]
 refine wpAny_binaryOp_repeat_ref (T:="list") (U:="int") (by decide) ⟨_,e,rfl⟩ (λs'=>w6 s' k t) noFill_list_mul F.fills_int_mul wG repeat_list F.slot_int_index.lookup
  (pk wG (w6 s k t) F.entry_int_rmul (F.args_int_rmul_2 _ _) (int___rmul___int_list k t l its.toArray n)
   ⟨e,rfl,⟨_,e,rfl⟩,pk F.slot_list_mul ⟨_,e,rfl⟩ F.entry_list_mul (F.args_list_mul_2 _ _) (AutoListH.list___mul___list_int_3 l its.toArray n k t hfit hcap hlong) ⟨e,?_⟩⟩)
 rw[hnew];exact⟨.ref _,_,I.WT (t':=s.toks) (r.Wn k.toNat) (by rw[S5,pU]; exact hz),rfl,q _ I.Bp⟩
end
section
variable {prog:j8} {w:World} {A:kK} {E:Value->jh->Prop} {s:jh}
end
section
variable {X:Cx}
end
section
variable {κ:Type} [DecidableEq κ]
def Co(kvs:List (κ×V))(k:κ):Option V:=(kvs.find? λkv=>decide (kv.1=k)).map (·.2)
def CN(kvs:List (κ×V))(k:κ)(v:V):List (κ×V) :=
 if (kvs.any λkv=>decide (kv.1=k))=true then kvs.map (λkv=>if kv.1=k then (kv.1,v) else kv) else kvs++[(k,v)]
def Vl(kvs:List (κ×V))(k:κ):List (κ×V):=kvs.filter λkv=>decide (kv.1≠k)
theorem JX{p:κ×V}{r:List (κ×V)}{k:κ}(e:p.1=k):Co (p :: r) k=some p.2:=by simp[Co,oI,e]
theorem IE{p:κ×V}{r:List (κ×V)}{k:κ}(e:¬p.1=k):Co (p :: r) k=Co r k:=by simp[Co,oI,e]
theorem Nd(k:κ):∀kvs:List (κ×V),(kvs.any λkv=>decide (kv.1=k))=(Co kvs k).isSome
 | []=>rfl
 | p :: r=>by
  rw[pA];by_cases e:p.1=k
  ·simp only[JX e,mQ e,Bool.true_or,Option.isSome_some]
  ·rw[IE e,l7 e,Bool.false_or]; exact Nd k r
theorem NK(kvs:List (κ×V))(k:κ)(v:V):(CN kvs k v).length<=kvs.length+1:=by
 unfold CN;split
 ·rw[ja]; omega
 ·rw[jw,ka,mT]; omega
theorem EZ.KO{o:Option V}{u:Option Value}(r:EZ o u):o.isSome=u.isSome:=by
 cases o with
 | none=>cases u with
  | none=>rfl
  | some _=>exact(show False from r).elim
 | some _=>cases u with
  | none=>exact(show False from r).elim
  | some _=>rfl
theorem EZ.getD{o:Option V}{u:Option Value}{d:V}{d':Value}(r:EZ o u)(rd:Ax d d'):Ax (o.getD d) (u.getD d'):=by
 cases o with
 | none=>cases u with
  | none=>exact rd
  | some _=>exact(show False from r).elim
 | some _=>cases u with
  | none=>exact(show False from r).elim
  | some _=>exact r
theorem KV.Hy{kvs:List (κ×V)}{vs:List (κ×Value)}(r:KV kvs vs)(k:κ):EZ (Co kvs k) (sZ vs k):=by
 unfold KV at r
 induction r with
 | nil=>exact nD
 | @cons p q ps qs h t ih =>
  obtain⟨h1,h2⟩:=h;by_cases e:p.1=k
  ·have e':q.1=k:=h1.symm.trans e;have b:sZ (q :: qs) k=some q.2:=by simp[sZ,oI,e']
   rw[JX e,b]; exact h2
  ·have e':¬q.1=k:=λz=>e (h1.trans z)
   have b:sZ (q :: qs) k=sZ qs k:=by simp[sZ,oI,e']
   rw[IE e,b]; exact ih
theorem KV.any{kvs:List (κ×V)}{vs:List (κ×Value)}(r:KV kvs vs)(k:κ):(kvs.any λkv=>decide (kv.1=k))=vs.any λkv=>decide (kv.1=k):=by
 unfold KV at r
 induction r with
 | nil=>rfl
 | cons h t ih=>rw[pA,pA,ih,h.1]
theorem KV.Pa{kvs:List (κ×V)}{vs:List (κ×Value)}(r:KV kvs vs)(k:κ){y:V}{u:Value}(ry:Ax y u):
  KV (kvs.map λkv=>if kv.1=k then (kv.1,y) else kv) (vs.map λkv=>if kv.1=k then (kv.1,u) else kv):=by
 unfold KV at r ⊢
 induction r with
 | nil=>exact .nil
 | @cons p q ps qs h t ih =>
  rw[jx,jx];refine .cons ?_ ih;obtain⟨h1,h2⟩:=h;by_cases e:p.1=k
  ·rw[jq e,jq (h1.symm.trans e)]; exact⟨h1,ry⟩
  ·rw[jm e,jm (λz=>e (h1.trans z))]; exact⟨h1,h2⟩
theorem KV.put{kvs:List (κ×V)}{vs:List (κ×Value)}(r:KV kvs vs)(k:κ){y:V}{u:Value}(ry:Ax y u):KV (CN kvs k y) (stored vs k u):=by
 unfold CN stored;rw[r.any k];by_cases e:(vs.any λkv=>decide (kv.1=k))=true
 ·rw[jq e,jq e]; exact r.Pa k ry
 ·rw[jm e,jm e]; exact qx.snoc r ⟨rfl,ry⟩
theorem KV.drop{kvs:List (κ×V)}{vs:List (κ×Value)}(r:KV kvs vs)(k:κ):KV (Vl kvs k) (without vs k):=by
 unfold KV at r ⊢;unfold Vl without
 induction r with
 | nil=>exact .nil
 | @cons p q ps qs h t ih =>
  obtain⟨h1,h2⟩:=h;rw[wk,wk];by_cases e:p.1=k
  ·have a:¬decide (p.1≠k)=true:=by simp[e]
   have b:¬decide (q.1≠k)=true:=by simp[h1.symm.trans e]
   rw[jm a,jm b]; exact ih
  ·have e':¬q.1=k:=λz=>e (h1.trans z)
   have a:decide (p.1≠k)=true:=by simp[e]
   have b:decide (q.1≠k)=true:=by simp[e']
   rw[jq a,jq b]; exact .cons ⟨h1,h2⟩ ih
theorem KV.length{kvs:List (κ×V)}{vs:List (κ×Value)}(r:KV kvs vs):kvs.length=vs.length:=xr r
end
theorem Jq{P:j8}{w:World}{k:Aa}{u:Value}(r:Ax (kV k) u):(D1 P w).is k u=true:=by
 cases k with
 | inl i=>obtain⟨t,e⟩:=(show ∃t,u=vB i t from r); subst e; exact Xd P w i t
 | inr x=>obtain⟨t,e⟩:=(show ∃t,u=vC x t from r); subst e; exact XT P w x t
theorem Q6{P:j8}{w:World}:∀{ks:List Aa} {us:List Value},Ah (ks.map kV) us->ItemsAre (D1 P w) ks us
 | [],_,r=>by rw[kR] at r; cases r; exact .nil
 | k :: ks,_,r=>by
  rw[jx] at r;cases r with
  | cons h t=>exact .cons (Jq h) (Q6 t)
abbrev KT(H:Hp):List (List Aa×V)->List (List Aa×Addr×Value)->Prop:=qx λp q=>p.1=q.1/\H q.2.1=some (.AG (p.1.map kV))/\Ax p.2 q.2.2
theorem KT.Hy{H:Hp}{kvs:List (List Aa×V)}{xs:List (List Aa×Addr×Value)}(r:KT H kvs xs)(k:List Aa):EZ (Co kvs k) ((atKey xs k).map (·.2)):=by
 induction r with
 | nil=>exact nD
 | @cons p q ps qs h t ih =>
  obtain⟨h1,_,h2⟩:=h;by_cases e:p.1=k
  ·have e':q.1=k:=h1.symm.trans e;have b:atKey (q :: qs) k=some q.2:=by simp[atKey,oI,e']
   rw[JX e,b]; exact h2
  ·have e':¬q.1=k:=λz=>e (h1.trans z)
   have b:atKey (q :: qs) k=atKey qs k:=by simp[atKey,oI,e']
   rw[IE e,b]; exact ih
theorem KT.Pa{H:Hp}{kvs:List (List Aa×V)}{xs:List (List Aa×Addr×Value)}(r:KT H kvs xs)(k:List Aa){y:V}{u:Value}(ry:Ax y u):
  KT H (kvs.map λkv=>if kv.1=k then (kv.1,y) else kv) (xs.map (putAt k u)):=by
 induction r with
 | nil=>exact .nil
 | @cons p q ps qs h t ih =>
  rw[jx,jx];refine .cons ?_ ih;obtain⟨h1,h2,h3⟩:=h;unfold putAt;by_cases e:p.1=k
  ·rw[jq e,jq (h1.symm.trans e)]; exact⟨h1,h2,ry⟩
  ·rw[jm e,jm (λz=>e (h1.trans z))]; exact⟨h1,h2,h3⟩
theorem KT.put{H:Hp}{kvs:List (List Aa×V)}{xs:List (List Aa×Addr×Value)}(r:KT H kvs xs)(k:List Aa){b:Addr}{y:V}{u:Value}(hb:H b=some (.AG (k.map kV)))(ry:Ax y u):
  KT H (CN kvs k y) (storedH xs k b u):=by
 have e:(kvs.any λkv=>decide (kv.1=k))=(atKey xs k).isSome:=by
  rw[Nd,(r.Hy k).KO,sv]
 unfold CN storedH;rw[e];by_cases q:(atKey xs k).isSome=true
 ·rw[jq q,jq q]; exact r.Pa k ry
 ·rw[jm q,jm q]; exact qx.snoc r ⟨rfl,hb,ry⟩
theorem KT.keeps{H H':Hp}{kvs:List (List Aa×V)}{xs:List (List Aa×Addr×Value)}(r:KT H kvs xs)(ht:∀b ys,H b=some (.AG ys)->H' b=some (.AG ys)):KT H' kvs xs :=
 qx.Px r λ_ _ z=>⟨z.1,ht _ _ z.2.1,z.2.2⟩
section
variable {P:j8} {w:World} {H:Hp} {h:Heap} {a:Addr}
theorem VS{u:HO}(ok:By P w H h)(e:Rd H a u):Bq P w H h a u:=e.ok ok
theorem Jr{kvs:List (Aa×V)}(ok:By P w H h)(e:Rd H a (.dK kvs)):kvs.length<=jR/\(a == oO)=false/\∃vs,KV kvs vs/\h.DictOf (D1 P w) a vs :=
 show Bq P w H h a (.dK kvs) from VS ok e
theorem Vv{kvs:List (Aa×V)}(ok:By P w H h)(e:H a=some (.dK kvs)):kvs.length<=jR/\(a == oO)=false/\∃vs,KV kvs vs/\h.DictOf (D1 P w) a vs:=Jr ok (.inl e)
theorem Ku{ks:List Aa}(ok:By P w H h)(e:H a=some (.AG (ks.map kV))):(tZ (D1 P w)).is h ks a:=by
 obtain⟨_,its,r,⟨o,h1,h2,n,h3⟩,_⟩:=(show Bq P w H h a (.AG (ks.map kV)) from ok a _ e);exact⟨o,its.toArray,n,h1,h2,h3,by simpa using Q6 r⟩
theorem K5{kvs:List (List Aa×V)}(ok:By P w H h)(e:Rd H a (.dT kvs)):kvs.length<=jR/\(a == oO)=false /\
  ∃xs,KT H kvs xs/\h.DictOfH (tZ (D1 P w)) a xs:=by
 obtain⟨z,y,xs,r,o,es,ep,h1,h2,h3,h4,h5⟩:=(show Bq P w H h a (.dT kvs) from VS ok e);refine⟨z,y,xs,r,o,es,ep,h1,h2,h3,h4,λx hx=>?_,h5⟩;have all:∀{l:List (List Aa×V)} {m:List (List Aa×Addr×Value)},KT H l m->∀x∈m,(tZ (D1 P w)).is h x.1 x.2.1:=by
  intro l m q
  induction q with
  | nil=>intro x hx; exact nomatch hx
  | @cons p q ps qs hq t ih =>
   intro x hx;rcases jK.mp hx with e | hx
   ·subst e;exact Ku ok (by rw[<-hq.1]; exact hq.2.1)
   ·exact ih x hx
 exact all r x hx
theorem gA{kvs:List (List Aa×V)}(ok:By P w H h)(e:H a=some (.dT kvs)):kvs.length<=jR/\(a == oO)=false /\
  ∃xs,KT H kvs xs/\h.DictOfH (tZ (D1 P w)) a xs:=K5 ok (.inl e)
end
def DP(H:Hp)(a:Addr)(y:V)(r:Option V):Prop :=
 (∃kvs k,Rd H a (.dK kvs)/\y=kV k/\r=Co kvs k)\/∃kvs k b,Rd H a (.dT kvs)/\y=.ref b/\H b=some (.AG (k.map kV))/\r=Co kvs k
def D5(H:Hp)(a:Addr)(y v:V)(H':Hp):Prop :=
 (∃kvs k,H a=some (.dK kvs)/\y=kV k/\kvs.length<jR/\H'=AH H a (.dK (CN kvs k v))) \/
 ∃kvs k b,H a=some (.dT kvs)/\y=.ref b/\H b=some (.AG (k.map kV))/\kvs.length<jR/\H'=AH H a (.dT (CN kvs k v))
theorem DP.k{H:Hp}{a:Addr}{kvs:List (Aa×V)}{k:Aa}(e:H a=some (.dK kvs)):DP H a (kV k) (Co kvs k):=.inl ⟨kvs,k,.inl e,rfl,rfl⟩
theorem DP.t{H:Hp}{a b:Addr}{kvs:List (List Aa×V)}{k:List Aa}(e:H a=some (.dT kvs))(eb:H b=some (.AG (k.map kV))):DP H a (.ref b) (Co kvs k):=.inr ⟨kvs,k,b,.inl e,rfl,eb,rfl⟩
theorem D5.k{H:Hp}{a:Addr}{kvs:List (Aa×V)}{k:Aa}{v:V}(e:H a=some (.dK kvs))(hl:kvs.length<jR):D5 H a (kV k) v (AH H a (.dK (CN kvs k v))):=.inl ⟨kvs,k,e,rfl,hl,rfl⟩
theorem D5.t{H:Hp}{a b:Addr}{kvs:List (List Aa×V)}{k:List Aa}{v:V}(e:H a=some (.dT kvs))(eb:H b=some (.AG (k.map kV)))(hl:kvs.length<jR):
  D5 H a (.ref b) v (AH H a (.dT (CN kvs k v))):=.inr ⟨kvs,k,b,e,rfl,eb,hl,rfl⟩
section
variable {X:Cx} {pins:List (Addr×Obj)} {σ:St} {H:Hp} {s:jh} {a:Addr} {y v:V} {u r:Value} {o:Option V} {A:kK} {E:Value->jh->Prop}
theorem AI.Fz(I:AI X pins σ H s):oO<s.heap.objs.size:=by
 have h:lW<s.heap.objs.size:=(I.DV.Ga.keeps I.bk).lt;exact Nat.lt_trans (by decide) h
theorem Yb{Q:Value->jh->Prop}(hu:A.units+1<cLine)(I:AI X pins σ H s)(g:DP H a y (some v))(ry:Ax y u)(h:∀w' s',AI X pins σ H s'->Ax v w'->Q w' s'):
  wpAny (model X.prog X.w) A (qg (.ref a) u) Q E s:=by
 rcases g with ⟨kvs,k,e,ey,l⟩ | ⟨kvs,k,b,e,ey,eb,l⟩
 ·subst ey;obtain⟨z,hd,vs,rel,dd⟩:=Jr I.hok e;obtain⟨w',hw,rw'⟩:=EZ.Td (v:=v) (o:=sZ vs k) (by rw[l]; exact rel.Hy k);exact wpAny_getItem_of (Jq ry) dd.mapOf hw (h w' _ (I.DW _) rw')
 ·subst ey;cases (show u=lO b from ry);obtain⟨z,hd,xs,rel,dd⟩:=K5 I.hok e;obtain⟨w',hw,rw'⟩:=EZ.Td (v:=v) (o:=(atKey xs k).map (·.2)) (by rw[l]; exact rel.Hy k);obtain⟨p,hp,hp2⟩:=lV.mp hw;refine wpAny_getItem_heap (p8 hu) (Ku I.hok eb) dd hp ?_;rw[hp2];exact h w' _ (I.DW _) rw'
theorem gZ{Q:Value->jh->Prop}(hu:A.units+1<cLine)(I:AI X pins σ H s)(g:DP H a y o)(ry:Ax y u)(h:∀s',AI X pins σ H s'->Q (.bool o.isSome) s'):
  wpAny (model X.prog X.w) A (m5 .In u (.ref a)) Q E s:=by
 rcases g with ⟨kvs,k,e,ey,l⟩ | ⟨kvs,k,b,e,ey,eb,l⟩
 ·subst ey;obtain⟨z,hd,vs,rel,dd⟩:=Jr I.hok e;refine wpAny_in_of (Jq ry) hd dd.mapOf ?_;rw[<-(rel.Hy k).KO,<-l];exact h _ (I.DW _)
 ·subst ey;cases (show u=lO b from ry);obtain⟨z,hd,xs,rel,dd⟩:=K5 I.hok e;refine wpAny_in_heap (p8 hu) (Ku I.hok eb) hd dd ?_;have q:=(rel.Hy k).KO;rw[sv] at q;rw[<-q,<-l];exact h _ (I.DW _)
theorem b6{Q:Value->jh->Prop}(hu:A.units+1<cLine)(I:AI X pins σ H s)(g:DP H a y o)(ry:Ax y u)(h:∀s',AI X pins σ H s'->Q (.bool (!o.isSome)) s'):
  wpAny (model X.prog X.w) A (m5 .NotIn u (.ref a)) Q E s:=by
 rcases g with ⟨kvs,k,e,ey,l⟩ | ⟨kvs,k,b,e,ey,eb,l⟩
 ·subst ey;obtain⟨z,hd,vs,rel,dd⟩:=Jr I.hok e;refine wpAny_notIn_of (Jq ry) hd dd.mapOf ?_;rw[<-(rel.Hy k).KO,<-l];exact h _ (I.DW _)
 ·subst ey;cases (show u=lO b from ry);obtain⟨z,hd,xs,rel,dd⟩:=K5 I.hok e;refine wpAny_notIn_heap (p8 hu) (Ku I.hok eb) hd dd ?_;have q:=(rel.Hy k).KO;rw[sv] at q;rw[<-q,<-l];exact h _ (I.DW _)
theorem OX{h':Heap}{t':Nat}{ob:HO}(I:AI X pins σ H s)(mu:LM (H a))(hs:mV a s.heap h')(he:∃q,h'.get? a=some q)(new:Bq X.prog X.w (AH H a ob) h' a ob):
  AI X pins σ (AH H a ob) { s with heap:=h',toks:=t' } :=
 I.IT (x:=a) (e:=a) mu (.inl rfl) (λb q hb z=>(hs.2 b hb).trans z) he new
theorem UP{P:j8}{w:World}{H':Hp}{h':Heap}{kvs:List (Aa×V)}{vs:List (Aa×Value)}(z:kvs.length<=jR)(hd:(a == oO)=false)(rel:KV kvs vs)(dd:h'.DictOf (D1 P w) a vs):
  Bq P w H' h' a (.dK kvs):=⟨z,hd,vs,rel,dd⟩
theorem Yt{H':Hp}{Q:Unit->jh->Prop}(hu:A.units+1<cLine)(I:AI X pins σ H s)(g:D5 H a y v H')(ry:Ax y u)(rv:Ax v r)(h:∀s',AI X pins σ H' s'->Q () s'):
  wpAny (model X.prog X.w) A (setItem (.ref a) u r) Q E s:=by
 rcases g with ⟨kvs,k,e,ey,l,eH⟩ | ⟨kvs,k,b,e,ey,eb,l,eH⟩
 ·subst ey eH;obtain⟨z,hd,vs,rel,dd⟩:=Vv I.hok e;have hz:vs.length<=jR:=by rw[<-rel.length]; exact z
  have hl:(CN kvs k v).length<=jR:=by have:=NK kvs k v; omega
  refine wpAny_setItem_pairs (hsz:=hz) (Jq ry) dd λh' dd' hs=>h _ ?_
  have he:∃q,h'.get? a=some q:=let ⟨q,_,_,hq,_⟩:=dd'; ⟨q,hq⟩
  exact OX I (by rw[e]; exact nD) hs he (UP hl hd (rel.put k rv) dd')
 ·subst ey eH;cases (show u=lO b from ry);obtain⟨z,hd,xs,rel,dd⟩:=gA I.hok e;have hz:xs.length<=jR:=by rw[<-Paired.length rel]; exact z
  have hl:(CN kvs k v).length<=jR:=by have:=NK kvs k v; omega
  refine wpAny_setItem_heap (hsz:=hz) (p8 hu) (Ku I.hok eb) dd λh' dd' hs=>h _ ?_
  obtain⟨q,es,ep,hq,h2,h3,h4,_,h5⟩:=dd';refine OX I (by rw[e]; exact nD) hs ⟨q,hq⟩ ⟨hl,hd,_,(rel.put k eb rv).keeps λc ys ec=>?_,q,es,ep,hq,h2,h3,h4,h5⟩;rw[Ad (fO ec e (λz=>nomatch z))];exact ec
end
section
variable {X:Cx} {pins:List (Addr×Obj)} {σ:St} {H:Hp} {s:jh} {a:Addr} {kvs:List (Aa×V)} {k:Aa} {u:Value} {A:kK} {E:Value->jh->Prop}
theorem fk{Q:Value->jh->Prop}(I:AI X pins σ H s)(e:Rd H a (.dK kvs))(h:∀t s',AI X pins σ H s'->Q (.int kvs.length t) s'):wpAny (model X.prog X.w) A (call (.builtin "len") [.ref a]) Q E s:=by
 obtain⟨z,hd,vs,rel,dd⟩:=Jr I.hok e;refine call_len_dict hd dd (by rw[<-rel.length]; rw[nF] at z; omega) ?_;rw[<-rel.length];exact h _ _ (I.DW _)
end
def V5(i:Expr):Prop:=∀ov iv,ug i false ov iv=operate [ov,iv] (qg ov iv)
theorem aJ {prog:j8} {w:World} {A:kK} {E:Value->jh->Prop} {s:jh} {env:Env} {value slice:Expr} {pos:Pos} {T id:String} {Q:Value->jh->Prop}
  (hl:typeLookup (.type T) "__getitem__" = pure (some (.builtin id))) (hs:V5 slice)
  (h:wpAny (model prog w) A (eval value env) (λo s₁=>wpAny (model prog w) A (eval slice env) (λi s₂=>s₂.TypeIs o T/\wpAny (model prog w) A (qg o i) Q E s₂) E s₁) E s) :
  wpAny (model prog w) A (eval (.Subscript value slice pos) env) Q E s:=by
 refine wY (mj h (λo s₁ h₁=>mj h₁ (λi s₂ h₂=>?_) λ_ _ x=>x) λ_ _ x=>x);obtain⟨hT,h₂⟩:=h₂;unfold uP;refine jf ?_;rw[getitemInPython_of_ne hT.not_modules];refine jf (wpAny_specialOf hT hl ?_);have fin:wpAny (model prog w) A (ug slice false o i) (λr s₃=>wpAny (model prog w) A (letTemporaryGo value o r >>= λ_=>pure r) Q E s₃) E s₂:=by
  rw[hs o i];exact wpAny_operating (mj h₂ (λr s₃ h₃=>jf (wpAny_letTemporaryGo (jS h₃))) λ_ _ x=>x)
 first
  | exact jS (jf fin)
  | exact jf (jS (jf fin))
  | exact jf fin
theorem XX{X:Cx}{pins:List (Addr×Obj)}{σ:St}{H:Hp}{s:jh}{a:Addr}{y:V}{o:Option V}(I:AI X pins σ H s)(g:DP H a y o):s.TypeIs (.ref a) "dict":=by
 rcases g with ⟨kvs,k,e,_,_⟩ | ⟨kvs,k,b,e,_,_,_⟩
 ·obtain⟨_,_,vs,_,dd⟩:=Jr I.hok e;exact dd.typeIs
 ·obtain⟨_,_,xs,_,dd⟩:=K5 I.hok e;exact dd.typeIs
inductive VQ(x y:V)(H:Hp)(Q:VK):Prop
 | mk (a:Addr) (v:V) (e:x=.ref a) (d:DP H a y (some v)) (q:Q v H):VQ x y H Q
inductive WR(x y:V)(H:Hp)(Q:VK):Prop
 | mk (a:Addr) (o:Option V) (e:x=.ref a) (d:DP H a y o) (q:Q (.bl o.isSome) H):WR x y H Q
inductive Vd(x y v:V)(H:Hp)(Q:Hp->Prop):Prop
 | mk (a:Addr) (H4:Hp) (e:x=.ref a) (d:D5 H a y v H4) (q:Q H4):Vd x y v H Q
def Mh(td ty:TE):TE:=λσ H Q=>td σ H λx H1=>ty σ H1 λy H2=>VQ x y H2 Q
def gG(ty td:TE):TE:=λσ H Q=>ty σ H λy H1=>td σ H1 λx H2=>WR x y H2 Q
def bJ(ty td:TE):TE:=λσ H Q=>ty σ H λy H1=>td σ H1 λx H2=>∃a o,x=.ref a/\DP H2 a y o/\Q (.bl (!o.isSome)) H2
def V2(td ty tv:TE):TS:=λD σ H=>tv σ H λv H1=>td σ H1 λx H2=>ty σ H2 λy H3=>Vd x y v H3 (D.nx σ)
section
variable {X:Cx} {o i e value:Expr} {pos pos' tpos:Pos} {td ty tv:TE}
theorem ET(hu:X.A.units+1<cLine)(ho:PE X o td)(hi:PE X i ty)(hs:V5 i):PE X (.Subscript o i pos) (Mh td ty):=by
 intro pins s σ H Q I h;refine aJ PySem.F.slot_dict_getitem.lookup hs (Ag (ho pins s σ H _ I h) λu s1 ⟨x,H1,I1,rx,q1⟩=>Ag (hi pins s1 σ H1 _ I1 q1) λiv s2 ⟨y,H2,I2,ry,a,v,ex,g,q2⟩=>?_);subst ex;obtain rfl:u=lO a:=rx;exact⟨XX I2 g,Yb hu I2 g ry λw' s3 I3 rw'=>⟨v,H2,I3,rw',q2⟩⟩
theorem U9(hu:X.A.units+1<cLine)(hi:PE X i ty)(ho:PE X o td):PC X .In i o (gG ty td):=by
 intro pins s σ H Q I h;refine Ag (hi pins s σ H _ I h) λiv s1 ⟨y,H1,I1,ry,q1⟩=>Ag (ho pins s1 σ H1 _ I1 q1) λu s2 ⟨x,H2,I2,rx,a,ov,ex,g,q2⟩=>?_
 subst ex;obtain rfl:u=lO a:=rx;exact gZ hu I2 g ry λs3 I3=>⟨.bl ov.isSome,H2,I3,rfl,q2⟩
theorem NX(hu:X.A.units+1<cLine)(hi:PE X i ty)(ho:PE X o td):PC X .NotIn i o (bJ ty td):=by
 intro pins s σ H Q I h;refine Ag (hi pins s σ H _ I h) λiv s1 ⟨y,H1,I1,ry,q1⟩=>Ag (ho pins s1 σ H1 _ I1 q1) λu s2 ⟨x,H2,I2,rx,a,ov,ex,g,q2⟩=>?_
 subst ex;obtain rfl:u=lO a:=rx;exact b6 hu I2 g ry λs3 I3=>⟨.bl (!ov.isSome),H2,I3,rfl,q2⟩
theorem GC(hu:X.A.units+1<cLine)(ho:PE X o td)(hi:PE X i ty)(hv:PE X value tv)(hs:tY value (some (.Subscript o i pos')) pos.line X.env=pure false):
  PS X (.Assign [.Subscript o i pos'] value pos) (V2 td ty tv):=by
 intro pins s σ H D I h;refine wpAny_Assign_Subscript (Ag (hv pins s σ H _ I h) λr s1 ⟨v,H1,I1,rv,q1⟩=>Ag (ho pins s1 σ H1 _ I1 q1) λu s2 ⟨x,H2,I2,rx,q2⟩=>Ag (hi pins s2 σ H2 _ I2 q2) λiv s3 ⟨y,H3,I3,ry,a,H4,ex,g,q3⟩=>?_) hs;subst ex;obtain rfl:u=lO a:=rx;exact Yt hu I3 g ry rv λs4 I4=>⟨σ,H4,I4,q3⟩
end
theorem RQ{P:j8}{w:World}{H:Hp}(h:Heap)(hb:oO<h.objs.size):Bq P w H (h.push { cls:=.type "dict",data:=.dict #[] }) h.objs.size (.dK []) :=
 ⟨kH _,beq_eq_false_iff_ne.mpr (lF (kS hb)),[],.nil,Heap.DictOf.new h⟩
def UW:TE:=λ_ H Q=>∀p,H p=none->Q (.ref p) (AH H p (.dK []))
section
variable {X:Cx} {pos:Pos}
theorem KR:PE X (.Dict [] [] pos) UW:=λpins s σ H Q I h =>
 wpAny_Dict_empty ⟨.ref s.heap.objs.size,_,I.De (a:=s.heap.objs.size) (o:=.dK []) (t':=s.toks) (λ_ _ q=>jt _ q) (jj _) (RQ s.heap I.Fz),rfl,h _ (I.hok.Bp (jj _))⟩
end
def Oi:List (TE×TE)->St->Hp->(List (V×V)->Hp->Prop)->Prop
 | [],_,H,Q=>Q [] H
 | (tk,tv) :: r,σ,H,Q=>tk σ H λx H1=>tv σ H1 λy H2=>Oi r σ H2 λps H3=>Q ((x,y) :: ps) H3
abbrev VV:List (V×V)->List (Value×Value)->Prop:=qx λp q=>Ax p.1 q.1/\Ax p.2 q.2
def NG(X:Cx)(pos:Pos)(keys:List (Option Expr))(values:List Expr)(trs:List (TE×TE)):Prop :=
 ∀(pins:List (Addr×Obj)) (s:jh) (σ:St) (H:Hp) (Q:List (V×V)->Hp->Prop),AI X pins σ H s->Oi trs σ H Q →
  wpAny (model X.prog X.w) X.A (evalPairs (pairTrees keys values X.env pos)) (λvs s'=>∃ps H',AI X pins σ H' s'/\VV ps vs/\Q ps H') X.xe s
theorem TU{X:Cx}{pos:Pos}:NG X pos [] [] []:=λpins s σ H Q I h=>pairTrees_nil_walk ⟨[],H,I,.nil,h⟩
theorem Nv{X:Cx}{pos:Pos}{k v:Expr}{ks:List (Option Expr)}{vs:List Expr}{tk tv:TE}{trs:List (TE×TE)}(hk:PE X k tk)(hv:PE X v tv)(hr:NG X pos ks vs trs):
  NG X pos (some k :: ks) (v :: vs) ((tk,tv) :: trs):=λpins s σ H Q I h =>
 pairTrees_cons_walk (Ag (hk pins s σ H _ I h) λu s1 ⟨x,H1,I1,rx,q1⟩=>Ag (hv pins s1 σ H1 _ I1 q1) λw2 s2 ⟨y,H2,I2,ry,q2⟩ =>
  Ag (hr pins s2 σ H2 _ I2 q2) λws s3 ⟨ps,H3,I3,rel,q3⟩=>⟨(x,y) :: ps,H3,I3,.cons ⟨rx,ry⟩ rel,q3⟩)
def Ff(kvs more:List (Aa×V)):List (Aa×V):=more.foldl (λacc kv=>CN acc kv.1 kv.2) kvs
theorem KV.gC:∀{more:List (Aa×V)} {rs:List (Aa×Value)} {kvs:List (Aa×V)} {vs:List (Aa×Value)},KV more rs->KV kvs vs->KV (Ff kvs more) (merged vs rs):=by
 intro more rs kvs vs r;unfold KV at r
 induction r generalizing kvs vs with
 | nil=>intro q; exact q
 | @cons p q ps qs h t ih =>
  intro r0;have e:KV (CN kvs p.1 p.2) (stored vs q.1 q.2):=by
   have:=r0.put p.1 h.2
   rw[<-h.1]; exact this
  exact ih e
theorem QN:∀(more kvs:List (Aa×V)),(Ff kvs more).length<=kvs.length+more.length
 | [],kvs=>by show kvs.length<=kvs.length+0; omega
 | p :: r,kvs=>by
  have h1:=QN r (CN kvs p.1 p.2);have h2:=NK kvs p.1 p.2;show(Ff (CN kvs p.1 p.2) r).length<=_;rw[ka]; omega
theorem Qd{P:j8}{w:World}:∀{kvs:List (Aa×V)} {ws:List (Value×Value)},VV (kvs.map λkv=>(kV kv.1,kv.2)) ws->∃rs,Carries (D1 P w) ws rs/\KV kvs rs
 | [],_,r=>by rw[kR] at r; cases r; exact⟨[],nD,.nil⟩
 | p :: kvs,_,r=>by
  rw[jx] at r;cases r with
  | @cons a b as bs h t =>
   obtain⟨rs,c,q⟩:=Qd (P:=P) (w:=w) t;obtain⟨b1,b2⟩:=b;exact⟨(p.1,b2) :: rs,⟨Jq h.1,rfl,c⟩,.cons ⟨rfl,h.2⟩ q⟩
def eJ(trs:List (TE×TE)):TE:=λσ H Q=>∀p,H p=none->Oi trs σ (AH H p (.dK [])) λps H2=>H2 p=some (.dK [])/\∃kvs:List (Aa×V),ps=kvs.map (λkv=>(kV kv.1,kv.2))/\kvs.length<=15/\Q (.ref p) (AH H2 p (.dK (Ff [] kvs)))
theorem S1 {X:Cx} {pos:Pos} {keys:List (Option Expr)} {values:List Expr} {trs:List (TE×TE)} (h:NG X pos keys values trs) (hall:keys.all (·.isSome)=true) (hl:keys.length=values.length) (h0:keys≠[])
  (h15:keys.length<=15):PE X (.Dict keys values pos) (eJ trs):=by
 intro pins s σ H Q I q;have hn:=I.hok.Bp (jj s.heap.objs.size);have I1:=I.De (a:=s.heap.objs.size) (o:=.dK []) (h':=s.heap.push { cls:=.type "dict",data:=.dict #[] }) (t':=s.toks) (λ_ _ q=>jt _ q) (jj _) (RQ s.heap I.Fz);refine wpAny_Dict_walk (knd:=D1 X.prog X.w) hall hl h0 h15 (Ag (h pins _ σ _ _ I1 (q _ hn)) λws s2 ⟨ps,H2,I2,rel,e,kvs,ep,lk,q2⟩=>?_);subst ep;obtain⟨rs,c,rk⟩:=Qd (P:=X.prog) (w:=X.w) rel;obtain⟨z,hd,vs0,r0,dd⟩:=Vv I2.hok e;cases r0;refine⟨rs,c,dd,λh' dd' hs=>⟨.ref s.heap.objs.size,_,?_,rfl,q2⟩⟩;have hz:(Ff [] kvs).length<=jR:=by
  have h1:=QN kvs [];rw[mT] at h1;rw[nF]; omega
 have he:∃q,h'.get? s.heap.objs.size=some q:=let ⟨q,_,_,hq,_⟩:=dd'; ⟨q,hq⟩
 exact OX I2 (by rw[e]; exact nD) hs he (UP hz hd (rk.gC .nil) dd')
structure M1(X:Cx)(o:Expr)(m:Str)(apos:Pos)(e:Expr)(cpos:Pos):Prop where
 base:qB o m X.env (eval o X.env)=eval o X.env
 few:((nh cpos (kc [e] X.env)).all (λx=>!x.1) && (uK cpos (rL [] X.env)).all (λx=>x.1.isSome)
  && decide (([e]:List Expr).length+([]:List pF).length+(if ([]:List pF).isEmpty then 0 else 1)<30))=true
 line:(apos.endLine == cpos.line)=true
 eF:nh cpos (kc [e] X.env)=[(false,eval e X.env)]
structure M2(X:Cx)(o:Expr)(m:Str)(apos:Pos)(e f:Expr)(cpos:Pos):Prop where
 base:qB o m X.env (eval o X.env)=eval o X.env
 few:((nh cpos (kc [e,f] X.env)).all (λx=>!x.1) && (uK cpos (rL [] X.env)).all (λx=>x.1.isSome)
  && decide (([e,f]:List Expr).length+([]:List pF).length+(if ([]:List pF).isEmpty then 0 else 1)<30))=true
 line:(apos.endLine == cpos.line)=true
 eF:nh cpos (kc [e,f] X.env)=[(false,eval e X.env),(false,eval f X.env)]
section
variable {X:Cx} {pins:List (Addr×Obj)} {σ:St} {H:Hp} {s:jh} {a:Addr} {y d:V} {u r:Value} {o:Option V} {A:kK} {E:Value->jh->Prop}
end
section
variable {X:Cx} {o e f:Expr} {apos cpos:Pos} {td ty tx:TE}
end
section
variable {X:Cx} {pins:List (Addr×Obj)} {σ:St} {H:Hp} {s:jh} {a:Addr} {kvs:List (Aa×V)} {A:kK} {E:Value->jh->Prop}
end
section
variable {X:Cx} {pins:List (Addr×Obj)} {σ:St} {H:Hp} {s:jh} {a:Addr} {y:V} {u:Value} {A:kK} {E:Value->jh->Prop}
end
end L2
namespace Att
open PySem PySem.W PySem.Calls PyProof.Rows
theorem XD{P:Params}{h:Heap}:∀(ns:List Int) (vs:List Value),WellAll P h vs (ns.map WData.int)->rA vs ns:=by
 intro ns
 induction ns with
 | nil =>
  intro vs w;rw[kR] at w;cases w;exact .nil
 | cons n ns ih =>
  intro vs w;rw[jx] at w;cases w with
  | cons a b =>
   cases a;exact .cons _ _ (ih _ b)
theorem Yl {l:OpenLaw} {n:Nat} (hn:l.most=some n) {P:Params} {h:Heap} {args:List WData} {vals:List Value}
  (hpre:l.row.toRowW.claim.pre args=true) (hwl:WellAll P h vals args) :
  ∃a vs ns,vals=[lO a]/\args=[WData.list (ns.map WData.int)]/\h.get? a=some { cls:=.type "list",data:=.seq vs.toArray }/\rA vs ns/\ns.length<=n:=by
 have hsh:WShape.hasAll [] args [.list .int]=true:=(pre_splitW hpre).1;have hc:l.pre.holds [] { args:=args }=true:=(pre_splitW hpre).2;obtain⟨d,r,rfl,h1,h2⟩:=hasAllW_cons hsh;obtain rfl:=hasAllW_nil h2;obtain⟨xs,rfl,h3⟩:=hasW_list h1;obtain⟨ns,rfl⟩:=items_int h3;have hlen:ns.length<=n:=by
  unfold OpenLaw.pre at hc;have h4:(WTm.not (.lt (.lit (.int (n:Int))) (.len (.arg 0)))).holds [] { args:=[.list (ns.map .int)] }=true:=by
   have h4:=(holds_andW hc).1;rw[hn] at h4;exact h4
  have h5:=condW_of h4 (w_not (w_lt w_lit (w_len_list (w_arg rfl))));rw[ja] at h5;refine Nat.le_of_not_lt λq=>?_
  have q':(n:Int)<((ns.length:Nat):Int):=by omega
  first
   | (rw[mQ q'] at h5; exact absurd h5 (by decide))
   | (simp at h5; omega)
 cases hwl with
 | cons w1 w2 =>
  cases w2;cases w1 with
  | list ho hall=>exact⟨_,_,ns,rfl,rfl,ho,XD ns _ hall,hlen⟩
theorem Yc(l:OpenLaw)(args:List WData):l.row.toRowW.claim.post args (.bool true) args=true :=
 postW_of (r:=l.row.toRowW) (X:=(true == true))
  (show WShape.has [] (.bool true) .bool=true by first | rfl | decide | simp[WShape.has,WShape.arms,WShape.armsAll])
  (show(WTm.eq .res (.lit (.bool true))).value [] { args:=args,res:=some (.bool true),after:=args }=some (.bool (true == true)) from w_eq_bool (w_res rfl) w_lit) rfl
theorem XS {l:OpenLaw} {n:Nat} {q:j8} {loose:List Str} {XP:(Str->Option Value)->Heap->Prop} {YP:World->Heap->Prop} {d:DefRec}
  (hn:l.most=some n) (hdf:d.params.defaults=[])
  (call:∀(w:World) (s₀ s₁:jh) (mg mb:Str->Option Value) (fa:Addr) (o:Obj) (pm cd doc:Value) (a:Addr) (vs:List Value) (ns:List Int),
   Ground q loose [] XP w s₀ mg mb s₁.heap->YP w s₁.heap →
   s₁.heap.get? fa=some o->o.data=.func (docDef d.name d.params d.body d.scope pm cd doc)->s₁.heap.CodeRec cd d.name->mg d.name=some (.ref fa) →
   s₁.heap.get? a=some { cls:=.type "list",data:=.seq vs.toArray }->rA vs ns->ns.length<=n->s₁.gens = #[] →
   uD (model l.prog w) sY (.call (.ref fa) ⟨[.ref a],[]⟩) (λr s'=>r=.ok (.ret (.bool true))/\OldK s₁.heap s'.heap/\s'.os=s₁.os/\qF s'.gens) s₁) :
  WalkO q loose XP YP l.row.toRowW d [] (λf vs=>wV f vs):=by
 intro w s₀ s₁ mg mb G Y fa o pm cd doc dV kV ho hd hcd hD hmg hg args vals as hpre hlay hrd hwl hlo;obtain rfl:dV=.none:=Dflts.none hD hdf;obtain rfl:kV=.none:=Dflts.noKw hD;obtain⟨a,vs,ns,rfl,rfl,hobj,hints,hlen⟩:=Yl hn hpre hwl;refine enter_call (vE (call w s₀ s₁ mg mb fa o pm cd doc a vs ns G Y ho (fd_plain hd) hcd hmg hobj hints hlen hg) λr s' hq=>?_);obtain⟨rfl,h2,h3,h4⟩:=hq;exact⟨.inl ⟨.bool true,.bool true,[],rfl,λ_=>rfl,.bool true,Yc l _,λ_=>⟨mq.nil,λ_ hm=>(nomatch hm)⟩⟩,h2,h3,h4⟩
section
variable {prog:j8} {w:World} {A:kK} {E:Value->jh->Prop} {s:jh} {K:Frag}
def i8(h:Heap)(L d:Addr):List (Addr×Obj):=(ju h.objs.size).filterMap λa=>if a=L\/a=d then none else (h.get? a).map λo=>(a,o)
end
end Att
namespace L2
open PySem PySem.Spec PyProof.Rows
theorem Qz:∀{vs:List Value} {ns:List Int},rA vs ns->Ah (ns.map V.int) vs
 | _,_,.nil=>.nil
 | _,_,.cons n t h=>.cons ⟨t,rfl⟩ (Qz h)
def Pc(H:Hp):Prop:=∀b,H b=none\/∃o xs,H b=some (.EL o (.AD xs))
theorem Z6 {P:j8} {w:World} {K:jk} {mg mb:Str->Option Value} {CX:Ej} {k:Nat} {fa a:Addr} {fd:kF} {x:Str} {sp:Sp} {s₁:jh} {vs:List Value} {ns:List Int}
  (KX:K.In s₁.heap) (hns:s₁.heap.Ns lW mg) (hb:s₁.heap.Ns wZ mb) (hbb:∀x:Str,x≠"__name__"->mb x=k7 x) (hlim:s₁.heap.NoLimit) (hg:s₁.gens = #[])
  (ha:s₁.heap.get? a=some { cls:=.type "list",data:=.seq vs.toArray }) (hi:rA vs ns) (hl:ns.length<=jR) (hr:Cs k sY)
  (F:∀base:Heap,K.In base->base.Ns lW mg->An P w K mg base CX k fa fd [x] sp) (hbind:∀(s:jh) (u:Value),uq s fd ⟨[u],[]⟩ [(x,u)])
  (hsp:∀H:Hp,Pc H->AR K H a (ns.map V.int)->sp [.ref a] H (λv _=>v=.bl true) λ_ _ _=>False)
  (hCX:∀H e s',CX [] H s₁ (λ_ _ _=>False) e s'->False) :
  uD (model P w) sY (.call (.ref fa) ⟨[.ref a],[]⟩) (λr s'=>r=.ok (.ret (.bool true))/\OldK s₁.heap s'.heap/\s'.os=s₁.os/\qF s'.gens) s₁:=by
 have rv:=Qz hi;have lenV:=hi.length;have core:∀H:Hp,Pc H->AR K H a (ns.map V.int)->By P w H s₁.heap->(∀b,H b≠none->b=a)->(H a≠none->K.lookup a=none) →
   uD (model P w) sY (.call (.ref fa) ⟨[.ref a],[]⟩) (λr s'=>r=.ok (.ret (.bool true))/\OldK s₁.heap s'.heap/\s'.os=s₁.os/\qF s'.gens) s₁:=by
  intro H hO hS hok hA hK;have base_of:∀{b:Addr} {o:Obj},s₁.heap.get? b=some o->H b=none->(GX s₁.heap H).get? b=some o:=λe n=>Z4 e n
  have noA:∀{b:Addr} {o:Obj} {es:Array DictEntry} {ep:Nat},s₁.heap.get? b=some o->o.data=.dict es ep->H b=none:=λ{b o es ep} e d=>by
   cases q:H b with
   | none=>rfl
   | some u =>
    have e':b=a:=hA b (by rw[q]; simp);subst e';rw[ha] at e; cases e;have d':Data.seq vs.toArray _=Data.dict es ep:=d;cases d'
  have nsK:∀{b:Addr} {m:Str->Option Value},s₁.heap.Ns b m->(GX s₁.heap H).Ns b m:=λ{b m} ⟨o,es,ep,e,d,r⟩=>⟨o,es,ep,base_of e (noA e d),d,r⟩
  have hKb:K.In (GX s₁.heap H):=λb o e=>base_of (KX b o e) (by
   cases q:H b with
   | none=>rfl
   | some u =>
    have e':b=a:=hA b (by rw[q]; simp);subst e';rw[hK (by rw[q]; simp)] at e; cases e)
  have hM:Mod K mg (GX s₁.heap H):=⟨hKb,nsK hns,⟨mb,nsK hb,hbb⟩,let ⟨mc,h1,h2⟩:=hlim; ⟨mc,nsK h1,h2⟩⟩;have e0:Im P w K mg (GX s₁.heap H) sY [] s₁ H:=⟨rfl,hM,λb o e=>aG e,Nat.le_of_eq (Ye _ _),trivial,λb hb=>absurd (show b∈([]:List Addr) from hb) (by simp),hok,.of_eq hg⟩;refine vE ((F _ hKb (nsK hns)).run sY [] s₁ H ⟨[.ref a],[]⟩ [.ref a] [.ref a] _ _ hr e0 (hbind s₁ (.ref a)) (.cons rfl .nil) (hsp H hO hS)) λr s' h=>?_
  cases r with
  | error e=>exact(hCX H e s' h).elim
  | ok fl =>
   cases fl with
   | next=>exact kY h
   | brk=>exact kY h
   | cont=>exact kY h
   | ret u =>
    obtain⟨v,H',os,bare,un,hok',r',q⟩:=h;have q':v=.bl true:=q;subst q';obtain rfl:u=nY true:=r';refine⟨rfl,OldK.of_keep λb o e=>?_,os,bare⟩;cases q:H b with
    | none=>exact un.keep b o e q (by intro z; exact absurd (show b∈([]:List Addr) from z) (by simp)) (by simp)
    | some u =>
     rcases hO b with z | ⟨ob,xs,z⟩
     ·rw[q] at z; cases z
     ·have z2:=un.frzs b ob _ z;obtain⟨e1,_⟩:=hok b _ z;obtain⟨e2,_⟩:=hok' b _ z2;rw[e] at e1; cases e1;exact e2
 cases hk:K.lookup a with
 | some o =>
  have e:=KX a o hk;rw[ha] at e;cases e;refine core (λ_=>none) (λ_=>.inl rfl) (.inr ⟨_,vs.toArray,_,hk,rfl,rfl,rfl,by rw[jJ,lenV]; exact hl,by simpa using rv⟩) (λb u z=>by have z':(none:Option HO)=some u:=z; cases z') (λb z=>absurd rfl z) λz=>absurd rfl z
 | none =>
  refine core (λb=>if b=a then some (.EL { cls:=.type "list",data:=.seq vs.toArray } (.AD (ns.map V.int))) else none) (λb=>?_) (.inl (.inr ⟨{ cls:=.type "list",data:=.seq vs.toArray },jq rfl⟩)) (λb u z=>?_) (λb z=>?_) λ_=>hk
  ·by_cases hb:b=a
   ·exact .inr ⟨_,_,jq hb⟩
   ·exact .inl (jm hb)
  ·by_cases hb:b=a
   ·have z':=(jq hb).symm.trans z;cases z';subst hb;exact⟨ha,by rw[ja]; exact hl,vs,_,rv,ha⟩
   ·have z':=(jm hb).symm.trans z;cases z'
  ·by_cases hb:b=a
   ·exact hb
   ·exact absurd (jm hb) z
abbrev jF{K:jk}{h:Heap}(_:K.In h):jk:=K
theorem aW {l:qS} {n k:Nat} {q:j8} {loose:List Str} {XP:(Str->Option Value)->Heap->Prop} {YP:World->Heap->Prop} {d:DefRec} {K:Params->jk} {CX:World->Ej} {sp:World->Sp} {x:Str}
  (hn:l.most=some n) (hn2:n<=jR) (hdf:d.params.defaults=[]) (hr:Cs k sY)
  (hY:∀(w:World) (h:Heap),YP w h->(K w.params).In h)
  (F:∀(w:World) (mg:Str->Option Value) (fa:Addr) (h:Heap),(K w.params).In h->h.Ns lW mg->mg d.name=some (.ref fa) →
   ∃fd:kF,(∀(s:jh) (u:Value),uq s fd ⟨[u],[]⟩ [(x,u)]) /\
    ∀base:Heap,(K w.params).In base->base.Ns lW mg->An l.prog w (K w.params) mg base (CX w) k fa fd [x] (sp w))
  (hsp:∀(w:World) (H:Hp) (a:Addr) (ns:List Int),ns.length<=n->Pc H->AR (K w.params) H a (ns.map V.int)->sp w [.ref a] H (λv _=>v=.bl true) λ_ _ _=>False)
  (hCX:∀(w:World) (H:Hp) (s:jh) (e:Value) (s':jh),CX w [] H s (λ_ _ _=>False) e s'->False) :
  xt q loose XP YP l.row.toRowW d [] (λf vs=>wV f vs):=by
 refine Att.XS hn hdf λw s₀ s₁ mg mb fa o pm cd doc a vs ns G Y ho hd hcd hmg hobj hints hlen hg=>?_
 have KX:=hY w _ Y;obtain⟨fd,hb,hF⟩:=F w mg fa _ KX G.T.g hmg;exact Z6 KX G.T.g G.T.b G.T.builtins G.T.nolimit hg hobj hints (jW hlen hn2) hr hF hb (λH hO hS=>hsp w H a ns hlen hO hS) λH e s'=>hCX w H s₁ e s'
def Fc(s:Stmt):Arguments:=match s with
 | .FunctionDef _ a _ _ _ _ _ _ _ _=>a
 | _=>{ posonlyargs:=[],args:=[],vararg:=none,kwonlyargs:=[],kw_defaults:=[],kwarg:=none,defaults:=[] }
def El(s:Stmt):List Stmt:=match s with
 | .FunctionDef _ _ b _ _ _ _ _ _ _=>b
 | _=>[]
def Ao(s:Stmt):Scope:=match s with
 | .FunctionDef _ _ _ _ _ _ sc _ _ _=>sc
 | _=>{ kind:=.function,names:=[],isGenerator:=false,isCoroutine:=false }
abbrev Av:Ej:=λ_ _ _ _ _ _=>False
abbrev E0:XK:=λ_ _ _=>False
theorem fC{X:Cx}:Oe Av X E0:=λ_ _ _ _ _ _ _ h=>h.elim
structure Ar(K:jk)(x qual:Str)(st:Stmt)(f:Addr)(fd:kF):Prop where
 ex:∃(oc:Value) (od:Option Addr) (kV doc pm:Value) (an:Option Addr) (cdv ct:Value) (osl:Array (Option Value)),
  fd=mN x qual (Fc st) (El st) (Ao st) .none kV doc pm an cdv ct/\K.lookup f=some ⟨oc,od,.func fd,osl⟩/\rC K cdv qual=true
 kp:KP K f
section
variable {P:j8} {w:World} {K:jk} {mg:Str->Option Value} {base:Heap}
theorem Ar.ok {x qual:Str} {st:Stmt} {f:Addr} {fd:kF} {N ps:List Str} {k:Nat} {sp:Sp} (F:Ar K x qual st f fd) (S:Ay N ps (Ao st)) (len:∀vs H Q E,sp vs H Q E->vs.length=ps.length)
  (hbody:∀(cdv:Value) (A:kK) (outer:List Env) (s:jh) (H:Hp) (vs:List V) (Q:VK) (E:XK),Cs k (A.deeper (qU qual (Ao st) s.heap.objs.size f cdv))->sp vs H Q E →
   ∃t,DC (Ip Av P w K mg base N qual (Ao st) f cdv A outer s H E).Gh (El st) t/\t { nx:=λ_ H'=>Q .BE H',rt:=Q } (GP N vs) H):An P w K mg base Av (k+1) f fd ps sp:=by
 obtain⟨oc,od,kV,doc,pm,an,cdv,ct,osl,rfl,lk,hcd⟩:=F.ex;refine fT lk hcd S len λA outer s H vs Q E hr hsp=>?_
 obtain⟨t,h,q⟩:=hbody cdv A outer s H vs Q E hr hsp;exact⟨t,h.Gh,q⟩
theorem Ar.binds {x qual:Str} {st:Stmt} {f:Addr} {fd:kF} {ps:List Str} (F:Ar K x qual st f fd)
  (h:∀(kV doc pm:Value) (an:Option Addr) (cdv ct:Value) (us:List Value),us.length=ps.length->tL (mN x qual (Fc st) (El st) (Ao st) .none kV doc pm an cdv ct) ⟨us,[]⟩=pure (ps.zip us)):EV K fd ps []:=by
 obtain⟨oc,od,kV,doc,pm,an,cdv,ct,osl,rfl,lk,hcd⟩:=F.ex;exact .all (h kV doc pm an cdv ct)
theorem VA {x qual:Str} {st:Stmt} {f:Addr} {oc:Value} {od an:Option Addr} {osl:Array (Option Value)} {kV doc pm cdv ct:Value} (l:K.lookup f=some ⟨oc,od,.func (mN x qual (Fc st) (El st) (Ao st) .none kV doc pm an cdv ct),osl⟩)
  (c:rC K cdv qual=true) (k:KP K f):Ar K x qual st f (mN x qual (Fc st) (El st) (Ao st) .none kV doc pm an cdv ct):=⟨⟨oc,od,kV,doc,pm,an,cdv,ct,osl,rfl,l,c⟩,k⟩
end
theorem FD{A:kK}{k:Nat}(hr:Cs k A):A.units+1<cLine:=lI (Nat.add_le_add_left (by decide:1<=64) _) hr.units
section
variable {X:Cx}
theorem pv (i:Nat) {x:Str} {pos:Pos} (hN:X.N[i]?=some x:=by rfl) (hv:QE X.env.scope x:=by first | exact jn rfl | exact om (jn rfl) | exact om (om rfl)) (hd:(x == ("__debug__":Str))=false:=by decide)
  (hcd:(x == ("__classdict__":Str))=false:=by decide):PE X (.Name x pos) (Ap i):=cw hN hv hd hcd
end
theorem C9{A B:Prop}(h:B):if false=true then A else B:=by
 rw[jm j0];exact h
theorem Ey{A B:Prop}(h:A):if true=true then A else B:=by
 rw[jq rfl];exact h
theorem LG{c A B:Prop}[Decidable c](h1:c->A)(h2:¬c->B):if c then A else B:=by
 by_cases h:c
 ·rw[jq h];exact h1 h
 ·rw[jm h];exact h2 h
theorem Ep{c A B:Prop}[Decidable c](hc:c)(h:B):if (!decide c)=true then A else B:=by
 rw[mQ hc];exact C9 h
def AN(H H':Hp):Prop:=∀b o,H b=some o->H' b=some o
theorem AN.refl(H:Hp):AN H H:=λ_ _ h=>h
theorem AN.trans{H H1 H2:Hp}(a:AN H H1)(b:AN H1 H2):AN H H2:=λc o h=>b c o (a c o h)
theorem AN.free{H H':Hp}(e:AN H H'){l:Addr}(h:H' l=Option.none):H l=Option.none:=by
 cases q:H l with
 | none=>rfl
 | some o =>
  rw[e l o q] at h;cases h
theorem AN.seq{K:jk}{H H':Hp}{a:Addr}{xs:List V}(e:AN H H')(h:AR K H a xs):AR K H' a xs:=by
 rcases h with (h | ⟨o,h⟩) | h
 ·exact .inl (.inl (e _ _ h))
 ·exact .inl (.inr ⟨o,e _ _ h⟩)
 ·exact .inr h
section
variable {X:Cx}
theorem Nb:C6 X (.builtin "len") (λxs H Q=>∃a kvs,xs=[V.ref a]/\H a=some (.dK kvs)/\Q (.int kvs.length) H):=by
 intro pins s σ H xs us Q I r h;obtain⟨a,kvs,rfl,ha,q⟩:=h;obtain⟨u,rfl,ru⟩:=En r;cases ru;exact fk I (.inl ha) λt s' I'=>⟨.int kvs.length,H,I',⟨t,rfl⟩,q⟩
end
section
variable {κ:Type} [DecidableEq κ]
end
end L2
namespace L2
open PySem
def DK(h h':Heap):Prop:=∀a o,h.get? a=some o->∃o',h'.get? a=some o'/\o'.dict=o.dict
theorem DK.refl(h:Heap):DK h h:=λ_ o e=>⟨o,e,rfl⟩
theorem DK.trans{h1 h2 h3:Heap}(x:DK h1 h2)(y:DK h2 h3):DK h1 h3:=λa o e=>by
 obtain⟨o1,e1,d1⟩:=x a o e;obtain⟨o2,e2,d2⟩:=y a o1 e1;exact⟨o2,e2,d2.trans d1⟩
theorem Yv{h:Heap}{a:Addr}{o:Obj}(e:h.get? a=some o):o.isFreed=false:=by
 unfold Heap.get? at e;split at e
 ·cases e
 ·rename_i x hx
  obtain⟨c,d,dt,sl⟩:=o;cases dt <;> first | rfl | (exact absurd e (hx _ _ _))
theorem DK.AH{h:Heap}{a:Addr}{f:Obj->Obj}(hf:∀o,(f o).dict=o.dict/\(f o).isFreed=o.isFreed):DK h (h.update a f):=λb o e=>by
 by_cases hb:a=b
 ·subst hb;exact⟨f o,qH f e ((hf o).2.trans (Yv e)),(hf o).1⟩
 ·exact⟨o,(qt h f hb).trans e,rfl⟩
theorem DK.push(h:Heap)(x:Obj):DK h (h.push x):=λ_ o e=>⟨o,jt x e,rfl⟩
structure KpD{α:Type}(t:Sem α):Prop where
 out:∀(M:Model) (Γ:Ctx) (Q:α->Pos->jh->Prop) (E:Value->Pos->jh->Prop) (p:Pos) (s:jh),Sem.wp M Γ t Q E p s->Sem.wp M Γ t (λa p' s'=>Q a p' s'/\DK s.heap s'.heap) E p s
namespace KpD
variable {α β:Type}
theorem pure(a:α):KpD (Pure.pure a:Sem α):=⟨λ_ _ _ _ _ s h=>⟨h,DK.refl _⟩⟩
theorem unsupported(w:String):KpD (PySem.unsupported w:Sem α):=⟨λ_ _ _ _ _ _ h=>h⟩
theorem bind{m:Sem α}{f:α->Sem β}(hm:KpD m)(hf:∀a,KpD (f a)):KpD (m >>= f):=⟨λM Γ Q E p s h=>by
 rw[Sem.wp_bind'] at h ⊢;refine Sem.wp_mono M Γ m (λa p' s' ⟨q,k⟩=>?_) (λ_ _ _ z=>z) p s (hm.out M Γ _ E p s h);exact Sem.wp_mono M Γ (f a) (λb p2 s2 ⟨q2,k2⟩=>⟨q2,k.trans k2⟩) (λ_ _ _ z=>z) p' s' ((hf a).out M Γ Q E p' s' q)⟩
theorem ite{c:Prop}[Decidable c]{t u:Sem α}(ht:KpD t)(hu:KpD u):KpD (if c then t else u):=by split <;> assumption
theorem load(a:Addr):KpD (PySem.load a):=⟨λ_ _ _ _ _ _ h=>by
 obtain⟨o,e,q⟩:=h;exact⟨o,e,q,DK.refl _⟩⟩
theorem stack:KpD PySem.stack:=⟨λ_ _ _ _ _ _ h=>⟨h,DK.refl _⟩⟩
theorem update(a:Addr){f:Obj->Obj}(hf:∀o,(f o).dict=o.dict/\(f o).isFreed=o.isFreed):KpD (PySem.update a f):=⟨λ_ _ _ _ _ _ h=>⟨h.1,h.2,DK.AH hf⟩⟩
theorem alloc(x:Obj):KpD (PySem.alloc x):=⟨λ_ _ _ _ _ _ h=>⟨h,DK.push _ _⟩⟩
theorem field(v:Value)(i:Nat):KpD (PySem.field v i):=⟨λM Γ Q E p s h=>by
 rw[wp_field_iff] at h ⊢;obtain⟨a,o,vs,x,e,ho,hd,hx,q⟩:=h;exact⟨a,o,vs,x,e,ho,hd,hx,q,DK.refl _⟩⟩
theorem gN(g:Array Value->Array Value)(o:Obj):(o.mapFields g).dict=o.dict/\(o.mapFields g).isFreed=o.isFreed:=by
 obtain⟨c,d,dt,sl⟩:=o;cases dt <;> exact⟨rfl,rfl⟩
theorem setField(v:Value)(i:Nat)(x:Value):KpD (PySem.setField v i x):=⟨λM Γ Q E p s h=>by
 rw[wp_setField_iff] at h ⊢;obtain⟨a,o,vs,e,ho,hd,hi,q⟩:=h;exact⟨a,o,vs,e,ho,hd,hi,q,DK.AH (gN _)⟩⟩
theorem newFields(ty:String)(vs:List Value):KpD (wW ty vs):=by
 unfold wW newObj newObjAsIs;dsimp only;split
 all_goals repeat' with_reducible first
  | exact unsupported _
  | exact alloc _
  | exact pure _
  | apply bind
  | intro _
theorem slotF(g:Obj->Array (Option Value))(o:Obj):({ o with slots:=g o }:Obj).dict=o.dict/\({ o with slots:=g o }:Obj).isFreed=o.isFreed:=by
 obtain⟨c,d,dt,sl⟩:=o;cases dt <;> exact⟨rfl,rfl⟩
end KpD
local macro_rules
 | `(tactic| trivial)=>`(tactic| (repeat' with_reducible first
  | assumption
  | exact KpD.pure _
  | exact KpD.unsupported _
  | exact KpD.field _ _
  | exact KpD.setField _ _ _
  | exact KpD.newFields _ _
  | exact KpD.load _
  | exact KpD.update _ (KpD.slotF _)
  | exact KpD.stack
  | exact KpD.alloc _
  | apply KpD.ite
  | apply KpD.bind
  | intro _
  | split))
end L2
namespace L2
open PySem PySem.Spec PyProof.Rows
def V8(B:Heap)(l:List Env)(a:Addr)(cls:Value)(t:Addr)(od:Option Addr)(h:Heap):Prop:=Heap.FlyingW B l a cls (.ref t) h/\∃o,h.get? a=some o/\o.dict=od
theorem V8.there{B h:Heap}{l:List Env}{a t:Addr}{cls:Value}{od:Option Addr}(x:V8 B l a cls t od h):∃o,h.get? a=some o/\o.cls=cls/\o.dict=od/\∃vs,o.data=.fields vs:=by
 obtain⟨o,e,d⟩:=x.2;obtain⟨o2,vs,e2,c,f,_⟩:=x.1.first;rw[e] at e2;cases e2;exact⟨o,e,c,d,vs,f⟩
theorem DK.dict{h h':Heap}{a:Addr}{od:Option Addr}(k:DK h h')(x:∃o,h.get? a=some o/\o.dict=od):∃o,h'.get? a=some o/\o.dict=od:=by
 obtain⟨o,e,d⟩:=x;obtain⟨o',e',d'⟩:=k a o e;exact⟨o',e',d'.trans d⟩
section
variable {X:Cx} {pins:List (Addr×Obj)} {σ:St} {H:Hp} {s s':jh} {E:XK} {e:Value}
end
section
variable {P:j8} {w:World} {K:jk} {mg:Str->Option Value} {base:Heap} {N:List Str} {qual:Str} {scope:Scope} {f:Addr} {cd:Value} {A:kK} {outer:List Env} {s₀:jh} {H₀:Hp} {E:XK}
end
section
variable {M:Model} {A:kK} {E:Value->jh->Prop} {s:jh} {B:Heap} {env:Env} {outer l:List Env} {L e t:Addr} {cls:Value} {od:Option Addr} {Q:Unit->jh->Prop}
end
def Cm(X:Cx)(scope:Scope)(cl:List (Str×Addr))(C:Addr)(Nc:List Str)(ex:List Addr)(pins:List (Addr×Obj))(s₀:jh)(H₀:Hp):Cx where
 prog:=X.prog
 w:=X.w
 K:=X.K
 mg:=X.mg
 base:=X.base
 A:=X.A
 N:=Nc
 s₀:=s₀
 H₀:=H₀
 env:=compEnvC scope cl C X.env
 outer:=X.stack
 stack:=X.stack
 ex:=ex
 fn:=λy=>scope.names.lookup y == some .local
 Cr:=true
 pn:=X.pn++pins
 xe:=λ_ _=>False
structure Gu(X:Cx)(scope:Scope)(cl:List (Str×Addr))(Nc:List Str)(cap:List (Nat×Nat)):Prop where
 clos:closureFor scope X.env=pure cl
 kind:scope.kind=.function
 names:∀y∈scope.names,y.2=.local->scope.names.lookup y.1=some .local
 nocell:∀y∈scope.names,y.2≠.cell
 Di:∀x c,cl.lookup x=some c->X.env.cells.lookup x=some c/\scope.names.lookup x≠some .local
 has:∀x,((uF scope X.env).names.lookup x=some .cell\/(uF scope X.env).names.lookup x=some .free)->∃c,cl.lookup x=some c
 caps:∀j i,(j,i)∈cap->∃x c,Nc[j]?=some x/\X.N[i]?=some x/\cl.lookup x=some c/\X.env.scope.names.lookup x=some .cell/\(uF scope X.env).names.lookup x=some .cell
theorem CB {X:Cx} {scope:Scope} {cl:List (Str×Addr)} {Nc:List Str} {cap:List (Nat×Nat)} (clos:closureFor scope X.env=pure cl) (kind:scope.kind=.function) (names:∀y∈scope.names,y.2=.local->scope.names.lookup y.1=some .local) (nocell:∀y∈scope.names,y.2≠.cell)
  (subs:∀p∈cl,X.env.cells.lookup p.1=some p.2/\scope.names.lookup p.1=some .free) (hass:((uF scope X.env).names.all λp=>(p.2 != .cell && p.2 != .free) || (cl.lookup p.1).isSome)=true)
  (caps:∀p∈cap,∃x c,Nc[p.1]?=some x/\X.N[p.2]?=some x/\cl.lookup x=some c/\X.env.scope.names.lookup x=some .cell/\(uF scope X.env).names.lookup x=some .cell):Gu X scope cl Nc cap :=
 ⟨clos,kind,names,nocell,λx c e=>⟨(subs (x,c) (mF e)).1,λz=>by
  have:=(subs (x,c) (mF e)).2
  rw[z] at this;cases this⟩,λx e=>by
  have key:∀k,(uF scope X.env).names.lookup x=some k->(k=.cell\/k=.free)->∃c,cl.lookup x=some c:=λk e hk=>by
   have:=tf.mp hass (x,k) (mF e)
   rcases hk with rfl | rfl
   ·exact pV.mp (by simpa using this)
   ·exact pV.mp (by simpa using this)
  rcases e with e | e
  ·exact key _ e (.inl rfl)
  ·exact key _ e (.inr rfl),λj i m=>caps (j,i) m⟩
def IY(n:Nat)(cap:List (Nat×Nat))(σ:St):St:=(ju n).map λj=>((cap.find? λp=>p.1 == j).bind λp=>σ[p.2]?).bind id
theorem Yo{n:Nat}{cap:List (Nat×Nat)}{σ:St}{j:Nat}{v:V}(h:(IY n cap σ)[j]?=some (some v)):∃i,(j,i)∈cap/\σ[i]?=some (some v):=by
 unfold IY at h;rw[ji] at h;cases e:(ju n)[j]? with
 | none=>rw[e] at h; cases h
 | some k =>
  rw[e] at h;have hk:k=j:=by
   obtain⟨hl,q⟩:=jc.mp e;rw[vf] at q;exact q.symm
  subst hk;simp only[qQ,jU.injEq] at h;cases f:cap.find? λp=>p.1 == k with
  | none=>rw[f] at h; cases h
  | some p =>
   rw[f] at h;have h1:=sT f;have h2:p.1=k:=by
    have:=wK f
    exact eq_of_beq this
   refine⟨p.2,?_,?_⟩
   ·rw[<-h2]; exact h1
   ·simp only[Option.bind_some] at h;cases g:σ[p.2]? with
    | none=>rw[g] at h; cases h
    | some o=>rw[g] at h; simpa using h
section
variable {X:Cx} {pins:List (Addr×Obj)} {σ:St} {H:Hp} {s:jh} {scope:Scope} {cl:List (Str×Addr)} {Nc:List Str} {cap:List (Nat×Nat)} {fp:List Addr}
theorem Zu (I:AI X pins σ H s) (hcalm:X.Cr=true) (S:Gu X scope cl Nc cap) (hfp:∀b∈fp,FH X pins H b) (hob:∀b∈fp,∃o,s.heap.get? b=some o) {C:Addr} {h1:Heap} {m:Str->Option Value} {tk:Nat} (hC:s.heap.objs.size<=C)
  (hn:h1.Ns C m) (keep:∀b o,s.heap.get? b=some o->h1.get? b=some o):AI (Cm X scope cl C Nc fp pins s H) [] (IY Nc.length cap σ) H { s with heap:=h1,toks:=tk }:=by
 have neC:∀b o,s.heap.get? b=some o->b≠C:=λb o e=>kS (ku (jQ e) hC)
 refine⟨⟨I.ok.DV,S.kind,I.ok.Ga,I.ok.KA,hC,λx y c e1 e2=>?_,λx hx=>S.has x hx,λx c e1 e2=>?_,λ_=>I.ok.hd hcalm,I.ok.frames,.inl rfl,λb hb=>⟨?_,λx c e=>?_⟩,I.bs,jW I.ok.Fx I.sz,λb o e hb=>?_,λb hb z=>?_,I.stack,I.Sg⟩,
  rfl,I.bare,Un.Bx keep,⟨m,hn,λj x v e1 e2 e3=>?_⟩,λx c e=>?_,I.hok.Bp hC,λx c e=>?_,λp hp=>?_,I.hok.Bx keep,?_⟩
 ·exact I.ok.inj x y c (S.Di x c e1).1 (S.Di y c e2).1
 ·exact absurd (beq_iff_eq.mp e1) (S.Di x c e2).2
 ·obtain⟨o,e⟩:=hob b hb;exact neC b o e
 ·exact(hfp b hb).2.2.2.2.1 x c (S.Di x c e).1
 ·rcases(hfp b hb).2.2.2.1 with z | z
  ·exact I.ok.LL b o e z
  ·exact absurd (ku (jQ e) (jW I.ok.Fx z)) (mW _)
 ·rcases jK.mp (I.MJ b z) with z | z
  ·exact(hfp b hb).2.1 z
  ·exact(hfp b hb).2.2.1 z
 ·obtain⟨i,hm,hv⟩:=Yo e2;obtain⟨x',c,q1,q2,q3,q4,q5⟩:=S.caps j i hm;have e1':Nc[j]?=some x:=e1;rw[q1] at e1';cases e1';obtain⟨mo,_,hl⟩:=I.D8;obtain⟨u,r,l⟩:=hl i x v q2 hv (.inr (.inl q4));refine⟨u,r,?_⟩;rcases l with ⟨k,_⟩ | ⟨_,c',e',z⟩
  ·have k':X.env.scope.names.lookup x=some .local:=k;rw[q4] at k';cases k'
  ·have:c'=c:=jL (e'.symm.trans (S.Di x c q3).1)
   subst this;obtain⟨o,ho,hd⟩:=z;exact .inr ⟨.inl q5,c',q3,⟨o,keep _ _ ho,hd⟩⟩
 ·obtain⟨v,o,ho,hd⟩:=I.cell x c (S.Di x c e).1;exact⟨v,o,keep _ _ ho,hd⟩
 ·exact I.Fo x c (S.Di x c e).1
 ·have hp':p∈X.pn++pins:=by
   have z:p∈(X.pn++pins)++[]:=hp;rw[lC] at z;exact z
  obtain⟨e,n,ne,nf,d⟩:=I.pin p hp';refine⟨keep _ _ e,n,neC _ _ e,λz=>?_,d⟩;rcases jK.mp (I.MJ p.1 z) with z | z
  ·exact ne z
  ·exact nf z
 ·show(IY Nc.length cap σ).length=Nc.length;unfold IY;rw[ja,jV]
theorem YB(I:AI X pins σ H s)(hfp:∀b∈fp,FH X pins H b){C:Addr}{σc:St}{H':Hp}{s':jh}{h':Heap}(J:AI (Cm X scope cl C Nc fp pins s H) [] σc H' s')(hs:mV C s'.heap h'):AI X pins σ H' { s' with heap:=h' }:=by
 have hC:s.heap.objs.size<=C:=J.ok.above;have neC:∀b o,s.heap.get? b=some o->b≠C:=λb o e=>kS (ku (jQ e) hC)
 have u:=J.base;refine I.fS (s':={ s' with heap:=h' }) (ch:=fp) J.os ⟨λb o e n hb hx=>?_,λb o e n hb hx=>?_,u.free,λb o e hx=>?_,u.tups,u.frzs,u.tbls⟩ (λb o e=>?_) J.bare λb hb=>⟨(hfp b hb).2.2.2.1,(hfp b hb).2.1,(hfp b hb).2.2.2.2.1,(hfp b hb).2.2.2.2.2⟩
 ·exact(hs.2 b (neC b o e)).trans (u.keep b o e n hb hx)
 ·obtain⟨sl,q⟩:=u.slot b o e n hb hx;exact⟨sl,(hs.2 b (neC b o e)).trans q⟩
 ·obtain⟨o',q⟩:=u.there b o e hx;exact⟨o',(hs.2 b (neC b o e)).trans q⟩
 ·refine(J.hok b o e).Fs (λc v hc q=>(hs.2 c ?_).trans q) (λ_ q=>q) λ_ _ q=>q
  intro z;subst z;have fr:H' c=none:=J.free;rcases hc with hc | hc
  ·rw[hc] at fr; rw[fr] at e; cases e
  ·rw[fr] at hc; cases hc
end
def MY(n:Nat)(cap:List (Nat×Nat))(wi:TI)(g:TG)(te:TE):TE:=λσ H Q=>wi σ H λJ H1=>∀acc,H1 acc=none →
 ∃W:Nat->Nat->List V->St->Hp->Prop,(∃m,W 0 m [] (IY n cap σ) (AH H1 acc (.AD [])))/\∀i m ys σc H2,W i m ys σc H2 →
  (J.stop i H2/\Q (.ref acc) H2)\/(J.go i H2/\∀x H3,J.Dv i H2 x H3->g x σc H3 λσ4 H4=>te σ4 H4 λv H5=>H5 acc=some (.AD ys)/\ys.length<jR/\∃m',m' < m/\W (i+1) m' (ys++[v]) σ4 (AH H5 acc (.AD (ys++[v]))))
def Jj(n:Nat)(cap:List (Nat×Nat))(wi:TI)(g:TG)(tt:TT)(te:TE):TE:=λσ H Q=>wi σ H λJ H1=>∀acc,H1 acc=none →
 ∃W:Nat->Nat->List V->St->Hp->Prop,(∃m,W 0 m [] (IY n cap σ) (AH H1 acc (.AD [])))/\∀i m ys σc H2,W i m ys σc H2 →
  (J.stop i H2/\Q (.ref acc) H2)\/(J.go i H2/\∀x H3,J.Dv i H2 x H3->g x σc H3 λσ4 H4=>tt σ4 H4 λok H5=>if ok=true then (te σ4 H5 λv H6=>H6 acc=some (.AD ys)/\ys.length<jR/\∃m',m' < m/\W (i+1) m' (ys++[v]) σ4 (AH H6 acc (.AD (ys++[v])))) else ∃m',m' < m/\W (i+1) m' ys σ4 H5)
def LV(X:Cx)(ifs:List kG)(tt:TT):Prop:=∀(pins:List (Addr×Obj)) (s:jh) (σ:St) (H:Hp) (Q:Bool->Hp->Prop),AI X pins σ H s->tt σ H Q →
 wpAny (model X.prog X.w) X.A (forIn ifs true λc r=>if r=true then do let ok <-isTrue c X.env (eval c X.env); pure (oH ok) else pure (oH r)) (λok s'=>∃H',AI X pins σ H' s'/\Q ok H') X.xe s
theorem cC{X:Cx}{c:kG}{tt:TT}(h:PT X c tt):LV X [c] tt:=λpins s σ H Q I q=>wpAny_tests_one (h pins s σ H Q I q)
theorem TJ{X:Cx}:LV X [] (λ_ H Q=>Q true H):=λ_ _ _ H _ I q=>wpAny_tests_nil ⟨H,I,q⟩
section
variable {prog:j8} {w:World} {A:kK} {s:jh}
theorem XJ {elt iter tg:kG} {ifs:List kG} {scope:Scope} {pos:Pos} {it acc:Value} {env:Env} {R:Result->jh->Prop} (I:Nat->jh->Prop)
  (turn:∀n s,I n s->wpAny (model prog w) A (uE it) (λr s₁=>match r with
   | none=>R (.ok .next) s₁
   | some v=>wpAny (model prog w) A (qV tg it v) (λ_ s₁'=>wpAny (model prog w) A (tK tg env v) (λ_ s₂ =>
     wpAny (model prog w) A (forIn ifs true λc r=>if r=true then do let ok <-isTrue c env (eval c env); pure (oH ok) else pure (oH r)) (λok s₃=>if ok=true then
      wpAny (model prog w) A (eval elt env) (λx s₄ =>
       wpAny (model prog w) A (call (.builtin "list.append") [acc,x]) (λ_ s₅=>∃m,m<n/\I m s₅) (λ_ _=>False) s₄) (λ_ _=>False) s₃
      else ∃m,m<n/\I m s₃) (λ_ _=>False) s₂)
     (λ_ _=>False) s₁') (λ_ _=>False) s₁) (notedBy (model prog w) A env λe s'=>R (.error e) s') s)
  (n:Nat) (h:I n s):uD (model prog w) A (.compLoop (.ListComp elt [⟨tg,iter,ifs,0⟩] scope pos) 0 it acc env) R s:=by
 refine codeAny_loop rfl I (λn s hI=>?_) n h;show wpAny _ A ((compTurn (.ListComp elt [⟨tg,iter,ifs,0⟩] scope pos) 0 it acc env).onRaise (λx=>do noteFrame x env; theTreesLotGoes x)) _ _ s;refine wpAny_noted ?_;rw[compTurn_list];refine jf (uQ (jf (mj (turn n s hI) (λr s₁ h₁=>?_) λ_ _ h'=>h')));cases r with
 | none=>exact jS h₁
 | some v =>
  refine jf (mj h₁ (λ_ s₁' h₁'=>?_) λ_ _ h'=>kY h');refine jf (mj h₁' (λ_ s₂ h₂=>jf (mj h₂ (λok s₃ h₃=>?_) λ_ _ h'=>kY h')) λ_ _ h'=>kY h');cases ok with
  | false=>exact jS ⟨rfl,h₃⟩
  | true =>
   exact jf (jf (mj h₃ (λx s₄ h₄=>jf (mj h₄ (λ_ s₅ h₅=>jS (jS ⟨rfl,h₅⟩)) λ_ _ h'=>kY h')) λ_ _ h'=>kY h'))
end
section
variable {X:Cx} {elt iter tg:kG} {ifs:List kG} {pos:Pos} {scope:Scope} {cl:List (Str×Addr)} {Nc:List Str} {cap:List (Nat×Nat)} {wi:TI} {g:TG} {tt:TT} {te:TE}
theorem Qo {pins:List (Addr×Obj)} {s:jh} {σ:St} {H:Hp} {Q:V->Hp->Prop} {pos':Pos} {use:Option (Value->Sem Unit)} {P:Value->jh->Prop} (hc:X.Cr=true) (hi:PI X tg iter wi) (S:Gu X scope cl Nc cap)
  (hg:∀C fp pins s H,PG (Cm X scope cl C Nc fp pins s H) tg g) (ht:∀C fp pins s H,LV (Cm X scope cl C Nc fp pins s H) ifs tt) (he:∀C fp pins s H,PE (Cm X scope cl C Nc fp pins s H) elt te)
  (hs:∀y,nq iter X.env y=pure y) (I:AI X pins σ H s) (h:Jj Nc.length cap wi g tt te σ H Q)
  (fin:∀(acc C:Addr) (H5:Hp) (s6:jh) (m6:Str->Option Value),AI X pins σ H5 s6->FH X pins H5 C->s6.heap.Ns C m6->Q (.ref acc) H5->compPost (model X.prog X.w) X.A X.xe use P (.ref acc) C (.ok .next) s6) :
  wpAny (model X.prog X.w) X.A (comprehension (.ListComp elt [⟨tg,iter,ifs,0⟩] scope pos) scope X.env pos' (newList []) false (eval iter X.env) use) P X.xe s:=by
 refine wpAny_comprehension_free (use:=use) (cl:=cl) rfl hs S.clos S.kind S.names ?_;refine Ag (hi pins s σ H _ I h) λv s1 h1=>Ag h1 λitv s2 h2=>?_
 obtain⟨it,fp,tn,J,H2,e,I2,T,st2,f2,rd⟩:=h2;subst e;refine nv ?_;have hacc:H2 s2.heap.objs.size=none:=I2.hok.Bp (jj _);obtain⟨W,⟨m0,w0⟩,turn⟩:=rd s2.heap.objs.size hacc;have I3:AI X pins σ (AH H2 s2.heap.objs.size (.AD [])) { s2 with heap:=s2.heap.push { cls:=.type "list",dict:=none,data:=.seq ([]:List Value).toArray } } :=
  I2.De (t':=s2.toks) (λb u e=>jt _ e) (jj _) ⟨kH _,[],0,.nil,jY _ rfl⟩
 have st3:tn 0 (s2.heap.push { cls:=.type "list",dict:=none,data:=.seq ([]:List Value).toArray }):=T.keep _ _ _ st2 λb _ o e=>jt _ e
 have f3:∀b∈fp,FH X pins (AH H2 s2.heap.objs.size (.AD [])) b:=λb hb=>by
  obtain⟨o,e,_⟩:=T.obj _ _ st2 b hb;refine⟨?_,(f2 b hb).2⟩;rw[Ad (kS (jQ e))];exact(f2 b hb).1
 generalize hh3:s2.heap.push { cls:=.type "list",dict:=none,data:=.seq ([]:List Value).toArray }=h3 at I3 st3 ⊢;generalize hH3:AH H2 s2.heap.objs.size (.AD [])=H3 at I3 f3 w0;generalize s2.heap.objs.size=acc at *;refine wpAny_newFunctionEnv S.nocell (by intro y hy; simp at hy) (λh4 hns hsb=>?_) S.kind;dsimp only at hns hsb ⊢;have keep:∀b o,h3.get? b=some o->h4.get? b=some o:=λb o e=>hsb.extBut b o (kS (jQ e)) (jt _ e)
 have f0:∀b∈fp,∃o,h3.get? b=some o:=λb hb=>by
  obtain⟨o,e,_⟩:=T.obj _ _ st3 b hb;exact⟨o,e⟩
 have I4:=Zu (tk:=s2.toks+([]:List (Str×Value)).length) I3 hc S f3 f0 (C:=h3.objs.size) (jj _) hns keep;have st4:tn 0 h4:=T.keep _ _ _ st3 λb _ o e=>keep b o e
 have stat:∀{H':Hp},(∀b∈fp,H' b=none)->∀b∈fp,FH (Cm X scope cl h3.objs.size Nc fp pins { s2 with heap:=h3 } H3) [] H' b:=λhn b hb=>by
  obtain⟨o,e⟩:=f0 b hb;refine⟨hn b hb,kS (jQ e),I4.ok.K9 b hb,.inl hb,λx c q=>(f3 b hb).2.2.2.2.1 x c (S.Di x c q).1,λp hp=>?_⟩;have z:p∈(X.pn++pins)++[]:=hp;rw[lC] at z;exact(f3 b hb).2.2.2.2.2 p z
 have loop:uD (model X.prog X.w) X.A (.compLoop (.ListComp elt [⟨tg,iter,ifs,0⟩] scope pos) 0 (.ref it) (.ref acc) (compEnvC scope cl h3.objs.size X.env)) (compPost (model X.prog X.w) X.A X.xe use P (.ref acc) h3.objs.size)
   { s2 with heap:=h4,toks:=s2.toks+([]:List (Str×Value)).length }:=by
  refine XJ (λn s'=>∃i ys σ' H',AI (Cm X scope cl h3.objs.size Nc fp pins { s2 with heap:=h3 } H3) [] σ' H' s'/\tn i s'.heap/\(∀b∈fp,H' b=none)/\W i n ys σ' H') ?_ m0 ⟨0,[],_,H3,I4,st4,λb hb=>(f3 b hb).1,w0⟩;rintro n s5 ⟨i,ys,σ5,H5,I5,st5,fr5,w5⟩;rcases turn i n ys σ5 H5 w5 with ⟨stop,qn⟩ | ⟨go,step⟩
  ·refine Ag (T.done (Cm X scope cl h3.objs.size Nc fp pins { s2 with heap:=h3 } H3) rfl rfl rfl rfl i [] s5 σ5 H5 _ I5 (stat fr5) st5 stop) λr s6 ⟨hr,I6⟩=>?_
   subst hr;obtain⟨m6,hn6,_⟩:=id I6.D8;exact fin acc _ H5 s6 m6 (YB (h':=s6.heap) I3 f3 I6 ⟨rfl,λ_ _=>rfl⟩) (I3.GV (jj _) I6.free) hn6 qn
  ·refine mj (T.item (Cm X scope cl h3.objs.size Nc fp pins { s2 with heap:=h3 } H3) rfl rfl rfl rfl i [] s5 σ5 H5 (λ_ _=>False) I5 (stat fr5) st5 go) (λr s6 ⟨u,hr,h6⟩=>?_) λ_ _ z=>kY z
   subst hr;refine Ag h6 λ_ s7 ⟨y,H7,I7,r7,y7,st7,fr7⟩=>?_
   have I7':=I7.T9 (stat fr7) (T.obj _ _ st7);have kp:∀{σ8:St} {H8:Hp} {s8:jh},AI (Cm X scope cl h3.objs.size Nc fp pins { s2 with heap:=h3 } H3) ([]++Kv fp s7.heap) σ8 H8 s8->tn (i+1) s8.heap/\∀b∈fp,H8 b=none:=λ{σ8 H8 s8} I8 =>
    ⟨T.keep _ _ _ st7 λb hb o e=>(I8.pin (b,o) (kj _ (kj _ (LX hb e)))).1,λb hb=>by
     obtain⟨o,e,d⟩:=T.obj _ _ st7 b hb;exact(I8.pin (b,o) (kj _ (kj _ (LX hb e)))).2.1⟩
   refine Ag (hg _ _ _ _ _ _ s7 σ5 H7 y u _ I7' r7 (step y H7 y7)) λ_ s8 ⟨σ8,H8,I8,q8⟩=>?_
   refine Ag (ht _ _ _ _ _ _ s8 σ8 H8 _ I8 q8) λok s9 ⟨H9,I9,q9⟩=>?_
   cases ok with
   | false =>
    rw[jm j0] at q9 ⊢;obtain⟨m',hm,w'⟩:=q9;obtain⟨st9,fr9⟩:=kp I9;exact⟨m',hm,i+1,ys,σ8,H9,I9.KZ,st9,fr9,w'⟩
   | true =>
    rw[jq rfl] at q9 ⊢;refine Ag (he _ _ _ _ _ _ s9 σ8 H9 _ I9 q9) λw10 s10 ⟨v10,H10,I10,r10,e10,l10,m',hm,q10⟩=>?_
    refine Ag (DY _ s10 σ8 H10 (.ref acc) [v10] (.ref acc) [w10] (λ_ H11=>W (i+1) m' (ys++[v10]) σ8 H11) I10 rfl (.cons r10 .nil) ⟨acc,ys,v10,rfl,rfl,e10,l10,q10⟩) λ_ s11 ⟨_,H11,I11,_,q11⟩=>?_
    obtain⟨st11,fr11⟩:=kp I11;exact⟨m',hm,i+1,ys++[v10],σ8,H11,I11.KZ,st11,fr11,q11⟩
 exact codeAny_compStart_list loop (T.GS _ 0 _ _ _ st4 loop)
theorem RW (hc:X.Cr=true) (hi:PI X tg iter wi) (S:Gu X scope cl Nc cap)
  (hg:∀C fp pins s H,PG (Cm X scope cl C Nc fp pins s H) tg g) (ht:∀C fp pins s H,LV (Cm X scope cl C Nc fp pins s H) ifs tt) (he:∀C fp pins s H,PE (Cm X scope cl C Nc fp pins s H) elt te)
  (hs:∀y,nq iter X.env y=pure y:=by intro _; rfl):PE X (.ListComp elt [⟨tg,iter,ifs,0⟩] scope pos) (Jj Nc.length cap wi g tt te):=by
 intro pins s σ H Q I h;rw[eval_ListComp];exact Qo (use:=none) hc hi S hg ht he hs I h λacc C H5 s6 m6 back fpC hn qn=>⟨m6,hn,λh7 hs7=>⟨.ref acc,H5,back.EH (t':=s6.toks) (λb o hb q=>(hs7.2 b hb).trans q) fpC.1 fpC.2.1 fpC.2.2.2.1 fpC.2.2.2.2.1 fpC.2.2.2.2.2,rfl,qn⟩⟩
theorem Qa{n:Nat}:Jj n cap wi g (λ_ H Q=>Q true H) te=MY n cap wi g te:=by
 unfold Jj MY;simp only[if_true]
theorem C1 (hc:X.Cr=true) (hi:PI X tg iter wi) (S:Gu X scope cl Nc cap)
  (hg:∀C fp pins s H,PG (Cm X scope cl C Nc fp pins s H) tg g) (he:∀C fp pins s H,PE (Cm X scope cl C Nc fp pins s H) elt te)
  (hs:∀y,nq iter X.env y=pure y:=by intro _; rfl):PE X (.ListComp elt [⟨tg,iter,[],0⟩] scope pos) (MY Nc.length cap wi g te) :=
 Qa ▸ RW (ifs:=[]) (pos:=pos) hc hi S hg (λ_ _ _ _ _=>TJ) he hs
theorem Z5 {ct:kG} (hc:X.Cr=true) (hi:PI X tg iter wi) (S:Gu X scope cl Nc cap)
  (hg:∀C fp pins s H,PG (Cm X scope cl C Nc fp pins s H) tg g) (ht:∀C fp pins s H,PT (Cm X scope cl C Nc fp pins s H) ct tt) (he:∀C fp pins s H,PE (Cm X scope cl C Nc fp pins s H) elt te)
  (hs:∀y,nq iter X.env y=pure y:=by intro _; rfl):PE X (.ListComp elt [⟨tg,iter,[ct],0⟩] scope pos) (Jj Nc.length cap wi g tt te) :=
 RW hc hi S hg (λC fp pins s H=>cC (ht C fp pins s H)) he hs
theorem XW {i:Nat} {y:Str} {py spos:Pos} (hN:X.N.Nodup) (hiN:X.N[i]?=some y) (hy:KI X.env.scope y)
  (hc:X.Cr=true) (hi:PI X tg iter wi) (S:Gu X scope cl Nc cap)
  (hg:∀C fp pins s H,PG (Cm X scope cl C Nc fp pins s H) tg g) (ht:∀C fp pins s H,LV (Cm X scope cl C Nc fp pins s H) ifs tt) (he:∀C fp pins s H,PE (Cm X scope cl C Nc fp pins s H) elt te)
  (hsw:tY (.ListComp elt [⟨tg,iter,ifs,0⟩] scope pos) (some (.Name y py)) spos.line X.env=pure true:=by rfl) (hs:∀z,nq iter X.env z=pure z:=by intro _; rfl)
  (hf:X.fn y=true\/X.env.scope.names.lookup y=some .local:=by first | exact .inl rfl | exact .inr rfl | assumption) :
  PS X (.Assign [.Name y py] (.ListComp elt [⟨tg,iter,ifs,0⟩] scope pos) spos) (Jy (Jj Nc.length cap wi g tt te) (BR i)):=by
 intro pins s σ H D I h;rw[exec_Assign_Name_used _ _ _ _ hsw];refine jf (uQ (jf ?_));show wpAny _ X.A (do let _ <-comprehension (.ListComp elt [⟨tg,iter,ifs,0⟩] scope pos) scope X.env _ (newList []) false (eval iter X.env) (some (tK (.Name y py) X.env))) _ _ s;refine jf (mj (Qo (use:=some (tK (.Name y py) X.env)) (P:=λ_ s'=>SP X pins D .next s') hc hi S hg ht he hs I h λacc C H5 s6 m6 back fpC hn6 qn=>?_) (λ_ s' hq=>jS (jS hq)) λ_ _ e=>e);show wpAny (model X.prog X.w) X.A (tK (.Name y py) X.env (.ref acc)) _ X.xe s6;refine vW (Qx (v:=.ref acc) back hN hiN hy rfl (λs7 I7 ⟨a7,sb7,e7⟩=>?_) hf);have nC:C≠a7:=by
  rcases e7 with e7 | e7
  ·rw[e7]; exact fpC.2.1
  ·exact lF (fpC.2.2.2.2.1 _ _ e7)
 refine⟨m6,hn6.sameBut sb7 nC,λh8 hs8=>⟨_,H5,?_,qn⟩⟩;exact I7.EH (t':=s7.toks) (λb o hb q=>(hs8.2 b hb).trans q) fpC.1 fpC.2.1 fpC.2.2.2.1 fpC.2.2.2.2.1 fpC.2.2.2.2.2
theorem JI {i:Nat} {y:Str} {py spos:Pos} (hN:X.N.Nodup) (hiN:X.N[i]?=some y) (hy:KI X.env.scope y)
  (hc:X.Cr=true) (hi:PI X tg iter wi) (S:Gu X scope cl Nc cap)
  (hg:∀C fp pins s H,PG (Cm X scope cl C Nc fp pins s H) tg g) (he:∀C fp pins s H,PE (Cm X scope cl C Nc fp pins s H) elt te)
  (hsw:tY (.ListComp elt [⟨tg,iter,[],0⟩] scope pos) (some (.Name y py)) spos.line X.env=pure true:=by rfl) (hs:∀z,nq iter X.env z=pure z:=by intro _; rfl)
  (hf:X.fn y=true\/X.env.scope.names.lookup y=some .local:=by first | exact .inl rfl | exact .inr rfl | assumption) :
  PS X (.Assign [.Name y py] (.ListComp elt [⟨tg,iter,[],0⟩] scope pos) spos) (Jy (MY Nc.length cap wi g te) (BR i)) :=
 Qa ▸ XW (ifs:=[]) hN hiN hy hc hi S hg (λ_ _ _ _ _=>TJ) he hsw hs hf
end
section
variable {X:Cx}
def BX(i:Int):Prop:=i.natAbs<2 ^ 8000
theorem TR{i:Int}(h:BX i):i.natAbs.log2<8000:=by
 by_cases z:i.natAbs=0
 ·rw[z]; decide
 ·exact(Nat.log2_lt z).mpr h
theorem RX{i:Int}(h:BX i):uR i<=8001:=by
 have:=TR h
 unfold uR;split <;> omega
def Kz(i j:Int):Prop:=BX i/\BX j
theorem C4:Bk X (mS .Mult) (rI Kz λi j=>.int (i*j)):=JB λ_ _ _ _ _ _ _ hc q=>mul_int q (IntMulOk.of_bits (jW (RX hc.1) (by decide)) (jW (RX hc.2) (by decide)))
def IZ(_ j:Int):Prop:=j≠0/\BX j
theorem FX:Bk X (mS .FloorDiv) (rI IZ λi j=>.int (i.fdiv j)):=JB λ_ _ _ _ _ _ _ hc q=>floordiv_int hc.1 q (.inl (PyProof.noPylong_of_log2 (by have:=TR hc.2; omega)))
def LR(lo step:Int)(n:Nat):It:=⟨λi _=>i<n,λi H x H'=>H'=H/\x=.int (lo+i*step),λi _=>n<=i⟩
theorem Yw{P:j8}{w:World}{K:jk}{tg:kG}(it:Addr)(lo step:Int)(n:Nat):GW P w K tg (LR lo step n) [it] it (λi h=>t7 h it (lo+(i:Nat)*step) ((n:Int)-(i:Nat)) step) where
 mem:=by simp
 obj:=λi h st b hb=>by
  obtain rfl:b=it:=by simpa using hb
  exact⟨_,st,λv z=>by
   have z':rF _=qG v:=z;cases z'⟩
 keep:=λi h h' st k=>k it (by simp) _ st
 item:=by
  intro X hP hw hK hc i pins s σ H E I hf st hg;subst hP hw hK;obtain⟨f0,f1,f2,f3,f4,f5⟩:=hf it (by simp);have W:=Walks.range (prog:=X.prog) (w:=X.w) (I.ok.hd hc) it lo step n;refine W.item i s _ _ hg st λv h' tk hv st' kk=>?_
  obtain⟨t,rfl⟩:=hv;have I1:AI X pins σ H { s with heap:=h',toks:=tk }:=I.EH (λb o hb e=>kk b o (by simpa using hb) e) f0 f1 f3 f4 f5;exact⟨_,rfl,K0 (s:={ s with heap:=h',toks:=tk }) (n:="range_iterator") st' rfl rfl (by decide) ⟨.int (lo+i*step),H,I1,⟨t,rfl⟩,⟨rfl,rfl⟩,st',λb hb=>(hf b hb).1⟩⟩
 done:=by
  intro X hP hw hK hc i pins s σ H E I hf st hg;subst hP hw hK;obtain⟨f0,f1,f2,f3,f4,f5⟩:=hf it (by simp);exact uo (I.ok.hd hc) st (by have:n<=i:=hg; omega) λh' eb=>⟨rfl,I.EH (t':=s.toks) (λb o hb e=>eb b o hb e) f0 f1 f3 f4 f5⟩
 GS:=λ_ _ _ _ _ st h=>uj st h
theorem Zg {lo step:Int} {n:Nat} {g:TG} {tb:TS} {D:DF} {σ:St} {H:Hp} (Pv:Nat->St->Hp->Prop) (h0:Pv 0 σ H)
  (hs:∀i σ H,i<n->Pv i σ H->g (.int (lo+i*step)) σ H λσ2 H2=>tb { D with nx:=Pv (i+1),ct:=Pv (i+1),bk:=D.nx } σ2 H2) (hd:∀σ H,Pv n σ H->D.nx σ H) :
  ∃W:Nat->Nat->St->Hp->Prop,(∃m,W 0 m σ H)/\∀i m σ H,W i m σ H →
   ((LR lo step n).stop i H/\D.nx σ H)\/((LR lo step n).go i H/\∃N:St->Hp->Prop,(∀σ' H',N σ' H'->∃m',m' < m/\W (i+1) m' σ' H')/\∀x H',(LR lo step n).Dv i H x H'->g x σ H' λσ2 H2=>tb { D with nx:=N,ct:=N,bk:=D.nx } σ2 H2):=by
 refine⟨λi m σ H=>m=n-i/\i<=n/\Pv i σ H,⟨n,by simp,kH _,h0⟩,?_⟩;rintro i m σ H ⟨rfl,hi,p⟩;rcases j6 i n with hlt | hge
 ·refine .inr ⟨hlt,Pv (i+1),λσ' H' p'=>⟨n-(i+1),by omega,rfl,hlt,p'⟩,λx H' y=>?_⟩;obtain⟨e,y⟩:=y;subst e y;exact hs i σ _ hlt p
 ·obtain rfl:i=n:=by omega
  exact .inl ⟨jj _,hd σ H p⟩
def gD(K:jk)(c:V)(cv:Value):List V->Hp->VK->Prop:=λxs H Q=>∃x t b,xs=[x,c]/\DQ K H x t/\qf K t cv=some b/\Q (.bl b) H
theorem JP{c:V}{cv:Value}(hc:∀u,Ax c u->u=cv):C6 X (.builtin "isinstance") (gD X.K c cv):=by
 intro pins s σ H xs us Q I r h;obtain⟨x,t,b,rfl,ty,e,q⟩:=h;obtain⟨u,w',rfl,r1,r2⟩:=K6 r;cases hc w' r2;exact YA I r1 ty e λtk=>⟨.bl b,H,I.DW _,rfl,q⟩
theorem JF:k7 "isinstance" = some (.builtin "isinstance"):=by decide +kernel
theorem Tt:k7 "int" = some (.type "int"):=by decide +kernel
theorem bg:k7 "bool" = some (.type "bool"):=by decide +kernel
theorem CG:k7 "tuple" = some (.type "tuple"):=by decide +kernel
theorem Of:k7 "all" = some (.builtin "all"):=by decide +kernel
theorem BN:k7 "len" = some (.builtin "len"):=by decide +kernel
theorem Oq:k7 "abs" = some (.builtin "abs"):=by decide +kernel
theorem Up:k7 "max" = some (.builtin "max"):=by decide +kernel
theorem MK:k7 "min" = some (.builtin "min"):=by decide +kernel
theorem KW(K:jk)(t:Value):qf K t t=some true:=by
 unfold qf;rw[jq (beq_self_eq_true t)]
theorem XI(K:jk):qf K (.type "int") (.type "bool")=some false:=by first | rfl | decide +kernel | kernel_rfl
theorem TX:∀{bs:List Bool} {us:List Value},Ah (bs.map V.bl) us->us=bs.map nY
 | [],_,.nil=>rfl
 | b :: r,_,.cons (b:=u) h t=>by
  have h':u=nY b:=h;rw[h',TX t];rfl
def iJ(K:jk):List V->Hp->VK->Prop:=λxs H Q=>∃(p:Addr) (bs:List Bool),xs=[.ref p]/\AR K H p (bs.map V.bl)/\Q (.bl (bs.all id)) H
theorem YS(bs:List Bool):((ju bs.length).all λi=>(bs[i]?).getD true)=bs.all id:=by
 rw[oG,tf,tf];constructor
 ·intro h b hb;obtain⟨i,hi,rfl⟩:=List.mem_iff_getElem.mp hb
  have:=h i (jZ.mpr hi)
  rw[jb hi] at this;exact this
 ·intro h i hi;have hl:=jZ.mp hi;rw[jb hl];exact h _ (kU hl)
theorem NW(hc:X.Cr=true):C6 X (.builtin "all") (iJ X.K):=by
 intro pins s σ H xs us Q I r h;obtain⟨p,bs,rfl,hq,q⟩:=h;obtain⟨u,rfl,r1⟩:=En r;cases r1;obtain⟨its,rv,pl,hz⟩:=I.list hq;have e:=TX rv;subst e;have hlt:p<s.heap.objs.size:=by
  obtain⟨o,_,ho,_⟩:=pl;exact jQ ho
 refine call_all_walk (nS pl.isList ?_);refine⟨s.heap.objs.size,_,_,_,_,_,λi=>(bs[i]?).getD true,rfl,Walks.list (show X.A.in1.handled=none from I.ok.hd hc) _ p (kS hlt) (bs.map nY).toArray,⟨⟨_,jY _ rfl,rfl,rfl⟩,pl.isList.push _⟩,λi v s' Q' E' hP hQ'=>?_,λh' tk k=>?_⟩
 ·have hP:(bs.map nY).toArray[i]?=some v:=hP;have hQ':Q' ((bs[i]?).getD true) s':=hQ';rw[nO,ji] at hP;cases e:bs[i]? with
  | none=>rw[e] at hP; cases hP
  | some b =>
   rw[e] at hP;obtain rfl:nY b=v:=jL hP;have hQ2:Q' b s':=by
    rw[e] at hQ';exact hQ'
   exact jS hQ2
 ·refine⟨.bl (bs.all id),H,I.Bx λb o eb=>?_,?_,q⟩
  ·exact k b o (λz=>by
    have:b=s.heap.objs.size:=by simpa using z
    exact absurd (jQ eb) (by rw[this]; exact mW _)) (jt _ eb)
  ·show nY _=nY _;rw[jJ,ja,YS]
end
section
variable {prog:j8} {w:World} {A:kK} {E:Value->jh->Prop} {s:jh}
theorem QX {c t:Addr} {k:Nat} {vs:Array Value} {y:Value} {Q:Value->jh->Prop} (hc:s.heap.IsTupleIter c t k) (ht:s.heap.IsTuple t vs) (hy:vs[k]?=some y)
  (hQ:∀h',h'.IsTupleIter c t (k+1)->mV c s.heap h'->Q y { s with heap:=h' }):wpAny (model prog w) A (kT (.ref c)) Q E s:=by
 obtain⟨ob,e1,e2,e3⟩:=id hc;obtain⟨ot,f1,_,nt,f2⟩:=ht;unfold kT;refine jf (mR (name:=p7 "__next__") hc.typeIs mY (ou mY hc.typeIs qy ?_ (qo _)));show wpAny _ _ (field (.ref c) 0 >>= _) _ _ s;refine jf (l8 e1 e3 (x:=.ref t) rfl ?_);show wpAny _ _ (if (lO t == ph)=true then _ else _) _ _ _;rw[jm (show ¬((lO t == ph)=true) by exact j0)];show wpAny _ _ (field (.ref c) 1 >>= _) _ _ s;refine jf (l8 e1 e3 (x:=.int k 0) rfl ?_);show wpAny _ _ (seqItems? (.ref t) >>= _) _ _ _;refine jf (nA f1 f2 ?_);simp only[kQ,hy];refine jf (wpAny_setField e1 e3 (by simp) (jS ⟨y,rfl,jS (hQ _ ?_ (uT ..))⟩));exact⟨_,qH _ e1 (Obj.isFreed_of_fields (vn e3 _)),(Obj.cls_mapFields ..).trans e2,by rw[vn e3]; simp[rS]⟩
theorem Qv {c t:Addr} {k:Nat} {vs:Array Value} {Q:Value->jh->Prop} (hh:A.handled=none) (hc:s.heap.IsTupleIter c t k) (ht:s.heap.IsTuple t vs) (hy:vs[k]?=none)
  (hE:∀h' x,t5 c s.heap h'->(∃o,h'.get? x=some o/\o.cls=.type "StopIteration")->E (.ref x) { s with heap:=h' }):wpAny (model prog w) A (kT (.ref c)) Q E s:=by
 obtain⟨ob,e1,e2,e3⟩:=id hc;obtain⟨ot,f1,_,nt,f2⟩:=ht;unfold kT;refine jf (mR (name:=p7 "__next__") hc.typeIs mY (ou mY hc.typeIs qy ?_ (qo _)));show wpAny _ _ (field (.ref c) 0 >>= _) _ _ s;refine jf (l8 e1 e3 (x:=.ref t) rfl ?_);show wpAny _ _ (if (lO t == ph)=true then _ else _) _ _ _;rw[jm (show ¬((lO t == ph)=true) by exact j0)];show wpAny _ _ (field (.ref c) 1 >>= _) _ _ s;refine jf (l8 e1 e3 (x:=.int k 0) rfl ?_);show wpAny _ _ (seqItems? (.ref t) >>= _) _ _ _;refine jf (nA f1 f2 ?_);simp only[kQ,hy];refine jf (sX (jf (wpAny_setField e1 e3 (by simp) ?_)));show wpAny _ _ (newExc (.type "StopIteration") [] >>= _) _ _ (_:jh);refine jf ?_;simp only[newExc,newTuple];refine jf (nv ?_ (by size_fits)); refine jf (m:=firstArgMember _ _) (wpAny_of_eq (a:=ph) (by first | rfl | (simp only[firstArgMember]; rfl)) ?_);refine nv ?_ (by size_fits); simp only[raiseNew];refine jf (wpAny_handled ?_); first | rw[show A.in1.handled=none from hh] | rw[hh]
 refine jf (jS (wpAny_throw (hE _ _ (((uT ..).extBut.push _).push _) ⟨_,jY _ rfl,rfl⟩)))
theorem UB(hh:A.handled=none)(c t:Addr)(hne:t≠c)(vs:Array Value):
  Draws prog w A c [c,t] vs.size (λi v=>vs[i]?=some v) (λi h=>h.IsTupleIter c t i/\h.IsTuple t vs) where
 live:=λ_ _ st=>let ⟨o,ho,_⟩:=st.1; ⟨o,ho⟩
 frame:=λ_ _ _ st hk=>⟨let ⟨o,ho,r⟩:=st.1; ⟨o,hk c (by simp) o ho,r⟩,let ⟨o,ho,r⟩:=st.2; ⟨o,hk t (by simp) o ho,r⟩⟩
 item:=λi s' Q' E' hi st hQ=>QX st.1 st.2 (y:=vs[i]) (by simp[hi]) λh' k1 k2=>hQ _ h' s'.toks (by simp[hi]) ⟨k1,st.2.extBut k2.extBut hne⟩ k2
 done:=λs' Q' E' st hE=>Qv hh st.1 st.2 (by simp) hE
set_option maxHeartbeats 1000000 in
theorem Xc(t:Addr)(vs:Array Value)(n:Nat)(dct:Option Addr)(sl:Array (Option Value)):
  Meets (kd.«enumerate.__new__» ⟨[.type "enumerate",.ref t],[]⟩) (λ_ R s=>s.heap.get? t=some { cls:=.type "tuple",dict:=dct,data:=.seq vs n,slots:=sl } /\
   R (.ok (.ret (.ref (s.heap.push { cls:=.type "tuple_iterator",data:=.fields #[.ref t,.int 0 0] }).objs.size)))
    { s with heap:=(s.heap.push { cls:=.type "tuple_iterator",data:=.fields #[.ref t,.int 0 0] }).push { cls:=.type "enumerate",data:=.fields #[.none,.bool false,.ref s.heap.objs.size,rS 0,.none,.none] } }) :=
 .of_wp λprog w A R s h=>by
  obtain⟨hp,g,d,tk,os⟩:=s; obtain⟨ht,h⟩:=h;have hsub:=sub_enumerate;have hT:og (nZ ⟨hp,g,d,tk,os⟩) t vs:=⟨_,ht,rfl,n,rfl⟩
  wp_walk using n8 ht
  refine wpAny_stack_any λst=>jS ?_
  split
  ·rename_i c _ _ _ _ _
   cases (c == Value.type "enumerate") <;> (wp_walk using n8 ht,md hT; exact⟨_,rfl,h⟩)
  ·wp_walk using n8 ht,md hT; exact⟨_,rfl,h⟩
theorem Xr {t:Addr} {vs:Array Value} {Q:Value->jh->Prop} (hT:s.heap.IsTuple t vs)
  (h:∀h',vd h' (s.heap.objs.size+1) s.heap.objs.size 0 .none->h'.IsTupleIter s.heap.objs.size t 0->(∀b o,s.heap.get? b=some o->h'.get? b=some o)->Q (.ref (s.heap.objs.size+1)) { s with heap:=h' }) :
  wpAny (model prog w) A (call (.type "enumerate") [.ref t]) Q E s:=by
 obtain⟨⟨c,dct,dt,sl⟩,ht,hc,n,hd⟩:=hT;obtain rfl:c=.type "tuple":=hc;obtain rfl:dt=.seq vs n:=hd;refine callType_new PySem.F.called_enumerate (by decide) (PySem.F.typeCall_enumerate_1 _) (PySem.F.newCall_enumerate_1 _) (λobj=>PySem.F.args_object_init_2 obj _) PySem.F.entry_enumerate_new (Xc t vs n dct sl) ⟨ht,?_⟩;have z:(s.heap.push { cls:=.type "tuple_iterator",data:=.fields #[.ref t,.int 0 0] }).objs.size=s.heap.objs.size+1:=mZ ..;show _/\_;rw[z];have he:vd ((s.heap.push { cls:=.type "tuple_iterator",data:=.fields #[.ref t,.int 0 0] }).push { cls:=.type "enumerate",data:=.fields #[.none,.bool false,.ref s.heap.objs.size,rS 0,.none,.none] }) (s.heap.objs.size+1) s.heap.objs.size 0 .none:=by
  have q:=jY (s.heap.push { cls:=.type "tuple_iterator",data:=.fields #[.ref t,.int 0 0] }) (o:={ cls:=.type "enumerate",data:=.fields #[.none,.bool false,.ref s.heap.objs.size,rS 0,.none,.none] }) rfl;rw[z] at q;exact q
 exact⟨⟨_,he,rfl⟩,h _ he ⟨_,jt _ (jY _ rfl),rfl,rfl⟩ λb o q=>jt _ (jt _ q)⟩
end
section
variable {X:Cx}
def LQ(a : Addr): It :=
  ⟨λi H => ∃xs x, H a = some (.AG xs) /\ xs[i]? = some x,
   λi H v H' => ∃p x, v = .ref p /\ H p = none /\ H' = AH H p (.AG [.int i, x]) /\ ∀xs, H a = some (.AG xs) → xs[i]? = some x,
   λi H => ∃xs, H a = some (.AG xs) /\ xs.length = i⟩
theorem YZ{P:j8}{w:World}{K:jk}{es:List kG}{kk:Nat}{pos:Pos}{a e it:Addr}(hei:e≠it):
  GW P w K (.Tuple es kk pos) (LQ a) [e,it] e (λi h=>(∃old,vd h e it ((i:Nat):Int) old)/\h.IsTupleIter it a i) where
 mem:=by simp
 obj:=λi h st c hc=>by
  obtain⟨⟨old,h1⟩,o2,h2,_,d2⟩:=st;simp only[jK,ke,lM] at hc;rcases hc with rfl | rfl
  ·exact⟨_,h1,λv z=>by have z':rF _=qG v:=z; cases z'⟩
  ·exact⟨_,h2,λv z=>by rw[d2] at z; cases z⟩
 keep:=λi h h' st k=>by
  obtain⟨⟨old,h1⟩,o2,h2,r⟩:=st;exact⟨⟨old,k e (by simp) _ h1⟩,o2,k it (by simp) _ h2,r⟩
 item:=by
  intro X hP hw hK hc i pins s σ H E I hf st hg;subst hP hw hK;obtain⟨xs,x,qa,hx⟩:=hg;obtain⟨its,rv,pa,_⟩:=I.tuple (AK.of (K:=X.K) qa);obtain⟨ux,hux,rx⟩:=rv.get hx;obtain⟨⟨old,h1⟩,h2⟩:=st;have nea:e≠a:=λz=>by
   have:=(hf e (by simp)).1
   rw[z,qa] at this;cases this
  have nia:a≠it:=λz=>by
   have:=(hf it (by simp)).1
   rw[<-z,qa] at this;cases this
  have hlt:i<its.toArray.size:=by
   rw[jJ];exact(jc.mp hux).1
  have D:Draws X.prog X.w X.A.in1 it [it,a] its.toArray.size (λi v=>its.toArray[i]?=some v) (λi h=>h.IsTupleIter it a i/\h.IsTuple a its.toArray):=UB (show X.A.in1.handled=none from I.ok.hd hc) it a nia its.toArray;refine tT D h1 ⟨h2,pa⟩ hlt hei (by simp[hei,nea]) λy h' tk hy a1 a2 a3 a4 k=>?_
  have hyx:y=ux:=by
   have q1:its.toArray[i]?=some y:=hy;rw[nO,hux] at q1;exact(jL q1).symm
  subst hyx;refine⟨_,rfl,si a1 λh'' b1 sb=>?_⟩;have sb:mV e h' h'':=sb;have hse:s.heap.objs.size≠e:=nJ (jQ h1);have hsi:s.heap.objs.size≠it:=by
   obtain⟨o,g,_⟩:=id h2;exact nJ (jQ g)
  have hn:H s.heap.objs.size=none:=I.hok.Bp (jj _);have kk':∀c o,c∉[e,it]->s.heap.get? c=some o->h''.get? c=some o:=λc o hc q =>
   (sb.2 c λz=>hc (by simp[z])).trans (k c o (λz=>hc (by simp[z])) (λz=>hc (by simp[z])) q)
  have tO:h''.get? s.heap.objs.size=some { cls:=.type "tuple",data:=.seq #[.int i tk,y] }:=(sb.2 _ hse).trans a3;have nt:∀c u,H c=some u->c∉[e,it]:=λc u q hc=>by
   have:=(hf c hc).1
   rw[q] at this;cases this
  have tupOk:Bq X.prog X.w (AH H s.heap.objs.size (.AG [.int i,x])) h'' s.heap.objs.size (.AG [.int i,x]) :=
   ⟨by exact B6,[.int i tk,y],.cons ⟨tk,rfl⟩ (.cons rx .nil),⟨_,tO,rfl,_,rfl⟩,_,tO,rfl⟩
  have I1:AI X pins σ (AH H s.heap.objs.size (.AG [.int i,x])) { s with heap:=h'',toks:=tk+1 }:=by
   refine I.step (g':=s.gens) (d':=s.drawn) (t':=tk+1) (ch:=[e,it]) (λc hc=>⟨(hf c hc).2.2.2.1,(hf c hc).2.1,(hf c hc).2.2.2.2.1,(hf c hc).2.2.2.2.2⟩) (λc o _ _ hc q _=>kk' c o hc q) (λc o _ _ hc q _=>⟨o.slots,kk' c o hc q⟩)
    (λc o _ q n=>by rw[Ad (kS (jQ q))]; exact n) (λc o hc q=>⟨o,kk' c o hc q⟩) (λc vs q=>by rw[Ad (BP q hn)]; exact q) (λc o vs q=>by rw[Ad (BP q hn)]; exact q)
    (λc ps q=>⟨#[],by rw[Ad (BP q hn),q]; simp⟩) (λm hm=>?_) (λc o q=>?_) I.bare
   ·obtain⟨o,es',ep,ho,r⟩:=hm;exact⟨o,es',ep,kk' _ o (λq=>(hf _ q).2.1 rfl) ho,r⟩
   ·by_cases hcs:c=s.heap.objs.size
    ·subst hcs;rw[AU] at q;cases q;exact tupOk
    ·rw[Ad hcs] at q;refine(I.hok c o q).Fs (λd v hd z=>kk' d v ?_ z) (λd z=>by rw[Ad (BP z hn)]; exact z) λd vs z=>by rw[Ad (BP z hn)]; exact z
     rcases hd with hd | hd
     ·rw[hd]; exact nt c o q
     ·exact nt d _ hd
  have g2:h''.IsTupleIter it a (i+1):=by
   obtain⟨⟨o,g,r⟩,_⟩:=a2;exact⟨o,(sb.2 _ (lF hei)).trans g,r⟩
  have g1:vd h'' e it (((i+1:Nat)):Int) y:=by
   have:((i+1:Nat):Int)=(i:Int)+1:=by omega
   rw[this];exact b1
  exact⟨.ref s.heap.objs.size,_,I1,rfl,⟨_,x,rfl,hn,rfl,λxs' q=>by rw[qa] at q; cases q; exact hx⟩,⟨⟨_,g1⟩,g2⟩,λc hc=>by
   have:c≠s.heap.objs.size:=by
    simp only[jK,ke,lM] at hc;rcases hc with rfl | rfl
    ·exact lF hse
    ·exact lF hsi
   rw[Ad this];exact(hf c hc).1⟩
 done:=by
  intro X hP hw hK hc i pins s σ H E I hf st hg;subst hP hw hK;obtain⟨xs,qa,hl⟩:=hg;obtain⟨its,rv,pa,_⟩:=I.tuple (AK.of (K:=X.K) qa);obtain⟨⟨old,h1⟩,h2⟩:=st;have nia:a≠it:=λz=>by
   have:=(hf it (by simp)).1
   rw[<-z,qa] at this;cases this
  have D:Draws X.prog X.w X.A.in1 it [it,a] its.toArray.size (λi v=>its.toArray[i]?=some v) (λi h=>h.IsTupleIter it a i/\h.IsTuple a its.toArray):=UB (show X.A.in1.handled=none from I.ok.hd hc) it a nia its.toArray;have hi:its.toArray.size=i:=by
   rw[jJ,<-rv.length];exact hl
  obtain⟨f0,f1,f2,f3,f4,f5⟩:=hf it (by simp);refine um D h1 (by rw[hi]; exact⟨h2,pa⟩) λh' k=>⟨rfl,I.EH (t':=s.toks) (λb o hb q=>k b o hb q) f0 f1 f3 f4 f5⟩
 GS:=λ_ _ _ _ _ st h=>by
  obtain⟨⟨old,h1⟩,_⟩:=st;exact qr h1 h
def Vr(ta:TA):TI:=λσ H R=>ta σ H λvs H1=>∃a xs,vs=[.ref a]/\H1 a=some (.AG xs)/\R (LQ a) H1
theorem Ki{es:List kG}{kk:Nat}{tpos:Pos}{a:kG}{ta:TA}{p pos:Pos}(hg:Gl X "enumerate")(hm:X.mg "enumerate" = none)(ha:PA X [a] ta)(hs:kc [a] X.env=[(false,eval a X.env)]:=by rfl):
  PI X (.Tuple es kk tpos) (.Call (.Name "enumerate" p) [a] [] pos) (Vr ta):=by
 intro pins s σ H R I h;refine Call_ (EG I hg hm rR (kz (Ag (ha pos pins s σ H _ I h) λus s1 ⟨vs,H1,I1,r1,q1⟩=>?_) hs rfl));obtain⟨la,xs,e,qa,q⟩:=q1;subst e;obtain⟨u1,rfl,ra⟩:=En r1;cases ra;obtain⟨its,rv,pa,_⟩:=I1.tuple (AK.of (K:=X.K) qa);refine Xr pa λh' z1 z2 zk=>qr z1 ?_
 have I2:AI X pins σ H1 { s1 with heap:=h' }:=I1.Bx (t':=s1.toks) zk;refine⟨s1.heap.objs.size+1,_,_,_,H1,rfl,I2,YZ (wy _),⟨⟨_,z1⟩,z2⟩,λc hc=>?_,q⟩;have hge:s1.heap.objs.size<=c:=by
  simp only[jK,ke,lM] at hc;rcases hc with rfl | rfl <;> omega
 exact I1.GV (H':=H1) hge (I1.hok.Bp hge)
theorem KY {a:Addr} {xs:List V} {g:TG} {tb:TS} {D:DF} {σ:St} {H:Hp} (Pv:Nat->St->Hp->Prop) (h0:Pv 0 σ H) (hl:∀i σ H,i<=xs.length->Pv i σ H->H a=some (.AG xs))
  (hs:∀i x σ H p,xs[i]?=some x->Pv i σ H->H p=none->g (.ref p) σ (AH H p (.AG [.int i,x])) λσ2 H2=>tb { D with nx:=Pv (i+1),ct:=Pv (i+1),bk:=D.nx } σ2 H2) (hd:∀σ H,Pv xs.length σ H->D.nx σ H) :
  ∃W:Nat->Nat->St->Hp->Prop,(∃m,W 0 m σ H)/\∀i m σ H,W i m σ H →
   ((LQ a).stop i H/\D.nx σ H)\/((LQ a).go i H/\∃N:St->Hp->Prop,(∀σ' H',N σ' H'->∃m',m' < m/\W (i+1) m' σ' H')/\∀x H',(LQ a).Dv i H x H'->g x σ H' λσ2 H2=>tb { D with nx:=N,ct:=N,bk:=D.nx } σ2 H2):=by
 refine⟨λi m σ H=>m=xs.length-i/\i<=xs.length/\Pv i σ H,⟨xs.length,by simp,kH _,h0⟩,?_⟩;rintro i m σ H ⟨rfl,hi,p⟩;have qa:=hl i σ H hi p;rcases j6 i xs.length with hlt | hge
 ·refine .inr ⟨⟨xs,xs[i],qa,by simp[hlt]⟩,Pv (i+1),λσ' H' p'=>⟨xs.length-(i+1),by omega,rfl,hlt,p'⟩,λv H' yl=>?_⟩;obtain⟨pa,x,rfl,hp,rfl,hx⟩:=yl;exact hs i x σ H pa (hx xs qa) p hp
 ·obtain rfl:i=xs.length:=by omega
  exact .inl ⟨⟨xs,qa,rfl⟩,hd σ H p⟩
def aZ:V->List V->Hp->VK->Prop:=λx vs H Q=>∃l xs k y,x=.ref l/\vs=[.int k,y]/\H l=some (.AD xs)/\0<=k/\k<=xs.length/\xs.length<1000000/\Q .BE (AH H l (.AD (xs.take k.toNat++y :: xs.drop k.toNat)))
theorem NR:Iz X "list.insert" aZ:=by
 intro pins s σ H x vs v us Q I rx rv h;obtain⟨l,xs,k,y,rfl,rfl,hH,k0,k1,hz,q⟩:=h;cases rx;obtain⟨u1,u2,rfl,r1,r2⟩:=K6 rv;obtain⟨t,rfl⟩:=r1;obtain⟨z,its,n,r,hl,e⟩:=I.GU hH;have hzs:its.length<=jR:=by rw[<-hl]; exact z
 have hfit:¬(!Builtin.List.listFitsIndex k)=true:=by
  unfold kd.List.listFitsIndex;simp only[Bool.not_eq_true,Bool.not_eq_false',mX,nQ];omega
 refine pk oq ⟨_,e,rfl⟩ PySem.F.entry_list_insert (PySem.F.args_list_insert_3 _ _ _) (AutoSeq1.list_insert_list_int_val_1 l its.toArray n k t u2 hfit (by rw[jJ]; exact hzs)) ⟨e,?_⟩;refine⟨.BE,_,I.Ms (its':=its.take k.toNat++u2 :: its.drop k.toNat) hH e ?_ ((r.take _).append (.cons r2 (r.drop _))) ?_,rfl,q⟩
 ·have hk:¬k<0:=by omega
  have hm:min k.toNat its.toArray.size=k.toNat:=by rw[jJ]; omega
  simp only[jm hk,hm];apply Array.toList_inj.mp;simp;exact jz (by simp)
 ·rw[jw,ka,kB,kA];rw[nF] at *;omega
theorem Qp(hc:X.Cr=true):C6 X (.builtin "min") (λxs H Q=>∃(p:Addr) (ns:List Int),xs=[.ref p]/\H p=some (.AG (ns.map V.int))/\0<ns.length/\∀m,m∈ns->(∀a∈ns,m<=a)->Q (.int m) H):=by
 intro pins s σ H xs us Q I r h;obtain⟨p,ns,rfl,hp,hne,q⟩:=h;obtain⟨u,rfl,r1⟩:=En r;cases r1;obtain⟨its,rv,pa,_⟩:=I.tuple (AK.of (K:=X.K) hp);have hlen:its.length=ns.length:=by rw[<-rv.length,ja]
 have hlt:p<s.heap.objs.size:=by
  obtain⟨o,ho,_⟩:=id pa;exact jQ ho
 have num:∀i v,its.toArray[i]?=some v->∃t,v=.int (ns.getD i 0) t/\i<ns.length:=λi v hv=>by
  rw[nO] at hv;have hi:i<its.length:=(jc.mp hv).1;have hi2:i<ns.length:=by omega
  have hx:(ns.map V.int)[i]?=some (.int ns[i]):=by rw[ji,jb hi2]; rfl
  obtain⟨u,hu,ru⟩:=rv.get hx;rw[hu] at hv;obtain rfl:u=v:=jL hv;obtain⟨t,rfl⟩:=ru;exact⟨t,by rw[je,jb hi2]; rfl,hi2⟩
 refine call_min_walk (md pa ?_);refine⟨s.heap.objs.size,_,_,_,_,_,λi j=>decide (ns.getD i 0<ns.getD j 0),rfl,Walks.tuple (show X.A.in1.handled=none from I.ok.hd hc) _ p (kS hlt) its.toArray,⟨⟨_,jY _ rfl,rfl,rfl⟩,pa.push _⟩,λb hb=>?_,by rw[jJ]; omega,λi j vi vj s' Q' E' hi hj hQ'=>?_,λv h' tk hv k=>?_⟩
 ·simp only[jK,ke,lM] at hb;rw[mZ];rcases hb with rfl | rfl
  ·exact wu _
  ·exact vP hlt
 ·obtain⟨t1,rfl,_⟩:=num i vi hi;obtain⟨t2,rfl,_⟩:=num j vj hj;exact lt_int hQ'
 ·obtain⟨t,rfl,hb⟩:=num _ v hv;obtain⟨h1,h2⟩:=argBest_lt (λi=>ns.getD i 0) (its.toArray.size-1);refine⟨.int _,H,I.Bx λb o eb=>?_,⟨t,rfl⟩,q _ (getD_mem hb) λa ha=>?_⟩
  ·exact k b o (λz=>by
    have:b=s.heap.objs.size:=by simpa using z
    exact absurd (jQ eb) (by rw[this]; exact mW _)) (jt _ eb)
  ·obtain⟨j,hj,rfl⟩:=mem_getD ha;exact h2 j (by rw[jJ]; omega)
end
section
variable {X:Cx}
def Hl(a : Addr): It :=
  ⟨λi H => ∃xs x, H a = some (.AD xs) /\ xs[i]? = some x,
   λi H v H' => ∃p x, v = .ref p /\ H p = none /\ H' = AH H p (.AG [.int i, x]) /\ ∀xs, H a = some (.AD xs) → xs[i]? = some x,
   λi H => ∃xs, H a = some (.AD xs) /\ xs.length = i⟩
theorem Xt{P:j8}{w:World}{K:jk}{es:List kG}{kk:Nat}{pos:Pos}{a e it:Addr}(hei:e≠it):
  GW P w K (.Tuple es kk pos) (Hl a) [e,it] e (λi h=>(∃old,vd h e it ((i:Nat):Int) old)/\h.IsListIter it a i) where
 mem:=by simp
 obj:=λi h st c hc=>by
  obtain⟨⟨old,h1⟩,o2,h2,_,d2⟩:=st;simp only[jK,ke,lM] at hc;rcases hc with rfl | rfl
  ·exact⟨_,h1,λv z=>by have z':rF _=qG v:=z; cases z'⟩
  ·exact⟨_,h2,λv z=>by rw[d2] at z; cases z⟩
 keep:=λi h h' st k=>by
  obtain⟨⟨old,h1⟩,o2,h2,r⟩:=st;exact⟨⟨old,k e (by simp) _ h1⟩,o2,k it (by simp) _ h2,r⟩
 item:=by
  intro X hP hw hK hc i pins s σ H E I hf st hg;subst hP hw hK;obtain⟨xs,x,qa,hx⟩:=hg;obtain⟨its,rv,pa,_⟩:=I.list (AR.of (K:=X.K) qa);obtain⟨ux,hux,rx⟩:=rv.get hx;obtain⟨⟨old,h1⟩,h2⟩:=st;have nea:e≠a:=λz=>by
   have:=(hf e (by simp)).1
   rw[z,qa] at this;cases this
  have nia:a≠it:=λz=>by
   have:=(hf it (by simp)).1
   rw[<-z,qa] at this;cases this
  have hlt:i<its.toArray.size:=by
   rw[jJ];exact(jc.mp hux).1
  have D:Draws X.prog X.w X.A.in1 it [it,a] its.toArray.size (λi v=>its.toArray[i]?=some v) (λi h=>h.IsListIter it a i/\h.IsList a its.toArray):=Draws.list (show X.A.in1.handled=none from I.ok.hd hc) it a nia its.toArray;refine tT D h1 ⟨h2,pa.isList⟩ hlt hei (by simp[hei,nea]) λy h' tk hy a1 a2 a3 a4 k=>?_
  have hyx:y=ux:=by
   have q1:its.toArray[i]?=some y:=hy;rw[nO,hux] at q1;exact(jL q1).symm
  subst hyx;refine⟨_,rfl,si a1 λh'' b1 sb=>?_⟩;have sb:mV e h' h'':=sb;have hse:s.heap.objs.size≠e:=nJ (jQ h1);have hsi:s.heap.objs.size≠it:=by
   obtain⟨o,g,_⟩:=id h2;exact nJ (jQ g)
  have hn:H s.heap.objs.size=none:=I.hok.Bp (jj _);have kk':∀c o,c∉[e,it]->s.heap.get? c=some o->h''.get? c=some o:=λc o hc q =>
   (sb.2 c λz=>hc (by simp[z])).trans (k c o (λz=>hc (by simp[z])) (λz=>hc (by simp[z])) q)
  have tO:h''.get? s.heap.objs.size=some { cls:=.type "tuple",data:=.seq #[.int i tk,y] }:=(sb.2 _ hse).trans a3;have nt:∀c u,H c=some u->c∉[e,it]:=λc u q hc=>by
   have:=(hf c hc).1
   rw[q] at this;cases this
  have tupOk:Bq X.prog X.w (AH H s.heap.objs.size (.AG [.int i,x])) h'' s.heap.objs.size (.AG [.int i,x]) :=
   ⟨by exact B6,[.int i tk,y],.cons ⟨tk,rfl⟩ (.cons rx .nil),⟨_,tO,rfl,_,rfl⟩,_,tO,rfl⟩
  have I1:AI X pins σ (AH H s.heap.objs.size (.AG [.int i,x])) { s with heap:=h'',toks:=tk+1 }:=by
   refine I.step (g':=s.gens) (d':=s.drawn) (t':=tk+1) (ch:=[e,it]) (λc hc=>⟨(hf c hc).2.2.2.1,(hf c hc).2.1,(hf c hc).2.2.2.2.1,(hf c hc).2.2.2.2.2⟩) (λc o _ _ hc q _=>kk' c o hc q) (λc o _ _ hc q _=>⟨o.slots,kk' c o hc q⟩)
    (λc o _ q n=>by rw[Ad (kS (jQ q))]; exact n) (λc o hc q=>⟨o,kk' c o hc q⟩) (λc vs q=>by rw[Ad (BP q hn)]; exact q) (λc o vs q=>by rw[Ad (BP q hn)]; exact q)
    (λc ps q=>⟨#[],by rw[Ad (BP q hn),q]; simp⟩) (λm hm=>?_) (λc o q=>?_) I.bare
   ·obtain⟨o,es',ep,ho,r⟩:=hm;exact⟨o,es',ep,kk' _ o (λq=>(hf _ q).2.1 rfl) ho,r⟩
   ·by_cases hcs:c=s.heap.objs.size
    ·subst hcs;rw[AU] at q;cases q;exact tupOk
    ·rw[Ad hcs] at q;refine(I.hok c o q).Fs (λd v hd z=>kk' d v ?_ z) (λd z=>by rw[Ad (BP z hn)]; exact z) λd vs z=>by rw[Ad (BP z hn)]; exact z
     rcases hd with hd | hd
     ·rw[hd]; exact nt c o q
     ·exact nt d _ hd
  have g2:h''.IsListIter it a (i+1):=by
   obtain⟨⟨o,g,r⟩,_⟩:=a2;exact⟨o,(sb.2 _ (lF hei)).trans g,r⟩
  have g1:vd h'' e it (((i+1:Nat)):Int) y:=by
   have:((i+1:Nat):Int)=(i:Int)+1:=by omega
   rw[this];exact b1
  exact⟨.ref s.heap.objs.size,_,I1,rfl,⟨_,x,rfl,hn,rfl,λxs' q=>by rw[qa] at q; cases q; exact hx⟩,⟨⟨_,g1⟩,g2⟩,λc hc=>by
   have:c≠s.heap.objs.size:=by
    simp only[jK,ke,lM] at hc;rcases hc with rfl | rfl
    ·exact lF hse
    ·exact lF hsi
   rw[Ad this];exact(hf c hc).1⟩
 done:=by
  intro X hP hw hK hc i pins s σ H E I hf st hg;subst hP hw hK;obtain⟨xs,qa,hl⟩:=hg;obtain⟨its,rv,pa,_⟩:=I.list (AR.of (K:=X.K) qa);obtain⟨⟨old,h1⟩,h2⟩:=st;have nia:a≠it:=λz=>by
   have:=(hf it (by simp)).1
   rw[<-z,qa] at this;cases this
  have D:Draws X.prog X.w X.A.in1 it [it,a] its.toArray.size (λi v=>its.toArray[i]?=some v) (λi h=>h.IsListIter it a i/\h.IsList a its.toArray):=Draws.list (show X.A.in1.handled=none from I.ok.hd hc) it a nia its.toArray;have hi:its.toArray.size=i:=by
   rw[jJ,<-rv.length];exact hl
  obtain⟨f0,f1,f2,f3,f4,f5⟩:=hf it (by simp);refine um D h1 (by rw[hi]; exact⟨h2,pa.isList⟩) λh' k=>⟨rfl,I.EH (t':=s.toks) (λb o hb q=>k b o hb q) f0 f1 f3 f4 f5⟩
 GS:=λ_ _ _ _ _ st h=>by
  obtain⟨⟨old,h1⟩,_⟩:=st;exact qr h1 h
def c9(ta:TA):TI:=λσ H R=>ta σ H λvs H1=>∃a xs,vs=[.ref a]/\H1 a=some (.AD xs)/\R (Hl a) H1
theorem JW{es:List kG}{kk:Nat}{tpos:Pos}{a:kG}{ta:TA}{p pos:Pos}(hg:Gl X "enumerate")(hm:X.mg "enumerate" = none)(ha:PA X [a] ta)(hs:kc [a] X.env=[(false,eval a X.env)]:=by rfl):
  PI X (.Tuple es kk tpos) (.Call (.Name "enumerate" p) [a] [] pos) (c9 ta):=by
 intro pins s σ H R I h;refine Call_ (EG I hg hm rR (kz (Ag (ha pos pins s σ H _ I h) λus s1 ⟨vs,H1,I1,r1,q1⟩=>?_) hs rfl));obtain⟨la,xs,e,qa,q⟩:=q1;subst e;obtain⟨u1,rfl,ra⟩:=En r1;cases ra;obtain⟨its,rv,pa,_⟩:=I1.list (AR.of (K:=X.K) qa);refine call_enumerate_list pa.isList λh' z1 z2 _ zk=>qr z1 ?_
 have I2:AI X pins σ H1 { s1 with heap:=h' }:=I1.Bx (t':=s1.toks) zk;refine⟨s1.heap.objs.size+1,_,_,_,H1,rfl,I2,Xt (wy _),⟨⟨_,z1⟩,z2⟩,λc hc=>?_,q⟩;have hge:s1.heap.objs.size<=c:=by
  simp only[jK,ke,lM] at hc;rcases hc with rfl | rfl <;> omega
 exact I1.GV (H':=H1) hge (I1.hok.Bp hge)
theorem La {a:Addr} {xs:List V} {g:TG} {tb:TS} {D:DF} {σ:St} {H:Hp} (Pv:Nat->St->Hp->Prop) (h0:Pv 0 σ H) (hl:∀i σ H,i<=xs.length->Pv i σ H->H a=some (.AD xs))
  (hs:∀i x σ H p,xs[i]?=some x->Pv i σ H->H p=none->g (.ref p) σ (AH H p (.AG [.int i,x])) λσ2 H2=>tb { D with nx:=Pv (i+1),ct:=Pv (i+1),bk:=D.nx } σ2 H2) (hd:∀σ H,Pv xs.length σ H->D.nx σ H) :
  ∃W:Nat->Nat->St->Hp->Prop,(∃m,W 0 m σ H)/\∀i m σ H,W i m σ H →
   ((Hl a).stop i H/\D.nx σ H)\/((Hl a).go i H/\∃N:St->Hp->Prop,(∀σ' H',N σ' H'->∃m',m' < m/\W (i+1) m' σ' H')/\∀x H',(Hl a).Dv i H x H'->g x σ H' λσ2 H2=>tb { D with nx:=N,ct:=N,bk:=D.nx } σ2 H2):=by
 refine⟨λi m σ H=>m=xs.length-i/\i<=xs.length/\Pv i σ H,⟨xs.length,by simp,kH _,h0⟩,?_⟩;rintro i m σ H ⟨rfl,hi,p⟩;have qa:=hl i σ H hi p;rcases j6 i xs.length with hlt | hge
 ·refine .inr ⟨⟨xs,xs[i],qa,by simp[hlt]⟩,Pv (i+1),λσ' H' p'=>⟨xs.length-(i+1),by omega,rfl,hlt,p'⟩,λv H' yl=>?_⟩;obtain⟨pa,x,rfl,hp,rfl,hx⟩:=yl;exact hs i x σ H pa (hx xs qa) p hp
 ·obtain rfl:i=xs.length:=by omega
  exact .inl ⟨⟨xs,qa,rfl⟩,hd σ H p⟩
theorem Cw{i:Nat}{v:V}{σ:L2.St}{H:Hp}{k:L2.St->Hp->Prop}(h:k (σ.set i (some v)) H):BR i v σ H k:=h
theorem Cv{t u:L2.TS}{D:DF}{σ:L2.St}{H:Hp}(h:∀U:L2.St->Hp->Prop,u D=U->t { D with nx:=U } σ H):J1 t u D σ H:=h _ rfl
theorem nx_hide{t:L2.TS}{N c b:L2.St->Hp->Prop}{r:VK}{σ:L2.St}{H:Hp}(h:∀U:L2.St->Hp->Prop,N=U->t { nx:=U,rt:=r,ct:=c,bk:=b } σ H):t { nx:=N,rt:=r,ct:=c,bk:=b } σ H:=h _ rfl
variable {a:Addr} {xs:List V} {g:TG} {tb:TS} {D:DF} {σ:St} {H:Hp}
theorem NV (Pv:Nat->St->Hp->Prop) (h0:Pv 0 σ H) (hl:∀i σ H,i<=xs.length->Pv i σ H->H a=some (.AD xs))
  (hs:∀i x σ H p,xs[i]?=some x->Pv i σ H->H p=none->∀U:St->Hp->Prop,(∀σ' H',Pv (i+1) σ' H'->U σ' H')->g (.ref p) σ (AH H p (.AG [.int i,x])) λσ2 H2=>tb { D with nx:=U,ct:=U,bk:=D.nx } σ2 H2) (hd:∀σ H,Pv xs.length σ H->D.nx σ H) :
  ∃W:Nat->Nat->St->Hp->Prop,(∃m,W 0 m σ H)/\∀i m σ H,W i m σ H →
   ((Hl a).stop i H/\D.nx σ H)\/((Hl a).go i H/\∃N:St->Hp->Prop,(∀σ' H',N σ' H'->∃m',m' < m/\W (i+1) m' σ' H')/\∀x H',(Hl a).Dv i H x H'->g x σ H' λσ2 H2=>tb { D with nx:=N,ct:=N,bk:=D.nx } σ2 H2) :=
 La Pv h0 hl (λi x σ H p e1 e2 e3=>hs i x σ H p e1 e2 e3 _ λ_ _ z=>z) hd
theorem CY {X:Cx} (K:jk) {o e:kG} {es:List kG} {to:TE} {t:TA} {name:Str} {apos cpos:Pos} {T id:String} {r:V->List V->Hp->VK->Prop} (pa:wQ T) (slot:Slot T name id) (hty:typeOf (.builtin id)=pure (.type "method_descriptor")) (hm:KG X id r) (ho:PE X o to) (ha:PA X (e :: es) t)
  (hbase:qB o name X.env (eval o X.env)=eval o X.env:=by rfl)
  (hfew:((nh cpos (kc (e :: es) X.env)).all (λx=>!x.1) && (uK cpos (rL [] X.env)).all (λx=>x.1.isSome) && decide ((e :: es).length+([]:List pF).length+(if ([]:List pF).isEmpty then 0 else 1)<30))=true:=by rfl)
  (hline:(apos.endLine == cpos.line)=true:=by rfl) (hs:kc (e :: es) X.env=(false,eval e X.env) :: kc es X.env:=by rfl) (hplain:(nh cpos (kc es X.env)).any (·.1)=false:=by rfl) (hK:X.K=K:=by rfl) :
  PE X (.Call (.Attribute o name apos) (e :: es) [] cpos) (Wo K T r to t):=by
 subst hK;exact fE pa slot hty hm ho ha hbase hfew hline hs hplain
theorem QW:∀{ns:List Int} {us:List Value},Ah (ns.map V.int) us->rA us ns
 | [],_,.nil=>.nil
 | n :: r,_,.cons (b:=u) h t=>by
  obtain⟨k,rfl⟩:=h;exact .cons n k (QW t)
def Br(t:Bool)(h:Heap)(c a:Addr)(k:Nat):Prop:=if t then h.IsTupleIter c a k else h.IsListIter c a k
def DI(t:Bool)(h:Heap)(a:Addr)(vs:Array Value):Prop:=if t then h.IsTuple a vs else h.IsList a vs
theorem Br.ext{t:Bool}{h h':Heap}{c b a:Addr}{k:Nat}(x:Br t h c a k)(hs:t5 b h h')(n:c≠b):Br t h' c a k:=by
 cases t
 ·exact wH.extBut x hs n
 ·exact xw x hs n
theorem Br.at{t:Bool}{h h':Heap}{c a:Addr}{k:Nat}(x:Br t h c a k)(e:∀o,h.get? c=some o->h'.get? c=some o):Br t h' c a k:=by
 cases t
 ·exact wH.at x e
 ·exact wj.at x e
theorem Br.obj{t:Bool}{h:Heap}{c a:Addr}{k:Nat}(x:Br t h c a k):∃o,h.get? c=some o/\∀v,o.data≠.cell v:=by
 cases t
 ·obtain⟨o,e,_,d⟩:=x;exact⟨o,e,λv z=>by rw[d] at z; cases z⟩
 ·obtain⟨o,e,_,d⟩:=x;exact⟨o,e,λv z=>by rw[d] at z; cases z⟩
theorem DI.ext{t:Bool}{h h':Heap}{b a:Addr}{vs:Array Value}(x:DI t h a vs)(hs:t5 b h h')(n:a≠b):DI t h' a vs:=by
 cases t
 ·exact pE.extBut x hs n
 ·exact og.extBut x hs n
variable {prog:j8} {w:World} {A:kK} {E:Value->jh->Prop} {s:jh}
theorem NO {t:Bool} {c a:Addr} {k:Nat} {vs:Array Value} {y:Value} {Q:Value->jh->Prop} (hc:Br t s.heap c a k) (ht:DI t s.heap a vs) (hy:vs[k]?=some y)
  (hQ:∀h',Br t h' c a (k+1)->mV c s.heap h'->Q y { s with heap:=h' }):wpAny (model prog w) A (kT (.ref c)) Q E s:=by
 cases t
 ·exact wpAny_nextOf_list_item hc ht hy hQ
 ·exact QX hc ht hy hQ
theorem Qm {t:Bool} {c a:Addr} {k:Nat} {vs:Array Value} {Q:Value->jh->Prop} (hh:A.handled=none) (hc:Br t s.heap c a k) (ht:DI t s.heap a vs) (hy:vs[k]?=none)
  (hE:∀h' x,t5 c s.heap h'->(∃o,h'.get? x=some o/\o.cls=.type "StopIteration")->E (.ref x) { s with heap:=h' }):wpAny (model prog w) A (kT (.ref c)) Q E s:=by
 cases t
 ·exact wpAny_nextOf_list_end hh hc ht hy hE
 ·exact Qv hh hc ht hy hE
theorem Yi {t1 t2:Bool} {z TI TO i1 i2 l1 l2:Addr} {k1 k2:Nat} {xs ys:Array Value} {x y a b:Value} {Q:Value->jh->Prop} (ap:tJ z TI TO i1 i2 l1 l2)
  (qz:IsZip s.heap z TI TO .none) (qI:mL s.heap TI (.ref i1) (.ref i2)) (qO:mL s.heap TO a b)
  (q1:Br t1 s.heap i1 l1 k1) (q2:Br t2 s.heap i2 l2 k2) (m1:DI t1 s.heap l1 xs) (m2:DI t2 s.heap l2 ys) (hx:xs[k1]?=some x) (hy:ys[k2]?=some y)
  (hQ:∀g,IsZip g z TI TO (rS s.heap.objs.size)->mL g TO x y->Br t1 g i1 l1 (k1+1)->Br t2 g i2 l2 (k2+1)->mL g s.heap.objs.size x y->g.objs.size=s.heap.objs.size+1 →
   (∀c o,c≠z->c≠TO->c≠i1->c≠i2->s.heap.get? c=some o->g.get? c=some o)->Q (.ref s.heap.objs.size) { s with heap:=g }) :
  wpAny (model prog w) A (kd.«zip.__next__» ⟨[.ref z],[]⟩) (λfin s'=>∃v,fin=.done (.ret v)/\Q v s') E s:=by
 show wpAny _ A (field (.ref z) 2 >>= _) _ _ _;refine jf (l8 qz rfl (x:=.bool false) rfl ?_); show wpAny _ A (field (.ref z) 3 >>= _) _ _ _;refine jf (l8 qz rfl (x:=.ref TI) rfl (jf (nA qI rfl ?_)));show wpAny _ A (mP (.ref z) >>= _) _ _ _;refine jf ?_; unfold mP;refine jf (l8 qz rfl (x:=.none) rfl (jS ?_)); simp only[if_true];refine jf (sX (jf (l8 qz rfl (x:=.ref TO) rfl (jf (nN qz (by simp) λg1 z1 s1=>?_)))));replace z1:IsZip g1 z TI TO .ellipsis:=z1;refine jf ?_; simp only[wq,wM,qM,w9];refine jf (jf (sj ?_)); show wpAny _ A (kT (.ref i1) >>= _) _ _ _;refine jf (NO (q1.ext s1.extBut ap.i1z) (m1.ext s1.extBut ap.l1z) hx λg2 n1 s2=>jS ?_);have O2:mL g2 TO a b:=s2.extBut _ _ ap.TOi1 (s1.extBut _ _ ap.TOz qO);refine jf (nA O2 rfl (jf (qX O2 λg3 O3 s3=>?_)));replace O3:mL g3 TO x b:=O3;refine jf (v9 (jS (jf (jf (sj ?_))))); show wpAny _ A (kT (.ref i2) >>= _) _ _ _;refine jf (NO (((q2.ext s1.extBut ap.i2z).ext s2.extBut ap.i12.symm).ext s3.extBut ap.TOi2.symm) (((m2.ext s1.extBut ap.l2z).ext s2.extBut ap.l2i1).ext s3.extBut ap.l2TO) hy λg4 n2 s4=>jS ?_);have O4:mL g4 TO x b:=s4.extBut _ _ ap.TOi2 O3;refine jf (nA O4 rfl (jf (qX O4 λg5 O5 s5=>?_)));replace O5:mL g5 TO x y:=O5;refine jf (v9 (jS (jS (jf (nA O5 rfl (jf (wpAny_newTuple ?_)))))));have sz5:g5.objs.size=s.heap.objs.size:=by rw[s5.1,s4.1,s3.1,s2.1,s1.1]
 have z5:IsZip g5 z TI TO .ellipsis:=s5.extBut _ _ ap.TOz.symm (s4.extBut _ _ ap.i2z.symm (s3.extBut _ _ ap.TOz.symm (s2.extBut _ _ ap.i1z.symm z1)));have kp:∀c o,c≠z->c≠TO->c≠i1->c≠i2->s.heap.get? c=some o->g5.get? c=some o:=λc o c1 c2 c3 c4 e =>
  s5.extBut _ _ c2 (s4.extBut _ _ c4 (s3.extBut _ _ c2 (s2.extBut _ _ c3 (s1.extBut _ _ c1 e))))
 have N1:Br t1 g5 i1 l1 (k1+1):=((n1.ext s3.extBut ap.TOi1.symm).ext s4.extBut ap.i12).ext s5.extBut ap.TOi1.symm;have N2:Br t2 g5 i2 l2 (k2+1):=n2.ext s5.extBut ap.TOi2.symm;have ltz:z<g5.objs.size:=jQ z5;show wpAny _ A (pO (.ref z) (.ref g5.objs.size) >>= _) _ _ _;refine jf ?_; unfold pO;have z6:IsZip (g5.push { cls:=.type "tuple",data:=.seq #[x,y] }) z TI TO .ellipsis:=jt _ z5;refine jf (nN z6 (by simp) λg7 z7 s7=>?_);replace z7:IsZip g7 z TI TO (rS g5.objs.size):=z7;refine nN z7 (by simp) λg8 z8 s8=>?_
 replace z8:IsZip g8 z TI TO (rS g5.objs.size):=z8;have up:∀c o,c≠z->g5.get? c=some o->g8.get? c=some o:=λc o c1 e=>s8.extBut _ _ c1 (s7.extBut _ _ c1 (jt _ e))
 have T8:mL g8 g5.objs.size x y:=s8.extBut _ _ (nJ ltz) (s7.extBut _ _ (nJ ltz) (jY _ rfl));have sz8:g8.objs.size=g5.objs.size+1:=by rw[s8.1,s7.1,mZ]
 rw[sz5] at z8 T8 sz8;refine jS ⟨_,rfl,?_⟩;show Q (.ref g5.objs.size) _;rw[sz5];exact hQ g8 z8 (up _ _ ap.TOz O5) (N1.at λo e=>up _ o ap.i1z e) (N2.at λo e=>up _ o ap.i2z e) T8 sz8 λc o c1 c2 c3 c4 e=>up c o c1 (kp c o c1 c2 c3 c4 e)
theorem ZK {t1 t2:Bool} {z TI TO i1 i2 l1 l2:Addr} {k1 k2:Nat} {xs ys:Array Value} {a b:Value} {Q:Fin->jh->Prop} (hh:A.handled=none) (ap:tJ z TI TO i1 i2 l1 l2)
  (qz:IsZip s.heap z TI TO .none) (qI:mL s.heap TI (.ref i1) (.ref i2)) (qO:mL s.heap TO a b)
  (q1:Br t1 s.heap i1 l1 k1) (q2:Br t2 s.heap i2 l2 k2) (m1:DI t1 s.heap l1 xs) (m2:DI t2 s.heap l2 ys) (hend:xs[k1]?=none\/ys[k2]?=none)
  (hE:∀g e,(∀c o,c≠z->c≠TO->c≠i1->c≠i2->s.heap.get? c=some o->g.get? c=some o)->(∃o,g.get? e=some o/\o.cls=.type "StopIteration")->E (.ref e) { s with heap:=g }) :
  wpAny (model prog w) A (kd.«zip.__next__» ⟨[.ref z],[]⟩) Q E s:=by
 show wpAny _ A (field (.ref z) 2 >>= _) _ _ _;refine jf (l8 qz rfl (x:=.bool false) rfl ?_); show wpAny _ A (field (.ref z) 3 >>= _) _ _ _;refine jf (l8 qz rfl (x:=.ref TI) rfl (jf (nA qI rfl ?_)));show wpAny _ A (mP (.ref z) >>= _) _ _ _;refine jf ?_; unfold mP;refine jf (l8 qz rfl (x:=.none) rfl (jS ?_)); simp only[if_true];refine jf (sX (jf (l8 qz rfl (x:=.ref TO) rfl (jf (nN qz (by simp) λg1 z1 s1=>?_)))));replace z1:IsZip g1 z TI TO .ellipsis:=z1;refine jf ?_; simp only[wq,wM,qM,w9];refine jf (jf (sj ?_)); show wpAny _ A (kT (.ref i1) >>= _) _ _ _;cases hx:xs[k1]? with
 | none =>
  refine jf (Qm hh (q1.ext s1.extBut ap.i1z) (m1.ext s1.extBut ap.l1z) hx λg2 e s2 he=>?_);obtain⟨oe,w1,w2⟩:=he;have z2:IsZip g2 z TI TO .ellipsis:=s2 _ _ ap.i1z.symm z1;have ez:e≠z:=λx=>by subst x; rw[z2] at w1; cases w1; simp at w2
  exact nN z2 (by simp) λg3 _ s3=>hE g3 e (λc o c1 _ c3 _ x=>s3.extBut _ _ c1 (s2 _ _ c3 (s1.extBut _ _ c1 x))) ⟨oe,s3.extBut _ _ ez w1,w2⟩
 | some x =>
  have hy:ys[k2]?=none:=by rcases hend with h | h; rw[hx] at h; cases h; exact h
  refine jf (NO (q1.ext s1.extBut ap.i1z) (m1.ext s1.extBut ap.l1z) hx λg2 n1 s2=>jS ?_);have O2:mL g2 TO a b:=s2.extBut _ _ ap.TOi1 (s1.extBut _ _ ap.TOz qO);refine jf (nA O2 rfl (jf (qX O2 λg3 O3 s3=>?_)));refine jf (v9 (jS (jf (jf (sj ?_))))); show wpAny _ A (kT (.ref i2) >>= _) _ _ _;refine jf (Qm hh (((q2.ext s1.extBut ap.i2z).ext s2.extBut ap.i12.symm).ext s3.extBut ap.TOi2.symm) (((m2.ext s1.extBut ap.l2z).ext s2.extBut ap.l2i1).ext s3.extBut ap.l2TO) hy λg4 e s4 he=>?_);obtain⟨oe,w1,w2⟩:=he;have z4:IsZip g4 z TI TO .ellipsis:=s4 _ _ ap.i2z.symm (s3.extBut _ _ ap.TOz.symm (s2.extBut _ _ ap.i1z.symm z1));have ez:e≠z:=λx=>by subst x; rw[z4] at w1; cases w1; simp at w2
  exact nN z4 (by simp) λg5 _ s5=>hE g5 e (λc o c1 c2 c3 c4 x=>s5.extBut _ _ c1 (s4 _ _ c4 (s3.extBut _ _ c2 (s2.extBut _ _ c3 (s1.extBut _ _ c1 x))))) ⟨oe,s5.extBut _ _ ez w1,w2⟩
theorem XM {t1 t2:Bool} {z TI TO i1 i2 l1 l2:Addr} {k1 k2:Nat} {xs ys:Array Value} {x y a b:Value} {Q:Option Value->jh->Prop} (ap:tJ z TI TO i1 i2 l1 l2)
  (qz:IsZip s.heap z TI TO .none) (qI:mL s.heap TI (.ref i1) (.ref i2)) (qO:mL s.heap TO a b)
  (q1:Br t1 s.heap i1 l1 k1) (q2:Br t2 s.heap i2 l2 k2) (m1:DI t1 s.heap l1 xs) (m2:DI t2 s.heap l2 ys) (hx:xs[k1]?=some x) (hy:ys[k2]?=some y)
  (hQ:∀g,IsZip g z TI TO (rS s.heap.objs.size)->mL g TO x y->Br t1 g i1 l1 (k1+1)->Br t2 g i2 l2 (k2+1)->mL g s.heap.objs.size x y->g.objs.size=s.heap.objs.size+1 →
   (∀c o,c≠z->c≠TO->c≠i1->c≠i2->s.heap.get? c=some o->g.get? c=some o)->Q (some (.ref s.heap.objs.size)) { s with heap:=g }) :
  wpAny (model prog w) A (uE (.ref z)) Q E s:=by
 have ty:s.TypeIs (.ref z) "zip":=⟨_,qz,rfl⟩;unfold uE;exact jf (wpAny_attempt (mR (name:=p7 "__next__") ty oZ (ou oZ ty t9
   (Yi ap qz qI qO q1 q2 m1 m2 hx hy λg a1 a2 a3 a4 a5 a6 a7=>jS (hQ g a1 a2 a3 a4 a5 a6 a7)) (tR _))))
theorem XY {t1 t2:Bool} {z TI TO i1 i2 l1 l2:Addr} {k1 k2:Nat} {xs ys:Array Value} {a b:Value} {Q:Option Value->jh->Prop} (hh:A.handled=none) (ap:tJ z TI TO i1 i2 l1 l2)
  (qz:IsZip s.heap z TI TO .none) (qI:mL s.heap TI (.ref i1) (.ref i2)) (qO:mL s.heap TO a b)
  (q1:Br t1 s.heap i1 l1 k1) (q2:Br t2 s.heap i2 l2 k2) (m1:DI t1 s.heap l1 xs) (m2:DI t2 s.heap l2 ys) (hend:xs[k1]?=none\/ys[k2]?=none)
  (hQ:∀g,(∀c o,c≠z->c≠TO->c≠i1->c≠i2->s.heap.get? c=some o->g.get? c=some o)->Q none { s with heap:=g }):wpAny (model prog w) A (uE (.ref z)) Q E s:=by
 have ty:s.TypeIs (.ref z) "zip":=⟨_,qz,rfl⟩;unfold uE;refine jf (wpAny_attempt (mR (name:=p7 "__next__") ty oZ (ou oZ ty t9 (ZK hh ap qz qI qO q1 q2 m1 m2 hend λg e hk he=>?_) (tR _))));obtain⟨o,w1,w2⟩:=he;exact jf (wpAny_isInstance (T:="StopIteration") (b:=true) ⟨o,w1,w2⟩ isSubtype_stop (jS (hQ _ hk)))
def E2(t:Bool)(l:Addr):Obj:=if t then { cls:=.type "tuple_iterator",data:=.fields #[.ref l,.int 0 0] } else { cls:=.type "list_iterator",data:=.fields #[.ref l,.int 0 0] }
abbrev zk2(t1 t2:Bool)(h:Heap)(l1 l2:Addr):Heap:=(h.push (E2 t1 l1)).push (E2 t2 l2)
abbrev NC(t1 t2:Bool)(h:Heap)(l1 l2:Addr):Heap:=((zk2 t1 t2 h l1 l2).push { cls:=.type "tuple",data:=.seq #[.ref h.objs.size,.ref (h.push (E2 t1 l1)).objs.size] }).push { cls:=.type "tuple",data:=.seq #[.none,.none] }
abbrev I0(t1 t2:Bool)(h:Heap)(l1 l2:Addr):Heap:=(NC t1 t2 h l1 l2).push { cls:=.type "zip",data:=.fields #[.none,.bool false,.bool false,.ref (zk2 t1 t2 h l1 l2).objs.size,.ref ((zk2 t1 t2 h l1 l2).push { cls:=.type "tuple",data:=.seq #[.ref h.objs.size,.ref (h.push (E2 t1 l1)).objs.size] }).objs.size] }
set_option maxHeartbeats 4000000 in
theorem X1(t1 t2:Bool)(l1 l2:Addr)(xs ys:Array Value):
  Meets (kd.«zip.__new__» ⟨[.type "zip",.ref l1,.ref l2],[]⟩) (λ_ R s=>DI t1 s.heap l1 xs/\DI t2 s.heap l2 ys/\R (.ok (.ret (.ref (NC t1 t2 s.heap l1 l2).objs.size))) { s with heap:=I0 t1 t2 s.heap l1 l2 }) :=
 .of_wp λprog w A R s h=>by
  obtain⟨hp,g,d,tk,os⟩:=s; obtain⟨m1,m2,h⟩:=h;have hsub:=sub_zip;cases t1 <;> cases t2
  ·have a1:pE (nZ ⟨hp,g,d,tk,os⟩) l1 xs:=m1;have a2:pE (nZ ⟨hp.push { cls:=.type "list_iterator",data:=.fields #[.ref l1,.int 0 0] },g,d,tk,os⟩) l2 ys:=we m2 _
   wp_walk using nS a1,nS a2
   exact⟨_,rfl,h⟩
  ·have a1:pE (nZ ⟨hp,g,d,tk,os⟩) l1 xs:=m1;have a2:og (nZ ⟨hp.push { cls:=.type "list_iterator",data:=.fields #[.ref l1,.int 0 0] },g,d,tk,os⟩) l2 ys:=vJ m2 _
   wp_walk using nS a1,md a2
   exact⟨_,rfl,h⟩
  ·have a1:og (nZ ⟨hp,g,d,tk,os⟩) l1 xs:=m1;have a2:pE (nZ ⟨hp.push { cls:=.type "tuple_iterator",data:=.fields #[.ref l1,.int 0 0] },g,d,tk,os⟩) l2 ys:=we m2 _
   wp_walk using md a1,nS a2
   exact⟨_,rfl,h⟩
  ·have a1:og (nZ ⟨hp,g,d,tk,os⟩) l1 xs:=m1;have a2:og (nZ ⟨hp.push { cls:=.type "tuple_iterator",data:=.fields #[.ref l1,.int 0 0] },g,d,tk,os⟩) l2 ys:=vJ m2 _
   wp_walk using md a1,md a2
   exact⟨_,rfl,h⟩
theorem Yn {t1 t2:Bool} {l1 l2:Addr} {xs ys:Array Value} {Q:Value->jh->Prop} (m1:DI t1 s.heap l1 xs) (m2:DI t2 s.heap l2 ys)
  (h:∀g,IsZip g (s.heap.objs.size+4) (s.heap.objs.size+2) (s.heap.objs.size+3) .none->mL g (s.heap.objs.size+2) (.ref s.heap.objs.size) (.ref (s.heap.objs.size+1)) →
   mL g (s.heap.objs.size+3) .none .none->Br t1 g s.heap.objs.size l1 0->Br t2 g (s.heap.objs.size+1) l2 0->g.objs.size=s.heap.objs.size+5 →
   (∀c o,s.heap.get? c=some o->g.get? c=some o)->Q (.ref (s.heap.objs.size+4)) { s with heap:=g }) :
  wpAny (model prog w) A (call (.type "zip") [.ref l1,.ref l2]) Q E s:=by
 refine callType_new PySem.F.called_zip (by decide) (PySem.F.typeCall_zip_2 _ _) (PySem.F.newCall_zip_2 _ _) (λobj=>PySem.F.args_object_init_3 obj _ _) PySem.F.entry_zip_new (X1 t1 t2 l1 l2 xs ys) ⟨m1,m2,?_⟩;have y1:(s.heap.push (E2 t1 l1)).objs.size=s.heap.objs.size+1:=mZ ..;have y2:(zk2 t1 t2 s.heap l1 l2).objs.size=s.heap.objs.size+2:=by rw[mZ,y1]
 have y3:((zk2 t1 t2 s.heap l1 l2).push { cls:=.type "tuple",data:=.seq #[.ref s.heap.objs.size,.ref (s.heap.push (E2 t1 l1)).objs.size] }).objs.size=s.heap.objs.size+3:=by rw[mZ,y2]
 have y4:(NC t1 t2 s.heap l1 l2).objs.size=s.heap.objs.size+4:=by rw[mZ,y3]
 have y5:(I0 t1 t2 s.heap l1 l2).objs.size=s.heap.objs.size+5:=by rw[mZ,y4]
 have f1:∀(t:Bool) (l:Addr),(E2 t l).isFreed=false:=λt l=>by cases t <;> rfl
 have e5:(I0 t1 t2 s.heap l1 l2).get? (NC t1 t2 s.heap l1 l2).objs.size=some _:=jY _ rfl;have e4:(I0 t1 t2 s.heap l1 l2).get? ((zk2 t1 t2 s.heap l1 l2).push { cls:=.type "tuple",data:=.seq #[.ref s.heap.objs.size,.ref (s.heap.push (E2 t1 l1)).objs.size] }).objs.size=some _:=jt _ (jY _ rfl);have e3:(I0 t1 t2 s.heap l1 l2).get? (zk2 t1 t2 s.heap l1 l2).objs.size=some _:=jt _ (jt _ (jY _ rfl));have e2:(I0 t1 t2 s.heap l1 l2).get? (s.heap.push (E2 t1 l1)).objs.size=some (E2 t2 l2):=jt _ (jt _ (jt _ (jY _ (f1 _ _))));have e1:(I0 t1 t2 s.heap l1 l2).get? s.heap.objs.size=some (E2 t1 l1):=jt _ (jt _ (jt _ (jt _ (jY _ (f1 _ _)))));have iK:∀(t:Bool) (g:Heap) (c l:Addr),g.get? c=some (E2 t l)->Br t g c l 0:=λt g c l e=>by cases t <;> exact⟨_,e,rfl,rfl⟩
 show _/\_;rw[y2,y3,y4] at e5;rw[y1,y2] at e3;rw[y3] at e4;rw[y1] at e2;rw[y4];exact⟨⟨_,e5,rfl⟩,h _ e5 e3 e4 (iK _ _ _ _ e1) (iK _ _ _ _ e2) y5 λc o q=>jt _ (jt _ (jt _ (jt _ (jt _ q))))⟩
def Bf(t:Bool)(K:jk)(H:Hp)(a:Addr)(xs:List V):Prop:=if t then AK K H a xs else AR K H a xs
theorem DI.lt{t:Bool}{h:Heap}{a:Addr}{vs:Array Value}(x:DI t h a vs):a<h.objs.size:=by
 cases t
 ·obtain⟨o,e,_⟩:=x;exact jQ e
 ·obtain⟨o,e,_⟩:=x;exact jQ e
theorem AI.J7{pins:List (Addr×Obj)}{σ:St}{H:Hp}{s:jh}{t:Bool}{a:Addr}{xs:List V}(I:AI X pins σ H s)(h:Bf t X.K H a xs):∃its:List Value,Ah xs its/\DI t s.heap a its.toArray/\xs.length<=jR:=by
 cases t
 ·obtain⟨its,rv,p,z⟩:=I.list h;exact⟨its,rv,p.isList,z⟩
 ·obtain⟨its,rv,p,z⟩:=I.tuple h;exact⟨its,rv,p,z⟩
theorem AI.S3{pins:List (Addr×Obj)}{σ:St}{H:Hp}{s:jh}{t:Bool}{a:Addr}{xs ys:List V}(I:AI X pins σ H s)(h:Bf t X.K H a xs)(g:Bf t X.K H a ys):xs=ys:=by
 cases t
 ·exact I.list_inj h g
 ·exact I.Qj h g
theorem Bf.l{K:jk}{H:Hp}{a:Addr}{xs:List V}(h:H a=some (.AD xs)):Bf false K H a xs:=AR.of h
theorem Bf.t{K:jk}{H:Hp}{a:Addr}{xs:List V}(h:H a=some (.AG xs)):Bf true K H a xs:=AK.of h
def J5(K : jk)(t1 t2 : Bool)(a b : Addr): It :=
  ⟨λi H => ∃xs ys x y, Bf t1 K H a xs /\ Bf t2 K H b ys /\ xs[i]? = some x /\ ys[i]? = some y,
   λi H v H' => ∃p x y, v = .ref p /\ H p = none /\ H' = AH H p (.AG [x, y]) /\ (∀xs, Bf t1 K H a xs → xs[i]? = some x) /\ ∀ys, Bf t2 K H b ys → ys[i]? = some y,
   λi H => ∃xs ys, Bf t1 K H a xs /\ Bf t2 K H b ys /\ (xs.length <= i \/ ys.length <= i)⟩
theorem YC{t1 t2:Bool}{P:j8}{w:World}{K:jk}{es:List kG}{kk:Nat}{pos:Pos}{a b z TI TO i1 i2:Addr}(D:tJ z TI TO i1 i2 a b):
  GW P w K (.Tuple es kk pos) (J5 K t1 t2 a b) [z,TI,TO,i1,i2] z (λi h=>IsZip h z TI TO .none/\mL h TI (.ref i1) (.ref i2)/\(∃u v,mL h TO u v)/\Br t1 h i1 a i/\Br t2 h i2 b i) where
 mem:=by simp
 obj:=λi h st c hc=>by
  obtain⟨h1,h2,⟨u,v,h3⟩,h4,h5⟩:=st;simp only[jK,ke,lM] at hc;rcases hc with rfl | rfl | rfl | rfl | rfl
  ·exact⟨_,h1,λv z=>by have z':rF _=qG v:=z; cases z'⟩
  ·exact⟨_,h2,λv z=>by have z':Data.seq _ _=qG v:=z; cases z'⟩
  ·exact⟨_,h3,λv z=>by have z':Data.seq _ _=qG v:=z; cases z'⟩
  ·exact h4.obj
  ·exact h5.obj
 keep:=λi h h' st k=>by
  obtain⟨h1,h2,⟨u,v,h3⟩,h4,h5⟩:=st;exact⟨k z (by simp) _ h1,k TI (by simp) _ h2,⟨u,v,k TO (by simp) _ h3⟩,h4.at λo e=>k i1 (by simp) o e,h5.at λo e=>k i2 (by simp) o e⟩
 item:=by
  intro X hP hw hK hc i pins s σ H E I hf st hg;subst hP hw hK;obtain⟨xs,ys,x,y,qa,qb,hx,hy⟩:=hg;obtain⟨its,rv,pa,_⟩:=I.J7 qa;obtain⟨jts,rw',pb,_⟩:=I.J7 qb;obtain⟨ux,hux,rx⟩:=rv.get hx;obtain⟨uy,huy,ry⟩:=rw'.get hy;obtain⟨h1,h2,⟨u,v,h3⟩,h4,h5⟩:=st;refine XM D h1 h2 h3 h4 h5 pa pb (x:=ux) (y:=uy) (by simpa using hux) (by simpa using huy) λh' a1 a2 a3 a4 a5 a6 k=>?_
  refine⟨_,rfl,wpAny_letOwnedTupleGo_zip a1 λh'' b1 sb=>?_⟩;have hsz:s.heap.objs.size≠z:=nJ (jQ h1);have nfp:∀c∈[z,TI,TO,i1,i2],s.heap.objs.size≠c:=λc hc=>by
   have:∃o,s.heap.get? c=some o:=by
    obtain⟨o4,g4,_⟩:=h4.obj;obtain⟨o5,g5,_⟩:=h5.obj;simp only[jK,ke,lM] at hc;rcases hc with rfl | rfl | rfl | rfl | rfl
    ·exact⟨_,h1⟩
    ·exact⟨_,h2⟩
    ·exact⟨_,h3⟩
    ·exact⟨_,g4⟩
    ·exact⟨_,g5⟩
   obtain⟨o,e⟩:=this;exact nJ (jQ e)
  have hn:H s.heap.objs.size=none:=I.hok.Bp (jj _);have kk':∀c o,c∉[z,TI,TO,i1,i2]->s.heap.get? c=some o->h''.get? c=some o:=λc o hc e =>
   (sb.2 c λq=>hc (by simp[q])).trans (k c o (λq=>hc (by simp[q])) (λq=>hc (by simp[q])) (λq=>hc (by simp[q])) (λq=>hc (by simp[q])) e)
  have tO:h''.get? s.heap.objs.size=some { cls:=.type "tuple",data:=.seq #[ux,uy] }:=(sb.2 _ hsz).trans a5;have nt:∀c u,H c=some u->c∉[z,TI,TO,i1,i2]:=λc u e hc=>by
   have:=(hf c hc).1
   rw[e] at this;cases this
  have tupOk:Bq X.prog X.w (AH H s.heap.objs.size (.AG [x,y])) h'' s.heap.objs.size (.AG [x,y]) :=
   ⟨by exact B6,[ux,uy],.cons rx (.cons ry .nil),⟨_,tO,rfl,_,rfl⟩,_,tO,rfl⟩
  have I1:AI X pins σ (AH H s.heap.objs.size (.AG [x,y])) { s with heap:=h'' }:=by
   refine I.step (g':=s.gens) (d':=s.drawn) (t':=s.toks) (ch:=[z,TI,TO,i1,i2]) (λc hc=>⟨(hf c hc).2.2.2.1,(hf c hc).2.1,(hf c hc).2.2.2.2.1,(hf c hc).2.2.2.2.2⟩) (λc o _ _ hc e _=>kk' c o hc e) (λc o _ _ hc e _=>⟨o.slots,kk' c o hc e⟩)
    (λc o _ e n=>by rw[Ad (kS (jQ e))]; exact n) (λc o hc e=>⟨o,kk' c o hc e⟩) (λc vs e=>by rw[Ad (BP e hn)]; exact e) (λc o vs e=>by rw[Ad (BP e hn)]; exact e)
    (λc ps e=>⟨#[],by rw[Ad (BP e hn),e]; simp⟩) (λm hm=>?_) (λc o e=>?_) I.bare
   ·obtain⟨o,es',ep,ho,r⟩:=hm;exact⟨o,es',ep,kk' _ o (λq=>(hf _ q).2.1 rfl) ho,r⟩
   ·by_cases hcs:c=s.heap.objs.size
    ·subst hcs;rw[AU] at e;cases e;exact tupOk
    ·rw[Ad hcs] at e;refine(I.hok c o e).Fs (λd v hd q=>kk' d v ?_ q) (λd q=>by rw[Ad (BP q hn)]; exact q) λd vs q=>by rw[Ad (BP q hn)]; exact q
     rcases hd with hd | hd
     ·rw[hd]; exact nt c o e
     ·exact nt d _ hd
  have g4:Br t1 h'' i1 a (i+1):=a3.at λo e=>(sb.2 _ D.i1z).trans e
  have g5:Br t2 h'' i2 b (i+1):=a4.at λo e=>(sb.2 _ D.i2z).trans e
  have g2:mL h'' TI (.ref i1) (.ref i2):=(sb.2 _ D.TIz).trans (k _ _ D.TIz D.TITO D.TIi1 D.TIi2 h2);have g3:mL h'' TO ux uy:=(sb.2 _ D.TOz).trans a2;exact⟨.ref s.heap.objs.size,_,I1,rfl,⟨_,x,y,rfl,hn,rfl,λxs' q=>by rw[I.S3 q qa]; exact hx,λys' q=>by rw[I.S3 q qb]; exact hy⟩,⟨b1,g2,⟨_,_,g3⟩,g4,g5⟩,λc hc=>by rw[Ad (lF (nfp c hc))]; exact(hf c hc).1⟩
 done:=by
  intro X hP hw hK hc i pins s σ H E I hf st hg;subst hP hw hK;obtain⟨xs,ys,qa,qb,hl⟩:=hg;obtain⟨its,rv,pa,_⟩:=I.J7 qa;obtain⟨jts,rw',pb,_⟩:=I.J7 qb;obtain⟨h1,h2,⟨u,v,h3⟩,h4,h5⟩:=st;have l1:=rv.length;have l2:=rw'.length;have hend:its.toArray[i]?=none\/jts.toArray[i]?=none:=by
   rcases hl with hl | hl
   ·exact .inl (by simp; omega)
   ·exact .inr (by simp; omega)
  refine XY (I.ok.hd hc) D h1 h2 h3 h4 h5 pa pb hend λh' k=>⟨rfl,?_⟩
  have kk':∀c o,c∉[z,TI,TO,i1,i2]->s.heap.get? c=some o->h'.get? c=some o:=λc o hc e =>
   k c o (λq=>hc (by simp[q])) (λq=>hc (by simp[q])) (λq=>hc (by simp[q])) (λq=>hc (by simp[q])) e
  have nt:∀c u,H c=some u->c∉[z,TI,TO,i1,i2]:=λc u e hc=>by
   have:=(hf c hc).1
   rw[e] at this;cases this
  refine I.step (g':=s.gens) (d':=s.drawn) (t':=s.toks) (ch:=[z,TI,TO,i1,i2]) (λc hc=>⟨(hf c hc).2.2.2.1,(hf c hc).2.1,(hf c hc).2.2.2.2.1,(hf c hc).2.2.2.2.2⟩) (λc o _ _ hc e _=>kk' c o hc e) (λc o _ _ hc e _=>⟨o.slots,kk' c o hc e⟩)
   (λ_ _ _ _ n=>n) (λc o hc e=>⟨o,kk' c o hc e⟩) (λ_ _ e=>e) (λ_ _ _ e=>e) (λc ps e=>⟨#[],by rw[e]; simp⟩) (λm hm=>?_) (λc o e=>?_) I.bare
  ·obtain⟨o,es',ep,ho,r⟩:=hm;exact⟨o,es',ep,kk' _ o (λq=>(hf _ q).2.1 rfl) ho,r⟩
  ·refine(I.hok c o e).Fs (λd v hd q=>kk' d v ?_ q) (λ_ q=>q) λ_ _ q=>q
   rcases hd with hd | hd
   ·rw[hd]; exact nt c o e
   ·exact nt d _ hd
 GS:=λ_ _ _ _ _ st h=>wpAny_pyIter_zip st.1 h
def fZ(K:jk)(t1 t2:Bool)(ta:TA):TI:=λσ H R=>ta σ H λvs H1=>∃a b,vs=[.ref a,.ref b]/\(∃xs,Bf t1 K H1 a xs)/\(∃ys,Bf t2 K H1 b ys)/\R (J5 K t1 t2 a b) H1
theorem Lv{t1 t2:Bool}{es:List kG}{kk:Nat}{tpos:Pos}{a b:kG}{ta:TA}{p pos:Pos}(hg:Gl X "zip")(hm:X.mg "zip" = none)(ha:PA X [a,b] ta)(hs:kc [a,b] X.env=(false,eval a X.env) :: kc [b] X.env:=by rfl)(hs2:(nh pos (kc [b] X.env)).any (·.1)=false:=by rfl):
  PI X (.Tuple es kk tpos) (.Call (.Name "zip" p) [a,b] [] pos) (fZ X.K t1 t2 ta):=by
 intro pins s σ H R I h;refine Call_ (EG I hg hm PyProof.Rows.boot_zip (kz (Ag (ha pos pins s σ H _ I h) λus s1 ⟨vs,H1,I1,r1,q1⟩=>?_) hs hs2));obtain⟨la,lb,e,⟨xs,qa⟩,⟨ys,qb⟩,q⟩:=q1;subst e;obtain⟨u1,u2,rfl,ra,rb⟩:=K6 r1;cases ra;cases rb;obtain⟨its,rv,pa,_⟩:=I1.J7 qa;obtain⟨jts,rw',pb,_⟩:=I1.J7 qb;have lta:la<s1.heap.objs.size:=by
  exact pa.lt
 have ltb:lb<s1.heap.objs.size:=by
  exact pb.lt
 refine Yn pa pb λh' z1 z2 z3 z4 z5 zs zk=>?_
 refine wpAny_pyIter_zip z1 ?_;have I2:AI X pins σ H1 { s1 with heap:=h' }:=I1.Bx (t':=s1.toks) zk;have D:tJ (s1.heap.objs.size+4) (s1.heap.objs.size+2) (s1.heap.objs.size+3) s1.heap.objs.size (s1.heap.objs.size+1) la lb:=by
  have la':@LT.lt Nat _ la s1.heap.objs.size:=lta;have lb':@LT.lt Nat _ lb s1.heap.objs.size:=ltb;constructor <;> (show @Ne Nat _ _; omega)
 refine⟨s1.heap.objs.size+4,_,_,_,H1,rfl,I2,YC D,⟨z1,z2,⟨_,_,z3⟩,z4,z5⟩,λc hc=>?_,q⟩;have hge:s1.heap.objs.size<=c:=by
  simp only[jK,ke,lM] at hc;rcases hc with rfl | rfl | rfl | rfl | rfl <;> omega
 have f:=I1.GV (H':=H1) hge (I1.hok.Bp hge);exact f
theorem ZX {t1 t2:Bool} {K:jk} {a b:Addr} {xs ys:List V} {g:TG} {tb:TS} {D:DF} {σ:St} {H:Hp} (n:Nat) (hn:n=min xs.length ys.length) (Pv:Nat->St->Hp->Prop) (h0:Pv 0 σ H) (hl:∀i σ H,i<=n->Pv i σ H->Bf t1 K H a xs/\Bf t2 K H b ys)
  (hs:∀i x y σ H p,xs[i]?=some x->ys[i]?=some y->Pv i σ H->H p=none->g (.ref p) σ (AH H p (.AG [x,y])) λσ2 H2=>tb { D with nx:=Pv (i+1),ct:=Pv (i+1),bk:=D.nx } σ2 H2) (hd:∀σ H,Pv n σ H->D.nx σ H) :
  ∃W:Nat->Nat->St->Hp->Prop,(∃m,W 0 m σ H)/\∀i m σ H,W i m σ H →
   ((J5 K t1 t2 a b).stop i H/\D.nx σ H)\/((J5 K t1 t2 a b).go i H/\∃N:St->Hp->Prop,(∀σ' H',N σ' H'->∃m',m' < m/\W (i+1) m' σ' H')/\∀x H',(J5 K t1 t2 a b).Dv i H x H'->g x σ H' λσ2 H2=>tb { D with nx:=N,ct:=N,bk:=D.nx } σ2 H2):=by
 refine⟨λi m σ H=>m=n-i/\i<=n/\Pv i σ H,⟨n,by simp,kH _,h0⟩,?_⟩;rintro i m σ H ⟨rfl,hi,p⟩;obtain⟨qa,qb⟩:=hl i σ H hi p;rcases j6 i n with hlt | hge
 ·have h1:i<xs.length:=by omega
  have h2:i<ys.length:=by omega
  refine .inr ⟨⟨xs,ys,xs[i],ys[i],qa,qb,by simp[h1],by simp[h2]⟩,Pv (i+1),λσ' H' p'=>⟨n-(i+1),by omega,rfl,hlt,p'⟩,λv H' yl=>?_⟩;obtain⟨pa,x,y,rfl,hp,rfl,hx,hy⟩:=yl;exact hs i x y σ H pa (hx xs qa) (hy ys qb) p hp
 ·obtain rfl:i=n:=by omega
  exact .inl ⟨⟨xs,ys,qa,qb,by omega⟩,hd σ H p⟩
theorem dc:k7 "sum" = some (.builtin "sum"):=by decide +kernel
theorem Yp(hc:X.Cr=true):C6 X (.builtin "sum") (λxs H Q=>∃(p:Addr) (ns:List Int),xs=[.ref p]/\H p=some (.AD (ns.map V.int))/\Q (.int ns.sum) H):=by
 intro pins s σ H xs us Q I r h;obtain⟨p,ns,rfl,hp,q⟩:=h;obtain⟨u,rfl,r1⟩:=r.Ae;cases r1;obtain⟨its,rv,pl,hz⟩:=I.list (AR.of (K:=X.K) hp);have hi:rA its ns:=QW rv;obtain⟨ys,hx⟩:=hi.allInts.items;have hl':s.heap.IsList p (intItems ys):=hx ▸ pl.isList;refine sum_intListG (I.ok.hd hc) hl' λh' tk t' hk=>?_
 have e1:ns=ys.toList.map (·.1):=by
  rw[<-nums_intItems,<-hx];exact(show numsOf its.toArray.toList=ns from hi.numsOf).symm
 have e2:preSum (numAt ys) ys.size=ns.sum:=by rw[preSum_eq,jz (by simp),e1]
 rw[e2];exact⟨.int ns.sum,H,I.Bx hk,⟨t',rfl⟩,q⟩
def fh(ta:TA):TI:=λσ H R=>ta σ H λvs H1=>∃n:Nat,vs=[.int ((n:Int)-1),.int (-1),.int (-1)]/\n<=1000/\R (LR ((n:Int)-1) (-1) n) H1
theorem UE(n:Nat):oz ((n:Int)-1) (-1) (-1)=n:=by
 unfold oz;simp only[show ¬((-1:Int) > 0) by decide,if_false];rw[show -(-1:Int)=1 by decide,Int.ediv_one];split <;> omega
theorem cK{n:Nat}(h:n<=1000):uS ((n:Int)-1) (-1) (-1)=true:=by
 unfold uS;rw[UE];simp only[kd.Range.rangeFitsLong,mX,Bool.or_eq_true,nQ,beq_iff_eq];refine⟨⟨⟨⟨⟨?_,?_⟩,⟨?_,?_⟩⟩,⟨?_,?_⟩⟩,⟨?_,?_⟩⟩,.inr ?_⟩ <;> first | omega | decide
theorem Yg {tg:kG} {a b c:kG} {ta:TA} {p pos:Pos} (hg:Gl X "range") (hm:X.mg "range" = none) (ha:PA X [a,b,c] ta)
  (hs:kc [a,b,c] X.env=(false,eval a X.env) :: kc [b,c] X.env:=by rfl) (hs2:(nh pos (kc [b,c] X.env)).any (·.1)=false:=by rfl):PI X tg (.Call (.Name "range" p) [a,b,c] [] pos) (fh ta):=by
 intro pins s σ H R I h;refine Call_ (EG I hg hm sW (kz (Ag (ha pos pins s σ H _ I h) λus s1 ⟨vs,H1,I1,r1,q1⟩=>?_) hs hs2));obtain⟨n,e,hn,q⟩:=q1;subst e;cases r1 with
 | cons r rr =>
  cases rr with
  | cons r' rr =>
   cases rr with
   | cons r'' rr =>
    cases rr;obtain⟨t,rfl⟩:=r;obtain⟨t',rfl⟩:=r';obtain⟨t'',rfl⟩:=r'';refine call_range_3 (by omega) ?_ (.inl (t8 (by omega)));refine vH (t6 ..) (cK hn) ?_;have I2:AI X pins σ H1 { s1 with heap:=s1.heap.push { cls:=.type "range",data:=.fields #[.int ((n:Int)-1) t,.int (-1) t',.int (-1) t''] } }:=I1.Bx (t':=s1.toks) λb o e=>jt _ e
    refine⟨_,[(s1.heap.push { cls:=.type "range",data:=.fields #[.int ((n:Int)-1) t,.int (-1) t',.int (-1) t''] }).objs.size],_,_,H1,rfl,I2.Bx (t':=s1.toks) λb o e=>jt _ e,Yw _ ((n:Int)-1) (-1) n,?_,λb hb=>?_,q⟩
    ·have e1:((n:Int)-1)+((0:Nat):Int)*(-1)=(n:Int)-1:=by simp
     have e2:((n:Nat):Int)-((0:Nat):Int)=oz ((n:Int)-1) (-1) (-1):=by rw[UE]; simp
     show t7 _ _ (((n:Int)-1)+((0:Nat):Int)*(-1)) (((n:Nat):Int)-((0:Nat):Int)) (-1);rw[e1,e2];exact jY _ rfl
    ·have e:b=(s1.heap.push { cls:=.type "range",data:=.fields #[.int ((n:Int)-1) t,.int (-1) t',.int (-1) t''] }).objs.size:=by simpa using hb
     subst e;exact I2.GV (jj _) (I2.hok.Bp (jj _))
end
end L2
namespace L2
open PySem PySem.Spec PyProof.Rows PySem.W
section
variable {prog:j8} {w:World} {A:kK} {E:Value->jh->Prop} {K:Frag} {h:Heap} {g:Array GenState} {d:Drawn} {t:Nat} {os:OsState} {a C:Addr} {o:Obj}
end
section
variable {X:Cx}
end
end L2
namespace My
open PySem L2
def BK(H:Hp)(a:Addr):Hp:=λb=>if b=a then none else H b
theorem IC(H:Hp)(a:Addr):BK H a a=none:=jq rfl
theorem IL{H:Hp}{a b:Addr}(h:b≠a):BK H a b=H b:=jm h
theorem Dl(H:Hp)(a:Addr):AN (BK H a) H:=λb o e=>by
 by_cases h:b=a
 ·subst h; rw[IC] at e; cases e
 ·rw[IL h] at e; exact e
theorem Dz{H H':Hp}(a:Addr)(s:AN H H'):AN (BK H a) (BK H' a):=λb o e=>by
 by_cases h:b=a
 ·subst h; rw[IC] at e; cases e
 ·rw[IL h] at e ⊢; exact s _ _ e
theorem Ov(H:Hp)(a:Addr)(o:HO):AN (BK H a) (AH H a o):=λb u e=>by
 by_cases h:b=a
 ·subst h; rw[IC] at e; cases e
 ·rw[IL h] at e; rw[Ad h]; exact e
theorem Ke(H:Hp)(a:Addr)(o:HO):BK (AH H a o) a=BK H a:=by
 funext b
 by_cases h:b=a
 ·subst h; rw[IC,IC]
 ·rw[IL h,IL h,Ad h]
theorem Sw{H:Hp}{a:Addr}(h:H a=none):BK H a=H:=by
 funext b
 by_cases z:b=a
 ·subst z; rw[IC,h]
 ·exact IL z
theorem Fl{H:Hp}{a b:Addr}{o:HO}(e:H b=some o)(h:b≠a):BK H a b=some o:=by rw[IL h]; exact e
section
variable {α:Type} {R:Hp->Addr->α->Prop}
def At(R:Hp->Addr->α->Prop)(H:Hp)(bs:List Addr)(xs:List α):Prop:=bs.length=xs.length/\∀(i:Nat) (b:Addr) (x:α),bs[i]?=some b->xs[i]?=some x->R H b x
def Mo(R:Hp->Addr->α->Prop):Prop:=∀{H H':Hp} {b:Addr} {x:α},AN H H'->R H b x->R H' b x
theorem At.nil{H:Hp}:At R H [] []:=⟨rfl,λi b x e=>by simp at e⟩
theorem At.keep{H H':Hp}{bs:List Addr}{xs:List α}(h:At R H bs xs)(m:Mo R)(s:AN H H'):At R H' bs xs:=⟨h.1,λi b x e1 e2=>m s (h.2 i b x e1 e2)⟩
theorem At.snoc{H:Hp}{bs:List Addr}{xs:List α}{b:Addr}{x:α}(h:At R H bs xs)(r:R H b x):At R H (bs++[b]) (xs++[x]):=by
 refine⟨by simp[h.1],λi c y e1 e2=>?_⟩;have hl:=h.1;rcases j6 i bs.length with z | z
 ·rw[jM z] at e1;rw[jM (by omega)] at e2;exact h.2 i c y e1 e2
 ·rw[jy z] at e1;rw[jy (by omega)] at e2;rw[hl] at e1;cases hi:i-xs.length with
  | zero=>rw[hi] at e1 e2; cases e1; cases e2; exact r
  | succ k=>rw[hi] at e1; simp at e1
theorem At.QB{H:Hp}{bs cs:List Addr}{xs ys:List α}(h:At R H bs xs)(g:At R H cs ys):At R H (bs++cs) (xs++ys):=by
 refine⟨by simp[h.1,g.1],λi c y e1 e2=>?_⟩;have hl:=h.1;rcases j6 i bs.length with z | z
 ·rw[jM z] at e1;rw[jM (by omega)] at e2;exact h.2 i c y e1 e2
 ·rw[jy z] at e1;rw[jy (by omega)] at e2;rw[hl] at e1;exact g.2 _ c y e1 e2
theorem At.take{H:Hp}{bs:List Addr}{xs:List α}(h:At R H bs xs)(k:Nat):At R H (bs.take k) (xs.take k):=by
 refine⟨by simp[h.1],λi c y e1 e2=>?_⟩;rw[rP] at e1 e2;split at e1
 ·rename_i hk; rw[jq hk] at e2; exact h.2 i c y e1 e2
 ·cases e1
theorem At.drop{H:Hp}{bs:List Addr}{xs:List α}(h:At R H bs xs)(k:Nat):At R H (bs.drop k) (xs.drop k):=by
 refine⟨by simp[h.1],λi c y e1 e2=>?_⟩;rw[nH] at e1 e2;exact h.2 _ c y e1 e2
theorem At.set{H:Hp}{bs:List Addr}{xs:List α}{b:Addr}{x:α}(h:At R H bs xs)(k:Nat)(r:R H b x):At R H (bs.set k b) (xs.set k x):=by
 refine⟨by simp[h.1],λi c y e1 e2=>?_⟩;rw[List.getElem?_set] at e1 e2;by_cases hk:k=i
 ·subst hk;have hl:=h.1;by_cases hb:k<bs.length
  ·rw[jq rfl,jq hb] at e1;rw[jq rfl,jq (by omega)] at e2;cases e1; cases e2; exact r
  ·rw[jq rfl,jm hb] at e1; cases e1
 ·rw[jm hk] at e1 e2;exact h.2 _ c y e1 e2
theorem At.get{H:Hp}{bs:List Addr}{xs:List α}{i:Nat}{x:α}(h:At R H bs xs)(e:xs[i]?=some x):∃b,bs[i]?=some b/\R H b x:=by
 have hi:i<bs.length:=by rw[h.1]; exact(jc.mp e).1
 exact⟨bs[i],jb hi,h.2 i _ x (jb hi) e⟩
theorem At.ref{H:Hp}{bs:List Addr}{xs:List α}{i:Nat}{v:V}(h:At R H bs xs)(e:(bs.map V.ref)[i]?=some v):∃b x,v=.ref b/\bs[i]?=some b/\xs[i]?=some x/\R H b x:=by
 rw[ji] at e;cases q:bs[i]? with
 | none=>rw[q] at e; cases e
 | some b =>
  rw[q] at e;have hi:i<xs.length:=by rw[<-h.1]; exact(jc.mp q).1
  exact⟨b,xs[i],(jL e).symm,rfl,jb hi,h.2 i b _ q (jb hi)⟩
theorem DD{bs:List Addr}{i:Nat}{b:Addr}(h:bs[i]?=some b):(bs.map V.ref)[i]?=some (.ref b):=by rw[ji,h]; rfl
def A4(R:Hp->Addr->α->Prop)(H:Hp)(b:Addr)(xs:List α):Prop:=∃bs:List Addr,H b=some (.AG (bs.map V.ref))/\At R H bs xs
def FI(R:Hp->Addr->α->Prop)(H:Hp)(b:Addr)(xs:List α):Prop:=∃bs:List Addr,H b=some (.AD (bs.map V.ref))/\At R H bs xs
theorem EU(m:Mo R):Mo (A4 R):=λs ⟨bs,e,h⟩=>⟨bs,s _ _ e,h.keep m s⟩
theorem Ou(m:Mo R):Mo (FI R):=λs ⟨bs,e,h⟩=>⟨bs,s _ _ e,h.keep m s⟩
end
def AS(H:Hp)(b:Addr)(q:Rat):Prop:=H b=some (.AG [.int q.num,.int q.den])
def B5(H:Hp)(b:Addr)(ns:List Int):Prop:=H b=some (.AD (ns.map V.int))
theorem Au:Mo AS:=λs h=>s _ _ h
theorem ER:Mo B5:=λs h=>s _ _ h
theorem AS.BK{H:Hp}{a b:Addr}{q:Rat}{ys:List V}(h:AS H b q)(e:H a=some (.AD ys)):AS (BK H a) b q:=Fl h λz=>by rw[z] at h; unfold AS at h; rw[e] at h; cases h
theorem MN{H:Hp}{a:Addr}{ys:List V}(e:H a=some (.AD ys)){bs:List Addr}{qs:List Rat}(h:At AS H bs qs):At AS (BK H a) bs qs:=⟨h.1,λi b x e1 e2=>(h.2 i b x e1 e2).BK e⟩
structure JC(J:It)(H1:Hp)(n:Nat)(f:Nat->Hp->V->Hp->Prop):Prop where
 go:∀i H2,i<n->AN H1 H2->J.go i H2
 yl:∀i H2 x H3,i<n->AN H1 H2->J.Dv i H2 x H3->f i H2 x H3
 st:∀H2,AN H1 H2->J.stop n H2
section
variable {K:jk}
theorem GB{H:Hp}{a:Addr}{xs:List V}(h:H a=some (.AG xs)):JC (KD K a) H xs.length (λi H2 x H3=>H3=H2/\xs[i]?=some x) :=
 ⟨λi H2 hi s=>⟨xs,xs[i],AK.of (s _ _ h),jb hi⟩,λi H2 x H3 _ s y=>⟨y.1,y.2 _ (AK.of (s _ _ h))⟩,λH2 s=>⟨xs,AK.of (s _ _ h),jj _⟩⟩
theorem E7{H:Hp}{a:Addr}{xs:List V}(h:H a=some (.AD xs)):JC (J4 K a) H xs.length (λi H2 x H3=>H3=H2/\xs[i]?=some x) :=
 ⟨λi H2 hi s=>⟨xs,xs[i],AR.of (s _ _ h),jb hi⟩,λi H2 x H3 _ s y=>⟨y.1,y.2 _ (AR.of (s _ _ h))⟩,λH2 s=>⟨xs,AR.of (s _ _ h),jj _⟩⟩
theorem Qi{H:Hp}{lo:Int}{n:Nat}:JC (FQ lo n) H n (λi H2 x H3=>H3=H2/\x=.int (lo+i)):=⟨λ_ _ hi _=>hi,λ_ _ _ _ _ _ y=>y,λ_ _=>jj _⟩
theorem OR{H:Hp}{a b:Addr}{t1 t2:Bool}{xs ys:List V}(h1:∀H2,AN H H2->Bf t1 K H2 a xs)(h2:∀H2,AN H H2->Bf t2 K H2 b ys)(hl:xs.length=ys.length):
  JC (J5 K t1 t2 a b) H xs.length (λi H2 x H3=>∃p u v,x=.ref p/\H2 p=none/\H3=AH H2 p (.AG [u,v])/\xs[i]?=some u/\ys[i]?=some v) :=
 ⟨λi H2 hi s=>⟨xs,ys,xs[i],ys[i],h1 _ s,h2 _ s,jb hi,jb (by omega)⟩,λi H2 x H3 _ s y=>by
  obtain⟨p,u,v,e1,e2,e3,e4,e5⟩:=y;exact⟨p,u,v,e1,e2,e3,e4 _ (h1 _ s),e5 _ (h2 _ s)⟩,λH2 s=>⟨xs,ys,h1 _ s,h2 _ s,.inl (jj _)⟩⟩
theorem CQ {J:It} {n:Nat} {H1:Hp} {f:Nat->Hp->V->Hp->Prop} {acc:Addr} {σ0:St} {g:TG} {te:TE} {G:Hp->Prop} (r:JC J H1 n f) (hn:n<=1000) (hacc:H1 acc=none) (Iv:Nat->List V->St->Hp->Prop) (h0:Iv 0 [] σ0 H1)
  (hs:∀(i:Nat) (ys:List V) (σ:St) (H2:Hp) (x:V) (H3:Hp),i<n->AN H1 H2->H2 acc=some (.AD ys)->Iv i ys σ (BK H2 acc)->f i H2 x H3->∀C:St->VK,(∀(σ4:St) (v:V) (H5:Hp),AN H2 H5->Iv (i+1) (ys++[v]) σ4 (BK H5 acc)->C σ4 v H5) →
   g x σ H3 λσ4 H4=>te σ4 H4 (C σ4))
  (fin:∀(ys:List V) (σ:St) (H2:Hp),AN H1 H2->H2 acc=some (.AD ys)->ys.length=n->Iv n ys σ (BK H2 acc)->G H2) :
  ∃W:Nat->Nat->List V->St->Hp->Prop,(∃m,W 0 m [] σ0 (AH H1 acc (.AD [])))/\∀i m ys σc H2,W i m ys σc H2 →
   (J.stop i H2/\G H2)\/(J.go i H2/\∀x H3,J.Dv i H2 x H3->g x σc H3 λσ4 H4=>te σ4 H4 λv H5=>H5 acc=some (.AD ys)/\ys.length<jR/\∃m',m' < m/\W (i+1) m' (ys++[v]) σ4 (AH H5 acc (.AD (ys++[v])))):=by
 refine⟨λi m ys σ H2=>m=n-i/\i<=n/\AN H1 H2/\H2 acc=some (.AD ys)/\ys.length=i/\Iv i ys σ (BK H2 acc),⟨n,rfl,kH _,?_,AU,rfl,?_⟩,?_⟩
 ·intro b o e; rw[Ad (BP e hacc)]; exact e
 ·rw[Ke,Sw hacc]; exact h0
 ·rintro i m ys σc H2 ⟨rfl,hi,sm,ha,hl,iv⟩;rcases j6 i n with hlt | hge
  ·refine .inr ⟨r.go i H2 hlt sm,λx H3 yl=>?_⟩;refine hs i ys σc H2 x H3 hlt sm ha iv (r.yl i H2 x H3 hlt sm yl) (λσ4 v H5=>H5 acc=some (.AD ys)/\ys.length<jR/\∃m',m' < n-i/\(m'=n-(i+1)/\i+1<=n/\AN H1 (AH H5 acc (.AD (ys++[v])))/\(AH H5 acc (.AD (ys++[v]))) acc=some (.AD (ys++[v]))/\(ys++[v]).length=i+1/\Iv (i+1) (ys++[v]) σ4 (BK (AH H5 acc (.AD (ys++[v]))) acc))) ?_;intro σ4 v H5 s5 iv5;refine⟨s5 _ _ ha,by rw[nF]; omega,n-(i+1),by omega,rfl,hlt,?_,AU,by simp[hl],?_⟩
   ·intro b o e; rw[Ad (BP e hacc)]; exact s5 _ _ (sm _ _ e)
   ·rw[Ke]; exact iv5
  ·obtain rfl:i=n:=by omega
   exact .inl ⟨r.st H2 sm,fin ys σc H2 sm ha hl iv⟩
end
end My
namespace L2
open PySem PySem.Spec PyProof.Rows
structure Aj(P:j8)(w:World)(K:jk)(mg:Str->Option Value)(base:Heap)(k:Nat)(x:Str)(ps:List Str)(sp:Sp):Prop where
 ex:∃f fd,An P w K mg base Av k f fd ps sp/\EV K fd ps []/\KP K f/\mg x=some (.ref f)
theorem AZ{X:Cx}{k:Nat}{x:Str}{ps:List Str}{sp:Sp}{e:Expr}{es:List Expr}{t:TA}{p pos:Pos}(c:Aj X.prog X.w X.K X.mg X.base k x ps sp)(hr:Cs k X.A)(ha:PA X (e :: es) t)(hg:Gl X x:=by rfl)(hdb:(x == ("__debug__":Str))=false:=by decide)(he:kc (e :: es) X.env=(false,eval e X.env) :: kc es X.env:=by rfl)(hpl:(nh pos (kc es X.env)).any (·.1)=false:=by rfl):
  PE X (.Call (.Name x p) (e :: es) [] pos) (DT sp [] E0 t):=by
 obtain⟨f,fd,F,b,hk,hm⟩:=c.ex;exact bh F hr hg hm hk b .nil fC ha hdb he hpl
theorem A7{N P:List Str}{sc:Scope}(h1:sc.kind=.function:=by rfl)(h2:sc.isCoroutine=false:=by rfl)(h3:sc.isGenerator=false:=by rfl)(h4:N.Nodup:=by decide +kernel)(h5:N.take P.length=P:=by rfl)(h6:∀x∈P,sc.names.lookup x=some .local\/sc.names.lookup x=some .cell:=by decide +kernel)(h7:∀y∈sc.names,y.2≠.free:=by decide +kernel):Ay N P sc:=⟨h1,h2,h3,h4,h5,h6,h7⟩
theorem Ar.BA {P:j8} {w:World} {K:jk} {mg:Str->Option Value} {base:Heap} {x qual:Str} {st:Stmt} {f:Addr} {fd:kF} {N ps:List Str} {k:Nat} {sp:Sp} (F:Ar K x qual st f fd) (S:Ay N ps (Ao st))
  (hbody:∀(cdv:Value) (A:kK) (outer:List Env) (s:jh) (H:Hp) (vs:List V) (Q:VK) (E:XK),Cs k (A.deeper (qU qual (Ao st) s.heap.objs.size f cdv))->sp vs H Q E →
   ∃t,DC (Ip Av P w K mg base N qual (Ao st) f cdv A outer s H E).Gh (El st) t/\t { nx:=λ_ H'=>Q .BE H',rt:=Q } (GP N vs) H) (len:∀vs H Q E,sp vs H Q E->vs.length=ps.length:=by (rintro vs H Q E ⟨⟩; subst_vars; rfl)):An P w K mg base Av (k+1) f fd ps sp:=F.ok S len hbody
theorem nw{H:Hp}{p:Addr}(h:H p=none)(o:HO):∃H',AH H p o=H'/\AN H H'/\H' p=some o:=⟨_,rfl,λb u q=>by rw[Ad (BP q h)]; exact q,AU⟩
end L2
namespace My
open PySem L2
theorem ND{H:Hp}{p:Addr}(h:H p=none)(q:Rat):∃H',AH H p (.AG [.int q.num,.int q.den])=H'/\AN H H'/\AS H' p q:=nw h _
open PySem.Spec PyProof.Rows
section
variable {X:Cx} {pins:List (Addr×Obj)} {σ:L2.St} {H:Hp} {s:jh}
end
end My
namespace L2
open PySem PySem.Spec PyProof.Rows
section
variable {X:Cx}
def dQ:V->List V->Hp->VK->Prop:=λx vs H Q=>∃(l:Addr) (ns:List Int) (k:Int),x=.ref l/\vs=[.int k]/\H l=some (.AD (ns.map V.int))/\k∈ns/\ns.length<=1000000/\Q (.int ((ns.idxOf k:Nat):Int)) H
theorem R3:Iz X "list.index" dQ:=by
 intro pins s σ H x vs v us Q I rx rv h;obtain⟨l,ns,k,rfl,rfl,hH,hk,hz,q⟩:=h;cases rx;obtain⟨u,rfl,ru⟩:=rv.Ae;obtain⟨t,rfl⟩:=ru;obtain⟨z,its,n,r,hl,e⟩:=I.GU hH;have hi:=Qc r;have hlen:=hi.length;have hj:ns.idxOf k<ns.length:=l5.mpr hk;refine pk qh ⟨_,e,rfl⟩ PySem.F.entry_list_index (PySem.F.args_list_index_2 _ _)
  (MeetsSeq.list_index l its.toArray n (.int k t) (isInt k) (λy hy=>eq_isInt k t hi y (by simpa using hy)) (ns.idxOf k) (by simpa [hlen] using hj) (by omega) ?_ ?_) ⟨e,⟨.int ((ns.idxOf k:Nat):Int),H,I.DW _,⟨_,rfl⟩,q⟩⟩
 ·show isInt k its[ns.idxOf k]=true;rw[wF k hi _ (by omega) hj];simpa using rQ hj
 ·intro j hjs hlt;show isInt k its[j]=false;rw[wF k hi j (by simpa using hjs) (by omega)];exact ne_of_lt_idxOf hlt _
theorem Y0(ns:List Int):(ns.map V.int).all GO=true:=by
 induction ns with
 | nil=>rfl
 | cons n ns ih=>rw[jx,uM,ih]; rfl
theorem ZD(k:Int)(ns:List Int):NB (.int k) (ns.map V.int)=decide (k∈ns):=by
 unfold NB
 induction ns with
 | nil=>rfl
 | cons n ns ih =>
  rw[jx,pA,ih];have e:Gr (.int n) (.int k)=decide (k=n):=by
   show decide (n=k)=decide (k=n);by_cases h:n=k
   ·rw[mQ h,mQ h.symm]
   ·rw[l7 h,l7 (λz=>h z.symm)]
  rw[e];by_cases h:k=n
  ·simp[h]
  ·simp[h]
variable {K:jk}
theorem QK(h:X.K=K:=by rfl):Gi X (FJ K):=h ▸ Bm
theorem P4(h:X.K=K:=by rfl):Gi X (GZ K):=h ▸ CL
theorem pT(K:jk){X:Cx}{a b:kG}{ta tb:TE}{pos:Pos}(ha:PE X a ta)(hb:PE X b tb)(hs:OP b:=by exact λ_ _=>rfl)(h:X.K=K:=by rfl):PE X (.Subscript a b pos) (Bg (FJ K) ta tb):=A5 (QK h) ha hb hs
theorem pL(K:jk){X:Cx}{a b:kG}{ta tb:TE}{pos:Pos}(ha:PE X a ta)(hb:PE X b tb)(hs:OP b:=by exact λ_ _=>rfl)(h:X.K=K:=by rfl):PE X (.Subscript a b pos) (Bg (GZ K) ta tb):=A5 (P4 h) ha hb hs
theorem i5(h:X.K=K:=by rfl):FV X (Pd K):=h ▸ Kw
theorem QH(h:X.K=K:=by rfl):FV X (WD K):=h ▸ L6
theorem Be(h:X.K=K:=by rfl):C6 X (.builtin "len") (Pz K):=h ▸ KJ
theorem ED(h:X.K=K:=by rfl):C6 X (.type "tuple") (λxs H Q=>∃p ys,xs=[.ref p]/\((AR K H p ys/\∀l,H l=none->Q (.ref l) (AH H l (.AG ys)))\/(AK K H p ys/\Q (.ref p) H))):=h ▸ FW
theorem Dn {es:List kG} {k:Nat} {t:F9} {n:Nat} {pos:Pos} (hc:X.Cr=true) (g:LN X es t) (h:X.K=K:=by rfl)
  (hn:(pj es X.env).length=n:=by rfl) (hst:(pj es X.env).findIdx? (·.1)=none:=by rfl):PG X (.Tuple es k pos) (Ih K n t):=h ▸ HV hc g hn hst
theorem Ib{tg l:kG}{tl:TE}(hl:PE X l tl)(h:X.K=K:=by rfl):PI X tg l (Pg K tl):=h ▸ Fj hl
theorem IX{tg l:kG}{tl:TE}(hl:PE X l tl)(h:X.K=K:=by rfl):PI X tg l (Vh K tl):=h ▸ Je hl
end
section
variable {prog:j8} {w:World} {A:kK} {E:Value->jh->Prop} {s:jh}
end
section
variable {X:Cx}
end
end L2
namespace L2
open PySem PySem.Spec PyProof.Rows PySem.SeqAt
section
variable {prog:j8} {w:World} {A:kK} {E:Value->jh->Prop}
abbrev WH(items:Array Value)(x:Value):Nat->Option tV×PUnit->Sem (ForInStep (Option tV×PUnit)):=λi _=>match items[i]? with
 | some y=>do let b <-eqBool y x; if b=true then (do let r <-retInt (i:Int); pure (ForInStep.done (some r,()))) else pure (oH (none,()))
 | _=>pure (oH (none,()))
theorem Zk(items:Array Value)(x:Value)(e:Value->Bool)(j:Nat)(hj:j<items.size)(hit:e items[j]=true)(hno:∀m (hm:m<items.size),m<j->e items[m]=false){Q:Option tV×PUnit->jh->Prop}:
  ∀(k i:Nat) (s:jh),i+k=j->(∀y,y∈items->EqAt A s y x (e y))->Q (some (.done (.ret (.int j s.toks))),()) { s with toks:=s.toks+1 } →
   wpAny (model prog w) A (forIn (List.range' i (items.size-i) 1) ((none:Option tV),()) (WH items x)) Q E s:=by
 intro k
 induction k with
 | zero =>
  intro i s hi he q;have e1:i=j:=by omega
  subst e1;rw[show items.size-i=(items.size-i-1)+1 by omega,wo,qM];refine jf ?_;show wpAny _ _ (match items[i]? with | some y=>_ | _=>_) _ _ s;rw[show items[i]?=some items[i] by simp[hj]];refine jf (he _ (vI hj) prog w _ _ ?_);rw[hit]
  wp_walk
  exact q
 | succ k ih =>
  intro i s hi he q;have hl:i<items.size:=by omega
  rw[show items.size-i=(items.size-(i+1))+1 by omega,wo,qM];refine jf ?_;show wpAny _ _ (match items[i]? with | some y=>_ | _=>_) _ _ s;rw[show items[i]?=some items[i] by simp[hl]];refine jf (he _ (vI hl) prog w _ _ ?_);rw[hno i hl (by omega)];exact jS (ih (i+1) s (by omega) he q)
set_option maxHeartbeats 1000000 in
theorem XG (t:Addr) (items:Array Value) (n:Nat) (dd:Option Addr) (sl:Array (Option Value)) (x:Value) (e:Value->Bool) (j:Nat) (hj:j<items.size)
  (hit:e items[j]=true) (hno:∀m (hm:m<items.size),m<j->e items[m]=false) :
  Meets (kd.«tuple.index» ⟨[.ref t,x],[]⟩) (λA R s=>s.heap.get? t=some { cls:=.type "tuple",dict:=dd,data:=.seq items n,slots:=sl }/\(∀y,y∈items->EqAt A.in1 s y x (e y))/\R (.ok (.ret (.int j s.toks))) { s with toks:=s.toks+1 }):=by
 intro prog w A R s h;obtain⟨hp,g,d,tk,os⟩:=s; obtain⟨ht,he,h⟩:=h
 wp_walk using n8 ht
 show wpAny (model prog w) A.in1 (forIn [:min items.size items.size] ((none:Option tV),()) (WH items x)) _ _ _;rw[uY];simp only[wD.size,Nat.min_self,Nat.sub_zero,pS,Nat.div_one];refine Zk (A:=A.in1) items x e j hj hit hno j 0 _ (by omega) he ?_
 wp_walk
 exact h
end
section
variable {X:Cx}
def aQ:V->List V->Hp->VK->Prop:=λx vs H Q=>∃(l:Addr) (ns:List Int) (k:Int),x=.ref l/\vs=[.int k]/\H l=some (.AG (ns.map V.int))/\k∈ns/\Q (.int ((ns.idxOf k:Nat):Int)) H
theorem Qs:Iz X "tuple.index" aQ:=by
 intro pins s σ H x vs v us Q I rx rv h;obtain⟨l,ns,k,rfl,rfl,hH,hk,q⟩:=h;cases rx;obtain⟨u,rfl,ru⟩:=rv.Ae;obtain⟨t,rfl⟩:=ru;obtain⟨its,r,⟨⟨c,dct,dt,sl⟩,e,hc,n,hd⟩,_⟩:=I.tuple (AK.of (K:=X.K) hH);obtain rfl:c=.type "tuple":=hc;obtain rfl:dt=.seq its.toArray n:=hd;have hi:=Qc r;have hlen:=hi.length;have hj:ns.idxOf k<ns.length:=l5.mpr hk;refine pk pW ⟨_,e,rfl⟩ PySem.F.entry_tuple_index (PySem.F.args_tuple_index_2 _ _)
  (XG l its.toArray n dct sl (.int k t) (isInt k) (ns.idxOf k) (by simpa [hlen] using hj) ?_ ?_) ⟨e,λy hy=>(eq_isInt k t hi y (by simpa using hy)).at _ _,⟨.int ((ns.idxOf k:Nat):Int),H,I.DW _,⟨_,rfl⟩,q⟩⟩
 ·show isInt k its[ns.idxOf k]=true;rw[wF k hi _ (by omega) hj];simpa using rQ hj
 ·intro j hjs hlt;show isInt k its[j]=false;rw[wF k hi j (by simpa using hjs) (by omega)];exact ne_of_lt_idxOf hlt _
end
end L2
namespace HT
open PySem PySem.Spec PyProof.Rows L2
section
variable {prog:j8} {w:World} {A:kK} {E:Value->jh->Prop} {s:jh}
theorem XB {t sl:Addr} {items:Array Value} {vl vu:Value} {lo hi:Option Int} {Q:Value->jh->Prop} (ht:IsTup s.heap t items) (hs:s.heap.IsSliceOf sl vl vu .none) (pl:qL vl lo) (pu:qL vu hi)
  (hw:Ak items.size 0 lo=0/\Ak items.size items.size hi=items.size) (h:Q (.ref t) s):wpAny (model prog w) A (qg (.ref t) (.ref sl)) Q E s:=by
 obtain⟨os,hos,hcs,hds⟩:=id hs;have hTs:s.TypeIs (.ref sl) "slice":=⟨os,hos,hcs⟩; unfold qg; try with_reducible refine qC ?_
 first | refine jf (jS ?_) | skip
 refine jf (vX ht.typeIs (by decide) (jf (mR (name:=p7 "__getitem__") ht.typeIs lQ (ou lQ ht.typeIs uZ ?_ (vD _ _)))));show wpAny _ _ (rV (.ref t) >>= _) _ _ s; refine jf (tupleItemsOf_ ht (jf (tN hTs ?_)));rw[jq (by decide)]; refine jf (QL hs pl pu ?_);have yes:((((Ak items.size 0 lo:Nat):Int) == 0 && (1:Int) == 1 && (Ak items.size items.size hi-Ak items.size 0 lo) == items.size)=true):=by rw[hw.1,hw.2]; simp
 show wpAny _ _ (if (((Ak items.size 0 lo:Nat):Int) == 0 && (1:Int) == 1 && (Ak items.size items.size hi-Ak items.size 0 lo) == items.size)=true then _ else _) _ _ s; rw[jq yes];unfold kd.Tuple.tupleIsExact; refine jf ?_
 first | refine jf (tN ht.typeIs (jS ?_)) | refine tN ht.typeIs ?_
 first
  | (rw[jq (by decide)]; refine jf (sX (jS ⟨_,rfl,jS h⟩)))
  | (rw[jq (by rfl)]; exact jf (sX (jS ⟨_,rfl,jS h⟩)))
end
end HT
namespace L2
open PySem PySem.Spec PyProof.Rows
section
variable {X:Cx} {K:jk}
def PQ(K:jk):V->Option Int->Option Int->Hp->VK->Prop:=λx lo hi H Q=>∃a xs,x=.ref a/\AK K H a xs /\
 ((HT.Ak xs.length 0 lo=0/\HT.Ak xs.length xs.length hi=xs.length)->Q (.ref a) H)/\(¬(HT.Ak xs.length 0 lo=0/\HT.Ak xs.length xs.length hi=xs.length)->∀p,H p=none->Q (.ref p) (AH H p (.AG (C8 xs lo hi))))
theorem bj:FV X (PQ X.K):=by
 intro pins s σ H x v vl vu lo hi sl Q I rx hs pl pu h;obtain⟨a,xs,rfl,hx,q1,q2⟩:=h;by_cases hw:HT.Ak xs.length 0 lo=0/\HT.Ak xs.length xs.length hi=xs.length
 ·cases rx;obtain⟨its,r,ht,hz⟩:=I.tuple hx;have hlen:its.toArray.size=xs.length:=by rw[jJ]; exact r.length.symm
  exact⟨"tuple",_,lQ.lookup,ht.typeIs,HT.XB ht hs pl pu (by rw[hlen]; exact hw) ⟨.ref a,H,I,rfl,q1 hw⟩⟩
 ·exact Kw pins s σ H _ v vl vu lo hi sl Q I rx hs pl pu ⟨a,xs,rfl,hx,hw,q2 hw⟩
theorem Mm(h:X.K=K:=by rfl):FV X (PQ K):=h ▸ bj
theorem bK{pins:List (Addr×Obj)}{σ:St}{H:Hp}{s:jh}{p:Addr}{xs:List V}(I:AI X pins σ H s)(ty:H p=some (.AG xs)):
  s.TypeIs (.ref p) "tuple"/\∀a,lO p=.ref a->∃ob,s.heap.get? a=some ob/\ob.dict=none:=by
 obtain⟨_,its,r,⟨o,e,c⟩,o2,e2,c2⟩:=I.hok p _ ty;exact⟨⟨o,e,c.1⟩,λa ea=>by cases ea; exact⟨o2,e2,c2⟩⟩
def i4(r:V->List V->Hp->VK->Prop)(to:TE)(t:TA):TE:=λσ H Q=>to σ H λx H1=>(∃p xs,x=.ref p/\H1 p=some (.AG xs))/\t σ H1 λxs H2=>r x xs H2 Q
variable {o e:Expr} {es:List Expr} {to:TE} {t:TA} {name:Str} {apos cpos:Pos} {id:String} {r:V->List V->Hp->VK->Prop}
theorem VI (pa:wQ "tuple") (slot:Slot "tuple" name id) (hty:typeOf (.builtin id)=pure (.type "method_descriptor")) (hm:Iz X id r) (ho:PE X o to) (ha:PA X (e :: es) t)
  (hbase:qB o name X.env (eval o X.env)=eval o X.env:=by rfl)
  (hfew:((nh cpos (kc (e :: es) X.env)).all (λx=>!x.1) && (uK cpos (rL [] X.env)).all (λx=>x.1.isSome)
   && decide ((e :: es).length+([]:List pF).length+(if ([]:List pF).isEmpty then 0 else 1)<30))=true:=by rfl)
  (hline:(apos.endLine == cpos.line)=true:=by rfl) (hs:kc (e :: es) X.env=(false,eval e X.env) :: kc es X.env:=by rfl) (hplain:(nh cpos (kc es X.env)).any (·.1)=false:=by rfl) :
  PE X (.Call (.Attribute o name apos) (e :: es) [] cpos) (i4 r to t):=by
 intro pins s σ H Q I h;refine ui hbase hfew hline rfl (Ag (ho pins s σ H _ I h) λv s1 ⟨x,H1,I1,r1,⟨p,xs,ex,hp⟩,q1⟩=>?_);subst ex;cases r1;obtain⟨h1,h2⟩:=bK I1 hp;refine⟨"tuple",id,pa,slot,hty,h1,h2,?_⟩;have hA:=ha cpos pins s1 σ H1 _ I1 q1;rw[hs] at hA ⊢;refine t4 (by show(false || (nh cpos (kc es X.env)).any (·.1))=false; rw[hplain] <;> rfl) (uH ?_);exact Ag hA λus s2 ⟨vs,H2,I2,r2,q2⟩=>hm pins s2 σ H2 (.ref p) vs (.ref p) us Q I2 rfl r2 q2
inductive EA(H:Hp):V->mB->Prop
 | int (i:Int):EA H (.int i) (.int i)
 | bl (b:Bool):EA H (.bl b) (.bool b)
 | str (z:Str):EA H (.str z) (.str z)
 | AG {p:Addr} {xs:List V} {ds:List mB} (h:H p=some (.AG xs)) (hl:xs.length=ds.length) (hd:∀(i:Nat) (x:V) (d:mB),xs[i]?=some x->ds[i]?=some d->EA H x d):EA H (.ref p) (.tuple ds)
theorem EA.keep{H H':Hp}(s:AN H H'){v:V}{d:mB}(h:EA H v d):EA H' v d:=by
 induction h with
 | int i=>exact .int i
 | bl b=>exact .bl b
 | str z=>exact .str z
 | AG h hl hd ih=>exact .AG (s _ _ h) hl ih
variable {pins:List (Addr×Obj)} {σ:L2.St} {H:Hp} {s:jh}
theorem RA(h:Heap):∀{xs:List V} {its:List Value} {ds:List mB},Ah xs its->xs.length=ds.length->(∀(i:Nat) (x:V) (d:mB),xs[i]?=some x->ds[i]?=some d->∀u,Ax x u->Reads h u d [])->ReadsAll h its ds []
 | [],_,ds,.nil,hl,_=>by
  have:ds=[]:=mf.mp hl.symm
  subst this;exact .nil
 | x :: xs,_,[],_,hl,_=>by simp at hl
 | x :: xs,_,d :: ds,.cons r rs,hl,hd =>
  .cons (as:=[]) (bs:=[]) (hd 0 x d rfl rfl _ r) (RA h rs (by simpa using hl) λi x' d' e1 e2=>hd (i+1) x' d' (by simpa using e1) (by simpa using e2))
theorem MG(I:AI X pins σ H s){v:V}{d:mB}(h:EA H v d):∀u,Ax v u->Reads s.heap u d []:=by
 induction h with
 | int i =>
  intro u r;obtain⟨t,rfl⟩:=r;exact .int _ _
 | bl b =>
  intro u r;cases r;exact .bool _
 | str z =>
  intro u r;obtain⟨t,rfl⟩:=r;exact .str _ _
 | AG h hl hd ih =>
  intro u r;cases r;obtain⟨its,rv,tp,_⟩:=I.tuple (AK.of (K:=X.K) h);obtain⟨o,ho,hc,n,hd'⟩:=tp;exact .tuple ho hc hd' (by simpa using RA s.heap rv hl ih)
inductive FU:Nat->mB->Prop
 | int {n:Nat} (i:Int):FU n (.int i)
 | bl {n:Nat} (b:Bool):FU n (.bool b)
 | AG {n:Nat} {ds:List mB} (h:∀d∈ds,FU n d):FU (n+1) (.tuple ds)
theorem SA:∀{ds:List mB},(∀d∈ds,d.canLay0=true)->vQ ds=true
 | [],_=>rfl
 | d :: ds,h=>by
  simp only[vQ,mX];exact⟨h d (by simp),SA λx hx=>h x (by simp[hx])⟩
theorem R4{n:Nat}:∀{ds:List mB},(∀d∈ds,d.depth<=n)->wU ds<=n
 | [],_=>kH _
 | d :: ds,h=>by
  have:=R4 (ds:=ds) λx hx=>h x (by simp[hx])
  have:=h d (by simp)
  simp only[wU];omega
theorem FU.ok{n:Nat}{d:mB}(h:FU n d):d.canLay0=true/\d.depth<=n+1:=by
 induction h with
 | int i=>exact⟨rfl,by simp[vo]⟩
 | bl b=>exact⟨rfl,by simp[vo]⟩
 | @AG n ds h ih =>
  refine⟨by simp only[mB.canLay0]; exact SA λd hd=>(ih d hd).1,?_⟩
  have:=R4 λd hd=>(ih d hd).2
  simp only[vo];omega
theorem FU.shaped{n:Nat}{d:mB}(h:FU n d)(hn:n<=60):SeqAt.shaped d=true:=by
 unfold SeqAt.shaped;rw[mX];exact⟨h.ok.1,mQ (by have:=h.ok.2; omega)⟩
def Uk(b:Bool):R2:=λx y H Q=>∃(n:Nat) (d:mB),n<=60/\EA H x d/\EA H y d/\FU n d/\Q (.bl b) H
theorem dC(hu:X.A.units+64<cLine):Bk X (m5 .Eq) (Uk true):=by
 intro pins s σ H x y v u Q I rx ry h;obtain⟨n,d,hn,hx,hy,sh,k⟩:=h;refine eq_dataH (MG I hx v rx) (MG I hy u ry) (sh.shaped hn) (sh.shaped hn) hu ?_;rw[xc _ sh.ok.1];exact⟨.bl true,H,I,rfl,k⟩
theorem Oj(hu:X.A.units+64<cLine):Bk X (m5 .NotEq) (Uk false):=by
 intro pins s σ H x y v u Q I rx ry h;obtain⟨n,d,hn,hx,hy,sh,k⟩:=h;refine ne_dataH (MG I hx v rx) (MG I hy u ry) (sh.shaped hn) (sh.shaped hn) hu ?_;rw[xc _ sh.ok.1];exact⟨.bl false,H,I,rfl,k⟩
end
section
variable {X:Cx}
end
section
variable {prog:j8} {w:World} {A:kK} {E:Value->jh->Prop} {s:jh}
end
section
variable {X:Cx}
end
def gI(ta:TE):TE:=λσ H Q=>ta σ H λv H1=>∃n:Nat,v=.int (n:Int)/\n<=1000/\∀l,H1 l=none->Q (.ref l) (AH H1 l (.AD ((ju n).map λi:Nat=>V.int (i:Int))))
theorem Ni:∀{xs:List V} {us:List Value},xs.length=us.length->(∀(i:Nat) (x:V) (u:Value),xs[i]?=some x->us[i]?=some u->Ax x u)->Ah xs us
 | [],[],_,_=>.nil
 | [],_ :: _,h,_=>by simp at h
 | _ :: _,[],h,_=>by simp at h
 | x :: xs,u :: us,h,g=>.cons (g 0 x u rfl rfl) (Ni (by simpa using h) λi y v e1 e2=>g (i+1) y v (by simpa using e1) (by simpa using e2))
theorem Lu:k7 "list" = some (.type "list"):=by decide +kernel
section
variable {X:Cx}
theorem XQ {a:kG} {ta:TE} {p p' rpos pos:Pos} (hc:X.Cr=true) (hg:Gl X "list") (hm:X.mg "list" = none) (hg2:Gl X "range") (hm2:X.mg "range" = none) (ha:PE X a ta)
  (hs:kc [.Call (.Name "range" p') [a] [] rpos] X.env=[(false,eval (.Call (.Name "range" p') [a] [] rpos) X.env)]:=by rfl) (hs2:kc [a] X.env=[(false,eval a X.env)]:=by rfl) :
  PE X (.Call (.Name "list" p) [.Call (.Name "range" p') [a] [] rpos] [] pos) (gI ta):=by
 intro pins s σ H Q I h;refine mO (EG I hg hm Lu ?_ (by decide) (by decide));refine kz ?_ (by rw[hs]; rfl) (by rfl);rw[hs];refine rM ?_;refine mO (EG I hg2 hm2 sW ?_ (by decide) (by decide));have PAl:PA X [a] (BO ta CF):=AA ha AB (by rw[hs2]; rfl);have hq:BO ta CF σ H (λvs H1=>match vs with
   | [v]=>∃n:Nat,v=.int (n:Int)/\n<=1000/\∀l,H1 l=none->Q (.ref l) (AH H1 l (.AD ((ju n).map λi:Nat=>V.int (i:Int))))
   | _=>False):=h
 refine kz (Ag (PAl rpos pins _ σ H _ I hq) λus s2 ⟨vs,H2,I2,r2,q2⟩=>?_) (by rw[hs2]; rfl) (by rfl);cases r2 with
 | nil=>exact kY q2
 | cons r rr =>
  cases rr with
  | cons _ _=>exact kY q2
  | nil =>
   obtain⟨n,rfl,hn,q⟩:=q2;obtain⟨t,rfl⟩:=r;refine call_range_1 (sk ?_);refine call_list_range (n:=n) (I2.ok.hd hc) (t6 ..) (small_one (by omega) (by omega) (by omega) (by omega)) (by rw[uO]; split <;> omega) (by omega) λh' tk acc c hk hS hI=>?_
   obtain⟨hl,hI⟩:=hI;have hz:((ju n).map λi:Nat=>V.int (i:Int)).length<=jR:=by rw[ja,jV,nF]; omega
   have rv:Ah ((ju n).map λi:Nat=>V.int (i:Int)) acc.toList:=by
    refine Ni (by rw[ja,jV,mU,hl]) λi x u e1 e2=>?_
    have hi:i<n:=by
     have:=(jc.mp e2).1
     rw[mU,hl] at this;exact this
    rw[ji,kE hi] at e1;obtain⟨t',ht⟩:=hI i u (by rw[<-Array.getElem?_toList]; exact e2);cases e1;exact⟨t',by rw[ht]; congr 1; omega⟩
   have fin:∀h1:Heap,(∀b o,s2.heap.get? b=some o->h1.get? b=some o)->(∀b o,h1.get? b=some o->h'.get? b=some o)->h'.get? h1.objs.size=some { cls:=.type "list",dict:=none,data:=.seq acc c,slots:=#[] }->EP X pins σ Q (.ref h1.objs.size) { s2 with heap:=h',toks:=tk }:=λh1 k1 k2 hS=>by
    have I3:=I2.Bx (h':=h1) (t':=tk) k1;exact⟨.ref _,_,I3.De (t':=tk) k2 (jj _) (show Bq X.prog X.w _ h' _ (.AD _) from ⟨hz,acc.toList,c,rv,hS⟩),rfl,q _ (I3.hok.Bp (jj _))⟩
   exact fin _ (λb o e=>jt _ e) hk hS
end
section
variable {prog:j8} {w:World} {A:kK} {E:Value->jh->Prop} {s:jh}
end
section
variable {X:Cx}
end
def ed(ta:TA):TE:=λσ H Q=>ta σ H λvs H1=>∃(lo:Int) (n:Nat),vs=[.int lo,.int (lo+(n:Int))]/\0<=lo/\lo<=1000/\n<=1000/\∀l,H1 l=none->Q (.ref l) (AH H1 l (.AD ((ju n).map λi:Nat=>V.int (lo+(i:Int)))))
section
variable {X:Cx}
theorem QM {a b:kG} {ta:TA} {p p' rpos pos:Pos} (hc:X.Cr=true) (hg:Gl X "list") (hm:X.mg "list" = none) (hg2:Gl X "range") (hm2:X.mg "range" = none) (ha:PA X [a,b] ta)
  (hs:kc [.Call (.Name "range" p') [a,b] [] rpos] X.env=[(false,eval (.Call (.Name "range" p') [a,b] [] rpos) X.env)]:=by rfl) (hs2:kc [a,b] X.env=[(false,eval a X.env),(false,eval b X.env)]:=by rfl) (hs3:kc [b] X.env=[(false,eval b X.env)]:=by rfl) :
  PE X (.Call (.Name "list" p) [.Call (.Name "range" p') [a,b] [] rpos] [] pos) (ed ta):=by
 intro pins s σ H Q I h;refine mO (EG I hg hm Lu ?_ (by decide) (by decide));refine kz ?_ (by rw[hs]; rfl) (by rfl);rw[hs];refine rM ?_;refine mO (EG I hg2 hm2 sW ?_ (by decide) (by decide));refine kz (Ag (ha rpos pins _ σ H _ I h) λus s2 ⟨vs,H2,I2,r2,q2⟩=>?_) (by rw[hs2,hs3]) (by rw[hs3]; rfl);obtain⟨lo,n,e,l0,l1,hn,q⟩:=q2;subst e;cases r2 with
 | cons r rr =>
  cases rr with
  | cons r' rr =>
   cases rr;obtain⟨t,rfl⟩:=r;obtain⟨t',rfl⟩:=r';refine call_range_2 (sk ?_);refine call_list_range (n:=n) (I2.ok.hd hc) (t6 ..) (small_one (by omega) (by omega) (by omega) (by omega)) (by rw[uO]; split <;> omega) (by omega) λh' tk acc c hk hS hI=>?_
   obtain⟨hl,hI⟩:=hI;have hz:((ju n).map λi:Nat=>V.int (lo+(i:Int))).length<=jR:=by rw[ja,jV,nF]; omega
   have rv:Ah ((ju n).map λi:Nat=>V.int (lo+(i:Int))) acc.toList:=by
    refine Ni (by rw[ja,jV,mU,hl]) λi x u e1 e2=>?_
    have hi:i<n:=by
     have:=(jc.mp e2).1
     rw[mU,hl] at this;exact this
    rw[ji,kE hi] at e1;obtain⟨t',ht⟩:=hI i u (by rw[<-Array.getElem?_toList]; exact e2);cases e1;exact⟨t',by rw[ht]; congr 1; omega⟩
   have fin:∀h1:Heap,(∀b o,s2.heap.get? b=some o->h1.get? b=some o)->(∀b o,h1.get? b=some o->h'.get? b=some o)->h'.get? h1.objs.size=some { cls:=.type "list",dict:=none,data:=.seq acc c,slots:=#[] }->EP X pins σ Q (.ref h1.objs.size) { s2 with heap:=h',toks:=tk }:=λh1 k1 k2 hS=>by
    have I3:=I2.Bx (h':=h1) (t':=tk) k1;exact⟨.ref _,_,I3.De (t':=tk) k2 (jj _) (show Bq X.prog X.w _ h' _ (.AD _) from ⟨hz,acc.toList,c,rv,hS⟩),rfl,q _ (I3.hok.Bp (jj _))⟩
   exact fin _ (λb o e=>jt _ e) hk hS
theorem YR(hc:X.Cr=true):C6 X (.builtin "max") (λxs H Q=>∃(p:Addr) (ns:List Int),xs=[.ref p]/\H p=some (.AG (ns.map V.int))/\0<ns.length/\∀m,m∈ns->(∀a∈ns,a<=m)->Q (.int m) H):=by
 intro pins s σ H xs us Q I r h;obtain⟨p,ns,rfl,hp,hne,q⟩:=h;obtain⟨u,rfl,r1⟩:=En r;cases r1;obtain⟨its,rv,pa,_⟩:=I.tuple (AK.of (K:=X.K) hp);have hlen:its.length=ns.length:=by rw[<-rv.length,ja]
 have hlt:p<s.heap.objs.size:=by
  obtain⟨o,ho,_⟩:=id pa;exact jQ ho
 have num:∀i v,its.toArray[i]?=some v->∃t,v=.int (ns.getD i 0) t/\i<ns.length:=λi v hv=>by
  rw[nO] at hv;have hi:i<its.length:=(jc.mp hv).1;have hi2:i<ns.length:=by omega
  have hx:(ns.map V.int)[i]?=some (.int ns[i]):=by rw[ji,jb hi2]; rfl
  obtain⟨u,hu,ru⟩:=rv.get hx;rw[hu] at hv;obtain rfl:u=v:=jL hv;obtain⟨t,rfl⟩:=ru;exact⟨t,by rw[je,jb hi2]; rfl,hi2⟩
 refine call_max_walk (md pa ?_);refine⟨s.heap.objs.size,_,_,_,_,_,λi j=>decide (-(ns.getD i 0) < -(ns.getD j 0)),rfl,Walks.tuple (show X.A.in1.handled=none from I.ok.hd hc) _ p (kS hlt) its.toArray,⟨⟨_,jY _ rfl,rfl,rfl⟩,pa.push _⟩,λb hb=>?_,by rw[jJ]; omega,λi j vi vj s' Q' E' hi hj hQ'=>?_,λv h' tk hv k=>?_⟩
 ·simp only[jK,ke,lM] at hb;rw[mZ];rcases hb with rfl | rfl
  ·exact wu _
  ·exact vP hlt
 ·obtain⟨t1,rfl,_⟩:=num i vi hi;obtain⟨t2,rfl,_⟩:=num j vj hj;refine gt_int ?_;have e:decide (ns.getD j 0<ns.getD i 0)=decide (-(ns.getD i 0) < -(ns.getD j 0)):=by
   rw[oG,nQ,nQ];omega
  first
   | (rw[e]; exact hQ')
   | (rw[show decide (ns.getD i 0 > ns.getD j 0)=decide (-(ns.getD i 0) < -(ns.getD j 0)) from e]; exact hQ')
 ·obtain⟨t,rfl,hb⟩:=num _ v hv;obtain⟨h1,h2⟩:=argBest_lt (λi=>-(ns.getD i 0)) (its.toArray.size-1);refine⟨.int _,H,I.Bx λb o eb=>?_,⟨t,rfl⟩,q _ (getD_mem hb) λa ha=>?_⟩
  ·exact k b o (λz=>by
    have:b=s.heap.objs.size:=by simpa using z
    exact absurd (jQ eb) (by rw[this]; exact mW _)) (jt _ eb)
  ·obtain⟨j,hj,rfl⟩:=mem_getD ha
   have:=h2 j (by rw[jJ]; omega)
   have h3:-(ns.getD (argBest (λi j=>decide (-(ns.getD i 0) < -(ns.getD j 0))) (its.toArray.size-1)) 0)<=-(ns.getD j 0):=this;omega
def fP(K:jk):R2:=λx y H Q=>∃a b xs ys,x=.ref a/\y=.ref b/\AK K H a xs/\AK K H b ys/\ys≠[]/\xs.length+ys.length<=jR /\
 (xs=[]->Q (.ref b) H)/\(xs≠[]->∀p,H p=none->Q (.ref p) (AH H p (.AG (xs++ys))))
theorem aI:Bk X (mS .Add) (fP X.K):=by
 intro pins s σ H x y v u Q I rx ry h;obtain⟨a,b,xs,ys,rfl,rfl,ha,hb,hy,hz,q1,q2⟩:=h;by_cases hx:xs=[]
 ·cases rx;cases ry;obtain⟨its,r1,p1,_⟩:=I.tuple ha;obtain⟨its2,r2,p2,_⟩:=I.tuple hb;have e0:its=[]:=r1.Kh.mpr hx;obtain⟨⟨cls,dd,data,sl⟩,ho,hc,n,hd⟩:=id p1;obtain⟨⟨cls2,dd2,data2,sl2⟩,ho2,hc2,n2,hd2⟩:=id p2;simp only at hc hd hc2 hd2;subst hc hd hc2 hd2;exact tM ⟨_,ho,rfl⟩ ⟨_,ho2,rfl⟩ qE r9 oQ oE (oo _ _)
   (tuple_addW0 a b its.toArray its2.toArray n n2 dd dd2 sl sl2 (by simp[e0])) ⟨ho,ho2,⟨.ref b,H,I,rfl,q1 hx⟩⟩
 ·exact L3 pins s σ H _ _ v u Q I rx ry ⟨a,b,xs,ys,rfl,rfl,ha,hb,hx,hz,λz=>absurd z hy,λ_=>q2 hx⟩
def Mz(K:jk)(a:Addr)(n:Nat):It :=
 ⟨λi H=>∃xs x,AR K H a xs/\xs.length=n/\xs.reverse[i]?=some x,λi H x H'=>H'=H/\∀xs,AR K H a xs->xs.reverse[i]?=some x,λi _=>n<=i⟩
theorem ZA{P:j8}{w:World}{K:jk}{tg:Expr}(a it:Addr)(n:Nat):GW P w K tg (Mz K a n) [it] it (λi h=>i<=n/\h.IsRevIter it a ((n:Int)-1-(i:Int))) where
 mem:=by simp
 obj:=λi h st b hb=>by
  have e:b=it:=by simpa using hb
  subst e;obtain⟨o,e,c,d⟩:=st.2;exact⟨o,e,λv z=>by rw[d] at z; cases z⟩
 keep:=λi h h' st k=>⟨st.1,st.2.at λo e=>k it (by simp) o e⟩
 item:=by
  intro X hP hw hK hc i pins s σ H E I hf st hg;subst hP hw hK;obtain⟨xs,x,hq,ln,hx⟩:=hg;have il:i<n:=by have:=(jc.mp hx).1; rw[ow] at this; omega
  have hx':xs[n-1-i]?=some x:=by rw[List.getElem?_reverse (by omega),ln] at hx; exact hx
  obtain⟨its,rv,p,hz⟩:=I.list hq;obtain⟨u,hu,ru⟩:=rv.get hx';obtain⟨f0,f1,f2,f3,f4,f5⟩:=hf it (by simp);have hit:=st.2;rw[show(n:Int)-1-(i:Int)=((n-1-i:Nat):Int) by omega] at hit;refine wpAny_pyNext_rev_item hit p.isList (x:=u) (by simpa using hu) λh' st' sb=>?_
  have I1:AI X pins σ H { s with heap:=h' }:=I.EH (t':=s.toks) (λb o hb e=>(sb.2 b hb).trans e) f0 f1 f3 f4 f5;obtain⟨o,e,c,d⟩:=id st';rw[show((n-1-i:Nat):Int)-1=(n:Int)-1-((i+1:Nat):Int) by omega] at st';exact⟨u,rfl,K0 (s:={ s with heap:=h' }) e c d (by decide) ⟨x,H,I1,ru,⟨rfl,λys hy=>by rw[I.list_inj hy hq]; exact hx⟩,⟨il,st'⟩,λb hb=>(hf b hb).1⟩⟩
 done:=by
  intro X hP hw hK hc i pins s σ H E I hf st hg;subst hP hw hK;have hg:n<=i:=hg;obtain⟨f0,f1,f2,f3,f4,f5⟩:=hf it (by simp);have hit:=st.2
  have:=st.1
  rw[show(n:Int)-1-(i:Int)=-1 by omega] at hit;exact wpAny_pyNext_rev_end (I.ok.hd hc) hit λh' eb=>⟨rfl,I.EH (t':=s.toks) (λb o hb e=>eb b o hb e) f0 f1 f3 f4 f5⟩
 GS:=λ_ _ _ _ _ st h=>uL st.2 h
variable {tg:Expr}
def iM(K:jk)(tl:TE):TI:=λσ H R=>tl σ H λx H1=>∃a xs,x=.ref a/\AR K H1 a xs/\R (Mz K a xs.length) H1
theorem dJ{l:kG}{tl:TE}{p rpos:Pos}(hg2:Gl X "reversed")(hm2:X.mg "reversed" = none)(hl:PE X l tl)(hs2:kc [l] X.env=[(false,eval l X.env)]:=by rfl):PI X tg (.Call (.Name "reversed" p) [l] [] rpos) (iM X.K tl):=by
 intro pins s σ H R I h;refine mO (EG I hg2 hm2 (show k7 "reversed" = some (.type "reversed") by decide +kernel) ?_ (by decide) (by decide));have PAl:PA X [l] (BO tl CF):=AA hl AB (by rw[hs2]; rfl);have hq:BO tl CF σ H (λvs H1=>match vs with
   | [x]=>∃a xs,x=.ref a/\AR X.K H1 a xs/\R (Mz X.K a xs.length) H1
   | _=>False):=h
 refine kz (Ag (PAl rpos pins _ σ H _ I hq) λus s2 ⟨vs,H2,I2,r2,q2⟩=>?_) (by rw[hs2]; rfl) (by rfl);cases r2 with
 | nil=>exact kY q2
 | cons r rr =>
  cases rr with
  | cons _ _=>exact kY q2
  | nil =>
   obtain⟨a,xs,rfl,hq,q⟩:=q2;cases r;obtain⟨its,rv,pl,hz⟩:=I2.list hq;have ln:=rv.length;refine call_reversed_list (items:=its.toArray) pl.isList ?_;have st:(s2.heap.push (revObj a ((its.toArray.size:Int)-1))).IsRevIter s2.heap.objs.size a ((its.toArray.size:Int)-1):=⟨_,jY _ rfl,rfl,rfl⟩;refine uL (s:={ s2 with heap:=s2.heap.push (revObj a ((its.toArray.size:Int)-1)) }) st ?_;refine⟨s2.heap.objs.size,[s2.heap.objs.size],_,_,H2,rfl,I2.Bx (t':=s2.toks) λb o e=>jt _ e,ZA a _ xs.length,⟨kH _,?_⟩,λb hb=>?_,q⟩
   ·rw[jJ,<-ln] at st;rw[show((xs.length:Int)-1-((0:Nat):Int))=(xs.length:Int)-1 by omega];rw[jJ,<-ln];exact st
   ·have e:b=s2.heap.objs.size:=by simpa using hb
    subst e;exact I2.GV (jj _) (I2.hok.Bp (jj _))
open PySem.W
def eE:R2:=λx y H Q=>∃a b xs ys,x=.ref a/\y=.ref b/\H a=some (.AG xs)/\H b=some (.AG ys)/\xs.length+ys.length<=jR/\∀p H',AN H H'->H' p=some (.AG (xs++ys))->Q (.ref p) H'
theorem SN{X:Cx}:Bk X (mS .Add) eE:=by
 intro pins s σ H x y v u Q I rx ry h;obtain⟨a,b,xs,ys,rfl,rfl,ha,hb,hz,q⟩:=h;by_cases hy:ys=[]
 ·by_cases hx:xs=[]
  ·subst hx hy;cases rx;cases ry;obtain⟨its,r1,p1,_⟩:=I.tuple (AK.of ha);obtain⟨its2,r2,p2,_⟩:=I.tuple (AK.of hb);have e0:its=[]:=r1.Kh.mpr rfl;obtain⟨⟨cls,dd,data,sl⟩,ho,hc,n,hd⟩:=id p1;obtain⟨⟨cls2,dd2,data2,sl2⟩,ho2,hc2,n2,hd2⟩:=id p2;simp only at hc hd hc2 hd2;subst hc hd hc2 hd2;exact tM ⟨_,ho,rfl⟩ ⟨_,ho2,rfl⟩ qE r9 oQ oE (oo _ _)
    (tuple_addW0 a b its.toArray its2.toArray n n2 dd dd2 sl sl2 (by simp[e0])) ⟨ho,ho2,⟨.ref b,H,I,rfl,q b H (AN.refl _) hb⟩⟩
  ·exact L3 pins s σ H _ _ v u Q I rx ry ⟨a,b,xs,ys,rfl,rfl,AK.of ha,AK.of hb,hx,hz,λz=>q a H (AN.refl _) (by rw[z,lC]; exact ha),λz=>absurd hy z⟩
 ·exact aI pins s σ H _ _ v u Q I rx ry ⟨a,b,xs,ys,rfl,rfl,AK.of ha,AK.of hb,hy,hz,λz=>q b H (AN.refl _) (by rw[z,pK]; exact hb),λ_ p hp=>q p _ (λb o e=>by rw[Ad (λz=>by rw[z,hp] at e; cases e)]; exact e) AU⟩
end
end L2
namespace Mth
theorem Ri(a b:Int):kL b (a.fmod b)=kL a b:=by
 rw[Int.fmod_def];have e:a-b*a.fdiv b=a+b*(-(a.fdiv b)):=by rw[Int.mul_neg,Int.sub_eq_add_neg]
 rw[e,Int.gcd_add_mul_left_right,Int.gcd_comm]
theorem aF(a b:Int)(h:b≠0):(a.fmod b).natAbs<b.natAbs:=by
 rw[Int.fmod_eq_emod];have h1:=k9 a h;have h2:=Int.emod_lt a h;split
 ·omega
 ·rename_i z
  have:¬b ∣ a:=λq=>z (om q)
  have hz:a % b≠0:=λq=>this (Int.dvd_of_emod_eq_zero q)
  omega
def part(t b:Int):Int:=if b<0 then -(kL t b:Int) else (kL t b:Int)
def BS(t b:Int):Int×Int:=(t.fdiv (part t b),b.fdiv (part t b))
theorem OV(t b:Int)(h:b≠0):0<kL t b:=Int.gcd_pos_of_ne_zero_right _ h
theorem Km(t b:Int)(h:b≠0):part t b≠0:=by
 have:=OV t b h
 unfold part; split <;> omega
theorem Qb(t b:Int):part t b ∣ t:=by
 unfold part; split
 ·exact Int.neg_dvd.mpr (o7 t b)
 ·exact o7 t b
theorem QZ(t b:Int):part t b ∣ b:=by
 unfold part; split
 ·exact Int.neg_dvd.mpr (oR t b)
 ·exact oR t b
theorem MF(t b:Int):(BS t b).1*part t b=t:=by
 show t.fdiv (part t b)*part t b=t;rw[lE (Qb t b),uU (Qb t b)]
theorem Ks(t b:Int):(BS t b).2*part t b=b:=by
 show b.fdiv (part t b)*part t b=b;rw[lE (QZ t b),uU (QZ t b)]
theorem Rh(t b:Int)(h:b≠0):0<(BS t b).2:=by
 have e:=Ks t b;have g:=OV t b h;rcases Int.lt_or_lt_of_ne h with h1 | h1
 ·have hp:part t b<0:=by unfold part; rw[jq h1]; omega
  rcases oU 0 (BS t b).2 with q | q
  ·exact q
  ·have:0<=(BS t b).2*part t b:=Int.mul_nonneg_of_nonpos_of_nonpos q (vc hp)
   omega
 ·have hp:0<part t b:=by unfold part; rw[jm (by omega)]; omega
  rcases oU 0 (BS t b).2 with q | q
  ·exact q
  ·have:(BS t b).2*part t b<=0:=qj q (vc hp)
   omega
theorem QS(t b:Int):(BS t b).1*b=t*(BS t b).2:=by
 have e1:=MF t b;have e2:=Ks t b;generalize (BS t b).1=n at *;generalize (BS t b).2=d at *;generalize part t b=p at *;subst e1;subst e2;rw[Int.mul_comm d p,xh]
theorem Y4(t b:Int)(h:b≠0):kL (BS t b).1 (BS t b).2=1:=by
 have e1:=MF t b;have e2:=Ks t b;have g:=OV t b h;have hp:(part t b).natAbs=kL t b:=by unfold part; split <;> omega
 have k:kL ((BS t b).1*part t b) ((BS t b).2*part t b)=kL (BS t b).1 (BS t b).2*(part t b).natAbs:=Int.gcd_mul_right _ _ _;rw[e1,e2,hp] at k
 have:1*kL t b=kL (BS t b).1 (BS t b).2*kL t b:=by rw[pG]; exact k
 exact(Nat.eq_of_mul_eq_mul_right g this).symm
theorem SO(t b:Int)(h:b≠0):(part t b).natAbs<=b.natAbs:=by
 have e:(part t b).natAbs=kL t b:=by unfold part; split <;> omega
 rw[e];exact rZ (uv.mpr h) (by
  have:=oR t b
  exact rN.mp this)
theorem Qy(t b:Int)(h:b≠0):(BS t b).1.natAbs<=t.natAbs:=by
 have e:=congrArg wI (MF t b);rw[kn] at e
 have:1<=(part t b).natAbs:=uv.mpr (Km t b h)
 calc (BS t b).1.natAbs=(BS t b).1.natAbs*1:=(vZ _).symm
  _<=(BS t b).1.natAbs*(part t b).natAbs:=lY _ this
  _=t.natAbs:=e
theorem RC(t b:Int)(h:b≠0):(BS t b).2.natAbs<=b.natAbs:=by
 have e:=congrArg wI (Ks t b);rw[kn] at e
 have:1<=(part t b).natAbs:=uv.mpr (Km t b h)
 calc (BS t b).2.natAbs=(BS t b).2.natAbs*1:=(vZ _).symm
  _<=(BS t b).2.natAbs*(part t b).natAbs:=lY _ this
  _=b.natAbs:=e
end Mth
namespace Wd
abbrev AX:=Nat->Rat
abbrev Aw:=List Bool->Rat
def sh(v:AX):AX:=λj=>v (j+1)
def BF(w:Aw):Aw:=λT=>w (false :: T)
def at1(w:Aw):Aw:=λT=>w (true :: T)
def wg:AX->Aw->Aw
 | _,_,[]=>0
 | v,w,false :: S=>wg (sh v) (BF w) S
 | v,w,true :: S=>v 0*w (false :: S)-wg (sh v) (at1 w) S
def Ae:Aw
 | []=>1
 | false :: S=>Ae S
 | true :: _=>0
theorem KS(S:List Bool):∀(u v:AX) (w:Aw),wg (λj=>u j+v j) w S=wg u w S+wg v w S:=by
 induction S with
 | nil=>intro u v w; simp only[wg]; grind
 | cons b S ih =>
  intro u v w;have h:=ih (sh u) (sh v);have e:sh (λj=>u j+v j)=λj=>sh u j+sh v j:=rfl
  cases b
  ·simp only[wg,e,h]
  ·simp only[wg,e,h]; grind
theorem Gv(S:List Bool):∀(c:Rat) (v:AX) (w:Aw),wg (λj=>c*v j) w S=c*wg v w S:=by
 induction S with
 | nil=>intro c v w; simp[wg]
 | cons b S ih =>
  intro c v w;have h:=ih c (sh v);have e:sh (λj=>c*v j)=λj=>c*sh v j:=rfl
  cases b
  ·simp only[wg,e,h]
  ·simp only[wg,e,h]; grind
theorem Ko(S:List Bool):∀(v:AX) (w x:Aw),wg v (λT=>w T+x T) S=wg v w S+wg v x S:=by
 induction S with
 | nil=>intro v w x; simp only[wg]; grind
 | cons b S ih =>
  intro v w x;have e0:BF (λT=>w T+x T)=λT=>BF w T+BF x T:=rfl
  have e1:at1 (λT=>w T+x T)=λT=>at1 w T+at1 x T:=rfl
  cases b
  ·simp only[wg,e0,ih]
  ·simp only[wg,e1,ih]; grind
theorem E9(S:List Bool):∀(c:Rat) (v:AX) (w:Aw),wg v (λT=>c*w T) S=c*wg v w S:=by
 induction S with
 | nil=>intro c v w; simp[wg]
 | cons b S ih =>
  intro c v w;have e0:BF (λT=>c*w T)=λT=>c*BF w T:=rfl
  have e1:at1 (λT=>c*w T)=λT=>c*at1 w T:=rfl
  cases b
  ·simp only[wg,e0,ih]
  ·simp only[wg,e1,ih]; grind
theorem ck(S:List Bool)(v:AX)(w x:Aw):wg v (λT=>w T-x T) S=wg v w S-wg v x S:=by
 have e:(λT=>w T-x T)=λT=>w T+(λT=>(-1)*x T) T:=by funext T; grind
 rw[e,Ko,E9]; grind
theorem Ju(S:List Bool):∀(v:AX) (w:Aw),wg v (wg v w) S=0:=by
 induction S with
 | nil=>intro v w; simp[wg]
 | cons b S ih =>
  intro v w;cases b
  ·have e0:BF (wg v w)=wg (sh v) (BF w):=rfl;simp only[wg,e0,ih]
  ·have e1:at1 (wg v w)=λT=>v 0*BF w T-wg (sh v) (at1 w) T:=rfl
   have e2:(λT=>v 0*BF w T)=λT=>v 0*BF w T:=rfl
   simp only[wg,e1];rw[ck (x:=wg (sh v) (at1 w)) (w:=λT=>v 0*BF w T),E9,ih]; grind
theorem Kf(u v:AX)(w:Aw)(S:List Bool):wg u (wg v w) S=- wg v (wg u w) S:=by
 have h:=Ju S (λj=>u j+v j) w;have e:wg (λj=>u j+v j) w=λT=>wg u w T+wg v w T:=by funext T; exact KS T u v w
 rw[KS,e,Ko,Ko,Ju,Ju] at h
 grind
theorem Lw(S:List Bool)(v:AX):wg v (λ_=>0) S=0:=by
 have h:=E9 S 0 v (λ_=>0);have e:(λT:List Bool=>(0:Rat)*(λ_=>(0:Rat)) T)=λ_=>0:=by funext T; grind
 rw[e] at h; grind
def Ac:List AX->Aw->Aw
 | [],w=>w
 | v :: L,w=>Ac L (wg v w)
theorem GD(L M:List AX)(w:Aw):Ac (L++M) w=Ac M (Ac L w):=by
 induction L generalizing w with
 | nil=>rfl
 | cons v L ih=>simp[Ac,ih]
theorem G0(L:List AX):∀(c:Rat) (w:Aw),Ac L (λT=>c*w T)=λT=>c*Ac L w T:=by
 induction L with
 | nil=>intro c w; rfl
 | cons v L ih =>
  intro c w;have e:wg v (λT=>c*w T)=λT=>c*wg v w T:=by funext T; exact E9 T c v w
  simp only[Ac]; rw[e,ih]
theorem aP(L:List AX):∀(w x:Aw),Ac L (λT=>w T+x T)=λT=>Ac L w T+Ac L x T:=by
 induction L with
 | nil=>intro w x; rfl
 | cons v L ih =>
  intro w x;have e:wg v (λT=>w T+x T)=λT=>wg v w T+wg v x T:=by funext T; exact Ko T v w x
  simp only[Ac]; rw[e,ih]
theorem Zd(L:List AX):Ac L (λ_=>0)=λ_=>0:=by
 induction L with
 | nil=>rfl
 | cons v L ih =>
  have e:wg v (λ_=>0)=λ_=>0:=by funext T; exact Lw T v
  simp only[Ac]; rw[e,ih]
def sg(n:Nat):Rat:=if n % 2=0 then 1 else -1
theorem OU(n:Nat):sg (n+1)=- sg n:=by unfold sg; split <;> split <;> first | omega | grind
theorem IV(n:Nat):sg n*sg n=1:=by unfold sg; split <;> grind
theorem Ua(L:List AX):∀(v:AX) (w:Aw) (S:List Bool),Ac L (wg v w) S=sg L.length*wg v (Ac L w) S:=by
 induction L with
 | nil=>intro v w S; simp[Ac,sg]
 | cons u L ih =>
  intro v w S;simp only[Ac,ka];have e:wg u (wg v w)=λT=>(-1)*wg v (wg u w) T:=by funext T; rw[Kf]; grind
  rw[e,G0];simp only[];rw[ih,OU]; grind
theorem NY(P Q R:List AX)(v:AX)(w:Aw)(S:List Bool):Ac (P++v :: Q++v :: R) w S=0:=by
 have e:P++v :: Q++v :: R=P++(v :: (Q++(v :: R))):=by simp
 rw[e,GD];generalize Ac P w=x;simp only[Ac];rw[GD];simp only[Ac];have h:wg v (Ac Q (wg v x))=λ_=>0:=by
  funext T
  have h2:Ac Q (wg v x)=λT=>sg Q.length*wg v (Ac Q x) T:=by funext T; exact Ua Q v x T
  rw[h2,E9,Ju]; grind
 rw[h,Zd]
theorem NL(P Q:List AX)(u v:AX)(w:Aw)(S:List Bool):
  Ac (P++(λj=>u j+v j) :: Q) w S=Ac (P++u :: Q) w S+Ac (P++v :: Q) w S:=by
 rw[GD,GD,GD];simp only[Ac];have e:wg (λj=>u j+v j) (Ac P w)=λT=>wg u (Ac P w) T+wg v (Ac P w) T:=by funext T; exact KS T u v _
 rw[e,aP]
theorem Xa(P Q:List AX)(c:Rat)(v:AX)(w:Aw)(S:List Bool):
  Ac (P++(λj=>c*v j) :: Q) w S=c*Ac (P++v :: Q) w S:=by
 rw[GD,GD];simp only[Ac];have e:wg (λj=>c*v j) (Ac P w)=λT=>c*wg v (Ac P w) T:=by funext T; exact Gv T c v _
 rw[e,G0]
theorem ZR(P Q R:List AX)(u v:AX)(w:Aw)(S:List Bool):
  Ac (P++u :: Q++v :: R) w S=- Ac (P++v :: Q++u :: R) w S:=by
 have h:=NY P Q R (λj=>u j+v j) w S;have a1:∀x y:AX,P++x :: Q++y :: R=P++x :: (Q++y :: R):=by intro x y; simp
 have h1:Ac (P++(λj=>u j+v j) :: Q++(λj=>u j+v j) :: R) w S
   = Ac (P++u :: Q++(λj=>u j+v j) :: R) w S+Ac (P++v :: Q++(λj=>u j+v j) :: R) w S:=by
  rw[a1,NL,<-a1,<-a1]
 rw[h1,NL,NL,NY,NY] at h
 grind
def DJ(c:Nat)(v:AX):AX:=λj=>v (j+c)
def pre(c:Nat)(w:Aw):Aw:=λT=>w (jo c true++T)
theorem Ox(c:Nat):∀(v:AX) (w:Aw) (S:List Bool),(∀j,j<c->v j=0) →
  wg v w (jo c true++S)=sg c*wg (DJ c v) (pre c w) S:=by
 induction c with
 | zero=>intro v w S _; simp[sg]; rfl
 | succ c ih =>
  intro v w S h;have h0:=h 0 (by omega)
  have:=ih (sh v) (at1 w) S (λj hj=>h (j+1) (by omega))
  simp only[km,nz,wg];rw[this,h0,OU];have e1:DJ c (sh v)=DJ (c+1) v:=by funext j; simp only[DJ,sh]; congr 1
  have e2:pre c (at1 w)=pre (c+1) w:=by funext T; simp[pre,at1,km]
  rw[e1,e2]; grind
theorem bc(S:List Bool):∀(v:AX) (w:Aw),(∀b∈S,b=false)->wg v w S=0:=by
 induction S with
 | nil=>intro v w _; rfl
 | cons b S ih =>
  intro v w h
  have:=h b (by simp)
  subst this;exact ih _ _ (λb hb=>h b (by simp[hb]))
theorem dB(d e:Nat):∀(v:AX) (w:Aw),
  wg v w (jo d false++true :: jo e false)=v d*w (jo (d+1+e) false):=by
 induction d with
 | zero =>
  intro v w;simp only[uW,pK,wg];rw[bc _ _ _ (λb hb=>(vh.mp hb).2)]
  have:(0+1+e)=e+1:=by omega
  rw[this,km]; grind
 | succ d ih =>
  intro v w
  have:=ih (sh v) (BF w)
  simp only[km,nz,wg];rw[this]
  have:d+1+1+e=(d+1+e)+1:=by omega
  rw[this,km]; rfl
def Tk(c m:Nat):List Bool:=jo c true++jo (m-c) false
def Sj(c j m:Nat):List Bool:=jo c true++(jo (j-c) false++true :: jo (m-1-j) false)
theorem PX{c j m:Nat}{v:AX}(w:Aw)(hz:∀i,i<c->v i=0)(h1:c<=j)(h2:j<m):
  wg v w (Sj c j m)=sg c*(v j*w (Tk c m)):=by
 unfold Sj;rw[Ox c v w _ hz,dB];have e:j-c+1+(m-1-j)=m-c:=by omega
 simp only[DJ,pre,e,Tk]
 have:j-c+c=j:=by omega
 rw[this]
theorem a9{c m:Nat}(h:c<m):Sj c c m=Tk (c+1) m:=by
 unfold Sj Tk;have e:m-1-c=m-(c+1):=by omega
 rw[nM,uW,pK,e,nX,kN]; rfl
def B8:Nat->Rat
 | 0=>1
 | c+1=>B8 c*sg c
theorem Ji(c:Nat):B8 c*B8 c=1:=by
 induction c with
 | zero=>simp[B8]
 | succ c ih=>simp only[B8]; have:=IV c; grind
def ld(c m:Nat)(w:Aw):Rat:=B8 c*w (Tk c m)
theorem eG{c m:Nat}{v:AX}(w:Aw)(hz:∀i,i<c->v i=0)(h:c<m):ld (c+1) m (wg v w)=v c*ld c m w:=by
 have:=PX (v:=v) w hz (jj c) h
 rw[a9 h] at this;unfold ld;rw[this]; simp only[B8]; have:=IV c; grind
def BM(x:Rat):Prop:=∃n:Int,x=n
theorem BM.Ee{x y:Rat}(h:BM x)(g:BM y):BM (x*y):=by
 obtain⟨a,rfl⟩:=h; obtain⟨b,rfl⟩:=g; exact⟨a*b,by grind⟩
theorem BM.Di{x y:Rat}(h:BM x)(g:BM y):BM (x-y):=by
 obtain⟨a,rfl⟩:=h; obtain⟨b,rfl⟩:=g; exact⟨a-b,by grind⟩
theorem BM.of(n:Int):BM (n:Rat):=⟨n,rfl⟩
theorem ML(S:List Bool):∀(v:AX) (w:Aw),(∀j,BM (v j))->(∀T,BM (w T))->BM (wg v w S):=by
 induction S with
 | nil=>intro v w _ _; exact⟨0,rfl⟩
 | cons b S ih =>
  intro v w h g;cases b
  ·exact ih _ _ (λj=>h (j+1)) (λT=>g _)
  ·exact((h 0).Ee (g _)).Di (ih _ _ (λj=>h (j+1)) (λT=>g _))
theorem ON(S:List Bool):BM (Ae S):=by
 induction S with
 | nil=>exact⟨1,rfl⟩
 | cons b S ih=>cases b; exact ih; exact⟨0,rfl⟩
theorem bZ(n:Nat):Ae (jo n false)=1:=by
 induction n with
 | zero=>rfl
 | succ n ih=>rw[km]; exact ih
theorem O0(m:Nat):ld 0 m Ae=1:=by
 simp[ld,B8,Tk,bZ]
def Cg(S:List Bool):Nat:=(S.filter id).length
theorem de(S:List Bool):∀(v:AX) (w:Aw) (d:Nat),(∀T,Cg T<d->w T=0)->Cg S<d+1->wg v w S=0:=by
 induction S with
 | nil=>intro v w d _ _; rfl
 | cons b S ih =>
  intro v w d h g;cases b
  ·exact ih (sh v) (BF w) d (λT hT=>h _ (by simpa [Cg] using hT)) (by simpa [Cg] using g)
  ·simp only[wg];have g1:Cg S<d:=by simp[Cg] at g ⊢; omega
   rw[h (false :: S) (by simpa [Cg] using g1)];cases d with
   | zero=>omega
   | succ d=>rw[ih (sh v) (at1 w) d (λT hT=>h _ (by simp[Cg] at hT ⊢; omega)) g1]; grind
theorem b7(L:List AX):∀(w:Aw) (d:Nat),(∀T,Cg T<d->w T=0)->∀S,Cg S<d+L.length->Ac L w S=0:=by
 induction L with
 | nil=>intro w d h S hS; exact h S (by simpa using hS)
 | cons v L ih =>
  intro w d h S hS;exact ih (wg v w) (d+1) (λT hT=>de T v w d h hT) S (by simp at hS; omega)
theorem aj(c:Nat)(L:List AX):∀(w:Aw) (S:List Bool),(∀v∈L,∀j,j<c->v j=0) →
  ∃e:Rat,Ac L w (jo c true++S)=e*Ac (L.map (DJ c)) (pre c w) S:=by
 induction L with
 | nil=>intro w S _; exact⟨1,by simp[Ac,pre]⟩
 | cons v L ih =>
  intro w S h;obtain⟨e,he⟩:=ih (wg v w) S (λu hu=>h u (by simp[hu]));refine⟨e*sg c,?_⟩;simp only[Ac,jx];rw[he]
  have:pre c (wg v w)=λT=>sg c*wg (DJ c v) (pre c w) T:=by
   funext T; exact Ox c v w T (h v (by simp))
  rw[this,G0]; grind
theorem bU{c n m:Nat}{L:List AX}(w:Aw)(hz:∀v∈L,∀j,j<c->v j=0)(h1:c<=n)(h2:n<c+L.length):Ac L w (Tk n m)=0:=by
 have e:Tk n m=jo c true++(jo (n-c) true++jo (m-n) false):=by
  unfold Tk;rw[<-List.append_assoc,oy];congr 2; omega
 obtain⟨x,hx⟩:=aj c L w (jo (n-c) true++jo (m-n) false) hz;rw[e,hx,b7 _ _ 0 (λT hT=>by omega)]
 ·grind
 ·simp[Cg,pR]; omega
def Ab(B x:Rat):Prop:=-B<=x/\x<=B
theorem Ab.nn{B x:Rat}(h:Ab B x):0<=B:=by obtain⟨a,b⟩:=h; grind
theorem Ab.Ee{B C x y:Rat}(h:Ab B x)(g:Ab C y):Ab (B*C) (x*y):=by
 obtain⟨h1,h2⟩:=h;obtain⟨h3,h4⟩:=g;have a1:=mE (show 0<=B-x by grind) (show 0<=C+y by grind);have a2:=mE (show 0<=B+x by grind) (show 0<=C-y by grind);have a3:=mE (show 0<=B-x by grind) (show 0<=C-y by grind);have a4:=mE (show 0<=B+x by grind) (show 0<=C+y by grind);constructor <;> grind
theorem Ab.Di{B C x y:Rat}(h:Ab B x)(g:Ab C y):Ab (B+C) (x-y):=by
 obtain⟨h1,h2⟩:=h;obtain⟨h3,h4⟩:=g;constructor <;> grind
theorem Ab.le{B C x:Rat}(h:Ab B x)(g:B<=C):Ab C x:=by
 obtain⟨h1,h2⟩:=h;constructor <;> grind
theorem Ab.neg{B x:Rat}(h:Ab B x):Ab B (-1*x):=by
 obtain⟨h1,h2⟩:=h;constructor <;> grind
theorem PJ{V W:Rat}(S:List Bool):∀(v:AX) (w:Aw),(∀j,Ab V (v j))->(∀T:List Bool,T.length=S.length->Ab W (w T))->Ab ((S.length:Nat)*(V*W)) (wg v w S):=by
 induction S with
 | nil=>intro v w _ _; simp only[wg,mT]; constructor <;> grind
 | cons b S ih =>
  intro v w h g;have hW:=(g (b :: S) rfl).nn;have hV:=(h 0).nn;have hVW:=mE hV hW;have e:(((b :: S).length:Nat):Rat)=(S.length:Nat)+1:=by rw[ka]; grind
  cases b
  ·have:=ih (sh v) (BF w) (λj=>h (j+1)) (λT hT=>g _ (by simp[hT]))
   simp only[wg];refine this.le ?_;rw[e]; grind
  ·have h1:=ih (sh v) (at1 w) (λj=>h (j+1)) (λT hT=>g _ (by simp[hT]));have h2:=(h 0).Ee (g (false :: S) (by simp));simp only[wg];refine(h2.Di h1).le ?_;rw[e]; grind
def vr(r:List Int):AX:=λj=>((r.getD j 0:Int):Rat)
def Ct(row lead:List Int)(k:Nat)(p:Int):List Int:=qP (λx y=>(lead.getD k 0*x-row.getD k 0*y).fdiv p) row lead
structure P8(f:AX->Rat):Prop where
 Dh:∀u v:AX,f (λj=>u j+v j)=f u+f v
 Gd:∀(c:Rat) (v:AX),f (λj=>c*v j)=c*f v
structure Bi(B n m k:Nat)(A0:List AX)(top:List (List Int))(Z:List (List Int×AX))(p:Int)(w:Aw):Prop where
 Fq:top.length=k
 Ex:k+Z.length=n
 nm:n<=m
 Ik:∀r∈top,r.length=m
 Df:∀z∈Z,z.1.length=m
 pz:p≠0
 pl:ld k m w=p
 rel:∀z∈Z,∀S,p*wg z.2 w S=wg (vr z.1) w S
 Ef:∀z∈Z,∀j,j<k->vr z.1 j=0
 Hu:∀S,BM (w S)
 FG:∀z∈Z,∀j,BM (z.2 j)
 all:Ac (Z.map (·.2)) w=Ac A0 Ae
 Ez:∀i,i<k->(top.getD i []).getD i 0≠0/\∀j,j<i->(top.getD i []).getD j 0=0
 Ho:0<k->(top.getD (k-1) []).getD (k-1) 0=p
 Hx:∀z∈Z,∀j,Ab B (z.2 j)
 Hv:∀T,Ab ((T.length*B) ^ k:Nat) (w T)
 JE:∀r∈top,∀j,Ab ((m*B) ^ n:Nat) (vr r j)
 b1:1<=B
 LW:∀f,P8 f->(∀a∈A0,f a=0)->(∀r∈top,f (vr r)=0)/\∀z∈Z,f (vr z.1)=0
 Jw:∀f,P8 f->(∀r∈top,f (vr r)=0)->(∀z∈Z,f (vr z.1)=0)->∀a∈A0,f a=0
def ng(z:List Int×AX):List Int×AX:=(z.1.map (λx=>-x),λj=>(-1)*z.2 j)
theorem XH(r:List Int)(j:Nat):(r.map (λx=>-x)).getD j 0=- r.getD j 0:=by
 simp only[je,ji];cases r[j]? <;> simp
theorem MH(r:List Int):vr (r.map (λx=>-x))=λj=>(-1)*vr r j:=by
 funext j; simp only[vr,XH]; grind
theorem Bi.iR {B0 n m k:Nat} {A0:List AX} {top:List (List Int)} {f z:List Int×AX} {P Q:List (List Int×AX)} {p:Int} {w:Aw}
  (B:Bi B0 n m k A0 top (f :: P++z :: Q) p w):Bi B0 n m k A0 top (z :: P++ng f :: Q) p w:=by
 have hf:f∈f :: P++z :: Q:=by simp
 have hm:∀y∈z :: P++ng f :: Q,y∈f :: P++z :: Q\/y=ng f:=by
  intro y hy; simp at hy ⊢; grind
 refine { Fq:=B.Fq,Ex:=?_,nm:=B.nm,Ik:=B.Ik,Df:=?_,pz:=B.pz,pl:=B.pl,rel:=?_,Ef:=?_,Hu:=B.Hu,FG:=?_,all:=?_,Ez:=B.Ez,Ho:=B.Ho,Hx:=?_,Hv:=B.Hv,JE:=B.JE,b1:=B.b1,LW:=?_,Jw:=?_ }
 ·have:=B.Ex; simp at this ⊢; omega
 ·intro y hy; rcases hm y hy with h | h
  ·exact B.Df y h
  ·subst h; simp[ng]; exact B.Df f hf
 ·intro y hy S; rcases hm y hy with h | h
  ·exact B.rel y h S
  ·subst h
   have:=B.rel f hf S
   simp only[ng,MH];rw[Gv,Gv]; grind
 ·intro y hy j hj; rcases hm y hy with h | h
  ·exact B.Ef y h j hj
  ·subst h
   have:=B.Ef f hf j hj
   simp only[ng,MH]; grind
 ·intro y hy j; rcases hm y hy with h | h
  ·exact B.FG y h j
  ·subst h; exact(BM.of (-1)).Ee (B.FG f hf j)
 ·rw[<-B.all]
  funext S
  simp only[jH,jx,ng];have h1:=Xa (z.2 :: P.map (·.2)) (Q.map (·.2)) (-1) f.2 w S;have h2:=ZR [] (P.map (·.2)) (Q.map (·.2)) z.2 f.2 w S;simp only[pK] at h2;rw[h1,h2]; grind
 ·intro y hy j; rcases hm y hy with h | h
  ·exact B.Hx y h j
  ·subst h; exact(B.Hx f hf j).neg
 ·intro g hg h0
  have:=B.LW g hg h0
  refine⟨this.1,λy hy=>?_⟩;rcases hm y hy with h | h
  ·exact this.2 y h
  ·subst h; simp only[ng,MH]; rw[hg.Gd,this.2 f hf]; grind
 ·intro g hg h1 h2;refine B.Jw g hg h1 λy hy=>?_
  have hf2:=h2 (ng f) (by simp);simp only[ng,MH] at hf2;rw[hg.Gd] at hf2;simp only[nz,jK,jI] at hy;rcases hy with h | h | h | h
  ·subst h; grind
  ·exact h2 y (by simp[h])
  ·subst h; exact h2 y (by simp)
  ·exact h2 y (by simp[h])
theorem Uq{p:Rat}{a b z r:AX}{w:Aw}(hp:p≠0)(ha:∀S,p*wg a w S=wg r w S)(hb:∀S,p*wg b w S=wg z w S)(S:List Bool):
  p*wg a (wg b w) S=wg r (wg b w) S:=by
 have h1:wg a (wg z w) S=p*wg a (wg b w) S:=by
  have:wg z w=λT=>p*wg b w T:=by funext T; exact(hb T).symm
  rw[this,E9]
 have h2:wg z (wg r w) S=p*wg z (wg a w) S:=by
  have:wg r w=λT=>p*wg a w T:=by funext T; exact(ha T).symm
  rw[this,E9]
 have h3:wg r (wg z w) S=p*wg r (wg b w) S:=by
  have:wg z w=λT=>p*wg b w T:=by funext T; exact(hb T).symm
  rw[this,E9]
 have h4:=Kf a z w S;have h5:=Kf z r w S
 have:p*(p*wg a (wg b w) S)=p*wg r (wg b w) S:=by grind
 grind
theorem cE{p:Rat}{b z:AX}{w:Aw}(hb:∀S,p*wg b w S=wg z w S)(S:List Bool):wg z (wg b w) S=0:=by
 rw[Kf]
 have:wg z w=λT=>p*wg b w T:=by funext T; exact(hb T).symm
 rw[this,E9,Ju]; grind
theorem Lz{row lead:List Int}{k m:Nat}{p:Int}(h1:row.length=m)(h2:lead.length=m):(Ct row lead k p).length=m:=by
 simp[Ct,h1,h2]
theorem cF{row lead:List Int}{k m:Nat}{p:Int}(h1:row.length=m)(h2:lead.length=m)(j:Nat):
  (Ct row lead k p).getD j 0=(lead.getD k 0*row.getD j 0-row.getD k 0*lead.getD j 0).fdiv p:=by
 by_cases hj:j<m
 ·have a1:row.getD j 0=row[j]:=by rw[je,jb (by omega)]; rfl
  have a2:lead.getD j 0=lead[j]:=by rw[je,jb (by omega)]; rfl
  have hl:j<(Ct row lead k p).length:=by rw[Lz h1 h2]; exact hj
  rw[a1,a2,je,jb hl];simp[Ct]
 ·have o:∀l:List Int,l.length=m->l.getD j 0=0:=by
   intro l hl;rw[je,kW (by omega)]; rfl
  rw[o _ (Lz h1 h2),o row h1,o lead h2];simp
theorem Xu{r:List Int}{j:Nat}(h:vr r j=0):r.getD j 0=0:=by
 simp only[vr] at h; exact_mod_cast h
theorem Qh {m k:Nat} {a b:AX} {r z:List Int} {p:Int} {w:Aw} (hk:k<m) (hr:r.length=m) (hzl:z.length=m) (hp:p≠0) (hpl:ld k m w=p)
  (ha:∀S,(p:Rat)*wg a w S=wg (vr r) w S) (hb:∀S,(p:Rat)*wg b w S=wg (vr z) w S) (zr:∀j,j<k->vr r j=0) (zz:∀j,j<k->vr z j=0)
  (hq:z.getD k 0≠0) (iw:∀S,BM (w S)) (ia:∀j,BM (a j)) (ib:∀j,BM (b j)) :
  ld (k+1) m (wg b w)=z.getD k 0/\(∀j,(p:Rat)*vr (Ct r z k p) j=(z.getD k 0:Int)*vr r j-(r.getD k 0:Int)*vr z j) /\
  (∀S,((z.getD k 0:Int):Rat)*wg a (wg b w) S=wg (vr (Ct r z k p)) (wg b w) S)/\∀j,j<k+1->vr (Ct r z k p) j=0:=by
 have hp':(p:Rat)≠0:=by exact_mod_cast hp
 have hq':((z.getD k 0:Int):Rat)≠0:=by exact_mod_cast hq
 have l1:ld (k+1) m (wg b w)=z.getD k 0:=by
  have h1:=eG w zz hk;have h2:ld (k+1) m (wg (vr z) w)=p*ld (k+1) m (wg b w):=by
   unfold ld; rw[<-hb]; grind
  rw[h2,hpl] at h1
  have:vr z k=((z.getD k 0:Int):Rat):=rfl
  rw[this] at h1; grind
 let M:AX:=λj=>((z.getD k 0:Int):Rat)*vr r j+(-((r.getD k 0:Int):Rat))*vr z j
 have hM:∀S,wg M (wg b w) S=((z.getD k 0:Int):Rat)*(p*wg a (wg b w) S):=by
  intro S;have e:=KS S (λj=>((z.getD k 0:Int):Rat)*vr r j) (λj=>(-((r.getD k 0:Int):Rat))*vr z j) (wg b w);rw[Gv,Gv,cE hb S,<-Uq hp' ha hb S] at e;show wg M (wg b w) S=_;rw[show M=λj=>((z.getD k 0:Int):Rat)*vr r j+(-((r.getD k 0:Int):Rat))*vr z j from rfl,e]; grind
 have zM:∀j,j<k+1->M j=0:=by
  intro j hj;show((z.getD k 0:Int):Rat)*vr r j+(-((r.getD k 0:Int):Rat))*vr z j=0;rcases j6 j k with h | h
  ·rw[zr j h,zz j h]; grind
  ·have:j=k:=by omega
   subst this;show((z.getD j 0:Int):Rat)*((r.getD j 0:Int):Rat)+(-((r.getD j 0:Int):Rat))*((z.getD j 0:Int):Rat)=0
   grind
 have dv:∀j,∃c:Int,M j=p*c:=by
  intro j;rcases j6 j (k+1) with h | h
  ·exact⟨0,by rw[zM j h]; grind⟩
  ·rcases j6 j m with h2 | h2
   ·have h3:=PX (v:=M) (wg b w) zM h h2;rw[hM] at h3;obtain⟨c,hc⟩:=ML (Sj (k+1) j m) a (wg b w) ia (λT=>ML T b w ib iw);have h4:wg b w (Tk (k+1) m)=B8 (k+1)*((z.getD k 0:Int):Rat):=by
     have:=Ji (k+1)
     rw[<-l1]; unfold ld; grind
    rw[h4] at h3;have h5:=Ji (k+1);have h6:=IV (k+1);have ht:BM (sg (k+1)*B8 (k+1)):=by
     have i1:∀c,BM (sg c):=by intro c; unfold sg; split; exact⟨1,rfl⟩; exact⟨-1,rfl⟩
     have i2:∀c,BM (B8 c):=by
      intro c; induction c with
      | zero=>exact⟨1,rfl⟩
      | succ c ih=>exact ih.Ee (i1 c)
     exact(i1 _).Ee (i2 _)
    obtain⟨t,ht⟩:=ht;refine⟨t*c,?_⟩;rw[hc] at h3
    have:M j=sg (k+1)*B8 (k+1)*(p*c):=by
     have:((z.getD k 0:Int):Rat)*(M j)=((z.getD k 0:Int):Rat)*(sg (k+1)*B8 (k+1)*(p*c)):=by grind
     grind
    rw[this,ht]; grind
   ·refine⟨0,?_⟩;show((z.getD k 0:Int):Rat)*vr r j+(-((r.getD k 0:Int):Rat))*vr z j=_;have e1:r.getD j 0=0:=by rw[je,kW (by omega)]; rfl
    have e2:z.getD j 0=0:=by rw[je,kW (by omega)]; rfl
    simp only[vr,e1,e2]; grind
 have ex:∀j,(p:Rat)*vr (Ct r z k p) j=M j:=by
  intro j;obtain⟨c,hc⟩:=dv j;have hMi:M j=((z.getD k 0*r.getD j 0-r.getD k 0*z.getD j 0:Int):Rat):=by
   show((z.getD k 0:Int):Rat)*((r.getD j 0:Int):Rat)+(-((r.getD k 0:Int):Rat))*((z.getD j 0:Int):Rat)=_
   grind
  have hi:z.getD k 0*r.getD j 0-r.getD k 0*z.getD j 0=p*c:=by
   rw[hMi] at hc; exact_mod_cast hc
  simp only[vr];rw[cF hr hzl,hi,hc,lE (vK p c),oh _ hp]
 have eN:(λj=>(p:Rat)*vr (Ct r z k p) j)=M:=funext ex;refine⟨l1,?_,?_,?_⟩
 ·intro j; rw[ex j];show((z.getD k 0:Int):Rat)*vr r j+(-((r.getD k 0:Int):Rat))*vr z j=_
  grind
 ·intro S;have h:=hM S;rw[<-eN,Gv] at h
  grind
 ·intro j hj;have h:=ex j;rw[zM j hj] at h
  grind
theorem Bi.W6 {B0 n m k:Nat} {A0:List AX} {top:List (List Int)} {Z:List (List Int×AX)} {p:Int} {w:Aw} (B:Bi B0 n m k A0 top Z p w)
  {z:List Int×AX} (hz:z∈Z) (j:Nat):Ab ((m*B0) ^ (k+1):Nat) (vr z.1 j):=by
 have nnr:∀a:Nat,(0:Rat)<=(a:Rat):=λa=>by exact_mod_cast kH a
 have z0:Ab ((m*B0) ^ (k+1):Nat) (0:Rat):=by have:=nnr ((m*B0) ^ (k+1)); constructor <;> grind
 have hkn:=B.Ex;have hnm:=B.nm;have hl:0<Z.length:=mD hz;rcases j6 j k with h | h
 ·rw[B.Ef z hz j h]; exact z0
 ·rcases j6 j m with h2 | h2
  ·have e:=PX (v:=vr z.1) w (B.Ef z hz) h h2;rw[<-B.rel z hz] at e;have hp:(p:Rat)≠0:=by have:=B.pz; exact_mod_cast this
   have ht:w (Tk k m)=B8 k*p:=by
    have:=Ji k
    have:=B.pl
    unfold ld at this; grind
   rw[ht] at e;have e2:vr z.1 j=sg k*B8 k*wg z.2 w (Sj k j m):=by
    have h5:=Ji k;have h6:=IV k
    have:p*(vr z.1 j)=p*(sg k*B8 k*wg z.2 w (Sj k j m)):=by grind
    grind
   have ls:(Sj k j m).length=m:=by unfold Sj; simp; omega
   have bd:=PJ (V:=(B0:Nat)) (W:=((m*B0) ^ k:Nat)) (Sj k j m) z.2 w (B.Hx z hz) (λT hT=>by have:=B.Hv T; rw[hT,ls] at this; exact this);rw[ls] at bd;have eb:((m:Nat):Rat)*(((B0:Nat):Rat)*(((m*B0) ^ k:Nat):Rat))=(((m*B0) ^ (k+1):Nat):Rat):=by
    rw[nK]
    have:m*(B0*(m*B0) ^ k)=(m*B0) ^ k*(m*B0):=by rw[<-Nat.mul_assoc,pU]
    rw[<-this]; simp[oN]
   rw[eb] at bd;rw[e2];have s1:∀c,sg c=1\/sg c=-1:=by intro c; unfold sg; split; exact .inl rfl; exact .inr rfl
   have s2:∀c,B8 c=1\/B8 c=-1:=by
    intro c; induction c with
    | zero=>exact .inl rfl
    | succ c ih =>
     simp only[B8];rcases ih with a | a <;> rcases s1 c with b | b <;> rw[a,b] <;> grind
   rcases s1 k with a | a <;> rcases s2 k with b | b <;> rw[a,b]
   ·simpa using bd
   ·have:=bd.neg; simpa using this
   ·have:=bd.neg; simpa using this
   ·rw[show(-1:Rat) * -1*wg z.2 w (Sj k j m)=wg z.2 w (Sj k j m) by grind]; exact bd
  ·have e1:z.1.getD j 0=0:=by rw[je,kW (by rw[B.Df z hz]; omega)]; rfl
   have:vr z.1 j=0:=by simp only[vr,e1]; rfl
   rw[this]; exact z0
theorem VD{a i n:Nat}(h:1<=a)(hi:i<=n):a ^ i<=a ^ n:=kM h hi
theorem Bi.step {B0 n m k:Nat} {A0:List AX} {top:List (List Int)} {z:List Int×AX} {Z:List (List Int×AX)} {p:Int} {w:Aw}
  (B:Bi B0 n m k A0 top (z :: Z) p w) (hq:z.1.getD k 0≠0) :
  Bi B0 n m (k+1) A0 (top++[z.1]) (Z.map λy=>(Ct y.1 z.1 k p,y.2)) (z.1.getD k 0) (wg z.2 w):=by
 have hkn:=B.Ex;have hnm:=B.nm;simp at hkn;have hkm:k<m:=by omega
 have hz:z∈z :: Z:=by simp
 have key:∀y∈Z,_:=λy hy=>Qh hkm (B.Df y (by simp[hy])) (B.Df z hz) B.pz B.pl (B.rel y (by simp[hy])) (B.rel z hz) (B.Ef y (by simp[hy])) (B.Ef z hz) hq B.Hu (B.FG y (by simp[hy])) (B.FG z hz)
 have l1:=(Qh hkm (B.Df z hz) (B.Df z hz) B.pz B.pl (B.rel z hz) (B.rel z hz) (B.Ef z hz) (B.Ef z hz) hq B.Hu (B.FG z hz) (B.FG z hz)).1;have hp':(p:Rat)≠0:=by have:=B.pz; exact_mod_cast this
 have hlT:=B.Fq;refine { Fq:=by simp[B.Fq],Ex:=by simp; omega,nm:=B.nm,Ik:=?_,Df:=?_,pz:=hq,pl:=l1,rel:=?_,Ef:=?_,Hu:=λS=>ML S z.2 w (B.FG z hz) B.Hu,FG:=?_,all:=?_,Ez:=?_,Ho:=?_,Hx:=?_,Hv:=?_,JE:=?_,b1:=B.b1,LW:=?_,Jw:=?_ }
 ·intro r hr; simp at hr; rcases hr with h | h
  ·exact B.Ik r h
  ·subst h; exact B.Df z hz
 ·intro y hy; simp at hy; obtain⟨a,b,hab,rfl⟩:=hy;exact Lz (B.Df (a,b) (by simp[hab])) (B.Df z hz)
 ·intro y hy S; simp at hy; obtain⟨a,b,hab,rfl⟩:=hy;exact(key (a,b) hab).2.2.1 S
 ·intro y hy; simp at hy; obtain⟨a,b,hab,rfl⟩:=hy;exact(key (a,b) hab).2.2.2
 ·intro y hy; simp at hy; obtain⟨a,b,hab,rfl⟩:=hy;exact B.FG (a,b) (by simp[hab])
 ·rw[<-B.all]; simp[Ac,qi]
 ·intro i hi;rcases j6 i k with h | h
  ·have:(top++[z.1]).getD i []=top.getD i []:=by
    rw[je,je,jM (by omega)]
   rw[this]; exact B.Ez i h
  ·have:i=k:=by omega
   subst this
   have:(top++[z.1]).getD i []=z.1:=by
    rw[je,jy (by omega),hlT]; simp
   rw[this];exact⟨hq,λj hj=>Xu (B.Ef z hz j hj)⟩
 ·intro _
  have:(top++[z.1]).getD (k+1-1) []=z.1:=by
   rw[je,jy (by omega)]; simp[hlT]
  rw[this]; rfl
 ·intro y hy; simp at hy; obtain⟨a,b,hab,rfl⟩:=hy;exact B.Hx (a,b) (by simp[hab])
 ·intro T;have bd:=PJ (V:=(B0:Nat)) (W:=((T.length*B0) ^ k:Nat)) T z.2 w (B.Hx z hz) (λU hU=>by have:=B.Hv U; rw[hU] at this; exact this);have eb:((T.length:Nat):Rat)*(((B0:Nat):Rat)*(((T.length*B0) ^ k:Nat):Rat))=(((T.length*B0) ^ (k+1):Nat):Rat):=by
   rw[nK]
   have:T.length*(B0*(T.length*B0) ^ k)=(T.length*B0) ^ k*(T.length*B0):=by rw[<-Nat.mul_assoc,pU]
   rw[<-this]; simp[oN]
  rw[eb] at bd;exact bd
 ·intro r hr j; simp at hr; rcases hr with h | h
  ·exact B.JE r h j
  ·subst h;refine(B.W6 hz j).le ?_
   have:=B.b1
   have h1:1<=m*B0:=v5 (by omega) (by omega)
   exact_mod_cast VD h1 (by omega)
 ·intro f hf h0;have hl:=B.LW f hf h0;refine⟨?_,?_⟩
  ·intro r hr; simp at hr; rcases hr with h | h
   ·exact hl.1 r h
   ·subst h; exact hl.2 z hz
  ·intro y hy; simp at hy; obtain⟨a,b,hab,rfl⟩:=hy;have h1:=(key (a,b) hab).2.1;have e:(λj=>(p:Rat)*vr (Ct a z.1 k p) j)=λj=>(λj=>((z.1.getD k 0:Int):Rat)*vr a j) j+(λj=>(-((a.getD k 0:Int):Rat))*vr z.1 j) j:=by
    funext j; rw[h1 j]; grind
   have h2:=congrArg f e;rw[hf.Gd,hf.Dh,hf.Gd,hf.Gd,hl.2 z hz,hl.2 (a,b) (by simp[hab])] at h2
   grind
 ·intro f hf h1 h2;have fz:f (vr z.1)=0:=h1 z.1 (by simp);have hq':((z.1.getD k 0:Int):Rat)≠0:=by exact_mod_cast hq
  refine B.Jw f hf (λr hr=>h1 r (by simp[hr])) λy hy=>?_
  rcases jK.mp hy with h | h
  ·subst h; exact fz
  ·have e1:=(key y h).2.1;have e:(λj=>(p:Rat)*vr (Ct y.1 z.1 k p) j)=λj=>(λj=>((z.1.getD k 0:Int):Rat)*vr y.1 j) j+(λj=>(-((y.1.getD k 0:Int):Rat))*vr z.1 j) j:=by
    funext j; rw[e1 j]; grind
   have h3:=congrArg f e;rw[hf.Gd,hf.Dh,hf.Gd,hf.Gd,fz,h2 _ (rj h)] at h3
   grind
theorem bX(Z:List (List Int×AX)):∀{p:Rat} {w:Aw},p≠0->(∀z∈Z,∀S,p*wg z.2 w S=wg (vr z.1) w S) →
  ∃c:Rat,c≠0/\∀S,c*Ac (Z.map (·.2)) w S=Ac (Z.map (λz=>vr z.1)) w S:=by
 induction Z with
 | nil=>intro p w _ _; exact⟨1,by grind,λS=>by simp[Ac]⟩
 | cons z Z ih =>
  intro p w hp h;obtain⟨c,hc,hS⟩:=ih (p:=p) (w:=wg z.2 w) hp (λy hy S=>Uq hp (h y (by simp[hy])) (h z (by simp)) S);refine⟨p*c,by grind,λS=>?_⟩;simp only[jx,Ac];have e:wg (vr z.1) w=λT=>p*wg z.2 w T:=by funext T; exact(h z (by simp) T).symm
  rw[e,G0];simp only[];rw[<-hS]; grind
theorem Bi.none {B0 n m k:Nat} {A0:List AX} {top:List (List Int)} {Z:List (List Int×AX)} {p:Int} {w:Aw}
  (B:Bi B0 n m k A0 top Z p w) (hkn:k<n) (h0:∀z∈Z,z.1.getD k 0=0):ld n m (Ac A0 Ae)=0:=by
 have hp':(p:Rat)≠0:=by have:=B.pz; exact_mod_cast this
 obtain⟨c,hc,hS⟩:=bX Z hp' B.rel;have h:=bU (c:=k+1) (n:=n) (m:=m) (L:=Z.map (λz=>vr z.1)) w ?_ (by omega) (by have:=B.Ex; simp; omega)
 ·rw[<-hS,B.all] at h;unfold ld; grind
 ·intro v hv j hj;rw[js] at hv;obtain⟨z,hz,rfl⟩:=hv;rcases j6 j k with h | h
  ·exact B.Ef _ hz j h
  ·have:j=k:=by omega
   subst this
   have:=h0 _ hz
   simp only[vr]; rw[this]; rfl
theorem Bi.iy{B0 n m:Nat}{R:List (List Int)}(hb1:1<=B0)(hb:∀r∈R,∀j,Ab B0 (vr r j))(h1:R.length=n)(h2:n<=m)(h3:∀r∈R,r.length=m):
  Bi B0 n m 0 (R.map vr) [] (R.map λr=>(r,vr r)) 1 Ae:=by
 refine { Fq:=rfl,Ex:=by simp[h1],nm:=h2,Ik:=by simp,Df:=?_,pz:=by omega,pl:=?_,rel:=?_,Ef:=by intro _ _ j hj; omega,Hu:=ON,FG:=?_,all:=?_,Ez:=by intro i hi; omega,Ho:=by intro h; omega,Hx:=?_,Hv:=?_,JE:=by simp,b1:=hb1,LW:=?_,Jw:=?_ }
 ·intro z hz; simp at hz; obtain⟨a,ha,rfl⟩:=hz; exact h3 a ha
 ·rw[O0]; rfl
 ·intro z hz S; simp at hz; obtain⟨a,ha,rfl⟩:=hz; simp only[]; grind
 ·intro z hz j; simp at hz; obtain⟨a,ha,rfl⟩:=hz; exact⟨_,rfl⟩
 ·simp[qi]
 ·intro z hz j; simp at hz; obtain⟨a,ha,rfl⟩:=hz; exact hb a ha j
 ·intro T
  have:Ae T=1\/Ae T=0:=by
   induction T with
   | nil=>exact .inl rfl
   | cons b T ih=>cases b; exact ih; exact .inr rfl
  rw[vm];rcases this with h | h <;> rw[h] <;> constructor <;> grind
 ·intro f hf h0; refine⟨by simp,?_⟩;intro z hz; simp at hz; obtain⟨a,ha,rfl⟩:=hz; exact h0 _ (rj ha)
 ·intro f hf h1 h2 a ha;obtain⟨r,hr,rfl⟩:=js.mp ha;exact h2 (r,vr r) (js.mpr ⟨r,hr,rfl⟩)
theorem Bi.fin {B0 n m:Nat} {A0:List AX} {top:List (List Int)} {Z:List (List Int×AX)} {p:Int} {w:Aw}
  (B:Bi B0 n m n A0 top Z p w):Z=[]/\ld n m (Ac A0 Ae)=p:=by
 have:Z=[]:=by have:=B.Ex; exact mf.mp (by omega)
 subst this;refine⟨rfl,?_⟩;rw[<-B.all]; exact B.pl
end Wd
namespace Mth
theorem FY(t b : Int)(h : b ≠ 0): BS t b = (((t : Rat) / (b : Rat)).num, (((t : Rat) / (b : Rat)).den : Int)) := by
  have g := Y4 t b h;have p := Rh t b h;have c := QS t b;generalize (BS t b) = x at *;obtain⟨n, d⟩ := x;simp only at g p c;have hd : d = (d.toNat : Int) := by omega
  have hn : d.toNat ≠ 0 := by omega
  have hc : n.natAbs.Coprime d.toNat := by
    have : kL n d = n.natAbs.gcd d.toNat := by rw[kL]; congr 1; omega
    unfold rH; rw[<- this]; exact g
  let r : Rat := ⟨n, d.toNat, hn, hc⟩
  have hr : r * (d : Rat) = n := by
    have h1 : r = (n : Rat) / ((d.toNat : Nat) : Rat) := by
      have := pZ r;rw[<- this, qp]; rfl
    have h2 : ((d.toNat : Nat) : Rat) = (d : Rat) := by
      have : ((d.toNat : Nat) : Rat) = (((d.toNat : Nat) : Int) : Rat) := rfl;rw[this, <- hd]
    have h3 : (d : Rat) ≠ 0 := by have : d ≠ 0 := by omega
                                  exact_mod_cast this
    rw[h1, h2]; grind
  have hb : (b : Rat) ≠ 0 := by exact_mod_cast h
  have hd0 : (d : Rat) ≠ 0 := by have : d ≠ 0 := by omega
                                 exact_mod_cast this
  have cr : (n : Rat) * b = t * d := by exact_mod_cast c
  have e : (t : Rat) / (b : Rat) = r := by grind
  rw[e];show(n, d) = (n, ((d.toNat : Nat) : Int));rw[<- hd]
def fr(q:Rat):Int×Int:=(q.num,q.den)
theorem Fb(q:Rat):q*((q.den:Nat):Rat)=q.num:=by
 have h1:=pZ q;rw[qp] at h1
 have:((q.den:Nat):Rat)≠0:=by exact_mod_cast q.den_nz
 have h2:(((q.den:Nat):Int):Rat)=((q.den:Nat):Rat):=rfl;rw[h2] at h1
 grind
theorem JJ(q:Rat):((q.den:Nat):Rat)≠0:=by exact_mod_cast q.den_nz
theorem ic(n:Nat):(((n:Nat):Int):Rat)=((n:Nat):Rat):=rfl
theorem Uv(p q:Rat):BS (p.num*q.den+q.num*p.den) (p.den*q.den)=fr (p+q):=by
 have hp:=p.den_nz;have hq:=q.den_nz;have h:((p.den:Int)*(q.den:Int))≠0:=mH (by omega) (by omega);rw[FY _ _ h];have e:(((p.num*q.den+q.num*p.den:Int)):Rat) / (((p.den:Int)*(q.den:Int):Int):Rat)=p+q:=by
  have:=Fb p; have:=Fb q; have:=JJ p; have:=JJ q
  simp only[tX,kC,ic]
  grind
 rw[e]; rfl
theorem Om(p q:Rat):BS (p.num*q.den-q.num*p.den) (p.den*q.den)=fr (p-q):=by
 have hp:=p.den_nz;have hq:=q.den_nz;have h:((p.den:Int)*(q.den:Int))≠0:=mH (by omega) (by omega);rw[FY _ _ h];have e:(((p.num*q.den-q.num*p.den:Int)):Rat) / (((p.den:Int)*(q.den:Int):Int):Rat)=p-q:=by
  have:=Fb p; have:=Fb q; have:=JJ p; have:=JJ q
  simp only[qT,kC,ic]
  grind
 rw[e]; rfl
theorem Oy(p q:Rat):BS (p.num*q.num) (p.den*q.den)=fr (p*q):=by
 have hp:=p.den_nz;have hq:=q.den_nz;have h:((p.den:Int)*(q.den:Int))≠0:=mH (by omega) (by omega);rw[FY _ _ h];have e:(((p.num*q.num:Int)):Rat) / (((p.den:Int)*(q.den:Int):Int):Rat)=p*q:=by
  have:=Fb p; have:=Fb q; have:=JJ p; have:=JJ q
  simp only[kC,ic]
  grind
 rw[e]; rfl
def Sb(n d:Nat)(q:Rat):Prop:=q.num.natAbs<=2 ^ n/\q.den<=2 ^ d
theorem aV{t b:Int}(h:b≠0):(BS t b).1.natAbs<=t.natAbs/\(BS t b).2.natAbs<=b.natAbs:=by
 have h1:=MF t b;have h2:=Ks t b;have h3:=Km t b h;have a1:t.natAbs=(BS t b).1.natAbs*(part t b).natAbs:=by rw[<-Int.natAbs_mul,h1]
 have a2:b.natAbs=(BS t b).2.natAbs*(part t b).natAbs:=by rw[<-Int.natAbs_mul,h2]
 have a3:1<=(part t b).natAbs:=by omega
 rw[a1,a2];exact⟨oC _ a3,oC _ a3⟩
theorem MX{t b:Int}{n d:Nat}(h:b≠0)(h1:t.natAbs<=2 ^ n)(h2:b.natAbs<=2 ^ d){q:Rat}(e:BS t b=fr q):Sb n d q:=by
 have:=aV (t:=t) h
 rw[e] at this;simp only[fr,j9] at this;exact⟨by omega,by omega⟩
theorem DB{a b m n:Nat}(h:a<=2 ^ m)(g:b<=2 ^ n):a*b<=2 ^ (m+n):=by rw[pH]; exact Nat.mul_le_mul h g
theorem KH(p q:Rat):((p.den:Int)*(q.den:Int))≠0:=by
 have hp:=p.den_nz;have hq:=q.den_nz;exact mH (by omega) (by omega)
theorem Sb.Ee{n d n' d':Nat}{p q:Rat}(h:Sb n d p)(g:Sb n' d' q):Sb (n+n') (d+d') (p*q):=by
 refine MX (KH p q) ?_ ?_ (Oy p q)
 ·rw[kn]; exact DB h.1 g.1
 ·rw[kn,j9,j9]; exact DB h.2 g.2
theorem Sb.Dh{n d n' d' N:Nat}{p q:Rat}(h:Sb n d p)(g:Sb n' d' q)(h1:n+d'<=N)(h2:n' + d<=N):Sb (N+1) (d+d') (p+q):=by
 refine MX (KH p q) ?_ ?_ (Uv p q)
 ·have a1:(p.num*q.den).natAbs<=2 ^ N:=by
   rw[kn,j9];exact jW (DB h.1 g.2) (kM (by decide) h1)
  have a2:(q.num*p.den).natAbs<=2 ^ N:=by
   rw[kn,j9];exact jW (DB g.1 h.2) (kM (by decide) h2)
  have:=vL (p.num*q.den) (q.num*p.den)
  rw[nK]; omega
 ·rw[kn,j9,j9]; exact DB h.2 g.2
theorem Sb.Di{n d n' d' N:Nat}{p q:Rat}(h:Sb n d p)(g:Sb n' d' q)(h1:n+d'<=N)(h2:n' + d<=N):Sb (N+1) (d+d') (p-q):=by
 refine MX (KH p q) ?_ ?_ (Om p q)
 ·have a1:(p.num*q.den).natAbs<=2 ^ N:=by
   rw[kn,j9];exact jW (DB h.1 g.2) (kM (by decide) h1)
  have a2:(q.num*p.den).natAbs<=2 ^ N:=by
   rw[kn,j9];exact jW (DB g.1 h.2) (kM (by decide) h2)
  have:=qk (p.num*q.den) (q.num*p.den)
  rw[nK]; omega
 ·rw[kn,j9,j9]; exact DB h.2 g.2
theorem Sb.mono{n d n' d':Nat}{p:Rat}(h:Sb n d p)(h1:n<=n')(h2:d<=d'):Sb n' d' p :=
 ⟨jW h.1 (kM (by decide) h1),jW h.2 (kM (by decide) h2)⟩
theorem Sb.zero:Sb 0 0 0:=by constructor <;> decide
theorem Sb.Ae:Sb 0 0 1:=by constructor <;> decide
def DM(c:Int)(q:Rat):Int:=c.fdiv (kL c q.den:Int)*q.den
def cb(r:List Rat):Int:=r.foldl DM 1
theorem T6{c:Int}(h:0<c)(q:Rat):0<DM c q/\c ∣ DM c q/\(q.den:Int) ∣ DM c q/\DM c q<=c*q.den:=by
 have hq:=q.den_nz;have hg:0<kL c q.den:=o6 _ (by omega);obtain⟨x,hx⟩:=o7 c (q.den:Int);obtain⟨y,hy⟩:=oR c (q.den:Int);generalize hG:kL c (q.den:Int)=G at *;have hG0:(G:Int)≠0:=by omega
 have e:c.fdiv (G:Int)=x:=by
  rw[lE ⟨x,hx⟩]
  conv=>lhs; rw[hx]
  rw[oh _ hG0]
 have hx0:0<x:=by
  rcases oU 0 x with h' | h'
  ·exact h'
  ·have:(G:Int)*x<=0:=Int.mul_nonpos_of_nonneg_of_nonpos (by omega) h'
   omega
 have hq0:(0:Int)<q.den:=by omega
 unfold DM;rw[hG,e];refine⟨rG hx0 hq0,⟨y,?_⟩,⟨x,Int.mul_comm _ _⟩,?_⟩
 ·conv=>lhs; rw[hy]
  conv=>rhs; rw[hx]
  rw[Int.mul_left_comm,xh]
 ·refine qK ?_ (by omega)
  have:1*x<=(G:Int)*x:=qK (by omega) (by omega)
  omega
theorem VT(r:List Rat):∀{c:Int} {D d:Nat},0<c->c.natAbs<=2 ^ D->(∀q∈r,q.den<=2 ^ d) →
  0<r.foldl DM c/\c ∣ r.foldl DM c/\(∀q∈r,(q.den:Int) ∣ r.foldl DM c)/\(r.foldl DM c).natAbs<=2 ^ (D+d*r.length):=by
 induction r with
 | nil=>intro c D d h g _; exact⟨h,Int.dvd_refl _,by simp,by simpa using g⟩
 | cons q r ih =>
  intro c D d h g hd;obtain⟨a1,a2,a3,a4⟩:=T6 h q;have hq:=hd q (by simp);have a5:(DM c q).natAbs<=2 ^ (D+d):=by
   have h5:(DM c q).natAbs<=c.natAbs*q.den:=by
    have e1:((c.natAbs*q.den:Nat):Int)=c*q.den:=by rw[wJ]; congr 1; omega
    omega
   exact jW h5 (DB g hq)
  obtain⟨b1,b2,b3,b4⟩:=ih (D:=D+d) (d:=d) a1 a5 (λp hp=>hd p (by simp[hp]));refine⟨b1,xg a2 b2,?_,?_⟩
  ·intro p hp;rcases jK.mp hp with rfl | hp
   ·exact xg a3 b2
   ·exact b3 p hp
  ·rw[ka,mw]
   have:D+(d*r.length+d)=D+d+d*r.length:=by omega
   rw[this]; exact b4
def wh(b:Int)(q:Rat):Int:=q.num*b.fdiv q.den
theorem Tp{b:Int}{q:Rat}(h:(q.den:Int) ∣ b):((wh b q:Int):Rat)=b*q:=by
 obtain⟨x,hx⟩:=h;have hq:=q.den_nz;have e:b.fdiv q.den=x:=by
  rw[lE ⟨x,hx⟩,hx,oh _ (by omega)]
 unfold wh;rw[e,hx]
 have:=Fb q
 simp only[kC,ic]
 grind
end Mth
namespace Wd
open Mth
def Jz(R:List (List Int))(k i:Nat):List (List Int):=if i=k then R else (R.set k (R.getD i [])).set i ((R.getD k []).map λx=>-x)
theorem Od{α:Type}(A B:List α)(x d:α){i:Nat}(h:A.length=i):(A++x :: B).getD i d=x:=by
 subst h;rw[je,jy (jj _)]; simp
theorem SG{α:Type}(A B:List α)(x y:α){i:Nat}(h:A.length=i):(A++x :: B).set i y=A++y :: B:=by
 subst h;rw[uw _ _ (jj _)]; simp
theorem Bi.iX {B0 n m k:Nat} {A0:List AX} {top:List (List Int)} {Z:List (List Int×AX)} {p:Int} {w:Aw} (B:Bi B0 n m k A0 top Z p w) {i:Nat} (h1:k<=i) (h2:i<n)
  (h3:((top++Z.map (·.1)).getD i []).getD k 0≠0):∃z Z',Bi B0 n m k A0 top (z :: Z') p w/\Jz (top++Z.map (·.1)) k i=top++z.1 :: Z'.map (·.1)/\z.1.getD k 0≠0:=by
 have hl:=B.Ex;have ht:=B.Fq;cases Z with
 | nil=>simp at hl; omega
 | cons f Zr =>
  by_cases hik:i=k
  ·subst hik;refine⟨f,Zr,B,?_,?_⟩
   ·unfold Jz; rw[jq rfl]; rfl
   ·rw[jx,Od _ _ _ _ ht] at h3; exact h3
  ·have hj:i-k-1<Zr.length:=by simp at hl; omega
   have e:Zr=Zr.take (i-k-1)++Zr[i-k-1] :: Zr.drop (i-k-1+1):=by rw[mC,lN]
   generalize Zr.take (i-k-1)=P0 at e;have hP0:(Zr.take (i-k-1)).length=i-k-1:=by simp; omega
   have hPl:P0.length=i-k-1:=by
    have:=congrArg m7 e
    simp at this; omega
   generalize Zr[i-k-1]=z at e;generalize Zr.drop (i-k-1+1)=Q at e;subst e;have B':Bi B0 n m k A0 top (f :: P0++z :: Q) p w:=B;have e1:top++tu (·.1) (f :: (P0++z :: Q))=(top++f.1 :: P0.map (·.1))++z.1 :: Q.map (·.1):=by simp
   have l1:(top++f.1 :: P0.map (·.1)).length=i:=by simp; omega
   have gi:(top++tu (·.1) (f :: (P0++z :: Q))).getD i []=z.1:=by rw[e1]; exact Od _ _ _ _ l1
   have gk:(top++tu (·.1) (f :: (P0++z :: Q))).getD k []=f.1:=by rw[jx]; exact Od _ _ _ _ ht
   refine⟨z,P0++ng f :: Q,B'.iR,?_,?_⟩
   ·unfold Jz;rw[jm hik,gi,gk,jx,SG _ _ _ _ ht];have e2:top++z.1 :: tu (·.1) (P0++z :: Q)=(top++z.1 :: P0.map (·.1))++z.1 :: Q.map (·.1):=by simp
    rw[e2,SG _ _ _ _ (by simp; omega)];simp[ng]
   ·rw[gi] at h3; exact h3
theorem Fm{N:Nat}{x:Int}(h:Ab ((N:Nat):Rat) ((x:Int):Rat)):x.natAbs<=N:=by
 obtain⟨h1,h2⟩:=h;have a:x<=(N:Int):=by
  have:((x:Int):Rat)<=(((N:Nat):Int):Rat):=h2
  exact_mod_cast this
 have b:-(N:Int)<=x:=by
  have:((-(N:Int):Int):Rat)<=((x:Int):Rat):=by rw[oM]; exact h1
  exact_mod_cast this
 omega
theorem IP{N:Nat}{x:Int}(h:x.natAbs<=N):Ab ((N:Nat):Rat) ((x:Int):Rat):=by
 have a:x<=(N:Int):=by omega
 have b:-(N:Int)<=x:=by omega
 constructor
 ·have:((-(N:Int):Int):Rat)<=((x:Int):Rat):=by exact_mod_cast b
  rw[oM] at this; exact this
 ·have:((x:Int):Rat)<=(((N:Nat):Int):Rat):=by exact_mod_cast a
  exact this
theorem mem_getD{r:List Int}{x:Int}(h:x∈r):∃j,r.getD j 0=x:=by
 obtain⟨j,hj,e⟩:=jP h;exact⟨j,by rw[je,jb hj]; exact e⟩
theorem RI{r:List Int}{N:Nat}(h:∀x∈r,x.natAbs<=N)(j:Nat):(r.getD j 0).natAbs<=N:=by
 rw[je];by_cases hj:j<r.length
 ·rw[jb hj]; exact h _ (kU hj)
 ·rw[kW (by omega)]; simp
def vq(r:List Rat):AX:=λj=>r.getD j 0
def dt(n m:Nat)(T:List (List Rat)):Rat:=ld n m (Ac (T.map vq) Ae)
theorem PU{b:Int}{r:List Rat}(h:∀q∈r,(q.den:Int) ∣ b):vr (r.map (wh b))=λj=>(b:Rat)*vq r j:=by
 funext j
 simp only[vr,vq,je,ji];cases e:r[j]? with
 | none=>simp
 | some q=>simp; exact Tp (h q (jd e))
def EW:List Int->Int
 | []=>1
 | b :: L=>b*EW L
theorem Xz(T:List (List Rat))(β:List Rat->Int)(h:∀r∈T,∀q∈r,(q.den:Int) ∣ β r):
  ∀w S,Ac (T.map λr=>vr (r.map (wh (β r)))) w S=((EW (T.map β):Int):Rat)*Ac (T.map vq) w S:=by
 induction T with
 | nil=>intro w S; simp[Ac,EW]
 | cons r T ih =>
  intro w S;simp only[jx,Ac,EW];rw[ih (λr' hr'=>h r' (by simp[hr']))];have e:wg (vr (r.map (wh (β r)))) w=λT=>((β r:Int):Rat)*wg (vq r) w T:=by
   funext T; rw[PU (h r (by simp))]; exact Gv T _ _ w
  rw[e,G0,kC]; grind
theorem Na{n m:Nat}(T:List (List Rat))(β:List Rat->Int)(h:∀r∈T,∀q∈r,(q.den:Int) ∣ β r):
  ld n m (Ac ((T.map λr=>r.map (wh (β r))).map vr) Ae)=((EW (T.map β):Int):Rat)*dt n m T:=by
 unfold dt ld;rw[kr]
 have:=Xz T β h Ae (Tk n m)
 have e:(vr ∘ λr:List Rat=>tu (wh (β r)) r)=λr:List Rat=>vr (r.map (wh (β r))):=rfl
 rw[e,this]
 grind
theorem Rb(L:List Int){d:Nat}:(∀b∈L,0<b/\b.natAbs<=2 ^ d)->0<EW L/\(EW L).natAbs<=2 ^ (d*L.length):=by
 induction L with
 | nil=>intro _; exact⟨by decide,by simp[EW]⟩
 | cons b L ih =>
  intro h;obtain⟨h1,h2⟩:=ih (λx hx=>h x (by simp[hx]));obtain⟨g1,g2⟩:=h b (by simp);refine⟨rG g1 h1,?_⟩;simp only[EW];rw[kn,ka,mw,oY];exact DB g2 h2
def Am(f:Nat->Rat):Nat->Rat
 | 0=>0
 | n+1=>Am f n+f n
def wn(V:Nat->AX):Nat->Aw
 | 0=>Ae
 | i+1=>wg (V i) (wn V i)
theorem Lq{f:Nat->Rat}{i:Nat}:∀{n:Nat},i<n->(∀l,l<n->l≠i->f l=0)->Am f n=f i:=by
 intro n
 induction n with
 | zero=>intro h; omega
 | succ n ih =>
  intro h g;by_cases hi:i=n
  ·subst hi
   have:∀m,m<=i->Am f m=0:=by
    intro m
    induction m with
    | zero=>intro _; rfl
    | succ m ihm=>intro hm; simp only[Am]; rw[ihm (by omega),g m (by omega) (by omega)]; grind
   simp only[Am]; rw[this i (jj _)]; grind
  ·simp only[Am];rw[ih (by omega) (λl hl hne=>g l (by omega) hne),g n (by omega) (by omega)]; grind
def en(T:List (List Rat))(i j:Nat):Rat:=(T.getD i []).getD j 0
theorem KN{f:Nat->Rat}:∀{n:Nat},(∀l,l<n->f l=0)->Am f n=0:=by
 intro n
 induction n with
 | zero=>intro _; rfl
 | succ n ih=>intro h; simp only[Am]; rw[ih (λl hl=>h l (by omega)),h n (by omega)]; grind
end Wd
namespace Wd
def fx(n:Nat)(x:Nat->Rat):AX->Rat:=λv=>Am (λj=>v j*x j) n-v n
theorem JR(f g:Nat->Rat):∀n,Am (λj=>f j+g j) n=Am f n+Am g n:=by
 intro n
 induction n with
 | zero=>simp only[Am]; grind
 | succ n ih=>simp only[Am]; rw[ih]; grind
theorem Qf(c:Rat)(f:Nat->Rat):∀n,Am (λj=>c*f j) n=c*Am f n:=by
 intro n
 induction n with
 | zero=>simp only[Am]; grind
 | succ n ih=>simp only[Am]; rw[ih]; grind
theorem Dw{f g:Nat->Rat}:∀{n},(∀j,j<n->f j=g j)->Am f n=Am g n:=by
 intro n
 induction n with
 | zero=>intro _; rfl
 | succ n ih=>intro h; simp only[Am]; rw[ih (λj hj=>h j (by omega)),h n (by omega)]
theorem U6(n:Nat)(x:Nat->Rat):P8 (fx n x):=by
 constructor
 ·intro u v;have e:Am (λj=>(u j+v j)*x j) n=Am (λj=>u j*x j+v j*x j) n:=Dw (λj _=>by grind);simp only[fx];rw[e,JR]; grind
 ·intro c v;have e:Am (λj=>c*v j*x j) n=Am (λj=>c*(v j*x j)) n:=Dw (λj _=>by grind);simp only[fx];rw[e,Qf]; grind
theorem bB{n:Nat}(A:Nat->AX)(hd:∀i,i<n->A i i≠0)(hz:∀i j,i<n->j<i->A i j=0):∀k,k<=n->∃x:Nat->Rat,∀i,n-k<=i->i<n->fx n x (A i)=0:=by
 intro k
 induction k with
 | zero=>intro _; exact⟨λ_=>0,λi h1 h2=>by omega⟩
 | succ k ih =>
  intro hk;obtain⟨x,hx⟩:=ih (by omega)
  let i0:=n-(k+1)
  have hi0:i0<n:=by show n-(k+1)<n; omega
  let rest:=Am (λj=>if j=i0 then 0 else A i0 j*x j) n
  let x':Nat->Rat:=λj=>if j=i0 then (A i0 n-rest) / A i0 i0 else x j
  refine⟨x',λi h1 h2=>?_⟩;have split:∀(B:AX) (y:Nat->Rat),Am (λj=>B j*y j) n=B i0*y i0+Am (λj=>if j=i0 then 0 else B j*y j) n:=by
   intro B y;have e:Am (λj=>B j*y j) n=Am (λj=>(if j=i0 then B i0*y i0 else 0)+(if j=i0 then 0 else B j*y j)) n:=by
    refine Dw λj _=>?_
    by_cases h:j=i0
    ·simp only[jq h,h]; grind
    ·simp only[jm h]; grind
   rw[e,JR];congr 1;rw[Lq (i:=i0) hi0 (λl _ hne=>jm hne)];simp
  by_cases hii:i=i0
  ·subst hii;have hne:=hd i0 hi0;have e2:Am (λj=>if j=i0 then 0 else A i0 j*x' j) n=rest:=by
    refine Dw λj _=>?_
    by_cases h:j=i0
    ·simp only[jq h]
    ·simp only[jm h,x']
   simp only[fx];rw[split,e2];simp only[x',jq]
   grind
  ·have hgt:i0<i:=by
    have:n-(k+1)<=i:=h1
    show n-(k+1)<i
    have:i≠n-(k+1):=hii
    omega
   have h3:=hx i (by have:n-(k+1)<i:=hgt; omega) h2;simp only[fx] at h3 ⊢;rw[split] at h3 ⊢;have z:A i i0=0:=hz i i0 h2 hgt;have e2:Am (λj=>if j=i0 then 0 else A i j*x' j) n=Am (λj=>if j=i0 then 0 else A i j*x j) n:=by
    refine Dw λj _=>?_
    by_cases h:j=i0
    ·simp only[jq h]
    ·simp only[jm h,x']
   rw[e2,z];rw[z] at h3
   grind
def ct:AX->Aw->Aw
 | _,_,[]=>0
 | y,w,false :: S=>y 0*w (true :: S)+ct (sh y) (BF w) S
 | y,w,true :: S=>- ct (sh y) (at1 w) S
theorem dP(S:List Bool):∀(y:AX) (w x:Aw),ct y (λT=>w T+x T) S=ct y w S+ct y x S:=by
 induction S with
 | nil=>intro y w x; simp only[ct]; grind
 | cons b S ih =>
  intro y w x;have e0:BF (λT=>w T+x T)=λT=>BF w T+BF x T:=rfl
  have e1:at1 (λT=>w T+x T)=λT=>at1 w T+at1 x T:=rfl
  cases b
  ·simp only[ct,e0,ih]; grind
  ·simp only[ct,e1,ih]; grind
theorem OF(S:List Bool):∀(c:Rat) (y:AX) (w:Aw),ct y (λT=>c*w T) S=c*ct y w S:=by
 induction S with
 | nil=>intro c y w; simp only[ct]; grind
 | cons b S ih =>
  intro c y w;have e0:BF (λT=>c*w T)=λT=>c*BF w T:=rfl
  have e1:at1 (λT=>c*w T)=λT=>c*at1 w T:=rfl
  cases b
  ·simp only[ct,e0,ih]; grind
  ·simp only[ct,e1,ih]; grind
theorem cW(S:List Bool)(y:AX)(w x:Aw):ct y (λT=>w T-x T) S=ct y w S-ct y x S:=by
 have e:(λT=>w T-x T)=λT=>w T+(λT=>(-1)*x T) T:=by funext T; grind
 rw[e,dP,OF]; grind
def Ge(u y:AX):Nat->Rat
 | 0=>0
 | n+1=>u 0*y 0+Ge (sh u) (sh y) n
theorem fm(S:List Bool):∀(v y:AX) (w:Aw),ct y (wg v w) S+wg v (ct y w) S=Ge v y S.length*w S:=by
 induction S with
 | nil=>intro v y w; simp only[ct,wg,Ge,mT]; grind
 | cons b S ih =>
  intro v y w;cases b
  ·have h:=ih (sh v) (sh y) (BF w);have e1:BF (wg v w)=wg (sh v) (BF w):=rfl;have e2:BF (ct y w)=λT=>(λT=>y 0*at1 w T) T+ct (sh y) (BF w) T:=rfl
   simp only[ct,wg,Ge,ka,e1];rw[e2,Ko,E9]
   have:BF w S=w (false :: S):=rfl
   grind
  ·have h:=ih (sh v) (sh y) (at1 w);have e1:at1 (wg v w)=λT=>(λT=>v 0*BF w T) T-wg (sh v) (at1 w) T:=rfl
   have e2:at1 (ct y w)=λT=>(-1)*ct (sh y) (at1 w) T:=by funext T; show-ct (sh y) (at1 w) T=_; grind
   simp only[ct,wg,Ge,ka];rw[e1,e2,cW,OF,E9]
   have:at1 w S=w (true :: S):=rfl
   grind
theorem T7(S:List Bool):∀(v:AX) (w x:Aw),(∀T:List Bool,T.length=S.length->w T=x T)->wg v w S=wg v x S:=by
 induction S with
 | nil=>intro v w x _; rfl
 | cons b S ih =>
  intro v w x h;cases b
  ·exact ih _ _ _ (λT hT=>h (false :: T) (by simp[hT]))
  ·simp only[wg];rw[h (false :: S) (by simp),ih (sh v) (at1 w) (at1 x) (λT hT=>h (true :: T) (by simp[hT]))]
theorem cg(S:List Bool):∀y:AX,ct y Ae S=0:=by
 induction S with
 | nil=>intro y; rfl
 | cons b S ih =>
  intro y;cases b
  ·simp only[ct];have e:BF Ae=Ae:=rfl;have e2:Ae (true :: S)=0:=rfl;rw[e,ih,e2]; grind
  ·simp only[ct];have e:at1 Ae=λT=>0*Ae T:=by funext T; show(0:Rat)=_; grind
   rw[e,OF]; grind
theorem c7(m:Nat)(y:AX)(L:List AX):∀(w:Aw),(∀v∈L,Ge v y m=0)->(∀S:List Bool,S.length=m->ct y w S=0)->∀S:List Bool,S.length=m->ct y (Ac L w) S=0:=by
 induction L with
 | nil=>intro w _ h; exact h
 | cons v L ih =>
  intro w hv h;refine ih (wg v w) (λu hu=>hv u (by simp[hu])) λS hS=>?_
  have e:=fm S v y w;have e2:wg v (ct y w) S=0:=by
   rw[T7 S v (ct y w) (λ_=>0) (λT hT=>h T (by omega)),Lw]
  rw[e2,hS,hv v (by simp)] at e
  grind
theorem Tq(c:Nat):∀(y:AX) (w:Aw) (S:List Bool),ct y w (jo c true++S)=sg c*ct (DJ c y) (pre c w) S:=by
 induction c with
 | zero=>intro y w S; simp[sg]; rfl
 | succ c ih =>
  intro y w S;simp only[km,nz,ct];rw[ih,OU];have e1:DJ c (sh y)=DJ (c+1) y:=by funext j; simp only[DJ,sh]; congr 1
  have e2:pre c (at1 w)=pre (c+1) w:=by funext T; simp[pre,at1,km]
  rw[e1,e2]; grind
theorem ZG(n:Nat):∀u y:AX,Ge u y n=Am (λj=>u j*y j) n:=by
 have key:∀n (f:Nat->Rat),Am f (n+1)=f 0+Am (λj=>f (j+1)) n:=by
  intro n f
  induction n with
  | zero=>simp only[Am]; grind
  | succ n ih=>rw[Am,ih]; simp only[Am]; grind
 induction n with
 | zero=>intro u y; rfl
 | succ n ih =>
  intro u y;simp only[Ge];rw[ih,key]; rfl
def J9(n j:Nat):List Bool:=jo j true++false :: (jo (n-1-j) true++[true])
def NJ(n j:Nat):Rat:=B8 n*sg (n-1-j)
theorem UN{n:Nat}{A:List AX}{x:Nat->Rat}(h:∀a∈A,fx n x a=0){j:Nat}(hj:j<n):(J9 n j).length=n+1/\(NJ n j=1\/NJ n j=-1)/\x j*ld n (n+1) (Ac A Ae)=NJ n j*Ac A Ae (J9 n j):=by
 let y:AX:=λi=>if i=n then -1 else x i
 have hdot:∀v∈A,Ge v y (n+1)=0:=by
  intro v hv;rw[ZG];simp only[Am];have e:Am (λj=>v j*y j) n=Am (λj=>v j*x j) n:=Dw λi hi=>by simp only[y,jm (show i≠n by omega)]
  have:=h v hv
  simp only[fx] at this;rw[e];simp only[y,jq]; grind
 have hz:=c7 (n+1) y A Ae hdot (λS _=>cg S y) (jo j true++(false :: (jo (n-1-j) true++[false]))) (by simp; omega);generalize Ac A Ae=w at hz ⊢;rw[Tq] at hz;simp only[ct] at hz;rw[Tq] at hz;simp only[ct] at hz;have s1:∀c,sg c=1\/sg c=-1:=by intro c; unfold sg; split; exact .inl rfl; exact .inr rfl
 have s2:∀c,B8 c=1\/B8 c=-1:=by
  intro c; induction c with
  | zero=>exact .inl rfl
  | succ c ih =>
   simp only[B8];rcases ih with a | a <;> rcases s1 c with b | b <;> rw[a,b] <;> grind
 have eT:jo j true++true :: (jo (n-1-j) true++[false])=Tk n (n+1):=by
  unfold Tk;rw[show n+1-n=1 by omega,List.replicate_one]
  have:jo j true++true :: (jo (n-1-j) true++[false])=(jo j true++jo 1 true++jo (n-1-j) true)++[false]:=by simp
  rw[this,oy,oy];congr 2; omega
 have y1:DJ j y 0=x j:=by simp only[DJ,y,oj,jm (show j≠n by omega)]
 have y2:DJ (n-1-j) (sh (DJ j y)) 0=-1:=by
  simp only[DJ,sh,y];rw[jq (by omega)]
 have w1:pre j w (true :: (jo (n-1-j) true++[false]))=w (Tk n (n+1)):=by unfold pre; rw[eT]
 have w2:pre (n-1-j) (BF (pre j w)) [true]=w (jo j true++false :: (jo (n-1-j) true++[true])):=rfl;rw[y1,y2,w1,w2] at hz;unfold J9 NJ;refine⟨by simp; omega,?_,?_⟩
 ·rcases s2 n with a | a <;> rcases s1 (n-1-j) with b | b <;> rw[a,b] <;> grind
 ·unfold ld;have hs:=s1 j;rcases s1 j with a | a <;> rw[a] at hz <;> grind
theorem RU{n:Nat}{x:Nat->Rat}{c:Rat}(hc:c≠0){v:AX}:fx n x (λj=>c*v j)=0↔fx n x v=0:=by
 rw[(U6 n x).Gd];constructor
 ·intro h; grind
 ·intro h; rw[h]; grind
end Wd
namespace Mth
theorem bW{c M:Int}(h:0<c){q:Rat}(h1:c ∣ M)(h2:(q.den:Int) ∣ M):DM c q ∣ M:=by
 have hq:=q.den_nz;have hg:0<kL c q.den:=o6 _ (by omega);have e1:=o7 c (q.den:Int);have e:DM c q=c / (kL c q.den:Int)*q.den:=by unfold DM; rw[lE e1]
 have l:c / (kL c q.den:Int)*q.den=(Int.lcm c q.den:Int):=by
  have h3:(kL c q.den:Int)*(Int.lcm c q.den:Int)=c*q.den:=by
   have:=Int.gcd_mul_lcm c (q.den:Int)
   have h4:((c*(q.den:Int)).natAbs:Int)=c*q.den:=by
    have:0<c*(q.den:Int):=rG h (by omega)
    omega
   rw[<-h4,kn,<-this,wJ]
  have h5:(kL c q.den:Int)≠0:=by omega
  refine Int.eq_of_mul_eq_mul_left h5 ?_;rw[h3,<-Int.mul_assoc,Int.mul_ediv_cancel' e1]
 rw[e,l];exact Int.coe_lcm_dvd h1 h2
theorem dM(r:List Rat){M:Int}:∀{c:Int},0<c->c ∣ M->(∀q∈r,(q.den:Int) ∣ M)->r.foldl DM c ∣ M:=by
 induction r with
 | nil=>intro c _ h _; exact h
 | cons q r ih =>
  intro c hc h1 h2;exact ih (T6 hc q).1 (bW hc h1 (h2 q (by simp))) (λp hp=>h2 p (by simp[hp]))
theorem fG{r:List Rat}{M:Int}(hM:0<M)(h:∀q∈r,(q.den:Int) ∣ M):(cb r).natAbs<=M.natAbs:=by
 have h1:cb r ∣ M:=dM r (by decide) (Int.one_dvd _) h;exact rZ (by omega) (Int.natAbs_dvd_natAbs.mpr h1)
theorem aT{q:Rat}{M k:Int}(h:(M:Rat)*q=k):(q.den:Int) ∣ M:=by
 have h1:=Fb q;have e:(((M*q.num:Int)):Rat)=((k*q.den:Int):Rat):=by
  rw[kC,kC,ic]; grind
 have e2:M*q.num=k*q.den:=by exact_mod_cast e
 have e3:M.natAbs*q.num.natAbs=k.natAbs*q.den:=by
  have:=congrArg wI e2
  rw[kn,kn,j9] at this;exact this
 have cp2:rH q.den q.num.natAbs:=rH.symm q.reduced
 have:q.den ∣ M.natAbs:=rH.dvd_of_dvd_mul_right cp2 ⟨k.natAbs,by rw[e3,pU]⟩
 exact rN.mpr this
theorem S6:∀{r:List Rat} {p:Rat},p∈r->p.den<=(r.map (·.den)).sum
 | q :: r,p,h=>by
  rw[jx,j7];rcases jK.mp h with rfl | h
  ·omega
  ·have:=S6 h; omega
theorem Ot(r:List Rat):0<cb r/\∀q∈r,(q.den:Int) ∣ cb r:=by
 obtain⟨a,_,b,_⟩:=VT r (c:=1) (D:=0) (d:=(r.map (·.den)).sum) (by decide) (by decide) (λp hp=>by
  have h1:p.den<=(r.map (·.den)).sum:=S6 hp;have h2:(r.map (·.den)).sum<2 ^ (r.map (·.den)).sum:=Nat.lt_two_pow_self;omega)
 exact⟨a,b⟩
def Vb(v:Nat)(q:Rat):Prop:=Wd.Ab ((2 ^ v:Nat):Rat) q
theorem Sb.vb{n d:Nat}{q:Rat}(h:Sb n d q):Vb n q:=by
 have h1:=Fb q;have h2:(1:Rat)<=((q.den:Nat):Rat):=by
  have:1<=q.den:=by have:=q.den_nz; omega
  exact_mod_cast this
 have h3:=Wd.IP h.1;obtain⟨a,b⟩:=h3;have nn:(0:Rat)<=((2 ^ n:Nat):Rat):=by exact_mod_cast kH _
 rw[<-h1] at a b;constructor
 ·by_cases hq:0<=q
  ·grind
  ·have:0<=(-q)*(((q.den:Nat):Rat)-1):=mE (by grind) (by grind)
   grind
 ·by_cases hq:0<=q
  ·have:0<=q*(((q.den:Nat):Rat)-1):=mE hq (by grind)
   grind
  ·grind
theorem Vf{b:Int}{q:Rat}{v D:Nat}(h:(q.den:Int) ∣ b)(h1:Vb v q)(h2:b.natAbs<=2 ^ D):(wh b q).natAbs<=2 ^ (D+v):=by
 refine Wd.Fm ?_;rw[Tp h]
 have:=(Wd.IP h2).Ee h1
 have e:(((2 ^ D:Nat)):Rat)*((2 ^ v:Nat):Rat)=((2 ^ (D+v):Nat):Rat):=by rw[pH,oN]
 rw[e] at this;exact this
theorem Vb.Ee{v u:Nat}{p q:Rat}(h:Vb v p)(g:Vb u q):Vb (v+u) (p*q):=by
 have:=Wd.Ab.Ee h g
 have e:(((2 ^ v:Nat)):Rat)*((2 ^ u:Nat):Rat)=((2 ^ (v+u):Nat):Rat):=by rw[pH,oN]
 rw[e] at this;exact this
theorem Vb.Dh{v:Nat}{p q:Rat}(h:Vb v p)(g:Vb v q):Vb (v+1) (p+q):=by
 obtain⟨a,b⟩:=h;obtain⟨c,d⟩:=g;have e:((2 ^ (v+1):Nat):Rat)=((2 ^ v:Nat):Rat)+((2 ^ v:Nat):Rat):=by
  rw[nK,Nat.mul_two,Rat.natCast_add]
 unfold Vb Wd.Ab;rw[e];constructor <;> grind
theorem Vb.mono{v u:Nat}{p:Rat}(h:Vb v p)(hv:v<=u):Vb u p:=by
 refine Wd.Ab.le h ?_
 exact_mod_cast kM (by decide) hv
end Mth
namespace Wd
open Mth
theorem bG(S:List Bool):∀(u v:AX) (w:Aw),(∀j,j<S.length->u j=v j)->wg u w S=wg v w S:=by
 induction S with
 | nil=>intro u v w _; rfl
 | cons b S ih =>
  intro u v w h;have h2:=ih (sh u) (sh v);cases b
  ·exact h2 _ (λj hj=>h (j+1) (by simp; omega))
  ·simp only[wg];rw[h 0 (by simp),h2 _ (λj hj=>h (j+1) (by simp; omega))]
theorem bO(S:List Bool):∀(v:AX) (w:Aw),wg v w (S++[false])=wg v (λT=>w (T++[false])) S:=by
 induction S with
 | nil=>intro v w; rfl
 | cons b S ih =>
  intro v w;cases b
  ·exact ih (sh v) (BF w)
  ·simp only[nz,wg];rw[ih]; rfl
theorem Zw(S:List Bool):Ae (S++[false])=Ae S:=by
 induction S with
 | nil=>rfl
 | cons b S ih=>cases b; exact ih; rfl
theorem Y5(n:Nat)(L:List (AX×AX)):∀(w x:Aw),(∀p∈L,∀j,j<n->p.1 j=p.2 j)->(∀T:List Bool,T.length=n->w (T++[false])=x T)->∀S:List Bool,S.length=n->Ac (L.map (·.1)) w (S++[false])=Ac (L.map (·.2)) x S:=by
 induction L with
 | nil=>intro w x _ h S hS; exact h S hS
 | cons p L ih =>
  intro w x hp h S hS;refine ih (wg p.1 w) (wg p.2 x) (λq hq=>hp q (by simp[hq])) (λT hT=>?_) S hS;rw[bO,bG T p.1 p.2 _ (λj hj=>hp p (by simp) j (by omega))];exact T7 T p.2 _ _ (λU hU=>h U (by omega))
theorem Uh{row:List Rat}{q:Rat}{j:Nat}(h:j<row.length):vq (row++[q]) j=vq row j:=by
 simp only[vq,je];rw[jM h]
theorem fv{row:List Rat}{q:Rat}:vq (row++[q]) row.length=q:=by
 simp only[vq,je];rw[jy (jj _)]; simp
theorem ae{n:Nat}{T:List (List Rat)}{r:List Rat}(hT:T.length=n)(hr:r.length=n)(hc:∀x∈T,x.length=n):dt n (n+1) (qP (λrow q=>row++[q]) T r)=dt n n T:=by
 have e1:(qP (λrow q=>row++[q]) T r).map vq=((T.zip r).map λp=>(vq (p.1++[p.2]),vq p.1)).map (·.1):=by
  rw[kr,wm,List.zip,wm]; rfl
 have e2:T.map vq=((T.zip r).map λp=>(vq (p.1++[p.2]),vq p.1)).map (·.2):=by
  rw[kr]
  have:(T.zip r).map uJ=T:=List.map_fst_zip (by omega)
  conv=>lhs; rw[<-this]
  rw[kr]; rfl
 unfold dt ld;rw[e1,e2];congr 1;have t1:Tk n (n+1)=Tk n n++[false]:=by
  unfold Tk;rw[show n+1-n=1 by omega,nM]; simp
 rw[t1];refine Y5 n _ Ae Ae (λp hp j hj=>?_) (λT _=>Zw T) _ (by unfold Tk; simp);obtain⟨q,hq,rfl⟩:=js.mp hp;exact Uh (by rw[hc q.1 (qN hq).1]; exact hj)
theorem aX{n:Nat}{row:List Rat}{q:Rat}{x:Nat->Rat}(h:row.length=n):fx n x (vq (row++[q]))=Am (λj=>vq row j*x j) n-q:=by
 simp only[fx];rw[Dw (λj hj=>by rw[Uh (by omega)])]
 have:=fv (row:=row) (q:=q)
 rw[h] at this;rw[this]
def jC(n:Nat)(row dq:List Rat):Rat:=Am (λj=>row.getD j 0*dq.getD j 0) n
def DE(T:List (List Rat))(i j:Nat)(v:Rat):List (List Rat):=T.set i ((T.getD i []).set j v)
structure Sq(n:Nat)(T:List (List Rat)):Prop where
 len:T.length=n
 FL:∀r∈T,r.length=n
theorem Sq.row{n:Nat}{T:List (List Rat)}(h:Sq n T){i:Nat}(hi:i<n):(T.getD i []).length=n/\T[i]?=some (T.getD i []):=by
 have e:T[i]?=some (T[i]'(by rw[h.len]; exact hi)):=jb _;have e2:T.getD i []=T[i]'(by rw[h.len]; exact hi):=by rw[je,e]; rfl
 rw[e2];exact⟨h.FL _ (kU _),e⟩
theorem Sq.set{n:Nat}{T:List (List Rat)}(h:Sq n T){i j:Nat}{v:Rat}(hi:i<n):Sq n (DE T i j v):=by
 refine⟨by unfold DE; rw[mI]; exact h.len,λr hr=>?_⟩;unfold DE at hr;rcases mJ hr with h1 | h1
 ·exact h.FL r h1
 ·rw[h1,mI]; exact(h.row hi).1
theorem IF{n:Nat}{T:List (List Rat)}(h:Sq n T){i j:Nat}{v:Rat}(hi:i<n)(hj:j<n)(i' j':Nat):en (DE T i j v) i' j'=if i'=i/\j'=j then v else en T i' j':=by
 unfold en DE;have hl:=(h.row hi).1;by_cases e:i=i'
 ·subst e
  have:(T.set i ((T.getD i []).set j v)).getD i []=(T.getD i []).set j v:=by
   rw[je,ko (by rw[h.len]; exact hi)]; rfl
  rw[this];by_cases e2:j=j'
  ·subst e2;rw[jq ⟨rfl,rfl⟩,je,ko (by omega)]; rfl
  ·rw[jm (λz=>e2 z.2.symm),je,kh e2,<-List.getD_eq_getElem?_getD]
 ·have:(T.set i ((T.getD i []).set j v)).getD i' []=T.getD i' []:=by
   rw[je,kh e,<-List.getD_eq_getElem?_getD]
  rw[this,jm (λz=>e z.1.symm)]
abbrev AQ:=Nat×Nat×Rat
def Ci(T:List (List Rat))(r:AQ):List (List Rat) :=
 if r.1=r.2.1 then T else
 let T1:=DE T r.1 r.1 (en T r.1 r.1+r.2.2)
 let T2:=DE T1 r.2.1 r.2.1 (en T1 r.2.1 r.2.1+r.2.2)
 let T3:=DE T2 r.1 r.2.1 (en T2 r.1 r.2.1-r.2.2)
 DE T3 r.2.1 r.1 (en T3 r.2.1 r.1-r.2.2)
def EI(n:Nat):List (List Rat):=jo n (jo n 0)
def Bo(n:Nat)(rs:List AQ):List (List Rat):=rs.foldl Ci (EI n)
theorem Sk(n:Nat):Sq n (EI n):=⟨by simp[EI],λr hr=>by rw[(vh.mp hr).2]; simp⟩
theorem Tf(n i j:Nat):en (EI n) i j=0:=by
 unfold en EI;rw[je,je,oB];split
 ·simp only[wA];rw[oB];split <;> rfl
 ·rfl
def DG(r:AQ)(i j:Nat):Rat :=
 if r.1=r.2.1 then 0 else (if i=r.1/\j=r.1 then r.2.2 else 0)+(if i=r.2.1/\j=r.2.1 then r.2.2 else 0)-(if i=r.1/\j=r.2.1 then r.2.2 else 0)-(if i=r.2.1/\j=r.1 then r.2.2 else 0)
theorem QT{n:Nat}{T:List (List Rat)}(h:Sq n T){r:AQ}(h1:r.1<n)(h2:r.2.1<n):Sq n (Ci T r)/\∀i j,en (Ci T r) i j=en T i j+DG r i j:=by
 unfold Ci DG;by_cases e:r.1=r.2.1
 ·simp only[jq e];exact⟨h,λi j=>by grind⟩
 ·simp only[jm e];have q1:=h.set (j:=r.1) (v:=en T r.1 r.1+r.2.2) h1;have e1:=IF h (v:=en T r.1 r.1+r.2.2) h1 h1;generalize DE T r.1 r.1 (en T r.1 r.1+r.2.2)=T1 at q1 e1;have q2:=q1.set (j:=r.2.1) (v:=en T1 r.2.1 r.2.1+r.2.2) h2;have e2:=IF q1 (v:=en T1 r.2.1 r.2.1+r.2.2) h2 h2;generalize DE T1 r.2.1 r.2.1 (en T1 r.2.1 r.2.1+r.2.2)=T2 at q2 e2;have q3:=q2.set (j:=r.2.1) (v:=en T2 r.1 r.2.1-r.2.2) h1;have e3:=IF q2 (v:=en T2 r.1 r.2.1-r.2.2) h1 h2;generalize DE T2 r.1 r.2.1 (en T2 r.1 r.2.1-r.2.2)=T3 at q3 e3;have q4:=q3.set (j:=r.1) (v:=en T3 r.2.1 r.1-r.2.2) h2;have e4:=IF q3 (v:=en T3 r.2.1 r.1-r.2.2) h2 h1;refine⟨q4,λi j=>?_⟩;rw[e4];simp only[e3,e2,e1]
  grind
theorem bt{n:Nat}:∀(rs:List AQ) {T:List (List Rat)},Sq n T->(∀r∈rs,r.1<n/\r.2.1<n)->Sq n (rs.foldl Ci T)/\∀i j,en (rs.foldl Ci T) i j=en T i j+(rs.map λr=>DG r i j).sum:=by
 intro rs
 induction rs with
 | nil=>intro T h _; exact⟨h,λi j=>by simp only[kR,mM,List.foldl_nil]; grind⟩
 | cons r rs ih =>
  intro T h hr;obtain⟨a,b⟩:=QT h (hr r (by simp)).1 (hr r (by simp)).2;obtain⟨c,d⟩:=ih a (λx hx=>hr x (by simp[hx]));refine⟨c,λi j=>?_⟩;rw[wL,d,b,jx,j7]; grind
theorem ZS(c:Nat)(L:List AX):∀(w:Aw) (S:List Bool),(∀v∈L,∀j,j<c->v j=0) →
  ∃e:Rat,e*e=1/\Ac L w (jo c true++S)=e*Ac (L.map (DJ c)) (pre c w) S:=by
 induction L with
 | nil=>intro w S _; exact⟨1,by grind,by simp[Ac,pre]⟩
 | cons v L ih =>
  intro w S h;obtain⟨e,h1,he⟩:=ih (wg v w) S (λu hu=>h u (by simp[hu]));refine⟨e*sg c,by have:=IV c; grind,?_⟩;simp only[Ac,jx];rw[he]
  have:pre c (wg v w)=λT=>sg c*wg (DJ c v) (pre c w) T:=by
   funext T; exact Ox c v w T (h v (by simp))
  rw[this,G0]; grind
theorem JH(f:Nat->Rat):∀n,Am f (n+1)=f 0+Am (λj=>f (j+1)) n:=by
 intro n
 induction n with
 | zero=>simp only[Am]; grind
 | succ n ih =>
  have:Am f (n+1+1)=Am f (n+1)+f (n+1):=rfl
  rw[this,ih]; simp only[Am]; grind
theorem Zc(r:AX)(c:AX->Rat)(M:List AX):∀(w:Aw),(∀S,wg r w S=0)->Ac (M.map λv=>λj=>v j + -c v*r j) w=Ac M w:=by
 induction M with
 | nil=>intro w _; rfl
 | cons v M ih =>
  intro w h;simp only[jx,Ac];have e:wg (λj=>v j + -c v*r j) w=wg v w:=by
   funext S
   have h1:=KS S v (λj=>-c v*r j) w;rw[Gv,h S] at h1;rw[h1]; grind
  rw[e];refine ih _ (λS=>?_);have e2:wg r w=λ_=>0:=funext h
  rw[Kf,e2,Lw]; grind
theorem gc:∀(n:Nat) (L:List AX),L.length=n->ld n n (Ac L Ae)=0->∃x:Nat->Rat,(∃j,j<n/\x j≠0)/\∀v∈L,Am (λj=>v j*x j) n=0:=by
 intro n
 induction n with
 | zero =>
  intro L hL h
  have:L=[]:=mf.mp hL
  subst this;have h1:=O0 0;rw[show Ac [] Ae=Ae from rfl,h1] at h
  grind
 | succ n ih =>
  intro L hL h;by_cases hz:∀v∈L,v 0=0
  ·refine⟨λj=>if j=0 then 1 else 0,⟨0,by omega,by simp⟩,λv hv=>?_⟩;rw[Lq (i:=0) (by omega) (λl _ hl=>by simp[hl])];rw[hz v hv]; grind
  ·have hz':∃r,r∈L/\r 0≠0:=by
    apply mG;intro hn;exact hz (λv hv=>mG λz=>hn ⟨v,hv,z⟩)
   obtain⟨r,hr,h0⟩:=hz';obtain⟨A,B,rfl⟩:=rO hr;have hl:(A++B).length=n:=by simp at hL ⊢; omega
   let c:AX->Rat:=λv=>v 0 / r 0
   let f:AX->AX:=λv=>λj=>v j + -c v*r j
   have e1:∀S,Ac (A++r :: B) Ae S=sg A.length*Ac ((A++B).map f) (wg r Ae) S:=by
    intro S;have q1:Ac ((A++B).map f) (wg r Ae)=Ac (A++B) (wg r Ae):=Zc r c (A++B) (wg r Ae) (λS=>Ju S r Ae);rw[q1,GD,GD];have q2:Ac A (wg r Ae)=λT=>sg A.length*wg r (Ac A Ae) T:=funext λT=>Ua A r Ae T
    rw[q2,G0];show Ac B (wg r (Ac A Ae)) S=_
    have:=IV A.length
    grind
   have fz:∀v∈(A++B).map f,∀j,j<1->v j=0:=by
    intro v hv j hj;obtain⟨u,_,rfl⟩:=js.mp hv
    have:j=0:=by omega
    subst this;show u 0 + -(u 0 / r 0)*r 0=0
    have:u 0 / r 0*r 0=u 0:=vt h0
    grind
   obtain⟨e,ee,he⟩:=ZS 1 ((A++B).map f) (wg r Ae) (jo n true) fz;have e2:pre 1 (wg r Ae)=λT=>r 0*Ae T:=by
    funext T
    show wg r Ae (true :: T)=_;simp only[wg]
    have:at1 Ae=λ_=>0:=by funext S; rfl
    rw[this,Lw];show r 0*Ae T-0=_
    grind
   have e3:Tk (n+1) (n+1)=jo 1 true++jo n true:=by unfold Tk; simp[km]
   have e4:Tk n n=jo n true:=by unfold Tk; simp
   have h2:ld n n (Ac (((A++B).map f).map (DJ 1)) Ae)=0:=by
    unfold ld at h ⊢;rw[e3,e1,he,e2,G0] at h;rw[e4];have t1:=Ji (n+1);have t2:=IV A.length;have nt:B8 (n+1)≠0:=λz=>by rw[z] at t1; grind
    have ns:sg A.length≠0:=λz=>by rw[z] at t2; grind
    have ne:e≠0:=λz=>by rw[z] at ee; grind
    have z:=(mK.mp h).resolve_left nt;have z:=(mK.mp z).resolve_left ns;have z:=(mK.mp z).resolve_left ne;have z:=(mK.mp z).resolve_left h0;rw[z]; grind
   obtain⟨y,⟨j,hj,hy⟩,hs⟩:=ih _ (by simp only[ja]; exact hl) h2
   let s:=Am (λj=>r (j+1)*y j) n
   let x:Nat->Rat:=λj=>match j with | 0=>-s / r 0 | j+1=>y j
   have x0:r 0*x 0=-s:=by
    show r 0*(-s / r 0)=-s;rw[pY]; exact vt h0
   have hr0:Am (λj=>r j*x j) (n+1)=0:=by
    rw[JH];show r 0*x 0+s=0;rw[x0]; grind
   refine⟨x,⟨j+1,by omega,hy⟩,λv hv=>?_⟩;have hv':v=r\/v∈A++B:=by
    rcases jI.mp hv with z | z
    ·exact .inr (jI.mpr (.inl z))
    ·rcases jK.mp z with z | z
     ·exact .inl z
     ·exact .inr (jI.mpr (.inr z))
   rcases hv' with rfl | hm
   ·exact hr0
   ·have g1:=hs (DJ 1 (f v)) (js.mpr ⟨f v,js.mpr ⟨v,hm,rfl⟩,rfl⟩);have g2:Am (λj=>f v j*x j) (n+1)=0:=by
     rw[JH,show f v 0=0 from fz _ (js.mpr ⟨v,hm,rfl⟩) 0 (by omega)]
     have:Am (λj=>f v (j+1)*x (j+1)) n=0:=g1
     rw[this]; grind
    have g3:Am (λj=>f v j*x j) (n+1)=Am (λj=>v j*x j) (n+1) + -c v*Am (λj=>r j*x j) (n+1):=by
     rw[<-Qf,<-JR];refine Dw λj _=>?_
     show(v j + -c v*r j)*x j=_
     grind
    rw[g2,hr0] at g3
    grind
def As(X:Nat->Rat)(r:AQ):Rat:=r.2.2*(X r.1-X r.2.1)
def Cq(X:Nat->Rat)(i:Nat)(r:AQ):Rat:=(if i=r.1 then As X r else 0)-(if i=r.2.1 then As X r else 0)
def A6(X:Nat->Rat)(rs:List AQ)(i:Nat):Rat:=(rs.map (Cq X i)).sum
def Po(n:Nat)(rs:List AQ):Prop:=∀S:Nat->Prop,S 0->(∀r∈rs,S r.1↔S r.2.1)->∀p,p<n->S p
theorem Lb{n i:Nat}(c:Rat)(hi:i<n):Am (λj=>if j=i then c else 0) n=c:=by
 rw[Lq (i:=i) hi (λl _ h=>by rw[jm h])]; rw[jq rfl]
theorem ZC{n:Nat}{r:AQ}(h1:r.1<n)(h2:r.2.1<n)(X:Nat->Rat)(i:Nat):Am (λj=>DG r i j*X j) n=Cq X i r:=by
 by_cases e:r.1=r.2.1
 ·have:∀j,DG r i j*X j=0:=λj=>by unfold DG; rw[jq e]; grind
  rw[KN (λl _=>this l)];unfold Cq As;rw[e]; grind
 ·have:∀j,DG r i j*X j=(if j=r.1 then (if i=r.1 then r.2.2*X r.1 else 0)-(if i=r.2.1 then r.2.2*X r.1 else 0) else 0)+(if j=r.2.1 then (if i=r.2.1 then r.2.2*X r.2.1 else 0)-(if i=r.1 then r.2.2*X r.2.1 else 0) else 0):=by
   intro j;unfold DG;rw[jm e];by_cases a1:j=r.1
   ·subst a1;by_cases a2:i=r.1 <;> by_cases a3:i=r.2.1 <;> simp[a2,a3,e] <;> grind
   ·by_cases a4:j=r.2.1
    ·subst a4;by_cases a2:i=r.1 <;> by_cases a3:i=r.2.1 <;> simp[a1,a2,a3,e] <;> grind
    ·simp[a1,a4]; grind
  rw[Dw (g:=λj=>(if j=r.1 then (if i=r.1 then r.2.2*X r.1 else 0)-(if i=r.2.1 then r.2.2*X r.1 else 0) else 0)+(if j=r.2.1 then (if i=r.2.1 then r.2.2*X r.2.1 else 0)-(if i=r.1 then r.2.2*X r.2.1 else 0) else 0)) (λj _=>this j)];rw[JR,Lb _ h1,Lb _ h2];unfold Cq As
  grind
theorem Ru{n:Nat}(f:AQ->Nat->Rat):∀rs:List AQ,Am (λj=>(rs.map λr=>f r j).sum) n=(rs.map λr=>Am (f r) n).sum:=by
 intro rs
 induction rs with
 | nil=>simp only[kR,mM]; exact KN λ_ _=>rfl
 | cons r rs ih=>simp only[jx,j7]; rw[JR,ih]
theorem Nj(c:Rat)(f:AQ->Rat)(rs:List AQ):(rs.map f).sum*c=(rs.map λr=>f r*c).sum:=by
 induction rs with
 | nil=>simp only[kR,mM]; grind
 | cons r rs ih=>simp only[jx,j7]; rw[<-ih]; grind
theorem KQ{f g:AQ->Rat}{rs:List AQ}(h:∀r∈rs,f r=g r):(rs.map f).sum=(rs.map g).sum:=by rw[lX h]
theorem HS{n:Nat}{rs:List AQ}(h:∀r∈rs,r.1<n/\r.2.1<n):Sq n (Bo n rs)/\∀i j,en (Bo n rs) i j=(rs.map λr=>DG r i j).sum:=by
 obtain⟨a,b⟩:=bt rs (Sk n) h;refine⟨a,λi j=>?_⟩
 have:=b i j
 rw[Tf] at this;show en (rs.foldl Ci (EI n)) i j=_;rw[this]; grind
theorem R1{n:Nat}{rs:List AQ}(h:∀r∈rs,r.1<n/\r.2.1<n)(X:Nat->Rat)(i:Nat):Am (λj=>en (Bo n rs) i j*X j) n=A6 X rs i:=by
 rw[Dw (g:=λj=>(rs.map λr=>DG r i j*X j).sum) (λj _=>by rw[(HS h).2,Nj])];rw[Ru (λr j=>DG r i j*X j)];exact KQ λr hr=>ZC (h r hr).1 (h r hr).2 X i
theorem Z1{n:Nat}{r:AQ}(h1:r.1<n)(h2:r.2.1<n)(X Y:Nat->Rat):Am (λi=>Y i*Cq X i r) n=As X r*(Y r.1-Y r.2.1):=by
 have:∀i,Y i*Cq X i r=(if i=r.1 then Y r.1*As X r else 0)+(if i=r.2.1 then-(Y r.2.1*As X r) else 0):=by
  intro i;unfold Cq;by_cases a:i=r.1 <;> by_cases b:i=r.2.1 <;> simp[a,b] <;> grind
 rw[Dw (λi _=>this i),JR,Lb _ h1,Lb _ h2]; grind
theorem Ng{n:Nat}{rs:List AQ}(h:∀r∈rs,r.1<n/\r.2.1<n)(X Y:Nat->Rat):Am (λi=>Y i*A6 X rs i) n=(rs.map λr=>As X r*(Y r.1-Y r.2.1)).sum:=by
 rw[Dw (g:=λi=>(rs.map λr=>Y i*Cq X i r).sum) (λi _=>by unfold A6; rw[pY,Nj]; exact KQ λr _=>pY _ _)];rw[Ru (λr i=>Y i*Cq X i r)];exact KQ λr hr=>Z1 (h r hr).1 (h r hr).2 X Y
theorem VM(x:Rat):0<=x*x:=by
 rcases Rat.le_total (a:=0) (b:=x) with h | h
 ·exact mE h h
 ·have:0<=-x:=by grind
  have:=mE this this
  grind
theorem UH{f:AQ->Rat}:∀{rs:List AQ},(∀r∈rs,0<=f r)->0<=(rs.map f).sum:=by
 intro rs
 induction rs with
 | nil=>intro _; simp only[kR,mM]; exact Rat.le_refl
 | cons r rs ih =>
  intro h;simp only[jx,j7];have h1:=h r (by simp);have h2:=ih (λx hx=>h x (by simp[hx]))
  grind
theorem Sh{f:AQ->Rat}:∀{rs:List AQ},(∀r∈rs,0<=f r)->(rs.map f).sum=0->∀r∈rs,f r=0:=by
 intro rs
 induction rs with
 | nil=>intro _ _ r hr; cases hr
 | cons r rs ih =>
  intro h e x hx;simp only[jx,j7] at e;have h1:=h r (by simp);have h2:=UH (f:=f) (rs:=rs) (λx hx=>h x (by simp[hx]));rcases jK.mp hx with rfl | hx
  ·grind
  ·exact ih (λx hx=>h x (by simp[hx])) (by grind) x hx
theorem Q9{n:Nat}{rs:List AQ}(h:∀r∈rs,r.1<n/\r.2.1<n/\0<r.2.2)(g:Po n rs){X:Nat->Rat}(h0:X 0=0)(hb:∀i,i<n->X i=0\/A6 X rs i=0):∀i,i<n->X i=0:=by
 have h':∀r∈rs,r.1<n/\r.2.1<n:=λr hr=>⟨(h r hr).1,(h r hr).2.1⟩
 have e1:=Ng h' X X;rw[KN (λi hi=>by rcases hb i hi with z | z <;> rw[z] <;> grind)] at e1;have nn:∀r∈rs,0<=As X r*(X r.1-X r.2.1):=by
  intro r hr;have a:=VM (X r.1-X r.2.1);have b:=mE (Rat.le_of_lt (h r hr).2.2) a;unfold As; grind
 have e2:=Sh nn e1.symm;refine g (λp=>X p=0) h0 (λr hr=>?_);have e3:=e2 r hr;unfold As at e3;have pe:r.2.2≠0:=λz=>by have:=(h r hr).2.2; rw[z] at this; exact absurd this (pD)
 have e4:r.2.2*((X r.1-X r.2.1)*(X r.1-X r.2.1))=0:=by grind
 have e5:=(mK.mp e4).resolve_left pe;have e6:X r.1-X r.2.1=0:=by rcases mK.mp e5 with z | z <;> exact z
 have e7:X r.1=X r.2.1:=by grind
 rw[e7]
def Ec(T:List (List Rat)):List (List Rat):=(T.drop 2).map (·.drop 2)
theorem Jc{n:Nat}{T:List (List Rat)}(q:Sq (n+2) T):(Ec T).length=n/\∀r∈Ec T,r.length=n:=by
 refine⟨by unfold Ec; rw[ja,kA,q.len]; omega,λr hr=>?_⟩;obtain⟨s,hs,rfl⟩:=js.mp hr;rw[kA,q.FL s (nV hs)]; omega
theorem OE{n:Nat}{T:List (List Rat)}(q:Sq (n+2) T){i:Nat}(hi:i<n):(Ec T)[i]?=some ((T.getD (i+2) []).drop 2):=by
 unfold Ec;rw[ji,nH,oY 2 i,(q.row (by omega)).2]; rfl
theorem Si(r:List Rat)(j:Nat):vq (r.drop 2) j=r.getD (j+2) 0:=by
 unfold vq;rw[je,nH,oY 2 j,<-List.getD_eq_getElem?_getD]
def K3(a b:Rat)(x:Nat->Rat):Nat->Rat
 | 0=>a
 | 1=>b
 | j+2=>x j
theorem Q0(f:Nat->Rat)(a b:Rat)(x:Nat->Rat)(n:Nat):Am (λj=>f j*K3 a b x j) (n+2)=f 0*a+(f 1*b+Am (λj=>f (j+2)*x j) n):=by
 rw[JH,JH]; rfl
theorem dA{n:Nat}{rs:List AQ}(h:∀r∈rs,r.1<n+2/\r.2.1<n+2/\0<r.2.2)(g:Po (n+2) rs):dt n n (Ec (Bo (n+2) rs))≠0:=by
 have h':∀r∈rs,r.1<n+2/\r.2.1<n+2:=λr hr=>⟨(h r hr).1,(h r hr).2.1⟩
 have q:=(HS h').1;intro z;obtain⟨x,⟨j,hj,hx⟩,hs⟩:=gc n _ (by rw[ja]; exact(Jc q).1) z;have e:=Q9 h g (X:=K3 0 0 x) rfl (λi hi=>by
  match i with
  | 0=>exact .inl rfl
  | 1=>exact .inl rfl
  | i+2 =>
   right
   rw[<-R1 h',Q0];have e1:=hs (vq ((Bo (n+2) rs).getD (i+2) [] |>.drop 2)) (js.mpr ⟨_,jd (OE q (by omega)),rfl⟩);have e2:Am (λj=>en (Bo (n+2) rs) (i+2) (j+2)*x j) n=0:=by
    rw[<-e1];refine Dw λj _=>?_
    rw[Si]; rfl
   rw[e2]; grind) (j+2) (by omega)
 exact hx e
def FA(T:List (List Rat)):List Rat:=(T.drop 2).map λr=>0-r.getD 0 0
theorem NP{n:Nat}{T:List (List Rat)}(q:Sq (n+2) T):(FA T).length=n:=by unfold FA; rw[ja,kA,q.len]; omega
theorem Q5{n:Nat}{T:List (List Rat)}(q:Sq (n+2) T){i:Nat}(hi:i<n):(FA T)[i]?=some (0-en T (i+2) 0):=by
 unfold FA;rw[ji,nH,oY 2 i,(q.row (by omega)).2]; rfl
theorem fQ {n:Nat} {rs:List AQ} (h:∀r∈rs,r.1<n+2/\r.2.1<n+2) {x:Nat->Rat}
  (hx:∀y∈qP (λrow q=>row++[q]) (Ec (Bo (n+2) rs)) (FA (Bo (n+2) rs)),fx n x (vq y)=0):∀i,2<=i->i<n+2->A6 (K3 1 0 x) rs i=0:=by
 have q:=(HS h).1;intro i h2 hi;obtain⟨k,rfl⟩:∃k,i=k+2:=⟨i-2,by omega⟩;rw[<-R1 h,Q0];have e1:=hx ((((Bo (n+2) rs).getD (k+2) []).drop 2)++[0-en (Bo (n+2) rs) (k+2) 0]) (by
  refine jd (i:=k) ?_;rw[oV,OE q (by omega),Q5 q (by omega)])
 rw[aX (by rw[kA,(q.row (i:=k+2) (by omega)).1]; omega)] at e1;have e2:Am (λj=>en (Bo (n+2) rs) (k+2) (j+2)*x j) n=Am (λj=>vq (((Bo (n+2) rs).getD (k+2) []).drop 2) j*x j) n:=by
  refine Dw λj _=>?_
  rw[Si]; rfl
 rw[e2]; grind
theorem Za{n:Nat}{rs:List AQ}(h:∀r∈rs,r.1<n/\r.2.1<n)(X:Nat->Rat):Am (λi=>A6 X rs i) n=0:=by
 have e:=Ng h X (λ_=>1);rw[Dw (g:=λi=>A6 X rs i) (λi _=>by grind)] at e;rw[e]
 have:(rs.map λr=>As X r*((1:Rat)-1)).sum=(rs.map λr=>(λ_:AQ=>(0:Rat)) r).sum:=KQ λr _=>by grind
 rw[this];clear this e h
 induction rs with
 | nil=>rfl
 | cons r rs ih=>simp only[jx,j7]; rw[ih]; grind
theorem X0{n:Nat}{rs:List AQ}(h:∀r∈rs,r.1<n+2/\r.2.1<n+2){X:Nat->Rat}(hb:∀i,2<=i->i<n+2->A6 X rs i=0):A6 X rs 1=- A6 X rs 0:=by
 have e:=Za h X;rw[JH,JH,KN (λi hi=>hb (i+1+1) (by omega) (by omega))] at e
 have:A6 X rs (0+1)=A6 X rs 1:=rfl
 rw[this] at e
 grind
theorem BM.Dh{x y:Rat}(h:BM x)(g:BM y):BM (x+y):=by
 obtain⟨a,rfl⟩:=h; obtain⟨b,rfl⟩:=g; exact⟨a+b,by grind⟩
theorem BM.neg{x:Rat}(h:BM x):BM (-x):=by
 obtain⟨a,rfl⟩:=h; exact⟨-a,by grind⟩
theorem BM.zero:BM 0:=⟨0,rfl⟩
theorem aM{f:AQ->Rat}:∀{rs:List AQ},(∀r∈rs,BM (f r))->BM (rs.map f).sum:=by
 intro rs
 induction rs with
 | nil=>intro _; exact⟨0,rfl⟩
 | cons r rs ih=>intro h; simp only[jx,j7]; exact(h r (by simp)).Dh (ih λx hx=>h x (by simp[hx]))
theorem Ab.Dh{B C x y:Rat}(h:Ab B x)(g:Ab C y):Ab (B+C) (x+y):=by
 obtain⟨h1,h2⟩:=h; obtain⟨g1,g2⟩:=g;constructor <;> grind
theorem cX{f:AQ->Rat}{B:Rat}:∀{rs:List AQ},(∀r∈rs,Ab B (f r))->Ab ((rs.length:Nat)*B) (rs.map f).sum:=by
 intro rs
 induction rs with
 | nil=>intro _; simp only[kR,mM,mT]; constructor <;> grind
 | cons r rs ih =>
  intro h;simp only[jx,j7];have e:(((r :: rs).length:Nat):Rat)*B=B+(rs.length:Nat)*B:=by rw[ka]; grind
  rw[e];exact(h r (by simp)).Dh (ih λx hx=>h x (by simp[hx]))
def DA:List AQ->Nat
 | []=>1
 | r :: rs=>r.2.2.den*DA rs
theorem JV:∀rs:List AQ,0<DA rs
 | []=>Nat.one_pos
 | r :: rs=>v5 r.2.2.den_pos (JV rs)
theorem S9{β:Nat}:∀{rs:List AQ},(∀r∈rs,r.2.2.den<=2 ^ β)->DA rs<=2 ^ (β*rs.length)
 | [],_=>by simp[DA]
 | r :: rs,h=>by
  have h1:=h r (by simp);have h2:=S9 (rs:=rs) λx hx=>h x (by simp[hx])
  have:=DB h1 h2
  rw[ka,mw,oY]; exact this
theorem Ls:∀{rs:List AQ} {r:AQ},r∈rs->r.2.2.den ∣ DA rs
 | [],_,h=>by cases h
 | s :: rs,r,h=>by
  rcases jK.mp h with rfl | h
  ·exact Nat.dvd_mul_right _ _
  ·exact Nat.dvd_trans (Ls h) (Nat.dvd_mul_left _ _)
theorem OZ{q:Rat}{M:Nat}(h:q.den ∣ M):BM ((M:Nat)*q):=by
 obtain⟨k,rfl⟩:=h;refine⟨k*q.num,?_⟩;have e:=Fb q;have e1:((q.den*k:Nat):Rat)=(q.den:Nat)*(k:Nat):=by exact_mod_cast rfl
 have e2:((k*q.num:Int):Rat)=(k:Nat)*(q.num:Int):=by rw[kC]; rfl
 rw[e1,e2,<-e]; grind
theorem Sd(r:AQ)(i j:Nat):DG r i j=0\/DG r i j=r.2.2\/DG r i j=-r.2.2:=by
 unfold DG;by_cases e:r.1=r.2.1
 ·rw[jq e]; exact .inl rfl
 ·rw[jm e];by_cases a:i=r.1
  ·have b:i≠r.2.1:=λz=>e (a.symm.trans z)
   by_cases c:j=r.1
   ·have d:j≠r.2.1:=λz=>e (c.symm.trans z)
    simp[a,c,e]; grind
   ·by_cases d:j=r.2.1
    ·simp[a,d,e]; grind
    ·simp[a,c,d,e]; grind
  ·by_cases b:i=r.2.1
   ·by_cases c:j=r.1
    ·have d:j≠r.2.1:=λz=>e (c.symm.trans z)
     have e':r.2.1≠r.1:=λz=>e z.symm
     simp[b,c,e,e']; grind
    ·have e':r.2.1≠r.1:=λz=>e z.symm
     by_cases d:j=r.2.1
     ·simp[b,d,e']; grind
     ·simp[b,c,d,e']; grind
   ·simp[a,b]; grind
theorem aS{B:Rat}(h:0<=B):Ab B 0:=by constructor <;> grind
theorem Oz{n α β:Nat}{rs:List AQ}(h:∀r∈rs,r.1<n/\r.2.1<n/\Sb α β r.2.2)(hm:rs.length<=16)(i j:Nat):BM ((DA rs:Nat)*en (Bo n rs) i j)/\Vb (α+4) (en (Bo n rs) i j):=by
 rw[(HS λr hr=>⟨(h r hr).1,(h r hr).2.1⟩).2];constructor
 ·rw[pY,Nj];refine aM λr hr=>?_
  have q:=OZ (Ls hr);rw[pY];rcases Sd r i j with e | e | e <;> rw[e]
  ·rw[vx]; exact BM.zero
  ·exact q
  ·have:=q.neg
   rwa [Rat.mul_neg]
 ·have q:∀r∈rs,Ab ((2 ^ α:Nat):Rat) (DG r i j):=λr hr=>by
   have v:Ab ((2 ^ α:Nat):Rat) r.2.2:=(h r hr).2.2.vb;rcases Sd r i j with e | e | e <;> rw[e]
   ·exact aS v.nn
   ·exact v
   ·have:=v.neg
    rwa [show -1*r.2.2=-r.2.2 by grind] at this
  refine(cX q).le ?_
  have:rs.length*2 ^ α<=2 ^ (α+4):=by rw[pH,pU]; exact lY _ hm
  have e:(((rs.length*2 ^ α:Nat)):Rat)=(rs.length:Nat)*((2 ^ α:Nat):Rat):=by exact_mod_cast rfl
  rw[<-e]; exact_mod_cast this
theorem S7(L:List AX):∀(w:Aw),(∀v∈L,∀j,BM (v j))->(∀T,BM (w T))->∀S,BM (Ac L w S):=by
 induction L with
 | nil=>intro w _ h; exact h
 | cons v L ih=>intro w h g; exact ih _ (λu hu=>h u (by simp[hu])) (λT=>ML T v w (h v (by simp)) g)
theorem dS{V:Nat}(L:List AX)(s:Nat):∀(w:Aw) (W:Nat),(∀v∈L,∀j,Ab ((V:Nat):Rat) (v j))->(∀T:List Bool,T.length=s->Ab ((W:Nat):Rat) (w T))->∀S:List Bool,S.length=s->Ab (((s*V) ^ L.length*W:Nat):Rat) (Ac L w S):=by
 induction L with
 | nil=>intro w W _ h S hS; rw[mT,vm,pG]; exact h S hS
 | cons v L ih =>
  intro w W h g S hS
  have:=ih (wg v w) (s*(V*W)) (λu hu=>h u (by simp[hu])) (λT hT=>by
   have:=PJ (V:=((V:Nat):Rat)) (W:=((W:Nat):Rat)) T v w (h v (by simp)) (λU hU=>g U (by omega))
   rw[hT] at this;have e:(((s*(V*W):Nat)):Rat)=(s:Nat)*(((V:Nat):Rat)*((W:Nat):Rat)):=by rw[oN,oN]
   rw[e]; exact this) S hS
  rw[ka,nK,xk,xk s V W]; exact this
theorem cH(S:List Bool):Ab ((1:Nat):Rat) (Ae S):=by
 induction S with
 | nil=>show Ab _ 1; constructor <;> decide
 | cons b S ih =>
  cases b
  ·exact ih
  ·show Ab _ 0; constructor <;> decide
theorem cN{n E:Nat}{A:List AX}(lA:A.length=n)(n1:n+1<=16)(hi:∀a∈A,∀j,BM (a j))(hb:∀a∈A,∀j,Ab ((2 ^ E:Nat):Rat) (a j)){x:Nat->Rat}(hx:∀a∈A,fx n x a=0)(hd:ld n (n+1) (Ac A Ae)≠0):
  ∃W:Int,W≠0/\W.natAbs<=2 ^ ((4+E)*n)/\∀j,j<n->∃k:Int,(W:Rat)*x j=k/\k.natAbs<=2 ^ ((4+E)*n):=by
 have bd:∀S:List Bool,S.length=n+1->∀k:Int,Ac A Ae S=k->k.natAbs<=2 ^ ((4+E)*n):=by
  intro S hS k hk;have b:=dS (V:=2 ^ E) A (n+1) Ae 1 hb (λT _=>cH T) S hS;rw[hk,lA,vZ] at b;refine jW (Fm b) ?_;have h1:(n+1)*2 ^ E<=2 ^ (4+E):=by rw[pH 2 4]; exact o9 _ (by omega)
  have h2:=uX h1 n
  rwa [<-Nat.pow_mul] at h2
 obtain⟨w,hw⟩:=S7 A Ae hi ON (Tk n (n+1));have tt:B8 n=1\/B8 n=-1:=by
  have:(B8 n-1)*(B8 n+1)=0:=by have:=Ji n; grind
  rcases mK.mp this with z | z
  ·left; grind
  ·right; grind
 have lt:(Tk n (n+1)).length=n+1:=by unfold Tk; simp
 have bw:=bd _ lt w hw;have main:∀W:Int,ld n (n+1) (Ac A Ae)=W->W.natAbs<=2 ^ ((4+E)*n)->∃W:Int,W≠0/\W.natAbs<=2 ^ ((4+E)*n)/\∀j,j<n->∃k:Int,(W:Rat)*x j=k/\k.natAbs<=2 ^ ((4+E)*n):=by
  intro W hW hl;refine⟨W,λz=>hd (by rw[hW,z]; rfl),hl,λj hj=>?_⟩;obtain⟨l1,l2,l3⟩:=UN hx hj;obtain⟨k,hk⟩:=S7 A Ae hi ON (J9 n j);have bk:=bd _ l1 k hk;rw[hW,hk] at l3;rcases l2 with h1 | h1 <;> rw[h1] at l3
  ·exact⟨k,by grind,bk⟩
  ·refine⟨-k,?_,by rw[rz]; exact bk⟩;rw[oM]; grind
 rcases tt with e | e
 ·exact main w (by unfold ld; rw[hw,e]; grind) bw
 ·refine main (-w) ?_ (by rw[rz]; exact bw);unfold ld; rw[hw,e,oM]; grind
end Wd
namespace Mth
theorem GH:∀(n:Nat) (l:List Int),l.Nodup->(∀x∈l,0<=x/\x<n)->l.length<=n
 | 0,l,_,h=>by
  cases l with
  | nil=>exact jj _
  | cons a r =>
   have:=h a (kO ..)
   omega
 | n+1,l,hn,h=>by
  by_cases hm:(n:Int)∈l
  ·have h1:=GH n (l.erase (n:Int)) (hn.erase _) (λx hx=>by
    have hx1:=List.mem_of_mem_erase hx;have hx2:x≠(n:Int):=λz=>by
     rw[z] at hx;exact(nU.not_mem_erase hn) hx
    have:=h x hx1
    omega)
   have h2:=tq hm
   have:0<l.length:=mD hm
   omega
  ·have h1:=GH n l hn (λx hx=>by
    have hx2:x≠(n:Int):=λz=>hm (z ▸ hx)
    have:=h x hx
    omega)
   omega
theorem Kj:∀(l l':List Int),l.Nodup->(∀x∈l,x∈l')->l.length<=l'.length
 | [],_,_,_=>kH _
 | a :: r,l',hn,h=>by
  have h1:=kJ.mp hn;have h2:=Kj r (l'.erase a) h1.2 λx hx=>(List.mem_erase_of_ne (λz:x=a=>h1.1 (z ▸ hx))).mpr (h x (jX _ hx))
  have hm:=h a (kO ..);have h3:=tq hm
  have:=mD hm
  rw[ka];omega
abbrev AF(n:Nat)(e:Int):Prop:=0<=e/\e<n
def A2(φ:Int->Int):Nat->Int->Int
 | 0,s=>s
 | k+1,s=>φ (A2 φ k s)
structure Hh(φ:Int->Int)(n:Nat):Prop where
 into:∀e,AF n e->AF n (φ e)
 inj:∀a b,AF n a->AF n b->φ a=φ b->a=b
section
variable {φ:Int->Int} {n:Nat} (P:Hh φ n)
include P
theorem D3{s:Int}(hs:AF n s):∀k,AF n (A2 φ k s)
 | 0=>hs
 | k+1=>P.into _ (D3 hs k)
theorem RP{s:Int}(hs:AF n s):∀(i j:Nat),i<=j->A2 φ i s=A2 φ j s->A2 φ (j-i) s=s
 | 0,j,_,e=>by rw[Nat.sub_zero]; exact e.symm
 | i+1,0,h,_=>absurd h (by omega)
 | i+1,j+1,h,e=>by
  rw[Nat.add_sub_add_right];exact RP hs i j (by omega) (P.inj _ _ (D3 P hs i) (D3 P hs j) e)
omit P in
def IA(φ:Int->Int)(s:Int)(m:Nat):Prop:=1<=m/\A2 φ m s=s/\∀k,1<=k->k<m->A2 φ k s≠s
omit P in
theorem IA.iO{s:Int}{m m':Nat}(h:IA φ s m)(h':IA φ s m'):m=m':=by
 rcases qm m m' with z | z | z
 ·exact absurd h.2.1 (h'.2.2 m h.1 z)
 ·exact z
 ·exact absurd h'.2.1 (h.2.2 m' h'.1 z)
omit P in
def Cn(φ:Int->Int)(s:Int)(m:Nat):List Int:=(ju m).map λk=>A2 φ k s
omit P in
theorem Le{s:Int}{m:Nat}:(Cn φ s m).length=m:=by simp[Cn]
omit P in
theorem NS{s:Int}{m k:Nat}(h:k<m):(Cn φ s m)[k]?=some (A2 φ k s):=by
 unfold Cn;rw[ji,kE h];rfl
omit P in
theorem Dx{s x:Int}{m:Nat}:x∈Cn φ s m↔∃k,k<m/\A2 φ k s=x:=by simp[Cn]
omit P in
theorem QY{s:Int}{m:Nat}:Cn φ s (m+1)=Cn φ s m++[A2 φ m s]:=by simp[Cn,m9]
theorem QR{s:Int}{m:Nat}(hs:AF n s)(h:∀k,1<=k->k<m->A2 φ k s≠s):(Cn φ s m).Nodup:=by
 unfold Cn nU;rw[lP];refine pP ?_ (oP (n:=m));intro a b ha hb hab e;exact h (b-a) (by omega) (by have:=jZ.mp hb; omega) (RP P hs a b (by omega) e)
theorem UG{s:Int}(hs:AF n s):∃m,m<=n/\IA φ s m:=by
 by_cases hz:∃m,1<=m/\m<=n/\A2 φ m s=s
 ·have key:∀N m,m<=N->1<=m->m<=n->A2 φ m s=s->∃m,m<=n/\IA φ s m:=by
   intro N
   induction N with
   | zero=>intro m h1 h2; omega
   | succ N ih =>
    intro m h1 h2 h3 h4;by_cases q:∃k,1<=k/\k<m/\A2 φ k s=s
    ·obtain⟨k,k1,k2,k3⟩:=q;exact ih k (by omega) k1 (by omega) k3
    ·exact⟨m,h3,h2,h4,λk k1 k2 k3=>q ⟨k,k1,k2,k3⟩⟩
  obtain⟨m,h1,h2,h3⟩:=hz;exact key m m (jj _) h1 h2 h3
 ·have h1:=QR P (m:=n+1) hs λk k1 k2 k3=>hz ⟨k,k1,by omega,k3⟩
  have h2:=GH n _ h1 λx hx=>by
   obtain⟨k,_,e⟩:=Dx.mp hx;rw[<-e];exact D3 P hs k
  rw[Le] at h2;omega
omit P in
open Classical in
def BU(φ:Int->Int)(s:Int):Nat:=if h:∃m,IA φ s m then h.choose else 1
theorem Fi{s:Int}(hs:AF n s):IA φ s (BU φ s):=by
 obtain⟨m,_,h⟩:=UG P hs;have e:∃m,IA φ s m:=⟨m,h⟩;unfold BU;rw[dif_pos e];exact e.choose_spec
theorem UC{s:Int}(hs:AF n s):BU φ s<=n:=by
 obtain⟨m,h1,h⟩:=UG P hs;rw[(Fi P hs).iO h];exact h1
omit P in
def Ba(φ:Int->Int)(s:Int):List Int:=Cn φ s (BU φ s)
theorem cA{s:Int}(hs:AF n s):(Ba φ s).Nodup:=QR P hs (Fi P hs).2.2
theorem Kg{s x:Int}(hs:AF n s)(hx:x∈Ba φ s):AF n x:=by
 obtain⟨k,_,e⟩:=Dx.mp hx;rw[<-e];exact D3 P hs k
theorem IB{s:Int}(hs:AF n s):s∈Ba φ s:=Dx.mpr ⟨0,(Fi P hs).1,rfl⟩
theorem ZV{s x:Int}(hs:AF n s)(hx:x∈Ba φ s):φ x∈Ba φ s:=by
 obtain⟨k,hk,e⟩:=Dx.mp hx;have hp:=Fi P hs;by_cases q:k+1<BU φ s
 ·exact Dx.mpr ⟨k+1,q,by rw[<-e]; rfl⟩
 ·have:k+1=BU φ s:=by omega
  refine Dx.mpr ⟨0,hp.1,?_⟩;rw[<-e];show s=A2 φ (k+1) s;rw[this,hp.2.1]
theorem Z0{s x:Int}(hs:AF n s)(hx:AF n x)(h:φ x∈Ba φ s):x∈Ba φ s:=by
 obtain⟨k,hk,e⟩:=Dx.mp h;have hp:=Fi P hs;cases k with
 | succ k=>exact Dx.mpr ⟨k,by omega,P.inj _ _ (D3 P hs k) hx e⟩
 | zero =>
  have hm:BU φ s-1+1=BU φ s:=by have:=hp.1; omega
  refine Dx.mpr ⟨BU φ s-1,by omega,P.inj _ _ (D3 P hs _) hx ?_⟩;rw[<-e];show A2 φ (BU φ s-1+1) s=s;rw[hm];exact hp.2.1
theorem Xv{s:Int}{S:List Int}(hs:AF n s)(hS:∀x,AF n x->φ x∈S->x∈S)(h:s∉S):∀x∈Ba φ s,x∉S:=by
 intro x hx;obtain⟨k,hk,e⟩:=Dx.mp hx;subst e;clear hx hk
 induction k with
 | zero=>exact h
 | succ k ih=>exact λz=>ih (hS _ (D3 P hs k) z)
omit P in
open Classical in
def Al(φ:Int->Int):Nat->List (List Int)
 | 0=>[]
 | i+1=>if (i:Int)∈(Al φ i).flatten then Al φ i else Al φ i++[Ba φ i]
omit P in
theorem Xj{i:Nat}(h:(i:Int)∈(Al φ i).flatten):Al φ (i+1)=Al φ i:=by
 rw[Al,jq h]
omit P in
theorem X8{i:Nat}(h:(i:Int)∉(Al φ i).flatten):Al φ (i+1)=Al φ i++[Ba φ i]:=by
 rw[Al,jm h]
omit P in
structure PH(φ:Int->Int)(n i:Nat)(R:List (List Int)):Prop where
 of:∀r∈R,∃s,AF n s/\s<i/\r=Ba φ s/\∀x∈r,s<=x
 nd:R.flatten.Nodup
 all:∀e,0<=e->e<(i:Int)->e∈R.flatten
 WO:R.Pairwise λr r'=>∀s s',r=Ba φ s->AF n s->r'=Ba φ s'->AF n s'->(∀x∈r,s<=x)->(∀x∈r',s'<=x)->s<s'
theorem PH.ip{i:Nat}{R:List (List Int)}(h:PH φ n i R){x:Int}(hi:AF n x)(hx:φ x∈R.flatten):x∈R.flatten:=by
 obtain⟨r,hr,hx⟩:=jN.mp hx;obtain⟨s,hs,_,e,_⟩:=h.of r hr;subst e;exact jN.mpr ⟨_,hr,Z0 P hs hi hx⟩
theorem RB{s s':Int}(hs:AF n s)(hs':AF n s')(e:Ba φ s=Ba φ s')(h:∀x∈Ba φ s,s<=x)(h':∀x∈Ba φ s',s'<=x):s=s':=by
 have h1:=h' s (e ▸ IB P hs);have h2:=h s' (e ▸ IB P hs');omega
theorem Gs:∀i,i<=n->PH φ n i (Al φ i)
 | 0,_=>⟨λr h=>by simp[Al] at h,by simp[Al],λe h1 h2=>by omega,by simp[Al]⟩
 | i+1,hi=>by
  have ih:=Gs i (by omega);have hs:AF n (i:Int):=⟨by omega,by omega⟩;unfold Al;by_cases q:(i:Int)∈(Al φ i).flatten
  ·rw[jq q];refine⟨λr hr=>?_,ih.nd,λe h1 h2=>?_,ih.WO⟩
   ·obtain⟨s,a,b,c,d⟩:=ih.of r hr;exact⟨s,a,by omega,c,d⟩
   ·by_cases z:e=i
    ·rw[z]; exact q
    ·exact ih.all e h1 (by omega)
  ·rw[jm q];have ap:=Xv P hs (λx hx h=>ih.ip P hx h) q;have low:∀x∈Ba φ (i:Int),(i:Int)<=x:=λx hx=>by
    rcases oU x i with z | z
    ·exact absurd (ih.all x (Kg P hs hx).1 z) (ap x hx)
    ·exact z
   refine⟨λr hr=>?_,?_,λe h1 h2=>?_,?_⟩
   ·rcases jI.mp hr with hr | hr
    ·obtain⟨s,a,b,c,d⟩:=ih.of r hr;exact⟨s,a,by omega,c,d⟩
    ·have e:r=Ba φ (i:Int):=by simpa using hr
     subst e;exact⟨i,hs,by omega,rfl,low⟩
   ·rw[kI,lj];refine⟨ih.nd,by simpa using cA P hs,λx hx y hy e=>?_⟩;subst e;exact ap x (by simpa using hy) hx
   ·rw[kI,jI];by_cases z:e=i
    ·rw[z]; right; simpa using IB P hs
    ·left; exact ih.all e h1 (by omega)
   ·rw[List.pairwise_append];refine⟨ih.WO,List.pairwise_singleton ..,λr hr r' hr' s s' e hs1 e' hs1' l l'=>?_⟩;have er:r'=Ba φ (i:Int):=by simpa using hr'
    obtain⟨t,ht,hti,et,lt⟩:=ih.of r hr;have h1:s=t:=RB P hs1 ht (e.symm.trans et) (e ▸ l) (et ▸ lt);have h2:s'=(i:Int):=RB P hs1' hs (e'.symm.trans er) (e' ▸ l') low;omega
theorem XE:(Al φ n).flatten.length=n:=by
 have h:=Gs P n (jj _);have h1:=GH n _ h.nd λx hx=>by
  obtain⟨r,hr,hx⟩:=jN.mp hx;obtain⟨s,hs,_,e,_⟩:=h.of r hr;subst e;exact Kg P hs hx
 have h2:((ju n).map (λk:Nat=>(k:Int))).length<=(Al φ n).flatten.length:=by
  have nd:((ju n).map (λk:Nat=>(k:Int))).Nodup:=by
   unfold nU;rw[lP];exact nj (λ{a b} h=>by omega) (oP (n:=n))
  refine Kj _ _ nd ?_;intro x hx;obtain⟨k,hk,e⟩:=js.mp hx
  have:=jZ.mp hk
  exact h.all x (by omega) (by omega)
 rw[ja,jV] at h2;omega
end
end Mth
namespace Mth
def EF(row:List Int)(k:Nat):Int:=row.getD (if k=0 then row.length-1 else k-1) 0
def BB(row:List Int):List (Int×Int):=(ju row.length).map λk=>(row.getD k 0,EF row k)
def Az(ts:List (List Int)):List (Int×Int):=(ts.map BB).flatten
theorem Xw(row:List Int):(ju row.length).map (λk=>row.getD k 0)=row:=by
 refine tj (by simp) λi h1 h2=>?_
 simp[ve,h2]
theorem JU(row:List Int):(BB row).map (·.1)=row:=by
 unfold BB;rw[kr];exact Xw row
theorem Nm(row:List Int):(BB row).length=row.length:=by simp[BB]
theorem YX(r:List Int)(l:Int):(BB (r++[l])).map (·.2)=l :: r:=by
 unfold BB;rw[kr];have hl:(r++[l]).length=r.length+1:=by simp
 rw[hl,lU,jx,kr];congr 1
 ·show EF (r++[l]) 0=l;unfold EF;rw[jq rfl,hl];simp[ve]
 ·refine tj (by simp) λi h1 h2=>?_
  simp[EF,ve,jM h2,h2]
theorem Rv(row:List Int):((BB row).map (·.2)).Perm row:=by
 rcases List.eq_nil_or_concat row with h | ⟨r,l,h⟩
 ·subst h;exact .nil
 ·rw[List.concat_eq_append] at h;subst h;rw[YX];exact(List.perm_append_singleton l r).symm
theorem E6:∀ts:List (List Int),(Az ts).map (·.1)=ts.flatten
 | []=>rfl
 | r :: ts=>by
  have ih:=E6 ts;unfold Az at *;rw[jx,j5,jH,JU,ih,j5]
theorem JK:∀ts:List (List Int),((Az ts).map (·.2)).Perm ts.flatten
 | []=>.nil
 | r :: ts=>by
  have ih:=JK ts;unfold Az at *;rw[jx,j5,jH,j5];exact(Rv r).append ih
theorem QO(ts:List (List Int))(r:List Int):Az (ts++[r])=Az ts++BB r:=by simp[Az]
def lk(L:List (Int×Int))(e:Int):Option Int:=(L.find? λp=>decide (p.1=e)).map (·.2)
theorem Jn{L:List (Int×Int)}{e v:Int}(h:lk L e=some v):(e,v)∈L:=by
 unfold lk at h;cases q:L.find? λp=>decide (p.1=e) with
 | none=>rw[q] at h; cases h
 | some p =>
  rw[q] at h;have h1:=sT q;have h2:=wK q;have h3:p.1=e:=of_decide_eq_true h2;have h4:p.2=v:=jL h;rw[<-h3,<-h4];exact h1
theorem Lx{L:List (Int×Int)}{e:Int}(h:e∈L.map (·.1)):∃v,lk L e=some v:=by
 obtain⟨p,hp,e1⟩:=js.mp h;unfold lk;cases q:L.find? λp=>decide (p.1=e) with
 | none =>
  have:=List.find?_eq_none.mp q p hp
  exact absurd (mQ e1) this
 | some p=>exact⟨p.2,rfl⟩
theorem bD{L:List (Int×Int)}{e:Int}(h:e∉L.map (·.1)):lk L e=none:=by
 cases q:lk L e with
 | none=>rfl
 | some v=>exact absurd (js.mpr ⟨_,Jn q,rfl⟩) h
theorem Ld{α β:Type}{f:α->β}:∀{L:List α},(L.map f).Nodup->∀{p q},p∈L->q∈L->f p=f q->p=q
 | [],_,p,_,hp,_,_=>absurd hp (by simp)
 | a :: L,h,p,q,hp,hq,e=>by
  rw[jx,kJ] at h;rcases jK.mp hp with h1 | h1
  ·rcases jK.mp hq with h2 | h2
   ·rw[h1,h2]
   ·exact(h.1 (js.mpr ⟨q,h2,by rw[<-e,h1]⟩)).elim
  ·rcases jK.mp hq with h2 | h2
   ·exact(h.1 (js.mpr ⟨p,h1,by rw[e,h2]⟩)).elim
   ·exact Ld h.2 h1 h2 e
theorem MZ{L:List (Int×Int)}{e v:Int}(hn:(L.map (·.1)).Nodup)(h:(e,v)∈L):lk L e=some v:=by
 obtain⟨u,hu⟩:=Lx (js.mpr ⟨_,h,rfl⟩)
 have:=Ld hn (Jn hu) h rfl
 rw[hu,(rK this).2]
structure B4(n:Nat)(ts:List (List Int)):Prop where
 nd:ts.flatten.Nodup
 mem:∀e,e∈ts.flatten↔AF n e
 Es:n % 2=0
def AM(e:Int):Int:=if e % 2=0 then e+1 else e-1
theorem CM{n:Nat}(h:n % 2=0){e:Int}(he:AF n e):AF n (AM e):=by
 unfold AM;obtain⟨h1,h2⟩:=he;split <;> constructor <;> omega
theorem B9(e:Int):AM (AM e)=e:=by
 unfold AM;split <;> split <;> omega
def AJ(ts:List (List Int))(e:Int):Int:=(lk (Az ts) (AM e)).getD 0
section
variable {n:Nat} {ts:List (List Int)} (T:B4 n ts)
include T
theorem B4.len:ts.flatten.length=n:=by
 have h1:=GH n _ T.nd λx hx=>(T.mem x).mp hx
 have h2:((ju n).map (λk:Nat=>(k:Int))).length<=ts.flatten.length:=by
  have nd:((ju n).map (λk:Nat=>(k:Int))).Nodup:=by
   unfold nU;rw[lP];exact nj (λ{a b} h=>by omega) (oP (n:=n))
  refine Kj _ _ nd λx hx=>?_
  obtain⟨k,hk,e⟩:=js.mp hx
  have:=jZ.mp hk
  exact(T.mem x).mpr ⟨by omega,by omega⟩
 rw[ja,jV] at h2;omega
theorem B4.gh:(Az ts).length=n:=by
 have:=congrArg m7 (E6 ts)
 rw[ja,T.len] at this;exact this
theorem B4.Ft{e:Int}(he:AF n e):∃v,lk (Az ts) e=some v/\AF n v:=by
 obtain⟨v,hv⟩:=Lx (L:=Az ts) (e:=e) (by rw[E6]; exact(T.mem e).mpr he);refine⟨v,hv,(T.mem v).mp ?_⟩;exact(JK ts).mem_iff.mp (js.mpr ⟨_,Jn hv,rfl⟩)
theorem B4.Kp{e:Int}(he:AF n e):lk (Az ts) (AM e)=some (AJ ts e):=by
 obtain⟨v,hv,_⟩:=T.Ft (CM T.Es he);unfold AJ;rw[hv];rfl
theorem B4.perm:Hh (AJ ts) n:=by
 refine⟨λe he=>?_,λa b ha hb e=>?_⟩
 ·obtain⟨v,hv,hi⟩:=T.Ft (CM T.Es he);unfold AJ;rw[hv];exact hi
 ·have h1:=Jn (T.Kp ha);have h2:=Jn (T.Kp hb);rw[e] at h1;have nd:((Az ts).map (·.2)).Nodup:=(JK ts).nodup_iff.mpr T.nd;have h3:=(rK (Ld nd h1 h2 rfl)).1;rw[<-B9 a,h3,B9]
end
def CO:Nat->List (List Int)->List (Int×Int)
 | _,[]=>[]
 | i,r :: R=>r.map (λe=>(e,(i:Int)))++CO (i+1) R
theorem NT:∀(i:Nat) (R:List (List Int)) (r:List Int),CO i (R++[r])=CO i R++r.map λe=>(e,((i+R.length:Nat):Int))
 | i,[],r=>by simp[CO]
 | i,s :: R,r=>by
  rw[nz];unfold CO;rw[NT (i+1) R r,kN];congr 3
  funext e
  rw[ka,Nat.add_right_comm,Nat.add_assoc]
theorem FZ:∀(i:Nat) (R:List (List Int)),(CO i R).map (·.1)=R.flatten
 | _,[]=>rfl
 | i,r :: R=>by
  unfold CO;rw[jH,FZ (i+1) R,kr,j5];congr 1;exact xj (λ_=>rfl) r
theorem C0{α:Type}{R:List α}{j:Nat}{r:α}(h:R[j]?=some r):R.take (j+1)=R.take j++[r]:=by
 rw[vO,h];rfl
section
variable {φ:Int->Int} {n:Nat} (P:Hh φ n)
include P
theorem b8{s:Int}(hs:AF n s):(Ba φ s).headD 0=s:=by
 have h:=(Fi P hs).1;unfold Ba Cn;obtain⟨m,e⟩:∃m,BU φ s=m+1:=⟨BU φ s-1,by omega⟩;rw[e,lU,jx];rfl
theorem JS{r:List Int}(h:r∈Al φ n):AF n (r.headD 0)/\r=Ba φ (r.headD 0)/\∀x∈r,r.headD 0<=x:=by
 obtain⟨s,hs,_,e,l⟩:=(Gs P n (jj _)).of r h;subst e;rw[b8 P hs];exact⟨hs,rfl,l⟩
theorem HL:(Al φ n).flatten.Nodup:=(Gs P n (jj _)).nd
theorem Ek{x:Int}:x∈(Al φ n).flatten↔AF n x:=by
 constructor
 ·intro h;obtain⟨r,hr,hx⟩:=jN.mp h;obtain⟨h1,h2,_⟩:=JS P hr;rw[h2] at hx;exact Kg P h1 hx
 ·intro h;exact(Gs P n (jj _)).all x h.1 h.2
theorem Xo{s:Int}(hs:AF n s){k:Nat}{x:Int}(hx:(Ba φ s)[k]?=some x):∃y,y∈Ba φ s/\(Ba φ s)[if k=0 then (Ba φ s).length-1 else k-1]?=some y/\φ y=x:=by
 have hp:=Fi P hs;have hl:(Ba φ s).length=BU φ s:=Le;have hk:k<BU φ s:=by rw[<-hl]; exact(jc.mp hx).1
 have hx2:A2 φ k s=x:=jL ((NS hk).symm.trans hx);rw[hl];cases k with
 | zero =>
  rw[jq rfl];refine⟨A2 φ (BU φ s-1) s,Dx.mpr ⟨_,by omega,rfl⟩,NS (by omega),?_⟩;have h1:BU φ s-1+1=BU φ s:=by omega
  show A2 φ (BU φ s-1+1) s=x;rw[h1,hp.2.1,<-hx2];rfl
 | succ k =>
  rw[jm (by omega)];exact⟨A2 φ k s,Dx.mpr ⟨_,by omega,rfl⟩,NS (by omega),hx2⟩
end
end Mth
namespace Mth
theorem Jm{l m:List Int}:(l++m).Nodup↔l.Nodup/\m.Nodup/\∀x∈l,x∉m:=by
 rw[lj];constructor
 ·rintro⟨a,b,c⟩;exact⟨a,b,λx hx hm=>c x hx x hm rfl⟩
 ·rintro⟨a,b,c⟩;exact⟨a,b,λx hx y hy e=>c x hx (e ▸ hy)⟩
theorem cB{n:Nat}{x:Int}:AF (n+1) x↔AF n x\/x=n:=by
 constructor
 ·rintro⟨a,b⟩;rcases oU x n with h | h
  ·exact .inl ⟨a,h⟩
  ·right; omega
 ·rintro(⟨a,b⟩ | rfl)
  ·exact⟨a,by omega⟩
  ·exact⟨by omega,by omega⟩
def cp:Int->List Int->List (Int×Int)
 | _,[]=>[]
 | y,a :: l=>(a,y) :: cp a l
theorem UY:∀(y:Int) (l:List Int),(cp y l).length=l.length
 | _,[]=>rfl
 | _,a :: l=>by simp[cp,UY a l]
theorem Tn:∀(y:Int) (l:List Int) (k:Nat),k<l.length->(cp y l)[k]?=some (l.getD k 0,if k=0 then y else l.getD (k-1) 0)
 | _,a :: l,0,_=>rfl
 | y,a :: l,k+1,h=>by
  show(cp a l)[k]?=_;rw[Tn a l k (by simpa using h)];cases k with
  | zero=>rfl
  | succ k=>simp
theorem Em(row:List Int):BB row=cp (row.getLastD 0) row:=by
 refine oS λk=>?_
 by_cases h:k<row.length
 ·rw[Tn _ _ _ h];unfold BB EF;rw[ji,kE h];show some (row.getD k 0,row.getD (if k=0 then row.length-1 else k-1) 0)=_;congr 2;by_cases z:k=0
  ·rw[jq z,jq z];rw[kq,List.getLast?_eq_getElem?,je]
  ·rw[jm z,jm z]
 ·rw[kW (by rw[Nm]; omega),kW (by rw[UY]; omega)]
theorem MD:∀(y:Int) (l m:List Int),cp y (l++m)=cp y l++cp (l.getLastD y) m
 | _,[],m=>rfl
 | y,a :: l,m=>by
  show(a,y) :: cp a (l++m)=(a,y) :: (cp a l++cp ((a :: l).getLastD y) m);rw[MD a l m,show(a :: l).getLastD y=l.getLastD a by cases l <;> rfl]
theorem MT(ρ:Int->Int):∀(y:Int) (l:List Int),cp (ρ y) (l.map ρ)=(cp y l).map λp=>(ρ p.1,ρ p.2)
 | _,[]=>rfl
 | y,a :: l=>by
  show(ρ a,ρ y) :: cp (ρ a) (l.map ρ)=_;rw[MT ρ a l]; rfl
def pr(ts:List (List Int))(x:Int):Int:=(lk (Az ts) x).getD 0
theorem Bb(ts:List (List Int))(e:Int):AJ ts e=pr ts (AM e):=rfl
theorem DS{ts:List (List Int)}(nd:ts.flatten.Nodup){x y:Int}(h:(x,y)∈Az ts):pr ts x=y:=by
 unfold pr;rw[MZ (by rw[E6]; exact nd) h]; rfl
theorem GG{ts:List (List Int)}(nd:ts.flatten.Nodup){x:Int}(h:x∈ts.flatten):(x,pr ts x)∈Az ts:=by
 rw[<-E6] at h;obtain⟨v,hv⟩:=Lx h
 have:=Jn hv
 unfold pr;rw[hv]; exact this
theorem KL(A B:List (List Int)):Az (A++B)=Az A++Az B:=by simp[Az]
theorem JM(A B:List (List Int))(r:List Int):Az (A++r :: B)=Az A++(BB r++Az B):=by simp[Az]
theorem Gx(A B:List (List Int))(r:List Int):(A++r :: B).flatten=A.flatten++(r++B.flatten):=by simp
theorem Uy{A B:List (List Int)}{t1 t2:List Int}{s e:Int}(nd:(A++(t1++s :: t2) :: B).flatten.Nodup)(he:e∉(A++(t1++s :: t2) :: B).flatten):
  (A++(t1++e :: s :: t2) :: B).flatten.Nodup/\(∀x,x∈(A++(t1++e :: s :: t2) :: B).flatten↔x∈(A++(t1++s :: t2) :: B).flatten\/x=e) /\
  pr (A++(t1++e :: s :: t2) :: B) s=e/\pr (A++(t1++e :: s :: t2) :: B) e=pr (A++(t1++s :: t2) :: B) s /\
  ∀x,x∈(A++(t1++s :: t2) :: B).flatten->x≠s->pr (A++(t1++e :: s :: t2) :: B) x=pr (A++(t1++s :: t2) :: B) x:=by
 have p:pQ (A++(t1++e :: s :: t2) :: B).flatten (e :: (A++(t1++s :: t2) :: B).flatten):=by
  rw[Gx,Gx,show A.flatten++(t1++e :: s :: t2++B.flatten)=(A.flatten++t1)++e :: (s :: t2++B.flatten) by simp];exact List.perm_middle.trans (pQ.cons _ (pQ.of_eq (by simp)))
 have nd':(A++(t1++e :: s :: t2) :: B).flatten.Nodup:=p.nodup_iff.mpr (kJ.mpr ⟨he,nd⟩);have hl:(t1++e :: s :: t2).getLastD 0=(t1++s :: t2).getLastD 0:=by
  rw[kq,kq,o8,o8];rw[show(e :: s :: t2).getLast?=(s :: t2).getLast? by simp[List.getLast?_cons_cons]]
 generalize hy:(t1++s :: t2).getLastD 0=y at hl;have r1:BB (t1++s :: t2)=cp y t1++(s,t1.getLastD y) :: cp s t2:=by rw[Em,hy,MD]; rfl
 have r2:BB (t1++e :: s :: t2)=cp y t1++(e,t1.getLastD y) :: (s,e) :: cp s t2:=by rw[Em,hl,MD]; rfl
 have ps:pr (A++(t1++s :: t2) :: B) s=t1.getLastD y:=DS nd (by rw[JM,r1]; simp);refine⟨nd',λx=>p.mem_iff.trans (by simp only[jK]; exact or_comm),DS nd' (by rw[JM,r2]; simp),?_,λx hx xs=>?_⟩
 ·rw[ps];exact DS nd' (by rw[JM,r2]; simp)
 ·refine DS nd' ?_;have m:=GG nd hx;rw[JM,r1] at m;rw[JM,r2];simp only[jI,jK,uz.injEq] at m ⊢;rcases m with z | (z | z | z) | z
  ·exact .inl z
  ·exact .inr (.inl (.inl z))
  ·exact absurd z.1 xs
  ·exact .inr (.inl (.inr (.inr (.inr z))))
  ·exact .inr (.inr z)
theorem cV{A B:List (List Int)}{t:List Int}{a f:Int}(nd:(A++t :: B).flatten.Nodup)(ha:a∈t)(hf:f∉(A++t :: B).flatten):
  (A++(t.map λx=>if x=a then f else x) :: B).flatten.Nodup/\(∀x,x∈(A++(t.map λx=>if x=a then f else x) :: B).flatten↔(x∈(A++t :: B).flatten/\x≠a)\/x=f) /\
  pr (A++(t.map λx=>if x=a then f else x) :: B) f=(if pr (A++t :: B) a=a then f else pr (A++t :: B) a) /\
  ∀x,x∈(A++t :: B).flatten->x≠a->pr (A++(t.map λx=>if x=a then f else x) :: B) x=(if pr (A++t :: B) x=a then f else pr (A++t :: B) x):=by
 generalize hρ:(λx=>if x=a then f else x)=ρ;have ra:ρ a=f:=by rw[<-hρ]; simp
 have rx:∀x,x≠a->ρ x=x:=λx h=>by rw[<-hρ]; simp[h]
 have rr:∀z,(if z=a then f else z)=ρ z:=λz=>by rw[<-hρ]
 rw[Gx] at nd hf;obtain⟨n1,n2,n3⟩:=Jm.mp nd;obtain⟨n4,n5,n6⟩:=Jm.mp n2;simp only[jI,not_or] at hf;have inj:∀x y,x∈t->y∈t->ρ x=ρ y->x=y:=λx y hx hy e=>by
  by_cases xa:x=a
  ·by_cases ya:y=a
   ·rw[xa,ya]
   ·rw[xa,ra,rx y ya] at e; exact absurd (e ▸ hy) hf.2.1
  ·by_cases ya:y=a
   ·rw[ya,ra,rx x xa] at e; exact absurd (e ▸ hx) hf.2.1
   ·rwa [rx x xa,rx y ya] at e
 have ndm:(t.map ρ).Nodup:=by
  unfold nU;rw[lP];exact pP (λ{x y} hx hy h e=>h (inj x y hx hy e)) n4
 have mm:∀x,x∈t.map ρ↔(x∈t/\x≠a)\/x=f:=λx=>by
  rw[js];constructor
  ·rintro⟨y,hy,rfl⟩;by_cases ya:y=a
   ·right; rw[ya,ra]
   ·left; rw[rx y ya]; exact⟨hy,ya⟩
  ·rintro(⟨h1,h2⟩ | rfl)
   ·exact⟨x,h1,rx x h2⟩
   ·exact⟨a,ha,ra⟩
 have aA:a∉A.flatten:=λz=>n3 a z (by simp[ha])
 have aB:a∉B.flatten:=λz=>n6 a ha z
 have nd':(A++(t.map ρ) :: B).flatten.Nodup:=by
  rw[Gx,Jm,Jm];refine⟨n1,⟨ndm,n5,λx hx=>?_⟩,λx hx=>?_⟩
  ·rcases(mm x).mp hx with z | z
   ·exact n6 x z.1
   ·rw[z]; exact hf.2.2
  ·intro z;rcases jI.mp z with z | z
   ·rcases(mm x).mp z with w | w
    ·exact n3 x hx (by simp[w.1])
    ·exact hf.1 (w ▸ hx)
   ·exact n3 x hx (by simp[z])
 have row:BB (t.map ρ)=(BB t).map λp=>(ρ p.1,ρ p.2):=by
  rw[Em,Em,<-MT];congr 1;cases t with
  | nil=>cases ha
  | cons b l =>
   rw[kq,kq,su];rw[oJ]; rfl
 have old:∀{x y},(x,y)∈Az (A++t :: B)->x∈(A++t :: B).flatten/\y∈(A++t :: B).flatten:=λ{x y} h=>by
  constructor
  ·rw[<-E6]; exact js.mpr ⟨_,h,rfl⟩
  ·exact(JK _).mem_iff.mp (js.mpr ⟨_,h,rfl⟩)
 have ndO:(A++t :: B).flatten.Nodup:=by rw[Gx]; exact nd
 have snd_in:∀{L:List (List Int)} {x y:Int},(x,y)∈Az L->y∈L.flatten:=λ{L x y} h=>(JK _).mem_iff.mp (js.mpr ⟨_,h,rfl⟩)
 have go:∀x y,(x,y)∈Az (A++t :: B)->(ρ x,ρ y)∈Az (A++(t.map ρ) :: B):=λx y h=>by
  have hx:=(old h).1;rw[JM] at h ⊢;rw[row];rcases jI.mp h with z | z
  ·have xA:x∈A.flatten:=by rw[<-E6]; exact js.mpr ⟨_,z,rfl⟩
   have yA:=snd_in z;rw[rx x (λe=>aA (e ▸ xA)),rx y (λe=>aA (e ▸ yA))];exact mh _ z
  rcases jI.mp z with z | z
  ·exact kj _ (mh _ (js.mpr ⟨_,z,rfl⟩))
  ·have xB:x∈B.flatten:=by rw[<-E6]; exact js.mpr ⟨_,z,rfl⟩
   have yB:=snd_in z;rw[rx x (λe=>aB (e ▸ xB)),rx y (λe=>aB (e ▸ yB))];exact kj _ (kj _ z)
 have am:a∈(A++t :: B).flatten:=by rw[Gx]; simp[ha]
 refine⟨nd',λx=>?_,?_,λx hx xa=>?_⟩
 ·rw[Gx,Gx];simp only[jI,mm];constructor
  ·rintro(z | (z | z) | z)
   ·exact .inl ⟨.inl z,λe=>aA (e ▸ z)⟩
   ·exact .inl ⟨.inr (.inl z.1),z.2⟩
   ·exact .inr z
   ·exact .inl ⟨.inr (.inr z),λe=>aB (e ▸ z)⟩
  ·rintro(⟨z | z | z,w⟩ | z)
   ·exact .inl z
   ·exact .inr (.inl (.inl ⟨z,w⟩))
   ·exact .inr (.inr z)
   ·exact .inr (.inl (.inr z))
 ·rw[rr]
  have:=go _ _ (GG ndO am)
  rw[ra] at this;exact DS nd' this
 ·rw[rr]
  have:=go _ _ (GG ndO hx)
  rw[rx x xa] at this;exact DS nd' this
theorem ZY{ts:List (List Int)}{a:Int}(nd:ts.flatten.Nodup)(ha:a∉ts.flatten):(ts++[[a]]).flatten.Nodup/\pr (ts++[[a]]) a=a/\∀x,x∈ts.flatten->pr (ts++[[a]]) x=pr ts x:=by
 have nd':(ts++[[a]]).flatten.Nodup:=by
  rw[kI,Jm];exact⟨nd,by simp,λx hx h=>ha (by simp at h; exact h ▸ hx)⟩
 refine⟨nd',DS nd' ?_,λx hx=>DS nd' ?_⟩
 ·rw[KL]; exact kj _ (by simp[Az,Em,cp])
 ·rw[KL]; exact mh _ (GG nd hx)
theorem Zx{ts:List (List Int)}{a b:Int}(nd:ts.flatten.Nodup)(ha:a∉ts.flatten)(hb:b∉ts.flatten)(ab:a≠b):(ts++[[a,b]]).flatten.Nodup/\pr (ts++[[a,b]]) a=b/\pr (ts++[[a,b]]) b=a/\∀x,x∈ts.flatten->pr (ts++[[a,b]]) x=pr ts x:=by
 have nd':(ts++[[a,b]]).flatten.Nodup:=by
  rw[kI,Jm];refine⟨nd,by simp[ab],λx hx h=>?_⟩;simp at h;rcases h with z | z
  ·exact ha (z ▸ hx)
  ·exact hb (z ▸ hx)
 refine⟨nd',DS nd' ?_,DS nd' ?_,λx hx=>DS nd' ?_⟩
 ·rw[KL]; exact kj _ (by simp[Az,Em,cp])
 ·rw[KL]; exact kj _ (by simp[Az,Em,cp])
 ·rw[KL]; exact mh _ (GG nd hx)
structure Du(φ:Int->Int)(n:Nat):Prop where
 Cp:∀S:Int->Prop,(∀x,AF n x->(S x↔S (φ x)))->(∀k:Nat,1<=k->2*k+1<n->(S (2*(k:Int))↔S (2*(k:Int)+1)))->S 1->∀x,AF n x->S x
section
variable {φ ψ:Int->Int} {n:Nat} {a b:Int}
theorem C5{x:Int}:AF (n+2) x↔AF n x\/x=n\/x=(n:Int)+1:=by
 constructor
 ·rintro⟨h1,h2⟩;push_cast at h2;by_cases z:x<n
  ·exact .inl ⟨h1,z⟩
  ·omega
 ·rintro(⟨h1,h2⟩ | rfl | rfl)
  ·exact⟨h1,by push_cast; omega⟩
  ·exact⟨by omega,by push_cast; omega⟩
  ·exact⟨by omega,by push_cast; omega⟩
theorem Du.LD(D:Du φ n)(into:∀x,AF n x->AF n (φ x))(n2:2<=n)(ha:AF n a)(h1:ψ a=n)(h2:ψ n=(n:Int)+1)(h3:ψ ((n:Int)+1)=φ a)(h4:∀x,AF n x->x≠a->ψ x=φ x):Du ψ (n+2):=by
 refine⟨λS hS hr h0=>?_⟩
 ·have up:∀{x:Int},AF n x->AF (n+2) x:=λh=>C5.mpr (.inl h)
  have hN:S n↔S ((n:Int)+1):=by have:=hS n (C5.mpr (.inr (.inl rfl))); rwa [h2] at this
  have hN1:S ((n:Int)+1)↔S (φ a):=by have:=hS ((n:Int)+1) (C5.mpr (.inr (.inr rfl))); rwa [h3] at this
  have hA:S a↔S n:=by have:=hS a (up ha); rwa [h1] at this
  have old:=D.Cp S (λx hx=>by
   by_cases e:x=a
   ·rw[e]; exact hA.trans (hN.trans hN1)
   ·have:=hS x (up hx); rwa [h4 x hx e] at this) (λk k1 k2=>hr k k1 (by omega)) h0
  intro x hx;rcases C5.mp hx with z | rfl | rfl
  ·exact old x z
  ·exact hA.mp (old a ha)
  ·exact hN.mp (hA.mp (old a ha))
theorem Rx{S:Int->Prop}(hS:∀x,AF n x->(S x↔S (φ x)))(into:∀x,AF n x->AF n (φ x))(ha:AF n a):∀k,AF n (A2 φ k a)/\(S a↔S (A2 φ k a))
 | 0=>⟨ha,Iff.rfl⟩
 | k+1=>by
  obtain⟨h1,h2⟩:=Rx hS into ha k;exact⟨into _ h1,h2.trans (hS _ h1)⟩
theorem Du.K2(D:Du φ n)(into:∀x,AF n x->AF n (φ x))(n2:2<=n)(ev:n % 2=0)(ha:AF n a)(kb:∃k,A2 φ k a=b)(h1:a≠b->ψ a=n)(h2:a≠b->ψ n=φ b)(h2':a=b->ψ n=n)(h3:ψ b=(n:Int)+1)(h5:ψ ((n:Int)+1)=φ a)(h4:∀x,AF n x->x≠a->x≠b->ψ x=φ x):Du ψ (n+2):=by
 obtain⟨k,hk⟩:=kb;have hb:AF n b:=by rw[<-hk]; exact(Rx (S:=λ_=>True) (λ_ _=>Iff.rfl) into ha k).1
 refine⟨λS hS hr h0=>?_⟩
 ·have up:∀{x:Int},AF n x->AF (n+2) x:=λh=>C5.mpr (.inl h)
  have hR:S n↔S ((n:Int)+1):=by
   have:=hr (n / 2) (by omega) (by omega)
   rwa [show 2*((n / 2:Nat):Int)=(n:Int) by omega] at this
  have hN1:S ((n:Int)+1)↔S (φ a):=by have:=hS ((n:Int)+1) (C5.mpr (.inr (.inr rfl))); rwa [h5] at this
  have hB:S b↔S ((n:Int)+1):=by have:=hS b (up hb); rwa [h3] at this
  have old:=D.Cp S (λx hx=>by
   by_cases eb:x=b
   ·by_cases ab:a=b
    ·rw[eb,<-ab];rw[<-ab] at hB;exact hB.trans hN1
    ·have hN:S n↔S (φ b):=by have:=hS n (C5.mpr (.inr (.inl rfl))); rwa [h2 ab] at this
     rw[eb];exact hB.trans (hR.symm.trans hN)
   ·by_cases ea:x=a
    ·have hA:S a↔S n:=by have:=hS a (up ha); rwa [h1 (λe=>eb (ea.trans e))] at this
     rw[ea];exact hA.trans (hR.trans hN1)
    ·have:=hS x (up hx); rwa [h4 x hx ea eb] at this) (λk k1 k2=>hr k k1 (by omega)) h0
  intro x hx;rcases C5.mp hx with z | rfl | rfl
  ·exact old x z
  ·exact hR.mpr (hB.mp (old b hb))
  ·exact hB.mp (old b hb)
theorem Du.part{q pe:Int}(D:Du φ n)(into:∀x,AF n x->AF n (φ x))(n2:2<=n)(hq:AF n q)(hp:AF n pe)(h1:ψ q=n)(h2:ψ n=(if φ q=pe then (n:Int)+1 else φ q))(h3:ψ ((n:Int)+1)=pe)(h4:∀x,AF n x->x≠q->ψ x=(if φ x=pe then (n:Int)+1 else φ x)):Du ψ (n+2):=by
 refine⟨λS hS hr h0=>?_⟩
 ·have up:∀{x:Int},AF n x->AF (n+2) x:=λh=>C5.mpr (.inl h)
  have hN1:S ((n:Int)+1)↔S pe:=by have:=hS ((n:Int)+1) (C5.mpr (.inr (.inr rfl))); rwa [h3] at this
  have kk:∀x,(S (if φ x=pe then (n:Int)+1 else φ x)↔S (φ x)):=λx=>by
   by_cases e:φ x=pe
   ·rw[jq e,e]; exact hN1
   ·rw[jm e]
  have hQ:S q↔S n:=by have:=hS q (up hq); rwa [h1] at this
  have old:=D.Cp S (λx hx=>by
   by_cases e:x=q
   ·have hN:=hS n (C5.mpr (.inr (.inl rfl)));rw[h2] at hN;rw[e];exact hQ.trans (hN.trans (kk q))
   ·have:=hS x (up hx)
    rw[h4 x hx e] at this;exact this.trans (kk x)) (λk k1 k2=>hr k k1 (by omega)) h0
  intro x hx;rcases C5.mp hx with z | rfl | rfl
  ·exact old x z
  ·exact hQ.mp (old q hq)
  ·exact hN1.mpr (old pe hp)
def CS(ts:List (List Int))(n:Nat):Prop:=∀f:Int->Rat,(∀x,AF n x->f (AM x)=- f x)->(∀t∈ts,(t.map f).sum=0)->∃p:Int->Rat,(∀x,AF n x->p (AJ ts x)=p x)/\∀x,AF n x->p x-p (AM x)=f x
theorem dF{p:Nat->Prop}:∀k,p k->∃k,p k/\∀j,j<k->¬p j:=by
 intro k
 induction k using Nat.strongRecOn with
 | ind k ih =>
  intro h;by_cases z:∃j,j<k/\p j
  ·obtain⟨j,h1,h2⟩:=z;exact ih j h1 h2
  ·exact⟨k,h,λj hj q=>z ⟨j,hj,q⟩⟩
theorem R8(φ:Int->Int)(s:Int)(i:Nat):∀k,A2 φ k (A2 φ i s)=A2 φ (k+i) s
 | 0=>by rw[oj]; rfl
 | k+1=>by
  rw[show k+1+i=(k+i)+1 by omega];show φ (A2 φ k (A2 φ i s))=φ (A2 φ (k+i) s);rw[R8 φ s i k]
def Cg(φ:Int->Int)(a:Int):Nat->Int->Rat
 | 0,_=>0
 | k+1,x=>Cg φ a k x+if A2 φ (k+1) a=x then 1 else 0
theorem RG{φ:Int->Int}{n:Nat}(PM:Hh φ n){a x:Int}(ha:AF n a)(hx:AF n x):∀k,Cg φ a k (φ x)=Cg φ a k x+(if x=a then 1 else 0)-(if A2 φ k a=x then 1 else 0)
 | 0=>by
  show(0:Rat)=0+(if x=a then 1 else 0)-(if a=x then 1 else 0);by_cases e:x=a
  ·rw[jq e,jq e.symm]; grind
  ·rw[jm e,jm (λz=>e z.symm)]; grind
 | k+1=>by
  show Cg φ a k (φ x)+(if φ (A2 φ k a)=φ x then 1 else 0)=Cg φ a k x+(if A2 φ (k+1) a=x then 1 else 0)+(if x=a then 1 else 0)-(if A2 φ (k+1) a=x then 1 else 0);rw[RG PM ha hx k];by_cases e:A2 φ k a=x
  ·rw[jq e,jq (show φ (A2 φ k a)=φ x by rw[e])]; grind
  ·rw[jm e,jm (show ¬φ (A2 φ k a)=φ x from λz=>e (PM.inj _ _ (D3 PM ha k) hx z))]; grind
theorem aN{φ:Int->Int}{n:Nat}(PM:Hh φ n){a b:Int}(ha:AF n a)(kb:∃k,A2 φ k a=b):∃χ:Int->Rat,(∀x,AF n x->χ (φ x)=χ x+(if x=a then 1 else 0)-(if x=b then 1 else 0))/\(a≠b->χ b=χ a+1):=by
 obtain⟨k0,hk0⟩:=kb;obtain⟨k,hk,mn⟩:=dF (p:=λk=>A2 φ k a=b) k0 hk0;have st:∀x,AF n x->Cg φ a k (φ x)=Cg φ a k x+(if x=a then 1 else 0)-(if x=b then 1 else 0):=λx hx=>by
  rw[RG PM ha hx k,hk];by_cases e:x=b
  ·rw[jq e,jq (show b=x from e.symm)]
  ·rw[jm e,jm (show ¬b=x from λz=>e z.symm)]
 refine⟨Cg φ a k,st,λab=>?_⟩;have go:∀j,j<k->Cg φ a k (A2 φ (j+1) a)=Cg φ a k a+1:=by
  intro j
  induction j with
  | zero =>
   intro _;show Cg φ a k (φ a)=_;rw[st a ha,jq rfl,jm ab]; grind
  | succ j ih =>
   intro hj;show Cg φ a k (φ (A2 φ (j+1) a))=_;have e1:A2 φ (j+1) a≠a:=λe=>mn (k-(j+1)) (by omega) (by
    show A2 φ (k-(j+1)) a=b
    have:=R8 φ a (j+1) (k-(j+1))
    rw[e,show k-(j+1)+(j+1)=k by omega,hk] at this;exact this)
   rw[st _ (D3 PM ha _),jm e1,jm (mn (j+1) (by omega)),ih (by omega)]; grind
 have k0:0<k:=by
  rcases nI k with z | z
  ·subst z; exact absurd hk ab
  ·exact z
 have:=go (k-1) (by omega)
 rw[show k-1+1=k by omega,hk] at this;exact this
theorem Lo{l m:List Rat}(h:l.Perm m):l.sum=m.sum:=by
 induction h with
 | nil=>rfl
 | cons a _ ih=>rw[j7,j7,ih]
 | swap a b l=>rw[j7,j7,j7,j7]; grind
 | trans _ _ i1 i2=>exact i1.trans i2
theorem Jf{f g:Int->Rat}:∀t:List Int,(t.map λx=>f x+g x).sum=(t.map f).sum+(t.map g).sum
 | []=>by simp; grind
 | a :: t=>by rw[jx,jx,jx,j7,j7,j7,Jf t]; grind
theorem JN{f:Int->Rat}(c:Rat):∀t:List Int,(t.map λx=>c*f x).sum=c*(t.map f).sum
 | []=>by simp
 | a :: t=>by rw[jx,jx,j7,j7,JN c t]; grind
theorem Nk{f g:Int->Rat}{t:List Int}(h:∀x∈t,f x=g x):(t.map f).sum=(t.map g).sum:=by rw[lX h]
theorem OL{s:Int}:∀{t:List Int},t.Nodup->(t.map λx=>if x=s then (1:Rat) else 0).sum=if s∈t then 1 else 0
 | [],_=>by simp
 | a :: t,nd=>by
  rw[kJ] at nd;rw[jx,j7,OL nd.2];by_cases e:a=s
  ·subst e; rw[jq rfl,jm nd.1,jq (by simp)]; grind
  ·rw[jm e];by_cases z:s∈t
   ·rw[jq z,jq (by simp[z])]; grind
   ·rw[jm z,jm (show ¬s∈a :: t from λq=>(jK.mp q).elim (λq=>e q.symm) z)]; grind
theorem R0{ts:List (List Int)}(nd:ts.flatten.Nodup){t:List Int}(ht:t∈ts)(g:Int->Rat):(t.map λx=>g (pr ts x)).sum=(t.map g).sum:=by
 have h1:(t.map λx=>g (pr ts x))=((BB t).map λp=>g p.2):=by
  conv=>lhs; rw[<-JU t]
  rw[kr];refine lX λp hp=>?_
  show g (pr ts p.1)=g p.2;rw[DS nd (x:=p.1) (y:=p.2) (jN.mpr ⟨BB t,js.mpr ⟨t,ht,rfl⟩,hp⟩)]
 rw[h1,show((BB t).map λp=>g p.2)=((BB t).map (·.2)).map g by rw[kr]; rfl];exact Lo ((Rv t).map g)
variable {ts ts':List (List Int)}
def FE(p:Int->Rat)(n:Nat)(u v:Rat)(x:Int):Rat:=if x=(n:Int) then u else if x=(n:Int)+1 then v else p x
theorem HR(p:Int->Rat)(u v:Rat):FE p n u v (n:Int)=u:=jq rfl
theorem HQ(p:Int->Rat)(u v:Rat):FE p n u v ((n:Int)+1)=v:=by unfold FE; rw[jm (by omega),jq rfl]
theorem Dk(p:Int->Rat)(u v:Rat){x:Int}(h:AF n x):FE p n u v x=p x:=by unfold FE; rw[jm (λe=>by have:=h.2; omega),jm (λe=>by have:=h.2; omega)]
theorem CS.CI{p:Int->Rat}{f:Int->Rat}{u v:Rat}(ev:n % 2=0)(anti:∀x,AF (n+2) x->f (AM x)=- f x)(d:∀x,AF n x->p x-p (AM x)=f x)(h:u-v=f n):∀x,AF (n+2) x->FE p n u v x-FE p n u v (AM x)=f x:=λx hx=>by
 have o1:AM (n:Int)=(n:Int)+1:=by unfold AM; rw[jq (by omega)]
 have o2:AM ((n:Int)+1)=n:=by unfold AM; rw[jm (by omega)]; omega
 rcases C5.mp hx with z | rfl | rfl
 ·rw[Dk _ _ _ z,Dk _ _ _ (CM ev z)]; exact d x z
 ·rw[o1,HR,HQ]; exact h
 ·have:=anti n (C5.mpr (.inr (.inl rfl)))
  rw[o1] at this;rw[o2,HR,HQ,this]
  grind
theorem up2{x:Int}(h:AF n x):AF (n+2) x:=C5.mpr (.inl h)
theorem CS.LD (D:CS ts n) (ev:n % 2=0) (into:∀x,AF n x->AF n (AJ ts x)) (ha:AF n a) (h1:AJ ts' a=n) (h2:AJ ts' n=(n:Int)+1) (h3:AJ ts' ((n:Int)+1)=AJ ts a) (h4:∀x,AF n x->x≠a->AJ ts' x=AJ ts x)
  (hb:∀f:Int->Rat,(∀t∈ts',(t.map f).sum=0)->f ((n:Int)+1)=0/\(f n=0->∀t∈ts,(t.map f).sum=0)):CS ts' (n+2):=λf anti bal=>by
 obtain⟨b1,b2⟩:=hb f bal;have o2:AM ((n:Int)+1)=n:=by unfold AM; rw[jm (by omega)]; omega
 have f0:f n=0:=by
  have:=anti ((n:Int)+1) (C5.mpr (.inr (.inr rfl)))
  rw[o2,b1] at this;rw[this]; grind
 obtain⟨p,i1,d1⟩:=D f (λx hx=>anti x (up2 hx)) (b2 f0);refine⟨FE p n (p a) (p a),λx hx=>?_,CS.CI ev anti d1 (by rw[f0]; grind)⟩;rcases C5.mp hx with z | rfl | rfl
 ·by_cases e:x=a
  ·rw[e,h1,HR,Dk _ _ _ ha]
  ·rw[h4 x z e,Dk _ _ _ (into x z),Dk _ _ _ z]; exact i1 x z
 ·rw[h2,HR,HQ]
 ·rw[h3,HQ,Dk _ _ _ (into a ha)]; exact i1 a ha
theorem CS.part {pe:Int} (D:CS ts n) (ev:n % 2=0) (into:∀x,AF n x->AF n (AJ ts x)) (hp:AF n pe) (h1:AJ ts' (AM pe)=n) (h2:AJ ts' n=(if AJ ts (AM pe)=pe then (n:Int)+1 else AJ ts (AM pe))) (h3:AJ ts' ((n:Int)+1)=pe) (h4:∀x,AF n x->x≠AM pe->AJ ts' x=(if AJ ts x=pe then (n:Int)+1 else AJ ts x))
  (hb:∀f:Int->Rat,(∀t∈ts',(t.map f).sum=0)->f pe+f n=0/\(f ((n:Int)+1)=f pe->∀t∈ts,(t.map f).sum=0)):CS ts' (n+2):=λf anti bal=>by
 obtain⟨b1,b2⟩:=hb f bal;have o1:AM (n:Int)=(n:Int)+1:=by unfold AM; rw[jq (by omega)]
 have f0:f ((n:Int)+1)=f pe:=by
  have:=anti n (C5.mpr (.inr (.inl rfl)))
  rw[o1] at this;rw[this]; grind
 obtain⟨p,i1,d1⟩:=D f (λx hx=>anti x (up2 hx)) (b2 f0);have hq:=CM ev hp;have dp:=d1 pe hp;have key:∀x,AF n x->FE p n (p (AM pe)) (p pe) (if AJ ts x=pe then (n:Int)+1 else AJ ts x)=p x:=λx hx=>by
  by_cases e:AJ ts x=pe
  ·rw[jq e,HQ,<-e]; exact i1 x hx
  ·rw[jm e,Dk _ _ _ (into x hx)]; exact i1 x hx
 refine⟨FE p n (p (AM pe)) (p pe),λx hx=>?_,CS.CI ev anti d1 (by grind)⟩;rcases C5.mp hx with z | rfl | rfl
 ·by_cases e:x=AM pe
  ·rw[e,h1,HR,Dk _ _ _ hq]
  ·rw[h4 x z e,key x z,Dk _ _ _ z]
 ·rw[h2,key _ hq,HR]
 ·rw[h3,HQ,Dk _ _ _ hp]
theorem OS{φ:Int->Int}{p:Int->Rat}(PM:Hh φ n)(ha:AF n a)(i1:∀x,AF n x->p (φ x)=p x):∀k,p (A2 φ k a)=p a
 | 0=>rfl
 | k+1=>(i1 _ (D3 PM ha k)).trans (OS PM ha i1 k)
theorem CS.K2 (D:CS ts n) (T:B4 n ts) (ha:AF n a) (kb:∃k,A2 (AJ ts) k a=b) (h1:a≠b->AJ ts' a=n) (h2:a≠b->AJ ts' n=AJ ts b) (h2':a=b->AJ ts' n=n) (h3:AJ ts' b=(n:Int)+1) (h5:AJ ts' ((n:Int)+1)=AJ ts a) (h4:∀x,AF n x->x≠a->x≠b->AJ ts' x=AJ ts x)
  (hb:∀f:Int->Rat,(∀t∈ts',(t.map f).sum=0)->∀t∈ts,(t.map f).sum+(if AM a∈t then f n else 0)+(if AM b∈t then f ((n:Int)+1) else 0)=0):CS ts' (n+2):=λf anti bal=>by
 have ev:=T.Es;have PM:=T.perm;have into:∀x,AF n x->AF n (AJ ts x):=PM.into;obtain⟨χ,c1,c2⟩:=aN PM ha kb;have hbn:AF n b:=by obtain⟨k,rfl⟩:=kb; exact D3 PM ha k
 have o1:AM (n:Int)=(n:Int)+1:=by unfold AM; rw[jq (by omega)]
 have f1:f ((n:Int)+1)=- f n:=by have:=anti n (C5.mpr (.inr (.inl rfl))); rwa [o1] at this
 have balO:∀t∈ts,(t.map λx=>f x+f n*(χ x-χ (AM x))).sum=0:=λt ht=>by
  have tin:∀x∈t,AF n x:=λx hx=>(T.mem x).mp (jN.mpr ⟨t,ht,hx⟩)
  have tnd:t.Nodup:=by
   obtain⟨i,hi,rfl⟩:=jP ht;exact(qJ.mp T.nd).1 _ ht
  have e1:∀x∈t,χ x-χ (AM x)=(χ x + -1*χ (pr ts x))+((if x=AM a then 1 else 0) + -1*(if x=AM b then 1 else 0)):=λx hx=>by
   have:=c1 (AM x) (CM ev (tin x hx))
   rw[Bb,B9] at this;have ia:(if AM x=a then (1:Rat) else 0)=if x=AM a then 1 else 0:=by
    by_cases e:AM x=a
    ·rw[jq e,jq (by rw[<-e,B9])]
    ·rw[jm e,jm (λz=>e (by rw[z,B9]))]
   have ib:(if AM x=b then (1:Rat) else 0)=if x=AM b then 1 else 0:=by
    by_cases e:AM x=b
    ·rw[jq e,jq (by rw[<-e,B9])]
    ·rw[jm e,jm (λz=>e (by rw[z,B9]))]
   rw[ia,ib] at this;rw[this]; grind
  rw[Jf,JN,Nk e1,Jf,Jf,Jf,JN,JN,R0 T.nd ht χ,OL tnd,OL tnd]
  have:=hb f bal t ht
  rw[f1] at this;by_cases ea:AM a∈t <;> by_cases eb:AM b∈t <;> simp only[ea,eb,if_true,if_false] at this ⊢ <;> grind
 obtain⟨p,i1,d1⟩:=D (λx=>f x+f n*(χ x-χ (AM x))) (λx hx=>by
  show f (AM x)+f n*(χ (AM x)-χ (AM (AM x)))=-(f x+f n*(χ x-χ (AM x)));rw[B9,anti x (up2 hx)]; grind) balO
 have pab:p b=p a:=by
  obtain⟨k,rfl⟩:=kb;exact OS PM ha i1 k
 have ca:=c1 a ha;have cb:=c1 b hbn;have ia:=i1 a ha;have ib:=i1 b hbn;refine⟨FE (λx=>p x-f n*χ x) n (p b-f n*χ b+f n) (p b-f n*χ b),λx hx=>?_,CS.CI ev anti (λx hx=>?_) (by grind)⟩
 ·rcases C5.mp hx with z | rfl | rfl
  ·by_cases eb:x=b
   ·rw[eb,h3,HQ,Dk _ _ _ hbn]
   ·by_cases ea:x=a
    ·have ab:a≠b:=λe=>eb (ea.trans e)
     rw[ea,h1 ab,HR,Dk _ _ _ ha]
     have:=c2 ab
     rw[pab,this]; grind
    ·rw[h4 x z ea eb,Dk _ _ _ (into x z),Dk _ _ _ z]
     have:=c1 x z
     rw[jm ea,jm eb] at this;rw[i1 x z,this]; grind
  ·by_cases ab:a=b
   ·rw[h2' ab]
   ·rw[h2 ab,HR,Dk _ _ _ (into b hbn)];rw[jm (λe=>ab e.symm),jq rfl] at cb;show p (AJ ts b)-f n*χ (AJ ts b)=_;rw[ib,cb]; grind
  ·rw[h5,HQ,Dk _ _ _ (into a ha)];show p (AJ ts a)-f n*χ (AJ ts a)=_;by_cases ab:a=b
   ·rw[jq rfl,jq ab] at ca;rw[ia,ca,<-ab]; grind
   ·rw[jq rfl,jm ab] at ca;rw[ia,ca,pab,c2 ab]; grind
 ·have:=d1 x hx
  show p x-f n*χ x-(p (AM x)-f n*χ (AM x))=f x
  grind
theorem QV{ts:List (List Int)}{p:Nat}{r r' t:List Int}(hp:ts[p]?=some r)(ht:t∈ts):t=r\/t∈ts.set p r':=by
 obtain⟨i,hi,rfl⟩:=jP ht;by_cases e:p=i
 ·subst e;rw[jb hi] at hp;exact .inl (jL hp)
 ·right
  have:(ts.set p r')[i]?=some ts[i]:=by rw[kh e,jb hi]
  exact jd this
theorem NM{ts:List (List Int)}{p:Nat}{r r':List Int}(hp:ts[p]?=some r):r'∈ts.set p r':=by
 have h:=(jc.mp hp).1
 have:(ts.set p r')[p]?=some r':=ko h
 exact jd this
theorem TB(f:Int->Rat)(e s:Int)(t1 t2:List Int):((t1++e :: s :: t2).map f).sum=((t1++s :: t2).map f).sum+f e:=by
 simp only[jH,jx,pN,j7]; grind
theorem YG{n:Nat}(hn:n=4):CS [[2,0],[3,1]] n:=λf anti bal=>by
 subst hn;have n0:AJ [[2,0],[3,1]] 0=3:=by decide
 have n1:AJ [[2,0],[3,1]] 1=2:=by decide
 have n2:AJ [[2,0],[3,1]] 2=1:=by decide
 have n3:AJ [[2,0],[3,1]] 3=0:=by decide
 have cs:∀x:Int,AF 4 x->x=0\/x=1\/x=2\/x=3:=λx h=>by obtain⟨h1,h2⟩:=h; omega
 have b:=bal [2,0] (by simp);have a0:=anti 0 ⟨by decide,by decide⟩;have a2:=anti 2 ⟨by decide,by decide⟩;have o0:AM 0=1:=by decide
 have o1:AM 1=0:=by decide
 have o2:AM 2=3:=by decide
 have o3:AM 3=2:=by decide
 rw[o0] at a0;rw[o2] at a2;simp only[jx,kR,j7,mM] at b;have p0:(if ((0:Int)=0\/(0:Int)=3) then f 0 else 0)=f 0:=jq (by decide);have p1:(if ((1:Int)=0\/(1:Int)=3) then f 0 else 0)=0:=jm (by decide);have p2:(if ((2:Int)=0\/(2:Int)=3) then f 0 else 0)=0:=jm (by decide);have p3:(if ((3:Int)=0\/(3:Int)=3) then f 0 else 0)=f 0:=jq (by decide);refine⟨λx=>if x=0\/x=3 then f 0 else 0,λx hx=>?_,λx hx=>?_⟩
 ·rcases cs x hx with rfl | rfl | rfl | rfl
  ·rw[n0]; exact p3.trans p0.symm
  ·rw[n1]; exact p2.trans p1.symm
  ·rw[n2]; exact p1.trans p2.symm
  ·rw[n3]; exact p0.trans p3.symm
 ·rcases cs x hx with rfl | rfl | rfl | rfl
  ·rw[o0]; show(if ((0:Int)=0\/(0:Int)=3) then f 0 else 0)-(if ((1:Int)=0\/(1:Int)=3) then f 0 else 0)=_; rw[p0,p1]; grind
  ·rw[o1]; show(if ((1:Int)=0\/(1:Int)=3) then f 0 else 0)-(if ((0:Int)=0\/(0:Int)=3) then f 0 else 0)=_; rw[p0,p1]; grind
  ·rw[o2]; show(if ((2:Int)=0\/(2:Int)=3) then f 0 else 0)-(if ((3:Int)=0\/(3:Int)=3) then f 0 else 0)=_; rw[p2,p3]; grind
  ·rw[o3]; show(if ((3:Int)=0\/(3:Int)=3) then f 0 else 0)-(if ((2:Int)=0\/(2:Int)=3) then f 0 else 0)=_; rw[p2,p3]; grind
structure Gn(ts:List (List Int))(hs:List Nat):Prop where
 ev:hs.length % 2=0
 n4:4<=hs.length
 two:2<=ts.length
 nd:ts.flatten.Nodup
 mem:∀x,x∈ts.flatten↔AF hs.length x
 Cb:∀(p:Nat) (t:List Int),ts[p]?=some t->∀x:Int,x∈t->hs[x.toNat]?=some p
 ne:∀t∈ts,t≠[]
 few:2*ts.length<=hs.length
 lo:hs[0]?=some 0/\hs[1]?=some 1
 Cp:∀S:Nat->Prop,S 0->(∀k,1<=k->∀p q,hs[2*k]?=some p->hs[2*k+1]?=some q->(S p↔S q))->∀p,p<ts.length->S p
 du:Du (AJ ts) hs.length
 po:CS ts hs.length
theorem Gn.Dm{ts:List (List Int)}{hs:List Nat}(g:Gn ts hs):B4 hs.length ts:=⟨g.nd,g.mem,g.ev⟩
theorem Nx{α:Type}{ts:List α}{p:Nat}{r:α}(h:ts[p]?=some r):∃A B,ts=A++r :: B/\A.length=p/\∀r',ts.set p r'=A++r' :: B:=by
 obtain⟨hp,e⟩:=jc.mp h;refine⟨ts.take p,ts.drop (p+1),?_,by rw[kB]; omega,λr'=>?_⟩
 ·rw[<-e,mC,lN]
 ·exact List.set_eq_take_append_cons_drop .. |>.trans (by rw[jq hp])
theorem Gy{n:Nat}(h:n % 2=0):AM (n:Int)=(n:Int)+1:=by unfold AM; rw[jq (by omega)]
theorem OJ{n:Nat}(h:n % 2=0):AM ((n:Int)+1)=n:=by unfold AM; rw[jm (by omega)]; omega
theorem Jg{x y:Int}(h:AM x=AM y):x=y:=by rw[<-B9 x,h,B9]
theorem Gn.LD{ts:List (List Int)}{hs:List Nat}(g:Gn ts hs){p:Nat}{t1 t2:List Int}{s:Int}(hp:ts[p]?=some (t1++s :: t2)):
  Gn (ts.set p (t1++(hs.length:Int) :: s :: t2)++[[(hs.length:Int)+1]]) (hs++[p]++[ts.length]):=by
 obtain⟨A,B,eT,lA,eS⟩:=Nx hp;have pl:p<ts.length:=(jc.mp hp).1;have nd0:=g.nd;have mem0:=g.mem;generalize hn:hs.length=n at *;have ev:=g.ev;rw[hn] at ev;have em:((n:Nat):Int)∉ts.flatten:=λz=>by have:=(mem0 _).mp z; omega
 have em1:((n:Nat):Int)+1∉ts.flatten:=λz=>by have:=(mem0 _).mp z; omega
 have sm:s∈ts.flatten:=jN.mpr ⟨_,jd hp,by simp⟩;have sR:=(mem0 s).mp sm;rw[eT] at nd0 em;obtain⟨nd1,mem1,q1,q2,q3⟩:=Uy nd0 em;rw[<-eT,<-eS] at *;have em1':((n:Nat):Int)+1∉(ts.set p (t1++(n:Int) :: s :: t2)).flatten:=λz=>by
  rcases(mem1 _).mp z with w | w
  ·exact em1 w
  ·omega
 obtain⟨nd2,q4,q5⟩:=ZY nd1 em1';have q6:∀x∈ts.flatten,pr (ts.set p (t1++(n:Int) :: s :: t2)++[[(n:Int)+1]]) x=pr (ts.set p (t1++(n:Int) :: s :: t2)) x:=λx hx=>q5 x ((mem1 x).mpr (.inl hx))
 have lH:(hs++[p]++[ts.length]).length=n+2:=by simp[hn]
 have lT:(ts.set p (t1++(n:Int) :: s :: t2)++[[(n:Int)+1]]).length=ts.length+1:=by simp
 have aR:AF n (AM s):=CM ev sR;have f1:AJ (ts.set p (t1++(n:Int) :: s :: t2)++[[(n:Int)+1]]) (AM s)=n:=by rw[Bb,B9,q6 s sm,q1]
 have f2:AJ (ts.set p (t1++(n:Int) :: s :: t2)++[[(n:Int)+1]]) n=(n:Int)+1:=by rw[Bb,Gy ev,q4]
 have f3:AJ (ts.set p (t1++(n:Int) :: s :: t2)++[[(n:Int)+1]]) ((n:Int)+1)=AJ ts (AM s):=by rw[Bb,OJ ev,q5 _ ((mem1 _).mpr (.inr rfl)),q2,Bb,B9]
 have f4:∀x,AF n x->x≠AM s->AJ (ts.set p (t1++(n:Int) :: s :: t2)++[[(n:Int)+1]]) x=AJ ts x:=λx hx xa=>by
  have hm:AM x∈ts.flatten:=(mem0 _).mpr (CM ev hx);rw[Bb,q6 _ hm,q3 _ hm (λe=>xa (by rw[<-e,B9])),Bb]
 have into:∀x,AF n x->AF n (AJ ts x):=λx hx=>by have:=g.Dm.perm.into x (by rw[hn]; exact hx); rwa [hn] at this
 have du0:=g.du;rw[hn] at du0;have po0:=g.po;rw[hn] at po0;have pz:CS (ts.set p (t1++(n:Int) :: s :: t2)++[[(n:Int)+1]]) (n+2):=by
  refine po0.LD ev into aR f1 f2 f3 f4 λf bal=>?_
  have b1:=bal [(n:Int)+1] (by simp);simp only[jx,kR,j7,mM] at b1;refine⟨by grind,λf0 t ht=>?_⟩;rcases QV (r':=t1++(n:Int) :: s :: t2) hp ht with e | e
  ·have:=bal _ (jI.mpr (.inl (NM (r':=t1++(n:Int) :: s :: t2) hp)))
   rw[TB,f0] at this;rw[e]; grind
  ·exact bal t (jI.mpr (.inl e))
 have few:=g.few;have n4:=g.n4;rw[hn] at few n4;have hget:∀{i q},hs[i]?=some q->(hs++[p]++[ts.length])[i]?=some q:=λ{i q} h=>by
  rw[kN,jM (jc.mp h).1]; exact h
 refine⟨by rw[lH]; omega,by rw[lH]; omega,by rw[lT]; have:=g.two; omega,nd2,λx=>?_,λq t hq x hx=>?_,λt ht=>?_,by rw[lT,lH]; omega,⟨hget g.lo.1,hget g.lo.2⟩,λS S0 hS q hq=>?_,by rw[lH]; exact du0.LD into (by omega) aR f1 f2 f3 f4,by rw[lH]; exact pz⟩
 ·rw[lH,kI,jI,mem1,mem0];simp only[j5,qD,lC,jO,AF];omega
 ·rcases j6 q ts.length with ql | ql
  ·rw[jM (by simpa using ql)] at hq;by_cases e:p=q
   ·subst e;rw[ko ql] at hq;cases hq;by_cases xn:x=n
    ·rw[xn,kQ,<-hn,kN,jy (jj _)]; simp
    ·refine hget (g.Cb p _ hp x ?_);simp only[jI,jK] at hx ⊢;rcases hx with z | z | z | z
     ·exact .inl z
     ·exact absurd z xn
     ·exact .inr (.inl z)
     ·exact .inr (.inr z)
   ·rw[kh e] at hq;exact hget (g.Cb q t hq x hx)
  ·have:q=ts.length:=by
    have:=(jc.mp hq).1
    rw[lT] at this; omega
   subst this;rw[jy (by simp)] at hq;simp at hq;subst hq;rw[jO.mp hx,show((n:Int)+1).toNat=n+1 by omega,<-hn];rw[jy (by simp)]; simp
 ·rcases jI.mp ht with z | z
  ·rcases mJ z with w | w
   ·exact g.ne t w
   ·rw[w]; simp
  ·rw[jO.mp z]; simp
 ·have h1:=g.Cp S S0 (λk k1 a b ha hb=>hS k k1 a b (hget ha) (hget hb));rcases j6 q ts.length with ql | ql
  ·exact h1 q ql
  ·have:q=ts.length:=by rw[lT] at hq; omega
   subst this
   have:=hS (n / 2) (by omega) p ts.length (by rw[show 2*(n / 2)=n by omega,<-hn,kN,jy (jj _)]; simp) (by rw[show 2*(n / 2)+1=n+1 by omega,<-hn,jy (by simp)]; simp)
   exact this.mp (h1 p pl)
structure Gb(ts:List (List Int))(hs:List Nat):Prop where
 nd:ts.flatten.Nodup
 mem:∀x,x∈ts.flatten↔AF hs.length x
 Cb:∀(p:Nat) (t:List Int),ts[p]?=some t->∀x:Int,x∈t->hs[x.toNat]?=some p
 ne:∀t∈ts,t≠[]
theorem Gn.gb{ts:List (List Int)}{hs:List Nat}(g:Gn ts hs):Gb ts hs:=⟨g.nd,g.mem,g.Cb,g.ne⟩
theorem Gb.E1{ts:List (List Int)}{hs:List Nat}(g:Gb ts hs){p:Nat}{t1 t2:List Int}{s:Int}(hp:ts[p]?=some (t1++s :: t2)):
  Gb (ts.set p (t1++(hs.length:Int) :: s :: t2)) (hs++[p])/\pr (ts.set p (t1++(hs.length:Int) :: s :: t2)) s=hs.length/\pr (ts.set p (t1++(hs.length:Int) :: s :: t2)) hs.length=pr ts s /\
   ∀x,AF hs.length x->x≠s->pr (ts.set p (t1++(hs.length:Int) :: s :: t2)) x=pr ts x:=by
 obtain⟨A,B,eT,lA,eS⟩:=Nx hp;have pl:p<ts.length:=(jc.mp hp).1;have nd0:=g.nd;have mem0:=g.mem;generalize hn:hs.length=n at *;have em:((n:Nat):Int)∉ts.flatten:=λz=>by have:=(mem0 _).mp z; omega
 rw[eT] at nd0 em;obtain⟨nd1,mem1,q1,q2,q3⟩:=Uy nd0 em;rw[<-eT,<-eS] at *;have lH:(hs++[p]).length=n+1:=by simp[hn]
 have hget:∀{i q},hs[i]?=some q->(hs++[p])[i]?=some q:=λ{i q} h=>by
  rw[jM (jc.mp h).1]; exact h
 refine⟨⟨nd1,λx=>?_,λq t hq x hx=>?_,λt ht=>?_⟩,q1,q2,λx hx xs=>q3 x ((mem0 x).mpr hx) xs⟩
 ·rw[lH,mem1,mem0,cB]
 ·by_cases e:p=q
  ·subst e;rw[ko pl] at hq;cases hq;by_cases xn:x=n
   ·rw[xn,kQ,<-hn,jy (jj _)]; simp
   ·refine hget (g.Cb p _ hp x ?_);simp only[jI,jK] at hx ⊢;rcases hx with z | z | z | z
    ·exact .inl z
    ·exact absurd z xn
    ·exact .inr (.inl z)
    ·exact .inr (.inr z)
  ·rw[kh e] at hq;exact hget (g.Cb q t hq x hx)
 ·rcases mJ ht with w | w
  ·exact g.ne t w
  ·rw[w]; simp
theorem Gb.bal{ts:List (List Int)}{hs:List Nat}(g:Gb ts hs){p:Nat}{t1 t2:List Int}{s e X:Int}{f:Int->Rat}{c:Rat}(hp:ts[p]?=some (t1++s :: t2))(Xe:X≠e)(h:∀t∈ts.set p (t1++e :: s :: t2),(t.map f).sum+(if X∈t then c else 0)=0):
  ∀t∈ts,(t.map f).sum+(if s∈t then f e else 0)+(if X∈t then c else 0)=0:=λt ht=>by
 obtain⟨i,hi,rfl⟩:=jP ht;have gi:ts[i]?=some ts[i]:=jb hi;by_cases q:p=i
 ·subst q;have q2:ts[p]=t1++s :: t2:=by rw[gi] at hp; exact jL hp
  have:=h _ (NM (r':=t1++e :: s :: t2) hp)
  rw[TB] at this;have i1:(if X∈t1++e :: s :: t2 then c else 0)=(if X∈t1++s :: t2 then c else 0):=by
   have:X∈t1++e :: s :: t2↔X∈t1++s :: t2:=by simp[Xe]
   by_cases z:X∈t1++s :: t2
   ·rw[jq z,jq (this.mpr z)]
   ·rw[jm z,jm (λy=>z (this.mp y))]
  rw[i1] at this;rw[q2,jq (show s∈t1++s :: t2 by simp)];exact this
 ·have ns:s∉ts[i]:=λz=>by
   have h1:=g.Cb i _ gi s z;have h2:=g.Cb p _ hp s (by simp);rw[h1] at h2;exact q (jL h2).symm
  rw[jm ns]
  have:=h _ (jd (show(ts.set p (t1++e :: s :: t2))[i]?=some ts[i] by rw[kh q,gi]))
  grind
theorem Gn.K2 {ts:List (List Int)} {hs:List Nat} (g:Gn ts hs) {p1 p2:Nat} {t1 t2 u1 u2:List Int} {a b:Int} (aR:AF hs.length a) (kb:∃k,A2 (AJ ts) k a=b)
  (h1:ts[p1]?=some (t1++AM a :: t2)) (h2:(ts.set p1 (t1++(hs.length:Int) :: AM a :: t2))[p2]?=some (u1++AM b :: u2)) :
  Gn ((ts.set p1 (t1++(hs.length:Int) :: AM a :: t2)).set p2 (u1++((hs.length:Int)+1) :: AM b :: u2)) (hs++[p1]++[p2]):=by
 have ev:=g.ev;have n4:=g.n4;have few:=g.few;have T:=g.Dm;have bR:AF hs.length b:=by obtain⟨k,rfl⟩:=kb; exact D3 T.perm aR k
 obtain⟨B1,q1,q2,q3⟩:=g.gb.E1 h1;generalize hT1:ts.set p1 (t1++(hs.length:Int) :: AM a :: t2)=ts1 at *;have lT1:ts1.length=ts.length:=by rw[<-hT1]; simp
 have lh:(hs++[p1]).length=hs.length+1:=by simp
 have e1:(((hs++[p1]).length:Nat):Int)=(hs.length:Int)+1:=by rw[lh]; push_cast; rfl
 obtain⟨B2,r1,r2,r3⟩:=B1.E1 h2;rw[e1] at B2 r1 r2 r3;rw[lh] at r3;generalize hT2:ts1.set p2 (u1++((hs.length:Int)+1) :: AM b :: u2)=ts2 at *;have lT2:ts2.length=ts.length:=by rw[<-hT2]; simp[lT1]
 have lH:(hs++[p1]++[p2]).length=hs.length+2:=by simp
 have hget:∀{i q},hs[i]?=some q->(hs++[p1]++[p2])[i]?=some q:=λ{i q} h=>by
  rw[kN,jM (jc.mp h).1]; exact h
 have saR:=CM ev aR;have sbR:=CM ev bR;generalize hn:hs.length=n at *;have up:∀{x:Int},AF n x->AF (n+1) x:=λ{x} h=>⟨h.1,by have:=h.2; omega⟩
 have w1:AJ ts2 ((n:Int)+1)=AJ ts a:=by
  rw[Bb,OJ ev,r3 _ ⟨by omega,by omega⟩ (λe=>by have:=sbR.2; omega),q2,Bb]
 have w2:AJ ts2 b=(n:Int)+1:=by rw[Bb,r1]
 have w3:∀x,AF n x->x≠a->x≠b->AJ ts2 x=AJ ts x:=λx hx xa xb=>by
  have:=CM ev hx
  rw[Bb,r3 _ (up this) (λe=>xb (Jg e)),q3 _ this (λe=>xa (Jg e)),Bb]
 have into:∀x,AF n x->AF n (AJ ts x):=λx hx=>T.perm.into x hx
 have dz:Du (AJ ts2) (n+2):=by
  have du0:=g.du;rw[hn] at du0;refine du0.K2 into (by omega) ev aR kb (λab=>?_) (λab=>?_) (λab=>?_) w2 w1 w3
  ·have sab:AM b≠AM a:=λe=>ab (Jg e).symm
   rw[Bb,r3 _ (up saR) (λe=>sab e.symm),q1]
  ·have sab:AM b≠AM a:=λe=>ab (Jg e).symm
   rw[Bb,Gy ev,r2,q3 _ sbR sab,Bb]
  ·subst ab;rw[Bb,Gy ev,r2,q1]
 have pz:CS ts2 (n+2):=by
  have po0:=g.po;rw[hn] at po0;refine po0.K2 T aR kb (λab=>?_) (λab=>?_) (λab=>?_) w2 w1 w3 λf bal=>?_
  ·have sab:AM b≠AM a:=λe=>ab (Jg e).symm
   rw[Bb,r3 _ (up saR) (λe=>sab e.symm),q1]
  ·have sab:AM b≠AM a:=λe=>ab (Jg e).symm
   rw[Bb,Gy ev,r2,q3 _ sbR sab,Bb]
  ·subst ab;rw[Bb,Gy ev,r2,q1]
  ·have c1:=B1.bal (X:=-1) (f:=f) (c:=0) h2 (e:=(n:Int)+1) (by omega) (by
    rw[hT2];intro t ht
    have:=bal t ht
    split <;> grind)
   exact g.gb.bal (X:=AM b) (c:=f ((n:Int)+1)) h1 (λe=>by have:=sbR.2; omega) (by
    rw[hT1];intro t ht
    have:=c1 t ht
    split at this <;> split at this <;> grind)
 refine⟨by rw[lH]; omega,by rw[lH]; omega,by rw[lT2]; exact g.two,B2.nd,B2.mem,B2.Cb,B2.ne,by rw[lT2,lH]; omega,⟨hget g.lo.1,hget g.lo.2⟩,λS S0 hS q hq=>?_,by rw[lH]; exact dz,by rw[lH]; exact pz⟩;exact g.Cp S S0 (λk k1 x y hx hy=>hS k k1 x y (hget hx) (hget hy)) q (by omega)
theorem Gn.part{ts:List (List Int)}{hs:List Nat}(g:Gn ts hs){p r:Nat}{t:List Int}{pe:Int}(r1:1<=r)(er:pe=2*(r:Int)+1)(hp:ts[p]?=some t)(pm:pe∈t):
  Gn (ts.set p (t.map λx=>if x=pe then (hs.length:Int)+1 else x)++[[pe,(hs.length:Int)]]) ((hs++[ts.length]++[p]).set pe.toNat ts.length):=by
 obtain⟨A,B,eT,lA,eS⟩:=Nx hp;have pl:p<ts.length:=(jc.mp hp).1;have nd0:=g.nd;have mem0:=g.mem;have ev:=g.ev;have n4:=g.n4;have few:=g.few;have P:=g.Dm.perm;have pet:pe∈ts.flatten:=jN.mpr ⟨t,jd hp,pm⟩;have peR:=(mem0 pe).mp pet;have hpe:=g.Cb p t hp pe pm;generalize hn:hs.length=n at *;have pn:pe.toNat<n:=by have:=peR.2; omega
 have pt:pe.toNat=2*r+1:=by omega
 have em:((n:Nat):Int)+1∉ts.flatten:=λz=>by have:=(mem0 _).mp z; omega
 rw[eT] at nd0 em;obtain⟨nd1,mem1,q1,q2⟩:=cV nd0 pm em;rw[<-eT,<-eS] at *;generalize hT1:ts.set p (t.map λx=>if x=pe then (n:Int)+1 else x)=ts1 at *;have lT1:ts1.length=ts.length:=by rw[<-hT1]; simp
 have pe1:pe∉ts1.flatten:=λz=>by
  rcases(mem1 _).mp z with w | w
  ·exact w.2 rfl
  ·have:=peR.2; omega
 have n1:((n:Nat):Int)∉ts1.flatten:=λz=>by
  rcases(mem1 _).mp z with w | w
  ·have:=(mem0 _).mp w.1; omega
  ·omega
 obtain⟨nd2,w1,w2,w3⟩:=Zx nd1 pe1 n1 (λe=>by have:=peR.2; omega);generalize hT2:ts1++[[pe,(n:Int)]]=ts2 at *;have lT2:ts2.length=ts.length+1:=by rw[<-hT2]; simp[lT1]
 have lH:((hs++[ts.length]++[p]).set pe.toNat ts.length).length=n+2:=by simp[hn]
 have qR:=CM ev peR;have v1:AJ ts2 (AM pe)=n:=by rw[Bb,B9,w1]
 have v2:AJ ts2 n=(if AJ ts (AM pe)=pe then (n:Int)+1 else AJ ts (AM pe)):=by
  rw[Bb,Gy ev,w3 _ ((mem1 _).mpr (.inr rfl)),q1,Bb,B9]
 have v3:AJ ts2 ((n:Int)+1)=pe:=by rw[Bb,OJ ev,w2]
 have v4:∀x,AF n x->x≠AM pe->AJ ts2 x=(if AJ ts x=pe then (n:Int)+1 else AJ ts x):=λx hx xq=>by
  have ox:=CM ev hx;have xp:AM x≠pe:=λe=>xq (by rw[<-e,B9])
  rw[Bb,w3 _ ((mem1 _).mpr (.inl ⟨(mem0 _).mpr ox,xp⟩)),q2 _ ((mem0 _).mpr ox) xp,Bb]
 have hnn:∀{x:Int},AF n x->x≠(n:Int):=λ{x} h e=>by have:=h.2; omega
 have du0:=g.du;rw[hn] at du0;have dz:Du (AJ ts2) (n+2):=du0.part (λx hx=>P.into x hx) (by omega) qR peR v1 v2 v3 v4;have pz:CS ts2 (n+2):=by
  have po0:=g.po;rw[hn] at po0;refine po0.part ev (λx hx=>P.into x hx) peR v1 v2 v3 v4 λf bal=>?_
  rw[<-hT2,<-hT1] at bal;have b1:=bal [pe,(n:Int)] (by simp);simp only[jx,kR,j7,mM] at b1;refine⟨by grind,λf0 u hu=>?_⟩;rcases QV (r':=t.map λx=>if x=pe then (n:Int)+1 else x) hp hu with e | e
  ·have:=bal _ (jI.mpr (.inl (NM (r':=t.map λx=>if x=pe then (n:Int)+1 else x) hp)))
   rw[kr] at this;rw[e,<-this];refine Nk λx _=>?_
   show f x=f (if x=pe then (n:Int)+1 else x);by_cases z:x=pe
   ·rw[jq z,f0,z]
   ·rw[jm z]
  ·exact bal u (jI.mpr (.inl e))
 have hget:∀{i q},hs[i]?=some q->i≠pe.toNat->((hs++[ts.length]++[p]).set pe.toNat ts.length)[i]?=some q:=λ{i q} h ne=>by
  rw[kh (λe=>ne e.symm),kN,jM (jc.mp h).1]; exact h
 have hN:((hs++[ts.length]++[p]).set pe.toNat ts.length)[n]?=some ts.length:=by
  rw[kh (by omega),kN,<-hn,jy (jj _)]; simp
 have hN1:((hs++[ts.length]++[p]).set pe.toNat ts.length)[n+1]?=some p:=by
  rw[kh (by omega),<-hn,jy (by simp)]; simp
 have hP:((hs++[ts.length]++[p]).set pe.toNat ts.length)[pe.toNat]?=some ts.length:=by
  rw[ko (by simp[hn]; omega)]
 have two:=g.two;refine⟨by rw[lH]; omega,by rw[lH]; omega,by rw[lT2]; omega,nd2,λx=>?_,λi t' hi x hx=>?_,λt' ht'=>?_,by rw[lT2,lH]; omega,⟨hget g.lo.1 (by omega),hget g.lo.2 (by omega)⟩,λS S0 hS i hi=>?_,by rw[lH]; exact dz,by rw[lH]; exact pz⟩
 ·rw[lH,<-hT2,kI,jI,mem1,mem0];simp only[j5,qD,lC,jK,ke,lM,AF]
  have:=peR.1
  have:=peR.2
  omega
 ·rw[<-hT2] at hi;rcases j6 i ts.length with il | il
  ·rw[jM (by omega),<-hT1] at hi;by_cases e:p=i
   ·subst e;rw[ko pl] at hi;cases hi;obtain⟨y,hy,rfl⟩:=js.mp hx;by_cases yp:y=pe
    ·rw[jq yp,show((n:Int)+1).toNat=n+1 by omega]; exact hN1
    ·rw[jm yp];have yR:=(mem0 y).mp (jN.mpr ⟨t,jd hp,hy⟩);exact hget (g.Cb p t hp y hy) (λe=>yp (by have:=yR.1; have:=peR.1; omega))
   ·rw[kh e] at hi;have hx2:=g.Cb i t' hi x hx;refine hget hx2 (λz=>?_);rw[z,hpe] at hx2;exact e (jL hx2)
  ·have:i=ts.length:=by
    have:=(jc.mp hi).1
    simp[lT1] at this; omega
   subst this;rw[jy (by omega),lT1] at hi;simp at hi;subst hi;simp only[jK,ke,lM] at hx;rcases hx with rfl | rfl
   ·exact hP
   ·rw[kQ]; exact hN
 ·rw[<-hT2,<-hT1] at ht';rcases jI.mp ht' with z | z
  ·rcases mJ z with w | w
   ·exact g.ne t' w
   ·rw[w];intro e;rw[rh] at e;rw[e] at pm;cases pm
  ·rw[jO.mp z]; simp
 ·have sP:S ts.length↔S p:=hS (n / 2) (by omega) _ _ (by rw[show 2*(n / 2)=n by omega]; exact hN) (by rw[show 2*(n / 2)+1=n+1 by omega]; exact hN1);have old:=g.Cp S S0 (λk k1 x y hx hy=>by
   by_cases e:2*k+1=pe.toNat
   ·have ey:y=p:=by rw[e,hpe] at hy; exact(jL hy).symm
    subst ey;exact(hS k k1 x ts.length (hget hx (by omega)) (by rw[e]; exact hP)).trans sP
   ·exact hS k k1 x y (hget hx (by omega)) (hget hy e))
  rcases j6 i ts.length with il | il
  ·exact old i il
  ·have:i=ts.length:=by rw[lT2] at hi; omega
   rw[this];exact sP.mpr (old p pl)
theorem Zo(ts:List (List Int)){n:Nat}(hn:n=4)(p0:pr ts 0=2)(p1:pr ts 1=3)(p2:pr ts 2=0)(p3:pr ts 3=1):Du (AJ ts) n:=by
 subst hn;have n0:AJ ts 0=3:=p1;have n1:AJ ts 1=2:=p0;have n2:AJ ts 2=1:=p3;have n3:AJ ts 3=0:=p2;have cs:∀x:Int,AF 4 x->x=0\/x=1\/x=2\/x=3:=λx h=>by obtain⟨h1,h2⟩:=h; omega
 refine⟨λS hS hr h1 x hx=>?_⟩
 ·have a1:=hS 1 ⟨by decide,by decide⟩;have a3:=hS 3 ⟨by decide,by decide⟩;have r:=hr 1 (by decide) (by decide);rw[n1] at a1;rw[n3] at a3;have s2:=a1.mp h1;have s3:S 3:=r.mp s2;rcases cs x hx with rfl | rfl | rfl | rfl
  ·exact a3.mp s3
  ·exact h1
  ·exact s2
  ·exact s3
theorem Gw(ρ:Int->Int):∀R:List (List Int),(R.map λc=>c.map ρ).flatten=R.flatten.map ρ
 | []=>rfl
 | c :: R=>by rw[jx,j5,j5,jH,Gw ρ R]
theorem MO{ρ:Int->Int}:∀{l:List Int},l.Nodup->(∀x∈l,∀y∈l,ρ x=ρ y->x=y)->(l.map ρ).Nodup
 | [],_,_=>by simp
 | a :: l,nd,inj=>by
  rw[kJ] at nd;rw[jx,kJ];refine⟨λz=>?_,MO nd.2 λx hx y hy=>inj x (by simp[hx]) y (by simp[hy])⟩;obtain⟨b,hb,e⟩:=js.mp z;exact nd.1 (inj b (by simp[hb]) a (by simp) e ▸ hb)
theorem VC{ts:List (List Int)}{ρ:Int->Int}(nd:ts.flatten.Nodup)(inj:∀x∈ts.flatten,∀y∈ts.flatten,ρ x=ρ y->x=y):(ts.map λt=>t.map ρ).flatten.Nodup/\∀x∈ts.flatten,pr (ts.map λt=>t.map ρ) (ρ x)=ρ (pr ts x):=by
 have nd':(ts.map λt=>t.map ρ).flatten.Nodup:=by rw[Gw]; exact MO nd inj
 refine⟨nd',λx hx=>DS nd' ?_⟩;have m:=GG nd hx;have row:∀t:List Int,BB (t.map ρ)=(BB t).map λp=>(ρ p.1,ρ p.2):=λt=>by
  rw[Em,Em];cases t with
  | nil=>rfl
  | cons a l =>
   rw[<-MT];congr 1;rw[kq,kq,su,oJ]; rfl
 unfold Az at m ⊢;obtain⟨r,hr,hm⟩:=jN.mp m;obtain⟨t,ht,rfl⟩:=js.mp hr;refine jN.mpr ⟨BB (t.map ρ),js.mpr ⟨t.map ρ,js.mpr ⟨t,ht,rfl⟩,rfl⟩,?_⟩;rw[row];exact js.mpr ⟨_,hm,rfl⟩
def EB(r r':List Int):Prop:=∃l m,r=l++m/\r'=m++l
theorem Yu{r r':List Int}(h:EB r r'):∀p∈BB r,p∈BB r':=by
 obtain⟨l,m,rfl,rfl⟩:=h;intro p hp;rw[Em] at hp ⊢;rw[MD] at hp ⊢;cases l with
 | nil=>simpa [cp] using hp
 | cons a l =>
  cases m with
  | nil=>simpa [cp] using hp
  | cons b m =>
   have e1:((a :: l)++(b :: m)).getLastD 0=(b :: m).getLastD 0:=by rw[kq,kq,o8,oJ]; rfl
   have e2:((b :: m)++(a :: l)).getLastD 0=(a :: l).getLastD 0:=by rw[kq,kq,o8,oJ]; rfl
   have e3:∀(c:Int) (k:List Int) (y z:Int),(c :: k).getLastD y=(c :: k).getLastD z:=λc k y z=>by cases k <;> rfl
   rw[e1] at hp;rw[e2];rw[jI] at hp ⊢;rw[e3 b m _ 0,e3 a l _ 0] at *;rw[e3 a l _ 0] at hp;exact hp.symm
theorem EB.perm{r r':List Int}(h:EB r r'):pQ r r':=by
 obtain⟨l,m,rfl,rfl⟩:=h;exact List.perm_append_comm
theorem Lc:∀{ts us:List (List Int)},ts.length=us.length->(∀(i:Nat) (t u:List Int),ts[i]?=some t->us[i]?=some u->EB t u)->pQ ts.flatten us.flatten
 | [],[],_,_=>pQ.refl _
 | t :: ts,u :: us,h,g=>by
  rw[j5,j5];exact(g 0 t u rfl rfl).perm.append (Lc (by simpa using h) λi a b ha hb=>g (i+1) a b ha hb)
theorem SJ{ts us:List (List Int)}(nd:ts.flatten.Nodup)(hl:ts.length=us.length)(g:∀(i:Nat) (t u:List Int),ts[i]?=some t->us[i]?=some u->EB t u):us.flatten.Nodup/\∀x∈ts.flatten,pr us x=pr ts x:=by
 have p:=Lc hl g;have nd':=p.nodup_iff.mp nd;refine⟨nd',λx hx=>DS nd' ?_⟩;have m:=GG nd hx;unfold Az at m ⊢;obtain⟨r,hr,hm⟩:=jN.mp m;obtain⟨t,ht,rfl⟩:=js.mp hr;obtain⟨i,hi,e⟩:=jP ht;have hu:i<us.length:=by omega
 exact jN.mpr ⟨BB us[i],js.mpr ⟨_,kU hu,rfl⟩,Yu (g i t us[i] (by rw[jb hi,e]) (jb hu)) _ hm⟩
end
end Mth
namespace Mth
structure Fy(φ:Int->Int)(m:Nat):Prop where
 Cp:∀S:Int->Prop,(∀x,AF (2*m+2) x->(S x↔S (φ x)))->(∀k:Nat,k<m->(S (2*(k:Int))↔S (2*(k:Int)+1)))->S (2*(m:Int)+1)->∀x,AF (2*m+2) x->S x
theorem dZ {φ ψ ρ:Int->Int} {m:Nat} (D:Du φ (2*m+2)) (into:∀x,AF (2*m+2) x->AF (2*m+2) (φ x)) (rin:∀x,AF (2*m+2) x->AF (2*m+2) (ρ x)) (rinv:∃σ:Int->Int,∀x,AF (2*m+2) x->AF (2*m+2) (σ x)/\ρ (σ x)=x) (rinj:∀x y,AF (2*m+2) x->AF (2*m+2) y->ρ x=ρ y->x=y)
  (r0:ρ 0=2*(m:Int)) (roth:∀x,AF (2*m+2) x->AM (ρ x)=ρ (AM x)) (h:∀x,AF (2*m+2) x->ψ (ρ x)=ρ (φ x)):Fy ψ m:=by
 obtain⟨σ,hσ⟩:=rinv;have i0:AF (2*m+2) 0:=⟨by omega,by push_cast; omega⟩;have i1:AF (2*m+2) 1:=⟨by omega,by push_cast; omega⟩;have e1:ρ 1=2*(m:Int)+1:=by
  have:=roth 0 i0
  rw[r0,show AM 0=1 from rfl] at this;rw[<-this];unfold AM;rw[jq (by omega)]
 refine⟨λS hS hr h0 y hy=>?_⟩
 ·obtain⟨a,b⟩:=hσ y hy
  have:=D.Cp (λx=>S (ρ x)) (λx hx=>by
   have:=hS _ (rin x hx)
   rw[h x hx] at this;exact this) (λk k1 k2=>by
   have ik:AF (2*m+2) (2*(k:Int)):=⟨by omega,by push_cast; omega⟩;have ro:=roth _ ik;rw[show AM (2*(k:Int))=2*(k:Int)+1 by unfold AM; rw[jq (by omega)]] at ro;have n0:ρ (2*(k:Int))≠2*(m:Int):=λz=>by have:=rinj _ _ ik i0 (z.trans r0.symm); omega
   have n1:ρ (2*(k:Int))≠2*(m:Int)+1:=λz=>by have:=rinj _ _ ik i1 (z.trans e1.symm); omega
   obtain⟨y0,y1⟩:=rin _ ik;show S (ρ (2*(k:Int)))↔S (ρ (2*(k:Int)+1));rw[<-ro];generalize ρ (2*(k:Int))=z at *;have key:=hr (z.toNat / 2) (by omega);unfold AM;by_cases e:z % 2=0
   ·rw[jq e];rw[show 2*((z.toNat / 2:Nat):Int)=z by omega] at key;exact key
   ·rw[jm e];rw[show 2*((z.toNat / 2:Nat):Int)=z-1 by omega,show z-1+1=z by omega] at key;exact key.symm) (by show S (ρ 1); rw[e1]; exact h0) _ a
  rw[<-b];exact this
def Bd(m:Nat)(x:Int):Int:=if x / 2=(m:Int) then AM x else x
theorem Ol{m:Nat}{x:Int}(h:AF (2*m+2) x):AF (2*m+2) (Bd m x):=by
 unfold Bd;split
 ·exact CM (by omega) h
 ·exact h
theorem Jb(m:Nat)(x:Int):Bd m (Bd m x)=x:=by
 unfold Bd;by_cases e:x / 2=(m:Int)
 ·rw[jq e,jq (by unfold AM; split <;> omega),B9]
 ·rw[jm e,jm e]
theorem Sl(m:Nat)(x:Int):Bd m (AM x)=AM (Bd m x):=by
 unfold Bd
 have:AM x / 2=x / 2:=by unfold AM; split <;> omega
 rw[this];split <;> rfl
theorem bI{ts:List (List Int)}{t:List Int}(ht:t∈ts){k:Nat}(hk:k<t.length):(t.getD k 0,EF t k)∈Az ts :=
 jN.mpr ⟨BB t,js.mpr ⟨t,ht,rfl⟩,js.mpr ⟨k,jZ.mpr hk,rfl⟩⟩
theorem UZ{ts:List (List Int)}{x y:Int}(h:(x,y)∈Az ts):∃t∈ts,∃k,k<t.length/\t[k]?=some x/\t[if k=0 then t.length-1 else k-1]?=some y:=by
 obtain⟨r,hr,hx⟩:=jN.mp h;obtain⟨t,ht,rfl⟩:=js.mp hr;obtain⟨k,hk,e⟩:=js.mp hx;have hk':=jZ.mp hk;obtain⟨e1,e2⟩:=rK e;refine⟨t,ht,k,hk',?_,?_⟩
 ·rw[<-e1,je,jb hk']; rfl
 ·unfold EF at e2
  have:(if k=0 then t.length-1 else k-1)<t.length:=by split <;> omega
  rw[<-e2,je,jb this]; rfl
section
variable {n:Nat} {us:List (List Int)} (T:B4 n us)
include T
theorem Y8{x:Int}(hx:AF n x):AF n (pr (Al (AJ us) n) x)/\AJ us (pr (Al (AJ us) n) x)=x:=by
 have P:=T.perm;have hm:x∈(Al (AJ us) n).flatten:=(Ek P).mpr hx;obtain⟨r,hr,k,hk,h1,h2⟩:=UZ (GG (HL P) hm);obtain⟨i1,i2,_⟩:=JS P hr;rw[i2] at h1;obtain⟨y,hy,h3,h4⟩:=Xo P i1 h1;rw[<-i2] at h3;rw[h2] at h3;cases h3;exact⟨(Ek P).mp (jN.mpr ⟨r,hr,by rw[i2]; exact hy⟩),h4⟩
theorem YW{m:Nat}(hn:n=2*m+2){W:List (List Int)}(pw:W.Perm ((Al (AJ us) n).map λr=>r.map (Bd m)))(prp:∀{x:Int},x∈((Al (AJ us) n).map λr=>r.map (Bd m)).flatten->pr W x=pr ((Al (AJ us) n).map λr=>r.map (Bd m)) x):
  B4 n W/\∀y,AF n y->AJ W (AM (Bd m (pr us y)))=AM (Bd m y):=by
 subst hn;have P:=T.perm;have inj:∀x y:Int,Bd m x=Bd m y->x=y:=λx y e=>by rw[<-Jb m x,e,Jb]
 obtain⟨nd1,pm⟩:=VC (ts:=Al (AJ us) (2*m+2)) (ρ:=Bd m) (HL P) (λx _ y _=>inj x y);have pf:=pw.flatten;have mem1:∀x,x∈W.flatten↔AF (2*m+2) x:=λx=>by
  rw[pf.mem_iff,Gw,js];constructor
  ·rintro⟨y,hy,rfl⟩;exact Ol ((Ek P).mp hy)
  ·intro hx;exact⟨Bd m x,(Ek P).mpr (Ol hx),Jb m x⟩
 refine⟨⟨pf.nodup_iff.mpr nd1,mem1,by omega⟩,λy hy=>?_⟩;have hz:AF (2*m+2) (pr us y):=by
  have:=P.into _ (CM T.Es hy)
  rw[Bb,B9] at this;exact this
 have hzm:pr us y∈(Al (AJ us) (2*m+2)).flatten:=(Ek P).mpr hz;obtain⟨a1,a2⟩:=Y8 T hz;have e1:pr (Al (AJ us) (2*m+2)) (pr us y)=AM y:=P.inj _ _ a1 (CM T.Es hy) (by rw[a2,Bb,B9]);rw[Bb,B9,prp (by rw[Gw]; exact js.mpr ⟨_,hzm,rfl⟩),pm _ hzm,e1,Sl]
end
end Mth
namespace Mth
structure LO(us:List (List Int))(m:Nat):Prop where
 du:Fy (AJ us) m
 po:CS us (2*m+2)
theorem aL {ts us:List (List Int)} {ρ:Int->Int} {n:Nat} (D:CS ts n) (into:∀x,AF n x->AF n (AJ ts x)) (ev:n % 2=0) (rin:∀x,AF n x->AF n (ρ x)) (rinv:∃σ:Int->Int,∀x,AF n x->AF n (σ x)/\ρ (σ x)=x) (rinj:∀x y,AF n x->AF n y->ρ x=ρ y->x=y)
  (roth:∀x,AF n x->AM (ρ x)=ρ (AM x)) (h:∀x,AF n x->AJ us (ρ x)=ρ (AJ ts x)) (hs:∀f:Int->Rat,(∀u∈us,(u.map f).sum=0)->∀t∈ts,(t.map λx=>f (ρ x)).sum=0):CS us n:=λf anti bal=>by
 obtain⟨σ,hσ⟩:=rinv;obtain⟨p,i1,d1⟩:=D (λx=>f (ρ x)) (λx hx=>by
  show f (ρ (AM x))=- f (ρ x);rw[<-roth x hx]; exact anti _ (rin x hx)) (hs f bal)
 have back:∀x,AF n x->σ (ρ x)=x:=λx hx=>rinj _ _ (hσ _ (rin x hx)).1 hx (hσ _ (rin x hx)).2
 refine⟨λy=>p (σ y),λy hy=>?_,λy hy=>?_⟩
 ·obtain⟨s1,s2⟩:=hσ y hy;show p (σ (AJ us y))=p (σ y)
  have:=h _ s1
  rw[s2] at this;rw[this,back _ (into _ s1)];exact i1 _ s1
 ·obtain⟨s1,s2⟩:=hσ y hy;show p (σ y)-p (σ (AM y))=f y;have e:σ (AM y)=AM (σ y):=by
   have:=roth _ s1
   rw[s2] at this;rw[this,back _ (CM ev s1)]
  have:=d1 _ s1
  rw[e,this,s2]
end Mth
namespace My
open PySem L2 Mth
theorem AY{H:Hp}{p:Addr}(h:H p=none)(o:HO):AN H (AH H p o):=λb u q=>by rw[Ad (BP q h)]; exact q
def Bh(x:Addr)(H H':Hp):Prop:=∀b o,b≠x->H b=some o->H' b=some o
theorem Bh.refl(x:Addr)(H:Hp):Bh x H H:=λ_ _ _ h=>h
theorem Bh.put{x:Addr}{H H':Hp}(h:Bh x H H')(o:HO):Bh x H (AH H' x o):=λb u n q=>by rw[Ad n]; exact h b u n q
theorem Bh.trans{x:Addr}{H H1 H2:Hp}(a:Bh x H H1)(b:Bh x H1 H2):Bh x H H2:=λc o n h=>b c o n (a c o n h)
theorem _root_.L2.AN.b{x:Addr}{H H':Hp}(h:AN H H'):Bh x H H':=λb o _ q=>h b o q
theorem Bh.same{x:Addr}{H0 H H':Hp}(h:Bh x H H')(s:AN H0 H)(n:H0 x=none):AN H0 H':=λb o q=>h b o (BP q n) (s b o q)
theorem Bh.Ae{x:Addr}{H:Hp}{o:HO}:Bh x H (AH H x o):=(Bh.refl x H).put o
theorem _root_.L2.AN.up{x:Addr}{H0 H:Hp}(s:AN H0 H)(n:H0 x=none)(o:HO):AN H0 (AH H x o):=Bh.Ae.same s n
theorem Hk{c A B:Prop}[Decidable c](hc:¬c)(h:A):if (!decide c)=true then A else B:=by
 rw[l7 hc];exact Ey h
theorem Cy{c A B:Prop}[Decidable c](hc:c)(h:A):if decide c=true then A else B:=by
 rw[mQ hc];exact Ey h
theorem Ca{c A B:Prop}[Decidable c](hc:¬c)(h:B):if decide c=true then A else B:=by
 rw[l7 hc];exact C9 h
theorem iv{a b:Int}(h:a=b):V.int a=V.int b:=by rw[h]
theorem Dj{a b:Int}(h:a≠b):¬V.int a=V.int b:=λz=>h (V.int.inj z)
theorem Ce{n:Nat}(h:n<=100000):n<jR:=by rw[nF]; omega
abbrev BG(L:List (Int×Int)):List (Aa×V):=L.map λp=>(j4 p.1,V.int p.2)
theorem Nw(e:Int):∀L:List (Int×Int),Co (BG L) (j4 e:Aa)=(lk L e).map V.int
 | []=>rfl
 | p :: L=>by
  show Co ((j4 p.1,V.int p.2) :: BG L) (j4 e:Aa)=_;by_cases h:p.1=e
  ·rw[JX (p:=((j4 p.1:Aa),V.int p.2)) (by rw[h])];unfold lk;rw[qw (by simpa using h)];rfl
  ·rw[IE (p:=((j4 p.1:Aa),V.int p.2)) (λz=>h (ud z)),Nw e L];unfold lk;rw[qv (by simpa using h)]
theorem N5{kvs:List (Aa×V)}{k:Aa}{v:V}(h:Co kvs k=none):CN kvs k v=kvs++[(k,v)]:=by
 unfold CN;rw[Nd,h];rfl
theorem HP{L:List (Int×Int)}{e v:Int}(h:e∉L.map (·.1)):CN (BG L) (j4 e:Aa) (.int v)=BG (L++[(e,v)]):=by
 rw[N5 (by rw[Nw,bD h]; rfl)];simp
abbrev J2(l:List Int):List (Aa×V):=l.map λe=>(j4 e,V.bl true)
theorem OM(e:Int):∀l:List Int,Co (J2 l) (j4 e:Aa)=if e∈l then some (V.bl true) else none
 | []=>rfl
 | p :: L=>by
  show Co ((j4 p,V.bl true) :: J2 L) (j4 e:Aa)=_;by_cases h:p=e
  ·rw[JX (p:=((j4 p:Aa),V.bl true)) (by rw[h]),jq (by simp[h])]
  ·rw[IE (p:=((j4 p:Aa),V.bl true)) (λz=>h (ud z)),OM e L]
   have:e∈p :: L↔e∈L:=by simp[lF h]
   by_cases q:e∈L
   ·rw[jq q,jq (this.mpr q)]
   ·rw[jm q,jm λz=>q (this.mp z)]
theorem aq{l:List Int}{e:Int}(h:e∉l):CN (J2 l) (j4 e:Aa) (.bl true)=J2 (l++[e]):=by
 rw[N5 (by rw[OM,jm h])];simp
theorem IH{H:Hp}{d:Addr}{L:List (Int×Int)}{e v:Int}(h:H d=some (.dK (BG L)))(q:lk L e=some v):DP H d (.int e) (some (.int v)):=by
 have:=DP.k (k:=j4 e) h
 rw[Nw,q] at this;exact this
def Hw(H:Hp)(a:Addr)(bs:List Addr)(ts:List (List Int)):Prop :=
 H a=some (.AG (bs.map V.ref))/\bs.length=ts.length/\∀(i:Nat) (b:Addr) (row:List Int),bs[i]?=some b->ts[i]?=some row->H b=some (.AG (row.map V.int))
theorem Hw.keep{H H':Hp}{a:Addr}{bs:List Addr}{ts:List (List Int)}(h:Hw H a bs ts)(s:AN H H'):Hw H' a bs ts :=
 ⟨s _ _ h.1,h.2.1,λi b row e1 e2=>s _ _ (h.2.2 i b row e1 e2)⟩
theorem U3{bs:List Addr}{ts:List (List Int)}{i:Nat}{x:V}(hl:bs.length=ts.length)(h:(bs.map V.ref)[i]?=some x):∃b row,x=.ref b/\bs[i]?=some b/\ts[i]?=some row:=by
 rw[ji] at h;cases e:bs[i]? with
 | none=>rw[e] at h; cases h
 | some b =>
  rw[e] at h;have hi:i<bs.length:=(jc.mp e).1;exact⟨b,ts[i]'(by omega),(jL h).symm,rfl,jb (by omega)⟩
theorem Fh{row:List Int}{i:Nat}{x:V}(h:(row.map V.int)[i]?=some x):∃e,x=.int e/\row[i]?=some e:=by
 rw[ji] at h;cases q:row[i]? with
 | none=>rw[q] at h; cases h
 | some e =>
  rw[q] at h;exact⟨e,(jL h).symm,rfl⟩
theorem Ob{row:List Int}{i:Nat}{e:Int}(h:row[i]?=some e):(row.map V.int)[i]?=some (.int e):=by rw[ji,h]; rfl
theorem TY{row:List Int}{j:Nat}(h:j<row.length):Bv (row.map V.int) ((j:Int)-1)=some (.int (EF row j)):=by
 have g:∀i,i<row.length->(row.map V.int)[i]?=some (.int (row.getD i 0)):=λi hi=>by
  rw[ji,jb hi,je,jb hi];rfl
 unfold EF;cases j with
 | zero =>
  rw[jq rfl];have hl:(row.map V.int).length=row.length:=ja ..;have e:D9 (row.map V.int).length (((0:Nat):Int)-1)=some (row.length-1):=by
   unfold D9;rw[hl,jm (by decide),jq (by omega)];congr 1;omega
  unfold Bv;rw[e];exact g _ (by omega)
 | succ j =>
  rw[jm (by omega),show(((j+1:Nat):Int)-1)=((j:Nat):Int) by omega];exact Bc (g j (by omega))
theorem Lg{ts:List (List Int)}(nd:ts.flatten.Nodup){i j:Nat}{row:List Int}{e:Int}(h1:ts[i]?=some row)(h2:row[j]?=some e):e∉(ts.take i).flatten++row.take j:=by
 obtain⟨hi,q1⟩:=jc.mp h1;obtain⟨hj,q2⟩:=jc.mp h2;have e1:ts=ts.take i++row :: ts.drop (i+1):=by rw[<-q1,mC,lN]
 have e2:row=row.take j++e :: row.drop (j+1):=by rw[<-q2,mC,lN]
 rw[e1,kI,j5,lj] at nd;obtain⟨_,n2,n3⟩:=nd;intro z;rcases jI.mp z with z | z
 ·exact n3 e z e (mh _ (by rw[e2]; simp)) rfl
 ·rw[lj] at n2;have n4:=n2.1;rw[e2,lj] at n4;exact n4.2.2 e z e (by simp) rfl
theorem Iu(x y z:V):Bv [x,y,z] 0=some x:=Bc (j:=0) rfl
theorem Ea(x y z:V):Bv [x,y,z] 1=some y:=Bc (j:=1) rfl
theorem Fu(x y z:V):Bv [x,y,z] 2=some z:=Bc (j:=2) rfl
theorem BF{x y:V}:Bv [x,y] 0=some x:=Bc (j:=0) rfl
theorem at1{x y:V}:Bv [x,y] 1=some y:=Bc (j:=1) rfl
theorem Kc(xs:List V){j:Nat}(h:j<=xs.length):C8 xs none (some (j:Int))=xs.take j:=by
 unfold C8;have e1:HT.Ak xs.length 0 none=0:=rfl;have e2:HT.Ak xs.length xs.length (some (j:Int))=j:=by simp[HT.Ak]; rw[jm (by omega)]; omega
 rw[e1,e2]; simp
theorem ID(xs:List V){j:Nat}(h:j<=xs.length):C8 xs (some (j:Int)) none=xs.drop j:=by
 unfold C8;have e1:HT.Ak xs.length 0 (some (j:Int))=j:=by simp[HT.Ak]; rw[jm (by omega)]; omega
 have e2:HT.Ak xs.length xs.length none=xs.length:=rfl;rw[e1,e2,jz]; simp
theorem Dp{n:Nat}(h:n<=100000):n<=jR:=tE (Ce h)
def BV(H:Hp)(b:Addr)(ns:List Int):Prop:=H b=some (.AG (ns.map V.int))
theorem Dy:Mo BV:=λs h=>s _ _ h
theorem BV.BK{H:Hp}{a b:Addr}{t:List Int}{ys:List V}(h:BV H b t)(e:H a=some (.AD ys)):BV (BK H a) b t:=Fl h λz=>by rw[z] at h; unfold BV at h; rw[e] at h; cases h
abbrev Bj(hs:List Nat):List V:=hs.map λx:Nat=>V.int (x:Int)
theorem c6{hs:List Nat}{i p:Nat}(h:hs[i]?=some p):Bv (Bj hs) ((i:Nat):Int)=some (.int (p:Int)):=Bc (by rw[ji,h]; rfl)
theorem JQ{n j:Nat}(h:j<n):D9 n ((j:Nat):Int)=some j:=by unfold D9; rw[jq (by omega),jq (by omega)]; simp
theorem TC{i:Nat}{v:V}{σ:L2.St}{H:Hp}{k:L2.St->Hp->Prop}(h:k (σ.set i (some v)) H):BR i v σ H k:=h
theorem Vj{D:DF}{f:L2.St->Hp->Prop}{σ:L2.St}{H:Hp}(h:f σ H):({ D with nx:=f }:DF).nx σ H:=h
theorem Rt{t u:L2.TS}{D:DF}{σ:L2.St}{H:Hp}{G:L2.St->Hp->Prop}(m:(∀σ H,G σ H->u D σ H)->t { D with nx:=u D } σ H)(r:∀σ H,G σ H->u D σ H):J1 t u D σ H:=m r
theorem Kn{i:Int}{n:Nat}(h:i.natAbs<2 ^ n)(hn:n<=8000):BX i:=ku h (kM (by decide) hn)
abbrev iZ(K:jk)(H:Hp)(a:Addr)(ns:List Int):Prop:=AR K H a (ns.map V.int)/\ns.length<=63
end My
namespace My
open PySem
def top(i:Nat):Stmt:=PySem.Challenge.pw_currentfloor_k36_whole_other_floor_turne.main.body.getD i (.Pass ⟨0,0,0,0⟩)
abbrev sCommon:Stmt:=top 5
abbrev sFraction:Stmt:=top 6
abbrev sPlus:Stmt:=top 7
abbrev sMinus:Stmt:=top 8
abbrev sTimes:Stmt:=top 9
abbrev sOver:Stmt:=top 10
abbrev s_less:Stmt:=top 11
abbrev sCBot:Stmt:=top 12
abbrev sWholes:Stmt:=top 13
abbrev sOther:Stmt:=top 15
abbrev sAhead:Stmt:=top 16
abbrev sRingFrom:Stmt:=top 17
abbrev sRings:Stmt:=top 18
abbrev sLandOf:Stmt:=top 19
abbrev s_begun_least:Stmt:=top 21
abbrev s_told_turns:Stmt:=top 22
abbrev s_lands_placed:Stmt:=top 24
abbrev s_places_of:Stmt:=top 25
abbrev s_turn_of:Stmt:=top 26
abbrev s_other_net:Stmt:=top 27
abbrev sLed:Stmt:=top 29
abbrev sSweptRow:Stmt:=top 30
abbrev sSwept:Stmt:=top 31
abbrev sBack:Stmt:=top 32
abbrev sAnswer:Stmt:=top 33
abbrev sEaseTable:Stmt:=top 35
abbrev sPoleless:Stmt:=top 36
abbrev sHeights:Stmt:=top 37
abbrev sFallOf:Stmt:=top 38
abbrev sRunBy:Stmt:=top 39
abbrev sRunnings:Stmt:=top 40
abbrev sEaseOf:Stmt:=top 41
abbrev s_land_sides:Stmt:=top 43
abbrev s_rising:Stmt:=top 44
abbrev s_laid:Stmt:=top 45
abbrev s_law_numbers:Stmt:=top 47
abbrev sWhole:Stmt:=top 48
abbrev s_law_row:Stmt:=top 49
abbrev s_law_divisor:Stmt:=top 50
abbrev sLFrac:Stmt:=top 51
abbrev sLEase:Stmt:=top 52
abbrev s_law_ahead:Stmt:=top 53
abbrev s_law_land:Stmt:=top 54
abbrev s_law_corner:Stmt:=top 55
abbrev sGrow:Stmt:=top 56
abbrev s_law_order:Stmt:=top 57
abbrev s_law_finished:Stmt:=top 58
abbrev sNext:Stmt:=top 59
abbrev s_law_grown:Stmt:=top 60
abbrev s_law_long:Stmt:=top 61
abbrev s_law_some_net:Stmt:=top 62
abbrev s_law_begun:Stmt:=top 63
abbrev s_law_is_fraction:Stmt:=top 64
abbrev s_law_fractions_are:Stmt:=top 65
abbrev s_law_is_floor:Stmt:=top 66
abbrev s_law_minus:Stmt:=top 67
abbrev s_law_times:Stmt:=top 68
abbrev s_law_fall:Stmt:=top 69
abbrev s_law_quarter:Stmt:=top 70
abbrev sLaw:Stmt:=top 71
open L2 Mth
theorem sub_lt{i j:Int}{m:Nat}(h1:i.natAbs<2 ^ m)(h2:j.natAbs<2 ^ m):(i-j).natAbs<2 ^ (m+1):=by
 have:=qk i j
 rw[nK];omega
section
variable {P:j8} {w:World} {K:jk} {mg:Str->Option Value} {base:Heap}
inductive U7(vs:List V)(H:Hp)(Q:VK):Prop
 | mk (a b:Int) (h_0:vs=[.int a,.int b]) (h_1:Q (.int (kL a b:Int)) H):U7 vs H Q
def PK:Sp:=λvs H Q _=>U7 vs H Q
theorem Ss{x:Int}{n:Nat}(h:kL x 0=n):(if x<0 then -x else x)=(n:Int):=by
 rw[<-h,Int.gcd_zero_right];split <;> omega
theorem Ml:Ay ["one","other","rest"] ["one","other"] (Ao sCommon):=A7
theorem Yd{f:Addr}{fd:kF}(F:Ar K "common_part" "common_part" sCommon f fd)(ma:mg "abs" = none):An P w K mg base Av 1 f fd ["one","other"] PK:=by
 refine F.BA Ml λcdv A outer s H vs Q E hr h=>?_
 obtain⟨a,b,rfl,q⟩:=h;refine⟨_,AO (HJ j3 (BQ Eo (pv 1) AE (BJ _))
   (AO (AW (i:=2) Ml.nd rfl (jn rfl) (AL aH (pv 0) (pv 1)))
   (AO (AW (i:=0) Ml.nd rfl (jn rfl) (pv 1))
   (AV (AW (i:=1) Ml.nd rfl (jn rfl) (pv 2))))))
  (AV (Aq (A3 Lj (by rfl) ma PyProof.Rows.boot_abs (AA (pv 0) AB)))),?_⟩
 refine Gz (λσ H2=>∃x y r,σ=[some (.int x),some (.int y),r]/\H2=H/\kL x y=kL a b) (λσ _=>match σ with | [_,some (.int y),_]=>y.natAbs | _=>0) ⟨a,b,none,rfl,rfl,rfl⟩ ?_ ?_
 ·rintro σ H2 ⟨x,y,r,rfl,rfl,g⟩;refine⟨_,rfl,rfl,_,rfl,?_⟩;by_cases hy:y=0
  ·refine Ep (iv hy) ?_;subst hy;refine⟨_,rfl,x,rfl,?_⟩;rw[Ss g];exact q
  ·refine Hk (Dj hy) ?_;exact⟨_,rfl,_,rfl,_,_,rfl,rfl,hy,_,rfl,_,rfl,⟨y,x.fmod y,some (.int (x.fmod y)),rfl,rfl,(Ri x y).trans g⟩,aF x y hy⟩
 ·rintro σ H2 Q1 Q2 hq ⟨v,e,sc,b,eb,z⟩;exact⟨v,e,sc,b,eb,hq _ _ z⟩
theorem Nq{X:Cx}{st:Stmt}:PS X st (λ_ _ _=>False):=by
 intro pins s σ H D I h;exact kY h
inductive Te(C:Addr)(vs:List V)(H:Hp)(Q:VK)(E:XK):Prop
 | mk (t b:Int) (h_0:vs=[.int t,.int b]) (h_1:BX b) (h_2:(b=0->False)) (h_3:(b≠0->∀p,H p=none->Q (.ref p) (AH H p (.AG [.int (BS t b).1,.int (BS t b).2])))):Te C vs H Q E
def IM(C:Addr):Sp:=λvs H Q E=>Te C vs H Q E
theorem QA:Ay ["top","bottom","part"] ["top","bottom"] (Ao sFraction):=A7
theorem Xb{f C:Addr}{fd:kF}(F:Ar K "fraction" "fraction" sFraction f fd)(G:Aj P w K mg base 1 "common_part" ["one","other"] PK):An P w K mg base Av 2 f fd ["top","bottom"] (IM C):=by
 refine F.BA QA λcdv A outer s H vs Q E hr h=>?_
 obtain⟨t,b,rfl,hb,h0,h1⟩:=h;refine⟨_,AO (Bn (BQ Dc (pv 1) AE (BJ _)) (AV Nq) CA)
  (AO (AW (i:=2) QA.nd rfl (jn rfl) (AZ G hr (AA (pv 0) (AA (pv 1) AB))))
  (AO (Bn (BQ Ia (pv 1) AE (BJ _)) (AV (AW (i:=2) QA.nd rfl (jn rfl) (GK GJ (pv 2)))) CA)
  (AV (Aq (BZ (AA (AL FX (pv 0) (pv 2)) (AA (AL FX (pv 1) (pv 2)) AB))))))),?_⟩
 refine⟨_,rfl,rfl,_,rfl,?_⟩;by_cases hz:b=0
 ·refine Cy (iv hz) ?_;exact(h0 hz).elim
 refine Ca (Dj hz) ?_;refine⟨_,rfl,_,rfl,t,b,rfl,?_⟩;refine⟨_,rfl,_,_,rfl,rfl,_,rfl,?_⟩;have fin:∀part,part=Mth.part t b->Py (LI (BO (Bg (rI IZ λi j=>V.int (i.fdiv j)) (Ap 0) (Ap 2)) (BO (Bg (rI IZ λi j=>V.int (i.fdiv j)) (Ap 1) (Ap 2)) CF)))
   { nx:=λ_ H'=>Q .BE H',rt:=Q } [some (.int t),some (.int b),some (.int part)] H:=by
  rintro part rfl;have hp:IZ t (Mth.part t b):=⟨Km t b hz,lI (SO t b hz) hb⟩;exact⟨_,rfl,_,rfl,_,_,rfl,rfl,hp,_,rfl,_,rfl,_,_,rfl,rfl,hp,by exact B6,h1 hz⟩
 by_cases hn:b<0
 ·refine Cy hn ?_;exact⟨_,rfl,_,rfl,fin _ (by unfold Mth.part; rw[jq hn])⟩
 ·refine Ca hn ?_;exact fin _ (by unfold Mth.part; rw[jm hn])
open Wd
theorem OO{x:Addr}{H0 H:Hp}(s:AN H0 H)(n:H0 x=none)(o:HO):AN H0 (AH H x o):=λb u q=>by rw[Ad (BP q n)]; exact s b u q
theorem GY{i:Int}{n:Nat}(h:i.natAbs<=2 ^ n)(hn:n<8000):BX i:=lI h (uI (by decide) hn)
theorem N6{ns:List Int}{i:Nat}{v:V}(h:(ns.map V.int)[i]?=some v):∃e,v=.int e/\ns[i]?=some e:=by
 rw[ji] at h;cases q:ns[i]? with
 | none=>rw[q] at h; cases h
 | some e=>rw[q] at h; exact⟨e,(jL h).symm,rfl⟩
theorem IG{ns:List Int}{i:Nat}(h:i<ns.length):Bv (ns.map V.int) (i:Int)=some (.int (ns.getD i 0)):=by
 refine Bc ?_;rw[ji,jb h,je,jb h]; rfl
theorem DX{α:Type}{xs:List α}{i:Nat}{x:α}(h:xs[i]?=some x):xs.take (i+1)=xs.take i++[x]:=by
 rw[vO,h]; rfl
variable {f g h C:Addr} {fd gd hd:kF}
inductive Ve(vs:List V)(H:Hp)(Q:VK):Prop
 | mk (a:Addr) (qs:List Rat) (d:Nat) (h_0:vs=[.ref a]) (h_1:A4 AS H a qs) (h_2:(∀q∈qs,q.den<=2 ^ d)) (h_3:d*qs.length+d<8000) (h_4:Q (.int (cb qs)) H):Ve vs H Q
def Pb:Sp:=λvs H Q _=>Ve vs H Q
theorem Mw:Ay ["row","common","one"] ["row"] (Ao sCBot):=A7
theorem bM(F:Ar K "common_bottom" "common_bottom" sCBot f fd)(G:Aj P w K mg base 1 "common_part" ["one","other"] PK):
  An P w K mg base Av 2 f fd ["row"] Pb:=by
 refine F.BA Mw λcdv A outer s H vs Q E hr h=>?_
 obtain⟨a,qs,d,rfl,⟨bs,ha,hA⟩,hd,hsz,q⟩:=h;refine⟨_,AO (AW (i:=1) Mw.nd rfl (jn rfl) AE)
  (AO (CV j3 rfl (Fj (pv 0)) (Af (i:=2) Mw.nd rfl (jn rfl))
   (AV (AW (i:=1) Mw.nd rfl (jn rfl) (AL C4 (AL FX (pv 1) (AZ G hr (AA (pv 1) (AA (A5 Bm (pv 2) AE (λ_ _=>rfl)) AB)))) (A5 Bm (pv 2) AE (λ_ _=>rfl))))))
  (AV (Aq (pv 1)))),?_⟩
 refine⟨_,rfl,a,rfl,⟨_,AK.of ha⟩,?_⟩;refine JZ (xs:=bs.map V.ref) (λi σ H2=>∃u,H2=H/\σ=[some (.ref a),some (.int ((qs.take i).foldl DM 1)),u]) ⟨none,rfl,rfl⟩ (λi σ H2 _ ⟨_,e,_⟩=>by rw[e]; exact AK.of ha) ?_ ?_
 ·rintro i x σ H2 hx ⟨u,rfl,rfl⟩;obtain⟨b,y,rfl,_,hy,hB⟩:=hA.ref hx;have hi:i<qs.length:=(jc.mp hy).1;have ym:y∈qs:=jd hy;obtain⟨c1,c2,c3,c4⟩:=VT (qs.take i) (c:=1) (D:=0) (d:=d) (by decide) (by decide) (λp hp=>hd p (List.mem_of_mem_take hp));generalize hc:(qs.take i).foldl DM 1=c at *;have lt:(qs.take i).length<=qs.length:=by simp; omega
  have mle:d*(qs.take i).length<=d*qs.length:=lY d lt;have hdn:y.den<=2 ^ d:=hd y ym;have hg0:(kL c y.den:Int)≠0:=by have:=o6 (y.den:Int) (show c≠0 by omega); omega
  have hgb:BX (kL c y.den:Int):=by
   refine GY (n:=d) ?_ (by omega);rw[j9];refine jW (rZ ?_ (rN.mp (oR c (y.den:Int)))) ?_
   ·have:=y.den_nz; omega
   ·simpa using hdn
  have hb1:BX (c.fdiv (kL c y.den:Int)):=by
   refine GY (n:=0+d*(qs.take i).length) (jW ?_ c4) (by omega);rw[lE (o7 c _)];exact sQ c _
  have hb2:BX (y.den:Int):=GY (n:=d) (by simpa using hdn) (by omega);refine⟨_,rfl,_,rfl,_,rfl,b,_,_,_,rfl,rfl,AK.of hB,at1,c,y.den,rfl,_,_,rfl,rfl,⟨hg0,hgb⟩,_,rfl,b,_,_,_,rfl,rfl,AK.of hB,at1,_,_,rfl,rfl,⟨hb1,hb2⟩,?_⟩;refine⟨some (.ref b),rfl,?_⟩;rw[DX hy,vM];show _=[some (V.ref a),some (.int (DM ((qs.take i).foldl DM 1) y)),some (.ref b)];rw[hc]; rfl
 ·rintro σ H2 ⟨u,rfl,rfl⟩;refine⟨_,rfl,?_⟩;rw[ja,hA.1,lL];exact q
inductive Q4(vs:List V)(H:Hp)(Q:VK):Prop
 | mk (a:Addr) (qs:List Rat) (b:Int) (h_0:vs=[.ref a,.int b]) (h_1:A4 AS H a qs) (h_2:qs.length<=1000) (h_3:(∀q∈qs,BX q.num/\BX (q.den:Int)/\BX (b.fdiv q.den))) (h_4:∀p H',AN H H'->H p=none->B5 H' p (qs.map (wh b))->Q (.ref p) H'):Q4 vs H Q
def Nr:Sp:=λvs H Q _=>Q4 vs H Q
theorem gX:Ay ["row","bottom"] ["row","bottom"] (Ao sWholes):=A7
theorem iW:(["one","bottom"]:List Str).Nodup:=by decide +kernel
theorem Yr(F:Ar K "wholes" "wholes" sWholes f fd):An P w K mg base Av 1 f fd ["row","bottom"] Nr:=by
 refine F.BA gX λcdv A outer s H vs Q E hr h=>?_
 obtain⟨a,qs,b,rfl,⟨bs,ha,hA⟩,hn,hsz,q⟩:=h;refine⟨_,AV (Aq (C1 (Nc:=["one","bottom"]) (cap:=[(1,1)]) (g:=BR 0) (te:=Bg (rI Kz λi j=>.int (i*j)) (Bg (FJ K) (Ap 0) (tC (.int 0))) (Bg (rI IZ λi j=>.int (i.fdiv j)) (Ap 1) (Bg (FJ K) (Ap 0) (tC (.int 1))))) rfl (Fj (pv 0))
   (CB rfl rfl (by decide +kernel) (by decide +kernel) (jv.mpr ⟨⟨rfl,rfl⟩,jr _⟩) rfl (jv.mpr ⟨⟨_,_,rfl,rfl,rfl,rfl,rfl⟩,jr _⟩))
   (λ_ _ _ _ _=>Af (i:=0) iW rfl (jn rfl)) (λ_ _ _ _ _=>AL C4 (A5 Bm (pv 0) AE (λ_ _=>rfl)) (AL FX (pv 1) (A5 Bm (pv 0) AE (λ_ _=>rfl)))))),?_⟩
 refine⟨_,rfl,a,rfl,⟨_,AK.of ha⟩,λacc hacc=>?_⟩;refine CQ (GB ha) (by rw[ja,hA.1]; exact hn) hacc (λi ys σ _=>ys=((qs.take i).map (wh b)).map V.int/\∃u,σ=[u,some (.int b)]) ⟨rfl,none,rfl⟩ ?_ ?_
 ·rintro i ys σ H2 x H3 hi sm hacc2 ⟨hys,u,rfl⟩ ⟨rfl,hx⟩ C hC;obtain⟨c,y,rfl,_,hy,hB⟩:=hA.ref hx;obtain⟨s1,s2,s3⟩:=hsz y (jd hy);have hB3:=Au sm hB;have yd:=y.den_nz;refine⟨_,rfl,c,_,_,_,rfl,rfl,AK.of hB3,BF,_,rfl,_,rfl,c,_,_,_,rfl,rfl,AK.of hB3,at1,_,_,rfl,rfl,⟨by omega,s2⟩,_,_,rfl,rfl,⟨s1,s3⟩,?_⟩;refine hC _ _ _ (AN.refl _) ⟨?_,_,rfl⟩;rw[hys,DX hy,jH,jH]; rfl
 ·rintro ys σ H2 sm ha2 hl ⟨hys,_⟩;refine q acc H2 sm hacc ?_;rw[ja,hA.1,lL] at hys;unfold B5;rw[ha2,hys]
inductive T5(vs:List V)(H:Hp)(Q:VK):Prop
 | mk (a:Addr) (R:List (List Int)) (k m:Nat) (h_0:vs=[.ref a,.int k]) (h_1:FI B5 H a R) (h_2:k<R.length) (h_3:R.length<=1000) (h_4:(∀r∈R,r.length=m)) (h_5:k<m) (h_6:m<=1000) (h_7:((∀i,k<=i->i<R.length->(R.getD i []).getD k 0=0)->Q .BE H)) (h_8:∀i p H',k<=i->i<R.length->(R.getD i []).getD k 0≠0->AN H H'->H p=none->FI B5 H' p (Jz R k i)->Q (.ref p) H'):T5 vs H Q
def V0:Sp:=λvs H Q _=>T5 vs H Q
theorem Pu:Ay ["rows","k","place","exchanged"] ["rows","k"] (Ao sLed):=A7
theorem gE:(["number"]:List Str).Nodup:=by decide +kernel
theorem getD_some{α:Type}{xs:List α}{i:Nat}{x d:α}(h:xs[i]?=some x):xs.getD i d=x:=by rw[je,h]; rfl
theorem Lu:k7 "list" = some (.type "list"):=by decide +kernel
theorem OQ{n j:Nat}(h:j<n):D9 n (j:Int)=some j:=by
 unfold D9;rw[jq (by omega),jq (by omega)]; simp
theorem dG(F:Ar K "led" "led" sLed f fd)(ml:mg "len" = none)(mr:mg "range" = none)(mli:mg "list" = none):An P w K mg base Av 1 f fd ["rows","k"] V0:=by
 refine F.BA Pu λcdv A outer s H vs Q E hr h=>?_
 obtain⟨a,R,k,m,rfl,⟨bs,ha,hA⟩,hk,hR,hm,hkm,hm1,qn,qs⟩:=h;refine⟨_,AO (CV j3 rfl (Yj (by rfl) mr (AA (pv 1) (AA (A3 KJ (by rfl) ml BN (AA (pv 0) AB)) AB))) (Af (i:=2) Pu.nd rfl (jn rfl))
   (AV (Bn (BQ Eo (A5 CL (A5 CL (pv 0) (pv 2) (λ_ _=>rfl)) (pv 1) (λ_ _=>rfl)) AE (BJ _))
    (AO (AW (i:=3) Pu.nd rfl (jn rfl) (CP XN (by rfl) mli Lu (AA (pv 0) AB)))
    (AO (Bn (BQ Eo (pv 2) (pv 1) (BJ _))
     (AO (DZ (A5 CL (pv 0) (pv 2) (λ_ _=>rfl)) (FC (pv 3) (pv 1) E8))
     (AV (DZ (C1 (Nc:=["number"]) (cap:=[]) (g:=BR 0) (te:=W7 (rU λi=>.int (-i)) (Ap 0)) rfl (Je (A5 CL (pv 0) (pv 1) (λ_ _=>rfl)))
      (CB rfl rfl (by decide +kernel) (by decide +kernel) (jr _) rfl (jr _)) (λ_ _ _ _ _=>Af (i:=0) gE rfl (jn rfl)) (λ_ _ _ _ _=>GK GJ (pv 0))) (FC (pv 3) (pv 2) E8)))) CA)
    (AV (Aq (pv 3))))) CA)))
  (AV (Aq Kx)),?_⟩
 have hbl:bs.length=R.length:=hA.1;refine⟨_,rfl,_,rfl,a,_,rfl,.inl (AR.of ha),_,_,rfl,⟨by omega,by omega,by rw[ja]; omega,by rw[ja]; omega⟩,?_⟩;rw[ja,show((bs.length:Int)-(k:Int)).toNat=R.length-k by omega];refine LZ (n:=R.length-k) (λi σ H2=>H2=H/\(∃u v,σ=[some (.ref a),some (.int k),u,v])/\∀j,k<=j->j<k+i->(R.getD j []).getD k 0=0) ⟨rfl,⟨none,none,rfl⟩,λj h1 h2=>by omega⟩ ?_ ?_
 ·rintro i σ H2 hi ⟨rfl,⟨u,v,rfl⟩,hz⟩;have hki:k+i<R.length:=by omega
  have ei:R[k+i]?=some R[k+i]:=jb hki;obtain⟨b,hb,hB⟩:=hA.get ei;have rl:R[k+i].length=m:=hm _ (kU hki);have gi:R.getD (k+i) []=R[k+i]:=getD_some ei;have cst:(k:Int)+(i:Int)=((k+i:Nat):Int):=by omega
  refine⟨_,rfl,_,rfl,a,_,_,_,rfl,rfl,AR.of ha,by rw[cst]; exact Bc (DD hb),_,rfl,b,_,_,_,rfl,rfl,AR.of hB,IG (by omega),rfl,_,rfl,?_⟩;by_cases hv:R[k+i].getD k 0=0
  ·refine Ep (iv hv) ⟨rfl,⟨_,_,rfl⟩,λj h1 h2=>?_⟩;rcases j6 j (k+i) with h3 | h3
   ·exact hz j h1 h3
   ·obtain rfl:j=k+i:=by omega
    rw[gi]; exact hv
  ·refine Hk (Dj hv) ?_;refine⟨_,rfl,a,_,rfl,.inl (AR.of ha),λl hl=>?_⟩;refine⟨_,rfl,_,rfl,rfl,_,rfl,?_⟩;by_cases hi0:i=0
   ·subst hi0;refine Ep (iv (by omega)) ?_;refine⟨_,rfl,qs (k+0) l _ (by omega) hki (by rw[gi]; exact hv) (AY hl _) hl ?_⟩;unfold Jz;rw[jq (by omega)];exact⟨bs,AU,hA.keep ER (AY hl _)⟩
   ·refine Hk (Dj (by omega)) ?_;have ek:R[k]?=some R[k]:=jb hk;obtain⟨c,hc,hCk⟩:=hA.get ek;have gk:R.getD k []=R[k]:=getD_some ek;have al:a≠l:=BP ha hl;have s1:AN H2 (AH H2 l (.AD (bs.map V.ref))):=AY hl _;refine⟨_,rfl,_,rfl,a,_,_,_,rfl,rfl,AR.of (s1 _ _ ha),by rw[cst]; exact Bc (DD hb),_,rfl,_,rfl,l,_,_,_,rfl,rfl,AU,OQ (j:=k) (by rw[ja]; omega),?_⟩;have s2:AN H2 (AH (AH H2 l (.AD (bs.map V.ref))) l (.AD ((bs.map V.ref).set k (.ref b)))):=OO s1 hl _;refine⟨_,rfl,_,rfl,a,_,_,_,rfl,rfl,AR.of (s2 _ _ ha),Bc (DD hc),c,rfl,⟨_,AR.of (s2 _ _ hCk)⟩,λacc hacc=>?_⟩;have hCk2:=s2 _ _ hCk;generalize hH3:AH (AH H2 l (.AD (bs.map V.ref))) l (.AD ((bs.map V.ref).set k (.ref b)))=H3 at *;have hl3:H3 l=some (.AD ((bs.map V.ref).set k (.ref b))):=by rw[<-hH3]; exact AU
    have rk:R[k].length=m:=hm _ (kU hk);refine CQ (E7 hCk2) (by rw[ja]; omega) hacc (λj ys σ _=>ys=((R[k].take j).map λx=>-x).map V.int/\∃u,σ=[u]) ⟨rfl,none,rfl⟩ ?_ ?_
    ·rintro j ys σ H4 x H5 hj sm hacc2 ⟨hys,u4,rfl⟩ ⟨rfl,hx⟩ C hC;obtain⟨e,rfl,he⟩:=N6 hx;refine⟨_,rfl,_,rfl,hC _ _ _ (AN.refl _) ⟨?_,_,rfl⟩⟩;rw[hys,DX he,jH,jH]; rfl
    ·rintro ys σ H4 sm ha4 hlen ⟨hys,_⟩;rw[ja,lL] at hys;refine⟨_,rfl,_,rfl,l,_,_,_,rfl,rfl,sm _ _ hl3,by rw[cst]; exact OQ (j:=k+i) (by rw[mI,ja]; omega),?_⟩;have acl:acc≠l:=λz=>by rw[z,hl3] at hacc; cases hacc
     have s5:AN H2 (AH H4 l (.AD (((bs.map V.ref).set k (.ref b)).set (k+i) (.ref acc)))):=OO (s2.trans sm) hl _;refine⟨_,rfl,qs (k+i) l _ (by omega) hki (by rw[gi]; exact hv) s5 hl ?_⟩;unfold Jz;rw[jm (by omega),gi,gk];refine⟨(bs.set k b).set (k+i) acc,?_,?_⟩
     ·rw[AU,oX,oX]
     ·refine((hA.keep ER s5).set k (ER s5 hB)).set (k+i) ?_;show AH H4 l _ acc=_;rw[Ad acl,ha4,hys]
 ·rintro σ H2 ⟨rfl,⟨u,v,rfl⟩,hz⟩;exact qn λi h1 h2=>hz i h1 (by omega)
inductive VG(vs:List V)(H:Hp)(Q:VK):Prop
 | mk (a b:Addr) (row lead:List Int) (k m:Nat) (p:Int) (h_0:vs=[.ref a,.ref b,.int k,.int p]) (h_1:B5 H a row) (h_2:B5 H b lead) (h_3:row.length=m) (h_4:lead.length=m) (h_5:k<m) (h_6:m<=1000) (h_7:p≠0) (h_8:BX p) (h_9:(∀x∈row,BX x)) (h_10:(∀x∈lead,BX x)) (h_11:∀q H',AN H H'->H q=none->B5 H' q (Ct row lead k p)->Q (.ref q) H'):VG vs H Q
def PV:Sp:=λvs H Q _=>VG vs H Q
theorem gL:Ay ["row","lead","k","before"] ["row","lead","k","before"] (Ao sSweptRow):=A7
theorem WN:(["number","other","row","lead","k","before"]:List Str).Nodup:=by decide +kernel
def gP(K:jk):TE:=Bg (rI IZ λi j=>.int (i.fdiv j)) (Bg (FN λi j=>.int (i-j)) (Bg (rI Kz λi j=>.int (i*j)) (Bg (GZ K) (Ap 3) (Ap 4)) (Ap 0)) (Bg (rI Kz λi j=>.int (i*j)) (Bg (GZ K) (Ap 2) (Ap 4)) (Ap 1))) (Ap 5)
theorem XZ(F:Ar K "swept_row" "swept_row" sSweptRow f fd)(mz:mg "zip" = none):An P w K mg base Av 1 f fd ["row","lead","k","before"] PV:=by
 refine F.BA gL λcdv A outer s H vs Q E hr h=>?_
 obtain⟨a,b,row,lead,k,m,p,rfl,ha,hb,hr1,hl1,hk,hm,hp,bp,br,bl,q⟩:=h;refine⟨_,AV (Aq (C1 (Nc:=["number","other","row","lead","k","before"]) (cap:=[(2,0),(3,1),(4,2),(5,3)]) (g:=Ih K 2 (GQ (BR 0) (GQ (BR 1) LB))) (te:=gP K) rfl (Lv (t1:=false) (t2:=false) (by rfl) mz (AA (pv 0) (AA (pv 1) AB)))
   (CB rfl rfl (by decide +kernel) (by decide +kernel) (jv.mpr ⟨⟨rfl,rfl⟩,jv.mpr ⟨⟨rfl,rfl⟩,jv.mpr ⟨⟨rfl,rfl⟩,jv.mpr ⟨⟨rfl,rfl⟩,jr _⟩⟩⟩⟩) rfl
    (jv.mpr ⟨⟨_,_,rfl,rfl,rfl,rfl,rfl⟩,jv.mpr ⟨⟨_,_,rfl,rfl,rfl,rfl,rfl⟩,jv.mpr ⟨⟨_,_,rfl,rfl,rfl,rfl,rfl⟩,jv.mpr ⟨⟨_,_,rfl,rfl,rfl,rfl,rfl⟩,jr _⟩⟩⟩⟩))
   (λ_ _ _ _ _=>HV rfl (BI (Af (i:=0) WN rfl (jn rfl)) (BI (Af (i:=1) WN rfl (jn rfl)) Ck)))
   (λ_ _ _ _ _=>AL FX (AL DN (AL C4 (A5 CL (pv 3) (pv 4) (λ_ _=>rfl)) (pv 0)) (AL C4 (A5 CL (pv 2) (pv 4) (λ_ _=>rfl)) (pv 1))) (pv 5)))),?_⟩
 refine⟨_,rfl,_,rfl,a,b,rfl,⟨_,Bf.l ha⟩,⟨_,Bf.l hb⟩,λacc hacc=>?_⟩;refine CQ (OR (xs:=row.map V.int) (ys:=lead.map V.int) (λH2 s=>Bf.l (s _ _ ha)) (λH2 s=>Bf.l (s _ _ hb)) (by rw[ja,ja]; omega)) (by rw[ja]; omega) hacc
  (λi ys σ _=>ys=((Ct row lead k p).take i).map V.int/\∃u v,σ=[u,v,some (.ref a),some (.ref b),some (.int k),some (.int p)]) ⟨rfl,none,none,rfl⟩ ?_ ?_
 ·rintro i ys σ H2 x H3 hi sm hacc2 ⟨hys,u,v,rfl⟩ ⟨t,n1,n2,rfl,ht,rfl,hn1,hn2⟩ C hC;obtain⟨x1,rfl,hx1⟩:=N6 hn1;obtain⟨x2,rfl,hx2⟩:=N6 hn2;have s3:AN H2 (AH H2 t (.AG [.int x1,.int x2])):=AY ht _;have gm:∀(l:List Int) (j:Nat),j<l.length->(∀x∈l,BX x)->BX (l.getD j 0):=λl j hj hb=>by
   rw[je,jb hj]; exact hb _ (kU hj)
  refine⟨t,_,rfl,AK.of AU,rfl,_,_,rfl,_,_,rfl,rfl,?_⟩;refine⟨_,rfl,_,rfl,b,_,_,_,rfl,rfl,AR.of (s3 _ _ (sm _ _ hb)),IG (by omega),_,rfl,_,_,rfl,rfl,⟨gm _ _ (by omega) bl,br _ (jd hx1)⟩,
   _,rfl,_,rfl,a,_,_,_,rfl,rfl,AR.of (s3 _ _ (sm _ _ ha)),IG (by omega),_,rfl,_,_,rfl,rfl,⟨gm _ _ (by omega) br,bl _ (jd hx2)⟩,_,_,rfl,rfl,_,rfl,_,_,rfl,rfl,⟨hp,bp⟩,?_⟩
  refine hC _ _ _ s3 ⟨?_,_,_,rfl⟩;have e:(Ct row lead k p)[i]?=some ((lead.getD k 0*x1-row.getD k 0*x2).fdiv p):=by
   unfold Ct;rw[oV,hx1,hx2]
  rw[hys,DX e,jH]; rfl
 ·rintro ys σ H2 sm ha2 hl ⟨hys,_⟩;refine q acc H2 sm hacc ?_;rw[ja] at hys
  have:(Ct row lead k p).length=m:=Lz hr1 hl1
  rw[jz (by omega)] at hys;unfold B5;rw[ha2,hys]
inductive Ra(vs:List V)(H:Hp)(Q:VK):Prop
 | mk (a:Addr) (R:List (List Int)) (n m B0:Nat) (h_0:vs=[.ref a]) (h_1:FI B5 H a R) (h_2:R.length=n) (h_3:n<=m) (h_4:m<=100) (h_5:(∀r∈R,r.length=m)) (h_6:1<=B0) (h_7:(∀r∈R,∀x∈r,x.natAbs<=B0)) (h_8:(m*B0) ^ n<2 ^ 8000) (h_9:(∀H',AN H H'->ld n m (Ac (R.map vr) Ae)=0->Q .BE H')) (h_10:∀p H' T,AN H H'->FI B5 H' p T->(∃Z c v,Bi B0 n m n (R.map vr) T Z c v)->Q (.ref p) H'):Ra vs H Q
def SI:Sp:=λvs H Q _=>Ra vs H Q
theorem Hn:Ay ["rows","size","before","k","lead"] ["rows"] (Ao sSwept):=A7
theorem gp:(["row","lead","k","before"]:List Str).Nodup:=by decide +kernel
theorem Ta{B0 n m k:Nat}{A0:List AX}{top:List (List Int)}{Z:List (List Int×AX)}{p:Int}{v:Aw}(B:Bi B0 n m k A0 top Z p v)(hb:(m*B0) ^ n<2 ^ 8000){z:List Int×AX}(hz:z∈Z):∀x∈z.1,BX x:=by
 intro x hx;obtain⟨j,rfl⟩:=Wd.mem_getD hx;have h:=Fm (B.W6 hz j);have hl:=B.Ex;have hp:0<Z.length:=mD hz;have h1:1<=m*B0:=v5 (by have:=B.nm; omega) B.b1;exact lI (jW h (VD h1 (by omega))) hb
theorem Vu{B0 n m k:Nat}{A0:List AX}{top:List (List Int)}{Z:List (List Int×AX)}{p:Int}{v:Aw}(B:Bi B0 n m k A0 top Z p v)(hb:(m*B0) ^ n<2 ^ 8000):BX p:=by
 rcases nI k with rfl | hk
 ·have h1:=B.pl
  have:(p:Rat)=ld 0 m v:=h1.symm
  have hw:=B.Hv (Tk 0 m);have e:ld 0 m v=v (Tk 0 m):=by simp[ld,B8]
  rw[<-e,<-this] at hw
  have:=Fm hw
  have z:(1:Nat)<2 ^ 8000:=by
   have:=Nat.one_lt_two_pow (n:=8000) (by decide)
   exact this
  rw[vm] at this;exact lI this z
 ·have hl:=B.Ho hk;have ht:=B.Fq;have hm:top.getD (k-1) []∈top:=by
   rw[je,jb (by omega)]; exact kU _
  have:=Fm (B.JE _ hm (k-1))
  rw[hl] at this;exact lI this hb
theorem Zv (F:Ar K "swept" "swept" sSwept f fd) (G:Aj P w K mg base 1 "led" ["rows","k"] V0)
  (G2:Aj P w K mg base 1 "swept_row" ["row","lead","k","before"] PV)
  (ml:mg "len" = none) (mr:mg "range" = none):An P w K mg base Av 2 f fd ["rows"] SI:=by
 refine F.BA Hn λcdv A outer s H vs Q E hr h=>?_
 obtain⟨a,R,n,m,B0,rfl,hA,hn,hnm,hm,hcol,hb1,hbd,hbig,qn,qs⟩:=h;refine⟨_,AO (AW (i:=1) Hn.nd rfl (jn rfl) (A3 KJ (by rfl) ml BN (AA (pv 0) AB)))
  (AO (AW (i:=2) Hn.nd rfl (om rfl) AE)
  (AO (CV j3 rfl (JO (by rfl) mr (AA (pv 1) AB)) (Af (i:=3) Hn.nd rfl (om rfl))
   (AO (AW (i:=0) Hn.nd rfl (jn rfl) (AZ G hr (AA (pv 0) (AA (pv 3) AB))))
   (AO (Bn (BQ Ub (pv 0) Kx (BJ _)) (AV (Aq Kx)) CA)
   (AO (AW (i:=4) Hn.nd rfl (om rfl) (A5 CL (pv 0) (pv 3) (λ_ _=>rfl)))
   (AO (AW (i:=0) Hn.nd rfl (jn rfl) (AL HU (EC L6 (pv 0) EO (D0 (AL BL (pv 3) AE)))
    (C1 (Nc:=["row","lead","k","before"]) (cap:=[(1,4),(2,3),(3,2)]) (g:=BR 0) (te:=DT PV [] E0 (BO (Ap 0) (BO (Ap 1) (BO (Ap 2) (BO (Ap 3) CF))))) rfl (Je (EC L6 (pv 0) (D0 (AL BL (pv 3) AE)) EO))
     (CB rfl rfl (by decide +kernel) (by decide +kernel) (jv.mpr ⟨⟨rfl,rfl⟩,jv.mpr ⟨⟨rfl,rfl⟩,jv.mpr ⟨⟨rfl,rfl⟩,jr _⟩⟩⟩) rfl
      (jv.mpr ⟨⟨_,_,rfl,rfl,rfl,rfl,rfl⟩,jv.mpr ⟨⟨_,_,rfl,rfl,rfl,rfl,rfl⟩,jv.mpr ⟨⟨_,_,rfl,rfl,rfl,rfl,rfl⟩,jr _⟩⟩⟩))
     (λ_ _ _ _ _=>Af (i:=0) gp rfl (jn rfl)) (λ_ _ _ _ _=>AZ G2 hr (AA (pv 0) (AA (pv 1) (AA (pv 2) (AA (pv 3) AB))))))))
   (AV (AW (i:=2) Hn.nd rfl (om rfl) (A5 CL (pv 4) (pv 3) (λ_ _=>rfl)))))))))
  (AV (Aq (pv 0))))),?_⟩
 obtain⟨bs,ha,hAt⟩:=id hA;refine⟨_,rfl,a,_,rfl,.inl (AR.of ha),?_⟩;refine⟨_,rfl,(((bs.map V.ref).length:Nat):Int),rfl,by rw[ja,hAt.1]; omega,by rw[ja,hAt.1]; omega,?_⟩;rw[show((((bs.map V.ref).length:Nat):Int)).toNat=n by rw[ja,hAt.1]; omega];refine LZ (n:=n) (λk σ H2=>AN H H2/\∃(c:Addr) (top:List (List Int)) (Z:List (List Int×AX)) (p:Int) (v:Aw) (u1 u2:Option V),σ=[some (.ref c),some (.int (((bs.map V.ref).length:Nat):Int)),some (.int p),u1,u2]/\FI B5 H2 c (top++Z.map (·.1))/\Bi B0 n m k (R.map vr) top Z p v)
  ⟨AN.refl _,a,[],R.map λr=>(r,vr r),1,Ae,none,none,rfl,by simp[qi]; exact hA,Bi.iy hb1 (λr hr j=>IP (RI (hbd r hr) j)) hn hnm hcol⟩ ?_ ?_
 ·rintro k σ H2 hk ⟨sm,c,top,Z,p,v,u1,u2,rfl,hL,B⟩;have lT:=B.Fq;have lZ:=B.Ex;have lall:(top++Z.map (·.1)).length=n:=by simp; omega
  have zk:(0:Int)+(k:Nat)=((k:Nat):Int):=by omega
  refine⟨_,rfl,_,rfl,c,top++Z.map (·.1),k,m,by rw[zk]; rfl,hL,by omega,by omega,?_,by omega,by omega,?_,?_⟩
  ·intro r hr;rcases jI.mp hr with h1 | h1
   ·exact B.Ik r h1
   ·obtain⟨z,hz,rfl⟩:=js.mp h1;exact B.Df z hz
  ·
   intro h0;refine⟨_,rfl,rfl,_,rfl,?_⟩;refine Cy rfl ?_;refine qn H2 sm (B.none hk λz hz=>?_);obtain⟨j,hj,e⟩:=jP hz;have hh:=h0 (k+j) (by omega) (by omega)
   have:(top++Z.map (·.1)).getD (k+j) []=z.1:=by
    rw[je,jy (by omega),show k+j-top.length=j by omega,ji,jb hj,e]; rfl
   rw[this] at hh;exact hh
  ·intro i c2 H3 h1 h2 h3 s3 nc2 hL3;obtain⟨z,Z',B2,eR,hz⟩:=B.iX h1 (by omega) h3;rw[eR] at hL3;refine⟨_,rfl,rfl,_,rfl,?_⟩;refine Ca (λz=>by cases z) ?_;obtain⟨cs,hc2,hAt2⟩:=id hL3;have lZ2:=B2.Ex;simp at lZ2;have lcs:cs.length=n:=by rw[hAt2.1]; simp; omega
   have ek:(top++z.1 :: Z'.map (·.1))[k]?=some z.1:=by rw[jy (by omega),lT]; simp
   obtain⟨b,hb,hB⟩:=hAt2.get ek;refine⟨_,rfl,_,rfl,c2,_,_,_,rfl,rfl,AR.of hc2,by rw[zk]; exact Bc (DD hb),?_⟩;have k1:((0:Int)+(k:Nat))+1=((k+1:Nat):Int):=by omega
   refine⟨_,rfl,_,rfl,_,_,rfl,rfl,_,rfl,c2,_,rfl,AR.of hc2,λp1 hp1=>?_⟩
   (try dsimp only)
   rw[k1,Kc _ (by rw[ja]; omega)];have s4:AN H3 (AH H3 p1 (.AD ((cs.map V.ref).take (k+1)))):=AY hp1 _;have hp14:(AH H3 p1 (.AD ((cs.map V.ref).take (k+1)))) p1=some (.AD ((cs.map V.ref).take (k+1))):=AU;generalize AH H3 p1 (.AD ((cs.map V.ref).take (k+1)))=H4 at s4 hp14;refine⟨_,rfl,_,rfl,_,_,rfl,rfl,_,rfl,c2,_,rfl,AR.of (s4 _ _ hc2),λp2 hp2=>?_⟩
   (try dsimp only)
   rw[k1,ID _ (by rw[ja]; omega)];have s5:AN H4 (AH H4 p2 (.AD ((cs.map V.ref).drop (k+1)))):=AY hp2 _;have hp25:(AH H4 p2 (.AD ((cs.map V.ref).drop (k+1)))) p2=some (.AD ((cs.drop (k+1)).map V.ref)):=by rw[AU,pB]
   generalize AH H4 p2 (.AD ((cs.map V.ref).drop (k+1)))=H5 at s5 hp25;refine⟨p2,rfl,⟨_,AR.of hp25⟩,λacc hacc=>?_⟩;have s35:AN H3 H5:=s4.trans s5;have hAd:At B5 H5 (cs.drop (k+1)) (Z'.map (·.1)):=by
    have:=(hAt2.drop (k+1)).keep ER s35
    have e:(top++z.1 :: Z'.map (·.1)).drop (k+1)=Z'.map (·.1):=by
     rw[List.drop_append,List.drop_of_length_le (by omega),show k+1-top.length=1 by omega]; rfl
    rw[e] at this;exact this
   have hzm:z∈z :: Z':=by simp
   refine CQ (E7 hp25) (by rw[ja,kA]; omega) hacc
    (λi ys σ hp=>∃ds:List Addr,ys=ds.map V.ref/\At B5 hp ds ((Z'.map λy=>Ct y.1 z.1 k p).take i)/\∃u,σ=[u,some (.ref b),some (.int ((0:Int)+(k:Nat))),some (.int p)]) ⟨[],rfl,At.nil,none,rfl⟩ ?_ ?_
   ·rintro i ys σ H6 x H7 hi sm6 hacc6 ⟨ds,rfl,hD,u,rfl⟩ ⟨rfl,hx⟩ C hC;obtain⟨e,r,rfl,he,hr',hE⟩:=hAd.ref hx;rw[ji] at hr';cases q:Z'[i]? with
    | none=>rw[q] at hr'; cases hr'
    | some y =>
     rw[q] at hr';obtain rfl:y.1=r:=jL hr';have ym:y∈z :: Z':=jX _ (jd q);refine⟨_,rfl,_,rfl,_,rfl,_,rfl,e,b,y.1,z.1,k,m,p,by rw[zk]; rfl,sm6 _ _ hE,sm6 _ _ (s35 _ _ hB),B2.Df y ym,B2.Df z hzm,by omega,by omega,B.pz,Vu B hbig,Ta B2 hbig ym,Ta B2 hbig hzm,?_⟩;intro r2 H8 s8 nr2 hr2;refine hC _ _ _ s8 ⟨ds++[r2],by simp,?_,_,rfl⟩;have ne:r2≠acc:=λz=>by rw[z,hacc6] at nr2; cases nr2
     have e3:(Z'.map λy=>Ct y.1 z.1 k p)[i]?=some (Ct y.1 z.1 k p):=by rw[ji,q]; rfl
     rw[DX e3];exact(hD.keep ER (Dz acc s8)).snoc (Fl hr2 ne)
   ·rintro ys σ H6 sm6 hacc6 hl6 ⟨ds,rfl,hD,u,rfl⟩;rw[ja,kA,jz (by simp; omega)] at hD;have hp16:=sm6 _ _ (s5 _ _ hp14);have hlen:(cs.map V.ref).length=n:=by rw[ja]; exact lcs
    have hdl:ds.length=Z'.length:=by rw[hD.1]; simp
    refine⟨p1,acc,_,_,rfl,rfl,hp16,hacc6,by rw[kB,ja,ja]; exact Dp (by omega),λc3 hc3=>?_⟩;have s7:AN H6 (AH H6 c3 (.AD ((cs.map V.ref).take (k+1)++ds.map V.ref))):=AY hc3 _;have s37:=(s35.trans sm6).trans s7;have b1:z.1.length=m:=B2.Df z hzm;refine⟨_,rfl,_,rfl,b,_,_,_,rfl,rfl,AR.of (s37 _ _ hB),by rw[zk]; exact IG (by omega),?_⟩;have B3:=B2.step hz;refine⟨sm.trans (s3.trans s37),c3,top++[z.1],_,z.1.getD k 0,_,_,_,rfl,⟨cs.take (k+1)++ds,?_,?_⟩,B3⟩
    ·rw[AU,jH,qA]
    ·have t1:=(hAt2.take (k+1)).keep ER s37;have e:(top++z.1 :: Z'.map (·.1)).take (k+1)=top++[z.1]:=by
      rw[List.take_append,jz (by omega),show k+1-top.length=1 by omega]; rfl
     rw[e] at t1;have t2:=(hD.keep ER (Dl H6 acc)).keep ER s7;have e2:tu (·.1) (Z'.map λy=>(Ct y.1 z.1 k p,y.2))=Z'.map λy=>Ct y.1 z.1 k p:=by simp[qi]
     rw[e2];exact t1.QB t2
 ·rintro σ H2 ⟨sm,c,top,Z,p,v,u1,u2,rfl,hL,B⟩;obtain⟨rfl,_⟩:=B.fin;rw[kR,lC] at hL;exact⟨_,rfl,qs c H2 top sm hL ⟨[],p,v,B⟩⟩
variable {f1 f2 f3 f4:Addr} {d1 d2 d3 d4:kF}
structure TK(n m d E D:Nat)(T:List (List Rat)):Prop where
 len:T.length=n
 FL:∀r∈T,r.length=m
 nm:n<=m
 XA:m<=15
 den:∀r∈T,∀q∈r,q.den<=2 ^ d
 num:∀r∈T,∀q∈r,BX q.num
 iY:∀r∈T,(cb r).natAbs<=2 ^ D
 iz:∀r∈T,∀q∈r,(wh (cb r) q).natAbs<=2 ^ E
 bd:(4+E)*n<7990/\D<7990/\d*m+d<7990
theorem TK.hcb{n m d E D:Nat}{T:List (List Rat)}(h:TK n m d E D T){r:List Rat}(hr:r∈T):0<cb r/\(∀q∈r,(q.den:Int) ∣ cb r)/\(cb r).natAbs<=2 ^ D :=
 ⟨(Ot r).1,(Ot r).2,h.iY r hr⟩
def Ds(T:List (List Rat)):List (List Int):=T.map λr=>r.map (wh (cb r))
theorem TK.QI{n m d E D:Nat}{T:List (List Rat)}(h:TK n m d E D T):∀r∈Ds T,r.length=m/\∀x∈r,x.natAbs<=2 ^ E:=by
 intro r hr;obtain⟨s,hs,rfl⟩:=js.mp hr;refine⟨by rw[ja]; exact h.FL s hs,λx hx=>?_⟩;obtain⟨q,hq,rfl⟩:=js.mp hx;exact h.iz s hs q hq
theorem TK.Fz{n m d E D:Nat}{T:List (List Rat)}(h:TK n m d E D T):(m*2 ^ E) ^ n<2 ^ 8000:=by
 have h1:m*2 ^ E<=2 ^ (4+E):=by
  rw[pH 2 4];exact o9 _ (by have:=h.XA; omega)
 have h2:=uX h1 n;rw[<-Nat.pow_mul] at h2;exact lI h2 (uI (by decide) (by have:=h.bd; omega))
theorem TK.wb{n m d E D:Nat}{T:List (List Rat)}(h:TK n m d E D T){r:List Rat}(hr:r∈T):∀q∈r,BX q.num/\BX (q.den:Int)/\BX ((cb r).fdiv q.den):=by
 intro q hq;obtain⟨c1,c2,c3⟩:=h.hcb hr
 have:=h.bd
 refine⟨h.num r hr q hq,GY (n:=d) (by simpa using h.den r hr q hq) (by omega),GY (n:=D) (jW ?_ c3) (by omega)⟩;rw[lE (c2 q hq)];exact sQ _ _
theorem gy:(["row"]:List Str).Nodup:=by decide +kernel
theorem bF{α:Type}{xs:List α}{v:α}(h:xs[xs.length-1]?=some v):Bv xs (-1)=some v:=by
 have hl:0<xs.length:=by have:=(jc.mp h).1; omega
 have e:D9 xs.length (-1)=some (xs.length-1):=by
  unfold D9;rw[jm (by decide),jq (by omega)];congr 1; omega
 unfold Bv;rw[e]; exact h
theorem GR:Mo (A4 AS):=λs h=>EU (R:=AS) (λs h=>Au s h) s h
variable {C2:Addr}
structure W9(B0 n:Nat)(T:List (List Int))(c:Int)(x:Nat->Rat)(u:Nat->Int):Prop where
 n0:0<n
 len:T.length=n
 FL:∀r∈T,r.length=n+1
 c0:c≠0
 Ho:(T.getD (n-1) []).getD (n-1) 0=c
 Ez:∀i,i<n->(T.getD i []).getD i 0≠0/\∀j,j<i->(T.getD i []).getD j 0=0
 ig:∀i,i<n->fx n x (vr (T.getD i []))=0
 whole:∀j,j<n->((u j:Int):Rat)=c*x j
 Fz:(∀r∈T,∀y∈r,BX y)/\(∀j,j<n->BX (u j))/\BX c
inductive TM(vs:List V)(H:Hp)(Q:VK):Prop
 | mk (a:Addr) (B0 n:Nat) (T:List (List Int)) (c:Int) (x:Nat->Rat) (u:Nat->Int) (h_0:vs=[.ref a]) (h_1:FI B5 H a T) (h_2:n<=100) (h_3:W9 B0 n T c x u) (h_4:∀p H',AN H H'->H p=none->A4 AS H' p ((ju n).map x)->Q (.ref p) H'):TM vs H Q
def UK:Sp:=λvs H Q _=>TM vs H Q
theorem Hs:Ay ["rows","size","whole","found","k","row","known"] ["rows"] (Ao sBack):=A7
theorem WZ:(["number","other"]:List Str).Nodup:=by decide +kernel
theorem gK:(["number","whole"]:List Str).Nodup:=by decide +kernel
def Eg(u:Nat->Int)(n k:Nat):List Int:=(ju (n-k)).map λi=>u (k+i)
theorem Y2{u:Nat->Int}{n k:Nat}(h:k<n):Eg u n k=u k :: Eg u n (k+1):=by
 unfold Eg;rw[show n-k=(n-(k+1))+1 by omega,lU,jx,kr];congr 1;refine lX λi _=>?_
 show u (k+(i+1))=u (k+1+i);congr 1; omega
def EY(r:List Int)(u:Nat->Int)(n k:Nat):List Int:=(ju (n-k)).map λi=>r.getD (k+i) 0*u (k+i)
theorem Xh{r:List Int}{u:Nat->Int}{n k:Nat}(h:k<n):EY r u n k=(r.getD k 0*u k) :: EY r u n (k+1):=by
 unfold EY;rw[show n-k=(n-(k+1))+1 by omega,lU,jx,kr];congr 1;refine lX λi _=>?_
 show r.getD (k+(i+1)) 0*u (k+(i+1))=r.getD (k+1+i) 0*u (k+1+i)
 have:k+(i+1)=k+1+i:=by omega
 rw[this]
theorem Zt{n:Nat}{r:List Int}{c:Int}{x:Nat->Rat}{u:Nat->Int}(hw:∀j,j<n->((u j:Int):Rat)=c*x j)(hs:fx n x (vr r)=0){k:Nat}(hk:k<n)(hd:r.getD k 0≠0)(hz:∀j,j<k->r.getD j 0=0):
  (r.getD n 0*c-(EY r u n (k+1)).sum).fdiv (r.getD k 0)=u k:=by
 have tail:∀m,m<=n->(((EY r u n (n-m)).sum:Int):Rat)=c*(Am (λj=>vr r j*x j) n-Am (λj=>vr r j*x j) (n-m)):=by
  intro m
  induction m with
  | zero=>intro _; simp[EY]; grind
  | succ m ih =>
   intro hm;rw[Xh (show n-(m+1)<n by omega),j7,tX,kC,hw _ (by omega)];rw[show n-(m+1)+1=n-m by omega,ih (by omega)];have e:Am (λj=>vr r j*x j) (n-m)=Am (λj=>vr r j*x j) (n-(m+1))+vr r (n-(m+1))*x (n-(m+1)):=by
    rw[show n-m=n-(m+1)+1 by omega]; rfl
   rw[e]
   have:vr r (n-(m+1))=((r.getD (n-(m+1)) 0:Int):Rat):=rfl
   rw[<-this]; grind
 have t:=tail (n-(k+1)) (by omega);rw[show n-(n-(k+1))=k+1 by omega] at t;have low:Am (λj=>vr r j*x j) (k+1)=vr r k*x k:=by
  simp only[Am];rw[KN (λl hl=>by rw[show vr r l=0 by simp only[vr,hz l hl]; rfl]; grind)]; grind
 rw[low] at t;have hs':Am (λj=>vr r j*x j) n=vr r n:=by simp only[fx] at hs; grind
 rw[hs'] at t;have key:(((r.getD n 0*c-(EY r u n (k+1)).sum:Int)):Rat)=((r.getD k 0*u k:Int):Rat):=by
  rw[qT,kC,kC,t,hw k hk];have a1:vr r n=((r.getD n 0:Int):Rat):=rfl;have a2:vr r k=((r.getD k 0:Int):Rat):=rfl;rw[<-a1,<-a2]; grind
 have ki:r.getD n 0*c-(EY r u n (k+1)).sum=r.getD k 0*u k:=by exact_mod_cast key
 rw[ki,lE (vK _ _),oh _ hd]
theorem Nu{r:List Int}(h:∀y∈r,BX y){j:Nat}(hj:j<r.length):BX (r.getD j 0):=by
 rw[je,jb hj]; exact h _ (kU hj)
theorem ay(xs:List V){i j:Nat}(h:i<=j)(hj:j<=xs.length):C8 xs (some (i:Int)) (some (j:Int))=(xs.drop i).take (j-i):=by
 unfold C8;have e1:HT.Ak xs.length 0 (some (i:Int))=i:=by simp[HT.Ak]; rw[jm (by omega)]; omega
 have e2:HT.Ak xs.length xs.length (some (j:Int))=j:=by simp[HT.Ak]; rw[jm (by omega)]; omega
 rw[e1,e2]
theorem bH (F:Ar K "found_back" "found_back" sBack f fd) (G:Aj P w K mg base 2 "fraction" ["top","bottom"] (IM C))
  (ml:mg "len" = none) (mr:mg "range" = none) (mz:mg "zip" = none) (msu:mg "sum" = none) (mt:mg "tuple" = none):An P w K mg base Av 3 f fd ["rows"] UK:=by
 refine F.BA Hs λcdv A outer s H vs Q E hr h=>?_
 obtain⟨a,B0,n,T,c,x,u,rfl,⟨bs,ha,hA⟩,hn,S,q⟩:=h;refine⟨_,AO (AW (i:=1) Hs.nd rfl (jn rfl) (A3 KJ (by rfl) ml BN (AA (pv 0) AB)))
  (AO (AW (i:=2) Hs.nd rfl (om rfl) (A5 CL (A5 CL (pv 0) (GK GJ AE) (λ_ _=>rfl)) (AL DN (pv 1) AE) (λ_ _=>rfl)))
  (AO (AW (i:=3) Hs.nd rfl (jn rfl) (Bz AB))
  (AO (CV j3 rfl (Yg (by rfl) mr (AA (AL DN (pv 1) AE) (AA (GK GJ AE) (AA (GK GJ AE) AB)))) (Af (i:=4) Hs.nd rfl (jn rfl))
   (AO (AW (i:=5) Hs.nd rfl (jn rfl) (A5 CL (pv 0) (pv 4) (λ_ _=>rfl)))
   (AO (AW (i:=6) Hs.nd rfl (jn rfl) (A3 (Yp rfl) (by rfl) msu dc (AA (C1 (Nc:=["number","other"]) (cap:=[]) (g:=Ih K 2 (GQ (BR 0) (GQ (BR 1) LB))) (te:=Bg (rI Kz λi j=>.int (i*j)) (Ap 0) (Ap 1)) rfl
     (Lv (t1:=false) (t2:=false) (by rfl) mz (AA (EC L6 (pv 5) (D0 (AL BL (pv 4) AE)) (D0 (pv 1))) (AA (pv 3) AB)))
     (CB rfl rfl (by decide +kernel) (by decide +kernel) (jr _) rfl (jr _)) (λ_ _ _ _ _=>HV rfl (BI (Af (i:=0) WZ rfl (jn rfl)) (BI (Af (i:=1) WZ rfl (jn rfl)) Ck)))
     (λ_ _ _ _ _=>AL C4 (pv 0) (pv 1))) AB)))
   (AV (AW (i:=3) Hs.nd rfl (jn rfl) (AL HU (Bz (AA (AL FX (AL DN (AL C4 (A5 CL (pv 5) (pv 1) (λ_ _=>rfl)) (pv 2)) (pv 6)) (A5 CL (pv 5) (pv 4) (λ_ _=>rfl))) AB)) (pv 3)))))))
  (AV (Aq (CP FW (by rfl) mt CG (AA (C1 (Nc:=["number","whole"]) (cap:=[(1,2)]) (g:=BR 0) (te:=DT (IM C) [] E0 (BO (Ap 0) (BO (Ap 1) CF))) rfl (Je (pv 3))
   (CB rfl rfl (by decide +kernel) (by decide +kernel) (jv.mpr ⟨⟨rfl,rfl⟩,jr _⟩) rfl (jv.mpr ⟨⟨_,_,rfl,rfl,rfl,rfl,rfl⟩,jr _⟩))
   (λ_ _ _ _ _=>Af (i:=0) gK rfl (jn rfl)) (λ_ _ _ _ _=>AZ G hr (AA (pv 0) (AA (pv 1) AB)))) AB))))))),?_⟩
 have n0:=S.n0;have lT:=S.len;have lb:bs.length=n:=by rw[hA.1]; exact lT
 have gT:∀i,i<n->∃b,bs[i]?=some b/\B5 H b (T.getD i [])/\(T.getD i []).length=n+1/\(∀y∈T.getD i [],BX y):=by
  intro i hi;have e:T[i]?=some (T[i]'(by omega)):=jb _;obtain⟨b,h1,h2⟩:=hA.get e;have hm:T[i]'(by omega)∈T:=kU _;rw[getD_some e];exact⟨b,h1,h2,S.FL _ hm,S.Fz.1 _ hm⟩
 obtain⟨bz,hbz,hBz,lz,_⟩:=gT (n-1) (by omega);refine⟨_,rfl,a,_,rfl,.inl (AR.of ha),?_⟩;rw[ja,lb];have nm1:((n:Nat):Int)-1=((n-1:Nat):Int):=by omega
 refine⟨_,rfl,_,rfl,a,_,_,_,rfl,rfl,AR.of ha,bF (by rw[ja,lb]; exact DD hbz),_,rfl,_,_,rfl,rfl,bz,_,_,_,rfl,rfl,AR.of hBz,by rw[nm1]; exact IG (by omega),?_⟩;rw[S.Ho];refine⟨by exact E4,λl0 hl0=>?_⟩;have s0:=AY hl0 (.AD [])
 try dsimp only
 try refine Cw ?_
 first | refine Cv λUL1 hUL1=>?_ | refine nx_hide λUL1 hUL1=>?_
 refine⟨_,rfl,_,_,rfl,rfl,_,rfl,_,rfl,n,rfl,by omega,?_⟩;refine Zg (n:=n) (lo:=((n:Nat):Int)-1) (step:=-1) (λi σ H2=>AN H H2/\∃l u4 u5 u6,σ=[some (.ref a),some (.int ((n:Nat):Int)),some (.int c),some (.ref l),u4,u5,u6]/\H l=none/\B5 H2 l (Eg u n (n-i)))
  ⟨s0,l0,none,none,none,rfl,hl0,by unfold B5 Eg; rw[AU]; simp⟩ ?_ ?_
 ·rintro i σ H2 hi ⟨sm,l,u4,u5,u6,rfl,nl,hl⟩;have hk:n-1-i<n:=by omega
  obtain⟨k,hkd⟩:∃k,k=n-1-i:=⟨_,rfl⟩;have ek:((n:Nat):Int)-1+(i:Nat)*(-1)=((k:Nat):Int):=by omega
  obtain⟨b,hb,hB,lr,br⟩:=gT k (by omega);generalize hrow:T.getD k []=row at hB lr br;rw[ek];have ha2:=sm _ _ ha;have hB2:=sm _ _ hB;refine⟨_,rfl,_,rfl,a,_,_,_,rfl,rfl,AR.of ha2,Bc (DD hb),?_⟩;have k1:((k:Nat):Int)+1=((k+1:Nat):Int):=by omega
  refine⟨_,rfl,_,rfl,_,_,rfl,rfl,_,rfl,_,rfl,_,rfl,b,_,rfl,AR.of hB2,λp1 hp1=>?_⟩
  (try dsimp only)
  rw[k1,ay _ (by omega) (by rw[ja]; omega)];have s3:=AY hp1 (.AD (((row.map V.int).drop (k+1)).take (n-(k+1))));have e1:(AH H2 p1 (.AD (((row.map V.int).drop (k+1)).take (n-(k+1))))) p1=some (.AD (((row.drop (k+1)).take (n-(k+1))).map V.int)):=by rw[AU,qA,pB]
  generalize AH H2 p1 (.AD (((row.map V.int).drop (k+1)).take (n-(k+1))))=H3 at s3 e1;have ni:n-i=k+1:=by omega
  rw[ni] at hl;have hl3:=s3 _ _ hl;refine⟨_,rfl,p1,l,rfl,⟨_,Bf.l e1⟩,⟨_,Bf.l hl3⟩,λacc hacc=>?_⟩;have lf:(Eg u n (k+1)).length=n-(k+1):=by unfold Eg; simp
  refine CQ (OR (xs:=((row.drop (k+1)).take (n-(k+1))).map V.int) (ys:=(Eg u n (k+1)).map V.int) (λH4 s=>Bf.l (s _ _ e1)) (λH4 s=>Bf.l (s _ _ hl3)) (by simp[lf]; omega)) (by simp; omega) hacc
   (λj ys σ _=>ys=((EY row u n (k+1)).take j).map V.int/\∃v1 v2,σ=[v1,v2]) ⟨rfl,none,none,rfl⟩ ?_ ?_
  ·rintro j ys σ H4 z H5 hj s4 hacc4 ⟨hys,v1,v2,rfl⟩ ⟨t,n1,n2,rfl,ht,rfl,hn1,hn2⟩ Cc hC;have hj2:j<n-(k+1):=by simp at hj; omega
   have g1:n1=.int (row.getD (k+1+j) 0):=by
    rw[ji,rP,jq hj2,nH,jb (by omega)] at hn1;rw[je,jb (by omega)];exact(jL hn1).symm
   have g2:n2=.int (u (k+1+j)):=by
    unfold Eg at hn2;rw[ji,ji,kE hj2] at hn2;exact(jL hn2).symm
   subst g1 g2;have s5:=AY ht (.AG [.int (row.getD (k+1+j) 0),.int (u (k+1+j))]);refine⟨t,_,rfl,AK.of AU,rfl,_,_,rfl,_,_,rfl,rfl,?_⟩;refine⟨_,rfl,_,rfl,_,_,rfl,rfl,⟨Nu br (by omega),S.Fz.2.1 _ (by omega)⟩,?_⟩;refine hC _ _ _ s5 ⟨?_,_,_,rfl⟩;have e:(EY row u n (k+1))[j]?=some (row.getD (k+1+j) 0*u (k+1+j)):=by unfold EY; rw[ji,kE hj2]; rfl
   rw[hys,DX e,jH]; rfl
  ·rintro ys σ H4 s4 hacc4 hl4 ⟨hys,_⟩;have lp:(EY row u n (k+1)).length=n-(k+1):=by unfold EY; simp
   rw[jz (by simp; omega)] at hys;rw[hys] at hacc4;refine⟨acc,_,rfl,hacc4,?_⟩;have s24:=s3.trans s4;have bn:=Zt (r:=row) S.whole (by rw[<-hrow]; exact S.ig k (by omega)) (k:=k) (by omega) (by rw[<-hrow]; exact(S.Ez k (by omega)).1) (by rw[<-hrow]; exact(S.Ez k (by omega)).2);refine⟨_,rfl,_,rfl,b,_,_,_,rfl,rfl,AR.of (s24 _ _ hB2),IG (by omega),_,rfl,_,_,rfl,rfl,⟨Nu br (by omega),S.Fz.2.2⟩,_,rfl,_,_,rfl,rfl,_,rfl,_,rfl,b,_,_,_,rfl,rfl,AR.of (s24 _ _ hB2),IG (by omega),_,_,rfl,rfl,
    ⟨by rw[<-hrow]; exact(S.Ez k (by omega)).1,Nu br (by omega)⟩,by exact Ei,λp2 hp2=>?_⟩
   (try dsimp only)
   rw[bn];have s5:=AY hp2 (.AD [.int (u k)]);refine⟨_,rfl,p2,l,_,_,rfl,rfl,AU,s5 _ _ (s4 _ _ hl3),by simp[lf]; exact Dp (by omega),λp3 hp3=>?_⟩;have s6:=AY hp3 (.AD ([V.int (u k)]++(Eg u n (k+1)).map V.int));have sall:=sm.trans (s24.trans (s5.trans s6));refine⟨sall,p3,_,_,_,rfl,(sm.trans (s24.trans s5)).free hp3,?_⟩;unfold B5;rw[AU,show n-(i+1)=k by omega,Y2 (show k<n by omega)]; rfl
 ·rintro σ H2 ⟨sm,l,u4,u5,u6,rfl,nl,hl⟩;subst hUL1;rw[nM] at hl;refine⟨_,rfl,l,rfl,⟨_,AR.of hl⟩,λacc hacc=>?_⟩;have lf:(Eg u n 0).length=n:=by unfold Eg; simp
  refine CQ (E7 hl) (by rw[ja,lf]; omega) hacc (λj ys σ hp=>∃ds:List Addr,ys=ds.map V.ref/\At AS hp ds (((ju n).map x).take j)/\∃v,σ=[v,some (.int c)]) ⟨[],rfl,At.nil,none,rfl⟩ ?_ ?_
  ·rintro j ys σ H4 z H5 hj s4 hacc4 ⟨ds,rfl,hD,v,rfl⟩ ⟨rfl,hx⟩ Cc hC;have hj2:j<n:=by rw[ja,lf] at hj; exact hj
   have g1:z=.int (u j):=by
    unfold Eg at hx;rw[ji,ji,kE (by omega)] at hx
    have:=(jL hx).symm
    rw[this]; simp
   subst g1;refine⟨_,rfl,_,rfl,u j,c,rfl,S.Fz.2.2,λz=>absurd z S.c0,λ_ p hp=>?_⟩;have ef:BS (u j) c=fr (x j):=by
    rw[FY _ _ S.c0];have h1:=S.whole j hj2;have h2:((c:Int):Rat)≠0:=by have:=S.c0; exact_mod_cast this
    have:((u j:Int):Rat) / ((c:Int):Rat)=x j:=by rw[h1]; grind
    rw[this]; rfl
   rw[ef];have s5:=AY hp (.AG [.int (fr (x j)).1,.int (fr (x j)).2]);refine hC _ _ _ s5 ⟨ds++[p],by simp,?_,_,rfl⟩;have e:((ju n).map x)[j]?=some (x j):=by rw[ji,kE hj2]; rfl
   rw[DX e];exact(hD.keep Au (Dz acc s5)).snoc (AS.BK (q:=x j) AU (s5 _ _ hacc4))
  ·rintro ys σ H4 s4 hacc4 hl4 ⟨ds,rfl,hD,v,rfl⟩;rw[ja,lf,jz (by simp)] at hD;refine⟨acc,_,rfl,.inl ⟨AR.of hacc4,λp hp=>?_⟩⟩;have s5:=AY hp (.AG (ds.map V.ref));exact q p _ ((sm.trans s4).trans s5) ((sm.trans s4).free hp) ⟨ds,AU,(hD.keep Au (Dl H4 acc)).keep Au s5⟩
theorem iq{H:Hp}{a b:Addr}{r:List Rat}{ys:List V}(h:A4 AS H b r)(e:H a=some (.AD ys)):A4 AS (BK H a) b r:=by
 obtain⟨cs,h1,h2⟩:=h;exact⟨cs,Fl h1 (λz=>by rw[z,e] at h1; cases h1),MN e h2⟩
def CH(T:List (List Rat))(r:List Rat):List (List Rat):=qP (λrow q=>row++[q]) T r
theorem cL{B0 n d E' D:Nat}{J:List (List Rat)}(ok:TK n (n+1) d E' D J)(n0:0<n){T2:List (List Int)}{Z:List (List Int×AX)}{c:Int}{v:Aw}(hb:((n+1)*B0) ^ n<2 ^ 8000)(B:Bi B0 n (n+1) n ((Ds J).map vr) T2 Z c v):
  ∃x u,W9 B0 n T2 c x u/\(∀r∈J,fx n x (vq r)=0)/\dt n (n+1) J≠0:=by
 obtain⟨rfl,eD⟩:=B.fin;have lT:=B.Fq;have rowm:∀i,i<n->T2.getD i []∈T2:=λi hi=>by
  rw[je,jb (by omega)]; exact kU _
 obtain⟨x,hx⟩:=bB (n:=n) (λi=>vr (T2.getD i [])) (λi hi=>by
   have:=(B.Ez i hi).1
   show((((T2.getD i []).getD i 0:Int)):Rat)≠0
   exact_mod_cast this) (λi j hi hj=>by
   show((((T2.getD i []).getD j 0:Int)):Rat)=0;rw[(B.Ez i hi).2 j hj]; rfl) n (jj _)
 have hx0:∀i,i<n->fx n x (vr (T2.getD i []))=0:=λi hi=>hx i (by omega) hi
 have hA:∀a∈(Ds J).map vr,fx n x a=0:=B.Jw (fx n x) (U6 n x) (λr hr=>by
  obtain⟨i,hi,er⟩:=jP hr
  have:=hx0 i (by omega)
  rw[je,jb hi] at this;simp only[wA] at this;rw[er] at this; exact this) (by simp)
 have pz:((c:Int):Rat)≠0:=by have:=B.pz; exact_mod_cast this
 have wv:v=Ac ((Ds J).map vr) Ae:=B.all;have ex:∀j:Nat,∃k:Int,j<n->((k:Int):Rat)=c*x j/\BX k:=by
  intro j;by_cases hj:j<n
  ·obtain⟨l1,l2,l3⟩:=UN hA hj;rw[eD,<-wv] at l3;obtain⟨k,hk⟩:=B.Hu (J9 n j);have bw:=B.Hv (J9 n j);rw[l1,hk] at bw;have hbk:k.natAbs<=((n+1)*B0) ^ n:=Fm bw;rcases l2 with h1 | h1
   ·refine⟨k,λ_=>⟨?_,lI hbk hb⟩⟩;rw[<-hk]; rw[h1] at l3; grind
   ·refine⟨-k,λ_=>⟨?_,by unfold BX; rw[rz]; exact lI hbk hb⟩⟩;rw[oM,<-hk]; rw[h1] at l3; grind
  ·exact⟨0,λh=>absurd h hj⟩
 obtain⟨u,hu⟩:=Classical.axiomOfChoice ex;have bigT:∀r∈T2,∀y∈r,BX y:=λr hr y hy=>by
  obtain⟨j,rfl⟩:=Wd.mem_getD hy;exact lI (Fm (B.JE r hr j)) hb
 refine⟨x,u,⟨n0,lT,B.Ik,B.pz,B.Ho n0,B.Ez,hx0,λj hj=>(hu j hj).1,bigT,λj hj=>(hu j hj).2,Vu B hb⟩,?_,?_⟩
 ·intro r hr;obtain⟨c1,c2,_⟩:=ok.hcb hr;have h1:=hA (vr (r.map (wh (cb r)))) (rj (js.mpr ⟨r,hr,rfl⟩));rw[PU c2] at h1;exact(RU (by exact_mod_cast (show cb r≠0 by omega))).mp h1
 ·intro z;have sc:=Na (n:=n) (m:=n+1) J cb (λr hr=>(ok.hcb hr).2.1);rw[z] at sc;have e2:ld n (n+1) (Ac ((Ds J).map vr) Ae)=c:=eD
  have:((c:Int):Rat)=0:=by rw[<-e2]; unfold Ds; rw[sc]; grind
  exact pz this
inductive Q8(C2:Addr)(vs:List V)(H:Hp)(Q:VK)(E:XK):Prop
 | mk (a b:Addr) (T:List (List Rat)) (r:List Rat) (n d E' D:Nat) (h_0:vs=[.ref a,.ref b]) (h_1:A4 (A4 AS) H a T) (h_2:A4 AS H b r) (h_3:T.length=n) (h_4:r.length=n) (h_5:(∀x∈T,x.length=n)) (h_6:TK n (n+1) d E' D (CH T r)) (h_7:(dt n (n+1) (CH T r)=0->∀H',AN H H'->False)) (h_8:(dt n (n+1) (CH T r)≠0->∀p H' x,AN H H'->(∀y∈CH T r,fx n x (vq y)=0)->A4 AS H' p ((ju n).map x)->Q (.ref p) H')):Q8 C2 vs H Q E
def RH(C2:Addr):Sp:=λvs H Q E=>Q8 C2 vs H Q E
theorem Pt:Ay ["table","right","joined","rows"] ["table","right"] (Ao sAnswer):=A7
theorem WV:(["row","number"]:List Str).Nodup:=by decide +kernel
theorem YJ (F:Ar K "answer" "answer" sAnswer f fd) (G1:Aj P w K mg base 2 "common_bottom" ["row"] Pb)
  (G2:Aj P w K mg base 1 "wholes" ["row","bottom"] Nr)
  (G3:Aj P w K mg base 2 "swept" ["rows"] SI)
  (G4:Aj P w K mg base 3 "found_back" ["rows"] UK)
  (ml:mg "len" = none) (mz:mg "zip" = none):An P w K mg base Av 4 f fd ["table","right"] (RH C2):=by
 refine F.BA Pt λcdv A outer s H vs Q E hr h=>?_
 obtain⟨a,b,T,r,n,d,E',D,rfl,⟨bs,ha,hA⟩,⟨cs,hb,hB⟩,lT,lr,cT,ok,q0,q1⟩:=h;have hr2:=hr.mono (show 2<=3 by decide);have hr1:=hr.mono (show 1<=3 by decide);refine⟨_,AO (Bn (BQ Dc (A3 KJ (by rfl) ml BN (AA (pv 0) AB)) AE (BJ _)) (AV (Aq (BZ AB))) CA)
  (AO (JI (i:=2) Pt.nd rfl (jn rfl) (Nc:=["row","number"]) (cap:=[]) (g:=Ih K 2 (GQ (BR 0) (GQ (BR 1) LB))) (te:=Bg (Vy K) (Ap 0) (LI (BO (Ap 1) CF))) rfl (Lv (t1:=true) (t2:=true) (by rfl) mz (AA (pv 0) (AA (pv 1) AB)))
   (CB rfl rfl (by decide +kernel) (by decide +kernel) (jr _) rfl (jr _)) (λ_ _ _ _ _=>HV rfl (BI (Af (i:=0) WV rfl (jn rfl)) (BI (Af (i:=1) WV rfl (jn rfl)) Ck)))
   (λ_ _ _ _ _=>AL L3 (pv 0) (BZ (AA (pv 1) AB))))
  (AO (AW (i:=3) Pt.nd rfl (jn rfl) (AZ G3 hr2 (AA (C1 (Nc:=["row"]) (cap:=[]) (g:=BR 0) (te:=DT Nr [] E0 (BO (Ap 0) (BO (DT Pb [] E0 (BO (Ap 0) CF)) CF))) rfl (Je (pv 2))
   (CB rfl rfl (by decide +kernel) (by decide +kernel) (jr _) rfl (jr _)) (λ_ _ _ _ _=>Af (i:=0) gy rfl (jn rfl))
   (λ_ _ _ _ _=>AZ G2 hr1 (AA (pv 0) (AA (AZ G1 hr2 (AA (pv 0) AB)) AB)))) AB)))
  (AO (Bn (BQ Ub (pv 3) Kx (BJ _)) (AV Nq) CA)
  (AV (Aq (AZ G4 hr (AA (pv 3) AB))))))),?_⟩
 have lb:bs.length=n:=by rw[hA.1]; exact lT
 have lc:cs.length=n:=by rw[hB.1]; exact lr
 have n15:=ok.XA;refine⟨_,rfl,a,_,rfl,.inr (AK.of ha),rfl,_,rfl,?_⟩;by_cases hn0:n=0
 ·subst hn0;refine Cy (iv (by rw[ja,lb]; rfl)) ?_;have e1:T=[]:=mf.mp lT;subst e1;refine⟨by exact E4,λp hp=>q1 ?_ p _ (λ_=>0) (AY hp _) (by simp[CH]) ⟨[],AU,At.nil⟩⟩
  have:dt 0 1 (CH [] r)=1:=by unfold dt CH; exact O0 1
  rw[this]; grind
 refine Ca (Dj (by rw[ja,lb]; omega)) ?_;have lJ:(CH T r).length=n:=ok.len;have jg:∀i row q,T[i]?=some row->r[i]?=some q->(CH T r)[i]?=some (row++[q]):=λi row q h1 h2=>by
  unfold CH;rw[oV,h1,h2]
 refine⟨_,rfl,_,rfl,a,b,rfl,⟨_,Bf.t ha⟩,⟨_,Bf.t hb⟩,λacc hacc=>?_⟩;refine CQ (OR (xs:=bs.map V.ref) (ys:=cs.map V.ref) (λH3 s=>Bf.t (s _ _ ha)) (λH3 s=>Bf.t (s _ _ hb)) (by rw[ja,ja]; omega)) (by rw[ja]; omega) hacc
  (λi ys σ hp=>∃ds:List Addr,ys=ds.map V.ref/\At (A4 AS) hp ds ((CH T r).take i)/\∃u v,σ=[u,v]) ⟨[],rfl,At.nil,none,none,rfl⟩ ?_ ?_
 ·rintro i ys σ H3 z H4 hi sm hacc3 ⟨ds,rfl,hD,u,v,rfl⟩ ⟨t,n1,n2,rfl,ht,rfl,hn1,hn2⟩ Cc hC;obtain⟨c1,row,rfl,_,hrow,es,hes,hEs⟩:=hA.ref hn1;obtain⟨c2,qq,rfl,_,hqq,hfq⟩:=hB.ref hn2;have s3:AN H3 (AH H3 t (.AG [.ref c1,.ref c2])):=AY ht _;have rl:row.length=n:=cT row (jd hrow);have esl:es.length=n:=by rw[hEs.1]; exact rl
  refine⟨t,_,rfl,AK.of AU,rfl,_,_,rfl,_,_,rfl,rfl,?_⟩;refine⟨_,rfl,_,rfl,by exact Ei,λt1 ht1=>?_⟩;have s4:=AY ht1 (.AG [.ref c2]);have s34:=s3.trans s4;refine⟨c1,t1,es.map V.ref,[.ref c2],rfl,rfl,AK.of (s34 _ _ (sm _ _ hes)),AK.of AU,?_,by simp; exact Dp (by omega),λz=>by simp at z,λ_ p hp=>?_⟩
  ·intro z;have z2:=congrArg m7 z;simp only[ja,mT] at z2;omega
  have s5:=AY hp (.AG (es.map V.ref++[.ref c2]));have s35:=s34.trans s5;refine hC _ _ _ s35 ⟨ds++[p],by simp,?_,_,_,rfl⟩;rw[DX (jg i row qq hrow hqq)];refine(hD.keep GR (Dz acc s35)).snoc (iq ⟨es++[c2],by rw[AU]; simp,?_⟩ (s35 _ _ hacc3));exact(hEs.keep Au (sm.trans s35)).snoc ((sm.trans s35) _ _ hfq)
 rintro ys σ1 H2 s2 hacc2 hl2 ⟨ds,rfl,hD,u,v,rfl⟩;rw[ja,lb,jz (by omega)] at hD;have hD2:=hD.keep GR (Dl H2 acc);have ld2:ds.length=n:=by rw[hD.1]; exact lJ
 refine⟨_,rfl,acc,rfl,⟨_,AR.of hacc2⟩,λac2 hac2=>?_⟩;refine CQ (E7 hacc2) (by rw[ja]; omega) hac2 (λi ys σ hp=>∃gs:List Addr,ys=gs.map V.ref/\At B5 hp gs ((Ds (CH T r)).take i)/\∃u,σ=[u]) ⟨[],rfl,At.nil,none,rfl⟩ ?_ ?_
 ·rintro i ys σ H3 z H4 hi sm hac3 ⟨gs,rfl,hG,u,rfl⟩ ⟨rfl,hx⟩ Cc hC;obtain⟨c,row,rfl,_,hrow,hR⟩:=hD2.ref hx;have rm:row∈CH T r:=jd hrow;have hR3:=GR sm hR
  have:=ok.bd
  refine⟨_,rfl,_,rfl,c,row,d,rfl,hR3,λq hq=>ok.den row rm q hq,by rw[ok.FL row rm]; omega,?_⟩;refine⟨c,row,cb row,rfl,hR3,by rw[ok.FL row rm]; omega,ok.wb rm,λp H5 s5 np hp=>?_⟩;refine hC _ _ _ s5 ⟨gs++[p],by simp,?_,_,rfl⟩;have ne:p≠ac2:=λz=>by rw[z,hac3] at np; cases np
  have e3:(Ds (CH T r))[i]?=some (row.map (wh (cb row))):=by unfold Ds; rw[ji,hrow]; rfl
  rw[DX e3];exact(hG.keep ER (Dz ac2 s5)).snoc (Fl hp ne)
 rintro ys σ2 H3 s3 hac3 hl3 ⟨gs,rfl,hG,u,rfl⟩;have lw:(Ds (CH T r)).length=n:=by unfold Ds; rw[ja]; exact lJ
 rw[ja,ld2,jz (by omega)] at hG;refine⟨ac2,Ds (CH T r),n,n+1,2 ^ E',rfl,⟨gs,hac3,hG.keep ER (Dl H3 ac2)⟩,lw,by omega,by omega,λr hr=>(ok.QI r hr).1,Nat.one_le_two_pow,λr hr=>(ok.QI r hr).2,ok.Fz,?_,?_⟩
 ·intro H4 s4 h0;refine⟨_,rfl,rfl,_,rfl,Cy rfl ?_⟩;refine q0 ?_ H4 (s2.trans (s3.trans s4));have sc:=Na (n:=n) (m:=n+1) (CH T r) cb (λr hr=>(ok.hcb hr).2.1);obtain⟨pp,pl⟩:=Rb ((CH T r).map cb) (d:=D) (λb hb=>by
   obtain⟨r,hr,rfl⟩:=js.mp hb;exact⟨(ok.hcb hr).1,(ok.hcb hr).2.2⟩)
  have pq:((EW ((CH T r).map cb):Int):Rat)≠0:=by
   have:EW ((CH T r).map cb)≠0:=by omega
   exact_mod_cast this
  have h1:((EW ((CH T r).map cb):Int):Rat)*dt n (n+1) (CH T r)=0:=by rw[<-sc]; exact h0
  grind
 ·intro p H4 T2 s4 hL ⟨Z,c,v,B⟩;refine⟨_,rfl,rfl,_,rfl,Ca (λz=>by cases z) ?_⟩;obtain⟨x,u,S,hx,hd⟩:=cL ok (by omega) ok.Fz B;exact⟨_,rfl,p,_,n,T2,c,x,u,rfl,hL,by omega,S,λp5 H5 s5 np5 hp5=>q1 hd p5 H5 x (s2.trans (s3.trans (s4.trans s5))) hx hp5⟩
abbrev Mp(H:Hp)(Q:VK)(q:Rat):Prop:=∀p,H p=none->Q (.ref p) (AH H p (.AG [.int q.num,.int q.den]))
abbrev Sf(q:Rat):Prop:=Sb 3900 3900 q
theorem Sf.n{q:Rat}(h:Sf q):BX q.num:=GY h.1 (by decide)
theorem Sf.d{q:Rat}(h:Sf q):BX (q.den:Int):=GY (n:=3900) (by simpa using h.2) (by decide)
theorem Sf.dd{p q:Rat}(h:Sf p)(g:Sf q):BX ((p.den:Int)*(q.den:Int)):=by
 refine GY (n:=7800) ?_ (by decide);rw[kn,j9,j9];exact DB h.2 g.2
inductive U1(op:Rat->Rat->Rat)(vs:List V)(H:Hp)(Q:VK):Prop
 | mk (p q:Addr) (x y:Rat) (h_0:vs=[.ref p,.ref q]) (h_1:AS H p x) (h_2:AS H q y) (h_3:Sf x) (h_4:Sf y) (h_5:Mp H Q (op x y)):U1 op vs H Q
def C7(op:Rat->Rat->Rat):Sp:=λvs H Q _=>U1 op vs H Q
theorem fY:Ay ["one","other"] ["one","other"] (Ao sPlus):=A7
theorem aa(F:Ar K "plus" "plus" sPlus f fd)(G:Aj P w K mg base 2 "fraction" ["top","bottom"] (IM C)):
  An P w K mg base Av 3 f fd ["one","other"] (C7 λx y=>x+y):=by
 refine F.BA fY λcdv A outer s H vs Q E hr h=>?_
 obtain⟨p,q,x,y,rfl,hp,hq,sx,sy,k⟩:=h;refine⟨_,AV (Aq (AZ G hr (AA (AL BL (AL C4 (A5 Bm (pv 0) AE (λ_ _=>rfl)) (A5 Bm (pv 1) AE (λ_ _=>rfl))) (AL C4 (A5 Bm (pv 1) AE (λ_ _=>rfl)) (A5 Bm (pv 0) AE (λ_ _=>rfl)))) (AA (AL C4 (A5 Bm (pv 0) AE (λ_ _=>rfl)) (A5 Bm (pv 1) AE (λ_ _=>rfl))) AB)))),?_⟩;refine⟨_,rfl,p,_,_,_,rfl,rfl,AK.of hp,BF,_,rfl,q,_,_,_,rfl,rfl,AK.of hq,at1,_,_,rfl,rfl,⟨sx.n,sy.d⟩,_,rfl,q,_,_,_,rfl,rfl,AK.of hq,BF,_,rfl,p,_,_,_,rfl,rfl,AK.of hp,at1,_,_,rfl,rfl,⟨sy.n,sx.d⟩,_,_,rfl,rfl,
  _,rfl,p,_,_,_,rfl,rfl,AK.of hp,at1,_,rfl,q,_,_,_,rfl,rfl,AK.of hq,at1,_,_,rfl,rfl,⟨sx.d,sy.d⟩,_,_,rfl,Sf.dd sx sy,λz=>absurd z (KH x y),λ_ t ht=>?_⟩
 have e:=Uv x y;have q1:=k t ht;have e1:=congrArg uJ e;have e2:=congrArg wB e;simp only[fr] at e1 e2;rw[e1,e2];exact q1
theorem eZ:Ay ["one","other"] ["one","other"] (Ao sMinus):=A7
theorem ZO(F:Ar K "minus" "minus" sMinus f fd)(G:Aj P w K mg base 2 "fraction" ["top","bottom"] (IM C)):
  An P w K mg base Av 3 f fd ["one","other"] (C7 λx y=>x-y):=by
 refine F.BA eZ λcdv A outer s H vs Q E hr h=>?_
 obtain⟨p,q,x,y,rfl,hp,hq,sx,sy,k⟩:=h;refine⟨_,AV (Aq (AZ G hr (AA (AL DN (AL C4 (A5 Bm (pv 0) AE (λ_ _=>rfl)) (A5 Bm (pv 1) AE (λ_ _=>rfl))) (AL C4 (A5 Bm (pv 1) AE (λ_ _=>rfl)) (A5 Bm (pv 0) AE (λ_ _=>rfl)))) (AA (AL C4 (A5 Bm (pv 0) AE (λ_ _=>rfl)) (A5 Bm (pv 1) AE (λ_ _=>rfl))) AB)))),?_⟩;refine⟨_,rfl,p,_,_,_,rfl,rfl,AK.of hp,BF,_,rfl,q,_,_,_,rfl,rfl,AK.of hq,at1,_,_,rfl,rfl,⟨sx.n,sy.d⟩,_,rfl,q,_,_,_,rfl,rfl,AK.of hq,BF,_,rfl,p,_,_,_,rfl,rfl,AK.of hp,at1,_,_,rfl,rfl,⟨sy.n,sx.d⟩,_,_,rfl,rfl,
  _,rfl,p,_,_,_,rfl,rfl,AK.of hp,at1,_,rfl,q,_,_,_,rfl,rfl,AK.of hq,at1,_,_,rfl,rfl,⟨sx.d,sy.d⟩,_,_,rfl,Sf.dd sx sy,λz=>absurd z (KH x y),λ_ t ht=>?_⟩
 have e:=Om x y;have q1:=k t ht;have e1:=congrArg uJ e;have e2:=congrArg wB e;simp only[fr] at e1 e2;rw[e1,e2];exact q1
theorem dj:Ay ["one","other"] ["one","other"] (Ao sTimes):=A7
theorem ZN(F:Ar K "times" "times" sTimes f fd)(G:Aj P w K mg base 2 "fraction" ["top","bottom"] (IM C)):
  An P w K mg base Av 3 f fd ["one","other"] (C7 λx y=>x*y):=by
 refine F.BA dj λcdv A outer s H vs Q E hr h=>?_
 obtain⟨p,q,x,y,rfl,hp,hq,sx,sy,k⟩:=h;refine⟨_,AV (Aq (AZ G hr (AA (AL C4 (A5 Bm (pv 0) AE (λ_ _=>rfl)) (A5 Bm (pv 1) AE (λ_ _=>rfl))) (AA (AL C4 (A5 Bm (pv 0) AE (λ_ _=>rfl)) (A5 Bm (pv 1) AE (λ_ _=>rfl))) AB)))),?_⟩;refine⟨_,rfl,p,_,_,_,rfl,rfl,AK.of hp,BF,_,rfl,q,_,_,_,rfl,rfl,AK.of hq,BF,_,_,rfl,rfl,⟨sx.n,sy.n⟩,
  _,rfl,p,_,_,_,rfl,rfl,AK.of hp,at1,_,rfl,q,_,_,_,rfl,rfl,AK.of hq,at1,_,_,rfl,rfl,⟨sx.d,sy.d⟩,_,_,rfl,Sf.dd sx sy,λz=>absurd z (KH x y),λ_ t ht=>?_⟩
 have e:=Oy x y;have q1:=k t ht;have e1:=congrArg uJ e;have e2:=congrArg wB e;simp only[fr] at e1 e2;rw[e1,e2];exact q1
abbrev LF:Hp->Addr->List Rat->Prop:=FI AS
theorem Mi:Mo LF:=λs h=>Ou (R:=AS) (λs h=>Au s h) s h
theorem UR{H:Hp}{a b:Addr}{r:List Rat}{ys:List V}(h:LF H b r)(n:b≠a)(e:H a=some (.AD ys)):LF (BK H a) b r:=by
 obtain⟨cs,h1,h2⟩:=h;exact⟨cs,Fl h1 n,MN e h2⟩
theorem Ue{H:Hp}{a:Addr}{bs:List Addr}{qs:List Rat}{ys:List V}(h:At AS H bs qs)(e:H a=some (.AD ys))(o:HO):At AS (AH H a o) bs qs:=(MN e h).keep Au (Ov H a o)
def BW(H:Hp)(b:Addr)(r:AQ):Prop:=∃e,H b=some (.AG [.int (r.1:Int),.int (r.2.1:Int),.ref e])/\AS H e r.2.2
theorem Cj:Mo BW:=λs ⟨e,h1,h2⟩=>⟨e,s _ _ h1,s _ _ h2⟩
def Io(H:Hp)(a:Addr)(n:Nat)(rs:List AQ):Prop:=∃(r:Addr) (t:V),H a=some (.AG [.int (n:Int),.ref r,t])/\A4 BW H r rs
theorem Tw{H H':Hp}{a:Addr}{n:Nat}{rs:List AQ}(s:AN H H')(h:Io H a n rs):Io H' a n rs:=by
 obtain⟨r,t,h1,h2⟩:=h;exact⟨r,t,s _ _ h1,EU (R:=BW) (λs h=>Cj s h) s h2⟩
structure E5(H:Hp)(R:Addr)(bs:List Addr)(T:List (List Rat)):Prop where
 h1:H R=some (.AD (bs.map V.ref))
 rows:At LF H bs T
 nd:(R :: bs).Nodup
theorem E5.keep{H H':Hp}{R:Addr}{bs:List Addr}{T:List (List Rat)}(M:E5 H R bs T)(s:AN H H'):E5 H' R bs T:=⟨s _ _ M.h1,M.rows.keep Mi s,M.nd⟩
theorem Vo{l:List Addr}(h:l.Nodup){i j:Nat}{b:Addr}(h1:l[i]?=some b)(h2:l[j]?=some b):i=j:=by
 obtain⟨i1,e1⟩:=jc.mp h1;obtain⟨j1,e2⟩:=jc.mp h2;have hp:=pM.mp h;rcases qm i j with z | z | z
 ·exact absurd (e1.trans e2.symm) (hp i j i1 j1 z)
 ·exact z
 ·exact absurd (e2.trans e1.symm) (hp j i j1 i1 z)
theorem E5.put{H:Hp}{R b p:Addr}{bs cs:List Addr}{T:List (List Rat)}{i j:Nat}{v:Rat}(M:E5 H R bs T)(hb:bs[i]?=some b)(hc:H b=some (.AD (cs.map V.ref)))(hr:At AS H cs (T.getD i []))(hp:AS H p v):
  E5 (AH H b (.AD ((cs.map V.ref).set j (.ref p)))) R bs (DE T i j v):=by
 have bm:b∈bs:=jd hb;obtain⟨n1,n2⟩:=kJ.mp M.nd;have e1:R≠b:=λz=>n1 (by rw[z]; exact bm)
 refine⟨by rw[Ad e1]; exact M.h1,⟨by unfold DE; rw[mI]; exact M.rows.1,λk c x q1 q2=>?_⟩,M.nd⟩;unfold DE at q2;by_cases hk:i=k
 ·subst hk;rw[hb] at q1;cases q1;have hl:i<T.length:=by rw[<-M.rows.1]; exact(jc.mp hb).1
  rw[ko hl] at q2;cases q2;refine⟨cs.set j p,by rw[AU,oX],Ue (hr.set j hp) hc _⟩
 ·rw[kh hk] at q2;have ne:c≠b:=λz=>hk (Vo n2 hb (by rw[q1,z]))
  exact Mi (Ov H b _) (UR (M.rows.2 k c x q1 q2) ne hc)
theorem E5.get{H:Hp}{R:Addr}{bs:List Addr}{T:List (List Rat)}{n i j:Nat}(M:E5 H R bs T)(q:Sq n T)(hi:i<n)(hj:j<n):∃b cs c,bs[i]?=some b/\H b=some (.AD (cs.map V.ref))/\At AS H cs (T.getD i [])/\cs[j]?=some c/\AS H c (en T i j)/\cs.length=n:=by
 obtain⟨l,e⟩:=q.row hi;obtain⟨b,hb,cs,h1,h2⟩:=M.rows.get e;have ej:(T.getD i [])[j]?=some ((T.getD i [])[j]'(by omega)):=jb _;obtain⟨c,h3,h4⟩:=h2.get ej;refine⟨b,cs,c,hb,h1,h2,h3,?_,by rw[h2.1]; exact l⟩
 have:en T i j=(T.getD i [])[j]'(by omega):=by unfold en; rw[je,ej]; rfl
 rw[this]; exact h4
theorem au(n:Nat)(t:Addr):(jo n [V.ref t]).flatten=(jo n t).map V.ref:=by
 induction n with
 | zero=>rfl
 | succ n ih=>rw[km,j5,ih,km]; rfl
theorem MM {σ:St} {H H0:Hp} {D:DF} {op:Rat->Rat->Rat} {R e:Addr} {bs:List Addr} {T:List (List Rat)} {n i j a b:Nat} {q:Rat} (hR:σ[1]?=some (some (.ref R))) (ha:σ[a]?=some (some (.int (i:Int)))) (hb:σ[b]?=some (some (.int (j:Int)))) (he:σ[4]?=some (some (.ref e)))
  (M:E5 H R bs T) (sq:Sq n T) (hi:i<n) (hj:j<n) (fe:AS H e q) (s1:Sf (en T i j)) (s2:Sf q) (sm:AN H0 H) (fr:∀b∈bs,H0 b=none)
  (k:∀H',AN H0 H'->E5 H' R bs (DE T i j (op (en T i j) q))->AS H' e q->D.nx σ H') :
  Jy (DT (C7 op) [] E0 (BO (Bg (GZ K) (Bg (GZ K) (Ap 1) (Ap a)) (Ap b)) (BO (Ap 4) CF))) (WB (Bg (GZ K) (Ap 1) (Ap a)) (Ap b) VO) D σ H:=by
 obtain⟨b1,cs,c,h1,h2,h3,h4,h5,h6⟩:=M.get sq hi hj;refine⟨_,hR,_,ha,R,_,_,_,rfl,rfl,AR.of M.h1,Bc (DD h1),_,hb,b1,_,_,_,rfl,rfl,AR.of h2,Bc (DD h4),_,he,c,e,_,_,rfl,h5,fe,s1,s2,λp hp=>?_⟩;have s3:=AY hp (.AG [.int (op (en T i j) q).num,.int (op (en T i j) q).den]);refine⟨_,hR,_,ha,R,_,_,_,rfl,rfl,AR.of (s3 _ _ M.h1),Bc (DD h1),_,hb,b1,_,_,_,rfl,rfl,s3 _ _ h2,OQ (by rw[ja]; omega),?_⟩;have bn:H0 b1=none:=fr b1 (jd h1);refine k _ (OO (sm.trans s3) bn _) ((M.keep s3).put h1 (s3 _ _ h2) (h3.keep Au s3) AU) ?_;exact Au (Ov _ b1 _) (AS.BK (s3 _ _ fe) (s3 _ _ h2))
inductive SF(vs:List V)(H:Hp)(Q:VK):Prop
 | mk (a:Addr) (n α β:Nat) (rs:List AQ) (h_0:vs=[.ref a]) (h_1:Io H a n rs) (h_2:n<=100) (h_3:rs.length<=100) (h_4:(∀r∈rs,r.1<n/\r.2.1<n/\Sb α β r.2.2)) (h_5:α+(β+1)*rs.length<=3900) (h_6:β*rs.length<=3900) (h_7:∀p H',AN H H'->A4 (A4 AS) H' p (Bo n rs)->Q (.ref p) H'):SF vs H Q
def UM:Sp:=λvs H Q _=>SF vs H Q
theorem LC:Ay ["net","rows","one","other","ease"] ["net"] (Ao sEaseTable):=A7
theorem iT:(["place","net"]:List Str).Nodup:=by decide +kernel
theorem PL:(["row"]:List Str).Nodup:=by decide +kernel
def cR(K:jk):List V->Hp->VK->Prop:=λxs H Q=>∃p ys,xs=[.ref p]/\((AR K H p ys/\∀l,H l=none->Q (.ref l) (AH H l (.AG ys)))\/(AK K H p ys/\Q (.ref p) H))
theorem V9{H:Hp}{a b:Addr}{r:List Rat}{ys:List V}(h:A4 AS H b r)(e:H a=some (.AD ys)):A4 AS (BK H a) b r:=by
 obtain⟨cs,h1,h2⟩:=h;exact⟨cs,Fl h1 (λz=>by rw[z,e] at h1; cases h1),MN e h2⟩
theorem GF:Mo (A4 AS):=λs h=>EU (R:=AS) (λs h=>Au s h) s h
theorem bL{α β:Nat}{r:AQ}(h:Sb α β r.2.2)(i j:Nat):DG r i j=0\/DG r i j=r.2.2\/DG r i j=-r.2.2:=by
 unfold DG;by_cases e:r.1=r.2.1
 ·rw[jq e]; exact .inl rfl
 ·rw[jm e];by_cases a:i=r.1/\j=r.1
  ·have b:¬(i=r.2.1/\j=r.2.1):=λz=>e (a.1.symm.trans z.1)
   have c:¬(i=r.1/\j=r.2.1):=λz=>e (a.2.symm.trans z.2)
   have d:¬(i=r.2.1/\j=r.1):=λz=>e (a.1.symm.trans z.1)
   rw[jq a,jm b,jm c,jm d]; right; left; grind
  ·rw[jm a];by_cases b:i=r.2.1/\j=r.2.1
   ·have c:¬(i=r.1/\j=r.2.1):=λz=>e (z.1.symm.trans b.1)
    have d:¬(i=r.2.1/\j=r.1):=λz=>e (z.2.symm.trans b.2)
    rw[jq b,jm c,jm d]; right; left; grind
   ·rw[jm b];by_cases c:i=r.1/\j=r.2.1
    ·have d:¬(i=r.2.1/\j=r.1):=λz=>e (c.1.symm.trans z.1)
     rw[jq c,jm d]; right; right; grind
    ·rw[jm c];by_cases d:i=r.2.1/\j=r.1
     ·rw[jq d]; right; right; grind
     ·rw[jm d]; left; grind
def F8(n α β k:Nat)(T:List (List Rat)):Prop:=Sq n T/\∀i j,Sb (α+(β+1)*k) (β*k) (en T i j)
theorem F8.zero(n α β:Nat):F8 n α β 0 (EI n):=⟨Sk n,λi j=>by rw[Tf]; exact Sb.zero.mono (kH _) (kH _)⟩
theorem F8.Ae{n α β k:Nat}{T:List (List Rat)}(h:F8 n α β k T){q:Rat}(hq:Sb α β q)(i j:Nat):Sb (α+(β+1)*(k+1)) (β*(k+1)) (en T i j+q)/\Sb (α+(β+1)*(k+1)) (β*(k+1)) (en T i j-q):=by
 have m1:β*k<=(β+1)*k:=o9 _ (by omega);constructor
 ·have:=(h.2 i j).Dh hq (N:=α+(β+1)*k+β) (by omega) (by omega)
  exact this.mono (by rw[mw]; omega) (by rw[mw]; omega)
 ·have:=(h.2 i j).Di hq (N:=α+(β+1)*k+β) (by omega) (by omega)
  exact this.mono (by rw[mw]; omega) (by rw[mw]; omega)
theorem F8.step{n α β k:Nat}{T:List (List Rat)}(h:F8 n α β k T){r:AQ}(h1:r.1<n)(h2:r.2.1<n)(hq:Sb α β r.2.2):F8 n α β (k+1) (Ci T r):=by
 obtain⟨a,b⟩:=QT h.1 h1 h2;refine⟨a,λi j=>?_⟩;rw[b];have o:=h.Ae hq i j;rcases bL hq i j with e | e | e
 ·rw[e,tI];exact(h.2 i j).mono (by rw[mw]; omega) (by rw[mw]; omega)
 ·rw[e]; exact o.1
 ·rw[e,<-Rat.sub_eq_add_neg]; exact o.2
theorem aC(F:Ar K "ease_table" "ease_table" sEaseTable f fd)(G1:Aj P w K mg base 3 "plus" ["one","other"] (C7 λx y=>x+y))(G2:Aj P w K mg base 3 "minus" ["one","other"] (C7 λx y=>x-y))(mr:mg "range" = none)(mt:mg "tuple" = none):
  An P w K mg base Av 4 f fd ["net"] UM:=by
 refine F.BA LC λcdv A outer s H vs Q E hr h=>?_
 obtain⟨a,n,α,β,rs,rfl,⟨ra,tv,ha,bs,hra,hRs⟩,hn,hm,hrs,z1,z2,q⟩:=h;refine⟨_,AO (JI (i:=1) LC.nd rfl (jn rfl) (Nc:=["place","net"]) (cap:=[(1,0)]) (g:=BR 0) (te:=Bg We (WC (BO (LI (BO (tC (.int 0)) (BO (tC (.int 1)) CF))) CF)) (Bg (FJ K) (Ap 1) (tC (.int 0)))) rfl (JO (by rfl) mr (AA (A5 Bm (pv 0) AE (λ_ _=>rfl)) AB))
   (CB rfl rfl (by decide +kernel) (by decide +kernel) (jv.mpr ⟨⟨rfl,rfl⟩,jr _⟩) rfl (jv.mpr ⟨⟨_,_,rfl,rfl,rfl,rfl,rfl⟩,jr _⟩))
   (λ_ _ _ _ _=>Af (i:=0) iT rfl (jn rfl)) (λ_ _ _ _ _=>AL MA (Bz (AA (BZ (AA AE (AA AE AB))) AB)) (A5 Bm (pv 1) AE (λ_ _=>rfl))))
  (AO (CV j3 rfl (Fj (A5 Bm (pv 0) AE (λ_ _=>rfl))) (HV rfl (BI (Af (i:=2) LC.nd rfl (jn rfl)) (BI (Af (i:=3) LC.nd rfl (jn rfl)) (BI (Af (i:=4) LC.nd rfl (jn rfl)) Ck))))
   (AV (Bn (BQ Eo (pv 2) (pv 3) (BJ _))
    (AO (DZ (AZ G1 hr (AA (A5 CL (A5 CL (pv 1) (pv 2) (λ_ _=>rfl)) (pv 2) (λ_ _=>rfl)) (AA (pv 4) AB))) (FC (A5 CL (pv 1) (pv 2) (λ_ _=>rfl)) (pv 2) E8))
    (AO (DZ (AZ G1 hr (AA (A5 CL (A5 CL (pv 1) (pv 3) (λ_ _=>rfl)) (pv 3) (λ_ _=>rfl)) (AA (pv 4) AB))) (FC (A5 CL (pv 1) (pv 3) (λ_ _=>rfl)) (pv 3) E8))
    (AO (DZ (AZ G2 hr (AA (A5 CL (A5 CL (pv 1) (pv 2) (λ_ _=>rfl)) (pv 3) (λ_ _=>rfl)) (AA (pv 4) AB))) (FC (A5 CL (pv 1) (pv 2) (λ_ _=>rfl)) (pv 3) E8))
    (AV (DZ (AZ G2 hr (AA (A5 CL (A5 CL (pv 1) (pv 3) (λ_ _=>rfl)) (pv 2) (λ_ _=>rfl)) (AA (pv 4) AB))) (FC (A5 CL (pv 1) (pv 3) (λ_ _=>rfl)) (pv 2) E8)))))) CA)))
  (AV (Aq (CP FW (by rfl) mt CG (AA (C1 (Nc:=["row"]) (cap:=[]) (g:=BR 0) (te:=QF (cR K) (BO (Ap 0) CF)) rfl (Je (pv 1))
   (CB rfl rfl (by decide +kernel) (by decide +kernel) (jr _) rfl (jr _)) (λ_ _ _ _ _=>Af (i:=0) PL rfl (jn rfl)) (λ_ _ _ _ _=>CP FW (by rfl) mt CG (AA (pv 0) AB))) AB))))),?_⟩
 have at0':∀x y z:V,Bv [x,y,z] 0=some x:=λx y z=>Bc (j:=0) rfl
 have at1':∀x y z:V,Bv [x,y,z] 1=some y:=λx y z=>Bc (j:=1) rfl
 refine⟨_,rfl,a,_,_,_,rfl,rfl,AK.of ha,at0' _ _ _,((n:Nat):Int),rfl,by omega,by omega,λacc hacc=>?_⟩;rw[show((n:Nat):Int).toNat=n by omega];refine CQ Qi (by omega) hacc (λi ys σ hp=>∃ds:List Addr,ys=ds.map V.ref/\At LF hp ds (jo i (jo n 0))/\ds.Nodup/\(∀d∈ds,H d=none)/\∃u,σ=[u,some (.ref a)]) ⟨[],rfl,At.nil,by simp,by simp,none,rfl⟩ ?_ ?_
 ·rintro i ys σ H2 x H3 hi sm hacc2 ⟨ds,rfl,hD,nd,fr,u,rfl⟩ ⟨rfl,rfl⟩ Cc hC;refine⟨by exact B6,λt ht=>⟨by exact Ei,λl hl=>?_⟩⟩;obtain⟨H4,zg,s1,zz⟩:=nw ht (.AG [.int 0,.int 1]);rw[zg] at hl ⊢;have e1:AS H4 t 0:=zz;obtain⟨H5,zg,s2,e2⟩:=nw hl (.AD [.ref t]);rw[zg];have s12:=s1.trans s2;refine⟨_,rfl,a,_,_,_,rfl,rfl,AK.of (s12 _ _ (sm _ _ ha)),at0' _ _ _,l,((n:Nat):Int),[.ref t],rfl,rfl,e2,by omega,by omega,by simp; exact Dp (by omega),λp hp=>?_⟩;rw[show((n:Nat):Int).toNat=n by omega];rw[au];have s3:=AY hp (.AD ((jo n t).map V.ref));have s13:=s12.trans s3;have pacc:p≠acc:=λz=>by rw[z,s12 _ _ hacc2] at hp; cases hp
  have pf:H p=none:=(sm.trans s12).free hp;refine hC _ _ _ s13 ⟨ds++[p],by simp,?_,?_,?_,_,rfl⟩
  ·rw[nX];refine(hD.keep Mi (Dz acc s13)).snoc (UR ⟨jo n t,AU,⟨by simp,λk c y e3 e4=>?_⟩⟩ pacc (s13 _ _ hacc2));rw[oB] at e3 e4;split at e3
   ·rename_i hk
    rw[jq hk] at e4;cases e3; cases e4;exact Au (s2.trans s3) e1
   ·cases e3
  ·rw[lj];refine⟨nd,by simp,λx hx y hy z=>?_⟩;rw[jO] at hy;subst hy;subst z;obtain⟨k,hk,ek⟩:=jP hx;have hl2:k<(jo i (jo n (0:Rat))).length:=by rw[<-hD.1]; exact hk
   obtain⟨cs,h1,_⟩:=hD.2 k x _ (by rw[jb hk,ek]) (jb hl2)
   have:=s12 _ _ (Dl _ _ _ _ h1)
   rw[this] at hp; cases hp
  ·intro d hd';rcases jI.mp hd' with h' | h'
   ·exact fr d h'
   ·rw[jO] at h'; rw[h']; exact pf
 rintro ys σ1 H2 s2 hacc2 hl2 ⟨ds,rfl,hD,nd,fr,u,rfl⟩;have M0:E5 H2 acc ds (EI n):=by
  refine⟨hacc2,hD.keep Mi (Dl H2 acc),kJ.mpr ⟨λz=>?_,nd⟩⟩;obtain⟨k,hk,ek⟩:=jP z;have hl2:k<(jo n (jo n (0:Rat))).length:=by rw[<-hD.1]; exact hk
  obtain⟨cs,h1,_⟩:=hD.2 k acc _ (by rw[jb hk,ek]) (jb hl2);rw[IC] at h1; cases h1
 have fr2:∀b∈ds,H b=none:=fr
 try dsimp only
 try refine Cw ?_
 first | refine Cv λUL1 hUL1=>?_ | refine nx_hide λUL1 hUL1=>?_
 refine⟨_,rfl,a,_,_,_,rfl,rfl,AK.of (s2 _ _ ha),at1' _ _ _,ra,rfl,⟨_,AK.of (s2 _ _ hra)⟩,?_⟩;refine JZ (xs:=bs.map V.ref) (λk σ H3=>AN H H3/\(∃u2 u3 u4,σ=[some (.ref a),some (.ref acc),u2,u3,u4])/\E5 H3 acc ds ((rs.take k).foldl Ci (EI n))/\F8 n α β k ((rs.take k).foldl Ci (EI n)))
  ⟨s2,⟨none,none,none,rfl⟩,M0,F8.zero n α β⟩ (λk σ H3 _ ⟨s3,_⟩=>AK.of (s3 _ _ hra)) ?_ ?_
 ·rintro k x σ H3 hx ⟨s3,⟨u2,u3,u4,rfl⟩,M,ts⟩;obtain⟨c,r,rfl,_,hr',e,hc,he⟩:=hRs.ref hx;have rm:r∈rs:=jd hr';obtain⟨r1,r2,rq⟩:=hrs r rm;have hk:k<rs.length:=(jc.mp hr').1;have stp:=ts.step r1 r2 rq;rw[DX hr',vM];show Ih K 3 _ _ _ _ _;refine⟨c,_,rfl,AK.of (s3 _ _ hc),rfl,_,_,rfl,_,_,rfl,_,_,rfl,rfl,?_⟩;have fin:∀(T':List (List Rat)),T'=Ci ((rs.take k).foldl Ci (EI n)) r->qc Ci (qc Ci (EI n) (List.take k rs)) [r]=T':=λT' h=>h.symm
  refine⟨_,rfl,_,rfl,rfl,_,rfl,?_⟩;generalize hT:(rs.take k).foldl Ci (EI n)=T at M ts stp;have zk1:(β+1)*(k+1)<=(β+1)*rs.length:=lY _ hk;have zk2:β*(k+1)<=β*rs.length:=lY _ hk;have zk3:β*rs.length+rs.length=(β+1)*rs.length:=by rw[rJ,pG]
  have up:∀{x:Rat},Sb (α+(β+1)*(k+1)) (β*(k+1)) x->Sf x:=λh=>h.mono (by omega) (by omega)
  have lo:∀i j,Sf (en T i j):=λi j=>up ((ts.2 i j).mono (by rw[mw]; omega) (by rw[mw]; omega))
  have sq:Sf r.2.2:=by
   have b1':β<=β*rs.length:=oC _ (by omega);exact rq.mono (by omega) (by omega)
  by_cases eq:r.1=r.2.1
  ·refine Ep (iv (by rw[eq])) ⟨s3,⟨_,_,_,rfl⟩,?_,?_⟩
   ·have:qc Ci T [r]=T:=by show Ci T r=T; unfold Ci; rw[jq eq]
    rw[this]; exact M
   ·show F8 n α β (k+1) (Ci T r);exact stp
  ·refine Hk (Dj (by omega)) ?_;have sq0:=ts.1;refine MM (i:=r.1) (j:=r.1) (a:=2) (b:=2) (op:=λx y=>x+y) rfl rfl rfl rfl M sq0 r1 r1 (s3 _ _ he) (lo _ _) sq s3 fr2 λH4 s4 M4 f4=>?_
   have q1:=sq0.set (j:=r.1) (v:=en T r.1 r.1+r.2.2) r1;have e1:=IF sq0 (v:=en T r.1 r.1+r.2.2) r1 r1;generalize hT1:DE T r.1 r.1 (en T r.1 r.1+r.2.2)=T1 at M4 q1 e1;have g1:en T1 r.2.1 r.2.1=en T r.2.1 r.2.1:=by rw[e1,jm (λz=>eq z.1.symm)]
   refine MM (i:=r.2.1) (j:=r.2.1) (a:=3) (b:=3) (op:=λx y=>x+y) rfl rfl rfl rfl M4 q1 r2 r2 f4 (by rw[g1]; exact lo _ _) sq s4 fr2 λH5 s5 M5 f5=>?_
   have q2:=q1.set (j:=r.2.1) (v:=en T1 r.2.1 r.2.1+r.2.2) r2;have e2:=IF q1 (v:=en T1 r.2.1 r.2.1+r.2.2) r2 r2;generalize hT2:DE T1 r.2.1 r.2.1 (en T1 r.2.1 r.2.1+r.2.2)=T2 at M5 q2 e2;have g2:en T2 r.1 r.2.1=en T r.1 r.2.1:=by rw[e2,jm (λz=>eq z.1),e1,jm (λz=>eq z.2.symm)]
   refine MM (i:=r.1) (j:=r.2.1) (a:=2) (b:=3) (op:=λx y=>x-y) rfl rfl rfl rfl M5 q2 r1 r2 f5 (by rw[g2]; exact lo _ _) sq s5 fr2 λH6 s6 M6 f6=>?_
   have q3:=q2.set (j:=r.2.1) (v:=en T2 r.1 r.2.1-r.2.2) r1;have e3:=IF q2 (v:=en T2 r.1 r.2.1-r.2.2) r1 r2;generalize hT3:DE T2 r.1 r.2.1 (en T2 r.1 r.2.1-r.2.2)=T3 at M6 q3 e3;have g3:en T3 r.2.1 r.1=en T r.2.1 r.1:=by rw[e3,jm (λz=>eq z.1.symm),e2,jm (λz=>eq z.2),e1,jm (λz=>eq z.1.symm)]
   refine MM (i:=r.2.1) (j:=r.1) (a:=3) (b:=2) (op:=λx y=>x-y) rfl rfl rfl rfl M6 q3 r2 r1 f6 (by rw[g3]; exact lo _ _) sq s6 fr2 λH7 s7 M7 f7=>?_
   refine⟨s7,⟨_,_,_,rfl⟩,?_,stp⟩
   have:qc Ci T [r]=DE T3 r.2.1 r.1 (en T3 r.2.1 r.1-r.2.2):=by
    show Ci T r=_;unfold Ci;rw[jm eq];simp only[hT1,hT2,hT3]
   rw[this];exact M7
 ·rintro σ H3 ⟨s3,⟨u2,u3,u4,rfl⟩,M,ts⟩;subst hUL1;rw[ja,hRs.1,lL] at M ts;have lds:ds.length=n:=by rw[hD.1]; simp
  refine⟨_,rfl,acc,rfl,⟨_,AR.of M.h1⟩,λac2 hac2=>?_⟩;refine CQ (E7 M.h1) (by rw[ja]; omega) hac2 (λi ys σ hp=>∃gs:List Addr,ys=gs.map V.ref/\At (A4 AS) hp gs ((rs.foldl Ci (EI n)).take i)/\∃u,σ=[u]) ⟨[],rfl,At.nil,none,rfl⟩ ?_ ?_
  ·rintro i ys σ H4 x H5 hi s4 hac4 ⟨gs,rfl,hG,u,rfl⟩ ⟨rfl,hx⟩ Cc hC;obtain⟨b,row,rfl,_,hy,cs,hB,hCs⟩:=M.rows.ref hx;have hB2:=s4 _ _ hB;refine⟨_,rfl,b,_,rfl,.inl ⟨AR.of hB2,λp hp=>?_⟩⟩;have sp:=AY hp (.AG (cs.map V.ref));refine hC _ _ _ sp ⟨gs++[p],by simp,?_,_,rfl⟩;rw[DX hy];exact(hG.keep GF (Dz ac2 sp)).snoc (V9 ⟨cs,AU,hCs.keep Au (s4.trans sp)⟩ (sp _ _ hac4))
  ·rintro ys σ H4 s4 ha4 hl4 ⟨gs,rfl,hG,u,rfl⟩;rw[ja,lds,jz (by rw[ts.1.len]; exact jj _)] at hG;refine⟨ac2,_,rfl,.inl ⟨AR.of ha4,λp hp=>?_⟩⟩;have sp:=AY hp (.AG (gs.map V.ref));exact q p _ ((s3.trans s4).trans sp) ⟨gs,AU,(hG.keep GF (Dl H4 ac2)).keep GF sp⟩
structure HB(n m α β:Nat):Prop where
 n13:n<=13
 m16:m<=16
 bd:(8+β*m+α)*n+β*m+α+20<=3900
structure CD(n m α β:Nat)(rs:List AQ):Prop where
 hb:HB n m α β
 len:rs.length<=m
 CI:∀r∈rs,r.1<n+2/\r.2.1<n+2/\Sb α β r.2.2
 pos:∀r∈rs,0<r.2.2
 Cp:Po (n+2) rs
theorem CD.two{n m α β:Nat}{rs:List AQ}(k:CD n m α β rs):∀r∈rs,r.1<n+2/\r.2.1<n+2:=λr hr=>⟨(k.CI r hr).1,(k.CI r hr).2.1⟩
theorem CD.den{n m α β:Nat}{rs:List AQ}(k:CD n m α β rs):DA rs<=2 ^ (β*m) :=
 jW (S9 λr hr=>(k.CI r hr).2.2.2) (kM (by decide) (lY _ k.len))
def Dd(n:Nat)(rs:List AQ):List (List Rat):=CH (Ec (Bo (n+2) rs)) (FA (Bo (n+2) rs))
theorem CD.row{n m α β:Nat}{rs:List AQ}(k:CD n m α β rs){y:List Rat}(hy:y∈Dd n rs):y.length=n+1/\∀q∈y,BM ((DA rs:Nat)*q)/\Vb (α+4) q:=by
 have sq:=(HS k.two).1;obtain⟨i,hi,e⟩:=jP hy;have hi':i<n:=by
  have:i<(Dd n rs).length:=hi
  unfold Dd CH at this;rw[uV,(Jc sq).1] at this;omega
 have e2:(Dd n rs)[i]?=some ((((Bo (n+2) rs).getD (i+2) []).drop 2)++[0-en (Bo (n+2) rs) (i+2) 0]):=by
  unfold Dd CH;rw[oV,OE sq hi',Q5 sq hi']
 rw[jb hi,e] at e2;cases e2;have rl:=(sq.row (i:=i+2) (by omega)).1;have m16:rs.length<=16:=jW k.len k.hb.m16;refine⟨by rw[jw,kA,rl]; simp,λq hq=>?_⟩;rcases jI.mp hq with h | h
 ·have h:=nV h;obtain⟨j,hj,ej⟩:=jP h
  have:q=en (Bo (n+2) rs) (i+2) j:=by unfold en; rw[je (l:=(Bo (n+2) rs).getD (i+2) []),jb hj,ej]; rfl
  rw[this];exact Oz k.CI m16 _ _
 ·rw[jO] at h;rw[h];obtain⟨a,b⟩:=Oz k.CI m16 (i+2) 0;constructor
  ·have:=a.neg
   rwa [show -((DA rs:Nat)*en (Bo (n+2) rs) (i+2) 0)=(DA rs:Nat)*(0-en (Bo (n+2) rs) (i+2) 0) by grind] at this
  ·have:=Ab.neg b
   rwa [show -1*en (Bo (n+2) rs) (i+2) 0=0-en (Bo (n+2) rs) (i+2) 0 by grind] at this
theorem CD.W8{n m α β:Nat}{rs:List AQ}(k:CD n m α β rs){y:List Rat}(hy:y∈Dd n rs):∀q∈y,(q.den:Int) ∣ (DA rs:Int):=λq hq=>by
 obtain⟨c,hc⟩:=((k.row hy).2 q hq).1;exact aT (k:=c) (by rw[ic]; exact hc)
theorem CD.tk{n m α β:Nat}{rs:List AQ}(k:CD n m α β rs):TK n (n+1) (β*m) (β*m+(α+4)) (β*m) (Dd n rs):=by
 have sq:=(HS k.two).1;have hd:=k.den;have pd:(0:Int)<(DA rs:Int):=by have:=JV rs; omega
 have hcb:∀r∈Dd n rs,(cb r).natAbs<=2 ^ (β*m):=λr hr=>jW (fG pd (k.W8 hr)) (by rw[j9]; exact hd)
 have hdq:∀r∈Dd n rs,∀q∈r,q.den<=2 ^ (β*m):=λr hr q hq=>jW (rZ (JV rs) (by exact_mod_cast k.W8 hr q hq)) hd
 have b:=k.hb.bd;generalize β*m=s at *;have e1:(8+s+α)*n=8*n+s*n+α*n:=by rw[rJ,rJ]
 rw[e1] at b;have n13:=k.hb.n13;refine⟨?_,λr hr=>(k.row hr).1,by omega,by omega,hdq,λr hr q hq=>?_,hcb,λr hr q hq=>?_,?_,by omega,?_⟩
 ·unfold Dd CH;rw[uV,(Jc sq).1,NP sq]; omega
 ·have h1:=Vf (b:=(q.den:Int)) (D:=s) (Int.dvd_refl _) ((k.row hr).2 q hq).2 (by rw[j9]; exact hdq r hr q hq)
  have:wh (q.den:Int) q=q.num:=by
   unfold wh;rw[Int.fdiv_self (by have:=q.den_nz; omega),Int.mul_one]
  rw[this] at h1;exact GY h1 (by omega)
 ·exact Vf ((Ot r).2 q hq) ((k.row hr).2 q hq).2 (hcb r hr)
 ·have:(4+(s+(α+4)))*n=8*n+s*n+α*n:=by rw[<-e1]; congr 1; omega
  omega
 ·have:s*(n+1)=s*n+s:=mw _ _
  omega
theorem CD.ne{n m α β:Nat}{rs:List AQ}(k:CD n m α β rs):dt n (n+1) (Dd n rs)≠0:=by
 have sq:=(HS k.two).1;have c:=Jc sq;unfold Dd CH;rw[ae c.1 (NP sq) c.2];exact dA (λr hr=>⟨(k.CI r hr).1,(k.CI r hr).2.1,k.pos r hr⟩) k.Cp
structure Dr(n B:Nat)(rs:List AQ)(X:Nat->Rat):Prop where
 x0:X 0=1
 x1:X 1=0
 bal:∀i,2<=i->i<n+2->A6 X rs i=0
 wh:∃W:Int,W≠0/\W.natAbs<=2 ^ B/\∀j,j<n+2->∃k:Int,(W:Rat)*X j=k/\k.natAbs<=2 ^ B
theorem CD.htx{n m α β:Nat}{rs:List AQ}(k:CD n m α β rs){x:Nat->Rat}(hx:∀y∈Dd n rs,fx n x (vq y)=0):Dr n ((8+β*m+α)*n) rs (K3 1 0 x):=by
 have tk:=k.tk;have n13:=k.hb.n13;refine⟨rfl,rfl,fQ k.two hx,?_⟩;have sc:=Na (n:=n) (m:=n+1) (Dd n rs) cb (λr hr=>(tk.hcb hr).2.1);have pp:EW ((Dd n rs).map cb)≠0:=by
  have:=(Rb (d:=β*m) ((Dd n rs).map cb) (λb hb=>by
   obtain⟨r,hr,rfl⟩:=js.mp hb;exact⟨(tk.hcb hr).1,(tk.hcb hr).2.2⟩)).1
  omega
 obtain⟨W,w0,wl,wx⟩:=cN (n:=n) (E:=β*m+(α+4)) (A:=(Ds (Dd n rs)).map vr) (x:=x) (by unfold Ds; rw[ja,ja]; exact tk.len) (by omega)
  (λa ha j=>by obtain⟨r,_,rfl⟩:=js.mp ha; exact BM.of _)
  (λa ha j=>by
   obtain⟨r,hr,rfl⟩:=js.mp ha;exact IP (RI ((tk.QI r hr).2) j))
  (λa ha=>by
   obtain⟨r,hr,rfl⟩:=js.mp ha;unfold Ds at hr;obtain⟨y,hy,rfl⟩:=js.mp hr;rw[PU (tk.hcb hy).2.1];have c0:((cb y:Int):Rat)≠0:=by
    have:cb y≠0:=by have:=(tk.hcb hy).1; omega
    exact_mod_cast this
   exact(RU c0).mpr (hx y hy))
  (by
   unfold Ds;rw[sc];intro z;rcases mK.mp z with h | h
   ·exact pp (by exact_mod_cast h)
   ·exact k.ne h)
 have eB:(4+(β*m+(α+4)))*n=(8+β*m+α)*n:=by congr 1; omega
 rw[eB] at wl wx;refine⟨W,w0,wl,λj hj=>?_⟩
 match j,hj with
 | 0,_=>exact⟨W,by show(W:Rat)*1=W; grind,wl⟩
 | 1,_=>exact⟨0,by show(W:Rat)*0=0; grind,by simp⟩
 | j+2,hj=>exact wx j (by omega)
theorem Pj{n:Nat}(h:2<=n):HT.Ak n 0 (some 2)=2:=by simp[HT.Ak]; omega
inductive SW(vs:List V)(H:Hp)(Q:VK):Prop
 | mk (a:Addr) (T:List (List Rat)) (n:Nat) (h_0:vs=[.ref a]) (h_1:A4 (A4 AS) H a T) (h_2:Sq (n+2) T) (h_3:n<=100) (h_4:∀p H',AN H H'->A4 (A4 AS) H' p (Ec T)->Q (.ref p) H'):SW vs H Q
def UQ:Sp:=λvs H Q _=>SW vs H Q
theorem iD:Ay ["table"] ["table"] (Ao sPoleless):=A7
theorem ba(F:Ar K "poleless" "poleless" sPoleless f fd)(mt:mg "tuple" = none):An P w K mg base Av 1 f fd ["table"] UQ:=by
 refine F.BA iD λcdv A outer s H vs Q E hr h=>?_
 obtain⟨a,T,n,rfl,⟨bs,ha,hA⟩,sq,hn,q⟩:=h;refine⟨_,AV (Aq (CP FW (by rfl) mt CG (AA (C1 (Nc:=["row"]) (cap:=[]) (g:=BR 0) (te:=Wi (Pd K) (Ap 0) (VU (tC (.int 2))) Ja) rfl (Fj (EC Kw (pv 0) (D0 AE) EO))
   (CB rfl rfl (by decide +kernel) (by decide +kernel) (jr _) rfl (jr _)) (λ_ _ _ _ _=>Af (i:=0) PL rfl (jn rfl)) (λ_ _ _ _ _=>EC Kw (pv 0) (D0 AE) EO)) AB))),?_⟩
 have lb:bs.length=n+2:=by rw[hA.1]; exact sq.len
 refine⟨_,rfl,2,rfl,a,_,rfl,AK.of ha,λz=>?_,λp0 hp0=>?_⟩
 ·have:=z.1
  rw[Pj (by rw[ja]; omega)] at this;cases this
 rw[show C8 (bs.map V.ref) (some 2) none=(bs.drop 2).map V.ref by rw[show(some (2:Int))=some ((2:Nat):Int) from rfl,ID _ (by rw[ja]; omega),pB]];obtain⟨H1,zg,s0,h0⟩:=nw hp0 (.AG ((bs.drop 2).map V.ref));rw[zg];have hA1:=(hA.keep GF s0).drop 2;refine⟨p0,rfl,⟨_,AK.of h0⟩,λacc hacc=>?_⟩;refine CQ (GB h0) (by rw[ja,kA]; omega) hacc (λi ys σ hp=>∃ds:List Addr,ys=ds.map V.ref/\At (A4 AS) hp ds ((Ec T).take i)/\∃u,σ=[u]) ⟨[],rfl,At.nil,none,rfl⟩ ?_ ?_
 ·rintro i ys σ H2 x H3 hi sm hacc2 ⟨ds,rfl,hD,u,rfl⟩ ⟨rfl,hx⟩ Cc hC;obtain⟨b,row,rfl,_,hy,cs,hB,hCs⟩:=hA1.ref hx;have hB2:=sm _ _ hB;have rl:row.length=n+2:=sq.FL row (nV (jd hy));have cl:cs.length=n+2:=by rw[hCs.1]; exact rl
  refine⟨_,rfl,2,rfl,b,_,rfl,AK.of hB2,λz=>?_,λp hp=>?_⟩
  ·have:=z.1
   rw[Pj (by rw[ja]; omega)] at this;cases this
  rw[show C8 (cs.map V.ref) (some 2) none=(cs.drop 2).map V.ref by rw[show(some (2:Int))=some ((2:Nat):Int) from rfl,ID _ (by rw[ja]; omega),pB]];have sp:=AY hp (.AG ((cs.drop 2).map V.ref));refine hC _ _ _ sp ⟨ds++[p],by simp,?_,_,rfl⟩;have ec:(Ec T)[i]?=some (row.drop 2):=by unfold Ec; rw[ji,hy]; rfl
  rw[DX ec];exact(hD.keep GF (Dz acc sp)).snoc (V9 ⟨cs.drop 2,AU,(hCs.keep Au (sm.trans sp)).drop 2⟩ (sp _ _ hacc2))
 ·rintro ys σ H4 s4 ha4 hl4 ⟨gs,rfl,hG,u,rfl⟩;rw[ja,kA,jz (by rw[(Jc sq).1]; omega)] at hG;refine⟨acc,_,rfl,.inl ⟨AR.of ha4,λp hp=>?_⟩⟩;have sp:=AY hp (.AG (gs.map V.ref));exact q p _ ((s0.trans s4).trans sp) ⟨gs,AU,(hG.keep GF (Dl H4 acc)).keep GF sp⟩
theorem Ka{W k:Int}{q:Rat}{a b:Nat}(w0:W≠0)(e:(W:Rat)*q=k)(h1:k.natAbs<=2 ^ b)(h2:W.natAbs<=2 ^ a):Sb b a q:=by
 refine MX w0 h1 h2 ?_;rw[FY k W w0];have w1:(W:Rat)≠0:=by exact_mod_cast w0
 have:(k:Rat) / (W:Rat)=q:=by
  rw[<-e,pY];rw[Rat.div_def,xu,vw _ w1,Rat.mul_one]
 rw[this]; rfl
theorem dw{M:Nat}{q:Rat}{D v:Nat}(m0:0<M)(hi:BM ((M:Nat)*q))(hM:M<=2 ^ D)(hv:Vb v q):Sb (D+v) D q:=by
 obtain⟨k,hk⟩:=hi;have ab:Ab ((2 ^ D:Nat):Rat) ((M:Nat):Rat):=IP (x:=(M:Int)) (by rw[j9]; exact hM)
 have:=ab.Ee hv
 rw[hk,<-Rat.natCast_mul,<-Nat.pow_add] at this;exact Ka (W:=(M:Int)) (by omega) (by rw[ic]; exact hk) (Fm this) (by rw[j9]; exact hM)
theorem CD.sf{n m α β:Nat}{rs:List AQ}(k:CD n m α β rs)(i j:Nat):Sf (en (Bo (n+2) rs) i j):=by
 obtain⟨a,b⟩:=Oz k.CI (jW k.len k.hb.m16) i j
 have:=k.hb.bd
 exact(dw (JV rs) a k.den b).mono (by omega) (by omega)
theorem iu:Sf 0:=Sb.zero.mono (kH _) (kH _)
theorem Xm(n:Nat)(x:Nat->Rat):(ju (n+2)).map (K3 1 0 x)=1 :: 0 :: (ju n).map x:=by
 rw[lU,lU];simp[kr];exact⟨rfl,rfl,λ_ _=>rfl⟩
inductive Us(vs:List V)(H:Hp)(Q:VK):Prop
 | mk (a:Addr) (n m α β:Nat) (rs:List AQ) (h_0:vs=[.ref a]) (h_1:Io H a (n+2) rs) (h_2:CD n m α β rs) (h_3:∀p H' X,AN H H'->Dr n ((8+β*m+α)*n) rs X->A4 AS H' p ((ju (n+2)).map X)->Q (.ref p) H'):Us vs H Q
def PD:Sp:=λvs H Q _=>Us vs H Q
theorem Pw:Ay ["net","table","right"] ["net"] (Ao sHeights):=A7
theorem Xg (F:Ar K "heights" "heights" sHeights f fd) (G1:Aj P w K mg base 4 "ease_table" ["net"] UM)
  (G2:Aj P w K mg base 3 "minus" ["one","other"] (C7 λx y=>x-y))
  (G3:Aj P w K mg base 1 "poleless" ["table"] UQ)
  (G4:Aj P w K mg base 4 "answer" ["table","right"] (RH C2)) (mt:mg "tuple" = none) :
  An P w K mg base Av 5 f fd ["net"] PD:=by
 refine F.BA Pw λcdv A outer s H vs Q E hr h=>?_
 obtain⟨a,n,m,α,β,rs,rfl,hN,k,q⟩:=h;have hr3:=hr.mono (show 3<=4 by decide);have hr1:=hr.mono (show 1<=4 by decide);refine⟨_,AO (AW (i:=1) Pw.nd rfl (jn rfl) (AZ G1 hr (AA (pv 0) AB)))
  (AO (AW (i:=2) Pw.nd rfl (jn rfl) (CP FW (by rfl) mt CG (AA (C1 (Nc:=["row"]) (cap:=[]) (g:=BR 0) (te:=DT (C7 λx y=>x-y) [] E0 (BO (LI (BO (tC (.int 0)) (BO (tC (.int 1)) CF))) (BO (Bg (FJ K) (Ap 0) (tC (.int 0))) CF))) rfl (Fj (EC Kw (pv 1) (D0 AE) EO))
   (CB rfl rfl (by decide +kernel) (by decide +kernel) (jr _) rfl (jr _)) (λ_ _ _ _ _=>Af (i:=0) PL rfl (jn rfl)) (λ_ _ _ _ _=>AZ G2 hr3 (AA (BZ (AA AE (AA AE AB))) (AA (A5 Bm (pv 0) AE (λ_ _=>rfl)) AB)))) AB)))
  (AV (Aq (AL L3 (BZ (AA (BZ (AA AE (AA AE AB))) (AA (BZ (AA AE (AA AE AB))) AB)))
   (AZ G4 hr (AA (AZ G3 hr1 (AA (pv 1) AB)) (AA (pv 2) AB))))))),?_⟩
 have m16:rs.length<=16:=jW k.len k.hb.m16;have n13:=k.hb.n13;have bd:=k.hb.bd;have bl:β*rs.length<=β*m:=lY _ k.len;have bl1:(β+1)*rs.length=β*rs.length+rs.length:=by rw[rJ,pG]
 have sq:=(HS k.two).1;have ksf:=k.sf;refine⟨_,rfl,a,n+2,α,β,rs,rfl,hN,by omega,by omega,k.CI,by omega,by omega,λt H1 s1 hT=>?_⟩;have ht:=(Jc sq);have hrl:=NP sq;obtain⟨bs,ha,hA⟩:=hT;have lb:bs.length=n+2:=by rw[hA.1]; exact sq.len
 refine⟨_,rfl,2,rfl,t,_,rfl,AK.of ha,λz=>?_,λp0 hp0=>?_⟩
 ·have:=z.1
  rw[Pj (by rw[ja]; omega)] at this;cases this
 rw[show C8 (bs.map V.ref) (some 2) none=(bs.drop 2).map V.ref by rw[show(some (2:Int))=some ((2:Nat):Int) from rfl,ID _ (by rw[ja]; omega),pB]];obtain⟨H2,zg,s0,h0⟩:=nw hp0 (.AG ((bs.drop 2).map V.ref));rw[zg];have hA1:=(hA.keep GF s0).drop 2;refine⟨p0,rfl,⟨_,AK.of h0⟩,λacc hacc=>?_⟩;refine CQ (GB h0) (by rw[ja,kA]; omega) hacc (λi ys σ hp=>∃ds:List Addr,ys=ds.map V.ref/\At AS hp ds ((FA (Bo (n+2) rs)).take i)/\∃u,σ=[u]) ⟨[],rfl,At.nil,none,rfl⟩ ?_ ?_
 ·rintro i ys σ H3 x H4 hi sm hacc2 ⟨ds,rfl,hD,u,rfl⟩ ⟨rfl,hx⟩ Cc hC;obtain⟨b,row,rfl,_,hy,cs,hB,hCs⟩:=hA1.ref hx;have hB2:=sm _ _ hB;have rl:row.length=n+2:=sq.FL row (nV (jd hy));have er:row[0]?=some (row.getD 0 0):=by rw[je,jb (by omega)]; rfl
  obtain⟨c,hc,hcf⟩:=hCs.get er;have i':i<n:=by
   have:i<(bs.drop 2).length:=by rw[ja] at hi; exact hi
   rw[kA] at this; omega
  have erow:row=(Bo (n+2) rs).getD (i+2) []:=by
   rw[nH,oY 2 i,(sq.row (i:=i+2) (by omega)).2] at hy;exact(jL hy).symm
  refine⟨by exact B6,λz hz=>?_⟩;obtain⟨H5,zg,sz,zz⟩:=nw hz (.AG [.int 0,.int 1]);rw[zg];have ez:AS H5 z 0:=zz;refine⟨_,rfl,b,_,_,_,rfl,rfl,AK.of (sz _ _ hB2),Bc (j:=0) (DD hc),z,c,0,row.getD 0 0,rfl,ez,sz _ _ (sm _ _ hcf),iu,by rw[erow]; exact ksf (i+2) 0,λp hp=>?_⟩;have sp:=AY hp (.AG [.int (0-row.getD 0 0).num,.int (0-row.getD 0 0).den]);have szp:=sz.trans sp;refine hC _ _ _ szp ⟨ds++[p],by simp,?_,_,rfl⟩;have ec:(FA (Bo (n+2) rs))[i]?=some (0-row.getD 0 0):=by unfold FA; rw[ji,hy]; rfl
  rw[DX ec];exact(hD.keep Au (Dz acc szp)).snoc (AS.BK (q:=0-row.getD 0 0) AU (szp _ _ hacc2))
 ·rintro ys σ H4 s4 ha4 hl4 ⟨gs,rfl,hG,u,rfl⟩;rw[ja,kA,jz (by rw[hrl]; omega)] at hG;refine⟨acc,_,rfl,.inl ⟨AR.of ha4,λrt hrt=>?_⟩⟩;have s5:=AY hrt (.AG (gs.map V.ref));have hR:A4 AS (AH H4 rt (.AG (gs.map V.ref))) rt (FA (Bo (n+2) rs)):=⟨gs,AU,(hG.keep Au (Dl H4 acc)).keep Au s5⟩;generalize AH H4 rt (.AG (gs.map V.ref))=H5 at s5 hR;have s15:=(s0.trans s4).trans s5;refine⟨by exact B6,λz1 hz1=>⟨by exact B6,λz2 hz2=>⟨by exact B6,λz3 hz3=>?_⟩⟩⟩;obtain⟨H6,zg,t1,zz⟩:=nw hz1 (.AG [.int 1,.int 1]);rw[zg] at hz2 hz3 ⊢;have e1:AS H6 z1 1:=zz;obtain⟨H7,zg,t2,zz⟩:=nw hz2 (.AG [.int 0,.int 1]);rw[zg] at hz3 ⊢;have e2:AS H7 z2 0:=zz;obtain⟨H8,zg,t3,e3⟩:=nw hz3 (.AG [.ref z1,.ref z2]);rw[zg];have s18:=s15.trans ((t1.trans t2).trans t3);refine⟨_,rfl,t,Bo (n+2) rs,n,rfl,⟨bs,s18 _ _ ha,hA.keep GF s18⟩,sq,by omega,λpt H9 s9 hP=>?_⟩;refine⟨_,rfl,pt,rt,Ec (Bo (n+2) rs),FA (Bo (n+2) rs),n,_,_,_,rfl,hP,EU (R:=AS) (λs h=>Au s h) (((t1.trans t2).trans t3).trans s9) hR,ht.1,hrl,ht.2,k.tk,λz=>absurd z k.ne,λ_ pa H10 x s10 hx hX=>?_⟩;have htx:=k.htx hx;obtain⟨xs,hpa,hXs⟩:=hX;have s910:=s9.trans s10;have sAll:=(s1.trans s18).trans s910;have a1:At AS H10 ([z1,z2]++xs) (1 :: 0 :: (ju n).map x):=by
   refine At.QB (xs:=[1,0]) (At.snoc (bs:=[z1]) (xs:=[1]) (At.snoc (bs:=[]) (xs:=[]) At.nil ?_) ?_) hXs
   ·exact((t2.trans t3).trans s910) _ _ e1
   ·exact(t3.trans s910) _ _ e2
  rw[<-Xm] at a1;have lx:xs.length=n:=by rw[hXs.1]; simp
  refine⟨z3,pa,[.ref z1,.ref z2],xs.map V.ref,rfl,rfl,AK.of (s910 _ _ e3),AK.of hpa,by simp,by rw[ja]; exact Dp (by simp; omega),λz=>?_,λz p hp=>?_⟩
  ·have xe:xs=[]:=rh.mp z;subst xe;exact q z3 H10 _ sAll htx ⟨[z1,z2],s910 _ _ e3,a1⟩
  ·have sp:=AY hp (.AG ([.ref z1,.ref z2]++xs.map V.ref));exact q p _ _ (sAll.trans sp) htx ⟨[z1,z2]++xs,by rw[AU]; simp,a1.keep Au sp⟩
theorem L9{t u:L2.TS}{D:DF}{σ:L2.St}{H:Hp}{G:L2.St->Hp->Prop}(m:∀U:L2.St->Hp->Prop,(∀σ H,G σ H->U σ H)->t { D with nx:=U } σ H)(r:∀σ H,G σ H->u D σ H):J1 t u D σ H:=m _ r
def Uw(Z:Int)(N c:Nat)(q:Rat):Prop:=∃k:Int,(Z:Rat)*q=k/\k.natAbs<=c*2 ^ N
theorem Uw.Dh{Z:Int}{N c d:Nat}{p q:Rat}(h:Uw Z N c p)(g:Uw Z N d q):Uw Z N (c+d) (p+q):=by
 obtain⟨k,h1,h2⟩:=h;obtain⟨l,g1,g2⟩:=g;refine⟨k+l,by rw[tX,<-h1,<-g1]; grind,?_⟩;rw[rJ];exact jW (vL _ _) (Nat.add_le_add h2 g2)
theorem Uw.neg{Z:Int}{N c:Nat}{p:Rat}(h:Uw Z N c p):Uw Z N c (-p):=by
 obtain⟨k,h1,h2⟩:=h;exact⟨-k,by rw[oM,<-h1]; grind,by rw[rz]; exact h2⟩
theorem Uw.Di{Z:Int}{N c d:Nat}{p q:Rat}(h:Uw Z N c p)(g:Uw Z N d q):Uw Z N (c+d) (p-q):=by
 rw[Rat.sub_eq_add_neg]; exact h.Dh g.neg
theorem Uw.mono{Z:Int}{N c d:Nat}{p:Rat}(h:Uw Z N c p)(e:c<=d):Uw Z N d p:=by
 obtain⟨k,h1,h2⟩:=h;exact⟨k,h1,jW h2 (o9 _ e)⟩
theorem Uw.zero(Z:Int)(N:Nat):Uw Z N 0 0:=⟨0,by rw[vx]; rfl,by simp⟩
theorem Uw.sf{Z:Int}{N c:Nat}{q:Rat}(h:Uw Z N c q)(z0:Z≠0)(hz:Z.natAbs<=2 ^ 3900)(hc:c<=64)(hN:N+6<=3900):Sf q:=by
 obtain⟨k,h1,h2⟩:=h;refine Ka z0 h1 (jW h2 ?_) hz
 have:c*2 ^ N<=2 ^ (N+6):=by rw[pH,pU]; exact lY _ hc
 exact jW this (kM (by decide) hN)
structure LS(n:Nat)(rs:List AQ)(X:Nat->Rat)(Z:Int)(N:Nat):Prop where
 z0:Z≠0
 zl:Z.natAbs<=2 ^ 3900
 nl:N+6<=3900
 hs:∀j,j<n+2->Sf (X j)
 fs:∀r∈rs,Sf (X r.1-X r.2.1)
 es:∀r∈rs,Sf r.2.2
 ru:∀r∈rs,Uw Z N 1 (As X r)
theorem Dr.Ky{n m α β:Nat}{rs:List AQ}{X:Nat->Rat}(k:CD n m α β rs)(h:Dr n ((8+β*m+α)*n) rs X):∃Z N,LS n rs X Z N:=by
 obtain⟨W,w0,wl,wx⟩:=h.wh;have bd:=k.hb.bd;have bm:∀r∈rs,β<=β*m:=λr hr=>by
  have:0<rs.length:=mD hr
  have:=k.len
  exact oC _ (by omega)
 generalize (8+β*m+α)*n=B at *;have hd:=k.den;have hp:=JV rs;have fall:∀r∈rs,∃c:Int,(W:Rat)*(X r.1-X r.2.1)=c/\c.natAbs<=2 ^ (B+1):=λr hr=>by
  obtain⟨a1,a2,a3⟩:=k.CI r hr;obtain⟨x,e1,l1⟩:=wx _ a1;obtain⟨y,e2,l2⟩:=wx _ a2;refine⟨x-y,by rw[qT,<-e1,<-e2]; grind,?_⟩
  have:=qk x y
  rw[nK]; omega
 refine⟨W*(DA rs:Int),β*m+α+(B+1),mH w0 (by omega),?_,by omega,λj hj=>?_,λr hr=>?_,λr hr=>?_,λr hr=>?_⟩
 ·rw[kn,j9];exact jW (DB wl hd) (kM (by decide) (by omega))
 ·obtain⟨c,e,l⟩:=wx j hj;exact(Ka w0 e l wl).mono (by omega) (by omega)
 ·obtain⟨c,e,l⟩:=fall r hr;exact(Ka w0 e l wl).mono (by omega) (by omega)
 ·have:=bm r hr
  exact(k.CI r hr).2.2.mono (by omega) (by omega)
 ·obtain⟨c,e,l⟩:=fall r hr;obtain⟨v,hv⟩:=OZ (Ls hr);refine⟨v*c,?_,?_⟩
  ·rw[kC,kC,<-hv,<-e,ic];unfold As; grind
  ·have ab:Ab ((2 ^ (β*m):Nat):Rat) ((DA rs:Nat):Rat):=IP (x:=(DA rs:Int)) (by rw[j9]; exact hd);have vb:=ab.Ee (k.CI r hr).2.2.vb;rw[hv,<-Rat.natCast_mul,<-Nat.pow_add] at vb;rw[kn,pG];exact DB (Fm vb) l
theorem LS.Cq{n:Nat}{rs:List AQ}{X:Nat->Rat}{Z:Int}{N:Nat}(s:LS n rs X Z N)(i:Nat){r:AQ}(hr:r∈rs):Uw Z N 2 (Cq X i r):=by
 have h:=s.ru r hr
 have:∀c:Prop,[Decidable c]->Uw Z N 1 (if c then As X r else 0):=λc _=>by
  by_cases e:c
  ·rw[jq e]; exact h
  ·rw[jm e]; exact(Uw.zero Z N).mono (by omega)
 exact(this _).Di (this _)
theorem NQ{X:Nat->Rat}{rs:List AQ}{k i:Nat}{r:AQ}(e:rs[k]?=some r):A6 X (rs.take (k+1)) i=A6 X (rs.take k) i+Wd.Cq X i r:=by
 unfold A6;rw[DX e,jH,pN];simp only[jx,kR,j7,mM,tI]
theorem LS.sum{n:Nat}{rs:List AQ}{X:Nat->Rat}{Z:Int}{N:Nat}(s:LS n rs X Z N)(i:Nat):∀k,k<=rs.length->Uw Z N (2*k) (A6 X (rs.take k) i):=by
 intro k
 induction k with
 | zero=>intro _; exact Uw.zero Z N
 | succ k ih =>
  intro hk;have e:rs[k]?=some rs[k]:=jb hk;rw[NQ e,mw];exact(ih (by omega)).Dh (s.Cq i (kU _))
theorem JT{n i:Nat}(X:Nat->Rat)(h:i<n):((ju n).map X)[i]?=some (X i):=by
 rw[ji,kE h]; rfl
inductive J6(H:Hp)(b:Addr)(l:List Rat):Prop
 | l (h:FI AS H b l)
 | t (h:A4 AS H b l)
theorem Vx{H H':Hp}{b:Addr}{l:List Rat}(s:AN H H'):J6 H b l->J6 H' b l
 | .l h=>.l (Ou (R:=AS) (λs h=>Au s h) s h)
 | .t h=>.t (EU (R:=AS) (λs h=>Au s h) s h)
theorem J6.ix{K:jk}{H:Hp}{b:Addr}{l:List Rat}{i:Nat}{q:Rat}{Q:VK}(h:J6 H b l)(e:l[i]?=some q)(k:∀c,AS H c q->Q (.ref c) H):GZ K (.ref b) (.int (i:Int)) H Q\/FJ K (.ref b) (.int (i:Int)) H Q:=by
 rcases h with ⟨bs,hb,hB⟩ | ⟨bs,hb,hB⟩
 ·obtain⟨c,h1,g1⟩:=hB.get e;exact .inl ⟨b,_,_,_,rfl,rfl,AR.of hb,Bc (DD h1),k c g1⟩
 ·obtain⟨c,h1,g1⟩:=hB.get e;exact .inr ⟨b,_,_,_,rfl,rfl,AK.of hb,Bc (DD h1),k c g1⟩
inductive Sa(vs:List V)(H:Hp)(Q:VK):Prop
 | mk (a b:Addr) (r:AQ) (n:Nat) (X:Nat->Rat) (h_0:vs=[.ref a,.ref b]) (h_1:BW H a r) (h_2:J6 H b ((ju n).map X)) (h_3:r.1<n) (h_4:r.2.1<n) (h_5:Sf (X r.1)) (h_6:Sf (X r.2.1)) (h_7:Mp H Q (X r.1-X r.2.1)):Sa vs H Q
def PB:Sp:=λvs H Q _=>Sa vs H Q
theorem g9:Ay ["rope","levels"] ["rope","levels"] (Ao sFallOf):=A7
theorem ag(F:Ar K "fall_of" "fall_of" sFallOf f fd)(G:Aj P w K mg base 3 "minus" ["one","other"] (C7 λx y=>x-y)):
  An P w K mg base Av 4 f fd ["rope","levels"] PB:=by
 refine F.BA g9 λcdv A outer s H vs Q E hr h=>?_
 obtain⟨a,b,r,n,X,rfl,⟨e,ha,he⟩,hL,r1,r2,s1,s2,q⟩:=h;refine⟨_,AV (Aq (AZ G hr (AA (A5 ((P4 (K:=K)).or (QK (K:=K))) (pv 1) (A5 Bm (pv 0) AE (λ_ _=>rfl)) (λ_ _=>rfl)) (AA (A5 ((P4 (K:=K)).or (QK (K:=K))) (pv 1) (A5 Bm (pv 0) AE (λ_ _=>rfl)) (λ_ _=>rfl)) AB)))),?_⟩;exact⟨_,rfl,_,rfl,a,_,_,_,rfl,rfl,AK.of ha,Iu _ _ _,hL.ix (JT X r1) λc1 g1=>⟨_,rfl,_,rfl,a,_,_,_,rfl,rfl,AK.of ha,Ea _ _ _,hL.ix (JT X r2) λc2 g2=>⟨c1,c2,_,_,rfl,g1,g2,s1,s2,q⟩⟩⟩
inductive RS(vs:List V)(H:Hp)(Q:VK):Prop
 | mk (a b:Addr) (n:Nat) (rs:List AQ) (X:Nat->Rat) (h_0:vs=[.ref a,.ref b]) (h_1:Io H a n rs) (h_2:J6 H b ((ju n).map X)) (h_3:rs.length<=100) (h_4:(∀r∈rs,r.1<n/\r.2.1<n/\Sf (X r.1)/\Sf (X r.2.1)/\Sf (X r.1-X r.2.1)/\Sf r.2.2)) (h_5:∀p H',AN H H'->A4 AS H' p (rs.map (As X))->Q (.ref p) H'):RS vs H Q
def Nz:Sp:=λvs H Q _=>RS vs H Q
theorem iB:Ay ["net","levels"] ["net","levels"] (Ao sRunBy):=A7
theorem iG:(["rope","levels"]:List Str).Nodup:=by decide +kernel
theorem ZT (F:Ar K "runnings_by" "runnings_by" sRunBy f fd) (G1:Aj P w K mg base 3 "times" ["one","other"] (C7 λx y=>x*y))
  (G2:Aj P w K mg base 4 "fall_of" ["rope","levels"] PB) (mt:mg "tuple" = none) :
  An P w K mg base Av 5 f fd ["net","levels"] Nz:=by
 refine F.BA iB λcdv A outer s H vs Q E hr h=>?_
 obtain⟨a,b,n,rs,X,rfl,⟨ra,tv,ha,bs,hra,hRs⟩,hL,hm,hrs,q⟩:=h;have hr3:=hr.mono (show 3<=4 by decide);refine⟨_,AV (Aq (CP FW (by rfl) mt CG (AA (C1 (Nc:=["rope","levels"]) (cap:=[(1,1)]) (g:=BR 0) (te:=DT (C7 λx y=>x*y) [] E0 (BO (Bg (FJ K) (Ap 0) (tC (.int 2))) (BO (DT PB [] E0 (BO (Ap 0) (BO (Ap 1) CF))) CF))) rfl (Fj (A5 Bm (pv 0) AE (λ_ _=>rfl)))
   (CB rfl rfl (by decide +kernel) (by decide +kernel) (jv.mpr ⟨⟨rfl,rfl⟩,jr _⟩) rfl (jv.mpr ⟨⟨_,_,rfl,rfl,rfl,rfl,rfl⟩,jr _⟩)) (λ_ _ _ _ _=>Af (i:=0) iG rfl (jn rfl))
   (λ_ _ _ _ _=>AZ G1 hr3 (AA (A5 Bm (pv 0) AE (λ_ _=>rfl)) (AA (AZ G2 hr (AA (pv 0) (AA (pv 1) AB))) AB)))) AB))),?_⟩
 have lb:bs.length=rs.length:=hRs.1;refine⟨_,rfl,a,_,_,_,rfl,rfl,AK.of ha,Ea _ _ _,ra,rfl,⟨_,AK.of hra⟩,λacc hacc=>?_⟩;refine CQ (GB hra) (by rw[ja]; omega) hacc (λi ys σ hp=>∃ds:List Addr,ys=ds.map V.ref/\At AS hp ds ((rs.map (As X)).take i)/\∃u,σ=[u,some (.ref b)]) ⟨[],rfl,At.nil,none,rfl⟩ ?_ ?_
 ·rintro i ys σ H3 x H4 hi sm hacc2 ⟨ds,rfl,hD,u,rfl⟩ ⟨rfl,hx⟩ Cc hC;obtain⟨c,r,rfl,_,hy,e,hc,he⟩:=hRs.ref hx;obtain⟨r1,r2,s1,s2,s3,s4⟩:=hrs r (jd hy);refine⟨_,rfl,c,_,_,_,rfl,rfl,AK.of (sm _ _ hc),Fu _ _ _,_,rfl,_,rfl,c,b,r,n,X,rfl,⟨e,sm _ _ hc,sm _ _ he⟩,Vx sm hL,r1,r2,s1,s2,λp hp=>?_⟩;obtain⟨H5,zg,sp,hf⟩:=ND hp (X r.1-X r.2.1);rw[zg];refine⟨e,p,_,_,rfl,sp _ _ (sm _ _ he),hf,s4,s3,λp2 hp2=>?_⟩;have sp2:=AY hp2 (.AG [.int (r.2.2*(X r.1-X r.2.1)).num,.int (r.2.2*(X r.1-X r.2.1)).den]);have sA:=sp.trans sp2;refine hC _ _ _ sA ⟨ds++[p2],by simp,?_,_,rfl⟩;have ec:(rs.map (As X))[i]?=some (As X r):=by rw[ji,hy]; rfl
  rw[DX ec];exact(hD.keep Au (Dz acc sA)).snoc (AS.BK (q:=As X r) AU (sA _ _ hacc2))
 ·rintro ys σ H4 s4 ha4 hl4 ⟨gs,rfl,hG,u,rfl⟩;rw[ja,lb,jz (by rw[ja]; exact jj _)] at hG;refine⟨acc,_,rfl,.inl ⟨AR.of ha4,λp hp=>?_⟩⟩;have sp:=AY hp (.AG (gs.map V.ref));exact q p _ (s4.trans sp) ⟨gs,AU,(hG.keep Au (Dl H4 acc)).keep Au sp⟩
inductive Sm(vs:List V)(H:Hp)(Q:VK):Prop
 | mk (a:Addr) (n m α β:Nat) (rs:List AQ) (h_0:vs=[.ref a]) (h_1:Io H a (n+2) rs) (h_2:CD n m α β rs) (h_3:∀p H' X,AN H H'->Dr n ((8+β*m+α)*n) rs X->A4 AS H' p (rs.map (As X))->Q (.ref p) H'):Sm vs H Q
def UU:Sp:=λvs H Q _=>Sm vs H Q
theorem gQ:Ay ["net"] ["net"] (Ao sRunnings):=A7
theorem XR (F:Ar K "runnings" "runnings" sRunnings f fd) (G1:Aj P w K mg base 5 "runnings_by" ["net","levels"] Nz)
  (G2:Aj P w K mg base 5 "heights" ["net"] PD) :
  An P w K mg base Av 6 f fd ["net"] UU:=by
 refine F.BA gQ λcdv A outer s H vs Q E hr h=>?_
 obtain⟨a,n,m,α,β,rs,rfl,hN,k,q⟩:=h;refine⟨_,AV (Aq (AZ G1 hr (AA (pv 0) (AA (AZ G2 hr (AA (pv 0) AB)) AB)))),?_⟩;refine⟨_,rfl,_,rfl,a,n,m,α,β,rs,rfl,hN,k,λp H1 X s1 hX hT=>?_⟩;obtain⟨Z,N,z⟩:=hX.Ky k;have m16:rs.length<=16:=jW k.len k.hb.m16;exact⟨a,p,n+2,rs,X,rfl,Tw s1 hN,.t hT,by omega,λr hr=>⟨(k.CI r hr).1,(k.CI r hr).2.1,z.hs _ (k.CI r hr).1,z.hs _ (k.CI r hr).2.1,z.fs r hr,z.es r hr⟩,λp2 H2 s2 h2=>q p2 H2 X (s1.trans s2) hX h2⟩
inductive Qt(vs:List V)(H:Hp)(Q:VK):Prop
 | mk (a:Addr) (n m α β:Nat) (rs:List AQ) (h_0:vs=[.ref a]) (h_1:Io H a (n+2) rs) (h_2:CD n m α β rs) (h_3:∀p H' X,AN H H'->Dr n ((8+β*m+α)*n) rs X->AS H' p (A6 X rs 0)->Q (.ref p) H'):Qt vs H Q
def RO:Sp:=λvs H Q _=>Qt vs H Q
theorem Jx:Ay ["net","ease","rope","running"] ["net"] (Ao sEaseOf):=A7
theorem YI (F:Ar K "ease_of" "ease_of" sEaseOf f fd) (G1:Aj P w K mg base 3 "plus" ["one","other"] (C7 λx y=>x+y))
  (G2:Aj P w K mg base 3 "minus" ["one","other"] (C7 λx y=>x-y))
  (G3:Aj P w K mg base 6 "runnings" ["net"] UU) (mz:mg "zip" = none) :
  An P w K mg base Av 7 f fd ["net"] RO:=by
 refine F.BA Jx λcdv A outer s H vs Q E hr h=>?_
 obtain⟨a,n,m,α,β,rs,rfl,hN,k,q⟩:=h;have hr3:=hr.mono (show 3<=6 by decide);refine⟨_,AO (AW (i:=1) Jx.nd rfl (jn rfl) (BZ (AA AE (AA AE AB))))
  (AO (CV j3 rfl (Lv (t1:=true) (t2:=true) (by rfl) mz (AA (A5 Bm (pv 0) AE (λ_ _=>rfl)) (AA (AZ G3 hr (AA (pv 0) AB)) AB))) (HV rfl (BI (Af (i:=2) Jx.nd rfl (jn rfl)) (BI (Af (i:=3) Jx.nd rfl (jn rfl)) Ck)))
   (AO (Bn (BQ Dc (A5 Bm (pv 2) AE (λ_ _=>rfl)) AE (BJ _)) (AV (AW (i:=1) Jx.nd rfl (jn rfl) (AZ G1 hr3 (AA (pv 1) (AA (pv 3) AB))))) CA)
   (AV (Bn (BQ Dc (A5 Bm (pv 2) AE (λ_ _=>rfl)) AE (BJ _)) (AV (AW (i:=1) Jx.nd rfl (jn rfl) (AZ G2 hr3 (AA (pv 1) (AA (pv 3) AB))))) CA))))
  (AV (Aq (pv 1)))),?_⟩
 have m16:rs.length<=16:=jW k.len k.hb.m16;refine⟨by exact B6,λz1 hz1=>?_⟩;obtain⟨H1,zg,t1,zz⟩:=nw hz1 (.AG [.int 0,.int 1]);rw[zg];have e1:AS H1 z1 0:=zz;obtain⟨ra,tv,ha,bs,hra,hRs⟩:=id hN;refine⟨_,rfl,a,_,_,_,rfl,rfl,AK.of (t1 _ _ ha),Ea _ _ _,_,rfl,a,n,m,α,β,rs,rfl,Tw t1 hN,k,λpr H2 X s2 hX hR=>?_⟩;obtain⟨Z,N,z⟩:=hX.Ky k;obtain⟨cs,hpr,hCs⟩:=hR;have s12:=t1.trans s2;refine⟨ra,pr,rfl,⟨_,Bf.t (s12 _ _ hra)⟩,⟨_,Bf.t hpr⟩,?_⟩;have lb:bs.length=rs.length:=hRs.1;have lc:cs.length=rs.length:=by rw[hCs.1,ja]
 refine ZX (xs:=bs.map V.ref) (ys:=cs.map V.ref) rs.length (by rw[ja,ja]; omega) (λi σ H3=>AN H2 H3/\∃(e:Addr) (u v:Option V),σ=[some (.ref a),some (.ref e),u,v]/\AS H3 e (A6 X (rs.take i) 0))
  ⟨AN.refl _,z1,none,none,rfl,s2 _ _ e1⟩ (λi σ H3 _ ⟨s3,_⟩=>⟨Bf.t (s3 _ _ (s12 _ _ hra)),Bf.t (s3 _ _ hpr)⟩) ?_ ?_
 ·rintro i x y σ H3 p hx hy ⟨s3,e,u,v,rfl,he⟩ hp;obtain⟨c,r,rfl,_,hri,ea,hc,hea⟩:=hRs.ref hx;obtain⟨d,q0,rfl,_,hqi,hd⟩:=hCs.ref hy;have q0e:q0=As X r:=by rw[ji,hri] at hqi; exact(jL hqi).symm
  subst q0e;have rm:=jd hri;have ik:i<rs.length:=(jc.mp hri).1;obtain⟨H4,zg,s4,h4⟩:=nw hp (.AG [.ref c,.ref d]);rw[zg];refine⟨p,_,rfl,AK.of h4,rfl,_,_,rfl,_,_,rfl,rfl,?_⟩;have us:=z.sum 0 i (by omega);have ur:=z.ru r rm;have sum1:Sf (A6 X (rs.take i) 0):=us.sf z.z0 z.zl (by omega) z.nl;have srun:Sf (As X r):=ur.sf z.z0 z.zl (by omega) z.nl;have hc4:=(s12.trans (s3.trans s4)) _ _ hc;have hd4:=(s3.trans s4) _ _ hd;have he4:=s4 _ _ he;have s24:=s3.trans s4;have osn:=NQ (X:=X) (i:=0) hri;unfold Wd.Cq at osn;refine L9 (t:=Mj _ _ _) (G:=λσ H5=>AN H4 H5/\∃e5:Addr,σ=[some (.ref a),some (.ref e5),some (.ref c),some (.ref d)]/\AS H5 e5 (A6 X (rs.take i) 0+(if 0=r.1 then As X r else 0))) (λU fin=>?_) ?_
  ·refine⟨_,rfl,c,_,_,_,rfl,rfl,AK.of hc4,Iu _ _ _,rfl,_,rfl,?_⟩;by_cases c1:r.1=0
   ·exact Cy (iv (by omega)) ⟨_,rfl,_,rfl,e,d,_,_,rfl,he4,hd4,sum1,srun,λp5 hp5=>fin _ _ ⟨AY hp5 _,p5,rfl,by rw[jq c1.symm]; exact AU⟩⟩
   ·exact Ca (Dj (by omega)) (fin _ _ ⟨AN.refl _,e,rfl,by rw[jm (λz=>c1 z.symm),tI]; exact he4⟩)
  ·rintro σ H5 ⟨s5,e5,rfl,h5⟩;have sum2:Sf (A6 X (rs.take i) 0+(if 0=r.1 then As X r else 0)):=by
    by_cases c1:0=r.1
    ·rw[jq c1]; exact(us.Dh ur).sf z.z0 z.zl (by omega) z.nl
    ·rw[jm c1,tI]; exact sum1
   refine⟨_,rfl,c,_,_,_,rfl,rfl,AK.of (s5 _ _ hc4),Ea _ _ _,rfl,_,rfl,?_⟩;by_cases c2:r.2.1=0
   ·refine Cy (iv (by omega)) ⟨_,rfl,_,rfl,e5,d,_,_,rfl,h5,s5 _ _ hd4,sum2,srun,λp6 hp6=>?_⟩;refine⟨s24.trans (s5.trans (AY hp6 _)),p6,_,_,rfl,?_⟩;rw[osn,jq c2.symm,show ∀x y w:Rat,x+(y-w)=x+y-w from λx y w=>by grind];exact AU
   ·refine Ca (Dj (by omega)) ⟨s24.trans s5,e5,_,_,rfl,?_⟩;rw[osn,show(if 0=r.2.1 then As X r else 0)=0 from jm (λz=>c2 z.symm),show ∀x y:Rat,x+(y-0)=x+y from λx y=>by grind];exact h5
 ·rintro σ H3 ⟨s3,e,u,v,rfl,he⟩;rw[lL] at he;exact⟨_,rfl,q e H3 X (s12.trans s3) hX he⟩
end
end My
namespace My
open PySem L2 Mth
section
variable {P:j8} {w:World} {K:jk} {mg:Str->Option Value} {base:Heap}
inductive VF(vs:List V)(H:Hp)(Q:VK):Prop
 | mk (e:Int) (h_0:vs=[.int e]) (h_1:Q (.int (AM e)) H):VF vs H Q
def MW:Sp:=λvs H Q _=>VF vs H Q
theorem iL:Ay ["end"] ["end"] (Ao sOther):=A7
theorem ZL{f:Addr}{fd:kF}(F:Ar K "other_end" "other_end" sOther f fd):An P w K mg base Av 1 f fd ["end"] MW:=by
 refine F.BA iL λcdv A outer s H vs Q E hr h=>?_
 obtain⟨e,rfl,q⟩:=h;refine⟨_,AV (Aq (Nh (BQ Dc (AL Bw (pv 0) AE) AE (BJ _)) (AL BL (pv 0) AE) (AL DN (pv 0) AE))),?_⟩;refine⟨_,rfl,_,_,rfl,rfl,(show(0:Int)<2 by decide),rfl,_,rfl,?_⟩;unfold AM at q;by_cases h:e % 2=0
 ·rw[jq h] at q;exact Cy (iv h) ⟨_,rfl,_,_,rfl,rfl,q⟩
 ·rw[jm h] at q;exact Ca (Dj h) ⟨_,rfl,_,_,rfl,rfl,q⟩
inductive Rf(vs:List V)(H:Hp)(Q:VK):Prop
 | mk (a:Addr) (bs:List Addr) (ts:List (List Int)) (n:Nat) (h_0:vs=[.ref a]) (h_1:Hw H a bs ts) (h_2:B4 n ts) (h_3:n<=1000) (h_4:∀d H',AN H H'->H d=none->H' d=some (.dK (BG (Az ts)))->Q (.ref d) H'):Rf vs H Q
def SU:Sp:=λvs H Q _=>Rf vs H Q
def Uc(K:jk):TS:=J1 (Jy UW (BR 1)) (J1 (Pm (Pg K (Ap 0)) (BR 2) (Pm (Vr (BO (Ap 2) CF)) (Ih K 2 (GQ (BR 3) (GQ (BR 4) LB)))
 (V2 (Ap 1) (Ap 4) (Bg (FJ K) (Ap 2) (Bg (FN λi j=>.int (i-j)) (Ap 3) (tC (.int 1))))))) (Py (Ap 1)))
theorem ZJ{H:Hp}{Q:VK}{a:Addr}{bs:List Addr}{ts:List (List Int)}{n:Nat}{nx:St->Hp->Prop}(hT:Hw H a bs ts)(T:B4 n ts)(hn:n<=1000)(q:∀d H',AN H H'->H d=none->H' d=some (.dK (BG (Az ts)))->Q (.ref d) H'):
  Uc K { nx:=nx,rt:=Q } [some (.ref a),none,none,none,none] H:=by
 intro d hd
 try dsimp only
 try refine Cw ?_
 first | refine Cv λUL1 hUL1=>?_ | refine nx_hide λUL1 hUL1=>?_
 refine⟨_,rfl,a,rfl,⟨_,AK.of (AY hd _ _ _ hT.1)⟩,?_⟩;refine JZ (xs:=bs.map V.ref) (λi σ H2=>∃t k e,σ=[some (.ref a),some (.ref d),t,k,e]/\AN H H2/\H2 d=some (.dK (BG (Az (ts.take i))))) ⟨none,none,none,rfl,AY hd _,AU⟩ (λi σ H2 _ ⟨_,_,_,_,s,_⟩=>AK.of (s _ _ hT.1)) ?_ ?_
 ·rintro i x σ H2 hx ⟨t0,k0,e0,rfl,sm,hd2⟩;obtain⟨b,row,rfl,hb,hrow⟩:=U3 hT.2.1 hx;have hB:=sm _ _ (hT.2.2 i b row hb hrow)
  try dsimp only
  try refine Cw ?_
  first | refine Cv λUL2 hUL2=>?_ | refine nx_hide λUL2 hUL2=>?_
  refine⟨_,rfl,b,_,rfl,hB,?_⟩;refine KY (xs:=row.map V.int) (λj σ H3=>∃k e,σ=[some (.ref a),some (.ref d),some (.ref b),k,e]/\AN H H3/\H3 d=some (.dK (BG (Az (ts.take i)++(BB row).take j)))) ⟨k0,e0,rfl,sm,by rw[rB,lC]; exact hd2⟩
   (λj σ H3 _ ⟨_,_,_,s,_⟩=>s _ _ (hT.2.2 i b row hb hrow)) ?_ ?_
  ·rintro j x σ H3 p hx3 ⟨k1,e1,rfl,sm3,hd3⟩ hp;obtain⟨e,rfl,he⟩:=Fh hx3;have hj:j<row.length:=(jc.mp he).1;have sm4:AN H (AH H3 p (.AG [.int j,.int e])):=sm3.trans (AY hp _);have hd4:(AH H3 p (.AG [.int j,.int e])) d=some (.dK (BG (Az (ts.take i)++(BB row).take j))):=AY hp _ _ _ hd3;have keys:(Az (ts.take i)++(BB row).take j).map (·.1)=(ts.take i).flatten++row.take j:=by
    rw[jH,E6,qA,JU]
   have fr:e∉(Az (ts.take i)++(BB row).take j).map (·.1):=by rw[keys]; exact Lg T.nd hrow he
   have ln:(BG (Az (ts.take i)++(BB row).take j)).length<jR:=by
    have l1:=congrArg m7 keys;rw[ja] at l1;have l2:((ts.take i).flatten++row.take j).length<=n:=by
     rw[<-T.len];have e1:ts=ts.take i++ts.drop i:=(lN i ts).symm;have hd:ts.drop i=row :: ts.drop (i+1):=by
      obtain⟨hi,q1⟩:=jc.mp hrow;rw[<-q1,mC]
     have e2:ts.flatten.length=(ts.take i).flatten.length+(row.length+(ts.drop (i+1)).flatten.length):=by
      conv=>lhs; rw[e1,hd]
      rw[kI,j5,jw,jw]
     rw[e2,jw,kB];omega
    rw[ja,l1];exact Ce (by omega)
   refine⟨p,_,rfl,AK.of AU,rfl,_,_,rfl,_,_,rfl,rfl,?_⟩;refine⟨_,rfl,_,rfl,_,_,rfl,rfl,b,_,_,_,rfl,rfl,AK.of (sm4 _ _ (hT.2.2 i b row hb hrow)),TY hj,_,rfl,_,rfl,d,_,rfl,D5.k (k:=j4 e) hd4 ln,?_⟩;refine⟨_,_,rfl,sm4.up hd _,?_⟩;rw[AU,HP fr,kN];have rp:(BB row)[j]?=some (e,EF row j):=by
    unfold BB;rw[ji,kE hj];show some (row.getD j 0,EF row j)=_;rw[je,he];rfl
   rw[C0 rp]
  ·rintro σ H3 ⟨k1,e1,rfl,sm3,hd3⟩;subst hUL2;refine⟨_,_,_,rfl,sm3,?_⟩;rw[hd3,C0 hrow,QO,ja,show(BB row).take row.length=BB row from jz (by rw[Nm]; exact jj _)]
 ·rintro σ H2 ⟨t0,k0,e0,rfl,sm,hd2⟩;subst hUL1;refine⟨_,rfl,q d H2 sm hd ?_⟩;rw[hd2,ja,jz (by rw[hT.2.1]; exact jj _)]
theorem LK:Ay ["turns","ahead","turn","k","end"] ["turns"] (Ao sAhead):=A7
theorem Y3{f:Addr}{fd:kF}(F:Ar K "ends_ahead" "ends_ahead" sAhead f fd)(me:mg "enumerate" = none):An P w K mg base Av 1 f fd ["turns"] SU:=by
 refine F.BA LK λcdv A outer s H vs Q E hr h=>?_
 obtain⟨a,bs,ts,n,rfl,hT,T,hn,q⟩:=h;have hu:=FD hr;refine⟨Uc K,AO (AW (i:=1) LK.nd rfl (jn rfl) KR)
  (AO (CV j3 rfl (Fj (pv 0)) (Af (i:=2) LK.nd rfl (jn rfl))
   (AV (CV j3 rfl (Ki (by rfl) me (AA (pv 2) AB)) (HV rfl (BI (Af (i:=3) LK.nd rfl (jn rfl)) (BI (Af (i:=4) LK.nd rfl (jn rfl)) Ck)))
    (AV (GC hu (pv 1) (pv 4) (A5 Bm (pv 2) (AL DN (pv 3) AE) (λ_ _=>rfl)) rfl)))))
  (AV (Aq (pv 1)))),ZJ hT T hn q⟩
inductive SR(vs:List V)(H:Hp)(Q:VK):Prop
 | mk (s:Int) (d:Addr) (ts:List (List Int)) (n:Nat) (h_0:vs=[.int s,.ref d]) (h_1:H d=some (.dK (BG (Az ts)))) (h_2:B4 n ts) (h_3:n<=1000) (h_4:AF n s) (h_5:∀p H',AN H H'->H p=none->H' p=some (.AG ((Ba (AJ ts) s).map V.int))->Q (.ref p) H'):SR vs H Q
def Tu:Sp:=λvs H Q _=>SR vs H Q
theorem Mx:Ay ["start","ahead","ring","end"] ["start","ahead"] (Ao sRingFrom):=A7
theorem XU{f:Addr}{fd:kF}(F:Ar K "ring_from" "ring_from" sRingFrom f fd)(G:Aj P w K mg base 1 "other_end" ["end"] MW)(mt:mg "tuple" = none):
  An P w K mg base Av 2 f fd ["start","ahead"] Tu:=by
 refine F.BA Mx λcdv A outer s H vs Q E hr h=>?_
 obtain⟨s0,d,ts,n,rfl,hd,T,hn,hs,q⟩:=h;have hu:=FD hr;have PM:=T.perm;have PE:=Fi PM hs;refine⟨_,AO (AW (i:=2) Mx.nd rfl (jn rfl) (Bz (AA (pv 0) AB)))
  (AO (AW (i:=3) Mx.nd rfl (jn rfl) (ET hu (pv 1) (AZ G hr (AA (pv 0) AB)) (λ_ _=>rfl)))
  (AO (HJ j3 (BQ Eo (pv 3) (pv 0) (BJ _))
   (AO (C3 (CY K jT kf kg DY (pv 2) (AA (pv 3) AB)))
    (AV (AW (i:=3) Mx.nd rfl (jn rfl) (ET hu (pv 1) (AZ G hr (AA (pv 3) AB)) (λ_ _=>rfl))))))
  (AV (Aq (CP FW (by rfl) mt CG (AA (pv 2) AB)))))),?_⟩
 refine⟨_,rfl,by exact Ei,λl hl=>?_⟩;refine⟨_,rfl,_,rfl,s0,rfl,d,_,rfl,IH (AY hl _ _ _ hd) (T.Kp hs),?_⟩;refine Gz (λσ H2=>∃j,1<=j/\j<=BU (AJ ts) s0/\σ=[some (.int s0),some (.ref d),some (.ref l),some (.int (A2 (AJ ts) j s0))]/\AN H H2/\H2 l=some (.AD ((Cn (AJ ts) s0 j).map V.int)))
  (λ_ H2=>match H2 l with | some (.AD xs)=>BU (AJ ts) s0-xs.length | _=>0) ⟨1,jj _,PE.1,rfl,AY hl _,AU⟩ ?_ ?_
 ·rintro σ H2 ⟨j,j1,j2,rfl,sm,hl2⟩;refine⟨_,rfl,_,rfl,rfl,_,rfl,?_⟩;by_cases he:A2 (AJ ts) j s0=s0
  ·refine Ep (iv he) ?_;have hj:j=BU (AJ ts) s0:=by
    rcases j6 j (BU (AJ ts) s0) with z | z
    ·exact absurd he (PE.2.2 j j1 z)
    ·omega
   subst hj;refine⟨_,rfl,l,_,rfl,.inl ⟨AR.of hl2,λp hp=>?_⟩⟩;exact q p _ (sm.trans (AY hp _)) (sm.free hp) AU
  ·refine Hk (Dj he) ?_;have hj:j<BU (AJ ts) s0:=by
    rcases j6 j (BU (AJ ts) s0) with z | z
    ·exact z
    ·exact absurd (by rw[show j=BU (AJ ts) s0 by omega]; exact PE.2.1) he
   have hpl:=UC PM hs;have hlen:(Cn (AJ ts) s0 j).length=j:=Le;refine⟨_,rfl,.inl ⟨rfl,_,AR.of hl2⟩,_,rfl,l,_,_,rfl,rfl,hl2,by rw[ja,hlen]; exact Ce (by omega),?_⟩;have sm2:=sm.up hl (.AD ((Cn (AJ ts) s0 j).map V.int++[.int (A2 (AJ ts) j s0)]));refine⟨_,rfl,_,rfl,_,rfl,d,_,rfl,IH (sm2 _ _ hd) (T.Kp (D3 PM hs j)),?_⟩;refine⟨⟨j+1,by omega,hj,rfl,sm2,?_⟩,?_⟩
   ·rw[AU,QY,jH];rfl
   ·rw[AU,hl2];show BU (AJ ts) s0-((Cn (AJ ts) s0 j).map V.int++[V.int (A2 (AJ ts) j s0)]).length<BU (AJ ts) s0-((Cn (AJ ts) s0 j).map V.int).length;rw[jw,ja,hlen,kX];omega
 ·rintro σ H2 Q1 Q2 hq ⟨v,e,v',e',sc,b,eb,z⟩;exact⟨v,e,v',e',sc,b,eb,hq _ _ z⟩
def HW(H:Hp)(bs:List Addr)(R:List (List Int)):Prop:=bs.length=R.length/\∀(i:Nat) (b:Addr) (row:List Int),bs[i]?=some b->R[i]?=some row->H b=some (.AG (row.map V.int))
theorem HW.snoc{H H':Hp}{bs:List Addr}{R:List (List Int)}{b:Addr}{row:List Int}(h:HW H bs R)(s:∀c ys,H c=some (.AG ys)->H' c=some (.AG ys))(hb:H' b=some (.AG (row.map V.int))):HW H' (bs++[b]) (R++[row]):=by
 refine⟨by rw[jw,jw,h.1]; rfl,λi c r e1 e2=>?_⟩;rcases j6 i bs.length with z | z
 ·rw[jM z] at e1;rw[jM (by rw[<-h.1]; exact z)] at e2;exact s _ _ (h.2 i c r e1 e2)
 ·have hi:i<bs.length+1:=by
   have:=(jc.mp e1).1
   rw[jw] at this;exact this
  have hi2:i=bs.length:=by omega
  subst hi2;rw[jy (jj _),nM] at e1;rw[h.1,jy (jj _),nM] at e2;cases e1;cases e2;exact hb
theorem HW.keep{H H':Hp}{bs:List Addr}{R:List (List Int)}(h:HW H bs R)(s:∀c ys,H c=some (.AG ys)->H' c=some (.AG ys)):HW H' bs R:=⟨h.1,λi b r e1 e2=>s _ _ (h.2 i b r e1 e2)⟩
theorem Bh.AG{x:Addr}{H H':Hp}(h:Bh x H H')(hx:∀ys,H x≠some (.AG ys)):∀c ys,H c=some (.AG ys)->H' c=some (.AG ys):=λc ys e=>h c _ (λz=>hx ys (z ▸ e)) e
theorem Qk{φ:Int->Int}{n:Nat}(PM:Hh φ n){i:Nat}(hi:i<=n):(Al φ i).flatten.length<=n/\(Al φ i).length<=n:=by
 have L:=Gs PM i hi;have inn:∀x∈(Al φ i).flatten,AF n x:=λx hx=>by
  obtain⟨r,hr,hx⟩:=jN.mp hx;obtain⟨s,hs,_,e,_⟩:=L.of r hr;subst e;exact Kg PM hs hx
 have h1:=GH n _ L.nd inn;refine⟨h1,jW ?_ h1⟩
 have:∀R:List (List Int),(∀r∈R,1<=r.length)->R.length<=R.flatten.length:=by
  intro R
  induction R with
  | nil=>intro _; exact jj _
  | cons r R ih =>
   intro h;have h2:=ih λr' hr'=>h r' (jX _ hr')
   have h3:=h r (kO ..);rw[j5,jw,ka];omega
 refine this _ λr hr=>?_
 obtain⟨s,hs,_,e,_⟩:=L.of r hr;subst e;exact mD (IB PM hs)
inductive RZ(vs:List V)(H:Hp)(Q:VK):Prop
 | mk (a:Addr) (bs:List Addr) (ts:List (List Int)) (n:Nat) (h_0:vs=[.ref a]) (h_1:Hw H a bs ts) (h_2:B4 n ts) (h_3:n<=1000) (h_4:∀p cs H',AN H H'->H p=none->H' p=some (.AG (cs.map V.ref))->HW H' cs (Al (AJ ts) n)->Q (.ref p) H'):RZ vs H Q
def OT:Sp:=λvs H Q _=>RZ vs H Q
theorem Ii:Ay ["turns","ahead","seen","lands","start","ring","end"] ["turns"] (Ao sRings):=A7
theorem Zp {f:Addr} {fd:kF} (F:Ar K "rings" "rings" sRings f fd) (G:Aj P w K mg base 1 "ends_ahead" ["turns"] SU)
  (G2:Aj P w K mg base 2 "ring_from" ["start","ahead"] Tu)
  (ml:mg "len" = none) (mr:mg "range" = none) (mt:mg "tuple" = none):An P w K mg base Av 3 f fd ["turns"] OT:=by
 refine F.BA Ii λcdv A outer s H vs Q E hr h=>?_
 obtain⟨a,bs,ts,n,rfl,hT,T,hn,q⟩:=h;have hu:=FD hr;have PM:=T.perm;refine⟨_,AO (AW (i:=1) Ii.nd rfl (jn rfl) (AZ G (hr.mono (by decide)) (AA (pv 0) AB)))
  (AO (AW (i:=2) Ii.nd rfl (jn rfl) KR)
  (AO (AW (i:=3) Ii.nd rfl (jn rfl) (Bz AB))
  (AO (CV j3 rfl (JO (by rfl) mr (AA (A3 Nb (by rfl) ml BN (AA (pv 1) AB)) AB)) (Af (i:=4) Ii.nd rfl (jn rfl))
   (AV (Bn (Kr (NX hu (pv 4) (pv 2)))
    (AO (AW (i:=5) Ii.nd rfl (jn rfl) (AZ G2 hr (AA (pv 4) (AA (pv 1) AB))))
    (AO (CV j3 rfl (Fj (pv 5)) (Af (i:=6) Ii.nd rfl (jn rfl)) (AV (GC hu (pv 2) (pv 6) Hi rfl)))
    (AV (C3 (CY K jT kf kg DY (pv 3) (AA (pv 5) AB)))))) CA)))
  (AV (Aq (CP FW (by rfl) mt CG (AA (pv 3) AB))))))),?_⟩
 refine⟨_,rfl,a,bs,ts,n,rfl,hT,T,hn,λd H1 s1 nd hd=>?_⟩;intro sn hsn;refine⟨by exact E4,λld hld=>?_⟩;have s2:AN H1 (AH H1 sn (.dK [])):=AY hsn _;have s3:AN (AH H1 sn (.dK [])) (AH (AH H1 sn (.dK [])) ld (.AD [])):=AY hld _;have dsn:d≠sn:=BP hd hsn;have lsn:ld≠sn:=λz=>by rw[z,AU] at hld; cases hld
 have dld:d≠ld:=BP (s2 _ _ hd) hld;have fsn:H sn=none:=s1.free hsn;have fld:H ld=none:=(s1.trans s2).free hld;have hlenA:(BG (Az ts)).length=n:=by rw[ja,T.gh]
 try dsimp only
 try refine Cw ?_
 first | refine Cv λUL1 hUL1=>?_ | refine nx_hide λUL1 hUL1=>?_
 refine⟨_,rfl,d,_,rfl,s3 _ _ (s2 _ _ hd),((BG (Az ts)).length:Int),rfl,by omega,by omega,?_⟩;rw[show(((BG (Az ts)).length:Int)).toNat=n by omega];refine LZ (n:=n) (λi σ H2=>∃st rg en cs,σ=[some (.ref a),some (.ref d),some (.ref sn),some (.ref ld),st,rg,en]/\AN H H2/\H2 d=some (.dK (BG (Az ts)))/\H2 sn=some (.dK (J2 (Al (AJ ts) i).flatten)) /\
  H2 ld=some (.AD (cs.map V.ref))/\HW H2 cs (Al (AJ ts) i)) ⟨none,none,none,[],rfl,s1.trans (s2.trans s3),s3 _ _ (s2 _ _ hd),?_,AU,⟨rfl,λi b row e1 e2=>by simp at e1⟩⟩ ?_ ?_
 ·rw[Ad (lF lsn),AU];rfl
 ·rintro i σ H2 hi ⟨st,rg,en,cs,rfl,sm,hd2,hsn2,hld2,hR⟩;have hin:AF n (i:Int):=⟨by omega,by omega⟩;have L:=Gs PM i (by omega);refine⟨_,rfl,_,rfl,sn,_,rfl,DP.k (k:=j4 ((0:Int)+(i:Nat))) hsn2,_,rfl,?_⟩;rw[OM,show(0:Int)+(i:Nat)=(i:Int) by omega];by_cases hm:(i:Int)∈(Al (AJ ts) i).flatten
  ·rw[jq hm];have e0:=Xj hm;refine C9 ⟨_,_,_,cs,rfl,sm,hd2,?_,hld2,?_⟩
   ·rw[hsn2,e0]
   ·rw[e0];exact hR
  ·rw[jm hm];refine Ey ?_;have e1:=X8 hm;refine⟨_,rfl,_,rfl,(i:Int),d,ts,n,rfl,hd2,T,hn,hin,λr H3 s4 nr hr3=>?_⟩;have sm3:=sm.trans s4;have rsn:r≠sn:=λz=>by rw[z,hsn2] at nr; cases nr
   have ll:=Qk PM (i:=i+1) (by omega);rw[e1,kI,jw,jw] at ll;simp only[j5,qD,lC,kX] at ll
   try dsimp only
   try refine Cw ?_
   first | refine Cv λUL2 hUL2=>?_ | refine nx_hide λUL2 hUL2=>?_
   refine⟨_,rfl,r,rfl,⟨_,AK.of hr3⟩,?_⟩;refine JZ (xs:=(Ba (AJ ts) i).map V.int) (λk σ H4=>∃en,σ=[some (.ref a),some (.ref d),some (.ref sn),some (.ref ld),some (.int (i:Int)),some (.ref r),en]/\Bh sn H3 H4/\H4 sn=some (.dK (J2 ((Al (AJ ts) i).flatten++(Ba (AJ ts) i).take k))))
    ⟨en,rfl,Bh.refl _ _,by rw[rB,lC]; exact s4 _ _ hsn2⟩ (λk σ H4 _ ⟨_,_,sb,_⟩=>AK.of (sb _ _ rsn hr3)) ?_ ?_
   ·rintro k x σ H4 hx ⟨en4,rfl,sb,hs4⟩;obtain⟨e,rfl,he⟩:=Fh hx;have fr:e∉(Al (AJ ts) i).flatten++(Ba (AJ ts) i).take k:=by
     have nd2:=(Gs PM (i+1) (by omega)).nd;rw[e1] at nd2;have hii:(Al (AJ ts) i++[Ba (AJ ts) i])[(Al (AJ ts) i).length]?=some (Ba (AJ ts) i):=by
      rw[jy (jj _),nM];rfl
     have:=Lg nd2 hii he
     rw[List.take_append_of_le_length (jj _),lL] at this;exact this
    refine⟨_,rfl,_,rfl,sn,_,rfl,D5.k (k:=j4 e) hs4 ?_,?_⟩
    ·rw[ja,jw,kB];exact Ce (by omega)
    ·refine⟨_,rfl,sb.put _,?_⟩;rw[AU,aq fr,kN,C0 he]
   ·rintro σ H4 ⟨en4,rfl,sb,hs4⟩;subst hUL2;rw[ja,lL] at hs4;have hld4:H4 ld=some (.AD (cs.map V.ref)):=sb _ _ lsn (s4 _ _ hld2);refine⟨_,rfl,.inl ⟨rfl,_,AR.of hld4⟩,_,rfl,ld,_,_,rfl,rfl,hld4,by rw[ja,hR.1]; exact Ce (by omega),?_⟩;have tups:∀c ys,H3 c=some (.AG ys)->(AH H4 ld (.AD (cs.map V.ref++[.ref r]))) c=some (.AG ys):=λc ys e=>by
     have n1:c≠sn:=λz=>by rw[z,s4 _ _ hsn2] at e; cases e
     have n2:c≠ld:=λz=>by rw[z,s4 _ _ hld2] at e; cases e
     rw[Ad n2];exact sb _ _ n1 e
    refine⟨_,_,_,cs++[r],rfl,?_,?_,?_,?_,?_⟩
    ·exact(sb.same sm3 fsn).up fld _
    ·rw[Ad dld];exact sb _ _ dsn (s4 _ _ hd2)
    ·rw[Ad (lF lsn),hs4,e1,kI];simp
    ·rw[AU,jH];rfl
    ·rw[e1];exact(hR.keep λc ys e=>s4 _ _ e).snoc tups (tups _ _ hr3)
 ·rintro σ H2 ⟨st,rg,en,cs,rfl,sm,hd2,hsn2,hld2,hR⟩;subst hUL1;refine⟨_,rfl,ld,_,rfl,.inl ⟨AR.of hld2,λp hp=>?_⟩⟩;exact q p cs _ (sm.trans (AY hp _)) (sm.free hp) AU (hR.keep λc ys e=>AY hp _ _ _ e)
def Nf:Sp:=λvs H Q _=>∃(a:Addr) (bs:List Addr) (ts:List (List Int)) (n:Nat),vs=[.ref a]/\Hw H a bs ts/\B4 n ts/\n<=1000 /\
 ∀p H',AN H H'->H p=none->H' p=some (.AG (((ju n).map λe:Nat=>(lk (CO 0 (Al (AJ ts) n)) (e:Int)).getD 0).map V.int))->Q (.ref p) H'
theorem LA:Ay ["turns","numbers","number","ring","end"] ["turns"] (Ao sLandOf):=A7
theorem fj:(["end","numbers"]:List Str).Nodup:=by decide +kernel
theorem ZP{R:List (List Int)}{j:Nat}{row:List Int}(h:R[j]?=some row)(k:Nat):((CO 0 (R.take j)++(row.take k).map λe=>(e,(j:Int))).map (·.1))=(R.take j).flatten++row.take k:=by
 rw[jH,FZ,kr];congr 1;exact xj (λ_=>rfl) _
theorem Zi{R:List (List Int)}{j:Nat}{row:List Int}(h:R[j]?=some row):CO 0 (R.take (j+1))=CO 0 (R.take j)++row.map λe=>(e,(j:Int)):=by
 have hj:j<R.length:=(jc.mp h).1;rw[C0 h,NT,kB,oj,wN (by omega)]
theorem Z8{R:List (List Int)}{i:Nat}{row:List Int}(h:R[i]?=some row)(j:Nat):((R.take i).flatten++row.take j).length<=R.flatten.length:=by
 obtain⟨hi,q1⟩:=jc.mp h;have e1:R=R.take i++row :: R.drop (i+1):=by rw[<-q1,mC,lN]
 have e2:R.flatten.length=(R.take i).flatten.length+(row.length+(R.drop (i+1)).flatten.length):=by
  conv=>lhs; rw[e1]
  rw[kI,j5,jw,jw]
 rw[e2,jw,kB];omega
theorem YO {D:Addr} {L:List (Int×Int)} {n:Nat} {H1:Hp} {acc:Addr} {G:Hp->Prop} {σ0:St} (hσ:σ0=[none,some (.ref D)]) (hD:H1 D=some (.dK (BG L))) (hl:∀e:Nat,e<n->∃v,lk L e=some v) (hn:n<=1000) (hacc:H1 acc=none)
  (fin:∀H2,AN H1 H2->H2 acc=some (.AD (((ju n).map λe:Nat=>(lk L (e:Int)).getD 0).map V.int))->G H2) :
  ∃W:Nat->Nat->List V->St->Hp->Prop,(∃m,W 0 m [] σ0 (AH H1 acc (.AD [])))/\∀i m ys σc H2,W i m ys σc H2 →
  ((FQ 0 n).stop i H2/\G H2)\/((FQ 0 n).go i H2/\∀x H3,(FQ 0 n).Dv i H2 x H3->BR 0 x σc H3 λσ4 H4=>Mh (Ap 1) (Ap 0) σ4 H4 λv H5=>H5 acc=some (.AD ys)/\ys.length<jR/\∃m',m' < m/\W (i+1) m' (ys++[v]) σ4 (AH H5 acc (.AD (ys++[v])))):=by
 refine⟨λi m ys σc H2=>m=n-i/\i<=n/\AN H1 H2/\H2 acc=some (.AD ys)/\ys=((ju i).map λe:Nat=>(lk L (e:Int)).getD 0).map V.int/\∃u,σc=[u,some (.ref D)],⟨n,rfl,kH _,AY hacc _,AU,rfl,none,hσ⟩,?_⟩;rintro i m ys σc H2 ⟨rfl,hi,sm,ha,hys,u,rfl⟩;rcases j6 i n with hlt | hge
 ·refine .inr ⟨hlt,λx H3 yl=>?_⟩;obtain⟨rfl,rfl⟩:=yl;obtain⟨v,hv⟩:=hl i hlt;refine⟨_,rfl,_,rfl,D,.int v,rfl,?_,ha,?_,n-(i+1),by omega,rfl,hlt,?_,AU,?_,_,rfl⟩
  ·rw[show(0:Int)+(i:Nat)=(i:Int) by omega];exact IH (sm _ _ hD) hv
  ·rw[hys,ja,ja,jV];exact Ce (by omega)
  ·exact sm.up hacc _
  ·rw[hys,m9,jH,jH,jx,kR,hv];rfl
 ·obtain rfl:i=n:=by omega
  exact .inl ⟨jj _,fin H2 sm (by rw[ha,hys])⟩
theorem Yz {f:Addr} {fd:kF} (F:Ar K "land_of" "land_of" sLandOf f fd) (G:Aj P w K mg base 3 "rings" ["turns"] OT)
  (ml:mg "len" = none) (mr:mg "range" = none) (mt:mg "tuple" = none) (me:mg "enumerate" = none):An P w K mg base Av 4 f fd ["turns"] Nf:=by
 refine F.ok LA (λvs H Q E h=>?_) (λcdv A outer s H vs Q E hr h=>?_)
 ·obtain⟨a,bs,ts,n,rfl,_⟩:=h;rfl
 obtain⟨a,bs,ts,n,rfl,hT,T,hn,q⟩:=h;have hu:=FD hr;have PM:=T.perm;have nd:=HL PM;have flen:=XE PM;refine⟨_,AO (AW (i:=1) LA.nd rfl (om rfl) KR)
  (AO (CV j3 rfl (Ki (by rfl) me (AA (AZ G hr (AA (pv 0) AB)) AB)) (HV rfl (BI (Af (i:=2) LA.nd rfl (jn rfl)) (BI (Af (i:=3) LA.nd rfl (jn rfl)) Ck)))
   (AV (CV j3 rfl (Fj (pv 3)) (Af (i:=4) LA.nd rfl (jn rfl)) (AV (GC hu (pv 1) (pv 4) (pv 2) rfl)))))
  (AV (Aq (CP FW (by rfl) mt CG (AA (C1 (Nc:=["end","numbers"]) (cap:=[(1,1)]) (g:=BR 0) (te:=Mh (Ap 1) (Ap 0)) rfl (JO (by rfl) mr (AA (A3 Nb (by rfl) ml BN (AA (pv 1) AB)) AB))
   (CB rfl rfl (by decide +kernel) (by decide +kernel) (jv.mpr ⟨⟨rfl,rfl⟩,jr _⟩) rfl (jv.mpr ⟨⟨_,_,rfl,rfl,rfl,rfl,rfl⟩,jr _⟩))
   (λ_ _ _ _ _=>Af (i:=0) fj rfl (jn rfl)) (λ_ _ _ _ _=>ET hu (pv 1) (pv 0) (λ_ _=>rfl))) AB))))),?_⟩
 intro d hd;have s0:AN H (AH H d (.dK [])):=AY hd _;refine⟨_,rfl,a,bs,ts,n,rfl,hT.keep s0,T,hn,λrr cs H1 s1 nrr hrr hR=>?_⟩;have hd1:H1 d=some (.dK []):=s1 _ _ AU;refine⟨rr,_,rfl,hrr,?_⟩;refine KY (xs:=cs.map V.ref) (λj σ H2=>∃nu rg en,σ=[some (.ref a),some (.ref d),nu,rg,en]/\Bh d H1 H2/\H2 d=some (.dK (BG (CO 0 ((Al (AJ ts) n).take j))))) ⟨none,none,none,rfl,Bh.refl _ _,hd1⟩
  (λj σ H2 _ ⟨_,_,_,_,sb,_⟩=>sb _ _ (λz=>by rw[z,hd1] at hrr; cases hrr) hrr) ?_ ?_
 ·rintro j x σ H2 p hx ⟨nu,rg,en,rfl,sb,hd2⟩ hp;obtain⟨b,row,rfl,hb,hrow⟩:=U3 hR.1 hx;have hB1:=hR.2 j b row hb hrow;have bd:b≠d:=λz=>by rw[z,hd1] at hB1; cases hB1
  have s3:=AY hp (.AG [.int j,.ref b]);refine⟨p,_,rfl,AK.of AU,rfl,_,_,rfl,_,_,rfl,rfl,?_⟩;have hB3:=s3 _ _ (sb _ _ bd hB1);refine⟨_,rfl,b,rfl,⟨_,AK.of hB3⟩,?_⟩;refine JZ (xs:=row.map V.int) (λk σ H4=>∃en,σ=[some (.ref a),some (.ref d),some (.int j),some (.ref b),en]/\Bh d H1 H4/\H4 d=some (.dK (BG (CO 0 ((Al (AJ ts) n).take j)++(row.take k).map λe=>(e,(j:Int))))))
   ⟨en,rfl,sb.trans (AN.b s3),by rw[rB,kR,lC]; exact s3 _ _ hd2⟩ (λk σ H4 _ ⟨_,_,sb4,_⟩=>AK.of (sb4 _ _ bd hB1)) ?_ ?_
  ·rintro k x σ H4 hx4 ⟨en4,rfl,sb4,hd4⟩;obtain⟨e,rfl,he⟩:=Fh hx4;have ky:=ZP hrow k;refine⟨_,rfl,_,rfl,_,rfl,d,_,rfl,D5.k (k:=j4 e) hd4 ?_,?_⟩
   ·have l1:=congrArg m7 ky;rw[ja] at l1;rw[ja,l1]
    have:=Z8 hrow k
    exact Ce (by omega)
   ·refine⟨_,rfl,sb4.put _,?_⟩;rw[AU,HP (by rw[ky]; exact Lg nd hrow he),kN,C0 he,jH];rfl
  ·rintro σ H4 ⟨en4,rfl,sb4,hd4⟩;refine⟨_,_,_,rfl,sb4,?_⟩;rw[hd4,ja,lL,Zi hrow]
 ·rintro σ H2 ⟨nu,rg,en,rfl,sb,hd2⟩;rw[ja,jz (by rw[hR.1]; exact jj _)] at hd2;have sm:AN H H2:=sb.same (s0.trans s1) hd;have hlen:(BG (CO 0 (Al (AJ ts) n))).length=n:=by
   have:=congrArg m7 (FZ 0 (Al (AJ ts) n))
   rw[ja,flen] at this;rw[ja,this]
  refine⟨_,rfl,d,_,rfl,hd2,((BG (CO 0 (Al (AJ ts) n))).length:Int),rfl,by omega,by omega,λacc hacc=>?_⟩;rw[show(((BG (CO 0 (Al (AJ ts) n))).length:Int)).toNat=n by omega];refine YO rfl hd2 (λe he=>?_) hn hacc λH3 s3 h3=>?_
  ·refine Lx ?_;rw[FZ];exact(Ek PM).mpr ⟨by omega,by omega⟩
  ·exact⟨acc,_,rfl,.inl ⟨AR.of h3,λp hp=>q p _ ((sm.trans s3).trans (AY hp _)) ((sm.trans s3).free hp) AU⟩⟩
abbrev AQ:Type:=Nat×Nat×Rat
structure EX(q:Rat):Prop where
 pos:0<q.num
 top:q.num<1000
 jG:(q.den:Int)<1000
variable {f g h f1 f2 f3 f4:Addr} {fd gd hd d1 d2 d3 d4:kF}
theorem dm{n:Nat}(h:2<=n):HT.Ak n n (some 2)=2:=by simp[HT.Ak]; omega
variable {C fI:Addr} {dI:kF}
structure Fe(H:Hp)(T:Addr)(bs:List Addr)(ts:List (List Int)):Prop where
 h1:H T=some (.AD (bs.map V.ref))
 rows:At B5 H bs ts
 nd:(T :: bs).Nodup
theorem Fe.keep{H H':Hp}{T:Addr}{bs:List Addr}{ts:List (List Int)}(M:Fe H T bs ts)(s:AN H H'):Fe H' T bs ts:=⟨s _ _ M.h1,M.rows.keep ER s,M.nd⟩
theorem Fe.put{H:Hp}{T b:Addr}{bs:List Addr}{ts:List (List Int)}{i:Nat}{t:List Int}(M:Fe H T bs ts)(hb:bs[i]?=some b):Fe (AH H b (.AD (t.map V.int))) T bs (ts.set i t):=by
 have bm:b∈bs:=jd hb;obtain⟨n1,n2⟩:=kJ.mp M.nd;have e1:T≠b:=λz=>n1 (by rw[z]; exact bm)
 refine⟨by rw[Ad e1]; exact M.h1,⟨by rw[mI]; exact M.rows.1,λk c x q1 q2=>?_⟩,M.nd⟩;by_cases hk:i=k
 ·subst hk;rw[hb] at q1;cases q1;have hl:i<ts.length:=by rw[<-M.rows.1]; exact(jc.mp hb).1
  rw[ko hl] at q2;cases q2;exact AU
 ·rw[kh hk] at q2;have ne:c≠b:=λz=>hk (Vo n2 hb (by rw[q1,z]))
  show AH H b _ c=_;rw[Ad ne];exact M.rows.2 k c x q1 q2
def EJ(hs:List Nat)(i:Nat):List Int:=((ju hs.length).filter λe=>decide (hs[e]?=some i)).map (λe:Nat=>(e:Int))
theorem Xs(hs:List Nat)(p i:Nat):EJ (hs++[p]) i=if p=i then EJ hs i++[(hs.length:Int)] else EJ hs i:=by
 unfold EJ;rw[jw,kX,m9,pR,jH];have e1:(ju hs.length).filter (λe=>decide ((hs++[p])[e]?=some i))=(ju hs.length).filter λe=>decide (hs[e]?=some i) :=
  List.filter_congr λx hx=>by rw[jM (jZ.mp hx)]
 have e2:(hs++[p])[hs.length]?=some p:=by simp
 rw[e1];by_cases h:p=i
 ·rw[jq h,tQ (by rw[e2,h]; simp)]; rfl
 ·rw[jm h,tP (by rw[e2]; simpa using h)]; simp
theorem YN{hs:List Nat}{i:Nat}{x:Int}:x∈EJ hs i↔0<=x/\hs[x.toNat]?=some i:=by
 unfold EJ;rw[js];constructor
 ·rintro⟨e,he,rfl⟩;rw[oK] at he;exact⟨by omega,by simpa using he.2⟩
 ·rintro⟨h0,h1⟩;refine⟨x.toNat,oK.mpr ⟨jZ.mpr (jc.mp h1).1,by simpa using h1⟩,by omega⟩
theorem Zf(hs:List Nat)(i:Nat):(EJ hs i).Pairwise (· < ·):=by
 unfold EJ;rw[lP];refine nj (λh=>by omega) (mq.filter _ (oP))
def CJ(rs:List AQ):List Nat:=rs.flatMap λr=>[r.1,r.2.1]
def hm(rs:List AQ):List Nat:=CJ rs++[0,1]
theorem ES:∀rs:List AQ,(CJ rs).length=2*rs.length
 | []=>rfl
 | r :: rs=>by show(r.1 :: r.2.1 :: CJ rs).length=_; simp[ES rs]; omega
theorem c8(rs:List AQ):(hm rs).length=2*rs.length+2:=by unfold hm; rw[jw,ES]; rfl
theorem Lm(rs:List AQ)(r:AQ):CJ (rs++[r])=CJ rs++[r.1]++[r.2.1]:=by unfold CJ; simp
structure NetV(n:Nat)(rs:List AQ)(ts:List (List Int)):Prop where
 m1:1<=rs.length
 m14:rs.length<=14
 n2:2<=n
 n15:n<=15
 len:ts.length=n
 tn:B4 (2*rs.length+2) ts
 ne:∀t∈ts,t≠[]
 ease:∀r∈rs,EX r.2.2/\r.1<n/\r.2.1<n
 Cb:∀(p:Nat) (t:List Int),ts[p]?=some t->∀x:Int,x∈t->(hm rs)[x.toNat]?=some p
 Cp:∀S:Nat->Prop,S 0->(∀r∈rs,(S r.1↔S r.2.1))->∀p,p<n->S p
theorem Lp{ts:List (List Int)}{t:List Int}(h:t∈ts):t.length<=ts.flatten.length:=by
 obtain⟨A,B,rfl⟩:=rO h;simp; omega
theorem NetV.tlen{n:Nat}{rs:List AQ}{ts:List (List Int)}(k:NetV n rs ts){t:List Int}(h:t∈ts):t.length<=30:=by
 have:=Lp h
 rw[k.tn.len] at this
 have:=k.m14
 omega
theorem Uu{ts:List (List Int)}{t:List Int}(nd:ts.flatten.Nodup)(h:t∈ts):t.Nodup:=by
 obtain⟨A,B,rfl⟩:=rO h;rw[kI,j5,lj,lj] at nd;exact nd.2.1.1
theorem NetV.perm{n:Nat}{rs:List AQ}{ts:List (List Int)}(k:NetV n rs ts){p:Nat}{t:List Int}(h:ts[p]?=some t):t.Perm (EJ (hm rs) p):=by
 have tm:=jd h;refine(pC (Uu k.tn.nd tm) ((Zf _ _).imp λh=>by omega)).mpr λx=>?_
 rw[YN];constructor
 ·intro hx;exact⟨((k.tn.mem x).mp (jN.mpr ⟨t,tm,hx⟩)).1,k.Cb p t h x hx⟩
 ·rintro⟨h0,h1⟩;have hl:=(jc.mp h1).1;rw[c8] at hl;obtain⟨t',ht',hx⟩:=jN.mp ((k.tn.mem x).mpr ⟨h0,by omega⟩);obtain⟨j,hj,e⟩:=jP ht';have hj2:ts[j]?=some t':=by rw[jb hj,e]
  have:=k.Cb j t' hj2 x hx
  rw[h1] at this;obtain rfl:p=j:=jL this;rw[h] at hj2;cases hj2;exact hx
variable {f5 f6:Addr} {d5 d6:kF}
theorem fJ{H H':Hp}{a:Addr}{ts:List (List Int)}(s:AN H H')(h:A4 BV H a ts):A4 BV H' a ts:=EU (R:=BV) (λs h=>Dy s h) s h
theorem OW{H:Hp}{T:Addr}{bs:List Addr}{ts:List (List Int)}{p:Nat}{t:List Int}(M:Fe H T bs ts)(h:ts[p]?=some t):∃b,bs[p]?=some b/\b∈bs/\Bv (bs.map V.ref) ((p:Nat):Int)=some (.ref b)/\H b=some (.AD (t.map V.int)):=by
 obtain⟨b,hb,hB⟩:=M.rows.get h;exact⟨b,hb,jd hb,Bc (DD hb),hB⟩
theorem Lr{x:Int}:∀{t:List Int},x∈t->∃u1 u2,t=u1++x :: u2/\x∉u1
 | a :: t,h=>by
  by_cases e:x=a
  ·subst e; exact⟨[],t,rfl,by simp⟩
  ·rcases jK.mp h with z | z
   ·exact absurd z e
   ·obtain⟨u1,u2,rfl,n⟩:=Lr z;exact⟨a :: u1,u2,rfl,by simp[e,n]⟩
theorem L0{x:Int}{u2:List Int}:∀{u1:List Int},x∉u1->(u1++x :: u2).idxOf x=u1.length
 | [],_=>by simp
 | a :: u,h=>by
  have e:a≠x:=λz=>h (by rw[z]; exact kO ..)
  have:=L0 (u2:=u2) (u1:=u) (λz=>h (jX _ z))
  rw[nz,tU,this,show(a == x)=false from beq_false_of_ne e];rfl
theorem Rk{x y:Int}{u:List Int}(h:x∉u):(u.map λz=>if z=x then y else z)=u:=by
 conv=>rhs; rw[<-List.map_id u]
 refine lX λz hz=>?_
 have:z≠x:=λq=>h (by rw[<-q]; exact hz)
 rw[jm this]; rfl
theorem TN{x y:Int}{t:List Int}(nd:t.Nodup)(h:x∈t):t.set (t.idxOf x) y=t.map λz=>if z=x then y else z:=by
 obtain⟨u1,u2,rfl,n1⟩:=Lr h;rw[L0 n1,uw _ _ (jj _),nM,List.set_cons_zero,jH,jx,jq rfl,Rk n1];rw[lj,kJ] at nd;rw[Rk nd.2.1.1]
theorem _root_.Mth.Gn.at{ts:List (List Int)}{hs:List Nat}(g:Gn ts hs){x:Int}(h:AF hs.length x):∃p t,ts[p]?=some t/\x∈t/\hs[x.toNat]?=some p:=by
 obtain⟨t,ht,hx⟩:=jN.mp ((g.mem x).mpr h);obtain⟨p,hp,e⟩:=jP ht;have h2:ts[p]?=some t:=by rw[jb hp,e]
 exact⟨p,t,h2,hx,g.Cb p t h2 x hx⟩
theorem N7(φ:Int->Int)(s:Int)(i:Nat):∀k,A2 φ k (A2 φ i s)=A2 φ (k+i) s
 | 0=>by rw[oj]; rfl
 | k+1=>by
  rw[show k+1+i=(k+i)+1 by omega];show φ (A2 φ k (A2 φ i s))=φ (A2 φ (k+i) s);rw[N7 φ s i k]
theorem Xy{φ:Int->Int}{n:Nat}(PM:Hh φ n){s a b:Int}(hs:AF n s)(ha:a∈Ba φ s)(hb:b∈Ba φ s):∃k,A2 φ k a=b:=by
 obtain⟨i,hi,rfl⟩:=Dx.mp ha;obtain⟨j,hj,rfl⟩:=Dx.mp hb;have pp:=Fi PM hs;refine⟨(BU φ s-i)+j,?_⟩;have e:A2 φ (BU φ s-i) (A2 φ i s)=s:=by rw[N7,show BU φ s-i+i=BU φ s by omega]; exact pp.2.1
 rw[show BU φ s-i+j=j+(BU φ s-i) by omega,<-N7,e]
theorem N0{ts:List (List Int)}{hs:List Nat}(g:Gn ts hs){p:Nat}{t:List Int}(h:ts[p]?=some t):t.length<=hs.length:=by
 have:=Lp (jd h)
 rwa [g.Dm.len] at this
theorem _root_.Mth.Gn.tsl{ts:List (List Int)}{hs:List Nat}(g:Gn ts hs):ts.length<=hs.length:=by have:=g.few; omega
theorem gn{R:List Int}(h:0<R.length)(c:Int):∃a,a∈R/\Bv (R.map V.int) (c % (((R.map V.int).length:Nat):Int))=some (.int a):=by
 rw[ja];have h0:(0:Int)<(R.length:Int):=by omega
 have c0:=k9 c (m8 h0);have c1:=lq c h0;generalize c % (R.length:Int)=d at c0 c1;have hd:d.toNat<R.length:=by omega
 refine⟨R[d.toNat],kU hd,?_⟩
 have:=Bc (xs:=R.map V.int) (Ob (jb hd))
 rwa [show((d.toNat:Nat):Int)=d by omega] at this
theorem HN:∀{rs:List AQ} {k:Nat} {r:AQ},rs[k]?=some r->(CJ rs)[2*k]?=some r.1/\(CJ rs)[2*k+1]?=some r.2.1
 | r0 :: rs,0,r,h=>by cases h; exact⟨rfl,rfl⟩
 | r0 :: rs,k+1,r,h=>by
  have:=HN (rs:=rs) (k:=k) (r:=r) (by simpa using h)
  rw[show 2*(k+1)=2*k+1+1 by omega];exact this
theorem Zz{H:Hp}{b c:Addr}{ys:List V}{o:HO}{r:AQ}(hb:H b=some (.AD ys))(h:BW H c r):BW (AH H b o) c r:=by
 obtain⟨e,h1,h2⟩:=h;refine⟨e,by rw[Ad (λz=>by rw[z,hb] at h1; cases h1)]; exact h1,?_⟩;unfold AS at h2 ⊢;rw[Ad (λz=>by rw[z,hb] at h2; cases h2)]; exact h2
theorem JL{H:Hp}{b:Addr}{ys:List V}{o:HO}{cs:List Addr}{rs:List AQ}(hb:H b=some (.AD ys))(h:At BW H cs rs):At BW (AH H b o) cs rs:=⟨h.1,λi c r e1 e2=>Zz hb (h.2 i c r e1 e2)⟩
theorem Xp{ts us:List (List Int)}(h:ts.Perm us):(Az ts).Perm (Az us):=by
 unfold Az;exact(h.map BB).flatten
theorem S8{ts us:List (List Int)}(h:ts.Perm us)(nd:ts.flatten.Nodup){x:Int}(hx:x∈ts.flatten):pr us x=pr ts x :=
 DS (h.flatten.nodup_iff.mp nd) ((Xp h).mem_iff.mp (GG nd hx))
theorem Xx{n:Nat}{π:Nat->Nat}(into:∀p,p<n->π p<n)(inv:∃τ:Nat->Nat,∀q,q<n->τ q<n/\π (τ q)=q)(inj:∀p q,p<n->q<n->π p=π q->p=q):((ju n).map π).Perm (ju n):=by
 obtain⟨τ,hτ⟩:=inv;refine(pC ?_ lK).mpr λx=>?_
 ·rw[nU,lP];refine pP (λ{a b} ha hb hab e=>?_) (lK (n:=n));exact hab (inj a b (jZ.mp ha) (jZ.mp hb) e)
 ·rw[js,jZ];constructor
  ·rintro⟨p,hp,rfl⟩;exact into p (jZ.mp hp)
  ·intro hx;exact⟨τ x,jZ.mpr (hτ x hx).1,(hτ x hx).2⟩
theorem Q3(us:List (List Int)):(ju us.length).map (λq=>us.getD q [])=us:=by
 refine tj (by simp) λi h1 h2=>?_
 simp[ve,h2]
structure Ws(n m:Nat)(π:Nat->Nat)(ρ:Int->Int):Prop where
 p0:π 0=0
 p1:π 1=1
 pin:∀p,p<n->π p<n
 WM:∃τ:Nat->Nat,∀q,q<n->τ q<n/\π (τ q)=q
 gY:∀p q,p<n->q<n->π p=π q->p=q
 rin:∀x,AF (2*m+2) x->AF (2*m+2) (ρ x)
 rinv:∃σ:Int->Int,∀x,AF (2*m+2) x->AF (2*m+2) (σ x)/\ρ (σ x)=x
 rinj:∀x y,AF (2*m+2) x->AF (2*m+2) y->ρ x=ρ y->x=y
 r0:ρ 0=2*(m:Int)
 roth:∀x,AF (2*m+2) x->AM (ρ x)=ρ (AM x)
theorem dW {ts:List (List Int)} {hs:List Nat} {m:Nat} {rs:List AQ} {us:List (List Int)} {π:Nat->Nat} {ρ:Int->Int} (g:Gn ts hs) (hl:hs.length=2*m+2) (h14:m<=14) (hr:rs.length=m) (hu:us.length=ts.length) (R:Ws ts.length m π ρ)
  (rot:∀(p:Nat) (t:List Int),ts[p]?=some t->∃u,us[π p]?=some u/\EB (t.map ρ) u)
  (hom:∀x,AF (2*m+2) x->(hm rs)[(ρ x).toNat]?=(hs[x.toNat]?).map π) (ease:∀r∈rs,EX r.2.2):NetV ts.length rs us/\LO us m:=by
 have n4:=g.n4;have few:=g.few;obtain⟨τ,hτ⟩:=R.WM;obtain⟨σ,hσ⟩:=R.rinv;have inx:∀x∈ts.flatten,AF (2*m+2) x:=λx hx=>by have:=(g.mem x).mp hx; rwa [hl] at this
 obtain⟨nd',pm'⟩:=VC (ts:=ts) (ρ:=ρ) g.nd (λx hx y hy=>R.rinj x y (inx x hx) (inx y hy));have perm:((ju ts.length).map λp=>us.getD (π p) []).Perm us:=by
  have:=(Xx R.pin R.WM R.gY).map (λq=>us.getD q [])
  rw[kr,<-hu,Q3 us,hu] at this;exact this
 have lw:(ts.map λt=>t.map ρ).length=((ju ts.length).map λp=>us.getD (π p) []).length:=by simp
 have rw1:∀(i:Nat) (t u:List Int),(ts.map λt=>t.map ρ)[i]?=some t->((ju ts.length).map λp=>us.getD (π p) [])[i]?=some u->EB t u:=by
  intro i t u h1 h2;rw[ji] at h1;cases e:ts[i]? with
  | none=>rw[e] at h1; cases h1
  | some t0 =>
   rw[e] at h1;cases h1;have hi:i<ts.length:=(jc.mp e).1;rw[ji,kE hi] at h2;cases h2;obtain⟨u,hu1,hu2⟩:=rot i t0 e;show EB (t0.map ρ) (us.getD (π i) []);rw[je,hu1];exact hu2
 obtain⟨nd1,pr1⟩:=SJ nd' lw rw1;have pf:=Lc lw rw1;have nd2:us.flatten.Nodup:=perm.flatten.nodup_iff.mp nd1;have mem2:∀x,x∈us.flatten↔AF (2*m+2) x:=by
  intro x;rw[<-perm.flatten.mem_iff,<-pf.mem_iff,Gw,js];constructor
  ·rintro⟨y,hy,rfl⟩;exact R.rin y (inx y hy)
  ·intro hx;obtain⟨s1,s2⟩:=hσ x hx;exact⟨_,(g.mem _).mpr (by rw[hl]; exact s1),s2⟩
 have T:B4 (2*m+2) us:=⟨nd2,mem2,by omega⟩;have pr2:∀y,AF (2*m+2) y->pr us (ρ y)=ρ (pr ts y):=by
  intro y hy;have hy1:y∈ts.flatten:=(g.mem y).mpr (by rw[hl]; exact hy);have hy2:ρ y∈(ts.map λt=>t.map ρ).flatten:=by rw[Gw]; exact js.mpr ⟨y,hy1,rfl⟩
  rw[S8 perm nd1 (pf.mem_iff.mp hy2),pr1 _ hy2,pm' y hy1]
 have back:∀{q:Nat} {u:List Int},us[q]?=some u->∃p t,p<ts.length/\ts[p]?=some t/\π p=q/\EB (t.map ρ) u:=by
  intro q u h;have hq:q<ts.length:=by rw[<-hu]; exact(jc.mp h).1
  obtain⟨t1,t2⟩:=hτ q hq;obtain⟨u',h1,h2⟩:=rot (τ q) _ (jb t1);rw[t2,h] at h1;cases h1;exact⟨τ q,_,t1,jb t1,t2,h2⟩
 have home_lt:∀{x:Int} {p:Nat},AF (2*m+2) x->hs[x.toNat]?=some p->p<ts.length:=by
  intro x p hx h;obtain⟨p',t,h1,_,h2⟩:=g.at (x:=x) (by rw[hl]; exact hx);rw[h] at h2;cases h2;exact(jc.mp h1).1
 have hs_at:∀{x:Int},AF (2*m+2) x->∃p,hs[x.toNat]?=some p:=λ{x} hx=>by
  obtain⟨p',t,_,_,h2⟩:=g.at (x:=x) (by rw[hl]; exact hx);exact⟨p',h2⟩
 have hm_lt:∀{y:Int} {q:Nat},AF (2*m+2) y->(hm rs)[y.toNat]?=some q->q<ts.length:=by
  intro y q hy h;obtain⟨s1,s2⟩:=hσ y hy;obtain⟨p,hp⟩:=hs_at s1
  have:=hom _ s1
  rw[s2,h,hp] at this;cases this;exact R.pin p (home_lt s1 hp)
 have rope_at:∀{k:Nat} {r:AQ},rs[k]?=some r->(hm rs)[((2*k:Nat):Int).toNat]?=some r.1/\(hm rs)[((2*k+1:Nat):Int).toNat]?=some r.2.1:=by
  intro k r h;have hk:k<rs.length:=(jc.mp h).1;obtain⟨a1,a2⟩:=HN h;unfold hm;have l0:=ES rs;exact⟨by rw[kQ,jM (by rw[l0]; omega)]; exact a1,by rw[kQ,jM (by rw[l0]; omega)]; exact a2⟩
 have nxr:∀x,AF (2*m+2) x->AJ us (ρ x)=ρ (AJ ts x):=λx hx=>by
  have ho:=CM (n:=2*m+2) (by omega) hx;rw[Bb,R.roth x hx,pr2 _ ho,Bb]
 have dz:Fy (AJ us) m:=by
  have d0:=g.du;rw[hl] at d0;exact dZ d0 (λx hx=>by have:=g.Dm.perm.into x (by rw[hl]; exact hx); rwa [hl] at this) R.rin R.rinv R.rinj R.r0 R.roth nxr
 have pz:CS us (2*m+2):=by
  have p0:=g.po;rw[hl] at p0;refine aL p0 (λx hx=>by have:=g.Dm.perm.into x (by rw[hl]; exact hx); rwa [hl] at this) (by omega) R.rin R.rinv R.rinj R.roth nxr λf bal t ht=>?_
  obtain⟨i,hi,e⟩:=jP ht;obtain⟨u,hu1,hu2⟩:=rot i t (by rw[jb hi,e])
  have:=Lo (hu2.perm.map f)
  rw[bal u (jd hu1),kr] at this;exact this
 refine⟨⟨by omega,by omega,g.two,by omega,hu,by rw[hr]; exact T,?_,?_,?_,?_⟩,dz,pz⟩
 ·intro u hu';obtain⟨q,hq,e⟩:=jP hu';obtain⟨p,t,_,ht,_,r⟩:=back (show us[q]?=some u by rw[jb hq,e]);intro z
  have:=r.perm.length_eq
  rw[z,ja] at this;exact g.ne t (jd ht) (qY (by simpa using this))
 ·intro r hr';obtain⟨k,hk,e⟩:=jP hr';obtain⟨a1,a2⟩:=rope_at (show rs[k]?=some r by rw[jb hk,e]);exact⟨ease r hr',hm_lt ⟨by omega,by push_cast; omega⟩ a1,hm_lt ⟨by omega,by push_cast; omega⟩ a2⟩
 ·intro q u hu' y hy;obtain⟨p,t,_,ht,eq,r⟩:=back hu';obtain⟨x,hx,rfl⟩:=js.mp (r.perm.mem_iff.mpr hy);have ix:=inx x (jN.mpr ⟨t,jd ht,hx⟩);rw[hom x ix,g.Cb p t ht x hx,<-eq];rfl
 ·intro S h0 hS q hq;obtain⟨t1,t2⟩:=hτ q hq;rw[<-t2];refine g.Cp (λp=>S (π p)) (by show S (π 0); rw[R.p0]; exact h0) (λk k1 p' q' e1 e2=>?_) _ t1;have hj:=(jc.mp e2).1;have i1:AF (2*m+2) ((2*k:Nat):Int):=⟨by omega,by push_cast; omega⟩;have i2:AF (2*m+2) ((2*k+1:Nat):Int):=⟨by omega,by push_cast; omega⟩;have o1:AM ((2*k:Nat):Int)=((2*k+1:Nat):Int):=by rw[Gy (by omega)]; push_cast; rfl
  have h1:=hom _ i1;have h2:=hom _ i2;rw[kQ,e1] at h1;rw[kQ,e2] at h2;have r1:=R.rin _ i1;have ro:=R.roth _ i1;rw[o1] at ro;have z0:AF (2*m+2) 0:=⟨by omega,by push_cast; omega⟩;have z1:AF (2*m+2) 1:=⟨by omega,by push_cast; omega⟩;have e01:ρ 1=2*(m:Int)+1:=by
   have:=R.roth 0 z0
   rw[R.r0,show AM 0=1 from rfl] at this;rw[<-this]
   have:=Gy (n:=2*m) (by omega)
   push_cast at this;exact this
  have n0:ρ ((2*k:Nat):Int)≠2*(m:Int):=λz=>by
   have:=R.rinj _ _ i1 z0 (z.trans R.r0.symm)
   omega
  have n1:ρ ((2*k:Nat):Int)≠2*(m:Int)+1:=λz=>by
   have:=R.rinj _ _ i1 z1 (z.trans e01.symm)
   omega
  obtain⟨y0,y1⟩:=r1;generalize ρ ((2*k:Nat):Int)=y at h1 ro n0 n1 y0 y1;generalize ρ ((2*k+1:Nat):Int)=y' at h2 ro;have hj2:y.toNat / 2<rs.length:=by omega
  obtain⟨a1,a2⟩:=rope_at (jb hj2);have hS':=hS _ (kU hj2);rw[kQ] at a1 a2;rcases r8 y.toNat with e | e
  ·have ey:y'=y+1:=by rw[<-ro]; unfold AM; rw[jq (by omega)]
   rw[show 2*(y.toNat / 2)=y.toNat by omega,h1] at a1;rw[show 2*(y.toNat / 2)+1=y'.toNat by omega,h2] at a2;have b1:π p'=rs[y.toNat / 2].1:=jL a1;have b2:π q'=rs[y.toNat / 2].2.1:=jL a2;show S (π p')↔S (π q');rw[b1,b2];exact hS'
  ·have ey:y'=y-1:=by rw[<-ro]; unfold AM; rw[jm (by omega)]
   rw[show 2*(y.toNat / 2)=y'.toNat by omega,h2] at a1;rw[show 2*(y.toNat / 2)+1=y.toNat by omega,h1] at a2;have b1:π q'=rs[y.toNat / 2].1:=jL a1;have b2:π p'=rs[y.toNat / 2].2.1:=jL a2;show S (π p')↔S (π q');rw[b1,b2];exact hS'.symm
inductive RK(vs:List V)(H:Hp)(Q:VK):Prop
 | mk (i:Int) (h_0:vs=[.int i]) (h_1:Q (.bl true) H):RK vs H Q
def OB:Sp:=λvs H Q _=>RK vs H Q
theorem gu:Ay ["_law_found"] ["_law_found"] (Ao sWhole):=A7
theorem ZQ(F:Ar K "_law_whole" "_law_whole" sWhole f fd)(ms:mg "isinstance" = none)(mi:mg "int" = none)(mb:mg "bool" = none):An P w K mg base Av 1 f fd ["_law_found"] OB:=by
 refine F.BA gu λcdv A outer s H vs Q E hr h=>?_
 obtain⟨i,rfl,q⟩:=h;refine⟨_,AV (Aq (MP (A3 (JP (c:=.ty "int") (cv:=.type "int") λ_ z=>z) (by rfl) ms JF (AA (pv 0) (AA (Jd (v:=.ty "int") (by rfl) mi Tt rfl) AB)))
  (Oa (cY (A3 (JP (c:=.ty "bool") (cv:=.type "bool") λ_ z=>z) (by rfl) ms JF (AA (pv 0) (AA (Jd (v:=.ty "bool") (by rfl) mb bg rfl) AB))))))),?_⟩
 refine⟨_,rfl,_,_,_,rfl,DQ.int i,KW K _,_,rfl,Ey ?_⟩;exact⟨_,rfl,_,_,_,rfl,DQ.int i,XI K,_,rfl,q⟩
inductive Ti(vs:List V)(H:Hp)(Q:VK):Prop
 | mk (p:Addr) (ns:List Int) (m:Int) (h_0:vs=[.ref p,.int m]) (h_1:H p=some (.AG (ns.map V.int))) (h_2:m=ns.length) (h_3:ns.length<=1000) (h_4:∀H',AN H H'->Q (.bl true) H'):Ti vs H Q
def Vp:Sp:=λvs H Q _=>Ti vs H Q
theorem gM:Ay ["_law_found","_law_many"] ["_law_found","_law_many"] (Ao s_law_row):=A7
theorem PR:(["_law_one"]:List Str).Nodup:=by decide +kernel
theorem dU (F : Ar K "_law_row" "_law_row" s_law_row f fd) (G : Aj P w K mg base 1 "_law_whole" ["_law_found"] OB) (ms : mg "isinstance" = none) (mt : mg "tuple" = none)
    (ml : mg "len" = none) (ma : mg "all" = none) : An P w K mg base Av 2 f fd ["_law_found", "_law_many"] Vp := by
  refine F.BA gM λcdv A outer s H vs Q E hr h => ?_
  obtain⟨p, ns, m, rfl, hp, rfl, hn, q⟩ := h;refine⟨_, AO (Bn (PW.pt (HY (IQ (GI (A3 (JP (c := .ty "tuple") (cv := .type "tuple") λ_ z => z) (by rfl) ms JF (AA (pv 0) (AA (Jd (v := .ty "tuple") (by rfl) mt CG rfl) AB)))))
        (Jk (BQ Eo (A3 (Be (K := K)) (by rfl) ml BN (AA (pv 0) AB)) (pv 1) (BJ _))))) (AV (Aq Hi)) CA)
    (AV (Aq (A3 (NW rfl) (by rfl) ma Of (AA (C1 (Nc := ["_law_one"]) (cap := []) (g := BR 0) (te := DT OB [] E0 (BO (Ap 0) CF)) rfl (Ib (K := K) (pv 0))
      (CB rfl rfl (by decide +kernel) (by decide +kernel) (jr _) rfl (jr _)) (λ_ _ _ _ _ => Af (i := 0) PR rfl (jn rfl)) (λ_ _ _ _ _ => AZ G hr (AA (pv 0) AB))) AB)))), ?_⟩
  refine⟨_, rfl, _, _, _, rfl, DQ.AG hp, KW K _, _, rfl, C9 ?_⟩;refine⟨_, rfl, p, _, rfl, .inr (AK.of hp), _, rfl, rfl, _, rfl, ?_⟩;refine Ep (by rw[ja]) ?_;refine⟨_, rfl, p, rfl, ⟨_, AK.of hp⟩, λacc hacc => ?_⟩;refine⟨λi m ys σc H2 => m = ns.length - i /\ i <= ns.length /\ AN H H2 /\ H2 acc = some (.AD ys) /\ ys = (jo i true).map V.bl /\ ∃u, σc = [u], ⟨ns.length, rfl, kH _, AY hacc _, AU, rfl, none, rfl⟩, ?_⟩;rintro i m ys σc H2 ⟨rfl, hi, sm, ha, hys, u, rfl⟩;rcases j6 i ns.length with hlt | hge
  · refine .inr ⟨⟨_, .int ns[i], AK.of (sm _ _ hp), Ob (jb hlt)⟩, λx H3 yl => ?_⟩;obtain⟨rfl, hx⟩ := yl;obtain⟨e, rfl, _⟩ := Fh (hx _ (AK.of (sm _ _ hp)));refine⟨_, rfl, e, rfl, ha, ?_, ns.length - (i + 1), by omega, rfl, hlt, sm.up hacc _, AU, ?_, _, rfl⟩
    · rw[hys, ja, oW];exact Ce (by omega)
    · rw[hys, nX, jH];rfl
  · obtain rfl : i = ns.length := by omega
    refine .inl ⟨⟨_, AK.of (sm _ _ hp), by rw[ja]; exact jj _⟩, ?_⟩;refine⟨acc, jo ns.length true, rfl, AR.of (by rw[ha, hys]), ?_⟩;rw[show(jo ns.length true).all id = true by simp];exact q H2 sm
theorem cU(a:Int):(if a<0 then -a else a)=(a.natAbs:Int):=by split <;> omega
theorem Zj{x y:Int}(hy:0<y):kL y (x % y)=kL x y:=by
 have:=Ri x y
 rwa [rX x (vc hy)] at this
theorem av{t b:Int}(ht:0<t)(ht2:t<1000)(hb:0<b)(hb2:b<1000):EX ((t:Rat) / (b:Rat)):=by
 have e:=FY t b (by omega);have l1:=Qy t b (by omega);have l2:=RC t b (by omega);have c:=QS t b;have d:=Rh t b (by omega);rw[e] at l1 l2 c d;dsimp only at l1 l2 c d;generalize ((t:Rat) / (b:Rat))=q at l1 l2 c d;have n0:0<q.num:=by
  rcases oU 0 q.num with h | h
  ·exact h
  ·have h1:0<t*(q.den:Int):=rG ht d;have h2:q.num*b<=0:=qj h (by omega);omega
 exact⟨n0,by omega,by omega⟩
theorem Mn:Ay ["_law_a","_law_b","_law_rest"] ["_law_a","_law_b"] (Ao s_law_divisor):=A7
inductive U8(vs:List V)(H:Hp)(Q:VK):Prop
 | mk (a b:Int) (h_0:vs=[.int a,.int b]) (h_1:0<=a) (h_2:0<=b) (h_3:Q (.int (kL a b:Int)) H):U8 vs H Q
def PN:Sp:=λvs H Q _=>U8 vs H Q
theorem X7(F:Ar K "_law_divisor" "_law_divisor" s_law_divisor f fd):An P w K mg base Av 1 f fd ["_law_a","_law_b"] PN:=by
 refine F.BA Mn λcdv A outer s H vs Q E hr h=>?_
 obtain⟨a,b,rfl,a0,b0,q⟩:=h;refine⟨_,AO (HJ j3 (BQ K4 (pv 1) AE (BJ _))
   (AO (AW (i:=2) Mn.nd rfl (jn rfl) (AL Bw (pv 0) (pv 1)))
   (AO (AW (i:=0) Mn.nd rfl (jn rfl) (pv 1))
   (AV (AW (i:=1) Mn.nd rfl (jn rfl) (pv 2))))))
  (AV (Aq (pv 0))),?_⟩
 refine Gz (λσ H2=>∃x y r,σ=[some (.int x),some (.int y),r]/\H2=H/\0<=x/\0<=y/\kL x y=kL a b) (λσ _=>match σ with | [_,some (.int y),_]=>y.natAbs | _=>0) ⟨_,_,none,rfl,rfl,a0,b0,rfl⟩ ?_ ?_
 ·rintro σ H2 ⟨x,y,r,rfl,rfl,x0,y0,gg⟩;refine⟨_,rfl,_,_,rfl,rfl,_,rfl,?_⟩;by_cases hy:0<y
  ·refine Cy hy ?_;have m0:=k9 x (m8 hy);have m1:=lq x hy;refine⟨_,rfl,_,rfl,_,_,rfl,rfl,hy,_,rfl,_,rfl,⟨y,x % y,some (.int (x % y)),rfl,rfl,y0,m0,(Zj hy).trans gg⟩,?_⟩;show(x % y).natAbs<y.natAbs;omega
  ·refine Ca hy ?_;have e:y=0:=by omega
   subst e;refine⟨_,rfl,?_⟩
   have:=Ss gg
   rw[jm (by omega)] at this;rw[this];exact q
 ·rintro σ H2 Q1 Q2 hq ⟨v,e,i,j,e1,e2,b,eb,z⟩;exact⟨v,e,i,j,e1,e2,b,eb,hq _ _ z⟩
inductive Oo(vs:List V)(H:Hp)(Q:VK):Prop
 | mk (t b:Int) (h_0:vs=[.int t,.int b]) (h_3:0<b) (h_4:BX b) (h_5:Mp H Q ((t:Rat) / (b:Rat))):Oo vs H Q
def Jt:Sp:=λvs H Q _=>Oo vs H Q
theorem WS:Ay ["_law_top","_law_bottom","_law_shared"] ["_law_top","_law_bottom"] (Ao sLFrac):=A7
theorem Zb(F:Ar K "_law_fraction" "_law_fraction" sLFrac f fd)(G:Aj P w K mg base 1 "_law_divisor" ["_law_a","_law_b"] PN)(ma:mg "abs" = none):
  An P w K mg base Av 2 f fd ["_law_top","_law_bottom"] Jt:=by
 refine F.BA WS λcdv A outer s H vs Q E hr h=>?_
 obtain⟨t,b,rfl,b0,hb,q⟩:=h;refine⟨_,AO (AW (i:=2) WS.nd rfl (jn rfl) (AZ G hr (AA (A3 Lj (by rfl) ma Oq (AA (pv 0) AB)) (AA (pv 1) AB))))
  (AV (Aq (BZ (AA (AL FX (pv 0) (pv 2)) (AA (AL FX (pv 1) (pv 2)) AB))))),?_⟩
 refine⟨_,rfl,t,rfl,_,rfl,_,b,rfl,by split <;> omega,by omega,?_⟩;rw[show kL (if t<0 then -t else t) b=kL t b by split; exact Int.neg_gcd; rfl];have ep:(kL t b:Int)=Mth.part t b:=by unfold Mth.part; rw[jm (by omega)]
 rw[ep];have hp:IZ t (Mth.part t b):=⟨Km t b (by omega),lI (SO t b (by omega)) hb⟩;refine⟨_,rfl,_,rfl,_,_,rfl,rfl,hp,_,rfl,_,rfl,_,_,rfl,rfl,hp,by exact B6,λp hp'=>?_⟩;have q1:=q p hp'
 have:=FY t b (by omega)
 unfold BS at this;rw[<-(rK this).1,<-(rK this).2] at q1;exact q1
inductive R9(vs:List V)(H:Hp)(Q:VK):Prop
 | mk (z m:Int) (h_0:vs=[.int z,.int m]) (h_2:0<m) (h_3:m<1000) (h_4:∀p H' q,AN H H'->AS H' p q->EX q->Q (.ref p) H'):R9 vs H Q
def SX:Sp:=λvs H Q _=>R9 vs H Q
theorem iF:Ay ["_law_c","_law_most"] ["_law_c","_law_most"] (Ao sLEase):=A7
theorem Zm(F:Ar K "_law_ease" "_law_ease" sLEase f fd)(G:Aj P w K mg base 2 "_law_fraction" ["_law_top","_law_bottom"] Jt):
  An P w K mg base Av 3 f fd ["_law_c","_law_most"] SX:=by
 refine F.BA iF λcdv A outer s H vs Q E hr h=>?_
 obtain⟨z,m,rfl,m0,m1,q⟩:=h;refine⟨_,AO (Bn (BQ Dc (AL Bw (pv 0) AE) AE (BJ _)) (AV (Aq (BZ (AA AE (AA AE AB))))) CA)
  (AO (Bn (BQ Dc (AL Bw (pv 0) AE) AE (BJ _))
   (AV (Aq (AZ G hr (AA (AL BL AE (AL Bw (AL EE (pv 0) AE) AE)) (AA (AL BL AE (AL Bw (AL EE (pv 0) AE) AE)) AB))))) CA)
  (AV (Aq (AZ G hr (AA (AL BL AE (AL Bw (AL EE (pv 0) AE) (pv 1))) (AA (AL BL AE (AL Bw (AL FX (AL EE (pv 0) AE) (pv 1)) (pv 1))) AB)))))),?_⟩
 have m3:(0:Int)<3:=by decide
 have d3:Mv z 3:=⟨by decide,by decide⟩;have hb:BX m:=Kn (n:=10) (by omega) (by decide);have gv:∀t b:Int,0<t->t<1000->0<b->b<1000->Jt [.int t,.int b] H Q E:=λt b t0 t1 b0 b1=>⟨t,b,rfl,b0,Kn (n:=10) (by omega) (by decide),λp hp=>q p _ _ (AY hp _) AU (av t0 t1 b0 b1)⟩
 refine⟨_,rfl,_,_,rfl,rfl,m3,rfl,_,rfl,?_⟩;refine LG (λ_=>?_) (λ_=>?_)
 ·refine⟨by exact B6,λp hp=>?_⟩;exact q p _ 1 (AY hp _) AU ⟨by decide,by decide,by decide⟩
 refine⟨_,rfl,_,_,rfl,rfl,m3,rfl,_,rfl,?_⟩;refine LG (λ_=>?_) (λ_=>?_)
 ·refine⟨_,rfl,_,_,rfl,rfl,d3,_,_,rfl,rfl,(show(0:Int)<9 by decide),_,_,rfl,rfl,_,rfl,_,_,rfl,rfl,⟨by decide,by decide⟩,_,_,rfl,rfl,(show(0:Int)<9 by decide),_,_,rfl,rfl,?_⟩;exact gv _ _ (by omega) (by omega) (by omega) (by omega)
 ·refine⟨_,rfl,_,_,rfl,rfl,d3,_,rfl,_,_,rfl,rfl,m0,_,_,rfl,rfl,_,rfl,_,_,rfl,rfl,d3,_,rfl,_,_,rfl,rfl,⟨by omega,hb⟩,_,rfl,_,_,rfl,rfl,m0,_,_,rfl,rfl,?_⟩;have a1:=k9 (z / 3) (m8 m0);have a2:=lq (z / 3) m0;have b1:=k9 ((z / 3).fdiv m) (m8 m0);have b2:=lq ((z / 3).fdiv m) m0;exact gv _ _ (by omega) (by omega) (by omega) (by omega)
inductive S4(K:jk)(vs:List V)(H:Hp)(Q:VK):Prop
 | mk (a:Addr) (ns:List Int) (least:Nat) (h_0:vs=[.ref a,.int (least:Int)]) (h_1:iZ K H a ns) (h_2:least<=100) (h_3:∀p (ms:List Int) H',AN H H'->H p=none->H' p=some (.AD (ms.map V.int))->(∀x∈ms,0<=x)->ms.length<=200->Q (.ref p) H'):S4 K vs H Q
def UT(K:jk):Sp:=λvs H Q _=>S4 K vs H Q
theorem Hr:Ay ["_law_script","_law_least","_law_as_they_stand","_law_made","_law_k","_law_cell","_law_one","_law_other"] ["_law_script","_law_least"] (Ao s_law_numbers):=A7
theorem Xq(F:Ar K "_law_numbers" "_law_numbers" s_law_numbers f fd)(ml:mg "len" = none)(mr:mg "range" = none)(mx:mg "max" = none)(mn:mg "min" = none)(ma:mg "abs" = none):An P w K mg base Av 1 f fd ["_law_script","_law_least"] (UT K):=by
 refine F.BA Hr λcdv A outer s H vs Q E hr h=>?_
 obtain⟨a,ns,least,rfl,⟨hS,hl⟩,hle,q⟩:=h;refine⟨_,AO (AW (i:=2) Hr.nd rfl (jn rfl) (MP (IJ K4 (A3 (Be (K:=K)) (by rfl) ml BN (AA (pv 0) AB)) AE (BJ _)) (Oa (IJ Dc (AL Bw (pL K (pv 0) AE) AE) AE (BJ _)))))
  (AO (AW (i:=3) Hr.nd rfl (jn rfl) (Bz AB))
  (AO (CV j3 rfl (JO (by rfl) mr (AA (A3 (YM rfl) (by rfl) mx Up (AA (AL BL (pv 1) AE) (AA (A3 (RD rfl) (by rfl) mn MK (AA AE (AA (A3 (Be (K:=K)) (by rfl) ml BN (AA (pv 0) AB)) AB))) AB))) AB)) (Af (i:=4) Hr.nd rfl (jn rfl))
   (AO (AW (i:=5) Hr.nd rfl (jn rfl) AE)
   (AO (Bn (BQ Ia (pv 4) (A3 (Be (K:=K)) (by rfl) ml BN (AA (pv 0) AB)) (BJ _)) (AV (AW (i:=5) Hr.nd rfl (jn rfl) (pL K (pv 0) (pv 4)))) CA)
   (AV (Bn (GI (pv 2))
    (AV (C3 (CY K jT kf kg DY (pv 3) (AA (A3 Lj (by rfl) ma Oq (AA (pv 5) AB)) AB))))
    (AO (AW (i:=6) Hr.nd rfl (jn rfl) (AL Bw (AL BL (AL Bt (AL Bw (pv 5) (AL UI AE AE)) AE) (AL Bt AE (AL BL (pv 4) AE))) AE))
    (AO (AW (i:=7) Hr.nd rfl (jn rfl) (AL Bw (AL BL (AL Bt (pv 6) AE) (AL Bt AE (AL BL (pv 4) AE))) AE))
    (AV (C3 (CY K jT kf kg DY (pv 3) (AA (AL BL (AL Bt (AL Bw (AL Bt (pv 6) AE) AE) AE) (pv 7)) AB)))))))))))
  (AV (Aq (EC (QH (K:=K)) (pv 3) (D0 AE) EO))))),?_⟩
 refine Rt (G:=λσ H2=>H=H2/\∃b,σ=[some (.ref a),some (.int (least:Int)),some (.bl b),none,none,none,none,none]) (λr=>?_) ?_
 ·refine⟨_,rfl,a,_,rfl,.inl hS,_,_,rfl,rfl,_,rfl,?_⟩;rcases nI ns.length with z | z
  ·refine Ca (by rw[ja]; omega) ?_;exact r _ _ ⟨rfl,_,rfl⟩
  ·refine Cy (by rw[ja]; omega) ?_;have e:Bv (ns.map V.int) 0=some (.int ns[0]):=Bc (j:=0) (by rw[ji,jb z]; rfl);refine⟨_,rfl,a,_,_,_,rfl,rfl,hS,e,_,_,rfl,rfl,(show(0:Int)<2 by decide),rfl,?_⟩;exact r _ _ ⟨rfl,_,rfl⟩
 rintro σ _ ⟨rfl,b,rfl⟩;refine⟨by exact E4,λL hL=>?_⟩;obtain⟨H1,zg,sL,zz⟩:=nw hL (.AD []);rw[zg];have eL:H1 L=some (.AD ([].map V.int)):=zz
 try dsimp only
 try refine Cw ?_
 first | refine Cv λUL3 hUL3=>?_ | refine nx_hide λUL3 hUL3=>?_
 refine⟨_,rfl,_,_,rfl,rfl,_,rfl,a,_,rfl,.inl (sL.seq hS),_,_,rfl,_,_,rfl,_,rfl,?_,?_,?_⟩
 ·split <;> omega
 ·rw[ja]; split <;> split <;> omega
 have hN:(if (if (((ns.map V.int).length:Nat):Int)<63 then (((ns.map V.int).length:Nat):Int) else 63) > (least:Int)+1 then (if (((ns.map V.int).length:Nat):Int)<63 then (((ns.map V.int).length:Nat):Int) else 63) else (least:Int)+1).toNat<=164:=by
  rw[ja]; split <;> (try split) <;> omega
 generalize (if (if (((ns.map V.int).length:Nat):Int)<63 then (((ns.map V.int).length:Nat):Int) else 63) > (least:Int)+1 then (if (((ns.map V.int).length:Nat):Int)<63 then (((ns.map V.int).length:Nat):Int) else 63) else (least:Int)+1).toNat=N at hN;refine LZ (n:=N) (λi σ H2=>∃u1 u2 u3 u4 ms,σ=[some (.ref a),some (.int (least:Int)),some (.bl b),some (.ref L),u1,u2,u3,u4]/\AN H H2/\H2 L=some (.AD ((ms:List Int).map V.int))/\(∀x∈ms,0<=x)/\ms.length=i)
  ⟨none,none,none,none,[],rfl,sL,eL,by simp,rfl⟩ ?_ ?_
 ·rintro i σ H2 hi ⟨u1,u2,u3,u4,ms,rfl,s2,e2,p2,l2⟩;refine TC (Vj (Rt (G:=λσ H3=>H2=H3/\∃z:Int,σ=[some (.ref a),some (.int (least:Int)),some (.bl b),some (.ref L),some (.int ((0:Int)+(i:Nat))),some (.int z),u3,u4]) (λr=>?_) ?_))
  ·refine⟨_,rfl,_,rfl,a,_,rfl,.inl (s2.seq hS),_,_,rfl,rfl,_,rfl,?_⟩;by_cases hk:(0:Int)+(i:Nat)<(((ns.map V.int).length:Nat):Int)
   ·refine Cy hk ?_;rw[ja] at hk;have hk':i<ns.length:=by omega
    have e:Bv (ns.map V.int) ((0:Int)+(i:Nat))=some (.int ns[i]):=by rw[Int.zero_add]; exact Bc (by rw[ji,jb hk']; rfl)
    refine⟨_,rfl,_,rfl,a,_,_,_,rfl,rfl,s2.seq hS,e,?_⟩;exact r _ _ ⟨rfl,_,rfl⟩
   ·refine Ca hk ?_;exact r _ _ ⟨rfl,_,rfl⟩
  rintro σ _ ⟨rfl,z,rfl⟩;have sz:(ms.map V.int).length<jR:=by rw[ja]; exact Ce (by omega)
  have fin:∀y:Int,0<=y->∀(v3 v4:Option V),∃u1 u2 u3 u4 ms',[some (V.ref a),some (.int (least:Int)),some (.bl b),some (.ref L),some (.int ((0:Int)+(i:Nat))),some (.int z),v3,v4]=[some (.ref a),some (.int (least:Int)),some (.bl b),some (.ref L),u1,u2,u3,u4]/\AN H (AH H2 L (.AD (ms.map V.int++[.int y])))/\(AH H2 L (.AD (ms.map V.int++[.int y]))) L=some (.AD ((ms':List Int).map V.int))/\(∀x∈ms',0<=x)/\ms'.length=i+1:=by
   intro y hy v3 v4;refine⟨_,_,_,_,ms++[y],rfl,s2.up hL _,by rw[AU]; simp,λx hx=>?_,by simp[l2]⟩;rcases jI.mp hx with w | w
   ·exact p2 x w
   ·rw[jO] at w; omega
  refine⟨_,rfl,_,rfl,?_⟩;cases b with
  | true =>
   refine Ey ?_;refine⟨_,rfl,.inl ⟨rfl,_,AR.of e2⟩,_,rfl,z,rfl,L,_,_,rfl,rfl,e2,sz,?_⟩;exact fin _ (by split <;> omega) _ _
  | false =>
   refine C9 ?_;refine⟨_,rfl,_,_,rfl,rfl,⟨by decide,by decide,by decide⟩,_,_,rfl,rfl,(show(0:Int)<10 ^ ((18:Int).toNat) by decide),_,_,rfl,rfl,.inr ⟨by decide,by decide⟩,_,rfl,_,_,rfl,rfl,_,_,rfl,rfl,.inl ⟨by decide,by decide⟩,_,_,rfl,rfl,_,_,rfl,rfl,(show(0:Int)<2147483647 by decide),?_⟩;refine⟨_,rfl,_,_,rfl,rfl,.inr ⟨by decide,by decide⟩,_,rfl,_,_,rfl,rfl,_,_,rfl,rfl,.inl ⟨by decide,by decide⟩,_,_,rfl,rfl,_,_,rfl,rfl,(show(0:Int)<2147483629 by decide),?_⟩;refine⟨_,rfl,.inl ⟨rfl,_,AR.of e2⟩,_,rfl,_,_,rfl,rfl,.inr ⟨by decide,by decide⟩,_,_,rfl,rfl,(show(0:Int)<2147483399 by decide),_,_,rfl,rfl,.inr ⟨by decide,by decide⟩,_,rfl,_,_,rfl,rfl,L,_,_,rfl,rfl,e2,sz,?_⟩;refine fin _ ?_ _ _;have d1:∀z:Int,0<=z % 2147483399:=λz=>k9 _ (by decide)
   have d2:∀z:Int,0<=z % 2147483629:=λz=>k9 _ (by decide)
   have e1:=d1 ((z % 10 ^ ((18:Int).toNat)*48271+16807*((0:Int)+(i:Nat)+1)) % 2147483647*40692);have e2:=d2 ((z % 10 ^ ((18:Int).toNat)*48271+16807*((0:Int)+(i:Nat)+1)) % 2147483647*69621+7919*((0:Int)+(i:Nat)+3));omega
 ·rintro σ H2 ⟨u1,u2,u3,u4,ms,rfl,s2,e2,p2,l2⟩;subst hUL3;refine⟨_,rfl,1,rfl,L,_,rfl,AR.of e2,λp hp=>?_⟩;have ec:C8 (ms.map V.int) (some 1) none=(ms.drop 1).map V.int:=by
   unfold C8;have e1:HT.Ak (ms.map V.int).length (ms.map V.int).length none=(ms.map V.int).length:=rfl;have e2:HT.Ak (ms.map V.int).length 0 (some 1)=min 1 (ms.map V.int).length:=by simp[HT.Ak]
   rw[e1,e2,jz (by rw[kA]; exact jj _),pB];rcases nI ms.length with z | z
   ·have:ms=[]:=mf.mp z
    subst this;rfl
   ·rw[show min 1 (ms.map V.int).length=1 by rw[ja]; omega]
  rw[ec];refine q p (ms.drop 1) _ (s2.trans (AY hp _)) (s2.free hp) AU (λx hx=>p2 x (nV hx)) (by rw[kA]; omega)
inductive Vn(vs:List V)(H:Hp)(Q:VK):Prop
 | mk (a:Addr) (ns:List Int) (h_0:vs=[.ref a]) (h_1:H a=some (.AD (ns.map V.int))) (h_2:(∀x∈ns,0<=x)) (h_3:ns.length<=200) (h_4:∀z ns' H',Bh a H H'->H' a=some (.AD ((ns':List Int).map V.int))->(∀x∈ns',0<=x)->ns'.length<=200->0<=z->Q (.int z) H'):Vn vs H Q
def Mr:Sp:=λvs H Q _=>Vn vs H Q
theorem gq:Ay ["_law_numbers_here"] ["_law_numbers_here"] (Ao sNext):=A7
theorem Zy(F:Ar K "_law_next" "_law_next" sNext f fd)(ml:mg "len" = none):An P w K mg base Av 1 f fd ["_law_numbers_here"] Mr:=by
 refine F.BA gq λcdv A outer s H vs Q E hr h=>?_
 obtain⟨a,ns,rfl,ha,hp,hl,q⟩:=h;refine⟨_,AO (Bn (BQ Dc (A3 (Be (K:=K)) (by rfl) ml BN (AA (pv 0) AB)) AE (BJ _)) (AV (Aq AE)) CA)
  (AV (Aq (CY K jT uA uB Rc (pv 0) (AA AE AB)))),?_⟩
 refine⟨_,rfl,a,_,rfl,.inl (AR.of ha),rfl,_,rfl,?_⟩;cases ns with
 | nil =>
  refine Ey ?_;exact q 0 [] H (Bh.refl _ _) ha hp (by simp) (by decide)
 | cons n ns =>
  refine Ca (Dj (by simp; omega)) ?_;refine⟨_,rfl,.inl ⟨rfl,_,AR.of ha⟩,a,_,0,0,.int n,rfl,rfl,ha,by decide,by decide,by simp[vF],rfl,?_⟩;exact q n ns _ Bh.Ae (by rw[AU]; rfl) (λx hx=>hp x (jX _ hx)) (by simp at hl; omega) (hp n (kO ..))
abbrev dn(c:Int)(ts:List (List Int)):List (List Int):=ts.map λt=>t.map λx=>x-c
theorem Z9(ρ:Int->Int)(t:List Int):BB (t.map ρ)=(BB t).map λp=>(ρ p.1,ρ p.2):=by
 rw[Em,Em];cases t with
 | nil=>rfl
 | cons a t =>
  have e:((a :: t).map ρ).getLastD 0=ρ ((a :: t).getLastD 0):=by
   rw[kq,kq,su,oJ];rfl
  rw[e,MT]
theorem Ys(ρ:Int->Int)(ts:List (List Int)):Az (ts.map λt=>t.map ρ)=(Az ts).map λp=>(ρ p.1,ρ p.2):=by
 unfold Az;rw[kr,List.map_flatten,kr];congr 1;refine lX λt _=>?_
 exact Z9 ρ t
theorem Ud{ρ:Int->Int}(inj:∀x y,ρ x=ρ y->x=y)(e:Int):∀L:List (Int×Int),lk (L.map λp=>(ρ p.1,ρ p.2)) (ρ e)=(lk L e).map ρ
 | []=>rfl
 | p :: L=>by
  have ih:=Ud inj e L;unfold lk at ih ⊢;rw[jx];by_cases h:p.1=e
  ·rw[qw (by simp[h]),qw (by simpa using h)];rfl
  ·rw[qv (by simp; exact λz=>h (inj _ _ z)),qv (by simpa using h)];exact ih
theorem Kl{c x y:Int}(h:x-c=y-c):x=y:=by omega
theorem cz{ts:List (List Int)}{n:Nat}(T:B4 n ts)(c:Int){y:Int}(hy:AF n y):lk (Az (dn c ts)) (AM y-c)=some (AJ ts y-c):=by
 unfold dn;rw[Ys (λx=>x-c),Ud (ρ:=λx=>x-c) (λx y=>Kl) (AM y) (Az ts),T.Kp hy];rfl
theorem SM(c:Int)(ts:List (List Int)):(dn c ts).flatten=ts.flatten.map λx=>x-c:=Gw _ ts
theorem fg{c:Int}{ts:List (List Int)}(h:ts.flatten.Nodup):(dn c ts).flatten.Nodup:=by
 rw[SM];exact MO h λx _ y _ e=>Kl e
theorem MV{c:Int}{ts:List (List Int)}{p:Nat}{t:List Int}(h:ts[p]?=some t):(dn c ts)[p]?=some (t.map λx=>x-c):=by rw[ji,h]; rfl
theorem Ts{c:Int}{ts:List (List Int)}{p:Nat}{u:List Int}(h:(dn c ts)[p]?=some u):∃t,ts[p]?=some t/\u=t.map λx=>x-c:=by
 rw[ji] at h;cases e:ts[p]? with
 | none=>rw[e] at h; cases h
 | some t=>rw[e] at h; exact⟨t,rfl,(jL h).symm⟩
theorem Oh{c x:Int}:∀{t:List Int},x∈t->(t.map λy=>y-c).idxOf (x-c)=t.idxOf x
 | a :: t,h=>by
  rw[jx,tU,tU];by_cases e:a=x
  ·subst e; simp
  ·have e1:(a == x)=false:=beq_false_of_ne e;have e2:(a-c == x-c)=false:=beq_false_of_ne (λz=>e (Kl z));rw[e1,e2];rcases jK.mp h with z | z
   ·exact absurd z.symm e
   ·show(t.map λy=>y-c).idxOf (x-c)+1=t.idxOf x+1;rw[Oh z]
theorem MS{c x:Int}{t:List Int}:x-c∈(t.map λy=>y-c)↔x∈t:=by
 rw[js];constructor
 ·rintro⟨y,hy,e⟩;rw[<-Kl e]; exact hy
 ·intro h; exact⟨x,h,rfl⟩
theorem da(c:Int)(ts:List (List Int))(p:Nat)(t:List Int):(dn c ts).set p (t.map λx=>x-c)=dn c (ts.set p t):=by unfold dn; rw[oX]
theorem gj:∀k:Nat,k<40->p9 ((k:Int)-2) 1=AM (k:Int)-2:=by decide
theorem WE{y:Int}{n:Nat}(h:AF n y)(hn:n<=40):p9 (y-2) 1=AM y-2:=by
 obtain⟨h1,h2⟩:=h
 have:=gj y.toNat (by omega)
 rwa [show((y.toNat:Nat):Int)=y by omega] at this
inductive Qu(vs:List V)(H:Hp)(Q:VK):Prop
 | mk (T:Addr) (bs:List Addr) (us:List (List Int)) (h_0:vs=[.ref T]) (h_1:Fe H T bs us) (h_2:us.flatten.Nodup) (h_3:us.flatten.length<=1000) (h_4:∀d H',AN H H'->H d=none->H' d=some (.dK (BG (Az us)))->Q (.ref d) H'):Qu vs H Q
def RN:Sp:=λvs H Q _=>Qu vs H Q
theorem LH:Ay ["_law_turns","_law_ahead_here","_law_turn","_law_at","_law_end"] ["_law_turns"] (Ao s_law_ahead):=A7
theorem Xl(F:Ar K "_law_ahead" "_law_ahead" s_law_ahead f fd)(me:mg "enumerate" = none):An P w K mg base Av 1 f fd ["_law_turns"] RN:=by
 refine F.BA LH λcdv A outer s H vs Q E hr h=>?_
 obtain⟨T,bs,us,rfl,M,nd,hn,q⟩:=h;have hu:=FD hr;refine⟨_,AO (AW (i:=1) LH.nd rfl (jn rfl) KR)
  (AO (CV j3 rfl (IX (K:=K) (pv 0)) (Af (i:=2) LH.nd rfl (jn rfl))
   (AV (CV j3 rfl (JW (by rfl) me (AA (pv 2) AB)) (Dn (n:=2) (K:=K) rfl (BI (Af (i:=3) LH.nd rfl (jn rfl)) (BI (Af (i:=4) LH.nd rfl (jn rfl)) Ck)))
    (AV (GC hu (pv 1) (pv 4) (pL K (pv 2) (AL DN (pv 3) AE)) rfl)))))
  (AV (Aq (pv 1)))),?_⟩
 intro d hd
 try dsimp only
 try refine Cw ?_
 first | refine Cv λUL1 hUL1=>?_ | refine nx_hide λUL1 hUL1=>?_
 refine⟨_,rfl,T,rfl,⟨_,AR.of (AY hd _ _ _ M.h1)⟩,?_⟩;refine ZW (xs:=bs.map V.ref) (λi σ H2=>∃t k e,σ=[some (.ref T),some (.ref d),t,k,e]/\AN H H2/\H2 d=some (.dK (BG (Az (us.take i))))) ⟨none,none,none,rfl,AY hd _,AU⟩ (λi σ H2 _ ⟨_,_,_,_,s,_⟩=>AR.of (s _ _ M.h1)) ?_ ?_
 ·rintro i x σ H2 hx ⟨t0,k0,e0,rfl,sm,hd2⟩;obtain⟨b,row,rfl,hb,hrow,hB0⟩:=M.rows.ref hx;have hB:=sm _ _ hB0
  try dsimp only
  try refine Cw ?_
  first | refine Cv λUL2 hUL2=>?_ | refine nx_hide λUL2 hUL2=>?_
  refine⟨_,rfl,b,_,rfl,hB,?_⟩;refine La (xs:=row.map V.int) (λj σ H3=>∃k e,σ=[some (.ref T),some (.ref d),some (.ref b),k,e]/\AN H H3/\H3 d=some (.dK (BG (Az (us.take i)++(BB row).take j)))) ⟨k0,e0,rfl,sm,by rw[rB,lC]; exact hd2⟩
   (λj σ H3 _ ⟨_,_,_,s,_⟩=>s _ _ hB0) ?_ ?_
  ·rintro j x σ H3 p hx3 ⟨k1,e1,rfl,sm3,hd3⟩ hp;obtain⟨e,rfl,he⟩:=Fh hx3;have hj:j<row.length:=(jc.mp he).1;have sm4:AN H (AH H3 p (.AG [.int j,.int e])):=sm3.trans (AY hp _);have hd4:(AH H3 p (.AG [.int j,.int e])) d=some (.dK (BG (Az (us.take i)++(BB row).take j))):=AY hp _ _ _ hd3;have keys:(Az (us.take i)++(BB row).take j).map (·.1)=(us.take i).flatten++row.take j:=by
    rw[jH,E6,qA,JU]
   have fr:e∉(Az (us.take i)++(BB row).take j).map (·.1):=by rw[keys]; exact Lg nd hrow he
   have ln:(BG (Az (us.take i)++(BB row).take j)).length<jR:=by
    have l1:=congrArg m7 keys;rw[ja] at l1;have l2:((us.take i).flatten++row.take j).length<=us.flatten.length:=by
     have e1:us=us.take i++us.drop i:=(lN i us).symm;have hd:us.drop i=row :: us.drop (i+1):=by
      obtain⟨hi,q1⟩:=jc.mp hrow;rw[<-q1,mC]
     have e2:us.flatten.length=(us.take i).flatten.length+(row.length+(us.drop (i+1)).flatten.length):=by
      conv=>lhs; rw[e1,hd]
      rw[kI,j5,jw,jw]
     rw[e2,jw,kB];omega
    rw[ja,l1];exact Ce (by omega)
   refine⟨p,_,rfl,AK.of AU,rfl,_,_,rfl,_,_,rfl,rfl,?_⟩;refine⟨_,rfl,_,rfl,_,_,rfl,rfl,b,_,_,_,rfl,rfl,AR.of (sm4 _ _ hB0),TY hj,_,rfl,_,rfl,d,_,rfl,D5.k (k:=j4 e) hd4 ln,?_⟩;refine⟨_,_,rfl,sm4.up hd _,?_⟩;rw[AU,HP fr,kN];have rp:(BB row)[j]?=some (e,EF row j):=by
    unfold BB;rw[ji,kE hj];show some (row.getD j 0,EF row j)=_;rw[je,he];rfl
   rw[C0 rp]
  ·rintro σ H3 ⟨k1,e1,rfl,sm3,hd3⟩;subst hUL2;refine⟨_,_,_,rfl,sm3,?_⟩;rw[hd3,C0 hrow,QO,ja,show(BB row).take row.length=BB row from jz (by rw[Nm]; exact jj _)]
 ·rintro σ H2 ⟨t0,k0,e0,rfl,sm,hd2⟩;subst hUL1;refine⟨_,rfl,q d H2 sm hd ?_⟩;rw[hd2,ja,jz (by rw[M.rows.1]; exact jj _)]
inductive TV(c:Int)(vs:List V)(H:Hp)(Q:VK):Prop
 | mk (d:Addr) (ts:List (List Int)) (n:Nat) (s:Int) (h_0:vs=[.ref d,.int (s-c)]) (h_1:H d=some (.dK (BG (Az (dn c ts))))) (h_2:B4 n ts) (h_3:n<=40) (h_4:AF n s) (h_5:∀p H',AN H H'->H p=none->H' p=some (.AD (((Ba (AJ ts) s).map λx=>x-c).map V.int))->Q (.ref p) H'):TV c vs H Q
def UA(c:Int):Sp:=λvs H Q _=>TV c vs H Q
theorem Mu:Ay ["_law_ahead_here","_law_start","_law_ring","_law_here"] ["_law_ahead_here","_law_start"] (Ao s_law_land):=A7
theorem az(c:Int)(hx:∀{y:Int} {n:Nat},AF n y->n<=40->p9 (y-c) 1=AM y-c)(F:Ar K "_law_land" "_law_land" s_law_land f fd):An P w K mg base Av 1 f fd ["_law_ahead_here","_law_start"] (UA c):=by
 refine F.BA Mu λcdv A outer s H vs Q E hr h=>?_
 obtain⟨d,ts,n,s0,rfl,hd,T,hn,hs0,q⟩:=h;have hu:=FD hr;have PM:=T.perm;have PE:=Fi PM hs0;refine⟨_,AO (AW (i:=2) Mu.nd rfl (jn rfl) (Bz (AA (pv 1) AB)))
  (AO (AW (i:=3) Mu.nd rfl (jn rfl) (ET hu (pv 0) (AL MQ (pv 1) AE) (λ_ _=>rfl)))
  (AO (HJ j3 (BQ Eo (pv 3) (pv 1) (BJ _))
   (AO (C3 (CY K jT kf kg DY (pv 2) (AA (pv 3) AB)))
    (AV (AW (i:=3) Mu.nd rfl (jn rfl) (ET hu (pv 0) (AL MQ (pv 3) AE) (λ_ _=>rfl))))))
  (AV (Aq (pv 2))))),?_⟩
 refine⟨_,rfl,by exact Ei,λl hl=>?_⟩;have get:∀{H2:Hp} {y:Int},H2 d=some (.dK (BG (Az (dn c ts))))->AF n y->DP H2 d (.int (p9 (y-c) 1)) (some (.int (AJ ts y-c))):=by
  intro H2 y h2 hy;rw[hx hy hn];exact IH h2 (cz T c hy)
 refine⟨_,rfl,_,rfl,_,_,rfl,rfl,d,_,rfl,get (AY hl _ _ _ hd) hs0,?_⟩;refine Gz (λσ H2=>∃j,1<=j/\j<=BU (AJ ts) s0/\σ=[some (.ref d),some (.int (s0-c)),some (.ref l),some (.int (A2 (AJ ts) j s0-c))]/\AN H H2/\H2 l=some (.AD (((Cn (AJ ts) s0 j).map λx=>x-c).map V.int)))
  (λ_ H2=>match H2 l with | some (.AD xs)=>BU (AJ ts) s0-xs.length | _=>0) ⟨1,jj _,PE.1,rfl,AY hl _,AU⟩ ?_ ?_
 ·rintro σ H2 ⟨j,j1,j2,rfl,sm,hl2⟩;refine⟨_,rfl,_,rfl,rfl,_,rfl,?_⟩;by_cases he:A2 (AJ ts) j s0=s0
  ·refine Ep (iv (by rw[he])) ?_;have hj:j=BU (AJ ts) s0:=by
    rcases j6 j (BU (AJ ts) s0) with z | z
    ·exact absurd he (PE.2.2 j j1 z)
    ·omega
   subst hj;exact⟨_,rfl,q l _ sm hl hl2⟩
  ·refine Hk (Dj (λz=>he (Kl z))) ?_;have hj:j<BU (AJ ts) s0:=by
    rcases j6 j (BU (AJ ts) s0) with z | z
    ·exact z
    ·exact absurd (by rw[show j=BU (AJ ts) s0 by omega]; exact PE.2.1) he
   have hpl:=UC PM hs0;have hlen:(Cn (AJ ts) s0 j).length=j:=Le;refine⟨_,rfl,.inl ⟨rfl,_,AR.of hl2⟩,_,rfl,l,_,_,rfl,rfl,hl2,by rw[ja,ja,hlen]; exact Ce (by omega),?_⟩;have sm2:=sm.up hl (.AD (((Cn (AJ ts) s0 j).map λx=>x-c).map V.int++[.int (A2 (AJ ts) j s0-c)]));refine⟨_,rfl,_,rfl,_,_,rfl,rfl,d,_,rfl,get (sm2 _ _ hd) (D3 PM hs0 j),?_⟩;refine⟨⟨j+1,by omega,hj,rfl,sm2,?_⟩,?_⟩
   ·rw[AU,QY,jH,jH];rfl
   ·rw[AU,hl2];show BU (AJ ts) s0-(((Cn (AJ ts) s0 j).map λx=>x-c).map V.int++[V.int (A2 (AJ ts) j s0-c)]).length<BU (AJ ts) s0-(((Cn (AJ ts) s0 j).map λx=>x-c).map V.int).length;rw[jw,ja,ja,hlen,kX];omega
 ·rintro σ H2 Q1 Q2 hq ⟨v,e,v',e',sc,b,eb,z⟩;exact⟨v,e,v',e',sc,b,eb,hq _ _ z⟩
inductive Qn(vs:List V)(H:Hp)(Q:VK):Prop
 | mk (T:Addr) (bs:List Addr) (ts:List (List Int)) (n:Nat) (y:Int) (h_0:vs=[.ref T,.int (y-2)]) (h_1:Fe H T bs (dn 2 ts)) (h_2:n<=40) (h_3:AF n y) (h_4:AM y∈ts.flatten) (h_5:(∀t∈ts,t.length<=1000)) (h_6:∀p t q H',ts[p]?=some t->AM y∈t->AN H H'->H' q=some (.AG [.int ((p:Nat):Int),.int ((t.idxOf (AM y):Nat):Int)])->Q (.ref q) H'):Qn vs H Q
def R6:Sp:=λvs H Q _=>Qn vs H Q
theorem Pp:Ay ["_law_turns","_law_end","_law_place","_law_turn"] ["_law_turns","_law_end"] (Ao s_law_corner):=A7
theorem YT(F:Ar K "_law_corner" "_law_corner" s_law_corner f fd)(me:mg "enumerate" = none):An P w K mg base Av 1 f fd ["_law_turns","_law_end"] R6:=by
 refine F.BA Pp λcdv A outer s H vs Q E hr h=>?_
 obtain⟨T,bs,ts,n,y,rfl,M,hn,hy,ho,hl,q⟩:=h;refine⟨_,AO (CV j3 rfl (JW (by rfl) me (AA (pv 0) AB)) (Dn (n:=2) (K:=K) rfl (BI (Af (i:=2) Pp.nd rfl (jn rfl)) (BI (Af (i:=3) Pp.nd rfl (jn rfl)) Ck)))
   (AV (Bn (BQ YV (AL MQ (pv 1) AE) (pv 3) (by with_unfolding_all rfl))
    (AV (Aq (BZ (AA (pv 2) (AA (CY K jT qh tS R3 (pv 3) (AA (AL MQ (pv 1) AE) AB)) AB))))) CA)))
  (AV (Aq (BZ (AA AE (AA AE AB))))),?_⟩
 have ex:=WE hy hn
 try dsimp only
 try refine Cw ?_
 first | refine Cv λUL4 hUL4=>?_ | refine nx_hide λUL4 hUL4=>?_
 refine⟨_,rfl,T,_,rfl,M.h1,?_⟩;refine La (xs:=bs.map V.ref) (λi σ H2=>(∃u v,σ=[some (.ref T),some (.int (y-2)),u,v])/\AN H H2/\∀j t,j<i->ts[j]?=some t->AM y∉t) ⟨⟨none,none,rfl⟩,AN.refl _,λj t h=>by omega⟩ (λi σ H2 _ ⟨_,s2,_⟩=>s2 _ _ M.h1) ?_ ?_
 ·rintro i x σ H2 p hx ⟨⟨u,v,rfl⟩,s2,hz⟩ hp;obtain⟨b,t',rfl,hb,hy',hB⟩:=M.rows.ref hx;obtain⟨t,ht,rfl⟩:=Ts hy';have s3:=s2.trans (AY hp (.AG [.int i,.ref b]));refine⟨p,_,rfl,AK.of AU,rfl,_,_,rfl,_,_,rfl,rfl,?_⟩;generalize AH H2 p (.AG [.int i,.ref b])=H3 at s3;have hB3:=s3 _ _ hB;have tl:t.length<=1000:=hl t (jd ht);refine⟨_,rfl,_,_,rfl,rfl,_,rfl,b,_,rfl,.inl (AR.of hB3),rfl,Y0 _,_,rfl,?_⟩;rw[jm (by decide:¬(false=true)),ZD,ex];by_cases hm:AM y∈t
  ·refine Cy (MS.mpr hm) ?_;refine⟨_,rfl,_,rfl,.inl ⟨rfl,_,AR.of hB3⟩,_,rfl,_,_,rfl,rfl,b,_,_,rfl,rfl,hB3,(by rw[ex]; exact MS.mpr hm),by rw[ja]; omega,by exact B6,λp2 hp2=>?_⟩;rw[ex,Oh hm];exact q i t p2 _ ht hm (s3.trans (AY hp2 _)) AU
  ·refine Ca (λz=>hm (MS.mp z)) ⟨⟨_,_,rfl⟩,s3,λj t' hj hjt=>?_⟩;rcases j6 j i with h3 | h3
   ·exact hz j t' h3 hjt
   ·obtain rfl:j=i:=by omega
    rw[ht] at hjt;cases hjt;exact hm
 ·rintro σ H2 ⟨⟨u,v,rfl⟩,s2,hz⟩;subst hUL4
  exfalso
  obtain⟨t,ht,hm⟩:=jN.mp ho;obtain⟨j,hj,ej⟩:=jP ht;refine hz j t ?_ (by rw[jb hj,ej]) hm;rw[ja,M.rows.1];simpa using hj
def Fr(T h:Addr)(bs:List Addr)(H H':Hp):Prop:=∀b o,b∉T :: h :: bs->H b=some o->H' b=some o
theorem Fr.refl{T h:Addr}{bs:List Addr}(H:Hp):Fr T h bs H H:=λ_ _ _ e=>e
theorem Fr.same{T h:Addr}{bs:List Addr}{H H':Hp}(s:AN H H'):Fr T h bs H H':=λb o _ e=>s b o e
theorem Fr.trans{T h:Addr}{bs:List Addr}{H H1 H2:Hp}(a:Fr T h bs H H1)(b:Fr T h bs H1 H2):Fr T h bs H H2:=λc o n e=>b c o n (a c o n e)
theorem Fr.up{T h:Addr}{bs:List Addr}{H:Hp}{x:Addr}(hx:x∈T :: h :: bs)(o:HO):Fr T h bs H (AH H x o):=λc u n e=>by
 rw[Ad (λz=>n (by rw[z]; exact hx))]; exact e
structure CU(H:Hp)(R T:Addr)(cs bs:List Addr)(ts:List (List Int))(rs:List AQ):Prop where
 tm:Fe H T bs (dn 2 ts)
 r1:H R=some (.AD (cs.map V.ref))
 rr:At BW H cs rs
 rn:R∉T :: bs
theorem CU.keep{H H':Hp}{R T:Addr}{cs bs:List Addr}{ts:List (List Int)}{rs:List AQ}(M:CU H R T cs bs ts rs)(s:AN H H'):CU H' R T cs bs ts rs:=⟨M.tm.keep s,s _ _ M.r1,M.rr.keep Cj s,M.rn⟩
theorem CU.bl{H:Hp}{R T:Addr}{cs bs:List Addr}{ts:List (List Int)}{rs:List AQ}(M:CU H R T cs bs ts rs):bs.length=ts.length:=by rw[M.tm.rows.1,ja]
theorem CU.turn{H:Hp}{R T b:Addr}{cs bs:List Addr}{ts:List (List Int)}{rs:List AQ}{i:Nat}{t:List Int}(M:CU H R T cs bs ts rs)(hb:bs[i]?=some b):CU (AH H b (.AD ((t.map λx=>x-2).map V.int))) R T cs bs (ts.set i t) rs:=by
 have bm:b∈bs:=jd hb;have li:i<ts.length:=by rw[<-M.bl]; exact(jc.mp hb).1
 have hB:H b=some (.AD ((ts[i].map λx=>x-2).map V.int)):=M.tm.rows.2 i b _ hb (MV (jb li));refine⟨?_,?_,JL hB M.rr,M.rn⟩
 ·have:=M.tm.put (t:=t.map λx=>x-2) hb
  rw[da] at this;exact this
 ·rw[Ad (λz=>M.rn (by rw[z]; exact jX _ bm))]; exact M.r1
theorem CU.new{H:Hp}{R T l:Addr}{cs bs:List Addr}{ts:List (List Int)}{rs:List AQ}(M:CU H R T cs bs ts rs)(hl:H l=none):l∉T :: R :: bs:=by
 intro m;rcases jK.mp m with z | z
 ·rw[z,M.tm.h1] at hl; cases hl
 ·rcases jK.mp z with z | z
  ·rw[z,M.r1] at hl; cases hl
  ·obtain⟨k,hk,ek⟩:=jP z;have hl2:k<(dn 2 ts).length:=by rw[<-M.tm.rows.1]; exact hk
   have:=M.tm.rows.2 k l (dn 2 ts)[k] (by rw[jb hk,ek]) (jb hl2)
   unfold B5 at this;rw[hl] at this; cases this
theorem CU.more{H:Hp}{R T l:Addr}{cs bs:List Addr}{ts:List (List Int)}{rs:List AQ}{u:List Int}(M:CU H R T cs bs ts rs)(hl:H l=none):CU (AH (AH H l (.AD ((u.map λx=>x-2).map V.int))) T (.AD (bs.map V.ref++[.ref l]))) R T cs (bs++[l]) (ts++[u]) rs:=by
 have nl:=M.new hl;obtain⟨H1,zg,s1,e1⟩:=nw hl (.AD ((u.map λx=>x-2).map V.int));rw[zg];have M1:=M.keep s1;have lT:l≠T:=λz=>nl (by simp[z])
 have lR:R≠l:=λz=>nl (by simp[z])
 have lb:l∉bs:=λz=>nl (by simp[z])
 have RT:R≠T:=λz=>M.rn (by simp[z])
 obtain⟨n1,n2⟩:=kJ.mp M.tm.nd;refine⟨⟨by rw[AU]; simp,?_,?_⟩,by rw[Ad RT]; exact M1.r1,JL M1.tm.h1 M1.rr,?_⟩
 ·have a1:=M1.tm.rows.snoc (b:=l) (x:=u.map λx=>x-2) e1;rw[show dn 2 (ts++[u])=dn 2 ts++[u.map λx=>x-2] by simp[dn]];refine⟨a1.1,λi b x q1 q2=>?_⟩
  have:=a1.2 i b x q1 q2
  unfold B5 at this ⊢;have bT:b≠T:=λz=>by
   subst z;rcases jI.mp (jd q1) with w | w
   ·exact n1 w
   ·exact lT (jO.mp w).symm
  rw[Ad bT]; exact this
 ·rw[kJ];refine⟨λz=>?_,?_⟩
  ·rcases jI.mp z with w | w
   ·exact n1 w
   ·exact lT (jO.mp w).symm
  ·rw[lj];refine⟨n2,by simp,λx hx y hy z=>?_⟩;rw[jO] at hy;subst hy; subst z;exact lb hx
 ·intro z;rcases jK.mp z with w | w
  ·exact RT w
  ·rcases jI.mp w with w | w
   ·exact M.rn (jX _ w)
   ·exact lR (jO.mp w)
theorem CU.NA{H:Hp}{R T:Addr}{cs cs' bs:List Addr}{ts:List (List Int)}{rs rs':List AQ}{ys:List V}(M:CU H R T cs bs ts rs)(hy:ys=cs'.map V.ref)(hr:At BW H cs' rs'):CU (AH H R (.AD ys)) R T cs' bs ts rs':=by
 subst hy;refine⟨⟨?_,⟨M.tm.rows.1,λi b x e1 e2=>?_⟩,M.tm.nd⟩,AU,JL M.r1 hr,M.rn⟩
 ·rw[Ad (λz=>M.rn (by rw[z]; exact kO ..))]; exact M.tm.h1
 ·show AH H R _ b=_;rw[Ad (λz=>M.rn (by rw[<-z]; exact jX _ (jd e1)))];exact M.tm.rows.2 i b x e1 e2
theorem FrN.free{R T l:Addr}{cs bs:List Addr}{H H':Hp}{ts:List (List Int)}{rs:List AQ}(F:Fr T R bs H H')(M:CU H' R T cs bs ts rs)(hl:H' l=none):H l=none:=by
 cases e:H l with
 | none=>rfl
 | some o =>
  have:=F l o (M.new hl) e
  rw[this] at hl; cases hl
theorem aw{rs:List AQ}{k x:Nat}{r:AQ}{q:Rat}(h:rs[k]?=some r):CJ (rs.set k (r.1,x,q))=(CJ rs).set (2*k+1) x:=by
 induction rs generalizing k with
 | nil=>simp at h
 | cons r0 rs ih =>
  cases k with
  | zero=>cases h; rfl
  | succ k =>
   have:=ih (k:=k) (by simpa using h)
   show r0.1 :: r0.2.1 :: CJ (rs.set k (r.1,x,q))=(r0.1 :: r0.2.1 :: CJ rs).set (2*(k+1)+1) x;rw[this,show 2*(k+1)+1=2*k+1+1+1 by omega];rfl
abbrev hs2(rs:List AQ):List Nat:=[0,1]++CJ rs
inductive TQ(vs:List V)(H:Hp)(Q:VK):Prop
 | mk (R T e:Addr) (cs bs:List Addr) (ts:List (List Int)) (rs:List AQ) (c:Int) (qe:Rat) (h_0:vs=[.ref R,.ref T,.int c,.ref e]) (h_1:CU H R T cs bs ts rs) (h_2:Gn ts (hs2 rs)) (h_3:rs.length<=13) (h_4:0<=c) (h_5:AS H e qe) (h_6:EX qe) (h_7:(∀r∈rs,EX r.2.2)) (h_8:∀H' cs' bs' ts' rs',Fr T R bs H H'->(∀b∈bs',b∈bs\/H b=none)->CU H' R T cs' bs' ts' rs'->Gn ts' (hs2 rs')->rs'.length=rs.length+1->(∀r∈rs',EX r.2.2)->Q .BE H'):TQ vs H Q
def Uz:Sp:=λvs H Q _=>TQ vs H Q
theorem Eb:Ay ["_law_ropes","_law_turns","_law_c","_law_ease_here","_law_many","_law_start","_law_place","_law_at","_law_rope","_law_one","_law_far","_law_old","_law_ring","_law_spot"] ["_law_ropes","_law_turns","_law_c","_law_ease_here"] (Ao sGrow):=A7
set_option maxHeartbeats 1000000 in
theorem ao (F:Ar K "_law_grow" "_law_grow" sGrow f fd) (G1:Aj P w K mg base 1 "_law_corner" ["_law_turns","_law_end"] R6)
  (G2:Aj P w K mg base 1 "_law_ahead" ["_law_turns"] RN)
  (G3:Aj P w K mg base 1 "_law_land" ["_law_ahead_here","_law_start"] (UA 2)) (ml:mg "len" = none) :
  An P w K mg base Av 2 f fd ["_law_ropes","_law_turns","_law_c","_law_ease_here"] Uz:=by
 refine F.BA Eb λcdv A outer s H vs Q E hr h=>?_
 obtain⟨R,T,e,cs,bs,ts,rs,c,qe,rfl,M,g,h13,c0,he,eke,ekr,q⟩:=h;refine⟨_,AO (AW (i:=4) Eb.nd rfl (jn rfl) (AL Bt AE (A3 (Be (K:=K)) (by rfl) ml BN (AA (pv 0) AB))))
  (AO (AW (i:=5) Eb.nd rfl (jn rfl) (AL DN (AL Bw (pv 2) (AL BL (pv 4) AE)) AE))
  (AO (AW (i:=2) Eb.nd rfl (jn rfl) (AL EE (pv 2) (AL BL (pv 4) AE)))
  (AO (DZ (AZ G1 hr (AA (pv 1) (AA (pv 5) AB))) (Dn (n:=2) (K:=K) rfl (BI (Af (i:=6) Eb.nd rfl (jn rfl)) (BI (Af (i:=7) Eb.nd rfl (jn rfl)) Ck))))
  (AV (Bn (BQ Dc (AL Bw (pv 2) AE) AE (BJ _))
   (AO (C3 (CY K jT oq pX NR (pL K (pv 1) (pv 6)) (AA (pv 7) (AA (pv 4) AB))))
   (AO (C3 (CY K jT kf kg DY (pv 1) (AA (Bz (AA (AL BL (pv 4) AE) AB)) AB)))
   (AV (C3 (CY K jT kf kg DY (pv 0) (AA (BZ (AA (pv 6) (AA (AL DN (A3 (Be (K:=K)) (by rfl) ml BN (AA (pv 1) AB)) AE) (AA (pv 3) AB)))) AB))))))
   (AV (Bn (BQ Dc (AL Bw (pv 2) AE) AE (BJ _))
    (AO (AW (i:=8) Eb.nd rfl (jn rfl) (AL Bw (AL EE (pv 2) AE) (A3 (Be (K:=K)) (by rfl) ml BN (AA (pv 0) AB))))
    (AO (DZ (pL K (pv 0) (pv 8)) (Dn (n:=3) (K:=K) rfl (BI (Af (i:=9) Eb.nd rfl (jn rfl)) (BI (Af (i:=10) Eb.nd rfl (jn rfl)) (BI (Af (i:=11) Eb.nd rfl (jn rfl)) Ck)))))
    (AO (DZ (AL BL (pv 4) AE) (FC (pL K (pv 1) (pv 10)) (CY K jT qh tS R3 (pL K (pv 1) (pv 10)) (AA (AL BL (AL Bt AE (pv 8)) AE) AB)) E8))
    (AO (C3 (CY K jT kf kg DY (pv 1) (AA (Bz (AA (AL BL (AL Bt AE (pv 8)) AE) (AA (pv 4) AB))) AB)))
    (AO (DZ (BZ (AA (pv 9) (AA (AL DN (A3 (Be (K:=K)) (by rfl) ml BN (AA (pv 1) AB)) AE) (AA (pv 11) AB)))) (FC (pv 0) (pv 8) E8))
    (AV (C3 (CY K jT kf kg DY (pv 0) (AA (BZ (AA (AL DN (A3 (Be (K:=K)) (by rfl) ml BN (AA (pv 1) AB)) AE) (AA (pv 10) (AA (pv 3) AB)))) AB)))))))))
    (AO (AW (i:=12) Eb.nd rfl (jn rfl) (AZ G3 hr (AA (AZ G2 hr (AA (pv 1) AB)) (AA (pv 5) AB))))
    (AO (C3 (CY K jT oq pX NR (pL K (pv 1) (pv 6)) (AA (pv 7) (AA (pv 4) AB))))
    (AO (DZ (AZ G1 hr (AA (pv 1) (AA (pL K (pv 12) (AL Bw (AL EE (pv 2) AE) (A3 (Be (K:=K)) (by rfl) ml BN (AA (pv 12) AB)))) AB))) (Dn (n:=2) (K:=K) rfl (BI (Af (i:=10) Eb.nd rfl (jn rfl)) (BI (Af (i:=13) Eb.nd rfl (jn rfl)) Ck))))
    (AO (C3 (CY K jT oq pX NR (pL K (pv 1) (pv 10)) (AA (pv 13) (AA (AL BL (pv 4) AE) AB))))
    (AV (C3 (CY K jT kf kg DY (pv 0) (AA (BZ (AA (pv 6) (AA (pv 10) (AA (pv 3) AB)))) AB))))))))))))))),?_⟩
 have ev:=g.ev;have n4:=g.n4;have PM:=g.Dm.perm;have tsl:=g.tsl;have hln:(hs2 rs).length=2*rs.length+2:=by rw[jw,ES]; simp; omega
 have lc:(((cs.map V.ref).length:Nat):Int)=(rs.length:Int):=by rw[ja,M.rr.1]
 have lcl:(cs.map V.ref).length<jR:=by rw[ja,M.rr.1]; exact Ce (by omega)
 have m4:(0:Int)<4:=by decide
 have mul2:∀x:Int,Iw 2 x:=λx=>.inl ⟨by decide,by decide⟩
 have npos:(0:Int)<2*(rs.length:Int)+2:=by omega
 have nE:((hs2 rs).length:Int)=2*(rs.length:Int)+2:=by rw[hln]; push_cast; rfl
 have tl:∀t∈ts,t.length<=1000:=λt ht=>by have:=Lp ht; rw[g.Dm.len] at this; omega
 refine⟨_,rfl,R,_,rfl,.inl (AR.of M.r1),_,_,rfl,rfl,mul2 _,?_⟩
 (try dsimp only)
 rw[lc];refine⟨_,rfl,_,rfl,_,_,rfl,rfl,_,_,rfl,rfl,npos,_,_,rfl,rfl,?_⟩;refine⟨_,rfl,_,rfl,_,_,rfl,rfl,_,_,rfl,rfl,⟨npos,by show 2*(rs.length:Int)+2<1073741824; omega⟩,?_⟩
 (try dsimp only)
 have c2:0<=c / (2*(rs.length:Int)+2):=Int.ediv_nonneg c0 (by omega);have yR:AF (hs2 rs).length (c % (2*(rs.length:Int)+2)):=⟨k9 _ (m8 npos),by rw[nE]; exact lq _ npos⟩;generalize c % (2*(rs.length:Int)+2)=y at yR;generalize c / (2*(rs.length:Int)+2)=z at c2;have yo:=CM ev yR;refine⟨_,rfl,_,rfl,T,bs,ts,(hs2 rs).length,y,rfl,M.tm,by omega,yR,(g.mem _).mpr yo,tl,λp t pq H1 hp hx s1 hpq=>?_⟩;refine⟨pq,_,rfl,AK.of hpq,rfl,_,_,rfl,_,_,rfl,rfl,?_⟩;have M1:=M.keep s1;have he1:=Au s1 he;have F1:Fr T R bs H H1:=Fr.same s1;obtain⟨t1,t2,rfl,nm⟩:=Lr hx;have ix:=L0 (u2:=t2) nm;have pl:p<ts.length:=(jc.mp hp).1;have tlen:=N0 g hp;obtain⟨b,hb,bm,ab,hB⟩:=OW M1.tm (MV hp);rw[ix];have e3:∀(x:Int) (u1 u2:List Int) (o:Int),(((u1++o :: u2).map λx=>x-2).map V.int).take ((u1.length:Int)).toNat++V.int (x-2) :: (((u1++o :: u2).map λx=>x-2).map V.int).drop ((u1.length:Int)).toNat=((u1++x :: o :: u2).map λx=>x-2).map V.int:=by
  intro x u1 u2 o;rw[kQ,<-List.map_take,<-List.map_drop,<-List.map_take,<-List.map_drop];simp
 have em:(2:Int)*(rs.length:Int)=((hs2 rs).length:Int)-2:=by rw[nE]; omega
 have em1:(2:Int)*(rs.length:Int)+1=((hs2 rs).length:Int)+1-2:=by rw[nE]; omega
 have lbs:=M.bl;refine⟨_,rfl,_,_,rfl,rfl,m4,rfl,_,rfl,?_⟩;refine LG (λ_=>?_) (λ_=>?_)
 ·
  refine⟨_,rfl,_,rfl,T,_,_,_,rfl,rfl,AR.of M1.tm.h1,ab,.inl ⟨rfl,_,AR.of hB⟩,_,rfl,_,rfl,b,_,(t1.length:Int),.int (2*(rs.length:Int)),rfl,rfl,hB,by omega,by simp; omega,by rw[ja,ja]; omega,?_⟩;rw[em,e3];have M2:=M1.turn (t:=t1++((hs2 rs).length:Int) :: AM y :: t2) hb;have F2:=F1.trans (Fr.up (T:=T) (h:=R) (bs:=bs) (H:=H1) (x:=b) (by simp[bm]) (.AD (((t1++((hs2 rs).length:Int) :: AM y :: t2).map λx=>x-2).map V.int)));have he2:AS (AH H1 b (.AD (((t1++((hs2 rs).length:Int) :: AM y :: t2).map λx=>x-2).map V.int))) e qe:=by
   unfold AS at he1 ⊢;rw[Ad (λz=>by rw[z,hB] at he1; cases he1)]; exact he1
  generalize AH H1 b (.AD (((t1++((hs2 rs).length:Int) :: AM y :: t2).map λx=>x-2).map V.int))=H2 at M2 F2 he2;refine⟨_,rfl,.inl ⟨rfl,_,AR.of M2.tm.h1⟩,_,rfl,_,_,rfl,rfl,by exact Ei,λl hl=>?_⟩;have s3:=AY hl (.AD [.int (((hs2 rs).length:Int)-2+1)]);refine⟨T,_,_,rfl,rfl,s3 _ _ M2.tm.h1,by rw[ja]; exact Ce (by omega),?_⟩;have fl:=FrN.free F2 M2 hl;have M3:=M2.more (u:=[((hs2 rs).length:Int)+1]) hl;have e4:(([((hs2 rs).length:Int)+1].map λx=>x-2).map V.int)=[.int (((hs2 rs).length:Int)-2+1)]:=by
   show [V.int (((hs2 rs).length:Int)+1-2)]=_;rw[show((hs2 rs).length:Int)+1-2=((hs2 rs).length:Int)-2+1 by omega]
  rw[e4] at M3;have he3:AS (AH (AH H2 l (.AD [.int (((hs2 rs).length:Int)-2+1)])) T (.AD (bs.map V.ref++[.ref l]))) e qe:=by
   have:=Au s3 he2
   unfold AS at this ⊢;rw[Ad (λz=>by rw[z,s3 _ _ M2.tm.h1] at this; cases this)]; exact this
  have F3:=(F2.trans (Fr.same s3)).trans (Fr.up (T:=T) (h:=R) (bs:=bs) (x:=T) (by simp) (.AD (bs.map V.ref++[.ref l])));generalize AH (AH H2 l (.AD [.int (((hs2 rs).length:Int)-2+1)])) T (.AD (bs.map V.ref++[.ref l]))=H3 at M3 he3 F3;refine⟨_,rfl,.inl ⟨rfl,_,AR.of M3.r1⟩,_,rfl,_,rfl,T,_,rfl,.inl (AR.of M3.tm.h1),_,_,rfl,rfl,_,rfl,by exact EM,λrp hrp=>?_⟩;have el:((((bs++[l]).map V.ref).length:Nat):Int)-1=(ts.length:Int):=by rw[ja,jw,lbs]; simp
  (try dsimp only)
  rw[el];have s4:=AY hrp (.AG [.int (p:Int),.int (ts.length:Int),.ref e]);have rop:BW (AH H3 rp (.AG [.int (p:Int),.int (ts.length:Int),.ref e])) rp (p,ts.length,qe):=⟨e,AU,Au s4 he3⟩;have M4:=M3.keep s4;have F4:=F3.trans (Fr.same (T:=T) (h:=R) (bs:=bs) s4);generalize AH H3 rp (.AG [.int (p:Int),.int (ts.length:Int),.ref e])=H4 at rop M4 F4;refine⟨R,_,_,rfl,rfl,M4.r1,lcl,?_⟩;have M5:=M4.NA (cs':=cs++[rp]) (rs':=rs++[(p,ts.length,qe)]) (ys:=cs.map V.ref++[.ref rp]) (by simp) (M4.rr.snoc rop);refine q _ (cs++[rp]) (bs++[l]) _ _ (F4.trans (Fr.up (by simp) _)) (λx hx=>?_) M5 ?_ (by simp) (λr hr'=>?_)
  ·rcases jI.mp hx with w | w
   ·exact .inl w
   ·exact .inr (by rw[jO.mp w]; exact fl)
  ·have:=g.LD hp
   rw[show hs2 (rs++[(p,ts.length,qe)])=hs2 rs++[p]++[ts.length] by unfold hs2; rw[Lm]; simp];exact this
  ·rcases jI.mp hr' with w | w
   ·exact ekr r w
   ·rw[jO.mp w]; exact eke
 refine⟨_,rfl,_,_,rfl,rfl,m4,rfl,_,rfl,?_⟩;refine LG (λ_=>?_) (λ_=>?_)
 ·
  have mp:(0:Int)<(((cs.map V.ref).length:Nat):Int):=by rw[lc]; omega
  refine⟨_,rfl,_,_,rfl,rfl,⟨by decide,by decide⟩,_,rfl,R,_,rfl,.inl (AR.of M1.r1),_,_,rfl,rfl,mp,?_⟩
  (try dsimp only)
  have d0:=k9 (z / 4) (m8 mp);have d1:=lq (z / 4) mp;rw[lc] at d0 d1 ⊢;obtain⟨k,hk⟩:∃k:Nat,z / 4 % (rs.length:Int)=(k:Int):=⟨(z / 4 % (rs.length:Int)).toNat,by omega⟩;rw[hk] at d1 ⊢;have hk2:k<rs.length:=by omega
  have hrk:rs[k]?=some rs[k]:=jb hk2;generalize rs[k]=r at hrk;obtain⟨rc,hrc,e0,hrc1,hrc2⟩:=M1.rr.get hrk;refine⟨_,rfl,_,rfl,R,_,_,_,rfl,rfl,AR.of M1.r1,Bc (DD hrc),rc,_,rfl,AK.of hrc1,rfl,_,_,rfl,_,_,rfl,_,_,rfl,rfl,?_⟩;have peR:AF (hs2 rs).length (2*(k:Int)+3):=⟨by omega,by rw[nE]; omega⟩;obtain⟨pp,tt,hpp,px,pm⟩:=g.at peR;obtain⟨a1,a2⟩:=HN hrk;have pmr:pp=r.2.1:=by
   have e1:(hs2 rs)[(2*(k:Int)+3).toNat]?=some r.2.1:=by
    rw[show(2*(k:Int)+3).toNat=2+(2*k+1) by omega];show(0 :: 1 :: CJ rs)[2+(2*k+1)]?=_;rw[show 2+(2*k+1)=2*k+1+1+1 by omega,kZ,kZ];exact a2
   rw[e1] at pm;exact(jL pm).symm
  subst pmr;have ttl:=N0 g hpp;have ppl:r.2.1<ts.length:=(jc.mp hpp).1;obtain⟨bb,hbb,bbm,abb,hBB⟩:=OW M1.tm (MV hpp);have ttn:=Uu g.nd (jd hpp);have ixl:tt.idxOf (2*(k:Int)+3)<tt.length:=l5.mpr px;have pe2:(2:Int)*(k:Int)+1=2*(k:Int)+3-2:=by omega
  refine⟨_,rfl,_,_,rfl,rfl,_,rfl,_,rfl,T,_,_,_,rfl,rfl,AR.of M1.tm.h1,abb,_,rfl,_,rfl,T,_,_,_,rfl,rfl,AR.of M1.tm.h1,abb,.inl ⟨rfl,_,AR.of hBB⟩,_,rfl,_,_,rfl,rfl,mul2 _,_,_,rfl,rfl,bb,tt.map (λx=>x-2),_,rfl,rfl,hBB,by rw[pe2]; exact MS.mpr px,by rw[ja]; omega,bb,_,_,tt.idxOf (2*(k:Int)+3),rfl,rfl,hBB,by rw[pe2,Oh px,ja,ja]; exact JQ ixl,?_⟩;have e5:((tt.map λx=>x-2).map V.int).set (tt.idxOf (2*(k:Int)+3)) (V.int (2*(rs.length:Int)+1))=((tt.map λx=>if x=2*(k:Int)+3 then ((hs2 rs).length:Int)+1 else x).map λx=>x-2).map V.int:=by
   rw[<-TN ttn px,oX,oX,em1]
  (try dsimp only)
  rw[e5];have M2:=M1.turn (t:=tt.map λx=>if x=2*(k:Int)+3 then ((hs2 rs).length:Int)+1 else x) hbb;have F2:=F1.trans (Fr.up (T:=T) (h:=R) (bs:=bs) (H:=H1) (x:=bb) (by simp[bbm]) (.AD (((tt.map λx=>if x=2*(k:Int)+3 then ((hs2 rs).length:Int)+1 else x).map λx=>x-2).map V.int)));have up2:∀{a:Addr} {qq:Rat},AS H1 a qq->AS (AH H1 bb (.AD (((tt.map λx=>if x=2*(k:Int)+3 then ((hs2 rs).length:Int)+1 else x).map λx=>x-2).map V.int))) a qq:=by
   intro a qq h;unfold AS at h ⊢;rw[Ad (λz=>by rw[z,hBB] at h; cases h)]; exact h
  have he2:=up2 he1;have ho2:=up2 hrc2;generalize AH H1 bb (.AD (((tt.map λx=>if x=2*(k:Int)+3 then ((hs2 rs).length:Int)+1 else x).map λx=>x-2).map V.int))=H2 at M2 F2 he2 ho2;refine⟨_,rfl,.inl ⟨rfl,_,AR.of M2.tm.h1⟩,_,rfl,_,_,rfl,rfl,mul2 _,_,_,rfl,rfl,_,rfl,by exact B6,λl hl=>?_⟩;have s3:=AY hl (.AD [.int (2*(k:Int)+1),.int (2*(rs.length:Int))]);refine⟨T,_,_,rfl,rfl,s3 _ _ M2.tm.h1,by rw[ja]; exact Ce (by omega),?_⟩;have fl:=FrN.free F2 M2 hl;have M3:=M2.more (u:=[2*(k:Int)+3,((hs2 rs).length:Int)]) hl;have e4:(([2*(k:Int)+3,((hs2 rs).length:Int)].map λx=>x-2).map V.int)=[.int (2*(k:Int)+1),.int (2*(rs.length:Int))]:=by
   show [V.int (2*(k:Int)+3-2),V.int (((hs2 rs).length:Int)-2)]=_;rw[<-em,<-pe2]
  rw[e4] at M3;have up3:∀{a:Addr} {qq:Rat},AS H2 a qq->AS (AH (AH H2 l (.AD [.int (2*(k:Int)+1),.int (2*(rs.length:Int))])) T (.AD (bs.map V.ref++[.ref l]))) a qq:=by
   intro a qq h
   have:=Au s3 h
   unfold AS at this ⊢;rw[Ad (λz=>by rw[z,s3 _ _ M2.tm.h1] at this; cases this)]; exact this
  have he3:=up3 he2;have ho3:=up3 ho2;have F3:=(F2.trans (Fr.same s3)).trans (Fr.up (T:=T) (h:=R) (bs:=bs) (x:=T) (by simp) (.AD (bs.map V.ref++[.ref l])));dsimp only at M3 ⊢;generalize AH (AH H2 l (.AD [.int (2*(k:Int)+1),.int (2*(rs.length:Int))])) T (.AD (bs.map V.ref++[.ref l]))=H3 at M3 he3 ho3 F3;have el:((((bs++[l]).map V.ref).length:Nat):Int)-1=(ts.length:Int):=by rw[ja,jw,lbs]; simp
  refine⟨_,rfl,_,rfl,T,_,rfl,.inl (AR.of M3.tm.h1),_,_,rfl,rfl,_,rfl,by exact EM,λnp hnp=>?_⟩
  (try dsimp only)
  rw[el];have s4:=AY hnp (.AG [.int (r.1:Int),.int (ts.length:Int),.ref e0]);have rop:BW (AH H3 np (.AG [.int (r.1:Int),.int (ts.length:Int),.ref e0])) np (r.1,ts.length,r.2.2):=⟨e0,AU,Au s4 ho3⟩;have M4:=M3.keep s4;have he4:=Au s4 he3;have F4:=F3.trans (Fr.same (T:=T) (h:=R) (bs:=bs) s4);generalize AH H3 np (.AG [.int (r.1:Int),.int (ts.length:Int),.ref e0])=H4 at rop M4 F4 he4;refine⟨_,rfl,_,rfl,R,_,_,k,rfl,rfl,M4.r1,by rw[ja,M.rr.1]; exact JQ hk2,?_⟩;have M5:=M4.NA (cs':=cs.set k np) (rs':=rs.set k (r.1,ts.length,r.2.2)) (ys:=(cs.map V.ref).set k (.ref np)) (by rw[oX]) (M4.rr.set k rop);have F5:=F4.trans (Fr.up (T:=T) (h:=R) (bs:=bs) (H:=H4) (x:=R) (by simp) (.AD ((cs.map V.ref).set k (.ref np))));have he5:AS (AH H4 R (.AD ((cs.map V.ref).set k (.ref np)))) e qe:=by
   unfold AS at he4 ⊢;rw[Ad (λz=>by rw[z,M4.r1] at he4; cases he4)]; exact he4
  generalize AH H4 R (.AD ((cs.map V.ref).set k (.ref np)))=H5 at M5 F5 he5;refine⟨_,rfl,.inl ⟨rfl,_,AR.of M5.r1⟩,_,rfl,T,_,rfl,.inl (AR.of M5.tm.h1),_,_,rfl,rfl,_,rfl,_,rfl,by exact EM,λrp hrp=>?_⟩
  (try dsimp only)
  rw[el];have s6:=AY hrp (.AG [.int (ts.length:Int),.int (r.2.1:Int),.ref e]);have rop6:BW (AH H5 rp (.AG [.int (ts.length:Int),.int (r.2.1:Int),.ref e])) rp (ts.length,r.2.1,qe):=⟨e,AU,Au s6 he5⟩;have M6:=M5.keep s6;have F6:=F5.trans (Fr.same (T:=T) (h:=R) (bs:=bs) s6);generalize AH H5 rp (.AG [.int (ts.length:Int),.int (r.2.1:Int),.ref e])=H6 at rop6 M6 F6;refine⟨R,_,_,rfl,rfl,M6.r1,by rw[ja,mI,M.rr.1]; exact Ce (by omega),?_⟩;have M7:=M6.NA (cs':=cs.set k np++[rp]) (rs':=rs.set k (r.1,ts.length,r.2.2)++[(ts.length,r.2.1,qe)]) (ys:=(cs.set k np).map V.ref++[.ref rp]) (by simp) (M6.rr.snoc rop6);refine q _ (cs.set k np++[rp]) (bs++[l]) _ _ (F6.trans (Fr.up (by simp) _)) (λx hx=>?_) M7 ?_ (by simp) (λr' hr'=>?_)
  ·rcases jI.mp hx with w | w
   ·exact .inl w
   ·exact .inr (by rw[jO.mp w]; exact fl)
  ·have:=g.part (r:=k+1) (pe:=2*(k:Int)+3) (by omega) (by push_cast; omega) hpp px
   rw[show hs2 (rs.set k (r.1,ts.length,r.2.2)++[(ts.length,r.2.1,qe)])=(hs2 rs++[ts.length]++[r.2.1]).set (2*(k:Int)+3).toNat ts.length by
    have hl0:=ES rs;rw[show(2*(k:Int)+3).toNat=2*k+1+1+1 by omega];unfold hs2;rw[Lm,aw hrk];show 0 :: 1 :: ((CJ rs).set (2*k+1) ts.length++[ts.length]++[r.2.1])=(0 :: 1 :: (CJ rs++[ts.length]++[r.2.1])).set (2*k+1+1+1) ts.length;rw[vk,vk,kN,kN,List.set_append_left _ _ (by rw[hl0]; omega)]]
   exact this
  ·rcases jI.mp hr' with w | w
   ·rcases mJ w with w | w
    ·exact ekr r' w
    ·rw[w]; exact ekr r (jd hrk)
   ·rw[jO.mp w]; exact eke
 ·
  refine⟨_,rfl,T,bs,_,rfl,M1.tm,fg g.nd,by rw[SM,ja,g.Dm.len]; omega,λd H2 s2 _ hd=>?_⟩;refine⟨_,rfl,d,ts,(hs2 rs).length,y,rfl,hd,g.Dm,by omega,yR,λrg H3 s3 nrg hrg=>?_⟩;have s23:=s2.trans s3;have M3:=M1.keep s23;have he3:=Au s23 he1;have F3:=F1.trans (Fr.same (T:=T) (h:=R) (bs:=bs) s23);have Rm:=IB PM yR;have hreach:∀{b:Int},b∈Ba (AJ ts) y->AF (hs2 rs).length b/\∃k,A2 (AJ ts) k y=b:=λhb=>⟨Kg PM yR hb,Xy PM yR Rm hb⟩
  generalize Ba (AJ ts) y=Rg at hrg Rm hreach;have Rl:0<(Rg.map λx=>x-2).length:=by rw[ja]; exact mD Rm
  have Rl2:(0:Int)<((((Rg.map λx=>x-2).map V.int).length:Nat):Int):=by rw[ja]; omega
  obtain⟨x2,xm,ex2⟩:=gn Rl (z / 4);obtain⟨x,hxm,rfl⟩:=js.mp xm;obtain⟨xR,kx⟩:=hreach hxm;have xo:=CM ev xR;have ab3:=ab;have hB3:=s23 _ _ hB;refine⟨_,rfl,_,rfl,T,_,_,_,rfl,rfl,AR.of M3.tm.h1,ab,.inl ⟨rfl,_,AR.of hB3⟩,_,rfl,_,rfl,b,_,(t1.length:Int),.int (2*(rs.length:Int)),rfl,rfl,hB3,by omega,by simp; omega,by rw[ja,ja]; omega,?_⟩;rw[em,e3];have M4:=M3.turn (t:=t1++((hs2 rs).length:Int) :: AM y :: t2) hb;have F4:=F3.trans (Fr.up (T:=T) (h:=R) (bs:=bs) (H:=H3) (x:=b) (by simp[bm]) (.AD (((t1++((hs2 rs).length:Int) :: AM y :: t2).map λx=>x-2).map V.int)));have he4:AS (AH H3 b (.AD (((t1++((hs2 rs).length:Int) :: AM y :: t2).map λx=>x-2).map V.int))) e qe:=by
   unfold AS at he3 ⊢;rw[Ad (λz=>by rw[z,hB3] at he3; cases he3)]; exact he3
  have hrg4:(AH H3 b (.AD (((t1++((hs2 rs).length:Int) :: AM y :: t2).map λx=>x-2).map V.int))) rg=some (.AD ((Rg.map λx=>x-2).map V.int)):=by
   rw[Ad (lF (BP (s2 _ _ hB) nrg))]; exact hrg
  generalize AH H3 b (.AD (((t1++((hs2 rs).length:Int) :: AM y :: t2).map λx=>x-2).map V.int))=H4 at M4 F4 he4 hrg4;have inv:∀{o:Int},o∈ts.flatten->o∈(ts.set p (t1++((hs2 rs).length:Int) :: AM y :: t2)).flatten:=by
   intro o ho;obtain⟨t,ht,hm⟩:=jN.mp ho;obtain⟨j,hj,ej⟩:=jP ht;by_cases e:p=j
   ·subst e
    have:t=t1++AM y :: t2:=by rw[jb hj,ej] at hp; exact jL hp
    subst this;refine jN.mpr ⟨_,jd (ko pl),?_⟩;rcases jI.mp hm with w | w
    ·exact mh _ w
    ·exact kj _ (jX _ w)
   ·exact jN.mpr ⟨t,jd (show(ts.set p (t1++((hs2 rs).length:Int) :: AM y :: t2))[j]?=some t by rw[kh e,jb hj,ej]),hm⟩
  have tl4:∀t∈ts.set p (t1++((hs2 rs).length:Int) :: AM y :: t2),t.length<=999:=by
   intro t ht;rcases mJ ht with w | w
   ·have:=Lp w; rw[g.Dm.len] at this; omega
   ·rw[w];rw[jw,ka] at tlen;rw[jw,ka,ka];omega
  refine⟨_,rfl,_,rfl,_,rfl,_,_,rfl,rfl,⟨by decide,by decide⟩,_,rfl,rg,_,rfl,.inl (AR.of hrg4),_,_,rfl,rfl,Rl2,rg,_,_,_,rfl,rfl,AR.of hrg4,ex2,T,bs,_,(hs2 rs).length,x,rfl,M4.tm,by omega,xR,inv ((g.mem _).mpr xo),λt ht=>by have:=tl4 t ht; omega,λp2 u pq2 H5 hp2 hxu s5 hpq2=>?_⟩;refine⟨pq2,_,rfl,AK.of hpq2,rfl,_,_,rfl,_,_,rfl,rfl,?_⟩;have M5:=M4.keep s5;have he5:=Au s5 he4;have F5:=F4.trans (Fr.same (T:=T) (h:=R) (bs:=bs) s5);obtain⟨u1,u2,rfl,nu⟩:=Lr hxu;have ixu:=L0 (u2:=u2) nu;have ul:=tl4 _ (jd hp2);obtain⟨b5,hb5,bm5,ab5,hB5⟩:=OW M5.tm (MV hp2);rw[ixu];refine⟨_,rfl,_,rfl,T,_,_,_,rfl,rfl,AR.of M5.tm.h1,ab5,.inl ⟨rfl,_,AR.of hB5⟩,_,rfl,_,rfl,_,_,rfl,rfl,b5,_,(u1.length:Int),.int (((hs2 rs).length:Int)-2+1),rfl,rfl,hB5,by omega,by simp; omega,by rw[ja,ja]; omega,?_⟩;rw[show((hs2 rs).length:Int)-2+1=((hs2 rs).length:Int)+1-2 by omega,e3];have M6:=M5.turn (t:=u1++(((hs2 rs).length:Int)+1) :: AM x :: u2) hb5;have F6:=F5.trans (Fr.up (T:=T) (h:=R) (bs:=bs) (H:=H5) (x:=b5) (by simp[bm5]) (.AD (((u1++(((hs2 rs).length:Int)+1) :: AM x :: u2).map λx=>x-2).map V.int)));have he6:AS (AH H5 b5 (.AD (((u1++(((hs2 rs).length:Int)+1) :: AM x :: u2).map λx=>x-2).map V.int))) e qe:=by
   unfold AS at he5 ⊢;rw[Ad (λz=>by rw[z,hB5] at he5; cases he5)]; exact he5
  generalize AH H5 b5 (.AD (((u1++(((hs2 rs).length:Int)+1) :: AM x :: u2).map λx=>x-2).map V.int))=H6 at M6 F6 he6;refine⟨_,rfl,.inl ⟨rfl,_,AR.of M6.r1⟩,_,rfl,_,rfl,_,rfl,by exact EM,λrp hrp=>?_⟩;have s7:=AY hrp (.AG [.int (p:Int),.int (p2:Int),.ref e]);have rop:BW (AH H6 rp (.AG [.int (p:Int),.int (p2:Int),.ref e])) rp (p,p2,qe):=⟨e,AU,Au s7 he6⟩;have M7:=M6.keep s7;have F7:=F6.trans (Fr.same (T:=T) (h:=R) (bs:=bs) s7);generalize AH H6 rp (.AG [.int (p:Int),.int (p2:Int),.ref e])=H7 at rop M7 F7;refine⟨R,_,_,rfl,rfl,M7.r1,lcl,?_⟩;have M8:=M7.NA (cs':=cs++[rp]) (rs':=rs++[(p,p2,qe)]) (ys:=cs.map V.ref++[.ref rp]) (by simp) (M7.rr.snoc rop);refine q _ (cs++[rp]) bs _ _ (F7.trans (Fr.up (by simp) _)) (λx hx=>.inl hx) M8 ?_ (by simp) (λr hr'=>?_)
  ·have:=g.K2 yR kx hp hp2
   rw[show hs2 (rs++[(p,p2,qe)])=hs2 rs++[p]++[p2] by unfold hs2; rw[Lm]; simp];exact this
  ·rcases jI.mp hr' with w | w
   ·exact ekr r w
   ·rw[jO.mp w]; exact eke
end
def cI(c:Int):Nat->Int
 | 0=>c
 | i+1=>cI c i / 2
abbrev JD(c:Int)(k:Nat):Int:=cI c k % 2
theorem CZ(c:Int)(k:Nat):JD c k=0\/JD c k=1:=by
 show cI c k % 2=0\/cI c k % 2=1;omega
abbrev oA(os:List Nat)(k:Nat):Nat:=os.getD k 0
def A9(m:Nat)(os:List Nat)(c:Int)(x:Int):Int :=
 if x<2 then 2*(m:Int)+x else if x % 2=0 then 2*(oA os ((x.toNat-2) / 2):Int)+JD c ((x.toNat-2) / 2) else 2*(oA os ((x.toNat-2) / 2):Int)+1-JD c ((x.toNat-2) / 2)
section
variable {m n:Nat} {os ps:List Nat} {c:Int}
theorem HZ:A9 m os c 0=2*(m:Int):=by unfold A9; rw[jq (by decide)]; omega
theorem IW:A9 m os c 1=2*(m:Int)+1:=by unfold A9; rw[jq (by decide)]
theorem Hj(k:Nat):A9 m os c (2*(k:Int)+2)=2*(oA os k:Int)+JD c k:=by
 unfold A9;rw[jm (by omega),jq (by omega),show((2*(k:Int)+2).toNat-2) / 2=k by omega]
theorem HX(k:Nat):A9 m os c (2*(k:Int)+3)=2*(oA os k:Int)+1-JD c k:=by
 unfold A9;rw[jm (by omega),jm (by omega),show((2*(k:Int)+3).toNat-2) / 2=k by omega]
theorem Kd{x:Int}(h:AF (2*m+2) x):x=0\/x=1\/∃k:Nat,k<m/\(x=2*(k:Int)+2\/x=2*(k:Int)+3):=by
 obtain⟨h1,h2⟩:=h;rcases oU x 2 with z | z
 ·omega
 ·exact .inr (.inr ⟨(x.toNat-2) / 2,by omega,by omega⟩)
theorem DO(h:os.Perm (ju m)){k:Nat}(hk:k<m):os[k]?=some (oA os k)/\oA os k<m:=by
 have hl:=h.length_eq;rw[jV] at hl;have hk':k<os.length:=by omega
 have e:os[k]?=some (oA os k):=by
  unfold oA;rw[je,jb hk'];rfl
 exact⟨e,jZ.mp (h.mem_iff.mp (jd e))⟩
theorem Jl(h:os.Perm (ju m)){k j:Nat}(hk:k<m)(hj:j<m)(e:oA os k=oA os j):k=j:=by
 have hl:=h.length_eq;rw[jV] at hl;have nd:os.Nodup:=h.nodup_iff.mpr lK;exact(so (by omega) nd).mp (by rw[(DO h hk).1,(DO h hj).1,e])
theorem MR(h:os.Perm (ju m)){q:Nat}(hq:q<m):∃k,k<m/\oA os k=q:=by
 have hl:=h.length_eq;rw[jV] at hl;obtain⟨k,hk,e⟩:=jP (h.mem_iff.mpr (jZ.mpr hq));refine⟨k,by omega,?_⟩;unfold oA;rw[je,jb hk,e];rfl
theorem bC(h:ps.Perm (ju n)):(0 :: 1 :: ps.map λx=>x+2).Perm (ju (n+2)):=by
 rw[lU,lU,jx,kr];exact((h.map λx=>x+2).cons 1).cons 0
theorem cq(n2:2<=n)(ho:os.Perm (ju m))(hp:ps.Perm (ju n))(p0:oA ps 0=0)(p1:oA ps 1=1):Ws n m (oA ps) (A9 m os c):=by
 have rin:∀x,AF (2*m+2) x->AF (2*m+2) (A9 m os c x):=by
  intro x hx;rcases Kd hx with rfl | rfl | ⟨k,hk,rfl | rfl⟩
  ·rw[HZ]; exact⟨by omega,by push_cast; omega⟩
  ·rw[IW]; exact⟨by omega,by push_cast; omega⟩
  ·rw[Hj]
   have:=(DO ho hk).2
   rcases CZ c k with z | z <;> (rw[z]; exact⟨by omega,by push_cast; omega⟩)
  ·rw[HX]
   have:=(DO ho hk).2
   rcases CZ c k with z | z <;> (rw[z]; exact⟨by omega,by push_cast; omega⟩)
 have surj:∀y,∃x,AF (2*m+2) y->AF (2*m+2) x/\A9 m os c x=y:=by
  intro y;by_cases hy:AF (2*m+2) y
  ·have hy':=hy;obtain⟨h1,h2⟩:=hy';push_cast at h2;by_cases e0:y=2*(m:Int)
   ·exact⟨0,λ_=>⟨⟨by omega,by push_cast; omega⟩,by rw[HZ,e0]⟩⟩
   by_cases e1:y=2*(m:Int)+1
   ·exact⟨1,λ_=>⟨⟨by omega,by push_cast; omega⟩,by rw[IW,e1]⟩⟩
   obtain⟨k,hk,ek⟩:=MR ho (q:=y.toNat / 2) (by omega);rcases(show y % 2=0\/y % 2=1 by omega) with z | z <;> rcases CZ c k with f | f
   ·exact⟨2*(k:Int)+2,λ_=>⟨⟨by omega,by push_cast; omega⟩,by rw[Hj,f,ek]; omega⟩⟩
   ·exact⟨2*(k:Int)+3,λ_=>⟨⟨by omega,by push_cast; omega⟩,by rw[HX,f,ek]; omega⟩⟩
   ·exact⟨2*(k:Int)+3,λ_=>⟨⟨by omega,by push_cast; omega⟩,by rw[HX,f,ek]; omega⟩⟩
   ·exact⟨2*(k:Int)+2,λ_=>⟨⟨by omega,by push_cast; omega⟩,by rw[Hj,f,ek]; omega⟩⟩
  ·exact⟨0,λz=>absurd z hy⟩
 have inj:∀x y,AF (2*m+2) x->AF (2*m+2) y->A9 m os c x=A9 m os c y->x=y:=by
  have io:∀{k j:Nat},k<m->j<m->oA os k=oA os j->k=j:=λh1 h2=>Jl ho h1 h2
  intro x y hx hy e;rcases Kd hx with rfl | rfl | ⟨k,hk,rfl | rfl⟩ <;> rcases Kd hy with rfl | rfl | ⟨j,hj,rfl | rfl⟩ <;> simp only[HZ,IW,Hj,HX] at e
  ·rfl
  ·omega
  ·have:=(DO ho hj).2; have:=CZ c j; omega
  ·have:=(DO ho hj).2; have:=CZ c j; omega
  ·omega
  ·rfl
  ·have:=(DO ho hj).2; have:=CZ c j; omega
  ·have:=(DO ho hj).2; have:=CZ c j; omega
  ·have:=(DO ho hk).2; have:=CZ c k; omega
  ·have:=(DO ho hk).2; have:=CZ c k; omega
  ·have:=CZ c k; have:=CZ c j
   have:=io hk hj (by omega)
   omega
  ·have:=CZ c k; have:=CZ c j
   have:=io hk hj (by omega)
   subst this;omega
  ·have:=(DO ho hk).2; have:=CZ c k; omega
  ·have:=(DO ho hk).2; have:=CZ c k; omega
  ·have:=CZ c k; have:=CZ c j
   have:=io hk hj (by omega)
   subst this;omega
  ·have:=CZ c k; have:=CZ c j
   have:=io hk hj (by omega)
   omega
 refine⟨p0,p1,λp h=>(DO hp h).2,?_,λp q h1 h2 e=>Jl hp h1 h2 e,rin,⟨λy=>wc (surj y),λy hy=>uu (surj y) hy⟩,inj,HZ,λx hx=>?_⟩
 ·have ex:∀q,∃k,q<n->k<n/\oA ps k=q:=λq=>by
   by_cases h:q<n
   ·obtain⟨k,hk⟩:=MR hp h;exact⟨k,λ_=>hk⟩
   ·exact⟨0,λz=>absurd z h⟩
  exact⟨λq=>wc (ex q),λq hq=>uu (ex q) hq⟩
 ·rcases Kd hx with rfl | rfl | ⟨k,hk,rfl | rfl⟩
  ·rw[show AM 0=1 from rfl,HZ,IW]; unfold AM; rw[jq (by omega)]
  ·rw[show AM 1=0 from rfl,HZ,IW]; unfold AM; rw[jm (by omega)]; omega
  ·rw[show AM (2*(k:Int)+2)=2*(k:Int)+3 by unfold AM; rw[jq (by omega)]; omega,Hj,HX];rcases CZ c k with f | f <;> (rw[f]; unfold AM; split <;> omega)
  ·rw[show AM (2*(k:Int)+3)=2*(k:Int)+2 by unfold AM; rw[jm (by omega)]; omega,Hj,HX];rcases CZ c k with f | f <;> (rw[f]; unfold AM; split <;> omega)
def Eh(ps:List Nat)(c:Int)(k:Nat)(r:AQ):AQ:=if JD c k=0 then (oA ps r.1,oA ps r.2.1,r.2.2) else (oA ps r.2.1,oA ps r.1,r.2.2)
theorem cn{rs rs':List AQ}(hr:rs.length=m)(hr':rs'.length=m)(ho:os.Perm (ju m))(p0:oA ps 0=0)(p1:oA ps 1=1)(h:∀(k:Nat) (r:AQ),rs[k]?=some r->rs'[oA os k]?=some (Eh ps c k r)):
  ∀x,AF (2*m+2) x->(hm rs')[(A9 m os c x).toNat]?=((hs2 rs)[x.toNat]?).map (oA ps):=by
 have l0:=ES rs';have l1:=ES rs;intro x hx;rcases Kd hx with rfl | rfl | ⟨k,hk,e⟩
 ·rw[HZ];unfold hm;rw[jy (by rw[l0]; omega),l0,show(2*(m:Int)).toNat-2*rs'.length=0 by omega];show some 0=some (oA ps 0);rw[p0]
 ·rw[IW];unfold hm;rw[jy (by rw[l0]; omega),l0,show(2*(m:Int)+1).toNat-2*rs'.length=1 by omega];show some 1=some (oA ps 1);rw[p1]
 ·have hrk:rs[k]?=some rs[k]:=jb (by omega);generalize rs[k]=r at hrk;have ho1:=(DO ho hk).2;obtain⟨b1,b2⟩:=HN hrk;obtain⟨a1,a2⟩:=HN (h k r hrk);have c1:(hs2 rs)[2*k+2]?=some r.1:=by
   show(0 :: 1 :: CJ rs)[2*k+1+1]?=_;rw[kZ,kZ]; exact b1
  have c2:(hs2 rs)[2*k+3]?=some r.2.1:=by
   show(0 :: 1 :: CJ rs)[2*k+1+1+1]?=_;rw[kZ,kZ]; exact b2
  have d1:(hm rs')[2*oA os k]?=some (Eh ps c k r).1:=by unfold hm; rw[jM (by rw[l0]; omega)]; exact a1
  have d2:(hm rs')[2*oA os k+1]?=some (Eh ps c k r).2.1:=by unfold hm; rw[jM (by rw[l0]; omega)]; exact a2
  unfold Eh at d1 d2;rcases e with rfl | rfl
  ·rw[Hj,show(2*(k:Int)+2).toNat=2*k+2 by omega,c1];rcases CZ c k with f | f
   ·rw[f,show(2*(oA os k:Int)+0).toNat=2*oA os k by omega,d1,jq f]; rfl
   ·rw[f,show(2*(oA os k:Int)+1).toNat=2*oA os k+1 by omega,d2,jm (by omega)]; rfl
  ·rw[HX,show(2*(k:Int)+3).toNat=2*k+3 by omega,c2];rcases CZ c k with f | f
   ·rw[f,show(2*(oA os k:Int)+1-0).toNat=2*oA os k+1 by omega,d2,jq f]; rfl
   ·rw[f,show(2*(oA os k:Int)+1-1).toNat=2*oA os k by omega,d1,jm (by omega)]; rfl
end
def B7(ρ:Int->Int)(i:Nat):List (Int×Int):=(ju (2*i+2)).map λj:Nat=>((j:Int)-2,ρ (j:Int))
theorem Y7(ρ:Int->Int)(i:Nat):B7 ρ (i+1)=(B7 ρ i++[(2*(i:Int),ρ (2*(i:Int)+2))])++[(2*(i:Int)+1,ρ (2*(i:Int)+3))]:=by
 unfold B7;rw[show 2*(i+1)+2=2*i+2+1+1 by omega,m9,m9,jH,jH];simp only[jx,kR];rw[show(((2*i+2:Nat):Int))=2*(i:Int)+2 by omega,show(((2*i+2+1:Nat):Int))=2*(i:Int)+3 by omega,show 2*(i:Int)+2-2=2*(i:Int) by omega,show 2*(i:Int)+3-2=2*(i:Int)+1 by omega]
theorem Sy(ρ:Int->Int)(i:Nat):(B7 ρ i).length=2*i+2:=by unfold B7; rw[ja,jV]
theorem OC(ρ:Int->Int)(i:Nat):(B7 ρ i).map (·.1)=(ju (2*i+2)).map λj:Nat=>(j:Int)-2:=by unfold B7; rw[kr]; rfl
theorem cD(ρ:Int->Int)(i:Nat):(2*(i:Int))∉(B7 ρ i).map (·.1):=by
 rw[OC];intro z;obtain⟨j,hj,e⟩:=js.mp z
 have:=jZ.mp hj
 omega
theorem b9(ρ:Int->Int)(i:Nat)(v:Int):(2*(i:Int)+1)∉(B7 ρ i++[(2*(i:Int),v)]).map (·.1):=by
 rw[jH,OC];intro z;rcases jI.mp z with z | z
 ·obtain⟨j,hj,e⟩:=js.mp z
  have:=jZ.mp hj
  omega
 ·have:2*(i:Int)+1=2*(i:Int):=by simpa using z
  omega
theorem aU(ρ:Int->Int){m:Nat}{y:Int}(h:AF (2*m+2) y):lk (B7 ρ m) (y-2)=some (ρ y):=by
 obtain⟨h1,h2⟩:=h;refine MZ ?_ ?_
 ·rw[OC];rw[nU,lP];exact nj (λ{a b} hab e=>hab (by omega)) (lK (n:=2*m+2))
 ·unfold B7;refine js.mpr ⟨y.toNat,jZ.mpr (by omega),?_⟩;rw[show((y.toNat:Nat):Int)=y by omega]
theorem Mc{α:Type}{R:Hp->Addr->α->Prop}{H:Hp}:∀{mv:List V} {Pq:Nat->α->Prop},(∀q,q<mv.length->∃d x,mv[q]?=some (.ref d)/\R H d x/\Pq q x)->∃(ds:List Addr) (xs:List α),mv=ds.map V.ref/\At R H ds xs/\∀q x,xs[q]?=some x->Pq q x
 | [],Pq,_=>⟨[],[],rfl,At.nil,by simp⟩
 | v :: mv,Pq,h=>by
  obtain⟨d,x,e1,e2,e3⟩:=h 0 (by simp);obtain⟨ds,xs,f1,f2,f3⟩:=Mc (mv:=mv) (Pq:=λq=>Pq (q+1)) (λq hq=>by
   obtain⟨d,x,e1,e2,e3⟩:=h (q+1) (by simpa using hq);exact⟨d,x,by simpa using e1,e2,e3⟩)
  have ev:v=.ref d:=by simpa using e1
  subst ev;subst f1;refine⟨d :: ds,x :: xs,rfl,⟨by simp[f2.1],λi b y g1 g2=>?_⟩,λq y hq=>?_⟩
  ·cases i with
   | zero=>cases g1; cases g2; exact e2
   | succ i=>exact f2.2 i b y (by simpa using g1) (by simpa using g2)
  ·cases q with
   | zero=>cases hq; exact e3
   | succ q=>exact f3 q y (by simpa using hq)
theorem QU:∀(ss:List Nat) (k:Nat),(Bj ss).eraseIdx k=Bj (ss.eraseIdx k)
 | [],k=>by cases k <;> rfl
 | s :: ss,0=>rfl
 | s :: ss,k+1=>by
  show _ :: (Bj ss).eraseIdx k=_ :: Bj (ss.eraseIdx k);rw[QU ss k]
theorem NN{α:Type}:∀{ss:List α} {k:Nat} {x:α},ss[k]?=some x->(x :: ss.eraseIdx k).Perm ss
 | s :: ss,0,x,h=>by cases h; exact .refl _
 | s :: ss,k+1,x,h=>by
  have:=NN (ss:=ss) (k:=k) (by simpa using h)
  exact(pQ.swap s x _).trans (this.cons s)
theorem LY{H:Hp}{b c:Addr}{o o':HO}{r:AQ}(hb:H b=some o')(hn:∀ys,o'≠.AG ys)(h:BW H c r):BW (AH H b o) c r:=by
 obtain⟨e,h1,h2⟩:=h;refine⟨e,by rw[Ad (λz=>by rw[z,hb] at h1; exact hn _ (jL h1))]; exact h1,?_⟩;unfold AS at h2 ⊢;rw[Ad (λz=>by rw[z,hb] at h2; exact hn _ (jL h2))]; exact h2
section
variable {P:j8} {w:World} {K:jk} {mg:Str->Option Value} {base:Heap} {f g h f1 f2 f3 f4:Addr} {fd gd hd d1 d2 d3 d4:kF}
inductive RM(vs:List V)(H:Hp)(Q:VK):Prop
 | mk (m:Nat) (c:Int) (h_0:vs=[.int (m:Int),.int c]) (h_1:m<=100) (h_2:∀p l os c' H',AN H H'->H l=none->H' p=some (.AG [.ref l,.int c'])->H' l=some (.AD (Bj os))->os.Perm (ju m)->Q (.ref p) H'):RM vs H Q
def Sr:Sp:=λvs H Q _=>RM vs H Q
theorem K8:Ay ["_law_many","_law_c","_law_some","_law_found","_law_at"] ["_law_many","_law_c"] (Ao s_law_order):=A7
theorem Y6(F:Ar K "_law_order" "_law_order" s_law_order f fd)(ml:mg "len" = none)(mr:mg "range" = none)(mi:mg "list" = none):An P w K mg base Av 1 f fd ["_law_many","_law_c"] Sr:=by
 refine F.BA K8 λcdv A outer s H vs Q E hr h=>?_
 obtain⟨m,c,rfl,hm,q⟩:=h;refine⟨_,AO (AW (i:=2) K8.nd rfl (jn rfl) (XQ rfl (by rfl) mi (by rfl) mr (pv 0)))
  (AO (AW (i:=3) K8.nd rfl (jn rfl) (Bz AB))
  (AO (HJ j3 (BQ K4 (A3 (Be (K:=K)) (by rfl) ml BN (AA (pv 2) AB)) AE (BJ _))
   (AO (AW (i:=4) K8.nd rfl (jn rfl) (AL Bw (pv 1) (A3 (Be (K:=K)) (by rfl) ml BN (AA (pv 2) AB))))
   (AO (AW (i:=1) K8.nd rfl (jn rfl) (AL EE (pv 1) (A3 (Be (K:=K)) (by rfl) ml BN (AA (pv 2) AB))))
   (AV (C3 (CY K jT kf kg DY (pv 3) (AA (CY K jT uA uB Rc (pv 2) (AA (pv 4) AB)) AB)))))))
  (AV (Aq (BZ (AA (pv 3) (AA (pv 1) AB))))))),?_⟩
 refine⟨_,rfl,m,rfl,by omega,λS hS=>?_⟩;obtain⟨H1,zg,sS,zz⟩:=nw hS (.AD ((ju m).map λi:Nat=>V.int (i:Int)));rw[zg];have eS:H1 S=some (.AD (Bj (ju m))):=zz;refine⟨by exact E4,λL hL=>?_⟩;obtain⟨H2,zg,sL,zz⟩:=nw hL (.AD []);rw[zg];have eL:H2 L=some (.AD (Bj [])):=zz;have nSL:S≠L:=BP eS hL;have eS1:=sL _ _ eS;have fL:H L=none:=sS.free hL;refine Gz (λσ H3=>∃c u ss os,σ=[some (.int (m:Int)),some (.int c),some (.ref S),some (.ref L),u]/\AN H H3/\H3 S=some (.AD (Bj ss))/\H3 L=some (.AD (Bj os))/\(os++ss).Perm (ju m)) (λ_ H3=>match H3 S with | some (.AD xs)=>xs.length | _=>0)
  ⟨c,none,ju m,[],rfl,sS.trans sL,eS1,eL,.refl _⟩ ?_ ?_
 ·rintro σ H3 ⟨c,u,ss,os,rfl,s3,hS3,hL3,pm⟩;have lens:=pm.length_eq;rw[jw,jV] at lens;refine⟨_,rfl,S,_,rfl,.inl (AR.of hS3),_,_,rfl,rfl,_,rfl,?_⟩;by_cases hz:ss.length=0
  ·refine Ca (by rw[ja]; omega) ?_
   have:ss=[]:=mf.mp hz
   subst this;rw[lC] at pm;refine⟨_,rfl,_,rfl,by exact B6,λp hp=>?_⟩;exact q p L os c _ (s3.trans (AY hp _)) fL AU (AY hp _ _ _ hL3) pm
  ·refine Cy (by rw[ja]; omega) ?_;have lp:(0:Int)<(((Bj ss).length:Nat):Int):=by rw[ja]; omega
   refine⟨_,rfl,_,rfl,S,_,rfl,.inl (AR.of hS3),_,_,rfl,rfl,lp,?_⟩;refine⟨_,rfl,_,rfl,S,_,rfl,.inl (AR.of hS3),_,_,rfl,rfl,⟨lp,by rw[ja]; show(ss.length:Int)<1073741824; omega⟩,?_⟩
   (try dsimp only)
   have d0:=k9 c (m8 lp);have d1:=lq c lp;rw[ja] at d0 d1 ⊢;obtain⟨k,hk⟩:∃k:Nat,c % (ss.length:Int)=(k:Int):=⟨(c % (ss.length:Int)).toNat,by omega⟩;rw[hk] at d1 ⊢;have hk2:k<ss.length:=by omega
   have ek:ss[k]?=some ss[k]:=jb hk2;generalize ss[k]=x at ek;have ev:(Bj ss)[k]?=some (.int (x:Int)):=by rw[ji,ek]; rfl
   refine⟨_,rfl,.inl ⟨rfl,_,AR.of hL3⟩,_,rfl,.inl ⟨rfl,_,AR.of hS3⟩,_,rfl,S,_,(k:Int),k,_,rfl,rfl,hS3,by omega,by omega,(OI (by rw[ja]; exact JQ hk2)).1,ev,L,_,_,rfl,rfl,by rw[Ad (lF nSL)]; exact hL3,by rw[ja]; exact Ce (by omega),?_⟩;rw[QU];refine⟨⟨_,_,ss.eraseIdx k,os++[x],rfl,(s3.up hS _).up fL _,by rw[Ad nSL,AU],by rw[AU]; simp,?_⟩,?_⟩
   ·refine pQ.trans ?_ pm;rw[kN];exact(NN ek).append_left os
   ·rw[Ad nSL,AU,hS3];show(Bj (ss.eraseIdx k)).length<(Bj ss).length;rw[ja,ja]
    have:=(NN ek).length_eq
    rw[ka] at this;omega
 ·rintro σ H2 Q1 Q2 hq ⟨v,e,p,ys,e1,e2,i,j,e3,e4,b,eb,z⟩;exact⟨v,e,p,ys,e1,e2,i,j,e3,e4,b,eb,hq _ _ z⟩
theorem JY{os:List Nat}{m:Nat}(h:os.Perm (ju m)){k:Nat}(hk:k<m):Bv (Bj os) ((k:Nat):Int)=some (.int ((oA os k:Nat):Int)):=c6 (DO h hk).1
theorem V3(v:V)(k:Nat):(jo k [v]).flatten=jo k v:=by
 induction k with
 | zero=>rfl
 | succ k ih=>rw[km,j5,ih,km]; rfl
theorem VR{ts:List (List Int)}{hs:List Nat}(g:Gn ts hs){j p:Nat}(h:hs[j]?=some p):p<ts.length:=by
 have hj:=(jc.mp h).1;obtain⟨p',t,a,_,b⟩:=g.at (x:=(j:Int)) ⟨by omega,by omega⟩;rw[kQ,h] at b;cases b;exact(jc.mp a).1
theorem aK(x y:Nat){z:Int}(h:z=0\/z=1):Bv [V.int (x:Int),V.int (y:Int)] z=some (.int ((if z=0 then x else y:Nat):Int))/\Bv [V.int (x:Int),V.int (y:Int)] (1-z)=some (.int ((if z=0 then y else x:Nat):Int)):=by
 rcases h with rfl | rfl
 ·exact⟨BF,at1⟩
 ·exact⟨at1,BF⟩
theorem dE(ps:List Nat)(c:Int)(k:Nat)(r:AQ):Eh ps c k r=((if cI c k % 2=0 then oA ps r.1 else oA ps r.2.1:Nat),(if cI c k % 2=0 then oA ps r.2.1 else oA ps r.1:Nat),r.2.2):=by
 unfold Eh;by_cases z:cI c k % 2=0
 ·rw[jq z,jq z,jq z]
 ·rw[jm z,jm z,jm z]
inductive Uo(vs:List V)(H:Hp)(Q:VK):Prop
 | mk (R T:Addr) (cs bs:List Addr) (ts:List (List Int)) (rs:List AQ) (c:Int) (h_0:vs=[.ref R,.ref T,.int c]) (h_1:CU H R T cs bs ts rs) (h_2:Gn ts (hs2 rs)) (h_3:rs.length<=14) (h_4:(∀r∈rs,EX r.2.2)) (h_5:∀p ra ta n rs' us H',AN H H'->H' p=some (.AG [.int ((n:Nat):Int),.ref ra,.ref ta])->A4 BW H' ra rs'->A4 BV H' ta us->NetV n rs' us->LO us rs'.length->Q (.ref p) H'):Uo vs H Q
def Vz:Sp:=λvs H Q _=>Uo vs H Q
theorem DH:Ay ["_law_ropes","_law_turns","_law_c","_law_many","_law_order_here","_law_places","_law_names","_law_made","_law_k","_law_rope","_law_flip","_law_pair","_law_rows","_law_turn","_law_row_here","_law_cut"] ["_law_ropes","_law_turns","_law_c"] (Ao s_law_finished):=A7
theorem eU:(["_law_place"]:List Str).Nodup:=by decide +kernel
theorem gF:(["_law_end","_law_names"]:List Str).Nodup:=by decide +kernel
set_option maxHeartbeats 2000000 in
seal L2.DC L2.PS L2.PE L2.PA in
theorem dD (F:Ar K "_law_finished" "_law_finished" s_law_finished f fd) (G1:Aj P w K mg base 1 "_law_order" ["_law_many","_law_c"] Sr)
  (ml:mg "len" = none) (me:mg "enumerate" = none) (mt:mg "tuple" = none):An P w K mg base Av 2 f fd ["_law_ropes","_law_turns","_law_c"] Vz:=by
 refine F.BA DH λcdv A outer s H vs Q E hr h=>?_
 obtain⟨R,T,cs,bs,ts,rs,c,rfl,M,g,h14,ekr,q⟩:=h;have hu:=FD hr;refine⟨_,AO (AW (i:=3) DH.nd rfl (jn rfl) (A3 (Be (K:=K)) (by rfl) ml BN (AA (pv 0) AB)))
  (AO (DZ (AZ G1 hr (AA (pv 3) (AA (pv 2) AB))) (Dn (n:=2) (K:=K) rfl (BI (Af (i:=4) DH.nd rfl (jn rfl)) (BI (Af (i:=2) DH.nd rfl (jn rfl)) Ck))))
  (AO (DZ (AZ G1 hr (AA (AL DN (A3 (Be (K:=K)) (by rfl) ml BN (AA (pv 1) AB)) AE) (AA (pv 2) AB))) (Dn (n:=2) (K:=K) rfl (BI (Af (i:=5) DH.nd rfl (jn rfl)) (BI (Af (i:=2) DH.nd rfl (jn rfl)) Ck))))
  (AO (AW (i:=5) DH.nd rfl (jn rfl) (AL HU (Bz (AA AE (AA AE AB))) (C1 (Nc:=["_law_place"]) (cap:=[]) (g:=BR 0) (te:=Bg (FN λi j=>.int (i+j)) (Ap 0) (tC (.int 2))) rfl (IX (K:=K) (pv 5))
    (CB rfl rfl (by decide +kernel) (by decide +kernel) (jr _) rfl (jr _)) (λ_ _ _ _ _=>Af (i:=0) eU rfl (jn rfl)) (λ_ _ _ _ _=>AL BL (pv 0) AE))))
  (AO (AW (i:=6) DH.nd rfl (om rfl) (S1 (Nv (GK GJ AE) (AL Bt AE (pv 3)) (Nv (GK GJ AE) (AL BL (AL Bt AE (pv 3)) AE) TU)) rfl rfl (λz=>by cases z) (by decide)))
  (AO (AW (i:=7) DH.nd rfl (jn rfl) (AL MA (Bz (AA Kx AB)) (pv 3)))
  (AO (CV j3 rfl (JW (by rfl) me (AA (pv 0) AB)) (Dn (n:=2) (K:=K) rfl (BI (Af (i:=8) DH.nd rfl (jn rfl)) (BI (Af (i:=9) DH.nd rfl (jn rfl)) Ck)))
   (AO (AW (i:=10) DH.nd rfl (jn rfl) (AL Bw (pv 2) AE))
   (AO (AW (i:=2) DH.nd rfl (jn rfl) (AL EE (pv 2) AE))
   (AO (GC hu (pv 6) (AL Bt AE (pv 8)) (AL BL (AL Bt AE (pL K (pv 4) (pv 8))) (pv 10)) rfl)
   (AO (GC hu (pv 6) (AL BL (AL Bt AE (pv 8)) AE) (AL DN (AL BL (AL Bt AE (pL K (pv 4) (pv 8))) AE) (pv 10)) rfl)
   (AO (AW (i:=11) DH.nd rfl (jn rfl) (Bz (AA (pL K (pv 5) (pT K (pv 9) AE)) (AA (pL K (pv 5) (pT K (pv 9) AE)) AB))))
   (AV (DZ (BZ (AA (pL K (pv 11) (pv 10)) (AA (pL K (pv 11) (AL DN AE (pv 10))) (AA (pT K (pv 9) AE) AB)))) (FC (pv 7) (pL K (pv 4) (pv 8)) E8)))))))))
  (AO (AW (i:=12) DH.nd rfl (jn rfl) (AL MA (Bz (AA (BZ AB) AB)) (A3 (Be (K:=K)) (by rfl) ml BN (AA (pv 1) AB))))
  (AO (CV j3 rfl (JW (by rfl) me (AA (pv 1) AB)) (Dn (n:=2) (K:=K) rfl (BI (Af (i:=8) DH.nd rfl (jn rfl)) (BI (Af (i:=13) DH.nd rfl (jn rfl)) Ck)))
   (AO (JI (i:=14) DH.nd rfl (jn rfl) (Nc:=["_law_end","_law_names"]) (cap:=[(1,6)]) (g:=BR 0) (te:=Mh (Ap 1) (Ap 0)) rfl (IX (K:=K) (pv 13))
    (CB rfl rfl (by decide +kernel) (by decide +kernel) (jv.mpr ⟨⟨rfl,rfl⟩,jr _⟩) rfl (jv.mpr ⟨⟨_,_,rfl,rfl,rfl,rfl,rfl⟩,jr _⟩)) (λ_ _ _ _ _=>Af (i:=0) gF rfl (jn rfl))
    (λ_ _ _ _ _=>ET hu (pv 1) (pv 0) (λ_ _=>rfl)))
   (AO (AW (i:=15) DH.nd rfl (jn rfl) (AL Bw (pv 2) (A3 (Be (K:=K)) (by rfl) ml BN (AA (pv 14) AB))))
   (AO (AW (i:=2) DH.nd rfl (jn rfl) (AL EE (pv 2) (A3 (Be (K:=K)) (by rfl) ml BN (AA (pv 14) AB))))
   (AV (DZ (CP (ED (K:=K)) (by rfl) mt CG (AA (AL HU (EC (QH (K:=K)) (pv 14) (D0 (pv 15)) EO) (EC (QH (K:=K)) (pv 14) EO (D0 (pv 15)))) AB)) (FC (pv 12) (pL K (pv 5) (pv 8)) E8)))))))
  (AV (Aq (BZ (AA (A3 (Be (K:=K)) (by rfl) ml BN (AA (pv 1) AB)) (AA (CP (ED (K:=K)) (by rfl) mt CG (AA (pv 7) AB)) (AA (CP (ED (K:=K)) (by rfl) mt CG (AA (pv 12) AB)) AB))))))))))))))
  ,?_⟩
 have tsl:=g.tsl;have two:=g.two;have hln:(hs2 rs).length=2*rs.length+2:=by rw[jw,ES]; simp; omega
 have lc:(((cs.map V.ref).length:Nat):Int)=(rs.length:Int):=by rw[ja,M.rr.1]
 have lb:(((bs.map V.ref).length:Nat):Int)=(ts.length:Int):=by rw[ja,M.bl]
 have mul2:∀x:Int,Iw 2 x:=λx=>.inl ⟨by decide,by decide⟩
 refine⟨_,rfl,R,_,rfl,.inl (AR.of M.r1),?_⟩
 (try dsimp only)
 rw[lc];refine⟨_,rfl,_,rfl,rs.length,c,rfl,by omega,λq1 L1 os c1 H1 s1 nL1 hq1 hL1 po=>?_⟩;refine⟨q1,_,rfl,AK.of hq1,rfl,_,_,rfl,_,_,rfl,rfl,?_⟩;have M1:=M.keep s1;refine⟨_,rfl,T,_,rfl,.inl (AR.of M1.tm.h1),_,_,rfl,rfl,_,rfl,ts.length-2,c1,by rw[lb]; (try dsimp only); rw[show(ts.length:Int)-2=((ts.length-2:Nat):Int) by omega]; rfl,by omega,λq2 L2 ps c2 H2 s2 nL2 hq2 hL2 pp=>?_⟩;refine⟨q2,_,rfl,AK.of hq2,rfl,_,_,rfl,_,_,rfl,rfl,?_⟩;clear hq1 hq2;refine⟨by exact B6,λla hla=>?_⟩;obtain⟨H3,zg,sa,ea⟩:=nw hla (.AD [.int 0,.int 1]);rw[zg];have hL2a:=sa _ _ hL2;have lps:ps.length=ts.length-2:=by have:=pp.length_eq; rwa [jV] at this
 refine⟨_,rfl,L2,rfl,⟨_,AR.of hL2a⟩,λacc hacc=>?_⟩;refine CQ (E7 hL2a) (by rw[ja]; omega) hacc (λj ys σ hp=>ys=(Bj (ps.map λx=>x+2)).take j/\∃u,σ=[u]) ⟨rfl,none,rfl⟩ ?_ ?_
 ·rintro j ys σ H7 x H8 hj sm hacc2 ⟨rfl,u,rfl⟩ ⟨rfl,hx⟩ Cc hC;have hj':j<ps.length:=by rw[ja] at hj; exact hj
  rw[ji,jb hj'] at hx;cases hx;refine⟨_,rfl,_,_,rfl,rfl,?_⟩;refine hC _ _ _ (AN.refl _) ⟨?_,_,rfl⟩;have ee:(Bj (ps.map λx=>x+2))[j]?=some (.int ((ps[j]:Nat)+2:Int)):=by
   rw[ji,ji,jb hj'];rfl
  rw[C0 ee]
 rintro ys σ H4 s4 hacc4 _ ⟨rfl,u,rfl⟩;rw[ja,jz (by rw[ja,ja]; exact jj _)] at hacc4;refine⟨la,acc,_,_,rfl,rfl,s4 _ _ ea,hacc4,by rw[ja,ja]; exact Dp (by simp; omega),λPl hPl=>?_⟩;have pe:[V.int 0,V.int 1]++Bj (ps.map λx=>x+2)=Bj (0 :: 1 :: ps.map λx=>x+2):=rfl;rw[pe];have pl:=bC pp;rw[show ts.length-2+2=ts.length by omega] at pl;have p0:oA (0 :: 1 :: ps.map λx=>x+2) 0=0:=rfl;have p1:oA (0 :: 1 :: ps.map λx=>x+2) 1=1:=rfl;generalize (0 :: 1 :: ps.map λx=>x+2)=pls at pl p0 p1;have s5:AN H (AH H4 Pl (.AD (Bj pls))):=s1.trans (s2.trans (sa.trans (s4.trans (AY hPl _))));have eP:(AH H4 Pl (.AD (Bj pls))) Pl=some (.AD (Bj pls)):=AU;have eO:(AH H4 Pl (.AD (Bj pls))) L1=some (.AD (Bj os)):=AY hPl _ _ _ (s4 _ _ (sa _ _ (s2 _ _ hL1)));generalize AH H4 Pl (.AD (Bj pls))=H5 at s5 eP eO;clear s4 sa s2 s1 hacc4 hL2a hL2 hL1 ea hPl hacc hla;have M5:=M.keep s5;refine λD hD=>?_
 have sD0:=AY hD (.dK []);refine⟨_,rfl,_,rfl,_,_,rfl,rfl,mul2 _,_,rfl,_,rfl,_,_,rfl,rfl,mul2 _,_,_,rfl,rfl,?_⟩;refine⟨AU,[(j4 (-2),.int (2*(rs.length:Int))),(j4 (-1),.int (2*(rs.length:Int)+1))],rfl,by show 2<=15; decide,?_⟩;have eN:Ff [] [((j4 (-2):Aa),V.int (2*(rs.length:Int))),(j4 (-1),.int (2*(rs.length:Int)+1))]=BG (B7 (A9 rs.length os c2) 0):=by
  show CN (CN (BG []) (j4 (-2):Aa) (.int (2*(rs.length:Int)))) (j4 (-1):Aa) (.int (2*(rs.length:Int)+1))=_;rw[HP (by simp),HP (by simp)];show BG [(-2,2*(rs.length:Int)),(-1,2*(rs.length:Int)+1)]=BG [(((0:Nat):Int)-2,A9 rs.length os c2 ((0:Nat):Int)),(((1:Nat):Int)-2,A9 rs.length os c2 ((1:Nat):Int))];rw[show((0:Nat):Int)=0 from rfl,show((1:Nat):Int)=1 from rfl,HZ,IW];rfl
 rw[eN];have sD:=sD0.up hD (.dK (BG (B7 (A9 rs.length os c2) 0)));have eD:(AH (AH H5 D (.dK [])) D (.dK (BG (B7 (A9 rs.length os c2) 0)))) D=some (.dK (BG (B7 (A9 rs.length os c2) 0))):=AU;generalize AH (AH H5 D (.dK [])) D (.dK (BG (B7 (A9 rs.length os c2) 0)))=H6 at sD eD;refine⟨by exact Ei,λl0 hl0=>?_⟩;obtain⟨H7,zg,s0,e0⟩:=nw hl0 (.AD [.BE]);rw[zg];have eD0:=s0 _ _ eD;have s60:=sD.trans s0;refine⟨_,rfl,l0,_,_,rfl,rfl,e0,by omega,by omega,by rw[kX]; exact Dp (by omega),λMk hMk=>?_⟩;rw[V3,show((rs.length:Int)).toNat=rs.length by omega];obtain⟨H8,zg,sM,eM⟩:=nw hMk (.AD (jo rs.length .BE));rw[zg];have eD1:=sM _ _ eD0;have s6:=s60.trans sM;have nDM:D≠Mk:=BP eD0 hMk;have fM:H5 Mk=none:=s60.free hMk;clear s60 s0 e0 eD0 sD eD sD0
 try dsimp only
 try refine Cw ?_
 first | refine Cv λUL hUL=>?_ | refine nx_hide λUL hUL=>?_
 refine⟨_,rfl,R,_,rfl,(M5.keep s6).r1,?_⟩;refine NV (xs:=cs.map V.ref) (λi σ H2=>∃uk ur uf up mv,σ=[some (.ref R),some (.ref T),some (.int (cI c2 i)),some (.int (rs.length:Int)),some (.ref L1),some (.ref Pl),some (.ref D),some (.ref Mk),uk,ur,uf,up,none,none,none,none]/\AN H5 H2/\H2 D=some (.dK (BG (B7 (A9 rs.length os c2) i))) /\
   H2 Mk=some (.AD mv)/\mv.length=rs.length/\∀k,k<i->∃d r,rs[k]?=some r/\mv[oA os k]?=some (.ref d)/\BW H2 d (Eh pls c2 k r))
  ⟨none,none,none,none,_,rfl,s6,eD1,eM,by rw[oW],λk hk=>by omega⟩ (λi σ H2 _ ⟨_,_,_,_,_,_,s2,_⟩=>(M5.keep s2).r1) ?_ ?_
 ·rintro i x σ H2 p hx ⟨uk,ur,uf,up,mv,rfl,s2,hD2,hM2,lmv,made⟩ hp U0 hU0;obtain⟨d,r,rfl,hd,hr2,hR0⟩:=M5.rr.ref hx;have hi:i<rs.length:=(jc.mp hr2).1;have sp:=AY hp (.AG [.int i,.ref d]);have hD3:=sp _ _ hD2;have hM3:=sp _ _ hM2;have s3:=s2.trans sp;have made3:∀k,k<i->∃d' r,rs[k]?=some r/\mv[oA os k]?=some (.ref d')/\BW (AH H2 p (.AG [.int i,.ref d])) d' (Eh pls c2 k r):=λk hk=>by
   obtain⟨d,r,a1,a2,a3⟩:=made k hk;exact⟨d,r,a1,a2,Cj sp a3⟩
  refine⟨p,_,rfl,AK.of AU,rfl,_,_,rfl,_,_,rfl,rfl,?_⟩;generalize AH H2 p (.AG [.int i,.ref d])=H3 at s3 hD3 hM3 made3;clear made sp hD2 hM2 s2 hp
  try dsimp only
  try refine Cw ?_
  first | refine Cv λU hU=>?_ | refine nx_hide λU hU=>?_
  refine⟨_,rfl,_,_,rfl,rfl,(show(0:Int)<2 by decide),?_⟩;subst hU
  try dsimp only
  try refine Cw ?_
  first | refine Cv λU hU=>?_ | refine nx_hide λU hU=>?_
  refine⟨_,rfl,_,_,rfl,rfl,⟨by decide,by decide⟩,?_⟩;subst hU;have szd:∀(L:List (Int×Int)),L.length<=100->(BG L).length<jR:=λL hL=>by rw[ja]; exact Ce (by omega)
  try dsimp only
  try refine Cw ?_
  first | refine Cv λU hU=>?_ | refine nx_hide λU hU=>?_
  refine⟨_,rfl,_,rfl,L1,_,_,_,rfl,rfl,AR.of (s3 _ _ eO),JY po hi,_,_,rfl,rfl,mul2 _,_,rfl,_,_,rfl,rfl,_,rfl,_,rfl,_,_,rfl,rfl,mul2 _,D,_,rfl,D5.k (k:=j4 (2*(i:Int))) hD3 (szd _ (by rw[Sy]; omega)),?_⟩;have v1:2*((oA os i:Nat):Int)+cI c2 i % 2=A9 rs.length os c2 (2*(i:Int)+2):=(Hj i).symm;have v2:2*((oA os i:Nat):Int)+1-cI c2 i % 2=A9 rs.length os c2 (2*(i:Int)+3):=(HX i).symm
  (try dsimp only)
  rw[v1,HP (cD _ i)];have s4:=s3.up hD (.dK (BG (B7 (A9 rs.length os c2) i++[(2*(i:Int),A9 rs.length os c2 (2*(i:Int)+2))])));have hD4:(AH H3 D (.dK (BG (B7 (A9 rs.length os c2) i++[(2*(i:Int),A9 rs.length os c2 (2*(i:Int)+2))])))) D=some (.dK (BG (B7 (A9 rs.length os c2) i++[(2*(i:Int),A9 rs.length os c2 (2*(i:Int)+2))]))):=AU;have hM4:(AH H3 D (.dK (BG (B7 (A9 rs.length os c2) i++[(2*(i:Int),A9 rs.length os c2 (2*(i:Int)+2))])))) Mk=some (.AD mv):=by rw[Ad (lF nDM)]; exact hM3
  have made4:∀k,k<i->∃d' r,rs[k]?=some r/\mv[oA os k]?=some (.ref d')/\BW (AH H3 D (.dK (BG (B7 (A9 rs.length os c2) i++[(2*(i:Int),A9 rs.length os c2 (2*(i:Int)+2))])))) d' (Eh pls c2 k r):=λk hk=>by
   obtain⟨d,r,a1,a2,a3⟩:=made3 k hk;exact⟨d,r,a1,a2,LY hD3 (λys z=>by cases z) a3⟩
  generalize AH H3 D (.dK (BG (B7 (A9 rs.length os c2) i++[(2*(i:Int),A9 rs.length os c2 (2*(i:Int)+2))])))=H4 at s4 hD4 hM4 made4;clear made3 s3 hD3 hM3;subst hU
  try dsimp only
  try refine Cw ?_
  first | refine Cv λU hU=>?_ | refine nx_hide λU hU=>?_
  refine⟨_,rfl,_,rfl,L1,_,_,_,rfl,rfl,AR.of (s4 _ _ eO),JY po hi,_,_,rfl,rfl,mul2 _,_,_,rfl,rfl,_,rfl,_,_,rfl,rfl,_,rfl,_,rfl,_,_,rfl,rfl,mul2 _,_,_,rfl,rfl,D,_,rfl,D5.k (k:=j4 (2*(i:Int)+1)) hD4 (szd _ (by rw[jw,Sy,kX]; omega)),?_⟩
  (try dsimp only)
  rw[v2,HP (b9 _ i _),<-Y7];have s5':=s4.up hD (.dK (BG (B7 (A9 rs.length os c2) (i+1))));have hD5:(AH H4 D (.dK (BG (B7 (A9 rs.length os c2) (i+1))))) D=some (.dK (BG (B7 (A9 rs.length os c2) (i+1)))):=AU;have hM5:(AH H4 D (.dK (BG (B7 (A9 rs.length os c2) (i+1))))) Mk=some (.AD mv):=by rw[Ad (lF nDM)]; exact hM4
  have made5:∀k,k<i->∃d' r,rs[k]?=some r/\mv[oA os k]?=some (.ref d')/\BW (AH H4 D (.dK (BG (B7 (A9 rs.length os c2) (i+1))))) d' (Eh pls c2 k r):=λk hk=>by
   obtain⟨d,r,a1,a2,a3⟩:=made4 k hk;exact⟨d,r,a1,a2,LY hD4 (λys z=>by cases z) a3⟩
  generalize AH H4 D (.dK (BG (B7 (A9 rs.length os c2) (i+1))))=H5' at s5' hD5 hM5 made5;clear made4 s4 hD4 hM4;subst hU;obtain⟨e,hd1,hd2⟩:=id hR0;obtain⟨g1,g2⟩:=HN hr2;have r1:r.1<ts.length:=VR g (j:=2*i+2) (by show(0 :: 1 :: CJ rs)[2*i+1+1]?=_; rw[kZ,kZ]; exact g1);have r2:r.2.1<ts.length:=VR g (j:=2*i+3) (by show(0 :: 1 :: CJ rs)[2*i+1+1+1]?=_; rw[kZ,kZ]; exact g2)
  try dsimp only
  try refine Cw ?_
  first | refine Cv λU hU=>?_ | refine nx_hide λU hU=>?_
  refine⟨_,rfl,_,rfl,d,_,_,_,rfl,rfl,AK.of (s5' _ _ hd1),Iu _ _ _,Pl,_,_,_,rfl,rfl,AR.of (s5' _ _ eP),JY pl r1,_,rfl,_,rfl,d,_,_,_,rfl,rfl,AK.of (s5' _ _ hd1),Ea _ _ _,Pl,_,_,_,rfl,rfl,AR.of (s5' _ _ eP),JY pl r2,by exact B6,λpr hpr=>?_⟩;obtain⟨H6',zg,s6',hp6⟩:=nw hpr (.AD [.int ((oA pls r.1:Nat):Int),.int ((oA pls r.2.1:Nat):Int)]);rw[zg];subst hU;obtain⟨f1',f2'⟩:=aK (oA pls r.1) (oA pls r.2.1) (CZ c2 i);have s56:=s5'.trans s6';refine⟨_,rfl,_,rfl,pr,_,_,_,rfl,rfl,AR.of hp6,f1',_,rfl,_,rfl,_,_,rfl,rfl,pr,_,_,_,rfl,rfl,AR.of hp6,f2',_,rfl,d,_,_,_,rfl,rfl,AK.of (s56 _ _ hd1),Fu _ _ _,by exact EM,λnp hnp=>?_⟩;have s7:=AY hnp (.AG [.int ((if cI c2 i % 2=0 then oA pls r.1 else oA pls r.2.1:Nat):Int),.int ((if cI c2 i % 2=0 then oA pls r.2.1 else oA pls r.1:Nat):Int),.ref e]);have hn7:BW (AH H6' np (.AG [.int ((if cI c2 i % 2=0 then oA pls r.1 else oA pls r.2.1:Nat):Int),.int ((if cI c2 i % 2=0 then oA pls r.2.1 else oA pls r.1:Nat):Int),.ref e])) np (Eh pls c2 i r):=by
   rw[dE];exact⟨e,AU,Au (s56.trans s7) hd2⟩
  have s67:=s6'.trans s7;have hM7:=s67 _ _ hM5;have hD7:=s67 _ _ hD5;have s57:=s5'.trans s67;generalize AH H6' np (.AG [.int ((if cI c2 i % 2=0 then oA pls r.1 else oA pls r.2.1:Nat):Int),.int ((if cI c2 i % 2=0 then oA pls r.2.1 else oA pls r.1:Nat):Int),.ref e])=H7' at s7 hn7 s67 hM7 hD7 s57;have oi:=(DO po hi).2;refine⟨_,rfl,_,rfl,_,rfl,L1,_,_,_,rfl,rfl,AR.of (s57 _ _ eO),JY po hi,Mk,_,_,oA os i,rfl,rfl,hM7,by rw[lmv]; exact JQ oi,?_⟩;refine hU0 _ _ ⟨_,_,_,_,mv.set (oA os i) (.ref np),rfl,s57.up fM _,by rw[Ad nDM]; exact hD7,AU,by rw[mI]; exact lmv,λk hk=>?_⟩;rcases j6 k i with hlt | hge
  ·obtain⟨d',r',a1,a2,a3⟩:=made5 k hlt;refine⟨d',r',a1,?_,LY hM7 (λys z=>by cases z) (Cj s67 a3)⟩;rw[kh (λz=>by have:=Jl po hi (by omega) z; omega)];exact a2
  ·obtain rfl:k=i:=by omega
   exact⟨np,r,hr2,by rw[ko (by rw[lmv]; exact oi)],LY hM7 (λys z=>by cases z) hn7⟩
 rintro σ H9 ⟨uk,ur,uf,up,mv,rfl,s9,hD9,hM9,lmv,made⟩;subst hUL;rw[ja,M.rr.1] at hD9 made;have cl:(cs.map V.ref).length=rs.length:=by rw[ja,M.rr.1]
 rw[cl];have s09:=s5.trans s9;have M9:=M.keep s09;refine⟨by exact E4,λt0 ht0=>⟨by exact Ei,λl1 hl1=>?_⟩⟩;have sa:=(AY ht0 (.AG [])).trans (AY hl1 (.AD [.ref t0]));have ea:(AH (AH H9 t0 (.AG [])) l1 (.AD [.ref t0])) l1=some (.AD [.ref t0]):=AU;generalize AH (AH H9 t0 (.AG [])) l1 (.AD [.ref t0])=Ha at sa ea;refine⟨_,rfl,T,_,rfl,.inl (AR.of (M9.keep sa).tm.h1),l1,_,_,rfl,rfl,ea,by rw[lb]; omega,by rw[lb]; omega,by rw[lb,kX]; exact Dp (by omega),λRw hRw=>?_⟩;rw[V3,lb,show((ts.length:Int)).toNat=ts.length by omega];have sb:=sa.trans (AY hRw (.AD (jo ts.length (.ref t0))));have eb:(AH Ha Rw (.AD (jo ts.length (.ref t0)))) Rw=some (.AD (jo ts.length (.ref t0))):=AU;have fR:H9 Rw=none:=sa.free hRw;generalize AH Ha Rw (.AD (jo ts.length (.ref t0)))=Hb at sb eb;clear sa ea
 try dsimp only
 try refine Cw ?_
 first | refine Cv λUL hUL=>?_ | refine nx_hide λUL hUL=>?_
 refine⟨_,rfl,T,_,rfl,(M9.keep sb).tm.h1,?_⟩;have eO9:=s9 _ _ eO;have eP9:=s9 _ _ eP;refine NV (xs:=bs.map V.ref) (λi σ H2=>∃cc uk ut uh uc rv,σ=[some (.ref R),some (.ref T),some (.int cc),some (.int (rs.length:Int)),some (.ref L1),some (.ref Pl),some (.ref D),some (.ref Mk),uk,ur,uf,up,some (.ref Rw),ut,uh,uc]/\AN H9 H2 /\
   H2 Rw=some (.AD rv)/\rv.length=ts.length/\∀k,k<i->∃d u t,ts[k]?=some t/\rv[oA pls k]?=some (.ref d)/\BV H2 d u/\EB (t.map (A9 rs.length os c2)) u)
  ⟨_,_,none,none,none,_,rfl,sb,eb,by rw[oW],λk hk=>by omega⟩ (λi σ H2 _ ⟨_,_,_,_,_,_,_,s2,_⟩=>(M9.keep s2).tm.h1) ?_ ?_
 ·rintro i x σ H2 p hx ⟨cc,uk',ut,uh,uc,rv,rfl,s2,hR2,lrv,rows⟩ hp U0 hU0;obtain⟨b,t',rfl,hb,ht',hB0⟩:=M9.tm.rows.ref hx;obtain⟨t,ht,rfl⟩:=Ts ht';have hi:i<ts.length:=(jc.mp ht).1;have tl:=N0 g ht;have sp:=AY hp (.AG [.int i,.ref b]);have hR3:=sp _ _ hR2;have s3:=s2.trans sp;refine⟨p,_,rfl,AK.of AU,rfl,_,_,rfl,_,_,rfl,rfl,?_⟩;have rows3:∀k,k<i->∃d u t,ts[k]?=some t/\rv[oA pls k]?=some (.ref d)/\BV (AH H2 p (.AG [.int i,.ref b])) d u/\EB (t.map (A9 rs.length os c2)) u:=λk hk=>by
   obtain⟨d,u,t,a1,a2,a3,a4⟩:=rows k hk;exact⟨d,u,t,a1,a2,Dy sp a3,a4⟩
  generalize AH H2 p (.AG [.int i,.ref b])=H3 at s3 hR3 rows3;clear rows sp hR2 s2 hp;have hB:H3 b=some (.AD ((t.map λx=>x-2).map V.int)):=s3 _ _ hB0
  try dsimp only
  try refine Cw ?_
  first | refine Cv λU hU=>?_ | refine nx_hide λU hU=>?_
  refine⟨_,rfl,b,rfl,⟨_,AR.of hB⟩,λacc hacc=>?_⟩;refine CQ (E7 hB) (by rw[ja,ja]; omega) hacc (λj ys σ hp=>ys=((t.map (A9 rs.length os c2)).take j).map V.int/\∃u,σ=[u,some (.ref D)]) ⟨rfl,none,rfl⟩ ?_ ?_
  ·rintro j ys σ H7 x H8 hj sm hacc2 ⟨rfl,u,rfl⟩ ⟨rfl,hx⟩ Cc hC;obtain⟨e,rfl,he⟩:=Fh hx;rw[ji] at he;cases ey:t[j]? with
   | none=>rw[ey] at he; cases he
   | some y =>
    rw[ey] at he;cases he;have yR:AF (2*rs.length+2) y:=by
     have:=(g.mem y).mp (jN.mpr ⟨t,jd ht,jd ey⟩)
     rwa [hln] at this
    refine⟨_,rfl,_,rfl,D,_,rfl,IH (sm _ _ (s3 _ _ hD9)) (aU _ yR),?_⟩;refine hC _ _ _ (AN.refl _) ⟨?_,_,rfl⟩;have ee:(t.map (A9 rs.length os c2))[j]?=some (A9 rs.length os c2 y):=by rw[ji,ey]; rfl
    rw[C0 ee,jH];rfl
  rintro ys σ H4 s4 hacc4 _ ⟨rfl,u,rfl⟩;subst hU;rw[ja,ja,jz (by rw[ja]; exact jj _)] at hacc4;have tn:=g.ne t (jd ht);have tp:0<t.length:=rf.mpr tn;have lr:((((t.map (A9 rs.length os c2)).map V.int).length:Nat):Int)=(t.length:Int):=by rw[ja,ja]
  try dsimp only
  try refine Cw ?_
  first | refine Cv λU hU=>?_ | refine nx_hide λU hU=>?_
  refine⟨_,rfl,_,rfl,acc,_,rfl,.inl (AR.of hacc4),_,_,rfl,rfl,by rw[lr]; omega,?_⟩;subst hU
  try dsimp only
  try refine Cw ?_
  first | refine Cv λU hU=>?_ | refine nx_hide λU hU=>?_
  refine⟨_,rfl,_,rfl,acc,_,rfl,.inl (AR.of hacc4),_,_,rfl,rfl,⟨by rw[lr]; omega,by rw[lr]; show(t.length:Int)<1073741824; omega⟩,?_⟩;subst hU
  (try dsimp only)
  rw[lr];have tp':(0:Int)<(t.length:Int):=by omega
  have d0:=k9 cc (m8 tp');have d1:=lq cc tp';obtain⟨j,hj⟩:∃j:Nat,cc % (t.length:Int)=(j:Int):=⟨(cc % (t.length:Int)).toNat,by omega⟩;rw[hj] at d1 ⊢;have jl:j<=((t.map (A9 rs.length os c2)).map V.int).length:=by rw[ja,ja]; omega
  refine⟨_,rfl,_,rfl,_,rfl,acc,_,rfl,AR.of hacc4,λp1 hp1=>?_⟩;rw[ID _ jl];obtain⟨H5a,zg,s5a,e5⟩:=nw hp1 (.AD (((t.map (A9 rs.length os c2)).map V.int).drop j));rw[zg];refine⟨_,rfl,_,rfl,_,rfl,acc,_,rfl,AR.of (s5a _ _ hacc4),λp2 hp2=>?_⟩;rw[Kc _ jl];obtain⟨H6a,zg,s6a,e6⟩:=nw hp2 (.AD (((t.map (A9 rs.length os c2)).map V.int).take j));rw[zg];refine⟨p1,p2,_,_,rfl,rfl,s6a _ _ e5,e6,by rw[kA,kB,ja,ja]; exact Dp (by omega),λp3 hp3=>?_⟩;rw[<-List.map_drop,<-List.map_take,<-List.map_append];have rot:EB (t.map (A9 rs.length os c2)) ((t.map (A9 rs.length os c2)).drop j++(t.map (A9 rs.length os c2)).take j):=⟨_,_,(lN j _).symm,rfl⟩;generalize (t.map (A9 rs.length os c2)).drop j++(t.map (A9 rs.length os c2)).take j=un at rot;obtain⟨H7a,zg,s7a,e7⟩:=nw hp3 (.AD (un.map V.int));rw[zg];refine⟨p3,_,rfl,.inl ⟨AR.of e7,λp4 hp4=>?_⟩⟩;have s8a:=AY hp4 (.AG (un.map V.int));have e8:BV (AH H7a p4 (.AG (un.map V.int))) p4 un:=AU;have s48:=s4.trans (s5a.trans (s6a.trans (s7a.trans s8a)));generalize AH H7a p4 (.AG (un.map V.int))=H8a at s8a e8 s48;have s38:=s3.trans s48;have hR8:=s48 _ _ hR3;have pi:=(DO pl hi).2;refine⟨_,rfl,_,rfl,_,rfl,Pl,_,_,_,rfl,rfl,AR.of (s38 _ _ eP9),JY pl hi,Rw,_,_,oA pls i,rfl,rfl,hR8,by rw[lrv]; exact JQ pi,?_⟩;have ukeep:∀{d:Addr} {u:List Int},BV H8a d u->BV (AH H8a Rw (.AD (rv.set (oA pls i) (.ref p4)))) d u:=λ{d u} h=>by
   unfold BV at h ⊢;rw[Ad (λz=>by rw[z,hR8] at h; cases h)]; exact h
  refine hU0 _ _ ⟨_,_,_,_,_,rv.set (oA pls i) (.ref p4),rfl,s38.up fR _,AU,by rw[mI]; exact lrv,λk hk=>?_⟩;rcases j6 k i with hlt | hge
  ·obtain⟨d',u',t',a1,a2,a3,a4⟩:=rows3 k hlt;refine⟨d',u',t',a1,?_,ukeep (Dy s48 a3),a4⟩;rw[kh (λz=>by have:=Jl pl hi (by omega) z; omega)];exact a2
  ·obtain rfl:k=i:=by omega
   exact⟨p4,un,t,ht,by rw[ko (by rw[lrv]; exact pi)],ukeep e8,rot⟩
 rintro σ Hz ⟨cc,uk',ut,uh,uc,rv,rfl,sz,hRz,lrv,rows⟩;subst hUL;rw[ja,M.bl] at rows;obtain⟨ds,rs',rfl,hds,hrs⟩:=Mc (R:=BW) (H:=Hz) (mv:=mv) (Pq:=λq r'=>∃k r,k<rs.length/\oA os k=q/\rs[k]?=some r/\r'=Eh pls c2 k r) (λqq hq=>by
  obtain⟨k,hk,ek⟩:=MR po (q:=qq) (by omega);obtain⟨d,r,a1,a2,a3⟩:=made k hk;rw[ek] at a2;exact⟨d,_,a2,Cj sz a3,k,r,hk,ek,a1,rfl⟩)
 obtain⟨es,us,rfl,hes,hus⟩:=Mc (R:=BV) (H:=Hz) (mv:=rv) (Pq:=λq u=>∃k t,k<ts.length/\oA pls k=q/\ts[k]?=some t/\EB (t.map (A9 rs.length os c2)) u) (λqq hq=>by
  obtain⟨k,hk,ek⟩:=MR pl (q:=qq) (by omega);obtain⟨d,u,t,a1,a2,a3,a4⟩:=rows k hk;rw[ek] at a2;exact⟨d,_,a2,a3,k,t,hk,ek,a1,a4⟩)
 rw[ja] at lmv lrv;have lrs:rs'.length=rs.length:=by rw[<-hds.1]; exact lmv
 have lus:us.length=ts.length:=by rw[<-hes.1]; exact lrv
 have N:NetV ts.length rs' us/\LO us rs.length:=by
  refine dW (m:=rs.length) (π:=oA pls) (ρ:=A9 rs.length os c2) g hln h14 lrs lus (cq two po pl p0 p1) (λp t ht=>?_) (cn rfl lrs po p0 p1 λk r hk=>?_) (λr' hr'=>?_)
  ·have hp:=(jc.mp ht).1;have pi:=(DO pl hp).2;have hu1:us[oA pls p]?=some us[oA pls p]:=jb (by omega);obtain⟨k,t',a1,a2,a3,a4⟩:=hus _ _ hu1
   have:=Jl pl a1 hp a2
   subst this;rw[ht] at a3;cases a3;exact⟨_,hu1,a4⟩
  ·have hk':=(jc.mp hk).1;have oi:=(DO po hk').2;have hu1:rs'[oA os k]?=some rs'[oA os k]:=jb (by omega);obtain⟨k',r',a1,a2,a3,a4⟩:=hrs _ _ hu1
   have:=Jl po a1 hk' a2
   subst this;rw[hk] at a3;cases a3;rw[hu1,a4]
  ·obtain⟨j,hj,ej⟩:=jP hr';obtain⟨k,r,a1,a2,a3,a4⟩:=hrs j r' (by rw[jb hj,ej])
   have:=ekr r (jd a3)
   rw[a4];unfold Eh;split <;> exact this
 have s0z:=s09.trans sz;refine⟨_,rfl,T,_,rfl,.inl (AR.of (M.keep s0z).tm.h1),_,rfl,Mk,_,rfl,.inl ⟨AR.of (sz _ _ hM9),λp1' hp1=>?_⟩⟩;obtain⟨H7,zg,s7,e7⟩:=nw hp1 (.AG (ds.map V.ref));rw[zg];have hR7:=s7 _ _ hRz;refine⟨_,rfl,Rw,_,rfl,.inl ⟨AR.of hR7,λp2 hp2=>?_⟩⟩;obtain⟨H8,zg,s8,e8⟩:=nw hp2 (.AG (es.map V.ref));rw[zg];refine⟨by exact EM,λp hp=>?_⟩;rw[lb];have s9':=AY hp (.AG [.int (ts.length:Int),.ref p1',.ref p2]);have s79:=s7.trans (s8.trans s9');exact q p p1' p2 ts.length rs' us _ (s0z.trans s79) AU ⟨ds,s9' _ _ (s8 _ _ e7),hds.keep Cj s79⟩ ⟨es,s9' _ _ e8,hes.keep Dy s79⟩ N.1 (by rw[lrs]; exact N.2)
theorem Yy:Gn [[2,0],[3,1]] [0,1,0,1]:=by
 have nd:([[2,0],[3,1]]:List (List Int)).flatten.Nodup:=by decide
 refine⟨by decide,by decide,by decide,nd,λx=>?_,λp t hp x hx=>?_,by decide,by decide,⟨rfl,rfl⟩,λS S0 hS p hp=>?_,Zo [[2,0],[3,1]] rfl (by decide) (by decide) (by decide) (by decide),YG rfl⟩
 ·simp only[j5,qD,lC,jI,jK,ke,lM,AF,ka,mT];omega
 ·match p,hp with
  | 0,hp=>cases hp; simp at hx; rcases hx with rfl | rfl <;> rfl
  | 1,hp=>cases hp; simp at hx; rcases hx with rfl | rfl <;> rfl
 ·have:=hS 1 (by decide) 0 1 rfl rfl
  match p,hp with
  | 0,_=>exact S0
  | 1,_=>exact this.mp S0
theorem CU.K1{H H':Hp}{R T a:Addr}{cs bs:List Addr}{ts:List (List Int)}{rs:List AQ}{ys:List V}(M:CU H R T cs bs ts rs)(ha:H a=some (.AD ys))(n:a∉T :: R :: bs)(s:Bh a H H'):CU H' R T cs bs ts rs:=by
 have nt:∀{c:Addr} {zs:List V},H c=some (.AG zs)->H' c=some (.AG zs):=λ{c zs} h=>s _ _ (λz=>by rw[z,ha] at h; cases h) h
 refine⟨⟨s _ _ (λz=>n (by simp[z])) M.tm.h1,⟨M.tm.rows.1,λi b x e1 e2=>s _ _ (λz=>n (by rw[<-z]; exact jX _ (jX _ (jd e1)))) (M.tm.rows.2 i b x e1 e2)⟩,M.tm.nd⟩,s _ _ (λz=>n (by simp[z])) M.r1,⟨M.rr.1,λi b x e1 e2=>?_⟩,M.rn⟩;obtain⟨e,h1,h2⟩:=M.rr.2 i b x e1 e2;exact⟨e,nt h1,nt h2⟩
inductive R5(vs:List V)(H:Hp)(Q:VK):Prop
 | mk (a:Addr) (ns:List Int) (mo gr:Int) (h_0:vs=[.ref a,.int mo,.int gr]) (h_1:H a=some (.AD (ns.map V.int))) (h_2:(∀x∈ns,0<=x)) (h_3:ns.length<=200) (h_4:1<=mo) (h_5:mo<=14) (h_6:0<gr) (h_7:gr<1000) (h_8:∀p ra ta n rs us H',Bh a H H'->H' p=some (.AG [.int ((n:Nat):Int),.ref ra,.ref ta])->A4 BW H' ra rs->A4 BV H' ta us->NetV n rs us->LO us rs.length->Q (.ref p) H'):R5 vs H Q
def SD:Sp:=λvs H Q _=>R5 vs H Q
theorem J0:Ay ["_law_numbers_here","_law_most","_law_great","_law_many","_law_last","_law_ropes","_law_turns","_law_c"] ["_law_numbers_here","_law_most","_law_great"] (Ao s_law_grown):=A7
set_option maxHeartbeats 1000000 in
seal L2.DC L2.PS L2.PE L2.PA in
theorem Zs (F:Ar K "_law_grown" "_law_grown" s_law_grown f fd) (G1:Aj P w K mg base 1 "_law_next" ["_law_numbers_here"] Mr)
  (G2:Aj P w K mg base 3 "_law_ease" ["_law_c","_law_most"] SX)
  (G3:Aj P w K mg base 2 "_law_grow" ["_law_ropes","_law_turns","_law_c","_law_ease_here"] Uz)
  (G4:Aj P w K mg base 2 "_law_finished" ["_law_ropes","_law_turns","_law_c"] Vz) (ml:mg "len" = none) :
  An P w K mg base Av 4 f fd ["_law_numbers_here","_law_most","_law_great"] SD:=by
 refine F.BA J0 λcdv A outer s H vs Q E hr h=>?_
 obtain⟨a,ns,mo,gr,rfl,ha,hp,hl,mo1,mo14,gr0,gr1,q⟩:=h;have r1:=hr.mono (show 1<=3 by decide);have r2:=hr.mono (show 2<=3 by decide);refine⟨_,AO (AW (i:=3) J0.nd rfl (jn rfl) (AL BL AE (AL Bw (AZ G1 r1 (AA (pv 0) AB)) (pv 1))))
  (AO (AW (i:=4) J0.nd rfl (jn rfl) (AZ G1 r1 (AA (pv 0) AB)))
  (AO (AW (i:=5) J0.nd rfl (jn rfl) (Bz (AA (BZ (AA AE (AA AE (AA (AZ G2 hr (AA (AZ G1 r1 (AA (pv 0) AB)) (AA (pv 2) AB))) AB)))) AB)))
  (AO (AW (i:=6) J0.nd rfl (jn rfl) (Bz (AA (Bz (AA AE (AA (GK GJ AE) AB))) (AA (Bz (AA AE (AA (GK GJ AE) AB))) AB))))
  (AO (HJ j3 (BQ Ia (A3 (Be (K:=K)) (by rfl) ml BN (AA (pv 5) AB)) (pv 3) (BJ _))
   (AO (AW (i:=7) J0.nd rfl (jn rfl) (AZ G1 r1 (AA (pv 0) AB)))
   (AV (C3 (AZ G3 r2 (AA (pv 5) (AA (pv 6) (AA (pv 7) (AA (AZ G2 hr (AA (AZ G1 r1 (AA (pv 0) AB)) (AA (pv 2) AB))) AB)))))))))
  (AV (Aq (AZ G4 r2 (AA (pv 5) (AA (pv 6) (AA (pv 4) AB)))))))))),?_⟩
 refine⟨_,rfl,a,ns,rfl,ha,hp,hl,λz ns1 H1 s1 ha1 hp1 hl1 z0=>?_⟩;refine⟨_,rfl,_,_,rfl,rfl,by omega,_,_,rfl,rfl,?_⟩
 (try dsimp only)
 have y0:=k9 z (show mo≠0 by omega);have y1:=lq z (show 0<mo by omega);generalize hmy:1+z % mo=my;have my1:1<=my:=by omega
 have my14:my<=14:=by omega
 refine⟨_,rfl,a,ns1,rfl,ha1,hp1,hl1,λc ns2 H2 s2 ha2 hp2 hl2 c0=>?_⟩;refine⟨_,rfl,a,ns2,rfl,ha2,hp2,hl2,λz3 ns3 H3 s3 ha3 hp3 hl3 z30=>?_⟩;refine⟨_,rfl,z3,gr,rfl,gr0,gr1,λe H4 qe s4 he ek=>?_⟩;have s14:Bh a H H4:=s1.trans (s2.trans (s3.trans s4.b));have ha4:=s4 _ _ ha3;refine⟨by exact EM,λtp htp=>⟨by exact Ei,λR hR=>?_⟩⟩;obtain⟨H5,zg,s5,e5⟩:=nw htp (.AG [.int 0,.int 1,.ref e]);rw[zg] at hR ⊢;obtain⟨H6,zg,s6,e6⟩:=nw hR (.AD [.ref tp]);rw[zg];refine⟨_,rfl,by exact B6,λl1 h1=>⟨_,rfl,by exact B6,λl2 h2=>⟨by exact B6,λT hT=>?_⟩⟩⟩;obtain⟨H7,zg,s7,e7⟩:=nw h1 (.AD [.int 0,.int (-2)]);rw[zg] at h2 hT ⊢;obtain⟨H8,zg,s8,e8⟩:=nw h2 (.AD [.int 1,.int (-1)]);rw[zg] at hT ⊢;obtain⟨H9,zg,s9,e9⟩:=nw hT (.AD [.ref l1,.ref l2]);rw[zg];have s46:=s5.trans s6;have s47:=s46.trans s7;have s48:=s47.trans s8;have s49:=s48.trans s9;have n12:l1≠l2:=BP e7 h2;have n1T:l1≠T:=BP (s8 _ _ e7) hT;have n2T:l2≠T:=BP e8 hT;have nR1:R≠l1:=BP e6 h1;have nR2:R≠l2:=BP (s7 _ _ e6) h2;have nRT:R≠T:=BP (s8 _ _ (s7 _ _ e6)) hT;have M0:CU H9 R T [tp] [l1,l2] [[2,0],[3,1]] [(0,1,qe)]:=by
  refine⟨⟨e9,⟨rfl,λi b x e1 e2=>?_⟩,?_⟩,s9 _ _ (s8 _ _ (s7 _ _ e6)),⟨rfl,λi b x e1 e2=>?_⟩,?_⟩
  ·match i,e1,e2 with
   | 0,e1,e2=>cases e1; cases e2; exact s9 _ _ (s8 _ _ e7)
   | 1,e1,e2=>cases e1; cases e2; exact s9 _ _ e8
  ·simp[n12,lF n1T,lF n2T]
  ·match i,e1,e2 with
   | 0,e1,e2=>cases e1; cases e2; exact⟨e,(s6.trans (s7.trans (s8.trans s9))) _ _ e5,Au s49 he⟩
  ·simp[nRT,nR1,nR2]
 have ne4:∀{x:Addr},H4 x=none->H x=none/\x≠a:=λ{x} hx=>by
  have nx:x≠a:=λz=>by rw[z,ha4] at hx; cases hx
  refine⟨?_,nx⟩;cases eo:H x with
  | none=>rfl
  | some o =>
   have:=s14 x o nx eo
   rw[this] at hx; cases hx
 have fr0:∀b∈T :: R :: [l1,l2],H b=none/\b≠a:=by
  intro b hb;simp at hb;rcases hb with rfl | rfl | rfl | rfl
  ·exact ne4 (s48.free hT)
  ·exact ne4 (s5.free hR)
  ·exact ne4 (s46.free h1)
  ·exact ne4 (s47.free h2)
 refine Gz (λσ H2=>∃uc ns cs bs ts rs,σ=[some (.ref a),some (.int mo),some (.int gr),some (.int my),some (.int c),some (.ref R),some (.ref T),uc]/\Bh a H H2/\H2 a=some (.AD ((ns:List Int).map V.int))/\(∀x∈ns,0<=x)/\ns.length<=200/\(∀b∈T :: R :: bs,H b=none/\b≠a)/\CU H2 R T cs bs ts rs/\Gn ts (hs2 rs)/\(rs.length:Int)<=my/\(∀r∈rs,EX r.2.2))
  (λ_ H2=>match H2 R with | some (.AD xs)=>my.toNat-xs.length | _=>0) ⟨none,ns3,[tp],[l1,l2],[[2,0],[3,1]],[(0,1,qe)],rfl,s14.trans s49.b,s49 _ _ ha4,hp3,hl3,fr0,M0,Yy,by show(1:Int)<=my; omega,λr hr=>by rw[jO.mp hr]; exact ek⟩ ?_ ?_
 ·rintro σ Hc ⟨uc,nc,cs,bs,ts,rs,rfl,sc,hac,hpc,hlc,fr,M,gg,lm,ek⟩;have lc:(((cs.map V.ref).length:Nat):Int)=(rs.length:Int):=by rw[ja,M.rr.1]
  refine⟨_,rfl,R,_,rfl,.inl (AR.of M.r1),_,rfl,_,_,rfl,rfl,_,rfl,?_⟩;rw[lc];have na:a∉T :: R :: bs:=λz=>(fr a z).2 rfl
  by_cases hlt:(rs.length:Int)<my
  ·refine Cy hlt ?_;refine⟨_,rfl,a,nc,rfl,hac,hpc,hlc,λc1 n1 Hd sd had hpd hld c10=>?_⟩;have Md:=M.K1 hac na sd;refine⟨_,rfl,_,rfl,_,rfl,_,rfl,a,n1,rfl,had,hpd,hld,λc2 n2 He se hae hpe hle c20=>?_⟩;have Me:=Md.K1 had na se;refine⟨_,rfl,c2,gr,rfl,gr0,gr1,λe2 Hf q2 sf hf ekf=>?_⟩;have Mf:=Me.keep sf;refine⟨R,T,e2,cs,bs,ts,rs,c1,q2,rfl,Mf,gg,by omega,c10,hf,ekf,ek,λHg cs' bs' ts' rs' Fg fb Mg g' l' ek'=>?_⟩;have scf:Bh a H Hf:=sc.trans (sd.trans (se.trans sf.b));have haf:=sf _ _ hae;refine⟨⟨_,n2,cs',bs',ts',rs',rfl,λb o nb e=>Fg b o (λhb=>by
     have hb':b∈T :: R :: bs:=hb;rw[(fr b hb').1] at e; cases e) (scf b o nb e),Fg _ _ (λhb=>na hb) haf,hpe,hle,λb hb=>?_,Mg,g',by omega,ek'⟩,?_⟩
   ·rcases jK.mp hb with w | w
    ·exact fr b (by simp[w])
    ·rcases jK.mp w with w | w
     ·exact fr b (by simp[w])
     ·rcases fb b w with y | y
      ·exact fr b (by simp[y])
      ·have nb:b≠a:=λz=>by rw[z,haf] at y; cases y
       refine⟨?_,nb⟩;cases eo:H b with
       | none=>rfl
       | some o=>rw[scf b o nb eo] at y; cases y
   ·rw[Mg.r1,M.r1];show my.toNat-(cs'.map V.ref).length<my.toNat-(cs.map V.ref).length;rw[ja,ja,Mg.rr.1,M.rr.1];omega
  ·refine Ca hlt ?_;refine⟨_,rfl,_,rfl,_,rfl,R,T,cs,bs,ts,rs,c,rfl,M,gg,by omega,ek,λp ra ta n rs' us H' s' hp' hR' hT' N D=>?_⟩;exact q p ra ta n rs' us H' (sc.trans s'.b) hp' hR' hT' N D
 ·rintro σ H2 Q1 Q2 hq ⟨v,e,p,ys,e1,e2,v',e',i,j,e3,e4,b,eb,z⟩;exact⟨v,e,p,ys,e1,e2,v',e',i,j,e3,e4,b,eb,hq _ _ z⟩
theorem YU {J:It} {n:Nat} {H1:Hp} {f:Nat->Hp->V->Hp->Prop} {acc:Addr} {σ0:St} {g:TG} {tt:TT} {te:TE} {G:Hp->Prop} (r:JC J H1 n f) (hn:n<=1000) (hacc:H1 acc=none) (Iv:Nat->List V->St->Hp->Prop) (h0:Iv 0 [] σ0 H1)
  (hs:∀(i:Nat) (ys:List V) (σ:St) (H2:Hp) (x:V) (H3:Hp),i<n->AN H1 H2->H2 acc=some (.AD ys)->Iv i ys σ (BK H2 acc)->f i H2 x H3->∀(C:St->VK) (N:St->Hp->Prop),(∀(σ4:St) (v:V) (H5:Hp),AN H2 H5->Iv (i+1) (ys++[v]) σ4 (BK H5 acc)->C σ4 v H5)->(∀(σ4:St) (H5:Hp),AN H2 H5->Iv (i+1) ys σ4 (BK H5 acc)->N σ4 H5) →
   g x σ H3 λσ4 H4=>tt σ4 H4 λok H5=>if ok=true then te σ4 H5 (C σ4) else N σ4 H5)
  (fin:∀(ys:List V) (σ:St) (H2:Hp),AN H1 H2->H2 acc=some (.AD ys)->Iv n ys σ (BK H2 acc)->G H2) :
  ∃W:Nat->Nat->List V->St->Hp->Prop,(∃m,W 0 m [] σ0 (AH H1 acc (.AD [])))/\∀i m ys σc H2,W i m ys σc H2 →
   (J.stop i H2/\G H2)\/(J.go i H2/\∀x H3,J.Dv i H2 x H3->g x σc H3 λσ4 H4=>tt σ4 H4 λok H5=>if ok=true then (te σ4 H5 λv H6=>H6 acc=some (.AD ys)/\ys.length<jR/\∃m',m' < m/\W (i+1) m' (ys++[v]) σ4 (AH H6 acc (.AD (ys++[v])))) else ∃m',m' < m/\W (i+1) m' ys σ4 H5):=by
 refine⟨λi m ys σ H2=>m=n-i/\i<=n/\AN H1 H2/\H2 acc=some (.AD ys)/\ys.length<=i/\Iv i ys σ (BK H2 acc),⟨n,rfl,kH _,?_,AU,jj _,?_⟩,?_⟩
 ·intro b o e; rw[Ad (BP e hacc)]; exact e
 ·rw[Ke,Sw hacc]; exact h0
 ·rintro i m ys σc H2 ⟨rfl,hi,sm,ha,hl,iv⟩;rcases j6 i n with hlt | hge
  ·refine .inr ⟨r.go i H2 hlt sm,λx H3 yl=>?_⟩;refine hs i ys σc H2 x H3 hlt sm ha iv (r.yl i H2 x H3 hlt sm yl) (λσ4 v H5=>H5 acc=some (.AD ys)/\ys.length<jR/\∃m',m' < n-i/\(m'=n-(i+1)/\i+1<=n/\AN H1 (AH H5 acc (.AD (ys++[v])))/\(AH H5 acc (.AD (ys++[v]))) acc=some (.AD (ys++[v]))/\(ys++[v]).length<=i+1/\Iv (i+1) (ys++[v]) σ4 (BK (AH H5 acc (.AD (ys++[v]))) acc)))
    (λσ4 H5=>∃m',m' < n-i/\(m'=n-(i+1)/\i+1<=n/\AN H1 H5/\H5 acc=some (.AD ys)/\ys.length<=i+1/\Iv (i+1) ys σ4 (BK H5 acc))) ?_ ?_
   ·intro σ4 v H5 s5 iv5;refine⟨s5 _ _ ha,by rw[nF]; omega,n-(i+1),by omega,rfl,hlt,?_,AU,by rw[jw,kX]; omega,?_⟩
    ·intro b o e; rw[Ad (BP e hacc)]; exact s5 _ _ (sm _ _ e)
    ·rw[Ke]; exact iv5
   ·intro σ4 H5 s5 iv5;exact⟨n-(i+1),by omega,rfl,hlt,sm.trans s5,s5 _ _ ha,by omega,iv5⟩
  ·obtain rfl:i=n:=by omega
   exact .inl ⟨r.st H2 sm,fin ys σc H2 sm ha iv⟩
open Wd
def FR:List Int->Int
 | []=>0
 | [x]=>x
 | x :: y :: r=>min x (FR (y :: r))
theorem Uj:∀{l:List Int},l≠[]->FR l∈l/\∀x∈l,FR l<=x
 | [],h=>absurd rfl h
 | [x],_=>⟨by simp[FR],λy hy=>by rw[jO.mp hy]; exact Int.le_refl _⟩
 | x :: y :: r,_=>by
  obtain⟨h1,h2⟩:=Uj (l:=y :: r) (by simp);have e:FR (x :: y :: r)=min x (FR (y :: r)):=rfl;rw[e];generalize FR (y :: r)=m at h1 h2;refine⟨?_,λz hz=>?_⟩
  ·rcases Int.le_total x m with h | h
   ·rw[show min x m=x by omega]; exact kO ..
   ·rw[show min x m=m by omega]; exact jX _ h1
  ·rcases jK.mp hz with rfl | hz
   ·omega
   ·have:=h2 z hz; omega
def Cd(t:List Int):List Int:=t.drop (t.idxOf (FR t))++t.take (t.idxOf (FR t))
theorem U4{t:List Int}{m:Int}(hm:m∈t)(h:∀a∈t,m<=a):FR t=m:=by
 obtain⟨h1,h2⟩:=Uj (l:=t) (List.ne_nil_of_mem hm)
 have:=h _ h1
 have:=h2 _ hm
 omega
theorem Y9{t:List Int}:∃a b,t=a++b/\Cd t=b++a:=⟨_,_,(lN (t.idxOf (FR t)) t).symm,rfl⟩
theorem OD(t:List Int):EB t (Cd t):=Y9
theorem Zl(ts:List (List Int)):ts.length=(ts.map Cd).length/\∀(i:Nat) (t u:List Int),ts[i]?=some t->(ts.map Cd)[i]?=some u->EB t u:=by
 refine⟨by simp,λi t u h1 h2=>?_⟩;rw[ji,h1] at h2;cases h2;exact OD t
theorem MI{K:jk}{H:Hp}{a:Addr}{xs:List V}{lo hi:Option Int}{Q:VK}(ha:H a=some (.AG xs))(q:∀p H',AN H H'->H' p=some (.AG (C8 xs lo hi))->Q (.ref p) H'):PQ K (.ref a) lo hi H Q :=
 ⟨a,xs,rfl,AK.of ha,λz=>q a H (AN.refl _) (by rw[ha]; unfold C8; rw[z.1,z.2]; simp),λ_ p hp=>q p _ (AY hp _) AU⟩
inductive UX(vs:List V)(H:Hp)(Q:VK):Prop
 | mk (a:Addr) (t:List Int) (h_0:vs=[.ref a]) (h_1:H a=some (.AG (t.map V.int))) (h_2:t≠[]) (h_3:t.length<=1000) (h_4:∀p H',AN H H'->H' p=some (.AG ((Cd t).map V.int))->Q (.ref p) H'):UX vs H Q
def Js:Sp:=λvs H Q _=>UX vs H Q
theorem V6:Ay ["turn","cut"] ["turn"] (Ao s_begun_least):=A7
theorem cj(F:Ar K "begun_least" "begun_least" s_begun_least f fd)(mn:mg "min" = none):An P w K mg base Av 1 f fd ["turn"] Js:=by
 refine F.BA V6 λcdv A outer s H vs Q E hr h=>?_
 obtain⟨a,t,rfl,ha,ht,hl,q⟩:=h;refine⟨_,AO (AW (i:=1) V6.nd rfl (jn rfl) (VI tF pW tG Qs (pv 0) (AA (A3 (Qp rfl) (by rfl) mn MK (AA (pv 0) AB)) AB)))
  (AV (Aq (AL SN (EC (Mm (K:=K)) (pv 0) (D0 (pv 1)) EO) (EC (Mm (K:=K)) (pv 0) EO (D0 (pv 1)))))),?_⟩
 refine⟨_,rfl,⟨a,_,rfl,ha⟩,_,rfl,a,t,rfl,ha,rf.mpr ht,λm mm mle=>⟨a,t,m,rfl,rfl,ha,mm,?_⟩⟩;have em:=U4 mm mle;have hc:t.idxOf m<t.length:=l5.mpr mm;have eb:Cd t=t.drop (t.idxOf m)++t.take (t.idxOf m):=by unfold Cd; rw[em]
 generalize t.idxOf m=c at hc eb;refine⟨_,rfl,_,rfl,_,rfl,?_⟩;dsimp only[Ja];refine MI ha λp1 H1 s1 e1=>⟨_,rfl,?_⟩
 dsimp only[Ja];refine⟨_,rfl,_,rfl,MI (s1 _ _ ha) λp2 H2 s2 e2=>?_⟩;rw[ID _ (by rw[ja]; omega),<-List.map_drop] at e1;rw[Kc _ (by rw[ja]; omega),<-List.map_take] at e2;refine⟨p1,p2,_,_,rfl,rfl,s2 _ _ e1,e2,?_,λp H3 s3 hp=>q p H3 (s1.trans (s2.trans s3)) ?_⟩
 ·rw[ja,ja,kA,kB];exact Dp (by omega)
 ·rw[hp,eb,jH]
theorem gH:Ay ["turns"] ["turns"] (Ao s_told_turns):=A7
theorem dX:(["turn"]:List Str).Nodup:=by decide +kernel
inductive VH(vs:List V)(H:Hp)(Q:VK):Prop
 | mk (a:Addr) (ts:List (List Int)) (h_0:vs=[.ref a]) (h_1:FI BV H a ts) (h_2:ts.length<=1000) (h_3:(∀t∈ts,t≠[]/\t.length<=1000)) (h_4:∀p H',AN H H'->A4 BV H' p (ts.map Cd)->Q (.ref p) H'):VH vs H Q
def Vs:Sp:=λvs H Q _=>VH vs H Q
theorem ZF(F:Ar K "told_turns" "told_turns" s_told_turns f fd)(G:Aj P w K mg base 1 "begun_least" ["turn"] Js)(mt:mg "tuple" = none):An P w K mg base Av 2 f fd ["turns"] Vs:=by
 refine F.BA gH λcdv A outer s H vs Q E hr h=>?_
 obtain⟨a,ts,rfl,⟨bs,ha,hB⟩,hl,ht,q⟩:=h;refine⟨_,AV (Aq (CP (ED (K:=K)) (by rfl) mt CG (AA (C1 (Nc:=["turn"]) (cap:=[]) (g:=BR 0) (te:=DT Js [] E0 (BO (Ap 0) CF)) rfl (IX (K:=K) (pv 0))
   (CB rfl rfl (by decide +kernel) (by decide +kernel) (jr _) rfl (jr _)) (λ_ _ _ _ _=>Af (i:=0) dX rfl (jn rfl))
   (λ_ _ _ _ _=>AZ G hr (AA (pv 0) AB))) AB))),?_⟩
 have lb:bs.length=ts.length:=hB.1;refine⟨_,rfl,a,rfl,⟨_,AR.of ha⟩,λacc hacc=>?_⟩;refine CQ (E7 ha) (by rw[ja]; omega) hacc (λi ys σ hp=>∃ds:List Addr,ys=ds.map V.ref/\At BV hp ds ((ts.map Cd).take i)/\∃u,σ=[u]) ⟨[],rfl,At.nil,none,rfl⟩ ?_ ?_
 ·rintro i ys σ H3 x H4 hi sm hacc2 ⟨ds,rfl,hD,u,rfl⟩ ⟨rfl,hx⟩ Cc hC;obtain⟨c,t,rfl,_,hy,hc⟩:=hB.ref hx;obtain⟨t1,t2⟩:=ht t (jd hy);refine⟨_,rfl,c,t,rfl,sm _ _ hc,t1,t2,λp H5 s5 hp=>?_⟩;refine hC _ _ _ s5 ⟨ds++[p],by simp,?_,_,rfl⟩;have ec:(ts.map Cd)[i]?=some (Cd t):=by rw[ji,hy]; rfl
  rw[C0 ec];exact(hD.keep Dy (Dz acc s5)).snoc (BV.BK (t:=Cd t) hp (s5 _ _ hacc2))
 ·rintro ys σ H4 s4 ha4 hl4 ⟨gs,rfl,hG,u,rfl⟩;rw[ja,lb,jz (by rw[ja]; exact jj _)] at hG;refine⟨acc,_,rfl,.inl ⟨AR.of ha4,λp hp=>?_⟩⟩;have sp:=AY hp (.AG (gs.map V.ref));exact q p _ (s4.trans sp) ⟨gs,AU,(hG.keep Dy (Dl H4 acc)).keep Dy sp⟩
theorem WG:Ay ["_law_turn","_law_at"] ["_law_turn"] (Ao s_law_begun):=A7
theorem bV(F:Ar K "_law_begun" "_law_begun" s_law_begun f fd)(mn:mg "min" = none)(mt:mg "tuple" = none):An P w K mg base Av 1 f fd ["_law_turn"] Js:=by
 refine F.BA WG λcdv A outer s H vs Q E hr h=>?_
 obtain⟨a,t,rfl,ha,ht,hl,q⟩:=h;refine⟨_,AO (AW (i:=1) WG.nd rfl (jn rfl) (VI tF pW tG Qs (pv 0) (AA (A3 (Qp rfl) (by rfl) mn MK (AA (pv 0) AB)) AB)))
  (AV (Aq (AL SN (CP (ED (K:=K)) (by rfl) mt CG (AA (EC (Mm (K:=K)) (pv 0) (D0 (pv 1)) EO) AB)) (CP (ED (K:=K)) (by rfl) mt CG (AA (EC (Mm (K:=K)) (pv 0) EO (D0 (pv 1))) AB))))),?_⟩
 refine⟨_,rfl,⟨a,_,rfl,ha⟩,_,rfl,a,t,rfl,ha,rf.mpr ht,λm mm mle=>⟨a,t,m,rfl,rfl,ha,mm,?_⟩⟩;have em:=U4 mm mle;have hc:t.idxOf m<t.length:=l5.mpr mm;have eb:Cd t=t.drop (t.idxOf m)++t.take (t.idxOf m):=by unfold Cd; rw[em]
 generalize t.idxOf m=c at hc eb;refine⟨_,rfl,_,rfl,_,rfl,?_⟩;dsimp only[Ja];refine MI ha λp1 H1 s1 e1=>⟨p1,_,rfl,.inr ⟨AK.of e1,_,rfl,?_⟩⟩
 dsimp only[Ja];refine⟨_,rfl,_,rfl,MI (s1 _ _ ha) λp2 H2 s2 e2=>⟨p2,_,rfl,.inr ⟨AK.of e2,?_⟩⟩⟩;rw[ID _ (by rw[ja]; omega),<-List.map_drop] at e1;rw[Kc _ (by rw[ja]; omega),<-List.map_take] at e2;refine⟨p1,p2,_,_,rfl,rfl,s2 _ _ e1,e2,?_,λp H3 s3 hp=>q p H3 (s1.trans (s2.trans s3)) ?_⟩
 ·rw[ja,ja,kA,kB];exact Dp (by omega)
 ·rw[hp,eb,jH]
theorem gO:(["_law_turn"]:List Str).Nodup:=by decide +kernel
def BD(L:List (List Int))(x:Int):Nat:=L.findIdx λr=>decide (x∈r)
theorem II{L:List (List Int)}{x:Int}(h:x∈L.flatten):∃r,L[BD L x]?=some r/\x∈r:=by
 obtain⟨r,hr,hx⟩:=jN.mp h;have hl:BD L x<L.length:=List.findIdx_lt_length_of_exists ⟨r,hr,mQ hx⟩;exact⟨L[BD L x],jb hl,of_decide_eq_true (List.findIdx_getElem (w:=hl))⟩
theorem VL{L:List (List Int)}(nd:L.flatten.Nodup){i j:Nat}{r s:List Int}{x:Int}(h1:L[i]?=some r)(h2:L[j]?=some s)(hx:x∈r)(hy:x∈s):i=j:=by
 have pw:=(qJ.mp nd).2;rw[pM] at pw;obtain⟨l1,e1⟩:=jc.mp h1;obtain⟨l2,e2⟩:=jc.mp h2;rcases qm i j with z | z | z
 ·exact absurd rfl (pw i j l1 l2 z x (by rw[e1]; exact hx) x (by rw[e2]; exact hy))
 ·exact z
 ·exact absurd rfl (pw j i l2 l1 z x (by rw[e2]; exact hy) x (by rw[e1]; exact hx))
theorem L7{L:List (List Int)}(nd:L.flatten.Nodup){l:Nat}{r:List Int}{x:Int}(hl:L[l]?=some r)(hx:x∈r):BD L x=l:=by
 obtain⟨r',h1,h2⟩:=II (jN.mpr ⟨r,jd hl,hx⟩);exact VL nd h1 hl h2 hx
theorem NU{us:List (List Int)}{n:Nat}(T:B4 n us){x:Int}(hx:AF n x):BD (Al (AJ us) n) (AJ us x)=BD (Al (AJ us) n) x:=by
 have P:=T.perm;obtain⟨r,h1,h2⟩:=II ((Ek P).mpr hx);obtain⟨j1,j2,_⟩:=JS P (jd h1);have h3:=h2;rw[j2] at h3
 have:=ZV P j1 h3
 rw[<-j2] at this;exact L7 (HL P) h1 this
theorem Ly:∀(L:List (List Int)) (i:Nat) (l:Nat) (r:List Int) (x:Int),L[l]?=some r->x∈r->(x,((i+l:Nat):Int))∈CO i L
 | [],i,l,r,x,h,_=>by cases l <;> cases h
 | c :: L,i,0,r,x,h,hx=>by cases h; exact jI.mpr (.inl (js.mpr ⟨x,hx,by simp⟩))
 | c :: L,i,l+1,r,x,h,hx=>by
  have:=Ly L (i+1) l r x (by simpa using h) hx
  rw[show i+1+l=i+(l+1) by omega] at this;exact jI.mpr (.inr this)
theorem Th{L:List (List Int)}(nd:L.flatten.Nodup){x:Int}(h:x∈L.flatten):lk (CO 0 L) x=some ((BD L x:Nat):Int):=by
 obtain⟨r,h1,h2⟩:=II h
 have:=Ly L 0 _ r x h1 h2
 rw[oj] at this;exact MZ (by rw[FZ]; exact nd) this
def Eu(rs:List AQ)(Y:Nat->Rat)(x:Int):Rat :=
 match rs[(x / 2).toNat]? with
 | some r=>if x % 2=0 then As Y r else-As Y r
 | none=>if x % 2=0 then-A6 Y rs 0 else A6 Y rs 0
theorem Qq{rs:List AQ}{Y:Nat->Rat}{k:Nat}{r:AQ}(h:rs[k]?=some r):Eu rs Y (2*(k:Int))=As Y r:=by
 unfold Eu;rw[show(2*(k:Int) / 2).toNat=k by omega,h];show(if 2*(k:Int) % 2=0 then As Y r else _)=_;rw[jq (by omega)]
theorem Zn{rs:List AQ}{Y:Nat->Rat}{k:Nat}{r:AQ}(h:rs[k]?=some r):Eu rs Y (2*(k:Int)+1)=- As Y r:=by
 unfold Eu;rw[show((2*(k:Int)+1) / 2).toNat=k by omega,h];show(if (2*(k:Int)+1) % 2=0 then _ else-As Y r)=_;rw[jm (by omega)]
theorem bE(rs:List AQ)(Y:Nat->Rat):Eu rs Y (2*(rs.length:Int))=- A6 Y rs 0:=by
 unfold Eu;rw[show(2*(rs.length:Int) / 2).toNat=rs.length by omega,kW (jj _)];show(if 2*(rs.length:Int) % 2=0 then-A6 Y rs 0 else _)=_;rw[jq (by omega)]
theorem aO(rs:List AQ)(Y:Nat->Rat):Eu rs Y (2*(rs.length:Int)+1)=A6 Y rs 0:=by
 unfold Eu;rw[show((2*(rs.length:Int)+1) / 2).toNat=rs.length by omega,kW (jj _)];show(if (2*(rs.length:Int)+1) % 2=0 then _ else A6 Y rs 0)=_;rw[jm (by omega)]
theorem YY(rs:List AQ)(Y:Nat->Rat)(x:Int):Eu rs Y (AM x)=- Eu rs Y x:=by
 unfold Eu AM;by_cases e:x % 2=0
 ·rw[jq e,show(x+1) / 2=x / 2 by omega];cases rs[(x / 2).toNat]? with
  | none=>show(if (x+1) % 2=0 then-A6 Y rs 0 else A6 Y rs 0)=- (if x % 2=0 then-A6 Y rs 0 else A6 Y rs 0); rw[jq e,jm (by omega)]; grind
  | some r=>show(if (x+1) % 2=0 then As Y r else-As Y r)=- (if x % 2=0 then As Y r else-As Y r); rw[jq e,jm (by omega)]
 ·rw[jm e,show(x-1) / 2=x / 2 by omega];cases rs[(x / 2).toNat]? with
  | none=>show(if (x-1) % 2=0 then-A6 Y rs 0 else A6 Y rs 0)=- (if x % 2=0 then-A6 Y rs 0 else A6 Y rs 0); rw[jm e,jq (by omega)]
  | some r=>show(if (x-1) % 2=0 then As Y r else-As Y r)=- (if x % 2=0 then As Y r else-As Y r); rw[jm e,jq (by omega)]; grind
theorem Lk(f:Int->Rat)(hs:List Nat)(q p:Nat):((EJ (hs++[q]) p).map f).sum=((EJ hs p).map f).sum+if p=q then f (hs.length:Int) else 0:=by
 rw[Xs];by_cases e:q=p
 ·rw[jq e,jq e.symm,jH,pN]; simp; grind
 ·rw[jm e,jm (λz=>e z.symm)]; grind
theorem Ro{rs:List AQ}{Y:Nat->Rat}{f:Int->Rat}(hf:∀(k:Nat) (r:AQ),rs[k]?=some r->f (2*(k:Int))=As Y r/\f (2*(k:Int)+1)=- As Y r)(p:Nat):∀j,j<=rs.length->((EJ (CJ (rs.take j)) p).map f).sum=A6 Y (rs.take j) p
 | 0,_=>by simp[CJ,EJ,A6]
 | j+1,hj=>by
  have e:rs[j]?=some rs[j]:=jb hj;have l1:(CJ (rs.take j)).length=2*j:=by rw[ES,kB]; omega
  rw[NQ e,C0 e,Lm,Lk,Lk,Ro hf p j (by omega),jw,l1];obtain⟨e1,e2⟩:=hf j _ e;rw[show((2*j:Nat):Int)=2*(j:Int) by omega,show((2*j + [rs[j].1].length:Nat):Int)=2*(j:Int)+1 by simp,e1,e2];unfold Cq;split <;> split <;> grind
theorem NetV.CI{n:Nat}{rs:List AQ}{ts:List (List Int)}{Y:Nat->Rat}{f:Int->Rat}(k:NetV n rs ts)(hf:∀(k:Nat) (r:AQ),rs[k]?=some r->f (2*(k:Int))=As Y r/\f (2*(k:Int)+1)=- As Y r){i:Nat}{t:List Int}(ht:ts[i]?=some t):(t.map f).sum=A6 Y rs i+(if i=0 then f (2*(rs.length:Int)) else 0)+if i=1 then f (2*(rs.length:Int)+1) else 0:=by
 rw[Lo ((k.perm ht).map f)];show((EJ (CJ rs++[0,1]) i).map f).sum=_;rw[show CJ rs++[0,1]=CJ rs++[0]++[1] by simp,Lk,Lk,jw,ES];have s:=Ro hf i rs.length (jj _);rw[lL] at s;rw[s,show((2*rs.length:Nat):Int)=2*(rs.length:Int) by omega,show((2*rs.length + [0].length:Nat):Int)=2*(rs.length:Int)+1 by simp]
structure Er(rs:List AQ)(ts:List (List Int))(Y:Nat->Rat)(p:Int->Rat):Prop where
 inv:∀x,AF (2*rs.length+2) x->p (AJ ts x)=p x
 df:∀(k:Nat) (r:AQ),rs[k]?=some r->p (2*(k:Int))-p (2*(k:Int)+1)=As Y r
 o:p (2*(rs.length:Int))=0
theorem dO{n:Nat}{rs:List AQ}{ts:List (List Int)}{Y:Nat->Rat}(k:NetV (n+2) rs ts)(po:CS ts (2*rs.length+2))(hb:∀i,2<=i->i<n+2->A6 Y rs i=0):∃p,Er rs ts Y p:=by
 have two:∀r∈rs,r.1<n+2/\r.2.1<n+2:=λr hr=>(k.ease r hr).2
 obtain⟨p,i1,d1⟩:=po (Eu rs Y) (λx _=>YY rs Y x) (λt ht=>by
  obtain⟨i,hi,e⟩:=jP ht;rw[k.CI (λ_ _ h=>⟨Qq h,Zn h⟩) (show ts[i]?=some t by rw[jb hi,e]),bE,aO];have po:=X0 two hb;rw[k.len] at hi
  match i,hi with
  | 0,_=>simp; grind
  | 1,_=>simp; grind
  | i+2,hi=>rw[hb (i+2) (by omega) hi,jm (by omega),jm (by omega)]; grind)
 refine⟨λx=>p x-p (2*(rs.length:Int)),λx hx=>?_,λj r hj=>?_,?_⟩
 ·show p _-_=p _-_;rw[i1 x hx]
 ·have hl:=(jc.mp hj).1
  have:=d1 (2*(j:Int)) ⟨by omega,by push_cast; omega⟩
  rw[show AM (2*(j:Int))=2*(j:Int)+1 by unfold AM; rw[jq (by omega)],Qq hj] at this;show p _-_-(p _-_)=_
  grind
 ·show p _-p _=0
  grind
theorem Nl{n:Nat}{rs:List AQ}{ts:List (List Int)}{Y:Nat->Rat}{p:Int->Rat}(k:NetV n rs ts)(h:Er rs ts Y p){i:Nat}(hi:i<n):A6 Y rs i=if i=0 then p (2*(rs.length:Int)+1) else if i=1 then-p (2*(rs.length:Int)+1) else 0:=by
 have ht:ts[i]?=some (ts[i]'(by rw[k.len]; exact hi)):=jb _;generalize ts[i]'(by rw[k.len]; exact hi)=t at ht;have tm:=jd ht;have ev:∀j:Nat,AM (2*(j:Int))=2*(j:Int)+1/\AM (2*(j:Int)+1)=2*(j:Int):=λj=>by
  unfold AM; rw[jq (by omega),jm (by omega)]; omega
 have e:=k.CI (f:=λx=>p x-p (AM x)) (Y:=Y) (λj r hj=>by
  have:=h.df j r hj
  rw[(ev j).1,(ev j).2];exact⟨this,by grind⟩) ht
 have z:(t.map λx=>p x-p (AM x)).sum=0:=by
  rw[Nk (g:=λx=>p x+(-1)*p (pr ts x)) (λx hx=>by
   have xi:=(k.tn.mem x).mp (jN.mpr ⟨t,tm,hx⟩)
   have:=h.inv _ (CM k.tn.Es xi)
   rw[Bb,B9] at this;rw[this]; grind),Jf,JN,R0 k.tn.nd tm p]
  grind
 rw[z] at e;rw[(ev _).1,(ev _).2,h.o] at e;split at e
 ·rename_i a; subst a
  rw[jq rfl]; simp at e; grind
 ·rename_i a
  rw[jm a];split at e
  ·rename_i b; rw[jq b]; grind
  ·rename_i b; rw[jm b]; grind
def D6(ts:List (List Int))(n:Nat)(p:Int->Rat)(j:Int):Rat:=p (((Al (AJ ts) n).getD j.toNat []).headD 0)
theorem KU{ts:List (List Int)}{n:Nat}{p:Int->Rat}(T:B4 n ts)(inv:∀x,AF n x->p (AJ ts x)=p x){x:Int}(hx:AF n x):D6 ts n p ((BD (Al (AJ ts) n) x:Nat):Int)=p x:=by
 have P:=T.perm;obtain⟨r,h1,h2⟩:=II ((Ek P).mpr hx);obtain⟨j1,j2,_⟩:=JS P (jd h1);unfold D6;rw[kQ,je,h1];show p (r.headD 0)=p x;rw[j2] at h2;obtain⟨k,_,e⟩:=Dx.mp h2;rw[<-e];exact(OS P j1 inv k).symm
theorem N9{ts:List (List Int)}{n:Nat}(T:B4 n ts){x:Int}(hx:AF n x):BD (Al (AJ ts) n) x<(Al (AJ ts) n).length:=by
 obtain⟨r,h1,_⟩:=II ((Ek T.perm).mpr hx);exact(jc.mp h1).1
theorem Lf{ts:List (List Int)}{n:Nat}(T:B4 n ts){j:Nat}(hj:j<(Al (AJ ts) n).length):∃x,AF n x/\BD (Al (AJ ts) n) x=j:=by
 have h1:(Al (AJ ts) n)[j]?=some (Al (AJ ts) n)[j]:=jb hj;obtain⟨j1,j2,_⟩:=JS T.perm (jd h1);refine⟨_,j1,L7 (HL T.perm) h1 ?_⟩
 have:=IB T.perm j1
 rw[<-j2] at this;exact this
def Jv(ts:List (List Int))(m:Nat):Prop:=∀S:Int->Prop,(∀x,AF (2*m+2) x->(S x↔S (AJ ts x)))->(∀k:Nat,k<m->(S (2*(k:Int))↔S (2*(k:Int)+1)))->S (2*(m:Int))->∀x,AF (2*m+2) x->S x
theorem _root_.Mth.Fy.GL{ts:List (List Int)}{m:Nat}(D:Fy (AJ ts) m):Jv ts m:=λS h1 h2 h0 x hx=>by
 by_cases z:S (2*(m:Int)+1)
 ·exact D.Cp S h1 h2 z x hx
 ·have:=D.Cp (λx=>¬S x) (λx hx=>not_congr (h1 x hx)) (λk hk=>not_congr (h2 k hk)) z (2*(m:Int)) ⟨by omega,by push_cast; omega⟩
  exact absurd h0 this
structure K7(n:Nat)(rs:List AQ)(ts:List (List Int)):Prop extends NetV n rs ts where
 GL:Jv ts rs.length
 P1:CS ts (2*rs.length+2)
theorem NetV.q{n:Nat}{rs:List AQ}{ts:List (List Int)}(k:NetV n rs ts)(D:LO ts rs.length):K7 n rs ts:=⟨k,D.du.GL,D.po⟩
end
end My
namespace My
open PySem L2 Mth Wd
def BC(G k:Nat):Nat:=if k=0 then 0 else if k=G then 1 else k+1
theorem L5{G k:Nat}(g1:1<=G)(h:k<=G):BC G k<G+1:=by unfold BC; split <;> (try split) <;> omega
theorem NZ{G p:Nat}(g1:1<=G)(h:p<G+1):∃k,k<=G/\BC G k=p:=by
 by_cases e0:p=0
 ·exact⟨0,by omega,by unfold BC; rw[jq rfl,e0]⟩
 ·by_cases e1:p=1
  ·exact⟨G,by omega,by unfold BC; rw[jm (by omega),jq rfl,e1]⟩
  ·exact⟨p-1,by omega,by unfold BC; rw[jm (by omega),jm (by omega)]; omega⟩
structure Cz(m:Nat)(gs:List (List Int)):Prop where
 fl:gs.flatten=(ju m).map λr:Nat=>(r:Int)
 sz:∀g∈gs,∃a:Int,g=[a]\/g=[a,a+1]
 m1:1<=m
 m14:m<=14
def BY(m:Nat)(gs:List (List Int))(k:Nat):List Int:=if k=0 then [2*(m:Int)] else ((gs.getD (k-1) []).reverse).map λr=>2*r+1
def Bl(m:Nat)(gs:List (List Int))(k:Nat):List Int:=if k<gs.length then (gs.getD k []).map λr=>2*r else [2*(m:Int)+1]
structure Cu(m:Nat)(gs:List (List Int))(rs:List AQ)(ts:List (List Int)):Prop where
 g:Cz m gs
 len:ts.length=gs.length+1
 tr:∀k,k<=gs.length->ts[BC gs.length k]?=some (BY m gs k++Bl m gs k)
 rp:rs=(CO 0 gs).map λq=>(BC gs.length q.2.toNat,BC gs.length (q.2.toNat+1),1)
section
variable {m:Nat} {gs:List (List Int)}
theorem Cz.nd(g:Cz m gs):gs.flatten.Nodup:=by
 rw[g.fl,nU,lP];exact nj (λh e=>h (by omega)) lK
theorem Cz.mem(g:Cz m gs){r:Int}:r∈gs.flatten↔0<=r/\r<m:=by
 rw[g.fl,js];constructor
 ·rintro⟨j,hj,rfl⟩
  have:=jZ.mp hj
  omega
 ·rintro⟨h1,h2⟩;exact⟨r.toNat,jZ.mpr (by omega),by omega⟩
theorem Cz.at(g:Cz m gs){r:Int}(h0:0<=r)(h1:r<m):∃(k:Nat) (x:List Int),gs[k]?=some x/\r∈x:=by
 obtain⟨x,hx,hr⟩:=jN.mp (g.mem.mpr ⟨h0,h1⟩);obtain⟨k,hk,e⟩:=jP hx;exact⟨k,x,by rw[jb hk,e],hr⟩
theorem Cz.in(g:Cz m gs){k:Nat}{x:List Int}{r:Int}(hk:gs[k]?=some x)(hr:r∈x):0<=r/\r<m:=g.mem.mp (jN.mpr ⟨x,jd hk,hr⟩)
theorem Cz.le(g:Cz m gs):gs.length<=m:=by
 have go:∀l:List (List Int),(∀x∈l,1<=x.length)->l.length<=l.flatten.length:=by
  intro l
  induction l with
  | nil=>intro _; simp
  | cons x l ih =>
   intro h
   have:=ih λy hy=>h y (jX _ hy)
   have:=h x (kO ..)
   rw[j5,jw,ka];omega
 have:=go gs λx hx=>by obtain⟨a,e | e⟩:=g.sz x hx <;> rw[e] <;> simp
 rw[g.fl,ja,jV] at this;exact this
theorem Cz.g1(g:Cz m gs):1<=gs.length:=by
 rcases nI gs.length with z | z
 ·have:=g.fl
  rw[qY z] at this;have l:=congrArg m7 this;rw[ja,jV] at l;have e0:([]:List (List Int)).flatten.length=0:=rfl
  have:=g.m1
  omega
 ·exact z
theorem GN:BY m gs 0=[2*(m:Int)]:=jq rfl
theorem Fn{k:Nat}{x:List Int}(h:gs[k]?=some x):BY m gs (k+1)=x.reverse.map λr=>2*r+1:=by
 unfold BY;rw[jm (by omega),pS,je,h]; rfl
theorem FF{k:Nat}{x:List Int}(h:gs[k]?=some x):Bl m gs k=x.map λr=>2*r:=by
 unfold Bl;rw[jq (jc.mp h).1,je,h]; rfl
theorem IU:Bl m gs gs.length=[2*(m:Int)+1]:=jm (mW _)
theorem Cz.grp(g:Cz m gs){k:Nat}(h:k<gs.length):∃a:Int,gs[k]?=some [a]\/gs[k]?=some [a,a+1]:=by
 obtain⟨a,e | e⟩:=g.sz _ (kU h)
 ·exact⟨a,.inl (by rw[jb h,e])⟩
 ·exact⟨a,.inr (by rw[jb h,e])⟩
theorem Pe(a b:Int):BB [a,b]=[(a,b),(b,a)]:=rfl
theorem Il(a b c:Int):BB [a,b,c]=[(a,c),(b,a),(c,b)]:=rfl
theorem Mq(a b c d:Int):BB [a,b,c,d]=[(a,d),(b,a),(c,b),(d,c)]:=rfl
inductive Hf(J:Int->Int->Prop):List Int->Int->Int->Prop
 | Ae (a:Int):Hf J [a] a a
 | two (z y:Int) (h:J y z):Hf J [z,y] z y
theorem ak{J:Int->Int->Prop}{A B:List Int}{fA lA fB lB:Int}(hA:Hf J A fA lA)(hB:Hf J B fB lB)(h1:J fA lB)(h2:J fB lA):∀q∈BB (A++B),J q.1 q.2:=by
 intro q hq;cases hA with
 | Ae a =>
  cases hB with
  | Ae b =>
   rw[show [fA]++[fB]=[fA,fB] from rfl,Pe] at hq;simp only[jK,ke,lM] at hq;rcases hq with rfl | rfl
   ·exact h1
   ·exact h2
  | two z y hB =>
   rw[show [fA]++[fB,lB]=[fA,fB,lB] from rfl,Il] at hq;simp only[jK,ke,lM] at hq;rcases hq with rfl | rfl | rfl
   ·exact h1
   ·exact h2
   ·exact hB
 | two z y hA =>
  cases hB with
  | Ae b =>
   rw[show [fA,lA]++[fB]=[fA,lA,fB] from rfl,Il] at hq;simp only[jK,ke,lM] at hq;rcases hq with rfl | rfl | rfl
   ·exact h1
   ·exact hA
   ·exact h2
  | two z y hB =>
   rw[show [fA,lA]++[fB,lB]=[fA,lA,fB,lB] from rfl,Mq] at hq;simp only[jK,ke,lM] at hq;rcases hq with rfl | rfl | rfl | rfl
   ·exact h1
   ·exact hA
   ·exact h2
   ·exact hB
theorem To{J:Int->Int->Prop}{A B:List Int}{fA lA fB lB:Int}(hA:Hf (λ_ _=>True) A fA lA)(hB:Hf (λ_ _=>True) B fB lB)(h:∀q∈BB (A++B),J q.1 q.2):J fA lB/\J fB lA/\(∀z y,B=[z,y]->J y z):=by
 cases hA with
 | Ae a =>
  cases hB with
  | Ae b=>exact⟨h (fA,fB) (by rw[show [fA]++[fB]=[fA,fB] from rfl,Pe]; simp),h (fB,fA) (by rw[show [fA]++[fB]=[fA,fB] from rfl,Pe]; simp),λz y e=>by cases e⟩
  | two z y _=>exact⟨h (fA,lB) (by rw[show [fA]++[fB,lB]=[fA,fB,lB] from rfl,Il]; simp),h (fB,fA) (by rw[show [fA]++[fB,lB]=[fA,fB,lB] from rfl,Il]; simp),λz y e=>by cases e; exact h (lB,fB) (by rw[show [fA]++[fB,lB]=[fA,fB,lB] from rfl,Il]; simp)⟩
 | two z y _ =>
  cases hB with
  | Ae b=>exact⟨h (fA,fB) (by rw[show [fA,lA]++[fB]=[fA,lA,fB] from rfl,Il]; simp),h (fB,lA) (by rw[show [fA,lA]++[fB]=[fA,lA,fB] from rfl,Il]; simp),λz y e=>by cases e⟩
  | two z y _=>exact⟨h (fA,lB) (by rw[show [fA,lA]++[fB,lB]=[fA,lA,fB,lB] from rfl,Mq]; simp),h (fB,lA) (by rw[show [fA,lA]++[fB,lB]=[fA,lA,fB,lB] from rfl,Mq]; simp),λz y e=>by cases e; exact h (lB,fB) (by rw[show [fA,lA]++[fB,lB]=[fA,lA,fB,lB] from rfl,Mq]; simp)⟩
theorem Gf(a:Int):AM (2*a)=2*a+1:=by unfold AM; rw[jq (by omega)]
theorem Iq(a:Int):AM (2*a+1)=2*a:=by unfold AM; rw[jm (by omega)]; omega
theorem Cz.J8(g:Cz m gs)(J:Int->Int->Prop)(hJ:∀a:Int,[a,a+1]∈gs->J (2*a+1) (2*(a+1)+1)){k:Nat}(h:k<gs.length):∃a b:Int,a∈gs.getD k []/\b∈gs.getD k []/\Hf J (BY m gs (k+1)) (2*b+1) (2*a+1)/\(∀J',(∀a:Int,[a,a+1]∈gs->J' (2*(a+1)) (2*a))->Hf J' (Bl m gs k) (2*a) (2*b))/\((gs[k]?=some [a]/\b=a)\/(gs[k]?=some [a,a+1]/\b=a+1)):=by
 obtain⟨a,e | e⟩:=g.grp h
 ·refine⟨a,a,by rw[je,e]; simp,by rw[je,e]; simp,?_,λJ' _=>?_,.inl ⟨e,rfl⟩⟩
  ·rw[Fn e]; exact .Ae _
  ·rw[FF e]; exact .Ae _
 ·have hm:=jd e;refine⟨a,a+1,by rw[je,e]; simp,by rw[je,e]; simp,?_,λJ' h'=>?_,.inr ⟨e,rfl⟩⟩
  ·rw[Fn e]; exact .two _ _ (hJ a hm)
  ·rw[FF e]; exact .two _ _ (h' a hm)
end
section
variable {m:Nat} {gs:List (List Int)} {rs:List AQ} {ts:List (List Int)}
theorem N4{rs:List AQ}{k:Nat}{r:AQ}(h:rs[k]?=some r):(hm rs)[2*k]?=some r.1/\(hm rs)[2*k+1]?=some r.2.1:=by
 have hk:=(jc.mp h).1;obtain⟨a1,a2⟩:=HN h;have l0:=ES rs;unfold hm;exact⟨by rw[jM (by rw[l0]; omega)]; exact a1,by rw[jM (by rw[l0]; omega)]; exact a2⟩
theorem U5(rs:List AQ):(hm rs)[2*rs.length]?=some 0/\(hm rs)[2*rs.length+1]?=some 1:=by
 have l0:=ES rs;unfold hm;exact⟨by rw[jy (by omega),l0,nM]; rfl,by rw[jy (by omega),l0,show 2*rs.length+1-2*rs.length=1 by omega]; rfl⟩
theorem Cu.rl(l:Cu m gs rs ts):rs.length=m:=by
 have:=congrArg m7 (FZ 0 gs)
 rw[ja,l.g.fl,ja,jV] at this;rw[l.rp,ja,this]
theorem Cu.Pf(l:Cu m gs rs ts){k:Nat}{x:List Int}{r:Int}(hk:gs[k]?=some x)(hr:r∈x):rs[r.toNat]?=some (BC gs.length k,BC gs.length (k+1),1):=by
 have h1:=Ly gs 0 k x r hk hr;rw[oj] at h1;obtain⟨j,hj,e⟩:=jP h1;have h2:((CO 0 gs).map (·.1))[j]?=some r:=by rw[ji,jb hj,e]; rfl
 rw[FZ,l.g.fl,ji] at h2;obtain⟨j',h3,h4⟩:=lV.mp h2;have hj':=jc.mp h3;obtain⟨hl,e3⟩:=hj';rw[vf] at e3;have ej:r.toNat=j:=by omega
 rw[ej,l.rp,ji,jb hj,e];show some (BC gs.length ((k:Int)).toNat,BC gs.length (((k:Int)).toNat+1),(1:Rat))=_;rw[kQ]
theorem Cu.P6(l:Cu m gs rs ts){k:Nat}(hk:k<=gs.length){x:Int}(hx:x∈BY m gs k++Bl m gs k):AF (2*m+2) x/\(hm rs)[x.toNat]?=some (BC gs.length k):=by
 have ho:=U5 rs;rw[l.rl] at ho;rcases jI.mp hx with h | h
 ·cases k with
  | zero =>
   rw[GN,jO] at h;subst h;exact⟨⟨by omega,by push_cast; omega⟩,by rw[show(2*(m:Int)).toNat=2*m by omega,ho.1]; unfold BC; rw[jq rfl]⟩
  | succ k =>
   have e:=jb (show k<gs.length by omega);rw[Fn e] at h;obtain⟨r,hr,rfl⟩:=js.mp h;have hr':=tD.mp hr;have i:=l.g.in e hr'
   have:=(N4 (l.Pf e hr')).2
   exact⟨⟨by omega,by push_cast; omega⟩,by rw[show(2*r+1).toNat=2*r.toNat+1 by omega]; exact this⟩
 ·rcases j6 k gs.length with z | z
  ·have e:=jb z;rw[FF e] at h;obtain⟨r,hr,rfl⟩:=js.mp h;have i:=l.g.in e hr
   have:=(N4 (l.Pf e hr)).1
   exact⟨⟨by omega,by push_cast; omega⟩,by rw[show(2*r).toNat=2*r.toNat by omega]; exact this⟩
  ·obtain rfl:k=gs.length:=by omega
   rw[IU,jO] at h;subst h
   have:=l.g.g1
   exact⟨⟨by omega,by push_cast; omega⟩,by rw[show(2*(m:Int)+1).toNat=2*m+1 by omega,ho.2]; unfold BC; rw[jm (by omega),jq rfl]⟩
theorem Cu.of(l:Cu m gs rs ts){p:Nat}{t:List Int}(h:ts[p]?=some t):∃k,k<=gs.length/\p=BC gs.length k/\t=BY m gs k++Bl m gs k:=by
 have hp:=(jc.mp h).1;rw[l.len] at hp;obtain⟨k,hk,e⟩:=NZ l.g.g1 hp;refine⟨k,hk,e.symm,?_⟩
 have:=l.tr k hk
 rw[e,h] at this;exact jL this
theorem Cu.Cb(l:Cu m gs rs ts):∀(p:Nat) (t:List Int),ts[p]?=some t->∀x:Int,x∈t->(hm rs)[x.toNat]?=some p:=λp t h x hx=>by
 obtain⟨k,hk,rfl,rfl⟩:=l.of h;exact(l.P6 hk hx).2
theorem Cu.UJ(l:Cu m gs rs ts)(J:Int->Int->Prop)(hA:∀a:Int,[a,a+1]∈gs->J (2*a+1) (2*(a+1)+1))(hB:∀a:Int,[a,a+1]∈gs->J (2*(a+1)) (2*a)){k:Nat}(hk:k<=gs.length):∃fA lA fB lB,Hf J (BY m gs k) fA lA/\Hf J (Bl m gs k) fB lB:=by
 have A:∃fA lA,Hf J (BY m gs k) fA lA:=by
  cases k with
  | zero=>rw[GN]; exact⟨_,_,.Ae _⟩
  | succ k=>obtain⟨a,b,_,_,h,_⟩:=l.g.J8 J hA (show k<gs.length by omega); exact⟨_,_,h⟩
 have B:∃fB lB,Hf J (Bl m gs k) fB lB:=by
  rcases j6 k gs.length with z | z
  ·obtain⟨a,b,_,_,_,h,_⟩:=l.g.J8 J hA z; exact⟨_,_,h J hB⟩
  ·obtain rfl:k=gs.length:=by omega
   rw[IU]; exact⟨_,_,.Ae _⟩
 obtain⟨fA,lA,a⟩:=A;obtain⟨fB,lB,b⟩:=B;exact⟨fA,lA,fB,lB,a,b⟩
theorem Cu.Dm(l:Cu m gs rs ts):B4 (2*m+2) ts:=by
 have ho:=l.Cb;refine⟨?_,λx=>⟨λhx=>?_,λhx=>?_⟩,by omega⟩
 ·refine qJ.mpr ⟨λt ht=>?_,pM.mpr λi j hi hj hij x hx y hy e=>?_⟩
  ·obtain⟨i,hi,e⟩:=jP ht;obtain⟨k,hk,_,rfl⟩:=l.of (show ts[i]?=some t by rw[jb hi,e]);have ev:∀x∈BY m gs k,x=2*(m:Int)\/x % 2=1:=λx hx=>by
    cases k with
    | zero=>rw[GN,jO] at hx; exact .inl hx
    | succ k =>
     rw[Fn (jb (show k<gs.length by omega))] at hx;obtain⟨r,_,rfl⟩:=js.mp hx;exact .inr (by omega)
   have od:∀x∈Bl m gs k,(x % 2=0/\x<2*m)\/(x=2*(m:Int)+1/\k=gs.length):=λx hx=>by
    rcases j6 k gs.length with z | z
    ·have e:=jb z;rw[FF e] at hx;obtain⟨r,hr,rfl⟩:=js.mp hx
     have:=l.g.in e hr
     exact .inl ⟨by omega,by omega⟩
    ·obtain rfl:k=gs.length:=by omega
     rw[IU,jO] at hx;exact .inr ⟨hx,rfl⟩
   obtain⟨fA,lA,fB,lB,a,b⟩:=l.UJ (λy z=>y≠z) (λa _=>by omega) (λa _=>by omega) hk;have na:(BY m gs k).Nodup:=by
    generalize BY m gs k=A at a;cases a with
    | Ae a=>simp
    | two z y h=>simp[lF h]
   have nb:(Bl m gs k).Nodup:=by
    generalize Bl m gs k=B at b;cases b with
    | Ae a=>simp
    | two z y h=>simp[lF h]
   show(BY m gs k++Bl m gs k).Nodup;rw[lj];refine⟨na,nb,λx hx y hy e=>?_⟩;subst e;rcases ev x hx with h1 | h1 <;> rcases od x hy with h2 | h2
   ·omega
   ·omega
   ·omega
   ·obtain⟨h3,rfl⟩:=h2;have g1:=l.g.g1;obtain⟨k',hk'⟩:∃k',gs.length=k' + 1:=⟨gs.length-1,by omega⟩;have e:=jb (show k' < gs.length by omega);rw[hk',Fn e] at hx;obtain⟨r,hr,e2⟩:=js.mp hx
    have:=l.g.in e (tD.mp hr)
    omega
  ·have h1:=ho i _ (jb hi) x hx;have h2:=ho j _ (jb hj) y hy;rw[e,h2] at h1
   have:=jL h1
   omega
 ·obtain⟨t,ht,hx⟩:=jN.mp hx;obtain⟨i,hi,e⟩:=jP ht;obtain⟨k,hk,_,rfl⟩:=l.of (show ts[i]?=some t by rw[jb hi,e]);exact(l.P6 hk hx).1
 ·have put:∀k,k<=gs.length->x∈BY m gs k++Bl m gs k->x∈ts.flatten:=λk hk h=>jN.mpr ⟨_,jd (l.tr k hk),h⟩
  obtain⟨x0,x1⟩:=hx;push_cast at x1;by_cases e0:x=2*m
  ·exact put 0 (kH _) (by rw[GN,e0]; simp)
  ·by_cases e1:x=2*m+1
   ·exact put gs.length (jj _) (by rw[IU,e1]; simp)
   ·obtain⟨k,g,hk,hr⟩:=l.g.at (r:=x / 2) (by omega) (by omega);have hl:=(jc.mp hk).1;by_cases ev:x % 2=0
    ·exact put k (by omega) (jI.mpr (.inr (by rw[FF hk]; exact js.mpr ⟨_,hr,by omega⟩)))
    ·exact put (k+1) (by omega) (jI.mpr (.inl (by rw[Fn hk]; exact js.mpr ⟨_,tD.mpr hr,by omega⟩)))
end
section
variable {m:Nat} {gs:List (List Int)} {rs:List AQ} {ts:List (List Int)}
theorem Cu.pr(l:Cu m gs rs ts){k:Nat}(hk:k<=gs.length){q:Int×Int}(hq:q∈BB (BY m gs k++Bl m gs k)):Mth.pr ts q.1=q.2 :=
 DS l.Dm.nd (jN.mpr ⟨_,js.mpr ⟨_,jd (l.tr k hk),rfl⟩,hq⟩)
theorem Cu.GL(l:Cu m gs rs ts):Jv ts m:=λS h1 h2 h0=>by
 have T:=l.Dm;have cl:∀k,k<=gs.length->∀q∈BB (BY m gs k++Bl m gs k),(S (AM q.1)↔S q.2):=λk hk q hq=>by
  have hm:q.1∈BY m gs k++Bl m gs k:=by rw[<-JU (BY m gs k++Bl m gs k)]; exact js.mpr ⟨q,hq,rfl⟩
  have:=h1 (AM q.1) (CM T.Es (l.P6 hk hm).1)
  rw[Bb,B9,l.pr hk hq] at this;exact this
 have rp:∀a:Int,0<=a->a<m->(S (2*a)↔S (2*a+1)):=λa a0 a1=>by
  have:=h2 a.toNat (by omega)
  rwa [show((a.toNat:Nat):Int)=a by omega] at this
 have halfA:∀k,k<=gs.length->∃fA lA,Hf (λ_ _=>True) (BY m gs k) fA lA/\(k=0->lA=2*(m:Int))/\(∀j,k=j+1->∃a b,fA=2*b+1/\lA=2*a+1/\((gs[j]?=some [a]/\b=a)\/(gs[j]?=some [a,a+1]/\b=a+1))):=λk hk=>by
  cases k with
  | zero=>rw[GN]; exact⟨_,_,.Ae _,λ_=>rfl,λj z=>by omega⟩
  | succ k =>
   obtain⟨a,b,_,_,h,_,c⟩:=l.g.J8 (λ_ _=>True) (λ_ _=>trivial) (show k<gs.length by omega);refine⟨_,_,h,λz=>by omega,λj z=>?_⟩;obtain rfl:k=j:=by omega
   exact⟨a,b,rfl,rfl,c⟩
 have step:∀k,k<gs.length->(∀fA lA,Hf (λ_ _=>True) (BY m gs k) fA lA->S lA)->∀x,gs[k]?=some x->∀r∈x,S (2*r)/\S (2*r+1):=λk hk hS x hx r hr=>by
  obtain⟨a,b,_,_,_,hB,c⟩:=l.g.J8 (λ_ _=>True) (λ_ _=>trivial) hk;obtain⟨fA,lA,hA,_⟩:=halfA k (by omega);obtain⟨c1,c2,c3⟩:=To (J:=λy z=>S (AM y)↔S z) hA (hB _ λ_ _=>trivial) (cl k (by omega));have sl:=hS _ _ hA;have s1:S (2*a+1):=by rw[Gf] at c2; exact c2.mpr sl
  rcases c with ⟨e,rfl⟩ | ⟨e,rfl⟩
  ·rw[e] at hx;cases hx;rw[jO.mp hr];have i:=l.g.in e (jO.mpr rfl);exact⟨(rp _ i.1 i.2).mpr s1,s1⟩
  ·rw[e] at hx;cases hx;have i:=l.g.in e (show a∈[a,a+1] by simp);have i2:=l.g.in e (show a+1∈[a,a+1] by simp);have s2:=(rp _ i.1 i.2).mpr s1;have c4:=c3 (2*a) (2*(a+1)) (by rw[FF e]; rfl);rw[Gf] at c4;have s3:=c4.mpr s2;simp only[jK,ke,lM] at hr;rcases hr with rfl | rfl
   ·exact⟨s2,s1⟩
   ·exact⟨(rp _ i2.1 i2.2).mpr s3,s3⟩
 have lastA:∀{A:List Int} {f1 l1 f2 l2:Int},Hf (λ_ _=>True) A f1 l1->Hf (λ_ _=>True) A f2 l2->l1=l2:=λh h'=>by
  cases h <;> cases h' <;> rfl
 have all:∀k,k<=gs.length->(∀fA lA,Hf (λ_ _=>True) (BY m gs k) fA lA->S lA)/\∀j,j<k->∀x,gs[j]?=some x->∀r∈x,S (2*r)/\S (2*r+1):=by
  intro k
  induction k with
  | zero =>
   intro _;refine⟨λfA lA h=>?_,λj hj=>by omega⟩;obtain⟨_,_,h',e,_⟩:=halfA 0 (kH _);rw[lastA h h',e rfl]; exact h0
  | succ k ih =>
   intro hk;obtain⟨i1,i2⟩:=ih (by omega);have st:=step k (by omega) i1;refine⟨λfA lA h=>?_,λj hj x hx r hr=>?_⟩
   ·obtain⟨_,_,h',_,c⟩:=halfA (k+1) hk;obtain⟨a,b,_,e2,c⟩:=c k rfl;rw[lastA h h',e2];rcases c with ⟨e,_⟩ | ⟨e,_⟩
    ·exact(st _ e a (by simp)).2
    ·exact(st _ e a (by simp)).2
   ·rcases j6 j k with z | z
    ·exact i2 j z x hx r hr
    ·obtain rfl:j=k:=by omega
     exact st x hx r hr
 obtain⟨_,al⟩:=all gs.length (jj _);have g1:=l.g.g1;obtain⟨k',hk'⟩:∃k',gs.length=k' + 1:=⟨gs.length-1,by omega⟩;have sO:S (2*(m:Int)+1):=by
  obtain⟨fA,lA,hA,_,c⟩:=halfA gs.length (jj _);obtain⟨a,b,e1,_,c⟩:=c k' hk';have hB:Hf (λ_ _=>True) (Bl m gs gs.length) (2*(m:Int)+1) (2*(m:Int)+1):=by rw[IU]; exact .Ae _
  obtain⟨c1,_⟩:=To (J:=λy z=>S (AM y)↔S z) hA hB (cl gs.length (jj _));rw[e1,Iq] at c1;refine c1.mp ?_;rcases c with ⟨e,rfl⟩ | ⟨e,rfl⟩
  ·exact(al k' (by omega) _ e _ (by simp)).1
  ·exact(al k' (by omega) _ e _ (by simp)).1
 intro x hx;obtain⟨x0,x1⟩:=hx;push_cast at x1;by_cases e0:x=2*m
 ·rw[e0]; exact h0
 ·by_cases e1:x=2*m+1
  ·rw[e1]; exact sO
  ·obtain⟨k,g,hk,hr⟩:=l.g.at (r:=x / 2) (by omega) (by omega);obtain⟨s1,s2⟩:=al k (jc.mp hk).1 g hk _ hr;by_cases ev:x % 2=0
   ·rwa [show 2*(x / 2)=x by omega] at s1
   ·rwa [show 2*(x / 2)+1=x by omega] at s2
open Classical in
def Fv(gs:List (List Int))(f:Int->Rat)(r:Int):Rat:=if [r-1,r]∈gs then f (2*(r-1)) else 0
def Bu(m:Nat)(gs:List (List Int))(f:Int->Rat)(x:Int):Rat:=if x=2*m then 0 else if x=2*m+1 then f (2*m+1) else if x % 2=0 then Fv gs f (x / 2)+f x else Fv gs f (x / 2)
theorem Cz.two(g:Cz m gs){k k':Nat}{x y:List Int}{r:Int}(h:gs[k]?=some x)(h':gs[k']?=some y)(hx:r∈x)(hy:r∈y):x=y:=by
 have:=VL g.nd h h' hx hy
 subst this;rw[h] at h';exact jL h'
theorem OY(g:Cz m gs){f:Int->Rat}{k:Nat}{x:List Int}{a:Int}(h:gs[k]?=some x)(ha:a∈x)(hn:x≠[a-1,a]):Fv gs f a=0:=by
 unfold Fv;refine jm λz=>?_
 obtain⟨k',hk',e⟩:=jP z;exact hn (g.two h (show gs[k']?=some [a-1,a] by rw[jb hk',e]) ha (by simp))
theorem Jp(g:Cz m gs){f:Int->Rat}{k:Nat}{x:List Int}{a:Int}(h:gs[k]?=some x)(ha:a∈x):Bu m gs f (2*a)=Fv gs f a+f (2*a)/\Bu m gs f (2*a+1)=Fv gs f a:=by
 have i:=g.in h ha;unfold Bu;rw[jm (by omega),jm (by omega),jq (by omega),jm (by omega),jm (by omega),jm (by omega),show 2*a / 2=a by omega,show(2*a+1) / 2=a by omega];exact⟨rfl,rfl⟩
theorem Cu.P1(l:Cu m gs rs ts):CS ts (2*m+2):=λf anti bal=>by
 have T:=l.Dm;have g:=l.g;have fo:∀a:Int,0<=a->a<=m->f (2*a+1)=- f (2*a):=λa a0 a1=>by
  have:=anti (2*a) ⟨by omega,by push_cast; omega⟩
  rwa [Gf] at this
 have sB:∀k,k<=gs.length->((Bl m gs k).map f).sum=f (2*m+1):=by
  intro k
  induction k with
  | zero =>
   intro _
   have:=bal _ (jd (l.tr 0 (kH _)))
   rw[jH,pN,GN] at this;simp only[jx,kR,j7,mM] at this;rw[fo m (by omega) (by omega)]
   grind
  | succ k ih =>
   intro hk;have hk':k<gs.length:=by omega
   have e:=jb hk'
   have:=bal _ (jd (l.tr (k+1) hk))
   rw[jH,pN] at this;have ih:=ih (by omega);rw[FF e] at ih;have sA:((BY m gs (k+1)).map f).sum=- (((gs[k]).map λr=>2*r).map f).sum:=by
    rw[Fn e,kr,kr];have p:=Lo ((List.reverse_perm gs[k]).map (f ∘ λr=>2*r+1));rw[p]
    have:∀r∈gs[k],(f ∘ λr=>2*r+1) r=-1*f (2*r):=λr hr=>by
     have i:=g.in e hr;show f (2*r+1)=_;rw[fo r i.1 (by omega)]; grind
    rw[lX this,JN (f:=λr=>f (2*r))];show -1*((gs[k]).map λr=>f (2*r)).sum=- ((gs[k]).map λr=>f (2*r)).sum
    grind
   rw[sA] at this
   grind
 have p0:Bu m gs f (2*m)=0:=jq rfl;have p1:Bu m gs f (2*m+1)=f (2*m+1):=by unfold Bu; rw[jm (by omega),jq rfl]
 have grp:∀k,k<gs.length->∀a b:Int,((gs[k]?=some [a]/\b=a)\/(gs[k]?=some [a,a+1]/\b=a+1))->Bu m gs f (2*a+1)=0/\Bu m gs f (2*b)=f (2*m+1):=λk hk a b c=>by
  have s:=sB k (by omega);rcases c with ⟨e,rfl⟩ | ⟨e,rfl⟩
  ·have z:=OY g (f:=f) e (jO.mpr rfl) (λq=>by simp at q);obtain⟨h1,h2⟩:=Jp g (f:=f) e (jO.mpr rfl);rw[h1,h2,z];rw[FF e] at s;simp only[jx,kR,j7,mM] at s;exact⟨rfl,by grind⟩
  ·have z:=OY g (f:=f) (a:=a) e (by simp) (λq=>by simp at q; omega);obtain⟨h1,h2⟩:=Jp g (f:=f) (a:=a) e (by simp);obtain⟨h3,h4⟩:=Jp g (f:=f) (a:=a+1) e (by simp);have y:Fv gs f (a+1)=f (2*a):=by
    unfold Fv;rw[show a+1-1=a by omega,jq (jd e)]
   rw[h2,h3,z,y];rw[FF e] at s;simp only[jx,kR,j7,mM] at s;exact⟨rfl,by grind⟩
 have mid:∀a:Int,[a,a+1]∈gs->Bu m gs f (2*a)=Bu m gs f (2*(a+1)+1):=λa h=>by
  obtain⟨k,hk,e⟩:=jP h;have e:gs[k]?=some [a,a+1]:=by rw[jb hk,e]
  have z:=OY g (f:=f) (a:=a) e (by simp) (λq=>by simp at q; omega);obtain⟨h1,h2⟩:=Jp g (f:=f) (a:=a) e (by simp);obtain⟨h3,h4⟩:=Jp g (f:=f) (a:=a+1) e (by simp);have y:Fv gs f (a+1)=f (2*a):=by
   unfold Fv;rw[show a+1-1=a by omega,jq h]
  rw[h1,h4,z,y]; grind
 have jA:∀a:Int,[a,a+1]∈gs->Bu m gs f (2*(a+1)+1)=Bu m gs f (AM (2*a+1)):=λa h=>by rw[Iq,mid a h]
 have jB:∀a:Int,[a,a+1]∈gs->Bu m gs f (2*a)=Bu m gs f (AM (2*(a+1))):=λa h=>by rw[Gf,mid a h]
 have row:∀k,k<=gs.length->∀q∈BB (BY m gs k++Bl m gs k),Bu m gs f q.2=Bu m gs f (AM q.1):=λk hk=>by
  have A:∃fA lA,Hf (λy z=>Bu m gs f z=Bu m gs f (AM y)) (BY m gs k) fA lA/\Bu m gs f lA=0/\Bu m gs f (AM fA)=f (2*m+1):=by
   cases k with
   | zero=>rw[GN]; exact⟨_,_,.Ae _,p0,by rw[Gf]; exact p1⟩
   | succ k =>
    obtain⟨a,b,_,_,h,_,c⟩:=g.J8 (λy z=>Bu m gs f z=Bu m gs f (AM y)) jA (show k<gs.length by omega);obtain⟨q1,q2⟩:=grp k (by omega) a b c;exact⟨_,_,h,q1,by rw[Iq]; exact q2⟩
  have B:∃fB lB,Hf (λy z=>Bu m gs f z=Bu m gs f (AM y)) (Bl m gs k) fB lB/\Bu m gs f (AM fB)=0/\Bu m gs f lB=f (2*m+1):=by
   rcases j6 k gs.length with z | z
   ·obtain⟨a,b,_,_,_,h,c⟩:=g.J8 (λy z=>Bu m gs f z=Bu m gs f (AM y)) jA z;obtain⟨q1,q2⟩:=grp k z a b c;exact⟨_,_,h _ jB,by rw[Gf]; exact q1,q2⟩
   ·obtain rfl:k=gs.length:=by omega
    rw[IU]; exact⟨_,_,.Ae _,by rw[Iq]; exact p0,p1⟩
  obtain⟨fA,lA,hA,a1,a2⟩:=A;obtain⟨fB,lB,hB,b1,b2⟩:=B;exact ak (J:=λy z=>Bu m gs f z=Bu m gs f (AM y)) hA hB (b2.trans a2.symm) (a1.trans b1.symm)
 refine⟨Bu m gs f,λx hx=>?_,λx hx=>?_⟩
 ·have hy:=(T.mem (AM x)).mpr (CM T.Es hx);obtain⟨t,ht,hm⟩:=jN.mp hy;obtain⟨i,hi,e⟩:=jP ht;obtain⟨k,hk,_,rfl⟩:=l.of (show ts[i]?=some t by rw[jb hi,e]);rw[<-JU (BY m gs k++Bl m gs k)] at hm;obtain⟨q,hq,e2⟩:=js.mp hm
  have:=row k hk q hq
  rw[Bb,<-e2,l.pr hk hq,this,e2,B9]
 ·obtain⟨x0,x1⟩:=hx;push_cast at x1;by_cases e0:x=2*m
  ·rw[e0,Gf,p0,p1,fo m (by omega) (by omega)]; grind
  ·by_cases e1:x=2*m+1
   ·rw[e1,Iq,p0,p1]; grind
   ·obtain⟨k,y,hk,hr⟩:=g.at (r:=x / 2) (by omega) (by omega);obtain⟨h1,h2⟩:=Jp g (f:=f) hk hr;by_cases ev:x % 2=0
    ·rw[show x=2*(x / 2) by omega,Gf,h1,h2]; grind
    ·have:=fo (x / 2) (by omega) (by omega)
     rw[show x=2*(x / 2)+1 by omega,Iq,h1,h2,this]; grind
theorem Cu.i7(l:Cu m gs rs ts):K7 (gs.length+1) rs ts:=by
 have g:=l.g;have g1:=g.g1;have rl:=l.rl;have gle:=g.le;have m14:=g.m14;have hL:=l.GL;have hP:=l.P1;refine⟨⟨by rw[rl]; exact g.m1,by rw[rl]; exact m14,by omega,by omega,l.len,by rw[rl]; exact l.Dm,λt ht=>?_,λr hr=>?_,l.Cb,λS h0 hS p hp=>?_⟩,by rw[rl]; exact hL,by rw[rl]; exact hP⟩
 ·obtain⟨i,hi,e⟩:=jP ht;obtain⟨k,hk,_,rfl⟩:=l.of (show ts[i]?=some t by rw[jb hi,e]);obtain⟨fA,lA,fB,lB,a,b⟩:=l.UJ (λ_ _=>True) (λ_ _=>trivial) (λ_ _=>trivial) hk;generalize BY m gs k=A at a;cases a <;> simp
 ·rw[l.rp] at hr;obtain⟨q,hq,rfl⟩:=js.mp hr;have i:=g.mem.mp (show q.1∈gs.flatten by rw[<-FZ 0 gs]; exact js.mpr ⟨q,hq,rfl⟩);obtain⟨k,x,hk,hr⟩:=g.at i.1 i.2;have h1:=Ly gs 0 k x q.1 hk hr;rw[oj] at h1;have e:=Ld (f:=λp:Int×Int=>p.1) (show((CO 0 gs).map λp:Int×Int=>p.1).Nodup by rw[FZ]; exact g.nd) hq h1 rfl;have hl:=(jc.mp hk).1;rw[e];show EX 1/\BC gs.length ((k:Int)).toNat<_/\BC gs.length (((k:Int)).toNat+1)<_;rw[kQ];exact⟨⟨by decide,by decide,by decide⟩,L5 g1 (by omega),L5 g1 (by omega)⟩
 ·have all:∀k,k<=gs.length->S (BC gs.length k):=by
   intro k
   induction k with
   | zero=>intro _; unfold BC; rw[jq rfl]; exact h0
   | succ k ih =>
    intro hk;obtain⟨a,e⟩:=g.grp (show k<gs.length by omega);have hx:∃x,gs[k]?=some x/\a∈x:=by
     rcases e with e | e
     ·exact⟨_,e,by simp⟩
     ·exact⟨_,e,by simp⟩
    obtain⟨x,e,ha⟩:=hx;exact(hS _ (jd (l.Pf e ha))).mp (ih (by omega))
  obtain⟨k,hk,e⟩:=NZ g1 hp;rw[<-e];exact all k hk
theorem bS{K:jk}{H:Hp}{a:Addr}{xs:List V}(h:H a=some (.AD xs)):JC (Mz K a xs.length) H xs.length (λi H2 x H3=>H3=H2/\xs.reverse[i]?=some x) :=
 ⟨λi H2 hi s=>⟨xs,xs.reverse[i]'(by rw[ow]; exact hi),AR.of (s _ _ h),rfl,jb _⟩,λi H2 x H3 _ s y=>⟨y.1,y.2 _ (AR.of (s _ _ h))⟩,λH2 s=>jj _⟩
theorem ZZ{H:Hp}{a:Addr}{o:HO}{bs:List Addr}{gs:List (List Int)}(h:At B5 H bs gs)(n:a∉bs):At B5 (AH H a o) bs gs:=⟨h.1,λi b x e1 e2=>by
 have:=h.2 i b x e1 e2
 unfold B5 at this ⊢;rw[Ad (show b≠a from λz=>n (z ▸ jd e1))];exact this⟩
structure LP(H:Hp)(Gp:Addr)(bs:List Addr)(gs:List (List Int))(many:Nat):Prop where
 h:H Gp=some (.AD (bs.map V.ref))
 NH:At B5 H bs gs
 Wh:Gp∉bs
 fl:gs.flatten=(ju many).map λr:Nat=>(r:Int)
 sz:∀g∈gs,∃a:Int,g=[a]\/g=[a,a+1]
theorem LP.le{H:Hp}{Gp:Addr}{bs:List Addr}{gs:List (List Int)}{many:Nat}(g:LP H Gp bs gs many):gs.length<=many:=by
 have go:∀l:List (List Int),(∀x∈l,∃a:Int,x=[a]\/x=[a,a+1])->l.length<=l.flatten.length:=by
  intro l
  induction l with
  | nil=>intro _; simp
  | cons x l ih =>
   intro h
   have:=ih λy hy=>h y (jX _ hy)
   rw[j5,jw,ka];obtain⟨a,e | e⟩:=h x (kO ..) <;> rw[e] <;> simp only[ka,mT] <;> omega
 have:=go gs g.sz
 rwa [g.fl,ja,jV] at this
theorem RJ{G k j:Nat}(hk:k<=G)(hj:j<=G)(e:BC G k=BC G j):k=j:=by
 unfold BC at e;split at e <;> split at e <;> (try split at e) <;> (try split at e) <;> omega
def Ig(G:Nat):List V:=(ju (G+1)).map λk:Nat=>V.int ((BC G k:Nat):Int)
theorem L8{G k:Nat}(h:k<=G):(Ig G)[k]?=some (.int ((BC G k:Nat):Int)):=by
 unfold Ig;rw[ji,kE (by omega)]; rfl
theorem HK(G:Nat):(Ig G).length=G+1:=by unfold Ig; rw[ja,jV]
theorem bY{G:Nat}(g1:1<=G):([V.int 0]++((ju (G-1)).map λi:Nat=>V.int (2+(i:Int))))++[V.int 1]=Ig G:=by
 refine oS λk=>?_
 have ll:([V.int 0]++((ju (G-1)).map λi:Nat=>V.int (2+(i:Int)))).length=G:=by simp; omega
 rcases qm k G with h | h | h
 ·rw[L8 (by omega),jM (by rw[ll]; exact h)];unfold BC;cases k with
  | zero=>rfl
  | succ k =>
   rw[jm (by omega),jm (by omega),jy (by simp)];simp only[kX,pS];rw[ji,kE (by omega)];show some (V.int (2+(k:Int)))=some (V.int ((k+1+1:Nat):Int));congr 2; omega
 ·subst h;rw[L8 (jj _),jy (by rw[ll]; exact jj _),ll,nM];unfold BC;rw[jm (by omega),jq rfl]; rfl
 ·rw[kW (by rw[jw,ll]; simp; omega),kW (by rw[HK]; omega)]
def FT(gs:List (List Int))(k:Nat):List AQ:=(CO 0 (gs.take k)).map λq=>(BC gs.length q.2.toNat,BC gs.length (q.2.toNat+1),1)
theorem ZH{gs:List (List Int)}{k:Nat}{x:List Int}(h:gs[k]?=some x):FT gs (k+1)=FT gs k++x.map λ_=>(BC gs.length k,BC gs.length (k+1),1):=by
 have hk:=(jc.mp h).1;unfold FT;rw[C0 h,NT,jH,kr,kB,wN (by omega),oj];congr 1
theorem ZI{H:Hp}{a b:Addr}{r:AQ}{ys:List V}(h:BW H b r)(e:H a=some (.AD ys)):BW (BK H a) b r:=by
 obtain⟨c,h1,h2⟩:=h;exact⟨c,Fl h1 (λz=>by rw[z,e] at h1; cases h1),AS.BK h2 e⟩
theorem aD{x:List Int}{i:Nat}{v:V}(h:(x.map V.int).reverse[i]?=some v):∃r,v=.int r/\x.reverse[i]?=some r:=by
 rw[<-List.map_reverse] at h;exact Fh h
variable {P:j8} {w:World} {K:jk} {mg:Str->Option Value} {base:Heap} {f g h f1 f2 f3 f4:Addr} {fd gd hd d1 d2 d3 d4:kF}
inductive Sv(vs:List V)(H:Hp)(Q:VK):Prop
 | mk (c:Int) (h_0:vs=[.int c]) (h_1:∀p ra ta n rs us H',AN H H'->H' p=some (.AG [.int ((n:Nat):Int),.ref ra,.ref ta])->A4 BW H' ra rs->A4 BV H' ta us->K7 n rs us->Q (.ref p) H'):Sv vs H Q
def Ul:Sp:=λvs H Q _=>Sv vs H Q
theorem D7:Ay ["_law_cell","_law_c","_law_most","_law_groups","_law_many","_law_wide","_law_order_here","_law_ropes","_law_rows","_law_k","_law_place","_law_row_here"] ["_law_cell"] (Ao s_law_long):=A7
theorem VP:(["_law_rope"]:List Str).Nodup:=by decide +kernel
theorem fD:(["_law_rope","_law_place","_law_order_here","_law_k"]:List Str).Nodup:=by decide +kernel
set_option maxHeartbeats 4000000 in
seal L2.DC L2.PS L2.PE L2.PA in
theorem bu(F0:Ar K "_law_long" "_law_long" s_law_long f fd)(ml:mg "len" = none)(mr:mg "range" = none)(mli:mg "list" = none)(mn:mg "min" = none)(mi:mg "int" = none)(mv:mg "reversed" = none)(me:mg "enumerate" = none)(mt:mg "tuple" = none):
  An P w K mg base Av 1 f fd ["_law_cell"] Ul:=by
 refine F0.BA D7 λcdv A outer s H vs Q E hr h=>?_
 obtain⟨c0,rfl,q⟩:=h;refine⟨_,AO (AW (i:=1) D7.nd rfl (jn rfl) (AL Bw (pv 0) (AL UI AE AE)))
  (AO (AW (i:=2) D7.nd rfl (jn rfl) (AL BL AE (AL Bw (pv 1) AE)))
  (AO (AW (i:=3) D7.nd rfl (jn rfl) (Bz AB))
  (AO (AW (i:=4) D7.nd rfl (jn rfl) AE)
  (AO (HJ j3 (BQ Ia (pv 4) (pv 2) (BJ _))
   (AO (AW (i:=5) D7.nd rfl (jn rfl) (A3 (RD rfl) (by rfl) mn MK (AA (AL DN (pv 2) (pv 4)) (AA (AL BL AE (CP Yh (by rfl) mi Tt (AA (IJ Dc (AL Bw (AL EE (pv 1) (AL BL AE (A3 (Be (K:=K)) (by rfl) ml BN (AA (pv 3) AB)))) AE) AE (BJ _)) AB))) AB))))
   (AO (C3 (CY K jT kf kg DY (pv 3) (AA (QM rfl (by rfl) mli (by rfl) mr (AA (pv 4) (AA (AL BL (pv 4) (pv 5)) AB))) AB)))
   (AV (AW (i:=4) D7.nd rfl (jn rfl) (AL BL (pv 4) (pv 5)))))))
  (AO (AW (i:=6) D7.nd rfl (om rfl) (AL HU (AL HU (Bz (AA AE AB)) (QM rfl (by rfl) mli (by rfl) mr (AA AE (AA (AL BL (A3 (Be (K:=K)) (by rfl) ml BN (AA (pv 3) AB)) AE) AB)))) (Bz (AA AE AB))))
  (AO (AW (i:=7) D7.nd rfl (jn rfl) (Bz AB))
  (AO (AW (i:=8) D7.nd rfl (jn rfl) (AL MA (Bz (AA (BZ AB) AB)) (A3 (Be (K:=K)) (by rfl) ml BN (AA (pv 6) AB))))
  (AO (CV j3 rfl (JW (by rfl) me (AA (pv 6) AB)) (Dn (n:=2) (K:=K) rfl (BI (Af (i:=9) D7.nd rfl (om rfl)) (BI (Af (i:=10) D7.nd rfl (om rfl)) Ck)))
   (AO (AW (i:=11) D7.nd rfl (jn rfl) (Bz (AA (AL Bt AE (pv 2)) AB)))
   (AO (Bn (BQ K4 (pv 9) AE (BJ _)) (AV (JI (i:=11) D7.nd rfl (jn rfl) (Nc:=["_law_rope"]) (cap:=[]) (g:=BR 0) (te:=_) rfl (dJ (by rfl) mv (pL K (pv 3) (AL DN (pv 9) AE)))
    (CB rfl rfl (by decide +kernel) (by decide +kernel) (jr _) rfl (jr _)) (λ_ _ _ _ _=>Af (i:=0) VP rfl (jn rfl)) (λ_ _ _ _ _=>AL BL (AL Bt AE (pv 0)) AE))) CA)
   (AO (Bn (BQ Ia (pv 9) (A3 (Be (K:=K)) (by rfl) ml BN (AA (pv 3) AB)) (BJ _))
    (AO (C3 (CY K jT PySem.F.slot_list_extend PySem.F.type_list_extend YL (pv 7) (AA (C1 (Nc:=["_law_rope","_law_place","_law_order_here","_law_k"]) (cap:=[(1,10),(2,6),(3,9)]) (g:=BR 0) (te:=_) rfl (IX (K:=K) (pL K (pv 3) (pv 9)))
     (CB rfl rfl (by decide +kernel) (by decide +kernel) (jv.mpr ⟨⟨rfl,rfl⟩,jv.mpr ⟨⟨rfl,rfl⟩,jv.mpr ⟨⟨rfl,rfl⟩,jr _⟩⟩⟩) rfl (jv.mpr ⟨⟨_,_,rfl,rfl,rfl,rfl,rfl⟩,jv.mpr ⟨⟨_,_,rfl,rfl,rfl,rfl,rfl⟩,jv.mpr ⟨⟨_,_,rfl,rfl,rfl,rfl,rfl⟩,jr _⟩⟩⟩))
     (λ_ _ _ _ _=>Af (i:=0) fD rfl (jn rfl)) (λ_ _ _ _ _=>BZ (AA (pv 1) (AA (pL K (pv 2) (AL BL (pv 3) AE)) (AA (BZ (AA AE (AA AE AB))) AB))))) AB)))
    (AV (AW (i:=11) D7.nd rfl (jn rfl) (AL HU (pv 11) (C1 (Nc:=["_law_rope"]) (cap:=[]) (g:=BR 0) (te:=_) rfl (IX (K:=K) (pL K (pv 3) (pv 9)))
     (CB rfl rfl (by decide +kernel) (by decide +kernel) (jr _) rfl (jr _)) (λ_ _ _ _ _=>Af (i:=0) VP rfl (jn rfl)) (λ_ _ _ _ _=>AL Bt AE (pv 0)))))))
    (AV (C3 (CY K jT kf kg DY (pv 11) (AA (AL BL (AL Bt AE (pv 2)) AE) AB)))))
   (AV (DZ (CP (ED (K:=K)) (by rfl) mt CG (AA (pv 11) AB)) (FC (pv 8) (pv 10) E8))))))
  )
  (AV (Aq (BZ (AA (A3 (Be (K:=K)) (by rfl) ml BN (AA (pv 6) AB)) (AA (CP (ED (K:=K)) (by rfl) mt CG (AA (pv 7) AB)) (AA (CP (ED (K:=K)) (by rfl) mt CG (AA (pv 8) AB)) AB))))))))))))))
  ,?_⟩
 have p20:(0:Int)<10 ^ ((20:Int).toNat):=by decide
 refine⟨_,rfl,_,_,rfl,rfl,⟨by decide,by decide,by decide⟩,_,_,rfl,rfl,p20,?_⟩;generalize c0 % 10 ^ ((20:Int).toNat)=c;obtain⟨m,hm,m13,m14⟩:∃m:Nat,13+c % 2=(m:Int)/\13<=m/\m<=14:=⟨(13+c % 2).toNat,by omega,by omega,by omega⟩;refine⟨_,rfl,_,_,rfl,rfl,(show(0:Int)<2 by decide),_,_,rfl,rfl,?_⟩;rw[hm];refine⟨by exact E4,λGp hGp=>?_⟩;have s1:=AY hGp (.AD []);have e1:LP (AH H Gp (.AD [])) Gp [] [] 0:=⟨AU,At.nil,by simp,rfl,by simp⟩;generalize AH H Gp (.AD [])=H1 at s1 e1;refine L9 (t:=Og _ _) (G:=λσ H2=>∃bs gs u4 u5,σ=[some (.int c0),some (.int c),some (.int (m:Int)),some (.ref Gp),u4,u5,none,none,none,none,none,none]/\AN H H2/\LP H2 Gp bs gs m) (λU hU=>?_) ?_
 ·refine Gz (λσ H2=>∃many bs gs u5,σ=[some (.int c0),some (.int c),some (.int (m:Int)),some (.ref Gp),some (.int ((many:Nat):Int)),u5,none,none,none,none,none,none]/\AN H H2/\LP H2 Gp bs gs many/\many<=m)
   (λσ _=>match σ with | [_,_,_,_,some (.int y),_,_,_,_,_,_,_]=>m-y.toNat | _=>0) ⟨0,[],[],none,rfl,s1,e1,kH _⟩ ?_ ?_
  ·rintro σ H2 ⟨many,bs,gs,u5,rfl,s2,g2,mm⟩;refine⟨_,rfl,_,rfl,_,_,rfl,rfl,_,rfl,?_⟩;by_cases hlt:(many:Int)<(m:Int)
   ·refine Cy hlt ?_;have gl:=g2.le;have lb:bs.length=gs.length:=g2.NH.1;refine⟨_,rfl,_,rfl,_,_,rfl,rfl,_,rfl,_,rfl,Gp,_,rfl,.inl (AR.of g2.h),_,_,rfl,rfl,?_⟩;rw[ja,lb];refine⟨_,_,rfl,rfl,⟨by omega,by omega⟩,_,_,rfl,rfl,(show(0:Int)<6 by decide),rfl,.inr ⟨_,rfl,_,_,rfl,rfl,_,_,rfl,?_⟩⟩;generalize (decide (V.int (c / (3+(gs.length:Int)) % 6)=V.int 1))=bb;obtain⟨wd,hw,w12,wle⟩:∃wd:Nat,(if (1:Int)+(if bb=true then 1 else 0)<(m:Int)-(many:Int) then (1:Int)+(if bb=true then 1 else 0) else (m:Int)-(many:Int))=(wd:Int)/\(wd=1\/wd=2)/\many+wd<=m:=by
     cases bb
     ·refine⟨1,?_,.inl rfl,by omega⟩;rw[jm (show ¬false=true by decide)];split <;> omega
     ·rw[jq (show true=true from rfl)];by_cases z:(1:Int)+1<(m:Int)-(many:Int)
      ·exact⟨2,by rw[jq z]; rfl,.inr rfl,by omega⟩
      ·rw[jm z];exact⟨m-many,by omega,by omega,by omega⟩
    rw[hw];refine⟨_,rfl,.inl ⟨rfl,_,AR.of g2.h⟩,_,rfl,_,rfl,_,rfl,_,_,rfl,rfl,(many:Int),wd,rfl,by omega,by omega,by omega,λgl' hgl=>?_⟩;have s3:=AY hgl (.AD ((ju wd).map λk:Nat=>V.int ((many:Int)+(k:Int))));have eg:((ju wd).map λk:Nat=>V.int ((many:Int)+(k:Int)))=(((ju wd).map λk:Nat=>(many:Int)+(k:Int))).map V.int:=by rw[kr]; rfl
    rw[eg] at s3 ⊢;generalize hg:((ju wd).map λk:Nat=>(many:Int)+(k:Int))=gr at *;have i3:B5 (AH H2 gl' (.AD (gr.map V.int))) gl' gr:=AU;have hG3:=s3 _ _ g2.h;have a3:=g2.NH.keep ER s3;have nG:Gp≠gl':=BP g2.h hgl;generalize AH H2 gl' (.AD (gr.map V.int))=H3 at s3 i3 hG3 a3;refine⟨Gp,_,_,rfl,rfl,hG3,by rw[ja]; exact Ce (by omega),?_⟩;refine⟨_,rfl,_,rfl,_,_,rfl,rfl,⟨many+wd,bs++[gl'],gs++[gr],_,rfl,(s2.trans s3).up hGp _,⟨?_,?_,?_,?_,?_⟩,wle⟩,?_⟩
    ·rw[AU]; simp
    ·exact ZZ (a3.snoc i3) (by simp[g2.Wh,nG])
    ·simp[g2.Wh,nG]
    ·rw[kI,g2.fl,<-hg,List.range_add,jH,kr];simp
    ·intro x hx;rcases jI.mp hx with z | z
     ·exact g2.sz x z
     ·rw[jO.mp z,<-hg];rcases w12 with rfl | rfl
      ·exact⟨(many:Int),.inl (by simp)⟩
      ·exact⟨(many:Int),.inr (by simp[m9])⟩
    ·show m-((many:Int)+(wd:Int)).toNat<m-((many:Int)).toNat;omega
   ·refine Ca hlt (hU _ _ ?_);obtain rfl:many=m:=by omega
    exact⟨bs,gs,_,u5,rfl,s2,g2⟩
  ·rintro σ H2 Q1 Q2 hq ⟨v,e,v',e',i,j,e1,e2,b,eb,z⟩;exact⟨v,e,v',e',i,j,e1,e2,b,eb,hq _ _ z⟩
 rintro σ H2 ⟨bs,gs,u4,u5,rfl,s2,g2⟩;have g:Cz m gs:=⟨g2.fl,g2.sz,by omega,m14⟩;have g1:=g.g1;have gle:=g.le;have lb:bs.length=gs.length:=g2.NH.1;refine⟨by exact Ei,λl0 h0=>?_⟩;obtain⟨H3,zg,s3,e3⟩:=nw h0 (.AD [.int 0]);rw[zg];refine⟨_,rfl,Gp,_,rfl,.inl (AR.of (s3 _ _ g2.h)),_,_,rfl,rfl,2,gs.length-1,by rw[ja,lb,show(2:Int)+((gs.length-1:Nat):Int)=(gs.length:Int)+1 by omega],by omega,by omega,by omega,λl1 h1=>?_⟩;obtain⟨H4,zg,s4,e4⟩:=nw h1 (.AD ((ju (gs.length-1)).map λi:Nat=>V.int (2+(i:Int))));rw[zg];refine⟨l0,l1,_,_,rfl,rfl,s4 _ _ e3,e4,by rw[ja,jV]; exact Dp (by simp; omega),λl2 h2=>?_⟩;obtain⟨H5,zg,s5,e5⟩:=nw h2 (.AD ([.int 0]++((ju (gs.length-1)).map λi:Nat=>V.int (2+(i:Int)))));rw[zg];refine⟨by exact Ei,λl3 h3=>?_⟩;obtain⟨H6,zg,s6,e6⟩:=nw h3 (.AD [.int 1]);rw[zg];refine⟨l2,l3,_,_,rfl,rfl,s6 _ _ e5,e6,by rw[jw,ja,jV]; exact Dp (by simp; omega),λOr hOr=>?_⟩;rw[bY g1];obtain⟨H7,zg,s7,e7⟩:=nw hOr (.AD (Ig gs.length));rw[zg];have s27:=(s3.trans (s4.trans (s5.trans (s6.trans s7))));have s07:=s2.trans s27;have hG7:=s27 _ _ g2.h;have a7:=g2.NH.keep ER s27;clear s3 s4 s5 s6 s7 e3 e4 e5 e6 h0 h1 h2 h3 s27;refine⟨by exact E4,λRp hRp=>?_⟩;obtain⟨H8,zg,s8,zz⟩:=nw hRp (.AD []);rw[zg];have e8:H8 Rp=some (.AD (([]:List Addr).map V.ref)):=zz;refine⟨by exact E4,λet het=>⟨by exact Ei,λel hel=>?_⟩⟩;have s9:=(AY het (.AG [])).trans (AY hel (.AD [.ref et]));have e9:(AH (AH H8 et (.AG [])) el (.AD [.ref et])) el=some (.AD [.ref et]):=AU;generalize AH (AH H8 et (.AG [])) el (.AD [.ref et])=H9 at s9 e9;have s89:=s8.trans s9;refine⟨_,rfl,Or,_,rfl,.inl (AR.of (s89 _ _ e7)),el,_,_,rfl,rfl,e9,by rw[HK]; omega,by rw[HK]; omega,by rw[HK]; exact Dp (by simp; omega),λRw hRw=>?_⟩;rw[HK,show(((gs.length+1:Nat):Int)).toNat=gs.length+1 by omega];have sA:=AY hRw (.AD ((jo (gs.length+1) [V.ref et]).flatten));have eA:(AH H9 Rw (.AD ((jo (gs.length+1) [V.ref et]).flatten))) Rw=some (.AD ((jo (gs.length+1) [V.ref et]).flatten)):=AU;have lA:((jo (gs.length+1) [V.ref et]).flatten).length=gs.length+1:=by rw[S5]; simp
 have e8A:=sA _ _ (s9 _ _ e8);have nRR:Rp≠Rw:=BP (s9 _ _ e8) hRw;generalize (jo (gs.length+1) [V.ref et]).flatten=rv0 at *;generalize AH H9 Rw (.AD rv0)=HA at sA eA e8A;have s7A:=s89.trans sA;have hRw7:H7 Rw=none:=s89.free hRw;clear s8 s9 s89 e8 e9 hel het hRw;refine⟨_,rfl,Or,_,rfl,s7A _ _ e7,?_⟩;have fR:=hRp;refine La (xs:=Ig gs.length) (λk σ H3=>∃u9 u10 u11 ds rv,σ=[some (.int c0),some (.int c),some (.int (m:Int)),some (.ref Gp),u4,u5,some (.ref Or),some (.ref Rp),some (.ref Rw),u9,u10,u11]/\AN H7 H3/\H3 Rp=some (.AD (ds.map V.ref))/\At BW H3 ds (FT gs k)/\H3 Rw=some (.AD rv)/\rv.length=gs.length+1 /\
   ∀j,j<k->j<=gs.length->∃b,rv[BC gs.length j]?=some (.ref b)/\BV H3 b (BY m gs j++Bl m gs j))
  ⟨none,none,none,[],rv0,rfl,s7A,e8A,At.nil,eA,lA,λj hj=>absurd hj (wO _)⟩ (λk σ H3 _ ⟨_,_,_,_,_,_,s3,_⟩=>s3 _ _ e7) ?_ ?_
 ·rintro k x σ H3 tp hx ⟨u9,u10,u11,ds,rv,rfl,s3,eR,hD,eW,lw,rows⟩ htp;have kl:k<=gs.length:=by
   have:=(jc.mp hx).1
   rw[HK] at this;omega
  rw[L8 kl] at hx;cases hx;obtain⟨H4,zg,s4,e4⟩:=nw htp (.AG [.int (k:Int),.int ((BC gs.length k:Nat):Int)]);rw[zg];have s74:=s3.trans s4;have eR4:=s4 _ _ eR;have hD4:=hD.keep Cj s4;have eW4:=s4 _ _ eW;have rows4:∀j,j<k->j<=gs.length->∃b,rv[BC gs.length j]?=some (.ref b)/\BV H4 b (BY m gs j++Bl m gs j):=λj hj hj2=>by
   obtain⟨b,b1,b2⟩:=rows j hj hj2;exact⟨b,b1,s4 _ _ b2⟩
  clear rows eR hD eW s4 s3;refine⟨tp,_,rfl,AK.of e4,rfl,_,_,rfl,_,_,rfl,rfl,?_⟩;refine⟨_,rfl,_,_,rfl,rfl,.inl ⟨by decide,by decide⟩,by exact Ei,λl1 h1=>?_⟩;obtain⟨H5,zg,s5,e5⟩:=nw h1 (.AD [.int (2*(m:Int))]);rw[zg];refine TC ?_;refine Vj ?_;refine L9 (t:=Mj _ _ _) (G:=λσ H6=>∃l,σ=[some (.int c0),some (.int c),some (.int (m:Int)),some (.ref Gp),u4,u5,some (.ref Or),some (.ref Rp),some (.ref Rw),some (.int (k:Int)),some (.int ((BC gs.length k:Nat):Int)),some (.ref l)]/\AN H4 H6/\H4 l=none/\H6 l=some (.AD ((BY m gs k).map V.int))) (λU hU=>?_) ?_
  ·refine⟨_,rfl,_,_,rfl,rfl,_,rfl,?_⟩;cases k with
   | zero =>
    refine Ca (by omega) (hU _ _ ⟨l1,rfl,s5,h1,?_⟩);rw[GN]; exact e5
   | succ k =>
    refine Cy (by omega) ?_;have kl':k<gs.length:=by omega
    have ek:=jb kl';obtain⟨bk,hb1,hb2⟩:=a7.get ek;have hb5:=s5 _ _ (s74 _ _ hb2);have xl:gs[k].length<=2:=by obtain⟨a,e | e⟩:=g.sz _ (jd ek) <;> rw[e] <;> simp
    refine⟨_,rfl,_,rfl,_,_,rfl,rfl,Gp,_,_,_,rfl,rfl,AR.of (s5 _ _ (s74 _ _ hG7)),by rw[show((k+1:Nat):Int)-1=((k:Nat):Int) by omega]; exact Bc (DD hb1),bk,_,rfl,AR.of hb5,λacc hacc=>?_⟩;refine CQ (bS hb5) (by rw[ja]; omega) hacc (λi ys σ _=>ys=((gs[k].reverse.take i).map λr=>2*r+1).map V.int/\∃u,σ=[u]) ⟨rfl,none,rfl⟩ ?_ ?_
    ·rintro i ys σ H6 v H7' hi sm hacc2 ⟨hys,u,rfl⟩ ⟨rfl,hv⟩ C hC2;obtain⟨r,rfl,hr⟩:=aD hv;refine⟨_,rfl,_,_,rfl,rfl,.inl ⟨by decide,by decide⟩,_,_,rfl,rfl,hC2 _ _ _ (AN.refl _) ⟨?_,_,rfl⟩⟩;rw[hys,C0 hr,jH,jH]; rfl
    ·rintro ys σ H6 s6 g6 _ ⟨hys,_⟩;rw[ja,jz (by rw[ow]; exact jj _),<-Fn (m:=m) ek] at hys;exact hU _ _ ⟨acc,rfl,s5.trans s6,s5.free hacc,by rw[g6,hys]⟩
  rintro σ H6 ⟨l,rfl,s6,fl,el⟩;clear s5 e5 h1;have eR6:=s6 _ _ eR4;have hD6:=hD4.keep Cj s6;have lR:l≠Rp:=λz=>by rw[z,eR4] at fl; cases fl
  refine L9 (t:=Mj _ _ _) (G:=λσ H8=>∃l ds,σ=[some (.int c0),some (.int c),some (.int (m:Int)),some (.ref Gp),u4,u5,some (.ref Or),some (.ref Rp),some (.ref Rw),some (.int (k:Int)),some (.int ((BC gs.length k:Nat):Int)),some (.ref l)]/\Bh Rp H4 H8/\H8 Rp=some (.AD (ds.map V.ref))/\At BW H8 ds (FT gs (k+1))/\H8 l=some (.AD ((BY m gs k++Bl m gs k).map V.int))) (λU hU=>?_) ?_
  ·refine⟨_,rfl,_,rfl,Gp,_,rfl,.inl (AR.of (s6 _ _ (s74 _ _ hG7))),_,_,rfl,rfl,_,rfl,?_⟩;rw[ja,lb];by_cases hlt:(k:Int)<(gs.length:Int)
   ·refine Cy hlt ?_;have kl':k<gs.length:=by omega
    have ek:=jb kl';obtain⟨bk,hb1,hb2⟩:=a7.get ek;have hb6:=s6 _ _ (s74 _ _ hb2);have xl:gs[k].length<=2:=by obtain⟨a,e | e⟩:=g.sz _ (jd ek) <;> rw[e] <;> simp
    generalize hgx:gs[k]=x at *;refine⟨_,rfl,.inl ⟨rfl,_,AR.of eR6⟩,_,rfl,_,rfl,Gp,_,_,_,rfl,rfl,AR.of (s6 _ _ (s74 _ _ hG7)),Bc (DD hb1),bk,rfl,⟨_,AR.of hb6⟩,λacc hacc=>?_⟩;refine CQ (E7 hb6) (by rw[ja]; omega) hacc (λi ys σ Hq=>∃es:List Addr,ys=es.map V.ref/\At BW Hq es ((x.map λ_=>(BC gs.length k,BC gs.length (k+1),(1:Rat))).take i)/\∃u,σ=[u,some (.int ((BC gs.length k:Nat):Int)),some (.ref Or),some (.int (k:Int))]) ⟨[],rfl,At.nil,none,rfl⟩ ?_ ?_
    ·rintro i ys σ H7' v H8 hi sm hacc2 ⟨es,rfl,hE,u,rfl⟩ ⟨rfl,hv⟩ C hC2;obtain⟨r,rfl,hr⟩:=Fh hv;refine⟨_,rfl,_,rfl,_,rfl,_,_,rfl,rfl,Or,_,_,_,rfl,rfl,AR.of (sm _ _ (s6 _ _ (s74 _ _ e7))),by rw[show(k:Int)+1=((k+1:Nat):Int) by omega]; exact Bc (L8 (by omega)),by exact B6,λe he=>⟨by exact EM,λt ht=>?_⟩⟩;obtain⟨H9,zg,s9,zz⟩:=nw he (.AG [.int 1,.int 1]);rw[zg] at ht ⊢;have f9:AS H9 e 1:=zz;have sB:=AY ht (.AG [.int ((BC gs.length k:Nat):Int),.int ((BC gs.length (k+1):Nat):Int),.ref e]);have s9B:=s9.trans sB;refine hC2 _ _ _ s9B ⟨es++[t],by simp,?_,_,rfl⟩;rw[C0 (show(x.map λ_=>(BC gs.length k,BC gs.length (k+1),(1:Rat)))[i]?=some (BC gs.length k,BC gs.length (k+1),1) by rw[ji,hr]; rfl)];exact(hE.keep Cj (Dz acc s9B)).snoc (ZI ⟨e,AU,Au sB f9⟩ (s9B _ _ hacc2))
    ·rintro ys σ H8 s8 g8 _ ⟨es,rfl,hE,_⟩;rw[ja,jz (by rw[ja]; exact jj _)] at hE;replace hE:=hE.keep Cj (Dl H8 acc);have eR8:=s8 _ _ eR6;have ds14:ds.length<=14:=by
      have h1:=hD4.1;have h2:=congrArg m7 (FZ 0 (gs.take k));rw[ja] at h2;unfold FT at h1;rw[ja,h2] at h1;have h3:(gs.take k).flatten.length<=gs.flatten.length:=by
       conv=>rhs; rw[<-List.take_append_drop k gs,kI,jw]
       omega
      rw[g.fl,ja,jV] at h3;omega
     have es2:es.length<=2:=by rw[hE.1,ja]; exact xl
     refine⟨Rp,acc,_,_,rfl,rfl,eR8,g8,by rw[ja,ja]; exact Dp (by omega),?_⟩;have hD8:=(hD6.keep Cj s8).QB hE;rw[<-ZH ek] at hD8;have hD9:=JL eR8 (o:=.AD (ds.map V.ref++es.map V.ref)) hD8;have sb9:Bh Rp H4 (AH H8 Rp (.AD (ds.map V.ref++es.map V.ref))):=(AN.b (s6.trans s8)).put _;have eR9:(AH H8 Rp (.AD (ds.map V.ref++es.map V.ref))) Rp=some (.AD ((ds++es).map V.ref)):=by rw[AU]; simp
     have el9:(AH H8 Rp (.AD (ds.map V.ref++es.map V.ref))) l=some (.AD ((BY m gs k).map V.int)):=by rw[Ad lR]; exact s8 _ _ el
     have bR:bk≠Rp:=λz=>by
      have:=s74 _ _ hb2
      rw[z,eR4] at this;have h2:=hb2;unfold B5 at h2;rw[z] at h2;rw[h2] at fR;cases fR
     have gR:Gp≠Rp:=λz=>by rw[z] at hG7; rw[hG7] at fR; cases fR
     have hb9:=sb9 _ _ bR (s74 _ _ hb2);have hG9:=sb9 _ _ gR (s74 _ _ hG7);generalize AH H8 Rp (.AD (ds.map V.ref++es.map V.ref))=H9 at hD9 sb9 eR9 el9 hb9 hG9;refine⟨_,rfl,_,rfl,_,rfl,Gp,_,_,_,rfl,rfl,AR.of hG9,Bc (DD hb1),bk,rfl,⟨_,AR.of hb9⟩,λac2 hac2=>?_⟩;refine CQ (E7 hb9) (by rw[ja]; omega) hac2 (λi ys σ _=>ys=((x.take i).map λr=>2*r).map V.int/\∃u,σ=[u]) ⟨rfl,none,rfl⟩ ?_ ?_
     ·rintro i ys σ HB v HC hi sm hacc2 ⟨hys,u,rfl⟩ ⟨rfl,hv⟩ C hC2;obtain⟨r,rfl,hr⟩:=Fh hv;refine⟨_,rfl,_,_,rfl,rfl,.inl ⟨by decide,by decide⟩,hC2 _ _ _ (AN.refl _) ⟨?_,_,rfl⟩⟩;rw[hys,C0 hr,jH,jH]; rfl
     ·rintro ys σ HB sB gB _ ⟨hys,_⟩;rw[ja,lL,<-FF (m:=m) ek] at hys;have tl:(BY m gs k).length+(Bl m gs k).length<=100:=by
       have h1:(Bl m gs k).length<=2:=by rw[FF ek,ja]; exact xl
       have h2:(BY m gs k).length<=2:=by
        cases k with
        | zero=>rw[GN]; simp
        | succ k =>
         have e:=jb (show k<gs.length by omega);rw[Fn e,ja,ow];obtain⟨a,e2 | e2⟩:=g.sz _ (jd e) <;> rw[e2] <;> simp
       omega
      refine⟨l,ac2,_,_,rfl,rfl,sB _ _ el9,by rw[gB,hys],by rw[ja,ja]; exact Dp (by omega),λpp hpp=>hU _ _ ?_⟩;have sC:=AY hpp (.AD ((BY m gs k).map V.int++(Bl m gs k).map V.int));have s9C:=sB.trans sC;exact⟨pp,ds++es,rfl,sb9.trans (AN.b s9C),s9C _ _ eR9,hD9.keep Cj s9C,by rw[AU,jH]⟩
   ·refine Ca hlt ?_;obtain rfl:k=gs.length:=by omega
    have tl:(BY m gs gs.length).length<=2:=by
     obtain⟨k',hk'⟩:∃k',gs.length=k' + 1:=⟨gs.length-1,by omega⟩;have e:=jb (show k' < gs.length by omega);rw[hk',Fn e,ja,ow];obtain⟨a,e2 | e2⟩:=g.sz _ (jd e) <;> rw[e2] <;> simp
    refine⟨_,rfl,.inl ⟨rfl,_,AR.of el⟩,_,rfl,_,_,rfl,rfl,.inl ⟨by decide,by decide⟩,_,_,rfl,rfl,l,_,_,rfl,rfl,el,by rw[ja]; exact Ce (by omega),hU _ _ ?_⟩;refine⟨l,ds,rfl,AN.b (s6.up fl _),by rw[Ad (lF lR)]; exact eR6,JL el ?_,by rw[AU,IU,jH]; rfl⟩
    have:FT gs (gs.length+1)=FT gs gs.length:=by unfold FT; rw[jz (by omega),lL]
    rw[this]; exact hD6
  rintro σ H8 ⟨l',ds',rfl,sb8,eR8,hD8,el8⟩;have wR:Rw≠Rp:=lF nRR;have eW8:=sb8 _ _ wR eW4;refine⟨_,rfl,l',_,rfl,.inl ⟨AR.of el8,λt ht=>?_⟩⟩;have s9:=AY ht (.AG ((BY m gs k++Bl m gs k).map V.int));have i9:BV (AH H8 t (.AG ((BY m gs k++Bl m gs k).map V.int))) t (BY m gs k++Bl m gs k):=AU;generalize AH H8 t (.AG ((BY m gs k++Bl m gs k).map V.int))=H9 at s9 i9;have ol:=L5 g1 kl;refine⟨_,rfl,_,rfl,Rw,_,_,_,rfl,rfl,s9 _ _ eW8,JQ (by rw[lw]; exact ol),?_⟩;have eW9:=s9 _ _ eW8;have up7:AN H7 (AH H9 Rw (.AD (rv.set (BC gs.length k) (.ref t)))):=λb o q=>by
   have nR:b≠Rp:=λz=>by rw[z,fR] at q; cases q
   have nW:b≠Rw:=λz=>by rw[z,hRw7] at q; cases q
   rw[Ad nW];exact s9 _ _ (sb8 _ _ nR (s74 _ _ q))
  refine⟨_,_,_,ds',rv.set (BC gs.length k) (.ref t),rfl,up7,by rw[Ad nRR]; exact s9 _ _ eR8,JL eW9 (hD8.keep Cj s9),AU,by rw[mI]; exact lw,λj hj hj2=>?_⟩;have tw:∀{b:Addr} {u:List Int},BV H9 b u->BV (AH H9 Rw (.AD (rv.set (BC gs.length k) (.ref t)))) b u:=λ{b u} hb=>by
   unfold BV at hb ⊢;rw[Ad (λz=>by rw[z,eW9] at hb; cases hb)];exact hb
  by_cases e:j=k
  ·subst e;exact⟨t,by rw[ko (by rw[lw]; exact ol)],tw i9⟩
  ·obtain⟨b,b1,b2⟩:=rows4 j (by omega) hj2;have bR:b≠Rp:=λz=>by unfold BV at b2; rw[z,eR4] at b2; cases b2
   exact⟨b,by rw[kh (λz=>e (RJ hj2 kl z.symm))]; exact b1,tw (s9 _ _ (sb8 _ _ bR b2))⟩
 ·rintro σ H3 ⟨u9,u10,u11,ds,rv,rfl,s3,eR,hD,eW,lw,rows⟩;rw[HK] at hD rows;obtain⟨es,us,rfl,hes,hus⟩:=Mc (R:=BV) (H:=H3) (mv:=rv) (Pq:=λq u=>∃k,k<=gs.length/\BC gs.length k=q/\u=BY m gs k++Bl m gs k) (λqq hq=>by
   obtain⟨k,hk,ek⟩:=NZ (G:=gs.length) g1 (p:=qq) (by omega);obtain⟨b,b1,b2⟩:=rows k (by omega) hk;rw[ek] at b1;exact⟨b,_,b1,b2,k,hk,ek,rfl⟩)
  rw[ja] at lw;have lu:us.length=gs.length+1:=by rw[<-hes.1]; exact lw
  have re:FT gs (gs.length+1)=(CO 0 gs).map λq=>(BC gs.length q.2.toNat,BC gs.length (q.2.toNat+1),1):=by unfold FT; rw[jz (by omega)]
  rw[re] at hD;have ln:Cu m gs ((CO 0 gs).map λq=>(BC gs.length q.2.toNat,BC gs.length (q.2.toNat+1),1)) us:=⟨g,lu,λk hk=>by
   have ol:=L5 g1 hk;have e:=jb (show BC gs.length k<us.length by omega);obtain⟨k',hk',e1,e2⟩:=hus _ _ e;rw[e,e2,RJ hk' hk e1],rfl⟩
  refine⟨_,rfl,Or,_,rfl,.inl (AR.of (s3 _ _ e7)),_,rfl,Rp,_,rfl,.inl ⟨AR.of eR,λp1 hp1=>?_⟩⟩;rw[HK];obtain⟨H4,zg,s4,e4⟩:=nw hp1 (.AG (ds.map V.ref));rw[zg];refine⟨_,rfl,Rw,_,rfl,.inl ⟨AR.of (s4 _ _ eW),λp2 hp2=>⟨by exact EM,λp3 hp3=>?_⟩⟩⟩;obtain⟨H5,zg,s5,e5⟩:=nw hp2 (.AG (es.map V.ref));rw[zg] at hp3 ⊢;have s6:=AY hp3 (.AG [.int ((gs.length+1:Nat):Int),.ref p1,.ref p2]);have s36:=s4.trans (s5.trans s6);exact q p3 p1 p2 (gs.length+1) _ us _ ((s07.trans s3).trans s36) AU ⟨ds,s6 _ _ (s5 _ _ e4),hD.keep Cj s36⟩ ⟨es,s6 _ _ e5,hes.keep Dy s36⟩ ln.i7
end
abbrev DL(l:List (Int×Addr)):List (Aa×V):=l.map λp=>(j4 p.1,V.ref p.2)
theorem JG{e:Int}:∀{l:List (Int×Addr)},e∉l.map (·.1)->Co (DL l) (j4 e:Aa)=none
 | [],_=>rfl
 | p :: l,h=>by
  show Co ((j4 p.1,V.ref p.2) :: DL l) (j4 e:Aa)=_;rw[IE (p:=((j4 p.1:Aa),V.ref p.2)) (λz=>h (by rw[<-Sum.inl.inj z]; simp)),JG (λz=>h (by simp only[jx]; exact jX _ z))]
theorem L4{e:Int}:∀{l:List (Int×Addr)},e∈l.map (·.1)->∃a,(e,a)∈l/\Co (DL l) (j4 e:Aa)=some (.ref a)
 | p :: l,h=>by
  show ∃a,(e,a)∈p :: l/\Co ((j4 p.1,V.ref p.2) :: DL l) (j4 e:Aa)=some (.ref a);by_cases z:p.1=e
  ·exact⟨p.2,by rw[<-z]; exact kO ..,by rw[JX (p:=((j4 p.1:Aa),V.ref p.2)) (by rw[z])]⟩
  ·have hm:e∈l.map (·.1):=by
    rw[jx] at h;rcases jK.mp h with y | y
    ·exact absurd y.symm z
    ·exact y
   obtain⟨a,h1,h2⟩:=L4 hm;exact⟨a,jX _ h1,by rw[IE (p:=((j4 p.1:Aa),V.ref p.2)) (λy=>z (ud y))]; exact h2⟩
theorem bq{l:List (Int×Addr)}{e:Int}{a:Addr}(h:e∉l.map (·.1)):CN (DL l) (j4 e:Aa) (.ref a)=DL (l++[(e,a)]):=by
 rw[N5 (JG h)];simp
structure CK(H:Hp)(L:Nat)(P:Int->Rat)(Z:Int)(N:Nat)(l:List (Int×Addr)):Prop where
 nd:(l.map (·.1)).Nodup
 inn:∀q∈l,AF L q.1
 fr:∀q∈l,AS H q.2 (P q.1)/\Uw Z N l.length (P q.1)
section
variable {H H':Hp} {L:Nat} {P:Int->Rat} {Z:Int} {N:Nat} {l:List (Int×Addr)}
theorem CK.keep(k:CK H L P Z N l)(s:AN H H'):CK H' L P Z N l:=⟨k.nd,k.inn,λq hq=>⟨Au s (k.fr q hq).1,(k.fr q hq).2⟩⟩
theorem CK.K1{d:Addr}{kv:List (Aa×V)}(k:CK H L P Z N l)(hd:H d=some (.dK kv))(o:HO):CK (AH H d o) L P Z N l:=⟨k.nd,k.inn,λq hq=>⟨by
 have h:H q.2=_:=(k.fr q hq).1;show AH H d o q.2=_;rw[Ad (λz=>by rw[z,hd] at h; cases h)];exact h,(k.fr q hq).2⟩⟩
theorem CK.len(k:CK H L P Z N l):l.length<=L:=by
 have:=GH L (l.map (·.1)) k.nd (λx hx=>by
  obtain⟨q,hq,rfl⟩:=js.mp hx;exact k.inn q hq)
 rwa [ja] at this
theorem CK.Ae{e:Int}{a:Addr}(he:AF L e)(h:AS H a 0)(hP:P e=0):CK H L P Z N [(e,a)]:=by
 refine⟨by simp,λq hq=>?_,λq hq=>?_⟩
 ·rw[jO.mp hq]; exact he
 ·rw[jO.mp hq,hP]; exact⟨h,(Uw.zero Z N).mono (by omega)⟩
theorem CK.Dh(k:CK H L P Z N l){e:Int}{a:Addr}(hn:e∉l.map (·.1))(he:AF L e)(h:AS H a (P e))(u:Uw Z N (l.length+1) (P e)):CK H L P Z N (l++[(e,a)]):=by
 refine⟨?_,λq hq=>?_,λq hq=>?_⟩
 ·rw[jH,lj];refine⟨k.nd,by simp,λx hx y hy=>?_⟩;simp only[jx,kR,jO] at hy;subst hy;exact λz=>hn (z ▸ hx)
 ·rcases jI.mp hq with z | z
  ·exact k.inn q z
  ·rw[jO.mp z]; exact he
 ·rw[jw];rcases jI.mp hq with z | z
  ·exact⟨(k.fr q z).1,(k.fr q z).2.mono (by simp)⟩
  ·rw[jO.mp z]; exact⟨h,u⟩
theorem CK.all(k:CK H L P Z N l)(h:L<=l.length){e:Int}(he:AF L e):e∈l.map (·.1):=by
 by_cases z:e∈l.map (·.1)
 ·exact z
 ·have:=GH L (e :: l.map (·.1)) (kJ.mpr ⟨z,k.nd⟩) (λx hx=>by
   rcases jK.mp hx with rfl | hx
   ·exact he
   ·obtain⟨q,hq,rfl⟩:=js.mp hx;exact k.inn q hq)
  rw[ka,ja] at this;omega
end
def EK(ts:List (List Int))(n:Nat):List Int:=(ju n).map λe:Nat=>((BD (Al (AJ ts) n) (e:Int):Nat):Int)
theorem cx{ts:List (List Int)}{n:Nat}(T:B4 n ts):((ju n).map λe:Nat=>(lk (CO 0 (Al (AJ ts) n)) (e:Int)).getD 0)=EK ts n:=by
 unfold EK;refine lX λe he=>?_
 have:=jZ.mp he
 rw[Th (HL T.perm) ((Ek T.perm).mpr ⟨by omega,by omega⟩)];rfl
theorem Tv{ts:List (List Int)}{n e:Nat}(h:e<n):Bv ((EK ts n).map V.int) ((e:Nat):Int)=some (.int ((BD (Al (AJ ts) n) (e:Int):Nat):Int)) :=
 Bc (Ob (by unfold EK; rw[ji,kE h]; rfl))
theorem bf(ts:List (List Int))(n:Nat):(EK ts n).length=n:=by unfold EK; rw[ja,jV]
theorem bA{ts:List (List Int)}{n:Nat}(T:B4 n ts){x:Int}(hx:x∈EK ts n)(h:∀a∈EK ts n,a<=x):x=((Al (AJ ts) n).length:Int)-1:=by
 have mm:∀e,AF n e->((BD (Al (AJ ts) n) e:Nat):Int)∈EK ts n:=λe he=>by
  unfold EK;exact js.mpr ⟨e.toNat,jZ.mpr (by have:=he.1; have:=he.2; omega),by rw[show((e.toNat:Nat):Int)=e by have:=he.1; omega]⟩
 unfold EK at hx;obtain⟨e,he,rfl⟩:=js.mp hx
 have:=jZ.mp he
 have l1:=N9 T (x:=(e:Int)) ⟨by omega,by omega⟩;obtain⟨y,hy,ey⟩:=Lf T (j:=(Al (AJ ts) n).length-1) (by omega)
 have:=h _ (mm y hy)
 rw[ey] at this;omega
structure Wl(rs:List AQ)(Y:Nat->Rat)(Z:Int)(N:Nat):Prop where
 z0:Z≠0
 zl:Z.natAbs<=2 ^ 3900
 nl:N+6<=3900
 ru:∀r∈rs,Uw Z N 1 (As Y r)
structure Dt(rs:List AQ)(ts:List (List Int))(Y:Nat->Rat)(p:Int->Rat)(Z:Int)(N:Nat):Prop where
 m14:rs.length<=14
 tn:B4 (2*rs.length+2) ts
 hg:Jv ts rs.length
 pp:Er rs ts Y p
 wd:Wl rs Y Z N
abbrev BH(rs:List AQ)(ts:List (List Int))(x:Int):Int:=((BD (Al (AJ ts) (2*rs.length+2)) x:Nat):Int)
abbrev CT(rs:List AQ)(ts:List (List Int)):Nat:=(Al (AJ ts) (2*rs.length+2)).length
section
variable {rs:List AQ} {ts:List (List Int)} {Y:Nat->Rat} {p:Int->Rat} {Z:Int} {N:Nat} {H:Hp} {l:List (Int×Addr)}
theorem Dt.in(D:Dt rs ts Y p Z N){x:Int}(hx:AF (2*rs.length+2) x):AF (CT rs ts) (BH rs ts x):=⟨by unfold BH; omega,by unfold BH CT; have:=N9 D.tn hx; omega⟩
theorem Dt.le(D:Dt rs ts Y p Z N):CT rs ts<=30:=by
 have:=(Qk D.tn.perm (jj _)).2
 have:=D.m14
 unfold CT;omega
theorem Dt.at(D:Dt rs ts Y p Z N){x:Int}(hx:AF (2*rs.length+2) x):D6 ts (2*rs.length+2) p (BH rs ts x)=p x:=KU D.tn D.pp.inv hx
theorem Dt.sf(D:Dt rs ts Y p Z N){c:Nat}{q:Rat}(h:Uw Z N c q)(hc:c<=64):Sf q:=h.sf D.wd.z0 D.wd.zl hc D.wd.nl
theorem Dt.full (D:Dt rs ts Y p Z N) (k:CK H (CT rs ts) (D6 ts (2*rs.length+2) p) Z N l) (h0:BH rs ts (2*(rs.length:Int))∈l.map (·.1))
  (cl:∀j:Nat,j<rs.length->(BH rs ts (2*(j:Int))∈l.map (·.1)↔BH rs ts (2*(j:Int)+1)∈l.map (·.1))):CT rs ts<=l.length:=by
 have all:=D.hg (λx=>BH rs ts x∈l.map (·.1)) (λx hx=>by rw[show BH rs ts (AJ ts x)=BH rs ts x by unfold BH; rw[NU D.tn hx]]) cl h0
 have:=Kj ((ju (CT rs ts)).map λj:Nat=>(j:Int)) (l.map (·.1)) (by
  rw[nU,lP];exact nj (λh e=>h (by omega)) lK) (λx hx=>by
  obtain⟨j,hj,rfl⟩:=js.mp hx;obtain⟨y,hy,ey⟩:=Lf D.tn (jZ.mp hj)
  have:=all y hy
  unfold BH at this
  rwa [ey] at this)
 rwa [ja,ja,jV] at this
theorem Dt.step(D:Dt rs ts Y p Z N)(k:CK H (CT rs ts) (D6 ts (2*rs.length+2) p) Z N l){j:Nat}{r:AQ}(hj:rs[j]?=some r):
  (BH rs ts (2*(j:Int)+1)∈l.map (·.1)->∃a,(BH rs ts (2*(j:Int)+1),a)∈l/\Co (DL l) (j4 (BH rs ts (2*(j:Int)+1)):Aa)=some (.ref a)/\AS H a (p (2*(j:Int)+1))/\Sf (p (2*(j:Int)+1)) /\
   (BH rs ts (2*(j:Int))∉l.map (·.1)->∀b H',AN H H'->AS H' b (p (2*(j:Int)+1)+As Y r)->CK H' (CT rs ts) (D6 ts (2*rs.length+2) p) Z N (l++[(BH rs ts (2*(j:Int)),b)]))) /\
  (BH rs ts (2*(j:Int))∈l.map (·.1)->∃a,(BH rs ts (2*(j:Int)),a)∈l/\Co (DL l) (j4 (BH rs ts (2*(j:Int))):Aa)=some (.ref a)/\AS H a (p (2*(j:Int)))/\Sf (p (2*(j:Int))) /\
   (BH rs ts (2*(j:Int)+1)∉l.map (·.1)->∀b H',AN H H'->AS H' b (p (2*(j:Int))-As Y r)->CK H' (CT rs ts) (D6 ts (2*rs.length+2) p) Z N (l++[(BH rs ts (2*(j:Int)+1),b)]))):=by
 have jl:=(jc.mp hj).1;have i0:AF (2*rs.length+2) (2*(j:Int)):=⟨by omega,by push_cast; omega⟩;have i1:AF (2*rs.length+2) (2*(j:Int)+1):=⟨by omega,by push_cast; omega⟩;have df:=D.pp.df j r hj;have ru:=D.wd.ru r (jd hj);have kl:=k.len;have L30:=D.le;constructor
 ·intro h;obtain⟨a,h1,h2⟩:=L4 h;obtain⟨f1,f2⟩:=k.fr _ h1;dsimp only at f1 f2;rw[D.at i1] at f1 f2;refine⟨a,h1,h2,f1,D.sf f2 (by omega),λhn b H' s hb=>?_⟩;have e:p (2*(j:Int)+1)+As Y r=p (2*(j:Int)):=by grind
  refine(k.keep s).Dh hn (D.in i0) ?_ ?_
  ·rw[D.at i0,<-e]; exact hb
  ·rw[D.at i0,<-e]; exact f2.Dh ru
 ·intro h;obtain⟨a,h1,h2⟩:=L4 h;obtain⟨f1,f2⟩:=k.fr _ h1;dsimp only at f1 f2;rw[D.at i0] at f1 f2;refine⟨a,h1,h2,f1,D.sf f2 (by omega),λhn b H' s hb=>?_⟩;have e:p (2*(j:Int))-As Y r=p (2*(j:Int)+1):=by grind
  refine(k.keep s).Dh hn (D.in i1) ?_ ?_
  ·rw[D.at i1,<-e]; exact hb
  ·rw[D.at i1,<-e]; exact f2.Di ru
end
def Gk(x y:Rat):Rat:=if y<x then y else x
def Gj(x y:Rat):Rat:=if y<x then x else y
theorem Ny{rs:List AQ}{ts:List (List Int)}{j:Nat}(h:j<=rs.length):Bv ((EK ts (2*rs.length+2)).map V.int) (2*(j:Int))=some (.int (BH rs ts (2*(j:Int)))):=by
 have:=Tv (ts:=ts) (n:=2*rs.length+2) (e:=2*j) (by omega)
 rwa [show((2*j:Nat):Int)=2*(j:Int) by omega] at this
theorem N8{rs:List AQ}{ts:List (List Int)}{j:Nat}(h:j<=rs.length):Bv ((EK ts (2*rs.length+2)).map V.int) (2*(j:Int)+1)=some (.int (BH rs ts (2*(j:Int)+1))):=by
 have:=Tv (ts:=ts) (n:=2*rs.length+2) (e:=2*j+1) (by omega)
 rwa [show((2*j+1:Nat):Int)=2*(j:Int)+1 by omega] at this
section
variable {P:j8} {w:World} {K:jk} {mg:Str->Option Value} {base:Heap} {f g h f1 f2 f3 f4 f5:Addr} {fd gd hd d1 d2 d3 d4 d5:kF}
inductive Sz(vs:List V)(H:Hp)(Q:VK):Prop
 | mk (p q:Addr) (x y:Rat) (h_0:vs=[.ref p,.ref q]) (h_1:AS H p x) (h_2:AS H q y) (h_3:Sf x) (h_4:Sf y) (h_5:Q (.bl (decide (x<y))) H):Sz vs H Q
def Ug:Sp:=λvs H Q _=>Sz vs H Q
theorem eK:Ay ["one","other"] ["one","other"] (Ao s_less):=A7
theorem cG(F:Ar K "less" "less" s_less f fd):An P w K mg base Av 1 f fd ["one","other"] Ug:=by
 refine F.BA eK λcdv A outer s H vs Q E hr h=>?_
 obtain⟨p,q,x,y,rfl,hp,hq,sx,sy,k⟩:=h;refine⟨_,AV (Aq (IJ Ia (AL C4 (pT K (pv 0) AE) (pT K (pv 1) AE)) (AL C4 (pT K (pv 1) AE) (pT K (pv 0) AE)) (BJ _))),?_⟩;rw[show decide (x<y)=decide (x.num*(y.den:Int)<y.num*(x.den:Int)) from decide_eq_decide.mpr (wX x y)] at k;exact⟨_,rfl,p,_,_,_,rfl,rfl,AK.of hp,BF,_,rfl,q,_,_,_,rfl,rfl,AK.of hq,at1,_,_,rfl,rfl,⟨sx.n,sy.d⟩,_,rfl,q,_,_,_,rfl,rfl,AK.of hq,BF,_,rfl,p,_,_,_,rfl,rfl,AK.of hp,at1,_,_,rfl,rfl,⟨sy.n,sx.d⟩,_,_,rfl,rfl,k⟩
inductive UO(vs:List V)(H:Hp)(Q:VK):Prop
 | mk (p q:Addr) (x y:Rat) (h_0:vs=[.ref p,.ref q]) (h_1:AS H p x) (h_2:AS H q y) (h_3:Sf x) (h_4:Sf y) (h_5:∀t a b,H t=none->AS H a (Gk x y)->AS H b (Gj x y)->Q (.ref t) (AH H t (.AG [.ref a,.ref b]))):UO vs H Q
def Vt:Sp:=λvs H Q _=>UO vs H Q
theorem iI:Ay ["one","other"] ["one","other"] (Ao s_rising):=A7
theorem Y1(F:Ar K "rising" "rising" s_rising f fd)(G:Aj P w K mg base 1 "less" ["one","other"] Ug):An P w K mg base Av 2 f fd ["one","other"] Vt:=by
 refine F.BA iI λcdv A outer s H vs Q E hr h=>?_
 obtain⟨p,q,x,y,rfl,hp,hq,sx,sy,k⟩:=h;refine⟨_,AV (Aq (Nh (GI (AZ G hr (AA (pv 1) (AA (pv 0) AB)))) (BZ (AA (pv 1) (AA (pv 0) AB))) (BZ (AA (pv 0) (AA (pv 1) AB))))),?_⟩;refine⟨_,rfl,_,rfl,q,p,y,x,rfl,hq,hp,sy,sx,_,rfl,?_⟩;unfold Gk Gj at k;by_cases z:y<x
 ·rw[jq z,jq z] at k;exact Cy z ⟨_,rfl,_,rfl,by exact B6,λt ht=>k t q p ht hq hp⟩
 ·rw[jm z,jm z] at k;exact Ca z ⟨_,rfl,_,rfl,by exact B6,λt ht=>k t p q ht hp hq⟩
inductive Rn(vs:List V)(H:Hp)(Q:VK):Prop
 | mk (a b:Addr) (rs:List AQ) (ts:List (List Int)) (Y:Nat->Rat) (p:Int->Rat) (Z:Int) (N:Nat) (h_0:vs=[.ref a,.ref b]) (h_1:H a=some (.AG ((EK ts (2*rs.length+2)).map V.int))) (h_2:A4 AS H b (rs.map (As Y))) (h_3:Dt rs ts Y p Z N)
  (h_4:∀d l H',AN H H'->H' d=some (.dK (DL l))->CK H' (CT rs ts) (D6 ts (2*rs.length+2) p) Z N l->CT rs ts<=l.length->Q (.ref d) H'):Rn vs H Q
def Su:Sp:=λvs H Q _=>Rn vs H Q
theorem Ir:Ay ["lands","widths","outer","sides","k","width","right","left"] ["lands","widths"] (Ao s_land_sides):=A7
seal L2.DC L2.PS L2.PE L2.PA in
theorem Ze (F:Ar K "land_sides" "land_sides" s_land_sides f fd) (G1:Aj P w K mg base 3 "plus" ["one","other"] (C7 λx y=>x+y))
  (G2:Aj P w K mg base 3 "minus" ["one","other"] (C7 λx y=>x-y)) (ml:mg "len" = none) (mx:mg "max" = none) (me:mg "enumerate" = none):An P w K mg base Av 4 f fd ["lands","widths"] Su:=by
 refine F.BA Ir λcdv A outer s H vs Q E hr h=>?_
 obtain⟨a,b,rs,ts,Y,p,Z,N,rfl,ha,⟨bs,hb,hB⟩,D,q⟩:=h;have hu:=FD hr;refine⟨_,AO (AW (i:=2) Ir.nd rfl (jn rfl) (A3 (Be (K:=K)) (by rfl) ml BN (AA (pv 1) AB)))
  (AO (AW (i:=3) Ir.nd rfl (jn rfl) (S1 (Nv (pT K (pv 0) (AL Bt AE (pv 2))) (BZ (AA AE (AA AE AB))) TU) rfl rfl (λz=>by cases z) (by decide)))
  (AO (HJ j3 (BQ ff (A3 Nb (by rfl) ml BN (AA (pv 3) AB)) (A3 (YR rfl) (by rfl) mx Up (AA (pv 0) AB)) (BJ _))
   (AV (CV j3 rfl (Ki (by rfl) me (AA (pv 1) AB)) (Dn (n:=2) (K:=K) rfl (BI (Af (i:=4) Ir.nd rfl (jn rfl)) (BI (Af (i:=5) Ir.nd rfl (jn rfl)) Ck)))
    (AO (AW (i:=6) Ir.nd rfl (jn rfl) (pT K (pv 0) (AL Bt AE (pv 4))))
    (AO (AW (i:=7) Ir.nd rfl (jn rfl) (pT K (pv 0) (AL BL (AL Bt AE (pv 4)) AE)))
    (AV (Bn (PW.pt (Oc (Kr (U9 hu (pv 7) (pv 3))) (OA (Kr (NX hu (pv 6) (pv 3))))))
     (AV (GC hu (pv 3) (pv 6) (AZ G1 hr (AA (ET hu (pv 3) (pv 7) (λ_ _=>rfl)) (AA (pv 5) AB))) rfl))
     (AV (Bn (PW.pt (Oc (Kr (U9 hu (pv 6) (pv 3))) (OA (Kr (NX hu (pv 7) (pv 3))))))
      (AV (GC hu (pv 3) (pv 7) (AZ G2 hr (AA (ET hu (pv 3) (pv 6) (λ_ _=>rfl)) (AA (pv 5) AB))) rfl)) CA)))))))))
  (AV (Aq (pv 3))))),?_⟩
 have m14:=D.m14;have lb:bs.length=rs.length:=by rw[hB.1,ja]
 have i0:AF (2*rs.length+2) (2*(rs.length:Int)):=⟨by omega,by push_cast; omega⟩;refine⟨_,rfl,b,_,rfl,.inr (AK.of hb),?_⟩;rw[ja,lb];intro d hd;obtain⟨H1,zg,s1,e1⟩:=nw hd (.dK []);rw[zg];refine⟨_,rfl,_,rfl,_,_,rfl,rfl,.inl ⟨by decide,by decide⟩,a,_,_,_,rfl,rfl,AK.of (s1 _ _ ha),Ny (jj _),by exact B6,λz hz=>?_⟩;obtain⟨H2,zg,s2,zz⟩:=nw hz (.AG [.int 0,.int 1]);rw[zg];have fz:AS H2 z 0:=zz;have e2:=s2 _ _ e1;refine⟨e2,[(j4 (BH rs ts (2*(rs.length:Int))),.ref z)],rfl,by show 1<=15; decide,?_⟩;have s3:AN H (AH H2 d (.dK (Ff [] [((j4 (BH rs ts (2*(rs.length:Int))):Aa),V.ref z)]))):=(s1.trans s2).up hd _;have e3:(AH H2 d (.dK (Ff [] [((j4 (BH rs ts (2*(rs.length:Int))):Aa),V.ref z)]))) d=some (.dK (DL [(BH rs ts (2*(rs.length:Int)),z)])):=AU;have k3:CK (AH H2 d (.dK (Ff [] [((j4 (BH rs ts (2*(rs.length:Int))):Aa),V.ref z)]))) (CT rs ts) (D6 ts (2*rs.length+2) p) Z N [(BH rs ts (2*(rs.length:Int)),z)] :=
  (CK.Ae (D.in i0) fz (by rw[D.at i0]; exact D.pp.o)).K1 e2 _
 generalize AH H2 d (.dK (Ff [] [((j4 (BH rs ts (2*(rs.length:Int))):Aa),V.ref z)]))=H3 at s3 e3 k3;have ad:a≠d:=λz=>by rw[z,hd] at ha; cases ha
 have bd:b≠d:=λz=>by rw[z,hd] at hb; cases hb
 refine Gz (λσ H4=>∃l u1 u2 u3 u4,σ=[some (.ref a),some (.ref b),some (.int (rs.length:Int)),some (.ref d),u1,u2,u3,u4]/\AN H H4/\H4 d=some (.dK (DL l))/\CK H4 (CT rs ts) (D6 ts (2*rs.length+2) p) Z N l/\BH rs ts (2*(rs.length:Int))∈l.map (·.1))
  (λ_ H4=>match H4 d with | some (.dK kv)=>CT rs ts-kv.length | _=>0) ⟨_,none,none,none,none,rfl,s3,e3,k3,by simp⟩ ?_ ?_
 ·rintro σ H4 ⟨l,u1,u2,u3,u4,rfl,s4,hd4,k4,c4⟩;refine⟨_,rfl,d,_,rfl,hd4,_,rfl,a,_,rfl,s4 _ _ ha,by rw[bf]; omega,λx hx mx'=>?_⟩;rw[bA D.tn hx mx',ja];refine⟨_,_,rfl,rfl,_,rfl,?_⟩;by_cases hlt:(l.length:Int)<=(CT rs ts:Int)-1
  ·refine Cy hlt ?_;refine⟨_,rfl,b,_,rfl,s4 _ _ hb,?_⟩;refine KY (xs:=bs.map V.ref) (λi σ H5=>∃l' u1 u2 u3 u4,σ=[some (.ref a),some (.ref b),some (.int (rs.length:Int)),some (.ref d),u1,u2,u3,u4]/\AN H H5/\H5 d=some (.dK (DL l'))/\CK H5 (CT rs ts) (D6 ts (2*rs.length+2) p) Z N l'/\BH rs ts (2*(rs.length:Int))∈l'.map (·.1)/\l.length<=l'.length /\
     (l'.length=l.length->l'=l/\∀j:Nat,j<i->(BH rs ts (2*(j:Int))∈l.map (·.1)↔BH rs ts (2*(j:Int)+1)∈l.map (·.1))))
    ⟨l,u1,u2,u3,u4,rfl,s4,hd4,k4,c4,jj _,λ_=>⟨rfl,λj hj=>absurd hj (wO _)⟩⟩ (λi σ H5 _ ⟨_,_,_,_,_,_,s5,_⟩=>s5 _ _ hb) ?_ ?_
   ·rintro i x σ H5 tp hx ⟨l',v1,v2,v3,v4,rfl,s5,hd5,k5,c5,le5,cl5⟩ htp;obtain⟨c,q1,rfl,_,hy,hc⟩:=hB.ref hx;obtain⟨r,hr1,rfl⟩:∃r,rs[i]?=some r/\As Y r=q1:=by
     rw[ji] at hy;cases e:rs[i]? with
     | none=>rw[e] at hy; cases hy
     | some r=>rw[e] at hy; exact⟨r,rfl,jL hy⟩
    have il:=(jc.mp hr1).1;obtain⟨H6,zg,s6,e6⟩:=nw htp (.AG [.int (i:Int),.ref c]);rw[zg];have hd6:=s6 _ _ hd5;have k6:=k5.keep s6;have s06:=s5.trans s6;refine⟨tp,_,rfl,AK.of e6,rfl,_,_,rfl,_,_,rfl,rfl,?_⟩;refine⟨_,rfl,_,rfl,_,_,rfl,rfl,.inl ⟨by decide,by decide⟩,a,_,_,_,rfl,rfl,AK.of (s06 _ _ ha),Ny (by omega),?_⟩;refine⟨_,rfl,_,rfl,_,_,rfl,rfl,.inl ⟨by decide,by decide⟩,_,_,rfl,rfl,a,_,_,_,rfl,rfl,AK.of (s06 _ _ ha),N8 (by omega),?_⟩;obtain⟨stR,stL⟩:=D.step k6 hr1;have ruS:=D.sf (D.wd.ru r (jd hr1)) (by decide);have fc:=Au s06 (by exact hc);have kl:=k6.len;have L30:=D.le;have szK:(DL l').length<jR:=by rw[ja]; exact Ce (by omega)
    have g1:=DP.k (k:=j4 (BH rs ts (2*(i:Int)+1))) hd6;have g0:=DP.k (k:=j4 (BH rs ts (2*(i:Int)))) hd6;have same:∀(h:BH rs ts (2*(i:Int))∈l'.map (·.1)↔BH rs ts (2*(i:Int)+1)∈l'.map (·.1)),l'.length=l.length->l'=l/\∀j:Nat,j<i+1->(BH rs ts (2*(j:Int))∈l.map (·.1)↔BH rs ts (2*(j:Int)+1)∈l.map (·.1)):=λh z=>by
     obtain⟨rfl,c2⟩:=cl5 z;refine⟨rfl,λj hj=>?_⟩;rcases j6 j i with y | y
     ·exact c2 j y
     ·obtain rfl:j=i:=by omega
      exact h
    have more:∀(e:Int) (t:Addr) (H8:Hp),e∉l'.map (·.1)->AN H6 H8->CK H8 (CT rs ts) (D6 ts (2*rs.length+2) p) Z N (l'++[(e,t)])->∃l'' w1 w2 w3 w4,[some (V.ref a),some (.ref b),some (.int (rs.length:Int)),some (.ref d),some (.int (i:Int)),some (.ref c),some (.int (BH rs ts (2*(i:Int)))),some (.int (BH rs ts (2*(i:Int)+1)))]=[some (.ref a),some (.ref b),some (.int (rs.length:Int)),some (.ref d),w1,w2,w3,w4] /\
      AN H (AH H8 d (.dK (CN (DL l') (j4 e:Aa) (.ref t))))/\(AH H8 d (.dK (CN (DL l') (j4 e:Aa) (.ref t)))) d=some (.dK (DL l''))/\CK (AH H8 d (.dK (CN (DL l') (j4 e:Aa) (.ref t)))) (CT rs ts) (D6 ts (2*rs.length+2) p) Z N l''/\BH rs ts (2*(rs.length:Int))∈l''.map (·.1)/\l.length<=l''.length /\
      (l''.length=l.length->l''=l/\∀j:Nat,j<i+1->(BH rs ts (2*(j:Int))∈l.map (·.1)↔BH rs ts (2*(j:Int)+1)∈l.map (·.1))):=λe t H8 hn s8 k8=>by
     refine⟨l'++[(e,t)],_,_,_,_,rfl,(s06.trans s8).up hd _,by rw[AU,bq hn],k8.K1 (s8 _ _ hd6) _,by rw[jH]; exact jI.mpr (.inl c5),by rw[jw]; omega,λz=>?_⟩;rw[jw,kX] at z;omega
    refine⟨_,rfl,_,rfl,d,_,rfl,g1,_,rfl,?_⟩;by_cases h1:BH rs ts (2*(i:Int)+1)∈l'.map (·.1)
    ·obtain⟨al,_,vl,fl,sl,addR⟩:=stR h1;rw[vl];rw[vl] at g1;refine Ey ?_;refine⟨_,rfl,_,rfl,d,_,rfl,g0,_,rfl,?_⟩;by_cases h0:BH rs ts (2*(i:Int))∈l'.map (·.1)
     ·obtain⟨ar,_,vr,fr,sr,addL⟩:=stL h0;rw[vr];rw[vr] at g0;refine C9 ?_;refine⟨_,rfl,_,rfl,d,_,rfl,g0,_,rfl,Ey ?_⟩;refine⟨_,rfl,_,rfl,d,_,rfl,g1,_,rfl,C9 ?_⟩;exact⟨l',_,_,_,_,rfl,s06,hd6,k6,c5,le5,same ⟨λ_=>h1,λ_=>h0⟩⟩
     ·rw[JG h0];refine Ey ?_;refine⟨_,rfl,_,rfl,d,_,rfl,g1,_,rfl,al,c,_,_,rfl,fl,fc,sl,ruS,λt ht=>?_⟩;have s8:=AY ht (.AG [.int (p (2*(i:Int)+1)+As Y r).num,.int (p (2*(i:Int)+1)+As Y r).den]);exact⟨_,rfl,_,rfl,d,_,rfl,D5.k (k:=j4 (BH rs ts (2*(i:Int)))) (s8 _ _ hd6) szK,more _ t _ h0 s8 (addR h0 t _ s8 AU)⟩
    ·rw[JG h1];rw[JG h1] at g1;refine C9 (C9 ?_);refine⟨_,rfl,_,rfl,d,_,rfl,g0,_,rfl,?_⟩;by_cases h0:BH rs ts (2*(i:Int))∈l'.map (·.1)
     ·obtain⟨ar,_,vr,fr,sr,addL⟩:=stL h0;rw[vr];rw[vr] at g0;refine Ey ?_;refine⟨_,rfl,_,rfl,d,_,rfl,g1,_,rfl,Ey ?_⟩;refine⟨_,rfl,_,rfl,d,_,rfl,g0,_,rfl,ar,c,_,_,rfl,fr,fc,sr,ruS,λt ht=>?_⟩;have s8:=AY ht (.AG [.int (p (2*(i:Int))-As Y r).num,.int (p (2*(i:Int))-As Y r).den]);exact⟨_,rfl,_,rfl,d,_,rfl,D5.k (k:=j4 (BH rs ts (2*(i:Int)+1))) (s8 _ _ hd6) szK,more _ t _ h1 s8 (addL h1 t _ s8 AU)⟩
     ·rw[JG h0];refine C9 (C9 ?_);exact⟨l',_,_,_,_,rfl,s06,hd6,k6,c5,le5,same ⟨λz=>absurd z h0,λz=>absurd z h1⟩⟩
   ·rintro σ H5 ⟨l',v1,v2,v3,v4,rfl,s5,hd5,k5,c5,le5,cl5⟩;refine⟨⟨l',_,_,_,_,rfl,s5,hd5,k5,c5⟩,?_⟩;show(match H5 d with | some (.dK kv)=>CT rs ts-kv.length | _=>0)<(match H4 d with | some (.dK kv)=>CT rs ts-kv.length | _=>0);rw[hd5,hd4];show CT rs ts-(DL l').length<CT rs ts-(DL l).length;rw[ja,ja];rcases j6 l.length l'.length with z | z
    ·omega
    ·obtain⟨rfl,c2⟩:=cl5 (by omega)
     have:=D.full k5 c5 (λj hj=>c2 j (by rw[ja,lb]; exact hj))
     omega
  ·refine Ca hlt ?_;exact⟨_,rfl,q d l H4 s4 hd4 k4 (by omega)⟩
 ·rintro σ H4 Q1 Q2 hq ⟨v,e,d',kv,z1,z2,v',e',a',ns,y1,y2,y3,z⟩;exact⟨v,e,d',kv,z1,z2,v',e',a',ns,y1,y2,y3,λm hm hl=>by
   obtain⟨i,j,e1,e2,b,eb,zz⟩:=z m hm hl;exact⟨i,j,e1,e2,b,eb,hq _ _ zz⟩⟩
theorem Rq(X Y:Nat->Rat)(i:Nat):∀rs:List AQ,A6 (λj=>X j-Y j) rs i=A6 X rs i-A6 Y rs i
 | []=>by unfold A6; simp; grind
 | r :: rs=>by
  have e:Cq (λj=>X j-Y j) i r=Cq X i r-Cq Y i r:=by
   unfold Cq As;split <;> split <;> grind
  have:=Rq X Y i rs
  unfold A6 at this ⊢;rw[jx,jx,jx,j7,j7,j7,this,e]
  grind
theorem Kb(X:Nat->Rat)(c:Rat)(i:Nat):∀rs:List AQ,A6 (λj=>X j*c) rs i=A6 X rs i*c
 | []=>by unfold A6; simp
 | r :: rs=>by
  have e:Cq (λj=>X j*c) i r=Cq X i r*c:=by
   unfold Cq As;split <;> split <;> grind
  have:=Kb X c i rs
  unfold A6 at this ⊢;rw[jx,jx,j7,j7,this,e]
  grind
theorem Ln{n m α β B:Nat}{rs:List AQ}{X Y:Nat->Rat}(k:CD n m α β rs)(hX:Dr n B rs X)(y0:Y 0=1)(y1:Y 1=0)(yb:∀i,2<=i->i<n+2->A6 Y rs i=0):∀j,j<n+2->X j=Y j:=by
 have:=Q9 (X:=λj=>X j-Y j) (λr hr=>⟨(k.CI r hr).1,(k.CI r hr).2.1,k.pos r hr⟩) k.Cp (by show X 0-Y 0=0; rw[hX.x0,y0]; grind) (λi hi=>by
  match i,hi with
  | 0,_=>left; show X 0-Y 0=0; rw[hX.x0,y0]; grind
  | 1,_=>left; show X 1-Y 1=0; rw[hX.x1,y1]; grind
  | i+2,hi=>right; rw[Rq,hX.bal (i+2) (by omega) hi,yb (i+2) (by omega) hi]; grind)
 intro j hj
 have:=this j hj
 grind
structure P7(n:Nat)(rs:List AQ)(X:Nat->Rat)(F:Rat):Prop where
 hs:∀j,j<n+2->Sf (X j)
 ys:∀j,j<n+2->Sf (X j*F)
 fs:∀r∈rs,Sf (X r.1-X r.2.1)
 ds:∀r∈rs,Sf (X r.1*F-X r.2.1*F)
 es:∀r∈rs,Sf r.2.2
 rx:∀r∈rs,Sf (As X r)
 sF:Sf F
theorem Dr.Ow{n:Nat}{rs:List AQ}{X:Nat->Rat}{F:Rat}(k:CD n 14 10 10 rs)(h:Dr n ((8+10*14+10)*n) rs X)(hF:Sb 30 30 F):P7 n rs X F/\(∃Z N,Wl rs (λj=>X j*F) Z N)/\∃Z N,Z≠0/\Z.natAbs<=2 ^ 3900/\N+6<=3900/\∀r∈rs,Uw Z N 1 (X r.1*F-X r.2.1*F):=by
 obtain⟨Z,N,z⟩:=h.Ky k;obtain⟨W,w0,wl,wx⟩:=h.wh;have n13:=k.hb.n13;have hB:(8+10*14+10)*n<=2054:=by omega
 generalize (8+10*14+10)*n=B at *;have hd:DA rs<=2 ^ 140:=k.den;have hp:=JV rs;have fd0:(F.den:Int)≠0:=by have:=F.den_nz; omega
 have fF:((F.den:Int):Rat)*F=(F.num:Int):=by
  have d0:(F.den:Rat)≠0:=by have:=F.den_nz; exact_mod_cast this
  have e:F=(F.num:Rat) / (F.den:Rat):=(pZ F).symm.trans (by rw[qp]; rfl);rw[ic]
  conv=>lhs; rw[e]
  grind
 have fn:F.num.natAbs<=2 ^ 30:=hF.1;have fl:(F.den:Int).natAbs<=2 ^ 30:=by rw[j9]; exact hF.2
 have wf:(W*(F.den:Int)).natAbs<=2 ^ (B+30):=by rw[kn]; exact DB wl fl
 have fall:∀r∈rs,∃c:Int,(W:Rat)*(X r.1-X r.2.1)=c/\c.natAbs<=2 ^ (B+1):=λr hr=>by
  obtain⟨a1,a2,a3⟩:=k.CI r hr;obtain⟨x,e1,l1⟩:=wx _ a1;obtain⟨y,e2,l2⟩:=wx _ a2;refine⟨x-y,by rw[qT,<-e1,<-e2]; grind,?_⟩
  have:=qk x y
  rw[nK]; omega
 have run:∀r∈rs,∃c:Int,((W*(DA rs:Int)*(F.den:Int):Int):Rat)*As (λj=>X j*F) r=c/\c.natAbs<=2 ^ (140+10+(B+1)+30):=λr hr=>by
  obtain⟨c,e,l⟩:=fall r hr;obtain⟨v,hv⟩:=OZ (Ls hr);refine⟨v*c*F.num,?_,?_⟩
  ·rw[kC,kC,kC,kC,<-hv,<-e,<-fF,ic];unfold As; grind
  ·have ab:Ab ((2 ^ 140:Nat):Rat) ((DA rs:Nat):Rat):=IP (x:=(DA rs:Int)) (by rw[j9]; exact hd);have vb:=ab.Ee (k.CI r hr).2.2.vb;rw[hv,<-Rat.natCast_mul,<-Nat.pow_add] at vb;rw[kn,kn];exact DB (DB (Fm vb) l) fn
 have w2:(2:Nat) ^ (B+30)<=2 ^ 3900:=kM (by decide) (by omega);have fu:∀r∈rs,Uw (W*(F.den:Int)) (B+1+30) 1 (X r.1*F-X r.2.1*F):=λr hr=>by
  obtain⟨c,e,l⟩:=fall r hr;exact⟨c*F.num,by rw[kC,kC,<-e,<-fF]; grind,by rw[kn,pG]; exact DB l fn⟩
 refine⟨⟨z.hs,λj hj=>?_,z.fs,λr hr=>(fu r hr).sf (mH w0 fd0) (jW wf w2) (by decide) (by omega),z.es,λr hr=>(z.ru r hr).sf z.z0 z.zl (by decide) z.nl,hF.mono (by decide) (by decide)⟩,⟨W*(DA rs:Int)*(F.den:Int),140+10+(B+1)+30,mH (mH w0 (by omega)) fd0,?_,by omega,λr hr=>?_⟩,W*(F.den:Int),B+1+30,mH w0 fd0,jW wf w2,by omega,fu⟩
 ·obtain⟨c,e,l⟩:=wx j hj;refine(Ka (W:=W*(F.den:Int)) (k:=c*F.num) (b:=B+30) (a:=B+30) (mH w0 fd0) ?_ (by rw[kn]; exact DB l fn) wf).mono (by omega) (by omega);rw[kC,kC,<-e,<-fF]; grind
 ·rw[kn,kn,j9 (DA rs)];exact jW (DB (DB wl hd) fl) (kM (by decide) (by omega))
 ·obtain⟨c,e,l⟩:=run r hr;exact⟨c,e,by rw[pG]; exact l⟩
theorem NetV.k{n:Nat}{rs:List AQ}{ts:List (List Int)}(k:NetV (n+2) rs ts):CD n 14 10 10 rs:=by
 have:=k.n15
 refine⟨⟨by omega,by decide,by omega⟩,k.m14,λr hr=>?_,λr hr=>?_,k.Cp⟩
 ·obtain⟨⟨e1,e2,e3⟩,h1,h2⟩:=k.ease r hr;exact⟨h1,h2,by show r.2.2.num.natAbs<=2 ^ 10; omega,by show r.2.2.den<=2 ^ 10; omega⟩
 ·have:=(k.ease r hr).1.pos
  rw[wX]; simpa using this
def Ht(p:Int->Rat)(Y:Nat->Rat)(k:Nat)(r:AQ):List Rat:=[Gk (p (2*(k:Int))) (p (2*(k:Int)+1)),Gk (Y r.1) (Y r.2.1),Gj (p (2*(k:Int))) (p (2*(k:Int)+1)),Gj (Y r.1) (Y r.2.1)]
def D4(p:Int->Rat)(Y:Nat->Rat)(rs:List AQ):List (List Rat):=rs.mapIdx λk r=>Ht p Y k r
theorem SH{p:Int->Rat}{Y:Nat->Rat}{rs:List AQ}{k:Nat}{r:AQ}(h:rs[k]?=some r):(D4 p Y rs)[k]?=some (Ht p Y k r):=by
 unfold D4;rw[lS,h];rfl
theorem HM(p:Int->Rat)(Y:Nat->Rat)(rs:List AQ):(D4 p Y rs).length=rs.length:=by unfold D4; rw[l9]
def IK(H:Hp)(a:Addr)(W U:Rat)(rows:List (List Rat)):Prop:=∃p q r,H a=some (.AG [.ref p,.ref q,.ref r])/\AS H p W/\AS H q U/\A4 (A4 AS) H r rows
theorem Li{H H':Hp}{a:Addr}{W U:Rat}{rows:List (List Rat)}(s:AN H H')(h:IK H a W U rows):IK H' a W U rows:=by
 obtain⟨p,q,r,h1,h2,h3,h4⟩:=h;exact⟨p,q,r,s _ _ h1,s _ _ h2,s _ _ h3,EU (R:=A4 AS) (λs h=>GR s h) s h4⟩
structure Wx(n:Nat)(rs:List AQ)(ts:List (List Int))(X:Nat->Rat)(F:Rat)(p:Int->Rat)(Z:Int)(N:Nat):Prop where
 nk:CD n 14 10 10 rs
 hx:Dr n ((8+10*14+10)*n) rs X
 hf:P7 n rs X F
 ld:Dt rs ts (λj=>X j*F) p Z N
theorem TF{H:Hp}{t c0 c1 c2 c3:Addr}{x0 x1 x2 x3:Rat}(h:H t=some (.AG [.ref c0,.ref c1,.ref c2,.ref c3]))(h0:AS H c0 x0)(h1:AS H c1 x1)(h2:AS H c2 x2)(h3:AS H c3 x3):A4 AS H t [x0,x1,x2,x3] :=
 ⟨[c0,c1,c2,c3],h,rfl,λi b x e1 e2=>by
  match i,e1,e2 with
  | 0,e1,e2=>cases e1; cases e2; exact h0
  | 1,e1,e2=>cases e1; cases e2; exact h1
  | 2,e1,e2=>cases e1; cases e2; exact h2
  | 3,e1,e2=>cases e1; cases e2; exact h3⟩
theorem cP{H:Hp}{l b:Addr}{ys:List V}{o:HO}{r:List Rat}(hl:H l=some (.AD ys))(h:A4 AS H b r):A4 AS (AH H l o) b r:=by
 obtain⟨bs,h1,h2⟩:=h;exact⟨bs,by rw[Ad (λz=>by rw[z,hl] at h1; cases h1)]; exact h1,Ue h2 hl o⟩
theorem TZ{H:Hp}{l:Addr}{ys:List V}{o:HO}{bs:List Addr}{rr:List (List Rat)}(hl:H l=some (.AD ys))(h:At (A4 AS) H bs rr):At (A4 AS) (AH H l o) bs rr:=⟨h.1,λi b x e1 e2=>cP hl (h.2 i b x e1 e2)⟩
theorem Dt.Ft{rs:List AQ}{ts:List (List Int)}{Y:Nat->Rat}{p:Int->Rat}{Z:Int}{N:Nat}{H:Hp}{l:List (Int×Addr)}{d:Addr}(D:Dt rs ts Y p Z N)(k:CK H (CT rs ts) (D6 ts (2*rs.length+2) p) Z N l)(hl:CT rs ts<=l.length)(hd:H d=some (.dK (DL l))){x:Int}(hx:AF (2*rs.length+2) x):
  ∃a,DP H d (.int (BH rs ts x)) (some (.ref a))/\AS H a (p x)/\Sf (p x):=by
 obtain⟨a,h1,h2⟩:=L4 (k.all hl (D.in hx));obtain⟨f1,f2⟩:=k.fr _ h1;dsimp only at f1 f2;rw[D.at hx] at f1 f2;have g:=DP.k (k:=j4 (BH rs ts x)) hd;rw[h2] at g
 have:=k.len
 have:=D.le
 exact⟨a,g,f1,D.sf f2 (by omega)⟩
variable {f6:Addr} {d6:kF}
inductive Tb(vs:List V)(H:Hp)(Q:VK):Prop
 | mk (a b ra ta:Addr) (n:Nat) (rs:List AQ) (ts:List (List Int)) (F:Rat) (h_0:vs=[.ref a,.ref b]) (h_1:H a=some (.AG [.int ((n+2:Nat):Int),.ref ra,.ref ta])) (h_2:A4 BW H ra rs) (h_3:A4 BV H ta ts) (h_4:AS H b F) (h_5:CD n 14 10 10 rs)
  (h_6:∀X,Dr n ((8+10*14+10)*n) rs X->∃p Z N,Wx n rs ts X F p Z N/\∀q H',AN H H'->(∀x,AF (2*rs.length+2) x->Sf (p x))->IK H' q (p (2*(rs.length:Int)+1)) F (D4 p (λj=>X j*F) rs)->Q (.ref q) H'):Tb vs H Q
def Um:Sp:=λvs H Q _=>Tb vs H Q
theorem Fp:Ay ["net","fall","levels","lands","sides","rectangles","k","rope","across","upward","width"] ["net","fall"] (Ao s_laid):=A7
theorem fH:(["level","fall"]:List Str).Nodup:=by decide +kernel
set_option maxHeartbeats 4000000 in
seal L2.DC L2.PS L2.PE L2.PA in
theorem ai (F0:Ar K "laid" "laid" s_laid f fd) (G1:Aj P w K mg base 3 "times" ["one","other"] (C7 λx y=>x*y))
  (G2:Aj P w K mg base 5 "heights" ["net"] PD)
  (G3:Aj P w K mg base 4 "land_of" ["turns"] Nf)
  (G4:Aj P w K mg base 4 "land_sides" ["lands","widths"] Su)
  (G5:Aj P w K mg base 5 "runnings_by" ["net","levels"] Nz)
  (G6:Aj P w K mg base 2 "rising" ["one","other"] Vt) (ml:mg "len" = none) (me:mg "enumerate" = none) (mt:mg "tuple" = none):An P w K mg base Av 6 f fd ["net","fall"] Um:=by
 refine F0.BA Fp λcdv A outer s H vs Q E hr h=>?_
 obtain⟨a,b,ra,ta,n,rs,ts,F,rfl,ha,hra,hta,hb,nk,qq⟩:=h;have hu:=FD hr;have r2:=hr.mono (show 2<=5 by decide);have r3:=hr.mono (show 3<=5 by decide);have r4:=hr.mono (show 4<=5 by decide);refine⟨_,AO (JI (i:=2) Fp.nd rfl (jn rfl) (Nc:=["level","fall"]) (cap:=[(1,1)]) (g:=BR 0) (te:=DT (C7 λx y=>x*y) [] E0 (BO (Ap 0) (BO (Ap 1) CF))) rfl (Ib (K:=K) (AZ G2 hr (AA (pv 0) AB)))
   (CB rfl rfl (by decide +kernel) (by decide +kernel) (jv.mpr ⟨⟨rfl,rfl⟩,jr _⟩) rfl (jv.mpr ⟨⟨_,_,rfl,rfl,rfl,rfl,rfl⟩,jr _⟩)) (λ_ _ _ _ _=>Af (i:=0) fH rfl (jn rfl))
   (λ_ _ _ _ _=>AZ G1 r3 (AA (pv 0) (AA (pv 1) AB))))
  (AO (AW (i:=3) Fp.nd rfl (jn rfl) (AZ G3 r4 (AA (pT K (pv 0) AE) AB)))
  (AO (AW (i:=4) Fp.nd rfl (jn rfl) (AZ G4 r4 (AA (pv 3) (AA (AZ G5 hr (AA (pv 0) (AA (pv 2) AB))) AB))))
  (AO (AW (i:=5) Fp.nd rfl (jn rfl) (Bz AB))
  (AO (CV j3 rfl (Ki (by rfl) me (AA (pT K (pv 0) AE) AB)) (Dn (n:=2) (K:=K) rfl (BI (Af (i:=6) Fp.nd rfl (jn rfl)) (BI (Af (i:=7) Fp.nd rfl (jn rfl)) Ck)))
   (AO (AW (i:=8) Fp.nd rfl (jn rfl) (AZ G6 r2 (AA (ET hu (pv 4) (pT K (pv 3) (AL Bt AE (pv 6))) (λ_ _=>rfl)) (AA (ET hu (pv 4) (pT K (pv 3) (AL BL (AL Bt AE (pv 6)) AE)) (λ_ _=>rfl)) AB))))
   (AO (AW (i:=9) Fp.nd rfl (jn rfl) (AZ G6 r2 (AA (pL K (pv 2) (pT K (pv 7) AE)) (AA (pL K (pv 2) (pT K (pv 7) AE)) AB))))
   (AV (C3 (CY K jT kf kg DY (pv 5) (AA (BZ (AA (pT K (pv 8) AE) (AA (pT K (pv 9) AE) (AA (pT K (pv 8) AE) (AA (pT K (pv 9) AE) AB))))) AB))))))
  )
  (AO (AW (i:=10) Fp.nd rfl (jn rfl) (ET hu (pv 4) (pT K (pv 3) (AL BL (AL Bt AE (A3 (Be (K:=K)) (by rfl) ml BN (AA (pT K (pv 0) AE) AB))) AE)) (λ_ _=>rfl)))
  (AV (Aq (BZ (AA (pv 10) (AA (pv 1) (AA (CP (ED (K:=K)) (by rfl) mt CG (AA (pv 5) AB)) AB)))))))))))
  ,?_⟩
 have n13:=nk.hb.n13;obtain⟨cs,hra1,hRs⟩:=hra;have lc:cs.length=rs.length:=hRs.1;refine⟨_,rfl,a,n,14,10,10,rs,rfl,⟨ra,_,ha,cs,hra1,hRs⟩,nk,λhp H1 X s1 hX hT=>?_⟩;obtain⟨p,Z,N,ly,q⟩:=qq X hX;have D:=ly.ld;have m14:=D.m14;obtain⟨bs,hp1,hB⟩:=hT;have lb:bs.length=n+2:=by rw[hB.1,ja,jV]
 refine⟨hp,rfl,⟨_,AK.of hp1⟩,λacc hacc=>?_⟩;refine CQ (GB hp1) (by rw[ja]; omega) hacc (λi ys σ Hq=>∃ds:List Addr,ys=ds.map V.ref/\At AS Hq ds (((ju (n+2)).map λj=>X j*F).take i)/\∃u,σ=[u,some (.ref b)]) ⟨[],rfl,At.nil,none,rfl⟩ ?_ ?_
 ·rintro i ys σ H3 x H4 hi sm hacc2 ⟨ds,rfl,hD,u,rfl⟩ ⟨rfl,hx⟩ Cc hC;obtain⟨c,xq,rfl,_,hy,hc⟩:=hB.ref hx;have hi':i<n+2:=by rw[ja,lb] at hi; exact hi
  rw[JT X hi'] at hy;cases hy;refine⟨_,rfl,_,rfl,c,b,_,_,rfl,sm _ _ hc,sm _ _ (s1 _ _ hb),ly.hf.hs i hi',ly.hf.sF,λt ht=>?_⟩;have st:=AY ht (.AG [.int (X i*F).num,.int (X i*F).den]);refine hC _ _ _ st ⟨ds++[t],by simp,?_,_,rfl⟩;rw[DX (JT (λj=>X j*F) hi')];exact(hD.keep Au (Dz acc st)).snoc (AS.BK (q:=X i*F) AU (st _ _ hacc2))
 rintro ys σ H2 s2 ha2 hl2 ⟨gs,rfl,hG,u,rfl⟩;rw[ja,lb,jz (by rw[ja,jV]; exact jj _)] at hG;replace hG:=hG.keep Au (Dl H2 acc);have s02:=s1.trans s2;have two:=ly.nk.two;have hA2:FI AS H2 acc ((ju (n+2)).map λj=>X j*F):=⟨gs,ha2,hG⟩;obtain⟨tb,hta1,hTa⟩:=hta;refine⟨_,rfl,a,_,_,_,rfl,rfl,AK.of (s02 _ _ ha),Fu _ _ _,ta,tb,ts,2*rs.length+2,rfl,⟨s02 _ _ hta1,hTa.1,λi c row e1 e2=>s02 _ _ (hTa.2 i c row e1 e2)⟩,D.tn,by omega,λlp H3 s3 nl hl3=>?_⟩;rw[cx D.tn] at hl3;have s03:=s02.trans s3;refine⟨_,rfl,_,rfl,_,rfl,a,acc,n+2,rs,(λj=>X j*F),rfl,⟨ra,_,s03 _ _ ha,cs,s03 _ _ hra1,hRs.keep Cj s03⟩,Vx s3 (.l hA2),by omega,λr hr=>?_,λwp H4 s4 hw4=>?_⟩
 ·obtain⟨r1,r2⟩:=two r hr;exact⟨r1,r2,ly.hf.ys _ r1,ly.hf.ys _ r2,ly.hf.ds r hr,ly.hf.es r hr⟩
 refine⟨lp,wp,rs,ts,_,p,Z,N,rfl,s4 _ _ hl3,hw4,D,λd l H5 s5 hd5 kS5 full=>?_⟩;have s35:=s4.trans s5;have s05:=s03.trans s35;have hl5:=s35 _ _ hl3;have hA5:=Ou (R:=AS) (λs h=>Au s h) (s3.trans s35) hA2;obtain⟨gs',ha5,hG5⟩:=hA5;have ha5':=s05 _ _ ha;have hr5:=s05 _ _ hra1;have hR5:=hRs.keep Cj s05;have hb5:=s05 _ _ hb;refine⟨by exact E4,λR hR=>?_⟩;obtain⟨H6,zg,s6,zz⟩:=nw hR (.AD []);rw[zg];have e6:H6 R=some (.AD (([]:List Addr).map V.ref)):=zz;refine⟨_,rfl,a,_,_,_,rfl,rfl,AK.of (s6 _ _ ha5'),Ea _ _ _,ra,_,rfl,s6 _ _ hr5,?_⟩;refine KY (xs:=cs.map V.ref) (λi σ H7=>∃u6 u7 u8 u9 ds,σ=[some (.ref a),some (.ref b),some (.ref acc),some (.ref lp),some (.ref d),some (.ref R),u6,u7,u8,u9,none]/\AN H5 H7/\H7 R=some (.AD (ds.map V.ref))/\At (A4 AS) H7 ds ((D4 p (λj=>X j*F) rs).take i))
  ⟨none,none,none,none,[],rfl,s6,e6,At.nil⟩ (λi σ H7 _ ⟨_,_,_,_,_,_,s7,_⟩=>s7 _ _ hr5) ?_ ?_
 ·rintro i x σ H7 tp hx ⟨u6,u7,u8,u9,ds,rfl,s7,eR,hD⟩ htp;obtain⟨c,r,rfl,_,hy,e,hc,he⟩:=hR5.ref hx;have il:=(jc.mp hy).1;obtain⟨r1,r2⟩:=two r (jd hy);obtain⟨H8,zg,s8,e8⟩:=nw htp (.AG [.int (i:Int),.ref c]);rw[zg];have s58:=s7.trans s8;have eR8:=s8 _ _ eR;have hD8:=hD.keep (λs h=>EU (R:=AS) (λs h=>Au s h) s h) s8;have i0:AF (2*rs.length+2) (2*(i:Int)):=⟨by omega,by push_cast; omega⟩;have i1:AF (2*rs.length+2) (2*(i:Int)+1):=⟨by omega,by push_cast; omega⟩;obtain⟨ar,gr,fr,sr⟩:=D.Ft (kS5.keep s58) full (s58 _ _ hd5) i0;obtain⟨al,gl,fl,sl⟩:=D.Ft (kS5.keep s58) full (s58 _ _ hd5) i1;refine⟨tp,_,rfl,AK.of e8,rfl,_,_,rfl,_,_,rfl,rfl,?_⟩;refine⟨_,rfl,_,rfl,_,rfl,_,_,rfl,rfl,.inl ⟨by decide,by decide⟩,lp,_,_,_,rfl,rfl,AK.of (s58 _ _ hl5),Ny (by omega),d,_,rfl,gr,
   _,rfl,_,rfl,_,rfl,_,_,rfl,rfl,.inl ⟨by decide,by decide⟩,_,_,rfl,rfl,lp,_,_,_,rfl,rfl,AK.of (s58 _ _ hl5),N8 (by omega),d,_,rfl,gl,ar,al,_,_,rfl,fr,fl,sr,sl,λac c0 c2 hac h0 h2=>?_⟩
  obtain⟨H9,zg,s9,e9⟩:=nw hac (.AG [.ref c0,.ref c2]);rw[zg];have s59:=s58.trans s9;have eR9:=s9 _ _ eR8;have h09:=Au s9 h0;have h29:=Au s9 h2;have hD9:=hD8.keep (λs h=>EU (R:=AS) (λs h=>Au s h) s h) s9;obtain⟨x1,g1,y1⟩:=hG5.get (JT (λj=>X j*F) r1);obtain⟨x2,g2,y2⟩:=hG5.get (JT (λj=>X j*F) r2);refine⟨_,rfl,_,rfl,c,_,_,_,rfl,rfl,AK.of (s59 _ _ hc),Iu _ _ _,acc,_,_,_,rfl,rfl,AR.of (s59 _ _ ha5),Bc (DD g1),_,rfl,_,rfl,c,_,_,_,rfl,rfl,AK.of (s59 _ _ hc),Ea _ _ _,acc,_,_,_,rfl,rfl,AR.of (s59 _ _ ha5),Bc (DD g2),
   x1,x2,_,_,rfl,Au s59 y1,Au s59 y2,ly.hf.ys _ r1,ly.hf.ys _ r2,λup c1 c3 hup h1 h3=>?_⟩
  obtain⟨HA,zg,sA,eA⟩:=nw hup (.AG [.ref c1,.ref c3]);rw[zg];have s5A:=s59.trans sA;have eRA:=sA _ _ eR9;have h0A:=Au sA h09;have h2A:=Au sA h29;have h1A:=Au sA h1;have h3A:=Au sA h3;have e9A:=sA _ _ e9;have hDA:=hD9.keep (λs h=>EU (R:=AS) (λs h=>Au s h) s h) sA;refine⟨_,rfl,.inl ⟨rfl,_,AR.of eRA⟩,_,rfl,ac,_,_,_,rfl,rfl,AK.of e9A,BF,_,rfl,up,_,_,_,rfl,rfl,AK.of eA,BF,_,rfl,ac,_,_,_,rfl,rfl,AK.of e9A,at1,_,rfl,up,_,_,_,rfl,rfl,AK.of eA,at1,by exact Wv,λbx hbx=>?_⟩;have sB:=AY hbx (.AG [.ref c0,.ref c1,.ref c2,.ref c3]);have tB:A4 AS (AH HA bx (.AG [.ref c0,.ref c1,.ref c2,.ref c3])) bx (Ht p (λj=>X j*F) i r):=TF AU (Au sB h0A) (Au sB h1A) (Au sB h2A) (Au sB h3A);have s5B:=s5A.trans sB;have eRB:=sB _ _ eRA;have hDB:=hDA.keep (λs h=>EU (R:=AS) (λs h=>Au s h) s h) sB;generalize AH HA bx (.AG [.ref c0,.ref c1,.ref c2,.ref c3])=HB at sB tB s5B eRB hDB;refine⟨R,_,_,rfl,rfl,eRB,by rw[ja,hDB.1,kB]; exact Ce (by omega),?_⟩;refine⟨_,_,_,_,ds++[bx],rfl,s5B.up hR _,by rw[AU]; simp,?_⟩;rw[DX (SH hy)];exact TZ eRB (hDB.snoc tB)
 ·rintro σ H7 ⟨u6,u7,u8,u9,ds,rfl,s7,eR,hD⟩;rw[ja,lc,jz (by rw[HM]; exact jj _)] at hD;have io:AF (2*rs.length+2) (2*(rs.length:Int)+1):=⟨by omega,by push_cast; omega⟩;obtain⟨wa,gw,fw,sw⟩:=D.Ft (kS5.keep s7) full (s7 _ _ hd5) io;refine⟨_,rfl,_,rfl,_,rfl,a,_,_,_,rfl,rfl,AK.of (s7 _ _ ha5'),Ea _ _ _,ra,_,rfl,.inr (AK.of (s7 _ _ hr5)),?_⟩;rw[ja,lc];refine⟨_,_,rfl,rfl,.inl ⟨by decide,by decide⟩,_,_,rfl,rfl,lp,_,_,_,rfl,rfl,AK.of (s7 _ _ hl5),N8 (jj _),d,_,rfl,gw,?_⟩;refine⟨_,rfl,_,rfl,_,rfl,R,_,rfl,.inl ⟨AR.of eR,λrc hrc=>⟨by exact EM,λq1 hq1=>?_⟩⟩⟩;obtain⟨H8,zg,s8,e8⟩:=nw hrc (.AG (ds.map V.ref));rw[zg] at hq1 ⊢;have s9:=AY hq1 (.AG [.ref wa,.ref b,.ref rc]);have s89:=s8.trans s9;exact q q1 _ ((s05.trans s7).trans s89) (λx hx=>by obtain⟨_,_,_,z⟩:=D.Ft (kS5.keep s7) full (s7 _ _ hd5) hx; exact z) ⟨wa,b,rc,AU,Au s89 fw,s89 _ _ (s7 _ _ hb5),ds,s9 _ _ e8,hD.keep (λs h=>EU (R:=AS) (λs h=>Au s h) s h) s89⟩
end
section
variable {P:j8} {w:World} {K:jk} {mg:Str->Option Value} {base:Heap} {f g h f1 f2 f3:Addr} {fd gd hd d1 d2 d3:kF}
inductive Tx(vs:List V)(H:Hp)(Q:VK):Prop
 | mk (p:Addr) (q:Rat) (h_0:vs=[.ref p]) (h_1:AS H p q) (h_2:∀H',AN H H'->Q (.bl true) H'):Tx vs H Q
def PF:Sp:=λvs H Q _=>Tx vs H Q
theorem iH:Ay ["_law_found"] ["_law_found"] (Ao s_law_is_fraction):=A7
theorem dg (F:Ar K "_law_is_fraction" "_law_is_fraction" s_law_is_fraction f fd) (G1:Aj P w K mg base 2 "_law_row" ["_law_found","_law_many"] Vp)
  (G2:Aj P w K mg base 1 "_law_divisor" ["_law_a","_law_b"] PN) (ma:mg "abs" = none):An P w K mg base Av 3 f fd ["_law_found"] PF:=by
 refine F.BA iH λcdv A outer s H vs Q E hr h=>?_
 obtain⟨p,y,rfl,hp,q⟩:=h;refine⟨_,AV (Aq (MP (AZ G1 hr (AA (pv 0) (AA AE AB)))
  (MP (IJ K4 (pT K (pv 0) AE) AE (BJ _))
   (Oa (IJ Dc (AZ G2 (hr.mono (by decide)) (AA (A3 Lj (by rfl) ma Oq (AA (pT K (pv 0) AE) AB)) (AA (pT K (pv 0) AE) AB))) AE (BJ _)))))),?_⟩
 have yd:=y.den_nz;refine⟨_,rfl,p,[y.num,(y.den:Int)],2,rfl,hp,rfl,by show 2<=1000; decide,λH1 s1=>⟨_,rfl,Ey ?_⟩⟩;have hp1:AS H1 p y:=s1 _ _ hp;refine⟨_,rfl,p,_,_,_,rfl,rfl,AK.of hp1,at1,_,_,rfl,rfl,_,rfl,Cy (by omega) ?_⟩;refine⟨_,rfl,p,_,_,_,rfl,rfl,AK.of hp1,BF,y.num,rfl,_,rfl,p,_,_,_,rfl,rfl,AK.of hp1,at1,_,_,rfl,by split <;> omega,by omega,rfl,?_⟩;have e:kL (if y.num<0 then -y.num else y.num) (y.den:Int)=1:=by
  rw[cU]
  have:=y.reduced
  unfold rH at this;unfold kL;simpa using this
 rw[e];exact q H1 s1
theorem S2(n:Nat):(jo n true).all id=true:=by simp
inductive Vi(vs:List V)(H:Hp)(Q:VK):Prop
 | mk (p:Addr) (qs:List Rat) (m:Int) (h_0:vs=[.ref p,.int m]) (h_1:A4 AS H p qs) (h_2:m=qs.length) (h_3:qs.length<=1000) (h_4:∀H',AN H H'->Q (.bl true) H'):Vi vs H Q
def Pk:Sp:=λvs H Q _=>Vi vs H Q
theorem iV:Ay ["_law_found","_law_many"] ["_law_found","_law_many"] (Ao s_law_fractions_are):=A7
theorem eh (F : Ar K "_law_fractions_are" "_law_fractions_are" s_law_fractions_are f fd) (G : Aj P w K mg base 3 "_law_is_fraction" ["_law_found"] PF) (ms : mg "isinstance" = none) (mt : mg "tuple" = none)
    (ml : mg "len" = none) (ma : mg "all" = none) : An P w K mg base Av 4 f fd ["_law_found", "_law_many"] Pk := by
  refine F.BA iV λcdv A outer s H vs Q E hr h => ?_
  obtain⟨p, qs, m, rfl, ⟨ts, hp, hT⟩, rfl, hn, q⟩ := h;have lt : ts.length = qs.length := hT.1;refine⟨_, AO (Bn (PW.pt (HY (IQ (GI (A3 (JP (c := .ty "tuple") (cv := .type "tuple") λ_ z => z) (by rfl) ms JF (AA (pv 0) (AA (Jd (v := .ty "tuple") (by rfl) mt CG rfl) AB)))))
        (Jk (BQ Eo (A3 (Be (K := K)) (by rfl) ml BN (AA (pv 0) AB)) (pv 1) (BJ _))))) (AV (Aq Hi)) CA)
    (AV (Aq (A3 (NW rfl) (by rfl) ma Of (AA (C1 (Nc := ["_law_one"]) (cap := []) (g := BR 0) (te := DT PF [] E0 (BO (Ap 0) CF)) rfl (Ib (K := K) (pv 0))
      (CB rfl rfl (by decide +kernel) (by decide +kernel) (jr _) rfl (jr _)) (λ_ _ _ _ _ => Af (i := 0) PR rfl (jn rfl)) (λ_ _ _ _ _ => AZ G hr (AA (pv 0) AB))) AB)))), ?_⟩
  refine⟨_, rfl, _, _, _, rfl, DQ.AG hp, KW K _, _, rfl, C9 ?_⟩;refine⟨_, rfl, p, _, rfl, .inr (AK.of hp), _, rfl, rfl, _, rfl, ?_⟩;refine Ep (by rw[ja, lt]) ?_;refine⟨_, rfl, p, rfl, ⟨_, AK.of hp⟩, λacc hacc => ?_⟩;refine CQ (GB hp) (by rw[ja]; omega) hacc (λi ys σ _ => ys = (jo i true).map V.bl /\ ∃u, σ = [u]) ⟨rfl, none, rfl⟩ ?_ ?_
  · rintro i ys σ H2 x H3 hi sm hacc2 ⟨hys, u, rfl⟩ ⟨rfl, hx⟩ C hC2;obtain⟨t, y, rfl, _, _, ht⟩ := hT.ref hx;refine⟨_, rfl, t, y, rfl, sm _ _ ht, λH4 s4 => ?_⟩;refine hC2 _ _ _ s4 ⟨?_, _, rfl⟩;rw[hys, nX, jH]; rfl
  rintro ys σ H2 s2 g2 _ ⟨hys, _⟩;refine⟨acc, _, rfl, AR.of (by rw[g2, hys]), ?_⟩;rw[S2];exact q _ s2
inductive Tg(vs:List V)(H:Hp)(Q:VK):Prop
 | mk (p:Addr) (W U:Rat) (rows:List (List Rat)) (m:Int) (h_0:vs=[.ref p,.int m]) (h_1:IK H p W U rows) (h_2:(∀r∈rows,r.length=4)) (h_3:m=rows.length) (h_4:rows.length<=1000) (h_5:∀H',AN H H'->Q (.bl true) H'):Tg vs H Q
def Vm:Sp:=λvs H Q _=>Tg vs H Q
theorem fX:Ay ["_law_found","_law_many"] ["_law_found","_law_many"] (Ao s_law_is_floor):=A7
theorem cf (F : Ar K "_law_is_floor" "_law_is_floor" s_law_is_floor f fd) (G : Aj P w K mg base 4 "_law_fractions_are" ["_law_found", "_law_many"] Pk) (ms : mg "isinstance" = none) (mt : mg "tuple" = none)
    (ml : mg "len" = none) (ma : mg "all" = none) : An P w K mg base Av 5 f fd ["_law_found", "_law_many"] Vm := by
  refine F.BA fX λcdv A outer s H vs Q E hr h => ?_
  obtain⟨a, W, U, rows, m, rfl, ⟨p, q0, r, ha, fW, fU, fR⟩, n4, rfl, n1000, q⟩ := h;obtain⟨cs, hr', hC⟩ := id fR;have lc : cs.length = rows.length := hC.1;refine⟨_, AO (Bn (PW.pt (HY (IQ (GI (A3 (JP (c := .ty "tuple") (cv := .type "tuple") λ_ z => z) (by rfl) ms JF (AA (pv 0) (AA (Jd (v := .ty "tuple") (by rfl) mt CG rfl) AB)))))
        (HY (BQ Eo (A3 (Be (K := K)) (by rfl) ml BN (AA (pv 0) AB)) AE (BJ _))
        (Jk (IQ (GI (AZ G hr (AA (EC (i5 (K := K)) (pv 0) EO (D0 AE)) (AA AE AB))))))))) (AV (Aq Hi)) CA)
    (AO (Bn (PW.pt (HY (IQ (GI (A3 (JP (c := .ty "tuple") (cv := .type "tuple") λ_ z => z) (by rfl) ms JF (AA (pT K (pv 0) AE) (AA (Jd (v := .ty "tuple") (by rfl) mt CG rfl) AB)))))
        (Jk (BQ Eo (A3 (Be (K := K)) (by rfl) ml BN (AA (pT K (pv 0) AE) AB)) (pv 1) (BJ _))))) (AV (Aq Hi)) CA)
    (AV (Aq (A3 (NW rfl) (by rfl) ma Of (AA (C1 (Nc := ["_law_one"]) (cap := []) (g := BR 0) (te := DT Pk [] E0 (BO (Ap 0) (BO (tC (.int 4)) CF))) rfl (Ib (K := K) (pT K (pv 0) AE))
      (CB rfl rfl (by decide +kernel) (by decide +kernel) (jr _) rfl (jr _)) (λ_ _ _ _ _ => Af (i := 0) PR rfl (jn rfl)) (λ_ _ _ _ _ => AZ G hr (AA (pv 0) (AA AE AB)))) AB))))), ?_⟩
  refine⟨_, rfl, _, _, _, rfl, DQ.AG ha, KW K _, _, rfl, C9 ?_⟩;refine⟨_, rfl, a, _, rfl, .inr (AK.of ha), rfl, _, rfl, Ep rfl ?_⟩;refine⟨_, rfl, 2, rfl, a, _, rfl, AK.of ha, λz => ?_, λp1 hp1 => ?_⟩
  · have := z.2;rw[dm (by show 2 <= 3; decide)] at this;cases this
  rw[show C8 [V.ref p, .ref q0, .ref r] none (some 2) = [p, q0].map V.ref by rw[show(some (2 : Int)) = some ((2 : Nat) : Int) from rfl, Kc _ (by show 2 <= 3; decide)]; rfl];obtain⟨H1, zg, s1, e1⟩ := nw hp1 (.AG ([p, q0].map V.ref));rw[zg];have a1 : At AS H1 [p, q0] [W, U] := (At.nil.snoc (R := AS) (b := p) (x := W) (s1 _ _ fW)).snoc (b := q0) (x := U) (s1 _ _ fU);refine⟨p1, [W, U], 2, rfl, ⟨_, e1, a1⟩, rfl, by show 2 <= 1000; decide, λH2 s2 => ⟨_, rfl, C9 ?_⟩⟩;have s12 := s1.trans s2;have ha2 := s12 _ _ ha;have hr2 := s12 _ _ hr';refine⟨_, rfl, a, _, _, _, rfl, rfl, AK.of ha2, Fu _ _ _, _, _, _, rfl, DQ.AG hr2, KW K _, _, rfl, C9 ?_⟩;refine⟨_, rfl, a, _, _, _, rfl, rfl, AK.of ha2, Fu _ _ _, r, _, rfl, .inr (AK.of hr2), _, rfl, rfl, _, rfl, Ep (by rw[ja, lc]) ?_⟩;refine⟨_, rfl, a, _, _, _, rfl, rfl, AK.of ha2, Fu _ _ _, r, rfl, ⟨_, AK.of hr2⟩, λacc hacc => ?_⟩;refine CQ (GB hr2) (by rw[ja]; omega) hacc (λi ys σ _ => ys = (jo i true).map V.bl /\ ∃u, σ = [u]) ⟨rfl, none, rfl⟩ ?_ ?_
  · rintro i ys σ H3 x H4 hi sm hacc2 ⟨hys, u, rfl⟩ ⟨rfl, hx⟩ C hC2;obtain⟨t, y, rfl, _, hy, ht⟩ := hC.ref hx;have ny := n4 y (jd hy);refine⟨_, rfl, t, y, 4, rfl, GR (s12.trans sm) ht, by rw[ny]; rfl, by omega, λH5 s5 => ?_⟩;refine hC2 _ _ _ s5 ⟨?_, _, rfl⟩;rw[hys, nX, jH]; rfl
  rintro ys σ H3 s3 g3 _ ⟨hys, _⟩;refine⟨acc, _, rfl, AR.of (by rw[g3, hys]), ?_⟩;rw[S2];exact q _ (s12.trans s3)
end
def KC(q:Rat):mB:=.tuple [.int q.num,.int (q.den:Int)]
def WQ(r:List Rat):mB:=.tuple (r.map KC)
def Ux(W U:Rat)(rows:List (List Rat)):mB:=.tuple [KC W,KC U,.tuple (rows.map WQ)]
theorem Ic{H:Hp}{p:Addr}{q:Rat}(h:AS H p q):EA H (.ref p) (KC q):=by
 refine .AG h rfl λi x d e1 e2=>?_
 match i,e1,e2 with
 | 0,e1,e2=>cases e1; cases e2; exact .int _
 | 1,e1,e2=>cases e1; cases e2; exact .int _
 | n+2,e1,e2=>simp at e1
theorem Vg{α:Type}{R:Hp->Addr->α->Prop}{D:α->mB}(hR:∀{H p x},R H p x->EA H (.ref p) (D x)){H:Hp}{p:Addr}{xs:List α}(h:A4 R H p xs):EA H (.ref p) (.tuple (xs.map D)):=by
 obtain⟨cs,hp,hC⟩:=h;refine .AG hp (by rw[ja,ja,hC.1]) λi x d e1 e2=>?_
 rw[ji] at e1 e2;obtain⟨c,ec,rfl⟩:=lV.mp e1;obtain⟨y,ey,rfl⟩:=lV.mp e2;exact hR (hC.2 i c y ec ey)
theorem Lh{H:Hp}{a:Addr}{W U:Rat}{rows:List (List Rat)}(h:IK H a W U rows):EA H (.ref a) (Ux W U rows):=by
 obtain⟨p,q,r,ha,fW,fU,fR⟩:=h;refine .AG ha rfl λi x d e1 e2=>?_
 match i,e1,e2 with
 | 0,e1,e2=>cases e1; cases e2; exact Ic fW
 | 1,e1,e2=>cases e1; cases e2; exact Ic fU
 | 2,e1,e2=>cases e1; cases e2; exact Vg (R:=A4 AS) (D:=WQ) (λh=>Vg (R:=AS) (D:=KC) (λh=>Ic h) h) fR
 | n+3,e1,e2=>simp at e1
def Hm(c a b:Nat):List Nat:=[a,b]++(ju c).filter λl=>decide (l≠a/\l≠b)
theorem ZU{c a b:Nat}(ha:a<c)(hb:b<c)(ab:a≠b):(Hm c a b).Perm (ju c):=by
 refine(pC ?_ lK).mpr λx=>?_
 ·unfold Hm;rw[lj];refine⟨by simp[ab],lK.filter _,λx hx y hy e=>?_⟩;subst e
  have:=of_decide_eq_true (oK.mp hy).2
  simp only[jK,ke,lM] at hx;rcases hx with rfl | rfl
  ·exact this.1 rfl
  ·exact this.2 rfl
 ·unfold Hm;rw[jI,oK,jZ];simp only[jK,ke,lM];constructor
  ·rintro((rfl | rfl) | ⟨h,_⟩)
   ·exact ha
   ·exact hb
   ·exact h
  ·intro h;by_cases e1:x=a
   ·exact .inl (.inl e1)
   ·by_cases e2:x=b
    ·exact .inl (.inr e2)
    ·exact .inr ⟨h,mQ ⟨e1,e2⟩⟩
def DR(os:List Nat)(l:Nat):Nat:=os.idxOf l
theorem ME{os:List Nat}{l:Nat}(h:l∈os):os[DR os l]?=some l:=by
 have hl:os.idxOf l<os.length:=l5.mpr h;unfold DR;rw[jb hl,rQ hl]
theorem IS{os:List Nat}(nd:os.Nodup){p l:Nat}(h:os[p]?=some l):DR os l=p:=by
 have hm:=jd h;exact(so (l5.mpr hm) nd).mp ((ME hm).trans h.symm)
def E3(L:List (List Int))(os:List Nat)(k:Nat)(r:AQ):AQ:=(DR os (BD L (2*(k:Int))),DR os (BD L (2*(k:Int)+1)),r.2.2⁻¹)
def CC(L:List (List Int))(os:List Nat)(rs:List AQ):List AQ:=rs.mapIdx λk r=>E3 L os k r
def DU(m:Nat)(L:List (List Int))(os:List Nat):List (List Int):=os.map λl=>(L.getD l []).map (Bd m)
theorem Rj{q:Rat}(h:EX q):EX q⁻¹/\(q⁻¹).num=q.den/\((q⁻¹).den:Int)=q.num:=by
 obtain⟨h1,h2,h3⟩:=h;have e1:(q⁻¹).num=q.den:=by rw[Rat.num_inv,Int.sign_eq_one_of_pos h1,vY]
 have e2:((q⁻¹).den:Int)=q.num:=by rw[Rat.den_inv,jm (by omega)]; omega
 have dn:=q.den_nz;exact⟨⟨by omega,by omega,by omega⟩,e1,e2⟩
theorem Jh{L:List (List Int)}{os:List Nat}{rs:List AQ}{k:Nat}{r:AQ}(h:rs[k]?=some r):(CC L os rs)[k]?=some (E3 L os k r):=by
 unfold CC;rw[lS,h];rfl
theorem Kk{L:List (List Int)}{os:List Nat}{rs:List AQ}{k:Nat}{r':AQ}(h:(CC L os rs)[k]?=some r'):∃r,rs[k]?=some r/\r'=E3 L os k r:=by
 unfold CC at h;rw[lS] at h;obtain⟨r,h1,h2⟩:=lV.mp h;exact⟨r,h1,h2.symm⟩
theorem ZE{us:List (List Int)}{m:Nat}(T:B4 (2*m+2) us)(D:Fy (AJ us) m):(Al (AJ us) (2*m+2)).length<=m+1:=by
 let N:Int->Int:=λx=>((BD (Al (AJ us) (2*m+2)) x:Nat):Int)
 have key:∀k,k<(Al (AJ us) (2*m+2)).length->∃S R:List Int,S.Nodup/\R.Nodup/\S.length=k+1/\R.length=k/\N (2*(m:Int)+1)∈S/\∀j∈R,AF m j/\N (2*j)∈S/\N (2*j+1)∈S:=λk=>by
  induction k with
  | zero=>exact λ_=>⟨[N (2*(m:Int)+1)],[],by simp,.nil,rfl,rfl,by simp,λ_ h=>by cases h⟩
  | succ k ih =>
   intro hk;obtain⟨S,R,s1,r1,s2,r2,h0,hR⟩:=ih (by omega);have ex:∃j:Nat,j<m/\¬(N (2*(j:Int))∈S↔N (2*(j:Int)+1)∈S):=mG λz=>by
    have all:=D.Cp (λx=>N x∈S) (λx hx=>by show N x∈S↔N (AJ us x)∈S; rw[show N (AJ us x)=N x from congrArg (λy:Nat=>(y:Int)) (NU T hx)]) (λj hj=>mG λy=>z ⟨j,hj,y⟩) h0
    have:=Kj ((ju (Al (AJ us) (2*m+2)).length).map λj:Nat=>(j:Int)) S (by
     rw[nU,lP];exact nj (λh e=>h (by omega)) lK) (λx hx=>by
     obtain⟨j,hj,rfl⟩:=js.mp hx;obtain⟨y,hy,ey⟩:=Lf T (jZ.mp hj);rw[<-ey]; exact all y hy)
    rw[ja,jV] at this;omega
   obtain⟨j,hj,z⟩:=ex;have nR:(j:Int)∉R:=λh=>z ⟨λ_=>(hR _ h).2.2,λ_=>(hR _ h).2.1⟩
   have go:∀y,y∉S->(∀x,x=N (2*(j:Int))\/x=N (2*(j:Int)+1)->x∈y :: S)->∃S R:List Int,S.Nodup/\R.Nodup/\S.length=k+1+1/\R.length=k+1/\N (2*(m:Int)+1)∈S/\∀j∈R,AF m j/\N (2*j)∈S/\N (2*j+1)∈S:=λy hy h=>by
    refine⟨y :: S,(j:Int) :: R,kJ.mpr ⟨hy,s1⟩,kJ.mpr ⟨nR,r1⟩,by rw[ka,s2],by rw[ka,r2],jX _ h0,λi hi=>?_⟩;rcases jK.mp hi with rfl | hi
    ·exact⟨⟨by omega,by omega⟩,h _ (.inl rfl),h _ (.inr rfl)⟩
    ·obtain⟨a,b,c⟩:=hR i hi;exact⟨a,jX _ b,jX _ c⟩
   by_cases a:N (2*(j:Int))∈S
   ·refine go (N (2*(j:Int)+1)) (λb=>z ⟨λ_=>b,λ_=>a⟩) λx hx=>?_
    rcases hx with rfl | rfl
    ·exact jX _ a
    ·exact kO ..
   ·refine go (N (2*(j:Int))) a λx hx=>?_
    rcases hx with rfl | rfl
    ·exact kO ..
    ·exact jX _ (mG λb=>z ⟨λh=>absurd h a,λh=>absurd h b⟩)
 rcases nI (Al (AJ us) (2*m+2)).length with z | z
 ·omega
 ·obtain⟨S,R,_,r1,_,r2,_,hR⟩:=key _ (Nat.sub_lt z Nat.one_pos)
  have:=GH m R r1 λx hx=>(hR x hx).1
  omega
theorem Ry{n:Nat}{rs:List AQ}{us:List (List Int)}(k:NetV n rs us)(D:Fy (AJ us) rs.length){L:List (List Int)}(hL:L=Al (AJ us) (2*rs.length+2))(two:BD L (2*(rs.length:Int)+1)≠BD L (2*(rs.length:Int))){os:List Nat}(ho:os=Hm L.length (BD L (2*(rs.length:Int)+1)) (BD L (2*(rs.length:Int)))):
  NetV L.length (CC L os rs) (DU rs.length L os)/\os.Perm (ju L.length)/\∀y,AF (2*rs.length+2) y->AJ (DU rs.length L os) (AM (Bd rs.length (pr us y)))=AM (Bd rs.length y):=by
 have T:=k.tn;have P:=T.perm;have m1:=k.m1;have m14:=k.m14;have n2:=k.n2;have nd:L.flatten.Nodup:=by rw[hL]; exact HL P
 have mem:∀{x:Int},x∈L.flatten↔AF (2*rs.length+2) x:=λ{x}=>by rw[hL]; exact Ek P
 have i0:AF (2*rs.length+2) (2*(rs.length:Int)):=⟨by omega,by push_cast; omega⟩;have i1:AF (2*rs.length+2) (2*(rs.length:Int)+1):=⟨by omega,by push_cast; omega⟩;have nl:∀{x:Int},AF (2*rs.length+2) x->BD L x<L.length:=λhx=>by
  obtain⟨r,h1,_⟩:=II (mem.mpr hx);exact(jc.mp h1).1
 have po:os.Perm (ju L.length):=by rw[ho]; exact ZU (nl i1) (nl i0) two
 have ndo:os.Nodup:=po.nodup_iff.mpr lK;have lo:os.length=L.length:=by have:=po.length_eq; rwa [jV] at this
 have inO:∀{x:Int},AF (2*rs.length+2) x->BD L x∈os:=λhx=>po.mem_iff.mpr (jZ.mpr (nl hx))
 have o0:os[0]?=some (BD L (2*(rs.length:Int)+1)):=by rw[ho]; rfl
 have o1:os[1]?=some (BD L (2*(rs.length:Int))):=by rw[ho]; rfl
 have pL:∀{x:Int},AF (2*rs.length+2) x->DR os (BD L x)<L.length:=λhx=>by
  have:=(jc.mp (ME (inO hx))).1
  omega
 have lR:(CC L os rs).length=rs.length:=by unfold CC; rw[l9]
 have pw:(DU rs.length L os).Perm (L.map λr=>r.map (Bd rs.length)):=by
  have e:(ju L.length).map (λl=>(L.getD l []).map (Bd rs.length))=L.map λr=>r.map (Bd rs.length):=by
   have:=Q3 L
   conv=>rhs; rw[<-this]
   rw[kr];rfl
  rw[<-e];exact po.map _
 have prp:∀{x:Int},x∈(L.map λr=>r.map (Bd rs.length)).flatten->pr (DU rs.length L os) x=pr (L.map λr=>r.map (Bd rs.length)) x:=λ{x} hx=>by
  refine S8 pw.symm ?_ hx;rw[Gw];exact MO nd λx _ y _ e=>by rw[<-Jb rs.length x,e,Jb]
 have hdc:=YW T (m:=rs.length) rfl (W:=DU rs.length L os) (by rw[<-hL]; exact pw) (by rw[<-hL]; exact prp);obtain⟨TW,CW⟩:=hdc;have tAt:∀{p:Nat} {t:List Int},(DU rs.length L os)[p]?=some t->∃l r,os[p]?=some l/\L[l]?=some r/\t=r.map (Bd rs.length):=λ{p t} h=>by
  unfold DU at h;rw[ji] at h;obtain⟨l,h1,h2⟩:=lV.mp h;have hl:l<L.length:=jZ.mp (po.mem_iff.mp (jd h1));refine⟨l,L[l],h1,jb hl,?_⟩;rw[<-h2,je,jb hl];rfl
 have rne:∀{l:Nat} {r:List Int},L[l]?=some r->∃x,x∈r:=λ{l r} h=>by
  rw[hL] at h;obtain⟨j1,j2,_⟩:=JS P (jd h);exact⟨r.headD 0,by rw[j2]; have:=IB P j1; rw[<-j2] at this ⊢; exact this⟩
 have ropeO:∀{j:Nat},j<rs.length->∀x:Int,(x=2*(j:Int)\/x=2*(j:Int)+1)->AF (2*rs.length+2) x:=λ{j} hj x hx=>by
  rcases hx with rfl | rfl
  ·exact⟨by omega,by push_cast; omega⟩
  ·exact⟨by omega,by push_cast; omega⟩
 refine⟨⟨by rw[lR]; exact m1,by rw[lR]; exact m14,?_,by have:=ZE T D; rw[<-hL] at this; omega,by unfold DU; rw[ja,lo],by rw[lR]; exact TW,λt ht=>?_,λr' hr'=>?_,λp t hp x hx=>?_,λS S0 hS p hp=>?_⟩,po,CW⟩
 ·have a:=nl i0;have b:=nl i1;omega
 ·obtain⟨p,hp⟩:=lD.mp ht;obtain⟨l,r,_,h2,rfl⟩:=tAt hp;obtain⟨x,hx⟩:=rne h2;intro e;rw[rh] at e;rw[e] at hx;cases hx
 ·obtain⟨j,hj⟩:=lD.mp hr';obtain⟨r,h1,rfl⟩:=Kk hj;have hj':=(jc.mp h1).1;exact⟨(Rj (k.ease r (jd h1)).1).1,pL (ropeO hj' _ (.inl rfl)),pL (ropeO hj' _ (.inr rfl))⟩
 ·obtain⟨l,r,h1,h2,rfl⟩:=tAt hp;obtain⟨y,hy,rfl⟩:=js.mp hx;have yR:AF (2*rs.length+2) y:=mem.mp (jN.mpr ⟨r,jd h2,hy⟩);have ny:BD L y=l:=L7 nd h2 hy;have pl:DR os (BD L y)=p:=by rw[ny]; exact IS ndo h1
  have h0l:=ES (CC L os rs);rw[lR] at h0l;unfold Bd;by_cases e:y / 2=(rs.length:Int)
  ·rw[jq e];have cs:y=2*(rs.length:Int)\/y=2*(rs.length:Int)+1:=by omega
   unfold hm;rcases cs with rfl | rfl
   ·have:p=1:=by rw[<-pl]; exact IS ndo o1
    rw[show AM (2*(rs.length:Int))=2*(rs.length:Int)+1 by unfold AM; rw[jq (by omega)],jy (by omega),h0l,show(2*(rs.length:Int)+1).toNat-2*rs.length=1 by omega,this];rfl
   ·have:p=0:=by rw[<-pl]; exact IS ndo o0
    rw[show AM (2*(rs.length:Int)+1)=2*(rs.length:Int) by unfold AM; rw[jm (by omega)]; omega,jy (by omega),h0l,show(2*(rs.length:Int)).toNat-2*rs.length=0 by omega,this];rfl
  ·rw[jm e];have yl:y.toNat / 2<rs.length:=by obtain⟨a,b⟩:=yR; push_cast at b; omega
   have hr:=Jh (L:=L) (os:=os) (jb yl);obtain⟨g1,g2⟩:=HN hr;have inn:y.toNat<(CJ (CC L os rs)).length:=by omega
   unfold hm;rw[jM inn,<-pl];obtain⟨y0,_⟩:=yR;rcases r8 y.toNat with z | z
   ·rw[show 2*(y.toNat / 2)=y.toNat by omega] at g1;rw[g1];show some (DR os (BD L (2*((y.toNat / 2:Nat):Int))))=_;rw[show 2*((y.toNat / 2:Nat):Int)=y by omega]
   ·rw[show 2*(y.toNat / 2)+1=y.toNat by omega] at g2;rw[g2];show some (DR os (BD L (2*((y.toNat / 2:Nat):Int)+1)))=_;rw[show 2*((y.toNat / 2:Nat):Int)+1=y by omega]
 ·have all:=D.Cp (λx=>S (DR os (BD L x))) (λx hx=>by
   have:=NU T hx
   rw[<-hL] at this;show S (DR os (BD L x))↔S (DR os (BD L (AJ us x)));rw[this]) (λj hj=>hS _ (jd (Jh (jb hj)))) (by
   show S (DR os (BD L (2*(rs.length:Int)+1)));rw[IS ndo o0];exact S0)
  have hpo:os[p]?=some os[p]:=jb (by omega);have hl:os[p]<L.length:=jZ.mp (po.mem_iff.mp (jd hpo));have hr:=jb hl;obtain⟨x,hx⟩:=rne hr
  have:=all x (mem.mp (jN.mpr ⟨_,jd hr,hx⟩))
  have e:DR os (BD L x)=p:=by rw[L7 nd hr hx]; exact IS ndo hpo
  change S (DR os (BD L x)) at this;rw[e] at this;exact this
def Cf(m:Nat)(x:Int):Int:=AM (Bd m x)
theorem OH(m:Nat)(x:Int):Cf m (Cf m x)=x:=by unfold Cf; rw[Sl,Jb,B9]
theorem Kt{m:Nat}{x:Int}(h:AF (2*m+2) x):AF (2*m+2) (Cf m x):=CM (by omega) (Ol h)
theorem OG(m:Nat):Cf m (2*(m:Int))=2*(m:Int)/\Cf m (2*(m:Int)+1)=2*(m:Int)+1:=by
 unfold Cf Bd; rw[jq (by omega),jq (by omega),B9,B9]; exact⟨rfl,rfl⟩
theorem Ll{m j:Nat}(h:j<m):Cf m (2*(j:Int))=2*(j:Int)+1/\Cf m (2*(j:Int)+1)=2*(j:Int):=by
 unfold Cf Bd; rw[jm (by omega),jm (by omega)]; exact⟨Gf _,Iq _⟩
theorem NetV.Wy{n:Nat}{rs:List AQ}{ts:List (List Int)}(k:NetV n rs ts):NetV n rs (ts.map Cd)/\∀x,AF (2*rs.length+2) x->AJ (ts.map Cd) x=AJ ts x:=by
 obtain⟨l1,rr⟩:=Zl ts;obtain⟨nd,pe⟩:=SJ k.tn.nd l1 rr;have pf:=Lc l1 rr;refine⟨⟨k.m1,k.m14,k.n2,k.n15,by rw[ja]; exact k.len,⟨nd,λx=>by rw[<-pf.mem_iff]; exact k.tn.mem x,k.tn.Es⟩,λt ht=>?_,k.ease,λp t hp x hx=>?_,k.Cp⟩,λx hx=>?_⟩
 ·obtain⟨t0,h0,rfl⟩:=js.mp ht;intro e
  have:=(OD t0).perm.length_eq
  rw[e] at this;exact k.ne t0 h0 (mf.mp this)
 ·rw[ji] at hp;obtain⟨t0,h0,rfl⟩:=lV.mp hp;exact k.Cb p t0 h0 x ((OD t0).perm.mem_iff.mpr hx)
 ·rw[Bb,Bb];exact pe _ ((k.tn.mem _).mpr (CM k.tn.Es hx))
theorem YE{us:List (List Int)}(nd:us.flatten.Nodup){t:List Int}(ht:t∈us){S:Int->Prop}(h:∀y∈t,(S (pr us y)↔S y)):∀x∈t,∀y∈t,(S x↔S y):=by
 have go:∀(i:Nat) (x:Int),t[i]?=some x->(S x↔S (t.headD 0)):=λi=>by
  induction i with
  | zero=>intro x hx; rw[List.headD_eq_head?_getD,List.head?_eq_getElem?,hx]; rfl
  | succ i ih =>
   intro x hx;have hi:=(jc.mp hx).1;have e:=DS nd (bI ht hi);unfold EF at e;rw[jm (by omega),je,hx,pS] at e;have hy:t[i]?=some t[i]:=jb (by omega);have e2:pr us x=t[i]:=by rw[je,hy] at e; exact e
   rw[<-h x (jd hx),e2];exact ih _ hy
 intro x hx y hy;obtain⟨i,hi⟩:=lD.mp hx;obtain⟨j,hj⟩:=lD.mp hy;rw[go i x hi,go j y hj]
section
variable {n:Nat} {rs:List AQ} {us:List (List Int)} {φ:Int->Int}
theorem T4{k:Nat}{r:AQ}(h:rs[k]?=some r):(hm rs)[(2*(k:Int)).toNat]?=some r.1/\(hm rs)[(2*(k:Int)+1).toNat]?=some r.2.1:=by
 rw[show(2*(k:Int)).toNat=2*k by omega,show(2*(k:Int)+1).toNat=2*k+1 by omega];exact N4 h
theorem Sn(rs:List AQ):(hm rs)[(2*(rs.length:Int)).toNat]?=some 0/\(hm rs)[(2*(rs.length:Int)+1).toNat]?=some 1:=by
 rw[show(2*(rs.length:Int)).toNat=2*rs.length by omega,show(2*(rs.length:Int)+1).toNat=2*rs.length+1 by omega];exact U5 rs
theorem NetV.at(k:NetV n rs us){x:Int}(hx:AF (2*rs.length+2) x):∃p t,us[p]?=some t/\x∈t/\(hm rs)[x.toNat]?=some p/\p<n:=by
 obtain⟨t,ht,h⟩:=jN.mp ((k.tn.mem x).mpr hx);obtain⟨p,hp⟩:=lD.mp ht;exact⟨p,t,hp,h,k.Cb p t hp x h,by rw[<-k.len]; exact(jc.mp hp).1⟩
theorem NetV.back(k:NetV n rs us){x:Int}(hx:AF (2*rs.length+2) x){p:Nat}{t:List Int}(ht:us[p]?=some t)(h:(hm rs)[x.toNat]?=some p):x∈t:=by
 obtain⟨p',t',h1,h2,h3,_⟩:=k.at hx;rw[h] at h3;cases h3;rw[ht] at h1;cases h1;exact h2
theorem NetV.stp(k:NetV n rs us)(st:∀y,AF (2*rs.length+2) y->φ (Cf rs.length (pr us y))=Cf rs.length y){x:Int}(hx:AF (2*rs.length+2) x):(hm rs)[(Cf rs.length (φ x)).toNat]?=(hm rs)[(Cf rs.length x).toNat]?:=by
 have T:=k.tn;obtain⟨q,hq,e⟩:=js.mp ((JK us).mem_iff.mpr ((T.mem _).mpr (Kt hx)));have e2:=DS T.nd (x:=q.1) (y:=q.2) hq;have hq1:AF (2*rs.length+2) q.1:=(T.mem _).mp (by rw[<-E6]; exact js.mpr ⟨q,hq,rfl⟩)
 have:=st q.1 hq1
 rw[e2,e,OH] at this;rw[this,OH,<-e];obtain⟨r,hr,i,hi,a1,a2⟩:=UZ hq;obtain⟨p,hp⟩:=lD.mp hr;rw[k.Cb p r hp _ (jd a1),k.Cb p r hp _ (jd a2)]
theorem NetV.du(k:NetV n rs us)(st:∀y,AF (2*rs.length+2) y->φ (Cf rs.length (pr us y))=Cf rs.length y):Fy φ rs.length:=by
 have T:=k.tn;have n2:=k.n2;obtain⟨o0,o1⟩:=Sn rs;have pin:∀y,AF (2*rs.length+2) y->AF (2*rs.length+2) (pr us y):=λy hy=>by
  have:=T.perm.into _ (CM T.Es hy)
  rwa [Bb,B9] at this
 refine⟨λS hS hr h0 x hx=>?_⟩
 let A:Nat->Prop:=λp=>∃x,AF (2*rs.length+2) x/\(hm rs)[x.toNat]?=some p/\S (Cf rs.length x)
 have Ai:∀{p:Nat} {x:Int},AF (2*rs.length+2) x->(hm rs)[x.toNat]?=some p->(A p↔S (Cf rs.length x)):=λ{p x} hx e=>by
  obtain⟨p',t,h1,h2,h3,_⟩:=k.at hx;rw[e] at h3;cases h3;have sm:=YE T.nd (jd h1) (S:=λy=>S (Cf rs.length y)) (λy hy=>by
   have yi:=(T.mem y).mp (jN.mpr ⟨t,jd h1,hy⟩)
   have:=hS _ (Kt (pin y yi))
   rwa [st y yi] at this)
  constructor
  ·rintro⟨y,g1,g2,g3⟩;exact(sm y (k.back g1 h1 g2) x h2).mp g3
  ·exact λh=>⟨x,hx,e,h⟩
 have ropes:∀r∈rs,(A r.1↔A r.2.1):=λr hr'=>by
  obtain⟨j,hj⟩:=lD.mp hr';have jl:=(jc.mp hj).1;obtain⟨g1,g2⟩:=T4 hj;rw[Ai ⟨by omega,by push_cast; omega⟩ g1,Ai ⟨by omega,by push_cast; omega⟩ g2,(Ll jl).1,(Ll jl).2];exact(hr j jl).symm
 have A1:A 1:=(Ai ⟨by omega,by push_cast; omega⟩ o1).mpr (by rw[(OG _).2]; exact h0);have A0:A 0:=mG λz=>k.Cp (λp=>¬A p) z (λr hr'=>not_congr (ropes r hr')) 1 (by omega) A1
 obtain⟨p,t,h1,h2,h3,h4⟩:=k.at (Kt hx)
 have:=(Ai (Kt hx) h3).mp (k.Cp A A0 ropes p h4)
 rwa [OH] at this
variable {ts:List (List Int)} {X Y:Nat->Rat} {p:Int->Rat} {F:Rat}
theorem Zh{m α β B:Nat}(k:CD n m α β rs)(h:Dr n B rs X):0<A6 X rs 0:=by
 have e:=Ng k.two X X;rw[Lq (i:=0) (by omega) (λl hl g=>?_),h.x0,v7] at e
 ·have nn:∀r∈rs,0<=As X r*(X r.1-X r.2.1):=λr hr=>by
   have b:=mE (Rat.le_of_lt (k.pos r hr)) (VM (X r.1-X r.2.1));unfold As; grind
  rw[e];refine Rat.lt_of_le_of_ne (UH nn) λz=>?_
  have e2:=Sh nn z.symm;have c:X 1=1:=k.Cp (λp=>X p=1) h.x0 (λr hr=>by
   have e3:=e2 r hr;unfold As at e3;have pe:r.2.2≠0:=λz=>by have:=k.pos r hr; rw[z] at this; exact absurd this pD
   have e4:r.2.2*((X r.1-X r.2.1)*(X r.1-X r.2.1))=0:=by grind
   have e7:X r.1=X r.2.1:=by
    have e5:=(mK.mp e4).resolve_left pe;rcases mK.mp e5 with z | z <;> grind
   rw[e7]) 1 (by omega)
  rw[h.x1] at c;exact absurd c (by decide)
 ·rcases j6 l 2 with z | z
  ·obtain rfl:l=1:=by omega
   rw[h.x1,vy]
  ·rw[h.bal l z hl,vx]
theorem Jv.Wq{m:Nat}(h:Jv ts m):Fy (AJ ts) m:=⟨λS h1 h2 h0 x hx=>by
 by_cases z:S (2*(m:Int))
 ·exact h S h1 h2 z x hx
 ·exact absurd h0 (h (λx=>¬S x) (λx hx=>not_congr (h1 x hx)) (λk hk=>not_congr (h2 k hk)) z (2*(m:Int)+1) ⟨by omega,by push_cast; omega⟩)⟩
theorem Se(T:B4 (2*rs.length+2) ts)(h:Er rs ts Y p)(w:0<p (2*(rs.length:Int)+1)):BD (Al (AJ ts) (2*rs.length+2)) (2*(rs.length:Int)+1)≠BD (Al (AJ ts) (2*rs.length+2)) (2*(rs.length:Int)):=λe=>by
 have a:=KU T h.inv (x:=2*(rs.length:Int)+1) ⟨by omega,by push_cast; omega⟩;rw[e,KU T h.inv ⟨by omega,by push_cast; omega⟩,h.o] at a;rw[<-a] at w;exact absurd w pD
theorem Er.of{Y':Nat->Rat}(h:Er rs ts Y p)(e:∀r∈rs,As Y' r=As Y r){us:List (List Int)}(nx:∀x,AF (2*rs.length+2) x->AJ us x=AJ ts x):Er rs us Y' p :=
 ⟨λx hx=>by rw[nx x hx]; exact h.inv x hx,λk r hr=>by rw[e r (jd hr)]; exact h.df k r hr,h.o⟩
def EN(ts:List (List Int))(m:Nat)(p:Int->Rat)(os:List Nat)(q:Nat):Rat:=D6 ts (2*m+2) p ((os.getD q 0:Nat):Int)
def Gm(rs:List AQ)(Y:Nat->Rat)(x:Int):Rat:=Y 0-Y (((hm rs)[(Cf rs.length x).toNat]?).getD 0)
theorem N3:Gm rs Y (2*(rs.length:Int))=0/\Gm rs Y (2*(rs.length:Int)+1)=Y 0-Y 1:=by
 obtain⟨o0,o1⟩:=Sn rs;unfold Gm;rw[(OG _).1,(OG _).2,o0,o1];exact⟨by show Y 0-Y 0=0; grind,rfl⟩
theorem Np{j:Nat}{r:AQ}(h:rs[j]?=some r):Gm rs Y (2*(j:Int))=Y 0-Y r.2.1/\Gm rs Y (2*(j:Int)+1)=Y 0-Y r.1:=by
 have hj:=(jc.mp h).1;obtain⟨g1,g2⟩:=T4 h;unfold Gm;rw[(Ll hj).1,(Ll hj).2,g1,g2];exact⟨rfl,rfl⟩
variable {L:List (List Int)} {os:List Nat}
theorem MC(k:NetV n rs ts)(h:Er rs ts Y p)(hL:L=Al (AJ ts) (2*rs.length+2))(po:os.Perm (ju L.length)){x:Int}(hx:AF (2*rs.length+2) x):EN ts rs.length p os (DR os (BD L x))=p x:=by
 unfold EN;rw[je,ME (po.mem_iff.mpr (jZ.mpr (by rw[hL]; exact N9 k.tn hx))),hL];exact KU k.tn h.inv hx
theorem RR(k:NetV n rs ts)(h:Er rs ts Y p)(hL:L=Al (AJ ts) (2*rs.length+2))(po:os.Perm (ju L.length)){j:Nat}{r:AQ}(hj:rs[j]?=some r):EN ts rs.length p os (E3 L os j r).1=p (2*(j:Int))/\EN ts rs.length p os (E3 L os j r).2.1=p (2*(j:Int)+1)/\As (EN ts rs.length p os) (E3 L os j r)=Y r.1-Y r.2.1:=by
 have jl:=(jc.mp hj).1;have a:EN ts rs.length p os (E3 L os j r).1=p (2*(j:Int)):=MC k h hL po ⟨by omega,by push_cast; omega⟩;have b:EN ts rs.length p os (E3 L os j r).2.1=p (2*(j:Int)+1):=MC k h hL po ⟨by omega,by push_cast; omega⟩;refine⟨a,b,?_⟩;have e0:r.2.2≠0:=λz=>by
  have:=(k.ease r (jd hj)).1.pos
  rw[z] at this;exact absurd this (by decide)
 unfold As;rw[a,b,h.df j r hj];show r.2.2⁻¹*(r.2.2*(Y r.1-Y r.2.1))=_;rw[<-Rat.mul_assoc,vv _ e0,v7]
theorem YK(k:NetV n rs ts)(h:Er rs ts Y p)(hL:L=Al (AJ ts) (2*rs.length+2))(po:os.Perm (ju L.length)){us:List (List Int)}(st:∀y,AF (2*rs.length+2) y->AJ us (Cf rs.length (pr ts y))=Cf rs.length y):Er (CC L os rs) us (EN ts rs.length p os) (Gm rs Y):=by
 have lR:(CC L os rs).length=rs.length:=by unfold CC; rw[l9]
 refine⟨λx hx=>?_,λj r1 hj=>?_,by rw[lR]; exact N3.1⟩
 ·rw[lR] at hx;unfold Gm;rw[k.stp st hx]
 ·obtain⟨r,h1,rfl⟩:=Kk hj;rw[(Np h1).1,(Np h1).2,(RR k h hL po h1).2.2]
  grind
theorem Tj(W a b:Rat):Gk (W-b) (W-a)=W-Gj a b/\Gj (W-b) (W-a)=W-Gk a b:=by
 unfold Gk Gj;by_cases z:b<a
 ·rw[jq z,jq z,jq (by grind),jq (by grind)]; exact⟨rfl,rfl⟩
 ·rw[jm z,jm z,jm (by grind),jm (by grind)]; exact⟨rfl,rfl⟩
def Ie(U:Rat)(r:List Rat):List Rat:=[U-r.getD 3 0,r.getD 0 0,U-r.getD 1 0,r.getD 2 0]
structure iE(n:Nat)(rs:List AQ)(us:List (List Int))(W F:Rat)(bx:List (List Rat)):Prop where
 nk:CD n 14 10 10 rs
 Wr:∀X,Dr n ((8+10*14+10)*n) rs X->A6 X rs 0*W=F/\∃p Z N,Wx n rs us X W p Z N/\p (2*(rs.length:Int)+1)=F/\D4 p (λj=>X j*W) rs=bx
theorem bQ(N:K7 (n+2) rs ts)(sF:Sb 30 30 F)(hX:Dr n ((8+10*14+10)*n) rs X)(hp:Er rs ts (λj=>X j*F) p)(w:0<p (2*(rs.length:Int)+1))(sp:∀x,AF (2*rs.length+2) x->Sf (p x))(hL:L=Al (AJ ts) (2*rs.length+2))(ho:os=Hm L.length (BD L (2*(rs.length:Int)+1)) (BD L (2*(rs.length:Int)))):
  ∃n1,L.length=n1+2/\iE n1 (CC L os rs) ((DU rs.length L os).map Cd) (p (2*(rs.length:Int)+1)) F ((D4 p (λj=>X j*F) rs).map (Ie F)):=by
 have k:=N.toNetV;have two:=Se k.tn hp w;rw[<-hL] at two;obtain⟨k1,po,st⟩:=Ry k N.GL.Wq hL two ho;obtain⟨k2,nx⟩:=k1.Wy;have lR:(CC L os rs).length=rs.length:=by unfold CC; rw[l9]
 rw[lR] at nx;have st':∀y,AF (2*rs.length+2) y->AJ ((DU rs.length L os).map Cd) (Cf rs.length (pr ts y))=Cf rs.length y:=λy hy=>by
  rw[nx _ (Kt (by
   have:=k.tn.perm.into _ (CM k.tn.Es hy)
   rwa [Bb,B9] at this))]
  exact st y hy
 have hp2:=YK k hp hL po st';have D2:=(k.du st').GL;have i0:AF (2*rs.length+2) (2*(rs.length:Int)):=⟨by omega,by push_cast; omega⟩;have i1:AF (2*rs.length+2) (2*(rs.length:Int)+1):=⟨by omega,by push_cast; omega⟩;have ndo:os.Nodup:=po.nodup_iff.mpr lK;have y0:EN ts rs.length p os 0=p (2*(rs.length:Int)+1):=by rw[<-MC k hp hL po i1,IS (p:=0) ndo (by rw[ho]; rfl)]
 have y1:EN ts rs.length p os 1=0:=by rw[<-hp.o,<-MC k hp hL po i0,IS (p:=1) ndo (by rw[ho]; rfl)]
 obtain⟨n1,hn⟩:∃n1,L.length=n1+2:=⟨L.length-2,by have:=k2.n2; omega⟩;rw[hn] at k2;refine⟨n1,hn,k2.k,λX2 hX2=>?_⟩;have w0:p (2*(rs.length:Int)+1)≠0:=λz=>by rw[z] at w; exact absurd w pD
 generalize hW:p (2*(rs.length:Int)+1)=W at *;have eX:=Ln k2.k hX2 (Y:=λq=>EN ts rs.length p os q*W⁻¹) (by show _*_=_; rw[y0,vw _ w0]) (by show _*_=_; rw[y1,vy]) (λi h2 hi=>by rw[Kb,Nl k2 hp2 hi,jm (by omega),jm (by omega),vy]);have eY:∀q,q<n1+2->X2 q*W=EN ts rs.length p os q:=λq hq=>by rw[eX q hq,xu,vv _ w0,Rat.mul_one]
 have ru:∀r1∈CC L os rs,As (λq=>X2 q*W) r1=As (EN ts rs.length p os) r1:=λr1 h1=>by
  obtain⟨_,l1,l2⟩:=k2.ease r1 h1;unfold As;dsimp only;rw[eY _ l1,eY _ l2]
 have at1:∀{j:Nat} {r:AQ},rs[j]?=some r->X2 (E3 L os j r).1*W=p (2*(j:Int))/\X2 (E3 L os j r).2.1*W=p (2*(j:Int)+1)/\As (λq=>X2 q*W) (E3 L os j r)=X r.1*F-X r.2.1*F:=λ{j r} hj=>by
  obtain⟨_,l1,l2⟩:=k2.ease _ (jd (Jh hj));obtain⟨a,b,c⟩:=RR k hp hL po hj;exact⟨by rw[eY _ l1,a],by rw[eY _ l2,b],by rw[ru _ (jd (Jh hj)),c]⟩
 have out:A6 X2 (CC L os rs) 0*W=F:=by
  have:=Nl k2 (hp2.of ru λ_ _=>rfl) (i:=0) (by omega)
  rw[Kb,jq rfl,lR,N3.2,hX.x0,hX.x1] at this;rw[this]; grind
 obtain⟨hf,⟨Z,M,wd⟩,Z2,M2,z0,zl,nl,fu⟩:=hX.Ow N.toNetV.k sF;obtain⟨Z3,M3,z⟩:=hX2.Ky k2.k;refine⟨out,Gm rs (λj=>X j*F),Z2,M2,⟨k2.k,hX2,⟨z.hs,λq hq=>?_,z.fs,λr1 h1=>?_,z.es,λr hr=>(z.ru r hr).sf z.z0 z.zl (by decide) z.nl,by rw[<-hW]; exact sp _ i1⟩,by rw[lR]; exact k.m14,k2.tn,by rw[lR]; exact D2,hp2.of ru λ_ _=>rfl,z0,zl,nl,λr1 h1=>?_⟩,by rw[lR,N3.2,hX.x0,hX.x1]; grind,?_⟩
 ·rw[eY q hq];have ql:os.getD q 0<L.length:=by
   have lo:os.length=L.length:=by have:=po.length_eq; rwa [jV] at this
   have e:os[q]?=some os[q]:=jb (by omega);rw[je,e];exact jZ.mp (po.mem_iff.mp (jd e))
  rw[hL] at ql;obtain⟨x,hx,ex⟩:=Lf k.tn ql;unfold EN;rw[<-ex,KU k.tn hp.inv hx];exact sp x hx
 ·obtain⟨j,hj⟩:=lD.mp h1;obtain⟨r,h2,rfl⟩:=Kk hj;obtain⟨a,b,_⟩:=at1 h2;rw[a,b,hp.df j r h2];exact(wd.ru r (jd h2)).sf wd.z0 wd.zl (by decide) wd.nl
 ·obtain⟨j,hj⟩:=lD.mp h1;obtain⟨r,h2,rfl⟩:=Kk hj;rw[(at1 h2).2.2];exact fu r (jd h2)
 ·refine oS λj=>?_
  rw[ji];unfold D4;rw[lS,lS];cases hj:rs[j]? with
  | none =>
   cases h1:(CC L os rs)[j]? with
   | none=>rfl
   | some r1=>obtain⟨r,h2,_⟩:=Kk h1; rw[hj] at h2; cases h2
  | some r =>
   rw[Jh hj];obtain⟨a,b,_⟩:=at1 hj;obtain⟨c,d⟩:=Np (Y:=λj=>X j*F) hj;show some (Ht _ _ j (E3 L os j r))=some (Ie F (Ht p (λj=>X j*F) j r));unfold Ht;dsimp only at c d ⊢;rw[a,b,c,d,hX.x0,(Tj _ _ _).1,(Tj _ _ _).2,v7];rfl
variable {P:j8} {w:World} {K:jk} {mg:Str->Option Value} {base:Heap} {f g h f1 f2 f3 f4:Addr} {fd gd hd d1 d2 d3 d4:kF}
inductive VY(vs:List V)(H:Hp)(Q:VK):Prop
 | mk (p q:Addr) (x:Rat) (h_0:vs=[.ref p,.ref q]) (h_1:H p=some (.AG [.int 1,.int 1])) (h_2:AS H q x) (h_3:EX x) (h_4:∀r H',AN H H'->AS H' r x⁻¹->Q (.ref r) H'):VY vs H Q
def Wc:Sp:=λvs H Q _=>VY vs H Q
theorem hZ:Ay ["one","other"] ["one","other"] (Ao sOver):=A7
theorem fK{C:Addr}(F:Ar K "over" "over" sOver f fd)(G:Aj P w K mg base 2 "fraction" ["top","bottom"] (IM C)):An P w K mg base Av 3 f fd ["one","other"] Wc:=by
 refine F.BA hZ λcdv A outer s H vs Q E hr h=>?_
 obtain⟨p,q,x,rfl,hp,hq,ek,k⟩:=h;refine⟨_,AO (Bn (BQ Dc (pT K (pv 1) AE) AE (BJ _)) Yx CA)
  (AV (Aq (AZ G hr (AA (AL Bt (pT K (pv 0) AE) (pT K (pv 1) AE))
   (AA (AL Bt (pT K (pv 0) AE) (pT K (pv 1) AE)) AB))))),?_⟩
 obtain⟨e1,e2,e3⟩:=id ek;obtain⟨_,i1,i2⟩:=Rj ek;have hq':H q=some (.AG [.int x.num,.int x.den]):=hq;have m1:∀z:Int,Iw 1 z:=λz=>.inl ⟨by decide,by decide⟩
 refine⟨_,rfl,q,_,_,_,rfl,rfl,AK.of hq',BF,rfl,_,rfl,Ca (Dj (by omega)) ?_⟩;refine⟨_,rfl,p,_,_,_,rfl,rfl,AK.of hp,BF,_,rfl,q,_,_,_,rfl,rfl,AK.of hq',at1,_,_,rfl,rfl,m1 _,_,rfl,p,_,_,_,rfl,rfl,AK.of hp,at1,_,rfl,q,_,_,_,rfl,rfl,AK.of hq',BF,_,_,rfl,rfl,m1 _,?_⟩;refine⟨x.den,x.num,by rw[vY,vY]; rfl,Kn (n:=10) (by omega) (by decide),λz=>by omega,λz r hr'=>k r _ (AY hr' _) ?_⟩;have e:(((x.den:Nat):Int):Rat) / ((x.num:Int):Rat)=x⁻¹:=by
  have:=(pZ x⁻¹).symm
  rw[qp,i1,i2] at this;exact this.symm
 show AH _ _ _ r=_;rw[AU,FY _ _ z,e]
inductive VJ(vs:List V)(H:Hp)(Q:VK):Prop
 | mk (c a b:Nat) (h_0:vs=[.int (c:Int),.int (a:Int),.int (b:Int)]) (h_1:c<=1000) (h_2:∀l H',AN H H'->H' l=some (.AD (Bj (Hm c a b)))->Q (.ref l) H'):VJ vs H Q
def WW:Sp:=λvs H Q _=>VJ vs H Q
theorem iP:Ay ["count","upper","lower"] ["count","upper","lower"] (Ao s_lands_placed):=A7
theorem fN:(["land","upper","lower"]:List Str).Nodup:=by decide +kernel
theorem YH(F:Ar K "lands_placed" "lands_placed" s_lands_placed f fd)(mr:mg "range" = none):An P w K mg base Av 1 f fd ["count","upper","lower"] WW:=by
 refine F.BA iP λcdv A outer s H vs Q E hr h=>?_
 obtain⟨c,a,b,rfl,hc,q⟩:=h;refine⟨_,AV (Aq (AL HU (Bz (AA (pv 1) (AA (pv 2) AB))) (Z5 (Nc:=["land","upper","lower"]) (cap:=[(1,1),(2,2)]) (g:=BR 0) (tt:=Wb (Ma (Bg QC (Ap 0) (Ap 1))) (Ma (Bg QC (Ap 0) (Ap 2)))) (te:=Ap 0) rfl (JO (by rfl) mr (AA (pv 0) AB))
   (CB rfl rfl (by decide +kernel) (by decide +kernel) (jv.mpr ⟨⟨rfl,rfl⟩,jv.mpr ⟨⟨rfl,rfl⟩,jr _⟩⟩) rfl (jv.mpr ⟨⟨_,_,rfl,rfl,rfl,rfl,rfl⟩,jv.mpr ⟨⟨_,_,rfl,rfl,rfl,rfl,rfl⟩,jr _⟩⟩))
   (λ_ _ _ _ _=>Af (i:=0) fN rfl (jn rfl)) (λ_ _ _ _ _=>PW.pt (Oc (BQ Eo (pv 0) (pv 1) (BJ _)) (OA (BQ Eo (pv 0) (pv 2) (BJ _))))) (λ_ _ _ _ _=>pv 0)))),?_⟩
 refine⟨_,rfl,_,rfl,by exact B6,λl1 hl1=>?_⟩;obtain⟨H1,zg,s1,e1⟩:=nw hl1 (.AD [.int (a:Int),.int (b:Int)]);rw[zg];refine⟨_,rfl,(c:Int),rfl,by omega,by omega,λacc hacc=>?_⟩;rw[show((c:Int)).toNat=c by omega];refine YU Qi hc hacc (λi ys σ hp=>ys=Bj ((ju i).filter λl=>decide (l≠a/\l≠b))/\∃u,σ=[u,some (.int (a:Int)),some (.int (b:Int))]) ⟨rfl,none,rfl⟩ ?_ ?_
 ·rintro i ys σ H2' x H2 hi sm hacc2 ⟨rfl,u,rfl⟩ ⟨rfl,rfl⟩ Cc Nn hC hN;rw[show((0:Int)+(i:Nat))=(i:Int) by omega];refine⟨_,rfl,_,rfl,rfl,_,rfl,?_⟩;have no:¬(i≠a/\i≠b)->Nn [some (.int (i:Int)),some (.int (a:Int)),some (.int (b:Int))] H2:=λe=>hN _ _ (AN.refl _) ⟨by rw[m9,pR,tP (by rw[nQ]; exact e)]; simp,_,rfl⟩
  by_cases h1:i=a
  ·refine Ep (by rw[h1]) ?_;exact C9 (no λe=>e.1 h1)
  ·refine Hk (Dj (by omega)) ?_;refine⟨_,rfl,_,rfl,rfl,_,rfl,?_⟩;by_cases h2:i=b
   ·exact Ep (by rw[h2]) (no λe=>e.2 h2)
   ·refine Hk (Dj (by omega)) ⟨_,rfl,hC _ _ _ (AN.refl _) ⟨?_,_,rfl⟩⟩;rw[m9,pR,tQ (by rw[nQ]; exact⟨h1,h2⟩),List.filter_nil];unfold Bj;rw[jH];rfl
 ·rintro ys σ H2 sm hacc2 ⟨rfl,_⟩;refine⟨l1,acc,_,_,rfl,rfl,sm _ _ e1,hacc2,?_,λp hp=>q p _ ((s1.trans sm).trans (AY hp _)) ?_⟩
  ·have:=List.length_filter_le (λl=>decide (l≠a/\l≠b)) (ju c)
   rw[jV] at this;show 2+(Bj _).length<=jR;unfold Bj;rw[ja,nF];omega
  ·rw[AU];rfl
def Fw(os:List Nat):List (Int×Int):=os.mapIdx λi (l:Nat)=>((l:Int),(i:Int))
theorem Ur{os:List Nat}{i l:Nat}(h:os[i]?=some l):(Fw os)[i]?=some ((l:Int),(i:Int)):=by
 unfold Fw;rw[lS,h];rfl
theorem SS(os:List Nat):(Fw os).length=os.length:=by
 unfold Fw;rw[l9]
theorem SY(os:List Nat):(Fw os).map (·.1)=os.map λl:Nat=>(l:Int):=by
 refine oS λi=>?_
 rw[ji,ji];unfold Fw;rw[lS];cases os[i]? <;> rfl
theorem X9{os:List Nat}(nd:os.Nodup):(os.map λl:Nat=>(l:Int)).Nodup:=by
 rw[rY,lP];exact(rY.mp nd).imp λh e=>h (by omega)
theorem US{os:List Nat}(nd:os.Nodup){l:Nat}(h:l∈os):lk (Fw os) (l:Int)=some ((DR os l:Nat):Int) :=
 MZ (by rw[SY]; exact X9 nd) (jd (Ur (ME h)))
theorem a8{os:List Nat}(nd:os.Nodup){i l:Nat}(h:os[i]?=some l):(l:Int)∉((Fw os).take i).map (·.1):=by
 rw[qA,SY];intro hm;rw[<-List.map_take] at hm;obtain⟨l',h1,h2⟩:=js.mp hm;obtain rfl:l'=l:=by omega
 obtain⟨j,hj⟩:=lD.mp h1;rw[rP] at hj;split at hj
 ·rename_i z
  have:=(so (jc.mp hj).1 nd).mp (hj.trans h.symm)
  omega
 ·cases hj
theorem RF{os:List Nat}{i:Nat}{x:V}(h:(Bj os)[i]?=some x):∃l:Nat,x=.int (l:Int)/\os[i]?=some l:=by
 rw[ji] at h;obtain⟨l,h1,h2⟩:=lV.mp h;exact⟨l,h2.symm,h1⟩
inductive V1(vs:List V)(H:Hp)(Q:VK):Prop
 | mk (a:Addr) (os:List Nat) (h_0:vs=[.ref a]) (h_1:H a=some (.AD (Bj os))) (h_2:os.Nodup) (h_3:os.length<=1000) (h_4:∀d H',AN H H'->H' d=some (.dK (BG (Fw os)))->Q (.ref d) H'):V1 vs H Q
def WJ:Sp:=λvs H Q _=>V1 vs H Q
theorem Mt:Ay ["lands","places","place","land"] ["lands"] (Ao s_places_of):=A7
theorem dr(F:Ar K "places_of" "places_of" s_places_of f fd)(me:mg "enumerate" = none):An P w K mg base Av 1 f fd ["lands"] WJ:=by
 refine F.BA Mt λcdv A outer s H vs Q E hr h=>?_
 obtain⟨a,os,rfl,ha,nd,hl,q⟩:=h;have hu:=FD hr;refine⟨_,AO (AW (i:=1) Mt.nd rfl (jn rfl) KR)
  (AO (CV j3 rfl (JW (by rfl) me (AA (pv 0) AB)) (Dn (n:=2) (K:=K) rfl (BI (Af (i:=2) Mt.nd rfl (jn rfl)) (BI (Af (i:=3) Mt.nd rfl (jn rfl)) Ck)))
   (AV (GC hu (pv 1) (pv 3) (pv 2) rfl)))
  (AV (Aq (pv 1)))),?_⟩
 intro d hd;have s0:AN H (AH H d (.dK [])):=AY hd _;dsimp only;refine Cw ?_;refine Cv λU hU=>?_
 refine⟨_,rfl,a,_,rfl,s0 _ _ ha,?_⟩;refine NV (xs:=Bj os) (λi σ H2=>∃u v,σ=[some (.ref a),some (.ref d),u,v]/\AN H H2/\H2 d=some (.dK (BG ((Fw os).take i)))) ⟨none,none,rfl,s0,AU⟩ (λi σ H2 _ ⟨_,_,_,s2,_⟩=>s2 _ _ ha) ?_ ?_
 ·rintro i x σ H2 p hx ⟨u,v,rfl,s2,hd2⟩ hp U2 hU2;obtain⟨l,rfl,hl2⟩:=RF hx;have s3:=AY hp (.AG [.int i,.int (l:Int)]);refine⟨p,_,rfl,AK.of AU,rfl,_,_,rfl,_,_,rfl,rfl,?_⟩;refine⟨_,rfl,_,rfl,_,rfl,d,_,rfl,D5.k (k:=j4 (l:Int)) (s3 _ _ hd2) ?_,hU2 _ _ ⟨_,_,rfl,(s2.trans s3).up hd _,?_⟩⟩
  ·rw[ja,kB,SS];exact Ce (by omega)
  ·rw[AU,HP (a8 nd hl2),C0 (Ur hl2)]
 ·rintro σ H2 ⟨u,v,rfl,s2,hd2⟩;rw[<-hU];rw[ja,jz (by rw[SS]; exact jj _)] at hd2;exact⟨_,rfl,q d _ s2 hd2⟩
inductive Vc(vs:List V)(H:Hp)(Q:VK):Prop
 | mk (a:Addr) (r:List Int) (m:Nat) (h_0:vs=[.ref a,.int (m:Int)]) (h_1:BV H a r) (h_2:r.length<=1000) (h_3:∀p H',AN H H'->H p=none->BV H' p (r.map (Bd m))->Q (.ref p) H'):Vc vs H Q
def Ph:Sp:=λvs H Q _=>Vc vs H Q
theorem fi:Ay ["ring","outer"] ["ring","outer"] (Ao s_turn_of):=A7
theorem iQ:(["end","outer"]:List Str).Nodup:=by decide +kernel
theorem eu(F:Ar K "turn_of" "turn_of" s_turn_of f fd)(G:Aj P w K mg base 1 "other_end" ["end"] MW)(mt:mg "tuple" = none):An P w K mg base Av 2 f fd ["ring","outer"] Ph:=by
 refine F.BA fi λcdv A outer s H vs Q E hr h=>?_
 obtain⟨a,r,m,rfl,ha,hl,q⟩:=h;refine⟨_,AV (Aq (CP (ED (K:=K)) (by rfl) mt CG (AA (C1 (Nc:=["end","outer"]) (cap:=[(1,1)]) (g:=BR 0) (te:=Ww (Ma (Bg Wm (Bg (rI Mv λi j=>.int (i / j)) (Ap 0) (tC (.int 2))) (Ap 1))) (DT MW [] E0 (BO (Ap 0) CF)) (Ap 0)) rfl (Ib (K:=K) (pv 0))
   (CB rfl rfl (by decide +kernel) (by decide +kernel) (jv.mpr ⟨⟨rfl,rfl⟩,jr _⟩) rfl (jv.mpr ⟨⟨_,_,rfl,rfl,rfl,rfl,rfl⟩,jr _⟩)) (λ_ _ _ _ _=>Af (i:=0) iQ rfl (jn rfl))
   (λ_ _ _ _ _=>Nh (BQ Dc (AL EE (pv 0) AE) (pv 1) (BJ _)) (AZ G hr (AA (pv 0) AB)) (pv 0))) AB))),?_⟩
 have ha':H a=some (.AG (r.map V.int)):=ha;refine⟨_,rfl,a,rfl,⟨_,AK.of ha'⟩,λacc hacc=>?_⟩;refine CQ (GB ha') (by rw[ja]; omega) hacc (λi ys σ hp=>ys=((r.map (Bd m)).take i).map V.int/\∃u,σ=[u,some (.int (m:Int))]) ⟨rfl,none,rfl⟩ ?_ ?_
 ·rintro i ys σ H3 x H4 hi sm hacc2 ⟨rfl,u,rfl⟩ ⟨rfl,hx⟩ Cc hC;obtain⟨e,rfl,he⟩:=Fh hx;have key:Cc [some (.int e),some (.int (m:Int))] (.int (Bd m e)) H4:=by
   refine hC _ _ _ (AN.refl _) ⟨?_,_,rfl⟩;rw[C0 (show(r.map (Bd m))[i]?=some (Bd m e) by rw[ji,he]; rfl),jH];rfl
  refine⟨_,rfl,_,_,rfl,rfl,⟨by decide,by decide⟩,_,rfl,rfl,_,rfl,?_⟩;unfold Bd at key;by_cases z:e / 2=(m:Int)
  ·rw[jq z] at key;exact Cy (iv z) ⟨_,rfl,e,rfl,key⟩
  ·rw[jm z] at key;exact Ca (Dj z) ⟨_,rfl,key⟩
 ·rintro ys σ H4 s4 ha4 hl4 ⟨rfl,u,rfl⟩;rw[ja,jz (by rw[ja]; exact jj _)] at ha4;refine⟨acc,_,rfl,.inl ⟨AR.of ha4,λp hp=>q p _ (s4.trans (AY hp _)) (s4.free hp) AU⟩⟩
theorem MU{L:List (List Int)}{n:Nat}(nd:L.flatten.Nodup)(mem:∀{x:Int},x∈L.flatten↔AF n x){e:Nat}(h:e<n){z:Int}(hz:z=(e:Int)):Bv (((ju n).map λe:Nat=>(lk (CO 0 L) (e:Int)).getD 0).map V.int) z=some (.int ((BD L z:Nat):Int)):=by
 subst hz;refine Bc ?_;rw[ji,ji,kE h,qQ,qQ,Th nd (mem.mpr ⟨by omega,by omega⟩)];rfl
theorem BW.BK{H:Hp}{a b:Addr}{r:AQ}{ys:List V}(h:BW H b r)(e:H a=some (.AD ys)):BW (BK H a) b r:=by
 obtain⟨d,h1,h2⟩:=h;have h2':H d=some (.AG [.int r.2.2.num,.int r.2.2.den]):=h2;refine⟨d,Fl h1 λz=>?_,Fl h2' λz=>?_⟩
 ·rw[z,e] at h1; cases h1
 ·rw[z,e] at h2'; cases h2'
variable {f5 f6 f7:Addr} {d5 d6 d7:kF}
inductive VN(vs:List V)(H:Hp)(Q:VK):Prop
 | mk (a ra ta:Addr) (n:Nat) (rs:List AQ) (ts:List (List Int)) (L:List (List Int)) (os:List Nat) (h_0:vs=[.ref a]) (h_1:H a=some (.AG [.int (n:Int),.ref ra,.ref ta])) (h_2:NetV n rs ts) (h_3:Fy (AJ ts) rs.length) (h_4:A4 BW H ra rs) (h_5:A4 BV H ta ts)
  (h_6:L=Al (AJ ts) (2*rs.length+2)) (h_7:os=Hm L.length (BD L (2*(rs.length:Int)+1)) (BD L (2*(rs.length:Int))))
  (h_9:BD L (2*(rs.length:Int)+1)≠BD L (2*(rs.length:Int))) (h_8:∀p cr tr H',AN H H'->H' p=some (.AG [.int (L.length:Int),.ref cr,.ref tr])->A4 BW H' cr (CC L os rs)->A4 BV H' tr ((DU rs.length L os).map Cd)->Q (.ref p) H'):VN vs H Q
def WU:Sp:=λvs H Q _=>VN vs H Q
theorem FK:Ay ["net","ropes","outer","lands","numbers","order","places","crossing","k","rope","turns"] ["net"] (Ao s_other_net):=A7
theorem eQ:(["land","lands","outer"]:List Str).Nodup:=by decide +kernel
theorem dy (F:Ar K "other_net" "other_net" s_other_net f fd)
  (G1:Aj P w K mg base 3 "rings" ["turns"] OT)
  (G2:Aj P w K mg base 4 "land_of" ["turns"] Nf)
  (G3:Aj P w K mg base 1 "lands_placed" ["count","upper","lower"] WW)
  (G4:Aj P w K mg base 1 "places_of" ["lands"] WJ)
  (G5:Aj P w K mg base 3 "over" ["one","other"] Wc)
  (G6:Aj P w K mg base 2 "turn_of" ["ring","outer"] Ph)
  (G7:Aj P w K mg base 2 "told_turns" ["turns"] Vs)
  (ml:mg "len" = none) (me:mg "enumerate" = none) (mt:mg "tuple" = none):An P w K mg base Av 5 f fd ["net"] WU:=by
 refine F.BA FK λcdv A outer s H vs Q E hr h=>?_
 obtain⟨a,ra,ta,n,rs,ts,L,os,rfl,ha,k,D,⟨cs,hra,hC⟩,⟨bs,hta,hB⟩,hL,ho,two,q⟩:=h;have hu:=FD hr;refine⟨_,AO (AW (i:=1) FK.nd rfl (jn rfl) (pT K (pv 0) AE))
  (AO (AW (i:=2) FK.nd rfl (om rfl) (A3 (Be (K:=K)) (by rfl) ml BN (AA (pv 1) AB)))
  (AO (AW (i:=3) FK.nd rfl (om rfl) (AZ G1 (hr.mono (by decide)) (AA (pT K (pv 0) AE) AB)))
  (AO (AW (i:=4) FK.nd rfl (jn rfl) (AZ G2 hr (AA (pT K (pv 0) AE) AB)))
  (AO (AW (i:=5) FK.nd rfl (jn rfl) (AZ G3 (hr.mono (by decide)) (AA (A3 (Be (K:=K)) (by rfl) ml BN (AA (pv 3) AB)) (AA (pT K (pv 4) (AL BL (AL Bt AE (pv 2)) AE)) (AA (pT K (pv 4) (AL Bt AE (pv 2))) AB)))))
  (AO (AW (i:=6) FK.nd rfl (jn rfl) (AZ G4 (hr.mono (by decide)) (AA (pv 5) AB)))
  (AO (AW (i:=7) FK.nd rfl (jn rfl) (Bz AB))
  (AO (CV j3 rfl (Ki (by rfl) me (AA (pv 1) AB)) (Dn (n:=2) (K:=K) rfl (BI (Af (i:=8) FK.nd rfl (jn rfl)) (BI (Af (i:=9) FK.nd rfl (jn rfl)) Ck)))
   (AV (C3 (CY K jT kf kg DY (pv 7) (AA (BZ
    (AA (ET hu (pv 6) (pT K (pv 4) (AL Bt AE (pv 8))) (λ_ _=>rfl))
    (AA (ET hu (pv 6) (pT K (pv 4) (AL BL (AL Bt AE (pv 8)) AE)) (λ_ _=>rfl))
    (AA (AZ G5 (hr.mono (by decide)) (AA (BZ (AA AE (AA AE AB))) (AA (pT K (pv 9) AE) AB))) AB)))) AB)))))
  (AO (JI (i:=10) FK.nd rfl (jn rfl) (Nc:=["land","lands","outer"]) (cap:=[(1,3),(2,2)]) (g:=BR 0) (te:=DT Ph [] E0 (BO (Bg (FJ K) (Ap 1) (Ap 0)) (BO (Ap 2) CF))) rfl (IX (K:=K) (pv 5))
   (CB rfl rfl (by decide +kernel) (by decide +kernel) (jv.mpr ⟨⟨rfl,rfl⟩,jv.mpr ⟨⟨rfl,rfl⟩,jr _⟩⟩) rfl (jv.mpr ⟨⟨_,_,rfl,rfl,rfl,rfl,rfl⟩,jv.mpr ⟨⟨_,_,rfl,rfl,rfl,rfl,rfl⟩,jr _⟩⟩))
   (λ_ _ _ _ _=>Af (i:=0) eQ rfl (jn rfl)) (λ_ _ _ _ _=>AZ G6 (hr.mono (by decide)) (AA (pT K (pv 1) (pv 0)) (AA (pv 2) AB))))
  (AV (Aq (BZ (AA (A3 (Be (K:=K)) (by rfl) ml BN (AA (pv 5) AB)) (AA (CP (ED (K:=K)) (by rfl) mt CG (AA (pv 7) AB)) (AA (AZ G7 (hr.mono (by decide)) (AA (pv 10) AB)) AB)))))))))))))),?_⟩
 obtain⟨k',po,_⟩:=Ry k D hL two ho;have T:=k.tn;have m14:=k.m14;have PM:=T.perm;have nd:L.flatten.Nodup:=by rw[hL]; exact HL PM
 have mem:∀{x:Int},x∈L.flatten↔AF (2*rs.length+2) x:=λ{x}=>by rw[hL]; exact Ek PM
 have ndo:os.Nodup:=po.nodup_iff.mpr lK;have lo:os.length=L.length:=by have:=po.length_eq; rwa [jV] at this
 have l15:=k'.n15;have lcs:cs.length=rs.length:=hC.1;have nl:∀{x:Int},AF (2*rs.length+2) x->BD L x<L.length:=λhx=>by
  obtain⟨r,h1,_⟩:=II (mem.mpr hx);exact(jc.mp h1).1
 have inO:∀{x:Int},AF (2*rs.length+2) x->BD L x∈os:=λhx=>po.mem_iff.mpr (jZ.mpr (nl hx))
 have mul2:∀x:Int,Iw 2 x:=λx=>.inl ⟨by decide,by decide⟩
 refine⟨_,rfl,a,_,_,_,rfl,rfl,AK.of ha,Ea _ _ _,?_⟩;refine⟨_,rfl,ra,_,rfl,.inr (AK.of hra),?_⟩;rw[ja,lcs];refine⟨_,rfl,a,_,_,_,rfl,rfl,AK.of ha,Fu _ _ _,ta,bs,ts,2*rs.length+2,rfl,⟨hta,hB⟩,T,by omega,λlp ls H1 s1 _ hlp hR=>?_⟩;refine⟨_,rfl,a,_,_,_,rfl,rfl,AK.of (s1 _ _ ha),Fu _ _ _,ta,bs,ts,2*rs.length+2,rfl,Hw.keep ⟨hta,hB⟩ s1,T,by omega,λnp H2 s2 _ hnp=>?_⟩;rw[<-hL] at hR hnp;have lls:ls.length=L.length:=hR.1;have hlp2:=s2 _ _ hlp;have s02:=s1.trans s2;refine⟨_,rfl,lp,_,rfl,.inr (AK.of hlp2),_,rfl,_,rfl,_,_,rfl,rfl,mul2 _,_,_,rfl,rfl,np,_,_,_,rfl,rfl,AK.of hnp,MU nd mem (e:=2*rs.length+1) (by omega) (by omega),_,rfl,_,rfl,_,_,rfl,rfl,mul2 _,np,_,_,_,rfl,rfl,AK.of hnp,MU nd mem (e:=2*rs.length) (by omega) (by omega),?_⟩;refine⟨L.length,BD L (2*(rs.length:Int)+1),BD L (2*(rs.length:Int)),by rw[ja,lls]; rfl,by omega,λop H3 s3 hop=>?_⟩;rw[<-ho] at hop;refine⟨_,rfl,op,os,rfl,hop,ndo,by omega,λpd H4 s4 hpd=>?_⟩;refine⟨by exact E4,λcr hcr=>?_⟩;obtain⟨H5,zg,s5,hcr5⟩:=nw hcr (.AD []);rw[zg];have s04:AN H H4:=(s02.trans s3).trans s4;dsimp only;refine Cw ?_;refine Cv λUL1 hUL1=>?_
 refine⟨_,rfl,ra,_,rfl,s5 _ _ (s04 _ _ hra),?_⟩;refine KY (xs:=cs.map V.ref) (λi σ H6=>∃u v,σ=[some (.ref a),some (.ref ra),some (.int (rs.length:Int)),some (.ref lp),some (.ref np),some (.ref op),some (.ref pd),some (.ref cr),u,v,none]/\AN H4 H6/\∃gs:List Addr,H6 cr=some (.AD (gs.map V.ref))/\At BW (BK H6 cr) gs ((CC L os rs).take i))
  ⟨none,none,rfl,s5,[],hcr5,At.nil⟩ (λi σ H6 _ ⟨_,_,_,s6,_⟩=>s6 _ _ (s04 _ _ hra)) ?_ ?_
 ·rintro i x σ H6 p hx ⟨u,v,rfl,s6,gs,hcr6,hG⟩ hp;obtain⟨c,r,rfl,_,hy,e,hc,he⟩:=hC.ref hx;have hi:i<rs.length:=(jc.mp hy).1;have ek:=(k.ease r (jd hy)).1;have s7:=AY hp (.AG [.int i,.ref c]);refine⟨p,_,rfl,AK.of AU,rfl,_,_,rfl,_,_,rfl,rfl,?_⟩;generalize AH H6 p (.AG [.int i,.ref c])=H7 at s7;have s47:=s6.trans s7;have hnp7:=s47 _ _ (s4 _ _ (s3 _ _ hnp));have i1:AF (2*rs.length+2) (2*(i:Int)):=⟨by omega,by push_cast; omega⟩;have i2:AF (2*rs.length+2) (2*(i:Int)+1):=⟨by omega,by push_cast; omega⟩;refine⟨_,rfl,.inl ⟨rfl,_,AR.of (s7 _ _ hcr6)⟩,?_⟩;refine⟨_,rfl,_,rfl,_,rfl,_,_,rfl,rfl,mul2 _,np,_,_,_,rfl,rfl,AK.of hnp7,MU nd mem (e:=2*i) (by omega) (by omega),pd,_,rfl,IH (s47 _ _ hpd) (US ndo (inO i1)),?_⟩;refine⟨_,rfl,_,rfl,_,rfl,_,_,rfl,rfl,mul2 _,_,_,rfl,rfl,np,_,_,_,rfl,rfl,AK.of hnp7,MU nd mem (e:=2*i+1) (by omega) (by omega),pd,_,rfl,IH (s47 _ _ hpd) (US ndo (inO i2)),?_⟩;refine⟨by exact B6,λo1 ho1=>?_⟩;obtain⟨H8,zg,s8,ho8⟩:=nw ho1 (.AG [.int 1,.int 1]);rw[zg];have s08:=s04.trans (s47.trans s8);refine⟨_,rfl,c,_,_,_,rfl,rfl,AK.of (s08 _ _ hc),Fu _ _ _,?_⟩;refine⟨o1,e,r.2.2,rfl,ho8,s08 _ _ he,ek,λiv9 H9 s9 hiv=>?_⟩;refine⟨by exact EM,λt ht=>?_⟩;obtain⟨HA,zg,s10,ht10⟩:=nw ht (.AG [.int ((DR os (BD L (2*(i:Int))):Nat):Int),.int ((DR os (BD L (2*(i:Int)+1)):Nat):Int),.ref iv9]);rw[zg];have s6A:AN H6 HA:=(s7.trans s8).trans (s9.trans s10);have hcrA:=s6A _ _ hcr6;have lg:gs.length<=rs.length:=by
   have:=hG.1
   rw[kB] at this;have z:(CC L os rs).length=rs.length:=by unfold CC; rw[l9]
   omega
  refine⟨cr,_,_,rfl,rfl,hcrA,by rw[ja]; exact Ce (by omega),?_⟩;refine⟨_,_,rfl,(s6.trans s6A).up hcr _,gs++[t],?_,?_⟩
  ·rw[AU,jH];rfl
  ·rw[Ke,C0 (Jh hy)];refine(hG.keep Cj (Dz cr s6A)).snoc ?_;refine BW.BK ?_ hcrA;exact⟨iv9,ht10,s10 _ _ hiv⟩
 ·rintro σ H6 ⟨u,v,rfl,s6,gs,hcr6,hG⟩;subst hUL1;rw[ja,lcs,jz (by unfold CC; rw[l9]; exact jj _)] at hG;have hop6:=s6 _ _ (s4 _ _ hop);refine⟨_,rfl,op,rfl,⟨_,AR.of hop6⟩,λacc hacc=>?_⟩;refine CQ (E7 hop6) (by rw[ja]; omega) hacc (λi ys σ hp=>∃ds:List Addr,ys=ds.map V.ref/\At BV hp ds ((DU rs.length L os).take i)/\∃u,σ=[u,some (.ref lp),some (.int (rs.length:Int))]) ⟨[],rfl,At.nil,none,rfl⟩ ?_ ?_
  ·rintro i ys σ H7 x H8 hi s7 hacc2 ⟨ds,rfl,hD,u,rfl⟩ ⟨rfl,hx⟩ Cc hCc;obtain⟨l,rfl,hl⟩:=RF hx;have hlL:l<L.length:=jZ.mp (po.mem_iff.mp (jd hl));have hr1:L[l]?=some L[l]:=jb hlL;have hb1:ls[l]?=some ls[l]:=jb (by omega);have hbr:=hR.2 l _ _ hb1 hr1;have et:(DU rs.length L os)[i]?=some (L[l].map (Bd rs.length)):=by
    unfold DU;rw[ji,hl,qQ,je,hr1];rfl
   have tl:=k'.tlen (jd et);rw[ja] at tl;have lR:(CC L os rs).length=rs.length:=by unfold CC; rw[l9]
   have s47:=s6.trans s7;refine⟨_,rfl,_,rfl,lp,_,_,_,rfl,rfl,AK.of (s47 _ _ (s4 _ _ (s3 _ _ hlp2))),Bc (DD hb1),_,rfl,?_⟩;refine⟨ls[l],L[l],rs.length,rfl,s47 _ _ (s4 _ _ (s3 _ _ (s2 _ _ hbr))),by omega,λp H9 s9 _ hp=>?_⟩;refine hCc _ _ _ s9 ⟨ds++[p],by simp,?_,_,rfl⟩;rw[C0 et];exact(hD.keep Dy (Dz acc s9)).snoc (BV.BK hp (s9 _ _ hacc2))
  ·rintro ys σ H7 s7 ha7 hl7 ⟨ds,rfl,hD,u,rfl⟩;have ld:(DU rs.length L os).length=os.length:=by unfold DU; rw[ja]
   rw[ja,jz (by omega)] at hD;refine⟨_,rfl,op,_,rfl,.inl (AR.of (s7 _ _ hop6)),_,rfl,cr,_,rfl,.inl ⟨AR.of (s7 _ _ hcr6),λcp hcp=>?_⟩⟩;obtain⟨H8,zg,s8,hcp8⟩:=nw hcp (.AG (gs.map V.ref));rw[zg];refine⟨_,rfl,acc,DU rs.length L os,rfl,⟨ds,s8 _ _ ha7,(hD.keep Dy (Dl H7 acc)).keep Dy s8⟩,by omega,λt ht=>⟨k'.ne t ht,?_⟩,λtr H9 s9 htr=>?_⟩
   ·have lR:(CC L os rs).length=rs.length:=by unfold CC; rw[l9]
    have:=k'.tlen ht
    omega
   refine⟨by exact EM,λp hp=>?_⟩;have sA:=AY hp (.AG [.int ((Bj os).length:Int),.ref cp,.ref tr]);have s7A:=s8.trans (s9.trans sA);refine q p cp tr _ (((s04.trans s6).trans s7).trans s7A) ?_ ⟨gs,sA _ _ (s9 _ _ hcp8),?_⟩ (fJ sA htr)
   ·rw[AU,ja,lo]
   ·exact(hG.keep Cj (Dl H6 cr)).keep Cj (s7.trans s7A)
theorem VB{H:Hp}{Q:VK}{t b:Int}{q:Rat}(hb:BX b)(b0:0<b)(e:BS t b=fr q)(k:Mp H Q q):Oo [.int t,.int b] H Q:=by
 refine⟨t,b,rfl,b0,hb,?_⟩;have e2:=FY t b (by omega);have e3:((t:Rat) / (b:Rat))=q:=by
  rw[e] at e2;have h1:=congrArg uJ e2;have h2:=congrArg wB e2;simp only[fr] at h1 h2;exact(Rat.ext h1 (by omega)).symm
 rw[e3];exact k
theorem Wf(x y:Rat):0<(x.den:Int)*(y.den:Int):=rG (by have:=x.den_nz; omega) (by have:=y.den_nz; omega)
theorem iS:Ay ["_law_a","_law_b"] ["_law_a","_law_b"] (Ao s_law_minus):=A7
theorem Ym(F:Ar K "_law_minus" "_law_minus" s_law_minus f fd)(G:Aj P w K mg base 2 "_law_fraction" ["_law_top","_law_bottom"] Jt):
  An P w K mg base Av 3 f fd ["_law_a","_law_b"] (C7 λx y=>x-y):=by
 refine F.BA iS λcdv A outer s H vs Q E hr h=>?_
 obtain⟨p,q,x,y,rfl,hp,hq,sx,sy,k⟩:=h;refine⟨_,AV (Aq (AZ G hr (AA (AL DN (AL C4 (pT K (pv 0) AE) (pT K (pv 1) AE)) (AL C4 (pT K (pv 1) AE) (pT K (pv 0) AE))) (AA (AL C4 (pT K (pv 0) AE) (pT K (pv 1) AE)) AB)))),?_⟩;exact⟨_,rfl,p,_,_,_,rfl,rfl,AK.of hp,BF,_,rfl,q,_,_,_,rfl,rfl,AK.of hq,at1,_,_,rfl,rfl,⟨sx.n,sy.d⟩,_,rfl,q,_,_,_,rfl,rfl,AK.of hq,BF,_,rfl,p,_,_,_,rfl,rfl,AK.of hp,at1,_,_,rfl,rfl,⟨sy.n,sx.d⟩,_,_,rfl,rfl,
  _,rfl,p,_,_,_,rfl,rfl,AK.of hp,at1,_,rfl,q,_,_,_,rfl,rfl,AK.of hq,at1,_,_,rfl,rfl,⟨sx.d,sy.d⟩,VB (Sf.dd sx sy) (Wf x y) (Om x y) k⟩
theorem iC:Ay ["_law_a","_law_b"] ["_law_a","_law_b"] (Ao s_law_times):=A7
theorem Yk(F:Ar K "_law_times" "_law_times" s_law_times f fd)(G:Aj P w K mg base 2 "_law_fraction" ["_law_top","_law_bottom"] Jt):
  An P w K mg base Av 3 f fd ["_law_a","_law_b"] (C7 λx y=>x*y):=by
 refine F.BA iC λcdv A outer s H vs Q E hr h=>?_
 obtain⟨p,q,x,y,rfl,hp,hq,sx,sy,k⟩:=h;refine⟨_,AV (Aq (AZ G hr (AA (AL C4 (pT K (pv 0) AE) (pT K (pv 1) AE)) (AA (AL C4 (pT K (pv 0) AE) (pT K (pv 1) AE)) AB)))),?_⟩;exact⟨_,rfl,p,_,_,_,rfl,rfl,AK.of hp,BF,_,rfl,q,_,_,_,rfl,rfl,AK.of hq,BF,_,_,rfl,rfl,⟨sx.n,sy.n⟩,
  _,rfl,p,_,_,_,rfl,rfl,AK.of hp,at1,_,rfl,q,_,_,_,rfl,rfl,AK.of hq,at1,_,_,rfl,rfl,⟨sx.d,sy.d⟩,VB (Sf.dd sx sy) (Wf x y) (Oy x y) k⟩
theorem ax{t b:Int}(t0:0<t)(t1:t<=2 ^ 30)(b0:0<b)(b1:b<=2 ^ 30):Sb 30 30 ((t:Rat) / (b:Rat))/\0<(t:Rat) / (b:Rat):=by
 have e:=FY t b (by omega);have l1:=Qy t b (by omega);have l2:=RC t b (by omega);rw[e] at l1 l2;dsimp only at l1 l2;exact⟨⟨by omega,by omega⟩,by rw[Rat.div_def]; exact Rat.mul_pos (by exact_mod_cast t0) (Rat.inv_pos.mpr (by exact_mod_cast b0))⟩
inductive RL(vs:List V)(H:Hp)(Q:VK):Prop
 | mk (z:Int) (h_0:vs=[.int z]) (h_1:∀p H' q,AN H H'->AS H' p q->Sb 30 30 q/\0<q->Q (.ref p) H'):RL vs H Q
def TL:Sp:=λvs H Q _=>RL vs H Q
theorem Wg:Ay ["_law_c","_law_most"] ["_law_c"] (Ao s_law_fall):=A7
theorem Z7(F:Ar K "_law_fall" "_law_fall" s_law_fall f fd)(G:Aj P w K mg base 2 "_law_fraction" ["_law_top","_law_bottom"] Jt):
  An P w K mg base Av 3 f fd ["_law_c"] TL:=by
 refine F.BA Wg λcdv A outer s H vs Q E hr h=>?_
 obtain⟨z,rfl,q⟩:=h;refine⟨_,AO (Bn (BQ Dc (AL Bw (pv 0) AE) AE (BJ _)) (AV (Aq (BZ (AA AE (AA AE AB))))) CA)
  (AO (AW (i:=1) Wg.nd rfl (jn rfl) (pL K (Bz (AA AE (AA AE AB))) (AL DN (AL Bw (pv 0) AE) AE)))
  (AV (Aq (AZ G hr (AA (AL BL AE (AL Bw (AL EE (pv 0) AE) (pv 1))) (AA (AL BL AE (AL Bw (AL FX (AL EE (pv 0) AE) (pv 1)) (pv 1))) AB)))))),?_⟩
 have c0:=k9 z (show(3:Int)≠0 by decide);have c1:=lq z (show(0:Int)<3 by decide);refine⟨_,rfl,_,_,rfl,rfl,(show(0:Int)<3 by decide),rfl,_,rfl,?_⟩;by_cases hz:z % 3=0
 ·refine Cy (iv hz) ⟨by exact B6,λp hp=>?_⟩;exact q p _ 1 (AY hp _) AU ⟨⟨by decide,by decide⟩,by decide⟩
 refine Ca (Dj hz) ?_;obtain⟨u,hu1,hu2⟩:∃u,Bv [V.int 99,.int 999999999] (z % 3-1)=some (.int u)/\(u=99\/u=999999999):=by
  rcases(by omega:z % 3=1\/z % 3=2) with e | e
  ·exact⟨99,by rw[e]; exact Bc (j:=0) rfl,.inl rfl⟩
  ·exact⟨999999999,by rw[e]; exact Bc (j:=1) rfl,.inr rfl⟩
 have u0:0<u:=by omega
 have d3:Mv z 3:=⟨by decide,by decide⟩;refine⟨by exact B6,λl1 h1=>?_⟩;refine⟨_,rfl,_,_,rfl,rfl,(show(0:Int)<3 by decide),_,_,rfl,rfl,l1,_,_,_,rfl,rfl,AR.of AU,hu1,?_⟩;have s1:=AY h1 (.AD [.int 99,.int 999999999]);generalize AH H l1 (.AD [.int 99,.int 999999999])=H1 at s1;refine⟨_,rfl,_,_,rfl,rfl,d3,_,rfl,_,_,rfl,rfl,u0,_,_,rfl,rfl,_,rfl,_,_,rfl,rfl,d3,_,rfl,_,_,rfl,rfl,⟨by omega,Kn (n:=31) (by omega) (by decide)⟩,_,rfl,_,_,rfl,rfl,u0,_,_,rfl,rfl,?_⟩;have a1:=k9 (z / 3) (m8 u0);have a2:=lq (z / 3) u0;have b1:=k9 ((z / 3).fdiv u) (m8 u0);have b2:=lq ((z / 3).fdiv u) u0;have t30:(2:Int) ^ 30=1073741824:=by decide
 exact⟨_,_,rfl,by omega,Kn (n:=31) (by omega) (by decide),λp hp=>q p _ _ (s1.trans (AY hp _)) AU (ax (by omega) (by omega) (by omega) (by omega))⟩
inductive VZ(vs:List V)(H:Hp)(Q:VK):Prop
 | mk (p:Addr) (W U:Rat) (rows:List (List Rat)) (h_0:vs=[.ref p]) (h_1:IK H p W U rows) (h_2:∀r∈rows,r.length=4/\∀q∈r,Sf q) (h_3:rows.length<=1000) (h_4:Sf U) (h_5:∀a H',AN H H'->IK H' a U W (rows.map (Ie U))->Q (.ref a) H'):VZ vs H Q
def Wa:Sp:=λvs H Q _=>VZ vs H Q
theorem Gg:Ay ["_law_floor","_law_width","_law_height","_law_some","_law_made","_law_left","_law_low","_law_right","_law_high"] ["_law_floor"] (Ao s_law_quarter):=A7
theorem Xf(F:Ar K "_law_quarter" "_law_quarter" s_law_quarter f fd)(G:Aj P w K mg base 3 "_law_minus" ["_law_a","_law_b"] (C7 λx y=>x-y))(mt:mg "tuple" = none):An P w K mg base Av 4 f fd ["_law_floor"] Wa:=by
 refine F.BA Gg λcdv A outer s H vs Q E hr h=>?_
 obtain⟨p,W,U,rows,rfl,⟨w,u,rc,hp,hw,hu,⟨bs,hrc,hB⟩⟩,r4,rl,sU,q⟩:=h;refine⟨_,AO (DZ (pv 0) (Dn (n:=3) (K:=K) rfl (BI (Af (i:=1) Gg.nd rfl (jn rfl)) (BI (Af (i:=2) Gg.nd rfl (jn rfl)) (BI (Af (i:=3) Gg.nd rfl (jn rfl)) Ck)))))
  (AO (AW (i:=4) Gg.nd rfl (jn rfl) (Bz AB))
  (AO (CV j3 rfl (Ib (K:=K) (pv 3)) (Dn (n:=4) (K:=K) rfl (BI (Af (i:=5) Gg.nd rfl (jn rfl)) (BI (Af (i:=6) Gg.nd rfl (jn rfl)) (BI (Af (i:=7) Gg.nd rfl (jn rfl)) (BI (Af (i:=8) Gg.nd rfl (jn rfl)) Ck)))))
   (AV (C3 (CY K jT kf kg DY (pv 4) (AA (BZ (AA (AZ G hr (AA (pv 2) (AA (pv 8) AB))) (AA (pv 5) (AA (AZ G hr (AA (pv 2) (AA (pv 6) AB))) (AA (pv 7) AB))))) AB)))))
  (AV (Aq (BZ (AA (pv 2) (AA (pv 1) (AA (CP (ED (K:=K)) (by rfl) mt CG (AA (pv 4) AB)) AB)))))))),?_⟩
 refine⟨_,rfl,p,_,rfl,AK.of hp,rfl,_,_,rfl,_,_,rfl,_,_,rfl,rfl,?_⟩;refine⟨by exact E4,λR hR=>?_⟩;obtain⟨H1,zg,s1,zz⟩:=nw hR (.AD []);rw[zg];have e1:H1 R=some (.AD (([]:List Addr).map V.ref)):=zz;refine⟨_,rfl,rc,rfl,⟨_,AK.of (s1 _ _ hrc)⟩,?_⟩;refine JZ (xs:=bs.map V.ref) (λi σ H2=>∃u5 u6 u7 u8 ds,σ=[some (.ref p),some (.ref w),some (.ref u),some (.ref rc),some (.ref R),u5,u6,u7,u8]/\AN H H2/\H2 R=some (.AD (ds.map V.ref))/\At (A4 AS) H2 ds ((rows.map (Ie U)).take i))
  ⟨none,none,none,none,[],rfl,s1,e1,At.nil⟩ (λi σ H2 _ ⟨_,_,_,_,_,_,s2,_⟩=>AK.of (s2 _ _ hrc)) ?_ ?_
 ·rintro i x σ H2 hx ⟨u5,u6,u7,u8,ds,rfl,s2,eR,hD⟩;obtain⟨c,r,rfl,_,hy,hc⟩:=hB.ref hx;obtain⟨l4,sr⟩:=r4 r (jd hy);obtain⟨cs,hcs,hC⟩:=GR s2 hc;obtain⟨q0,q1,q2,q3,rfl⟩:∃q0 q1 q2 q3,r=[q0,q1,q2,q3]:=by
   match r,l4 with
   | [q0,q1,q2,q3],_=>exact⟨q0,q1,q2,q3,rfl⟩
  obtain⟨c0,c1,c2,c3,rfl⟩:∃c0 c1 c2 c3,cs=[c0,c1,c2,c3]:=by
   match cs,hC.1 with
   | [c0,c1,c2,c3],_=>exact⟨c0,c1,c2,c3,rfl⟩
  have f0:=hC.2 0 c0 q0 rfl rfl;have f1:=hC.2 1 c1 q1 rfl rfl;have f2:=hC.2 2 c2 q2 rfl rfl;have f3:=hC.2 3 c3 q3 rfl rfl;refine⟨c,_,rfl,AK.of hcs,rfl,_,_,rfl,_,_,rfl,_,_,rfl,_,_,rfl,rfl,?_⟩;refine⟨_,rfl,.inl ⟨rfl,_,AR.of eR⟩,_,rfl,_,rfl,u,c3,U,q3,rfl,s2 _ _ hu,f3,sU,sr q3 (by simp),λt3 ht3=>?_⟩;obtain⟨H3,zg,s3,e3⟩:=ND ht3 (U-q3);rw[zg];refine⟨_,rfl,_,rfl,_,rfl,u,c1,U,q1,rfl,s3 _ _ (s2 _ _ hu),Au s3 f1,sU,sr q1 (by simp),λt1 ht1=>?_⟩;obtain⟨H4,zg,s4,e4⟩:=ND ht1 (U-q1);rw[zg];refine⟨_,rfl,by exact Wv,λbx hbx=>?_⟩;obtain⟨H5,zg,s5,e5⟩:=nw hbx (.AG [.ref t3,.ref c0,.ref t1,.ref c2]);rw[zg];have s35:=s4.trans s5;have s25:=s3.trans s35;have tB:A4 AS H5 bx (Ie U [q0,q1,q2,q3]):=TF e5 (Au s35 e3) (Au s25 f0) (Au s5 e4) (Au s25 f2);refine⟨R,_,_,rfl,rfl,s25 _ _ eR,by rw[ja,hD.1,kB,ja]; exact Ce (by omega),?_⟩;refine⟨_,_,_,_,ds++[bx],rfl,(s2.trans s25).up hR _,by rw[AU]; simp,?_⟩;rw[C0 (show(rows.map (Ie U))[i]?=some (Ie U [q0,q1,q2,q3]) by rw[ji,hy]; rfl)];exact TZ (s25 _ _ eR) ((hD.keep GR s25).snoc tB)
 ·rintro σ H2 ⟨u5,u6,u7,u8,ds,rfl,s2,eR,hD⟩;rw[ja,show bs.length=rows.length from hB.1,jz (by rw[ja]; exact jj _)] at hD;refine⟨_,rfl,_,rfl,_,rfl,R,_,rfl,.inl ⟨AR.of eR,λtp htp=>⟨by exact EM,λq1 hq1=>?_⟩⟩⟩;obtain⟨H3,zg,s3,e3⟩:=nw htp (.AG (ds.map V.ref));rw[zg] at hq1 ⊢;have s4:=AY hq1 (.AG [.ref u,.ref w,.ref tp]);have s24:=s2.trans (s3.trans s4);exact q q1 _ s24 ⟨u,w,tp,AU,s24 _ _ hu,s24 _ _ hw,ds,s4 _ _ e3,(hD.keep GR s3).keep GR s4⟩
inductive SK(vs:List V)(H:Hp)(Q:VK):Prop
 | mk (a:Addr) (ns:List Int) (mo:Int) (h_0:vs=[.ref a,.int mo]) (h_1:H a=some (.AD (ns.map V.int))) (h_2:∀x∈ns,0<=x) (h_3:ns.length<=200) (h_4:1<=mo) (h_5:mo<=14) (h_8:∀p ra ta n rs us H',Bh a H H'->H' p=some (.AG [.int ((n:Nat):Int),.ref ra,.ref ta])->A4 BW H' ra rs->A4 BV H' ta us->K7 n rs us->Q (.ref p) H'):SK vs H Q
def VE:Sp:=λvs H Q _=>SK vs H Q
theorem iN:Ay ["_law_numbers_here","_law_most"] ["_law_numbers_here","_law_most"] (Ao s_law_some_net):=A7
theorem bN (F:Ar K "_law_some_net" "_law_some_net" s_law_some_net f fd) (G1:Aj P w K mg base 1 "_law_next" ["_law_numbers_here"] Mr)
  (G2:Aj P w K mg base 1 "_law_long" ["_law_cell"] Ul)
  (G3:Aj P w K mg base 4 "_law_grown" ["_law_numbers_here","_law_most","_law_great"] SD) :
  An P w K mg base Av 5 f fd ["_law_numbers_here","_law_most"] VE:=by
 refine F.BA iN λcdv A outer s H vs Q E hr h=>?_
 obtain⟨a,ns,mo,rfl,ha,hp,hl,mo1,mo2,q⟩:=h;have r1:=hr.mono (show 1<=4 by decide);refine⟨_,AO (Bn (BQ Dc (AL Bw (AZ G1 r1 (AA (pv 0) AB)) AE) AE (BJ _)) (AV (Aq (AZ G2 r1 (AA (AZ G1 r1 (AA (pv 0) AB)) AB)))) CA)
  (AV (Aq (AZ G3 hr (AA (pv 0) (AA (pv 1) (AA AE AB)))))),?_⟩
 refine⟨_,rfl,a,ns,rfl,ha,hp,hl,λz ns1 H1 s1 ha1 hp1 hl1 _=>?_⟩;refine⟨_,_,rfl,rfl,(show(0:Int)<8 by decide),rfl,_,rfl,?_⟩;refine LG (λ_=>?_) (λ_=>?_)
 ·exact⟨_,rfl,a,ns1,rfl,ha1,hp1,hl1,λz ns2 H2 s2 _ _ _ _=>⟨z,rfl,λp ra ta n rs us H3 s3=>q p ra ta n rs us H3 (s1.trans (s2.trans s3.b))⟩⟩
 ·exact⟨_,rfl,_,rfl,a,ns1,mo,999,rfl,ha1,hp1,hl1,mo1,mo2,by decide,by decide,λp ra ta n rs us H3 s3 h1 h2 h3 N D=>q p ra ta n rs us H3 (s1.trans s3) h1 h2 h3 (N.q D)⟩
theorem Kq(n:Nat)(q:Rat):FU (n+1) (KC q):=.AG λd hd=>by
 simp only[jK,ke,lM] at hd;rcases hd with rfl | rfl
 ·exact .int _
 ·exact .int _
theorem Qe(W U:Rat)(rows:List (List Rat)):FU 4 (Ux W U rows):=.AG λd hd=>by
 simp only[jK,ke,lM] at hd;rcases hd with rfl | rfl | rfl
 ·exact Kq 2 _
 ·exact Kq 2 _
 ·refine .AG λd hd=>?_
  obtain⟨r,_,rfl⟩:=js.mp hd;refine .AG λd hd=>?_
  obtain⟨x,_,rfl⟩:=js.mp hd;exact Kq 0 _
theorem SQ(p:Int->Rat)(Y:Nat->Rat)(rs:List AQ):∀r∈D4 p Y rs,r.length=4:=λr hr=>by
 unfold D4 at hr;obtain⟨k,hk,rfl⟩:=List.mem_mapIdx.mp hr;rfl
theorem cZ{n:Nat}{rs:List AQ}{X:Nat->Rat}{F:Rat}{p:Int->Rat}(two:∀r∈rs,r.1<n+2/\r.2.1<n+2)(hf:P7 n rs X F)(sp:∀x,AF (2*rs.length+2) x->Sf (p x)):∀r∈D4 p (λj=>X j*F) rs,r.length=4/\∀q∈r,Sf q:=λr hr=>by
 refine⟨SQ _ _ _ r hr,λq hq=>?_⟩;obtain⟨j,hj,e⟩:=jP hr;rw[HM] at hj;have g2:rs[j]?=some rs[j]:=jb hj
 have:=SH (p:=p) (Y:=λj=>X j*F) g2
 rw[jb (by rw[HM]; exact hj),e] at this;rw[jL this] at hq;obtain⟨t1,t2⟩:=two _ (jd g2);have s0:=sp (2*(j:Int)) ⟨by omega,by push_cast; omega⟩;have s1:=sp (2*(j:Int)+1) ⟨by omega,by push_cast; omega⟩;have mn:∀{a b:Rat},Sf a->Sf b->Sf (Gk a b):=λha hb=>by unfold Gk; split; exact hb; exact ha
 have mx:∀{a b:Rat},Sf a->Sf b->Sf (Gj a b):=λha hb=>by unfold Gj; split; exact ha; exact hb
 unfold Ht at hq;simp only[jK,ke,lM] at hq;rcases hq with rfl | rfl | rfl | rfl
 ·exact mn s0 s1
 ·exact mn (hf.ys _ t1) (hf.ys _ t2)
 ·exact mx s0 s1
 ·exact mx (hf.ys _ t1) (hf.ys _ t2)
theorem Dr.Wk{n m α β:Nat}{rs:List AQ}{X:Nat->Rat}(k:CD n m α β rs)(h:Dr n ((8+β*m+α)*n) rs X):Sf (A6 X rs 0):=by
 obtain⟨Z,N,z⟩:=h.Ky k
 have:=z.sum 0 rs.length (jj _)
 rw[lL] at this;exact this.sf z.z0 z.zl (by have:=k.len; have:=k.hb.m16; omega) z.nl
def Mb(K:jk):Sp:=λvs H Q _=>∃(a:Addr) (ns:List Int),vs=[.ref a]/\AR K H a (ns.map V.int)/\ns.length<=63/\∀H',Q (.bl true) H'
theorem Ij:Ay ["_law_script","_law_numbers_here","_law_fall_here","_law_net","_law_floor","_law_second","_law_found"] ["_law_script"] (Ao sLaw):=A7
set_option maxHeartbeats 4000000 in
seal L2.DC L2.PS L2.PE L2.PA in
theorem cm (F0:Ar K "law" "law" sLaw f fd) (G1:Aj P w K mg base 1 "_law_numbers" ["_law_script","_law_least"] (UT K))
  (G2:Aj P w K mg base 1 "_law_next" ["_law_numbers_here"] Mr)
  (G3:Aj P w K mg base 3 "_law_fall" ["_law_c"] TL)
  (G4:Aj P w K mg base 5 "_law_some_net" ["_law_numbers_here","_law_most"] VE)
  (G5:Aj P w K mg base 6 "laid" ["net","fall"] Um)
  (G6:Aj P w K mg base 5 "_law_is_floor" ["_law_found","_law_many"] Vm)
  (G7:Aj P w K mg base 1 "_law_begun" ["_law_turn"] Js)
  (G8:Aj P w K mg base 5 "other_net" ["net"] WU)
  (G9:Aj P w K mg base 4 "_law_quarter" ["_law_floor"] Wa)
  (G10:Aj P w K mg base 3 "_law_times" ["_law_a","_law_b"] (C7 λx y=>x*y))
  (G11:Aj P w K mg base 7 "ease_of" ["net"] RO) (ml:mg "len" = none) (mt:mg "tuple" = none) :
  An P w K mg base Av 8 f fd ["_law_script"] (Mb K):=by
 refine F0.ok Ij (λvs H Q E h=>?_) (λcdv A outer s H vs Q E hr h=>?_)
 ·obtain⟨a,ns,rfl,_⟩:=h;rfl
 obtain⟨a,ns,rfl,hS,hn,q⟩:=h;have hu:=hr.units;have r1:=hr.mono (show 1<=7 by decide);have r3:=hr.mono (show 3<=7 by decide);have r4:=hr.mono (show 4<=7 by decide);have r5:=hr.mono (show 5<=7 by decide);have r6:=hr.mono (show 6<=7 by decide);refine⟨_,AO (AW (i:=1) Ij.nd rfl (jn rfl) (AZ G1 r1 (AA (pv 0) (AA AE AB))))
  (AO (AW (i:=2) Ij.nd rfl (jn rfl) (AZ G3 r3 (AA (AZ G2 r1 (AA (pv 1) AB)) AB)))
  (AO (AW (i:=3) Ij.nd rfl (jn rfl) (AZ G4 r5 (AA (pv 1) (AA AE AB))))
  (AO (AW (i:=4) Ij.nd rfl (jn rfl) (AZ G5 r6 (AA (pv 3) (AA (pv 2) AB))))
  (AO (Bn (PW.pt (HY (IQ (GI (AZ G6 r5 (AA (pv 4) (AA (A3 (Be (K:=K)) (by rfl) ml BN (AA (pT K (pv 3) AE) AB)) AB)))))
   (HY (BQ (Oj hu) (pT K (pv 4) AE) (pv 2) (BJ _))
   (Jk (BQ Ia (pT K (pT K (pv 4) AE) AE) AE (BJ _)))))) (AV (Aq Hi)) CA)
  (AO (Bn (BQ (Oj hu) (AZ G5 r6 (AA (BZ (AA (pT K (pv 3) AE) (AA (pT K (pv 3) AE) (AA (CP (ED (K:=K)) (by rfl) mt CG (AA (C1 (Nc:=["_law_turn"]) (cap:=[]) (g:=BR 0) (te:=DT Js [] E0 (BO (Ap 0) CF)) rfl (Ib (K:=K) (pT K (pv 3) AE))
   (CB rfl rfl (by decide +kernel) (by decide +kernel) (jr _) rfl (jr _)) (λ_ _ _ _ _=>Af (i:=0) gO rfl (jn rfl)) (λ_ _ _ _ _=>AZ G7 r1 (AA (pv 0) AB))) AB)) AB)))) (AA (pv 2) AB))) (pv 4) (BJ _)) (AV (Aq Hi)) CA)
  (AO (AW (i:=5) Ij.nd rfl (jn rfl) (AZ G8 r5 (AA (pv 3) AB)))
  (AO (AW (i:=6) Ij.nd rfl (jn rfl) (AZ G5 r6 (AA (pv 5) (AA (pT K (pv 4) AE) AB))))
  (AO (Bn (PW.pt (HY (IQ (GI (AZ G6 r5 (AA (pv 6) (AA (A3 (Be (K:=K)) (by rfl) ml BN (AA (pT K (pv 3) AE) AB)) AB)))))
   (Jk (BQ (Oj hu) (pv 6) (AZ G9 r4 (AA (pv 4) AB)) (BJ _))))) (AV (Aq Hi)) CA)
  (AV (Aq (IJ (dC hu) (AZ G10 r3 (AA (AZ G11 hr (AA (pv 5) AB)) (AA (AZ G11 hr (AA (pv 3) AB)) AB))) (BZ (AA AE (AA AE AB))) (BJ _)))))))))))),?_⟩
 refine⟨_,rfl,a,ns,40,rfl,⟨hS,hn⟩,by decide,λL ms H1 s1 nL hL hp hl=>?_⟩;refine⟨_,rfl,L,ms,rfl,hL,hp,hl,λz ms2 H2 s2 hL2 hp2 hl2 z0=>?_⟩;refine⟨z,rfl,λfa H3 F s3 hF3 ⟨sF,F0⟩=>?_⟩;refine⟨_,rfl,L,ms2,8,rfl,s3 _ _ hL2,hp2,hl2,by decide,by decide,λp ra ta n rs ts H4 s4 hp4 hR4 hT4 N=>?_⟩;have hF4:AS H4 fa F:=s4 _ _ (λz=>by
  have:=s3 _ _ hL2
  rw[<-z] at this;have h:H3 fa=_:=hF3;rw[h] at this;cases this) hF3
 clear s1 s2 s3 s4 hF3 hL hL2;obtain⟨n,rfl⟩:∃n',n=n' + 2:=⟨n-2,by have:=N.n2; omega⟩;have k:=N.toNetV;have nk:=k.k;have m14:=N.m14;obtain⟨cs,hra,hC⟩:=id hR4;obtain⟨bs,hta,hB⟩:=id hT4;have lc:cs.length=rs.length:=hC.1;have lb:bs.length=n+2:=by rw[hB.1]; exact N.len
 refine⟨_,rfl,_,rfl,p,fa,ra,ta,n,rs,ts,F,rfl,hp4,hR4,hT4,hF4,nk,λX hX=>?_⟩;obtain⟨hf,⟨Z,M,wd⟩,_⟩:=hX.Ow nk sF;obtain⟨pt,hpt⟩:=dO (Y:=λj=>X j*F) k N.P1 (λi h2 hi=>by rw[Kb,hX.bal i h2 hi]; grind);have eW:A6 X rs 0*F=pt (2*(rs.length:Int)+1):=by
  have:=Nl k hpt (i:=0) (by omega)
  rwa [Kb,jq rfl] at this
 have W0:0<pt (2*(rs.length:Int)+1):=by rw[<-eW]; exact Rat.mul_pos (Zh nk hX) F0
 refine⟨pt,Z,M,⟨nk,hX,hf,m14,N.tn,N.GL,hpt,wd⟩,λfq H5 s5 sfp hFl=>?_⟩;refine⟨_,rfl,_,rfl,p,_,_,_,rfl,rfl,AK.of (s5 _ _ hp4),Ea _ _ _,ra,_,rfl,.inr (AK.of (s5 _ _ hra)),fq,_,_,_,_,rfl,hFl,SQ _ _ _,by rw[ja,lc,HM],by rw[HM]; omega,λH6 s6=>⟨_,rfl,C9 ?_⟩⟩;have s46:=s5.trans s6;replace hFl:=Li s6 hFl;obtain⟨wa,ua,rc,hq6,hW6,hU6,_⟩:=id hFl;refine⟨_,rfl,fq,_,_,_,rfl,rfl,AK.of hq6,Ea _ _ _,_,rfl,1,_,by decide,Ic hU6,Ic (Au s46 hF4),Kq 0 _,_,rfl,C9 ?_⟩;have wn:0<(pt (2*(rs.length:Int)+1)).num:=by have:=(wX _ _).mp W0; simpa using this
 have hW6':H6 wa=some (.AG [.int (pt (2*(rs.length:Int)+1)).num,.int (pt (2*(rs.length:Int)+1)).den]):=hW6;refine⟨_,rfl,fq,_,_,_,rfl,rfl,AK.of hq6,Iu _ _ _,wa,_,_,_,rfl,rfl,AK.of hW6',BF,_,_,rfl,rfl,_,rfl,Ca (by omega) ?_⟩;refine⟨_,rfl,p,_,_,_,rfl,rfl,AK.of (s46 _ _ hp4),Iu _ _ _,_,rfl,p,_,_,_,rfl,rfl,AK.of (s46 _ _ hp4),Ea _ _ _,_,rfl,p,_,_,_,rfl,rfl,AK.of (s46 _ _ hp4),Fu _ _ _,ta,rfl,⟨_,AK.of (s46 _ _ hta)⟩,λacc hacc=>?_⟩;refine CQ (GB (s46 _ _ hta)) (by rw[ja]; have:=N.n15; omega) hacc (λi ys σ hp=>∃ds:List Addr,ys=ds.map V.ref/\At BV hp ds ((ts.map Cd).take i)/\∃u,σ=[u]) ⟨[],rfl,At.nil,none,rfl⟩ ?_ ?_
 ·rintro i ys σ H8 x H9 hi sm hacc2 ⟨ds,rfl,hD,u,rfl⟩ ⟨rfl,hx⟩ Cc hCc;obtain⟨c,t,rfl,_,hy,hc⟩:=hB.ref hx;have tm:=jd hy;refine⟨_,rfl,c,t,rfl,sm _ _ (s46 _ _ hc),N.ne t tm,by have:=k.tlen tm; omega,λb HA sA hb=>?_⟩;refine hCc _ _ _ sA ⟨ds++[b],by simp,?_,_,rfl⟩;rw[C0 (show(ts.map Cd)[i]?=some (Cd t) by rw[ji,hy]; rfl)];exact(hD.keep Dy (Dz acc sA)).snoc (BV.BK hb (sA _ _ hacc2))
 rintro ys σ H8 s8 ha8 hl8 ⟨ds,rfl,hD,u,rfl⟩;rw[ja,lb,jz (by rw[ja,N.len]; exact jj _)] at hD;replace hD:=hD.keep Dy (Dl H8 acc);refine⟨acc,_,rfl,.inl ⟨AR.of ha8,λtp htp=>⟨by exact EM,λnp hnp=>?_⟩⟩⟩;obtain⟨H9,zg,s9,e9⟩:=nw htp (.AG (ds.map V.ref));rw[zg] at hnp ⊢;obtain⟨HA,zg,sA,eA⟩:=nw hnp (.AG [.int ((n+2:Nat):Int),.ref ra,.ref tp]);rw[zg];have s8A:=s9.trans sA;have s4A:=s46.trans (s8.trans s8A);obtain⟨k',nx'⟩:=k.Wy;refine⟨_,rfl,np,fa,ra,tp,n,rs,ts.map Cd,F,rfl,eA,⟨cs,s4A _ _ hra,hC.keep Cj s4A⟩,⟨ds,sA _ _ e9,hD.keep Dy s8A⟩,Au s4A hF4,nk,λX' hX'=>?_⟩;have eX:=Ln nk hX' hX.x0 hX.x1 hX.bal;obtain⟨hf',⟨Z',M',wd'⟩,_⟩:=hX'.Ow nk sF;refine⟨pt,Z',M',⟨nk,hX',hf',m14,k'.tn,λS h1 h2 h0 x hx=>N.GL S (λx hx=>by rw[<-nx' x hx]; exact h1 x hx) h2 h0 x hx,hpt.of (λr hr=>?_) nx',wd'⟩,λfq2 HB sB _ hFl2=>?_⟩
 ·unfold As;dsimp only;rw[eX _ (nk.two r hr).1,eX _ (nk.two r hr).2]
 have eb:D4 pt (λj=>X' j*F) rs=D4 pt (λj=>X j*F) rs:=by
  unfold D4;refine oS λj=>?_
  rw[lS,lS];cases hj:rs[j]? with
  | none=>rfl
  | some r =>
   obtain⟨t1,t2⟩:=nk.two r (jd hj);show some _=some _;unfold Ht;dsimp only;rw[eX _ t1,eX _ t2]
 rw[eb] at hFl2;have s6B:=s8.trans (s8A.trans sB);have s4B:=s46.trans s6B;have hFlB:=Li s6B hFl;refine⟨_,rfl,4,_,by decide,Lh hFl2,Lh hFlB,Qe _ _ _,_,rfl,C9 ?_⟩;obtain⟨L1,hL1⟩:∃L,L=Al (AJ ts) (2*rs.length+2):=⟨_,rfl⟩;obtain⟨os,ho⟩:∃o,o=Hm L1.length (BD L1 (2*(rs.length:Int)+1)) (BD L1 (2*(rs.length:Int))):=⟨_,rfl⟩;have two:=Se N.tn hpt W0;rw[<-hL1] at two;obtain⟨n1,hn1,qu⟩:=bQ N sF hX hpt W0 sfp hL1 ho;refine⟨_,rfl,p,ra,ta,n+2,rs,ts,L1,os,rfl,s4B _ _ hp4,k,N.GL.Wq,⟨cs,s4B _ _ hra,hC.keep Cj s4B⟩,⟨bs,s4B _ _ hta,hB.keep Dy s4B⟩,hL1,ho,two,λp1 cr tr HC sC hp1 hR1 hT1=>?_⟩;rw[hn1] at hp1;have sl:=qu.nk.len;generalize CC L1 os rs=rs1 at hR1 qu sl;generalize (DU rs.length L1 os).map Cd=ts1 at hT1 qu;have s6C:=s6B.trans sC;refine⟨_,rfl,_,rfl,fq,_,_,_,rfl,rfl,AK.of (s6C _ _ hq6),Iu _ _ _,p1,wa,cr,tr,n1,rs1,ts1,_,rfl,hp1,hR1,hT1,Au s6C hW6,qu.nk,λX2 hX2=>?_⟩;obtain⟨_,p2,Z2,M2,ly2,e2,eb2⟩:=qu.Wr X2 hX2;refine⟨p2,Z2,M2,ly2,λfq3 HD sD _ hFl3=>?_⟩;rw[e2,eb2] at hFl3;have s4D:=s4B.trans (sC.trans sD);refine⟨_,rfl,_,rfl,p,_,_,_,rfl,rfl,AK.of (s4D _ _ hp4),Ea _ _ _,ra,_,rfl,.inr (AK.of (s4D _ _ hra)),fq3,_,_,_,_,rfl,hFl3,λr hr=>?_,by rw[ja,lc,ja,HM],by rw[ja,HM]; omega,λHE sE=>⟨_,rfl,C9 ?_⟩⟩
 ·obtain⟨_,_,rfl⟩:=js.mp hr;rfl
 have sBE:=sC.trans (sD.trans sE);refine⟨_,rfl,_,rfl,fq,_,F,_,rfl,Li sBE hFlB,cZ nk.two hf sfp,by rw[HM]; omega,hf.sF,λfq4 HF sF' hFl4=>?_⟩;refine⟨4,_,by decide,Lh (Li (sE.trans sF') hFl3),Lh hFl4,Qe _ _ _,_,rfl,C9 ?_⟩;have sCF:=sD.trans (sE.trans sF');refine⟨_,rfl,p1,n1,14,10,10,rs1,rfl,⟨cr,_,sCF _ _ hp1,EU (R:=BW) (λs h=>Cj s h) sCF hR1⟩,qu.nk,λea HG X3 sG hX3 hea=>?_⟩;have s4G:=s4D.trans (sE.trans (sF'.trans sG));refine⟨_,rfl,p,n,14,10,10,rs,rfl,⟨ra,_,s4G _ _ hp4,cs,s4G _ _ hra,hC.keep Cj s4G⟩,nk,λeb HH X4 sH hX4 heb=>?_⟩;have e3:=(qu.Wr X3 hX3).1;have e4:A6 X4 rs 0=A6 X rs 0:=by
  unfold A6;refine KQ λr hr=>?_
  unfold Cq As;rw[Ln nk hX4 hX.x0 hX.x1 hX.bal _ (nk.two r hr).1,Ln nk hX4 hX.x0 hX.x1 hX.bal _ (nk.two r hr).2]
 rw[<-e4] at eW;have ep:A6 X3 rs1 0*A6 X4 rs 0=1:=by
  have f0:F≠0:=λz=>by rw[z] at F0; exact absurd F0 pD
  have w0:pt (2*(rs.length:Int)+1)≠0:=λz=>by rw[z] at W0; exact absurd W0 pD
  grind
 refine⟨ea,eb,_,_,rfl,Au sH hea,heb,hX3.Wk qu.nk,hX4.Wk nk,λt ht=>?_⟩;rw[ep];obtain⟨HI,zg,sI,eI⟩:=ND ht 1;rw[zg];refine⟨by exact B6,λo ho'=>?_⟩;have sJ:=AY ho' (.AG [.int 1,.int 1]);exact⟨1,_,by decide,Ic (Au sJ eI),Ic (q:=1) AU,Kq 0 _,q _⟩
end
end My
namespace My
open PySem L2 Mth
section
variable {K:jk} {x qn:Str} {st:Stmt} {f C:Addr} {oc kV doc pm cdv ct:Value} {od an:Option Addr} {osl:Array (Option Value)} {fd:kF} {ps:List Str}
structure Dq(K:jk)(x:Str)(st:Stmt)(ps:List Str)(f:Addr)(fd:kF):Prop where
 F:Ar K x x st f fd
 b:EV K fd ps []
 a:vp K lW x=some (some (.ref f))
theorem Dq.all{h:Heap}{mg:Str->Option Value}(d:Dq K x st ps f fd)(X:K.In h)(G:h.Ns lW mg):Ar K x x st f fd/\EV K fd ps []/\qd K (.ref f)=true/\mg x=some (.ref f):=⟨d.F,d.b,d.F.kp,uN X G d.a⟩
theorem Dq.A8{h:Heap}{mg:Str->Option Value}{k:Nat}{sp:Sp}(d:Dq K x st ps f fd)(l:qS)(w:World)(base:Heap)(X:K.In h)(G:h.Ns lW mg)(o:Ar K x x st f fd->An l.prog w K mg base Av k f fd ps sp):Aj l.prog w K mg base k x ps sp:=⟨f,fd,o d.F,d.b,d.F.kp,uN X G d.a⟩
theorem dq (a:vp K lW x=some (some (.ref f))) (l:K.lookup f=some ⟨oc,od,.func (mN x x (Fc st) (El st) (Ao st) .none kV doc pm an cdv ct),osl⟩) (c:rC K cdv x=true) (k:qd K (.ref f)=true)
  (b:∀{fd},Ar K x x st f fd->EV K fd ps []):Dq K x st ps f (mN x x (Fc st) (El st) (Ao st) .none kV doc pm an cdv ct):=⟨VA l c k,b (VA l c k),a⟩
theorem bn1(st:Stmt)(x qn:Str){p0:Str}(h:∀(kV doc pm:Value) (an:Option Addr) (cdv ct a0:Value),tL (mN x qn (Fc st) (El st) (Ao st) .none kV doc pm an cdv ct) ⟨[a0],[]⟩=pure [(p0,a0)]:=by intros; rfl)(F:Ar K x qn st f fd):EV K fd [p0] []:=F.binds λkV doc pm an cdv ct us hl=>by
 match us,hl with
 | [a0],_=>exact h kV doc pm an cdv ct a0
theorem bn2(st:Stmt)(x qn:Str){p0 p1:Str}(h:∀(kV doc pm:Value) (an:Option Addr) (cdv ct a0 a1:Value),tL (mN x qn (Fc st) (El st) (Ao st) .none kV doc pm an cdv ct) ⟨[a0,a1],[]⟩=pure [(p0,a0),(p1,a1)]:=by intros; rfl)(F:Ar K x qn st f fd):EV K fd [p0,p1] []:=F.binds λkV doc pm an cdv ct us hl=>by
 match us,hl with
 | [a0,a1],_=>exact h kV doc pm an cdv ct a0 a1
theorem bn3(st:Stmt)(x qn:Str){p0 p1 p2:Str}(h:∀(kV doc pm:Value) (an:Option Addr) (cdv ct a0 a1 a2:Value),tL (mN x qn (Fc st) (El st) (Ao st) .none kV doc pm an cdv ct) ⟨[a0,a1,a2],[]⟩=pure [(p0,a0),(p1,a1),(p2,a2)]:=by intros; rfl)(F:Ar K x qn st f fd):EV K fd [p0,p1,p2] []:=F.binds λkV doc pm an cdv ct us hl=>by
 match us,hl with
 | [a0,a1,a2],_=>exact h kV doc pm an cdv ct a0 a1 a2
theorem bn4(st:Stmt)(x qn:Str){p0 p1 p2 p3:Str}(h:∀(kV doc pm:Value) (an:Option Addr) (cdv ct a0 a1 a2 a3:Value),tL (mN x qn (Fc st) (El st) (Ao st) .none kV doc pm an cdv ct) ⟨[a0,a1,a2,a3],[]⟩=pure [(p0,a0),(p1,a1),(p2,a2),(p3,a3)]:=by intros; rfl)(F:Ar K x qn st f fd):EV K fd [p0,p1,p2,p3] []:=F.binds λkV doc pm an cdv ct us hl=>by
 match us,hl with
 | [a0,a1,a2,a3],_=>exact h kV doc pm an cdv ct a0 a1 a2 a3
structure Zq(K:jk)(x:Str):Prop where
 a:vp K lW x=some none
end
set_option maxHeartbeats 4000000 in
theorem all_mk {l:qS} {w:World} {K:jk} {h:Heap} {mg:Str->Option Value} {fa f1 f2 f3 f4 f5 f6 f7 f8 f9 f10 f11 f12 f13 f14 f15 f16 f17 f18 f19 f20 f21 f22 f23 f24 f25 f26 f27 f28 f29 f30 f31 f32 f33 f34 f35 f36 f37 f38 f39 f40 f41 f42 f43 f44 f45 f46 f47 f48 f49 f50 f51 f52 f53 f54 f55 f56 f57 f58 f59 f60:Addr} {d1 d2 d3 d4 d5 d6 d7 d8 d9 d10 d11 d12 d13 d14 d15 d16 d17 d18 d19 d20 d21 d22 d23 d24 d25 d26 d27 d28 d29 d30 d31 d32 d33 d34 d35 d36 d37 d38 d39 d40 d41 d42 d43 d44 d45 d46 d47 d48 d49 d50 d51 d52 d53 d54 d55 d56 d57 d58 d59 d60:kF} (X:K.In h) (G:h.Ns lW mg) (hfa:mg "law" = some (.ref fa))
  (h1:Dq K "common_part" sCommon ["one","other"] f1 d1)
  (h2:Dq K "fraction" sFraction ["top","bottom"] f2 d2)
  (h3:Dq K "plus" sPlus ["one","other"] f3 d3)
  (h4:Dq K "minus" sMinus ["one","other"] f4 d4)
  (h5:Dq K "times" sTimes ["one","other"] f5 d5)
  (h6:Dq K "over" sOver ["one","other"] f6 d6)
  (h7:Dq K "less" s_less ["one","other"] f7 d7)
  (h8:Dq K "common_bottom" sCBot ["row"] f8 d8)
  (h9:Dq K "wholes" sWholes ["row","bottom"] f9 d9)
  (h10:Dq K "other_end" sOther ["end"] f10 d10)
  (h11:Dq K "ends_ahead" sAhead ["turns"] f11 d11)
  (h12:Dq K "ring_from" sRingFrom ["start","ahead"] f12 d12)
  (h13:Dq K "rings" sRings ["turns"] f13 d13)
  (h14:Dq K "land_of" sLandOf ["turns"] f14 d14)
  (h15:Dq K "begun_least" s_begun_least ["turn"] f15 d15)
  (h16:Dq K "told_turns" s_told_turns ["turns"] f16 d16)
  (h17:Dq K "lands_placed" s_lands_placed ["count","upper","lower"] f17 d17)
  (h18:Dq K "places_of" s_places_of ["lands"] f18 d18)
  (h19:Dq K "turn_of" s_turn_of ["ring","outer"] f19 d19)
  (h20:Dq K "other_net" s_other_net ["net"] f20 d20)
  (h21:Dq K "led" sLed ["rows","k"] f21 d21)
  (h22:Dq K "swept_row" sSweptRow ["row","lead","k","before"] f22 d22)
  (h23:Dq K "swept" sSwept ["rows"] f23 d23)
  (h24:Dq K "found_back" sBack ["rows"] f24 d24)
  (h25:Dq K "answer" sAnswer ["table","right"] f25 d25)
  (h26:Dq K "ease_table" sEaseTable ["net"] f26 d26)
  (h27:Dq K "poleless" sPoleless ["table"] f27 d27)
  (h28:Dq K "heights" sHeights ["net"] f28 d28)
  (h29:Dq K "fall_of" sFallOf ["rope","levels"] f29 d29)
  (h30:Dq K "runnings_by" sRunBy ["net","levels"] f30 d30)
  (h31:Dq K "runnings" sRunnings ["net"] f31 d31)
  (h32:Dq K "ease_of" sEaseOf ["net"] f32 d32)
  (h33:Dq K "land_sides" s_land_sides ["lands","widths"] f33 d33)
  (h34:Dq K "rising" s_rising ["one","other"] f34 d34)
  (h35:Dq K "laid" s_laid ["net","fall"] f35 d35)
  (h36:Dq K "_law_numbers" s_law_numbers ["_law_script","_law_least"] f36 d36)
  (h37:Dq K "_law_whole" sWhole ["_law_found"] f37 d37)
  (h38:Dq K "_law_row" s_law_row ["_law_found","_law_many"] f38 d38)
  (h39:Dq K "_law_divisor" s_law_divisor ["_law_a","_law_b"] f39 d39)
  (h40:Dq K "_law_fraction" sLFrac ["_law_top","_law_bottom"] f40 d40)
  (h41:Dq K "_law_ease" sLEase ["_law_c","_law_most"] f41 d41)
  (h42:Dq K "_law_ahead" s_law_ahead ["_law_turns"] f42 d42)
  (h43:Dq K "_law_land" s_law_land ["_law_ahead_here","_law_start"] f43 d43)
  (h44:Dq K "_law_corner" s_law_corner ["_law_turns","_law_end"] f44 d44)
  (h45:Dq K "_law_grow" sGrow ["_law_ropes","_law_turns","_law_c","_law_ease_here"] f45 d45)
  (h46:Dq K "_law_order" s_law_order ["_law_many","_law_c"] f46 d46)
  (h47:Dq K "_law_finished" s_law_finished ["_law_ropes","_law_turns","_law_c"] f47 d47)
  (h48:Dq K "_law_next" sNext ["_law_numbers_here"] f48 d48)
  (h49:Dq K "_law_grown" s_law_grown ["_law_numbers_here","_law_most","_law_great"] f49 d49)
  (h50:Dq K "_law_long" s_law_long ["_law_cell"] f50 d50)
  (h51:Dq K "_law_some_net" s_law_some_net ["_law_numbers_here","_law_most"] f51 d51)
  (h52:Dq K "_law_begun" s_law_begun ["_law_turn"] f52 d52)
  (h53:Dq K "_law_is_fraction" s_law_is_fraction ["_law_found"] f53 d53)
  (h54:Dq K "_law_fractions_are" s_law_fractions_are ["_law_found","_law_many"] f54 d54)
  (h55:Dq K "_law_is_floor" s_law_is_floor ["_law_found","_law_many"] f55 d55)
  (h56:Dq K "_law_minus" s_law_minus ["_law_a","_law_b"] f56 d56)
  (h57:Dq K "_law_times" s_law_times ["_law_a","_law_b"] f57 d57)
  (h58:Dq K "_law_fall" s_law_fall ["_law_c"] f58 d58)
  (h59:Dq K "_law_quarter" s_law_quarter ["_law_floor"] f59 d59)
  (h60:Dq K "law" sLaw ["_law_script"] f60 d60)
  (z_abs:Zq K "abs")
  (z_len:Zq K "len")
  (z_range:Zq K "range")
  (z_list:Zq K "list")
  (z_zip:Zq K "zip")
  (z_tuple:Zq K "tuple")
  (z_sum:Zq K "sum")
  (z_min:Zq K "min")
  (z_max:Zq K "max")
  (z_enumerate:Zq K "enumerate")
  (z_all:Zq K "all")
  (z_isinstance:Zq K "isinstance")
  (z_int:Zq K "int")
  (z_bool:Zq K "bool")
  (z_reversed:Zq K "reversed")
  : ∃fd:kF,(∀(s:jh) (v:Value),uq s fd ⟨[v],[]⟩ [("_law_script",v)])/\∀base:Heap,K.In base->base.Ns lW mg->An l.prog w K mg base Av 8 fa fd ["_law_script"] (Mb K):=by
 have e:=hfa.symm.trans (uN X G h60.a);cases e;have ⟨F60,b60,k60,m60⟩:=h60.all X G;have m_abs:=kP X G z_abs.a;have m_len:=kP X G z_len.a;have m_range:=kP X G z_range.a;have m_list:=kP X G z_list.a;have m_zip:=kP X G z_zip.a;have m_tuple:=kP X G z_tuple.a;have m_sum:=kP X G z_sum.a;have m_min:=kP X G z_min.a;have m_max:=kP X G z_max.a;have m_enumerate:=kP X G z_enumerate.a;have m_all:=kP X G z_all.a;have m_isinstance:=kP X G z_isinstance.a;have m_int:=kP X G z_int.a;have m_bool:=kP X G z_bool.a;have m_reversed:=kP X G z_reversed.a;refine⟨d60,λs v=>by obtain⟨_,_,_,_,_,_,_,_,_,rfl,_⟩:=F60.ex; exact .of_eq rfl,λbase _ _=>?_⟩;have O1:=h1.A8 l w base X G λF=>Yd F  m_abs
 have O2:=h2.A8 l w base X G λF=>Xb (C:=0) F O1
 have O3:=h3.A8 l w base X G λF=>aa F O2
 have O4:=h4.A8 l w base X G λF=>ZO F O2
 have O5:=h5.A8 l w base X G λF=>ZN F O2
 have O6:=h6.A8 l w base X G λF=>fK F O2
 have O7:=h7.A8 l w base X G λF=>cG F
 have O8:=h8.A8 l w base X G λF=>bM F O1
 have O9:=h9.A8 l w base X G λF=>Yr F
 have O21:=h21.A8 l w base X G λF=>dG F  m_len m_range m_list
 have O22:=h22.A8 l w base X G λF=>XZ F  m_zip
 have O23:=h23.A8 l w base X G λF=>Zv F O21 O22 m_len m_range
 have O24:=h24.A8 l w base X G λF=>bH F O2 m_len m_range m_zip m_sum m_tuple
 have O25:=h25.A8 l w base X G λF=>YJ (C2:=0) F O8 O9 O23 O24 m_len m_zip
 have O26:=h26.A8 l w base X G λF=>aC F O3 O4 m_range m_tuple
 have O27:=h27.A8 l w base X G λF=>ba F  m_tuple
 have O28:=h28.A8 l w base X G λF=>Xg F O26 O4 O27 O25 m_tuple
 have O29:=h29.A8 l w base X G λF=>ag F O4
 have O30:=h30.A8 l w base X G λF=>ZT F O5 O29 m_tuple
 have O31:=h31.A8 l w base X G λF=>XR F O30 O28
 have O32:=h32.A8 l w base X G λF=>YI F O3 O4 O31 m_zip
 have O10:=h10.A8 l w base X G λF=>ZL F
 have O11:=h11.A8 l w base X G λF=>Y3 F  m_enumerate
 have O12:=h12.A8 l w base X G λF=>XU F O10 m_tuple
 have O13:=h13.A8 l w base X G λF=>Zp F O11 O12 m_len m_range m_tuple
 have O14:=h14.A8 l w base X G λF=>Yz F O13 m_len m_range m_tuple m_enumerate
 have O15:=h15.A8 l w base X G λF=>cj F  m_min
 have O16:=h16.A8 l w base X G λF=>ZF F O15 m_tuple
 have O17:=h17.A8 l w base X G λF=>YH F  m_range
 have O18:=h18.A8 l w base X G λF=>dr F  m_enumerate
 have O19:=h19.A8 l w base X G λF=>eu F O10 m_tuple
 have O20:=h20.A8 l w base X G λF=>dy F O13 O14 O17 O18 O6 O19 O16 m_len m_enumerate m_tuple
 have O33:=h33.A8 l w base X G λF=>Ze F O3 O4 m_len m_max m_enumerate
 have O34:=h34.A8 l w base X G λF=>Y1 F O7
 have O35:=h35.A8 l w base X G λF=>ai F O5 O28 O14 O33 O30 O34 m_len m_enumerate m_tuple
 have O36:=h36.A8 l w base X G λF=>Xq F  m_len m_range m_max m_min m_abs
 have O37:=h37.A8 l w base X G λF=>ZQ F  m_isinstance m_int m_bool
 have O38:=h38.A8 l w base X G λF=>dU F O37 m_isinstance m_tuple m_len m_all
 have O39:=h39.A8 l w base X G λF=>X7 F
 have O40:=h40.A8 l w base X G λF=>Zb F O39 m_abs
 have O41:=h41.A8 l w base X G λF=>Zm F O40
 have O42:=h42.A8 l w base X G λF=>Xl F  m_enumerate
 have O43:=h43.A8 l w base X G λF=>az 2 (λh1 h2=>WE h1 h2) F
 have O44:=h44.A8 l w base X G λF=>YT F  m_enumerate
 have O45:=h45.A8 l w base X G λF=>ao F O44 O42 O43 m_len
 have O46:=h46.A8 l w base X G λF=>Y6 F  m_len m_range m_list
 have O47:=h47.A8 l w base X G λF=>dD F O46 m_len m_enumerate m_tuple
 have O48:=h48.A8 l w base X G λF=>Zy F  m_len
 have O49:=h49.A8 l w base X G λF=>Zs F O48 O41 O45 O47 m_len
 have O52:=h52.A8 l w base X G λF=>bV F  m_min m_tuple
 have O50:=h50.A8 l w base X G λF=>bu F  m_len m_range m_list m_min m_int m_reversed m_enumerate m_tuple
 have O51:=h51.A8 l w base X G λF=>bN F O48 O50 O49
 have O53:=h53.A8 l w base X G λF=>dg F O38 O39 m_abs
 have O54:=h54.A8 l w base X G λF=>eh F O53 m_isinstance m_tuple m_len m_all
 have O55:=h55.A8 l w base X G λF=>cf F O54 m_isinstance m_tuple m_len m_all
 have O56:=h56.A8 l w base X G λF=>Ym F O40
 have O58:=h58.A8 l w base X G λF=>Z7 F O40
 have O57:=h57.A8 l w base X G λF=>Yk F O40
 have O59:=h59.A8 l w base X G λF=>Xf F O56 m_tuple
 exact cm F60 O36 O48 O58 O51 O35 O55 O52 O20 O59 O57 O32 m_len m_tuple
theorem walk {l:qS} {q:j8} {loose:List Str} {XP:(Str->Option Value)->Heap->Prop} {YP:World->Heap->Prop} {d:DefRec} {K:Params->jk} (hn:l.most=some 63) (hdf:d.params.defaults=[])
  (hY:∀(w:World) (h:Heap),YP w h->(K w.params).In h)
  (F:∀(w:World) (mg:Str->Option Value) (fa:Addr) (h:Heap),(K w.params).In h->h.Ns lW mg->mg d.name=some (.ref fa) →
   ∃fd:kF,(∀(s:jh) (u:Value),uq s fd ⟨[u],[]⟩ [("_law_script",u)])/\∀base:Heap,(K w.params).In base->base.Ns lW mg->An l.prog w (K w.params) mg base Av 8 fa fd ["_law_script"] (Mb (K w.params))) :
  xt q loose XP YP l.row.toRowW d [] (λf vs=>wV f vs) :=
 L2.aW (n:=63) (k:=8) (x:="_law_script") (CX:=λ_=>Av) (sp:=λw=>Mb (K w.params)) hn (by decide) hdf ⟨rfl,by decide,by decide⟩ hY F (λ_ _ a ns hl _ hS=>⟨a,ns,rfl,hS,hl,λ_=>rfl⟩) λ_ _ _ _ _ z=>z
end My
namespace PySem.W.Fast
theorem tw11573204530962549339:True:=trivial
theorem tw2039902268414573913:True:=trivial
theorem tw12394772722641937786:True:=trivial
theorem tw9306940103803836466:True:=trivial
theorem tw9303401818680280103:True:=trivial
theorem tw11060139855330549038:True:=trivial
theorem tw15760947047029653190:True:=trivial
theorem tw2581830374120273888:True:=trivial
theorem tw397667207947765678:True:=trivial
theorem tw16698087040127649864:True:=trivial
theorem tw5900088671805278640:True:=trivial
theorem tw6569369231755175162:True:=trivial
theorem tw16217568095162327086:True:=trivial
theorem tw16831743355123494605:True:=trivial
theorem tw10819513826053462109:True:=trivial
theorem tw14318179827103593593:True:=trivial
theorem tw15317668326805292255:True:=trivial
theorem tw10415532508972926091:True:=trivial
theorem tw17080495579697361238:True:=trivial
theorem tw16892394498696128803:True:=trivial
theorem tw4535165742524093175:True:=trivial
theorem tw16330754630691240063:True:=trivial
theorem tw8832081590912771148:True:=trivial
theorem tw1323159873419537582:True:=trivial
theorem tw13865426577240888199:True:=trivial
theorem tw638134641053492149:True:=trivial
theorem tw8593768652949260232:True:=trivial
theorem tw6337914389522589477:True:=trivial
theorem tw11417015000189940508:True:=trivial
theorem tw5205727758820947871:True:=trivial
theorem tw3458446282718403852:True:=trivial
theorem tw11634053524390950160:True:=trivial
theorem tw15839354374528082574:True:=trivial
theorem tw7963437199138157409:True:=trivial
theorem tw15374866149522652839:True:=trivial
theorem tw9757565783968950838:True:=trivial
theorem tw4450194826816508702:True:=trivial
theorem tw17889205977950745980:True:=trivial
theorem tw16174420718071839834:True:=trivial
theorem tw1169309026710149519:True:=trivial
theorem tw6649658672643267840:True:=trivial
theorem tw1306994461817418097:True:=trivial
theorem tw8707064943345727962:True:=trivial
theorem tw13694341412118818698:True:=trivial
theorem tw11120749205787702881:True:=trivial
theorem tw14300439293290779448:True:=trivial
theorem tw13741988168345016197:True:=trivial
theorem tw152409558997324078:True:=trivial
theorem tw14672826096129495704:True:=trivial
theorem tw17413419549720623765:True:=trivial
theorem tw7318396609011348256:True:=trivial
theorem tw6254764364698831579:True:=trivial
theorem tw685005452106327166:True:=trivial
theorem tw10463729576841422112:True:=trivial
theorem tw459173641464013545:True:=trivial
theorem tw13103058265567372534:True:=trivial
theorem tw17354775314083886488:True:=trivial
theorem tw459013612678404194:True:=trivial
theorem tw12521099088934070246:True:=trivial
theorem tw8866448381803469059:True:=trivial
theorem tw1649338189301126429:True:=trivial
theorem tw10748260589079016825:True:=trivial
theorem tw12170749923441054297:True:=trivial
theorem tw6182427139791350958:True:=trivial
theorem tw14007906338881527922:True:=trivial
theorem tw4436177021573718682:True:=trivial
theorem tw6370435342569832915:True:=trivial
theorem tw13531700632340491838:True:=trivial
theorem tw981675772329036503:True:=trivial
theorem tw4512848044463817953:True:=trivial
theorem tw3043859373904528181:True:=trivial
theorem tw1942948966230126939:True:=trivial
theorem tw328274470837124305:True:=trivial
theorem tw3008958360558240865:True:=trivial
theorem tw11467467778650282832:True:=trivial
theorem tw11428933089080066844:True:=trivial
theorem tw6602555069041502505:True:=trivial
theorem tw8926217552022625108:True:=trivial
theorem tw10821782099539099822:True:=trivial
theorem tw2341111264492698654:True:=trivial
theorem tw4915296007717331315:True:=trivial
theorem tw5940012469983991967:True:=trivial
theorem tw14631030423780686213:True:=trivial
theorem tw7410571637489187575:True:=trivial
theorem tw13028242098461755922:True:=trivial
theorem tw14539946404910529122:True:=trivial
theorem tw10775196324045330721:True:=trivial
theorem tw14712952889462267517:True:=trivial
theorem tw16892628167959258113:True:=trivial
theorem tw1329877222861054149:True:=trivial
theorem tw12322376293349054920:True:=trivial
theorem tw15716239802179360261:True:=trivial
theorem tw15301628546567532081:True:=trivial
theorem tw9924674448180013472:True:=trivial
theorem tw12605502396679475669:True:=trivial
theorem tw16573662613874698303:True:=trivial
theorem tw16402352269556141057:True:=trivial
theorem tw13512436312303207779:True:=trivial
theorem tw13063985243186739349:True:=trivial
theorem tw18123365393230361150:True:=trivial
theorem tw13898405564986737682:True:=trivial
theorem te7582318046000793795:True:=trivial
theorem tw9066285065770815017:True:=trivial
theorem tw18197563423869820094:True:=trivial
theorem tw8732413854571802707:True:=trivial
theorem tw1150283498447816359:True:=trivial
theorem tw1321050574411003333:True:=trivial
theorem tw14901961970304857731:True:=trivial
theorem tw14023880553342192429:True:=trivial
theorem tw2492523935441462938:True:=trivial
theorem tw6597951745032798862:True:=trivial
theorem tw5662722695139438764:True:=trivial
theorem tw13224129464564433743:True:=trivial
theorem tw2412434439052958635:True:=trivial
theorem tw3773745697327200240:True:=trivial
theorem tw18263053291097470062:True:=trivial
theorem tw10267705200773087118:True:=trivial
theorem tw17682641925282802941:True:=trivial
theorem tw1447408530701998307:True:=trivial
theorem tw2238152637986977602:True:=trivial
theorem tw4179525175064025926:True:=trivial
theorem tw10254501306626727558:True:=trivial
theorem tw15396489984771632561:True:=trivial
theorem tw13863590299866009076:True:=trivial
theorem tw9196858922026928723:True:=trivial
theorem tw31272187722072079:True:=trivial
theorem tw9784518051482150985:True:=trivial
theorem tw16219150628565955994:True:=trivial
theorem tw5312708128241359940:True:=trivial
theorem tw8018168474055178464:True:=trivial
theorem tw735701983661032273:True:=trivial
theorem tw2563354500340004425:True:=trivial
theorem tw16373988984297941073:True:=trivial
theorem tw3571852557990744833:True:=trivial
theorem tw502299657374773253:True:=trivial
theorem tw16677065993652790260:True:=trivial
theorem tw4921214724717142295:True:=trivial
theorem tw11484635316893429771:True:=trivial
theorem tw3847126219352392492:True:=trivial
theorem tw7063861739151222078:True:=trivial
theorem tw17423451406481177111:True:=trivial
theorem tw6011852503277573264:True:=trivial
theorem tw307693336653355648:True:=trivial
end PySem.W.Fast
open PySem PySem.W PyProof.Rows
set_option maxRecDepth 100000 in
set_option maxHeartbeats 0 in
theorem PySem.Challenge.cw_currentfloor_k36_whole_other_floor_turne_holds : PySem.Challenge.rw_currentfloor_k36_whole_other_floor_turne.Holds := by
  w_on; o_law; k_head; (case hw => w_witness2)
  k_fill
  refine My.walk (l := PySem.Challenge.rw_currentfloor_k36_whole_other_floor_turne) rfl rfl (fun w h Y => PySem.W.kIn_of Y) ?F
  case F =>
    intro w mg fa h KX G hmg
    refine' My.all_mk KX G hmg (My.dq ?_ ?_ ?_ ?_ (My.bn2 My.sCommon _ _)) (My.dq ?_ ?_ ?_ ?_ (My.bn2 My.sFraction _ _)) (My.dq ?_ ?_ ?_ ?_ (My.bn2 My.sPlus _ _)) (My.dq ?_ ?_ ?_ ?_ (My.bn2 My.sMinus _ _)) (My.dq ?_ ?_ ?_ ?_ (My.bn2 My.sTimes _ _)) (My.dq ?_ ?_ ?_ ?_ (My.bn2 My.sOver _ _)) (My.dq ?_ ?_ ?_ ?_ (My.bn2 My.s_less _ _)) (My.dq ?_ ?_ ?_ ?_ (My.bn1 My.sCBot _ _)) (My.dq ?_ ?_ ?_ ?_ (My.bn2 My.sWholes _ _)) (My.dq ?_ ?_ ?_ ?_ (My.bn1 My.sOther _ _)) (My.dq ?_ ?_ ?_ ?_ (My.bn1 My.sAhead _ _)) (My.dq ?_ ?_ ?_ ?_ (My.bn2 My.sRingFrom _ _)) (My.dq ?_ ?_ ?_ ?_ (My.bn1 My.sRings _ _)) (My.dq ?_ ?_ ?_ ?_ (My.bn1 My.sLandOf _ _)) (My.dq ?_ ?_ ?_ ?_ (My.bn1 My.s_begun_least _ _)) (My.dq ?_ ?_ ?_ ?_ (My.bn1 My.s_told_turns _ _)) (My.dq ?_ ?_ ?_ ?_ (My.bn3 My.s_lands_placed _ _)) (My.dq ?_ ?_ ?_ ?_ (My.bn1 My.s_places_of _ _)) (My.dq ?_ ?_ ?_ ?_ (My.bn2 My.s_turn_of _ _)) (My.dq ?_ ?_ ?_ ?_ (My.bn1 My.s_other_net _ _)) (My.dq ?_ ?_ ?_ ?_ (My.bn2 My.sLed _ _)) (My.dq ?_ ?_ ?_ ?_ (My.bn4 My.sSweptRow _ _)) (My.dq ?_ ?_ ?_ ?_ (My.bn1 My.sSwept _ _)) (My.dq ?_ ?_ ?_ ?_ (My.bn1 My.sBack _ _)) (My.dq ?_ ?_ ?_ ?_ (My.bn2 My.sAnswer _ _)) (My.dq ?_ ?_ ?_ ?_ (My.bn1 My.sEaseTable _ _)) (My.dq ?_ ?_ ?_ ?_ (My.bn1 My.sPoleless _ _)) (My.dq ?_ ?_ ?_ ?_ (My.bn1 My.sHeights _ _)) (My.dq ?_ ?_ ?_ ?_ (My.bn2 My.sFallOf _ _)) (My.dq ?_ ?_ ?_ ?_ (My.bn2 My.sRunBy _ _)) (My.dq ?_ ?_ ?_ ?_ (My.bn1 My.sRunnings _ _)) (My.dq ?_ ?_ ?_ ?_ (My.bn1 My.sEaseOf _ _)) (My.dq ?_ ?_ ?_ ?_ (My.bn2 My.s_land_sides _ _)) (My.dq ?_ ?_ ?_ ?_ (My.bn2 My.s_rising _ _)) (My.dq ?_ ?_ ?_ ?_ (My.bn2 My.s_laid _ _)) (My.dq ?_ ?_ ?_ ?_ (My.bn2 My.s_law_numbers _ _)) (My.dq ?_ ?_ ?_ ?_ (My.bn1 My.sWhole _ _)) (My.dq ?_ ?_ ?_ ?_ (My.bn2 My.s_law_row _ _)) (My.dq ?_ ?_ ?_ ?_ (My.bn2 My.s_law_divisor _ _)) (My.dq ?_ ?_ ?_ ?_ (My.bn2 My.sLFrac _ _)) (My.dq ?_ ?_ ?_ ?_ (My.bn2 My.sLEase _ _)) (My.dq ?_ ?_ ?_ ?_ (My.bn1 My.s_law_ahead _ _)) (My.dq ?_ ?_ ?_ ?_ (My.bn2 My.s_law_land _ _)) (My.dq ?_ ?_ ?_ ?_ (My.bn2 My.s_law_corner _ _)) (My.dq ?_ ?_ ?_ ?_ (My.bn4 My.sGrow _ _)) (My.dq ?_ ?_ ?_ ?_ (My.bn2 My.s_law_order _ _)) (My.dq ?_ ?_ ?_ ?_ (My.bn3 My.s_law_finished _ _)) (My.dq ?_ ?_ ?_ ?_ (My.bn1 My.sNext _ _)) (My.dq ?_ ?_ ?_ ?_ (My.bn3 My.s_law_grown _ _)) (My.dq ?_ ?_ ?_ ?_ (My.bn1 My.s_law_long _ _)) (My.dq ?_ ?_ ?_ ?_ (My.bn2 My.s_law_some_net _ _)) (My.dq ?_ ?_ ?_ ?_ (My.bn1 My.s_law_begun _ _)) (My.dq ?_ ?_ ?_ ?_ (My.bn1 My.s_law_is_fraction _ _)) (My.dq ?_ ?_ ?_ ?_ (My.bn2 My.s_law_fractions_are _ _)) (My.dq ?_ ?_ ?_ ?_ (My.bn2 My.s_law_is_floor _ _)) (My.dq ?_ ?_ ?_ ?_ (My.bn2 My.s_law_minus _ _)) (My.dq ?_ ?_ ?_ ?_ (My.bn2 My.s_law_times _ _)) (My.dq ?_ ?_ ?_ ?_ (My.bn1 My.s_law_fall _ _)) (My.dq ?_ ?_ ?_ ?_ (My.bn1 My.s_law_quarter _ _)) (My.dq ?_ ?_ ?_ ?_ (My.bn1 My.sLaw _ _)) ⟨?_⟩ ⟨?_⟩ ⟨?_⟩ ⟨?_⟩ ⟨?_⟩ ⟨?_⟩ ⟨?_⟩ ⟨?_⟩ ⟨?_⟩ ⟨?_⟩ ⟨?_⟩ ⟨?_⟩ ⟨?_⟩ ⟨?_⟩ ⟨?_⟩
    all_goals try first | k_is | k_exc | kernel_rfl
