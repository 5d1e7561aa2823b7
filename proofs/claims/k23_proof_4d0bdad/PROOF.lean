import PyProof.Rows.All
import Wide.All
import OpenK.AllK
import Wide.FinOn
import Lean
import PyProof.EqAt
import PyProof.EqKinds
import PyProof.TupleCall
import PySem.Challenge.RW_currentfloor_k23_whole_four_roads
noncomputable section
set_option Elab.async false
set_option linter.all false
set_option maxRecDepth 100000
open List renaming length_map->nc,getElem?_eq_getElem->nh,getElem?_eq_some_iff->nj,getD_eq_getElem?_getD->nq,mem_of_getElem?->ny,range->nz,getElem?_map->nJ,map_cons->nK,mem_append->nM,length_append->nO,replicate->nQ,mem_map->nS,mem_singleton->nU,getElem?_append_right->nW,getElem?_append_left->nX,map_append->nY,mem_cons->nZ,size_toArray->n8,getElem_of_mem->om,take_of_length_le->ou,sum_cons->ow,length_cons->oA,mem_flatten->oC,getElem?_set_ne->oH,mem_append_right->oI,mem_range->oJ,getElem_mem->oK,getElem?_set_self->oM,flatten_cons->oN,mem_cons_of_mem->oV,take_length->oW,length_range->oX,length_drop->o6,map_congr_left->o7,replicate_succ->o8,length_set->o9,nodup_cons->pj,length_singleton->pw,length_take->pB,map_map->pC,not_mem_nil->pD,map_nil->pE,getLastD_eq_getLast?->pF,append_assoc->pG,append_nil->pO,nodup_append->pP,mem_append_left->pU,getElem?_eq_none->pW,flatten_append->pX,getElem?_range->pY,mem_or_eq_of_mem_set->qd,idxOf_lt_length_iff->qg,mem_cons_self->qr,getElem?_cons_succ->qx,mem_of_mem_drop->qy,range_succ_eq_map->qC,take_append_drop->qF,length_pos_of_mem->qL,range'->qM,cons_append->qT,pairwise_map->rf,length_nil->rA,getElem_cons_drop->rD,length->rE,sum_nil->rF,Pairwise->rH,getElem?_drop->rL,getElem_idxOf->rM,pairwise_iff_getElem->rO,mem_of_mem_take->rQ,length_eq_zero_iff->rS,all_eq_true->sW,replicate_append_replicate->sX,getElem?_replicate->tf,find?_cons->tj,pairwise_lt_range->tr,take_add_one->tD,getElem?_zipWith->tF,map_set->tG,Nodup->tQ,getLast?_append->tR,any_cons->tY,map_drop->tZ,mem_filter->ub,nil_append->uc,sum_append->ud,Perm->uj,getLast?_cons->uk,foldl->uB,flatten_nil->uO,nodup_range->uP,getElem?_toArray->uU,of_mem_zip->uY,range_succ->uZ,replicate_succ'->u0,zipWith->va,filterMap_cons->vm,map_eq_nil_iff->vn,mem_map_of_mem->vo,take_zero->vw,append_of_mem->vI,filter_append->vJ,getElem?_concat_length->vK,map_take->vT,perm_ext_iff_of_nodup->vU,foldl_append->v9,mem_range'_1->wc,take_sublist->we,mem_of_find?_eq_some->wt,ext_getElem->wC,length_erase_of_mem->wD,map->wF,filter_cons_of_neg->wR,filter_cons_of_pos->wU,foldl_cons->wW,pairwise_flatten->xC,set_append_right->xD,forall_mem_cons->xM,getLast?_concat->xN,range_eq_range'->xO,set_append_left->xP,all_cons->xW,flatMap_append->ye,forall_mem_nil->yf,length_zipWith->yg,replicate_zero->yh,getD->yv,getElem?_take->yw,getElem_range->yx,mem_filterMap->yy,mem_replicate->yz,set_cons_succ->yC,flatMap_cons->y6,getLast?_map->y8,reverse_cons->y9,filter_cons->zA,getElem_set->zB,map_zipWith->zC,mem_flatMap->zD,perm_middle->zE,range'_succ->zF,zipIdx_cons->zG,find?_some->zR,forIn_cons->zS,zipIdx_nil->zT,forIn_nil->aaf,map_id''->aaj
open Nat renaming le_refl->nG,le_trans->oa,lt_or_ge->oP,pow_le_pow_right->oQ,lt_of_lt_of_le->oY,zero_le->pJ,ne_of_lt->pV,mul_le_mul_left->pZ,lt_of_le_of_lt->qh,mul_succ->qv,sub_self->rG,le_mul_of_pos_right->rT,add_comm->r8,pow_succ->r9,lt_irrefl->sj,lt_trichotomy->so,one_mul->sJ,ne_of_gt->tI,zero_add->tJ,mul_le_mul_right->tS,pow_add->t5,mul_comm->uo,le_of_dvd->uN,add_mul->vE,le_of_lt->wG,succ->wH,Coprime->xc,mul_one->xf,mul_le_mul->xE,pow_lt_pow_right->xQ,add_le_add_left->yi,pow_le_pow_left->yj,eq_zero_or_pos->yD,one_le_two_pow->yE,pow_zero->yF,mul_pos->zp,lt_succ_self->zI,min_eq_left->zU,mul_assoc->aak
open PySem renaming wpAny_bind->nH,Shared->nP,sizeLine->og,wpAny_pure->oy,starEach->oG,Builtin->oS,Program->oT,Expr->oU,PassesOwn->oZ,FuncData->qf,bootBuiltins->qi,Around->qu,PyData->qA,mainGlobals->qE,wpAny_field->qJ,wpAny_mono->qK,compareOp->qP,mem_of_lookup->qQ,IsPair->qS,wpAny_Call_Name_kw->qW,wpAny_pyIter_tuple->qX,Spec->qZ,wpAny_newObj_type->rh,binaryOp->rK,foldedSetIterable->rR,wpAny_callSpecial?_slot->rV,backTo->rW,wpAny_seqItems->rY,sizeLine_eq->r6,wpAny_setField_rec->se,wpAny_passesOwn->si,behindInMarks->sk,wpAny_pyIter_list->sv,wpAny_truthy_bool->sy,sysModules->sI,assignEach->tW,wpAny_call_entry->tX,sliceBounds->t6,Paired->uv,tupleKind_room_in1->uA,call_meets->uD,Keyword->uT,letOwnedTupleGo->vg,wpAny_execs_nil->vh,wpAny_updateSeq_pair->vk,getItem->vA,relabel->vB,rawInt->vN,swapsWith->vO,attributeBase->vW,wpAny_holding->vX,wpAny_onRaise->vY,wpAny_standAt->vZ,callerA->wz,valueAt->wA,IsPart->wB,Within->wK,ZipApart->wL,assign->wM,bindArgs->wN,noFill_tuple_add->wO,tupleKind->wY,IsRangeIter->w9,keywordEach->xm,subscripted->xr,wpAny_pyIter_rangeiter->xt,wpAny_pyNext_range_end->xu,BindsTo->xv,codeAny->xI,pyNext->xJ,wpAny_isTrue_Compare1->xK,wpAny_rule->xT,assignInOrder->xZ,rangeSize_one->x4,seq_tuple_add->x5,codeAny_mono->yS,concat_meets->yT,seqIndex_neg->yU,wpAny_pyIter_range->yV,slot_list_getitem->zi,wpAny_assign_Name->zj,wpAny_pyIter_enum->zm,seqIndex_of->zu,wpAny_letGo->zv,NameKind->zH,backToKw->zL,bindName->zM,call->zY,newFields->zZ,builtinsNs->aab,closureFor->aac,typeIs_int->aad,wpAny_Name->aae
open PySem.W renaming Frag->nI,mg_none_of->pQ,kia_one->qH,fnOf->qU,keepIn->tL,kitOne->uC,OpenLaw->vd,codeIn->vx,findIn->vy,methodObj->wm,instObj->wX,cellsFrom_some->xk,ke_canLayAll0->xG,lookIn->xH,mg_of->xY,ke_depthAll->yk,callWith_K->yI,nsIn->yJ,hasDictIn->zb,kitx_dict->zd,kitx_list->ze,plainOver->zf,plainGet->zK,WalkO->aam
open PySem.Heap renaming get?_push_of_some->nN,lt_size->oq,get?_push_size->oF,SameBut->rP,size_push->rX,IsTuple->sU,IsList->t4,get?_update_other->uK,get?_update_self->uS,ExtBut->w6,IsTupleIter->zy,IsListIter->zO
open Option.some renaming inj->nV
open Option renaming some->n9,getD_some->qD,map_eq_some_iff->qN,isSome_iff_exists->uu,isSome_map->wj,getD_none->zJ,map_some->zV,toList->aal
open Sum renaming inl->oi,inr->vz
open Int renaming natAbs_natCast->oj,natAbs_mul->oE,emod_lt_of_pos->pH,gcd->pN,emod_nonneg->pS,toNat_natCast->qe,fdiv_eq_ediv_of_dvd->qo,mul_ne_zero->qt,mul_ediv_cancel_left->sV,gcd_dvd_right->tu,lt_or_le->tE,gcd_pos_of_ne_zero_left->tN,gcd_dvd_left->tP,mul_nonpos_of_nonpos_of_nonneg->uH,natAbs_sub_le->uI,mul_le_mul_of_nonneg_right->uX,natAbs_neg->vp,mul_pos->vD,ofNat_dvd_left->vH,fmod_eq_emod_of_nonneg->vS,natAbs_ediv_le_natAbs->wq,eq_ofNat_of_zero_le->wQ,natAbs_pos->xy,mul_assoc->xU,ediv_mul_cancel->yc,dvd_refl->yq,le_of_lt->yr,ne_of_gt->yt,dvd_mul_right->yY,natAbs_add_le->yZ,mul_one->zo,natAbs->zP,natCast_mul->zQ,dvd_trans->aah,fdiv_self->aai
open Rat renaming intCast_mul->oo,natCast_mul->qk,mul_nonneg->qG,mul_eq_zero->rB,mul_comm->sd,intCast_neg->tq,add_zero->tM,intCast_add->ue,intCast_sub->uf,num_divInt_den->vL,mul_assoc->vV,divInt_eq_div->wo,div_mul_cancel->yK,mul_inv_cancel->yL,mul_zero->yM,le_refl->zq,mul_one->zt,lt_iff->z9
open Bool renaming false_ne_true->oz,and_eq_false_iff->pk,and_eq_true->pA,eq_iff_iff->qc,or_eq_true->uV,eq_false_iff->v7,not_eq_true'->yW,and_true->aag
open PySem.PassesOwn renaming never->oB
open PySem.F renaming plainAttrs_list->oO,slot_list_append->pK,type_list_append->pM,slot_tuple_iterator_next->rJ,slot_list_index->ti,slot_zip_next->tK,args_tuple_add_2->uw,entry_tuple_add->uE,type_list_index->uF,args_tuple_iterator_next_1->uJ,entry_tuple_iterator_next->uL,slot_tuple_add->uM,slot_list_insert->wJ,args_zip_next_1->wV,entry_zip_next->xh,slot_int_rmul->zN
open PyProof.Rows renaming callWith_type1->pI,slot_tuple_getitem->sY,envOfC->t7,reads_tuple_ints->uQ,AllBare->uR,envOfC->vf,IntsAre->vt,tuples_map_has->vC,assignInOrder_cons->vM,boot_range->wy,subscriptTail_builtinR->xo,subscriptTail->x6,assignInOrder_nil->zh,Subscript_->aaa
open PySem.Builtin.SmallTypes renaming nextOf->pR,ownedTupleIsFree->qY,ownedTupleHandOut->uh
open Or renaming inl->p8,inr->yH
open False renaming elim->qj
open PySem.SeqAt renaming EqAt->qp,shaped->uz,noMix_of_shape->xS
open PySem.Value renaming ref->qw,bool->sG,none->tV,int->yP,str->yQ,isStrOf->aan
open Array renaming length_toList->rC,append_assoc->yn
open Ne renaming symm->rN
open True renaming intro->rZ
open PySem.Builtin.Slice renaming slicePlaces->sC,sliceAdjust->t8,sliceApplied->vP
open PySem.Shared renaming heap->sN
open PySem.Builtin.List renaming listTooLong->sO
open PySem.Builtin.Tuple renaming tupleExact->sQ
open PySem.Builtin.Range renaming rangeSize->sZ,small->x9
open List.Pairwise renaming imp->tw,imp_of_mem->ui
open PySem.PyData renaming int->tU,depth->vc,canLay0->xF,canLayAll0->za,depthAll->zW
open Classical renaming byContradiction->t9,choose_spec->xx,choose->zw
open PySem.AutoSeq1 renaming wpAny_loadPart'->ug
open Nat.succ renaming inj->uq
open Function renaming comp_def->uG
open ForInStep renaming yield->uW
open PySem.Str renaming ofString->ve
open PySem.Calls renaming spliced_cons->vF,Name_function_global->vQ,spliced_nil->v8
open PySem.Data renaming cell->vG,fields->wZ
open PySem.Obj renaming mapSeq->wu,data_mapFields->yG
open Prod renaming fst->wI,snd->xR
open PySem.IsRange renaming new->w8
open PyProof renaming noPylong_small->xg
open Sum.inl renaming inj->xl
open PySem.Builtin renaming bitXor->xw
open PySem.Paired renaming length->xX
open PySem.Builtin.Int renaming intBits->x8
open PySem.Heap.SameBut renaming update->ya
open PyProof.Rows.IsTup renaming new->yu
open PySem.SeqAt.EqAt renaming int_str->yN,str_int->yO
open PySem.Heap.IsTuple renaming push->yX
open PySem.Heap.IsList renaming push->zx
open PySem.Spec renaming same->zX
open PySem.Heap.IsTupleIter renaming extBut->aao
theorem nv:type_of% @if_neg:=@if_neg
theorem nF:type_of% @if_pos:=@if_pos
theorem oR:type_of% @decide_eq_true_iff:=@decide_eq_true_iff
theorem qm:type_of% @decide_eq_true:=@decide_eq_true
theorem qB:type_of% @decide_eq_false:=@decide_eq_false
theorem qV:type_of% @or_false:=@or_false
theorem su:type_of% @decide_eq_true_eq:=@decide_eq_true_eq
local macro_rules|`(tactic|exists $es,*)=>`(tactic|refine⟨$es,*, ?_⟩)
theorem U{α:Sort u}{a:α}:a=a:=rfl
namespace L2
open PySem PySem.Spec PyProof.Rows
abbrev Ai:=Sum Int Str
def KZ:Ai->Value->Bool
 |.inl k,v=>Value.isInt k v
 |.inr x,v=>aan x v
def lU(w:World):Ai->Int
 |.inl k=>hashInt k
 |.inr x=>hashStr w x
theorem Gv:∀{k:Ai} {v:Value},KZ k v=true->(∃i t,k=oi i/\v=yP i t)\/(∃x t,k=vz x/\v=yQ x t)
 |.inl i,v,h=>by
  obtain⟨t,e⟩:=Value.isInt_shape (k:=i) (v:=v) h;exact .inl ⟨i,t,U,e⟩
 |.inr x,v,h=>by
  obtain⟨t,e⟩:=Value.isStrOf_shape (x:=x) (v:=v) h;exact .inr ⟨x,t,U,e⟩
theorem Y3(i:Int)(t:Tok):KZ (.inl i) (.int i t)=true:=by simp[KZ,Value.isInt]
theorem Yi(x:Str)(t:Tok):KZ (.inr x) (.str x t)=true:=by simp[KZ,aan]
theorem iU(a b:Int):decide ((oi a:Ai)=oi b)=(a == b):=by
 by_cases e:a=b
 ·subst e;simp
 ·have h:¬(oi a:Ai)=oi b:=λq=>e (xl q)
  rw[qB h];exact(beq_eq_false_iff_ne.mpr e).symm
theorem i8(a b:Str):decide ((vz a:Ai)=vz b)=decide (a=b):=by
 by_cases e:a=b
 ·subst e;simp
 ·have h:¬(vz a:Ai)=vz b:=λq=>e (vz.inj q)
  rw[qB h,qB e]
theorem jC(a:Int)(b:Str):decide ((oi a:Ai)=vz b)=false:=qB (λq=>nomatch q)
theorem ig(a:Str)(b:Int):decide ((vz a:Ai)=oi b)=false:=qB (λq=>nomatch q)
def D6(prog:oT)(w:World):PySem.KeyKind prog w Ai where
 is:=KZ
 hash:=lU w
 inj:=λv a b ha J=>by
  rcases Gv ha with ⟨i,t,rfl,rfl⟩|⟨x,t,rfl,rfl⟩
  ·rcases Gv J with ⟨j,u,rfl,e⟩|⟨y,u,rfl,e⟩
   ·injection e with F _;rw[F]
   ·exact nomatch e
  ·rcases Gv J with ⟨j,u,rfl,e⟩|⟨y,u,rfl,e⟩
   ·exact nomatch e
   ·injection e with F _;rw[F]
 byValue:=λk v h=>by
  rcases Gv h with ⟨i,t,rfl,rfl⟩|⟨x,t,rfl,rfl⟩<;>rfl
 pyHash:=λI h=>by
  rcases Gv I with ⟨i,t,rfl,rfl⟩|⟨x,t,rfl,rfl⟩
  ·exact wpAny_pyHash_int h
  ·exact wpAny_pyHash_str h
 eqBool:=λO I h=>by
  rcases Gv O with ⟨i,t,rfl,rfl⟩|⟨x,t,rfl,rfl⟩
  ·rcases Gv I with ⟨j,u,rfl,rfl⟩|⟨y,u,rfl,rfl⟩
   ·rw[iU]at h;exact wpAny_eqBool_int h
   ·rw[jC]at h;exact yN i t y u _ _ _ _ h
  ·rcases Gv I with ⟨j,u,rfl,rfl⟩|⟨y,u,rfl,rfl⟩
   ·rw[ig]at h;exact yO x t j u _ _ _ _ h
   ·rw[i8]at h;exact wpAny_eqBool_str h
 «strs»:=λk x t v h=>by
  rcases Gv h with ⟨i,u,rfl,e⟩|⟨y,u,rfl,e⟩
  ·exact nomatch e
  ·injection e with F _
   subst F;cases v<;>rfl
theorem YH(prog:oT)(w:World)(i:Int)(t:Tok):(D6 prog w).is (.inl i) (.int i t)=true:=Y3 i t
theorem YF(prog:oT)(w:World)(x:Str)(t:Tok):(D6 prog w).is (.inr x) (.str x t)=true:=Yi x t
inductive V where
 |BE|bl (b:Bool)|int (i:Int)|str (x:Str)|FE (b:Array UInt8)|K4 (b:UInt64)|ref (a:Addr)|ty (n:String)
 deriving DecidableEq
def Av:V->Value->Prop
 |.BE,u=>u=tV
 |.bl b,u=>u=sG b
 |.int i,u=>∃t,u=yP i t
 |.str x,u=>∃t,u=yQ x t
 |.FE b,u=>∃t,u=Value.bytes b t
 |.K4 b,u=>∃t,u=Value.float b t
 |.ref a,u=>u=qw a
 |.ty n,u=>u=Value.type n
abbrev Ag:List V->List Value->Prop:=uv Av
theorem Ag.length(r:Ag xs us):xs.length=us.length:=xX r
theorem Ag.BZ:∀{xs:List V} {us:List Value} {i:Nat} {x:V},Ag xs us->xs[i]?=some x->∃u,us[i]?=some u/\Av x u
 |_,_,_,_,.nil,e=>by simp at e
 |_,_,0,_,.cons r _,e=>by simp at e;subst e;exact⟨_,U,r⟩
 |_,_,i+1,x,.cons _ t,e=>by
  obtain⟨u,h1,h2⟩:=Ag.BZ (i:=i) (x:=x) t (by simpa using e);exact⟨u,by simpa using h1,h2⟩
theorem Ag.set(r:Av x u):∀{xs:List V} {us:List Value} (i:Nat),Ag xs us->Ag (xs.set i x) (us.set i u)
 |_,_,_,.nil=>.nil
 |_,_,0,.cons _ t=>.cons r t
 |_,_,i+1,.cons q t=>.cons q (Ag.set r i t)
theorem Ag.append:∀{xs ys:List V} {us F:List Value},Ag xs us->Ag ys F->Ag (xs++ys) (us++F)
 |_,_,_,_,.nil,s=>s
 |_,_,_,_,.cons r t,s=>.cons r (Ag.append t s)
theorem Ag.take:∀{xs:List V} {us:List Value} (n:Nat),Ag xs us->Ag (xs.take n) (us.take n)
 |_,_,0,_=>.nil
 |_,_,_+1,.nil=>.nil
 |_,_,n+1,.cons r t=>.cons r (Ag.take n t)
theorem Ag.drop:∀{xs:List V} {us:List Value} (n:Nat),Ag xs us->Ag (xs.drop n) (us.drop n)
 |_,_,0,r=>r
 |_,_,_+1,.nil=>.nil
 |_,_,n+1,.cons _ t=>Ag.drop n t
def E7:Option V->Option Value->Prop
 |some v,some u=>Av v u
 |none,none=>True
 |_,_=>False
def KV{κ:Type}:List (κ×V)->List (κ×Value)->Prop:=uv λ(p:κ×V) (q:κ×Value)=>p.1=q.1/\Av p.2 q.2
def kV:Ai->V
 |.inl i=>.int i
 |.inr x=>.str x
inductive HO where
  |AE (xs:List V)
  |AG (xs:List V)
  |dK (ge:List (Ai×V))|dT (ge:List (List Ai×V))
  |set (S:Int->Bool)(n:Nat)
  |Fj (C dx:Addr)(fs:List (Str×V))
  |FC (x:Addr)
  |xd (fs:List (Str×V))
  |Ri (f x:Addr)
  |Rk (lo hi:Int)
  |Er (o:Obj)(u:HO)
  |Jf (ps:Array Value)
  |ext (φ:Heap->Prop)
abbrev Hp:=Addr->Option HO
def AF(H:Hp)(a:Addr)(o:HO):Hp:=λb=>if b=a then some o else H b
theorem AY:AF H a o a=some o:=by unfold AF;rw[nF rfl]
theorem As(h:b≠a):AF H a o b=H b:=by unfold AF;rw[nv h]
theorem jw{H:Hp}(h:H a=some o)(h':H b=some u)(d:o≠u):a≠b:=by
 intro e;subst e;rw[h]at h';exact d (nV h')
theorem B8{H:Hp}(h:H a=some o)(h':H b=none):a≠b:=by
 intro e;subst e;rw[h]at h';cases h'
section
variable (P:oT)(w:World)
def Bx(H:Hp)(h:Heap)(a:Addr):HO->Prop
 |.AE xs=>xs.length<=og/\∃(F:List Value) (n:Nat),Ag xs F/\h.get? a=some { cls:=.type "list",data:=.seq F.toArray n}
 |.AG xs=>xs.length<=og/\∃F:List Value,Ag xs F/\IsTup h a F.toArray/\∃o,h.get? a=some o/\o.dict=none
 |.dK ge=>ge.length<=og/\(a == sI)=false/\∃I,KV ge I/\h.DictOf (D6 P w) a I
 | .dT ge=>ge.length<=og/\(a == sI)=false/\∃xs:List (List Ai×Addr×Value),
   uv (λ(p:List Ai×V) (q:List Ai×Addr×Value)=>p.1=q.1/\H q.2.1=some (.AG (p.1.map kV))/\Av p.2 q.2.2) ge xs /\
   ∃o es J,h.get? a=some o/\o.ExactDict/\o.data=.dict es J/\es.toList=xs.map (entryOfKey (wY (D6 P w)))/\(xs.map (·.1)).Nodup
 |.set S n=>h.SetOf (intKind P w) a S n
 | .Fj C dx fs=>H dx=some (.FC a)/\fs.length<=1000/\dx≠a/\h.get? a=some (wX C dx) /\
   ∃mA,h.Ns1 dx mA/\(∀f,E7 (fs.lookup f) (mA f))/\wK mA (fs.map (·.1))
 |.FC _=>∃o,h.get? a=some o
 |.xd fs=>∃mA,h.Ns1 a mA/\∀f,E7 (fs.lookup f) (mA f)
 |.Rk lo hi=>∃t u v,h.get? a=some { cls:=.type "range",data:=.fields #[.int lo t,.int hi u,.int 1 v]}
 |.Er o u=>h.get? a=some o/\Bx H h a u
 |.Jf ps=>h.get? a=some { cls:=.none,data:=.fields ps}
 |.Ri f x=>h.get? a=some (wm (.ref f) (.ref x))
 |.ext φ=>φ h/\(∃o,h.get? a=some o)/\∀h1 h2:Heap,φ h1->(∀o,h1.get? a=some o->h2.get? a=some o)->φ h2
def B7(H:Hp)(h:Heap):Prop:=∀a o,H a=some o->Bx P w H h a o
end
section
variable {P:oT}{w:World}{H H':Hp}{h h':Heap}{a:Addr}{o:HO}
theorem Bx.lt(x:Bx P w H h a o):a<h.objs.size:=by
 cases o with
 |AE xs=>obtain⟨_,_,_,_,e⟩:=x;exact oq e
 |AG xs=>obtain⟨_,_,_,p,_⟩:=x;exact p.lt
 |dK ge=>obtain⟨_,_,_,_,o,_,_,e,_⟩:=x;exact oq e
 |dT ge=>obtain⟨_,_,_,_,o,_,_,e,_⟩:=x;exact oq e
 |set S n=>obtain⟨o,_,_,_,e,_⟩:=x;exact oq e
 |Fj C dx fs=>obtain⟨_,_,_,e,_⟩:=x;exact oq e
 |FC y=>obtain⟨_,e⟩:=x;exact oq e
 |xd fs=>obtain⟨_,⟨_,_,_,e,_⟩,_⟩:=x;exact oq e
 |Rk lo hi=>obtain⟨_,_,_,e⟩:=x;exact oq e
 |Er ob u=>obtain⟨e,_⟩:=x;exact oq e
 |Jf ps=>exact oq (show h.get? a=some _ from x)
 |Ri f y=>exact oq (show h.get? a=some _ from x)
 |ext φ=>obtain⟨_,⟨_,e⟩,_⟩:=x;exact oq e
theorem uv.RY{α β:Type}{F G:α->β->Prop}:∀{l₁:List α} {l₂:List β},uv F l₁ l₂->(∀a b,F a b->G a b)->uv G l₁ l₂
 |_,_,.nil,_=>.nil
 |_,_,.cons r t,f=>.cons (f _ _ r) (uv.RY t f)
theorem Bx.Hc (x:Bx P w H h a o)(k:∀b u,(b=a\/H b=some (.FC a))->h.get? b=some u->h'.get? b=some u)
  (ho:∀b,H b=some (.FC a)->H' b=some (.FC a))(ht:∀b xs,H b=some (.AG xs)->H' b=some (.AG xs)):Bx P w H' h' a o:=by
 induction o with
 |AE xs=>obtain⟨z,O,n,r,e⟩:=x;exact⟨z,O,n,r,k _ _ (.inl rfl) e⟩
 |AG xs=>obtain⟨z,O,r,⟨F,e,c⟩,aa,J,c2⟩:=x;exact⟨z,O,r,⟨F,k _ _ (.inl rfl) e,c⟩,aa,k _ _ (.inl rfl) J,c2⟩
 |dK ge=>obtain⟨z,y,vs,r,F,es,I,e,c⟩:=x;exact⟨z,y,vs,r,F,es,I,k _ _ (.inl rfl) e,c⟩
 |dT ge =>
  obtain⟨z,y,xs,r,F,es,I,e,c⟩:=x;exact⟨z,y,xs,uv.RY r λp q z=>⟨z.1,ht _ _ z.2.1,z.2.2⟩,F,es,I,k _ _ (.inl rfl) e,c⟩
 |set S n=>obtain⟨F,es,I,t,e,c⟩:=x;exact⟨F,es,I,t,k _ _ (.inl rfl) e,c⟩
 |Fj C dx fs =>
  obtain⟨d,z,ne,e,mA,⟨od,es,I,J,c⟩,r⟩:=x;exact⟨ho _ d,z,ne,k _ _ (.inl rfl) e,mA,⟨od,es,I,k _ _ (.inr d) J,c⟩,r⟩
 |FC y=>obtain⟨F,e⟩:=x;exact⟨F,k _ _ (.inl rfl) e⟩
 |xd fs=>obtain⟨mA,⟨od,es,I,e,c⟩,r⟩:=x;exact⟨mA,⟨od,es,I,k _ _ (.inl rfl) e,c⟩,r⟩
 |Rk lo hi=>obtain⟨t,u,v,e⟩:=x;exact⟨t,u,v,k _ _ (.inl rfl) e⟩
 |Er F u ih=>obtain⟨e,q⟩:=x;exact⟨k _ _ (.inl rfl) e,ih q⟩
 |Jf ps =>
  have e:h.get? a=some { cls:=.none,data:=.fields ps}:=x;show h'.get? a=some { cls:=.none,data:=.fields ps};exact k a _ (.inl rfl) e
 |Ri f y =>
  have e:h.get? a=some (wm (.ref f) (.ref y)):=x;show h'.get? a=some (wm (.ref f) (.ref y));exact k a _ (.inl rfl) e
 |ext φ=>obtain⟨p,⟨o,e⟩,st⟩:=x;exact⟨st _ _ p λo q=>k _ _ (.inl rfl) q,⟨o,k _ _ (.inl rfl) e⟩,st⟩
theorem B7.lt(x:B7 P w H h)(e:H a=some o):a<h.objs.size:=(x a o e).lt
theorem B7.CB(x:B7 P w H h)(e:h.objs.size<=a):H a=none:=by
 cases q:H a with
 |none=>rfl
 |some u=>exact absurd (oY (x.lt q) e) (sj _)
theorem B7.CG(x:B7 P w H h)(k:∀b u,h.get? b=some u->h'.get? b=some u):B7 P w H h':=λa o e =>
 (x a o e).Hc (λb u _ q=>k b u q) (λ_ q=>q) λ_ _ q=>q
theorem B7.Dt(x:B7 P w H h)(k:∀b u,h.get? b=some u->h'.get? b=some u)(hp:h.objs.size<=a)(J:Bx P w (AF H a o) h' a o):B7 P w (AF H a o) h':=λb u e=>by
 have F:=x.CB hp;by_cases I:b=a
 ·subst I;rw[AY]at e;cases e;exact J
 ·rw[As I]at e;exact(x b u e).Hc (λc v _ q=>k c v q) (λc q=>by rw[As (B8 q F)];exact q) λc xs q=>by rw[As (B8 q F)];exact q
end
def Rd(H:Hp)(a:Addr)(u:HO):Prop:=H a=some u\/∃o,H a=some (.Er o u)
theorem Rd.of(h:H a=some u):Rd H a u:=.inl h
theorem Rd.ok(r:Rd H a u)(x:B7 P w H h):Bx P w H h a u:=by
 rcases r with r|⟨o,r⟩
 ·exact x a u r
 ·obtain⟨_,q⟩:=x a _ r;exact q
def MO:Option HO->Prop
 |some (.AE _)=>True
 |some (.dK _)=>True
 |some (.dT _)=>True
 |some (.set _ _)=>True
 |some (.Fj _ _ _)=>True
 |some (.ext _)=>True
 |_=>False
section
variable {P:oT}{w:World}{H:Hp}{h h':Heap}{x e:Addr}{o':HO}
theorem B7.JN (ok:B7 P w H h)(I:MO (H x))(he:e=x\/H e=some (.FC x))(k:∀b u,b≠e->h.get? b=some u->h'.get? b=some u)(ab:∃u,h'.get? e=some u)
  (aa:Bx P w (AF H x o') h' x o'):B7 P w (AF H x o') h':=λb u q=>by
 have O:∀c y,H c=some (.FC y)->c≠x:=λc y r z=>by subst z;rw[r]at I;exact I
 have ac:∀c xs,H c=some (.AG xs)->c≠x:=λc xs r z=>by subst z;rw[r]at I;exact I
 by_cases J:b=x
 ·subst J;rw[AY]at q;cases q;exact aa
 ·rw[As J]at q;by_cases F:b=e
  ·have q':H b=some (.FC x):=by
    rcases he with z|z
    ·exact absurd (F.trans z) J
    ·rw[F];exact z
   rw[q]at q';cases q';obtain⟨v,hv⟩:=ab;exact⟨v,by rw[F];exact hv⟩
  ·refine(ok b u q).Hc (λc v hc r=>k c v ?_ r) (λc r=>by rw[As (O c b r)];exact r) λc xs r=>by rw[As (ac c xs r)];exact r
   rcases hc with rfl|hc
   ·exact F
   ·rintro rfl;rcases he with z|z
    ·exact O c b hc z
    ·rw[hc]at z;cases z;exact J rfl
end
structure Un(fs ex:List Addr)(H H':Hp)(h h':Heap):Prop where
 keep:∀b o,h.get? b=some o->H b=none->b∉fs->b∉ex->h'.get? b=some o
 F5:∀b o,h.get? b=some o->H b=none->b∈fs->b∉ex->∃sl,h'.get? b=some { o with slots:=sl}
 free:∀b o,h.get? b=some o->H b=none->b∉ex->H' b=none
 Ei:∀b o,h.get? b=some o->b∉ex->∃o',h'.get? b=some o'
 F4:∀b xs,H b=some (.AG xs)->H' b=some (.AG xs)
 Fd:∀b o u,H b=some (.Er o u)->H' b=some (.Er o u)
 F3:∀b ps,H b=some (.Jf ps)->∃more,H' b=some (.Jf (ps++more))
section
variable {fs fs' ex ex':List Addr}{H H1 H2:Hp}{h h1 h2 h':Heap}{a x e:Addr}{o:HO}
theorem Un.any(u:Un fs ex H H1 h h1)(q:h.get? b=some ob)(n:H b=none)(F:b∉ex):∃J,h1.get? b=some { ob with slots:=J}:=by
 by_cases I:b∈fs
 ·exact u.F5 b ob q n I F
 ·exact⟨ob.slots,u.keep b ob q n I F⟩
theorem Un.trans(a:Un fs ex H H1 h h1)(b:Un fs ex H1 H2 h1 h2):Un fs ex H H2 h h2 where
 keep:=λc I q n O F=>b.keep c I (a.keep c I q n O F) (a.free c I q n F) O F
 F5:=λc I q n O F=>by
  obtain⟨sl,J⟩:=a.F5 c I q n O F;obtain⟨aa,e2⟩:=b.F5 c _ J (a.free c I q n F) O F;exact⟨aa,e2⟩
 free:=λc I q n F=>by
  obtain⟨o',J⟩:=a.Ei c I q F;exact b.free c o' J (a.free c I q n F) F
 Ei:=λc I q F=>by
  obtain⟨o',J⟩:=a.Ei c I q F;exact b.Ei c o' J F
 F4:=λc xs q=>b.F4 c xs (a.F4 c xs q)
 Fd:=λc I xs q=>b.Fd c I xs (a.Fd c I xs q)
 F3:=λc ps q=>by
  obtain⟨m1,J⟩:=a.F3 c ps q;obtain⟨m2,e2⟩:=b.F3 c _ J;exact⟨m1++m2,by rw[e2,yn]⟩
theorem Un.CG(k:∀b u,h.get? b=some u->h'.get? b=some u):Un fs ex H H h h' :=
 ⟨λb F q _ _ _=>k b F q,λb F q _ _ _=>⟨F.slots,k b F q⟩,λ_ _ _ n _=>n,λb F q _=>⟨F,k b F q⟩,λ_ _ q=>q,λ_ _ _ q=>q,λ_ ps q=>⟨#[],by rw[q];simp⟩⟩
theorem Un.refl:Un fs ex H H h h:=Un.CG λ_ _ q=>q
theorem Un.Dt(k:∀b u,h.get? b=some u->h'.get? b=some u)(hp:h.objs.size<=a)(F:H a=none):Un fs ex H (AF H a o) h h' where
 keep:=λb u q _ _ _=>k b u q
 F5:=λb u q _ _ _=>⟨u.slots,k b u q⟩
 free:=λb u q n _=>by rw[As (pV (oY (oq q) hp))];exact n
 Ei:=λb u q _=>⟨u,k b u q⟩
 F4:=λb xs q=>by rw[As (B8 q F)];exact q
 Fd:=λb u xs q=>by rw[As (B8 q F)];exact q
 F3:=λb ps q=>⟨#[],by rw[As (B8 q F),q];simp⟩
theorem Un.JN(F:MO (H x))(he:e=x\/H e=some (.FC x))(k:∀b u,b≠e->h.get? b=some u->h'.get? b=some u)(ab:∃u,h'.get? e=some u):Un fs ex H (AF H x o) h h':=by
 have J:∀b,H b=none->b≠x:=λb n z=>by subst z;rw[n]at F;exact F
 have O:∀b,H b=none->b≠e:=λb n z=>by
  subst z;rcases he with r|r
  ·exact J b n r
  ·rw[n]at r;cases r
 have I:∀b u,H b=some u->¬MO (some u)->b≠x:=λb u q nm z=>by subst z;rw[q]at F;exact nm F
 refine⟨λb u q n _ _=>k b u (O b n) q,λb u q n _ _=>⟨u.slots,k b u (O b n) q⟩,λb u q n _=>by rw[As (J b n)];exact n,λb u q _=>?_,
  λb xs q=>by rw[As (I b _ q λz=>z)];exact q,λb u xs q=>by rw[As (I b _ q λz=>z)];exact q,λb ps q=>⟨#[],by rw[As (I b _ q λz=>z),q];simp⟩⟩
 by_cases aa:b=e
 ·subst aa;exact ab
 ·exact⟨u,k b u aa q⟩
theorem Un.mono(u:Un fs ex H H1 h h1)(hs:∀b∈fs,b∈fs')(J:∀b∈ex,b∈ex'):Un fs' ex' H H1 h h1 :=
 ⟨λb I q n O F=>u.keep b I q n (λz=>O (hs b z)) λz=>F (J b z),λ_ _ q n _ F=>u.any q n λz=>F (J _ z),λb I q n F=>u.free b I q n λz=>F (J b z),λb I q F=>u.Ei b I q λz=>F (J b z),u.F4,u.Fd,u.F3⟩
end
def Ot(h:Heap)(H:Hp):List Addr:=(nz h.objs.size).filter λa=>(H a).isSome
def HS(h:Heap)(H:Hp):Heap:=PySem.W.hideAll h (Ot h H)
theorem Y6(h:Heap)(H:Hp):(HS h H).objs.size=h.objs.size:=PySem.W.hideAll_size _ _
theorem aJ(e:h.get? b=some o)(n:H b=none):(HS h H).get? b=some o :=
 PySem.W.hideAll_get _ e λF=>by
  have q:(H b).isSome=true:=(ub.mp F).2;rw[n]at q;simp at q
theorem fj(e:(HS h H).get? b=some o):h.get? b=some o/\H b=none:=by
 have F:h.get? b=some o:=PySem.W.of_hideAll (Ot h H) e;exists F;cases q:H b with
 |none=>rfl
 |some x =>
  have I:b∈Ot h H:=ub.mpr ⟨oJ.mpr (oq F),by simp[q]⟩;have z:(HS h H).get? b=none:=PySem.W.hideAll_none (Ot h H) I;rw[z]at e;cases e
def gE(g h:Heap)(L:Addr):List (Addr×Obj):=(nz h.objs.size).filterMap λa=>if a=L\/(g.get? a).isSome=true then none else (h.get? a).map λo=>(a,o)
def rest(g h:Heap)(L d:Addr):List (Addr×Obj):=(gE g h L).filter λp=>decide (p.1≠d)
structure Mod(K:nI)(mg:Str->Option Value)(base:Heap):Prop where
 Oo:K.In base
 Hd:base.Ns qE mg
 Kw:∃mb,base.Ns aab mb/\∀x:Str,x≠"__name__"->mb x=qi x
 nolimit:base.NoLimit
structure Cx where
 prog:oT
 w:World
 K:nI
 mg:Str->Option Value
 base:Heap
 A:qu
 N:List Str
 s₀:nP
 H₀:Hp
 env:Env
 outer:List Env
 stack:List Env
 ex:List Addr
 fn:Str->Bool
 C5:Bool
 pn:List (Addr×Obj)
 xe:Value->nP->Prop
def F8(l:List Env):List Addr:=l.filterMap (·.frame)
abbrev Cx.fs(X:Cx):List Addr:=F8 X.outer
def Rr(F:Scope)(x:Str):Prop:=F.names.lookup x=some .local\/F.names.lookup x=some .cell\/F.names.lookup x=some .free
def Ig(F:Scope)(x:Str):Prop:=F.names.lookup x=some .local\/F.names.lookup x=some .cell
def mD(env:Env)(h:Heap)(m:Str->Option Value)(x:Str)(u:Value):Prop :=
 (env.kindOf x=some .local/\m x=some u)\/((env.kindOf x=some .cell\/env.kindOf x=some .free)/\∃c,env.cells.lookup x=some c/\h.IsCell c (some u))
structure Cx.Ok(X:Cx):Prop where
 DV:Mod X.K X.mg X.base
 kind:X.env.scope.kind=.function
 Hd:X.env.globals=qE
 Kw:X.env.builtins=aab
 above:X.s₀.heap.objs.size<=X.env.locals
 inj:∀x y c,X.env.cells.lookup x=some c->X.env.cells.lookup y=some c->x=y
 has:∀x,(X.env.kindOf x=some .cell\/X.env.kindOf x=some .free)->∃c,X.env.cells.lookup x=some c
 MZ:∀x c,X.fn x=true->X.env.cells.lookup x=some c->X.s₀.heap.objs.size<=c
 hd:X.C5=true->X.A.handled=none
 frames:X.A.frames=some X.stack
 Oq:X.stack=X.outer\/(X.stack=X.env :: X.outer/\X.env.frame=some X.env.locals)
 Xk:∀b∈X.ex,b≠X.env.locals/\∀x c,X.env.cells.lookup x=some c->c≠b
 bs:∀b o,X.base.get? b=some o->X.s₀.heap.get? b=some o/\X.H₀ b=none
 Gp:X.base.objs.size<=X.s₀.heap.objs.size
 L9:∀b o,X.base.get? b=some o->b∉X.ex
 MJ:∀b∈X.ex,b∉X.fs
 FY:X.s₀.heap.FunFrames X.base X.outer
 Jd:∀b∈X.fs,X.H₀ b=none
structure AI(X:Cx)(ga:List (Addr×Obj))(σ:List (Option V))(H:Hp)(s:nP):Prop where
 ok:X.Ok
 os:s.os=X.s₀.os
 Ds:uR s.gens
 base:Un X.fs X.ex X.H₀ H X.s₀.heap s.heap
 EZ:∃m,s.heap.Ns X.env.locals m/\∀(i:Nat) (x:Str) (v:V),X.N[i]?=some x->σ[i]?=some (some v)->Rr X.env.scope x->∃u,Av v u/\mD X.env s.heap m x u
 cell:∀x c,X.env.cells.lookup x=some c->∃v,s.heap.IsCell c v
 free:H X.env.locals=none
 GX:∀x c,X.env.cells.lookup x=some c->H c=none
 D1:∀p∈X.pn++ga,s.heap.get? p.1=some p.2/\H p.1=none/\p.1≠X.env.locals/\p.1∉X.fs/\∀v,p.2.data≠.cell v
 Ap:B7 X.prog X.w H s.heap
 len:σ.length=X.N.length
section
variable {X:Cx}{ga:List (Addr×Obj)}{σ:List (Option V)}{H H':Hp}{s:nP}{h':Heap}
theorem Cx.Ok.kZ(I:X.Ok)(e:X.base.get? b=some o):b∉X.fs:=λF=>by
 have:=(I.FY.mem F).1
 rw[e]at this;cases this
theorem AI.bs(I:AI X ga σ H s):∀b o,X.base.get? b=some o->s.heap.get? b=some o/\H b=none:=λb o e =>
 ⟨I.base.keep b o (I.ok.bs b o e).1 (I.ok.bs b o e).2 (I.ok.kZ e) (I.ok.L9 b o e),I.base.free b o (I.ok.bs b o e).1 (I.ok.bs b o e).2 (I.ok.L9 b o e)⟩
theorem AI.bk(I:AI X ga σ H s):∀b o,X.base.get? b=some o->s.heap.get? b=some o:=λb o e=>(I.bs b o e).1
theorem AI.DV(I:AI X ga σ H s):Mod X.K X.mg X.base:=I.ok.DV
theorem AI.Dh(I:AI X ga σ H s):X.K.In s.heap:=I.ok.DV.Oo.keeps I.bk
theorem AI.nolimit(I:AI X ga σ H s):s.heap.NoLimit:=I.ok.DV.nolimit.keeps I.bk
theorem AI.fr(I:AI X ga σ H s):∃m,Fr X.base X.env.locals s.heap m :=
 let ⟨m,hn,_⟩:=I.EZ
 ⟨m,hn,I.bk,oa I.ok.Gp I.ok.above⟩
theorem AI.lt(I:AI X ga σ H s):X.env.locals<s.heap.objs.size:=let ⟨_,hn,_⟩:=I.EZ;hn.lt
theorem AI.sz(I:AI X ga σ H s):X.s₀.heap.objs.size<=s.heap.objs.size:=oa I.ok.above (wG I.lt)
theorem AI.kU(I:AI X ga σ H s)(h:s.heap.objs.size<=a):a∉X.fs:=λF=>by
 obtain⟨_,o,J,_⟩:=I.ok.FY.mem F;exact absurd (oY (oq J) (oa I.sz h)) (sj _)
theorem AI.Rl(I:AI X ga σ H s):∀x c,X.env.cells.lookup x=some c->c≠X.env.locals:=λx c e z=>by
 obtain⟨v,o,F,hd⟩:=I.cell x c e;obtain⟨m,⟨o',es,ep,O,J,_⟩,_⟩:=I.EZ;rw[z,O]at F;cases F;rw[J]at hd;cases hd
theorem AI.FY(I:AI X ga σ H s):s.heap.FunFrames X.base X.outer:=by
 have all:∀(l:List Env),(∀b∈F8 l,b∈X.fs)->X.s₀.heap.FunFrames X.base l->s.heap.FunFrames X.base l:=by
  intro l
  induction l with
  |nil=>intro _ _;trivial
  |cons env r ih =>
   intro hs hl;obtain⟨hk,⟨L,o,J,hn,ho,hd⟩,hr⟩:=hl;have F:L∈X.fs:=hs L (by unfold F8;rw[vm,J];exact qr);obtain⟨sl,e⟩:=I.base.F5 L o ho (I.ok.Jd L F) F λz=>I.ok.MJ L z F
   exact⟨hk,⟨L,_,J,hn,e,hd⟩,ih (λb O=>hs b (by unfold F8;rw[vm,J];exact oV _ O)) hr⟩
 exact all X.outer (λ_ O=>O) I.ok.FY
theorem AI.stack(I:AI X ga σ H s):s.heap.FunFrames X.base X.stack:=by
 rcases I.ok.Oq with e|⟨e,J⟩
 ·rw[e];exact I.FY
 ·rw[e];obtain⟨m,F,_⟩:=I.EZ;refine .cons (by rw[I.ok.kind];decide) J F ?_ I.FY;exact Heap.get?_none_of_le (oa I.ok.Gp I.ok.above)
theorem AI.Ny(I:AI X ga σ H s):∀b∈F8 X.stack,b∈X.env.locals :: X.fs:=λb F=>by
 rcases I.ok.Oq with e|⟨e,J⟩
 ·rw[e]at F;exact oV _ F
 ·rw[e]at F;unfold F8 at F;rw[vm,J]at F;exact F
theorem AI.VB(I:AI X ga σ H s):∀b∈F8 X.stack,H b=none:=λb hb=>by
 rcases nZ.mp (I.Ny b hb)with e|hb
 ·rw[e];exact I.free
 ·obtain⟨_,o,F,_⟩:=I.ok.FY.mem hb;exact I.base.free b o F (I.ok.Jd b hb) λz=>I.ok.MJ b z hb
theorem AI.step {g':Array GenState}{t':Nat}{d':Drawn}{ch:List Addr}(I:AI X ga σ H s)
  (ab:∀b∈ch,(b∈X.ex\/X.s₀.heap.objs.size<=b)/\b≠X.env.locals/\(∀x c,X.env.cells.lookup x=some c->c≠b)/\∀p∈X.pn++ga,p.1≠b)
  (ae:∀b o,b≠X.env.locals->b∉X.fs->b∉ch->s.heap.get? b=some o->H b=none->h'.get? b=some o)
  (ag:∀b o,b≠X.env.locals->b∈X.fs->b∉ch->s.heap.get? b=some o->H b=none->∃sl,h'.get? b=some { o with slots:=sl})(ad:∀b o,b∉ch->s.heap.get? b=some o->H b=none->H' b=none)
  (aj:∀b o,b∉ch->s.heap.get? b=some o->∃o',h'.get? b=some o')
  (ao:∀b xs,H b=some (.AG xs)->H' b=some (.AG xs))(am:∀b o u,H b=some (.Er o u)->H' b=some (.Er o u))(ai:∀b ps,H b=some (.Jf ps)->∃al,H' b=some (.Jf (ps++al)))
  (ns:∀m,s.heap.Ns X.env.locals m->h'.Ns X.env.locals m)(ap:B7 X.prog X.w H' h')(hg:uR g') :
  AI X ga σ H' { s with heap:=h',gens:=g',drawn:=d',toks:=t'}:=by
 have ah:∀b o,X.s₀.heap.get? b=some o->b≠X.env.locals:=λb o e=>pV (oY (oq e) I.ok.above)
 have ac:∀b o,X.s₀.heap.get? b=some o->b∉X.ex->b∉ch:=λb o e F O=>by
  rcases(ab b O).1 with z|z
  ·exact F z
  ·exact absurd (oY (oq e) z) (sj _)
 have af:∀x c,X.env.cells.lookup x=some c->∀v,s.heap.IsCell c v->h'.IsCell c v:=λx c e v ⟨o,ho,hd⟩=>by
  have aa:c∉ch:=λz=>(ab c z).2.2.1 x c e rfl
  by_cases hc:c∈X.fs
  ·obtain⟨sl,q⟩:=ag c o (I.Rl x c e) hc aa ho (I.GX x c e);exact⟨_,q,hd⟩
  ·exact⟨o,ae c o (I.Rl x c e) hc aa ho (I.GX x c e),hd⟩
 refine⟨I.ok,I.os,hg,⟨λb o e n O F=>?_,λb o e n O F=>?_,λb o e n F=>?_,λb o e F=>?_,λb xs e=>ao b xs (I.base.F4 b xs e),λb o xs e=>am b o xs (I.base.Fd b o xs e),λb ps e=>?_⟩,?_,λx c e=>?_,?_,λx c e=>?_,λp hp=>?_,ap,I.len⟩
 ·exact ae b o (ah b o e) O (ac b o e F) (I.base.keep b o e n O F) (I.base.free b o e n F)
 ·obtain⟨sl,J⟩:=I.base.F5 b o e n O F;obtain⟨ak,e2⟩:=ag b _ (ah b o e) O (ac b o e F) J (I.base.free b o e n F);exact⟨ak,e2⟩
 ·obtain⟨o',J⟩:=I.base.Ei b o e F;exact ad b o' (ac b o e F) J (I.base.free b o e n F)
 ·obtain⟨o',J⟩:=I.base.Ei b o e F;exact aj b o' (ac b o e F) J
 ·obtain⟨m1,J⟩:=I.base.F3 b ps e;obtain⟨m2,e2⟩:=ai b _ J;exact⟨m1++m2,by rw[e2,yn]⟩
 ·obtain⟨m,hn,hl⟩:=I.EZ;refine⟨m,ns m hn,λi x v J e2 e3=>?_⟩;obtain⟨u,r,l⟩:=hl i x v J e2 e3;exists u,r;rcases l with l|⟨k,c,e,z⟩
  ·exact .inl l
  ·exact .inr ⟨k,c,e,af x c e _ z⟩
 ·obtain⟨v,z⟩:=I.cell x c e;exact⟨v,af x c e v z⟩
 ·obtain⟨m,⟨o,_,_,ho,_⟩,_⟩:=I.EZ;exact ad _ o (λz=>(ab _ z).2.1 rfl) ho I.free
 ·obtain⟨v,o,ho,hd⟩:=I.cell x c e;exact ad c o (λz=>(ab c z).2.2.1 x c e rfl) ho (I.GX x c e)
 ·obtain⟨e,n,ne,nf,d⟩:=I.D1 p hp;have aa:p.1∉ch:=λz=>(ab p.1 z).2.2.2 p hp rfl
  exact⟨ae p.1 p.2 ne nf aa e n,ad p.1 p.2 aa e n,ne,nf,d⟩
theorem AI.un(I:AI X ga σ H s)(u:Un X.fs [] H H' s.heap h')(ab:B7 X.prog X.w H' h'):AI X ga σ H' { s with heap:=h',toks:=t'}:=by
 obtain⟨m,⟨o,es,ep,O,r⟩,_⟩:=id I.EZ;obtain⟨sl,hL⟩:=u.any O I.free (by simp);exact I.step (g':=s.gens) (d':=s.drawn) (ch:=[]) (λ_ z=>nomatch z) (λb o _ F _ e n=>u.keep b o e n F (by simp)) (λb o _ F _ e n=>u.F5 b o e n F (by simp)) (λb o _ e n=>u.free b o e n (by simp)) (λb o _ e=>u.Ei b o e (by simp)) u.F4 u.Fd u.F3 (λm' hm=>by
  obtain⟨o',ac,aa,J,r'⟩:=hm;rw[O]at J;cases J;exact⟨_,ac,aa,hL,r'⟩) ab I.Ds
theorem AI.call (I:AI X ga σ H s)(u:Un (F8 X.stack) ch H H' s.heap h')(ac:B7 X.prog X.w H' h')(hg:uR g')
  (aa:∀b∈ch,(b∈X.ex\/X.s₀.heap.objs.size<=b)/\b≠X.env.locals/\(∀x c,X.env.cells.lookup x=some c->c≠b)/\∀p∈X.pn++ga,p.1≠b) :
  AI X ga σ H' { s with heap:=h',gens:=g',drawn:=d',toks:=t'}:=by
 obtain⟨m,⟨o,es,ep,ho,r⟩,_⟩:=id I.EZ;obtain⟨sl,J⟩:=u.any ho I.free λz=>(aa _ z).2.1 rfl
 exact I.step (ch:=ch) aa (λb o J hb F e n=>u.keep b o e n (λz=>(nZ.mp (I.Ny b z)).elim J hb) F) (λb o _ _ F e n=>u.any e n F) (λb o F e n=>u.free b o e n F) (λb o F e=>u.Ei b o e F) u.F4 u.Fd u.F3 (λm' hm=>by
  obtain⟨o',ad,ab,O,r'⟩:=hm;rw[ho]at O;cases O;exact⟨_,ad,ab,J,r'⟩) ac hg
theorem AI.Fu (I:AI X ga σ H s)(k:∀b o,b≠it->s.heap.get? b=some o->h'.get? b=some o)(hn:H it=none)(J:it≠X.env.locals)
  (h1:it∈X.ex\/X.s₀.heap.objs.size<=it)(h2:∀x c,X.env.cells.lookup x=some c->c≠it)(h3:∀p∈X.pn++ga,p.1≠it):AI X ga σ H { s with heap:=h',toks:=t'}:=by
 have O:∀b u,H b=some u->b≠it:=λb u e z=>by rw[z,hn]at e;cases e
 refine I.step (g':=s.gens) (d':=s.drawn) (ch:=[it]) (λb hb=>?_) (λb o _ _ F e _=>k b o (λz=>F (by simp[z])) e) (λb o _ _ F e _=>⟨o.slots,k b o (λz=>F (by simp[z])) e⟩) (λ_ _ _ _ n=>n)
  (λb o F e=>⟨o,k b o (λz=>F (by simp[z])) e⟩) (λ_ _ e=>e) (λ_ _ _ e=>e) (λb ps e=>⟨#[],by rw[e];simp⟩) (λm hm=>?_) (λb u e=>?_) I.Ds
 ·have e:b=it:=by simpa using hb
  subst e;exact⟨h1,J,h2,h3⟩
 ·obtain⟨o,es,ep,ho,r⟩:=hm;exact⟨o,es,ep,k _ o (rN J) ho,r⟩
 ·refine(I.Ap b u e).Hc (λc v F q=>k c v ?_ q) (λ_ q=>q) λ_ _ q=>q
  rcases F with z|z
  ·rw[z];exact O b u e
  ·exact O c _ z
theorem AI.DG(I:AI X ga σ H s)(t:Nat):AI X ga σ H { s with toks:=t}:=I.un (h':=s.heap) (t':=t) Un.refl I.Ap
theorem AI.CG(I:AI X ga σ H s)(k:∀b u,s.heap.get? b=some u->h'.get? b=some u):AI X ga σ H { s with heap:=h',toks:=t'}:=I.un (Un.CG k) (I.Ap.CG k)
theorem AI.Dt(I:AI X ga σ H s)(k:∀b u,s.heap.get? b=some u->h'.get? b=some u)(hp:s.heap.objs.size<=a)(F:Bx X.prog X.w (AF H a o) h' a o):
  AI X ga σ (AF H a o) { s with heap:=h',toks:=t'}:=I.un (Un.Dt k hp (I.Ap.CB hp)) (I.Ap.Dt k hp F)
theorem AI.JN (I:AI X ga σ H s)(F:MO (H x))(O:e=x\/H e=some (.FC x))(k:∀b u,b≠e->s.heap.get? b=some u->h'.get? b=some u)(J:∃u,h'.get? e=some u)
  (aa:Bx X.prog X.w (AF H x o) h' x o):AI X ga σ (AF H x o) { s with heap:=h',toks:=t'}:=I.un (Un.JN F O k J) (I.Ap.JN F O k J aa)
theorem AI.Uj(I:AI X ga σ H s)(h:∀p∈pins',s.heap.get? p.1=some p.2/\H p.1=none/\p.1≠X.env.locals/\p.1∉X.fs/\∀v,p.2.data≠.cell v):AI X pins' σ H s :=
 ⟨I.ok,I.os,I.Ds,I.base,I.EZ,I.cell,I.free,I.GX,λp hp=>(nM.mp hp).elim (λz=>I.D1 p (pU _ z)) (h p),I.Ap,I.len⟩
theorem TY{N:List Str}(F:N.Nodup){i j:Nat}(a:N[i]?=some x)(b:N[j]?=some x):i=j:=by
 obtain⟨h1,J⟩:=nj.mp a;obtain⟨h2,I⟩:=nj.mp b;exact(List.getElem_inj F).mp (J.trans I.symm)
theorem SW (I:AI X ga σ H s)(hN:X.N.Nodup)(hi:X.N[i]?=some x)(J:Ig X.env.scope x)(r:Av v u)
  (h:∀s',AI X ga (σ.set i (some v)) H s'->(∃a,rP a s.heap s'.heap/\(a=X.env.locals\/X.env.cells.lookup x=some a))->Q () s')(hf:X.fn x=true\/X.env.scope.names.lookup x=some .local:=by first|exact .inl rfl|exact .inr rfl|assumption):wpAny M A (storeName X.env x u) Q E s:=by
 obtain⟨m,hn,hl⟩:=id I.EZ;have al:(X.env.scope.kind == .class || (X.env.scope.kind == .module && X.env.locals != X.env.globals))=false:=by rw[I.ok.kind];rfl
 have af:i<σ.length:=by rw[I.len];exact(nj.mp hi).1
 have ab:=I.Rl;have ad:∀{a:Addr} {h':Heap},(∃o,s.heap.get? a=some o/\H a=none)->rP a s.heap h'->B7 X.prog X.w H h':=λ{a h'} ha hs b ob e=>by
  obtain⟨_,_,ac⟩:=ha;refine(I.Ap b ob e).Hc (λc w' hc q=>(hs.2 c ?_).trans q) (λ_ q=>q) λ_ _ q=>q
  rintro rfl;rcases hc with rfl|hc
  ·rw[ac]at e;cases e
  ·rw[ac]at hc;cases hc
 rcases J with hk|hk
 ·refine wpAny_storeName_local hk hn (λh' ai hs=>?_) al;obtain⟨oL,_,_,aj,_⟩:=id hn;refine h _ ⟨I.ok,I.os,I.Ds,⟨λb o e n hb J=>?_,λb o e n hb J=>?_,I.base.free,λb o e J=>?_,I.base.F4,I.base.Fd,I.base.F3⟩,⟨_,ai,λj y v' F O e3=>?_⟩,λy c e=>?_,I.free,I.GX,λp hp=>?_,ad ⟨oL,aj,I.free⟩ hs,by simpa using I.len⟩ ⟨_,hs,.inl rfl⟩
  ·exact(hs.2 b (pV (oY (oq e) I.ok.above))).trans (I.base.keep b o e n hb J)
  ·obtain⟨sl,F⟩:=I.base.F5 b o e n hb J;exact⟨sl,(hs.2 b (pV (oY (oq e) I.ok.above))).trans F⟩
  ·obtain⟨o',F⟩:=I.base.Ei b o e J;exact⟨o',(hs.2 b (pV (oY (oq e) I.ok.above))).trans F⟩
  ·by_cases hj:j=i
   ·subst hj;rw[hi]at F;cases F;rw[oM af]at O;cases O;exact⟨u,r,.inl ⟨hk,by simp⟩⟩
   ·rw[oH (rN hj)]at O;obtain⟨u',r',q⟩:=hl j y v' F O e3;exists u',r';rcases q with ⟨k,e⟩|⟨k,c,e,z⟩
    ·refine .inl ⟨k,?_⟩
     have:y≠x:=λe=>hj (TY hN F (e ▸ hi))
     simp[this,e]
    ·exact .inr ⟨k,c,e,z.sameBut hs (ab y c e)⟩
  ·obtain⟨w',z⟩:=I.cell y c e;exact⟨w',z.sameBut hs (ab y c e)⟩
  ·obtain⟨e,n,ne,nf,d⟩:=I.D1 p hp;exact⟨(hs.2 p.1 ne).trans e,n,ne,nf,d⟩
 ·have aa:X.fn x=true:=by
   rcases hf with z|z
   ·exact z
   ·rw[z]at hk;cases hk
  obtain⟨c,hc⟩:=I.ok.has x (.inl hk);obtain⟨w',z⟩:=I.cell x c hc;refine wpAny_storeName_cell I.ok.kind hk hc z (λh' ag hs=>?_);obtain⟨oc,ah,ak⟩:=id z;refine h { s with heap:=h'} ⟨I.ok,I.os,I.Ds,⟨λb o e n hb J=>?_,λb o e n hb J=>?_,I.base.free,λb o e J=>?_,I.base.F4,I.base.Fd,I.base.F3⟩,⟨m,hn.sameBut hs (rN (ab x c hc)),λj y v' F O e3=>?_⟩,λy c' e=>?_,I.free,I.GX,λp hp=>?_,ad ⟨oc,ah,I.GX x c hc⟩ hs,by simpa using I.len⟩ ⟨c,hs,.inr hc⟩
  ·exact(hs.2 b (pV (oY (oq e) (I.ok.MZ x c aa hc)))).trans (I.base.keep b o e n hb J)
  ·obtain⟨sl,F⟩:=I.base.F5 b o e n hb J;exact⟨sl,(hs.2 b (pV (oY (oq e) (I.ok.MZ x c aa hc)))).trans F⟩
  ·obtain⟨o',F⟩:=I.base.Ei b o e J;exact⟨o',(hs.2 b (pV (oY (oq e) (I.ok.MZ x c aa hc)))).trans F⟩
  ·by_cases hj:j=i
   ·subst hj;rw[hi]at F;cases F;rw[oM af]at O;cases O;exact⟨u,r,.inr ⟨.inl hk,c,hc,ag⟩⟩
   ·rw[oH (rN hj)]at O;obtain⟨u',r',q⟩:=hl j y v' F O e3;exists u',r';rcases q with q|⟨k,c',e,z'⟩
    ·exact .inl q
    ·refine .inr ⟨k,c',e,z'.sameBut hs ?_⟩;rintro rfl;exact hj (TY hN F (I.ok.inj _ _ _ e hc ▸ hi))
  ·by_cases ae:c'=c
   ·subst ae;exact⟨_,ag⟩
   ·obtain⟨w2,z2⟩:=I.cell y c' e;exact⟨w2,z2.sameBut hs ae⟩
  ·obtain⟨e,n,ne,nf,d⟩:=I.D1 p hp;refine⟨(hs.2 p.1 ?_).trans e,n,ne,nf,d⟩;intro q;rw[q,ah]at e;have q':oc=p.2:=nV e;exact d w' (by rw[<-q'];exact ak)
theorem NB (I:AI X ga σ H s)(O:X.N.Nodup)(hi:X.N[i]?=some x)(F:Ig X.env.scope x)(r:Av v u)
  (h:∀s',AI X ga (σ.set i (some v)) H s'->Q () s')(J:X.fn x=true\/X.env.scope.names.lookup x=some .local:=by first|exact .inl rfl|exact .inr rfl|assumption):wpAny M A (storeName X.env x u) Q E s :=
 SW I O hi F r (λs' I' _=>h s' I') J
theorem AI.kH (I:AI X ga σ H s)(O:s'.os=s.os)(u:Un (F8 X.stack) ch H H' s.heap s'.heap)(J:B7 X.prog X.w H' s'.heap)(F:uR s'.gens)
  (aa:∀b∈ch,(b∈X.ex\/X.s₀.heap.objs.size<=b)/\b≠X.env.locals/\(∀x c,X.env.cells.lookup x=some c->c≠b)/\∀p∈X.pn++ga,p.1≠b):AI X ga σ H' s':=by
 obtain⟨h',g',d',t',o'⟩:=s';have e:o'=s.os:=O;subst e;exact I.call (g':=g') (t':=t') (d':=d') u J F aa
end
abbrev XK:=Value->Option Addr->Hp->Prop
abbrev St:=List (Option V)
abbrev VK:=V->Hp->Prop
abbrev TE:=St->Hp->VK->Prop
abbrev TT:=St->Hp->(Bool->Hp->Prop)->Prop
abbrev TA:=St->Hp->(List V->Hp->Prop)->Prop
structure Dd where
 nx:St->Hp->Prop
 rt:VK
 bk:St->Hp->Prop:=λ_ _=>False
 ct:St->Hp->Prop:=λ_ _=>False
abbrev TS:=Dd->St->Hp->Prop
def EP(X:Cx)(ga:List (Addr×Obj))(σ:St)(Q:VK)(u:Value)(s':nP):Prop:=∃v H',AI X ga σ H' s'/\Av v u/\Q v H'
def TP(X:Cx)(ga:List (Addr×Obj))(σ:St)(Q:Bool->Hp->Prop)(b:Bool)(s':nP):Prop:=∃H',AI X ga σ H' s'/\Q b H'
def AP(X:Cx)(ga:List (Addr×Obj))(σ:St)(Q:List V->Hp->Prop)(us:List Value)(s':nP):Prop:=∃F H',AI X ga σ H' s'/\Ag F us/\Q F H'
def SP(X:Cx)(ga:List (Addr×Obj))(D:Dd)(f:Flow)(s':nP):Prop :=
 match f with
 |.next=>∃F H',AI X ga F H' s'/\D.nx F H'
 |.brk=>∃F H',AI X ga F H' s'/\D.bk F H'
 |.cont=>∃F H',AI X ga F H' s'/\D.ct F H'
 |.ret u=>∃v F H',AI X ga F H' s'/\Av v u/\D.rt v H'
def PE(X:Cx)(e:Expr)(t:TE):Prop :=
 ∀(ga:List (Addr×Obj)) (s:nP) (σ:St) (H:Hp) (Q:VK),AI X ga σ H s->t σ H Q->wpAny (model X.prog X.w) X.A (eval e X.env) (EP X ga σ Q) X.xe s
def PT(X:Cx)(e:Expr)(t:TT):Prop :=
 ∀(ga:List (Addr×Obj)) (s:nP) (σ:St) (H:Hp) (Q:Bool->Hp->Prop),AI X ga σ H s->t σ H Q->wpAny (model X.prog X.w) X.A (isTrue e X.env (eval e X.env)) (TP X ga σ Q) X.xe s
def PW(X:Cx)(e:Expr)(t:TT):Prop :=
 ∀(F:Sem Value) (ga:List (Addr×Obj)) (s:nP) (σ:St) (H:Hp) (Q:Bool->Hp->Prop),AI X ga σ H s->t σ H Q->wpAny (model X.prog X.w) X.A (isTrue e X.env F) (TP X ga σ Q) X.xe s
theorem PW.pt(h:PW X e t):PT X e t:=h _
def PA(X:Cx)(es:List Expr)(t:TA):Prop :=
 ∀(pos:Pos) (ga:List (Addr×Obj)) (s:nP) (σ:St) (H:Hp) (Q:List V->Hp->Prop),AI X ga σ H s->t σ H Q->wpAny (model X.prog X.w) X.A (spliced (rW pos (oG es X.env))) (AP X ga σ Q) X.xe s
def PS(X:Cx)(st:Stmt)(t:TS):Prop :=
 ∀(ga:List (Addr×Obj)) (s:nP) (σ:St) (H:Hp) (D:Dd),AI X ga σ H s->t D σ H->wpAny (model X.prog X.w) X.A (exec st X.env) (SP X ga D) X.xe s
def CU(X:Cx)(st:List Stmt)(t:TS):Prop :=
 ∀(ga:List (Addr×Obj)) (s:nP) (σ:St) (H:Hp) (D:Dd),AI X ga σ H s->t D σ H->wpAny (model X.prog X.w) X.A (execs st X.env) (SP X ga D) X.xe s
theorem Af(h:wpAny M A t Q E s)(F:∀a s,Q a s->Q' a s):wpAny M A t Q' E s:=qK h F λ_ _ x=>x
section
variable {X:Cx}
inductive W8(i:Nat)(σ:St)(H:Hp)(Q:VK):Prop
 |mk (v:V) (e:σ[i]?=some (some v)) (q:Q v H):W8 i σ H Q
def Al(i:Nat):TE:=λσ H Q=>W8 i σ H Q
inductive Rj(x:V)(H:Hp)(Q:Bool->Hp->Prop):Prop
 |mk (c:Bool) (e:x=.bl c) (q:Q c H):Rj x H Q
def tC(v:V):TE:=λ_ H Q=>Q v H
theorem iI{i:Nat}{x:Str}{pos:Pos}(hN:X.N[i]?=some x)(hv:Rr X.env.scope x)(hd:(x == ("__debug__":Str))=false:=by decide)(aa:(x == ("__classdict__":Str))=false:=by decide):PE X (.Name x pos) (Al i):=by
 intro ga s σ H Q I h;obtain⟨v,e,h⟩:=h;obtain⟨m,hn,hl⟩:=I.EZ;obtain⟨u,r,l⟩:=hl i x v hN e hv;have F:EP X ga σ Q u s:=⟨v,H,I,r,h⟩;rcases l with ⟨hk,hm⟩|⟨hk,c,J,O⟩
 ·exact aae (wpAny_loadName_local I.ok.kind hk hn hm F) hd
 ·rcases hk with hk|hk
  ·exact aae (wpAny_loadName_cell I.ok.kind hk J O F) hd
  ·exact aae (wpAny_loadName_free I.ok.kind hk J O F aa) hd
theorem AB{i j pos}:PE X (.Constant (.int i) j pos) (tC (.int i)):=λ_ _ _ H _ I h=>wpAny_Constant_int ⟨.int i,H,I.DG _,⟨_,U⟩,h⟩
theorem Ke{b j pos}:PE X (.Constant (.bool b) j pos) (tC (.bl b)):=λ_ _ _ H _ I h=>Constant_bool ⟨.bl b,H,I,U,h⟩
theorem Li{j pos}:PE X (.Constant .none j pos) (tC .BE):=λ_ _ _ H _ I h=>Constant_none ⟨.BE,H,I,U,h⟩
def Gl(X:Cx)(x:Str):Prop:=X.env.kindOf x=some .globalImplicit
theorem Uk {E:Value->nP->Prop}{ga:List (Addr×Obj)}{s:nP}{σ:St}{H:Hp}{x:Str}{u:Value}{pos:Pos}{Q:Value->nP->Prop}(I:AI X ga σ H s)(F:Gl X x)(J:X.mg x=some u)(h:Q u s)
  (hd:(x == ("__debug__":Str))=false:=by decide):wpAny (model X.prog X.w) X.A (eval (.Name x pos) X.env) Q E s :=
 vQ I.ok.kind F (Calls.loadGlobal_global (by rw[I.ok.Hd];exact I.DV.Hd.keeps I.bk) J h) hd
theorem FP {E:Value->nP->Prop}{ga:List (Addr×Obj)}{s:nP}{σ:St}{H:Hp}{x:Str}{u:Value}{pos:Pos}{Q:Value->nP->Prop}(I:AI X ga σ H s)(F:Gl X x)(J:X.mg x=none)(O:qi x=some u)(h:Q u s)
  (hn:x≠"__name__":=by decide)(hd:(x == ("__debug__":Str))=false:=by decide):wpAny (model X.prog X.w) X.A (eval (.Name x pos) X.env) Q E s:=by
 obtain⟨mb,h1,h2⟩:=I.DV.Kw;exact vQ I.ok.kind F (Calls.loadGlobal_builtin (by rw[I.ok.Hd];exact I.DV.Hd.keeps I.bk) J (by rw[I.ok.Kw];exact h1.keeps I.bk) ((h2 x hn).trans O) h) hd
theorem UN{x:Str}{v:V}{u:Value}{pos:Pos}(F:Gl X x)(J:X.mg x=some u)(r:Av v u)(hd:(x == ("__debug__":Str))=false:=by decide):PE X (.Name x pos) (tC v) :=
 λ_ _ _ H _ I h=>Uk I F J ⟨v,H,I,r,h⟩ hd
theorem LX{x:Str}{v:V}{u:Value}{pos:Pos}(F:Gl X x)(O:X.mg x=none)(hv:qi x=some u)(r:Av v u)(J:x≠"__name__":=by decide)(hd:(x == ("__debug__":Str))=false:=by decide):PE X (.Name x pos) (tC v) :=
 λ_ _ _ H _ I h=>FP I F O hv ⟨v,H,I,r,h⟩ J hd
variable {a b:Expr}{ta tb:TE}{pos:Pos}
def PC(X:Cx)(op:CmpOp)(a b:Expr)(t:TE):Prop :=
 ∀(ga:List (Addr×Obj)) (s:nP) (σ:St) (H:Hp) (Q:VK),AI X ga σ H s->t σ H Q →
  wpAny (model X.prog X.w) X.A (eval a X.env) (λv I=>wpAny (model X.prog X.w) X.A (eval b X.env) (λu F=>wpAny (model X.prog X.w) X.A (qP op v u) (EP X ga σ Q) X.xe F) X.xe I) X.xe s
theorem nobehind(b:Expr)(h:op≠.In)(h2:op≠.NotIn):sk op b=false:=by
 have I:(op == CmpOp.In)=false:=by cases op<;>first|rfl|exact absurd rfl h
 have F:(op == CmpOp.NotIn)=false:=by cases op<;>first|rfl|exact absurd rfl h2
 cases b<;>simp[sk,I,F]
def tB(t:TE):TT:=λσ H Q=>t σ H λx H1=>Rj x H1 Q
theorem jN{op:CmpOp}{t:TE}(h:PC X op a b t)(h1:sk op b=false:=by first|exact nobehind _ (by decide) (by decide)|rfl):PE X (.Compare a [op] [b] pos) t:=λga s σ H Q I F=>wpAny_Compare1 (h ga s σ H Q I F) h1
theorem JJ{op:CmpOp}{t:TE}(h:PC X op a b t)(h1:sk op b=false:=by first|exact nobehind _ (by decide) (by decide)|rfl):PT X (.Compare a [op] [b] pos) (tB t):=by
 intro ga s σ H Q I F;refine xK (Af (h ga s σ H _ I F) λv s1 h1=>Af h1 λu s2 h2=>Af h2 λc s3 ⟨x,H1,I1,O,J⟩=>?_) h1;obtain⟨d,rfl,q⟩:=J;cases O;exact sy ⟨H1,I1,q⟩
theorem HJ{e:Expr}{t:TE}(h:PE X e t)(he:∀F,isTrue e X.env F=(do let v <-F;standAt e.pos;holding [v] (truthy v)):=by intro _;rfl):PT X e (tB t):=by
 intro ga s σ H Q I J;refine isTrue_plain (Af (h ga s σ H _ I J) λv s1 ⟨x,H1,I1,r1,O⟩=>?_) (he _);obtain⟨d,rfl,q⟩:=O;cases r1;exact sy ⟨H1,I1,q⟩
variable {tA tB':TT}{rest:List Expr}
def kd(t u:TT):TT:=λσ H Q=>t σ H λc H1=>if c=true then u σ H1 Q else Q false H1
def mX(t u:TT):TT:=λσ H Q=>t σ H λc H1=>if c=true then Q true H1 else u σ H1 Q
def kn(t:TT):TT:=λσ H Q=>t σ H λc H1=>Q (!c) H1
theorem Qg(F:PT X a tA):PW X (.BoolOp .And [a] pos) tA:=by
 intro O ga s σ H Q I h;refine isTrue_and (Af (F ga s σ H Q I h) λc J e=>?_);cases c with
 |true=>exact isTrue_and_nil e
 |false=>exact e
theorem JE(F:PT X a tA):PW X (.BoolOp .Or [a] pos) tA:=by
 intro O ga s σ H Q I h;refine isTrue_or (Af (F ga s σ H Q I h) λc J e=>?_);cases c with
 |false=>exact isTrue_or_nil e
 |true=>exact e
theorem Qv(O:PT X a tA)(hb:PW X (.BoolOp .And (b :: rest) pos) tB'):PW X (.BoolOp .And (a :: b :: rest) pos) (kd tA tB'):=by
 intro wh ga s σ H Q I h;refine isTrue_and (Af (O ga s σ H _ I h) λc s1 ⟨H1,J,F⟩=>?_);cases c with
 |true=>exact hb wh ga s1 σ H1 Q J F
 |false=>exact⟨H1,J,F⟩
theorem Fx(O:PT X a tA)(hb:PW X (.BoolOp .Or (b :: rest) pos) tB'):PW X (.BoolOp .Or (a :: b :: rest) pos) (mX tA tB'):=by
 intro wh ga s σ H Q I h;refine isTrue_or (Af (O ga s σ H _ I h) λc s1 ⟨H1,J,F⟩=>?_);cases c with
 |true=>exact⟨H1,J,F⟩
 |false=>exact hb wh ga s1 σ H1 Q J F
theorem JH(F:PT X a tA):PT X (.UnaryOp .Not a pos) (kn tA):=by
 intro ga s σ H Q I h;exact isTrue_not (F ga s σ H (λc H1=>Q (!c) H1) I h)
def jv(ta tb:TE):TE:=λσ H Q=>ta σ H λx H1=>∃c,x=.bl c/\if c=true then tb σ H1 Q else Q (.bl false) H1
def j6(ta:TE):TE:=λσ H Q=>ta σ H λx H1=>∃c,x=.bl c/\Q (.bl (!c)) H1
theorem Ql{op}(h:PE X a t):PE X (.BoolOp op [a] pos) t:=λga s σ H Q I F=>BoolOp_one (h ga s σ H Q I F)
theorem Qu(ha:PE X a ta)(hb:PE X (.BoolOp .And (b :: rest) pos) tb):PE X (.BoolOp .And (a :: b :: rest) pos) (jv ta tb):=by
 intro ga s σ H Q I h;refine BoolOp_and (Af (ha ga s σ H _ I h) λv s1 ⟨x,H1,J,O,F⟩=>?_);obtain⟨c,rfl,F⟩:=F;cases O;refine sy ?_;cases c with
 |true=>exact hb ga s1 σ H1 Q J F
 |false=>exact⟨.bl false,H1,J,U,F⟩
theorem iE(O:PE X a ta):PE X (.UnaryOp .Not a pos) (j6 ta):=by
 intro ga s σ H Q I h;refine UnaryOp_ (Af (O ga s σ H _ I h) λv s1 ⟨x,H1,J,r1,F⟩=>?_);obtain⟨c,rfl,F⟩:=F;cases r1;exact not_of (sy ⟨.bl (!c),H1,J,U,F⟩)
def mO(t:TT)(ta tb:TE):TE:=λσ H Q=>t σ H λc H1=>if c=true then ta σ H1 Q else tb σ H1 Q
theorem QE(hc:PT X c tA)(ha:PE X a ta)(hb:PE X b tb):PE X (.IfExp c a b pos) (mO tA ta tb):=by
 intro ga s σ H Q I h;refine wpAny_IfExp (Af (hc ga s σ H _ I h) λd O ⟨H1,J,F⟩=>?_);cases d with
 |true=>exact ha ga O σ H1 Q J F
 |false=>exact hb ga O σ H1 Q J F
end
def AR(K:nI)(H:Hp)(a:Addr)(xs:List V):Prop :=
 Rd H a (.AE xs) \/
  ∃(o:Obj) (F:Array Value) (n:Nat),K.lookup a=some o/\o.cls=.type "list"/\o.dict=none/\o.data=.seq F n/\F.size<=og/\Ag xs F.toList
def AJ(K:nI)(H:Hp)(a:Addr)(xs:List V):Prop :=
 Rd H a (.AG xs) \/
  ∃(o:Obj) (F:Array Value) (n:Nat),K.lookup a=some o/\o.cls=.type "tuple"/\o.data=.seq F n/\F.size<=og/\Ag xs F.toList
def mI:Value->Option V
 |.none=>some .BE
 |.bool b=>some (.bl b)
 |.int i _=>some (.int i)
 |.str x _=>some (.str x)
 |.bytes b _=>some (.FE b)
 |.float b _=>some (.K4 b)
 |.ref a=>some (.ref a)
 |.type n=>some (.ty n)
 |_=>none
theorem Av.Xi(r:Av x u):mI u=some x:=by
 cases x with
 |BE=>cases r;rfl
 |bl _=>cases r;rfl
 |int _=>obtain⟨t,rfl⟩:=r;rfl
 |str _=>obtain⟨t,rfl⟩:=r;rfl
 |FE _=>obtain⟨t,rfl⟩:=r;rfl
 |K4 _=>obtain⟨t,rfl⟩:=r;rfl
 |ref _=>cases r;rfl
 |ty _=>cases r;rfl
theorem Av.inj(r:Av x u)(q:Av y u):x=y:=nV (r.Xi.symm.trans q.Xi)
theorem Ag.inj:∀{xs ys:List V} {us:List Value},Ag xs us->Ag ys us->xs=ys
 |_,_,_,.nil,.nil=>rfl
 |_,_,_,.cons r t,.cons r' t'=>by rw[r.inj r',Ag.inj t t']
section
variable {X:Cx}{ga:List (Addr×Obj)}{σ:St}{H:Hp}{s:nP}{a:Addr}{xs ys:List V}
theorem AR.of{K:nI}(h:H a=some (.AE xs)):AR K H a xs:=.inl (.inl h)
theorem AJ.of{K:nI}(h:H a=some (.AG xs)):AJ K H a xs:=.inl (.inl h)
theorem AI.list(I:AI X ga σ H s)(h:AR X.K H a xs):∃F:List Value,Ag xs F/\PlainL s.heap a F.toArray/\xs.length<=og:=by
 rcases h with h|⟨o,F,n,O,J,hd,hs,hz,r⟩
 ·obtain⟨z,F,n,r,e⟩:=h.ok I.Ap;exact⟨F,r,⟨_,n,e,U,U,U⟩,z⟩
 ·refine⟨F.toList,r,⟨o,n,I.Dh a o O,J,hd,by simpa using hs⟩,?_⟩;have e:=r.length;simp only[rC]at e
  lia
theorem AI.tuple(I:AI X ga σ H s)(h:AJ X.K H a xs):∃F:List Value,Ag xs F/\IsTup s.heap a F.toArray/\xs.length<=og:=by
 rcases h with h|⟨o,F,n,O,J,hs,hz,r⟩
 ·obtain⟨z,F,r,p,_⟩:=h.ok I.Ap;exact⟨F,r,p,z⟩
 ·refine⟨F.toList,r,⟨o,I.Dh a o O,J,n,by simpa using hs⟩,?_⟩;have e:=r.length;simp only[rC]at e;omega
theorem AI.list_inj(I:AI X ga σ H s)(h:AR X.K H a xs)(h':AR X.K H a ys):xs=ys:=by
 obtain⟨J,r,⟨o,n,e,_,_,d⟩,_⟩:=I.list h;obtain⟨its',r',⟨o',O,F,_,_,d'⟩,_⟩:=I.list h';rw[e]at F;cases F;rw[d]at d';injection d' with d1 _
 have:J=its':=by simpa using congrArg Array.toList d1
 subst this;exact r.inj r'
theorem AI.Sk(I:AI X ga σ H s)(h:AJ X.K H a xs)(h':AJ X.K H a ys):xs=ys:=by
 obtain⟨J,r,⟨o,e,_,n,d⟩,_⟩:=I.tuple h;obtain⟨its',r',⟨o',F,_,O,d'⟩,_⟩:=I.tuple h';rw[e]at F;cases F;rw[d]at d';injection d' with d1 _
 have:J=its':=by simpa using congrArg Array.toList d1
 subst this;exact r.inj r'
end
abbrev Cx.Fc(X:Cx)(E:Value->nP->Prop):Cx:={ X with xe:=E}
abbrev Cx.Hl(X:Cx):Cx:=X.Fc λ_ _=>False
theorem Cx.Ok.Fc{X:Cx}(F:X.Ok)(E:Value->nP->Prop):(X.Fc E).Ok :=
 ⟨F.DV,F.kind,F.Hd,F.Kw,F.above,F.inj,F.has,F.MZ,F.hd,F.frames,F.Oq,F.Xk,F.bs,F.Gp,F.L9,F.MJ,F.FY,F.Jd⟩
theorem Cx.Ok.GR{X:Cx}(F:(X.Fc E).Ok):X.Ok :=
 ⟨F.DV,F.kind,F.Hd,F.Kw,F.above,F.inj,F.has,F.MZ,F.hd,F.frames,F.Oq,F.Xk,F.bs,F.Gp,F.L9,F.MJ,F.FY,F.Jd⟩
section
variable {X:Cx}{ga:List (Addr×Obj)}{σ:St}{H:Hp}{s:nP}{E:Value->nP->Prop}
theorem AI.Fc(I:AI X ga σ H s)(E:Value->nP->Prop):AI (X.Fc E) ga σ H s:=⟨I.ok.Fc E,I.os,I.Ds,I.base,I.EZ,I.cell,I.free,I.GX,I.D1,I.Ap,I.len⟩
theorem AI.GR(I:AI (X.Fc E) ga σ H s):AI X ga σ H s:=⟨I.ok.GR,I.os,I.Ds,I.base,I.EZ,I.cell,I.free,I.GX,I.D1,I.Ap,I.len⟩
theorem SP.GR(h:SP (X.Fc E) ga D f s'):SP X ga D f s':=by
 cases f with
 |next=>obtain⟨F,H',I,q⟩:=h;exact⟨F,H',I.GR,q⟩
 |brk=>obtain⟨F,H',I,q⟩:=h;exact⟨F,H',I.GR,q⟩
 |cont=>obtain⟨F,H',I,q⟩:=h;exact⟨F,H',I.GR,q⟩
 |ret u=>obtain⟨v,F,H',I,r,q⟩:=h;exact⟨v,F,H',I.GR,r,q⟩
theorem PE.Hl(h:PE X.Hl e t):PE X e t:=λga s σ H Q I F =>
 qK (h ga s σ H Q (I.Fc _) F) (λ_ _ ⟨v,H',J,r,q⟩=>⟨v,H',J.GR,r,q⟩) λ_ _ z=>qj z
theorem PT.Hl(h:PT X.Hl e t):PT X e t:=λga s σ H Q I F =>
 qK (h ga s σ H Q (I.Fc _) F) (λ_ _ ⟨H',J,q⟩=>⟨H',J.GR,q⟩) λ_ _ z=>qj z
theorem CU.Hl{st:List Stmt}(h:CU X.Hl st t):CU X st t:=λga s σ H D I F =>
 qK (h ga s σ H D (I.Fc _) F) (λ_ _ q=>q.GR) λ_ _ z=>qj z
end
section
variable {X:Cx}{st:Stmt}{rest:List Stmt}{t u:TS}{e:Expr}{te:TE}{pos:Pos}
def kA:TS:=λD σ H=>D.nx σ H
def Kl(t u:TS):TS:=λD σ H=>t { D with nx:=u D} σ H
theorem By:CU X [] kA:=λ_ _ σ H _ I h=>vh ⟨σ,H,I,h⟩
theorem AN(h1:PS X st t)(h2:CU X rest u):CU X (st :: rest) (Kl t u):=by
 intro ga s σ H D I h;refine wpAny_execs_cons (Af (h1 ga s σ H { D with nx:=u D} I h) λf O q=>?_);cases f with
 |next =>
  obtain⟨F,H',J,q⟩:=q;exact h2 ga O F H' D J q
 |ret v=>exact q
 |brk=>exact q
 |cont=>exact q
theorem AX(h1:PS X st t):CU X [st] t:=by
 intro ga s σ H D I h;refine wpAny_execs_cons (Af (h1 ga s σ H D I h) λf F q=>?_);cases f with
 |next=>exact vh q
 |ret v=>exact q
 |brk=>exact q
 |cont=>exact q
theorem AI.jm(I:AI X ga σ H s):interactive X.env=false:=by simp[interactive,I.ok.kind]
def jq(te:TE):TS:=λD σ H=>te σ H λ_ H1=>D.nx σ H1
theorem Eb(O:PE X e te)(hs:vO e none pos.line X.env=pure false:=by rfl):PS X (.Expr e pos) (jq te):=by
 intro ga s σ H D I h;exact wpAny_Expr_any (Af (O ga s σ H _ I h) λv s1 ⟨x,H1,J,r1,F⟩=>⟨σ,H1,J,F⟩) I.jm hs
def RP(te:TE):TS:=λD σ H=>te σ H D.rt
theorem Ar(he:PE X e te):PS X (.Return (some e) pos) (RP te):=by
 intro ga s σ H D I h;exact wpAny_Return_some (Af (he ga s σ H _ I h) λv s1 ⟨x,H1,J,O,F⟩=>⟨x,σ,H1,J,O,F⟩)
def XM(c:TT)(t u:TS):TS:=λD σ H=>c σ H λb H1=>if b=true then t D σ H1 else u D σ H1
theorem Bq(hc:PT X c tc)(ha:CU X a t)(hb:CU X b u):PS X (.If c a b pos) (XM tc t u):=by
 intro ga s σ H D I h;refine wpAny_If (Af (hc ga s σ H _ I h) λd O ⟨H1,J,F⟩=>?_);cases d with
 |true=>exact ha ga O σ H1 D J F
 |false=>exact hb ga O σ H1 D J F
def VU:TS:=λ_ _ _=>False
theorem NH:PS X st VU:=λ_ _ _ _ _ _ h=>h.elim
theorem Mj:CU X sts VU:=λ_ _ _ _ _ _ h=>h.elim
end
abbrev TG:=V->St->Hp->(St->Hp->Prop)->Prop
abbrev Gk:=List V->St->Hp->(St->Hp->Prop)->Prop
def PG(X:Cx)(I:Expr)(t:TG):Prop :=
 ∀(ga:List (Addr×Obj)) (s:nP) (σ:St) (H:Hp) (v:V) (u:Value) (Q:St->Hp->Prop),AI X ga σ H s->Av v u->t v σ H Q →
  wpAny (model X.prog X.w) X.A (wM I X.env u) (λ_ s'=>∃F H',AI X ga F H' s'/\Q F H') X.xe s
def Ma(X:Cx)(ts:List Expr)(t:Gk):Prop :=
 ∀(ga:List (Addr×Obj)) (s:nP) (σ:St) (H:Hp) (I:List V) (us:List Value) (Q:St->Hp->Prop),AI X ga σ H s->Ag I us->t I σ H Q →
  wpAny (model X.prog X.w) X.A (xZ ((tW ts X.env).map (·.2)) us) (λ_ s'=>∃F H',AI X ga F H' s'/\Q F H') X.xe s
abbrev RW:=V->V->V->Hp->(Hp->Prop)->Prop
def W9(X:Cx)(t:RW):Prop :=
 ∀(ga:List (Addr×Obj)) (s:nP) (σ:St) (H:Hp) (o i v:V) (F I u:Value) (Q:Hp->Prop),AI X ga σ H s->Av o F->Av i I->Av v u->t o i v H Q →
  wpAny (model X.prog X.w) X.A (setItem F I u) (λ_ s'=>∃H',AI X ga σ H' s'/\Q H') X.xe s
section
variable {X:Cx}{pos:Pos}
def BU(i:Nat):TG:=λv σ H Q=>Q (σ.set i (some v)) H
theorem B9(O:X.N.Nodup)(hi:X.N[i]?=some x)(F:Ig X.env.scope x)(J:X.fn x=true\/X.env.scope.names.lookup x=some .local:=by first|exact .inl rfl|exact .inr rfl|assumption):PG X (.Name x pos) (BU i):=by
 intro ga s σ H v u Q I r h;exact zj (NB I O hi F r (λs' I'=>⟨_,H,I',h⟩) J)
inductive Wi(F:List V)(σ:St)(H:Hp)(Q:St->Hp->Prop):Prop
 |mk (e:F=[]) (q:Q σ H):Wi F σ H Q
def Kp:Gk:=λF σ H Q=>Wi F σ H Q
inductive VP(t:TG)(u:Gk)(F:List V)(σ:St)(H:Hp)(Q:St->Hp->Prop):Prop
 |mk (v:V) (r:List V) (e:F=v :: r) (q:t v σ H λI H'=>u r I H' Q):VP t u F σ H Q
def Fw(t:TG)(u:Gk):Gk:=λF σ H Q=>VP t u F σ H Q
theorem Dj:Ma X [] Kp:=by
 intro ga s σ H F us Q I r h;obtain⟨e,h⟩:=h;subst e;cases r;exact zh ⟨σ,H,I,h⟩
theorem Bf {e:Expr}{es:List Expr}{t:TG}{u:Gk}(h1:PG X e t)(h2:Ma X es u)
  (hs:(tW (e :: es) X.env).map (·.2)=wM e X.env :: (tW es X.env).map (·.2):=by rfl):Ma X (e :: es) (Fw t u):=by
 intro ga s σ H vs us Q I r h;obtain⟨v,vr,e1,h⟩:=h;subst e1;cases r with
 |cons r rr =>
  rw[hs];refine vM (Af (h1 ga s σ H _ _ _ I r h) λ_ s1 ⟨J,H1,O,F⟩=>?_);exact h2 ga s1 J H1 _ _ Q O rr F
inductive Wj(K:nI)(n:Nat)(t:Gk)(v:V)(σ:St)(H:Hp)(Q:St->Hp->Prop):Prop
 |mk (a:Addr) (xs:List V) (e:v=.ref a) (s:AJ K H a xs) (l:xs.length=n) (q:t xs σ H Q):Wj K n t v σ H Q
def IS(K:nI)(n:Nat)(t:Gk):TG:=λv σ H Q=>Wj K n t v σ H Q
theorem iT {es:List Expr}{k:Nat}{t:Gk}{n:Nat}(hc:X.C5=true)(h:Ma X es t)
  (hn:(tW es X.env).length=n:=by rfl)(aa:(tW es X.env).findIdx? (·.1)=none:=by rfl):PG X (.Tuple es k pos) (IS X.K n t):=by
 intro ga s σ H v u Q I r F;obtain⟨a,xs,e1,hq,hl,F⟩:=F;subst e1;cases r;obtain⟨ab,J,ht,hz⟩:=I.tuple hq;refine assign_Tuple_tuple (I.ok.hd hc) ht (by simp[hn,<-hl,J.length]) aa λh' O=>?_
 have I1:AI X ga σ H { s with heap:=h'}:=I.CG (t':=s.toks) λb o e=>O b o (pV (oq e)) e
 exact h ga _ σ H xs _ Q I1 (by simpa using J) F
def XU(to F:TE)(t:RW):TG:=λv σ H Q=>to σ H λo H1=>F σ H1 λi H2=>t o i v H2 λI=>Q σ I
theorem IG {o i:Expr}{to O:TE}{t:RW}(ho:PE X o to)(hi:PE X i O)(hs:W9 X t)
  (ha:∀v,wM (.Subscript o i pos) X.env v=(do
   let F <-holding [v] (eval o X.env)
   let J <-holding [v,F] (eval i X.env)
   standAt pos
   holding [v,F,J] (setItem F J v)
   release [v,F,J] []):=by intro _;rfl):PG X (.Subscript o i pos) (XU to O t):=by
 intro ga s σ H v u Q I r h;rw[ha];refine nH (vX (Af (ho ga s σ H _ I h) λF s1 ⟨x,H1,I1,r1,q1⟩=>?_));refine nH (vX (Af (hi ga s1 σ H1 _ I1 q1) λJ s2 ⟨y,H2,I2,r2,q2⟩=>?_));refine nH (vZ (nH (vX (Af (hs ga s2 σ H2 x y v F J u _ I2 r1 r2 r q2) λ_ s3 ⟨H3,I3,q3⟩=>?_))));exact wpAny_release ⟨σ,H3,I3,q3⟩
def JV(te:TE)(g:TG):TS:=λD σ H=>te σ H λx H1=>g x σ H1 D.nx
theorem Ed {tg e:Expr}{te:TE}{g:TG}(he:PE X e te)(J:PG X tg g)(hs:swapsWithSole [tg] e pos.line X.env=pure false:=by rfl)(F:swappedStores [tg] e X.env=pure none:=by rfl)
  (h1:(tW [tg] X.env).map (·.2)=[wM tg X.env]:=by rfl):PS X (.Assign [tg] e pos) (JV te g):=by
 intro ga s σ H D I h;refine wpAny_Assign_stores (Af (he ga s σ H _ I h) λv s1 ⟨x,H1,I1,r1,O⟩=>?_) hs F;rw[h1];exact Af (J ga s1 σ H1 x v _ I1 r1 O) λ_ s2 q=>q
theorem iM{i:Nat}{x:Str}{e:Expr}{te:TE}{pos':Pos}(hN:X.N.Nodup)(hi:X.N[i]?=some x)(F:Ig X.env.scope x)(he:PE X e te)(hs:vO e (some (.Name x pos')) pos.line X.env=pure false:=by rfl)(hf:X.fn x=true\/X.env.scope.names.lookup x=some .local:=by first|exact .inl rfl|exact .inr rfl|assumption):
  PS X (.Assign [.Name x pos'] e pos) (JV te (BU i)):=by
 intro ga s σ H D I h;refine wpAny_Assign_Name (Af (he ga s σ H _ I h) λv s1 ⟨y,H1,I1,O,J⟩=>?_) hs;exact NB I1 hN hi F O (λs2 I2=>⟨_,H1,I2,J⟩) hf
def l9(i j:Nat)(ta:TA):TS:=λD σ H=>ta σ H λF H1=>∃v w,F=[v,w]/\D.nx ((σ.set i (some v)).set j (some w)) H1
theorem iR {kt k2 pt2}(hc:X.C5=true)(hN:X.N.Nodup)(hi:X.N[i]?=some x)(hj:X.N[j]?=some y)(aa:i≠j)
  (O:X.env.scope.names.lookup x=some .local)(hy:X.env.scope.names.lookup y=some .local)(ha:PA X [a,b] ta)
  (hw:swappedStores [.Tuple [.Name x px,.Name y py] kt pt] (.Tuple [a,b] k2 pt2) X.env=pure (some [x,y]))
  (hs:swapsWithSole [.Tuple [.Name x px,.Name y py] kt pt] (.Tuple [a,b] k2 pt2) pos.line X.env=pure false:=by rfl) :
  PS X (.Assign [.Tuple [.Name x px,.Name y py] kt pt] (.Tuple [a,b] k2 pt2) pos) (l9 i j ta):=by
 intro ga s σ H D I h;rw[exec_Assign_arm];refine nH (vZ ?_);rw[hs];refine nH (oy ?_);rw[nv (by decide)];refine nH (Tuple_ (Af (ha _ ga s σ H _ I h) λus F ⟨vs,H1,I1,r1,J⟩=>?_));obtain⟨v,w,e1,J⟩:=J;subst e1;obtain⟨u1,u2,rfl,rv,ab⟩:∃u1 u2,us=[u1,u2]/\Av v u1/\Av w u2:=by
  cases r1 with
  |cons p q =>
   cases q with
   |cons p' q' =>
    cases q';exact⟨_,_,U,p,p'⟩
 refine rh ?_ (by show 2<=og;decide);have I2:AI X ga σ H1 { F with heap:=F.heap.push { cls:=.type "tuple",data:=.seq [u1,u2].toArray}}:=I1.CG (t':=F.toks) λb o e=>nN _ e
 rw[hw];refine nH (oy ?_);show wpAny (model X.prog X.w) X.A (do rule "assign.swapped-stores";let items <-unpackItems (.ref F.heap.objs.size) 2 none;xZ [λv=>zM X.env y v,λv=>zM X.env x v] items.reverse;pure Flow.next) _ _ _;refine nH (xT (nH (unpackItems_tuple (items:=#[u1,u2]) (I.ok.hd hc) (yu F.heap _) λh' ac=>?_)));have I3:=I2.CG (h':=h') (t':=F.toks) λb o e=>ac b o (pV (oq e)) e
 show wpAny _ _ (xZ [λv=>zM X.env y v,λv=>zM X.env x v] [u2,u1] >>= λ_=>pure Flow.next) _ _ _;refine nH (vM (wpAny_bindName (NB I3 hN hj (.inl hy) ab (λs2 I4=>?_) (.inr hy))));refine vM (wpAny_bindName (NB I4 hN hi (.inl O) rv (λs3 I5=>zh (oy ?_)) (.inr O)));rw[List.set_comm _ _ (rN aa)]at I5;exact⟨_,H1,I5,J⟩
end
section
variable {X:Cx}{pos:Pos}
def VL(c:TT)(tb:TS):TS:=λD σ H=>∃W:Nat->St->Hp->Prop,(∃m,W m σ H)/\∀m σ H,W m σ H →
 c σ H λb H1=>if b=true then ∃N:St->Hp->Prop,(∀I H',N I H'->∃F,F<m/\W F I H')/\tb { D with nx:=N,ct:=N,bk:=D.nx} σ H1 else D.nx σ H1
theorem Jq(hp:oZ (model X.prog X.w) X.A X.env X.xe)(hc:PT X c tc)(hb:CU X body tb):PS X (.While c body [] pos) (VL tc tb):=by
 intro ga s σ H D I h;obtain⟨W,⟨m0,w0⟩,aa⟩:=h;refine wpAny_While (codeAny_whileLoop (λn s'=>∃σ' H',AI X ga σ' H' s'/\W n σ' H') ?_ m0 ⟨σ,H,I,w0⟩);rintro n s1 ⟨σ1,H1,I1,w1⟩;refine si hp (Af (hc ga s1 σ1 H1 _ I1 (aa n σ1 H1 w1)) λb s2 ⟨H2,I2,q2⟩=>?_);cases b with
 |true =>
  obtain⟨N,hN,q2⟩:=q2;rw[nF rfl];refine si hp (Af (hb ga s2 σ1 H2 _ I2 q2) λf s3 O=>?_);cases f with
  |next =>
   obtain⟨J,F,I3,n3⟩:=O;obtain⟨m',hm,w3⟩:=hN J F n3;exact⟨m',hm,J,F,I3,w3⟩
  |cont =>
   obtain⟨J,F,I3,n3⟩:=O;obtain⟨m',hm,w3⟩:=hN J F n3;exact⟨m',hm,J,F,I3,w3⟩
  |brk=>exact O
  |ret v=>exact O
 |false =>
  rw[nv oz];exact vh ⟨σ1,H2,I2,q2⟩
end
structure It where
 go:Nat->Hp->Prop
 EL:Nat->Hp->V->Hp->Prop
 EH:Nat->Hp->Prop
def Fy(X:Cx)(ga:List (Addr×Obj))(H:Hp)(b:Addr):Prop :=
 H b=none/\b≠X.env.locals/\b∉X.fs/\(b∈X.ex\/X.s₀.heap.objs.size<=b)/\(∀x c,X.env.cells.lookup x=some c->c≠b)/\∀p∈X.pn++ga,p.1≠b
theorem AI.JY(I:AI X ga σ H s)(F:s.heap.objs.size<=b)(J:H' b=none):Fy X ga H' b:=by
 refine⟨J,tI (oY I.lt F),I.kU F,.inr (oa I.sz F),λx c e z=>?_,λp hp z=>?_⟩
 ·obtain⟨v,q⟩:=I.cell x c e;exact absurd (oY q.lt (by rw[z];exact F)) (sj _)
 ·exact absurd (oY (oq (I.D1 p hp).1) (by rw[z];exact F)) (sj _)
structure Ga(P:oT)(w:World)(K:nI)(tg:Expr)(J:It)(fp:List Addr)(it:Addr)(tn:Nat->Heap->Prop):Prop where
 mem:it∈fp
 Cv:∀i h,tn i h->∀b∈fp,∃o,h.get? b=some o/\∀v,o.data≠.cell v
 keep:∀i h h',tn i h->(∀b∈fp,∀o,h.get? b=some o->h'.get? b=some o)->tn i h'
 item:∀(X:Cx),X.prog=P->X.w=w->X.K=K->X.C5=true->∀(i:Nat) (ga:List (Addr×Obj)) (s:nP) (σ:St) (H:Hp) (E:Value->nP->Prop),AI X ga σ H s->(∀b∈fp,Fy X ga H b)->tn i s.heap->J.go i H →
  wpAny (model P w) X.A (xJ (.ref it)) (λr s1=>∃u,r=some u /\
   wpAny (model P w) X.A (vg tg (.ref it) u) (λ_ s2=>∃x H',AI X ga σ H' s2/\Av x u/\J.EL i H x H'/\tn (i+1) s2.heap/\∀b∈fp,H' b=none) E s1) E s
 done:∀(X:Cx),X.prog=P->X.w=w->X.K=K->X.C5=true->∀(i:Nat) (ga:List (Addr×Obj)) (s:nP) (σ:St) (H:Hp) (E:Value->nP->Prop),AI X ga σ H s->(∀b∈fp,Fy X ga H b)->tn i s.heap->J.EH i H →
  wpAny (model P w) X.A (xJ (.ref it)) (λr s1=>r=none/\AI X ga σ H s1) E s
 HX:∀(A:qu) (i:Nat) (s:nP) (Q:Value->nP->Prop) (E:Value->nP->Prop),tn i s.heap->Q (.ref it) s->wpAny (model P w) A (pyIter (.ref it)) Q E s
abbrev TI:=St->Hp->(It->Hp->Prop)->Prop
def Xh(X:Cx)(ga:List (Addr×Obj))(σ:St)(tg:Expr)(R:It->Hp->Prop)(aa:Value)(F:nP):Prop :=
 ∃(I:Addr) (fp:List Addr) (O:Nat->Heap->Prop) (J:It) (H':Hp),aa=.ref I/\AI X ga σ H' F/\Ga X.prog X.w X.K tg J fp I O/\O 0 F.heap/\(∀b∈fp,Fy X ga H' b)/\R J H'
def PI(X:Cx)(tg iter:Expr)(wi:TI):Prop :=
 ∀(ga:List (Addr×Obj)) (s:nP) (σ:St) (H:Hp) (R:It->Hp->Prop),AI X ga σ H s->wi σ H R →
  wpAny (model X.prog X.w) X.A (eval iter X.env) (λv F=>wpAny (model X.prog X.w) X.A (pyIter v) (Xh X ga σ tg R) X.xe F) X.xe s
theorem OM (J : s.heap.get? it = some o) (I : o.cls = .type n) (hd : o.data = .fields vs)
    (O:["enumerate","zip","dict_itemiterator","dict_reverseitemiterator","odict_iterator","itertools.zip_longest","itertools.pairwise"].contains n=false) (F:Q () s):wpAny M A (vg tg (.ref it) u) Q E s:=by
  unfold vg;cases tg<;>first
    |exact oy F
    | (cases u <;> first
        |exact oy F
        | (refine nH (wpAny_load J ?_)
           rw[I,hd];show wpAny M A (if (["enumerate","zip","dict_itemiterator","dict_reverseitemiterator","odict_iterator","itertools.zip_longest","itertools.pairwise"].contains n && vs[0]? == some (vN _))=true then _ else _) Q E s;rw[nv (by intro h;rw[O,Bool.false_and]at h;cases h)];exact oy F))
def Hn(K:nI)(a:Addr):It :=
 ⟨λi H=>∃xs x,AR K H a xs/\xs[i]?=some x,λi H x H'=>H'=H/\∀xs,AR K H a xs->xs[i]?=some x,λi H=>∃xs,AR K H a xs/\xs.length<=i⟩
def Hm(K:nI)(a:Addr):It :=
 ⟨λi H=>∃xs x,AJ K H a xs/\xs[i]?=some x,λi H x H'=>H'=H/\∀xs,AJ K H a xs->xs[i]?=some x,λi H=>∃xs,AJ K H a xs/\xs.length<=i⟩
def GF(lo:Int)(n:Nat):It:=⟨λi _=>i<n,λi H x H'=>H'=H/\x=.int (lo+i),λi _=>n<=i⟩
theorem ZC{P:oT}{w:World}{K:nI}{tg:Expr}(a F:Addr):Ga P w K tg (Hn K a) [F] F (λi h=>h.IsListIter F a i) where
 mem:=by simp
 Cv:=λi h st b J=>by
  have e:b=F:=by simpa using J
  subst e;obtain⟨o,e,c,d⟩:=st;exact⟨o,e,λv z=>by rw[d]at z;cases z⟩
 keep:=λi h h' st k=>st.at λo e=>k F (by simp) o e
 item:=by
  intro X hP hw hK hc i ga s σ H E I hf st hg;subst hP hw hK;obtain⟨xs,x,O,hx⟩:=hg;obtain⟨ab,rv,p,hz⟩:=I.list O;obtain⟨u,hu,ru⟩:=rv.BZ hx;obtain⟨f0,f1,f2,f3,f4,f5⟩:=hf F (by simp);refine wpAny_pyNext_list_item st p.isList (x:=u) (by simpa using hu) λh' aa sb=>?_
  have I1:AI X ga σ H { s with heap:=h'}:=I.Fu (t':=s.toks) (λb o J e=>(sb.2 b J).trans e) f0 f1 f3 f4 f5;obtain⟨o,e,c,d⟩:=id aa;exact⟨u,U,OM (s:={ s with heap:=h'}) e c d (by decide) ⟨x,H,I1,ru,⟨U,λys hy=>by rw[I.list_inj hy O];exact hx⟩,aa,λb J=>(hf b J).1⟩⟩
 done:=by
  intro X hP hw hK hc i ga s σ H E I hf st hg;subst hP hw hK;obtain⟨xs,O,hx⟩:=hg;obtain⟨ab,rv,p,hz⟩:=I.list O;obtain⟨f0,f1,f2,f3,f4,f5⟩:=hf F (by simp);have hl:=rv.length;exact wpAny_pyNext_list_end (I.ok.hd hc) st p.isList (by simp;lia) λh' eb=>⟨U,I.Fu (t':=s.toks) (λb o J e=>eb b o J e) f0 f1 f3 f4 f5⟩
 HX:=λ_ _ _ _ _ st h=>wpAny_pyIter_listiter st h
theorem Yb{P:oT}{w:World}{K:nI}{tg:Expr}(a F:Addr):Ga P w K tg (Hm K a) [F] F (λi h=>h.IsTupleIter F a i) where
 mem:=by simp
 Cv:=λi h st b J=>by
  have e:b=F:=by simpa using J
  subst e;obtain⟨o,e,c,d⟩:=st;exact⟨o,e,λv z=>by rw[d]at z;cases z⟩
 keep:=λi h h' st k=>st.at λo e=>k F (by simp) o e
 item:=by
  intro X hP hw hK hc i ga s σ H E I hf st hg;subst hP hw hK;obtain⟨xs,x,O,hx⟩:=hg;obtain⟨aa,rv,p,hz⟩:=I.tuple O;obtain⟨u,hu,ru⟩:=rv.BZ hx;obtain⟨f0,f1,f2,f3,f4,f5⟩:=hf F (by simp);refine wpAny_pyNext_tuple_item st (show s.heap.IsTuple a aa.toArray from p) (x:=u) (by simpa using hu) λh' ab sb=>?_
  have I1:AI X ga σ H { s with heap:=h'}:=I.Fu (t':=s.toks) (λb o J e=>(sb.2 b J).trans e) f0 f1 f3 f4 f5;obtain⟨o,e,c,d⟩:=id ab;exact⟨u,U,OM (s:={ s with heap:=h'}) e c d (by decide) ⟨x,H,I1,ru,⟨U,λys hy=>by rw[I.Sk hy O];exact hx⟩,ab,λb J=>(hf b J).1⟩⟩
 done:=by
  intro X hP hw hK hc i ga s σ H E I hf st hg;subst hP hw hK;obtain⟨xs,O,hx⟩:=hg;obtain⟨aa,rv,p,hz⟩:=I.tuple O;obtain⟨f0,f1,f2,f3,f4,f5⟩:=hf F (by simp);have hl:=rv.length;exact wpAny_pyNext_tuple_end (I.ok.hd hc) st (show s.heap.IsTuple a aa.toArray from p) (by simp;lia) λh' eb=>⟨U,I.Fu (t':=s.toks) (λb o J e=>eb b o J e) f0 f1 f3 f4 f5⟩
 HX:=λ_ _ _ _ _ st h=>wpAny_pyIter_tupleiter st h
theorem YV{P:oT}{w:World}{K:nI}{tg:Expr}(F:Addr)(lo:Int)(n:Nat):Ga P w K tg (GF lo n) [F] F (λi h=>w9 h F (lo+(i:Nat)*1) ((n:Int)-(i:Nat)) 1) where
 mem:=by simp
 Cv:=λi h st b J=>by
  have e:b=F:=by simpa using J
  subst e;exact⟨_,st,λv z=>by
   have z':wZ _=vG v:=z;cases z'⟩
 keep:=λi h h' st k=>k F (by simp) _ st
 item:=by
  intro X hP hw hK hc i ga s σ H E I O st hg;subst hP hw hK;obtain⟨f0,f1,f2,f3,f4,f5⟩:=O F (by simp);have W:=Walks.range (prog:=X.prog) (w:=X.w) (I.ok.hd hc) F lo 1 n;refine W.item i s _ _ hg st λv h' tk hv aa kk=>?_
  obtain⟨t,rfl⟩:=hv;have I1:AI X ga σ H { s with heap:=h',toks:=tk}:=I.Fu (λb o J e=>kk b o (by simpa using J) e) f0 f1 f3 f4 f5;refine⟨_,U,OM (s:={ s with heap:=h',toks:=tk}) (n:="range_iterator") aa rfl rfl (by decide) ⟨.int (lo+i),H,I1,⟨t,?_⟩,⟨U,U⟩,aa,λb J=>(O b J).1⟩⟩;rw[zo]
 done:=by
  intro X hP hw hK hc i ga s σ H E I O st hg;subst hP hw hK;obtain⟨f0,f1,f2,f3,f4,f5⟩:=O F (by simp);exact xu (I.ok.hd hc) st (by have:n<=i:=hg;lia) λh' eb=>⟨U,I.Fu (t':=s.toks) (λb o J e=>eb b o J e) f0 f1 f3 f4 f5⟩
 HX:=λ_ _ _ _ _ st h=>xt st h
section
variable {X:Cx}{tg:Expr}
inductive V2(K:nI)(x:V)(H:Hp)(R:It->Hp->Prop):Prop
 |mk (a:Addr) (e:x=.ref a) (s:∃xs,AR K H a xs) (q:R (Hn K a) H):V2 K x H R
inductive Wg(K:nI)(x:V)(H:Hp)(R:It->Hp->Prop):Prop
 |mk (a:Addr) (e:x=.ref a) (s:∃xs,AJ K H a xs) (q:R (Hm K a) H):Wg K x H R
def WV(K:nI)(tl:TE):TI:=λσ H R=>tl σ H λx H1=>V2 K x H1 R
def OS(K:nI)(tl:TE):TI:=λσ H R=>tl σ H λx H1=>Wg K x H1 R
theorem eK(O:PE X l tl):PI X tg l (WV X.K tl):=by
 intro ga s σ H R I h;refine Af (O ga s σ H _ I h) λv J ⟨x,H1,F,r1,q1⟩=>?_
 obtain⟨a,e,⟨xs,hq⟩,q⟩:=q1;subst e;cases r1;obtain⟨aa,rv,p,hz⟩:=F.list hq;refine sv p.isList ?_;refine⟨J.heap.objs.size,[J.heap.objs.size],_,_,H1,U,F.CG (t':=J.toks) λb o e=>nN _ e,ZC a _,⟨_,oF _ rfl,U,U⟩,λb hb=>?_,q⟩;have e:b=J.heap.objs.size:=by simpa using hb
 subst e;exact F.JY (nG _) (F.Ap.CB (nG _))
theorem iH(O:PE X l tl):PI X tg l (OS X.K tl):=by
 intro ga s σ H R I h;refine Af (O ga s σ H _ I h) λv F ⟨x,H1,J,r1,q1⟩=>?_
 obtain⟨a,e,⟨xs,hq⟩,q⟩:=q1;subst e;cases r1;obtain⟨aa,rv,p,hz⟩:=J.tuple hq;refine qX (show F.heap.IsTuple a aa.toArray from p) ?_;refine⟨F.heap.objs.size,[F.heap.objs.size],_,_,H1,U,J.CG (t':=F.toks) λb o e=>nN _ e,Yb a _,⟨_,oF _ rfl,U,U⟩,λb hb=>?_,q⟩;have e:b=F.heap.objs.size:=by simpa using hb
 subst e;exact J.JY (nG _) (J.Ap.CB (nG _))
theorem Tv {lo hi:Int}(I:AI X ga σ H s)(h1:-(2 ^ 62)<=lo)(h2:lo<2 ^ 62)(h3:-(2 ^ 62)<=hi)(O:hi<2 ^ 62)
  (q:R (GF lo (hi-lo).toNat) H):wpAny (model X.prog X.w) X.A (pyIter (.ref s.heap.objs.size)) (Xh X ga σ tg R) E { s with heap:=s.heap.push { cls:=.type "range",data:=.fields #[.int lo t,.int hi u,.int 1 v]},toks:=tk}:=by
 refine yV (w8 ..) (small_one h1 h2 h3 O) ?_;have F:AI X ga σ H { s with heap:=s.heap.push { cls:=.type "range",data:=.fields #[.int lo t,.int hi u,.int 1 v]},toks:=tk}:=I.CG λb o e=>nN _ e
 refine⟨(s.heap.push { cls:=.type "range",data:=.fields #[.int lo t,.int hi u,.int 1 v]}).objs.size,[(s.heap.push { cls:=.type "range",data:=.fields #[.int lo t,.int hi u,.int 1 v]}).objs.size],_,_,H,U,
  F.CG (t':=tk) λb o e=>nN _ e,YV _ lo (hi-lo).toNat,?_,λb hb=>?_,q⟩
 ·have e1:lo+((0:Nat):Int)*1=lo:=by simp
  have J:(((hi-lo).toNat:Nat):Int)-((0:Nat):Int)=sZ lo hi 1:=by rw[x4];split<;>lia
  show w9 _ _ (lo+((0:Nat):Int)*1) ((((hi-lo).toNat:Nat):Int)-((0:Nat):Int)) 1;rw[e1,J];exact oF _ rfl
 ·have e:b=(s.heap.push { cls:=.type "range",data:=.fields #[.int lo t,.int hi u,.int 1 v]}).objs.size:=by simpa using hb
  subst e;exact F.JY (nG _) (F.Ap.CB (nG _))
def jx(ta:TA):TI:=λσ H R=>ta σ H λF H1=>∃j:Int,F=[.int j]/\-(2 ^ 62)<=j/\j<2 ^ 62/\R (GF 0 j.toNat) H1
def jz(ta:TA):TI:=λσ H R=>ta σ H λF H1=>∃i j:Int,F=[.int i,.int j]/\(-(2 ^ 62)<=i/\i<2 ^ 62/\-(2 ^ 62)<=j/\j<2 ^ 62)/\R (GF i (j-i).toNat) H1
theorem Hu{a:Expr}{ta:TA}{p pos:Pos}(O:Gl X "range")(hm:X.mg "range" = none)(ha:PA X [a] ta)(hs:oG [a] X.env=[(false,eval a X.env)]:=by rfl):PI X tg (.Call (.Name "range" p) [a] [] pos) (jx ta):=by
 intro ga s σ H R I h;refine Call_ (FP I O hm wy (pI (Af (ha pos ga s σ H _ I h) λus s1 ⟨vs,H1,I1,r1,F⟩=>?_) hs rfl));obtain⟨j,e,F,J,q⟩:=F;subst e;cases r1 with
 |cons r rr =>
  cases rr;obtain⟨t,rfl⟩:=r;exact call_range_1 (Tv I1 (by lia) (by lia) F J (by simpa using q))
theorem Ph{a b:Expr}{ta:TA}{p pos:Pos}(hg:Gl X "range")(hm:X.mg "range" = none)(ha:PA X [a,b] ta)(hs:oG [a,b] X.env=[(false,eval a X.env),(false,eval b X.env)]:=by rfl)(J:oG [b] X.env=[(false,eval b X.env)]:=by rfl):
  PI X tg (.Call (.Name "range" p) [a,b] [] pos) (jz ta):=by
 intro ga s σ H R I h;refine Call_ (FP I hg hm wy (pI (Af (ha pos ga s σ H _ I h) λus s1 ⟨vs,H1,I1,r1,F⟩=>?_) (by rw[hs,J]) (by rw[J];rfl)));obtain⟨i,j,e,⟨F,q2,O,q4⟩,q⟩:=F;subst e;cases r1 with
 |cons r rr =>
  cases rr with
  |cons r' rr =>
   cases rr;obtain⟨t,rfl⟩:=r;obtain⟨t',rfl⟩:=r';exact call_range_2 (Tv I1 F q2 O q4 q)
def RN(wi:TI)(g:TG)(tb:TS):TS:=λD σ H=>wi σ H λJ H1=>∃W:Nat->Nat->St->Hp->Prop,(∃m,W 0 m σ H1)/\∀i m σ H,W i m σ H →
 (J.EH i H/\D.nx σ H)\/(J.go i H/\∃N:St->Hp->Prop,(∀F H',N F H'->∃I,I<m/\W (i+1) I F H')/\∀x H',J.EL i H x H'->g x σ H' λO H2=>tb { D with nx:=N,ct:=N,bk:=D.nx} O H2)
def Lm(fp:List Addr)(h:Heap):List (Addr×Obj):=fp.filterMap λb=>(h.get? b).map λo=>(b,o)
theorem Mh(F:b∈fp)(e:h.get? b=some o):(b,o)∈Lm fp h:=yy.mpr ⟨b,F,by rw[e];rfl⟩
theorem ZJ(hp:p∈Lm fp h):p.1∈fp/\h.get? p.1=some p.2:=by
 obtain⟨b,F,e⟩:=yy.mp hp;cases q:h.get? b with
 |none=>rw[q]at e;cases e
 |some o =>
  rw[q]at e;have I:(b,o)=p:=nV e;subst I;exact⟨F,q⟩
theorem AI.V0(I:AI X ga σ H s)(O:∀b∈fp,Fy X ga H b)(ho:∀b∈fp,∃o,s.heap.get? b=some o/\∀v,o.data≠.cell v):AI X (ga++Lm fp s.heap) σ H s :=
 I.Uj λp hp=>(nM.mp hp).elim (λz=>I.D1 p (oI _ z)) λz=>by
  obtain⟨J,e⟩:=ZJ z;obtain⟨f0,f1,f2,_⟩:=O p.1 J;obtain⟨o,F,d⟩:=ho p.1 J;rw[e]at F;cases F;exact⟨e,f0,f1,f2,d⟩
theorem AI.LH(I:AI X (ga++pl) σ H s):AI X ga σ H s:=I.Uj λp hp=>I.D1 p (oI _ (pU _ hp))
theorem CS {iter:Expr}{af:List Stmt}{wi:TI}{g:TG}{tb:TS}{pos:Pos}(hp:oZ (model X.prog X.w) X.A X.env X.xe)(hc:X.C5=true)(hi:PI X tg iter wi)(hg:PG X tg g)(hb:CU X af tb)
  (hs:∀x,rR iter X.env x=pure x:=by intro _;rfl):PS X (.For tg iter af [] pos) (RN wi g tb):=by
 intro ga s σ H D I h;refine wpAny_For (Af (hi ga s σ H _ I h) λv s1 h1=>Af h1 λal s2 h2=>?_) hs;obtain⟨it,fp,tn,J,H2,e,I2,T,ag,f2,W,⟨m0,w0⟩,aj⟩:=h2;subst e;have aa:∀{H':Hp},(∀b∈fp,H' b=none)->∀b∈fp,Fy X ga H' b:=λhn b hb=>⟨hn b hb,(f2 b hb).2⟩
 refine codeAny_forLoop_any (λn s'=>∃i σ' H',AI X ga σ' H' s'/\tn i s'.heap/\(∀b∈fp,H' b=none)/\W i n σ' H') ?_ m0 ⟨0,σ,H2,I2,ag,λb hb=>(f2 b hb).1,w0⟩;rintro n s3 ⟨i,σ3,H3,I3,ac,ae,w3⟩;rcases aj i n σ3 H3 w3 with ⟨ai,qn⟩|⟨go,N,hN,step⟩
 ·refine si hp (Af (T.done X rfl rfl rfl hc i ga s3 σ3 H3 X.xe I3 (aa ae) ac ai) λr s4 ⟨hr,I4⟩=>?_);subst hr;exact vh ⟨σ3,H3,I4,qn⟩
 ·refine si hp (Af (T.item X rfl rfl rfl hc i ga s3 σ3 H3 X.xe I3 (aa ae) ac go) λr s4 ⟨u,hr,h4⟩=>?_);subst hr;refine si hp (Af h4 λ_ s5 ⟨x,H5,I5,r5,y5,ab,ak⟩=>?_);have ah:=I5.V0 (aa ak) (T.Cv _ _ ab);refine si hp (Af (hg _ s5 σ3 H5 x u _ ah r5 (step x H5 y5)) λ_ s6 ⟨σ6,H6,I6,q6⟩=>?_);refine si hp (Af (hb _ s6 σ6 H6 _ I6 q6) λf s7 q7=>?_);have ad:∀{σ7:St} {O:Hp},AI X (ga++Lm fp s5.heap) σ7 O s7->N σ7 O->∃m,m<n/\∃i σ' H',AI X ga σ' H' s7/\tn i s7.heap/\(∀b∈fp,H' b=none)/\W i m σ' H':=λ{σ7 O} F n7=>by
   obtain⟨m',hm,w7⟩:=hN σ7 O n7;refine⟨m',hm,i+1,σ7,O,F.LH,T.keep _ _ _ ab λb hb o e=>(F.D1 (b,o) (oI _ (oI _ (Mh hb e)))).1,λb hb=>?_,w7⟩;obtain⟨o,e,d⟩:=T.Cv _ _ ab b hb;exact(F.D1 (b,o) (oI _ (oI _ (Mh hb e)))).2.1
  cases f with
  |next=>obtain⟨σ7,O,F,n7⟩:=q7;exact ad F n7
  |cont=>obtain⟨σ7,O,F,n7⟩:=q7;exact ad F n7
  |brk=>obtain⟨σ7,O,F,q7⟩:=q7;exact⟨σ7,O,F.LH,q7⟩
  |ret v=>obtain⟨x7,σ7,O,F,r7,q7⟩:=q7;exact⟨x7,σ7,O,F.LH,r7,q7⟩
end
theorem LS {K:nI}{a:Addr}{xs:List V}{g:TG}{tb:TS}{D:Dd}{σ:St}{H:Hp}(F:Nat->St->Hp->Prop)(h0:F 0 σ H)(hl:∀i σ H,i<=xs.length->F i σ H->AR K H a xs)
  (hs:∀i x σ H,xs[i]?=some x->F i σ H->g x σ H λI H2=>tb { D with nx:=F (i+1),ct:=F (i+1),bk:=D.nx} I H2)(hd:∀σ H,F xs.length σ H->D.nx σ H) :
  ∃W:Nat->Nat->St->Hp->Prop,(∃m,W 0 m σ H)/\∀i m σ H,W i m σ H →
   ((Hn K a).EH i H/\D.nx σ H)\/((Hn K a).go i H/\∃N:St->Hp->Prop,(∀J H',N J H'->∃m',m' < m/\W (i+1) m' J H')/\∀x H',(Hn K a).EL i H x H'->g x σ H' λI H2=>tb { D with nx:=N,ct:=N,bk:=D.nx} I H2):=by
 refine⟨λi m σ H=>m=xs.length-i/\i<=xs.length/\F i σ H,⟨xs.length,by simp,pJ _,h0⟩,?_⟩;rintro i m σ H ⟨rfl,hi,p⟩;have q:=hl i σ H hi p;by_cases O:i<xs.length
 ·refine .inr ⟨⟨xs,xs[i],q,by simp[O]⟩,F (i+1),λJ H' p'=>⟨xs.length-(i+1),by lia,U,O,p'⟩,λx H' y=>?_⟩;obtain⟨e,y⟩:=y;subst e;exact hs i x σ _ (y xs q) p
 ·have e:i=xs.length:=by lia
  subst e;exact .inl ⟨⟨xs,q,nG _⟩,hd σ H p⟩
theorem JC {K:nI}{a:Addr}{xs:List V}{g:TG}{tb:TS}{D:Dd}{σ:St}{H:Hp}(F:Nat->St->Hp->Prop)(h0:F 0 σ H)(hl:∀i σ H,i<=xs.length->F i σ H->AJ K H a xs)
  (hs:∀i x σ H,xs[i]?=some x->F i σ H->g x σ H λI H2=>tb { D with nx:=F (i+1),ct:=F (i+1),bk:=D.nx} I H2)(hd:∀σ H,F xs.length σ H->D.nx σ H) :
  ∃W:Nat->Nat->St->Hp->Prop,(∃m,W 0 m σ H)/\∀i m σ H,W i m σ H →
   ((Hm K a).EH i H/\D.nx σ H)\/((Hm K a).go i H/\∃N:St->Hp->Prop,(∀J H',N J H'->∃m',m' < m/\W (i+1) m' J H')/\∀x H',(Hm K a).EL i H x H'->g x σ H' λI H2=>tb { D with nx:=N,ct:=N,bk:=D.nx} I H2):=by
 refine⟨λi m σ H=>m=xs.length-i/\i<=xs.length/\F i σ H,⟨xs.length,by simp,pJ _,h0⟩,?_⟩;rintro i m σ H ⟨rfl,hi,p⟩;have q:=hl i σ H hi p;by_cases O:i<xs.length
 ·refine .inr ⟨⟨xs,xs[i],q,by simp[O]⟩,F (i+1),λJ H' p'=>⟨xs.length-(i+1),by omega,U,O,p'⟩,λx H' y=>?_⟩;obtain⟨e,y⟩:=y;subst e;exact hs i x σ _ (y xs q) p
 ·have e:i=xs.length:=by omega
  subst e;exact .inl ⟨⟨xs,q,nG _⟩,hd σ H p⟩
theorem Io {lo:Int}{n:Nat}{g:TG}{tb:TS}{D:Dd}{σ:St}{H:Hp}(F:Nat->St->Hp->Prop)(h0:F 0 σ H)
  (hs:∀i σ H,i<n->F i σ H->g (.int (lo+i)) σ H λI H2=>tb { D with nx:=F (i+1),ct:=F (i+1),bk:=D.nx} I H2)(hd:∀σ H,F n σ H->D.nx σ H) :
  ∃W:Nat->Nat->St->Hp->Prop,(∃m,W 0 m σ H)/\∀i m σ H,W i m σ H →
   ((GF lo n).EH i H/\D.nx σ H)\/((GF lo n).go i H/\∃N:St->Hp->Prop,(∀O H',N O H'->∃m',m' < m/\W (i+1) m' O H')/\∀x H',(GF lo n).EL i H x H'->g x σ H' λI H2=>tb { D with nx:=N,ct:=N,bk:=D.nx} I H2):=by
 refine⟨λi m σ H=>m=n-i/\i<=n/\F i σ H,⟨n,by simp,pJ _,h0⟩,?_⟩;rintro i m σ H ⟨rfl,hi,p⟩;by_cases J:i<n
 ·refine .inr ⟨J,F (i+1),λO H' p'=>⟨n-(i+1),by lia,U,J,p'⟩,λx H' y=>?_⟩;obtain⟨e,y⟩:=y;subst e y;exact hs i σ _ J p
 ·have e:i=n:=by lia
  subst e;exact .inl ⟨nG _,hd σ H p⟩
theorem Jp {c:TT}{tb:TS}{D:Dd}{σ:St}{H:Hp}(I:St->Hp->Prop)(μ:St->Hp->Nat)(O:I σ H)
  (hs:∀σ H,I σ H->c σ H λb H1=>if b=true then tb { D with nx:=λF H'=>I F H'/\μ F H' < μ σ H,ct:=λF H'=>I F H'/\μ F H' < μ σ H,bk:=D.nx} σ H1 else D.nx σ H1)
  (aa:∀σ H Q J,(∀b H1,Q b H1->J b H1)->c σ H Q->c σ H J):VL c tb D σ H:=by
 refine⟨λm σ H=>m=μ σ H/\I σ H,⟨_,U,O⟩,?_⟩;rintro m σ H ⟨rfl,p⟩;refine aa σ H _ _ (λb H1 q=>?_) (hs σ H p);cases b with
 |true=>exact⟨_,λF H' ⟨p',l⟩=>⟨_,l,U,p'⟩,q⟩
 |false=>exact q
abbrev R2:=V->V->Hp->VK->Prop
def Bg(X:Cx)(f:Value->Value->Sem Value)(r:R2):Prop :=
 ∀(ga:List (Addr×Obj)) (s:nP) (σ:St) (H:Hp) (x y:V) (v u:Value) (Q:VK),AI X ga σ H s->Av x v->Av y u->r x y H Q →
  wpAny (model X.prog X.w) X.A (f v u) (EP X ga σ Q) X.xe s
def Ru(X:Cx)(f:Value->Sem Value)(r:V->Hp->VK->Prop):Prop :=
 ∀(ga:List (Addr×Obj)) (s:nP) (σ:St) (H:Hp) (x:V) (v:Value) (Q:VK),AI X ga σ H s->Av x v->r x H Q →
  wpAny (model X.prog X.w) X.A (f v) (EP X ga σ Q) X.xe s
def DJ(X:Cx)(f:Value)(r:List V->Hp->VK->Prop):Prop :=
 ∀(ga:List (Addr×Obj)) (s:nP) (σ:St) (H:Hp) (xs:List V) (us:List Value) (Q:VK),AI X ga σ H s->Ag xs us->r xs H Q →
  wpAny (model X.prog X.w) X.A (call f us) (EP X ga σ Q) X.xe s
def kx(X:Cx)(r:V->Hp->(Bool->Hp->Prop)->Prop):Prop :=
 ∀(ga:List (Addr×Obj)) (s:nP) (σ:St) (H:Hp) (x:V) (v:Value) (Q:Bool->Hp->Prop),AI X ga σ H s->Av x v->r x H Q →
  wpAny (model X.prog X.w) X.A (truthy v) (TP X ga σ Q) X.xe s
def Bh(r:R2)(ta tb:TE):TE:=λσ H Q=>ta σ H λx H1=>tb σ H1 λy H2=>r x y H2 Q
def Xl(r:V->Hp->VK->Prop)(ta:TE):TE:=λσ H Q=>ta σ H λx H1=>r x H1 Q
inductive IR(C:Int->Int->Prop)(g:Int->Int->V)(x y:V)(H:Hp)(Q:VK):Prop
 |mk (i j:Int) (a:x=.int i) (b:y=.int j) (c:C i j) (q:Q (g i j) H):IR C g x y H Q
def rI(C:Int->Int->Prop)(g:Int->Int->V):R2:=λx y H Q=>IR C g x y H Q
inductive Xd(g:Int->Int->V)(x y:V)(H:Hp)(Q:VK):Prop
 |mk (i j:Int) (a:x=.int i) (b:y=.int j) (q:Q (g i j) H):Xd g x y H Q
def Gq(g:Int->Int->V):R2:=λx y H Q=>Xd g x y H Q
def rU(g:Int->V):V->Hp->VK->Prop:=λx H Q=>∃i,x=.int i/\Q (g i) H
section
variable {X:Cx}{a b c:Expr}{ta tb tc:TE}{pos:Pos}
theorem RV (ha:PE X a ta)(hb:PE X b tb){R:V->V->Hp->Prop}(I:AI X ga σ H s)
  (h:ta σ H λx H1=>tb σ H1 λy H2=>R x y H2){f:Value->Value->Sem Value}
  (hf:∀v u F x y H2,AI X ga σ H2 F->Av x v->Av y u->R x y H2->wpAny (model X.prog X.w) X.A (f v u) Q X.xe F) :
  wpAny (model X.prog X.w) X.A (eval a X.env) (λv s₁=>wpAny (model X.prog X.w) X.A (eval b X.env) (λu J=>wpAny (model X.prog X.w) X.A (f v u) Q X.xe J) X.xe s₁) X.xe s:=by
 refine Af (ha ga s σ H _ I h) λv s1 ⟨x,H1,I1,r1,q1⟩=>?_
 refine Af (hb ga s1 σ H1 _ I1 q1) λu F ⟨y,H2,I2,r2,O⟩=>?_
 exact hf v u F x y H2 I2 r1 r2 O
theorem AL(ho:Bg X (rK op) r)(J:PE X a ta)(hb:PE X b tb):PE X (.BinOp a op b pos) (Bh r ta tb):=by
 intro ga s σ H Q I h;exact wpAny_BinOp (RV J hb I h λv u s2 x y H2 O F ry q=>ho ga s2 σ H2 x y v u Q O F ry q)
theorem FW(ho:Ru X (unaryOp op) r)(O:PE X a ta):PE X (.UnaryOp op a pos) (Xl r ta):=by
 intro ga s σ H Q I h;exact UnaryOp_ (Af (O ga s σ H _ I h) λv s1 ⟨x,H1,J,r1,F⟩=>ho ga s1 σ H1 x v Q J r1 F)
theorem Jg {f:Value->Value->Sem Value}{C:Int->Int->Prop}{g:Int->Int->Int}
  (O:∀(i j:Int) (t u:Tok) (s:nP) (Q:Value->nP->Prop) (E:Value->nP->Prop),C i j->Q (.int (g i j) s.toks) { s with toks:=s.toks+1}->wpAny (model X.prog X.w) X.A (f (.int i t) (.int j u)) Q E s) :
  Bg X f (rI C λi j=>.int (g i j)):=by
 intro ga s σ H x y v u Q I F ry h;obtain⟨i,j,rfl,rfl,J,q⟩:=h;obtain⟨t,rfl⟩:=F;obtain⟨t',rfl⟩:=ry;exact O i j t t' s _ _ J ⟨.int (g i j),H,I.DG _,⟨_,U⟩,q⟩
theorem RR {f:Value->Value->Sem Value}{g:Int->Int->Int}
  (J:∀(i j:Int) (t u:Tok) (s:nP) (Q:Value->nP->Prop) (E:Value->nP->Prop),Q (.int (g i j) s.toks) { s with toks:=s.toks+1}->wpAny (model X.prog X.w) X.A (f (.int i t) (.int j u)) Q E s) :
  Bg X f (Gq λi j=>.int (g i j)):=by
 intro ga s σ H x y v u Q I F O h;obtain⟨i,j,rfl,rfl,q⟩:=h;obtain⟨t,rfl⟩:=F;obtain⟨t',rfl⟩:=O;exact J i j t t' s _ _ ⟨.int (g i j),H,I.DG _,⟨_,U⟩,q⟩
theorem RI {g:Int->Int->Bool}
  (J:∀(i j:Int) (t u:Tok) (s:nP) (Q:Value->nP->Prop) (E:Value->nP->Prop),Q (.bool (g i j)) s->wpAny (model X.prog X.w) X.A (f (.int i t) (.int j u)) Q E s) :
  Bg X f (Gq λi j=>.bl (g i j)):=by
 intro ga s σ H x y v u Q I F O h;obtain⟨i,j,rfl,rfl,q⟩:=h;obtain⟨t,rfl⟩:=F;obtain⟨t',rfl⟩:=O;exact J i j t t' s _ _ ⟨.bl (g i j),H,I,U,q⟩
def l8(i j:Int):Prop:=0<j/\j<1073741824
def lB(i j:Int):Prop:=0<=j/\j<=1000000/\i.natAbs<2 ^ 64
def He(i j:Int):Prop:=(-(2 ^ 64)<i/\i<2 ^ 64)\/(-(2 ^ 64)<j/\j<2 ^ 64)
theorem He.ok(h:He i j):IntMulOk i j:=by
 rcases h with ⟨h1,h2⟩|⟨h1,h2⟩
 ·exact .of_left (intBits_le_64 h1 h2)
 ·exact .of_right (intBits_le_64 h1 h2)
theorem BY:Bg X (rK .Add) (Gq λi j=>.int (i+j)):=RR λ_ _ _ _ _ _ _ q=>add_int q
theorem DX:Bg X (rK .Sub) (Gq λi j=>.int (i-j)):=RR λ_ _ _ _ _ _ _ q=>sub_int q
theorem Bv:Bg X (rK .Mult) (rI He λi j=>.int (i*j)):=Jg λ_ _ _ _ _ _ _ F q=>mul_int q F.ok
theorem FN:Bg X (rK .FloorDiv) (rI l8 λi j=>.int (i / j)):=Jg λi j _ _ _ _ _ F q=>by
 have h1:(0:Int)<j:=F.1;have h2:j<1073741824:=F.2;exact floordiv_int (by omega) (by rw[Int.fdiv_eq_ediv_of_nonneg i (by omega)];exact q) (.inl (xg (by omega)))
theorem Ce:Bg X (rK .Mod) (rI (λ_ j=>0<j) λi j=>.int (i%j)):=Jg λi j _ _ _ _ _ F q=>by
 have h1:(0:Int)<j:=F;exact mod_int' (by lia) (by rw[vS i (by lia)];exact q)
theorem fP:Bg X (rK .Mod) (rI (λ_ j=>j≠0) λi j=>.int (i.fmod j)):=Jg λ_ _ _ _ _ _ _ F q=>mod_int' F q
theorem jH:Bg X (rK .Pow) (rI lB λi j=>.int (i ^ j.toNat)):=Jg λ_ _ _ _ _ _ _ F q=>pow_int_small F.1 F.2.1 F.2.2 q
theorem VT:Bg X (rK .BitXor) (Gq λi j=>.int (xw i j)):=RR λ_ _ _ _ _ _ _ q=>xor_int q
theorem mR {f:Value->Sem Value}{g:Int->Int}
  (J:∀(i:Int) (t:Tok) (s:nP) (Q:Value->nP->Prop) (E:Value->nP->Prop),Q (.int (g i) s.toks) { s with toks:=s.toks+1}->wpAny (model X.prog X.w) X.A (f (.int i t)) Q E s) :
  Ru X f (rU λi=>.int (g i)):=by
 intro ga s σ H x v Q I F h;obtain⟨i,rfl,q⟩:=h;obtain⟨t,rfl⟩:=F;exact J i t s _ _ ⟨.int (g i),H,I.DG _,⟨_,U⟩,q⟩
theorem FU:Ru X (unaryOp .USub) (rU λi=>.int (-i)):=mR λ_ _ _ _ _ q=>neg_int q
end
def XI:V->V->Bool
 |.BE,.BE=>true | .BE,.int _=>true | .int _,.BE=>true | .BE,.bl _=>true | .bl _,.BE=>true | .BE,.str _=>true | .str _,.BE=>true
 |.int _,.int _=>true | .bl _,.bl _=>true | .str _,.str _=>true | .FE _,.FE _=>true
 |.int _,.str _=>true | .str _,.int _=>true | .bl _,.str _=>true | .str _,.bl _=>true
 |_,_=>false
inductive Xb(x y:V)(H:Hp)(Q:VK):Prop
 |mk (c:XI x y=true) (q:Q (.bl (decide (x=y))) H):Xb x y H Q
inductive XX(x y:V)(H:Hp)(Q:VK):Prop
 |mk (c:XI x y=true) (q:Q (.bl (!decide (x=y))) H):XX x y H Q
def mf:R2:=λx y H Q=>Xb x y H Q
def mW:R2:=λx y H Q=>XX x y H Q
theorem U1:decide (V.int i=V.int j)=(i == j):=by
 rw[qc];simp
theorem Va:decide (V.bl i=V.bl j)=(i == j):=by
 rw[qc];simp
theorem Uc:decide (V.str i=V.str j)=(i == j):=by
 rw[qc];simp
theorem U5:decide (V.FE i=V.FE j)=(i.toList == j.toList):=by
 rw[qc];cases i;cases j;simp
section
variable {X:Cx}{a b c:Expr}{ta tb tc:TE}{pos:Pos}
theorem Bw(I:AI X ga σ H s)(q:Q (.bl k) H)(e:k=k'):EP X ga σ Q (.bool k') s:=by
 subst e;exact⟨.bl k,H,I,U,q⟩
theorem FV:Bg X (qP .Eq) mf:=by
 intro ga s σ H x y v u Q I J F h;obtain⟨hs,q⟩:=h;cases x with
 |BE =>
  cases J;cases y with
  |BE=>cases F;exact PySem.EqNone.eq_none_none (Bw I q (by simp))
  |bl j=>cases F;exact PySem.EqNone.eq_none_bool (Bw I q (by simp))
  |int j=>obtain⟨t',rfl⟩:=F;exact PySem.EqNone.eq_none_int (Bw I q (by simp))
  |str j=>obtain⟨t',rfl⟩:=F;exact PySem.EqNone.eq_none_str (Bw I q (by simp))
  |_=>exact absurd (show false=true from hs) oz
 |bl i =>
  cases J;cases y with
  |BE=>cases F;exact PySem.EqNone.eq_bool_none (Bw I q (by simp))
  |bl j=>cases F;exact eq_bool (Bw I q Va)
  |str j=>obtain⟨t',rfl⟩:=F;exact PySem.EqMixed.eq_bool_str (Bw I q (by simp))
  |_=>exact absurd (show false=true from hs) oz
 |int i =>
  obtain⟨t,rfl⟩:=J;cases y with
  |BE=>cases F;exact PySem.EqNone.eq_int_none (Bw I q (by simp))
  |int j=>obtain⟨t',rfl⟩:=F;exact eq_int (Bw I q U1)
  |str j=>obtain⟨t',rfl⟩:=F;exact PySem.EqMixed.eq_int_str (Bw I q (by simp))
  |_=>exact absurd (show false=true from hs) oz
 |str i =>
  obtain⟨t,rfl⟩:=J;cases y with
  |BE=>cases F;exact PySem.EqNone.eq_str_none (Bw I q (by simp))
  |bl j=>cases F;exact PySem.EqMixed.eq_str_bool (Bw I q (by simp))
  |int j=>obtain⟨t',rfl⟩:=F;exact PySem.EqMixed.eq_str_int (Bw I q (by simp))
  |str j=>obtain⟨t',rfl⟩:=F;exact eq_str (Bw I q Uc)
  |_=>exact absurd (show false=true from hs) oz
 |FE i =>
  obtain⟨t,rfl⟩:=J;cases y with
  |FE j=>obtain⟨t',rfl⟩:=F;exact PySem.W.eq_bytes (Bw I q U5)
  |_=>exact absurd (show false=true from hs) oz
 |_=>cases y<;>exact absurd (show false=true from hs) oz
theorem HP:Bg X (qP .NotEq) mW:=by
 intro ga s σ H x y v u Q I J F h;obtain⟨hs,q⟩:=h;cases x with
 |BE =>
  cases J;cases y with
  |BE=>cases F;exact PySem.EqNone.ne_none_none (Bw I q (by simp))
  |bl j=>cases F;exact PySem.EqNone.ne_none_bool (Bw I q (by simp))
  |int j=>obtain⟨t',rfl⟩:=F;exact PySem.EqNone.ne_none_int (Bw I q (by simp))
  |str j=>obtain⟨t',rfl⟩:=F;exact PySem.EqNone.ne_none_str (Bw I q (by simp))
  |_=>exact absurd (show false=true from hs) oz
 |bl i =>
  cases J;cases y with
  |BE=>cases F;exact PySem.EqNone.ne_bool_none (Bw I q (by simp))
  |bl j=>cases F;exact ne_bool (Bw I q (congrArg not Va))
  |str j=>obtain⟨t',rfl⟩:=F;exact PySem.EqMixed.ne_bool_str (Bw I q (by simp))
  |_=>exact absurd (show false=true from hs) oz
 |int i =>
  obtain⟨t,rfl⟩:=J;cases y with
  |BE=>cases F;exact PySem.EqNone.ne_int_none (Bw I q (by simp))
  |int j=>obtain⟨t',rfl⟩:=F;exact ne_int (Bw I q (congrArg not U1))
  |str j=>obtain⟨t',rfl⟩:=F;exact PySem.EqMixed.ne_int_str (Bw I q (by simp))
  |_=>exact absurd (show false=true from hs) oz
 |str i =>
  obtain⟨t,rfl⟩:=J;cases y with
  |BE=>cases F;exact PySem.EqNone.ne_str_none (Bw I q (by simp))
  |bl j=>cases F;exact PySem.EqMixed.ne_str_bool (Bw I q (by simp))
  |int j=>obtain⟨t',rfl⟩:=F;exact PySem.EqMixed.ne_str_int (Bw I q (by simp))
  |str j=>obtain⟨t',rfl⟩:=F;exact ne_str (Bw I q (congrArg not Uc))
  |_=>exact absurd (show false=true from hs) oz
 |FE i =>
  obtain⟨t,rfl⟩:=J;cases y with
  |FE j=>obtain⟨t',rfl⟩:=F;exact PySem.W.ne_bytes (Bw I q (congrArg not U5))
  |_=>exact absurd (show false=true from hs) oz
 |_=>cases y<;>exact absurd (show false=true from hs) oz
theorem JT:Bg X (qP .Lt) (Gq λi j=>.bl (decide (i<j))):=RI λ_ _ _ _ _ _ _ q=>lt_int q
theorem Wn:Bg X (qP .LtE) (Gq λi j=>.bl (decide (i<=j))):=RI λ_ _ _ _ _ _ _ q=>le_int q
theorem OI:Bg X (qP .Gt) (Gq λi j=>.bl (decide (j<i))):=RI λ_ _ _ _ _ _ _ q=>gt_int q
theorem Qm:Bg X (qP .Is) (λx y H Q=>y=.BE/\Q (.bl (decide (x=.BE))) H):=by
 intro ga s σ H x y v u Q I F J h;obtain⟨rfl,q⟩:=h;cases J;refine is_none_gen (Bw I q ?_);cases x<;>first
  |(cases F;rfl)
  |(obtain⟨t,rfl⟩:=F;rfl)
theorem Bg.or(h:Bg X f r)(h':Bg X f r'):Bg X f (λx y H Q=>r x y H Q\/r' x y H Q):=by
 intro ga s σ H x y v u Q I F J q;rcases q with q|q
 ·exact h ga s σ H x y v u Q I F J q
 ·exact h' ga s σ H x y v u Q I F J q
theorem VO(b:Expr){op:CmpOp}(h:op≠.In:=by decide)(h2:op≠.NotIn:=by decide):sk op b=false:=by
 have I:(op == CmpOp.In)=false:=by cases op<;>first|rfl|exact absurd rfl h
 have F:(op == CmpOp.NotIn)=false:=by cases op<;>first|rfl|exact absurd rfl h2
 cases b<;>simp[sk,I,F]
theorem cN(ho:Bg X (qP op) r)(O:PE X a ta)(hb:PE X b tb)(J:sk op b=false):PE X (.Compare a [op] [b] pos) (Bh r ta tb):=by
 intro ga s σ H Q I h;exact wpAny_Compare1 (RV O hb I h λv u s2 x y H2 I2 F ry q=>ho ga s2 σ H2 x y v u Q I2 F ry q) J
def WR(t:TE):TT:=λσ H Q=>t σ H λx H'=>Rj x H' Q
theorem VA(ho:Bg X (qP op) r)(ha:PE X a ta)(hb:PE X b tb)(hm:sk op b=false):PT X (.Compare a [op] [b] pos) (WR (Bh r ta tb)):=by
 intro ga s σ H Q I h;refine xK (Af (ha ga s σ H _ I h) λv s1 ⟨x,H1,I1,r1,q1⟩=>Af (hb ga s1 σ H1 _ I1 q1) λu s2 ⟨y,H2,I2,r2,J⟩=>
  Af (ho ga s2 σ H2 x y v u _ I2 r1 r2 J) λc s3 ⟨z,O,I3,r3,k,e,F⟩=>?_) hm
 subst e;cases r3;exact sy ⟨O,I3,F⟩
def XB(K:nI)(x:V)(H:Hp)(k:Bool):Prop :=
 match x with
 |.BE=>k=false
 |.bl b=>k=b
 |.int i=>k=(i != 0)
 |.str y=>y.length<=og/\k=((y.length:Int) != 0)
 |.FE y=>y.size<=og/\k=((y.size:Int) != 0)
 |.ref p=>(∃xs,AR K H p xs/\k=!xs.isEmpty)\/(∃xs,AJ K H p xs/\k=!xs.isEmpty)\/∃ge,H p=some (.dK ge)/\k=!ge.isEmpty
 |_=>False
theorem YN(r:KV ge vs):(!vs.isEmpty)=!ge.isEmpty:=by
 cases r<;>rfl
theorem SR(r:Ag xs its):(!its.toArray.isEmpty)=!xs.isEmpty:=by
 cases r<;>simp
theorem Lo:(og:Nat)<2 ^ 63:=by rw[r6];decide
theorem jV:kx X (λx H Q=>∃k,XB X.K x H k/\Q k H):=by
 intro ga s σ H x v Q I J h;obtain⟨k,e,q⟩:=h;have hl:=Lo;have hs:og=16777216:=r6;cases x with
 |BE =>
  cases J;have F:k=false:=e;subst F;exact truthy_none ⟨H,I,q⟩
 |bl b =>
  cases J;have F:k=b:=e;subst F;exact sy ⟨H,I,q⟩
 |int i =>
  obtain⟨t,rfl⟩:=J;have F:k=(i != 0):=e;subst F;exact PySem.P.truthy_int ⟨H,I,q⟩
 |str y =>
  obtain⟨t,rfl⟩:=J;obtain⟨hy,F⟩:y.length<=og/\k=((y.length:Int) != 0):=e;subst F;exact PySem.P.truthy_str (by lia) ⟨H,I.DG _,q⟩
 |FE y =>
  obtain⟨t,rfl⟩:=J;obtain⟨hy,F⟩:y.size<=og/\k=((y.size:Int) != 0):=e;subst F;exact PySem.W.truthy_bytes (by lia) ⟨H,I.DG _,q⟩
 |ref p =>
  cases J;have F:(∃xs,AR X.K H p xs/\k=!xs.isEmpty)\/(∃xs,AJ X.K H p xs/\k=!xs.isEmpty)\/∃ge,H p=some (.dK ge)/\k=!ge.isEmpty:=e;rcases F with ⟨xs,O,F⟩|⟨xs,O,F⟩|⟨ge,O,F⟩
  ·subst F;obtain⟨ab,r,pl,hz⟩:=I.list O;have aa:=r.length;exact wpAny_truthy_list pl.isList (by simp only[n8];lia) ⟨H,I.DG _,by rw[SR r];exact q⟩
  ·subst F;obtain⟨ab,r,pl,hz⟩:=I.tuple O;have aa:=r.length;exact truthy_tuple pl (by simp only[n8];lia) ⟨H,I.DG _,by rw[SR r];exact q⟩
  ·subst F;obtain⟨hz,hS,vs,r,m⟩:ge.length<=og/\(p == sI)=false/\∃vs,KV ge vs/\s.heap.DictOf (D6 X.prog X.w) p vs:=I.Ap p _ O;have aa:ge.length=vs.length:=xX r;exact wpAny_truthy_dict hS m (by lia) ⟨H,I.DG _,by rw[YN r];exact q⟩
 |_=>exact(show False from e).elim
theorem Zw(ha:PE X a ta)(he:∀F,isTrue a X.env F=(do let v <-F;standAt a.pos;holding [v] (truthy v))):
  PT X a (λσ H Q=>ta σ H λx H'=>∃k,XB X.K x H' k/\Q k H'):=by
 intro ga s σ H Q I h;exact isTrue_plain (Af (ha ga s σ H _ I h) λv s1 ⟨x,H1,I1,O,J⟩=>jV ga s1 σ H1 x v Q I1 O J) (he _)
theorem IL(r:Ag [x] us):∃u,us=[u]/\Av x u:=by
 cases r with
 |cons r1 r2=>cases r2;exact⟨_,U,r1⟩
theorem OR(r:Ag [x,y] us):∃u F,us=[u,F]/\Av x u/\Av y F:=by
 cases r with
 |cons r1 r2 =>
  cases r2 with
  |cons r3 r4=>cases r4;exact⟨_,_,U,r1,r3⟩
theorem Td:DJ X (.builtin "abs") (λxs H Q=>∃i,xs=[.int i]/\Q (.int (if i<0 then -i else i)) H):=by
 intro ga s σ H xs us Q I r h;obtain⟨i,rfl,q⟩:=h;obtain⟨u,rfl,t,rfl⟩:=IL r;exact call_abs_int λu tk=>⟨.int (if i<0 then -i else i),H,I.DG _,⟨_,U⟩,q⟩
theorem Zb(J:X.C5=true):DJ X (.builtin "min") (λxs H Q=>∃i j,xs=[.int i,.int j]/\Q (.int (if j<i then j else i)) H):=by
 intro ga s σ H xs us Q I r h;obtain⟨i,j,rfl,q⟩:=h;obtain⟨u,O,rfl,⟨t,rfl⟩,⟨t',rfl⟩⟩:=OR r;refine min_two_ints (I.ok.hd J) λh' tk k=>⟨_,H,I.CG k,?_,q⟩
 by_cases F:j<i
 ·rw[nF F,nF F];exact⟨_,U⟩
 ·rw[nv F,nv F];exact⟨_,U⟩
end
structure MB(h:Heap)(x dx C:Addr)(mA:Str->Option Value):Prop where
 Cv:h.get? x=some (wX C dx)
 ns:h.Ns1 dx mA
 ne:dx≠x
theorem Ys{h:Heap}(n:h.Ns1 dx mA):∃od,h.get? dx=some od/\∀name,xH name od=some (mA name):=by
 obtain⟨o,es,ep,ho,hd,I,_,J⟩:=n;refine⟨o,ho,λname=>?_⟩;have e:=J name;unfold nsFind findBy at e;rw[<-Array.find?_toList]at e;unfold xH;rw[hd];dsimp only;split
 ·rename_i y q
  rw[q]at e;exact congrArg some e
 ·rename_i q
  rw[q]at e;have a:es.toList.any (·.refKey)=false:=by
   rw[List.any_eq_false];intro y F;obtain⟨z,t,O⟩:=I y (Array.mem_toList_iff.mp F);simp[DictEntry.refKey,O]
  have a':¬es.toList.any (·.refKey)=true:=by rw[a];exact oz
  rw[nv a'];exact congrArg some e
theorem MB.Gf(I:MB h x dx C mA):∃od,PySem.W.InstAt h x (wX C dx) C (some od)/\∀name,xH name od=some (mA name) :=
 let ⟨od,ho,hl⟩:=Ys I.ns
 ⟨od,⟨I.Cv,U,U,ho⟩,hl⟩
section
variable {prog:oT}{w:World}{A:qu}{E:Value->nP->Prop}{s:nP}{K:nI}{x dx C f:Addr}{mA:Str->Option Value}{name:Str}{v:Value}
theorem Ut {O:List Str}{Q:Unit->nP->Prop}(X:K.In s.heap)(I:MB s.heap x dx C mA)
  (hs:vy K (.ref C) "__setattr__" = some (some (.builtin "object.__setattr__")))(hp:zf K C=true)(ht:PySem.W.takerIn K C name=some none)(hh:zb K C=true)
  (hw:wK mA O)(hsz:O.length<=og)
  (h:∀h',MB h' x dx C (λy=>if y=name then some v else mA y)->rP dx s.heap h'->Q () { s with heap:=h',toks:=s.toks+2}) :
  wpAny (model prog w) A (setAttr (.ref x) name v) Q E s:=by
 obtain⟨od,J,hl⟩:=I.Gf;refine PySem.W.set_plain X J hs (PySem.W.osa_open (s:={ s with toks:=s.toks+1}) (r:=none) X J hp ht λb=>?_);obtain⟨cd,hc,ac⟩:=PySem.W.any_some hh;have hx:s.heap.get? x=some ⟨.ref C,some dx,.plain,#[]⟩:=I.Cv;refine nH (oy (nH (nH (wpAny_loadPart hx (nH (PySem.W.Looks.here (s:={ s with toks:=s.toks+1}) (PySem.W.looks_clsIn X hc) ?_))))));rw[ac];refine oy (a:=some dx) (nH (oy (nH ?_)));refine wpAny_nsSet1 (s:={ s with toks:=s.toks+1}) I.ns λh' aa F=>?_
 obtain⟨oD,ag,af,ab,ad,ae⟩:=aa.count (wK.cons name v hw);refine nH (wpAny_lookBehind ab (by rw[ad];exact pastItsLine_dict (oa ae (by rw[oA];lia))) ?_);exact oy (h _ ⟨(F.2 _ (rN I.ne)).trans I.Cv,aa,I.ne⟩ F)
end
theorem E7.VF(r:E7 (some v) o):∃u,o=some u/\Av v u:=by
 cases o with
 |none=>exact(show False from r).elim
 |some u=>exact⟨u,U,r⟩
section
variable {P:oT}{w:World}{H H':Hp}{h h':Heap}{a C dx:Addr}{fs fs':List (Str×V)}
theorem dW(I:B7 P w H h)(e:H a=some (.Fj C dx fs)):∃mA,MB h a dx C mA/\(∀f,E7 (fs.lookup f) (mA f))/\wK mA (fs.map (·.1))/\fs.length<=1000/\H dx=some (.FC a):=by
 obtain⟨d,z,F,J,mA,n,r,q⟩:=(show Bx P w H h a (.Fj C dx fs) from I a _ e);exact⟨mA,⟨J,n,F⟩,r,q,z,d⟩
end
structure Rt(K:nI)(C:Addr):Prop where
 pg:zK K C Str.empty=true
 hd:zb K C=true
 po:zf K C=true
 sa:vy K (.ref C) "__setattr__" = some (some (.builtin "object.__setattr__"))
theorem Rt.BZ{K:nI}(c:Rt K C)(f:Str):zK K C f=true:=c.pg
section
variable {X:Cx}{ga:List (Addr×Obj)}{σ:St}{H:Hp}{s:nP}{a C dx:Addr}{fs:List (Str×V)}{f:Str}{v:V}{A:qu}{E:Value->nP->Prop}
end
section
variable {X:Cx}{o e value:Expr}{f:Str}{pos pos' tpos:Pos}{ta tv:TE}
end
section
variable {X:Cx}{ga:List (Addr×Obj)}{σ:St}{H:Hp}{s:nP}{A:qu}{E:Value->nP->Prop}{Q:Value->nP->Prop}{c:Value}{b:Bool}
inductive Df(K:nI)(H:Hp):V->Value->Prop where
 |BE:Df K H .BE (.type "NoneType")
 |bl (x:Bool):Df K H (.bl x) (.type "bool")
 |int (i:Int):Df K H (.int i) (.type "int")
 |str (x:Str):Df K H (.str x) (.type "str")
 |K4 (x:UInt64):Df K H (.K4 x) (.type "float")
 |AE {a:Addr} {xs:List V} (e:H a=some (.AE xs)):Df K H (.ref a) (.type "list")
 |Er {a:Addr} {o:Obj} {xs:List V} (e:H a=some (.Er o (.AE xs))):Df K H (.ref a) (.type "list")
 |AG {a:Addr} {xs:List V} (e:H a=some (.AG xs)):Df K H (.ref a) (.type "tuple")
 |dK {a:Addr} {ge:List (Ai×V)} (e:H a=some (.dK ge)):Df K H (.ref a) (.type "dict")
 |dT {a:Addr} {ge:List (List Ai×V)} (e:H a=some (.dT ge)):Df K H (.ref a) (.type "dict")
 | Fj {a C dx:Addr} {fs:List (Str×V)} (e:H a=some (.Fj C dx fs)) (cl:Rt K C) (J:vy K (.ref C) "__class__" = some (some (.builtin "object.__class__")))
   (F:PySem.W.specialIn K (.builtin "object.__class__") "__get__" = some (some (.builtin "getset_descriptor.__get__"))) (O:PySem.W.takesIn K (.builtin "object.__class__")=some true)
   (I:PySem.W.mroIn K C (.type "object")=some true):Df K H (.ref a) (.ref C)
theorem ZH{x:V}{u t:Value}(I:AI X ga σ H s)(F:Av x u)(ty:Df X.K H x t)(e:uC X.K t c=some b)(h:∀tk,Q (.bool b) { s with toks:=tk}):
  wpAny (model X.prog X.w) A (call (.builtin "isinstance") [u,c]) Q E s:=by
 cases ty with
 |BE=>cases (show u=tV from F);exact qH PySem.W.kitx_none I.Dh rZ e (λz=>nomatch z) h
 |bl y=>cases (show u=sG y from F);exact qH PySem.W.kitx_bool I.Dh rZ e (λz=>nomatch z) h
 |int i=>obtain⟨t,q⟩:=(show ∃t,u=yP i t from F);cases q;exact qH PySem.W.kitx_int I.Dh rZ e (λz=>nomatch z) h
 |str y=>obtain⟨t,q⟩:=(show ∃t,u=yQ y t from F);cases q;exact qH PySem.W.kitx_str I.Dh rZ e (λz=>nomatch z) h
 |K4 y=>obtain⟨t,q⟩:=(show ∃t,u=Value.float y t from F);cases q;exact qH PySem.W.kitx_float I.Dh rZ e (λz=>nomatch z) h
 |@AE a xs ea =>
  cases (show u=qw a from F);obtain⟨_,_,n,_,h1⟩:=(show Bx X.prog X.w H s.heap a (.AE xs) from I.Ap a _ ea);exact qH ze I.Dh ⟨_,h1,U⟩ e (λz=>nomatch z) h
 |@Er a ob xs ea =>
  cases (show u=qw a from F);obtain⟨_,_,_,n,_,h1⟩:=(show Bx X.prog X.w H s.heap a (.Er ob (.AE xs)) from I.Ap a _ ea);exact qH ze I.Dh ⟨_,h1,U⟩ e (λz=>nomatch z) h
 |@AG a xs ea =>
  cases (show u=qw a from F);obtain⟨_,_,_,p,_⟩:=(show Bx X.prog X.w H s.heap a (.AG xs) from I.Ap a _ ea);obtain⟨o,h1,h2,_⟩:=p;exact qH PySem.W.kitx_tuple I.Dh ⟨o,h1,h2⟩ e (λz=>nomatch z) h
 |@dK a ge ea =>
  cases (show u=qw a from F);obtain⟨_,_,vs,_,p⟩:=(show Bx X.prog X.w H s.heap a (.dK ge) from I.Ap a _ ea);obtain⟨o,es,ep,h1,h2,_⟩:=p;exact qH zd I.Dh ⟨o,h1,h2.1⟩ e (λz=>nomatch z) h
 |@dT a ge ea =>
  cases (show u=qw a from F);obtain⟨_,_,xs,_,o,es,ep,h1,h2,_⟩:=(show Bx X.prog X.w H s.heap a (.dT ge) from I.Ap a _ ea);exact qH zd I.Dh ⟨o,h1,h2.1⟩ e (λz=>nomatch z) h
 |@Fj a C dx fs ea cl ha hn htk hm =>
  cases (show u=qw a from F);obtain⟨mA,O,_⟩:=dW I.Ap ea;obtain⟨od,J,_⟩:=O.Gf;exact qH (PySem.W.kitx_own (cl.BZ _) cl.hd ha hn htk hm) I.Dh J e (λz=>nomatch z) h
end
structure Room(k:Nat)(A:qu):Prop where
 hd:A.handled=none
 dp:A.depth+3*k+5<recursionLimit
 un:A.units+16*k+200<cLine
theorem Room.mono(r:Room k A)(h:j<=k):Room j A:=⟨r.hd,by have:=r.dp;lia,by have:=r.un;lia⟩
theorem Room.deeper(r:Room (k+1) A)(env:Env):Room k (A.deeper env) :=
 ⟨r.hd,by have:=r.dp;show A.depth+1+3*k+5<_;lia,by have:=r.un;show A.units+3+16*k+200<_;lia⟩
theorem Room.in1(r:Room (k+1) A):Room k A.in1 :=
 ⟨r.hd,by have:=r.dp;show A.depth+3*k+5<_;lia,by have:=r.un;show A.units+1+16*k+200<_;lia⟩
theorem Room.depth(r:Room k A):A.depth<recursionLimit:=by have:=r.dp;omega
theorem Room.units(r:Room k A):A.units+64<cLine:=by have:=r.un;lia
def CH:TA:=λ_ H Q=>Q [] H
def BP(ta:TE)(F:TA):TA:=λσ H Q=>ta σ H λx H1=>F σ H1 λxs H2=>Q (x :: xs) H2
section
variable {X:Cx}{e:Expr}{es:List Expr}{te:TE}{t:TA}{pos:Pos}
theorem AD:PA X [] CH:=λ_ _ _ _ H Q I h=>v8 ⟨[],H,I,.nil,h⟩
theorem AA(ha:PE X e te)(hr:PA X es t)(hs:oG (e :: es) X.env=(false,eval e X.env) :: oG es X.env:=by rfl):PA X (e :: es) (BP te t):=by
 intro pos ga s σ H Q I h;rw[hs];show wpAny _ _ (spliced ((false,eval e X.env) :: rW pos (oG es X.env))) _ _ s;refine vF (Af (ha ga s σ H _ I h) λu s1 ⟨x,H1,I1,O,J⟩=>?_);exact Af (hr pos ga s1 σ H1 _ I1 J) λus s2 ⟨xs,H2,I2,r2,F⟩=>⟨x :: xs,H2,I2,.cons O r2,F⟩
inductive Wv(xs:List V)(H:Hp)(Q:VK):Prop
 |mk (n:xs.length<=og) (q:∀p,H p=none->Q (.ref p) (AF H p (.AG xs))):Wv xs H Q
inductive WN(xs:List V)(H:Hp)(Q:VK):Prop
 |mk (n:xs.length<=og) (q:∀p,H p=none->Q (.ref p) (AF H p (.AE xs))):WN xs H Q
def Kg(t:TA):TE:=λσ H Q=>t σ H λxs H1=>Wv xs H1 Q
def XC(t:TA):TE:=λσ H Q=>t σ H λxs H1=>WN xs H1 Q
theorem Bl{x1}(h:PA X es t):PE X (.Tuple es x1 pos) (Kg t):=by
 intro ga s σ H Q I O;refine wpAny_Tuple_spliced (Af (h pos ga s σ H _ I O) λus F ⟨xs,H1,J,r,z,q⟩=>⟨by rw[<-r.length];exact z,?_⟩);have hf:H1 F.heap.objs.size=none:=J.Ap.CB (nG _);refine⟨.ref F.heap.objs.size,AF H1 F.heap.objs.size (.AG xs),J.Dt (t':=F.toks) (λb u e=>nN _ e) (nG _) ?_,U,q _ hf⟩;exact⟨z,us,r,⟨_,oF _ rfl,U,_,U⟩,_,oF _ rfl,U⟩
theorem DB(h:PA X es t):PE X (.List es pos) (XC t):=by
 intro ga s σ H Q I O;refine wpAny_List_spliced (Af (h pos ga s σ H _ I O) λus F ⟨xs,H1,J,r,z,q⟩=>⟨by rw[<-r.length];exact z,?_⟩);have hf:H1 F.heap.objs.size=none:=J.Ap.CB (nG _);refine⟨.ref F.heap.objs.size,AF H1 F.heap.objs.size (.AE xs),J.Dt (t':=F.toks) (λb u e=>nN _ e) (nG _) ?_,U,q _ hf⟩;exact⟨z,us,0,r,oF _ rfl⟩
end
abbrev Sp:=List V->Hp->VK->XK->Prop
abbrev GD:=List Env->Hp->nP->XK->Value->nP->Prop
structure JX(P:oT)(w:World)(K:nI)(mg:Str->Option Value)(base:Heap)(A:qu)(outer:List Env)(s:nP)(H:Hp):Prop where
 frames:A.frames=some outer
 DV:Mod K mg base
 bs:∀b o,base.get? b=some o->s.heap.get? b=some o/\H b=none
 Gp:base.objs.size<=s.heap.objs.size
 FY:s.heap.FunFrames base outer
 Jd:∀b∈F8 outer,H b=none
 Ap:B7 P w H s.heap
 Ds:uR s.gens
def CE(outer:List Env)(P:oT)(w:World)(H:Hp)(s:nP)(Q:VK)(u:Value)(s':nP):Prop :=
 ∃v H',s'.os=s.os/\uR s'.gens/\Un (F8 outer) [] H H' s.heap s'.heap/\B7 P w H' s'.heap/\Av v u/\Q v H'
def CR(CX:GD)(outer:List Env)(P:oT)(w:World)(H:Hp)(s:nP)(Q:VK)(E:XK)(r:Result)(s':nP):Prop :=
 match r with
 |.ok (.ret u)=>CE outer P w H s Q u s'
 |.ok _=>False
 |.error e=>CX outer H s E e s'
structure Am(P:oT)(w:World)(K:nI)(mg:Str->Option Value)(base:Heap)(CX:GD)(k:Nat)(f:Addr)(fd:qf)(ps:List Str)(sp:Sp):Prop where
 len:∀vs H Q E,sp vs H Q E->vs.length=ps.length
 Oy:∀(A:qu) (outer:List Env) (s:nP) (H:Hp) (args:Args) (us:List Value) (vs:List V) (Q:VK) (E:XK),Room k A->JX P w K mg base A outer s H->xv s fd args (ps.zip us)->Ag vs us->sp vs H Q E →
  xI (model P w) A (.call (.ref f) args) (CR CX outer P w H s Q E) s
theorem Am.mono{K:nI}(F:Am P w K mg base CX j f fd ps sp)(h:j<=k):
  Am P w K mg base CX k f fd ps sp:=⟨F.len,λA outer s H args us I Q E J=>F.Oy A outer s H args us I Q E (J.mono h)⟩
theorem Am.imp {K:nI}(F:Am P w K mg base CX k f fd ps sp)
  (h:∀I H Q E,sp' I H Q E->sp I H Q E):Am P w K mg base CX k f fd ps sp' :=
 ⟨λI H Q E q=>F.len I H Q E (h _ _ _ _ q),λA outer s H args us I Q E hr he O J hs=>F.Oy A outer s H args us I Q E hr he O J (h _ _ _ _ hs)⟩
theorem JX.in1{K:nI}(e:JX P w K mg base A outer s H):
  JX P w K mg base A.in1 outer s H:=⟨e.frames,e.DV,e.bs,e.Gp,e.FY,e.Jd,e.Ap,e.Ds⟩
section
variable {X:Cx}{ga:List (Addr×Obj)}{σ:St}{H:Hp}{s s':nP}
theorem AI.lN(I:AI X ga σ H s):JX X.prog X.w X.K X.mg X.base X.A X.stack s H :=
 ⟨I.ok.frames,I.ok.DV,I.bs,oa I.ok.Gp I.sz,I.stack,I.VB,I.Ap,I.Ds⟩
theorem AI.after(I:AI X ga σ H s)(h:CE X.stack X.prog X.w H s Q u s'):EP X ga σ Q u s':=by
 obtain⟨v,H',os,aa,J,O,r,q⟩:=h;obtain⟨hh,g,d,t,F⟩:=s';obtain rfl:F=s.os:=os;exact⟨v,H',I.call (h':=hh) (g':=g) (d':=d) (t':=t) (ch:=[]) J O aa (λb z=>absurd z (by simp)),r,q⟩
end
def EA(sp:Sp)(dvs:List V)(E:XK)(t:TA):TE:=λσ H Q=>t σ H λF H1=>sp (F++dvs) H1 Q E
def EU(K:nI)(fd:qf)(ps:List Str)(ds:List Value):Prop :=
 ∀(s:nP) (us:List Value),K.In s.heap->(us++ds).length=ps.length->xv s fd ⟨us,[]⟩ (ps.zip (us++ds))
theorem EU.all{K:nI}(h:∀us:List Value,us.length=ps.length->wN fd ⟨us,[]⟩=pure (ps.zip us)):EU K fd ps []:=λs us _ F=>by
 rw[pO]at F ⊢;exact .of_eq (h us F)
def N4(CX:GD)(X:Cx)(E:XK):Prop:=∀(ga:List (Addr×Obj)) (σ:St) (H:Hp) (s:nP) (e:Value) (s':nP),AI X ga σ H s->CX X.stack H s E e s'->X.xe e s'
section
variable {X:Cx}{CX:GD}{k:Nat}{f C:Addr}{fd:qf}{ps:List Str}{sp:Sp}{dvs:List V}{ds:List Value}{E:XK}{x m:Str}{p pos apos:Pos}{e o:Expr}{es:List Expr}{ta:TE}{t:TA}
theorem V7 (F:Am X.prog X.w X.K X.mg X.base CX k f fd ps sp)(hr:Room k X.A)(hb:EU X.K fd ps ds)(hd:Ag dvs ds)(hx:N4 CX X E)
  (I:AI X ga σ H s)(r:Ag vs us)(h:sp (vs++dvs) H Q E):wpAny (model X.prog X.w) X.A (call (.ref f) us) (EP X ga σ Q) X.xe s:=by
 have O:Ag (vs++dvs) (us++ds):=r.append hd;have hl:(us++ds).length=ps.length:=by rw[<-O.length];exact F.len _ _ _ _ h
 refine wpAny_call (yS (F.Oy X.A X.stack s H ⟨us,[]⟩ (us++ds) (vs++dvs) Q E hr I.lN (hb s us I.Dh hl) O h) λr s' J=>?_);cases r with
 |error e=>exact hx ga σ H s e s' I J
 |ok fl =>
  cases fl with
  |ret u=>exact I.after J
  |next=>exact qj J
  |brk=>exact qj J
  |cont=>exact qj J
theorem fW (F:Am X.prog X.w X.K X.mg X.base CX k f fd ps sp)(hr:Room k X.A)(hg:Gl X x)(hm:X.mg x=some (.ref f))(hk:tL X.K (.ref f)=true)(hb:EU X.K fd ps ds)(hd:Ag dvs ds)(O:N4 CX X E)
  (ha:PA X (e :: es) t)(aa:(x == ("__debug__":Str))=false:=by decide)(he:oG (e :: es) X.env=(false,eval e X.env) :: oG es X.env:=by rfl)(ab:(rW pos (oG es X.env)).any (·.1)=false:=by rfl) :
  PE X (.Call (.Name x p) (e :: es) [] pos) (EA sp dvs E t):=by
 intro ga s σ H Q I h;refine qW (Uk I hg hm ?_ aa);refine yI (h₀:=X.base) I.ok.DV.Oo hk (Af (ha pos ga s σ H _ I h) λus s1 ⟨vs,H1,J,r,q⟩=>⟨J.Dh,?_⟩) he ab;exact V7 F hr hb hd O J r q
structure Mk(K:nI)(C f:Addr):Prop where
 m8:PySem.W.makesIn K C=true
 nA:vy K (.ref C) "__init__" = some (some (.ref f))
 fn:PySem.W.isFn K (.ref f)=true
 kp:tL K (.ref C)=true
end
section
variable {X:Cx}{CX:GD}{k:Nat}{f C:Addr}{fd:qf}{ps ks:List Str}{sp:Sp}{E:XK}{x m:Str}{p pos apos kpos:Pos}{e o:Expr}{es:List Expr}{kws:List uT}{te ta:TE}{t tk:TA}{nm:Option Str}
variable {g:List Value->List Value->List Value}{gV:List V->List V->List V}
end
structure Az(N P:List Str)(sc:Scope):Prop where
 kind:sc.kind=.function
 co:sc.isCoroutine=false
 mZ:sc.isGenerator=false
 nd:N.Nodup
 pre:N.take P.length=P
 Xe:∀x∈P,sc.names.lookup x=some .local\/sc.names.lookup x=some .cell
 jX:∀y∈sc.names,y.2≠.free
abbrev KP(K:nI)(f:Addr):Prop:=tL K (.ref f)=true
theorem Gs:0<=og:=by decide
theorem IY:1<=og:=by decide
theorem CQ:2<=og:=by decide
theorem Hh:3<=og:=by decide
theorem m4:4<=og:=by decide
theorem mv:7<=og:=by decide
theorem S5{J:Str->Option zH}:∀{F:List (Str×Value)} {m:Str->Option Value},(∀v,(x,v)∉F)->bindL J F m x=m x
 |[],_,_=>rfl
 |(n,v) :: r,m,h=>by
  unfold bindL;rw[S5 λw I=>h w (oV _ I)];split
  ·have:x≠n:=by rintro rfl;exact h v qr
   simp[this]
  ·rfl
theorem TH{J:Str->Option zH}:∀{F:List (Str×Value)} {m:Str->Option Value},(∀v,(x,v)∉F)->bindC J F m x=m x
 |[],_,_=>rfl
 |(n,v) :: r,m,h=>by
  unfold bindC;rw[TH λw I=>h w (oV _ I)];split
  ·rfl
  ·have:x≠n:=by rintro rfl;exact h v qr
   simp[this]
theorem S1{I:Str->Option zH}:∀{P:List Str} {F:List Value} {i:Nat} {m:Str->Option Value},P.Nodup->P[i]?=some x->F[i]?=some v->I x=some .local →
  bindL I (P.zip F) m x=some v
 |[],_,_,_,_,h,_,_=>by simp at h
 |_ :: _,[],_,_,_,_,h,_=>by simp at h
 |p :: P,w :: F,0,m,nd,h1,h2,hk=>by
  simp at h1 h2;subst h1;subst h2;show bindL I ((p,w) :: P.zip F) m p=_;unfold bindL;rw[S5 λv J=>(pj.mp nd).1 (uY J).1,nF hk];simp
 |p :: P,w :: F,i+1,m,nd,h1,h2,hk=>by
  show bindL I ((p,w) :: P.zip F) m x=_;unfold bindL;exact S1 (i:=i) (pj.mp nd).2 (by simpa using h1) (by simpa using h2) hk
theorem S8{I:Str->Option zH}:∀{P:List Str} {F:List Value} {i:Nat} {m:Str->Option Value},P.Nodup->P[i]?=some x->F[i]?=some v->I x≠some .local →
  bindC I (P.zip F) m x=some v
 |[],_,_,_,_,h,_,_=>by simp at h
 |_ :: _,[],_,_,_,_,h,_=>by simp at h
 |p :: P,w :: F,0,m,nd,h1,h2,hk=>by
  simp at h1 h2;subst h1;subst h2;show bindC I ((p,w) :: P.zip F) m p=_;unfold bindC;rw[TH λv J=>(pj.mp nd).1 (uY J).1,nv hk];simp
 |p :: P,w :: F,i+1,m,nd,h1,h2,hk=>by
  show bindC I ((p,w) :: P.zip F) m x=_;unfold bindC;exact S8 (i:=i) (pj.mp nd).2 (by simpa using h1) (by simpa using h2) hk
def HL(N:List Str)(F:List V):St:=F.map some++nQ (N.length-F.length) none
def JU(CX:GD)(P:oT)(w:World)(K:nI)(mg:Str->Option Value)(base:Heap)(N:List Str)(qual:Str)(scope:Scope)(f:Addr)(cd:Value)(A:qu)(outer:List Env)(s:nP)(H:Hp)(E:XK):Cx where
 prog:=P
 w:=w
 K:=K
 mg:=mg
 base:=base
 A:=A.deeper (vf qual scope s.heap.objs.size f cd)
 N:=N
 s₀:=s
 H₀:=H
 env:=vf qual scope s.heap.objs.size f cd
 outer:=outer
 stack:=vf qual scope s.heap.objs.size f cd :: outer
 ex:=[]
 C5:=true
 fn:=λ_=>true
 pn:=[]
 xe:=λe s'=>wpAny (model P w) (A.deeper (vf qual scope s.heap.objs.size f cd)) (leaving (vf qual scope s.heap.objs.size f cd) e) (λ_ F=>CX outer H s E e F) (λI F=>CX outer H s E I F) s'
theorem Tt{F:Scope}(h:F.names.lookup x=some .cell):∃c,(cellsFrom n F.names []).lookup x=some c:=by
 have q:=xk F.names n [] (.inl h);exact uu.mp q
theorem Yt {K:nI}
  (S:Az N ps scope)(hd:A.handled=none)(F:JX P w K mg base A outer s H)(hl:vs.length=ps.length)(r:Ag vs us)
  (x:InCallC s s.heap.objs.size (bindL (vf qual scope s.heap.objs.size f cd).kindOf (ps.zip us) λ_=>none) (cellsFrom (s.heap.objs.size+1) scope.names []) (bindC (vf qual scope s.heap.objs.size f cd).kindOf (ps.zip us) λ_=>none) s1) :
  AI (JU CX P w K mg base N qual scope f cd A outer s H E) [] (HL N vs) H s1:=by
 have aa:ps.length<=N.length:=by have:=congrArg rE S.pre;rw[pB]at this;lia
 obtain⟨h1,tk,rfl,J⟩:=x.done;have I:∀b:Addr,b∉(JU CX P w K mg base N qual scope f cd A outer s H E).ex:=λb z=>absurd (show b∈([]:List Addr) from z) (by simp)
 exists ⟨F.DV,S.kind,U,U,nG _,λy z c h1 h2=>?_,λy hy=>?_,λy c _ h=>?_,λ_=>hd,qu.frames_deeper F.frames,.inr ⟨U,U⟩,λb z=>absurd z (I b),F.bs,F.Gp,λb _ _=>I b,λb z=>absurd z (I b),F.FY,F.Jd⟩,
  rfl,F.Ds,Un.CG J,⟨_,x.toInCall.ns,λi y v h1 h2 h3=>?_⟩,λy c h=>⟨_,x.cell y c h⟩,F.Ap.CB (nG _),λy c h=>?_,λp hp=>absurd (show p∈([]:List (Addr×Obj)) from hp) (by simp),F.Ap.CG J
 ·exact name_of_addr x.apart (qQ h1) (qQ h2)
 ·have hy:scope.names.lookup y=some .cell\/scope.names.lookup y=some .free:=hy;rcases hy with hy|hy
  ·exact Tt hy
  ·exact absurd rfl (S.jX _ (qQ hy))
 ·exact wG (x.above y c (qQ h))
 ·have hi:i<vs.length:=by
   unfold HL at h2;by_cases hi:i<vs.length
   ·exact hi
   ·rw[nW (by simpa using hi)]at h2;rw[tf]at h2;split at h2<;>cases h2
  have ha:vs[i]?=some v:=by
   unfold HL at h2;rw[nX (by simpa using hi),nJ]at h2;cases e:vs[i]? with
   |none=>rw[e]at h2;cases h2
   |some a=>rw[e]at h2;cases h2;rfl
  obtain⟨u,hu,rv⟩:=r.BZ ha;have hp:ps[i]?=some y:=by
   rw[<-S.pre,List.getElem?_take_of_lt (by lia)];exact h1
  have O:ps.Nodup:=by rw[<-S.pre];exact S.nd.sublist (we _ _)
  exists u,rv;rcases S.Xe y (ny hp)with k|k
  ·exact .inl ⟨k,S1 O hp hu k⟩
  ·obtain⟨c,e⟩:=Tt (n:=s.heap.objs.size+1) k;refine .inr ⟨.inl k,c,e,?_⟩;have q:=x.cell y c e;rw[S8 O hp hu (by show scope.names.lookup y≠_;rw[k];decide)]at q;exact q
 ·exact F.Ap.CB (wG (x.above y c (qQ h)))
 ·unfold HL;show _=N.length;rw[nO,nc,List.length_replicate]
  lia
theorem j0 {CX:GD}{P:oT}{w:World}{K:nI}{mg:Str->Option Value}{base:Heap}{k:Nat}{f:Addr}{name qual:Str}{ac:Arguments}{aa:List Stmt}{scope:Scope}{dV kV doc pm ii ct oc:Value}{an od:Option Addr}
  {osl:Array (Option Value)}{N ps:List Str}{sp:Sp}(lk:K.lookup f=some ⟨oc,od,.func (qU name qual ac aa scope dV kV doc pm an ii ct),osl⟩)(ah:vx K ii qual=true)(S:Az N ps scope)
  (ad:∀F H Q E,sp F H Q E->F.length=ps.length)
  (ag:∀(A:qu) (outer:List Env) (s:nP) (H:Hp) (F:List V) (Q:VK) (E:XK),Room k (A.deeper (vf qual scope s.heap.objs.size f ii))->sp F H Q E →
   ∃t,CU (JU CX P w K mg base N qual scope f ii A outer s H E) aa t/\t { nx:=λ_ H'=>Q .BE H',rt:=Q} (HL N F) H) :
  Am P w K mg base CX (k+1) f (qU name qual ac aa scope dV kV doc pm an ii ct) ps sp:=by
 refine⟨ad,λA outer s H args us F Q E hr O hb r ae=>?_⟩;have hl:=ad _ _ _ _ ae;have KX:K.In s.heap:=O.DV.Oo.keeps λb o e=>(O.bs b o e).1
 have ai:s.heap.NoLimit:=O.DV.nolimit.keeps λb o e=>(O.bs b o e).1
 have af:∀y∈ps.zip us,scope.names.lookup y.1=some .local\/(scope.names.lookup y.1=some .cell/\((cellsFrom (s.heap.objs.size+1) scope.names []).lookup y.1).isSome=true):=λ⟨n,v⟩ hy=>by
  rcases S.Xe n (uY hy).1 with q|q
  ·exact .inl q
  ·exact .inr ⟨q,xk _ _ _ (.inl q)⟩
 refine codeAny_call_function hr.depth (KX _ _ lk) rfl S.co S.mZ rfl (PySem.W.codeRec_of KX ah) (hb _ _ _ _ ?_);refine wpAny_newFunctionEnv_cells S.kind af λenv he s1 x=>?_
 subst he;refine⟨ai.keeps x.toInCall.keep,codeAny_func ?_⟩;obtain⟨t,ht,hq⟩:=ag A outer s H F Q E (hr.deeper _) ae;have I:AI (JU CX P w K mg base N qual scope f ii A outer s H E) [] (HL N F) H s1:=Yt S hr.hd O hl r x;refine qK (ht [] s1 (HL N F) H _ I hq) (λfl s' hs=>?_) λe s' hs=>hs
 have ab:∀{σ':St} {H':Hp} {v:V} {u:Value},AI (JU CX P w K mg base N qual scope f ii A outer s H E) [] σ' H' s'->Av v u->Q v H'->CE outer P w H s Q u s' :=
  λ{σ' H' v u} J rv q=>⟨v,H',J.os,J.Ds,J.base,J.Ap,rv,q⟩
 cases fl with
 |ret u =>
  obtain⟨v,σ',H',J,rv,q⟩:=hs;exact ab J rv q
 |next =>
  obtain⟨σ',H',J,q⟩:=hs;exact ab (v:=V.BE) (u:=tV) J rfl q
 |brk =>
  obtain⟨_,_,_,q⟩:=hs;exact qj q
 |cont =>
  obtain⟨_,_,_,q⟩:=hs;exact qj q
section
variable {X:Cx}{x:Str}{p pos:Pos}{e:Expr}{es:List Expr}{t:TA}{id T:String}{r:List V->Hp->VK->Prop}
def Kz(r:List V->Hp->VK->Prop)(t:TA):TE:=λσ H Q=>t σ H λF H1=>r F H1 Q
theorem CV (O:DJ X (.builtin id) r)(F:Gl X x)(J:X.mg x=none)(hv:qi x=some (.builtin id))(ha:PA X (e :: es) t)(hn:x≠"__name__":=by decide)(aa:(x == ("__debug__":Str))=false:=by decide)
  (he:oG (e :: es) X.env=(false,eval e X.env) :: oG es X.env:=by rfl)(ab:(rW pos (oG es X.env)).any (·.1)=false:=by rfl):PE X (.Call (.Name x p) (e :: es) [] pos) (Kz r t):=by
 intro ga s σ H Q I h;refine qW (FP I F J hv ?_ hn aa);exact PyProof.Rows.callWith_builtin1 (Af (ha pos ga s σ H _ I h) λus s1 ⟨vs,H1,I1,r1,q1⟩=>O ga s1 σ H1 vs us Q I1 r1 q1) he ab
theorem FF (O:DJ X (.type T) r)(F:Gl X x)(J:X.mg x=none)(hv:qi x=some (.type T))(ha:PA X (e :: es) t)(hn:x≠"__name__":=by decide)(aa:(x == ("__debug__":Str))=false:=by decide)
  (he:oG (e :: es) X.env=(false,eval e X.env) :: oG es X.env:=by rfl)(ab:(rW pos (oG es X.env)).any (·.1)=false:=by rfl):PE X (.Call (.Name x p) (e :: es) [] pos) (Kz r t):=by
 intro ga s σ H Q I h;refine qW (FP I F J hv ?_ hn aa);exact pI (Af (ha pos ga s σ H _ I h) λus s1 ⟨vs,H1,I1,r1,q1⟩=>O ga s1 σ H1 vs us Q I1 r1 q1) he ab
end
end L2
namespace HT
open PySem PyProof.Rows
section
open PySem.SeqAt
open PySem.AutoSeq1 (wpAny_loadPart')
open PySem.MeetsSeq PySem.MeetsSeq2 PySem.MeetsSeq3
end
section
variable {prog:oT}{w:World}{A:qu}{E:Value->nP->Prop}{s:nP}
theorem eI {t b:Addr}{J I:List Value}{Q:Value->nP->Prop}(ht:IsTup s.heap t J.toArray)(hb:IsTup s.heap b I.toArray)(hv:J≠[])
  (h1:I=[]->Q (.ref t) s)(h2:I≠[]->Q (.ref s.heap.objs.size) { s with heap:=s.heap.push { cls:=.type "tuple",data:=.seq (J++I).toArray}})
  (hsz:J.length+I.length<=og):wpAny (model prog w) A (rK .Add (.ref t) (.ref b)) Q E s:=by
 obtain⟨⟨cls,dd,data,sl⟩,ho,hc,n,hd⟩:=id ht;obtain⟨⟨ag,ac,af,ad⟩,aa,ab,n2,ae⟩:=id hb;simp only at hc hd ab ae;subst hc hd ab ae;have e:J.toArray++I.toArray=(J++I).toArray:=by simp
 by_cases O:I=[]
 ·exact yT ⟨_,ho,U⟩ ⟨_,aa,U⟩ wO x5 uM uE (uw _ _)
   (tuple_addW1 t b J.toArray I.toArray n n2 dd ac sl ad (by simpa using hv) (by simp[O])) ⟨ho,aa,h1 O⟩
 ·refine yT ⟨_,ho,U⟩ ⟨_,aa,U⟩ wO x5 uM uE (uw _ _)
   (tuple_addW2 t b J.toArray I.toArray n n2 dd ac sl ad (by simpa using hv) (by simpa using O) (by rw[n8,n8];exact hsz)) ⟨ho,aa,?_⟩
  rw[e];exact h2 O
def Ax(n d:Nat):Option Int->Nat
 |none=>d
 |some v=>if v<0 then (v+(n:Int)).toNat else min v.toNat n
theorem gn(n d:Nat)(hd:d<=n)(o:Option Int):Ax n d o<=n:=by
 cases o with
 |none=>exact hd
 |some v =>
  show(if v<0 then (v+(n:Int)).toNat else min v.toNat n)<=n;by_cases F:v<0
  ·rw[nF F];lia
  ·rw[nv F];exact Nat.min_le_right _ _
theorem Uv(v:Int)(n d:Nat):(if v<0 then max (v+(n:Int)) 0 else min v (n:Int))=((Ax n d (some v):Nat):Int):=by
 show(if v<0 then max (v+(n:Int)) 0 else min v (n:Int))=(((if v<0 then (v+(n:Int)).toNat else min v.toNat n):Nat):Int);by_cases F:v<0
 ·simp only[nF F];lia
 ·simp only[nv F];lia
theorem Yf(lo hi:Option Int)(n:Nat):t8 lo hi 1 (n:Int)=(((Ax n 0 lo:Nat):Int),((Ax n n hi:Nat):Int)):=by
 have h1:¬((1:Int)<0):=by omega
 unfold t8;simp only[h1,if_false];refine Prod.ext ?_ ?_
 ·cases lo with
  |none=>rfl
  |some v=>exact Uv v n 0
 ·cases hi with
  |none=>rfl
  |some v=>exact Uv v n n
theorem YJ(i j:Nat):sC (i:Int) (j:Int) 1=j-i:=by
 unfold sC;have h1:(1:Int)>0:=by lia
 simp only[h1,if_true,Int.ediv_one];split<;>lia
theorem R7(p:wB v o)(h:Q o s):wpAny (model prog w) A (oS.Slice.slicePartIndex v) Q E s:=by
 cases p with
 |none=>exact slicePart_none h
 |int i t=>exact slicePart_int h
theorem Xo {sl:Addr}{I J:Value}{lo hi:Option Int}{n:Nat}(hs:s.heap.IsSliceOf sl I J .none)(pl:wB I lo)(pu:wB J hi)
  (h:Q (((Ax n 0 lo:Nat):Int),1,Ax n n hi-Ax n 0 lo) s):wpAny (model prog w) A (vP (.ref sl) (pure (n:Int))) Q E s:=by
 obtain⟨os,O,aa,F⟩:=id hs;unfold vP oS.Slice.sliceFields;refine nH (nH (qJ O F (x:=I) rfl (nH (qJ O F (x:=J) rfl (nH (qJ O F (x:=.none) rfl (oy ?_)))))));refine nH (slicePart_none ?_);show wpAny _ _ (if ((1:Int) == 0)=true then _ else _) _ _ s;rw[nv (by decide)];refine nH (R7 pl (nH (R7 pu (nH (oy ?_)))));show wpAny _ _ (match t8 lo hi 1 (n:Int)with|(lo,hi)=>pure (lo,(1:Int),sC lo hi 1)) _ _ s;rw[Yf lo hi n];show wpAny _ _ (pure (((Ax n 0 lo:Nat):Int),(1:Int),sC ((Ax n 0 lo:Nat):Int) ((Ax n n hi:Nat):Int) 1)) _ _ s;rw[YJ];exact oy h
theorem bK(xs:Array Value)(i k:Nat):((nz k).filterMap λ(m:Nat)=>xs[((i:Int)+(m:Int)*1).toNat]?).toArray=((xs.toList.drop i).take k).toArray:=by
 have e:(λ(m:Nat)=>xs[((i:Int)+(m:Int)*1).toNat]?)=λm=>xs[i+m]?:=by
  funext m
  have:((i:Int)+(m:Int)*1).toNat=i+m:=by lia
  rw[this]
 rw[e]
 have:=pick_run xs i k
 rw[List.filterMap_map]at this;have F:((λx=>xs[x]?) ∘ λx=>i+x)=λm=>xs[i+m]?:=rfl
 rw[F]at this;rw[this]
theorem Xn {t J:Addr}{items:Array Value}{O vu:Value}{lo hi:Option Int}{Q:Value->nP->Prop}(I:IsTup s.heap t items)(hs:s.heap.IsSliceOf J O vu .none)(pl:wB O lo)(pu:wB vu hi)
  (hw:¬(Ax items.size 0 lo=0/\Ax items.size items.size hi=items.size))
  (h:Q (.ref s.heap.objs.size) { s with heap:=s.heap.push { cls:=.type "tuple",data:=.seq ((items.toList.drop (Ax items.size 0 lo)).take (Ax items.size items.size hi-Ax items.size 0 lo)).toArray}})
  (hsz:items.size<=og):wpAny (model prog w) A (vA (.ref t) (.ref J)) Q E s:=by
 have F:sizeOk (.seq ((items.toList.drop (Ax items.size 0 lo)).take (Ax items.size items.size hi-Ax items.size 0 lo)).toArray):=by
  show((items.toList.drop (Ax items.size 0 lo)).take (Ax items.size items.size hi-Ax items.size 0 lo)).toArray.size<=og;rw[n8,pB,o6,rC];omega
 have hj:Ax items.size items.size hi<=items.size:=gn _ _ (nG _) hi;obtain⟨os,ad,ab,ae⟩:=id hs;have ac:s.TypeIs (.ref J) "slice":=⟨os,ad,ab⟩;unfold vA
 try with_reducible refine vX ?_
 first|refine nH (oy ?_)|skip
 refine nH (wpAny_sequenceKey I.typeIs (by decide) ?_);refine nH (rV (name:=ve "__getitem__") I.typeIs sY
  (tX sY I.typeIs entry_tuple_getitem ?_ (args_tuple_getitem _ _)))
 show wpAny _ _ (oS.Tuple.tupleItemsOf (.ref t) >>= _) _ _ s;refine nH (tupleItemsOf_ I ?_);refine nH (wpAny_typeOf ac ?_);rw[nF (by decide)];refine nH (Xo hs pl pu ?_);have aa:¬((((Ax items.size 0 lo:Nat):Int) == 0 && (1:Int) == 1 && (Ax items.size items.size hi-Ax items.size 0 lo) == items.size)=true):=by
  intro q;rw[pA,pA]at q;have q1:((Ax items.size 0 lo:Nat):Int)=0:=eq_of_beq q.1.1;have q2:Ax items.size items.size hi-Ax items.size 0 lo=items.size:=eq_of_beq q.2;exact hw ⟨by omega,by omega⟩
 show wpAny _ _ (if (((Ax items.size 0 lo:Nat):Int) == 0 && (1:Int) == 1 && (Ax items.size items.size hi-Ax items.size 0 lo) == items.size)=true then _ else _) _ _ s;rw[nv aa,bK]
 first
  |exact nH (m:=sQ _) (rh (oy ⟨_,U,oy h⟩) F)
  |exact nH (m:=sQ _) (rh (nH (oy (oy ⟨_,U,oy h⟩))) F)
  |exact nH (nH (m:=sQ _) (rh (oy (oy ⟨_,U,oy h⟩)) F))
  |exact nH (nH (m:=sQ _) (rh (oy ⟨_,U,oy h⟩) F))
end
end HT
namespace L2
open PySem PySem.Spec PyProof.Rows
abbrev TO:=St->Hp->(Option Int->Hp->Prop)->Prop
def PO(X:Cx)(e:Option Expr)(t:TO):Prop :=
 ∀(ga:List (Addr×Obj)) (s:nP) (σ:St) (H:Hp) (Q:Option Int->Hp->Prop),AI X ga σ H s->t σ H Q →
  wpAny (model X.prog X.w) X.A (evalPart e X.env) (λu s'=>∃o H',AI X ga σ H' s'/\wB u o/\Q o H') X.xe s
def LY:TO:=λ_ H Q=>Q none H
def L5(t:TE):TO:=λσ H Q=>t σ H λx H1=>∃i,x=.int i/\Q (some i) H1
theorem PJ:∀{us:List Value},Ag (ns.map V.int) us->vt us ns:=by
 induction ns with
 |nil=>intro us r;rw[pE]at r;cases r;exact .nil
 |cons n ns ih =>
  intro us r;rw[nK]at r;cases r with
  |cons r1 r2 =>
   obtain⟨t,e⟩:=r1;subst e;exact .cons n t (ih r2)
section
variable {X:Cx}{e:Expr}{te:TE}{lo hi:Option Expr}{tl th:TO}{pos p2:Pos}
theorem FO:PO X none LY:=by
 intro ga s σ H Q I h;rw[evalPart_none];exact oy ⟨none,H,I,.none,h⟩
theorem Ea(h:PE X e te):PO X (some e) (L5 te):=by
 intro ga s σ H Q I F;rw[evalPart_some];refine Af (h ga s σ H _ I F) λu s1 ⟨x,H1,I1,O,J⟩=>?_
 obtain⟨i,rfl,q⟩:=J;obtain⟨t,rfl⟩:=O;exact⟨some i,H1,I1,.int i t,q⟩
def Hf(X:Cx)(r:V->Option Int->Option Int->Hp->VK->Prop):Prop :=
 ∀(ga:List (Addr×Obj)) (s:nP) (σ:St) (H:Hp) (x:V) (v I F:Value) (lo hi:Option Int) (J:Addr) (Q:VK),AI X ga σ H s->Av x v->s.heap.IsSliceOf J I F .none->wB I lo->wB F hi->r x lo hi H Q →
  ∃T id,typeLookup (.type T) "__getitem__" = pure (some (.builtin id))/\s.TypeIs v T/\wpAny (model X.prog X.w) X.A (vA v (.ref J)) (EP X ga σ Q) X.xe s
theorem Hf.or(h:Hf X r)(h':Hf X r'):Hf X (λx lo hi H Q=>r x lo hi H Q\/r' x lo hi H Q):=by
 intro ga s σ H x v J vu lo hi O Q I F hs pl pu q;rcases q with q|q
 ·exact h ga s σ H x v J vu lo hi O Q I F hs pl pu q
 ·exact h' ga s σ H x v J vu lo hi O Q I F hs pl pu q
def MQ(r:V->Option Int->Option Int->Hp->VK->Prop)(te:TE)(tl th:TO):TE:=λσ H Q=>te σ H λx H1=>tl σ H1 λl H2=>th σ H2 λu F=>r x l u F Q
theorem Eu(hr:Hf X r)(he:PE X e te)(hl:PO X lo tl)(hu:PO X hi th):PE X (.Subscript e (.Slice lo hi none p2) pos) (MQ r te tl th):=by
 intro ga s σ H Q I h;refine aaa (Af (he ga s σ H _ I h) λv s1 ⟨x,H1,I1,r1,q1⟩=>?_);refine wpAny_Slice (Af (hl ga s1 σ H1 _ I1 q1) λJ s2 ⟨l,H2,I2,pl,q2⟩=>Af (hu ga s2 σ H2 _ I2 q2) λO F ⟨u,H3,I3,pu,q3⟩=>?_);rw[evalPart_none];refine oy ?_;have I4:AI X ga σ H3 { F with heap:=F.heap.push { cls:=.type "slice",data:=.fields #[J,O,.none]}}:=I3.CG (t':=F.toks) λb ob q=>nN _ q
 obtain⟨T,id,hT,ht,hg⟩:=hr ga { F with heap:=F.heap.push { cls:=.type "slice",data:=.fields #[J,O,.none]}} σ H3 x v J O l u F.heap.objs.size Q I4 r1 (Heap.IsSliceOf.new ..) pl pu q3;show wpAny (model X.prog X.w) X.A (x6 e (.Slice lo hi none p2) v (.ref F.heap.objs.size)) (EP X ga σ Q) X.xe { F with heap:=F.heap.push { cls:=.type "slice",data:=.fields #[J,O,.none]}};exact tail_any (ops:=[.ref F.heap.objs.size,v]) ht hT hg (by with_unfolding_all rfl)
def De(xs:List V)(lo hi:Option Int):List V:=(xs.drop (HT.Ax xs.length 0 lo)).take (HT.Ax xs.length xs.length hi-HT.Ax xs.length 0 lo)
theorem R5(xs:List V)(lo hi:Option Int):(De xs lo hi).length<=xs.length:=by
 unfold De;rw[pB,o6];omega
def Gh(K:nI):V->Option Int->Option Int->Hp->VK->Prop:=λx lo hi H Q=>∃a xs,x=.ref a/\AJ K H a xs /\
 ¬(HT.Ax xs.length 0 lo=0/\HT.Ax xs.length xs.length hi=xs.length)/\∀p,H p=none->Q (.ref p) (AF H p (.AG (De xs lo hi)))
theorem gz:Hf X (Gh X.K):=by
 intro ga s σ H x v vl vu lo hi sl Q I rx hs pl pu h;obtain⟨a,xs,rfl,hx,hw,q⟩:=h;cases rx;obtain⟨aa,r,O,J⟩:=I.tuple hx;have F:aa.toArray.size=xs.length:=by rw[n8];exact r.length.symm
 exists "tuple",_,sY.lookup,O.typeIs;refine HT.Xn O hs pl pu (by rw[F];exact hw) ?_ (by rw[F];exact J);rw[F];refine⟨.ref s.heap.objs.size,_,I.Dt (t':=s.toks) (o:=.AG (De xs lo hi)) (λb ob q=>nN _ q) (nG _) ?_,U,q _ (I.Ap.CB (nG _))⟩;exact⟨oa (R5 xs lo hi) J,_,(r.drop (HT.Ax xs.length 0 lo)).take (HT.Ax xs.length xs.length hi-HT.Ax xs.length 0 lo),yu _ _,_,oF _ rfl,U⟩
def Kb(K:nI):R2:=λx y H Q=>∃a b xs ys,x=.ref a/\y=.ref b/\AJ K H a xs/\AJ K H b ys/\xs≠[]/\xs.length+ys.length<=og /\
 (ys=[]->Q (.ref a) H)/\(ys≠[]->∀p,H p=none->Q (.ref p) (AF H p (.AG (xs++ys))))
theorem Ag.NS(r:Ag xs us):us=[]↔xs=[]:=by
 cases r with
 |nil=>simp
 |cons _ _=>simp
theorem LZ:Bg X (rK .Add) (Kb X.K):=by
 intro ga s σ H x y v u Q I rx ry h;obtain⟨a,b,xs,ys,rfl,rfl,ha,hb,hx,O,q1,q2⟩:=h;cases rx;cases ry;obtain⟨ab,J,p1,_⟩:=I.tuple ha;obtain⟨aa,F,p2,_⟩:=I.tuple hb;refine HT.eI p1 p2 (λz=>hx (J.NS.mp z)) (λz=>⟨.ref a,H,I,U,q1 (F.NS.mp z)⟩) (λz=>?_) (by rw[<-J.length,<-F.length];exact O);refine⟨.ref s.heap.objs.size,_,I.Dt (t':=s.toks) (o:=.AG (xs++ys)) (λb ob q=>nN _ q) (nG _) ?_,U,q2 (λw=>z (F.NS.mpr w)) _ (I.Ap.CB (nG _))⟩;exact⟨by rw[nO];exact O,_,J.append F,yu _ _,_,oF _ rfl,U⟩
def EN(n:Nat)(i:Int):Option Nat:=if 0<=i then (if i<n then some i.toNat else none) else if -(n:Int)<=i then some (i+n).toNat else none
def Bt{α:Type}(xs:List α)(i:Int):Option α:=(EN xs.length i).bind λj=>xs[j]?
theorem QH(h:EN n i=some j):seqIndex? i n=some j/\j<n/\-(n:Int)<=i/\i<n:=by
 unfold EN at h;by_cases F:0<=i
 ·rw[nF F]at h;by_cases h1:i<n
  ·rw[nF h1]at h;have e:i.toNat=j:=nV h;exact⟨by rw[zu F h1,e],by lia,by lia,h1⟩
  ·rw[nv h1]at h;cases h
 ·rw[nv F]at h;by_cases h1:-(n:Int)<=i
  ·rw[nF h1]at h;have e:(i+n).toNat=j:=nV h;exact⟨by rw[yU (by lia) h1,e],by lia,h1,by lia⟩
  ·rw[nv h1]at h;cases h
theorem Up(h:Bt xs i=some v):∃j,seqIndex? i xs.length=some j/\xs[j]?=some v/\j<xs.length/\-(xs.length:Int)<=i/\i<xs.length:=by
 unfold Bt at h;cases e:EN xs.length i with
 |none=>rw[e]at h;cases h
 |some j =>
  rw[e]at h;obtain⟨h1,h2,I,F⟩:=QH e;exact⟨j,h1,h,h2,I,F⟩
theorem Be{α:Type}{xs:List α}{j:Nat}{v:α}(h:xs[j]?=some v):Bt xs (j:Int)=some v:=by
 have F:j<xs.length:=(nj.mp h).1;have e:EN xs.length (j:Int)=some j:=by
  unfold EN;rw[nF (by lia),nF (by lia)];simp
 unfold Bt;rw[e];exact h
def Nh(b:Expr):Prop:=∀o i,xr b false o i=operate [o,i] (vA o i)
def F9(X:Cx)(r:R2):Prop :=
 ∀(value F:Expr) (ga:List (Addr×Obj)) (s:nP) (σ:St) (H:Hp) (x y:V) (v u:Value) (Q:VK),AI X ga σ H s->Av x v->Av y u->r x y H Q →
  xr F false v u=operate [v,u] (vA v u)->wpAny (model X.prog X.w) X.A (x6 value F v u) (EP X ga σ Q) X.xe s
def Ks(X:Cx)(id:String)(r:V->List V->Hp->VK->Prop):Prop :=
 ∀(ga:List (Addr×Obj)) (s:nP) (σ:St) (H:Hp) (x:V) (xs:List V) (v:Value) (us:List Value) (Q:VK),AI X ga σ H s->Av x v->Ag xs us->r x xs H Q →
  wpAny (model X.prog X.w) X.A (call (.builtin id) (v :: us)) (EP X ga σ Q) X.xe s
variable {a b:Expr}{ta tb:TE}
theorem F9.or(h:F9 X r)(h':F9 X r'):F9 X (λx y H Q=>r x y H Q\/r' x y H Q):=by
 intro value O ga s σ H x y v u Q I F J q hs;rcases q with q|q
 ·exact h value O ga s σ H x y v u Q I F J q hs
 ·exact h' value O ga s σ H x y v u Q I F J q hs
theorem Ks.or{id:String}(h:Ks X id r)(h':Ks X id r'):Ks X id (λx xs H Q=>r x xs H Q\/r' x xs H Q):=by
 intro ga s σ H x xs v us Q I F rs q;rcases q with q|q
 ·exact h ga s σ H x xs v us Q I F rs q
 ·exact h' ga s σ H x xs v us Q I F rs q
theorem JS(hr:F9 X r)(J:PE X a ta)(hb:PE X b tb)(hs:Nh b):PE X (.Subscript a b pos) (Bh r ta tb):=by
 intro ga s σ H Q I h;exact aaa (RV J hb I h λv u s2 x y H2 O F ry q=>hr a b ga s2 σ H2 x y v u Q O F ry q (hs _ _))
inductive XN(K:nI)(x y:V)(H:Hp)(Q:VK):Prop
 |mk (p:Addr) (xs:List V) (i:Int) (v:V) (a:x=.ref p) (b:y=.int i) (c:AR K H p xs) (d:Bt xs i=some v) (q:Q v H):XN K x y H Q
inductive XO(K:nI)(x y:V)(H:Hp)(Q:VK):Prop
 |mk (p:Addr) (xs:List V) (i:Int) (v:V) (a:x=.ref p) (b:y=.int i) (c:AJ K H p xs) (d:Bt xs i=some v) (q:Q v H):XO K x y H Q
def Gg(K:nI):R2:=λx y H Q=>XN K x y H Q
def Fg(K:nI):R2:=λx y H Q=>XO K x y H Q
theorem UK:F9 X (Gg X.K):=by
 intro value ad ga s σ H x y v u Q I rx ry h hs;obtain⟨p,xs,i,z,rfl,rfl,hq,he,q⟩:=h;cases rx;obtain⟨t,rfl⟩:=ry;obtain⟨ac,r,pl,hz⟩:=I.list hq;obtain⟨j,h1,h2,h3,h4,h5⟩:=Up he;obtain⟨w,O,ab⟩:=r.BZ h2;have hl:=r.length;have hn:=Lo;have aa:EP X ga σ Q w s:=⟨z,H,I,ab,q⟩;by_cases J:0<=i
 ·have F:i.toNat=j:=by
   rw[zu J h5]at h1;exact nV h1
  exact item_listR pl.isList J (by lia) (by rw[F];simpa using O) aa hs
 ·have F:(i+(ac.toArray.size:Int)).toNat=j:=by
   rw[yU (by lia) h4]at h1;rw[n8,<-hl];exact nV h1
  exact xo (x:=w) pl.isList.typeIs zi.lookup
   (wpAny_getItem_list_neg (Q:=λr s'=>r=w/\EP X ga σ Q r s') pl.isList (by lia) (by rw[n8]<;>lia) (by lia) (by rw[F];simpa using O) ⟨U,aa⟩) hs
theorem jU:F9 X (Fg X.K):=by
 intro value ac ga s σ H x y v u Q I F ry h hs;obtain⟨p,xs,i,z,rfl,rfl,hq,O,q⟩:=h;cases F;obtain⟨t,rfl⟩:=ry;obtain⟨ad,r,pl,hz⟩:=I.tuple hq;obtain⟨j,h1,h2,h3,h4,h5⟩:=Up O;obtain⟨w,ew,aa⟩:=r.BZ h2;have J:=r.length;have hn:=Lo;have ab:EP X ga σ Q w s:=⟨z,H,I,aa,q⟩;exact xo (x:=w) pl.typeIs slot_tuple_getitem.lookup
  (getItem_tuple (j:=j) (Q:=λr s'=>r=w/\EP X ga σ Q r s') pl (by lia) (by lia) (by rw[n8,<-J];exact h1) (by simpa using ew) ⟨U,ab⟩) hs
theorem YW(F:List Value)(n j:Nat)(u:Value):wu (·.setIfInBounds j u) { cls:=.type "list",data:=.seq F.toArray n}={ cls:=.type "list",data:=.seq (F.set j u).toArray n}:=by
 simp[wu]
theorem AI.AE(I:AI X ga σ H s)(h:H p=some (.AE xs)):
  ∃(F:List Value) (n:Nat),Ag xs F/\s.heap.get? p=some { cls:=.type "list",data:=.seq F.toArray n}/\xs.length<=og:=by
 obtain⟨z,F,n,r,e⟩:=I.Ap p _ h;exact⟨F,n,r,e,z⟩
theorem AI.jZ {ga:List (Addr×Obj)}{σ:St}{H:Hp}{s:nP}{p:Addr}{xs ys:List V}{O its':List Value}{n F:Nat}{f:Obj->Obj}(I:AI X ga σ H s)(h:H p=some (.AE xs))
  (ho:s.heap.get? p=some { cls:=.type "list",data:=.seq O.toArray n})(J:f { cls:=.type "list",data:=.seq O.toArray n}={ cls:=.type "list",data:=.seq its'.toArray F})(r:Ag ys its')(hz:ys.length<=og)(t:Nat) :
  AI X ga σ (AF H p (.AE ys)) { s with heap:=s.heap.update p f,toks:=t}:=by
 have e:(s.heap.update p f).get? p=some { cls:=.type "list",data:=.seq its'.toArray F}:=by
  rw[uS f ho (by rw[J]<;>rfl),J]
 refine I.JN (x:=p) (e:=p) (by rw[h];trivial) (.inl rfl) (λb u hb q=>(uK _ _ (rN hb)).trans q) ⟨_,e⟩ ?_;exact⟨hz,its',F,r,e⟩
inductive Wc(o i v:V)(H:Hp)(Q:Hp->Prop):Prop
 |mk (p:Addr) (xs:List V) (k:Int) (j:Nat) (I:o=.ref p) (F:i=.int k) (h:H p=some (.AE xs)) (x:EN xs.length k=some j) (q:Q (AF H p (.AE (xs.set j v)))):Wc o i v H Q
def WZ:V->V->V->Hp->(Hp->Prop)->Prop:=λo i v H Q=>Wc o i v H Q
theorem IA:W9 X WZ:=by
 intro ga s σ H o i v ov iv u Q I ro ri rv h;obtain⟨p,xs,k,j,rfl,rfl,hp,hj,q⟩:=h;cases ro;obtain⟨t,rfl⟩:=ri;obtain⟨aa,n,r,O,hz⟩:=I.AE hp;obtain⟨h1,h2,h3,h4⟩:=QH hj;have J:=r.length;have hn:=Lo;have I':AI X ga σ (AF H p (.AE (xs.set j v))) { s with heap:=s.heap.update p (wu (·.setIfInBounds j u))} :=
  I.jZ hp O (YW aa n j u) (r.set rv j) (by rw[o9];exact hz) s.toks
 by_cases h0:0<=k
 ·have F:k.toNat=j:=by
   rw[zu h0 h4]at h1;exact nV h1
  exact PySem.W.ki_setAt O h0 (by lia) (by rw[n8,<-J];exact h4) (by rw[F];exact⟨_,I',q⟩)
 ·have F:(k+(aa.toArray.size:Int)).toNat=j:=by
   rw[yU (by lia) h3]at h1;rw[n8,<-J];exact nV h1
  exact PySem.W.ki_setBack O (by lia) (by rw[n8,<-J];exact h3) (by lia) (by rw[F];exact⟨_,I',q⟩)
theorem Xw(lo hi:Option Int)(n:Nat):(t6 lo hi none n).1=((HT.Ax n 0 lo:Nat):Int)/\(t6 lo hi none n).2.1=((HT.Ax n n hi:Nat):Int)/\(t6 lo hi none n).2.2=1:=by
 refine⟨?_,?_,U⟩
 ·cases lo with
  |none=>simp[t6,HT.Ax]
  |some i =>
   simp only[t6,HT.Ax,zJ,show(1:Int)>0 by decide,if_true];by_cases h:i<0
   ·simp only[h,if_true]<;>lia
   ·simp only[h,if_false]<;>lia
 ·cases hi with
  |none=>simp[t6,HT.Ax]
  |some i =>
   simp only[t6,HT.Ax,zJ,show(1:Int)>0 by decide,if_true];by_cases h:i<0
   ·simp only[h,if_true]<;>lia
   ·simp only[h,if_false]<;>lia
theorem Xv(F:List Value)(lo hi:Option Int):slicePick F.toArray lo hi none=((F.drop (HT.Ax F.length 0 lo)).take (HT.Ax F.length F.length hi-HT.Ax F.length 0 lo)).toArray:=by
 obtain⟨h1,h2,I⟩:=Xw lo hi F.toArray.size;unfold slicePick;rw[h1,h2,I];simp only[sliceRange_one,pick_run,n8]<;>rfl
inductive XQ(K:nI)(x:V)(lo hi:Option Int)(H:Hp)(Q:VK):Prop
 |mk (a:Addr) (xs:List V) (e:x=.ref a) (s:AR K H a xs) (q:∀p,H p=none->Q (.ref p) (AF H p (.AE (De xs lo hi)))):XQ K x lo hi H Q
def W2(K:nI):V->Option Int->Option Int->Hp->VK->Prop:=λx lo hi H Q=>XQ K x lo hi H Q
theorem gX:Hf X (W2 X.K):=by
 intro ga s σ H x v vl vu lo hi sl Q I O hs pl pu h;obtain⟨a,xs,rfl,J,q⟩:=h;cases O;obtain⟨ab,r,F,hz⟩:=I.list J;have aa:=r.length;exists "list",_,zi.lookup,F.isList.typeIs;refine wpAny_getItem_list_slice F.isList hs pl pu .none (by simp) ?_ (by rw[n8]<;>lia);rw[Xv,<-aa];refine⟨.ref s.heap.objs.size,_,I.Dt (t':=s.toks) (o:=.AE (De xs lo hi)) (λb ob q=>nN _ q) (nG _) ?_,U,q _ (I.Ap.CB (nG _))⟩;exact⟨oa (R5 xs lo hi) hz,_,0,(r.drop (HT.Ax xs.length 0 lo)).take (HT.Ax xs.length xs.length hi-HT.Ax xs.length 0 lo),oF _ rfl⟩
def HN:V->Bool
 |.BE=>true
 |.bl _=>true
 |.int _=>true
 |.str _=>true
 |_=>false
def Hk:V->V->Bool
 |.BE,.BE=>true
 |.bl a,.bl b=>a == b
 |.bl a,.int b=>(if a then 1 else 0) == b
 |.int a,.bl b=>a == (if b then 1 else 0)
 |.int a,.int b=>a == b
 |.str a,.str b=>a == b
 |_,_=>false
theorem i4(J:Av y u)(F:Av x v)(O:HN y=true)(I:HN x=true):qp A s u v (Hk y x):=by
 cases y with
 |BE =>
  cases J;cases x with
  |BE=>cases F;exact qp.same _
  |bl b=>cases F;exact qp.none_bool b
  |int b=>obtain⟨t,rfl⟩:=F;exact qp.none_int b t
  |str b=>obtain⟨t,rfl⟩:=F;exact qp.none_str b t
  |_=>exact absurd (show false=true from I) oz
 |bl a =>
  cases J;cases x with
  |BE=>cases F;exact qp.bool_none a
  |bl b=>cases F;exact qp.bool_bool a b
  |int b=>obtain⟨t,rfl⟩:=F;exact qp.bool_int a b t
  |str b=>obtain⟨t,rfl⟩:=F;exact qp.bool_str a b t
  |_=>exact absurd (show false=true from I) oz
 |int a =>
  obtain⟨t',rfl⟩:=J;cases x with
  |BE=>cases F;exact qp.int_none a t'
  |bl b=>cases F;exact qp.int_bool a t' b
  |int b=>obtain⟨t,rfl⟩:=F;exact qp.int_int a t' b t
  |str b=>obtain⟨t,rfl⟩:=F;exact yN a t' b t
  |_=>exact absurd (show false=true from I) oz
 |str a =>
  obtain⟨t',rfl⟩:=J;cases x with
  |BE=>cases F;exact qp.str_none a t'
  |bl b=>cases F;exact qp.str_bool a t' b
  |int b=>obtain⟨t,rfl⟩:=F;exact yO a t' b t
  |str b=>obtain⟨t,rfl⟩:=F;exact qp.str_str a t' b t
  |_=>exact absurd (show false=true from I) oz
 |_=>exact absurd (show false=true from O) oz
def Ho(x:V)(u:Value):Bool:=match u with
 |.none=>Hk .BE x
 |.bool b=>Hk (.bl b) x
 |.int i _=>Hk (.int i) x
 |.str z _=>Hk (.str z) x
 |_=>false
theorem Vu(r:Av y u)(f:HN y=true):Ho x u=Hk y x:=by
 cases y with
 |BE=>cases r;rfl
 |bl b=>cases r;rfl
 |int i=>obtain⟨t,rfl⟩:=r;rfl
 |str z=>obtain⟨t,rfl⟩:=r;rfl
 |_=>exact absurd (show false=true from f) oz
theorem Qb:∀{xs:List V} {us:List Value},Ag xs us->xs.all HN=true->us.any (Ho x)=xs.any λy=>Hk y x
 |_,_,.nil,_=>rfl
 |y :: xs,u :: us,.cons r t,f=>by
  rw[xW,pA]at f;rw[tY,tY,Vu r f.1,Qb t f.2]
theorem P0(I:Av x v)(F:HN x=true):∀{xs:List V} {us:List Value},Ag xs us->xs.all HN=true->∀u∈us,qp A s u v (Ho x u)
 |_,_,.nil,_=>λu hu=>by cases hu
 |y :: xs,u :: us,.cons r t,f=>λJ hu=>by
  rw[xW,pA]at f;rcases nZ.mp hu with rfl|hu
  ·rw[Vu r f.1];exact i4 r I f.1 F
  ·exact P0 I F t f.2 J hu
def Ol(x:V)(xs:List V):Bool:=xs.any λy=>Hk y x
def mJ(K:nI)(F:Bool):R2:=λx y H Q=>∃p xs,y=.ref p/\(AR K H p xs\/AJ K H p xs)/\HN x=true/\xs.all HN=true/\Q (.bl (if F then !Ol x xs else Ol x xs)) H
theorem Yj:Bg X (qP .In) (mJ X.K false):=by
 intro ga s σ H x y v u Q I O ry h;obtain⟨p,xs,rfl,hq,fx,fs,q⟩:=h;cases ry;rcases hq with hq|hq
 ·obtain⟨F,r,pl,hz⟩:=I.list hq;refine SeqAt.in_listAt (Ho x) pl.isList (λw J=>P0 O fx r fs w (by simpa using J)) ⟨.bl _,H,I,U,?_⟩;rw[show F.toArray.any (Ho x)=F.any (Ho x) by simp,Qb r fs];exact q
 ·obtain⟨F,r,pl,hz⟩:=I.tuple hq;refine SeqAt.in_tupleAt (Ho x) pl (λw J=>P0 O fx r fs w (by simpa using J)) ⟨.bl _,H,I,U,?_⟩;rw[show F.toArray.any (Ho x)=F.any (Ho x) by simp,Qb r fs];exact q
inductive Kr(K:nI)(xs:List V)(H:Hp)(Q:VK):Prop
 |mk (p:Addr) (ys:List V) (e:xs=[.ref p]) (s:AR K H p ys\/AJ K H p ys) (q:Q (.int ys.length) H):Kr K xs H Q
theorem Ry:DJ X (.builtin "len") (Kr X.K):=by
 intro ga s σ H xs us Q I r h;obtain⟨p,ys,rfl,hq,q⟩:=h;obtain⟨u,rfl,J⟩:=IL r;cases J;have hn:=Lo;rcases hq with hq|hq
 ·obtain⟨aa,r',pl,O⟩:=I.list hq;have F:=r'.length;exact Calls.call_len_list pl.isList (by simp only[n8]<;>lia) ⟨.int ys.length,H,I.DG _,⟨s.toks+1,by rw[n8,F]⟩,q⟩
 ·obtain⟨aa,r',pl,O⟩:=I.tuple hq;have F:=r'.length;exact len_tuple pl (by simp only[n8]<;>lia) ⟨.int ys.length,H,I.DG _,⟨s.toks+1,by rw[n8,F]⟩,q⟩
theorem DJ.or(h:DJ X f r)(h':DJ X f r'):DJ X f (λxs H Q=>r xs H Q\/r' xs H Q):=by
 intro ga s σ H xs us Q I rs q;rcases q with q|q
 ·exact h ga s σ H xs us Q I rs q
 ·exact h' ga s σ H xs us Q I rs q
theorem X0:DJ X (.type "list") (λxs H Q=>∃p ys,xs=[.ref p]/\(AR X.K H p ys\/AJ X.K H p ys)/\∀l,H l=none->Q (.ref l) (AF H l (.AE ys))):=by
 intro ga s σ H xs us Q I r h;obtain⟨p,ys,rfl,hq,q⟩:=h;obtain⟨u,rfl,rx⟩:=IL r;cases rx;have aa:∀(F:List Value),Ag ys F->ys.length<=og->∀(h':Heap) (J:Nat),(∀b o',s.heap.get? b=some o'->h'.get? b=some o') →
   h'.get? s.heap.objs.size=some { cls:=.type "list",dict:=none,data:=.seq F.toArray J,slots:=#[]}->EP X ga σ Q (.ref s.heap.objs.size) { s with heap:=h'}:=λF r' O h' J kp e =>
  ⟨.ref s.heap.objs.size,_,I.Dt (t':=s.toks) kp (nG _) (show Bx X.prog X.w _ h' _ (.AE ys) from ⟨O,F,J,r',e⟩),U,q _ (I.Ap.CB (nG _))⟩
 rcases hq with hq|hq
 ·obtain⟨F,r',pl,O⟩:=I.list hq;have ab:=r'.length;obtain⟨o,ho,hc,n,hd⟩:=pl.isList;exact call_list_seq p (.inl rfl) ho hc hd (λh' J kp e=>aa F r' O h' J kp e) (by simp only[n8]<;>lia)
 ·obtain⟨F,r',pl,O⟩:=I.tuple hq;have ab:=r'.length;obtain⟨o,ho,hc,n,hd⟩:=pl;exact call_list_seq p (.inr rfl) ho hc hd (λh' J kp e=>aa F r' O h' J kp e) (by simp only[n8]<;>lia)
theorem Xs:DJ X (.type "tuple") (λxs H Q=>∃p ys,xs=[.ref p]/\((AR X.K H p ys/\∀l,H l=none->Q (.ref l) (AF H l (.AG ys)))\/(AJ X.K H p ys/\Q (.ref p) H))):=by
 intro ga s σ H xs us Q I r h;obtain⟨p,ys,rfl,h⟩:=h;obtain⟨u,rfl,rx⟩:=IL r;cases rx;rcases h with ⟨F,q⟩|⟨F,q⟩
 ·obtain⟨J,r',pl,hz⟩:=I.list F;have aa:=r'.length;refine call_tuple_list pl.isList (λh' kp=>?_) (by simp only[n8] <;> omega);have O:AI X ga σ H { s with heap:=h' }:=I.CG (t':=s.toks) kp;have I2:AI X ga σ (AF H h'.objs.size (.AG ys)) { s with heap:=h'.push { cls:=.type "tuple",data:=.seq J.toArray } } :=
   O.Dt (t':=s.toks) (λb o e=>nN _ e) (nG _) (show Bx X.prog X.w _ _ _ (.AG ys) from ⟨hz,J,r',yu _ _,_,oF _ rfl,U⟩)
  exact⟨.ref h'.objs.size,_,I2,U,q _ (O.Ap.CB (nG _))⟩
 ·obtain⟨J,r',pl,hz⟩:=I.tuple F;exact call_tuple_same pl ⟨.ref p,H,I,U,q⟩
def MN(K:nI)(T:String)(x:V)(H:Hp):Prop:=match x with
 |.str _=>T="str"
 |.int _=>T="int"
 | .ref p=>(T="list"/\∃xs,AR K H p xs)\/(T="tuple"/\∃o,K.lookup p=some o/\o.cls=.type "tuple"/\o.dict=none) \/
   (T="dict"/\((∃ge,H p=some (.dK ge))\/∃ge,H p=some (.dT ge)))\/(T="set"/\∃S n,H p=some (.set S n))
 |_=>False
theorem jj(I:AI X ga σ H s)(r:Av x v)(ty:MN X.K T x H):
  s.TypeIs v T/\∀a,v=.ref a->∃O,s.heap.get? a=some O/\O.dict=none:=by
 cases x with
 |str z =>
  obtain⟨t,rfl⟩:=r;cases (show T="str" from ty);exact⟨typeIs_str s z t,λ_ e=>nomatch e⟩
 |int i =>
  obtain⟨t,rfl⟩:=r;cases (show T="int" from ty);exact⟨aad s i t,λ_ e=>nomatch e⟩
 |ref p =>
  cases r;rcases ty with ⟨rfl,xs,hq⟩|⟨rfl,o,F,hc,hd⟩|⟨rfl,F⟩|⟨rfl,S,n,F⟩
  ·obtain⟨aa,_,pl,_⟩:=I.list hq;refine⟨pl.isList.typeIs,λa e=>?_⟩;cases e;obtain⟨o,n,e,c,hd,_⟩:=pl;exact⟨o,e,hd⟩
  ·refine⟨⟨o,I.Dh p o F,hc⟩,λa e=>?_⟩;cases e;exact⟨o,I.Dh _ o F,hd⟩
  ·have z:∃o,s.heap.get? p=some o/\o.ExactDict:=by
    rcases F with ⟨ge,F⟩|⟨ge,F⟩
    ·obtain⟨_,_,_,_,o,_,_,e,ex,_⟩:=I.Ap p _ F;exact⟨o,e,ex⟩
    ·obtain⟨_,_,_,_,o,_,_,e,ex,_⟩:=I.Ap p _ F;exact⟨o,e,ex⟩
   obtain⟨o,e,ex⟩:=z;refine⟨⟨o,e,ex.1⟩,λa J=>?_⟩;cases J;exact⟨o,e,ex.2.1⟩
  ·obtain⟨o,_,_,_,e,ex,_⟩:=I.Ap p _ F;refine⟨⟨o,e,ex.1⟩,λa J=>?_⟩;cases J;exact⟨o,e,ex.2.1⟩
 |_=>exact qj ty
def XW(K:nI)(T:String)(r:V->List V->Hp->VK->Prop)(to:TE)(t:TA):TE:=λσ H Q=>to σ H λx H1=>MN K T x H1/\t σ H1 λxs H2=>r x xs H2 Q
variable {o:Expr}{es:List Expr}{to:TE}{t:TA}{name:Str}{apos cpos:Pos}{T id:String}{r:V->List V->Hp->VK->Prop}
theorem jr (pa:PlainAttrs T)(ae:Slot T name id)(af:typeOf (.builtin id)=pure (.type "method_descriptor"))(hm:Ks X id r)(ho:PE X o to)(ha:PA X (e :: es) t)
  (ad:vW o name X.env (eval o X.env)=eval o X.env:=by rfl)
  (ab:((rW cpos (oG (e :: es) X.env)).all (λx=>!x.1) && (zL cpos (xm [] X.env)).all (λx=>x.1.isSome)
   && decide ((e :: es).length+([]:List uT).length+(if ([]:List uT).isEmpty then 0 else 1)<30))=true:=by rfl)
  (ac:(apos.endLine == cpos.line)=true:=by rfl)(hs:oG (e :: es) X.env=(false,eval e X.env) :: oG es X.env:=by rfl)(aa:(rW cpos (oG es X.env)).any (·.1)=false:=by rfl) :
  PE X (.Call (.Attribute o name apos) (e :: es) [] cpos) (XW X.K T r to t):=by
 intro ga s σ H Q I h;refine wpAny_Call_method_late ad ab ac rfl (Af (ho ga s σ H _ I h) λv s1 ⟨x,H1,J,F,ty,q1⟩=>?_);obtain⟨h1,h2⟩:=jj J F ty;exists T,id,pa,ae,af,h1,h2;have O:=ha cpos ga s1 σ H1 _ J q1;rw[hs]at O ⊢;refine Calls.callWith_builtin (by show(false || (rW cpos (oG es X.env)).any (·.1))=false;rw[aa]<;>rfl) (Calls.evalArgs_plain ?_);exact Af O λus s2 ⟨vs,H2,I2,r2,q2⟩=>hm ga s2 σ H2 x vs v us Q I2 F r2 q2
end
def MR(X:Cx)(id:String)(r:V->List V->Hp->VK->Prop):Prop :=
 ∀(ga:List (Addr×Obj)) (s:nP) (σ:St) (H:Hp) (x:V) (xs:List V) (v:Value) (us:List Value) (Q:VK),AI X ga σ H s->Av x v->Ag xs us->r x xs H Q →
  wpAny (model X.prog X.w) X.A (call (.builtin id) (v :: us)) (EP X ga σ Q) X.xe s
theorem Ag.Ah:∀{x:V} {us:List Value},Ag [x] us->∃u,us=[u]/\Av x u
 |_,_,.cons r .nil=>⟨_,U,r⟩
theorem Ag.Bn:∀{x y:V} {us:List Value},Ag [x,y] us->∃u v,us=[u,v]/\Av x u/\Av y v
 |_,_,_,.cons r (.cons q .nil)=>⟨_,_,U,r,q⟩
theorem Ag.zero:∀{us:List Value},Ag [] us->us=[]
 |_,.nil=>rfl
theorem Ag.dropLast(h:Ag xs us):Ag xs.dropLast us.dropLast:=by
 induction h with
 |nil=>exact .nil
 |cons r t ih =>
  cases t with
  |nil=>exact .nil
  |cons q t'=>exact .cons r ih
theorem Ag.eraseIdx:∀{xs:List V} {us:List Value} (i:Nat),Ag xs us->Ag (xs.eraseIdx i) (us.eraseIdx i)
 |_,_,_,.nil=>.nil
 |_,_,0,.cons _ t=>t
 |_,_,i+1,.cons r t=>.cons r (Ag.eraseIdx i t)
theorem Ag.reverse(h:Ag xs us):Ag xs.reverse us.reverse:=by
 induction h with
 |nil=>exact .nil
 |cons r t ih=>rw[y9,y9];exact Ag.append ih (.cons r .nil)
theorem Ag.Xg(h:Ag xs us):∀k:Nat,Ag (nQ k xs).flatten (nQ k us).flatten
 |0=>.nil
 |k+1=>by
  rw[o8,o8,oN,oN];exact Ag.append h (Ag.Xg h k)
theorem Sw{α:Type}:∀(l:List α) (i:Nat),(l.eraseIdx i).length<=l.length
 |[],_=>nG _
 |_ :: _,0=>Nat.le_succ _
 |_ :: r,i+1=>Nat.succ_le_succ (Sw r i)
theorem Sn(F:List Value):∀(k:Nat) (I:List Value),
  uB (λJ O=>J++O) I.toArray (nQ k F.toArray)=(I++(nQ k F).flatten).toArray
 |0,I=>by simp
 |k+1,I=>by
  have e:I.toArray++F.toArray=(I++F).toArray:=by simp
  have e2:(I++F)++(nQ k F).flatten=I++(nQ (k+1) F).flatten:=by
   rw[o8,oN,pG]
  rw[<-e2,<-Sn F k (I++F),<-e,o8,wW]
section
variable {X:Cx}{ga:List (Addr×Obj)}{σ:St}{H:Hp}{s:nP}{l b:Addr}{xs ys zs:List V}
theorem AI.Oa {F its':List Value}{n:Nat}{f:Array Value->Array Value}{t':Nat}(I:AI X ga σ H s)(O:H l=some (.AE xs))
  (e:s.heap.get? l=some { cls:=.type "list",data:=.seq F.toArray n})(hf:f F.toArray=its'.toArray)(hv:Ag ys its')(hz:ys.length<=og) :
  AI X ga σ (AF H l (.AE ys)) { s with heap:=s.heap.update l (wu f),toks:=t'}:=by
 have q:=PySem.IsL.update e f;rw[hf]at q;refine I.JN (x:=l) (e:=l) (by rw[O];exact trivial) (.inl rfl) (λb' u hb J=>(uK s.heap (wu f) (rN hb)).trans J) ⟨_,q⟩ ?_;exact⟨hz,its',_,hv,q⟩
theorem AI.Wz(I:AI X ga σ H s)(O:Ag ys F)(J:ys.length<=og):
  AI X ga σ (AF H s.heap.objs.size (.AE ys)) { s with heap:=s.heap.push { cls:=.type "list",data:=.seq F.toArray},toks:=t'} :=
 I.Dt (λ_ _ q=>nN _ q) (nG _) ⟨J,F,0,O,oF _ rfl⟩
theorem AI.CB(I:AI X ga σ H s):H s.heap.objs.size=none:=I.Ap.CB (nG _)
theorem AI.F2(I:AI X ga σ H s)(J:H l=some (.AE xs)):xs.length<=og/\∃(F:List Value) (n:Nat),Ag xs F/\xs.length=F.length/\s.heap.get? l=some { cls:=.type "list",data:=.seq F.toArray n}:=by
 obtain⟨z,F,n,r,e⟩:=I.Ap l _ J;exact⟨z,F,n,r,r.length,e⟩
theorem Tq(h:n<=og):sO n=false:=by
 unfold sO;exact qB (by lia)
end
section
variable {X:Cx}
inductive Wy(x:V)(F:List V)(H:Hp)(Q:VK):Prop
 |mk (l:Addr) (xs:List V) (y:V) (J:x=.ref l) (I:F=[y]) (h:H l=some (.AE xs)) (n:xs.length<og) (q:Q .BE (AF H l (.AE (xs++[y])))):Wy x F H Q
def eU:V->List V->Hp->VK->Prop:=λx F H Q=>Wy x F H Q
theorem FG:MR X "list.append" eU:=by
 intro ga s σ H x vs v us Q I rx rv h;obtain⟨l,xs,y,rfl,rfl,J,hz,q⟩:=h;cases rx;obtain⟨u,rfl,ru⟩:=rv.Ah;obtain⟨z,O,n,r,hl,e⟩:=I.F2 J;refine uD F.slot_list_append ⟨_,e,U⟩ F.entry_list_append (F.args_list_append_2 _ _) (PySem.list_append l O.toArray n u (by rw[n8];lia)) ⟨e,?_⟩;refine⟨.BE,_,I.Oa (its':=O++[u]) J e (by simp) (r.append (.cons ru .nil)) ?_,U,q⟩;rw[nO,pw]
 lia
def fQ:V->List V->Hp->VK->Prop:=λx F H Q=>∃l b xs zs,x=.ref l/\F=[.ref b]/\H l=some (.AE xs)/\H b=some (.AE zs)/\xs.length+zs.length<=og/\Q .BE (AF H l (.AE (xs++zs)))
theorem Yx:MR X "list.extend" fQ:=by
 intro ga s σ H x vs v us Q I rx rv h;obtain⟨l,b,xs,zs,rfl,rfl,hH,hB,hz,q⟩:=h;cases rx;obtain⟨u,rfl,ru⟩:=rv.Ah;cases ru;obtain⟨z,J,n,r,hl,e⟩:=I.F2 hH;obtain⟨z2,O,n2,r2,ab,e2⟩:=I.F2 hB;have hsz:J.toArray.size+O.toArray.size<=og:=by rw[n8,n8];lia
 have aa:¬(!J.toArray.isEmpty && sO (J.toArray.size+O.toArray.size))=true:=by
  rw[Tq hsz,Bool.and_false];exact oz
 refine uD F.slot_list_extend ⟨_,e,U⟩ F.entry_list_extend (F.args_list_extend_2 _ _)
  (AutoSeq1.list_extend_list_list_0 l J.toArray n b O.toArray n2 aa (by rw[n8];lia) (by lia)) ⟨e,e2,?_⟩
 refine⟨.BE,_,I.Oa (its':=J++O) hH e (by simp) (r.append r2) ?_,U,q⟩;rw[nO]
 lia
def iy:V->List V->Hp->VK->Prop:=λx F H Q=>∃l xs i k y,x=.ref l/\F=[.int i]/\H l=some (.AE xs)/\-(2 ^ 63)<=i/\i<2 ^ 63/\seqIndex? i xs.length=some k/\xs[k]?=some y/\Q y (AF H l (.AE (xs.eraseIdx k)))
theorem Zz:MR X "list.pop" iy:=by
 intro ga s σ H x vs v us Q I rx rv h;obtain⟨l,xs,i,k,y,rfl,rfl,O,h1,h2,hk,hy,q⟩:=h;cases rx;obtain⟨u,rfl,ru⟩:=rv.Ah;obtain⟨t,rfl⟩:=ru;obtain⟨z,J,n,r,hl,e⟩:=I.F2 O;obtain⟨w,hw,aa⟩:=r.BZ hy;refine uD F.slot_list_pop ⟨_,e,U⟩ F.entry_list_pop (F.args_list_pop_2 _ _)
  (MeetsSeq.list_pop_at l J.toArray n i t k w (fitsIndex_both h1 h2) (by rw[n8,<-hl];exact hk) (by rw[<-Array.getElem?_toList];exact hw) (by rw[n8];lia)) ⟨e,?_⟩
 refine⟨y,_,I.Oa (its':=J.eraseIdx k) O e ?_ (r.eraseIdx k) ?_,aa,q⟩
 ·show J.toArray.eraseIdxIfInBounds k=(J.eraseIdx k).toArray;rw[List.eraseIdxIfInBounds_toArray]
 ·have:=Sw xs k
  lia
inductive XG(x y:V)(H:Hp)(Q:VK):Prop
 |mk (l b:Addr) (xs zs:List V) (I:x=.ref l) (F:y=.ref b) (h1:H l=some (.AE xs)) (h2:H b=some (.AE zs)) (n:xs.length+zs.length<=og) (q:∀p,H p=none->Q (.ref p) (AF H p (.AE (xs++zs)))):XG x y H Q
def lg:R2:=λx y H Q=>XG x y H Q
theorem OE:Bg X (rK .Add) lg:=by
 intro ga s σ H x y v u Q I O ry h;obtain⟨l,b,xs,zs,rfl,rfl,hH,hB,hz,q⟩:=h;cases O;cases ry;obtain⟨z,J,n,r,hl,e⟩:=I.F2 hH;obtain⟨z2,F,n2,r2,aa,e2⟩:=I.F2 hB;refine PySem.P.add_list e e2 ?_ (by rw[n8,n8];omega);have ea:J.toArray++F.toArray=(J++F).toArray:=by simp
 rw[ea];exact⟨.ref _,_,I.Wz (t':=s.toks) (r.append r2) (by rw[nO];omega),U,q _ I.CB⟩
def XE:R2:=λx y H Q=>∃l k xs,x=.ref l/\y=.int k/\H l=some (.AE xs)/\-(2 ^ 63)<=k/\k<2 ^ 63/\xs.length*k.toNat<=og /\
 ∀p,H p=none->Q (.ref p) (AF H p (.AE (nQ k.toNat xs).flatten))
theorem gB{α:Type}(xs:List α)(k:Nat):(nQ k xs).flatten.length=k*xs.length:=by
 induction k with
 |zero=>simp
 |succ k ih=>rw[o8,oN,nO,ih,Nat.succ_mul,r8]
theorem iN:Bg X (rK .Mult) XE:=by
 intro ga s σ H x y v u Q I rx ry h;obtain⟨l,k,xs,rfl,rfl,hH,h1,h2,hz,q⟩:=h;cases rx;obtain⟨t,rfl⟩:=ry;obtain⟨z,J,n,r,hl,e⟩:=I.F2 hH;have ac:J.toArray.size*k.toNat<=og:=by rw[n8,<-hl];exact hz
 have aa:¬J.toArray.size*k.toNat>(2 ^ 63-1) / 8:=by
  have:(og:Nat)<=(2 ^ 63-1) / 8:=by decide
  lia
 have ad:¬(!Builtin.List.listFitsIndex k)=true:=by
  rw[fitsIndex_both h1 h2];exact oz
 have ab:¬sO (J.toArray.size*k.toNat)=true:=by
  rw[Tq ac];exact oz
 have ae:uB (λO x2=>O++x2) #[] (nQ (if J.toArray.isEmpty=true then 0 else k.toNat) J.toArray)=(nQ k.toNat J).flatten.toArray:=by
  have f0:∀m:Nat,uB (λO x2=>O++x2) #[] (nQ m J.toArray)=(nQ m J).flatten.toArray:=λm=>by
   have:=Sn J m []
   rw[uc]at this;exact this
  rw[f0];cases J with
  |nil=>simp
  |cons a r'=>rw[nv (by simp)]
 refine wpAny_binaryOp_repeat_ref (T:="list") (U:="int") (by decide) ⟨_,e,rfl⟩ (λs'=>aad s' k t) noFill_list_mul F.fills_int_mul zN repeat_list F.slot_int_index.lookup
  (uD zN (aad s k t) F.entry_int_rmul (F.args_int_rmul_2 _ _) (int___rmul___int_list k t l J.toArray n)
   ⟨e,rfl,⟨_,e,rfl⟩,uD F.slot_list_mul ⟨_,e,rfl⟩ F.entry_list_mul (F.args_list_mul_2 _ _) (AutoListH.list___mul___list_int_3 l J.toArray n k t ad aa ab) ⟨e,?_⟩⟩)
 rw[ae];exact⟨.ref _,_,I.Wz (t':=s.toks) (r.Xg k.toNat) (by rw[gB,uo];exact hz),rfl,q _ I.CB⟩
end
section
variable {prog:oT}{w:World}{A:qu}{E:Value->nP->Prop}{s:nP}
end
section
variable {X:Cx}
end
section
variable {κ:Type}[DecidableEq κ]
def Cj(ge:List (κ×V))(k:κ):Option V:=(ge.find? λF=>decide (F.1=k)).map (·.2)
def B4(ge:List (κ×V))(k:κ)(v:V):List (κ×V) :=
 if (ge.any λF=>decide (F.1=k))=true then ge.map (λF=>if F.1=k then (F.1,v) else F) else ge++[(k,v)]
def WK(ge:List (κ×V))(k:κ):List (κ×V):=ge.filter λF=>decide (F.1≠k)
theorem Jv{p:κ×V}{k:κ}(e:p.1=k):Cj (p :: r) k=some p.2:=by simp[Cj,tj,e]
theorem Iq{p:κ×V}{k:κ}(e:¬p.1=k):Cj (p :: r) k=Cj r k:=by simp[Cj,tj,e]
theorem NN(k:κ):∀ge:List (κ×V),(ge.any λF=>decide (F.1=k))=(Cj ge k).isSome
 |[]=>rfl
 |p :: r=>by
  rw[tY];by_cases e:p.1=k
  ·simp only[Jv e,qm e,Bool.true_or,Option.isSome_some]
  ·rw[Iq e,qB e,Bool.false_or];exact NN k r
theorem PH(ge:List (κ×V))(k:κ)(v:V):(B4 ge k v).length<=ge.length+1:=by
 unfold B4;split
 ·rw[nc];lia
 ·rw[nO,oA,rA];lia
theorem E7.LB(r:E7 o u):o.isSome=u.isSome:=by
 cases o with
 |none=>cases u with
  |none=>rfl
  |some _=>exact(show False from r).elim
 |some _=>cases u with
  |none=>exact(show False from r).elim
  |some _=>rfl
theorem E7.getD(r:E7 o u)(F:Av d d'):Av (o.getD d) (u.getD d'):=by
 cases o with
 |none=>cases u with
  |none=>exact F
  |some _=>exact(show False from r).elim
 |some _=>cases u with
  |none=>exact(show False from r).elim
  |some _=>exact r
theorem KV.IZ(r:KV ge vs)(k:κ):E7 (Cj ge k) (wA vs k):=by
 unfold KV at r
 induction r with
 |nil=>exact rZ
 |@cons p q ps qs h t ih =>
  obtain⟨h1,h2⟩:=h;by_cases e:p.1=k
  ·have F:q.1=k:=h1.symm.trans e;have b:wA (q :: qs) k=some q.2:=by simp[wA,tj,F]
   rw[Jv e,b];exact h2
  ·have F:¬q.1=k:=λz=>e (h1.trans z)
   have b:wA (q :: qs) k=wA qs k:=by simp[wA,tj,F]
   rw[Iq e,b];exact ih
theorem KV.any(r:KV ge vs)(k:κ):(ge.any λF=>decide (F.1=k))=vs.any λF=>decide (F.1=k):=by
 unfold KV at r
 induction r with
 |nil=>rfl
 |cons h t ih=>rw[tY,tY,ih,h.1]
theorem KV.RH(r:KV ge vs)(k:κ)(I:Av y u):
  KV (ge.map λF=>if F.1=k then (F.1,y) else F) (vs.map λF=>if F.1=k then (F.1,u) else F):=by
 unfold KV at r ⊢
 induction r with
 |nil=>exact .nil
 |@cons p q ps qs h t ih =>
  rw[nK,nK];refine .cons ?_ ih;obtain⟨h1,h2⟩:=h;by_cases e:p.1=k
  ·rw[nF e,nF (h1.symm.trans e)];exact⟨h1,I⟩
  ·rw[nv e,nv (λz=>e (h1.trans z))];exact⟨h1,h2⟩
theorem KV.E8(r:KV ge vs)(k:κ)(F:Av y u):KV (B4 ge k y) (stored vs k u):=by
 unfold B4 stored;rw[r.any k];by_cases e:(vs.any λI=>decide (I.1=k))=true
 ·rw[nF e,nF e];exact r.RH k F
 ·rw[nv e,nv e];exact uv.snoc r ⟨U,F⟩
theorem KV.drop(r:KV ge vs)(k:κ):KV (WK ge k) (without vs k):=by
 unfold KV at r ⊢;unfold WK without
 induction r with
 |nil=>exact .nil
 |@cons p q ps qs h t ih =>
  obtain⟨h1,h2⟩:=h;rw[zA,zA];by_cases e:p.1=k
  ·have a:¬decide (p.1≠k)=true:=by simp[e]
   have b:¬decide (q.1≠k)=true:=by simp[h1.symm.trans e]
   rw[nv a,nv b];exact ih
  ·have F:¬q.1=k:=λz=>e (h1.trans z)
   have a:decide (p.1≠k)=true:=by simp[e]
   have b:decide (q.1≠k)=true:=by simp[F]
   rw[nF a,nF b];exact .cons ⟨h1,h2⟩ ih
theorem KV.keys{ge:List (κ×V)}(r:KV ge vs):ge.map (·.1)=vs.map (·.1):=by
 unfold KV at r
 induction r with
 |nil=>rfl
 |cons h t ih=>rw[nK,nK,ih,h.1]
theorem KV.length{ge:List (κ×V)}(r:KV ge vs):ge.length=vs.length:=xX r
end
theorem Kd(r:Av (kV k) u):(D6 P w).is k u=true:=by
 cases k with
 |inl i=>obtain⟨t,e⟩:=(show ∃t,u=yP i t from r);subst e;exact YH P w i t
 |inr x=>obtain⟨t,e⟩:=(show ∃t,u=yQ x t from r);subst e;exact YF P w x t
theorem SS:∀{ks:List Ai} {us:List Value},Ag (ks.map kV) us->ItemsAre (D6 P w) ks us
 |[],_,r=>by rw[pE]at r;cases r;exact .nil
 |k :: ks,_,r=>by
  rw[nK]at r;cases r with
  |cons h t=>exact .cons (Kd h) (SS t)
abbrev KT(H:Hp):List (List Ai×V)->List (List Ai×Addr×Value)->Prop:=uv λp q=>p.1=q.1/\H q.2.1=some (.AG (p.1.map kV))/\Av p.2 q.2.2
theorem KT.IZ(r:KT H ge xs)(k:List Ai):E7 (Cj ge k) ((atKey xs k).map (·.2)):=by
 induction r with
 |nil=>exact rZ
 |@cons p q ps qs h t ih =>
  obtain⟨h1,_,h2⟩:=h;by_cases e:p.1=k
  ·have F:q.1=k:=h1.symm.trans e;have b:atKey (q :: qs) k=some q.2:=by simp[atKey,tj,F]
   rw[Jv e,b];exact h2
  ·have F:¬q.1=k:=λz=>e (h1.trans z)
   have b:atKey (q :: qs) k=atKey qs k:=by simp[atKey,tj,F]
   rw[Iq e,b];exact ih
theorem KT.RH(r:KT H ge xs)(k:List Ai)(I:Av y u):
  KT H (ge.map λF=>if F.1=k then (F.1,y) else F) (xs.map (putAt k u)):=by
 induction r with
 |nil=>exact .nil
 |@cons p q ps qs h t ih =>
  rw[nK,nK];refine .cons ?_ ih;obtain⟨h1,h2,J⟩:=h;unfold putAt;by_cases e:p.1=k
  ·rw[nF e,nF (h1.symm.trans e)];exact⟨h1,h2,I⟩
  ·rw[nv e,nv (λz=>e (h1.trans z))];exact⟨h1,h2,J⟩
theorem KT.E8(r:KT H ge xs)(k:List Ai)(J:H b=some (.AG (k.map kV)))(F:Av y u):
  KT H (B4 ge k y) (storedH xs k b u):=by
 have e:(ge.any λI=>decide (I.1=k))=(atKey xs k).isSome:=by
  rw[NN,(r.IZ k).LB,wj]
 unfold B4 storedH;rw[e];by_cases q:(atKey xs k).isSome=true
 ·rw[nF q,nF q];exact r.RH k F
 ·rw[nv q,nv q];exact uv.snoc r ⟨U,J,F⟩
theorem KT.keeps(r:KT H ge xs)(F:∀b ys,H b=some (.AG ys)->H' b=some (.AG ys)):KT H' ge xs :=
 uv.RY r λ_ _ z=>⟨z.1,F _ _ z.2.1,z.2.2⟩
section
variable {P:oT}{w:World}{H:Hp}{h:Heap}{a:Addr}
theorem Wl(F:B7 P w H h)(e:Rd H a u):Bx P w H h a u:=e.ok F
theorem Kc(I:B7 P w H h)(e:Rd H a (.dK ge)):ge.length<=og/\(a == sI)=false/\∃F,KV ge F/\h.DictOf (D6 P w) a F :=
 show Bx P w H h a (.dK ge) from Wl I e
theorem WX(I:B7 P w H h)(e:H a=some (.dK ge)):ge.length<=og/\(a == sI)=false/\∃F,KV ge F/\h.DictOf (D6 P w) a F:=Kc I (.inl e)
theorem Lj(F:B7 P w H h)(e:H a=some (.AG (ks.map kV))):(wY (D6 P w)).is h ks a:=by
 obtain⟨_,I,r,⟨o,h1,h2,n,J⟩,_⟩:=(show Bx P w H h a (.AG (ks.map kV)) from F a _ e);exact⟨o,I.toArray,n,h1,h2,J,by simpa using SS r⟩
theorem L4(F:B7 P w H h)(e:Rd H a (.dT ge)):ge.length<=og/\(a == sI)=false /\
  ∃xs,KT H ge xs/\h.DictOfH (wY (D6 P w)) a xs:=by
 obtain⟨z,y,xs,r,o,es,O,h1,h2,h3,J,I⟩:=(show Bx P w H h a (.dT ge) from Wl F e);refine⟨z,y,xs,r,o,es,O,h1,h2,h3,J,λx hx=>?_,I⟩;have all:∀{l:List (List Ai×V)} {m:List (List Ai×Addr×Value)},KT H l m->∀x∈m,(wY (D6 P w)).is h x.1 x.2.1:=by
  intro l m q
  induction q with
  |nil=>intro x hx;exact nomatch hx
  |@cons p q ps qs hq t ih =>
   intro x hx;rcases nZ.mp hx with e|hx
   ·subst e;exact Lj F (by rw[<-hq.1];exact hq.2.1)
   ·exact ih x hx
 exact all r x hx
theorem jn(F:B7 P w H h)(e:H a=some (.dT ge)):ge.length<=og/\(a == sI)=false /\
  ∃xs,KT H ge xs/\h.DictOfH (wY (D6 P w)) a xs:=L4 F (.inl e)
end
def DE(H:Hp)(a:Addr)(y:V)(r:Option V):Prop :=
 (∃ge k,Rd H a (.dK ge)/\y=kV k/\r=Cj ge k)\/∃ge k b,Rd H a (.dT ge)/\y=.ref b/\H b=some (.AG (k.map kV))/\r=Cj ge k
def Dw(H:Hp)(a:Addr)(y v:V)(H':Hp):Prop :=
 (∃ge k,H a=some (.dK ge)/\y=kV k/\ge.length<og/\H'=AF H a (.dK (B4 ge k v))) \/
 ∃ge k b,H a=some (.dT ge)/\y=.ref b/\H b=some (.AG (k.map kV))/\ge.length<og/\H'=AF H a (.dT (B4 ge k v))
theorem DE.k{k}(e:H a=some (.dK ge)):DE H a (kV k) (Cj ge k):=.inl ⟨ge,k,.inl e,U,U⟩
theorem DE.t{k}(e:H a=some (.dT ge))(F:H b=some (.AG (k.map kV))):DE H a (.ref b) (Cj ge k):=.inr ⟨ge,k,b,.inl e,U,F,U⟩
theorem Dw.k{k}(e:H a=some (.dK ge))(F:ge.length<og):Dw H a (kV k) v (AF H a (.dK (B4 ge k v))):=.inl ⟨ge,k,e,U,F,U⟩
theorem Dw.t{k}(e:H a=some (.dT ge))(I:H b=some (.AG (k.map kV)))(F:ge.length<og):
  Dw H a (.ref b) v (AF H a (.dT (B4 ge k v))):=.inr ⟨ge,k,b,e,U,I,F,U⟩
section
variable {X:Cx}{ga:List (Addr×Obj)}{σ:St}{H:Hp}{s:nP}{a:Addr}{y v:V}{u r:Value}{o:Option V}{A:qu}{E:Value->nP->Prop}
theorem AI.GC(I:AI X ga σ H s):sI<s.heap.objs.size:=by
 have h:qE<s.heap.objs.size:=(I.DV.Hd.keeps I.bk).lt;exact Nat.lt_trans (by decide) h
theorem Y5(hu:A.units+1<cLine)(I:AI X ga σ H s)(g:DE H a y (some v))(ry:Av y u)(h:∀F s',AI X ga σ H s'->Av v F->Q F s'):
  wpAny (model X.prog X.w) A (vA (.ref a) u) Q E s:=by
 rcases g with ⟨ge,k,e,ey,l⟩|⟨ge,k,b,e,ey,eb,l⟩
 ·subst ey;obtain⟨z,hd,vs,rel,dd⟩:=Kc I.Ap e;obtain⟨F,J,O⟩:=E7.VF (v:=v) (o:=wA vs k) (by rw[l];exact rel.IZ k);exact wpAny_getItem_of (Kd ry) dd.mapOf J (h F _ (I.DG _) O)
 ·subst ey;cases (show u=qw b from ry);obtain⟨z,hd,xs,rel,dd⟩:=L4 I.Ap e;obtain⟨F,J,O⟩:=E7.VF (v:=v) (o:=(atKey xs k).map (·.2)) (by rw[l];exact rel.IZ k);obtain⟨p,hp,aa⟩:=qN.mp J;refine wpAny_getItem_heap (uA hu) (Lj I.Ap eb) dd hp ?_;rw[aa];exact h F _ (I.DG _) O
theorem mG(hu:A.units+1<cLine)(I:AI X ga σ H s)(g:DE H a y o)(O:Av y u)(h:∀s',AI X ga σ H s'->Q (.bool o.isSome) s'):
  wpAny (model X.prog X.w) A (qP .In u (.ref a)) Q E s:=by
 rcases g with ⟨ge,k,e,J,l⟩|⟨ge,k,b,e,J,eb,l⟩
 ·subst J;obtain⟨z,hd,vs,rel,F⟩:=Kc I.Ap e;refine wpAny_in_of (Kd O) hd F.mapOf ?_;rw[<-(rel.IZ k).LB,<-l];exact h _ (I.DG _)
 ·subst J;cases (show u=qw b from O);obtain⟨z,hd,xs,rel,F⟩:=L4 I.Ap e;refine wpAny_in_heap (uA hu) (Lj I.Ap eb) hd F ?_;have q:=(rel.IZ k).LB;rw[wj]at q;rw[<-q,<-l];exact h _ (I.DG _)
theorem dR(hu:A.units+1<cLine)(I:AI X ga σ H s)(g:DE H a y o)(O:Av y u)(h:∀s',AI X ga σ H s'->Q (.bool (!o.isSome)) s'):
  wpAny (model X.prog X.w) A (qP .NotIn u (.ref a)) Q E s:=by
 rcases g with ⟨ge,k,e,J,l⟩|⟨ge,k,b,e,J,eb,l⟩
 ·subst J;obtain⟨z,hd,vs,rel,F⟩:=Kc I.Ap e;refine wpAny_notIn_of (Kd O) hd F.mapOf ?_;rw[<-(rel.IZ k).LB,<-l];exact h _ (I.DG _)
 ·subst J;cases (show u=qw b from O);obtain⟨z,hd,xs,rel,F⟩:=L4 I.Ap e;refine wpAny_notIn_heap (uA hu) (Lj I.Ap eb) hd F ?_;have q:=(rel.IZ k).LB;rw[wj]at q;rw[<-q,<-l];exact h _ (I.DG _)
theorem QL(I:AI X ga σ H s)(J:MO (H a))(hs:rP a s.heap h')(he:∃q,h'.get? a=some q)(F:Bx X.prog X.w (AF H a ob) h' a ob):
  AI X ga σ (AF H a ob) { s with heap:=h',toks:=t'} :=
 I.JN (x:=a) (e:=a) J (.inl rfl) (λb q O z=>(hs.2 b O).trans z) he F
theorem Vp(z:ge.length<=og)(hd:(a == sI)=false)(rel:KV ge vs)(F:h'.DictOf (D6 P w) a vs):
  Bx P w H' h' a (.dK ge):=⟨z,hd,vs,rel,F⟩
theorem ZO(hu:A.units+1<cLine)(I:AI X ga σ H s)(g:Dw H a y v H')(ry:Av y u)(rv:Av v r)(h:∀s',AI X ga σ H' s'->Q () s'):
  wpAny (model X.prog X.w) A (setItem (.ref a) u r) Q E s:=by
 rcases g with ⟨ge,k,e,ey,l,eH⟩|⟨ge,k,b,e,ey,eb,l,eH⟩
 ·subst ey eH;obtain⟨z,hd,vs,rel,dd⟩:=WX I.Ap e;have hz:vs.length<=og:=by rw[<-rel.length];exact z
  have O:(B4 ge k v).length<=og:=by have:=PH ge k v;lia
  refine wpAny_setItem_pairs (hsz:=hz) (Kd ry) dd λh' J hs=>h _ ?_
  have he:∃q,h'.get? a=some q:=let ⟨q,_,_,F,_⟩:=J;⟨q,F⟩
  exact QL I (by rw[e];exact rZ) hs he (Vp O hd (rel.E8 k rv) J)
 ·subst ey eH;cases (show u=qw b from ry);obtain⟨z,hd,xs,rel,dd⟩:=jn I.Ap e;have hz:xs.length<=og:=by rw[<-Paired.length rel];exact z
  have O:(B4 ge k v).length<=og:=by have:=PH ge k v;lia
  refine wpAny_setItem_heap (hsz:=hz) (uA hu) (Lj I.Ap eb) dd λh' J hs=>h _ ?_
  obtain⟨q,es,ep,F,h2,h3,h4,_,h5⟩:=J;refine QL I (by rw[e];exact rZ) hs ⟨q,F⟩ ⟨O,hd,_,(rel.E8 k eb rv).keeps λc ys ec=>?_,q,es,ep,F,h2,h3,h4,h5⟩;rw[As (jw ec e (λz=>nomatch z))];exact ec
end
section
variable {X:Cx}{ga:List (Addr×Obj)}{σ:St}{H:Hp}{s:nP}{a:Addr}{ge:List (Ai×V)}{k:Ai}{u:Value}{A:qu}{E:Value->nP->Prop}
theorem kB(I:AI X ga σ H s)(e:Rd H a (.dK ge))(h:∀t s',AI X ga σ H s'->Q (.int ge.length t) s'):wpAny (model X.prog X.w) A (call (.builtin "len") [.ref a]) Q E s:=by
 obtain⟨z,hd,J,rel,F⟩:=Kc I.Ap e;refine call_len_dict hd F (by rw[<-rel.length];rw[r6]at z;lia) ?_;rw[<-rel.length];exact h _ _ (I.DG _)
end
def RK(i:Expr):Prop:=∀F I,xr i false F I=operate [F,I] (vA F I)
theorem fC {T id:String}
  (hl:typeLookup (.type T) "__getitem__" = pure (some (.builtin id)))(hs:RK slice)
  (h:wpAny (model prog w) A (eval value env) (λo s₁=>wpAny (model prog w) A (eval slice env) (λi F=>F.TypeIs o T/\wpAny (model prog w) A (vA o i) Q E F) E s₁) E s) :
  wpAny (model prog w) A (eval (.Subscript value slice pos) env) Q E s:=by
 refine aaa (qK h (λo s₁ h₁=>qK h₁ (λi F I=>?_) λ_ _ x=>x) λ_ _ x=>x);obtain⟨hT,I⟩:=I;unfold x6;refine nH ?_;rw[getitemInPython_of_ne hT.not_modules];refine nH (wpAny_specialOf hT hl ?_);have J:wpAny (model prog w) A (xr slice false o i) (λr O=>wpAny (model prog w) A (letTemporaryGo value o r >>= λ_=>pure r) Q E O) E F:=by
  rw[hs o i];exact wpAny_operating (qK I (λr O h₃=>nH (wpAny_letTemporaryGo (oy h₃))) λ_ _ x=>x)
 first
  |exact oy (nH J)
  |exact nH (oy (nH J))
  |exact nH J
theorem YD(I:AI X ga σ H s)(g:DE H a y o):s.TypeIs (.ref a) "dict":=by
 rcases g with ⟨ge,k,e,_,_⟩|⟨ge,k,b,e,_,_,_⟩
 ·obtain⟨_,_,J,_,F⟩:=Kc I.Ap e;exact F.typeIs
 ·obtain⟨_,_,xs,_,F⟩:=L4 I.Ap e;exact F.typeIs
inductive Wf(x y:V)(H:Hp)(Q:VK):Prop
 |mk (a:Addr) (v:V) (e:x=.ref a) (d:DE H a y (some v)) (q:Q v H):Wf x y H Q
inductive XJ(x y:V)(H:Hp)(Q:VK):Prop
 |mk (a:Addr) (o:Option V) (e:x=.ref a) (d:DE H a y o) (q:Q (.bl o.isSome) H):XJ x y H Q
inductive WM(x y v:V)(H:Hp)(Q:Hp->Prop):Prop
 |mk (a:Addr) (F:Hp) (e:x=.ref a) (d:Dw H a y v F) (q:Q F):WM x y v H Q
def Ly(td ty:TE):TE:=λσ H Q=>td σ H λx H1=>ty σ H1 λy H2=>Wf x y H2 Q
def mH(ty td:TE):TE:=λσ H Q=>ty σ H λy H1=>td σ H1 λx H2=>XJ x y H2 Q
def fN(ty td:TE):TE:=λσ H Q=>ty σ H λy H1=>td σ H1 λx H2=>∃a o,x=.ref a/\DE H2 a y o/\Q (.bl (!o.isSome)) H2
def Wo(td ty tv:TE):TS:=λD σ H=>tv σ H λv H1=>td σ H1 λx H2=>ty σ H2 λy F=>WM x y v F (D.nx σ)
section
variable {X:Cx}{o i e value:Expr}{pos pos' tpos:Pos}{td ty tv:TE}
theorem ff(hu:X.A.units+1<cLine)(ho:PE X o td)(hi:PE X i ty)(hs:RK i):PE X (.Subscript o i pos) (Ly td ty):=by
 intro ga s σ H Q I h;refine fC PySem.F.slot_dict_getitem.lookup hs (Af (ho ga s σ H _ I h) λu s1 ⟨x,H1,I1,O,q1⟩=>Af (hi ga s1 σ H1 _ I1 q1) λiv s2 ⟨y,H2,J,ry,a,v,ex,g,q2⟩=>?_);subst ex;obtain rfl:u=qw a:=O;exact⟨YD J g,Y5 hu J g ry λw' s3 I3 aa=>⟨v,H2,I3,aa,q2⟩⟩
theorem N5(O:X.A.units+1<cLine)(hi:PE X i ty)(ho:PE X o td):PC X .In i o (mH ty td):=by
 intro ga s σ H Q I h;refine Af (hi ga s σ H _ I h) λiv s1 ⟨y,H1,I1,ry,q1⟩=>Af (ho ga s1 σ H1 _ I1 q1) λu s2 ⟨x,H2,I2,F,a,ov,ex,g,J⟩=>?_
 subst ex;obtain rfl:u=qw a:=F;exact mG O I2 g ry λs3 I3=>⟨.bl ov.isSome,H2,I3,U,J⟩
theorem Mp(O:X.A.units+1<cLine)(hi:PE X i ty)(ho:PE X o td):PC X .NotIn i o (fN ty td):=by
 intro ga s σ H Q I h;refine Af (hi ga s σ H _ I h) λiv s1 ⟨y,H1,I1,ry,q1⟩=>Af (ho ga s1 σ H1 _ I1 q1) λu s2 ⟨x,H2,I2,F,a,ov,ex,g,J⟩=>?_
 subst ex;obtain rfl:u=qw a:=F;exact dR O I2 g ry λs3 I3=>⟨.bl (!ov.isSome),H2,I3,U,J⟩
theorem HD(hu:X.A.units+1<cLine)(ho:PE X o td)(hi:PE X i ty)(hv:PE X value tv)(hs:vO value (some (.Subscript o i pos')) pos.line X.env=pure false):
  PS X (.Assign [.Subscript o i pos'] value pos) (Wo td ty tv):=by
 intro ga s σ H D I h;refine wpAny_Assign_Subscript (Af (hv ga s σ H _ I h) λr s1 ⟨v,H1,I1,rv,q1⟩=>Af (ho ga s1 σ H1 _ I1 q1) λu s2 ⟨x,H2,I2,J,O⟩=>Af (hi ga s2 σ H2 _ I2 O) λiv s3 ⟨y,H3,I3,ry,a,H4,ex,g,F⟩=>?_) hs;subst ex;obtain rfl:u=qw a:=J;exact ZO hu I3 g ry rv λs4 I4=>⟨σ,H4,I4,F⟩
end
theorem TQ(h:Heap)(F:sI<h.objs.size):Bx P w H (h.push { cls:=.type "dict",data:=.dict #[]}) h.objs.size (.dK []) :=
 ⟨pJ _,beq_eq_false_iff_ne.mpr (rN (pV F)),[],.nil,Heap.DictOf.new h⟩
def VI:TE:=λ_ H Q=>∀p,H p=none->Q (.ref p) (AF H p (.dK []))
section
variable {X:Cx}{pos:Pos}
theorem P5:PE X (.Dict [] [] pos) VI:=λga s σ H Q I h =>
 wpAny_Dict_empty ⟨.ref s.heap.objs.size,_,I.Dt (a:=s.heap.objs.size) (o:=.dK []) (t':=s.toks) (λ_ _ q=>nN _ q) (nG _) (TQ s.heap I.GC),U,h _ (I.Ap.CB (nG _))⟩
end
def Qt:List (TE×TE)->St->Hp->(List (V×V)->Hp->Prop)->Prop
 |[],_,H,Q=>Q [] H
 |(tk,tv) :: r,σ,H,Q=>tk σ H λx H1=>tv σ H1 λy H2=>Qt r σ H2 λps F=>Q ((x,y) :: ps) F
abbrev VV:List (V×V)->List (Value×Value)->Prop:=uv λp q=>Av p.1 q.1/\Av p.2 q.2
def Ov(X:Cx)(pos:Pos)(F:List (Option Expr))(I:List Expr)(J:List (TE×TE)):Prop :=
 ∀(ga:List (Addr×Obj)) (s:nP) (σ:St) (H:Hp) (Q:List (V×V)->Hp->Prop),AI X ga σ H s->Qt J σ H Q →
  wpAny (model X.prog X.w) X.A (evalPairs (pairTrees F I X.env pos)) (λO s'=>∃ps H',AI X ga σ H' s'/\VV ps O/\Q ps H') X.xe s
theorem Qa:Ov X pos [] [] []:=λga s σ H Q I h=>pairTrees_nil_walk ⟨[],H,I,.nil,h⟩
theorem NA(hk:PE X k tk)(hv:PE X v tv)(hr:Ov X pos ks vs trs):
  Ov X pos (some k :: ks) (v :: vs) ((tk,tv) :: trs):=λga s σ H Q I h =>
 pairTrees_cons_walk (Af (hk ga s σ H _ I h) λu s1 ⟨x,H1,I1,J,q1⟩=>Af (hv ga s1 σ H1 _ I1 q1) λw2 s2 ⟨y,H2,I2,ry,O⟩=>
  Af (hr ga s2 σ H2 _ I2 O) λws s3 ⟨ps,H3,I3,rel,F⟩=>⟨(x,y) :: ps,H3,I3,.cons ⟨J,ry⟩ rel,F⟩)
def Ez(ge I:List (Ai×V)):List (Ai×V):=I.foldl (λJ F=>B4 J F.1 F.2) ge
theorem KV.j8:∀{I:List (Ai×V)} {rs:List (Ai×Value)} {ge:List (Ai×V)} {F:List (Ai×Value)},KV I rs->KV ge F->KV (Ez ge I) (merged F rs):=by
 intro I rs ge F r;unfold KV at r
 induction r generalizing ge F with
 |nil=>intro q;exact q
 |@cons p q ps qs h t ih =>
  intro J;have e:KV (B4 ge p.1 p.2) (stored F q.1 q.2):=by
   have:=J.E8 p.1 h.2
   rw[<-h.1];exact this
  exact ih e
theorem Rx:∀(F ge:List (Ai×V)),(Ez ge F).length<=ge.length+F.length
 |[],ge=>by show ge.length<=ge.length+0;lia
 |p :: r,ge=>by
  have h1:=Rx r (B4 ge p.1 p.2);have h2:=PH ge p.1 p.2;show(Ez (B4 ge p.1 p.2) r).length<=_;rw[oA];lia
theorem SA:∀{ge:List (Ai×V)} {I:List (Value×Value)},VV (ge.map λF=>(kV F.1,F.2)) I->∃rs,Carries (D6 P w) I rs/\KV ge rs
 |[],_,r=>by rw[pE]at r;cases r;exact⟨[],rZ,.nil⟩
 |p :: ge,_,r=>by
  rw[nK]at r;cases r with
  |@cons a b as bs h t =>
   obtain⟨rs,c,q⟩:=SA (P:=P) (w:=w) t;obtain⟨b1,J⟩:=b;exact⟨(p.1,J) :: rs,⟨Kd h.1,U,c⟩,.cons ⟨U,h.2⟩ q⟩
def j7(I:List (TE×TE)):TE:=λσ H Q=>∀p,H p=none->Qt I σ (AF H p (.dK [])) λps H2=>H2 p=some (.dK [])/\∃ge:List (Ai×V),ps=ge.map (λF=>(kV F.1,F.2))/\ge.length<=15/\Q (.ref p) (AF H2 p (.dK (Ez [] ge)))
theorem Qe (h:Ov X pos keys values trs)(ab:keys.all (·.isSome)=true)(hl:keys.length=values.length)(h0:keys≠[])
  (aa:keys.length<=15):PE X (.Dict keys values pos) (j7 trs):=by
 intro ga s σ H Q I q;have hn:=I.Ap.CB (nG s.heap.objs.size);have I1:=I.Dt (a:=s.heap.objs.size) (o:=.dK []) (h':=s.heap.push { cls:=.type "dict",data:=.dict #[]}) (t':=s.toks) (λ_ _ q=>nN _ q) (nG _) (TQ s.heap I.GC);refine wpAny_Dict_walk (knd:=D6 X.prog X.w) ab hl h0 aa (Af (h ga _ σ _ _ I1 (q _ hn)) λws s2 ⟨ps,H2,F,rel,e,ge,ep,lk,q2⟩=>?_);subst ep;obtain⟨rs,c,O⟩:=SA (P:=X.prog) (w:=X.w) rel;obtain⟨z,hd,ac,r0,dd⟩:=WX F.Ap e;cases r0;refine⟨rs,c,dd,λh' J hs=>⟨.ref s.heap.objs.size,_,?_,U,q2⟩⟩;have hz:(Ez [] ge).length<=og:=by
  have h1:=Rx ge [];rw[rA]at h1;rw[r6];lia
 have he:∃q,h'.get? s.heap.objs.size=some q:=let ⟨q,_,_,hq,_⟩:=J;⟨q,hq⟩
 exact QL F (by rw[e];exact rZ) hs he (Vp hz hd (O.j8 .nil) J)
structure M1(X:Cx)(o:Expr)(m:Str)(apos:Pos)(e:Expr)(cpos:Pos):Prop where
 base:vW o m X.env (eval o X.env)=eval o X.env
 Eo:((rW cpos (oG [e] X.env)).all (λx=>!x.1) && (zL cpos (xm [] X.env)).all (λx=>x.1.isSome)
  && decide (([e]:List Expr).length+([]:List uT).length+(if ([]:List uT).isEmpty then 0 else 1)<30))=true
 line:(apos.endLine == cpos.line)=true
 j5:rW cpos (oG [e] X.env)=[(false,eval e X.env)]
structure M2(X:Cx)(o:Expr)(m:Str)(apos:Pos)(e f:Expr)(cpos:Pos):Prop where
 base:vW o m X.env (eval o X.env)=eval o X.env
 Eo:((rW cpos (oG [e,f] X.env)).all (λx=>!x.1) && (zL cpos (xm [] X.env)).all (λx=>x.1.isSome)
  && decide (([e,f]:List Expr).length+([]:List uT).length+(if ([]:List uT).isEmpty then 0 else 1)<30))=true
 line:(apos.endLine == cpos.line)=true
 j5:rW cpos (oG [e,f] X.env)=[(false,eval e X.env),(false,eval f X.env)]
section
variable {X:Cx}{ga:List (Addr×Obj)}{σ:St}{H:Hp}{s:nP}{a:Addr}{y d:V}{u r:Value}{o:Option V}{A:qu}{E:Value->nP->Prop}
end
section
variable {X:Cx}{o e f:Expr}{apos cpos:Pos}{td ty tx:TE}
end
section
variable {X:Cx}{ga:List (Addr×Obj)}{σ:St}{H:Hp}{s:nP}{a:Addr}{ge:List (Ai×V)}{A:qu}{E:Value->nP->Prop}
end
section
variable {X:Cx}{ga:List (Addr×Obj)}{σ:St}{H:Hp}{s:nP}{a:Addr}{y:V}{u:Value}{A:qu}{E:Value->nP->Prop}
end
end L2
namespace Att
open PySem PySem.W PySem.Calls PyProof.Rows
theorem Xp:∀(F:List Int) (I:List Value),WellAll P h I (F.map WData.int)->vt I F:=by
 intro F
 induction F with
 |nil =>
  intro I w;rw[pE]at w;cases w;exact .nil
 |cons n F ih =>
  intro I w;rw[nK]at w;cases w with
  |cons a b =>
   cases a;exact .cons _ _ (ih _ b)
theorem Yp {l:OpenLaw}(hn:l.most=some n)
  (O:l.row.toRowW.claim.pre args=true)(ac:WellAll P h vals args) :
  ∃a vs F,vals=[qw a]/\args=[WData.list (F.map WData.int)]/\h.get? a=some { cls:=.type "list",data:=.seq vs.toArray}/\vt vs F/\F.length<=n:=by
 have ab:WShape.hasAll [] args [.list .int]=true:=(pre_splitW O).1;have hc:l.pre.holds [] { args:=args}=true:=(pre_splitW O).2;obtain⟨d,r,rfl,h1,h2⟩:=hasAllW_cons ab;obtain rfl:=hasAllW_nil h2;obtain⟨xs,rfl,h3⟩:=hasW_list h1;obtain⟨F,rfl⟩:=items_int h3;have aa:F.length<=n:=by
  unfold OpenLaw.pre at hc;have J:(WTm.not (.lt (.lit (.int (n:Int))) (.len (.arg 0)))).holds [] { args:=[.list (F.map .int)]}=true:=by
   have J:=(holds_andW hc).1;rw[hn]at J;exact J
  have I:=condW_of J (w_not (w_lt w_lit (w_len_list (w_arg rfl))));rw[nc]at I;refine Nat.le_of_not_lt λq=>?_
  have q':(n:Int)<((F.length:Nat):Int):=by omega
  first
   |(rw[qm q']at I;exact absurd I (by decide))
   |(simp at I;omega)
 cases ac with
 |cons w1 w2 =>
  cases w2;cases w1 with
  |list ho hall=>exact⟨_,_,F,U,U,ho,Xp F _ hall,aa⟩
theorem ZT(l:OpenLaw)(args:List WData):l.row.toRowW.claim.post args (.bool true) args=true :=
 postW_of (r:=l.row.toRowW) (X:=(true == true))
  (show WShape.has [] (.bool true) .bool=true by first|rfl|decide|simp[WShape.has,WShape.arms,WShape.armsAll])
  (show(WTm.eq .res (.lit (.bool true))).value [] { args:=args,res:=some (.bool true),after:=args}=some (.bool (true == true)) from w_eq_bool (w_res rfl) w_lit) rfl
theorem X9 {l:OpenLaw}{n:Nat}{q:oT}{aa:List Str}{XP:(Str->Option Value)->Heap->Prop}{YP:World->Heap->Prop}{d:DefRec}
  (hn:l.most=some n)(ae:d.params.defaults=[])
  (ah:∀(w:World) (s₀ F:nP) (mg mb:Str->Option Value) (J:Addr) (o:Obj) (pm cd doc:Value) (a:Addr) (I:List Value) (O:List Int),
   Ground q aa [] XP w s₀ mg mb F.heap->YP w F.heap →
   F.heap.get? J=some o->o.data=.func (docDef d.name d.params d.body d.scope pm cd doc)->F.heap.CodeRec cd d.name->mg d.name=some (.ref J) →
   F.heap.get? a=some { cls:=.type "list",data:=.seq I.toArray}->vt I O->O.length<=n->F.gens = #[] →
   xI (model l.prog w) wz (.call (.ref J) ⟨[.ref a],[]⟩) (λr s'=>r=.ok (.ret (.bool true))/\OldK F.heap s'.heap/\s'.os=F.os/\uR s'.gens) F) :
  WalkO q aa XP YP l.row.toRowW d [] (λf I=>zY f I):=by
 intro w s₀ F mg mb G Y J o pm cd doc dV kV ho hd ab hD ac hg args ak as ad am al ai ao;obtain rfl:dV=.none:=Dflts.none hD ae;obtain rfl:kV=.none:=Dflts.noKw hD;obtain⟨a,I,O,rfl,rfl,aj,ag,af⟩:=Yp hn ad ai;refine enter_call (yS (ah w s₀ F mg mb J o pm cd doc a I O G Y ho (fd_plain hd) ab ac aj ag af hg) λr s' hq=>?_);obtain⟨rfl,h2,h3,h4⟩:=hq;exact⟨.inl ⟨.bool true,.bool true,[],U,λ_=>rfl,.bool true,ZT l _,λ_=>⟨rH.nil,λ_ hm=>(nomatch hm)⟩⟩,h2,h3,h4⟩
section
variable {prog:oT}{w:World}{A:qu}{E:Value->nP->Prop}{s:nP}{K:Frag}
def m5(h:Heap)(L d:Addr):List (Addr×Obj):=(nz h.objs.size).filterMap λa=>if a=L\/a=d then none else (h.get? a).map λo=>(a,o)
end
end Att
namespace L2
open PySem PySem.Spec PyProof.Rows
theorem TC:∀{I:List Value} {F:List Int},vt I F->Ag (F.map V.int) I
 |_,_,.nil=>.nil
 |_,_,.cons n t h=>.cons ⟨t,U⟩ (TC h)
def RZ(H:Hp):Prop:=∀b,H b=none\/∃o xs,H b=some (.Er o (.AE xs))
theorem Zx {P:oT}{w:World}{K:nI}{mg mb:Str->Option Value}{CX:GD}{k:Nat}{fa a:Addr}{fd:qf}{x:Str}{sp:Sp}{I:nP}{O:List Value}{ns:List Int}
  (KX:K.In I.heap)(af:I.heap.Ns qE mg)(J:I.heap.Ns aab mb)(ai:∀x:Str,x≠"__name__"->mb x=qi x)(ak:I.heap.NoLimit)(hg:I.gens = #[])
  (ha:I.heap.get? a=some { cls:=.type "list",data:=.seq O.toArray})(hi:vt O ns)(hl:ns.length<=og)(hr:Room k wz)
  (F:∀base:Heap,K.In base->base.Ns qE mg->Am P w K mg base CX k fa fd [x] sp)(al:∀(s:nP) (u:Value),xv s fd ⟨[u],[]⟩ [(x,u)])
  (ap:∀H:Hp,RZ H->AR K H a (ns.map V.int)->sp [.ref a] H (λv _=>v=.bl true) λ_ _ _=>False)
  (ao:∀H e s',CX [] H I (λ_ _ _=>False) e s'->False) :
  xI (model P w) wz (.call (.ref fa) ⟨[.ref a],[]⟩) (λr s'=>r=.ok (.ret (.bool true))/\OldK I.heap s'.heap/\s'.os=I.os/\uR s'.gens) I:=by
 have rv:=TC hi;have aj:=hi.length;have ae:∀H:Hp,RZ H->AR K H a (ns.map V.int)->B7 P w H I.heap->(∀b,H b≠none->b=a)->(H a≠none->K.lookup a=none) →
   xI (model P w) wz (.call (.ref fa) ⟨[.ref a],[]⟩) (λr s'=>r=.ok (.ret (.bool true))/\OldK I.heap s'.heap/\s'.os=I.os/\uR s'.gens) I:=by
  intro H hO hS ad hA hK;have ab:∀{b:Addr} {o:Obj},I.heap.get? b=some o->H b=none->(HS I.heap H).get? b=some o:=λe n=>aJ e n
  have ah:∀{b:Addr} {o:Obj} {es:Array DictEntry} {ep:Nat},I.heap.get? b=some o->o.data=.dict es ep->H b=none:=λ{b o es ep} e d=>by
   cases q:H b with
   |none=>rfl
   |some u =>
    have e':b=a:=hA b (by rw[q];simp);subst e';rw[ha]at e;cases e;have d':Data.seq O.toArray _=Data.dict es ep:=d;cases d'
  have aa:∀{b:Addr} {m:Str->Option Value},I.heap.Ns b m->(HS I.heap H).Ns b m:=λ{b m} ⟨o,es,ep,e,d,r⟩=>⟨o,es,ep,ab e (ah e d),d,r⟩
  have ac:K.In (HS I.heap H):=λb o e=>ab (KX b o e) (by
   cases q:H b with
   |none=>rfl
   |some u =>
    have e':b=a:=hA b (by rw[q];simp);subst e';rw[hK (by rw[q];simp)]at e;cases e)
  have hM:Mod K mg (HS I.heap H):=⟨ac,aa af,⟨mb,aa J,ai⟩,let ⟨mc,h1,h2⟩:=ak;⟨mc,aa h1,h2⟩⟩;have e0:JX P w K mg (HS I.heap H) wz [] I H:=⟨U,hM,λb o e=>fj e,Nat.le_of_eq (Y6 _ _),trivial,λb J=>absurd (show b∈([]:List Addr) from J) (by simp),ad,.of_eq hg⟩;refine yS ((F _ ac (aa af)).Oy wz [] I H ⟨[.ref a],[]⟩ [.ref a] [.ref a] _ _ hr e0 (al I (.ref a)) (.cons rfl .nil) (ap H hO hS)) λr s' h=>?_
  cases r with
  |error e=>exact(ao H e s' h).elim
  |ok fl =>
   cases fl with
   |next=>exact qj h
   |brk=>exact qj h
   |cont=>exact qj h
   |ret u =>
    obtain⟨v,H',os,am,un,ag,r',q⟩:=h;have q':v=.bl true:=q;subst q';obtain rfl:u=sG true:=r';refine⟨U,OldK.of_keep λb o e=>?_,os,am⟩;cases q:H b with
    |none=>exact un.keep b o e q (by intro z;exact absurd (show b∈([]:List Addr) from z) (by simp)) (by simp)
    |some u =>
     rcases hO b with z|⟨ob,xs,z⟩
     ·rw[q]at z;cases z
     ·have z2:=un.Fd b ob _ z;obtain⟨e1,_⟩:=ad b _ z;obtain⟨e2,_⟩:=ag b _ z2;rw[e]at e1;cases e1;exact e2
 cases hk:K.lookup a with
 |some o =>
  have e:=KX a o hk;rw[ha]at e;cases e;refine ae (λ_=>none) (λ_=>.inl rfl) (.inr ⟨_,O.toArray,_,hk,U,U,U,by rw[n8,aj];exact hl,by simpa using rv⟩) (λb u z=>by have z':(none:Option HO)=some u:=z;cases z') (λb z=>absurd rfl z) λz=>absurd rfl z
 |none =>
  refine ae (λb=>if b=a then some (.Er { cls:=.type "list",data:=.seq O.toArray} (.AE (ns.map V.int))) else none) (λb=>?_) (.inl (.inr ⟨{ cls:=.type "list",data:=.seq O.toArray},nF rfl⟩)) (λb u z=>?_) (λb z=>?_) λ_=>hk
  ·by_cases J:b=a
   ·exact .inr ⟨_,_,nF J⟩
   ·exact .inl (nv J)
  ·by_cases J:b=a
   ·have z':=(nF J).symm.trans z;cases z';subst J;exact⟨ha,by rw[nc];exact hl,O,_,rv,ha⟩
   ·have z':=(nv J).symm.trans z;cases z'
  ·by_cases J:b=a
   ·exact J
   ·exact absurd (nv J) z
abbrev nD{K:nI}{h:Heap}(_:K.In h):nI:=K
theorem fi {l:vd}{K:Params->nI}{CX:World->GD}{sp:World->Sp}
  (hn:l.most=some n)(af:n<=og)(ac:d.params.defaults=[])(hr:Room k wz)
  (hY:∀(w:World) (h:Heap),YP w h->(K w.params).In h)
  (F:∀(w:World) (mg:Str->Option Value) (I:Addr) (h:Heap),(K w.params).In h->h.Ns qE mg->mg d.name=some (.ref I) →
   ∃fd:qf,(∀(s:nP) (u:Value),xv s fd ⟨[u],[]⟩ [(x,u)]) /\
    ∀base:Heap,(K w.params).In base->base.Ns qE mg->Am l.prog w (K w.params) mg base (CX w) k I fd [x] (sp w))
  (aa:∀(w:World) (H:Hp) (a:Addr) (J:List Int),J.length<=n->RZ H->AR (K w.params) H a (J.map V.int)->sp w [.ref a] H (λv _=>v=.bl true) λ_ _ _=>False)
  (ae:∀(w:World) (H:Hp) (s:nP) (e:Value) (s':nP),CX w [] H s (λ_ _ _=>False) e s'->False) :
  aam q loose XP YP l.row.toRowW d [] (λf vs=>zY f vs):=by
 refine Att.X9 hn ac λw s₀ s₁ mg mb I o pm cd doc a vs J G Y ho hd ah ab ag ad O hg=>?_
 have KX:=hY w _ Y;obtain⟨fd,hb,hF⟩:=F w mg I _ KX G.T.g ab;exact Zx KX G.T.g G.T.b G.T.builtins G.T.nolimit hg ag ad (oa O af) hr hF hb (λH hO hS=>aa w H a J O hO hS) λH e s'=>ae w H s₁ e s'
def GP(s:Stmt):Arguments:=match s with
 |.FunctionDef _ a _ _ _ _ _ _ _ _=>a
 |_=>{ posonlyargs:=[],args:=[],vararg:=none,kwonlyargs:=[],kw_defaults:=[],kwarg:=none,defaults:=[]}
def FJ(s:Stmt):List Stmt:=match s with
 |.FunctionDef _ _ b _ _ _ _ _ _ _=>b
 |_=>[]
def Ak(s:Stmt):Scope:=match s with
 |.FunctionDef _ _ _ _ _ _ sc _ _ _=>sc
 |_=>{ kind:=.function,names:=[],isGenerator:=false,isCoroutine:=false}
abbrev Aw:GD:=λ_ _ _ _ _ _=>False
abbrev E0:XK:=λ_ _ _=>False
theorem WT:N4 Aw X E0:=λ_ _ _ _ _ _ _ h=>h.elim
structure Aq(K:nI)(x qual:Str)(st:Stmt)(f:Addr)(fd:qf):Prop where
 ex:∃(oc:Value) (od:Option Addr) (kV doc pm:Value) (an:Option Addr) (ii ct:Value) (osl:Array (Option Value)),
  fd=qU x qual (GP st) (FJ st) (Ak st) .none kV doc pm an ii ct/\K.lookup f=some ⟨oc,od,.func fd,osl⟩/\vx K ii qual=true
 kp:KP K f
section
variable {P:oT}{w:World}{K:nI}{mg:Str->Option Value}{base:Heap}
theorem Aq.ok {x qual:Str}{st:Stmt}{f:Addr}{fd:qf}{N ps:List Str}{k:Nat}{sp:Sp}(F:Aq K x qual st f fd)(S:Az N ps (Ak st))(ac:∀I H Q E,sp I H Q E->I.length=ps.length)
  (ab:∀(ii:Value) (A:qu) (outer:List Env) (s:nP) (H:Hp) (I:List V) (Q:VK) (E:XK),Room k (A.deeper (vf qual (Ak st) s.heap.objs.size f ii))->sp I H Q E →
   ∃t,CU (JU Aw P w K mg base N qual (Ak st) f ii A outer s H E).Hl (FJ st) t/\t { nx:=λ_ H'=>Q .BE H',rt:=Q} (HL N I) H):Am P w K mg base Aw (k+1) f fd ps sp:=by
 obtain⟨oc,od,kV,doc,pm,an,ii,ct,osl,rfl,O,aa⟩:=F.ex;refine j0 O aa S ac λA outer s H I Q E hr J=>?_
 obtain⟨t,h,q⟩:=ab ii A outer s H I Q E hr J;exact⟨t,h.Hl,q⟩
theorem Aq.OJ {st:Stmt}(F:Aq K x qual st f fd)
  (h:∀(kV doc pm:Value) (an:Option Addr) (ii ct:Value) (us:List Value),us.length=ps.length->wN (qU x qual (GP st) (FJ st) (Ak st) .none kV doc pm an ii ct) ⟨us,[]⟩=pure (ps.zip us)):EU K fd ps []:=by
 obtain⟨oc,od,kV,doc,pm,an,ii,ct,osl,rfl,I,J⟩:=F.ex;exact .all (h kV doc pm an ii ct)
theorem V6 {st:Stmt}{kV doc pm ii ct:Value}(l:K.lookup f=some ⟨oc,od,.func (qU x qual (GP st) (FJ st) (Ak st) .none kV doc pm an ii ct),osl⟩)
  (c:vx K ii qual=true)(k:KP K f):Aq K x qual st f (qU x qual (GP st) (FJ st) (Ak st) .none kV doc pm an ii ct):=⟨⟨oc,od,kV,doc,pm,an,ii,ct,osl,U,l,c⟩,k⟩
end
theorem IP(F:Room k A):A.units+1<cLine:=qh (yi (by decide:1<=64) _) F.units
section
variable {X:Cx}
theorem pv (i:Nat){x:Str}{pos:Pos}(F:X.N[i]?=some x:=by rfl)(J:Rr X.env.scope x:=by first|exact p8 rfl|exact yH (p8 rfl)|exact yH (yH rfl))(hd:(x == ("__debug__":Str))=false:=by decide)
  (I:(x == ("__classdict__":Str))=false:=by decide):PE X (.Name x pos) (Al i):=iI F J hd I
end
theorem Cr{A B:Prop}(h:B):if false=true then A else B:=by
 rw[nv oz];exact h
theorem EV{A B:Prop}(h:A):if true=true then A else B:=by
 rw[nF rfl];exact h
theorem Oi{c A B:Prop}[Decidable c](h1:c->A)(h2:¬c->B):if c then A else B:=by
 by_cases h:c
 ·rw[nF h];exact h1 h
 ·rw[nv h];exact h2 h
theorem E3{c A B:Prop}[Decidable c](F:c)(h:B):if (!decide c)=true then A else B:=by
 rw[qm F];exact Cr h
def AM(H H':Hp):Prop:=∀b o,H b=some o->H' b=some o
theorem AM.refl(H:Hp):AM H H:=λ_ _ h=>h
theorem AM.trans(a:AM H H1)(b:AM H1 H2):AM H H2:=λc o h=>b c o (a c o h)
theorem AM.free(e:AM H H')(h:H' l=Option.none):H l=Option.none:=by
 cases q:H l with
 |none=>rfl
 |some o =>
  rw[e l o q]at h;cases h
theorem AM.seq{K:nI}(e:AM H H')(h:AR K H a xs):AR K H' a xs:=by
 rcases h with (h|⟨o,h⟩)|h
 ·exact .inl (.inl (e _ _ h))
 ·exact .inl (.inr ⟨o,e _ _ h⟩)
 ·exact .inr h
section
variable {X:Cx}
theorem Ht:DJ X (.builtin "len") (λxs H Q=>∃a ge,xs=[V.ref a]/\H a=some (.dK ge)/\Q (.int ge.length) H):=by
 intro ga s σ H xs us Q I r h;obtain⟨a,ge,rfl,J,q⟩:=h;obtain⟨u,rfl,O⟩:=IL r;cases O;exact kB I (.inl J) λt s' F=>⟨.int ge.length,H,F,⟨t,U⟩,q⟩
end
section
variable {κ:Type}[DecidableEq κ]
end
section
variable {X:Cx}{K:nI}{H:Hp}{a:Addr}{xs:List V}
theorem AJ.up(h:AJ [] H a xs):AJ K H a xs:=h.elim .inl λ⟨_,_,_,e,_⟩=>nomatch e
theorem AR.up(h:AR [] H a xs):AR K H a xs:=h.elim .inl λ⟨_,_,_,e,_⟩=>nomatch e
def wk(t:TE):TE:=λσ H Q=>∃F,t σ H F/\∀x H,F x H->Q x H
theorem PE.wk(h:PE X e t):PE X e (L2.wk t):=λga s σ H Q I ⟨_,h1,h2⟩=>Af (h ga s σ H _ I h1) λ_ _ ⟨v,H',F,r,q⟩=>⟨v,H',F,r,h2 _ _ q⟩
theorem Ga.mono{P:oT}{w:World}{tg:oU}{J F:It}{fp:List Addr}{it:Addr}{tn:Nat->Heap->Prop}(T:Ga P w K tg J fp it tn)(g:∀i H,F.go i H->J.go i H)(y:∀i H x H',J.EL i H x H'->F.EL i H x H')(d:∀i H,F.EH i H->J.EH i H):Ga P w K tg F fp it tn where
 mem:=T.mem
 Cv:=T.Cv
 keep:=T.keep
 item:=λX hP O hK hc i ga s σ H E I hf st hg=>Af (T.item X hP O hK hc i ga s σ H E I hf st (g _ _ hg)) λ_ _ ⟨u,e,q⟩=>⟨u,e,Af q λ_ _ ⟨x,H',I',r,z,t,n⟩=>⟨x,H',I',r,y _ _ _ _ z,t,n⟩⟩
 done:=λX hP O hK hc i ga s σ H E I hf st hg=>T.done X hP O hK hc i ga s σ H E I hf st (d _ _ hg)
 HX:=T.HX
theorem MN.up(h:MN [] T x H):MN K T x H:=match x,h with
 |.str _,h=>h
 |.int _,h=>h
 |.ref _,.inl ⟨e,xs,h⟩=>.inl ⟨e,xs,h.up⟩
 |.ref _,.inr (.inl ⟨_,_,h,_⟩)=>nomatch h
 |.ref _,.inr (.inr h)=>.inr (.inr h)
end
end L2
namespace L2
open PySem
def DK(h h':Heap):Prop:=∀a o,h.get? a=some o->∃o',h'.get? a=some o'/\o'.dict=o.dict
theorem DK.refl(h:Heap):DK h h:=λ_ o e=>⟨o,e,U⟩
theorem DK.trans(x:DK h1 h2)(y:DK h2 h3):DK h1 h3:=λa o e=>by
 obtain⟨F,O,d1⟩:=x a o e;obtain⟨I,J,d2⟩:=y a F O;exact⟨I,J,d2.trans d1⟩
theorem Yh{h:Heap}(e:h.get? a=some o):o.isFreed=false:=by
 unfold Heap.get? at e;split at e
 ·cases e
 ·rename_i x F
  obtain⟨c,d,I,J⟩:=o;cases I<;>first|rfl|(exact absurd e (F _ _ _))
theorem DK.AF(F:∀o,(f o).dict=o.dict/\(f o).isFreed=o.isFreed):DK h (h.update a f):=λb o e=>by
 by_cases I:a=b
 ·subst I;exact⟨f o,uS f e ((F o).2.trans (Yh e)),(F o).1⟩
 ·exact⟨o,(uK h f I).trans e,U⟩
theorem DK.push(h:Heap)(x:Obj):DK h (h.push x):=λ_ o e=>⟨o,nN x e,U⟩
structure KpD{α:Type}(t:Sem α):Prop where
 out:∀(M:Model) (Γ:Ctx) (Q:α->Pos->nP->Prop) (E:Value->Pos->nP->Prop) (p:Pos) (s:nP),Sem.wp M Γ t Q E p s->Sem.wp M Γ t (λa p' s'=>Q a p' s'/\DK s.heap s'.heap) E p s
namespace KpD
variable {α β:Type}
theorem pure(a:α):KpD (Pure.pure a:Sem α):=⟨λ_ _ _ _ _ s h=>⟨h,DK.refl _⟩⟩
theorem unsupported(w:String):KpD (PySem.unsupported w:Sem α):=⟨λ_ _ _ _ _ _ h=>h⟩
theorem bind(J:KpD m)(O:∀a,KpD (f a)):KpD (m >>= f):=⟨λM Γ Q E p s h=>by
 rw[Sem.wp_bind']at h ⊢;refine Sem.wp_mono M Γ m (λa F s' ⟨q,k⟩=>?_) (λ_ _ _ z=>z) p s (J.out M Γ _ E p s h);exact Sem.wp_mono M Γ (f a) (λb p2 s2 ⟨I,k2⟩=>⟨I,k.trans k2⟩) (λ_ _ _ z=>z) F s' ((O a).out M Γ Q E F s' q)⟩
theorem ite[Decidable c](I:KpD t)(F:KpD u):KpD (if c then t else u):=by split<;>assumption
theorem load(a:Addr):KpD (PySem.load a):=⟨λ_ _ _ _ _ _ h=>by
 obtain⟨o,e,q⟩:=h;exact⟨o,e,q,DK.refl _⟩⟩
theorem stack:KpD PySem.stack:=⟨λ_ _ _ _ _ _ h=>⟨h,DK.refl _⟩⟩
theorem update(a:Addr)(F:∀o,(f o).dict=o.dict/\(f o).isFreed=o.isFreed):KpD (PySem.update a f):=⟨λ_ _ _ _ _ _ h=>⟨h.1,h.2,DK.AF F⟩⟩
theorem alloc(x:Obj):KpD (PySem.alloc x):=⟨λ_ _ _ _ _ _ h=>⟨h,DK.push _ _⟩⟩
theorem field(v:Value)(i:Nat):KpD (PySem.field v i):=⟨λM Γ Q E p s h=>by
 rw[wp_field_iff]at h ⊢;obtain⟨a,o,J,x,e,I,hd,F,q⟩:=h;exact⟨a,o,J,x,e,I,hd,F,q,DK.refl _⟩⟩
theorem l4(g:Array Value->Array Value)(o:Obj):(o.mapFields g).dict=o.dict/\(o.mapFields g).isFreed=o.isFreed:=by
 obtain⟨c,d,F,I⟩:=o;cases F<;>exact⟨U,U⟩
theorem setField(v:Value)(i:Nat)(x:Value):KpD (PySem.setField v i x):=⟨λM Γ Q E p s h=>by
 rw[wp_setField_iff]at h ⊢;obtain⟨a,o,I,e,F,hd,hi,q⟩:=h;exact⟨a,o,I,e,F,hd,hi,q,DK.AF (l4 _)⟩⟩
theorem newFields(ty:String)(F:List Value):KpD (zZ ty F):=by
 unfold zZ newObj newObjAsIs;dsimp only;split
 all_goals repeat' with_reducible first
  |exact unsupported _
  |exact alloc _
  |exact pure _
  |apply bind
  |intro _
theorem slotF(g:Obj->Array (Option Value))(o:Obj):({ o with slots:=g o}:Obj).dict=o.dict/\({ o with slots:=g o}:Obj).isFreed=o.isFreed:=by
 obtain⟨c,d,F,I⟩:=o;cases F<;>exact⟨U,U⟩
end KpD
local macro_rules
 |`(tactic|trivial)=>`(tactic|(repeat' with_reducible first
  |assumption
  |exact KpD.pure _
  |exact KpD.unsupported _
  |exact KpD.field _ _
  |exact KpD.setField _ _ _
  |exact KpD.newFields _ _
  |exact KpD.load _
  |exact KpD.update _ (KpD.slotF _)
  |exact KpD.stack
  |exact KpD.alloc _
  |apply KpD.ite
  |apply KpD.bind
  |intro _
  |split))
end L2
namespace L2
open PySem PySem.Spec PyProof.Rows
def W6(B:Heap)(l:List Env)(a:Addr)(cls:Value)(t:Addr)(od:Option Addr)(h:Heap):Prop:=Heap.FlyingW B l a cls (.ref t) h/\∃o,h.get? a=some o/\o.dict=od
theorem W6.Ei(x:W6 B l a cls t od h):∃o,h.get? a=some o/\o.cls=cls/\o.dict=od/\∃F,o.data=.fields F:=by
 obtain⟨o,e,d⟩:=x.2;obtain⟨J,F,I,c,f,_⟩:=x.1.first;rw[e]at I;cases I;exact⟨o,e,c,d,F,f⟩
theorem DK.dict(k:DK h h')(x:∃o,h.get? a=some o/\o.dict=od):∃o,h'.get? a=some o/\o.dict=od:=by
 obtain⟨o,e,d⟩:=x;obtain⟨o',F,d'⟩:=k a o e;exact⟨o',F,d'.trans d⟩
section
variable {X:Cx}{ga:List (Addr×Obj)}{σ:St}{H:Hp}{s s':nP}{E:XK}{e:Value}
end
section
variable {P:oT}{w:World}{K:nI}{mg:Str->Option Value}{base:Heap}{N:List Str}{qual:Str}{scope:Scope}{f:Addr}{cd:Value}{A:qu}{outer:List Env}{s₀:nP}{H₀:Hp}{E:XK}
end
section
variable {M:Model}{A:qu}{E:Value->nP->Prop}{s:nP}{B:Heap}{env:Env}{outer l:List Env}{L e t:Addr}{cls:Value}{od:Option Addr}{Q:Unit->nP->Prop}
end
def Cp(X:Cx)(scope:Scope)(cl:List (Str×Addr))(C:Addr)(Nc:List Str)(ex:List Addr)(ga:List (Addr×Obj))(s₀:nP)(H₀:Hp):Cx where
 prog:=X.prog
 w:=X.w
 K:=X.K
 mg:=X.mg
 base:=X.base
 A:=X.A
 N:=Nc
 s₀:=s₀
 H₀:=H₀
 env:=compEnvC scope cl C X.env
 outer:=X.stack
 stack:=X.stack
 ex:=ex
 fn:=λy=>scope.names.lookup y == some .local
 C5:=true
 pn:=X.pn++ga
 xe:=λ_ _=>False
structure Gz(X:Cx)(scope:Scope)(cl:List (Str×Addr))(Nc:List Str)(cap:List (Nat×Nat)):Prop where
 lX:aac scope X.env=pure cl
 kind:scope.kind=.function
 names:∀y∈scope.names,y.2=.local->scope.names.lookup y.1=some .local
 jF:∀y∈scope.names,y.2≠.cell
 Dz:∀x c,cl.lookup x=some c->X.env.cells.lookup x=some c/\scope.names.lookup x≠some .local
 has:∀x,((vB scope X.env).names.lookup x=some .cell\/(vB scope X.env).names.lookup x=some .free)->∃c,cl.lookup x=some c
 lI:∀j i,(j,i)∈cap->∃x c,Nc[j]?=some x/\X.N[i]?=some x/\cl.lookup x=some c/\X.env.scope.names.lookup x=some .cell/\(vB scope X.env).names.lookup x=some .cell
theorem eF (aa:aac scope X.env=pure cl)(kind:scope.kind=.function)(names:∀y∈scope.names,y.2=.local->scope.names.lookup y.1=some .local)(O:∀y∈scope.names,y.2≠.cell)
  (F:∀p∈cl,X.env.cells.lookup p.1=some p.2/\scope.names.lookup p.1=some .free)(ab:((vB scope X.env).names.all λp=>(p.2 != .cell && p.2 != .free) || (cl.lookup p.1).isSome)=true)
  (ac:∀p∈cap,∃x c,Nc[p.1]?=some x/\X.N[p.2]?=some x/\cl.lookup x=some c/\X.env.scope.names.lookup x=some .cell/\(vB scope X.env).names.lookup x=some .cell):Gz X scope cl Nc cap :=
 ⟨aa,kind,names,O,λx c e=>⟨(F (x,c) (qQ e)).1,λz=>by
  have:=(F (x,c) (qQ e)).2
  rw[z]at this;cases this⟩,λx e=>by
  have I:∀k,(vB scope X.env).names.lookup x=some k->(k=.cell\/k=.free)->∃c,cl.lookup x=some c:=λk e J=>by
   have:=sW.mp ab (x,k) (qQ e)
   rcases J with rfl|rfl
   ·exact uu.mp (by simpa using this)
   ·exact uu.mp (by simpa using this)
  rcases e with e|e
  ·exact I _ e (.inl rfl)
  ·exact I _ e (.inr rfl),λj i m=>ac (j,i) m⟩
def JO(n:Nat)(cap:List (Nat×Nat))(σ:St):St:=(nz n).map λj=>((cap.find? λp=>p.1 == j).bind λp=>σ[p.2]?).bind id
theorem Y2(h:(JO n cap σ)[j]?=some (some v)):∃i,(j,i)∈cap/\σ[i]?=some (some v):=by
 unfold JO at h;rw[nJ]at h;cases e:(nz n)[j]? with
 |none=>rw[e]at h;cases h
 |some k =>
  rw[e]at h;have F:k=j:=by
   obtain⟨I,q⟩:=nj.mp e;rw[yx]at q;exact q.symm
  subst F;simp only[zV,n9.injEq]at h;cases f:cap.find? λp=>p.1 == k with
  |none=>rw[f]at h;cases h
  |some p =>
   rw[f]at h;have h1:=wt f;have h2:p.1=k:=by
    have:=zR f
    exact eq_of_beq this
   exists p.2,?_
   ·rw[<-h2];exact h1
   ·simp only[Option.bind_some]at h;cases g:σ[p.2]? with
    |none=>rw[g]at h;cases h
    |some o=>rw[g]at h;simpa using h
section
variable {X:Cx}{ga:List (Addr×Obj)}{σ:St}{H:Hp}{s:nP}{scope:Scope}{cl:List (Str×Addr)}{Nc:List Str}{cap:List (Nat×Nat)}{fp:List Addr}
theorem bY (I:AI X ga σ H s)(ae:X.C5=true)(S:Gz X scope cl Nc cap)(aa:∀b∈fp,Fy X ga H b)(ad:∀b∈fp,∃o,s.heap.get? b=some o)(hC:s.heap.objs.size<=C)
  (hn:h1.Ns C m)(J:∀b o,s.heap.get? b=some o->h1.get? b=some o):AI (Cp X scope cl C Nc fp ga s H) [] (JO Nc.length cap σ) H { s with heap:=h1,toks:=tk}:=by
 have ac:∀b o,s.heap.get? b=some o->b≠C:=λb o e=>pV (oY (oq e) hC)
 exists ⟨I.ok.DV,S.kind,I.ok.Hd,I.ok.Kw,hC,λx y c e1 O=>?_,λx hx=>S.has x hx,λx c e1 O=>?_,λ_=>I.ok.hd ae,I.ok.frames,.inl rfl,λb F=>⟨?_,λx c e=>?_⟩,I.bs,oa I.ok.Gp I.sz,λb o e F=>?_,λb F z=>?_,I.stack,I.VB⟩,
  rfl,I.Ds,Un.CG J,⟨m,hn,λj x v e1 O e3=>?_⟩,λx c e=>?_,I.Ap.CB hC,λx c e=>?_,λp hp=>?_,I.Ap.CG J
 ·exact I.ok.inj x y c (S.Dz x c e1).1 (S.Dz y c O).1
 ·exact absurd (beq_iff_eq.mp e1) (S.Dz x c O).2
 ·obtain⟨o,e⟩:=ad b F;exact ac b o e
 ·exact(aa b F).2.2.2.2.1 x c (S.Dz x c e).1
 ·rcases(aa b F).2.2.2.1 with z|z
  ·exact I.ok.L9 b o e z
  ·exact absurd (oY (oq e) (oa I.ok.Gp z)) (sj _)
 ·rcases nZ.mp (I.Ny b z)with z|z
  ·exact(aa b F).2.1 z
  ·exact(aa b F).2.2.1 z
 ·obtain⟨i,hm,hv⟩:=Y2 O;obtain⟨x',c,q1,q2,q3,q4,q5⟩:=S.lI j i hm;have ab:Nc[j]?=some x:=e1;rw[q1]at ab;cases ab;obtain⟨mo,_,hl⟩:=I.EZ;obtain⟨u,r,l⟩:=hl i x v q2 hv (.inr (.inl q4));exists u,r;rcases l with ⟨k,_⟩|⟨_,c',e',z⟩
  ·have k':X.env.scope.names.lookup x=some .local:=k;rw[q4]at k';cases k'
  ·have:c'=c:=nV (e'.symm.trans (S.Dz x c q3).1)
   subst this;obtain⟨o,ho,hd⟩:=z;exact .inr ⟨.inl q5,c',q3,⟨o,J _ _ ho,hd⟩⟩
 ·obtain⟨v,o,ho,hd⟩:=I.cell x c (S.Dz x c e).1;exact⟨v,o,J _ _ ho,hd⟩
 ·exact I.GX x c (S.Dz x c e).1
 ·have af:p∈X.pn++ga:=by
   have z:p∈(X.pn++ga)++[]:=hp;rw[pO]at z;exact z
  obtain⟨e,n,ne,nf,d⟩:=I.D1 p af;refine⟨J _ _ e,n,ac _ _ e,λz=>?_,d⟩;rcases nZ.mp (I.Ny p.1 z)with z|z
  ·exact ne z
  ·exact nf z
 ·show(JO Nc.length cap σ).length=Nc.length;unfold JO;rw[nc,oX]
theorem Zf(I:AI X ga σ H s)(aa:∀b∈fp,Fy X ga H b)(J:AI (Cp X scope cl C Nc fp ga s H) [] σc H' s')(hs:rP C s'.heap h'):AI X ga σ H' { s' with heap:=h'}:=by
 have hC:s.heap.objs.size<=C:=J.ok.above;have ab:∀b o,s.heap.get? b=some o->b≠C:=λb o e=>pV (oY (oq e) hC)
 have u:=J.base;refine I.kH (s':={ s' with heap:=h'}) (ch:=fp) J.os ⟨λb o e n F O=>?_,λb o e n F O=>?_,u.free,λb o e O=>?_,u.F4,u.Fd,u.F3⟩ (λb o e=>?_) J.Ds λb F=>⟨(aa b F).2.2.2.1,(aa b F).2.1,(aa b F).2.2.2.2.1,(aa b F).2.2.2.2.2⟩
 ·exact(hs.2 b (ab b o e)).trans (u.keep b o e n F O)
 ·obtain⟨sl,q⟩:=u.F5 b o e n F O;exact⟨sl,(hs.2 b (ab b o e)).trans q⟩
 ·obtain⟨o',q⟩:=u.Ei b o e O;exact⟨o',(hs.2 b (ab b o e)).trans q⟩
 ·refine(J.Ap b o e).Hc (λc v hc q=>(hs.2 c ?_).trans q) (λ_ q=>q) λ_ _ q=>q
  intro z;subst z;have fr:H' c=none:=J.free;rcases hc with hc|hc
  ·rw[hc]at fr;rw[fr]at e;cases e
  ·rw[fr]at hc;cases hc
end
def L8(n:Nat)(cap:List (Nat×Nat))(wi:TI)(g:TG)(te:TE):TE:=λσ H Q=>wi σ H λJ H1=>∀F,H1 F=none →
 ∃W:Nat->Nat->List V->St->Hp->Prop,(∃m,W 0 m [] (JO n cap σ) (AF H1 F (.AE [])))/\∀i m ys σc H2,W i m ys σc H2 →
  (J.EH i H2/\Q (.ref F) H2)\/(J.go i H2/\∀x O,J.EL i H2 x O->g x σc O λI H4=>te I H4 λv H5=>H5 F=some (.AE ys)/\ys.length<og/\∃m',m' < m/\W (i+1) m' (ys++[v]) I (AF H5 F (.AE (ys++[v]))))
def KD(n:Nat)(cap:List (Nat×Nat))(wi:TI)(g:TG)(tt:TT)(te:TE):TE:=λσ H Q=>wi σ H λJ H1=>∀I,H1 I=none →
 ∃W:Nat->Nat->List V->St->Hp->Prop,(∃m,W 0 m [] (JO n cap σ) (AF H1 I (.AE [])))/\∀i m ys σc H2,W i m ys σc H2 →
  (J.EH i H2/\Q (.ref I) H2)\/(J.go i H2/\∀x H3,J.EL i H2 x H3->g x σc H3 λO H4=>tt O H4 λok H5=>if ok=true then (te O H5 λv H6=>H6 I=some (.AE ys)/\ys.length<og/\∃F,F<m/\W (i+1) F (ys++[v]) O (AF H6 I (.AE (ys++[v])))) else ∃F,F<m/\W (i+1) F ys O H5)
def Mb(X:Cx)(ifs:List oU)(tt:TT):Prop:=∀(ga:List (Addr×Obj)) (s:nP) (σ:St) (H:Hp) (Q:Bool->Hp->Prop),AI X ga σ H s->tt σ H Q →
 wpAny (model X.prog X.w) X.A (forIn ifs true λc r=>if r=true then do let F <-isTrue c X.env (eval c X.env);pure (uW F) else pure (uW r)) (λF s'=>∃H',AI X ga σ H' s'/\Q F H') X.xe s
theorem fV(h:PT X c tt):Mb X [c] tt:=λga s σ H Q I q=>wpAny_tests_one (h ga s σ H Q I q)
theorem UQ:Mb X [] (λ_ H Q=>Q true H):=λ_ _ _ H _ I q=>wpAny_tests_nil ⟨H,I,q⟩
section
variable {prog:oT}{w:World}{A:qu}{s:nP}
theorem Xy (I:Nat->nP->Prop)
  (ac:∀n s,I n s->wpAny (model prog w) A (xJ it) (λr O=>match r with
   |none=>R (.ok .next) O
   | some v=>wpAny (model prog w) A (vg tg it v) (λ_ aa=>wpAny (model prog w) A (wM tg env v) (λ_ s₂ =>
     wpAny (model prog w) A (forIn ifs true λc r=>if r=true then do let F <-isTrue c env (eval c env);pure (uW F) else pure (uW r)) (λF J=>if F=true then
      wpAny (model prog w) A (eval elt env) (λx s₄ =>
       wpAny (model prog w) A (call (.builtin "list.append") [acc,x]) (λ_ s₅=>∃m,m<n/\I m s₅) (λ_ _=>False) s₄) (λ_ _=>False) J
      else ∃m,m<n/\I m J) (λ_ _=>False) s₂)
     (λ_ _=>False) aa) (λ_ _=>False) O) (notedBy (model prog w) A env λe s'=>R (.error e) s') s)
  (n:Nat) (h:I n s):xI (model prog w) A (.compLoop (.ListComp elt [⟨tg,iter,ifs,0⟩] scope pos) 0 it acc env) R s:=by
 refine codeAny_loop rfl I (λn s hI=>?_) n h;show wpAny _ A ((compTurn (.ListComp elt [⟨tg,iter,ifs,0⟩] scope pos) 0 it acc env).onRaise (λx=>do noteFrame x env;theTreesLotGoes x)) _ _ s;refine wpAny_noted ?_;rw[compTurn_list];refine nH (vZ (nH (qK (ac n s hI) (λr O h₁=>?_) λ_ _ h'=>h')));cases r with
 |none=>exact oy h₁
 |some v =>
  refine nH (qK h₁ (λ_ aa ab=>?_) λ_ _ h'=>qj h');refine nH (qK ab (λ_ s₂ h₂=>nH (qK h₂ (λF J h₃=>?_) λ_ _ h'=>qj h')) λ_ _ h'=>qj h');cases F with
  |false=>exact oy ⟨U,h₃⟩
  |true =>
   exact nH (nH (qK h₃ (λx s₄ h₄=>nH (qK h₄ (λ_ s₅ h₅=>oy (oy ⟨U,h₅⟩)) λ_ _ h'=>qj h')) λ_ _ h'=>qj h'))
end
section
variable {X:Cx}{elt iter tg:oU}{ifs:List oU}{pos:Pos}{scope:Scope}{cl:List (Str×Addr)}{Nc:List Str}{cap:List (Nat×Nat)}{wi:TI}{g:TG}{tt:TT}{te:TE}
theorem Sr (hc:X.C5=true)(hi:PI X tg iter wi)(S:Gz X scope cl Nc cap)
  (hg:∀C fp ga s H,PG (Cp X scope cl C Nc fp ga s H) tg g)(ht:∀C fp ga s H,Mb (Cp X scope cl C Nc fp ga s H) ifs tt)(he:∀C fp ga s H,PE (Cp X scope cl C Nc fp ga s H) elt te)
  (hs:∀y,rR iter X.env y=pure y)(I:AI X ga σ H s)(h:KD Nc.length cap wi g tt te σ H Q)
  (az:∀(aa C:Addr) (H5:Hp) (s6:nP) (m6:Str->Option Value),AI X ga σ H5 s6->Fy X ga H5 C->s6.heap.Ns C m6->Q (.ref aa) H5->compPost (model X.prog X.w) X.A X.xe use P (.ref aa) C (.ok .next) s6) :
  wpAny (model X.prog X.w) X.A (comprehension (.ListComp elt [⟨tg,iter,ifs,0⟩] scope pos) scope X.env pos' (newList []) false (eval iter X.env) use) P X.xe s:=by
 refine wpAny_comprehension_free (use:=use) (cl:=cl) rfl hs S.lX S.kind S.names ?_;refine Af (hi ga s σ H _ I h) λv s1 h1=>Af h1 λbc O h2=>?_
 obtain⟨it,fp,tn,J,H2,e,I2,T,ag,f2,rd⟩:=h2;subst e;refine rh ?_;have a0:H2 O.heap.objs.size=none:=I2.Ap.CB (nG _);obtain⟨W,⟨m0,w0⟩,a9⟩:=rd O.heap.objs.size a0;have I3:AI X ga σ (AF H2 O.heap.objs.size (.AE [])) { O with heap:=O.heap.push { cls:=.type "list",dict:=none,data:=.seq ([]:List Value).toArray}} :=
  I2.Dt (t':=O.toks) (λb u e=>nN _ e) (nG _) ⟨pJ _,[],0,.nil,oF _ rfl⟩
 have ac:tn 0 (O.heap.push { cls:=.type "list",dict:=none,data:=.seq ([]:List Value).toArray}):=T.keep _ _ _ ag λb _ o e=>nN _ e
 have f3:∀b∈fp,Fy X ga (AF H2 O.heap.objs.size (.AE [])) b:=λb F=>by
  obtain⟨o,e,_⟩:=T.Cv _ _ ag b F;refine⟨?_,(f2 b F).2⟩;rw[As (pV (oq e))];exact(f2 b F).1
 generalize bf:O.heap.push { cls:=.type "list",dict:=none,data:=.seq ([]:List Value).toArray}=h3 at I3 ac ⊢;generalize bd:AF H2 O.heap.objs.size (.AE [])=H3 at I3 f3 w0;generalize O.heap.objs.size=aa at *;refine wpAny_newFunctionEnv S.jF (by intro y hy;simp at hy) (λh4 al ah=>?_) S.kind;dsimp only at al ah ⊢;have am:∀b o,h3.get? b=some o->h4.get? b=some o:=λb o e=>ah.extBut b o (pV (oq e)) (nN _ e)
 have f0:∀b∈fp,∃o,h3.get? b=some o:=λb F=>by
  obtain⟨o,e,_⟩:=T.Cv _ _ ac b F;exact⟨o,e⟩
 have I4:=bY (tk:=O.toks+([]:List (Str×Value)).length) I3 hc S f3 f0 (C:=h3.objs.size) (nG _) al am;have ai:tn 0 h4:=T.keep _ _ _ ac λb _ o e=>am b o e
 have ad:∀{H':Hp},(∀b∈fp,H' b=none)->∀b∈fp,Fy (Cp X scope cl h3.objs.size Nc fp ga { O with heap:=h3} H3) [] H' b:=λhn b F=>by
  obtain⟨o,e⟩:=f0 b F;refine⟨hn b F,pV (oq e),I4.ok.MJ b F,.inl F,λx c q=>(f3 b F).2.2.2.2.1 x c (S.Dz x c q).1,λp hp=>?_⟩;have z:p∈(X.pn++ga)++[]:=hp;rw[pO]at z;exact(f3 b F).2.2.2.2.2 p z
 have ak:xI (model X.prog X.w) X.A (.compLoop (.ListComp elt [⟨tg,iter,ifs,0⟩] scope pos) 0 (.ref it) (.ref aa) (compEnvC scope cl h3.objs.size X.env)) (compPost (model X.prog X.w) X.A X.xe use P (.ref aa) h3.objs.size)
   { O with heap:=h4,toks:=O.toks+([]:List (Str×Value)).length}:=by
  refine Xy (λn s'=>∃i ys σ' H',AI (Cp X scope cl h3.objs.size Nc fp ga { O with heap:=h3} H3) [] σ' H' s'/\tn i s'.heap/\(∀b∈fp,H' b=none)/\W i n ys σ' H') ?_ m0 ⟨0,[],_,H3,I4,ai,λb F=>(f3 b F).1,w0⟩;rintro n s5 ⟨i,ys,σ5,H5,I5,ap,ao,w5⟩;rcases a9 i n ys σ5 H5 w5 with ⟨a6,qn⟩|⟨go,step⟩
  ·refine Af (T.done (Cp X scope cl h3.objs.size Nc fp ga { O with heap:=h3} H3) rfl rfl rfl rfl i [] s5 σ5 H5 _ I5 (ad ao) ap a6) λr s6 ⟨hr,I6⟩=>?_
   subst hr;obtain⟨m6,ay,_⟩:=id I6.EZ;exact az aa _ H5 s6 m6 (Zf (h':=s6.heap) I3 f3 I6 ⟨U,λ_ _=>rfl⟩) (I3.JY (nG _) I6.free) ay qn
  ·refine qK (T.item (Cp X scope cl h3.objs.size Nc fp ga { O with heap:=h3} H3) rfl rfl rfl rfl i [] s5 σ5 H5 (λ_ _=>False) I5 (ad ao) ap go) (λr s6 ⟨u,hr,h6⟩=>?_) λ_ _ z=>qj z
   subst hr;refine Af h6 λ_ s7 ⟨y,H7,I7,r7,y7,ae,a4⟩=>?_
   have ar:=I7.V0 (ad a4) (T.Cv _ _ ae);have kp:∀{σ8:St} {H8:Hp} {s8:nP},AI (Cp X scope cl h3.objs.size Nc fp ga { O with heap:=h3} H3) ([]++Lm fp s7.heap) σ8 H8 s8->tn (i+1) s8.heap/\∀b∈fp,H8 b=none:=λ{σ8 H8 s8} I8 =>
    ⟨T.keep _ _ _ ae λb F o e=>(I8.D1 (b,o) (oI _ (oI _ (Mh F e)))).1,λb F=>by
     obtain⟨o,e,d⟩:=T.Cv _ _ ae b F;exact(I8.D1 (b,o) (oI _ (oI _ (Mh F e)))).2.1⟩
   refine Af (hg _ _ _ _ _ _ s7 σ5 H7 y u _ ar r7 (step y H7 y7)) λ_ s8 ⟨σ8,H8,I8,q8⟩=>?_
   refine Af (ht _ _ _ _ _ _ s8 σ8 H8 _ I8 q8) λok s9 ⟨H9,I9,q9⟩=>?_
   cases ok with
   |false =>
    rw[nv oz]at q9 ⊢;obtain⟨m',hm,w'⟩:=q9;obtain⟨ax,aq⟩:=kp I9;exact⟨m',hm,i+1,ys,σ8,H9,I9.LH,ax,aq,w'⟩
   |true =>
    rw[nF rfl]at q9 ⊢;refine Af (he _ _ _ _ _ _ s9 σ8 H9 _ I9 q9) λav a5 ⟨ab,ba,a2,a7,au,aw,m',hm,a1⟩=>?_
    refine Af (FG _ a5 σ8 ba (.ref aa) [ab] (.ref aa) [av] (λ_ af=>W (i+1) m' (ys++[ab]) σ8 af) a2 rfl (.cons a7 .nil) ⟨aa,ys,ab,U,U,au,aw,a1⟩) λ_ be ⟨_,af,aj,_,a3⟩=>?_
    obtain⟨a8,bb⟩:=kp aj;exact⟨m',hm,i+1,ys++[ab],σ8,af,aj.LH,a8,bb,a3⟩
 exact codeAny_compStart_list ak (T.HX _ 0 _ _ _ ai ak)
theorem T5 (hc:X.C5=true)(hi:PI X tg iter wi)(S:Gz X scope cl Nc cap)
  (O:∀C fp ga s H,PG (Cp X scope cl C Nc fp ga s H) tg g)(ht:∀C fp ga s H,Mb (Cp X scope cl C Nc fp ga s H) ifs tt)(he:∀C fp ga s H,PE (Cp X scope cl C Nc fp ga s H) elt te)
  (hs:∀y,rR iter X.env y=pure y:=by intro _;rfl):PE X (.ListComp elt [⟨tg,iter,ifs,0⟩] scope pos) (KD Nc.length cap wi g tt te):=by
 intro ga s σ H Q I h;rw[eval_ListComp];exact Sr (use:=none) hc hi S O ht he hs I h λab C H5 s6 m6 aa F hn qn=>⟨m6,hn,λh7 J=>⟨.ref ab,H5,aa.Fu (t':=s6.toks) (λb o hb q=>(J.2 b hb).trans q) F.1 F.2.1 F.2.2.2.1 F.2.2.2.2.1 F.2.2.2.2.2,U,qn⟩⟩
theorem R8:KD n cap wi g (λ_ H Q=>Q true H) te=L8 n cap wi g te:=by
 unfold KD L8;simp only[if_true]
theorem Dk (I:X.C5=true)(hi:PI X tg iter wi)(S:Gz X scope cl Nc cap)
  (F:∀C fp ga s H,PG (Cp X scope cl C Nc fp ga s H) tg g)(J:∀C fp ga s H,PE (Cp X scope cl C Nc fp ga s H) elt te)
  (hs:∀y,rR iter X.env y=pure y:=by intro _;rfl):PE X (.ListComp elt [⟨tg,iter,[],0⟩] scope pos) (L8 Nc.length cap wi g te) :=
 R8 ▸ T5 (ifs:=[]) (pos:=pos) I hi S F (λ_ _ _ _ _=>UQ) J hs
theorem aL {ct:oU}(I:X.C5=true)(hi:PI X tg iter wi)(S:Gz X scope cl Nc cap)
  (F:∀C fp ga s H,PG (Cp X scope cl C Nc fp ga s H) tg g)(J:∀C fp ga s H,PT (Cp X scope cl C Nc fp ga s H) ct tt)(O:∀C fp ga s H,PE (Cp X scope cl C Nc fp ga s H) elt te)
  (hs:∀y,rR iter X.env y=pure y:=by intro _;rfl):PE X (.ListComp elt [⟨tg,iter,[ct],0⟩] scope pos) (KD Nc.length cap wi g tt te) :=
 T5 I hi S F (λC fp ga s H=>fV (J C fp ga s H)) O hs
theorem X6 {i:Nat}{y:Str}{J O:Pos}(hN:X.N.Nodup)(ae:X.N[i]?=some y)(hy:Ig X.env.scope y)
  (hc:X.C5=true)(hi:PI X tg iter wi)(S:Gz X scope cl Nc cap)
  (hg:∀C fp ga s H,PG (Cp X scope cl C Nc fp ga s H) tg g)(ht:∀C fp ga s H,Mb (Cp X scope cl C Nc fp ga s H) ifs tt)(he:∀C fp ga s H,PE (Cp X scope cl C Nc fp ga s H) elt te)
  (ad:vO (.ListComp elt [⟨tg,iter,ifs,0⟩] scope pos) (some (.Name y J)) O.line X.env=pure true:=by rfl)(hs:∀z,rR iter X.env z=pure z:=by intro _;rfl)
  (hf:X.fn y=true\/X.env.scope.names.lookup y=some .local:=by first|exact .inl rfl|exact .inr rfl|assumption) :
  PS X (.Assign [.Name y J] (.ListComp elt [⟨tg,iter,ifs,0⟩] scope pos) O) (JV (KD Nc.length cap wi g tt te) (BU i)):=by
 intro ga s σ H D I h;rw[exec_Assign_Name_used _ _ _ _ ad];refine nH (vZ (nH ?_));show wpAny _ X.A (do let _ <-comprehension (.ListComp elt [⟨tg,iter,ifs,0⟩] scope pos) scope X.env _ (newList []) false (eval iter X.env) (some (wM (.Name y J) X.env))) _ _ s;refine nH (qK (Sr (use:=some (wM (.Name y J) X.env)) (P:=λ_ s'=>SP X ga D .next s') hc hi S hg ht he hs I h λaa C H5 s6 m6 af F ag qn=>?_) (λ_ s' hq=>oy (oy hq)) λ_ _ e=>e);show wpAny (model X.prog X.w) X.A (wM (.Name y J) X.env (.ref aa)) _ X.xe s6;refine zj (SW (v:=.ref aa) af hN ae hy rfl (λs7 I7 ⟨a7,ab,e7⟩=>?_) hf);have nC:C≠a7:=by
  rcases e7 with e7|e7
  ·rw[e7];exact F.2.1
  ·exact rN (F.2.2.2.2.1 _ _ e7)
 refine⟨m6,ag.sameBut ab nC,λh8 ac=>⟨_,H5,?_,qn⟩⟩;exact I7.Fu (t':=s7.toks) (λb o hb q=>(ac.2 b hb).trans q) F.1 F.2.1 F.2.2.2.1 F.2.2.2.2.1 F.2.2.2.2.2
theorem Jk {i:Nat}{y:Str}{F I:Pos}(hN:X.N.Nodup)(ab:X.N[i]?=some y)(J:Ig X.env.scope y)
  (hc:X.C5=true)(hi:PI X tg iter wi)(S:Gz X scope cl Nc cap)
  (O:∀C fp ga s H,PG (Cp X scope cl C Nc fp ga s H) tg g)(he:∀C fp ga s H,PE (Cp X scope cl C Nc fp ga s H) elt te)
  (aa:vO (.ListComp elt [⟨tg,iter,[],0⟩] scope pos) (some (.Name y F)) I.line X.env=pure true:=by rfl)(hs:∀z,rR iter X.env z=pure z:=by intro _;rfl)
  (hf:X.fn y=true\/X.env.scope.names.lookup y=some .local:=by first|exact .inl rfl|exact .inr rfl|assumption) :
  PS X (.Assign [.Name y F] (.ListComp elt [⟨tg,iter,[],0⟩] scope pos) I) (JV (L8 Nc.length cap wi g te) (BU i)) :=
 R8 ▸ X6 (ifs:=[]) hN ab J hc hi S O (λ_ _ _ _ _=>UQ) he aa hs hf
end
section
variable {X:Cx}
def Ba(i:Int):Prop:=i.natAbs<2 ^ 8968
theorem VE(h:Ba i):i.natAbs.log2<8968:=by
 by_cases z:i.natAbs=0
 ·rw[z];decide
 ·exact(Nat.log2_lt z).mpr h
theorem Ta(h:Ba i):x8 i<=8969:=by
 have:=VE h
 unfold x8;split<;>omega
def L6(i j:Int):Prop:=Ba i/\Ba j
theorem Cz:Bg X (rK .Mult) (rI L6 λi j=>.int (i*j)):=Jg λ_ _ _ _ _ _ _ F q=>mul_int q (IntMulOk.of_bits (oa (Ta F.1) (by decide)) (oa (Ta F.2) (by decide)))
def JQ(_ j:Int):Prop:=j≠0/\Ba j
theorem Hw:Bg X (rK .FloorDiv) (rI JQ λi j=>.int (i.fdiv j)):=Jg λ_ _ _ _ _ _ _ F q=>floordiv_int F.1 q (.inl (PyProof.noPylong_of_log2 (by have:=VE F.2;omega)))
def MT(lo step:Int)(n:Nat):It:=⟨λi _=>i<n,λi H x H'=>H'=H/\x=.int (lo+i*step),λi _=>n<=i⟩
theorem Y7{P:oT}{w:World}{K:nI}{tg:oU}(F:Addr)(lo step:Int)(n:Nat):Ga P w K tg (MT lo step n) [F] F (λi h=>w9 h F (lo+(i:Nat)*step) ((n:Int)-(i:Nat)) step) where
 mem:=by simp
 Cv:=λi h st b J=>by
  obtain rfl:b=F:=by simpa using J
  exact⟨_,st,λv z=>by
   have z':wZ _=vG v:=z;cases z'⟩
 keep:=λi h h' st k=>k F (by simp) _ st
 item:=by
  intro X hP hw hK hc i ga s σ H E I O st hg;subst hP hw hK;obtain⟨f0,f1,f2,f3,f4,f5⟩:=O F (by simp);have W:=Walks.range (prog:=X.prog) (w:=X.w) (I.ok.hd hc) F lo step n;refine W.item i s _ _ hg st λv h' tk hv aa kk=>?_
  obtain⟨t,rfl⟩:=hv;have I1:AI X ga σ H { s with heap:=h',toks:=tk}:=I.Fu (λb o J e=>kk b o (by simpa using J) e) f0 f1 f3 f4 f5;exact⟨_,U,OM (s:={ s with heap:=h',toks:=tk}) (n:="range_iterator") aa rfl rfl (by decide) ⟨.int (lo+i*step),H,I1,⟨t,U⟩,⟨U,U⟩,aa,λb J=>(O b J).1⟩⟩
 done:=by
  intro X hP hw hK hc i ga s σ H E I O st hg;subst hP hw hK;obtain⟨f0,f1,f2,f3,f4,f5⟩:=O F (by simp);exact xu (I.ok.hd hc) st (by have:n<=i:=hg;omega) λh' eb=>⟨U,I.Fu (t':=s.toks) (λb o J e=>eb b o J e) f0 f1 f3 f4 f5⟩
 HX:=λ_ _ _ _ _ st h=>xt st h
theorem cH {lo step:Int}{n:Nat}{g:TG}{tb:TS}{D:Dd}{σ:St}{H:Hp}(F:Nat->St->Hp->Prop)(h0:F 0 σ H)
  (hs:∀i σ H,i<n->F i σ H->g (.int (lo+i*step)) σ H λI H2=>tb { D with nx:=F (i+1),ct:=F (i+1),bk:=D.nx} I H2)(hd:∀σ H,F n σ H->D.nx σ H) :
  ∃W:Nat->Nat->St->Hp->Prop,(∃m,W 0 m σ H)/\∀i m σ H,W i m σ H →
   ((MT lo step n).EH i H/\D.nx σ H)\/((MT lo step n).go i H/\∃N:St->Hp->Prop,(∀O H',N O H'->∃m',m' < m/\W (i+1) m' O H')/\∀x H',(MT lo step n).EL i H x H'->g x σ H' λI H2=>tb { D with nx:=N,ct:=N,bk:=D.nx} I H2):=by
 refine⟨λi m σ H=>m=n-i/\i<=n/\F i σ H,⟨n,by simp,pJ _,h0⟩,?_⟩;rintro i m σ H ⟨rfl,hi,p⟩;rcases oP i n with J|hge
 ·refine .inr ⟨J,F (i+1),λO H' p'=>⟨n-(i+1),by omega,U,J,p'⟩,λx H' y=>?_⟩;obtain⟨e,y⟩:=y;subst e y;exact hs i σ _ J p
 ·obtain rfl:i=n:=by omega
  exact .inl ⟨nG _,hd σ H p⟩
def lV(K:nI)(c:V)(cv:Value):List V->Hp->VK->Prop:=λxs H Q=>∃x t b,xs=[x,c]/\Df K H x t/\uC K t cv=some b/\Q (.bl b) H
theorem LR(J:∀u,Av c u->u=cv):DJ X (.builtin "isinstance") (lV X.K c cv):=by
 intro ga s σ H xs us Q I r h;obtain⟨x,t,b,rfl,ty,e,q⟩:=h;obtain⟨u,F,rfl,O,r2⟩:=OR r;cases J F r2;exact ZH I O ty e λtk=>⟨.bl b,H,I.DG _,U,q⟩
theorem K6:qi "isinstance" = some (.builtin "isinstance"):=by decide +kernel
theorem jM:qi "int" = some (.type "int"):=by decide +kernel
theorem eZ:qi "bool" = some (.type "bool"):=by decide +kernel
theorem Et:qi "tuple" = some (.type "tuple"):=by decide +kernel
theorem jh:qi "all" = some (.builtin "all"):=by decide +kernel
theorem Ee:qi "len" = some (.builtin "len"):=by decide +kernel
theorem iq:qi "abs" = some (.builtin "abs"):=by decide +kernel
theorem jf:qi "max" = some (.builtin "max"):=by decide +kernel
theorem hZ:qi "min" = some (.builtin "min"):=by decide +kernel
theorem NL(K:nI)(t:Value):uC K t t=some true:=by
 unfold uC;rw[nF (beq_self_eq_true t)]
theorem X5(K:nI):uC K (.type "int") (.type "bool")=some false:=by first|rfl|decide +kernel|kernel_rfl
theorem U6:∀{bs:List Bool} {us:List Value},Ag (bs.map V.bl) us->us=bs.map sG
 |[],_,.nil=>rfl
 |b :: r,_,.cons (b:=u) h t=>by
  have h':u=sG b:=h;rw[h',U6 t];rfl
def kc(K:nI):List V->Hp->VK->Prop:=λxs H Q=>∃(p:Addr) (bs:List Bool),xs=[.ref p]/\AR K H p (bs.map V.bl)/\Q (.bl (bs.all id)) H
theorem Yn(bs:List Bool):((nz bs.length).all λi=>(bs[i]?).getD true)=bs.all id:=by
 rw[qc,sW,sW];constructor
 ·intro h b I;obtain⟨i,hi,rfl⟩:=List.mem_iff_getElem.mp I
  have:=h i (oJ.mpr hi)
  rw[nh hi]at this;exact this
 ·intro h i hi;have F:=oJ.mp hi;rw[nh F];exact h _ (oK F)
theorem Y4(hc:X.C5=true):DJ X (.builtin "all") (kc X.K):=by
 intro ga s σ H xs us Q I r h;obtain⟨p,bs,rfl,hq,q⟩:=h;obtain⟨u,rfl,r1⟩:=IL r;cases r1;obtain⟨ac,rv,pl,hz⟩:=I.list hq;have e:=U6 rv;subst e;have aa:p<s.heap.objs.size:=by
  obtain⟨o,_,ho,_⟩:=pl;exact oq ho
 refine call_all_walk (sv pl.isList ?_);refine⟨s.heap.objs.size,_,_,_,_,_,λi=>(bs[i]?).getD true,U,Walks.list (show X.A.in1.handled=none from I.ok.hd hc) _ p (pV aa) (bs.map sG).toArray,⟨⟨_,oF _ rfl,U,U⟩,pl.isList.push _⟩,λi v s' Q' E' F J=>?_,λh' tk k=>?_⟩
 ·have F:(bs.map sG).toArray[i]?=some v:=F;have J:Q' ((bs[i]?).getD true) s':=J;rw[uU,nJ]at F;cases e:bs[i]? with
  |none=>rw[e]at F;cases F
  |some b =>
   rw[e]at F;obtain rfl:sG b=v:=nV F;have ab:Q' b s':=by
    rw[e]at J;exact J
   exact oy ab
 ·refine⟨.bl (bs.all id),H,I.CG λb o O=>?_,?_,q⟩
  ·exact k b o (λz=>by
    have:b=s.heap.objs.size:=by simpa using z
    exact absurd (oq O) (by rw[this];exact sj _)) (nN _ O)
  ·show sG _=sG _;rw[n8,nc,Yn]
end
section
variable {prog:oT}{w:World}{A:qu}{E:Value->nP->Prop}{s:nP}
theorem SE {c t:Addr}{k:Nat}{vs:Array Value}{y:Value}{Q:Value->nP->Prop}(O:s.heap.IsTupleIter c t k)(ht:s.heap.IsTuple t vs)(hy:vs[k]?=some y)
  (hQ:∀h',h'.IsTupleIter c t (k+1)->rP c s.heap h'->Q y { s with heap:=h'}):wpAny (model prog w) A (pR (.ref c)) Q E s:=by
 obtain⟨ob,J,e2,I⟩:=id O;obtain⟨ot,f1,_,nt,f2⟩:=ht;unfold pR;refine nH (rV (name:=ve "__next__") O.typeIs rJ (tX rJ O.typeIs uL ?_ (uJ _)));show wpAny _ _ (field (.ref c) 0 >>= _) _ _ s;refine nH (qJ J I (x:=.ref t) rfl ?_);show wpAny _ _ (if (qw t == tV)=true then _ else _) _ _ _;rw[nv (show ¬((qw t == tV)=true) by exact oz)];show wpAny _ _ (field (.ref c) 1 >>= _) _ _ s;refine nH (qJ J I (x:=.int k 0) rfl ?_);show wpAny _ _ (seqItems? (.ref t) >>= _) _ _ _;refine nH (rY f1 f2 ?_);simp only[qe,hy];refine nH (wpAny_setField J I (by simp) (oy ⟨y,U,oy (hQ _ ?_ (ya ..))⟩));exact⟨_,uS _ J (Obj.isFreed_of_fields (yG I _)),(Obj.cls_mapFields ..).trans e2,by rw[yG I];simp[vN]⟩
theorem S2 {c t:Addr}{k:Nat}{vs:Array Value}{Q:Value->nP->Prop}(hh:A.handled=none)(I:s.heap.IsTupleIter c t k)(ht:s.heap.IsTuple t vs)(hy:vs[k]?=none)
  (hE:∀h' x,w6 c s.heap h'->(∃o,h'.get? x=some o/\o.cls=.type "StopIteration")->E (.ref x) { s with heap:=h'}):wpAny (model prog w) A (pR (.ref c)) Q E s:=by
 obtain⟨ob,O,e2,J⟩:=id I;obtain⟨ot,f1,_,nt,f2⟩:=ht;unfold pR;refine nH (rV (name:=ve "__next__") I.typeIs rJ (tX rJ I.typeIs uL ?_ (uJ _)));show wpAny _ _ (field (.ref c) 0 >>= _) _ _ s;refine nH (qJ O J (x:=.ref t) rfl ?_);show wpAny _ _ (if (qw t == tV)=true then _ else _) _ _ _;rw[nv (show ¬((qw t == tV)=true) by exact oz)];show wpAny _ _ (field (.ref c) 1 >>= _) _ _ s;refine nH (qJ O J (x:=.int k 0) rfl ?_);show wpAny _ _ (seqItems? (.ref t) >>= _) _ _ _;refine nH (rY f1 f2 ?_);simp only[qe,hy];refine nH (xT (nH (wpAny_setField O J (by simp) ?_)));show wpAny _ _ (newExc (.type "StopIteration") [] >>= _) _ _ (_:nP);refine nH ?_;simp only[newExc,newTuple];refine nH (rh ?_ (by size_fits));refine nH (m:=firstArgMember _ _) (wpAny_of_eq (a:=tV) (by first|rfl|(simp only[firstArgMember];rfl)) ?_);refine rh ?_ (by size_fits);simp only[raiseNew];refine nH (wpAny_handled ?_);first|rw[show A.in1.handled=none from hh]|rw[hh]
 refine nH (oy (wpAny_throw (hE _ _ (((ya ..).extBut.push _).push _) ⟨_,oF _ rfl,U⟩)))
theorem V1(hh:A.handled=none)(c t:Addr)(aa:t≠c)(F:Array Value):
  Draws prog w A c [c,t] F.size (λi v=>F[i]?=some v) (λi h=>h.IsTupleIter c t i/\h.IsTuple t F) where
 live:=λ_ _ st=>let ⟨o,ho,_⟩:=st.1;⟨o,ho⟩
 frame:=λ_ _ _ st I=>⟨let ⟨o,ho,r⟩:=st.1;⟨o,I c (by simp) o ho,r⟩,let ⟨o,ho,r⟩:=st.2;⟨o,I t (by simp) o ho,r⟩⟩
 item:=λi s' Q' E' hi st hQ=>SE st.1 st.2 (y:=F[i]) (by simp[hi]) λh' O J=>hQ _ h' s'.toks (by simp[hi]) ⟨O,st.2.extBut J.extBut aa⟩ J
 done:=λs' Q' E' st hE=>S2 hh st.1 st.2 (by simp) hE
set_option maxHeartbeats 1000000 in
theorem YC(t:Addr)(I:Array Value)(n:Nat)(O:Option Addr)(sl:Array (Option Value)):
  Meets (oS.«enumerate.__new__» ⟨[.type "enumerate",.ref t],[]⟩) (λ_ R s=>s.heap.get? t=some { cls:=.type "tuple",dict:=O,data:=.seq I n,slots:=sl} /\
   R (.ok (.ret (.ref (s.heap.push { cls:=.type "tuple_iterator",data:=.fields #[.ref t,.int 0 0]}).objs.size)))
    { s with heap:=(s.heap.push { cls:=.type "tuple_iterator",data:=.fields #[.ref t,.int 0 0]}).push { cls:=.type "enumerate",data:=.fields #[.none,.bool false,.ref s.heap.objs.size,vN 0,.none,.none]}}) :=
 .of_wp λprog w A R s h=>by
  obtain⟨hp,g,d,tk,os⟩:=s;obtain⟨F,h⟩:=h;have aa:=sub_enumerate;have J:sU (sN ⟨hp,g,d,tk,os⟩) t I:=⟨_,F,U,n,U⟩
  wp_walk using ug F
  refine wpAny_stack_any λst=>oy ?_
  split
  ·rename_i c _ _ _ _ _
   cases (c == Value.type "enumerate")<;>(wp_walk using ug F,qX J;exact⟨_,U,h⟩)
  ·wp_walk using ug F,qX J;exact⟨_,U,h⟩
theorem YR {t:Addr}{I:Array Value}{Q:Value->nP->Prop}(hT:s.heap.IsTuple t I)
  (h:∀h',IsEnum h' (s.heap.objs.size+1) s.heap.objs.size 0 .none->h'.IsTupleIter s.heap.objs.size t 0->(∀b o,s.heap.get? b=some o->h'.get? b=some o)->Q (.ref (s.heap.objs.size+1)) { s with heap:=h'}) :
  wpAny (model prog w) A (call (.type "enumerate") [.ref t]) Q E s:=by
 obtain⟨⟨c,aa,dt,sl⟩,ht,O,n,hd⟩:=hT;obtain rfl:c=.type "tuple":=O;obtain rfl:dt=.seq I n:=hd;refine callType_new PySem.F.called_enumerate (by decide) (PySem.F.typeCall_enumerate_1 _) (PySem.F.newCall_enumerate_1 _) (λab=>PySem.F.args_object_init_2 ab _) PySem.F.entry_enumerate_new (YC t I n aa sl) ⟨ht,?_⟩;have z:(s.heap.push { cls:=.type "tuple_iterator",data:=.fields #[.ref t,.int 0 0]}).objs.size=s.heap.objs.size+1:=rX ..;show _/\_;rw[z];have J:IsEnum ((s.heap.push { cls:=.type "tuple_iterator",data:=.fields #[.ref t,.int 0 0]}).push { cls:=.type "enumerate",data:=.fields #[.none,.bool false,.ref s.heap.objs.size,vN 0,.none,.none]}) (s.heap.objs.size+1) s.heap.objs.size 0 .none:=by
  have q:=oF (s.heap.push { cls:=.type "tuple_iterator",data:=.fields #[.ref t,.int 0 0]}) (o:={ cls:=.type "enumerate",data:=.fields #[.none,.bool false,.ref s.heap.objs.size,vN 0,.none,.none]}) rfl;rw[z]at q;exact q
 exact⟨⟨_,J,U⟩,h _ J ⟨_,nN _ (oF _ rfl),U,U⟩ λb o q=>nN _ (nN _ q)⟩
end
section
variable {X:Cx}
def MY(a:Addr): It :=
  ⟨λi H => ∃xs x,H a=some (.AG xs)/\xs[i]? = some x,
   λi H v H' => ∃p x,v = .ref p/\H p=none/\H' = AF H p (.AG [.int i,x]) /\ ∀xs,H a=some (.AG xs) → xs[i]? = some x,
   λi H => ∃xs,H a=some (.AG xs)/\xs.length=i⟩
theorem ZI{P:oT}{w:World}{K:nI}{es:List oU}{kk:Nat}{pos:Pos}{a e J:Addr}(ae:e≠J):
  Ga P w K (.Tuple es kk pos) (MY a) [e,J] e (λi h=>(∃ab,IsEnum h e J ((i:Nat):Int) ab)/\h.IsTupleIter J a i) where
 mem:=by simp
 Cv:=λi h st c F=>by
  obtain⟨⟨ab,h1⟩,o2,h2,_,d2⟩:=st;simp only[nZ,pD,qV]at F;rcases F with rfl|rfl
  ·exact⟨_,h1,λv z=>by have z':wZ _=vG v:=z;cases z'⟩
  ·exact⟨_,h2,λv z=>by rw[d2]at z;cases z⟩
 keep:=λi h h' st k=>by
  obtain⟨⟨ab,h1⟩,o2,h2,r⟩:=st;exact⟨⟨ab,k e (by simp) _ h1⟩,o2,k J (by simp) _ h2,r⟩
 item:=by
  intro X hP hw hK F i ga s σ H E I hf st hg;subst hP hw hK;obtain⟨xs,x,qa,hx⟩:=hg;obtain⟨O,rv,pa,_⟩:=I.tuple (AJ.of (K:=X.K) qa);obtain⟨ux,af,rx⟩:=rv.BZ hx;obtain⟨⟨ab,h1⟩,h2⟩:=st;have al:e≠a:=λz=>by
   have:=(hf e (by simp)).1
   rw[z,qa]at this;cases this
  have ad:a≠J:=λz=>by
   have:=(hf J (by simp)).1
   rw[<-z,qa]at this;cases this
  have ao:i<O.toArray.size:=by
   rw[n8];exact(nj.mp af).1
  have D:Draws X.prog X.w X.A.in1 J [J,a] O.toArray.size (λi v=>O.toArray[i]?=some v) (λi h=>h.IsTupleIter J a i/\h.IsTuple a O.toArray):=V1 (show X.A.in1.handled=none from I.ok.hd F) J a ad O.toArray;refine wpAny_pyNext_enum_itemD D h1 ⟨h2,pa⟩ ao ae (by simp[ae,al]) λy h' tk hy a1 a2 a3 a4 k=>?_
  have ai:y=ux:=by
   have q1:O.toArray[i]?=some y:=hy;rw[uU,af]at q1;exact(nV q1).symm
  subst ai;refine⟨_,U,wpAny_letOwnedTupleGo_enum a1 λaa b1 sb=>?_⟩;have sb:rP e h' aa:=sb;have ag:s.heap.objs.size≠e:=tI (oq h1);have aj:s.heap.objs.size≠J:=by
   obtain⟨o,g,_⟩:=id h2;exact tI (oq g)
  have hn:H s.heap.objs.size=none:=I.Ap.CB (nG _);have ac:∀c o,c∉[e,J]->s.heap.get? c=some o->aa.get? c=some o:=λc o F q =>
   (sb.2 c λz=>F (by simp[z])).trans (k c o (λz=>F (by simp[z])) (λz=>F (by simp[z])) q)
  have tO:aa.get? s.heap.objs.size=some { cls:=.type "tuple",data:=.seq #[.int i tk,y]}:=(sb.2 _ ag).trans a3;have nt:∀c u,H c=some u->c∉[e,J]:=λc u q F=>by
   have:=(hf c F).1
   rw[q]at this;cases this
  have ak:Bx X.prog X.w (AF H s.heap.objs.size (.AG [.int i,x])) aa s.heap.objs.size (.AG [.int i,x]) :=
   ⟨by exact CQ,[.int i tk,y],.cons ⟨tk,U⟩ (.cons rx .nil),⟨_,tO,U,_,U⟩,_,tO,U⟩
  have I1:AI X ga σ (AF H s.heap.objs.size (.AG [.int i,x])) { s with heap:=aa,toks:=tk+1}:=by
   refine I.step (g':=s.gens) (d':=s.drawn) (t':=tk+1) (ch:=[e,J]) (λc F=>⟨(hf c F).2.2.2.1,(hf c F).2.1,(hf c F).2.2.2.2.1,(hf c F).2.2.2.2.2⟩) (λc o _ _ F q _=>ac c o F q) (λc o _ _ F q _=>⟨o.slots,ac c o F q⟩)
    (λc o _ q n=>by rw[As (pV (oq q))];exact n) (λc o F q=>⟨o,ac c o F q⟩) (λc vs q=>by rw[As (B8 q hn)];exact q) (λc o vs q=>by rw[As (B8 q hn)];exact q)
    (λc ps q=>⟨#[],by rw[As (B8 q hn),q];simp⟩) (λm hm=>?_) (λc o q=>?_) I.Ds
   ·obtain⟨o,am,ep,ho,r⟩:=hm;exact⟨o,am,ep,ac _ o (λq=>(hf _ q).2.1 rfl) ho,r⟩
   ·by_cases ah:c=s.heap.objs.size
    ·subst ah;rw[AY]at q;cases q;exact ak
    ·rw[As ah]at q;refine(I.Ap c o q).Hc (λd v hd z=>ac d v ?_ z) (λd z=>by rw[As (B8 z hn)];exact z) λd vs z=>by rw[As (B8 z hn)];exact z
     rcases hd with hd|hd
     ·rw[hd];exact nt c o q
     ·exact nt d _ hd
  have g2:aa.IsTupleIter J a (i+1):=by
   obtain⟨⟨o,g,r⟩,_⟩:=a2;exact⟨o,(sb.2 _ (rN ae)).trans g,r⟩
  have g1:IsEnum aa e J (((i+1:Nat)):Int) y:=by
   have:((i+1:Nat):Int)=(i:Int)+1:=by lia
   rw[this];exact b1
  exact⟨.ref s.heap.objs.size,_,I1,U,⟨_,x,U,hn,U,λap q=>by rw[qa]at q;cases q;exact hx⟩,⟨⟨_,g1⟩,g2⟩,λc F=>by
   have:c≠s.heap.objs.size:=by
    simp only[nZ,pD,qV]at F;rcases F with rfl|rfl
    ·exact rN ag
    ·exact rN aj
   rw[As this];exact(hf c F).1⟩
 done:=by
  intro X hP hw hK F i ga s σ H E I hf st hg;subst hP hw hK;obtain⟨xs,qa,hl⟩:=hg;obtain⟨O,rv,pa,_⟩:=I.tuple (AJ.of (K:=X.K) qa);obtain⟨⟨ab,h1⟩,h2⟩:=st;have ad:a≠J:=λz=>by
   have:=(hf J (by simp)).1
   rw[<-z,qa]at this;cases this
  have D:Draws X.prog X.w X.A.in1 J [J,a] O.toArray.size (λi v=>O.toArray[i]?=some v) (λi h=>h.IsTupleIter J a i/\h.IsTuple a O.toArray):=V1 (show X.A.in1.handled=none from I.ok.hd F) J a ad O.toArray;have hi:O.toArray.size=i:=by
   rw[n8,<-rv.length];exact hl
  obtain⟨f0,f1,f2,f3,f4,f5⟩:=hf J (by simp);refine wpAny_pyNext_enum_endD D h1 (by rw[hi];exact⟨h2,pa⟩) λh' k=>⟨U,I.Fu (t':=s.toks) (λb o hb q=>k b o hb q) f0 f1 f3 f4 f5⟩
 HX:=λ_ _ _ _ _ st h=>by
  obtain⟨⟨ab,h1⟩,_⟩:=st;exact zm h1 h
def WW(ta:TA):TI:=λσ H R=>ta σ H λF H1=>∃a xs,F=[.ref a]/\H1 a=some (.AG xs)/\R (MY a) H1
theorem Nf{es:List oU}{kk:Nat}{tpos:Pos}{a:oU}{ta:TA}{p pos:Pos}(hg:Gl X "enumerate")(hm:X.mg "enumerate" = none)(ha:PA X [a] ta)(hs:oG [a] X.env=[(false,eval a X.env)]:=by rfl):
  PI X (.Tuple es kk tpos) (.Call (.Name "enumerate" p) [a] [] pos) (WW ta):=by
 intro ga s σ H R I h;refine Call_ (FP I hg hm PyProof.Rows.boot_enumerate (pI (Af (ha pos ga s σ H _ I h) λus J ⟨vs,H1,F,r1,q1⟩=>?_) hs rfl));obtain⟨la,xs,e,qa,q⟩:=q1;subst e;obtain⟨u1,rfl,ra⟩:=IL r1;cases ra;obtain⟨aa,rv,pa,_⟩:=F.tuple (AJ.of (K:=X.K) qa);refine YR pa λh' z1 z2 zk=>zm z1 ?_
 have I2:AI X ga σ H1 { J with heap:=h'}:=F.CG (t':=J.toks) zk;refine⟨J.heap.objs.size+1,_,_,_,H1,U,I2,ZI (Nat.succ_ne_self _),⟨⟨_,z1⟩,z2⟩,λc hc=>?_,q⟩;have O:J.heap.objs.size<=c:=by
  simp only[nZ,pD,qV]at hc;rcases hc with rfl|rfl<;>lia
 exact F.JY (H':=H1) O (F.Ap.CB O)
theorem ND {a:Addr}{xs:List V}{g:TG}{tb:TS}{D:Dd}{σ:St}{H:Hp}(F:Nat->St->Hp->Prop)(h0:F 0 σ H)(hl:∀i σ H,i<=xs.length->F i σ H->H a=some (.AG xs))
  (hs:∀i x σ H p,xs[i]?=some x->F i σ H->H p=none->g (.ref p) σ (AF H p (.AG [.int i,x])) λI H2=>tb { D with nx:=F (i+1),ct:=F (i+1),bk:=D.nx} I H2)(hd:∀σ H,F xs.length σ H->D.nx σ H) :
  ∃W:Nat->Nat->St->Hp->Prop,(∃m,W 0 m σ H)/\∀i m σ H,W i m σ H →
   ((MY a).EH i H/\D.nx σ H)\/((MY a).go i H/\∃N:St->Hp->Prop,(∀O H',N O H'->∃m',m' < m/\W (i+1) m' O H')/\∀x H',(MY a).EL i H x H'->g x σ H' λI H2=>tb { D with nx:=N,ct:=N,bk:=D.nx} I H2):=by
 refine⟨λi m σ H=>m=xs.length-i/\i<=xs.length/\F i σ H,⟨xs.length,by simp,pJ _,h0⟩,?_⟩;rintro i m σ H ⟨rfl,hi,p⟩;have J:=hl i σ H hi p;rcases oP i xs.length with aa|hge
 ·refine .inr ⟨⟨xs,xs[i],J,by simp[aa]⟩,F (i+1),λO H' p'=>⟨xs.length-(i+1),by lia,U,aa,p'⟩,λv H' yl=>?_⟩;obtain⟨pa,x,rfl,hp,rfl,hx⟩:=yl;exact hs i x σ H pa (hx xs J) p hp
 ·obtain rfl:i=xs.length:=by lia
  exact .inl ⟨⟨xs,J,U⟩,hd σ H p⟩
def cL:V->List V->Hp->VK->Prop:=λx F H Q=>∃l xs k y,x=.ref l/\F=[.int k,y]/\H l=some (.AE xs)/\0<=k/\k<=xs.length/\xs.length<1000000/\Q .BE (AF H l (.AE (xs.take k.toNat++y :: xs.drop k.toNat)))
theorem Yv:MR X "list.insert" cL:=by
 intro ga s σ H x vs v us Q I rx rv h;obtain⟨l,xs,k,y,rfl,rfl,O,k0,k1,hz,q⟩:=h;cases rx;obtain⟨u1,u2,rfl,r1,r2⟩:=OR rv;obtain⟨t,rfl⟩:=r1;obtain⟨z,J,n,r,hl,e⟩:=I.F2 O;have aa:J.length<=og:=by rw[<-hl];exact z
 have ab:¬(!Builtin.List.listFitsIndex k)=true:=by
  unfold oS.List.listFitsIndex;simp only[Bool.not_eq_true,Bool.not_eq_false',pA,su]
  lia
 refine uD wJ ⟨_,e,U⟩ PySem.F.entry_list_insert (PySem.F.args_list_insert_3 _ _ _) (AutoSeq1.list_insert_list_int_val_1 l J.toArray n k t u2 ab (by rw[n8];exact aa)) ⟨e,?_⟩;refine⟨.BE,_,I.Oa (its':=J.take k.toNat++u2 :: J.drop k.toNat) O e ?_ ((r.take _).append (.cons r2 (r.drop _))) ?_,U,q⟩
 ·have hk:¬k<0:=by lia
  have hm:min k.toNat J.toArray.size=k.toNat:=by rw[n8];lia
  simp only[nv hk,hm];apply Array.toList_inj.mp;simp;exact ou (by simp)
 ·rw[nO,oA,pB,o6];rw[r6]at *
  lia
end
section
variable {X:Cx}
theorem Jt(h:k (σ.set i (some v)) H):BU i v σ H k:=h
theorem Jw{t u:L2.TS}{D:Dd}{σ:L2.St}{H:Hp}(h:∀U:L2.St->Hp->Prop,u D=U->t { D with nx:=U} σ H):Kl t u D σ H:=h _ rfl
theorem nx_hide{t:L2.TS}{N c b:L2.St->Hp->Prop}{r:VK}{σ:L2.St}{H:Hp}(h:∀U:L2.St->Hp->Prop,N=U->t { nx:=U,rt:=r,ct:=c,bk:=b} σ H):t { nx:=N,rt:=r,ct:=c,bk:=b} σ H:=h _ rfl
variable {a:Addr}{xs:List V}{g:TG}{tb:TS}{D:Dd}{σ:St}{H:Hp}
theorem Dn {X:Cx}{o e:oU}{es:List oU}{to:TE}{t:TA}{name:Str}{apos cpos:Pos}{T id:String}{r:V->List V->Hp->VK->Prop}(pa:PlainAttrs T)(ac:Slot T name id)(ad:typeOf (.builtin id)=pure (.type "method_descriptor"))(O:Ks X id r)(ho:PE X o to)(ha:PA X (e :: es) t)
  (aa:vW o name X.env (eval o X.env)=eval o X.env:=by rfl)
  (J:((rW cpos (oG (e :: es) X.env)).all (λx=>!x.1) && (zL cpos (xm [] X.env)).all (λx=>x.1.isSome) && decide ((e :: es).length+([]:List uT).length+(if ([]:List uT).isEmpty then 0 else 1)<30))=true:=by rfl)
  (ab:(apos.endLine == cpos.line)=true:=by rfl)(hs:oG (e :: es) X.env=(false,eval e X.env) :: oG es X.env:=by rfl)(F:(rW cpos (oG es X.env)).any (·.1)=false:=by rfl) :
  PE X (.Call (.Attribute o name apos) (e :: es) [] cpos) (XW [] T r to t):=λga s σ H Q I h=>jr pa ac ad O ho.wk ha aa J ab hs F ga s σ H Q I ⟨_,h,λ_ _ ⟨ty,q⟩=>⟨ty.up,q⟩⟩
theorem Jl:∀{F:List Int} {us:List Value},Ag (F.map V.int) us->vt us F
 |[],_,.nil=>.nil
 |n :: r,_,.cons (b:=u) h t=>by
  obtain⟨k,rfl⟩:=h;exact .cons n k (Jl t)
theorem Mf(F:List Int):uz (.tuple (F.map tU))=true:=by
 simp[uz,xF,vc,xG,yk]
theorem Tn(F ms:List Int):zX (.tuple (F.map tU)) (.tuple (ms.map tU))=decide (F=ms):=by
 simp only[zX];exact PySem.W.ke_sameAll F ms
theorem LA(O:X.A.units+64<cLine):Bg X (qP .NotEq) (λx y H Q=>∃(p q:Addr) (F ms:List Int),x=.ref p/\y=.ref q/\H p=some (.AG (F.map V.int))/\H q=some (.AG (ms.map V.int))/\Q (.bl (!decide (F=ms))) H):=by
 intro ga s σ H x y v u Q I J ry h;obtain⟨p,q,F,ms,rfl,rfl,hp,hq,k⟩:=h;cases J;cases ry;obtain⟨ab,r1,t1,_⟩:=I.tuple (AJ.of (K:=X.K) hp);obtain⟨aa,r2,t2,_⟩:=I.tuple (AJ.of (K:=X.K) hq);refine ne_dataH_same (uQ t1 (Jl r1)) (uQ t2 (Jl r2)) (Mf F) (Mf ms) O (xS (.tuples .int) rfl _ _ (vC λ_=>rfl) (vC λ_=>rfl)) ?_;rw[Tn];exact⟨.bl _,H,I,U,k⟩
theorem Sh(O:X.A.units+64<cLine):Bg X (qP .Eq) (λx y H Q=>∃(p q:Addr) (F ms:List Int),x=.ref p/\y=.ref q/\H p=some (.AG (F.map V.int))/\H q=some (.AG (ms.map V.int))/\Q (.bl (decide (F=ms))) H):=by
 intro ga s σ H x y v u Q I J ry h;obtain⟨p,q,F,ms,rfl,rfl,hp,hq,k⟩:=h;cases J;cases ry;obtain⟨ab,r1,t1,_⟩:=I.tuple (AJ.of (K:=X.K) hp);obtain⟨aa,r2,t2,_⟩:=I.tuple (AJ.of (K:=X.K) hq);refine eq_dataH_same (uQ t1 (Jl r1)) (uQ t2 (Jl r2)) (Mf F) (Mf ms) O (xS (.tuples .int) rfl _ _ (vC λ_=>rfl) (vC λ_=>rfl)) ?_;rw[Tn];exact⟨.bl _,H,I,U,k⟩
def Bu(t:Bool)(h:Heap)(c a:Addr)(k:Nat):Prop:=if t then h.IsTupleIter c a k else h.IsListIter c a k
def DO(t:Bool)(h:Heap)(a:Addr)(F:Array Value):Prop:=if t then h.IsTuple a F else h.IsList a F
theorem Bu.ext(x:Bu t h c a k)(hs:w6 b h h')(n:c≠b):Bu t h' c a k:=by
 cases t
 ·exact zO.extBut x hs n
 ·exact aao x hs n
theorem Bu.at(x:Bu t h c a k)(e:∀o,h.get? c=some o->h'.get? c=some o):Bu t h' c a k:=by
 cases t
 ·exact zO.at x e
 ·exact zy.at x e
theorem Bu.Cv(x:Bu t h c a k):∃o,h.get? c=some o/\∀v,o.data≠.cell v:=by
 cases t
 ·obtain⟨o,e,_,d⟩:=x;exact⟨o,e,λv z=>by rw[d]at z;cases z⟩
 ·obtain⟨o,e,_,d⟩:=x;exact⟨o,e,λv z=>by rw[d]at z;cases z⟩
theorem DO.ext(x:DO t h a vs)(hs:w6 b h h')(n:a≠b):DO t h' a vs:=by
 cases t
 ·exact t4.extBut x hs n
 ·exact sU.extBut x hs n
variable {prog:oT}{w:World}{A:qu}{E:Value->nP->Prop}{s:nP}
theorem PR {t:Bool}{c a:Addr}{k:Nat}{J:Array Value}{y:Value}{Q:Value->nP->Prop}(I:Bu t s.heap c a k)(ht:DO t s.heap a J)(F:J[k]?=some y)
  (O:∀h',Bu t h' c a (k+1)->rP c s.heap h'->Q y { s with heap:=h'}):wpAny (model prog w) A (pR (.ref c)) Q E s:=by
 cases t
 ·exact wpAny_nextOf_list_item I ht F O
 ·exact SE I ht F O
theorem Sz {t:Bool}{c a:Addr}{k:Nat}{vs:Array Value}{Q:Value->nP->Prop}(I:A.handled=none)(O:Bu t s.heap c a k)(ht:DO t s.heap a vs)(F:vs[k]?=none)
  (J:∀h' x,w6 c s.heap h'->(∃o,h'.get? x=some o/\o.cls=.type "StopIteration")->E (.ref x) { s with heap:=h'}):wpAny (model prog w) A (pR (.ref c)) Q E s:=by
 cases t
 ·exact wpAny_nextOf_list_end I O ht F J
 ·exact S2 I O ht F J
theorem ZD {t1 t2:Bool}{z O I i1 i2 l1 l2:Addr}{k1 k2:Nat}{xs ys:Array Value}{x y a b:Value}{Q:Value->nP->Prop}(F:wL z O I i1 i2 l1 l2)
  (qz:IsZip s.heap z O I .none)(qI:qS s.heap O (.ref i1) (.ref i2))(qO:qS s.heap I a b)
  (q1:Bu t1 s.heap i1 l1 k1)(q2:Bu t2 s.heap i2 l2 k2)(m1:DO t1 s.heap l1 xs)(m2:DO t2 s.heap l2 ys)(hx:xs[k1]?=some x)(hy:ys[k2]?=some y)
  (hQ:∀g,IsZip g z O I (vN s.heap.objs.size)->qS g I x y->Bu t1 g i1 l1 (k1+1)->Bu t2 g i2 l2 (k2+1)->qS g s.heap.objs.size x y->g.objs.size=s.heap.objs.size+1 →
   (∀c o,c≠z->c≠I->c≠i1->c≠i2->s.heap.get? c=some o->g.get? c=some o)->Q (.ref s.heap.objs.size) { s with heap:=g}) :
  wpAny (model prog w) A (oS.«zip.__next__» ⟨[.ref z],[]⟩) (λad s'=>∃v,ad=.done (.ret v)/\Q v s') E s:=by
 show wpAny _ A (field (.ref z) 2 >>= _) _ _ _;refine nH (qJ qz rfl (x:=.bool false) rfl ?_);show wpAny _ A (field (.ref z) 3 >>= _) _ _ _;refine nH (qJ qz rfl (x:=.ref O) rfl (nH (rY qI rfl ?_)));show wpAny _ A (qY (.ref z) >>= _) _ _ _;refine nH ?_;unfold qY;refine nH (qJ qz rfl (x:=.none) rfl (oy ?_));simp only[if_true];refine nH (xT (nH (qJ qz rfl (x:=.ref I) rfl (nH (se qz (by simp) λg1 z1 s1=>?_)))));replace z1:IsZip g1 z O I .ellipsis:=z1;refine nH ?_;simp only[zG,zT,zS,aaf];refine nH (nH (vY ?_));show wpAny _ A (pR (.ref i1) >>= _) _ _ _;refine nH (PR (q1.ext s1.extBut F.i1z) (m1.ext s1.extBut F.l1z) hx λg2 n1 s2=>oy ?_);have O2:qS g2 I a b:=s2.extBut _ _ F.TOi1 (s1.extBut _ _ F.TOz qO);refine nH (rY O2 rfl (nH (vk O2 λg3 O3 s3=>?_)));replace O3:qS g3 I x b:=O3;refine nH (zv (oy (nH (nH (vY ?_)))));show wpAny _ A (pR (.ref i2) >>= _) _ _ _;refine nH (PR (((q2.ext s1.extBut F.i2z).ext s2.extBut F.i12.symm).ext s3.extBut F.TOi2.symm) (((m2.ext s1.extBut F.l2z).ext s2.extBut F.l2i1).ext s3.extBut F.l2TO) hy λg4 n2 s4=>oy ?_);have O4:qS g4 I x b:=s4.extBut _ _ F.TOi2 O3;refine nH (rY O4 rfl (nH (vk O4 λJ O5 s5=>?_)));replace O5:qS J I x y:=O5;refine nH (zv (oy (oy (nH (rY O5 rfl (nH (wpAny_newTuple ?_)))))));have aa:J.objs.size=s.heap.objs.size:=by rw[s5.1,s4.1,s3.1,s2.1,s1.1]
 have z5:IsZip J z O I .ellipsis:=s5.extBut _ _ F.TOz.symm (s4.extBut _ _ F.i2z.symm (s3.extBut _ _ F.TOz.symm (s2.extBut _ _ F.i1z.symm z1)));have kp:∀c o,c≠z->c≠I->c≠i1->c≠i2->s.heap.get? c=some o->J.get? c=some o:=λc o c1 c2 c3 c4 e =>
  s5.extBut _ _ c2 (s4.extBut _ _ c4 (s3.extBut _ _ c2 (s2.extBut _ _ c3 (s1.extBut _ _ c1 e))))
 have N1:Bu t1 J i1 l1 (k1+1):=((n1.ext s3.extBut F.TOi1.symm).ext s4.extBut F.i12).ext s5.extBut F.TOi1.symm;have N2:Bu t2 J i2 l2 (k2+1):=n2.ext s5.extBut F.TOi2.symm;have ab:z<J.objs.size:=oq z5;show wpAny _ A (uh (.ref z) (.ref J.objs.size) >>= _) _ _ _;refine nH ?_;unfold uh;have z6:IsZip (J.push { cls:=.type "tuple",data:=.seq #[x,y]}) z O I .ellipsis:=nN _ z5;refine nH (se z6 (by simp) λg7 z7 s7=>?_);replace z7:IsZip g7 z O I (vN J.objs.size):=z7;refine se z7 (by simp) λg8 z8 s8=>?_
 replace z8:IsZip g8 z O I (vN J.objs.size):=z8;have up:∀c o,c≠z->J.get? c=some o->g8.get? c=some o:=λc o c1 e=>s8.extBut _ _ c1 (s7.extBut _ _ c1 (nN _ e))
 have T8:qS g8 J.objs.size x y:=s8.extBut _ _ (tI ab) (s7.extBut _ _ (tI ab) (oF _ rfl));have ac:g8.objs.size=J.objs.size+1:=by rw[s8.1,s7.1,rX]
 rw[aa]at z8 T8 ac;refine oy ⟨_,U,?_⟩;show Q (.ref J.objs.size) _;rw[aa];exact hQ g8 z8 (up _ _ F.TOz O5) (N1.at λo e=>up _ o F.i1z e) (N2.at λo e=>up _ o F.i2z e) T8 ac λc o c1 c2 c3 c4 e=>up c o c1 (kp c o c1 c2 c3 c4 e)
theorem bM {t1 t2:Bool}{z TI I i1 i2 l1 l2:Addr}{k1 k2:Nat}{xs ys:Array Value}{a b:Value}{Q:Fin->nP->Prop}(hh:A.handled=none)(F:wL z TI I i1 i2 l1 l2)
  (qz:IsZip s.heap z TI I .none)(qI:qS s.heap TI (.ref i1) (.ref i2))(qO:qS s.heap I a b)
  (q1:Bu t1 s.heap i1 l1 k1)(q2:Bu t2 s.heap i2 l2 k2)(m1:DO t1 s.heap l1 xs)(m2:DO t2 s.heap l2 ys)(aa:xs[k1]?=none\/ys[k2]?=none)
  (hE:∀g e,(∀c o,c≠z->c≠I->c≠i1->c≠i2->s.heap.get? c=some o->g.get? c=some o)->(∃o,g.get? e=some o/\o.cls=.type "StopIteration")->E (.ref e) { s with heap:=g}) :
  wpAny (model prog w) A (oS.«zip.__next__» ⟨[.ref z],[]⟩) Q E s:=by
 show wpAny _ A (field (.ref z) 2 >>= _) _ _ _;refine nH (qJ qz rfl (x:=.bool false) rfl ?_);show wpAny _ A (field (.ref z) 3 >>= _) _ _ _;refine nH (qJ qz rfl (x:=.ref TI) rfl (nH (rY qI rfl ?_)));show wpAny _ A (qY (.ref z) >>= _) _ _ _;refine nH ?_;unfold qY;refine nH (qJ qz rfl (x:=.none) rfl (oy ?_));simp only[if_true];refine nH (xT (nH (qJ qz rfl (x:=.ref I) rfl (nH (se qz (by simp) λg1 z1 J=>?_)))));replace z1:IsZip g1 z TI I .ellipsis:=z1;refine nH ?_;simp only[zG,zT,zS,aaf];refine nH (nH (vY ?_));show wpAny _ A (pR (.ref i1) >>= _) _ _ _;cases hx:xs[k1]? with
 |none =>
  refine nH (Sz hh (q1.ext J.extBut F.i1z) (m1.ext J.extBut F.l1z) hx λg2 e O he=>?_);obtain⟨oe,w1,w2⟩:=he;have z2:IsZip g2 z TI I .ellipsis:=O _ _ F.i1z.symm z1;have ez:e≠z:=λx=>by subst x;rw[z2]at w1;cases w1;simp at w2
  exact se z2 (by simp) λg3 _ s3=>hE g3 e (λc o c1 _ c3 _ x=>s3.extBut _ _ c1 (O _ _ c3 (J.extBut _ _ c1 x))) ⟨oe,s3.extBut _ _ ez w1,w2⟩
 |some x =>
  have hy:ys[k2]?=none:=by rcases aa with h|h;rw[hx]at h;cases h;exact h
  refine nH (PR (q1.ext J.extBut F.i1z) (m1.ext J.extBut F.l1z) hx λg2 n1 O=>oy ?_);have O2:qS g2 I a b:=O.extBut _ _ F.TOi1 (J.extBut _ _ F.TOz qO);refine nH (rY O2 rfl (nH (vk O2 λg3 O3 s3=>?_)));refine nH (zv (oy (nH (nH (vY ?_)))));show wpAny _ A (pR (.ref i2) >>= _) _ _ _;refine nH (Sz hh (((q2.ext J.extBut F.i2z).ext O.extBut F.i12.symm).ext s3.extBut F.TOi2.symm) (((m2.ext J.extBut F.l2z).ext O.extBut F.l2i1).ext s3.extBut F.l2TO) hy λg4 e s4 he=>?_);obtain⟨oe,w1,w2⟩:=he;have z4:IsZip g4 z TI I .ellipsis:=s4 _ _ F.i2z.symm (s3.extBut _ _ F.TOz.symm (O.extBut _ _ F.i1z.symm z1));have ez:e≠z:=λx=>by subst x;rw[z4]at w1;cases w1;simp at w2
  exact se z4 (by simp) λg5 _ s5=>hE g5 e (λc o c1 c2 c3 c4 x=>s5.extBut _ _ c1 (s4 _ _ c4 (s3.extBut _ _ c2 (O.extBut _ _ c3 (J.extBut _ _ c1 x))))) ⟨oe,s5.extBut _ _ ez w1,w2⟩
theorem X1 {t1 t2:Bool}{z TI I O J l1 l2:Addr}{k1 k2:Nat}{xs ys:Array Value}{x y a b:Value}{Q:Option Value->nP->Prop}(ap:wL z TI I O J l1 l2)
  (qz:IsZip s.heap z TI I .none)(qI:qS s.heap TI (.ref O) (.ref J))(qO:qS s.heap I a b)
  (q1:Bu t1 s.heap O l1 k1)(q2:Bu t2 s.heap J l2 k2)(m1:DO t1 s.heap l1 xs)(m2:DO t2 s.heap l2 ys)(hx:xs[k1]?=some x)(hy:ys[k2]?=some y)
  (hQ:∀g,IsZip g z TI I (vN s.heap.objs.size)->qS g I x y->Bu t1 g O l1 (k1+1)->Bu t2 g J l2 (k2+1)->qS g s.heap.objs.size x y->g.objs.size=s.heap.objs.size+1 →
   (∀c o,c≠z->c≠I->c≠O->c≠J->s.heap.get? c=some o->g.get? c=some o)->Q (some (.ref s.heap.objs.size)) { s with heap:=g}) :
  wpAny (model prog w) A (xJ (.ref z)) Q E s:=by
 have ty:s.TypeIs (.ref z) "zip":=⟨_,qz,U⟩;unfold xJ;exact nH (wpAny_attempt (rV (name:=ve "__next__") ty tK (tX tK ty xh
   (ZD ap qz qI qO q1 q2 m1 m2 hx hy λg a1 a2 a3 a4 a5 a6 a7=>oy (hQ g a1 a2 a3 a4 a5 a6 a7)) (wV _))))
theorem YB {t1 t2:Bool}{z TI J O I l1 l2:Addr}{k1 k2:Nat}{xs ys:Array Value}{a b:Value}{Q:Option Value->nP->Prop}(hh:A.handled=none)(ap:wL z TI J O I l1 l2)
  (qz:IsZip s.heap z TI J .none)(qI:qS s.heap TI (.ref O) (.ref I))(qO:qS s.heap J a b)
  (q1:Bu t1 s.heap O l1 k1)(q2:Bu t2 s.heap I l2 k2)(m1:DO t1 s.heap l1 xs)(m2:DO t2 s.heap l2 ys)(aa:xs[k1]?=none\/ys[k2]?=none)
  (hQ:∀g,(∀c o,c≠z->c≠J->c≠O->c≠I->s.heap.get? c=some o->g.get? c=some o)->Q none { s with heap:=g}):wpAny (model prog w) A (xJ (.ref z)) Q E s:=by
 have ty:s.TypeIs (.ref z) "zip":=⟨_,qz,U⟩;unfold xJ;refine nH (wpAny_attempt (rV (name:=ve "__next__") ty tK (tX tK ty xh (bM hh ap qz qI qO q1 q2 m1 m2 aa λg e hk he=>?_) (wV _))));obtain⟨o,w1,w2⟩:=he;exact nH (wpAny_isInstance (T:="StopIteration") (b:=true) ⟨o,w1,w2⟩ isSubtype_stop (oy (hQ _ hk)))
def Fl(t:Bool)(l:Addr):Obj:=if t then { cls:=.type "tuple_iterator",data:=.fields #[.ref l,.int 0 0]} else { cls:=.type "list_iterator",data:=.fields #[.ref l,.int 0 0]}
abbrev Ji(t1 t2:Bool)(h:Heap)(F I:Addr):Heap:=(h.push (Fl t1 F)).push (Fl t2 I)
abbrev Ox(t1 t2:Bool)(h:Heap)(F I:Addr):Heap:=((Ji t1 t2 h F I).push { cls:=.type "tuple",data:=.seq #[.ref h.objs.size,.ref (h.push (Fl t1 F)).objs.size]}).push { cls:=.type "tuple",data:=.seq #[.none,.none]}
abbrev Jh(t1 t2:Bool)(h:Heap)(F I:Addr):Heap:=(Ox t1 t2 h F I).push { cls:=.type "zip",data:=.fields #[.none,.bool false,.bool false,.ref (Ji t1 t2 h F I).objs.size,.ref ((Ji t1 t2 h F I).push { cls:=.type "tuple",data:=.seq #[.ref h.objs.size,.ref (h.push (Fl t1 F)).objs.size]}).objs.size]}
set_option maxHeartbeats 4000000 in
theorem YM(t1 t2:Bool)(F I:Addr)(xs ys:Array Value):
  Meets (oS.«zip.__new__» ⟨[.type "zip",.ref F,.ref I],[]⟩) (λ_ R s=>DO t1 s.heap F xs/\DO t2 s.heap I ys/\R (.ok (.ret (.ref (Ox t1 t2 s.heap F I).objs.size))) { s with heap:=Jh t1 t2 s.heap F I}) :=
 .of_wp λprog w A R s h=>by
  obtain⟨hp,g,d,tk,os⟩:=s;obtain⟨m1,m2,h⟩:=h;have aa:=sub_zip;cases t1<;>cases t2
  ·have O:t4 (sN ⟨hp,g,d,tk,os⟩) F xs:=m1;have J:t4 (sN ⟨hp.push { cls:=.type "list_iterator",data:=.fields #[.ref F,.int 0 0]},g,d,tk,os⟩) I ys:=zx m2 _
   wp_walk using sv O,sv J
   exact⟨_,U,h⟩
  ·have O:t4 (sN ⟨hp,g,d,tk,os⟩) F xs:=m1;have J:sU (sN ⟨hp.push { cls:=.type "list_iterator",data:=.fields #[.ref F,.int 0 0]},g,d,tk,os⟩) I ys:=yX m2 _
   wp_walk using sv O,qX J
   exact⟨_,U,h⟩
  ·have O:sU (sN ⟨hp,g,d,tk,os⟩) F xs:=m1;have J:t4 (sN ⟨hp.push { cls:=.type "tuple_iterator",data:=.fields #[.ref F,.int 0 0]},g,d,tk,os⟩) I ys:=zx m2 _
   wp_walk using qX O,sv J
   exact⟨_,U,h⟩
  ·have O:sU (sN ⟨hp,g,d,tk,os⟩) F xs:=m1;have J:sU (sN ⟨hp.push { cls:=.type "tuple_iterator",data:=.fields #[.ref F,.int 0 0]},g,d,tk,os⟩) I ys:=yX m2 _
   wp_walk using qX O,qX J
   exact⟨_,U,h⟩
theorem ZY {t1 t2:Bool}{I J:Addr}{xs ys:Array Value}{Q:Value->nP->Prop}(m1:DO t1 s.heap I xs)(m2:DO t2 s.heap J ys)
  (h:∀g,IsZip g (s.heap.objs.size+4) (s.heap.objs.size+2) (s.heap.objs.size+3) .none->qS g (s.heap.objs.size+2) (.ref s.heap.objs.size) (.ref (s.heap.objs.size+1)) →
   qS g (s.heap.objs.size+3) .none .none->Bu t1 g s.heap.objs.size I 0->Bu t2 g (s.heap.objs.size+1) J 0->g.objs.size=s.heap.objs.size+5 →
   (∀c o,s.heap.get? c=some o->g.get? c=some o)->Q (.ref (s.heap.objs.size+4)) { s with heap:=g}) :
  wpAny (model prog w) A (call (.type "zip") [.ref I,.ref J]) Q E s:=by
 refine callType_new PySem.F.called_zip (by decide) (PySem.F.typeCall_zip_2 _ _) (PySem.F.newCall_zip_2 _ _) (λaa=>PySem.F.args_object_init_3 aa _ _) PySem.F.entry_zip_new (YM t1 t2 I J xs ys) ⟨m1,m2,?_⟩;have y1:(s.heap.push (Fl t1 I)).objs.size=s.heap.objs.size+1:=rX ..;have O:(Ji t1 t2 s.heap I J).objs.size=s.heap.objs.size+2:=by rw[rX,y1]
 have y3:((Ji t1 t2 s.heap I J).push { cls:=.type "tuple",data:=.seq #[.ref s.heap.objs.size,.ref (s.heap.push (Fl t1 I)).objs.size]}).objs.size=s.heap.objs.size+3:=by rw[rX,O]
 have y4:(Ox t1 t2 s.heap I J).objs.size=s.heap.objs.size+4:=by rw[rX,y3]
 have y5:(Jh t1 t2 s.heap I J).objs.size=s.heap.objs.size+5:=by rw[rX,y4]
 have f1:∀(t:Bool) (l:Addr),(Fl t l).isFreed=false:=λt l=>by cases t<;>rfl
 have e5:(Jh t1 t2 s.heap I J).get? (Ox t1 t2 s.heap I J).objs.size=some _:=oF _ rfl;have e4:(Jh t1 t2 s.heap I J).get? ((Ji t1 t2 s.heap I J).push { cls:=.type "tuple",data:=.seq #[.ref s.heap.objs.size,.ref (s.heap.push (Fl t1 I)).objs.size]}).objs.size=some _:=nN _ (oF _ rfl);have e3:(Jh t1 t2 s.heap I J).get? (Ji t1 t2 s.heap I J).objs.size=some _:=nN _ (nN _ (oF _ rfl));have e2:(Jh t1 t2 s.heap I J).get? (s.heap.push (Fl t1 I)).objs.size=some (Fl t2 J):=nN _ (nN _ (nN _ (oF _ (f1 _ _))));have e1:(Jh t1 t2 s.heap I J).get? s.heap.objs.size=some (Fl t1 I):=nN _ (nN _ (nN _ (nN _ (oF _ (f1 _ _)))));have iK:∀(t:Bool) (g:Heap) (c l:Addr),g.get? c=some (Fl t l)->Bu t g c l 0:=λt g c l e=>by cases t<;>exact⟨_,e,U,U⟩
 show _/\_;rw[O,y3,y4]at e5;rw[y1,O]at e3;rw[y3]at e4;rw[y1]at e2;rw[y4];exact⟨⟨_,e5,U⟩,h _ e5 e3 e4 (iK _ _ _ _ e1) (iK _ _ _ _ e2) y5 λc o q=>nN _ (nN _ (nN _ (nN _ (nN _ q))))⟩
def BS(t:Bool)(K:nI)(H:Hp)(a:Addr)(xs:List V):Prop:=if t then AJ K H a xs else AR K H a xs
theorem DO.lt(x:DO t h a vs):a<h.objs.size:=by
 cases t
 ·obtain⟨o,e,_⟩:=x;exact oq e
 ·obtain⟨o,e,_⟩:=x;exact oq e
theorem AI.K5(I:AI X ga σ H s)(h:BS t X.K H a xs):∃F:List Value,Ag xs F/\DO t s.heap a F.toArray/\xs.length<=og:=by
 cases t
 ·obtain⟨F,J,p,z⟩:=I.list h;exact⟨F,J,p.isList,z⟩
 ·obtain⟨F,J,p,z⟩:=I.tuple h;exact⟨F,J,p,z⟩
theorem AI.Ua(I:AI X ga σ H s)(h:BS t X.K H a xs)(g:BS t X.K H a ys):xs=ys:=by
 cases t
 ·exact I.list_inj h g
 ·exact I.Sk h g
theorem BS.l{K:nI}(h:H a=some (.AE xs)):BS false K H a xs:=AR.of h
theorem BS.t{K:nI}(h:H a=some (.AG xs)):BS true K H a xs:=AJ.of h
def Ky(K:nI)(t1 t2:Bool)(a b:Addr): It :=
  ⟨λi H => ∃xs ys x y,BS t1 K H a xs/\BS t2 K H b ys/\xs[i]? = some x/\ys[i]? = some y,
   λi H v H' => ∃p x y,v = .ref p/\H p=none/\H' = AF H p (.AG [x,y])/\(∀xs,BS t1 K H a xs → xs[i]? = some x) /\ ∀ys,BS t2 K H b ys → ys[i]? = some y,
   λi H => ∃xs ys,BS t1 K H a xs/\BS t2 K H b ys/\(xs.length<=i\/ys.length<=i)⟩
theorem ZM{t1 t2:Bool}{P:oT}{w:World}{K:nI}{es:List oU}{kk:Nat}{pos:Pos}{a b z TI TO O J:Addr}(D:wL z TI TO O J a b):
  Ga P w K (.Tuple es kk pos) (Ky K t1 t2 a b) [z,TI,TO,O,J] z (λi h=>IsZip h z TI TO .none/\qS h TI (.ref O) (.ref J)/\(∃u v,qS h TO u v)/\Bu t1 h O a i/\Bu t2 h J b i) where
 mem:=by simp
 Cv:=λi h st c F=>by
  obtain⟨h1,h2,⟨u,v,h3⟩,h4,h5⟩:=st;simp only[nZ,pD,qV]at F;rcases F with rfl|rfl|rfl|rfl|rfl
  ·exact⟨_,h1,λv z=>by have z':wZ _=vG v:=z;cases z'⟩
  ·exact⟨_,h2,λv z=>by have z':Data.seq _ _=vG v:=z;cases z'⟩
  ·exact⟨_,h3,λv z=>by have z':Data.seq _ _=vG v:=z;cases z'⟩
  ·exact h4.Cv
  ·exact h5.Cv
 keep:=λi h h' st k=>by
  obtain⟨h1,h2,⟨u,v,h3⟩,h4,h5⟩:=st;exact⟨k z (by simp) _ h1,k TI (by simp) _ h2,⟨u,v,k TO (by simp) _ h3⟩,h4.at λo e=>k O (by simp) o e,h5.at λo e=>k J (by simp) o e⟩
 item:=by
  intro X hP hw hK F i ga s σ H E I hf st hg;subst hP hw hK;obtain⟨xs,ys,x,y,qa,qb,hx,hy⟩:=hg;obtain⟨af,rv,pa,_⟩:=I.K5 qa;obtain⟨ae,ac,pb,_⟩:=I.K5 qb;obtain⟨ux,ah,rx⟩:=rv.BZ hx;obtain⟨uy,al,ry⟩:=ac.BZ hy;obtain⟨h1,h2,⟨u,v,h3⟩,h4,h5⟩:=st;refine X1 D h1 h2 h3 h4 h5 pa pb (x:=ux) (y:=uy) (by simpa using ah) (by simpa using al) λh' a1 a2 a3 a4 a5 a6 k=>?_
  refine⟨_,U,wpAny_letOwnedTupleGo_zip a1 λab b1 sb=>?_⟩;have hsz:s.heap.objs.size≠z:=tI (oq h1);have ak:∀c∈[z,TI,TO,O,J],s.heap.objs.size≠c:=λc F=>by
   have:∃o,s.heap.get? c=some o:=by
    obtain⟨o4,g4,_⟩:=h4.Cv;obtain⟨o5,g5,_⟩:=h5.Cv;simp only[nZ,pD,qV]at F;rcases F with rfl|rfl|rfl|rfl|rfl
    ·exact⟨_,h1⟩
    ·exact⟨_,h2⟩
    ·exact⟨_,h3⟩
    ·exact⟨_,g4⟩
    ·exact⟨_,g5⟩
   obtain⟨o,e⟩:=this;exact tI (oq e)
  have hn:H s.heap.objs.size=none:=I.Ap.CB (nG _);have aa:∀c o,c∉[z,TI,TO,O,J]->s.heap.get? c=some o->ab.get? c=some o:=λc o F e =>
   (sb.2 c λq=>F (by simp[q])).trans (k c o (λq=>F (by simp[q])) (λq=>F (by simp[q])) (λq=>F (by simp[q])) (λq=>F (by simp[q])) e)
  have tO:ab.get? s.heap.objs.size=some { cls:=.type "tuple",data:=.seq #[ux,uy]}:=(sb.2 _ hsz).trans a5;have nt:∀c u,H c=some u->c∉[z,TI,TO,O,J]:=λc u e F=>by
   have:=(hf c F).1
   rw[e]at this;cases this
  have aj:Bx X.prog X.w (AF H s.heap.objs.size (.AG [x,y])) ab s.heap.objs.size (.AG [x,y]) :=
   ⟨by exact CQ,[ux,uy],.cons rx (.cons ry .nil),⟨_,tO,U,_,U⟩,_,tO,U⟩
  have I1:AI X ga σ (AF H s.heap.objs.size (.AG [x,y])) { s with heap:=ab}:=by
   refine I.step (g':=s.gens) (d':=s.drawn) (t':=s.toks) (ch:=[z,TI,TO,O,J]) (λc F=>⟨(hf c F).2.2.2.1,(hf c F).2.1,(hf c F).2.2.2.2.1,(hf c F).2.2.2.2.2⟩) (λc o _ _ F e _=>aa c o F e) (λc o _ _ F e _=>⟨o.slots,aa c o F e⟩)
    (λc o _ e n=>by rw[As (pV (oq e))];exact n) (λc o F e=>⟨o,aa c o F e⟩) (λc vs e=>by rw[As (B8 e hn)];exact e) (λc o vs e=>by rw[As (B8 e hn)];exact e)
    (λc ps e=>⟨#[],by rw[As (B8 e hn),e];simp⟩) (λm hm=>?_) (λc o e=>?_) I.Ds
   ·obtain⟨o,ad,ep,ho,r⟩:=hm;exact⟨o,ad,ep,aa _ o (λq=>(hf _ q).2.1 rfl) ho,r⟩
   ·by_cases ag:c=s.heap.objs.size
    ·subst ag;rw[AY]at e;cases e;exact aj
    ·rw[As ag]at e;refine(I.Ap c o e).Hc (λd v hd q=>aa d v ?_ q) (λd q=>by rw[As (B8 q hn)];exact q) λd vs q=>by rw[As (B8 q hn)];exact q
     rcases hd with hd|hd
     ·rw[hd];exact nt c o e
     ·exact nt d _ hd
  have g4:Bu t1 ab O a (i+1):=a3.at λo e=>(sb.2 _ D.i1z).trans e
  have g5:Bu t2 ab J b (i+1):=a4.at λo e=>(sb.2 _ D.i2z).trans e
  have g2:qS ab TI (.ref O) (.ref J):=(sb.2 _ D.TIz).trans (k _ _ D.TIz D.TITO D.TIi1 D.TIi2 h2);have g3:qS ab TO ux uy:=(sb.2 _ D.TOz).trans a2;exact⟨.ref s.heap.objs.size,_,I1,U,⟨_,x,y,U,hn,U,λao q=>by rw[I.Ua q qa];exact hx,λam q=>by rw[I.Ua q qb];exact hy⟩,⟨b1,g2,⟨_,_,g3⟩,g4,g5⟩,λc F=>by rw[As (rN (ak c F))];exact(hf c F).1⟩
 done:=by
  intro X hP hw hK F i ga s σ H E I hf st hg;subst hP hw hK;obtain⟨xs,ys,qa,qb,hl⟩:=hg;obtain⟨af,rv,pa,_⟩:=I.K5 qa;obtain⟨ae,ac,pb,_⟩:=I.K5 qb;obtain⟨h1,h2,⟨u,v,h3⟩,h4,h5⟩:=st;have l1:=rv.length;have l2:=ac.length;have ai:af.toArray[i]?=none\/ae.toArray[i]?=none:=by
   rcases hl with hl|hl
   ·exact .inl (by simp;lia)
   ·exact .inr (by simp;lia)
  refine YB (I.ok.hd F) D h1 h2 h3 h4 h5 pa pb ai λh' k=>⟨U,?_⟩
  have aa:∀c o,c∉[z,TI,TO,O,J]->s.heap.get? c=some o->h'.get? c=some o:=λc o F e =>
   k c o (λq=>F (by simp[q])) (λq=>F (by simp[q])) (λq=>F (by simp[q])) (λq=>F (by simp[q])) e
  have nt:∀c u,H c=some u->c∉[z,TI,TO,O,J]:=λc u e F=>by
   have:=(hf c F).1
   rw[e]at this;cases this
  refine I.step (g':=s.gens) (d':=s.drawn) (t':=s.toks) (ch:=[z,TI,TO,O,J]) (λc F=>⟨(hf c F).2.2.2.1,(hf c F).2.1,(hf c F).2.2.2.2.1,(hf c F).2.2.2.2.2⟩) (λc o _ _ F e _=>aa c o F e) (λc o _ _ F e _=>⟨o.slots,aa c o F e⟩)
   (λ_ _ _ _ n=>n) (λc o F e=>⟨o,aa c o F e⟩) (λ_ _ e=>e) (λ_ _ _ e=>e) (λc ps e=>⟨#[],by rw[e];simp⟩) (λm hm=>?_) (λc o e=>?_) I.Ds
  ·obtain⟨o,ad,ep,ho,r⟩:=hm;exact⟨o,ad,ep,aa _ o (λq=>(hf _ q).2.1 rfl) ho,r⟩
  ·refine(I.Ap c o e).Hc (λd v hd q=>aa d v ?_ q) (λ_ q=>q) λ_ _ q=>q
   rcases hd with hd|hd
   ·rw[hd];exact nt c o e
   ·exact nt d _ hd
 HX:=λ_ _ _ _ _ st h=>wpAny_pyIter_zip st.1 h
def kM(K:nI)(t1 t2:Bool)(ta:TA):TI:=λσ H R=>ta σ H λF H1=>∃a b,F=[.ref a,.ref b]/\(∃xs,BS t1 K H1 a xs)/\(∃ys,BS t2 K H1 b ys)/\R (Ky K t1 t2 a b) H1
theorem J7{t1 t2:Bool}{es:List oU}{kk:Nat}{tpos:Pos}{a b:oU}{ta:TA}{p pos:Pos}(hg:Gl X "zip")(hm:X.mg "zip" = none)(ha:PA X [a,b] ta)(hs:oG [a,b] X.env=(false,eval a X.env) :: oG [b] X.env:=by rfl)(ab:(rW pos (oG [b] X.env)).any (·.1)=false:=by rfl):
  PI X (.Tuple es kk tpos) (.Call (.Name "zip" p) [a,b] [] pos) (kM X.K t1 t2 ta):=by
 intro ga s σ H R I h;refine Call_ (FP I hg hm PyProof.Rows.boot_zip (pI (Af (ha pos ga s σ H _ I h) λus F ⟨vs,H1,J,r1,q1⟩=>?_) hs ab));obtain⟨O,lb,e,⟨xs,qa⟩,⟨ys,qb⟩,q⟩:=q1;subst e;obtain⟨u1,u2,rfl,ra,rb⟩:=OR r1;cases ra;cases rb;obtain⟨ah,rv,pa,_⟩:=J.K5 qa;obtain⟨af,ag,pb,_⟩:=J.K5 qb;have ad:O<F.heap.objs.size:=by
  exact pa.lt
 have ac:lb<F.heap.objs.size:=by
  exact pb.lt
 refine ZY pa pb λh' z1 z2 z3 z4 z5 zs zk=>?_
 refine wpAny_pyIter_zip z1 ?_;have I2:AI X ga σ H1 { F with heap:=h'}:=J.CG (t':=F.toks) zk;have D:wL (F.heap.objs.size+4) (F.heap.objs.size+2) (F.heap.objs.size+3) F.heap.objs.size (F.heap.objs.size+1) O lb:=by
  have ae:@LT.lt Nat _ O F.heap.objs.size:=ad;have ai:@LT.lt Nat _ lb F.heap.objs.size:=ac;constructor<;>(show @Ne Nat _ _;lia)
 refine⟨F.heap.objs.size+4,_,_,_,H1,U,I2,ZM D,⟨z1,z2,⟨_,_,z3⟩,z4,z5⟩,λc hc=>?_,q⟩;have aa:F.heap.objs.size<=c:=by
  simp only[nZ,pD,qV]at hc;rcases hc with rfl|rfl|rfl|rfl|rfl<;>lia
 have f:=J.JY (H':=H1) aa (J.Ap.CB aa);exact f
theorem TU {t1 t2:Bool}{K:nI}{a b:Addr}{xs ys:List V}{g:TG}{tb:TS}{D:Dd}{σ:St}{H:Hp}(n:Nat)(hn:n=min xs.length ys.length)(F:Nat->St->Hp->Prop)(h0:F 0 σ H)(hl:∀i σ H,i<=n->F i σ H->BS t1 K H a xs/\BS t2 K H b ys)
  (hs:∀i x y σ H p,xs[i]?=some x->ys[i]?=some y->F i σ H->H p=none->g (.ref p) σ (AF H p (.AG [x,y])) λI H2=>tb { D with nx:=F (i+1),ct:=F (i+1),bk:=D.nx} I H2)(hd:∀σ H,F n σ H->D.nx σ H) :
  ∃W:Nat->Nat->St->Hp->Prop,(∃m,W 0 m σ H)/\∀i m σ H,W i m σ H →
   ((Ky K t1 t2 a b).EH i H/\D.nx σ H)\/((Ky K t1 t2 a b).go i H/\∃N:St->Hp->Prop,(∀O H',N O H'->∃m',m' < m/\W (i+1) m' O H')/\∀x H',(Ky K t1 t2 a b).EL i H x H'->g x σ H' λI H2=>tb { D with nx:=N,ct:=N,bk:=D.nx} I H2):=by
 refine⟨λi m σ H=>m=n-i/\i<=n/\F i σ H,⟨n,by simp,pJ _,h0⟩,?_⟩;rintro i m σ H ⟨rfl,hi,p⟩;obtain⟨J,qb⟩:=hl i σ H hi p;rcases oP i n with aa|hge
 ·have h1:i<xs.length:=by lia
  have h2:i<ys.length:=by lia
  refine .inr ⟨⟨xs,ys,xs[i],ys[i],J,qb,by simp[h1],by simp[h2]⟩,F (i+1),λO H' p'=>⟨n-(i+1),by lia,U,aa,p'⟩,λv H' yl=>?_⟩;obtain⟨pa,x,y,rfl,hp,rfl,hx,hy⟩:=yl;exact hs i x y σ H pa (hx xs J) (hy ys qb) p hp
 ·obtain rfl:i=n:=by lia
  exact .inl ⟨⟨xs,ys,J,qb,by lia⟩,hd σ H p⟩
theorem jk:qi "sum" = some (.builtin "sum"):=by decide +kernel
theorem ZU(hc:X.C5=true):DJ X (.builtin "sum") (λxs H Q=>∃(p:Addr) (F:List Int),xs=[.ref p]/\H p=some (.AE (F.map V.int))/\Q (.int F.sum) H):=by
 intro ga s σ H xs us Q I r h;obtain⟨p,F,rfl,hp,q⟩:=h;obtain⟨u,rfl,r1⟩:=r.Ah;cases r1;obtain⟨O,rv,pl,hz⟩:=I.list (AR.of (K:=X.K) hp);have hi:vt O F:=Jl rv;obtain⟨ys,J⟩:=hi.allInts.items;have aa:s.heap.IsList p (intItems ys):=J ▸ pl.isList;refine sum_intListG (I.ok.hd hc) aa λh' tk t' hk=>?_
 have e1:F=ys.toList.map (·.1):=by
  rw[<-nums_intItems,<-J];exact(show numsOf O.toArray.toList=F from hi.numsOf).symm
 have e2:preSum (numAt ys) ys.size=F.sum:=by rw[preSum_eq,ou (by simp),e1]
 rw[e2];exact⟨.int F.sum,H,I.CG hk,⟨t',U⟩,q⟩
def kO(ta:TA):TI:=λσ H R=>ta σ H λF H1=>∃n:Nat,F=[.int ((n:Int)-1),.int (-1),.int (-1)]/\n<=1000/\R (MT ((n:Int)-1) (-1) n) H1
theorem VW(n:Nat):sZ ((n:Int)-1) (-1) (-1)=n:=by
 unfold sZ;simp only[show ¬((-1:Int)>0) by decide,if_false];rw[show -(-1:Int)=1 by decide,Int.ediv_one];split<;>omega
theorem i9{n:Nat}(h:n<=1000):x9 ((n:Int)-1) (-1) (-1)=true:=by
 unfold x9;rw[VW];simp only[oS.Range.rangeFitsLong,pA,uV,su,beq_iff_eq];refine⟨⟨⟨⟨⟨?_,?_⟩,⟨?_,?_⟩⟩,⟨?_,?_⟩⟩,⟨?_,?_⟩⟩,.inr ?_⟩<;>first|omega|decide
theorem ZW {tg:oU}{a b c:oU}{ta:TA}{p pos:Pos}(hg:Gl X "range")(hm:X.mg "range" = none)(ha:PA X [a,b,c] ta)
  (hs:oG [a,b,c] X.env=(false,eval a X.env) :: oG [b,c] X.env:=by rfl)(aa:(rW pos (oG [b,c] X.env)).any (·.1)=false:=by rfl):PI X tg (.Call (.Name "range" p) [a,b,c] [] pos) (kO ta):=by
 intro ga s σ H R I h;refine Call_ (FP I hg hm wy (pI (Af (ha pos ga s σ H _ I h) λus F ⟨vs,H1,I1,r1,q1⟩=>?_) hs aa));obtain⟨n,e,hn,q⟩:=q1;subst e;cases r1 with
 |cons r rr =>
  cases rr with
  |cons r' rr =>
   cases rr with
   |cons r'' rr =>
    cases rr;obtain⟨t,rfl⟩:=r;obtain⟨t',rfl⟩:=r';obtain⟨O,rfl⟩:=r'';refine call_range_3 (by omega) ?_ (.inl (xg (by omega)));refine yV (w8 ..) (i9 hn) ?_;have J:AI X ga σ H1 { F with heap:=F.heap.push { cls:=.type "range",data:=.fields #[.int ((n:Int)-1) t,.int (-1) t',.int (-1) O]}}:=I1.CG (t':=F.toks) λb o e=>nN _ e
    refine⟨_,[(F.heap.push { cls:=.type "range",data:=.fields #[.int ((n:Int)-1) t,.int (-1) t',.int (-1) O]}).objs.size],_,_,H1,U,J.CG (t':=F.toks) λb o e=>nN _ e,Y7 _ ((n:Int)-1) (-1) n,?_,λb hb=>?_,q⟩
    ·have e1:((n:Int)-1)+((0:Nat):Int)*(-1)=(n:Int)-1:=by simp
     have e2:((n:Nat):Int)-((0:Nat):Int)=sZ ((n:Int)-1) (-1) (-1):=by rw[VW];simp
     show w9 _ _ (((n:Int)-1)+((0:Nat):Int)*(-1)) (((n:Nat):Int)-((0:Nat):Int)) (-1);rw[e1,e2];exact oF _ rfl
    ·have e:b=(F.heap.push { cls:=.type "range",data:=.fields #[.int ((n:Int)-1) t,.int (-1) t',.int (-1) O]}).objs.size:=by simpa using hb
     subst e;exact J.JY (nG _) (J.Ap.CB (nG _))
end
end L2
namespace L2
open PySem PySem.Spec PyProof.Rows PySem.W
section
variable {prog:oT}{w:World}{A:qu}{E:Value->nP->Prop}{K:Frag}{h:Heap}{g:Array GenState}{d:Drawn}{t:Nat}{os:OsState}{a C:Addr}{o:Obj}
end
section
variable {X:Cx}
end
end L2
namespace My
open PySem L2
variable {a:Addr}{H:Hp}
def BW(H:Hp)(a:Addr):Hp:=λb=>if b=a then none else H b
theorem Iu(H:Hp)(a:Addr):BW H a a=none:=nF rfl
theorem JG(h:b≠a):BW H a b=H b:=nv h
theorem D8(H:Hp)(a:Addr):AM (BW H a) H:=λb o e=>by
 by_cases h:b=a
 ·subst h;rw[Iu]at e;cases e
 ·rw[JG h]at e;exact e
theorem EO(a:Addr)(s:AM H H'):AM (BW H a) (BW H' a):=λb o e=>by
 by_cases h:b=a
 ·subst h;rw[Iu]at e;cases e
 ·rw[JG h]at e ⊢;exact s _ _ e
theorem Qp(H:Hp)(a:Addr)(o:HO):AM (BW H a) (AF H a o):=λb u e=>by
 by_cases h:b=a
 ·subst h;rw[Iu]at e;cases e
 ·rw[JG h]at e;rw[As h];exact e
theorem Nr(H:Hp)(a:Addr)(o:HO):BW (AF H a o) a=BW H a:=by
 funext b
 by_cases h:b=a
 ·subst h;rw[Iu,Iu]
 ·rw[JG h,JG h,As h]
theorem U8(h:H a=none):BW H a=H:=by
 funext b
 by_cases z:b=a
 ·subst z;rw[Iu,h]
 ·exact JG z
theorem GS(e:H b=some o)(h:b≠a):BW H a b=some o:=by rw[JG h];exact e
section
variable {α:Type}{R:Hp->Addr->α->Prop}
def At(R:Hp->Addr->α->Prop)(H:Hp)(bs:List Addr)(xs:List α):Prop:=bs.length=xs.length/\∀(i:Nat) (b:Addr) (x:α),bs[i]?=some b->xs[i]?=some x->R H b x
def Mo(R:Hp->Addr->α->Prop):Prop:=∀{H H':Hp} {b:Addr} {x:α},AM H H'->R H b x->R H' b x
theorem At.nil:At R H [] []:=⟨U,λi b x e=>by simp at e⟩
theorem At.keep(h:At R H bs xs)(m:Mo R)(s:AM H H'):At R H' bs xs:=⟨h.1,λi b x I F=>m s (h.2 i b x I F)⟩
theorem At.snoc(h:At R H bs xs)(r:R H b x):At R H (bs++[b]) (xs++[x]):=by
 refine⟨by simp[h.1],λi c y F I=>?_⟩;have J:=h.1;rcases oP i bs.length with z|z
 ·rw[nX z]at F;rw[nX (by omega)]at I;exact h.2 i c y F I
 ·rw[nW z]at F;rw[nW (by omega)]at I;rw[J]at F;cases hi:i-xs.length with
  |zero=>rw[hi]at F I;cases F;cases I;exact r
  |succ k=>rw[hi]at F;simp at F
theorem At.MV(h:At R H bs xs)(g:At R H cs ys):At R H (bs++cs) (xs++ys):=by
 refine⟨by simp[h.1,g.1],λi c y F I=>?_⟩;have J:=h.1;rcases oP i bs.length with z|z
 ·rw[nX z]at F;rw[nX (by omega)]at I;exact h.2 i c y F I
 ·rw[nW z]at F;rw[nW (by omega)]at I;rw[J]at F;exact g.2 _ c y F I
theorem At.take(h:At R H bs xs)(k:Nat):At R H (bs.take k) (xs.take k):=by
 refine⟨by simp[h.1],λi c y F I=>?_⟩;rw[yw]at F I;split at F
 ·rename_i J;rw[nF J]at I;exact h.2 i c y F I
 ·cases F
theorem At.drop(h:At R H bs xs)(k:Nat):At R H (bs.drop k) (xs.drop k):=by
 refine⟨by simp[h.1],λi c y I F=>?_⟩;rw[rL]at I F;exact h.2 _ c y I F
theorem At.set(h:At R H bs xs)(k:Nat)(r:R H b x):At R H (bs.set k b) (xs.set k x):=by
 refine⟨by simp[h.1],λi c y F I=>?_⟩;rw[List.getElem?_set]at F I;by_cases O:k=i
 ·subst O;have hl:=h.1;by_cases J:k<bs.length
  ·rw[nF rfl,nF J]at F;rw[nF rfl,nF (by omega)]at I;cases F;cases I;exact r
  ·rw[nF rfl,nv J]at F;cases F
 ·rw[nv O]at F I;exact h.2 _ c y F I
theorem At.BZ{i:Nat}(h:At R H bs xs)(e:xs[i]?=some x):∃b,bs[i]?=some b/\R H b x:=by
 have hi:i<bs.length:=by rw[h.1];exact(nj.mp e).1
 exact⟨bs[i],nh hi,h.2 i _ x (nh hi) e⟩
theorem At.ref{i:Nat}(h:At R H bs xs)(e:(bs.map V.ref)[i]?=some v):∃b x,v=.ref b/\bs[i]?=some b/\xs[i]?=some x/\R H b x:=by
 rw[nJ]at e;cases q:bs[i]? with
 |none=>rw[q]at e;cases e
 |some b =>
  rw[q]at e;have hi:i<xs.length:=by rw[<-h.1];exact(nj.mp q).1
  exact⟨b,xs[i],(nV e).symm,U,nh hi,h.2 i b _ q (nh hi)⟩
theorem CW{bs:List Addr}{i:Nat}(h:bs[i]?=some b):(bs.map V.ref)[i]?=some (.ref b):=by rw[nJ,h];rfl
def A4(R:Hp->Addr->α->Prop)(H:Hp)(b:Addr)(xs:List α):Prop:=∃bs:List Addr,H b=some (.AG (bs.map V.ref))/\At R H bs xs
def ED(R:Hp->Addr->α->Prop)(H:Hp)(b:Addr)(xs:List α):Prop:=∃bs:List Addr,H b=some (.AE (bs.map V.ref))/\At R H bs xs
theorem ES(m:Mo R):Mo (A4 R):=λs ⟨bs,e,h⟩=>⟨bs,s _ _ e,h.keep m s⟩
theorem OA(m:Mo R):Mo (ED R):=λs ⟨bs,e,h⟩=>⟨bs,s _ _ e,h.keep m s⟩
end
def AU(H:Hp)(b:Addr)(q:Rat):Prop:=H b=some (.AG [.int q.num,.int q.den])
def CT(H:Hp)(b:Addr)(F:List Int):Prop:=H b=some (.AE (F.map V.int))
theorem Ao:Mo AU:=λs h=>s _ _ h
theorem ER:Mo CT:=λs h=>s _ _ h
theorem AU.BW(h:AU H b q)(e:H a=some (.AE ys)):AU (BW H a) b q:=GS h λz=>by rw[z]at h;unfold AU at h;rw[e]at h;cases h
theorem N6(e:H a=some (.AE ys))(h:At AU H bs qs):At AU (BW H a) bs qs:=⟨h.1,λi b x I F=>(h.2 i b x I F).BW e⟩
structure Kv(J:It)(H1:Hp)(n:Nat)(f:Nat->Hp->V->Hp->Prop):Prop where
 go:∀i H2,i<n->AM H1 H2->J.go i H2
 yl:∀i H2 x H3,i<n->AM H1 H2->J.EL i H2 x H3->f i H2 x H3
 st:∀H2,AM H1 H2->J.EH n H2
section
variable {K:nI}
theorem HG(h:H a=some (.AG xs)):Kv (Hm K a) H xs.length (λi H2 x F=>F=H2/\xs[i]?=some x) :=
 ⟨λi H2 hi s=>⟨xs,xs[i],AJ.of (s _ _ h),nh hi⟩,λi H2 x F _ s y=>⟨y.1,y.2 _ (AJ.of (s _ _ h))⟩,λH2 s=>⟨xs,AJ.of (s _ _ h),nG _⟩⟩
theorem Iw(h:H a=some (.AE xs)):Kv (Hn K a) H xs.length (λi H2 x F=>F=H2/\xs[i]?=some x) :=
 ⟨λi H2 hi s=>⟨xs,xs[i],AR.of (s _ _ h),nh hi⟩,λi H2 x F _ s y=>⟨y.1,y.2 _ (AR.of (s _ _ h))⟩,λH2 s=>⟨xs,AR.of (s _ _ h),nG _⟩⟩
theorem Pj:Kv (GF lo n) H n (λi H2 x F=>F=H2/\x=.int (lo+i)):=⟨λ_ _ hi _=>hi,λ_ _ _ _ _ _ y=>y,λ_ _=>nG _⟩
theorem Ng(h1:∀H2,AM H H2->BS t1 K H2 a xs)(h2:∀H2,AM H H2->BS t2 K H2 b ys)(hl:xs.length=ys.length):
  Kv (Ky K t1 t2 a b) H xs.length (λi H2 x F=>∃p u v,x=.ref p/\H2 p=none/\F=AF H2 p (.AG [u,v])/\xs[i]?=some u/\ys[i]?=some v) :=
 ⟨λi H2 hi s=>⟨xs,ys,xs[i],ys[i],h1 _ s,h2 _ s,nh hi,nh (by omega)⟩,λi H2 x F _ s y=>by
  obtain⟨p,u,v,e1,J,O,I,e5⟩:=y;exact⟨p,u,v,e1,J,O,I _ (h1 _ s),e5 _ (h2 _ s)⟩,λH2 s=>⟨xs,ys,h1 _ s,h2 _ s,.inl (nG _)⟩⟩
theorem Cy {g:TG}{te:TE}{G:Hp->Prop}(r:Kv J H1 n f)(hn:n<=1000)(ab:H1 acc=none)(Iv:Nat->List V->St->Hp->Prop)(h0:Iv 0 [] σ0 H1)
  (hs:∀(i:Nat) (ys:List V) (σ:St) (H2:Hp) (x:V) (O:Hp),i<n->AM H1 H2->H2 acc=some (.AE ys)->Iv i ys σ (BW H2 acc)->f i H2 x O->∀C:St->VK,(∀(I:St) (v:V) (F:Hp),AM H2 F->Iv (i+1) (ys++[v]) I (BW F acc)->C I v F) →
   g x σ O λI H4=>te I H4 (C I))
  (ad:∀(ys:List V) (σ:St) (H2:Hp),AM H1 H2->H2 acc=some (.AE ys)->ys.length=n->Iv n ys σ (BW H2 acc)->G H2) :
  ∃W:Nat->Nat->List V->St->Hp->Prop,(∃m,W 0 m [] σ0 (AF H1 acc (.AE [])))/\∀i m ys σc H2,W i m ys σc H2 →
   (J.EH i H2/\G H2)\/(J.go i H2/\∀x O,J.EL i H2 x O->g x σc O λI H4=>te I H4 λv F=>F acc=some (.AE ys)/\ys.length<og/\∃m',m' < m/\W (i+1) m' (ys++[v]) I (AF F acc (.AE (ys++[v])))):=by
 exists λi m ys σ H2=>m=n-i/\i<=n/\AM H1 H2/\H2 acc=some (.AE ys)/\ys.length=i/\Iv i ys σ (BW H2 acc),⟨n,U,pJ _,?_,AY,U,?_⟩
 ·intro b o e;rw[As (B8 e ab)];exact e
 ·rw[Nr,U8 ab];exact h0
 ·rintro i m ys σc H2 ⟨rfl,hi,sm,ha,hl,iv⟩;rcases oP i n with aa|hge
  ·refine .inr ⟨r.go i H2 aa sm,λx O yl=>?_⟩;refine hs i ys σc H2 x O aa sm ha iv (r.yl i H2 x O aa sm yl) (λI v F=>F acc=some (.AE ys)/\ys.length<og/\∃m',m' < n-i/\(m'=n-(i+1)/\i+1<=n/\AM H1 (AF F acc (.AE (ys++[v])))/\(AF F acc (.AE (ys++[v]))) acc=some (.AE (ys++[v]))/\(ys++[v]).length=i+1/\Iv (i+1) (ys++[v]) I (BW (AF F acc (.AE (ys++[v]))) acc))) ?_;intro I v F s5 ac;exists s5 _ _ ha,by rw[r6];omega,n-(i+1),by omega,U,aa,?_,AY,by simp[hl]
   ·intro b o e;rw[As (B8 e ab)];exact s5 _ _ (sm _ _ e)
   ·rw[Nr];exact ac
  ·obtain rfl:i=n:=by omega
   exact .inl ⟨r.st H2 sm,ad ys σc H2 sm ha hl iv⟩
end
end My
namespace L2
open PySem PySem.Spec PyProof.Rows
structure Ad(P:oT)(w:World)(K:nI)(mg:Str->Option Value)(base:Heap)(k:Nat)(x:Str)(ps:List Str)(sp:Sp):Prop where
 ex:∃f fd,Am P w K mg base Aw k f fd ps sp/\EU K fd ps []/\KP K f/\mg x=some (.ref f)
theorem iO{X:Cx}{k:Nat}{x:Str}{ps:List Str}{sp:Sp}{e:Expr}{es:List Expr}{t:TA}{p pos:Pos}(c:Ad X.prog X.w X.K X.mg X.base k x ps sp)(hr:Room k X.A)(ha:PA X (e :: es) t)(J:Gl X x:=by rfl)(aa:(x == ("__debug__":Str))=false:=by decide)(he:oG (e :: es) X.env=(false,eval e X.env) :: oG es X.env:=by rfl)(ab:(rW pos (oG es X.env)).any (·.1)=false:=by rfl):
  PE X (.Call (.Name x p) (e :: es) [] pos) (EA sp [] E0 t):=by
 obtain⟨f,fd,F,b,I,O⟩:=c.ex;exact fW F hr J O I b .nil WT ha aa he ab
theorem A9{N P:List Str}{F:Scope}(h1:F.kind=.function:=by rfl)(h2:F.isCoroutine=false:=by rfl)(h3:F.isGenerator=false:=by rfl)(h4:N.Nodup:=by decide +kernel)(O:N.take P.length=P:=by rfl)(I:∀x∈P,F.names.lookup x=some .local\/F.names.lookup x=some .cell:=by decide +kernel)(J:∀y∈F.names,y.2≠.free:=by decide +kernel):Az N P F:=⟨h1,h2,h3,h4,O,I,J⟩
theorem Aq.BD {P:oT}{w:World}{K:nI}{mg:Str->Option Value}{base:Heap}{x qual:Str}{st:Stmt}{f:Addr}{fd:qf}{N ps:List Str}{k:Nat}{sp:Sp}(F:Aq K x qual st f fd)(S:Az N ps (Ak st))
  (J:∀(ii:Value) (A:qu) (outer:List Env) (s:nP) (H:Hp) (I:List V) (Q:VK) (E:XK),Room k (A.deeper (vf qual (Ak st) s.heap.objs.size f ii))->sp I H Q E →
   ∃t,CU (JU Aw P w K mg base N qual (Ak st) f ii A outer s H E).Hl (FJ st) t/\t { nx:=λ_ H'=>Q .BE H',rt:=Q} (HL N I) H)(O:∀I H Q E,sp I H Q E->I.length=ps.length:=by (rintro I H Q E ⟨⟩;subst_vars;rfl)):Am P w K mg base Aw (k+1) f fd ps sp:=F.ok S O J
theorem nw(h:H p=none)(o:HO):∃H',AF H p o=H'/\AM H H'/\H' p=some o:=⟨_,U,λb u q=>by rw[As (B8 q h)];exact q,AY⟩
@[elab_as_elim] theorem EK {C:Hp->Prop}{H:Hp}{p:Addr}(h:H p=none)(o:HO)(q:∀H',AM H H'->H' p=some o->C H'):C (AF H p o):=q _ (λb u q=>by rw[As (B8 q h)];exact q) AY
end L2
namespace My
open PySem L2
theorem my(h:H p=none)(q:Rat):∃H',AF H p (.AG [.int q.num,.int q.den])=H'/\AM H H'/\AU H' p q:=nw h _
@[elab_as_elim] theorem k9 {C:Hp->Prop}{H:Hp}{p:Addr}(h:H p=none)(r:Rat)(q:∀H',AM H H'->AU H' p r->C H'):C (AF H p (.AG [.int r.num,.int r.den])):=@EK C H p h _ q
end My
namespace L2
open PySem PySem.Spec PyProof.Rows
section
variable {X:Cx}{K:nI}
theorem Bk:F9 X (Fg []):=λv s p s' σ H x y F u Q I J O q hs=>jU v s p s' σ H x y F u Q I J O (match q with|⟨p,xs,i,v,a,b,c,d,q⟩=>⟨p,xs,i,v,a,b,c.up,d,q⟩) hs
theorem CJ:F9 X (Gg []):=λv s p s' σ H x y F u Q I J O q hs=>UK v s p s' σ H x y F u Q I J O (match q with|⟨p,xs,i,v,a,b,c,d,q⟩=>⟨p,xs,i,v,a,b,c.up,d,q⟩) hs
theorem pT{X:Cx}{a b:oU}{ta tb:TE}{pos:Pos}(I:PE X a ta)(F:PE X b tb)(hs:Nh b:=by exact λ_ _=>rfl):PE X (.Subscript a b pos) (Bh (Fg []) ta tb):=JS Bk I F hs
theorem pL{X:Cx}{a b:oU}{ta tb:TE}{pos:Pos}(I:PE X a ta)(F:PE X b tb)(hs:Nh b:=by exact λ_ _=>rfl):PE X (.Subscript a b pos) (Bh (Gg []) ta tb):=JS CJ I F hs
theorem Ik:Hf X (Gh []):=λga s σ H x v J vu lo hi O Q I F hs pl pu ⟨a,xs,e,c,q⟩=>gz ga s σ H x v J vu lo hi O Q I F hs pl pu ⟨a,xs,e,c.up,q⟩
theorem Md:Hf X (W2 []):=λga s σ H x v J vu lo hi O Q I F hs pl pu ⟨a,xs,e,c,q⟩=>gX ga s σ H x v J vu lo hi O Q I F hs pl pu ⟨a,xs,e,c.up,q⟩
theorem Lf:DJ X (.builtin "len") (Kr []):=λga s σ H xs us Q I r ⟨p,ys,e,h,q⟩=>Ry ga s σ H xs us Q I r ⟨p,ys,e,h.imp AR.up AJ.up,q⟩
theorem GQ:DJ X (.type "tuple") (λxs H Q=>∃p ys,xs=[.ref p]/\((AR [] H p ys/\∀l,H l=none->Q (.ref l) (AF H l (.AG ys)))\/(AJ [] H p ys/\Q (.ref p) H))):=λga s σ H xs us Q I r ⟨p,ys,e,h⟩=>Xs ga s σ H xs us Q I r ⟨p,ys,e,h.imp (And.imp_left AR.up) (And.imp_left AJ.up)⟩
theorem UL:DJ X (.type "list") (λxs H Q=>∃p ys,xs=[.ref p]/\(AR [] H p ys\/AJ [] H p ys)/\∀l,H l=none->Q (.ref l) (AF H l (.AE ys))):=λga s σ H xs us Q I r ⟨p,ys,e,h,q⟩=>X0 ga s σ H xs us Q I r ⟨p,ys,e,h.imp AR.up AJ.up,q⟩
theorem Dp {es:List oU}{k:Nat}{t:Gk}{n:Nat}{pos:Pos}(J:X.C5=true)(g:Ma X es t)
  (O:(tW es X.env).length=n:=by rfl)(F:(tW es X.env).findIdx? (·.1)=none:=by rfl):PG X (.Tuple es k pos) (IS [] n t):=λga s σ H v u Q I r h=>iT J g O F ga s σ H v u Q I r (match h with|⟨a,xs,e,c,l,q⟩=>⟨a,xs,e,c.up,l,q⟩)
theorem D9(O:PE X l tl):PI X tg l (OS [] tl):=λga s σ H R I h =>
 Af (iH (tg:=tg) O.wk ga s σ H (λJ H'=>∃a,J=Hm X.K a/\R (Hm [] a) H') I ⟨_,h,λ_ _ ⟨a,e,⟨xs,c⟩,q⟩=>⟨a,e,⟨xs,c.up⟩,a,U,q⟩⟩) λ_ _ w=>Af w λ_ _ ⟨it,fp,F,J,H',e,I',T,t0,hf,a,ej,q⟩=>
  ⟨it,fp,F,Hm [] a,H',e,I',(ej ▸ T).mono (λ_ _ ⟨xs,x,c,e⟩=>⟨xs,x,c.up,e⟩) (λ_ _ _ _ ⟨e,f⟩=>⟨e,λxs c=>f xs c.up⟩) (λ_ _ ⟨xs,c,e⟩=>⟨xs,c.up,e⟩),t0,hf,q⟩
theorem FX(O:PE X l tl):PI X tg l (WV [] tl):=λga s σ H R I h =>
 Af (eK (tg:=tg) O.wk ga s σ H (λJ H'=>∃a,J=Hn X.K a/\R (Hn [] a) H') I ⟨_,h,λ_ _ ⟨a,e,⟨xs,c⟩,q⟩=>⟨a,e,⟨xs,c.up⟩,a,U,q⟩⟩) λ_ _ w=>Af w λ_ _ ⟨it,fp,F,J,H',e,I',T,t0,hf,a,ej,q⟩=>
  ⟨it,fp,F,Hn [] a,H',e,I',(ej ▸ T).mono (λ_ _ ⟨xs,x,c,e⟩=>⟨xs,x,c.up,e⟩) (λ_ _ _ _ ⟨e,f⟩=>⟨e,λxs c=>f xs c.up⟩) (λ_ _ ⟨xs,c,e⟩=>⟨xs,c.up,e⟩),t0,hf,q⟩
theorem OX(h:X.K=K:=by rfl):F9 X (Gg K):=h ▸ UK
theorem aW(h:X.K=K:=by rfl):DJ X (.builtin "len") (Kr K):=h ▸ Ry
theorem Aa(i:Nat){N P:List Str}{sc:Scope}(S:Az N P sc){x:Str}{e:oU}{te:TE}{pos pos':Pos}(O:PE X e te)(J:X.N=N:=by rfl)(hi:X.N[i]?=some x:=by rfl)(F:Ig X.env.scope x:=by first|exact p8 rfl|exact yH rfl)(hs:vO e (some (.Name x pos')) pos.line X.env=pure false:=by rfl)(I:X.fn x=true\/X.env.scope.names.lookup x=some .local:=by first|exact .inl rfl|exact .inr rfl|assumption):PS X (.Assign [.Name x pos'] e pos) (JV te (BU i)):=iM (J ▸ S.nd) hi F O hs I
theorem BL(i:Nat){N P:List Str}{O:Scope}(S:Az N P O){x:Str}{pos:Pos}(J:X.N=N:=by rfl)(hi:X.N[i]?=some x:=by rfl)(F:Ig X.env.scope x:=by first|exact p8 rfl|exact yH rfl)(I:X.fn x=true\/X.env.scope.names.lookup x=some .local:=by first|exact .inl rfl|exact .inr rfl|assumption):PG X (.Name x pos) (BU i):=B9 (J ▸ S.nd) hi F I
theorem Cn {scope:Scope}{cl:List (Str×Addr)}{Nc:List Str}{cap:List (Nat×Nat)}(aa:aac scope X.env=pure cl:=by rfl)(kind:scope.kind=.function:=by rfl)(names:∀y∈scope.names,y.2=.local->scope.names.lookup y.1=some .local:=by decide +kernel)(O:∀y∈scope.names,y.2≠.cell:=by decide +kernel)
  (I:∀p∈cl,X.env.cells.lookup p.1=some p.2/\scope.names.lookup p.1=some .free:=by repeat first|exact yf _|refine xM.mpr ⟨⟨U,U⟩,?_⟩)(F:((vB scope X.env).names.all λp=>(p.2 != .cell && p.2 != .free) || (cl.lookup p.1).isSome)=true:=by rfl)
  (J:∀p∈cap,∃x c,Nc[p.1]?=some x/\X.N[p.2]?=some x/\cl.lookup x=some c/\X.env.scope.names.lookup x=some .cell/\(vB scope X.env).names.lookup x=some .cell:=by repeat first|exact yf _|refine xM.mpr ⟨⟨_,_,U,U,U,U,U⟩,?_⟩):Gz X scope cl Nc cap:=eF aa kind names O I F J
theorem MG(K:nI){e:oU}{te:TE}{p pos:Pos}(m:X.mg "len" = none)(I:PE X e te)(h:X.K=K:=by rfl)(F:Gl X "len":=by rfl)(hs:oG [e] X.env=(false,eval e X.env) :: oG [] X.env:=by rfl):PE X (.Call (.Name "len" p) [e] [] pos) (Kz (Kr K) (BP te CH)):=CV (aW (K:=K) h) F m Ee (AA I AD hs) (by decide) (by decide) hs rfl
theorem C7{e:oU}{te:TE}{p pos:Pos}(m:X.mg "len" = none)(I:PE X e te)(F:Gl X "len":=by rfl)(hs:oG [e] X.env=(false,eval e X.env) :: oG [] X.env:=by rfl):PE X (.Call (.Name "len" p) [e] [] pos) (Kz (Kr []) (BP te CH)):=CV (Lf) F m Ee (AA I AD hs) (by decide) (by decide) hs rfl
theorem Kx{e:oU}{te:TE}{p pos:Pos}(m:X.mg "tuple" = none)(I:PE X e te)(F:Gl X "tuple":=by rfl)(hs:oG [e] X.env=(false,eval e X.env) :: oG [] X.env:=by rfl):PE X (.Call (.Name "tuple" p) [e] [] pos) (Kz (λxs H Q=>∃p ys,xs=[.ref p]/\((AR [] H p ys/\∀l,H l=none->Q (.ref l) (AF H l (.AG ys)))\/(AJ [] H p ys/\Q (.ref p) H))) (BP te CH)):=FF (GQ) F m Et (AA I AD hs) (by decide) (by decide) hs rfl
theorem Bb{a b:oU}{ta tb:TE}{pos:Pos}{op:CmpOp}{r:R2}(J:Bg X (qP op) r)(F:PE X a ta)(I:PE X b tb)(h:op≠.In:=by decide)(h2:op≠.NotIn:=by decide):PT X (.Compare a [op] [b] pos) (WR (Bh r ta tb)):=VA J F I (VO b h h2)
theorem K3{a b:oU}{ta tb:TE}{pos:Pos}{op:CmpOp}{r:R2}(J:Bg X (qP op) r)(F:PE X a ta)(I:PE X b tb)(h:op≠.In:=by decide)(h2:op≠.NotIn:=by decide):PE X (.Compare a [op] [b] pos) (Bh r ta tb):=cN J F I (VO b h h2)
theorem Hg{o i:oU}{td ty:TE}{pos:Pos}(F:X.A.units+1<cLine)(I:PE X o td)(hi:PE X i ty)(hs:RK i:=by exact λ_ _=>rfl):PE X (.Subscript o i pos) (Ly td ty):=ff F I hi hs
theorem A6{a b:oU}{ta tb:TE}{pos:Pos}{r:R2}(J:F9 X r)(F:PE X a ta)(I:PE X b tb)(hs:Nh b:=by exact λ_ _=>rfl):PE X (.Subscript a b pos) (Bh r ta tb):=JS J F I hs
theorem AZ{k:Nat}{x:Str}{ps:List Str}{sp:Sp}{e:oU}{es:List oU}{t:TA}{p pos:Pos}(c:Ad X.prog X.w X.K X.mg X.base k x ps sp)(O:PA X (e :: es) t)(hr:Room k X.A:=by first|assumption|exact Room.mono (by assumption) (by decide))(F:Gl X x:=by rfl)(I:(x == ("__debug__":Str))=false:=by decide)(J:oG (e :: es) X.env=(false,eval e X.env) :: oG es X.env:=by rfl)(aa:(rW pos (oG es X.env)).any (·.1)=false:=by rfl):
  PE X (.Call (.Name x p) (e :: es) [] pos) (EA sp [] E0 t):=iO c hr O F I J aa
end
end L2
namespace My
open PySem L2 PySem.Spec PyProof.Rows
section
variable {X:Cx}{ga:List (Addr×Obj)}{σ:L2.St}{H:Hp}{s:nP}
end
end My
namespace L2
open PySem PySem.Spec PyProof.Rows
section
variable {X:Cx}
def jI:V->List V->Hp->VK->Prop:=λx I H Q=>∃(l:Addr) (F:List Int) (k:Int),x=.ref l/\I=[.int k]/\H l=some (.AE (F.map V.int))/\k∈F/\F.length<=1000000/\Q (.int ((F.idxOf k:Nat):Int)) H
theorem P6:MR X "list.index" jI:=by
 intro ga s σ H x vs v us Q I rx rv h;obtain⟨l,J,k,rfl,rfl,hH,hk,hz,q⟩:=h;cases rx;obtain⟨u,rfl,ru⟩:=rv.Ah;obtain⟨t,rfl⟩:=ru;obtain⟨z,aa,n,r,hl,e⟩:=I.F2 hH;have hi:=PJ r;have ac:=hi.length;have O:J.idxOf k<J.length:=qg.mpr hk;refine uD ti ⟨_,e,U⟩ PySem.F.entry_list_index (PySem.F.args_list_index_2 _ _)
  (MeetsSeq.list_index l aa.toArray n (.int k t) (isInt k) (λy hy=>eq_isInt k t hi y (by simpa using hy)) (J.idxOf k) (by simpa [ac]using O) (by omega) ?_ ?_) ⟨e,⟨.int ((J.idxOf k:Nat):Int),H,I.DG _,⟨_,U⟩,q⟩⟩
 ·show isInt k aa[J.idxOf k]=true;rw[isInt_at k hi _ (by omega) O];simpa using rM O
 ·intro j ad ab;show isInt k aa[j]=false;rw[isInt_at k hi j (by simpa using ad) (by omega)];exact ne_of_lt_idxOf ab _
theorem ZQ(F:List Int):(F.map V.int).all HN=true:=by
 induction F with
 |nil=>rfl
 |cons n F ih=>rw[nK,xW,ih];rfl
theorem aN(k:Int)(F:List Int):Ol (.int k) (F.map V.int)=decide (k∈F):=by
 unfold Ol
 induction F with
 |nil=>rfl
 |cons n F ih =>
  rw[nK,tY,ih];have e:Hk (.int n) (.int k)=decide (k=n):=by
   show decide (n=k)=decide (k=n);by_cases h:n=k
   ·rw[qm h,qm h.symm]
   ·rw[qB h,qB (λz=>h z.symm)]
  rw[e];by_cases h:k=n
  ·simp[h]
  ·simp[h]
end
section
variable {prog:oT}{w:World}{A:qu}{E:Value->nP->Prop}{s:nP}
end
section
variable {X:Cx}
end
end L2
namespace L2
open PySem PySem.Spec PyProof.Rows PySem.SeqAt
section
variable {prog:oT}{w:World}{A:qu}{E:Value->nP->Prop}
end
section
variable {X:Cx}
end
end L2
namespace HT
open PySem PySem.Spec PyProof.Rows L2
section
variable {prog:oT}{w:World}{A:qu}{E:Value->nP->Prop}{s:nP}
end
end HT
namespace L2
open PySem PySem.Spec PyProof.Rows
section
variable {X:Cx}{K:nI}
theorem S9(F:List Int):uz (.list (F.map tU))=true:=by
 simp[uz,xF,vc,xG,yk]
variable {o e:Expr}{es:List Expr}{to:TE}{t:TA}{name:Str}{apos cpos:Pos}{id:String}{r:V->List V->Hp->VK->Prop}
inductive Ib(H:Hp):V->qA->Prop
 |int (i:Int):Ib H (.int i) (.int i)
 |bl (b:Bool):Ib H (.bl b) (.bool b)
 |str (z:Str):Ib H (.str z) (.str z)
 |AG {p:Addr} {xs:List V} {ds:List qA} (h:H p=some (.AG xs)) (F:xs.length=ds.length) (hd:∀(i:Nat) (x:V) (d:qA),xs[i]?=some x->ds[i]?=some d->Ib H x d):Ib H (.ref p) (.tuple ds)
theorem Ib.keep(s:AM H H')(h:Ib H v d):Ib H' v d:=by
 induction h with
 |int i=>exact .int i
 |bl b=>exact .bl b
 |str z=>exact .str z
 |AG h hl hd ih=>exact .AG (s _ _ h) hl ih
variable {ga:List (Addr×Obj)}{σ:L2.St}{H:Hp}{s:nP}
inductive Ih:Nat->qA->Prop
 |int {n:Nat} (i:Int):Ih n (.int i)
 |bl {n:Nat} (b:Bool):Ih n (.bool b)
 |AG {n:Nat} {ds:List qA} (h:∀d∈ds,Ih n d):Ih (n+1) (.tuple ds)
theorem U7:∀{ds:List qA},(∀d∈ds,d.canLay0=true)->za ds=true
 |[],_=>rfl
 |d :: ds,h=>by
  simp only[za,pA];exact⟨h d (by simp),U7 λx F=>h x (by simp[F])⟩
theorem UC:∀{ds:List qA},(∀d∈ds,d.depth<=n)->zW ds<=n
 |[],_=>pJ _
 |d :: ds,h=>by
  have:=UC (ds:=ds) λx F=>h x (by simp[F])
  have:=h d (by simp)
  simp only[zW];omega
theorem Ih.ok(h:Ih n d):d.canLay0=true/\d.depth<=n+1:=by
 induction h with
 |int i=>exact⟨U,by simp[vc]⟩
 |bl b=>exact⟨U,by simp[vc]⟩
 |@AG n ds h ih =>
  exists by simp only[xF];exact U7 λd hd=>(ih d hd).1
  have:=UC λd hd=>(ih d hd).2
  simp only[vc];omega
theorem Ih.shaped(h:Ih n d)(F:n<=60):uz d=true:=by
 unfold uz;rw[pA];exact⟨h.ok.1,qm (by have:=h.ok.2;omega)⟩
end
section
variable {X:Cx}
end
section
variable {prog:oT}{w:World}{A:qu}{E:Value->nP->Prop}{s:nP}
end
section
variable {X:Cx}
end
def lY(ta:TE):TE:=λσ H Q=>ta σ H λv H1=>∃n:Nat,v=.int (n:Int)/\n<=1000/\∀l,H1 l=none->Q (.ref l) (AF H1 l (.AE ((nz n).map λi:Nat=>V.int (i:Int))))
theorem QG:∀{xs:List V} {us:List Value},xs.length=us.length->(∀(i:Nat) (x:V) (u:Value),xs[i]?=some x->us[i]?=some u->Av x u)->Ag xs us
 |[],[],_,_=>.nil
 |[],_ :: _,h,_=>by simp at h
 |_ :: _,[],h,_=>by simp at h
 |x :: xs,u :: us,h,g=>.cons (g 0 x u rfl rfl) (QG (by simpa using h) λi y v I F=>g (i+1) y v (by simpa using I) (by simpa using F))
theorem Ld:qi "list" = some (.type "list"):=by decide +kernel
section
variable {X:Cx}
theorem X4 {a:oU}{ta:TE}{p O F pos:Pos}(hc:X.C5=true)(hg:Gl X "list")(hm:X.mg "list" = none)(ae:Gl X "range")(ac:X.mg "range" = none)(ha:PE X a ta)
  (hs:oG [.Call (.Name "range" O) [a] [] F] X.env=[(false,eval (.Call (.Name "range" O) [a] [] F) X.env)]:=by rfl)(ab:oG [a] X.env=[(false,eval a X.env)]:=by rfl) :
  PE X (.Call (.Name "list" p) [.Call (.Name "range" O) [a] [] F] [] pos) (lY ta):=by
 intro ga s σ H Q I h;refine qW (FP I hg hm Ld ?_ (by decide) (by decide));refine pI ?_ (by rw[hs];rfl) (by rfl);rw[hs];refine vF ?_;refine qW (FP I ae ac wy ?_ (by decide) (by decide));have ad:PA X [a] (BP ta CH):=AA ha AD (by rw[ab];rfl);have hq:BP ta CH σ H (λvs H1=>match vs with
   |[v]=>∃n:Nat,v=.int (n:Int)/\n<=1000/\∀l,H1 l=none->Q (.ref l) (AF H1 l (.AE ((nz n).map λi:Nat=>V.int (i:Int))))
   |_=>False):=h
 refine pI (Af (ad F ga _ σ H _ I hq) λus s2 ⟨vs,H2,I2,r2,J⟩=>?_) (by rw[ab];rfl) (by rfl);cases r2 with
 |nil=>exact qj J
 |cons r rr =>
  cases rr with
  |cons _ _=>exact qj J
  |nil =>
   obtain⟨n,rfl,hn,q⟩:=J;obtain⟨t,rfl⟩:=r;refine call_range_1 (v8 ?_);refine call_list_range (n:=n) (I2.ok.hd hc) (w8 ..) (small_one (by omega) (by omega) (by omega) (by omega)) (by rw[x4];split<;>omega) (by omega) λh' tk aa c hk hS hI=>?_
   obtain⟨hl,hI⟩:=hI;have hz:((nz n).map λi:Nat=>V.int (i:Int)).length<=og:=by rw[nc,oX,r6];omega
   have rv:Ag ((nz n).map λi:Nat=>V.int (i:Int)) aa.toList:=by
    refine QG (by rw[nc,oX,rC,hl]) λi x u e1 e2=>?_
    have hi:i<n:=by
     have:=(nj.mp e2).1
     rw[rC,hl]at this;exact this
    rw[nJ,pY hi]at e1;obtain⟨t',ht⟩:=hI i u (by rw[<-Array.getElem?_toList];exact e2);cases e1;exact⟨t',by rw[ht];congr 1;omega⟩
   have af:∀h1:Heap,(∀b o,s2.heap.get? b=some o->h1.get? b=some o)->(∀b o,h1.get? b=some o->h'.get? b=some o)->h'.get? h1.objs.size=some { cls:=.type "list",dict:=none,data:=.seq aa c,slots:=#[]}->EP X ga σ Q (.ref h1.objs.size) { s2 with heap:=h',toks:=tk}:=λh1 k1 k2 hS=>by
    have I3:=I2.CG (h':=h1) (t':=tk) k1;exact⟨.ref _,_,I3.Dt (t':=tk) k2 (nG _) (show Bx X.prog X.w _ h' _ (.AE _) from ⟨hz,aa.toList,c,rv,hS⟩),U,q _ (I3.Ap.CB (nG _))⟩
   exact af _ (λb o e=>nN _ e) hk hS
end
section
variable {prog:oT}{w:World}{A:qu}{E:Value->nP->Prop}{s:nP}
end
section
variable {X:Cx}
end
def j4(ta:TA):TE:=λσ H Q=>ta σ H λF H1=>∃(lo:Int) (n:Nat),F=[.int lo,.int (lo+(n:Int))]/\0<=lo/\lo<=1000/\n<=1000/\∀l,H1 l=none->Q (.ref l) (AF H1 l (.AE ((nz n).map λi:Nat=>V.int (lo+(i:Int)))))
section
variable {X:Cx}
theorem Xu {a b:oU}{ta:TA}{p J F pos:Pos}(hc:X.C5=true)(hg:Gl X "list")(hm:X.mg "list" = none)(ae:Gl X "range")(ac:X.mg "range" = none)(ha:PA X [a,b] ta)
  (hs:oG [.Call (.Name "range" J) [a,b] [] F] X.env=[(false,eval (.Call (.Name "range" J) [a,b] [] F) X.env)]:=by rfl)(ad:oG [a,b] X.env=[(false,eval a X.env),(false,eval b X.env)]:=by rfl)(ab:oG [b] X.env=[(false,eval b X.env)]:=by rfl) :
  PE X (.Call (.Name "list" p) [.Call (.Name "range" J) [a,b] [] F] [] pos) (j4 ta):=by
 intro ga s σ H Q I h;refine qW (FP I hg hm Ld ?_ (by decide) (by decide));refine pI ?_ (by rw[hs];rfl) (by rfl);rw[hs];refine vF ?_;refine qW (FP I ae ac wy ?_ (by decide) (by decide));refine pI (Af (ha F ga _ σ H _ I h) λus s2 ⟨vs,H2,I2,r2,q2⟩=>?_) (by rw[ad,ab]) (by rw[ab];rfl);obtain⟨lo,n,e,l0,l1,hn,q⟩:=q2;subst e;cases r2 with
 |cons r rr =>
  cases rr with
  |cons r' rr =>
   cases rr;obtain⟨t,rfl⟩:=r;obtain⟨t',rfl⟩:=r';refine call_range_2 (v8 ?_);refine call_list_range (n:=n) (I2.ok.hd hc) (w8 ..) (small_one (by omega) (by omega) (by omega) (by omega)) (by rw[x4];split<;>omega) (by omega) λh' tk aa c hk hS O=>?_
   obtain⟨hl,O⟩:=O;have hz:((nz n).map λi:Nat=>V.int (lo+(i:Int))).length<=og:=by rw[nc,oX,r6];omega
   have rv:Ag ((nz n).map λi:Nat=>V.int (lo+(i:Int))) aa.toList:=by
    refine QG (by rw[nc,oX,rC,hl]) λi x u e1 e2=>?_
    have hi:i<n:=by
     have:=(nj.mp e2).1
     rw[rC,hl]at this;exact this
    rw[nJ,pY hi]at e1;obtain⟨t',ht⟩:=O i u (by rw[<-Array.getElem?_toList];exact e2);cases e1;exact⟨t',by rw[ht];congr 1;omega⟩
   have af:∀h1:Heap,(∀b o,s2.heap.get? b=some o->h1.get? b=some o)->(∀b o,h1.get? b=some o->h'.get? b=some o)->h'.get? h1.objs.size=some { cls:=.type "list",dict:=none,data:=.seq aa c,slots:=#[]}->EP X ga σ Q (.ref h1.objs.size) { s2 with heap:=h',toks:=tk}:=λh1 k1 k2 hS=>by
    have I3:=I2.CG (h':=h1) (t':=tk) k1;exact⟨.ref _,_,I3.Dt (t':=tk) k2 (nG _) (show Bx X.prog X.w _ h' _ (.AE _) from ⟨hz,aa.toList,c,rv,hS⟩),U,q _ (I3.Ap.CB (nG _))⟩
   exact af _ (λb o e=>nN _ e) hk hS
theorem cF(O:X.A.units+64<cLine):Bg X (qP .NotEq) (λx y H Q=>∃(p q:Addr) (F:List Int),x=.ref p/\y=.ref q/\H p=some (.AE (F.map V.int))/\H q=some (.AE [])/\Q (.bl (!F.isEmpty)) H):=by
 intro ga s σ H x y v u Q I J ry h;obtain⟨p,q,F,rfl,rfl,hp,hq,k⟩:=h;cases J;cases ry;obtain⟨_,ac,n1,r1,_,e1⟩:=I.F2 hp;have aa:H q=some (.AE (([]:List Int).map V.int)):=hq;obtain⟨_,ab,n2,r2,_,e2⟩:=I.F2 aa;have d1:Reads s.heap (.ref p) (.list (F.map tU)) [p]:=.list e1 rfl rfl (by simpa using (PJ r1).reads s.heap);have d2:Reads s.heap (.ref q) (.list (([]:List Int).map tU)) [q]:=.list e2 rfl rfl (by simpa using (PJ r2).reads s.heap);refine ne_dataH d1 d2 (S9 F) (S9 []) O ?_;have e:qA.eqv (.list (F.map tU)) (.list (([]:List Int).map tU))=F.isEmpty:=by
  cases F<;>simp[qA.eqv,qA.eqvAll]
 rw[e];exact⟨.bl _,H,I,U,k⟩
theorem Yy(hc:X.C5=true):DJ X (.builtin "max") (λxs H Q=>∃(p:Addr) (F:List Int),xs=[.ref p]/\H p=some (.AG (F.map V.int))/\0<F.length/\∀m,m∈F->(∀a∈F,a<=m)->Q (.int m) H):=by
 intro ga s σ H xs us Q I r h;obtain⟨p,F,rfl,hp,ae,q⟩:=h;obtain⟨u,rfl,r1⟩:=IL r;cases r1;obtain⟨O,rv,pa,_⟩:=I.tuple (AJ.of (K:=X.K) hp);have af:O.length=F.length:=by rw[<-rv.length,nc]
 have ac:p<s.heap.objs.size:=by
  obtain⟨o,ho,_⟩:=id pa;exact oq ho
 have aa:∀i v,O.toArray[i]?=some v->∃t,v=.int (F.getD i 0) t/\i<F.length:=λi v J=>by
  rw[uU]at J;have hi:i<O.length:=(nj.mp J).1;have ab:i<F.length:=by omega
  have hx:(F.map V.int)[i]?=some (.int F[i]):=by rw[nJ,nh ab];rfl
  obtain⟨u,hu,ru⟩:=rv.BZ hx;rw[hu]at J;obtain rfl:u=v:=nV J;obtain⟨t,rfl⟩:=ru;exact⟨t,by rw[nq,nh ab];rfl,ab⟩
 refine call_max_walk (qX pa ?_);refine⟨s.heap.objs.size,_,_,_,_,_,λi j=>decide (-(F.getD i 0) < -(F.getD j 0)),U,Walks.tuple (show X.A.in1.handled=none from I.ok.hd hc) _ p (pV ac) O.toArray,⟨⟨_,oF _ rfl,U,U⟩,pa.push _⟩,λb hb=>?_,by rw[n8];omega,λi j vi vj s' Q' E' hi hj ad=>?_,λv h' tk J k=>?_⟩
 ·simp only[nZ,pD,qV]at hb;rw[rX];rcases hb with rfl|rfl
  ·exact zI _
  ·exact Nat.lt_succ_of_lt ac
 ·obtain⟨t1,rfl,_⟩:=aa i vi hi;obtain⟨t2,rfl,_⟩:=aa j vj hj;refine gt_int ?_;have e:decide (F.getD j 0<F.getD i 0)=decide (-(F.getD i 0) < -(F.getD j 0)):=by
   rw[qc,su,su];omega
  first
   |(rw[e];exact ad)
   |(rw[show decide (F.getD i 0>F.getD j 0)=decide (-(F.getD i 0) < -(F.getD j 0)) from e];exact ad)
 ·obtain⟨t,rfl,hb⟩:=aa _ v J;obtain⟨h1,h2⟩:=argBest_lt (λi=>-(F.getD i 0)) (O.toArray.size-1);refine⟨.int _,H,I.CG λb o eb=>?_,⟨t,U⟩,q _ (getD_mem hb) λa ha=>?_⟩
  ·exact k b o (λz=>by
    have:b=s.heap.objs.size:=by simpa using z
    exact absurd (oq eb) (by rw[this];exact sj _)) (nN _ eb)
  ·obtain⟨j,hj,rfl⟩:=mem_getD ha
   have:=h2 j (by rw[n8];omega)
   have h3:-(F.getD (argBest (λi j=>decide (-(F.getD i 0) < -(F.getD j 0))) (O.toArray.size-1)) 0)<=-(F.getD j 0):=this;omega
def WA(f:Addr)(tv:TE)(sp:Sp)(E:XK)(t:TA):TE:=λσ H Q=>tv σ H λv H1=>v=.ref f/\t σ H1 λF H2=>sp (F++[]) H2 Q E
theorem Z8 {CX:GD}{k:Nat}{f:Addr}{fd:qf}{ps:List Str}{sp:Sp}{E:XK}{x:Str}{p pos:Pos}{e:oU}{es:List oU}{tv:TE}{t:TA}(F:Am X.prog X.w X.K X.mg X.base CX k f fd ps sp)(hr:Room k X.A)(hv:PE X (.Name x p) tv)(hk:tL X.K (.ref f)=true)(hb:EU X.K fd ps [])(O:N4 CX X E)
  (ha:PA X (e :: es) t)(he:oG (e :: es) X.env=(false,eval e X.env) :: oG es X.env:=by rfl)(aa:(rW pos (oG es X.env)).any (·.1)=false:=by rfl) :
  PE X (.Call (.Name x p) (e :: es) [] pos) (WA f tv sp E t):=by
 intro ga s σ H Q I h;refine qW (Af (hv ga s σ H _ I h) λu s1 ⟨v,H1,I1,r1,ev,q1⟩=>?_);subst ev;obtain rfl:u=qw f:=r1;refine yI (h₀:=X.base) I.ok.DV.Oo hk (Af (ha pos ga s1 σ H1 _ I1 q1) λus s2 ⟨vs,H2,J,r,q⟩=>⟨J.Dh,?_⟩) he aa;exact V7 F hr hb .nil O J r q
def Wm(K:nI):R2:=λx y H Q=>∃a b xs ys,x=.ref a/\y=.ref b/\AJ K H a xs/\AJ K H b ys/\ys≠[]/\xs.length+ys.length<=og /\
 (xs=[]->Q (.ref b) H)/\(xs≠[]->∀p,H p=none->Q (.ref p) (AF H p (.AG (xs++ys))))
theorem dU:Bg X (rK .Add) (Wm X.K):=by
 intro ga s σ H x y v u Q I O ry h;obtain⟨a,b,xs,ys,rfl,rfl,ha,hb,hy,hz,q1,q2⟩:=h;by_cases J:xs=[]
 ·cases O;cases ry;obtain⟨ad,r1,p1,_⟩:=I.tuple ha;obtain⟨ag,r2,p2,_⟩:=I.tuple hb;have e0:ad=[]:=r1.NS.mpr J;obtain⟨⟨cls,dd,data,sl⟩,ho,hc,n,hd⟩:=id p1;obtain⟨⟨ai,ae,ah,af⟩,ac,aa,n2,ab⟩:=id p2;simp only at hc hd aa ab;subst hc hd aa ab;exact yT ⟨_,ho,U⟩ ⟨_,ac,U⟩ wO x5 uM uE (uw _ _)
   (tuple_addW0 a b ad.toArray ag.toArray n n2 dd ae sl af (by simp[e0])) ⟨ho,ac,⟨.ref b,H,I,U,q1 J⟩⟩
 ·exact LZ ga s σ H _ _ v u Q I O ry ⟨a,b,xs,ys,U,U,ha,hb,J,hz,λz=>absurd z hy,λ_=>q2 J⟩
end
end L2
namespace Mth
theorem TR(a b:Int):pN b (a.fmod b)=pN a b:=by
 rw[Int.fmod_def];have e:a-b*a.fdiv b=a+b*(-(a.fdiv b)):=by rw[Int.mul_neg,Int.sub_eq_add_neg]
 rw[e,Int.gcd_add_mul_left_right,Int.gcd_comm]
theorem fy(a b:Int)(h:b≠0):(a.fmod b).natAbs<b.natAbs:=by
 rw[Int.fmod_eq_emod];have h1:=pS a h;have h2:=Int.emod_lt a h;split
 ·lia
 ·rename_i z
  have:¬b ∣ a:=λq=>z (yH q)
  have F:a%b≠0:=λq=>this (Int.dvd_of_emod_eq_zero q)
  lia
def BJ(t b:Int):Int:=if b<0 then -(pN t b:Int) else (pN t b:Int)
def BV(t b:Int):Int×Int:=(t.fdiv (BJ t b),b.fdiv (BJ t b))
theorem Nk(t b:Int)(h:b≠0):0<pN t b:=Int.gcd_pos_of_ne_zero_right _ h
theorem Ni(t b:Int)(h:b≠0):BJ t b≠0:=by
 have:=Nk t b h
 unfold BJ;split<;>lia
theorem SI(t b:Int):BJ t b ∣ t:=by
 unfold BJ;split
 ·exact Int.neg_dvd.mpr (tP t b)
 ·exact tP t b
theorem SF(t b:Int):BJ t b ∣ b:=by
 unfold BJ;split
 ·exact Int.neg_dvd.mpr (tu t b)
 ·exact tu t b
theorem Nz(t b:Int):(BV t b).1*BJ t b=t:=by
 show t.fdiv (BJ t b)*BJ t b=t;rw[qo (SI t b),yc (SI t b)]
theorem Lp(t b:Int):(BV t b).2*BJ t b=b:=by
 show b.fdiv (BJ t b)*BJ t b=b;rw[qo (SF t b),yc (SF t b)]
theorem UD(t b:Int)(h:b≠0):0<(BV t b).2:=by
 have e:=Lp t b;have g:=Nk t b h;rcases Int.lt_or_lt_of_ne h with h1|h1
 ·have hp:BJ t b<0:=by unfold BJ;rw[nF h1];lia
  rcases tE 0 (BV t b).2 with q|q
  ·exact q
  ·have:0<=(BV t b).2*BJ t b:=Int.mul_nonneg_of_nonpos_of_nonpos q (yr hp)
   lia
 ·have hp:0<BJ t b:=by unfold BJ;rw[nv (by lia)];lia
  rcases tE 0 (BV t b).2 with q|q
  ·exact q
  ·have:(BV t b).2*BJ t b<=0:=uH q (yr hp)
   lia
theorem SK(t b:Int):(BV t b).1*b=t*(BV t b).2:=by
 have I:=Nz t b;have F:=Lp t b;generalize (BV t b).1=n at *;generalize (BV t b).2=d at *;generalize BJ t b=p at *;subst I;subst F;rw[Int.mul_comm d p,xU]
theorem Zp(t b:Int)(h:b≠0):pN (BV t b).1 (BV t b).2=1:=by
 have I:=Nz t b;have F:=Lp t b;have g:=Nk t b h;have hp:(BJ t b).natAbs=pN t b:=by unfold BJ;split<;>lia
 have k:pN ((BV t b).1*BJ t b) ((BV t b).2*BJ t b)=pN (BV t b).1 (BV t b).2*(BJ t b).natAbs:=Int.gcd_mul_right _ _ _;rw[I,F,hp]at k
 have:1*pN t b=pN (BV t b).1 (BV t b).2*pN t b:=by rw[sJ];exact k
 exact(Nat.eq_of_mul_eq_mul_right g this).symm
theorem UT(t b:Int)(h:b≠0):(BJ t b).natAbs<=b.natAbs:=by
 have e:(BJ t b).natAbs=pN t b:=by unfold BJ;split<;>lia
 rw[e];exact uN (xy.mpr h) (by
  have:=tu t b
  exact vH.mp this)
theorem Ze(t b:Int)(h:b≠0):(BV t b).1.natAbs<=t.natAbs:=by
 have e:=congrArg zP (Nz t b);rw[oE]at e
 have:1<=(BJ t b).natAbs:=xy.mpr (Ni t b h)
 calc (BV t b).1.natAbs=(BV t b).1.natAbs*1:=(xf _).symm
  _<=(BV t b).1.natAbs*(BJ t b).natAbs:=pZ _ this
  _=t.natAbs:=e
theorem Yq(t b:Int)(h:b≠0):(BV t b).2.natAbs<=b.natAbs:=by
 have e:=congrArg zP (Lp t b);rw[oE]at e
 have:1<=(BJ t b).natAbs:=xy.mpr (Ni t b h)
 calc (BV t b).2.natAbs=(BV t b).2.natAbs*1:=(xf _).symm
  _<=(BV t b).2.natAbs*(BJ t b).natAbs:=pZ _ this
  _=b.natAbs:=e
end Mth
namespace Wd
variable {p:Int}{B0 m:Nat}{B x:Rat}
abbrev AW:=Nat->Rat
abbrev A5:=List Bool->Rat
def sh(v:AW):AW:=λj=>v (j+1)
def BC(w:A5):A5:=λT=>w (false :: T)
def Ay(w:A5):A5:=λT=>w (true :: T)
def wg:AW->A5->A5
 |_,_,[]=>0
 |v,w,false :: S=>wg (sh v) (BC w) S
 |v,w,true :: S=>v 0*w (false :: S)-wg (sh v) (Ay w) S
def Ah:A5
 |[]=>1
 |false :: S=>Ah S
 |true :: _=>0
theorem LI(S:List Bool):∀(u v:AW) (w:A5),wg (λj=>u j+v j) w S=wg u w S+wg v w S:=by
 induction S with
 |nil=>intro u v w;simp only[wg];grind
 |cons b S ih =>
  intro u v w;have h:=ih (sh u) (sh v);have e:sh (λj=>u j+v j)=λj=>sh u j+sh v j:=rfl
  cases b
  ·simp only[wg,e,h]
  ·simp only[wg,e,h];grind
theorem Hv(S:List Bool):∀(c:Rat) (v:AW) (w:A5),wg (λj=>c*v j) w S=c*wg v w S:=by
 induction S with
 |nil=>intro c v w;simp[wg]
 |cons b S ih =>
  intro c v w;have h:=ih c (sh v);have e:sh (λj=>c*v j)=λj=>c*sh v j:=rfl
  cases b
  ·simp only[wg,e,h]
  ·simp only[wg,e,h];grind
theorem Lh(S:List Bool):∀(v:AW) (w x:A5),wg v (λT=>w T+x T) S=wg v w S+wg v x S:=by
 induction S with
 |nil=>intro v w x;simp only[wg];grind
 |cons b S ih =>
  intro v w x;have F:BC (λT=>w T+x T)=λT=>BC w T+BC x T:=rfl
  have I:Ay (λT=>w T+x T)=λT=>Ay w T+Ay x T:=rfl
  cases b
  ·simp only[wg,F,ih]
  ·simp only[wg,I,ih];grind
theorem Fq(S:List Bool):∀(c:Rat) (v:AW) (w:A5),wg v (λT=>c*w T) S=c*wg v w S:=by
 induction S with
 |nil=>intro c v w;simp[wg]
 |cons b S ih =>
  intro c v w;have F:BC (λT=>c*w T)=λT=>c*BC w T:=rfl
  have I:Ay (λT=>c*w T)=λT=>c*Ay w T:=rfl
  cases b
  ·simp only[wg,F,ih]
  ·simp only[wg,I,ih];grind
theorem jO(S:List Bool)(v:AW)(w x:A5):wg v (λT=>w T-x T) S=wg v w S-wg v x S:=by
 have e:(λT=>w T-x T)=λT=>w T+(λT=>(-1)*x T) T:=by funext T;grind
 rw[e,Lh,Fq];grind
theorem Ka(S:List Bool):∀(v:AW) (w:A5),wg v (wg v w) S=0:=by
 induction S with
 |nil=>intro v w;simp[wg]
 |cons b S ih =>
  intro v w;cases b
  ·have F:BC (wg v w)=wg (sh v) (BC w):=rfl;simp only[wg,F,ih]
  ·have I:Ay (wg v w)=λT=>v 0*BC w T-wg (sh v) (Ay w) T:=rfl
   have J:(λT=>v 0*BC w T)=λT=>v 0*BC w T:=rfl
   simp only[wg,I];rw[jO (x:=wg (sh v) (Ay w)) (w:=λT=>v 0*BC w T),Fq,ih];grind
theorem Lc(u v:AW)(w:A5)(S:List Bool):wg u (wg v w) S=- wg v (wg u w) S:=by
 have h:=Ka S (λj=>u j+v j) w;have e:wg (λj=>u j+v j) w=λT=>wg u w T+wg v w T:=by funext T;exact LI T u v w
 rw[LI,e,Lh,Lh,Ka,Ka]at h
 grind
theorem NU(S:List Bool)(v:AW):wg v (λ_=>0) S=0:=by
 have h:=Fq S 0 v (λ_=>0);have e:(λT:List Bool=>(0:Rat)*(λ_=>(0:Rat)) T)=λ_=>0:=by funext T;grind
 rw[e]at h;grind
def Ac:List AW->A5->A5
 |[],w=>w
 |v :: L,w=>Ac L (wg v w)
theorem GJ(L M:List AW)(w:A5):Ac (L++M) w=Ac M (Ac L w):=by
 induction L generalizing w with
 |nil=>rfl
 |cons v L ih=>simp[Ac,ih]
theorem IB(L:List AW):∀(c:Rat) (w:A5),Ac L (λT=>c*w T)=λT=>c*Ac L w T:=by
 induction L with
 |nil=>intro c w;rfl
 |cons v L ih =>
  intro c w;have e:wg v (λT=>c*w T)=λT=>c*wg v w T:=by funext T;exact Fq T c v w
  simp only[Ac];rw[e,ih]
theorem gM(L:List AW):∀(w x:A5),Ac L (λT=>w T+x T)=λT=>Ac L w T+Ac L x T:=by
 induction L with
 |nil=>intro w x;rfl
 |cons v L ih =>
  intro w x;have e:wg v (λT=>w T+x T)=λT=>wg v w T+wg v x T:=by funext T;exact Lh T v w x
  simp only[Ac];rw[e,ih]
theorem Zg(L:List AW):Ac L (λ_=>0)=λ_=>0:=by
 induction L with
 |nil=>rfl
 |cons v L ih =>
  have e:wg v (λ_=>0)=λ_=>0:=by funext T;exact NU T v
  simp only[Ac];rw[e,ih]
def sg(n:Nat):Rat:=if n%2=0 then 1 else -1
theorem QQ(n:Nat):sg (n+1)=- sg n:=by unfold sg;split<;>split<;>first|lia|grind
theorem JM(n:Nat):sg n*sg n=1:=by unfold sg;split<;>grind
theorem V3(L:List AW):∀(v:AW) (w:A5) (S:List Bool),Ac L (wg v w) S=sg L.length*wg v (Ac L w) S:=by
 induction L with
 |nil=>intro v w S;simp[Ac,sg]
 |cons u L ih =>
  intro v w S;simp only[Ac,oA];have e:wg u (wg v w)=λT=>(-1)*wg v (wg u w) T:=by funext T;rw[Lc];grind
  rw[e,IB];simp only[];rw[ih,QQ];grind
theorem Mn(P Q R:List AW)(v:AW)(w:A5)(S:List Bool):Ac (P++v :: Q++v :: R) w S=0:=by
 have e:P++v :: Q++v :: R=P++(v :: (Q++(v :: R))):=by simp
 rw[e,GJ];generalize Ac P w=x;simp only[Ac];rw[GJ];simp only[Ac];have h:wg v (Ac Q (wg v x))=λ_=>0:=by
  funext T
  have h2:Ac Q (wg v x)=λT=>sg Q.length*wg v (Ac Q x) T:=by funext T;exact V3 Q v x T
  rw[h2,Fq,Ka];grind
 rw[h,Zg]
theorem Mg(P Q:List AW)(u v:AW)(w:A5)(S:List Bool):
  Ac (P++(λj=>u j+v j) :: Q) w S=Ac (P++u :: Q) w S+Ac (P++v :: Q) w S:=by
 rw[GJ,GJ,GJ];simp only[Ac];have e:wg (λj=>u j+v j) (Ac P w)=λT=>wg u (Ac P w) T+wg v (Ac P w) T:=by funext T;exact LI T u v _
 rw[e,gM]
theorem R4(P Q:List AW)(c:Rat)(v:AW)(w:A5)(S:List Bool):
  Ac (P++(λj=>c*v j) :: Q) w S=c*Ac (P++v :: Q) w S:=by
 rw[GJ,GJ];simp only[Ac];have e:wg (λj=>c*v j) (Ac P w)=λT=>c*wg v (Ac P w) T:=by funext T;exact Hv T c v _
 rw[e,IB]
theorem Zj(P Q R:List AW)(u v:AW)(w:A5)(S:List Bool):
  Ac (P++u :: Q++v :: R) w S=- Ac (P++v :: Q++u :: R) w S:=by
 have h:=Mn P Q R (λj=>u j+v j) w S;have F:∀x y:AW,P++x :: Q++y :: R=P++x :: (Q++y :: R):=by intro x y;simp
 have h1:Ac (P++(λj=>u j+v j) :: Q++(λj=>u j+v j) :: R) w S
   = Ac (P++u :: Q++(λj=>u j+v j) :: R) w S+Ac (P++v :: Q++(λj=>u j+v j) :: R) w S:=by
  rw[F,Mg,<-F,<-F]
 rw[h1,Mg,Mg,Mn,Mn]at h
 grind
def DN(c:Nat)(v:AW):AW:=λj=>v (j+c)
def pre(c:Nat)(w:A5):A5:=λT=>w (nQ c true++T)
theorem Qq(c:Nat):∀(v:AW) (w:A5) (S:List Bool),(∀j,j<c->v j=0) →
  wg v w (nQ c true++S)=sg c*wg (DN c v) (pre c w) S:=by
 induction c with
 |zero=>intro v w S _;simp[sg];rfl
 |succ c ih =>
  intro v w S h;have F:=h 0 (by lia)
  have:=ih (sh v) (Ay w) S (λj O=>h (j+1) (by lia))
  simp only[o8,qT,wg];rw[this,F,QQ];have I:DN c (sh v)=DN (c+1) v:=by funext j;simp only[DN,sh];congr 1
  have J:pre c (Ay w)=pre (c+1) w:=by funext T;simp[pre,Ay,o8]
  rw[I,J];grind
theorem cX(S:List Bool):∀(v:AW) (w:A5),(∀b∈S,b=false)->wg v w S=0:=by
 induction S with
 |nil=>intro v w _;rfl
 |cons b S ih =>
  intro v w h
  have:=h b (by simp)
  subst this;exact ih _ _ (λb F=>h b (by simp[F]))
theorem gv(d e:Nat):∀(v:AW) (w:A5),
  wg v w (nQ d false++true :: nQ e false)=v d*w (nQ (d+1+e) false):=by
 induction d with
 |zero =>
  intro v w;simp only[yh,uc,wg];rw[cX _ _ _ (λb F=>(yz.mp F).2)]
  have:(0+1+e)=e+1:=by lia
  rw[this,o8];grind
 |succ d ih =>
  intro v w
  have:=ih (sh v) (BC w)
  simp only[o8,qT,wg];rw[this]
  have:d+1+1+e=(d+1+e)+1:=by lia
  rw[this,o8];rfl
def Tk(c m:Nat):List Bool:=nQ c true++nQ (m-c) false
def Sj(c j m:Nat):List Bool:=nQ c true++(nQ (j-c) false++true :: nQ (m-1-j) false)
theorem RE(w:A5)(F:∀i,i<c->v i=0)(h1:c<=j)(h2:j<m):
  wg v w (Sj c j m)=sg c*(v j*w (Tk c m)):=by
 unfold Sj;rw[Qq c v w _ F,gv];have e:j-c+1+(m-1-j)=m-c:=by lia
 simp only[DN,pre,e,Tk]
 have:j-c+c=j:=by lia
 rw[this]
theorem cV(h:c<m):Sj c c m=Tk (c+1) m:=by
 unfold Sj Tk;have e:m-1-c=m-(c+1):=by lia
 rw[rG,yh,uc,e,u0,pG];rfl
def CF:Nat->Rat
 |0=>1
 |c+1=>CF c*sg c
theorem KG(c:Nat):CF c*CF c=1:=by
 induction c with
 |zero=>simp[CF]
 |succ c ih=>simp only[CF];have:=JM c;grind
def ld(c m:Nat)(w:A5):Rat:=CF c*w (Tk c m)
theorem Q6(w:A5)(F:∀i,i<c->v i=0)(h:c<m):ld (c+1) m (wg v w)=v c*ld c m w:=by
 have:=RE (v:=v) w F (nG c) h
 rw[cV h]at this;unfold ld;rw[this];simp only[CF];have:=JM c;grind
def BG(x:Rat):Prop:=∃n:Int,x=n
theorem BG.D0(h:BG x)(g:BG y):BG (x*y):=by
 obtain⟨a,rfl⟩:=h;obtain⟨b,rfl⟩:=g;exact⟨a*b,by grind⟩
theorem BG.Dz(h:BG x)(g:BG y):BG (x-y):=by
 obtain⟨a,rfl⟩:=h;obtain⟨b,rfl⟩:=g;exact⟨a-b,by grind⟩
theorem BG.of(n:Int):BG (n:Rat):=⟨n,U⟩
theorem Nu(S:List Bool):∀(v:AW) (w:A5),(∀j,BG (v j))->(∀T,BG (w T))->BG (wg v w S):=by
 induction S with
 |nil=>intro v w _ _;exact⟨0,U⟩
 |cons b S ih =>
  intro v w h g;cases b
  ·exact ih _ _ (λj=>h (j+1)) (λT=>g _)
  ·exact((h 0).D0 (g _)).Dz (ih _ _ (λj=>h (j+1)) (λT=>g _))
theorem QI(S:List Bool):BG (Ah S):=by
 induction S with
 |nil=>exact⟨1,U⟩
 |cons b S ih=>cases b;exact ih;exact⟨0,U⟩
theorem cZ(n:Nat):Ah (nQ n false)=1:=by
 induction n with
 |zero=>rfl
 |succ n ih=>rw[o8];exact ih
theorem Ln(m:Nat):ld 0 m Ah=1:=by
 simp[ld,CF,Tk,cZ]
def Cm(S:List Bool):Nat:=(S.filter id).length
theorem iC(S:List Bool):∀(v:AW) (w:A5) (d:Nat),(∀T,Cm T<d->w T=0)->Cm S<d+1->wg v w S=0:=by
 induction S with
 |nil=>intro v w d _ _;rfl
 |cons b S ih =>
  intro v w d h g;cases b
  ·exact ih (sh v) (BC w) d (λT F=>h _ (by simpa [Cm]using F)) (by simpa [Cm]using g)
  ·simp only[wg];have I:Cm S<d:=by simp[Cm]at g ⊢;lia
   rw[h (false :: S) (by simpa [Cm]using I)];cases d with
   |zero=>lia
   |succ d=>rw[ih (sh v) (Ay w) d (λT F=>h _ (by simp[Cm]at F ⊢;lia)) I];grind
theorem dM(L:List AW):∀(w:A5) (d:Nat),(∀T,Cm T<d->w T=0)->∀S,Cm S<d+L.length->Ac L w S=0:=by
 induction L with
 |nil=>intro w d h S F;exact h S (by simpa using F)
 |cons v L ih =>
  intro w d h S F;exact ih (wg v w) (d+1) (λT I=>iC T v w d h I) S (by simp at F;lia)
theorem gC(c:Nat)(L:List AW):∀(w:A5) (S:List Bool),(∀v∈L,∀j,j<c->v j=0) →
  ∃e:Rat,Ac L w (nQ c true++S)=e*Ac (L.map (DN c)) (pre c w) S:=by
 induction L with
 |nil=>intro w S _;exact⟨1,by simp[Ac,pre]⟩
 |cons v L ih =>
  intro w S h;obtain⟨e,I⟩:=ih (wg v w) S (λu F=>h u (by simp[F]));exists e*sg c;simp only[Ac,nK];rw[I]
  have:pre c (wg v w)=λT=>sg c*wg (DN c v) (pre c w) T:=by
   funext T;exact Qq c v w T (h v (by simp))
  rw[this,IB];grind
theorem gZ(w:A5)(F:∀v∈L,∀j,j<c->v j=0)(h1:c<=n)(h2:n<c+L.length):Ac L w (Tk n m)=0:=by
 have e:Tk n m=nQ c true++(nQ (n-c) true++nQ (m-n) false):=by
  unfold Tk;rw[<-List.append_assoc,sX];congr 2;lia
 obtain⟨x,I⟩:=gC c L w (nQ (n-c) true++nQ (m-n) false) F;rw[e,I,dM _ _ 0 (λT J=>by lia)]
 ·grind
 ·simp[Cm,vJ];lia
def Ab(B x:Rat):Prop:=-B<=x/\x<=B
theorem Ab.nn(h:Ab B x):0<=B:=by obtain⟨a,b⟩:=h;grind
theorem Ab.D0(h:Ab B x)(g:Ab C y):Ab (B*C) (x*y):=by
 obtain⟨h1,h2⟩:=h;obtain⟨h3,O⟩:=g;have J:=qG (show 0<=B-x by grind) (show 0<=C+y by grind);have I:=qG (show 0<=B+x by grind) (show 0<=C-y by grind);have F:=qG (show 0<=B-x by grind) (show 0<=C-y by grind);have a4:=qG (show 0<=B+x by grind) (show 0<=C+y by grind);constructor<;>grind
theorem Ab.Dz(h:Ab B x)(g:Ab C y):Ab (B+C) (x-y):=by
 obtain⟨h1,h2⟩:=h;obtain⟨I,F⟩:=g;constructor<;>grind
theorem Ab.le(h:Ab B x)(g:B<=C):Ab C x:=by
 obtain⟨h1,h2⟩:=h;constructor<;>grind
theorem Ab.Gm(h:Ab B x):Ab B (-1*x):=by
 obtain⟨h1,h2⟩:=h;constructor<;>grind
theorem RC(S:List Bool):∀(v:AW) (w:A5),(∀j,Ab V (v j))->(∀T:List Bool,T.length=S.length->Ab W (w T))->Ab ((S.length:Nat)*(V*W)) (wg v w S):=by
 induction S with
 |nil=>intro v w _ _;simp only[wg,rA];constructor<;>grind
 |cons b S ih =>
  intro v w h g;have I:=(g (b :: S) rfl).nn;have J:=(h 0).nn;have O:=qG J I;have e:(((b :: S).length:Nat):Rat)=(S.length:Nat)+1:=by rw[oA];grind
  cases b
  ·have:=ih (sh v) (BC w) (λj=>h (j+1)) (λT F=>g _ (by simp[F]))
   simp only[wg];refine this.le ?_;rw[e];grind
  ·have h1:=ih (sh v) (Ay w) (λj=>h (j+1)) (λT F=>g _ (by simp[F]));have h2:=(h 0).D0 (g (false :: S) (by simp));simp only[wg];refine(h2.Dz h1).le ?_;rw[e];grind
def vr(r:List Int):AW:=λj=>((r.getD j 0:Int):Rat)
def Cw(row F:List Int)(k:Nat)(p:Int):List Int:=va (λx y=>(F.getD k 0*x-row.getD k 0*y).fdiv p) row F
structure Ro(f:AW->Rat):Prop where
 Cu:∀u v:AW,f (λj=>u j+v j)=f u+f v
 HY:∀(c:Rat) (v:AW),f (λj=>c*v j)=c*f v
structure Bi(B n m k:Nat)(A0:List AW)(top:List (List Int))(Z:List (List Int×AW))(p:Int)(w:A5):Prop where
 F7:top.length=k
 Fe:k+Z.length=n
 nm:n<=m
 IV:∀r∈top,r.length=m
 Dv:∀z∈Z,z.1.length=m
 pz:p≠0
 pl:ld k m w=p
 rel:∀z∈Z,∀S,p*wg z.2 w S=wg (vr z.1) w S
 E9:∀z∈Z,∀j,j<k->vr z.1 j=0
 IT:∀S,BG (w S)
 Fz:∀z∈Z,∀j,BG (z.2 j)
 all:Ac (Z.map (·.2)) w=Ac A0 Ah
 Fm:∀i,i<k->(top.getD i []).getD i 0≠0/\∀j,j<i->(top.getD i []).getD j 0=0
 HZ:0<k->(top.getD (k-1) []).getD (k-1) 0=p
 Ic:∀z∈Z,∀j,Ab B (z.2 j)
 Ii:∀T,Ab ((T.length*B) ^ k:Nat) (w T)
 Jc:∀r∈top,∀j,Ab ((m*B) ^ n:Nat) (vr r j)
 b1:1<=B
 MW:∀f,Ro f->(∀a∈A0,f a=0)->(∀r∈top,f (vr r)=0)/\∀z∈Z,f (vr z.1)=0
 Kq:∀f,Ro f->(∀r∈top,f (vr r)=0)->(∀z∈Z,f (vr z.1)=0)->∀a∈A0,f a=0
def ng(z:List Int×AW):List Int×AW:=(z.1.map (λx=>-x),λj=>(-1)*z.2 j)
theorem Xx(r:List Int)(j:Nat):(r.map (λx=>-x)).getD j 0=- r.getD j 0:=by
 simp only[nq,nJ];cases r[j]?<;>simp
theorem OG(r:List Int):vr (r.map (λx=>-x))=λj=>(-1)*vr r j:=by
 funext j;simp only[vr,Xx];grind
theorem Bi.lW
  (B:Bi B0 n m k A0 top (f :: P++z :: Q) p w):Bi B0 n m k A0 top (z :: P++ng f :: Q) p w:=by
 have J:f∈f :: P++z :: Q:=by simp
 have I:∀y∈z :: P++ng f :: Q,y∈f :: P++z :: Q\/y=ng f:=by
  intro y F;simp at F ⊢;grind
 refine { F7:=B.F7,Fe:=?_,nm:=B.nm,IV:=B.IV,Dv:=?_,pz:=B.pz,pl:=B.pl,rel:=?_,E9:=?_,IT:=B.IT,Fz:=?_,all:=?_,Fm:=B.Fm,HZ:=B.HZ,Ic:=?_,Ii:=B.Ii,Jc:=B.Jc,b1:=B.b1,MW:=?_,Kq:=?_}
 ·have:=B.Fe;simp at this ⊢;lia
 ·intro y F;rcases I y F with h|h
  ·exact B.Dv y h
  ·subst h;simp[ng];exact B.Dv f J
 ·intro y F S;rcases I y F with h|h
  ·exact B.rel y h S
  ·subst h
   have:=B.rel f J S
   simp only[ng,OG];rw[Hv,Hv];grind
 ·intro y F j hj;rcases I y F with h|h
  ·exact B.E9 y h j hj
  ·subst h
   have:=B.E9 f J j hj
   simp only[ng,OG];grind
 ·intro y F j;rcases I y F with h|h
  ·exact B.Fz y h j
  ·subst h;exact(BG.of (-1)).D0 (B.Fz f J j)
 ·rw[<-B.all]
  funext S
  simp only[nY,nK,ng];have h1:=R4 (z.2 :: P.map (·.2)) (Q.map (·.2)) (-1) f.2 w S;have h2:=Zj [] (P.map (·.2)) (Q.map (·.2)) z.2 f.2 w S;simp only[uc]at h2;rw[h1,h2];grind
 ·intro y F j;rcases I y F with h|h
  ·exact B.Ic y h j
  ·subst h;exact(B.Ic f J j).Gm
 ·intro g O h0
  have:=B.MW g O h0
  refine⟨this.1,λy F=>?_⟩;rcases I y F with h|h
  ·exact this.2 y h
  ·subst h;simp only[ng,OG];rw[O.HY,this.2 f J];grind
 ·intro g O h1 h2;refine B.Kq g O h1 λy F=>?_
  have aa:=h2 (ng f) (by simp);simp only[ng,OG]at aa;rw[O.HY]at aa;simp only[qT,nZ,nM]at F;rcases F with h|h|h|h
  ·subst h;grind
  ·exact h2 y (by simp[h])
  ·subst h;exact h2 y (by simp)
  ·exact h2 y (by simp[h])
theorem WB{p:Rat}(hp:p≠0)(I:∀S,p*wg a w S=wg r w S)(F:∀S,p*wg b w S=wg z w S)(S:List Bool):
  p*wg a (wg b w) S=wg r (wg b w) S:=by
 have h1:wg a (wg z w) S=p*wg a (wg b w) S:=by
  have:wg z w=λT=>p*wg b w T:=by funext T;exact(F T).symm
  rw[this,Fq]
 have h2:wg z (wg r w) S=p*wg z (wg a w) S:=by
  have:wg r w=λT=>p*wg a w T:=by funext T;exact(I T).symm
  rw[this,Fq]
 have h3:wg r (wg z w) S=p*wg r (wg b w) S:=by
  have:wg z w=λT=>p*wg b w T:=by funext T;exact(F T).symm
  rw[this,Fq]
 have O:=Lc a z w S;have J:=Lc z r w S
 have:p*(p*wg a (wg b w) S)=p*wg r (wg b w) S:=by grind
 grind
theorem fm{p:Rat}(F:∀S,p*wg b w S=wg z w S)(S:List Bool):wg z (wg b w) S=0:=by
 rw[Lc]
 have:wg z w=λT=>p*wg b w T:=by funext T;exact(F T).symm
 rw[this,Fq,Ka];grind
theorem Nj(h1:row.length=m)(h2:lead.length=m):(Cw row lead k p).length=m:=by
 simp[Cw,h1,h2]
theorem gF(h1:row.length=m)(h2:lead.length=m)(j:Nat):
  (Cw row lead k p).getD j 0=(lead.getD k 0*row.getD j 0-row.getD k 0*lead.getD j 0).fdiv p:=by
 by_cases J:j<m
 ·have O:row.getD j 0=row[j]:=by rw[nq,nh (by lia)];rfl
  have I:lead.getD j 0=lead[j]:=by rw[nq,nh (by lia)];rfl
  have F:j<(Cw row lead k p).length:=by rw[Nj h1 h2];exact J
  rw[O,I,nq,nh F];simp[Cw]
 ·have o:∀l:List Int,l.length=m->l.getD j 0=0:=by
   intro l F;rw[nq,pW (by lia)];rfl
  rw[o _ (Nj h1 h2),o row h1,o lead h2];simp
theorem YL(h:vr r j=0):r.getD j 0=0:=by
 simp only[vr]at h;exact_mod_cast h
theorem Ss (hk:k<m)(hr:r.length=m)(ab:z.length=m)(hp:p≠0)(ad:ld k m w=p)
  (ha:∀S,(p:Rat)*wg a w S=wg (vr r) w S)(O:∀S,(p:Rat)*wg b w S=wg (vr z) w S)(zr:∀j,j<k->vr r j=0)(zz:∀j,j<k->vr z j=0)
  (hq:z.getD k 0≠0)(iw:∀S,BG (w S))(ia:∀j,BG (a j))(ib:∀j,BG (b j)) :
  ld (k+1) m (wg b w)=z.getD k 0/\(∀j,(p:Rat)*vr (Cw r z k p) j=(z.getD k 0:Int)*vr r j-(r.getD k 0:Int)*vr z j) /\
  (∀S,((z.getD k 0:Int):Rat)*wg a (wg b w) S=wg (vr (Cw r z k p)) (wg b w) S)/\∀j,j<k+1->vr (Cw r z k p) j=0:=by
 have ac:(p:Rat)≠0:=by exact_mod_cast hp
 have ae:((z.getD k 0:Int):Rat)≠0:=by exact_mod_cast hq
 have l1:ld (k+1) m (wg b w)=z.getD k 0:=by
  have h1:=Q6 w zz hk;have h2:ld (k+1) m (wg (vr z) w)=p*ld (k+1) m (wg b w):=by
   unfold ld;rw[<-O];grind
  rw[h2,ad]at h1
  have:vr z k=((z.getD k 0:Int):Rat):=rfl
  rw[this]at h1;grind
 let M:AW:=λj=>((z.getD k 0:Int):Rat)*vr r j+(-((r.getD k 0:Int):Rat))*vr z j
 have hM:∀S,wg M (wg b w) S=((z.getD k 0:Int):Rat)*(p*wg a (wg b w) S):=by
  intro S;have e:=LI S (λj=>((z.getD k 0:Int):Rat)*vr r j) (λj=>(-((r.getD k 0:Int):Rat))*vr z j) (wg b w);rw[Hv,Hv,fm O S,<-WB ac ha O S]at e;show wg M (wg b w) S=_;rw[show M=λj=>((z.getD k 0:Int):Rat)*vr r j+(-((r.getD k 0:Int):Rat))*vr z j from rfl,e];grind
 have I:∀j,j<k+1->M j=0:=by
  intro j hj;show((z.getD k 0:Int):Rat)*vr r j+(-((r.getD k 0:Int):Rat))*vr z j=0;rcases oP j k with h|h
  ·rw[zr j h,zz j h];grind
  ·have:j=k:=by lia
   subst this;show((z.getD j 0:Int):Rat)*((r.getD j 0:Int):Rat)+(-((r.getD j 0:Int):Rat))*((z.getD j 0:Int):Rat)=0
   grind
 have dv:∀j,∃c:Int,M j=p*c:=by
  intro j;rcases oP j (k+1)with h|h
  ·exact⟨0,by rw[I j h];grind⟩
  ·rcases oP j m with h2|h2
   ·have h3:=RE (v:=M) (wg b w) I h h2;rw[hM] at h3;obtain⟨c,F⟩:=Nu (Sj (k+1) j m) a (wg b w) ia (λT=>Nu T b w ib iw);have h4:wg b w (Tk (k+1) m)=CF (k+1)*((z.getD k 0:Int):Rat):=by
     have:=KG (k+1)
     rw[<-l1];unfold ld;grind
    rw[h4]at h3;have h5:=KG (k+1);have h6:=JM (k+1);have J:BG (sg (k+1)*CF (k+1)):=by
     have i1:∀c,BG (sg c):=by intro c;unfold sg;split;exact⟨1,U⟩;exact⟨-1,U⟩
     have i2:∀c,BG (CF c):=by
      intro c;induction c with
      |zero=>exact⟨1,U⟩
      |succ c ih=>exact ih.D0 (i1 c)
     exact(i1 _).D0 (i2 _)
    obtain⟨t,J⟩:=J;exists t*c;rw[F]at h3
    have:M j=sg (k+1)*CF (k+1)*(p*c):=by
     have:((z.getD k 0:Int):Rat)*(M j)=((z.getD k 0:Int):Rat)*(sg (k+1)*CF (k+1)*(p*c)):=by grind
     grind
    rw[this,J];grind
   ·exists 0;show((z.getD k 0:Int):Rat)*vr r j+(-((r.getD k 0:Int):Rat))*vr z j=_;have e1:r.getD j 0=0:=by rw[nq,pW (by lia)];rfl
    have e2:z.getD j 0=0:=by rw[nq,pW (by lia)];rfl
    simp only[vr,e1,e2];grind
 have ex:∀j,(p:Rat)*vr (Cw r z k p) j=M j:=by
  intro j;obtain⟨c,F⟩:=dv j;have aa:M j=((z.getD k 0*r.getD j 0-r.getD k 0*z.getD j 0:Int):Rat):=by
   show((z.getD k 0:Int):Rat)*((r.getD j 0:Int):Rat)+(-((r.getD k 0:Int):Rat))*((z.getD j 0:Int):Rat)=_
   grind
  have hi:z.getD k 0*r.getD j 0-r.getD k 0*z.getD j 0=p*c:=by
   rw[aa]at F;exact_mod_cast F
  simp only[vr];rw[gF hr ab,hi,F,qo (yY p c),sV _ hp]
 have eN:(λj=>(p:Rat)*vr (Cw r z k p) j)=M:=funext ex;exists l1,?_,?_
 ·intro j;rw[ex j];show((z.getD k 0:Int):Rat)*vr r j+(-((r.getD k 0:Int):Rat))*vr z j=_
  grind
 ·intro S;have h:=hM S;rw[<-eN,Hv]at h
  grind
 ·intro j hj;have h:=ex j;rw[I j hj]at h
  grind
theorem Bi.Xf(B:Bi B0 n m k A0 top Z p w)(I:z∈Z)(j:Nat):Ab ((m*B0) ^ (k+1):Nat) (vr z.1 j):=by
 have aa:∀a:Nat,(0:Rat)<=(a:Rat):=λa=>by exact_mod_cast pJ a
 have J:Ab ((m*B0) ^ (k+1):Nat) (0:Rat):=by have:=aa ((m*B0) ^ (k+1));constructor<;>grind
 have ab:=B.Fe;have ac:=B.nm;have hl:0<Z.length:=qL I;rcases oP j k with h|h
 ·rw[B.E9 z I j h];exact J
 ·rcases oP j m with h2|h2
  ·have e:=RE (v:=vr z.1) w (B.E9 z I) h h2;rw[<-B.rel z I]at e;have hp:(p:Rat)≠0:=by have:=B.pz;exact_mod_cast this
   have ht:w (Tk k m)=CF k*p:=by
    have:=KG k
    have:=B.pl
    unfold ld at this;grind
   rw[ht]at e;have e2:vr z.1 j=sg k*CF k*wg z.2 w (Sj k j m):=by
    have h5:=KG k;have h6:=JM k
    have:p*(vr z.1 j)=p*(sg k*CF k*wg z.2 w (Sj k j m)):=by grind
    grind
   have ls:(Sj k j m).length=m:=by unfold Sj;simp;lia
   have F:=RC (V:=(B0:Nat)) (W:=((m*B0) ^ k:Nat)) (Sj k j m) z.2 w (B.Ic z I) (λT hT=>by have:=B.Ii T;rw[hT,ls]at this;exact this);rw[ls]at F;have eb:((m:Nat):Rat)*(((B0:Nat):Rat)*(((m*B0) ^ k:Nat):Rat))=(((m*B0) ^ (k+1):Nat):Rat):=by
    rw[r9]
    have:m*(B0*(m*B0) ^ k)=(m*B0) ^ k*(m*B0):=by rw[<-Nat.mul_assoc,uo]
    rw[<-this];simp[qk]
   rw[eb]at F;rw[e2];have O:∀c,sg c=1\/sg c=-1:=by intro c;unfold sg;split;exact .inl rfl;exact .inr rfl
   have s2:∀c,CF c=1\/CF c=-1:=by
    intro c;induction c with
    |zero=>exact .inl rfl
    |succ c ih =>
     simp only[CF];rcases ih with a|a<;>rcases O c with b|b<;>rw[a,b]<;>grind
   rcases O k with a|a<;>rcases s2 k with b|b<;>rw[a,b]
   ·simpa using F
   ·have:=F.Gm;simpa using this
   ·have:=F.Gm;simpa using this
   ·rw[show(-1:Rat) * -1*wg z.2 w (Sj k j m)=wg z.2 w (Sj k j m) by grind];exact F
  ·have e1:z.1.getD j 0=0:=by rw[nq,pW (by rw[B.Dv z I];lia)];rfl
   have:vr z.1 j=0:=by simp only[vr,e1];rfl
   rw[this];exact J
theorem Vv(h:1<=a)(hi:i<=n):a ^ i<=a ^ n:=oQ h hi
theorem Bi.step
  (B:Bi B0 n m k A0 top (z :: Z) p w)(hq:z.1.getD k 0≠0) :
  Bi B0 n m (k+1) A0 (top++[z.1]) (Z.map λy=>(Cw y.1 z.1 k p,y.2)) (z.1.getD k 0) (wg z.2 w):=by
 have ad:=B.Fe;have af:=B.nm;simp at ad;have ab:k<m:=by lia
 have I:z∈z :: Z:=by simp
 have aa:∀y∈Z,_:=λy F=>Ss ab (B.Dv y (by simp[F])) (B.Dv z I) B.pz B.pl (B.rel y (by simp[F])) (B.rel z I) (B.E9 y (by simp[F])) (B.E9 z I) hq B.IT (B.Fz y (by simp[F])) (B.Fz z I)
 have l1:=(Ss ab (B.Dv z I) (B.Dv z I) B.pz B.pl (B.rel z I) (B.rel z I) (B.E9 z I) (B.E9 z I) hq B.IT (B.Fz z I) (B.Fz z I)).1;have ag:(p:Rat)≠0:=by have:=B.pz;exact_mod_cast this
 have ac:=B.F7;refine { F7:=by simp[B.F7],Fe:=by simp;lia,nm:=B.nm,IV:=?_,Dv:=?_,pz:=hq,pl:=l1,rel:=?_,E9:=?_,IT:=λS=>Nu S z.2 w (B.Fz z I) B.IT,Fz:=?_,all:=?_,Fm:=?_,HZ:=?_,Ic:=?_,Ii:=?_,Jc:=?_,b1:=B.b1,MW:=?_,Kq:=?_}
 ·intro r hr;simp at hr;rcases hr with h|h
  ·exact B.IV r h
  ·subst h;exact B.Dv z I
 ·intro y F;simp at F;obtain⟨a,b,J,rfl⟩:=F;exact Nj (B.Dv (a,b) (by simp[J])) (B.Dv z I)
 ·intro y F S;simp at F;obtain⟨a,b,J,rfl⟩:=F;exact(aa (a,b) J).2.2.1 S
 ·intro y F;simp at F;obtain⟨a,b,J,rfl⟩:=F;exact(aa (a,b) J).2.2.2
 ·intro y F;simp at F;obtain⟨a,b,J,rfl⟩:=F;exact B.Fz (a,b) (by simp[J])
 ·rw[<-B.all];simp[Ac,uG]
 ·intro i hi;rcases oP i k with h|h
  ·have:(top++[z.1]).getD i []=top.getD i []:=by
    rw[nq,nq,nX (by lia)]
   rw[this];exact B.Fm i h
  ·have:i=k:=by lia
   subst this
   have:(top++[z.1]).getD i []=z.1:=by
    rw[nq,nW (by lia),ac];simp
   rw[this];exact⟨hq,λj hj=>YL (B.E9 z I j hj)⟩
 ·intro _
  have:(top++[z.1]).getD (k+1-1) []=z.1:=by
   rw[nq,nW (by lia)];simp[ac]
  rw[this];rfl
 ·intro y F;simp at F;obtain⟨a,b,J,rfl⟩:=F;exact B.Ic (a,b) (by simp[J])
 ·intro T;have bd:=RC (V:=(B0:Nat)) (W:=((T.length*B0) ^ k:Nat)) T z.2 w (B.Ic z I) (λU hU=>by have:=B.Ii U; rw[hU] at this; exact this);have eb:((T.length:Nat):Rat)*(((B0:Nat):Rat)*(((T.length*B0) ^ k:Nat):Rat))=(((T.length*B0) ^ (k+1):Nat):Rat):=by
   rw[r9]
   have:T.length*(B0*(T.length*B0) ^ k)=(T.length*B0) ^ k*(T.length*B0):=by rw[<-Nat.mul_assoc,uo]
   rw[<-this];simp[qk]
  rw[eb]at bd;exact bd
 ·intro r hr j;simp at hr;rcases hr with h|h
  ·exact B.Jc r h j
  ·subst h;refine(B.Xf I j).le ?_
   have:=B.b1
   have h1:1<=m*B0:=zp (by lia) (by lia)
   exact_mod_cast Vv h1 (by lia)
 ·intro f O h0;have hl:=B.MW f O h0;exists ?_
  ·intro r hr;simp at hr;rcases hr with h|h
   ·exact hl.1 r h
   ·subst h;exact hl.2 z I
  ·intro y F; simp at F; obtain⟨a,b,J,rfl⟩:=F;have h1:=(aa (a,b) J).2.1;have e:(λj=>(p:Rat)*vr (Cw a z.1 k p) j)=λj=>(λj=>((z.1.getD k 0:Int):Rat)*vr a j) j+(λj=>(-((a.getD k 0:Int):Rat))*vr z.1 j) j:=by
    funext j;rw[h1 j];grind
   have h2:=congrArg f e;rw[O.HY,O.Cu,O.HY,O.HY,hl.2 z I,hl.2 (a,b) (by simp[J])]at h2
   grind
 ·intro f O h1 h2;have fz:f (vr z.1)=0:=h1 z.1 (by simp);have ae:((z.1.getD k 0:Int):Rat)≠0:=by exact_mod_cast hq
  refine B.Kq f O (λr hr=>h1 r (by simp[hr])) λy F=>?_
  rcases nZ.mp F with h|h
  ·subst h;exact fz
  ·have e1:=(aa y h).2.1;have e:(λj=>(p:Rat)*vr (Cw y.1 z.1 k p) j)=λj=>(λj=>((z.1.getD k 0:Int):Rat)*vr y.1 j) j+(λj=>(-((y.1.getD k 0:Int):Rat))*vr z.1 j) j:=by
    funext j;rw[e1 j];grind
   have h3:=congrArg f e;rw[O.HY,O.Cu,O.HY,O.HY,fz,h2 _ (vo h)]at h3
   grind
theorem cP(Z:List (List Int×AW)):∀{p:Rat} {w:A5},p≠0->(∀z∈Z,∀S,p*wg z.2 w S=wg (vr z.1) w S) →
  ∃c:Rat,c≠0/\∀S,c*Ac (Z.map (·.2)) w S=Ac (Z.map (λz=>vr z.1)) w S:=by
 induction Z with
 |nil=>intro p w _ _;exact⟨1,by grind,λS=>by simp[Ac]⟩
 |cons z Z ih =>
  intro p w hp h;obtain⟨c,J,I⟩:=ih (p:=p) (w:=wg z.2 w) hp (λy F S=>WB hp (h y (by simp[F])) (h z (by simp)) S);refine⟨p*c,by grind,λS=>?_⟩;simp only[nK,Ac];have e:wg (vr z.1) w=λT=>p*wg z.2 w T:=by funext T;exact(h z (by simp) T).symm
  rw[e,IB];simp only[];rw[<-I];grind
theorem Bi.none
  (B:Bi B0 n m k A0 top Z p w)(ab:k<n)(J:∀z∈Z,z.1.getD k 0=0):ld n m (Ac A0 Ah)=0:=by
 have aa:(p:Rat)≠0:=by have:=B.pz;exact_mod_cast this
 obtain⟨c,hc,O⟩:=cP Z aa B.rel;have h:=gZ (c:=k+1) (n:=n) (m:=m) (L:=Z.map (λz=>vr z.1)) w ?_ (by lia) (by have:=B.Fe;simp;lia)
 ·rw[<-O,B.all]at h;unfold ld;grind
 ·intro v I j hj;rw[nS]at I;obtain⟨z,F,rfl⟩:=I;rcases oP j k with h|h
  ·exact B.E9 _ F j h
  ·have:j=k:=by lia
   subst this
   have:=J _ F
   simp only[vr];rw[this];rfl
theorem Bi.mY{R:List (List Int)}(aa:1<=B0)(hb:∀r∈R,∀j,Ab B0 (vr r j))(h1:R.length=n)(h2:n<=m)(h3:∀r∈R,r.length=m):
  Bi B0 n m 0 (R.map vr) [] (R.map λr=>(r,vr r)) 1 Ah:=by
 refine { F7:=rfl,Fe:=by simp[h1],nm:=h2,IV:=by simp,Dv:=?_,pz:=by lia,pl:=?_,rel:=?_,E9:=by intro _ _ j hj;lia,IT:=QI,Fz:=?_,all:=?_,Fm:=by intro i hi;lia,HZ:=by intro h;lia,Ic:=?_,Ii:=?_,Jc:=by simp,b1:=aa,MW:=?_,Kq:=?_}
 ·intro z F;simp at F;obtain⟨a,I,rfl⟩:=F;exact h3 a I
 ·rw[Ln];rfl
 ·intro z F S;simp at F;obtain⟨a,I,rfl⟩:=F;simp only[];grind
 ·intro z F j;simp at F;obtain⟨a,I,rfl⟩:=F;exact⟨_,U⟩
 ·simp[uG]
 ·intro z F j;simp at F;obtain⟨a,I,rfl⟩:=F;exact hb a I j
 ·intro T
  have:Ah T=1\/Ah T=0:=by
   induction T with
   |nil=>exact .inl rfl
   |cons b T ih=>cases b;exact ih;exact .inr rfl
  rw[yF];rcases this with h|h<;>rw[h]<;>constructor<;>grind
 ·intro f O J;refine⟨by simp,?_⟩;intro z F;simp at F;obtain⟨a,I,rfl⟩:=F;exact J _ (vo I)
 ·intro f O h1 h2 a I;obtain⟨r,hr,rfl⟩:=nS.mp I;exact h2 (r,vr r) (nS.mpr ⟨r,hr,U⟩)
theorem Bi.Rq
  (B:Bi B0 n m n A0 top Z p w):Z=[]/\ld n m (Ac A0 Ah)=p:=by
 have:Z=[]:=by have:=B.Fe;exact rS.mp (by lia)
 subst this;exists rfl;rw[<-B.all];exact B.pl
end Wd
namespace Mth
variable {p:Rat}
theorem FI(t b:Int)(h:b≠0):BV t b=(((t:Rat) / (b:Rat)).num,(((t:Rat) / (b:Rat)).den:Int)):=by
 have g:=Zp t b h;have p:=UD t b h;have c:=SK t b;generalize (BV t b)=x at *;obtain⟨n,d⟩:=x;simp only at g p c;have hd:d=(d.toNat:Int):=by lia
 have I:d.toNat≠0:=by lia
 have F:n.natAbs.Coprime d.toNat:=by
  have:pN n d=n.natAbs.gcd d.toNat:=by rw[pN];congr 1;lia
  unfold xc;rw[<-this];exact g
 let r:Rat:=⟨n,d.toNat,I,F⟩
 have hr:r*(d:Rat)=n:=by
  have h1:r=(n:Rat) / ((d.toNat:Nat):Rat):=by
   have:=vL r
   rw[<-this,wo];rfl
  have h2:((d.toNat:Nat):Rat)=(d:Rat):=by
   have:((d.toNat:Nat):Rat)=(((d.toNat:Nat):Int):Rat):=rfl
   rw[this,<-hd]
  have h3:(d:Rat)≠0:=by have:d≠0:=(by lia);exact_mod_cast this
  rw[h1,h2];grind
 have hb:(b:Rat)≠0:=by exact_mod_cast h
 have O:(d:Rat)≠0:=by exact_mod_cast (show d≠0 by lia)
 have J:(n:Rat)*b=t*d:=by exact_mod_cast c
 have e:(t:Rat) / (b:Rat)=r:=by grind
 rw[e];show(n,d)=(n,((d.toNat:Nat):Int));rw[<-hd]
def fr(q:Rat):Int×Int:=(q.num,q.den)
theorem V4(h:fr p=fr q):p=q:=by
 unfold fr at h;have h1:=congrArg wI h;have h2:=congrArg xR h;simp at h1 h2;exact Rat.ext h1 (by lia)
theorem Ex(q:Rat):q*((q.den:Nat):Rat)=q.num:=by
 have h1:=vL q;rw[wo]at h1
 have:((q.den:Nat):Rat)≠0:=by exact_mod_cast q.den_nz
 have h2:(((q.den:Nat):Int):Rat)=((q.den:Nat):Rat):=rfl;rw[h2]at h1
 grind
theorem Im(q:Rat):((q.den:Nat):Rat)≠0:=by exact_mod_cast q.den_nz
theorem i3(q:Rat):((q.num:Int):Rat) / ((((q.den:Nat):Int)):Rat)=q:=by
 have:=Ex q
 have h2:(((q.den:Nat):Int):Rat)=((q.den:Nat):Rat):=rfl
 have:=Im q
 rw[h2];grind
theorem ic(n:Nat):(((n:Nat):Int):Rat)=((n:Nat):Rat):=rfl
theorem Qs(p q:Rat):BV (p.num*q.den+q.num*p.den) (p.den*q.den)=fr (p+q):=by
 have hp:=p.den_nz;have F:=q.den_nz;have h:((p.den:Int)*(q.den:Int))≠0:=qt (by lia) (by lia);rw[FI _ _ h];have e:(((p.num*q.den+q.num*p.den:Int)):Rat) / (((p.den:Int)*(q.den:Int):Int):Rat)=p+q:=by
  have:=Ex p;have:=Ex q;have:=Im p;have:=Im q
  simp only[ue,oo,ic]
  grind
 rw[e];rfl
theorem Vh(p q:Rat):BV (p.num*q.den-q.num*p.den) (p.den*q.den)=fr (p-q):=by
 have hp:=p.den_nz;have F:=q.den_nz;have h:((p.den:Int)*(q.den:Int))≠0:=qt (by lia) (by lia);rw[FI _ _ h];have e:(((p.num*q.den-q.num*p.den:Int)):Rat) / (((p.den:Int)*(q.den:Int):Int):Rat)=p-q:=by
  have:=Ex p;have:=Ex q;have:=Im p;have:=Im q
  simp only[uf,oo,ic]
  grind
 rw[e];rfl
theorem Qr(p q:Rat):BV (p.num*q.num) (p.den*q.den)=fr (p*q):=by
 have hp:=p.den_nz;have F:=q.den_nz;have h:((p.den:Int)*(q.den:Int))≠0:=qt (by lia) (by lia);rw[FI _ _ h];have e:(((p.num*q.num:Int)):Rat) / (((p.den:Int)*(q.den:Int):Int):Rat)=p*q:=by
  have:=Ex p;have:=Ex q;have:=Im p;have:=Im q
  simp only[oo,ic]
  grind
 rw[e];rfl
def Sb(n d:Nat)(q:Rat):Prop:=q.num.natAbs<=2 ^ n/\q.den<=2 ^ d
theorem gI(h:b≠0):(BV t b).1.natAbs<=t.natAbs/\(BV t b).2.natAbs<=b.natAbs:=by
 have h1:=Nz t b;have h2:=Lp t b;have O:=Ni t b h;have J:t.natAbs=(BV t b).1.natAbs*(BJ t b).natAbs:=by rw[<-Int.natAbs_mul,h1]
 have I:b.natAbs=(BV t b).2.natAbs*(BJ t b).natAbs:=by rw[<-Int.natAbs_mul,h2]
 have F:1<=(BJ t b).natAbs:=by lia
 rw[J,I];exact⟨rT _ F,rT _ F⟩
theorem KY(h:b≠0)(h1:t.natAbs<=2 ^ n)(h2:b.natAbs<=2 ^ d)(e:BV t b=fr q):Sb n d q:=by
 have:=gI (t:=t) h
 rw[e]at this;simp only[fr,oj]at this;exact⟨by lia,by lia⟩
theorem B5(h:a<=2 ^ m)(g:b<=2 ^ n):a*b<=2 ^ (m+n):=by rw[t5];exact xE h g
theorem Ie(p q:Rat):((p.den:Int)*(q.den:Int))≠0:=by
 have hp:=p.den_nz;have F:=q.den_nz;exact qt (by lia) (by lia)
theorem Sb.D0(h:Sb n d p)(g:Sb n' d' q):Sb (n+n') (d+d') (p*q):=by
 refine KY (Ie p q) ?_ ?_ (Qr p q)
 ·rw[oE];exact B5 h.1 g.1
 ·rw[oE,oj,oj];exact B5 h.2 g.2
theorem Sb.Cu(h:Sb n d p)(g:Sb n' d' q)(h1:n+d'<=N)(h2:n' + d<=N):Sb (N+1) (d+d') (p+q):=by
 refine KY (Ie p q) ?_ ?_ (Qs p q)
 ·have I:(p.num*q.den).natAbs<=2 ^ N:=by
   rw[oE,oj];exact oa (B5 h.1 g.2) (oQ (by decide) h1)
  have F:(q.num*p.den).natAbs<=2 ^ N:=by
   rw[oE,oj];exact oa (B5 g.1 h.2) (oQ (by decide) h2)
  have:=yZ (p.num*q.den) (q.num*p.den)
  rw[r9];lia
 ·rw[oE,oj,oj];exact B5 h.2 g.2
theorem Sb.Dz(h:Sb n d p)(g:Sb n' d' q)(h1:n+d'<=N)(h2:n' + d<=N):Sb (N+1) (d+d') (p-q):=by
 refine KY (Ie p q) ?_ ?_ (Vh p q)
 ·have I:(p.num*q.den).natAbs<=2 ^ N:=by
   rw[oE,oj];exact oa (B5 h.1 g.2) (oQ (by decide) h1)
  have F:(q.num*p.den).natAbs<=2 ^ N:=by
   rw[oE,oj];exact oa (B5 g.1 h.2) (oQ (by decide) h2)
  have:=uI (p.num*q.den) (q.num*p.den)
  rw[r9];lia
 ·rw[oE,oj,oj];exact B5 h.2 g.2
theorem Sb.mono(h:Sb n d p)(h1:n<=n')(h2:d<=d'):Sb n' d' p :=
 ⟨oa h.1 (oQ (by decide) h1),oa h.2 (oQ (by decide) h2)⟩
theorem Sb.zero:Sb 0 0 0:=by constructor<;>decide
theorem Sb.Ah:Sb 0 0 1:=by constructor<;>decide
def DP(c:Int)(q:Rat):Int:=c.fdiv (pN c q.den:Int)*q.den
def cb(r:List Rat):Int:=r.foldl DP 1
theorem Vk(h:0<c)(q:Rat):0<DP c q/\c ∣ DP c q/\(q.den:Int) ∣ DP c q/\DP c q<=c*q.den:=by
 have hq:=q.den_nz;have hg:0<pN c q.den:=tN _ (by lia);obtain⟨x,F⟩:=tP c (q.den:Int);obtain⟨y,hy⟩:=tu c (q.den:Int);generalize O:pN c (q.den:Int)=G at *;have J:(G:Int)≠0:=by lia
 have e:c.fdiv (G:Int)=x:=by
  rw[qo ⟨x,F⟩]
  conv=>lhs;rw[F]
  rw[sV _ J]
 have I:0<x:=by
  rcases tE 0 x with h'|h'
  ·exact h'
  ·have:(G:Int)*x<=0:=Int.mul_nonpos_of_nonneg_of_nonpos (by lia) h'
   lia
 have aa:(0:Int)<q.den:=by lia
 unfold DP;rw[O,e];exists vD I aa,⟨y,?_⟩,⟨x,Int.mul_comm _ _⟩
 ·conv=>lhs;rw[hy]
  conv=>rhs;rw[F]
  rw[Int.mul_left_comm,xU]
 ·refine uX ?_ (by lia)
  have:1*x<=(G:Int)*x:=uX (by lia) (by lia)
  lia
theorem Ws(r:List Rat):∀{c:Int} {D d:Nat},0<c->c.natAbs<=2 ^ D->(∀q∈r,q.den<=2 ^ d) →
  0<r.foldl DP c/\c ∣ r.foldl DP c/\(∀q∈r,(q.den:Int) ∣ r.foldl DP c)/\(r.foldl DP c).natAbs<=2 ^ (D+d*r.length):=by
 induction r with
 |nil=>intro c D d h g _;exact⟨h,yq _,by simp,by simpa using g⟩
 |cons q r ih =>
  intro c D d h g hd;obtain⟨a1,I,a3,a4⟩:=Vk h q;have hq:=hd q (by simp);have a5:(DP c q).natAbs<=2 ^ (D+d):=by
   have J:(DP c q).natAbs<=c.natAbs*q.den:=by
    have e1:((c.natAbs*q.den:Nat):Int)=c*q.den:=by rw[zQ];congr 1;lia
    lia
   exact oa J (B5 g hq)
  obtain⟨b1,F,b3,O⟩:=ih (D:=D+d) (d:=d) a1 a5 (λp hp=>hd p (by simp[hp]));exists b1,aah I F,?_
  ·intro p hp;rcases nZ.mp hp with rfl|hp
   ·exact aah a3 F
   ·exact b3 p hp
  ·rw[oA,qv]
   have:D+(d*r.length+d)=D+d+d*r.length:=by lia
   rw[this];exact O
def wh(b:Int)(q:Rat):Int:=q.num*b.fdiv q.den
theorem WH(h:(q.den:Int) ∣ b):((wh b q:Int):Rat)=b*q:=by
 obtain⟨x,F⟩:=h;have I:=q.den_nz;have e:b.fdiv q.den=x:=by
  rw[qo ⟨x,F⟩,F,sV _ (by lia)]
 unfold wh;rw[e,F]
 have:=Ex q
 simp only[oo,ic]
 grind
end Mth
namespace Wd
open Mth
def Km(R:List (List Int))(k i:Nat):List (List Int):=if i=k then R else (R.set k (R.getD i [])).set i ((R.getD k []).map λx=>-x)
theorem Qk{α:Type}(A B:List α)(x d:α)(h:A.length=i):(A++x :: B).getD i d=x:=by
 subst h;rw[nq,nW (nG _)];simp
theorem UU{α:Type}(A B:List α)(x y:α)(h:A.length=i):(A++x :: B).set i y=A++y :: B:=by
 subst h;rw[xD _ _ (nG _)];simp
theorem Bi.mP (B:Bi B0 n m k A0 top Z p w)(h1:k<=i)(h2:i<n)
  (I:((top++Z.map (·.1)).getD i []).getD k 0≠0):∃z Z',Bi B0 n m k A0 top (z :: Z') p w/\Km (top++Z.map (·.1)) k i=top++z.1 :: Z'.map (·.1)/\z.1.getD k 0≠0:=by
 have O:=B.Fe;have J:=B.F7;cases Z with
 |nil=>simp at O;lia
 |cons f Zr =>
  by_cases aa:i=k
  ·subst aa;exists f,Zr,B,?_
   ·unfold Km;rw[nF rfl];rfl
   ·rw[nK,Qk _ _ _ _ J]at I;exact I
  ·have hj:i-k-1<Zr.length:=by simp at O;lia
   have e:Zr=Zr.take (i-k-1)++Zr[i-k-1] :: Zr.drop (i-k-1+1):=by rw[rD,qF]
   generalize Zr.take (i-k-1)=F at e;have ab:(Zr.take (i-k-1)).length=i-k-1:=by simp;lia
   have ac:F.length=i-k-1:=by
    have:=congrArg rE e
    simp at this;lia
   generalize Zr[i-k-1]=z at e;generalize Zr.drop (i-k-1+1)=Q at e;subst e;have B':Bi B0 n m k A0 top (f :: F++z :: Q) p w:=B;have e1:top++wF (·.1) (f :: (F++z :: Q))=(top++f.1 :: F.map (·.1))++z.1 :: Q.map (·.1):=by simp
   have l1:(top++f.1 :: F.map (·.1)).length=i:=by simp;lia
   have gi:(top++wF (·.1) (f :: (F++z :: Q))).getD i []=z.1:=by rw[e1];exact Qk _ _ _ _ l1
   have gk:(top++wF (·.1) (f :: (F++z :: Q))).getD k []=f.1:=by rw[nK];exact Qk _ _ _ _ J
   exists z,F++ng f :: Q,B'.lW,?_
   ·unfold Km;rw[nv aa,gi,gk,nK,UU _ _ _ _ J];have e2:top++z.1 :: wF (·.1) (F++z :: Q)=(top++z.1 :: F.map (·.1))++z.1 :: Q.map (·.1):=by simp
    rw[e2,UU _ _ _ _ (by simp;lia)];simp[ng]
   ·rw[gi]at I;exact I
theorem FQ(h:Ab ((N:Nat):Rat) ((x:Int):Rat)):x.natAbs<=N:=by
 obtain⟨h1,h2⟩:=h;have a:x<=(N:Int):=by
  have:((x:Int):Rat)<=(((N:Nat):Int):Rat):=h2
  exact_mod_cast this
 have b:-(N:Int)<=x:=by
  have:((-(N:Int):Int):Rat)<=((x:Int):Rat):=by rw[tq];exact h1
  exact_mod_cast this
 lia
theorem HH(h:x.natAbs<=N):Ab ((N:Nat):Rat) ((x:Int):Rat):=by
 have a:x<=(N:Int):=by lia
 have b:-(N:Int)<=x:=by lia
 constructor
 ·have:((-(N:Int):Int):Rat)<=((x:Int):Rat):=by exact_mod_cast b
  rw[tq]at this;exact this
 ·have:((x:Int):Rat)<=(((N:Nat):Int):Rat):=by exact_mod_cast a
  exact this
theorem mem_getD{r:List Int}(h:x∈r):∃j,r.getD j 0=x:=by
 obtain⟨j,F,e⟩:=om h;exact⟨j,by rw[nq,nh F];exact e⟩
theorem To{r:List Int}(h:∀x∈r,x.natAbs<=N)(j:Nat):(r.getD j 0).natAbs<=N:=by
 rw[nq];by_cases F:j<r.length
 ·rw[nh F];exact h _ (oK F)
 ·rw[pW (by lia)];simp
def vq(r:List Rat):AW:=λj=>r.getD j 0
def dt(n m:Nat)(T:List (List Rat)):Rat:=ld n m (Ac (T.map vq) Ah)
theorem RF(h:∀q∈r,(q.den:Int) ∣ b):vr (r.map (wh b))=λj=>(b:Rat)*vq r j:=by
 funext j
 simp only[vr,vq,nq,nJ];cases e:r[j]? with
 |none=>simp
 |some q=>simp;exact WH (h q (ny e))
def C1:List Int->Int
 |[]=>1
 |b :: L=>b*C1 L
theorem YY(T:List (List Rat))(β:List Rat->Int)(h:∀r∈T,∀q∈r,(q.den:Int) ∣ β r):
  ∀w S,Ac (T.map λr=>vr (r.map (wh (β r)))) w S=((C1 (T.map β):Int):Rat)*Ac (T.map vq) w S:=by
 induction T with
 |nil=>intro w S;simp[Ac,C1]
 |cons r T ih =>
  intro w S;simp only[nK,Ac,C1];rw[ih (λr' F=>h r' (by simp[F]))];have e:wg (vr (r.map (wh (β r)))) w=λT=>((β r:Int):Rat)*wg (vq r) w T:=by
   funext T;rw[RF (h r (by simp))];exact Hv T _ _ w
  rw[e,IB,oo];grind
theorem Ml(T:List (List Rat))(β:List Rat->Int)(h:∀r∈T,∀q∈r,(q.den:Int) ∣ β r):
  ld n m (Ac ((T.map λr=>r.map (wh (β r))).map vr) Ah)=((C1 (T.map β):Int):Rat)*dt n m T:=by
 unfold dt ld;rw[pC]
 have:=YY T β h Ah (Tk n m)
 have e:(vr ∘ λr:List Rat=>wF (wh (β r)) r)=λr:List Rat=>vr (r.map (wh (β r))):=rfl
 rw[e,this]
 grind
theorem NG(L:List Int):(∀b∈L,0<b/\b.natAbs<=2 ^ d)->0<C1 L/\(C1 L).natAbs<=2 ^ (d*L.length):=by
 induction L with
 |nil=>intro _;exact⟨by decide,by simp[C1]⟩
 |cons b L ih =>
  intro h;obtain⟨h1,h2⟩:=ih (λx F=>h x (by simp[F]));obtain⟨I,J⟩:=h b (by simp);exists vD I h1;simp only[C1];rw[oE,oA,qv,r8];exact B5 J h2
theorem R1(L:List Int):∀c:Int,L.foldl (λp b=>p*b) c=c*C1 L:=by
 induction L with
 |nil=>intro c;simp[C1]
 |cons b L ih=>intro c;simp only[wW,C1];rw[ih,xU]
def AV(f:Nat->Rat):Nat->Rat
 |0=>0
 |n+1=>AV f n+f n
def wn(V:Nat->AW):Nat->A5
 |0=>Ah
 |i+1=>wg (V i) (wn V i)
theorem GI:∀{n:Nat},i<n->(∀l,l<n->l≠i->f l=0)->AV f n=f i:=by
 intro n
 induction n with
 |zero=>intro h;lia
 |succ n ih =>
  intro h g;by_cases hi:i=n
  ·subst hi
   have:∀m,m<=i->AV f m=0:=by
    intro m
    induction m with
    |zero=>intro _;rfl
    |succ m ihm=>intro J;simp only[AV];rw[ihm (by lia),g m (by lia) (by lia)];grind
   simp only[AV];rw[this i (nG _)];grind
  ·simp only[AV];rw[ih (by lia) (λl I F=>g l (by lia) F),g n (by lia) (by lia)];grind
def Lq(f:Nat->Rat):Nat->Rat
 |0=>1
 |n+1=>Lq f n*f n
theorem iV{U}(h:∀i j,i<n->j<i->U i j=0):∀i,i<=n->ld i n (wn U i)=Lq (λl=>U l l) i:=by
 intro i
 induction i with
 |zero=>intro _;exact Ln n
 |succ i ih =>
  intro hi;simp only[wn,Lq];rw[Q6 (wn U i) (λj F=>h i j (by lia) F) (by lia),ih (by lia)];grind
theorem bG(L:List AW)(v:AW)(w:A5):Ac (L++[v]) w=wg v (Ac L w):=by rw[GJ];rfl
theorem WE(L:List AW)(V:Nat->AW)(h:∀(i:Nat) (v:AW),L[i]?=some v->v=V i):Ac L Ah=wn V L.length:=by
 have:∀i,i<=L.length->Ac (L.take i) Ah=wn V i:=by
  intro i
  induction i with
  |zero=>intro _;rfl
  |succ i ih =>
   intro hi;have F:L[i]?=some L[i]:=nh (by lia);rw[tD,F];simp only[aal];rw[bG,ih (by lia),h i _ F];rfl
 have:=this L.length (nG _)
 rw[oW]at this;exact this
def HU(T:List (List Rat))(i:Nat):AW:=vq (T.getD i [])
theorem Qz(T:List (List Rat))(F:T.length=n):dt n m T=ld n m (wn (HU T) n):=by
 unfold dt;rw[WE (T.map vq) (HU T),nc,F];intro i v h;rw[nJ]at h;cases e:T[i]? with
 |none=>rw[e]at h;cases h
 |some r =>
  rw[e]at h
  have:v=vq r:=(nV h).symm
  rw[this];unfold HU;rw[nq,e];rfl
def en(T:List (List Rat))(i j:Nat):Rat:=(T.getD i []).getD j 0
theorem QU(T:List (List Rat))(i j:Nat):HU T i j=en T i j:=rfl
theorem Hr:∀{n:Nat},(∀l,l<n->f l=0)->AV f n=0:=by
 intro n
 induction n with
 |zero=>intro _;rfl
 |succ n ih=>intro h;simp only[AV];rw[ih (λl F=>h l (by lia)),h n (by lia)];grind
end Wd
namespace Wd
def fx(n:Nat)(x:Nat->Rat):AW->Rat:=λv=>AV (λj=>v j*x j) n-v n
theorem D5(f g:Nat->Rat):∀n,AV (λj=>f j+g j) n=AV f n+AV g n:=by
 intro n
 induction n with
 |zero=>simp only[AV];grind
 |succ n ih=>simp only[AV];rw[ih];grind
theorem Es(c:Rat)(f:Nat->Rat):∀n,AV (λj=>c*f j) n=c*AV f n:=by
 intro n
 induction n with
 |zero=>simp only[AV];grind
 |succ n ih=>simp only[AV];rw[ih];grind
theorem Bc:∀{n},(∀j,j<n->f j=g j)->AV f n=AV g n:=by
 intro n
 induction n with
 |zero=>intro _;rfl
 |succ n ih=>intro h;simp only[AV];rw[ih (λj F=>h j (by lia)),h n (by lia)]
theorem Vs(n:Nat)(x:Nat->Rat):Ro (fx n x):=by
 constructor
 ·intro u v;have e:AV (λj=>(u j+v j)*x j) n=AV (λj=>u j*x j+v j*x j) n:=Bc (λj _=>by grind);simp only[fx];rw[e,D5];grind
 ·intro c v;have e:AV (λj=>c*v j*x j) n=AV (λj=>c*(v j*x j)) n:=Bc (λj _=>by grind);simp only[fx];rw[e,Es];grind
theorem gO(A:Nat->AW)(hd:∀i,i<n->A i i≠0)(hz:∀i j,i<n->j<i->A i j=0):∀k,k<=n->∃x:Nat->Rat,∀i,n-k<=i->i<n->fx n x (A i)=0:=by
 intro k
 induction k with
 |zero=>intro _;exact⟨λ_=>0,λi h1 h2=>by lia⟩
 |succ k ih =>
  intro hk;obtain⟨x,hx⟩:=ih (by lia)
  let F:=n-(k+1)
  have ac:F<n:=by show n-(k+1)<n;lia
  let rest:=AV (λj=>if j=F then 0 else A F j*x j) n
  let I:Nat->Rat:=λj=>if j=F then (A F n-rest) / A F F else x j
  refine⟨I,λi h1 h2=>?_⟩;have split:∀(B:AW) (y:Nat->Rat),AV (λj=>B j*y j) n=B F*y F+AV (λj=>if j=F then 0 else B j*y j) n:=by
   intro B y;have e:AV (λj=>B j*y j) n=AV (λj=>(if j=F then B F*y F else 0)+(if j=F then 0 else B j*y j)) n:=by
    refine Bc λj _=>?_
    by_cases h:j=F
    ·simp only[nF h,h];grind
    ·simp only[nv h];grind
   rw[e,D5];congr 1;rw[GI (i:=F) ac (λl _ ab=>nv ab)];simp
  by_cases ad:i=F
  ·subst ad;have ab:=hd F ac;have J:AV (λj=>if j=F then 0 else A F j*I j) n=rest:=by
    refine Bc λj _=>?_
    by_cases h:j=F
    ·simp only[nF h]
    ·simp only[nv h,I]
   simp only[fx];rw[split,J];simp only[I,nF]
   grind
  ·have aa:F<i:=by
    have:n-(k+1)<=i:=h1
    show n-(k+1)<i
    have:i≠n-(k+1):=ad
    lia
   have O:=hx i (by have:n-(k+1)<i:=aa;lia) h2;simp only[fx]at O ⊢;rw[split]at O ⊢;have z:A i F=0:=hz i F h2 aa;have J:AV (λj=>if j=F then 0 else A i j*I j) n=AV (λj=>if j=F then 0 else A i j*x j) n:=by
    refine Bc λj _=>?_
    by_cases h:j=F
    ·simp only[nF h]
    ·simp only[nv h,I]
   rw[J,z];rw[z]at O
   grind
def ct:AW->A5->A5
 |_,_,[]=>0
 |y,w,false :: S=>y 0*w (true :: S)+ct (sh y) (BC w) S
 |y,w,true :: S=>- ct (sh y) (Ay w) S
theorem iY(S:List Bool):∀(y:AW) (w x:A5),ct y (λT=>w T+x T) S=ct y w S+ct y x S:=by
 induction S with
 |nil=>intro y w x;simp only[ct];grind
 |cons b S ih =>
  intro y w x;have F:BC (λT=>w T+x T)=λT=>BC w T+BC x T:=rfl
  have I:Ay (λT=>w T+x T)=λT=>Ay w T+Ay x T:=rfl
  cases b
  ·simp only[ct,F,ih];grind
  ·simp only[ct,I,ih];grind
theorem QO(S:List Bool):∀(c:Rat) (y:AW) (w:A5),ct y (λT=>c*w T) S=c*ct y w S:=by
 induction S with
 |nil=>intro c y w;simp only[ct];grind
 |cons b S ih =>
  intro c y w;have F:BC (λT=>c*w T)=λT=>c*BC w T:=rfl
  have I:Ay (λT=>c*w T)=λT=>c*Ay w T:=rfl
  cases b
  ·simp only[ct,F,ih];grind
  ·simp only[ct,I,ih];grind
theorem i6(S:List Bool)(y:AW)(w x:A5):ct y (λT=>w T-x T) S=ct y w S-ct y x S:=by
 have e:(λT=>w T-x T)=λT=>w T+(λT=>(-1)*x T) T:=by funext T;grind
 rw[e,iY,QO];grind
def HR(u y:AW):Nat->Rat
 |0=>0
 |n+1=>u 0*y 0+HR (sh u) (sh y) n
theorem kP(S:List Bool):∀(v y:AW) (w:A5),ct y (wg v w) S+wg v (ct y w) S=HR v y S.length*w S:=by
 induction S with
 |nil=>intro v y w;simp only[ct,wg,HR,rA];grind
 |cons b S ih =>
  intro v y w;cases b
  ·have h:=ih (sh v) (sh y) (BC w);have F:BC (wg v w)=wg (sh v) (BC w):=rfl;have I:BC (ct y w)=λT=>(λT=>y 0*Ay w T) T+ct (sh y) (BC w) T:=rfl
   simp only[ct,wg,HR,oA,F];rw[I,Lh,Fq]
   have:BC w S=w (false :: S):=rfl
   grind
  ·have h:=ih (sh v) (sh y) (Ay w);have F:Ay (wg v w)=λT=>(λT=>v 0*BC w T) T-wg (sh v) (Ay w) T:=rfl
   have I:Ay (ct y w)=λT=>(-1)*ct (sh y) (Ay w) T:=by funext T;show-ct (sh y) (Ay w) T=_;grind
   simp only[ct,wg,HR,oA];rw[F,I,i6,QO,Fq]
   have:Ay w S=w (true :: S):=rfl
   grind
theorem Qw(S:List Bool):∀(v:AW) (w x:A5),(∀T:List Bool,T.length=S.length->w T=x T)->wg v w S=wg v x S:=by
 induction S with
 |nil=>intro v w x _;rfl
 |cons b S ih =>
  intro v w x h;cases b
  ·exact ih _ _ _ (λT F=>h (false :: T) (by simp[F]))
  ·simp only[wg];rw[h (false :: S) (by simp),ih (sh v) (Ay w) (Ay x) (λT F=>h (true :: T) (by simp[F]))]
theorem ir(S:List Bool):∀y:AW,ct y Ah S=0:=by
 induction S with
 |nil=>intro y;rfl
 |cons b S ih =>
  intro y;cases b
  ·simp only[ct];have e:BC Ah=Ah:=rfl;have F:Ah (true :: S)=0:=rfl;rw[e,ih,F];grind
  ·simp only[ct];have e:Ay Ah=λT=>0*Ah T:=by funext T;show(0:Rat)=_;grind
   rw[e,QO];grind
theorem jB(m:Nat)(y:AW)(L:List AW):∀(w:A5),(∀v∈L,HR v y m=0)->(∀S:List Bool,S.length=m->ct y w S=0)->∀S:List Bool,S.length=m->ct y (Ac L w) S=0:=by
 induction L with
 |nil=>intro w _ h;exact h
 |cons v L ih =>
  intro w F h;refine ih (wg v w) (λu J=>F u (by simp[J])) λS I=>?_
  have e:=kP S v y w;have O:wg v (ct y w) S=0:=by
   rw[Qw S v (ct y w) (λ_=>0) (λT hT=>h T (by lia)),NU]
  rw[O,I,F v (by simp)]at e
  grind
theorem Vc(c:Nat):∀(y:AW) (w:A5) (S:List Bool),ct y w (nQ c true++S)=sg c*ct (DN c y) (pre c w) S:=by
 induction c with
 |zero=>intro y w S;simp[sg];rfl
 |succ c ih =>
  intro y w S;simp only[o8,qT,ct];rw[ih,QQ];have I:DN c (sh y)=DN (c+1) y:=by funext j;simp only[DN,sh];congr 1
  have F:pre c (Ay w)=pre (c+1) w:=by funext T;simp[pre,Ay,o8]
  rw[I,F];grind
theorem Z0(n:Nat):∀u y:AW,HR u y n=AV (λj=>u j*y j) n:=by
 have F:∀n (f:Nat->Rat),AV f (n+1)=f 0+AV (λj=>f (j+1)) n:=by
  intro n f
  induction n with
  |zero=>simp only[AV];grind
  |succ n ih=>rw[AV,ih];simp only[AV];grind
 induction n with
 |zero=>intro u y;rfl
 |succ n ih =>
  intro u y;simp only[HR];rw[ih,F];rfl
def K1(n j:Nat):List Bool:=nQ j true++false :: (nQ (n-1-j) true++[true])
def Ou(n j:Nat):Rat:=CF n*sg (n-1-j)
theorem Ve(h:∀a∈A,fx n x a=0)(hj:j<n):(K1 n j).length=n+1/\(Ou n j=1\/Ou n j=-1)/\x j*ld n (n+1) (Ac A Ah)=Ou n j*Ac A Ah (K1 n j):=by
 let y:AW:=λi=>if i=n then -1 else x i
 have aa:∀v∈A,HR v y (n+1)=0:=by
  intro v hv;rw[Z0];simp only[AV];have e:AV (λj=>v j*y j) n=AV (λj=>v j*x j) n:=Bc λi hi=>by simp only[y,nv (show i≠n by lia)]
  have:=h v hv
  simp only[fx]at this;rw[e];simp only[y,nF];grind
 have F:=jB (n+1) y A Ah aa (λS _=>ir S y) (nQ j true++(false :: (nQ (n-1-j) true++[false]))) (by simp;lia);generalize Ac A Ah=w at F ⊢;rw[Vc]at F;simp only[ct]at F;rw[Vc]at F;simp only[ct]at F;have I:∀c,sg c=1\/sg c=-1:=by intro c;unfold sg;split;exact .inl rfl;exact .inr rfl
 have s2:∀c,CF c=1\/CF c=-1:=by
  intro c;induction c with
  |zero=>exact .inl rfl
  |succ c ih =>
   simp only[CF];rcases ih with a|a<;>rcases I c with b|b<;>rw[a,b]<;>grind
 have eT:nQ j true++true :: (nQ (n-1-j) true++[false])=Tk n (n+1):=by
  unfold Tk;rw[show n+1-n=1 by lia,List.replicate_one]
  have:nQ j true++true :: (nQ (n-1-j) true++[false])=(nQ j true++nQ 1 true++nQ (n-1-j) true)++[false]:=by simp
  rw[this,sX,sX];congr 2;lia
 have y1:DN j y 0=x j:=by simp only[DN,y,tJ,nv (show j≠n by lia)]
 have O:DN (n-1-j) (sh (DN j y)) 0=-1:=by
  simp only[DN,sh,y];rw[nF (by lia)]
 have J:pre j w (true :: (nQ (n-1-j) true++[false]))=w (Tk n (n+1)):=by unfold pre;rw[eT]
 have w2:pre (n-1-j) (BC (pre j w)) [true]=w (nQ j true++false :: (nQ (n-1-j) true++[true])):=rfl;rw[y1,O,J,w2]at F;unfold K1 Ou;exists by simp;lia,?_
 ·rcases s2 n with a|a<;>rcases I (n-1-j)with b|b<;>rw[a,b]<;>grind
 ·unfold ld;have hs:=I j;rcases I j with a|a<;>rw[a]at F<;>grind
theorem UA(F:c≠0):fx n x (λj=>c*v j)=0↔fx n x v=0:=by
 rw[(Vs n x).HY];constructor
 ·intro h;grind
 ·intro h;rw[h];grind
end Wd
namespace Mth
theorem gS(h:0<c)(h1:c ∣ M)(h2:(q.den:Int) ∣ M):DP c q ∣ M:=by
 have hq:=q.den_nz;have hg:0<pN c q.den:=tN _ (by lia);have F:=tP c (q.den:Int);have e:DP c q=c / (pN c q.den:Int)*q.den:=by unfold DP;rw[qo F]
 have l:c / (pN c q.den:Int)*q.den=(Int.lcm c q.den:Int):=by
  have O:(pN c q.den:Int)*(Int.lcm c q.den:Int)=c*q.den:=by
   have:=Int.gcd_mul_lcm c (q.den:Int)
   have J:((c*(q.den:Int)).natAbs:Int)=c*q.den:=by
    have:0<c*(q.den:Int):=vD h (by lia)
    lia
   rw[<-J,oE,<-this,zQ]
  have I:(pN c q.den:Int)≠0:=by lia
  refine Int.eq_of_mul_eq_mul_left I ?_;rw[O,<-Int.mul_assoc,Int.mul_ediv_cancel' F]
 rw[e,l];exact Int.coe_lcm_dvd h1 h2
theorem jR(r:List Rat):∀{c:Int},0<c->c ∣ M->(∀q∈r,(q.den:Int) ∣ M)->r.foldl DP c ∣ M:=by
 induction r with
 |nil=>intro c _ h _;exact h
 |cons q r ih =>
  intro c F h1 h2;exact ih (Vk F q).1 (gS F h1 (h2 q (by simp))) (λp hp=>h2 p (by simp[hp]))
theorem We(F:0<M)(h:∀q∈r,(q.den:Int) ∣ M):(cb r).natAbs<=M.natAbs:=by
 have h1:cb r ∣ M:=jR r (by decide) (Int.one_dvd _) h;exact uN (by lia) (Int.natAbs_dvd_natAbs.mpr h1)
theorem UZ{M k:Int}(h:(M:Rat)*q=k):(q.den:Int) ∣ M:=by
 have h1:=Ex q;have e:(((M*q.num:Int)):Rat)=((k*q.den:Int):Rat):=by
  rw[oo,oo,ic];grind
 have J:M*q.num=k*q.den:=by exact_mod_cast e
 have F:M.natAbs*q.num.natAbs=k.natAbs*q.den:=by
  have:=congrArg zP J
  rw[oE,oE,oj]at this;exact this
 have I:xc q.den q.num.natAbs:=xc.symm q.reduced
 have:q.den ∣ M.natAbs:=xc.dvd_of_dvd_mul_right I ⟨k.natAbs,by rw[F,uo]⟩
 exact vH.mpr this
theorem U9:∀{r:List Rat} {p:Rat},p∈r->p.den<=(r.map (·.den)).sum
 |q :: r,p,h=>by
  rw[nK,ow];rcases nZ.mp h with rfl|h
  ·lia
  ·have:=U9 h;lia
theorem OF(r:List Rat):0<cb r/\∀q∈r,(q.den:Int) ∣ cb r:=by
 obtain⟨a,_,b,_⟩:=Ws r (c:=1) (D:=0) (d:=(r.map (·.den)).sum) (by decide) (by decide) (λp hp=>by
  have h1:p.den<=(r.map (·.den)).sum:=U9 hp;have h2:(r.map (·.den)).sum<2 ^ (r.map (·.den)).sum:=Nat.lt_two_pow_self
  lia)
 exact⟨a,b⟩
def Vb(v:Nat)(q:Rat):Prop:=Wd.Ab ((2 ^ v:Nat):Rat) q
theorem Sb.vb(h:Sb n d q):Vb n q:=by
 have h1:=Ex q;have h2:(1:Rat)<=((q.den:Nat):Rat):=by
  have:1<=q.den:=by have:=q.den_nz;lia
  exact_mod_cast this
 have I:=Wd.HH h.1;obtain⟨a,b⟩:=I;have J:(0:Rat)<=((2 ^ n:Nat):Rat):=by exact_mod_cast pJ _
 rw[<-h1]at a b;constructor
 ·by_cases F:0<=q
  ·grind
  ·have:0<=(-q)*(((q.den:Nat):Rat)-1):=qG (by grind) (by grind)
   grind
 ·by_cases F:0<=q
  ·have:0<=q*(((q.den:Nat):Rat)-1):=qG F (by grind)
   grind
  ·grind
theorem OK(h:(q.den:Int) ∣ b)(h1:Vb v q)(h2:b.natAbs<=2 ^ D):(wh b q).natAbs<=2 ^ (D+v):=by
 refine Wd.FQ ?_;rw[WH h]
 have:=(Wd.HH h2).D0 h1
 have e:(((2 ^ D:Nat)):Rat)*((2 ^ v:Nat):Rat)=((2 ^ (D+v):Nat):Rat):=by rw[t5,qk]
 rw[e]at this;exact this
theorem Vb.D0(h:Vb v p)(g:Vb u q):Vb (v+u) (p*q):=by
 have:=Wd.Ab.D0 h g
 have e:(((2 ^ v:Nat)):Rat)*((2 ^ u:Nat):Rat)=((2 ^ (v+u):Nat):Rat):=by rw[t5,qk]
 rw[e]at this;exact this
theorem Vb.Cu(h:Vb v p)(g:Vb v q):Vb (v+1) (p+q):=by
 obtain⟨a,b⟩:=h;obtain⟨c,d⟩:=g;have e:((2 ^ (v+1):Nat):Rat)=((2 ^ v:Nat):Rat)+((2 ^ v:Nat):Rat):=by
  rw[r9,Nat.mul_two,Rat.natCast_add]
 unfold Vb Wd.Ab;rw[e];constructor<;>grind
theorem Vb.mono(h:Vb v p)(F:v<=u):Vb u p:=by
 refine Wd.Ab.le h ?_
 exact_mod_cast oQ (by decide) F
end Mth
namespace Wd
open Mth
variable {T:List (List Rat)}{rs:List AK}{i:Nat}{x:Nat->Rat}
theorem Ud(S:List Bool):∀(u v:AW) (w:A5),(∀j,j<S.length->u j=v j)->wg u w S=wg v w S:=by
 induction S with
 |nil=>intro u v w _;rfl
 |cons b S ih =>
  intro u v w h;have h2:=ih (sh u) (sh v);cases b
  ·exact h2 _ (λj F=>h (j+1) (by simp;lia))
  ·simp only[wg];rw[h 0 (by simp),h2 _ (λj F=>h (j+1) (by simp;lia))]
theorem eJ(S:List Bool):∀(v:AW) (w:A5),wg v w (S++[false])=wg v (λT=>w (T++[false])) S:=by
 induction S with
 |nil=>intro v w;rfl
 |cons b S ih =>
  intro v w;cases b
  ·exact ih (sh v) (BC w)
  ·simp only[qT,wg];rw[ih];rfl
theorem Zh(S:List Bool):Ah (S++[false])=Ah S:=by
 induction S with
 |nil=>rfl
 |cons b S ih=>cases b;exact ih;rfl
theorem bW(n:Nat)(L:List (AW×AW)):∀(w x:A5),(∀p∈L,∀j,j<n->p.1 j=p.2 j)->(∀T:List Bool,T.length=n->w (T++[false])=x T)->∀S:List Bool,S.length=n->Ac (L.map (·.1)) w (S++[false])=Ac (L.map (·.2)) x S:=by
 induction L with
 |nil=>intro w x _ h S F;exact h S F
 |cons p L ih =>
  intro w x hp h S F;refine ih (wg p.1 w) (wg p.2 x) (λq I=>hp q (by simp[I])) (λT hT=>?_) S F;rw[eJ,Ud T p.1 p.2 _ (λj O=>hp p (by simp) j (by lia))];exact Qw T p.2 _ _ (λU J=>h U (by lia))
theorem V5(h:j<row.length):vq (row++[q]) j=vq row j:=by
 simp only[vq,nq];rw[nX h]
theorem ju:vq (row++[q]) row.length=q:=by
 simp only[vq,nq];rw[nW (nG _)];simp
theorem dC(hT:T.length=n)(hr:r.length=n)(J:∀x∈T,x.length=n):dt n (n+1) (va (λrow q=>row++[q]) T r)=dt n n T:=by
 have e1:(va (λrow q=>row++[q]) T r).map vq=((T.zip r).map λp=>(vq (p.1++[p.2]),vq p.1)).map (·.1):=by
  rw[pC,zC,List.zip,zC];rfl
 have O:T.map vq=((T.zip r).map λp=>(vq (p.1++[p.2]),vq p.1)).map (·.2):=by
  rw[pC]
  have:(T.zip r).map wI=T:=List.map_fst_zip (by lia)
  conv=>lhs;rw[<-this]
  rw[pC];rfl
 unfold dt ld;rw[e1,O];congr 1;have t1:Tk n (n+1)=Tk n n++[false]:=by
  unfold Tk;rw[show n+1-n=1 by lia,rG];simp
 rw[t1];refine bW n _ Ah Ah (λp hp j F=>?_) (λT _=>Zh T) _ (by unfold Tk;simp);obtain⟨q,I,rfl⟩:=nS.mp hp;exact V5 (by rw[J q.1 (uY I).1];exact F)
theorem cQ(h:row.length=n):fx n x (vq (row++[q]))=AV (λj=>vq row j*x j) n-q:=by
 simp only[fx];rw[Bc (λj F=>by rw[V5 (by lia)])]
 have:=ju (row:=row) (q:=q)
 rw[h]at this;rw[this]
def m7(n:Nat)(row F:List Rat):Rat:=AV (λj=>row.getD j 0*F.getD j 0) n
def DM(T:List (List Rat))(i j:Nat)(v:Rat):List (List Rat):=T.set i ((T.getD i []).set j v)
structure Sq(n:Nat)(T:List (List Rat)):Prop where
 len:T.length=n
 EY:∀r∈T,r.length=n
theorem Sq.row(h:Sq n T)(hi:i<n):(T.getD i []).length=n/\T[i]?=some (T.getD i []):=by
 have e:T[i]?=some (T[i]'(by rw[h.len];exact hi)):=nh _;have F:T.getD i []=T[i]'(by rw[h.len];exact hi):=by rw[nq,e];rfl
 rw[F];exact⟨h.EY _ (oK _),e⟩
theorem Sq.set(h:Sq n T)(hi:i<n):Sq n (DM T i j v):=by
 refine⟨by unfold DM;rw[o9];exact h.len,λr F=>?_⟩;unfold DM at F;rcases qd F with h1|h1
 ·exact h.EY r h1
 ·rw[h1,o9];exact(h.row hi).1
theorem Iy(h:Sq n T)(hi:i<n)(hj:j<n)(F I:Nat):en (DM T i j v) F I=if F=i/\I=j then v else en T F I:=by
 unfold en DM;have O:=(h.row hi).1;by_cases e:i=F
 ·subst e
  have:(T.set i ((T.getD i []).set j v)).getD i []=(T.getD i []).set j v:=by
   rw[nq,oM (by rw[h.len];exact hi)];rfl
  rw[this];by_cases J:j=I
  ·subst J;rw[nF ⟨U,U⟩,nq,oM (by lia)];rfl
  ·rw[nv (λz=>J z.2.symm),nq,oH J,<-List.getD_eq_getElem?_getD]
 ·have:(T.set i ((T.getD i []).set j v)).getD F []=T.getD F []:=by
   rw[nq,oH e,<-List.getD_eq_getElem?_getD]
  rw[this,nv (λz=>e z.1.symm)]
abbrev AK:=Nat×Nat×Rat
def Co(T:List (List Rat))(r:AK):List (List Rat) :=
 if r.1=r.2.1 then T else
 let I:=DM T r.1 r.1 (en T r.1 r.1+r.2.2)
 let F:=DM I r.2.1 r.2.1 (en I r.2.1 r.2.1+r.2.2)
 let J:=DM F r.1 r.2.1 (en F r.1 r.2.1-r.2.2)
 DM J r.2.1 r.1 (en J r.2.1 r.1-r.2.2)
def Eh(n:Nat):List (List Rat):=nQ n (nQ n 0)
def BB(n:Nat)(rs:List AK):List (List Rat):=rs.foldl Co (Eh n)
theorem JA(n:Nat):Sq n (Eh n):=⟨by simp[Eh],λr F=>by rw[(yz.mp F).2];simp⟩
theorem QZ(n i j:Nat):en (Eh n) i j=0:=by
 unfold en Eh;rw[nq,nq,tf];split
 ·simp only[qD];rw[tf];split<;>rfl
 ·rfl
def B6(r:AK)(i j:Nat):Rat :=
 if r.1=r.2.1 then 0 else (if i=r.1/\j=r.1 then r.2.2 else 0)+(if i=r.2.1/\j=r.2.1 then r.2.2 else 0)-(if i=r.1/\j=r.2.1 then r.2.2 else 0)-(if i=r.2.1/\j=r.1 then r.2.2 else 0)
theorem SH(h:Sq n T)(h1:r.1<n)(h2:r.2.1<n):Sq n (Co T r)/\∀i j,en (Co T r) i j=en T i j+B6 r i j:=by
 unfold Co B6;by_cases e:r.1=r.2.1
 ·simp only[nF e];exact⟨h,λi j=>by grind⟩
 ·simp only[nv e];have q1:=h.set (j:=r.1) (v:=en T r.1 r.1+r.2.2) h1;have e1:=Iy h (v:=en T r.1 r.1+r.2.2) h1 h1;generalize DM T r.1 r.1 (en T r.1 r.1+r.2.2)=F at q1 e1;have J:=q1.set (j:=r.2.1) (v:=en F r.2.1 r.2.1+r.2.2) h2;have e2:=Iy q1 (v:=en F r.2.1 r.2.1+r.2.2) h2 h2;generalize DM F r.2.1 r.2.1 (en F r.2.1 r.2.1+r.2.2)=I at J e2;have O:=J.set (j:=r.2.1) (v:=en I r.1 r.2.1-r.2.2) h1;have e3:=Iy J (v:=en I r.1 r.2.1-r.2.2) h1 h2;generalize DM I r.1 r.2.1 (en I r.1 r.2.1-r.2.2)=T3 at O e3;have q4:=O.set (j:=r.1) (v:=en T3 r.2.1 r.1-r.2.2) h2;have e4:=Iy O (v:=en T3 r.2.1 r.1-r.2.2) h2 h1;refine⟨q4,λi j=>?_⟩;rw[e4];simp only[e3,e2,e1]
  grind
theorem J2:∀(rs:List AK) {T:List (List Rat)},Sq n T->(∀r∈rs,r.1<n/\r.2.1<n)->Sq n (rs.foldl Co T)/\∀i j,en (rs.foldl Co T) i j=en T i j+(rs.map λr=>B6 r i j).sum:=by
 intro rs
 induction rs with
 |nil=>intro T h _;exact⟨h,λi j=>by simp only[pE,rF,List.foldl_nil];grind⟩
 |cons r rs ih =>
  intro T h F;obtain⟨a,b⟩:=SH h (F r (by simp)).1 (F r (by simp)).2;obtain⟨c,d⟩:=ih a (λx I=>F x (by simp[I]));refine⟨c,λi j=>?_⟩;rw[wW,d,b,nK,ow];grind
theorem Z1(c:Nat)(L:List AW):∀(w:A5) (S:List Bool),(∀v∈L,∀j,j<c->v j=0) →
  ∃e:Rat,e*e=1/\Ac L w (nQ c true++S)=e*Ac (L.map (DN c)) (pre c w) S:=by
 induction L with
 |nil=>intro w S _;exact⟨1,by grind,by simp[Ac,pre]⟩
 |cons v L ih =>
  intro w S h;obtain⟨e,h1,I⟩:=ih (wg v w) S (λu F=>h u (by simp[F]));refine⟨e*sg c,by have:=JM c;grind,?_⟩;simp only[Ac,nK];rw[I]
  have:pre c (wg v w)=λT=>sg c*wg (DN c v) (pre c w) T:=by
   funext T;exact Qq c v w T (h v (by simp))
  rw[this,IB];grind
theorem Gy(f:Nat->Rat):∀n,AV f (n+1)=f 0+AV (λj=>f (j+1)) n:=by
 intro n
 induction n with
 |zero=>simp only[AV];grind
 |succ n ih =>
  have:AV f (n+1+1)=AV f (n+1)+f (n+1):=rfl
  rw[this,ih];simp only[AV];grind
theorem aV(r:AW)(c:AW->Rat)(M:List AW):∀(w:A5),(∀S,wg r w S=0)->Ac (M.map λv=>λj=>v j + -c v*r j) w=Ac M w:=by
 induction M with
 |nil=>intro w _;rfl
 |cons v M ih =>
  intro w h;simp only[nK,Ac];have e:wg (λj=>v j + -c v*r j) w=wg v w:=by
   funext S
   have h1:=LI S v (λj=>-c v*r j) w;rw[Hv,h S]at h1;rw[h1];grind
  rw[e];refine ih _ (λS=>?_);have F:wg r w=λ_=>0:=funext h
  rw[Lc,F,NU];grind
theorem XT:∀(n:Nat) (L:List AW),L.length=n->ld n n (Ac L Ah)=0->∃x:Nat->Rat,(∃j,j<n/\x j≠0)/\∀v∈L,AV (λj=>v j*x j) n=0:=by
 intro n
 induction n with
 |zero =>
  intro L O h
  have:L=[]:=rS.mp O
  subst this;have h1:=Ln 0;rw[show Ac [] Ah=Ah from rfl,h1]at h
  grind
 |succ n ih =>
  intro L O h;by_cases hz:∀v∈L,v 0=0
  ·refine⟨λj=>if j=0 then 1 else 0,⟨0,by lia,by simp⟩,λv F=>?_⟩;rw[GI (i:=0) (by lia) (λl _ J=>by simp[J])];rw[hz v F];grind
  ·have ab:∃r,r∈L/\r 0≠0:=by
    apply t9;intro hn;exact hz (λv F=>t9 λz=>hn ⟨v,F,z⟩)
   obtain⟨r,hr,I⟩:=ab;obtain⟨A,B,rfl⟩:=vI hr;have J:(A++B).length=n:=by simp at O ⊢;lia
   let c:AW->Rat:=λv=>v 0 / r 0
   let f:AW->AW:=λv=>λj=>v j + -c v*r j
   have e1:∀S,Ac (A++r :: B) Ah S=sg A.length*Ac ((A++B).map f) (wg r Ah) S:=by
    intro S;have q1:Ac ((A++B).map f) (wg r Ah)=Ac (A++B) (wg r Ah):=aV r c (A++B) (wg r Ah) (λS=>Ka S r Ah);rw[q1,GJ,GJ];have q2:Ac A (wg r Ah)=λT=>sg A.length*wg r (Ac A Ah) T:=funext λT=>V3 A r Ah T
    rw[q2,IB];show Ac B (wg r (Ac A Ah)) S=_
    have:=JM A.length
    grind
   have fz:∀v∈(A++B).map f,∀j,j<1->v j=0:=by
    intro v F j hj;obtain⟨u,_,rfl⟩:=nS.mp F
    have:j=0:=by lia
    subst this;show u 0 + -(u 0 / r 0)*r 0=0
    have:u 0 / r 0*r 0=u 0:=yK I
    grind
   obtain⟨e,ee,he⟩:=Z1 1 ((A++B).map f) (wg r Ah) (nQ n true) fz;have e2:pre 1 (wg r Ah)=λT=>r 0*Ah T:=by
    funext T
    show wg r Ah (true :: T)=_;simp only[wg]
    have:Ay Ah=λ_=>0:=by funext S;rfl
    rw[this,NU];show r 0*Ah T-0=_
    grind
   have e3:Tk (n+1) (n+1)=nQ 1 true++nQ n true:=by unfold Tk;simp[o8]
   have e4:Tk n n=nQ n true:=by unfold Tk;simp
   have h2:ld n n (Ac (((A++B).map f).map (DN 1)) Ah)=0:=by
    unfold ld at h ⊢;rw[e3,e1,he,e2,IB]at h;rw[e4];have t1:=KG (n+1);have t2:=JM A.length;have nt:CF (n+1)≠0:=λz=>by rw[z]at t1;grind
    have ns:sg A.length≠0:=λz=>by rw[z]at t2;grind
    have ne:e≠0:=λz=>by rw[z]at ee;grind
    have z:=(rB.mp h).resolve_left nt;have z:=(rB.mp z).resolve_left ns;have z:=(rB.mp z).resolve_left ne;have z:=(rB.mp z).resolve_left I;rw[z];grind
   obtain⟨y,⟨j,hj,hy⟩,hs⟩:=ih _ (by simp only[nc];exact J) h2
   let s:=AV (λj=>r (j+1)*y j) n
   let x:Nat->Rat:=λj=>match j with|0=>-s / r 0|j+1=>y j
   have x0:r 0*x 0=-s:=by
    show r 0*(-s / r 0)=-s;rw[sd];exact yK I
   have aa:AV (λj=>r j*x j) (n+1)=0:=by
    rw[Gy];show r 0*x 0+s=0;rw[x0];grind
   refine⟨x,⟨j+1,by lia,hy⟩,λv F=>?_⟩;have ac:v=r\/v∈A++B:=by
    rcases nM.mp F with z|z
    ·exact .inr (nM.mpr (.inl z))
    ·rcases nZ.mp z with z|z
     ·exact .inl z
     ·exact .inr (nM.mpr (.inr z))
   rcases ac with rfl|hm
   ·exact aa
   ·have g1:=hs (DN 1 (f v)) (nS.mpr ⟨f v,nS.mpr ⟨v,hm,U⟩,U⟩);have g2:AV (λj=>f v j*x j) (n+1)=0:=by
     rw[Gy,show f v 0=0 from fz _ (nS.mpr ⟨v,hm,U⟩) 0 (by lia)]
     have:AV (λj=>f v (j+1)*x (j+1)) n=0:=g1
     rw[this];grind
    have g3:AV (λj=>f v j*x j) (n+1)=AV (λj=>v j*x j) (n+1) + -c v*AV (λj=>r j*x j) (n+1):=by
     rw[<-Es,<-D5];refine Bc λj _=>?_
     show(v j + -c v*r j)*x j=_
     grind
    rw[g2,aa]at g3
    grind
def Au(X:Nat->Rat)(r:AK):Rat:=r.2.2*(X r.1-X r.2.1)
def Ca(X:Nat->Rat)(i:Nat)(r:AK):Rat:=(if i=r.1 then Au X r else 0)-(if i=r.2.1 then Au X r else 0)
def Aj(X:Nat->Rat)(rs:List AK)(i:Nat):Rat:=(rs.map (Ca X i)).sum
def GY(n:Nat)(rs:List AK):Prop:=∀S:Nat->Prop,S 0->(∀r∈rs,S r.1↔S r.2.1)->∀p,p<n->S p
theorem Mr(c:Rat)(hi:i<n):AV (λj=>if j=i then c else 0) n=c:=by
 rw[GI (i:=i) hi (λl _ h=>by rw[nv h])];rw[nF rfl]
theorem Z4(h1:r.1<n)(h2:r.2.1<n)(X:Nat->Rat)(i:Nat):AV (λj=>B6 r i j*X j) n=Ca X i r:=by
 by_cases e:r.1=r.2.1
 ·have:∀j,B6 r i j*X j=0:=λj=>by unfold B6;rw[nF e];grind
  rw[Hr (λl _=>this l)];unfold Ca Au;rw[e];grind
 ·have:∀j,B6 r i j*X j=(if j=r.1 then (if i=r.1 then r.2.2*X r.1 else 0)-(if i=r.2.1 then r.2.2*X r.1 else 0) else 0)+(if j=r.2.1 then (if i=r.2.1 then r.2.2*X r.2.1 else 0)-(if i=r.1 then r.2.2*X r.2.1 else 0) else 0):=by
   intro j;unfold B6;rw[nv e];by_cases J:j=r.1
   ·subst J;by_cases I:i=r.1<;>by_cases F:i=r.2.1<;>simp[I,F,e]<;>grind
   ·by_cases O:j=r.2.1
    ·subst O;by_cases I:i=r.1<;>by_cases F:i=r.2.1<;>simp[J,I,F,e]<;>grind
    ·simp[J,O];grind
  rw[Bc (g:=λj=>(if j=r.1 then (if i=r.1 then r.2.2*X r.1 else 0)-(if i=r.2.1 then r.2.2*X r.1 else 0) else 0)+(if j=r.2.1 then (if i=r.2.1 then r.2.2*X r.2.1 else 0)-(if i=r.1 then r.2.2*X r.2.1 else 0) else 0)) (λj _=>this j)];rw[D5,Mr _ h1,Mr _ h2];unfold Ca Au
  grind
theorem Ti(f:AK->Nat->Rat):∀rs:List AK,AV (λj=>(rs.map λr=>f r j).sum) n=(rs.map λr=>AV (f r) n).sum:=by
 intro rs
 induction rs with
 |nil=>simp only[pE,rF];exact Hr λ_ _=>rfl
 |cons r rs ih=>simp only[nK,ow];rw[D5,ih]
theorem Pr(c:Rat)(f:AK->Rat)(rs:List AK):(rs.map f).sum*c=(rs.map λr=>f r*c).sum:=by
 induction rs with
 |nil=>simp only[pE,rF];grind
 |cons r rs ih=>simp only[nK,ow];rw[<-ih];grind
theorem Ms{f g:AK->Rat}(h:∀r∈rs,f r=g r):(rs.map f).sum=(rs.map g).sum:=by rw[o7 h]
theorem FL(h:∀r∈rs,r.1<n/\r.2.1<n):Sq n (BB n rs)/\∀i j,en (BB n rs) i j=(rs.map λr=>B6 r i j).sum:=by
 obtain⟨a,b⟩:=J2 rs (JA n) h;refine⟨a,λi j=>?_⟩
 have:=b i j
 rw[QZ]at this;show en (rs.foldl Co (Eh n)) i j=_;rw[this];grind
theorem Pq(h:∀r∈rs,r.1<n/\r.2.1<n)(X:Nat->Rat)(i:Nat):AV (λj=>en (BB n rs) i j*X j) n=Aj X rs i:=by
 rw[Bc (g:=λj=>(rs.map λr=>B6 r i j*X j).sum) (λj _=>by rw[(FL h).2,Pr])];rw[Ti (λr j=>B6 r i j*X j)];exact Ms λr F=>Z4 (h r F).1 (h r F).2 X i
theorem Z5(h1:r.1<n)(h2:r.2.1<n)(X Y:Nat->Rat):AV (λi=>Y i*Ca X i r) n=Au X r*(Y r.1-Y r.2.1):=by
 have:∀i,Y i*Ca X i r=(if i=r.1 then Y r.1*Au X r else 0)+(if i=r.2.1 then-(Y r.2.1*Au X r) else 0):=by
  intro i;unfold Ca;by_cases a:i=r.1<;>by_cases b:i=r.2.1<;>simp[a,b]<;>grind
 rw[Bc (λi _=>this i),D5,Mr _ h1,Mr _ h2];grind
theorem Py(h:∀r∈rs,r.1<n/\r.2.1<n)(X Y:Nat->Rat):AV (λi=>Y i*Aj X rs i) n=(rs.map λr=>Au X r*(Y r.1-Y r.2.1)).sum:=by
 rw[Bc (g:=λi=>(rs.map λr=>Y i*Ca X i r).sum) (λi _=>by unfold Aj;rw[sd,Pr];exact Ms λr _=>sd _ _)];rw[Ti (λr i=>Y i*Ca X i r)];exact Ms λr F=>Z5 (h r F).1 (h r F).2 X Y
theorem kC(x:Rat):0<=x*x:=by
 rcases Rat.le_total (a:=0) (b:=x)with h|h
 ·exact qG h h
 ·have:0<=-x:=by grind
  have:=qG this this
  grind
theorem iP{f:AK->Rat}:∀{rs:List AK},(∀r∈rs,0<=f r)->0<=(rs.map f).sum:=by
 intro rs
 induction rs with
 |nil=>intro _;simp only[pE,rF];exact zq
 |cons r rs ih =>
  intro h;simp only[nK,ow];have h1:=h r (by simp);have h2:=ih (λx F=>h x (by simp[F]))
  grind
theorem eE{f:AK->Rat}:∀{rs:List AK},(∀r∈rs,0<=f r)->(rs.map f).sum=0->∀r∈rs,f r=0:=by
 intro rs
 induction rs with
 |nil=>intro _ _ r F;cases F
 |cons r rs ih =>
  intro h e x hx;simp only[nK,ow]at e;have h1:=h r (by simp);have h2:=iP (f:=f) (rs:=rs) (λx hx=>h x (by simp[hx]));rcases nZ.mp hx with rfl|hx
  ·grind
  ·exact ih (λx hx=>h x (by simp[hx])) (by grind) x hx
theorem Mq(h:∀r∈rs,r.1<n/\r.2.1<n/\0<r.2.2)(g:GY n rs)(J:X 0=0)(hb:∀i,i<n->X i=0\/Aj X rs i=0):∀i,i<n->X i=0:=by
 have h':∀r∈rs,r.1<n/\r.2.1<n:=λr F=>⟨(h r F).1,(h r F).2.1⟩
 have I:=Py h' X X;rw[Hr (λi hi=>by rcases hb i hi with z|z<;>rw[z]<;>grind)]at I;have nn:∀r∈rs,0<=Au X r*(X r.1-X r.2.1):=by
  intro r F;have a:=kC (X r.1-X r.2.1);have b:=qG (Rat.le_of_lt (h r F).2.2) a;unfold Au;grind
 have e2:=eE nn I.symm;refine g (λp=>X p=0) J (λr F=>?_);have e3:=e2 r F;unfold Au at e3;have pe:r.2.2≠0:=λz=>by have:=(h r F).2.2;rw[z]at this;exact absurd this (Rat.lt_irrefl)
 have O:r.2.2*((X r.1-X r.2.1)*(X r.1-X r.2.1))=0:=by grind
 have e5:=(rB.mp O).resolve_left pe;have e6:X r.1-X r.2.1=0:=by rcases rB.mp e5 with z|z<;>exact z
 have e7:X r.1=X r.2.1:=by grind
 rw[e7]
def Dg(T:List (List Rat)):List (List Rat):=(T.drop 2).map (·.drop 2)
theorem HE(q:Sq (n+2) T):(Dg T).length=n/\∀r∈Dg T,r.length=n:=by
 refine⟨by unfold Dg;rw[nc,o6,q.len];lia,λr F=>?_⟩;obtain⟨s,hs,rfl⟩:=nS.mp F;rw[o6,q.EY s (qy hs)];lia
theorem Nb(q:Sq (n+2) T)(hi:i<n):(Dg T)[i]?=some ((T.getD (i+2) []).drop 2):=by
 unfold Dg;rw[nJ,rL,r8 2 i,(q.row (by lia)).2];rfl
theorem UO(r:List Rat)(j:Nat):vq (r.drop 2) j=r.getD (j+2) 0:=by
 unfold vq;rw[nq,rL,r8 2 j,<-List.getD_eq_getElem?_getD]
def Lw(a b:Rat)(x:Nat->Rat):Nat->Rat
 |0=>a
 |1=>b
 |j+2=>x j
theorem Si(f:Nat->Rat)(a b:Rat)(x:Nat->Rat)(n:Nat):AV (λj=>f j*Lw a b x j) (n+2)=f 0*a+(f 1*b+AV (λj=>f (j+2)*x j) n):=by
 rw[Gy,Gy];rfl
theorem jW(h:∀r∈rs,r.1<n+2/\r.2.1<n+2/\0<r.2.2)(g:GY (n+2) rs):dt n n (Dg (BB (n+2) rs))≠0:=by
 have h':∀r∈rs,r.1<n+2/\r.2.1<n+2:=λr F=>⟨(h r F).1,(h r F).2.1⟩
 have q:=(FL h').1;intro z;obtain⟨x,⟨j,hj,I⟩,hs⟩:=XT n _ (by rw[nc];exact(HE q).1) z;have e:=Mq h g (X:=Lw 0 0 x) rfl (λi hi=>by
  match i with
  |0=>exact .inl rfl
  |1=>exact .inl rfl
  |i+2 =>
   right
   rw[<-Pq h',Si];have O:=hs (vq ((BB (n+2) rs).getD (i+2) [] |>.drop 2)) (nS.mpr ⟨_,ny (Nb q (by lia)),U⟩);have J:AV (λj=>en (BB (n+2) rs) (i+2) (j+2)*x j) n=0:=by
    rw[<-O];refine Bc λj _=>?_
    rw[UO];rfl
   rw[J];grind) (j+2) (by lia)
 exact I e
def Ft(T:List (List Rat)):List Rat:=(T.drop 2).map λr=>0-r.getD 0 0
theorem Pg(q:Sq (n+2) T):(Ft T).length=n:=by unfold Ft;rw[nc,o6,q.len];lia
theorem S3(q:Sq (n+2) T)(hi:i<n):(Ft T)[i]?=some (0-en T (i+2) 0):=by
 unfold Ft;rw[nJ,rL,r8 2 i,(q.row (by lia)).2];rfl
theorem kQ (h:∀r∈rs,r.1<n+2/\r.2.1<n+2)
  (F:∀y∈va (λrow q=>row++[q]) (Dg (BB (n+2) rs)) (Ft (BB (n+2) rs)),fx n x (vq y)=0):∀i,2<=i->i<n+2->Aj (Lw 1 0 x) rs i=0:=by
 have q:=(FL h).1;intro i h2 hi;obtain⟨k,rfl⟩:∃k,i=k+2:=⟨i-2,by lia⟩;rw[<-Pq h,Si];have J:=F ((((BB (n+2) rs).getD (k+2) []).drop 2)++[0-en (BB (n+2) rs) (k+2) 0]) (by
  refine ny (i:=k) ?_;rw[tF,Nb q (by lia),S3 q (by lia)])
 rw[cQ (by rw[o6,(q.row (i:=k+2) (by lia)).1];lia)]at J;have I:AV (λj=>en (BB (n+2) rs) (k+2) (j+2)*x j) n=AV (λj=>vq (((BB (n+2) rs).getD (k+2) []).drop 2) j*x j) n:=by
  refine Bc λj _=>?_
  rw[UO];rfl
 rw[I];grind
theorem bX(h:∀r∈rs,r.1<n/\r.2.1<n)(X:Nat->Rat):AV (λi=>Aj X rs i) n=0:=by
 have e:=Py h X (λ_=>1);rw[Bc (g:=λi=>Aj X rs i) (λi _=>by grind)]at e;rw[e]
 have:(rs.map λr=>Au X r*((1:Rat)-1)).sum=(rs.map λr=>(λ_:AK=>(0:Rat)) r).sum:=Ms λr _=>by grind
 rw[this];clear this e h
 induction rs with
 |nil=>rfl
 |cons r rs ih=>simp only[nK,ow];rw[ih];grind
theorem R6(h:∀r∈rs,r.1<n+2/\r.2.1<n+2)(F:∀i,2<=i->i<n+2->Aj X rs i=0):Aj X rs 1=- Aj X rs 0:=by
 have e:=bX h X;rw[Gy,Gy,Hr (λi hi=>F (i+1+1) (by lia) (by lia))]at e
 have:Aj X rs (0+1)=Aj X rs 1:=rfl
 rw[this]at e
 grind
theorem BG.Cu{x y:Rat}(h:BG x)(g:BG y):BG (x+y):=by
 obtain⟨a,rfl⟩:=h;obtain⟨b,rfl⟩:=g;exact⟨a+b,by grind⟩
theorem BG.Gm{x:Rat}(h:BG x):BG (-x):=by
 obtain⟨a,rfl⟩:=h;exact⟨-a,by grind⟩
theorem BG.zero:BG 0:=⟨0,U⟩
theorem dG:∀{rs:List AK},(∀r∈rs,BG (f r))->BG (rs.map f).sum:=by
 intro rs
 induction rs with
 |nil=>intro _;exact⟨0,U⟩
 |cons r rs ih=>intro h;simp only[nK,ow];exact(h r (by simp)).Cu (ih λx F=>h x (by simp[F]))
theorem Ab.Cu{B C x y:Rat}(h:Ab B x)(g:Ab C y):Ab (B+C) (x+y):=by
 obtain⟨h1,h2⟩:=h;obtain⟨F,I⟩:=g;constructor<;>grind
theorem iW:∀{rs:List AK},(∀r∈rs,Ab B (f r))->Ab ((rs.length:Nat)*B) (rs.map f).sum:=by
 intro rs
 induction rs with
 |nil=>intro _;simp only[pE,rF,rA];constructor<;>grind
 |cons r rs ih =>
  intro h;simp only[nK,ow];have e:(((r :: rs).length:Nat):Rat)*B=B+(rs.length:Nat)*B:=by rw[oA];grind
  rw[e];exact(h r (by simp)).Cu (ih λx F=>h x (by simp[F]))
def BR:List AK->Nat
 |[]=>1
 |r :: rs=>r.2.2.den*BR rs
theorem Fp:∀rs:List AK,0<BR rs
 |[]=>Nat.one_pos
 |r :: rs=>zp r.2.2.den_pos (Fp rs)
theorem Le:∀{rs:List AK},(∀r∈rs,r.2.2.den<=2 ^ β)->BR rs<=2 ^ (β*rs.length)
 |[],_=>by simp[BR]
 |r :: rs,h=>by
  have h1:=h r (by simp);have h2:=Le (rs:=rs) λx F=>h x (by simp[F])
  have:=B5 h1 h2
  rw[oA,qv,r8];exact this
theorem LL:∀{rs:List AK} {r:AK},r∈rs->r.2.2.den ∣ BR rs
 |[],_,h=>by cases h
 |s :: rs,r,h=>by
  rcases nZ.mp h with rfl|h
  ·exact Nat.dvd_mul_right _ _
  ·exact Nat.dvd_trans (LL h) (Nat.dvd_mul_left _ _)
theorem Nl(h:q.den ∣ M):BG ((M:Nat)*q):=by
 obtain⟨k,rfl⟩:=h;exists k*q.num;have e:=Ex q;have I:((q.den*k:Nat):Rat)=(q.den:Nat)*(k:Nat):=by exact_mod_cast rfl
 have F:((k*q.num:Int):Rat)=(k:Nat)*(q.num:Int):=by rw[oo];rfl
 rw[I,F,<-e];grind
theorem UI(r:AK)(i j:Nat):B6 r i j=0\/B6 r i j=r.2.2\/B6 r i j=-r.2.2:=by
 unfold B6;by_cases e:r.1=r.2.1
 ·rw[nF e];exact .inl rfl
 ·rw[nv e];by_cases a:i=r.1
  ·have b:i≠r.2.1:=λz=>e (a.symm.trans z)
   by_cases c:j=r.1
   ·have d:j≠r.2.1:=λz=>e (c.symm.trans z)
    simp[a,c,e];grind
   ·by_cases d:j=r.2.1
    ·simp[a,d,e];grind
    ·simp[a,c,d,e];grind
  ·by_cases b:i=r.2.1
   ·by_cases c:j=r.1
    ·have d:j≠r.2.1:=λz=>e (c.symm.trans z)
     have F:r.2.1≠r.1:=λz=>e z.symm
     simp[b,c,e,F];grind
    ·have F:r.2.1≠r.1:=λz=>e z.symm
     by_cases d:j=r.2.1
     ·simp[b,d,F];grind
     ·simp[b,c,d,F];grind
   ·simp[a,b];grind
theorem fT(h:0<=B):Ab B 0:=by constructor<;>grind
theorem Lk(h:∀r∈rs,r.1<n/\r.2.1<n/\Sb α β r.2.2)(I:rs.length<=16)(i j:Nat):BG ((BR rs:Nat)*en (BB n rs) i j)/\Vb (α+4) (en (BB n rs) i j):=by
 rw[(FL λr F=>⟨(h r F).1,(h r F).2.1⟩).2];constructor
 ·rw[sd,Pr];refine dG λr F=>?_
  have q:=Nl (LL F);rw[sd];rcases UI r i j with e|e|e<;>rw[e]
  ·rw[yM];exact BG.zero
  ·exact q
  ·have:=q.Gm
   rwa [Rat.mul_neg]
 ·have q:∀r∈rs,Ab ((2 ^ α:Nat):Rat) (B6 r i j):=λr F=>by
   have v:Ab ((2 ^ α:Nat):Rat) r.2.2:=(h r F).2.2.vb;rcases UI r i j with e|e|e<;>rw[e]
   ·exact fT v.nn
   ·exact v
   ·have:=v.Gm
    rwa [show -1*r.2.2=-r.2.2 by grind]at this
  refine(iW q).le ?_
  have:rs.length*2 ^ α<=2 ^ (α+4):=by rw[t5,uo];exact pZ _ I
  have e:(((rs.length*2 ^ α:Nat)):Rat)=(rs.length:Nat)*((2 ^ α:Nat):Rat):=by exact_mod_cast rfl
  rw[<-e];exact_mod_cast this
theorem UX(L:List AW):∀(w:A5),(∀v∈L,∀j,BG (v j))->(∀T,BG (w T))->∀S,BG (Ac L w S):=by
 induction L with
 |nil=>intro w _ h;exact h
 |cons v L ih=>intro w h g;exact ih _ (λu F=>h u (by simp[F])) (λT=>Nu T v w (h v (by simp)) g)
theorem gy(L:List AW)(s:Nat):∀(w:A5) (W:Nat),(∀v∈L,∀j,Ab ((V:Nat):Rat) (v j))->(∀T:List Bool,T.length=s->Ab ((W:Nat):Rat) (w T))->∀S:List Bool,S.length=s->Ab (((s*V) ^ L.length*W:Nat):Rat) (Ac L w S):=by
 induction L with
 |nil=>intro w W _ h S F;rw[rA,yF,sJ];exact h S F
 |cons v L ih =>
  intro w W h g S F
  have:=ih (wg v w) (s*(V*W)) (λu I=>h u (by simp[I])) (λT J=>by
   have:=RC (V:=((V:Nat):Rat)) (W:=((W:Nat):Rat)) T v w (h v (by simp)) (λU O=>g U (by lia))
   rw[J]at this;have e:(((s*(V*W):Nat)):Rat)=(s:Nat)*(((V:Nat):Rat)*((W:Nat):Rat)):=by rw[qk,qk]
   rw[e];exact this) S F
  rw[oA,r9,aak,aak s V W];exact this
theorem ja(S:List Bool):Ab ((1:Nat):Rat) (Ah S):=by
 induction S with
 |nil=>show Ab _ 1;constructor<;>decide
 |cons b S ih =>
  cases b
  ·exact ih
  ·show Ab _ 0;constructor<;>decide
theorem ip(lA:A.length=n)(n1:n+1<=16)(hi:∀a∈A,∀j,BG (a j))(hb:∀a∈A,∀j,Ab ((2 ^ E:Nat):Rat) (a j))(hx:∀a∈A,fx n x a=0)(hd:ld n (n+1) (Ac A Ah)≠0):
  ∃W:Int,W≠0/\W.natAbs<=2 ^ ((4+E)*n)/\∀j,j<n->∃k:Int,(W:Rat)*x j=k/\k.natAbs<=2 ^ ((4+E)*n):=by
 have J:∀S:List Bool,S.length=n+1->∀k:Int,Ac A Ah S=k->k.natAbs<=2 ^ ((4+E)*n):=by
  intro S hS k F;have b:=gy (V:=2 ^ E) A (n+1) Ah 1 hb (λT _=>ja T) S hS;rw[F,lA,xf]at b;refine oa (FQ b) ?_;have h1:(n+1)*2 ^ E<=2 ^ (4+E):=by rw[t5 2 4];exact tS _ (by lia)
  have h2:=yj h1 n
  rwa [<-Nat.pow_mul]at h2
 obtain⟨w,I⟩:=UX A Ah hi QI (Tk n (n+1));have tt:CF n=1\/CF n=-1:=by
  have:(CF n-1)*(CF n+1)=0:=by have:=KG n;grind
  rcases rB.mp this with z|z
  ·left;grind
  ·right;grind
 have lt:(Tk n (n+1)).length=n+1:=by unfold Tk;simp
 have bw:=J _ lt w I;have aa:∀W:Int,ld n (n+1) (Ac A Ah)=W->W.natAbs<=2 ^ ((4+E)*n)->∃W:Int,W≠0/\W.natAbs<=2 ^ ((4+E)*n)/\∀j,j<n->∃k:Int,(W:Rat)*x j=k/\k.natAbs<=2 ^ ((4+E)*n):=by
  intro W hW hl;refine⟨W,λz=>hd (by rw[hW,z];rfl),hl,λj hj=>?_⟩;obtain⟨l1,l2,O⟩:=Ve hx hj;obtain⟨k,F⟩:=UX A Ah hi QI (K1 n j);have bk:=J _ l1 k F;rw[hW,F]at O;rcases l2 with h1|h1<;>rw[h1]at O
  ·exact⟨k,by grind,bk⟩
  ·refine⟨-k,?_,by rw[vp];exact bk⟩;rw[tq];grind
 rcases tt with e|e
 ·exact aa w (by unfold ld;rw[I,e];grind) bw
 ·refine aa (-w) ?_ (by rw[vp];exact bw);unfold ld;rw[I,e,tq];grind
end Wd
namespace Mth
variable {s x:Int}{m:Nat}
theorem HK:∀(n:Nat) (l:List Int),l.Nodup->(∀x∈l,0<=x/\x<n)->l.length<=n
 |0,l,_,h=>by
  cases l with
  |nil=>exact nG _
  |cons a r =>
   have:=h a (qr ..)
   lia
 |n+1,l,hn,h=>by
  by_cases I:(n:Int)∈l
  ·have h1:=HK n (l.erase (n:Int)) (hn.erase _) (λx F=>by
    have O:=List.mem_of_mem_erase F;have J:x≠(n:Int):=λz=>by
     rw[z]at F;exact(tQ.not_mem_erase hn) F
    have:=h x O
    lia)
   have h2:=wD I
   have:0<l.length:=qL I
   lia
  ·have h1:=HK n l hn (λx F=>by
    have J:x≠(n:Int):=λz=>I (z ▸ F)
    have:=h x F
    lia)
   lia
theorem Na:∀(l F:List Int),l.Nodup->(∀x∈l,x∈F)->l.length<=F.length
 |[],_,_,_=>pJ _
 |a :: r,F,hn,h=>by
  have h1:=pj.mp hn;have h2:=Na r (F.erase a) h1.2 λx I=>(List.mem_erase_of_ne (λz:x=a=>h1.1 (z ▸ I))).mpr (h x (oV _ I))
  have J:=h a (qr ..);have O:=wD J
  have:=qL J
  rw[oA]
  lia
abbrev AH(n:Nat)(e:Int):Prop:=0<=e/\e<n
def BM(φ:Int->Int):Nat->Int->Int
 |0,s=>s
 |k+1,s=>φ (BM φ k s)
structure JR(φ:Int->Int)(n:Nat):Prop where
 IU:∀e,AH n e->AH n (φ e)
 inj:∀a b,AH n a->AH n b->φ a=φ b->a=b
section
variable {φ:Int->Int}{n:Nat}(P:JR φ n)
include P
theorem Ef(hs:AH n s):∀k,AH n (BM φ k s)
 |0=>hs
 |k+1=>P.IU _ (Ef hs k)
theorem UG(hs:AH n s):∀(i j:Nat),i<=j->BM φ i s=BM φ j s->BM φ (j-i) s=s
 |0,j,_,e=>by rw[Nat.sub_zero];exact e.symm
 |i+1,0,h,_=>absurd h (by lia)
 |i+1,j+1,h,e=>by
  rw[Nat.add_sub_add_right];exact UG hs i j (by lia) (P.inj _ _ (Ef P hs i) (Ef P hs j) e)
omit P in
def Ij(φ:Int->Int)(s:Int)(m:Nat):Prop:=1<=m/\BM φ m s=s/\∀k,1<=k->k<m->BM φ k s≠s
omit P in
theorem Ij.lS(h:Ij φ s m)(h':Ij φ s m'):m=m':=by
 rcases so m m' with z|z|z
 ·exact absurd h.2.1 (h'.2.2 m h.1 z)
 ·exact z
 ·exact absurd h'.2.1 (h.2.2 m' h'.1 z)
omit P in
def EC(φ:Int->Int)(s:Int)(m:Nat):List Int:=(nz m).map λk=>BM φ k s
omit P in
theorem TB:(EC φ s m).length=m:=by simp[EC]
omit P in
theorem Fn:x∈EC φ s m↔∃k,k<m/\BM φ k s=x:=by simp[EC]
omit P in
theorem Yg:EC φ s (m+1)=EC φ s m++[BM φ m s]:=by simp[EC,uZ]
theorem SJ(hs:AH n s)(h:∀k,1<=k->k<m->BM φ k s≠s):(EC φ s m).Nodup:=by
 unfold EC tQ;rw[rf];refine ui ?_ (tr (n:=m));intro a b I F J e;exact h (b-a) (by lia) (by have:=oJ.mp F;lia) (UG P hs a b (by lia) e)
theorem Vl(hs:AH n s):∃m,m<=n/\Ij φ s m:=by
 by_cases hz:∃m,1<=m/\m<=n/\BM φ m s=s
 ·have aa:∀N m,m<=N->1<=m->m<=n->BM φ m s=s->∃m,m<=n/\Ij φ s m:=by
   intro N
   induction N with
   |zero=>intro m h1 h2;lia
   |succ N ih =>
    intro m h1 h2 O h4;by_cases q:∃k,1<=k/\k<m/\BM φ k s=s
    ·obtain⟨k,F,J,I⟩:=q;exact ih k (by lia) F (by lia) I
    ·exact⟨m,O,h2,h4,λk F J I=>q ⟨k,F,J,I⟩⟩
  obtain⟨m,h1,h2,O⟩:=hz;exact aa m m (nG _) h1 h2 O
 ·have h1:=SJ P (m:=n+1) hs λk F J I=>hz ⟨k,F,by lia,I⟩
  have h2:=HK n _ h1 λx hx=>by
   obtain⟨k,_,e⟩:=Fn.mp hx;rw[<-e];exact Ef P hs k
  rw[TB]at h2
  lia
omit P in
open Classical in
def DH(φ:Int->Int)(s:Int):Nat:=if h:∃m,Ij φ s m then h.choose else 1
theorem JF(hs:AH n s):Ij φ s (DH φ s):=by
 obtain⟨m,_,h⟩:=Vl P hs;have e:∃m,Ij φ s m:=⟨m,h⟩;unfold DH;rw[dif_pos e];exact e.choose_spec
theorem ij(hs:AH n s):DH φ s<=n:=by
 obtain⟨m,h1,h⟩:=Vl P hs;rw[(JF P hs).lS h];exact h1
omit P in
def CD(φ:Int->Int)(s:Int):List Int:=EC φ s (DH φ s)
theorem gY(hs:AH n s):(CD φ s).Nodup:=SJ P hs (JF P hs).2.2
theorem Nd(hs:AH n s)(F:x∈CD φ s):AH n x:=by
 obtain⟨k,_,e⟩:=Fn.mp F;rw[<-e];exact Ef P hs k
theorem LD(hs:AH n s):s∈CD φ s:=Fn.mpr ⟨0,(JF P hs).1,U⟩
theorem aZ(hs:AH n s)(F:x∈CD φ s):φ x∈CD φ s:=by
 obtain⟨k,I,e⟩:=Fn.mp F;have hp:=JF P hs;by_cases q:k+1<DH φ s
 ·exact Fn.mpr ⟨k+1,q,by rw[<-e];rfl⟩
 ·have:k+1=DH φ s:=by lia
  refine Fn.mpr ⟨0,hp.1,?_⟩;rw[<-e];show s=BM φ (k+1) s;rw[this,hp.2.1]
theorem aP(hs:AH n s)(F:AH n x)(h:φ x∈CD φ s):x∈CD φ s:=by
 obtain⟨k,J,e⟩:=Fn.mp h;have hp:=JF P hs;cases k with
 |succ k=>exact Fn.mpr ⟨k,by lia,P.inj _ _ (Ef P hs k) F e⟩
 |zero =>
  have I:DH φ s-1+1=DH φ s:=by have:=hp.1;lia
  refine Fn.mpr ⟨DH φ s-1,by lia,P.inj _ _ (Ef P hs _) F ?_⟩;rw[<-e];show BM φ (DH φ s-1+1) s=s;rw[I];exact hp.2.1
theorem Yc{S:List Int}(hs:AH n s)(I:∀x,AH n x->φ x∈S->x∈S)(h:s∉S):∀x∈CD φ s,x∉S:=by
 intro x F;obtain⟨k,J,e⟩:=Fn.mp F;subst e;clear F J
 induction k with
 |zero=>exact h
 |succ k ih=>exact λz=>ih (I _ (Ef P hs k) z)
omit P in
open Classical in
def A8(φ:Int->Int):Nat->List (List Int)
 |0=>[]
 |i+1=>if (i:Int)∈(A8 φ i).flatten then A8 φ i else A8 φ i++[CD φ i]
omit P in
theorem Ya(h:(i:Int)∈(A8 φ i).flatten):A8 φ (i+1)=A8 φ i:=by
 rw[A8,nF h]
omit P in
theorem YO(h:(i:Int)∉(A8 φ i).flatten):A8 φ (i+1)=A8 φ i++[CD φ i]:=by
 rw[A8,nv h]
omit P in
structure Q0(φ:Int->Int)(n i:Nat)(R:List (List Int)):Prop where
 of:∀r∈R,∃s,AH n s/\s<i/\r=CD φ s/\∀x∈r,s<=x
 nd:R.flatten.Nodup
 all:∀e,0<=e->e<(i:Int)->e∈R.flatten
 XH:R.Pairwise λr r'=>∀s s',r=CD φ s->AH n s->r'=CD φ s'->AH n s'->(∀x∈r,s<=x)->(∀x∈r',s'<=x)->s<s'
theorem Q0.mS{i:Nat}{R:List (List Int)}(h:Q0 φ n i R)(hi:AH n x)(F:φ x∈R.flatten):x∈R.flatten:=by
 obtain⟨r,I,F⟩:=oC.mp F;obtain⟨s,hs,_,e,_⟩:=h.of r I;subst e;exact oC.mpr ⟨_,I,aP P hs hi F⟩
theorem Sg{s':Int}(hs:AH n s)(F:AH n s')(e:CD φ s=CD φ s')(h:∀x∈CD φ s,s<=x)(h':∀x∈CD φ s',s'<=x):s=s':=by
 have h1:=h' s (e ▸ LD P hs);have h2:=h s' (e ▸ LD P F)
 lia
theorem Hs:∀i,i<=n->Q0 φ n i (A8 φ i)
 |0,_=>⟨λr h=>by simp[A8]at h,by simp[A8],λe h1 h2=>by lia,by simp[A8]⟩
 |i+1,hi=>by
  have F:=Hs i (by lia);have hs:AH n (i:Int):=⟨by lia,by lia⟩;unfold A8;by_cases q:(i:Int)∈(A8 φ i).flatten
  ·rw[nF q];refine⟨λr hr=>?_,F.nd,λe h1 h2=>?_,F.XH⟩
   ·obtain⟨s,a,b,c,d⟩:=F.of r hr;exact⟨s,a,by lia,c,d⟩
   ·by_cases z:e=i
    ·rw[z];exact q
    ·exact F.all e h1 (by lia)
  ·rw[nv q];have O:=Yc P hs (λx I h=>F.mS P I h) q;have aa:∀x∈CD φ (i:Int),(i:Int)<=x:=λx I=>by
    rcases tE x i with z|z
    ·exact absurd (F.all x (Nd P hs I).1 z) (O x I)
    ·exact z
   exists λr hr=>?_,?_,λe h1 h2=>?_
   ·rcases nM.mp hr with hr|hr
    ·obtain⟨s,a,b,c,d⟩:=F.of r hr;exact⟨s,a,by lia,c,d⟩
    ·have e:r=CD φ (i:Int):=by simpa using hr
     subst e;exact⟨i,hs,by lia,U,aa⟩
   ·rw[pX,pP];refine⟨F.nd,by simpa using gY P hs,λx I y hy e=>?_⟩;subst e;exact O x (by simpa using hy) I
   ·rw[pX,nM];by_cases z:e=i
    ·rw[z];right;simpa using LD P hs
    ·left;exact F.all e h1 (by lia)
   ·rw[List.pairwise_append];refine⟨F.XH,List.pairwise_singleton ..,λr hr r' ab s s' e ad e' ac l l'=>?_⟩;have er:r'=CD φ (i:Int):=by simpa using ab
    obtain⟨t,ht,ae,J,lt⟩:=F.of r hr;have h1:s=t:=Sg P ad ht (e.symm.trans J) (e ▸ l) (J ▸ lt);have h2:s'=(i:Int):=Sg P ac hs (e'.symm.trans er) (e' ▸ l') aa
    lia
theorem Xr:(A8 φ n).flatten.length=n:=by
 have h:=Hs P n (nG _);have h1:=HK n _ h.nd λx F=>by
  obtain⟨r,J,F⟩:=oC.mp F;obtain⟨s,hs,_,e,_⟩:=h.of r J;subst e;exact Nd P hs F
 have h2:((nz n).map (λk:Nat=>(k:Int))).length<=(A8 φ n).flatten.length:=by
  have I:((nz n).map (λk:Nat=>(k:Int))).Nodup:=by
   unfold tQ;rw[rf];exact tw (λ{a b} h=>by lia) (tr (n:=n))
  refine Na _ _ I ?_;intro x F;obtain⟨k,O,e⟩:=nS.mp F
  have:=oJ.mp O
  exact h.all x (by lia) (by lia)
 rw[nc,oX]at h2
 lia
end
end Mth
namespace Mth
variable {e:Int}{L:List (Int×Int)}
def FT(row:List Int)(k:Nat):Int:=row.getD (if k=0 then row.length-1 else k-1) 0
def Bd(row:List Int):List (Int×Int):=(nz row.length).map λk=>(row.getD k 0,FT row k)
def BI(ts:List (List Int)):List (Int×Int):=(ts.map Bd).flatten
theorem DW(row:List Int):(nz row.length).map (λk=>row.getD k 0)=row:=by
 refine wC (by simp) λi h1 h2=>?_
 simp[yv,h2]
theorem Pt(row:List Int):(Bd row).map (·.1)=row:=by
 unfold Bd;rw[pC];exact DW row
theorem TV(row:List Int):(Bd row).length=row.length:=by simp[Bd]
theorem ZP(r:List Int)(l:Int):(Bd (r++[l])).map (·.2)=l :: r:=by
 unfold Bd;rw[pC];have F:(r++[l]).length=r.length+1:=by simp
 rw[F,qC,nK,pC];congr 1
 ·show FT (r++[l]) 0=l;unfold FT;rw[nF rfl,F];simp[yv]
 ·refine wC (by simp) λi h1 h2=>?_
  simp[FT,yv,nX h2,h2]
theorem T9(row:List Int):((Bd row).map (·.2)).Perm row:=by
 rcases List.eq_nil_or_concat row with h|⟨r,l,h⟩
 ·subst h;exact .nil
 ·rw[List.concat_eq_append]at h;subst h;rw[ZP];exact(List.perm_append_singleton l r).symm
theorem GH:∀ts:List (List Int),(BI ts).map (·.1)=ts.flatten
 |[]=>rfl
 |r :: ts=>by
  have F:=GH ts;unfold BI at *;rw[nK,oN,nY,Pt,F,oN]
theorem K8:∀ts:List (List Int),((BI ts).map (·.2)).Perm ts.flatten
 |[]=>.nil
 |r :: ts=>by
  have F:=K8 ts;unfold BI at *;rw[nK,oN,nY,oN];exact(T9 r).append F
theorem YI(ts:List (List Int))(r:List Int):BI (ts++[r])=BI ts++Bd r:=by simp[BI]
def lk(L:List (Int×Int))(e:Int):Option Int:=(L.find? λp=>decide (p.1=e)).map (·.2)
theorem KA(h:lk L e=some v):(e,v)∈L:=by
 unfold lk at h;cases q:L.find? λp=>decide (p.1=e)with
 |none=>rw[q]at h;cases h
 |some p =>
  rw[q]at h;have h1:=wt q;have h2:=zR q;have I:p.1=e:=of_decide_eq_true h2;have F:p.2=v:=nV h;rw[<-I,<-F];exact h1
theorem NT(h:e∈L.map (·.1)):∃v,lk L e=some v:=by
 obtain⟨p,hp,F⟩:=nS.mp h;unfold lk;cases q:L.find? λp=>decide (p.1=e)with
 |none =>
  have:=List.find?_eq_none.mp q p hp
  exact absurd (qm F) this
 |some p=>exact⟨p.2,U⟩
theorem fG(h:e∉L.map (·.1)):lk L e=none:=by
 cases q:lk L e with
 |none=>rfl
 |some v=>exact absurd (nS.mpr ⟨_,KA q,U⟩) h
theorem Pf{α β:Type}{f:α->β}:∀{L:List α},(L.map f).Nodup->∀{p q},p∈L->q∈L->f p=f q->p=q
 |[],_,p,_,hp,_,_=>absurd hp (by simp)
 |a :: L,h,p,q,hp,hq,e=>by
  rw[nK,pj]at h;rcases nZ.mp hp with h1|h1
  ·rcases nZ.mp hq with h2|h2
   ·rw[h1,h2]
   ·exact(h.1 (nS.mpr ⟨q,h2,by rw[<-e,h1]⟩)).elim
  ·rcases nZ.mp hq with h2|h2
   ·exact(h.1 (nS.mpr ⟨p,h1,by rw[e,h2]⟩)).elim
   ·exact Pf h.2 h1 h2 e
theorem KQ(I:(L.map (·.1)).Nodup)(h:(e,v)∈L):lk L e=some v:=by
 obtain⟨u,F⟩:=NT (nS.mpr ⟨_,h,U⟩)
 have:=Pf I (KA F) h rfl
 rw[F,(Prod.mk.inj this).2]
structure CY(n:Nat)(ts:List (List Int)):Prop where
 nd:ts.flatten.Nodup
 mem:∀e,e∈ts.flatten↔AH n e
 MD:n%2=0
def AO(e:Int):Int:=if e%2=0 then e+1 else e-1
theorem DR(h:n%2=0)(F:AH n e):AH n (AO e):=by
 unfold AO;obtain⟨h1,h2⟩:=F;split<;>constructor<;>lia
theorem Dm(e:Int):AO (AO e)=e:=by
 unfold AO;split<;>split<;>lia
def AS(ts:List (List Int))(e:Int):Int:=(lk (BI ts) (AO e)).getD 0
section
variable {n:Nat}{ts:List (List Int)}(T:CY n ts)
include T
theorem CY.len:ts.flatten.length=n:=by
 have h1:=HK n _ T.nd λx F=>(T.mem x).mp F
 have h2:((nz n).map (λk:Nat=>(k:Int))).length<=ts.flatten.length:=by
  have I:((nz n).map (λk:Nat=>(k:Int))).Nodup:=by
   unfold tQ;rw[rf];exact tw (λ{a b} h=>by lia) (tr (n:=n))
  refine Na _ _ I λx F=>?_
  obtain⟨k,J,e⟩:=nS.mp F
  have:=oJ.mp J
  exact(T.mem x).mpr ⟨by lia,by lia⟩
 rw[nc,oX]at h2
 lia
theorem CY.lE:(BI ts).length=n:=by
 have:=congrArg rE (GH ts)
 rw[nc,T.len]at this;exact this
theorem CY.keys:((BI ts).map (·.1)).Nodup:=by rw[GH];exact T.nd
theorem CY.Gf(I:AH n e):∃v,lk (BI ts) e=some v/\AH n v:=by
 obtain⟨v,F⟩:=NT (L:=BI ts) (e:=e) (by rw[GH];exact(T.mem e).mpr I);refine⟨v,F,(T.mem v).mp ?_⟩;exact(K8 ts).mem_iff.mp (nS.mpr ⟨_,KA F,U⟩)
theorem CY.N0(F:AH n e):lk (BI ts) (AO e)=some (AS ts e):=by
 obtain⟨v,I,_⟩:=T.Gf (DR T.MD F);unfold AS;rw[I];rfl
theorem CY.CN:JR (AS ts) n:=by
 refine⟨λe he=>?_,λa b J O e=>?_⟩
 ·obtain⟨v,I,hi⟩:=T.Gf (DR T.MD he);unfold AS;rw[I];exact hi
 ·have h1:=KA (T.N0 J);have h2:=KA (T.N0 O);rw[e]at h1;have F:((BI ts).map (·.2)).Nodup:=(K8 ts).nodup_iff.mpr T.nd;have h3:=(Prod.mk.inj (Pf F h1 h2 rfl)).1;rw[<-Dm a,h3,Dm]
end
def DT:Nat->List (List Int)->List (Int×Int)
 |_,[]=>[]
 |i,r :: R=>r.map (λe=>(e,(i:Int)))++DT (i+1) R
theorem Sm:∀(i:Nat) (R:List (List Int)) (r:List Int),DT i (R++[r])=DT i R++r.map λe=>(e,((i+R.length:Nat):Int))
 |i,[],r=>by simp[DT]
 |i,s :: R,r=>by
  rw[qT];unfold DT;rw[Sm (i+1) R r,pG];congr 3
  funext e
  rw[oA,Nat.add_right_comm,Nat.add_assoc]
theorem LM:∀(i:Nat) (R:List (List Int)),(DT i R).map (·.1)=R.flatten
 |_,[]=>rfl
 |i,r :: R=>by
  unfold DT;rw[nY,LM (i+1) R,pC,oN];congr 1;exact aaj (λ_=>rfl) r
theorem D4{α:Type}{R:List α}{r:α}(h:R[j]?=some r):R.take (j+1)=R.take j++[r]:=by
 rw[tD,h];rfl
section
variable {φ:Int->Int}{n:Nat}(P:JR φ n)
include P
theorem fA{s:Int}(hs:AH n s):(CD φ s).headD 0=s:=by
 have h:=(JF P hs).1;unfold CD EC;obtain⟨m,e⟩:∃m,DH φ s=m+1:=⟨DH φ s-1,by lia⟩;rw[e,qC,nK];rfl
theorem Mt{r:List Int}(h:r∈A8 φ n):AH n (r.headD 0)/\r=CD φ (r.headD 0)/\∀x∈r,r.headD 0<=x:=by
 obtain⟨s,hs,_,e,l⟩:=(Hs P n (nG _)).of r h;subst e;rw[fA P hs];exact⟨hs,U,l⟩
theorem Mx:(A8 φ n).flatten.Nodup:=(Hs P n (nG _)).nd
theorem K9{x:Int}:x∈(A8 φ n).flatten↔AH n x:=by
 constructor
 ·intro h;obtain⟨r,I,F⟩:=oC.mp h;obtain⟨h1,h2,_⟩:=Mt P I;rw[h2]at F;exact Nd P h1 F
 ·intro h;exact(Hs P n (nG _)).all x h.1 h.2
end
end Mth
namespace Mth
variable {a s x:Int}{φ:Int->Int}{f:Int->Rat}{A B ts:List (List Int)}{r r' t1 t2:List Int}{hs:List Nat}{p:Nat}
theorem KI{l m:List Int}:(l++m).Nodup↔l.Nodup/\m.Nodup/\∀x∈l,x∉m:=by
 rw[pP];constructor
 ·rintro⟨a,b,c⟩;exact⟨a,b,λx F I=>c x F x I rfl⟩
 ·rintro⟨a,b,c⟩;exact⟨a,b,λx F y J e=>c x F (e ▸ J)⟩
theorem fU:AH (n+1) x↔AH n x\/x=n:=by
 constructor
 ·rintro⟨a,b⟩;rcases tE x n with h|h
  ·exact .inl ⟨a,h⟩
  ·right;lia
 ·rintro(⟨a,b⟩|rfl)
  ·exact⟨a,by lia⟩
  ·exact⟨by lia,by lia⟩
def cp:Int->List Int->List (Int×Int)
 |_,[]=>[]
 |y,a :: l=>(a,y) :: cp a l
theorem VZ:∀(y:Int) (l:List Int),(cp y l).length=l.length
 |_,[]=>rfl
 |_,a :: l=>by simp[cp,VZ a l]
theorem WG:∀(y:Int) (l:List Int) (k:Nat),k<l.length->(cp y l)[k]?=some (l.getD k 0,if k=0 then y else l.getD (k-1) 0)
 |_,a :: l,0,_=>rfl
 |y,a :: l,k+1,h=>by
  show(cp a l)[k]?=_;rw[WG a l k (by simpa using h)];cases k with
  |zero=>rfl
  |succ k=>simp
theorem GO(row:List Int):Bd row=cp (row.getLastD 0) row:=by
 refine List.ext_getElem? λk=>?_
 by_cases h:k<row.length
 ·rw[WG _ _ _ h];unfold Bd FT;rw[nJ,pY h];show some (row.getD k 0,row.getD (if k=0 then row.length-1 else k-1) 0)=_;congr 2;by_cases z:k=0
  ·rw[nF z,nF z];rw[pF,List.getLast?_eq_getElem?,nq]
  ·rw[nv z,nv z]
 ·rw[pW (by rw[TV];lia),pW (by rw[VZ];lia)]
theorem OC:∀(y:Int) (l m:List Int),cp y (l++m)=cp y l++cp (l.getLastD y) m
 |_,[],m=>rfl
 |y,a :: l,m=>by
  show(a,y) :: cp a (l++m)=(a,y) :: (cp a l++cp ((a :: l).getLastD y) m);rw[OC a l m,show(a :: l).getLastD y=l.getLastD a by cases l<;>rfl]
theorem Qo(ρ:Int->Int):∀(y:Int) (l:List Int),cp (ρ y) (l.map ρ)=(cp y l).map λp=>(ρ p.1,ρ p.2)
 |_,[]=>rfl
 |y,a :: l=>by
  show(ρ a,ρ y) :: cp (ρ a) (l.map ρ)=_;rw[Qo ρ a l];rfl
def pr(ts:List (List Int))(x:Int):Int:=(lk (BI ts) x).getD 0
theorem CA(ts:List (List Int))(e:Int):AS ts e=pr ts (AO e):=rfl
theorem EB(F:ts.flatten.Nodup)(h:(x,y)∈BI ts):pr ts x=y:=by
 unfold pr;rw[KQ (by rw[GH];exact F) h];rfl
theorem IH(I:ts.flatten.Nodup)(h:x∈ts.flatten):(x,pr ts x)∈BI ts:=by
 rw[<-GH]at h;obtain⟨v,F⟩:=NT h
 have:=KA F
 unfold pr;rw[F];exact this
theorem LC(A B:List (List Int)):BI (A++B)=BI A++BI B:=by simp[BI]
theorem Jn(A B:List (List Int))(r:List Int):BI (A++r :: B)=BI A++(Bd r++BI B):=by simp[BI]
theorem Hy(A B:List (List Int))(r:List Int):(A++r :: B).flatten=A.flatten++(r++B.flatten):=by simp
theorem VY(J:(A++(t1++s :: t2) :: B).flatten.Nodup)(he:e∉(A++(t1++s :: t2) :: B).flatten):
  (A++(t1++e :: s :: t2) :: B).flatten.Nodup/\(∀x,x∈(A++(t1++e :: s :: t2) :: B).flatten↔x∈(A++(t1++s :: t2) :: B).flatten\/x=e) /\
  pr (A++(t1++e :: s :: t2) :: B) s=e/\pr (A++(t1++e :: s :: t2) :: B) e=pr (A++(t1++s :: t2) :: B) s /\
  ∀x,x∈(A++(t1++s :: t2) :: B).flatten->x≠s->pr (A++(t1++e :: s :: t2) :: B) x=pr (A++(t1++s :: t2) :: B) x:=by
 have p:uj (A++(t1++e :: s :: t2) :: B).flatten (e :: (A++(t1++s :: t2) :: B).flatten):=by
  rw[Hy,Hy,show A.flatten++(t1++e :: s :: t2++B.flatten)=(A.flatten++t1)++e :: (s :: t2++B.flatten) by simp];exact zE.trans (uj.cons _ (uj.of_eq (by simp)))
 have F:(A++(t1++e :: s :: t2) :: B).flatten.Nodup:=p.nodup_iff.mpr (pj.mpr ⟨he,J⟩);have O:(t1++e :: s :: t2).getLastD 0=(t1++s :: t2).getLastD 0:=by
  rw[pF,pF,tR,tR];rw[show(e :: s :: t2).getLast?=(s :: t2).getLast? by simp[List.getLast?_cons_cons]]
 generalize hy:(t1++s :: t2).getLastD 0=y at O;have r1:Bd (t1++s :: t2)=cp y t1++(s,t1.getLastD y) :: cp s t2:=by rw[GO,hy,OC];rfl
 have I:Bd (t1++e :: s :: t2)=cp y t1++(e,t1.getLastD y) :: (s,e) :: cp s t2:=by rw[GO,O,OC];rfl
 have ps:pr (A++(t1++s :: t2) :: B) s=t1.getLastD y:=EB J (by rw[Jn,r1];simp);refine⟨F,λx=>p.mem_iff.trans (by simp only[nZ];exact or_comm),EB F (by rw[Jn,I];simp),?_,λx hx xs=>?_⟩
 ·rw[ps];exact EB F (by rw[Jn,I];simp)
 ·refine EB F ?_;have m:=IH J hx;rw[Jn,r1]at m;rw[Jn,I];simp only[nM,nZ,Prod.mk.injEq]at m ⊢;rcases m with z|(z|z|z)|z
  ·exact .inl z
  ·exact .inr (.inl (.inl z))
  ·exact absurd z.1 xs
  ·exact .inr (.inl (.inr (.inr (.inr z))))
  ·exact .inr (.inr z)
theorem iX{f:Int}(nd:(A++t :: B).flatten.Nodup)(ha:a∈t)(hf:f∉(A++t :: B).flatten):
  (A++(t.map λx=>if x=a then f else x) :: B).flatten.Nodup/\(∀x,x∈(A++(t.map λx=>if x=a then f else x) :: B).flatten↔(x∈(A++t :: B).flatten/\x≠a)\/x=f) /\
  pr (A++(t.map λx=>if x=a then f else x) :: B) f=(if pr (A++t :: B) a=a then f else pr (A++t :: B) a) /\
  ∀x,x∈(A++t :: B).flatten->x≠a->pr (A++(t.map λx=>if x=a then f else x) :: B) x=(if pr (A++t :: B) x=a then f else pr (A++t :: B) x):=by
 generalize hρ:(λx=>if x=a then f else x)=ρ;have ra:ρ a=f:=by rw[<-hρ];simp
 have I:∀x,x≠a->ρ x=x:=λx h=>by rw[<-hρ];simp[h]
 have rr:∀z,(if z=a then f else z)=ρ z:=λz=>by rw[<-hρ]
 rw[Hy]at nd hf;obtain⟨n1,n2,n3⟩:=KI.mp nd;obtain⟨n4,n5,n6⟩:=KI.mp n2;simp only[nM,not_or]at hf;have af:∀x y,x∈t->y∈t->ρ x=ρ y->x=y:=λx y F hy e=>by
  by_cases O:x=a
  ·by_cases J:y=a
   ·rw[O,J]
   ·rw[O,ra,I y J]at e;exact absurd (e ▸ hy) hf.2.1
  ·by_cases J:y=a
   ·rw[J,ra,I x O]at e;exact absurd (e ▸ F) hf.2.1
   ·rwa [I x O,I y J]at e
 have ad:(t.map ρ).Nodup:=by
  unfold tQ;rw[rf];exact ui (λ{x y} F hy h e=>h (af x y F hy e)) n4
 have mm:∀x,x∈t.map ρ↔(x∈t/\x≠a)\/x=f:=λx=>by
  rw[nS];constructor
  ·rintro⟨y,hy,rfl⟩;by_cases J:y=a
   ·right;rw[J,ra]
   ·left;rw[I y J];exact⟨hy,J⟩
  ·rintro(⟨h1,h2⟩|rfl)
   ·exact⟨x,h1,I x h2⟩
   ·exact⟨a,ha,ra⟩
 have aA:a∉A.flatten:=λz=>n3 a z (by simp[ha])
 have aB:a∉B.flatten:=λz=>n6 a ha z
 have aa:(A++(t.map ρ) :: B).flatten.Nodup:=by
  rw[Hy,KI,KI];refine⟨n1,⟨ad,n5,λx F=>?_⟩,λx F=>?_⟩
  ·rcases(mm x).mp F with z|z
   ·exact n6 x z.1
   ·rw[z];exact hf.2.2
  ·intro z;rcases nM.mp z with z|z
   ·rcases(mm x).mp z with w|w
    ·exact n3 x F (by simp[w.1])
    ·exact hf.1 (w ▸ F)
   ·exact n3 x F (by simp[z])
 have row:Bd (t.map ρ)=(Bd t).map λp=>(ρ p.1,ρ p.2):=by
  rw[GO,GO,<-Qo];congr 1;cases t with
  |nil=>cases ha
  |cons b l =>
   rw[pF,pF,y8];rw[uk];rfl
 have ae:∀{x y},(x,y)∈BI (A++t :: B)->x∈(A++t :: B).flatten/\y∈(A++t :: B).flatten:=λ{x y} h=>by
  constructor
  ·rw[<-GH];exact nS.mpr ⟨_,h,U⟩
  ·exact(K8 _).mem_iff.mp (nS.mpr ⟨_,h,U⟩)
 have ac:(A++t :: B).flatten.Nodup:=by rw[Hy];exact nd
 have ab:∀{L:List (List Int)} {x y:Int},(x,y)∈BI L->y∈L.flatten:=λ{L x y} h=>(K8 _).mem_iff.mp (nS.mpr ⟨_,h,U⟩)
 have go:∀x y,(x,y)∈BI (A++t :: B)->(ρ x,ρ y)∈BI (A++(t.map ρ) :: B):=λx y h=>by
  have F:=(ae h).1;rw[Jn]at h ⊢;rw[row];rcases nM.mp h with z|z
  ·have xA:x∈A.flatten:=by rw[<-GH];exact nS.mpr ⟨_,z,U⟩
   have yA:=ab z;rw[I x (λe=>aA (e ▸ xA)),I y (λe=>aA (e ▸ yA))];exact pU _ z
  rcases nM.mp z with z|z
  ·exact oI _ (pU _ (nS.mpr ⟨_,z,U⟩))
  ·have xB:x∈B.flatten:=by rw[<-GH];exact nS.mpr ⟨_,z,U⟩
   have yB:=ab z;rw[I x (λe=>aB (e ▸ xB)),I y (λe=>aB (e ▸ yB))];exact oI _ (oI _ z)
 have am:a∈(A++t :: B).flatten:=by rw[Hy];simp[ha]
 refine⟨aa,λx=>?_,?_,λx F O=>?_⟩
 ·rw[Hy,Hy];simp only[nM,mm];constructor
  ·rintro(z|(z|z)|z)
   ·exact .inl ⟨.inl z,λe=>aA (e ▸ z)⟩
   ·exact .inl ⟨.inr (.inl z.1),z.2⟩
   ·exact .inr z
   ·exact .inl ⟨.inr (.inr z),λe=>aB (e ▸ z)⟩
  ·rintro(⟨z|z|z,w⟩|z)
   ·exact .inl z
   ·exact .inr (.inl (.inl ⟨z,w⟩))
   ·exact .inr (.inr z)
   ·exact .inr (.inl (.inr z))
 ·rw[rr]
  have:=go _ _ (IH ac am)
  rw[ra]at this;exact EB aa this
 ·rw[rr]
  have:=go _ _ (IH ac F)
  rw[I x O]at this;exact EB aa this
theorem aC(J:ts.flatten.Nodup)(O:a∉ts.flatten):(ts++[[a]]).flatten.Nodup/\pr (ts++[[a]]) a=a/\∀x,x∈ts.flatten->pr (ts++[[a]]) x=pr ts x:=by
 have I:(ts++[[a]]).flatten.Nodup:=by
  rw[pX,KI];exact⟨J,by simp,λx F h=>O (by simp at h;exact h ▸ F)⟩
 refine⟨I,EB I ?_,λx F=>EB I ?_⟩
 ·rw[LC];exact oI _ (by simp[BI,GO,cp])
 ·rw[LC];exact pU _ (IH J F)
theorem bE(J:ts.flatten.Nodup)(O:a∉ts.flatten)(hb:b∉ts.flatten)(ab:a≠b):(ts++[[a,b]]).flatten.Nodup/\pr (ts++[[a,b]]) a=b/\pr (ts++[[a,b]]) b=a/\∀x,x∈ts.flatten->pr (ts++[[a,b]]) x=pr ts x:=by
 have I:(ts++[[a,b]]).flatten.Nodup:=by
  rw[pX,KI];refine⟨J,by simp[ab],λx F h=>?_⟩;simp at h;rcases h with z|z
  ·exact O (z ▸ F)
  ·exact hb (z ▸ F)
 refine⟨I,EB I ?_,EB I ?_,λx F=>EB I ?_⟩
 ·rw[LC];exact oI _ (by simp[BI,GO,cp])
 ·rw[LC];exact oI _ (by simp[BI,GO,cp])
 ·rw[LC];exact pU _ (IH J F)
structure Du(φ:Int->Int)(n:Nat):Prop where
 Cs:∀S:Int->Prop,(∀x,AH n x->(S x↔S (φ x)))->(∀k:Nat,1<=k->2*k+1<n->(S (2*(k:Int))↔S (2*(k:Int)+1)))->S 1->∀x,AH n x->S x
section
variable {φ ψ:Int->Int}{n:Nat}{a b:Int}
theorem DA:AH (n+2) x↔AH n x\/x=n\/x=(n:Int)+1:=by
 constructor
 ·rintro⟨h1,h2⟩;push_cast at h2;by_cases z:x<n
  ·exact .inl ⟨h1,z⟩
  ·lia
 ·rintro(⟨h1,h2⟩|rfl|rfl)
  ·exact⟨h1,by push_cast;lia⟩
  ·exact⟨by lia,by push_cast;lia⟩
  ·exact⟨by lia,by push_cast;lia⟩
theorem Du.Kk(D:Du φ n)(ab:∀x,AH n x->AH n (φ x))(n2:2<=n)(ha:AH n a)(h1:ψ a=n)(h2:ψ n=(n:Int)+1)(h3:ψ ((n:Int)+1)=φ a)(h4:∀x,AH n x->x≠a->ψ x=φ x):Du ψ (n+2):=by
 refine⟨λS I hr h0=>?_⟩
 ·have up:∀{x:Int},AH n x->AH (n+2) x:=λh=>DA.mpr (.inl h)
  have hN:S n↔S ((n:Int)+1):=by have:=I n (DA.mpr (.inr (.inl rfl)));rwa [h2]at this
  have aa:S ((n:Int)+1)↔S (φ a):=by have:=I ((n:Int)+1) (DA.mpr (.inr (.inr rfl)));rwa [h3]at this
  have J:S a↔S n:=by have:=I a (up ha);rwa [h1]at this
  have O:=D.Cs S (λx F=>by
   by_cases e:x=a
   ·rw[e];exact J.trans (hN.trans aa)
   ·have:=I x (up F);rwa [h4 x F e]at this) (λk k1 k2=>hr k k1 (by lia)) h0
  intro x F;rcases DA.mp F with z|rfl|rfl
  ·exact O x z
  ·exact J.mp (O a ha)
  ·exact hN.mp (J.mp (O a ha))
theorem UH{S:Int->Prop}(J:∀x,AH n x->(S x↔S (φ x)))(F:∀x,AH n x->AH n (φ x))(I:AH n a):∀k,AH n (BM φ k a)/\(S a↔S (BM φ k a))
 |0=>⟨I,Iff.rfl⟩
 |k+1=>by
  obtain⟨h1,h2⟩:=UH J F I k;exact⟨F _ h1,h2.trans (J _ h1)⟩
theorem Du.KU(D:Du φ n)(ad:∀x,AH n x->AH n (φ x))(n2:2<=n)(ev:n%2=0)(ha:AH n a)(kb:∃k,BM φ k a=b)(h1:a≠b->ψ a=n)(h2:a≠b->ψ n=φ b)(ae:a=b->ψ n=n)(h3:ψ b=(n:Int)+1)(h5:ψ ((n:Int)+1)=φ a)(h4:∀x,AH n x->x≠a->x≠b->ψ x=φ x):Du ψ (n+2):=by
 obtain⟨k,hk⟩:=kb;have hb:AH n b:=by rw[<-hk];exact(UH (S:=λ_=>True) (λ_ _=>Iff.rfl) ad ha k).1
 refine⟨λS F hr h0=>?_⟩
 ·have up:∀{x:Int},AH n x->AH (n+2) x:=λh=>DA.mpr (.inl h)
  have hR:S n↔S ((n:Int)+1):=by
   have:=hr (n / 2) (by lia) (by lia)
   rwa [show 2*((n / 2:Nat):Int)=(n:Int) by lia]at this
  have ac:S ((n:Int)+1)↔S (φ a):=by have:=F ((n:Int)+1) (DA.mpr (.inr (.inr rfl)));rwa [h5]at this
  have I:S b↔S ((n:Int)+1):=by have:=F b (up hb);rwa [h3]at this
  have aa:=D.Cs S (λx J=>by
   by_cases O:x=b
   ·by_cases ab:a=b
    ·rw[O,<-ab];rw[<-ab]at I;exact I.trans ac
    ·have hN:S n↔S (φ b):=by have:=F n (DA.mpr (.inr (.inl rfl)));rwa [h2 ab]at this
     rw[O];exact I.trans (hR.symm.trans hN)
   ·by_cases ea:x=a
    ·have hA:S a↔S n:=by have:=F a (up ha);rwa [h1 (λe=>O (ea.trans e))]at this
     rw[ea];exact hA.trans (hR.trans ac)
    ·have:=F x (up J);rwa [h4 x J ea O]at this) (λk k1 k2=>hr k k1 (by lia)) h0
  intro x J;rcases DA.mp J with z|rfl|rfl
  ·exact aa x z
  ·exact hR.mpr (I.mp (aa b hb))
  ·exact I.mp (aa b hb)
theorem Du.BJ(D:Du φ n)(ab:∀x,AH n x->AH n (φ x))(n2:2<=n)(hq:AH n q)(hp:AH n pe)(h1:ψ q=n)(h2:ψ n=(if φ q=pe then (n:Int)+1 else φ q))(h3:ψ ((n:Int)+1)=pe)(h4:∀x,AH n x->x≠q->ψ x=(if φ x=pe then (n:Int)+1 else φ x)):Du ψ (n+2):=by
 refine⟨λS I hr h0=>?_⟩
 ·have O:∀{x:Int},AH n x->AH (n+2) x:=λh=>DA.mpr (.inl h)
  have aa:S ((n:Int)+1)↔S pe:=by have:=I ((n:Int)+1) (DA.mpr (.inr (.inr rfl)));rwa [h3]at this
  have kk:∀x,(S (if φ x=pe then (n:Int)+1 else φ x)↔S (φ x)):=λx=>by
   by_cases e:φ x=pe
   ·rw[nF e,e];exact aa
   ·rw[nv e]
  have hQ:S q↔S n:=by have:=I q (O hq);rwa [h1]at this
  have J:=D.Cs S (λx F=>by
   by_cases e:x=q
   ·have hN:=I n (DA.mpr (.inr (.inl rfl)));rw[h2]at hN;rw[e];exact hQ.trans (hN.trans (kk q))
   ·have:=I x (O F)
    rw[h4 x F e]at this;exact this.trans (kk x)) (λk k1 k2=>hr k k1 (by lia)) h0
  intro x F;rcases DA.mp F with z|rfl|rfl
  ·exact J x z
  ·exact hQ.mp (J q hq)
  ·exact aa.mpr (J pe hp)
def Ck(ts:List (List Int))(n:Nat):Prop:=∀f:Int->Rat,(∀x,AH n x->f (AO x)=- f x)->(∀t∈ts,(t.map f).sum=0)->∃p:Int->Rat,(∀x,AH n x->p (AS ts x)=p x)/\∀x,AH n x->p x-p (AO x)=f x
theorem gf{p:Nat->Prop}:∀k,p k->∃k,p k/\∀j,j<k->¬p j:=by
 intro k
 induction k using Nat.strongRecOn with
 |ind k ih =>
  intro h;by_cases z:∃j,j<k/\p j
  ·obtain⟨j,h1,h2⟩:=z;exact ih j h1 h2
  ·exact⟨k,h,λj F q=>z ⟨j,F,q⟩⟩
theorem Th(φ:Int->Int)(s:Int)(i:Nat):∀k,BM φ k (BM φ i s)=BM φ (k+i) s
 |0=>by rw[tJ];rfl
 |k+1=>by
  rw[show k+1+i=(k+i)+1 by lia];show φ (BM φ k (BM φ i s))=φ (BM φ (k+i) s);rw[Th φ s i k]
def Cm(φ:Int->Int)(a:Int):Nat->Int->Rat
 |0,_=>0
 |k+1,x=>Cm φ a k x+if BM φ (k+1) a=x then 1 else 0
theorem Tz(F:JR φ n)(J:AH n a)(I:AH n x):∀k,Cm φ a k (φ x)=Cm φ a k x+(if x=a then 1 else 0)-(if BM φ k a=x then 1 else 0)
 |0=>by
  show(0:Rat)=0+(if x=a then 1 else 0)-(if a=x then 1 else 0);by_cases e:x=a
  ·rw[nF e,nF e.symm];grind
  ·rw[nv e,nv (λz=>e z.symm)];grind
 |k+1=>by
  show Cm φ a k (φ x)+(if φ (BM φ k a)=φ x then 1 else 0)=Cm φ a k x+(if BM φ (k+1) a=x then 1 else 0)+(if x=a then 1 else 0)-(if BM φ (k+1) a=x then 1 else 0);rw[Tz F J I k];by_cases e:BM φ k a=x
  ·rw[nF e,nF (show φ (BM φ k a)=φ x by rw[e])];grind
  ·rw[nv e,nv (show ¬φ (BM φ k a)=φ x from λz=>e (F.inj _ _ (Ef F J k) I z))];grind
theorem fb(O:JR φ n)(I:AH n a)(kb:∃k,BM φ k a=b):∃χ:Int->Rat,(∀x,AH n x->χ (φ x)=χ x+(if x=a then 1 else 0)-(if x=b then 1 else 0))/\(a≠b->χ b=χ a+1):=by
 obtain⟨J,aa⟩:=kb;obtain⟨k,F,mn⟩:=gf (p:=λk=>BM φ k a=b) J aa;have st:∀x,AH n x->Cm φ a k (φ x)=Cm φ a k x+(if x=a then 1 else 0)-(if x=b then 1 else 0):=λx hx=>by
  rw[Tz O I hx k,F];by_cases e:x=b
  ·rw[nF e,nF (show b=x from e.symm)]
  ·rw[nv e,nv (show ¬b=x from λz=>e z.symm)]
 refine⟨Cm φ a k,st,λab=>?_⟩;have go:∀j,j<k->Cm φ a k (BM φ (j+1) a)=Cm φ a k a+1:=by
  intro j
  induction j with
  |zero =>
   intro _;show Cm φ a k (φ a)=_;rw[st a I,nF rfl,nv ab];grind
  |succ j ih =>
   intro hj;show Cm φ a k (φ (BM φ (j+1) a))=_;have e1:BM φ (j+1) a≠a:=λe=>mn (k-(j+1)) (by lia) (by
    show BM φ (k-(j+1)) a=b
    have:=Th φ a (j+1) (k-(j+1))
    rw[e,show k-(j+1)+(j+1)=k by lia,F]at this;exact this)
   rw[st _ (Ef O I _),nv e1,nv (mn (j+1) (by lia)),ih (by lia)];grind
 have J:0<k:=by
  rcases yD k with z|z
  ·subst z;exact absurd F ab
  ·exact z
 have:=go (k-1) (by lia)
 rw[show k-1+1=k by lia,F]at this;exact this
theorem QB{l m:List Rat}(h:l.Perm m):l.sum=m.sum:=by
 induction h with
 |nil=>rfl
 |cons a _ ih=>rw[ow,ow,ih]
 |swap a b l=>rw[ow,ow,ow,ow];grind
 |trans _ _ i1 i2=>exact i1.trans i2
theorem J1:∀t:List Int,(t.map λx=>f x+g x).sum=(t.map f).sum+(t.map g).sum
 |[]=>by simp;grind
 |a :: t=>by rw[nK,nK,nK,ow,ow,ow,J1 t];grind
theorem LG(c:Rat):∀t:List Int,(t.map λx=>c*f x).sum=c*(t.map f).sum
 |[]=>by simp
 |a :: t=>by rw[nK,nK,ow,ow,LG c t];grind
theorem QC{t:List Int}(h:∀x∈t,f x=g x):(t.map f).sum=(t.map g).sum:=by rw[o7 h]
theorem QW:∀{t:List Int},t.Nodup->(t.map λx=>if x=s then (1:Rat) else 0).sum=if s∈t then 1 else 0
 |[],_=>by simp
 |a :: t,nd=>by
  rw[pj]at nd;rw[nK,ow,QW nd.2];by_cases e:a=s
  ·subst e;rw[nF rfl,nv nd.1,nF (by simp)];grind
  ·rw[nv e];by_cases z:s∈t
   ·rw[nF z,nF (by simp[z])];grind
   ·rw[nv z,nv (show ¬s∈a :: t from λq=>(nZ.mp q).elim (λq=>e q.symm) z)];grind
theorem Tw(I:ts.flatten.Nodup)(F:t∈ts)(g:Int->Rat):(t.map λx=>g (pr ts x)).sum=(t.map g).sum:=by
 have h1:(t.map λx=>g (pr ts x))=((Bd t).map λp=>g p.2):=by
  conv=>lhs;rw[<-Pt t]
  rw[pC];refine o7 λp hp=>?_
  show g (pr ts p.1)=g p.2;rw[EB I (x:=p.1) (y:=p.2) (oC.mpr ⟨Bd t,nS.mpr ⟨t,F,U⟩,hp⟩)]
 rw[h1,show((Bd t).map λp=>g p.2)=((Bd t).map (·.2)).map g by rw[pC];rfl];exact QB ((T9 t).map g)
variable {ts ts':List (List Int)}
def Fv(p:Int->Rat)(n:Nat)(u v:Rat)(x:Int):Rat:=if x=(n:Int) then u else if x=(n:Int)+1 then v else p x
theorem ID(p:Int->Rat)(u v:Rat):Fv p n u v (n:Int)=u:=nF rfl
theorem IC(p:Int->Rat)(u v:Rat):Fv p n u v ((n:Int)+1)=v:=by unfold Fv;rw[nv (by lia),nF rfl]
theorem D7(p:Int->Rat)(u v:Rat)(h:AH n x):Fv p n u v x=p x:=by unfold Fv;rw[nv (λe=>by have:=h.2;lia),nv (λe=>by have:=h.2;lia)]
theorem Ck.BH{p:Int->Rat}(J:n%2=0)(O:∀x,AH (n+2) x->f (AO x)=- f x)(d:∀x,AH n x->p x-p (AO x)=f x)(h:u-v=f n):∀x,AH (n+2) x->Fv p n u v x-Fv p n u v (AO x)=f x:=λx I=>by
 have F:AO (n:Int)=(n:Int)+1:=by unfold AO;rw[nF (by lia)]
 have o2:AO ((n:Int)+1)=n:=by unfold AO;rw[nv (by lia)];lia
 rcases DA.mp I with z|rfl|rfl
 ·rw[D7 _ _ _ z,D7 _ _ _ (DR J z)];exact d x z
 ·rw[F,ID,IC];exact h
 ·have:=O n (DA.mpr (.inr (.inl rfl)))
  rw[F]at this;rw[o2,ID,IC,this]
  grind
theorem Rv(h:AH n x):AH (n+2) x:=DA.mpr (.inl h)
theorem Ck.Kk (D:Ck ts n)(ev:n%2=0)(O:∀x,AH n x->AH n (AS ts x))(J:AH n a)(h1:AS ts' a=n)(h2:AS ts' n=(n:Int)+1)(h3:AS ts' ((n:Int)+1)=AS ts a)(h4:∀x,AH n x->x≠a->AS ts' x=AS ts x)
  (hb:∀f:Int->Rat,(∀t∈ts',(t.map f).sum=0)->f ((n:Int)+1)=0/\(f n=0->∀t∈ts,(t.map f).sum=0)):Ck ts' (n+2):=λf I aa=>by
 obtain⟨b1,b2⟩:=hb f aa;have o2:AO ((n:Int)+1)=n:=by unfold AO;rw[nv (by lia)];lia
 have f0:f n=0:=by
  have:=I ((n:Int)+1) (DA.mpr (.inr (.inr rfl)))
  rw[o2,b1]at this;rw[this];grind
 obtain⟨p,i1,d1⟩:=D f (λx F=>I x (Rv F)) (b2 f0);refine⟨Fv p n (p a) (p a),λx F=>?_,Ck.BH ev I d1 (by rw[f0];grind)⟩;rcases DA.mp F with z|rfl|rfl
 ·by_cases e:x=a
  ·rw[e,h1,ID,D7 _ _ _ J]
  ·rw[h4 x z e,D7 _ _ _ (O x z),D7 _ _ _ z];exact i1 x z
 ·rw[h2,ID,IC]
 ·rw[h3,IC,D7 _ _ _ (O a J)];exact i1 a J
theorem Ck.BJ (D:Ck ts n)(J:n%2=0)(ab:∀x,AH n x->AH n (AS ts x))(hp:AH n pe)(h1:AS ts' (AO pe)=n)(h2:AS ts' n=(if AS ts (AO pe)=pe then (n:Int)+1 else AS ts (AO pe)))(h3:AS ts' ((n:Int)+1)=pe)(h4:∀x,AH n x->x≠AO pe->AS ts' x=(if AS ts x=pe then (n:Int)+1 else AS ts x))
  (hb:∀f:Int->Rat,(∀t∈ts',(t.map f).sum=0)->f pe+f n=0/\(f ((n:Int)+1)=f pe->∀t∈ts,(t.map f).sum=0)):Ck ts' (n+2):=λf I aa=>by
 obtain⟨b1,b2⟩:=hb f aa;have o1:AO (n:Int)=(n:Int)+1:=by unfold AO;rw[nF (by lia)]
 have f0:f ((n:Int)+1)=f pe:=by
  have:=I n (DA.mpr (.inr (.inl rfl)))
  rw[o1]at this;rw[this];grind
 obtain⟨p,i1,d1⟩:=D f (λx F=>I x (Rv F)) (b2 f0);have hq:=DR J hp;have dp:=d1 pe hp;have O:∀x,AH n x->Fv p n (p (AO pe)) (p pe) (if AS ts x=pe then (n:Int)+1 else AS ts x)=p x:=λx F=>by
  by_cases e:AS ts x=pe
  ·rw[nF e,IC,<-e];exact i1 x F
  ·rw[nv e,D7 _ _ _ (ab x F)];exact i1 x F
 refine⟨Fv p n (p (AO pe)) (p pe),λx F=>?_,Ck.BH J I d1 (by grind)⟩;rcases DA.mp F with z|rfl|rfl
 ·by_cases e:x=AO pe
  ·rw[e,h1,ID,D7 _ _ _ hq]
  ·rw[h4 x z e,O x z,D7 _ _ _ z]
 ·rw[h2,O _ hq,ID]
 ·rw[h3,IC,D7 _ _ _ hp]
theorem QX{p:Int->Rat}(I:JR φ n)(J:AH n a)(F:∀x,AH n x->p (φ x)=p x):∀k,p (BM φ k a)=p a
 |0=>rfl
 |k+1=>(F _ (Ef I J k)).trans (QX I J F k)
theorem Ck.KU (D:Ck ts n)(T:CY n ts)(J:AH n a)(kb:∃k,BM (AS ts) k a=b)(h1:a≠b->AS ts' a=n)(h2:a≠b->AS ts' n=AS ts b)(aj:a=b->AS ts' n=n)(h3:AS ts' b=(n:Int)+1)(h5:AS ts' ((n:Int)+1)=AS ts a)(h4:∀x,AH n x->x≠a->x≠b->AS ts' x=AS ts x)
  (hb:∀f:Int->Rat,(∀t∈ts',(t.map f).sum=0)->∀t∈ts,(t.map f).sum+(if AO a∈t then f n else 0)+(if AO b∈t then f ((n:Int)+1) else 0)=0):Ck ts' (n+2):=λf ac ag=>by
 have ev:=T.MD;have PM:=T.CN;have ad:∀x,AH n x->AH n (AS ts x):=PM.IU;obtain⟨χ,c1,c2⟩:=fb PM J kb;have aa:AH n b:=by obtain⟨k,rfl⟩:=kb;exact Ef PM J k
 have o1:AO (n:Int)=(n:Int)+1:=by unfold AO;rw[nF (by lia)]
 have f1:f ((n:Int)+1)=- f n:=by have:=ac n (DA.mpr (.inr (.inl rfl)));rwa [o1]at this
 have ai:∀t∈ts,(t.map λx=>f x+f n*(χ x-χ (AO x))).sum=0:=λt ht=>by
  have ah:∀x∈t,AH n x:=λx I=>(T.mem x).mp (oC.mpr ⟨t,ht,I⟩)
  have af:t.Nodup:=by
   obtain⟨i,hi,rfl⟩:=om ht;exact(xC.mp T.nd).1 _ ht
  have e1:∀x∈t,χ x-χ (AO x)=(χ x + -1*χ (pr ts x))+((if x=AO a then 1 else 0) + -1*(if x=AO b then 1 else 0)):=λx I=>by
   have:=c1 (AO x) (DR ev (ah x I))
   rw[CA,Dm]at this;have ia:(if AO x=a then (1:Rat) else 0)=if x=AO a then 1 else 0:=by
    by_cases e:AO x=a
    ·rw[nF e,nF (by rw[<-e,Dm])]
    ·rw[nv e,nv (λz=>e (by rw[z,Dm]))]
   have ib:(if AO x=b then (1:Rat) else 0)=if x=AO b then 1 else 0:=by
    by_cases e:AO x=b
    ·rw[nF e,nF (by rw[<-e,Dm])]
    ·rw[nv e,nv (λz=>e (by rw[z,Dm]))]
   rw[ia,ib]at this;rw[this];grind
  rw[J1,LG,QC e1,J1,J1,J1,LG,LG,Tw T.nd ht χ,QW af,QW af]
  have:=hb f ag t ht
  rw[f1]at this;by_cases ea:AO a∈t<;>by_cases O:AO b∈t<;>simp only[ea,O,if_true,if_false]at this ⊢<;>grind
 obtain⟨p,i1,d1⟩:=D (λx=>f x+f n*(χ x-χ (AO x))) (λx I=>by
  show f (AO x)+f n*(χ (AO x)-χ (AO (AO x)))=-(f x+f n*(χ x-χ (AO x)));rw[Dm,ac x (Rv I)];grind) ai
 have ae:p b=p a:=by
  obtain⟨k,rfl⟩:=kb;exact QX PM J i1 k
 have ca:=c1 a J;have cb:=c1 b aa;have ia:=i1 a J;have ib:=i1 b aa;refine⟨Fv (λx=>p x-f n*χ x) n (p b-f n*χ b+f n) (p b-f n*χ b),λx I=>?_,Ck.BH ev ac (λx I=>?_) (by grind)⟩
 ·rcases DA.mp I with z|rfl|rfl
  ·by_cases O:x=b
   ·rw[O,h3,IC,D7 _ _ _ aa]
   ·by_cases ea:x=a
    ·have F:a≠b:=λe=>O (ea.trans e)
     rw[ea,h1 F,ID,D7 _ _ _ J]
     have:=c2 F
     rw[ae,this];grind
    ·rw[h4 x z ea O,D7 _ _ _ (ad x z),D7 _ _ _ z]
     have:=c1 x z
     rw[nv ea,nv O]at this;rw[i1 x z,this];grind
  ·by_cases F:a=b
   ·rw[aj F]
   ·rw[h2 F,ID,D7 _ _ _ (ad b aa)];rw[nv (λe=>F e.symm),nF rfl]at cb;show p (AS ts b)-f n*χ (AS ts b)=_;rw[ib,cb];grind
  ·rw[h5,IC,D7 _ _ _ (ad a J)];show p (AS ts a)-f n*χ (AS ts a)=_;by_cases F:a=b
   ·rw[nF rfl,nF F]at ca;rw[ia,ca,<-F];grind
   ·rw[nF rfl,nv F]at ca;rw[ia,ca,ae,c2 F];grind
 ·have:=d1 x I
  show p x-f n*χ x-(p (AO x)-f n*χ (AO x))=f x
  grind
theorem SG(hp:ts[p]?=some r)(F:t∈ts):t=r\/t∈ts.set p r':=by
 obtain⟨i,hi,rfl⟩:=om F;by_cases e:p=i
 ·subst e;rw[nh hi]at hp;exact .inl (nV hp)
 ·right
  have:(ts.set p r')[i]?=some ts[i]:=by rw[oH e,nh hi]
  exact ny this
theorem PN(hp:ts[p]?=some r):r'∈ts.set p r':=by
 have h:=(nj.mp hp).1
 have:(ts.set p r')[p]?=some r':=oM h
 exact ny this
theorem Uu(f:Int->Rat)(e s:Int)(t1 t2:List Int):((t1++e :: s :: t2).map f).sum=((t1++s :: t2).map f).sum+f e:=by
 simp only[nY,nK,ud,ow];grind
theorem ZK(hn:n=4):Ck [[2,0],[3,1]] n:=λf aa ab=>by
 subst hn;have n0:AS [[2,0],[3,1]] 0=3:=by decide
 have n1:AS [[2,0],[3,1]] 1=2:=by decide
 have n2:AS [[2,0],[3,1]] 2=1:=by decide
 have n3:AS [[2,0],[3,1]] 3=0:=by decide
 have cs:∀x:Int,AH 4 x->x=0\/x=1\/x=2\/x=3:=λx h=>by obtain⟨h1,h2⟩:=h;lia
 have b:=ab [2,0] (by simp);have a0:=aa 0 ⟨by decide,by decide⟩;have a2:=aa 2 ⟨by decide,by decide⟩;have o0:AO 0=1:=by decide
 have o1:AO 1=0:=by decide
 have o2:AO 2=3:=by decide
 have o3:AO 3=2:=by decide
 rw[o0]at a0;rw[o2]at a2;simp only[nK,pE,ow,rF]at b;have J:(if ((0:Int)=0\/(0:Int)=3) then f 0 else 0)=f 0:=nF (by decide);have I:(if ((1:Int)=0\/(1:Int)=3) then f 0 else 0)=0:=nv (by decide);have p2:(if ((2:Int)=0\/(2:Int)=3) then f 0 else 0)=0:=nv (by decide);have F:(if ((3:Int)=0\/(3:Int)=3) then f 0 else 0)=f 0:=nF (by decide);refine⟨λx=>if x=0\/x=3 then f 0 else 0,λx O=>?_,λx O=>?_⟩
 ·rcases cs x O with rfl|rfl|rfl|rfl
  ·rw[n0];exact F.trans J.symm
  ·rw[n1];exact p2.trans I.symm
  ·rw[n2];exact I.trans p2.symm
  ·rw[n3];exact J.trans F.symm
 ·rcases cs x O with rfl|rfl|rfl|rfl
  ·rw[o0];show(if ((0:Int)=0\/(0:Int)=3) then f 0 else 0)-(if ((1:Int)=0\/(1:Int)=3) then f 0 else 0)=_;rw[J,I];grind
  ·rw[o1];show(if ((1:Int)=0\/(1:Int)=3) then f 0 else 0)-(if ((0:Int)=0\/(0:Int)=3) then f 0 else 0)=_;rw[J,I];grind
  ·rw[o2];show(if ((2:Int)=0\/(2:Int)=3) then f 0 else 0)-(if ((3:Int)=0\/(3:Int)=3) then f 0 else 0)=_;rw[p2,F];grind
  ·rw[o3];show(if ((3:Int)=0\/(3:Int)=3) then f 0 else 0)-(if ((2:Int)=0\/(2:Int)=3) then f 0 else 0)=_;rw[p2,F];grind
structure Gn(ts:List (List Int))(hs:List Nat):Prop where
 ev:hs.length%2=0
 n4:4<=hs.length
 Bn:2<=ts.length
 nd:ts.flatten.Nodup
 mem:∀x,x∈ts.flatten↔AH hs.length x
 Dc:∀(p:Nat) (t:List Int),ts[p]?=some t->∀x:Int,x∈t->hs[x.toNat]?=some p
 ne:∀t∈ts,t≠[]
 Eo:2*ts.length<=hs.length
 lo:hs[0]?=some 0/\hs[1]?=some 1
 Cs:∀S:Nat->Prop,S 0->(∀k,1<=k->∀p q,hs[2*k]?=some p->hs[2*k+1]?=some q->(S p↔S q))->∀p,p<ts.length->S p
 du:Du (AS ts) hs.length
 po:Ck ts hs.length
theorem Gn.HM(g:Gn ts hs):CY hs.length ts:=⟨g.nd,g.mem,g.ev⟩
theorem QY{α:Type}{ts:List α}{r:α}(h:ts[p]?=some r):∃A B,ts=A++r :: B/\A.length=p/\∀r',ts.set p r'=A++r' :: B:=by
 obtain⟨hp,e⟩:=nj.mp h;refine⟨ts.take p,ts.drop (p+1),?_,by rw[pB];lia,λr'=>?_⟩
 ·rw[<-e,rD,qF]
 ·exact List.set_eq_take_append_cons_drop .. |>.trans (by rw[nF hp])
theorem Hx(h:n%2=0):AO (n:Int)=(n:Int)+1:=by unfold AO;rw[nF (by lia)]
theorem QT(h:n%2=0):AO ((n:Int)+1)=n:=by unfold AO;rw[nv (by lia)];lia
theorem J4(h:AO x=AO y):x=y:=by rw[<-Dm x,h,Dm]
theorem Gn.Kk(g:Gn ts hs)(hp:ts[p]?=some (t1++s :: t2)):
  Gn (ts.set p (t1++(hs.length:Int) :: s :: t2)++[[(hs.length:Int)+1]]) (hs++[p]++[ts.length]):=by
 obtain⟨A,B,eT,lA,eS⟩:=QY hp;have pl:p<ts.length:=(nj.mp hp).1;have ah:=g.nd;have ab:=g.mem;generalize I:hs.length=n at *;have O:=g.ev;rw[I]at O;have em:((n:Nat):Int)∉ts.flatten:=λz=>by have:=(ab _).mp z;lia
 have am:((n:Nat):Int)+1∉ts.flatten:=λz=>by have:=(ab _).mp z;lia
 have sm:s∈ts.flatten:=oC.mpr ⟨_,ny hp,by simp⟩;have sR:=(ab s).mp sm;rw[eT]at ah em;obtain⟨ak,ac,q1,q2,q3⟩:=VY ah em;rw[<-eT,<-eS]at *;have al:((n:Nat):Int)+1∉(ts.set p (t1++(n:Int) :: s :: t2)).flatten:=λz=>by
  rcases(ac _).mp z with w|w
  ·exact am w
  ·lia
 obtain⟨ai,q4,q5⟩:=aC ak al;have q6:∀x∈ts.flatten,pr (ts.set p (t1++(n:Int) :: s :: t2)++[[(n:Int)+1]]) x=pr (ts.set p (t1++(n:Int) :: s :: t2)) x:=λx J=>q5 x ((ac x).mpr (.inl J))
 have lH:(hs++[p]++[ts.length]).length=n+2:=by simp[I]
 have lT:(ts.set p (t1++(n:Int) :: s :: t2)++[[(n:Int)+1]]).length=ts.length+1:=by simp
 have aR:AH n (AO s):=DR O sR;have f1:AS (ts.set p (t1++(n:Int) :: s :: t2)++[[(n:Int)+1]]) (AO s)=n:=by rw[CA,Dm,q6 s sm,q1]
 have f2:AS (ts.set p (t1++(n:Int) :: s :: t2)++[[(n:Int)+1]]) n=(n:Int)+1:=by rw[CA,Hx O,q4]
 have f3:AS (ts.set p (t1++(n:Int) :: s :: t2)++[[(n:Int)+1]]) ((n:Int)+1)=AS ts (AO s):=by rw[CA,QT O,q5 _ ((ac _).mpr (.inr rfl)),q2,CA,Dm]
 have f4:∀x,AH n x->x≠AO s->AS (ts.set p (t1++(n:Int) :: s :: t2)++[[(n:Int)+1]]) x=AS ts x:=λx J xa=>by
  have hm:AO x∈ts.flatten:=(ab _).mpr (DR O J);rw[CA,q6 _ hm,q3 _ hm (λe=>xa (by rw[<-e,Dm])),CA]
 have ag:∀x,AH n x->AH n (AS ts x):=λx J=>by have:=g.HM.CN.IU x (by rw[I];exact J);rwa [I]at this
 have ae:=g.du;rw[I]at ae;have af:=g.po;rw[I]at af;have pz:Ck (ts.set p (t1++(n:Int) :: s :: t2)++[[(n:Int)+1]]) (n+2):=by
  refine af.Kk O ag aR f1 f2 f3 f4 λf ad=>?_
  have b1:=ad [(n:Int)+1] (by simp);simp only[nK,pE,ow,rF]at b1;refine⟨by grind,λf0 t ht=>?_⟩;rcases SG (r':=t1++(n:Int) :: s :: t2) hp ht with e|e
  ·have:=ad _ (nM.mpr (.inl (PN (r':=t1++(n:Int) :: s :: t2) hp)))
   rw[Uu,f0]at this;rw[e];grind
  ·exact ad t (nM.mpr (.inl e))
 have aj:=g.Eo;have n4:=g.n4;rw[I]at aj n4;have aa:∀{i q},hs[i]?=some q->(hs++[p]++[ts.length])[i]?=some q:=λ{i q} h=>by
  rw[pG,nX (nj.mp h).1];exact h
 refine⟨by rw[lH];lia,by rw[lH];lia,by rw[lT];have:=g.Bn;lia,ai,λx=>?_,λq t F x J=>?_,λt ht=>?_,by rw[lT,lH];lia,⟨aa g.lo.1,aa g.lo.2⟩,λS S0 hS q F=>?_,by rw[lH];exact ae.Kk ag (by lia) aR f1 f2 f3 f4,by rw[lH];exact pz⟩
 ·rw[lH,pX,nM,ac,ab];simp only[oN,uO,pO,nU,AH]
  lia
 ·rcases oP q ts.length with ql|ql
  ·rw[nX (by simpa using ql)]at F;by_cases e:p=q
   ·subst e;rw[oM ql]at F;cases F;by_cases xn:x=n
    ·rw[xn,qe,<-I,pG,nW (nG _)];simp
    ·refine aa (g.Dc p _ hp x ?_);simp only[nM,nZ]at J ⊢;rcases J with z|z|z|z
     ·exact .inl z
     ·exact absurd z xn
     ·exact .inr (.inl z)
     ·exact .inr (.inr z)
   ·rw[oH e]at F;exact aa (g.Dc q t F x J)
  ·have:q=ts.length:=by
    have:=(nj.mp F).1
    rw[lT]at this;lia
   subst this;rw[nW (by simp)]at F;simp at F;subst F;rw[nU.mp J,show((n:Int)+1).toNat=n+1 by lia,<-I];rw[nW (by simp)];simp
 ·rcases nM.mp ht with z|z
  ·rcases qd z with w|w
   ·exact g.ne t w
   ·rw[w];simp
  ·rw[nU.mp z];simp
 ·have h1:=g.Cs S S0 (λk k1 a b ha hb=>hS k k1 a b (aa ha) (aa hb));rcases oP q ts.length with ql|ql
  ·exact h1 q ql
  ·have:q=ts.length:=by rw[lT]at F;lia
   subst this
   have:=hS (n / 2) (by lia) p ts.length (by rw[show 2*(n / 2)=n by lia,<-I,pG,nW (nG _)];simp) (by rw[show 2*(n / 2)+1=n+1 by lia,<-I,nW (by simp)];simp)
   exact this.mp (h1 p pl)
structure Gb(ts:List (List Int))(hs:List Nat):Prop where
 nd:ts.flatten.Nodup
 mem:∀x,x∈ts.flatten↔AH hs.length x
 Dc:∀(p:Nat) (t:List Int),ts[p]?=some t->∀x:Int,x∈t->hs[x.toNat]?=some p
 ne:∀t∈ts,t≠[]
theorem Gn.gb(g:Gn ts hs):Gb ts hs:=⟨g.nd,g.mem,g.Dc,g.ne⟩
theorem Gb.Fj(g:Gb ts hs)(hp:ts[p]?=some (t1++s :: t2)):
  Gb (ts.set p (t1++(hs.length:Int) :: s :: t2)) (hs++[p])/\pr (ts.set p (t1++(hs.length:Int) :: s :: t2)) s=hs.length/\pr (ts.set p (t1++(hs.length:Int) :: s :: t2)) hs.length=pr ts s /\
   ∀x,AH hs.length x->x≠s->pr (ts.set p (t1++(hs.length:Int) :: s :: t2)) x=pr ts x:=by
 obtain⟨A,B,eT,lA,eS⟩:=QY hp;have pl:p<ts.length:=(nj.mp hp).1;have ab:=g.nd;have J:=g.mem;generalize hn:hs.length=n at *;have O:((n:Nat):Int)∉ts.flatten:=λz=>by have:=(J _).mp z;lia
 rw[eT]at ab O;obtain⟨ad,ac,q1,q2,q3⟩:=VY ab O;rw[<-eT,<-eS]at *;have lH:(hs++[p]).length=n+1:=by simp[hn]
 have aa:∀{i q},hs[i]?=some q->(hs++[p])[i]?=some q:=λ{i q} h=>by
  rw[nX (nj.mp h).1];exact h
 refine⟨⟨ad,λx=>?_,λq t I x F=>?_,λt ht=>?_⟩,q1,q2,λx F xs=>q3 x ((J x).mpr F) xs⟩
 ·rw[lH,ac,J,fU]
 ·by_cases e:p=q
  ·subst e;rw[oM pl]at I;cases I;by_cases xn:x=n
   ·rw[xn,qe,<-hn,nW (nG _)];simp
   ·refine aa (g.Dc p _ hp x ?_);simp only[nM,nZ]at F ⊢;rcases F with z|z|z|z
    ·exact .inl z
    ·exact absurd z xn
    ·exact .inr (.inl z)
    ·exact .inr (.inr z)
  ·rw[oH e]at I;exact aa (g.Dc q t I x F)
 ·rcases qd ht with w|w
  ·exact g.ne t w
  ·rw[w];simp
theorem Gb.Ia(g:Gb ts hs)(hp:ts[p]?=some (t1++s :: t2))(O:X≠e)(h:∀t∈ts.set p (t1++e :: s :: t2),(t.map f).sum+(if X∈t then c else 0)=0):
  ∀t∈ts,(t.map f).sum+(if s∈t then f e else 0)+(if X∈t then c else 0)=0:=λt ht=>by
 obtain⟨i,hi,rfl⟩:=om ht;have F:ts[i]?=some ts[i]:=nh hi;by_cases q:p=i
 ·subst q;have q2:ts[p]=t1++s :: t2:=by rw[F]at hp;exact nV hp
  have:=h _ (PN (r':=t1++e :: s :: t2) hp)
  rw[Uu]at this;have I:(if X∈t1++e :: s :: t2 then c else 0)=(if X∈t1++s :: t2 then c else 0):=by
   have:X∈t1++e :: s :: t2↔X∈t1++s :: t2:=by simp[O]
   by_cases z:X∈t1++s :: t2
   ·rw[nF z,nF (this.mpr z)]
   ·rw[nv z,nv (λy=>z (this.mp y))]
  rw[I]at this;rw[q2,nF (show s∈t1++s :: t2 by simp)];exact this
 ·have J:s∉ts[i]:=λz=>by
   have h1:=g.Dc i _ F s z;have h2:=g.Dc p _ hp s (by simp);rw[h1]at h2;exact q (nV h2).symm
  rw[nv J]
  have:=h _ (ny (show(ts.set p (t1++e :: s :: t2))[i]?=some ts[i] by rw[oH q,F]))
  grind
theorem Gn.KU (g:Gn ts hs)(aR:AH hs.length a)(kb:∃k,BM (AS ts) k a=b)
  (h1:ts[p1]?=some (t1++AO a :: t2))(h2:(ts.set p1 (t1++(hs.length:Int) :: AO a :: t2))[p2]?=some (u1++AO b :: u2)) :
  Gn ((ts.set p1 (t1++(hs.length:Int) :: AO a :: t2)).set p2 (u1++((hs.length:Int)+1) :: AO b :: u2)) (hs++[p1]++[p2]):=by
 have I:=g.ev;have n4:=g.n4;have ao:=g.Eo;have T:=g.HM;have bR:AH hs.length b:=by obtain⟨k,rfl⟩:=kb;exact Ef T.CN aR k
 obtain⟨B1,q1,q2,q3⟩:=g.gb.Fj h1;generalize ag:ts.set p1 (t1++(hs.length:Int) :: AO a :: t2)=ai at *;have al:ai.length=ts.length:=by rw[<-ag];simp
 have lh:(hs++[p1]).length=hs.length+1:=by simp
 have e1:(((hs++[p1]).length:Nat):Int)=(hs.length:Int)+1:=by rw[lh];push_cast;rfl
 obtain⟨B2,r1,r2,r3⟩:=B1.Fj h2;rw[e1]at B2 r1 r2 r3;rw[lh]at r3;generalize ah:ai.set p2 (u1++((hs.length:Int)+1) :: AO b :: u2)=O at *;have ad:O.length=ts.length:=by rw[<-ah];simp[al]
 have lH:(hs++[p1]++[p2]).length=hs.length+2:=by simp
 have aa:∀{i q},hs[i]?=some q->(hs++[p1]++[p2])[i]?=some q:=λ{i q} h=>by
  rw[pG,nX (nj.mp h).1];exact h
 have ae:=DR I aR;have ac:=DR I bR;generalize hn:hs.length=n at *;have up:∀{x:Int},AH n x->AH (n+1) x:=λ{x} h=>⟨h.1,by have:=h.2;lia⟩
 have w1:AS O ((n:Int)+1)=AS ts a:=by
  rw[CA,QT I,r3 _ ⟨by lia,by lia⟩ (λe=>by have:=ac.2;lia),q2,CA]
 have w2:AS O b=(n:Int)+1:=by rw[CA,r1]
 have w3:∀x,AH n x->x≠a->x≠b->AS O x=AS ts x:=λx hx xa xb=>by
  have:=DR I hx
  rw[CA,r3 _ (up this) (λe=>xb (J4 e)),q3 _ this (λe=>xa (J4 e)),CA]
 have am:∀x,AH n x->AH n (AS ts x):=λx hx=>T.CN.IU x hx
 have dz:Du (AS O) (n+2):=by
  have aj:=g.du;rw[hn]at aj;refine aj.KU am (by lia) I aR kb (λF=>?_) (λF=>?_) (λF=>?_) w2 w1 w3
  ·have J:AO b≠AO a:=λe=>F (J4 e).symm
   rw[CA,r3 _ (up ae) (λe=>J e.symm),q1]
  ·have J:AO b≠AO a:=λe=>F (J4 e).symm
   rw[CA,Hx I,r2,q3 _ ac J,CA]
  ·subst F;rw[CA,Hx I,r2,q1]
 have pz:Ck O (n+2):=by
  have af:=g.po;rw[hn]at af;refine af.KU T aR kb (λF=>?_) (λF=>?_) (λF=>?_) w2 w1 w3 λf ak=>?_
  ·have J:AO b≠AO a:=λe=>F (J4 e).symm
   rw[CA,r3 _ (up ae) (λe=>J e.symm),q1]
  ·have J:AO b≠AO a:=λe=>F (J4 e).symm
   rw[CA,Hx I,r2,q3 _ ac J,CA]
  ·subst F;rw[CA,Hx I,r2,q1]
  ·have c1:=B1.Ia (X:=-1) (f:=f) (c:=0) h2 (e:=(n:Int)+1) (by lia  ) (by
    rw[ah];intro t ht
    have:=ak t ht
    split<;>grind)
   exact g.gb.Ia (X:=AO b) (c:=f ((n:Int)+1)) h1 (λe=>by have:=ac.2;lia) (by
    rw[ag];intro t ht
    have:=c1 t ht
    split at this<;>split at this<;>grind)
 refine⟨by rw[lH];lia,by rw[lH];lia,by rw[ad];exact g.Bn,B2.nd,B2.mem,B2.Dc,B2.ne,by rw[ad,lH];lia,⟨aa g.lo.1,aa g.lo.2⟩,λS S0 hS q hq=>?_,by rw[lH];exact dz,by rw[lH];exact pz⟩;exact g.Cs S S0 (λk k1 x y hx hy=>hS k k1 x y (aa hx) (aa hy)) q (by lia)
theorem Gn.BJ(g:Gn ts hs){r:Nat}(r1:1<=r)(er:pe=2*(r:Int)+1)(hp:ts[p]?=some t)(pm:pe∈t):
  Gn (ts.set p (t.map λx=>if x=pe then (hs.length:Int)+1 else x)++[[pe,(hs.length:Int)]]) ((hs++[ts.length]++[p]).set pe.toNat ts.length):=by
 obtain⟨A,B,eT,lA,eS⟩:=QY hp;have pl:p<ts.length:=(nj.mp hp).1;have am:=g.nd;have aa:=g.mem;have ev:=g.ev;have n4:=g.n4;have ax:=g.Eo;have P:=g.HM.CN;have au:pe∈ts.flatten:=oC.mpr ⟨t,ny hp,pm⟩;have I:=(aa pe).mp au;have ao:=g.Dc p t hp pe pm;generalize hn:hs.length=n at *;have pn:pe.toNat<n:=by have:=I.2;lia
 have pt:pe.toNat=2*r+1:=by lia
 have em:((n:Nat):Int)+1∉ts.flatten:=λz=>by have:=(aa _).mp z;lia
 rw[eT]at am em;obtain⟨aw,ab,q1,q2⟩:=iX am pm em;rw[<-eT,<-eS]at *;generalize af:ts.set p (t.map λx=>if x=pe then (n:Int)+1 else x)=ae at *;have ai:ae.length=ts.length:=by rw[<-af];simp
 have ar:pe∉ae.flatten:=λz=>by
  rcases(ab _).mp z with w|w
  ·exact w.2 rfl
  ·have:=I.2;lia
 have n1:((n:Nat):Int)∉ae.flatten:=λz=>by
  rcases(ab _).mp z with w|w
  ·have:=(aa _).mp w.1;lia
  ·lia
 obtain⟨av,w1,w2,w3⟩:=bE aw ar n1 (λe=>by have:=I.2;lia);generalize ac:ae++[[pe,(n:Int)]]=J at *;have ah:J.length=ts.length+1:=by rw[<-ac];simp[ai]
 have lH:((hs++[ts.length]++[p]).set pe.toNat ts.length).length=n+2:=by simp[hn]
 have qR:=DR ev I;have v1:AS J (AO pe)=n:=by rw[CA,Dm,w1]
 have v2:AS J n=(if AS ts (AO pe)=pe then (n:Int)+1 else AS ts (AO pe)):=by
  rw[CA,Hx ev,w3 _ ((ab _).mpr (.inr rfl)),q1,CA,Dm]
 have v3:AS J ((n:Int)+1)=pe:=by rw[CA,QT ev,w2]
 have v4:∀x,AH n x->x≠AO pe->AS J x=(if AS ts x=pe then (n:Int)+1 else AS ts x):=λx F xq=>by
  have ox:=DR ev F;have xp:AO x≠pe:=λe=>xq (by rw[<-e,Dm])
  rw[CA,w3 _ ((ab _).mpr (.inl ⟨(aa _).mpr ox,xp⟩)),q2 _ ((aa _).mpr ox) xp,CA]
 have az:∀{x:Int},AH n x->x≠(n:Int):=λ{x} h e=>by have:=h.2;lia
 have al:=g.du;rw[hn]at al;have dz:Du (AS J) (n+2):=al.BJ (λx F=>P.IU x F) (by lia) qR I v1 v2 v3 v4;have pz:Ck J (n+2):=by
  have ap:=g.po;rw[hn]at ap;refine ap.BJ ev (λx F=>P.IU x F) I v1 v2 v3 v4 λf ad=>?_
  rw[<-ac,<-af]at ad;have b1:=ad [pe,(n:Int)] (by simp);simp only[nK,pE,ow,rF]at b1;refine⟨by grind,λf0 u hu=>?_⟩;rcases SG (r':=t.map λx=>if x=pe then (n:Int)+1 else x) hp hu with e|e
  ·have:=ad _ (nM.mpr (.inl (PN (r':=t.map λx=>if x=pe then (n:Int)+1 else x) hp)))
   rw[pC]at this;rw[e,<-this];refine QC λx _=>?_
   show f x=f (if x=pe then (n:Int)+1 else x);by_cases z:x=pe
   ·rw[nF z,f0,z]
   ·rw[nv z]
  ·exact ad u (nM.mpr (.inl e))
 have O:∀{i q},hs[i]?=some q->i≠pe.toNat->((hs++[ts.length]++[p]).set pe.toNat ts.length)[i]?=some q:=λ{i q} h ne=>by
  rw[oH (λe=>ne e.symm),pG,nX (nj.mp h).1];exact h
 have hN:((hs++[ts.length]++[p]).set pe.toNat ts.length)[n]?=some ts.length:=by
  rw[oH (by lia),pG,<-hn,nW (nG _)];simp
 have aj:((hs++[ts.length]++[p]).set pe.toNat ts.length)[n+1]?=some p:=by
  rw[oH (by lia),<-hn,nW (by simp)];simp
 have hP:((hs++[ts.length]++[p]).set pe.toNat ts.length)[pe.toNat]?=some ts.length:=by
  rw[oM (by simp[hn];lia)]
 have ay:=g.Bn;refine⟨by rw[lH];lia,by rw[lH];lia,by rw[ah];lia,av,λx=>?_,λi t' hi x F=>?_,λt' ak=>?_,by rw[ah,lH];lia,⟨O g.lo.1 (by lia),O g.lo.2 (by lia)⟩,λS S0 hS i hi=>?_,by rw[lH];exact dz,by rw[lH];exact pz⟩
 ·rw[lH,<-ac,pX,nM,ab,aa];simp only[oN,uO,pO,nZ,pD,qV,AH]
  have:=I.1
  have:=I.2
  lia
 ·rw[<-ac]at hi;rcases oP i ts.length with il|il
  ·rw[nX (by lia),<-af]at hi;by_cases e:p=i
   ·subst e;rw[oM pl]at hi;cases hi;obtain⟨y,hy,rfl⟩:=nS.mp F;by_cases yp:y=pe
    ·rw[nF yp,show((n:Int)+1).toNat=n+1 by lia];exact aj
    ·rw[nv yp];have yR:=(aa y).mp (oC.mpr ⟨t,ny hp,hy⟩);exact O (g.Dc p t hp y hy) (λe=>yp (by have:=yR.1;have:=I.1;lia))
   ·rw[oH e]at hi;have ag:=g.Dc i t' hi x F;refine O ag (λz=>?_);rw[z,ao]at ag;exact e (nV ag)
  ·have:i=ts.length:=by
    have:=(nj.mp hi).1
    simp[ai]at this;lia
   subst this;rw[nW (by lia),ai]at hi;simp at hi;subst hi;simp only[nZ,pD,qV]at F;rcases F with rfl|rfl
   ·exact hP
   ·rw[qe];exact hN
 ·rw[<-ac,<-af]at ak;rcases nM.mp ak with z|z
  ·rcases qd z with w|w
   ·exact g.ne t' w
   ·rw[w];intro e;rw[vn]at e;rw[e]at pm;cases pm
  ·rw[nU.mp z];simp
 ·have sP:S ts.length↔S p:=hS (n / 2) (by lia  ) _ _ (by rw[show 2*(n / 2)=n by lia  ]; exact hN) (by rw[show 2*(n / 2)+1=n+1 by lia  ]; exact aj);have aq:=g.Cs S S0 (λk k1 x y F hy=>by
   by_cases e:2*k+1=pe.toNat
   ·have ey:y=p:=by rw[e,ao]at hy;exact(nV hy).symm
    subst ey;exact(hS k k1 x ts.length (O F (by lia)) (by rw[e];exact hP)).trans sP
   ·exact hS k k1 x y (O F (by lia)) (O hy e))
  rcases oP i ts.length with il|il
  ·exact aq i il
  ·have:i=ts.length:=by rw[ah]at hi;lia
   rw[this];exact sP.mpr (aq p pl)
theorem Z6(ts:List (List Int))(hn:n=4)(p0:pr ts 0=2)(p1:pr ts 1=3)(p2:pr ts 2=0)(p3:pr ts 3=1):Du (AS ts) n:=by
 subst hn;have n0:AS ts 0=3:=p1;have n1:AS ts 1=2:=p0;have n2:AS ts 2=1:=p3;have n3:AS ts 3=0:=p2;have cs:∀x:Int,AH 4 x->x=0\/x=1\/x=2\/x=3:=λx h=>by obtain⟨h1,h2⟩:=h;lia
 refine⟨λS F hr h1 x hx=>?_⟩
 ·have a1:=F 1 ⟨by decide,by decide⟩;have I:=F 3 ⟨by decide,by decide⟩;have r:=hr 1 (by decide) (by decide);rw[n1]at a1;rw[n3]at I;have O:=a1.mp h1;have J:S 3:=r.mp O;rcases cs x hx with rfl|rfl|rfl|rfl
  ·exact I.mp J
  ·exact h1
  ·exact O
  ·exact J
theorem LU(ρ:Int->Int):∀R:List (List Int),(R.map λc=>c.map ρ).flatten=R.flatten.map ρ
 |[]=>rfl
 |c :: R=>by rw[nK,oN,oN,nY,LU ρ R]
theorem Vy{ρ:Int->Int}:∀{l:List Int},l.Nodup->(∀x∈l,∀y∈l,ρ x=ρ y->x=y)->(l.map ρ).Nodup
 |[],_,_=>by simp
 |a :: l,nd,inj=>by
  rw[pj]at nd;rw[nK,pj];refine⟨λz=>?_,Vy nd.2 λx I y J=>inj x (by simp[I]) y (by simp[J])⟩;obtain⟨b,F,e⟩:=nS.mp z;exact nd.1 (inj b (by simp[F]) a (by simp) e ▸ F)
theorem iZ(I:ts.flatten.Nodup)(J:∀x∈ts.flatten,∀y∈ts.flatten,ρ x=ρ y->x=y):(ts.map λt=>t.map ρ).flatten.Nodup/\∀x∈ts.flatten,pr (ts.map λt=>t.map ρ) (ρ x)=ρ (pr ts x):=by
 have F:(ts.map λt=>t.map ρ).flatten.Nodup:=by rw[LU];exact Vy I J
 refine⟨F,λx O=>EB F ?_⟩;have m:=IH I O;have row:∀t:List Int,Bd (t.map ρ)=(Bd t).map λp=>(ρ p.1,ρ p.2):=λt=>by
  rw[GO,GO];cases t with
  |nil=>rfl
  |cons a l =>
   rw[<-Qo];congr 1;rw[pF,pF,y8,uk];rfl
 unfold BI at m ⊢;obtain⟨r,hr,hm⟩:=oC.mp m;obtain⟨t,ht,rfl⟩:=nS.mp hr;refine oC.mpr ⟨Bd (t.map ρ),nS.mpr ⟨t.map ρ,nS.mpr ⟨t,ht,U⟩,U⟩,?_⟩;rw[row];exact nS.mpr ⟨_,hm,U⟩
def GG(r r':List Int):Prop:=∃l m,r=l++m/\r'=m++l
theorem ZV(h:GG r r'):∀p∈Bd r,p∈Bd r':=by
 obtain⟨l,m,rfl,rfl⟩:=h;intro p hp;rw[GO]at hp ⊢;rw[OC]at hp ⊢;cases l with
 |nil=>simpa [cp]using hp
 |cons a l =>
  cases m with
  |nil=>simpa [cp]using hp
  |cons b m =>
   have J:((a :: l)++(b :: m)).getLastD 0=(b :: m).getLastD 0:=by rw[pF,pF,tR,uk];rfl
   have I:((b :: m)++(a :: l)).getLastD 0=(a :: l).getLastD 0:=by rw[pF,pF,tR,uk];rfl
   have F:∀(c:Int) (k:List Int) (y z:Int),(c :: k).getLastD y=(c :: k).getLastD z:=λc k y z=>by cases k<;>rfl
   rw[J]at hp;rw[I];rw[nM]at hp ⊢;rw[F b m _ 0,F a l _ 0]at *;rw[F a l _ 0]at hp;exact hp.symm
theorem GG.CN(h:GG r r'):uj r r':=by
 obtain⟨l,m,rfl,rfl⟩:=h;exact List.perm_append_comm
theorem PX:∀{ts us:List (List Int)},ts.length=us.length->(∀(i:Nat) (t u:List Int),ts[i]?=some t->us[i]?=some u->GG t u)->uj ts.flatten us.flatten
 |[],[],_,_=>uj.refl _
 |t :: ts,u :: us,h,g=>by
  rw[oN,oN];exact(g 0 t u rfl rfl).CN.append (PX (by simpa using h) λi a b F I=>g (i+1) a b F I)
theorem dX(I:ts.flatten.Nodup)(hl:ts.length=us.length)(g:∀(i:Nat) (t u:List Int),ts[i]?=some t->us[i]?=some u->GG t u):us.flatten.Nodup/\∀x∈ts.flatten,pr us x=pr ts x:=by
 have p:=PX hl g;have J:=p.nodup_iff.mp I;refine⟨J,λx O=>EB J ?_⟩;have m:=IH I O;unfold BI at m ⊢;obtain⟨r,hr,hm⟩:=oC.mp m;obtain⟨t,ht,rfl⟩:=nS.mp hr;obtain⟨i,hi,e⟩:=om ht;have F:i<us.length:=by lia
 exact oC.mpr ⟨Bd us[i],nS.mpr ⟨_,oK F,U⟩,ZV (g i t us[i] (by rw[nh hi,e]) (nh F)) _ hm⟩
end
end Mth
namespace Mth
structure Mc(φ:Int->Int)(m:Nat):Prop where
 Cs:∀S:Int->Prop,(∀x,AH (2*m+2) x->(S x↔S (φ x)))->(∀k:Nat,k<m->(S (2*(k:Int))↔S (2*(k:Int)+1)))->S (2*(m:Int)+1)->∀x,AH (2*m+2) x->S x
theorem iL {φ ψ ρ:Int->Int}(D:Du φ (2*m+2))(ae:∀x,AH (2*m+2) x->AH (2*m+2) (φ x))(ab:∀x,AH (2*m+2) x->AH (2*m+2) (ρ x))(ad:∃σ:Int->Int,∀x,AH (2*m+2) x->AH (2*m+2) (σ x)/\ρ (σ x)=x)(aa:∀x y,AH (2*m+2) x->AH (2*m+2) y->ρ x=ρ y->x=y)
  (O:ρ 0=2*(m:Int))(ac:∀x,AH (2*m+2) x->AO (ρ x)=ρ (AO x))(h:∀x,AH (2*m+2) x->ψ (ρ x)=ρ (φ x)):Mc ψ m:=by
 obtain⟨σ,hσ⟩:=ad;have i0:AH (2*m+2) 0:=⟨by lia,by push_cast;lia⟩;have i1:AH (2*m+2) 1:=⟨by lia,by push_cast;lia⟩;have e1:ρ 1=2*(m:Int)+1:=by
  have:=ac 0 i0
  rw[O,show AO 0=1 from rfl]at this;rw[<-this];unfold AO;rw[nF (by lia)]
 refine⟨λS hS hr h0 y hy=>?_⟩
 ·obtain⟨a,b⟩:=hσ y hy
  have:=D.Cs (λx=>S (ρ x)) (λx J=>by
   have:=hS _ (ab x J)
   rw[h x J]at this;exact this) (λk k1 k2=>by
   have I:AH (2*m+2) (2*(k:Int)):=⟨by lia,by push_cast;lia⟩;have ro:=ac _ I;rw[show AO (2*(k:Int))=2*(k:Int)+1 by unfold AO;rw[nF (by lia)]]at ro;have n0:ρ (2*(k:Int))≠2*(m:Int):=λz=>by have:=aa _ _ I i0 (z.trans O.symm);lia
   have n1:ρ (2*(k:Int))≠2*(m:Int)+1:=λz=>by have:=aa _ _ I i1 (z.trans e1.symm);lia
   obtain⟨y0,y1⟩:=ab _ I;show S (ρ (2*(k:Int)))↔S (ρ (2*(k:Int)+1));rw[<-ro];generalize ρ (2*(k:Int))=z at *;have F:=hr (z.toNat / 2) (by lia);unfold AO;by_cases e:z%2=0
   ·rw[nF e];rw[show 2*((z.toNat / 2:Nat):Int)=z by lia]at F;exact F
   ·rw[nv e];rw[show 2*((z.toNat / 2:Nat):Int)=z-1 by lia,show z-1+1=z by lia]at F;exact F.symm) (by show S (ρ 1);rw[e1];exact h0) _ a
  rw[<-b];exact this
section
variable {n:Nat}{us:List (List Int)}(T:CY n us)
include T
end
end Mth
namespace Mth
structure Kt(us:List (List Int))(m:Nat):Prop where
 du:Mc (AS us) m
 po:Ck us (2*m+2)
theorem gG {ρ:Int->Int}(D:Ck ts n)(ag:∀x,AH n x->AH n (AS ts x))(ev:n%2=0)(aa:∀x,AH n x->AH n (ρ x))(ah:∃σ:Int->Int,∀x,AH n x->AH n (σ x)/\ρ (σ x)=x)(ae:∀x y,AH n x->AH n y->ρ x=ρ y->x=y)
  (ac:∀x,AH n x->AO (ρ x)=ρ (AO x))(h:∀x,AH n x->AS us (ρ x)=ρ (AS ts x))(hs:∀f:Int->Rat,(∀u∈us,(u.map f).sum=0)->∀t∈ts,(t.map λx=>f (ρ x)).sum=0):Ck us n:=λf af ad=>by
 obtain⟨σ,J⟩:=ah;obtain⟨p,i1,d1⟩:=D (λx=>f (ρ x)) (λx I=>by
  show f (ρ (AO x))=- f (ρ x);rw[<-ac x I];exact af _ (aa x I)) (hs f ad)
 have ab:∀x,AH n x->σ (ρ x)=x:=λx I=>ae _ _ (J _ (aa x I)).1 I (J _ (aa x I)).2
 refine⟨λy=>p (σ y),λy hy=>?_,λy hy=>?_⟩
 ·obtain⟨F,O⟩:=J y hy;show p (σ (AS us y))=p (σ y)
  have:=h _ F
  rw[O]at this;rw[this,ab _ (ag _ F)];exact i1 _ F
 ·obtain⟨F,O⟩:=J y hy;show p (σ y)-p (σ (AO y))=f y;have e:σ (AO y)=AO (σ y):=by
   have:=ac _ F
   rw[O]at this;rw[this,ab _ (DR ev F)]
  have:=d1 _ F
  rw[e,this,O]
end Mth
namespace Wd
open Mth
variable {y:Int}{ts:List (List Int)}{rs:List AK}{a p:Nat}
def En(ts:List (List Int))(p:Nat)(x:Int):Prop:=∃t,ts[p]?=some t/\x∈t
def Dy(t:List Int)(a:Nat)(x:Int):List Int:=t.take a++x :: t.drop a
theorem Pn(t:List Int)(a:Nat)(x:Int):(Dy t a x).Perm (x :: t):=by
 unfold Dy;have h:=zE (a:=x) (l₁:=t.take a) (l₂:=t.drop a)
 rwa [qF]at h
theorem Px:y∈Dy t a x↔y=x\/y∈t:=by
 rw[(Pn t a x).mem_iff,nZ]
theorem QP(h:t.Nodup)(F:x∉t):(Dy t a x).Nodup:=by
 rw[(Pn t a x).nodup_iff,pj];exact⟨F,h⟩
theorem Jr(t:List Int)(a:Nat)(x:Int):(Dy t a x).length=t.length+1:=by
 rw[(Pn t a x).length_eq];rfl
theorem J5(h:ts[p]?=some t):En (ts.set p (Dy t a x)) q y↔En ts q y\/(q=p/\y=x):=by
 have hp:p<ts.length:=(nj.mp h).1;unfold En;by_cases e:p=q
 ·subst e;rw[oM hp,h];constructor
  ·rintro⟨t',I,F⟩;cases I;rcases Px.mp F with z|z
   ·exact .inr ⟨U,z⟩
   ·exact .inl ⟨t,U,z⟩
  ·rintro(⟨t',I,F⟩|⟨_,F⟩)
   ·cases I;exact⟨_,U,Px.mpr (.inr F)⟩
   ·exact⟨_,U,Px.mpr (.inl F)⟩
 ·rw[oH e];constructor
  ·intro h;exact .inl h
  ·rintro(h|⟨h,_⟩)
   ·exact h
   ·exact absurd h.symm e
theorem NO:En (ts++[u]) q y↔En ts q y\/(q=ts.length/\y∈u):=by
 unfold En;rcases so q ts.length with h|h|h
 ·rw[nX h];constructor
  ·intro z;exact .inl z
  ·rintro(z|⟨z,_⟩)
   ·exact z
   ·lia
 ·subst h;rw[vK];constructor
  ·rintro⟨t,F,I⟩;cases F;exact .inr ⟨U,I⟩
  ·rintro(⟨t,F,I⟩|⟨_,I⟩)
   ·rw[pW (nG _)]at F;cases F
   ·exact⟨_,U,I⟩
 ·constructor
  ·rintro⟨t,F,I⟩
   have:q<(ts++[u]).length:=(nj.mp F).1
   rw[nO,pw]at this;lia
  ·rintro(⟨t,F,I⟩|⟨z,_⟩)
   ·have:=(nj.mp F).1;lia
   ·lia
theorem Q9{t:List Int}(h:t.Nodup){i j:Nat}(h1:t[i]?=some x)(h2:t[j]?=some x):i=j:=by
 obtain⟨F,O⟩:=nj.mp h1;obtain⟨I,J⟩:=nj.mp h2;have hp:=rO.mp h;rcases so i j with z|z|z
 ·exact absurd (O.trans J.symm) (hp i j F I z)
 ·exact z
 ·exact absurd (J.trans O.symm) (hp j i I F z)
theorem QM{t:List Int}(h:t.Nodup)(I:t[a]?=some o):y∈t.set a v↔(y∈t/\y≠o)\/y=v:=by
 have J:a<t.length:=(nj.mp I).1;constructor
 ·intro O;obtain⟨i,hi,e⟩:=om O;have F:(t.set a v)[i]?=some y:=by rw[nh hi,e]
  by_cases z:a=i
  ·subst z;rw[oM J]at F;cases F;exact .inr rfl
  ·rw[oH z]at F;exact .inl ⟨ny F,λw=>z (Q9 h I (by rw[F,w]))⟩
 ·rintro(⟨h1,h2⟩|h1)
  ·obtain⟨i,hi,e⟩:=om h1;have F:t[i]?=some y:=by rw[nh hi,e]
   have z:a≠i:=λw=>h2 (by subst w;rw[I]at F;exact(nV F).symm)
   exact ny (by rw[oH z];exact F)
  ·rw[h1];exact ny (oM J)
theorem gj{t:List Int}(h:t.Nodup)(I:v∉t):(t.set a v).Nodup:=by
 have hp:=rO.mp h;refine rO.mpr λi j hi F J=>?_
 rw[o9]at hi F;rw[zB,zB];split
 ·split
  ·lia
  ·intro z;exact I (z ▸ oK _)
 ·split
  ·intro z;exact I (z ▸ oK _)
  ·exact hp i j hi F J
theorem Uo(h:ts[p]?=some t)(I:t.Nodup)(J:t[a]?=some o):En (ts.set p (t.set a v)) q y↔(En ts q y/\¬(q=p/\y=o))\/(q=p/\y=v):=by
 have hp:p<ts.length:=(nj.mp h).1;unfold En;by_cases e:p=q
 ·subst e;rw[oM hp,h];constructor
  ·rintro⟨t',O,F⟩;cases O;rcases(QM I J).mp F with z|z
   ·exact .inl ⟨⟨t,U,z.1⟩,λw=>z.2 w.2⟩
   ·exact .inr ⟨U,z⟩
  ·rintro(⟨⟨t',O,F⟩,e3⟩|⟨_,F⟩)
   ·cases O;exact⟨_,U,(QM I J).mpr (.inl ⟨F,λw=>e3 ⟨U,w⟩⟩)⟩
   ·exact⟨_,U,(QM I J).mpr (.inr F)⟩
 ·rw[oH e];constructor
  ·intro h;exact .inl ⟨h,λw=>e w.1.symm⟩
  ·rintro(h|⟨h,_⟩)
   ·exact h.1
   ·exact absurd h.symm e
structure Gi(ts:List (List Int))(rs:List AK):Prop where
 Bn:2<=ts.length
 Eo:ts.length<=rs.length+1
 BH:∀r∈rs,r.1<ts.length/\r.2.1<ts.length/\Sb 10 10 r.2.2
 pos:∀r∈rs,0<r.2.2
 Cs:GY ts.length rs
 PB:∀(k:Nat) (r:AK),rs[k]?=some r->∀p:Nat,En ts p (2*(k:Int)+1)↔p=r.2.1
 HV:∀(p:Nat) (x:Int),En ts p x->x<2*(rs.length:Int)
 nd:∀t∈ts,t.Nodup
 ne:∀t∈ts,t≠[]
 Ko:∀t∈ts,t.length<=2*rs.length
theorem FK{P:List Int->Prop}(h:∀t∈ts,P t)(I:P t):∀u∈ts.set p t,P u:=λu F=>by
 rcases qd F with z|z
 ·exact h u z
 ·rw[z];exact I
theorem Jz{P:List Int->Prop}(h:∀t∈ts,P t)(I:P t):∀u∈ts++[t],P u:=λu F=>by
 rcases nM.mp F with z|z
 ·exact h u z
 ·rw[nU.mp z];exact I
theorem Zs(h:GY n rs):GY n (rs++[r]):=λS F hs p hp=>h S F (λx I=>hs x (nM.mpr (.inl I))) p hp
theorem J0{rs:List α}(h:(rs++[r])[k]?=some x):rs[k]?=some x\/(k=rs.length/\x=r):=by
 rcases so k rs.length with z|z|z
 ·rw[nX z]at h;exact .inl h
 ·subst z;rw[vK]at h;exact .inr ⟨U,(nV h).symm⟩
 ·have:=(nj.mp h).1
  rw[nO,pw]at this;lia
theorem FH(rs:List AK)(r:AK):(rs++[r]).length=rs.length+1:=by rw[nO];rfl
theorem Gi.KU(g:Gi ts rs)(hp:ts[p]?=some t)(F:(ts.set p (Dy t a (2*(rs.length:Int))))[q]?=some u)(he:Sb 10 10 e)(h0:0<e):
  Gi ((ts.set p (Dy t a (2*(rs.length:Int)))).set q (Dy u b (2*(rs.length:Int)+1))) (rs++[(p,q,e)]):=by
 have lp:p<ts.length:=(nj.mp hp).1;have lq:q<ts.length:=by have:=(nj.mp F).1;rwa [o9]at this
 have tn:∀x,x∈t->x<2*(rs.length:Int):=λx I=>g.HV p x ⟨t,hp,I⟩
 have l1:∀x r,En (ts.set p (Dy t a (2*(rs.length:Int)))) r x->x<2*(rs.length:Int)+1:=λx r h=>by
  rcases(J5 hp).mp h with z|z
  ·have:=g.HV _ _ z;lia
  ·lia
 have un:∀x,x∈u->x<2*(rs.length:Int)+1:=λx I=>l1 x q ⟨u,F,I⟩
 have tm:=ny hp;have ab:∀v∈ts.set p (Dy t a (2*(rs.length:Int))),v.Nodup:=FK g.nd (QP (g.nd t tm) λz=>by have:=tn _ z;lia);have ac:∀v∈ts.set p (Dy t a (2*(rs.length:Int))),v≠[]:=FK g.ne (λz=>by have:=congrArg rE z;rw[Jr]at this;simp at this);have aa:∀v∈ts.set p (Dy t a (2*(rs.length:Int))),v.length<=2*rs.length+1:=FK (λv J=>by have:=g.Ko v J;lia) (by rw[Jr];have:=g.Ko t tm;lia);have um:=ny F;have L:((ts.set p (Dy t a (2*(rs.length:Int)))).set q (Dy u b (2*(rs.length:Int)+1))).length=ts.length:=by rw[o9,o9]
 exists by rw[L];exact g.Bn,by rw[L,FH];have:=g.Eo;lia,?_,?_,by rw[L];exact Zs g.Cs,?_,?_,?_,?_
 ·intro r O;rw[L];rcases nM.mp O with z|z
  ·exact g.BH r z
  ·rw[nU.mp z];exact⟨lp,lq,he⟩
 ·intro r O;rcases nM.mp O with z|z
  ·exact g.pos r z
  ·rw[nU.mp z];exact h0
 ·intro k r hk x;rw[J5 F,J5 hp];rcases J0 hk with z|⟨z1,z2⟩
  ·have lk:k<rs.length:=(nj.mp z).1;rw[g.PB k r z x];constructor
   ·rintro((h|⟨_,h⟩)|⟨_,h⟩)
    ·exact h
    ·lia
    ·lia
   ·intro h;exact .inl (.inl h)
  ·subst z1 z2;constructor
   ·rintro((h|⟨_,h⟩)|⟨h,_⟩)
    ·have:=g.HV _ _ h;lia
    ·lia
    ·exact h
   ·intro h;exact .inr ⟨h,U⟩
 ·intro r x h;rw[FH];rcases(J5 F).mp h with z|z
  ·have:=l1 _ _ z;lia
  ·lia
 ·exact FK ab (QP (ab u um) λz=>by have:=un _ z;lia)
 ·exact FK ac (λz=>by have:=congrArg rE z;rw[Jr]at this;simp at this)
 ·rw[FH];exact FK (λv J=>by have:=aa v J;lia) (by rw[Jr];have:=aa u um;lia)
theorem Gi.Kk(g:Gi ts rs)(hp:ts[p]?=some t)(he:Sb 10 10 e)(h0:0<e):
  Gi ((ts++[[2*(rs.length:Int)+1]]).set p (Dy t a (2*(rs.length:Int)))) (rs++[(p,ts.length,e)]):=by
 have lp:p<ts.length:=(nj.mp hp).1;have O:(ts++[[2*(rs.length:Int)+1]])[p]?=some t:=by rw[nX lp];exact hp
 have tn:∀x,x∈t->x<2*(rs.length:Int):=λx I=>g.HV p x ⟨t,hp,I⟩
 have tm:=ny hp;have L:((ts++[[2*(rs.length:Int)+1]]).set p (Dy t a (2*(rs.length:Int)))).length=ts.length+1:=by rw[o9,nO];rfl
 have aa:=g.Bn;exists by lia,by rw[L,FH];have:=g.Eo;lia,?_,?_,?_,?_,?_,?_,?_
 ·intro r F;rw[L];rcases nM.mp F with z|z
  ·obtain⟨h1,h2,h3⟩:=g.BH r z;exact⟨by lia,by lia,h3⟩
  ·rw[nU.mp z];exact⟨show p<ts.length+1 by lia,show ts.length<ts.length+1 by lia,he⟩
 ·intro r F;rcases nM.mp F with z|z
  ·exact g.pos r z
  ·rw[nU.mp z];exact h0
 ·rw[L];intro S s0 hs x I;have J:∀y,y<ts.length->S y:=g.Cs S s0 (λr F=>hs r (nM.mpr (.inl F)));rcases oP x ts.length with z|z
  ·exact J x z
  ·obtain rfl:x=ts.length:=by lia
   exact(hs (p,ts.length,e) (nM.mpr (.inr (nU.mpr rfl)))).mp (J p lp)
 ·intro k r hk x;rw[J5 O,NO];rcases J0 hk with z|⟨z1,z2⟩
  ·have lk:k<rs.length:=(nj.mp z).1;rw[g.PB k r z x];constructor
   ·rintro((h|⟨_,h⟩)|⟨_,h⟩)
    ·exact h
    ·rw[nU]at h;lia
    ·lia
   ·intro h;exact .inl (.inl h)
  ·subst z1 z2;constructor
   ·rintro((h|⟨h,_⟩)|⟨_,h⟩)
    ·have:=g.HV _ _ h;lia
    ·exact h
    ·lia
   ·intro h;exact .inl (.inr ⟨h,nU.mpr rfl⟩)
 ·intro r x h;rw[FH];rcases(J5 O).mp h with z|z
  ·rcases NO.mp z with z|z
   ·have:=g.HV _ _ z;lia
   ·have:=nU.mp z.2;lia
  ·lia
 ·exact FK (Jz g.nd (by simp)) (QP (g.nd t tm) λz=>by have:=tn _ z;lia)
 ·exact FK (Jz g.ne (by simp)) (λz=>by have:=congrArg rE z;rw[Jr]at this;simp at this)
 ·rw[FH];exact FK (Jz (λv hv=>by have:=g.Ko v hv;lia) (by simp;lia)) (by rw[Jr];have:=g.Ko t tm;lia)
theorem Gi.BJ(g:Gi ts rs){k:Nat}(I:rs[k]?=some r)(hp:ts[r.2.1]?=some t)(ha:t[a]?=some (2*(k:Int)+1))(he:Sb 10 10 e)(h0:0<e):
  Gi (ts.set r.2.1 (t.set a (2*(rs.length:Int)+1))++[[2*(k:Int)+1,2*(rs.length:Int)]]) (rs.set k (r.1,ts.length,r.2.2)++[(ts.length,r.2.1,e)]):=by
 have lk:k<rs.length:=(nj.mp I).1;have lp:r.2.1<ts.length:=(nj.mp hp).1;have rm:=ny I;have J:=ny hp;have tn:∀x,x∈t->x<2*(rs.length:Int):=λx F=>g.HV _ x ⟨t,hp,F⟩
 have L:(ts.set r.2.1 (t.set a (2*(rs.length:Int)+1))++[[2*(k:Int)+1,2*(rs.length:Int)]]).length=ts.length+1:=by rw[nO,o9];rfl
 have Lr:(rs.set k (r.1,ts.length,r.2.2)++[(ts.length,r.2.1,e)]).length=rs.length+1:=by rw[FH,o9]
 have ab:=g.Bn;have ne:ts.length≠r.2.1:=by lia
 exists by lia,by rw[L,Lr];have:=g.Eo;lia,?_,?_,?_,?_,?_,?_,?_
 ·intro x F;rw[L];rcases nM.mp F with z|z
  ·rcases qd z with w|w
   ·obtain⟨h1,h2,h3⟩:=g.BH x w;exact⟨by lia,by lia,h3⟩
   ·obtain⟨h1,h2,h3⟩:=g.BH r rm;rw[w];exact⟨show r.1<ts.length+1 by lia,show ts.length<ts.length+1 by lia,h3⟩
  ·rw[nU.mp z];exact⟨show ts.length<ts.length+1 by lia,show r.2.1<ts.length+1 by lia,he⟩
 ·intro x F;rcases nM.mp F with z|z
  ·rcases qd z with w|w
   ·exact g.pos x w
   ·rw[w];exact g.pos r rm
  ·rw[nU.mp z];exact h0
 ·rw[L];intro S s0 hs x F;have n1:S r.1↔S ts.length:=hs (r.1,ts.length,r.2.2) (nM.mpr (.inl (ny (oM lk))));have n2:S ts.length↔S r.2.1:=hs (ts.length,r.2.1,e) (nM.mpr (.inr (nU.mpr rfl)));have aa:∀y,y<ts.length->S y:=g.Cs S s0 (λq hq=>by
   obtain⟨j,O,ej⟩:=om hq;by_cases z:k=j
   ·subst z
    have:q=r:=by rw[nh O,ej]at I;exact nV I
    rw[this];exact n1.trans n2
   ·exact hs q (nM.mpr (.inl (ny (i:=j) (by rw[oH z,nh O,ej])))))
  rcases oP x ts.length with z|z
  ·exact aa x z
  ·obtain rfl:x=ts.length:=by lia
   exact n2.mpr (aa _ lp)
 ·intro j q O x;rw[NO,Uo hp (g.nd t J) ha,o9];rcases J0 O with z|⟨z1,z2⟩
  ·have lj:j<rs.length:=by have:=(nj.mp z).1;rwa [o9]at this
   by_cases w:k=j
   ·subst w;rw[oM lk]at z;cases z;constructor
    ·rintro((⟨h1,h2⟩|⟨_,h⟩)|⟨h,_⟩)
     ·exact absurd ⟨(g.PB k r I x).mp h1,U⟩ h2
     ·lia
     ·exact h
    ·intro h;exact .inr ⟨h,nZ.mpr (.inl rfl)⟩
   ·rw[oH w]at z;rw[g.PB j q z x];constructor
    ·rintro((⟨h1,_⟩|⟨_,h⟩)|⟨_,h⟩)
     ·exact h1
     ·lia
     ·simp only[nZ,pD,qV]at h;lia
    ·intro h;exact .inl (.inl ⟨h,λy=>by lia⟩)
  ·rw[o9]at z1;subst z1 z2;constructor
   ·rintro((⟨h1,_⟩|⟨h,_⟩)|⟨_,h⟩)
    ·have:=g.HV _ _ h1;lia
    ·exact h
    ·simp only[nZ,pD,qV]at h;lia
   ·intro h;exact .inl (.inr ⟨h,U⟩)
 ·intro p x h;rw[Lr];rcases NO.mp h with z|z
  ·rcases(Uo hp (g.nd t J) ha).mp z with w|w
   ·have:=g.HV _ _ w.1;lia
   ·lia
  ·have:=z.2
   simp only[nZ,pD,qV]at this;lia
 ·refine Jz (FK g.nd (gj (g.nd t J) λz=>by have:=tn _ z;lia)) ?_;simp;lia
 ·refine Jz (FK g.ne (λz=>?_)) (by simp)
  have:=congrArg rE z
  rw[o9]at this;exact g.ne t J (rS.mp this)
 ·rw[Lr];refine Jz (FK (λv hv=>by have:=g.Ko v hv;lia) (by rw[o9];have:=g.Ko t J;lia)) (by simp;lia)
theorem Gi.first(he:Sb 10 10 e)(h0:0<e):Gi [[0,-2],[1,-1]] [(0,1,e)]:=by
 have O:∀p (x:Int),En [[0,-2],[1,-1]] p x↔(p=0/\(x=0\/x=-2))\/(p=1/\(x=1\/x=-1)):=by
  intro p x;unfold En
  match p with
  |0=>simp
  |1=>simp
  |p+2=>simp
 refine⟨by simp,by simp,?_,?_,?_,?_,?_,by simp,by simp,by simp⟩
 ·intro r F;rw[nU.mp F];exact⟨by simp,by simp,he⟩
 ·intro r F;rw[nU.mp F];exact h0
 ·intro S J hs p hp
  have:=(hs (0,1,e) (by simp)).mp J
  match p,hp with
  |0,_=>exact J
  |1,_=>exact this
  |p+2,hp=>simp at hp;lia
 ·intro k r I p
  have:k=0:=by have:=(nj.mp I).1;simpa using this
  subst this;simp only[List.getElem?_cons_zero]at I;cases I;rw[O];simp
 ·intro p x h;rw[O]at h;simp
  lia
end Wd
namespace Wd
open Mth
variable {T:List (List Rat)}{ms:List Nat}{S cs rs:List AK}{N a i j m p s u v:Nat}{σ τ:Nat->Nat}{X:Nat->Rat}{r:AK}
def BQ(ms:List Nat)(r:AK):List Nat:=ms.map λx=>if x=ms.getD r.2.1 0 then ms.getD r.1 0 else x
def Bo:List Nat->List AK->Option (List Nat)
 |ms,[]=>some ms
 |ms,r :: cs=>if ms.getD r.1 0=ms.getD r.2.1 0 then none else Bo (BQ ms r) cs
def A7(ms:List Nat)(cs:List AK):List Nat:=cs.foldl BQ ms
def DL(n:Nat)(p:Nat->Bool):Nat:=(nz n).countP p
theorem Ip(n:Nat)(p:Nat->Bool):DL (n+1) p=DL n p+if p n then 1 else 0:=by
 unfold DL;rw[uZ,List.countP_append,List.countP_singleton]
theorem Pc{p q:Nat->Bool}(h:∀x,x<n->p x=q x):DL n p=DL n q:=by
 induction n with
 |zero=>rfl
 |succ n ih=>rw[Ip,Ip,ih (λx F=>h x (by lia)),h n (by lia)]
theorem IF{p:Nat->Bool}(J:b<n)(h:p b=true):DL n (λx=>p x && x != b)+1=DL n p:=by
 induction n with
 |zero=>lia
 |succ n ih =>
  rw[Ip,Ip];by_cases e:b=n
  ·subst e;rw[Pc (q:=p) (λx I=>by have:(x != b)=true:=(by simp;lia);rw[this,aag])];simp[h]
  ·have:=ih (by lia)
   have F:(n != b)=true:=by simp;lia
   rw[F,aag]
   lia
theorem HC{p:Nat->Bool}:DL n p=0↔∀x,x<n->p x=false:=by
 unfold DL;rw[List.countP_eq_zero];simp
theorem QR{p:Nat->Bool}:DL n p=n↔∀x,x<n->p x=true:=by
 unfold DL
 have:=List.countP_eq_length (p:=p) (l:=nz n)
 rw[oX]at this;rw[this];simp
theorem je{p q:Nat->Bool}(h:∀x,x<n->¬(p x=true/\q x=true)):DL n p+DL n q=DL n (λx=>p x || q x):=by
 induction n with
 |zero=>rfl
 |succ n ih =>
  rw[Ip,Ip,Ip]
  have:=ih (λx I=>h x (by lia))
  have F:=h n (by lia);cases hp:p n<;>cases J:q n<;>simp_all<;>lia
def CL(n:Nat)(ms:List Nat):Nat:=DL n λx=>decide (x∈ms)
theorem K7(n:Nat):CL n (nz n)=n:=QR.mpr λx F=>by simp[F]
structure Br(n:Nat)(ms:List Nat):Prop where
 len:ms.length=n
 lt:∀x∈ms,x<n
theorem getD_mem(h:i<ms.length):ms.getD i 0∈ms:=by
 rw[nq,nh h];exact oK h
theorem GK(h:u<ms.length):(BQ ms r).getD u 0=if ms.getD u 0=ms.getD r.2.1 0 then ms.getD r.1 0 else ms.getD u 0:=by
 unfold BQ;simp only[nq,nJ,nh h,zV,qD]
theorem Br.DS(k:Br n ms)(h1:r.1<n):Br n (BQ ms r):=by
 refine⟨by unfold BQ;rw[nc];exact k.len,λx F=>?_⟩;obtain⟨y,I,e⟩:=nS.mp F;subst e;split
 ·exact k.lt _ (getD_mem (by rw[k.len];exact h1))
 ·exact k.lt _ I
theorem PQ(k:Br n ms)(h1:r.1<n)(h2:r.2.1<n)(I:ms.getD r.1 0≠ms.getD r.2.1 0):CL n (BQ ms r)+1=CL n ms:=by
 have m1:=getD_mem (i:=r.1) (by rw[k.len];exact h1);have F:=getD_mem (i:=r.2.1) (by rw[k.len];exact h2)
 have:=IF (p:=λx=>decide (x∈ms)) (k.lt _ F) (by simpa using F)
 unfold CL;rw[<-this];congr 1;refine Pc λx _=>?_
 rw[qc,pA,oR,oR,bne_iff_ne];unfold BQ;rw[nS];constructor
 ·rintro⟨y,hy,e⟩;by_cases z:y=ms.getD r.2.1 0
  ·rw[nF z]at e;subst e;exact⟨m1,I⟩
  ·rw[nv z]at e;subst e;exact⟨hy,z⟩
 ·rintro⟨J,O⟩;exact⟨x,J,by rw[nv O]⟩
theorem Se(e:ms.getD r.1 0=ms.getD r.2.1 0):BQ ms r=ms:=by
 unfold BQ;rw[e]
 conv=>rhs;rw[<-List.map_id ms]
 refine o7 λx _=>?_
 split
 ·rename_i z;exact z.symm
 ·rfl
theorem TN:∀{cs:List AK} {ms:List Nat},Br n ms->(∀r∈cs,r.1<n/\r.2.1<n)->CL n ms<=CL n (A7 ms cs)+cs.length
 |[],ms,_,_=>by show CL n ms<=CL n ms+0;lia
 |r :: cs,ms,k,h=>by
  have F:=h r (by simp);have I:=TN (cs:=cs) (k.DS (r:=r) F.1) (λr F=>h r (by simp[F]));show CL n ms<=CL n (A7 (BQ ms r) cs)+(cs.length+1);by_cases e:ms.getD r.1 0=ms.getD r.2.1 0
  ·rw[Se e]at I ⊢;lia
  ·have:=PQ k F.1 F.2 e;lia
theorem Gw:∀{cs:List AK} {ms F:List Nat},Br n ms->(∀r∈cs,r.1<n/\r.2.1<n)->Bo ms cs=some F->F=A7 ms cs/\CL n F+cs.length=CL n ms
 |[],ms,F,_,_,e=>by
  obtain rfl:ms=F:=nV e;exact⟨U,U⟩
 |r :: cs,ms,F,k,h,e=>by
  have I:=h r (by simp);unfold Bo at e;by_cases z:ms.getD r.1 0=ms.getD r.2.1 0
  ·rw[nF z]at e;cases e
  ·rw[nv z]at e;have J:=Gw (k.DS (r:=r) I.1) (λr I=>h r (by simp[I])) e
   have:=PQ k I.1 I.2 z
   exists J.1
   have:=J.2
   rw[oA];lia
theorem PV:∀{cs:List AK} {ms:List Nat},Br n ms->(∀r∈cs,r.1<n/\r.2.1<n)->Bo ms cs=none->CL n ms<CL n (A7 ms cs)+cs.length
 |[],ms,_,_,e=>by cases e
 |r :: cs,ms,k,h,e=>by
  have F:=h r (by simp);show CL n ms<CL n (A7 (BQ ms r) cs)+(cs.length+1);unfold Bo at e;by_cases z:ms.getD r.1 0=ms.getD r.2.1 0
  ·have:=TN (cs:=cs) (k.DS (r:=r) F.1) (λr F=>h r (by simp[F]))
   rw[Se z]at this ⊢
   lia
  ·rw[nv z]at e;have I:=PV (k.DS (r:=r) F.1) (λr F=>h r (by simp[F])) e
   have:=PQ k F.1 F.2 z
   lia
theorem I0:∀{cs:List AK} {ms:List Nat},Br n ms->(∀r∈cs,r.1<n/\r.2.1<n)->Br n (A7 ms cs)
 |[],_,k,_=>k
 |r :: cs,_,k,h=>I0 (cs:=cs) (k.DS (r:=r) (h r (by simp)).1) (λr F=>h r (by simp[F]))
theorem PK:∀{cs:List AK} {ms:List Nat} {u v:Nat},Br n ms->(∀r∈cs,r.1<n/\r.2.1<n)->u<n->v<n->ms.getD u 0=ms.getD v 0->(A7 ms cs).getD u 0=(A7 ms cs).getD v 0
 |[],_,_,_,_,_,_,_,e=>e
 |r :: cs,ms,u,v,k,h,hu,hv,e=>by
  refine PK (cs:=cs) (k.DS (r:=r) (h r (by simp)).1) (λr F=>h r (by simp[F])) hu hv ?_;rw[GK (by rw[k.len];exact hu),GK (by rw[k.len];exact hv),e]
theorem Rz:∀{cs:List AK} {ms:List Nat},Br n ms->(∀r∈cs,r.1<n/\r.2.1<n)->∀r∈cs,(A7 ms cs).getD r.1 0=(A7 ms cs).getD r.2.1 0
 |r :: cs,ms,k,h,x,hx=>by
  have F:=h r (by simp);have I:=k.DS (r:=r) F.1;rcases nZ.mp hx with rfl|hx
  ·refine PK (cs:=cs) I (λr F=>h r (by simp[F])) F.1 F.2 ?_;rw[GK (by rw[k.len];exact F.1),GK (by rw[k.len];exact F.2),nF rfl];split
   ·rfl
   ·rfl
  ·exact Rz (cs:=cs) I (λr F=>h r (by simp[F])) x hx
theorem R9{S:Nat->Prop}:∀{cs:List AK} {ms:List Nat},Br n ms->(∀r∈cs,r.1<n/\r.2.1<n)->(∀r∈cs,S r.1↔S r.2.1)->(∀u v,u<n->v<n->ms.getD u 0=ms.getD v 0->(S u↔S v)) →
  ∀u v,u<n->v<n->(A7 ms cs).getD u 0=(A7 ms cs).getD v 0->(S u↔S v)
 |[],_,_,_,_,h=>h
 |r :: cs,ms,k,hb,hc,h=>by
  have F:=hb r (by simp);refine R9 (cs:=cs) (k.DS (r:=r) F.1) (λr F=>hb r (by simp[F])) (λr F=>hc r (by simp[F])) λu v I J e=>?_
  rw[GK (by rw[k.len];exact I),GK (by rw[k.len];exact J)]at e;have aa:=hc r (by simp);split at e
  ·rename_i z1
   split at e
   ·rename_i O
    exact h u v I J (z1.trans O.symm)
   ·exact(h u _ I F.2 z1).trans (aa.symm.trans (h _ v F.1 J e))
  ·split at e
   ·rename_i O
    exact((h u _ I F.1 e).trans aa).trans (h _ v F.2 J O.symm)
   ·exact h u v I J e
theorem Cf(n:Nat):Br n (nz n):=⟨oX,λx F=>oJ.mp F⟩
theorem DW(h:u<n):(nz n).getD u 0=u:=by
 rw[nq,pY h];rfl
structure HQ(n s:Nat)(cs:List AK)(l:List Int):Prop where
 nd:l.Nodup
 FA:∀x∈l,0<=x/\x<(n:Int)
 st:(s:Int)∈l
 Lu:∀S:Int->Prop,S (s:Int)->(∀r∈cs,(S (r.1:Int)↔S (r.2.1:Int)))->∀x∈l,S x
 jK:∀r∈cs,((r.1:Int)∈l↔(r.2.1:Int)∈l)
theorem HQ.mem(k:HQ n s cs l)(hs:s<n)(I:∀r∈cs,r.1<n/\r.2.1<n)(F:u<n):(u:Int)∈l↔(A7 (nz n) cs).getD u 0=(A7 (nz n) cs).getD s 0:=by
 constructor
 ·intro h;refine k.Lu (λx=>(A7 (nz n) cs).getD x.toNat 0=(A7 (nz n) cs).getD s 0) rfl (λr J=>?_) _ h;rw[show((r.1:Nat):Int).toNat=r.1 from rfl,show((r.2.1:Nat):Int).toNat=r.2.1 from rfl,Rz (Cf n) I r J]
 ·intro h;refine(R9 (S:=λx=>((x:Nat):Int)∈l) (Cf n) I k.jK (λu v F O e=>?_) u s F hs h).mpr k.st;rw[DW F,DW O]at e;rw[e]
theorem NZ{n:Nat}:∀{l:List Int},l.Nodup->(∀x∈l,0<=x/\x<(n:Int))->l.length=DL n λu=>decide ((u:Int)∈l)
 |[],_,_=>by rw[HC.mpr (by simp)];rfl
 |x :: l,nd,h=>by
  obtain⟨I,F⟩:=pj.mp nd;obtain⟨x0,x1⟩:=h x (by simp);have J:=NZ F (λy O=>h y (by simp[O]))
  have:=IF (n:=n) (b:=x.toNat) (p:=λu=>decide ((u:Int)∈x :: l)) (by lia) (by rw[oR];rw[show((x.toNat:Nat):Int)=x by lia];simp)
  rw[<-this,oA,J];congr 1;refine Pc λu _=>?_
  rw[qc,pA,oR,oR,bne_iff_ne,nZ];constructor
  ·intro hu;exact⟨.inr hu,λz=>I (by rw[z]at hu;rwa [show((x.toNat:Nat):Int)=x by lia]at hu)⟩
  ·rintro⟨hu|hu,hn⟩
   ·exact absurd (by lia) hn
   ·exact hu
theorem bJ(hn:cs.length+1=n)(J:∀r∈cs,r.1<n/\r.2.1<n)(k:HQ n 0 cs l):l.length=n↔Bo (nz n) cs≠none:=by
 have O:0<n:=by lia
 have I:=I0 (Cf n) J;have m0:=getD_mem (ms:=A7 (nz n) cs) (i:=0) (by rw[I.len];exact O);have e1:l.length=n↔∀u,u<n->(A7 (nz n) cs).getD u 0=(A7 (nz n) cs).getD 0 0:=by
  rw[NZ k.nd k.FA,QR];constructor
  ·intro h u F;exact(k.mem O J F).mp (by simpa using h u F)
  ·intro h u F;simpa using (k.mem O J F).mpr (h u F)
 have e2:CL n (A7 (nz n) cs)=1↔∀u,u<n->(A7 (nz n) cs).getD u 0=(A7 (nz n) cs).getD 0 0:=by
  have:=IF (n:=n) (p:=λx=>decide (x∈A7 (nz n) cs)) (I.lt _ m0) (by simpa using m0)
  unfold CL;rw[<-this];constructor
  ·intro h u F;have z:=HC.mp (uq h) _ (I.lt _ (getD_mem (i:=u) (by rw[I.len];exact F)));rw[pk]at z;rcases z with z|z
   ·rw[decide_eq_false_iff_not]at z;exact absurd (getD_mem (by rw[I.len];exact F)) z
   ·simpa using z
  ·intro h
   have:DL n (λx=>decide (x∈A7 (nz n) cs) && x != (A7 (nz n) cs).getD 0 0)=0:=HC.mpr λx _=>by
    rw[pk];by_cases hx:x∈A7 (nz n) cs
    ·obtain⟨i,hi,e⟩:=om hx
     have:=h i (by rw[<-I.len];exact hi)
     rw[nq,nh hi,qD,e]at this;exact .inr (by simpa using this)
    ·exact .inl (by simpa using hx)
   lia
 rw[e1,<-e2];have f:=K7 n;cases h:Bo (nz n) cs with
 |none =>
  have:=PV (Cf n) J h
  constructor
  ·intro z;lia
  ·intro z;exact absurd rfl z
 |some out =>
  obtain⟨rfl,z⟩:=Gw (Cf n) J h;constructor
  ·intro _ w;cases w
  ·intro _;lia
theorem bV(hn:cs.length+2=n)(J:∀r∈cs,r.1<n/\r.2.1<n)(k0:HQ n 0 cs l0)(k1:HQ n 1 cs l1):
  ((1:Int)∉l0/\l0.length+l1.length=n)↔∃ms,Bo (nz n) cs=some ms/\ms.getD 0 0≠ms.getD 1 0:=by
 have n0:0<n:=by lia
 have n1:1<n:=by lia
 have O:=I0 (Cf n) J;have m0:=getD_mem (ms:=A7 (nz n) cs) (i:=0) (by rw[O.len];exact n0);have m1:=getD_mem (ms:=A7 (nz n) cs) (i:=1) (by rw[O.len];exact n1);have f:=K7 n;have e0:(1:Int)∉l0↔(A7 (nz n) cs).getD 0 0≠(A7 (nz n) cs).getD 1 0:=by
  have:=k0.mem n0 J n1
  rw[show((1:Nat):Int)=1 from rfl]at this;rw[this];constructor
  ·intro h z;exact h z.symm
  ·intro h z;exact h z.symm
 have e1:(A7 (nz n) cs).getD 0 0≠(A7 (nz n) cs).getD 1 0->(l0.length+l1.length=n↔∀u,u<n->(A7 (nz n) cs).getD u 0=(A7 (nz n) cs).getD 0 0\/(A7 (nz n) cs).getD u 0=(A7 (nz n) cs).getD 1 0):=by
  intro I;rw[NZ k0.nd k0.FA,NZ k1.nd k1.FA,je,QR]
  ·constructor
   ·intro h u F
    have:=h u F
    rw[uV,oR,oR,k0.mem n0 J F,k1.mem n1 J F]at this;exact this
   ·intro h u F;rw[uV,oR,oR,k0.mem n0 J F,k1.mem n1 J F];exact h u F
  ·intro u F z;rw[oR,oR,k0.mem n0 J F,k1.mem n1 J F]at z;exact I (z.1.symm.trans z.2)
 have e2:(A7 (nz n) cs).getD 0 0≠(A7 (nz n) cs).getD 1 0->(CL n (A7 (nz n) cs)=2↔∀u,u<n->(A7 (nz n) cs).getD u 0=(A7 (nz n) cs).getD 0 0\/(A7 (nz n) cs).getD u 0=(A7 (nz n) cs).getD 1 0):=by
  intro I;have r1:=IF (n:=n) (p:=λx=>decide (x∈A7 (nz n) cs)) (O.lt _ m0) (by simpa using m0);have r2:=IF (n:=n) (b:=(A7 (nz n) cs).getD 1 0) (p:=λx=>decide (x∈A7 (nz n) cs) && x != (A7 (nz n) cs).getD 0 0) (O.lt _ m1) (by
   rw[pA,oR,bne_iff_ne];exact⟨m1,λz=>I z.symm⟩)
  unfold CL;rw[<-r1,<-r2];constructor
  ·intro h u F;have mu:=getD_mem (ms:=A7 (nz n) cs) (i:=u) (by rw[O.len];exact F);have z:=HC.mp (uq (uq h)) _ (O.lt _ mu);rw[pk,pk]at z;rcases z with (z|z)|z
   ·rw[decide_eq_false_iff_not]at z;exact absurd mu z
   ·exact .inl (by simpa using z)
   ·exact .inr (by simpa using z)
  ·intro h
   have:DL n (λx=>(decide (x∈A7 (nz n) cs) && x != (A7 (nz n) cs).getD 0 0) && x != (A7 (nz n) cs).getD 1 0)=0:=HC.mpr λx _=>by
    rw[pk,pk];by_cases hx:x∈A7 (nz n) cs
    ·obtain⟨i,hi,e⟩:=om hx
     have:=h i (by rw[<-O.len];exact hi)
     rw[nq,nh hi,qD,e]at this;rcases this with z|z
     ·exact .inl (.inr (by simpa using z))
     ·exact .inr (by simpa using z)
    ·exact .inl (.inl (by simpa using hx))
   lia
 cases h:Bo (nz n) cs with
 |none =>
  have:=PV (Cf n) J h
  constructor
  ·rintro⟨a,b⟩;have I:=e0.mp a
   have:=(e2 I).mpr ((e1 I).mp b)
   lia
  ·rintro⟨ms,z,_⟩;cases z
 |some out =>
  obtain⟨rfl,z⟩:=Gw (Cf n) J h;constructor
  ·rintro⟨a,b⟩;exact⟨_,U,e0.mp a⟩
  ·rintro⟨ms,w,I⟩;obtain rfl:=nV w;exact⟨e0.mpr I,(e1 I).mpr ((e2 I).mp (by lia))⟩
def Bp(r:List Nat):Nat:=match r.getLast? with|none=>0|some x=>x+1
def Bz(m:Nat):Nat->List (List Nat)
 |0=>[[]]
 |s+1=>(Bz m s).flatMap λr=>(qM (Bp r) (m-Bp r)).map λx=>r++[x]
theorem P2:∀m,m<10->∀s,s<10->(Bz m s).length<=126:=by decide +kernel
theorem NC:∀{s:Nat} {r:List Nat},r∈Bz m s->r.length=s/\∀x∈r,x<m
 |0,r,h=>by
  rw[show Bz m 0=[[]] from rfl,nU]at h;subst h;simp
 |s+1,r,h=>by
  rw[show Bz m (s+1)=(Bz m s).flatMap λr=>(qM (Bp r) (m-Bp r)).map λx=>r++[x] from rfl,zD]at h;obtain⟨q,J,h⟩:=h;obtain⟨x,F,rfl⟩:=nS.mp h;obtain⟨l,b⟩:=NC J;rw[wc]at F;refine⟨by rw[nO,l];rfl,λy I=>?_⟩;rcases nM.mp I with z|z
  ·exact b y z
  ·rw[nU]at z;omega
def An(V:Nat->AW)(i:Nat)(u:AW):Nat->AW:=λk=>if k=i then u else V k
def dF(n:Nat)(V:Nat->AW):Rat:=ld n n (wn V n)
theorem HI(n:Nat)(V:Nat->AW):dF n V=ld n n (Ac ((nz n).map V) Ah):=by
 unfold dF;rw[WE ((nz n).map V) V,nc,oX];intro i v h;rw[nJ]at h;obtain⟨k,F,rfl⟩:=qN.mp h;obtain⟨_,e⟩:=nj.mp F;rw[yx]at e;rw[e]
theorem CK(h:∀i,i<n->V i=W i):dF n V=dF n W:=by
 rw[HI,HI];congr 2;exact o7 λi hi=>h i (oJ.mp hi)
theorem C0(V:Nat->AW)(i:Nat)(u:AW):An V i u i=u:=nF rfl
theorem C3{u:AW}(h:k≠i):An V i u k=V k:=nv h
theorem Ey(V:Nat->AW)(i:Nat):An V i (V i)=V:=by
 funext k
 unfold An;split
 ·rename_i e;rw[e]
 ·rfl
theorem Ec(V:Nat->AW)(h:i≠j)(u v:AW):An (An V i u) j v=An (An V j v) i u:=by
 funext k
 unfold An;split
 ·split
  ·lia
  ·rfl
 ·rfl
theorem Ir(h:i<n)(V:Nat->AW)(u:AW):(nz n).map (An V i u)=(nz i).map V++u :: (qM (i+1) (n-(i+1))).map V:=by
 have e:nz n=nz i++i :: qM (i+1) (n-(i+1)):=by
  rw[xO,xO];have I:n=i+(1+(n-(i+1))):=by omega
  conv=>lhs;rw[I]
  rw[<-List.range'_append_1,tJ,r8 1,zF]
 rw[e,nY,nK,C0];congr 1
 ·exact o7 λk F=>C3 (by have:=oJ.mp F;omega)
 ·congr 1;exact o7 λk F=>C3 (by have:=wc.mp F;omega)
theorem Fs(h:i<n)(V:Nat->AW)(u v:AW):dF n (An V i λj=>u j+v j)=dF n (An V i u)+dF n (An V i v):=by
 rw[HI,HI,HI,Ir h,Ir h,Ir h];unfold ld;rw[Mg];grind
theorem GN(h:i<n)(V:Nat->AW)(c:Rat)(u:AW):dF n (An V i λj=>c*u j)=c*dF n (An V i u):=by
 rw[HI,HI,Ir h,Ir h];unfold ld;rw[R4];grind
theorem SX(F:i<j)(h:j<n)(V:Nat->AW)(u:AW):dF n (An (An V i u) j u)=0:=by
 rw[HI,Ir h];have e:(nz j).map (An V i u)=(nz i).map V++u :: (qM (i+1) (j-(i+1))).map V:=Ir F V u;rw[e];unfold ld
 have:=Mn ((nz i).map V) ((qM (i+1) (j-(i+1))).map V) ((qM (j+1) (n-(j+1))).map (An V i u)) u Ah (Tk n n)
 rw[this];grind
theorem KH(F:i≠j)(hi:i<n)(I:j<n)(V:Nat->AW)(u:AW):dF n (An (An V i u) j u)=0:=by
 rcases Nat.lt_or_gt_of_ne F with z|z
 ·exact SX z I V u
 ·rw[Ec V F];exact SX z hi V u
theorem JD(F:i≠j)(hi:i<n)(I:j<n)(V:Nat->AW)(c:Rat)(u:AW):dF n (An V i λk=>u k+c*V j k)=dF n (An V i u):=by
 rw[Fs hi,GN hi]
 have:dF n (An V i (V j))=0:=by
  have:=KH F hi I V (V j)
  rw[Ec V F,Ey]at this;exact this
 rw[this];grind
theorem gA(F:i≠j)(hi:i<n)(I:j<n)(V:Nat->AW)(u v:AW):dF n (An (An V i u) j v)=- dF n (An (An V i v) j u):=by
 have h:=KH F hi I V (λk=>u k+v k);have J:∀w,dF n (An (An V i λk=>u k+v k) j w)=dF n (An (An V i u) j w)+dF n (An (An V i v) j w):=λw=>by
  rw[Ec V F,Fs hi,<-Ec V F,<-Ec V F]
 rw[Fs I,J u,J v,KH F hi I,KH F hi I]at h
 grind
theorem Uh(h:i<n)(V:Nat->AW):dF n (An V i λ_=>0)=0:=by
 have:=GN h V 0 (λ_=>0)
 have e:(λj:Nat=>(0:Rat)*(λ_=>0:AW) j)=(λ_=>0:AW):=by funext j;grind
 rw[e]at this
 grind
def AQ(i:Nat):AW:=λj=>if j=i then 1 else 0
def CO(rs:List AK)(i:Nat):AW:=λj=>(rs.map λr=>B6 r i j).sum
theorem J6(r:AK)(i j:Nat):B6 r i j=r.2.2*(AQ r.1 i-AQ r.2.1 i)*(AQ r.1 j-AQ r.2.1 j):=by
 unfold B6 AQ;by_cases e:r.1=r.2.1
 ·rw[nF e,e];grind
 ·rw[nv e];by_cases h1:i=r.1<;>by_cases h2:i=r.2.1<;>by_cases I:j=r.1<;>by_cases F:j=r.2.1<;>simp_all<;>grind
def DZ(n:Nat)(ms:List Nat)(rs:List AK)(a:Nat):AW:=λj=>AV (λi=>if ms.getD i 0=a then CO rs i j else 0) n
def BO(n:Nat)(root:Nat->Bool)(ms:List Nat)(a:Nat):Bool:=(nz n).any λi=>root i && ms.getD i 0 == a
def xV(n:Nat)(root:Nat->Bool)(ms:List Nat)(rs:List AK)(i:Nat):AW :=
 if ms.getD i 0=i then (if BO n root ms i then AQ i else DZ n ms rs i) else λj=>AQ i j-AQ (ms.getD i 0) j
theorem LQ(h1:r.1<n)(h2:r.2.1<n)(j:Nat):
  DZ n ms (r :: rs) a j=DZ n ms rs a j+r.2.2*((if ms.getD r.1 0=a then 1 else 0)-(if ms.getD r.2.1 0=a then 1 else 0))*(AQ r.1 j-AQ r.2.1 j):=by
 unfold DZ;have e:(λi=>if ms.getD i 0=a then CO (r :: rs) i j else 0)=λi=>(if ms.getD i 0=a then CO rs i j else 0)+(if ms.getD i 0=a then B6 r i j else 0):=by
  funext i
  unfold CO;rw[nK,ow];split<;>grind
 rw[e,D5];congr 1;have O:(λi=>if ms.getD i 0=a then B6 r i j else 0)=λi=>(r.2.2*(AQ r.1 j-AQ r.2.1 j))*((if ms.getD i 0=a then AQ r.1 i else 0)-(if ms.getD i 0=a then AQ r.2.1 i else 0)):=by
  funext i
  rw[J6];split<;>grind
 rw[O,Es];have F:∀u,u<n->AV (λi=>if ms.getD i 0=a then AQ u i else 0) n=if ms.getD u 0=a then 1 else 0:=λu J=>by
  rw[GI (i:=u) J]
  ·unfold AQ;simp
  ·intro l _ I;unfold AQ;rw[nv I];split<;>rfl
 have aa:∀f g:Nat->Rat,AV (λi=>f i-g i) n=AV f n-AV g n:=λf g=>by
  have h:=D5 (λi=>f i-g i) g n;have e:(λj=>f j-g j+g j)=f:=by funext j;grind
  rw[e]at h
  grind
 rw[aa,F _ h1,F _ h2]
 grind
def Hj(n:Nat)(ms:List Nat):Prop:=∀i,i<n->ms.getD (ms.getD i 0) 0=ms.getD i 0
theorem lK(n:Nat):Hj n (nz n):=λi hi=>by rw[DW hi,DW hi]
theorem IE(k:Br n ms)(h:i<n):ms.getD i 0<n:=k.lt _ (getD_mem (by rw[k.len];exact h))
theorem Hj.DS(k:Br n ms)(l:Hj n ms)(h1:r.1<n)(h2:r.2.1<n):Hj n (BQ ms r):=λi hi=>by
 have I:=IE k hi;have J:=IE k h1;have F:=GK (r:=r) (u:=i) (by rw[k.len];exact hi);by_cases e:ms.getD i 0=ms.getD r.2.1 0
 ·rw[nF e]at F;rw[F,GK (by rw[k.len];exact J),l _ h1];split<;>rfl
 ·rw[nv e]at F;rw[F,GK (by rw[k.len];exact I),l _ hi,nv e]
theorem Za(I:b<n)(U:Nat->AW)(p:Nat->Prop)[DecidablePred p]:dF n (λk=>if p k/\k≠b then (λj=>U k j+U b j) else U k)=dF n U:=by
 have F:∀t,t<=n->dF n (λk=>if p k/\k≠b/\k<t then (λj=>U k j+U b j) else U k)=dF n U:=by
  intro t
  induction t with
  |zero =>
   intro _;refine CK λi _=>?_
   rw[nv (by lia)]
  |succ t ih =>
   intro O;rw[<-ih (by lia)];by_cases hp:p t/\t≠b
   ·have J:dF n (λk=>if p k/\k≠b/\k<t+1 then (λj=>U k j+U b j) else U k)=dF n (An (λk=>if p k/\k≠b/\k<t then (λj=>U k j+U b j) else U k) t λj=>U t j+1*(λk=>if p k/\k≠b/\k<t then (λj=>U k j+U b j) else U k) b j):=by
     refine CK λi _=>?_
     by_cases e:i=t
     ·subst e;rw[C0,nF ⟨hp.1,hp.2,zI _⟩]
      funext j
      simp only[ne_eq,not_true_eq_false,false_and,and_false,if_false]
      grind
     ·rw[C3 e];by_cases z:p i/\i≠b/\i<t
      ·rw[nF z,nF ⟨z.1,z.2.1,by lia⟩]
      ·rw[nv z,nv (λw=>z ⟨w.1,w.2.1,by lia⟩)]
    rw[J,JD hp.2 (by lia) I];refine CK λi _=>?_
    by_cases e:i=t
    ·subst e;rw[C0,nv (by lia)]
    ·rw[C3 e]
   ·refine CK λi _=>?_
    by_cases e:i=t
    ·subst e;rw[nv (λw=>hp ⟨w.1,w.2.1⟩),nv (by lia)]
    ·by_cases z:p i/\i≠b/\i<t
     ·rw[nF z,nF ⟨z.1,z.2.1,by lia⟩]
     ·rw[nv z,nv (λw=>z ⟨w.1,w.2.1,by lia⟩)]
 rw[<-F n (nG _)];refine CK λi hi=>?_
 by_cases z:p i/\i≠b
 ·rw[nF z,nF ⟨z.1,z.2,hi⟩]
 ·rw[nv z,nv (λw=>z ⟨w.1,w.2.1⟩)]
theorem KJ(h:ms.getD i 0≠i):xV n root ms rs i=λj=>AQ i j-AQ (ms.getD i 0) j:=by unfold xV;rw[nv h]
theorem Jy(h:ms.getD i 0=i)(F:BO n root ms i=true):xV n root ms rs i=AQ i:=by unfold xV;rw[nF h,nF F]
theorem E2(h:ms.getD i 0=i)(F:BO n root ms i=false):xV n root ms rs i=DZ n ms rs i:=by unfold xV;rw[nF h,F];rfl
theorem Wh(l:Hj n ms)(h1:r.1<n)(h2:r.2.1<n)(hi:i<n)(i1:ms.getD i 0=i)(J:r.1=i->ms.getD r.1 0=i)(I:r.2.1=i->ms.getD r.2.1 0=i):
  dF n (An (xV n root ms rs) i λj=>AQ r.1 j-AQ r.2.1 j)=dF n (An (xV n root ms rs) i λj=>AQ (ms.getD r.1 0) j-AQ (ms.getD r.2.1 0) j):=by
 have O:dF n (An (xV n root ms rs) i λj=>AQ r.1 j-AQ r.2.1 j)=dF n (An (xV n root ms rs) i λj=>AQ (ms.getD r.1 0) j-AQ r.2.1 j):=by
  by_cases e:ms.getD r.1 0=r.1
  ·rw[e]
  ·have F:i≠r.1:=λz=>e (by rw[J z.symm];exact z)
   rw[<-JD F hi h1 (xV n root ms rs) 1 (λj=>AQ (ms.getD r.1 0) j-AQ r.2.1 j),KJ e];congr 2
   funext j;grind
 rw[O];by_cases e:ms.getD r.2.1 0=r.2.1
 ·rw[e]
 ·have F:i≠r.2.1:=λz=>e (by rw[I z.symm];exact z)
  rw[<-JD F hi h2 (xV n root ms rs) (-1) (λj=>AQ (ms.getD r.1 0) j-AQ (ms.getD r.2.1 0) j),KJ e];congr 2
  funext j;grind
section
variable {n:Nat}{root:Nat->Bool}{ms:List Nat}{rs:List AK}{r:AK}
theorem C9(k:Br n ms)(hi:i<n):(BQ ms r).getD i 0=if ms.getD i 0=ms.getD r.2.1 0 then ms.getD r.1 0 else ms.getD i 0:=GK (by rw[k.len];exact hi)
theorem D3:BO n root ms a=true↔∃i,i<n/\root i=true/\ms.getD i 0=a:=by
 unfold BO;rw[List.any_eq_true];constructor
 ·rintro⟨i,hi,h⟩;rw[pA,beq_iff_eq]at h;exact⟨i,oJ.mp hi,h.1,h.2⟩
 ·rintro⟨i,hi,h1,h2⟩;exact⟨i,oJ.mpr hi,by rw[pA,beq_iff_eq];exact⟨h1,h2⟩⟩
theorem Xz(k:Br n ms)(F:c≠ms.getD r.1 0)(I:c≠ms.getD r.2.1 0):BO n root (BQ ms r) c=BO n root ms c:=by
 rw[qc,D3,D3];constructor
 ·rintro⟨i,hi,h1,h2⟩;rw[C9 k hi]at h2;exists i,hi,h1;split at h2
  ·exact absurd h2.symm F
  ·exact h2
 ·rintro⟨i,hi,h1,h2⟩;exists i,hi,h1;rw[C9 k hi,nv (λz=>I (h2.symm.trans z))];exact h2
theorem PF(k:Br n ms):BO n root (BQ ms r) (ms.getD r.1 0)=(BO n root ms (ms.getD r.1 0) || BO n root ms (ms.getD r.2.1 0)):=by
 rw[qc,uV,D3,D3,D3];constructor
 ·rintro⟨i,hi,h1,h2⟩;rw[C9 k hi]at h2;by_cases e:ms.getD i 0=ms.getD r.2.1 0
  ·exact .inr ⟨i,hi,h1,e⟩
  ·rw[nv e]at h2;exact .inl ⟨i,hi,h1,h2⟩
 ·rintro(⟨i,hi,h1,h2⟩|⟨i,hi,h1,h2⟩)
  ·exists i,hi,h1;rw[C9 k hi];split
   ·rfl
   ·exact h2
  ·exact⟨i,hi,h1,by rw[C9 k hi,nF h2]⟩
theorem Yl(k:Br n ms)(F:c≠ms.getD r.1 0)(I:c≠ms.getD r.2.1 0):DZ n (BQ ms r) rs c=DZ n ms rs c:=by
 funext j
 unfold DZ;refine Bc λi hi=>?_
 rw[C9 k hi];by_cases e:ms.getD i 0=ms.getD r.2.1 0
 ·rw[nF e,nv (λz=>F z.symm),nv (λz=>I (z.symm.trans e))]
 ·rw[nv e]
theorem aQ(k:Br n ms)(F:ms.getD r.1 0≠ms.getD r.2.1 0):DZ n (BQ ms r) rs (ms.getD r.1 0)=λj=>DZ n ms rs (ms.getD r.1 0) j+DZ n ms rs (ms.getD r.2.1 0) j:=by
 funext j
 unfold DZ;rw[<-D5];refine Bc λi hi=>?_
 rw[C9 k hi];by_cases e:ms.getD i 0=ms.getD r.2.1 0
 ·rw[nF e,nF rfl,nv (λz=>F (z.symm.trans e)),nF e];grind
 ·rw[nv e,nv e];split<;>grind
theorem eo(k:Br n ms)(l:Hj n ms)(h1:r.1<n)(h2:r.2.1<n)(O:ms.getD r.1 0≠ms.getD r.2.1 0):
  dF n (xV n root (BQ ms r) rs)=dF n (An (An (xV n root ms rs) (ms.getD r.1 0) (xV n root (BQ ms r) rs (ms.getD r.1 0))) (ms.getD r.2.1 0) λj=>AQ (ms.getD r.2.1 0) j-AQ (ms.getD r.1 0) j):=by
 have la:=IE k h1;have lb:=IE k h2;have ea:=l _ h1;have eb:=l _ h2;refine Eq.trans (CK λc hc=>?_) (Za lb _ (λc=>ms.getD c 0=ms.getD r.2.1 0));by_cases F:c=ms.getD r.2.1 0
 ·rw[nv (λz=>z.2 F),F,C0];have jb:(BQ ms r).getD (ms.getD r.2.1 0) 0=ms.getD r.1 0:=by rw[C9 k lb,nF eb]
  rw[KJ (by rw[jb];exact O),jb]
 ·by_cases e:ms.getD c 0=ms.getD r.2.1 0
  ·have I:c≠ms.getD r.1 0:=λz=>O (by rw[z,ea]at e;exact e)
   have J:(BQ ms r).getD c 0=ms.getD r.1 0:=by rw[C9 k hc,nF e]
   rw[nF ⟨e,F⟩,C3 F,C3 I,C0,KJ (by rw[J];exact λz=>I z.symm),J,KJ (by rw[e];exact λz=>F z.symm),e]
   funext j;grind
  ·rw[nv (λz=>e z.1),C3 F];by_cases I:c=ms.getD r.1 0
   ·rw[I,C0]
   ·rw[C3 I];have J:(BQ ms r).getD c 0=ms.getD c 0:=by rw[C9 k hc,nv e]
    unfold xV;rw[J,Xz k I F,Yl k I F]
theorem dE(k:Br n ms)(l:Hj n ms)(h1:r.1<n)(h2:r.2.1<n):
  dF n (xV n root ms (r :: rs))=dF n (xV n root ms rs)+(if ms.getD r.1 0≠ms.getD r.2.1 0/\¬(BO n root ms (ms.getD r.1 0)=true/\BO n root ms (ms.getD r.2.1 0)=true) then r.2.2*dF n (xV n root (BQ ms r) rs) else 0):=by
 have I:=IE k h1;have lb:=IE k h2;have ea:=l _ h1;have eb:=l _ h2;have aa:∀c,(ms.getD c 0=c->BO n root ms c=false->((if ms.getD r.1 0=c then (1:Rat) else 0)=if ms.getD r.2.1 0=c then 1 else 0))->xV n root ms (r :: rs) c=xV n root ms rs c:=λc h=>by
  unfold xV;by_cases e:ms.getD c 0=c
  ·rw[nF e,nF e];cases hr:BO n root ms c with
   |true=>rfl
   |false =>
    funext j
    show DZ n ms (r :: rs) c j=DZ n ms rs c j;rw[LQ h1 h2,h e hr];grind
  ·rw[nv e,nv e]
 by_cases F:ms.getD r.1 0=ms.getD r.2.1 0
 ·rw[nv (λz=>z.1 F),CK λc _=>aa c λ_ _=>by rw[F]];grind
 have mA:=Wh (root:=root) (rs:=rs) (r:=r) l h1 h2 I ea (λ_=>rfl) (λz=>absurd (by rw[z];exact ea) (λw:ms.getD r.2.1 0=ms.getD r.1 0=>F w.symm));have mB:=Wh (root:=root) (rs:=rs) (r:=r) l h1 h2 lb eb (λz=>absurd (by rw[z];exact eb) F) (λ_=>rfl);have dj:=eo (root:=root) (rs:=rs) k l h1 h2 F;have ab:∀(V:Nat->AW) (u:Nat),u<n->dF n (An V u λj=>AQ (ms.getD r.2.1 0) j-AQ (ms.getD r.1 0) j)=- dF n (An V u λj=>AQ (ms.getD r.1 0) j-AQ (ms.getD r.2.1 0) j):=λV u hu=>by
  have:=GN hu V (-1) (λj=>AQ (ms.getD r.1 0) j-AQ (ms.getD r.2.1 0) j)
  have e:(λj:Nat=>(-1:Rat)*(AQ (ms.getD r.1 0) j-AQ (ms.getD r.2.1 0) j))=λj=>AQ (ms.getD r.2.1 0) j-AQ (ms.getD r.1 0) j:=by funext j;grind
  rw[e]at this;rw[this];grind
 cases J:BO n root ms (ms.getD r.1 0)with
 |true =>
  cases O:BO n root ms (ms.getD r.2.1 0)with
  |true =>
   rw[nv (λz=>z.2 ⟨U,U⟩),CK λc _=>aa c λe hr=>?_]
   ·grind
   ·rw[nv (λz=>by rw[z,hr]at J;cases J),nv (λz=>by rw[z,hr]at O;cases O)]
  |false =>
   rw[nF ⟨F,λz=>by cases z.2⟩];have wa:xV n root (BQ ms r) rs (ms.getD r.1 0)=xV n root ms rs (ms.getD r.1 0):=by
    rw[Jy (by rw[C9 k I,ea,nv F]) (by rw[PF k,J];rfl),Jy ea J]
   rw[wa,Ey,ab _ _ lb]at dj;have e1:dF n (xV n root ms (r :: rs))=dF n (An (xV n root ms rs) (ms.getD r.2.1 0) λj=>xV n root ms rs (ms.getD r.2.1 0) j+(-r.2.2)*(AQ r.1 j-AQ r.2.1 j)):=by
    refine CK λc hc=>?_
    by_cases cb:c=ms.getD r.2.1 0
    ·rw[cb,C0,E2 eb O,E2 eb O]
     funext j
     rw[LQ h1 h2,nv F,nF rfl];grind
    ·rw[C3 cb];exact aa c λe hr=>by rw[nv (λz=>by rw[z,hr]at J;cases J),nv (λz=>cb z.symm)]
   rw[e1,Fs lb,Ey,GN lb,mB,dj];grind
 |false =>
  cases O:BO n root ms (ms.getD r.2.1 0)with
  |true =>
   rw[nF ⟨F,λz=>by cases z.1⟩];have vb:xV n root ms rs (ms.getD r.2.1 0)=AQ (ms.getD r.2.1 0):=Jy eb O;have wa:xV n root (BQ ms r) rs (ms.getD r.1 0)=AQ (ms.getD r.1 0):=Jy (by rw[C9 k I,ea,nv F]) (by rw[PF k,J,O];rfl);have e2:dF n (An (An (xV n root ms rs) (ms.getD r.1 0) (AQ (ms.getD r.1 0))) (ms.getD r.2.1 0) λj=>AQ (ms.getD r.2.1 0) j-AQ (ms.getD r.1 0) j)=dF n (An (xV n root ms rs) (ms.getD r.1 0) (AQ (ms.getD r.1 0))):=by
    have:=JD (λz:ms.getD r.2.1 0=ms.getD r.1 0=>F z.symm) lb I (An (xV n root ms rs) (ms.getD r.1 0) (AQ (ms.getD r.1 0))) (-1) (AQ (ms.getD r.2.1 0))
    rw[C0]at this;have e:(λj:Nat=>AQ (ms.getD r.2.1 0) j+(-1:Rat)*AQ (ms.getD r.1 0) j)=λj=>AQ (ms.getD r.2.1 0) j-AQ (ms.getD r.1 0) j:=by funext j;grind
    rw[e]at this;rw[this,<-vb,Ec _ F,Ey]
   have e3:dF n (An (xV n root ms rs) (ms.getD r.1 0) λj=>AQ (ms.getD r.1 0) j-AQ (ms.getD r.2.1 0) j)=dF n (An (xV n root ms rs) (ms.getD r.1 0) (AQ (ms.getD r.1 0))):=by
    rw[<-JD F I lb (xV n root ms rs) (-1) (AQ (ms.getD r.1 0)),vb];congr 2
    funext j;grind
   rw[wa,e2]at dj;have e1:dF n (xV n root ms (r :: rs))=dF n (An (xV n root ms rs) (ms.getD r.1 0) λj=>xV n root ms rs (ms.getD r.1 0) j+r.2.2*(AQ r.1 j-AQ r.2.1 j)):=by
    refine CK λc hc=>?_
    by_cases ca:c=ms.getD r.1 0
    ·rw[ca,C0,E2 ea J,E2 ea J]
     funext j
     rw[LQ h1 h2,nF rfl,nv (λz=>F z.symm)];grind
    ·rw[C3 ca];exact aa c λe hr=>by rw[nv (λz=>ca z.symm),nv (λz=>by rw[z,hr]at O;cases O)]
   rw[e1,Fs I,Ey,GN I,mA,e3,dj]
  |false =>
   rw[nF ⟨F,λz=>by cases z.1⟩];have wa:xV n root (BQ ms r) rs (ms.getD r.1 0)=λj=>xV n root ms rs (ms.getD r.1 0) j+xV n root ms rs (ms.getD r.2.1 0) j:=by
    rw[E2 (by rw[C9 k I,ea,nv F]) (by rw[PF k,J,O];rfl),aQ k F,E2 ea J,E2 eb O]
   have e2:dF n (An (An (xV n root ms rs) (ms.getD r.1 0) (xV n root ms rs (ms.getD r.2.1 0))) (ms.getD r.2.1 0) λj=>AQ (ms.getD r.2.1 0) j-AQ (ms.getD r.1 0) j)=dF n (An (xV n root ms rs) (ms.getD r.1 0) λj=>AQ (ms.getD r.1 0) j-AQ (ms.getD r.2.1 0) j):=by
    rw[ab _ _ lb,gA F I lb,Ec _ F,Ey];grind
   rw[wa,Ec _ F,Fs I,<-Ec _ F,<-Ec _ F,e2,Ey,ab _ _ lb]at dj;have e1:dF n (xV n root ms (r :: rs))=dF n (An (An (xV n root ms rs) (ms.getD r.1 0) λj=>xV n root ms rs (ms.getD r.1 0) j+r.2.2*(AQ r.1 j-AQ r.2.1 j)) (ms.getD r.2.1 0) λj=>xV n root ms rs (ms.getD r.2.1 0) j+(-r.2.2)*(AQ r.1 j-AQ r.2.1 j)):=by
    refine CK λc hc=>?_
    by_cases cb:c=ms.getD r.2.1 0
    ·rw[cb,C0,E2 eb O,E2 eb O]
     funext j
     rw[LQ h1 h2,nv F,nF rfl];grind
    ·rw[C3 cb];by_cases ca:c=ms.getD r.1 0
     ·rw[ca,C0,E2 ea J,E2 ea J]
      funext j
      rw[LQ h1 h2,nF rfl,nv (λz=>F z.symm)];grind
     ·rw[C3 ca];exact aa c λe hr=>by rw[nv (λz=>ca z.symm),nv (λz=>cb z.symm)]
   have e4:dF n (An (An (xV n root ms rs) (ms.getD r.1 0) λj=>xV n root ms rs (ms.getD r.1 0) j+r.2.2*(AQ r.1 j-AQ r.2.1 j)) (ms.getD r.2.1 0) λj=>AQ r.1 j-AQ r.2.1 j)=dF n (An (xV n root ms rs) (ms.getD r.2.1 0) λj=>AQ r.1 j-AQ r.2.1 j):=by
    rw[Ec _ F,Fs I,GN I,<-Ec _ F,<-Ec _ F,Ey,KH F I lb];grind
   have e5:dF n (An (An (xV n root ms rs) (ms.getD r.1 0) λj=>xV n root ms rs (ms.getD r.1 0) j+r.2.2*(AQ r.1 j-AQ r.2.1 j)) (ms.getD r.2.1 0) (xV n root ms rs (ms.getD r.2.1 0)))=dF n (xV n root ms rs)+r.2.2*dF n (An (xV n root ms rs) (ms.getD r.1 0) λj=>AQ r.1 j-AQ r.2.1 j):=by
    rw[Ec _ F,Ey,Fs I,GN I,Ey]
   rw[e1,Fs lb,GN lb,e4,e5,mA,mB,dj];grind
theorem Sy:∀n,(∀i,i<n->f i=1)->Lq f n=1
 |0,_=>rfl
 |n+1,h=>by
  show Lq f n*f n=1;rw[Sy n (λi hi=>h i (by lia)),h n (by lia)];grind
theorem jc(n:Nat):dF n AQ=1:=by
 unfold dF;rw[iV (U:=AQ) (λi j _ F=>by unfold AQ;rw[nv (by lia)]) n (nG _)];exact Sy n λi _=>by unfold AQ;rw[nF rfl]
theorem fJ(n:Nat)(ms:List Nat)(a:Nat):DZ n ms [] a=λ_=>0:=by
 funext j
 unfold DZ;refine Hr λi _=>?_
 split
 ·rfl
 ·rfl
def Ja(n:Nat)(root:Nat->Bool)(ms:List Nat):Bool:=(nz n).all λi=>BO n root ms (ms.getD i 0)
theorem jQ(k:Br n ms)(l:Hj n ms):dF n (xV n root ms [])=if Ja n root ms=true then 1 else 0:=by
 by_cases h:Ja n root ms=true
 ·rw[nF h];have hr:∀i,i<n->BO n root ms (ms.getD i 0)=true:=λi hi=>sW.mp h i (oJ.mpr hi)
  have F:∀i,i<n->ms.getD i 0=i->xV n root ms [] i=AQ i:=λi hi e=>Jy e (by have:=hr i hi;rwa [e]at this)
  have J:∀t,t<=n->dF n (λi=>if i<t then AQ i else xV n root ms [] i)=dF n (xV n root ms []):=by
   intro t
   induction t with
   |zero=>intro _;exact CK λi _=>by rw[nv (by lia)]
   |succ t ih =>
    intro ht;rw[<-ih (by lia)];have I:=IE k (show t<n by lia);by_cases e:ms.getD t 0=t
    ·refine CK λi hi=>?_
     by_cases z:i=t
     ·subst z;rw[nF (by lia),nv (by lia),F i hi e]
     ·by_cases w:i<t
      ·rw[nF (by lia),nF w]
      ·rw[nv (by lia),nv w]
    ·have rm:=F _ I (l t (by lia  ));have e1:dF n (λi=>if i<t+1 then AQ i else xV n root ms [] i)=dF n (An (λi=>if i<t then AQ i else xV n root ms [] i) t λj=>xV n root ms [] t j+1*(λi=>if i<t then AQ i else xV n root ms [] i) (ms.getD t 0) j):=by
      refine CK λi hi=>?_
      by_cases z:i=t
      ·subst z;rw[nF (by lia),C0]
       funext j
       have O:(if ms.getD i 0<i then AQ (ms.getD i 0) else xV n root ms [] (ms.getD i 0))=AQ (ms.getD i 0):=by
        split
        ·rfl
        ·exact rm
       dsimp only;rw[O,KJ e];grind
      ·rw[C3 z];by_cases w:i<t
       ·rw[nF (by lia),nF w]
       ·rw[nv (by lia),nv w]
     rw[e1,JD (λz=>e z.symm) (by lia) I];refine CK λi _=>?_
     by_cases z:i=t
     ·subst z;rw[C0,nv (by lia)]
     ·rw[C3 z]
  rw[<-J n (nG _),<-jc n];exact CK λi hi=>by rw[nF hi]
 ·rw[nv h]
  have:∃i,i<n/\BO n root ms (ms.getD i 0)=false:=by
   refine t9 λhn=>h (sW.mpr λi hi=>?_)
   cases e:BO n root ms (ms.getD i 0)with
   |true=>rfl
   |false=>exact absurd ⟨i,oJ.mp hi,e⟩ hn
  obtain⟨i,hi,e⟩:=this;have z:=Uh (IE k hi) (xV n root ms []);rw[<-fJ n ms (ms.getD i 0),<-E2 (rs:=[]) (l i hi) e,Ey]at z;exact z
def MI(n:Nat)(root:Nat->Bool):List Nat->List AK->Rat
 |ms,[]=>if Ja n root ms=true then 1 else 0
 |ms,r :: rs=>MI n root ms rs+(if ms.getD r.1 0≠ms.getD r.2.1 0/\¬(BO n root ms (ms.getD r.1 0)=true/\BO n root ms (ms.getD r.2.1 0)=true) then r.2.2*MI n root (BQ ms r) rs else 0)
theorem QJ:∀{rs:List AK} {ms:List Nat},Br n ms->Hj n ms->(∀r∈rs,r.1<n/\r.2.1<n)->dF n (xV n root ms rs)=MI n root ms rs
 |[],ms,k,l,_=>jQ k l
 |r :: rs,ms,k,l,h=>by
  obtain⟨h1,h2⟩:=h r (by simp);have h':∀r∈rs,r.1<n/\r.2.1<n:=λr F=>h r (by simp[F])
  rw[dE k l h1 h2,QJ k l h',QJ (k.DS (r:=r) h1) (l.DS k h1 h2) h'];rfl
def A1(f:List AK->Rat):List AK->Rat
 |[]=>f []
 |r :: rs=>A1 f rs+A1 (λS=>f (r :: S)) rs
def BX:List AK->Rat
 |[]=>1
 |r :: S=>r.2.2*BX S
theorem Gx(h:∀S,f S=g S)(rs:List AK):A1 f rs=A1 g rs:=by
 have:f=g:=funext h
 rw[this]
theorem Mi:∀rs:List AK,A1 (λ_=>0) rs=0
 |[]=>rfl
 |r :: rs=>by show A1 (λ_=>0) rs+A1 (λ_=>0) rs=0;rw[Mi rs];grind
theorem Jo(c:Rat):∀(rs:List AK) (f:List AK->Rat),A1 (λS=>c*f S) rs=c*A1 f rs
 |[],_=>rfl
 |r :: rs,f=>by
  show A1 (λS=>c*f S) rs+A1 (λS=>c*f (r :: S)) rs=c*(A1 f rs+A1 (λS=>f (r :: S)) rs);rw[Jo c rs,Jo c rs (λS=>f (r :: S))];grind
def Ek(n:Nat)(root:Nat->Bool):List Nat->List AK->Bool
 |ms,[]=>Ja n root ms
 |ms,r :: S=>(decide (ms.getD r.1 0≠ms.getD r.2.1 0) && !(BO n root ms (ms.getD r.1 0) && BO n root ms (ms.getD r.2.1 0))) && Ek n root (BQ ms r) S
theorem QA:∀(rs:List AK) (ms:List Nat),MI n root ms rs=A1 (λS=>if Ek n root ms S=true then BX S else 0) rs
 |[],ms=>rfl
 |r :: rs,ms=>by
  unfold MI A1;rw[QA rs ms,QA rs (BQ ms r)];congr 1;by_cases c:ms.getD r.1 0≠ms.getD r.2.1 0/\¬(BO n root ms (ms.getD r.1 0)=true/\BO n root ms (ms.getD r.2.1 0)=true)
  ·rw[nF c,<-Jo];refine Gx (λS=>?_) rs;have e:Ek n root ms (r :: S)=Ek n root (BQ ms r) S:=by
    show((decide (ms.getD r.1 0≠ms.getD r.2.1 0) && !(BO n root ms (ms.getD r.1 0) && BO n root ms (ms.getD r.2.1 0))) && Ek n root (BQ ms r) S)=_;have F:(BO n root ms (ms.getD r.1 0) && BO n root ms (ms.getD r.2.1 0))=false:=by
     rw[v7];intro z;rw[pA]at z;exact c.2 z
    rw[qm c.1,F];rfl
   rw[e];split
   ·rfl
   ·grind
  ·rw[nv c];refine Eq.trans (Mi rs).symm (Gx (λS=>?_) rs);have e:Ek n root ms (r :: S)=false:=by
    show((decide (ms.getD r.1 0≠ms.getD r.2.1 0) && !(BO n root ms (ms.getD r.1 0) && BO n root ms (ms.getD r.2.1 0))) && Ek n root (BQ ms r) S)=_;rw[v7];intro z;simp only[pA,oR,yW,pk]at z;refine c ⟨z.1.1,λw=>?_⟩;rcases z.1.2 with y|y
    ·rw[w.1]at y;cases y
    ·rw[w.2]at y;cases y
   rw[e];rfl
def Ku(n:Nat)(root:Nat->Bool)(ms:List Nat):Prop:=∀i j,i<n->j<n->root i=true->root j=true->ms.getD i 0=ms.getD j 0->i=j
theorem XA:Ku n root (nz n):=λi j hi F _ _ e=>by rwa [DW hi,DW F]at e
theorem Ku.DS(k:Br n ms)(s:Ku n root ms)(c:¬(BO n root ms (ms.getD r.1 0)=true/\BO n root ms (ms.getD r.2.1 0)=true)):Ku n root (BQ ms r):=λi j hi I O rj e=>by
 rw[C9 k hi,C9 k I]at e;by_cases J:ms.getD i 0=ms.getD r.2.1 0
 ·by_cases F:ms.getD j 0=ms.getD r.2.1 0
  ·exact s i j hi I O rj (J.trans F.symm)
  ·rw[nF J,nv F]at e;exact absurd ⟨D3.mpr ⟨j,I,rj,e.symm⟩,D3.mpr ⟨i,hi,O,J⟩⟩ c
 ·by_cases F:ms.getD j 0=ms.getD r.2.1 0
  ·rw[nv J,nF F]at e;exact absurd ⟨D3.mpr ⟨i,hi,O,e⟩,D3.mpr ⟨j,I,rj,F⟩⟩ c
  ·rw[nv J,nv F]at e;exact s i j hi I O rj e
theorem NK:∀{S:List AK} {ms:List Nat},Br n ms->Ku n root ms->(∀r∈S,r.1<n/\r.2.1<n)->(Ek n root ms S=true↔∃F,Bo ms S=some F/\Ja n root F=true/\Ku n root F)
 |[],ms,k,s,_=>by
  constructor
  ·intro h;exact⟨ms,U,h,s⟩
  ·rintro⟨F,e,h,_⟩;obtain rfl:ms=F:=nV e;exact h
 |r :: S,ms,k,s,hb=>by
  obtain⟨h1,h2⟩:=hb r (by simp);have J:∀r∈S,r.1<n/\r.2.1<n:=λr hr=>hb r (by simp[hr])
  have O:=k.DS (r:=r) h1;show((decide (ms.getD r.1 0≠ms.getD r.2.1 0) && !(BO n root ms (ms.getD r.1 0) && BO n root ms (ms.getD r.2.1 0))) && Ek n root (BQ ms r) S)=true↔_;constructor
  ·intro z;simp only[pA,oR,yW,pk] at z;have c:¬(BO n root ms (ms.getD r.1 0)=true/\BO n root ms (ms.getD r.2.1 0)=true):=λw=>by
    rcases z.1.2 with y|y
    ·rw[w.1]at y;cases y
    ·rw[w.2]at y;cases y
   obtain⟨F,e,a,s'⟩:=(NK O (s.DS k c) J).mp z.2;exact⟨F,by unfold Bo;rw[nv z.1.1];exact e,a,s'⟩
  ·rintro⟨F,e,a,s'⟩;unfold Bo at e;by_cases I:ms.getD r.1 0=ms.getD r.2.1 0
   ·rw[nF I]at e;cases e
   rw[nv I]at e;have c:¬(BO n root ms (ms.getD r.1 0)=true/\BO n root ms (ms.getD r.2.1 0)=true):=by
    rintro⟨w1,w2⟩;obtain⟨i,hi,ri,ei⟩:=D3.mp w1;obtain⟨j,hj,rj,ej⟩:=D3.mp w2;have aa:(BQ ms r).getD i 0=(BQ ms r).getD j 0:=by rw[C9 k hi,C9 k hj,ei,ej,nv I,nF rfl]
    have ab:=PK (cs:=S) O J hi hj aa;obtain⟨rfl,_⟩:=Gw O J e
    have:=s' i j hi hj ri rj ab
    rw[this,ej]at ei;exact I ei.symm
   have c2:(BO n root ms (ms.getD r.1 0) && BO n root ms (ms.getD r.2.1 0))=false:=by
    rw[v7];intro z;rw[pA]at z;exact c z
   rw[qm I,c2,(NK O (s.DS k c) J).mpr ⟨F,e,a,s'⟩];rfl
theorem S6(k:Br n ms)(O:v<n):CL n ms=1↔∀u,u<n->ms.getD u 0=ms.getD v 0:=by
 have J:=getD_mem (ms:=ms) (i:=v) (by rw[k.len];exact O)
 have:=IF (n:=n) (p:=λx=>decide (x∈ms)) (k.lt _ J) (by simpa using J)
 unfold CL;rw[<-this];constructor
 ·intro h u I;have z:=HC.mp (uq h) _ (k.lt _ (getD_mem (i:=u) (by rw[k.len];exact I)));rw[pk]at z;rcases z with z|z
  ·rw[decide_eq_false_iff_not]at z;exact absurd (getD_mem (by rw[k.len];exact I)) z
  ·simpa using z
 ·intro h
  have:DL n (λx=>decide (x∈ms) && x != ms.getD v 0)=0:=HC.mpr λx _=>by
   rw[pk];by_cases F:x∈ms
   ·obtain⟨i,hi,e⟩:=om F
    have:=h i (by rw[<-k.len];exact hi)
    rw[nq,nh hi,qD,e]at this;exact .inr (by simpa using this)
   ·exact .inl (by simpa using F)
  lia
theorem PY(k:Br n ms)(hv:v<n)(hw:w<n)(ne:ms.getD v 0≠ms.getD w 0):CL n ms=2↔∀u,u<n->ms.getD u 0=ms.getD v 0\/ms.getD u 0=ms.getD w 0:=by
 have O:=getD_mem (ms:=ms) (i:=v) (by rw[k.len];exact hv);have J:=getD_mem (ms:=ms) (i:=w) (by rw[k.len];exact hw);have r1:=IF (n:=n) (p:=λx=>decide (x∈ms)) (k.lt _ O) (by simpa using O);have r2:=IF (n:=n) (b:=ms.getD w 0) (p:=λx=>decide (x∈ms) && x != ms.getD v 0) (k.lt _ J) (by
  rw[pA,oR,bne_iff_ne];exact⟨J,λz=>ne z.symm⟩)
 unfold CL;rw[<-r1,<-r2];constructor
 ·intro h u hu;have I:=getD_mem (ms:=ms) (i:=u) (by rw[k.len];exact hu);have z:=HC.mp (uq (uq h)) _ (k.lt _ I);rw[pk,pk]at z;rcases z with (z|z)|z
  ·rw[decide_eq_false_iff_not]at z;exact absurd I z
  ·exact .inl (by simpa using z)
  ·exact .inr (by simpa using z)
 ·intro h
  have:DL n (λx=>(decide (x∈ms) && x != ms.getD v 0) && x != ms.getD w 0)=0:=HC.mpr λx _=>by
   rw[pk,pk];by_cases F:x∈ms
   ·obtain⟨i,hi,e⟩:=om F
    have:=h i (by rw[<-k.len];exact hi)
    rw[nq,nh hi,qD,e]at this;rcases this with z|z
    ·exact .inl (.inr (by simpa using z))
    ·exact .inr (by simpa using z)
   ·exact .inl (.inl (by simpa using F))
  lia
theorem Mw:Ja n root ms=true↔∀i,i<n->BO n root ms (ms.getD i 0)=true:=by
 unfold Ja;rw[sW];exact⟨λh i hi=>h i (oJ.mpr hi),λh i hi=>h i (oJ.mp hi)⟩
theorem Yz(J:ρ<n)(I:∀r∈S,r.1<n/\r.2.1<n):Ek n (λi=>i == ρ) (nz n) S=true↔S.length+1=n/\Bo (nz n) S≠none:=by
 rw[NK (Cf n) XA I];have f:=K7 n;constructor
 ·rintro⟨aa,e,a,_⟩;obtain⟨rfl,z⟩:=Gw (Cf n) I e;have O:=I0 (Cf n) I;have ab:CL n (A7 (nz n) S)=1:=(S6 O J).mpr λu hu=>by
   obtain⟨i,_,F,ei⟩:=D3.mp (Mw.mp a u hu);rw[beq_iff_eq]at F;rw[<-ei,F]
  exact⟨by lia,by rw[e];simp⟩
 ·rintro⟨hl,hn⟩;cases e:Bo (nz n) S with
  |none=>exact absurd e hn
  |some aa =>
   obtain⟨rfl,z⟩:=Gw (Cf n) I e;have O:=I0 (Cf n) I;have all:=(S6 O J).mp (by lia);refine⟨_,U,Mw.mpr λi hi=>D3.mpr ⟨ρ,J,by simp,(all i hi).symm⟩,λi j _ _ F rj _=>?_⟩;rw[beq_iff_eq]at F rj;rw[F,rj]
def A2(rs:List AK)(row:List Nat):List AK:=row.map λk=>rs.getD k (0,0,0)
theorem PL(rs:List AK)(q:List Nat)(x:Nat):A2 rs (q++[x])=A2 rs q++[rs.getD x (0,0,0)]:=by unfold A2;rw[nY];rfl
def Bm{α:Type}(g:α->Rat)(l:List α):Rat:=(l.map g).sum
theorem G0{α:Type}(g:α->Rat)(x:α)(l:List α):Bm g (x :: l)=g x+Bm g l:=by unfold Bm;rw[nK,ow]
theorem LP{α:Type}(g:α->Rat):Bm g []=0:=rfl
theorem Tc{α:Type}(g:α->Rat)(l m:List α):Bm g (l++m)=Bm g l+Bm g m:=by
 induction l with
 |nil=>rw[uc,LP];grind
 |cons x l ih=>rw[qT,G0,G0,ih];grind
theorem Yw{α β:Type}(g:β->Rat)(f:α->List β)(l:List α):Bm g (l.flatMap f)=Bm (λx=>Bm g (f x)) l:=by
 induction l with
 |nil=>rfl
 |cons x l ih=>rw[y6,Tc,G0,ih]
theorem Zy{α β:Type}(g:β->Rat)(f:α->β)(l:List α):Bm g (l.map f)=Bm (λx=>g (f x)) l:=by
 unfold Bm;rw[pC];rfl
def Kn(m:Nat)(g:List Nat->Rat):Nat->List Nat->Nat->Rat
 |0,q,_=>g q
 |t+1,q,c=>Bm (λx=>Kn m g t (q++[x]) (x+1)) (qM c (m-c))
theorem SD(q:List Nat)(x:Nat):Bp (q++[x])=x+1:=by unfold Bp;rw[xN]
theorem So(g:List Nat->Rat):∀(t s:Nat),Bm (λq=>Kn m g t q (Bp q)) (Bz m s)=Bm g (Bz m (s+t))
 |0,s=>rfl
 |t+1,s=>by
  have F:=So g t (s+1);rw[show s+1+t=s+(t+1) by lia]at F;rw[<-F,show Bz m (s+1)=(Bz m s).flatMap λr=>(qM (Bp r) (m-Bp r)).map λx=>r++[x] from rfl,Yw];congr 1
  funext q
  rw[Zy];show Bm _ _=Bm _ _;congr 1
  funext x
  rw[SD]
theorem T4:∀(d:List AK) (h:List AK->Rat),A1 (λS=>if S.length=0 then h S else 0) d=h []
 |[],h=>rfl
 |r :: d,h=>by
  show A1 (λS=>if S.length=0 then h S else 0) d+A1 (λS=>if (r :: S).length=0 then h (r :: S) else 0) d=_;rw[T4 d h,Gx (g:=λ_=>0) (λS=>nv (by simp)) d,Mi];grind
theorem P4(f:List AK->Rat):∀(t:Nat) (e:Nat) (c:Nat) (q:List Nat),c+e=rs.length->Kn rs.length (λrow=>f (A2 rs row)) t q c=A1 (λS=>if S.length=t then f (A2 rs q++S) else 0) (rs.drop c)
 |0,_,c,q,_=>by
  show f (A2 rs q)=_;rw[T4 (rs.drop c) (λS=>f (A2 rs q++S)),pO]
 |t+1,0,c,q,h=>by
  have F:c=rs.length:=by lia
  subst F;show Bm _ (qM rs.length (rs.length-rs.length))=_;rw[rG,List.drop_length];show(0:Rat)=if ([]:List AK).length=t+1 then f (A2 rs q++[]) else 0
  rw[nv (by simp)]
 |t+1,e+1,c,q,h=>by
  have F:c<rs.length:=by lia
  have J:=P4 f t e (c+1) (q++[c]) (by lia);have I:=P4 f (t+1) e (c+1) q (by lia);have O:Kn rs.length (λrow=>f (A2 rs row)) (t+1) q c=Kn rs.length (λrow=>f (A2 rs row)) t (q++[c]) (c+1)+Kn rs.length (λrow=>f (A2 rs row)) (t+1) q (c+1):=by
   show Bm _ (qM c (rs.length-c))=_+Bm _ (qM (c+1) (rs.length-(c+1)));rw[show rs.length-c=(rs.length-(c+1))+1 by lia,zF,G0]
  rw[O,J,I,List.drop_eq_getElem_cons F];show _=A1 _ (rs.drop (c+1))+A1 _ (rs.drop (c+1));rw[PL,nq,nh F,qD];have e2:A1 (λS=>if S.length=t then f (A2 rs q++[rs[c]]++S) else 0) (rs.drop (c+1))=A1 (λS=>if (rs[c] :: S).length=t+1 then f (A2 rs q++rs[c] :: S) else 0) (rs.drop (c+1)):=Gx (λS=>by
   rw[pG];by_cases z:S.length=t
   ·rw[nF z,nF (by rw[oA,z])];rfl
   ·rw[nv z,nv (by rw[oA];lia)]) _
  rw[e2];grind
theorem bQ(f:List AK->Rat)(s:Nat):Bm (λrow=>f (A2 rs row)) (Bz rs.length s)=A1 (λS=>if S.length=s then f S else 0) rs:=by
 have h:=So (m:=rs.length) (λrow=>f (A2 rs row)) s 0;rw[tJ]at h;rw[<-h,show Bz rs.length 0=[[]] from rfl,G0,LP]
 have:=P4 (rs:=rs) f s rs.length 0 [] (by lia)
 rw[show Bp []=0 from rfl,this,List.drop_zero];show A1 (λS=>if S.length=s then f ([]++S) else 0) rs+0=_;rw[tM];rfl
theorem Me:∀{rs:List AK} {f g:List AK->Rat},(∀S,(∀r∈S,r∈rs)->f S=g S)->A1 f rs=A1 g rs
 |[],f,g,h=>h [] (by simp)
 |r :: rs,f,g,h=>by
  show A1 f rs+A1 (λS=>f (r :: S)) rs=A1 g rs+A1 (λS=>g (r :: S)) rs;rw[Me (λS I=>h S λx F=>oV _ (I x F)),Me (f:=λS=>f (r :: S)) (g:=λS=>g (r :: S)) (λS I=>h (r :: S) λx F=>by
   rcases nZ.mp F with z|z
   ·rw[z];exact qr
   ·exact oV _ (I x z))]
theorem R3{α:Type}(p:α->Bool)(g:α->Rat):∀l:List α,Bm (λx=>if p x=true then g x else 0) l=Bm g (l.filter p)
 |[]=>rfl
 |x :: l=>by
  rw[G0,R3 p g l];cases h:p x with
  |true=>rw[nF rfl,wU h,G0]
  |false=>rw[nv (by simp),wR (by rw[h];simp)];grind
def EF(σ:Nat->Nat)(r:AK):AK:=(σ r.1,σ r.2.1,r.2.2)
def Kh(n:Nat)(σ:Nat->Nat)(ms F:List Nat):Prop:=∀i j,i<n->j<n->(ms.getD i 0=ms.getD j 0↔F.getD (σ i) 0=F.getD (σ j) 0)
theorem Kh.DS(hσ:∀i,i<n->σ i<n)(k:Br n ms)(O:Br n ms')(s:Kh n σ ms ms')(h1:r.1<n)(h2:r.2.1<n):Kh n σ (BQ ms r) (BQ ms' (EF σ r)):=λi j hi F=>by
 rw[C9 k hi,C9 k F,C9 O (hσ i hi),C9 O (hσ j F)];show _↔(if ms'.getD (σ i) 0=ms'.getD (σ r.2.1) 0 then ms'.getD (σ r.1) 0 else ms'.getD (σ i) 0)=(if ms'.getD (σ j) 0=ms'.getD (σ r.2.1) 0 then ms'.getD (σ r.1) 0 else ms'.getD (σ j) 0);by_cases a:ms.getD i 0=ms.getD r.2.1 0
 ·have J:=(s i r.2.1 hi h2).mp a;by_cases b:ms.getD j 0=ms.getD r.2.1 0
  ·have I:=(s j r.2.1 F h2).mp b;rw[nF a,nF b,nF J,nF I];exact⟨λ_=>rfl,λ_=>rfl⟩
  ·have I:¬_:=λz=>b ((s j r.2.1 F h2).mpr z)
   rw[nF a,nv b,nF J,nv I];exact s r.1 j h1 F
 ·have J:¬_:=λz=>a ((s i r.2.1 hi h2).mpr z)
  by_cases b:ms.getD j 0=ms.getD r.2.1 0
  ·have I:=(s j r.2.1 F h2).mp b;rw[nv a,nF b,nv J,nF I];exact s i r.1 hi h1
  ·have I:¬_:=λz=>b ((s j r.2.1 F h2).mpr z)
   rw[nv a,nv b,nv J,nv I];exact s i j hi F
theorem Pa(I:∀i,i<n->σ i<n):∀{S:List AK} {ms F:List Nat},Br n ms->Br n F->Kh n σ ms F->(∀r∈S,r.1<n/\r.2.1<n) →
  (Bo ms S=none/\Bo F (S.map (EF σ))=none)\/(∃a b,Bo ms S=some a/\Bo F (S.map (EF σ))=some b/\Kh n σ a b)
 |[],ms,F,_,_,s,_=>.inr ⟨ms,F,U,U,s⟩
 |r :: S,ms,F,k,k',s,h=>by
  obtain⟨h1,h2⟩:=h r (by simp);have J:=s r.1 r.2.1 h1 h2;rw[nK];unfold Bo;by_cases e:ms.getD r.1 0=ms.getD r.2.1 0
  ·rw[nF e,nF (show F.getD (EF σ r).1 0=F.getD (EF σ r).2.1 0 from J.mp e)];exact .inl ⟨U,U⟩
  ·rw[nv e,nv (show ¬F.getD (EF σ r).1 0=F.getD (EF σ r).2.1 0 from λz=>e (J.mpr z))];exact Pa I (k.DS h1) (k'.DS (I _ h1)) (s.DS I k k' h1 h2) λr O=>h r (by simp[O])
theorem W5(I:∀i,i<n->σ i<n)(J:∀i j,i<n->j<n->σ i=σ j->i=j):Kh n σ (nz n) (nz n):=λi j hi F=>by
 rw[DW hi,DW F,DW (I i hi),DW (I j F)];exact⟨λz=>by rw[z],J i j hi F⟩
theorem Pp:∀(S:List Bool) (v:AW) (w:A5),(∀T,w (T++[false])=w T)->wg v w (S++[false])=wg v w S
 |[],v,w,h=>by simp[wg]
 |b :: S,v,w,h=>by
  have F:∀T,BC w (T++[false])=BC w T:=λT=>h (false :: T)
  have h1:∀T,Ay w (T++[false])=Ay w T:=λT=>h (true :: T)
  have J:=Pp S (sh v) (BC w) F;have I:=Pp S (sh v) (Ay w) h1;have O:=h (false :: S);cases b<;>simp_all [wg,BC,Ay]
theorem Sx:∀T,Ah (T++[false])=Ah T
 |[]=>rfl
 |b :: T=>by
  have:=Sx T
  cases b<;>simp_all [Ah]
theorem Ts(V:Nat->AW):∀(i:Nat) (S:List Bool),wn V i (S++[false])=wn V i S
 |0,S=>Sx S
 |i+1,S=>Pp S (V i) (wn V i) (Ts V i)
theorem fD(h:V n=AQ n):dF (n+1) V=dF n V:=by
 unfold dF;show ld (n+1) (n+1) (wg (V n) (wn V n))=_;rw[h,Q6 (c:=n) (m:=n+1) (wn V n) (λi hi=>by unfold AQ;rw[nv (by lia)]) (by lia)];have e:AQ n n=1:=by unfold AQ;rw[nF rfl]
 rw[e];unfold ld Tk;rw[show n+1-n=0+1 by lia,rG]
 have:=Ts V n (nQ n true)
 simp only[nQ,pO];rw[this];grind
theorem Ux(h:∀i j,i<n->j<n->V i j=W i j):∀i,i<=n->∀S:List Bool,S.length=n->wn V i S=wn W i S
 |0,_,_,_=>rfl
 |i+1,hi,S,hS=>by
  show wg (V i) (wn V i) S=wg (W i) (wn W i) S;rw[Ud S (V i) (W i) _ (λj F=>h i j (by lia) (by lia))];exact Qw S _ _ _ (λT I=>Ux h i (by lia) T (by lia))
theorem Lb(h:∀i j,i<n->j<n->V i j=W i j):dF n V=dF n W:=by
 unfold dF ld;rw[Ux h n (nG _) _ (by unfold Tk;simp)]
structure GA(N:Nat)(σ τ:Nat->Nat):Prop where
 lt:∀i,i<N->σ i<N
 Rp:∀i,i<N->τ i<N
 ts:∀i,i<N->τ (σ i)=i
 st:∀i,i<N->σ (τ i)=i
theorem Lg(k:GA N σ τ)(F:u<N)(hi:i<N):AQ (σ u) i=AQ u (τ i):=by
 unfold AQ;by_cases e:i=σ u
 ·rw[nF e,nF (by rw[e,k.ts u F])]
 ·rw[nv e,nv (λz=>e (by rw[<-z,k.st i hi]))]
theorem dH(k:GA N σ τ)(I:∀r∈rs,r.1<N/\r.2.1<N)(hi:i<N)(F:j<N):CO (rs.map (EF σ)) i j=CO rs (τ i) (τ j):=by
 unfold CO;rw[pC];congr 1;refine o7 λr J=>?_
 obtain⟨h1,h2⟩:=I r J;show B6 (EF σ r) i j=_;rw[J6,J6];show r.2.2*(AQ (σ r.1) i-AQ (σ r.2.1) i)*(AQ (σ r.1) j-AQ (σ r.2.1) j)=_;rw[Lg k h1 hi,Lg k h2 hi,Lg k h1 F,Lg k h2 F]
theorem Uz:∀d,(∀i,n<=i->i<n+d->V i=AQ i)->dF (n+d) V=dF n V
 |0,_=>rfl
 |d+1,h=>by
  rw[show n+(d+1)=(n+d)+1 by lia,fD (h (n+d) (by lia) (by lia))];exact Uz d λi h1 h2=>h i h1 (by lia)
theorem VH(hi:i<N):BO N root (nz N) i=root i:=by
 rw[qc,D3];constructor
 ·rintro⟨k,I,F,e⟩;rw[DW I]at e;rw[<-e];exact F
 ·intro h;exact⟨i,hi,h,DW hi⟩
theorem ku(hi:i<N):DZ N (nz N) rs i=CO rs i:=by
 funext j
 unfold DZ;rw[GI hi]
 ·rw[DW hi,nF rfl]
 ·intro l F I;rw[DW F,nv I]
theorem bO(I:∀i,i<n->root i=false)(h1:∀i,n<=i->i<n+d->root i=true)(rs:List AK):dF (n+d) (xV (n+d) root (nz (n+d)) rs)=dF n (CO rs):=by
 rw[Uz d (V:=xV (n+d) root (nz (n+d)) rs) λi a b=>Jy (DW b) (by rw[VH b];exact h1 i a b)];refine CK λi hi=>?_
 have F:i<n+d:=by lia
 rw[E2 (DW F) (by rw[VH F];exact I i hi),ku F]
theorem US(σ:Nat->Nat):∀S:List AK,BX (S.map (EF σ))=BX S
 |[]=>rfl
 |r :: S=>by
  show(EF σ r).2.2*BX (S.map (EF σ))=r.2.2*BX S;rw[US σ S];rfl
theorem QF(g:AK->AK):∀(rs:List AK) (f:List AK->Rat),A1 f (rs.map g)=A1 (λS=>f (S.map g)) rs
 |[],_=>rfl
 |r :: rs,f=>by
  rw[nK];show A1 f (rs.map g)+A1 (λS=>f (g r :: S)) (rs.map g)=_;rw[QF g rs,QF g rs];rfl
def A3(s:Nat)(t:List AK->Bool)(rs:List AK):Rat:=A1 (λS=>if S.length=s/\t S=true then BX S else 0) rs
theorem Pk:A3 s t rs=Bm (λrow=>BX (A2 rs row)) ((Bz rs.length s).filter λrow=>t (A2 rs row)):=by
 rw[<-R3 (λrow=>t (A2 rs row)) (λrow=>BX (A2 rs row)),bQ (λS=>if t S=true then BX S else 0) s];unfold A3;refine Gx (λS=>?_) rs;by_cases h1:S.length=s
 ·by_cases h2:t S=true
  ·rw[nF ⟨h1,h2⟩,nF h1,nF h2]
  ·rw[nv (λz=>h2 z.2),nF h1,nv h2]
 ·rw[nv (λz=>h1 z.1),nv h1]
theorem Ul (k:GA (n+d) σ τ)(F:∀r∈rs,r.1<n+d/\r.2.1<n+d)(J:∀i,i<n->root i=false)(h1:∀i,n<=i->i<n+d->root i=true)(t:List AK->Bool)
  (hg:∀S:List AK,(∀r∈S,r∈rs)->(Ek (n+d) root (nz (n+d)) (S.map (EF σ))=true↔S.length=s/\t S=true)) :
  dF n (λi j=>CO rs (τ i) (τ j))=A3 s t rs:=by
 have e1:dF n (λi j=>CO rs (τ i) (τ j))=dF n (CO (rs.map (EF σ))):=Lb λi j hi hj=>(dH k F (by lia) (by lia)).symm
 rw[e1,<-bO J h1,QJ (Cf _) (lK _) (λr hr=>by
  obtain⟨q,I,rfl⟩:=nS.mp hr;exact⟨k.lt _ (F q I).1,k.lt _ (F q I).2⟩),QA,QF]
 unfold A3;refine Me λS O=>?_
 have:=hg S O
 rw[US];by_cases h:Ek (n+d) root (nz (n+d)) (S.map (EF σ))=true
 ·rw[nF h,nF (this.mp h)]
 ·rw[nv h,nv (λz=>h (this.mpr z))]
def Cq(n:Nat)(cs:List AK):Bool:=(Bo (nz n) cs).isSome
def CC(n:Nat)(cs:List AK):Bool:=match Bo (nz n) cs with
 |some ms=>decide (ms.getD 0 0≠ms.getD 1 0)
 |none=>false
theorem cE(J:a<n)(I:b<n)(aa:a≠b)(O:∀r∈S,r.1<n/\r.2.1<n):Ek n (λi=>i == a || i == b) (nz n) S=true↔S.length+2=n/\∃ms,Bo (nz n) S=some ms/\ms.getD a 0≠ms.getD b 0:=by
 rw[NK (Cf n) XA O];have f:=K7 n;have kt:=I0 (Cf n) O;have ab:∀{i:Nat},(i == a || i == b)=true->i=a\/i=b:=λh=>by simpa using h
 constructor
 ·rintro⟨ad,e,al,s⟩;obtain⟨rfl,z⟩:=Gw (Cf n) O e;have F:(A7 (nz n) S).getD a 0≠(A7 (nz n) S).getD b 0:=λw=>aa (s a b J I (by simp) (by simp) w)
  have ac:CL n (A7 (nz n) S)=2:=(PY kt J I F).mpr λu hu=>by
   obtain⟨i,_,ri,ei⟩:=D3.mp (Mw.mp al u hu);rcases ab ri with rfl|rfl
   ·exact .inl ei.symm
   ·exact .inr ei.symm
  exact⟨by lia,_,e,F⟩
 ·rintro⟨hl,ms,e,F⟩;obtain⟨rfl,z⟩:=Gw (Cf n) O e;have all:=(PY kt J I F).mp (by lia);refine⟨_,e,Mw.mpr λi hi=>D3.mpr ?_,λi j _ _ ri rj w=>?_⟩
  ·rcases all i hi with y|y
   ·exact⟨a,J,by simp,y.symm⟩
   ·exact⟨b,I,by simp,y.symm⟩
  ·rcases ab ri with rfl|rfl<;>rcases ab rj with rfl|rfl
   ·rfl
   ·exact absurd w F
   ·exact absurd w.symm F
   ·rfl
theorem GA.inj(k:GA N σ τ):∀i j,i<N->j<N->σ i=σ j->i=j:=λi j hi F e=>by rw[<-k.ts i hi,e,k.ts j F]
theorem TM(k:GA N σ τ)(h:∀r∈S,r.1<N/\r.2.1<N):∀r∈S.map (EF σ),r.1<N/\r.2.1<N:=λr I=>by
 obtain⟨q,F,rfl⟩:=nS.mp I;exact⟨k.lt _ (h q F).1,k.lt _ (h q F).2⟩
theorem NR(h:∀r∈rs,r.1<n/\r.2.1<n)(i j:Nat):en (BB n rs) i j=CO rs i j:=by
 unfold BB CO;rw[(J2 rs (JA n) h).2,QZ];grind
def sH(n i:Nat):Nat:=if i=0 then n else if i=1 then n+1 else i-2
def tH(n i:Nat):Nat:=if i<n then i+2 else i-n
theorem MK(n:Nat):GA (n+2) (sH n) (tH n):=by
 refine⟨λi hi=>?_,λi hi=>?_,λi hi=>?_,λi hi=>?_⟩<;>simp only[sH,tH]<;>grind
theorem dZ(h:∀r∈rs,r.1<n+2/\r.2.1<n+2):dt n n (Dg (BB (n+2) rs))=A3 n (CC (n+2)) rs:=by
 have I:=(J2 rs (JA (n+2)) h).1;rw[Qz _ (HE (T:=BB (n+2) rs) I).1];show dF n (HU (Dg (BB (n+2) rs)))=_;have e:dF n (HU (Dg (BB (n+2) rs)))=dF n (λi j=>CO rs (tH n i) (tH n j)):=Lb λi j hi hj=>by
  have t:∀k,k<n->tH n k=k+2:=λk J=>by unfold tH;rw[nF J]
  show _=CO rs (tH n i) (tH n j);rw[t i hi,t j hj,<-NR h,QU];unfold en;rw[nq (l:=Dg (BB (n+2) rs)),Nb (T:=BB (n+2) rs) I hi,qD,nq,rL,r8 2 j,<-List.getD_eq_getElem?_getD]
 rw[e];refine Ul (d:=2) (MK n) h (root:=λi=>i == n || i == n+1) (λi hi=>?_) (λi h1 h2=>?_) (CC (n+2)) λS O=>?_
 ·simp;lia
 ·simp;lia
 ·have F:∀r∈S,r.1<n+2/\r.2.1<n+2:=λr hr=>h r (O r hr)
  rw[cE (show n<n+2 by lia) (show n+1<n+2 by lia) (by lia) (TM (MK n) F),nc];have s0:sH n 0=n:=rfl;have s1:sH n 1=n+1:=rfl;unfold CC;rcases Pa (MK n).lt (Cf _) (Cf _) (W5 (MK n).lt (MK n).inj) F with ⟨a,b⟩|⟨x,y,a,b,s⟩
  ·rw[a,b];constructor
   ·rintro⟨_,ms,z,_⟩;cases z
   ·rintro⟨_,z⟩;cases z
  ·rw[a,b]
   have:=s 0 1 (by lia) (by lia)
   rw[s0,s1]at this;constructor
   ·rintro⟨l,ms,z,ne⟩;cases z;exact⟨by lia,qm λz=>ne (this.mp z)⟩
   ·rintro⟨l,z⟩;exact⟨by lia,y,U,λw=>of_decide_eq_true z (this.mpr w)⟩
def sT(n i:Nat):Nat:=if i=0 then 0 else if i=1 then n+1 else i-1
def tT(n i:Nat):Nat:=if i=0 then 0 else if i=n+1 then 1 else i+1
theorem E6(n:Nat):GA (n+2) (sT n) (tT n):=by
 refine⟨λi hi=>?_,λi hi=>?_,λi hi=>?_,λi hi=>?_⟩<;>simp only[sT,tT]<;>grind
def EX(T:List (List Rat)):List (List Rat):=(T.take 1++T.drop 2).map λr=>r.take 1++r.drop 2
theorem XD{α:Type}{l:List α}(h:2<=l.length)(i:Nat):(l.take 1++l.drop 2)[i]?=l[if i=0 then 0 else i+1]?:=by
 match l,h with
 |a :: b :: l,_ =>
  cases i with
  |zero=>rfl
  |succ i =>
   show(a :: l)[i+1]?=_;rw[nv (by lia)];rfl
theorem LJ(q:Sq (n+2) T):(EX T).length=n+1/\∀r∈EX T,r.length=n+1:=by
 have l:∀{α:Type} (m:List α),m.length=n+2->(m.take 1++m.drop 2).length=n+1:=λm J=>by rw[nO,pB,o6];lia
 refine⟨by unfold EX;rw[nc];exact l _ q.len,λr I=>?_⟩;obtain⟨x,F,rfl⟩:=nS.mp I;refine l x (q.EY x ?_);rcases nM.mp F with z|z
 ·exact rQ z
 ·exact qy z
theorem Ug(q:Sq (n+2) T)(hi:i<n+1)(I:j<n+1):en (EX T) i j=en T (tT n i) (tT n j):=by
 have t:∀k,k<n+1->(if k=0 then 0 else k+1)=tT n k:=λk hk=>by unfold tT;split;rfl;rw[nv (by lia)]
 have O:∀k,k<n+1->tT n k<n+2:=λk hk=>(E6 n).Rp k (by lia)
 obtain⟨F,J⟩:=q.row (O i hi);have e1:(EX T)[i]?=some ((T.getD (tT n i) []).take 1++(T.getD (tT n i) []).drop 2):=by
  unfold EX;rw[nJ,XD (by rw[q.len];lia),t i hi,J];rfl
 unfold en;rw[nq (l:=EX T),e1,qD,nq,XD (by rw[F];lia),t j I,<-List.getD_eq_getElem?_getD]
theorem UR(h:∀r∈rs,r.1<n+2/\r.2.1<n+2):dt (n+1) (n+1) (EX (BB (n+2) rs))=A3 (n+1) (Cq (n+2)) rs:=by
 have I:=(J2 rs (JA (n+2)) h).1;rw[Qz _ (LJ (T:=BB (n+2) rs) I).1];show dF (n+1) (HU (EX (BB (n+2) rs)))=_;have e:dF (n+1) (HU (EX (BB (n+2) rs)))=dF (n+1) (λi j=>CO rs (tT n i) (tT n j)):=Lb λi j hi O=>by
  show _=CO rs (tT n i) (tT n j);rw[QU,Ug (T:=BB (n+2) rs) I hi O,NR h]
 rw[e];refine Ul (d:=1) (E6 n) h (root:=λi=>i == n+1) (λi hi=>?_) (λi h1 h2=>?_) (Cq (n+2)) λS J=>?_
 ·simp;lia
 ·simp;lia
 ·have F:∀r∈S,r.1<n+2/\r.2.1<n+2:=λr hr=>h r (J r hr)
  show Ek (n+2) _ (nz (n+2)) _=true↔_;rw[Yz (show n+1<n+2 by lia) (TM (E6 n) F),nc];unfold Cq;rcases Pa (E6 n).lt (Cf _) (Cf _) (W5 (E6 n).lt (E6 n).inj) F with ⟨a,b⟩|⟨x,y,a,b,s⟩
  ·rw[a,b];constructor
   ·rintro⟨_,z⟩;exact absurd rfl z
   ·rintro⟨_,z⟩;cases z
  ·rw[a,b];constructor
   ·rintro⟨l,z⟩;exact⟨by lia,U⟩
   ·rintro⟨l,z⟩;exact⟨by lia,by simp⟩
theorem OB:∀{S:List AK},(∀r∈S,0<=r.2.2)->0<=BX S
 |[],_=>by show(0:Rat)<=1;decide
 |r :: S,h=>qG (h r (by simp)) (OB λx F=>h x (by simp[F]))
abbrev Hi(t:List AK->Bool)(c:Rat):List AK->Rat:=λS=>if t S=true then c*BX S else 0
theorem cG(s:Nat)(t:List AK->Bool)(rs:List AK):A3 s t rs=A1 (Hi (λS=>decide (S.length=s) && t S) 1) rs:=by
 unfold A3;refine Gx (λS=>?_) rs;show _=(if (decide (S.length=s) && t S)=true then 1*BX S else 0);rw[Rat.one_mul];congr 1;simp
theorem P7:∀(rs:List AK) (t:List AK->Bool) (c:Rat) (M v:Nat),(∀r∈rs,Vb α r.2.2)->BG ((M:Nat)*c)->Vb v c->BG (((M*BR rs:Nat):Rat)*A1 (Hi t c) rs)/\Vb (v+(α+1)*rs.length) (A1 (Hi t c) rs)
 |[],t,c,M,v,_,hi,hv=>by
  have e:A1 (Hi t c) []=if t []=true then c*1 else 0:=rfl
  rw[e];split
  ·rw[zt];exact⟨by show BG (((M*1:Nat):Rat)*c);rw[xf];exact hi,hv⟩
  ·exists ⟨0,by grind⟩
   have:=hv.nn
   constructor<;>grind
 |r :: rs,t,c,M,v,h,hi,hv=>by
  have hr:=h r (by simp);have h':∀r∈rs,Vb α r.2.2:=λx I=>h x (by simp[I])
  obtain⟨i1,J⟩:=P7 rs t c M v h' hi hv;have i0:BG (((M*r.2.2.den:Nat):Rat)*(c*r.2.2)):=by
   obtain⟨z,hz⟩:=hi;exists z*r.2.2.num;have d:((r.2.2.den:Nat):Rat)*r.2.2=r.2.2.num:=by rw[sd];exact Ex r.2.2
   rw[qk,oo,<-hz,<-d];grind
  obtain⟨F,v2⟩:=P7 rs (λS=>t (r :: S)) (c*r.2.2) (M*r.2.2.den) (v+α) h' i0 (hv.D0 hr);have e3:(λS=>Hi t c (r :: S))=Hi (λS=>t (r :: S)) (c*r.2.2):=by
   funext S
   show(if _ then c*(r.2.2*BX S) else 0)=(if _ then c*r.2.2*BX S else 0);rw[vV]
  have O:A1 (Hi t c) (r :: rs)=A1 (Hi t c) rs+A1 (Hi (λS=>t (r :: S)) (c*r.2.2)) rs:=by rw[<-e3];rfl
  rw[O];constructor
  ·obtain⟨z1,aa⟩:=i1;obtain⟨z2,ab⟩:=F;exists r.2.2.den*z1+z2;have d:BR (r :: rs)=r.2.2.den*BR rs:=rfl;rw[d,ue,oo,<-aa,<-ab,qk,qk,qk,qk,qk,ic]
   grind
  ·have:=(J.mono (u:=v+α+(α+1)*rs.length) (by lia)).Cu v2
   exact this.mono (by rw[oA,qv];lia)
theorem ZF(h:∀r∈rs,Vb α r.2.2):BG (((BR rs:Nat):Rat)*A3 s t rs)/\Vb ((α+1)*rs.length) (A3 s t rs):=by
 rw[cG]
 have:=P7 rs (λS=>decide (S.length=s) && t S) 1 1 0 h ⟨1,by grind⟩ (by constructor<;>decide)
 rwa [sJ,tJ]at this
theorem Fo{W k:Int}(F:W≠0)(e:(W:Rat)*q=k)(h1:k.natAbs<=2 ^ b)(h2:W.natAbs<=2 ^ a):Sb b a q:=by
 refine KY F h1 h2 ?_;rw[FI k W F];have I:(W:Rat)≠0:=by exact_mod_cast F
 have:(k:Rat) / (W:Rat)=q:=by
  rw[<-e,sd];rw[Rat.div_def,vV,yL _ I,zt]
 rw[this];rfl
theorem OL(m0:0<M)(hi:BG ((M:Nat)*q))(F:M<=2 ^ D)(O:Vb v q):Sb (D+v) D q:=by
 obtain⟨k,I⟩:=hi;have J:Ab ((2 ^ D:Nat):Rat) ((M:Nat):Rat):=HH (x:=(M:Int)) (by rw[oj];exact F)
 have:=J.D0 O
 rw[I,<-Rat.natCast_mul,<-Nat.pow_add]at this;exact Fo (W:=(M:Int)) (by lia) (by rw[ic];exact I) (FQ this) (by rw[oj];exact F)
theorem gN(h:∀r∈rs,Sb α β r.2.2)(I:rs.length<=m):Sb (β*m+(α+1)*m) (β*m) (A3 s t rs):=by
 obtain⟨a,b⟩:=ZF (s:=s) (t:=t) (rs:=rs) λr F=>(h r F).vb
 have hd:BR rs<=2 ^ (β*m):=oa (Le λr F=>(h r F).2) (oQ (by decide) (pZ _ I));exact(OL (Fp rs) a hd b).mono (by have:=pZ (α+1) I;lia) (nG _)
theorem cR(I:b<n)(U:Nat->AW)(c:Nat->Rat):dF n (λk=>if k=b then U b else λj=>U k j+c k*U b j)=dF n U:=by
 have F:∀t,t<=n->dF n (λk=>if k≠b/\k<t then (λj=>U k j+c k*U b j) else U k)=dF n U:=by
  intro t
  induction t with
  |zero =>
   intro _;exact CK λi _=>nv (by lia)
  |succ t ih =>
   intro O;rw[<-ih (by lia)];by_cases hp:t=b
   ·refine CK λi _=>?_
    by_cases z:i≠b/\i<t
    ·rw[nF z,nF ⟨z.1,by lia⟩]
    ·rw[nv z,nv (by lia)]
   ·have J:dF n (λk=>if k≠b/\k<t+1 then (λj=>U k j+c k*U b j) else U k)=dF n (An (λk=>if k≠b/\k<t then (λj=>U k j+c k*U b j) else U k) t λj=>U t j+c t*(λk=>if k≠b/\k<t then (λj=>U k j+c k*U b j) else U k) b j):=by
     refine CK λi _=>?_
     by_cases e:i=t
     ·subst e;rw[C0,nF ⟨hp,by lia⟩]
      funext j
      simp only[ne_eq,not_true_eq_false,false_and,if_false]
     ·rw[C3 e];by_cases z:i≠b/\i<t
      ·rw[nF z,nF ⟨z.1,by lia⟩]
      ·rw[nv z,nv (by lia)]
    rw[J,JD hp (by lia) I];refine CK λi _=>?_
    by_cases e:i=t
    ·subst e;rw[C0,nv (by lia)]
    ·rw[C3 e]
 rw[<-F n (nG _)];refine CK λi hi=>?_
 by_cases z:i=b
 ·rw[nF z,nv (by lia),z]
 ·rw[nv z,nF ⟨z,hi⟩]
def Bs(n:Nat)(V:Nat->AW)(i j:Nat):Rat:=dF n (An V i (AQ j))
theorem VM(F:k<n)(V:Nat->AW)(a:Nat->Rat):∀m,dF n (An V k λc=>AV (λj=>a j*AQ j c) m)=AV (λj=>a j*Bs n V k j) m
 |0=>Uh F V
 |m+1=>by
  show dF n (An V k λc=>AV (λj=>a j*AQ j c) m+a m*AQ m c)=AV (λj=>a j*Bs n V k j) m+a m*Bs n V k m;rw[Fs F,VM F V a m,GN F];rfl
theorem Vx(J:k<n)(V:Nat->AW)(v:AW):dF n (An V k v)=AV (λj=>v j*Bs n V k j) n:=by
 rw[<-VM J V v n];refine Lb λi j hi I=>?_
 by_cases e:i=k
 ·subst e;rw[C0,C0];show v j=AV (λl=>v l*AQ l j) n;rw[GI I]
  ·unfold AQ;rw[nF rfl];grind
  ·intro l _ F;unfold AQ;rw[nv (λz=>F z.symm)];grind
 ·rw[C3 e,C3 e]
theorem Qh(hi:i<n)(F:k<n)(V:Nat->AW):AV (λj=>V i j*Bs n V k j) n=if i=k then dF n V else 0:=by
 rw[<-Vx F];by_cases e:i=k
 ·rw[nF e,e,Ey]
 ·rw[nv e]
  have:=KH e hi F V (V i)
  rwa [Ey]at this
theorem Sd(f:Nat->Nat->Rat)(m:Nat):∀n,AV (λi=>AV (λj=>f i j) m) n=AV (λj=>AV (λi=>f i j) n) m
 |0=>by
  show(0:Rat)=_;exact(Hr λ_ _=>rfl).symm
 |n+1=>by
  show AV (λi=>AV (λj=>f i j) m) n+AV (λj=>f n j) m=AV (λj=>AV (λi=>f i j) n+f n j) m;rw[Sd f m n,D5]
theorem et(s:∀i j,i<n->j<n->V i j=V j i)(t:dF n V≠0)(O:k<n)(I:l<n):Bs n V k l=Bs n V l k:=by
 have a:AV (λi=>AV (λj=>Bs n V k i*V i j*Bs n V l j) n) n=Bs n V k l*dF n V:=by
  have e:AV (λi=>AV (λj=>Bs n V k i*V i j*Bs n V l j) n) n=AV (λi=>Bs n V k i*(if i=l then dF n V else 0)) n:=Bc λi hi=>by
   rw[<-Qh hi I,<-Es];exact Bc λj _=>by grind
  rw[e,GI I]
  ·rw[nF rfl]
  ·intro i _ F;rw[nv F];grind
 have b:AV (λi=>AV (λj=>Bs n V k i*V i j*Bs n V l j) n) n=Bs n V l k*dF n V:=by
  rw[Sd];have e:AV (λj=>AV (λi=>Bs n V k i*V i j*Bs n V l j) n) n=AV (λj=>Bs n V l j*(if j=k then dF n V else 0)) n:=Bc λj J=>by
   rw[<-Qh J O,<-Es];exact Bc λi hi=>by rw[s i j hi J];grind
  rw[e,GI O]
  ·rw[nF rfl]
  ·intro i _ F;rw[nv F];grind
 rw[a]at b
 have:(Bs n V k l-Bs n V l k)*dF n V=0:=by grind
 rcases rB.mp this with z|z
 ·grind
 ·exact absurd z t
theorem eQ(V:Nat->AW)(c:Rat)(d:AW):dF n (λi j=>V i j+c*d i*d j)=dF n V+c*AV (λi=>AV (λj=>d i*d j*Bs n V i j) n) n:=by
 have F:∀t,t<=n->dF n (λi=>if i<t then (λj=>V i j+c*d i*d j) else V i)=dF n V+AV (λi=>c*d i*dF n (An V i d)) t:=by
  intro t
  induction t with
  |zero =>
   intro _;show _=dF n V+0;rw[tM];exact CK λi _=>nv (by lia)
  |succ t ih =>
   intro ht;have J:dF n (λi=>if i<t+1 then (λj=>V i j+c*d i*d j) else V i)=dF n (An (λi=>if i<t then (λj=>V i j+c*d i*d j) else V i) t λj=>V t j+(c*d t)*d j):=by
    refine CK λi _=>?_
    by_cases e:i=t
    ·subst e;rw[C0,nF (by lia)]
    ·rw[C3 e];by_cases z:i<t
     ·rw[nF z,nF (by lia)]
     ·rw[nv z,nv (by lia)]
   have O:dF n (An (λi=>if i<t then (λj=>V i j+c*d i*d j) else V i) t (V t))=dF n (λi=>if i<t then (λj=>V i j+c*d i*d j) else V i):=by
    refine CK λi _=>?_
    by_cases e:i=t
    ·subst e;rw[C0,nv (by lia)]
    ·rw[C3 e]
   have I:dF n (An (λi=>if i<t then (λj=>V i j+c*d i*d j) else V i) t d)=dF n (An V t d):=by
    rw[<-cR (b:=t) (by lia) (An V t d) (λi=>if i<t then c*d i else 0)];refine CK λi _=>?_
    by_cases e:i=t
    ·subst e;rw[C0,nF rfl,C0]
    ·rw[C3 e,nv e,C3 e,C0];by_cases z:i<t
     ·rw[nF z,nF z]
     ·rw[nv z,nv z];funext j;grind
   rw[J,Fs (by lia),GN (by lia),O,I,ih (by lia)];show _=dF n V+(AV (λi=>c*d i*dF n (An V i d)) t+c*d t*dF n (An V t d))
   grind
 have:=F n (nG _)
 have e:dF n (λi j=>V i j+c*d i*d j)=dF n (λi=>if i<n then (λj=>V i j+c*d i*d j) else V i):=CK λi hi=>by rw[nF hi]
 rw[e,this,<-Es];congr 1;refine Bc λi hi=>?_
 rw[Vx hi,vV,<-Es,<-Es,<-Es];refine Bc λj _=>?_
 grind
theorem Pb:∀(rs:List AK) (r:AK) (f:List AK->Rat),A1 f (rs++[r])=A1 f rs+A1 (λS=>f (S++[r])) rs
 |[],r,f=>rfl
 |x :: rs,r,f=>by
  show A1 f (rs++[r])+A1 (λS=>f (x :: S)) (rs++[r])=(A1 f rs+A1 (λS=>f (x :: S)) rs)+(A1 (λS=>f (S++[r])) rs+A1 (λS=>f (x :: (S++[r]))) rs);rw[Pb rs r f,Pb rs r (λS=>f (x :: S))]
  grind
theorem NJ:∀(rs:List AK) (f g:List AK->Rat),A1 (λS=>f S+g S) rs=A1 f rs+A1 g rs
 |[],_,_=>rfl
 |r :: rs,f,g=>by
  show A1 (λS=>f S+g S) rs+A1 (λS=>f (r :: S)+g (r :: S)) rs=(A1 f rs+A1 (λS=>f (r :: S)) rs)+(A1 g rs+A1 (λS=>g (r :: S)) rs);rw[NJ rs f g,NJ rs (λS=>f (r :: S)) (λS=>g (r :: S))]
  grind
theorem SN:∀(S:List AK) (r:AK) (ms:List Nat),Bo ms (S++[r])=(Bo ms S).bind λm=>if m.getD r.1 0=m.getD r.2.1 0 then none else some (BQ m r)
 |[],r,ms=>by
  show(if ms.getD r.1 0=ms.getD r.2.1 0 then none else Bo (BQ ms r) [])=(if ms.getD r.1 0=ms.getD r.2.1 0 then none else some (BQ ms r));rfl
 |x :: S,r,ms=>by
  rw[qT];show(if _ then _ else _)=(if ms.getD x.1 0=ms.getD x.2.1 0 then none else Bo (BQ ms x) S).bind _;split
  ·rfl
  ·exact SN S r _
def F1(n a b:Nat)(S:List AK):Bool:=match Bo (nz n) S with
 |some ms=>decide (ms.getD a 0≠ms.getD b 0)
 |none=>false
def DY(n p:Nat)(S:List AK):Bool:=match Bo (nz n) S with
 |some ms=>decide (ms.getD 0 0≠ms.getD 1 0/\ms.getD p 0=ms.getD 0 0)
 |none=>false
theorem Tj:∀(S:List AK) (r:AK),BX (S++[r])=r.2.2*BX S
 |[],r=>rfl
 |x :: S,r=>by
  show x.2.2*BX (S++[r])=r.2.2*(x.2.2*BX S);rw[Tj S r];grind
theorem Zc(rs:List AK)(a b:Nat)(c:Rat):A3 (n+1) (Cq N) (rs++[(a,b,c)])=A3 (n+1) (Cq N) rs+c*A3 n (F1 N a b) rs:=by
 unfold A3;rw[Pb,<-Jo];congr 1;refine Gx (λS=>?_) rs;rw[nO,Tj];have e:Cq N (S++[(a,b,c)])=F1 N a b S:=by
  unfold Cq F1;rw[SN];cases Bo (nz N) S with
  |none=>rfl
  |some ms =>
   show(if ms.getD a 0=ms.getD b 0 then none else some (BQ ms (a,b,c))).isSome=_;by_cases z:ms.getD a 0=ms.getD b 0
   ·rw[nF z];exact(qB λw=>w z).symm
   ·rw[nv z];exact(qm z).symm
 rw[e];by_cases z:S.length=n/\F1 N a b S=true
 ·rw[nF z,nF ⟨by simp[z.1],z.2⟩]
 ·rw[nv z,nv (λw=>z ⟨by simpa using w.1,w.2⟩)];grind
theorem NV(h:∀r∈rs,r.1<n+2/\r.2.1<n+2):dF (n+1) (λi j=>CO rs (tT n i) (tT n j))=A3 (n+1) (Cq (n+2)) rs:=by
 rw[<-UR h,Qz _ (LJ (T:=BB (n+2) rs) (J2 rs (JA (n+2)) h).1).1];show _=dF (n+1) (HU (EX (BB (n+2) rs)));refine Lb λi j hi F=>?_
 show CO rs (tT n i) (tT n j)=_;rw[QU,Ug (T:=BB (n+2) rs) (J2 rs (JA (n+2)) h).1 hi F,NR h]
abbrev mV(n:Nat)(rs:List AK):Nat->AW:=λi j=>CO rs (tT n i) (tT n j)
theorem Uy(h:∀r∈rs,r.1<n+2/\r.2.1<n+2)(I:a<n+2)(J:b<n+2):
  A3 n (F1 (n+2) a b) rs=AV (λi=>AV (λj=>(AQ a (tT n i)-AQ b (tT n i))*(AQ a (tT n j)-AQ b (tT n j))*Bs (n+1) (mV n rs) i j) (n+1)) (n+1):=by
 have e:=Zc (N:=n+2) (n:=n) rs a b 1;rw[<-NV h,<-NV (rs:=rs++[(a,b,1)]) (λr O=>by
  rcases nM.mp O with z|z
  ·exact h r z
  ·rw[nU.mp z];exact⟨I,J⟩)]at e
 have r:=eQ (n:=n+1) (mV n rs) 1 (λi=>AQ a (tT n i)-AQ b (tT n i));have F:(λi j=>CO (rs++[(a,b,(1:Rat))]) (tT n i) (tT n j))=λi j=>mV n rs i j+1*(AQ a (tT n i)-AQ b (tT n i))*(AQ a (tT n j)-AQ b (tT n j)):=by
  funext i j
  show((rs++[(a,b,(1:Rat))]).map λr=>B6 r (tT n i) (tT n j)).sum=(rs.map λr=>B6 r (tT n i) (tT n j)).sum+_;rw[nY,ud,nK,pE,ow,rF,J6]
  grind
 rw[F,r]at e
 grind
theorem aX(h:∀r∈rs,r.1<n+2/\r.2.1<n+2)(hp:p<n+2):
  2*A3 n (DY (n+2) p) rs=A3 n (F1 (n+2) 0 1) rs+A3 n (F1 (n+2) p 1) rs + -1*A3 n (F1 (n+2) p 0) rs:=by
 unfold A3;rw[<-Jo,<-Jo,<-NJ,<-NJ];refine Me λS O=>?_
 have I:∀r∈S,r.1<n+2/\r.2.1<n+2:=λr hr=>h r (O r hr)
 by_cases l:S.length=n
 ·unfold DY F1;cases e:Bo (nz (n+2)) S with
  |none=>simp;grind
  |some ms =>
   obtain⟨rfl,z⟩:=Gw (Cf (n+2)) I e;have kt:=I0 (Cf (n+2)) I;have f:=K7 (n+2);have k2:CL (n+2) (A7 (nz (n+2)) S)=2:=by lia
   generalize A7 (nz (n+2)) S=ms at *;simp only[l,true_and,su];by_cases c:ms.getD 0 0=ms.getD 1 0
   ·simp only[c,ne_eq,not_true_eq_false,false_and,if_false];split<;>grind
   ·have J:=(PY kt (show 0<n+2 by lia) (show 1<n+2 by lia) c).mp k2 p hp;rcases J with y|y
    ·have F:¬ms.getD p 0=ms.getD 1 0:=λw=>c (y.symm.trans w)
     rw[nF ⟨c,y⟩,nF c,nF F,nv (λw=>w y)]
     grind
    ·have F:¬ms.getD p 0=ms.getD 0 0:=λw=>c (w.symm.trans y)
     rw[nv (λw=>F w.2),nF c,nv (λw=>w y),nF F]
     grind
 ·rw[nv (λz=>l z.1),nv (λz=>l z.1),nv (λz=>l z.1),nv (λz=>l z.1)];grind
theorem Mv(I:u<m)(f:Nat->Rat):AV (λi=>AQ u i*f i) m=f u:=by
 rw[GI I]
 ·unfold AQ;rw[nF rfl];grind
 ·intro l _ F;unfold AQ;rw[nv F];grind
theorem Zu(F:u<m)(A:Nat->Nat->Rat):AV (λi=>AV (λj=>AQ u i*AQ u j*A i j) m) m=A u u:=by
 have e:AV (λi=>AV (λj=>AQ u i*AQ u j*A i j) m) m=AV (λi=>AQ u i*A i u) m:=Bc λi _=>by
  rw[<-Mv F (λj=>A i j),<-Es];exact Bc λj _=>by grind
 rw[e,Mv F]
theorem M9(F:u<m)(I:v<m)(A:Nat->Nat->Rat):AV (λi=>AV (λj=>AQ u i*AQ v j*A i j) m) m=A u v:=by
 have e:AV (λi=>AV (λj=>AQ u i*AQ v j*A i j) m) m=AV (λi=>AQ u i*A i v) m:=Bc λi _=>by
  rw[<-Mv I (λj=>A i j),<-Es];exact Bc λj _=>by grind
 rw[e,Mv F]
theorem bL(F:u<m)(I:v<m)(A:Nat->Nat->Rat):AV (λi=>AV (λj=>(AQ u i-AQ v i)*(AQ u j-AQ v j)*A i j) m) m=A u u+A v v-A u v-A v u:=by
 have e:AV (λi=>AV (λj=>(AQ u i-AQ v i)*(AQ u j-AQ v j)*A i j) m) m =
   AV (λi=>AV (λj=>AQ u i*AQ u j*A i j) m+AV (λj=>AQ v i*AQ v j*A i j) m + -1*(AV (λj=>AQ u i*AQ v j*A i j) m+AV (λj=>AQ v i*AQ u j*A i j) m)) m:=Bc λi _=>by
  rw[<-D5,<-D5,<-Es,<-D5];exact Bc λj _=>by grind
 rw[e,D5,D5,Es,D5,M9 F F,M9 I I,M9 F I,M9 I F]
 grind
theorem KO(hp:p<n+2)(hi:i<n+1):AQ p (tT n i)=AQ (sT n p) i:=(Lg (E6 n) hp (by omega)).symm
theorem UP(hi:i<n+1):AQ 1 (tT n i)=0:=by
 rw[KO (by lia) hi];show AQ (n+1) i=0;unfold AQ;rw[nv (by lia)]
theorem Lz(hp:p<n+2)(h1:p≠1):sT n p<n+1:=by simp only[sT];split<;>omega
theorem UW(h:∀r∈rs,r.1<n+2/\r.2.1<n+2)(hp:p<n+2)(h1:p≠1):A3 n (F1 (n+2) p 1) rs=Bs (n+1) (mV n rs) (sT n p) (sT n p):=by
 rw[Uy h hp (by lia),<-Zu (Lz hp h1) (Bs (n+1) (mV n rs))];refine Bc λi hi=>Bc λj F=>?_
 rw[UP hi,UP F,KO hp hi,KO hp F];grind
theorem fY(h:∀r∈rs,r.1<n+2/\r.2.1<n+2)(hp:p<n+2)(h1:p≠1):
  A3 n (F1 (n+2) p 0) rs=Bs (n+1) (mV n rs) (sT n p) (sT n p)+Bs (n+1) (mV n rs) 0 0-Bs (n+1) (mV n rs) (sT n p) 0-Bs (n+1) (mV n rs) 0 (sT n p):=by
 rw[Uy h hp (by lia),<-bL (Lz hp h1) (show 0<n+1 by lia) (Bs (n+1) (mV n rs))];refine Bc λi hi=>Bc λj F=>?_
 have z:∀k,k<n+1->AQ 0 (tT n k)=AQ 0 k:=λk I=>KO (by lia) I
 rw[z i hi,z j F,KO hp hi,KO hp F]
theorem iD(i j:Nat):mV n rs i j=mV n rs j i:=by
 show(rs.map λr=>B6 r (tT n i) (tT n j)).sum=(rs.map λr=>B6 r (tT n j) (tT n i)).sum;congr 1;refine o7 λr _=>?_
 rw[J6,J6];grind
theorem SQ(f:Nat->Rat):AV f (n+2)=AV (λi=>f (tT n i)) (n+1)+f 1:=by
 rw[Gy f (n+1),Gy (λj=>f (j+1)) n,Gy (λi=>f (tT n i)) n];have e:AV (λj=>f (tT n (j+1))) n=AV (λj=>f (j+1+1)) n:=Bc λj F=>by
  unfold tT;rw[nv (by lia),nv (by lia)]
 rw[e];show f 0+(f 1+_)=f 0+_+f 1
 grind
theorem LO(h:∀r∈rs,r.1<n+2/\r.2.1<n+2)(X:Nat->Rat)(p:Nat):Aj X rs p=AV (λq=>CO rs p q*X q) (n+2):=by
 rw[<-Pq h X p];exact Bc λq _=>by rw[NR h]
theorem NI(X Y:Nat->Rat)(c:Rat)(p:Nat):∀rs:List AK,Aj (λq=>X q-c*Y q) rs p=Aj X rs p-c*Aj Y rs p
 |[]=>by show(0:Rat)=0-c*0;grind
 |r :: rs=>by
  have F:=NI X Y c p rs;unfold Aj at F ⊢;rw[nK,ow,nK,ow,nK,ow,F];unfold Ca Au;split<;>split<;>grind
theorem SO(h:∀r∈rs,r.1<n+2/\r.2.1<n+2)(e:∀q,q<n+2->X q=Y q)(p:Nat):Aj X rs p=Aj Y rs p:=by
 rw[LO h,LO h];exact Bc λq F=>by rw[e q F]
theorem U0(h:∀r∈rs,r.1<n+2/\r.2.1<n+2/\0<r.2.2)(g:GY (n+2) rs):dF (n+1) (mV n rs)≠0:=by
 intro z;have h2:∀r∈rs,r.1<n+2/\r.2.1<n+2:=λr hr=>⟨(h r hr).1,(h r hr).2.1⟩
 rw[HI]at z;obtain⟨x,⟨j,hj,xj⟩,hx⟩:=XT (n+1) ((nz (n+1)).map (mV n rs)) (by simp) z
 let X:Nat->Rat:=λq=>if q=1 then 0 else x (sT n q)
 have O:X 1=0:=nF rfl;have Xt:∀i,i<n+1->X (tT n i)=x i:=λi hi=>by
  show(if tT n i=1 then 0 else x (sT n (tT n i)))=x i;rw[(E6 n).st i (by lia),nv];unfold tT;split;lia ;rw[nv (by lia)];lia
 have F:∀p,p<n+2->p≠1->Aj X rs p=0:=λp hp p1=>by
  rw[LO h2,SQ,O]
  have:=hx (mV n rs (sT n p)) (nS.mpr ⟨sT n p,oJ.mpr (Lz hp p1),U⟩)
  have e:AV (λi=>CO rs p (tT n i)*X (tT n i)) (n+1)=AV (λj=>mV n rs (sT n p) j*x j) (n+1):=Bc λi hi=>by
   rw[Xt i hi];show _=CO rs (tT n (sT n p)) (tT n i)*x i;rw[(E6 n).ts p hp]
  rw[e,this];grind
 have aa:Aj X rs 1=0:=by
  have:=R6 h2 (X:=X) (λi a b=>F i b (by lia))
  rw[this,F 0 (by lia) (by lia)];grind
 have D:=Mq h g (X:=λq=>X q-X 0*(λ_=>(1:Rat)) q) (by show X 0-X 0*1=0;grind) (λi hi=>.inr (by
  rw[NI];have I:Aj (λ_=>(1:Rat)) rs i=0:=by
   unfold Aj
   have:rs.map (Ca (λ_=>(1:Rat)) i)=rs.map λ_=>0:=o7 λr _=>by unfold Ca Au;split<;>split<;>grind
   rw[this];clear this h h2 g z hx F aa
   induction rs with
   |nil=>rfl
   |cons r rs ih=>rw[nK,ow,ih];grind
  by_cases J:i=1
  ·rw[J,aa];rw[J]at I;rw[I];grind
  ·rw[F i hi J,I];grind))
 have d1:=D 1 (by lia);have d0:=D (tT n j) ((E6 n).Rp j (by lia));simp only[O]at d1;rw[Xt j hj]at d0
 grind
theorem Tf:A3 n (DY (n+2) 1) rs=0:=by
 unfold A3;refine Eq.trans (Gx (λS=>?_) rs) (Mi rs);rw[nv];rintro⟨_,z⟩;unfold DY at z;split at z
 ·rw[su]at z;exact z.1 z.2.symm
 ·cases z
theorem TF:A3 n (DY (n+2) 0) rs=A3 n (CC (n+2)) rs:=by
 unfold A3;refine Gx (λS=>?_) rs;have e:DY (n+2) 0 S=CC (n+2) S:=by
  unfold DY CC;cases Bo (nz (n+2)) S with
  |none=>rfl
  |some ms=>simp
 rw[e]
theorem Zn(h:∀r∈rs,r.1<n+2/\r.2.1<n+2/\0<r.2.2)(g:GY (n+2) rs)(hp:p<n+2)(h1:p≠1):A3 n (DY (n+2) p) rs=Bs (n+1) (mV n rs) 0 (sT n p):=by
 have h2:∀r∈rs,r.1<n+2/\r.2.1<n+2:=λr F=>⟨(h r F).1,(h r F).2.1⟩
 have e:=aX h2 hp;rw[UW h2 (show 0<n+2 by lia) (by lia),UW h2 hp h1,fY h2 hp h1]at e;have s:=et (V:=mV n rs) (λi j _ _=>iD i j) (U0 h g) (show 0<n+1 by lia) (Lz hp h1);have I:sT n 0=0:=rfl;rw[I]at e
 grind
theorem Tb(h:∀r∈rs,r.1<n+2/\r.2.1<n+2/\0<r.2.2)(g:GY (n+2) rs)(hp:p<n+2)(h1:p≠1):Aj (λq=>A3 n (DY (n+2) q) rs) rs p=if p=0 then A3 (n+1) (Cq (n+2)) rs else 0:=by
 have h2:∀r∈rs,r.1<n+2/\r.2.1<n+2:=λr F=>⟨(h r F).1,(h r F).2.1⟩
 rw[LO h2,SQ,Tf,<-NV h2];have a:=Qh (V:=mV n rs) (Lz hp h1) (show 0<n+1 by lia);have e:AV (λi=>CO rs p (tT n i)*A3 n (DY (n+2) (tT n i)) rs) (n+1)=AV (λj=>mV n rs (sT n p) j*Bs (n+1) (mV n rs) 0 j) (n+1):=Bc λi hi=>by
  have t1:tT n i≠1:=by unfold tT;split;lia ;rw[nv (by lia)];lia
  rw[Zn h g ((E6 n).Rp i (by lia)) t1,(E6 n).st i (by lia)];show _=CO rs (tT n (sT n p)) (tT n i)*_;rw[(E6 n).ts p hp]
 rw[e,a]
 have:(sT n p=0)↔p=0:=by simp only[sT];split<;>lia
 by_cases c:p=0
 ·rw[nF (this.mpr c),nF c];grind
 ·rw[nv (λz=>c (this.mp z)),nv c];grind
theorem Xq(h:∀r∈rs,r.1<n+2/\r.2.1<n+2/\0<r.2.2)(g:GY (n+2) rs)(F:X 0=1)(x1:X 1=0)(aa:∀i,2<=i->i<n+2->Aj X rs i=0):
  (∀p,p<n+2->X p*A3 n (CC (n+2)) rs=A3 n (DY (n+2) p) rs)/\Aj X rs 0*A3 n (CC (n+2)) rs=A3 (n+1) (Cq (n+2)) rs:=by
 have h2:∀r∈rs,r.1<n+2/\r.2.1<n+2:=λr O=>⟨(h r O).1,(h r O).2.1⟩
 have D:=Mq h g (X:=λq=>A3 n (DY (n+2) q) rs-A3 n (CC (n+2)) rs*X q) (by show A3 n (DY (n+2) 0) rs-_*X 0=0;rw[F,TF];grind) (λi hi=>by
  by_cases J:i=1
  ·left
   show A3 n (DY (n+2) i) rs-_*X i=0;rw[J,Tf,x1];grind
  ·by_cases I:i=0
   ·left
    show A3 n (DY (n+2) i) rs-_*X i=0;rw[I,F,TF];grind
   ·right
    rw[NI,Tb h g hi J,nv I,aa i (by lia) hi];grind)
 have e:∀p,p<n+2->A3 n (DY (n+2) p) rs=X p*A3 n (CC (n+2)) rs:=λp hp=>by
  have:=D p hp
  have this:A3 n (DY (n+2) p) rs-A3 n (CC (n+2)) rs*X p=0:=this
  grind
 refine⟨λp hp=>(e p hp).symm,?_⟩;have b:=Tb h g (show 0<n+2 by lia) (by lia);rw[nF rfl]at b;rw[<-b,SO h2 (X:=λq=>A3 n (DY (n+2) q) rs) (Y:=λq=>(λ_=>(0:Rat)) q-(-A3 n (CC (n+2)) rs)*X q) (λq hq=>by show _=0-_;rw[e q hq];grind),NI];have z:Aj (λ_=>(0:Rat)) rs 0=0:=by
  rw[LO h2];exact Hr λq _=>by grind
 rw[z];grind
def JL(X:Nat->Rat)(r:AK):Rat:=Au X r*(X r.1-X r.2.1)
def GZ(X:Nat->Rat)(rs:List AK):Rat:=(rs.map (JL X)).sum
theorem cM(h:∀r∈rs,r.1<n+2/\r.2.1<n+2)(O:X 0=1)(F:X 1=0)(J:∀i,2<=i->i<n+2->Aj X rs i=0):GZ X rs=Aj X rs 0:=by
 unfold GZ JL;rw[<-Py h X X,GI (i:=0) (by lia) (λl I hn=>?_),O,Rat.one_mul]
 match l,hn with
 |1,_=>rw[F,Rat.zero_mul]
 |l+2,_=>rw[J (l+2) (by lia) I,yM]
theorem Sl(e:rs[k]?=some r):GZ X (rs.take (k+1))=GZ X (rs.take k)+JL X r:=by
 unfold GZ;rw[tD,e,nY,ud];simp only[aal,nK,pE,ow,rF,tM]
end
end Wd
namespace Wd
open Mth
def ix(ps:List Int)(a:Nat):Nat:=ps.idxOf (a:Int)
def Dx(n:Nat):List Int:=(nz n).map λi:Nat=>(i:Int)
theorem Tx:x∈Dx n↔∃k:Nat,k<n/\x=(k:Int):=by
 unfold Dx;rw[nS];constructor
 ·rintro⟨k,h,e⟩;exact⟨k,oJ.mp h,e.symm⟩
 ·rintro⟨k,h,e⟩;exact⟨k,oJ.mpr h,e.symm⟩
theorem fZ(n:Nat):(Dx n).Nodup:=by
 unfold Dx;rw[tQ,rf];exact tw (λh e=>h (by lia)) uP
theorem Tu(n:Nat):(Dx n).length=n:=by unfold Dx;rw[nc,oX]
section
variable {n:Nat}{ps:List Int}(hp:ps.Perm (Dx n))
include hp
theorem KC:ps.length=n:=by rw[hp.length_eq,Tu]
theorem WI:ps.Nodup:=hp.nodup_iff.mpr (fZ n)
theorem JK{a:Nat}(h:a<n):(a:Int)∈ps:=hp.mem_iff.mpr (Tx.mpr ⟨a,h,U⟩)
theorem L7{a:Nat}(h:a<n):ix ps a<n:=by
 have:=qg.mpr (JK hp h)
 rwa [KC hp]at this
theorem Q8{k:Nat}(h:k<n):∃j:Nat,j<n/\ps[k]?=some (j:Int):=by
 have F:k<ps.length:=by rw[KC hp];exact h
 obtain⟨j,I,e⟩:=Tx.mp (hp.mem_iff.mp (oK F));exact⟨j,I,by rw[nh F,e]⟩
theorem Q5{k j:Nat}(h:ps[k]?=some (j:Int)):ix ps j=k:=by
 have I:(j:Int)∈ps:=ny h;have F:=qg.mpr I;have e:ps[ps.idxOf (j:Int)]?=some (j:Int):=by rw[nh F,rM F]
 exact Q9 (WI hp) e h
end
theorem YT(h2:2<=n)(h:os.Perm ((nz (n-2)).map λi:Nat=>(2+(i:Int)))):([0,1]++os).Perm (Dx n):=by
 have e:Dx n=[0,1]++(nz (n-2)).map λi:Nat=>(2+(i:Int)):=by
  obtain⟨m,rfl⟩:∃m,n=m+2:=⟨n-2,by lia⟩;show(nz (m+2)).map _=0 :: 1 :: (nz m).map _;rw[qC,nK,qC,nK,nK,pC,pC];refine congrArg (λl:List Int=>(0:Int) :: (1:Int) :: l) (o7 λi _=>?_);simp only[Function.comp]
  lia
 rw[e];exact h.append_left _
end Wd
namespace My
open PySem L2 Mth
variable {x:Addr}{H:Hp}{e:Int}{L:List (Int×Int)}{ts:List (List Int)}{i j:Nat}
theorem Ae(h:H p=none)(o:HO):AM H (AF H p o):=λb u q=>by rw[As (B8 q h)];exact q
def CZ(x:Addr)(H H':Hp):Prop:=∀b o,b≠x->H b=some o->H' b=some o
theorem CZ.refl(x:Addr)(H:Hp):CZ x H H:=λ_ _ _ h=>h
theorem CZ.E8(h:CZ x H H')(o:HO):CZ x H (AF H' x o):=λb u n q=>by rw[As n];exact h b u n q
theorem CZ.trans(a:CZ x H H1)(b:CZ x H1 H2):CZ x H H2:=λc o n h=>b c o n (a c o n h)
theorem _root_.L2.AM.b(h:AM H H'):CZ x H H':=λb o _ q=>h b o q
theorem CZ.same(h:CZ x H H')(s:AM H0 H)(n:H0 x=none):AM H0 H':=λb o q=>h b o (B8 q n) (s b o q)
theorem CZ.Ah:CZ x H (AF H x o):=(CZ.refl x H).E8 o
theorem _root_.L2.AM.up(s:AM H0 H)(n:H0 x=none)(o:HO):AM H0 (AF H x o):=CZ.Ah.same s n
theorem KW{c A B:Prop}[Decidable c](F:¬c)(h:A):if (!decide c)=true then A else B:=by
 rw[qB F];exact EV h
theorem C4{c A B:Prop}[Decidable c](F:c)(h:A):if decide c=true then A else B:=by
 rw[qm F];exact EV h
theorem DC{c A B:Prop}[Decidable c](F:¬c)(h:B):if decide c=true then A else B:=by
 rw[qB F];exact Cr h
theorem iv(h:a=b):V.int a=V.int b:=by rw[h]
theorem Fi(h:a≠b):¬V.int a=V.int b:=λz=>h (V.int.inj z)
theorem DF(h:n<=100000):n<og:=by rw[r6];lia
abbrev BN(L:List (Int×Int)):List (Ai×V):=L.map λp=>(oi p.1,V.int p.2)
theorem QK(e:Int):∀L:List (Int×Int),Cj (BN L) (oi e:Ai)=(lk L e).map V.int
 |[]=>rfl
 |p :: L=>by
  show Cj ((oi p.1,V.int p.2) :: BN L) (oi e:Ai)=_;by_cases h:p.1=e
  ·rw[Jv (p:=((oi p.1:Ai),V.int p.2)) (by rw[h])];unfold lk;rw[List.find?_cons_of_pos (by simpa using h)];rfl
  ·rw[Iq (p:=((oi p.1:Ai),V.int p.2)) (λz=>h (xl z)),QK e L];unfold lk;rw[List.find?_cons_of_neg (by simpa using h)]
theorem Qd{k:Ai}{v:V}(h:Cj ge k=none):B4 ge k v=ge++[(k,v)]:=by
 unfold B4;rw[NN,h];rfl
theorem J9(h:e∉L.map (·.1)):B4 (BN L) (oi e:Ai) (.int v)=BN (L++[(e,v)]):=by
 rw[Qd (by rw[QK,fG h];rfl)];simp
abbrev Di(l:List Int):List (Ai×V):=l.map λe=>(oi e,V.bl true)
theorem JB(e:Int):∀l:List Int,Cj (Di l) (oi e:Ai)=if e∈l then some (V.bl true) else none
 |[]=>rfl
 |p :: L=>by
  show Cj ((oi p,V.bl true) :: Di L) (oi e:Ai)=_;by_cases h:p=e
  ·rw[Jv (p:=((oi p:Ai),V.bl true)) (by rw[h]),nF (by simp[h])]
  ·rw[Iq (p:=((oi p:Ai),V.bl true)) (λz=>h (xl z)),JB e L]
   have:e∈p :: L↔e∈L:=by simp[rN h]
   by_cases q:e∈L
   ·rw[nF q,nF (this.mpr q)]
   ·rw[nv q,nv λz=>q (this.mp z)]
theorem VG(h:e∉l):B4 (Di l) (oi e:Ai) (.bl true)=Di (l++[e]):=by
 rw[Qd (by rw[JB,nv h])];simp
theorem Nq(h:H d=some (.dK (BN L)))(q:lk L e=some v):DE H d (.int e) (some (.int v)):=by
 have:=DE.k (k:=oi e) h
 rw[QK,q]at this;exact this
def Je(H:Hp)(a:Addr)(bs:List Addr)(ts:List (List Int)):Prop :=
 H a=some (.AG (bs.map V.ref))/\bs.length=ts.length/\∀(i:Nat) (b:Addr) (row:List Int),bs[i]?=some b->ts[i]?=some row->H b=some (.AG (row.map V.int))
theorem Je.keep(h:Je H a bs ts)(s:AM H H'):Je H' a bs ts :=
 ⟨s _ _ h.1,h.2.1,λi b row I F=>s _ _ (h.2.2 i b row I F)⟩
theorem V9{bs:List Addr}{x:V}(F:bs.length=ts.length)(h:(bs.map V.ref)[i]?=some x):∃b row,x=.ref b/\bs[i]?=some b/\ts[i]?=some row:=by
 rw[nJ]at h;cases e:bs[i]? with
 |none=>rw[e]at h;cases h
 |some b =>
  rw[e]at h;have hi:i<bs.length:=(nj.mp e).1;exact⟨b,ts[i]'(by lia),(nV h).symm,U,nh (by lia)⟩
theorem N8{row:List Int}{x:V}(h:(row.map V.int)[i]?=some x):∃e,x=.int e/\row[i]?=some e:=by
 rw[nJ]at h;cases q:row[i]? with
 |none=>rw[q]at h;cases h
 |some e =>
  rw[q]at h;exact⟨e,(nV h).symm,U⟩
theorem jG{row:List Int}(h:row[i]?=some e):(row.map V.int)[i]?=some (.int e):=by rw[nJ,h];rfl
theorem UJ{row:List Int}(h:j<row.length):Bt (row.map V.int) ((j:Int)-1)=some (.int (FT row j)):=by
 have g:∀i,i<row.length->(row.map V.int)[i]?=some (.int (row.getD i 0)):=λi hi=>by
  rw[nJ,nh hi,nq,nh hi];rfl
 unfold FT;cases j with
 |zero =>
  rw[nF rfl];have F:(row.map V.int).length=row.length:=nc ..;have e:EN (row.map V.int).length (((0:Nat):Int)-1)=some (row.length-1):=by
   unfold EN;rw[F,nv (by decide),nF (by lia)];congr 1
   lia
  unfold Bt;rw[e];exact g _ (by lia)
 |succ j =>
  rw[nv (by lia),show(((j+1:Nat):Int)-1)=((j:Nat):Int) by lia];exact Be (g j (by lia))
theorem Mm(O:ts.flatten.Nodup)(h1:ts[i]?=some row)(h2:row[j]?=some e):e∉(ts.take i).flatten++row.take j:=by
 obtain⟨hi,q1⟩:=nj.mp h1;obtain⟨hj,q2⟩:=nj.mp h2;have e1:ts=ts.take i++row :: ts.drop (i+1):=by rw[<-q1,rD,qF]
 have J:row=row.take j++e :: row.drop (j+1):=by rw[<-q2,rD,qF]
 rw[e1,pX,oN,pP]at O;obtain⟨_,F,n3⟩:=O;intro z;rcases nM.mp z with z|z
 ·exact n3 e z e (pU _ (by rw[J];simp)) rfl
 ·rw[pP]at F;have I:=F.1;rw[J,pP]at I;exact I.2.2 e z e (by simp) rfl
theorem Fb(x y z:V):Bt [x,y,z] 0=some x:=Be (j:=0) rfl
theorem EW(x y z:V):Bt [x,y,z] 1=some y:=Be (j:=1) rfl
theorem OU(x y z:V):Bt [x,y,z] 2=some z:=Be (j:=2) rfl
theorem BC{x y:V}:Bt [x,y] 0=some x:=Be (j:=0) rfl
theorem Ay{x y:V}:Bt [x,y] 1=some y:=Be (j:=1) rfl
theorem NF(xs:List V)(h:j<=xs.length):De xs none (some (j:Int))=xs.take j:=by
 unfold De;have I:HT.Ax xs.length 0 none=0:=rfl;have F:HT.Ax xs.length xs.length (some (j:Int))=j:=by simp[HT.Ax];rw[nv (by lia)];lia
 rw[I,F];simp
theorem Js(xs:List V)(h:j<=xs.length):De xs (some (j:Int)) none=xs.drop j:=by
 unfold De;have I:HT.Ax xs.length 0 (some (j:Int))=j:=by simp[HT.Ax];rw[nv (by omega)];omega
 have F:HT.Ax xs.length xs.length none=xs.length:=rfl;rw[I,F,ou];simp
theorem Gd(h:n<=100000):n<=og:=wG (DF h)
def ET(H:Hp)(b:Addr)(F:List Int):Prop:=H b=some (.AG (F.map V.int))
theorem NM:Mo ET:=λs h=>s _ _ h
theorem ET.BW(h:ET H b t)(e:H a=some (.AE ys)):ET (BW H a) b t:=GS h λz=>by rw[z]at h;unfold ET at h;rw[e]at h;cases h
abbrev Ge(hs:List Nat):List V:=hs.map λx:Nat=>V.int (x:Int)
theorem aM(h:j<n):EN n ((j:Nat):Int)=some j:=by unfold EN;rw[nF (by lia),nF (by lia)];simp
theorem NX(h:k (σ.set i (some v)) H):BU i v σ H k:=h
theorem Wu{D:Dd}(h:f σ H):({ D with nx:=f}:Dd).nx σ H:=h
theorem bU{t u:L2.TS}{D:Dd}{σ:L2.St}{G:L2.St->Hp->Prop}(m:(∀σ H,G σ H->u D σ H)->t { D with nx:=u D} σ H)(r:∀σ H,G σ H->u D σ H):Kl t u D σ H:=m r
abbrev XY(K:nI)(H:Hp)(a:Addr)(F:List Int):Prop:=AR K H a (F.map V.int)/\F.length<=63
end My
namespace My
open PySem
variable {a:Addr}{H:Hp}{Z:Int}{T:List (List Rat)}{r:List Rat}{rs:List AK}{ys:List V}{D N c i j m α β:Nat}{X:Nat->Rat}{p:Rat}
def top(i:Nat):Stmt:=PySem.Challenge.pw_currentfloor_k23_whole_four_roads.main.body.getD i (.Pass ⟨0,0,0,0⟩)
abbrev sCommon:Stmt:=top 6
abbrev sFraction:Stmt:=top 7
abbrev sPlus:Stmt:=top 8
abbrev sMinus:Stmt:=top 9
abbrev sTimes:Stmt:=top 10
abbrev s_less:Stmt:=top 11
abbrev sCBot:Stmt:=top 12
abbrev sWholes:Stmt:=top 13
abbrev sLed:Stmt:=top 15
abbrev sSweptRow:Stmt:=top 16
abbrev sSwept:Stmt:=top 17
abbrev sMeasure:Stmt:=top 18
abbrev sBack:Stmt:=top 19
abbrev sAnswer:Stmt:=top 20
abbrev sEaseTable:Stmt:=top 22
abbrev sPoleless:Stmt:=top 23
abbrev sHeights:Stmt:=top 24
abbrev sFallOf:Stmt:=top 25
abbrev sRunBy:Stmt:=top 26
abbrev sRunnings:Stmt:=top 27
abbrev sEaseOf:Stmt:=top 28
abbrev s_lost:Stmt:=top 29
abbrev sOther:Stmt:=top 31
abbrev sAhead:Stmt:=top 32
abbrev sRingFrom:Stmt:=top 33
abbrev sRings:Stmt:=top 34
abbrev sLandOf:Stmt:=top 35
abbrev s_land_sides:Stmt:=top 37
abbrev s_rising:Stmt:=top 38
abbrev s_laid:Stmt:=top 39
abbrev s_led_to:Stmt:=top 41
abbrev s_rising_rows:Stmt:=top 43
abbrev s_is_tree:Stmt:=top 44
abbrev s_is_half:Stmt:=top 45
abbrev s_fitting_rows:Stmt:=top 46
abbrev s_trees:Stmt:=top 47
abbrev s_halves:Stmt:=top 48
abbrev s_tree_sum:Stmt:=top 49
abbrev s_half_sum:Stmt:=top 50
abbrev sCellAt:Stmt:=top 52
abbrev sLow:Stmt:=top 53
abbrev sLAdd:Stmt:=top 54
abbrev sLMul:Stmt:=top 56
abbrev sWhole:Stmt:=top 57
abbrev sLFrac:Stmt:=top 58
abbrev sLFracs:Stmt:=top 59
abbrev sLEase:Stmt:=top 60
abbrev sSpot:Stmt:=top 61
abbrev sNext:Stmt:=top 62
abbrev sPut:Stmt:=top 63
abbrev sGrow:Stmt:=top 64
abbrev s_law_order:Stmt:=top 65
abbrev s_law_named:Stmt:=top 66
abbrev sNet:Stmt:=top 67
abbrev sSomeNet:Stmt:=top 68
abbrev s_law_worth:Stmt:=top 69
abbrev s_law_sum:Stmt:=top 70
abbrev sLaw:Stmt:=top 71
open L2 Mth
section
variable {P:oT}{w:World}{K:nI}{mg:Str->Option Value}{base:Heap}
inductive Q7(F:List V)(H:Hp)(Q:VK)(_:XK):Prop
 |mk (a b:Int) (J:F=[.int a,.int b]) (I:Q (.int (pN a b:Int)) H)
theorem Ub(h:pN x 0=n):(if x<0 then -x else x)=(n:Int):=by
 rw[<-h,Int.gcd_zero_right];split<;>lia
theorem Of:Az ["one","other","rest"] ["one","other"] (Ak sCommon):=A9
theorem ZL(F:Aq K "common_part" "common_part" sCommon f fd)(O:mg "abs" = none):Am P w K mg base Aw 1 f fd ["one","other"] Q7:=by
 refine F.BD Of λii A _ s H vs Q E hr h=>?_
 obtain⟨a,b,rfl,q⟩:=h;exists _,AN (Jq oB (Bb HP (pv 1) AB)
   (AN (Aa 2 Of (AL fP (pv 0) (pv 1)))
   (AN (Aa 0 Of (pv 1))
   (AX (Aa 1 Of (pv 2))))))
  (AX (Ar (CV Td (by rfl) O PyProof.Rows.boot_abs (AA (pv 0) AD))))
 refine Jp (λσ H2=>∃x y r,σ=[some (.int x),some (.int y),r]/\H2=H/\pN x y=pN a b) (λσ _=>match σ with | [_,some (.int y),_]=>y.natAbs|_=>0) ⟨a,b,none,U,U,U⟩ ?_ ?_
 ·rintro σ H2 ⟨x,y,r,rfl,rfl,g⟩;exists _,U,U,_,rfl;by_cases I:y=0
  ·refine E3 (iv I) ?_;subst I;exists _,U,x,rfl;rw[Ub g];exact q
  ·refine KW (Fi I) ?_;exact⟨_,U,_,U,_,_,U,U,I,_,U,_,U,⟨y,x.fmod y,some (.int (x.fmod y)),U,U,(TR x y).trans g⟩,fy x y I⟩
 ·rintro σ H2 Q1 Q2 hq ⟨v,e,sc,b,J,z⟩;exact⟨v,e,sc,b,J,hq _ _ z⟩
theorem NH{X:Cx}:PS X st (λ_ _ _=>False):=by
 intro ga s σ H D I h;exact qj h
inductive U3(C:Addr)(F:List V)(H:Hp)(Q:VK)(E:XK):Prop
 |mk (t b:Int) (J:F=[.int t,.int b]) (I:Ba b) (O:(b=0->False)) (aa:(b≠0->∀p,H p=none->Q (.ref p) (AF H p (.AG [.int (BV t b).1,.int (BV t b).2])))):U3 C F H Q E
def JI(C:Addr):Sp:=λF H Q E=>U3 C F H Q E
theorem Rm:Az ["top","bottom","part"] ["top","bottom"] (Ak sFraction):=A9
theorem X7(F:Aq K "fraction" "fraction" sFraction f fd)(G:Ad P w K mg base 1 "common_part" ["one","other"] Q7):Am P w K mg base Aw 2 f fd ["top","bottom"] (JI C):=by
 refine F.BD Rm λii A _ s H vs Q E hr h=>?_
 obtain⟨t,b,rfl,hb,h0,h1⟩:=h;exists _,AN (Bq (Bb FV (pv 1) AB) (AX NH) By)
  (AN (Aa 2 Rm (AZ G (AA (pv 0) (AA (pv 1) AD))))
  (AN (Bq (Bb JT (pv 1) AB) (AX (Aa 2 Rm (FW FU (pv 2)))) By)
  (AX (Ar (Bl (AA (AL Hw (pv 0) (pv 2)) (AA (AL Hw (pv 1) (pv 2)) AD)))))))
 exists _,U,U,_,rfl;by_cases I:b=0
 ·refine C4 (iv I) ?_;exact(h0 I).elim
 refine DC (Fi I) ?_;exists _,U,_,U,t,b,rfl;exists _,U,_,_,U,U,_,rfl;have aa:∀O,O=Mth.BJ t b->RP (Kg (BP (Bh (rI JQ λi j=>V.int (i.fdiv j)) (Al 0) (Al 2)) (BP (Bh (rI JQ λi j=>V.int (i.fdiv j)) (Al 1) (Al 2)) CH)))
   { nx:=λ_ H'=>Q .BE H',rt:=Q} [some (.int t),some (.int b),some (.int O)] H:=by
  rintro O rfl;have hp:JQ t (Mth.BJ t b):=⟨Ni t b I,qh (UT t b I) hb⟩;exact⟨_,U,_,U,_,_,U,U,hp,_,U,_,U,_,_,U,U,hp,by exact CQ,h1 I⟩
 by_cases J:b<0
 ·refine C4 J ?_;exact⟨_,U,_,U,aa _ (by unfold Mth.BJ;rw[nF J])⟩
 ·refine DC J ?_;exact aa _ (by unfold Mth.BJ;rw[nv J])
open Wd
theorem Ew(s:AM H0 H)(n:H0 x=none)(o:HO):AM H0 (AF H x o):=λb u q=>by rw[As (B8 q n)];exact s b u q
theorem EE{i:Int}(h:i.natAbs<=2 ^ n)(F:n<8968):Ba i:=qh h (xQ (by decide) F)
theorem Np{F:List Int}(h:(F.map V.int)[i]?=some v):∃e,v=.int e/\F[i]?=some e:=by
 rw[nJ]at h;cases q:F[i]? with
 |none=>rw[q]at h;cases h
 |some e=>rw[q]at h;exact⟨e,(nV h).symm,U⟩
theorem Iz{F:List Int}(h:i<F.length):Bt (F.map V.int) (i:Int)=some (.int (F.getD i 0)):=by
 refine Be ?_;rw[nJ,nh h,nq,nh h];rfl
theorem C8{α:Type}{xs:List α}{x:α}(h:xs[i]?=some x):xs.take (i+1)=xs.take i++[x]:=by
 rw[tD,h];rfl
variable {f g h C:Addr}{fd gd hd:qf}
inductive MF(I:List V)(H:Hp)(Q:VK)(_:XK):Prop
 |mk (a:Addr) (F:List Rat) (d:Nat) (aa:I=[.ref a]) (J:A4 AU H a F) (ab:(∀q∈F,q.den<=2 ^ d)) (ac:d*F.length+d<8968) (O:Q (.int (cb F)) H)
theorem Oh:Az ["row","common","one"] ["row"] (Ak sCBot):=A9
theorem eV(F:Aq K "common_bottom" "common_bottom" sCBot f fd)(G:Ad P w K mg base 1 "common_part" ["one","other"] Q7):
  Am P w K mg base Aw 2 f fd ["row"] MF:=by
 refine F.BD Oh λii A _ s H vs Q E hr h=>?_
 obtain⟨a,I,d,rfl,⟨bs,ha,O⟩,hd,hsz,q⟩:=h;exists _,AN (Aa 1 Oh AB)
  (AN (CS oB rfl (D9 (pv 0)) (BL 2 Oh)
   (AX (Aa 1 Oh (AL Cz (AL Hw (pv 1) (AZ G (AA (pv 1) (AA (A6 Bk (pv 2) AB) AD)))) (A6 Bk (pv 2) AB)))))
  (AX (Ar (pv 1))))
 exists _,U,a,U,⟨_,AJ.of ha⟩;refine JC (xs:=bs.map V.ref) (λi σ H2=>∃u,H2=H/\σ=[some (.ref a),some (.int ((I.take i).foldl DP 1)),u]) ⟨none,U,U⟩ (λi σ H2 _ ⟨_,e,_⟩=>by rw[e];exact AJ.of ha) ?_ ?_
 ·rintro i x σ H2 hx ⟨u,rfl,rfl⟩;obtain⟨b,y,rfl,_,J,hB⟩:=O.ref hx;have hi:i<I.length:=(nj.mp J).1;have ym:y∈I:=ny J;obtain⟨c1,c2,c3,c4⟩:=Ws (I.take i) (c:=1) (D:=0) (d:=d) (by decide) (by decide) (λp hp=>hd p (rQ hp));generalize hc:(I.take i).foldl DP 1=c at *;have lt:(I.take i).length<=I.length:=by simp;lia
  have af:d*(I.take i).length<=d*I.length:=pZ d lt;have aa:y.den<=2 ^ d:=hd y ym;have ad:(pN c y.den:Int)≠0:=by have:=tN (y.den:Int) (show c≠0 by lia);lia
  have ac:Ba (pN c y.den:Int):=by
   refine EE (n:=d) ?_ (by lia);rw[oj];refine oa (uN ?_ (vH.mp (tu c (y.den:Int)))) ?_
   ·have:=y.den_nz;lia
   ·simpa using aa
  have ae:Ba (c.fdiv (pN c y.den:Int)):=by
   refine EE (n:=0+d*(I.take i).length) (oa ?_ c4) (by lia);rw[qo (tP c _)];exact wq c _
  have ab:Ba (y.den:Int):=EE (n:=d) (by simpa using aa) (by lia);exists _,U,_,U,_,U,b,_,_,_,U,U,AJ.of hB,Ay,c,y.den,U,_,_,U,U,⟨ad,ac⟩,_,U,b,_,_,_,U,U,AJ.of hB,Ay,_,_,U,U,⟨ae,ab⟩;exists some (.ref b),rfl;rw[C8 J,v9];show _=[some (V.ref a),some (.int (DP ((I.take i).foldl DP 1) y)),some (.ref b)];rw[hc];rfl
 ·rintro σ H2 ⟨u,rfl,rfl⟩;exists _,rfl;rw[nc,O.1,oW];exact q
inductive LK(I:List V)(H:Hp)(Q:VK)(_:XK):Prop
 |mk (a:Addr) (F:List Rat) (b:Int) (aa:I=[.ref a,.int b]) (J:A4 AU H a F) (ab:F.length<=1000) (ac:(∀q∈F,Ba q.num/\Ba (q.den:Int)/\Ba (b.fdiv q.den))) (O:∀p H',AM H H'->H p=none->CT H' p (F.map (wh b))->Q (.ref p) H')
theorem lG:Az ["row","bottom"] ["row","bottom"] (Ak sWholes):=A9
theorem k7:(["one","bottom"]:List Str).Nodup:=by decide +kernel
theorem ZR(F:Aq K "wholes" "wholes" sWholes f fd):Am P w K mg base Aw 1 f fd ["row","bottom"] LK:=by
 refine F.BD lG λii A _ s H vs Q E hr h=>?_
 obtain⟨a,qs,b,rfl,⟨bs,ha,J⟩,hn,hsz,q⟩:=h;exists _,AX (Ar (Dk (Nc:=["one","bottom"]) (cap:=[(1,1)]) (g:=BU 0) (te:=Bh (rI L6 λi j=>.int (i*j)) (Bh (Fg []) (Al 0) (tC (.int 0))) (Bh (rI JQ λi j=>.int (i.fdiv j)) (Al 1) (Bh (Fg []) (Al 0) (tC (.int 1))))) rfl (D9 (pv 0))
   Cn
   (λ_ _ _ _ _=>B9 (i:=0) k7 rfl (p8 rfl)) (λ_ _ _ _ _=>AL Cz (A6 Bk (pv 0) AB) (AL Hw (pv 1) (A6 Bk (pv 0) AB)))))
 refine⟨_,U,a,U,⟨_,AJ.of ha⟩,λad aa=>?_⟩;refine Cy (HG ha) (by rw[nc,J.1];exact hn) aa (λi ys σ _=>ys=((qs.take i).map (wh b)).map V.int/\∃u,σ=[u,some (.int b)]) ⟨U,none,U⟩ ?_ ?_
 ·rintro i ys σ H2 x H3 hi O ae ⟨I,u,rfl⟩ ⟨rfl,hx⟩ C hC;obtain⟨c,y,rfl,_,hy,hB⟩:=J.ref hx;obtain⟨s1,s2,s3⟩:=hsz y (ny hy);have ab:=Ao O hB;have yd:=y.den_nz;refine⟨_,U,c,_,_,_,U,U,AJ.of ab,BC,_,U,_,U,c,_,_,_,U,U,AJ.of ab,Ay,_,_,U,U,⟨by lia,s2⟩,_,_,U,U,⟨s1,s3⟩,?_⟩;refine hC _ _ _ (AM.refl _) ⟨?_,_,U⟩;rw[I,C8 hy,nY,nY];rfl
 ·rintro ys σ H2 O ac hl ⟨I,_⟩;refine q ad H2 O aa ?_;rw[nc,J.1,oW]at I;unfold CT;rw[ac,I]
inductive WY(F:List V)(H:Hp)(Q:VK)(_:XK):Prop
 |mk (a:Addr) (R:List (List Int)) (k m:Nat) (af:F=[.ref a,.int k]) (ae:ED CT H a R) (aa:k<R.length) (J:R.length<=1000) (ab:(∀r∈R,r.length=m)) (ac:k<m) (ad:m<=1000) (O:((∀i,k<=i->i<R.length->(R.getD i []).getD k 0=0)->Q .BE H)) (I:∀i p H',k<=i->i<R.length->(R.getD i []).getD k 0≠0->AM H H'->H p=none->ED CT H' p (Km R k i)->Q (.ref p) H')
theorem Rf:Az ["rows","k","place","exchanged"] ["rows","k"] (Ak sLed):=A9
theorem lP:(["number"]:List Str).Nodup:=by decide +kernel
theorem getD_some{α:Type}{xs:List α}{x d:α}(h:xs[i]?=some x):xs.getD i d=x:=by rw[nq,h];rfl
theorem Ld:qi "list" = some (.type "list"):=by decide +kernel
theorem La(h:j<n):EN n (j:Int)=some j:=by
 unfold EN;rw[nF (by lia),nF (by lia)];simp
theorem iG(F:Aq K "led" "led" sLed f fd)(ml:mg "len" = none)(mr:mg "range" = none)(aj:mg "list" = none):Am P w K mg base Aw 1 f fd ["rows","k"] WY:=by
 refine F.BD Rf λii A _ s H vs Q E hr h=>?_
 obtain⟨a,R,k,m,rfl,⟨bs,J,hA⟩,hk,hR,hm,ar,aq,qn,qs⟩:=h;exists _,AN (CS oB rfl (Ph (by rfl) mr (AA (pv 1) (AA (CV Lf (by rfl) ml Ee (AA (pv 0) AD)) AD))) (BL 2 Rf)
   (AX (Bq (Bb HP (A6 CJ (A6 CJ (pv 0) (pv 2)) (pv 1)) AB)
    (AN (Aa 3 Rf (FF UL (by rfl) aj Ld (AA (pv 0) AD)))
    (AN (Bq (Bb HP (pv 2) (pv 1))
     (AN (Ed (A6 CJ (pv 0) (pv 2)) (IG (pv 3) (pv 1) IA))
     (AX (Ed (Dk (Nc:=["number"]) (cap:=[]) (g:=BU 0) (te:=Xl (rU λi=>.int (-i)) (Al 0)) rfl (FX (A6 CJ (pv 0) (pv 1)))
      Cn (λ_ _ _ _ _=>B9 (i:=0) lP rfl (p8 rfl)) (λ_ _ _ _ _=>FW FU (pv 0))) (IG (pv 3) (pv 2) IA)))) By)
    (AX (Ar (pv 3))))) By)))
  (AX (Ar Li))
 have au:bs.length=R.length:=hA.1;refine⟨_,U,_,U,a,_,U,.inl (AR.of J),_,_,U,⟨by lia,by lia,by rw[nc];lia,by rw[nc];lia⟩,?_⟩;rw[nc,show((bs.length:Int)-(k:Int)).toNat=R.length-k by lia];refine Io (n:=R.length-k) (λi σ H2=>H2=H/\(∃u v,σ=[some (.ref a),some (.int k),u,v])/\∀j,k<=j->j<k+i->(R.getD j []).getD k 0=0) ⟨U,⟨none,none,U⟩,λj h1 h2=>by lia⟩ ?_ ?_
 ·rintro i σ H2 hi ⟨rfl,⟨u,v,rfl⟩,hz⟩;have ac:k+i<R.length:=by lia
  have ei:R[k+i]?=some R[k+i]:=nh ac;obtain⟨b,hb,hB⟩:=hA.BZ ei;have rl:R[k+i].length=m:=hm _ (oK ac);have gi:R.getD (k+i) []=R[k+i]:=getD_some ei;have ad:(k:Int)+(i:Int)=((k+i:Nat):Int):=by lia
  refine⟨_,U,_,U,a,_,_,_,U,U,AR.of J,by rw[ad];exact Be (CW hb),_,U,b,_,_,_,U,U,AR.of hB,Iz (by lia),U,_,U,?_⟩;by_cases O:R[k+i].getD k 0=0
  ·refine E3 (iv O) ⟨U,⟨_,_,U⟩,λj h1 h2=>?_⟩;rcases oP j (k+i)with h3|h3
   ·exact hz j h1 h3
   ·obtain rfl:j=k+i:=by lia
    rw[gi];exact O
  ·refine KW (Fi O) ?_;refine⟨_,U,a,_,U,.inl (AR.of J),λl I=>?_⟩;exists _,U,_,U,U,_,rfl;by_cases ai:i=0
   ·subst ai;refine E3 (iv (by lia)) ?_;refine⟨_,U,qs (k+0) l _ (by lia) ac (by rw[gi];exact O) (Ae I _) I ?_⟩;unfold Km;rw[nF (by lia)];exact⟨bs,AY,hA.keep ER (Ae I _)⟩
   ·refine KW (Fi (by lia)) ?_;have ek:R[k]?=some R[k]:=nh hk;obtain⟨c,hc,ag⟩:=hA.BZ ek;have gk:R.getD k []=R[k]:=getD_some ek;have al:a≠l:=B8 J I;have s1:AM H2 (AF H2 l (.AE (bs.map V.ref))):=Ae I _;refine⟨_,U,_,U,a,_,_,_,U,U,AR.of (s1 _ _ J),by rw[ad];exact Be (CW hb),_,U,_,U,l,_,_,_,U,U,AY,La (j:=k) (by rw[nc];lia),?_⟩;have s2:AM H2 (AF (AF H2 l (.AE (bs.map V.ref))) l (.AE ((bs.map V.ref).set k (.ref b)))):=Ew s1 I _;refine⟨_,U,_,U,a,_,_,_,U,U,AR.of (s2 _ _ J),Be (CW hc),c,U,⟨_,AR.of (s2 _ _ ag)⟩,λaa ae=>?_⟩;have ah:=s2 _ _ ag;generalize ak:AF (AF H2 l (.AE (bs.map V.ref))) l (.AE ((bs.map V.ref).set k (.ref b)))=H3 at *;have af:H3 l=some (.AE ((bs.map V.ref).set k (.ref b))):=by rw[<-ak];exact AY
    have rk:R[k].length=m:=hm _ (oK hk);refine Cy (Iw ah) (by rw[nc];lia) ae (λj ys σ _=>ys=((R[k].take j).map λx=>-x).map V.int/\∃u,σ=[u]) ⟨U,none,U⟩ ?_ ?_
    ·rintro j ys σ H4 x H5 hj sm ap ⟨ab,u4,rfl⟩ ⟨rfl,hx⟩ C hC;obtain⟨e,rfl,he⟩:=Np hx;refine⟨_,U,_,U,hC _ _ _ (AM.refl _) ⟨?_,_,U⟩⟩;rw[ab,C8 he,nY,nY];rfl
    ·rintro ys σ H4 sm ao av ⟨ab,_⟩;rw[nc,oW]at ab;refine⟨_,U,_,U,l,_,_,_,U,U,sm _ _ af,by rw[ad];exact La (j:=k+i) (by rw[o9,nc];lia),?_⟩;have am:aa≠l:=λz=>by rw[z,af]at ae;cases ae
     have s5:AM H2 (AF H4 l (.AE (((bs.map V.ref).set k (.ref b)).set (k+i) (.ref aa)))):=Ew (s2.trans sm) I _;refine⟨_,U,qs (k+i) l _ (by lia) ac (by rw[gi];exact O) s5 I ?_⟩;unfold Km;rw[nv (by lia),gi,gk];exists (bs.set k b).set (k+i) aa,?_
     ·rw[AY,tG,tG]
     ·refine((hA.keep ER s5).set k (ER s5 hB)).set (k+i) ?_;show AF H4 l _ aa=_;rw[As am,ao,ab]
 ·rintro σ H2 ⟨rfl,⟨u,v,rfl⟩,hz⟩;exact qn λi h1 h2=>hz i h1 (by lia)
inductive RG(I:List V)(H:Hp)(Q:VK)(_:XK):Prop
 |mk (a b:Addr) (row F:List Int) (k m:Nat) (p:Int) (aj:I=[.ref a,.ref b,.int k,.int p]) (ai:CT H a row) (ac:CT H b F) (aa:row.length=m) (ad:F.length=m) (ae:k<m) (af:m<=1000) (ab:p≠0) (J:Ba p) (ag:(∀x∈row,Ba x)) (O:(∀x∈F,Ba x)) (ah:∀q H',AM H H'->H q=none->CT H' q (Cw row F k p)->Q (.ref q) H')
theorem kR:Az ["row","lead","k","before"] ["row","lead","k","before"] (Ak sSweptRow):=A9
theorem Wx:(["number","other","row","lead","k","before"]:List Str).Nodup:=by decide +kernel
def kj(K:nI):TE:=Bh (rI JQ λi j=>.int (i.fdiv j)) (Bh (Gq λi j=>.int (i-j)) (Bh (rI L6 λi j=>.int (i*j)) (Bh (Gg []) (Al 3) (Al 4)) (Al 0)) (Bh (rI L6 λi j=>.int (i*j)) (Bh (Gg []) (Al 2) (Al 4)) (Al 1))) (Al 5)
theorem YE(F:Aq K "swept_row" "swept_row" sSweptRow f fd)(mz:mg "zip" = none):Am P w K mg base Aw 1 f fd ["row","lead","k","before"] RG:=by
 refine F.BD kR λii A _ s H vs Q E hr h=>?_
 obtain⟨a,b,row,I,k,m,p,rfl,ha,O,ae,af,hk,hm,hp,bp,br,bl,q⟩:=h;exists _,AX (Ar (Dk (Nc:=["number","other","row","lead","k","before"]) (cap:=[(2,0),(3,1),(4,2),(5,3)]) (g:=IS [] 2 (Fw (BU 0) (Fw (BU 1) Kp))) (te:=kj K) rfl (J7 (t1:=false) (t2:=false) (by rfl) mz (AA (pv 0) (AA (pv 1) AD)))
   Cn
   (λ_ _ _ _ _=>Dp rfl (Bf (B9 (i:=0) Wx rfl (p8 rfl)) (Bf (B9 (i:=1) Wx rfl (p8 rfl)) Dj)))
   (λ_ _ _ _ _=>AL Hw (AL DX (AL Cz (A6 CJ (pv 3) (pv 4)) (pv 0)) (AL Cz (A6 CJ (pv 2) (pv 4)) (pv 1))) (pv 5))))
 refine⟨_,U,_,U,a,b,U,⟨_,BS.l ha⟩,⟨_,BS.l O⟩,λai aa=>?_⟩;refine Cy (Ng (xs:=row.map V.int) (ys:=I.map V.int) (λH2 s=>BS.l (s _ _ ha)) (λH2 s=>BS.l (s _ _ O)) (by rw[nc,nc];lia)) (by rw[nc];lia) aa
  (λi ys σ _=>ys=((Cw row I k p).take i).map V.int/\∃u v,σ=[u,v,some (.ref a),some (.ref b),some (.int k),some (.int p)]) ⟨U,none,none,U⟩ ?_ ?_
 ·rintro i ys σ H2 x H3 hi sm aj ⟨J,u,v,rfl⟩ ⟨t,n1,n2,rfl,ht,rfl,ad,ag⟩ C hC;obtain⟨x1,rfl,ac⟩:=Np ad;obtain⟨x2,rfl,ab⟩:=Np ag;have s3:AM H2 (AF H2 t (.AG [.int x1,.int x2])):=Ae ht _;have gm:∀(l:List Int) (j:Nat),j<l.length->(∀x∈l,Ba x)->Ba (l.getD j 0):=λl j hj O=>by
   rw[nq,nh hj];exact O _ (oK hj)
  exists t,_,U,AJ.of AY,U,_,_,U,_,_,U,rfl;exists _,U,_,U,b,_,_,_,U,U,AR.of (s3 _ _ (sm _ _ O)),Iz (by lia),_,U,_,_,U,U,⟨gm _ _ (by lia) bl,br _ (ny ac)⟩,
   _,U,_,U,a,_,_,_,U,U,AR.of (s3 _ _ (sm _ _ ha)),Iz (by lia),_,U,_,_,U,U,⟨gm _ _ (by lia) br,bl _ (ny ab)⟩,_,_,U,U,_,U,_,_,U,U,⟨hp,bp⟩
  refine hC _ _ _ s3 ⟨?_,_,_,U⟩;have e:(Cw row I k p)[i]?=some ((I.getD k 0*x1-row.getD k 0*x2).fdiv p):=by
   unfold Cw;rw[tF,ac,ab]
  rw[J,C8 e,nY];rfl
 ·rintro ys σ H2 sm ah hl ⟨J,_⟩;refine q ai H2 sm aa ?_;rw[nc]at J
  have:(Cw row I k p).length=m:=Nj ae af
  rw[ou (by lia)]at J;unfold CT;rw[ah,J]
inductive Qf(F:List V)(H:Hp)(Q:VK)(_:XK):Prop
 |mk (a:Addr) (R:List (List Int)) (n m B0:Nat) (ah:F=[.ref a]) (ag:ED CT H a R) (ab:R.length=n) (O:n<=m) (ac:m<=100) (ad:(∀r∈R,r.length=m)) (ae:1<=B0) (aa:(∀r∈R,∀x∈r,x.natAbs<=B0)) (I:(m*B0) ^ n<2 ^ 8968) (af:(∀H',AM H H'->ld n m (Ac (R.map vr) Ah)=0->Q .BE H')) (J:∀p H' T,AM H H'->ED CT H' p T->(∃Z c v,Bi B0 n m n (R.map vr) T Z c v)->Q (.ref p) H')
theorem IX:Az ["rows","size","before","k","lead"] ["rows"] (Ak sSwept):=A9
theorem l7:(["row","lead","k","before"]:List Str).Nodup:=by decide +kernel
theorem Ur{J:List (List Int)}{Z:List (List Int×AW)}{p:Int}(B:Bi B0 n m k A0 J Z p v)(O:(m*B0) ^ n<2 ^ 8968)(F:z∈Z):∀x∈z.1,Ba x:=by
 intro x I;obtain⟨j,rfl⟩:=Wd.mem_getD I;have h:=FQ (B.Xf F j);have hl:=B.Fe;have hp:0<Z.length:=qL F;have h1:1<=m*B0:=zp (by have:=B.nm;lia) B.b1;exact qh (oa h (Vv h1 (by lia))) O
theorem WS{F:List (List Int)}{Z:List (List Int×AW)}{p:Int}(B:Bi B0 n m k A0 F Z p v)(hb:(m*B0) ^ n<2 ^ 8968):Ba p:=by
 rcases yD k with rfl|hk
 ·have h1:=B.pl
  have:(p:Rat)=ld 0 m v:=h1.symm
  have I:=B.Ii (Tk 0 m);have e:ld 0 m v=v (Tk 0 m):=by simp[ld,CF]
  rw[<-e,<-this]at I
  have:=FQ I
  have z:(1:Nat)<2 ^ 8968:=by
   have:=Nat.one_lt_two_pow (n:=8968) (by decide)
   exact this
  rw[yF]at this;exact qh this z
 ·have J:=B.HZ hk;have ht:=B.F7;have O:F.getD (k-1) []∈F:=by
   rw[nq,nh (by omega)];exact oK _
  have:=FQ (B.Jc _ O (k-1))
  rw[J]at this;exact qh this hb
theorem aS (F:Aq K "swept" "swept" sSwept f fd)(G:Ad P w K mg base 1 "led" ["rows","k"] WY)
  (G2:Ad P w K mg base 1 "swept_row" ["row","lead","k","before"] RG)
  (ml:mg "len" = none)(mr:mg "range" = none):Am P w K mg base Aw 2 f fd ["rows"] Qf:=by
 refine F.BD IX λii A _ s H vs Q E hr h=>?_
 obtain⟨a,R,n,m,B0,rfl,hA,hn,a2,hm,ar,a4,a3,al,qn,qs⟩:=h;exists _,AN (Aa 1 IX (CV Lf (by rfl) ml Ee (AA (pv 0) AD)))
  (AN (Aa 2 IX AB)
  (AN (CS oB rfl (Hu (by rfl) mr (AA (pv 1) AD)) (BL 3 IX)
   (AN (Aa 0 IX (AZ G (AA (pv 0) (AA (pv 3) AD))))
   (AN (Bq (Bb Qm (pv 0) Li) (AX (Ar Li)) By)
   (AN (Aa 4 IX (A6 CJ (pv 0) (pv 3)))
   (AN (Aa 0 IX (AL OE (Eu Md (pv 0) FO (Ea (AL BY (pv 3) AB)))
    (Dk (Nc:=["row","lead","k","before"]) (cap:=[(1,4),(2,3),(3,2)]) (g:=BU 0) (te:=EA RG [] E0 (BP (Al 0) (BP (Al 1) (BP (Al 2) (BP (Al 3) CH))))) rfl (FX (Eu Md (pv 0) (Ea (AL BY (pv 3) AB)) FO))
     Cn
     (λ_ _ _ _ _=>B9 (i:=0) l7 rfl (p8 rfl)) (λ_ _ _ _ _=>AZ G2 (AA (pv 0) (AA (pv 1) (AA (pv 2) (AA (pv 3) AD))))))))
   (AX (Aa 2 IX (A6 CJ (pv 4) (pv 3)))))))))
  (AX (Ar (pv 0)))))
 obtain⟨bs,ha,ak⟩:=id hA;exists _,U,a,_,U,.inl (AR.of ha);refine⟨_,U,(((bs.map V.ref).length:Nat):Int),U,by rw[nc,ak.1];lia,by rw[nc,ak.1];lia,?_⟩;rw[show((((bs.map V.ref).length:Nat):Int)).toNat=n by rw[nc,ak.1];lia];refine Io (n:=n) (λk σ H2=>AM H H2/\∃(c:Addr) (I:List (List Int)) (Z:List (List Int×AW)) (p:Int) (v:A5) (u1 u2:Option V),σ=[some (.ref c),some (.int (((bs.map V.ref).length:Nat):Int)),some (.int p),u1,u2]/\ED CT H2 c (I++Z.map (·.1))/\Bi B0 n m k (R.map vr) I Z p v)
  ⟨AM.refl _,a,[],R.map λr=>(r,vr r),1,Ah,none,none,U,by simp[uG];exact hA,Bi.mY a4 (λr hr j=>HH (To (a3 r hr) j)) hn a2 ar⟩ ?_ ?_
 ·rintro k σ H2 hk ⟨sm,c,I,Z,p,v,u1,u2,rfl,hL,B⟩;have lT:=B.F7;have lZ:=B.Fe;have a9:(I++Z.map (·.1)).length=n:=by simp;lia
  have zk:(0:Int)+(k:Nat)=((k:Nat):Int):=by lia
  exists _,U,_,U,c,I++Z.map (·.1),k,m,by rw[zk];rfl,hL,by lia,by lia,?_,by lia,by lia,?_
  ·intro r hr;rcases nM.mp hr with h1|h1
   ·exact B.IV r h1
   ·obtain⟨z,hz,rfl⟩:=nS.mp h1;exact B.Dv z hz
  ·
   intro h0;exists _,U,U,_,rfl;refine C4 rfl ?_;refine qn H2 sm (B.none hk λz hz=>?_);obtain⟨j,hj,e⟩:=om hz;have hh:=h0 (k+j) (by lia) (by lia)
   have:(I++Z.map (·.1)).getD (k+j) []=z.1:=by
    rw[nq,nW (by lia),show k+j-I.length=j by lia,nJ,nh hj,e];rfl
   rw[this]at hh;exact hh
  ·intro i c2 H3 h1 h2 h3 s3 a6 am;obtain⟨z,J,O,eR,hz⟩:=B.mP h1 (by lia) h3;rw[eR]at am;exists _,U,U,_,rfl;refine DC (λz=>by cases z) ?_;obtain⟨cs,ai,ad⟩:=id am;have a0:=O.Fe;simp at a0;have ax:cs.length=n:=by rw[ad.1];simp;lia
   have ek:(I++z.1 :: J.map (·.1))[k]?=some z.1:=by rw[nW (by lia),lT];simp
   obtain⟨b,hb,hB⟩:=ad.BZ ek;refine⟨_,U,_,U,c2,_,_,_,U,U,AR.of ai,by rw[zk];exact Be (CW hb),?_⟩;have k1:((0:Int)+(k:Nat))+1=((k+1:Nat):Int):=by lia
   refine⟨_,U,_,U,_,_,U,U,_,U,c2,_,U,AR.of ai,λp1 au=>?_⟩
   (try dsimp only)
   rw[k1,NF _ (by rw[nc];lia)];have s4:AM H3 (AF H3 p1 (.AE ((cs.map V.ref).take (k+1)))):=Ae au _;have ao:(AF H3 p1 (.AE ((cs.map V.ref).take (k+1)))) p1=some (.AE ((cs.map V.ref).take (k+1))):=AY;generalize AF H3 p1 (.AE ((cs.map V.ref).take (k+1)))=H4 at s4 ao;refine⟨_,U,_,U,_,_,U,U,_,U,c2,_,U,AR.of (s4 _ _ ai),λp2 az=>?_⟩
   (try dsimp only)
   rw[k1,Js _ (by rw[nc];lia)];have s5:AM H4 (AF H4 p2 (.AE ((cs.map V.ref).drop (k+1)))):=Ae az _;have aj:(AF H4 p2 (.AE ((cs.map V.ref).drop (k+1)))) p2=some (.AE ((cs.drop (k+1)).map V.ref)):=by rw[AY,tZ]
   generalize AF H4 p2 (.AE ((cs.map V.ref).drop (k+1)))=H5 at s5 aj;refine⟨p2,U,⟨_,AR.of aj⟩,λac av=>?_⟩;have ag:AM H3 H5:=s4.trans s5;have ay:At CT H5 (cs.drop (k+1)) (J.map (·.1)):=by
    have:=(ad.drop (k+1)).keep ER ag
    have e:(I++z.1 :: J.map (·.1)).drop (k+1)=J.map (·.1):=by
     rw[List.drop_append,List.drop_of_length_le (by lia),show k+1-I.length=1 by lia];rfl
    rw[e]at this;exact this
   have ah:z∈z :: J:=by simp
   refine Cy (Iw aj) (by rw[nc,o6];lia) av
    (λi ys σ hp=>∃ds:List Addr,ys=ds.map V.ref/\At CT hp ds ((J.map λy=>Cw y.1 z.1 k p).take i)/\∃u,σ=[u,some (.ref b),some (.int ((0:Int)+(k:Nat))),some (.int p)]) ⟨[],U,At.nil,none,U⟩ ?_ ?_
   ·rintro i ys σ H6 x H7 hi aa af ⟨ds,rfl,hD,u,rfl⟩ ⟨rfl,hx⟩ C hC;obtain⟨e,r,rfl,he,ab,hE⟩:=ay.ref hx;rw[nJ]at ab;cases q:J[i]? with
    |none=>rw[q]at ab;cases ab
    |some y =>
     rw[q]at ab;obtain rfl:y.1=r:=nV ab;have ym:y∈z :: J:=oV _ (ny q);refine⟨_,U,_,U,_,U,_,U,e,b,y.1,z.1,k,m,p,by rw[zk];rfl,aa _ _ hE,aa _ _ (ag _ _ hB),O.Dv y ym,O.Dv z ah,by lia,by lia,B.pz,WS B al,Ur O al ym,Ur O al ah,?_⟩;intro r2 H8 s8 ap aw;refine hC _ _ _ s8 ⟨ds++[r2],by simp,?_,_,U⟩;have ne:r2≠ac:=λz=>by rw[z,af]at ap;cases ap
     have e3:(J.map λy=>Cw y.1 z.1 k p)[i]?=some (Cw y.1 z.1 k p):=by rw[nJ,q];rfl
     rw[C8 e3];exact(hD.keep ER (EO ac s8)).snoc (GS aw ne)
   ·rintro ys σ H6 aa af a5 ⟨ds,rfl,hD,u,rfl⟩;rw[nc,o6,ou (by simp;lia)]at hD;have a1:=aa _ _ (s5 _ _ ao);have a8:(cs.map V.ref).length=n:=by rw[nc];exact ax
    have a7:ds.length=J.length:=by rw[hD.1];simp
    refine⟨p1,ac,_,_,U,U,a1,af,by rw[pB,nc,nc];exact Gd (by lia),λc3 aq=>?_⟩;have s7:AM H6 (AF H6 c3 (.AE ((cs.map V.ref).take (k+1)++ds.map V.ref))):=Ae aq _;have ae:=(ag.trans aa).trans s7;have b1:z.1.length=m:=O.Dv z ah;refine⟨_,U,_,U,b,_,_,_,U,U,AR.of (ae _ _ hB),by rw[zk];exact Iz (by lia),?_⟩;have B3:=O.step hz;refine⟨sm.trans (s3.trans ae),c3,I++[z.1],_,z.1.getD k 0,_,_,_,U,⟨cs.take (k+1)++ds,?_,?_⟩,B3⟩
    ·rw[AY,nY,vT]
    ·have t1:=(ad.take (k+1)).keep ER ae;have e:(I++z.1 :: J.map (·.1)).take (k+1)=I++[z.1]:=by
      rw[List.take_append,ou (by lia),show k+1-I.length=1 by lia];rfl
     rw[e]at t1;have t2:=(hD.keep ER (D8 H6 ac)).keep ER s7;have e2:wF (·.1) (J.map λy=>(Cw y.1 z.1 k p,y.2))=J.map λy=>Cw y.1 z.1 k p:=by simp[uG]
     rw[e2];exact t1.MV t2
 ·rintro σ H2 ⟨sm,c,I,Z,p,v,u1,u2,rfl,hL,B⟩;obtain⟨rfl,_⟩:=B.Rq;rw[pE,pO]at hL;exact⟨_,U,qs c H2 I sm hL ⟨[],p,v,B⟩⟩
variable {f1 f2 f3 f4:Addr}{d1 d2 d3 d4:qf}
structure TK(n m d E D:Nat)(T:List (List Rat)):Prop where
 len:T.length=n
 EY:∀r∈T,r.length=m
 nm:n<=m
 Rn:m<=15
 den:∀r∈T,∀q∈r,q.den<=2 ^ d
 num:∀r∈T,∀q∈r,Ba q.num
 mK:∀r∈T,(cb r).natAbs<=2 ^ D
 mM:∀r∈T,∀q∈r,(wh (cb r) q).natAbs<=2 ^ E
 bd:(4+E)*n<7990/\D<7990/\d*m+d<7990
theorem TK.D2(h:TK n m d E D T)(F:r∈T):0<cb r/\(∀q∈r,(q.den:Int) ∣ cb r)/\(cb r).natAbs<=2 ^ D :=
 ⟨(OF r).1,(OF r).2,h.mK r F⟩
def C6(T:List (List Rat)):List (List Int):=T.map λr=>r.map (wh (cb r))
theorem TK.MX(h:TK n m d E D T):∀r∈C6 T,r.length=m/\∀x∈r,x.natAbs<=2 ^ E:=by
 intro r J;obtain⟨s,hs,rfl⟩:=nS.mp J;refine⟨by rw[nc];exact h.EY s hs,λx F=>?_⟩;obtain⟨q,I,rfl⟩:=nS.mp F;exact h.mM s hs q I
theorem TK.GC(h:TK n m d E D T):(m*2 ^ E) ^ n<2 ^ 8968:=by
 have h1:m*2 ^ E<=2 ^ (4+E):=by
  rw[t5 2 4];exact tS _ (by have:=h.Rn;omega)
 have h2:=yj h1 n;rw[<-Nat.pow_mul]at h2;exact qh h2 (xQ (by decide) (by have:=h.bd;omega))
theorem TK.wb(h:TK n m d E D T)(I:r∈T):∀q∈r,Ba q.num/\Ba (q.den:Int)/\Ba ((cb r).fdiv q.den):=by
 intro q F;obtain⟨c1,O,J⟩:=h.D2 I
 have:=h.bd
 refine⟨h.num r I q F,EE (n:=d) (by simpa using h.den r I q F) (by omega),EE (n:=D) (oa ?_ J) (by omega)⟩;rw[qo (O q F)];exact wq _ _
theorem XS:(["row"]:List Str).Nodup:=by decide +kernel
theorem W7:(["row","bottom"]:List Str).Nodup:=by decide +kernel
theorem Qc(h:xs[xs.length-1]?=some v):Bt xs (-1)=some v:=by
 have F:0<xs.length:=by have:=(nj.mp h).1;omega
 have e:EN xs.length (-1)=some (xs.length-1):=by
  unfold EN;rw[nv (by decide),nF (by omega)];congr 1;omega
 unfold Bt;rw[e];exact h
theorem L3:Mo (A4 AU):=λs h=>ES (R:=AU) (λs h=>Ao s h) s h
inductive Pe(F:List V)(H:Hp)(Q:VK)(_:XK):Prop
 |mk (a:Addr) (T:List (List Rat)) (n d E D:Nat) (O:F=[.ref a]) (I:A4 (A4 AU) H a T) (aa:TK n n d E D T) (ab:D*n<7990) (J:∀p H',AM H H'->AU H' p (dt n n T)->Q (.ref p) H')
theorem Kj:Az ["table","bottoms","rows","product","bottom"] ["table"] (Ak sMeasure):=A9
theorem YX (F:Aq K "measure" "measure" sMeasure f fd)(G1:Ad P w K mg base 2 "common_bottom" ["row"] MF)
  (G2:Ad P w K mg base 1 "wholes" ["row","bottom"] LK)
  (G3:Ad P w K mg base 2 "swept" ["rows"] Qf)
  (G4:Ad P w K mg base 2 "fraction" ["top","bottom"] (JI C))
  (ml:mg "len" = none)(mz:mg "zip" = none):Am P w K mg base Aw 3 f fd ["table"] Pe:=by
 refine F.BD Kj λii A _ s H vs Q E J h=>?_
 obtain⟨a,T,n,d,E',D,rfl,⟨bs,ha,hA⟩,I,au,q⟩:=h;exists _,AN (Bq (Bb FV (C7 ml (pv 0)) AB) (AX (Ar (Bl (AA AB (AA AB AD))))) By)
  (AN (Jk (i:=1) Kj.nd rfl (p8 rfl) (Nc:=["row"]) (cap:=[]) (g:=BU 0) (te:=EA MF [] E0 (BP (Al 0) CH)) rfl (D9 (pv 0))
   Cn (λ_ _ _ _ _=>B9 (i:=0) XS rfl (p8 rfl)) (λ_ _ _ _ _=>AZ G1 (AA (pv 0) AD)))
  (AN (Aa 2 Kj (AZ G3 (AA (Dk (Nc:=["row","bottom"]) (cap:=[]) (g:=IS [] 2 (Fw (BU 0) (Fw (BU 1) Kp))) (te:=EA LK [] E0 (BP (Al 0) (BP (Al 1) CH))) rfl (J7 (t1:=true) (t2:=false) (by rfl) mz (AA (pv 0) (AA (pv 1) AD)))
   Cn (λ_ _ _ _ _=>Dp (n:=2) rfl (Bf (B9 (i:=0) W7 rfl (p8 rfl)) (Bf (B9 (i:=1) W7 rfl (p8 rfl)) Dj)))
   (λ_ _ _ _ _=>AZ G2 (AA (pv 0) (AA (pv 1) AD)))) AD)))
  (AN (Bq (Bb Qm (pv 2) Li) (AX (Ar (Bl (AA AB (AA AB AD))))) By)
  (AN (Aa 3 Kj AB)
  (AN (CS oB rfl (FX (pv 1)) (BL 4 Kj) (AX (Aa 3 Kj (AL Cz (pv 3) (pv 4)))))
  (AX (Ar (AZ G4 (AA (pL (pL (pv 2) (FW FU AB)) (FW FU AB)) (AA (pv 3) AD))))))))))
 have lb:bs.length=n:=by rw[hA.1];exact I.len
 have ax:=I.Rn;exists _,U,a,_,U,.inr (AJ.of ha),U,_,rfl;by_cases ar:n=0
 ·subst ar;refine C4 (iv (by rw[nc,lb];rfl)) ?_;refine⟨by exact CQ,λp hp=>q p _ (Ae hp _) ?_⟩
  have:T=[]:=rS.mp I.len
  subst this;have e1:dt 0 0 []=1:=by unfold dt;exact Ln 0
  rw[e1];exact AY
 refine DC (Fi (by rw[nc,lb];lia)) ?_;refine⟨_,U,a,U,⟨_,AJ.of ha⟩,λaf ak=>?_⟩;refine Cy (HG ha) (by rw[nc];lia) ak (λi ys σ _=>ys=((T.take i).map cb).map V.int/\∃u,σ=[u]) ⟨U,none,U⟩ ?_ ?_
 ·rintro i ys σ H2 x H3 hi sm aa ⟨ad,u,rfl⟩ ⟨rfl,hx⟩ C hC;obtain⟨c,r,rfl,_,hy,hB⟩:=hA.ref hx;have rm:r∈T:=ny hy
  have:=I.bd
  refine⟨_,U,c,r,d,U,L3 sm hB,λq hq=>I.den r rm q hq,by rw[I.EY r rm];lia,hC _ _ _ (AM.refl _) ⟨?_,_,U⟩⟩;rw[ad,C8 hy,nY,nY];rfl
 rintro ys σ1 H2 s2 aa av ⟨ad,u,rfl⟩;rw[nc,hA.1,oW]at ad;subst ad;have ag:=s2 _ _ ha;refine⟨_,U,_,U,a,af,U,⟨_,BS.t ag⟩,⟨_,BS.l aa⟩,λac ap=>?_⟩;refine Cy (Ng (xs:=bs.map V.ref) (ys:=(T.map cb).map V.int) (λH3 s=>BS.t (s _ _ ag)) (λH3 s=>BS.l (s _ _ aa)) (by rw[nc,nc,nc,hA.1])) (by rw[nc];lia) ap
  (λi ys σ hp=>∃ds:List Addr,ys=ds.map V.ref/\At CT hp ds ((C6 T).take i)/\∃u v,σ=[u,v]) ⟨[],U,At.nil,none,none,U⟩ ?_ ?_
 ·rintro i ys σ H3 x H4 hi sm ae ⟨ds,rfl,hD,u,v,rfl⟩ ⟨t,n1,n2,rfl,ht,rfl,aq,ah⟩ C hC;obtain⟨c,r,rfl,_,hy,hB⟩:=hA.ref aq;have rm:r∈T:=ny hy;have e2:n2=.int (cb r):=by
   rw[nJ,nJ,hy]at ah;exact(nV ah).symm
  subst e2;have O:AM H3 (AF H3 t (.AG [.ref c,.int (cb r)])):=Ae ht _;exists t,_,U,AJ.of AY,U,_,_,U,_,_,U,rfl;refine⟨_,U,_,U,c,r,cb r,U,L3 (s2.trans (sm.trans O)) hB,by rw[I.EY r rm];lia,I.wb rm,λp H5 s5 np hp=>?_⟩;refine hC _ _ _ (O.trans s5) ⟨ds++[p],by simp,?_,_,_,U⟩;have ne:p≠ac:=λz=>by rw[z,O _ _ ae]at np;cases np
  have e3:(C6 T)[i]?=some (r.map (wh (cb r))):=by unfold C6;rw[nJ,hy];rfl
  rw[C8 e3];exact(hD.keep ER (EO ac (O.trans s5))).snoc (GS hp ne)
 rintro ys σ2 H3 O ae aw ⟨ds,rfl,hD,u',v',rfl⟩;have lw:(C6 T).length=n:=by unfold C6;rw[nc];exact I.len
 rw[nc,lb,ou (by lia)]at hD;have am:=O _ _ aa;exists ac,C6 T,n,n,2 ^ E',U,⟨ds,ae,hD.keep ER (D8 H3 ac)⟩,lw,nG _,by lia,λr J=>(I.MX r J).1,yE,λr J=>(I.MX r J).2,I.GC,?_
 all_goals
  have sc:=Ml (n:=n) (m:=n) T cb (λr J=>(I.D2 J).2.1);obtain⟨pp,pl⟩:=NG (T.map cb) (d:=D) (λb hb=>by
   obtain⟨r,J,rfl⟩:=nS.mp hb;exact⟨(I.D2 J).1,(I.D2 J).2.2⟩)
  have pq:((C1 (T.map cb):Int):Rat)≠0:=by
   have:C1 (T.map cb)≠0:=by lia
   exact_mod_cast this
 ·intro H4 s4 h0;refine⟨_,U,U,_,U,C4 rfl ?_⟩;refine⟨by exact CQ,λp hp=>q p _ ((s2.trans (O.trans s4)).trans (Ae hp _)) ?_⟩
  have:dt n n T=0:=by
   have h1:((C1 (T.map cb):Int):Rat)*dt n n T=0:=by rw[<-sc];exact h0
   grind
  rw[this];exact AY
 ·intro p H4 T2 s4 hL ⟨Z,c,v,B⟩;refine⟨_,U,U,_,U,DC (λz=>by cases z) ?_⟩;obtain⟨_,eD⟩:=B.Rq;have h4:=s4 _ _ am;exists _,U,af,U,⟨_,AR.of h4⟩;refine LS (xs:=(T.map cb).map V.int) (λi σ H5=>H5=H4/\∃u,σ=[some (.ref a),some (.ref af),some (.ref p),some (.int (((T.map cb).take i).foldl (λp b=>p*b) 1)),u]) ⟨U,none,U⟩ (λi σ H5 _ ⟨e,_⟩=>by rw[e];exact AR.of h4) ?_ ?_
  ·rintro i x σ H5 hx ⟨rfl,u,rfl⟩;obtain⟨b,rfl,hb⟩:=Np hx;have ai:b∈T.map cb:=ny hb;obtain⟨r,J,ao⟩:=nS.mp ai;have tb:=NG ((T.map cb).take i) (d:=D) (λb hb=>by
    obtain⟨r,J,rfl⟩:=nS.mp (rQ hb);exact⟨(I.D2 J).1,(I.D2 J).2.2⟩)
   have ay:D*((T.map cb).take i).length<=D*n:=pZ _ (by simp;have:=I.len;lia)
   have:=I.bd
   exists _,U,_,U,_,_,U,U,⟨?_,?_⟩,U,some (.int b)
   ·rw[R1,Int.one_mul];exact EE tb.2 (by lia)
   ·rw[<-ao];exact EE (n:=D) (I.D2 J).2.2 (by lia)
   ·rw[C8 hb,v9];rfl
  ·rintro σ H5 ⟨rfl,u,rfl⟩;rw[nc,oW,R1,Int.one_mul];obtain⟨cs,hp,hC⟩:=hL;have lT:=B.F7;have el:T2[n-1]?=some T2[n-1]:=nh (by lia);obtain⟨b,hb,hB⟩:=hC.BZ el;have aj:T2[n-1].length=n:=B.IV _ (oK _);have al:cs.length=n:=by rw[hC.1];exact lT
   have ab:=B.HZ (by lia);rw[getD_some el]at ab;have e1:(T2[n-1].map V.int)[(T2[n-1].map V.int).length-1]?=some (.int c):=by
    rw[nc,aj,nJ,nh (by lia)];rw[nq,nh (by lia)]at ab;simp at ab ⊢;exact ab
   have ln:(T.map cb).length=n:=by rw[nc];exact I.len
   refine⟨_,U,_,U,p,_,_,_,U,U,AR.of hp,Qc (by rw[nc,al];exact CW hb),_,U,b,_,_,_,U,U,AR.of hB,Qc e1,_,U,c,_,U,EE (ln ▸ pl) (by lia),λz=>absurd z (by lia),λ_ t ht=>q t _ ((s2.trans (O.trans s4)).trans (Ae ht _)) ?_⟩;have ef:BV c (C1 (T.map cb))=fr (dt n n T):=by
    rw[FI _ _ (by lia)]
    have:((c:Int):Rat) / ((C1 (T.map cb):Int):Rat)=dt n n T:=by
     have h1:((C1 (T.map cb):Int):Rat)*dt n n T=c:=by rw[<-sc];exact eD
     grind
    rw[this];rfl
   unfold AU;rw[AY,ef];rfl
variable {C2:Addr}
structure XZ(B0 n:Nat)(T:List (List Int))(c:Int)(x:Nat->Rat)(u:Nat->Int):Prop where
 n0:0<n
 len:T.length=n
 EY:∀r∈T,r.length=n+1
 c0:c≠0
 HZ:(T.getD (n-1) []).getD (n-1) 0=c
 Fm:∀i,i<n->(T.getD i []).getD i 0≠0/\∀j,j<i->(T.getD i []).getD j 0=0
 mQ:∀i,i<n->fx n x (vr (T.getD i []))=0
 Wr:∀j,j<n->((u j:Int):Rat)=c*x j
 GC:(∀r∈T,∀y∈r,Ba y)/\(∀j,j<n->Ba (u j))/\Ba c
inductive VS(F:List V)(H:Hp)(Q:VK)(_:XK):Prop
 |mk (a:Addr) (B0 n:Nat) (T:List (List Int)) (c:Int) (x:Nat->Rat) (u:Nat->Int) (O:F=[.ref a]) (I:ED CT H a T) (aa:n<=100) (ab:XZ B0 n T c x u) (J:∀p H',AM H H'->H p=none->A4 AU H' p ((nz n).map x)->Q (.ref p) H')
theorem IW:Az ["rows","size","whole","found","k","row","known"] ["rows"] (Ak sBack):=A9
theorem XF:(["number","other"]:List Str).Nodup:=by decide +kernel
theorem lM:(["number","whole"]:List Str).Nodup:=by decide +kernel
def FD(u:Nat->Int)(n k:Nat):List Int:=(nz (n-k)).map λi=>u (k+i)
theorem aI(h:k<n):FD u n k=u k :: FD u n (k+1):=by
 unfold FD;rw[show n-k=(n-(k+1))+1 by lia,qC,nK,pC];congr 1;refine o7 λi _=>?_
 show u (k+(i+1))=u (k+1+i);congr 1;lia
def E4(r:List Int)(u:Nat->Int)(n k:Nat):List Int:=(nz (n-k)).map λi=>r.getD (k+i) 0*u (k+i)
theorem Yd{r:List Int}(h:k<n):E4 r u n k=(r.getD k 0*u k) :: E4 r u n (k+1):=by
 unfold E4;rw[show n-k=(n-(k+1))+1 by lia,qC,nK,pC];congr 1;refine o7 λi _=>?_
 show r.getD (k+(i+1)) 0*u (k+(i+1))=r.getD (k+1+i) 0*u (k+1+i)
 have:k+(i+1)=k+1+i:=by lia
 rw[this]
theorem Zl{r:List Int}{c:Int}(F:∀j,j<n->((u j:Int):Rat)=c*x j)(hs:fx n x (vr r)=0)(J:k<n)(hd:r.getD k 0≠0)(hz:∀j,j<k->r.getD j 0=0):
  (r.getD n 0*c-(E4 r u n (k+1)).sum).fdiv (r.getD k 0)=u k:=by
 have ac:∀m,m<=n->(((E4 r u n (n-m)).sum:Int):Rat)=c*(AV (λj=>vr r j*x j) n-AV (λj=>vr r j*x j) (n-m)):=by
  intro m
  induction m with
  |zero=>intro _;simp[E4];grind
  |succ m ih =>
   intro hm;rw[Yd (show n-(m+1)<n by lia),ow,ue,oo,F _ (by lia)];rw[show n-(m+1)+1=n-m by lia,ih (by lia)];have e:AV (λj=>vr r j*x j) (n-m)=AV (λj=>vr r j*x j) (n-(m+1))+vr r (n-(m+1))*x (n-(m+1)):=by
    rw[show n-m=n-(m+1)+1 by lia];rfl
   rw[e]
   have:vr r (n-(m+1))=((r.getD (n-(m+1)) 0:Int):Rat):=rfl
   rw[<-this];grind
 have t:=ac (n-(k+1)) (by lia);rw[show n-(n-(k+1))=k+1 by lia]at t;have ad:AV (λj=>vr r j*x j) (k+1)=vr r k*x k:=by
  simp only[AV];rw[Hr (λl O=>by rw[show vr r l=0 by simp only[vr,hz l O];rfl];grind)];grind
 rw[ad]at t;have ab:AV (λj=>vr r j*x j) n=vr r n:=by simp only[fx]at hs;grind
 rw[ab]at t;have aa:(((r.getD n 0*c-(E4 r u n (k+1)).sum:Int)):Rat)=((r.getD k 0*u k:Int):Rat):=by
  rw[uf,oo,oo,t,F k J];have a1:vr r n=((r.getD n 0:Int):Rat):=rfl;have I:vr r k=((r.getD k 0:Int):Rat):=rfl;rw[<-a1,<-I];grind
 have ki:r.getD n 0*c-(E4 r u n (k+1)).sum=r.getD k 0*u k:=by exact_mod_cast aa
 rw[ki,qo (yY _ _),sV _ hd]
theorem QD{r:List Int}(h:∀y∈r,Ba y)(F:j<r.length):Ba (r.getD j 0):=by
 rw[nq,nh F];exact h _ (oK F)
theorem cW(xs:List V)(h:i<=j)(J:j<=xs.length):De xs (some (i:Int)) (some (j:Int))=(xs.drop i).take (j-i):=by
 unfold De;have I:HT.Ax xs.length 0 (some (i:Int))=i:=by simp[HT.Ax];rw[nv (by lia)];lia
 have F:HT.Ax xs.length xs.length (some (j:Int))=j:=by simp[HT.Ax];rw[nv (by lia)];lia
 rw[I,F]
theorem fo (F:Aq K "found_back" "found_back" sBack f fd)(G:Ad P w K mg base 2 "fraction" ["top","bottom"] (JI C))
  (ml:mg "len" = none)(mr:mg "range" = none)(mz:mg "zip" = none)(az:mg "sum" = none)(mt:mg "tuple" = none):Am P w K mg base Aw 3 f fd ["rows"] VS:=by
 refine F.BD IW λii A _ s H vs Q E hr h=>?_
 obtain⟨a,B0,n,T,c,x,u,rfl,⟨bs,ha,hA⟩,hn,S,q⟩:=h;exists _,AN (Aa 1 IW (CV Lf (by rfl) ml Ee (AA (pv 0) AD)))
  (AN (Aa 2 IW (A6 CJ (A6 CJ (pv 0) (FW FU AB)) (AL DX (pv 1) AB)))
  (AN (Aa 3 IW (DB AD))
  (AN (CS oB rfl (ZW (by rfl) mr (AA (AL DX (pv 1) AB) (AA (FW FU AB) (AA (FW FU AB) AD)))) (BL 4 IW)
   (AN (Aa 5 IW (A6 CJ (pv 0) (pv 4)))
   (AN (Aa 6 IW (CV (ZU rfl) (by rfl) az jk (AA (Dk (Nc:=["number","other"]) (cap:=[]) (g:=IS [] 2 (Fw (BU 0) (Fw (BU 1) Kp))) (te:=Bh (rI L6 λi j=>.int (i*j)) (Al 0) (Al 1)) rfl
     (J7 (t1:=false) (t2:=false) (by rfl) mz (AA (Eu Md (pv 5) (Ea (AL BY (pv 4) AB)) (Ea (pv 1))) (AA (pv 3) AD)))
     Cn (λ_ _ _ _ _=>Dp rfl (Bf (B9 (i:=0) XF rfl (p8 rfl)) (Bf (B9 (i:=1) XF rfl (p8 rfl)) Dj)))
     (λ_ _ _ _ _=>AL Cz (pv 0) (pv 1))) AD)))
   (AX (Aa 3 IW (AL OE (DB (AA (AL Hw (AL DX (AL Cz (A6 CJ (pv 5) (pv 1)) (pv 2)) (pv 6)) (A6 CJ (pv 5) (pv 4))) AD)) (pv 3)))))))
  (AX (Ar (FF GQ (by rfl) mt Et (AA (Dk (Nc:=["number","whole"]) (cap:=[(1,2)]) (g:=BU 0) (te:=EA (JI C) [] E0 (BP (Al 0) (BP (Al 1) CH))) rfl (FX (pv 3))
   Cn
   (λ_ _ _ _ _=>B9 (i:=0) lM rfl (p8 rfl)) (λ_ _ _ _ _=>AZ G (AA (pv 0) (AA (pv 1) AD)))) AD)))))))
 have n0:=S.n0;have lT:=S.len;have lb:bs.length=n:=by rw[hA.1];exact lT
 have gT:∀i,i<n->∃b,bs[i]?=some b/\CT H b (T.getD i [])/\(T.getD i []).length=n+1/\(∀y∈T.getD i [],Ba y):=by
  intro i hi;have e:T[i]?=some (T[i]'(by lia)):=nh _;obtain⟨b,h1,h2⟩:=hA.BZ e;have hm:T[i]'(by lia)∈T:=oK _;rw[getD_some e];exact⟨b,h1,h2,S.EY _ hm,S.GC.1 _ hm⟩
 obtain⟨bz,au,aw,lz,_⟩:=gT (n-1) (by lia);exists _,U,a,_,U,.inl (AR.of ha);rw[nc,lb];have ao:((n:Nat):Int)-1=((n-1:Nat):Int):=by lia
 refine⟨_,U,_,U,a,_,_,_,U,U,AR.of ha,Qc (by rw[nc,lb];exact CW au),_,U,_,_,U,U,bz,_,_,_,U,U,AR.of aw,by rw[ao];exact Iz (by lia),?_⟩;rw[S.HZ];refine⟨by exact Gs,λl0 aj=>?_⟩;have s0:=Ae aj (.AE [])
 try dsimp only
 try refine Jt ?_
 first|refine Jw λax al=>?_|refine nx_hide λax al=>?_
 refine⟨_,U,_,_,U,U,_,U,_,U,n,U,by lia,?_⟩;refine cH (n:=n) (lo:=((n:Nat):Int)-1) (step:=-1) (λi σ H2=>AM H H2/\∃l u4 u5 u6,σ=[some (.ref a),some (.int ((n:Nat):Int)),some (.int c),some (.ref l),u4,u5,u6]/\H l=none/\CT H2 l (FD u n (n-i)))
  ⟨s0,l0,none,none,none,U,aj,by unfold CT FD;rw[AY];simp⟩ ?_ ?_
 ·rintro i σ H2 hi ⟨J,l,u4,u5,u6,rfl,nl,hl⟩;have hk:n-1-i<n:=by lia
  obtain⟨k,a0⟩:∃k,k=n-1-i:=⟨_,U⟩;have ek:((n:Nat):Int)-1+(i:Nat)*(-1)=((k:Nat):Int):=by lia
  obtain⟨b,hb,hB,lr,br⟩:=gT k (by lia);generalize ac:T.getD k []=row at hB lr br;rw[ek];have ar:=J _ _ ha;have af:=J _ _ hB;exists _,U,_,U,a,_,_,_,U,U,AR.of ar,Be (CW hb);have k1:((k:Nat):Int)+1=((k+1:Nat):Int):=by lia
  refine⟨_,U,_,U,_,_,U,U,_,U,_,U,_,U,b,_,U,AR.of af,λp1 aq=>?_⟩
  (try dsimp only)
  rw[k1,cW _ (by lia) (by rw[nc];lia)];have s3:=Ae aq (.AE (((row.map V.int).drop (k+1)).take (n-(k+1))));have e1:(AF H2 p1 (.AE (((row.map V.int).drop (k+1)).take (n-(k+1))))) p1=some (.AE (((row.drop (k+1)).take (n-(k+1))).map V.int)):=by rw[AY,vT,tZ]
  generalize AF H2 p1 (.AE (((row.map V.int).drop (k+1)).take (n-(k+1))))=H3 at s3 e1;have ni:n-i=k+1:=by lia
  rw[ni]at hl;have ag:=s3 _ _ hl;refine⟨_,U,p1,l,U,⟨_,BS.l e1⟩,⟨_,BS.l ag⟩,λab ah=>?_⟩;have lf:(FD u n (k+1)).length=n-(k+1):=by unfold FD;simp
  refine Cy (Ng (xs:=((row.drop (k+1)).take (n-(k+1))).map V.int) (ys:=(FD u n (k+1)).map V.int) (λH4 s=>BS.l (s _ _ e1)) (λH4 s=>BS.l (s _ _ ag)) (by simp[lf];lia)) (by simp;lia) ah
   (λj ys σ _=>ys=((E4 row u n (k+1)).take j).map V.int/\∃v1 v2,σ=[v1,v2]) ⟨U,none,none,U⟩ ?_ ?_
  ·rintro j ys σ H4 z H5 hj s4 O ⟨ae,v1,v2,rfl⟩ ⟨t,n1,n2,rfl,ht,rfl,am,ai⟩ Cc hC;have aa:j<n-(k+1):=by simp at hj;lia
   have g1:n1=.int (row.getD (k+1+j) 0):=by
    rw[nJ,yw,nF aa,rL,nh (by lia)]at am;rw[nq,nh (by lia)];exact(nV am).symm
   have g2:n2=.int (u (k+1+j)):=by
    unfold FD at ai;rw[nJ,nJ,pY aa]at ai;exact(nV ai).symm
   subst g1 g2;have I:=Ae ht (.AG [.int (row.getD (k+1+j) 0),.int (u (k+1+j))]);exists t,_,U,AJ.of AY,U,_,_,U,_,_,U,rfl;refine⟨_,U,_,U,_,_,U,U,⟨QD br (by lia),S.GC.2.1 _ (by lia)⟩,?_⟩;refine hC _ _ _ I ⟨?_,_,_,U⟩;have e:(E4 row u n (k+1))[j]?=some (row.getD (k+1+j) 0*u (k+1+j)):=by unfold E4;rw[nJ,pY aa];rfl
   rw[ae,C8 e,nY];rfl
  ·rintro ys σ H4 s4 O ap ⟨ae,_⟩;have lp:(E4 row u n (k+1)).length=n-(k+1):=by unfold E4;simp
   rw[ou (by simp;lia)]at ae;rw[ae]at O;exists ab,_,U,O;have ad:=s3.trans s4;have bn:=Zl (r:=row) S.Wr (by rw[<-ac];exact S.mQ k (by lia)) (k:=k) (by lia) (by rw[<-ac];exact(S.Fm k (by lia)).1) (by rw[<-ac];exact(S.Fm k (by lia)).2);refine⟨_,U,_,U,b,_,_,_,U,U,AR.of (ad _ _ af),Iz (by lia),_,U,_,_,U,U,⟨QD br (by lia),S.GC.2.2⟩,_,U,_,_,U,U,_,U,_,U,b,_,_,_,U,U,AR.of (ad _ _ af),Iz (by lia),_,_,U,U,
    ⟨by rw[<-ac];exact(S.Fm k (by lia)).1,QD br (by lia)⟩,by exact IY,λp2 av=>?_⟩
   (try dsimp only)
   rw[bn];have I:=Ae av (.AE [.int (u k)]);refine⟨_,U,p2,l,_,_,U,U,AY,I _ _ (s4 _ _ ag),by simp[lf];exact Gd (by lia),λp3 ak=>?_⟩;have s6:=Ae ak (.AE ([V.int (u k)]++(FD u n (k+1)).map V.int));have ay:=J.trans (ad.trans (I.trans s6));exists ay,p3,_,_,_,U,(J.trans (ad.trans I)).free ak;unfold CT;rw[AY,show n-(i+1)=k by lia,aI (show k<n by lia)];rfl
 ·rintro σ H2 ⟨J,l,u4,u5,u6,rfl,nl,hl⟩;subst al;rw[rG]at hl;refine⟨_,U,l,U,⟨_,AR.of hl⟩,λab ah=>?_⟩;have lf:(FD u n 0).length=n:=by unfold FD;simp
  refine Cy (Iw hl) (by rw[nc,lf];lia) ah (λj ys σ hp=>∃ds:List Addr,ys=ds.map V.ref/\At AU hp ds (((nz n).map x).take j)/\∃v,σ=[v,some (.int c)]) ⟨[],U,At.nil,none,U⟩ ?_ ?_
  ·rintro j ys σ H4 z H5 hj s4 O ⟨ds,rfl,hD,v,rfl⟩ ⟨rfl,hx⟩ Cc hC;have aa:j<n:=by rw[nc,lf]at hj;exact hj
   have g1:z=.int (u j):=by
    unfold FD at hx;rw[nJ,nJ,pY (by lia)]at hx
    have:=(nV hx).symm
    rw[this];simp
   subst g1;refine⟨_,U,_,U,u j,c,U,S.GC.2.2,λz=>absurd z S.c0,λ_ p hp=>?_⟩;have ef:BV (u j) c=fr (x j):=by
    rw[FI _ _ S.c0];have h1:=S.Wr j aa;have h2:((c:Int):Rat)≠0:=by have:=S.c0;exact_mod_cast this
    have:((u j:Int):Rat) / ((c:Int):Rat)=x j:=by rw[h1];grind
    rw[this];rfl
   rw[ef];have I:=Ae hp (.AG [.int (fr (x j)).1,.int (fr (x j)).2]);refine hC _ _ _ I ⟨ds++[p],by simp,?_,_,U⟩;have e:((nz n).map x)[j]?=some (x j):=by rw[nJ,pY aa];rfl
   rw[C8 e];exact(hD.keep Ao (EO ab I)).snoc (AU.BW (q:=x j) AY (I _ _ O))
  ·rintro ys σ H4 s4 O ap ⟨ds,rfl,hD,v,rfl⟩;rw[nc,lf,ou (by simp)]at hD;refine⟨ab,_,U,.inl ⟨AR.of O,λp hp=>?_⟩⟩;have I:=Ae hp (.AG (ds.map V.ref));exact q p _ ((J.trans s4).trans I) ((J.trans s4).free hp) ⟨ds,AY,(hD.keep Ao (D8 H4 ab)).keep Ao I⟩
theorem mj(h:A4 AU H b r)(e:H a=some (.AE ys)):A4 AU (BW H a) b r:=by
 obtain⟨cs,h1,h2⟩:=h;exact⟨cs,GS h1 (λz=>by rw[z,e]at h1;cases h1),N6 e h2⟩
def CM(T:List (List Rat))(r:List Rat):List (List Rat):=va (λrow q=>row++[q]) T r
theorem jT{c:Int}(ok:TK n (n+1) d E' D J)(n0:0<n){Z:List (List Int×AW)}(O:((n+1)*B0) ^ n<2 ^ 8968)(B:Bi B0 n (n+1) n ((C6 J).map vr) T2 Z c v):
  ∃x u,XZ B0 n T2 c x u/\(∀r∈J,fx n x (vq r)=0)/\dt n (n+1) J≠0:=by
 obtain⟨rfl,eD⟩:=B.Rq;have lT:=B.F7;have ad:∀i,i<n->T2.getD i []∈T2:=λi hi=>by
  rw[nq,nh (by lia)];exact oK _
 obtain⟨x,hx⟩:=gO (n:=n) (λi=>vr (T2.getD i [])) (λi hi=>by
   have:=(B.Fm i hi).1
   show((((T2.getD i []).getD i 0:Int)):Rat)≠0
   exact_mod_cast this) (λi j hi F=>by
   show((((T2.getD i []).getD j 0:Int)):Rat)=0;rw[(B.Fm i hi).2 j F];rfl) n (nG _)
 have aa:∀i,i<n->fx n x (vr (T2.getD i []))=0:=λi hi=>hx i (by lia) hi
 have hA:∀a∈(C6 J).map vr,fx n x a=0:=B.Kq (fx n x) (Vs n x) (λr I=>by
  obtain⟨i,hi,er⟩:=om I
  have:=aa i (by lia)
  rw[nq,nh hi]at this;simp only[qD]at this;rw[er]at this;exact this) (by simp)
 have pz:((c:Int):Rat)≠0:=by have:=B.pz;exact_mod_cast this
 have wv:v=Ac ((C6 J).map vr) Ah:=B.all;have ex:∀j:Nat,∃k:Int,j<n->((k:Int):Rat)=c*x j/\Ba k:=by
  intro j;by_cases F:j<n
  ·obtain⟨l1,l2,l3⟩:=Ve hA F;rw[eD,<-wv]at l3;obtain⟨k,hk⟩:=B.IT (K1 n j);have bw:=B.Ii (K1 n j);rw[l1,hk]at bw;have ab:k.natAbs<=((n+1)*B0) ^ n:=FQ bw;rcases l2 with h1|h1
   ·refine⟨k,λ_=>⟨?_,qh ab O⟩⟩;rw[<-hk];rw[h1]at l3;grind
   ·refine⟨-k,λ_=>⟨?_,by unfold Ba;rw[vp];exact qh ab O⟩⟩;rw[tq,<-hk];rw[h1]at l3;grind
  ·exact⟨0,λh=>absurd h F⟩
 obtain⟨u,hu⟩:=Classical.axiomOfChoice ex;have ac:∀r∈T2,∀y∈r,Ba y:=λr I y hy=>by
  obtain⟨j,rfl⟩:=Wd.mem_getD hy;exact qh (FQ (B.Jc r I j)) O
 exists x,u,⟨n0,lT,B.IV,B.pz,B.HZ n0,B.Fm,aa,λj F=>(hu j F).1,ac,λj F=>(hu j F).2,WS B O⟩,?_
 ·intro r I;obtain⟨c1,c2,_⟩:=ok.D2 I;have h1:=hA (vr (r.map (wh (cb r)))) (vo (nS.mpr ⟨r,I,U⟩));rw[RF c2]at h1;exact(UA (by exact_mod_cast (show cb r≠0 by lia))).mp h1
 ·intro z;have sc:=Ml (n:=n) (m:=n+1) J cb (λr I=>(ok.D2 I).2.1);rw[z]at sc;have e2:ld n (n+1) (Ac ((C6 J).map vr) Ah)=c:=eD
  have:((c:Int):Rat)=0:=by rw[<-e2];unfold C6;rw[sc];grind
  exact pz this
inductive Sv(C2:Addr)(F:List V)(H:Hp)(Q:VK)(E:XK):Prop
 |mk (a b:Addr) (T:List (List Rat)) (r:List Rat) (n d I D:Nat) (ag:F=[.ref a,.ref b]) (af:A4 (A4 AU) H a T) (ab:A4 AU H b r) (O:T.length=n) (ac:r.length=n) (ad:(∀x∈T,x.length=n)) (ae:TK n (n+1) d I D (CM T r)) (aa:(dt n (n+1) (CM T r)=0->∀H',AM H H'->False)) (J:(dt n (n+1) (CM T r)≠0->∀p H' x,AM H H'->(∀y∈CM T r,fx n x (vq y)=0)->A4 AU H' p ((nz n).map x)->Q (.ref p) H')):Sv C2 F H Q E
def TL(C2:Addr):Sp:=λF H Q E=>Sv C2 F H Q E
theorem Rc:Az ["table","right","joined","rows"] ["table","right"] (Ak sAnswer):=A9
theorem Ww:(["row","number"]:List Str).Nodup:=by decide +kernel
theorem Y0 (F:Aq K "answer" "answer" sAnswer f fd)(G1:Ad P w K mg base 2 "common_bottom" ["row"] MF)
  (G2:Ad P w K mg base 1 "wholes" ["row","bottom"] LK)
  (G3:Ad P w K mg base 2 "swept" ["rows"] Qf)
  (G4:Ad P w K mg base 3 "found_back" ["rows"] VS)
  (ml:mg "len" = none)(mz:mg "zip" = none):Am P w K mg base Aw 4 f fd ["table","right"] (TL C2):=by
 refine F.BD Rc λii A _ s H vs Q E J h=>?_
 obtain⟨a,b,T,r,n,d,E',D,rfl,⟨bs,ha,hA⟩,⟨cs,hb,hB⟩,lT,lr,cT,I,q0,q1⟩:=h;exists _,AN (Bq (Bb FV (CV Lf (by rfl) ml Ee (AA (pv 0) AD)) AB) (AX (Ar (Bl AD))) By)
  (AN (Jk (i:=2) Rc.nd rfl (p8 rfl) (Nc:=["row","number"]) (cap:=[]) (g:=IS [] 2 (Fw (BU 0) (Fw (BU 1) Kp))) (te:=Bh (Kb K) (Al 0) (Kg (BP (Al 1) CH))) rfl (J7 (t1:=true) (t2:=true) (by rfl) mz (AA (pv 0) (AA (pv 1) AD)))
   Cn (λ_ _ _ _ _=>Dp rfl (Bf (B9 (i:=0) Ww rfl (p8 rfl)) (Bf (B9 (i:=1) Ww rfl (p8 rfl)) Dj)))
   (λ_ _ _ _ _=>AL LZ (pv 0) (Bl (AA (pv 1) AD))))
  (AN (Aa 3 Rc (AZ G3 (AA (Dk (Nc:=["row"]) (cap:=[]) (g:=BU 0) (te:=EA LK [] E0 (BP (Al 0) (BP (EA MF [] E0 (BP (Al 0) CH)) CH))) rfl (FX (pv 2))
   Cn (λ_ _ _ _ _=>B9 (i:=0) XS rfl (p8 rfl))
   (λ_ _ _ _ _=>AZ G2 (AA (pv 0) (AA (AZ G1 (AA (pv 0) AD)) AD)))) AD)))
  (AN (Bq (Bb Qm (pv 3) Li) (AX NH) By)
  (AX (Ar (AZ G4 (AA (pv 3) AD)))))))
 have lb:bs.length=n:=by rw[hA.1];exact lT
 have lc:cs.length=n:=by rw[hB.1];exact lr
 have a1:=I.Rn;exists _,U,a,_,U,.inr (AJ.of ha),U,_,rfl;by_cases ax:n=0
 ·subst ax;refine C4 (iv (by rw[nc,lb];rfl)) ?_;have e1:T=[]:=rS.mp lT;subst e1;refine⟨by exact Gs,λp hp=>q1 ?_ p _ (λ_=>0) (Ae hp _) (by simp[CM]) ⟨[],AY,At.nil⟩⟩
  have:dt 0 1 (CM [] r)=1:=by unfold dt CM;exact Ln 1
  rw[this];grind
 refine DC (Fi (by rw[nc,lb];lia)) ?_;have lJ:(CM T r).length=n:=I.len;have jg:∀i row q,T[i]?=some row->r[i]?=some q->(CM T r)[i]?=some (row++[q]):=λi row q h1 h2=>by
  unfold CM;rw[tF,h1,h2]
 refine⟨_,U,_,U,a,b,U,⟨_,BS.t ha⟩,⟨_,BS.t hb⟩,λae al=>?_⟩;refine Cy (Ng (xs:=bs.map V.ref) (ys:=cs.map V.ref) (λO s=>BS.t (s _ _ ha)) (λO s=>BS.t (s _ _ hb)) (by rw[nc,nc];lia)) (by rw[nc];lia) al
  (λi ys σ hp=>∃ds:List Addr,ys=ds.map V.ref/\At (A4 AU) hp ds ((CM T r).take i)/\∃u v,σ=[u,v]) ⟨[],U,At.nil,none,none,U⟩ ?_ ?_
 ·rintro i ys σ O z H4 hi sm ak ⟨ds,rfl,hD,u,v,rfl⟩ ⟨t,n1,n2,rfl,ht,rfl,aw,au⟩ Cc hC;obtain⟨c1,row,rfl,_,aa,es,ap,ai⟩:=hA.ref aw;obtain⟨c2,qq,rfl,_,av,am⟩:=hB.ref au;have s3:AM O (AF O t (.AG [.ref c1,.ref c2])):=Ae ht _;have rl:row.length=n:=cT row (ny aa);have a2:es.length=n:=by rw[ai.1];exact rl
  exists t,_,U,AJ.of AY,U,_,_,U,_,_,U,rfl;refine⟨_,U,_,U,by exact IY,λt1 aq=>?_⟩;have s4:=Ae aq (.AG [.ref c2]);have ag:=s3.trans s4;refine⟨c1,t1,es.map V.ref,[.ref c2],U,U,AJ.of (ag _ _ (sm _ _ ap)),AJ.of AY,?_,by simp;exact Gd (by lia),λz=>by simp at z,λ_ p hp=>?_⟩
  ·intro z;have z2:=congrArg rE z;simp only[nc,rA]at z2
   lia
  have s5:=Ae hp (.AG (es.map V.ref++[.ref c2]));have ab:=ag.trans s5;refine hC _ _ _ ab ⟨ds++[p],by simp,?_,_,_,U⟩;rw[C8 (jg i row qq aa av)];refine(hD.keep L3 (EO ae ab)).snoc (mj ⟨es++[c2],by rw[AY];simp,?_⟩ (ab _ _ ak));exact(ai.keep Ao (sm.trans ab)).snoc ((sm.trans ab) _ _ am)
 rintro ys σ1 H2 s2 af az ⟨ds,rfl,hD,u,v,rfl⟩;rw[nc,lb,ou (by lia)]at hD;have aj:=hD.keep L3 (D8 H2 ae);have ay:ds.length=n:=by rw[hD.1];exact lJ
 refine⟨_,U,ae,U,⟨_,AR.of af⟩,λac ar=>?_⟩;refine Cy (Iw af) (by rw[nc];lia) ar (λi ys σ hp=>∃gs:List Addr,ys=gs.map V.ref/\At CT hp gs ((C6 (CM T r)).take i)/\∃u,σ=[u]) ⟨[],U,At.nil,none,U⟩ ?_ ?_
 ·rintro i ys σ O z H4 hi sm ad ⟨gs,rfl,hG,u,rfl⟩ ⟨rfl,hx⟩ Cc hC;obtain⟨c,row,rfl,_,aa,hR⟩:=aj.ref hx;have rm:row∈CM T r:=ny aa;have ah:=L3 sm hR
  have:=I.bd
  refine⟨_,U,_,U,c,row,d,U,ah,λq hq=>I.den row rm q hq,by rw[I.EY row rm];lia,?_⟩;refine⟨c,row,cb row,U,ah,by rw[I.EY row rm];lia,I.wb rm,λp H5 s5 np hp=>?_⟩;refine hC _ _ _ s5 ⟨gs++[p],by simp,?_,_,U⟩;have ne:p≠ac:=λz=>by rw[z,ad]at np;cases np
  have e3:(C6 (CM T r))[i]?=some (row.map (wh (cb row))):=by unfold C6;rw[nJ,aa];rfl
  rw[C8 e3];exact(hG.keep ER (EO ac s5)).snoc (GS hp ne)
 rintro ys σ2 O s3 ad a0 ⟨gs,rfl,hG,u,rfl⟩;have lw:(C6 (CM T r)).length=n:=by unfold C6;rw[nc];exact lJ
 rw[nc,ay,ou (by lia)]at hG;exists ac,C6 (CM T r),n,n+1,2 ^ E',U,⟨gs,ad,hG.keep ER (D8 O ac)⟩,lw,by lia,by lia,λr J=>(I.MX r J).1,yE,λr J=>(I.MX r J).2,I.GC,?_
 ·intro H4 s4 h0;refine⟨_,U,U,_,U,C4 rfl ?_⟩;refine q0 ?_ H4 (s2.trans (s3.trans s4));have sc:=Ml (n:=n) (m:=n+1) (CM T r) cb (λr J=>(I.D2 J).2.1);obtain⟨pp,pl⟩:=NG ((CM T r).map cb) (d:=D) (λb hb=>by
   obtain⟨r,J,rfl⟩:=nS.mp hb;exact⟨(I.D2 J).1,(I.D2 J).2.2⟩)
  have pq:((C1 ((CM T r).map cb):Int):Rat)≠0:=by
   have:C1 ((CM T r).map cb)≠0:=by lia
   exact_mod_cast this
  have h1:((C1 ((CM T r).map cb):Int):Rat)*dt n (n+1) (CM T r)=0:=by rw[<-sc];exact h0
  grind
 ·intro p H4 T2 s4 hL ⟨Z,c,v,B⟩;refine⟨_,U,U,_,U,DC (λz=>by cases z) ?_⟩;obtain⟨x,u,S,hx,hd⟩:=jT I (by lia) I.GC B;exact⟨_,U,p,_,n,T2,c,x,u,U,hL,by lia,S,λp5 H5 s5 a3 ao=>q1 hd p5 H5 x (s2.trans (s3.trans (s4.trans s5))) hx ao⟩
abbrev OZ(H:Hp)(Q:VK)(q:Rat):Prop:=∀p,H p=none->Q (.ref p) (AF H p (.AG [.int q.num,.int q.den]))
abbrev Sf(q:Rat):Prop:=Sb 4480 4480 q
theorem Sf.n(h:Sf q):Ba q.num:=EE h.1 (by decide)
theorem Sf.d(h:Sf q):Ba (q.den:Int):=EE (n:=4480) (by simpa using h.2) (by decide)
theorem Sf.dd(h:Sf p)(g:Sf q):Ba ((p.den:Int)*(q.den:Int)):=by
 refine EE (n:=8960) ?_ (by decide);rw[oE,oj,oj];exact B5 h.2 g.2
inductive Cg(op:Rat->Rat->Rat)(F:List V)(H:Hp)(Q:VK)(_:XK):Prop
 |mk (p q:Addr) (x y:Rat) (aa:F=[.ref p,.ref q]) (I:AU H p x) (ab:AU H q y) (ac:Sf x) (O:Sf y) (J:OZ H Q (op x y))
theorem kK:Az ["one","other"] ["one","other"] (Ak sPlus):=A9
theorem fg(F:Aq K "plus" "plus" sPlus f fd)(G:Ad P w K mg base 2 "fraction" ["top","bottom"] (JI C)):
  Am P w K mg base Aw 3 f fd ["one","other"] (Cg λx y=>x+y):=by
 refine F.BD kK λii A _ s H vs Q E hr h=>?_
 obtain⟨p,q,x,y,rfl,hp,O,J,I,k⟩:=h;exists _,AX (Ar (AZ G (AA (AL BY (AL Cz (A6 Bk (pv 0) AB) (A6 Bk (pv 1) AB)) (AL Cz (A6 Bk (pv 1) AB) (A6 Bk (pv 0) AB))) (AA (AL Cz (A6 Bk (pv 0) AB) (A6 Bk (pv 1) AB)) AD))));refine⟨_,U,p,_,_,_,U,U,AJ.of hp,BC,_,U,q,_,_,_,U,U,AJ.of O,Ay,_,_,U,U,⟨J.n,I.d⟩,_,U,q,_,_,_,U,U,AJ.of O,BC,_,U,p,_,_,_,U,U,AJ.of hp,Ay,_,_,U,U,⟨I.n,J.d⟩,_,_,U,U,
  _,U,p,_,_,_,U,U,AJ.of hp,Ay,_,U,q,_,_,_,U,U,AJ.of O,Ay,_,_,U,U,⟨J.d,I.d⟩,_,_,U,Sf.dd J I,λz=>absurd z (Ie x y),λ_ t ht=>?_⟩
 have e:=Qs x y;have q1:=k t ht;have e1:=congrArg wI e;have e2:=congrArg xR e;simp only[fr]at e1 e2;rw[e1,e2];exact q1
theorem jy:Az ["one","other"] ["one","other"] (Ak sMinus):=A9
theorem cB(F:Aq K "minus" "minus" sMinus f fd)(G:Ad P w K mg base 2 "fraction" ["top","bottom"] (JI C)):
  Am P w K mg base Aw 3 f fd ["one","other"] (Cg λx y=>x-y):=by
 refine F.BD jy λii A _ s H vs Q E hr h=>?_
 obtain⟨p,q,x,y,rfl,hp,O,J,I,k⟩:=h;exists _,AX (Ar (AZ G (AA (AL DX (AL Cz (A6 Bk (pv 0) AB) (A6 Bk (pv 1) AB)) (AL Cz (A6 Bk (pv 1) AB) (A6 Bk (pv 0) AB))) (AA (AL Cz (A6 Bk (pv 0) AB) (A6 Bk (pv 1) AB)) AD))));refine⟨_,U,p,_,_,_,U,U,AJ.of hp,BC,_,U,q,_,_,_,U,U,AJ.of O,Ay,_,_,U,U,⟨J.n,I.d⟩,_,U,q,_,_,_,U,U,AJ.of O,BC,_,U,p,_,_,_,U,U,AJ.of hp,Ay,_,_,U,U,⟨I.n,J.d⟩,_,_,U,U,
  _,U,p,_,_,_,U,U,AJ.of hp,Ay,_,U,q,_,_,_,U,U,AJ.of O,Ay,_,_,U,U,⟨J.d,I.d⟩,_,_,U,Sf.dd J I,λz=>absurd z (Ie x y),λ_ t ht=>?_⟩
 have e:=Vh x y;have q1:=k t ht;have e1:=congrArg wI e;have e2:=congrArg xR e;simp only[fr]at e1 e2;rw[e1,e2];exact q1
theorem jt:Az ["one","other"] ["one","other"] (Ak sTimes):=A9
theorem aY(F:Aq K "times" "times" sTimes f fd)(G:Ad P w K mg base 2 "fraction" ["top","bottom"] (JI C)):
  Am P w K mg base Aw 3 f fd ["one","other"] (Cg λx y=>x*y):=by
 refine F.BD jt λii A _ s H vs Q E hr h=>?_
 obtain⟨p,q,x,y,rfl,hp,hq,J,I,k⟩:=h;exists _,AX (Ar (AZ G (AA (AL Cz (A6 Bk (pv 0) AB) (A6 Bk (pv 1) AB)) (AA (AL Cz (A6 Bk (pv 0) AB) (A6 Bk (pv 1) AB)) AD))));refine⟨_,U,p,_,_,_,U,U,AJ.of hp,BC,_,U,q,_,_,_,U,U,AJ.of hq,BC,_,_,U,U,⟨J.n,I.n⟩,
  _,U,p,_,_,_,U,U,AJ.of hp,Ay,_,U,q,_,_,_,U,U,AJ.of hq,Ay,_,_,U,U,⟨J.d,I.d⟩,_,_,U,Sf.dd J I,λz=>absurd z (Ie x y),λ_ t ht=>?_⟩
 have e:=Qr x y;have q1:=k t ht;have e1:=congrArg wI e;have O:=congrArg xR e;simp only[fr]at e1 O;rw[e1,O];exact q1
abbrev LF:Hp->Addr->List Rat->Prop:=ED AU
theorem OO:Mo LF:=λs h=>OA (R:=AU) (λs h=>Ao s h) s h
theorem Vo(h:LF H b r)(n:b≠a)(e:H a=some (.AE ys)):LF (BW H a) b r:=by
 obtain⟨cs,h1,h2⟩:=h;exact⟨cs,GS h1 n,N6 e h2⟩
theorem WC(h:At AU H bs qs)(e:H a=some (.AE ys))(o:HO):At AU (AF H a o) bs qs:=(N6 e h).keep Ao (Qp H a o)
def Bj(H:Hp)(b:Addr)(r:AK):Prop:=∃e,H b=some (.AG [.int (r.1:Int),.int (r.2.1:Int),.ref e])/\AU H e r.2.2
theorem Dl:Mo Bj:=λs ⟨e,h1,h2⟩=>⟨e,s _ _ h1,s _ _ h2⟩
def EJ(H:Hp)(a:Addr)(n:Nat)(rs:List AK):Prop:=∃(r:Addr) (t:V),H a=some (.AG [.int (n:Int),.ref r,t])/\A4 Bj H r rs
theorem FR(s:AM H H')(h:EJ H a n rs):EJ H' a n rs:=by
 obtain⟨r,t,h1,h2⟩:=h;exact⟨r,t,s _ _ h1,ES (R:=Bj) (λs h=>Dl s h) s h2⟩
structure Fh(H:Hp)(R:Addr)(bs:List Addr)(T:List (List Rat)):Prop where
 h1:H R=some (.AE (bs.map V.ref))
 Ci:At LF H bs T
 nd:(R :: bs).Nodup
theorem Fh.keep(M:Fh H R bs T)(s:AM H H'):Fh H' R bs T:=⟨s _ _ M.h1,M.Ci.keep OO s,M.nd⟩
theorem WQ{l:List Addr}(h:l.Nodup)(h1:l[i]?=some b)(h2:l[j]?=some b):i=j:=by
 obtain⟨F,O⟩:=nj.mp h1;obtain⟨I,J⟩:=nj.mp h2;have hp:=rO.mp h;rcases so i j with z|z|z
 ·exact absurd (O.trans J.symm) (hp i j F I z)
 ·exact z
 ·exact absurd (J.trans O.symm) (hp j i I F z)
theorem Fh.E8{R b p:Addr}(M:Fh H R bs T)(J:bs[i]?=some b)(hc:H b=some (.AE (cs.map V.ref)))(hr:At AU H cs (T.getD i []))(hp:AU H p v):
  Fh (AF H b (.AE ((cs.map V.ref).set j (.ref p)))) R bs (DM T i j v):=by
 have bm:b∈bs:=ny J;obtain⟨n1,n2⟩:=pj.mp M.nd;have e1:R≠b:=λz=>n1 (by rw[z];exact bm)
 refine⟨by rw[As e1];exact M.h1,⟨by unfold DM;rw[o9];exact M.Ci.1,λk c x I F=>?_⟩,M.nd⟩;unfold DM at F;by_cases O:i=k
 ·subst O;rw[J]at I;cases I;have hl:i<T.length:=by rw[<-M.Ci.1];exact(nj.mp J).1
  rw[oM hl]at F;cases F;refine⟨cs.set j p,by rw[AY,tG],WC (hr.set j hp) hc _⟩
 ·rw[oH O]at F;have ne:c≠b:=λz=>O (WQ n2 J (by rw[I,z]))
  exact OO (Qp H b _) (Vo (M.Ci.2 k c x I F) ne hc)
theorem Fh.BZ(M:Fh H R bs T)(q:Sq n T)(hi:i<n)(hj:j<n):∃b cs c,bs[i]?=some b/\H b=some (.AE (cs.map V.ref))/\At AU H cs (T.getD i [])/\cs[j]?=some c/\AU H c (en T i j)/\cs.length=n:=by
 obtain⟨l,e⟩:=q.row hi;obtain⟨b,J,cs,h1,h2⟩:=M.Ci.BZ e;have F:(T.getD i [])[j]?=some ((T.getD i [])[j]'(by lia)):=nh _;obtain⟨c,O,I⟩:=h2.BZ F;refine⟨b,cs,c,J,h1,h2,O,?_,by rw[h2.1];exact l⟩
 have:en T i j=(T.getD i [])[j]'(by lia):=by unfold en;rw[nq,F];rfl
 rw[this];exact I
theorem dN(n:Nat)(t:Addr):(nQ n [V.ref t]).flatten=(nQ n t).map V.ref:=by
 induction n with
 |zero=>rfl
 |succ n ih=>rw[o8,oN,ih,o8];rfl
theorem Nx {D:Dd}{a:Nat}(I:σ[1]?=some (some (.ref R)))(O:σ[a]?=some (some (.int (i:Int))))(hb:σ[b]?=some (some (.int (j:Int))))(he:σ[4]?=some (some (.ref e)))
  (M:Fh H R bs T)(sq:Sq n T)(hi:i<n)(hj:j<n)(J:AU H e q)(s1:Sf (en T i j))(s2:Sf q)(sm:AM H0 H)(fr:∀b∈bs,H0 b=none)
  (k:∀H',AM H0 H'->Fh H' R bs (DM T i j (op (en T i j) q))->AU H' e q->D.nx σ H') :
  JV (EA (Cg op) [] E0 (BP (Bh (Gg []) (Bh (Gg []) (Al 1) (Al a)) (Al b)) (BP (Al 4) CH))) (XU (Bh (Gg []) (Al 1) (Al a)) (Al b) WZ) D σ H:=by
 obtain⟨b1,cs,c,h1,h2,h3,h4,h5,h6⟩:=M.BZ sq hi hj;refine⟨_,I,_,O,R,_,_,_,U,U,AR.of M.h1,Be (CW h1),_,hb,b1,_,_,_,U,U,AR.of h2,Be (CW h4),_,he,c,e,_,_,U,h5,J,s1,s2,λp hp=>?_⟩;have F:=Ae hp (.AG [.int (op (en T i j) q).num,.int (op (en T i j) q).den]);refine⟨_,I,_,O,R,_,_,_,U,U,AR.of (F _ _ M.h1),Be (CW h1),_,hb,b1,_,_,_,U,U,F _ _ h2,La (by rw[nc];lia),?_⟩;have bn:H0 b1=none:=fr b1 (ny h1);refine k _ (Ew (sm.trans F) bn _) ((M.keep F).E8 h1 (F _ _ h2) (h3.keep Ao F) AY) ?_;exact Ao (Qp _ b1 _) (AU.BW (F _ _ J) (F _ _ h2))
inductive N9(F:List V)(H:Hp)(Q:VK)(_:XK):Prop
 |mk (a:Addr) (n α β:Nat) (rs:List AK) (ae:F=[.ref a]) (ad:EJ H a n rs) (O:n<=100) (I:rs.length<=100) (aa:(∀r∈rs,r.1<n/\r.2.1<n/\Sb α β r.2.2)) (ab:α+(β+1)*rs.length<=3900) (ac:β*rs.length<=3900) (J:∀p H',AM H H'->A4 (A4 AU) H' p (BB n rs)->Q (.ref p) H')
theorem ML:Az ["net","rows","one","other","ease"] ["net"] (Ak sEaseTable):=A9
theorem lL:(["place","net"]:List Str).Nodup:=by decide +kernel
theorem OP:(["row"]:List Str).Nodup:=by decide +kernel
def iS(K:nI):List V->Hp->VK->Prop:=λxs H Q=>∃p ys,xs=[.ref p]/\((AR K H p ys/\∀l,H l=none->Q (.ref l) (AF H l (.AG ys)))\/(AJ K H p ys/\Q (.ref p) H))
theorem RM(h:A4 AU H b r)(e:H a=some (.AE ys)):A4 AU (BW H a) b r:=by
 obtain⟨cs,h1,h2⟩:=h;exact⟨cs,GS h1 (λz=>by rw[z,e]at h1;cases h1),N6 e h2⟩
theorem E1:Mo (A4 AU):=λs h=>ES (R:=AU) (λs h=>Ao s h) s h
theorem fh{r:AK}(h:Sb α β r.2.2)(i j:Nat):B6 r i j=0\/B6 r i j=r.2.2\/B6 r i j=-r.2.2:=by
 unfold B6;by_cases e:r.1=r.2.1
 ·rw[nF e];exact .inl rfl
 ·rw[nv e];by_cases a:i=r.1/\j=r.1
  ·have b:¬(i=r.2.1/\j=r.2.1):=λz=>e (a.1.symm.trans z.1)
   have c:¬(i=r.1/\j=r.2.1):=λz=>e (a.2.symm.trans z.2)
   have d:¬(i=r.2.1/\j=r.1):=λz=>e (a.1.symm.trans z.1)
   rw[nF a,nv b,nv c,nv d];right;left;grind
  ·rw[nv a];by_cases b:i=r.2.1/\j=r.2.1
   ·have c:¬(i=r.1/\j=r.2.1):=λz=>e (z.1.symm.trans b.1)
    have d:¬(i=r.2.1/\j=r.1):=λz=>e (z.2.symm.trans b.2)
    rw[nF b,nv c,nv d];right;left;grind
   ·rw[nv b];by_cases c:i=r.1/\j=r.2.1
    ·have d:¬(i=r.2.1/\j=r.1):=λz=>e (c.1.symm.trans z.1)
     rw[nF c,nv d];right;right;grind
    ·rw[nv c];by_cases d:i=r.2.1/\j=r.1
     ·rw[nF d];right;right;grind
     ·rw[nv d];left;grind
def Gu(n α β k:Nat)(T:List (List Rat)):Prop:=Sq n T/\∀i j,Sb (α+(β+1)*k) (β*k) (en T i j)
theorem Gu.zero(n α β:Nat):Gu n α β 0 (Eh n):=⟨JA n,λi j=>by rw[QZ];exact Sb.zero.mono (pJ _) (pJ _)⟩
theorem Gu.Ah(h:Gu n α β k T)(F:Sb α β q)(i j:Nat):Sb (α+(β+1)*(k+1)) (β*(k+1)) (en T i j+q)/\Sb (α+(β+1)*(k+1)) (β*(k+1)) (en T i j-q):=by
 have I:β*k<=(β+1)*k:=tS _ (by lia);constructor
 ·have:=(h.2 i j).Cu F (N:=α+(β+1)*k+β) (by lia) (by lia)
  exact this.mono (by rw[qv];lia) (by rw[qv];lia)
 ·have:=(h.2 i j).Dz F (N:=α+(β+1)*k+β) (by lia) (by lia)
  exact this.mono (by rw[qv];lia) (by rw[qv];lia)
theorem Gu.step(h:Gu n α β k T){r:AK}(h1:r.1<n)(h2:r.2.1<n)(F:Sb α β r.2.2):Gu n α β (k+1) (Co T r):=by
 obtain⟨a,b⟩:=SH h.1 h1 h2;refine⟨a,λi j=>?_⟩;rw[b];have o:=h.Ah F i j;rcases fh F i j with e|e|e
 ·rw[e,tM];exact(h.2 i j).mono (by rw[qv];lia) (by rw[qv];lia)
 ·rw[e];exact o.1
 ·rw[e,<-Rat.sub_eq_add_neg];exact o.2
theorem gH(F:Aq K "ease_table" "ease_table" sEaseTable f fd)(G1:Ad P w K mg base 3 "plus" ["one","other"] (Cg λx y=>x+y))(G2:Ad P w K mg base 3 "minus" ["one","other"] (Cg λx y=>x-y))(mr:mg "range" = none)(mt:mg "tuple" = none):
  Am P w K mg base Aw 4 f fd ["net"] N9:=by
 refine F.BD ML λii A _ s H vs Q E hr h=>?_
 obtain⟨a,n,α,β,rs,rfl,⟨ra,tv,ha,bs,am,ak⟩,hn,hm,a5,z1,z2,q⟩:=h;exists _,AN (Jk (i:=1) ML.nd rfl (p8 rfl) (Nc:=["place","net"]) (cap:=[(1,0)]) (g:=BU 0) (te:=Bh XE (XC (BP (Kg (BP (tC (.int 0)) (BP (tC (.int 1)) CH))) CH)) (Bh (Fg []) (Al 1) (tC (.int 0)))) rfl (Hu (by rfl) mr (AA (A6 Bk (pv 0) AB) AD))
   Cn
   (λ_ _ _ _ _=>B9 (i:=0) lL rfl (p8 rfl)) (λ_ _ _ _ _=>AL iN (DB (AA (Bl (AA AB (AA AB AD))) AD)) (A6 Bk (pv 1) AB)))
  (AN (CS oB rfl (D9 (A6 Bk (pv 0) AB)) (Dp rfl (Bf (BL 2 ML) (Bf (BL 3 ML) (Bf (BL 4 ML) Dj))))
   (AX (Bq (Bb HP (pv 2) (pv 3))
    (AN (Ed (AZ G1 (AA (A6 CJ (A6 CJ (pv 1) (pv 2)) (pv 2)) (AA (pv 4) AD))) (IG (A6 CJ (pv 1) (pv 2)) (pv 2) IA))
    (AN (Ed (AZ G1 (AA (A6 CJ (A6 CJ (pv 1) (pv 3)) (pv 3)) (AA (pv 4) AD))) (IG (A6 CJ (pv 1) (pv 3)) (pv 3) IA))
    (AN (Ed (AZ G2 (AA (A6 CJ (A6 CJ (pv 1) (pv 2)) (pv 3)) (AA (pv 4) AD))) (IG (A6 CJ (pv 1) (pv 2)) (pv 3) IA))
    (AX (Ed (AZ G2 (AA (A6 CJ (A6 CJ (pv 1) (pv 3)) (pv 2)) (AA (pv 4) AD))) (IG (A6 CJ (pv 1) (pv 3)) (pv 2) IA)))))) By)))
  (AX (Ar (FF GQ (by rfl) mt Et (AA (Dk (Nc:=["row"]) (cap:=[]) (g:=BU 0) (te:=Kz (iS []) (BP (Al 0) CH)) rfl (FX (pv 1))
   Cn (λ_ _ _ _ _=>B9 (i:=0) OP rfl (p8 rfl)) (λ_ _ _ _ _=>FF GQ (by rfl) mt Et (AA (pv 0) AD))) AD)))))
 have ao:∀x y z:V,Bt [x,y,z] 0=some x:=λx y z=>Be (j:=0) rfl
 have au:∀x y z:V,Bt [x,y,z] 1=some y:=λx y z=>Be (j:=1) rfl
 refine⟨_,U,a,_,_,_,U,U,AJ.of ha,ao _ _ _,((n:Nat):Int),U,by lia,by lia,λaa aq=>?_⟩;rw[show((n:Nat):Int).toNat=n by lia];refine Cy Pj (by lia) aq (λi ys σ hp=>∃ds:List Addr,ys=ds.map V.ref/\At LF hp ds (nQ i (nQ n 0))/\ds.Nodup/\(∀d∈ds,H d=none)/\∃u,σ=[u,some (.ref a)]) ⟨[],U,At.nil,by simp,by simp,none,U⟩ ?_ ?_
 ·rintro i ys σ H2 x H3 hi sm ac ⟨ds,rfl,hD,nd,fr,u,rfl⟩ ⟨rfl,rfl⟩ Cc hC;refine⟨by exact CQ,λt ht=>⟨by exact IY,λl hl=>?_⟩⟩;obtain⟨H4,zg,s1,zz⟩:=nw ht (.AG [.int 0,.int 1]);rw[zg]at hl ⊢;have e1:AU H4 t 0:=zz;refine EK hl (.AE [.ref t]) λH5 s2 e2=>?_
  have ab:=s1.trans s2;refine⟨_,U,a,_,_,_,U,U,AJ.of (ab _ _ (sm _ _ ha)),ao _ _ _,l,((n:Nat):Int),[.ref t],U,U,e2,by lia,by lia,by simp;exact Gd (by lia),λp hp=>?_⟩;rw[show((n:Nat):Int).toNat=n by lia];rw[dN];have I:=Ae hp (.AE ((nQ n t).map V.ref));have ah:=ab.trans I;have ax:p≠aa:=λz=>by rw[z,ab _ _ ac]at hp;cases hp
  have pf:H p=none:=(sm.trans ab).free hp;refine hC _ _ _ ah ⟨ds++[p],by simp,?_,?_,?_,_,U⟩
  ·rw[u0];refine(hD.keep OO (EO aa ah)).snoc (Vo ⟨nQ n t,AY,⟨by simp,λk c y e3 e4=>?_⟩⟩ ax (ah _ _ ac));rw[tf]at e3 e4;split at e3
   ·rename_i O
    rw[nF O]at e4;cases e3;cases e4;exact Ao (s2.trans I) e1
   ·cases e3
  ·rw[pP];refine⟨nd,by simp,λx hx y hy z=>?_⟩;rw[nU]at hy;subst hy;subst z;obtain⟨k,O,ek⟩:=om hx;have ad:k<(nQ i (nQ n (0:Rat))).length:=by rw[<-hD.1];exact O
   obtain⟨cs,h1,_⟩:=hD.2 k x _ (by rw[nh O,ek]) (nh ad)
   have:=ab _ _ (D8 _ _ _ _ h1)
   rw[this]at hp;cases hp
  ·intro d aw;rcases nM.mp aw with h'|h'
   ·exact fr d h'
   ·rw[nU]at h';rw[h'];exact pf
 rintro ys σ1 H2 s2 ac ad ⟨ds,rfl,hD,nd,fr,u,rfl⟩;have M0:Fh H2 aa ds (Eh n):=by
  refine⟨ac,hD.keep OO (D8 H2 aa),pj.mpr ⟨λz=>?_,nd⟩⟩;obtain⟨k,O,ek⟩:=om z;have ad:k<(nQ n (nQ n (0:Rat))).length:=by rw[<-hD.1];exact O
  obtain⟨cs,h1,_⟩:=hD.2 k aa _ (by rw[nh O,ek]) (nh ad);rw[Iu]at h1;cases h1
 have ae:∀b∈ds,H b=none:=fr
 try dsimp only
 try refine Jt ?_
 first|refine Jw λaz al=>?_|refine nx_hide λaz al=>?_
 exists _,U,a,_,_,_,U,U,AJ.of (s2 _ _ ha),au _ _ _,ra,U,⟨_,AJ.of (s2 _ _ am)⟩;refine JC (xs:=bs.map V.ref) (λk σ H3=>AM H H3/\(∃u2 u3 u4,σ=[some (.ref a),some (.ref aa),u2,u3,u4])/\Fh H3 aa ds ((rs.take k).foldl Co (Eh n))/\Gu n α β k ((rs.take k).foldl Co (Eh n)))
  ⟨s2,⟨none,none,none,U⟩,M0,Gu.zero n α β⟩ (λk σ H3 _ ⟨I,_⟩=>AJ.of (I _ _ am)) ?_ ?_
 ·rintro k x σ H3 hx ⟨I,⟨u2,u3,u4,rfl⟩,M,ts⟩;obtain⟨c,r,rfl,_,ag,e,hc,he⟩:=ak.ref hx;have rm:r∈rs:=ny ag;obtain⟨J,r2,rq⟩:=a5 r rm;have O:k<rs.length:=(nj.mp ag).1;have aj:=ts.step J r2 rq;rw[C8 ag,v9];show IS [] 3 _ _ _ _ _;exists c,_,U,AJ.of (I _ _ hc),U,_,_,U,_,_,U,_,_,U,rfl;have a9:∀(T':List (List Rat)),T'=Co ((rs.take k).foldl Co (Eh n)) r->uB Co (uB Co (Eh n) (List.take k rs)) [r]=T':=λT' h=>h.symm
  exists _,U,_,U,U,_,rfl;generalize hT:(rs.take k).foldl Co (Eh n)=T at M ts aj;have bb:(β+1)*(k+1)<=(β+1)*rs.length:=pZ _ O;have a8:β*(k+1)<=β*rs.length:=pZ _ O;have a6:β*rs.length+rs.length=(β+1)*rs.length:=by rw[vE,sJ]
  have up:∀{x:Rat},Sb (α+(β+1)*(k+1)) (β*(k+1)) x->Sf x:=λh=>h.mono (by lia) (by lia)
  have lo:∀i j,Sf (en T i j):=λi j=>up ((ts.2 i j).mono (by rw[qv];lia) (by rw[qv];lia))
  have sq:Sf r.2.2:=by
   have ba:β<=β*rs.length:=rT _ (by lia);exact rq.mono (by lia) (by lia)
  by_cases eq:r.1=r.2.1
  ·refine E3 (iv (by rw[eq])) ⟨I,⟨_,_,_,U⟩,?_,?_⟩
   ·have:uB Co T [r]=T:=by show Co T r=T;unfold Co;rw[nF eq]
    rw[this];exact M
   ·show Gu n α β (k+1) (Co T r);exact aj
  ·refine KW (Fi (by lia)) ?_;have af:=ts.1;refine Nx (i:=r.1) (j:=r.1) (a:=2) (b:=2) (op:=λx y=>x+y) rfl rfl rfl rfl M af J J (I _ _ he) (lo _ _) sq I ae λH4 s4 M4 f4=>?_
   have q1:=af.set (j:=r.1) (v:=en T r.1 r.1+r.2.2) J;have e1:=Iy af (v:=en T r.1 r.1+r.2.2) J J;generalize a1:DM T r.1 r.1 (en T r.1 r.1+r.2.2)=T1 at M4 q1 e1;have g1:en T1 r.2.1 r.2.1=en T r.2.1 r.2.1:=by rw[e1,nv (λz=>eq z.1.symm)]
   refine Nx (i:=r.2.1) (j:=r.2.1) (a:=3) (b:=3) (op:=λx y=>x+y) rfl rfl rfl rfl M4 q1 r2 r2 f4 (by rw[g1];exact lo _ _) sq s4 ae λH5 s5 M5 f5=>?_
   have q2:=q1.set (j:=r.2.1) (v:=en T1 r.2.1 r.2.1+r.2.2) r2;have e2:=Iy q1 (v:=en T1 r.2.1 r.2.1+r.2.2) r2 r2;generalize ay:DM T1 r.2.1 r.2.1 (en T1 r.2.1 r.2.1+r.2.2)=T2 at M5 q2 e2;have g2:en T2 r.1 r.2.1=en T r.1 r.2.1:=by rw[e2,nv (λz=>eq z.1),e1,nv (λz=>eq z.2.symm)]
   refine Nx (i:=r.1) (j:=r.2.1) (a:=2) (b:=3) (op:=λx y=>x-y) rfl rfl rfl rfl M5 q2 J r2 f5 (by rw[g2];exact lo _ _) sq s5 ae λH6 s6 M6 f6=>?_
   have q3:=q2.set (j:=r.2.1) (v:=en T2 r.1 r.2.1-r.2.2) J;have e3:=Iy q2 (v:=en T2 r.1 r.2.1-r.2.2) J r2;generalize a4:DM T2 r.1 r.2.1 (en T2 r.1 r.2.1-r.2.2)=T3 at M6 q3 e3;have g3:en T3 r.2.1 r.1=en T r.2.1 r.1:=by rw[e3,nv (λz=>eq z.1.symm),e2,nv (λz=>eq z.2),e1,nv (λz=>eq z.1.symm)]
   refine Nx (i:=r.2.1) (j:=r.1) (a:=3) (b:=2) (op:=λx y=>x-y) rfl rfl rfl rfl M6 q3 r2 J f6 (by rw[g3];exact lo _ _) sq s6 ae λH7 s7 M7 f7=>?_
   refine⟨s7,⟨_,_,_,U⟩,?_,aj⟩
   have:uB Co T [r]=DM T3 r.2.1 r.1 (en T3 r.2.1 r.1-r.2.2):=by
    show Co T r=_;unfold Co;rw[nv eq];simp only[a1,ay,a4]
   rw[this];exact M7
 ·rintro σ H3 ⟨I,⟨u2,u3,u4,rfl⟩,M,ts⟩;subst al;rw[nc,ak.1,oW]at M ts;have a3:ds.length=n:=by rw[hD.1];simp
  refine⟨_,U,aa,U,⟨_,AR.of M.h1⟩,λai a0=>?_⟩;refine Cy (Iw M.h1) (by rw[nc];lia) a0 (λi ys σ hp=>∃gs:List Addr,ys=gs.map V.ref/\At (A4 AU) hp gs ((rs.foldl Co (Eh n)).take i)/\∃u,σ=[u]) ⟨[],U,At.nil,none,U⟩ ?_ ?_
  ·rintro i ys σ H4 x H5 hi s4 ar ⟨gs,rfl,hG,u,rfl⟩ ⟨rfl,hx⟩ Cc hC;obtain⟨b,row,rfl,_,hy,cs,hB,av⟩:=M.Ci.ref hx;have ap:=s4 _ _ hB;refine⟨_,U,b,_,U,.inl ⟨AR.of ap,λp hp=>?_⟩⟩;have sp:=Ae hp (.AG (cs.map V.ref));refine hC _ _ _ sp ⟨gs++[p],by simp,?_,_,U⟩;rw[C8 hy];exact(hG.keep E1 (EO ai sp)).snoc (RM ⟨cs,AY,av.keep Ao (s4.trans sp)⟩ (sp _ _ ar))
  ·rintro ys σ H4 s4 a2 a7 ⟨gs,rfl,hG,u,rfl⟩;rw[nc,a3,ou (by rw[ts.1.len];exact nG _)]at hG;refine⟨ai,_,U,.inl ⟨AR.of a2,λp hp=>?_⟩⟩;have sp:=Ae hp (.AG (gs.map V.ref));exact q p _ ((I.trans s4).trans sp) ⟨gs,AY,(hG.keep E1 (D8 H4 ai)).keep E1 sp⟩
structure HB(n m α β:Nat):Prop where
 Gj:n<=13
 MS:m<=16
 bd:(8+β*m+α)*n+β*m+α+20<=3900
structure CI(n m α β:Nat)(rs:List AK):Prop where
 hb:HB n m α β
 len:rs.length<=m
 BH:∀r∈rs,r.1<n+2/\r.2.1<n+2/\Sb α β r.2.2
 pos:∀r∈rs,0<r.2.2
 Cs:GY (n+2) rs
theorem CI.Bn(k:CI n m α β rs):∀r∈rs,r.1<n+2/\r.2.1<n+2:=λr F=>⟨(k.BH r F).1,(k.BH r F).2.1⟩
theorem CI.den(k:CI n m α β rs):BR rs<=2 ^ (β*m) :=
 oa (Le λr F=>(k.BH r F).2.2.2) (oQ (by decide) (pZ _ k.len))
def Dr(n:Nat)(rs:List AK):List (List Rat):=CM (Dg (BB (n+2) rs)) (Ft (BB (n+2) rs))
theorem CI.row(k:CI n m α β rs)(hy:y∈Dr n rs):y.length=n+1/\∀q∈y,BG ((BR rs:Nat)*q)/\Vb (α+4) q:=by
 have F:=(FL k.Bn).1;obtain⟨i,hi,e⟩:=om hy;have I:i<n:=by
  have:i<(Dr n rs).length:=hi
  unfold Dr CM at this;rw[yg,(HE F).1]at this
  lia
 have J:(Dr n rs)[i]?=some ((((BB (n+2) rs).getD (i+2) []).drop 2)++[0-en (BB (n+2) rs) (i+2) 0]):=by
  unfold Dr CM;rw[tF,Nb F I,S3 F I]
 rw[nh hi,e]at J;cases J;have rl:=(F.row (i:=i+2) (by lia)).1;have O:rs.length<=16:=oa k.len k.hb.MS;refine⟨by rw[nO,o6,rl];simp,λq hq=>?_⟩;rcases nM.mp hq with h|h
 ·have h:=qy h;obtain⟨j,hj,ej⟩:=om h
  have:q=en (BB (n+2) rs) (i+2) j:=by unfold en;rw[nq (l:=(BB (n+2) rs).getD (i+2) []),nh hj,ej];rfl
  rw[this];exact Lk k.BH O _ _
 ·rw[nU]at h;rw[h];obtain⟨a,b⟩:=Lk k.BH O (i+2) 0;constructor
  ·have:=a.Gm
   rwa [show -((BR rs:Nat)*en (BB (n+2) rs) (i+2) 0)=(BR rs:Nat)*(0-en (BB (n+2) rs) (i+2) 0) by grind]at this
  ·have:=Ab.Gm b
   rwa [show -1*en (BB (n+2) rs) (i+2) 0=0-en (BB (n+2) rs) (i+2) 0 by grind]at this
theorem CI.Xc(k:CI n m α β rs)(I:y∈Dr n rs):∀q∈y,(q.den:Int) ∣ (BR rs:Int):=λq J=>by
 obtain⟨c,F⟩:=((k.row I).2 q J).1;exact UZ (k:=c) (by rw[ic];exact F)
theorem CI.tk(k:CI n m α β rs):TK n (n+1) (β*m) (β*m+(α+4)) (β*m) (Dr n rs):=by
 have sq:=(FL k.Bn).1;have hd:=k.den;have pd:(0:Int)<(BR rs:Int):=by have:=Fp rs;lia
 have J:∀r∈Dr n rs,(cb r).natAbs<=2 ^ (β*m):=λr F=>oa (We pd (k.Xc F)) (by rw[oj];exact hd)
 have O:∀r∈Dr n rs,∀q∈r,q.den<=2 ^ (β*m):=λr F q I=>oa (uN (Fp rs) (by exact_mod_cast k.Xc F q I)) hd
 have b:=k.hb.bd;generalize β*m=s at *;have e1:(8+s+α)*n=8*n+s*n+α*n:=by rw[vE,vE]
 rw[e1]at b;have aa:=k.hb.Gj;exists ?_,λr F=>(k.row F).1,by lia,by lia,O,λr F q I=>?_,J,λr F q I=>?_,?_,by lia  
 ·unfold Dr CM;rw[yg,(HE sq).1,Pg sq];lia
 ·have h1:=OK (b:=(q.den:Int)) (D:=s) (yq _) ((k.row F).2 q I).2 (by rw[oj];exact O r F q I)
  have:wh (q.den:Int) q=q.num:=by
   unfold wh;rw[aai (by have:=q.den_nz;lia),zo]
  rw[this]at h1;exact EE h1 (by lia)
 ·exact OK ((OF r).2 q I) ((k.row F).2 q I).2 (J r F)
 ·have:(4+(s+(α+4)))*n=8*n+s*n+α*n:=by rw[<-e1];congr 1;lia
  lia
 ·have:s*(n+1)=s*n+s:=qv _ _
  lia
theorem CI.ne(k:CI n m α β rs):dt n (n+1) (Dr n rs)≠0:=by
 have I:=(FL k.Bn).1;have c:=HE I;unfold Dr CM;rw[dC c.1 (Pg I) c.2];exact jW (λr F=>⟨(k.BH r F).1,(k.BH r F).2.1,k.pos r F⟩) k.Cs
structure Ep(n B:Nat)(rs:List AK)(X:Nat->Rat):Prop where
 x0:X 0=1
 x1:X 1=0
 Ia:∀i,2<=i->i<n+2->Aj X rs i=0
 wh:∃W:Int,W≠0/\W.natAbs<=2 ^ B/\∀j,j<n+2->∃k:Int,(W:Rat)*X j=k/\k.natAbs<=2 ^ B
theorem CI.mL(k:CI n m α β rs)(hx:∀y∈Dr n rs,fx n x (vq y)=0):Ep n ((8+β*m+α)*n) rs (Lw 1 0 x):=by
 have tk:=k.tk;have aa:=k.hb.Gj;exists rfl,U,kQ k.Bn hx;have sc:=Ml (n:=n) (m:=n+1) (Dr n rs) cb (λr F=>(tk.D2 F).2.1);have pp:C1 ((Dr n rs).map cb)≠0:=by
  have:=(NG (d:=β*m) ((Dr n rs).map cb) (λb hb=>by
   obtain⟨r,F,rfl⟩:=nS.mp hb;exact⟨(tk.D2 F).1,(tk.D2 F).2.2⟩)).1
  lia
 obtain⟨W,w0,O,wx⟩:=ip (n:=n) (E:=β*m+(α+4)) (A:=(C6 (Dr n rs)).map vr) (x:=x) (by unfold C6;rw[nc,nc];exact tk.len) (by lia)
  (λa I j=>by obtain⟨r,_,rfl⟩:=nS.mp I;exact BG.of _)
  (λa I j=>by
   obtain⟨r,F,rfl⟩:=nS.mp I;exact HH (To ((tk.MX r F).2) j))
  (λa I=>by
   obtain⟨r,F,rfl⟩:=nS.mp I;unfold C6 at F;obtain⟨y,J,rfl⟩:=nS.mp F;rw[RF (tk.D2 J).2.1];have c0:((cb y:Int):Rat)≠0:=by
    have:cb y≠0:=by have:=(tk.D2 J).1;lia
    exact_mod_cast this
   exact(UA c0).mpr (hx y J))
  (by
   unfold C6;rw[sc];intro z;rcases rB.mp z with h|h
   ·exact pp (by exact_mod_cast h)
   ·exact k.ne h)
 have eB:(4+(β*m+(α+4)))*n=(8+β*m+α)*n:=by congr 1;lia
 rw[eB]at O wx;refine⟨W,w0,O,λj hj=>?_⟩
 match j,hj with
 |0,_=>exact⟨W,by show(W:Rat)*1=W;grind,O⟩
 |1,_=>exact⟨0,by show(W:Rat)*0=0;grind,by simp⟩
 |j+2,hj=>exact wx j (by lia)
theorem Ob(h:2<=n):HT.Ax n 0 (some 2)=2:=by simp[HT.Ax];lia
inductive Qy(F:List V)(H:Hp)(Q:VK)(_:XK):Prop
 |mk (a:Addr) (T:List (List Rat)) (n:Nat) (O:F=[.ref a]) (I:A4 (A4 AU) H a T) (aa:Sq (n+2) T) (ab:n<=100) (J:∀p H',AM H H'->A4 (A4 AU) H' p (Dg T)->Q (.ref p) H')
theorem lC:Az ["table"] ["table"] (Ak sPoleless):=A9
theorem dJ(F:Aq K "poleless" "poleless" sPoleless f fd)(mt:mg "tuple" = none):Am P w K mg base Aw 1 f fd ["table"] Qy:=by
 refine F.BD lC λii A _ s H vs Q E hr h=>?_
 obtain⟨a,T,n,rfl,⟨bs,ha,O⟩,I,hn,q⟩:=h;exists _,AX (Ar (FF GQ (by rfl) mt Et (AA (Dk (Nc:=["row"]) (cap:=[]) (g:=BU 0) (te:=MQ (Gh []) (Al 0) (L5 (tC (.int 2))) LY) rfl (D9 (Eu Ik (pv 0) (Ea AB) FO))
   Cn (λ_ _ _ _ _=>B9 (i:=0) OP rfl (p8 rfl)) (λ_ _ _ _ _=>Eu Ik (pv 0) (Ea AB) FO)) AD)))
 have lb:bs.length=n+2:=by rw[O.1];exact I.len
 refine⟨_,U,2,U,a,_,U,AJ.of ha,λz=>?_,λp0 af=>?_⟩
 ·have:=z.1
  rw[Ob (by rw[nc];lia)]at this;cases this
 rw[show De (bs.map V.ref) (some 2) none=(bs.drop 2).map V.ref by rw[show(some (2:Int))=some ((2:Nat):Int) from rfl,Js _ (by rw[nc];lia),tZ]];refine EK af (.AG ((bs.drop 2).map V.ref)) λH1 s0 h0=>?_
 have ag:=(O.keep E1 s0).drop 2;refine⟨p0,U,⟨_,AJ.of h0⟩,λJ ab=>?_⟩;refine Cy (HG h0) (by rw[nc,o6];lia) ab (λi ys σ hp=>∃ds:List Addr,ys=ds.map V.ref/\At (A4 AU) hp ds ((Dg T).take i)/\∃u,σ=[u]) ⟨[],U,At.nil,none,U⟩ ?_ ?_
 ·rintro i ys σ H2 x H3 hi sm ac ⟨ds,rfl,hD,u,rfl⟩ ⟨rfl,hx⟩ Cc hC;obtain⟨b,row,rfl,_,hy,cs,hB,aa⟩:=ag.ref hx;have ad:=sm _ _ hB;have rl:row.length=n+2:=I.EY row (qy (ny hy));have cl:cs.length=n+2:=by rw[aa.1];exact rl
  refine⟨_,U,2,U,b,_,U,AJ.of ad,λz=>?_,λp hp=>?_⟩
  ·have:=z.1
   rw[Ob (by rw[nc];lia)]at this;cases this
  rw[show De (cs.map V.ref) (some 2) none=(cs.drop 2).map V.ref by rw[show(some (2:Int))=some ((2:Nat):Int) from rfl,Js _ (by rw[nc];lia),tZ]];have sp:=Ae hp (.AG ((cs.drop 2).map V.ref));refine hC _ _ _ sp ⟨ds++[p],by simp,?_,_,U⟩;have ec:(Dg T)[i]?=some (row.drop 2):=by unfold Dg;rw[nJ,hy];rfl
  rw[C8 ec];exact(hD.keep E1 (EO J sp)).snoc (RM ⟨cs.drop 2,AY,(aa.keep Ao (sm.trans sp)).drop 2⟩ (sp _ _ ac))
 ·rintro ys σ H4 s4 ae ah ⟨gs,rfl,hG,u,rfl⟩;rw[nc,o6,ou (by rw[(HE I).1];lia)]at hG;refine⟨J,_,U,.inl ⟨AR.of ae,λp hp=>?_⟩⟩;have sp:=Ae hp (.AG (gs.map V.ref));exact q p _ ((s0.trans s4).trans sp) ⟨gs,AY,(hG.keep E1 (D8 H4 J)).keep E1 sp⟩
theorem Fo{W k:Int}{a:Nat}(F:W≠0)(e:(W:Rat)*q=k)(h1:k.natAbs<=2 ^ b)(h2:W.natAbs<=2 ^ a):Sb b a q:=by
 refine KY F h1 h2 ?_;rw[FI k W F];have I:(W:Rat)≠0:=by exact_mod_cast F
 have:(k:Rat) / (W:Rat)=q:=by
  rw[<-e,sd];rw[Rat.div_def,vV,yL _ I,zt]
 rw[this];rfl
theorem OL(m0:0<M)(hi:BG ((M:Nat)*q))(F:M<=2 ^ D)(O:Vb v q):Sb (D+v) D q:=by
 obtain⟨k,I⟩:=hi;have J:Ab ((2 ^ D:Nat):Rat) ((M:Nat):Rat):=HH (x:=(M:Int)) (by rw[oj];exact F)
 have:=J.D0 O
 rw[I,<-Rat.natCast_mul,<-Nat.pow_add]at this;exact Fo (W:=(M:Int)) (by lia) (by rw[ic];exact I) (FQ this) (by rw[oj];exact F)
theorem CI.sf(k:CI n m α β rs)(i j:Nat):Sf (en (BB (n+2) rs) i j):=by
 obtain⟨a,b⟩:=Lk k.BH (oa k.len k.hb.MS) i j
 have:=k.hb.bd
 exact(OL (Fp rs) a k.den b).mono (by omega) (by omega)
theorem m3:Sf 0:=Sb.zero.mono (pJ _) (pJ _)
theorem YQ(n:Nat)(x:Nat->Rat):(nz (n+2)).map (Lw 1 0 x)=1 :: 0 :: (nz n).map x:=by
 rw[qC,qC];simp[pC];exact⟨U,U,λ_ _=>rfl⟩
inductive ON(F:List V)(H:Hp)(Q:VK)(_:XK):Prop
 |mk (a:Addr) (n m α β:Nat) (rs:List AK) (J:F=[.ref a]) (I:EJ H a (n+2) rs) (O:CI n m α β rs) (aa:∀p H' X,AM H H'->Ep n ((8+β*m+α)*n) rs X->A4 AU H' p ((nz (n+2)).map X)->Q (.ref p) H')
theorem Rg:Az ["net","table","right"] ["net"] (Ak sHeights):=A9
theorem YU (F:Aq K "heights" "heights" sHeights f fd)(G1:Ad P w K mg base 4 "ease_table" ["net"] N9)
  (G2:Ad P w K mg base 3 "minus" ["one","other"] (Cg λx y=>x-y))
  (G3:Ad P w K mg base 1 "poleless" ["table"] Qy)
  (G4:Ad P w K mg base 4 "answer" ["table","right"] (TL C2))(mt:mg "tuple" = none) :
  Am P w K mg base Aw 5 f fd ["net"] ON:=by
 refine F.BD Rg λii A _ s H vs Q E hr h=>?_
 obtain⟨a,n,m,α,β,rs,rfl,hN,k,q⟩:=h;exists _,AN (Aa 1 Rg (AZ G1 (AA (pv 0) AD)))
  (AN (Aa 2 Rg (FF GQ (by rfl) mt Et (AA (Dk (Nc:=["row"]) (cap:=[]) (g:=BU 0) (te:=EA (Cg λx y=>x-y) [] E0 (BP (Kg (BP (tC (.int 0)) (BP (tC (.int 1)) CH))) (BP (Bh (Fg []) (Al 0) (tC (.int 0))) CH))) rfl (D9 (Eu Ik (pv 1) (Ea AB) FO))
   Cn (λ_ _ _ _ _=>B9 (i:=0) OP rfl (p8 rfl)) (λ_ _ _ _ _=>AZ G2 (AA (Bl (AA AB (AA AB AD))) (AA (A6 Bk (pv 0) AB) AD)))) AD)))
  (AX (Ar (AL LZ (Bl (AA (Bl (AA AB (AA AB AD))) (AA (Bl (AA AB (AA AB AD))) AD)))
   (AZ G4 (AA (AZ G3 (AA (pv 1) AD)) (AA (pv 2) AD)))))))
 have a7:rs.length<=16:=oa k.len k.hb.MS;have a5:=k.hb.Gj;have bd:=k.hb.bd;have bl:β*rs.length<=β*m:=pZ _ k.len;have a6:(β+1)*rs.length=β*rs.length+rs.length:=by rw[vE,sJ]
 have O:=(FL k.Bn).1;have a0:=k.sf;refine⟨_,U,a,n+2,α,β,rs,U,hN,by lia,by lia,k.BH,by lia,by lia,λt H1 s1 hT=>?_⟩;have ht:=(HE O);have ai:=Pg O;obtain⟨bs,ha,hA⟩:=hT;have lb:bs.length=n+2:=by rw[hA.1];exact O.len
 refine⟨_,U,2,U,t,_,U,AJ.of ha,λz=>?_,λp0 ao=>?_⟩
 ·have:=z.1
  rw[Ob (by rw[nc];lia)]at this;cases this
 rw[show De (bs.map V.ref) (some 2) none=(bs.drop 2).map V.ref by rw[show(some (2:Int))=some ((2:Nat):Int) from rfl,Js _ (by rw[nc];lia),tZ]];refine EK ao (.AG ((bs.drop 2).map V.ref)) λH2 s0 h0=>?_
 have ap:=(hA.keep E1 s0).drop 2;refine⟨p0,U,⟨_,AJ.of h0⟩,λae ar=>?_⟩;refine Cy (HG h0) (by rw[nc,o6];lia) ar (λi ys σ hp=>∃ds:List Addr,ys=ds.map V.ref/\At AU hp ds ((Ft (BB (n+2) rs)).take i)/\∃u,σ=[u]) ⟨[],U,At.nil,none,U⟩ ?_ ?_
 ·rintro i ys σ H3 x H4 hi sm al ⟨ds,rfl,hD,u,rfl⟩ ⟨rfl,hx⟩ Cc hC;obtain⟨b,row,rfl,_,hy,cs,hB,au⟩:=ap.ref hx;have am:=sm _ _ hB;have rl:row.length=n+2:=O.EY row (qy (ny hy));have er:row[0]?=some (row.getD 0 0):=by rw[nq,nh (by lia)];rfl
  obtain⟨c,hc,aq⟩:=au.BZ er;have i':i<n:=by
   have:i<(bs.drop 2).length:=by rw[nc]at hi;exact hi
   rw[o6]at this;lia
  have ax:row=(BB (n+2) rs).getD (i+2) []:=by
   rw[rL,r8 2 i,(O.row (i:=i+2) (by lia)).2]at hy;exact(nV hy).symm
  refine⟨by exact CQ,λz hz=>?_⟩;refine EK hz (.AG [.int 0,.int 1]) λH5 sz zz=>?_
  have ez:AU H5 z 0:=zz;refine⟨_,U,b,_,_,_,U,U,AJ.of (sz _ _ am),Be (j:=0) (CW hc),z,c,0,row.getD 0 0,U,ez,sz _ _ (sm _ _ aq),m3,by rw[ax];exact a0 (i+2) 0,λp hp=>?_⟩;have sp:=Ae hp (.AG [.int (0-row.getD 0 0).num,.int (0-row.getD 0 0).den]);have ac:=sz.trans sp;refine hC _ _ _ ac ⟨ds++[p],by simp,?_,_,U⟩;have ec:(Ft (BB (n+2) rs))[i]?=some (0-row.getD 0 0):=by unfold Ft;rw[nJ,hy];rfl
  rw[C8 ec];exact(hD.keep Ao (EO ae ac)).snoc (AU.BW (q:=0-row.getD 0 0) AY (ac _ _ al))
 ·rintro ys σ H4 s4 a2 a4 ⟨gs,rfl,hG,u,rfl⟩;rw[nc,o6,ou (by rw[ai];lia)]at hG;refine⟨ae,_,U,.inl ⟨AR.of a2,λrt az=>?_⟩⟩;have s5:=Ae az (.AG (gs.map V.ref));have hR:A4 AU (AF H4 rt (.AG (gs.map V.ref))) rt (Ft (BB (n+2) rs)):=⟨gs,AY,(hG.keep Ao (D8 H4 ae)).keep Ao s5⟩;generalize AF H4 rt (.AG (gs.map V.ref))=H5 at s5 hR;have ay:=(s0.trans s4).trans s5;refine⟨by exact CQ,λI av=>⟨by exact CQ,λJ ah=>⟨by exact CQ,λz3 ad=>?_⟩⟩⟩;obtain⟨H6,zg,t1,zz⟩:=nw av (.AG [.int 1,.int 1]);rw[zg]at ah ad ⊢;have e1:AU H6 I 1:=zz;obtain⟨H7,zg,t2,zz⟩:=nw ah (.AG [.int 0,.int 1]);rw[zg]at ad ⊢;have e2:AU H7 J 0:=zz;refine EK ad (.AG [.ref I,.ref J]) λH8 t3 e3=>?_
  have ab:=ay.trans ((t1.trans t2).trans t3);refine⟨_,U,t,BB (n+2) rs,n,U,⟨bs,ab _ _ ha,hA.keep E1 ab⟩,O,by lia,λpt H9 s9 hP=>?_⟩;refine⟨_,U,pt,rt,Dg (BB (n+2) rs),Ft (BB (n+2) rs),n,_,_,_,U,hP,ES (R:=AU) (λs h=>Ao s h) (((t1.trans t2).trans t3).trans s9) hR,ht.1,ai,ht.2,k.tk,λz=>absurd z k.ne,λ_ pa aj x aw hx hX=>?_⟩;have ak:=k.mL hx;obtain⟨xs,a3,af⟩:=hX;have aa:=s9.trans aw;have ag:=(s1.trans ab).trans aa;have a1:At AU aj ([I,J]++xs) (1 :: 0 :: (nz n).map x):=by
   refine At.MV (xs:=[1,0]) (At.snoc (bs:=[I]) (xs:=[1]) (At.snoc (bs:=[]) (xs:=[]) At.nil ?_) ?_) af
   ·exact((t2.trans t3).trans aa) _ _ e1
   ·exact(t3.trans aa) _ _ e2
  rw[<-YQ]at a1;have lx:xs.length=n:=by rw[af.1];simp
  refine⟨z3,pa,[.ref I,.ref J],xs.map V.ref,U,U,AJ.of (aa _ _ e3),AJ.of a3,by simp,by rw[nc];exact Gd (by simp;lia),λz=>?_,λz p hp=>?_⟩
  ·have xe:xs=[]:=vn.mp z;subst xe;exact q z3 aj _ ag ak ⟨[I,J],aa _ _ e3,a1⟩
  ·have sp:=Ae hp (.AG ([.ref I,.ref J]++xs.map V.ref));exact q p _ _ (ag.trans sp) ak ⟨[I,J]++xs,by rw[AY];simp,a1.keep Ao sp⟩
theorem gP{t u:L2.TS}{D:Dd}{σ:L2.St}{G:L2.St->Hp->Prop}(m:∀U:L2.St->Hp->Prop,(∀σ H,G σ H->U σ H)->t { D with nx:=U} σ H)(r:∀σ H,G σ H->u D σ H):Kl t u D σ H:=m _ r
def Uw(Z:Int)(N c:Nat)(q:Rat):Prop:=∃k:Int,(Z:Rat)*q=k/\k.natAbs<=c*2 ^ N
theorem Uw.Cu(h:Uw Z N c p)(g:Uw Z N d q):Uw Z N (c+d) (p+q):=by
 obtain⟨k,h1,h2⟩:=h;obtain⟨l,F,I⟩:=g;refine⟨k+l,by rw[ue,<-h1,<-F];grind,?_⟩;rw[vE];exact oa (yZ _ _) (Nat.add_le_add h2 I)
theorem Uw.Gm(h:Uw Z N c p):Uw Z N c (-p):=by
 obtain⟨k,h1,h2⟩:=h;exact⟨-k,by rw[tq,<-h1];grind,by rw[vp];exact h2⟩
theorem Uw.Dz(h:Uw Z N c p)(g:Uw Z N d q):Uw Z N (c+d) (p-q):=by
 rw[Rat.sub_eq_add_neg];exact h.Cu g.Gm
theorem Uw.mono(h:Uw Z N c p)(e:c<=d):Uw Z N d p:=by
 obtain⟨k,h1,h2⟩:=h;exact⟨k,h1,oa h2 (tS _ e)⟩
theorem Uw.zero(Z:Int)(N:Nat):Uw Z N 0 0:=⟨0,by rw[yM];rfl,by simp⟩
theorem Uw.sf{q:Rat}(h:Uw Z N c q)(I:Z≠0){z:Nat}(F:Z.natAbs<=2 ^ z)(J:c<=64)(hN:N+6<=3900)(O:z<=3900:=by decide):Sf q:=by
 obtain⟨k,h1,h2⟩:=h;refine Fo I h1 (oa h2 ?_) (oa F (oQ (by decide) (by lia)))
 have:c*2 ^ N<=2 ^ (N+6):=by rw[t5,uo];exact pZ _ J
 exact oa this (oQ (by decide) (by lia))
structure MP(n:Nat)(rs:List AK)(X:Nat->Rat)(Z:Int)(N:Nat):Prop where
 z0:Z≠0
 zl:Z.natAbs<=2 ^ 3900
 nl:N+6<=3900
 hs:∀j,j<n+2->Sf (X j)
 fs:∀r∈rs,Sf (X r.1-X r.2.1)
 es:∀r∈rs,Sf r.2.2
 ru:∀r∈rs,Uw Z N 1 (Au X r)
theorem Ep.KR(k:CI n m α β rs)(h:Ep n ((8+β*m+α)*n) rs X):∃Z N,MP n rs X Z N:=by
 obtain⟨W,J,O,I⟩:=h.wh;have bd:=k.hb.bd;have bm:∀r∈rs,β<=β*m:=λr F=>by
  have:0<rs.length:=qL F
  have:=k.len
  exact rT _ (by lia)
 generalize (8+β*m+α)*n=B at *;have hd:=k.den;have hp:=Fp rs;have aa:∀r∈rs,∃c:Int,(W:Rat)*(X r.1-X r.2.1)=c/\c.natAbs<=2 ^ (B+1):=λr F=>by
  obtain⟨a1,a2,a3⟩:=k.BH r F;obtain⟨x,e1,l1⟩:=I _ a1;obtain⟨y,e2,l2⟩:=I _ a2;exists x-y,by rw[uf,<-e1,<-e2];grind
  have:=uI x y
  rw[r9];lia
 refine⟨W*(BR rs:Int),β*m+α+(B+1),qt J (by lia),?_,by lia,λj hj=>?_,λr F=>?_,λr F=>?_,λr F=>?_⟩
 ·rw[oE,oj];exact oa (B5 O hd) (oQ (by decide) (by lia))
 ·obtain⟨c,e,l⟩:=I j hj;exact(Fo J e l O).mono (by lia) (by lia)
 ·obtain⟨c,e,l⟩:=aa r F;exact(Fo J e l O).mono (by lia) (by lia)
 ·have:=bm r F
  exact(k.BH r F).2.2.mono (by lia) (by lia)
 ·obtain⟨c,e,l⟩:=aa r F;obtain⟨v,hv⟩:=Nl (LL F);exists v*c,?_
  ·rw[oo,oo,<-hv,<-e,ic];unfold Au;grind
  ·have ab:Ab ((2 ^ (β*m):Nat):Rat) ((BR rs:Nat):Rat):=HH (x:=(BR rs:Int)) (by rw[oj];exact hd);have vb:=ab.D0 (k.BH r F).2.2.vb;rw[hv,<-Rat.natCast_mul,<-Nat.pow_add]at vb;rw[oE,sJ];exact B5 (FQ vb) l
theorem MP.Ca(s:MP n rs X Z N)(i:Nat){r:AK}(F:r∈rs):Uw Z N 2 (Ca X i r):=by
 have h:=s.ru r F
 have:∀c:Prop,[Decidable c]->Uw Z N 1 (if c then Au X r else 0):=λc _=>by
  by_cases e:c
  ·rw[nF e];exact h
  ·rw[nv e];exact(Uw.zero Z N).mono (by lia)
 exact(this _).Dz (this _)
theorem Pm{r:AK}(e:rs[k]?=some r):Aj X (rs.take (k+1)) i=Aj X (rs.take k) i+Wd.Ca X i r:=by
 unfold Aj;rw[C8 e,nY,ud];simp only[nK,pE,ow,rF,tM]
theorem MP.sum(s:MP n rs X Z N)(i:Nat):∀k,k<=rs.length->Uw Z N (2*k) (Aj X (rs.take k) i):=by
 intro k
 induction k with
 |zero=>intro _;exact Uw.zero Z N
 |succ k ih =>
  intro F;have e:rs[k]?=some rs[k]:=nh F;rw[Pm e,qv];exact(ih (by lia)).Cu (s.Ca i (oK _))
theorem Jx(X:Nat->Rat)(h:i<n):((nz n).map X)[i]?=some (X i):=by
 rw[nJ,pY h];rfl
inductive K2(H:Hp)(b:Addr)(l:List Rat):Prop
 |l (h:ED AU H b l)
 |t (h:A4 AU H b l)
theorem Wk(s:AM H H'):K2 H b l->K2 H' b l
 |.l h=>.l (OA (R:=AU) (λs h=>Ao s h) s h)
 |.t h=>.t (ES (R:=AU) (λs h=>Ao s h) s h)
theorem K2.ix{l}(h:K2 H b l)(e:l[i]?=some q)(k:∀c,AU H c q->Q (.ref c) H):Gg [] (.ref b) (.int (i:Int)) H Q\/Fg [] (.ref b) (.int (i:Int)) H Q:=by
 rcases h with ⟨bs,J,I⟩|⟨bs,J,I⟩
 ·obtain⟨c,h1,F⟩:=I.BZ e;exact .inl ⟨b,_,_,_,U,U,AR.of J,Be (CW h1),k c F⟩
 ·obtain⟨c,h1,F⟩:=I.BZ e;exact .inr ⟨b,_,_,_,U,U,AJ.of J,Be (CW h1),k c F⟩
inductive OD(F:List V)(H:Hp)(Q:VK)(_:XK):Prop
 |mk (a b:Addr) (r:AK) (n:Nat) (X:Nat->Rat) (ab:F=[.ref a,.ref b]) (I:Bj H a r) (ac:K2 H b ((nz n).map X)) (ad:r.1<n) (O:r.2.1<n) (J:Sf (X r.1)) (aa:Sf (X r.2.1)) (ae:OZ H Q (X r.1-X r.2.1))
theorem lO:Az ["rope","levels"] ["rope","levels"] (Ak sFallOf):=A9
theorem fF(F:Aq K "fall_of" "fall_of" sFallOf f fd)(G:Ad P w K mg base 3 "minus" ["one","other"] (Cg λx y=>x-y)):
  Am P w K mg base Aw 4 f fd ["rope","levels"] OD:=by
 refine F.BD lO λii A _ s H vs Q E hr h=>?_
 obtain⟨a,b,r,n,X,rfl,⟨e,I,he⟩,J,r1,r2,s1,s2,q⟩:=h;exists _,AX (Ar (AZ G (AA (A6 (CJ.or Bk) (pv 1) (A6 Bk (pv 0) AB)) (AA (A6 (CJ.or Bk) (pv 1) (A6 Bk (pv 0) AB)) AD))));exact⟨_,U,_,U,a,_,_,_,U,U,AJ.of I,Fb _ _ _,J.ix (Jx X r1) λO g1=>⟨_,U,_,U,a,_,_,_,U,U,AJ.of I,EW _ _ _,J.ix (Jx X r2) λc2 g2=>⟨O,c2,_,_,U,g1,g2,s1,s2,q⟩⟩⟩
inductive NP(F:List V)(H:Hp)(Q:VK)(_:XK):Prop
 |mk (a b:Addr) (n:Nat) (rs:List AK) (X:Nat->Rat) (aa:F=[.ref a,.ref b]) (I:EJ H a n rs) (ab:K2 H b ((nz n).map X)) (ac:rs.length<=100) (O:(∀r∈rs,r.1<n/\r.2.1<n/\Sf (X r.1)/\Sf (X r.2.1)/\Sf (X r.1-X r.2.1)/\Sf r.2.2)) (J:∀p H',AM H H'->A4 AU H' p (rs.map (Au X))->Q (.ref p) H')
theorem kX:Az ["net","levels"] ["net","levels"] (Ak sRunBy):=A9
theorem lF:(["rope","levels"]:List Str).Nodup:=by decide +kernel
theorem Zv (F:Aq K "runnings_by" "runnings_by" sRunBy f fd)(G1:Ad P w K mg base 3 "times" ["one","other"] (Cg λx y=>x*y))
  (G2:Ad P w K mg base 4 "fall_of" ["rope","levels"] OD)(mt:mg "tuple" = none) :
  Am P w K mg base Aw 5 f fd ["net","levels"] NP:=by
 refine F.BD kX λii A _ s H vs Q E hr h=>?_
 obtain⟨a,b,n,rs,X,rfl,⟨ra,tv,ha,bs,ac,ab⟩,hL,hm,ai,q⟩:=h;exists _,AX (Ar (FF GQ (by rfl) mt Et (AA (Dk (Nc:=["rope","levels"]) (cap:=[(1,1)]) (g:=BU 0) (te:=EA (Cg λx y=>x*y) [] E0 (BP (Bh (Fg []) (Al 0) (tC (.int 2))) (BP (EA OD [] E0 (BP (Al 0) (BP (Al 1) CH))) CH))) rfl (D9 (A6 Bk (pv 0) AB))
   Cn (λ_ _ _ _ _=>B9 (i:=0) lF rfl (p8 rfl))
   (λ_ _ _ _ _=>AZ G1 (AA (A6 Bk (pv 0) AB) (AA (AZ G2 (AA (pv 0) (AA (pv 1) AD))) AD)))) AD)))
 have lb:bs.length=rs.length:=ab.1;refine⟨_,U,a,_,_,_,U,U,AJ.of ha,EW _ _ _,ra,U,⟨_,AJ.of ac⟩,λaa ad=>?_⟩;refine Cy (HG ac) (by rw[nc];lia) ad (λi ys σ hp=>∃ds:List Addr,ys=ds.map V.ref/\At AU hp ds ((rs.map (Au X)).take i)/\∃u,σ=[u,some (.ref b)]) ⟨[],U,At.nil,none,U⟩ ?_ ?_
 ·rintro i ys σ H3 x H4 hi I ae ⟨ds,rfl,hD,u,rfl⟩ ⟨rfl,hx⟩ Cc hC;obtain⟨c,r,rfl,_,hy,e,hc,he⟩:=ab.ref hx;obtain⟨r1,r2,s1,s2,s3,O⟩:=ai r (ny hy);refine⟨_,U,c,_,_,_,U,U,AJ.of (I _ _ hc),OU _ _ _,_,U,_,U,c,b,r,n,X,U,⟨e,I _ _ hc,I _ _ he⟩,Wk I hL,r1,r2,s1,s2,λp hp=>?_⟩;refine k9 hp (X r.1-X r.2.1) λH5 sp hf=>?_
  refine⟨e,p,_,_,U,sp _ _ (I _ _ he),hf,O,s3,λp2 af=>?_⟩;have ah:=Ae af (.AG [.int (r.2.2*(X r.1-X r.2.1)).num,.int (r.2.2*(X r.1-X r.2.1)).den]);have J:=sp.trans ah;refine hC _ _ _ J ⟨ds++[p2],by simp,?_,_,U⟩;have ec:(rs.map (Au X))[i]?=some (Au X r):=by rw[nJ,hy];rfl
  rw[C8 ec];exact(hD.keep Ao (EO aa J)).snoc (AU.BW (q:=Au X r) AY (J _ _ ae))
 ·rintro ys σ H4 O ag aj ⟨gs,rfl,hG,u,rfl⟩;rw[nc,lb,ou (by rw[nc];exact nG _)]at hG;refine⟨aa,_,U,.inl ⟨AR.of ag,λp hp=>?_⟩⟩;have sp:=Ae hp (.AG (gs.map V.ref));exact q p _ (O.trans sp) ⟨gs,AY,(hG.keep Ao (D8 H4 aa)).keep Ao sp⟩
inductive Vn(F:List V)(H:Hp)(Q:VK)(_:XK):Prop
 |mk (a:Addr) (n m α β:Nat) (rs:List AK) (J:F=[.ref a]) (I:EJ H a (n+2) rs) (O:CI n m α β rs) (aa:∀p H' X,AM H H'->Ep n ((8+β*m+α)*n) rs X->A4 AU H' p (rs.map (Au X))->Q (.ref p) H')
theorem kS:Az ["net"] ["net"] (Ak sRunnings):=A9
theorem YA (F:Aq K "runnings" "runnings" sRunnings f fd)(G1:Ad P w K mg base 5 "runnings_by" ["net","levels"] NP)
  (G2:Ad P w K mg base 5 "heights" ["net"] ON) :
  Am P w K mg base Aw 6 f fd ["net"] Vn:=by
 refine F.BD kS λii A _ s H vs Q E I h=>?_
 obtain⟨a,n,m,α,β,rs,rfl,hN,k,q⟩:=h;exists _,AX (Ar (AZ G1 (AA (pv 0) (AA (AZ G2 (AA (pv 0) AD)) AD))));refine⟨_,U,_,U,a,n,m,α,β,rs,U,hN,k,λp H1 X O J hT=>?_⟩;obtain⟨Z,N,z⟩:=J.KR k;have aa:rs.length<=16:=oa k.len k.hb.MS;exact⟨a,p,n+2,rs,X,U,FR O hN,.t hT,by lia,λr I=>⟨(k.BH r I).1,(k.BH r I).2.1,z.hs _ (k.BH r I).1,z.hs _ (k.BH r I).2.1,z.fs r I,z.es r I⟩,λp2 H2 s2 h2=>q p2 H2 X (O.trans s2) J h2⟩
inductive Tr(F:List V)(H:Hp)(Q:VK)(_:XK):Prop
 |mk (a:Addr) (n m α β:Nat) (rs:List AK) (J:F=[.ref a]) (I:EJ H a (n+2) rs) (O:CI n m α β rs) (aa:∀p H' X,AM H H'->Ep n ((8+β*m+α)*n) rs X->AU H' p (Aj X rs 0)->Q (.ref p) H')
theorem Ki:Az ["net","ease","rope","running"] ["net"] (Ak sEaseOf):=A9
theorem ZA (F:Aq K "ease_of" "ease_of" sEaseOf f fd)(G1:Ad P w K mg base 3 "plus" ["one","other"] (Cg λx y=>x+y))
  (G2:Ad P w K mg base 3 "minus" ["one","other"] (Cg λx y=>x-y))
  (G3:Ad P w K mg base 6 "runnings" ["net"] Vn)(mz:mg "zip" = none) :
  Am P w K mg base Aw 7 f fd ["net"] Tr:=by
 refine F.BD Ki λii A _ s H vs Q E hr h=>?_
 obtain⟨a,n,m,α,β,rs,rfl,hN,k,q⟩:=h;exists _,AN (Aa 1 Ki (Bl (AA AB (AA AB AD))))
  (AN (CS oB rfl (J7 (t1:=true) (t2:=true) (by rfl) mz (AA (A6 Bk (pv 0) AB) (AA (AZ G3 (AA (pv 0) AD)) AD))) (Dp rfl (Bf (BL 2 Ki) (Bf (BL 3 Ki) Dj)))
   (AN (Bq (Bb FV (A6 Bk (pv 2) AB) AB) (AX (Aa 1 Ki (AZ G1 (AA (pv 1) (AA (pv 3) AD))))) By)
   (AX (Bq (Bb FV (A6 Bk (pv 2) AB) AB) (AX (Aa 1 Ki (AZ G2 (AA (pv 1) (AA (pv 3) AD))))) By))))
  (AX (Ar (pv 1))))
 have ay:rs.length<=16:=oa k.len k.hb.MS;refine⟨by exact CQ,λz1 au=>?_⟩;refine EK au (.AG [.int 0,.int 1]) λH1 t1 zz=>?_
 have e1:AU H1 z1 0:=zz;obtain⟨ra,tv,ha,bs,ap,al⟩:=id hN;refine⟨_,rfl,a,_,_,_,rfl,rfl,AJ.of (t1 _ _ ha),EW _ _ _,_,rfl,a,n,m,α,β,rs,rfl,FR t1 hN,k,λpr H2 X s2 hX hR=>?_⟩;obtain⟨Z,N,z⟩:=hX.KR k;obtain⟨cs,ag,ah⟩:=hR;have ab:=t1.trans s2;exists ra,pr,rfl,⟨_,BS.t (ab _ _ ap)⟩,⟨_,BS.t ag⟩;have lb:bs.length=rs.length:=al.1;have lc:cs.length=rs.length:=by rw[ah.1,nc]
 refine TU (xs:=bs.map V.ref) (ys:=cs.map V.ref) rs.length (by rw[nc,nc];lia) (λi σ J=>AM H2 J/\∃(e:Addr) (u v:Option V),σ=[some (.ref a),some (.ref e),u,v]/\AU J e (Aj X (rs.take i) 0))
  ⟨AM.refl _,z1,none,none,rfl,s2 _ _ e1⟩ (λi σ J _ ⟨I,_⟩=>⟨BS.t (I _ _ (ab _ _ ap)),BS.t (I _ _ ag)⟩) ?_ ?_
 ·rintro i x y σ J p hx hy ⟨I,e,u,v,rfl,he⟩ hp;obtain⟨c,r,rfl,_,aa,ea,hc,ax⟩:=al.ref hx;obtain⟨d,q0,rfl,_,ao,hd⟩:=ah.ref hy;have aq:q0=Au X r:=by rw[nJ,aa]at ao;exact(nV ao).symm
  subst aq;have rm:=ny aa;have ik:i<rs.length:=(nj.mp aa).1;refine EK hp (.AG [.ref c,.ref d]) λH4 s4 h4=>?_
  exists p,_,rfl,AJ.of h4,rfl,_,_,rfl,_,_,rfl,rfl;have us:=z.sum 0 i (by lia);have ur:=z.ru r rm;have ad:Sf (Aj X (rs.take i) 0):=us.sf z.z0 z.zl (by lia) z.nl;have ae:Sf (Au X r):=ur.sf z.z0 z.zl (by lia) z.nl;have ak:=(ab.trans (I.trans s4)) _ _ hc;have am:=(I.trans s4) _ _ hd;have ai:=s4 _ _ he;have aj:=I.trans s4;have ac:=Pm (X:=X) (i:=0) aa;unfold Wd.Ca at ac;refine gP (t:=XM _ _ _) (G:=λσ H5=>AM H4 H5/\∃e5:Addr,σ=[some (.ref a),some (.ref e5),some (.ref c),some (.ref d)]/\AU H5 e5 (Aj X (rs.take i) 0+(if 0=r.1 then Au X r else 0))) (λU af=>?_) ?_
  ·exists _,rfl,c,_,_,_,rfl,rfl,AJ.of ak,Fb _ _ _,rfl,_,rfl;by_cases O:r.1=0
   ·exact C4 (iv (by lia)) ⟨_,rfl,_,rfl,e,d,_,_,rfl,ai,am,ad,ae,λp5 av=>af _ _ ⟨Ae av _,p5,rfl,by rw[nF O.symm];exact AY⟩⟩
   ·exact DC (Fi (by lia)) (af _ _ ⟨AM.refl _,e,rfl,by rw[nv (λz=>O z.symm),tM];exact ai⟩)
  ·rintro σ H5 ⟨s5,e5,rfl,h5⟩;have ar:Sf (Aj X (rs.take i) 0+(if 0=r.1 then Au X r else 0)):=by
    by_cases O:0=r.1
    ·rw[nF O];exact(us.Cu ur).sf z.z0 z.zl (by lia) z.nl
    ·rw[nv O,tM];exact ad
   exists _,rfl,c,_,_,_,rfl,rfl,AJ.of (s5 _ _ ak),EW _ _ _,rfl,_,rfl;by_cases c2:r.2.1=0
   ·refine C4 (iv (by lia)) ⟨_,rfl,_,rfl,e5,d,_,_,rfl,h5,s5 _ _ am,ar,ae,λp6 aw=>?_⟩;exists aj.trans (s5.trans (Ae aw _)),p6,_,_,rfl;rw[ac,nF c2.symm,show ∀x y w:Rat,x+(y-w)=x+y-w from λx y w=>by grind];exact AY
   ·refine DC (Fi (by lia)) ⟨aj.trans s5,e5,_,_,rfl,?_⟩;rw[ac,show(if 0=r.2.1 then Au X r else 0)=0 from nv (λz=>c2 z.symm),show ∀x y:Rat,x+(y-0)=x+y from λx y=>by grind];exact h5
 ·rintro σ J ⟨I,e,u,v,rfl,he⟩;rw[oW]at he;exact⟨_,rfl,q e J X (ab.trans I) hX he⟩
end
end My
namespace My
open PySem L2 Mth
variable {T f:Addr}{fd:qf}{H H':Hp}{x y:Int}{R ts us:List (List Int)}{cs:List Addr}{u:List Int}{hs:List Nat}{rs:List AK}{i p:Nat}
section
variable {P:oT}{w:World}{K:nI}{mg:Str->Option Value}{base:Heap}
inductive Wb(F:List V)(H:Hp)(Q:VK)(_:XK):Prop
 |mk (e:Int) (J:F=[.int e]) (I:Q (.int (AO e)) H)
theorem kW:Az ["end"] ["end"] (Ak sOther):=A9
theorem aH(F:Aq K "other_end" "other_end" sOther f fd):Am P w K mg base Aw 1 f fd ["end"] Wb:=by
 refine F.BD kW λii A outer s H I Q E J h=>?_
 obtain⟨e,rfl,q⟩:=h;exists _,AX (Ar (QE (Bb FV (AL Ce (pv 0) AB) AB) (AL BY (pv 0) AB) (AL DX (pv 0) AB)));refine⟨_,U,_,_,U,U,(show(0:Int)<2 by decide),U,_,U,?_⟩;unfold AO at q;by_cases h:e%2=0
 ·rw[nF h]at q;exact C4 (iv h) ⟨_,U,_,_,U,U,q⟩
 ·rw[nv h]at q;exact DC (Fi h) ⟨_,U,_,_,U,U,q⟩
inductive Ue(F:List V)(H:Hp)(Q:VK)(_:XK):Prop
 |mk (a:Addr) (bs:List Addr) (ts:List (List Int)) (n:Nat) (O:F=[.ref a]) (I:Je H a bs ts) (aa:CY n ts) (ab:n<=1000) (J:∀d H',AM H H'->H d=none->H' d=some (.dK (BN (BI ts)))->Q (.ref d) H')
def VR(K:nI):TS:=Kl (JV VI (BU 1)) (Kl (RN (OS [] (Al 0)) (BU 2) (RN (WW (BP (Al 2) CH)) (IS [] 2 (Fw (BU 3) (Fw (BU 4) Kp)))
 (Wo (Al 1) (Al 4) (Bh (Fg []) (Al 2) (Bh (Gq λi j=>.int (i-j)) (Al 3) (tC (.int 1))))))) (RP (Al 1)))
theorem aF(I:Je H a bs ts)(T:CY n ts)(hn:n<=1000)(q:∀d H',AM H H'->H d=none->H' d=some (.dK (BN (BI ts)))->Q (.ref d) H'):
  VR K { nx:=nx,rt:=Q} [some (.ref a),none,none,none,none] H:=by
 intro d hd
 try dsimp only
 try refine Jt ?_
 first|refine Jw λai ag=>?_|refine nx_hide λai ag=>?_
 exists _,U,a,U,⟨_,AJ.of (Ae hd _ _ _ I.1)⟩;refine JC (xs:=bs.map V.ref) (λi σ H2=>∃t k e,σ=[some (.ref a),some (.ref d),t,k,e]/\AM H H2/\H2 d=some (.dK (BN (BI (ts.take i))))) ⟨none,none,none,U,Ae hd _,AY⟩ (λi σ H2 _ ⟨_,_,_,_,s,_⟩=>AJ.of (s _ _ I.1)) ?_ ?_
 ·rintro i x σ H2 hx ⟨t0,k0,e0,rfl,O,ac⟩;obtain⟨b,row,rfl,hb,J⟩:=V9 I.2.1 hx;have hB:=O _ _ (I.2.2 i b row hb J)
  try dsimp only
  try refine Jt ?_
  first|refine Jw λak ae=>?_|refine nx_hide λak ae=>?_
  exists _,U,b,_,U,hB;refine ND (xs:=row.map V.int) (λj σ F=>∃k e,σ=[some (.ref a),some (.ref d),some (.ref b),k,e]/\AM H F/\F d=some (.dK (BN (BI (ts.take i)++(Bd row).take j)))) ⟨k0,e0,U,O,by rw[vw,pO];exact ac⟩
   (λj σ F _ ⟨_,_,_,s,_⟩=>s _ _ (I.2.2 i b row hb J)) ?_ ?_
  ·rintro j x σ F p aj ⟨k1,e1,rfl,aa,ab⟩ hp;obtain⟨e,rfl,he⟩:=N8 aj;have hj:j<row.length:=(nj.mp he).1;have af:AM H (AF F p (.AG [.int j,.int e])):=aa.trans (Ae hp _);have ah:(AF F p (.AG [.int j,.int e])) d=some (.dK (BN (BI (ts.take i)++(Bd row).take j))):=Ae hp _ _ _ ab;have ad:(BI (ts.take i)++(Bd row).take j).map (·.1)=(ts.take i).flatten++row.take j:=by
    rw[nY,GH,vT,Pt]
   have fr:e∉(BI (ts.take i)++(Bd row).take j).map (·.1):=by rw[ad];exact Mm T.nd J he
   have ln:(BN (BI (ts.take i)++(Bd row).take j)).length<og:=by
    have l1:=congrArg rE ad;rw[nc]at l1;have l2:((ts.take i).flatten++row.take j).length<=n:=by
     rw[<-T.len];have e1:ts=ts.take i++ts.drop i:=(qF i ts).symm;have hd:ts.drop i=row :: ts.drop (i+1):=by
      obtain⟨hi,q1⟩:=nj.mp J;rw[<-q1,rD]
     have e2:ts.flatten.length=(ts.take i).flatten.length+(row.length+(ts.drop (i+1)).flatten.length):=by
      conv=>lhs;rw[e1,hd]
      rw[pX,oN,nO,nO]
     rw[e2,nO,pB]
     lia
    rw[nc,l1];exact DF (by lia)
   exists p,_,U,AJ.of AY,U,_,_,U,_,_,U,rfl;exists _,U,_,U,_,_,U,U,b,_,_,_,U,U,AJ.of (af _ _ (I.2.2 i b row hb J)),UJ hj,_,U,_,U,d,_,U,Dw.k (k:=oi e) ah ln;exists _,_,U,af.up hd _;rw[AY,J9 fr,pG];have rp:(Bd row)[j]?=some (e,FT row j):=by
    unfold Bd;rw[nJ,pY hj];show some (row.getD j 0,FT row j)=_;rw[nq,he];rfl
   rw[D4 rp]
  ·rintro σ F ⟨k1,e1,rfl,aa,ab⟩;subst ae;exists _,_,_,U,aa;rw[ab,D4 J,YI,nc,show(Bd row).take row.length=Bd row from ou (by rw[TV];exact nG _)]
 ·rintro σ H2 ⟨t0,k0,e0,rfl,O,ac⟩;subst ag;refine⟨_,U,q d H2 O hd ?_⟩;rw[ac,nc,ou (by rw[I.2.1];exact nG _)]
theorem MA:Az ["turns","ahead","turn","k","end"] ["turns"] (Ak sAhead):=A9
theorem cA(F:Aq K "ends_ahead" "ends_ahead" sAhead f fd)(I:mg "enumerate" = none):Am P w K mg base Aw 1 f fd ["turns"] Ue:=by
 refine F.BD MA λii A _ s H vs Q E hr h=>?_
 obtain⟨a,bs,ts,n,rfl,O,T,hn,q⟩:=h;have J:=IP hr;refine⟨VR K,AN (Aa 1 MA P5)
  (AN (CS oB rfl (D9 (pv 0)) (BL 2 MA)
   (AX (CS oB rfl (Nf (by rfl) I (AA (pv 2) AD)) (Dp rfl (Bf (BL 3 MA) (Bf (BL 4 MA) Dj)))
    (AX (HD J (pv 1) (pv 4) (A6 Bk (pv 2) (AL DX (pv 3) AB)) rfl)))))
  (AX (Ar (pv 1)))),aF O T hn q⟩
inductive Vq(F:List V)(H:Hp)(Q:VK)(_:XK):Prop
 |mk (s:Int) (d:Addr) (ts:List (List Int)) (n:Nat) (aa:F=[.int s,.ref d]) (I:H d=some (.dK (BN (BI ts)))) (ab:CY n ts) (ac:n<=1000) (O:AH n s) (J:∀p H',AM H H'->H p=none->H' p=some (.AG ((CD (AS ts) s).map V.int))->Q (.ref p) H')
theorem Od:Az ["start","ahead","ring","end"] ["start","ahead"] (Ak sRingFrom):=A9
theorem X8(F:Aq K "ring_from" "ring_from" sRingFrom f fd)(G:Ad P w K mg base 1 "other_end" ["end"] Wb)(mt:mg "tuple" = none):
  Am P w K mg base Aw 2 f fd ["start","ahead"] Vq:=by
 refine F.BD Od λii A _ s H vs Q E hr h=>?_
 obtain⟨I,d,ts,n,rfl,hd,T,hn,hs,q⟩:=h;have hu:=IP hr;have PM:=T.CN;have PE:=JF PM hs;exists _,AN (Aa 2 Od (DB (AA (pv 0) AD)))
  (AN (Aa 3 Od (Hg hu (pv 1) (AZ G (AA (pv 0) AD))))
  (AN (Jq oB (Bb HP (pv 3) (pv 0))
   (AN (Eb (Dn oO pK pM FG (pv 2) (AA (pv 3) AD)))
    (AX (Aa 3 Od (Hg hu (pv 1) (AZ G (AA (pv 3) AD)))))))
  (AX (Ar (FF GQ (by rfl) mt Et (AA (pv 2) AD))))))
 refine⟨_,U,by exact IY,λl hl=>?_⟩;exists _,U,_,U,I,U,d,_,U,Nq (Ae hl _ _ _ hd) (T.N0 hs);refine Jp (λσ H2=>∃j,1<=j/\j<=DH (AS ts) I/\σ=[some (.int I),some (.ref d),some (.ref l),some (.int (BM (AS ts) j I))]/\AM H H2/\H2 l=some (.AE ((EC (AS ts) I j).map V.int)))
  (λ_ H2=>match H2 l with|some (.AE xs)=>DH (AS ts) I-xs.length|_=>0) ⟨1,nG _,PE.1,U,Ae hl _,AY⟩ ?_ ?_
 ·rintro σ H2 ⟨j,j1,j2,rfl,sm,O⟩;exists _,U,_,U,U,_,rfl;by_cases J:BM (AS ts) j I=I
  ·refine E3 (iv J) ?_;have hj:j=DH (AS ts) I:=by
    rcases oP j (DH (AS ts) I)with z|z
    ·exact absurd J (PE.2.2 j j1 z)
    ·lia
   subst hj;refine⟨_,U,l,_,U,.inl ⟨AR.of O,λp hp=>?_⟩⟩;exact q p _ (sm.trans (Ae hp _)) (sm.free hp) AY
  ·refine KW (Fi J) ?_;have hj:j<DH (AS ts) I:=by
    rcases oP j (DH (AS ts) I)with z|z
    ·exact z
    ·exact absurd (by rw[show j=DH (AS ts) I by lia];exact PE.2.1) J
   have ac:=ij PM hs;have ab:(EC (AS ts) I j).length=j:=TB;refine⟨_,U,.inl ⟨U,_,AR.of O⟩,_,U,l,_,_,U,U,O,by rw[nc,ab];exact DF (by lia),?_⟩;have aa:=sm.up hl (.AE ((EC (AS ts) I j).map V.int++[.int (BM (AS ts) j I)]));exists _,U,_,U,_,U,d,_,U,Nq (aa _ _ hd) (T.N0 (Ef PM hs j));exists ⟨j+1,by lia,hj,U,aa,?_⟩
   ·rw[AY,Yg,nY];rfl
   ·rw[AY,O];show DH (AS ts) I-((EC (AS ts) I j).map V.int++[V.int (BM (AS ts) j I)]).length<DH (AS ts) I-((EC (AS ts) I j).map V.int).length;rw[nO,nc,ab,pw]
    lia
 ·rintro σ H2 Q1 Q2 hq ⟨v,e,v',e',sc,b,eb,z⟩;exact⟨v,e,v',e',sc,b,eb,hq _ _ z⟩
def IQ(H:Hp)(bs:List Addr)(R:List (List Int)):Prop:=bs.length=R.length/\∀(i:Nat) (b:Addr) (row:List Int),bs[i]?=some b->R[i]?=some row->H b=some (.AG (row.map V.int))
theorem IQ.snoc(h:IQ H bs R)(s:∀c ys,H c=some (.AG ys)->H' c=some (.AG ys))(O:H' b=some (.AG (row.map V.int))):IQ H' (bs++[b]) (R++[row]):=by
 refine⟨by rw[nO,nO,h.1];rfl,λi c r F I=>?_⟩;rcases oP i bs.length with z|z
 ·rw[nX z]at F;rw[nX (by rw[<-h.1];exact z)]at I;exact s _ _ (h.2 i c r F I)
 ·have hi:i<bs.length+1:=by
   have:=(nj.mp F).1
   rw[nO]at this;exact this
  have J:i=bs.length:=by lia
  subst J;rw[nW (nG _),rG]at F;rw[h.1,nW (nG _),rG]at I;cases F;cases I;exact O
theorem IQ.keep(h:IQ H bs R)(s:∀c ys,H c=some (.AG ys)->H' c=some (.AG ys)):IQ H' bs R:=⟨h.1,λi b r I F=>s _ _ (h.2 i b r I F)⟩
theorem CZ.AG{x:Addr}(h:CZ x H H')(F:∀ys,H x≠some (.AG ys)):∀c ys,H c=some (.AG ys)->H' c=some (.AG ys):=λc ys e=>h c _ (λz=>F ys (z ▸ e)) e
theorem SU(I:JR φ n)(hi:i<=n):(A8 φ i).flatten.length<=n/\(A8 φ i).length<=n:=by
 have L:=Hs I i hi;have aa:∀x∈(A8 φ i).flatten,AH n x:=λx F=>by
  obtain⟨r,J,F⟩:=oC.mp F;obtain⟨s,hs,_,e,_⟩:=L.of r J;subst e;exact Nd I hs F
 have h1:=HK n _ L.nd aa;refine⟨h1,oa ?_ h1⟩
 have:∀R:List (List Int),(∀r∈R,1<=r.length)->R.length<=R.flatten.length:=by
  intro R
  induction R with
  |nil=>intro _;exact nG _
  |cons r R ih =>
   intro h;have h2:=ih λr' O=>h r' (oV _ O)
   have h3:=h r (qr ..);rw[oN,nO,oA]
   lia
 refine this _ λr J=>?_
 obtain⟨s,hs,_,e,_⟩:=L.of r J;subst e;exact qL (LD I hs)
inductive UY(F:List V)(H:Hp)(Q:VK)(_:XK):Prop
 |mk (a:Addr) (bs:List Addr) (ts:List (List Int)) (n:Nat) (O:F=[.ref a]) (I:Je H a bs ts) (aa:CY n ts) (ab:n<=1000) (J:∀p cs H',AM H H'->H p=none->H' p=some (.AG (cs.map V.ref))->IQ H' cs (A8 (AS ts) n)->Q (.ref p) H')
theorem JW:Az ["turns","ahead","seen","lands","start","ring","end"] ["turns"] (Ak sRings):=A9
theorem bF (F:Aq K "rings" "rings" sRings f fd)(G:Ad P w K mg base 1 "ends_ahead" ["turns"] Ue)
  (G2:Ad P w K mg base 2 "ring_from" ["start","ahead"] Vq)
  (ml:mg "len" = none)(mr:mg "range" = none)(mt:mg "tuple" = none):Am P w K mg base Aw 3 f fd ["turns"] UY:=by
 refine F.BD JW λii A _ s H vs Q E hr h=>?_
 obtain⟨a,bs,ts,n,rfl,hT,T,hn,q⟩:=h;have hu:=IP hr;have PM:=T.CN;exists _,AN (Aa 1 JW (AZ G (AA (pv 0) AD)))
  (AN (Aa 2 JW P5)
  (AN (Aa 3 JW (DB AD))
  (AN (CS oB rfl (Hu (by rfl) mr (AA (CV Ht (by rfl) ml Ee (AA (pv 1) AD)) AD)) (BL 4 JW)
   (AX (Bq (JJ (Mp hu (pv 4) (pv 2)))
    (AN (Aa 5 JW (AZ G2 (AA (pv 4) (AA (pv 1) AD))))
    (AN (CS oB rfl (D9 (pv 5)) (BL 6 JW) (AX (HD hu (pv 2) (pv 6) Ke rfl)))
    (AX (Eb (Dn oO pK pM FG (pv 3) (AA (pv 5) AD)))))) By)))
  (AX (Ar (FF GQ (by rfl) mt Et (AA (pv 3) AD)))))))
 refine⟨_,U,a,bs,ts,n,U,hT,T,hn,λd H1 s1 nd hd=>?_⟩;intro I af;refine⟨by exact Gs,λJ ac=>?_⟩;have s2:AM H1 (AF H1 I (.dK [])):=Ae af _;have s3:AM (AF H1 I (.dK [])) (AF (AF H1 I (.dK [])) J (.AE [])):=Ae ac _;have a0:d≠I:=B8 hd af;have ag:J≠I:=λz=>by rw[z,AY]at ac;cases ac
 have ax:d≠J:=B8 (s2 _ _ hd) ac;have ar:H I=none:=s1.free af;have ap:H J=none:=(s1.trans s2).free ac;have a1:(BN (BI ts)).length=n:=by rw[nc,T.lE]
 try dsimp only
 try refine Jt ?_
 first|refine Jw λav al=>?_|refine nx_hide λav al=>?_
 refine⟨_,U,d,_,U,s3 _ _ (s2 _ _ hd),((BN (BI ts)).length:Int),U,by lia,by lia,?_⟩;rw[show(((BN (BI ts)).length:Int)).toNat=n by lia];refine Io (n:=n) (λi σ H2=>∃st rg en cs,σ=[some (.ref a),some (.ref d),some (.ref I),some (.ref J),st,rg,en]/\AM H H2/\H2 d=some (.dK (BN (BI ts)))/\H2 I=some (.dK (Di (A8 (AS ts) i).flatten)) /\
  H2 J=some (.AE (cs.map V.ref))/\IQ H2 cs (A8 (AS ts) i)) ⟨none,none,none,[],U,s1.trans (s2.trans s3),s3 _ _ (s2 _ _ hd),?_,AY,⟨U,λi b row e1 e2=>by simp at e1⟩⟩ ?_ ?_
 ·rw[As (rN ag),AY];rfl
 ·rintro i σ H2 hi ⟨st,rg,en,cs,rfl,sm,ad,aa,ab,hR⟩;have ay:AH n (i:Int):=⟨by lia,by lia⟩;have L:=Hs PM i (by lia);exists _,U,_,U,I,_,U,DE.k (k:=oi ((0:Int)+(i:Nat))) aa,_,rfl;rw[JB,show(0:Int)+(i:Nat)=(i:Int) by lia];by_cases hm:(i:Int)∈(A8 (AS ts) i).flatten
  ·rw[nF hm];have e0:=Ya hm;refine Cr ⟨_,_,_,cs,U,sm,ad,?_,ab,?_⟩
   ·rw[aa,e0]
   ·rw[e0];exact hR
  ·rw[nv hm];refine EV ?_;have e1:=YO hm;refine⟨_,U,_,U,(i:Int),d,ts,n,U,ad,T,hn,ay,λr H3 s4 nr ah=>?_⟩;have aw:=sm.trans s4;have ao:r≠I:=λz=>by rw[z,aa]at nr;cases nr
   have ll:=SU PM (i:=i+1) (by lia);rw[e1,pX,nO,nO]at ll;simp only[oN,uO,pO,pw]at ll
   try dsimp only
   try refine Jt ?_
   first|refine Jw λaq ak=>?_|refine nx_hide λaq ak=>?_
   exists _,U,r,U,⟨_,AJ.of ah⟩;refine JC (xs:=(CD (AS ts) i).map V.int) (λk σ H4=>∃en,σ=[some (.ref a),some (.ref d),some (.ref I),some (.ref J),some (.int (i:Int)),some (.ref r),en]/\CZ I H3 H4/\H4 I=some (.dK (Di ((A8 (AS ts) i).flatten++(CD (AS ts) i).take k))))
    ⟨en,U,CZ.refl _ _,by rw[vw,pO];exact s4 _ _ aa⟩ (λk σ H4 _ ⟨_,_,O,_⟩=>AJ.of (O _ _ ao ah)) ?_ ?_
   ·rintro k x σ H4 hx ⟨au,rfl,O,ae⟩;obtain⟨e,rfl,he⟩:=N8 hx;have fr:e∉(A8 (AS ts) i).flatten++(CD (AS ts) i).take k:=by
     have am:=(Hs PM (i+1) (by lia)).nd;rw[e1]at am;have az:(A8 (AS ts) i++[CD (AS ts) i])[(A8 (AS ts) i).length]?=some (CD (AS ts) i):=by
      rw[nW (nG _),rG];rfl
     have:=Mm am az he
     rw[List.take_append_of_le_length (nG _),oW]at this;exact this
    exists _,U,_,U,I,_,U,Dw.k (k:=oi e) ae ?_
    ·rw[nc,nO,pB];exact DF (by lia)
    ·exists _,U,O.E8 _;rw[AY,VG fr,pG,D4 he]
   ·rintro σ H4 ⟨au,rfl,O,ae⟩;subst ak;rw[nc,oW] at ae;have aj:H4 J=some (.AE (cs.map V.ref)):=O _ _ ag (s4 _ _ ab);refine⟨_,U,.inl ⟨U,_,AR.of aj⟩,_,U,J,_,_,U,U,aj,by rw[nc,hR.1]; exact DF (by lia  ),?_⟩;have ai:∀c ys,H3 c=some (.AG ys)->(AF H4 J (.AE (cs.map V.ref++[.ref r]))) c=some (.AG ys):=λc ys e=>by
     have n1:c≠I:=λz=>by rw[z,s4 _ _ aa]at e;cases e
     have n2:c≠J:=λz=>by rw[z,s4 _ _ ab]at e;cases e
     rw[As n2];exact O _ _ n1 e
    exists _,_,_,cs++[r],U,?_,?_,?_,?_
    ·exact(O.same aw ar).up ap _
    ·rw[As ax];exact O _ _ a0 (s4 _ _ ad)
    ·rw[As (rN ag),ae,e1,pX];simp
    ·rw[AY,nY];rfl
    ·rw[e1];exact(hR.keep λc ys e=>s4 _ _ e).snoc ai (ai _ _ ah)
 ·rintro σ H2 ⟨st,rg,en,cs,rfl,sm,ad,aa,ab,hR⟩;subst al;refine⟨_,U,J,_,U,.inl ⟨AR.of ab,λp hp=>?_⟩⟩;exact q p cs _ (sm.trans (Ae hp _)) (sm.free hp) AY (hR.keep λc ys e=>Ae hp _ _ _ e)
def TX:Sp:=λF H Q _=>∃(a:Addr) (bs:List Addr) (ts:List (List Int)) (n:Nat),F=[.ref a]/\Je H a bs ts/\CY n ts/\n<=1000 /\
 ∀p H',AM H H'->H p=none->H' p=some (.AG (((nz n).map λe:Nat=>(lk (DT 0 (A8 (AS ts) n)) (e:Int)).getD 0).map V.int))->Q (.ref p) H'
theorem MH:Az ["turns","numbers","number","ring","end"] ["turns"] (Ak sLandOf):=A9
theorem kN:(["end","numbers"]:List Str).Nodup:=by decide +kernel
theorem bS(h:R[j]?=some row)(k:Nat):((DT 0 (R.take j)++(row.take k).map λe=>(e,(j:Int))).map (·.1))=(R.take j).flatten++row.take k:=by
 rw[nY,LM,pC];congr 1;exact aaj (λ_=>rfl) _
theorem Zk(h:R[j]?=some row):DT 0 (R.take (j+1))=DT 0 (R.take j)++row.map λe=>(e,(j:Int)):=by
 have F:j<R.length:=(nj.mp h).1;rw[D4 h,Sm,pB,tJ,zU (by lia)]
theorem bP(h:R[i]?=some row)(j:Nat):((R.take i).flatten++row.take j).length<=R.flatten.length:=by
 obtain⟨hi,F⟩:=nj.mp h;have J:R=R.take i++row :: R.drop (i+1):=by rw[<-F,rD,qF]
 have I:R.flatten.length=(R.take i).flatten.length+(row.length+(R.drop (i+1)).flatten.length):=by
  conv=>lhs;rw[J]
  rw[pX,oN,nO,nO]
 rw[I,nO,pB]
 lia
theorem ZE {G:Hp->Prop}(hσ:σ0=[none,some (.ref D)])(hD:H1 D=some (.dK (BN L)))(hl:∀e:Nat,e<n->∃v,lk L e=some v)(hn:n<=1000)(aa:H1 acc=none)
  (ab:∀H2,AM H1 H2->H2 acc=some (.AE (((nz n).map λe:Nat=>(lk L (e:Int)).getD 0).map V.int))->G H2) :
  ∃W:Nat->Nat->List V->St->Hp->Prop,(∃m,W 0 m [] σ0 (AF H1 acc (.AE [])))/\∀i m ys F H2,W i m ys F H2 →
  ((GF 0 n).EH i H2/\G H2)\/((GF 0 n).go i H2/\∀x J,(GF 0 n).EL i H2 x J->BU 0 x F J λσ4 H4=>Ly (Al 1) (Al 0) σ4 H4 λv H5=>H5 acc=some (.AE ys)/\ys.length<og/\∃m',m' < m/\W (i+1) m' (ys++[v]) σ4 (AF H5 acc (.AE (ys++[v])))):=by
 refine⟨λi m ys F H2=>m=n-i/\i<=n/\AM H1 H2/\H2 acc=some (.AE ys)/\ys=((nz i).map λe:Nat=>(lk L (e:Int)).getD 0).map V.int/\∃u,F=[u,some (.ref D)],⟨n,U,pJ _,Ae aa _,AY,U,none,hσ⟩,?_⟩;rintro i m ys F H2 ⟨rfl,hi,sm,ha,O,u,rfl⟩;rcases oP i n with I|hge
 ·refine .inr ⟨I,λx J yl=>?_⟩;obtain⟨rfl,rfl⟩:=yl;obtain⟨v,hv⟩:=hl i I;refine⟨_,U,_,U,D,.int v,U,?_,ha,?_,n-(i+1),by lia,U,I,?_,AY,?_,_,U⟩
  ·rw[show(0:Int)+(i:Nat)=(i:Int) by lia];exact Nq (sm _ _ hD) hv
  ·rw[O,nc,nc,oX];exact DF (by lia)
  ·exact sm.up aa _
  ·rw[O,uZ,nY,nY,nK,pE,hv];rfl
 ·obtain rfl:i=n:=by lia
  exact .inl ⟨nG _,ab H2 sm (by rw[ha,O])⟩
theorem Y9 (F:Aq K "land_of" "land_of" sLandOf f fd)(G:Ad P w K mg base 3 "rings" ["turns"] UY)
  (ml:mg "len" = none)(mr:mg "range" = none)(mt:mg "tuple" = none)(me:mg "enumerate" = none):Am P w K mg base Aw 4 f fd ["turns"] TX:=by
 refine F.ok MH (λvs H Q E h=>?_) (λii A _ s H vs Q E hr h=>?_)
 ·obtain⟨a,bs,ts,n,rfl,_⟩:=h;rfl
 obtain⟨a,bs,ts,n,rfl,hT,T,hn,q⟩:=h;have hu:=IP hr;have PM:=T.CN;have nd:=Mx PM;have am:=Xr PM;exists _,AN (Aa 1 MH P5)
  (AN (CS oB rfl (Nf (by rfl) me (AA (AZ G (AA (pv 0) AD)) AD)) (Dp rfl (Bf (BL 2 MH) (Bf (BL 3 MH) Dj)))
   (AX (CS oB rfl (D9 (pv 3)) (BL 4 MH) (AX (HD hu (pv 1) (pv 4) (pv 2) rfl)))))
  (AX (Ar (FF GQ (by rfl) mt Et (AA (Dk (Nc:=["end","numbers"]) (cap:=[(1,1)]) (g:=BU 0) (te:=Ly (Al 1) (Al 0)) rfl (Hu (by rfl) mr (AA (CV Ht (by rfl) ml Ee (AA (pv 1) AD)) AD))
   Cn
   (λ_ _ _ _ _=>B9 (i:=0) kN rfl (p8 rfl)) (λ_ _ _ _ _=>Hg hu (pv 1) (pv 0))) AD)))))
 intro d hd;have s0:AM H (AF H d (.dK [])):=Ae hd _;refine⟨_,U,a,bs,ts,n,U,hT.keep s0,T,hn,λrr cs H1 s1 ao ad hR=>?_⟩;have ag:H1 d=some (.dK []):=s1 _ _ AY;exists rr,_,U,ad;refine ND (xs:=cs.map V.ref) (λj σ H2=>∃nu rg O,σ=[some (.ref a),some (.ref d),nu,rg,O]/\CZ d H1 H2/\H2 d=some (.dK (BN (DT 0 ((A8 (AS ts) n).take j))))) ⟨none,none,none,U,CZ.refl _ _,ag⟩
  (λj σ H2 _ ⟨_,_,_,_,I,_⟩=>I _ _ (λz=>by rw[z,ag]at ad;cases ad) ad) ?_ ?_
 ·rintro j x σ H2 p hx ⟨nu,rg,O,rfl,I,ac⟩ hp;obtain⟨b,row,rfl,hb,aa⟩:=V9 hR.1 hx;have ae:=hR.2 j b row hb aa;have bd:b≠d:=λz=>by rw[z,ag]at ae;cases ae
  have J:=Ae hp (.AG [.int j,.ref b]);exists p,_,U,AJ.of AY,U,_,_,U,_,_,U,rfl;have ak:=J _ _ (I _ _ bd ae);exists _,U,b,U,⟨_,AJ.of ak⟩;refine JC (xs:=row.map V.int) (λk σ H4=>∃O,σ=[some (.ref a),some (.ref d),some (.int j),some (.ref b),O]/\CZ d H1 H4/\H4 d=some (.dK (BN (DT 0 ((A8 (AS ts) n).take j)++(row.take k).map λe=>(e,(j:Int))))))
   ⟨O,U,I.trans (AM.b J),by rw[vw,pE,pO];exact J _ _ ac⟩ (λk σ H4 _ ⟨_,_,ab,_⟩=>AJ.of (ab _ _ bd ae)) ?_ ?_
  ·rintro k x σ H4 al ⟨aj,rfl,ab,af⟩;obtain⟨e,rfl,he⟩:=N8 al;have ky:=bS aa k;exists _,U,_,U,_,U,d,_,U,Dw.k (k:=oi e) af ?_
   ·have l1:=congrArg rE ky;rw[nc]at l1;rw[nc,l1]
    have:=bP aa k
    exact DF (by lia)
   ·exists _,U,ab.E8 _;rw[AY,J9 (by rw[ky];exact Mm nd aa he),pG,D4 he,nY];rfl
  ·rintro σ H4 ⟨aj,rfl,ab,af⟩;exists _,_,_,U,ab;rw[af,nc,oW,Zk aa]
 ·rintro σ H2 ⟨nu,rg,O,rfl,I,ac⟩;rw[nc,ou (by rw[hR.1]; exact nG _)] at ac;have sm:AM H H2:=I.same (s0.trans s1) hd;have ap:(BN (DT 0 (A8 (AS ts) n))).length=n:=by
   have:=congrArg rE (LM 0 (A8 (AS ts) n))
   rw[nc,am]at this;rw[nc,this]
  refine⟨_,U,d,_,U,ac,((BN (DT 0 (A8 (AS ts) n))).length:Int),U,by lia,by lia,λai ah=>?_⟩;rw[show(((BN (DT 0 (A8 (AS ts) n))).length:Int)).toNat=n by lia];refine ZE rfl ac (λe he=>?_) hn ah λH3 J h3=>?_
  ·refine NT ?_;rw[LM];exact(K9 PM).mpr ⟨by lia,by lia⟩
  ·exact⟨ai,_,U,.inl ⟨AR.of h3,λp hp=>q p _ ((sm.trans J).trans (Ae hp _)) ((sm.trans J).free hp) AY⟩⟩
abbrev AK:Type:=Nat×Nat×Rat
structure GW(q:Rat):Prop where
 pos:0<q.num
 top:q.num<1000
 nB:(q.den:Int)<1000
variable {f g h f1 f2 f3 f4:Addr}{fd gd hd d1 d2 d3 d4:qf}
theorem js(h:2<=n):HT.Ax n n (some 2)=2:=by simp[HT.Ax];omega
def DU(l:List Int)(e:Int):List Int:=if e∈l then l else l++[e]
theorem Pz(l:List Int)(e:Int):B4 (Di l) (oi e:Ai) (.bl true)=Di (DU l e):=by
 unfold DU;by_cases h:e∈l
 ·rw[nF h];have a:Cj (Di l) (oi e:Ai)=some (.bl true):=by rw[JB,nF h]
  unfold B4;rw[NN,a,nF (show(some (V.bl true)).isSome=true from rfl)];unfold Di;rw[pC];refine o7 λx _=>?_
  show(if (oi x:Ai)=oi e then ((oi x:Ai),V.bl true) else (oi x,V.bl true))=_;split<;>rfl
 ·rw[nv h,VG h]
theorem Ju:x∈DU l e↔x∈l\/x=e:=by
 unfold DU;split
 ·rename_i h
  constructor
  ·exact .inl
  ·rintro(z|rfl)
   ·exact z
   ·exact h
 ·simp
theorem dD(h:l.Nodup):(DU l e).Nodup:=by
 unfold DU;split
 ·exact h
 ·rename_i z
  rw[pP];exact⟨h,by simp,λa I b F=>by rw[nU]at F;subst F;exact λq=>z (q ▸ I)⟩
theorem Mu(l:List Int)(e:Int):l.length<=(DU l e).length/\((DU l e).length=l.length->DU l e=l):=by
 unfold DU;split
 ·exact⟨nG _,λ_=>rfl⟩
 ·refine⟨by simp,λh=>?_⟩;simp at h
variable {C fI:Addr}{dI:qf}
structure GU(H:Hp)(T:Addr)(bs:List Addr)(ts:List (List Int)):Prop where
 h1:H T=some (.AE (bs.map V.ref))
 Ci:At CT H bs ts
 nd:(T :: bs).Nodup
theorem GU.keep(M:GU H T bs ts)(s:AM H H'):GU H' T bs ts:=⟨s _ _ M.h1,M.Ci.keep ER s,M.nd⟩
theorem GU.E8(M:GU H T bs ts)(J:bs[i]?=some b):GU (AF H b (.AE (t.map V.int))) T bs (ts.set i t):=by
 have bm:b∈bs:=ny J;obtain⟨n1,n2⟩:=pj.mp M.nd;have e1:T≠b:=λz=>n1 (by rw[z];exact bm)
 refine⟨by rw[As e1];exact M.h1,⟨by rw[o9];exact M.Ci.1,λk c x I F=>?_⟩,M.nd⟩;by_cases O:i=k
 ·subst O;rw[J]at I;cases I;have hl:i<ts.length:=by rw[<-M.Ci.1];exact(nj.mp J).1
  rw[oM hl]at F;cases F;exact AY
 ·rw[oH O]at F;have ne:c≠b:=λz=>O (WQ n2 J (by rw[I,z]))
  show AF H b _ c=_;rw[As ne];exact M.Ci.2 k c x I F
def Eg(hs:List Nat)(i:Nat):List Int:=((nz hs.length).filter λe=>decide (hs[e]?=some i)).map (λe:Nat=>(e:Int))
theorem YZ(hs:List Nat)(p i:Nat):Eg (hs++[p]) i=if p=i then Eg hs i++[(hs.length:Int)] else Eg hs i:=by
 unfold Eg;rw[nO,pw,uZ,vJ,nY];have J:(nz hs.length).filter (λe=>decide ((hs++[p])[e]?=some i))=(nz hs.length).filter λe=>decide (hs[e]?=some i) :=
  List.filter_congr λx I=>by rw[nX (oJ.mp I)]
 have F:(hs++[p])[hs.length]?=some p:=by simp
 rw[J];by_cases h:p=i
 ·rw[nF h,wU (by rw[F,h];simp)];rfl
 ·rw[nv h,wR (by rw[F];simpa using h)];simp
theorem ZZ:x∈Eg hs i↔0<=x/\hs[x.toNat]?=some i:=by
 unfold Eg;rw[nS];constructor
 ·rintro⟨e,F,rfl⟩;rw[ub]at F;exact⟨by lia,by simpa using F.2⟩
 ·rintro⟨I,h1⟩;refine⟨x.toNat,ub.mpr ⟨oJ.mpr (nj.mp h1).1,by simpa using h1⟩,by lia⟩
theorem bN(hs:List Nat)(i:Nat):(Eg hs i).Pairwise (· < ·):=by
 unfold Eg;rw[rf];refine tw (λh=>by omega) (rH.filter _ (tr))
def Cd(rs:List AK):List Nat:=rs.flatMap λr=>[r.1,r.2.1]
def hm(rs:List AK):List Nat:=Cd rs++[0,1]
theorem HF:∀rs:List AK,(Cd rs).length=2*rs.length
 |[]=>rfl
 |r :: rs=>by show(r.1 :: r.2.1 :: Cd rs).length=_;simp[HF rs];lia
theorem jE(rs:List AK):(hm rs).length=2*rs.length+2:=by unfold hm;rw[nO,HF];rfl
theorem Tg(rs:List AK)(r:AK):Cd (rs++[r])=Cd rs++[r.1]++[r.2.1]:=by unfold Cd;simp
structure EI(n:Nat)(rs:List AK)(ts:List (List Int)):Prop where
 m1:1<=rs.length
 GB:rs.length<=14
 n2:2<=n
 mw:n<=15
 len:ts.length=n
 tn:CY (2*rs.length+2) ts
 ne:∀t∈ts,t≠[]
 RS:∀r∈rs,GW r.2.2/\r.1<n/\r.2.1<n
 Dc:∀(p:Nat) (t:List Int),ts[p]?=some t->∀x:Int,x∈t->(hm rs)[x.toNat]?=some p
 Cs:∀S:Nat->Prop,S 0->(∀r∈rs,(S r.1↔S r.2.1))->∀p,p<n->S p
theorem Pu(h:t∈ts):t.length<=ts.flatten.length:=by
 obtain⟨A,B,rfl⟩:=vI h;simp;lia
theorem V8(F:ts.flatten.Nodup)(h:t∈ts):t.Nodup:=by
 obtain⟨A,B,rfl⟩:=vI h;rw[pX,oN,pP,pP]at F;exact F.2.1.1
theorem EI.CN(k:EI n rs ts)(h:ts[p]?=some t):t.Perm (Eg (hm rs) p):=by
 have J:=ny h;refine(vU (V8 k.tn.nd J) ((bN _ _).imp λh=>by lia)).mpr λx=>?_
 rw[ZZ];constructor
 ·intro F;exact⟨((k.tn.mem x).mp (oC.mpr ⟨t,J,F⟩)).1,k.Dc p t h x F⟩
 ·rintro⟨h0,h1⟩;have O:=(nj.mp h1).1;rw[jE]at O;obtain⟨t',aa,F⟩:=oC.mp ((k.tn.mem x).mpr ⟨h0,by lia⟩);obtain⟨j,hj,e⟩:=om aa;have I:ts[j]?=some t':=by rw[nh hj,e]
  have:=k.Dc j t' I x F
  rw[h1]at this;obtain rfl:p=j:=nV this;rw[h]at I;cases I;exact F
variable {f5 f6:Addr}{d5 d6:qf}
theorem Pw:∀{t:List Int},x∈t->∃u1 u2,t=u1++x :: u2/\x∉u1
 |a :: t,h=>by
  by_cases e:x=a
  ·subst e;exact⟨[],t,U,by simp⟩
  ·rcases nZ.mp h with z|z
   ·exact absurd z e
   ·obtain⟨u1,u2,rfl,n⟩:=Pw z;exact⟨a :: u1,u2,U,by simp[e,n]⟩
theorem LW:∀{u1:List Int},x∉u1->(u1++x :: u2).idxOf x=u1.length
 |[],_=>by simp
 |a :: u,h=>by
  have e:a≠x:=λz=>h (by rw[z];exact qr ..)
  have:=LW (u2:=u2) (u1:=u) (λz=>h (oV _ z))
  rw[qT,List.idxOf_cons,this,show(a == x)=false from beq_false_of_ne e];rfl
theorem Tp(h:x∉u):(u.map λz=>if z=x then y else z)=u:=by
 conv=>rhs;rw[<-List.map_id u]
 refine o7 λz F=>?_
 have:z≠x:=λq=>h (by rw[<-q];exact F)
 rw[nv this];rfl
theorem Ut{t:List Int}(I:t.Nodup)(h:x∈t):t.set (t.idxOf x) y=t.map λz=>if z=x then y else z:=by
 obtain⟨u1,u2,rfl,F⟩:=Pw h;rw[LW F,xD _ _ (nG _),rG,List.set_cons_zero,nY,nK,nF rfl,Tp F];rw[pP,pj]at I;rw[Tp I.2.1.1]
theorem _root_.Mth.Gn.at(g:Gn ts hs)(h:AH hs.length x):∃p t,ts[p]?=some t/\x∈t/\hs[x.toNat]?=some p:=by
 obtain⟨t,I,F⟩:=oC.mp ((g.mem x).mpr h);obtain⟨p,hp,e⟩:=om I;have h2:ts[p]?=some t:=by rw[nh hp,e]
 exact⟨p,t,h2,F,g.Dc p t h2 x F⟩
theorem j3(I:ts.flatten.Nodup)(h:ts[p]?=some t)(F:x∈t):pr ts x=FT t (t.idxOf x):=by
 refine EB I (oC.mpr ⟨Bd t,nS.mpr ⟨t,ny h,U⟩,?_⟩);unfold Bd;refine nS.mpr ⟨t.idxOf x,oJ.mpr (qg.mpr F),?_⟩;rw[nq,nh (qg.mpr F),rM];rfl
theorem eX(g:Gn ts hs)(h:ts[p]?=some t):t.length<=hs.length:=by
 have:=Pu (ny h)
 rwa [g.HM.len]at this
theorem J8:∀{rs:List AK} {k:Nat} {r:AK},rs[k]?=some r->(Cd rs)[2*k]?=some r.1/\(Cd rs)[2*k+1]?=some r.2.1
 |r0 :: rs,0,r,h=>by cases h;exact⟨U,U⟩
 |r0 :: rs,k+1,r,h=>by
  have:=J8 (rs:=rs) (k:=k) (r:=r) (by simpa using h)
  rw[show 2*(k+1)=2*k+1+1 by lia];exact this
theorem cJ(F:H b=some (.AE ys))(h:Bj H c r):Bj (AF H b o) c r:=by
 obtain⟨e,h1,h2⟩:=h;refine⟨e,by rw[As (λz=>by rw[z,F]at h1;cases h1)];exact h1,?_⟩;unfold AU at h2 ⊢;rw[As (λz=>by rw[z,F]at h2;cases h2)];exact h2
theorem Po(F:H b=some (.AE ys))(h:At Bj H cs rs):At Bj (AF H b o) cs rs:=⟨h.1,λi c r J I=>cJ F (h.2 i c r J I)⟩
theorem YK(h:ts.Perm us):(BI ts).Perm (BI us):=by
 unfold BI;exact(h.map Bd).flatten
theorem ft(h:ts.Perm us)(F:ts.flatten.Nodup)(I:x∈ts.flatten):pr us x=pr ts x :=
 EB (h.flatten.nodup_iff.mp F) ((YK h).mem_iff.mp (IH F I))
theorem Ye(J:∀p,p<n->π p<n)(O:∃τ:Nat->Nat,∀q,q<n->τ q<n/\π (τ q)=q)(aa:∀p q,p<n->q<n->π p=π q->p=q):((nz n).map π).Perm (nz n):=by
 obtain⟨τ,I⟩:=O;refine(vU ?_ uP).mpr λx=>?_
 ·rw[tQ,rf];refine ui (λ{a b} ha hb hab e=>?_) (uP (n:=n));exact hab (aa a b (oJ.mp ha) (oJ.mp hb) e)
 ·rw[nS,oJ];constructor
  ·rintro⟨p,hp,rfl⟩;exact J p (oJ.mp hp)
  ·intro F;exact⟨τ x,oJ.mpr (I x F).1,(I x F).2⟩
theorem Y1(us:List (List Int)):(nz us.length).map (λq=>us.getD q [])=us:=by
 refine wC (by simp) λi h1 h2=>?_
 simp[yv,h2]
structure GA(n m:Nat)(π:Nat->Nat)(ρ:Int->Int):Prop where
 p0:π 0=0
 p1:π 1=1
 D1:∀p,p<n->π p<n
 W4:∃τ:Nat->Nat,∀q,q<n->τ q<n/\π (τ q)=q
 lu:∀p q,p<n->q<n->π p=π q->p=q
 Ow:∀x,AH (2*m+2) x->AH (2*m+2) (ρ x)
 Rb:∃σ:Int->Int,∀x,AH (2*m+2) x->AH (2*m+2) (σ x)/\ρ (σ x)=x
 ME:∀x y,AH (2*m+2) x->AH (2*m+2) y->ρ x=ρ y->x=y
 r0:ρ 0=2*(m:Int)
 MM:∀x,AH (2*m+2) x->AO (ρ x)=ρ (AO x)
theorem jJ (g:Gn ts hs)(I:hs.length=2*m+2)(a8:m<=14)(hr:rs.length=m)(hu:us.length=ts.length)(R:GA ts.length m π ρ)
  (ad:∀(p:Nat) (t:List Int),ts[p]?=some t->∃u,us[π p]?=some u/\GG (t.map ρ) u)
  (ab:∀x,AH (2*m+2) x->(hm rs)[(ρ x).toNat]?=(hs[x.toNat]?).map π)(a3:∀r∈rs,GW r.2.2):EI ts.length rs us/\Kt us m:=by
 have n4:=g.n4;have a9:=g.Eo;obtain⟨τ,hτ⟩:=R.W4;obtain⟨σ,hσ⟩:=R.Rb;have aa:∀x∈ts.flatten,AH (2*m+2) x:=λx F=>by have:=(g.mem x).mp F;rwa [I]at this
 obtain⟨az,a4⟩:=iZ (ts:=ts) (ρ:=ρ) g.nd (λx F y J=>R.ME x y (aa x F) (aa y J));have ac:((nz ts.length).map λp=>us.getD (π p) []).Perm us:=by
  have:=(Ye R.D1 R.W4 R.lu).map (λq=>us.getD q [])
  rw[pC,<-hu,Y1 us,hu]at this;exact this
 have lw:(ts.map λt=>t.map ρ).length=((nz ts.length).map λp=>us.getD (π p) []).length:=by simp
 have ak:∀(i:Nat) (t u:List Int),(ts.map λt=>t.map ρ)[i]?=some t->((nz ts.length).map λp=>us.getD (π p) [])[i]?=some u->GG t u:=by
  intro i t u h1 h2;rw[nJ]at h1;cases e:ts[i]? with
  |none=>rw[e]at h1;cases h1
  |some t0 =>
   rw[e]at h1;cases h1;have hi:i<ts.length:=(nj.mp e).1;rw[nJ,pY hi]at h2;cases h2;obtain⟨u,af,ag⟩:=ad i t0 e;show GG (t0.map ρ) (us.getD (π i) []);rw[nq,af];exact ag
 obtain⟨au,ax⟩:=dX az lw ak;have pf:=PX lw ak;have a7:us.flatten.Nodup:=ac.flatten.nodup_iff.mp au;have a5:∀x,x∈us.flatten↔AH (2*m+2) x:=by
  intro x;rw[<-ac.flatten.mem_iff,<-pf.mem_iff,LU,nS];constructor
  ·rintro⟨y,J,rfl⟩;exact R.Ow y (aa y J)
  ·intro F;obtain⟨s1,s2⟩:=hσ x F;exact⟨_,(g.mem _).mpr (by rw[I];exact s1),s2⟩
 have T:CY (2*m+2) us:=⟨a7,a5,by lia⟩;have av:∀y,AH (2*m+2) y->pr us (ρ y)=ρ (pr ts y):=by
  intro y J;have aj:y∈ts.flatten:=(g.mem y).mpr (by rw[I];exact J);have ap:ρ y∈(ts.map λt=>t.map ρ).flatten:=by rw[LU];exact nS.mpr ⟨y,aj,U⟩
  rw[ft ac au (pf.mem_iff.mp ap),ax _ ap,a4 y aj]
 have am:∀{q:Nat} {u:List Int},us[q]?=some u->∃p t,p<ts.length/\ts[p]?=some t/\π p=q/\GG (t.map ρ) u:=by
  intro q u h;have hq:q<ts.length:=by rw[<-hu];exact(nj.mp h).1
  obtain⟨t1,t2⟩:=hτ q hq;obtain⟨u',h1,h2⟩:=ad (τ q) _ (nh t1);rw[t2,h]at h1;cases h1;exact⟨τ q,_,t1,nh t1,t2,h2⟩
 have a0:∀{x:Int} {p:Nat},AH (2*m+2) x->hs[x.toNat]?=some p->p<ts.length:=by
  intro x p F h;obtain⟨p',t,h1,_,h2⟩:=g.at (x:=x) (by rw[I];exact F);rw[h]at h2;cases h2;exact(nj.mp h1).1
 have aw:∀{x:Int},AH (2*m+2) x->∃p,hs[x.toNat]?=some p:=λ{x} F=>by
  obtain⟨p',t,_,_,h2⟩:=g.at (x:=x) (by rw[I];exact F);exact⟨p',h2⟩
 have ar:∀{y:Int} {q:Nat},AH (2*m+2) y->(hm rs)[y.toNat]?=some q->q<ts.length:=by
  intro y q J h;obtain⟨s1,s2⟩:=hσ y J;obtain⟨p,hp⟩:=aw s1
  have:=ab _ s1
  rw[s2,h,hp]at this;cases this;exact R.D1 p (a0 s1 hp)
 have ah:∀{k:Nat} {r:AK},rs[k]?=some r->(hm rs)[((2*k:Nat):Int).toNat]?=some r.1/\(hm rs)[((2*k+1:Nat):Int).toNat]?=some r.2.1:=by
  intro k r h;have hk:k<rs.length:=(nj.mp h).1;obtain⟨O,a2⟩:=J8 h;unfold hm;have l0:=HF rs;exact⟨by rw[qe,nX (by rw[l0];lia)];exact O,by rw[qe,nX (by rw[l0];lia)];exact a2⟩
 have al:∀x,AH (2*m+2) x->AS us (ρ x)=ρ (AS ts x):=λx F=>by
  have ho:=DR (n:=2*m+2) (by lia) F;rw[CA,R.MM x F,av _ ho,CA]
 have dz:Mc (AS us) m:=by
  have d0:=g.du;rw[I]at d0;exact iL d0 (λx F=>by have:=g.HM.CN.IU x (by rw[I];exact F);rwa [I]at this) R.Ow R.Rb R.ME R.r0 R.MM al
 have pz:Ck us (2*m+2):=by
  have p0:=g.po;rw[I]at p0;refine gG p0 (λx F=>by have:=g.HM.CN.IU x (by rw[I];exact F);rwa [I]at this) (by lia) R.Ow R.Rb R.ME R.MM al λf ay t ht=>?_
  obtain⟨i,hi,e⟩:=om ht;obtain⟨u,af,ag⟩:=ad i t (by rw[nh hi,e])
  have:=QB (ag.CN.map f)
  rw[ay u (ny af),pC]at this;exact this
 refine⟨⟨by lia,by lia,g.Bn,by lia,hu,by rw[hr];exact T,?_,?_,?_,?_⟩,dz,pz⟩
 ·intro u ae;obtain⟨q,hq,e⟩:=om ae;obtain⟨p,t,_,ht,_,r⟩:=am (show us[q]?=some u by rw[nh hq,e]);intro z
  have:=r.CN.length_eq
  rw[z,nc]at this;exact g.ne t (ny ht) (List.eq_nil_of_length_eq_zero (by simpa using this))
 ·intro r ao;obtain⟨k,hk,e⟩:=om ao;obtain⟨O,a2⟩:=ah (show rs[k]?=some r by rw[nh hk,e]);exact⟨a3 r ao,ar ⟨by lia,by push_cast;lia⟩ O,ar ⟨by lia,by push_cast;lia⟩ a2⟩
 ·intro q u ae y J;obtain⟨p,t,_,ht,eq,r⟩:=am ae;obtain⟨x,F,rfl⟩:=nS.mp (r.CN.mem_iff.mpr J);have ix:=aa x (oC.mpr ⟨t,ny ht,F⟩);rw[ab x ix,g.Dc p t ht x F,<-eq];rfl
 ·intro S h0 hS q hq;obtain⟨t1,t2⟩:=hτ q hq;rw[<-t2];refine g.Cs (λp=>S (π p)) (by show S (π 0);rw[R.p0];exact h0) (λk k1 p' q' e1 e2=>?_) _ t1;have hj:=(nj.mp e2).1;have i1:AH (2*m+2) ((2*k:Nat):Int):=⟨by lia,by push_cast;lia⟩;have i2:AH (2*m+2) ((2*k+1:Nat):Int):=⟨by lia,by push_cast;lia⟩;have o1:AO ((2*k:Nat):Int)=((2*k+1:Nat):Int):=by rw[Hx (by lia)];push_cast;rfl
  have h1:=ab _ i1;have h2:=ab _ i2;rw[qe,e1]at h1;rw[qe,e2]at h2;have r1:=R.Ow _ i1;have ro:=R.MM _ i1;rw[o1]at ro;have z0:AH (2*m+2) 0:=⟨by lia,by push_cast;lia⟩;have z1:AH (2*m+2) 1:=⟨by lia,by push_cast;lia⟩;have a6:ρ 1=2*(m:Int)+1:=by
   have:=R.MM 0 z0
   rw[R.r0,show AO 0=1 from rfl]at this;rw[<-this]
   have:=Hx (n:=2*m) (by lia)
   push_cast at this;exact this
  have n0:ρ ((2*k:Nat):Int)≠2*(m:Int):=λz=>by
   have:=R.ME _ _ i1 z0 (z.trans R.r0.symm)
   lia
  have n1:ρ ((2*k:Nat):Int)≠2*(m:Int)+1:=λz=>by
   have:=R.ME _ _ i1 z1 (z.trans a6.symm)
   lia
  obtain⟨y0,y1⟩:=r1;generalize ρ ((2*k:Nat):Int)=y at h1 ro n0 n1 y0 y1;generalize ρ ((2*k+1:Nat):Int)=y' at h2 ro;have aq:y.toNat / 2<rs.length:=by lia
  obtain⟨O,a2⟩:=ah (nh aq);have ai:=hS _ (oK aq);rw[qe]at O a2;rcases Nat.mod_two_eq_zero_or_one y.toNat with e|e
  ·have ey:y'=y+1:=by rw[<-ro];unfold AO;rw[nF (by lia)]
   rw[show 2*(y.toNat / 2)=y.toNat by lia,h1]at O;rw[show 2*(y.toNat / 2)+1=y'.toNat by lia,h2]at a2;have b1:π p'=rs[y.toNat / 2].1:=nV O;have b2:π q'=rs[y.toNat / 2].2.1:=nV a2;show S (π p')↔S (π q');rw[b1,b2];exact ai
  ·have ey:y'=y-1:=by rw[<-ro];unfold AO;rw[nv (by lia)]
   rw[show 2*(y.toNat / 2)=y'.toNat by lia,h2]at O;rw[show 2*(y.toNat / 2)+1=y.toNat by lia,h1]at a2;have b1:π q'=rs[y.toNat / 2].1:=nV O;have b2:π p'=rs[y.toNat / 2].2.1:=nV a2;show S (π p')↔S (π q');rw[b1,b2];exact ai.symm
abbrev dn(c:Int)(ts:List (List Int)):List (List Int):=ts.map λt=>t.map λx=>x-c
theorem fR(h:x-c=y-c):x=y:=by lia
theorem fv(c:Int)(ts:List (List Int)):(dn c ts).flatten=ts.flatten.map λx=>x-c:=LU _ ts
theorem Ls(h:ts[p]?=some t):(dn c ts)[p]?=some (t.map λx=>x-c):=by rw[nJ,h];rfl
theorem g9(h:(dn c ts)[p]?=some u):∃t,ts[p]?=some t/\u=t.map λx=>x-c:=by
 rw[nJ]at h;cases e:ts[p]? with
 |none=>rw[e]at h;cases h
 |some t=>rw[e]at h;exact⟨t,U,(nV h).symm⟩
theorem iB(c:Int)(ts:List (List Int))(p:Nat)(t:List Int):(dn c ts).set p (t.map λx=>x-c)=dn c (ts.set p t):=by unfold dn;rw[tG]
theorem l5:∀k:Nat,k<40->xw ((k:Int)-2) 1=AO (k:Int)-2:=by decide
theorem XR(h:AH n y)(F:n<=40):xw (y-2) 1=AO y-2:=by
 obtain⟨h1,h2⟩:=h
 have:=l5 y.toNat (by lia)
 rwa [show((y.toNat:Nat):Int)=y by lia]at this
abbrev BK(rs:List AK):List Nat:=[0,1]++Cd rs
structure DI(H:Hp)(R T:Addr)(cs bs:List Addr)(ts:List (List Int))(rs:List AK):Prop where
 tm:GU H T bs (dn 2 ts)
 r1:H R=some (.AE (cs.map V.ref))
 rr:At Bj H cs rs
 rn:R∉T :: bs
theorem DI.keep{R:Addr}(M:DI H R T cs bs ts rs)(s:AM H H'):DI H' R T cs bs ts rs:=⟨M.tm.keep s,s _ _ M.r1,M.rr.keep Dl s,M.rn⟩
theorem DI.bl{R:Addr}(M:DI H R T cs bs ts rs):bs.length=ts.length:=by rw[M.tm.Ci.1,nc]
theorem DI.OW{R b:Addr}(M:DI H R T cs bs ts rs)(F:bs[i]?=some b):DI (AF H b (.AE ((t.map λx=>x-2).map V.int))) R T cs bs (ts.set i t) rs:=by
 have J:b∈bs:=ny F;have I:i<ts.length:=by rw[<-M.bl];exact(nj.mp F).1
 have O:H b=some (.AE ((ts[i].map λx=>x-2).map V.int)):=M.tm.Ci.2 i b _ F (Ls (nh I));refine⟨?_,?_,Po O M.rr,M.rn⟩
 ·have:=M.tm.E8 (t:=t.map λx=>x-2) F
  rw[iB]at this;exact this
 ·rw[As (λz=>M.rn (by rw[z];exact oV _ J))];exact M.r1
theorem DI.new{R l:Addr}(M:DI H R T cs bs ts rs)(F:H l=none):l∉T :: R :: bs:=by
 intro m;rcases nZ.mp m with z|z
 ·rw[z,M.tm.h1]at F;cases F
 ·rcases nZ.mp z with z|z
  ·rw[z,M.r1]at F;cases F
  ·obtain⟨k,I,J⟩:=om z;have O:k<(dn 2 ts).length:=by rw[<-M.tm.Ci.1];exact I
   have:=M.tm.Ci.2 k l (dn 2 ts)[k] (by rw[nh I,J]) (nh O)
   unfold CT at this;rw[F]at this;cases this
theorem DI.more{R l:Addr}(M:DI H R T cs bs ts rs)(O:H l=none):DI (AF (AF H l (.AE ((u.map λx=>x-2).map V.int))) T (.AE (bs.map V.ref++[.ref l]))) R T cs (bs++[l]) (ts++[u]) rs:=by
 have I:=M.new O;refine EK O (.AE ((u.map λx=>x-2).map V.int)) λH1 s1 e1=>?_
 have F:=M.keep s1;have lT:l≠T:=λz=>I (by simp[z])
 have lR:R≠l:=λz=>I (by simp[z])
 have lb:l∉bs:=λz=>I (by simp[z])
 have RT:R≠T:=λz=>M.rn (by simp[z])
 obtain⟨n1,n2⟩:=pj.mp M.tm.nd;exists ⟨by rw[AY];simp,?_,?_⟩,by rw[As RT];exact F.r1,Po F.tm.h1 F.rr
 ·have a1:=F.tm.Ci.snoc (b:=l) (x:=u.map λx=>x-2) e1;rw[show dn 2 (ts++[u])=dn 2 ts++[u.map λx=>x-2] by simp[dn]];refine⟨a1.1,λi b x q1 q2=>?_⟩
  have:=a1.2 i b x q1 q2
  unfold CT at this ⊢;have bT:b≠T:=λz=>by
   subst z;rcases nM.mp (ny q1)with w|w
   ·exact n1 w
   ·exact lT (nU.mp w).symm
  rw[As bT];exact this
 ·rw[pj];exists λz=>?_
  ·rcases nM.mp z with w|w
   ·exact n1 w
   ·exact lT (nU.mp w).symm
  ·rw[pP];refine⟨n2,by simp,λx hx y J z=>?_⟩;rw[nU]at J;subst J;subst z;exact lb hx
 ·intro z;rcases nZ.mp z with w|w
  ·exact RT w
  ·rcases nM.mp w with w|w
   ·exact M.rn (oV _ w)
   ·exact lR (nU.mp w)
theorem DI.Om{R:Addr}(M:DI H R T cs bs ts rs)(J:ys=cs'.map V.ref)(O:At Bj H cs' rs'):DI (AF H R (.AE ys)) R T cs' bs ts rs':=by
 subst J;refine⟨⟨?_,⟨M.tm.Ci.1,λi b x F I=>?_⟩,M.tm.nd⟩,AY,Po M.r1 O,M.rn⟩
 ·rw[As (λz=>M.rn (by rw[z];exact qr ..))];exact M.tm.h1
 ·show AF H R _ b=_;rw[As (λz=>M.rn (by rw[<-z];exact oV _ (ny F)))];exact M.tm.Ci.2 i b x F I
theorem fB{k x:Nat}(h:rs[k]?=some r):Cd (rs.set k (r.1,x,q))=(Cd rs).set (2*k+1) x:=by
 induction rs generalizing k with
 |nil=>simp at h
 |cons r0 rs ih =>
  cases k with
  |zero=>cases h;rfl
  |succ k =>
   have:=ih (k:=k) (by simpa using h)
   show r0.1 :: r0.2.1 :: Cd (rs.set k (r.1,x,q))=(r0.1 :: r0.2.1 :: Cd rs).set (2*(k+1)+1) x;rw[this,show 2*(k+1)+1=2*k+1+1+1 by lia];rfl
open Wd
structure PD(m:Nat)(o:Nat->Nat):Prop where
 lt:∀{k},k<m->o k<m
 inj:∀{k j},k<m->j<m->o k=o j->k=j
 MU:∀{q},q<m->∃k,k<m/\o k=q
theorem Qn{os:List Int}(h:os.Perm (Dx m)):PD m (ix os):=by
 refine⟨λI=>L7 h I,λ{k j} I F e=>?_,λ{q} hq=>?_⟩
 ·have a:=rM (qg.mpr (JK h I));have b:=rM (qg.mpr (JK h F));have J:os.idxOf (k:Int)=os.idxOf (j:Int):=e;simp only[J]at a
  lia
 ·obtain⟨j,F,e⟩:=Q8 h hq;exact⟨j,F,Q5 h e⟩
def EG(m:Nat)(o:Nat->Nat)(z:Nat->Int)(x:Int):Int :=
 if x<2 then 2*(m:Int)+x else if x%2=0 then 2*(o ((x.toNat-2) / 2):Int)+z ((x.toNat-2) / 2) else 2*(o ((x.toNat-2) / 2):Int)+1-z ((x.toNat-2) / 2)
variable {m n:Nat}{o pi:Nat->Nat}{z:Nat->Int}
theorem IM:EG m o z 0=2*(m:Int):=by unfold EG;rw[nF (by decide)];lia
theorem JP:EG m o z 1=2*(m:Int)+1:=by unfold EG;rw[nF (by decide)]
theorem IK(k:Nat):EG m o z (2*(k:Int)+2)=2*(o k:Int)+z k:=by
 unfold EG;rw[nv (by lia),nF (by lia),show((2*(k:Int)+2).toNat-2) / 2=k by lia]
theorem IJ(k:Nat):EG m o z (2*(k:Int)+3)=2*(o k:Int)+1-z k:=by
 unfold EG;rw[nv (by lia),nv (by lia),show((2*(k:Int)+3).toNat-2) / 2=k by lia]
theorem J3(h:AH (2*m+2) x):x=0\/x=1\/∃k:Nat,k<m/\(x=2*(k:Int)+2\/x=2*(k:Int)+3):=by
 obtain⟨h1,h2⟩:=h;rcases tE x 2 with v|v
 ·lia
 ·exact .inr (.inr ⟨(x.toNat-2) / 2,by lia,by lia⟩)
theorem jY(F:∀k,z k=0\/z k=1)(J:PD m o)(hp:PD n pi)(p0:pi 0=0)(p1:pi 1=1):GA n m pi (EG m o z):=by
 have ac:∀x,AH (2*m+2) x->AH (2*m+2) (EG m o z x):=by
  intro x hx;rcases J3 hx with rfl|rfl|⟨k,I,rfl|rfl⟩
  ·rw[IM];exact⟨by lia,by push_cast;lia⟩
  ·rw[JP];exact⟨by lia,by push_cast;lia⟩
  ·rw[IK]
   have:=J.lt I
   rcases F k with f|f<;>(rw[f];exact⟨by lia,by push_cast;lia⟩)
  ·rw[IJ]
   have:=J.lt I
   rcases F k with f|f<;>(rw[f];exact⟨by lia,by push_cast;lia⟩)
 have aa:∀y,∃x,AH (2*m+2) y->AH (2*m+2) x/\EG m o z x=y:=by
  intro y;by_cases hy:AH (2*m+2) y
  ·have ab:=hy;obtain⟨h1,h2⟩:=ab;push_cast at h2;by_cases e0:y=2*(m:Int)
   ·exact⟨0,λ_=>⟨⟨by lia,by push_cast;lia⟩,by rw[IM,e0]⟩⟩
   by_cases e1:y=2*(m:Int)+1
   ·exact⟨1,λ_=>⟨⟨by lia,by push_cast;lia⟩,by rw[JP,e1]⟩⟩
   obtain⟨k,I,ek⟩:=J.MU (q:=y.toNat / 2) (by lia);rcases(show y%2=0\/y%2=1 by lia)with v|v<;>rcases F k with f|f
   ·exact⟨2*(k:Int)+2,λ_=>⟨⟨by lia,by push_cast;lia⟩,by rw[IK,f,ek];lia⟩⟩
   ·exact⟨2*(k:Int)+3,λ_=>⟨⟨by lia,by push_cast;lia⟩,by rw[IJ,f,ek];lia⟩⟩
   ·exact⟨2*(k:Int)+3,λ_=>⟨⟨by lia,by push_cast;lia⟩,by rw[IJ,f,ek];lia⟩⟩
   ·exact⟨2*(k:Int)+2,λ_=>⟨⟨by lia,by push_cast;lia⟩,by rw[IK,f,ek];lia⟩⟩
  ·exact⟨0,λv=>absurd v hy⟩
 have ad:∀x y,AH (2*m+2) x->AH (2*m+2) y->EG m o z x=EG m o z y->x=y:=by
  have io:∀{k j:Nat},k<m->j<m->o k=o j->k=j:=λh1 h2=>J.inj h1 h2
  intro x y hx hy e;rcases J3 hx with rfl|rfl|⟨k,I,rfl|rfl⟩<;>rcases J3 hy with rfl|rfl|⟨j,O,rfl|rfl⟩<;>simp only[IM,JP,IK,IJ]at e
  ·rfl
  ·lia
  ·have:=J.lt O;have:=F j;lia
  ·have:=J.lt O;have:=F j;lia
  ·lia
  ·rfl
  ·have:=J.lt O;have:=F j;lia
  ·have:=J.lt O;have:=F j;lia
  ·have:=J.lt I;have:=F k;lia
  ·have:=J.lt I;have:=F k;lia
  ·have:=F k;have:=F j
   have:=io I O (by lia)
   lia
  ·have:=F k;have:=F j
   have:=io I O (by lia)
   subst this
   lia
  ·have:=J.lt I;have:=F k;lia
  ·have:=J.lt I;have:=F k;lia
  ·have:=F k;have:=F j
   have:=io I O (by lia)
   subst this
   lia
  ·have:=F k;have:=F j
   have:=io I O (by lia)
   lia
 refine⟨p0,p1,λp h=>hp.lt h,?_,λp q h1 h2 e=>hp.inj h1 h2 e,ac,⟨λy=>zw (aa y),λy hy=>xx (aa y) hy⟩,ad,IM,λx hx=>?_⟩
 ·have ex:∀q,∃k,q<n->k<n/\pi k=q:=λq=>by
   by_cases h:q<n
   ·obtain⟨k,I⟩:=hp.MU h;exact⟨k,λ_=>I⟩
   ·exact⟨0,λv=>absurd v h⟩
  exact⟨λq=>zw (ex q),λq hq=>xx (ex q) hq⟩
 ·rcases J3 hx with rfl|rfl|⟨k,I,rfl|rfl⟩
  ·rw[show AO 0=1 from rfl,IM,JP];unfold AO;rw[nF (by lia)]
  ·rw[show AO 1=0 from rfl,IM,JP];unfold AO;rw[nv (by lia)];lia
  ·rw[show AO (2*(k:Int)+2)=2*(k:Int)+3 by unfold AO;rw[nF (by lia)];lia,IK,IJ];rcases F k with f|f<;>(rw[f];unfold AO;split<;>lia)
  ·rw[show AO (2*(k:Int)+3)=2*(k:Int)+2 by unfold AO;rw[nv (by lia)];lia,IK,IJ];rcases F k with f|f<;>(rw[f];unfold AO;split<;>lia)
def Il(pi:Nat->Nat)(z:Int)(r:AK):AK:=if z=0 then (pi r.1,pi r.2.1,r.2.2) else (pi r.2.1,pi r.1,r.2.2)
theorem iJ(J:∀k,z k=0\/z k=1)(hr:rs.length=m)(aa:rs'.length=m)(ho:PD m o)(p0:pi 0=0)(p1:pi 1=1)(h:∀(k:Nat) (r:AK),rs[k]?=some r->rs'[o k]?=some (Il pi (z k) r)):
  ∀x,AH (2*m+2) x->(hm rs')[(EG m o z x).toNat]?=((BK rs)[x.toNat]?).map pi:=by
 have F:=HF rs';have l1:=HF rs;intro x O;rcases J3 O with rfl|rfl|⟨k,hk,e⟩
 ·rw[IM];unfold hm;rw[nW (by rw[F];lia),F,show(2*(m:Int)).toNat-2*rs'.length=0 by lia];show some 0=some (pi 0);rw[p0]
 ·rw[JP];unfold hm;rw[nW (by rw[F];lia),F,show(2*(m:Int)+1).toNat-2*rs'.length=1 by lia];show some 1=some (pi 1);rw[p1]
 ·have I:rs[k]?=some rs[k]:=nh (by lia  );generalize rs[k]=r at I;have ab:=ho.lt hk;obtain⟨b1,b2⟩:=J8 I;obtain⟨a1,a2⟩:=J8 (h k r I);have c1:(BK rs)[2*k+2]?=some r.1:=by
   show(0 :: 1 :: Cd rs)[2*k+1+1]?=_;rw[qx,qx];exact b1
  have c2:(BK rs)[2*k+3]?=some r.2.1:=by
   show(0 :: 1 :: Cd rs)[2*k+1+1+1]?=_;rw[qx,qx];exact b2
  have d1:(hm rs')[2*o k]?=some (Il pi (z k) r).1:=by unfold hm;rw[nX (by rw[F];lia)];exact a1
  have d2:(hm rs')[2*o k+1]?=some (Il pi (z k) r).2.1:=by unfold hm;rw[nX (by rw[F];lia)];exact a2
  unfold Il at d1 d2;rcases e with rfl|rfl
  ·rw[IK,show(2*(k:Int)+2).toNat=2*k+2 by lia,c1];rcases J k with f|f
   ·rw[f,show(2*(o k:Int)+0).toNat=2*o k by lia,d1,nF f];rfl
   ·rw[f,show(2*(o k:Int)+1).toNat=2*o k+1 by lia,d2,nv (by lia)];rfl
  ·rw[IJ,show(2*(k:Int)+3).toNat=2*k+3 by lia,c2];rcases J k with f|f
   ·rw[f,show(2*(o k:Int)+1-0).toNat=2*o k+1 by lia,d2,nF f];rfl
   ·rw[f,show(2*(o k:Int)+1-1).toNat=2*o k by lia,d1,nv (by lia)];rfl
inductive KS(F:List V)(H:Hp)(Q:VK)(_:XK):Prop
 |mk (t b:Int) (J:F=[.int t,.int b]) (I:0<b) (O:Ba b) (aa:OZ H Q ((t:Rat) / (b:Rat)))
theorem Oe:Az ["_law_top","_law_bottom","_law_one","_law_other"] ["_law_top","_law_bottom"] (Ak sLow):=A9
theorem jd(a:Int):(if a<0 then -a else a)=(a.natAbs:Int):=by split<;>lia
theorem cD(F:0<y):pN y (x%y)=pN x y:=by
 have:=TR x y
 rwa [vS x (yr F)]at this
theorem iu(F:Aq K "_law_low" "_law_low" sLow f fd)(ma:mg "abs" = none):Am P w K mg base Aw 1 f fd ["_law_top","_law_bottom"] KS:=by
 refine F.BD Oe λii A _ s H vs Q E hr h=>?_
 obtain⟨t,b,rfl,hb,bb,q⟩:=h;exists _,AN (Aa 2 Oe (CV Td (by rfl) ma iq (AA (pv 0) AD)))
  (AN (Aa 3 Oe (pv 1))
  (AN (Jq oB (Bb HP (pv 3) AB) (AX (iR (i:=2) (j:=3) rfl Oe.nd rfl rfl (by decide) rfl rfl (AA (pv 3) (AA (AL Ce (pv 2) (pv 3)) AD)) rfl)))
  (AX (Ar (Bl (AA (AL Hw (pv 0) (pv 2)) (AA (AL Hw (pv 1) (pv 2)) AD)))))))
 exists _,U,t,U,_,rfl;rw[jd];refine Jp (λσ H2=>∃x y,σ=[some (.int t),some (.int b),some (.int x),some (.int y)]/\H2=H/\0<=x/\0<=y/\pN x y=pN t b) (λσ _=>match σ with | [_,_,_,some (.int y)]=>y.natAbs|_=>0) ⟨_,_,U,U,by lia,by lia,by unfold pN;simp⟩ ?_ ?_
 ·rintro σ H2 ⟨x,y,rfl,rfl,x0,y0,gg⟩;exists _,U,U,_,rfl;by_cases O:y=0
  ·refine E3 (iv O) ?_;subst O;have gx:x=(pN t b:Int):=by
    have:=Ub gg
    rw[nv (by lia)]at this;exact this
   have pe:Mth.BJ t b=x:=by unfold Mth.BJ;rw[nv (by lia),gx]
   have gp:0<pN t b:=Mth.Nk t b (by lia);have hx:JQ t x:=⟨by lia,by rw[<-pe];exact qh (UT t b (by lia)) bb⟩;have I:=FI t b (by lia);unfold BV at I;rw[pe]at I;have e1:=congrArg wI I;have e2:=congrArg xR I;simp only at e1 e2;exists _,U,_,U,_,_,U,U,hx,_,U,_,U,_,_,U,U,hx,by exact CQ
   (try dsimp only)
   rw[e1,e2];exact q
  ·refine KW (Fi O) ?_;have J:0<y:=by lia
   have m0:=pS x (yt J);have m1:=pH x J;exists _,U,_,U,_,U,_,_,U,U,J,_,_,U,⟨y,x%y,U,U,y0,m0,(cD J).trans gg⟩;show(x%y).natAbs<y.natAbs
   lia
 ·rintro σ H2 Q1 Q2 hq ⟨v,e,sc,b,eb,z⟩;exact⟨v,e,sc,b,eb,hq _ _ z⟩
theorem Xa(p q:Rat):0<(p.den:Int)*(q.den:Int):=by
 have hp:=p.den_nz;have F:=q.den_nz;exact vD (by lia) (by lia)
theorem j9(p q:Rat):(((p.num*q.den+q.num*p.den:Int)):Rat) / (((p.den:Int)*(q.den:Int):Int):Rat)=p+q:=by
 have h:=Qs p q;rw[FI _ _ (Ie p q)]at h;exact V4 h
theorem kF(p q:Rat):(((p.num*q.num:Int)):Rat) / (((p.den:Int)*(q.den:Int):Int):Rat)=p*q:=by
 have h:=Qr p q;rw[FI _ _ (Ie p q)]at h;exact V4 h
theorem ke:Az ["_law_one","_law_other"] ["_law_one","_law_other"] (Ak sLAdd):=A9
theorem mC:Az ["_law_one","_law_other"] ["_law_one","_law_other"] (Ak sLMul):=A9
theorem cO(F:Aq K "_law_add" "_law_add" sLAdd f fd)(G:Ad P w K mg base 1 "_law_low" ["_law_top","_law_bottom"] KS):
  Am P w K mg base Aw 2 f fd ["_law_one","_law_other"] (Cg λx y=>x+y):=by
 refine F.ok ke (λvs H Q E h=>?_) (λii A _ s H vs Q E hr h=>?_)
 ·obtain⟨p,q,x,y,rfl,_⟩:=h;rfl
 obtain⟨p,q,x,y,rfl,hp,O,J,I,k⟩:=h;exists _,AX (Ar (AZ G (AA (AL BY (AL Cz (pT (pv 0) AB) (pT (pv 1) AB)) (AL Cz (pT (pv 1) AB) (pT (pv 0) AB)))
  (AA (AL Cz (pT (pv 0) AB) (pT (pv 1) AB)) AD))))
 exists _,U,p,_,_,_,U,U,AJ.of hp,BC,_,U,q,_,_,_,U,U,AJ.of O,Ay,_,_,U,U,⟨J.n,I.d⟩,_,U,q,_,_,_,U,U,AJ.of O,BC,_,U,p,_,_,_,U,U,AJ.of hp,Ay,_,_,U,U,⟨I.n,J.d⟩,_,_,U,U,
  _,U,p,_,_,_,U,U,AJ.of hp,Ay,_,U,q,_,_,_,U,U,AJ.of O,Ay,_,_,U,U,⟨J.d,I.d⟩,_,_,U,Xa x y,Sf.dd J I
 rw[j9];exact k
theorem dS(F:Aq K "_law_mul" "_law_mul" sLMul f fd)(G:Ad P w K mg base 1 "_law_low" ["_law_top","_law_bottom"] KS):
  Am P w K mg base Aw 2 f fd ["_law_one","_law_other"] (Cg λx y=>x*y):=by
 refine F.ok mC (λvs H Q E h=>?_) (λii A _ s H vs Q E hr h=>?_)
 ·obtain⟨p,q,x,y,rfl,_⟩:=h;rfl
 obtain⟨p,q,x,y,rfl,hp,O,J,I,k⟩:=h;exists _,AX (Ar (AZ G (AA (AL Cz (pT (pv 0) AB) (pT (pv 1) AB))
  (AA (AL Cz (pT (pv 0) AB) (pT (pv 1) AB)) AD))))
 exists _,U,p,_,_,_,U,U,AJ.of hp,BC,_,U,q,_,_,_,U,U,AJ.of O,BC,_,_,U,U,⟨J.n,I.n⟩,
  _,U,p,_,_,_,U,U,AJ.of hp,Ay,_,U,q,_,_,_,U,U,AJ.of O,Ay,_,_,U,U,⟨J.d,I.d⟩,_,_,U,Xa x y,Sf.dd J I
 rw[kF];exact k
inductive U2(F:List V)(H:Hp)(Q:VK)(_:XK):Prop
 |mk (i:Int) (J:F=[.int i]) (I:Q (.bl true) H)
theorem kr:Az ["_law_found"] ["_law_found"] (Ak sWhole):=A9
theorem aK(F:Aq K "_law_whole" "_law_whole" sWhole f fd)(ms:mg "isinstance" = none)(I:mg "int" = none)(J:mg "bool" = none):Am P w K mg base Aw 1 f fd ["_law_found"] U2:=by
 refine F.BD kr λii A outer s H O Q E hr h=>?_
 obtain⟨i,rfl,q⟩:=h;exists _,AX (Ar (Qu (CV (LR (c:=.ty "int") (cv:=.type "int") λ_ z=>z) (by rfl) ms K6 (AA (pv 0) (AA (LX (v:=.ty "int") (by rfl) I jM rfl) AD)))
  (Ql (iE (CV (LR (c:=.ty "bool") (cv:=.type "bool") λ_ z=>z) (by rfl) ms K6 (AA (pv 0) (AA (LX (v:=.ty "bool") (by rfl) J eZ rfl) AD)))))))
 refine⟨_,U,_,_,_,U,Df.int i,NL K _,_,U,EV ?_⟩;exact⟨_,U,_,_,_,U,Df.int i,X5 K,_,U,q⟩
inductive Qi(F:List V)(H:Hp)(Q:VK)(_:XK):Prop
 |mk (p:Addr) (q:Rat) (J:F=[.ref p]) (I:AU H p q) (O:Ba (q.den:Int)) (aa:∀H',AM H H'->Q (.bl true) H')
theorem mF:Az ["_law_found"] ["_law_found"] (Ak sLFrac):=A9
theorem bC (F : Aq K "_law_fraction" "_law_fraction" sLFrac f fd) (G : Ad P w K mg base 1 "_law_low" ["_law_top", "_law_bottom"] KS)
    (O:Ad P w K mg base 1 "_law_whole" ["_law_found"] U2) (ms:mg "isinstance" = none) (mt:mg "tuple" = none) (ml:mg "len" = none) :
    Am P w K mg base Aw 2 f fd ["_law_found"] Qi:=by
  refine F.BD mF λii A _ s H vs Q E hr h => ?_
  obtain⟨p, q, rfl, hp, bd, k⟩ := h;have hu : (A.deeper (t7 "_law_fraction" (Ak sLFrac) s.heap.objs.size f ii)).units + 64 < cLine := hr.units;exists _, AN (Bq (PW.pt (Fx (JH (HJ (CV (LR (c := .ty "tuple") (cv := .type "tuple") λ_ z => z) (by rfl) ms K6 (AA (pv 0) (AA (LX (v := .ty "tuple") (by rfl) mt Et rfl) AD)))))
        (Fx (Bb HP (C7 ml (pv 0)) AB)
        (Fx (JH (HJ (AZ O (AA (pT (pv 0) AB) AD))))
        (JE (JH (HJ (AZ O (AA (pT (pv 0) AB) AD))))))))) (AX (Ar Ke)) By)
    (AX (Ar (Qu (K3 OI (pT (pv 0) AB) AB) (Ql (K3 (Sh hu) (AZ G (AA (pT (pv 0) AB) (AA (pT (pv 0) AB) AD))) (pv 0))))))
  have I:(0:Int)<(q.den:Int):=by have:=q.den_nz;lia
  refine⟨_,rfl,_,_,_,rfl,Df.AG hp,NL K _,_,rfl,Cr ?_⟩;refine⟨_,rfl,p,_,rfl,.inr (AJ.of hp),rfl,_,rfl,Cr ?_⟩;refine⟨_,rfl,p,_,_,_,rfl,rfl,AJ.of hp,BC,_,rfl,_,rfl,Cr ?_⟩;refine⟨_,rfl,p,_,_,_,rfl,rfl,AJ.of hp,Ay,_,rfl,_,rfl,Cr ?_⟩;refine⟨_,rfl,p,_,_,_,rfl,rfl,AJ.of hp,Ay,_,_,rfl,rfl,_,rfl,C4 I ?_⟩;exists _,rfl,p,_,_,_,rfl,rfl,AJ.of hp,BC,_,rfl,p,_,_,_,rfl,rfl,AJ.of hp,Ay,q.num,q.den,rfl,I,bd;rw[i3];intro t J;exists _,rfl,t,p,[q.num,q.den],[q.num,q.den],rfl,rfl,AY,Ae J _ _ _ hp;rw[qm rfl];exact k _ (Ae J _)
inductive UE(I:List V)(H:Hp)(Q:VK)(_:XK):Prop
 |mk (p:Addr) (F:List Rat) (m:Int) (ab:I=[.ref p,.int m]) (J:A4 AU H p F) (ac:m=F.length) (ad:F.length<=1000) (aa:(∀q∈F,Ba (q.den:Int))) (O:∀H',AM H H'->Q (.bl true) H')
theorem lQ:Az ["_law_found","_law_many"] ["_law_found","_law_many"] (Ak sLFracs):=A9
theorem kI:(["_law_one"]:List Str).Nodup:=by decide +kernel
theorem Yr (F : Aq K "_law_fractions" "_law_fractions" sLFracs f fd) (G : Ad P w K mg base 2 "_law_fraction" ["_law_found"] Qi) (ms : mg "isinstance" = none) (mt : mg "tuple" = none)
    (ml:mg "len" = none) (ma:mg "all" = none):Am P w K mg base Aw 3 f fd ["_law_found","_law_many"] UE:=by
  refine F.BD lQ λii A _ s H vs Q E hr h => ?_
  obtain⟨p, qs, m, rfl, ⟨bs, hp, I⟩, rfl, hn, hb, q⟩ := h;exists _, AN (Bq (PW.pt (Fx (JH (HJ (CV (LR (c := .ty "tuple") (cv := .type "tuple") λ_ z => z) (by rfl) ms K6 (AA (pv 0) (AA (LX (v := .ty "tuple") (by rfl) mt Et rfl) AD)))))
        (JE (Bb HP (C7 ml (pv 0)) (pv 1))))) (AX (Ar Ke)) By)
    (AX (Ar (CV (Y4 rfl) (by rfl) ma jh (AA (Dk (Nc := ["_law_one"]) (cap := []) (g := BU 0) (te := EA Qi [] E0 (BP (Al 0) CH)) rfl (D9 (pv 0))
      Cn (λ_ _ _ _ _=>B9 (i:=0) kI rfl (p8 rfl)) (λ_ _ _ _ _=>AZ G (AA (pv 0) AD))) AD))))
  refine⟨_,rfl,_,_,_,rfl,Df.AG hp,NL K _,_,rfl,Cr ?_⟩;exists _,rfl,p,_,rfl,.inr (AJ.of hp),_,rfl,rfl,_,rfl;refine E3 (by rw[nc,I.1]) ?_;refine⟨_,rfl,p,rfl,⟨_,AJ.of hp⟩,λac aa => ?_⟩;refine Cy (HG hp) (by rw[nc,I.1];exact hn) aa (λi ys σ _=>ys=(nQ i true).map V.bl /\ ∃u,σ=[u]) ⟨U,none,rfl⟩ ?_ ?_
  · rintro i ys σ H2 x H3 hi O ad ⟨J,u,rfl⟩ ⟨rfl,hx⟩ Cc hC;obtain⟨c,y,rfl,_,hy,hB⟩:=I.ref hx;refine⟨_,rfl,c,y,rfl,Ao O hB,hb y (ny hy),λH4 s4=>hC _ _ _ s4 ⟨?_,_,rfl⟩⟩;rw[J,u0,nY];rfl
  · rintro ys σ H2 O ab hl ⟨J,_⟩;refine⟨ac,nQ (bs.map V.ref).length true,rfl,AR.of (by rw[ab,J]),?_⟩;rw[show(nQ (bs.map V.ref).length true).all id=true by simp];exact q H2 O
theorem iF{t b:Int}(F:0<b)(h1:t.natAbs<=2 ^ n)(h2:b.natAbs<=2 ^ d):Sb n d ((t:Rat) / (b:Rat)):=KY (by lia) h1 h2 (FI t b (by lia))
theorem T6{t b:Int}(O:0<t)(ab:t<1000)(hb:0<b)(aa:b<1000):GW ((t:Rat) / (b:Rat)):=by
 have e:=FI t b (by lia);have I:=Ze t b (by lia);have F:=Yq t b (by lia);have c:=SK t b;have d:=UD t b (by lia);rw[e]at I F c d;dsimp only at I F c d;generalize ((t:Rat) / (b:Rat))=q at I F c d;have J:0<q.num:=by
  rcases tE 0 q.num with h|h
  ·exact h
  ·have h1:0<t*(q.den:Int):=vD O d;have h2:q.num*b<=0:=uH h (by lia)
   lia
 exact⟨J,by lia,by lia⟩
inductive Qj(F:List V)(H:Hp)(Q:VK)(_:XK):Prop
 |mk (z:Int) (J:F=[.int z]) (I:∀q,GW q->OZ H Q q)
theorem mE:Az ["_law_cell_here"] ["_law_cell_here"] (Ak sLEase):=A9
theorem gQ(F:Aq K "_law_ease" "_law_ease" sLEase f fd)(G:Ad P w K mg base 1 "_law_low" ["_law_top","_law_bottom"] KS):
  Am P w K mg base Aw 2 f fd ["_law_cell_here"] Qj:=by
 refine F.BD mE λii A _ s H vs Q E hr h=>?_
 obtain⟨z,rfl,k⟩:=h;exists _,AN (Bq (Bb FV (AL Ce (pv 0) AB) AB)
   (AX (Ar (AZ G (AA (AL BY AB (AL Ce (AL FN (pv 0) AB) AB)) (AA (AL BY AB (AL Ce (AL FN (pv 0) AB) AB)) AD))))) By)
  (AN (Bq (Bb FV (AL Ce (pv 0) AB) AB) (AX (Ar (Bl (AA AB (AA AB AD))))) By)
  (AX (Ar (AZ G (AA (AL BY AB (AL Ce (AL FN (pv 0) AB) AB)) (AA (AL BY AB (AL Ce (AL FN (pv 0) AB) AB)) AD))))))
 refine⟨_,U,_,_,U,U,(show(0:Int)<4 by decide),U,_,U,?_⟩;refine Oi (λ_=>?_) (λ_=>?_)
 ·exists _,U,_,_,U,U,⟨by decide,by decide⟩,_,_,U,U,(show(0:Int)<999 by decide),_,_,U,U,
   _,U,_,_,U,U,⟨by decide,by decide⟩,_,_,U,U,(show(0:Int)<999 by decide),_,_,U,rfl
  have e1:=pS (z / 4) (show(999:Int)≠0 by decide);have J:=pH (z / 4) (show(0:Int)<999 by decide);have O:=pS (z / 3996) (show(999:Int)≠0 by decide);have I:=pH (z / 3996) (show(0:Int)<999 by decide);exact⟨_,_,U,by lia,EE (n:=17) (by lia) (by decide),k _ (T6 (by lia) (by lia) (by lia) (by lia))⟩
 ·refine⟨_,U,_,_,U,U,(show(0:Int)<4 by decide),U,_,U,?_⟩;refine Oi (λ_=>?_) (λ_=>?_)
  ·exact⟨by exact CQ,λt ht=>k 1 ⟨by decide,by decide,by decide⟩ t ht⟩
  ·exists _,U,_,_,U,U,⟨by decide,by decide⟩,_,_,U,U,(show(0:Int)<12 by decide),_,_,U,U,
    _,U,_,_,U,U,⟨by decide,by decide⟩,_,_,U,U,(show(0:Int)<4 by decide),_,_,U,rfl
   have e1:=pS (z / 4) (show(12:Int)≠0 by decide);have J:=pH (z / 4) (show(0:Int)<12 by decide);have O:=pS (z / 48) (show(4:Int)≠0 by decide);have I:=pH (z / 48) (show(0:Int)<4 by decide);exact⟨_,_,U,by lia,EE (n:=17) (by lia) (by decide),k _ (T6 (by lia) (by lia) (by lia) (by lia))⟩
end
end My
namespace My
open PySem L2 Mth
variable {L:List (Int×Int)}{ts:List (List Int)}{t1 t2 zs:List Int}
section
variable {P:oT}{w:World}{K:nI}{mg:Str->Option Value}{base:Heap}{f g h f1 f2:Addr}{fd gd hd d1 d2:qf}
inductive Nw(F:List V)(H:Hp)(Q:VK)(_:XK):Prop
 |mk (T:Addr) (bs:List Addr) (ts:List (List Int)) (e:Int) (ac:F=[.ref T,.int e]) (ab:GU H T bs ts) (J:ts.length<=1000) (I:(∀t∈ts,t.length<=1000)) (O:e∈ts.flatten) (aa:∀q H' p t1 t2,AM H H'->ts[p]?=some (t1++e :: t2)->e∉t1->H' q=some (.AG [.int ((p:Nat):Int),.int ((t1.length:Nat):Int)])->Q (.ref q) H')
theorem W0:Az ["_law_turns","_law_end","_law_place"] ["_law_turns","_law_end"] (Ak sSpot):=A9
theorem gU(F:Aq K "_law_spot" "_law_spot" sSpot f fd)(ml:mg "len" = none)(mr:mg "range" = none):Am P w K mg base Aw 1 f fd ["_law_turns","_law_end"] Nw:=by
 refine F.BD W0 λii A _ s H vs Q E hr h=>?_
 obtain⟨T,bs,ts,e,rfl,M,hl,ht,hf,q⟩:=h;exists _,AN (CS oB rfl (Hu (by rfl) mr (AA (C7 ml (pv 0)) AD)) (BL 2 W0)
   (AX (Bq (VA Yj (pv 1) (pL (pv 0) (pv 2)) (by with_unfolding_all rfl))
    (AX (Ar (Bl (AA (pv 2) (AA (Dn oO ti uF P6 (pL (pv 0) (pv 2)) (AA (pv 1) AD)) AD))))) By)))
  (AX (Ar (Bl (AA AB (AA AB AD)))))
 have lb:bs.length=ts.length:=M.Ci.1;refine⟨_,U,T,_,U,.inl (AR.of M.h1),((ts.length:Nat):Int),by rw[nc,lb],by lia,by lia,?_⟩;rw[show((ts.length:Nat):Int).toNat=ts.length by lia];refine Io (n:=ts.length) (λi σ H2=>H2=H/\(∃u,σ=[some (.ref T),some (.int e),u])/\∀j t,j<i->ts[j]?=some t->e∉t) ⟨U,⟨none,U⟩,λj t h=>by lia⟩ ?_ ?_
 ·rintro i σ H2 hi ⟨rfl,⟨u,rfl⟩,hz⟩;have J:ts[i]?=some ts[i]:=nh hi;have tl:=ht _ (oK hi);generalize ts[i]=t at J tl;obtain⟨b,hb,O⟩:=M.Ci.BZ J;have ab:(0:Int)+(i:Int)=((i:Nat):Int):=by lia
  have e1:Bt (bs.map V.ref) ((0:Int)+(i:Int))=some (.ref b):=by rw[ab];exact Be (CW hb)
  exists _,U,_,U,_,U,T,_,_,_,U,U,AR.of M.h1,e1,b,_,U,.inl (AR.of O),U,ZQ _,_,rfl;rw[nv (by decide:¬(false=true)),aN];by_cases I:e∈t
  ·refine C4 I ?_;refine⟨_,U,_,U,_,U,T,_,_,_,U,U,AR.of M.h1,e1,.inl ⟨U,_,AR.of O⟩,_,U,b,t,e,U,U,O,I,oa tl (by decide),by exact CQ,λp hp=>?_⟩;obtain⟨t1,t2,rfl,nm⟩:=Pw I;refine q p _ i t1 t2 (Ae hp _) J nm ?_;rw[AY,ab,LW nm]
  ·refine DC I ⟨U,⟨_,U⟩,λj t' hj aa=>?_⟩;rcases oP j i with h3|h3
   ·exact hz j t' h3 aa
   ·obtain rfl:j=i:=by lia
    rw[J]at aa;cases aa;exact I
 ·rintro σ H2 ⟨rfl,⟨u,rfl⟩,hz⟩
  exfalso
  obtain⟨t,ac,I⟩:=oC.mp hf;obtain⟨j,hj,ej⟩:=om ac;exact hz j t hj (by rw[nh hj,ej]) I
theorem Qx(h:∀t∈ts,t.length<=1000):∀t∈dn 2 ts,t.length<=1000:=λt I=>by
 obtain⟨u,F,rfl⟩:=nS.mp I;rw[nc];exact h u F
theorem aO(h:t.map (λy=>y-c)=t1++(x-c) :: t2):∃u1 u2,t=u1++x :: u2/\u1.length=t1.length:=by
 obtain⟨u1,u,rfl,J,I⟩:=List.map_eq_append_iff.mp h;obtain⟨y,u2,rfl,F,O⟩:=List.map_eq_cons_iff.mp I;exact⟨u1,u2,by rw[fR F],by rw[<-J,nc]⟩
theorem QN{p:Nat}(h:(dn 2 ts)[p]?=some (t1++(x-2) :: t2)):∃u1 u2,ts[p]?=some (u1++x :: u2)/\u1.length=t1.length:=by
 obtain⟨t,F,e⟩:=g9 h;obtain⟨u1,u2,rfl,l⟩:=aO e.symm;exact⟨u1,u2,F,l⟩
theorem RA(h:x∈ts.flatten):x-2∈(dn 2 ts).flatten:=by rw[fv];exact nS.mpr ⟨x,h,U⟩
inductive WD(F:List V)(H:Hp)(Q:VK)(_:XK):Prop
 |mk (T:Addr) (bs:List Addr) (ts:List (List Int)) (n:Nat) (y:Int) (aa:F=[.ref T,.int (y-2)]) (I:GU H T bs (dn 2 ts)) (ab:CY n ts) (ac:ts.length<=1000) (O:n<=40) (J:AH n y) (ad:∀H',AM H H'->Q (.int (AS ts y-2)) H')
theorem RO:Az ["_law_turns","_law_end","_law_place","_law_at"] ["_law_turns","_law_end"] (Ak sNext):=A9
theorem eY(F:Aq K "_law_next" "_law_next" sNext f fd)(G:Ad P w K mg base 1 "_law_spot" ["_law_turns","_law_end"] Nw):
  Am P w K mg base Aw 2 f fd ["_law_turns","_law_end"] WD:=by
 refine F.BD RO λii A _ s H vs Q E hr h=>?_
 obtain⟨T,bs,ts,n,y,rfl,M,I,hl,hn,yR,q⟩:=h;exists _,AN (Ed (AZ G (AA (pv 0) (AA (AL VT (pv 1) AB) AD))) (Dp (n:=2) rfl (Bf (BL 2 RO) (Bf (BL 3 RO) Dj))))
  (AX (Ar (pL (pL (pv 0) (pv 2)) (AL DX (pv 3) AB))))
 have tl:∀t∈ts,t.length<=1000:=λt ht=>by have:=Pu ht;rw[I.len]at this;lia
 have ho:=(I.mem _).mpr (DR I.MD yR);refine⟨_,U,_,U,_,_,U,U,T,bs,_,AO y-2,by rw[XR yR hn];rfl,M,by rw[nc];exact hl,Qx tl,RA ho,λp H1 aa t1 t2 J sp _ hp=>?_⟩;obtain⟨u1,u2,O,l1⟩:=QN sp;obtain⟨b,hb,hB⟩:=M.Ci.BZ (Ls O);have hm:AO y∈u1++AO y :: u2:=by simp
 have n1:AO y∉u1:=λz=>Mm I.nd O (j:=u1.length) (e:=AO y) (by simp) (oI _ (by simpa using z))
 have ix:=LW (u2:=u2) n1;have jl:u1.length<(u1++AO y :: u2).length:=by simp
 have hv:=UJ (row:=(u1++AO y :: u2).map λx=>x-2) (j:=t1.length) (by rw[nc,<-l1];exact jl);have ev:FT ((u1++AO y :: u2).map λx=>x-2) t1.length=AS ts y-2:=by
  show _=pr ts (AO y)-2;rw[j3 I.nd O hm,ix,<-l1];unfold FT;rw[nc,nq,nq,nJ]
  have:(if u1.length=0 then (u1++AO y :: u2).length-1 else u1.length-1)<(u1++AO y :: u2).length:=by split<;>lia
  rw[nh this];rfl
 rw[ev]at hv;exists p,_,U,AJ.of hp,U,_,_,U,_,_,U,rfl;exact⟨_,U,_,U,T,_,_,_,U,U,AR.of (J _ _ M.h1),Be (CW hb),_,U,_,_,U,U,b,_,_,_,U,U,AR.of (J _ _ hB),hv,q H1 J⟩
inductive Wa(F:List V)(H:Hp)(Q:VK)(_:XK):Prop
 |mk (T:Addr) (bs:List Addr) (ts:List (List Int)) (n:Nat) (y x:Int) (ae:F=[.ref T,.int (y-2),.int (x-2)]) (ad:GU H T bs (dn 2 ts)) (O:ts.length<=1000) (I:(∀t∈ts,t.length<=1000)) (aa:n<=40) (ab:AH n y) (ac:AO y∈ts.flatten) (J:∀H1 p b t1 t2,AM H H1->bs[p]?=some b->ts[p]?=some (t1++AO y :: t2)->Q (.int ((p:Nat):Int)) (AF H1 b (.AE (((t1++x :: AO y :: t2).map λx=>x-2).map V.int))))
theorem Rh:Az ["_law_turns","_law_end","_law_fresh","_law_place","_law_at"] ["_law_turns","_law_end","_law_fresh"] (Ak sPut):=A9
theorem hJ(F:Aq K "_law_put" "_law_put" sPut f fd)(G:Ad P w K mg base 1 "_law_spot" ["_law_turns","_law_end"] Nw):
  Am P w K mg base Aw 2 f fd ["_law_turns","_law_end","_law_fresh"] Wa:=by
 refine F.BD Rh λii A _ s H vs Q E hr h=>?_
 obtain⟨T,bs,ts,n,y,x,rfl,M,hl,ht,hn,yR,ho,q⟩:=h;exists _,AN (Ed (AZ G (AA (pv 0) (AA (AL VT (pv 1) AB) AD))) (Dp (n:=2) rfl (Bf (BL 3 Rh) (Bf (BL 4 Rh) Dj))))
  (AN (Eb (Dn oO wJ PySem.F.type_list_insert Yv (pL (pv 0) (pv 3)) (AA (pv 4) (AA (pv 2) AD))))
  (AX (Ar (pv 3))))
 refine⟨_,U,_,U,_,_,U,U,T,bs,_,AO y-2,by rw[XR yR hn];rfl,M,by rw[nc];exact hl,Qx ht,RA ho,λp H1 aa t1 t2 I sp _ hp=>?_⟩;obtain⟨u1,u2,J,l1⟩:=QN sp;obtain⟨b,hb,O⟩:=M.Ci.BZ (Ls J);have tl:=ht _ (ny J);rw[nO,oA]at tl;exists p,_,U,AJ.of hp,U,_,_,U,_,_,U,rfl;rw[<-l1];refine⟨_,U,_,U,T,_,_,_,U,U,AR.of (I _ _ M.h1),Be (CW hb),.inl ⟨U,_,AR.of (I _ _ O)⟩,_,U,_,U,b,_,(u1.length:Int),.int (x-2),U,U,I _ _ O,by lia,by simp;lia,by simp;lia,?_⟩;exists _,rfl;have e3:(((u1++AO y :: u2).map λx=>x-2).map V.int).take ((u1.length:Int)).toNat++V.int (x-2) :: (((u1++AO y :: u2).map λx=>x-2).map V.int).drop ((u1.length:Int)).toNat=((u1++x :: AO y :: u2).map λx=>x-2).map V.int:=by
  rw[qe,<-List.map_take,<-List.map_drop,<-List.map_take,<-List.map_drop];simp
 rw[e3];exact q H1 aa b u1 u2 I hb J
variable {f3 f4:Addr}{d3 d4:qf}
theorem U4(rs:List AK):(BK rs).length=2*rs.length+2:=by rw[nO,HF];simp;lia
theorem P9(rs:List AK)(p q:Nat)(e:Rat):BK (rs++[(p,q,e)])=BK rs++[p]++[q]:=by unfold BK;rw[Tg];simp
theorem bI(h:ts[p]?=some (t1++s :: t2))(ho:o∈ts.flatten):o∈(ts.set p (t1++x :: s :: t2)).flatten:=by
 obtain⟨t,O,I⟩:=oC.mp ho;obtain⟨j,F,J⟩:=om O;by_cases e:p=j
 ·subst e
  have:t=t1++s :: t2:=by rw[nh F,J]at h;exact nV h
  subst this;refine oC.mpr ⟨_,ny (oM F),?_⟩;rcases nM.mp I with w|w
  ·exact pU _ w
  ·exact oI _ (oV _ w)
 ·exact oC.mpr ⟨t,ny (show(ts.set p (t1++x :: s :: t2))[j]?=some t by rw[oH e,nh F,J]),I⟩
inductive Vi(J:List V)(H:Hp)(Q:VK)(_:XK):Prop
 |mk (R T:Addr) (cs bs:List Addr) (ts:List (List Int)) (rs:List AK) (z:Int) (F:Hp) (ai:J=[.ref R,.ref T,.int z]) (ah:DI H R T cs bs ts rs) (ac:Gn ts (BK rs)) (aa:rs.length<=13) (ad:(∀r∈rs,GW r.2.2)) (ae:AM F H) (af:F R=none) (ab:F T=none) (O:(∀x∈bs,F x=none)) (ag:∀H' cs' I ts' rs',AM F H'->DI H' R T cs' I ts' rs'->Gn ts' (BK rs')->rs'.length=rs.length+1->(∀r∈rs',GW r.2.2)->(∀x∈I,F x=none)->Q .BE H')
theorem FZ:Az ["_law_ropes","_law_turns","_law_cell_here","_law_many","_law_way","_law_spot_here","_law_rest","_law_rope","_law_place","_law_at","_law_other","_law_step"] ["_law_ropes","_law_turns","_law_cell_here"] (Ak sGrow):=A9
set_option maxHeartbeats 4000000 in
theorem fK (F:Aq K "_law_grow" "_law_grow" sGrow f fd)(G1:Ad P w K mg base 2 "_law_ease" ["_law_cell_here"] Qj)
  (G2:Ad P w K mg base 2 "_law_put" ["_law_turns","_law_end","_law_fresh"] Wa)
  (G3:Ad P w K mg base 1 "_law_spot" ["_law_turns","_law_end"] Nw)
  (G4:Ad P w K mg base 2 "_law_next" ["_law_turns","_law_end"] WD)(ml:mg "len" = none)(mr:mg "range" = none) :
  Am P w K mg base Aw 3 f fd ["_law_ropes","_law_turns","_law_cell_here"] Vi:=by
 refine F.BD FZ λii A _ s H vs Q E hr h=>?_
 obtain⟨R,T,cs,bs,ts,rs,z,H0,rfl,M,g,bb,ek,s0,nR,nT,nb,q⟩:=h;exists _,AN (Aa 3 FZ (C7 ml (pv 0)))
  (AN (Aa 4 FZ (AL Ce (pv 2) AB))
  (AN (Aa 5 FZ (AL Ce (AL FN (pv 2) AB) (AL BY (AL Bv AB (pv 3)) AB)))
  (AN (Aa 6 FZ (AL FN (AL FN (pv 2) AB) (AL BY (AL Bv AB (pv 3)) AB)))
  (AX (Bq (Bb JT (pv 4) AB)
   (AN (Eb (Dn oO pK pM FG (pv 1) (AA (DB (AA (AL BY (AL Bv AB (pv 3)) AB) AD)) AD)))
   (AX (Eb (Dn oO pK pM FG (pv 0) (AA (Bl (AA (AZ G2 (AA (pv 1) (AA (AL DX (pv 5) AB) (AA (AL Bv AB (pv 3)) AD)))) (AA (AL DX (C7 ml (pv 1)) AB) (AA (AZ G1 (AA (pv 6) AD)) AD)))) AD)))))
   (AX (Bq (Bb JT (pv 4) AB)
    (AN (Aa 7 FZ (AL Ce (pv 5) (pv 3)))
    (AN (Ed (AZ G3 (AA (pv 1) (AA (AL BY (AL Bv AB (pv 7)) AB) AD))) (Dp (n:=2) rfl (Bf (BL 8 FZ) (Bf (BL 9 FZ) Dj))))
    (AN (Ed (AL BY (AL Bv AB (pv 3)) AB) (IG (pL (pv 1) (pv 8)) (pv 9) IA))
    (AN (Eb (Dn oO pK pM FG (pv 1) (AA (DB (AA (AL BY (AL Bv AB (pv 7)) AB) (AA (AL Bv AB (pv 3)) AD))) AD)))
    (AN (Ed (Bl (AA (pT (pL (pv 0) (pv 7)) AB) (AA (AL DX (C7 ml (pv 1)) AB) (AA (pT (pL (pv 0) (pv 7)) AB) AD)))) (IG (pv 0) (pv 7) IA))
    (AX (Eb (Dn oO pK pM FG (pv 0) (AA (Bl (AA (AL DX (C7 ml (pv 1)) AB) (AA (pv 8) (AA (AZ G1 (AA (pv 6) AD)) AD)))) AD)))))))))
    (AN (Aa 10 FZ (AL DX (pv 5) AB))
    (AN (CS oB rfl (Hu (by rfl) mr (AA (AL Ce (pv 6) (AL BY (AL Bv AB (pv 3)) AB)) AD)) (BL 11 FZ)
     (AX (Aa 10 FZ (AZ G4 (AA (pv 1) (AA (pv 10) AD))))))
    (AN (Aa 8 FZ (AZ G2 (AA (pv 1) (AA (AL DX (pv 5) AB) (AA (AL Bv AB (pv 3)) AD)))))
    (AX (Eb (Dn oO pK pM FG (pv 0) (AA (Bl (AA (pv 8) (AA (AZ G2 (AA (pv 1) (AA (pv 10) (AA (AL BY (AL Bv AB (pv 3)) AB) AD)))) (AA (AZ G1 (AA (AL FN (pv 6) (AL BY (AL Bv AB (pv 3)) AB)) AD)) AD)))) AD))))))))))))))
 have lc:cs.length=rs.length:=M.rr.1;have lb:=M.bl;have be:=g.Eo;have bf:=g.Bn;have n4:=g.n4;have ev:=g.ev;have hn:=U4 rs;have nE:((BK rs).length:Int)=2*(rs.length:Int)+2:=by rw[hn];push_cast;rfl
 have c1:((cs.map V.ref).length:Int)=(rs.length:Int):=by rw[nc,lc]
 exists _,U,R,_,U,.inl (AR.of M.r1);rw[c1];have mp:(0:Int)<2*(rs.length:Int)+2:=by lia
 have mq:2*(rs.length:Int)+2<1073741824:=by lia
 have aa:∀x:Int,He 2 x:=λx=>.inl ⟨by decide,by decide⟩
 refine⟨_,U,_,_,U,U,(show(0:Int)<8 by decide),_,U,_,_,U,U,⟨by decide,by decide⟩,_,U,_,_,U,U,aa _,_,_,U,U,_,_,U,U,mp,?_⟩;refine⟨_,U,_,_,U,U,⟨by decide,by decide⟩,_,U,_,_,U,U,aa _,_,_,U,U,_,_,U,U,⟨mp,mq⟩,?_⟩;have aq:=pS (z / 8) (show(2*(rs.length:Int)+2)≠0 by lia);have a0:=pH (z / 8) mp
 (try dsimp only)
 generalize z / 8 / (2*(rs.length:Int)+2)=rz;generalize z / 8%(2*(rs.length:Int)+2)=y at aq a0 ⊢;have yR:AH (BK rs).length y:=⟨aq,by rw[nE];exact a0⟩;have yo:=(g.mem _).mpr (DR ev yR);have tl:∀t∈ts,t.length<=999:=λt I=>by have:=Pu I;rw[g.HM.len]at this;lia
 have em:(2:Int)*(rs.length:Int)=((BK rs).length:Int)-2:=by rw[nE];lia
 have ap:(2:Int)*(rs.length:Int)+1=((BK rs).length:Int)+1-2:=by rw[nE];lia
 have ax:∀{p p2:Nat} {e:Rat},GW e->∀r∈rs++[(p,p2,e)],GW r.2.2:=λhe r hr=>by
  rcases nM.mp hr with w|w
  ·exact ek r w
  ·rw[nU.mp w];exact he
 exists _,U,_,_,U,U,_,rfl;refine Oi (λ_=>?_) (λ_=>?_)
 ·
  refine⟨_,U,.inl ⟨U,_,AR.of M.tm.h1⟩,_,U,_,_,U,U,aa _,_,_,U,U,by exact IY,λl hl=>?_⟩;have nl:=s0.free hl;have sl:=Ae hl (.AE [.int (2*(rs.length:Int)+1)]);refine⟨T,bs.map V.ref,.ref l,U,U,sl _ _ M.tm.h1,by rw[nc];exact DF (by lia),?_⟩;have M2:=M.more (u:=[((BK rs).length:Int)+1]) hl;have ak:=Ew (s0.trans sl) nT (.AE (bs.map V.ref++[.ref l]));have e4:(([((BK rs).length:Int)+1].map λx=>x-2).map V.int)=[.int (2*(rs.length:Int)+1)]:=by rw[ap];rfl
  rw[e4]at M2;generalize AF (AF H l (.AE [.int (2*(rs.length:Int)+1)])) T (.AE (bs.map V.ref++[.ref l]))=H2 at M2 ak;have am:∀x∈bs++[l],H0 x=none:=λx hx=>by
   rcases nM.mp hx with w|w
   ·exact nb x w
   ·rw[nU.mp w];exact nl
  refine⟨_,U,.inl ⟨U,_,AR.of M2.r1⟩,_,U,_,U,_,_,U,U,_,U,_,_,U,U,aa _,T,bs++[l],_,(BK rs).length,y,(BK rs).length,by (try dsimp only);rw[em];rfl,M2.tm,by rw[nO];simp;lia,λt I=>?_,by lia,yR,oC.mpr ?_,λH3 p b t1 t2 s3 hb I=>?_⟩
  ·rcases nM.mp I with w|w
   ·have:=tl t w;lia
   ·rw[nU.mp w];simp
  ·obtain⟨t,I,hm⟩:=oC.mp yo;exact⟨t,pU _ I,hm⟩
  have pl:p<ts.length:=by
   rcases oP p ts.length with w|w
   ·exact w
   ·exfalso
    rw[nW w]at I;have e:t1++AO y :: t2=[((BK rs).length:Int)+1]:=by
     have:=ny I
     rwa [nU]at this
    have:AO y∈[((BK rs).length:Int)+1]:=by rw[<-e];simp
    rw[nU]at this
    have:=(DR ev yR).2
    lia
  rw[nX pl]at I;have O:=(M2.keep s3).OW (t:=t1++((BK rs).length:Int) :: AO y :: t2) hb;have ab:=Ew (ak.trans s3) (am b (ny hb)) (.AE (((t1++((BK rs).length:Int) :: AO y :: t2).map λx=>x-2).map V.int));generalize AF H3 b (.AE (((t1++((BK rs).length:Int) :: AO y :: t2).map λx=>x-2).map V.int))=H4 at O ab;rw[xP _ _ pl]at O;have eL:((((bs++[l]).map V.ref).length:Nat):Int)-1=(ts.length:Int):=by rw[nc,nO,lb,pw];lia
  refine⟨_,U,T,_,U,.inl (AR.of O.tm.h1),_,_,U,U,_,U,_,U,λe he J af=>⟨by exact Hh,λp5 hp=>?_⟩⟩;obtain⟨ao,zg,s1,zz⟩:=nw af (.AG [.int e.num,.int e.den]);rw[zg]at hp ⊢;have fe:AU ao J e:=zz;replace O:=O.keep s1;replace ab:=ab.trans s1
  (try dsimp only)
  rw[eL];have ai:=Ae hp (.AG [.int ((p:Nat):Int),.int ((ts.length:Nat):Int),.ref J]);have M4:=O.keep ai;have rp:Bj (AF ao p5 (.AG [.int ((p:Nat):Int),.int ((ts.length:Nat):Int),.ref J])) p5 (p,ts.length,e):=⟨J,AY,ai _ _ fe⟩;have ag:=ab.trans ai;generalize AF ao p5 (.AG [.int ((p:Nat):Int),.int ((ts.length:Nat):Int),.ref J])=H5 at ai M4 rp ag;refine⟨R,cs.map V.ref,.ref p5,U,U,M4.r1,by rw[nc];exact DF (by lia),?_⟩;have M5:=M4.Om (cs':=cs++[p5]) (rs':=rs++[(p,ts.length,e)]) (ys:=cs.map V.ref++[.ref p5]) (by simp) (M4.rr.snoc rp);refine q _ _ _ _ _ (Ew ag nR _) M5 ?_ (by simp) (ax he) am;rw[P9];exact g.Kk I
 ·exists _,U,_,_,U,U,_,rfl;refine Oi (λ_=>?_) (λ_=>?_)
  ·
   have ay:(0:Int)<(rs.length:Int):=by lia
   exists _,U,_,U,_,_,U,U,ay;have k0:=pS y (show(rs.length:Int)≠0 by lia);have k1:=pH y ay
   (try dsimp only)
   generalize y%(rs.length:Int)=kz at k0 k1 ⊢;obtain⟨k,rfl⟩:=wQ k0;have lk:k<rs.length:=by lia
   have hk:rs[k]?=some rs[k]:=nh lk;generalize rs[k]=r at hk;have ar:(2:Int)*(k:Int)+1=2*(k:Int)+3-2:=by lia
   have po:=(g.mem (2*(k:Int)+3)).mpr ⟨by lia,by rw[nE];lia⟩;refine⟨_,U,_,U,_,_,U,U,aa _,_,_,U,U,T,bs,_,2*(k:Int)+3-2,by (try dsimp only);rw[ar];rfl,M.tm,by rw[nc];lia,Qx (λt I=>by have:=tl t I;lia),RA po,λp2 H2 p bc bd s2 sp ba a6=>?_⟩;obtain⟨t1,t2,I,l1⟩:=QN sp;have px:2*(k:Int)+3∈t1++(2*(k:Int)+3) :: t2:=by simp
   have nd:=V8 g.nd (ny I);have n1:2*(k:Int)+3∉t1:=λz=>by rw[pP]at nd;exact nd.2.2 _ z _ (qr ..) rfl
   have ix:=LW (u2:=t2) n1;have ep:p=r.2.1:=by
    have:=g.Dc p _ I _ px
    rw[show(2*(k:Int)+3).toNat=2*k+1+1+1 by lia]at this;have h2:(BK rs)[2*k+1+1+1]?=some r.2.1:=by show(0 :: 1 :: Cd rs)[2*k+1+1+1]?=_;rw[qx,qx];exact(J8 hk).2
    rw[h2]at this;exact(nV this).symm
   subst ep;have M2:=M.keep s2;obtain⟨b,hb,hB⟩:=M2.tm.Ci.BZ (Ls I);exists p2,_,U,AJ.of a6,U,_,_,U,_,_,U,rfl;rw[<-l1];refine⟨_,U,_,_,U,U,aa _,_,_,U,U,_,U,_,U,T,_,_,_,U,U,AR.of M2.tm.h1,Be (CW hb),_,U,b,_,_,_,U,U,hB,La (by simp),?_⟩;have e5:(((t1++(2*(k:Int)+3) :: t2).map λx=>x-2).map V.int).set t1.length (V.int (2*(rs.length:Int)+1))=(((t1++(2*(k:Int)+3) :: t2).map λx=>if x=2*(k:Int)+3 then ((BK rs).length:Int)+1 else x).map λx=>x-2).map V.int:=by
    rw[<-Ut nd px,ix,tG,tG,ap]
   rw[e5];have a1:=g.BJ (r:=k+1) (pe:=2*(k:Int)+3) (by lia) (by push_cast;lia) I px;generalize (t1++(2*(k:Int)+3) :: t2).map (λx=>if x=2*(k:Int)+3 then ((BK rs).length:Int)+1 else x)=tn at a1;have O:=M2.OW (t:=tn) hb;have ab:=Ew (s0.trans s2) (nb b (ny hb)) (.AE ((tn.map λx=>x-2).map V.int));generalize AF H2 b (.AE ((tn.map λx=>x-2).map V.int))=H3 at O ab;refine⟨_,U,.inl ⟨U,_,AR.of O.tm.h1⟩,_,U,_,_,U,U,aa _,_,_,U,U,_,U,_,_,U,U,aa _,by exact CQ,λl hl=>?_⟩;have nl:=ab.free hl;have sl:=Ae hl (.AE [.int (2*(k:Int)+1),.int (2*(rs.length:Int))]);refine⟨T,bs.map V.ref,.ref l,U,U,sl _ _ O.tm.h1,by rw[nc];exact DF (by lia),?_⟩;have M4:=O.more (u:=[2*(k:Int)+3,((BK rs).length:Int)]) hl;have ag:=Ew (ab.trans sl) nT (.AE (bs.map V.ref++[.ref l]));have e6:([2*(k:Int)+3,((BK rs).length:Int)].map λx=>x-2).map V.int=[.int (2*(k:Int)+1),.int (2*(rs.length:Int))]:=by rw[em,ar];rfl
   rw[e6]at M4;generalize AF (AF H3 l (.AE [.int (2*(k:Int)+1),.int (2*(rs.length:Int))])) T (.AE (bs.map V.ref++[.ref l]))=H4 at M4 ag;have am:∀x∈bs++[l],H0 x=none:=λx hx=>by
    rcases nM.mp hx with w|w
    ·exact nb x w
    ·rw[nU.mp w];exact nl
   obtain⟨c,hc,re,aw,a4⟩:=M4.rr.BZ hk;have eL:((((bs++[l]).map V.ref).length:Nat):Int)-1=(ts.length:Int):=by rw[nc,nO,lb,pw];lia
   refine⟨_,U,_,U,R,_,_,_,U,U,AR.of M4.r1,Be (CW hc),c,_,_,_,U,U,AJ.of aw,Fb _ _ _,_,U,T,_,U,.inl (AR.of M4.tm.h1),_,_,U,U,_,U,_,U,R,_,_,_,U,U,AR.of M4.r1,Be (CW hc),c,_,_,_,U,U,AJ.of aw,OU _ _ _,by exact Hh,λp hp=>?_⟩
   (try dsimp only)
   rw[eL];have al:=Ae hp (.AG [.int ((r.1:Nat):Int),.int ((ts.length:Nat):Int),.ref re]);have M5:=M4.keep al;have rp:Bj (AF H4 p (.AG [.int ((r.1:Nat):Int),.int ((ts.length:Nat):Int),.ref re])) p (r.1,ts.length,r.2.2):=⟨re,AY,al _ _ a4⟩;have ad:=ag.trans al;generalize AF H4 p (.AG [.int ((r.1:Nat):Int),.int ((ts.length:Nat):Int),.ref re])=H5 at al M5 rp ad;refine⟨_,U,_,U,R,_,_,_,U,U,M5.r1,La (by rw[nc,lc];exact lk),?_⟩;have es:(cs.map V.ref).set k (V.ref p)=(cs.set k p).map V.ref:=by rw[tG]
   rw[es];have M6:=M5.Om rfl (M5.rr.set k rp);have aj:=Ew ad nR (.AE ((cs.set k p).map V.ref));generalize AF H5 R (.AE ((cs.set k p).map V.ref))=H6 at M6 aj;refine⟨_,U,.inl ⟨U,_,AR.of M6.r1⟩,_,U,T,_,U,.inl (AR.of M6.tm.h1),_,_,U,U,_,U,_,U,_,U,λe he J af=>⟨by exact Hh,λp7 au=>?_⟩⟩;obtain⟨ae,zg,s1,zz⟩:=nw af (.AG [.int e.num,.int e.den]);rw[zg]at au ⊢;have fe:AU ae J e:=zz;replace M6:=M6.keep s1;replace aj:=aj.trans s1
   (try dsimp only)
   rw[eL];have ac:=Ae au (.AG [.int ((ts.length:Nat):Int),.int ((r.2.1:Nat):Int),.ref J]);have M7:=M6.keep ac;have az:Bj (AF ae p7 (.AG [.int ((ts.length:Nat):Int),.int ((r.2.1:Nat):Int),.ref J])) p7 (ts.length,r.2.1,e):=⟨J,AY,ac _ _ fe⟩;have ah:=aj.trans ac;generalize AF ae p7 (.AG [.int ((ts.length:Nat):Int),.int ((r.2.1:Nat):Int),.ref J])=H7 at ac M7 az ah;refine⟨R,(cs.set k p).map V.ref,.ref p7,U,U,M7.r1,by rw[nc,o9];exact DF (by lia),?_⟩;have M8:=M7.Om (cs':=cs.set k p++[p7]) (rs':=rs.set k (r.1,ts.length,r.2.2)++[(ts.length,r.2.1,e)]) (ys:=(cs.set k p).map V.ref++[.ref p7]) (by simp) (M7.rr.snoc az);refine q _ _ _ _ _ (Ew ah nR _) M8 ?_ (by simp) (λr' a5=>?_) am
   ·rw[show BK (rs.set k (r.1,ts.length,r.2.2)++[(ts.length,r.2.1,e)])=(BK rs++[ts.length]++[r.2.1]).set (2*(k:Int)+3).toNat ts.length by
     have a3:=HF rs;rw[show(2*(k:Int)+3).toNat=2*k+1+1+1 by lia,P9];unfold BK;rw[fB hk];show 0 :: 1 :: ((Cd rs).set (2*k+1) ts.length++[ts.length]++[r.2.1])=(0 :: 1 :: (Cd rs++[ts.length]++[r.2.1])).set (2*k+1+1+1) ts.length;rw[yC,yC,pG,pG,xP _ _ (by rw[a3];lia)]]
    exact a1
   ·rcases nM.mp a5 with w|w
    ·rcases qd w with w|w
     ·exact ek r' w
     ·rw[w];exact ek r (ny hk)
    ·rw[nU.mp w];exact he
  ·
   exists _,U,_,_,U,U,_,U,_,U,_,_,U,U,aa _,_,_,U,U,_,_,U,U,mp;have k0:=pS rz (show(2*(rs.length:Int)+2)≠0 by lia);have k1:=pH rz mp;have jb:-(2 ^ 62)<=rz%(2*(rs.length:Int)+2)/\rz%(2*(rs.length:Int)+2)<2 ^ 62:=by
    generalize rz%(2*(rs.length:Int)+2)=sx at k0 k1
    lia
   exists _,U,jb.1,jb.2;have PM:=g.HM.CN;refine Io (λi σ H2=>AM H H2/\∃v u,σ=[some (.ref R),some (.ref T),some (.int z),some (.int (rs.length:Int)),some (.int (z%8)),some (.int y),some (.int rz),none,none,none,some (.int (v-2)),u]/\AH (BK rs).length v/\∃k,BM (AS ts) k y=v) ⟨AM.refl _,y,none,U,yR,0,U⟩ ?_ ?_
   ·rintro i σ H2 hi ⟨s2,v,u,rfl,vR,kv,a9⟩;exact⟨_,U,_,U,T,bs,ts,(BK rs).length,v,U,M.tm.keep s2,g.HM,by lia,by lia,vR,λH3 s3=>⟨s2.trans s3,AS ts v,_,U,PM.1 _ vR,kv+1,by rw[<-a9];rfl⟩⟩
   ·rintro σ H2 ⟨s2,v,u,rfl,vR,kv⟩;have M2:=M.keep s2;have ak:=s0.trans s2;refine⟨_,U,_,U,_,_,U,U,_,U,_,_,U,U,aa _,T,bs,ts,(BK rs).length,y,(BK rs).length,by (try dsimp only); rw[em]; rfl,M2.tm,by lia  ,λt I=>by have:=tl t I; lia  ,by lia  ,yR,yo,λH3 p b t1 t2 s3 hb I=>?_⟩;have O:=(M2.keep s3).OW (t:=t1++((BK rs).length:Int) :: AO y :: t2) hb;have ab:=Ew (ak.trans s3) (nb b (ny hb)) (.AE (((t1++((BK rs).length:Int) :: AO y :: t2).map λx=>x-2).map V.int));generalize AF H3 b (.AE (((t1++((BK rs).length:Int) :: AO y :: t2).map λx=>x-2).map V.int))=H4 at O ab;have a2:=tl _ (ny I);rw[nO,oA] at a2;have a8:∀u∈ts.set p (t1++((BK rs).length:Int) :: AO y :: t2),u.length<=1000:=λu hu=>by
     rcases qd hu with w|w
     ·have:=tl u w;lia
     ·rw[w,nO,oA,oA];lia
    refine⟨_,U,.inl ⟨U,_,AR.of O.r1⟩,_,U,_,U,_,U,_,U,_,_,U,U,aa _,_,_,U,U,T,bs,_,(BK rs).length,v,((BK rs).length:Int)+1,by (try dsimp only);rw[ap];rfl,O.tm,by rw[o9];lia,a8,by lia,vR,bI I ((g.mem _).mpr (DR ev vR)),λH5 p2 b2 u1 u2 s5 av a7=>?_⟩;have M5:=(O.keep s5).OW (t:=u1++(((BK rs).length:Int)+1) :: AO v :: u2) av;have ad:=Ew (ab.trans s5) (nb b2 (ny av)) (.AE (((u1++(((BK rs).length:Int)+1) :: AO v :: u2).map λx=>x-2).map V.int));generalize AF H5 b2 (.AE (((u1++(((BK rs).length:Int)+1) :: AO v :: u2).map λx=>x-2).map V.int))=H6 at M5 ad;refine⟨_,U,_,U,_,_,U,U,aa _,_,_,U,U,_,_,U,U,⟨mp,mq⟩,_,U,λe he J af=>⟨by exact Hh,λp5 hp=>?_⟩⟩;obtain⟨ae,zg,s1,zz⟩:=nw af (.AG [.int e.num,.int e.den]);rw[zg]at hp ⊢;have fe:AU ae J e:=zz;replace M5:=M5.keep s1;replace ad:=ad.trans s1;have ac:=Ae hp (.AG [.int ((p:Nat):Int),.int ((p2:Nat):Int),.ref J]);have M7:=M5.keep ac;have rp:Bj (AF ae p5 (.AG [.int ((p:Nat):Int),.int ((p2:Nat):Int),.ref J])) p5 (p,p2,e):=⟨J,AY,ac _ _ fe⟩;have ah:=ad.trans ac;generalize AF ae p5 (.AG [.int ((p:Nat):Int),.int ((p2:Nat):Int),.ref J])=H7 at ac M7 rp ah;refine⟨R,cs.map V.ref,.ref p5,U,U,M7.r1,by rw[nc];exact DF (by lia),?_⟩;have M8:=M7.Om (cs':=cs++[p5]) (rs':=rs++[(p,p2,e)]) (ys:=cs.map V.ref++[.ref p5]) (by simp) (M7.rr.snoc rp);refine q _ _ _ _ _ (Ew ah nR _) M8 ?_ (by simp) (ax he) nb;rw[P9];exact g.KU yR kv I a7
theorem SM{α:Type}:∀{ss:List α} {k:Nat} {x:α},ss[k]?=some x->(x :: ss.eraseIdx k).Perm ss
 |s :: ss,0,x,h=>by cases h;exact .refl _
 |s :: ss,k+1,x,h=>by
  have:=SM (ss:=ss) (k:=k) (by simpa using h)
  exact(uj.swap s x _).trans (this.cons s)
theorem TJ:∀(ss:List Int) (k:Nat),(ss.map V.int).eraseIdx k=(ss.eraseIdx k).map V.int
 |[],k=>by cases k<;>rfl
 |s :: ss,0=>rfl
 |s :: ss,k+1=>by
  show _ :: (ss.map V.int).eraseIdx k=_ :: (ss.eraseIdx k).map V.int;rw[TJ ss k]
theorem ZG(F:H b=some o')(I:∀ys,o'≠.AG ys)(h:Bj H c r):Bj (AF H b o) c r:=by
 obtain⟨e,h1,h2⟩:=h;refine⟨e,by rw[As (λz=>by rw[z,F]at h1;exact I _ (nV h1))];exact h1,?_⟩;unfold AU at h2 ⊢;rw[As (λz=>by rw[z,F]at h2;exact I _ (nV h2))];exact h2
theorem PU(F:H b=some o')(O:∀ys,o'≠.AG ys)(h:At Bj H cs rs):At Bj (AF H b o) cs rs:=⟨h.1,λi c r J I=>ZG F O (h.2 i c r J I)⟩
inductive Um(I:List V)(H:Hp)(Q:VK)(_:XK):Prop
 |mk (a:Addr) (xs:List Int) (c:Int) (O:I=[.ref a,.int c]) (J:H a=some (.AE (xs.map V.int))) (aa:xs.length<=100) (ab:∀(p l:Addr) (os:List Int) (F:Int) (H':Hp),AM H H'->H l=none->H' p=some (.AG [.ref l,.int F])->H' l=some (.AE (os.map V.int))->os.Perm xs->Q (.ref p) H')
theorem Og:Az ["_law_some","_law_cell_here","_law_left","_law_order_here"] ["_law_some","_law_cell_here"] (Ak s_law_order):=A9
theorem cC(F:Aq K "_law_order" "_law_order" s_law_order f fd)(ml:mg "len" = none)(mi:mg "list" = none):Am P w K mg base Aw 1 f fd ["_law_some","_law_cell_here"] Um:=by
 refine F.BD Og λii A _ s H vs Q E hr h=>?_
 obtain⟨a,xs,c,rfl,ha,hm,q⟩:=h;have hu:(A.deeper (t7 "_law_order" (Ak s_law_order) s.heap.objs.size f ii)).units+64<cLine:=hr.units;exists _,AN (Aa 2 Og (FF UL (by rfl) mi Ld (AA (pv 0) AD)))
  (AN (Aa 3 Og (DB AD))
  (AN (Jq oB (Bb (cF hu) (pv 2) (DB AD))
   (AN (Eb (Dn oO pK pM FG (pv 3) (AA (Dn oO PySem.F.slot_list_pop PySem.F.type_list_pop Zz (pv 2) (AA (AL Ce (pv 1) (C7 ml (pv 2))) AD)) AD)))
   (AX (Aa 1 Og (AL FN (pv 1) (AL BY (C7 ml (pv 2)) AB))))))
  (AX (Ar (Bl (AA (pv 3) (AA (pv 1) AD)))))))
 refine⟨_,U,a,_,U,.inl (AR.of ha),λS hS=>?_⟩;obtain⟨H1,zg,sS,eS⟩:=nw hS (.AE (xs.map V.int));rw[zg];refine⟨by exact Gs,λL hL=>?_⟩;obtain⟨H2,zg,sL,zz⟩:=nw hL (.AE []);rw[zg];have eL:H2 L=some (.AE (([]:List Int).map V.int)):=zz;have ag:S≠L:=B8 eS hL;have ah:=sL _ _ eS;have fL:H L=none:=sS.free hL;refine Jp (λσ I=>∃c ss os,σ=[some (.ref a),some (.int c),some (.ref S),some (.ref L)]/\AM H I/\I S=some (.AE (ss.map V.int))/\I L=some (.AE (os.map V.int))/\(os++ss).Perm xs) (λ_ I=>match I S with|some (.AE xs)=>xs.length|_=>0)
  ⟨c,xs,[],U,sS.trans sL,ah,eL,.refl _⟩ ?_ ?_
 ·rintro σ I ⟨c,ss,os,rfl,s3,ad,ai,pm⟩;have aj:=pm.length_eq;rw[nO]at aj;refine⟨_,U,by exact Gs,λz O=>?_⟩;have s4:=s3.trans (Ae O (.AE []));have J:=Ae O (.AE []) _ _ ad;have ac:=Ae O (.AE []) _ _ ai;have mz:(match I S with|some (.AE xs)=>xs.length|_=>0)=ss.length:=by rw[ad];show(ss.map V.int).length=_;rw[nc]
  exists S,z,ss,U,U,J,AY,_,rfl;generalize AF I z (.AE [])=H4 at s4 J ac;cases ab:ss with
  |nil =>
   subst ab;rw[pO]at pm;refine Cr ?_;refine⟨_,U,_,U,by exact CQ,λp hp=>?_⟩;exact q p L os c _ (s4.trans (Ae hp _)) fL AY (Ae hp _ _ _ ac) pm
  |cons s0 st =>
   rw[<-ab];have h0:0<ss.length:=by rw[ab];simp
   rw[show(!ss.isEmpty)=true by rw[ab];rfl];refine EV ?_;have lp:(0:Int)<(((ss.map V.int).length:Nat):Int):=by rw[nc];lia
   have d0:=pS c (yt lp);have d1:=pH c lp;obtain⟨k,hk⟩:∃k:Nat,c%(((ss.map V.int).length:Nat):Int)=(k:Int):=⟨(c%(((ss.map V.int).length:Nat):Int)).toNat,by lia⟩;rw[hk,nc]at d1;have ae:k<ss.length:=by lia
   have ek:ss[k]?=some ss[k]:=nh ae;generalize ss[k]=x at ek;have ev:(ss.map V.int)[k]?=some (.int x):=by rw[nJ,ek];rfl
   refine⟨_,U,.inl ⟨U,_,AR.of ac⟩,_,U,.inl ⟨U,_,AR.of J⟩,_,U,_,U,S,_,U,.inl (AR.of J),_,_,U,U,lp,S,_,(k:Int),k,_,U,congrArg (λz=>[V.int z]) hk,J,by lia,by lia,(QH (by rw[nc];exact aM ae)).1,ev,L,_,_,U,U,by rw[As (rN ag)];exact ac,by rw[nc];exact DF (by lia),?_⟩;rw[TJ];have s5:=(s4.up hS (.AE ((ss.eraseIdx k).map V.int))).up fL (.AE (os.map V.int++[.int x]));have aa:(AF (AF H4 S (.AE ((ss.eraseIdx k).map V.int))) L (.AE (os.map V.int++[.int x]))) S=some (.AE ((ss.eraseIdx k).map V.int)):=by rw[As ag,AY]
   have af:(AF (AF H4 S (.AE ((ss.eraseIdx k).map V.int))) L (.AE (os.map V.int++[.int x]))) L=some (.AE ((os++[x]).map V.int)):=by rw[AY,nY];rfl
   generalize AF (AF H4 S (.AE ((ss.eraseIdx k).map V.int))) L (.AE (os.map V.int++[.int x]))=H5 at s5 aa af;have pe:=SM ek;have le:=pe.length_eq;rw[oA]at le;refine⟨_,U,_,U,S,_,U,.inl (AR.of aa),_,_,U,U,_,_,U,U,⟨by rw[nc];lia,by rw[nc];show((ss.eraseIdx k).length:Int)+1<1073741824;lia⟩,?_⟩;exists ⟨_,ss.eraseIdx k,os++[x],U,s5,aa,af,?_⟩
   ·refine uj.trans ?_ pm;rw[pG];exact pe.append_left os
   ·rw[aa,ad];show((ss.eraseIdx k).map V.int).length<(ss.map V.int).length;rw[nc,nc]
    lia
 ·rintro σ H2 Q1 Q2 hq ⟨v,e,sz,k⟩;refine⟨v,e,sz,λz O=>?_⟩;obtain⟨p,q,ns,e1,e2,e3,e4,b,eb,w⟩:=k z O;exact⟨p,q,ns,e1,e2,e3,e4,b,eb,hq _ _ w⟩
open Wd
theorem gD(x y:Nat)(h:z=0\/z=1):Bt [V.int (x:Int),V.int (y:Int)] z=some (.int ((if z=0 then x else y:Nat):Int))/\Bt [V.int (x:Int),V.int (y:Int)] (1-z)=some (.int ((if z=0 then y else x:Nat):Int)):=by
 rcases h with rfl|rfl
 ·exact⟨BC,Ay⟩
 ·exact⟨Ay,BC⟩
structure Nm(m:Nat)(os zs:List Int)(i:Nat)(L:List (Int×Int)):Prop where
 len:L.length<=2*i+2
 keys:∀x∈L.map (·.1),x<0\/∃(k:Nat) (y:Int),k<i/\os[k]?=some y/\(x=2*y\/x=2*y+1)
 nd:(L.map (·.1)).Nodup
 m2:(-2,2*(m:Int))∈L
 m1:(-1,2*(m:Int)+1)∈L
 ev:∀k j:Nat,k<i->os[k]?=some (j:Int)->(2*(j:Int),2*(k:Int)+zs.getD k 0)∈L/\(2*(j:Int)+1,2*(k:Int)+1-zs.getD k 0)∈L
theorem P8(h:k<zs.length):(zs++us).getD k 0=zs.getD k 0:=by rw[nq,nq,nX h]
theorem Nm.next{m i j:Nat}{os:List Int}(ho:os.Perm (Dx m))(h:Nm m os zs i L)(hl:zs.length=i)(J:os[i]?=some (j:Int)):
  (2*(j:Int))∉L.map (·.1)/\(2*(j:Int)+1)∉(L++[(2*(j:Int),2*(i:Int)+z)]).map (·.1)/\Nm m os (zs++[z]) (i+1) ((L++[(2*(j:Int),2*(i:Int)+z)])++[(2*(j:Int)+1,2*(i:Int)+1-z)]):=by
 have no:∀b:Int,(b=0\/b=1)->(2*(j:Int)+b)∉L.map (·.1):=by
  intro b F w;rcases h.keys _ w with w|⟨k,y,hk,ey,w⟩
  ·lia
  ·have:y=(j:Int):=by lia
   subst this
   have:=Q9 (WI ho) ey J
   lia
 have n1:(2*(j:Int))∉L.map (·.1):=by have:=no 0 (.inl rfl);rwa [Int.add_zero]at this
 have n2:(2*(j:Int)+1)∉(L++[(2*(j:Int),2*(i:Int)+z)]).map (·.1):=λw=>by
  rw[nY,nM]at w;rcases w with w|w
  ·exact no 1 (.inr rfl) w
  ·simp only[nK,pE,nU]at w
   lia
 have I:∀{p},p∈L->p∈(L++[(2*(j:Int),2*(i:Int)+z)])++[(2*(j:Int)+1,2*(i:Int)+1-z)]:=λw=>pU _ (pU _ w)
 have aa:=h.len;refine⟨n1,n2,⟨by rw[nO,nO,pw,pw];lia,λx w=>?_,?_,I h.m2,I h.m1,λk j' hk e=>?_⟩⟩
 ·rw[nY,nY,nM,nM]at w;simp only[nK,pE,nU]at w;rcases w with (w|w)|w
  ·rcases h.keys _ w with w|⟨k,y,hk,e⟩
   ·exact .inl w
   ·exact .inr ⟨k,y,by lia,e⟩
  ·exact .inr ⟨i,_,by lia,J,.inl w⟩
  ·exact .inr ⟨i,_,by lia,J,.inr w⟩
 ·rw[nY,pP];refine⟨?_,by simp,λa O b F e=>?_⟩
  ·rw[nY,pP];refine⟨h.nd,by simp,λa O b F e=>?_⟩;simp only[nK,pE,nU]at F;exact n1 (by rw[<-F,<-e];exact O)
  ·simp only[nK,pE,nU]at F;exact n2 (by rw[<-F,<-e];exact O)
 ·rcases oP k i with w|w
  ·have:=h.ev k j' w e
   rw[P8 (by lia)];exact⟨I this.1,I this.2⟩
  ·obtain rfl:k=i:=by lia
   rw[J]at e
   have:j=j':=by have:=nV e;lia
   subst this;rw[show(zs++[z]).getD k 0=z by rw[<-hl];simp];exact⟨pU _ (oI _ (by simp)),oI _ (by simp)⟩
theorem Nm.BZ{os:List Int}(I:os.Perm (Dx m))(h:Nm m os zs m L)(hy:AH (2*m+2) y):lk L (y-2)=some (EG m (ix os) (λk=>zs.getD (ix os k) 0) y):=by
 have O:∀{k:Nat},k<m->os[ix os k]?=some (k:Int):=λ{k} F=>by
  have J:=qg.mpr (JK I F);show os[os.idxOf (k:Int)]?=_;rw[nh J,rM J]
 rcases J3 hy with rfl|rfl|⟨k,F,rfl|rfl⟩
 ·rw[IM];exact KQ h.nd h.m2
 ·rw[JP];exact KQ h.nd h.m1
 ·rw[IK,show 2*(k:Int)+2-2=2*(k:Int) by lia];exact KQ h.nd (h.ev _ _ (L7 I F) (O F)).1
 ·rw[IJ,show 2*(k:Int)+3-2=2*(k:Int)+1 by lia];exact KQ h.nd (h.ev _ _ (L7 I F) (O F)).2
theorem ji(pi:Nat->Nat)(z:Int)(r:AK):Il pi z r=((if z=0 then pi r.1 else pi r.2.1:Nat),(if z=0 then pi r.2.1 else pi r.1:Nat),r.2.2):=by
 unfold Il;by_cases h:z=0
 ·rw[nF h,nF h,nF h]
 ·rw[nv h,nv h,nv h]
theorem FH{α:Type}(rs:List α)(r:α):(rs++[r]).length=rs.length+1:=by rw[nO];rfl
theorem J0{α:Type}{rs:List α}{r x:α}(h:(rs++[r])[k]?=some x):rs[k]?=some x\/(k=rs.length/\x=r):=by
 rcases oP k rs.length with w|w
 ·rw[nX w]at h;exact .inl h
 ·rw[nW w]at h
  have:=(nj.mp h).1
  rw[pw]at this;have e:k=rs.length:=by lia
  subst e;rw[rG]at h;exact .inr ⟨U,(nV h).symm⟩
theorem kJ(g:Gn ts (BK rs)){j:Nat}(h:rs[j]?=some r):r.1<ts.length/\r.2.1<ts.length:=by
 have F:∀{k p:Nat},(BK rs)[k]?=some p->p<ts.length:=λ{k p} e=>by
  obtain⟨J,t,h1,_,I⟩:=g.at (x:=(k:Int)) ⟨by lia,by have:=(nj.mp e).1;lia⟩;rw[qe,e]at I;cases I;exact(nj.mp h1).1
 obtain⟨O,g2⟩:=J8 h;refine⟨F (k:=2*j+1+1) ?_,F (k:=2*j+1+1+1) ?_⟩<;>(show(0 :: 1 :: Cd rs)[_]?=_;rw[qx,qx];assumption)
theorem Jm(J:H a=some o1)(F:H b=some o2)(I:o1≠o2):AF H a o b=some o2:=by
 rw[As (λz=>I (by rw[z,J]at F;exact nV F))];exact F
theorem cI(m:Nat):(Dx m).map V.int=(nz m).map λi:Nat=>V.int (i:Int):=by unfold Dx;rw[pC];rfl
inductive UM(I:List V)(H:Hp)(Q:VK)(_:XK):Prop
 |mk (R T:Addr) (cs bs:List Addr) (ts:List (List Int)) (rs:List AK) (c:Int) (ad:I=[.ref R,.ref T,.int c]) (ac:DI H R T cs bs ts rs) (O:Gn ts (BK rs)) (J:rs.length<=14) (aa:(∀r∈rs,GW r.2.2)) (ab:∀p F ta rs' us H',AM H H'->H' p=some (.AG [.int ((ts.length:Nat):Int),.ref F,.ref ta])->A4 Bj H' F rs'->A4 ET H' ta us->EI ts.length rs' us->Kt us rs'.length->rs'.length=rs.length->ts.length<=rs.length+1->Q (.ref p) H')
theorem DD:Az ["_law_ropes","_law_turns","_law_cell_here","_law_many","_law_order_here","_law_spots","_law_names","_law_made","_law_at","_law_one","_law_other","_law_ease_here","_law_pair","_law_flip","_law_rows","_law_place","_law_row","_law_cut"] ["_law_ropes","_law_turns","_law_cell_here"] (Ak s_law_named):=A9
theorem l6:(["_law_end","_law_names"]:List Str).Nodup:=by decide +kernel
set_option maxHeartbeats 4000000 in
seal L2.CU L2.PS L2.PE L2.PA in
theorem Zm (F:Aq K "_law_named" "_law_named" s_law_named f fd)(G1:Ad P w K mg base 1 "_law_order" ["_law_some","_law_cell_here"] Um)
  (ml:mg "len" = none)(mr:mg "range" = none)(mi:mg "list" = none)(mt:mg "tuple" = none):Am P w K mg base Aw 2 f fd ["_law_ropes","_law_turns","_law_cell_here"] UM:=by
 refine F.BD DD λii A _ s H vs Q E hr h=>?_
 obtain⟨R,T,cs,bs,ts,rs,c,rfl,M,g,db,ek,q⟩:=h;have cm:(A.deeper (t7 "_law_named" (Ak s_law_named) s.heap.objs.size f ii)).units+64<cLine:=hr.units;have hu:(A.deeper (t7 "_law_named" (Ak s_law_named) s.heap.objs.size f ii)).units+1<cLine:=qh (yi (by decide) _) cm;clear cm;exists _,AN (Aa 3 DD (C7 ml (pv 0)))
  (AN (Ed (AZ G1 (AA (X4 rfl (by rfl) mi (by rfl) mr (pv 3)) (AA (pv 2) AD))) (Dp (n:=2) rfl (Bf (BL 4 DD) (Bf (BL 2 DD) Dj))))
  (AN (Ed (AZ G1 (AA (Xu rfl (by rfl) mi (by rfl) mr (AA AB (AA (C7 ml (pv 1)) AD))) (AA (pv 2) AD))) (Dp (n:=2) rfl (Bf (BL 5 DD) (Bf (BL 2 DD) Dj))))
  (AN (Aa 5 DD (AL OE (DB (AA AB (AA AB AD))) (pv 5)))
  (AN (Aa 6 DD (Qe (NA (FW FU AB) (AL Bv AB (pv 3)) (NA (FW FU AB) (AL BY (AL Bv AB (pv 3)) AB) Qa)) rfl rfl (λz=>by cases z) (by decide)))
  (AN (Aa 7 DD (DB AD))
  (AN (CS oB rfl (Hu (by rfl) mr (AA (pv 3) AD)) (BL 8 DD)
   (AN (Ed (pL (pv 0) (pL (pv 4) (pv 8))) (Dp (n:=3) rfl (Bf (BL 9 DD) (Bf (BL 10 DD) (Bf (BL 11 DD) Dj)))))
   (AN (Aa 12 DD (DB (AA (Dn oO ti uF P6 (pv 5) (AA (pv 9) AD)) (AA (Dn oO ti uF P6 (pv 5) (AA (pv 10) AD)) AD))))
   (AN (Aa 13 DD (AL Ce (pv 2) AB))
   (AN (Aa 2 DD (AL FN (pv 2) AB))
   (AN (HD hu (pv 6) (AL Bv AB (pL (pv 4) (pv 8))) (AL BY (AL Bv AB (pv 8)) (pv 13)) rfl)
   (AN (HD hu (pv 6) (AL BY (AL Bv AB (pL (pv 4) (pv 8))) AB) (AL DX (AL BY (AL Bv AB (pv 8)) AB) (pv 13)) rfl)
   (AX (Eb (Dn oO pK pM FG (pv 7) (AA (Bl (AA (pL (pv 12) (pv 13)) (AA (pL (pv 12) (AL DX AB (pv 13))) (AA (pv 11) AD)))) AD)))))))))))
  (AN (Aa 14 DD (DB AD))
  (AN (CS oB rfl (FX (pv 5)) (BL 15 DD)
   (AN (Jk (i:=16) DD.nd rfl (p8 rfl) (Nc:=["_law_end","_law_names"]) (cap:=[(1,6)]) (g:=BU 0) (te:=Ly (Al 1) (Al 0)) rfl (FX (pL (pv 1) (pv 15)))
    Cn (λ_ _ _ _ _=>B9 (i:=0) l6 rfl (p8 rfl))
    (λ_ _ _ _ _=>Hg hu (pv 1) (pv 0)))
   (AN (Aa 17 DD (AL Ce (pv 2) (C7 ml (pv 16))))
   (AN (Aa 2 DD (AL FN (pv 2) (C7 ml (pv 16))))
   (AX (Eb (Dn oO pK pM FG (pv 14) (AA (Kx mt (AL OE (Eu Md (pv 16) (Ea (pv 17)) FO) (Eu Md (pv 16) FO (Ea (pv 17))))) AD))))))))
  (AX (Ar (Bl (AA (C7 ml (pv 14)) (AA (Kx mt (pv 7)) (AA (Kx mt (pv 14)) AD))))))))))))))
  
 have lc:(((cs.map V.ref).length:Nat):Int)=(rs.length:Int):=by rw[nc,M.rr.1]
 have lb:(((bs.map V.ref).length:Nat):Int)=(ts.length:Int):=by rw[nc,M.bl]
 have dq:=g.Bn;have d9:=g.Eo;have hn:=U4 rs;have ad:∀x:Int,He 2 x:=λx=>.inl ⟨by decide,by decide⟩
 exists _,U,R,_,U,.inl (AR.of M.r1)
 (try dsimp only)
 rw[lc];refine⟨_,U,rs.length,U,by lia,λa1 di=>?_⟩;have bb:=Ae di (.AE ((nz rs.length).map λi:Nat=>V.int (i:Int)));have ba:(AF H a1 (.AE ((nz rs.length).map λi:Nat=>V.int (i:Int)))) a1=some (.AE ((Dx rs.length).map V.int)):=by rw[AY,cI]
 generalize AF H a1 (.AE ((nz rs.length).map λi:Nat=>V.int (i:Int)))=Ha at bb ba;refine⟨_,U,a1,Dx rs.length,c,U,ba,by rw[Tu];lia,λq1 L1 os c1 H1 s1 dz cq cj po=>?_⟩;exists q1,_,U,AJ.of cq,U,_,_,U,_,_,U,rfl;have c0:=bb.trans s1;have M1:=M.keep c0;refine⟨_,U,T,_,U,.inl (AR.of M1.tm.h1),2,ts.length-2,by rw[lb,show(2:Int)+((ts.length-2:Nat):Int)=(ts.length:Int) by lia],by decide,by decide,by lia,λa2 de=>?_⟩;have ak:=Ae de (.AE ((nz (ts.length-2)).map λi:Nat=>V.int (2+(i:Int))));have az:(AF H1 a2 (.AE ((nz (ts.length-2)).map λi:Nat=>V.int (2+(i:Int))))) a2=some (.AE (((nz (ts.length-2)).map λi:Nat=>(2+(i:Int))).map V.int)):=by rw[AY,pC];rfl
 generalize AF H1 a2 (.AE ((nz (ts.length-2)).map λi:Nat=>V.int (2+(i:Int))))=Hb at ak az;refine⟨_,U,a2,_,c1,U,az,by rw[nc,oX];lia,λq2 L2 ac c2 H2 O dy cz bu pp=>?_⟩;exists q2,_,U,AJ.of cz,U,_,_,U,_,_,U,rfl;have b7:=c0.trans (ak.trans O);have b2:=O _ _ (ak _ _ cj);clear cq cz s1 O bb ak ba az cj M1;refine⟨by exact CQ,λla ca=>?_⟩;obtain⟨H3,zg,sa,ea⟩:=nw ca (.AE [.int 0,.int 1]);rw[zg];have du:ac.length=ts.length-2:=by have:=pp.length_eq;rwa [nc,oX]at this
 refine⟨_,U,la,L2,_,_,U,U,ea,sa _ _ bu,by rw[nc];exact Gd (by simp;lia),λPl a0=>?_⟩;have pe:[V.int 0,V.int 1]++ac.map V.int=([0,1]++ac).map V.int:=rfl;rw[pe];have pl:=YT dq pp;have p0:([0,1]++ac)[0]?=some ((0:Nat):Int):=rfl;have p1:([0,1]++ac)[1]?=some ((1:Nat):Int):=rfl;generalize [0,1]++ac=ps at pl p0 p1;have s5:AM H (AF H3 Pl (.AE (ps.map V.int))):=b7.trans (sa.trans (Ae a0 _));have eP:(AF H3 Pl (.AE (ps.map V.int))) Pl=some (.AE (ps.map V.int)):=AY;have eO:(AF H3 Pl (.AE (ps.map V.int))) L1=some (.AE (os.map V.int)):=Ae a0 _ _ _ (sa _ _ b2);generalize AF H3 Pl (.AE (ps.map V.int))=H5 at s5 eP eO;clear sa b7 bu b2 ea a0 ca;have M5:=M.keep s5;refine λD hD=>?_
 have bt:=Ae hD (.dK []);exists _,U,_,U,_,_,U,U,ad _,_,U,_,U,_,_,U,U,ad _,_,_,U,rfl;refine⟨AY,[(oi (-2),.int (2*(rs.length:Int))),(oi (-1),.int (2*(rs.length:Int)+1))],U,by show 2<=15;decide,?_⟩;have eN:Ez [] [((oi (-2):Ai),V.int (2*(rs.length:Int))),(oi (-1),.int (2*(rs.length:Int)+1))]=BN [(-2,2*(rs.length:Int)),(-1,2*(rs.length:Int)+1)]:=by
  show B4 (B4 (BN []) (oi (-2):Ai) (.int (2*(rs.length:Int)))) (oi (-1):Ai) (.int (2*(rs.length:Int)+1))=_;rw[J9 (by simp),J9 (by simp)];rfl
 rw[eN];have K0:Nm rs.length os [] 0 [(-2,2*(rs.length:Int)),(-1,2*(rs.length:Int)+1)]:=⟨by simp,λx hx=>.inl (by simp at hx;lia),by simp,by simp,by simp,λk j J=>by lia⟩;generalize [((-2:Int),2*(rs.length:Int)),(-1,2*(rs.length:Int)+1)]=L0 at K0;have sD:=bt.up hD (.dK (BN L0));have eD:(AF (AF H5 D (.dK [])) D (.dK (BN L0))) D=some (.dK (BN L0)):=AY;generalize AF (AF H5 D (.dK [])) D (.dK (BN L0))=H6 at sD eD;refine⟨by exact Gs,λMk bc=>?_⟩;obtain⟨H8,zg,sM,eM⟩:=nw bc (.AE []);rw[zg];have dg:=sM _ _ eD;have s6:=sD.trans sM;have c9:D≠Mk:=B8 eD bc;have fM:H5 Mk=none:=sD.free bc;clear sD eD bt sM;refine⟨_,U,_,U,by lia,by lia,?_⟩;rw[show((rs.length:Nat):Int).toNat=rs.length by lia];refine Io (n:=rs.length) (λi σ H2=>∃cc u8 u9 al ap av ax L ds aa zs,σ=[some (.ref R),some (.ref T),some (.int cc),some (.int (rs.length:Int)),some (.ref L1),some (.ref Pl),some (.ref D),some (.ref Mk),u8,u9,al,ap,av,ax,none,none,none,none]/\AM H5 H2/\H2 D=some (.dK (BN L))/\Nm rs.length os zs i L/\zs.length=i/\(∀k,zs.getD k 0=0\/zs.getD k 0=1) /\
   H2 Mk=some (.AE (ds.map V.ref))/\At Bj H2 ds aa/\aa.length=i/\∀(k:Nat) (r':AK),aa[k]?=some r'->∃(j:Nat) (r:AK),os[k]?=some (j:Int)/\rs[j]?=some r/\r'=Il (ix ps) (zs.getD k 0) r)
  ⟨c2,none,none,none,none,none,none,L0,[],[],[],U,s6,dg,K0,U,λk=>.inl (by simp),eM,At.nil,U,λk r' J=>by cases J⟩ ?_ ?_
 ·rintro i σ H2 hi ⟨cc,u8,u9,al,ap,av,ax,L,ds,aa,zs,rfl,O,br,KL,zl,au,bj,ce,lr,am⟩;obtain⟨j,hj,ej⟩:=Q8 po hi;have ag:rs[j]?=some rs[j]:=nh hj;generalize rs[j]=r at ag;obtain⟨d,hd,e,cr,co⟩:=(M5.keep O).rr.BZ ag;have da:(0:Int)+(i:Int)=((i:Nat):Int):=by lia
  have bo:Bt (os.map V.int) ((0:Int)+(i:Int))=some (.int (j:Int)):=by rw[da];exact Be (by rw[nJ,ej];rfl)
  exists _,U,_,U,_,U,L1,_,_,_,U,U,AR.of (O _ _ eO),bo,R,_,_,_,U,U,AR.of (M5.keep O).r1,Be (CW hd);exists d,_,U,AJ.of cr,U,_,_,U,_,_,U,_,_,U,rfl;have rm:=ny ag;obtain⟨r1,r2⟩:=kJ g ag;refine⟨_,U,.inl ⟨U,_,AR.of (O _ _ eP)⟩,_,U,Pl,ps,(r.1:Int),U,U,O _ _ eP,JK pl r1,by rw[KC pl];lia,_,U,.inl ⟨U,_,AR.of (O _ _ eP)⟩,_,U,Pl,ps,(r.2.1:Int),U,U,O _ _ eP,JK pl r2,by rw[KC pl];lia,by exact CQ,λpr ao=>?_⟩;generalize dd:ps.idxOf ((r.1:Nat):Int)=x1;generalize c6:ps.idxOf ((r.2.1:Nat):Int)=x2;obtain⟨H3,zg,sp,aw⟩:=nw ao (.AE [.int ((x1:Nat):Int),.int ((x2:Nat):Int)]);rw[zg];have s3:=O.trans sp;have ae:=sp _ _ br;have cx:=sp _ _ bj;have cg:=ce.keep Dl sp;have bv:AU H3 e r.2.2:=Ao sp co;have dt:pr≠Mk:=λz=>by rw[z,bj]at ao;cases ao
  clear sp br bj ce co cr O ao;refine⟨_,U,_,_,U,U,(show(0:Int)<2 by decide),?_⟩;refine⟨_,U,_,_,U,U,⟨by decide,by decide⟩,?_⟩;have bf:cc%2=0\/cc%2=1:=by lia
  (try dsimp only)
  generalize cc%2=I at bf;generalize cc / 2=cn;have b8:∀(L:List (Int×Int)),L.length<=100->(BN L).length<og:=λL hL=>by rw[nc];exact DF (by lia)
  have kl:=KL.len;exists _,U,_,_,U,U,ad _,_,U,_,_,U,U,_,U,_,U,_,U,L1,_,_,_,U,U,AR.of (s3 _ _ eO),bo,_,_,U,U,ad _,D,_,U,Dw.k (k:=oi (2*(j:Int))) ae (b8 _ (by lia))
  (try dsimp only)
  obtain⟨n1,n2,KN⟩:=KL.next (z:=I) po zl ej;rw[show 2*((0:Int)+(i:Int))+I=2*(i:Int)+I by lia,J9 n1];generalize eb:2*(i:Int)+I=v1 at n2 KN;have s4:=s3.up hD (.dK (BN (L++[(2*(j:Int),v1)])));have ab:(AF H3 D (.dK (BN (L++[(2*(j:Int),v1)])))) D=some (.dK (BN (L++[(2*(j:Int),v1)]))):=AY;have bp:=Jm (o:=.dK (BN (L++[(2*(j:Int),v1)]))) ae cx (λz=>by cases z);have af:=Jm (o:=.dK (BN (L++[(2*(j:Int),v1)]))) ae aw (λz=>by cases z);have a7:=PU (o:=.dK (BN (L++[(2*(j:Int),v1)]))) ae (λys z=>by cases z) cg;have bd:AU (AF H3 D (.dK (BN (L++[(2*(j:Int),v1)])))) e r.2.2:=Jm ae bv (λz=>by cases z);generalize AF H3 D (.dK (BN (L++[(2*(j:Int),v1)])))=H4 at s4 ab bp af a7 bd;clear s3 ae cx aw cg bv;exists _,U,_,_,U,U,ad _,_,_,U,U,_,U,_,_,U,U,_,U,_,U,_,U,L1,_,_,_,U,U,AR.of (s4 _ _ eO),bo,_,_,U,U,ad _,_,_,U,U,D,_,U,Dw.k (k:=oi (2*(j:Int)+1)) ab (b8 _ (by rw[nO,pw];lia))
  (try dsimp only)
  rw[show 2*((0:Int)+(i:Int))+1-I=2*(i:Int)+1-I by lia,J9 n2];generalize 2*(i:Int)+1-I=v2 at KN;generalize (L++[(2*(j:Int),v1)])++[(2*(j:Int)+1,v2)]=LN at KN;have c3:=s4.up hD (.dK (BN LN));have ck:(AF H4 D (.dK (BN LN))) D=some (.dK (BN LN)):=AY;have bn:=Jm (o:=.dK (BN LN)) ab bp (λz=>by cases z);have be:=Jm (o:=.dK (BN LN)) ab af (λz=>by cases z);have bx:=PU (o:=.dK (BN LN)) ab (λys z=>by cases z) a7;have cb:AU (AF H4 D (.dK (BN LN))) e r.2.2:=Jm ab bd (λz=>by cases z);generalize AF H4 D (.dK (BN LN))=b4 at c3 ck bn be bx cb;clear s4 ab bp af a7 bd;obtain⟨dp,df⟩:=gD x1 x2 bf;refine⟨_,U,.inl ⟨U,_,AR.of bn⟩,_,U,_,U,pr,_,_,_,U,U,AR.of be,dp,_,U,_,U,_,_,U,U,pr,_,_,_,U,U,AR.of be,df,_,U,by exact Hh,λnp c7=>?_⟩;have s7:=Ae c7 (.AG [.int ((if I=0 then x1 else x2:Nat):Int),.int ((if I=0 then x2 else x1:Nat):Int),.ref e]);have rp:Bj (AF b4 np (.AG [.int ((if I=0 then x1 else x2:Nat):Int),.int ((if I=0 then x2 else x1:Nat):Int),.ref e])) np ((if I=0 then x1 else x2:Nat),(if I=0 then x2 else x1:Nat),r.2.2):=⟨e,AY,Ao s7 cb⟩;have c4:=c3.trans s7;have bz:=s7 _ _ ck;have a9:=s7 _ _ bn;have a8:=bx.keep Dl s7;generalize AF b4 np (.AG [.int ((if I=0 then x1 else x2:Nat):Int),.int ((if I=0 then x2 else x1:Nat):Int),.ref e])=H7 at s7 rp c4 bz a9 a8;refine⟨Mk,ds.map V.ref,.ref np,U,U,a9,by rw[nc,a8.1,lr];exact DF (by lia),?_⟩;refine⟨cn,_,_,_,_,_,_,LN,ds++[np],aa++[((if I=0 then x1 else x2:Nat),(if I=0 then x2 else x1:Nat),r.2.2)],zs++[I],U,c4.up fM _,by rw[As c9];exact bz,KN,by rw[FH,zl],λk=>?_,by rw[AY,nY];rfl,PU a9 (λys z=>by cases z) (a8.snoc rp),by rw[FH,lr],λk r' J=>?_⟩
  ·rcases oP k zs.length with w|w
   ·rw[P8 w];exact au k
   ·rcases Nat.eq_or_lt_of_le w with w|w
    ·rw[<-w,show(zs++[I]).getD zs.length 0=I by simp];exact bf
    ·exact .inl (by rw[nq,pW (by rw[FH];lia)];rfl)
  rcases J0 J with J|⟨ek,er⟩
  ·obtain⟨j',r0,a1,a2,a3⟩:=am k r' J
   have:k<zs.length:=by have:=(nj.mp J).1;lia
   exact⟨j',r0,a1,a2,by rw[P8 this];exact a3⟩
  ·rw[ek,lr,er];exists j,r,ej,ag;subst dd c6;rw[ji,show(zs++[I]).getD i 0=I by rw[<-zl];simp];rfl
 rintro σ H9 ⟨cc,u8,u9,al,ap,av,ax,L,ds,aa,zs,rfl,s9,dj,KL,zl,au,dk,dc,lr,am⟩;generalize hρ:EG rs.length (ix os) (λk=>zs.getD (ix os k) 0)=ρ;refine⟨by exact Gs,λRw cf=>?_⟩;obtain⟨ec,zg,sR,eR⟩:=nw cf (.AE []);rw[zg];have cu:=s9 _ _ eP;exists _,U,Pl,U,⟨_,AR.of (sR _ _ cu)⟩;refine LS (xs:=ps.map V.int) (λi σ H2=>AM H9 H2/\(∃cc a6 bi bm,σ=[some (.ref R),some (.ref T),some (.int cc),some (.int (rs.length:Int)),some (.ref L1),some (.ref Pl),some (.ref D),some (.ref Mk),u8,u9,al,ap,av,ax,some (.ref Rw),a6,bi,bm])/\∃es us,H2 Rw=some (.AE (es.map V.ref))/\At ET H2 es us/\us.length=i/\∀(k:Nat) (u:List Int),us[k]?=some u->∃(j:Nat) (t:List Int),ps[k]?=some (j:Int)/\ts[j]?=some t/\GG (t.map ρ) u)
  ⟨sR,⟨cc,none,none,none,U⟩,[],[],eR,At.nil,U,λk u J=>by cases J⟩ (λi σ H2 _ ⟨O,_⟩=>AR.of (O _ _ cu)) ?_ ?_
 ·rintro i x σ H2 hx ⟨O,⟨cc,a6,bi,bm,rfl⟩,es,us,hY,hU,ly,a5⟩;rw[nJ]at hx;obtain⟨y,hy,rfl⟩:=qN.mp hx;have hi:i<ts.length:=by have:=(nj.mp hy).1;rwa [KC pl]at this
  obtain⟨j,hj,ej⟩:=Q8 pl hi;rw[hy]at ej;obtain rfl:y=(j:Int):=nV ej;have aj:ts[j]?=some ts[j]:=nh hj;generalize ts[j]=t at aj;have tm:=ny aj;have tl:=eX g aj;have tp:0<t.length:=List.length_pos_iff.mpr (g.ne t tm);have Mz:=M.keep (s5.trans (s9.trans O));obtain⟨b,hb,hB⟩:=Mz.tm.Ci.BZ (Ls aj);refine⟨_,U,_,U,T,_,_,_,U,U,AR.of Mz.tm.h1,Be (CW hb),b,U,⟨_,AR.of hB⟩,λay dh=>?_⟩;refine Cy (Iw hB) (by rw[nc,nc];lia) dh (λj ys σ hp=>ys=((t.map ρ).take j).map V.int/\∃u,σ=[u,some (.ref D)]) ⟨U,none,U⟩ ?_ ?_
  ·rintro k dn σ H3 x H4 J sm dr ⟨rfl,u,rfl⟩ ⟨rfl,hx⟩ Cc hC;obtain⟨e,rfl,he⟩:=N8 hx;rw[nJ] at he;obtain⟨y,ey,rfl⟩:=qN.mp he;have yR:AH (2*rs.length+2) y:=by
    have:=(g.mem y).mp (oC.mpr ⟨t,tm,ny ey⟩)
    rwa [hn]at this
   refine⟨_,U,_,U,D,_,U,Nq (sm _ _ (O _ _ dj)) (KL.BZ po yR),hC _ _ _ (AM.refl _) ⟨?_,_,U⟩⟩;rw[hρ];have ee:(t.map ρ)[k]?=some (ρ y):=by rw[nJ,ey];rfl
   rw[D4 ee,nY];rfl
  rintro dn σ H3 s3 ai dv ⟨rfl,u,rfl⟩;rw[nc,nc,ou (by rw[nc];exact nG _)]at ai;have b6:((t.map ρ).map V.int).length=t.length:=by rw[nc,nc]
  have aq:((((t.map ρ).map V.int).length:Nat):Int)=(t.length:Int):=by rw[b6]
  refine⟨_,U,_,U,ay,_,U,.inl (AR.of ai),_,_,U,U,by rw[aq];lia,?_⟩;exists _,U,_,U,ay,_,U,.inl (AR.of ai),_,_,U,U,⟨by rw[aq];lia,by rw[aq];show(t.length:Int)<1073741824;lia⟩
  (try dsimp only)
  rw[aq];have b3:(0:Int)<(t.length:Int):=by lia
  have d0:=pS cc (yt b3);have d1:=pH cc b3;obtain⟨k,J⟩:∃k:Nat,cc%(t.length:Int)=(k:Int):=⟨(cc%(t.length:Int)).toNat,by lia⟩;rw[J]at d1 ⊢;have jl:k<=((t.map ρ).map V.int).length:=by lia
  have c5:=s3 _ _ hY;refine⟨_,U,.inl ⟨U,_,AR.of c5⟩,_,U,_,U,_,U,ay,_,U,AR.of ai,λp1 a4=>?_⟩;rw[Js _ jl];obtain⟨d7,zg,bw,e5⟩:=nw a4 (.AE (((t.map ρ).map V.int).drop k));rw[zg];refine⟨_,U,_,U,_,U,ay,_,U,AR.of (bw _ _ ai),λp2 bh=>?_⟩;rw[NF _ jl];obtain⟨d8,zg,b9,e6⟩:=nw bh (.AE (((t.map ρ).map V.int).take k));rw[zg];refine⟨p1,p2,_,_,U,U,b9 _ _ e5,e6,by rw[o6,pB,b6];exact Gd (by lia),λp3 aw=>?_⟩;rw[<-List.map_drop,<-List.map_take,<-List.map_append];have rt:GG (t.map ρ) ((t.map ρ).drop k++(t.map ρ).take k):=⟨_,_,(qF k _).symm,U⟩;generalize (t.map ρ).drop k++(t.map ρ).take k=un at rt;obtain⟨bq,zg,c8,e7⟩:=nw aw (.AE (un.map V.int));rw[zg];refine⟨p3,_,U,.inl ⟨AR.of e7,λp4 af=>?_⟩⟩;have ci:=Ae af (.AG (un.map V.int));have e8:ET (AF bq p4 (.AG (un.map V.int))) p4 un:=AY;have ar:=s3.trans (bw.trans (b9.trans (c8.trans ci)));generalize AF bq p4 (.AG (un.map V.int))=dw at ci ar e8;have cp:=ar _ _ hY;refine⟨Rw,es.map V.ref,.ref p4,U,U,cp,by rw[nc,hU.1,ly];exact DF (by lia),?_⟩;refine⟨(O.trans ar).up cf _,⟨_,_,_,_,U⟩,es++[p4],us++[un],by rw[AY,nY];rfl,?_,by rw[FH,ly],λk u J=>?_⟩
  ·have:=(hU.keep NM ar).snoc e8
   refine⟨this.1,λi b x q1 q2=>?_⟩;have h:=this.2 i b x q1 q2;unfold ET at h ⊢;rw[As (λz=>by rw[z,cp]at h;cases h)];exact h
  ·rcases J0 J with J|⟨ek,er⟩
   ·exact a5 k u J
   ·rw[ek,ly,er];exact⟨j,t,hy,aj,rt⟩
 rintro σ Hz ⟨sz,⟨cc,a6,bi,bm,rfl⟩,es,us,hY,hU,ly,a5⟩;rw[nc,KC pl]at ly;have dm:((es.map V.ref).length:Int)=(ts.length:Int):=by rw[nc,hU.1,ly]
 have cw:ix ps 0=0:=Q5 pl p0;have b0:ix ps 1=1:=Q5 pl p1;have b5:∀{n k:Nat} {os:List Int},os.Perm (Dx n)->k<n->os[ix os k]?=some (k:Int):=λ{n k os} ho J=>by
  have hl:=qg.mpr (JK ho J);show os[os.idxOf (k:Int)]?=_;rw[nh hl,rM hl]
 have N:EI ts.length aa us/\Kt us rs.length:=by
  subst hρ;refine jJ g hn db lr ly (jY (z:=λk=>zs.getD (ix os k) 0) (λk=>au _) (Qn po) (Qn pl) cw b0) (λp t ht=>?_) (iJ (z:=λk=>zs.getD (ix os k) 0) (λk=>au _) rfl lr (Qn po) cw b0 λk r J=>?_) (λr' dl=>?_)
  ·have hp:=(nj.mp ht).1;have lt:ix ps p<us.length:=by rw[ly];exact L7 pl hp
   have ah:us[ix ps p]?=some us[ix ps p]:=nh lt;obtain⟨j,t',a1,a2,a3⟩:=a5 _ _ ah;rw[b5 pl hp]at a1
   have:j=p:=by have:=nV a1;lia
   subst this;rw[ht]at a2;cases a2;exact⟨_,ah,a3⟩
  ·have cy:=(nj.mp J).1;have lt:ix os k<aa.length:=by rw[lr];exact L7 po cy
   have ah:aa[ix os k]?=some aa[ix os k]:=nh lt;obtain⟨j,r',a1,a2,a3⟩:=am _ _ ah;rw[b5 po cy]at a1
   have:j=k:=by have:=nV a1;lia
   subst this;rw[J]at a2;cases a2;rw[ah,a3]
  ·obtain⟨j,hj,ej⟩:=om dl;obtain⟨k,r,_,a2,a3⟩:=am j r' (by rw[nh hj,ej])
   have:=ek r (ny a2)
   rw[a3];unfold Il;split<;>exact this
 refine⟨_,U,Rw,_,U,.inl (AR.of hY),_,U,Mk,_,U,.inl ⟨AR.of (sz _ _ dk),λp1 a4=>?_⟩⟩;have s7:=Ae a4 (.AG (ds.map V.ref));have e7:A4 Bj (AF Hz p1 (.AG (ds.map V.ref))) p1 aa:=⟨ds,AY,dc.keep Dl (sz.trans s7)⟩;generalize AF Hz p1 (.AG (ds.map V.ref))=H7 at s7 e7;refine⟨_,U,Rw,_,U,.inl ⟨AR.of (s7 _ _ hY),λp2 bh=>?_⟩⟩;have s8:=Ae bh (.AG (es.map V.ref));have e8:A4 ET (AF H7 p2 (.AG (es.map V.ref))) p2 us:=⟨es,AY,hU.keep NM (s7.trans s8)⟩;generalize AF H7 p2 (.AG (es.map V.ref))=H8 at s8 e8;refine⟨by exact Hh,λp hp=>?_⟩;rw[dm];have bg:=Ae hp (.AG [.int ((ts.length:Nat):Int),.ref p1,.ref p2]);exact q p p1 p2 aa us _ (s5.trans (s9.trans (sz.trans (s7.trans (s8.trans bg))))) AY (ES (R:=Bj) (λs h=>Dl s h) (s8.trans bg) e7) (ES (R:=ET) (λs h=>NM s h) bg e8) N.1 (by rw[lr];exact N.2) lr (by lia)
inductive Nv(K:nI)(I:List V)(H:Hp)(Q:VK)(_:XK):Prop
 |mk (a:Addr) (F:List Int) (k:Int) (aa:I=[.ref a,.int k]) (J:XY K H a F) (ab:0<=k) (ac:k<1000000) (O:∀z,Q (.int z) H)
theorem MC:Az ["_law_script","_law_k","_law_cell_here","_law_first","_law_second"] ["_law_script","_law_k"] (Ak sCellAt):=A9
theorem gK(F:Aq K "_law_cell" "_law_cell" sCellAt f fd)(ml:mg "len" = none):Am P w K mg base Aw 1 f fd ["_law_script","_law_k"] (Nv K):=by
 refine F.BD MC λii A _ s H vs Q E hr h=>?_
 obtain⟨a,I,k,rfl,⟨J,hl⟩,h0,af,q⟩:=h;exists _,AN (Bq (PW.pt (Qv (Bb OI (MG K ml (pv 0)) AB) (Qg (Bb FV (AL Ce (JS (OX (K:=K)) (pv 0) AB (λ_ _=>rfl)) AB) AB))))
   (AN (Bq (Bb FV (pv 1) AB) (AX (Ar (AL FN (JS (OX (K:=K)) (pv 0) AB (λ_ _=>rfl)) AB))) By)
    (AN (Bq (Bb JT (pv 1) (MG K ml (pv 0))) (AX (Ar (JS (OX (K:=K)) (pv 0) (pv 1) (λ_ _=>rfl)))) By)
     (AX (Ar AB)))) By)
  (AN (Aa 2 MC AB)
  (AN (Bq (Bb OI (MG K ml (pv 0)) AB)
   (AX (Aa 2 MC (AL Ce (JS (OX (K:=K)) (pv 0) (AL Ce (pv 1) (MG K ml (pv 0))) (λ_ _=>rfl)) (AL jH AB AB)))) By)
  (AN (Aa 3 MC (AL Ce (AL Bv (AL BY (AL BY (AL BY (pv 2) (AL Bv (AL Bv AB (pv 1)) (pv 1))) (AL Bv AB (pv 1))) AB) AB) AB))
  (AN (Aa 4 MC (AL Ce (AL BY (AL Bv (pv 3) (pv 3)) (pv 1)) AB))
  (AX (Ar (AL Ce (AL BY (AL Bv (pv 4) AB) (pv 3)) AB)))))))
 have c7:He 7 k:=.inl ⟨by decide,by decide⟩;have ae:He 13 k:=.inl ⟨by decide,by decide⟩;have ck:∀y:Int,He y k:=λ_=>.inr ⟨by lia,by lia⟩
 have cf:∀z y:Int,He z (y%2147483647):=λ_ y=>.inr ⟨by have:=pS y (b:=2147483647) (by decide);lia,by have:=pH y (b:=2147483647) (by decide);lia⟩
 have ab:∀{u:Int} {r:List Int},I=u :: r->Bt (I.map V.int) 0=some (.int u):=λ{u r} e=>(Be (by rw[e];rfl):Bt (I.map V.int) ((0:Nat):Int)=some (V.int u))
 have ac:∀{j:Int},0<=j->j<(I.length:Int)->∃u,Bt (I.map V.int) j=some (.int u):=λ{j} h1 h2=>by
  have hj:j.toNat<I.length:=by lia
  have e:Bt (I.map V.int) ((j.toNat:Nat):Int)=some (.int I[j.toNat]):=Be (by rw[nJ,nh hj];rfl);rw[show((j.toNat:Nat):Int)=j by lia]at e;exact⟨_,e⟩
 have aa:(((I.map V.int).length:Nat):Int)=(I.length:Int):=by rw[nc]
 by_cases O:(0:Int)<(((I.map V.int).length:Nat):Int)
 ·rw[aa] at O;obtain⟨u,r,e⟩:∃u r,I=u :: r:=by
   cases I with
   |nil=>exact absurd O (by decide)
   |cons u r=>exact⟨u,r,U⟩
  by_cases ho:V.int (u%2)=V.int 1
  ·refine⟨_,U,a,_,U,.inl J,_,_,U,U,_,U,C4 (by rw[aa];exact O) ⟨_,U,a,_,_,_,U,U,J,ab e,_,_,U,U,(show(0:Int)<2 by decide),U,_,U,C4 ho ?_⟩⟩;exists _,U,U,_,rfl;by_cases ad:V.int k=V.int 0
   ·exact C4 ad ⟨_,U,a,_,_,_,U,U,J,ab e,_,_,U,U,⟨by decide,by decide⟩,q _⟩
   ·refine DC ad ⟨_,U,_,U,a,_,U,.inl J,_,_,U,U,_,U,?_⟩;by_cases hk:k<(((I.map V.int).length:Nat):Int)
    ·obtain⟨u,e⟩:=ac h0 (by rw[aa]at hk;exact hk);exact C4 hk ⟨_,U,_,U,a,_,_,_,U,U,J,e,q _⟩
    ·exact DC hk (q _)
  ·obtain⟨u2,e2⟩:=ac (j:=k % (I.length:Int)) (pS _ (by lia  )) (pH _ (by lia  ));refine⟨_,U,a,_,U,.inl J,_,_,U,U,_,U,C4 (by rw[aa]; exact O) ⟨_,U,a,_,_,_,U,U,J,ab e,_,_,U,U,(show(0:Int)<2 by decide),U,_,U,DC ho ?_⟩⟩;refine⟨_,U,a,_,U,.inl J,_,_,U,U,_,U,C4 (by rw[aa]; exact O) ?_⟩;refine⟨_,U,_,U,_,U,a,_,U,.inl J,_,_,U,U,(by rw[aa]; exact O),a,_,_,_,U,U,J,(by rw[aa]; exact e2),_,_,U,U,⟨by decide,by decide,by decide⟩,_,_,U,U,(show(0:Int)<10 ^ ((18:Int).toNat) by decide),?_⟩;exact⟨_,U,_,U,_,_,U,U,c7,_,U,_,_,U,U,ck _,_,_,U,U,_,U,_,_,U,U,ae,_,_,U,U,_,_,U,U,_,_,U,U,.inr ⟨by decide,by decide⟩,_,_,U,U,(show(0:Int)<2147483647 by decide),
    _,U,_,U,_,_,U,U,cf _ _,_,U,_,_,U,U,_,_,U,U,(show(0:Int)<1000000007 by decide),_,U,_,_,U,U,.inr ⟨by decide,by decide⟩,_,U,_,_,U,U,_,_,U,U,(show(0:Int)<2147483629 by decide),q _⟩
 ·refine⟨_,U,a,_,U,.inl J,_,_,U,U,_,U,DC O (Cr ?_)⟩;refine⟨_,U,a,_,U,.inl J,_,_,U,U,_,U,DC O ?_⟩;exact⟨_,U,_,U,_,_,U,U,c7,_,U,_,_,U,U,ck _,_,_,U,U,_,U,_,_,U,U,ae,_,_,U,U,_,_,U,U,_,_,U,U,.inr ⟨by decide,by decide⟩,_,_,U,U,(show(0:Int)<2147483647 by decide),
    _,U,_,U,_,_,U,U,cf _ _,_,U,_,_,U,U,_,_,U,U,(show(0:Int)<1000000007 by decide),_,U,_,_,U,U,.inr ⟨by decide,by decide⟩,_,U,_,_,U,U,_,_,U,U,(show(0:Int)<2147483629 by decide),q _⟩
end
end My
namespace My
open PySem L2 Mth
variable {r:List Nat}
theorem Yo:Gn [[2,0],[3,1]] [0,1,0,1]:=by
 have O:([[2,0],[3,1]]:List (List Int)).flatten.Nodup:=by decide
 refine⟨by decide,by decide,by decide,O,λx=>?_,λp t hp x F=>?_,by decide,by decide,⟨U,U⟩,λS I J p hp=>?_,Z6 [[2,0],[3,1]] rfl (by decide) (by decide) (by decide) (by decide),ZK rfl⟩
 ·simp only[oN,uO,pO,nM,nZ,pD,qV,AH,oA,rA]
  lia
 ·match p,hp with
  |0,hp=>cases hp;simp at F;rcases F with rfl|rfl<;>rfl
  |1,hp=>cases hp;simp at F;rcases F with rfl|rfl<;>rfl
 ·have:=J 1 (by decide) 0 1 rfl rfl
  match p,hp with
  |0,_=>exact I
  |1,_=>exact this.mp I
section
variable {P:oT}{w:World}{K:nI}{mg:Str->Option Value}{base:Heap}{f g h f1 f2 f3 f4:Addr}{fd gd hd d1 d2 d3 d4:qf}
inductive Wt(I:List V)(H:Hp)(Q:VK)(_:XK):Prop
 |mk (a:Addr) (zs:List Int) (z c:Int) (ab:I=[.ref a,.int z,.int c]) (aa:H a=some (.AE (zs.map V.int))) (O:zs.length<=13) (J:∀p H' n F ta rs us,AM H H'->H' p=some (.AG [.int ((n:Nat):Int),.ref F,.ref ta])->A4 Bj H' F rs->A4 ET H' ta us->EI n rs us->Kt us rs.length->rs.length=zs.length+1->n<=rs.length+1->Q (.ref p) H')
theorem OY:Az ["_law_cells","_law_first","_law_names","_law_ropes","_law_turns","_law_cell_here"] ["_law_cells","_law_first","_law_names"] (Ak sNet):=A9
set_option maxHeartbeats 4000000 in
seal L2.CU L2.PS L2.PE L2.PA in
theorem jA (F:Aq K "_law_net" "_law_net" sNet f fd)(G1:Ad P w K mg base 2 "_law_ease" ["_law_cell_here"] Qj)
  (G2:Ad P w K mg base 3 "_law_grow" ["_law_ropes","_law_turns","_law_cell_here"] Vi)
  (G3:Ad P w K mg base 2 "_law_named" ["_law_ropes","_law_turns","_law_cell_here"] UM) :
  Am P w K mg base Aw 4 f fd ["_law_cells","_law_first","_law_names"] Wt:=by
 refine F.BD OY λii A _ s H vs Q E hr h=>?_
 obtain⟨a,zs,z,c,rfl,ha,hz,q⟩:=h;exists _,AN (Aa 3 OY (DB (AA (Bl (AA AB (AA AB (AA (AZ G1 (AA (pv 1) AD)) AD)))) AD)))
  (AN (Aa 4 OY (DB (AA (DB (AA AB (AA (FW FU AB) AD))) (AA (DB (AA AB (AA (FW FU AB) AD))) AD))))
  (AN (CS oB rfl (FX (pv 0)) (BL 5 OY)
   (AX (Eb (AZ G2 (AA (pv 3) (AA (pv 4) (AA (pv 5) AD)))))))
  (AX (Ar (AZ G3 (AA (pv 3) (AA (pv 4) (AA (pv 2) AD))))))))
 refine⟨_,U,_,U,λe he ea af=>⟨by exact Hh,λp1 ac=>⟨by exact IY,λR hR=>?_⟩⟩⟩;obtain⟨H1,zg,t1,zz⟩:=nw af (.AG [.int e.num,.int e.den]);rw[zg]at ac hR ⊢;have e1:AU H1 ea e:=zz;have t2:=Ae ac (.AG [.int 0,.int 1,.ref ea]);have e2:Bj (AF H1 p1 (.AG [.int 0,.int 1,.ref ea])) p1 (0,1,e):=⟨ea,AY,t2 _ _ e1⟩;generalize AF H1 p1 (.AG [.int 0,.int 1,.ref ea])=H2 at t2 e2 hR;obtain⟨H3,zg,t3,e3⟩:=nw hR (.AE [.ref p1]);rw[zg];have ad:=Dl t3 e2;have nR:H R=none:=(t1.trans t2).free hR;have s3:=(t1.trans t2).trans t3;refine⟨_,U,by exact CQ,λI ab=>⟨_,U,by exact CQ,λO aa=>⟨by exact CQ,λT J=>?_⟩⟩⟩;dsimp only at ab aa J ⊢;have u1:=Ae ab (.AE [.int 0,.int (-2)]);have g1:CT (AF H3 I (.AE [.int 0,.int (-2)])) I [0,-2]:=AY;generalize AF H3 I (.AE [.int 0,.int (-2)])=H4 at u1 g1 aa J;have u2:=Ae aa (.AE [.int 1,.int (-1)]);have g2:CT (AF H4 O (.AE [.int 1,.int (-1)])) O [1,-1]:=AY;generalize AF H4 O (.AE [.int 1,.int (-1)])=H5 at u2 g2 J;obtain⟨H6,zg,u3,g3⟩:=nw J (.AE [.ref I,.ref O]);rw[zg];have s4:=s3.trans u1;have s5:=s4.trans u2;have s6:=s5.trans u3;have ak:H I=none:=s3.free ab;have ai:H O=none:=s4.free aa;have nT:H T=none:=s5.free J;have M0:DI H6 R T [p1] [I,O] [[2,0],[3,1]] [(0,1,e)]:=by
  have k1:R≠I:=λz=>by rw[<-z,e3]at ab;cases ab
  have k2:R≠O:=λz=>by rw[<-z,u1 _ _ e3]at aa;cases aa
  have k3:R≠T:=λz=>by rw[<-z,u2 _ _ (u1 _ _ e3)]at J;cases J
  have k4:I≠O:=λz=>by rw[<-z,show H4 I=_ from g1]at aa;cases aa
  have k5:I≠T:=λz=>by rw[<-z,u2 _ _ g1]at J;cases J
  have k6:O≠T:=λz=>by rw[<-z,show H5 O=_ from g2]at J;cases J
  exists ⟨g3,At.snoc (bs:=[I]) (xs:=[[0,-2]]) (At.snoc (bs:=[]) (xs:=[]) At.nil ?_) ?_,?_⟩,((u1.trans u2).trans u3) _ _ e3,At.snoc (bs:=[]) (xs:=[]) At.nil (Dl ((u1.trans u2).trans u3) ad)
  ·exact ER (u2.trans u3) g1
  ·exact ER u3 g2
  ·simp only[pj,nZ,pD,qV,not_or,List.nodup_nil,and_true,not_false_eq_true];exact⟨⟨λz=>k5 z.symm,λz=>k6 z.symm⟩,k4⟩
  ·simp only[nZ,pD,qV,not_or];exact⟨k3,k1,k2⟩
 have al:=s6 _ _ ha;exists _,U,a,U,⟨_,AR.of al⟩;refine LS (xs:=zs.map V.int) (λi σ H2=>AM H H2/\∃cs bs ts rs u,σ=[some (.ref a),some (.int z),some (.int c),some (.ref R),some (.ref T),u]/\DI H2 R T cs bs ts rs/\Gn ts (BK rs)/\(∀r∈rs,GW r.2.2)/\rs.length=i+1/\∀x∈bs,H x=none)
  ⟨s6,_,_,_,_,none,U,M0,Yo,(λr hr=>by rw[nU.mp hr];exact he),U,λx hx=>by
   simp only[nZ,pD,qV]at hx;rcases hx with rfl|rfl
   ·exact ak
   ·exact ai⟩ (λi σ H2 _ ⟨s,_⟩=>AR.of (s _ _ ha)) ?_ ?_
 ·rintro i x σ H2 hx ⟨s2,cs,bs,ts,rs,u,rfl,M,gi,lo,hl,nb⟩;rw[nJ]at hx;obtain⟨y,hy,rfl⟩:=qN.mp hx;have hi:i<zs.length:=(nj.mp hy).1;exact⟨_,U,_,U,_,U,R,T,cs,bs,ts,rs,y,H,U,M,gi,by lia,lo,s2,nR,nT,nb,λH' cs' ah ts' rs' sH M' aj am ag ae=>⟨sH,cs',ah,ts',rs',_,U,M',aj,ag,by lia,ae⟩⟩
 rintro σ H7 ⟨s7,cs,bs,ts,rs,u,rfl,M7,gi,lo,hl,nb⟩;rw[nc]at hl;exact⟨_,U,_,U,_,U,R,T,cs,bs,ts,rs,c,U,M7,gi,by lia,lo,λp ra ta rs' us H' s' h1 h2 h3 N D l ao=>q p H' ts.length ra ta rs' us (s7.trans s') h1 h2 h3 N D (by lia) (by lia)⟩
inductive Vj(K:nI)(O:List V)(H:Hp)(Q:VK)(_:XK):Prop
 |mk (a b:Addr) (J ms:List Int) (M F:Nat) (ai:O=[.ref a,.int (F:Int),.ref b]) (ah:F<=1000) (ad:XY K H a J) (ab:H b=some (.AE (ms.map V.int))) (ae:0<ms.length) (af:ms.length<=100) (ag:M<=14) (ac:(∀m∈ms,0<=m/\m+1<=(M:Int))) (aa:∀p H' n I ta rs us,AM H H'->H' p=some (.AG [.int ((n:Nat):Int),.ref I,.ref ta])->A4 Bj H' I rs->A4 ET H' ta us->EI n rs us->Kt us rs.length->rs.length<=M->n<=rs.length+1->Q (.ref p) H')
theorem Ra:Az ["_law_script","_law_at","_law_sizes","_law_many","_law_cells"] ["_law_script","_law_at","_law_sizes"] (Ak sSomeNet):=A9
theorem kT:(["_law_k","_law_script"]:List Str).Nodup:=by decide +kernel
set_option maxHeartbeats 4000000 in
seal L2.CU L2.PS L2.PE L2.PA in
theorem gW (F:Aq K "_law_some_net" "_law_some_net" sSomeNet f fd)(O:Ad P w K mg base 1 "_law_cell" ["_law_script","_law_k"] (Nv K))
  (G2:Ad P w K mg base 4 "_law_net" ["_law_cells","_law_first","_law_names"] Wt)(ml:mg "len" = none)(mn:mg "min" = none)(mr:mg "range" = none) :
  Am P w K mg base Aw 5 f fd ["_law_script","_law_at","_law_sizes"] (Vj K):=by
 refine F.BD Ra λii A _ s H vs Q E hr h=>?_
 obtain⟨a,b,J,ms,M,aa,rfl,ai,I,hb,l0,l1,hM,hm,q⟩:=h;exists _,AN (Aa 3 Ra (pL (pv 2) (AL Ce (AZ O (AA (pv 0) (AA (pv 1) AD))) (C7 ml (pv 2)))))
  (AN (Jk (i:=4) Ra.nd rfl (p8 rfl) (Nc:=["_law_k","_law_script"]) (cap:=[(1,0)]) (g:=BU 0) (te:=EA (Nv K) [] E0 (BP (Al 1) (BP (Al 0) CH))) rfl
    (Ph (by rfl) mr (AA (AL BY (pv 1) AB) (AA (CV (Zb rfl) (by rfl) mn hZ (AA (MG K ml (pv 0)) (AA (AL BY (AL BY (pv 1) AB) (pv 3)) AD))) AD)))
    Cn
    (λ_ _ _ _ _=>B9 (i:=0) kT rfl (p8 rfl)) (λ_ _ _ _ _=>AZ O (AA (pv 1) (AA (pv 0) AD))))
  (AX (Ar (AZ G2 (AA (pv 4) (AA (AZ O (AA (pv 0) (AA (AL BY (pv 1) AB) AD))) (AA (AZ O (AA (pv 0) (AA (AL BY (pv 1) AB) AD))) AD)))))))
 have ab:(0:Int)<((ms.map V.int).length:Int):=by rw[nc];lia
 refine⟨_,U,_,U,_,U,a,J,_,U,I,by lia,by lia,λz1=>⟨_,U,b,_,U,.inl (AR.of hb),_,_,U,U,ab,?_⟩⟩;obtain⟨m,ae,af⟩:∃m,m∈ms/\Bt (ms.map V.int) (z1%((ms.map V.int).length:Int))=some (.int m):=by
  have y0:=pS z1 (show((ms.map V.int).length:Int)≠0 by lia);have y1:=pH z1 ab;obtain⟨y,hy⟩:=wQ y0;rw[hy];rw[hy,nc]at y1;refine⟨ms[y]'(by lia),oK _,Be ?_⟩;rw[nJ,nh (by lia)];rfl
 obtain⟨ak,aj⟩:=hm m ae;exists b,_,_,_,U,U,AR.of hb,af;exists _,U,_,_,U,U,_,U,a,_,U,.inl I.1,_,U,_,_,U,U,_,U,_,_,U,U,_,_,rfl;have al:((J.map V.int).length:Int)<=63:=by rw[nc];have:=I.2;lia
 obtain⟨L,eL,L0,L1⟩:∃L:Int,L=(if ((aa:Int)+3+m)<((J.map V.int).length:Int) then ((aa:Int)+3+m) else ((J.map V.int).length:Int))/\0<=L/\L<=(aa:Int)+3+m:=⟨_,U,by split<;>lia,by split<;>lia⟩;refine⟨_,_,U,⟨by lia,by lia,by rw[<-eL];lia,by rw[<-eL];lia⟩,?_⟩;rw[<-eL];refine λag ac=>?_
 refine Cy Pj (by lia) ac (λi ys σ _=>∃zs:List Int,ys=zs.map V.int/\zs.length=i/\∃u,σ=[u,some (.ref a)]) ⟨[],U,U,none,U⟩ ?_ ?_
 ·rintro i ys σ H2 x H3 hi sm ah ⟨zs,rfl,lz,u,rfl⟩ ⟨rfl,rfl⟩ Cc hC;exact⟨_,U,_,U,a,J,_,U,⟨sm.seq I.1,I.2⟩,by lia,by lia,λz=>hC _ _ _ (AM.refl _) ⟨zs++[z],by simp,by simp[lz],_,U⟩⟩
 rintro ys σ H2 s2 hc hl ⟨zs,rfl,lz,u,rfl⟩;refine⟨_,U,_,U,_,U,_,_,U,U,a,J,_,U,⟨s2.seq I.1,I.2⟩,by lia,by lia,λz2=>⟨_,U,_,U,_,_,U,U,a,J,_,U,⟨s2.seq I.1,I.2⟩,by lia,by lia,λz3=>?_⟩⟩;exact⟨ag,zs,_,_,U,hc,by lia,λp H' n ra ta rs us s5 w1 w2 w3 N D l ad=>q p H' n ra ta rs us (s2.trans s5) w1 w2 w3 N D (by lia) ad⟩
open Wd
structure E5(n:Nat)(s:Int)(rs:List AK)(l:List Int):Prop where
 nd:l.Nodup
 FA:∀x∈l,AH n x
 st:s∈l
 Lu:∀S:Int->Prop,S s->(∀r∈rs,(S r.1↔S r.2.1))->∀x∈l,S x
theorem E5.len(k:E5 n s rs l):l.length<=n:=HK n _ k.nd k.FA
theorem E5.Cu(k:E5 n s rs l){r:AK}(hr:r∈rs)(h:(r.1:Int)∈l\/(r.2.1:Int)∈l){e:Int}(O:e=r.1\/e=r.2.1)(hi:AH n e):E5 n s rs (DU l e):=by
 refine⟨dD k.nd,λx F=>?_,Ju.mpr (.inl k.st),λS J I x F=>?_⟩
 ·rcases Ju.mp F with z|rfl
  ·exact k.FA x z
  ·exact hi
 ·rcases Ju.mp F with z|rfl
  ·exact k.Lu S J I x z
  ·have:=I r hr
   rcases h with h|h<;>have h2:=k.Lu S J I _ h<;>rcases O with rfl|rfl
   ·exact h2
   ·exact this.mp h2
   ·exact this.mpr h2
   ·exact h2
inductive RB(F:List V)(H:Hp)(Q:VK)(_:XK):Prop
 |mk (s:Int) (a:Addr) (n:Nat) (rs:List AK) (aa:F=[.int s,.ref a]) (I:AH n s) (ab:n<=100) (ac:ED Bj H a rs) (O:(∀r∈rs,r.1<n/\r.2.1<n)) (J:∀d l H',AM H H'->H' d=some (.dK (Di l))->E5 n s rs l->(∀r∈rs,((r.1:Int)∈l↔(r.2.1:Int)∈l))->Q (.ref d) H')
theorem Lx:Az ["start","ropes","met","before","rope"] ["start","ropes"] (Ak s_led_to):=A9
theorem gq(F:Aq K "led_to" "led_to" s_led_to f fd)(ml:mg "len" = none):Am P w K mg base Aw 1 f fd ["start","ropes"] RB:=by
 refine F.BD Lx λii A _ s H vs Q E hr h=>?_
 obtain⟨J,a,n,rs,rfl,hs,hn,⟨bs,ha,hB⟩,ap,q⟩:=h;have hu:=IP hr;exists _,AN (Aa 2 Lx (Qe (NA (pv 0) Ke Qa) rfl rfl (by simp) (by decide)))
  (AN (Aa 3 Lx AB)
  (AN (Jq oB (Bb JT (pv 3) (CV Ht (by rfl) ml Ee (AA (pv 2) AD)))
   (AN (Aa 3 Lx (CV Ht (by rfl) ml Ee (AA (pv 2) AD)))
   (AX (CS oB rfl (FX (pv 1)) (BL 4 Lx)
    (AX (Bq (PW.pt (Fx (JJ (N5 hu (pT (pv 4) AB) (pv 2))) (JE (JJ (N5 hu (pT (pv 4) AB) (pv 2))))))
     (AN (HD hu (pv 2) (pT (pv 4) AB) Ke rfl) (AX (HD hu (pv 2) (pT (pv 4) AB) Ke rfl))) By))))))
  (AX (Ar (pv 2)))))
 intro d hd;refine⟨_,U,AY,[(oi J,.bl true)],U,by show 1<=15;decide,?_⟩;have s1:AM H (AF (AF H d (.dK [])) d (.dK (Ez [] [(oi J,.bl true)]))):=(Ae hd _).up hd _;have e1:(AF (AF H d (.dK [])) d (.dK (Ez [] [((oi J:Ai),V.bl true)]))) d=some (.dK (Di [J])):=AY;generalize AF (AF H d (.dK [])) d (.dK (Ez [] [((oi J:Ai),V.bl true)]))=H1 at s1 e1;refine Jp (λσ H2=>∃(l:List Int) (b:Nat) (u:Option V),σ=[some (.int J),some (.ref a),some (.ref d),some (.int (b:Int)),u]/\AM H H2/\H2 d=some (.dK (Di l))/\E5 n J rs l/\b<=l.length/\(b=l.length->∀r∈rs,((r.1:Int)∈l↔(r.2.1:Int)∈l)))
  (λσ _=>match σ with | [_,_,_,some (.int b),_]=>n+1-b.toNat|_=>0) ⟨[J],0,none,U,s1,e1,⟨by simp,λx hx=>by rw[nU]at hx;subst hx;exact hs,by simp,λS h0 _ x hx=>by rw[nU]at hx;subst hx;exact h0⟩,pJ _,λz=>by simp at z⟩ ?_ ?_
 ·rintro σ H2 ⟨l,b,u,rfl,sm,af,k,hb,am⟩;exists _,U,_,U,d,_,U,af,_,_,U,U,_,rfl;rw[nc];by_cases aq:b<l.length
  ·refine C4 (by lia  ) ?_;exists _,U,d,_,U,af;rw[nc];exists _,U,a,U,⟨_,AR.of (sm _ _ ha)⟩;refine LS (xs:=bs.map V.ref) (λi σ H3=>∃(I:List Int) (u:Option V),σ=[some (.int J),some (.ref a),some (.ref d),some (.int ((l.length:Nat):Int)),u]/\AM H H3/\H3 d=some (.dK (Di I))/\E5 n J rs I/\l.length<=I.length/\(l.length=I.length->I=l/\∀r∈rs.take i,((r.1:Int)∈l↔(r.2.1:Int)∈l)))
    ⟨l,u,U,sm,af,k,nG _,λ_=>⟨U,by simp⟩⟩ (λi σ H3 _ ⟨_,_,_,s3,_⟩=>AR.of (s3 _ _ ha)) ?_ ?_
   ·rintro i x σ H3 hx ⟨I,u',rfl,s3,aa,k3,ag,ae⟩;obtain⟨c,r,rfl,_,hy,e,hc,he⟩:=hB.ref hx;have ah:r∈rs:=ny hy;obtain⟨r1,r2⟩:=ap r ah;have O:=s3 _ _ hc;have al:AH n (r.1:Int):=⟨by lia  ,by lia  ⟩;have ao:AH n (r.2.1:Int):=⟨by lia  ,by lia  ⟩;have go:∀(ab:(r.1:Int)∈I\/(r.2.1:Int)∈I),∃l2,E5 n J rs (DU I r.1)/\(DU (DU I r.1) r.2.1)=l2/\E5 n J rs l2/\l.length<=l2.length/\(l.length=l2.length->l2=l/\∀r∈rs.take (i+1),((r.1:Int)∈l↔(r.2.1:Int)∈l)):=by
     intro ab;have ka:=k3.Cu ah ab (.inl rfl) al;have kb:=ka.Cu ah (.inl (Ju.mpr (.inr rfl))) (.inr rfl) ao;refine⟨_,ka,U,kb,?_,λhl=>?_⟩
     ·have:=(Mu I r.1).1
      have:=(Mu (DU I r.1) r.2.1).1
      lia
     ·have a1:=Mu I r.1;have a2:=Mu (DU I r.1) r.2.1;have b1:=a1.2 (by lia);have b2:=a2.2 (by lia);obtain⟨rfl,c2⟩:=ae (by lia);refine⟨by rw[b2,b1],λr' ad=>?_⟩;rw[D4 hy]at ad;rcases nM.mp ad with z|z
      ·exact c2 r' z
      ·rw[nU]at z;subst z;have m1:(r'.1:Int)∈I:=by rw[<-b1];exact Ju.mpr (.inr rfl)
       have m2:(r'.2.1:Int)∈I:=by rw[b1]at b2;rw[<-b2];exact Ju.mpr (.inr rfl)
       exact⟨λ_=>m2,λ_=>m1⟩
    exists _,U,c,_,_,_,U,U,AJ.of O,Fb _ _ _,_,U,d,_,U,DE.k (k:=oi (r.1:Int)) aa,_,rfl;have cd:c≠d:=λz=>by rw[z,aa]at O;cases O
    have aj:(Di I).length<og:=by rw[nc];have:=k3.len;exact DF (by lia)
    have ai:∀(ab:(r.1:Int)∈I\/(r.2.1:Int)∈I) (o:HO),∃(ac:List Int) (u:Option V),[some (.int J),some (.ref a),some (.ref d),some (.int ((l.length:Nat):Int)),some (V.ref c)]=[some (.int J),some (.ref a),some (.ref d),some (.int ((l.length:Nat):Int)),u]/\AM H (AF (AF H3 d o) d (.dK (B4 (Di (DU I r.1)) (oi (r.2.1:Int):Ai) (.bl true))))/\(AF (AF H3 d o) d (.dK (B4 (Di (DU I r.1)) (oi (r.2.1:Int):Ai) (.bl true)))) d=some (.dK (Di ac))/\E5 n J rs ac/\l.length<=ac.length/\(l.length=ac.length->ac=l/\∀r∈rs.take (i+1),((r.1:Int)∈l↔(r.2.1:Int)∈l)):=by
     intro ab o;obtain⟨l2,ka,e2,kb,c1,c2⟩:=go ab;refine⟨l2,_,U,(s3.up hd _).up hd _,?_,kb,c1,c2⟩;rw[AY,Pz,e2]
    have ak:∀(ab:(r.1:Int)∈I\/(r.2.1:Int)∈I),E5 n J rs (DU I r.1):=λab=>(go ab).elim λ_ z=>z.1
    rw[JB];by_cases h1:(r.1:Int)∈I
    ·rw[nF h1];refine EV (EV ?_);exists _,U,_,U,c,_,_,_,U,U,AJ.of O,Fb _ _ _,d,_,U,Dw.k (k:=oi (r.1:Int)) aa aj;rw[Pz];refine⟨_,U,_,U,c,_,_,_,U,U,AJ.of (by rw[As cd];exact O),EW _ _ _,d,_,U,Dw.k (k:=oi (r.2.1:Int)) AY (by rw[nc];have:=(ak (.inl h1)).len;exact DF (by lia)),?_⟩;exact ai (.inl h1) _
    ·rw[nv h1];refine Cr ?_;exists _,U,c,_,_,_,U,U,AJ.of O,EW _ _ _,_,U,d,_,U,DE.k (k:=oi (r.2.1:Int)) aa,_,rfl;rw[JB];by_cases h2:(r.2.1:Int)∈I
     ·rw[nF h2];refine EV ?_;exists _,U,_,U,c,_,_,_,U,U,AJ.of O,Fb _ _ _,d,_,U,Dw.k (k:=oi (r.1:Int)) aa aj;rw[Pz];refine⟨_,U,_,U,c,_,_,_,U,U,AJ.of (by rw[As cd];exact O),EW _ _ _,d,_,U,Dw.k (k:=oi (r.2.1:Int)) AY (by rw[nc];have:=(ak (.inr h2)).len;exact DF (by lia)),?_⟩;exact ai (.inr h2) _
     ·rw[nv h2];refine Cr ?_;refine⟨I,_,U,s3,aa,k3,ag,λz=>?_⟩;obtain⟨rfl,c2⟩:=ae z;refine⟨U,λr' ad=>?_⟩;rw[D4 hy]at ad;rcases nM.mp ad with z|z
      ·exact c2 r' z
      ·rw[nU]at z;subst z;exact⟨λz=>absurd z h1,λz=>absurd z h2⟩
   ·rintro σ H3 ⟨I,u',rfl,s3,aa,k3,ag,ae⟩;rw[nc,hB.1,oW]at ae;exists ⟨I,l.length,_,U,s3,aa,k3,ag,λz=>?_⟩
    ·obtain⟨rfl,c2⟩:=ae z;exact c2
    ·have:=k.len
     show n+1-((l.length:Nat):Int).toNat<n+1-((b:Nat):Int).toNat
     lia
  ·refine DC (by lia) ?_;exact⟨_,U,q d l H2 sm af k (am (by lia))⟩
 ·rintro σ H2 Q1 Q2 hq ⟨v,e,v',e',d',kv,z1,z2,y,y2,z3,z4,b,z5,z⟩;exact⟨v,e,v',e',d',kv,z1,z2,y,y2,z3,z4,b,z5,hq _ _ z⟩
def Ct(H:Hp)(b:Addr)(r:List Nat):Prop:=H b=some (.AG (Ge r))
theorem GL:Mo Ct:=λs h=>s _ _ h
theorem Ct.BW(h:Ct H b t)(e:H a=some (.AE ys)):Ct (BW H a) b t:=GS h λz=>by rw[z]at h;unfold Ct at h;rw[e]at h;cases h
theorem YS(F:H l=some (.AE ys))(h:At Ct H gs us):At Ct (AF H l o) gs us:=⟨h.1,λi b x J I=>by
 have:=h.2 i b x J I
 unfold Ct at this ⊢;rw[As (λz=>by rw[z,F]at this;cases this)];exact this⟩
abbrev HW(m:Nat)(r:List Nat):List (List Nat):=(qM (Bp r) (m-Bp r)).map λx=>r++[x]
theorem SV(m s:Nat):Bz m (s+1)=(Bz m s).flatMap (HW m):=rfl
theorem T7(r:List Nat)(x:Nat):Ge (r++[x])=Ge r++[.int (x:Int)]:=by unfold Ge;rw[nY];rfl
theorem bD(h:r≠[]):∃x:Nat,Bp r=x+1/\Bt (Ge r) (-1)=some (.int (x:Int)):=by
 obtain⟨q,x,rfl⟩:∃q x,r=q++[x]:=⟨r.dropLast,r.getLast h,(List.dropLast_concat_getLast h).symm⟩;refine⟨x,by unfold Bp;rw[xN],?_⟩;rw[T7];unfold Bt EN;have e:(Ge q++[V.int (x:Int)]).length=q.length+1:=by rw[nO,nc];rfl
 rw[nv (by decide),nF (by lia),e,show(-1+((q.length+1:Nat):Int)).toNat=q.length by lia];show(Ge q++[V.int (x:Int)])[q.length]?=_;rw[nW (by rw[nc];exact nG _),nc,rG];rfl
theorem aE(h:∀x∈r,x<m):Bp r<=m:=by
 unfold Bp;cases e:r.getLast? with
 |none=>exact pJ _
 |some x=>exact h x (List.mem_of_getLast? e)
theorem jS(h:j<m-Bp r):(HW m r)[j]?=some (r++[Bp r+j]):=by
 rw[nJ,List.getElem?_range' h];simp
theorem fH(m:Nat)(r:List Nat):(HW m r).length=m-Bp r:=by rw[nc,List.length_range']
theorem dP(F:m<=9)(hi:i<9):(((Bz m i).take j).flatMap (HW m)).length<=126:=by
 have h:=P2 m (by lia) (i+1) (by lia);rw[SV,<-List.take_append_drop j (Bz m i),ye,nO]at h
 lia
theorem aD{rs:List (List Nat)}(h:rs[j]?=some r):(rs.take (j+1)).flatMap (HW m)=(rs.take j).flatMap (HW m)++HW m r:=by
 rw[D4 h,ye,y6,List.flatMap_nil,pO]
inductive Vm(F:List V)(H:Hp)(Q:VK)(_:XK):Prop
 |mk (m s:Nat) (J:F=[.int (m:Int),.int (s:Int)]) (I:m<=9) (O:s<=9) (aa:∀p H',AM H H'->H p=none->ED Ct H' p (Bz m s)->Q (.ref p) H')
theorem Jb:Az ["count","size","rows","step","longer","row","least"] ["count","size"] (Ak s_rising_rows):=A9
theorem ko:(["number","row"]:List Str).Nodup:=by decide +kernel
seal L2.CU L2.PS L2.PE L2.PA in
theorem cS(F:Aq K "rising_rows" "rising_rows" s_rising_rows f fd)(mr:mg "range" = none):Am P w K mg base Aw 1 f fd ["count","size"] Vm:=by
 refine F.BD Jb λii A _ s H vs Q E hr h=>?_
 obtain⟨m,n,rfl,hm,hn,q⟩:=h;exists _,AN (Aa 2 Jb (DB (AA (Bl AD) AD)))
  (AN (CS oB rfl (Hu (by rfl) mr (AA (pv 1) AD)) (BL 3 Jb)
   (AN (Aa 4 Jb (DB AD))
   (AN (CS oB rfl (FX (pv 2)) (BL 5 Jb)
    (AN (Aa 6 Jb (QE (Zw (pv 5) (λ_=>rfl)) (AL BY (pT (pv 5) (FW FU AB)) AB) AB))
    (AX (Eb (Dn oO PySem.F.slot_list_extend PySem.F.type_list_extend Yx (pv 4) (AA (Dk (Nc:=["number","row"]) (cap:=[(1,5)]) (g:=BU 0) (te:=Bh (Wm K) (Al 1) (Kg (BP (Al 0) CH))) rfl (Ph (by rfl) mr (AA (pv 6) (AA (pv 0) AD)))
     Cn (λ_ _ _ _ _=>B9 (i:=0) ko rfl (p8 rfl))
     (λ_ _ _ _ _=>AL dU (pv 1) (Bl (AA (pv 0) AD)))) AD))))))
   (AX (Aa 2 Jb (pv 4))))))
  (AX (Ar (pv 2))))
 refine⟨by exact Gs,λt ht=>⟨by exact IY,λR0 ad=>?_⟩⟩;dsimp only at ht ad ⊢;have s1:=Ae ht (.AG []);have e1:Ct (AF H t (.AG [])) t []:=AY;generalize AF H t (.AG [])=H1 at s1 e1 ad;have s2:=Ae ad (.AE [.ref t]);have e2:ED Ct (AF H1 R0 (.AE [.ref t])) R0 (Bz m 0):=⟨[t],AY,At.snoc (bs:=[]) (xs:=[]) At.nil (GL s2 e1)⟩;have al:=s1.trans s2;generalize AF H1 R0 (.AE [.ref t])=H2 at s2 e2 al;refine⟨_,U,((n:Nat):Int),U,by lia,by lia,?_⟩;rw[show((n:Nat):Int).toNat=n by lia];refine Io (n:=n) (λi σ H3=>AM H H3/\∃R u3 u4 u5 J,σ=[some (.int (m:Int)),some (.int (n:Int)),some (.ref R),u3,u4,u5,J]/\H R=none/\ED Ct H3 R (Bz m i)) ⟨al,R0,none,none,none,none,U,s1.free ad,e2⟩ ?_ ?_
 ·rintro i σ H3 hi ⟨s3,R,u3,u4,u5,J,rfl,_,bs,hR,hB⟩;refine NX ?_;refine⟨by exact Gs,λL hL=>?_⟩;obtain⟨H4,zg,sL,zz⟩:=nw hL (.AE []);rw[zg];have eL:H4 L=some (.AE (([]:List Addr).map V.ref)):=zz;have nL:H L=none:=s3.free hL;have s4:=s3.trans sL;have ai:=sL _ _ hR;have ao:=hB.keep GL sL;have RL:R≠L:=λz=>by rw[z,hL]at hR;cases hR
  exists _,U,R,U,⟨_,AR.of ai⟩;refine LS (xs:=bs.map V.ref) (λj σ I=>CZ L H4 I/\AM H I/\∃gs u5 J,σ=[some (.int (m:Int)),some (.int (n:Int)),some (.ref R),some (.int ((0:Int)+(i:Int))),some (.ref L),u5,J]/\I L=some (.AE (gs.map V.ref))/\At Ct I gs (((Bz m i).take j).flatMap (HW m)))
   ⟨CZ.refl _ _,s4,[],u5,J,U,eL,At.nil⟩ (λj σ I _ h=>AR.of (h.1 _ _ RL ai)) ?_ ?_
  ·rintro j x σ I hx ⟨ag,s5,gs,v5,v6,rfl,aa,aG⟩;obtain⟨b,r,rfl,_,hy,hb⟩:=ao.ref hx;have au:b≠L:=λz=>by
    rw[z]at hb
    have:=hb.symm.trans eL
    cases this
   have ac:Ct I b r:=ag _ _ au hb;obtain⟨rl,rb⟩:=NC (ny hy);have az:=aE rb;refine NX ?_;refine bU (G:=λσ H'=>H'=I/\σ=[some (.int (m:Int)),some (.int (n:Int)),some (.ref R),some (.int ((0:Int)+(i:Int))),some (.ref L),some (.ref b),some (.int (Bp r:Int))]) (λrest=>?_) ?_
   ·exists _,rfl;by_cases ab:r=[]
    ·refine⟨false,.inr (.inl ⟨_,AJ.of ac,by rw[ab];rfl⟩),?_⟩;refine Cr ?_;refine Wu (rest _ _ ⟨U,?_⟩);rw[ab];rfl
    ·obtain⟨x,ex,ax⟩:=bD ab;exists true,.inr (.inl ⟨_,AJ.of ac,?_⟩)
     ·cases r with
      |nil=>exact absurd rfl ab
      |cons _ _=>rfl
     refine EV ?_;exists _,U,_,U,b,_,_,_,U,U,AJ.of ac,ax,_,_,U,rfl;refine Wu (rest _ _ ⟨U,?_⟩);rw[ex];rfl
   rintro σ H6 ⟨rfl,rfl⟩;refine⟨_,U,.inl ⟨U,_,AR.of aa⟩,_,U,_,U,_,_,U,⟨by lia,by lia,by lia,by lia⟩,λah ay=>?_⟩;rw[show((m:Int)-(Bp r:Int)).toNat=m-Bp r by lia];refine Cy Pj (by lia) ay (λk ys σ hp=>∃O:List Addr,ys=O.map V.ref/\At Ct hp O ((HW m r).take k)/\∃u,σ=[u,some (.ref b)]) ⟨[],U,At.nil,none,U⟩ ?_ ?_
   ·rintro k ys σ a1 x H7 hk sm aq ⟨O,rfl,hG,u,rfl⟩ ⟨rfl,rfl⟩ Cc hC;have aw:H7 b=some (.AG (Ge r)):=sm _ _ ac;refine⟨_,U,_,U,by exact IY,λtp am=>?_⟩
    (try dsimp only at am ⊢)
    rw[show(Bp r:Int)+(k:Int)=((Bp r+k:Nat):Int) by lia]at *;obtain⟨H8,zg,s8,e8⟩:=nw am (.AG [.int ((Bp r+k:Nat):Int)]);rw[zg];have aj:∀p H9,AM H8 H9->Ct H9 p (r++[Bp r+k])->Cc [some (.int ((Bp r+k:Nat):Int)),some (.ref b)] (.ref p) H9:=λp H9 s9 h9=>by
     have ae:=s8.trans s9;refine hC _ _ _ ae ⟨O++[p],by simp,?_,_,U⟩;rw[D4 (jS hk)];exact(hG.keep GL (EO ah ae)).snoc (Ct.BW (t:=r++[Bp r+k]) h9 (ae _ _ aq))
    refine⟨b,tp,_,_,U,U,AJ.of (s8 _ _ aw),AJ.of e8,(λz=>by cases z),by rw[nc];exact Gd (by simp;lia),λz=>?_,λ_ p hp=>?_⟩
    ·have:r=[]:=vn.mp z
     subst this;exact aj tp H8 (AM.refl _) e8
    ·refine aj p _ (Ae hp _) ?_;show(AF H8 p _) p=_;rw[AY,T7]
   rintro ys σ H7 s7 ar a0 ⟨O,rfl,hG,u,rfl⟩;rw[ou (by rw[fH];exact nG _)]at hG;have ap:=hG.keep GL (D8 H7 ah);have ak:=s7 _ _ aa;have av:=aG.keep GL s7;have a2:=dP (m:=m) (i:=i) (j:=j+1) hm (by lia);have af:=av.MV ap;rw[<-aD hy]at af;exists L,ah,_,_,U,U,ak,ar,?_
   ·have l1:=af.1;rw[nO]at l1;rw[nc,nc];exact Gd (by lia)
   rw[<-List.map_append];exact⟨(ag.trans s7.b).E8 _,(s5.trans s7).up nL _,gs++O,_,_,U,AY,YS ak af⟩
  rintro σ I ⟨ag,s5,gs,v5,v6,rfl,aa,aG⟩;rw[nc,ao.1,oW,<-SV]at aG;exists _,rfl;exact⟨s5,L,_,_,_,_,U,nL,gs,aa,aG⟩
 ·rintro σ H3 ⟨s3,R,u3,u4,u5,J,rfl,nR,hR⟩;exact⟨_,U,q _ _ s3 nR hR⟩
end
end My
namespace My
open PySem L2 Mth Wd
variable {cs:List AK}
section
variable {K:nI}
theorem Yk {g:TG}{tt:TT}{te:TE}{G:Hp->Prop}(r:Kv J H1 n f)(hn:n<=1000)(ab:H1 acc=none)(Iv:Nat->List V->St->Hp->Prop)(h0:Iv 0 [] σ0 H1)
  (hs:∀(i:Nat) (ys:List V) (σ:St) (H2:Hp) (x:V) (H3:Hp),i<n->AM H1 H2->H2 acc=some (.AE ys)->Iv i ys σ (BW H2 acc)->f i H2 x H3->∀(C:St->VK) (N:St->Hp->Prop),(∀(I:St) (v:V) (F:Hp),AM H2 F->Iv (i+1) (ys++[v]) I (BW F acc)->C I v F)->(∀(I:St) (F:Hp),AM H2 F->Iv (i+1) ys I (BW F acc)->N I F) →
   g x σ H3 λI H4=>tt I H4 λok F=>if ok=true then te I F (C I) else N I F)
  (ad:∀(ys:List V) (σ:St) (H2:Hp),AM H1 H2->H2 acc=some (.AE ys)->Iv n ys σ (BW H2 acc)->G H2) :
  ∃W:Nat->Nat->List V->St->Hp->Prop,(∃m,W 0 m [] σ0 (AF H1 acc (.AE [])))/\∀i m ys σc H2,W i m ys σc H2 →
   (J.EH i H2/\G H2)\/(J.go i H2/\∀x H3,J.EL i H2 x H3->g x σc H3 λI H4=>tt I H4 λok F=>if ok=true then (te I F λv H6=>H6 acc=some (.AE ys)/\ys.length<og/\∃O,O<m/\W (i+1) O (ys++[v]) I (AF H6 acc (.AE (ys++[v])))) else ∃O,O<m/\W (i+1) O ys I F):=by
 exists λi m ys σ H2=>m=n-i/\i<=n/\AM H1 H2/\H2 acc=some (.AE ys)/\ys.length<=i/\Iv i ys σ (BW H2 acc),⟨n,U,pJ _,?_,AY,nG _,?_⟩
 ·intro b o e;rw[As (B8 e ab)];exact e
 ·rw[Nr,U8 ab];exact h0
 ·rintro i m ys σc H2 ⟨rfl,hi,sm,ha,hl,iv⟩;rcases oP i n with aa|hge
  ·refine .inr ⟨r.go i H2 aa sm,λx H3 yl=>?_⟩;refine hs i ys σc H2 x H3 aa sm ha iv (r.yl i H2 x H3 aa sm yl) (λI v F=>F acc=some (.AE ys)/\ys.length<og/\∃O,O<n-i/\(O=n-(i+1)/\i+1<=n/\AM H1 (AF F acc (.AE (ys++[v])))/\(AF F acc (.AE (ys++[v]))) acc=some (.AE (ys++[v]))/\(ys++[v]).length<=i+1/\Iv (i+1) (ys++[v]) I (BW (AF F acc (.AE (ys++[v]))) acc)))
    (λI F=>∃O,O<n-i/\(O=n-(i+1)/\i+1<=n/\AM H1 F/\F acc=some (.AE ys)/\ys.length<=i+1/\Iv (i+1) ys I (BW F acc))) ?_ ?_
   ·intro I v F s5 ac;exists s5 _ _ ha,by rw[r6];lia,n-(i+1),by lia,U,aa,?_,AY,by rw[nO,pw];lia  
    ·intro b o e;rw[As (B8 e ab)];exact s5 _ _ (sm _ _ e)
    ·rw[Nr];exact ac
   ·intro I F s5 ac;exact⟨n-(i+1),by lia,U,aa,sm.trans s5,s5 _ _ ha,by lia,ac⟩
  ·obtain rfl:i=n:=by lia
   exact .inl ⟨r.st H2 sm,ad ys σc H2 sm ha iv⟩
end
theorem PZ{n s:Nat}(k:E5 n (s:Int) cs l)(c:∀r∈cs,((r.1:Int)∈l↔(r.2.1:Int)∈l)):HQ n s cs l:=⟨k.nd,k.FA,k.st,k.Lu,c⟩
theorem aT(I:cs.length+1=n)(F:∀r∈cs,r.1<n/\r.2.1<n)(k:HQ n 0 cs l):Cq n cs=decide (l.length=n):=by
 unfold Cq;rw[qc,oR,bJ I F k];cases Bo (nz n) cs<;>simp
theorem bB(O:cs.length+2=n)(I:∀r∈cs,r.1<n/\r.2.1<n)(J:HQ n 0 cs l0)(F:HQ n 1 cs l1):CC n cs=decide ((1:Int)∉l0/\l0.length+l1.length=n):=by
 unfold CC;rw[qc,oR,bV O I J F];cases Bo (nz n) cs with
 |none=>simp
 |some ms=>simp
section
variable {P:oT}{w:World}{K:nI}{mg:Str->Option Value}{base:Heap}{f g h f1 f2 f3 f4:Addr}{fd gd hd d1 d2 d3 d4:qf}
inductive N7(k:Nat)(t:Nat->List AK->Bool)(F:List V)(H:Hp)(Q:VK)(_:XK):Prop
 |mk (a c:Addr) (n:Nat) (rs cs:List AK) (ad:F=[.ref a,.ref c]) (ac:EJ H a n rs) (J:ED Bj H c cs) (I:(∀r∈cs,r.1<n/\r.2.1<n)) (O:cs.length+k=n) (aa:n<=100) (ab:∀H',AM H H'->Q (.bl (t n cs)) H')
theorem km:Az ["net","chosen"] ["net","chosen"] (Ak s_is_tree):=A9
theorem Zd(F:Aq K "is_tree" "is_tree" s_is_tree f fd)(G:Ad P w K mg base 1 "led_to" ["start","ropes"] RB)(ml:mg "len" = none):Am P w K mg base Aw 2 f fd ["net","chosen"] (N7 1 Cq):=by
 refine F.BD km λii A _ s H vs Q E hr h=>?_
 obtain⟨a,c,n,rs,cs,rfl,⟨rr,tt,ha,_⟩,hc,J,hn,O,q⟩:=h;refine⟨_,AX (Ar (K3 FV (CV Ht (by rfl) ml Ee (AA (AZ G (AA AB (AA (pv 1) AD))) AD)) (pT (pv 0) AB))),?_⟩;refine⟨_,U,0,c,n,cs,U,⟨by lia,by lia⟩,O,hc,J,λd l H1 I hd k cl=>?_⟩;exists d,_,U,hd,_,U,a,_,_,_,U,U,AJ.of (I _ _ ha),Fb _ _ _,rfl;rw[nc];have e:=aT hn J (PZ (s:=0) k cl)
 have:(decide (V.int (l.length:Int)=V.int (n:Int)))=Cq n cs:=by
  rw[e];rw[qc,oR,oR];constructor
  ·intro z;have:=V.int.inj z;lia
  ·intro z;rw[z]
 rw[this];exact q _ I
theorem RX:Az ["net","chosen","upper","lower"] ["net","chosen"] (Ak s_is_half):=A9
theorem ZS(F:Aq K "is_half" "is_half" s_is_half f fd)(G:Ad P w K mg base 1 "led_to" ["start","ropes"] RB)(ml:mg "len" = none):Am P w K mg base Aw 2 f fd ["net","chosen"] (N7 2 CC):=by
 refine F.BD RX λii A _ s H vs Q E hr h=>?_
 obtain⟨a,c,n,rs,cs,rfl,⟨rr,tt,ha,_⟩,hc,hb,hn,ab,q⟩:=h;have hu:=IP hr;exists _,AN (Aa 2 RX (AZ G (AA AB (AA (pv 1) AD))))
  (AN (Aa 3 RX (AZ G (AA AB (AA (pv 1) AD))))
  (AX (Ar (Qu (jN (Mp hu AB (pv 2))) (Ql (K3 FV (AL BY (CV Ht (by rfl) ml Ee (AA (pv 2) AD)) (CV Ht (by rfl) ml Ee (AA (pv 3) AD))) (pT (pv 0) AB)))))))
 refine⟨_,U,0,c,n,cs,U,⟨by lia,by lia⟩,ab,hc,hb,λd0 l0 H1 J af k0 ag=>?_⟩;have ae:ED Bj H1 c cs:=OA (R:=Bj) (λs h=>Dl s h) J hc;refine⟨_,U,1,c,n,cs,U,⟨by lia,by lia⟩,ab,ae,hb,λd1 l1 H2 O ad k1 ac=>?_⟩;have e:=bB hn hb (PZ (s:=0) k0 ag) (PZ (s:=1) k1 ac);have aa:=O _ _ af;exists _,U,d0,_,U,DE.k (k:=oi (1:Int)) aa;rw[JB];have I:=q _ (J.trans O);by_cases h1:(1:Int)∈l0
 ·rw[nF h1]
  have:CC n cs=false:=by rw[e];simp[h1]
  rw[this]at I;exact⟨_,U,Cr I⟩
 ·rw[nv h1];refine⟨_,U,EV ?_⟩;exists _,U,d0,_,U,aa,_,U,d1,_,U,ad,_,_,U,U,_,U,a,_,_,_,U,U,AJ.of ((J.trans O) _ _ ha),Fb _ _ _,rfl;rw[nc,nc]
  have:(decide (V.int ((l0.length:Int)+(l1.length:Int))=V.int (n:Int)))=CC n cs:=by
   rw[e];rw[qc,oR,oR];constructor
   ·intro z;have:=V.int.inj z;exact⟨h1,by lia⟩
   ·rintro⟨_,z⟩;rw[<-z];congr 1
  rw[this];exact I
end
end My
namespace My
open PySem L2 Mth Wd
variable {a:Addr}{x:Int}{L ts:List (List Int)}{T:List (List Rat)}{rs:List AK}{i:Nat}{X Y:Nat->Rat}
structure Oj(n m:Nat)(rs:List AK):Prop where
 Bn:2<=n
 Eo:n<=m+1
 len:rs.length=m
 BH:∀r∈rs,r.1<n/\r.2.1<n
theorem ZN(j:Oj n m rs)(h:∀x∈row,x<m):∀r∈A2 rs row,r.1<n/\r.2.1<n:=λr I=>by
 obtain⟨k,J,rfl⟩:=nS.mp I;have F:k<rs.length:=by rw[j.len];exact h k J
 rw[nq,nh F];exact j.BH _ (oK F)
theorem bZ(h:Bj H b r)(e:H a=some (.AE ys)):Bj (BW H a) b r:=by
 obtain⟨x,h1,h2⟩:=h;refine⟨x,GS h1 (λz=>by rw[z,e]at h1;cases h1),AU.BW h2 e⟩
section
variable {P:oT}{w:World}{K:nI}{mg:Str->Option Value}{base:Heap}{f g h f1 f2 f3 f4 C:Addr}{fd gd hd d1 d2 d3 d4:qf}
inductive Q3(g:Addr)(k:Nat)(t:Nat->List AK->Bool)(I:List V)(H:Hp)(Q:VK)(_:XK):Prop
 |mk (a:Addr) (n m:Nat) (rs:List AK) (F:Nat) (ad:I=[.ref a,.int (F:Int),.ref g]) (ac:EJ H a n rs) (O:Oj n m rs) (J:m<=9) (aa:F+k=n) (ab:∀p H',AM H H'->A4 Ct H' p ((Bz m F).filter λrow=>t n (A2 rs row))->Q (.ref p) H')
theorem RU:Az ["net","size","fits","ropes","rows"] ["net","size","fits"] (Ak s_fitting_rows):=A9
theorem i7:(["row","fits","net","ropes"]:List Str).Nodup:=by decide +kernel
theorem jo:(["k","ropes"]:List Str).Nodup:=by decide +kernel
theorem YG{F:List (List Nat)}(p:List Nat->Bool)(h:F[i]?=some r):(F.take (i+1)).filter p=(F.take i).filter p++(if p r=true then [r] else []):=by
 rw[D4 h,vJ];congr 1;cases h':p r<;>simp[List.filter,h']
set_option maxHeartbeats 1000000 in
seal L2.CU L2.PS L2.PE L2.PA in
theorem VX (hk:1<=k)(F:Aq K "fitting_rows" "fitting_rows" s_fitting_rows f fd)(G1:Ad P w K mg base 1 "rising_rows" ["count","size"] Vm)
  (G2:Am P w K mg base Aw 2 g gd ["net","chosen"] (N7 k t))(b2:EU K gd ["net","chosen"] [])(k2:KP K g)(ml:mg "len" = none)(mt:mg "tuple" = none) :
  Am P w K mg base Aw 3 f fd ["net","size","fits"] (Q3 g k t):=by
 refine F.BD RU λii A _ s H vs Q E hr h=>?_
 obtain⟨a,n,m,rs,af,rfl,⟨O,tv,ha,cs,ae,hC⟩,J,m9,hsz,q1⟩:=h;exists _,AN (Aa 3 RU (pT (pv 0) AB))
  (AN (Bq (Bb OI (C7 ml (pv 3)) AB) (AX NH) By)
  (AN (Aa 4 RU (AZ G1 (AA (C7 ml (pv 3)) (AA (pv 1) AD))))
  (AX (Ar (Kx mt (aL (Nc:=["row","fits","net","ropes"]) (cap:=[(1,2),(2,0),(3,3)]) (g:=BU 0)
    (tt:=tB (WA g (Al 1) (N7 k t) E0 (BP (Al 2) (BP (L8 2 [(1,3)] (OS [] (Al 0)) (BU 0) (Bh (Fg []) (Al 1) (Al 0))) CH)))) (te:=Al 0) rfl (FX (pv 4))
    Cn
    (λ_ _ _ _ _=>B9 (i:=0) i7 rfl (p8 rfl))
    (λ_ _ _ _ _=>HJ (Z8 G2 hr (pv 1) k2 b2 WT (AA (pv 2) (AA (Dk (Nc:=["k","ropes"]) (cap:=[(1,3)]) (g:=BU 0) (te:=Bh (Fg []) (Al 1) (Al 0)) rfl (D9 (pv 0))
     Cn
     (λ_ _ _ _ _=>B9 (i:=0) jo rfl (p8 rfl)) (λ_ _ _ _ _=>pT (pv 1) (pv 0))) AD))))
    (λ_ _ _ _ _=>pv 0)))))))
 have ay:(cs.map V.ref).length=m:=by rw[nc,hC.1,J.len]
 exists _,U,a,_,_,_,U,U,AJ.of ha,EW _ _ _;exists _,U,O,_,U,.inr (AJ.of ae),_,_,U,U,_,rfl;refine DC (by lia) ?_;have a8:=J.Bn;have a7:=J.Eo;refine⟨_,U,O,_,U,.inr (AJ.of ae),_,U,m,af,by rw[ay];rfl,by lia,by lia,λp H1 s1 _ hp=>?_⟩;obtain⟨bs,ai,hB⟩:=hp;have a6:=P2 m (by lia) af (by lia);refine⟨_,U,p,U,⟨_,AR.of ai⟩,λag aw=>?_⟩;refine Yk (Iw ai) (by rw[nc,hB.1];lia) aw (λi ys σ hp=>∃I:List Addr,ys=I.map V.ref/\At Ct hp I (((Bz m af).take i).filter λrow=>t n (A2 rs row))/\∃u,σ=[u,some (.ref g),some (.ref a),some (.ref O)]) ⟨[],U,At.nil,none,U⟩ ?_ ?_
 ·rintro i ys σ a5 x H2 hi sm aq ⟨I,rfl,hG,u,rfl⟩ ⟨rfl,hx⟩ Cc Nn a2 a0;obtain⟨b,r,rfl,_,hy,hb⟩:=hB.ref hx;obtain⟨rl,rb⟩:=NC (ny hy);have ah:H2 b=some (.AG (Ge r)):=sm _ _ hb;have ak:=s1.trans sm;refine⟨_,U,U,_,U,_,U,b,U,⟨_,AJ.of ah⟩,λam ap=>?_⟩;refine Cy (HG ah) (by rw[nc];lia) ap (λj ys σ hp=>∃ab:List Addr,ys=ab.map V.ref/\At Bj hp ab ((A2 rs r).take j)/\∃u,σ=[u,some (.ref O)]) ⟨[],U,At.nil,none,U⟩ ?_ ?_
  ·rintro j ys σ a9 x H3 hj az a1 ⟨ab,rfl,ad,u,rfl⟩ ⟨rfl,aj⟩ C2 ax;rw[nJ]at aj;obtain⟨kk,ao,rfl⟩:=qN.mp aj;have al:kk<rs.length:=by rw[J.len];exact rb kk (ny ao)
   have ac:=ak.trans az;obtain⟨c,hc,au⟩:=hC.BZ (nh al);exists _,U,_,U,O,_,_,_,U,U,AJ.of (ac _ _ ae),Be (CW hc);refine ax _ _ _ (AM.refl _) ⟨ab++[c],by simp,?_,_,U⟩;have ep:(A2 rs r)[j]?=some rs[kk]:=by
    unfold A2;rw[nJ,ao];simp[nq,nh al]
   rw[D4 ep];exact ad.snoc (bZ (Dl ac au) a1)
  rintro ys σ H3 s3 a3 a4 ⟨ab,rfl,ad,u,rfl⟩;have lp:(A2 rs r).length=af:=by unfold A2;rw[nc,rl]
  rw[nc,rl,ou (by rw[lp];exact nG _)]at ad;have ac:=ak.trans s3;refine⟨a,am,n,rs,A2 rs r,U,⟨O,tv,ac _ _ ha,cs,ac _ _ ae,hC.keep Dl ac⟩,⟨ab,a3,ad.keep Dl (D8 H3 am)⟩,ZN J rb,by lia,by lia,λH4 s4=>⟨_,U,?_⟩⟩;have aa:=s3.trans s4;have fs:=YG (λrow=>t n (A2 rs row)) hy
  (try dsimp only)
  by_cases ht:t n (A2 rs r)=true
  ·rw[nF ht];refine⟨_,U,a2 _ _ _ aa ⟨I++[b],by simp,?_,_,U⟩⟩;rw[fs,nF ht];exact(hG.keep GL (EO ag aa)).snoc (Ct.BW (t:=r) (aa _ _ ah) (aa _ _ aq))
  ·rw[nv ht];refine a0 _ _ aa ⟨I,U,?_,_,U⟩;rw[fs,nv ht,pO];exact hG.keep GL (EO ag aa)
 rintro ys σ H2 s2 av ⟨I,rfl,hG,u,rfl⟩;rw[nc,hB.1,oW]at hG;refine⟨ag,_,U,.inl ⟨AR.of av,λpp ar=>?_⟩⟩;have sp:=Ae ar (.AG (I.map V.ref));exact q1 pp _ ((s1.trans s2).trans sp) ⟨I,AY,(hG.keep GL (D8 H2 ag)).keep GL sp⟩
inductive NW(k:Nat)(t:Nat->List AK->Bool)(F:List V)(H:Hp)(Q:VK)(_:XK):Prop
 |mk (a:Addr) (n m:Nat) (rs:List AK) (O:F=[.ref a]) (I:EJ H a n rs) (aa:Oj n m rs) (ab:m<=9) (J:∀p H',AM H H'->A4 Ct H' p ((Bz m (n-k)).filter λrow=>t n (A2 rs row))->Q (.ref p) H')
theorem kg:Az ["net"] ["net"] (Ak s_trees):=A9
theorem kf:Az ["net"] ["net"] (Ak s_halves):=A9
theorem Zo(F:Aq K "trees" "trees" s_trees f fd)(G:Ad P w K mg base 3 "fitting_rows" ["net","size","fits"] (Q3 g 1 Cq))(ab:mg "is_tree" = some (.ref g)):
  Am P w K mg base Aw 4 f fd ["net"] (NW 1 Cq):=by
 refine F.BD kg λii A _ s H vs Q E hr h=>?_
 obtain⟨a,n,m,rs,rfl,⟨ra,tv,I,aa⟩,J,m9,O⟩:=h;refine⟨_,AX (Ar (AZ G (AA (pv 0) (AA (AL DX (pT (pv 0) AB) AB) (AA (UN (v:=.ref g) (by rfl) ab rfl) AD))))),?_⟩;have ac:=J.Bn;exact⟨_,U,_,U,a,_,_,_,U,U,AJ.of I,Fb _ _ _,_,_,U,U,a,n,m,rs,n-1,by (try dsimp only);rw[show((n:Int)-1)=((n-1:Nat):Int) by lia];rfl,⟨ra,tv,I,aa⟩,J,m9,by lia,O⟩
theorem Y8(F:Aq K "halves" "halves" s_halves f fd)(G:Ad P w K mg base 3 "fitting_rows" ["net","size","fits"] (Q3 g 2 CC))(ab:mg "is_half" = some (.ref g)):
  Am P w K mg base Aw 4 f fd ["net"] (NW 2 CC):=by
 refine F.BD kf λii A _ s H vs Q E hr h=>?_
 obtain⟨a,n,m,rs,rfl,⟨ra,tv,I,aa⟩,J,m9,O⟩:=h;refine⟨_,AX (Ar (AZ G (AA (pv 0) (AA (AL DX (pT (pv 0) AB) AB) (AA (UN (v:=.ref g) (by rfl) ab rfl) AD))))),?_⟩;have ac:=J.Bn;exact⟨_,U,_,U,a,_,_,_,U,U,AJ.of I,Fb _ _ _,_,_,U,U,a,n,m,rs,n-2,by (try dsimp only);rw[show((n:Int)-2)=((n-2:Nat):Int) by omega];rfl,⟨ra,tv,I,aa⟩,J,m9,by omega,O⟩
structure F6(n:Nat)(rs:List AK):Prop where
 Gj:n<=13
 GB:rs.length<=14
 BH:∀r∈rs,r.1<n+2/\r.2.1<n+2/\Sb 52 34 r.2.2
theorem F6.Bn(k:F6 n rs):∀r∈rs,r.1<n+2/\r.2.1<n+2:=λr F=>⟨(k.BH r F).1,(k.BH r F).2.1⟩
theorem F6.den(k:F6 n rs)(I:D=476):BR rs<=2 ^ D :=
 oa (Le λr F=>(k.BH r F).2.2.2) (oQ (by decide) (by have:=k.GB;lia))
theorem Vz(J:r∈T)(I:q∈r):∃i j,q=en T i j:=by
 obtain⟨i,hi,rfl⟩:=om J;obtain⟨j,F,rfl⟩:=om I;exists i,j;unfold en;rw[nq (l:=T),nh hi,qD,nq,nh F];rfl
theorem WJ(hD:D=476)(hl:T.length=k)(J:∀r∈T,r.length=k)(ab:k<=14)(hd:BR rs<=2 ^ D)(h:∀r∈T,∀q∈r,BG ((BR rs:Nat)*q)/\Vb 56 q):TK k k D (D+56) D T/\D*k<7990:=by
 have pd:(0:Int)<(BR rs:Int):=by have:=Fp rs;lia
 have dv:∀r∈T,∀q∈r,(q.den:Int) ∣ (BR rs:Int):=λr F q I=>by
  obtain⟨c,J⟩:=(h r F q I).1;exact UZ (k:=c) (by rw[ic];exact J)
 have aa:∀r∈T,(cb r).natAbs<=2 ^ D:=λr F=>oa (We pd (dv r F)) (by rw[oj];exact hd)
 have O:∀r∈T,∀q∈r,q.den<=2 ^ D:=λr F q I=>oa (uN (Fp rs) (by exact_mod_cast dv r F q I)) hd
 have e1:(4+(D+56))*k<=(4+(476+56))*14:=xE (by lia) ab;have e2:D*k<=476*14:=xE (by lia) ab;refine⟨⟨hl,J,nG _,by lia,O,λr F q I=>?_,aa,λr F q I=>?_,by lia,by lia,by lia⟩,by lia⟩
 ·have h1:=OK (b:=(q.den:Int)) (D:=D) (yq _) (h r F q I).2 (by rw[oj];exact O r F q I)
  have:wh (q.den:Int) q=q.num:=by
   unfold wh;rw[aai (by have:=q.den_nz;lia),zo]
  rw[this]at h1;exact EE h1 (by lia)
 ·exact OK ((OF r).2 q I) (h r F q I).2 (aa r F)
theorem F6.mT(k:F6 n rs):∃D,TK n n D (D+56) D (Dg (BB (n+2) rs))/\D*n<7990:=by
 obtain⟨D,F⟩:∃D,D=476:=⟨_,U⟩;have I:=(FL k.Bn).1;have aa:=k.GB;have ab:=k.Gj;refine⟨D,WJ F (HE I).1 (HE I).2 (by lia) (k.den F) λr hr q O=>?_⟩;obtain⟨x,J,rfl⟩:=nS.mp hr;obtain⟨i,j,rfl⟩:=Vz (qy J) (qy O);exact Lk k.BH (by lia) i j
theorem F6.mN(k:F6 n rs):∃D,TK (n+1) (n+1) D (D+56) D (EX (BB (n+2) rs))/\D*(n+1)<7990:=by
 obtain⟨D,F⟩:∃D,D=476:=⟨_,U⟩;have J:=(FL k.Bn).1;have aa:=k.GB;have ab:=k.Gj;refine⟨D,WJ F (LJ J).1 (LJ J).2 (by lia) (k.den F) λr hr q hq=>?_⟩;have I:∀{α:Type} {l:List α} {y:α},y∈l.take 1++l.drop 2->y∈l:=λh=>by
  rcases nM.mp h with z|z
  ·exact rQ z
  ·exact qy z
 obtain⟨x,O,rfl⟩:=nS.mp hr;obtain⟨i,j,rfl⟩:=Vz (I O) (I hq);exact Lk k.BH (by lia) i j
theorem dY(h:2<=n):HT.Ax n n (some 1)=1:=by simp[HT.Ax];lia
theorem jP(F:H a=some (.AG xs))(h:2<=xs.length)(k:∀p,H p=none->Q (.ref p) (AF H p (.AG (xs.take 1)))):Gh [] (.ref a) none (some 1) H Q:=by
 refine⟨a,xs,U,AJ.of F,λz=>?_,λp hp=>?_⟩
 ·have:=z.2
  rw[dY h]at this
  lia
 ·rw[show De xs none (some 1)=xs.take 1 from NF xs (j:=1) (by lia)];exact k p hp
theorem g6(F:H a=some (.AG xs))(h:2<=xs.length)(k:∀p,H p=none->Q (.ref p) (AF H p (.AG (xs.drop 2)))):Gh [] (.ref a) (some 2) none H Q:=by
 refine⟨a,xs,U,AJ.of F,λz=>?_,λp hp=>?_⟩
 ·have:=z.1
  rw[Ob h]at this;omega
 ·rw[show De xs (some 2) none=xs.drop 2 from Js xs (j:=2) (by omega)];exact k p hp
theorem fE(F:H a=some (.AG xs))(O:H b=some (.AG ys))(J:xs≠[])(I:xs.length+ys.length<=og)(k:∀p H',AM H H'->H' p=some (.AG (xs++ys))->Q (.ref p) H'):Kb K (.ref a) (.ref b) H Q:=by
 refine⟨a,b,xs,ys,U,U,AJ.of F,AJ.of O,J,I,λz=>?_,λ_ p hp=>k p _ (Ae hp _) AY⟩;refine k a H (AM.refl _) ?_;rw[z,pO];exact F
theorem Vr{cs:List Addr}(hσ:σ[i]?=some (some (.ref a)))(I:H a=some (.AG (cs.map V.ref)))(h:2<=cs.length)(h2:cs.length<=1000)(k:∀p H',AM H H'->H' p=some (.AG ((cs.take 1++cs.drop 2).map V.ref))->Q (.ref p) H'):
  Gh [] (.ref a) none (some 1) H λv H1=>MQ (Gh []) (Al i) (L5 (tC (.int 2))) LY σ H1 λu H2=>Kb K v u H2 Q:=by
 have l:2<=(cs.map V.ref).length:=by rw[nc];exact h
 refine jP I l λp1 ab=>?_
 obtain⟨H1,F,J,e1⟩:=nw ab (.AG ((cs.map V.ref).take 1));rw[F];exists _,hσ,2,rfl;show Gh [] (.ref a) (some 2) none H1 λu H2=>Kb K (.ref p1) u H2 Q
 refine g6 (J _ _ I) l λp2 aa=>?_
 obtain⟨H2,F,O,e2⟩:=nw aa (.AG ((cs.map V.ref).drop 2));rw[F];refine fE (O _ _ e1) e2 (λz=>?_) (by rw[pB,o6,nc];exact Gd (by lia)) λp H3 s3 h3=>k p H3 ((J.trans O).trans s3) ?_
 ·have:=congrArg rE z
  rw[pB,nc,rA]at this
  lia
 ·rw[h3,nY,vT,tZ]
inductive Vg(F:List V)(H:Hp)(Q:VK)(_:XK):Prop
 |mk (a:Addr) (n:Nat) (rs:List AK) (J:F=[.ref a]) (I:EJ H a (n+2) rs) (O:F6 n rs) (aa:∀p H',AM H H'->AU H' p (A3 (n+1) (Cq (n+2)) rs)->Q (.ref p) H')
inductive VN(F:List V)(H:Hp)(Q:VK)(_:XK):Prop
 |mk (a:Addr) (n:Nat) (rs:List AK) (J:F=[.ref a]) (I:EJ H a (n+2) rs) (O:F6 n rs) (aa:∀p H',AM H H'->AU H' p (A3 n (CC (n+2)) rs)->Q (.ref p) H')
theorem WL:Az ["net","table"] ["net"] (Ak s_tree_sum):=A9
theorem kG:Az ["net"] ["net"] (Ak s_half_sum):=A9
theorem dA (F:Aq K "half_sum" "half_sum" s_half_sum f fd)(I:Ad P w K mg base 4 "ease_table" ["net"] N9)
  (G2:Ad P w K mg base 3 "measure" ["table"] Pe)
  (O:Ad P w K mg base 1 "poleless" ["table"] Qy) :
  Am P w K mg base Aw 5 f fd ["net"] VN:=by
 refine F.BD kG λii A _ s H vs Q E hr h=>?_
 obtain⟨a,n,rs,rfl,hN,k,q⟩:=h;exists _,AX (Ar (AZ G2 (AA (AZ O (AA (AZ I (AA (pv 0) AD)) AD)) AD)));have ab:=k.Gj;have aa:=k.GB;have sq:=(FL k.Bn).1;refine⟨_,U,a,n+2,52,34,rs,U,hN,by lia,by lia,k.BH,by lia,by lia,λt H1 s1 hT=>?_⟩;refine⟨t,BB (n+2) rs,n,U,hT,sq,by lia,λp H2 s2 hC=>?_⟩;obtain⟨D,tk,J⟩:=k.mT;refine⟨p,_,n,D,D+56,D,U,hC,tk,J,λp' H' s' hf=>q p' H' ((s1.trans s2).trans s') ?_⟩;rw[<-dZ k.Bn];exact hf
seal L2.CU L2.PS L2.PE L2.PA in
theorem fO (F:Aq K "tree_sum" "tree_sum" s_tree_sum f fd)(G1:Ad P w K mg base 4 "ease_table" ["net"] N9)
  (G2:Ad P w K mg base 3 "measure" ["table"] Pe)(mt:mg "tuple" = none) :
  Am P w K mg base Aw 5 f fd ["net"] Vg:=by
 refine F.BD WL λii A _ s H vs Q E hr h=>?_
 obtain⟨a,n,rs,rfl,hN,k,q⟩:=h;exists _,AN (Aa 1 WL (AZ G1 (AA (pv 0) AD)))
  (AX (Ar (AZ G2 (AA (Kx mt (Dk (Nc:=["row"]) (cap:=[]) (g:=BU 0) (te:=Bh (Kb K) (MQ (Gh []) (Al 0) LY (L5 (tC (.int 1)))) (MQ (Gh []) (Al 0) (L5 (tC (.int 2))) LY)) rfl
    (D9 (AL LZ (Eu Ik (pv 1) FO (Ea AB)) (Eu Ik (pv 1) (Ea AB) FO)))
   Cn (λ_ _ _ _ _=>B9 (i:=0) OP rfl (p8 rfl))
   (λ_ _ _ _ _=>AL LZ (Eu Ik (pv 0) FO (Ea AB)) (Eu Ik (pv 0) (Ea AB) FO)))) AD))))
 have ah:=k.Gj;have af:=k.GB;have sq:=(FL k.Bn).1;refine⟨_,U,a,n+2,52,34,rs,U,hN,by lia,by lia,k.BH,by lia,by lia,λt H1 s1 hT=>?_⟩;obtain⟨bs,ha,hA⟩:=hT;have lb:bs.length=n+2:=by rw[hA.1];exact sq.len
 refine⟨_,U,1,U,Vr (K:=K) rfl ha (by lia) (by lia) λp3 H2 s2 h2=>?_⟩;have ad:At (A4 AU) H2 (bs.take 1++bs.drop 2) ((BB (n+2) rs).take 1++(BB (n+2) rs).drop 2):=((hA.take 1).MV (hA.drop 2)).keep E1 s2;have ll:(bs.take 1++bs.drop 2).length=n+1:=by rw[nO,pB,o6];lia
 refine⟨p3,U,⟨_,AJ.of h2⟩,λaa ac=>?_⟩;refine Cy (HG h2) (by rw[nc];lia) ac (λi ys σ hp=>∃ds:List Addr,ys=ds.map V.ref/\At (A4 AU) hp ds ((EX (BB (n+2) rs)).take i)/\∃u,σ=[u]) ⟨[],U,At.nil,none,U⟩ ?_ ?_
 ·rintro i ys σ H3 x H4 hi sm ab ⟨ds,rfl,J,u,rfl⟩ ⟨rfl,hx⟩ Cc hC;obtain⟨b,row,rfl,_,hy,cs,hB,O⟩:=ad.ref hx;have rm:row∈BB (n+2) rs:=by
   rcases nM.mp (ny hy)with z|z
   ·exact rQ z
   ·exact qy z
  have cl:cs.length=n+2:=by rw[O.1];exact sq.EY row rm
  refine⟨_,U,1,U,Vr (K:=K) rfl (sm _ _ hB) (by lia) (by lia) λp H5 I h5=>?_⟩;have ec:(EX (BB (n+2) rs))[i]?=some (row.take 1++row.drop 2):=by unfold EX;rw[nJ,hy];rfl
  refine hC _ _ _ I ⟨ds++[p],by simp,?_,_,U⟩;rw[C8 ec];exact(J.keep E1 (EO aa I)).snoc (RM ⟨cs.take 1++cs.drop 2,h5,((O.take 1).MV (O.drop 2)).keep Ao (sm.trans I)⟩ (I _ _ ab))
 ·rintro ys σ H3 s3 ae ag ⟨gs,rfl,hG,u,rfl⟩;rw[nc,ll,ou (by rw[(LJ sq).1];exact nG _)]at hG;refine⟨aa,_,U,.inl ⟨AR.of ae,λp hp=>?_⟩⟩;have sp:=Ae hp (.AG (gs.map V.ref));obtain⟨D,tk,J⟩:=k.mN;refine⟨p,_,n+1,D,D+56,D,U,⟨gs,AY,(hG.keep E1 (D8 H3 aa)).keep E1 sp⟩,tk,J,λp' H' s' hf=>q p' H' ((((s1.trans s2).trans s3).trans sp).trans s') ?_⟩;rw[<-UR k.Bn];exact hf
structure Lv(n:Nat)(W:Int)(B:Nat)(X:Nat->Rat):Prop where
 w0:W≠0
 wl:W.natAbs<=2 ^ B
 wx:∀j,j<n+2->∃c:Int,(W:Rat)*X j=c/\c.natAbs<=2 ^ B
theorem Ep.lv(h:Ep n B rs X):∃W,Lv n W B X:=by
 obtain⟨W,J,F,I⟩:=h.wh;exact⟨W,J,F,I⟩
structure Gr(n:Nat)(rs:List AK)(X:Nat->Rat)(Z:Int)(N:Nat):Prop where
 z0:Z≠0
 zl:Z.natAbs<=2 ^ 3900
 nl:N+6<=3900
 hs:∀j,j<n+2->Sf (X j)
 fs:∀r∈rs,Sf (X r.1-X r.2.1)
 es:∀r∈rs,Sf r.2.2
 ru:∀r∈rs,Sf (Au X r)
 qs:∀r∈rs,Sf ((X r.1-X r.2.1)*(X r.1-X r.2.1))
 ls:∀r∈rs,Uw Z N 1 (JL X r)
theorem Lv.KR(k:CI n m α β rs)(h:Lv n W B X)(bd:2*(B+1)+β*m+α+6<=3900):∃Z N,Gr n rs X Z N:=by
 obtain⟨I,O,wx⟩:=h;have bm:∀r∈rs,β<=β*m:=λr F=>by
  have:0<rs.length:=qL F
  have:=k.len
  exact rT _ (by lia)
 have hd:=k.den;have hp:=Fp rs;have aa:∀r∈rs,∃c:Int,(W:Rat)*(X r.1-X r.2.1)=c/\c.natAbs<=2 ^ (B+1):=λr F=>by
  obtain⟨a1,a2,a3⟩:=k.BH r F;obtain⟨x,e1,l1⟩:=wx _ a1;obtain⟨y,e2,l2⟩:=wx _ a2;exists x-y,by rw[uf,<-e1,<-e2];grind
  have:=uI x y
  rw[r9];lia
 have vv:∀r∈rs,∃v:Int,((BR rs:Nat):Rat)*r.2.2=v/\v.natAbs<=2 ^ (β*m+α):=λr F=>by
  obtain⟨v,J⟩:=Nl (LL F);exists v,J;have ab:Ab ((2 ^ (β*m):Nat):Rat) ((BR rs:Nat):Rat):=HH (x:=(BR rs:Int)) (by rw[oj];exact hd);have vb:=ab.D0 (k.BH r F).2.2.vb;rw[J,<-Rat.natCast_mul,<-Nat.pow_add]at vb;exact FQ vb
 have ww:(W*W).natAbs<=2 ^ (B+B):=by rw[oE];exact B5 O O
 refine⟨W*W*(BR rs:Int),β*m+α+((B+1)+(B+1)),qt (qt I I) (by lia),?_,by lia,λj hj=>?_,λr F=>?_,λr F=>?_,λr F=>?_,λr F=>?_,λr F=>?_⟩
 ·rw[oE,oj];exact oa (B5 ww hd) (oQ (by decide) (by lia))
 ·obtain⟨c,e,l⟩:=wx j hj;exact(Fo I e l O).mono (by lia) (by lia)
 ·obtain⟨c,e,l⟩:=aa r F;exact(Fo I e l O).mono (by lia) (by lia)
 ·have:=bm r F
  exact(k.BH r F).2.2.mono (by lia) (by lia)
 ·obtain⟨c,e,l⟩:=aa r F;obtain⟨v,J,lv⟩:=vv r F;refine(Fo (W:=W*(BR rs:Int)) (k:=v*c) (a:=B+β*m) (b:=β*m+α+(B+1)) (qt I (by lia)) ?_ ?_ ?_).mono (by lia) (by lia)
  ·rw[oo,oo,<-J,<-e,ic];unfold Au;grind
  ·rw[oE];exact B5 lv l
  ·rw[oE,oj];exact B5 O hd
 ·obtain⟨c,e,l⟩:=aa r F;refine(Fo (W:=W*W) (k:=c*c) (a:=B+B) (b:=(B+1)+(B+1)) (qt I I) ?_ ?_ ww).mono (by lia) (by lia)
  ·rw[oo,oo,<-e];grind
  ·rw[oE];exact B5 l l
 ·obtain⟨c,e,l⟩:=aa r F;obtain⟨v,J,lv⟩:=vv r F;exists v*(c*c),?_
  ·rw[oo,oo,oo,oo,<-J,<-e,ic];unfold JL Au;grind
  ·rw[oE,oE,sJ];exact B5 lv (B5 l l)
theorem Gr.sum(s:Gr n rs X Z N):∀k,k<=rs.length->Uw Z N k (GZ X (rs.take k)):=by
 intro k
 induction k with
 |zero=>intro _;exact Uw.zero Z N
 |succ k ih =>
  intro F;have e:rs[k]?=some rs[k]:=nh F;rw[Sl e];exact(ih (by lia)).Cu (s.ls _ (oK _))
theorem Gr.sf(s:Gr n rs X Z N)(I:rs.length<=16)(k:Nat)(F:k<=rs.length):Sf (GZ X (rs.take k)) :=
 (s.sum k F).sf s.z0 s.zl (by lia) s.nl
theorem Gr.all(s:Gr n rs X Z N)(F:rs.length<=16):Sf (GZ X rs):=by
 have:=s.sf F rs.length (nG _)
 rwa [oW]at this
theorem Gr.Ah(s:Gr n rs X Z N)(F:r∈rs):Sf (JL X r) :=
 (s.ls r F).sf s.z0 s.zl (by lia) s.nl
variable {C2:Addr}
inductive VQ(F:List V)(H:Hp)(Q:VK)(_:XK):Prop
 |mk (a b:Addr) (n:Nat) (rs:List AK) (X:Nat->Rat) (Z:Int) (N:Nat) (ad:F=[.ref a,.ref b]) (ac:EJ H a (n+2) rs) (J:A4 AU H b ((nz (n+2)).map X)) (I:rs.length<=16) (O:(∀r∈rs,r.1<n+2/\r.2.1<n+2)) (aa:Gr n rs X Z N) (ab:∀p H',AM H H'->AU H' p (GZ X rs)->Q (.ref p) H')
theorem Ll:Az ["net","levels","loss","rope","running"] ["net","levels"] (Ak s_lost):=A9
theorem fS (F:Aq K "lost" "lost" s_lost f fd)(G1:Ad P w K mg base 3 "plus" ["one","other"] (Cg λx y=>x+y))
  (G2:Ad P w K mg base 3 "times" ["one","other"] (Cg λx y=>x*y))
  (G3:Ad P w K mg base 4 "fall_of" ["rope","levels"] OD)
  (G4:Ad P w K mg base 5 "runnings_by" ["net","levels"] NP)(mz:mg "zip" = none) :
  Am P w K mg base Aw 6 f fd ["net","levels"] VQ:=by
 refine F.BD Ll λii A _ s H vs Q E hr h=>?_
 obtain⟨a,b,n,rs,X,Z,N,rfl,hN,hL,aq,I,z,q⟩:=h;exists _,AN (Aa 2 Ll (Bl (AA AB (AA AB AD))))
  (AN (CS oB rfl (J7 (t1:=true) (t2:=true) (by rfl) mz (AA (pT (pv 0) AB) (AA (AZ G4 (AA (pv 0) (AA (pv 1) AD))) AD))) (Dp (n:=2) rfl (Bf (BL 3 Ll) (Bf (BL 4 Ll) Dj)))
   (AX (Aa 2 Ll (AZ G1 (AA (pv 2) (AA (AZ G2 (AA (pv 4) (AA (AZ G3 (AA (pv 3) (AA (pv 1) AD))) AD))) AD))))))
  (AX (Ar (pv 2))))
 refine⟨by exact CQ,λz1 al=>?_⟩;obtain⟨H1,J,t1,zz⟩:=nw al (.AG [.int 0,.int 1]);rw[J];have e1:AU H1 z1 0:=zz;obtain⟨ra,tv,ha,bs,aj,ag⟩:=id hN;have ah:∀{H H':Hp} {p:Addr} {qs:List Rat},AM H H'->A4 AU H p qs->A4 AU H' p qs:=λs h=>ES (R:=AU) (λs h=>Ao s h) s h
 refine⟨_,U,a,_,_,_,U,U,AJ.of (t1 _ _ ha),EW _ _ _,_,U,_,U,a,b,n+2,rs,X,U,FR t1 hN,.t (ah t1 hL),by lia,λr hr=>⟨(I r hr).1,(I r hr).2,z.hs _ (I r hr).1,z.hs _ (I r hr).2,z.fs r hr,z.es r hr⟩,λpr H2 s2 hR=>?_⟩;obtain⟨cs,ac,ae⟩:=hR;have ab:=t1.trans s2;exists ra,pr,U,⟨_,BS.t (ab _ _ aj)⟩,⟨_,BS.t ac⟩;have lb:bs.length=rs.length:=ag.1;have lc:cs.length=rs.length:=by rw[ae.1,nc]
 refine TU (xs:=bs.map V.ref) (ys:=cs.map V.ref) rs.length (by rw[nc,nc];lia) (λi σ H3=>AM H2 H3/\∃(e:Addr) (u v:Option V),σ=[some (.ref a),some (.ref b),some (.ref e),u,v]/\AU H3 e (GZ X (rs.take i)))
  ⟨AM.refl _,z1,none,none,U,s2 _ _ e1⟩ (λi σ H3 _ ⟨O,_⟩=>⟨BS.t (O _ _ (ab _ _ aj)),BS.t (O _ _ ac)⟩) ?_ ?_
 ·rintro i x y σ H3 p hx hy ⟨O,e,u,v,rfl,he⟩ hp;obtain⟨c,r,rfl,_,aa,ar⟩:=ag.ref hx;obtain⟨d,q0,rfl,_,ai,hd⟩:=ae.ref hy;have ak:q0=Au X r:=by rw[nJ,aa]at ai;exact(nV ai).symm
  subst ak;have rm:=ny aa;have ik:i<rs.length:=(nj.mp aa).1;obtain⟨H4,J,s4,h4⟩:=nw hp (.AG [.ref c,.ref d]);rw[J];exists p,_,U,AJ.of h4,U,_,_,U,_,_,U,rfl;have sA:=ab.trans (O.trans s4);have af:=O.trans s4;refine⟨_,U,_,U,_,U,_,U,c,b,r,n+2,X,U,Dl sA ar,.t (ah sA hL),(I r rm).1,(I r rm).2,z.hs _ (I r rm).1,z.hs _ (I r rm).2,λp5 am=>?_⟩;obtain⟨H5,J,s5,h5⟩:=my am (X r.1-X r.2.1);rw[J];refine⟨d,p5,_,_,U,s5 _ _ (af _ _ hd),h5,z.ru r rm,z.fs r rm,λp6 ap=>?_⟩;obtain⟨H6,J,s6,zz⟩:=nw ap (.AG [.int (Au X r*(X r.1-X r.2.1)).num,.int (Au X r*(X r.1-X r.2.1)).den]);rw[J];have h6:AU H6 p6 (JL X r):=zz;have ad:=s5.trans s6;refine⟨e,p6,_,_,U,ad _ _ (s4 _ _ he),h6,z.sf aq i (by lia),z.Ah rm,λp7 ao=>?_⟩;exists af.trans (ad.trans (Ae ao _)),p7,_,_,rfl;rw[Sl aa];exact AY
 ·rintro σ H3 ⟨O,e,u,v,rfl,he⟩;rw[oW]at he;exact⟨_,U,q e H3 (ab.trans O) he⟩
theorem TZ:∀(S:List AK) (r:AK),BX (S++[r])=BX S*r.2.2
 |[],r=>by show r.2.2*1=1*r.2.2;grind
 |x :: S,r=>by
  show x.2.2*BX (S++[r])=x.2.2*BX S*r.2.2;rw[TZ S r];grind
theorem Nt:∀{S:List AK},(∀r∈S,Sb α β r.2.2)->Sb (α*S.length) (β*S.length) (BX S)
 |[],_=>Sb.Ah.mono (pJ _) (pJ _)
 |r :: S,h=>by
  have:=(h r (by simp)).D0 (Nt (S:=S) λx F=>h x (by simp[F]))
  exact this.mono (by rw[oA,qv];lia) (by rw[oA,qv];lia)
theorem Pd(j:∀r∈rs,Sb 10 10 r.2.2)(h:∀x∈row,x<rs.length):∀r∈A2 rs row,Sb 10 10 r.2.2:=λr I=>by
 obtain⟨k,J,rfl⟩:=nS.mp I;have F:k<rs.length:=h k J;rw[nq,nh F];exact j _ (oK F)
theorem eC(h:S.Sublist rs):BG ((BR rs:Nat)*BX S):=by
 induction h with
 |slnil=>exact⟨1,by show((1:Nat):Rat)*1=_;grind⟩
 |@cons l1 l2 a h ih =>
  obtain⟨k,F⟩:=ih;exists a.2.2.den*k;show((a.2.2.den*BR l2:Nat):Rat)*BX l1=_;rw[qk,oo,<-F,ic];grind
 |@cons_cons l1 l2 a h ih =>
  obtain⟨k,F⟩:=ih;exists a.2.2.num*k;have d:((a.2.2.den:Nat):Rat)*a.2.2=a.2.2.num:=by rw[sd];exact Ex a.2.2
  show((a.2.2.den*BR l2:Nat):Rat)*(a.2.2*BX l1)=_;rw[qk,oo,<-F,<-d];grind
theorem Sa:∀{s:Nat} {r:List Nat},r∈Bz rs.length s->(A2 rs r).Sublist (rs.take (Bp r))
 |0,r,h=>by
  have:r=[]:=by simpa [Bz]using h
  subst this;exact List.nil_sublist _
 |s+1,r,h=>by
  obtain⟨q,J,O⟩:=zD.mp (show r∈(Bz rs.length s).flatMap λr=>(qM (Bp r) (rs.length-Bp r)).map λx=>r++[x] from h);obtain⟨x,I,rfl⟩:=nS.mp O;rw[wc]at I;have F:x<rs.length:=by omega
  rw[PL,SD,tD,nh F,nq,nh F];refine List.Sublist.append ((Sa J).trans ?_) (List.Sublist.refl _);rw[show rs.take (Bp q)=(rs.take x).take (Bp q) by rw[List.take_take,zU I.1]];exact we _ _
theorem S7{α:Type}(g:α->Rat)(l:List α)(x:α):Bm g (l++[x])=Bm g l+g x:=by rw[Tc,G0,LP];grind
inductive Uq(F:List V)(H:Hp)(Q:VK)(_:XK):Prop
 |mk (a b:Addr) (n:Nat) (rs:List AK) (row:List Nat) (ad:F=[.ref a,.ref b]) (ac:EJ H a n rs) (J:(∀r∈rs,Sb 10 10 r.2.2)) (I:Ct H b row) (O:(∀x∈row,x<rs.length)) (aa:row.length<=100) (ab:∀p H',AM H H'->AU H' p (BX (A2 rs row))->Q (.ref p) H')
theorem OV:Az ["_law_net_here","_law_chosen","_law_found","_law_rope"] ["_law_net_here","_law_chosen"] (Ak s_law_worth):=A9
set_option maxHeartbeats 1000000 in
seal L2.CU L2.PS L2.PE L2.PA in
theorem bH(F:Aq K "_law_worth" "_law_worth" s_law_worth f fd)(G1:Ad P w K mg base 2 "_law_mul" ["_law_one","_law_other"] (Cg λx y=>x*y)):
  Am P w K mg base Aw 3 f fd ["_law_net_here","_law_chosen"] Uq:=by
 refine F.BD OV λii A _ s H vs Q E hr h=>?_
 obtain⟨a,b,n,rs,row,rfl,⟨ra,tv,ha,cs,ag,hC⟩,J,hb,ab,ah,q⟩:=h;exists _,AN (Aa 2 OV (Bl (AA AB (AA AB AD))))
  (AN (CS oB rfl (D9 (pv 1)) (BL 3 OV)
   (AX (Aa 2 OV (AZ G1 (AA (pv 2) (AA (pT (pT (pT (pv 0) AB) (pv 3)) AB) AD))))))
  (AX (Ar (pv 2))))
 refine⟨by exact CQ,λz1 af=>?_⟩;obtain⟨H1,zg,t1,zz⟩:=nw af (.AG [.int 1,.int 1]);rw[zg];have e1:AU H1 z1 1:=zz;exists _,U,b,U,⟨_,AJ.of (t1 _ _ hb)⟩;refine JC (xs:=Ge row) (λi σ H2=>AM H H2/\∃(e:Addr) (u3:Option V),σ=[some (.ref a),some (.ref b),some (.ref e),u3]/\AU H2 e (BX (A2 rs (row.take i)))) ⟨t1,z1,none,U,e1⟩ (λi σ H2 _ h=>AJ.of (h.1 _ _ hb)) ?_ ?_
 ·rintro i x σ H2 O ⟨I,e,u3,rfl,he⟩;rw[nJ]at O;obtain⟨k,hk,rfl⟩:=qN.mp O;have aa:k<rs.length:=ab k (ny hk);have hi:i<row.length:=(nj.mp hk).1;obtain⟨c,hc,ac⟩:=hC.BZ (nh aa);have es:=J _ (oK aa);have ep:rs.getD k (0,0,0)=rs[k]:=by rw[nq,nh aa];rfl
  generalize rs[k]=r at ac es ep;obtain⟨ea,ae,ad⟩:=Dl I ac;have sz:=Nt (Pd J (row:=row.take i) λx O=>ab x (rQ O));have ai:(A2 rs (row.take i)).length<=100:=by unfold A2;rw[nc,pB];lia
  refine NX ?_;exists _,U,_,U,a,_,_,_,U,U,AJ.of (I _ _ ha),EW _ _ _,_,U,ra,_,_,_,U,U,AJ.of (I _ _ ag),Be (CW hc),c,_,_,_,U,U,AJ.of ae,OU _ _ _;refine⟨e,ea,_,_,U,he,ad,sz.mono (by lia) (by lia),es.mono (by lia) (by lia),λp hp=>?_⟩;have s3:=Ae hp (.AG [.int (BX (A2 rs (row.take i))*r.2.2).num,.int (BX (A2 rs (row.take i))*r.2.2).den]);exists I.trans s3,p,_,rfl;rw[D4 hk,PL,TZ,ep];exact AY
 ·rintro σ H2 ⟨I,e,u3,rfl,he⟩;refine⟨_,U,q _ _ I ?_⟩;rw[nc,oW]at he;exact he
inductive Vd(I:List V)(H:Hp)(Q:VK)(_:XK):Prop
 |mk (a b:Addr) (n:Nat) (rs:List AK) (F:List (List Nat)) (af:I=[.ref a,.ref b]) (ae:EJ H a n rs) (aa:(∀r∈rs,Sb 10 10 r.2.2)) (J:rs.length<=9) (ab:A4 Ct H b F) (ac:(∀r∈F,r.length<=9/\(∀x∈r,x<rs.length)/\(A2 rs r).Sublist rs)) (ad:F.length<=126) (O:∀p H',AM H H'->AU H' p (Bm (λrow=>BX (A2 rs row)) F)->Q (.ref p) H')
theorem Oc:Az ["_law_net_here","_law_sets","_law_found","_law_one"] ["_law_net_here","_law_sets"] (Ak s_law_sum):=A9
theorem ie(J:∀r∈rs,Sb 10 10 r.2.2):∀{F:List (List Nat)},(∀r∈F,r.length<=9/\(∀x∈r,x<rs.length)/\(A2 rs r).Sublist rs)->∀i,i<=F.length->BG ((BR rs:Nat)*Bm (λrow=>BX (A2 rs row)) (F.take i))/\Vb (90+i) (Bm (λrow=>BX (A2 rs row)) (F.take i)):=by
 intro F h i
 induction i with
 |zero=>intro _;rw[vw,LP];exact⟨⟨0,by grind⟩,Sb.zero.vb.mono (pJ _)⟩
 |succ i ih =>
  intro hi;have e:F[i]?=some F[i]:=nh (by lia);obtain⟨h1,h2,I⟩:=h _ (oK (by lia :i<F.length));generalize F[i]=row at e h1 h2 I;have w:=Nt (Pd J h2);have l:(A2 rs row).length=row.length:=by unfold A2;rw[nc]
  rw[l]at w;obtain⟨⟨a,O⟩,v⟩:=ih (by lia);obtain⟨b,hb⟩:=eC I;rw[D4 e,S7];exact⟨⟨a+b,by rw[Rat.mul_add,O,hb,ue]⟩,v.Cu (w.vb.mono (by lia))⟩
theorem gu(J:∀r∈rs,Sb 10 10 r.2.2)(O:rs.length<=9){F:List (List Nat)}(h:∀r∈F,r.length<=9/\(∀x∈r,x<rs.length)/\(A2 rs r).Sublist rs)(hi:i<=F.length):Sb (180+i) 90 (Bm (λrow=>BX (A2 rs row)) (F.take i)):=by
 obtain⟨a,b⟩:=ie J h i hi;have hd:BR rs<=2 ^ 90:=oa (Le λr I=>(J r I).2) (oQ (by decide) (by lia));exact(OL (Fp rs) a hd b).mono (by lia) (nG _)
set_option maxHeartbeats 1000000 in
seal L2.CU L2.PS L2.PE L2.PA in
theorem eG (F:Aq K "_law_sum" "_law_sum" s_law_sum f fd)(G1:Ad P w K mg base 2 "_law_add" ["_law_one","_law_other"] (Cg λx y=>x+y))
  (G2:Ad P w K mg base 3 "_law_worth" ["_law_net_here","_law_chosen"] Uq) :
  Am P w K mg base Aw 4 f fd ["_law_net_here","_law_sets"] Vd:=by
 refine F.BD Oc λii A _ s H vs Q E hr h=>?_
 obtain⟨a,b,n,rs,O,rfl,hN,J,m9,⟨bs,hb,hB⟩,aa,ad,q⟩:=h;exists _,AN (Aa 2 Oc (Bl (AA AB (AA AB AD))))
  (AN (CS oB rfl (D9 (pv 1)) (BL 3 Oc)
   (AX (Aa 2 Oc (AZ G1 (AA (pv 2) (AA (AZ G2 (AA (pv 0) (AA (pv 3) AD))) AD))))))
  (AX (Ar (pv 2))))
 refine⟨by exact CQ,λz1 ac=>?_⟩;obtain⟨H1,zg,t1,zz⟩:=nw ac (.AG [.int 0,.int 1]);rw[zg];have e1:AU H1 z1 0:=zz;exists _,U,b,U,⟨_,AJ.of (t1 _ _ hb)⟩;refine JC (xs:=bs.map V.ref) (λi σ H2=>AM H H2/\∃(e:Addr) (u3:Option V),σ=[some (.ref a),some (.ref b),some (.ref e),u3]/\AU H2 e (Bm (λrow=>BX (A2 rs row)) (O.take i))) ⟨t1,z1,none,U,e1⟩ (λi σ H2 _ h=>AJ.of (h.1 _ _ hb)) ?_ ?_
 ·rintro i x σ H2 hx ⟨I,e,u3,rfl,he⟩;obtain⟨c,row,rfl,_,hy,hc⟩:=hB.ref hx;have hi:i<O.length:=(nj.mp hy).1;obtain⟨rl,rb,_⟩:=aa row (ny hy);have sb:=gu J m9 aa (i:=i) (by lia);have w:=Nt (Pd J rb);have l:(A2 rs row).length=row.length:=by unfold A2;rw[nc]
  rw[l]at w;refine NX ?_;refine⟨_,U,_,U,_,U,a,c,n,rs,row,U,FR I hN,J,GL I hc,rb,by lia,λp H3 s3 hp=>?_⟩;refine⟨e,p,_,_,U,s3 _ _ he,hp,sb.mono (by lia) (by lia),w.mono (by lia) (by lia),λp2 ab=>?_⟩;have s4:=Ae ab (.AG [.int (Bm (λrow=>BX (A2 rs row)) (O.take i)+BX (A2 rs row)).num,.int (Bm (λrow=>BX (A2 rs row)) (O.take i)+BX (A2 rs row)).den]);exists (I.trans s3).trans s4,p2,_,rfl;rw[D4 hy,S7];exact AY
 ·rintro σ H2 ⟨I,e,u3,rfl,he⟩;refine⟨_,U,q _ _ I ?_⟩;rw[nc,hB.1,oW]at he;exact he
def Em(L:List (List Int))(x:Int):Nat:=L.findIdx λr=>decide (x∈r)
theorem LV(h:x∈L.flatten):∃r,L[Em L x]?=some r/\x∈r:=by
 obtain⟨r,J,I⟩:=oC.mp h;have F:Em L x<L.length:=List.findIdx_lt_length_of_exists ⟨r,J,qm I⟩;exact⟨L[Em L x],nh F,of_decide_eq_true (List.findIdx_getElem (w:=F))⟩
theorem kL(nd:L.flatten.Nodup)(h1:L[i]?=some r)(h2:L[j]?=some s)(I:x∈r)(hy:x∈s):i=j:=by
 have F:=(xC.mp nd).2;rw[rO]at F;obtain⟨l1,O⟩:=nj.mp h1;obtain⟨J,e2⟩:=nj.mp h2;rcases so i j with z|z|z
 ·exact absurd rfl (F i j l1 J z x (by rw[O];exact I) x (by rw[e2];exact hy))
 ·exact z
 ·exact absurd rfl (F j i J l1 z x (by rw[e2];exact hy) x (by rw[O];exact I))
theorem VD(J:L.flatten.Nodup)(F:L[l]?=some r)(I:x∈r):Em L x=l:=by
 obtain⟨r',h1,h2⟩:=LV (oC.mpr ⟨r,ny F,I⟩);exact kL J h1 F h2 I
theorem Yu(T:CY n us)(O:AH n x):Em (A8 (AS us) n) (AS us x)=Em (A8 (AS us) n) x:=by
 have P:=T.CN;obtain⟨r,h1,h2⟩:=LV ((K9 P).mpr O);obtain⟨J,F,_⟩:=Mt P (ny h1);have I:=h2;rw[F]at I
 have:=aZ P J I
 rw[<-F]at this;exact VD (Mx P) h1 this
theorem VC:∀(L:List (List Int)) (i:Nat) (l:Nat) (r:List Int) (x:Int),L[l]?=some r->x∈r->(x,((i+l:Nat):Int))∈DT i L
 |[],i,l,r,x,h,_=>by cases l<;>cases h
 |c :: L,i,0,r,x,h,hx=>by cases h;exact nM.mpr (.inl (nS.mpr ⟨x,hx,by simp⟩))
 |c :: L,i,l+1,r,x,h,hx=>by
  have:=VC L (i+1) l r x (by simpa using h) hx
  rw[show i+1+l=i+(l+1) by lia]at this;exact nM.mpr (.inr this)
theorem gc(F:L.flatten.Nodup)(h:x∈L.flatten):lk (DT 0 L) x=some ((Em L x:Nat):Int):=by
 obtain⟨r,h1,h2⟩:=LV h
 have:=VC L 0 _ r x h1 h2
 rw[tJ]at this;exact KQ (by rw[LM];exact F) this
def Ff(rs:List AK)(Y:Nat->Rat)(x:Int):Rat :=
 match rs[(x / 2).toNat]? with
 |some r=>if x%2=0 then Au Y r else-Au Y r
 |none=>if x%2=0 then-Aj Y rs 0 else Aj Y rs 0
theorem S4{k:Nat}(h:rs[k]?=some r):Ff rs Y (2*(k:Int))=Au Y r:=by
 unfold Ff;rw[show(2*(k:Int) / 2).toNat=k by lia,h];show(if 2*(k:Int)%2=0 then Au Y r else _)=_;rw[nF (by lia)]
theorem Z7{k:Nat}(h:rs[k]?=some r):Ff rs Y (2*(k:Int)+1)=- Au Y r:=by
 unfold Ff;rw[show((2*(k:Int)+1) / 2).toNat=k by lia,h];show(if (2*(k:Int)+1)%2=0 then _ else-Au Y r)=_;rw[nv (by lia)]
theorem fX(rs:List AK)(Y:Nat->Rat):Ff rs Y (2*(rs.length:Int))=- Aj Y rs 0:=by
 unfold Ff;rw[show(2*(rs.length:Int) / 2).toNat=rs.length by lia,pW (nG _)];show(if 2*(rs.length:Int)%2=0 then-Aj Y rs 0 else _)=_;rw[nF (by lia)]
theorem fk(rs:List AK)(Y:Nat->Rat):Ff rs Y (2*(rs.length:Int)+1)=Aj Y rs 0:=by
 unfold Ff;rw[show((2*(rs.length:Int)+1) / 2).toNat=rs.length by lia,pW (nG _)];show(if (2*(rs.length:Int)+1)%2=0 then _ else Aj Y rs 0)=_;rw[nv (by lia)]
theorem Ym(rs:List AK)(Y:Nat->Rat)(x:Int):Ff rs Y (AO x)=- Ff rs Y x:=by
 unfold Ff AO;by_cases e:x%2=0
 ·rw[nF e,show(x+1) / 2=x / 2 by lia];cases rs[(x / 2).toNat]? with
  |none=>show(if (x+1)%2=0 then-Aj Y rs 0 else Aj Y rs 0)=- (if x%2=0 then-Aj Y rs 0 else Aj Y rs 0);rw[nF e,nv (by lia)];grind
  |some r=>show(if (x+1)%2=0 then Au Y r else-Au Y r)=- (if x%2=0 then Au Y r else-Au Y r);rw[nF e,nv (by lia)]
 ·rw[nv e,show(x-1) / 2=x / 2 by lia];cases rs[(x / 2).toNat]? with
  |none=>show(if (x-1)%2=0 then-Aj Y rs 0 else Aj Y rs 0)=- (if x%2=0 then-Aj Y rs 0 else Aj Y rs 0);rw[nv e,nF (by lia)]
  |some r=>show(if (x-1)%2=0 then Au Y r else-Au Y r)=- (if x%2=0 then Au Y r else-Au Y r);rw[nv e,nF (by lia)];grind
theorem M3(f:Int->Rat)(hs:List Nat)(q p:Nat):((Eg (hs++[q]) p).map f).sum=((Eg hs p).map f).sum+if p=q then f (hs.length:Int) else 0:=by
 rw[YZ];by_cases e:q=p
 ·rw[nF e,nF e.symm,nY,ud];simp;grind
 ·rw[nv e,nv (λz=>e z.symm)];grind
theorem UB{f:Int->Rat}(F:∀(k:Nat) (r:AK),rs[k]?=some r->f (2*(k:Int))=Au Y r/\f (2*(k:Int)+1)=- Au Y r)(p:Nat):∀j,j<=rs.length->((Eg (Cd (rs.take j)) p).map f).sum=Aj Y (rs.take j) p
 |0,_=>by simp[Cd,Eg,Aj]
 |j+1,hj=>by
  have e:rs[j]?=some rs[j]:=nh hj;have I:(Cd (rs.take j)).length=2*j:=by rw[HF,pB];lia
  rw[Pm e,D4 e,Tg,M3,M3,UB F p j (by lia),nO,I];obtain⟨O,J⟩:=F j _ e;rw[show((2*j:Nat):Int)=2*(j:Int) by lia,show((2*j+[rs[j].1].length:Nat):Int)=2*(j:Int)+1 by simp,O,J];unfold Ca;split<;>split<;>grind
theorem EI.BH{f:Int->Rat}(k:EI n rs ts)(F:∀(k:Nat) (r:AK),rs[k]?=some r->f (2*(k:Int))=Au Y r/\f (2*(k:Int)+1)=- Au Y r)(I:ts[i]?=some t):(t.map f).sum=Aj Y rs i+(if i=0 then f (2*(rs.length:Int)) else 0)+if i=1 then f (2*(rs.length:Int)+1) else 0:=by
 rw[QB ((k.CN I).map f)];show((Eg (Cd rs++[0,1]) i).map f).sum=_;rw[show Cd rs++[0,1]=Cd rs++[0]++[1] by simp,M3,M3,nO,HF];have s:=UB F i rs.length (nG _);rw[oW]at s;rw[s,show((2*rs.length:Nat):Int)=2*(rs.length:Int) by lia,show((2*rs.length+[0].length:Nat):Int)=2*(rs.length:Int)+1 by simp]
structure RQ(rs:List AK)(ts:List (List Int))(Y:Nat->Rat)(p:Int->Rat):Prop where
 MU:∀x,AH (2*rs.length+2) x->p (AS ts x)=p x
 df:∀(k:Nat) (r:AK),rs[k]?=some r->p (2*(k:Int))-p (2*(k:Int)+1)=Au Y r
 o:p (2*(rs.length:Int))=0
theorem iQ(k:EI (n+2) rs ts)(F:Ck ts (2*rs.length+2))(J:∀i,2<=i->i<n+2->Aj Y rs i=0):∃p,RQ rs ts Y p:=by
 have aa:∀r∈rs,r.1<n+2/\r.2.1<n+2:=λr hr=>(k.RS r hr).2
 obtain⟨p,i1,d1⟩:=F (Ff rs Y) (λx _=>Ym rs Y x) (λt ht=>by
  obtain⟨i,hi,e⟩:=om ht;rw[k.BH (λ_ _ h=>⟨S4 h,Z7 h⟩) (show ts[i]?=some t by rw[nh hi,e]),fX,fk];have F:=R6 aa J;rw[k.len]at hi
  match i,hi with
  |0,_=>simp;grind
  |1,_=>simp;grind
  |i+2,hi=>rw[J (i+2) (by lia) hi,nv (by lia),nv (by lia)];grind)
 exists λx=>p x-p (2*(rs.length:Int)),λx O=>?_,λj r I=>?_
 ·show p _-_=p _-_;rw[i1 x O]
 ·have hl:=(nj.mp I).1
  have:=d1 (2*(j:Int)) ⟨by lia,by push_cast;lia⟩
  rw[show AO (2*(j:Int))=2*(j:Int)+1 by unfold AO;rw[nF (by lia)],S4 I]at this;show p _-_-(p _-_)=_
  grind
 ·show p _-p _=0
  grind
theorem bA(k:EI n rs ts)(h:RQ rs ts Y p)(hi:i<n):Aj Y rs i=if i=0 then p (2*(rs.length:Int)+1) else if i=1 then-p (2*(rs.length:Int)+1) else 0:=by
 have I:ts[i]?=some (ts[i]'(by rw[k.len];exact hi)):=nh _;generalize ts[i]'(by rw[k.len];exact hi)=t at I;have J:=ny I;have F:∀j:Nat,AO (2*(j:Int))=2*(j:Int)+1/\AO (2*(j:Int)+1)=2*(j:Int):=λj=>by
  unfold AO;rw[nF (by lia),nv (by lia)];lia
 have e:=k.BH (f:=λx=>p x-p (AO x)) (Y:=Y) (λj r hj=>by
  have:=h.df j r hj
  rw[(F j).1,(F j).2];exact⟨this,by grind⟩) I
 have z:(t.map λx=>p x-p (AO x)).sum=0:=by
  rw[QC (g:=λx=>p x+(-1)*p (pr ts x)) (λx O=>by
   have xi:=(k.tn.mem x).mp (oC.mpr ⟨t,J,O⟩)
   have:=h.MU _ (DR k.tn.MD xi)
   rw[CA,Dm]at this;rw[this];grind),J1,LG,Tw k.tn.nd J p]
  grind
 rw[z]at e;rw[(F _).1,(F _).2,h.o]at e;split at e
 ·rename_i a;subst a
  rw[nF rfl];simp at e;grind
 ·rename_i a
  rw[nv a];split at e
  ·rename_i b;rw[nF b];grind
  ·rename_i b;rw[nv b];grind
def Ej(ts:List (List Int))(n:Nat)(p:Int->Rat)(j:Int):Rat:=p (((A8 (AS ts) n).getD j.toNat []).headD 0)
theorem Z9(T:CY n ts)(F:∀x,AH n x->p (AS ts x)=p x)(J:AH n x):Ej ts n p ((Em (A8 (AS ts) n) x:Nat):Int)=p x:=by
 have P:=T.CN;obtain⟨r,h1,h2⟩:=LV ((K9 P).mpr J);obtain⟨I,O,_⟩:=Mt P (ny h1);unfold Ej;rw[qe,nq,h1];show p (r.headD 0)=p x;rw[O]at h2;obtain⟨k,_,e⟩:=Fn.mp h2;rw[<-e];exact(QX P I F k).symm
theorem Ui(T:CY n ts)(F:AH n x):Em (A8 (AS ts) n) x<(A8 (AS ts) n).length:=by
 obtain⟨r,h1,_⟩:=LV ((K9 T.CN).mpr F);exact(nj.mp h1).1
theorem Su(T:CY n ts)(J:j<(A8 (AS ts) n).length):∃x,AH n x/\Em (A8 (AS ts) n) x=j:=by
 have h1:(A8 (AS ts) n)[j]?=some (A8 (AS ts) n)[j]:=nh J;obtain⟨F,I,_⟩:=Mt T.CN (ny h1);refine⟨_,F,VD (Mx T.CN) h1 ?_⟩
 have:=LD T.CN F
 rw[<-I]at this;exact this
def RD(ts:List (List Int))(m:Nat):Prop:=∀S:Int->Prop,(∀x,AH (2*m+2) x->(S x↔S (AS ts x)))->(∀k:Nat,k<m->(S (2*(k:Int))↔S (2*(k:Int)+1)))->S (2*(m:Int))->∀x,AH (2*m+2) x->S x
theorem _root_.Mth.Mc.Q4(D:Mc (AS ts) m):RD ts m:=λS h1 h2 I x F=>by
 by_cases z:S (2*(m:Int)+1)
 ·exact D.Cs S h1 h2 z x F
 ·have:=D.Cs (λx=>¬S x) (λx F=>not_congr (h1 x F)) (λk J=>not_congr (h2 k J)) z (2*(m:Int)) ⟨by lia,by push_cast;lia⟩
  exact absurd I this
structure lD(n:Nat)(rs:List AK)(ts:List (List Int)):Prop extends EI n rs ts where
 Q4:RD ts rs.length
 md:Ck ts (2*rs.length+2)
theorem EI.q(k:EI n rs ts)(D:Kt ts rs.length):lD n rs ts:=⟨k,D.du.Q4,D.po⟩
end
end My
namespace My
open PySem L2 Mth Wd
variable {e:Int}{ts:List (List Int)}
abbrev DQ(l:List (Int×Addr)):List (Ai×V):=l.map λp=>(oi p.1,V.ref p.2)
theorem Jj:∀{l:List (Int×Addr)},e∉l.map (·.1)->Cj (DQ l) (oi e:Ai)=none
 |[],_=>rfl
 |p :: l,h=>by
  show Cj ((oi p.1,V.ref p.2) :: DQ l) (oi e:Ai)=_;rw[Iq (p:=((oi p.1:Ai),V.ref p.2)) (λz=>h (by rw[<-Sum.inl.inj z];simp)),Jj (λz=>h (by simp only[nK];exact oV _ z))]
theorem NY:∀{l:List (Int×Addr)},e∈l.map (·.1)->∃a,(e,a)∈l/\Cj (DQ l) (oi e:Ai)=some (.ref a)
 |p :: l,h=>by
  show ∃a,(e,a)∈p :: l/\Cj ((oi p.1,V.ref p.2) :: DQ l) (oi e:Ai)=some (.ref a);by_cases z:p.1=e
  ·exact⟨p.2,by rw[<-z];exact qr ..,by rw[Jv (p:=((oi p.1:Ai),V.ref p.2)) (by rw[z])]⟩
  ·have F:e∈l.map (·.1):=by
    rw[nK]at h;rcases nZ.mp h with y|y
    ·exact absurd y.symm z
    ·exact y
   obtain⟨a,h1,h2⟩:=NY F;exact⟨a,oV _ h1,by rw[Iq (p:=((oi p.1:Ai),V.ref p.2)) (λy=>z (xl y))];exact h2⟩
theorem cY(h:e∉l.map (·.1)):B4 (DQ l) (oi e:Ai) (.ref a)=DQ (l++[(e,a)]):=by
 rw[Qd (Jj h)];simp
structure CP(H:Hp)(L:Nat)(P:Int->Rat)(Z:Int)(N:Nat)(l:List (Int×Addr)):Prop where
 nd:(l.map (·.1)).Nodup
 FA:∀q∈l,AH L q.1
 fr:∀q∈l,AU H q.2 (P q.1)/\Uw Z N l.length (P q.1)
section
variable {H H':Hp}{L:Nat}{P:Int->Rat}{Z:Int}{N:Nat}{l:List (Int×Addr)}
theorem CP.keep(k:CP H L P Z N l)(s:AM H H'):CP H' L P Z N l:=⟨k.nd,k.FA,λq F=>⟨Ao s (k.fr q F).1,(k.fr q F).2⟩⟩
theorem CP.WU(k:CP H L P Z N l)(hd:H d=some (.dK kv))(o:HO):CP (AF H d o) L P Z N l:=⟨k.nd,k.FA,λq F=>⟨by
 have h:H q.2=_:=(k.fr q F).1;show AF H d o q.2=_;rw[As (λz=>by rw[z,hd]at h;cases h)];exact h,(k.fr q F).2⟩⟩
theorem CP.len(k:CP H L P Z N l):l.length<=L:=by
 have:=HK L (l.map (·.1)) k.nd (λx F=>by
  obtain⟨q,I,rfl⟩:=nS.mp F;exact k.FA q I)
 rwa [nc]at this
theorem CP.Ah(J:AH L e)(h:AU H a 0)(I:P e=0):CP H L P Z N [(e,a)]:=by
 refine⟨by simp,λq F=>?_,λq F=>?_⟩
 ·rw[nU.mp F];exact J
 ·rw[nU.mp F,I];exact⟨h,(Uw.zero Z N).mono (by lia)⟩
theorem CP.Cu(k:CP H L P Z N l)(hn:e∉l.map (·.1))(O:AH L e)(h:AU H a (P e))(u:Uw Z N (l.length+1) (P e)):CP H L P Z N (l++[(e,a)]):=by
 refine⟨?_,λq F=>?_,λq F=>?_⟩
 ·rw[nY,pP];refine⟨k.nd,by simp,λx J y I=>?_⟩;simp only[nK,pE,nU]at I;subst I;exact λz=>hn (z ▸ J)
 ·rcases nM.mp F with z|z
  ·exact k.FA q z
  ·rw[nU.mp z];exact O
 ·rw[nO];rcases nM.mp F with z|z
  ·exact⟨(k.fr q z).1,(k.fr q z).2.mono (by simp)⟩
  ·rw[nU.mp z];exact⟨h,u⟩
theorem CP.all(k:CP H L P Z N l)(h:L<=l.length)(I:AH L e):e∈l.map (·.1):=by
 by_cases z:e∈l.map (·.1)
 ·exact z
 ·have:=HK L (e :: l.map (·.1)) (pj.mpr ⟨z,k.nd⟩) (λx hx=>by
   rcases nZ.mp hx with rfl|hx
   ·exact I
   ·obtain⟨q,F,rfl⟩:=nS.mp hx;exact k.FA q F)
  rw[oA,nc]at this
  lia
end
def El(ts:List (List Int))(n:Nat):List Int:=(nz n).map λe:Nat=>((Em (A8 (AS ts) n) (e:Int):Nat):Int)
theorem iz(T:CY n ts):((nz n).map λe:Nat=>(lk (DT 0 (A8 (AS ts) n)) (e:Int)).getD 0)=El ts n:=by
 unfold El;refine o7 λe F=>?_
 have:=oJ.mp F
 rw[gc (Mx T.CN) ((K9 T.CN).mpr ⟨by lia,by lia⟩)];rfl
theorem Vw{n e:Nat}(h:e<n):Bt ((El ts n).map V.int) ((e:Nat):Int)=some (.int ((Em (A8 (AS ts) n) (e:Int):Nat):Int)) :=
 Be (jG (by unfold El;rw[nJ,pY h];rfl))
theorem gJ(ts:List (List Int))(n:Nat):(El ts n).length=n:=by unfold El;rw[nc,oX]
theorem eu(T:CY n ts)(I:x∈El ts n)(h:∀a∈El ts n,a<=x):x=((A8 (AS ts) n).length:Int)-1:=by
 have J:∀e,AH n e->((Em (A8 (AS ts) n) e:Nat):Int)∈El ts n:=λe F=>by
  unfold El;exact nS.mpr ⟨e.toNat,oJ.mpr (by have:=F.1;have:=F.2;lia),by rw[show((e.toNat:Nat):Int)=e by have:=F.1;lia]⟩
 unfold El at I;obtain⟨e,F,rfl⟩:=nS.mp I
 have:=oJ.mp F
 have l1:=Ui T (x:=(e:Int)) ⟨by lia,by lia⟩;obtain⟨y,hy,O⟩:=Su T (j:=(A8 (AS ts) n).length-1) (by lia)
 have:=h _ (J y hy)
 rw[O]at this
 lia
structure Xm(rs:List AK)(Y:Nat->Rat)(Z:Int)(N:Nat):Prop where
 z0:Z≠0
 zl:Z.natAbs<=2 ^ 2224
 nl:N<=2235
 ru:∀r∈rs,Uw Z N 1 (Au Y r)
structure EM(rs:List AK)(ts:List (List Int))(Y:Nat->Rat)(p:Int->Rat)(Z:Int)(N:Nat):Prop where
 GB:rs.length<=14
 tn:CY (2*rs.length+2) ts
 hg:RD ts rs.length
 pp:RQ rs ts Y p
 wd:Xm rs Y Z N
abbrev BF(rs:List AK)(ts:List (List Int))(x:Int):Int:=((Em (A8 (AS ts) (2*rs.length+2)) x:Nat):Int)
abbrev Cb(rs:List AK)(ts:List (List Int)):Nat:=(A8 (AS ts) (2*rs.length+2)).length
section
variable {rs:List AK}{ts:List (List Int)}{Y:Nat->Rat}{p:Int->Rat}{Z:Int}{N:Nat}{H:Hp}{l:List (Int×Addr)}
theorem EM.in(D:EM rs ts Y p Z N)(F:AH (2*rs.length+2) x):AH (Cb rs ts) (BF rs ts x):=⟨by unfold BF;lia,by unfold BF Cb;have:=Ui D.tn F;lia⟩
theorem EM.le(D:EM rs ts Y p Z N):Cb rs ts<=30:=by
 have:=(SU D.tn.CN (nG _)).2
 have:=D.GB
 unfold Cb
 lia
theorem EM.at(D:EM rs ts Y p Z N)(F:AH (2*rs.length+2) x):Ej ts (2*rs.length+2) p (BF rs ts x)=p x:=Z9 D.tn D.pp.MU F
theorem EM.sf(D:EM rs ts Y p Z N)(h:Uw Z N c q)(F:c<=64):Sf q:=h.sf D.wd.z0 D.wd.zl F (by have:=D.wd.nl;lia)
theorem EM.kq (D:EM rs ts Y p Z N)(k:CP H (Cb rs ts) (Ej ts (2*rs.length+2) p) Z N l)(J:BF rs ts (2*(rs.length:Int))∈l.map (·.1))
  (cl:∀j:Nat,j<rs.length->(BF rs ts (2*(j:Int))∈l.map (·.1)↔BF rs ts (2*(j:Int)+1)∈l.map (·.1))):Cb rs ts<=l.length:=by
 have all:=D.hg (λx=>BF rs ts x∈l.map (·.1)) (λx F=>by rw[show BF rs ts (AS ts x)=BF rs ts x by unfold BF;rw[Yu D.tn F]]) cl J
 have:=Na ((nz (Cb rs ts)).map λj:Nat=>(j:Int)) (l.map (·.1)) (by
  rw[tQ,rf];exact tw (λh e=>h (by lia)) uP) (λx F=>by
  obtain⟨j,I,rfl⟩:=nS.mp F;obtain⟨y,hy,O⟩:=Su D.tn (oJ.mp I)
  have:=all y hy
  unfold BF at this
  rwa [O]at this)
 rwa [nc,nc,oX]at this
theorem EM.step(D:EM rs ts Y p Z N)(k:CP H (Cb rs ts) (Ej ts (2*rs.length+2) p) Z N l){j:Nat}(J:rs[j]?=some r):
  (BF rs ts (2*(j:Int)+1)∈l.map (·.1)->∃a,(BF rs ts (2*(j:Int)+1),a)∈l/\Cj (DQ l) (oi (BF rs ts (2*(j:Int)+1)):Ai)=some (.ref a)/\AU H a (p (2*(j:Int)+1))/\Sf (p (2*(j:Int)+1)) /\
   (BF rs ts (2*(j:Int))∉l.map (·.1)->∀b H',AM H H'->AU H' b (p (2*(j:Int)+1)+Au Y r)->CP H' (Cb rs ts) (Ej ts (2*rs.length+2) p) Z N (l++[(BF rs ts (2*(j:Int)),b)]))) /\
  (BF rs ts (2*(j:Int))∈l.map (·.1)->∃a,(BF rs ts (2*(j:Int)),a)∈l/\Cj (DQ l) (oi (BF rs ts (2*(j:Int))):Ai)=some (.ref a)/\AU H a (p (2*(j:Int)))/\Sf (p (2*(j:Int))) /\
   (BF rs ts (2*(j:Int)+1)∉l.map (·.1)->∀b H',AM H H'->AU H' b (p (2*(j:Int))-Au Y r)->CP H' (Cb rs ts) (Ej ts (2*rs.length+2) p) Z N (l++[(BF rs ts (2*(j:Int)+1),b)]))):=by
 have jl:=(nj.mp J).1;have F:AH (2*rs.length+2) (2*(j:Int)):=⟨by lia,by push_cast;lia⟩;have I:AH (2*rs.length+2) (2*(j:Int)+1):=⟨by lia,by push_cast;lia⟩;have df:=D.pp.df j r J;have ru:=D.wd.ru r (ny J);have kl:=k.len;have aa:=D.le;constructor
 ·intro h;obtain⟨a,h1,h2⟩:=NY h;obtain⟨f1,f2⟩:=k.fr _ h1;dsimp only at f1 f2;rw[D.at I]at f1 f2;refine⟨a,h1,h2,f1,D.sf f2 (by lia),λhn b H' s O=>?_⟩;have e:p (2*(j:Int)+1)+Au Y r=p (2*(j:Int)):=by grind
  refine(k.keep s).Cu hn (D.in F) ?_ ?_
  ·rw[D.at F,<-e];exact O
  ·rw[D.at F,<-e];exact f2.Cu ru
 ·intro h;obtain⟨a,h1,h2⟩:=NY h;obtain⟨f1,f2⟩:=k.fr _ h1;dsimp only at f1 f2;rw[D.at F]at f1 f2;refine⟨a,h1,h2,f1,D.sf f2 (by lia),λhn b H' s O=>?_⟩;have e:p (2*(j:Int))-Au Y r=p (2*(j:Int)+1):=by grind
  refine(k.keep s).Cu hn (D.in I) ?_ ?_
  ·rw[D.at I,<-e];exact O
  ·rw[D.at I,<-e];exact f2.Dz ru
end
end My
namespace My
open PySem L2 Mth Wd
variable {ts:List (List Int)}{rs:List AK}{X Y:Nat->Rat}
def Oz(x y:Rat):Rat:=if y<x then y else x
def O0(x y:Rat):Rat:=if y<x then x else y
theorem QS(h:j<=rs.length):Bt ((El ts (2*rs.length+2)).map V.int) (2*(j:Int))=some (.int (BF rs ts (2*(j:Int)))):=by
 have:=Vw (ts:=ts) (n:=2*rs.length+2) (e:=2*j) (by lia)
 rwa [show((2*j:Nat):Int)=2*(j:Int) by lia]at this
theorem QV(h:j<=rs.length):Bt ((El ts (2*rs.length+2)).map V.int) (2*(j:Int)+1)=some (.int (BF rs ts (2*(j:Int)+1))):=by
 have:=Vw (ts:=ts) (n:=2*rs.length+2) (e:=2*j+1) (by lia)
 rwa [show((2*j+1:Nat):Int)=2*(j:Int)+1 by lia]at this
section
variable {P:oT}{w:World}{K:nI}{mg:Str->Option Value}{base:Heap}{f g h f1 f2 f3 f4 f5:Addr}{fd gd hd d1 d2 d3 d4 d5:qf}
inductive VJ(F:List V)(H:Hp)(Q:VK)(_:XK):Prop
 |mk (p q:Addr) (x y:Rat) (aa:F=[.ref p,.ref q]) (I:AU H p x) (ab:AU H q y) (ac:Sf x) (O:Sf y) (J:Q (.bl (decide (x<y))) H)
theorem kD:Az ["one","other"] ["one","other"] (Ak s_less):=A9
theorem dQ(F:Aq K "less" "less" s_less f fd):Am P w K mg base Aw 1 f fd ["one","other"] VJ:=by
 refine F.BD kD λii A _ s H vs Q E hr h=>?_
 obtain⟨p,q,x,y,rfl,hp,J,O,I,k⟩:=h;exists _,AX (Ar (K3 JT (AL Cz (pT (pv 0) AB) (pT (pv 1) AB)) (AL Cz (pT (pv 1) AB) (pT (pv 0) AB))));rw[show decide (x<y)=decide (x.num*(y.den:Int)<y.num*(x.den:Int)) from decide_eq_decide.mpr (z9 x y)]at k;exact⟨_,U,p,_,_,_,U,U,AJ.of hp,BC,_,U,q,_,_,_,U,U,AJ.of J,Ay,_,_,U,U,⟨O.n,I.d⟩,_,U,q,_,_,_,U,U,AJ.of J,BC,_,U,p,_,_,_,U,U,AJ.of hp,Ay,_,_,U,U,⟨I.n,O.d⟩,_,_,U,U,k⟩
inductive WO(F:List V)(H:Hp)(Q:VK)(_:XK):Prop
 |mk (p q:Addr) (x y:Rat) (aa:F=[.ref p,.ref q]) (I:AU H p x) (ab:AU H q y) (ac:Sf x) (O:Sf y) (J:∀t a b,H t=none->AU H a (Oz x y)->AU H b (O0 x y)->Q (.ref t) (AF H t (.AG [.ref a,.ref b])))
theorem kY:Az ["one","other"] ["one","other"] (Ak s_rising):=A9
theorem ZX(F:Aq K "rising" "rising" s_rising f fd)(G:Ad P w K mg base 1 "less" ["one","other"] VJ):Am P w K mg base Aw 2 f fd ["one","other"] WO:=by
 refine F.BD kY λii A _ s H vs Q E hr h=>?_
 obtain⟨p,q,x,y,rfl,hp,I,sx,O,k⟩:=h;exists _,AX (Ar (QE (HJ (AZ G (AA (pv 1) (AA (pv 0) AD)))) (Bl (AA (pv 1) (AA (pv 0) AD))) (Bl (AA (pv 0) (AA (pv 1) AD)))));exists _,U,_,U,q,p,y,x,U,I,hp,O,sx,_,rfl;unfold Oz O0 at k;by_cases z:y<x
 ·rw[nF z,nF z]at k;exact C4 z ⟨_,U,_,U,by exact CQ,λt J=>k t q p J I hp⟩
 ·rw[nv z,nv z]at k;exact DC z ⟨_,U,_,U,by exact CQ,λt J=>k t p q J hp I⟩
inductive Us(F:List V)(H:Hp)(Q:VK)(_:XK):Prop
 |mk (a b:Addr) (rs:List AK) (ts:List (List Int)) (Y:Nat->Rat) (p:Int->Rat) (Z:Int) (N:Nat) (ab:F=[.ref a,.ref b]) (aa:H a=some (.AG ((El ts (2*rs.length+2)).map V.int))) (J:A4 AU H b (rs.map (Au Y))) (I:EM rs ts Y p Z N)
  (O:∀d l H',AM H H'->H' d=some (.dK (DQ l))->CP H' (Cb rs ts) (Ej ts (2*rs.length+2) p) Z N l->Cb rs ts<=l.length->Q (.ref d) H')
theorem JZ:Az ["lands","widths","outer","sides","k","width","right","left"] ["lands","widths"] (Ak s_land_sides):=A9
seal L2.CU L2.PS L2.PE L2.PA in
theorem aU (F:Aq K "land_sides" "land_sides" s_land_sides f fd)(G1:Ad P w K mg base 3 "plus" ["one","other"] (Cg λx y=>x+y))
  (G2:Ad P w K mg base 3 "minus" ["one","other"] (Cg λx y=>x-y))(ml:mg "len" = none)(mx:mg "max" = none)(me:mg "enumerate" = none):Am P w K mg base Aw 4 f fd ["lands","widths"] Us:=by
 refine F.BD JZ λii A _ s H vs Q E hr h=>?_
 obtain⟨a,b,rs,ts,Y,p,Z,N,rfl,ha,⟨bs,hb,hB⟩,D,q⟩:=h;have hu:=IP hr;exists _,AN (Aa 2 JZ (C7 ml (pv 1)))
  (AN (Aa 3 JZ (Qe (NA (pT (pv 0) (AL Bv AB (pv 2))) (Bl (AA AB (AA AB AD))) Qa) rfl rfl (λz=>by cases z) (by decide)))
  (AN (Jq oB (Bb Wn (CV Ht (by rfl) ml Ee (AA (pv 3) AD)) (CV (Yy rfl) (by rfl) mx jf (AA (pv 0) AD)))
   (AX (CS oB rfl (Nf (by rfl) me (AA (pv 1) AD)) (Dp (n:=2) rfl (Bf (BL 4 JZ) (Bf (BL 5 JZ) Dj)))
    (AN (Aa 6 JZ (pT (pv 0) (AL Bv AB (pv 4))))
    (AN (Aa 7 JZ (pT (pv 0) (AL BY (AL Bv AB (pv 4)) AB)))
    (AX (Bq (PW.pt (Qv (JJ (N5 hu (pv 7) (pv 3))) (Qg (JJ (Mp hu (pv 6) (pv 3))))))
     (AX (HD hu (pv 3) (pv 6) (AZ G1 (AA (Hg hu (pv 3) (pv 7)) (AA (pv 5) AD))) rfl))
     (AX (Bq (PW.pt (Qv (JJ (N5 hu (pv 6) (pv 3))) (Qg (JJ (Mp hu (pv 7) (pv 3))))))
      (AX (HD hu (pv 3) (pv 7) (AZ G2 (AA (Hg hu (pv 3) (pv 6)) (AA (pv 5) AD))) rfl)) By)))))))))
  (AX (Ar (pv 3)))))
 have az:=D.GB;have lb:bs.length=rs.length:=by rw[hB.1,nc]
 have i0:AH (2*rs.length+2) (2*(rs.length:Int)):=⟨by lia,by push_cast;lia⟩;exists _,U,b,_,U,.inr (AJ.of hb);rw[nc,lb];intro d hd;refine EK hd (.dK []) λH1 s1 e1=>?_
 refine⟨_,U,_,U,_,_,U,U,.inl ⟨by decide,by decide⟩,a,_,_,_,U,U,AJ.of (s1 _ _ ha),QS (nG _),by exact CQ,λz hz=>?_⟩;refine EK hz (.AG [.int 0,.int 1]) λH2 s2 zz=>?_
 have fz:AU H2 z 0:=zz;have e2:=s2 _ _ e1;refine⟨e2,[(oi (BF rs ts (2*(rs.length:Int))),.ref z)],U,by show 1<=15;decide,?_⟩;have s3:AM H (AF H2 d (.dK (Ez [] [((oi (BF rs ts (2*(rs.length:Int))):Ai),V.ref z)]))):=(s1.trans s2).up hd _;have e3:(AF H2 d (.dK (Ez [] [((oi (BF rs ts (2*(rs.length:Int))):Ai),V.ref z)]))) d=some (.dK (DQ [(BF rs ts (2*(rs.length:Int)),z)])):=AY;have k3:CP (AF H2 d (.dK (Ez [] [((oi (BF rs ts (2*(rs.length:Int))):Ai),V.ref z)]))) (Cb rs ts) (Ej ts (2*rs.length+2) p) Z N [(BF rs ts (2*(rs.length:Int)),z)] :=
  (CP.Ah (D.in i0) fz (by rw[D.at i0];exact D.pp.o)).WU e2 _
 generalize AF H2 d (.dK (Ez [] [((oi (BF rs ts (2*(rs.length:Int))):Ai),V.ref z)]))=H3 at s3 e3 k3;have ad:a≠d:=λz=>by rw[z,hd]at ha;cases ha
 have bd:b≠d:=λz=>by rw[z,hd]at hb;cases hb
 refine Jp (λσ O=>∃l u1 u2 u3 u4,σ=[some (.ref a),some (.ref b),some (.int (rs.length:Int)),some (.ref d),u1,u2,u3,u4]/\AM H O/\O d=some (.dK (DQ l))/\CP O (Cb rs ts) (Ej ts (2*rs.length+2) p) Z N l/\BF rs ts (2*(rs.length:Int))∈l.map (·.1))
  (λ_ O=>match O d with|some (.dK kv)=>Cb rs ts-kv.length|_=>0) ⟨_,none,none,none,none,U,s3,e3,k3,by simp⟩ ?_ ?_
 ·rintro σ O ⟨l,u1,u2,u3,u4,rfl,s4,ae,k4,c4⟩;refine⟨_,U,d,_,U,ae,_,U,a,_,U,s4 _ _ ha,by rw[gJ];lia,λx hx ay=>?_⟩;rw[eu D.tn hx ay,nc];exists _,_,U,U,_,rfl;by_cases ap:(l.length:Int)<=(Cb rs ts:Int)-1
  ·refine C4 ap ?_;exists _,U,b,_,U,s4 _ _ hb;refine ND (xs:=bs.map V.ref) (λi σ H5=>∃I u1 u2 u3 u4,σ=[some (.ref a),some (.ref b),some (.int (rs.length:Int)),some (.ref d),u1,u2,u3,u4]/\AM H H5/\H5 d=some (.dK (DQ I))/\CP H5 (Cb rs ts) (Ej ts (2*rs.length+2) p) Z N I/\BF rs ts (2*(rs.length:Int))∈I.map (·.1)/\l.length<=I.length /\
     (I.length=l.length->I=l/\∀j:Nat,j<i->(BF rs ts (2*(j:Int))∈l.map (·.1)↔BF rs ts (2*(j:Int)+1)∈l.map (·.1))))
    ⟨l,u1,u2,u3,u4,U,s4,ae,k4,c4,nG _,λ_=>⟨U,λj hj=>absurd hj (Nat.not_lt_zero _)⟩⟩ (λi σ H5 _ ⟨_,_,_,_,_,_,s5,_⟩=>s5 _ _ hb) ?_ ?_
   ·rintro i x σ H5 tp hx ⟨I,v1,v2,v3,v4,rfl,s5,af,k5,c5,ai,ah⟩ aw;obtain⟨c,q1,rfl,_,hy,hc⟩:=hB.ref hx;obtain⟨r,ag,rfl⟩:∃r,rs[i]?=some r/\Au Y r=q1:=by
     rw[nJ]at hy;cases e:rs[i]? with
     |none=>rw[e]at hy;cases hy
     |some r=>rw[e]at hy;exact⟨r,U,nV hy⟩
    have il:=(nj.mp ag).1;refine EK aw (.AG [.int (i:Int),.ref c]) λH6 s6 e6=>?_
    have aa:=s6 _ _ af;have k6:=k5.keep s6;have ab:=s5.trans s6;exists tp,_,U,AJ.of e6,U,_,_,U,_,_,U,rfl;refine⟨_,U,_,U,_,_,U,U,.inl ⟨by decide,by decide⟩,a,_,_,_,U,U,AJ.of (ab _ _ ha),QS (by lia),?_⟩;refine⟨_,U,_,U,_,_,U,U,.inl ⟨by decide,by decide⟩,_,_,U,U,a,_,_,_,U,U,AJ.of (ab _ _ ha),QV (by lia),?_⟩;obtain⟨av,au⟩:=D.step k6 ag;have am:=D.sf (D.wd.ru r (ny ag)) (by decide);have fc:=Ao ab (by exact hc);have kl:=k6.len;have a0:=D.le;have ak:(DQ I).length<og:=by rw[nc];exact DF (by lia)
    have g1:=DE.k (k:=oi (BF rs ts (2*(i:Int)+1))) aa;have g0:=DE.k (k:=oi (BF rs ts (2*(i:Int)))) aa;have ao:∀(h:BF rs ts (2*(i:Int))∈I.map (·.1)↔BF rs ts (2*(i:Int)+1)∈I.map (·.1)),I.length=l.length->I=l/\∀j:Nat,j<i+1->(BF rs ts (2*(j:Int))∈l.map (·.1)↔BF rs ts (2*(j:Int)+1)∈l.map (·.1)):=λh z=>by
     obtain⟨rfl,c2⟩:=ah z;refine⟨U,λj hj=>?_⟩;rcases oP j i with y|y
     ·exact c2 j y
     ·obtain rfl:j=i:=by lia
      exact h
    have aj:∀(e:Int) (t:Addr) (H8:Hp),e∉I.map (·.1)->AM H6 H8->CP H8 (Cb rs ts) (Ej ts (2*rs.length+2) p) Z N (I++[(e,t)])->∃ac w1 w2 w3 w4,[some (V.ref a),some (.ref b),some (.int (rs.length:Int)),some (.ref d),some (.int (i:Int)),some (.ref c),some (.int (BF rs ts (2*(i:Int)))),some (.int (BF rs ts (2*(i:Int)+1)))]=[some (.ref a),some (.ref b),some (.int (rs.length:Int)),some (.ref d),w1,w2,w3,w4] /\
      AM H (AF H8 d (.dK (B4 (DQ I) (oi e:Ai) (.ref t))))/\(AF H8 d (.dK (B4 (DQ I) (oi e:Ai) (.ref t)))) d=some (.dK (DQ ac))/\CP (AF H8 d (.dK (B4 (DQ I) (oi e:Ai) (.ref t)))) (Cb rs ts) (Ej ts (2*rs.length+2) p) Z N ac/\BF rs ts (2*(rs.length:Int))∈ac.map (·.1)/\l.length<=ac.length /\
      (ac.length=l.length->ac=l/\∀j:Nat,j<i+1->(BF rs ts (2*(j:Int))∈l.map (·.1)↔BF rs ts (2*(j:Int)+1)∈l.map (·.1))):=λe t H8 hn J k8=>by
     refine⟨I++[(e,t)],_,_,_,_,U,(ab.trans J).up hd _,by rw[AY,cY hn],k8.WU (J _ _ aa) _,by rw[nY];exact nM.mpr (.inl c5),by rw[nO];lia,λz=>?_⟩;rw[nO,pw]at z
     lia
    exists _,U,_,U,d,_,U,g1,_,rfl;by_cases h1:BF rs ts (2*(i:Int)+1)∈I.map (·.1)
    ·obtain⟨al,_,vl,fl,sl,ax⟩:=av h1;rw[vl];rw[vl]at g1;refine EV ?_;exists _,U,_,U,d,_,U,g0,_,rfl;by_cases h0:BF rs ts (2*(i:Int))∈I.map (·.1)
     ·obtain⟨ar,_,vr,fr,sr,aq⟩:=au h0;rw[vr];rw[vr]at g0;refine Cr ?_;refine⟨_,U,_,U,d,_,U,g0,_,U,EV ?_⟩;refine⟨_,U,_,U,d,_,U,g1,_,U,Cr ?_⟩;exact⟨I,_,_,_,_,U,ab,aa,k6,c5,ai,ao ⟨λ_=>h1,λ_=>h0⟩⟩
     ·rw[Jj h0];refine EV ?_;refine⟨_,U,_,U,d,_,U,g1,_,U,al,c,_,_,U,fl,fc,sl,am,λt ht=>?_⟩;have J:=Ae ht (.AG [.int (p (2*(i:Int)+1)+Au Y r).num,.int (p (2*(i:Int)+1)+Au Y r).den]);exact⟨_,U,_,U,d,_,U,Dw.k (k:=oi (BF rs ts (2*(i:Int)))) (J _ _ aa) ak,aj _ t _ h0 J (ax h0 t _ J AY)⟩
    ·rw[Jj h1];rw[Jj h1]at g1;refine Cr (Cr ?_);exists _,U,_,U,d,_,U,g0,_,rfl;by_cases h0:BF rs ts (2*(i:Int))∈I.map (·.1)
     ·obtain⟨ar,_,vr,fr,sr,aq⟩:=au h0;rw[vr];rw[vr]at g0;refine EV ?_;refine⟨_,U,_,U,d,_,U,g1,_,U,EV ?_⟩;refine⟨_,U,_,U,d,_,U,g0,_,U,ar,c,_,_,U,fr,fc,sr,am,λt ht=>?_⟩;have J:=Ae ht (.AG [.int (p (2*(i:Int))-Au Y r).num,.int (p (2*(i:Int))-Au Y r).den]);exact⟨_,U,_,U,d,_,U,Dw.k (k:=oi (BF rs ts (2*(i:Int)+1))) (J _ _ aa) ak,aj _ t _ h1 J (aq h1 t _ J AY)⟩
     ·rw[Jj h0];refine Cr (Cr ?_);exact⟨I,_,_,_,_,U,ab,aa,k6,c5,ai,ao ⟨λz=>absurd z h0,λz=>absurd z h1⟩⟩
   ·rintro σ H5 ⟨I,v1,v2,v3,v4,rfl,s5,af,k5,c5,ai,ah⟩;exists ⟨I,_,_,_,_,U,s5,af,k5,c5⟩;show(match H5 d with|some (.dK kv)=>Cb rs ts-kv.length|_=>0)<(match O d with|some (.dK kv)=>Cb rs ts-kv.length|_=>0);rw[af,ae];show Cb rs ts-(DQ I).length<Cb rs ts-(DQ l).length;rw[nc,nc];rcases oP l.length I.length with z|z
    ·lia
    ·obtain⟨rfl,c2⟩:=ah (by lia)
     have:=D.kq k5 c5 (λj hj=>c2 j (by rw[nc,lb];exact hj))
     lia
  ·refine DC ap ?_;exact⟨_,U,q d l O s4 ae k4 (by lia)⟩
 ·rintro σ O Q1 Q2 hq ⟨v,e,d',kv,z1,z2,v',e',a',ns,y1,y2,y3,z⟩;exact⟨v,e,d',kv,z1,z2,v',e',a',ns,y1,y2,y3,λm hm hl=>by
   obtain⟨i,j,e1,e2,b,eb,zz⟩:=z m hm hl;exact⟨i,j,e1,e2,b,eb,hq _ _ zz⟩⟩
theorem Te(X Y:Nat->Rat)(i:Nat):∀rs:List AK,Aj (λj=>X j-Y j) rs i=Aj X rs i-Aj Y rs i
 |[]=>by unfold Aj;simp;grind
 |r :: rs=>by
  have e:Ca (λj=>X j-Y j) i r=Ca X i r-Ca Y i r:=by
   unfold Ca Au;split<;>split<;>grind
  have:=Te X Y i rs
  unfold Aj at this ⊢;rw[nK,nK,nK,ow,ow,ow,this,e]
  grind
theorem P1(X:Nat->Rat)(c:Rat)(i:Nat):∀rs:List AK,Aj (λj=>X j*c) rs i=Aj X rs i*c
 |[]=>by unfold Aj;simp
 |r :: rs=>by
  have e:Ca (λj=>X j*c) i r=Ca X i r*c:=by
   unfold Ca Au;split<;>split<;>grind
  have:=P1 X c i rs
  unfold Aj at this ⊢;rw[nK,nK,ow,ow,this,e]
  grind
theorem Zt(k:CI n m α β rs)(F:Ep n B rs X)(J:Y 0=1)(O:Y 1=0)(yb:∀i,2<=i->i<n+2->Aj Y rs i=0):∀j,j<n+2->X j=Y j:=by
 have:=Mq (X:=λj=>X j-Y j) (λr I=>⟨(k.BH r I).1,(k.BH r I).2.1,k.pos r I⟩) k.Cs (by show X 0-Y 0=0;rw[F.x0,J];grind) (λi hi=>by
  match i,hi with
  |0,_=>left;show X 0-Y 0=0;rw[F.x0,J];grind
  |1,_=>left;show X 1-Y 1=0;rw[F.x1,O];grind
  |i+2,hi=>right;rw[Te,F.Ia (i+2) (by lia) hi,yb (i+2) (by lia) hi];grind)
 intro j hj
 have:=this j hj
 grind
structure Xj(n:Nat)(rs:List AK)(X:Nat->Rat)(F:Rat):Prop where
 hs:∀j,j<n+2->Sf (X j)
 ys:∀j,j<n+2->Sf (X j*F)
 fs:∀r∈rs,Sf (X r.1-X r.2.1)
 ds:∀r∈rs,Sf (X r.1*F-X r.2.1*F)
 es:∀r∈rs,Sf r.2.2
 rx:∀r∈rs,Sf (Au X r)
 sF:Sf F
theorem Ep.i5(k:CI n 14 10 10 rs)(h:Ep n ((8+10*14+10)*n) rs X)(hF:Sb 30 30 F):Xj n rs X F/\∃Z N,Xm rs (λj=>X j*F) Z N/\∀j,j<n+2->∃c:Int,(Z:Rat)*(X j*F)=c/\c.natAbs<=2 ^ 2224:=by
 obtain⟨Z,N,z⟩:=h.KR k;obtain⟨W,w0,wl,J⟩:=h.wh;have ae:=k.hb.Gj;have hB:(8+10*14+10)*n<=2054:=by lia
 generalize (8+10*14+10)*n=B at *;have hd:BR rs<=2 ^ 140:=k.den;have hp:=Fp rs;have aa:(F.den:Int)≠0:=by have:=F.den_nz;lia
 have O:((F.den:Int):Rat)*F=(F.num:Int):=by
  have d0:(F.den:Rat)≠0:=by have:=F.den_nz;exact_mod_cast this
  have e:F=(F.num:Rat) / (F.den:Rat):=(vL F).symm.trans (by rw[wo];rfl);rw[ic]
  conv=>lhs;rw[e]
  grind
 have fn:F.num.natAbs<=2 ^ 30:=hF.1;have fl:(F.den:Int).natAbs<=2 ^ 30:=by rw[oj];exact hF.2
 have wf:(W*(F.den:Int)).natAbs<=2 ^ (B+30):=by rw[oE];exact B5 wl fl
 have ac:∀r∈rs,∃c:Int,(W:Rat)*(X r.1-X r.2.1)=c/\c.natAbs<=2 ^ (B+1):=λr I=>by
  obtain⟨a1,a2,a3⟩:=k.BH r I;obtain⟨x,e1,l1⟩:=J _ a1;obtain⟨y,e2,l2⟩:=J _ a2;exists x-y,by rw[uf,<-e1,<-e2];grind
  have:=uI x y
  rw[r9];lia
 have ad:∀r∈rs,∃c:Int,((W*(BR rs:Int)*(F.den:Int):Int):Rat)*Au (λj=>X j*F) r=c/\c.natAbs<=2 ^ (140+10+(B+1)+30):=λr I=>by
  obtain⟨c,e,l⟩:=ac r I;obtain⟨v,hv⟩:=Nl (LL I);exists v*c*F.num,?_
  ·rw[oo,oo,oo,oo,<-hv,<-e,<-O,ic];unfold Au;grind
  ·have ab:Ab ((2 ^ 140:Nat):Rat) ((BR rs:Nat):Rat):=HH (x:=(BR rs:Int)) (by rw[oj];exact hd);have vb:=ab.D0 (k.BH r I).2.2.vb;rw[hv,<-Rat.natCast_mul,<-Nat.pow_add]at vb;rw[oE,oE];exact B5 (B5 (FQ vb) l) fn
 have w2:(2:Nat) ^ (B+30)<=2 ^ 3900:=oQ (by decide) (by lia);have fu:∀r∈rs,Uw (W*(F.den:Int)) (B+1+30) 1 (X r.1*F-X r.2.1*F):=λr I=>by
  obtain⟨c,e,l⟩:=ac r I;exact⟨c*F.num,by rw[oo,oo,<-e,<-O];grind,by rw[oE,sJ];exact B5 l fn⟩
 refine⟨⟨z.hs,λj hj=>?_,z.fs,λr I=>(fu r I).sf (qt w0 aa) (oa wf w2) (by decide) (by lia),z.es,λr I=>(z.ru r I).sf z.z0 z.zl (by decide) z.nl,hF.mono (by decide) (by decide)⟩,W*(BR rs:Int)*(F.den:Int),140+10+(B+1)+30,⟨qt (qt w0 (by lia)) aa,?_,by lia,λr I=>?_⟩,λj hj=>?_⟩
 ·obtain⟨c,e,l⟩:=J j hj;refine(Fo (W:=W*(F.den:Int)) (k:=c*F.num) (b:=B+30) (a:=B+30) (qt w0 aa) ?_ (by rw[oE];exact B5 l fn) wf).mono (by lia) (by lia);rw[oo,oo,<-e,<-O];grind
 ·rw[oE,oE,oj (BR rs)];exact oa (B5 (B5 wl hd) fl) (oQ (by decide) (by lia))
 ·obtain⟨c,e,l⟩:=ad r I;exact⟨c,e,by rw[sJ];exact l⟩
 ·obtain⟨c,e,l⟩:=J j hj;refine⟨c*(BR rs:Int)*F.num,by rw[oo,oo,oo,oo,<-e,<-O,ic];grind,?_⟩;rw[oE,oE,oj (BR rs)];exact oa (B5 (B5 l hd) fn) (oQ (by decide) (by lia))
theorem EI.k(k:EI (n+2) rs ts):CI n 14 10 10 rs:=by
 have:=k.mw
 refine⟨⟨by lia,by decide,by lia⟩,k.GB,λr F=>?_,λr F=>?_,k.Cs⟩
 ·obtain⟨⟨O,J,I⟩,h1,h2⟩:=k.RS r F;exact⟨h1,h2,by show r.2.2.num.natAbs<=2 ^ 10;lia,by show r.2.2.den<=2 ^ 10;lia⟩
 ·have:=(k.RS r F).1.pos
  rw[z9];simpa using this
def RJ(p:Int->Rat)(Y:Nat->Rat)(k:Nat)(r:AK):List Rat:=[Oz (p (2*(k:Int))) (p (2*(k:Int)+1)),Oz (Y r.1) (Y r.2.1),O0 (p (2*(k:Int))) (p (2*(k:Int)+1)),O0 (Y r.1) (Y r.2.1)]
def Kf(p:Int->Rat)(Y:Nat->Rat)(rs:List AK):List (List Rat):=rs.mapIdx λk r=>RJ p Y k r
theorem cU(h:rs[k]?=some r):(Kf p Y rs)[k]?=some (RJ p Y k r):=by
 unfold Kf;rw[List.getElem?_mapIdx,h];rfl
theorem Zi(p:Int->Rat)(Y:Nat->Rat)(rs:List AK):(Kf p Y rs).length=rs.length:=by unfold Kf;rw[List.length_mapIdx]
def jD(H:Hp)(a:Addr)(W U:Rat)(F:List (List Rat)):Prop:=∃p q r,H a=some (.AG [.ref p,.ref q,.ref r])/\AU H p W/\AU H q U/\A4 (A4 AU) H r F
structure mU(n:Nat)(rs:List AK)(ts:List (List Int))(X:Nat->Rat)(F:Rat)(p:Int->Rat)(Z:Int)(N:Nat):Prop where
 nk:CI n 14 10 10 rs
 hx:Ep n ((8+10*14+10)*n) rs X
 hf:Xj n rs X F
 ld:EM rs ts (λj=>X j*F) p Z N
theorem gR(h:H t=some (.AG [.ref c0,.ref c1,.ref c2,.ref c3]))(J:AU H c0 x0)(h1:AU H c1 x1)(h2:AU H c2 x2)(O:AU H c3 x3):A4 AU H t [x0,x1,x2,x3] :=
 ⟨[c0,c1,c2,c3],h,U,λi b x I F=>by
  match i,I,F with
  |0,I,F=>cases I;cases F;exact J
  |1,I,F=>cases I;cases F;exact h1
  |2,I,F=>cases I;cases F;exact h2
  |3,I,F=>cases I;cases F;exact O⟩
theorem jL(F:H l=some (.AE ys))(h:A4 AU H b r):A4 AU (AF H l o) b r:=by
 obtain⟨bs,h1,h2⟩:=h;exact⟨bs,by rw[As (λz=>by rw[z,F]at h1;cases h1)];exact h1,WC h2 F o⟩
theorem dO(F:H l=some (.AE ys))(h:At (A4 AU) H bs rr):At (A4 AU) (AF H l o) bs rr:=⟨h.1,λi b x J I=>jL F (h.2 i b x J I)⟩
theorem EM.Gf(D:EM rs ts Y p Z N)(k:CP H (Cb rs ts) (Ej ts (2*rs.length+2) p) Z N l)(I:Cb rs ts<=l.length)(hd:H d=some (.dK (DQ l)))(F:AH (2*rs.length+2) x):
  ∃a,DE H d (.int (BF rs ts x)) (some (.ref a))/\AU H a (p x)/\Sf (p x):=by
 obtain⟨a,h1,h2⟩:=NY (k.all I (D.in F));obtain⟨f1,f2⟩:=k.fr _ h1;dsimp only at f1 f2;rw[D.at F]at f1 f2;have g:=DE.k (k:=oi (BF rs ts x)) hd;rw[h2]at g
 have:=k.len
 have:=D.le
 exact⟨a,g,f1,D.sf f2 (by lia)⟩
variable {f6:Addr}{d6:qf}
inductive Vt(J:List V)(H:Hp)(Q:VK)(_:XK):Prop
 |mk (a b I ta:Addr) (n:Nat) (rs:List AK) (ts:List (List Int)) (F:Rat) (af:J=[.ref a,.ref b]) (ae:H a=some (.AG [.int ((n+2:Nat):Int),.ref I,.ref ta])) (aa:A4 Bj H I rs) (O:A4 ET H ta ts) (ab:AU H b F) (ac:CI n 14 10 10 rs)
  (ad:∀X,Ep n ((8+10*14+10)*n) rs X->∃p Z N,mU n rs ts X F p Z N/\∀q H',AM H H'->(∀x,AH (2*rs.length+2) x->Sf (p x))->jD H' q (p (2*(rs.length:Int)+1)) F (Kf p (λj=>X j*F) rs)->Q (.ref q) H')
theorem GV:Az ["net","fall","levels","lands","sides","rectangles","k","rope","across","upward","width"] ["net","fall"] (Ak s_laid):=A9
theorem kE:(["level","fall"]:List Str).Nodup:=by decide +kernel
set_option maxHeartbeats 4000000 in
seal L2.CU L2.PS L2.PE L2.PA in
theorem gL (F0:Aq K "laid" "laid" s_laid f fd)(G1:Ad P w K mg base 3 "times" ["one","other"] (Cg λx y=>x*y))
  (G2:Ad P w K mg base 5 "heights" ["net"] ON)
  (G3:Ad P w K mg base 4 "land_of" ["turns"] TX)
  (G4:Ad P w K mg base 4 "land_sides" ["lands","widths"] Us)
  (G5:Ad P w K mg base 5 "runnings_by" ["net","levels"] NP)
  (G6:Ad P w K mg base 2 "rising" ["one","other"] WO)(ml:mg "len" = none)(me:mg "enumerate" = none)(mt:mg "tuple" = none):Am P w K mg base Aw 6 f fd ["net","fall"] Vt:=by
 refine F0.BD GV λii A _ s H vs Q E hr h=>?_
 obtain⟨a,b,ra,ta,n,rs,ts,F,rfl,ha,b5,bl,hb,nk,qq⟩:=h;have hu:=IP hr;exists _,AN (Jk (i:=2) GV.nd rfl (p8 rfl) (Nc:=["level","fall"]) (cap:=[(1,1)]) (g:=BU 0) (te:=EA (Cg λx y=>x*y) [] E0 (BP (Al 0) (BP (Al 1) CH))) rfl (D9 (AZ G2 (AA (pv 0) AD)))
   Cn (λ_ _ _ _ _=>B9 (i:=0) kE rfl (p8 rfl))
   (λ_ _ _ _ _=>AZ G1 (AA (pv 0) (AA (pv 1) AD))))
  (AN (Aa 3 GV (AZ G3 (AA (pT (pv 0) AB) AD)))
  (AN (Aa 4 GV (AZ G4 (AA (pv 3) (AA (AZ G5 (AA (pv 0) (AA (pv 2) AD))) AD))))
  (AN (Aa 5 GV (DB AD))
  (AN (CS oB rfl (Nf (by rfl) me (AA (pT (pv 0) AB) AD)) (Dp (n:=2) rfl (Bf (BL 6 GV) (Bf (BL 7 GV) Dj)))
   (AN (Aa 8 GV (AZ G6 (AA (Hg hu (pv 4) (pT (pv 3) (AL Bv AB (pv 6)))) (AA (Hg hu (pv 4) (pT (pv 3) (AL BY (AL Bv AB (pv 6)) AB))) AD))))
   (AN (Aa 9 GV (AZ G6 (AA (pL (pv 2) (pT (pv 7) AB)) (AA (pL (pv 2) (pT (pv 7) AB)) AD))))
   (AX (Eb (Dn oO pK pM FG (pv 5) (AA (Bl (AA (pT (pv 8) AB) (AA (pT (pv 9) AB) (AA (pT (pv 8) AB) (AA (pT (pv 9) AB) AD))))) AD))))))
  )
  (AN (Aa 10 GV (Hg hu (pv 4) (pT (pv 3) (AL BY (AL Bv AB (C7 ml (pT (pv 0) AB))) AB))))
  (AX (Ar (Bl (AA (pv 10) (AA (pv 1) (AA (Kx mt (pv 5)) AD)))))))))))
  
 have b9:=nk.hb.Gj;obtain⟨cs,ap,ai⟩:=b5;have lc:cs.length=rs.length:=ai.1;refine⟨_,U,a,n,14,10,10,rs,U,⟨ra,_,ha,cs,ap,ai⟩,nk,λhp H1 X s1 hX hT=>?_⟩;obtain⟨p,Z,N,J,q⟩:=qq X hX;have D:=J.ld;have b6:=D.GB;obtain⟨bs,az,hB⟩:=hT;have lb:bs.length=n+2:=by rw[hB.1,nc,oX]
 refine⟨hp,U,⟨_,AJ.of az⟩,λad bi=>?_⟩;refine Cy (HG az) (by rw[nc];lia) bi (λi ys σ Hq=>∃ds:List Addr,ys=ds.map V.ref/\At AU Hq ds (((nz (n+2)).map λj=>X j*F).take i)/\∃u,σ=[u,some (.ref b)]) ⟨[],U,At.nil,none,U⟩ ?_ ?_
 ·rintro i ys σ H3 x H4 hi sm bb ⟨ds,rfl,hD,u,rfl⟩ ⟨rfl,hx⟩ Cc hC;obtain⟨c,xq,rfl,_,hy,hc⟩:=hB.ref hx;have aw:i<n+2:=by rw[nc,lb]at hi;exact hi
  rw[Jx X aw]at hy;cases hy;refine⟨_,U,_,U,c,b,_,_,U,sm _ _ hc,sm _ _ (s1 _ _ hb),J.hf.hs i aw,J.hf.sF,λt ht=>?_⟩;have st:=Ae ht (.AG [.int (X i*F).num,.int (X i*F).den]);refine hC _ _ _ st ⟨ds++[t],by simp,?_,_,U⟩;rw[C8 (Jx (λj=>X j*F) aw)];exact(hD.keep Ao (EO ad st)).snoc (AU.BW (q:=X i*F) AY (st _ _ bb))
 rintro ys σ H2 s2 bg b7 ⟨gs,rfl,hG,u,rfl⟩;rw[nc,lb,ou (by rw[nc,oX];exact nG _)]at hG;replace hG:=hG.keep Ao (D8 H2 ad);have af:=s1.trans s2;have a6:=J.nk.Bn;have a5:ED AU H2 ad ((nz (n+2)).map λj=>X j*F):=⟨gs,bg,hG⟩;obtain⟨tb,b2,a4⟩:=bl;refine⟨_,U,a,_,_,_,U,U,AJ.of (af _ _ ha),OU _ _ _,ta,tb,ts,2*rs.length+2,U,⟨af _ _ b2,a4.1,λi c row e1 e2=>af _ _ (a4.2 i c row e1 e2)⟩,D.tn,by lia,λlp H3 s3 nl ao=>?_⟩;rw[iz D.tn]at ao;have ag:=af.trans s3;refine⟨_,U,_,U,_,U,a,ad,n+2,rs,(λj=>X j*F),U,⟨ra,_,ag _ _ ha,cs,ag _ _ ap,ai.keep Dl ag⟩,Wk s3 (.l a5),by lia,λr hr=>?_,λwp H4 s4 b3=>?_⟩
 ·obtain⟨r1,r2⟩:=a6 r hr;exact⟨r1,r2,J.hf.ys _ r1,J.hf.ys _ r2,J.hf.ds r hr,J.hf.es r hr⟩
 refine⟨lp,wp,rs,ts,_,p,Z,N,U,s4 _ _ ao,b3,D,λd l H5 s5 am aj ak=>?_⟩;have aq:=s4.trans s5;have ae:=ag.trans aq;have ax:=aq _ _ ao;have bt:=OA (R:=AU) (λs h=>Ao s h) (s3.trans aq) a5;obtain⟨b8,a8,a0⟩:=bt;have a9:=ae _ _ ha;have ay:=ae _ _ ap;have bd:=ai.keep Dl ae;have bj:=ae _ _ hb;refine⟨by exact Gs,λR hR=>?_⟩;refine EK hR (.AE []) λH6 s6 zz=>?_
 have e6:H6 R=some (.AE (([]:List Addr).map V.ref)):=zz;exists _,U,a,_,_,_,U,U,AJ.of (s6 _ _ a9),EW _ _ _,ra,_,U,s6 _ _ ay;refine ND (xs:=cs.map V.ref) (λi σ H7=>∃u6 u7 u8 u9 ds,σ=[some (.ref a),some (.ref b),some (.ref ad),some (.ref lp),some (.ref d),some (.ref R),u6,u7,u8,u9,none]/\AM H5 H7/\H7 R=some (.AE (ds.map V.ref))/\At (A4 AU) H7 ds ((Kf p (λj=>X j*F) rs).take i))
  ⟨none,none,none,none,[],U,s6,e6,At.nil⟩ (λi σ H7 _ ⟨_,_,_,_,_,_,I,_⟩=>I _ _ ay) ?_ ?_
 ·rintro i x σ H7 tp hx ⟨u6,u7,u8,u9,ds,rfl,I,eR,hD⟩ bq;obtain⟨c,r,rfl,_,hy,e,hc,he⟩:=bd.ref hx;have il:=(nj.mp hy).1;obtain⟨r1,r2⟩:=a6 r (ny hy);refine EK bq (.AG [.int (i:Int),.ref c]) λH8 s8 e8=>?_
  have aa:=I.trans s8;have bo:=s8 _ _ eR;have br:=hD.keep (λs h=>ES (R:=AU) (λs h=>Ao s h) s h) s8;have i0:AH (2*rs.length+2) (2*(i:Int)):=⟨by lia,by push_cast;lia⟩;have i1:AH (2*rs.length+2) (2*(i:Int)+1):=⟨by lia,by push_cast;lia⟩;obtain⟨ar,gr,fr,sr⟩:=D.Gf (aj.keep aa) ak (aa _ _ am) i0;obtain⟨al,gl,fl,sl⟩:=D.Gf (aj.keep aa) ak (aa _ _ am) i1;exists tp,_,U,AJ.of e8,U,_,_,U,_,_,U,rfl;refine⟨_,U,_,U,_,U,_,_,U,U,.inl ⟨by decide,by decide⟩,lp,_,_,_,U,U,AJ.of (aa _ _ ax),QS (by lia),d,_,U,gr,
   _,U,_,U,_,U,_,_,U,U,.inl ⟨by decide,by decide⟩,_,_,U,U,lp,_,_,_,U,U,AJ.of (aa _ _ ax),QV (by lia),d,_,U,gl,ar,al,_,_,U,fr,fl,sr,sl,λac c0 c2 bc h0 h2=>?_⟩
  refine EK bc (.AG [.ref c0,.ref c2]) λH9 s9 e9=>?_
  have ab:=aa.trans s9;have ba:=s9 _ _ bo;have bw:=Ao s9 h0;have bu:=Ao s9 h2;have bm:=br.keep (λs h=>ES (R:=AU) (λs h=>Ao s h) s h) s9;obtain⟨x1,g1,y1⟩:=a0.BZ (Jx (λj=>X j*F) r1);obtain⟨x2,g2,y2⟩:=a0.BZ (Jx (λj=>X j*F) r2);refine⟨_,U,_,U,c,_,_,_,U,U,AJ.of (ab _ _ hc),Fb _ _ _,ad,_,_,_,U,U,AR.of (ab _ _ a8),Be (CW g1),_,U,_,U,c,_,_,_,U,U,AJ.of (ab _ _ hc),EW _ _ _,ad,_,_,_,U,U,AR.of (ab _ _ a8),Be (CW g2),
   x1,x2,_,_,U,Ao ab y1,Ao ab y2,J.hf.ys _ r1,J.hf.ys _ r2,λup c1 c3 bp h1 h3=>?_⟩
  refine EK bp (.AG [.ref c1,.ref c3]) λHA O eA=>?_
  have bh:=ab.trans O;have a1:=O _ _ ba;have bv:=Ao O bw;have b4:=Ao O bu;have b0:=Ao O h1;have be:=Ao O h3;have a2:=O _ _ e9;have bf:=bm.keep (λs h=>ES (R:=AU) (λs h=>Ao s h) s h) O;refine⟨_,U,.inl ⟨U,_,AR.of a1⟩,_,U,ac,_,_,_,U,U,AJ.of a2,BC,_,U,up,_,_,_,U,U,AJ.of eA,BC,_,U,ac,_,_,_,U,U,AJ.of a2,Ay,_,U,up,_,_,_,U,U,AJ.of eA,Ay,by exact m4,λbx bz=>?_⟩;have sB:=Ae bz (.AG [.ref c0,.ref c1,.ref c2,.ref c3]);have tB:A4 AU (AF HA bx (.AG [.ref c0,.ref c1,.ref c2,.ref c3])) bx (RJ p (λj=>X j*F) i r):=gR AY (Ao sB bv) (Ao sB b0) (Ao sB b4) (Ao sB be);have a3:=bh.trans sB;have av:=sB _ _ a1;have au:=bf.keep (λs h=>ES (R:=AU) (λs h=>Ao s h) s h) sB;generalize AF HA bx (.AG [.ref c0,.ref c1,.ref c2,.ref c3])=HB at sB tB a3 av au;refine⟨R,_,_,U,U,av,by rw[nc,au.1,pB];exact DF (by lia),?_⟩;refine⟨_,_,_,_,ds++[bx],U,a3.up hR _,by rw[AY];simp,?_⟩;rw[C8 (cU hy)];exact dO av (au.snoc tB)
 ·rintro σ H7 ⟨u6,u7,u8,u9,ds,rfl,I,eR,hD⟩;rw[nc,lc,ou (by rw[Zi];exact nG _)]at hD;have io:AH (2*rs.length+2) (2*(rs.length:Int)+1):=⟨by lia,by push_cast;lia⟩;obtain⟨wa,gw,fw,sw⟩:=D.Gf (aj.keep I) ak (I _ _ am) io;exists _,U,_,U,_,U,a,_,_,_,U,U,AJ.of (I _ _ a9),EW _ _ _,ra,_,U,.inr (AJ.of (I _ _ ay));rw[nc,lc];refine⟨_,_,U,U,.inl ⟨by decide,by decide⟩,_,_,U,U,lp,_,_,_,U,U,AJ.of (I _ _ ax),QV (nG _),d,_,U,gw,?_⟩;refine⟨_,U,_,U,_,U,R,_,U,.inl ⟨AR.of eR,λrc bn=>⟨by exact Hh,λq1 a7=>?_⟩⟩⟩;obtain⟨H8,zg,s8,e8⟩:=nw bn (.AG (ds.map V.ref));rw[zg]at a7 ⊢;have s9:=Ae a7 (.AG [.ref wa,.ref b,.ref rc]);have ah:=s8.trans s9;exact q q1 _ ((ae.trans I).trans ah) (λx hx=>by obtain⟨_,_,_,z⟩:=D.Gf (aj.keep I) ak (I _ _ am) hx;exact z) ⟨wa,b,rc,AY,Ao ah fw,ah _ _ (I _ _ bj),ds,s9 _ _ e8,hD.keep (λs h=>ES (R:=AU) (λs h=>Ao s h) s h) ah⟩
theorem OB:∀{S:List AK},(∀r∈S,0<=r.2.2)->0<=BX S
 |[],_=>by show(0:Rat)<=1;decide
 |r :: S,h=>qG (h r (by simp)) (OB λx F=>h x (by simp[F]))
theorem dB(h:∀r∈rs,0<r.2.2):0<=A3 s t rs:=by
 rw[Pk];generalize (Bz rs.length s).filter (λrow=>t (A2 rs row))=F
 induction F with
 |nil=>rw[LP];exact zq
 |cons row F ih =>
  rw[G0]
  have:0<=BX (A2 rs row):=OB λr I=>by
   obtain⟨k,_,rfl⟩:=nS.mp I;rw[nq];cases e:rs[k]? with
   |none=>exact zq
   |some r=>exact Rat.le_of_lt (h r (ny e))
  grind
theorem cK(k:CI n 14 10 10 rs)(x0:X 0=1)(O:X 1=0)(aa:∀i,2<=i->i<n+2->Aj X rs i=0):Aj X rs 0*A3 n (CC (n+2)) rs=A3 (n+1) (Cq (n+2)) rs/\0<A3 n (CC (n+2)) rs:=by
 have I:∀r∈rs,r.1<n+2/\r.2.1<n+2/\0<r.2.2:=λr F=>⟨(k.BH r F).1,(k.BH r F).2.1,k.pos r F⟩
 have e:=(Xq I k.Cs x0 O aa).2;have t:=U0 I k.Cs;rw[NV k.Bn,<-e]at t;have J:=dB (s:=n) (t:=CC (n+2)) k.pos;exists e;rcases Rat.le_iff_lt_or_eq.mp J with h|h
 ·exact h
 ·exact absurd (by rw[<-h];grind) t
theorem Vf(k:CI n 14 10 10 rs):Sf (A3 s t rs):=(gN (m:=14) (λr F=>(k.BH r F).2.2) k.len).mono (by lia) (by lia)
theorem SY{t:List AK->Bool}(I:rs.length<=9)(hs:s<=9):(∀r∈(Bz rs.length s).filter λrow=>t (A2 rs row),r.length<=9/\(∀x∈r,x<rs.length)/\(A2 rs r).Sublist rs)/\((Bz rs.length s).filter λrow=>t (A2 rs row)).length<=126:=by
 refine⟨λr F=>?_,oa (List.length_filter_le ..) (P2 _ (by lia) s (by lia))⟩;have h:=(ub.mp F).1;obtain⟨l,b⟩:=NC h;exact⟨by lia,b,(Sa h).trans (we _ _)⟩
def OQ(K:nI):Sp:=λI H Q _=>∃(a:Addr) (F:List Int),I=[.ref a]/\AR K H a (F.map V.int)/\F.length<=63/\∀H',Q (.bl true) H'
theorem II:Az ["_law_script","_law_net_here","_law_ease_here","_law_tree","_law_half","_law_cell_here","_law_fall","_law_floor"] ["_law_script"] (Ak sLaw):=A9
set_option maxHeartbeats 4000000 in
seal L2.CU L2.PS L2.PE L2.PA in
theorem iA (F0:Aq K "law" "law" sLaw f fd)(G1:Ad P w K mg base 5 "_law_some_net" ["_law_script","_law_at","_law_sizes"] (Vj K))
  (G2:Ad P w K mg base 7 "ease_of" ["net"] Tr)
  (G3:Ad P w K mg base 5 "tree_sum" ["net"] Vg)
  (G4:Ad P w K mg base 5 "half_sum" ["net"] VN)
  (G5:Ad P w K mg base 3 "_law_fractions" ["_law_found","_law_many"] UE)
  (G6:Ad P w K mg base 2 "_law_mul" ["_law_one","_law_other"] (Cg λx y=>x*y))
  (G7:Ad P w K mg base 4 "_law_sum" ["_law_net_here","_law_sets"] Vd)
  (G8:Ad P w K mg base 4 "trees" ["net"] (NW 1 Cq))
  (G9:Ad P w K mg base 4 "halves" ["net"] (NW 2 CC))
  (bo:Ad P w K mg base 1 "_law_cell" ["_law_script","_law_k"] (Nv K))
  (bx:Ad P w K mg base 1 "_law_low" ["_law_top","_law_bottom"] KS)
  (bw:Ad P w K mg base 6 "laid" ["net","fall"] Vt)
  (br:Ad P w K mg base 6 "lost" ["net","levels"] VQ)
  (bm:Ad P w K mg base 5 "heights" ["net"] ON)(ml:mg "len" = none)(ms:mg "isinstance" = none)(mt:mg "tuple" = none) :
  Am P w K mg base Aw 8 f fd ["_law_script"] (OQ K):=by
 refine F0.ok II (λvs H Q E h=>?_) (λii A _ s H vs Q E hr h=>?_)
 ·obtain⟨a,ns,rfl,_⟩:=h;rfl
 obtain⟨a,ns,rfl,hS,hn,q⟩:=h;have hu:=hr.units;exists _,AN (Aa 1 II (AZ G1 (AA (pv 0) (AA AB (AA (DB (AA AB (AA AB (AA AB (AA AB (AA AB (AA AB (AA AB AD)))))))) AD)))))
  (AN (Aa 2 II (AZ G2 (AA (pv 1) AD)))
  (AN (Aa 3 II (AZ G3 (AA (pv 1) AD)))
  (AN (Aa 4 II (AZ G4 (AA (pv 1) AD)))
  (AN (Bq (PW.pt (Fx (JH (HJ (AZ G5 (AA (Bl (AA (pv 2) (AA (pv 3) (AA (pv 4) AD)))) (AA AB AD)))))
   (Fx (Bb Wn (pT (pv 4) AB) AB)
   (JE (Bb (LA hu) (AZ G6 (AA (pv 2) (AA (pv 4) AD))) (pv 3)))))) Mj By)
  (AN (Bq (Bb JT (C7 ml (pT (pv 1) AB)) AB)
   (AX (Bq (PW.pt (Fx (Bb (LA hu) (AZ G7 (AA (pv 1) (AA (AZ G8 (AA (pv 1) AD)) AD))) (pv 3))
    (JE (Bb (LA hu) (AZ G7 (AA (pv 1) (AA (AZ G9 (AA (pv 1) AD)) AD))) (pv 4))))) Mj By)) By)
  (AN (Aa 5 II (AZ bo (AA (pv 0) (AA AB AD))))
  (AN (Aa 6 II (AZ bx (AA (AL BY AB (AL Ce (pv 5) AB)) (AA (AL BY AB (AL Ce (AL Bv (pv 5) AB) AB)) AD))))
  (AN (Aa 7 II (AZ bw (AA (pv 1) (AA (pv 6) AD))))
  (AN (Bq (PW.pt (Fx (JH (HJ (CV (LR (c:=.ty "tuple") (cv:=.type "tuple") λ_ z=>z) (by rfl) ms K6 (AA (pv 7) (AA (LX (v:=.ty "tuple") (by rfl) mt Et rfl) AD)))))
   (Fx (Bb HP (C7 ml (pv 7)) AB)
   (JE (JH (HJ (AZ G5 (AA (Eu Ik (pv 7) FO (Ea AB)) (AA AB AD))))))))) Mj By)
  (AN (Bq (PW.pt (Fx (Bb (LA hu) (pT (pv 7) AB) (pv 6)) (JE (Bb (LA hu) (pT (pv 7) AB) (AZ G6 (AA (pv 2) (AA (pv 6) AD))))))) Mj By)
  (AX (Ar (K3 (Sh hu) (AZ br (AA (pv 1) (AA (AZ bm (AA (pv 1) AD)) AD))) (pv 2))))))))))))))
 refine⟨_,rfl,by exact mv,λl hl=>?_⟩;have sl:=Ae hl (.AE [.int 3,.int 4,.int 5,.int 6,.int 7,.int 7,.int 8]);refine⟨a,l,ns,[3,4,5,6,7,7,8],9,1,rfl,by decide,⟨sl.seq hS,hn⟩,AY,by decide,by decide,by decide,by decide,λp H1 n' ra ta rs us s1 hp hR hT N D m9 b3=>?_⟩;replace hS:=(sl.trans s1).seq hS;clear s1 sl hl;obtain⟨n,rfl⟩:∃n,n'=n+2:=⟨n' - 2,by have:=N.n2;lia⟩;have F:=N.k;have NQ:=N.q D;have ss:∀r∈rs,Sb 10 10 r.2.2:=λr hr=>(F.BH r hr).2.2
 have hN:EJ H1 p (n+2) rs:=⟨ra,.ref ta,hp,hR⟩;have J:Oj (n+2) rs.length rs:=⟨by lia,by lia,rfl,F.Bn⟩;have S:F6 n rs:=⟨by lia,by lia,λr hr=>⟨(F.BH r hr).1,(F.BH r hr).2.1,(ss r hr).mono (by lia) (by lia)⟩⟩;refine⟨_,rfl,p,n,14,10,10,rs,rfl,hN,F,λpe H2 X s2 hX hE=>?_⟩;obtain⟨Z,M,z⟩:=hX.KR F;obtain⟨bi,ax⟩:=cK F hX.x0 hX.x1 hX.Ia;have sE:Sf (Aj X rs 0):=by
  have us:=z.sum 0 rs.length (nG _);rw[oW]at us;exact us.sf z.z0 z.zl (by lia) z.nl
 have sH:=Vf (s:=n) (t:=CC (n+2)) F;have sT:=Vf (s:=n+1) (t:=Cq (n+2)) F;refine⟨_,rfl,p,n,rs,rfl,FR s2 hN,S,λpt H3 s3 bd=>?_⟩;refine⟨_,rfl,p,n,rs,rfl,FR (s2.trans s3) hN,S,λph H4 s4 aq=>?_⟩;have au:=Ao s4 bd;have am:=Ao (s3.trans s4) hE;have ad:=s2.trans (s3.trans s4);refine⟨_,rfl,_,rfl,_,rfl,by exact Hh,λp5 a3=>?_⟩;obtain⟨H5,zg,s5,e5⟩:=nw a3 (.AG ([pe,pt,ph].map V.ref));rw[show AF H4 p5 (.AG [.ref pe,.ref pt,.ref ph])=H5 from zg];have a5:At AU H5 [pe,pt,ph] [Aj X rs 0,A3 (n+1) (Cq (n+2)) rs,A3 n (CC (n+2)) rs]:=((At.nil.snoc (R:=AU) (b:=pe) (Ao s5 am)).snoc (b:=pt) (Ao s5 au)).snoc (b:=ph) (Ao s5 aq);refine⟨p5,_,3,rfl,⟨_,e5,a5⟩,rfl,by show 3<=1000;decide,λx hx=>?_,λH6 s6=>⟨_,rfl,Cr ?_⟩⟩
 ·simp only[nZ,pD,qV]at hx;rcases hx with rfl|rfl|rfl
  ·exact sE.d
  ·exact sT.d
  ·exact sH.d
 have af:=s5.trans s6;have aa:=Ao af am;have ac:=Ao af au;have ab:=Ao af aq;have I:=ad.trans af;clear s2 s3 s4 s5 s6 af ad hE am bd au aq e5 a5 a3;have np:0<(A3 n (CC (n+2)) rs).num:=by rw[z9]at ax;simpa using ax
 refine⟨_,rfl,ph,_,_,_,rfl,rfl,AJ.of ab,BC,_,_,rfl,rfl,_,rfl,DC (by lia) ?_⟩;refine⟨_,rfl,_,rfl,pe,ph,_,_,rfl,aa,ab,sE,sH,λp7 a8=>?_⟩
 (try dsimp only)
 rw[bi];obtain⟨W,hW⟩:∃W,W=A3 (n+1) (Cq (n+2)) rs:=⟨_,rfl⟩;obtain⟨U,hU⟩:∃U,U=A3 n (CC (n+2)) rs:=⟨_,rfl⟩;rw[<-hW]at ac ⊢;rw[<-hU]at ab;obtain⟨H7,zg,s7,zz⟩:=nw a8 (.AG [.int W.num,.int W.den]);rw[zg];have e7:H7 p7=some (.AG ([W.num,(W.den:Int)].map V.int)):=zz;refine⟨_,rfl,p7,pt,_,[W.num,(W.den:Int)],rfl,rfl,e7,Ao s7 ac,_,rfl,E3 rfl ?_⟩;replace aa:=Ao s7 aa;replace ac:=Ao s7 ac;replace ab:=Ao s7 ab;replace I:=I.trans s7;clear zz zg e7 s7 a8;obtain⟨cs,b0,hC⟩:=id hR;have lc:cs.length=rs.length:=hC.1;refine⟨_,rfl,p,_,_,_,rfl,rfl,AJ.of (I _ _ hp),EW _ _ _,ra,_,rfl,.inr (AJ.of (I _ _ b0)),_,_,rfl,rfl,_,rfl,C4 (by rw[nc,lc];lia) ?_⟩;obtain⟨r1,r2⟩:=SY (s:=n+1) (t:=Cq (n+2)) m9 (by lia);obtain⟨r3,r4⟩:=SY (s:=n) (t:=CC (n+2)) m9 (by lia);refine⟨_,rfl,_,rfl,p,n+2,rs.length,rs,rfl,FR I hN,J,m9,λpl H8 s8 az=>?_⟩;refine⟨p,pl,n+2,rs,_,rfl,FR (I.trans s8) hN,ss,m9,az,r1,r2,λp9 H9 s9 ag=>?_⟩;have ah:=s8.trans s9;replace ag:AU H9 p9 W:=by
  rw[hW,Pk];exact ag
 refine⟨_,rfl,p9,pt,[W.num,(W.den:Int)],[W.num,(W.den:Int)],rfl,rfl,ag,Ao ah ac,_,rfl,E3 rfl ?_⟩;have ao:=I.trans ah;refine⟨_,rfl,_,rfl,p,n+2,rs.length,rs,rfl,FR ao hN,J,m9,λbt Ha sa a4=>?_⟩;refine⟨p,bt,n+2,rs,_,rfl,FR (ao.trans sa) hN,ss,m9,a4,r3,r4,λpa Hb sb ak=>?_⟩;have aj:=ah.trans (sa.trans sb);replace ak:AU Hb pa U:=by
  rw[hU,Pk];exact ak
 refine⟨_,rfl,pa,ph,[U.num,(U.den:Int)],[U.num,(U.den:Int)],rfl,rfl,ak,Ao aj ab,_,rfl,E3 rfl ?_⟩;replace aa:=Ao aj aa;replace I:=I.trans aj;clear ac ab ag ak az a4 ah ao aj s8 s9 sa sb;refine⟨_,rfl,a,ns,0,rfl,⟨I.seq hS,hn⟩,by decide,by decide,λzc=>?_⟩;refine⟨_,rfl,_,_,rfl,rfl,(show(0:Int)<999999999 by decide),_,_,rfl,rfl,_,rfl,_,_,rfl,rfl,.inr ⟨by decide,by decide⟩,_,_,rfl,rfl,(show(0:Int)<99991 by decide),_,_,rfl,rfl,?_⟩;have z1:=pS zc (show(999999999:Int)≠0 by decide);have z2:=pH zc (show(0:Int)<999999999 by decide);have z3:=pS (zc*48271) (show(99991:Int)≠0 by decide);have z4:=pH (zc*48271) (show(0:Int)<99991 by decide);refine⟨_,_,rfl,by lia,EE (n:=17) (by lia) (by decide),λpf bf=>?_⟩;have sF:=iF (t:=1+zc%999999999) (b:=1+zc*48271%99991) (n:=30) (d:=30) (by lia) (by lia) (by lia)
 (try dsimp only)
 generalize (((1+zc%999999999:Int):Rat) / ((1+zc*48271%99991:Int):Rat))=O at sF;obtain⟨bz,zg,ar,zz⟩:=nw bf (.AG [.int O.num,.int O.den]);rw[zg];have hF:AU bz pf O:=zz;replace aa:=Ao ar aa;replace I:=I.trans ar;clear zz zg ar bf;refine⟨_,rfl,_,rfl,p,pf,ra,ta,n,rs,us,O,rfl,I _ _ hp,ES (R:=Bj) (λs h=>Dl s h) I hR,ES (R:=ET) (λs h=>NM s h) I hT,hF,F,λX2 ai=>?_⟩;obtain⟨hf,Z2,M2,wd,_⟩:=ai.i5 F sF;obtain⟨al,ay⟩:=iQ (Y:=λj=>X2 j*O) N NQ.md (λi h2 hi=>by rw[P1,ai.Ia i h2 hi];grind);refine⟨al,Z2,M2,⟨F,ai,hf,by lia,NQ.tn,NQ.Q4,ay,wd⟩,λfq b6 av bq a7=>?_⟩;have ba:∀{Y:Nat->Rat} {B:Nat},Ep n B rs Y->Aj Y rs 0=Aj X rs 0:=λ{Y B} hY=>(SO F.Bn (Zt F hX hY.x0 hY.x1 hY.Ia) 0).symm
 have eW:Aj X rs 0*O=al (2*(rs.length:Int)+1):=by
  have:=bA N ay (i:=0) (by lia)
  rwa [P1,nF rfl,ba ai]at this
 have sP:Sf (al (2*(rs.length:Int)+1)):=bq _ ⟨by lia,by push_cast;lia⟩;generalize al (2*(rs.length:Int)+1)=Wq at a7 eW sP;obtain⟨wa,ua,rc,hq,bc,a6,_⟩:=id a7;have aw:Sf O:=sF.mono (by lia) (by lia);refine⟨_,rfl,_,_,_,rfl,Df.AG hq,NL K _,_,rfl,Cr ?_⟩;refine⟨_,rfl,fq,_,rfl,.inr (AJ.of hq),rfl,_,rfl,E3 rfl ?_⟩;refine⟨_,rfl,2,rfl,fq,_,rfl,AJ.of hq,λz=>?_,λp1 bl=>?_⟩
 ·have:=z.2
  rw[js (by show 2<=3;decide)]at this;cases this
 rw[show De [L2.V.ref wa,.ref ua,.ref rc] none (some 2)=[wa,ua].map V.ref by rw[show(some (2:Int))=some ((2:Nat):Int) from rfl,NF _ (by show 2<=3;decide)];rfl];obtain⟨bh,zg,ap,bg⟩:=nw bl (.AG ([wa,ua].map V.ref));rw[zg];have a1:At AU bh [wa,ua] [Wq,O]:=(At.nil.snoc (R:=AU) (b:=wa) (Ao ap bc)).snoc (b:=ua) (Ao ap a6);refine⟨p1,_,2,rfl,⟨_,bg,a1⟩,rfl,by show 2<=1000;decide,λx hx=>?_,λb4 bu=>⟨_,rfl,Cr ?_⟩⟩
 ·simp only[nZ,pD,qV]at hx;rcases hx with rfl|rfl
  ·exact sP.d
  ·exact aw.d
 have sc:=ap.trans bu;have be:=sc _ _ hq;have a0:=Ao (av.trans sc) hF;have a2:=Ao (av.trans sc) aa;refine⟨_,rfl,fq,_,_,_,rfl,rfl,AJ.of be,EW _ _ _,_,rfl,ua,pf,[O.num,(O.den:Int)],[O.num,(O.den:Int)],rfl,rfl,Ao sc a6,a0,_,rfl,E3 rfl ?_⟩;refine⟨_,rfl,fq,_,_,_,rfl,rfl,AJ.of be,Fb _ _ _,_,rfl,_,rfl,pe,pf,_,_,rfl,a2,a0,sE,aw,λpm bn=>?_⟩
 (try dsimp only)
 rw[eW];obtain⟨bp,zg,ad,zz⟩:=nw bn (.AG [.int Wq.num,.int Wq.den]);rw[zg];have hV:bp pm=some (.AG ([Wq.num,(Wq.den:Int)].map L2.V.int)):=zz;refine⟨wa,pm,[Wq.num,(Wq.den:Int)],[Wq.num,(Wq.den:Int)],rfl,rfl,Ao (sc.trans ad) bc,hV,_,rfl,E3 rfl ?_⟩;have a9:=I.trans (av.trans (sc.trans ad));refine⟨_,rfl,_,rfl,p,n,14,10,10,rs,rfl,FR a9 hN,F,λpq b2 X3 bb ae bv=>?_⟩;obtain⟨W3,lv⟩:=ae.lv;obtain⟨Z3,N3,ls⟩:=lv.KR F (by lia);refine⟨p,pq,n,rs,X3,Z3,N3,rfl,FR (a9.trans bb) hN,bv,by lia,F.Bn,ls,λpr b5 bj hL=>?_⟩;rw[cM F.Bn ae.x0 ae.x1 ae.Ia,ba ae]at hL;exists _,rfl,pr,pe,[(Aj X rs 0).num,((Aj X rs 0).den:Int)],[(Aj X rs 0).num,((Aj X rs 0).den:Int)],rfl,rfl,hL,Ao (ad.trans (bb.trans bj)) a2;rw[qm rfl];exact q _
end
end My
namespace My
open PySem L2 Mth
variable {mg:Str->Option Value}
section
variable {K:nI}{x qn:Str}{st:Stmt}{f C:Addr}{oc kV doc pm ii ct:Value}{od an:Option Addr}{osl:Array (Option Value)}{fd:qf}{ps:List Str}
structure Dq(K:nI)(x:Str)(st:Stmt)(ps:List Str)(f:Addr)(fd:qf):Prop where
 F:Aq K x x st f fd
 b:EU K fd ps []
 a:yJ K qE x=some (some (.ref f))
theorem Dq.all(d:Dq K x st ps f fd)(X:K.In h)(G:h.Ns qE mg):Aq K x x st f fd/\EU K fd ps []/\tL K (.ref f)=true/\mg x=some (.ref f):=⟨d.F,d.b,d.F.kp,xY X G d.a⟩
theorem Dq.BA(d:Dq K x st ps f fd)(l:vd)(w:World)(base:Heap)(X:K.In h)(G:h.Ns qE mg)(o:Aq K x x st f fd->Am l.prog w K mg base Aw k f fd ps sp):Ad l.prog w K mg base k x ps sp:=⟨f,fd,o d.F,d.b,d.F.kp,xY X G d.a⟩
theorem dq (a:yJ K qE x=some (some (.ref f)))(l:K.lookup f=some ⟨oc,od,.func (qU x x (GP st) (FJ st) (Ak st) .none kV doc pm an ii ct),osl⟩)(c:vx K ii x=true)(k:tL K (.ref f)=true)
  (b:∀{fd},Aq K x x st f fd->EU K fd ps []):Dq K x st ps f (qU x x (GP st) (FJ st) (Ak st) .none kV doc pm an ii ct):=⟨V6 l c k,b (V6 l c k),a⟩
theorem bn1(st:Stmt)(x qn:Str){J:Str}(h:∀(kV doc pm:Value) (an:Option Addr) (ii ct I:Value),wN (qU x qn (GP st) (FJ st) (Ak st) .none kV doc pm an ii ct) ⟨[I],[]⟩=pure [(J,I)]:=by intros;rfl)(F:Aq K x qn st f fd):EU K fd [J] []:=F.OJ λkV doc pm an ii ct us O=>by
 match us,O with
 |[I],_=>exact h kV doc pm an ii ct I
theorem bn2(st:Stmt)(x qn:Str){p0 O:Str}(h:∀(kV doc pm:Value) (an:Option Addr) (ii ct J I:Value),wN (qU x qn (GP st) (FJ st) (Ak st) .none kV doc pm an ii ct) ⟨[J,I],[]⟩=pure [(p0,J),(O,I)]:=by intros;rfl)(F:Aq K x qn st f fd):EU K fd [p0,O] []:=F.OJ λkV doc pm an ii ct us hl=>by
 match us,hl with
 |[J,I],_=>exact h kV doc pm an ii ct J I
theorem bn3(st:Stmt)(x qn:Str){p0 p1 p2:Str}(h:∀(kV doc pm:Value) (an:Option Addr) (ii ct J O I:Value),wN (qU x qn (GP st) (FJ st) (Ak st) .none kV doc pm an ii ct) ⟨[J,O,I],[]⟩=pure [(p0,J),(p1,O),(p2,I)]:=by intros;rfl)(F:Aq K x qn st f fd):EU K fd [p0,p1,p2] []:=F.OJ λkV doc pm an ii ct us hl=>by
 match us,hl with
 |[J,O,I],_=>exact h kV doc pm an ii ct J O I
theorem bn4(st:Stmt)(x qn:Str){p0 p1 p2 p3:Str}(h:∀(kV doc pm:Value) (an:Option Addr) (ii ct O a1 I J:Value),wN (qU x qn (GP st) (FJ st) (Ak st) .none kV doc pm an ii ct) ⟨[O,a1,I,J],[]⟩=pure [(p0,O),(p1,a1),(p2,I),(p3,J)]:=by intros;rfl)(F:Aq K x qn st f fd):EU K fd [p0,p1,p2,p3] []:=F.OJ λkV doc pm an ii ct us hl=>by
 match us,hl with
 |[O,a1,I,J],_=>exact h kV doc pm an ii ct O a1 I J
structure Zq(K:nI)(x:Str):Prop where
 a:yJ K qE x=some none
end
set_option maxHeartbeats 4000000 in
theorem all_mk {l:vd}(X:K.In h)(G:h.Ns qE mg)(ca:mg "law" = some (.ref fa))
  (h1:Dq K "common_part" sCommon ["one","other"] f1 d1)
  (h2:Dq K "fraction" sFraction ["top","bottom"] f2 d2)
  (h3:Dq K "plus" sPlus ["one","other"] f3 d3)
  (h4:Dq K "minus" sMinus ["one","other"] f4 d4)
  (h5:Dq K "times" sTimes ["one","other"] f5 d5)
  (h6:Dq K "less" s_less ["one","other"] f6 d6)
  (h7:Dq K "common_bottom" sCBot ["row"] f7 d7)
  (h8:Dq K "wholes" sWholes ["row","bottom"] f8 d8)
  (h9:Dq K "led" sLed ["rows","k"] f9 d9)
  (ck:Dq K "swept_row" sSweptRow ["row","lead","k","before"] f10 d10)
  (dv:Dq K "swept" sSwept ["rows"] f11 d11)
  (bq:Dq K "measure" sMeasure ["table"] f12 d12)
  (du:Dq K "found_back" sBack ["rows"] f13 d13)
  (bl:Dq K "answer" sAnswer ["table","right"] f14 d14)
  (a4:Dq K "ease_table" sEaseTable ["net"] f15 d15)
  (bz:Dq K "poleless" sPoleless ["table"] f16 d16)
  (ee:Dq K "heights" sHeights ["net"] f17 d17)
  (dt:Dq K "fall_of" sFallOf ["rope","levels"] f18 d18)
  (bm:Dq K "runnings_by" sRunBy ["net","levels"] f19 d19)
  (b2:Dq K "runnings" sRunnings ["net"] f20 d20)
  (cf:Dq K "ease_of" sEaseOf ["net"] f21 d21)
  (bi:Dq K "lost" s_lost ["net","levels"] f22 d22)
  (dq:Dq K "other_end" sOther ["end"] f23 d23)
  (c8:Dq K "ends_ahead" sAhead ["turns"] f24 d24)
  (bb:Dq K "ring_from" sRingFrom ["start","ahead"] f25 d25)
  (bx:Dq K "rings" sRings ["turns"] f26 d26)
  (bo:Dq K "land_of" sLandOf ["turns"] f27 d27)
  (co:Dq K "land_sides" s_land_sides ["lands","widths"] f28 d28)
  (c4:Dq K "rising" s_rising ["one","other"] f29 d29)
  (c6:Dq K "laid" s_laid ["net","fall"] f30 d30)
  (dc:Dq K "led_to" s_led_to ["start","ropes"] f31 d31)
  (da:Dq K "rising_rows" s_rising_rows ["count","size"] f32 d32)
  (de:Dq K "is_tree" s_is_tree ["net","chosen"] f33 d33)
  (dg:Dq K "is_half" s_is_half ["net","chosen"] f34 d34)
  (aw:Dq K "fitting_rows" s_fitting_rows ["net","size","fits"] f35 d35)
  (b7:Dq K "trees" s_trees ["net"] f36 d36)
  (cj:Dq K "halves" s_halves ["net"] f37 d37)
  (cu:Dq K "tree_sum" s_tree_sum ["net"] f38 d38)
  (dy:Dq K "half_sum" s_half_sum ["net"] f39 d39)
  (eb:Dq K "_law_cell" sCellAt ["_law_script","_law_k"] f40 d40)
  (cr:Dq K "_law_low" sLow ["_law_top","_law_bottom"] f41 d41)
  (c0:Dq K "_law_add" sLAdd ["_law_one","_law_other"] f42 d42)
  (bu:Dq K "_law_mul" sLMul ["_law_one","_law_other"] f43 d43)
  (b9:Dq K "_law_whole" sWhole ["_law_found"] f44 d44)
  (df:Dq K "_law_fraction" sLFrac ["_law_found"] f45 d45)
  (br:Dq K "_law_fractions" sLFracs ["_law_found","_law_many"] f46 d46)
  (c3:Dq K "_law_ease" sLEase ["_law_cell_here"] f47 d47)
  (ea:Dq K "_law_spot" sSpot ["_law_turns","_law_end"] f48 d48)
  (dj:Dq K "_law_next" sNext ["_law_turns","_law_end"] f49 d49)
  (dn:Dq K "_law_put" sPut ["_law_turns","_law_end","_law_fresh"] f50 d50)
  (c9:Dq K "_law_grow" sGrow ["_law_ropes","_law_turns","_law_cell_here"] f51 d51)
  (cn:Dq K "_law_order" s_law_order ["_law_some","_law_cell_here"] f52 d52)
  (bj:Dq K "_law_named" s_law_named ["_law_ropes","_law_turns","_law_cell_here"] f53 d53)
  (d0:Dq K "_law_net" sNet ["_law_cells","_law_first","_law_names"] f54 d54)
  (be:Dq K "_law_some_net" sSomeNet ["_law_script","_law_at","_law_sizes"] f55 d55)
  (a9:Dq K "_law_worth" s_law_worth ["_law_net_here","_law_chosen"] f56 d56)
  (dl:Dq K "_law_sum" s_law_sum ["_law_net_here","_law_sets"] f57 d57)
  (aq:Dq K "law" sLaw ["_law_script"] f58 d58)
  (dd:Zq K "abs")
  (b6:Zq K "len")
  (c1:Zq K "range")
  (a8:Zq K "list")
  (ba:Zq K "zip")
  (a5:Zq K "tuple")
  (b0:Zq K "sum")
  (ce:Zq K "min")
  (bg:Zq K "max")
  (c5:Zq K "enumerate")
  (cz:Zq K "all")
  (a1:Zq K "isinstance")
  (ef:Zq K "int")
  (a6:Zq K "bool")
  : ∃fd:qf,(∀(s:nP) (v:Value),xv s fd ⟨[v],[]⟩ [("_law_script",v)])/\∀base:Heap,K.In base->base.Ns qE mg->Am l.prog w K mg base Aw 8 fa fd ["_law_script"] (OQ K):=by
 have e:=ca.symm.trans (xY X G aq.a);cases e;have ⟨av,eh,ej,eg⟩:=aq.all X G;have au:=pQ X G dd.a;have I:=pQ X G b6.a;have O:=pQ X G c1.a;have ah:=pQ X G a8.a;have aa:=pQ X G ba.a;have J:=pQ X G a5.a;have b4:=pQ X G b0.a;have bv:=pQ X G ce.a;have ci:=pQ X G bg.a;have ad:=pQ X G c5.a;have dz:=pQ X G cz.a;have ac:=pQ X G a1.a;have cp:=pQ X G ef.a;have cq:=pQ X G a6.a;refine⟨d58,λs v=>by obtain⟨_,_,_,_,_,_,_,_,_,rfl,_⟩:=av.ex;exact .of_eq rfl,λbase _ _=>?_⟩;have O1:=h1.BA l w base X G λF=>ZL F au
 have O2:=h2.BA l w base X G λF=>X7 (C:=0) F O1
 have O3:=h3.BA l w base X G λF=>fg F O2
 have O4:=h4.BA l w base X G λF=>cB F O2
 have O5:=h5.BA l w base X G λF=>aY F O2
 have O6:=h6.BA l w base X G λF=>dQ F
 have O7:=h7.BA l w base X G λF=>eV F O1
 have O8:=h8.BA l w base X G λF=>ZR F
 have O9:=h9.BA l w base X G λF=>iG F I O ah
 have bw:=ck.BA l w base X G λF=>YE F aa
 have ay:=dv.BA l w base X G λF=>aS F O9 bw I O
 have ak:=bq.BA l w base X G λF=>YX F O7 O8 ay O2 I aa
 have cc:=du.BA l w base X G λF=>fo F O2 I O aa b4 J
 have b3:=bl.BA l w base X G λF=>Y0 (C2:=0) F O7 O8 ay cc I aa
 have ae:=a4.BA l w base X G λF=>gH F O3 O4 O J
 have ap:=bz.BA l w base X G λF=>dJ F J
 have ai:=ee.BA l w base X G λF=>YU F ae O4 ap b3 J
 have ar:=dt.BA l w base X G λF=>fF F O4
 have ag:=bm.BA l w base X G λF=>Zv F O5 ar J
 have cg:=b2.BA l w base X G λF=>YA F ag ai
 have bp:=cf.BA l w base X G λF=>ZA F O3 O4 cg aa
 have dp:=bi.BA l w base X G λF=>fS F O3 O5 ar ag aa
 have dh:=dq.BA l w base X G λF=>aH F
 have bd:=c8.BA l w base X G λF=>cA F ad
 have dm:=bb.BA l w base X G λF=>X8 F dh J
 have db:=bx.BA l w base X G λF=>bF F bd dm I O J
 have bn:=bo.BA l w base X G λF=>Y9 F db I O J ad
 have a3:=co.BA l w base X G λF=>aU F O3 O4 I ci ad
 have di:=c4.BA l w base X G λF=>ZX F O6
 have ed:=c6.BA l w base X G λF=>gL F O5 ai bn a3 ag di I ad J
 have ao:=dc.BA l w base X G λF=>gq F I
 have al:=da.BA l w base X G λF=>cS F O
 have b5:=de.BA l w base X G λF=>Zd F ao I
 have cx:=dg.BA l w base X G λF=>ZS F ao I
 obtain⟨gt,ek,ot,bt,kt,mt⟩:=b5;obtain⟨gh,ei,oh,bh,kh,mh⟩:=cx;have OT:=aw.BA l w base X G λF=>VX (by decide) F al ot bt kt I J
 have OH:=aw.BA l w base X G λF=>VX (by decide) F al oh bh kh I J
 have dr:=b7.BA l w base X G λF=>Zo F OT mt
 have ec:=cj.BA l w base X G λF=>Y8 F OH mh
 have c2:=cu.BA l w base X G λF=>fO F ae ak J
 have a2:=dy.BA l w base X G λF=>dA F ae ak ap
 have am:=eb.BA l w base X G λF=>gK F I
 have ab:=cr.BA l w base X G λF=>iu F au
 have b8:=c0.BA l w base X G λF=>cO F ab
 have ax:=bu.BA l w base X G λF=>dS F ab
 have cw:=b9.BA l w base X G λF=>aK F ac cp cq
 have c7:=df.BA l w base X G λF=>bC F ab cw ac J I
 have az:=br.BA l w base X G λF=>Yr F c7 ac J I dz
 have aj:=c3.BA l w base X G λF=>gQ F ab
 have af:=ea.BA l w base X G λF=>gU F I O
 have cb:=dj.BA l w base X G λF=>eY F af
 have a0:=dn.BA l w base X G λF=>hJ F af
 have dk:=c9.BA l w base X G λF=>fK F aj a0 af cb I O
 have cy:=cn.BA l w base X G λF=>cC F I ah
 have a7:=bj.BA l w base X G λF=>Zm F cy I O ah J
 have bf:=d0.BA l w base X G λF=>jA F aj dk a7
 have bc:=be.BA l w base X G λF=>gW F am bf I bv O
 have cm:=a9.BA l w base X G λF=>bH F ax
 have dw:=dl.BA l w base X G λF=>eG F b8 cm
 exact iA av bc bp c2 a2 az ax dw dr ec am ab ed dp ai I ac J
theorem walk {l:vd}{K:Params->nI}(hn:l.most=some 63)(aa:d.params.defaults=[])
  (J:∀(w:World) (h:Heap),YP w h->(K w.params).In h)
  (F:∀(w:World) (mg:Str->Option Value) (I:Addr) (h:Heap),(K w.params).In h->h.Ns qE mg->mg d.name=some (.ref I) →
   ∃fd:qf,(∀(s:nP) (u:Value),xv s fd ⟨[u],[]⟩ [("_law_script",u)])/\∀base:Heap,(K w.params).In base->base.Ns qE mg->Am l.prog w (K w.params) mg base Aw 8 I fd ["_law_script"] (OQ (K w.params))) :
  aam q loose XP YP l.row.toRowW d [] (λf vs=>zY f vs) :=
 L2.fi (n:=63) (k:=8) (x:="_law_script") (CX:=λ_=>Aw) (sp:=λw=>OQ (K w.params)) hn (by decide) aa ⟨U,by decide,by decide⟩ J F (λ_ _ a O hl _ hS=>⟨a,O,U,hS,hl,λ_=>rfl⟩) λ_ _ _ _ _ z=>z
end My
inductive PySem.W.Fast:Prop|tw10424324342704254953|tw14548513944244156125|tw2645930482506077765|tw15591601730712065507|tw8412889077480529788|tw848550737656508238|tw10278411326340551279|tw15534395506104384020|tw1796185511598975183|tw15772975423954544906|tw15413166882647580508|tw8435678722395278250|tw10583322015559479875|tw17481164829848986082|tw2606193170357196093|tw15699963373870801437|tw6664793926802936271|tw3631137510689736984|tw850551327793254151|tw10025246601844919648|tw13722572203388594680|tw257129800480451799|tw9164457701962660854|tw13876597937591203545|tw3804714310661241482|tw6796616169730181813|tw18314701224411223294|tw2558789944697696966|tw15744393863650920548|tw1105882560650695493|tw3595778136698752092|tw5266237689209946106|tw13685865204153912337|tw1903331963247193393|tw15152524447409811747|tw2225689450819935650|tw11955866826208243777|tw14986450739510013380|tw8962129339619814038|tw15593107662371906578|tw7161572853293549485|tw2463924434329432183|tw12226591654431889918|tw1091293930539973282|tw8665640917222271444|tw15032380924344498464|tw15986866439190805221|tw5916201472804995096|tw4599857570796616827|tw6191428632421048905|tw16396773847422975184|tw16145369443193667733|tw9236309163303615683|tw13104097547970293690|tw9504132177179038483|tw14925520342476643369|tw16169524833603023771|tw2371856364887606686|tw11304425165365572822|tw17991477654099579389|tw8574117093504021307|tw6823999079372137262|tw12809499017738752576|tw10528053985221591528|tw7735370385049601075|tw16139272616789928269|tw3561816532941275900|tw460192385295055428|tw14249989985924914377|tw15926596034388867509|tw9906915496923169077|tw16691171492158859200|tw4556724195092920809|tw16712982919779510527|tw10127723695036831961|tw9597037444360911285|tw14656328311370820553|tw11345257145273083968|tw14789928932981150144|tw4170467970378948996|tw2829708102986017101|tw8126003183950058898|tw1390774907902557507|tw4868637670052770711|tw8802690659514757360|tw4445628104729399797|tw16353217111798462720|tw1573978496478848467|tw3519433510263035877|tw12798840061706847674|tw15502425306621643799|tw11822810551893501572|tw15910614471787204318|tw7662947050280028555|tw6906715522135510365|tw6293614150661110953|te6331438814857977248|tw12854746160239624917|tw6627143166702313281|tw4379410622778305826|tw10370951095386886366|tw14972322343174917882|tw11288693966331303433|tw16629807708083742938|tw790171293197504759|tw2416410085293429717|tw10824718294654624088|tw4628382862980883441|tw11499163966221802997|tw920617039014992515|tw13237445290194021523|tw9554115145272971364|tw11083306834023038466|tw17858143266791283408|tw950361606326438443|tw5002011073692708163|tw2110963726613857280|tw15399095335989654837|tw13426868105210155988|tw11157568400096244425|tw6163494249554550605|tw8127691542088806084|tw16408724102590968811|tw4139801485795962261
open PySem PySem.W PyProof.Rows
set_option maxRecDepth 100000 in
set_option maxHeartbeats 0 in
theorem PySem.Challenge.cw_currentfloor_k23_whole_four_roads_holds : PySem.Challenge.rw_currentfloor_k23_whole_four_roads.Holds := by
  w_on; o_law; k_head; (case hw => w_witness2)
  k_fill
  refine My.walk (l := PySem.Challenge.rw_currentfloor_k23_whole_four_roads) rfl rfl (fun w h Y => PySem.W.kIn_of Y) ?F
  case F =>
    intro w mg fa h KX G hmg
    refine' My.all_mk KX G hmg (My.dq ?_ ?_ ?_ ?_ (My.bn2 My.sCommon _ _)) (My.dq ?_ ?_ ?_ ?_ (My.bn2 My.sFraction _ _)) (My.dq ?_ ?_ ?_ ?_ (My.bn2 My.sPlus _ _)) (My.dq ?_ ?_ ?_ ?_ (My.bn2 My.sMinus _ _)) (My.dq ?_ ?_ ?_ ?_ (My.bn2 My.sTimes _ _)) (My.dq ?_ ?_ ?_ ?_ (My.bn2 My.s_less _ _)) (My.dq ?_ ?_ ?_ ?_ (My.bn1 My.sCBot _ _)) (My.dq ?_ ?_ ?_ ?_ (My.bn2 My.sWholes _ _)) (My.dq ?_ ?_ ?_ ?_ (My.bn2 My.sLed _ _)) (My.dq ?_ ?_ ?_ ?_ (My.bn4 My.sSweptRow _ _)) (My.dq ?_ ?_ ?_ ?_ (My.bn1 My.sSwept _ _)) (My.dq ?_ ?_ ?_ ?_ (My.bn1 My.sMeasure _ _)) (My.dq ?_ ?_ ?_ ?_ (My.bn1 My.sBack _ _)) (My.dq ?_ ?_ ?_ ?_ (My.bn2 My.sAnswer _ _)) (My.dq ?_ ?_ ?_ ?_ (My.bn1 My.sEaseTable _ _)) (My.dq ?_ ?_ ?_ ?_ (My.bn1 My.sPoleless _ _)) (My.dq ?_ ?_ ?_ ?_ (My.bn1 My.sHeights _ _)) (My.dq ?_ ?_ ?_ ?_ (My.bn2 My.sFallOf _ _)) (My.dq ?_ ?_ ?_ ?_ (My.bn2 My.sRunBy _ _)) (My.dq ?_ ?_ ?_ ?_ (My.bn1 My.sRunnings _ _)) (My.dq ?_ ?_ ?_ ?_ (My.bn1 My.sEaseOf _ _)) (My.dq ?_ ?_ ?_ ?_ (My.bn2 My.s_lost _ _)) (My.dq ?_ ?_ ?_ ?_ (My.bn1 My.sOther _ _)) (My.dq ?_ ?_ ?_ ?_ (My.bn1 My.sAhead _ _)) (My.dq ?_ ?_ ?_ ?_ (My.bn2 My.sRingFrom _ _)) (My.dq ?_ ?_ ?_ ?_ (My.bn1 My.sRings _ _)) (My.dq ?_ ?_ ?_ ?_ (My.bn1 My.sLandOf _ _)) (My.dq ?_ ?_ ?_ ?_ (My.bn2 My.s_land_sides _ _)) (My.dq ?_ ?_ ?_ ?_ (My.bn2 My.s_rising _ _)) (My.dq ?_ ?_ ?_ ?_ (My.bn2 My.s_laid _ _)) (My.dq ?_ ?_ ?_ ?_ (My.bn2 My.s_led_to _ _)) (My.dq ?_ ?_ ?_ ?_ (My.bn2 My.s_rising_rows _ _)) (My.dq ?_ ?_ ?_ ?_ (My.bn2 My.s_is_tree _ _)) (My.dq ?_ ?_ ?_ ?_ (My.bn2 My.s_is_half _ _)) (My.dq ?_ ?_ ?_ ?_ (My.bn3 My.s_fitting_rows _ _)) (My.dq ?_ ?_ ?_ ?_ (My.bn1 My.s_trees _ _)) (My.dq ?_ ?_ ?_ ?_ (My.bn1 My.s_halves _ _)) (My.dq ?_ ?_ ?_ ?_ (My.bn1 My.s_tree_sum _ _)) (My.dq ?_ ?_ ?_ ?_ (My.bn1 My.s_half_sum _ _)) (My.dq ?_ ?_ ?_ ?_ (My.bn2 My.sCellAt _ _)) (My.dq ?_ ?_ ?_ ?_ (My.bn2 My.sLow _ _)) (My.dq ?_ ?_ ?_ ?_ (My.bn2 My.sLAdd _ _)) (My.dq ?_ ?_ ?_ ?_ (My.bn2 My.sLMul _ _)) (My.dq ?_ ?_ ?_ ?_ (My.bn1 My.sWhole _ _)) (My.dq ?_ ?_ ?_ ?_ (My.bn1 My.sLFrac _ _)) (My.dq ?_ ?_ ?_ ?_ (My.bn2 My.sLFracs _ _)) (My.dq ?_ ?_ ?_ ?_ (My.bn1 My.sLEase _ _)) (My.dq ?_ ?_ ?_ ?_ (My.bn2 My.sSpot _ _)) (My.dq ?_ ?_ ?_ ?_ (My.bn2 My.sNext _ _)) (My.dq ?_ ?_ ?_ ?_ (My.bn3 My.sPut _ _)) (My.dq ?_ ?_ ?_ ?_ (My.bn3 My.sGrow _ _)) (My.dq ?_ ?_ ?_ ?_ (My.bn2 My.s_law_order _ _)) (My.dq ?_ ?_ ?_ ?_ (My.bn3 My.s_law_named _ _)) (My.dq ?_ ?_ ?_ ?_ (My.bn3 My.sNet _ _)) (My.dq ?_ ?_ ?_ ?_ (My.bn3 My.sSomeNet _ _)) (My.dq ?_ ?_ ?_ ?_ (My.bn2 My.s_law_worth _ _)) (My.dq ?_ ?_ ?_ ?_ (My.bn2 My.s_law_sum _ _)) (My.dq ?_ ?_ ?_ ?_ (My.bn1 My.sLaw _ _)) ⟨?_⟩ ⟨?_⟩ ⟨?_⟩ ⟨?_⟩ ⟨?_⟩ ⟨?_⟩ ⟨?_⟩ ⟨?_⟩ ⟨?_⟩ ⟨?_⟩ ⟨?_⟩ ⟨?_⟩ ⟨?_⟩ ⟨?_⟩
    all_goals try first | k_is | k_exc | kernel_rfl
