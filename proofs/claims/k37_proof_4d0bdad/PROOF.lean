import PyProof.Rows.All
import Wide.All
import OpenK.AllK
import Wide.FinOn
import Lean
import PyProof.EqAt
import PyProof.EqKinds
import PyProof.TupleCall
import PySem.Challenge.RW_currentfloor_k37_whole_other_of_other
noncomputable section
set_option Elab.async false
set_option linter.all false
set_option maxRecDepth 100000
open List renaming length_map->ig,getElem?_eq_getElem->ij,getElem?_eq_some_iff->ip,mem_of_getElem?->iq,getD_eq_getElem?_getD->ir,getElem?_map->iy,forall_mem_nil->i6,mem_map->i7,map_cons->i8,mem_append->i9,size_toArray->ja,forall_mem_cons->jb,length_append->jc,getElem?_append_right->jd,take_of_length_le->jf,mem_cons->jh,map_append->ji,getElem?_append_left->jm,mem_flatten->jn,getElem_of_mem->ju,mem_range->jw,flatten_cons->jx,sum_cons->jy,mem_singleton->jA,mem_cons_of_mem->jB,mem_append_right->jC,length_cons->jD,replicate_succ->jE,getElem?_set_ne->jF,map_map->jH,getLastD_eq_getLast?->jK,length_range->jN,length_drop->jO,not_mem_nil->jP,getElem?_set_self->jR,length_take->jT,append_assoc->jU,nodup_cons->jV,nodup_append->jY,mem_cons_self->jZ,flatten_append->j3,getElem?_range->j4,getElem?_eq_none->j7,getElem?_cons_succ->j8,getElem_mem->ka,map_nil->kf,append_nil->kg,length_singleton->kh,map_congr_left->ko,take_append_drop->kq,length_eq_zero_iff->ku,range_succ_eq_map->kB,pairwise_map->kE,idxOf_lt_length_iff->kF,mem_iff_getElem?->kG,length_mapIdx->kJ,mem_append_left->kM,getElem_cons_drop->kP,length_pos_of_mem->kQ,mem_or_eq_of_mem_set->kT,nodup_range->kU,length_set->k9,take_length->lj,getElem?_toArray->lu,length_nil->lC,replicate_succ'->lD,cons_append->lK,getElem?_drop->lN,sum_nil->lO,range_succ->lS,perm_ext_iff_of_nodup->lV,getElem?_mapIdx->l5,mem_of_mem_drop->l6,ext_getElem->l9,map_eq_nil_iff->mh,replicate_append_replicate->mj,getElem?_replicate->mq,find?_cons->mE,getLast?_cons->mF,mem_filter->mG,pairwise_lt_range->mK,getElem?_zipWith->mQ,length_replicate->mR,map_set->mS,getLast?_append->mY,any_cons->m5,map_drop->m8,exists_mem_of_ne_nil->nv,nil_append->nz,pairwise_iff_getElem->nA,append_of_mem->nF,filter_append->nG,getElem?_inj->nV,find?_cons_of_neg->n8,find?_cons_of_pos->n9,map_take->oh,flatten_nil->oj,forIn_cons->ou,of_mem_zip->ow,filterMap_cons->oF,length_pos_iff->oG,mem_map_of_mem->oH,take_zero->oJ,getElem?_take->oQ,getElem_idxOf->oR,nodup_iff_pairwise_ne->oV,ext_getElem?->o8,getLast?_map->o9,mem_of_find?_eq_some->pA,all_eq_true->pC,length_erase_of_mem->pD,filter_cons_of_neg->pJ,filter_cons_of_pos->pK,pairwise_singleton->pM,idxOf_cons->pP,sum_append->pQ,pairwise_flatten->qg,set_append_right->qh,all_cons->qu,length_zipWith->qB,replicate_zero->qC,mem_filterMap->qL,mem_replicate->qM,pairwise_cons->qN,set_cons_succ->qP,foldl_append->rC,take_add_one->rD,filter_cons->rS,getElem_inj->rT,getElem_map->rV,map_zipWith->rW,range'_succ->rX,zipIdx_cons->rY,find?_some->so,foldl_cons->su,zipIdx_nil->sv,forIn_nil->sJ,map_id''->sT
open PySem renaming wpAny_bind->iu,wpAny_pure->jk,sizeLine_eq->kn,wpAny_mono->kA,wpAny_field->kI,wpAny_pyIter_tuple->kK,mem_of_lookup->kS,wpAny_callSpecial?_slot->kZ,wpAny_newObj_type->lG,wpAny_pyIter_list->lI,wpAny_call_entry->lL,wpAny_seqItems->lM,wpAny_setField_rec->lQ,wpAny_passesOwn->lU,wpAny_holding->lW,wpAny_Call_Name_kw->mJ,wpAny_truthy_bool->mO,tupleKind_room_in1->nP,call_meets->nQ,wpAny_pyIter_enum->nY,noFill_tuple_add->om,wpAny_execs_nil->oC,wpAny_updateSeq_pair->oE,seq_tuple_add->oZ,wpAny_letOwnedTupleGo_enum->o6,wpAny_onRaise->o7,wpAny_rule->pB,concat_meets->pH,wpAny_typeOf->pI,wpAny_pyNext_enum_itemD->pO,wpAny_Call_method_late->p6,wpAny_pyIter_rangeiter->p7,wpAny_pyNext_enum_endD->p8,wpAny_pyNext_range_end->p9,wpAny_isTrue_Compare1->qm,wpAny_newTuple->qo,wpAny_newList->qw,wpAny_standAt->qx,codeAny_mono->qX,seqIndex_neg->qY,wpAny_pyIter_range->qZ,slot_list_getitem->rG,wpAny_assign_Name->rH,wpAny_sequenceKey->rJ,seqIndex_of->rP,wpAny_letGo->rQ,argBest_lt->sG,typeIs_int->sH,wpAny_Name->sI
open PySem.Heap renaming get?_push_of_some->i3,lt_size->jj,get?_push_size->jo,size_push->kX,get?_update_ne->nh,get?_update_other->nZ,get?_update_self->oo,get?_push_ne->rz
open Nat renaming le_refl->i4,le_trans->js,lt_or_ge->jv,lt_of_lt_of_le->jL,ne_of_lt->jM,zero_le->jS,pow_le_pow_right->jX,lt_of_le_of_lt->km,mul_le_mul_left->kD,mul_succ->kO,lt_irrefl->kW,pow_succ->lE,ne_of_gt->lP,lt_succ_of_lt->lX,le_mul_of_pos_right->mw,add_comm->mT,sub_self->mU,mul_le_mul_right->mZ,pow_add->m9,eq_zero_or_pos->nH,mul_comm->nI,zero_add->nJ,one_mul->oa,add_mul->oM,le_of_dvd->oW,mod_two_eq_zero_or_one->oX,lt_trichotomy->ph,le_of_lt->pE,lt_succ_self->pF,pow_lt_pow_right->qr,pow_le_pow_left->qD,pow_zero->qQ,le_succ->rM,mul_one->rN,mul_pos->rO,succ_ne_self->rZ,mul_assoc->sV
open Option.some renaming inj->je
open PySem.F renaming plainAttrs_list->jq,slot_list_append->jI,type_list_append->jJ,slot_tuple_iterator_next->lq,args_tuple_add_2->md,slot_list_insert->mf,entry_tuple_add->mB,slot_list_index->mC,slot_tuple_add->mL,slot_zip_next->mV,type_list_insert->nM,type_list_index->nR,args_tuple_iterator_next_1->nW,entry_tuple_iterator_next->og,slot_tuple_index->pG,args_zip_next_1->pN,entry_zip_next->pV,slot_list_pop->qi,type_list_pop->qj,slot_int_rmul->sj
open Bool renaming false_ne_true->jr,and_eq_true->kL,eq_iff_iff->mD,false_eq_true->qH
open PySem.PassesOwn renaming never->jt
open Int renaming natAbs_natCast->jz,natAbs_mul->jG,emod_nonneg->j9,toNat_natCast->kd,emod_lt_of_pos->ke,fdiv_eq_ediv_of_dvd->kj,mul_ne_zero->k7,ne_of_gt->lB,mul_ediv_cancel_left->l8,gcd_dvd_right->mM,lt_or_le->mP,gcd_pos_of_ne_zero_left->mW,gcd_dvd_left->mX,mul_nonpos_of_nonpos_of_nonneg->nT,natAbs_sub_le->nU,mul_le_mul_of_nonneg_right->oq,natAbs_neg->oI,mul_pos->oK,ofNat_dvd_left->oP,fmod_eq_emod_of_nonneg->oU,natAbs_ediv_le_natAbs->pk,natAbs_pos->qd,ediv_mul_cancel->qA,le_of_lt->qK,dvd_mul_right->rA,natAbs_add_le->rB,one_mul->rK,natCast_mul->sk,dvd_trans->sO,mul_assoc->sQ
open Rat renaming intCast_mul->jQ,mul_nonneg->kY,mul_eq_zero->lF,intCast_neg->mH,natCast_mul->mI,intCast_sub->nB,mul_comm->nN,num_divInt_den->nO,divInt_eq_div->nX,intCast_add->pR,div_mul_cancel->qT
open PySem.W renaming mg_none_of->jW,kia_one->kH,cellsFrom_some->pW,mg_of->qv,kitx_dict->rE,kitx_list->rF
open PyProof.Rows renaming callWith_type1->j5,slot_tuple_getitem->kr,get?_update_seq->oB,boot_enumerate->oS,listUpdate_at->oY,seqEpoch_at->pY,subscriptTail_builtinR->pZ,boot_range->qt,entry_tuple_getitem->qF,args_tuple_getitem->qW,isInt_at->r9,Subscript_->sE
open Option renaming map_eq_some_iff->j6,isSome_iff_exists->nK,map_some->oz,isSome_map->pj,getD_none->r6,getD_some->r8
open Ne renaming symm->kC
open Array renaming length_toList->kR,getD_eq_getD_getElem?->oO,append_assoc->qG,getElem_mem->rf
open PySem.AutoSeq1 renaming wpAny_loadPart'->l7
open List.Pairwise renaming imp->mN,imp_of_mem->nD
open Classical renaming byContradiction->nj,choose_spec->qc
open PySem.W.KasT renaming kasWp_bind->nq
open Function renaming comp_def->nS
open Prod.mk renaming inj->oN
open PySem.Calls renaming Name_function_global->oT,callWith_builtin->pS,evalArgs_plain->qp,spliced_cons->qJ,spliced_nil->rh
open PyProof renaming noPylong_small->pU
open Sum.inl renaming inj->pX
open List.Perm renaming refl->qf
open PySem.SeqAt renaming eqv_refl->qk
open PySem.Heap.SameBut renaming update->qy
open Std.Legacy.Range renaming forIn_eq_forIn_range'->qE
open PySem.Obj renaming data_mapFields->qS
open PySem.SeqAt.EqAt renaming int_str->qU,str_int->qV
open PySem.Heap.IsTuple renaming push->rj
open PySem.IsRange renaming new->rL
open PySem.Heap.IsList renaming push->rR
open PyProof.Rows.IsTup renaming new->sN
open PySem.Paired renaming length->sX
open PySem.Heap.IsTupleIter renaming extBut->sY
theorem iz:type_of% @if_neg:=@if_neg
theorem i5:type_of% @if_pos:=@if_pos
theorem kc:type_of% @decide_eq_true:=@decide_eq_true
theorem kz:type_of% @decide_eq_false:=@decide_eq_false
theorem kN:type_of% @or_false:=@or_false
theorem lY:type_of% @decide_eq_true_eq:=@decide_eq_true_eq
namespace L2
open PySem PySem.Spec PyProof.Rows
abbrev AY:=Sum Int Str
def JT:AY->Value->Bool
 | .inl k,v=>Value.isInt k v
 | .inr x,v=>Value.isStrOf x v
def hJ(w:World):AY->Int
 | .inl k=>hashInt k
 | .inr x=>hashStr w x
theorem GL:∀{k:AY} {v:Value},JT k v=true->(∃i t,k=Sum.inl i/\v=Value.int i t)\/(∃x t,k=Sum.inr x/\v=Value.str x t)
 | .inl i,v,h=>by
  obtain⟨t,e⟩:=Value.isInt_shape (k:=i) (v:=v) h;exact .inl ⟨i,t,rfl,e⟩
 | .inr x,v,h=>by
  obtain⟨t,e⟩:=Value.isStrOf_shape (x:=x) (v:=v) h;exact .inr ⟨x,t,rfl,e⟩
theorem YG(i:Int)(t:Tok):JT (.inl i) (.int i t)=true:=by simp[JT,Value.isInt]
theorem Xy(x:Str)(t:Tok):JT (.inr x) (.str x t)=true:=by simp[JT,Value.isStrOf]
theorem dF(a b:Int):decide ((Sum.inl a:AY)=Sum.inl b)=(a == b):=by
 by_cases e:a=b
 ·subst e; simp
 ·have h:¬(Sum.inl a:AY)=Sum.inl b:=λq=>e (pX q)
  rw[kz h];exact(beq_eq_false_iff_ne.mpr e).symm
theorem cE(a b:Str):decide ((Sum.inr a:AY)=Sum.inr b)=decide (a=b):=by
 by_cases e:a=b
 ·subst e; simp
 ·have h:¬(Sum.inr a:AY)=Sum.inr b:=λq=>e (Sum.inr.inj q)
  rw[kz h,kz e]
theorem c7(a:Int)(b:Str):decide ((Sum.inl a:AY)=Sum.inr b)=false:=kz (λq=>nomatch q)
theorem dA(a:Str)(b:Int):decide ((Sum.inr a:AY)=Sum.inl b)=false:=kz (λq=>nomatch q)
def D4(prog:Program)(w:World):PySem.KeyKind prog w AY where
 is:=JT
 hash:=hJ w
 inj:=λv a b ha hb=>by
  rcases GL ha with ⟨i,t,rfl,rfl⟩ | ⟨x,t,rfl,rfl⟩
  ·rcases GL hb with ⟨j,u,rfl,e⟩ | ⟨y,u,rfl,e⟩
   ·injection e with e1 _; rw[e1]
   ·exact nomatch e
  ·rcases GL hb with ⟨j,u,rfl,e⟩ | ⟨y,u,rfl,e⟩
   ·exact nomatch e
   ·injection e with e1 _; rw[e1]
 byValue:=λk v h=>by
  rcases GL h with ⟨i,t,rfl,rfl⟩ | ⟨x,t,rfl,rfl⟩ <;> rfl
 pyHash:=λhv h=>by
  rcases GL hv with ⟨i,t,rfl,rfl⟩ | ⟨x,t,rfl,rfl⟩
  ·exact wpAny_pyHash_int h
  ·exact wpAny_pyHash_str h
 eqBool:=λhu hv h=>by
  rcases GL hu with ⟨i,t,rfl,rfl⟩ | ⟨x,t,rfl,rfl⟩
  ·rcases GL hv with ⟨j,u,rfl,rfl⟩ | ⟨y,u,rfl,rfl⟩
   ·rw[dF] at h; exact wpAny_eqBool_int h
   ·rw[c7] at h; exact qU i t y u _ _ _ _ h
  ·rcases GL hv with ⟨j,u,rfl,rfl⟩ | ⟨y,u,rfl,rfl⟩
   ·rw[dA] at h; exact qV x t j u _ _ _ _ h
   ·rw[cE] at h; exact wpAny_eqBool_str h
 «strs»:=λk x t v h=>by
  rcases GL h with ⟨i,u,rfl,e⟩ | ⟨y,u,rfl,e⟩
  ·exact nomatch e
  ·injection e with e1 _
   subst e1;cases v <;> rfl
theorem XB(prog:Program)(w:World)(i:Int)(t:Tok):(D4 prog w).is (.inl i) (.int i t)=true:=YG i t
theorem XC(prog:Program)(w:World)(x:Str)(t:Tok):(D4 prog w).is (.inr x) (.str x t)=true:=Xy x t
inductive V where
 | BD | bl (b:Bool) | int (i:Int) | str (x:Str) | FZ (b:Array UInt8) | Jc (b:UInt64) | ref (a:Addr) | ty (n:String)
 deriving DecidableEq
def Aw:V->Value->Prop
 | .BD,u=>u=Value.none
 | .bl b,u=>u=Value.bool b
 | .int i,u=>∃t,u=Value.int i t
 | .str x,u=>∃t,u=Value.str x t
 | .FZ b,u=>∃t,u=Value.bytes b t
 | .Jc b,u=>∃t,u=Value.float b t
 | .ref a,u=>u=Value.ref a
 | .ty n,u=>u=Value.type n
abbrev Ah:List V->List Value->Prop:=Paired Aw
theorem Ah.length{xs:List V}{us:List Value}(r:Ah xs us):xs.length=us.length:=sX r
theorem Ah.get:∀{xs:List V} {us:List Value} {i:Nat} {x:V},Ah xs us->xs[i]?=some x->∃u,us[i]?=some u/\Aw x u
 | _,_,_,_,.nil,e=>by simp at e
 | _,_,0,_,.cons r _,e=>by simp at e; subst e; exact⟨_,rfl,r⟩
 | _,_,i+1,x,.cons _ t,e=>by
  obtain⟨u,h1,h2⟩:=Ah.get (i:=i) (x:=x) t (by simpa using e);exact⟨u,by simpa using h1,h2⟩
theorem Ah.set{x:V}{u:Value}(r:Aw x u):∀{xs:List V} {us:List Value} (i:Nat),Ah xs us->Ah (xs.set i x) (us.set i u)
 | _,_,_,.nil=>.nil
 | _,_,0,.cons _ t=>.cons r t
 | _,_,i+1,.cons q t=>.cons q (Ah.set r i t)
theorem Ah.append:∀{xs ys:List V} {us ws:List Value},Ah xs us->Ah ys ws->Ah (xs++ys) (us++ws)
 | _,_,_,_,.nil,s=>s
 | _,_,_,_,.cons r t,s=>.cons r (Ah.append t s)
theorem Ah.take:∀{xs:List V} {us:List Value} (n:Nat),Ah xs us->Ah (xs.take n) (us.take n)
 | _,_,0,_=>.nil
 | _,_,_+1,.nil=>.nil
 | _,_,n+1,.cons r t=>.cons r (Ah.take n t)
theorem Ah.drop:∀{xs:List V} {us:List Value} (n:Nat),Ah xs us->Ah (xs.drop n) (us.drop n)
 | _,_,0,r=>r
 | _,_,_+1,.nil=>.nil
 | _,_,n+1,.cons _ t=>Ah.drop n t
def Ea:Option V->Option Value->Prop
 | some v,some u=>Aw v u
 | none,none=>True
 | _,_=>False
def KV{κ:Type}:List (κ×V)->List (κ×Value)->Prop:=Paired λ(p:κ×V) (q:κ×Value)=>p.1=q.1/\Aw p.2 q.2
def kV:AY->V
 | .inl i=>.int i
 | .inr x=>.str x
inductive HO where
  | AF (xs:List V)
  | AG (xs:List V)
  | dK (kvs:List (AY×V)) | dT (kvs:List (List AY×V))
  | set (S:Int->Bool) (n:Nat)
  | Ey (C dx:Addr) (fs:List (Str×V))
  | Ek (x:Addr)
  | xd (fs:List (Str×V))
  | Pu (f x:Addr)
  | Pp (lo hi:Int)
  | ER (o:Obj) (u:HO)
  | Ic (ps:Array Value)
  | ext (φ:Heap->Prop)
abbrev Hp:=Addr->Option HO
def AJ(H:Hp)(a:Addr)(o:HO):Hp:=λb=>if b=a then some o else H b
theorem AU{H:Hp}{a:Addr}{o:HO}:AJ H a o a=some o:=by unfold AJ; rw[i5 rfl]
theorem Ad{H:Hp}{a b:Addr}{o:HO}(h:b≠a):AJ H a o b=H b:=by unfold AJ; rw[iz h]
theorem fK{H:Hp}{a b:Addr}{o u:HO}(h:H a=some o)(h':H b=some u)(d:o≠u):a≠b:=by
 intro e; subst e; rw[h] at h'; exact d (je h')
theorem BW{H:Hp}{a b:Addr}{o:HO}(h:H a=some o)(h':H b=none):a≠b:=by
 intro e; subst e; rw[h] at h'; cases h'
section
variable (P:Program) (w:World)
def Bk(H:Hp)(h:Heap)(a:Addr):HO->Prop
 | .AF xs=>xs.length<=sizeLine/\∃(its:List Value) (n:Nat),Ah xs its/\h.get? a=some { cls:=.type "list",data:=.seq its.toArray n }
 | .AG xs=>xs.length<=sizeLine/\∃its:List Value,Ah xs its/\IsTup h a its.toArray/\∃o,h.get? a=some o/\o.dict=none
 | .dK kvs=>kvs.length<=sizeLine/\(a == sysModules)=false/\∃vs,KV kvs vs/\h.DictOf (D4 P w) a vs
 | .dT kvs=>kvs.length<=sizeLine/\(a == sysModules)=false/\∃xs:List (List AY×Addr×Value),
   Paired (λ(p:List AY×V) (q:List AY×Addr×Value)=>p.1=q.1/\H q.2.1=some (.AG (p.1.map kV))/\Aw p.2 q.2.2) kvs xs /\
   ∃o es ep,h.get? a=some o/\o.ExactDict/\o.data=.dict es ep/\es.toList=xs.map (entryOfKey (tupleKind (D4 P w)))/\(xs.map (·.1)).Nodup
 | .set S n=>h.SetOf (intKind P w) a S n
 | .Ey C dx fs=>H dx=some (.Ek a)/\fs.length<=1000/\dx≠a/\h.get? a=some (PySem.W.instObj C dx) /\
   ∃mA,h.Ns1 dx mA/\(∀f,Ea (fs.lookup f) (mA f))/\PySem.Within mA (fs.map (·.1))
 | .Ek _=>∃o,h.get? a=some o
 | .xd fs=>∃mA,h.Ns1 a mA/\∀f,Ea (fs.lookup f) (mA f)
 | .Pp lo hi=>∃t u v,h.get? a=some { cls:=.type "range",data:=.fields #[.int lo t,.int hi u,.int 1 v] }
 | .ER o u=>h.get? a=some o/\Bk H h a u
 | .Ic ps=>h.get? a=some { cls:=.none,data:=.fields ps }
 | .Pu f x=>h.get? a=some (PySem.W.methodObj (.ref f) (.ref x))
 | .ext φ=>φ h/\(∃o,h.get? a=some o)/\∀h1 h2:Heap,φ h1->(∀o,h1.get? a=some o->h2.get? a=some o)->φ h2
def Bv(H:Hp)(h:Heap):Prop:=∀a o,H a=some o->Bk P w H h a o
end
section
variable {P:Program} {w:World} {H H':Hp} {h h':Heap} {a:Addr} {o:HO}
theorem Bk.lt(x:Bk P w H h a o):a<h.objs.size:=by
 cases o with
 | AF xs=>obtain⟨_,_,_,_,e⟩:=x; exact jj e
 | AG xs=>obtain⟨_,_,_,p,_⟩:=x; exact p.lt
 | dK kvs=>obtain⟨_,_,_,_,o,_,_,e,_⟩:=x; exact jj e
 | dT kvs=>obtain⟨_,_,_,_,o,_,_,e,_⟩:=x; exact jj e
 | set S n=>obtain⟨o,_,_,_,e,_⟩:=x; exact jj e
 | Ey C dx fs=>obtain⟨_,_,_,e,_⟩:=x; exact jj e
 | Ek y=>obtain⟨_,e⟩:=x; exact jj e
 | xd fs=>obtain⟨_,⟨_,_,_,e,_⟩,_⟩:=x; exact jj e
 | Pp lo hi=>obtain⟨_,_,_,e⟩:=x; exact jj e
 | ER ob u=>obtain⟨e,_⟩:=x; exact jj e
 | Ic ps=>exact jj (show h.get? a=some _ from x)
 | Pu f y=>exact jj (show h.get? a=some _ from x)
 | ext φ=>obtain⟨_,⟨_,e⟩,_⟩:=x; exact jj e
theorem Paired.Oz{α β:Type}{F G:α->β->Prop}:∀{l₁:List α} {l₂:List β},Paired F l₁ l₂->(∀a b,F a b->G a b)->Paired G l₁ l₂
 | _,_,.nil,_=>.nil
 | _,_,.cons r t,f=>.cons (f _ _ r) (Paired.Oz t f)
theorem Bk.GA (x:Bk P w H h a o) (k:∀b u,(b=a\/H b=some (.Ek a))->h.get? b=some u->h'.get? b=some u)
  (ho:∀b,H b=some (.Ek a)->H' b=some (.Ek a)) (ht:∀b xs,H b=some (.AG xs)->H' b=some (.AG xs)):Bk P w H' h' a o:=by
 induction o with
 | AF xs=>obtain⟨z,its,n,r,e⟩:=x; exact⟨z,its,n,r,k _ _ (.inl rfl) e⟩
 | AG xs=>obtain⟨z,its,r,⟨ob,e,c⟩,ob2,e2,c2⟩:=x; exact⟨z,its,r,⟨ob,k _ _ (.inl rfl) e,c⟩,ob2,k _ _ (.inl rfl) e2,c2⟩
 | dK kvs=>obtain⟨z,y,vs,r,ob,es,ep,e,c⟩:=x; exact⟨z,y,vs,r,ob,es,ep,k _ _ (.inl rfl) e,c⟩
 | dT kvs =>
  obtain⟨z,y,xs,r,ob,es,ep,e,c⟩:=x;exact⟨z,y,xs,Paired.Oz r λp q z=>⟨z.1,ht _ _ z.2.1,z.2.2⟩,ob,es,ep,k _ _ (.inl rfl) e,c⟩
 | set S n=>obtain⟨ob,es,ep,t,e,c⟩:=x; exact⟨ob,es,ep,t,k _ _ (.inl rfl) e,c⟩
 | Ey C dx fs =>
  obtain⟨d,z,ne,e,mA,⟨od,es,ep,e2,c⟩,r⟩:=x;exact⟨ho _ d,z,ne,k _ _ (.inl rfl) e,mA,⟨od,es,ep,k _ _ (.inr d) e2,c⟩,r⟩
 | Ek y=>obtain⟨ob,e⟩:=x; exact⟨ob,k _ _ (.inl rfl) e⟩
 | xd fs=>obtain⟨mA,⟨od,es,ep,e,c⟩,r⟩:=x; exact⟨mA,⟨od,es,ep,k _ _ (.inl rfl) e,c⟩,r⟩
 | Pp lo hi=>obtain⟨t,u,v,e⟩:=x; exact⟨t,u,v,k _ _ (.inl rfl) e⟩
 | ER ob u ih=>obtain⟨e,q⟩:=x; exact⟨k _ _ (.inl rfl) e,ih q⟩
 | Ic ps =>
  have e:h.get? a=some { cls:=.none,data:=.fields ps }:=x;show h'.get? a=some { cls:=.none,data:=.fields ps };exact k a _ (.inl rfl) e
 | Pu f y =>
  have e:h.get? a=some (PySem.W.methodObj (.ref f) (.ref y)):=x;show h'.get? a=some (PySem.W.methodObj (.ref f) (.ref y));exact k a _ (.inl rfl) e
 | ext φ=>obtain⟨p,⟨o,e⟩,st⟩:=x; exact⟨st _ _ p λo q=>k _ _ (.inl rfl) q,⟨o,k _ _ (.inl rfl) e⟩,st⟩
theorem Bv.lt(x:Bv P w H h)(e:H a=some o):a<h.objs.size:=(x a o e).lt
theorem Bv.Br(x:Bv P w H h)(e:h.objs.size<=a):H a=none:=by
 cases q:H a with
 | none=>rfl
 | some u=>exact absurd (jL (x.lt q) e) (kW _)
theorem Bv.Bx(x:Bv P w H h)(k:∀b u,h.get? b=some u->h'.get? b=some u):Bv P w H h':=λa o e =>
 (x a o e).GA (λb u _ q=>k b u q) (λ_ q=>q) λ_ _ q=>q
theorem Bv.Df(x:Bv P w H h)(k:∀b u,h.get? b=some u->h'.get? b=some u)(hp:h.objs.size<=a)(new:Bk P w (AJ H a o) h' a o):Bv P w (AJ H a o) h':=λb u e=>by
 have hn:=x.Br hp;by_cases hb:b=a
 ·subst hb; rw[AU] at e; cases e; exact new
 ·rw[Ad hb] at e;exact(x b u e).GA (λc v _ q=>k c v q) (λc q=>by rw[Ad (BW q hn)]; exact q) λc xs q=>by rw[Ad (BW q hn)]; exact q
end
def Rd(H:Hp)(a:Addr)(u:HO):Prop:=H a=some u\/∃o,H a=some (.ER o u)
theorem Rd.of{H:Hp}{a:Addr}{u:HO}(h:H a=some u):Rd H a u:=.inl h
theorem Rd.ok{P:Program}{w:World}{H:Hp}{h:Heap}{a:Addr}{u:HO}(r:Rd H a u)(x:Bv P w H h):Bk P w H h a u:=by
 rcases r with r | ⟨o,r⟩
 ·exact x a u r
 ·obtain⟨_,q⟩:=x a _ r;exact q
def K5:Option HO->Prop
 | some (.AF _)=>True
 | some (.dK _)=>True
 | some (.dT _)=>True
 | some (.set _ _)=>True
 | some (.Ey _ _ _)=>True
 | some (.ext _)=>True
 | _=>False
section
variable {P:Program} {w:World} {H:Hp} {h h':Heap} {x e:Addr} {o':HO}
theorem Bv.IQ (ok:Bv P w H h) (mu:K5 (H x)) (he:e=x\/H e=some (.Ek x)) (k:∀b u,b≠e->h.get? b=some u->h'.get? b=some u) (heo:∃u,h'.get? e=some u)
  (new:Bk P w (AJ H x o') h' x o'):Bv P w (AJ H x o') h':=λb u q=>by
 have nown:∀c y,H c=some (.Ek y)->c≠x:=λc y r z=>by subst z; rw[r] at mu; exact mu
 have ntup:∀c xs,H c=some (.AG xs)->c≠x:=λc xs r z=>by subst z; rw[r] at mu; exact mu
 by_cases hb:b=x
 ·subst hb; rw[AU] at q; cases q; exact new
 ·rw[Ad hb] at q;by_cases hbe:b=e
  ·have q':H b=some (.Ek x):=by
    rcases he with z | z
    ·exact absurd (hbe.trans z) hb
    ·rw[hbe]; exact z
   rw[q] at q'; cases q';obtain⟨v,hv⟩:=heo;exact⟨v,by rw[hbe]; exact hv⟩
  ·refine(ok b u q).GA (λc v hc r=>k c v ?_ r) (λc r=>by rw[Ad (nown c b r)]; exact r) λc xs r=>by rw[Ad (ntup c xs r)]; exact r
   rcases hc with rfl | hc
   ·exact hbe
   ·rintro rfl;rcases he with z | z
    ·exact nown c b hc z
    ·rw[hc] at z; cases z; exact hb rfl
end
structure Un(fs ex:List Addr)(H H':Hp)(h h':Heap):Prop where
 keep:∀b o,h.get? b=some o->H b=none->b∉fs->b∉ex->h'.get? b=some o
 slot:∀b o,h.get? b=some o->H b=none->b∈fs->b∉ex->∃sl,h'.get? b=some { o with slots:=sl }
 free:∀b o,h.get? b=some o->H b=none->b∉ex->H' b=none
 there:∀b o,h.get? b=some o->b∉ex->∃o',h'.get? b=some o'
 tups:∀b xs,H b=some (.AG xs)->H' b=some (.AG xs)
 frzs:∀b o u,H b=some (.ER o u)->H' b=some (.ER o u)
 tbls:∀b ps,H b=some (.Ic ps)->∃more,H' b=some (.Ic (ps++more))
section
variable {fs fs' ex ex':List Addr} {H H1 H2:Hp} {h h1 h2 h':Heap} {a x e:Addr} {o:HO}
theorem Un.any(u:Un fs ex H H1 h h1){b:Addr}{ob:Obj}(q:h.get? b=some ob)(n:H b=none)(hx:b∉ex):∃sl,h1.get? b=some { ob with slots:=sl }:=by
 by_cases hb:b∈fs
 ·exact u.slot b ob q n hb hx
 ·exact⟨ob.slots,u.keep b ob q n hb hx⟩
theorem Un.trans(a:Un fs ex H H1 h h1)(b:Un fs ex H1 H2 h1 h2):Un fs ex H H2 h h2 where
 keep:=λc ob q n hc hx=>b.keep c ob (a.keep c ob q n hc hx) (a.free c ob q n hx) hc hx
 slot:=λc ob q n hc hx=>by
  obtain⟨sl,e1⟩:=a.slot c ob q n hc hx;obtain⟨sl',e2⟩:=b.slot c _ e1 (a.free c ob q n hx) hc hx;exact⟨sl',e2⟩
 free:=λc ob q n hx=>by
  obtain⟨o',e1⟩:=a.there c ob q hx;exact b.free c o' e1 (a.free c ob q n hx) hx
 there:=λc ob q hx=>by
  obtain⟨o',e1⟩:=a.there c ob q hx;exact b.there c o' e1 hx
 tups:=λc xs q=>b.tups c xs (a.tups c xs q)
 frzs:=λc ob xs q=>b.frzs c ob xs (a.frzs c ob xs q)
 tbls:=λc ps q=>by
  obtain⟨m1,e1⟩:=a.tbls c ps q;obtain⟨m2,e2⟩:=b.tbls c _ e1;exact⟨m1++m2,by rw[e2,qG]⟩
theorem Un.Bx(k:∀b u,h.get? b=some u->h'.get? b=some u):Un fs ex H H h h' :=
 ⟨λb ob q _ _ _=>k b ob q,λb ob q _ _ _=>⟨ob.slots,k b ob q⟩,λ_ _ _ n _=>n,λb ob q _=>⟨ob,k b ob q⟩,λ_ _ q=>q,λ_ _ _ q=>q,λ_ ps q=>⟨#[],by rw[q]; simp⟩⟩
theorem Un.refl:Un fs ex H H h h:=Un.Bx λ_ _ q=>q
theorem Un.Df(k:∀b u,h.get? b=some u->h'.get? b=some u)(hp:h.objs.size<=a)(hn:H a=none):Un fs ex H (AJ H a o) h h' where
 keep:=λb u q _ _ _=>k b u q
 slot:=λb u q _ _ _=>⟨u.slots,k b u q⟩
 free:=λb u q n _=>by rw[Ad (jM (jL (jj q) hp))]; exact n
 there:=λb u q _=>⟨u,k b u q⟩
 tups:=λb xs q=>by rw[Ad (BW q hn)]; exact q
 frzs:=λb u xs q=>by rw[Ad (BW q hn)]; exact q
 tbls:=λb ps q=>⟨#[],by rw[Ad (BW q hn),q]; simp⟩
theorem Un.IQ(mu:K5 (H x))(he:e=x\/H e=some (.Ek x))(k:∀b u,b≠e->h.get? b=some u->h'.get? b=some u)(heo:∃u,h'.get? e=some u):Un fs ex H (AJ H x o) h h':=by
 have hx:∀b,H b=none->b≠x:=λb n z=>by subst z; rw[n] at mu; exact mu
 have hb:∀b,H b=none->b≠e:=λb n z=>by
  subst z;rcases he with r | r
  ·exact hx b n r
  ·rw[n] at r; cases r
 have hm:∀b u,H b=some u->¬K5 (some u)->b≠x:=λb u q nm z=>by subst z; rw[q] at mu; exact nm mu
 refine⟨λb u q n _ _=>k b u (hb b n) q,λb u q n _ _=>⟨u.slots,k b u (hb b n) q⟩,λb u q n _=>by rw[Ad (hx b n)]; exact n,λb u q _=>?_,
  λb xs q=>by rw[Ad (hm b _ q λz=>z)]; exact q,λb u xs q=>by rw[Ad (hm b _ q λz=>z)]; exact q,λb ps q=>⟨#[],by rw[Ad (hm b _ q λz=>z),q]; simp⟩⟩
 by_cases hbe:b=e
 ·subst hbe; exact heo
 ·exact⟨u,k b u hbe q⟩
theorem Un.mono(u:Un fs ex H H1 h h1)(hs:∀b∈fs,b∈fs')(hx:∀b∈ex,b∈ex'):Un fs' ex' H H1 h h1 :=
 ⟨λb ob q n hb he=>u.keep b ob q n (λz=>hb (hs b z)) λz=>he (hx b z),λ_ _ q n _ he=>u.any q n λz=>he (hx _ z),λb ob q n he=>u.free b ob q n λz=>he (hx b z),λb ob q he=>u.there b ob q λz=>he (hx b z),u.tups,u.frzs,u.tbls⟩
end
def MZ(h:Heap)(H:Hp):List Addr:=(List.range h.objs.size).filter λa=>(H a).isSome
def Gi(h:Heap)(H:Hp):Heap:=PySem.W.hideAll h (MZ h H)
theorem YS(h:Heap)(H:Hp):(Gi h H).objs.size=h.objs.size:=PySem.W.hideAll_size _ _
theorem Ze{h:Heap}{H:Hp}{b:Addr}{o:Obj}(e:h.get? b=some o)(n:H b=none):(Gi h H).get? b=some o :=
 PySem.W.hideAll_get _ e λhm=>by
  have q:(H b).isSome=true:=(mG.mp hm).2;rw[n] at q; simp at q
theorem bJ{h:Heap}{H:Hp}{b:Addr}{o:Obj}(e:(Gi h H).get? b=some o):h.get? b=some o/\H b=none:=by
 have e':h.get? b=some o:=PySem.W.of_hideAll (MZ h H) e;refine⟨e',?_⟩;cases q:H b with
 | none=>rfl
 | some x =>
  have hm:b∈MZ h H:=mG.mpr ⟨jw.mpr (jj e'),by simp[q]⟩;have z:(Gi h H).get? b=none:=PySem.W.hideAll_none (MZ h H) hm;rw[z] at e; cases e
def aW(g h:Heap)(L:Addr):List (Addr×Obj):=(List.range h.objs.size).filterMap λa=>if a=L\/(g.get? a).isSome=true then none else (h.get? a).map λo=>(a,o)
def rest(g h:Heap)(L d:Addr):List (Addr×Obj):=(aW g h L).filter λp=>decide (p.1≠d)
structure Mod(K:PySem.W.Frag)(mg:Str->Option Value)(base:Heap):Prop where
 Px:K.In base
 Gf:base.Ns mainGlobals mg
 Jb:∃mb,base.Ns builtinsNs mb/\∀x:Str,x≠"__name__"->mb x=bootBuiltins x
 nolimit:base.NoLimit
structure Cx where
 prog:Program
 w:World
 K:PySem.W.Frag
 mg:Str->Option Value
 base:Heap
 A:Around
 N:List Str
 s₀:Shared
 H₀:Hp
 env:Env
 outer:List Env
 stack:List Env
 ex:List Addr
 fn:Str->Bool
 Ci:Bool
 pn:List (Addr×Obj)
 xe:Value->Shared->Prop
def FW(l:List Env):List Addr:=l.filterMap (·.frame)
abbrev Cx.fs(X:Cx):List Addr:=FW X.outer
def Pt(sc:Scope)(x:Str):Prop:=sc.names.lookup x=some .local\/sc.names.lookup x=some .cell\/sc.names.lookup x=some .free
def Jj(sc:Scope)(x:Str):Prop:=sc.names.lookup x=some .local\/sc.names.lookup x=some .cell
def gQ(env:Env)(h:Heap)(m:Str->Option Value)(x:Str)(u:Value):Prop :=
 (env.kindOf x=some .local/\m x=some u)\/((env.kindOf x=some .cell\/env.kindOf x=some .free)/\∃c,env.cells.lookup x=some c/\h.IsCell c (some u))
structure Cx.Ok(X:Cx):Prop where
 DR:Mod X.K X.mg X.base
 kind:X.env.scope.kind=.function
 Gf:X.env.globals=mainGlobals
 Jb:X.env.builtins=builtinsNs
 above:X.s₀.heap.objs.size<=X.env.locals
 inj:∀x y c,X.env.cells.lookup x=some c->X.env.cells.lookup y=some c->x=y
 has:∀x,(X.env.kindOf x=some .cell\/X.env.kindOf x=some .free)->∃c,X.env.cells.lookup x=some c
 K0:∀x c,X.fn x=true->X.env.cells.lookup x=some c->X.s₀.heap.objs.size<=c
 hd:X.Ci=true->X.A.handled=none
 frames:X.A.frames=some X.stack
 MW:X.stack=X.outer\/(X.stack=X.env :: X.outer/\X.env.frame=some X.env.locals)
 WN:∀b∈X.ex,b≠X.env.locals/\∀x c,X.env.cells.lookup x=some c->c≠b
 bs:∀b o,X.base.get? b=some o->X.s₀.heap.get? b=some o/\X.H₀ b=none
 GF:X.base.objs.size<=X.s₀.heap.objs.size
 Kt:∀b o,X.base.get? b=some o->b∉X.ex
 Kw:∀b∈X.ex,b∉X.fs
 Et:X.s₀.heap.FunFrames X.base X.outer
 Ij:∀b∈X.fs,X.H₀ b=none
structure AK(X:Cx)(pins:List (Addr×Obj))(σ:List (Option V))(H:Hp)(s:Shared):Prop where
 ok:X.Ok
 os:s.os=X.s₀.os
 bare:AllBare s.gens
 base:Un X.fs X.ex X.H₀ H X.s₀.heap s.heap
 EB:∃m,s.heap.Ns X.env.locals m/\∀(i:Nat) (x:Str) (v:V),X.N[i]?=some x->σ[i]?=some (some v)->Pt X.env.scope x->∃u,Aw v u/\gQ X.env s.heap m x u
 cell:∀x c,X.env.cells.lookup x=some c->∃v,s.heap.IsCell c v
 free:H X.env.locals=none
 Fv:∀x c,X.env.cells.lookup x=some c->H c=none
 pin:∀p∈X.pn++pins,s.heap.get? p.1=some p.2/\H p.1=none/\p.1≠X.env.locals/\p.1∉X.fs/\∀v,p.2.data≠.cell v
 hok:Bv X.prog X.w H s.heap
 len:σ.length=X.N.length
section
variable {X:Cx} {pins:List (Addr×Obj)} {σ:List (Option V)} {H H':Hp} {s:Shared} {h':Heap}
theorem Cx.Ok.gM(ok:X.Ok){b:Addr}{o:Obj}(e:X.base.get? b=some o):b∉X.fs:=λhb=>by
 have:=(ok.Et.mem hb).1
 rw[e] at this; cases this
theorem AK.bs(I:AK X pins σ H s):∀b o,X.base.get? b=some o->s.heap.get? b=some o/\H b=none:=λb o e =>
 ⟨I.base.keep b o (I.ok.bs b o e).1 (I.ok.bs b o e).2 (I.ok.gM e) (I.ok.Kt b o e),I.base.free b o (I.ok.bs b o e).1 (I.ok.bs b o e).2 (I.ok.Kt b o e)⟩
theorem AK.bk(I:AK X pins σ H s):∀b o,X.base.get? b=some o->s.heap.get? b=some o:=λb o e=>(I.bs b o e).1
theorem AK.DR(I:AK X pins σ H s):Mod X.K X.mg X.base:=I.ok.DR
theorem AK.Dj(I:AK X pins σ H s):X.K.In s.heap:=I.ok.DR.Px.keeps I.bk
theorem AK.nolimit(I:AK X pins σ H s):s.heap.NoLimit:=I.ok.DR.nolimit.keeps I.bk
theorem AK.fr(I:AK X pins σ H s):∃m,Fr X.base X.env.locals s.heap m :=
 let ⟨m,hn,_⟩:=I.EB
 ⟨m,hn,I.bk,js I.ok.GF I.ok.above⟩
theorem AK.lt(I:AK X pins σ H s):X.env.locals<s.heap.objs.size:=let ⟨_,hn,_⟩:=I.EB; hn.lt
theorem AK.sz(I:AK X pins σ H s):X.s₀.heap.objs.size<=s.heap.objs.size:=js I.ok.above (pE I.lt)
theorem AK.g6(I:AK X pins σ H s){a:Addr}(h:s.heap.objs.size<=a):a∉X.fs:=λhb=>by
 obtain⟨_,o,ho,_⟩:=I.ok.Et.mem hb;exact absurd (jL (jj ho) (js I.sz h)) (kW _)
theorem AK.cne(I:AK X pins σ H s):∀x c,X.env.cells.lookup x=some c->c≠X.env.locals:=λx c e z=>by
 obtain⟨v,o,ho,hd⟩:=I.cell x c e;obtain⟨m,⟨o',es,ep,ho',hd',_⟩,_⟩:=I.EB;rw[z,ho'] at ho; cases ho; rw[hd'] at hd; cases hd
theorem AK.Et(I:AK X pins σ H s):s.heap.FunFrames X.base X.outer:=by
 have all:∀(l:List Env),(∀b∈FW l,b∈X.fs)->X.s₀.heap.FunFrames X.base l->s.heap.FunFrames X.base l:=by
  intro l
  induction l with
  | nil=>intro _ _; trivial
  | cons env r ih =>
   intro hs hl;obtain⟨hk,⟨L,o,hf,hn,ho,hd⟩,hr⟩:=hl;have hL:L∈X.fs:=hs L (by unfold FW; rw[oF,hf]; exact jZ);obtain⟨sl,e⟩:=I.base.slot L o ho (I.ok.Ij L hL) hL λz=>I.ok.Kw L z hL
   exact⟨hk,⟨L,_,hf,hn,e,hd⟩,ih (λb hb=>hs b (by unfold FW; rw[oF,hf]; exact jB _ hb)) hr⟩
 exact all X.outer (λ_ hb=>hb) I.ok.Et
theorem AK.stack(I:AK X pins σ H s):s.heap.FunFrames X.base X.stack:=by
 rcases I.ok.MW with e | ⟨e,hf⟩
 ·rw[e]; exact I.Et
 ·rw[e];obtain⟨m,hn,_⟩:=I.EB;refine .cons (by rw[I.ok.kind]; decide) hf hn ?_ I.Et;exact Heap.get?_none_of_le (js I.ok.GF I.ok.above)
theorem AK.L3(I:AK X pins σ H s):∀b∈FW X.stack,b∈X.env.locals :: X.fs:=λb hb=>by
 rcases I.ok.MW with e | ⟨e,hf⟩
 ·rw[e] at hb; exact jB _ hb
 ·rw[e] at hb;unfold FW at hb;rw[oF,hf] at hb;exact hb
theorem AK.Sv(I:AK X pins σ H s):∀b∈FW X.stack,H b=none:=λb hb=>by
 rcases jh.mp (I.L3 b hb) with e | hb
 ·rw[e]; exact I.free
 ·obtain⟨_,o,ho,_⟩:=I.ok.Et.mem hb;exact I.base.free b o ho (I.ok.Ij b hb) λz=>I.ok.Kw b z hb
theorem AK.step {g':Array GenState} {t':Nat} {d':Drawn} {ch:List Addr} (I:AK X pins σ H s)
  (hch:∀b∈ch,(b∈X.ex\/X.s₀.heap.objs.size<=b)/\b≠X.env.locals/\(∀x c,X.env.cells.lookup x=some c->c≠b)/\∀p∈X.pn++pins,p.1≠b)
  (keep:∀b o,b≠X.env.locals->b∉X.fs->b∉ch->s.heap.get? b=some o->H b=none->h'.get? b=some o)
  (slot:∀b o,b≠X.env.locals->b∈X.fs->b∉ch->s.heap.get? b=some o->H b=none->∃sl,h'.get? b=some { o with slots:=sl }) (free:∀b o,b∉ch->s.heap.get? b=some o->H b=none->H' b=none)
  (there:∀b o,b∉ch->s.heap.get? b=some o->∃o',h'.get? b=some o')
  (tups:∀b xs,H b=some (.AG xs)->H' b=some (.AG xs)) (frzs:∀b o u,H b=some (.ER o u)->H' b=some (.ER o u)) (tbls:∀b ps,H b=some (.Ic ps)->∃more,H' b=some (.Ic (ps++more)))
  (ns:∀m,s.heap.Ns X.env.locals m->h'.Ns X.env.locals m) (hok:Bv X.prog X.w H' h') (hg:AllBare g') :
  AK X pins σ H' { s with heap:=h',gens:=g',drawn:=d',toks:=t' }:=by
 have neL:∀b o,X.s₀.heap.get? b=some o->b≠X.env.locals:=λb o e=>jM (jL (jj e) I.ok.above)
 have neC:∀b o,X.s₀.heap.get? b=some o->b∉X.ex->b∉ch:=λb o e hx hb=>by
  rcases(hch b hb).1 with z | z
  ·exact hx z
  ·exact absurd (jL (jj e) z) (kW _)
 have cellK:∀x c,X.env.cells.lookup x=some c->∀v,s.heap.IsCell c v->h'.IsCell c v:=λx c e v ⟨o,ho,hd⟩=>by
  have nch:c∉ch:=λz=>(hch c z).2.2.1 x c e rfl
  by_cases hc:c∈X.fs
  ·obtain⟨sl,q⟩:=slot c o (I.cne x c e) hc nch ho (I.Fv x c e);exact⟨_,q,hd⟩
  ·exact⟨o,keep c o (I.cne x c e) hc nch ho (I.Fv x c e),hd⟩
 refine⟨I.ok,I.os,hg,⟨λb o e n hb hx=>?_,λb o e n hb hx=>?_,λb o e n hx=>?_,λb o e hx=>?_,λb xs e=>tups b xs (I.base.tups b xs e),λb o xs e=>frzs b o xs (I.base.frzs b o xs e),λb ps e=>?_⟩,?_,λx c e=>?_,?_,λx c e=>?_,λp hp=>?_,hok,I.len⟩
 ·exact keep b o (neL b o e) hb (neC b o e hx) (I.base.keep b o e n hb hx) (I.base.free b o e n hx)
 ·obtain⟨sl,e1⟩:=I.base.slot b o e n hb hx;obtain⟨sl',e2⟩:=slot b _ (neL b o e) hb (neC b o e hx) e1 (I.base.free b o e n hx);exact⟨sl',e2⟩
 ·obtain⟨o',e1⟩:=I.base.there b o e hx;exact free b o' (neC b o e hx) e1 (I.base.free b o e n hx)
 ·obtain⟨o',e1⟩:=I.base.there b o e hx;exact there b o' (neC b o e hx) e1
 ·obtain⟨m1,e1⟩:=I.base.tbls b ps e;obtain⟨m2,e2⟩:=tbls b _ e1;exact⟨m1++m2,by rw[e2,qG]⟩
 ·obtain⟨m,hn,hl⟩:=I.EB;refine⟨m,ns m hn,λi x v e1 e2 e3=>?_⟩;obtain⟨u,r,l⟩:=hl i x v e1 e2 e3;refine⟨u,r,?_⟩;rcases l with l | ⟨k,c,e,z⟩
  ·exact .inl l
  ·exact .inr ⟨k,c,e,cellK x c e _ z⟩
 ·obtain⟨v,z⟩:=I.cell x c e;exact⟨v,cellK x c e v z⟩
 ·obtain⟨m,⟨o,_,_,ho,_⟩,_⟩:=I.EB;exact free _ o (λz=>(hch _ z).2.1 rfl) ho I.free
 ·obtain⟨v,o,ho,hd⟩:=I.cell x c e;exact free c o (λz=>(hch c z).2.2.1 x c e rfl) ho (I.Fv x c e)
 ·obtain⟨e,n,ne,nf,d⟩:=I.pin p hp;have nch:p.1∉ch:=λz=>(hch p.1 z).2.2.2 p hp rfl
  exact⟨keep p.1 p.2 ne nf nch e n,free p.1 p.2 nch e n,ne,nf,d⟩
theorem AK.un{t':Nat}(I:AK X pins σ H s)(u:Un X.fs [] H H' s.heap h')(hok:Bv X.prog X.w H' h'):AK X pins σ H' { s with heap:=h',toks:=t' }:=by
 obtain⟨m,⟨o,es,ep,ho,r⟩,_⟩:=id I.EB;obtain⟨sl,hL⟩:=u.any ho I.free (by simp);exact I.step (g':=s.gens) (d':=s.drawn) (ch:=[]) (λ_ z=>nomatch z) (λb o _ hb _ e n=>u.keep b o e n hb (by simp)) (λb o _ hb _ e n=>u.slot b o e n hb (by simp)) (λb o _ e n=>u.free b o e n (by simp)) (λb o _ e=>u.there b o e (by simp)) u.tups u.frzs u.tbls (λm' hm=>by
  obtain⟨o',es',ep',ho',r'⟩:=hm;rw[ho] at ho'; cases ho';exact⟨_,es',ep',hL,r'⟩) hok I.bare
theorem AK.call {g':Array GenState} {t':Nat} {d':Drawn} {ch:List Addr} (I:AK X pins σ H s) (u:Un (FW X.stack) ch H H' s.heap h') (hok:Bv X.prog X.w H' h') (hg:AllBare g')
  (hch:∀b∈ch,(b∈X.ex\/X.s₀.heap.objs.size<=b)/\b≠X.env.locals/\(∀x c,X.env.cells.lookup x=some c->c≠b)/\∀p∈X.pn++pins,p.1≠b) :
  AK X pins σ H' { s with heap:=h',gens:=g',drawn:=d',toks:=t' }:=by
 obtain⟨m,⟨o,es,ep,ho,r⟩,_⟩:=id I.EB;obtain⟨sl,hL⟩:=u.any ho I.free λz=>(hch _ z).2.1 rfl
 exact I.step (ch:=ch) hch (λb o hL hb hc e n=>u.keep b o e n (λz=>(jh.mp (I.L3 b z)).elim hL hb) hc) (λb o _ _ hc e n=>u.any e n hc) (λb o hc e n=>u.free b o e n hc) (λb o hc e=>u.there b o e hc) u.tups u.frzs u.tbls (λm' hm=>by
  obtain⟨o',es',ep',ho',r'⟩:=hm;rw[ho] at ho'; cases ho';exact⟨_,es',ep',hL,r'⟩) hok hg
theorem AK.En {t':Nat} {it:Addr} (I:AK X pins σ H s) (k:∀b o,b≠it->s.heap.get? b=some o->h'.get? b=some o) (hn:H it=none) (hL:it≠X.env.locals)
  (h1:it∈X.ex\/X.s₀.heap.objs.size<=it) (h2:∀x c,X.env.cells.lookup x=some c->c≠it) (h3:∀p∈X.pn++pins,p.1≠it):AK X pins σ H { s with heap:=h',toks:=t' }:=by
 have nit:∀b u,H b=some u->b≠it:=λb u e z=>by rw[z,hn] at e; cases e
 refine I.step (g':=s.gens) (d':=s.drawn) (ch:=[it]) (λb hb=>?_) (λb o _ _ hc e _=>k b o (λz=>hc (by simp[z])) e) (λb o _ _ hc e _=>⟨o.slots,k b o (λz=>hc (by simp[z])) e⟩) (λ_ _ _ _ n=>n)
  (λb o hc e=>⟨o,k b o (λz=>hc (by simp[z])) e⟩) (λ_ _ e=>e) (λ_ _ _ e=>e) (λb ps e=>⟨#[],by rw[e]; simp⟩) (λm hm=>?_) (λb u e=>?_) I.bare
 ·have e:b=it:=by simpa using hb
  subst e;exact⟨h1,hL,h2,h3⟩
 ·obtain⟨o,es,ep,ho,r⟩:=hm;exact⟨o,es,ep,k _ o (kC hL) ho,r⟩
 ·refine(I.hok b u e).GA (λc v hc q=>k c v ?_ q) (λ_ q=>q) λ_ _ q=>q
  rcases hc with z | z
  ·rw[z]; exact nit b u e
  ·exact nit c _ z
theorem AK.Dk(I:AK X pins σ H s)(t:Nat):AK X pins σ H { s with toks:=t }:=I.un (h':=s.heap) (t':=t) Un.refl I.hok
theorem AK.Bx{t':Nat}(I:AK X pins σ H s)(k:∀b u,s.heap.get? b=some u->h'.get? b=some u):AK X pins σ H { s with heap:=h',toks:=t' }:=I.un (Un.Bx k) (I.hok.Bx k)
theorem AK.Df{a:Addr}{o:HO}{t':Nat}(I:AK X pins σ H s)(k:∀b u,s.heap.get? b=some u->h'.get? b=some u)(hp:s.heap.objs.size<=a)(new:Bk X.prog X.w (AJ H a o) h' a o):
  AK X pins σ (AJ H a o) { s with heap:=h',toks:=t' }:=I.un (Un.Df k hp (I.hok.Br hp)) (I.hok.Df k hp new)
theorem AK.IQ {x e:Addr} {o:HO} {t':Nat} (I:AK X pins σ H s) (mu:K5 (H x)) (he:e=x\/H e=some (.Ek x)) (k:∀b u,b≠e->s.heap.get? b=some u->h'.get? b=some u) (heo:∃u,h'.get? e=some u)
  (new:Bk X.prog X.w (AJ H x o) h' x o):AK X pins σ (AJ H x o) { s with heap:=h',toks:=t' }:=I.un (Un.IQ mu he k heo) (I.hok.IQ mu he k heo new)
theorem AK.S2{pins':List (Addr×Obj)}(I:AK X pins σ H s)(h:∀p∈pins',s.heap.get? p.1=some p.2/\H p.1=none/\p.1≠X.env.locals/\p.1∉X.fs/\∀v,p.2.data≠.cell v):AK X pins' σ H s :=
 ⟨I.ok,I.os,I.bare,I.base,I.EB,I.cell,I.free,I.Fv,λp hp=>(i9.mp hp).elim (λz=>I.pin p (kM _ z)) (h p),I.hok,I.len⟩
theorem Ro{N:List Str}(hN:N.Nodup){i j:Nat}{x:Str}(a:N[i]?=some x)(b:N[j]?=some x):i=j:=by
 obtain⟨h1,e1⟩:=ip.mp a;obtain⟨h2,e2⟩:=ip.mp b;exact(rT hN).mp (e1.trans e2.symm)
theorem QS {M:Model} {A:Around} {E:Value->Shared->Prop} {i:Nat} {x:Str} {v:V} {u:Value} {Q:Unit->Shared->Prop} (I:AK X pins σ H s) (hN:X.N.Nodup) (hi:X.N[i]?=some x) (hx:Jj X.env.scope x) (r:Aw v u)
  (h:∀s',AK X pins (σ.set i (some v)) H s'->(∃a,Heap.SameBut a s.heap s'.heap/\(a=X.env.locals\/X.env.cells.lookup x=some a))->Q () s') (hf:X.fn x=true\/X.env.scope.names.lookup x=some .local:=by first | exact .inl rfl | exact .inr rfl | assumption):wpAny M A (storeName X.env x u) Q E s:=by
 obtain⟨m,hn,hl⟩:=id I.EB;have hcls:(X.env.scope.kind == .class || (X.env.scope.kind == .module && X.env.locals != X.env.globals))=false:=by rw[I.ok.kind]; rfl
 have hiσ:i<σ.length:=by rw[I.len]; exact(ip.mp hi).1
 have cne:=I.cne;have tracked:∀{a:Addr} {h':Heap},(∃o,s.heap.get? a=some o/\H a=none)->Heap.SameBut a s.heap h'->Bv X.prog X.w H h':=λ{a h'} ha hs b ob e=>by
  obtain⟨_,_,hfree⟩:=ha;refine(I.hok b ob e).GA (λc w' hc q=>(hs.2 c ?_).trans q) (λ_ q=>q) λ_ _ q=>q
  rintro rfl;rcases hc with rfl | hc
  ·rw[hfree] at e; cases e
  ·rw[hfree] at hc; cases hc
 rcases hx with hk | hk
 ·refine wpAny_storeName_local hk hn (λh' hn' hs=>?_) hcls;obtain⟨oL,_,_,hoL,_⟩:=id hn;refine h _ ⟨I.ok,I.os,I.bare,⟨λb o e n hb hx=>?_,λb o e n hb hx=>?_,I.base.free,λb o e hx=>?_,I.base.tups,I.base.frzs,I.base.tbls⟩,⟨_,hn',λj y v' e1 e2 e3=>?_⟩,λy c e=>?_,I.free,I.Fv,λp hp=>?_,tracked ⟨oL,hoL,I.free⟩ hs,by simpa using I.len⟩ ⟨_,hs,.inl rfl⟩
  ·exact(hs.2 b (jM (jL (jj e) I.ok.above))).trans (I.base.keep b o e n hb hx)
  ·obtain⟨sl,e1⟩:=I.base.slot b o e n hb hx;exact⟨sl,(hs.2 b (jM (jL (jj e) I.ok.above))).trans e1⟩
  ·obtain⟨o',e1⟩:=I.base.there b o e hx;exact⟨o',(hs.2 b (jM (jL (jj e) I.ok.above))).trans e1⟩
  ·by_cases hj:j=i
   ·subst hj;rw[hi] at e1; cases e1;rw[jR hiσ] at e2;cases e2;exact⟨u,r,.inl ⟨hk,by simp⟩⟩
   ·rw[jF (kC hj)] at e2;obtain⟨u',r',q⟩:=hl j y v' e1 e2 e3;refine⟨u',r',?_⟩;rcases q with ⟨k,e⟩ | ⟨k,c,e,z⟩
    ·refine .inl ⟨k,?_⟩
     have:y≠x:=λe=>hj (Ro hN e1 (e ▸ hi))
     simp[this,e]
    ·exact .inr ⟨k,c,e,z.sameBut hs (cne y c e)⟩
  ·obtain⟨w',z⟩:=I.cell y c e;exact⟨w',z.sameBut hs (cne y c e)⟩
  ·obtain⟨e,n,ne,nf,d⟩:=I.pin p hp;exact⟨(hs.2 p.1 ne).trans e,n,ne,nf,d⟩
 ·have hfn:X.fn x=true:=by
   rcases hf with z | z
   ·exact z
   ·rw[z] at hk; cases hk
  obtain⟨c,hc⟩:=I.ok.has x (.inl hk);obtain⟨w',z⟩:=I.cell x c hc;refine wpAny_storeName_cell I.ok.kind hk hc z (λh' hc' hs=>?_);obtain⟨oc,hoc,hocd⟩:=id z;refine h { s with heap:=h' } ⟨I.ok,I.os,I.bare,⟨λb o e n hb hx=>?_,λb o e n hb hx=>?_,I.base.free,λb o e hx=>?_,I.base.tups,I.base.frzs,I.base.tbls⟩,⟨m,hn.sameBut hs (kC (cne x c hc)),λj y v' e1 e2 e3=>?_⟩,λy c' e=>?_,I.free,I.Fv,λp hp=>?_,tracked ⟨oc,hoc,I.Fv x c hc⟩ hs,by simpa using I.len⟩ ⟨c,hs,.inr hc⟩
  ·exact(hs.2 b (jM (jL (jj e) (I.ok.K0 x c hfn hc)))).trans (I.base.keep b o e n hb hx)
  ·obtain⟨sl,e1⟩:=I.base.slot b o e n hb hx;exact⟨sl,(hs.2 b (jM (jL (jj e) (I.ok.K0 x c hfn hc)))).trans e1⟩
  ·obtain⟨o',e1⟩:=I.base.there b o e hx;exact⟨o',(hs.2 b (jM (jL (jj e) (I.ok.K0 x c hfn hc)))).trans e1⟩
  ·by_cases hj:j=i
   ·subst hj;rw[hi] at e1; cases e1;rw[jR hiσ] at e2;cases e2;exact⟨u,r,.inr ⟨.inl hk,c,hc,hc'⟩⟩
   ·rw[jF (kC hj)] at e2;obtain⟨u',r',q⟩:=hl j y v' e1 e2 e3;refine⟨u',r',?_⟩;rcases q with q | ⟨k,c',e,z'⟩
    ·exact .inl q
    ·refine .inr ⟨k,c',e,z'.sameBut hs ?_⟩;rintro rfl;exact hj (Ro hN e1 (I.ok.inj _ _ _ e hc ▸ hi))
  ·by_cases hcc:c'=c
   ·subst hcc; exact⟨_,hc'⟩
   ·obtain⟨w2,z2⟩:=I.cell y c' e;exact⟨w2,z2.sameBut hs hcc⟩
  ·obtain⟨e,n,ne,nf,d⟩:=I.pin p hp;refine⟨(hs.2 p.1 ?_).trans e,n,ne,nf,d⟩;intro q;rw[q,hoc] at e;have q':oc=p.2:=je e;exact d w' (by rw[<-q']; exact hocd)
theorem RC {M:Model} {A:Around} {E:Value->Shared->Prop} {i:Nat} {x:Str} {v:V} {u:Value} {Q:Unit->Shared->Prop} (I:AK X pins σ H s) (hN:X.N.Nodup) (hi:X.N[i]?=some x) (hx:Jj X.env.scope x) (r:Aw v u)
  (h:∀s',AK X pins (σ.set i (some v)) H s'->Q () s') (hf:X.fn x=true\/X.env.scope.names.lookup x=some .local:=by first | exact .inl rfl | exact .inr rfl | assumption):wpAny M A (storeName X.env x u) Q E s :=
 QS I hN hi hx r (λs' I' _=>h s' I') hf
theorem AK.fQ {s':Shared} {ch:List Addr} (I:AK X pins σ H s) (ho:s'.os=s.os) (u:Un (FW X.stack) ch H H' s.heap s'.heap) (hok:Bv X.prog X.w H' s'.heap) (hg:AllBare s'.gens)
  (hch:∀b∈ch,(b∈X.ex\/X.s₀.heap.objs.size<=b)/\b≠X.env.locals/\(∀x c,X.env.cells.lookup x=some c->c≠b)/\∀p∈X.pn++pins,p.1≠b):AK X pins σ H' s':=by
 obtain⟨h',g',d',t',o'⟩:=s';have e:o'=s.os:=ho;subst e;exact I.call (g':=g') (t':=t') (d':=d') u hok hg hch
end
abbrev XK:=Value->Option Addr->Hp->Prop
abbrev St:=List (Option V)
abbrev VK:=V->Hp->Prop
abbrev TE:=St->Hp->VK->Prop
abbrev TT:=St->Hp->(Bool->Hp->Prop)->Prop
abbrev TA:=St->Hp->(List V->Hp->Prop)->Prop
structure DQ where
 nx:St->Hp->Prop
 rt:VK
 bk:St->Hp->Prop:=λ_ _=>False
 ct:St->Hp->Prop:=λ_ _=>False
abbrev TS:=DQ->St->Hp->Prop
def EP(X:Cx)(pins:List (Addr×Obj))(σ:St)(Q:VK)(u:Value)(s':Shared):Prop:=∃v H',AK X pins σ H' s'/\Aw v u/\Q v H'
def TP(X:Cx)(pins:List (Addr×Obj))(σ:St)(Q:Bool->Hp->Prop)(b:Bool)(s':Shared):Prop:=∃H',AK X pins σ H' s'/\Q b H'
def AP(X:Cx)(pins:List (Addr×Obj))(σ:St)(Q:List V->Hp->Prop)(us:List Value)(s':Shared):Prop:=∃vs H',AK X pins σ H' s'/\Ah vs us/\Q vs H'
def SP(X:Cx)(pins:List (Addr×Obj))(D:DQ)(f:Flow)(s':Shared):Prop :=
 match f with
 | .next=>∃σ' H',AK X pins σ' H' s'/\D.nx σ' H'
 | .brk=>∃σ' H',AK X pins σ' H' s'/\D.bk σ' H'
 | .cont=>∃σ' H',AK X pins σ' H' s'/\D.ct σ' H'
 | .ret u=>∃v σ' H',AK X pins σ' H' s'/\Aw v u/\D.rt v H'
def PE(X:Cx)(e:Expr)(t:TE):Prop :=
 ∀(pins:List (Addr×Obj)) (s:Shared) (σ:St) (H:Hp) (Q:VK),AK X pins σ H s->t σ H Q->wpAny (model X.prog X.w) X.A (eval e X.env) (EP X pins σ Q) X.xe s
def PT(X:Cx)(e:Expr)(t:TT):Prop :=
 ∀(pins:List (Addr×Obj)) (s:Shared) (σ:St) (H:Hp) (Q:Bool->Hp->Prop),AK X pins σ H s->t σ H Q->wpAny (model X.prog X.w) X.A (isTrue e X.env (eval e X.env)) (TP X pins σ Q) X.xe s
def PW(X:Cx)(e:Expr)(t:TT):Prop :=
 ∀(whole:Sem Value) (pins:List (Addr×Obj)) (s:Shared) (σ:St) (H:Hp) (Q:Bool->Hp->Prop),AK X pins σ H s->t σ H Q->wpAny (model X.prog X.w) X.A (isTrue e X.env whole) (TP X pins σ Q) X.xe s
theorem PW.pt{X:Cx}{e:Expr}{t:TT}(h:PW X e t):PT X e t:=h _
def PA(X:Cx)(es:List Expr)(t:TA):Prop :=
 ∀(pos:Pos) (pins:List (Addr×Obj)) (s:Shared) (σ:St) (H:Hp) (Q:List V->Hp->Prop),AK X pins σ H s->t σ H Q->wpAny (model X.prog X.w) X.A (spliced (backTo pos (starEach es X.env))) (AP X pins σ Q) X.xe s
def PS(X:Cx)(st:Stmt)(t:TS):Prop :=
 ∀(pins:List (Addr×Obj)) (s:Shared) (σ:St) (H:Hp) (D:DQ),AK X pins σ H s->t D σ H->wpAny (model X.prog X.w) X.A (exec st X.env) (SP X pins D) X.xe s
def DF(X:Cx)(st:List Stmt)(t:TS):Prop :=
 ∀(pins:List (Addr×Obj)) (s:Shared) (σ:St) (H:Hp) (D:DQ),AK X pins σ H s->t D σ H->wpAny (model X.prog X.w) X.A (execs st X.env) (SP X pins D) X.xe s
theorem Af{α:Type}{t:Sem α}{Q Q':α->Shared->Prop}{M:Model}{A:Around}{E:Value->Shared->Prop}{s:Shared}(h:wpAny M A t Q E s)(hQ:∀a s,Q a s->Q' a s):wpAny M A t Q' E s:=kA h hQ λ_ _ x=>x
section
variable {X:Cx}
inductive Vw(i:Nat)(σ:St)(H:Hp)(Q:VK):Prop
 | mk (v:V) (e:σ[i]?=some (some v)) (q:Q v H):Vw i σ H Q
def Aj(i:Nat):TE:=λσ H Q=>Vw i σ H Q
inductive Pj(x:V)(H:Hp)(Q:Bool->Hp->Prop):Prop
 | mk (c:Bool) (e:x=.bl c) (q:Q c H):Pj x H Q
def tC(v:V):TE:=λ_ H Q=>Q v H
theorem cz{i:Nat}{x:Str}{pos:Pos}(hN:X.N[i]?=some x)(hv:Pt X.env.scope x)(hd:(x == ("__debug__":Str))=false:=by decide)(hcd:(x == ("__classdict__":Str))=false:=by decide):PE X (.Name x pos) (Aj i):=by
 intro pins s σ H Q I h;obtain⟨v,e,h⟩:=h;obtain⟨m,hn,hl⟩:=I.EB;obtain⟨u,r,l⟩:=hl i x v hN e hv;have fin:EP X pins σ Q u s:=⟨v,H,I,r,h⟩;rcases l with ⟨hk,hm⟩ | ⟨hk,c,hc,hcell⟩
 ·exact sI (wpAny_loadName_local I.ok.kind hk hn hm fin) hd
 ·rcases hk with hk | hk
  ·exact sI (wpAny_loadName_cell I.ok.kind hk hc hcell fin) hd
  ·exact sI (wpAny_loadName_free I.ok.kind hk hc hcell fin hcd) hd
theorem AE{i j pos}:PE X (.Constant (.int i) j pos) (tC (.int i)):=λ_ _ _ H _ I h=>wpAny_Constant_int ⟨.int i,H,I.Dk _,⟨_,rfl⟩,h⟩
theorem Ep{b j pos}:PE X (.Constant (.bool b) j pos) (tC (.bl b)):=λ_ _ _ H _ I h=>Constant_bool ⟨.bl b,H,I,rfl,h⟩
theorem KW{j pos}:PE X (.Constant .none j pos) (tC .BD):=λ_ _ _ H _ I h=>Constant_none ⟨.BD,H,I,rfl,h⟩
def Gl(X:Cx)(x:Str):Prop:=X.env.kindOf x=some .globalImplicit
theorem ag {E:Value->Shared->Prop} {pins:List (Addr×Obj)} {s:Shared} {σ:St} {H:Hp} {x:Str} {u:Value} {pos:Pos} {Q:Value->Shared->Prop} (I:AK X pins σ H s) (hg:Gl X x) (hm:X.mg x=some u) (h:Q u s)
  (hd:(x == ("__debug__":Str))=false:=by decide):wpAny (model X.prog X.w) X.A (eval (.Name x pos) X.env) Q E s :=
 oT I.ok.kind hg (Calls.loadGlobal_global (by rw[I.ok.Gf]; exact I.DR.Gf.keeps I.bk) hm h) hd
theorem FI {E:Value->Shared->Prop} {pins:List (Addr×Obj)} {s:Shared} {σ:St} {H:Hp} {x:Str} {u:Value} {pos:Pos} {Q:Value->Shared->Prop} (I:AK X pins σ H s) (hg:Gl X x) (hm:X.mg x=none) (hv:bootBuiltins x=some u) (h:Q u s)
  (hn:x≠"__name__":=by decide) (hd:(x == ("__debug__":Str))=false:=by decide):wpAny (model X.prog X.w) X.A (eval (.Name x pos) X.env) Q E s:=by
 obtain⟨mb,h1,h2⟩:=I.DR.Jb;exact oT I.ok.kind hg (Calls.loadGlobal_builtin (by rw[I.ok.Gf]; exact I.DR.Gf.keeps I.bk) hm (by rw[I.ok.Jb]; exact h1.keeps I.bk) ((h2 x hn).trans hv) h) hd
theorem FD{x:Str}{v:V}{u:Value}{pos:Pos}(hg:Gl X x)(hm:X.mg x=none)(hv:bootBuiltins x=some u)(r:Aw v u)(hn:x≠"__name__":=by decide)(hd:(x == ("__debug__":Str))=false:=by decide):PE X (.Name x pos) (tC v) :=
 λ_ _ _ H _ I h=>FI I hg hm hv ⟨v,H,I,r,h⟩ hn hd
variable {a b:Expr} {ta tb:TE} {pos:Pos}
def PC(X:Cx)(op:CmpOp)(a b:Expr)(t:TE):Prop :=
 ∀(pins:List (Addr×Obj)) (s:Shared) (σ:St) (H:Hp) (Q:VK),AK X pins σ H s->t σ H Q →
  wpAny (model X.prog X.w) X.A (eval a X.env) (λv s₁=>wpAny (model X.prog X.w) X.A (eval b X.env) (λu s₂=>wpAny (model X.prog X.w) X.A (compareOp op v u) (EP X pins σ Q) X.xe s₂) X.xe s₁) X.xe s
theorem nobehind(b:Expr){op:CmpOp}(h:op≠.In)(h2:op≠.NotIn):behindInMarks op b=false:=by
 have e1:(op == CmpOp.In)=false:=by cases op <;> first | rfl | exact absurd rfl h
 have e2:(op == CmpOp.NotIn)=false:=by cases op <;> first | rfl | exact absurd rfl h2
 cases b <;> simp[behindInMarks,e1,e2]
def tB(t:TE):TT:=λσ H Q=>t σ H λx H1=>Pj x H1 Q
theorem KZ{op:CmpOp}{t:TE}(h:PC X op a b t)(h1:behindInMarks op b=false:=by first | exact nobehind _ (by decide) (by decide) | rfl):PT X (.Compare a [op] [b] pos) (tB t):=by
 intro pins s σ H Q I hw;refine qm (Af (h pins s σ H _ I hw) λv s1 h1=>Af h1 λu s2 h2=>Af h2 λc s3 ⟨x,H1,I1,r1,q1⟩=>?_) h1;obtain⟨d,rfl,q⟩:=q1;cases r1;exact mO ⟨H1,I1,q⟩
theorem Dn{e:Expr}{t:TE}(h:PE X e t)(he:∀whole,isTrue e X.env whole=(do let v <-whole; standAt e.pos; holding [v] (truthy v)):=by intro _; rfl):PT X e (tB t):=by
 intro pins s σ H Q I hw;refine isTrue_plain (Af (h pins s σ H _ I hw) λv s1 ⟨x,H1,I1,r1,q1⟩=>?_) (he _);obtain⟨d,rfl,q⟩:=q1;cases r1;exact mO ⟨H1,I1,q⟩
variable {tA tB':TT} {rest:List Expr}
def V8(t u:TT):TT:=λσ H Q=>t σ H λc H1=>if c=true then u σ H1 Q else Q false H1
def iR(t u:TT):TT:=λσ H Q=>t σ H λc H1=>if c=true then Q true H1 else u σ H1 Q
def gp(t:TT):TT:=λσ H Q=>t σ H λc H1=>Q (!c) H1
theorem Nm(ha:PT X a tA):PW X (.BoolOp .And [a] pos) tA:=by
 intro wh pins s σ H Q I h;refine isTrue_and (Af (ha pins s σ H Q I h) λc s1 e=>?_);cases c with
 | true=>exact isTrue_and_nil e
 | false=>exact e
theorem Fp(ha:PT X a tA):PW X (.BoolOp .Or [a] pos) tA:=by
 intro wh pins s σ H Q I h;refine isTrue_or (Af (ha pins s σ H Q I h) λc s1 e=>?_);cases c with
 | false=>exact isTrue_or_nil e
 | true=>exact e
theorem OA(ha:PT X a tA)(hb:PW X (.BoolOp .And (b :: rest) pos) tB'):PW X (.BoolOp .And (a :: b :: rest) pos) (V8 tA tB'):=by
 intro wh pins s σ H Q I h;refine isTrue_and (Af (ha pins s σ H _ I h) λc s1 ⟨H1,I1,q1⟩=>?_);cases c with
 | true=>exact hb wh pins s1 σ H1 Q I1 q1
 | false=>exact⟨H1,I1,q1⟩
theorem DO(ha:PT X a tA)(hb:PW X (.BoolOp .Or (b :: rest) pos) tB'):PW X (.BoolOp .Or (a :: b :: rest) pos) (iR tA tB'):=by
 intro wh pins s σ H Q I h;refine isTrue_or (Af (ha pins s σ H _ I h) λc s1 ⟨H1,I1,q1⟩=>?_);cases c with
 | true=>exact⟨H1,I1,q1⟩
 | false=>exact hb wh pins s1 σ H1 Q I1 q1
theorem EJ(ha:PT X a tA):PT X (.UnaryOp .Not a pos) (gp tA):=by
 intro pins s σ H Q I h;exact isTrue_not (ha pins s σ H (λc H1=>Q (!c) H1) I h)
def VT(ta tb:TE):TE:=λσ H Q=>ta σ H λx H1=>∃c,x=.bl c/\if c=true then tb σ H1 Q else Q (.bl false) H1
def dZ(ta:TE):TE:=λσ H Q=>ta σ H λx H1=>∃c,x=.bl c/\Q (.bl (!c)) H1
theorem Lw{op}{t:TE}(h:PE X a t):PE X (.BoolOp op [a] pos) t:=λpins s σ H Q I hw=>BoolOp_one (h pins s σ H Q I hw)
theorem KH(ha:PE X a ta)(hb:PE X (.BoolOp .And (b :: rest) pos) tb):PE X (.BoolOp .And (a :: b :: rest) pos) (VT ta tb):=by
 intro pins s σ H Q I h;refine BoolOp_and (Af (ha pins s σ H _ I h) λv s1 ⟨x,H1,I1,r1,q1⟩=>?_);obtain⟨c,rfl,q1⟩:=q1;cases r1;refine mO ?_;cases c with
 | true=>exact hb pins s1 σ H1 Q I1 q1
 | false=>exact⟨.bl false,H1,I1,rfl,q1⟩
theorem cU(ha:PE X a ta):PE X (.UnaryOp .Not a pos) (dZ ta):=by
 intro pins s σ H Q I h;refine UnaryOp_ (Af (ha pins s σ H _ I h) λv s1 ⟨x,H1,I1,r1,q1⟩=>?_);obtain⟨c,rfl,q1⟩:=q1;cases r1;exact not_of (mO ⟨.bl (!c),H1,I1,rfl,q1⟩)
def WV(t:TT)(ta tb:TE):TE:=λσ H Q=>t σ H λc H1=>if c=true then ta σ H1 Q else tb σ H1 Q
theorem NP{c:Expr}(hc:PT X c tA)(ha:PE X a ta)(hb:PE X b tb):PE X (.IfExp c a b pos) (WV tA ta tb):=by
 intro pins s σ H Q I h;refine wpAny_IfExp (Af (hc pins s σ H _ I h) λd s1 ⟨H1,I1,q1⟩=>?_);cases d with
 | true=>exact ha pins s1 σ H1 Q I1 q1
 | false=>exact hb pins s1 σ H1 Q I1 q1
end
def AQ(K:PySem.W.Frag)(H:Hp)(a:Addr)(xs:List V):Prop :=
 Rd H a (.AF xs) \/
  ∃(o:Obj) (its:Array Value) (n:Nat),K.lookup a=some o/\o.cls=.type "list"/\o.dict=none/\o.data=.seq its n/\its.size<=sizeLine/\Ah xs its.toList
def AI(K:PySem.W.Frag)(H:Hp)(a:Addr)(xs:List V):Prop :=
 Rd H a (.AG xs) \/
  ∃(o:Obj) (its:Array Value) (n:Nat),K.lookup a=some o/\o.cls=.type "tuple"/\o.data=.seq its n/\its.size<=sizeLine/\Ah xs its.toList
def gO:Value->Option V
 | .none=>some .BD
 | .bool b=>some (.bl b)
 | .int i _=>some (.int i)
 | .str x _=>some (.str x)
 | .bytes b _=>some (.FZ b)
 | .float b _=>some (.Jc b)
 | .ref a=>some (.ref a)
 | .type n=>some (.ty n)
 | _=>none
theorem Aw.WX{x:V}{u:Value}(r:Aw x u):gO u=some x:=by
 cases x with
 | BD=>cases r; rfl
 | bl _=>cases r; rfl
 | int _=>obtain⟨t,rfl⟩:=r; rfl
 | str _=>obtain⟨t,rfl⟩:=r; rfl
 | FZ _=>obtain⟨t,rfl⟩:=r; rfl
 | Jc _=>obtain⟨t,rfl⟩:=r; rfl
 | ref _=>cases r; rfl
 | ty _=>cases r; rfl
theorem Aw.inj{x y:V}{u:Value}(r:Aw x u)(q:Aw y u):x=y:=je (r.WX.symm.trans q.WX)
theorem Ah.inj:∀{xs ys:List V} {us:List Value},Ah xs us->Ah ys us->xs=ys
 | _,_,_,.nil,.nil=>rfl
 | _,_,_,.cons r t,.cons r' t'=>by rw[r.inj r',Ah.inj t t']
section
variable {X:Cx} {pins:List (Addr×Obj)} {σ:St} {H:Hp} {s:Shared} {a:Addr} {xs ys:List V}
theorem AQ.of{K:PySem.W.Frag}(h:H a=some (.AF xs)):AQ K H a xs:=.inl (.inl h)
theorem AI.of{K:PySem.W.Frag}(h:H a=some (.AG xs)):AI K H a xs:=.inl (.inl h)
theorem AK.list(I:AK X pins σ H s)(h:AQ X.K H a xs):∃its:List Value,Ah xs its/\PlainL s.heap a its.toArray/\xs.length<=sizeLine:=by
 rcases h with h | ⟨o,its,n,hk,hc,hd,hs,hz,r⟩
 ·obtain⟨z,its,n,r,e⟩:=h.ok I.hok;exact⟨its,r,⟨_,n,e,rfl,rfl,rfl⟩,z⟩
 ·refine⟨its.toList,r,⟨o,n,I.Dj a o hk,hc,hd,by simpa using hs⟩,?_⟩;have e:=r.length;simp only[kR] at e;omega
theorem AK.tuple(I:AK X pins σ H s)(h:AI X.K H a xs):∃its:List Value,Ah xs its/\IsTup s.heap a its.toArray/\xs.length<=sizeLine:=by
 rcases h with h | ⟨o,its,n,hk,hc,hs,hz,r⟩
 ·obtain⟨z,its,r,p,_⟩:=h.ok I.hok;exact⟨its,r,p,z⟩
 ·refine⟨its.toList,r,⟨o,I.Dj a o hk,hc,n,by simpa using hs⟩,?_⟩;have e:=r.length;simp only[kR] at e;omega
theorem AK.list_inj(I:AK X pins σ H s)(h:AQ X.K H a xs)(h':AQ X.K H a ys):xs=ys:=by
 obtain⟨its,r,⟨o,n,e,_,_,d⟩,_⟩:=I.list h;obtain⟨its',r',⟨o',n',e',_,_,d'⟩,_⟩:=I.list h';rw[e] at e'; cases e';rw[d] at d';injection d' with d1 _
 have:its=its':=by simpa using congrArg Array.toList d1
 subst this;exact r.inj r'
theorem AK.QV(I:AK X pins σ H s)(h:AI X.K H a xs)(h':AI X.K H a ys):xs=ys:=by
 obtain⟨its,r,⟨o,e,_,n,d⟩,_⟩:=I.tuple h;obtain⟨its',r',⟨o',e',_,n',d'⟩,_⟩:=I.tuple h';rw[e] at e'; cases e';rw[d] at d';injection d' with d1 _
 have:its=its':=by simpa using congrArg Array.toList d1
 subst this;exact r.inj r'
end
abbrev Cx.Es(X:Cx)(E:Value->Shared->Prop):Cx:={ X with xe:=E }
abbrev Cx.Gm(X:Cx):Cx:=X.Es λ_ _=>False
theorem Cx.Ok.Es{X:Cx}(ok:X.Ok)(E:Value->Shared->Prop):(X.Es E).Ok :=
 ⟨ok.DR,ok.kind,ok.Gf,ok.Jb,ok.above,ok.inj,ok.has,ok.K0,ok.hd,ok.frames,ok.MW,ok.WN,ok.bs,ok.GF,ok.Kt,ok.Kw,ok.Et,ok.Ij⟩
theorem Cx.Ok.Fm{X:Cx}{E:Value->Shared->Prop}(ok:(X.Es E).Ok):X.Ok :=
 ⟨ok.DR,ok.kind,ok.Gf,ok.Jb,ok.above,ok.inj,ok.has,ok.K0,ok.hd,ok.frames,ok.MW,ok.WN,ok.bs,ok.GF,ok.Kt,ok.Kw,ok.Et,ok.Ij⟩
section
variable {X:Cx} {pins:List (Addr×Obj)} {σ:St} {H:Hp} {s:Shared} {E:Value->Shared->Prop}
theorem AK.Es(I:AK X pins σ H s)(E:Value->Shared->Prop):AK (X.Es E) pins σ H s:=⟨I.ok.Es E,I.os,I.bare,I.base,I.EB,I.cell,I.free,I.Fv,I.pin,I.hok,I.len⟩
theorem AK.Fm(I:AK (X.Es E) pins σ H s):AK X pins σ H s:=⟨I.ok.Fm,I.os,I.bare,I.base,I.EB,I.cell,I.free,I.Fv,I.pin,I.hok,I.len⟩
theorem SP.Fm{D:DQ}{f:Flow}{s':Shared}(h:SP (X.Es E) pins D f s'):SP X pins D f s':=by
 cases f with
 | next=>obtain⟨σ',H',I,q⟩:=h; exact⟨σ',H',I.Fm,q⟩
 | brk=>obtain⟨σ',H',I,q⟩:=h; exact⟨σ',H',I.Fm,q⟩
 | cont=>obtain⟨σ',H',I,q⟩:=h; exact⟨σ',H',I.Fm,q⟩
 | ret u=>obtain⟨v,σ',H',I,r,q⟩:=h; exact⟨v,σ',H',I.Fm,r,q⟩
theorem PE.Gm{e:Expr}{t:TE}(h:PE X.Gm e t):PE X e t:=λpins s σ H Q I hw =>
 kA (h pins s σ H Q (I.Es _) hw) (λ_ _ ⟨v,H',I',r,q⟩=>⟨v,H',I'.Fm,r,q⟩) λ_ _ z=>False.elim z
theorem PT.Gm{e:Expr}{t:TT}(h:PT X.Gm e t):PT X e t:=λpins s σ H Q I hw =>
 kA (h pins s σ H Q (I.Es _) hw) (λ_ _ ⟨H',I',q⟩=>⟨H',I'.Fm,q⟩) λ_ _ z=>False.elim z
theorem DF.Gm{st:List Stmt}{t:TS}(h:DF X.Gm st t):DF X st t:=λpins s σ H D I hw =>
 kA (h pins s σ H D (I.Es _) hw) (λ_ _ q=>q.Fm) λ_ _ z=>False.elim z
end
section
variable {X:Cx} {st:Stmt} {rest:List Stmt} {t u:TS} {e:Expr} {te:TE} {pos:Pos}
def fD:TS:=λD σ H=>D.nx σ H
def Kr(t u:TS):TS:=λD σ H=>t { D with nx:=u D } σ H
theorem B7:DF X [] fD:=λ_ _ σ H _ I h=>oC ⟨σ,H,I,h⟩
theorem AR(h1:PS X st t)(h2:DF X rest u):DF X (st :: rest) (Kr t u):=by
 intro pins s σ H D I h;refine wpAny_execs_cons (Af (h1 pins s σ H { D with nx:=u D } I h) λf s1 q=>?_);cases f with
 | next =>
  obtain⟨σ',H',I',q⟩:=q;exact h2 pins s1 σ' H' D I' q
 | ret v=>exact q
 | brk=>exact q
 | cont=>exact q
theorem AV(h1:PS X st t):DF X [st] t:=by
 intro pins s σ H D I h;refine wpAny_execs_cons (Af (h1 pins s σ H D I h) λf s1 q=>?_);cases f with
 | next=>exact oC q
 | ret v=>exact q
 | brk=>exact q
 | cont=>exact q
theorem AK.eZ{pins:List (Addr×Obj)}{σ:St}{H:Hp}{s:Shared}(I:AK X pins σ H s):interactive X.env=false:=by simp[interactive,I.ok.kind]
def dj(te:TE):TS:=λD σ H=>te σ H λ_ H1=>D.nx σ H1
theorem DN(he:PE X e te)(hs:swapsWith e none pos.line X.env=pure false:=by rfl):PS X (.Expr e pos) (dj te):=by
 intro pins s σ H D I h;exact wpAny_Expr_any (Af (he pins s σ H _ I h) λv s1 ⟨x,H1,I1,r1,q1⟩=>⟨σ,H1,I1,q1⟩) I.eZ hs
def Ox(te:TE):TS:=λD σ H=>te σ H D.rt
theorem An(he:PE X e te):PS X (.Return (some e) pos) (Ox te):=by
 intro pins s σ H D I h;exact wpAny_Return_some (Af (he pins s σ H _ I h) λv s1 ⟨x,H1,I1,r1,q1⟩=>⟨x,σ,H1,I1,r1,q1⟩)
def gx(c:TT)(t u:TS):TS:=λD σ H=>c σ H λb H1=>if b=true then t D σ H1 else u D σ H1
theorem Bl{c:Expr}{a b:List Stmt}{tc:TT}(hc:PT X c tc)(ha:DF X a t)(hb:DF X b u):PS X (.If c a b pos) (gx tc t u):=by
 intro pins s σ H D I h;refine wpAny_If (Af (hc pins s σ H _ I h) λd s1 ⟨H1,I1,q1⟩=>?_);cases d with
 | true=>exact ha pins s1 σ H1 D I1 q1
 | false=>exact hb pins s1 σ H1 D I1 q1
def TU:TS:=λ_ _ _=>False
theorem NI:PS X st TU:=λ_ _ _ _ _ _ h=>h.elim
theorem YD{sts:List Stmt}:DF X sts TU:=λ_ _ _ _ _ _ h=>h.elim
end
abbrev TG:=V->St->Hp->(St->Hp->Prop)->Prop
abbrev GG:=List V->St->Hp->(St->Hp->Prop)->Prop
def PG(X:Cx)(target:Expr)(t:TG):Prop :=
 ∀(pins:List (Addr×Obj)) (s:Shared) (σ:St) (H:Hp) (v:V) (u:Value) (Q:St->Hp->Prop),AK X pins σ H s->Aw v u->t v σ H Q →
  wpAny (model X.prog X.w) X.A (assign target X.env u) (λ_ s'=>∃σ' H',AK X pins σ' H' s'/\Q σ' H') X.xe s
def K4(X:Cx)(ts:List Expr)(t:GG):Prop :=
 ∀(pins:List (Addr×Obj)) (s:Shared) (σ:St) (H:Hp) (vs:List V) (us:List Value) (Q:St->Hp->Prop),AK X pins σ H s->Ah vs us->t vs σ H Q →
  wpAny (model X.prog X.w) X.A (assignInOrder ((assignEach ts X.env).map (·.2)) us) (λ_ s'=>∃σ' H',AK X pins σ' H' s'/\Q σ' H') X.xe s
abbrev PD:=V->V->V->Hp->(Hp->Prop)->Prop
def Vq(X:Cx)(t:PD):Prop :=
 ∀(pins:List (Addr×Obj)) (s:Shared) (σ:St) (H:Hp) (o i v:V) (ov iv u:Value) (Q:Hp->Prop),AK X pins σ H s->Aw o ov->Aw i iv->Aw v u->t o i v H Q →
  wpAny (model X.prog X.w) X.A (setItem ov iv u) (λ_ s'=>∃H',AK X pins σ H' s'/\Q H') X.xe s
section
variable {X:Cx} {pos:Pos}
def BU(i:Nat):TG:=λv σ H Q=>Q (σ.set i (some v)) H
theorem Ae{i:Nat}{x:Str}(hN:X.N.Nodup)(hi:X.N[i]?=some x)(hx:Jj X.env.scope x)(hf:X.fn x=true\/X.env.scope.names.lookup x=some .local:=by first | exact .inl rfl | exact .inr rfl | assumption):PG X (.Name x pos) (BU i):=by
 intro pins s σ H v u Q I r h;exact rH (RC I hN hi hx r (λs' I'=>⟨_,H,I',h⟩) hf)
inductive Uu(vs:List V)(σ:St)(H:Hp)(Q:St->Hp->Prop):Prop
 | mk (e:vs=[]) (q:Q σ H):Uu vs σ H Q
def Kx:GG:=λvs σ H Q=>Uu vs σ H Q
inductive Tn(t:TG)(u:GG)(vs:List V)(σ:St)(H:Hp)(Q:St->Hp->Prop):Prop
 | mk (v:V) (r:List V) (e:vs=v :: r) (q:t v σ H λσ' H'=>u r σ' H' Q):Tn t u vs σ H Q
def GZ(t:TG)(u:GG):GG:=λvs σ H Q=>Tn t u vs σ H Q
theorem Cq:K4 X [] Kx:=by
 intro pins s σ H vs us Q I r h;obtain⟨e,h⟩:=h;subst e;cases r;exact assignInOrder_nil ⟨σ,H,I,h⟩
theorem BF {e:Expr} {es:List Expr} {t:TG} {u:GG} (h1:PG X e t) (h2:K4 X es u)
  (hs:(assignEach (e :: es) X.env).map (·.2)=assign e X.env :: (assignEach es X.env).map (·.2):=by rfl):K4 X (e :: es) (GZ t u):=by
 intro pins s σ H vs us Q I r h;obtain⟨v,vr,e1,h⟩:=h;subst e1;cases r with
 | cons r rr =>
  rw[hs];refine assignInOrder_cons (Af (h1 pins s σ H _ _ _ I r h) λ_ s1 ⟨σ1,H1,I1,q1⟩=>?_);exact h2 pins s1 σ1 H1 _ _ Q I1 rr q1
inductive Va(K:PySem.W.Frag)(n:Nat)(t:GG)(v:V)(σ:St)(H:Hp)(Q:St->Hp->Prop):Prop
 | mk (a:Addr) (xs:List V) (e:v=.ref a) (s:AI K H a xs) (l:xs.length=n) (q:t xs σ H Q):Va K n t v σ H Q
def IW(K:PySem.W.Frag)(n:Nat)(t:GG):TG:=λv σ H Q=>Va K n t v σ H Q
theorem II {es:List Expr} {k:Nat} {t:GG} {n:Nat} (hc:X.Ci=true) (h:K4 X es t)
  (hn:(assignEach es X.env).length=n:=by rfl) (hst:(assignEach es X.env).findIdx? (·.1)=none:=by rfl):PG X (.Tuple es k pos) (IW X.K n t):=by
 intro pins s σ H v u Q I r hw;obtain⟨a,xs,e1,hq,hl,hw⟩:=hw;subst e1;cases r;obtain⟨its,rv,ht,hz⟩:=I.tuple hq;refine assign_Tuple_tuple (I.ok.hd hc) ht (by simp[hn,<-hl,rv.length]) hst λh' hx=>?_
 have I1:AK X pins σ H { s with heap:=h' }:=I.Bx (t':=s.toks) λb o e=>hx b o (jM (jj e)) e
 exact h pins _ σ H xs _ Q I1 (by simpa using rv) hw
def WI(to ti:TE)(t:PD):TG:=λv σ H Q=>to σ H λo H1=>ti σ H1 λi H2=>t o i v H2 λH3=>Q σ H3
theorem Fu {o i:Expr} {to ti:TE} {t:PD} (ho:PE X o to) (hi:PE X i ti) (hs:Vq X t)
  (ha:∀v,assign (.Subscript o i pos) X.env v=(do
   let ov <-holding [v] (eval o X.env)
   let iv <-holding [v,ov] (eval i X.env)
   standAt pos
   holding [v,ov,iv] (setItem ov iv v)
   release [v,ov,iv] []):=by intro _; rfl):PG X (.Subscript o i pos) (WI to ti t):=by
 intro pins s σ H v u Q I r h;rw[ha];refine iu (lW (Af (ho pins s σ H _ I h) λov s1 ⟨x,H1,I1,r1,q1⟩=>?_));refine iu (lW (Af (hi pins s1 σ H1 _ I1 q1) λiv s2 ⟨y,H2,I2,r2,q2⟩=>?_));refine iu (qx (iu (lW (Af (hs pins s2 σ H2 x y v ov iv u _ I2 r1 r2 r q2) λ_ s3 ⟨H3,I3,q3⟩=>?_))));exact wpAny_release ⟨σ,H3,I3,q3⟩
def JX(te:TE)(g:TG):TS:=λD σ H=>te σ H λx H1=>g x σ H1 D.nx
theorem Dr {tg e:Expr} {te:TE} {g:TG} (he:PE X e te) (hg:PG X tg g) (hs:swapsWithSole [tg] e pos.line X.env=pure false:=by rfl) (hw:swappedStores [tg] e X.env=pure none:=by rfl)
  (h1:(assignEach [tg] X.env).map (·.2)=[assign tg X.env]:=by rfl):PS X (.Assign [tg] e pos) (JX te g):=by
 intro pins s σ H D I h;refine wpAny_Assign_stores (Af (he pins s σ H _ I h) λv s1 ⟨x,H1,I1,r1,q1⟩=>?_) hs hw;rw[h1];exact Af (hg pins s1 σ H1 x v _ I1 r1 q1) λ_ s2 q=>q
theorem AX{i:Nat}{x:Str}{e:Expr}{te:TE}{pos':Pos}(hN:X.N.Nodup)(hi:X.N[i]?=some x)(hx:Jj X.env.scope x)(he:PE X e te)(hs:swapsWith e (some (.Name x pos')) pos.line X.env=pure false:=by rfl)(hf:X.fn x=true\/X.env.scope.names.lookup x=some .local:=by first | exact .inl rfl | exact .inr rfl | assumption):
  PS X (.Assign [.Name x pos'] e pos) (JX te (BU i)):=by
 intro pins s σ H D I h;refine wpAny_Assign_Name (Af (he pins s σ H _ I h) λv s1 ⟨y,H1,I1,r1,q1⟩=>?_) hs;exact RC I1 hN hi hx r1 (λs2 I2=>⟨_,H1,I2,q1⟩) hf
end
section
variable {X:Cx} {pos:Pos}
def UR(c:TT)(tb:TS):TS:=λD σ H=>∃W:Nat->St->Hp->Prop,(∃m,W m σ H)/\∀m σ H,W m σ H →
 c σ H λb H1=>if b=true then ∃N:St->Hp->Prop,(∀σ' H',N σ' H'->∃m',m' < m/\W m' σ' H')/\tb { D with nx:=N,ct:=N,bk:=D.nx } σ H1 else D.nx σ H1
theorem Hx{c:Expr}{body:List Stmt}{tc:TT}{tb:TS}(hp:PassesOwn (model X.prog X.w) X.A X.env X.xe)(hc:PT X c tc)(hb:DF X body tb):PS X (.While c body [] pos) (UR tc tb):=by
 intro pins s σ H D I h;obtain⟨W,⟨m0,w0⟩,turn⟩:=h;refine wpAny_While (codeAny_whileLoop (λn s'=>∃σ' H',AK X pins σ' H' s'/\W n σ' H') ?_ m0 ⟨σ,H,I,w0⟩);rintro n s1 ⟨σ1,H1,I1,w1⟩;refine lU hp (Af (hc pins s1 σ1 H1 _ I1 (turn n σ1 H1 w1)) λb s2 ⟨H2,I2,q2⟩=>?_);cases b with
 | true =>
  obtain⟨N,hN,q2⟩:=q2;rw[i5 rfl];refine lU hp (Af (hb pins s2 σ1 H2 _ I2 q2) λf s3 q3=>?_);cases f with
  | next =>
   obtain⟨σ3,H3,I3,n3⟩:=q3;obtain⟨m',hm,w3⟩:=hN σ3 H3 n3;exact⟨m',hm,σ3,H3,I3,w3⟩
  | cont =>
   obtain⟨σ3,H3,I3,n3⟩:=q3;obtain⟨m',hm,w3⟩:=hN σ3 H3 n3;exact⟨m',hm,σ3,H3,I3,w3⟩
  | brk=>exact q3
  | ret v=>exact q3
 | false =>
  rw[iz jr];exact oC ⟨σ1,H2,I2,q2⟩
end
structure It where
 go:Nat->Hp->Prop
 ED:Nat->Hp->V->Hp->Prop
 stop:Nat->Hp->Prop
def FU(X:Cx)(pins:List (Addr×Obj))(H:Hp)(b:Addr):Prop :=
 H b=none/\b≠X.env.locals/\b∉X.fs/\(b∈X.ex\/X.s₀.heap.objs.size<=b)/\(∀x c,X.env.cells.lookup x=some c->c≠b)/\∀p∈X.pn++pins,p.1≠b
theorem AK.HU{X:Cx}{pins:List (Addr×Obj)}{σ:St}{H H':Hp}{s:Shared}{b:Addr}(I:AK X pins σ H s)(hb:s.heap.objs.size<=b)(hn:H' b=none):FU X pins H' b:=by
 refine⟨hn,lP (jL I.lt hb),I.g6 hb,.inr (js I.sz hb),λx c e z=>?_,λp hp z=>?_⟩
 ·obtain⟨v,q⟩:=I.cell x c e;exact absurd (jL q.lt (by rw[z]; exact hb)) (kW _)
 ·exact absurd (jL (jj (I.pin p hp).1) (by rw[z]; exact hb)) (kW _)
structure Hl(P:Program)(w:World)(K:PySem.W.Frag)(tg:Expr)(J:It)(fp:List Addr)(it:Addr)(tn:Nat->Heap->Prop):Prop where
 mem:it∈fp
 obj:∀i h,tn i h->∀b∈fp,∃o,h.get? b=some o/\∀v,o.data≠.cell v
 keep:∀i h h',tn i h->(∀b∈fp,∀o,h.get? b=some o->h'.get? b=some o)->tn i h'
 item:∀(X:Cx),X.prog=P->X.w=w->X.K=K->X.Ci=true->∀(i:Nat) (pins:List (Addr×Obj)) (s:Shared) (σ:St) (H:Hp) (E:Value->Shared->Prop),AK X pins σ H s->(∀b∈fp,FU X pins H b)->tn i s.heap->J.go i H →
  wpAny (model P w) X.A (pyNext (.ref it)) (λr s1=>∃u,r=some u /\
   wpAny (model P w) X.A (letOwnedTupleGo tg (.ref it) u) (λ_ s2=>∃x H',AK X pins σ H' s2/\Aw x u/\J.ED i H x H'/\tn (i+1) s2.heap/\∀b∈fp,H' b=none) E s1) E s
 done:∀(X:Cx),X.prog=P->X.w=w->X.K=K->X.Ci=true->∀(i:Nat) (pins:List (Addr×Obj)) (s:Shared) (σ:St) (H:Hp) (E:Value->Shared->Prop),AK X pins σ H s->(∀b∈fp,FU X pins H b)->tn i s.heap->J.stop i H →
  wpAny (model P w) X.A (pyNext (.ref it)) (λr s1=>r=none/\AK X pins σ H s1) E s
 HY:∀(A:Around) (i:Nat) (s:Shared) (Q:Value->Shared->Prop) (E:Value->Shared->Prop),tn i s.heap->Q (.ref it) s->wpAny (model P w) A (pyIter (.ref it)) Q E s
abbrev TI:=St->Hp->(It->Hp->Prop)->Prop
def WT(X:Cx)(pins:List (Addr×Obj))(σ:St)(tg:Expr)(R:It->Hp->Prop)(itv:Value)(s2:Shared):Prop :=
 ∃(it:Addr) (fp:List Addr) (tn:Nat->Heap->Prop) (J:It) (H':Hp),itv=.ref it/\AK X pins σ H' s2/\Hl X.prog X.w X.K tg J fp it tn/\tn 0 s2.heap/\(∀b∈fp,FU X pins H' b)/\R J H'
def PI(X:Cx)(tg iter:Expr)(wi:TI):Prop :=
 ∀(pins:List (Addr×Obj)) (s:Shared) (σ:St) (H:Hp) (R:It->Hp->Prop),AK X pins σ H s->wi σ H R →
  wpAny (model X.prog X.w) X.A (eval iter X.env) (λv s1=>wpAny (model X.prog X.w) X.A (pyIter v) (WT X pins σ tg R) X.xe s1) X.xe s
theorem MH {M : Model} {A : Around} {E : Value → Shared → Prop} {s : Shared} {tg : Expr} {it : Addr} {u : Value} {o : Obj} {n : String} {vs : Array Value} {Q : Unit → Shared → Prop} (ho : s.heap.get? it = some o) (hc : o.cls = .type n) (hd : o.data = .fields vs)
    (hn : ["enumerate", "zip", "dict_itemiterator", "dict_reverseitemiterator", "odict_iterator", "itertools.zip_longest", "itertools.pairwise"].contains n = false) (hQ : Q () s) : wpAny M A (letOwnedTupleGo tg (.ref it) u) Q E s := by
  unfold letOwnedTupleGo;cases tg <;> first
    | exact jk hQ
    | (cases u <;> first
        | exact jk hQ
        | (refine iu (wpAny_load ho ?_)
           rw[hc, hd];show wpAny M A (if (["enumerate", "zip", "dict_itemiterator", "dict_reverseitemiterator", "odict_iterator", "itertools.zip_longest", "itertools.pairwise"].contains n && vs[0]? == some (rawInt _)) = true then _ else _) Q E s;rw[iz (by intro h; rw[hn, Bool.false_and] at h; cases h)];exact jk hQ))
def Jl(K:PySem.W.Frag)(a:Addr):It :=
 ⟨λi H=>∃xs x,AQ K H a xs/\xs[i]?=some x,λi H x H'=>H'=H/\∀xs,AQ K H a xs->xs[i]?=some x,λi H=>∃xs,AQ K H a xs/\xs.length<=i⟩
def Jf(K:PySem.W.Frag)(a:Addr):It :=
 ⟨λi H=>∃xs x,AI K H a xs/\xs[i]?=some x,λi H x H'=>H'=H/\∀xs,AI K H a xs->xs[i]?=some x,λi H=>∃xs,AI K H a xs/\xs.length<=i⟩
def FY(lo:Int)(n:Nat):It:=⟨λi _=>i<n,λi H x H'=>H'=H/\x=.int (lo+i),λi _=>n<=i⟩
theorem Yc{P:Program}{w:World}{K:PySem.W.Frag}{tg:Expr}(a it:Addr):Hl P w K tg (Jl K a) [it] it (λi h=>h.IsListIter it a i) where
 mem:=by simp
 obj:=λi h st b hb=>by
  have e:b=it:=by simpa using hb
  subst e;obtain⟨o,e,c,d⟩:=st;exact⟨o,e,λv z=>by rw[d] at z; cases z⟩
 keep:=λi h h' st k=>st.at λo e=>k it (by simp) o e
 item:=by
  intro X hP hw hK hc i pins s σ H E I hf st hg;subst hP hw hK;obtain⟨xs,x,hq,hx⟩:=hg;obtain⟨its,rv,p,hz⟩:=I.list hq;obtain⟨u,hu,ru⟩:=rv.get hx;obtain⟨f0,f1,f2,f3,f4,f5⟩:=hf it (by simp);refine wpAny_pyNext_list_item st p.isList (x:=u) (by simpa using hu) λh' st' sb=>?_
  have I1:AK X pins σ H { s with heap:=h' }:=I.En (t':=s.toks) (λb o hb e=>(sb.2 b hb).trans e) f0 f1 f3 f4 f5;obtain⟨o,e,c,d⟩:=id st';exact⟨u,rfl,MH (s:={ s with heap:=h' }) e c d (by decide) ⟨x,H,I1,ru,⟨rfl,λys hy=>by rw[I.list_inj hy hq]; exact hx⟩,st',λb hb=>(hf b hb).1⟩⟩
 done:=by
  intro X hP hw hK hc i pins s σ H E I hf st hg;subst hP hw hK;obtain⟨xs,hq,hx⟩:=hg;obtain⟨its,rv,p,hz⟩:=I.list hq;obtain⟨f0,f1,f2,f3,f4,f5⟩:=hf it (by simp);have hl:=rv.length;exact wpAny_pyNext_list_end (I.ok.hd hc) st p.isList (by simp; omega) λh' eb=>⟨rfl,I.En (t':=s.toks) (λb o hb e=>eb b o hb e) f0 f1 f3 f4 f5⟩
 HY:=λ_ _ _ _ _ st h=>wpAny_pyIter_listiter st h
theorem Xc{P:Program}{w:World}{K:PySem.W.Frag}{tg:Expr}(a it:Addr):Hl P w K tg (Jf K a) [it] it (λi h=>h.IsTupleIter it a i) where
 mem:=by simp
 obj:=λi h st b hb=>by
  have e:b=it:=by simpa using hb
  subst e;obtain⟨o,e,c,d⟩:=st;exact⟨o,e,λv z=>by rw[d] at z; cases z⟩
 keep:=λi h h' st k=>st.at λo e=>k it (by simp) o e
 item:=by
  intro X hP hw hK hc i pins s σ H E I hf st hg;subst hP hw hK;obtain⟨xs,x,hq,hx⟩:=hg;obtain⟨its,rv,p,hz⟩:=I.tuple hq;obtain⟨u,hu,ru⟩:=rv.get hx;obtain⟨f0,f1,f2,f3,f4,f5⟩:=hf it (by simp);refine wpAny_pyNext_tuple_item st (show s.heap.IsTuple a its.toArray from p) (x:=u) (by simpa using hu) λh' st' sb=>?_
  have I1:AK X pins σ H { s with heap:=h' }:=I.En (t':=s.toks) (λb o hb e=>(sb.2 b hb).trans e) f0 f1 f3 f4 f5;obtain⟨o,e,c,d⟩:=id st';exact⟨u,rfl,MH (s:={ s with heap:=h' }) e c d (by decide) ⟨x,H,I1,ru,⟨rfl,λys hy=>by rw[I.QV hy hq]; exact hx⟩,st',λb hb=>(hf b hb).1⟩⟩
 done:=by
  intro X hP hw hK hc i pins s σ H E I hf st hg;subst hP hw hK;obtain⟨xs,hq,hx⟩:=hg;obtain⟨its,rv,p,hz⟩:=I.tuple hq;obtain⟨f0,f1,f2,f3,f4,f5⟩:=hf it (by simp);have hl:=rv.length;exact wpAny_pyNext_tuple_end (I.ok.hd hc) st (show s.heap.IsTuple a its.toArray from p) (by simp; omega) λh' eb=>⟨rfl,I.En (t':=s.toks) (λb o hb e=>eb b o hb e) f0 f1 f3 f4 f5⟩
 HY:=λ_ _ _ _ _ st h=>wpAny_pyIter_tupleiter st h
theorem Xj{P:Program}{w:World}{K:PySem.W.Frag}{tg:Expr}(it:Addr)(lo:Int)(n:Nat):Hl P w K tg (FY lo n) [it] it (λi h=>IsRangeIter h it (lo+(i:Nat)*1) ((n:Int)-(i:Nat)) 1) where
 mem:=by simp
 obj:=λi h st b hb=>by
  have e:b=it:=by simpa using hb
  subst e;exact⟨_,st,λv z=>by
   have z':Data.fields _=Data.cell v:=z;cases z'⟩
 keep:=λi h h' st k=>k it (by simp) _ st
 item:=by
  intro X hP hw hK hc i pins s σ H E I hf st hg;subst hP hw hK;obtain⟨f0,f1,f2,f3,f4,f5⟩:=hf it (by simp);have W:=Walks.range (prog:=X.prog) (w:=X.w) (I.ok.hd hc) it lo 1 n;refine W.item i s _ _ hg st λv h' tk hv st' kk=>?_
  obtain⟨t,rfl⟩:=hv;have I1:AK X pins σ H { s with heap:=h',toks:=tk }:=I.En (λb o hb e=>kk b o (by simpa using hb) e) f0 f1 f3 f4 f5;refine⟨_,rfl,MH (s:={ s with heap:=h',toks:=tk }) (n:="range_iterator") st' rfl rfl (by decide) ⟨.int (lo+i),H,I1,⟨t,?_⟩,⟨rfl,rfl⟩,st',λb hb=>(hf b hb).1⟩⟩;rw[Int.mul_one]
 done:=by
  intro X hP hw hK hc i pins s σ H E I hf st hg;subst hP hw hK;obtain⟨f0,f1,f2,f3,f4,f5⟩:=hf it (by simp);exact p9 (I.ok.hd hc) st (by have:n<=i:=hg; omega) λh' eb=>⟨rfl,I.En (t':=s.toks) (λb o hb e=>eb b o hb e) f0 f1 f3 f4 f5⟩
 HY:=λ_ _ _ _ _ st h=>p7 st h
section
variable {X:Cx} {tg:Expr}
inductive Uh(K:PySem.W.Frag)(x:V)(H:Hp)(R:It->Hp->Prop):Prop
 | mk (a:Addr) (e:x=.ref a) (s:∃xs,AQ K H a xs) (q:R (Jl K a) H):Uh K x H R
inductive Uv(K:PySem.W.Frag)(x:V)(H:Hp)(R:It->Hp->Prop):Prop
 | mk (a:Addr) (e:x=.ref a) (s:∃xs,AI K H a xs) (q:R (Jf K a) H):Uv K x H R
def U9(K:PySem.W.Frag)(tl:TE):TI:=λσ H R=>tl σ H λx H1=>Uh K x H1 R
def PU(K:PySem.W.Frag)(tl:TE):TI:=λσ H R=>tl σ H λx H1=>Uv K x H1 R
theorem JH{l:Expr}{tl:TE}(hl:PE X l tl):PI X tg l (U9 X.K tl):=by
 intro pins s σ H R I h;refine Af (hl pins s σ H _ I h) λv s1 ⟨x,H1,I1,r1,q1⟩=>?_
 obtain⟨a,e,⟨xs,hq⟩,q⟩:=q1;subst e;cases r1;obtain⟨its,rv,p,hz⟩:=I1.list hq;refine lI p.isList ?_;refine⟨s1.heap.objs.size,[s1.heap.objs.size],_,_,H1,rfl,I1.Bx (t':=s1.toks) λb o e=>i3 _ e,Yc a _,⟨_,jo _ rfl,rfl,rfl⟩,λb hb=>?_,q⟩;have e:b=s1.heap.objs.size:=by simpa using hb
 subst e;exact I1.HU (i4 _) (I1.hok.Br (i4 _))
theorem Fs{l:Expr}{tl:TE}(hl:PE X l tl):PI X tg l (PU X.K tl):=by
 intro pins s σ H R I h;refine Af (hl pins s σ H _ I h) λv s1 ⟨x,H1,I1,r1,q1⟩=>?_
 obtain⟨a,e,⟨xs,hq⟩,q⟩:=q1;subst e;cases r1;obtain⟨its,rv,p,hz⟩:=I1.tuple hq;refine kK (show s1.heap.IsTuple a its.toArray from p) ?_;refine⟨s1.heap.objs.size,[s1.heap.objs.size],_,_,H1,rfl,I1.Bx (t':=s1.toks) λb o e=>i3 _ e,Xc a _,⟨_,jo _ rfl,rfl,rfl⟩,λb hb=>?_,q⟩;have e:b=s1.heap.objs.size:=by simpa using hb
 subst e;exact I1.HU (i4 _) (I1.hok.Br (i4 _))
theorem Q6 {pins:List (Addr×Obj)} {σ:St} {H:Hp} {s:Shared} {R:It->Hp->Prop} {E:Value->Shared->Prop} {lo hi:Int} {t u v:Tok} {tk:Nat} (I:AK X pins σ H s) (h1:-(2 ^ 62)<=lo) (h2:lo<2 ^ 62) (h3:-(2 ^ 62)<=hi) (h4:hi<2 ^ 62)
  (q:R (FY lo (hi-lo).toNat) H):wpAny (model X.prog X.w) X.A (pyIter (.ref s.heap.objs.size)) (WT X pins σ tg R) E { s with heap:=s.heap.push { cls:=.type "range",data:=.fields #[.int lo t,.int hi u,.int 1 v] },toks:=tk }:=by
 refine qZ (rL ..) (small_one h1 h2 h3 h4) ?_;have I1:AK X pins σ H { s with heap:=s.heap.push { cls:=.type "range",data:=.fields #[.int lo t,.int hi u,.int 1 v] },toks:=tk }:=I.Bx λb o e=>i3 _ e
 refine⟨(s.heap.push { cls:=.type "range",data:=.fields #[.int lo t,.int hi u,.int 1 v] }).objs.size,[(s.heap.push { cls:=.type "range",data:=.fields #[.int lo t,.int hi u,.int 1 v] }).objs.size],_,_,H,rfl,
  I1.Bx (t':=tk) λb o e=>i3 _ e,Xj _ lo (hi-lo).toNat,?_,λb hb=>?_,q⟩
 ·have e1:lo+((0:Nat):Int)*1=lo:=by simp
  have e2:(((hi-lo).toNat:Nat):Int)-((0:Nat):Int)=Builtin.Range.rangeSize lo hi 1:=by rw[rangeSize_one]; split <;> omega
  show IsRangeIter _ _ (lo+((0:Nat):Int)*1) ((((hi-lo).toNat:Nat):Int)-((0:Nat):Int)) 1;rw[e1,e2];exact jo _ rfl
 ·have e:b=(s.heap.push { cls:=.type "range",data:=.fields #[.int lo t,.int hi u,.int 1 v] }).objs.size:=by simpa using hb
  subst e;exact I1.HU (i4 _) (I1.hok.Br (i4 _))
def dY(ta:TA):TI:=λσ H R=>ta σ H λvs H1=>∃j:Int,vs=[.int j]/\-(2 ^ 62)<=j/\j<2 ^ 62/\R (FY 0 j.toNat) H1
def dm(ta:TA):TI:=λσ H R=>ta σ H λvs H1=>∃i j:Int,vs=[.int i,.int j]/\(-(2 ^ 62)<=i/\i<2 ^ 62/\-(2 ^ 62)<=j/\j<2 ^ 62)/\R (FY i (j-i).toNat) H1
theorem Iw{a:Expr}{ta:TA}{p pos:Pos}(hg:Gl X "range")(hm:X.mg "range" = none)(ha:PA X [a] ta)(hs:starEach [a] X.env=[(false,eval a X.env)]:=by rfl):PI X tg (.Call (.Name "range" p) [a] [] pos) (dY ta):=by
 intro pins s σ H R I h;refine Call_ (FI I hg hm qt (j5 (Af (ha pos pins s σ H _ I h) λus s1 ⟨vs,H1,I1,r1,q1⟩=>?_) hs rfl));obtain⟨j,e,q1,q2,q⟩:=q1;subst e;cases r1 with
 | cons r rr =>
  cases rr;obtain⟨t,rfl⟩:=r;exact call_range_1 (Q6 I1 (by omega) (by omega) q1 q2 (by simpa using q))
theorem YN{a b:Expr}{ta:TA}{p pos:Pos}(hg:Gl X "range")(hm:X.mg "range" = none)(ha:PA X [a,b] ta)(hs:starEach [a,b] X.env=[(false,eval a X.env),(false,eval b X.env)]:=by rfl)(hs2:starEach [b] X.env=[(false,eval b X.env)]:=by rfl):
  PI X tg (.Call (.Name "range" p) [a,b] [] pos) (dm ta):=by
 intro pins s σ H R I h;refine Call_ (FI I hg hm qt (j5 (Af (ha pos pins s σ H _ I h) λus s1 ⟨vs,H1,I1,r1,q1⟩=>?_) (by rw[hs,hs2]) (by rw[hs2]; rfl)));obtain⟨i,j,e,⟨q1,q2,q3,q4⟩,q⟩:=q1;subst e;cases r1 with
 | cons r rr =>
  cases rr with
  | cons r' rr =>
   cases rr;obtain⟨t,rfl⟩:=r;obtain⟨t',rfl⟩:=r';exact call_range_2 (Q6 I1 q1 q2 q3 q4 q)
def PL(wi:TI)(g:TG)(tb:TS):TS:=λD σ H=>wi σ H λJ H1=>∃W:Nat->Nat->St->Hp->Prop,(∃m,W 0 m σ H1)/\∀i m σ H,W i m σ H →
 (J.stop i H/\D.nx σ H)\/(J.go i H/\∃N:St->Hp->Prop,(∀σ' H',N σ' H'->∃m',m' < m/\W (i+1) m' σ' H')/\∀x H',J.ED i H x H'->g x σ H' λσ2 H2=>tb { D with nx:=N,ct:=N,bk:=D.nx } σ2 H2)
def KL(fp:List Addr)(h:Heap):List (Addr×Obj):=fp.filterMap λb=>(h.get? b).map λo=>(b,o)
theorem LC{fp:List Addr}{h:Heap}{b:Addr}{o:Obj}(hb:b∈fp)(e:h.get? b=some o):(b,o)∈KL fp h:=qL.mpr ⟨b,hb,by rw[e]; rfl⟩
theorem YH{fp:List Addr}{h:Heap}{p:Addr×Obj}(hp:p∈KL fp h):p.1∈fp/\h.get? p.1=some p.2:=by
 obtain⟨b,hb,e⟩:=qL.mp hp;cases q:h.get? b with
 | none=>rw[q] at e; cases e
 | some o =>
  rw[q] at e;have e':(b,o)=p:=je e;subst e';exact⟨hb,q⟩
theorem AK.Tf{pins:List (Addr×Obj)}{σ:St}{H:Hp}{s:Shared}{fp:List Addr}(I:AK X pins σ H s)(hf:∀b∈fp,FU X pins H b)(ho:∀b∈fp,∃o,s.heap.get? b=some o/\∀v,o.data≠.cell v):AK X (pins++KL fp s.heap) σ H s :=
 I.S2 λp hp=>(i9.mp hp).elim (λz=>I.pin p (jC _ z)) λz=>by
  obtain⟨hb,e⟩:=YH z;obtain⟨f0,f1,f2,_⟩:=hf p.1 hb;obtain⟨o,e',d⟩:=ho p.1 hb;rw[e] at e'; cases e';exact⟨e,f0,f1,f2,d⟩
theorem AK.Ju{pins pl:List (Addr×Obj)}{σ:St}{H:Hp}{s:Shared}(I:AK X (pins++pl) σ H s):AK X pins σ H s:=I.S2 λp hp=>I.pin p (jC _ (kM _ hp))
theorem CQ {iter:Expr} {body:List Stmt} {wi:TI} {g:TG} {tb:TS} {pos:Pos} (hp:PassesOwn (model X.prog X.w) X.A X.env X.xe) (hc:X.Ci=true) (hi:PI X tg iter wi) (hg:PG X tg g) (hb:DF X body tb)
  (hs:∀x,foldedSetIterable iter X.env x=pure x:=by intro _; rfl):PS X (.For tg iter body [] pos) (PL wi g tb):=by
 intro pins s σ H D I h;refine wpAny_For (Af (hi pins s σ H _ I h) λv s1 h1=>Af h1 λitv s2 h2=>?_) hs;obtain⟨it,fp,tn,J,H2,e,I2,T,st2,f2,W,⟨m0,w0⟩,turn⟩:=h2;subst e;have stat:∀{H':Hp},(∀b∈fp,H' b=none)->∀b∈fp,FU X pins H' b:=λhn b hb=>⟨hn b hb,(f2 b hb).2⟩
 refine codeAny_forLoop_any (λn s'=>∃i σ' H',AK X pins σ' H' s'/\tn i s'.heap/\(∀b∈fp,H' b=none)/\W i n σ' H') ?_ m0 ⟨0,σ,H2,I2,st2,λb hb=>(f2 b hb).1,w0⟩;rintro n s3 ⟨i,σ3,H3,I3,st3,fr3,w3⟩;rcases turn i n σ3 H3 w3 with ⟨stop,qn⟩ | ⟨go,N,hN,step⟩
 ·refine lU hp (Af (T.done X rfl rfl rfl hc i pins s3 σ3 H3 X.xe I3 (stat fr3) st3 stop) λr s4 ⟨hr,I4⟩=>?_);subst hr;exact oC ⟨σ3,H3,I4,qn⟩
 ·refine lU hp (Af (T.item X rfl rfl rfl hc i pins s3 σ3 H3 X.xe I3 (stat fr3) st3 go) λr s4 ⟨u,hr,h4⟩=>?_);subst hr;refine lU hp (Af h4 λ_ s5 ⟨x,H5,I5,r5,y5,st5,fr5⟩=>?_);have I5':=I5.Tf (stat fr5) (T.obj _ _ st5);refine lU hp (Af (hg _ s5 σ3 H5 x u _ I5' r5 (step x H5 y5)) λ_ s6 ⟨σ6,H6,I6,q6⟩=>?_);refine lU hp (Af (hb _ s6 σ6 H6 _ I6 q6) λf s7 q7=>?_);have again:∀{σ7:St} {H7:Hp},AK X (pins++KL fp s5.heap) σ7 H7 s7->N σ7 H7->∃m,m<n/\∃i σ' H',AK X pins σ' H' s7/\tn i s7.heap/\(∀b∈fp,H' b=none)/\W i m σ' H':=λ{σ7 H7} I7 n7=>by
   obtain⟨m',hm,w7⟩:=hN σ7 H7 n7;refine⟨m',hm,i+1,σ7,H7,I7.Ju,T.keep _ _ _ st5 λb hb o e=>(I7.pin (b,o) (jC _ (jC _ (LC hb e)))).1,λb hb=>?_,w7⟩;obtain⟨o,e,d⟩:=T.obj _ _ st5 b hb;exact(I7.pin (b,o) (jC _ (jC _ (LC hb e)))).2.1
  cases f with
  | next=>obtain⟨σ7,H7,I7,n7⟩:=q7; exact again I7 n7
  | cont=>obtain⟨σ7,H7,I7,n7⟩:=q7; exact again I7 n7
  | brk=>obtain⟨σ7,H7,I7,q7⟩:=q7; exact⟨σ7,H7,I7.Ju,q7⟩
  | ret v=>obtain⟨x7,σ7,H7,I7,r7,q7⟩:=q7; exact⟨x7,σ7,H7,I7.Ju,r7,q7⟩
end
theorem Y1 {K:PySem.W.Frag} {a:Addr} {xs:List V} {g:TG} {tb:TS} {D:DQ} {σ:St} {H:Hp} (Pv:Nat->St->Hp->Prop) (h0:Pv 0 σ H) (hl:∀i σ H,i<=xs.length->Pv i σ H->AQ K H a xs)
  (hs:∀i x σ H,xs[i]?=some x->Pv i σ H->g x σ H λσ2 H2=>tb { D with nx:=Pv (i+1),ct:=Pv (i+1),bk:=D.nx } σ2 H2) (hd:∀σ H,Pv xs.length σ H->D.nx σ H) :
  ∃W:Nat->Nat->St->Hp->Prop,(∃m,W 0 m σ H)/\∀i m σ H,W i m σ H →
   ((Jl K a).stop i H/\D.nx σ H)\/((Jl K a).go i H/\∃N:St->Hp->Prop,(∀σ' H',N σ' H'->∃m',m' < m/\W (i+1) m' σ' H')/\∀x H',(Jl K a).ED i H x H'->g x σ H' λσ2 H2=>tb { D with nx:=N,ct:=N,bk:=D.nx } σ2 H2):=by
 refine⟨λi m σ H=>m=xs.length-i/\i<=xs.length/\Pv i σ H,⟨xs.length,by simp,jS _,h0⟩,?_⟩;rintro i m σ H ⟨rfl,hi,p⟩;have q:=hl i σ H hi p;by_cases hlt:i<xs.length
 ·refine .inr ⟨⟨xs,xs[i],q,by simp[hlt]⟩,Pv (i+1),λσ' H' p'=>⟨xs.length-(i+1),by omega,rfl,hlt,p'⟩,λx H' y=>?_⟩;obtain⟨e,y⟩:=y;subst e;exact hs i x σ _ (y xs q) p
 ·have e:i=xs.length:=by omega
  subst e;exact .inl ⟨⟨xs,q,i4 _⟩,hd σ H p⟩
theorem IA {K:PySem.W.Frag} {a:Addr} {xs:List V} {g:TG} {tb:TS} {D:DQ} {σ:St} {H:Hp} (Pv:Nat->St->Hp->Prop) (h0:Pv 0 σ H) (hl:∀i σ H,i<=xs.length->Pv i σ H->AI K H a xs)
  (hs:∀i x σ H,xs[i]?=some x->Pv i σ H->g x σ H λσ2 H2=>tb { D with nx:=Pv (i+1),ct:=Pv (i+1),bk:=D.nx } σ2 H2) (hd:∀σ H,Pv xs.length σ H->D.nx σ H) :
  ∃W:Nat->Nat->St->Hp->Prop,(∃m,W 0 m σ H)/\∀i m σ H,W i m σ H →
   ((Jf K a).stop i H/\D.nx σ H)\/((Jf K a).go i H/\∃N:St->Hp->Prop,(∀σ' H',N σ' H'->∃m',m' < m/\W (i+1) m' σ' H')/\∀x H',(Jf K a).ED i H x H'->g x σ H' λσ2 H2=>tb { D with nx:=N,ct:=N,bk:=D.nx } σ2 H2):=by
 refine⟨λi m σ H=>m=xs.length-i/\i<=xs.length/\Pv i σ H,⟨xs.length,by simp,jS _,h0⟩,?_⟩;rintro i m σ H ⟨rfl,hi,p⟩;have q:=hl i σ H hi p;by_cases hlt:i<xs.length
 ·refine .inr ⟨⟨xs,xs[i],q,by simp[hlt]⟩,Pv (i+1),λσ' H' p'=>⟨xs.length-(i+1),by omega,rfl,hlt,p'⟩,λx H' y=>?_⟩;obtain⟨e,y⟩:=y;subst e;exact hs i x σ _ (y xs q) p
 ·have e:i=xs.length:=by omega
  subst e;exact .inl ⟨⟨xs,q,i4 _⟩,hd σ H p⟩
theorem LM {lo:Int} {n:Nat} {g:TG} {tb:TS} {D:DQ} {σ:St} {H:Hp} (Pv:Nat->St->Hp->Prop) (h0:Pv 0 σ H)
  (hs:∀i σ H,i<n->Pv i σ H->g (.int (lo+i)) σ H λσ2 H2=>tb { D with nx:=Pv (i+1),ct:=Pv (i+1),bk:=D.nx } σ2 H2) (hd:∀σ H,Pv n σ H->D.nx σ H) :
  ∃W:Nat->Nat->St->Hp->Prop,(∃m,W 0 m σ H)/\∀i m σ H,W i m σ H →
   ((FY lo n).stop i H/\D.nx σ H)\/((FY lo n).go i H/\∃N:St->Hp->Prop,(∀σ' H',N σ' H'->∃m',m' < m/\W (i+1) m' σ' H')/\∀x H',(FY lo n).ED i H x H'->g x σ H' λσ2 H2=>tb { D with nx:=N,ct:=N,bk:=D.nx } σ2 H2):=by
 refine⟨λi m σ H=>m=n-i/\i<=n/\Pv i σ H,⟨n,by simp,jS _,h0⟩,?_⟩;rintro i m σ H ⟨rfl,hi,p⟩;by_cases hlt:i<n
 ·refine .inr ⟨hlt,Pv (i+1),λσ' H' p'=>⟨n-(i+1),by omega,rfl,hlt,p'⟩,λx H' y=>?_⟩;obtain⟨e,y⟩:=y;subst e y;exact hs i σ _ hlt p
 ·have e:i=n:=by omega
  subst e;exact .inl ⟨i4 _,hd σ H p⟩
theorem Hv {c:TT} {tb:TS} {D:DQ} {σ:St} {H:Hp} (Pv:St->Hp->Prop) (μ:St->Hp->Nat) (h0:Pv σ H)
  (hs:∀σ H,Pv σ H->c σ H λb H1=>if b=true then tb { D with nx:=λσ' H'=>Pv σ' H'/\μ σ' H' < μ σ H,ct:=λσ' H'=>Pv σ' H'/\μ σ' H' < μ σ H,bk:=D.nx } σ H1 else D.nx σ H1)
  (mono:∀σ H Q Q',(∀b H1,Q b H1->Q' b H1)->c σ H Q->c σ H Q'):UR c tb D σ H:=by
 refine⟨λm σ H=>m=μ σ H/\Pv σ H,⟨_,rfl,h0⟩,?_⟩;rintro m σ H ⟨rfl,p⟩;refine mono σ H _ _ (λb H1 q=>?_) (hs σ H p);cases b with
 | true=>exact⟨_,λσ' H' ⟨p',l⟩=>⟨_,l,rfl,p'⟩,q⟩
 | false=>exact q
abbrev R2:=V->V->Hp->VK->Prop
def Bo(X:Cx)(f:Value->Value->Sem Value)(r:R2):Prop :=
 ∀(pins:List (Addr×Obj)) (s:Shared) (σ:St) (H:Hp) (x y:V) (v u:Value) (Q:VK),AK X pins σ H s->Aw x v->Aw y u->r x y H Q →
  wpAny (model X.prog X.w) X.A (f v u) (EP X pins σ Q) X.xe s
def Ph(X:Cx)(f:Value->Sem Value)(r:V->Hp->VK->Prop):Prop :=
 ∀(pins:List (Addr×Obj)) (s:Shared) (σ:St) (H:Hp) (x:V) (v:Value) (Q:VK),AK X pins σ H s->Aw x v->r x H Q →
  wpAny (model X.prog X.w) X.A (f v) (EP X pins σ Q) X.xe s
def DJ(X:Cx)(f:Value)(r:List V->Hp->VK->Prop):Prop :=
 ∀(pins:List (Addr×Obj)) (s:Shared) (σ:St) (H:Hp) (xs:List V) (us:List Value) (Q:VK),AK X pins σ H s->Ah xs us->r xs H Q →
  wpAny (model X.prog X.w) X.A (call f us) (EP X pins σ Q) X.xe s
def Bd(r:R2)(ta tb:TE):TE:=λσ H Q=>ta σ H λx H1=>tb σ H1 λy H2=>r x y H2 Q
def Wh(r:V->Hp->VK->Prop)(ta:TE):TE:=λσ H Q=>ta σ H λx H1=>r x H1 Q
inductive IR(C:Int->Int->Prop)(g:Int->Int->V)(x y:V)(H:Hp)(Q:VK):Prop
 | mk (i j:Int) (a:x=.int i) (b:y=.int j) (c:C i j) (q:Q (g i j) H):IR C g x y H Q
def rI(C:Int->Int->Prop)(g:Int->Int->V):R2:=λx y H Q=>IR C g x y H Q
inductive WY(g:Int->Int->V)(x y:V)(H:Hp)(Q:VK):Prop
 | mk (i j:Int) (a:x=.int i) (b:y=.int j) (q:Q (g i j) H):WY g x y H Q
def Ez(g:Int->Int->V):R2:=λx y H Q=>WY g x y H Q
def rU(g:Int->V):V->Hp->VK->Prop:=λx H Q=>∃i,x=.int i/\Q (g i) H
section
variable {X:Cx} {a b c:Expr} {ta tb tc:TE} {pos:Pos}
theorem PH (ha:PE X a ta) (hb:PE X b tb) {pins:List (Addr×Obj)} {s:Shared} {σ:St} {H:Hp} {R:V->V->Hp->Prop} (I:AK X pins σ H s)
  (h:ta σ H λx H1=>tb σ H1 λy H2=>R x y H2) {Q:Value->Shared->Prop} {f:Value->Value->Sem Value}
  (hf:∀v u s2 x y H2,AK X pins σ H2 s2->Aw x v->Aw y u->R x y H2->wpAny (model X.prog X.w) X.A (f v u) Q X.xe s2) :
  wpAny (model X.prog X.w) X.A (eval a X.env) (λv s₁=>wpAny (model X.prog X.w) X.A (eval b X.env) (λu s₂=>wpAny (model X.prog X.w) X.A (f v u) Q X.xe s₂) X.xe s₁) X.xe s:=by
 refine Af (ha pins s σ H _ I h) λv s1 ⟨x,H1,I1,r1,q1⟩=>?_
 refine Af (hb pins s1 σ H1 _ I1 q1) λu s2 ⟨y,H2,I2,r2,q2⟩=>?_
 exact hf v u s2 x y H2 I2 r1 r2 q2
theorem AM{op:Operator}{r:R2}(ho:Bo X (binaryOp op) r)(ha:PE X a ta)(hb:PE X b tb):PE X (.BinOp a op b pos) (Bd r ta tb):=by
 intro pins s σ H Q I h;exact wpAny_BinOp (PH ha hb I h λv u s2 x y H2 I2 rx ry q=>ho pins s2 σ H2 x y v u Q I2 rx ry q)
theorem Ga{op:UnaryOp}{r:V->Hp->VK->Prop}(ho:Ph X (unaryOp op) r)(ha:PE X a ta):PE X (.UnaryOp op a pos) (Wh r ta):=by
 intro pins s σ H Q I h;exact UnaryOp_ (Af (ha pins s σ H _ I h) λv s1 ⟨x,H1,I1,r1,q1⟩=>ho pins s1 σ H1 x v Q I1 r1 q1)
theorem Ii {f:Value->Value->Sem Value} {C:Int->Int->Prop} {g:Int->Int->Int}
  (rule:∀(i j:Int) (t u:Tok) (s:Shared) (Q:Value->Shared->Prop) (E:Value->Shared->Prop),C i j->Q (.int (g i j) s.toks) { s with toks:=s.toks+1 }->wpAny (model X.prog X.w) X.A (f (.int i t) (.int j u)) Q E s) :
  Bo X f (rI C λi j=>.int (g i j)):=by
 intro pins s σ H x y v u Q I rx ry h;obtain⟨i,j,rfl,rfl,hc,q⟩:=h;obtain⟨t,rfl⟩:=rx;obtain⟨t',rfl⟩:=ry;exact rule i j t t' s _ _ hc ⟨.int (g i j),H,I.Dk _,⟨_,rfl⟩,q⟩
theorem PF {f:Value->Value->Sem Value} {g:Int->Int->Int}
  (rule:∀(i j:Int) (t u:Tok) (s:Shared) (Q:Value->Shared->Prop) (E:Value->Shared->Prop),Q (.int (g i j) s.toks) { s with toks:=s.toks+1 }->wpAny (model X.prog X.w) X.A (f (.int i t) (.int j u)) Q E s) :
  Bo X f (Ez λi j=>.int (g i j)):=by
 intro pins s σ H x y v u Q I rx ry h;obtain⟨i,j,rfl,rfl,q⟩:=h;obtain⟨t,rfl⟩:=rx;obtain⟨t',rfl⟩:=ry;exact rule i j t t' s _ _ ⟨.int (g i j),H,I.Dk _,⟨_,rfl⟩,q⟩
theorem Ow {f:Value->Value->Sem Value} {g:Int->Int->Bool}
  (rule:∀(i j:Int) (t u:Tok) (s:Shared) (Q:Value->Shared->Prop) (E:Value->Shared->Prop),Q (.bool (g i j)) s->wpAny (model X.prog X.w) X.A (f (.int i t) (.int j u)) Q E s) :
  Bo X f (Ez λi j=>.bl (g i j)):=by
 intro pins s σ H x y v u Q I rx ry h;obtain⟨i,j,rfl,rfl,q⟩:=h;obtain⟨t,rfl⟩:=rx;obtain⟨t',rfl⟩:=ry;exact rule i j t t' s _ _ ⟨.bl (g i j),H,I,rfl,q⟩
def MQ(i j:Int):Prop:=0<j/\j<1073741824
def fZ(i j:Int):Prop:=0<=j/\j<=1000000/\i.natAbs<2 ^ 64
def IX(i j:Int):Prop:=(-(2 ^ 64)<i/\i<2 ^ 64)\/(-(2 ^ 64)<j/\j<2 ^ 64)
theorem IX.ok{i j:Int}(h:IX i j):IntMulOk i j:=by
 rcases h with ⟨h1,h2⟩ | ⟨h1,h2⟩
 ·exact .of_left (intBits_le_64 h1 h2)
 ·exact .of_right (intBits_le_64 h1 h2)
theorem Bc:Bo X (binaryOp .Add) (Ez λi j=>.int (i+j)):=PF λ_ _ _ _ _ _ _ q=>add_int q
theorem DW:Bo X (binaryOp .Sub) (Ez λi j=>.int (i-j)):=PF λ_ _ _ _ _ _ _ q=>sub_int q
theorem Bw:Bo X (binaryOp .Mult) (rI IX λi j=>.int (i*j)):=Ii λ_ _ _ _ _ _ _ hc q=>mul_int q hc.ok
theorem ES:Bo X (binaryOp .FloorDiv) (rI MQ λi j=>.int (i / j)):=Ii λi j _ _ _ _ _ hc q=>by
 have h1:(0:Int)<j:=hc.1;have h2:j<1073741824:=hc.2;exact floordiv_int (by omega) (by rw[Int.fdiv_eq_ediv_of_nonneg i (by omega)]; exact q) (.inl (pU (by omega)))
theorem CH:Bo X (binaryOp .Mod) (rI (λ_ j=>0<j) λi j=>.int (i % j)):=Ii λi j _ _ _ _ _ hc q=>by
 have h1:(0:Int)<j:=hc;exact mod_int' (by omega) (by rw[oU i (by omega)]; exact q)
theorem Z4:Bo X (binaryOp .Mod) (rI (λ_ j=>j≠0) λi j=>.int (i.fmod j)):=Ii λ_ _ _ _ _ _ _ hc q=>mod_int' hc q
theorem cu:Bo X (binaryOp .Pow) (rI fZ λi j=>.int (i ^ j.toNat)):=Ii λ_ _ _ _ _ _ _ hc q=>pow_int_small hc.1 hc.2.1 hc.2.2 q
theorem KO:Bo X (binaryOp .BitXor) (Ez λi j=>.int (Builtin.bitXor i j)):=PF λ_ _ _ _ _ _ _ q=>xor_int q
theorem iC {f:Value->Sem Value} {g:Int->Int}
  (rule:∀(i:Int) (t:Tok) (s:Shared) (Q:Value->Shared->Prop) (E:Value->Shared->Prop),Q (.int (g i) s.toks) { s with toks:=s.toks+1 }->wpAny (model X.prog X.w) X.A (f (.int i t)) Q E s) :
  Ph X f (rU λi=>.int (g i)):=by
 intro pins s σ H x v Q I rx h;obtain⟨i,rfl,q⟩:=h;obtain⟨t,rfl⟩:=rx;exact rule i t s _ _ ⟨.int (g i),H,I.Dk _,⟨_,rfl⟩,q⟩
theorem GX:Ph X (unaryOp .USub) (rU λi=>.int (-i)):=iC λ_ _ _ _ _ q=>neg_int q
end
def Vp:V->V->Bool
 | .BD,.BD=>true | .BD,.int _=>true | .int _,.BD=>true | .BD,.bl _=>true | .bl _,.BD=>true | .BD,.str _=>true | .str _,.BD=>true
 | .int _,.int _=>true | .bl _,.bl _=>true | .str _,.str _=>true | .FZ _,.FZ _=>true
 | .int _,.str _=>true | .str _,.int _=>true | .bl _,.str _=>true | .str _,.bl _=>true
 | _,_=>false
inductive Wc(x y:V)(H:Hp)(Q:VK):Prop
 | mk (c:Vp x y=true) (q:Q (.bl (decide (x=y))) H):Wc x y H Q
inductive WZ(x y:V)(H:Hp)(Q:VK):Prop
 | mk (c:Vp x y=true) (q:Q (.bl (!decide (x=y))) H):WZ x y H Q
def Wj:R2:=λx y H Q=>Wc x y H Q
def P1:R2:=λx y H Q=>WZ x y H Q
theorem TB{i j:Int}:decide (V.int i=V.int j)=(i == j):=by
 rw[mD];simp
theorem UB{i j:Bool}:decide (V.bl i=V.bl j)=(i == j):=by
 rw[mD];simp
theorem S3{i j:Str}:decide (V.str i=V.str j)=(i == j):=by
 rw[mD];simp
theorem SO{i j:Array UInt8}:decide (V.FZ i=V.FZ j)=(i.toList == j.toList):=by
 rw[mD];cases i;cases j;simp
section
variable {X:Cx} {a b c:Expr} {ta tb tc:TE} {pos:Pos}
theorem Bq{pins:List (Addr×Obj)}{σ:St}{H:Hp}{s:Shared}{Q:VK}{k k':Bool}(I:AK X pins σ H s)(q:Q (.bl k) H)(e:k=k'):EP X pins σ Q (.bool k') s:=by
 subst e;exact⟨.bl k,H,I,rfl,q⟩
theorem EX:Bo X (compareOp .Eq) Wj:=by
 intro pins s σ H x y v u Q I rx ry h;obtain⟨hs,q⟩:=h;cases x with
 | BD =>
  cases rx;cases y with
  | BD=>cases ry; exact PySem.EqNone.eq_none_none (Bq I q (by simp))
  | bl j=>cases ry; exact PySem.EqNone.eq_none_bool (Bq I q (by simp))
  | int j=>obtain⟨t',rfl⟩:=ry; exact PySem.EqNone.eq_none_int (Bq I q (by simp))
  | str j=>obtain⟨t',rfl⟩:=ry; exact PySem.EqNone.eq_none_str (Bq I q (by simp))
  | _=>exact absurd (show false=true from hs) jr
 | bl i =>
  cases rx;cases y with
  | BD=>cases ry; exact PySem.EqNone.eq_bool_none (Bq I q (by simp))
  | bl j=>cases ry; exact eq_bool (Bq I q UB)
  | str j=>obtain⟨t',rfl⟩:=ry; exact PySem.EqMixed.eq_bool_str (Bq I q (by simp))
  | _=>exact absurd (show false=true from hs) jr
 | int i =>
  obtain⟨t,rfl⟩:=rx;cases y with
  | BD=>cases ry; exact PySem.EqNone.eq_int_none (Bq I q (by simp))
  | int j=>obtain⟨t',rfl⟩:=ry; exact eq_int (Bq I q TB)
  | str j=>obtain⟨t',rfl⟩:=ry; exact PySem.EqMixed.eq_int_str (Bq I q (by simp))
  | _=>exact absurd (show false=true from hs) jr
 | str i =>
  obtain⟨t,rfl⟩:=rx;cases y with
  | BD=>cases ry; exact PySem.EqNone.eq_str_none (Bq I q (by simp))
  | bl j=>cases ry; exact PySem.EqMixed.eq_str_bool (Bq I q (by simp))
  | int j=>obtain⟨t',rfl⟩:=ry; exact PySem.EqMixed.eq_str_int (Bq I q (by simp))
  | str j=>obtain⟨t',rfl⟩:=ry; exact eq_str (Bq I q S3)
  | _=>exact absurd (show false=true from hs) jr
 | FZ i =>
  obtain⟨t,rfl⟩:=rx;cases y with
  | FZ j=>obtain⟨t',rfl⟩:=ry; exact PySem.W.eq_bytes (Bq I q SO)
  | _=>exact absurd (show false=true from hs) jr
 | _=>cases y <;> exact absurd (show false=true from hs) jr
theorem Dd:Bo X (compareOp .NotEq) P1:=by
 intro pins s σ H x y v u Q I rx ry h;obtain⟨hs,q⟩:=h;cases x with
 | BD =>
  cases rx;cases y with
  | BD=>cases ry; exact PySem.EqNone.ne_none_none (Bq I q (by simp))
  | bl j=>cases ry; exact PySem.EqNone.ne_none_bool (Bq I q (by simp))
  | int j=>obtain⟨t',rfl⟩:=ry; exact PySem.EqNone.ne_none_int (Bq I q (by simp))
  | str j=>obtain⟨t',rfl⟩:=ry; exact PySem.EqNone.ne_none_str (Bq I q (by simp))
  | _=>exact absurd (show false=true from hs) jr
 | bl i =>
  cases rx;cases y with
  | BD=>cases ry; exact PySem.EqNone.ne_bool_none (Bq I q (by simp))
  | bl j=>cases ry; exact ne_bool (Bq I q (congrArg not UB))
  | str j=>obtain⟨t',rfl⟩:=ry; exact PySem.EqMixed.ne_bool_str (Bq I q (by simp))
  | _=>exact absurd (show false=true from hs) jr
 | int i =>
  obtain⟨t,rfl⟩:=rx;cases y with
  | BD=>cases ry; exact PySem.EqNone.ne_int_none (Bq I q (by simp))
  | int j=>obtain⟨t',rfl⟩:=ry; exact ne_int (Bq I q (congrArg not TB))
  | str j=>obtain⟨t',rfl⟩:=ry; exact PySem.EqMixed.ne_int_str (Bq I q (by simp))
  | _=>exact absurd (show false=true from hs) jr
 | str i =>
  obtain⟨t,rfl⟩:=rx;cases y with
  | BD=>cases ry; exact PySem.EqNone.ne_str_none (Bq I q (by simp))
  | bl j=>cases ry; exact PySem.EqMixed.ne_str_bool (Bq I q (by simp))
  | int j=>obtain⟨t',rfl⟩:=ry; exact PySem.EqMixed.ne_str_int (Bq I q (by simp))
  | str j=>obtain⟨t',rfl⟩:=ry; exact ne_str (Bq I q (congrArg not S3))
  | _=>exact absurd (show false=true from hs) jr
 | FZ i =>
  obtain⟨t,rfl⟩:=rx;cases y with
  | FZ j=>obtain⟨t',rfl⟩:=ry; exact PySem.W.ne_bytes (Bq I q (congrArg not SO))
  | _=>exact absurd (show false=true from hs) jr
 | _=>cases y <;> exact absurd (show false=true from hs) jr
theorem L7:Bo X (compareOp .Lt) (Ez λi j=>.bl (decide (i<j))):=Ow λ_ _ _ _ _ _ _ q=>lt_int q
theorem eW:Bo X (compareOp .LtE) (Ez λi j=>.bl (decide (i<=j))):=Ow λ_ _ _ _ _ _ _ q=>le_int q
theorem L6:Bo X (compareOp .Gt) (Ez λi j=>.bl (decide (j<i))):=Ow λ_ _ _ _ _ _ _ q=>gt_int q
theorem T4:Bo X (compareOp .Is) (λx y H Q=>y=.BD/\Q (.bl (decide (x=.BD))) H):=by
 intro pins s σ H x y v u Q I rx ry h;obtain⟨rfl,q⟩:=h;cases ry;refine is_none_gen (Bq I q ?_);cases x <;> first
  | (cases rx; rfl)
  | (obtain⟨t,rfl⟩:=rx; rfl)
theorem BH(b:Expr){op:CmpOp}(h:op≠.In:=by decide)(h2:op≠.NotIn:=by decide):behindInMarks op b=false:=by
 have e1:(op == CmpOp.In)=false:=by cases op <;> first | rfl | exact absurd rfl h
 have e2:(op == CmpOp.NotIn)=false:=by cases op <;> first | rfl | exact absurd rfl h2
 cases b <;> simp[behindInMarks,e1,e2]
theorem JG{op:CmpOp}{r:R2}(ho:Bo X (compareOp op) r)(ha:PE X a ta)(hb:PE X b tb)(hm:behindInMarks op b=false):PE X (.Compare a [op] [b] pos) (Bd r ta tb):=by
 intro pins s σ H Q I h;exact wpAny_Compare1 (PH ha hb I h λv u s2 x y H2 I2 rx ry q=>ho pins s2 σ H2 x y v u Q I2 rx ry q) hm
def MD(t:TE):TT:=λσ H Q=>t σ H λx H'=>Pj x H' Q
theorem BN{op:CmpOp}{r:R2}(ho:Bo X (compareOp op) r)(ha:PE X a ta)(hb:PE X b tb)(hm:behindInMarks op b=false):PT X (.Compare a [op] [b] pos) (MD (Bd r ta tb)):=by
 intro pins s σ H Q I h;refine qm (Af (ha pins s σ H _ I h) λv s1 ⟨x,H1,I1,r1,q1⟩=>Af (hb pins s1 σ H1 _ I1 q1) λu s2 ⟨y,H2,I2,r2,q2⟩ =>
  Af (ho pins s2 σ H2 x y v u _ I2 r1 r2 q2) λc s3 ⟨z,H3,I3,r3,k,e,q3⟩=>?_) hm
 subst e;cases r3;exact mO ⟨H3,I3,q3⟩
theorem Lq:(sizeLine:Nat)<2 ^ 63:=by rw[kn]; decide
theorem Er{x:V}{us:List Value}(r:Ah [x] us):∃u,us=[u]/\Aw x u:=by
 cases r with
 | cons r1 r2=>cases r2; exact⟨_,rfl,r1⟩
theorem Kk{x y:V}{us:List Value}(r:Ah [x,y] us):∃u w',us=[u,w']/\Aw x u/\Aw y w':=by
 cases r with
 | cons r1 r2 =>
  cases r2 with
  | cons r3 r4=>cases r4; exact⟨_,_,rfl,r1,r3⟩
theorem LV:DJ X (.builtin "abs") (λxs H Q=>∃i,xs=[.int i]/\Q (.int (if i<0 then -i else i)) H):=by
 intro pins s σ H xs us Q I r h;obtain⟨i,rfl,q⟩:=h;obtain⟨u,rfl,t,rfl⟩:=Er r;exact call_abs_int λu tk=>⟨.int (if i<0 then -i else i),H,I.Dk _,⟨_,rfl⟩,q⟩
theorem X8(hc:X.Ci=true):DJ X (.builtin "max") (λxs H Q=>∃i j,xs=[.int i,.int j]/\Q (.int (if j > i then j else i)) H):=by
 intro pins s σ H xs us Q I r h;obtain⟨i,j,rfl,q⟩:=h;obtain⟨u,w',rfl,⟨t,rfl⟩,⟨t',rfl⟩⟩:=Kk r;refine max_two_ints (I.ok.hd hc) λh' tk k=>⟨_,H,I.Bx k,?_,q⟩
 by_cases hj:j > i
 ·rw[i5 hj,i5 hj]; exact⟨_,rfl⟩
 ·rw[iz hj,iz hj]; exact⟨_,rfl⟩
theorem YK(hc:X.Ci=true):DJ X (.builtin "min") (λxs H Q=>∃i j,xs=[.int i,.int j]/\Q (.int (if j<i then j else i)) H):=by
 intro pins s σ H xs us Q I r h;obtain⟨i,j,rfl,q⟩:=h;obtain⟨u,w',rfl,⟨t,rfl⟩,⟨t',rfl⟩⟩:=Kk r;refine min_two_ints (I.ok.hd hc) λh' tk k=>⟨_,H,I.Bx k,?_,q⟩
 by_cases hj:j<i
 ·rw[i5 hj,i5 hj]; exact⟨_,rfl⟩
 ·rw[iz hj,iz hj]; exact⟨_,rfl⟩
end
structure Kn(h:Heap)(x dx C:Addr)(mA:Str->Option Value):Prop where
 obj:h.get? x=some (PySem.W.instObj C dx)
 ns:h.Ns1 dx mA
 ne:dx≠x
theorem YV{h:Heap}{dx:Addr}{mA:Str->Option Value}(n:h.Ns1 dx mA):∃od,h.get? dx=some od/\∀name,PySem.W.lookIn name od=some (mA name):=by
 obtain⟨o,es,ep,ho,hd,hk,_,hm⟩:=n;refine⟨o,ho,λname=>?_⟩;have e:=hm name;unfold nsFind findBy at e;rw[<-Array.find?_toList] at e;unfold PySem.W.lookIn;rw[hd];dsimp only;split
 ·rename_i y q
  rw[q] at e;exact congrArg some e
 ·rename_i q
  rw[q] at e;have a:es.toList.any (·.refKey)=false:=by
   rw[List.any_eq_false];intro y hy;obtain⟨z,t,hkey⟩:=hk y (Array.mem_toList_iff.mp hy);simp[DictEntry.refKey,hkey]
  have a':¬es.toList.any (·.refKey)=true:=by rw[a]; exact jr
  rw[iz a'];exact congrArg some e
theorem Kn.Fz{h:Heap}{x dx C:Addr}{mA:Str->Option Value}(I:Kn h x dx C mA):∃od,PySem.W.InstAt h x (PySem.W.instObj C dx) C (some od)/\∀name,PySem.W.lookIn name od=some (mA name) :=
 let ⟨od,ho,hl⟩:=YV I.ns
 ⟨od,⟨I.obj,rfl,rfl,ho⟩,hl⟩
section
variable {prog:Program} {w:World} {A:Around} {E:Value->Shared->Prop} {s:Shared} {K:PySem.W.Frag} {x dx C f:Addr} {mA:Str->Option Value} {name:Str} {v:Value}
theorem Rz {ns:List Str} {Q:Unit->Shared->Prop} (X:K.In s.heap) (I:Kn s.heap x dx C mA)
  (hs:PySem.W.findIn K (.ref C) "__setattr__" = some (some (.builtin "object.__setattr__"))) (hp:PySem.W.plainOver K C=true) (ht:PySem.W.takerIn K C name=some none) (hh:PySem.W.hasDictIn K C=true)
  (hw:PySem.Within mA ns) (hsz:ns.length<=sizeLine)
  (h:∀h',Kn h' x dx C (λy=>if y=name then some v else mA y)->Heap.SameBut dx s.heap h'->Q () { s with heap:=h',toks:=s.toks+2 }) :
  wpAny (model prog w) A (setAttr (.ref x) name v) Q E s:=by
 obtain⟨od,J,hl⟩:=I.Fz;refine PySem.W.set_plain X J hs (PySem.W.osa_open (s:={ s with toks:=s.toks+1 }) (r:=none) X J hp ht λb=>?_);obtain⟨cd,hc,hd'⟩:=PySem.W.any_some hh;have hx:s.heap.get? x=some ⟨.ref C,some dx,.plain,#[]⟩:=I.obj;refine iu (jk (iu (iu (wpAny_loadPart hx (iu (PySem.W.Looks.here (s:={ s with toks:=s.toks+1 }) (PySem.W.looks_clsIn X hc) ?_))))));rw[hd'];refine jk (a:=some dx) (iu (jk (iu ?_)));refine wpAny_nsSet1 (s:={ s with toks:=s.toks+1 }) I.ns λh' hn2 hs2=>?_
 obtain⟨oD,esD,epD,hoD,hdD,hcD⟩:=hn2.count (PySem.Within.cons name v hw);refine iu (wpAny_lookBehind hoD (by rw[hdD]; exact pastItsLine_dict (js hcD (by rw[jD]; omega))) ?_);exact jk (h _ ⟨(hs2.2 _ (kC I.ne)).trans I.obj,hn2,I.ne⟩ hs2)
end
theorem Ea.SG{v:V}{o:Option Value}(r:Ea (some v) o):∃u,o=some u/\Aw v u:=by
 cases o with
 | none=>exact(show False from r).elim
 | some u=>exact⟨u,rfl,r⟩
section
variable {P:Program} {w:World} {H H':Hp} {h h':Heap} {a C dx:Addr} {fs fs':List (Str×V)}
theorem Z1(hok:Bv P w H h)(e:H a=some (.Ey C dx fs)):∃mA,Kn h a dx C mA/\(∀f,Ea (fs.lookup f) (mA f))/\PySem.Within mA (fs.map (·.1))/\fs.length<=1000/\H dx=some (.Ek a):=by
 obtain⟨d,z,ne,ob,mA,n,r,q⟩:=(show Bk P w H h a (.Ey C dx fs) from hok a _ e);exact⟨mA,⟨ob,n,ne⟩,r,q,z,d⟩
end
structure Py(K:PySem.W.Frag)(C:Addr):Prop where
 pg:PySem.W.plainGet K C Str.empty=true
 hd:PySem.W.hasDictIn K C=true
 po:PySem.W.plainOver K C=true
 sa:PySem.W.findIn K (.ref C) "__setattr__" = some (some (.builtin "object.__setattr__"))
theorem Py.get{K:PySem.W.Frag}{C:Addr}(c:Py K C)(f:Str):PySem.W.plainGet K C f=true:=c.pg
section
variable {X:Cx} {pins:List (Addr×Obj)} {σ:St} {H:Hp} {s:Shared} {a C dx:Addr} {fs:List (Str×V)} {f:Str} {v:V} {A:Around} {E:Value->Shared->Prop}
end
section
variable {X:Cx} {o e value:Expr} {f:Str} {pos pos' tpos:Pos} {ta tv:TE}
end
section
variable {X:Cx} {pins:List (Addr×Obj)} {σ:St} {H:Hp} {s:Shared} {A:Around} {E:Value->Shared->Prop} {Q:Value->Shared->Prop} {c:Value} {b:Bool}
inductive CV(K:PySem.W.Frag)(H:Hp):V->Value->Prop where
 | BD:CV K H .BD (.type "NoneType")
 | bl (x:Bool):CV K H (.bl x) (.type "bool")
 | int (i:Int):CV K H (.int i) (.type "int")
 | str (x:Str):CV K H (.str x) (.type "str")
 | Jc (x:UInt64):CV K H (.Jc x) (.type "float")
 | AF {a:Addr} {xs:List V} (e:H a=some (.AF xs)):CV K H (.ref a) (.type "list")
 | ER {a:Addr} {o:Obj} {xs:List V} (e:H a=some (.ER o (.AF xs))):CV K H (.ref a) (.type "list")
 | AG {a:Addr} {xs:List V} (e:H a=some (.AG xs)):CV K H (.ref a) (.type "tuple")
 | dK {a:Addr} {kvs:List (AY×V)} (e:H a=some (.dK kvs)):CV K H (.ref a) (.type "dict")
 | dT {a:Addr} {kvs:List (List AY×V)} (e:H a=some (.dT kvs)):CV K H (.ref a) (.type "dict")
 | Ey {a C dx:Addr} {fs:List (Str×V)} (e:H a=some (.Ey C dx fs)) (cl:Py K C) (ha:PySem.W.findIn K (.ref C) "__class__" = some (some (.builtin "object.__class__")))
   (hn:PySem.W.specialIn K (.builtin "object.__class__") "__get__" = some (some (.builtin "getset_descriptor.__get__"))) (htk:PySem.W.takesIn K (.builtin "object.__class__")=some true)
   (hm:PySem.W.mroIn K C (.type "object")=some true):CV K H (.ref a) (.ref C)
theorem Xz{x:V}{u t:Value}(I:AK X pins σ H s)(rx:Aw x u)(ty:CV X.K H x t)(e:PySem.W.kitOne X.K t c=some b)(h:∀tk,Q (.bool b) { s with toks:=tk }):
  wpAny (model X.prog X.w) A (call (.builtin "isinstance") [u,c]) Q E s:=by
 cases ty with
 | BD=>cases (show u=Value.none from rx); exact kH PySem.W.kitx_none I.Dj True.intro e (λz=>nomatch z) h
 | bl y=>cases (show u=Value.bool y from rx); exact kH PySem.W.kitx_bool I.Dj True.intro e (λz=>nomatch z) h
 | int i=>obtain⟨t,q⟩:=(show ∃t,u=Value.int i t from rx); cases q; exact kH PySem.W.kitx_int I.Dj True.intro e (λz=>nomatch z) h
 | str y=>obtain⟨t,q⟩:=(show ∃t,u=Value.str y t from rx); cases q; exact kH PySem.W.kitx_str I.Dj True.intro e (λz=>nomatch z) h
 | Jc y=>obtain⟨t,q⟩:=(show ∃t,u=Value.float y t from rx); cases q; exact kH PySem.W.kitx_float I.Dj True.intro e (λz=>nomatch z) h
 | @AF a xs ea =>
  cases (show u=Value.ref a from rx);obtain⟨_,_,n,_,h1⟩:=(show Bk X.prog X.w H s.heap a (.AF xs) from I.hok a _ ea);exact kH rF I.Dj ⟨_,h1,rfl⟩ e (λz=>nomatch z) h
 | @ER a ob xs ea =>
  cases (show u=Value.ref a from rx);obtain⟨_,_,_,n,_,h1⟩:=(show Bk X.prog X.w H s.heap a (.ER ob (.AF xs)) from I.hok a _ ea);exact kH rF I.Dj ⟨_,h1,rfl⟩ e (λz=>nomatch z) h
 | @AG a xs ea =>
  cases (show u=Value.ref a from rx);obtain⟨_,_,_,p,_⟩:=(show Bk X.prog X.w H s.heap a (.AG xs) from I.hok a _ ea);obtain⟨o,h1,h2,_⟩:=p;exact kH PySem.W.kitx_tuple I.Dj ⟨o,h1,h2⟩ e (λz=>nomatch z) h
 | @dK a kvs ea =>
  cases (show u=Value.ref a from rx);obtain⟨_,_,vs,_,p⟩:=(show Bk X.prog X.w H s.heap a (.dK kvs) from I.hok a _ ea);obtain⟨o,es,ep,h1,h2,_⟩:=p;exact kH rE I.Dj ⟨o,h1,h2.1⟩ e (λz=>nomatch z) h
 | @dT a kvs ea =>
  cases (show u=Value.ref a from rx);obtain⟨_,_,xs,_,o,es,ep,h1,h2,_⟩:=(show Bk X.prog X.w H s.heap a (.dT kvs) from I.hok a _ ea);exact kH rE I.Dj ⟨o,h1,h2.1⟩ e (λz=>nomatch z) h
 | @Ey a C dx fs ea cl ha hn htk hm =>
  cases (show u=Value.ref a from rx);obtain⟨mA,O,_⟩:=Z1 I.hok ea;obtain⟨od,J,_⟩:=O.Fz;exact kH (PySem.W.kitx_own (cl.get _) cl.hd ha hn htk hm) I.Dj J e (λz=>nomatch z) h
end
structure Ck(k:Nat)(A:Around):Prop where
 hd:A.handled=none
 dp:A.depth+3*k+5<recursionLimit
 un:A.units+16*k+200<cLine
theorem Ck.mono{j k:Nat}{A:Around}(r:Ck k A)(h:j<=k):Ck j A:=⟨r.hd,by have:=r.dp; omega,by have:=r.un; omega⟩
theorem Ck.deeper{k:Nat}{A:Around}(r:Ck (k+1) A)(env:Env):Ck k (A.deeper env) :=
 ⟨r.hd,by have:=r.dp; show A.depth+1+3*k+5<_; omega,by have:=r.un; show A.units+3+16*k+200<_; omega⟩
theorem Ck.in1{k:Nat}{A:Around}(r:Ck (k+1) A):Ck k A.in1 :=
 ⟨r.hd,by have:=r.dp; show A.depth+3*k+5<_; omega,by have:=r.un; show A.units+1+16*k+200<_; omega⟩
theorem Ck.depth{k:Nat}{A:Around}(r:Ck k A):A.depth<recursionLimit:=by have:=r.dp; omega
theorem Ck.units{k:Nat}{A:Around}(r:Ck k A):A.units+64<cLine:=by have:=r.un; omega
def By:TA:=λ_ H Q=>Q [] H
def BI(ta:TE)(tr:TA):TA:=λσ H Q=>ta σ H λx H1=>tr σ H1 λxs H2=>Q (x :: xs) H2
section
variable {X:Cx} {e:Expr} {es:List Expr} {te:TE} {t:TA} {pos:Pos}
theorem AB:PA X [] By:=λ_ _ _ _ H Q I h=>rh ⟨[],H,I,.nil,h⟩
theorem AA(ha:PE X e te)(hr:PA X es t)(hs:starEach (e :: es) X.env=(false,eval e X.env) :: starEach es X.env:=by rfl):PA X (e :: es) (BI te t):=by
 intro pos pins s σ H Q I h;rw[hs];show wpAny _ _ (spliced ((false,eval e X.env) :: backTo pos (starEach es X.env))) _ _ s;refine qJ (Af (ha pins s σ H _ I h) λu s1 ⟨x,H1,I1,r1,q1⟩=>?_);exact Af (hr pos pins s1 σ H1 _ I1 q1) λus s2 ⟨xs,H2,I2,r2,q2⟩=>⟨x :: xs,H2,I2,.cons r1 r2,q2⟩
inductive U7(xs:List V)(H:Hp)(Q:VK):Prop
 | mk (n:xs.length<=sizeLine) (q:∀p,H p=none->Q (.ref p) (AJ H p (.AG xs))):U7 xs H Q
inductive VC(xs:List V)(H:Hp)(Q:VK):Prop
 | mk (n:xs.length<=sizeLine) (q:∀p,H p=none->Q (.ref p) (AJ H p (.AF xs))):VC xs H Q
def Kl(t:TA):TE:=λσ H Q=>t σ H λxs H1=>U7 xs H1 Q
def Vz(t:TA):TE:=λσ H Q=>t σ H λxs H1=>VC xs H1 Q
theorem Bf{x1}(h:PA X es t):PE X (.Tuple es x1 pos) (Kl t):=by
 intro pins s σ H Q I hq;refine wpAny_Tuple_spliced (Af (h pos pins s σ H _ I hq) λus s1 ⟨xs,H1,I1,r,z,q⟩=>⟨by rw[<-r.length]; exact z,?_⟩);have hf:H1 s1.heap.objs.size=none:=I1.hok.Br (i4 _);refine⟨.ref s1.heap.objs.size,AJ H1 s1.heap.objs.size (.AG xs),I1.Df (t':=s1.toks) (λb u e=>i3 _ e) (i4 _) ?_,rfl,q _ hf⟩;exact⟨z,us,r,⟨_,jo _ rfl,rfl,_,rfl⟩,_,jo _ rfl,rfl⟩
theorem Cd(h:PA X es t):PE X (.List es pos) (Vz t):=by
 intro pins s σ H Q I hq;refine wpAny_List_spliced (Af (h pos pins s σ H _ I hq) λus s1 ⟨xs,H1,I1,r,z,q⟩=>⟨by rw[<-r.length]; exact z,?_⟩);have hf:H1 s1.heap.objs.size=none:=I1.hok.Br (i4 _);refine⟨.ref s1.heap.objs.size,AJ H1 s1.heap.objs.size (.AF xs),I1.Df (t':=s1.toks) (λb u e=>i3 _ e) (i4 _) ?_,rfl,q _ hf⟩;exact⟨z,us,0,r,jo _ rfl⟩
end
abbrev Sp:=List V->Hp->VK->XK->Prop
abbrev Ej:=List Env->Hp->Shared->XK->Value->Shared->Prop
structure IY(P:Program)(w:World)(K:PySem.W.Frag)(mg:Str->Option Value)(base:Heap)(A:Around)(outer:List Env)(s:Shared)(H:Hp):Prop where
 frames:A.frames=some outer
 DR:Mod K mg base
 bs:∀b o,base.get? b=some o->s.heap.get? b=some o/\H b=none
 GF:base.objs.size<=s.heap.objs.size
 Et:s.heap.FunFrames base outer
 Ij:∀b∈FW outer,H b=none
 hok:Bv P w H s.heap
 bare:AllBare s.gens
def CE(outer:List Env)(P:Program)(w:World)(H:Hp)(s:Shared)(Q:VK)(u:Value)(s':Shared):Prop :=
 ∃v H',s'.os=s.os/\AllBare s'.gens/\Un (FW outer) [] H H' s.heap s'.heap/\Bv P w H' s'.heap/\Aw v u/\Q v H'
def CR(CX:Ej)(outer:List Env)(P:Program)(w:World)(H:Hp)(s:Shared)(Q:VK)(E:XK)(r:Result)(s':Shared):Prop :=
 match r with
 | .ok (.ret u)=>CE outer P w H s Q u s'
 | .ok _=>False
 | .error e=>CX outer H s E e s'
structure Ao(P:Program)(w:World)(K:PySem.W.Frag)(mg:Str->Option Value)(base:Heap)(CX:Ej)(k:Nat)(f:Addr)(fd:FuncData)(ps:List Str)(sp:Sp):Prop where
 len:∀vs H Q E,sp vs H Q E->vs.length=ps.length
 run:∀(A:Around) (outer:List Env) (s:Shared) (H:Hp) (args:Args) (us:List Value) (vs:List V) (Q:VK) (E:XK),Ck k A->IY P w K mg base A outer s H->BindsTo s fd args (ps.zip us)->Ah vs us->sp vs H Q E →
  codeAny (model P w) A (.call (.ref f) args) (CR CX outer P w H s Q E) s
theorem Ao.mono{P:Program}{w:World}{K:PySem.W.Frag}{mg:Str->Option Value}{base:Heap}{CX:Ej}{j k:Nat}{f:Addr}{fd:FuncData}{ps:List Str}{sp:Sp}(F:Ao P w K mg base CX j f fd ps sp)(h:j<=k):
  Ao P w K mg base CX k f fd ps sp:=⟨F.len,λA outer s H args us vs Q E hr=>F.run A outer s H args us vs Q E (hr.mono h)⟩
theorem Ao.imp {P:Program} {w:World} {K:PySem.W.Frag} {mg:Str->Option Value} {base:Heap} {CX:Ej} {k:Nat} {f:Addr} {fd:FuncData} {ps:List Str} {sp sp':Sp} (F:Ao P w K mg base CX k f fd ps sp)
  (h:∀vs H Q E,sp' vs H Q E->sp vs H Q E):Ao P w K mg base CX k f fd ps sp' :=
 ⟨λvs H Q E q=>F.len vs H Q E (h _ _ _ _ q),λA outer s H args us vs Q E hr he hb hv hs=>F.run A outer s H args us vs Q E hr he hb hv (h _ _ _ _ hs)⟩
theorem IY.in1{P:Program}{w:World}{K:PySem.W.Frag}{mg:Str->Option Value}{base:Heap}{A:Around}{outer:List Env}{s:Shared}{H:Hp}(e:IY P w K mg base A outer s H):
  IY P w K mg base A.in1 outer s H:=⟨e.frames,e.DR,e.bs,e.GF,e.Et,e.Ij,e.hok,e.bare⟩
section
variable {X:Cx} {pins:List (Addr×Obj)} {σ:St} {H:Hp} {s s':Shared}
theorem AK.fv(I:AK X pins σ H s):IY X.prog X.w X.K X.mg X.base X.A X.stack s H :=
 ⟨I.ok.frames,I.ok.DR,I.bs,js I.ok.GF I.sz,I.stack,I.Sv,I.hok,I.bare⟩
theorem AK.after{Q:VK}{u:Value}(I:AK X pins σ H s)(h:CE X.stack X.prog X.w H s Q u s'):EP X pins σ Q u s':=by
 obtain⟨v,H',os,bare,un,hok,r,q⟩:=h;obtain⟨hh,g,d,t,os'⟩:=s';obtain rfl:os'=s.os:=os;exact⟨v,H',I.call (h':=hh) (g':=g) (d':=d) (t':=t) (ch:=[]) un hok bare (λb z=>absurd z (by simp)),r,q⟩
end
def DI(sp:Sp)(dvs:List V)(E:XK)(t:TA):TE:=λσ H Q=>t σ H λvs H1=>sp (vs++dvs) H1 Q E
def EW(K:PySem.W.Frag)(fd:FuncData)(ps:List Str)(ds:List Value):Prop :=
 ∀(s:Shared) (us:List Value),K.In s.heap->(us++ds).length=ps.length->BindsTo s fd ⟨us,[]⟩ (ps.zip (us++ds))
theorem EW.all{K:PySem.W.Frag}{fd:FuncData}{ps:List Str}(h:∀us:List Value,us.length=ps.length->bindArgs fd ⟨us,[]⟩=pure (ps.zip us)):EW K fd ps []:=λs us _ hl=>by
 rw[kg] at hl ⊢;exact .of_eq (h us hl)
def OS(CX:Ej)(X:Cx)(E:XK):Prop:=∀(pins:List (Addr×Obj)) (σ:St) (H:Hp) (s:Shared) (e:Value) (s':Shared),AK X pins σ H s->CX X.stack H s E e s'->X.xe e s'
section
variable {X:Cx} {CX:Ej} {k:Nat} {f C:Addr} {fd:FuncData} {ps:List Str} {sp:Sp} {dvs:List V} {ds:List Value} {E:XK} {x m:Str} {p pos apos:Pos} {e o:Expr} {es:List Expr} {ta:TE} {t:TA}
theorem cq {pins:List (Addr×Obj)} {σ:St} {H:Hp} {s:Shared} {Q:VK} {us:List Value} {vs:List V} (F:Ao X.prog X.w X.K X.mg X.base CX k f fd ps sp) (hr:Ck k X.A) (hb:EW X.K fd ps ds) (hd:Ah dvs ds) (hx:OS CX X E)
  (I:AK X pins σ H s) (r:Ah vs us) (h:sp (vs++dvs) H Q E):wpAny (model X.prog X.w) X.A (call (.ref f) us) (EP X pins σ Q) X.xe s:=by
 have r2:Ah (vs++dvs) (us++ds):=r.append hd;have hl:(us++ds).length=ps.length:=by rw[<-r2.length]; exact F.len _ _ _ _ h
 refine wpAny_call (qX (F.run X.A X.stack s H ⟨us,[]⟩ (us++ds) (vs++dvs) Q E hr I.fv (hb s us I.Dj hl) r2 h) λr s' hq=>?_);cases r with
 | error e=>exact hx pins σ H s e s' I hq
 | ok fl =>
  cases fl with
  | ret u=>exact I.after hq
  | next=>exact False.elim hq
  | brk=>exact False.elim hq
  | cont=>exact False.elim hq
theorem aO (F:Ao X.prog X.w X.K X.mg X.base CX k f fd ps sp) (hr:Ck k X.A) (hg:Gl X x) (hm:X.mg x=some (.ref f)) (hk:PySem.W.keepIn X.K (.ref f)=true) (hb:EW X.K fd ps ds) (hd:Ah dvs ds) (hx:OS CX X E)
  (ha:PA X (e :: es) t) (hdb:(x == ("__debug__":Str))=false:=by decide) (he:starEach (e :: es) X.env=(false,eval e X.env) :: starEach es X.env:=by rfl) (hpl:(backTo pos (starEach es X.env)).any (·.1)=false:=by rfl) :
  PE X (.Call (.Name x p) (e :: es) [] pos) (DI sp dvs E t):=by
 intro pins s σ H Q I h;refine mJ (ag I hg hm ?_ hdb);refine PySem.W.callWith_K (h₀:=X.base) I.ok.DR.Px hk (Af (ha pos pins s σ H _ I h) λus s1 ⟨vs,H1,I1,r,q⟩=>⟨I1.Dj,?_⟩) he hpl;exact cq F hr hb hd hx I1 r q
structure Mk(K:PySem.W.Frag)(C f:Addr):Prop where
 iV:PySem.W.makesIn K C=true
 iY:PySem.W.findIn K (.ref C) "__init__" = some (some (.ref f))
 fn:PySem.W.isFn K (.ref f)=true
 kp:PySem.W.keepIn K (.ref C)=true
end
section
variable {X:Cx} {CX:Ej} {k:Nat} {f C:Addr} {fd:FuncData} {ps ks:List Str} {sp:Sp} {E:XK} {x m:Str} {p pos apos kpos:Pos} {e o:Expr} {es:List Expr} {kws:List Keyword} {te ta:TE} {t tk:TA} {nm:Option Str}
variable {g:List Value->List Value->List Value} {gV:List V->List V->List V}
end
structure A2(N P:List Str)(sc:Scope):Prop where
 kind:sc.kind=.function
 co:sc.isCoroutine=false
 iD:sc.isGenerator=false
 nd:N.Nodup
 pre:N.take P.length=P
 Wl:∀x∈P,sc.names.lookup x=some .local\/sc.names.lookup x=some .cell
 cn:∀y∈sc.names,y.2≠.free
abbrev KP(K:PySem.W.Frag)(f:Addr):Prop:=PySem.W.keepIn K (.ref f)=true
theorem Gq:0<=sizeLine:=by decide
theorem Gr:1<=sizeLine:=by decide
theorem CA:2<=sizeLine:=by decide
theorem FX:3<=sizeLine:=by decide
theorem WU:4<=sizeLine:=by decide
theorem Qe{kindOf:Str->Option NameKind}{x:Str}:∀{binds:List (Str×Value)} {m:Str->Option Value},(∀v,(x,v)∉binds)->bindL kindOf binds m x=m x
 | [],_,_=>rfl
 | (n,v) :: r,m,h=>by
  unfold bindL;rw[Qe λw hw=>h w (jB _ hw)];split
  ·have:x≠n:=by rintro rfl; exact h v jZ
   simp[this]
  ·rfl
theorem Qp{kindOf:Str->Option NameKind}{x:Str}:∀{binds:List (Str×Value)} {m:Str->Option Value},(∀v,(x,v)∉binds)->bindC kindOf binds m x=m x
 | [],_,_=>rfl
 | (n,v) :: r,m,h=>by
  unfold bindC;rw[Qp λw hw=>h w (jB _ hw)];split
  ·rfl
  ·have:x≠n:=by rintro rfl; exact h v jZ
   simp[this]
theorem QQ{kindOf:Str->Option NameKind}{x:Str}{v:Value}:∀{P:List Str} {vs:List Value} {i:Nat} {m:Str->Option Value},P.Nodup->P[i]?=some x->vs[i]?=some v->kindOf x=some .local →
  bindL kindOf (P.zip vs) m x=some v
 | [],_,_,_,_,h,_,_=>by simp at h
 | _ :: _,[],_,_,_,_,h,_=>by simp at h
 | p :: P,w :: vs,0,m,nd,h1,h2,hk=>by
  simp at h1 h2; subst h1; subst h2;show bindL kindOf ((p,w) :: P.zip vs) m p=_;unfold bindL;rw[Qe λv hv=>(jV.mp nd).1 (ow hv).1,i5 hk];simp
 | p :: P,w :: vs,i+1,m,nd,h1,h2,hk=>by
  show bindL kindOf ((p,w) :: P.zip vs) m x=_;unfold bindL;exact QQ (i:=i) (jV.mp nd).2 (by simpa using h1) (by simpa using h2) hk
theorem Qy{kindOf:Str->Option NameKind}{x:Str}{v:Value}:∀{P:List Str} {vs:List Value} {i:Nat} {m:Str->Option Value},P.Nodup->P[i]?=some x->vs[i]?=some v->kindOf x≠some .local →
  bindC kindOf (P.zip vs) m x=some v
 | [],_,_,_,_,h,_,_=>by simp at h
 | _ :: _,[],_,_,_,_,h,_=>by simp at h
 | p :: P,w :: vs,0,m,nd,h1,h2,hk=>by
  simp at h1 h2; subst h1; subst h2;show bindC kindOf ((p,w) :: P.zip vs) m p=_;unfold bindC;rw[Qp λv hv=>(jV.mp nd).1 (ow hv).1,iz hk];simp
 | p :: P,w :: vs,i+1,m,nd,h1,h2,hk=>by
  show bindC kindOf ((p,w) :: P.zip vs) m x=_;unfold bindC;exact Qy (i:=i) (jV.mp nd).2 (by simpa using h1) (by simpa using h2) hk
def Gd(N:List Str)(vs:List V):St:=vs.map some++List.replicate (N.length-vs.length) none
def IZ(CX:Ej)(P:Program)(w:World)(K:PySem.W.Frag)(mg:Str->Option Value)(base:Heap)(N:List Str)(qual:Str)(scope:Scope)(f:Addr)(cd:Value)(A:Around)(outer:List Env)(s:Shared)(H:Hp)(E:XK):Cx where
 prog:=P
 w:=w
 K:=K
 mg:=mg
 base:=base
 A:=A.deeper (envOfC qual scope s.heap.objs.size f cd)
 N:=N
 s₀:=s
 H₀:=H
 env:=envOfC qual scope s.heap.objs.size f cd
 outer:=outer
 stack:=envOfC qual scope s.heap.objs.size f cd :: outer
 ex:=[]
 Ci:=true
 fn:=λ_=>true
 pn:=[]
 xe:=λe s'=>wpAny (model P w) (A.deeper (envOfC qual scope s.heap.objs.size f cd)) (leaving (envOfC qual scope s.heap.objs.size f cd) e) (λ_ s''=>CX outer H s E e s'') (λe' s''=>CX outer H s E e' s'') s'
theorem RQ{sc:Scope}{n:Nat}{x:Str}(h:sc.names.lookup x=some .cell):∃c,(cellsFrom n sc.names []).lookup x=some c:=by
 have q:=pW sc.names n [] (.inl h);exact nK.mp q
theorem Ye {CX:Ej} {P:Program} {w:World} {K:PySem.W.Frag} {mg:Str->Option Value} {base:Heap} {N ps:List Str} {qual:Str} {scope:Scope} {f:Addr} {cd:Value} {A:Around} {outer:List Env} {s s1:Shared} {H:Hp} {E:XK} {us:List Value} {vs:List V}
  (S:A2 N ps scope) (hd:A.handled=none) (e0:IY P w K mg base A outer s H) (hl:vs.length=ps.length) (r:Ah vs us)
  (x:InCallC s s.heap.objs.size (bindL (envOfC qual scope s.heap.objs.size f cd).kindOf (ps.zip us) λ_=>none) (cellsFrom (s.heap.objs.size+1) scope.names []) (bindC (envOfC qual scope s.heap.objs.size f cd).kindOf (ps.zip us) λ_=>none) s1) :
  AK (IZ CX P w K mg base N qual scope f cd A outer s H E) [] (Gd N vs) H s1:=by
 have hpl:ps.length<=N.length:=by have:=congrArg List.length S.pre; rw[jT] at this; omega
 obtain⟨h1,tk,rfl,hk⟩:=x.done;have noA:∀b:Addr,b∉(IZ CX P w K mg base N qual scope f cd A outer s H E).ex:=λb z=>absurd (show b∈([]:List Addr) from z) (by simp)
 refine⟨⟨e0.DR,S.kind,rfl,rfl,i4 _,λy z c h1 h2=>?_,λy hy=>?_,λy c _ h=>?_,λ_=>hd,Around.frames_deeper e0.frames,.inr ⟨rfl,rfl⟩,λb z=>absurd z (noA b),e0.bs,e0.GF,λb _ _=>noA b,λb z=>absurd z (noA b),e0.Et,e0.Ij⟩,
  rfl,e0.bare,Un.Bx hk,⟨_,x.toInCall.ns,λi y v h1 h2 h3=>?_⟩,λy c h=>⟨_,x.cell y c h⟩,e0.hok.Br (i4 _),λy c h=>?_,λp hp=>absurd (show p∈([]:List (Addr×Obj)) from hp) (by simp),e0.hok.Bx hk,?_⟩
 ·exact name_of_addr x.apart (kS h1) (kS h2)
 ·have hy:scope.names.lookup y=some .cell\/scope.names.lookup y=some .free:=hy;rcases hy with hy | hy
  ·exact RQ hy
  ·exact absurd rfl (S.cn _ (kS hy))
 ·exact pE (x.above y c (kS h))
 ·have hi:i<vs.length:=by
   unfold Gd at h2;by_cases hi:i<vs.length
   ·exact hi
   ·rw[jd (by simpa using hi)] at h2;rw[mq] at h2;split at h2 <;> cases h2
  have ha:vs[i]?=some v:=by
   unfold Gd at h2;rw[jm (by simpa using hi),iy] at h2;cases e:vs[i]? with
   | none=>rw[e] at h2; cases h2
   | some a=>rw[e] at h2; cases h2; rfl
  obtain⟨u,hu,rv⟩:=r.get ha;have hp:ps[i]?=some y:=by
   rw[<-S.pre,List.getElem?_take_of_lt (by omega)]; exact h1
  have ndP:ps.Nodup:=by rw[<-S.pre]; exact S.nd.sublist (List.take_sublist _ _)
  refine⟨u,rv,?_⟩;rcases S.Wl y (iq hp) with k | k
  ·exact .inl ⟨k,QQ ndP hp hu k⟩
  ·obtain⟨c,e⟩:=RQ (n:=s.heap.objs.size+1) k;refine .inr ⟨.inl k,c,e,?_⟩;have q:=x.cell y c e;rw[Qy ndP hp hu (by show scope.names.lookup y≠_; rw[k]; decide)] at q;exact q
 ·exact e0.hok.Br (pE (x.above y c (kS h)))
 ·unfold Gd;show _=N.length;rw[jc,ig,mR];omega
theorem dk {CX:Ej} {P:Program} {w:World} {K:PySem.W.Frag} {mg:Str->Option Value} {base:Heap} {k:Nat} {f:Addr} {name qual:Str} {params:Arguments} {body:List Stmt} {scope:Scope} {dV kV doc pm cdv ct oc:Value} {an od:Option Addr}
  {osl:Array (Option Value)} {N ps:List Str} {sp:Sp} (lk:K.lookup f=some ⟨oc,od,.func (PySem.W.fnOf name qual params body scope dV kV doc pm an cdv ct),osl⟩) (hcd:PySem.W.codeIn K cdv qual=true) (S:A2 N ps scope)
  (len:∀vs H Q E,sp vs H Q E->vs.length=ps.length)
  (hbody:∀(A:Around) (outer:List Env) (s:Shared) (H:Hp) (vs:List V) (Q:VK) (E:XK),Ck k (A.deeper (envOfC qual scope s.heap.objs.size f cdv))->sp vs H Q E →
   ∃t,DF (IZ CX P w K mg base N qual scope f cdv A outer s H E) body t/\t { nx:=λ_ H'=>Q .BD H',rt:=Q } (Gd N vs) H) :
  Ao P w K mg base CX (k+1) f (PySem.W.fnOf name qual params body scope dV kV doc pm an cdv ct) ps sp:=by
 refine⟨len,λA outer s H args us vs Q E hr e0 hb r hsp=>?_⟩;have hl:=len _ _ _ _ hsp;have KX:K.In s.heap:=e0.DR.Px.keeps λb o e=>(e0.bs b o e).1
 have lim:s.heap.NoLimit:=e0.DR.nolimit.keeps λb o e=>(e0.bs b o e).1
 have hkind:∀y∈ps.zip us,scope.names.lookup y.1=some .local\/(scope.names.lookup y.1=some .cell/\((cellsFrom (s.heap.objs.size+1) scope.names []).lookup y.1).isSome=true):=λ⟨n,v⟩ hy=>by
  rcases S.Wl n (ow hy).1 with q | q
  ·exact .inl q
  ·exact .inr ⟨q,pW _ _ _ (.inl q)⟩
 refine codeAny_call_function hr.depth (KX _ _ lk) rfl S.co S.iD rfl (PySem.W.codeRec_of KX hcd) (hb _ _ _ _ ?_);refine wpAny_newFunctionEnv_cells S.kind hkind λenv he s1 x=>?_
 subst he;refine⟨lim.keeps x.toInCall.keep,codeAny_func ?_⟩;obtain⟨t,ht,hq⟩:=hbody A outer s H vs Q E (hr.deeper _) hsp;have I:AK (IZ CX P w K mg base N qual scope f cdv A outer s H E) [] (Gd N vs) H s1:=Ye S hr.hd e0 hl r x;refine kA (ht [] s1 (Gd N vs) H _ I hq) (λfl s' hs=>?_) λe s' hs=>hs
 have fin:∀{σ':St} {H':Hp} {v:V} {u:Value},AK (IZ CX P w K mg base N qual scope f cdv A outer s H E) [] σ' H' s'->Aw v u->Q v H'->CE outer P w H s Q u s' :=
  λ{σ' H' v u} J rv q=>⟨v,H',J.os,J.bare,J.base,J.hok,rv,q⟩
 cases fl with
 | ret u =>
  obtain⟨v,σ',H',J,rv,q⟩:=hs;exact fin J rv q
 | next =>
  obtain⟨σ',H',J,q⟩:=hs;exact fin (v:=V.BD) (u:=Value.none) J rfl q
 | brk =>
  obtain⟨_,_,_,q⟩:=hs;exact False.elim q
 | cont =>
  obtain⟨_,_,_,q⟩:=hs;exact False.elim q
section
variable {X:Cx} {x:Str} {p pos:Pos} {e:Expr} {es:List Expr} {t:TA} {id T:String} {r:List V->Hp->VK->Prop}
def K2(r:List V->Hp->VK->Prop)(t:TA):TE:=λσ H Q=>t σ H λvs H1=>r vs H1 Q
theorem Au (hc:DJ X (.builtin id) r) (hg:Gl X x) (hm:X.mg x=none) (hv:bootBuiltins x=some (.builtin id)) (ha:PA X (e :: es) t) (hn:x≠"__name__":=by decide) (hdb:(x == ("__debug__":Str))=false:=by decide)
  (he:starEach (e :: es) X.env=(false,eval e X.env) :: starEach es X.env:=by rfl) (hpl:(backTo pos (starEach es X.env)).any (·.1)=false:=by rfl):PE X (.Call (.Name x p) (e :: es) [] pos) (K2 r t):=by
 intro pins s σ H Q I h;refine mJ (FI I hg hm hv ?_ hn hdb);exact PyProof.Rows.callWith_builtin1 (Af (ha pos pins s σ H _ I h) λus s1 ⟨vs,H1,I1,r1,q1⟩=>hc pins s1 σ H1 vs us Q I1 r1 q1) he hpl
theorem Cy (hc:DJ X (.type T) r) (hg:Gl X x) (hm:X.mg x=none) (hv:bootBuiltins x=some (.type T)) (ha:PA X (e :: es) t) (hn:x≠"__name__":=by decide) (hdb:(x == ("__debug__":Str))=false:=by decide)
  (he:starEach (e :: es) X.env=(false,eval e X.env) :: starEach es X.env:=by rfl) (hpl:(backTo pos (starEach es X.env)).any (·.1)=false:=by rfl):PE X (.Call (.Name x p) (e :: es) [] pos) (K2 r t):=by
 intro pins s σ H Q I h;refine mJ (FI I hg hm hv ?_ hn hdb);exact j5 (Af (ha pos pins s σ H _ I h) λus s1 ⟨vs,H1,I1,r1,q1⟩=>hc pins s1 σ H1 vs us Q I1 r1 q1) he hpl
end
end L2
namespace HT
open PySem PyProof.Rows
section
open PySem.SeqAt
open PySem.AutoSeq1 (wpAny_loadPart')
open PySem.MeetsSeq PySem.MeetsSeq2 PySem.MeetsSeq3
end
section
variable {prog:Program} {w:World} {A:Around} {E:Value->Shared->Prop} {s:Shared}
theorem Zp {t b:Addr} {vs ws:List Value} {Q:Value->Shared->Prop} (ht:IsTup s.heap t vs.toArray) (hb:IsTup s.heap b ws.toArray) (hv:vs≠[])
  (h1:ws=[]->Q (.ref t) s) (h2:ws≠[]->Q (.ref s.heap.objs.size) { s with heap:=s.heap.push { cls:=.type "tuple",data:=.seq (vs++ws).toArray } })
  (hsz:vs.length+ws.length<=sizeLine):wpAny (model prog w) A (binaryOp .Add (.ref t) (.ref b)) Q E s:=by
 obtain⟨⟨cls,dd,data,sl⟩,ho,hc,n,hd⟩:=id ht;obtain⟨⟨cls2,dd2,data2,sl2⟩,ho2,hc2,n2,hd2⟩:=id hb;simp only at hc hd hc2 hd2;subst hc hd hc2 hd2;have e:vs.toArray++ws.toArray=(vs++ws).toArray:=by simp
 by_cases hw:ws=[]
 ·exact pH ⟨_,ho,rfl⟩ ⟨_,ho2,rfl⟩ om oZ mL mB (md _ _)
   (tuple_addW1 t b vs.toArray ws.toArray n n2 dd dd2 sl sl2 (by simpa using hv) (by simp[hw])) ⟨ho,ho2,h1 hw⟩
 ·refine pH ⟨_,ho,rfl⟩ ⟨_,ho2,rfl⟩ om oZ mL mB (md _ _)
   (tuple_addW2 t b vs.toArray ws.toArray n n2 dd dd2 sl sl2 (by simpa using hv) (by simpa using hw) (by rw[ja,ja]; exact hsz)) ⟨ho,ho2,?_⟩
  rw[e];exact h2 hw
def Ag(n d:Nat):Option Int->Nat
 | none=>d
 | some v=>if v<0 then (v+(n:Int)).toNat else min v.toNat n
theorem cP(n d:Nat)(hd:d<=n)(o:Option Int):Ag n d o<=n:=by
 cases o with
 | none=>exact hd
 | some v =>
  show(if v<0 then (v+(n:Int)).toNat else min v.toNat n)<=n;by_cases hv:v<0
  ·rw[i5 hv]; omega
  ·rw[iz hv]; exact Nat.min_le_right _ _
theorem R7(v:Int)(n d:Nat):(if v<0 then max (v+(n:Int)) 0 else min v (n:Int))=((Ag n d (some v):Nat):Int):=by
 show(if v<0 then max (v+(n:Int)) 0 else min v (n:Int))=(((if v<0 then (v+(n:Int)).toNat else min v.toNat n):Nat):Int);by_cases hv:v<0
 ·simp only[i5 hv]; omega
 ·simp only[iz hv]; omega
theorem XJ(lo hi:Option Int)(n:Nat):Builtin.Slice.sliceAdjust lo hi 1 (n:Int)=(((Ag n 0 lo:Nat):Int),((Ag n n hi:Nat):Int)):=by
 have h1:¬((1:Int)<0):=by omega
 unfold Builtin.Slice.sliceAdjust;simp only[h1,if_false];refine Prod.ext ?_ ?_
 ·cases lo with
  | none=>rfl
  | some v=>exact R7 v n 0
 ·cases hi with
  | none=>rfl
  | some v=>exact R7 v n n
theorem XZ(i j:Nat):Builtin.Slice.slicePlaces (i:Int) (j:Int) 1=j-i:=by
 unfold Builtin.Slice.slicePlaces;have h1:(1:Int) > 0:=by omega
 simp only[h1,if_true,Int.ediv_one];split <;> omega
theorem QK{v:Value}{o:Option Int}{Q:Option Int->Shared->Prop}(p:IsPart v o)(h:Q o s):wpAny (model prog w) A (Builtin.Slice.slicePartIndex v) Q E s:=by
 cases p with
 | none=>exact slicePart_none h
 | int i t=>exact slicePart_int h
theorem P2 {sl:Addr} {vl vu:Value} {lo hi:Option Int} {n:Nat} {Q:Int×Int×Nat->Shared->Prop} (hs:s.heap.IsSliceOf sl vl vu .none) (pl:IsPart vl lo) (pu:IsPart vu hi)
  (h:Q (((Ag n 0 lo:Nat):Int),1,Ag n n hi-Ag n 0 lo) s):wpAny (model prog w) A (Builtin.Slice.sliceApplied (.ref sl) (pure (n:Int))) Q E s:=by
 obtain⟨os,hos,hcs,hds⟩:=id hs;unfold Builtin.Slice.sliceApplied Builtin.Slice.sliceFields;refine iu (iu (kI hos hds (x:=vl) rfl (iu (kI hos hds (x:=vu) rfl (iu (kI hos hds (x:=.none) rfl (jk ?_)))))));refine iu (slicePart_none ?_);show wpAny _ _ (if ((1:Int) == 0)=true then _ else _) _ _ s;rw[iz (by decide)];refine iu (QK pl (iu (QK pu (iu (jk ?_)))));show wpAny _ _ (match Builtin.Slice.sliceAdjust lo hi 1 (n:Int) with | (lo,hi)=>pure (lo,(1:Int),Builtin.Slice.slicePlaces lo hi 1)) _ _ s;rw[XJ lo hi n];show wpAny _ _ (pure (((Ag n 0 lo:Nat):Int),(1:Int),Builtin.Slice.slicePlaces ((Ag n 0 lo:Nat):Int) ((Ag n n hi:Nat):Int) 1)) _ _ s;rw[XZ];exact jk h
theorem Y3(xs:Array Value)(i k:Nat):((List.range k).filterMap λ(m:Nat)=>xs[((i:Int)+(m:Int)*1).toNat]?).toArray=((xs.toList.drop i).take k).toArray:=by
 have e:(λ(m:Nat)=>xs[((i:Int)+(m:Int)*1).toNat]?)=λm=>xs[i+m]?:=by
  funext m
  have:((i:Int)+(m:Int)*1).toNat=i+m:=by omega
  rw[this]
 rw[e]
 have:=pick_run xs i k
 rw[List.filterMap_map] at this;have e2:((λx=>xs[x]?) ∘ λx=>i+x)=λm=>xs[i+m]?:=rfl
 rw[e2] at this;rw[this]
theorem Wn {t sl:Addr} {items:Array Value} {vl vu:Value} {lo hi:Option Int} {Q:Value->Shared->Prop} (ht:IsTup s.heap t items) (hs:s.heap.IsSliceOf sl vl vu .none) (pl:IsPart vl lo) (pu:IsPart vu hi)
  (hw:¬(Ag items.size 0 lo=0/\Ag items.size items.size hi=items.size))
  (h:Q (.ref s.heap.objs.size) { s with heap:=s.heap.push { cls:=.type "tuple",data:=.seq ((items.toList.drop (Ag items.size 0 lo)).take (Ag items.size items.size hi-Ag items.size 0 lo)).toArray } })
  (hsz:items.size<=sizeLine):wpAny (model prog w) A (getItem (.ref t) (.ref sl)) Q E s:=by
 have htake:sizeOk (.seq ((items.toList.drop (Ag items.size 0 lo)).take (Ag items.size items.size hi-Ag items.size 0 lo)).toArray):=by
  show((items.toList.drop (Ag items.size 0 lo)).take (Ag items.size items.size hi-Ag items.size 0 lo)).toArray.size<=sizeLine;rw[ja,jT,jO,kR];omega
 have hj:Ag items.size items.size hi<=items.size:=cP _ _ (i4 _) hi;obtain⟨os,hos,hcs,hds⟩:=id hs;have hTs:s.TypeIs (.ref sl) "slice":=⟨os,hos,hcs⟩;unfold getItem
 try with_reducible refine lW ?_
 first | refine iu (jk ?_) | skip
 refine iu (rJ ht.typeIs (by decide) ?_);refine iu (kZ (name:=Str.ofString "__getitem__") ht.typeIs kr
  (lL kr ht.typeIs qF ?_ (qW _ _)))
 show wpAny _ _ (Builtin.Tuple.tupleItemsOf (.ref t) >>= _) _ _ s;refine iu (tupleItemsOf_ ht ?_);refine iu (pI hTs ?_);rw[i5 (by decide)];refine iu (P2 hs pl pu ?_);have hno:¬((((Ag items.size 0 lo:Nat):Int) == 0 && (1:Int) == 1 && (Ag items.size items.size hi-Ag items.size 0 lo) == items.size)=true):=by
  intro q;rw[kL,kL] at q;have q1:((Ag items.size 0 lo:Nat):Int)=0:=eq_of_beq q.1.1;have q2:Ag items.size items.size hi-Ag items.size 0 lo=items.size:=eq_of_beq q.2;exact hw ⟨by omega,by omega⟩
 show wpAny _ _ (if (((Ag items.size 0 lo:Nat):Int) == 0 && (1:Int) == 1 && (Ag items.size items.size hi-Ag items.size 0 lo) == items.size)=true then _ else _) _ _ s;rw[iz hno,Y3]
 first
  | exact iu (m:=Builtin.Tuple.tupleExact _) (lG (jk ⟨_,rfl,jk h⟩) htake)
  | exact iu (m:=Builtin.Tuple.tupleExact _) (lG (iu (jk (jk ⟨_,rfl,jk h⟩))) htake)
  | exact iu (iu (m:=Builtin.Tuple.tupleExact _) (lG (jk (jk ⟨_,rfl,jk h⟩)) htake))
  | exact iu (iu (m:=Builtin.Tuple.tupleExact _) (lG (jk ⟨_,rfl,jk h⟩) htake))
end
end HT
namespace L2
open PySem PySem.Spec PyProof.Rows
abbrev TO:=St->Hp->(Option Int->Hp->Prop)->Prop
def PO(X:Cx)(e:Option Expr)(t:TO):Prop :=
 ∀(pins:List (Addr×Obj)) (s:Shared) (σ:St) (H:Hp) (Q:Option Int->Hp->Prop),AK X pins σ H s->t σ H Q →
  wpAny (model X.prog X.w) X.A (evalPart e X.env) (λu s'=>∃o H',AK X pins σ H' s'/\IsPart u o/\Q o H') X.xe s
def Ld:TO:=λ_ H Q=>Q none H
def Vd(t:TE):TO:=λσ H Q=>t σ H λx H1=>∃i,x=.int i/\Q (some i) H1
theorem Mh{ns:List Int}:∀{us:List Value},Ah (ns.map V.int) us->IntsAre us ns:=by
 induction ns with
 | nil=>intro us r; rw[kf] at r; cases r; exact .nil
 | cons n ns ih =>
  intro us r;rw[i8] at r;cases r with
  | cons r1 r2 =>
   obtain⟨t,e⟩:=r1;subst e;exact .cons n t (ih r2)
section
variable {X:Cx} {e:Expr} {te:TE} {lo hi:Option Expr} {tl th:TO} {pos p2:Pos}
theorem EI:PO X none Ld:=by
 intro pins s σ H Q I h;rw[evalPart_none];exact jk ⟨none,H,I,.none,h⟩
theorem Dm(h:PE X e te):PO X (some e) (Vd te):=by
 intro pins s σ H Q I hw;rw[evalPart_some];refine Af (h pins s σ H _ I hw) λu s1 ⟨x,H1,I1,r1,q1⟩=>?_
 obtain⟨i,rfl,q⟩:=q1;obtain⟨t,rfl⟩:=r1;exact⟨some i,H1,I1,.int i t,q⟩
def Ig(X:Cx)(r:V->Option Int->Option Int->Hp->VK->Prop):Prop :=
 ∀(pins:List (Addr×Obj)) (s:Shared) (σ:St) (H:Hp) (x:V) (v vl vu:Value) (lo hi:Option Int) (sl:Addr) (Q:VK),AK X pins σ H s->Aw x v->s.heap.IsSliceOf sl vl vu .none->IsPart vl lo->IsPart vu hi->r x lo hi H Q →
  ∃T id,typeLookup (.type T) "__getitem__" = pure (some (.builtin id))/\s.TypeIs v T/\wpAny (model X.prog X.w) X.A (getItem v (.ref sl)) (EP X pins σ Q) X.xe s
def Wi(r:V->Option Int->Option Int->Hp->VK->Prop)(te:TE)(tl th:TO):TE:=λσ H Q=>te σ H λx H1=>tl σ H1 λl H2=>th σ H2 λu H3=>r x l u H3 Q
theorem D0{r:V->Option Int->Option Int->Hp->VK->Prop}(hr:Ig X r)(he:PE X e te)(hl:PO X lo tl)(hu:PO X hi th):PE X (.Subscript e (.Slice lo hi none p2) pos) (Wi r te tl th):=by
 intro pins s σ H Q I h;refine sE (Af (he pins s σ H _ I h) λv s1 ⟨x,H1,I1,r1,q1⟩=>?_);refine wpAny_Slice (Af (hl pins s1 σ H1 _ I1 q1) λvl s2 ⟨l,H2,I2,pl,q2⟩=>Af (hu pins s2 σ H2 _ I2 q2) λvu s3 ⟨u,H3,I3,pu,q3⟩=>?_);rw[evalPart_none];refine jk ?_;have I4:AK X pins σ H3 { s3 with heap:=s3.heap.push { cls:=.type "slice",data:=.fields #[vl,vu,.none] } }:=I3.Bx (t':=s3.toks) λb ob q=>i3 _ q
 obtain⟨T,id,hT,ht,hg⟩:=hr pins { s3 with heap:=s3.heap.push { cls:=.type "slice",data:=.fields #[vl,vu,.none] } } σ H3 x v vl vu l u s3.heap.objs.size Q I4 r1 (Heap.IsSliceOf.new ..) pl pu q3;show wpAny (model X.prog X.w) X.A (subscriptTail e (.Slice lo hi none p2) v (.ref s3.heap.objs.size)) (EP X pins σ Q) X.xe { s3 with heap:=s3.heap.push { cls:=.type "slice",data:=.fields #[vl,vu,.none] } };exact tail_any (ops:=[.ref s3.heap.objs.size,v]) ht hT hg (by with_unfolding_all rfl)
def Cu(xs:List V)(lo hi:Option Int):List V:=(xs.drop (HT.Ag xs.length 0 lo)).take (HT.Ag xs.length xs.length hi-HT.Ag xs.length 0 lo)
theorem P8(xs:List V)(lo hi:Option Int):(Cu xs lo hi).length<=xs.length:=by
 unfold Cu;rw[jT,jO];omega
def Pf(K:PySem.W.Frag):V->Option Int->Option Int->Hp->VK->Prop:=λx lo hi H Q=>∃a xs,x=.ref a/\AI K H a xs /\
 ¬(HT.Ag xs.length 0 lo=0/\HT.Ag xs.length xs.length hi=xs.length)/\∀p,H p=none->Q (.ref p) (AJ H p (.AG (Cu xs lo hi)))
theorem KU:Ig X (Pf X.K):=by
 intro pins s σ H x v vl vu lo hi sl Q I rx hs pl pu h;obtain⟨a,xs,rfl,hx,hw,q⟩:=h;cases rx;obtain⟨its,r,ht,hz⟩:=I.tuple hx;have hlen:its.toArray.size=xs.length:=by rw[ja]; exact r.length.symm
 refine⟨"tuple",_,kr.lookup,ht.typeIs,?_⟩;refine HT.Wn ht hs pl pu (by rw[hlen]; exact hw) ?_ (by rw[hlen]; exact hz);rw[hlen];refine⟨.ref s.heap.objs.size,_,I.Df (t':=s.toks) (o:=.AG (Cu xs lo hi)) (λb ob q=>i3 _ q) (i4 _) ?_,rfl,q _ (I.hok.Br (i4 _))⟩;exact⟨js (P8 xs lo hi) hz,_,(r.drop (HT.Ag xs.length 0 lo)).take (HT.Ag xs.length xs.length hi-HT.Ag xs.length 0 lo),sN _ _,_,jo _ rfl,rfl⟩
def U8(K:PySem.W.Frag):R2:=λx y H Q=>∃a b xs ys,x=.ref a/\y=.ref b/\AI K H a xs/\AI K H b ys/\xs≠[]/\xs.length+ys.length<=sizeLine /\
 (ys=[]->Q (.ref a) H)/\(ys≠[]->∀p,H p=none->Q (.ref p) (AJ H p (.AG (xs++ys))))
theorem Ah.KD{xs:List V}{us:List Value}(r:Ah xs us):us=[]↔xs=[]:=by
 cases r with
 | nil=>simp
 | cons _ _=>simp
theorem Lf:Bo X (binaryOp .Add) (U8 X.K):=by
 intro pins s σ H x y v u Q I rx ry h;obtain⟨a,b,xs,ys,rfl,rfl,ha,hb,hx,hz,q1,q2⟩:=h;cases rx;cases ry;obtain⟨its,r1,p1,_⟩:=I.tuple ha;obtain⟨its2,r2,p2,_⟩:=I.tuple hb;refine HT.Zp p1 p2 (λz=>hx (r1.KD.mp z)) (λz=>⟨.ref a,H,I,rfl,q1 (r2.KD.mp z)⟩) (λz=>?_) (by rw[<-r1.length,<-r2.length]; exact hz);refine⟨.ref s.heap.objs.size,_,I.Df (t':=s.toks) (o:=.AG (xs++ys)) (λb ob q=>i3 _ q) (i4 _) ?_,rfl,q2 (λw=>z (r2.KD.mpr w)) _ (I.hok.Br (i4 _))⟩;exact⟨by rw[jc]; exact hz,_,r1.append r2,sN _ _,_,jo _ rfl,rfl⟩
def EF(n:Nat)(i:Int):Option Nat:=if 0<=i then (if i<n then some i.toNat else none) else if -(n:Int)<=i then some (i+n).toNat else none
def Bt{α:Type}(xs:List α)(i:Int):Option α:=(EF xs.length i).bind λj=>xs[j]?
theorem N0{n:Nat}{i:Int}{j:Nat}(h:EF n i=some j):seqIndex? i n=some j/\j<n/\-(n:Int)<=i/\i<n:=by
 unfold EF at h;by_cases h0:0<=i
 ·rw[i5 h0] at h;by_cases h1:i<n
  ·rw[i5 h1] at h;have e:i.toNat=j:=je h;exact⟨by rw[rP h0 h1,e],by omega,by omega,h1⟩
  ·rw[iz h1] at h; cases h
 ·rw[iz h0] at h;by_cases h1:-(n:Int)<=i
  ·rw[i5 h1] at h;have e:(i+n).toNat=j:=je h;exact⟨by rw[qY (by omega) h1,e],by omega,h1,by omega⟩
  ·rw[iz h1] at h; cases h
theorem SV{α:Type}{xs:List α}{i:Int}{v:α}(h:Bt xs i=some v):∃j,seqIndex? i xs.length=some j/\xs[j]?=some v/\j<xs.length/\-(xs.length:Int)<=i/\i<xs.length:=by
 unfold Bt at h;cases e:EF xs.length i with
 | none=>rw[e] at h; cases h
 | some j =>
  rw[e] at h;obtain⟨h1,h2,h3,h4⟩:=N0 e;exact⟨j,h1,h,h2,h3,h4⟩
theorem BX{α:Type}{xs:List α}{j:Nat}{v:α}(h:xs[j]?=some v):Bt xs (j:Int)=some v:=by
 have hj:j<xs.length:=(ip.mp h).1;have e:EF xs.length (j:Int)=some j:=by
  unfold EF;rw[i5 (by omega),i5 (by omega)]; simp
 unfold Bt; rw[e]; exact h
def Ni(b:Expr):Prop:=∀o i,subscripted b false o i=operate [o,i] (getItem o i)
def K7(X:Cx)(r:R2):Prop :=
 ∀(value slice:Expr) (pins:List (Addr×Obj)) (s:Shared) (σ:St) (H:Hp) (x y:V) (v u:Value) (Q:VK),AK X pins σ H s->Aw x v->Aw y u->r x y H Q →
  subscripted slice false v u=operate [v,u] (getItem v u)->wpAny (model X.prog X.w) X.A (subscriptTail value slice v u) (EP X pins σ Q) X.xe s
def WO(X:Cx)(id:String)(r:V->List V->Hp->VK->Prop):Prop :=
 ∀(pins:List (Addr×Obj)) (s:Shared) (σ:St) (H:Hp) (x:V) (xs:List V) (v:Value) (us:List Value) (Q:VK),AK X pins σ H s->Aw x v->Ah xs us->r x xs H Q →
  wpAny (model X.prog X.w) X.A (call (.builtin id) (v :: us)) (EP X pins σ Q) X.xe s
variable {a b:Expr} {ta tb:TE}
theorem A6{r:R2}(hr:K7 X r)(ha:PE X a ta)(hb:PE X b tb)(hs:Ni b):PE X (.Subscript a b pos) (Bd r ta tb):=by
 intro pins s σ H Q I h;exact sE (PH ha hb I h λv u s2 x y H2 I2 rx ry q=>hr a b pins s2 σ H2 x y v u Q I2 rx ry q (hs _ _))
inductive WJ(K:PySem.W.Frag)(x y:V)(H:Hp)(Q:VK):Prop
 | mk (p:Addr) (xs:List V) (i:Int) (v:V) (a:x=.ref p) (b:y=.int i) (c:AQ K H p xs) (d:Bt xs i=some v) (q:Q v H):WJ K x y H Q
inductive Vl(K:PySem.W.Frag)(x y:V)(H:Hp)(Q:VK):Prop
 | mk (p:Addr) (xs:List V) (i:Int) (v:V) (a:x=.ref p) (b:y=.int i) (c:AI K H p xs) (d:Bt xs i=some v) (q:Q v H):Vl K x y H Q
def HX(K:PySem.W.Frag):R2:=λx y H Q=>WJ K x y H Q
def Fy(K:PySem.W.Frag):R2:=λx y H Q=>Vl K x y H Q
theorem B8:K7 X (HX X.K):=by
 intro value slice pins s σ H x y v u Q I rx ry h hs;obtain⟨p,xs,i,z,rfl,rfl,hq,he,q⟩:=h;cases rx;obtain⟨t,rfl⟩:=ry;obtain⟨its,r,pl,hz⟩:=I.list hq;obtain⟨j,h1,h2,h3,h4,h5⟩:=SV he;obtain⟨w,ew,rw'⟩:=r.get h2;have hl:=r.length;have hn:=Lq;have fin:EP X pins σ Q w s:=⟨z,H,I,rw',q⟩;by_cases h0:0<=i
 ·have hj:i.toNat=j:=by
   rw[rP h0 h5] at h1;exact je h1
  exact item_listR pl.isList h0 (by omega) (by rw[hj]; simpa using ew) fin hs
 ·have hj:(i+(its.toArray.size:Int)).toNat=j:=by
   rw[qY (by omega) h4] at h1;rw[ja,<-hl];exact je h1
  exact pZ (x:=w) pl.isList.typeIs rG.lookup
   (wpAny_getItem_list_neg (Q:=λr s'=>r=w/\EP X pins σ Q r s') pl.isList (by omega) (by rw[ja] <;> omega) (by omega) (by rw[hj]; simpa using ew) ⟨rfl,fin⟩) hs
theorem Bu:K7 X (Fy X.K):=by
 intro value slice pins s σ H x y v u Q I rx ry h hs;obtain⟨p,xs,i,z,rfl,rfl,hq,he,q⟩:=h;cases rx;obtain⟨t,rfl⟩:=ry;obtain⟨its,r,pl,hz⟩:=I.tuple hq;obtain⟨j,h1,h2,h3,h4,h5⟩:=SV he;obtain⟨w,ew,rw'⟩:=r.get h2;have hl:=r.length;have hn:=Lq;have fin:EP X pins σ Q w s:=⟨z,H,I,rw',q⟩;exact pZ (x:=w) pl.typeIs slot_tuple_getitem.lookup
  (getItem_tuple (j:=j) (Q:=λr s'=>r=w/\EP X pins σ Q r s') pl (by omega) (by omega) (by rw[ja,<-hl]; exact h1) (by simpa using ew) ⟨rfl,fin⟩) hs
theorem XQ(its:List Value)(n j:Nat)(u:Value):Obj.mapSeq (·.setIfInBounds j u) { cls:=.type "list",data:=.seq its.toArray n }={ cls:=.type "list",data:=.seq (its.set j u).toArray n }:=by
 simp[Obj.mapSeq]
theorem AK.AF{pins:List (Addr×Obj)}{σ:St}{H:Hp}{s:Shared}{p:Addr}{xs:List V}(I:AK X pins σ H s)(h:H p=some (.AF xs)):
  ∃(its:List Value) (n:Nat),Ah xs its/\s.heap.get? p=some { cls:=.type "list",data:=.seq its.toArray n }/\xs.length<=sizeLine:=by
 obtain⟨z,its,n,r,e⟩:=I.hok p _ h;exact⟨its,n,r,e,z⟩
theorem AK.dO {pins:List (Addr×Obj)} {σ:St} {H:Hp} {s:Shared} {p:Addr} {xs ys:List V} {its its':List Value} {n n':Nat} {f:Obj->Obj} (I:AK X pins σ H s) (h:H p=some (.AF xs))
  (ho:s.heap.get? p=some { cls:=.type "list",data:=.seq its.toArray n }) (hf:f { cls:=.type "list",data:=.seq its.toArray n }={ cls:=.type "list",data:=.seq its'.toArray n' }) (r:Ah ys its') (hz:ys.length<=sizeLine) (t:Nat) :
  AK X pins σ (AJ H p (.AF ys)) { s with heap:=s.heap.update p f,toks:=t }:=by
 have e:(s.heap.update p f).get? p=some { cls:=.type "list",data:=.seq its'.toArray n' }:=by
  rw[oo f ho (by rw[hf] <;> rfl),hf]
 refine I.IQ (x:=p) (e:=p) (by rw[h]; trivial) (.inl rfl) (λb u hb q=>(nZ _ _ (kC hb)).trans q) ⟨_,e⟩ ?_;exact⟨hz,its',n',r,e⟩
inductive VH(o i v:V)(H:Hp)(Q:Hp->Prop):Prop
 | mk (p:Addr) (xs:List V) (k:Int) (j:Nat) (e1:o=.ref p) (e2:i=.int k) (h:H p=some (.AF xs)) (x:EF xs.length k=some j) (q:Q (AJ H p (.AF (xs.set j v)))):VH o i v H Q
def U3:V->V->V->Hp->(Hp->Prop)->Prop:=λo i v H Q=>VH o i v H Q
theorem Fh:Vq X U3:=by
 intro pins s σ H o i v ov iv u Q I ro ri rv h;obtain⟨p,xs,k,j,rfl,rfl,hp,hj,q⟩:=h;cases ro;obtain⟨t,rfl⟩:=ri;obtain⟨its,n,r,ho,hz⟩:=I.AF hp;obtain⟨h1,h2,h3,h4⟩:=N0 hj;have hl:=r.length;have hn:=Lq;have I':AK X pins σ (AJ H p (.AF (xs.set j v))) { s with heap:=s.heap.update p (Obj.mapSeq (·.setIfInBounds j u)) } :=
  I.dO hp ho (XQ its n j u) (r.set rv j) (by rw[k9]; exact hz) s.toks
 by_cases h0:0<=k
 ·have hk:k.toNat=j:=by
   rw[rP h0 h4] at h1;exact je h1
  exact PySem.W.ki_setAt ho h0 (by omega) (by rw[ja,<-hl]; exact h4) (by rw[hk]; exact⟨_,I',q⟩)
 ·have hk:(k+(its.toArray.size:Int)).toNat=j:=by
   rw[qY (by omega) h3] at h1;rw[ja,<-hl];exact je h1
  exact PySem.W.ki_setBack ho (by omega) (by rw[ja,<-hl]; exact h3) (by omega) (by rw[hk]; exact⟨_,I',q⟩)
theorem Wy(lo hi:Option Int)(n:Nat):(sliceBounds lo hi none n).1=((HT.Ag n 0 lo:Nat):Int)/\(sliceBounds lo hi none n).2.1=((HT.Ag n n hi:Nat):Int)/\(sliceBounds lo hi none n).2.2=1:=by
 refine⟨?_,?_,rfl⟩
 ·cases lo with
  | none=>simp[sliceBounds,HT.Ag]
  | some i =>
   simp only[sliceBounds,HT.Ag,r6,show(1:Int) > 0 by decide,if_true];by_cases h:i<0
   ·simp only[h,if_true] <;> omega
   ·simp only[h,if_false] <;> omega
 ·cases hi with
  | none=>simp[sliceBounds,HT.Ag]
  | some i =>
   simp only[sliceBounds,HT.Ag,r6,show(1:Int) > 0 by decide,if_true];by_cases h:i<0
   ·simp only[h,if_true] <;> omega
   ·simp only[h,if_false] <;> omega
theorem Wt(its:List Value)(lo hi:Option Int):slicePick its.toArray lo hi none=((its.drop (HT.Ag its.length 0 lo)).take (HT.Ag its.length its.length hi-HT.Ag its.length 0 lo)).toArray:=by
 obtain⟨h1,h2,h3⟩:=Wy lo hi its.toArray.size;unfold slicePick;rw[h1,h2,h3];simp only[sliceRange_one,pick_run,ja] <;> rfl
inductive WE(K:PySem.W.Frag)(x:V)(lo hi:Option Int)(H:Hp)(Q:VK):Prop
 | mk (a:Addr) (xs:List V) (e:x=.ref a) (s:AQ K H a xs) (q:∀p,H p=none->Q (.ref p) (AJ H p (.AF (Cu xs lo hi)))):WE K x lo hi H Q
def V4(K:PySem.W.Frag):V->Option Int->Option Int->Hp->VK->Prop:=λx lo hi H Q=>WE K x lo hi H Q
theorem Lb:Ig X (V4 X.K):=by
 intro pins s σ H x v vl vu lo hi sl Q I rx hs pl pu h;obtain⟨a,xs,rfl,hx,q⟩:=h;cases rx;obtain⟨its,r,ht,hz⟩:=I.list hx;have hlen:=r.length;refine⟨"list",_,rG.lookup,ht.isList.typeIs,?_⟩;refine wpAny_getItem_list_slice ht.isList hs pl pu .none (by simp) ?_ (by rw[ja] <;> omega);rw[Wt,<-hlen];refine⟨.ref s.heap.objs.size,_,I.Df (t':=s.toks) (o:=.AF (Cu xs lo hi)) (λb ob q=>i3 _ q) (i4 _) ?_,rfl,q _ (I.hok.Br (i4 _))⟩;exact⟨js (P8 xs lo hi) hz,_,0,(r.drop (HT.Ag xs.length 0 lo)).take (HT.Ag xs.length xs.length hi-HT.Ag xs.length 0 lo),jo _ rfl⟩
def FL:V->Bool
 | .BD=>true
 | .bl _=>true
 | .int _=>true
 | .str _=>true
 | _=>false
def Gk:V->V->Bool
 | .BD,.BD=>true
 | .bl a,.bl b=>a == b
 | .bl a,.int b=>(if a then 1 else 0) == b
 | .int a,.bl b=>a == (if b then 1 else 0)
 | .int a,.int b=>a == b
 | .str a,.str b=>a == b
 | _,_=>false
theorem bu{A:Around}{s:Shared}{y x:V}{u v:Value}(ry:Aw y u)(rx:Aw x v)(fy:FL y=true)(fx:FL x=true):SeqAt.EqAt A s u v (Gk y x):=by
 cases y with
 | BD =>
  cases ry;cases x with
  | BD=>cases rx; exact SeqAt.EqAt.same _
  | bl b=>cases rx; exact SeqAt.EqAt.none_bool b
  | int b=>obtain⟨t,rfl⟩:=rx; exact SeqAt.EqAt.none_int b t
  | str b=>obtain⟨t,rfl⟩:=rx; exact SeqAt.EqAt.none_str b t
  | _=>exact absurd (show false=true from fx) jr
 | bl a =>
  cases ry;cases x with
  | BD=>cases rx; exact SeqAt.EqAt.bool_none a
  | bl b=>cases rx; exact SeqAt.EqAt.bool_bool a b
  | int b=>obtain⟨t,rfl⟩:=rx; exact SeqAt.EqAt.bool_int a b t
  | str b=>obtain⟨t,rfl⟩:=rx; exact SeqAt.EqAt.bool_str a b t
  | _=>exact absurd (show false=true from fx) jr
 | int a =>
  obtain⟨t',rfl⟩:=ry;cases x with
  | BD=>cases rx; exact SeqAt.EqAt.int_none a t'
  | bl b=>cases rx; exact SeqAt.EqAt.int_bool a t' b
  | int b=>obtain⟨t,rfl⟩:=rx; exact SeqAt.EqAt.int_int a t' b t
  | str b=>obtain⟨t,rfl⟩:=rx; exact qU a t' b t
  | _=>exact absurd (show false=true from fx) jr
 | str a =>
  obtain⟨t',rfl⟩:=ry;cases x with
  | BD=>cases rx; exact SeqAt.EqAt.str_none a t'
  | bl b=>cases rx; exact SeqAt.EqAt.str_bool a t' b
  | int b=>obtain⟨t,rfl⟩:=rx; exact qV a t' b t
  | str b=>obtain⟨t,rfl⟩:=rx; exact SeqAt.EqAt.str_str a t' b t
  | _=>exact absurd (show false=true from fx) jr
 | _=>exact absurd (show false=true from fy) jr
def EC(x:V)(u:Value):Bool:=match u with
 | .none=>Gk .BD x
 | .bool b=>Gk (.bl b) x
 | .int i _=>Gk (.int i) x
 | .str z _=>Gk (.str z) x
 | _=>false
theorem Ud{x y:V}{u:Value}(r:Aw y u)(f:FL y=true):EC x u=Gk y x:=by
 cases y with
 | BD=>cases r; rfl
 | bl b=>cases r; rfl
 | int i=>obtain⟨t,rfl⟩:=r; rfl
 | str z=>obtain⟨t,rfl⟩:=r; rfl
 | _=>exact absurd (show false=true from f) jr
theorem J6{x:V}:∀{xs:List V} {us:List Value},Ah xs us->xs.all FL=true->us.any (EC x)=xs.any λy=>Gk y x
 | _,_,.nil,_=>rfl
 | y :: xs,u :: us,.cons r t,f=>by
  rw[qu,kL] at f;rw[m5,m5,Ud r f.1,J6 t f.2]
theorem Jt{A:Around}{s:Shared}{x:V}{v:Value}(rx:Aw x v)(fx:FL x=true):∀{xs:List V} {us:List Value},Ah xs us->xs.all FL=true->∀u∈us,SeqAt.EqAt A s u v (EC x u)
 | _,_,.nil,_=>λu hu=>by cases hu
 | y :: xs,u :: us,.cons r t,f=>λu' hu=>by
  rw[qu,kL] at f;rcases jh.mp hu with rfl | hu
  ·rw[Ud r f.1]; exact bu r rx f.1 fx
  ·exact Jt rx fx t f.2 u' hu
def Jg(x:V)(xs:List V):Bool:=xs.any λy=>Gk y x
def Wg(K:PySem.W.Frag)(neg:Bool):R2:=λx y H Q=>∃p xs,y=.ref p/\(AQ K H p xs\/AI K H p xs)/\FL x=true/\xs.all FL=true/\Q (.bl (if neg then !Jg x xs else Jg x xs)) H
theorem Xo:Bo X (compareOp .In) (Wg X.K false):=by
 intro pins s σ H x y v u Q I rx ry h;obtain⟨p,xs,rfl,hq,fx,fs,q⟩:=h;cases ry;rcases hq with hq | hq
 ·obtain⟨its,r,pl,hz⟩:=I.list hq;refine SeqAt.in_listAt (EC x) pl.isList (λw hw=>Jt rx fx r fs w (by simpa using hw)) ⟨.bl _,H,I,rfl,?_⟩;rw[show its.toArray.any (EC x)=its.any (EC x) by simp,J6 r fs];exact q
 ·obtain⟨its,r,pl,hz⟩:=I.tuple hq;refine SeqAt.in_tupleAt (EC x) pl (λw hw=>Jt rx fx r fs w (by simpa using hw)) ⟨.bl _,H,I,rfl,?_⟩;rw[show its.toArray.any (EC x)=its.any (EC x) by simp,J6 r fs];exact q
theorem P7:Bo X (compareOp .NotIn) (Wg X.K true):=by
 intro pins s σ H x y v u Q I rx ry h;obtain⟨p,xs,rfl,hq,fx,fs,q⟩:=h;cases ry;rcases hq with hq | hq
 ·obtain⟨its,r,pl,hz⟩:=I.list hq;refine SeqAt.notIn_listAt (EC x) pl.isList (λw hw=>Jt rx fx r fs w (by simpa using hw)) ⟨.bl _,H,I,rfl,?_⟩;rw[show its.toArray.any (EC x)=its.any (EC x) by simp,J6 r fs];exact q
 ·obtain⟨its,r,pl,hz⟩:=I.tuple hq;refine SeqAt.notIn_tupleAt (EC x) pl (λw hw=>Jt rx fx r fs w (by simpa using hw)) ⟨.bl _,H,I,rfl,?_⟩;rw[show its.toArray.any (EC x)=its.any (EC x) by simp,J6 r fs];exact q
inductive MR(K:PySem.W.Frag)(xs:List V)(H:Hp)(Q:VK):Prop
 | mk (p:Addr) (ys:List V) (e:xs=[.ref p]) (s:AQ K H p ys\/AI K H p ys) (q:Q (.int ys.length) H):MR K xs H Q
theorem Jm:DJ X (.builtin "len") (MR X.K):=by
 intro pins s σ H xs us Q I r h;obtain⟨p,ys,rfl,hq,q⟩:=h;obtain⟨u,rfl,rx⟩:=Er r;cases rx;have hn:=Lq;rcases hq with hq | hq
 ·obtain⟨its,r',pl,hz⟩:=I.list hq;have hlen:=r'.length;exact Calls.call_len_list pl.isList (by simp only[ja] <;> omega) ⟨.int ys.length,H,I.Dk _,⟨s.toks+1,by rw[ja,hlen]⟩,q⟩
 ·obtain⟨its,r',pl,hz⟩:=I.tuple hq;have hlen:=r'.length;exact len_tuple pl (by simp only[ja] <;> omega) ⟨.int ys.length,H,I.Dk _,⟨s.toks+1,by rw[ja,hlen]⟩,q⟩
theorem P6:DJ X (.type "list") (λxs H Q=>∃p ys,xs=[.ref p]/\(AQ X.K H p ys\/AI X.K H p ys)/\∀l,H l=none->Q (.ref l) (AJ H l (.AF ys))):=by
 intro pins s σ H xs us Q I r h;obtain⟨p,ys,rfl,hq,q⟩:=h;obtain⟨u,rfl,rx⟩:=Er r;cases rx;have fin:∀(its:List Value),Ah ys its->ys.length<=sizeLine->∀(h':Heap) (c':Nat),(∀b o',s.heap.get? b=some o'->h'.get? b=some o') →
   h'.get? s.heap.objs.size=some { cls:=.type "list",dict:=none,data:=.seq its.toArray c',slots:=#[] }->EP X pins σ Q (.ref s.heap.objs.size) { s with heap:=h' }:=λits r' hz h' c' kp e =>
  ⟨.ref s.heap.objs.size,_,I.Df (t':=s.toks) kp (i4 _) (show Bk X.prog X.w _ h' _ (.AF ys) from ⟨hz,its,c',r',e⟩),rfl,q _ (I.hok.Br (i4 _))⟩
 rcases hq with hq | hq
 ·obtain⟨its,r',pl,hz⟩:=I.list hq;have hlen:=r'.length;obtain⟨o,ho,hc,n,hd⟩:=pl.isList;exact call_list_seq p (.inl rfl) ho hc hd (λh' c' kp e=>fin its r' hz h' c' kp e) (by simp only[ja] <;> omega)
 ·obtain⟨its,r',pl,hz⟩:=I.tuple hq;have hlen:=r'.length;obtain⟨o,ho,hc,n,hd⟩:=pl;exact call_list_seq p (.inr rfl) ho hc hd (λh' c' kp e=>fin its r' hz h' c' kp e) (by simp only[ja] <;> omega)
theorem Fb:DJ X (.type "tuple") (λxs H Q=>∃p ys,xs=[.ref p]/\((AQ X.K H p ys/\∀l,H l=none->Q (.ref l) (AJ H l (.AG ys)))\/(AI X.K H p ys/\Q (.ref p) H))):=by
 intro pins s σ H xs us Q I r h;obtain⟨p,ys,rfl,h⟩:=h;obtain⟨u,rfl,rx⟩:=Er r;cases rx;rcases h with ⟨hq,q⟩ | ⟨hq,q⟩
 ·obtain⟨its,r',pl,hz⟩:=I.list hq;have hlen:=r'.length;refine call_tuple_list pl.isList (λh' kp=>?_) (by simp only[ja] <;> omega);have I1:AK X pins σ H { s with heap:=h' }:=I.Bx (t':=s.toks) kp;have I2:AK X pins σ (AJ H h'.objs.size (.AG ys)) { s with heap:=h'.push { cls:=.type "tuple",data:=.seq its.toArray } } :=
   I1.Df (t':=s.toks) (λb o e=>i3 _ e) (i4 _) (show Bk X.prog X.w _ _ _ (.AG ys) from ⟨hz,its,r',sN _ _,_,jo _ rfl,rfl⟩)
  exact⟨.ref h'.objs.size,_,I2,rfl,q _ (I1.hok.Br (i4 _))⟩
 ·obtain⟨its,r',pl,hz⟩:=I.tuple hq;exact call_tuple_same pl ⟨.ref p,H,I,rfl,q⟩
def We(K:PySem.W.Frag)(T:String)(x:V)(H:Hp):Prop:=match x with
 | .str _=>T="str"
 | .int _=>T="int"
 | .ref p=>(T="list"/\∃xs,AQ K H p xs)\/(T="tuple"/\∃o,K.lookup p=some o/\o.cls=.type "tuple"/\o.dict=none) \/
   (T="dict"/\((∃kvs,H p=some (.dK kvs))\/∃kvs,H p=some (.dT kvs)))\/(T="set"/\∃S n,H p=some (.set S n))
 | _=>False
theorem cR{pins:List (Addr×Obj)}{σ:St}{H:Hp}{s:Shared}{T:String}{x:V}{v:Value}(I:AK X pins σ H s)(r:Aw x v)(ty:We X.K T x H):
  s.TypeIs v T/\∀a,v=.ref a->∃ob,s.heap.get? a=some ob/\ob.dict=none:=by
 cases x with
 | str z =>
  obtain⟨t,rfl⟩:=r;cases (show T="str" from ty);exact⟨typeIs_str s z t,λ_ e=>nomatch e⟩
 | int i =>
  obtain⟨t,rfl⟩:=r;cases (show T="int" from ty);exact⟨sH s i t,λ_ e=>nomatch e⟩
 | ref p =>
  cases r;rcases ty with ⟨rfl,xs,hq⟩ | ⟨rfl,o,hk,hc,hd⟩ | ⟨rfl,hk⟩ | ⟨rfl,S,n,hk⟩
  ·obtain⟨its,_,pl,_⟩:=I.list hq;refine⟨pl.isList.typeIs,λa e=>?_⟩;cases e;obtain⟨o,n,e,c,hd,_⟩:=pl;exact⟨o,e,hd⟩
  ·refine⟨⟨o,I.Dj p o hk,hc⟩,λa e=>?_⟩;cases e;exact⟨o,I.Dj _ o hk,hd⟩
  ·have z:∃o,s.heap.get? p=some o/\o.ExactDict:=by
    rcases hk with ⟨kvs,hk⟩ | ⟨kvs,hk⟩
    ·obtain⟨_,_,_,_,o,_,_,e,ex,_⟩:=I.hok p _ hk;exact⟨o,e,ex⟩
    ·obtain⟨_,_,_,_,o,_,_,e,ex,_⟩:=I.hok p _ hk;exact⟨o,e,ex⟩
   obtain⟨o,e,ex⟩:=z;refine⟨⟨o,e,ex.1⟩,λa e2=>?_⟩;cases e2;exact⟨o,e,ex.2.1⟩
  ·obtain⟨o,_,_,_,e,ex,_⟩:=I.hok p _ hk;refine⟨⟨o,e,ex.1⟩,λa e2=>?_⟩;cases e2;exact⟨o,e,ex.2.1⟩
 | _=>exact False.elim ty
def Wf(K:PySem.W.Frag)(T:String)(r:V->List V->Hp->VK->Prop)(to:TE)(t:TA):TE:=λσ H Q=>to σ H λx H1=>We K T x H1/\t σ H1 λxs H2=>r x xs H2 Q
variable {o:Expr} {es:List Expr} {to:TE} {t:TA} {name:Str} {apos cpos:Pos} {T id:String} {r:V->List V->Hp->VK->Prop}
theorem eY (pa:PlainAttrs T) (slot:Slot T name id) (hty:typeOf (.builtin id)=pure (.type "method_descriptor")) (hm:WO X id r) (ho:PE X o to) (ha:PA X (e :: es) t)
  (hbase:attributeBase o name X.env (eval o X.env)=eval o X.env:=by rfl)
  (hfew:((backTo cpos (starEach (e :: es) X.env)).all (λx=>!x.1) && (backToKw cpos (keywordEach [] X.env)).all (λx=>x.1.isSome)
   && decide ((e :: es).length+([]:List Keyword).length+(if ([]:List Keyword).isEmpty then 0 else 1)<30))=true:=by rfl)
  (hline:(apos.endLine == cpos.line)=true:=by rfl) (hs:starEach (e :: es) X.env=(false,eval e X.env) :: starEach es X.env:=by rfl) (hplain:(backTo cpos (starEach es X.env)).any (·.1)=false:=by rfl) :
  PE X (.Call (.Attribute o name apos) (e :: es) [] cpos) (Wf X.K T r to t):=by
 intro pins s σ H Q I h;refine p6 hbase hfew hline rfl (Af (ho pins s σ H _ I h) λv s1 ⟨x,H1,I1,r1,ty,q1⟩=>?_);obtain⟨h1,h2⟩:=cR I1 r1 ty;refine⟨T,id,pa,slot,hty,h1,h2,?_⟩;have hA:=ha cpos pins s1 σ H1 _ I1 q1;rw[hs] at hA ⊢;refine pS (by show(false || (backTo cpos (starEach es X.env)).any (·.1))=false; rw[hplain] <;> rfl) (qp ?_);exact Af hA λus s2 ⟨vs,H2,I2,r2,q2⟩=>hm pins s2 σ H2 x vs v us Q I2 r1 r2 q2
end
def Ja(X:Cx)(id:String)(r:V->List V->Hp->VK->Prop):Prop :=
 ∀(pins:List (Addr×Obj)) (s:Shared) (σ:St) (H:Hp) (x:V) (xs:List V) (v:Value) (us:List Value) (Q:VK),AK X pins σ H s->Aw x v->Ah xs us->r x xs H Q →
  wpAny (model X.prog X.w) X.A (call (.builtin id) (v :: us)) (EP X pins σ Q) X.xe s
theorem Ah.Aq:∀{x:V} {us:List Value},Ah [x] us->∃u,us=[u]/\Aw x u
 | _,_,.cons r .nil=>⟨_,rfl,r⟩
theorem Ah.two:∀{x y:V} {us:List Value},Ah [x,y] us->∃u v,us=[u,v]/\Aw x u/\Aw y v
 | _,_,_,.cons r (.cons q .nil)=>⟨_,_,rfl,r,q⟩
theorem Ah.zero:∀{us:List Value},Ah [] us->us=[]
 | _,.nil=>rfl
theorem Ah.eraseIdx:∀{xs:List V} {us:List Value} (i:Nat),Ah xs us->Ah (xs.eraseIdx i) (us.eraseIdx i)
 | _,_,_,.nil=>.nil
 | _,_,0,.cons _ t=>t
 | _,_,i+1,.cons r t=>.cons r (Ah.eraseIdx i t)
theorem Ah.WL{xs:List V}{us:List Value}(h:Ah xs us):∀k:Nat,Ah (List.replicate k xs).flatten (List.replicate k us).flatten
 | 0=>.nil
 | k+1=>by
  rw[jE,jE,jx,jx];exact Ah.append h (Ah.WL h k)
theorem Qh{α:Type}:∀(l:List α) (i:Nat),(l.eraseIdx i).length<=l.length
 | [],_=>i4 _
 | _ :: _,0=>rM _
 | _ :: r,i+1=>Nat.succ_le_succ (Qh r i)
theorem Qu(its:List Value):∀(k:Nat) (acc:List Value),
  List.foldl (λx1 x2=>x1++x2) acc.toArray (List.replicate k its.toArray)=(acc++(List.replicate k its).flatten).toArray
 | 0,acc=>by simp
 | k+1,acc=>by
  have e:acc.toArray++its.toArray=(acc++its).toArray:=by simp
  have e2:(acc++its)++(List.replicate k its).flatten=acc++(List.replicate (k+1) its).flatten:=by
   rw[jE,jx,jU]
  rw[<-e2,<-Qu its k (acc++its),<-e,jE,su]
section
variable {X:Cx} {pins:List (Addr×Obj)} {σ:St} {H:Hp} {s:Shared} {l b:Addr} {xs ys zs:List V}
theorem AK.Pd {its its':List Value} {n:Nat} {f:Array Value->Array Value} {t':Nat} (I:AK X pins σ H s) (hH:H l=some (.AF xs))
  (e:s.heap.get? l=some { cls:=.type "list",data:=.seq its.toArray n }) (hf:f its.toArray=its'.toArray) (hv:Ah ys its') (hz:ys.length<=sizeLine) :
  AK X pins σ (AJ H l (.AF ys)) { s with heap:=s.heap.update l (Obj.mapSeq f),toks:=t' }:=by
 have q:=PySem.IsL.update e f;rw[hf] at q;refine I.IQ (x:=l) (e:=l) (by rw[hH]; exact trivial) (.inl rfl) (λb' u hb hu=>(nZ s.heap (Obj.mapSeq f) (kC hb)).trans hu) ⟨_,q⟩ ?_;exact⟨hz,its',_,hv,q⟩
theorem AK.V0{its:List Value}{t':Nat}(I:AK X pins σ H s)(hv:Ah ys its)(hz:ys.length<=sizeLine):
  AK X pins σ (AJ H s.heap.objs.size (.AF ys)) { s with heap:=s.heap.push { cls:=.type "list",data:=.seq its.toArray },toks:=t' } :=
 I.Df (λ_ _ q=>i3 _ q) (i4 _) ⟨hz,its,0,hv,jo _ rfl⟩
theorem AK.Br(I:AK X pins σ H s):H s.heap.objs.size=none:=I.hok.Br (i4 _)
theorem AK.HV(I:AK X pins σ H s)(hH:H l=some (.AF xs)):xs.length<=sizeLine/\∃(its:List Value) (n:Nat),Ah xs its/\xs.length=its.length/\s.heap.get? l=some { cls:=.type "list",data:=.seq its.toArray n }:=by
 obtain⟨z,its,n,r,e⟩:=I.hok l _ hH;exact⟨z,its,n,r,r.length,e⟩
theorem ZI{n:Nat}(h:n<=sizeLine):Builtin.List.listTooLong n=false:=by
 unfold Builtin.List.listTooLong;exact kz (by omega)
end
section
variable {X:Cx}
inductive Vv(x:V)(vs:List V)(H:Hp)(Q:VK):Prop
 | mk (l:Addr) (xs:List V) (y:V) (e1:x=.ref l) (e2:vs=[y]) (h:H l=some (.AF xs)) (n:xs.length<sizeLine) (q:Q .BD (AJ H l (.AF (xs++[y])))):Vv x vs H Q
def bM:V->List V->Hp->VK->Prop:=λx vs H Q=>Vv x vs H Q
theorem Dz:Ja X "list.append" bM:=by
 intro pins s σ H x vs v us Q I rx rv h;obtain⟨l,xs,y,rfl,rfl,hH,hz,q⟩:=h;cases rx;obtain⟨u,rfl,ru⟩:=rv.Aq;obtain⟨z,its,n,r,hl,e⟩:=I.HV hH;refine nQ F.slot_list_append ⟨_,e,rfl⟩ F.entry_list_append (F.args_list_append_2 _ _) (PySem.list_append l its.toArray n u (by rw[ja]; omega)) ⟨e,?_⟩;refine⟨.BD,_,I.Pd (its':=its++[u]) hH e (by simp) (r.append (.cons ru .nil)) ?_,rfl,q⟩;rw[jc,kh];omega
def bo:V->List V->Hp->VK->Prop:=λx vs H Q=>∃l xs i k y,x=.ref l/\vs=[.int i]/\H l=some (.AF xs)/\-(2 ^ 63)<=i/\i<2 ^ 63/\seqIndex? i xs.length=some k/\xs[k]?=some y/\Q y (AJ H l (.AF (xs.eraseIdx k)))
theorem RE:Ja X "list.pop" bo:=by
 intro pins s σ H x vs v us Q I rx rv h;obtain⟨l,xs,i,k,y,rfl,rfl,hH,h1,h2,hk,hy,q⟩:=h;cases rx;obtain⟨u,rfl,ru⟩:=rv.Aq;obtain⟨t,rfl⟩:=ru;obtain⟨z,its,n,r,hl,e⟩:=I.HV hH;obtain⟨w,hw,rw'⟩:=r.get hy;refine nQ F.slot_list_pop ⟨_,e,rfl⟩ F.entry_list_pop (F.args_list_pop_2 _ _)
  (MeetsSeq.list_pop_at l its.toArray n i t k w (fitsIndex_both h1 h2) (by rw[ja,<-hl]; exact hk) (by rw[<-Array.getElem?_toList]; exact hw) (by rw[ja]; omega)) ⟨e,?_⟩
 refine⟨y,_,I.Pd (its':=its.eraseIdx k) hH e ?_ (r.eraseIdx k) ?_,rw',q⟩
 ·show its.toArray.eraseIdxIfInBounds k=(its.eraseIdx k).toArray;rw[List.eraseIdxIfInBounds_toArray]
 ·have:=Qh xs k
  omega
inductive Vn(x y:V)(H:Hp)(Q:VK):Prop
 | mk (l b:Addr) (xs zs:List V) (e1:x=.ref l) (e2:y=.ref b) (h1:H l=some (.AF xs)) (h2:H b=some (.AF zs)) (n:xs.length+zs.length<=sizeLine) (q:∀p,H p=none->Q (.ref p) (AJ H p (.AF (xs++zs)))):Vn x y H Q
def gA:R2:=λx y H Q=>Vn x y H Q
theorem KI:Bo X (binaryOp .Add) gA:=by
 intro pins s σ H x y v u Q I rx ry h;obtain⟨l,b,xs,zs,rfl,rfl,hH,hB,hz,q⟩:=h;cases rx;cases ry;obtain⟨z,its,n,r,hl,e⟩:=I.HV hH;obtain⟨z2,its2,n2,r2,hl2,e2⟩:=I.HV hB;refine PySem.P.add_list e e2 ?_ (by rw[ja,ja]; omega);have ea:its.toArray++its2.toArray=(its++its2).toArray:=by simp
 rw[ea];exact⟨.ref _,_,I.V0 (t':=s.toks) (r.append r2) (by rw[jc]; omega),rfl,q _ I.Br⟩
def WH:R2:=λx y H Q=>∃l k xs,x=.ref l/\y=.int k/\H l=some (.AF xs)/\-(2 ^ 63)<=k/\k<2 ^ 63/\xs.length*k.toNat<=sizeLine /\
 ∀p,H p=none->Q (.ref p) (AJ H p (.AF (List.replicate k.toNat xs).flatten))
theorem Z7{α:Type}(xs:List α)(k:Nat):(List.replicate k xs).flatten.length=k*xs.length:=by
 induction k with
 | zero=>simp
 | succ k ih=>rw[jE,jx,jc,ih,Nat.succ_mul,mT]
theorem OO:Bo X (binaryOp .Mult) WH:=by
 intro pins s σ H x y v u Q I rx ry h;obtain⟨l,k,xs,rfl,rfl,hH,h1,h2,hz,q⟩:=h;cases rx;obtain⟨t,rfl⟩:=ry;obtain⟨z,its,n,r,hl,e⟩:=I.HV hH;have hlen:its.toArray.size*k.toNat<=sizeLine:=by rw[ja,<-hl]; exact hz
 have hcap:¬its.toArray.size*k.toNat > (2 ^ 63-1) / 8:=by
  have:(sizeLine:Nat)<=(2 ^ 63-1) / 8:=by decide
  omega
 have hfit:¬(!Builtin.List.listFitsIndex k)=true:=by
  rw[fitsIndex_both h1 h2];exact jr
 have hlong:¬Builtin.List.listTooLong (its.toArray.size*k.toNat)=true:=by
  rw[ZI hlen];exact jr
 have hnew:List.foldl (λx1 x2=>x1++x2) #[] (List.replicate (if its.toArray.isEmpty=true then 0 else k.toNat) its.toArray)=(List.replicate k.toNat its).flatten.toArray:=by
  have f0:∀m:Nat,List.foldl (λx1 x2=>x1++x2) #[] (List.replicate m its.toArray)=(List.replicate m its).flatten.toArray:=λm=>by
   have:=Qu its m []
   rw[nz] at this;exact this
  rw[f0];cases its with
  | nil=>simp
  | cons a r'=>rw[iz (by simp)]
 refine wpAny_binaryOp_repeat_ref (T:="list") (U:="int") (by decide) ⟨_,e,rfl⟩ (λs'=>sH s' k t) noFill_list_mul F.fills_int_mul sj repeat_list F.slot_int_index.lookup
  (nQ sj (sH s k t) F.entry_int_rmul (F.args_int_rmul_2 _ _) (int___rmul___int_list k t l its.toArray n)
   ⟨e,rfl,⟨_,e,rfl⟩,nQ F.slot_list_mul ⟨_,e,rfl⟩ F.entry_list_mul (F.args_list_mul_2 _ _) (AutoListH.list___mul___list_int_3 l its.toArray n k t hfit hcap hlong) ⟨e,?_⟩⟩)
 rw[hnew];exact⟨.ref _,_,I.V0 (t':=s.toks) (r.WL k.toNat) (by rw[Z7,nI]; exact hz),rfl,q _ I.Br⟩
end
section
variable {prog:Program} {w:World} {A:Around} {E:Value->Shared->Prop} {s:Shared}
end
section
variable {X:Cx}
end
section
variable {κ:Type} [DecidableEq κ]
def Cj(kvs:List (κ×V))(k:κ):Option V:=(kvs.find? λkv=>decide (kv.1=k)).map (·.2)
def CL(kvs:List (κ×V))(k:κ)(v:V):List (κ×V) :=
 if (kvs.any λkv=>decide (kv.1=k))=true then kvs.map (λkv=>if kv.1=k then (kv.1,v) else kv) else kvs++[(k,v)]
def VG(kvs:List (κ×V))(k:κ):List (κ×V):=kvs.filter λkv=>decide (kv.1≠k)
theorem Iy{p:κ×V}{r:List (κ×V)}{k:κ}(e:p.1=k):Cj (p :: r) k=some p.2:=by simp[Cj,mE,e]
theorem Hu{p:κ×V}{r:List (κ×V)}{k:κ}(e:¬p.1=k):Cj (p :: r) k=Cj r k:=by simp[Cj,mE,e]
theorem NJ(k:κ):∀kvs:List (κ×V),(kvs.any λkv=>decide (kv.1=k))=(Cj kvs k).isSome
 | []=>rfl
 | p :: r=>by
  rw[m5];by_cases e:p.1=k
  ·simp only[Iy e,kc e,Bool.true_or,Option.isSome_some]
  ·rw[Hu e,kz e,Bool.false_or]; exact NJ k r
theorem Mc(kvs:List (κ×V))(k:κ)(v:V):(CL kvs k v).length<=kvs.length+1:=by
 unfold CL;split
 ·rw[ig]; omega
 ·rw[jc,jD,lC]; omega
theorem Ea.Jn{o:Option V}{u:Option Value}(r:Ea o u):o.isSome=u.isSome:=by
 cases o with
 | none=>cases u with
  | none=>rfl
  | some _=>exact(show False from r).elim
 | some _=>cases u with
  | none=>exact(show False from r).elim
  | some _=>rfl
theorem Ea.getD{o:Option V}{u:Option Value}{d:V}{d':Value}(r:Ea o u)(rd:Aw d d'):Aw (o.getD d) (u.getD d'):=by
 cases o with
 | none=>cases u with
  | none=>exact rd
  | some _=>exact(show False from r).elim
 | some _=>cases u with
  | none=>exact(show False from r).elim
  | some _=>exact r
theorem KV.Ho{kvs:List (κ×V)}{vs:List (κ×Value)}(r:KV kvs vs)(k:κ):Ea (Cj kvs k) (valueAt vs k):=by
 unfold KV at r
 induction r with
 | nil=>exact True.intro
 | @cons p q ps qs h t ih =>
  obtain⟨h1,h2⟩:=h;by_cases e:p.1=k
  ·have e':q.1=k:=h1.symm.trans e;have b:valueAt (q :: qs) k=some q.2:=by simp[valueAt,mE,e']
   rw[Iy e,b]; exact h2
  ·have e':¬q.1=k:=λz=>e (h1.trans z)
   have b:valueAt (q :: qs) k=valueAt qs k:=by simp[valueAt,mE,e']
   rw[Hu e,b]; exact ih
theorem KV.any{kvs:List (κ×V)}{vs:List (κ×Value)}(r:KV kvs vs)(k:κ):(kvs.any λkv=>decide (kv.1=k))=vs.any λkv=>decide (kv.1=k):=by
 unfold KV at r
 induction r with
 | nil=>rfl
 | cons h t ih=>rw[m5,m5,ih,h.1]
theorem KV.PX{kvs:List (κ×V)}{vs:List (κ×Value)}(r:KV kvs vs)(k:κ){y:V}{u:Value}(ry:Aw y u):
  KV (kvs.map λkv=>if kv.1=k then (kv.1,y) else kv) (vs.map λkv=>if kv.1=k then (kv.1,u) else kv):=by
 unfold KV at r ⊢
 induction r with
 | nil=>exact .nil
 | @cons p q ps qs h t ih =>
  rw[i8,i8];refine .cons ?_ ih;obtain⟨h1,h2⟩:=h;by_cases e:p.1=k
  ·rw[i5 e,i5 (h1.symm.trans e)]; exact⟨h1,ry⟩
  ·rw[iz e,iz (λz=>e (h1.trans z))]; exact⟨h1,h2⟩
theorem KV.E1{kvs:List (κ×V)}{vs:List (κ×Value)}(r:KV kvs vs)(k:κ){y:V}{u:Value}(ry:Aw y u):KV (CL kvs k y) (stored vs k u):=by
 unfold CL stored;rw[r.any k];by_cases e:(vs.any λkv=>decide (kv.1=k))=true
 ·rw[i5 e,i5 e]; exact r.PX k ry
 ·rw[iz e,iz e]; exact Paired.snoc r ⟨rfl,ry⟩
theorem KV.drop{kvs:List (κ×V)}{vs:List (κ×Value)}(r:KV kvs vs)(k:κ):KV (VG kvs k) (without vs k):=by
 unfold KV at r ⊢;unfold VG without
 induction r with
 | nil=>exact .nil
 | @cons p q ps qs h t ih =>
  obtain⟨h1,h2⟩:=h;rw[rS,rS];by_cases e:p.1=k
  ·have a:¬decide (p.1≠k)=true:=by simp[e]
   have b:¬decide (q.1≠k)=true:=by simp[h1.symm.trans e]
   rw[iz a,iz b]; exact ih
  ·have e':¬q.1=k:=λz=>e (h1.trans z)
   have a:decide (p.1≠k)=true:=by simp[e]
   have b:decide (q.1≠k)=true:=by simp[e']
   rw[i5 a,i5 b]; exact .cons ⟨h1,h2⟩ ih
theorem KV.length{kvs:List (κ×V)}{vs:List (κ×Value)}(r:KV kvs vs):kvs.length=vs.length:=sX r
end
theorem JS{P:Program}{w:World}{k:AY}{u:Value}(r:Aw (kV k) u):(D4 P w).is k u=true:=by
 cases k with
 | inl i=>obtain⟨t,e⟩:=(show ∃t,u=Value.int i t from r); subst e; exact XB P w i t
 | inr x=>obtain⟨t,e⟩:=(show ∃t,u=Value.str x t from r); subst e; exact XC P w x t
theorem QW{P:Program}{w:World}:∀{ks:List AY} {us:List Value},Ah (ks.map kV) us->ItemsAre (D4 P w) ks us
 | [],_,r=>by rw[kf] at r; cases r; exact .nil
 | k :: ks,_,r=>by
  rw[i8] at r;cases r with
  | cons h t=>exact .cons (JS h) (QW t)
abbrev KT(H:Hp):List (List AY×V)->List (List AY×Addr×Value)->Prop:=Paired λp q=>p.1=q.1/\H q.2.1=some (.AG (p.1.map kV))/\Aw p.2 q.2.2
theorem KT.Ho{H:Hp}{kvs:List (List AY×V)}{xs:List (List AY×Addr×Value)}(r:KT H kvs xs)(k:List AY):Ea (Cj kvs k) ((atKey xs k).map (·.2)):=by
 induction r with
 | nil=>exact True.intro
 | @cons p q ps qs h t ih =>
  obtain⟨h1,_,h2⟩:=h;by_cases e:p.1=k
  ·have e':q.1=k:=h1.symm.trans e;have b:atKey (q :: qs) k=some q.2:=by simp[atKey,mE,e']
   rw[Iy e,b]; exact h2
  ·have e':¬q.1=k:=λz=>e (h1.trans z)
   have b:atKey (q :: qs) k=atKey qs k:=by simp[atKey,mE,e']
   rw[Hu e,b]; exact ih
theorem KT.PX{H:Hp}{kvs:List (List AY×V)}{xs:List (List AY×Addr×Value)}(r:KT H kvs xs)(k:List AY){y:V}{u:Value}(ry:Aw y u):
  KT H (kvs.map λkv=>if kv.1=k then (kv.1,y) else kv) (xs.map (putAt k u)):=by
 induction r with
 | nil=>exact .nil
 | @cons p q ps qs h t ih =>
  rw[i8,i8];refine .cons ?_ ih;obtain⟨h1,h2,h3⟩:=h;unfold putAt;by_cases e:p.1=k
  ·rw[i5 e,i5 (h1.symm.trans e)]; exact⟨h1,h2,ry⟩
  ·rw[iz e,iz (λz=>e (h1.trans z))]; exact⟨h1,h2,h3⟩
theorem KT.E1{H:Hp}{kvs:List (List AY×V)}{xs:List (List AY×Addr×Value)}(r:KT H kvs xs)(k:List AY){b:Addr}{y:V}{u:Value}(hb:H b=some (.AG (k.map kV)))(ry:Aw y u):
  KT H (CL kvs k y) (storedH xs k b u):=by
 have e:(kvs.any λkv=>decide (kv.1=k))=(atKey xs k).isSome:=by
  rw[NJ,(r.Ho k).Jn,pj]
 unfold CL storedH;rw[e];by_cases q:(atKey xs k).isSome=true
 ·rw[i5 q,i5 q]; exact r.PX k ry
 ·rw[iz q,iz q]; exact Paired.snoc r ⟨rfl,hb,ry⟩
theorem KT.keeps{H H':Hp}{kvs:List (List AY×V)}{xs:List (List AY×Addr×Value)}(r:KT H kvs xs)(ht:∀b ys,H b=some (.AG ys)->H' b=some (.AG ys)):KT H' kvs xs :=
 Paired.Oz r λ_ _ z=>⟨z.1,ht _ _ z.2.1,z.2.2⟩
section
variable {P:Program} {w:World} {H:Hp} {h:Heap} {a:Addr}
theorem Us{u:HO}(ok:Bv P w H h)(e:Rd H a u):Bk P w H h a u:=e.ok ok
theorem JU{kvs:List (AY×V)}(ok:Bv P w H h)(e:Rd H a (.dK kvs)):kvs.length<=sizeLine/\(a == sysModules)=false/\∃vs,KV kvs vs/\h.DictOf (D4 P w) a vs :=
 show Bk P w H h a (.dK kvs) from Us ok e
theorem Uy{kvs:List (AY×V)}(ok:Bv P w H h)(e:H a=some (.dK kvs)):kvs.length<=sizeLine/\(a == sysModules)=false/\∃vs,KV kvs vs/\h.DictOf (D4 P w) a vs:=JU ok (.inl e)
theorem Kb{ks:List AY}(ok:Bv P w H h)(e:H a=some (.AG (ks.map kV))):(tupleKind (D4 P w)).is h ks a:=by
 obtain⟨_,its,r,⟨o,h1,h2,n,h3⟩,_⟩:=(show Bk P w H h a (.AG (ks.map kV)) from ok a _ e);exact⟨o,its.toArray,n,h1,h2,h3,by simpa using QW r⟩
theorem Ke{kvs:List (List AY×V)}(ok:Bv P w H h)(e:Rd H a (.dT kvs)):kvs.length<=sizeLine/\(a == sysModules)=false /\
  ∃xs,KT H kvs xs/\h.DictOfH (tupleKind (D4 P w)) a xs:=by
 obtain⟨z,y,xs,r,o,es,ep,h1,h2,h3,h4,h5⟩:=(show Bk P w H h a (.dT kvs) from Us ok e);refine⟨z,y,xs,r,o,es,ep,h1,h2,h3,h4,λx hx=>?_,h5⟩;have all:∀{l:List (List AY×V)} {m:List (List AY×Addr×Value)},KT H l m->∀x∈m,(tupleKind (D4 P w)).is h x.1 x.2.1:=by
  intro l m q
  induction q with
  | nil=>intro x hx; exact nomatch hx
  | @cons p q ps qs hq t ih =>
   intro x hx;rcases jh.mp hx with e | hx
   ·subst e;exact Kb ok (by rw[<-hq.1]; exact hq.2.1)
   ·exact ih x hx
 exact all r x hx
theorem fT{kvs:List (List AY×V)}(ok:Bv P w H h)(e:H a=some (.dT kvs)):kvs.length<=sizeLine/\(a == sysModules)=false /\
  ∃xs,KT H kvs xs/\h.DictOfH (tupleKind (D4 P w)) a xs:=Ke ok (.inl e)
end
def DL(H:Hp)(a:Addr)(y:V)(r:Option V):Prop :=
 (∃kvs k,Rd H a (.dK kvs)/\y=kV k/\r=Cj kvs k)\/∃kvs k b,Rd H a (.dT kvs)/\y=.ref b/\H b=some (.AG (k.map kV))/\r=Cj kvs k
def D8(H:Hp)(a:Addr)(y v:V)(H':Hp):Prop :=
 (∃kvs k,H a=some (.dK kvs)/\y=kV k/\kvs.length<sizeLine/\H'=AJ H a (.dK (CL kvs k v))) \/
 ∃kvs k b,H a=some (.dT kvs)/\y=.ref b/\H b=some (.AG (k.map kV))/\kvs.length<sizeLine/\H'=AJ H a (.dT (CL kvs k v))
theorem DL.k{H:Hp}{a:Addr}{kvs:List (AY×V)}{k:AY}(e:H a=some (.dK kvs)):DL H a (kV k) (Cj kvs k):=.inl ⟨kvs,k,.inl e,rfl,rfl⟩
theorem DL.t{H:Hp}{a b:Addr}{kvs:List (List AY×V)}{k:List AY}(e:H a=some (.dT kvs))(eb:H b=some (.AG (k.map kV))):DL H a (.ref b) (Cj kvs k):=.inr ⟨kvs,k,b,.inl e,rfl,eb,rfl⟩
theorem D8.k{H:Hp}{a:Addr}{kvs:List (AY×V)}{k:AY}{v:V}(e:H a=some (.dK kvs))(hl:kvs.length<sizeLine):D8 H a (kV k) v (AJ H a (.dK (CL kvs k v))):=.inl ⟨kvs,k,e,rfl,hl,rfl⟩
theorem D8.t{H:Hp}{a b:Addr}{kvs:List (List AY×V)}{k:List AY}{v:V}(e:H a=some (.dT kvs))(eb:H b=some (.AG (k.map kV)))(hl:kvs.length<sizeLine):
  D8 H a (.ref b) v (AJ H a (.dT (CL kvs k v))):=.inr ⟨kvs,k,b,e,rfl,eb,hl,rfl⟩
section
variable {X:Cx} {pins:List (Addr×Obj)} {σ:St} {H:Hp} {s:Shared} {a:Addr} {y v:V} {u r:Value} {o:Option V} {A:Around} {E:Value->Shared->Prop}
theorem AK.GD(I:AK X pins σ H s):sysModules<s.heap.objs.size:=by
 have h:mainGlobals<s.heap.objs.size:=(I.DR.Gf.keeps I.bk).lt;exact Nat.lt_trans (by decide) h
theorem YO{Q:Value->Shared->Prop}(hu:A.units+1<cLine)(I:AK X pins σ H s)(g:DL H a y (some v))(ry:Aw y u)(h:∀w' s',AK X pins σ H s'->Aw v w'->Q w' s'):
  wpAny (model X.prog X.w) A (getItem (.ref a) u) Q E s:=by
 rcases g with ⟨kvs,k,e,ey,l⟩ | ⟨kvs,k,b,e,ey,eb,l⟩
 ·subst ey;obtain⟨z,hd,vs,rel,dd⟩:=JU I.hok e;obtain⟨w',hw,rw'⟩:=Ea.SG (v:=v) (o:=valueAt vs k) (by rw[l]; exact rel.Ho k);exact wpAny_getItem_of (JS ry) dd.mapOf hw (h w' _ (I.Dk _) rw')
 ·subst ey;cases (show u=Value.ref b from ry);obtain⟨z,hd,xs,rel,dd⟩:=Ke I.hok e;obtain⟨w',hw,rw'⟩:=Ea.SG (v:=v) (o:=(atKey xs k).map (·.2)) (by rw[l]; exact rel.Ho k);obtain⟨p,hp,hp2⟩:=j6.mp hw;refine wpAny_getItem_heap (nP hu) (Kb I.hok eb) dd hp ?_;rw[hp2];exact h w' _ (I.Dk _) rw'
theorem gU{Q:Value->Shared->Prop}(hu:A.units+1<cLine)(I:AK X pins σ H s)(g:DL H a y o)(ry:Aw y u)(h:∀s',AK X pins σ H s'->Q (.bool o.isSome) s'):
  wpAny (model X.prog X.w) A (compareOp .In u (.ref a)) Q E s:=by
 rcases g with ⟨kvs,k,e,ey,l⟩ | ⟨kvs,k,b,e,ey,eb,l⟩
 ·subst ey;obtain⟨z,hd,vs,rel,dd⟩:=JU I.hok e;refine wpAny_in_of (JS ry) hd dd.mapOf ?_;rw[<-(rel.Ho k).Jn,<-l];exact h _ (I.Dk _)
 ·subst ey;cases (show u=Value.ref b from ry);obtain⟨z,hd,xs,rel,dd⟩:=Ke I.hok e;refine wpAny_in_heap (nP hu) (Kb I.hok eb) hd dd ?_;have q:=(rel.Ho k).Jn;rw[pj] at q;rw[<-q,<-l];exact h _ (I.Dk _)
theorem aq{Q:Value->Shared->Prop}(hu:A.units+1<cLine)(I:AK X pins σ H s)(g:DL H a y o)(ry:Aw y u)(h:∀s',AK X pins σ H s'->Q (.bool (!o.isSome)) s'):
  wpAny (model X.prog X.w) A (compareOp .NotIn u (.ref a)) Q E s:=by
 rcases g with ⟨kvs,k,e,ey,l⟩ | ⟨kvs,k,b,e,ey,eb,l⟩
 ·subst ey;obtain⟨z,hd,vs,rel,dd⟩:=JU I.hok e;refine wpAny_notIn_of (JS ry) hd dd.mapOf ?_;rw[<-(rel.Ho k).Jn,<-l];exact h _ (I.Dk _)
 ·subst ey;cases (show u=Value.ref b from ry);obtain⟨z,hd,xs,rel,dd⟩:=Ke I.hok e;refine wpAny_notIn_heap (nP hu) (Kb I.hok eb) hd dd ?_;have q:=(rel.Ho k).Jn;rw[pj] at q;rw[<-q,<-l];exact h _ (I.Dk _)
theorem Nz{h':Heap}{t':Nat}{ob:HO}(I:AK X pins σ H s)(mu:K5 (H a))(hs:Heap.SameBut a s.heap h')(he:∃q,h'.get? a=some q)(new:Bk X.prog X.w (AJ H a ob) h' a ob):
  AK X pins σ (AJ H a ob) { s with heap:=h',toks:=t' } :=
 I.IQ (x:=a) (e:=a) mu (.inl rfl) (λb q hb z=>(hs.2 b hb).trans z) he new
theorem Uq{P:Program}{w:World}{H':Hp}{h':Heap}{kvs:List (AY×V)}{vs:List (AY×Value)}(z:kvs.length<=sizeLine)(hd:(a == sysModules)=false)(rel:KV kvs vs)(dd:h'.DictOf (D4 P w) a vs):
  Bk P w H' h' a (.dK kvs):=⟨z,hd,vs,rel,dd⟩
theorem Xv{H':Hp}{Q:Unit->Shared->Prop}(hu:A.units+1<cLine)(I:AK X pins σ H s)(g:D8 H a y v H')(ry:Aw y u)(rv:Aw v r)(h:∀s',AK X pins σ H' s'->Q () s'):
  wpAny (model X.prog X.w) A (setItem (.ref a) u r) Q E s:=by
 rcases g with ⟨kvs,k,e,ey,l,eH⟩ | ⟨kvs,k,b,e,ey,eb,l,eH⟩
 ·subst ey eH;obtain⟨z,hd,vs,rel,dd⟩:=Uy I.hok e;have hz:vs.length<=sizeLine:=by rw[<-rel.length]; exact z
  have hl:(CL kvs k v).length<=sizeLine:=by have:=Mc kvs k v; omega
  refine wpAny_setItem_pairs (hsz:=hz) (JS ry) dd λh' dd' hs=>h _ ?_
  have he:∃q,h'.get? a=some q:=let ⟨q,_,_,hq,_⟩:=dd'; ⟨q,hq⟩
  exact Nz I (by rw[e]; exact True.intro) hs he (Uq hl hd (rel.E1 k rv) dd')
 ·subst ey eH;cases (show u=Value.ref b from ry);obtain⟨z,hd,xs,rel,dd⟩:=fT I.hok e;have hz:xs.length<=sizeLine:=by rw[<-Paired.length rel]; exact z
  have hl:(CL kvs k v).length<=sizeLine:=by have:=Mc kvs k v; omega
  refine wpAny_setItem_heap (hsz:=hz) (nP hu) (Kb I.hok eb) dd λh' dd' hs=>h _ ?_
  obtain⟨q,es,ep,hq,h2,h3,h4,_,h5⟩:=dd';refine Nz I (by rw[e]; exact True.intro) hs ⟨q,hq⟩ ⟨hl,hd,_,(rel.E1 k eb rv).keeps λc ys ec=>?_,q,es,ep,hq,h2,h3,h4,h5⟩;rw[Ad (fK ec e (λz=>nomatch z))];exact ec
end
section
variable {X:Cx} {pins:List (Addr×Obj)} {σ:St} {H:Hp} {s:Shared} {a:Addr} {kvs:List (AY×V)} {k:AY} {u:Value} {A:Around} {E:Value->Shared->Prop}
theorem dX{Q:Value->Shared->Prop}(I:AK X pins σ H s)(e:Rd H a (.dK kvs))(h:∀t s',AK X pins σ H s'->Q (.int kvs.length t) s'):wpAny (model X.prog X.w) A (call (.builtin "len") [.ref a]) Q E s:=by
 obtain⟨z,hd,vs,rel,dd⟩:=JU I.hok e;refine call_len_dict hd dd (by rw[<-rel.length]; rw[kn] at z; omega) ?_;rw[<-rel.length];exact h _ _ (I.Dk _)
end
def WA(i:Expr):Prop:=∀ov iv,subscripted i false ov iv=operate [ov,iv] (getItem ov iv)
theorem aE {prog:Program} {w:World} {A:Around} {E:Value->Shared->Prop} {s:Shared} {env:Env} {value slice:Expr} {pos:Pos} {T id:String} {Q:Value->Shared->Prop}
  (hl:typeLookup (.type T) "__getitem__" = pure (some (.builtin id))) (hs:WA slice)
  (h:wpAny (model prog w) A (eval value env) (λo s₁=>wpAny (model prog w) A (eval slice env) (λi s₂=>s₂.TypeIs o T/\wpAny (model prog w) A (getItem o i) Q E s₂) E s₁) E s) :
  wpAny (model prog w) A (eval (.Subscript value slice pos) env) Q E s:=by
 refine sE (kA h (λo s₁ h₁=>kA h₁ (λi s₂ h₂=>?_) λ_ _ x=>x) λ_ _ x=>x);obtain⟨hT,h₂⟩:=h₂;unfold subscriptTail;refine iu ?_;rw[getitemInPython_of_ne hT.not_modules];refine iu (wpAny_specialOf hT hl ?_);have fin:wpAny (model prog w) A (subscripted slice false o i) (λr s₃=>wpAny (model prog w) A (letTemporaryGo value o r >>= λ_=>pure r) Q E s₃) E s₂:=by
  rw[hs o i];exact wpAny_operating (kA h₂ (λr s₃ h₃=>iu (wpAny_letTemporaryGo (jk h₃))) λ_ _ x=>x)
 first
  | exact jk (iu fin)
  | exact iu (jk (iu fin))
  | exact iu fin
theorem W4{X:Cx}{pins:List (Addr×Obj)}{σ:St}{H:Hp}{s:Shared}{a:Addr}{y:V}{o:Option V}(I:AK X pins σ H s)(g:DL H a y o):s.TypeIs (.ref a) "dict":=by
 rcases g with ⟨kvs,k,e,_,_⟩ | ⟨kvs,k,b,e,_,_,_⟩
 ·obtain⟨_,_,vs,_,dd⟩:=JU I.hok e;exact dd.typeIs
 ·obtain⟨_,_,xs,_,dd⟩:=Ke I.hok e;exact dd.typeIs
inductive U6(x y:V)(H:Hp)(Q:VK):Prop
 | mk (a:Addr) (v:V) (e:x=.ref a) (d:DL H a y (some v)) (q:Q v H):U6 x y H Q
inductive Vm(x y:V)(H:Hp)(Q:VK):Prop
 | mk (a:Addr) (o:Option V) (e:x=.ref a) (d:DL H a y o) (q:Q (.bl o.isSome) H):Vm x y H Q
inductive VP(x y v:V)(H:Hp)(Q:Hp->Prop):Prop
 | mk (a:Addr) (H4:Hp) (e:x=.ref a) (d:D8 H a y v H4) (q:Q H4):VP x y v H Q
def MA(td ty:TE):TE:=λσ H Q=>td σ H λx H1=>ty σ H1 λy H2=>U6 x y H2 Q
def gD(ty td:TE):TE:=λσ H Q=>ty σ H λy H1=>td σ H1 λx H2=>Vm x y H2 Q
def bN(ty td:TE):TE:=λσ H Q=>ty σ H λy H1=>td σ H1 λx H2=>∃a o,x=.ref a/\DL H2 a y o/\Q (.bl (!o.isSome)) H2
def U4(td ty tv:TE):TS:=λD σ H=>tv σ H λv H1=>td σ H1 λx H2=>ty σ H2 λy H3=>VP x y v H3 (D.nx σ)
section
variable {X:Cx} {o i e value:Expr} {pos pos' tpos:Pos} {td ty tv:TE}
theorem EU(hu:X.A.units+1<cLine)(ho:PE X o td)(hi:PE X i ty)(hs:WA i):PE X (.Subscript o i pos) (MA td ty):=by
 intro pins s σ H Q I h;refine aE PySem.F.slot_dict_getitem.lookup hs (Af (ho pins s σ H _ I h) λu s1 ⟨x,H1,I1,rx,q1⟩=>Af (hi pins s1 σ H1 _ I1 q1) λiv s2 ⟨y,H2,I2,ry,a,v,ex,g,q2⟩=>?_);subst ex;obtain rfl:u=Value.ref a:=rx;exact⟨W4 I2 g,YO hu I2 g ry λw' s3 I3 rw'=>⟨v,H2,I3,rw',q2⟩⟩
theorem Te(hu:X.A.units+1<cLine)(hi:PE X i ty)(ho:PE X o td):PC X .In i o (gD ty td):=by
 intro pins s σ H Q I h;refine Af (hi pins s σ H _ I h) λiv s1 ⟨y,H1,I1,ry,q1⟩=>Af (ho pins s1 σ H1 _ I1 q1) λu s2 ⟨x,H2,I2,rx,a,ov,ex,g,q2⟩=>?_
 subst ex;obtain rfl:u=Value.ref a:=rx;exact gU hu I2 g ry λs3 I3=>⟨.bl ov.isSome,H2,I3,rfl,q2⟩
theorem Mn(hu:X.A.units+1<cLine)(hi:PE X i ty)(ho:PE X o td):PC X .NotIn i o (bN ty td):=by
 intro pins s σ H Q I h;refine Af (hi pins s σ H _ I h) λiv s1 ⟨y,H1,I1,ry,q1⟩=>Af (ho pins s1 σ H1 _ I1 q1) λu s2 ⟨x,H2,I2,rx,a,ov,ex,g,q2⟩=>?_
 subst ex;obtain rfl:u=Value.ref a:=rx;exact aq hu I2 g ry λs3 I3=>⟨.bl (!ov.isSome),H2,I3,rfl,q2⟩
theorem GR(hu:X.A.units+1<cLine)(ho:PE X o td)(hi:PE X i ty)(hv:PE X value tv)(hs:swapsWith value (some (.Subscript o i pos')) pos.line X.env=pure false):
  PS X (.Assign [.Subscript o i pos'] value pos) (U4 td ty tv):=by
 intro pins s σ H D I h;refine wpAny_Assign_Subscript (Af (hv pins s σ H _ I h) λr s1 ⟨v,H1,I1,rv,q1⟩=>Af (ho pins s1 σ H1 _ I1 q1) λu s2 ⟨x,H2,I2,rx,q2⟩=>Af (hi pins s2 σ H2 _ I2 q2) λiv s3 ⟨y,H3,I3,ry,a,H4,ex,g,q3⟩=>?_) hs;subst ex;obtain rfl:u=Value.ref a:=rx;exact Xv hu I3 g ry rv λs4 I4=>⟨σ,H4,I4,q3⟩
end
theorem Rp{P:Program}{w:World}{H:Hp}(h:Heap)(hb:sysModules<h.objs.size):Bk P w H (h.push { cls:=.type "dict",data:=.dict #[] }) h.objs.size (.dK []) :=
 ⟨jS _,beq_eq_false_iff_ne.mpr (kC (jM hb)),[],.nil,Heap.DictOf.new h⟩
def Up:TE:=λ_ H Q=>∀p,H p=none->Q (.ref p) (AJ H p (.dK []))
section
variable {X:Cx} {pos:Pos}
theorem Jw:PE X (.Dict [] [] pos) Up:=λpins s σ H Q I h =>
 wpAny_Dict_empty ⟨.ref s.heap.objs.size,_,I.Df (a:=s.heap.objs.size) (o:=.dK []) (t':=s.toks) (λ_ _ q=>i3 _ q) (i4 _) (Rp s.heap I.GD),rfl,h _ (I.hok.Br (i4 _))⟩
end
def OQ:List (TE×TE)->St->Hp->(List (V×V)->Hp->Prop)->Prop
 | [],_,H,Q=>Q [] H
 | (tk,tv) :: r,σ,H,Q=>tk σ H λx H1=>tv σ H1 λy H2=>OQ r σ H2 λps H3=>Q ((x,y) :: ps) H3
abbrev VV:List (V×V)->List (Value×Value)->Prop:=Paired λp q=>Aw p.1 q.1/\Aw p.2 q.2
def MV(X:Cx)(pos:Pos)(keys:List (Option Expr))(values:List Expr)(trs:List (TE×TE)):Prop :=
 ∀(pins:List (Addr×Obj)) (s:Shared) (σ:St) (H:Hp) (Q:List (V×V)->Hp->Prop),AK X pins σ H s->OQ trs σ H Q →
  wpAny (model X.prog X.w) X.A (evalPairs (pairTrees keys values X.env pos)) (λvs s'=>∃ps H',AK X pins σ H' s'/\VV ps vs/\Q ps H') X.xe s
theorem SF{X:Cx}{pos:Pos}:MV X pos [] [] []:=λpins s σ H Q I h=>pairTrees_nil_walk ⟨[],H,I,.nil,h⟩
theorem NK{X:Cx}{pos:Pos}{k v:Expr}{ks:List (Option Expr)}{vs:List Expr}{tk tv:TE}{trs:List (TE×TE)}(hk:PE X k tk)(hv:PE X v tv)(hr:MV X pos ks vs trs):
  MV X pos (some k :: ks) (v :: vs) ((tk,tv) :: trs):=λpins s σ H Q I h =>
 pairTrees_cons_walk (Af (hk pins s σ H _ I h) λu s1 ⟨x,H1,I1,rx,q1⟩=>Af (hv pins s1 σ H1 _ I1 q1) λw2 s2 ⟨y,H2,I2,ry,q2⟩ =>
  Af (hr pins s2 σ H2 _ I2 q2) λws s3 ⟨ps,H3,I3,rel,q3⟩=>⟨(x,y) :: ps,H3,I3,.cons ⟨rx,ry⟩ rel,q3⟩)
def Ft(kvs more:List (AY×V)):List (AY×V):=more.foldl (λacc kv=>CL acc kv.1 kv.2) kvs
theorem KV.dw:∀{more:List (AY×V)} {rs:List (AY×Value)} {kvs:List (AY×V)} {vs:List (AY×Value)},KV more rs->KV kvs vs->KV (Ft kvs more) (merged vs rs):=by
 intro more rs kvs vs r;unfold KV at r
 induction r generalizing kvs vs with
 | nil=>intro q; exact q
 | @cons p q ps qs h t ih =>
  intro r0;have e:KV (CL kvs p.1 p.2) (stored vs q.1 q.2):=by
   have:=r0.E1 p.1 h.2
   rw[<-h.1]; exact this
  exact ih e
theorem P5:∀(more kvs:List (AY×V)),(Ft kvs more).length<=kvs.length+more.length
 | [],kvs=>by show kvs.length<=kvs.length+0; omega
 | p :: r,kvs=>by
  have h1:=P5 r (CL kvs p.1 p.2);have h2:=Mc kvs p.1 p.2;show(Ft (CL kvs p.1 p.2) r).length<=_;rw[jD]; omega
theorem QD{P:Program}{w:World}:∀{kvs:List (AY×V)} {ws:List (Value×Value)},VV (kvs.map λkv=>(kV kv.1,kv.2)) ws->∃rs,Carries (D4 P w) ws rs/\KV kvs rs
 | [],_,r=>by rw[kf] at r; cases r; exact⟨[],True.intro,.nil⟩
 | p :: kvs,_,r=>by
  rw[i8] at r;cases r with
  | @cons a b as bs h t =>
   obtain⟨rs,c,q⟩:=QD (P:=P) (w:=w) t;obtain⟨b1,b2⟩:=b;exact⟨(p.1,b2) :: rs,⟨JS h.1,rfl,c⟩,.cons ⟨rfl,h.2⟩ q⟩
def eE(trs:List (TE×TE)):TE:=λσ H Q=>∀p,H p=none->OQ trs σ (AJ H p (.dK [])) λps H2=>H2 p=some (.dK [])/\∃kvs:List (AY×V),ps=kvs.map (λkv=>(kV kv.1,kv.2))/\kvs.length<=15/\Q (.ref p) (AJ H2 p (.dK (Ft [] kvs)))
theorem Sz {X:Cx} {pos:Pos} {keys:List (Option Expr)} {values:List Expr} {trs:List (TE×TE)} (h:MV X pos keys values trs) (hall:keys.all (·.isSome)=true) (hl:keys.length=values.length) (h0:keys≠[])
  (h15:keys.length<=15):PE X (.Dict keys values pos) (eE trs):=by
 intro pins s σ H Q I q;have hn:=I.hok.Br (i4 s.heap.objs.size);have I1:=I.Df (a:=s.heap.objs.size) (o:=.dK []) (h':=s.heap.push { cls:=.type "dict",data:=.dict #[] }) (t':=s.toks) (λ_ _ q=>i3 _ q) (i4 _) (Rp s.heap I.GD);refine wpAny_Dict_walk (knd:=D4 X.prog X.w) hall hl h0 h15 (Af (h pins _ σ _ _ I1 (q _ hn)) λws s2 ⟨ps,H2,I2,rel,e,kvs,ep,lk,q2⟩=>?_);subst ep;obtain⟨rs,c,rk⟩:=QD (P:=X.prog) (w:=X.w) rel;obtain⟨z,hd,vs0,r0,dd⟩:=Uy I2.hok e;cases r0;refine⟨rs,c,dd,λh' dd' hs=>⟨.ref s.heap.objs.size,_,?_,rfl,q2⟩⟩;have hz:(Ft [] kvs).length<=sizeLine:=by
  have h1:=P5 kvs [];rw[lC] at h1;rw[kn]; omega
 have he:∃q,h'.get? s.heap.objs.size=some q:=let ⟨q,_,_,hq,_⟩:=dd'; ⟨q,hq⟩
 exact Nz I2 (by rw[e]; exact True.intro) hs he (Uq hz hd (rk.dw .nil) dd')
structure M1(X:Cx)(o:Expr)(m:Str)(apos:Pos)(e:Expr)(cpos:Pos):Prop where
 base:attributeBase o m X.env (eval o X.env)=eval o X.env
 few:((backTo cpos (starEach [e] X.env)).all (λx=>!x.1) && (backToKw cpos (keywordEach [] X.env)).all (λx=>x.1.isSome)
  && decide (([e]:List Expr).length+([]:List Keyword).length+(if ([]:List Keyword).isEmpty then 0 else 1)<30))=true
 line:(apos.endLine == cpos.line)=true
 ed:backTo cpos (starEach [e] X.env)=[(false,eval e X.env)]
structure M2(X:Cx)(o:Expr)(m:Str)(apos:Pos)(e f:Expr)(cpos:Pos):Prop where
 base:attributeBase o m X.env (eval o X.env)=eval o X.env
 few:((backTo cpos (starEach [e,f] X.env)).all (λx=>!x.1) && (backToKw cpos (keywordEach [] X.env)).all (λx=>x.1.isSome)
  && decide (([e,f]:List Expr).length+([]:List Keyword).length+(if ([]:List Keyword).isEmpty then 0 else 1)<30))=true
 line:(apos.endLine == cpos.line)=true
 ed:backTo cpos (starEach [e,f] X.env)=[(false,eval e X.env),(false,eval f X.env)]
section
variable {X:Cx} {pins:List (Addr×Obj)} {σ:St} {H:Hp} {s:Shared} {a:Addr} {y d:V} {u r:Value} {o:Option V} {A:Around} {E:Value->Shared->Prop}
end
section
variable {X:Cx} {o e f:Expr} {apos cpos:Pos} {td ty tx:TE}
end
section
variable {X:Cx} {pins:List (Addr×Obj)} {σ:St} {H:Hp} {s:Shared} {a:Addr} {kvs:List (AY×V)} {A:Around} {E:Value->Shared->Prop}
end
section
variable {X:Cx} {pins:List (Addr×Obj)} {σ:St} {H:Hp} {s:Shared} {a:Addr} {y:V} {u:Value} {A:Around} {E:Value->Shared->Prop}
end
end L2
namespace Att
open PySem PySem.W PySem.Calls PyProof.Rows
theorem Wo{P:Params}{h:Heap}:∀(ns:List Int) (vs:List Value),WellAll P h vs (ns.map WData.int)->IntsAre vs ns:=by
 intro ns
 induction ns with
 | nil =>
  intro vs w;rw[kf] at w;cases w;exact .nil
 | cons n ns ih =>
  intro vs w;rw[i8] at w;cases w with
  | cons a b =>
   cases a;exact .cons _ _ (ih _ b)
theorem Xl {l:OpenLaw} {n:Nat} (hn:l.most=some n) {P:Params} {h:Heap} {args:List WData} {vals:List Value}
  (hpre:l.row.toRowW.claim.pre args=true) (hwl:WellAll P h vals args) :
  ∃a vs ns,vals=[Value.ref a]/\args=[WData.list (ns.map WData.int)]/\h.get? a=some { cls:=.type "list",data:=.seq vs.toArray }/\IntsAre vs ns/\ns.length<=n:=by
 have hsh:WShape.hasAll [] args [.list .int]=true:=(pre_splitW hpre).1;have hc:l.pre.holds [] { args:=args }=true:=(pre_splitW hpre).2;obtain⟨d,r,rfl,h1,h2⟩:=hasAllW_cons hsh;obtain rfl:=hasAllW_nil h2;obtain⟨xs,rfl,h3⟩:=hasW_list h1;obtain⟨ns,rfl⟩:=items_int h3;have hlen:ns.length<=n:=by
  unfold OpenLaw.pre at hc;have h4:(WTm.not (.lt (.lit (.int (n:Int))) (.len (.arg 0)))).holds [] { args:=[.list (ns.map .int)] }=true:=by
   have h4:=(holds_andW hc).1;rw[hn] at h4;exact h4
  have h5:=condW_of h4 (w_not (w_lt w_lit (w_len_list (w_arg rfl))));rw[ig] at h5;refine Nat.le_of_not_lt λq=>?_
  have q':(n:Int)<((ns.length:Nat):Int):=by omega
  first
   | (rw[kc q'] at h5; exact absurd h5 (by decide))
   | (simp at h5; omega)
 cases hwl with
 | cons w1 w2 =>
  cases w2;cases w1 with
  | list ho hall=>exact⟨_,_,ns,rfl,rfl,ho,Wo ns _ hall,hlen⟩
theorem YU(l:OpenLaw)(args:List WData):l.row.toRowW.claim.post args (.bool true) args=true :=
 postW_of (r:=l.row.toRowW) (X:=(true == true))
  (show WShape.has [] (.bool true) .bool=true by first | rfl | decide | simp[WShape.has,WShape.arms,WShape.armsAll])
  (show(WTm.eq .res (.lit (.bool true))).value [] { args:=args,res:=some (.bool true),after:=args }=some (.bool (true == true)) from w_eq_bool (w_res rfl) w_lit) rfl
theorem XA {l:OpenLaw} {n:Nat} {q:Program} {loose:List Str} {XP:(Str->Option Value)->Heap->Prop} {YP:World->Heap->Prop} {d:DefRec}
  (hn:l.most=some n) (hdf:d.params.defaults=[])
  (call:∀(w:World) (s₀ s₁:Shared) (mg mb:Str->Option Value) (fa:Addr) (o:Obj) (pm cd doc:Value) (a:Addr) (vs:List Value) (ns:List Int),
   Ground q loose [] XP w s₀ mg mb s₁.heap->YP w s₁.heap →
   s₁.heap.get? fa=some o->o.data=.func (docDef d.name d.params d.body d.scope pm cd doc)->s₁.heap.CodeRec cd d.name->mg d.name=some (.ref fa) →
   s₁.heap.get? a=some { cls:=.type "list",data:=.seq vs.toArray }->IntsAre vs ns->ns.length<=n->s₁.gens = #[] →
   codeAny (model l.prog w) callerA (.call (.ref fa) ⟨[.ref a],[]⟩) (λr s'=>r=.ok (.ret (.bool true))/\OldK s₁.heap s'.heap/\s'.os=s₁.os/\AllBare s'.gens) s₁) :
  WalkO q loose XP YP l.row.toRowW d [] (λf vs=>PySem.call f vs):=by
 intro w s₀ s₁ mg mb G Y fa o pm cd doc dV kV ho hd hcd hD hmg hg args vals as hpre hlay hrd hwl hlo;obtain rfl:dV=.none:=Dflts.none hD hdf;obtain rfl:kV=.none:=Dflts.noKw hD;obtain⟨a,vs,ns,rfl,rfl,hobj,hints,hlen⟩:=Xl hn hpre hwl;refine enter_call (qX (call w s₀ s₁ mg mb fa o pm cd doc a vs ns G Y ho (fd_plain hd) hcd hmg hobj hints hlen hg) λr s' hq=>?_);obtain⟨rfl,h2,h3,h4⟩:=hq;exact⟨.inl ⟨.bool true,.bool true,[],rfl,λ_=>rfl,.bool true,YU l _,λ_=>⟨List.Pairwise.nil,λ_ hm=>(nomatch hm)⟩⟩,h2,h3,h4⟩
section
variable {prog:Program} {w:World} {A:Around} {E:Value->Shared->Prop} {s:Shared} {K:Frag}
def iU(h:Heap)(L d:Addr):List (Addr×Obj):=(List.range h.objs.size).filterMap λa=>if a=L\/a=d then none else (h.get? a).map λo=>(a,o)
end
end Att
namespace L2
open PySem PySem.Spec PyProof.Rows
theorem QT:∀{vs:List Value} {ns:List Int},IntsAre vs ns->Ah (ns.map V.int) vs
 | _,_,.nil=>.nil
 | _,_,.cons n t h=>.cons ⟨t,rfl⟩ (QT h)
def PK(H:Hp):Prop:=∀b,H b=none\/∃o xs,H b=some (.ER o (.AF xs))
theorem Zd {P:Program} {w:World} {K:PySem.W.Frag} {mg mb:Str->Option Value} {CX:Ej} {k:Nat} {fa a:Addr} {fd:FuncData} {x:Str} {sp:Sp} {s₁:Shared} {vs:List Value} {ns:List Int}
  (KX:K.In s₁.heap) (hns:s₁.heap.Ns mainGlobals mg) (hb:s₁.heap.Ns builtinsNs mb) (hbb:∀x:Str,x≠"__name__"->mb x=bootBuiltins x) (hlim:s₁.heap.NoLimit) (hg:s₁.gens = #[])
  (ha:s₁.heap.get? a=some { cls:=.type "list",data:=.seq vs.toArray }) (hi:IntsAre vs ns) (hl:ns.length<=sizeLine) (hr:Ck k callerA)
  (F:∀base:Heap,K.In base->base.Ns mainGlobals mg->Ao P w K mg base CX k fa fd [x] sp) (hbind:∀(s:Shared) (u:Value),BindsTo s fd ⟨[u],[]⟩ [(x,u)])
  (hsp:∀H:Hp,PK H->AQ K H a (ns.map V.int)->sp [.ref a] H (λv _=>v=.bl true) λ_ _ _=>False)
  (hCX:∀H e s',CX [] H s₁ (λ_ _ _=>False) e s'->False) :
  codeAny (model P w) callerA (.call (.ref fa) ⟨[.ref a],[]⟩) (λr s'=>r=.ok (.ret (.bool true))/\OldK s₁.heap s'.heap/\s'.os=s₁.os/\AllBare s'.gens) s₁:=by
 have rv:=QT hi;have lenV:=hi.length;have core:∀H:Hp,PK H->AQ K H a (ns.map V.int)->Bv P w H s₁.heap->(∀b,H b≠none->b=a)->(H a≠none->K.lookup a=none) →
   codeAny (model P w) callerA (.call (.ref fa) ⟨[.ref a],[]⟩) (λr s'=>r=.ok (.ret (.bool true))/\OldK s₁.heap s'.heap/\s'.os=s₁.os/\AllBare s'.gens) s₁:=by
  intro H hO hS hok hA hK;have base_of:∀{b:Addr} {o:Obj},s₁.heap.get? b=some o->H b=none->(Gi s₁.heap H).get? b=some o:=λe n=>Ze e n
  have noA:∀{b:Addr} {o:Obj} {es:Array DictEntry} {ep:Nat},s₁.heap.get? b=some o->o.data=.dict es ep->H b=none:=λ{b o es ep} e d=>by
   cases q:H b with
   | none=>rfl
   | some u =>
    have e':b=a:=hA b (by rw[q]; simp);subst e';rw[ha] at e; cases e;have d':Data.seq vs.toArray _=Data.dict es ep:=d;cases d'
  have nsK:∀{b:Addr} {m:Str->Option Value},s₁.heap.Ns b m->(Gi s₁.heap H).Ns b m:=λ{b m} ⟨o,es,ep,e,d,r⟩=>⟨o,es,ep,base_of e (noA e d),d,r⟩
  have hKb:K.In (Gi s₁.heap H):=λb o e=>base_of (KX b o e) (by
   cases q:H b with
   | none=>rfl
   | some u =>
    have e':b=a:=hA b (by rw[q]; simp);subst e';rw[hK (by rw[q]; simp)] at e; cases e)
  have hM:Mod K mg (Gi s₁.heap H):=⟨hKb,nsK hns,⟨mb,nsK hb,hbb⟩,let ⟨mc,h1,h2⟩:=hlim; ⟨mc,nsK h1,h2⟩⟩;have e0:IY P w K mg (Gi s₁.heap H) callerA [] s₁ H:=⟨rfl,hM,λb o e=>bJ e,Nat.le_of_eq (YS _ _),trivial,λb hb=>absurd (show b∈([]:List Addr) from hb) (by simp),hok,.of_eq hg⟩;refine qX ((F _ hKb (nsK hns)).run callerA [] s₁ H ⟨[.ref a],[]⟩ [.ref a] [.ref a] _ _ hr e0 (hbind s₁ (.ref a)) (.cons rfl .nil) (hsp H hO hS)) λr s' h=>?_
  cases r with
  | error e=>exact(hCX H e s' h).elim
  | ok fl =>
   cases fl with
   | next=>exact False.elim h
   | brk=>exact False.elim h
   | cont=>exact False.elim h
   | ret u =>
    obtain⟨v,H',os,bare,un,hok',r',q⟩:=h;have q':v=.bl true:=q;subst q';obtain rfl:u=Value.bool true:=r';refine⟨rfl,OldK.of_keep λb o e=>?_,os,bare⟩;cases q:H b with
    | none=>exact un.keep b o e q (by intro z; exact absurd (show b∈([]:List Addr) from z) (by simp)) (by simp)
    | some u =>
     rcases hO b with z | ⟨ob,xs,z⟩
     ·rw[q] at z; cases z
     ·have z2:=un.frzs b ob _ z;obtain⟨e1,_⟩:=hok b _ z;obtain⟨e2,_⟩:=hok' b _ z2;rw[e] at e1; cases e1;exact e2
 cases hk:K.lookup a with
 | some o =>
  have e:=KX a o hk;rw[ha] at e;cases e;refine core (λ_=>none) (λ_=>.inl rfl) (.inr ⟨_,vs.toArray,_,hk,rfl,rfl,rfl,by rw[ja,lenV]; exact hl,by simpa using rv⟩) (λb u z=>by have z':(none:Option HO)=some u:=z; cases z') (λb z=>absurd rfl z) λz=>absurd rfl z
 | none =>
  refine core (λb=>if b=a then some (.ER { cls:=.type "list",data:=.seq vs.toArray } (.AF (ns.map V.int))) else none) (λb=>?_) (.inl (.inr ⟨{ cls:=.type "list",data:=.seq vs.toArray },i5 rfl⟩)) (λb u z=>?_) (λb z=>?_) λ_=>hk
  ·by_cases hb:b=a
   ·exact .inr ⟨_,_,i5 hb⟩
   ·exact .inl (iz hb)
  ·by_cases hb:b=a
   ·have z':=(i5 hb).symm.trans z;cases z';subst hb;exact⟨ha,by rw[ig]; exact hl,vs,_,rv,ha⟩
   ·have z':=(iz hb).symm.trans z;cases z'
  ·by_cases hb:b=a
   ·exact hb
   ·exact absurd (iz hb) z
abbrev iZ{K:PySem.W.Frag}{h:Heap}(_:K.In h):PySem.W.Frag:=K
theorem bC {l:PySem.W.OpenLaw} {n k:Nat} {q:Program} {loose:List Str} {XP:(Str->Option Value)->Heap->Prop} {YP:World->Heap->Prop} {d:DefRec} {K:Params->PySem.W.Frag} {CX:World->Ej} {sp:World->Sp} {x:Str}
  (hn:l.most=some n) (hn2:n<=sizeLine) (hdf:d.params.defaults=[]) (hr:Ck k callerA)
  (hY:∀(w:World) (h:Heap),YP w h->(K w.params).In h)
  (F:∀(w:World) (mg:Str->Option Value) (fa:Addr) (h:Heap),(K w.params).In h->h.Ns mainGlobals mg->mg d.name=some (.ref fa) →
   ∃fd:FuncData,(∀(s:Shared) (u:Value),BindsTo s fd ⟨[u],[]⟩ [(x,u)]) /\
    ∀base:Heap,(K w.params).In base->base.Ns mainGlobals mg->Ao l.prog w (K w.params) mg base (CX w) k fa fd [x] (sp w))
  (hsp:∀(w:World) (H:Hp) (a:Addr) (ns:List Int),ns.length<=n->PK H->AQ (K w.params) H a (ns.map V.int)->sp w [.ref a] H (λv _=>v=.bl true) λ_ _ _=>False)
  (hCX:∀(w:World) (H:Hp) (s:Shared) (e:Value) (s':Shared),CX w [] H s (λ_ _ _=>False) e s'->False) :
  PySem.W.WalkO q loose XP YP l.row.toRowW d [] (λf vs=>PySem.call f vs):=by
 refine Att.XA hn hdf λw s₀ s₁ mg mb fa o pm cd doc a vs ns G Y ho hd hcd hmg hobj hints hlen hg=>?_
 have KX:=hY w _ Y;obtain⟨fd,hb,hF⟩:=F w mg fa _ KX G.T.g hmg;exact Zd KX G.T.g G.T.b G.T.builtins G.T.nolimit hg hobj hints (js hlen hn2) hr hF hb (λH hO hS=>hsp w H a ns hlen hO hS) λH e s'=>hCX w H s₁ e s'
def Fi(s:Stmt):Arguments:=match s with
 | .FunctionDef _ a _ _ _ _ _ _ _ _=>a
 | _=>{ posonlyargs:=[],args:=[],vararg:=none,kwonlyargs:=[],kw_defaults:=[],kwarg:=none,defaults:=[] }
def El(s:Stmt):List Stmt:=match s with
 | .FunctionDef _ _ b _ _ _ _ _ _ _=>b
 | _=>[]
def Ap(s:Stmt):Scope:=match s with
 | .FunctionDef _ _ _ _ _ _ sc _ _ _=>sc
 | _=>{ kind:=.function,names:=[],isGenerator:=false,isCoroutine:=false }
abbrev Ay:Ej:=λ_ _ _ _ _ _=>False
abbrev E0:XK:=λ_ _ _=>False
theorem eg{X:Cx}:OS Ay X E0:=λ_ _ _ _ _ _ _ h=>h.elim
structure Ar(K:PySem.W.Frag)(x qual:Str)(st:Stmt)(f:Addr)(fd:FuncData):Prop where
 ex:∃(oc:Value) (od:Option Addr) (kV doc pm:Value) (an:Option Addr) (cdv ct:Value) (osl:Array (Option Value)),
  fd=PySem.W.fnOf x qual (Fi st) (El st) (Ap st) .none kV doc pm an cdv ct/\K.lookup f=some ⟨oc,od,.func fd,osl⟩/\PySem.W.codeIn K cdv qual=true
 kp:KP K f
section
variable {P:Program} {w:World} {K:PySem.W.Frag} {mg:Str->Option Value} {base:Heap}
theorem Ar.ok {x qual:Str} {st:Stmt} {f:Addr} {fd:FuncData} {N ps:List Str} {k:Nat} {sp:Sp} (F:Ar K x qual st f fd) (S:A2 N ps (Ap st)) (len:∀vs H Q E,sp vs H Q E->vs.length=ps.length)
  (hbody:∀(cdv:Value) (A:Around) (outer:List Env) (s:Shared) (H:Hp) (vs:List V) (Q:VK) (E:XK),Ck k (A.deeper (envOfC qual (Ap st) s.heap.objs.size f cdv))->sp vs H Q E →
   ∃t,DF (IZ Ay P w K mg base N qual (Ap st) f cdv A outer s H E).Gm (El st) t/\t { nx:=λ_ H'=>Q .BD H',rt:=Q } (Gd N vs) H):Ao P w K mg base Ay (k+1) f fd ps sp:=by
 obtain⟨oc,od,kV,doc,pm,an,cdv,ct,osl,rfl,lk,hcd⟩:=F.ex;refine dk lk hcd S len λA outer s H vs Q E hr hsp=>?_
 obtain⟨t,h,q⟩:=hbody cdv A outer s H vs Q E hr hsp;exact⟨t,h.Gm,q⟩
theorem Ar.binds {x qual:Str} {st:Stmt} {f:Addr} {fd:FuncData} {ps:List Str} (F:Ar K x qual st f fd)
  (h:∀(kV doc pm:Value) (an:Option Addr) (cdv ct:Value) (us:List Value),us.length=ps.length->bindArgs (PySem.W.fnOf x qual (Fi st) (El st) (Ap st) .none kV doc pm an cdv ct) ⟨us,[]⟩=pure (ps.zip us)):EW K fd ps []:=by
 obtain⟨oc,od,kV,doc,pm,an,cdv,ct,osl,rfl,lk,hcd⟩:=F.ex;exact .all (h kV doc pm an cdv ct)
theorem Tq {x qual:Str} {st:Stmt} {f:Addr} {oc:Value} {od an:Option Addr} {osl:Array (Option Value)} {kV doc pm cdv ct:Value} (l:K.lookup f=some ⟨oc,od,.func (PySem.W.fnOf x qual (Fi st) (El st) (Ap st) .none kV doc pm an cdv ct),osl⟩)
  (c:PySem.W.codeIn K cdv qual=true) (k:KP K f):Ar K x qual st f (PySem.W.fnOf x qual (Fi st) (El st) (Ap st) .none kV doc pm an cdv ct):=⟨⟨oc,od,kV,doc,pm,an,cdv,ct,osl,rfl,l,c⟩,k⟩
end
theorem FN{A:Around}{k:Nat}(hr:Ck k A):A.units+1<cLine:=km (Nat.add_le_add_left (by decide:1<=64) _) hr.units
section
variable {X:Cx}
theorem pv (i:Nat) {x:Str} {pos:Pos} (hN:X.N[i]?=some x:=by rfl) (hv:Pt X.env.scope x:=by first | exact Or.inl rfl | exact Or.inr (Or.inl rfl) | exact Or.inr (Or.inr rfl)) (hd:(x == ("__debug__":Str))=false:=by decide)
  (hcd:(x == ("__classdict__":Str))=false:=by decide):PE X (.Name x pos) (Aj i):=cz hN hv hd hcd
end
theorem Bh{A B:Prop}(h:B):if false=true then A else B:=by
 rw[iz jr];exact h
theorem Ed{A B:Prop}(h:A):if true=true then A else B:=by
 rw[i5 rfl];exact h
theorem MT{c A B:Prop}[Decidable c](h1:c->A)(h2:¬c->B):if c then A else B:=by
 by_cases h:c
 ·rw[i5 h];exact h1 h
 ·rw[iz h];exact h2 h
theorem D7{c A B:Prop}[Decidable c](hc:c)(h:B):if (!decide c)=true then A else B:=by
 rw[kc hc];exact Bh h
def AN(H H':Hp):Prop:=∀b o,H b=some o->H' b=some o
theorem AN.refl(H:Hp):AN H H:=λ_ _ h=>h
theorem AN.trans{H H1 H2:Hp}(a:AN H H1)(b:AN H1 H2):AN H H2:=λc o h=>b c o (a c o h)
theorem AN.free{H H':Hp}(e:AN H H'){l:Addr}(h:H' l=Option.none):H l=Option.none:=by
 cases q:H l with
 | none=>rfl
 | some o =>
  rw[e l o q] at h;cases h
theorem AN.seq{K:PySem.W.Frag}{H H':Hp}{a:Addr}{xs:List V}(e:AN H H')(h:AQ K H a xs):AQ K H' a xs:=by
 rcases h with (h | ⟨o,h⟩) | h
 ·exact .inl (.inl (e _ _ h))
 ·exact .inl (.inr ⟨o,e _ _ h⟩)
 ·exact .inr h
section
variable {X:Cx}
theorem Mt:DJ X (.builtin "len") (λxs H Q=>∃a kvs,xs=[V.ref a]/\H a=some (.dK kvs)/\Q (.int kvs.length) H):=by
 intro pins s σ H xs us Q I r h;obtain⟨a,kvs,rfl,ha,q⟩:=h;obtain⟨u,rfl,ru⟩:=Er r;cases ru;exact dX I (.inl ha) λt s' I'=>⟨.int kvs.length,H,I',⟨t,rfl⟩,q⟩
end
section
variable {κ:Type} [DecidableEq κ]
end
end L2
namespace L2
open PySem
def DK(h h':Heap):Prop:=∀a o,h.get? a=some o->∃o',h'.get? a=some o'/\o'.dict=o.dict
theorem DK.refl(h:Heap):DK h h:=λ_ o e=>⟨o,e,rfl⟩
theorem DK.trans{h1 h2 h3:Heap}(x:DK h1 h2)(y:DK h2 h3):DK h1 h3:=λa o e=>by
 obtain⟨o1,e1,d1⟩:=x a o e;obtain⟨o2,e2,d2⟩:=y a o1 e1;exact⟨o2,e2,d2.trans d1⟩
theorem Xx{h:Heap}{a:Addr}{o:Obj}(e:h.get? a=some o):o.isFreed=false:=by
 unfold Heap.get? at e;split at e
 ·cases e
 ·rename_i x hx
  obtain⟨c,d,dt,sl⟩:=o;cases dt <;> first | rfl | (exact absurd e (hx _ _ _))
theorem DK.AJ{h:Heap}{a:Addr}{f:Obj->Obj}(hf:∀o,(f o).dict=o.dict/\(f o).isFreed=o.isFreed):DK h (h.update a f):=λb o e=>by
 by_cases hb:a=b
 ·subst hb;exact⟨f o,oo f e ((hf o).2.trans (Xx e)),(hf o).1⟩
 ·exact⟨o,(nZ h f hb).trans e,rfl⟩
theorem DK.push(h:Heap)(x:Obj):DK h (h.push x):=λ_ o e=>⟨o,i3 x e,rfl⟩
structure KpD{α:Type}(t:Sem α):Prop where
 out:∀(M:Model) (Γ:Ctx) (Q:α->Pos->Shared->Prop) (E:Value->Pos->Shared->Prop) (p:Pos) (s:Shared),Sem.wp M Γ t Q E p s->Sem.wp M Γ t (λa p' s'=>Q a p' s'/\DK s.heap s'.heap) E p s
namespace KpD
variable {α β:Type}
theorem pure(a:α):KpD (Pure.pure a:Sem α):=⟨λ_ _ _ _ _ s h=>⟨h,DK.refl _⟩⟩
theorem unsupported(w:String):KpD (PySem.unsupported w:Sem α):=⟨λ_ _ _ _ _ _ h=>h⟩
theorem bind{m:Sem α}{f:α->Sem β}(hm:KpD m)(hf:∀a,KpD (f a)):KpD (m >>= f):=⟨λM Γ Q E p s h=>by
 rw[Sem.wp_bind'] at h ⊢;refine Sem.wp_mono M Γ m (λa p' s' ⟨q,k⟩=>?_) (λ_ _ _ z=>z) p s (hm.out M Γ _ E p s h);exact Sem.wp_mono M Γ (f a) (λb p2 s2 ⟨q2,k2⟩=>⟨q2,k.trans k2⟩) (λ_ _ _ z=>z) p' s' ((hf a).out M Γ Q E p' s' q)⟩
theorem ite{c:Prop}[Decidable c]{t u:Sem α}(ht:KpD t)(hu:KpD u):KpD (if c then t else u):=by split <;> assumption
theorem load(a:Addr):KpD (PySem.load a):=⟨λ_ _ _ _ _ _ h=>by
 obtain⟨o,e,q⟩:=h;exact⟨o,e,q,DK.refl _⟩⟩
theorem stack:KpD PySem.stack:=⟨λ_ _ _ _ _ _ h=>⟨h,DK.refl _⟩⟩
theorem update(a:Addr){f:Obj->Obj}(hf:∀o,(f o).dict=o.dict/\(f o).isFreed=o.isFreed):KpD (PySem.update a f):=⟨λ_ _ _ _ _ _ h=>⟨h.1,h.2,DK.AJ hf⟩⟩
theorem alloc(x:Obj):KpD (PySem.alloc x):=⟨λ_ _ _ _ _ _ h=>⟨h,DK.push _ _⟩⟩
theorem field(v:Value)(i:Nat):KpD (PySem.field v i):=⟨λM Γ Q E p s h=>by
 rw[wp_field_iff] at h ⊢;obtain⟨a,o,vs,x,e,ho,hd,hx,q⟩:=h;exact⟨a,o,vs,x,e,ho,hd,hx,q,DK.refl _⟩⟩
theorem gG(g:Array Value->Array Value)(o:Obj):(o.mapFields g).dict=o.dict/\(o.mapFields g).isFreed=o.isFreed:=by
 obtain⟨c,d,dt,sl⟩:=o;cases dt <;> exact⟨rfl,rfl⟩
theorem setField(v:Value)(i:Nat)(x:Value):KpD (PySem.setField v i x):=⟨λM Γ Q E p s h=>by
 rw[wp_setField_iff] at h ⊢;obtain⟨a,o,vs,e,ho,hd,hi,q⟩:=h;exact⟨a,o,vs,e,ho,hd,hi,q,DK.AJ (gG _)⟩⟩
theorem newFields(ty:String)(vs:List Value):KpD (PySem.newFields ty vs):=by
 unfold PySem.newFields newObj newObjAsIs;dsimp only;split
 all_goals repeat' with_reducible first
  | exact unsupported _
  | exact alloc _
  | exact pure _
  | apply bind
  | intro _
theorem slotF(g:Obj->Array (Option Value))(o:Obj):({ o with slots:=g o }:Obj).dict=o.dict/\({ o with slots:=g o }:Obj).isFreed=o.isFreed:=by
 obtain⟨c,d,dt,sl⟩:=o;cases dt <;> exact⟨rfl,rfl⟩
end KpD
local macro_rules
 | `(tactic| trivial)=>`(tactic| (repeat' with_reducible first
  | assumption
  | exact KpD.pure _
  | exact KpD.unsupported _
  | exact KpD.field _ _
  | exact KpD.setField _ _ _
  | exact KpD.newFields _ _
  | exact KpD.load _
  | exact KpD.update _ (KpD.slotF _)
  | exact KpD.stack
  | exact KpD.alloc _
  | apply KpD.ite
  | apply KpD.bind
  | intro _
  | split))
end L2
namespace L2
open PySem PySem.Spec PyProof.Rows
def V5(B:Heap)(l:List Env)(a:Addr)(cls:Value)(t:Addr)(od:Option Addr)(h:Heap):Prop:=Heap.FlyingW B l a cls (.ref t) h/\∃o,h.get? a=some o/\o.dict=od
theorem V5.there{B h:Heap}{l:List Env}{a t:Addr}{cls:Value}{od:Option Addr}(x:V5 B l a cls t od h):∃o,h.get? a=some o/\o.cls=cls/\o.dict=od/\∃vs,o.data=.fields vs:=by
 obtain⟨o,e,d⟩:=x.2;obtain⟨o2,vs,e2,c,f,_⟩:=x.1.first;rw[e] at e2;cases e2;exact⟨o,e,c,d,vs,f⟩
theorem DK.dict{h h':Heap}{a:Addr}{od:Option Addr}(k:DK h h')(x:∃o,h.get? a=some o/\o.dict=od):∃o,h'.get? a=some o/\o.dict=od:=by
 obtain⟨o,e,d⟩:=x;obtain⟨o',e',d'⟩:=k a o e;exact⟨o',e',d'.trans d⟩
section
variable {X:Cx} {pins:List (Addr×Obj)} {σ:St} {H:Hp} {s s':Shared} {E:XK} {e:Value}
end
section
variable {P:Program} {w:World} {K:PySem.W.Frag} {mg:Str->Option Value} {base:Heap} {N:List Str} {qual:Str} {scope:Scope} {f:Addr} {cd:Value} {A:Around} {outer:List Env} {s₀:Shared} {H₀:Hp} {E:XK}
end
section
variable {M:Model} {A:Around} {E:Value->Shared->Prop} {s:Shared} {B:Heap} {env:Env} {outer l:List Env} {L e t:Addr} {cls:Value} {od:Option Addr} {Q:Unit->Shared->Prop}
end
def Cb(X:Cx)(scope:Scope)(cl:List (Str×Addr))(C:Addr)(Nc:List Str)(ex:List Addr)(pins:List (Addr×Obj))(s₀:Shared)(H₀:Hp):Cx where
 prog:=X.prog
 w:=X.w
 K:=X.K
 mg:=X.mg
 base:=X.base
 A:=X.A
 N:=Nc
 s₀:=s₀
 H₀:=H₀
 env:=compEnvC scope cl C X.env
 outer:=X.stack
 stack:=X.stack
 ex:=ex
 fn:=λy=>scope.names.lookup y == some .local
 Ci:=true
 pn:=X.pn++pins
 xe:=λ_ _=>False
structure Gs(X:Cx)(scope:Scope)(cl:List (Str×Addr))(Nc:List Str)(cap:List (Nat×Nat)):Prop where
 clos:closureFor scope X.env=pure cl
 kind:scope.kind=.function
 names:∀y∈scope.names,y.2=.local->scope.names.lookup y.1=some .local
 nocell:∀y∈scope.names,y.2≠.cell
 Di:∀x c,cl.lookup x=some c->X.env.cells.lookup x=some c/\scope.names.lookup x≠some .local
 has:∀x,((relabel scope X.env).names.lookup x=some .cell\/(relabel scope X.env).names.lookup x=some .free)->∃c,cl.lookup x=some c
 caps:∀j i,(j,i)∈cap->∃x c,Nc[j]?=some x/\X.N[i]?=some x/\cl.lookup x=some c/\X.env.scope.names.lookup x=some .cell/\(relabel scope X.env).names.lookup x=some .cell
theorem CB {X:Cx} {scope:Scope} {cl:List (Str×Addr)} {Nc:List Str} {cap:List (Nat×Nat)} (clos:closureFor scope X.env=pure cl) (kind:scope.kind=.function) (names:∀y∈scope.names,y.2=.local->scope.names.lookup y.1=some .local) (nocell:∀y∈scope.names,y.2≠.cell)
  (subs:∀p∈cl,X.env.cells.lookup p.1=some p.2/\scope.names.lookup p.1=some .free) (hass:((relabel scope X.env).names.all λp=>(p.2 != .cell && p.2 != .free) || (cl.lookup p.1).isSome)=true)
  (caps:∀p∈cap,∃x c,Nc[p.1]?=some x/\X.N[p.2]?=some x/\cl.lookup x=some c/\X.env.scope.names.lookup x=some .cell/\(relabel scope X.env).names.lookup x=some .cell):Gs X scope cl Nc cap :=
 ⟨clos,kind,names,nocell,λx c e=>⟨(subs (x,c) (kS e)).1,λz=>by
  have:=(subs (x,c) (kS e)).2
  rw[z] at this;cases this⟩,λx e=>by
  have key:∀k,(relabel scope X.env).names.lookup x=some k->(k=.cell\/k=.free)->∃c,cl.lookup x=some c:=λk e hk=>by
   have:=pC.mp hass (x,k) (kS e)
   rcases hk with rfl | rfl
   ·exact nK.mp (by simpa using this)
   ·exact nK.mp (by simpa using this)
  rcases e with e | e
  ·exact key _ e (.inl rfl)
  ·exact key _ e (.inr rfl),λj i m=>caps (j,i) m⟩
def IT(n:Nat)(cap:List (Nat×Nat))(σ:St):St:=(List.range n).map λj=>((cap.find? λp=>p.1 == j).bind λp=>σ[p.2]?).bind id
theorem YA{n:Nat}{cap:List (Nat×Nat)}{σ:St}{j:Nat}{v:V}(h:(IT n cap σ)[j]?=some (some v)):∃i,(j,i)∈cap/\σ[i]?=some (some v):=by
 unfold IT at h;rw[iy] at h;cases e:(List.range n)[j]? with
 | none=>rw[e] at h; cases h
 | some k =>
  rw[e] at h;have hk:k=j:=by
   obtain⟨hl,q⟩:=ip.mp e;rw[List.getElem_range] at q;exact q.symm
  subst hk;simp only[oz,Option.some.injEq] at h;cases f:cap.find? λp=>p.1 == k with
  | none=>rw[f] at h; cases h
  | some p =>
   rw[f] at h;have h1:=pA f;have h2:p.1=k:=by
    have:=so f
    exact eq_of_beq this
   refine⟨p.2,?_,?_⟩
   ·rw[<-h2]; exact h1
   ·simp only[Option.bind_some] at h;cases g:σ[p.2]? with
    | none=>rw[g] at h; cases h
    | some o=>rw[g] at h; simpa using h
section
variable {X:Cx} {pins:List (Addr×Obj)} {σ:St} {H:Hp} {s:Shared} {scope:Scope} {cl:List (Str×Addr)} {Nc:List Str} {cap:List (Nat×Nat)} {fp:List Addr}
theorem Y4 (I:AK X pins σ H s) (hcalm:X.Ci=true) (S:Gs X scope cl Nc cap) (hfp:∀b∈fp,FU X pins H b) (hob:∀b∈fp,∃o,s.heap.get? b=some o) {C:Addr} {h1:Heap} {m:Str->Option Value} {tk:Nat} (hC:s.heap.objs.size<=C)
  (hn:h1.Ns C m) (keep:∀b o,s.heap.get? b=some o->h1.get? b=some o):AK (Cb X scope cl C Nc fp pins s H) [] (IT Nc.length cap σ) H { s with heap:=h1,toks:=tk }:=by
 have neC:∀b o,s.heap.get? b=some o->b≠C:=λb o e=>jM (jL (jj e) hC)
 refine⟨⟨I.ok.DR,S.kind,I.ok.Gf,I.ok.Jb,hC,λx y c e1 e2=>?_,λx hx=>S.has x hx,λx c e1 e2=>?_,λ_=>I.ok.hd hcalm,I.ok.frames,.inl rfl,λb hb=>⟨?_,λx c e=>?_⟩,I.bs,js I.ok.GF I.sz,λb o e hb=>?_,λb hb z=>?_,I.stack,I.Sv⟩,
  rfl,I.bare,Un.Bx keep,⟨m,hn,λj x v e1 e2 e3=>?_⟩,λx c e=>?_,I.hok.Br hC,λx c e=>?_,λp hp=>?_,I.hok.Bx keep,?_⟩
 ·exact I.ok.inj x y c (S.Di x c e1).1 (S.Di y c e2).1
 ·exact absurd (beq_iff_eq.mp e1) (S.Di x c e2).2
 ·obtain⟨o,e⟩:=hob b hb;exact neC b o e
 ·exact(hfp b hb).2.2.2.2.1 x c (S.Di x c e).1
 ·rcases(hfp b hb).2.2.2.1 with z | z
  ·exact I.ok.Kt b o e z
  ·exact absurd (jL (jj e) (js I.ok.GF z)) (kW _)
 ·rcases jh.mp (I.L3 b z) with z | z
  ·exact(hfp b hb).2.1 z
  ·exact(hfp b hb).2.2.1 z
 ·obtain⟨i,hm,hv⟩:=YA e2;obtain⟨x',c,q1,q2,q3,q4,q5⟩:=S.caps j i hm;have e1':Nc[j]?=some x:=e1;rw[q1] at e1';cases e1';obtain⟨mo,_,hl⟩:=I.EB;obtain⟨u,r,l⟩:=hl i x v q2 hv (.inr (.inl q4));refine⟨u,r,?_⟩;rcases l with ⟨k,_⟩ | ⟨_,c',e',z⟩
  ·have k':X.env.scope.names.lookup x=some .local:=k;rw[q4] at k';cases k'
  ·have:c'=c:=je (e'.symm.trans (S.Di x c q3).1)
   subst this;obtain⟨o,ho,hd⟩:=z;exact .inr ⟨.inl q5,c',q3,⟨o,keep _ _ ho,hd⟩⟩
 ·obtain⟨v,o,ho,hd⟩:=I.cell x c (S.Di x c e).1;exact⟨v,o,keep _ _ ho,hd⟩
 ·exact I.Fv x c (S.Di x c e).1
 ·have hp':p∈X.pn++pins:=by
   have z:p∈(X.pn++pins)++[]:=hp;rw[kg] at z;exact z
  obtain⟨e,n,ne,nf,d⟩:=I.pin p hp';refine⟨keep _ _ e,n,neC _ _ e,λz=>?_,d⟩;rcases jh.mp (I.L3 p.1 z) with z | z
  ·exact ne z
  ·exact nf z
 ·show(IT Nc.length cap σ).length=Nc.length;unfold IT;rw[ig,jN]
theorem Xq(I:AK X pins σ H s)(hfp:∀b∈fp,FU X pins H b){C:Addr}{σc:St}{H':Hp}{s':Shared}{h':Heap}(J:AK (Cb X scope cl C Nc fp pins s H) [] σc H' s')(hs:Heap.SameBut C s'.heap h'):AK X pins σ H' { s' with heap:=h' }:=by
 have hC:s.heap.objs.size<=C:=J.ok.above;have neC:∀b o,s.heap.get? b=some o->b≠C:=λb o e=>jM (jL (jj e) hC)
 have u:=J.base;refine I.fQ (s':={ s' with heap:=h' }) (ch:=fp) J.os ⟨λb o e n hb hx=>?_,λb o e n hb hx=>?_,u.free,λb o e hx=>?_,u.tups,u.frzs,u.tbls⟩ (λb o e=>?_) J.bare λb hb=>⟨(hfp b hb).2.2.2.1,(hfp b hb).2.1,(hfp b hb).2.2.2.2.1,(hfp b hb).2.2.2.2.2⟩
 ·exact(hs.2 b (neC b o e)).trans (u.keep b o e n hb hx)
 ·obtain⟨sl,q⟩:=u.slot b o e n hb hx;exact⟨sl,(hs.2 b (neC b o e)).trans q⟩
 ·obtain⟨o',q⟩:=u.there b o e hx;exact⟨o',(hs.2 b (neC b o e)).trans q⟩
 ·refine(J.hok b o e).GA (λc v hc q=>(hs.2 c ?_).trans q) (λ_ q=>q) λ_ _ q=>q
  intro z;subst z;have fr:H' c=none:=J.free;rcases hc with hc | hc
  ·rw[hc] at fr; rw[fr] at e; cases e
  ·rw[fr] at hc; cases hc
end
def MC(n:Nat)(cap:List (Nat×Nat))(wi:TI)(g:TG)(te:TE):TE:=λσ H Q=>wi σ H λJ H1=>∀acc,H1 acc=none →
 ∃W:Nat->Nat->List V->St->Hp->Prop,(∃m,W 0 m [] (IT n cap σ) (AJ H1 acc (.AF [])))/\∀i m ys σc H2,W i m ys σc H2 →
  (J.stop i H2/\Q (.ref acc) H2)\/(J.go i H2/\∀x H3,J.ED i H2 x H3->g x σc H3 λσ4 H4=>te σ4 H4 λv H5=>H5 acc=some (.AF ys)/\ys.length<sizeLine/\∃m',m' < m/\W (i+1) m' (ys++[v]) σ4 (AJ H5 acc (.AF (ys++[v]))))
def JL(n:Nat)(cap:List (Nat×Nat))(wi:TI)(g:TG)(tt:TT)(te:TE):TE:=λσ H Q=>wi σ H λJ H1=>∀acc,H1 acc=none →
 ∃W:Nat->Nat->List V->St->Hp->Prop,(∃m,W 0 m [] (IT n cap σ) (AJ H1 acc (.AF [])))/\∀i m ys σc H2,W i m ys σc H2 →
  (J.stop i H2/\Q (.ref acc) H2)\/(J.go i H2/\∀x H3,J.ED i H2 x H3->g x σc H3 λσ4 H4=>tt σ4 H4 λok H5=>if ok=true then (te σ4 H5 λv H6=>H6 acc=some (.AF ys)/\ys.length<sizeLine/\∃m',m' < m/\W (i+1) m' (ys++[v]) σ4 (AJ H6 acc (.AF (ys++[v])))) else ∃m',m' < m/\W (i+1) m' ys σ4 H5)
def LA(X:Cx)(ifs:List PySem.Expr)(tt:TT):Prop:=∀(pins:List (Addr×Obj)) (s:Shared) (σ:St) (H:Hp) (Q:Bool->Hp->Prop),AK X pins σ H s->tt σ H Q →
 wpAny (model X.prog X.w) X.A (forIn ifs true λc r=>if r=true then do let ok <-isTrue c X.env (eval c X.env); pure (ForInStep.yield ok) else pure (ForInStep.yield r)) (λok s'=>∃H',AK X pins σ H' s'/\Q ok H') X.xe s
theorem aY{X:Cx}{c:PySem.Expr}{tt:TT}(h:PT X c tt):LA X [c] tt:=λpins s σ H Q I q=>wpAny_tests_one (h pins s σ H Q I q)
theorem Sd{X:Cx}:LA X [] (λ_ H Q=>Q true H):=λ_ _ _ H _ I q=>wpAny_tests_nil ⟨H,I,q⟩
section
variable {prog:Program} {w:World} {A:Around} {s:Shared}
theorem Wx {elt iter tg:PySem.Expr} {ifs:List PySem.Expr} {scope:Scope} {pos:Pos} {it acc:Value} {env:Env} {R:Result->Shared->Prop} (I:Nat->Shared->Prop)
  (turn:∀n s,I n s->wpAny (model prog w) A (pyNext it) (λr s₁=>match r with
   | none=>R (.ok .next) s₁
   | some v=>wpAny (model prog w) A (letOwnedTupleGo tg it v) (λ_ s₁'=>wpAny (model prog w) A (assign tg env v) (λ_ s₂ =>
     wpAny (model prog w) A (forIn ifs true λc r=>if r=true then do let ok <-isTrue c env (eval c env); pure (ForInStep.yield ok) else pure (ForInStep.yield r)) (λok s₃=>if ok=true then
      wpAny (model prog w) A (eval elt env) (λx s₄ =>
       wpAny (model prog w) A (call (.builtin "list.append") [acc,x]) (λ_ s₅=>∃m,m<n/\I m s₅) (λ_ _=>False) s₄) (λ_ _=>False) s₃
      else ∃m,m<n/\I m s₃) (λ_ _=>False) s₂)
     (λ_ _=>False) s₁') (λ_ _=>False) s₁) (notedBy (model prog w) A env λe s'=>R (.error e) s') s)
  (n:Nat) (h:I n s):codeAny (model prog w) A (.compLoop (.ListComp elt [⟨tg,iter,ifs,0⟩] scope pos) 0 it acc env) R s:=by
 refine codeAny_loop rfl I (λn s hI=>?_) n h;show wpAny _ A ((compTurn (.ListComp elt [⟨tg,iter,ifs,0⟩] scope pos) 0 it acc env).onRaise (λx=>do noteFrame x env; theTreesLotGoes x)) _ _ s;refine wpAny_noted ?_;rw[compTurn_list];refine iu (qx (iu (kA (turn n s hI) (λr s₁ h₁=>?_) λ_ _ h'=>h')));cases r with
 | none=>exact jk h₁
 | some v =>
  refine iu (kA h₁ (λ_ s₁' h₁'=>?_) λ_ _ h'=>False.elim h');refine iu (kA h₁' (λ_ s₂ h₂=>iu (kA h₂ (λok s₃ h₃=>?_) λ_ _ h'=>False.elim h')) λ_ _ h'=>False.elim h');cases ok with
  | false=>exact jk ⟨rfl,h₃⟩
  | true =>
   exact iu (iu (kA h₃ (λx s₄ h₄=>iu (kA h₄ (λ_ s₅ h₅=>jk (jk ⟨rfl,h₅⟩)) λ_ _ h'=>False.elim h')) λ_ _ h'=>False.elim h'))
end
section
variable {X:Cx} {elt iter tg:PySem.Expr} {ifs:List PySem.Expr} {pos:Pos} {scope:Scope} {cl:List (Str×Addr)} {Nc:List Str} {cap:List (Nat×Nat)} {wi:TI} {g:TG} {tt:TT} {te:TE}
theorem QZ {pins:List (Addr×Obj)} {s:Shared} {σ:St} {H:Hp} {Q:V->Hp->Prop} {pos':Pos} {use:Option (Value->Sem Unit)} {P:Value->Shared->Prop} (hc:X.Ci=true) (hi:PI X tg iter wi) (S:Gs X scope cl Nc cap)
  (hg:∀C fp pins s H,PG (Cb X scope cl C Nc fp pins s H) tg g) (ht:∀C fp pins s H,LA (Cb X scope cl C Nc fp pins s H) ifs tt) (he:∀C fp pins s H,PE (Cb X scope cl C Nc fp pins s H) elt te)
  (hs:∀y,foldedSetIterable iter X.env y=pure y) (I:AK X pins σ H s) (h:JL Nc.length cap wi g tt te σ H Q)
  (fin:∀(acc C:Addr) (H5:Hp) (s6:Shared) (m6:Str->Option Value),AK X pins σ H5 s6->FU X pins H5 C->s6.heap.Ns C m6->Q (.ref acc) H5->compPost (model X.prog X.w) X.A X.xe use P (.ref acc) C (.ok .next) s6) :
  wpAny (model X.prog X.w) X.A (comprehension (.ListComp elt [⟨tg,iter,ifs,0⟩] scope pos) scope X.env pos' (newList []) false (eval iter X.env) use) P X.xe s:=by
 refine wpAny_comprehension_free (use:=use) (cl:=cl) rfl hs S.clos S.kind S.names ?_;refine Af (hi pins s σ H _ I h) λv s1 h1=>Af h1 λitv s2 h2=>?_
 obtain⟨it,fp,tn,J,H2,e,I2,T,st2,f2,rd⟩:=h2;subst e;refine lG ?_;have hacc:H2 s2.heap.objs.size=none:=I2.hok.Br (i4 _);obtain⟨W,⟨m0,w0⟩,turn⟩:=rd s2.heap.objs.size hacc;have I3:AK X pins σ (AJ H2 s2.heap.objs.size (.AF [])) { s2 with heap:=s2.heap.push { cls:=.type "list",dict:=none,data:=.seq ([]:List Value).toArray } } :=
  I2.Df (t':=s2.toks) (λb u e=>i3 _ e) (i4 _) ⟨jS _,[],0,.nil,jo _ rfl⟩
 have st3:tn 0 (s2.heap.push { cls:=.type "list",dict:=none,data:=.seq ([]:List Value).toArray }):=T.keep _ _ _ st2 λb _ o e=>i3 _ e
 have f3:∀b∈fp,FU X pins (AJ H2 s2.heap.objs.size (.AF [])) b:=λb hb=>by
  obtain⟨o,e,_⟩:=T.obj _ _ st2 b hb;refine⟨?_,(f2 b hb).2⟩;rw[Ad (jM (jj e))];exact(f2 b hb).1
 generalize hh3:s2.heap.push { cls:=.type "list",dict:=none,data:=.seq ([]:List Value).toArray }=h3 at I3 st3 ⊢;generalize hH3:AJ H2 s2.heap.objs.size (.AF [])=H3 at I3 f3 w0;generalize s2.heap.objs.size=acc at *;refine wpAny_newFunctionEnv S.nocell (by intro y hy; simp at hy) (λh4 hns hsb=>?_) S.kind;dsimp only at hns hsb ⊢;have keep:∀b o,h3.get? b=some o->h4.get? b=some o:=λb o e=>hsb.extBut b o (jM (jj e)) (i3 _ e)
 have f0:∀b∈fp,∃o,h3.get? b=some o:=λb hb=>by
  obtain⟨o,e,_⟩:=T.obj _ _ st3 b hb;exact⟨o,e⟩
 have I4:=Y4 (tk:=s2.toks+([]:List (Str×Value)).length) I3 hc S f3 f0 (C:=h3.objs.size) (i4 _) hns keep;have st4:tn 0 h4:=T.keep _ _ _ st3 λb _ o e=>keep b o e
 have stat:∀{H':Hp},(∀b∈fp,H' b=none)->∀b∈fp,FU (Cb X scope cl h3.objs.size Nc fp pins { s2 with heap:=h3 } H3) [] H' b:=λhn b hb=>by
  obtain⟨o,e⟩:=f0 b hb;refine⟨hn b hb,jM (jj e),I4.ok.Kw b hb,.inl hb,λx c q=>(f3 b hb).2.2.2.2.1 x c (S.Di x c q).1,λp hp=>?_⟩;have z:p∈(X.pn++pins)++[]:=hp;rw[kg] at z;exact(f3 b hb).2.2.2.2.2 p z
 have loop:codeAny (model X.prog X.w) X.A (.compLoop (.ListComp elt [⟨tg,iter,ifs,0⟩] scope pos) 0 (.ref it) (.ref acc) (compEnvC scope cl h3.objs.size X.env)) (compPost (model X.prog X.w) X.A X.xe use P (.ref acc) h3.objs.size)
   { s2 with heap:=h4,toks:=s2.toks+([]:List (Str×Value)).length }:=by
  refine Wx (λn s'=>∃i ys σ' H',AK (Cb X scope cl h3.objs.size Nc fp pins { s2 with heap:=h3 } H3) [] σ' H' s'/\tn i s'.heap/\(∀b∈fp,H' b=none)/\W i n ys σ' H') ?_ m0 ⟨0,[],_,H3,I4,st4,λb hb=>(f3 b hb).1,w0⟩;rintro n s5 ⟨i,ys,σ5,H5,I5,st5,fr5,w5⟩;rcases turn i n ys σ5 H5 w5 with ⟨stop,qn⟩ | ⟨go,step⟩
  ·refine Af (T.done (Cb X scope cl h3.objs.size Nc fp pins { s2 with heap:=h3 } H3) rfl rfl rfl rfl i [] s5 σ5 H5 _ I5 (stat fr5) st5 stop) λr s6 ⟨hr,I6⟩=>?_
   subst hr;obtain⟨m6,hn6,_⟩:=id I6.EB;exact fin acc _ H5 s6 m6 (Xq (h':=s6.heap) I3 f3 I6 ⟨rfl,λ_ _=>rfl⟩) (I3.HU (i4 _) I6.free) hn6 qn
  ·refine kA (T.item (Cb X scope cl h3.objs.size Nc fp pins { s2 with heap:=h3 } H3) rfl rfl rfl rfl i [] s5 σ5 H5 (λ_ _=>False) I5 (stat fr5) st5 go) (λr s6 ⟨u,hr,h6⟩=>?_) λ_ _ z=>False.elim z
   subst hr;refine Af h6 λ_ s7 ⟨y,H7,I7,r7,y7,st7,fr7⟩=>?_
   have I7':=I7.Tf (stat fr7) (T.obj _ _ st7);have kp:∀{σ8:St} {H8:Hp} {s8:Shared},AK (Cb X scope cl h3.objs.size Nc fp pins { s2 with heap:=h3 } H3) ([]++KL fp s7.heap) σ8 H8 s8->tn (i+1) s8.heap/\∀b∈fp,H8 b=none:=λ{σ8 H8 s8} I8 =>
    ⟨T.keep _ _ _ st7 λb hb o e=>(I8.pin (b,o) (jC _ (jC _ (LC hb e)))).1,λb hb=>by
     obtain⟨o,e,d⟩:=T.obj _ _ st7 b hb;exact(I8.pin (b,o) (jC _ (jC _ (LC hb e)))).2.1⟩
   refine Af (hg _ _ _ _ _ _ s7 σ5 H7 y u _ I7' r7 (step y H7 y7)) λ_ s8 ⟨σ8,H8,I8,q8⟩=>?_
   refine Af (ht _ _ _ _ _ _ s8 σ8 H8 _ I8 q8) λok s9 ⟨H9,I9,q9⟩=>?_
   cases ok with
   | false =>
    rw[iz jr] at q9 ⊢;obtain⟨m',hm,w'⟩:=q9;obtain⟨st9,fr9⟩:=kp I9;exact⟨m',hm,i+1,ys,σ8,H9,I9.Ju,st9,fr9,w'⟩
   | true =>
    rw[i5 rfl] at q9 ⊢;refine Af (he _ _ _ _ _ _ s9 σ8 H9 _ I9 q9) λw10 s10 ⟨v10,H10,I10,r10,e10,l10,m',hm,q10⟩=>?_
    refine Af (Dz _ s10 σ8 H10 (.ref acc) [v10] (.ref acc) [w10] (λ_ H11=>W (i+1) m' (ys++[v10]) σ8 H11) I10 rfl (.cons r10 .nil) ⟨acc,ys,v10,rfl,rfl,e10,l10,q10⟩) λ_ s11 ⟨_,H11,I11,_,q11⟩=>?_
    obtain⟨st11,fr11⟩:=kp I11;exact⟨m',hm,i+1,ys++[v10],σ8,H11,I11.Ju,st11,fr11,q11⟩
 exact codeAny_compStart_list loop (T.HY _ 0 _ _ _ st4 loop)
theorem RU (hc:X.Ci=true) (hi:PI X tg iter wi) (S:Gs X scope cl Nc cap)
  (hg:∀C fp pins s H,PG (Cb X scope cl C Nc fp pins s H) tg g) (ht:∀C fp pins s H,LA (Cb X scope cl C Nc fp pins s H) ifs tt) (he:∀C fp pins s H,PE (Cb X scope cl C Nc fp pins s H) elt te)
  (hs:∀y,foldedSetIterable iter X.env y=pure y:=by intro _; rfl):PE X (.ListComp elt [⟨tg,iter,ifs,0⟩] scope pos) (JL Nc.length cap wi g tt te):=by
 intro pins s σ H Q I h;rw[eval_ListComp];exact QZ (use:=none) hc hi S hg ht he hs I h λacc C H5 s6 m6 back fpC hn qn=>⟨m6,hn,λh7 hs7=>⟨.ref acc,H5,back.En (t':=s6.toks) (λb o hb q=>(hs7.2 b hb).trans q) fpC.1 fpC.2.1 fpC.2.2.2.1 fpC.2.2.2.2.1 fpC.2.2.2.2.2,rfl,qn⟩⟩
theorem QI{n:Nat}:JL n cap wi g (λ_ H Q=>Q true H) te=MC n cap wi g te:=by
 unfold JL MC;simp only[if_true]
theorem C5 (hc:X.Ci=true) (hi:PI X tg iter wi) (S:Gs X scope cl Nc cap)
  (hg:∀C fp pins s H,PG (Cb X scope cl C Nc fp pins s H) tg g) (he:∀C fp pins s H,PE (Cb X scope cl C Nc fp pins s H) elt te)
  (hs:∀y,foldedSetIterable iter X.env y=pure y:=by intro _; rfl):PE X (.ListComp elt [⟨tg,iter,[],0⟩] scope pos) (MC Nc.length cap wi g te) :=
 QI ▸ RU (ifs:=[]) (pos:=pos) hc hi S hg (λ_ _ _ _ _=>Sd) he hs
theorem Y5 {ct:PySem.Expr} (hc:X.Ci=true) (hi:PI X tg iter wi) (S:Gs X scope cl Nc cap)
  (hg:∀C fp pins s H,PG (Cb X scope cl C Nc fp pins s H) tg g) (ht:∀C fp pins s H,PT (Cb X scope cl C Nc fp pins s H) ct tt) (he:∀C fp pins s H,PE (Cb X scope cl C Nc fp pins s H) elt te)
  (hs:∀y,foldedSetIterable iter X.env y=pure y:=by intro _; rfl):PE X (.ListComp elt [⟨tg,iter,[ct],0⟩] scope pos) (JL Nc.length cap wi g tt te) :=
 RU hc hi S hg (λC fp pins s H=>aY (ht C fp pins s H)) he hs
theorem XD {i:Nat} {y:Str} {py spos:Pos} (hN:X.N.Nodup) (hiN:X.N[i]?=some y) (hy:Jj X.env.scope y)
  (hc:X.Ci=true) (hi:PI X tg iter wi) (S:Gs X scope cl Nc cap)
  (hg:∀C fp pins s H,PG (Cb X scope cl C Nc fp pins s H) tg g) (ht:∀C fp pins s H,LA (Cb X scope cl C Nc fp pins s H) ifs tt) (he:∀C fp pins s H,PE (Cb X scope cl C Nc fp pins s H) elt te)
  (hsw:swapsWith (.ListComp elt [⟨tg,iter,ifs,0⟩] scope pos) (some (.Name y py)) spos.line X.env=pure true:=by rfl) (hs:∀z,foldedSetIterable iter X.env z=pure z:=by intro _; rfl)
  (hf:X.fn y=true\/X.env.scope.names.lookup y=some .local:=by first | exact .inl rfl | exact .inr rfl | assumption) :
  PS X (.Assign [.Name y py] (.ListComp elt [⟨tg,iter,ifs,0⟩] scope pos) spos) (JX (JL Nc.length cap wi g tt te) (BU i)):=by
 intro pins s σ H D I h;rw[exec_Assign_Name_used _ _ _ _ hsw];refine iu (qx (iu ?_));show wpAny _ X.A (do let _ <-comprehension (.ListComp elt [⟨tg,iter,ifs,0⟩] scope pos) scope X.env _ (newList []) false (eval iter X.env) (some (assign (.Name y py) X.env))) _ _ s;refine iu (kA (QZ (use:=some (assign (.Name y py) X.env)) (P:=λ_ s'=>SP X pins D .next s') hc hi S hg ht he hs I h λacc C H5 s6 m6 back fpC hn6 qn=>?_) (λ_ s' hq=>jk (jk hq)) λ_ _ e=>e);show wpAny (model X.prog X.w) X.A (assign (.Name y py) X.env (.ref acc)) _ X.xe s6;refine rH (QS (v:=.ref acc) back hN hiN hy rfl (λs7 I7 ⟨a7,sb7,e7⟩=>?_) hf);have nC:C≠a7:=by
  rcases e7 with e7 | e7
  ·rw[e7]; exact fpC.2.1
  ·exact kC (fpC.2.2.2.2.1 _ _ e7)
 refine⟨m6,hn6.sameBut sb7 nC,λh8 hs8=>⟨_,H5,?_,qn⟩⟩;exact I7.En (t':=s7.toks) (λb o hb q=>(hs8.2 b hb).trans q) fpC.1 fpC.2.1 fpC.2.2.2.1 fpC.2.2.2.2.1 fpC.2.2.2.2.2
theorem Iq {i:Nat} {y:Str} {py spos:Pos} (hN:X.N.Nodup) (hiN:X.N[i]?=some y) (hy:Jj X.env.scope y)
  (hc:X.Ci=true) (hi:PI X tg iter wi) (S:Gs X scope cl Nc cap)
  (hg:∀C fp pins s H,PG (Cb X scope cl C Nc fp pins s H) tg g) (he:∀C fp pins s H,PE (Cb X scope cl C Nc fp pins s H) elt te)
  (hsw:swapsWith (.ListComp elt [⟨tg,iter,[],0⟩] scope pos) (some (.Name y py)) spos.line X.env=pure true:=by rfl) (hs:∀z,foldedSetIterable iter X.env z=pure z:=by intro _; rfl)
  (hf:X.fn y=true\/X.env.scope.names.lookup y=some .local:=by first | exact .inl rfl | exact .inr rfl | assumption) :
  PS X (.Assign [.Name y py] (.ListComp elt [⟨tg,iter,[],0⟩] scope pos) spos) (JX (MC Nc.length cap wi g te) (BU i)) :=
 QI ▸ XD (ifs:=[]) hN hiN hy hc hi S hg (λ_ _ _ _ _=>Sd) he hsw hs hf
end
section
variable {X:Cx}
def BY(i:Int):Prop:=i.natAbs<2 ^ 8000
theorem SQ{i:Int}(h:BY i):i.natAbs.log2<8000:=by
 by_cases z:i.natAbs=0
 ·rw[z]; decide
 ·exact(Nat.log2_lt z).mpr h
theorem RB{i:Int}(h:BY i):Builtin.Int.intBits i<=8001:=by
 have:=SQ h
 unfold Builtin.Int.intBits;split <;> omega
def Kh(i j:Int):Prop:=BY i/\BY j
theorem DG:Bo X (binaryOp .Mult) (rI Kh λi j=>.int (i*j)):=Ii λ_ _ _ _ _ _ _ hc q=>mul_int q (IntMulOk.of_bits (js (RB hc.1) (by decide)) (js (RB hc.2) (by decide)))
def IP(_ j:Int):Prop:=j≠0/\BY j
theorem Ff:Bo X (binaryOp .FloorDiv) (rI IP λi j=>.int (i.fdiv j)):=Ii λ_ _ _ _ _ _ _ hc q=>floordiv_int hc.1 q (.inl (PyProof.noPylong_of_log2 (by have:=SQ hc.2; omega)))
def K3(lo step:Int)(n:Nat):It:=⟨λi _=>i<n,λi H x H'=>H'=H/\x=.int (lo+i*step),λi _=>n<=i⟩
theorem X3{P:Program}{w:World}{K:PySem.W.Frag}{tg:PySem.Expr}(it:Addr)(lo step:Int)(n:Nat):Hl P w K tg (K3 lo step n) [it] it (λi h=>IsRangeIter h it (lo+(i:Nat)*step) ((n:Int)-(i:Nat)) step) where
 mem:=by simp
 obj:=λi h st b hb=>by
  obtain rfl:b=it:=by simpa using hb
  exact⟨_,st,λv z=>by
   have z':Data.fields _=Data.cell v:=z;cases z'⟩
 keep:=λi h h' st k=>k it (by simp) _ st
 item:=by
  intro X hP hw hK hc i pins s σ H E I hf st hg;subst hP hw hK;obtain⟨f0,f1,f2,f3,f4,f5⟩:=hf it (by simp);have W:=Walks.range (prog:=X.prog) (w:=X.w) (I.ok.hd hc) it lo step n;refine W.item i s _ _ hg st λv h' tk hv st' kk=>?_
  obtain⟨t,rfl⟩:=hv;have I1:AK X pins σ H { s with heap:=h',toks:=tk }:=I.En (λb o hb e=>kk b o (by simpa using hb) e) f0 f1 f3 f4 f5;exact⟨_,rfl,MH (s:={ s with heap:=h',toks:=tk }) (n:="range_iterator") st' rfl rfl (by decide) ⟨.int (lo+i*step),H,I1,⟨t,rfl⟩,⟨rfl,rfl⟩,st',λb hb=>(hf b hb).1⟩⟩
 done:=by
  intro X hP hw hK hc i pins s σ H E I hf st hg;subst hP hw hK;obtain⟨f0,f1,f2,f3,f4,f5⟩:=hf it (by simp);exact p9 (I.ok.hd hc) st (by have:n<=i:=hg; omega) λh' eb=>⟨rfl,I.En (t':=s.toks) (λb o hb e=>eb b o hb e) f0 f1 f3 f4 f5⟩
 HY:=λ_ _ _ _ _ st h=>p7 st h
theorem Yq {lo step:Int} {n:Nat} {g:TG} {tb:TS} {D:DQ} {σ:St} {H:Hp} (Pv:Nat->St->Hp->Prop) (h0:Pv 0 σ H)
  (hs:∀i σ H,i<n->Pv i σ H->g (.int (lo+i*step)) σ H λσ2 H2=>tb { D with nx:=Pv (i+1),ct:=Pv (i+1),bk:=D.nx } σ2 H2) (hd:∀σ H,Pv n σ H->D.nx σ H) :
  ∃W:Nat->Nat->St->Hp->Prop,(∃m,W 0 m σ H)/\∀i m σ H,W i m σ H →
   ((K3 lo step n).stop i H/\D.nx σ H)\/((K3 lo step n).go i H/\∃N:St->Hp->Prop,(∀σ' H',N σ' H'->∃m',m' < m/\W (i+1) m' σ' H')/\∀x H',(K3 lo step n).ED i H x H'->g x σ H' λσ2 H2=>tb { D with nx:=N,ct:=N,bk:=D.nx } σ2 H2):=by
 refine⟨λi m σ H=>m=n-i/\i<=n/\Pv i σ H,⟨n,by simp,jS _,h0⟩,?_⟩;rintro i m σ H ⟨rfl,hi,p⟩;rcases jv i n with hlt | hge
 ·refine .inr ⟨hlt,Pv (i+1),λσ' H' p'=>⟨n-(i+1),by omega,rfl,hlt,p'⟩,λx H' y=>?_⟩;obtain⟨e,y⟩:=y;subst e y;exact hs i σ _ hlt p
 ·obtain rfl:i=n:=by omega
  exact .inl ⟨i4 _,hd σ H p⟩
def V1(K:PySem.W.Frag)(c:V)(cv:Value):List V->Hp->VK->Prop:=λxs H Q=>∃x t b,xs=[x,c]/\CV K H x t/\PySem.W.kitOne K t cv=some b/\Q (.bl b) H
theorem FA{c:V}{cv:Value}(hc:∀u,Aw c u->u=cv):DJ X (.builtin "isinstance") (V1 X.K c cv):=by
 intro pins s σ H xs us Q I r h;obtain⟨x,t,b,rfl,ty,e,q⟩:=h;obtain⟨u,w',rfl,r1,r2⟩:=Kk r;cases hc w' r2;exact Xz I r1 ty e λtk=>⟨.bl b,H,I.Dk _,rfl,q⟩
theorem E8:bootBuiltins "isinstance" = some (.builtin "isinstance"):=by decide +kernel
theorem cL:bootBuiltins "int" = some (.type "int"):=by decide +kernel
theorem ba:bootBuiltins "bool" = some (.type "bool"):=by decide +kernel
theorem B6:bootBuiltins "tuple" = some (.type "tuple"):=by decide +kernel
theorem Lk:bootBuiltins "all" = some (.builtin "all"):=by decide +kernel
theorem BO:bootBuiltins "len" = some (.builtin "len"):=by decide +kernel
theorem OK:bootBuiltins "abs" = some (.builtin "abs"):=by decide +kernel
theorem TQ:bootBuiltins "max" = some (.builtin "max"):=by decide +kernel
theorem OH:bootBuiltins "min" = some (.builtin "min"):=by decide +kernel
theorem Fd(K:PySem.W.Frag)(t:Value):PySem.W.kitOne K t t=some true:=by
 unfold PySem.W.kitOne;rw[i5 (beq_self_eq_true t)]
theorem W0(K:PySem.W.Frag):PySem.W.kitOne K (.type "int") (.type "bool")=some false:=by first | rfl | decide +kernel | kernel_rfl
theorem S8:∀{bs:List Bool} {us:List Value},Ah (bs.map V.bl) us->us=bs.map Value.bool
 | [],_,.nil=>rfl
 | b :: r,_,.cons (b:=u) h t=>by
  have h':u=Value.bool b:=h;rw[h',S8 t];rfl
def gW(K:PySem.W.Frag):List V->Hp->VK->Prop:=λxs H Q=>∃(p:Addr) (bs:List Bool),xs=[.ref p]/\AQ K H p (bs.map V.bl)/\Q (.bl (bs.all id)) H
theorem Yb(bs:List Bool):((List.range bs.length).all λi=>(bs[i]?).getD true)=bs.all id:=by
 rw[mD,pC,pC];constructor
 ·intro h b hb;obtain⟨i,hi,rfl⟩:=List.mem_iff_getElem.mp hb
  have:=h i (jw.mpr hi)
  rw[ij hi] at this;exact this
 ·intro h i hi;have hl:=jw.mp hi;rw[ij hl];exact h _ (ka hl)
theorem LI(hc:X.Ci=true):DJ X (.builtin "all") (gW X.K):=by
 intro pins s σ H xs us Q I r h;obtain⟨p,bs,rfl,hq,q⟩:=h;obtain⟨u,rfl,r1⟩:=Er r;cases r1;obtain⟨its,rv,pl,hz⟩:=I.list hq;have e:=S8 rv;subst e;have hlt:p<s.heap.objs.size:=by
  obtain⟨o,_,ho,_⟩:=pl;exact jj ho
 refine call_all_walk (lI pl.isList ?_);refine⟨s.heap.objs.size,_,_,_,_,_,λi=>(bs[i]?).getD true,rfl,Walks.list (show X.A.in1.handled=none from I.ok.hd hc) _ p (jM hlt) (bs.map Value.bool).toArray,⟨⟨_,jo _ rfl,rfl,rfl⟩,pl.isList.push _⟩,λi v s' Q' E' hP hQ'=>?_,λh' tk k=>?_⟩
 ·have hP:(bs.map Value.bool).toArray[i]?=some v:=hP;have hQ':Q' ((bs[i]?).getD true) s':=hQ';rw[lu,iy] at hP;cases e:bs[i]? with
  | none=>rw[e] at hP; cases hP
  | some b =>
   rw[e] at hP;obtain rfl:Value.bool b=v:=je hP;have hQ2:Q' b s':=by
    rw[e] at hQ';exact hQ'
   exact jk hQ2
 ·refine⟨.bl (bs.all id),H,I.Bx λb o eb=>?_,?_,q⟩
  ·exact k b o (λz=>by
    have:b=s.heap.objs.size:=by simpa using z
    exact absurd (jj eb) (by rw[this]; exact kW _)) (i3 _ eb)
  ·show Value.bool _=Value.bool _;rw[ja,ig,Yb]
end
section
variable {prog:Program} {w:World} {A:Around} {E:Value->Shared->Prop} {s:Shared}
theorem QM {c t:Addr} {k:Nat} {vs:Array Value} {y:Value} {Q:Value->Shared->Prop} (hc:s.heap.IsTupleIter c t k) (ht:s.heap.IsTuple t vs) (hy:vs[k]?=some y)
  (hQ:∀h',h'.IsTupleIter c t (k+1)->Heap.SameBut c s.heap h'->Q y { s with heap:=h' }):wpAny (model prog w) A (Builtin.SmallTypes.nextOf (.ref c)) Q E s:=by
 obtain⟨ob,e1,e2,e3⟩:=id hc;obtain⟨ot,f1,_,nt,f2⟩:=ht;unfold Builtin.SmallTypes.nextOf;refine iu (kZ (name:=Str.ofString "__next__") hc.typeIs lq (lL lq hc.typeIs og ?_ (nW _)));show wpAny _ _ (field (.ref c) 0 >>= _) _ _ s;refine iu (kI e1 e3 (x:=.ref t) rfl ?_);show wpAny _ _ (if (Value.ref t == Value.none)=true then _ else _) _ _ _;rw[iz (show ¬((Value.ref t == Value.none)=true) by exact jr)];show wpAny _ _ (field (.ref c) 1 >>= _) _ _ s;refine iu (kI e1 e3 (x:=.int k 0) rfl ?_);show wpAny _ _ (seqItems? (.ref t) >>= _) _ _ _;refine iu (lM f1 f2 ?_);simp only[kd,hy];refine iu (wpAny_setField e1 e3 (by simp) (jk ⟨y,rfl,jk (hQ _ ?_ (qy ..))⟩));exact⟨_,oo _ e1 (Obj.isFreed_of_fields (qS e3 _)),(Obj.cls_mapFields ..).trans e2,by rw[qS e3]; simp[rawInt]⟩
theorem Qw {c t:Addr} {k:Nat} {vs:Array Value} {Q:Value->Shared->Prop} (hh:A.handled=none) (hc:s.heap.IsTupleIter c t k) (ht:s.heap.IsTuple t vs) (hy:vs[k]?=none)
  (hE:∀h' x,Heap.ExtBut c s.heap h'->(∃o,h'.get? x=some o/\o.cls=.type "StopIteration")->E (.ref x) { s with heap:=h' }):wpAny (model prog w) A (Builtin.SmallTypes.nextOf (.ref c)) Q E s:=by
 obtain⟨ob,e1,e2,e3⟩:=id hc;obtain⟨ot,f1,_,nt,f2⟩:=ht;unfold Builtin.SmallTypes.nextOf;refine iu (kZ (name:=Str.ofString "__next__") hc.typeIs lq (lL lq hc.typeIs og ?_ (nW _)));show wpAny _ _ (field (.ref c) 0 >>= _) _ _ s;refine iu (kI e1 e3 (x:=.ref t) rfl ?_);show wpAny _ _ (if (Value.ref t == Value.none)=true then _ else _) _ _ _;rw[iz (show ¬((Value.ref t == Value.none)=true) by exact jr)];show wpAny _ _ (field (.ref c) 1 >>= _) _ _ s;refine iu (kI e1 e3 (x:=.int k 0) rfl ?_);show wpAny _ _ (seqItems? (.ref t) >>= _) _ _ _;refine iu (lM f1 f2 ?_);simp only[kd,hy];refine iu (pB (iu (wpAny_setField e1 e3 (by simp) ?_)));show wpAny _ _ (newExc (.type "StopIteration") [] >>= _) _ _ (_:Shared);refine iu ?_;simp only[newExc,newTuple];refine iu (lG ?_ (by size_fits)); refine iu (m:=firstArgMember _ _) (wpAny_of_eq (a:=Value.none) (by first | rfl | (simp only[firstArgMember]; rfl)) ?_);refine lG ?_ (by size_fits); simp only[raiseNew];refine iu (wpAny_handled ?_); first | rw[show A.in1.handled=none from hh] | rw[hh]
 refine iu (jk (wpAny_throw (hE _ _ (((qy ..).extBut.push _).push _) ⟨_,jo _ rfl,rfl⟩)))
theorem TX(hh:A.handled=none)(c t:Addr)(hne:t≠c)(vs:Array Value):
  Draws prog w A c [c,t] vs.size (λi v=>vs[i]?=some v) (λi h=>h.IsTupleIter c t i/\h.IsTuple t vs) where
 live:=λ_ _ st=>let ⟨o,ho,_⟩:=st.1; ⟨o,ho⟩
 frame:=λ_ _ _ st hk=>⟨let ⟨o,ho,r⟩:=st.1; ⟨o,hk c (by simp) o ho,r⟩,let ⟨o,ho,r⟩:=st.2; ⟨o,hk t (by simp) o ho,r⟩⟩
 item:=λi s' Q' E' hi st hQ=>QM st.1 st.2 (y:=vs[i]) (by simp[hi]) λh' k1 k2=>hQ _ h' s'.toks (by simp[hi]) ⟨k1,st.2.extBut k2.extBut hne⟩ k2
 done:=λs' Q' E' st hE=>Qw hh st.1 st.2 (by simp) hE
set_option maxHeartbeats 1000000 in
theorem W3(t:Addr)(vs:Array Value)(n:Nat)(dct:Option Addr)(sl:Array (Option Value)):
  Meets (Builtin.«enumerate.__new__» ⟨[.type "enumerate",.ref t],[]⟩) (λ_ R s=>s.heap.get? t=some { cls:=.type "tuple",dict:=dct,data:=.seq vs n,slots:=sl } /\
   R (.ok (.ret (.ref (s.heap.push { cls:=.type "tuple_iterator",data:=.fields #[.ref t,.int 0 0] }).objs.size)))
    { s with heap:=(s.heap.push { cls:=.type "tuple_iterator",data:=.fields #[.ref t,.int 0 0] }).push { cls:=.type "enumerate",data:=.fields #[.none,.bool false,.ref s.heap.objs.size,rawInt 0,.none,.none] } }) :=
 .of_wp λprog w A R s h=>by
  obtain⟨hp,g,d,tk,os⟩:=s; obtain⟨ht,h⟩:=h;have hsub:=sub_enumerate;have hT:Heap.IsTuple (Shared.heap ⟨hp,g,d,tk,os⟩) t vs:=⟨_,ht,rfl,n,rfl⟩
  wp_walk using l7 ht
  refine wpAny_stack_any λst=>jk ?_
  split
  ·rename_i c _ _ _ _ _
   cases (c == Value.type "enumerate") <;> (wp_walk using l7 ht,kK hT; exact⟨_,rfl,h⟩)
  ·wp_walk using l7 ht,kK hT; exact⟨_,rfl,h⟩
theorem Xf {t:Addr} {vs:Array Value} {Q:Value->Shared->Prop} (hT:s.heap.IsTuple t vs)
  (h:∀h',IsEnum h' (s.heap.objs.size+1) s.heap.objs.size 0 .none->h'.IsTupleIter s.heap.objs.size t 0->(∀b o,s.heap.get? b=some o->h'.get? b=some o)->Q (.ref (s.heap.objs.size+1)) { s with heap:=h' }) :
  wpAny (model prog w) A (call (.type "enumerate") [.ref t]) Q E s:=by
 obtain⟨⟨c,dct,dt,sl⟩,ht,hc,n,hd⟩:=hT;obtain rfl:c=.type "tuple":=hc;obtain rfl:dt=.seq vs n:=hd;refine callType_new PySem.F.called_enumerate (by decide) (PySem.F.typeCall_enumerate_1 _) (PySem.F.newCall_enumerate_1 _) (λobj=>PySem.F.args_object_init_2 obj _) PySem.F.entry_enumerate_new (W3 t vs n dct sl) ⟨ht,?_⟩;have z:(s.heap.push { cls:=.type "tuple_iterator",data:=.fields #[.ref t,.int 0 0] }).objs.size=s.heap.objs.size+1:=kX ..;show _/\_;rw[z];have he:IsEnum ((s.heap.push { cls:=.type "tuple_iterator",data:=.fields #[.ref t,.int 0 0] }).push { cls:=.type "enumerate",data:=.fields #[.none,.bool false,.ref s.heap.objs.size,rawInt 0,.none,.none] }) (s.heap.objs.size+1) s.heap.objs.size 0 .none:=by
  have q:=jo (s.heap.push { cls:=.type "tuple_iterator",data:=.fields #[.ref t,.int 0 0] }) (o:={ cls:=.type "enumerate",data:=.fields #[.none,.bool false,.ref s.heap.objs.size,rawInt 0,.none,.none] }) rfl;rw[z] at q;exact q
 exact⟨⟨_,he,rfl⟩,h _ he ⟨_,i3 _ (jo _ rfl),rfl,rfl⟩ λb o q=>i3 _ (i3 _ q)⟩
end
section
variable {X:Cx}
def K6(a : Addr): It :=
  ⟨λi H => ∃xs x, H a = some (.AG xs) /\ xs[i]? = some x,
   λi H v H' => ∃p x, v = .ref p /\ H p = none /\ H' = AJ H p (.AG [.int i, x]) /\ ∀xs, H a = some (.AG xs) → xs[i]? = some x,
   λi H => ∃xs, H a = some (.AG xs) /\ xs.length = i⟩
theorem X4{P:Program}{w:World}{K:PySem.W.Frag}{es:List PySem.Expr}{kk:Nat}{pos:Pos}{a e it:Addr}(hei:e≠it):
  Hl P w K (.Tuple es kk pos) (K6 a) [e,it] e (λi h=>(∃old,IsEnum h e it ((i:Nat):Int) old)/\h.IsTupleIter it a i) where
 mem:=by simp
 obj:=λi h st c hc=>by
  obtain⟨⟨old,h1⟩,o2,h2,_,d2⟩:=st;simp only[jh,jP,kN] at hc;rcases hc with rfl | rfl
  ·exact⟨_,h1,λv z=>by have z':Data.fields _=Data.cell v:=z; cases z'⟩
  ·exact⟨_,h2,λv z=>by rw[d2] at z; cases z⟩
 keep:=λi h h' st k=>by
  obtain⟨⟨old,h1⟩,o2,h2,r⟩:=st;exact⟨⟨old,k e (by simp) _ h1⟩,o2,k it (by simp) _ h2,r⟩
 item:=by
  intro X hP hw hK hc i pins s σ H E I hf st hg;subst hP hw hK;obtain⟨xs,x,qa,hx⟩:=hg;obtain⟨its,rv,pa,_⟩:=I.tuple (AI.of (K:=X.K) qa);obtain⟨ux,hux,rx⟩:=rv.get hx;obtain⟨⟨old,h1⟩,h2⟩:=st;have nea:e≠a:=λz=>by
   have:=(hf e (by simp)).1
   rw[z,qa] at this;cases this
  have nia:a≠it:=λz=>by
   have:=(hf it (by simp)).1
   rw[<-z,qa] at this;cases this
  have hlt:i<its.toArray.size:=by
   rw[ja];exact(ip.mp hux).1
  have D:Draws X.prog X.w X.A.in1 it [it,a] its.toArray.size (λi v=>its.toArray[i]?=some v) (λi h=>h.IsTupleIter it a i/\h.IsTuple a its.toArray):=TX (show X.A.in1.handled=none from I.ok.hd hc) it a nia its.toArray;refine pO D h1 ⟨h2,pa⟩ hlt hei (by simp[hei,nea]) λy h' tk hy a1 a2 a3 a4 k=>?_
  have hyx:y=ux:=by
   have q1:its.toArray[i]?=some y:=hy;rw[lu,hux] at q1;exact(je q1).symm
  subst hyx;refine⟨_,rfl,o6 a1 λh'' b1 sb=>?_⟩;have sb:Heap.SameBut e h' h'':=sb;have hse:s.heap.objs.size≠e:=lP (jj h1);have hsi:s.heap.objs.size≠it:=by
   obtain⟨o,g,_⟩:=id h2;exact lP (jj g)
  have hn:H s.heap.objs.size=none:=I.hok.Br (i4 _);have kk':∀c o,c∉[e,it]->s.heap.get? c=some o->h''.get? c=some o:=λc o hc q =>
   (sb.2 c λz=>hc (by simp[z])).trans (k c o (λz=>hc (by simp[z])) (λz=>hc (by simp[z])) q)
  have tO:h''.get? s.heap.objs.size=some { cls:=.type "tuple",data:=.seq #[.int i tk,y] }:=(sb.2 _ hse).trans a3;have nt:∀c u,H c=some u->c∉[e,it]:=λc u q hc=>by
   have:=(hf c hc).1
   rw[q] at this;cases this
  have tupOk:Bk X.prog X.w (AJ H s.heap.objs.size (.AG [.int i,x])) h'' s.heap.objs.size (.AG [.int i,x]) :=
   ⟨by exact CA,[.int i tk,y],.cons ⟨tk,rfl⟩ (.cons rx .nil),⟨_,tO,rfl,_,rfl⟩,_,tO,rfl⟩
  have I1:AK X pins σ (AJ H s.heap.objs.size (.AG [.int i,x])) { s with heap:=h'',toks:=tk+1 }:=by
   refine I.step (g':=s.gens) (d':=s.drawn) (t':=tk+1) (ch:=[e,it]) (λc hc=>⟨(hf c hc).2.2.2.1,(hf c hc).2.1,(hf c hc).2.2.2.2.1,(hf c hc).2.2.2.2.2⟩) (λc o _ _ hc q _=>kk' c o hc q) (λc o _ _ hc q _=>⟨o.slots,kk' c o hc q⟩)
    (λc o _ q n=>by rw[Ad (jM (jj q))]; exact n) (λc o hc q=>⟨o,kk' c o hc q⟩) (λc vs q=>by rw[Ad (BW q hn)]; exact q) (λc o vs q=>by rw[Ad (BW q hn)]; exact q)
    (λc ps q=>⟨#[],by rw[Ad (BW q hn),q]; simp⟩) (λm hm=>?_) (λc o q=>?_) I.bare
   ·obtain⟨o,es',ep,ho,r⟩:=hm;exact⟨o,es',ep,kk' _ o (λq=>(hf _ q).2.1 rfl) ho,r⟩
   ·by_cases hcs:c=s.heap.objs.size
    ·subst hcs;rw[AU] at q;cases q;exact tupOk
    ·rw[Ad hcs] at q;refine(I.hok c o q).GA (λd v hd z=>kk' d v ?_ z) (λd z=>by rw[Ad (BW z hn)]; exact z) λd vs z=>by rw[Ad (BW z hn)]; exact z
     rcases hd with hd | hd
     ·rw[hd]; exact nt c o q
     ·exact nt d _ hd
  have g2:h''.IsTupleIter it a (i+1):=by
   obtain⟨⟨o,g,r⟩,_⟩:=a2;exact⟨o,(sb.2 _ (kC hei)).trans g,r⟩
  have g1:IsEnum h'' e it (((i+1:Nat)):Int) y:=by
   have:((i+1:Nat):Int)=(i:Int)+1:=by omega
   rw[this];exact b1
  exact⟨.ref s.heap.objs.size,_,I1,rfl,⟨_,x,rfl,hn,rfl,λxs' q=>by rw[qa] at q; cases q; exact hx⟩,⟨⟨_,g1⟩,g2⟩,λc hc=>by
   have:c≠s.heap.objs.size:=by
    simp only[jh,jP,kN] at hc;rcases hc with rfl | rfl
    ·exact kC hse
    ·exact kC hsi
   rw[Ad this];exact(hf c hc).1⟩
 done:=by
  intro X hP hw hK hc i pins s σ H E I hf st hg;subst hP hw hK;obtain⟨xs,qa,hl⟩:=hg;obtain⟨its,rv,pa,_⟩:=I.tuple (AI.of (K:=X.K) qa);obtain⟨⟨old,h1⟩,h2⟩:=st;have nia:a≠it:=λz=>by
   have:=(hf it (by simp)).1
   rw[<-z,qa] at this;cases this
  have D:Draws X.prog X.w X.A.in1 it [it,a] its.toArray.size (λi v=>its.toArray[i]?=some v) (λi h=>h.IsTupleIter it a i/\h.IsTuple a its.toArray):=TX (show X.A.in1.handled=none from I.ok.hd hc) it a nia its.toArray;have hi:its.toArray.size=i:=by
   rw[ja,<-rv.length];exact hl
  obtain⟨f0,f1,f2,f3,f4,f5⟩:=hf it (by simp);refine p8 D h1 (by rw[hi]; exact⟨h2,pa⟩) λh' k=>⟨rfl,I.En (t':=s.toks) (λb o hb q=>k b o hb q) f0 f1 f3 f4 f5⟩
 HY:=λ_ _ _ _ _ st h=>by
  obtain⟨⟨old,h1⟩,_⟩:=st;exact nY h1 h
def VB(ta:TA):TI:=λσ H R=>ta σ H λvs H1=>∃a xs,vs=[.ref a]/\H1 a=some (.AG xs)/\R (K6 a) H1
theorem JE{es:List PySem.Expr}{kk:Nat}{tpos:Pos}{a:PySem.Expr}{ta:TA}{p pos:Pos}(hg:Gl X "enumerate")(hm:X.mg "enumerate" = none)(ha:PA X [a] ta)(hs:starEach [a] X.env=[(false,eval a X.env)]:=by rfl):
  PI X (.Tuple es kk tpos) (.Call (.Name "enumerate" p) [a] [] pos) (VB ta):=by
 intro pins s σ H R I h;refine Call_ (FI I hg hm oS (j5 (Af (ha pos pins s σ H _ I h) λus s1 ⟨vs,H1,I1,r1,q1⟩=>?_) hs rfl));obtain⟨la,xs,e,qa,q⟩:=q1;subst e;obtain⟨u1,rfl,ra⟩:=Er r1;cases ra;obtain⟨its,rv,pa,_⟩:=I1.tuple (AI.of (K:=X.K) qa);refine Xf pa λh' z1 z2 zk=>nY z1 ?_
 have I2:AK X pins σ H1 { s1 with heap:=h' }:=I1.Bx (t':=s1.toks) zk;refine⟨s1.heap.objs.size+1,_,_,_,H1,rfl,I2,X4 (rZ _),⟨⟨_,z1⟩,z2⟩,λc hc=>?_,q⟩;have hge:s1.heap.objs.size<=c:=by
  simp only[jh,jP,kN] at hc;rcases hc with rfl | rfl <;> omega
 exact I1.HU (H':=H1) hge (I1.hok.Br hge)
theorem JB {a:Addr} {xs:List V} {g:TG} {tb:TS} {D:DQ} {σ:St} {H:Hp} (Pv:Nat->St->Hp->Prop) (h0:Pv 0 σ H) (hl:∀i σ H,i<=xs.length->Pv i σ H->H a=some (.AG xs))
  (hs:∀i x σ H p,xs[i]?=some x->Pv i σ H->H p=none->g (.ref p) σ (AJ H p (.AG [.int i,x])) λσ2 H2=>tb { D with nx:=Pv (i+1),ct:=Pv (i+1),bk:=D.nx } σ2 H2) (hd:∀σ H,Pv xs.length σ H->D.nx σ H) :
  ∃W:Nat->Nat->St->Hp->Prop,(∃m,W 0 m σ H)/\∀i m σ H,W i m σ H →
   ((K6 a).stop i H/\D.nx σ H)\/((K6 a).go i H/\∃N:St->Hp->Prop,(∀σ' H',N σ' H'->∃m',m' < m/\W (i+1) m' σ' H')/\∀x H',(K6 a).ED i H x H'->g x σ H' λσ2 H2=>tb { D with nx:=N,ct:=N,bk:=D.nx } σ2 H2):=by
 refine⟨λi m σ H=>m=xs.length-i/\i<=xs.length/\Pv i σ H,⟨xs.length,by simp,jS _,h0⟩,?_⟩;rintro i m σ H ⟨rfl,hi,p⟩;have qa:=hl i σ H hi p;rcases jv i xs.length with hlt | hge
 ·refine .inr ⟨⟨xs,xs[i],qa,by simp[hlt]⟩,Pv (i+1),λσ' H' p'=>⟨xs.length-(i+1),by omega,rfl,hlt,p'⟩,λv H' yl=>?_⟩;obtain⟨pa,x,rfl,hp,rfl,hx⟩:=yl;exact hs i x σ H pa (hx xs qa) p hp
 ·obtain rfl:i=xs.length:=by omega
  exact .inl ⟨⟨xs,qa,rfl⟩,hd σ H p⟩
def bZ:V->List V->Hp->VK->Prop:=λx vs H Q=>∃l xs k y,x=.ref l/\vs=[.int k,y]/\H l=some (.AF xs)/\0<=k/\k<=xs.length/\xs.length<1000000/\Q .BD (AJ H l (.AF (xs.take k.toNat++y :: xs.drop k.toNat)))
theorem Mv:Ja X "list.insert" bZ:=by
 intro pins s σ H x vs v us Q I rx rv h;obtain⟨l,xs,k,y,rfl,rfl,hH,k0,k1,hz,q⟩:=h;cases rx;obtain⟨u1,u2,rfl,r1,r2⟩:=Kk rv;obtain⟨t,rfl⟩:=r1;obtain⟨z,its,n,r,hl,e⟩:=I.HV hH;have hzs:its.length<=sizeLine:=by rw[<-hl]; exact z
 have hfit:¬(!Builtin.List.listFitsIndex k)=true:=by
  unfold Builtin.List.listFitsIndex;simp only[Bool.not_eq_true,Bool.not_eq_false',kL,lY];omega
 refine nQ mf ⟨_,e,rfl⟩ PySem.F.entry_list_insert (PySem.F.args_list_insert_3 _ _ _) (AutoSeq1.list_insert_list_int_val_1 l its.toArray n k t u2 hfit (by rw[ja]; exact hzs)) ⟨e,?_⟩;refine⟨.BD,_,I.Pd (its':=its.take k.toNat++u2 :: its.drop k.toNat) hH e ?_ ((r.take _).append (.cons r2 (r.drop _))) ?_,rfl,q⟩
 ·have hk:¬k<0:=by omega
  have hm:min k.toNat its.toArray.size=k.toNat:=by rw[ja]; omega
  simp only[iz hk,hm];apply Array.toList_inj.mp;simp;exact jf (by simp)
 ·rw[jc,jD,jT,jO];rw[kn] at *;omega
theorem X7(hc:X.Ci=true):DJ X (.builtin "min") (λxs H Q=>∃(p:Addr) (ns:List Int),xs=[.ref p]/\H p=some (.AG (ns.map V.int))/\0<ns.length/\∀m,m∈ns->(∀a∈ns,m<=a)->Q (.int m) H):=by
 intro pins s σ H xs us Q I r h;obtain⟨p,ns,rfl,hp,hne,q⟩:=h;obtain⟨u,rfl,r1⟩:=Er r;cases r1;obtain⟨its,rv,pa,_⟩:=I.tuple (AI.of (K:=X.K) hp);have hlen:its.length=ns.length:=by rw[<-rv.length,ig]
 have hlt:p<s.heap.objs.size:=by
  obtain⟨o,ho,_⟩:=id pa;exact jj ho
 have num:∀i v,its.toArray[i]?=some v->∃t,v=.int (ns.getD i 0) t/\i<ns.length:=λi v hv=>by
  rw[lu] at hv;have hi:i<its.length:=(ip.mp hv).1;have hi2:i<ns.length:=by omega
  have hx:(ns.map V.int)[i]?=some (.int ns[i]):=by rw[iy,ij hi2]; rfl
  obtain⟨u,hu,ru⟩:=rv.get hx;rw[hu] at hv;obtain rfl:u=v:=je hv;obtain⟨t,rfl⟩:=ru;exact⟨t,by rw[ir,ij hi2]; rfl,hi2⟩
 refine call_min_walk (kK pa ?_);refine⟨s.heap.objs.size,_,_,_,_,_,λi j=>decide (ns.getD i 0<ns.getD j 0),rfl,Walks.tuple (show X.A.in1.handled=none from I.ok.hd hc) _ p (jM hlt) its.toArray,⟨⟨_,jo _ rfl,rfl,rfl⟩,pa.push _⟩,λb hb=>?_,by rw[ja]; omega,λi j vi vj s' Q' E' hi hj hQ'=>?_,λv h' tk hv k=>?_⟩
 ·simp only[jh,jP,kN] at hb;rw[kX];rcases hb with rfl | rfl
  ·exact pF _
  ·exact lX hlt
 ·obtain⟨t1,rfl,_⟩:=num i vi hi;obtain⟨t2,rfl,_⟩:=num j vj hj;exact lt_int hQ'
 ·obtain⟨t,rfl,hb⟩:=num _ v hv;obtain⟨h1,h2⟩:=sG (λi=>ns.getD i 0) (its.toArray.size-1);refine⟨.int _,H,I.Bx λb o eb=>?_,⟨t,rfl⟩,q _ (getD_mem hb) λa ha=>?_⟩
  ·exact k b o (λz=>by
    have:b=s.heap.objs.size:=by simpa using z
    exact absurd (jj eb) (by rw[this]; exact kW _)) (i3 _ eb)
  ·obtain⟨j,hj,rfl⟩:=mem_getD ha;exact h2 j (by rw[ja]; omega)
end
section
variable {X:Cx}
def Hk(a : Addr): It :=
  ⟨λi H => ∃xs x, H a = some (.AF xs) /\ xs[i]? = some x,
   λi H v H' => ∃p x, v = .ref p /\ H p = none /\ H' = AJ H p (.AG [.int i, x]) /\ ∀xs, H a = some (.AF xs) → xs[i]? = some x,
   λi H => ∃xs, H a = some (.AF xs) /\ xs.length = i⟩
theorem XE{P:Program}{w:World}{K:PySem.W.Frag}{es:List PySem.Expr}{kk:Nat}{pos:Pos}{a e it:Addr}(hei:e≠it):
  Hl P w K (.Tuple es kk pos) (Hk a) [e,it] e (λi h=>(∃old,IsEnum h e it ((i:Nat):Int) old)/\h.IsListIter it a i) where
 mem:=by simp
 obj:=λi h st c hc=>by
  obtain⟨⟨old,h1⟩,o2,h2,_,d2⟩:=st;simp only[jh,jP,kN] at hc;rcases hc with rfl | rfl
  ·exact⟨_,h1,λv z=>by have z':Data.fields _=Data.cell v:=z; cases z'⟩
  ·exact⟨_,h2,λv z=>by rw[d2] at z; cases z⟩
 keep:=λi h h' st k=>by
  obtain⟨⟨old,h1⟩,o2,h2,r⟩:=st;exact⟨⟨old,k e (by simp) _ h1⟩,o2,k it (by simp) _ h2,r⟩
 item:=by
  intro X hP hw hK hc i pins s σ H E I hf st hg;subst hP hw hK;obtain⟨xs,x,qa,hx⟩:=hg;obtain⟨its,rv,pa,_⟩:=I.list (AQ.of (K:=X.K) qa);obtain⟨ux,hux,rx⟩:=rv.get hx;obtain⟨⟨old,h1⟩,h2⟩:=st;have nea:e≠a:=λz=>by
   have:=(hf e (by simp)).1
   rw[z,qa] at this;cases this
  have nia:a≠it:=λz=>by
   have:=(hf it (by simp)).1
   rw[<-z,qa] at this;cases this
  have hlt:i<its.toArray.size:=by
   rw[ja];exact(ip.mp hux).1
  have D:Draws X.prog X.w X.A.in1 it [it,a] its.toArray.size (λi v=>its.toArray[i]?=some v) (λi h=>h.IsListIter it a i/\h.IsList a its.toArray):=Draws.list (show X.A.in1.handled=none from I.ok.hd hc) it a nia its.toArray;refine pO D h1 ⟨h2,pa.isList⟩ hlt hei (by simp[hei,nea]) λy h' tk hy a1 a2 a3 a4 k=>?_
  have hyx:y=ux:=by
   have q1:its.toArray[i]?=some y:=hy;rw[lu,hux] at q1;exact(je q1).symm
  subst hyx;refine⟨_,rfl,o6 a1 λh'' b1 sb=>?_⟩;have sb:Heap.SameBut e h' h'':=sb;have hse:s.heap.objs.size≠e:=lP (jj h1);have hsi:s.heap.objs.size≠it:=by
   obtain⟨o,g,_⟩:=id h2;exact lP (jj g)
  have hn:H s.heap.objs.size=none:=I.hok.Br (i4 _);have kk':∀c o,c∉[e,it]->s.heap.get? c=some o->h''.get? c=some o:=λc o hc q =>
   (sb.2 c λz=>hc (by simp[z])).trans (k c o (λz=>hc (by simp[z])) (λz=>hc (by simp[z])) q)
  have tO:h''.get? s.heap.objs.size=some { cls:=.type "tuple",data:=.seq #[.int i tk,y] }:=(sb.2 _ hse).trans a3;have nt:∀c u,H c=some u->c∉[e,it]:=λc u q hc=>by
   have:=(hf c hc).1
   rw[q] at this;cases this
  have tupOk:Bk X.prog X.w (AJ H s.heap.objs.size (.AG [.int i,x])) h'' s.heap.objs.size (.AG [.int i,x]) :=
   ⟨by exact CA,[.int i tk,y],.cons ⟨tk,rfl⟩ (.cons rx .nil),⟨_,tO,rfl,_,rfl⟩,_,tO,rfl⟩
  have I1:AK X pins σ (AJ H s.heap.objs.size (.AG [.int i,x])) { s with heap:=h'',toks:=tk+1 }:=by
   refine I.step (g':=s.gens) (d':=s.drawn) (t':=tk+1) (ch:=[e,it]) (λc hc=>⟨(hf c hc).2.2.2.1,(hf c hc).2.1,(hf c hc).2.2.2.2.1,(hf c hc).2.2.2.2.2⟩) (λc o _ _ hc q _=>kk' c o hc q) (λc o _ _ hc q _=>⟨o.slots,kk' c o hc q⟩)
    (λc o _ q n=>by rw[Ad (jM (jj q))]; exact n) (λc o hc q=>⟨o,kk' c o hc q⟩) (λc vs q=>by rw[Ad (BW q hn)]; exact q) (λc o vs q=>by rw[Ad (BW q hn)]; exact q)
    (λc ps q=>⟨#[],by rw[Ad (BW q hn),q]; simp⟩) (λm hm=>?_) (λc o q=>?_) I.bare
   ·obtain⟨o,es',ep,ho,r⟩:=hm;exact⟨o,es',ep,kk' _ o (λq=>(hf _ q).2.1 rfl) ho,r⟩
   ·by_cases hcs:c=s.heap.objs.size
    ·subst hcs;rw[AU] at q;cases q;exact tupOk
    ·rw[Ad hcs] at q;refine(I.hok c o q).GA (λd v hd z=>kk' d v ?_ z) (λd z=>by rw[Ad (BW z hn)]; exact z) λd vs z=>by rw[Ad (BW z hn)]; exact z
     rcases hd with hd | hd
     ·rw[hd]; exact nt c o q
     ·exact nt d _ hd
  have g2:h''.IsListIter it a (i+1):=by
   obtain⟨⟨o,g,r⟩,_⟩:=a2;exact⟨o,(sb.2 _ (kC hei)).trans g,r⟩
  have g1:IsEnum h'' e it (((i+1:Nat)):Int) y:=by
   have:((i+1:Nat):Int)=(i:Int)+1:=by omega
   rw[this];exact b1
  exact⟨.ref s.heap.objs.size,_,I1,rfl,⟨_,x,rfl,hn,rfl,λxs' q=>by rw[qa] at q; cases q; exact hx⟩,⟨⟨_,g1⟩,g2⟩,λc hc=>by
   have:c≠s.heap.objs.size:=by
    simp only[jh,jP,kN] at hc;rcases hc with rfl | rfl
    ·exact kC hse
    ·exact kC hsi
   rw[Ad this];exact(hf c hc).1⟩
 done:=by
  intro X hP hw hK hc i pins s σ H E I hf st hg;subst hP hw hK;obtain⟨xs,qa,hl⟩:=hg;obtain⟨its,rv,pa,_⟩:=I.list (AQ.of (K:=X.K) qa);obtain⟨⟨old,h1⟩,h2⟩:=st;have nia:a≠it:=λz=>by
   have:=(hf it (by simp)).1
   rw[<-z,qa] at this;cases this
  have D:Draws X.prog X.w X.A.in1 it [it,a] its.toArray.size (λi v=>its.toArray[i]?=some v) (λi h=>h.IsListIter it a i/\h.IsList a its.toArray):=Draws.list (show X.A.in1.handled=none from I.ok.hd hc) it a nia its.toArray;have hi:its.toArray.size=i:=by
   rw[ja,<-rv.length];exact hl
  obtain⟨f0,f1,f2,f3,f4,f5⟩:=hf it (by simp);refine p8 D h1 (by rw[hi]; exact⟨h2,pa.isList⟩) λh' k=>⟨rfl,I.En (t':=s.toks) (λb o hb q=>k b o hb q) f0 f1 f3 f4 f5⟩
 HY:=λ_ _ _ _ _ st h=>by
  obtain⟨⟨old,h1⟩,_⟩:=st;exact nY h1 h
def b7(ta:TA):TI:=λσ H R=>ta σ H λvs H1=>∃a xs,vs=[.ref a]/\H1 a=some (.AF xs)/\R (Hk a) H1
theorem Js{es:List PySem.Expr}{kk:Nat}{tpos:Pos}{a:PySem.Expr}{ta:TA}{p pos:Pos}(hg:Gl X "enumerate")(hm:X.mg "enumerate" = none)(ha:PA X [a] ta)(hs:starEach [a] X.env=[(false,eval a X.env)]:=by rfl):
  PI X (.Tuple es kk tpos) (.Call (.Name "enumerate" p) [a] [] pos) (b7 ta):=by
 intro pins s σ H R I h;refine Call_ (FI I hg hm oS (j5 (Af (ha pos pins s σ H _ I h) λus s1 ⟨vs,H1,I1,r1,q1⟩=>?_) hs rfl));obtain⟨la,xs,e,qa,q⟩:=q1;subst e;obtain⟨u1,rfl,ra⟩:=Er r1;cases ra;obtain⟨its,rv,pa,_⟩:=I1.list (AQ.of (K:=X.K) qa);refine call_enumerate_list pa.isList λh' z1 z2 _ zk=>nY z1 ?_
 have I2:AK X pins σ H1 { s1 with heap:=h' }:=I1.Bx (t':=s1.toks) zk;refine⟨s1.heap.objs.size+1,_,_,_,H1,rfl,I2,XE (rZ _),⟨⟨_,z1⟩,z2⟩,λc hc=>?_,q⟩;have hge:s1.heap.objs.size<=c:=by
  simp only[jh,jP,kN] at hc;rcases hc with rfl | rfl <;> omega
 exact I1.HU (H':=H1) hge (I1.hok.Br hge)
theorem Mq {a:Addr} {xs:List V} {g:TG} {tb:TS} {D:DQ} {σ:St} {H:Hp} (Pv:Nat->St->Hp->Prop) (h0:Pv 0 σ H) (hl:∀i σ H,i<=xs.length->Pv i σ H->H a=some (.AF xs))
  (hs:∀i x σ H p,xs[i]?=some x->Pv i σ H->H p=none->g (.ref p) σ (AJ H p (.AG [.int i,x])) λσ2 H2=>tb { D with nx:=Pv (i+1),ct:=Pv (i+1),bk:=D.nx } σ2 H2) (hd:∀σ H,Pv xs.length σ H->D.nx σ H) :
  ∃W:Nat->Nat->St->Hp->Prop,(∃m,W 0 m σ H)/\∀i m σ H,W i m σ H →
   ((Hk a).stop i H/\D.nx σ H)\/((Hk a).go i H/\∃N:St->Hp->Prop,(∀σ' H',N σ' H'->∃m',m' < m/\W (i+1) m' σ' H')/\∀x H',(Hk a).ED i H x H'->g x σ H' λσ2 H2=>tb { D with nx:=N,ct:=N,bk:=D.nx } σ2 H2):=by
 refine⟨λi m σ H=>m=xs.length-i/\i<=xs.length/\Pv i σ H,⟨xs.length,by simp,jS _,h0⟩,?_⟩;rintro i m σ H ⟨rfl,hi,p⟩;have qa:=hl i σ H hi p;rcases jv i xs.length with hlt | hge
 ·refine .inr ⟨⟨xs,xs[i],qa,by simp[hlt]⟩,Pv (i+1),λσ' H' p'=>⟨xs.length-(i+1),by omega,rfl,hlt,p'⟩,λv H' yl=>?_⟩;obtain⟨pa,x,rfl,hp,rfl,hx⟩:=yl;exact hs i x σ H pa (hx xs qa) p hp
 ·obtain rfl:i=xs.length:=by omega
  exact .inl ⟨⟨xs,qa,rfl⟩,hd σ H p⟩
theorem Cp{i:Nat}{v:V}{σ:L2.St}{H:Hp}{k:L2.St->Hp->Prop}(h:k (σ.set i (some v)) H):BU i v σ H k:=h
theorem Co{t u:L2.TS}{D:DQ}{σ:L2.St}{H:Hp}(h:∀U:L2.St->Hp->Prop,u D=U->t { D with nx:=U } σ H):Kr t u D σ H:=h _ rfl
theorem nx_hide{t:L2.TS}{N c b:L2.St->Hp->Prop}{r:VK}{σ:L2.St}{H:Hp}(h:∀U:L2.St->Hp->Prop,N=U->t { nx:=U,rt:=r,ct:=c,bk:=b } σ H):t { nx:=N,rt:=r,ct:=c,bk:=b } σ H:=h _ rfl
variable {a:Addr} {xs:List V} {g:TG} {tb:TS} {D:DQ} {σ:St} {H:Hp}
theorem Mp (Pv:Nat->St->Hp->Prop) (h0:Pv 0 σ H) (hl:∀i σ H,i<=xs.length->Pv i σ H->H a=some (.AF xs))
  (hs:∀i x σ H p,xs[i]?=some x->Pv i σ H->H p=none->∀U:St->Hp->Prop,(∀σ' H',Pv (i+1) σ' H'->U σ' H')->g (.ref p) σ (AJ H p (.AG [.int i,x])) λσ2 H2=>tb { D with nx:=U,ct:=U,bk:=D.nx } σ2 H2) (hd:∀σ H,Pv xs.length σ H->D.nx σ H) :
  ∃W:Nat->Nat->St->Hp->Prop,(∃m,W 0 m σ H)/\∀i m σ H,W i m σ H →
   ((Hk a).stop i H/\D.nx σ H)\/((Hk a).go i H/\∃N:St->Hp->Prop,(∀σ' H',N σ' H'->∃m',m' < m/\W (i+1) m' σ' H')/\∀x H',(Hk a).ED i H x H'->g x σ H' λσ2 H2=>tb { D with nx:=N,ct:=N,bk:=D.nx } σ2 H2) :=
 Mq Pv h0 hl (λi x σ H p e1 e2 e3=>hs i x σ H p e1 e2 e3 _ λ_ _ z=>z) hd
theorem Cr {X:Cx} (K:PySem.W.Frag) {o e:PySem.Expr} {es:List PySem.Expr} {to:TE} {t:TA} {name:Str} {apos cpos:Pos} {T id:String} {r:V->List V->Hp->VK->Prop} (pa:PlainAttrs T) (slot:Slot T name id) (hty:typeOf (.builtin id)=pure (.type "method_descriptor")) (hm:WO X id r) (ho:PE X o to) (ha:PA X (e :: es) t)
  (hbase:attributeBase o name X.env (eval o X.env)=eval o X.env:=by rfl)
  (hfew:((backTo cpos (starEach (e :: es) X.env)).all (λx=>!x.1) && (backToKw cpos (keywordEach [] X.env)).all (λx=>x.1.isSome) && decide ((e :: es).length+([]:List Keyword).length+(if ([]:List Keyword).isEmpty then 0 else 1)<30))=true:=by rfl)
  (hline:(apos.endLine == cpos.line)=true:=by rfl) (hs:starEach (e :: es) X.env=(false,eval e X.env) :: starEach es X.env:=by rfl) (hplain:(backTo cpos (starEach es X.env)).any (·.1)=false:=by rfl) (hK:X.K=K:=by rfl) :
  PE X (.Call (.Attribute o name apos) (e :: es) [] cpos) (Wf K T r to t):=by
 subst hK;exact eY pa slot hty hm ho ha hbase hfew hline hs hplain
theorem QH:∀{ns:List Int} {us:List Value},Ah (ns.map V.int) us->IntsAre us ns
 | [],_,.nil=>.nil
 | n :: r,_,.cons (b:=u) h t=>by
  obtain⟨k,rfl⟩:=h;exact .cons n k (QH t)
def Bm(t:Bool)(h:Heap)(c a:Addr)(k:Nat):Prop:=if t then h.IsTupleIter c a k else h.IsListIter c a k
def DC(t:Bool)(h:Heap)(a:Addr)(vs:Array Value):Prop:=if t then h.IsTuple a vs else h.IsList a vs
theorem Bm.ext{t:Bool}{h h':Heap}{c b a:Addr}{k:Nat}(x:Bm t h c a k)(hs:Heap.ExtBut b h h')(n:c≠b):Bm t h' c a k:=by
 cases t
 ·exact Heap.IsListIter.extBut x hs n
 ·exact sY x hs n
theorem Bm.at{t:Bool}{h h':Heap}{c a:Addr}{k:Nat}(x:Bm t h c a k)(e:∀o,h.get? c=some o->h'.get? c=some o):Bm t h' c a k:=by
 cases t
 ·exact Heap.IsListIter.at x e
 ·exact Heap.IsTupleIter.at x e
theorem Bm.obj{t:Bool}{h:Heap}{c a:Addr}{k:Nat}(x:Bm t h c a k):∃o,h.get? c=some o/\∀v,o.data≠.cell v:=by
 cases t
 ·obtain⟨o,e,_,d⟩:=x;exact⟨o,e,λv z=>by rw[d] at z; cases z⟩
 ·obtain⟨o,e,_,d⟩:=x;exact⟨o,e,λv z=>by rw[d] at z; cases z⟩
theorem DC.ext{t:Bool}{h h':Heap}{b a:Addr}{vs:Array Value}(x:DC t h a vs)(hs:Heap.ExtBut b h h')(n:a≠b):DC t h' a vs:=by
 cases t
 ·exact Heap.IsList.extBut x hs n
 ·exact Heap.IsTuple.extBut x hs n
variable {prog:Program} {w:World} {A:Around} {E:Value->Shared->Prop} {s:Shared}
theorem Mm {t:Bool} {c a:Addr} {k:Nat} {vs:Array Value} {y:Value} {Q:Value->Shared->Prop} (hc:Bm t s.heap c a k) (ht:DC t s.heap a vs) (hy:vs[k]?=some y)
  (hQ:∀h',Bm t h' c a (k+1)->Heap.SameBut c s.heap h'->Q y { s with heap:=h' }):wpAny (model prog w) A (Builtin.SmallTypes.nextOf (.ref c)) Q E s:=by
 cases t
 ·exact wpAny_nextOf_list_item hc ht hy hQ
 ·exact QM hc ht hy hQ
theorem Qn {t:Bool} {c a:Addr} {k:Nat} {vs:Array Value} {Q:Value->Shared->Prop} (hh:A.handled=none) (hc:Bm t s.heap c a k) (ht:DC t s.heap a vs) (hy:vs[k]?=none)
  (hE:∀h' x,Heap.ExtBut c s.heap h'->(∃o,h'.get? x=some o/\o.cls=.type "StopIteration")->E (.ref x) { s with heap:=h' }):wpAny (model prog w) A (Builtin.SmallTypes.nextOf (.ref c)) Q E s:=by
 cases t
 ·exact wpAny_nextOf_list_end hh hc ht hy hE
 ·exact Qw hh hc ht hy hE
theorem Ya {t1 t2:Bool} {z TI TO i1 i2 l1 l2:Addr} {k1 k2:Nat} {xs ys:Array Value} {x y a b:Value} {Q:Value->Shared->Prop} (ap:ZipApart z TI TO i1 i2 l1 l2)
  (qz:IsZip s.heap z TI TO .none) (qI:IsPair s.heap TI (.ref i1) (.ref i2)) (qO:IsPair s.heap TO a b)
  (q1:Bm t1 s.heap i1 l1 k1) (q2:Bm t2 s.heap i2 l2 k2) (m1:DC t1 s.heap l1 xs) (m2:DC t2 s.heap l2 ys) (hx:xs[k1]?=some x) (hy:ys[k2]?=some y)
  (hQ:∀g,IsZip g z TI TO (rawInt s.heap.objs.size)->IsPair g TO x y->Bm t1 g i1 l1 (k1+1)->Bm t2 g i2 l2 (k2+1)->IsPair g s.heap.objs.size x y->g.objs.size=s.heap.objs.size+1 →
   (∀c o,c≠z->c≠TO->c≠i1->c≠i2->s.heap.get? c=some o->g.get? c=some o)->Q (.ref s.heap.objs.size) { s with heap:=g }) :
  wpAny (model prog w) A (Builtin.«zip.__next__» ⟨[.ref z],[]⟩) (λfin s'=>∃v,fin=.done (.ret v)/\Q v s') E s:=by
 show wpAny _ A (field (.ref z) 2 >>= _) _ _ _;refine iu (kI qz rfl (x:=.bool false) rfl ?_); show wpAny _ A (field (.ref z) 3 >>= _) _ _ _;refine iu (kI qz rfl (x:=.ref TI) rfl (iu (lM qI rfl ?_)));show wpAny _ A (Builtin.SmallTypes.ownedTupleIsFree (.ref z) >>= _) _ _ _;refine iu ?_; unfold Builtin.SmallTypes.ownedTupleIsFree;refine iu (kI qz rfl (x:=.none) rfl (jk ?_)); simp only[if_true];refine iu (pB (iu (kI qz rfl (x:=.ref TO) rfl (iu (lQ qz (by simp) λg1 z1 s1=>?_)))));replace z1:IsZip g1 z TI TO .ellipsis:=z1;refine iu ?_; simp only[rY,sv,ou,sJ];refine iu (iu (o7 ?_)); show wpAny _ A (Builtin.SmallTypes.nextOf (.ref i1) >>= _) _ _ _;refine iu (Mm (q1.ext s1.extBut ap.i1z) (m1.ext s1.extBut ap.l1z) hx λg2 n1 s2=>jk ?_);have O2:IsPair g2 TO a b:=s2.extBut _ _ ap.TOi1 (s1.extBut _ _ ap.TOz qO);refine iu (lM O2 rfl (iu (oE O2 λg3 O3 s3=>?_)));replace O3:IsPair g3 TO x b:=O3;refine iu (rQ (jk (iu (iu (o7 ?_))))); show wpAny _ A (Builtin.SmallTypes.nextOf (.ref i2) >>= _) _ _ _;refine iu (Mm (((q2.ext s1.extBut ap.i2z).ext s2.extBut ap.i12.symm).ext s3.extBut ap.TOi2.symm) (((m2.ext s1.extBut ap.l2z).ext s2.extBut ap.l2i1).ext s3.extBut ap.l2TO) hy λg4 n2 s4=>jk ?_);have O4:IsPair g4 TO x b:=s4.extBut _ _ ap.TOi2 O3;refine iu (lM O4 rfl (iu (oE O4 λg5 O5 s5=>?_)));replace O5:IsPair g5 TO x y:=O5;refine iu (rQ (jk (jk (iu (lM O5 rfl (iu (qo ?_)))))));have sz5:g5.objs.size=s.heap.objs.size:=by rw[s5.1,s4.1,s3.1,s2.1,s1.1]
 have z5:IsZip g5 z TI TO .ellipsis:=s5.extBut _ _ ap.TOz.symm (s4.extBut _ _ ap.i2z.symm (s3.extBut _ _ ap.TOz.symm (s2.extBut _ _ ap.i1z.symm z1)));have kp:∀c o,c≠z->c≠TO->c≠i1->c≠i2->s.heap.get? c=some o->g5.get? c=some o:=λc o c1 c2 c3 c4 e =>
  s5.extBut _ _ c2 (s4.extBut _ _ c4 (s3.extBut _ _ c2 (s2.extBut _ _ c3 (s1.extBut _ _ c1 e))))
 have N1:Bm t1 g5 i1 l1 (k1+1):=((n1.ext s3.extBut ap.TOi1.symm).ext s4.extBut ap.i12).ext s5.extBut ap.TOi1.symm;have N2:Bm t2 g5 i2 l2 (k2+1):=n2.ext s5.extBut ap.TOi2.symm;have ltz:z<g5.objs.size:=jj z5;show wpAny _ A (Builtin.SmallTypes.ownedTupleHandOut (.ref z) (.ref g5.objs.size) >>= _) _ _ _;refine iu ?_; unfold Builtin.SmallTypes.ownedTupleHandOut;have z6:IsZip (g5.push { cls:=.type "tuple",data:=.seq #[x,y] }) z TI TO .ellipsis:=i3 _ z5;refine iu (lQ z6 (by simp) λg7 z7 s7=>?_);replace z7:IsZip g7 z TI TO (rawInt g5.objs.size):=z7;refine lQ z7 (by simp) λg8 z8 s8=>?_
 replace z8:IsZip g8 z TI TO (rawInt g5.objs.size):=z8;have up:∀c o,c≠z->g5.get? c=some o->g8.get? c=some o:=λc o c1 e=>s8.extBut _ _ c1 (s7.extBut _ _ c1 (i3 _ e))
 have T8:IsPair g8 g5.objs.size x y:=s8.extBut _ _ (lP ltz) (s7.extBut _ _ (lP ltz) (jo _ rfl));have sz8:g8.objs.size=g5.objs.size+1:=by rw[s8.1,s7.1,kX]
 rw[sz5] at z8 T8 sz8;refine jk ⟨_,rfl,?_⟩;show Q (.ref g5.objs.size) _;rw[sz5];exact hQ g8 z8 (up _ _ ap.TOz O5) (N1.at λo e=>up _ o ap.i1z e) (N2.at λo e=>up _ o ap.i2z e) T8 sz8 λc o c1 c2 c3 c4 e=>up c o c1 (kp c o c1 c2 c3 c4 e)
theorem ZE {t1 t2:Bool} {z TI TO i1 i2 l1 l2:Addr} {k1 k2:Nat} {xs ys:Array Value} {a b:Value} {Q:Fin->Shared->Prop} (hh:A.handled=none) (ap:ZipApart z TI TO i1 i2 l1 l2)
  (qz:IsZip s.heap z TI TO .none) (qI:IsPair s.heap TI (.ref i1) (.ref i2)) (qO:IsPair s.heap TO a b)
  (q1:Bm t1 s.heap i1 l1 k1) (q2:Bm t2 s.heap i2 l2 k2) (m1:DC t1 s.heap l1 xs) (m2:DC t2 s.heap l2 ys) (hend:xs[k1]?=none\/ys[k2]?=none)
  (hE:∀g e,(∀c o,c≠z->c≠TO->c≠i1->c≠i2->s.heap.get? c=some o->g.get? c=some o)->(∃o,g.get? e=some o/\o.cls=.type "StopIteration")->E (.ref e) { s with heap:=g }) :
  wpAny (model prog w) A (Builtin.«zip.__next__» ⟨[.ref z],[]⟩) Q E s:=by
 show wpAny _ A (field (.ref z) 2 >>= _) _ _ _;refine iu (kI qz rfl (x:=.bool false) rfl ?_); show wpAny _ A (field (.ref z) 3 >>= _) _ _ _;refine iu (kI qz rfl (x:=.ref TI) rfl (iu (lM qI rfl ?_)));show wpAny _ A (Builtin.SmallTypes.ownedTupleIsFree (.ref z) >>= _) _ _ _;refine iu ?_; unfold Builtin.SmallTypes.ownedTupleIsFree;refine iu (kI qz rfl (x:=.none) rfl (jk ?_)); simp only[if_true];refine iu (pB (iu (kI qz rfl (x:=.ref TO) rfl (iu (lQ qz (by simp) λg1 z1 s1=>?_)))));replace z1:IsZip g1 z TI TO .ellipsis:=z1;refine iu ?_; simp only[rY,sv,ou,sJ];refine iu (iu (o7 ?_)); show wpAny _ A (Builtin.SmallTypes.nextOf (.ref i1) >>= _) _ _ _;cases hx:xs[k1]? with
 | none =>
  refine iu (Qn hh (q1.ext s1.extBut ap.i1z) (m1.ext s1.extBut ap.l1z) hx λg2 e s2 he=>?_);obtain⟨oe,w1,w2⟩:=he;have z2:IsZip g2 z TI TO .ellipsis:=s2 _ _ ap.i1z.symm z1;have ez:e≠z:=λx=>by subst x; rw[z2] at w1; cases w1; simp at w2
  exact lQ z2 (by simp) λg3 _ s3=>hE g3 e (λc o c1 _ c3 _ x=>s3.extBut _ _ c1 (s2 _ _ c3 (s1.extBut _ _ c1 x))) ⟨oe,s3.extBut _ _ ez w1,w2⟩
 | some x =>
  have hy:ys[k2]?=none:=by rcases hend with h | h; rw[hx] at h; cases h; exact h
  refine iu (Mm (q1.ext s1.extBut ap.i1z) (m1.ext s1.extBut ap.l1z) hx λg2 n1 s2=>jk ?_);have O2:IsPair g2 TO a b:=s2.extBut _ _ ap.TOi1 (s1.extBut _ _ ap.TOz qO);refine iu (lM O2 rfl (iu (oE O2 λg3 O3 s3=>?_)));refine iu (rQ (jk (iu (iu (o7 ?_))))); show wpAny _ A (Builtin.SmallTypes.nextOf (.ref i2) >>= _) _ _ _;refine iu (Qn hh (((q2.ext s1.extBut ap.i2z).ext s2.extBut ap.i12.symm).ext s3.extBut ap.TOi2.symm) (((m2.ext s1.extBut ap.l2z).ext s2.extBut ap.l2i1).ext s3.extBut ap.l2TO) hy λg4 e s4 he=>?_);obtain⟨oe,w1,w2⟩:=he;have z4:IsZip g4 z TI TO .ellipsis:=s4 _ _ ap.i2z.symm (s3.extBut _ _ ap.TOz.symm (s2.extBut _ _ ap.i1z.symm z1));have ez:e≠z:=λx=>by subst x; rw[z4] at w1; cases w1; simp at w2
  exact lQ z4 (by simp) λg5 _ s5=>hE g5 e (λc o c1 c2 c3 c4 x=>s5.extBut _ _ c1 (s4 _ _ c4 (s3.extBut _ _ c2 (s2.extBut _ _ c3 (s1.extBut _ _ c1 x))))) ⟨oe,s5.extBut _ _ ez w1,w2⟩
theorem Wz {t1 t2:Bool} {z TI TO i1 i2 l1 l2:Addr} {k1 k2:Nat} {xs ys:Array Value} {x y a b:Value} {Q:Option Value->Shared->Prop} (ap:ZipApart z TI TO i1 i2 l1 l2)
  (qz:IsZip s.heap z TI TO .none) (qI:IsPair s.heap TI (.ref i1) (.ref i2)) (qO:IsPair s.heap TO a b)
  (q1:Bm t1 s.heap i1 l1 k1) (q2:Bm t2 s.heap i2 l2 k2) (m1:DC t1 s.heap l1 xs) (m2:DC t2 s.heap l2 ys) (hx:xs[k1]?=some x) (hy:ys[k2]?=some y)
  (hQ:∀g,IsZip g z TI TO (rawInt s.heap.objs.size)->IsPair g TO x y->Bm t1 g i1 l1 (k1+1)->Bm t2 g i2 l2 (k2+1)->IsPair g s.heap.objs.size x y->g.objs.size=s.heap.objs.size+1 →
   (∀c o,c≠z->c≠TO->c≠i1->c≠i2->s.heap.get? c=some o->g.get? c=some o)->Q (some (.ref s.heap.objs.size)) { s with heap:=g }) :
  wpAny (model prog w) A (pyNext (.ref z)) Q E s:=by
 have ty:s.TypeIs (.ref z) "zip":=⟨_,qz,rfl⟩;unfold pyNext;exact iu (wpAny_attempt (kZ (name:=Str.ofString "__next__") ty mV (lL mV ty pV
   (Ya ap qz qI qO q1 q2 m1 m2 hx hy λg a1 a2 a3 a4 a5 a6 a7=>jk (hQ g a1 a2 a3 a4 a5 a6 a7)) (pN _))))
theorem W2 {t1 t2:Bool} {z TI TO i1 i2 l1 l2:Addr} {k1 k2:Nat} {xs ys:Array Value} {a b:Value} {Q:Option Value->Shared->Prop} (hh:A.handled=none) (ap:ZipApart z TI TO i1 i2 l1 l2)
  (qz:IsZip s.heap z TI TO .none) (qI:IsPair s.heap TI (.ref i1) (.ref i2)) (qO:IsPair s.heap TO a b)
  (q1:Bm t1 s.heap i1 l1 k1) (q2:Bm t2 s.heap i2 l2 k2) (m1:DC t1 s.heap l1 xs) (m2:DC t2 s.heap l2 ys) (hend:xs[k1]?=none\/ys[k2]?=none)
  (hQ:∀g,(∀c o,c≠z->c≠TO->c≠i1->c≠i2->s.heap.get? c=some o->g.get? c=some o)->Q none { s with heap:=g }):wpAny (model prog w) A (pyNext (.ref z)) Q E s:=by
 have ty:s.TypeIs (.ref z) "zip":=⟨_,qz,rfl⟩;unfold pyNext;refine iu (wpAny_attempt (kZ (name:=Str.ofString "__next__") ty mV (lL mV ty pV (ZE hh ap qz qI qO q1 q2 m1 m2 hend λg e hk he=>?_) (pN _))));obtain⟨o,w1,w2⟩:=he;exact iu (wpAny_isInstance (T:="StopIteration") (b:=true) ⟨o,w1,w2⟩ isSubtype_stop (jk (hQ _ hk)))
def E3(t:Bool)(l:Addr):Obj:=if t then { cls:=.type "tuple_iterator",data:=.fields #[.ref l,.int 0 0] } else { cls:=.type "list_iterator",data:=.fields #[.ref l,.int 0 0] }
abbrev zk2(t1 t2:Bool)(h:Heap)(l1 l2:Addr):Heap:=(h.push (E3 t1 l1)).push (E3 t2 l2)
abbrev MX(t1 t2:Bool)(h:Heap)(l1 l2:Addr):Heap:=((zk2 t1 t2 h l1 l2).push { cls:=.type "tuple",data:=.seq #[.ref h.objs.size,.ref (h.push (E3 t1 l1)).objs.size] }).push { cls:=.type "tuple",data:=.seq #[.none,.none] }
abbrev Ih(t1 t2:Bool)(h:Heap)(l1 l2:Addr):Heap:=(MX t1 t2 h l1 l2).push { cls:=.type "zip",data:=.fields #[.none,.bool false,.bool false,.ref (zk2 t1 t2 h l1 l2).objs.size,.ref ((zk2 t1 t2 h l1 l2).push { cls:=.type "tuple",data:=.seq #[.ref h.objs.size,.ref (h.push (E3 t1 l1)).objs.size] }).objs.size] }
set_option maxHeartbeats 4000000 in
theorem Xd(t1 t2:Bool)(l1 l2:Addr)(xs ys:Array Value):
  Meets (Builtin.«zip.__new__» ⟨[.type "zip",.ref l1,.ref l2],[]⟩) (λ_ R s=>DC t1 s.heap l1 xs/\DC t2 s.heap l2 ys/\R (.ok (.ret (.ref (MX t1 t2 s.heap l1 l2).objs.size))) { s with heap:=Ih t1 t2 s.heap l1 l2 }) :=
 .of_wp λprog w A R s h=>by
  obtain⟨hp,g,d,tk,os⟩:=s; obtain⟨m1,m2,h⟩:=h;have hsub:=sub_zip;cases t1 <;> cases t2
  ·have a1:Heap.IsList (Shared.heap ⟨hp,g,d,tk,os⟩) l1 xs:=m1;have a2:Heap.IsList (Shared.heap ⟨hp.push { cls:=.type "list_iterator",data:=.fields #[.ref l1,.int 0 0] },g,d,tk,os⟩) l2 ys:=rR m2 _
   wp_walk using lI a1,lI a2
   exact⟨_,rfl,h⟩
  ·have a1:Heap.IsList (Shared.heap ⟨hp,g,d,tk,os⟩) l1 xs:=m1;have a2:Heap.IsTuple (Shared.heap ⟨hp.push { cls:=.type "list_iterator",data:=.fields #[.ref l1,.int 0 0] },g,d,tk,os⟩) l2 ys:=rj m2 _
   wp_walk using lI a1,kK a2
   exact⟨_,rfl,h⟩
  ·have a1:Heap.IsTuple (Shared.heap ⟨hp,g,d,tk,os⟩) l1 xs:=m1;have a2:Heap.IsList (Shared.heap ⟨hp.push { cls:=.type "tuple_iterator",data:=.fields #[.ref l1,.int 0 0] },g,d,tk,os⟩) l2 ys:=rR m2 _
   wp_walk using kK a1,lI a2
   exact⟨_,rfl,h⟩
  ·have a1:Heap.IsTuple (Shared.heap ⟨hp,g,d,tk,os⟩) l1 xs:=m1;have a2:Heap.IsTuple (Shared.heap ⟨hp.push { cls:=.type "tuple_iterator",data:=.fields #[.ref l1,.int 0 0] },g,d,tk,os⟩) l2 ys:=rj m2 _
   wp_walk using kK a1,kK a2
   exact⟨_,rfl,h⟩
theorem YY {t1 t2:Bool} {l1 l2:Addr} {xs ys:Array Value} {Q:Value->Shared->Prop} (m1:DC t1 s.heap l1 xs) (m2:DC t2 s.heap l2 ys)
  (h:∀g,IsZip g (s.heap.objs.size+4) (s.heap.objs.size+2) (s.heap.objs.size+3) .none->IsPair g (s.heap.objs.size+2) (.ref s.heap.objs.size) (.ref (s.heap.objs.size+1)) →
   IsPair g (s.heap.objs.size+3) .none .none->Bm t1 g s.heap.objs.size l1 0->Bm t2 g (s.heap.objs.size+1) l2 0->g.objs.size=s.heap.objs.size+5 →
   (∀c o,s.heap.get? c=some o->g.get? c=some o)->Q (.ref (s.heap.objs.size+4)) { s with heap:=g }) :
  wpAny (model prog w) A (call (.type "zip") [.ref l1,.ref l2]) Q E s:=by
 refine callType_new PySem.F.called_zip (by decide) (PySem.F.typeCall_zip_2 _ _) (PySem.F.newCall_zip_2 _ _) (λobj=>PySem.F.args_object_init_3 obj _ _) PySem.F.entry_zip_new (Xd t1 t2 l1 l2 xs ys) ⟨m1,m2,?_⟩;have y1:(s.heap.push (E3 t1 l1)).objs.size=s.heap.objs.size+1:=kX ..;have y2:(zk2 t1 t2 s.heap l1 l2).objs.size=s.heap.objs.size+2:=by rw[kX,y1]
 have y3:((zk2 t1 t2 s.heap l1 l2).push { cls:=.type "tuple",data:=.seq #[.ref s.heap.objs.size,.ref (s.heap.push (E3 t1 l1)).objs.size] }).objs.size=s.heap.objs.size+3:=by rw[kX,y2]
 have y4:(MX t1 t2 s.heap l1 l2).objs.size=s.heap.objs.size+4:=by rw[kX,y3]
 have y5:(Ih t1 t2 s.heap l1 l2).objs.size=s.heap.objs.size+5:=by rw[kX,y4]
 have f1:∀(t:Bool) (l:Addr),(E3 t l).isFreed=false:=λt l=>by cases t <;> rfl
 have e5:(Ih t1 t2 s.heap l1 l2).get? (MX t1 t2 s.heap l1 l2).objs.size=some _:=jo _ rfl;have e4:(Ih t1 t2 s.heap l1 l2).get? ((zk2 t1 t2 s.heap l1 l2).push { cls:=.type "tuple",data:=.seq #[.ref s.heap.objs.size,.ref (s.heap.push (E3 t1 l1)).objs.size] }).objs.size=some _:=i3 _ (jo _ rfl);have e3:(Ih t1 t2 s.heap l1 l2).get? (zk2 t1 t2 s.heap l1 l2).objs.size=some _:=i3 _ (i3 _ (jo _ rfl));have e2:(Ih t1 t2 s.heap l1 l2).get? (s.heap.push (E3 t1 l1)).objs.size=some (E3 t2 l2):=i3 _ (i3 _ (i3 _ (jo _ (f1 _ _))));have e1:(Ih t1 t2 s.heap l1 l2).get? s.heap.objs.size=some (E3 t1 l1):=i3 _ (i3 _ (i3 _ (i3 _ (jo _ (f1 _ _)))));have iK:∀(t:Bool) (g:Heap) (c l:Addr),g.get? c=some (E3 t l)->Bm t g c l 0:=λt g c l e=>by cases t <;> exact⟨_,e,rfl,rfl⟩
 show _/\_;rw[y2,y3,y4] at e5;rw[y1,y2] at e3;rw[y3] at e4;rw[y1] at e2;rw[y4];exact⟨⟨_,e5,rfl⟩,h _ e5 e3 e4 (iK _ _ _ _ e1) (iK _ _ _ _ e2) y5 λc o q=>i3 _ (i3 _ (i3 _ (i3 _ (i3 _ q))))⟩
def B5(t:Bool)(K:PySem.W.Frag)(H:Hp)(a:Addr)(xs:List V):Prop:=if t then AI K H a xs else AQ K H a xs
theorem DC.lt{t:Bool}{h:Heap}{a:Addr}{vs:Array Value}(x:DC t h a vs):a<h.objs.size:=by
 cases t
 ·obtain⟨o,e,_⟩:=x;exact jj e
 ·obtain⟨o,e,_⟩:=x;exact jj e
theorem AK.Jh{pins:List (Addr×Obj)}{σ:St}{H:Hp}{s:Shared}{t:Bool}{a:Addr}{xs:List V}(I:AK X pins σ H s)(h:B5 t X.K H a xs):∃its:List Value,Ah xs its/\DC t s.heap a its.toArray/\xs.length<=sizeLine:=by
 cases t
 ·obtain⟨its,rv,p,z⟩:=I.list h;exact⟨its,rv,p.isList,z⟩
 ·obtain⟨its,rv,p,z⟩:=I.tuple h;exact⟨its,rv,p,z⟩
theorem AK.R9{pins:List (Addr×Obj)}{σ:St}{H:Hp}{s:Shared}{t:Bool}{a:Addr}{xs ys:List V}(I:AK X pins σ H s)(h:B5 t X.K H a xs)(g:B5 t X.K H a ys):xs=ys:=by
 cases t
 ·exact I.list_inj h g
 ·exact I.QV h g
theorem B5.l{K:PySem.W.Frag}{H:Hp}{a:Addr}{xs:List V}(h:H a=some (.AF xs)):B5 false K H a xs:=AQ.of h
theorem B5.t{K:PySem.W.Frag}{H:Hp}{a:Addr}{xs:List V}(h:H a=some (.AG xs)):B5 true K H a xs:=AI.of h
def Pr(K : PySem.W.Frag)(t1 t2 : Bool)(a b : Addr): It :=
  ⟨λi H => ∃xs ys x y, B5 t1 K H a xs /\ B5 t2 K H b ys /\ xs[i]? = some x /\ ys[i]? = some y,
   λi H v H' => ∃p x y, v = .ref p /\ H p = none /\ H' = AJ H p (.AG [x, y]) /\ (∀xs, B5 t1 K H a xs → xs[i]? = some x) /\ ∀ys, B5 t2 K H b ys → ys[i]? = some y,
   λi H => ∃xs ys, B5 t1 K H a xs /\ B5 t2 K H b ys /\ (xs.length <= i \/ ys.length <= i)⟩
theorem YZ{t1 t2:Bool}{P:Program}{w:World}{K:PySem.W.Frag}{es:List PySem.Expr}{kk:Nat}{pos:Pos}{a b z TI TO i1 i2:Addr}(D:ZipApart z TI TO i1 i2 a b):
  Hl P w K (.Tuple es kk pos) (Pr K t1 t2 a b) [z,TI,TO,i1,i2] z (λi h=>IsZip h z TI TO .none/\IsPair h TI (.ref i1) (.ref i2)/\(∃u v,IsPair h TO u v)/\Bm t1 h i1 a i/\Bm t2 h i2 b i) where
 mem:=by simp
 obj:=λi h st c hc=>by
  obtain⟨h1,h2,⟨u,v,h3⟩,h4,h5⟩:=st;simp only[jh,jP,kN] at hc;rcases hc with rfl | rfl | rfl | rfl | rfl
  ·exact⟨_,h1,λv z=>by have z':Data.fields _=Data.cell v:=z; cases z'⟩
  ·exact⟨_,h2,λv z=>by have z':Data.seq _ _=Data.cell v:=z; cases z'⟩
  ·exact⟨_,h3,λv z=>by have z':Data.seq _ _=Data.cell v:=z; cases z'⟩
  ·exact h4.obj
  ·exact h5.obj
 keep:=λi h h' st k=>by
  obtain⟨h1,h2,⟨u,v,h3⟩,h4,h5⟩:=st;exact⟨k z (by simp) _ h1,k TI (by simp) _ h2,⟨u,v,k TO (by simp) _ h3⟩,h4.at λo e=>k i1 (by simp) o e,h5.at λo e=>k i2 (by simp) o e⟩
 item:=by
  intro X hP hw hK hc i pins s σ H E I hf st hg;subst hP hw hK;obtain⟨xs,ys,x,y,qa,qb,hx,hy⟩:=hg;obtain⟨its,rv,pa,_⟩:=I.Jh qa;obtain⟨jts,rw',pb,_⟩:=I.Jh qb;obtain⟨ux,hux,rx⟩:=rv.get hx;obtain⟨uy,huy,ry⟩:=rw'.get hy;obtain⟨h1,h2,⟨u,v,h3⟩,h4,h5⟩:=st;refine Wz D h1 h2 h3 h4 h5 pa pb (x:=ux) (y:=uy) (by simpa using hux) (by simpa using huy) λh' a1 a2 a3 a4 a5 a6 k=>?_
  refine⟨_,rfl,wpAny_letOwnedTupleGo_zip a1 λh'' b1 sb=>?_⟩;have hsz:s.heap.objs.size≠z:=lP (jj h1);have nfp:∀c∈[z,TI,TO,i1,i2],s.heap.objs.size≠c:=λc hc=>by
   have:∃o,s.heap.get? c=some o:=by
    obtain⟨o4,g4,_⟩:=h4.obj;obtain⟨o5,g5,_⟩:=h5.obj;simp only[jh,jP,kN] at hc;rcases hc with rfl | rfl | rfl | rfl | rfl
    ·exact⟨_,h1⟩
    ·exact⟨_,h2⟩
    ·exact⟨_,h3⟩
    ·exact⟨_,g4⟩
    ·exact⟨_,g5⟩
   obtain⟨o,e⟩:=this;exact lP (jj e)
  have hn:H s.heap.objs.size=none:=I.hok.Br (i4 _);have kk':∀c o,c∉[z,TI,TO,i1,i2]->s.heap.get? c=some o->h''.get? c=some o:=λc o hc e =>
   (sb.2 c λq=>hc (by simp[q])).trans (k c o (λq=>hc (by simp[q])) (λq=>hc (by simp[q])) (λq=>hc (by simp[q])) (λq=>hc (by simp[q])) e)
  have tO:h''.get? s.heap.objs.size=some { cls:=.type "tuple",data:=.seq #[ux,uy] }:=(sb.2 _ hsz).trans a5;have nt:∀c u,H c=some u->c∉[z,TI,TO,i1,i2]:=λc u e hc=>by
   have:=(hf c hc).1
   rw[e] at this;cases this
  have tupOk:Bk X.prog X.w (AJ H s.heap.objs.size (.AG [x,y])) h'' s.heap.objs.size (.AG [x,y]) :=
   ⟨by exact CA,[ux,uy],.cons rx (.cons ry .nil),⟨_,tO,rfl,_,rfl⟩,_,tO,rfl⟩
  have I1:AK X pins σ (AJ H s.heap.objs.size (.AG [x,y])) { s with heap:=h'' }:=by
   refine I.step (g':=s.gens) (d':=s.drawn) (t':=s.toks) (ch:=[z,TI,TO,i1,i2]) (λc hc=>⟨(hf c hc).2.2.2.1,(hf c hc).2.1,(hf c hc).2.2.2.2.1,(hf c hc).2.2.2.2.2⟩) (λc o _ _ hc e _=>kk' c o hc e) (λc o _ _ hc e _=>⟨o.slots,kk' c o hc e⟩)
    (λc o _ e n=>by rw[Ad (jM (jj e))]; exact n) (λc o hc e=>⟨o,kk' c o hc e⟩) (λc vs e=>by rw[Ad (BW e hn)]; exact e) (λc o vs e=>by rw[Ad (BW e hn)]; exact e)
    (λc ps e=>⟨#[],by rw[Ad (BW e hn),e]; simp⟩) (λm hm=>?_) (λc o e=>?_) I.bare
   ·obtain⟨o,es',ep,ho,r⟩:=hm;exact⟨o,es',ep,kk' _ o (λq=>(hf _ q).2.1 rfl) ho,r⟩
   ·by_cases hcs:c=s.heap.objs.size
    ·subst hcs;rw[AU] at e;cases e;exact tupOk
    ·rw[Ad hcs] at e;refine(I.hok c o e).GA (λd v hd q=>kk' d v ?_ q) (λd q=>by rw[Ad (BW q hn)]; exact q) λd vs q=>by rw[Ad (BW q hn)]; exact q
     rcases hd with hd | hd
     ·rw[hd]; exact nt c o e
     ·exact nt d _ hd
  have g4:Bm t1 h'' i1 a (i+1):=a3.at λo e=>(sb.2 _ D.i1z).trans e
  have g5:Bm t2 h'' i2 b (i+1):=a4.at λo e=>(sb.2 _ D.i2z).trans e
  have g2:IsPair h'' TI (.ref i1) (.ref i2):=(sb.2 _ D.TIz).trans (k _ _ D.TIz D.TITO D.TIi1 D.TIi2 h2);have g3:IsPair h'' TO ux uy:=(sb.2 _ D.TOz).trans a2;exact⟨.ref s.heap.objs.size,_,I1,rfl,⟨_,x,y,rfl,hn,rfl,λxs' q=>by rw[I.R9 q qa]; exact hx,λys' q=>by rw[I.R9 q qb]; exact hy⟩,⟨b1,g2,⟨_,_,g3⟩,g4,g5⟩,λc hc=>by rw[Ad (kC (nfp c hc))]; exact(hf c hc).1⟩
 done:=by
  intro X hP hw hK hc i pins s σ H E I hf st hg;subst hP hw hK;obtain⟨xs,ys,qa,qb,hl⟩:=hg;obtain⟨its,rv,pa,_⟩:=I.Jh qa;obtain⟨jts,rw',pb,_⟩:=I.Jh qb;obtain⟨h1,h2,⟨u,v,h3⟩,h4,h5⟩:=st;have l1:=rv.length;have l2:=rw'.length;have hend:its.toArray[i]?=none\/jts.toArray[i]?=none:=by
   rcases hl with hl | hl
   ·exact .inl (by simp; omega)
   ·exact .inr (by simp; omega)
  refine W2 (I.ok.hd hc) D h1 h2 h3 h4 h5 pa pb hend λh' k=>⟨rfl,?_⟩
  have kk':∀c o,c∉[z,TI,TO,i1,i2]->s.heap.get? c=some o->h'.get? c=some o:=λc o hc e =>
   k c o (λq=>hc (by simp[q])) (λq=>hc (by simp[q])) (λq=>hc (by simp[q])) (λq=>hc (by simp[q])) e
  have nt:∀c u,H c=some u->c∉[z,TI,TO,i1,i2]:=λc u e hc=>by
   have:=(hf c hc).1
   rw[e] at this;cases this
  refine I.step (g':=s.gens) (d':=s.drawn) (t':=s.toks) (ch:=[z,TI,TO,i1,i2]) (λc hc=>⟨(hf c hc).2.2.2.1,(hf c hc).2.1,(hf c hc).2.2.2.2.1,(hf c hc).2.2.2.2.2⟩) (λc o _ _ hc e _=>kk' c o hc e) (λc o _ _ hc e _=>⟨o.slots,kk' c o hc e⟩)
   (λ_ _ _ _ n=>n) (λc o hc e=>⟨o,kk' c o hc e⟩) (λ_ _ e=>e) (λ_ _ _ e=>e) (λc ps e=>⟨#[],by rw[e]; simp⟩) (λm hm=>?_) (λc o e=>?_) I.bare
  ·obtain⟨o,es',ep,ho,r⟩:=hm;exact⟨o,es',ep,kk' _ o (λq=>(hf _ q).2.1 rfl) ho,r⟩
  ·refine(I.hok c o e).GA (λd v hd q=>kk' d v ?_ q) (λ_ q=>q) λ_ _ q=>q
   rcases hd with hd | hd
   ·rw[hd]; exact nt c o e
   ·exact nt d _ hd
 HY:=λ_ _ _ _ _ st h=>wpAny_pyIter_zip st.1 h
def fH(K:PySem.W.Frag)(t1 t2:Bool)(ta:TA):TI:=λσ H R=>ta σ H λvs H1=>∃a b,vs=[.ref a,.ref b]/\(∃xs,B5 t1 K H1 a xs)/\(∃ys,B5 t2 K H1 b ys)/\R (Pr K t1 t2 a b) H1
theorem NZ{t1 t2:Bool}{es:List PySem.Expr}{kk:Nat}{tpos:Pos}{a b:PySem.Expr}{ta:TA}{p pos:Pos}(hg:Gl X "zip")(hm:X.mg "zip" = none)(ha:PA X [a,b] ta)(hs:starEach [a,b] X.env=(false,eval a X.env) :: starEach [b] X.env:=by rfl)(hs2:(backTo pos (starEach [b] X.env)).any (·.1)=false:=by rfl):
  PI X (.Tuple es kk tpos) (.Call (.Name "zip" p) [a,b] [] pos) (fH X.K t1 t2 ta):=by
 intro pins s σ H R I h;refine Call_ (FI I hg hm PyProof.Rows.boot_zip (j5 (Af (ha pos pins s σ H _ I h) λus s1 ⟨vs,H1,I1,r1,q1⟩=>?_) hs hs2));obtain⟨la,lb,e,⟨xs,qa⟩,⟨ys,qb⟩,q⟩:=q1;subst e;obtain⟨u1,u2,rfl,ra,rb⟩:=Kk r1;cases ra;cases rb;obtain⟨its,rv,pa,_⟩:=I1.Jh qa;obtain⟨jts,rw',pb,_⟩:=I1.Jh qb;have lta:la<s1.heap.objs.size:=by
  exact pa.lt
 have ltb:lb<s1.heap.objs.size:=by
  exact pb.lt
 refine YY pa pb λh' z1 z2 z3 z4 z5 zs zk=>?_
 refine wpAny_pyIter_zip z1 ?_;have I2:AK X pins σ H1 { s1 with heap:=h' }:=I1.Bx (t':=s1.toks) zk;have D:ZipApart (s1.heap.objs.size+4) (s1.heap.objs.size+2) (s1.heap.objs.size+3) s1.heap.objs.size (s1.heap.objs.size+1) la lb:=by
  have la':@LT.lt Nat _ la s1.heap.objs.size:=lta;have lb':@LT.lt Nat _ lb s1.heap.objs.size:=ltb;constructor <;> (show @Ne Nat _ _; omega)
 refine⟨s1.heap.objs.size+4,_,_,_,H1,rfl,I2,YZ D,⟨z1,z2,⟨_,_,z3⟩,z4,z5⟩,λc hc=>?_,q⟩;have hge:s1.heap.objs.size<=c:=by
  simp only[jh,jP,kN] at hc;rcases hc with rfl | rfl | rfl | rfl | rfl <;> omega
 have f:=I1.HU (H':=H1) hge (I1.hok.Br hge);exact f
theorem dE:bootBuiltins "sum" = some (.builtin "sum"):=by decide +kernel
theorem YL(hc:X.Ci=true):DJ X (.builtin "sum") (λxs H Q=>∃(p:Addr) (ns:List Int),xs=[.ref p]/\H p=some (.AF (ns.map V.int))/\Q (.int ns.sum) H):=by
 intro pins s σ H xs us Q I r h;obtain⟨p,ns,rfl,hp,q⟩:=h;obtain⟨u,rfl,r1⟩:=r.Aq;cases r1;obtain⟨its,rv,pl,hz⟩:=I.list (AQ.of (K:=X.K) hp);have hi:IntsAre its ns:=QH rv;obtain⟨ys,hx⟩:=hi.allInts.items;have hl':s.heap.IsList p (intItems ys):=hx ▸ pl.isList;refine sum_intListG (I.ok.hd hc) hl' λh' tk t' hk=>?_
 have e1:ns=ys.toList.map (·.1):=by
  rw[<-nums_intItems,<-hx];exact(show numsOf its.toArray.toList=ns from hi.numsOf).symm
 have e2:preSum (numAt ys) ys.size=ns.sum:=by rw[preSum_eq,jf (by simp),e1]
 rw[e2];exact⟨.int ns.sum,H,I.Bx hk,⟨t',rfl⟩,q⟩
def eQ(ta:TA):TI:=λσ H R=>ta σ H λvs H1=>∃n:Nat,vs=[.int ((n:Int)-1),.int (-1),.int (-1)]/\n<=1000/\R (K3 ((n:Int)-1) (-1) n) H1
theorem UO(n:Nat):Builtin.Range.rangeSize ((n:Int)-1) (-1) (-1)=n:=by
 unfold Builtin.Range.rangeSize;simp only[show ¬((-1:Int) > 0) by decide,if_false];rw[show -(-1:Int)=1 by decide,Int.ediv_one];split <;> omega
theorem bf{n:Nat}(h:n<=1000):Builtin.Range.small ((n:Int)-1) (-1) (-1)=true:=by
 unfold Builtin.Range.small;rw[UO];simp only[Builtin.Range.rangeFitsLong,kL,Bool.or_eq_true,lY,beq_iff_eq];refine⟨⟨⟨⟨⟨?_,?_⟩,⟨?_,?_⟩⟩,⟨?_,?_⟩⟩,⟨?_,?_⟩⟩,.inr ?_⟩ <;> first | omega | decide
theorem YJ {tg:PySem.Expr} {a b c:PySem.Expr} {ta:TA} {p pos:Pos} (hg:Gl X "range") (hm:X.mg "range" = none) (ha:PA X [a,b,c] ta)
  (hs:starEach [a,b,c] X.env=(false,eval a X.env) :: starEach [b,c] X.env:=by rfl) (hs2:(backTo pos (starEach [b,c] X.env)).any (·.1)=false:=by rfl):PI X tg (.Call (.Name "range" p) [a,b,c] [] pos) (eQ ta):=by
 intro pins s σ H R I h;refine Call_ (FI I hg hm qt (j5 (Af (ha pos pins s σ H _ I h) λus s1 ⟨vs,H1,I1,r1,q1⟩=>?_) hs hs2));obtain⟨n,e,hn,q⟩:=q1;subst e;cases r1 with
 | cons r rr =>
  cases rr with
  | cons r' rr =>
   cases rr with
   | cons r'' rr =>
    cases rr;obtain⟨t,rfl⟩:=r;obtain⟨t',rfl⟩:=r';obtain⟨t'',rfl⟩:=r'';refine call_range_3 (by omega) ?_ (.inl (pU (by omega)));refine qZ (rL ..) (bf hn) ?_;have I2:AK X pins σ H1 { s1 with heap:=s1.heap.push { cls:=.type "range",data:=.fields #[.int ((n:Int)-1) t,.int (-1) t',.int (-1) t''] } }:=I1.Bx (t':=s1.toks) λb o e=>i3 _ e
    refine⟨_,[(s1.heap.push { cls:=.type "range",data:=.fields #[.int ((n:Int)-1) t,.int (-1) t',.int (-1) t''] }).objs.size],_,_,H1,rfl,I2.Bx (t':=s1.toks) λb o e=>i3 _ e,X3 _ ((n:Int)-1) (-1) n,?_,λb hb=>?_,q⟩
    ·have e1:((n:Int)-1)+((0:Nat):Int)*(-1)=(n:Int)-1:=by simp
     have e2:((n:Nat):Int)-((0:Nat):Int)=Builtin.Range.rangeSize ((n:Int)-1) (-1) (-1):=by rw[UO]; simp
     show IsRangeIter _ _ (((n:Int)-1)+((0:Nat):Int)*(-1)) (((n:Nat):Int)-((0:Nat):Int)) (-1);rw[e1,e2];exact jo _ rfl
    ·have e:b=(s1.heap.push { cls:=.type "range",data:=.fields #[.int ((n:Int)-1) t,.int (-1) t',.int (-1) t''] }).objs.size:=by simpa using hb
     subst e;exact I2.HU (i4 _) (I2.hok.Br (i4 _))
end
end L2
namespace L2
open PySem PySem.Spec PyProof.Rows PySem.W
section
variable {prog:Program} {w:World} {A:Around} {E:Value->Shared->Prop} {K:Frag} {h:Heap} {g:Array GenState} {d:Drawn} {t:Nat} {os:OsState} {a C:Addr} {o:Obj}
end
section
variable {X:Cx}
end
end L2
namespace My
open PySem L2
def BQ(H:Hp)(a:Addr):Hp:=λb=>if b=a then none else H b
theorem Hw(H:Hp)(a:Addr):BQ H a a=none:=i5 rfl
theorem IH{H:Hp}{a b:Addr}(h:b≠a):BQ H a b=H b:=iz h
theorem D5(H:Hp)(a:Addr):AN (BQ H a) H:=λb o e=>by
 by_cases h:b=a
 ·subst h; rw[Hw] at e; cases e
 ·rw[IH h] at e; exact e
theorem EH{H H':Hp}(a:Addr)(s:AN H H'):AN (BQ H a) (BQ H' a):=λb o e=>by
 by_cases h:b=a
 ·subst h; rw[Hw] at e; cases e
 ·rw[IH h] at e ⊢; exact s _ _ e
theorem OD(H:Hp)(a:Addr)(o:HO):AN (BQ H a) (AJ H a o):=λb u e=>by
 by_cases h:b=a
 ·subst h; rw[Hw] at e; cases e
 ·rw[IH h] at e; rw[Ad h]; exact e
theorem J2(H:Hp)(a:Addr)(o:HO):BQ (AJ H a o) a=BQ H a:=by
 funext b
 by_cases h:b=a
 ·subst h; rw[Hw,Hw]
 ·rw[IH h,IH h,Ad h]
theorem SE{H:Hp}{a:Addr}(h:H a=none):BQ H a=H:=by
 funext b
 by_cases z:b=a
 ·subst z; rw[Hw,h]
 ·exact IH z
theorem GW{H:Hp}{a b:Addr}{o:HO}(e:H b=some o)(h:b≠a):BQ H a b=some o:=by rw[IH h]; exact e
section
variable {α:Type} {R:Hp->Addr->α->Prop}
def At(R:Hp->Addr->α->Prop)(H:Hp)(bs:List Addr)(xs:List α):Prop:=bs.length=xs.length/\∀(i:Nat) (b:Addr) (x:α),bs[i]?=some b->xs[i]?=some x->R H b x
def Mo(R:Hp->Addr->α->Prop):Prop:=∀{H H':Hp} {b:Addr} {x:α},AN H H'->R H b x->R H' b x
theorem At.nil{H:Hp}:At R H [] []:=⟨rfl,λi b x e=>by simp at e⟩
theorem At.keep{H H':Hp}{bs:List Addr}{xs:List α}(h:At R H bs xs)(m:Mo R)(s:AN H H'):At R H' bs xs:=⟨h.1,λi b x e1 e2=>m s (h.2 i b x e1 e2)⟩
theorem At.snoc{H:Hp}{bs:List Addr}{xs:List α}{b:Addr}{x:α}(h:At R H bs xs)(r:R H b x):At R H (bs++[b]) (xs++[x]):=by
 refine⟨by simp[h.1],λi c y e1 e2=>?_⟩;have hl:=h.1;rcases jv i bs.length with z | z
 ·rw[jm z] at e1;rw[jm (by omega)] at e2;exact h.2 i c y e1 e2
 ·rw[jd z] at e1;rw[jd (by omega)] at e2;rw[hl] at e1;cases hi:i-xs.length with
  | zero=>rw[hi] at e1 e2; cases e1; cases e2; exact r
  | succ k=>rw[hi] at e1; simp at e1
theorem At.WW{H:Hp}{bs cs:List Addr}{xs ys:List α}(h:At R H bs xs)(g:At R H cs ys):At R H (bs++cs) (xs++ys):=by
 refine⟨by simp[h.1,g.1],λi c y e1 e2=>?_⟩;have hl:=h.1;rcases jv i bs.length with z | z
 ·rw[jm z] at e1;rw[jm (by omega)] at e2;exact h.2 i c y e1 e2
 ·rw[jd z] at e1;rw[jd (by omega)] at e2;rw[hl] at e1;exact g.2 _ c y e1 e2
theorem At.take{H:Hp}{bs:List Addr}{xs:List α}(h:At R H bs xs)(k:Nat):At R H (bs.take k) (xs.take k):=by
 refine⟨by simp[h.1],λi c y e1 e2=>?_⟩;rw[oQ] at e1 e2;split at e1
 ·rename_i hk; rw[i5 hk] at e2; exact h.2 i c y e1 e2
 ·cases e1
theorem At.drop{H:Hp}{bs:List Addr}{xs:List α}(h:At R H bs xs)(k:Nat):At R H (bs.drop k) (xs.drop k):=by
 refine⟨by simp[h.1],λi c y e1 e2=>?_⟩;rw[lN] at e1 e2;exact h.2 _ c y e1 e2
theorem At.set{H:Hp}{bs:List Addr}{xs:List α}{b:Addr}{x:α}(h:At R H bs xs)(k:Nat)(r:R H b x):At R H (bs.set k b) (xs.set k x):=by
 refine⟨by simp[h.1],λi c y e1 e2=>?_⟩;rw[List.getElem?_set] at e1 e2;by_cases hk:k=i
 ·subst hk;have hl:=h.1;by_cases hb:k<bs.length
  ·rw[i5 rfl,i5 hb] at e1;rw[i5 rfl,i5 (by omega)] at e2;cases e1; cases e2; exact r
  ·rw[i5 rfl,iz hb] at e1; cases e1
 ·rw[iz hk] at e1 e2;exact h.2 _ c y e1 e2
theorem At.get{H:Hp}{bs:List Addr}{xs:List α}{i:Nat}{x:α}(h:At R H bs xs)(e:xs[i]?=some x):∃b,bs[i]?=some b/\R H b x:=by
 have hi:i<bs.length:=by rw[h.1]; exact(ip.mp e).1
 exact⟨bs[i],ij hi,h.2 i _ x (ij hi) e⟩
theorem At.ref{H:Hp}{bs:List Addr}{xs:List α}{i:Nat}{v:V}(h:At R H bs xs)(e:(bs.map V.ref)[i]?=some v):∃b x,v=.ref b/\bs[i]?=some b/\xs[i]?=some x/\R H b x:=by
 rw[iy] at e;cases q:bs[i]? with
 | none=>rw[q] at e; cases e
 | some b =>
  rw[q] at e;have hi:i<xs.length:=by rw[<-h.1]; exact(ip.mp q).1
  exact⟨b,xs[i],(je e).symm,rfl,ij hi,h.2 i b _ q (ij hi)⟩
theorem CT{bs:List Addr}{i:Nat}{b:Addr}(h:bs[i]?=some b):(bs.map V.ref)[i]?=some (.ref b):=by rw[iy,h]; rfl
def A4(R:Hp->Addr->α->Prop)(H:Hp)(b:Addr)(xs:List α):Prop:=∃bs:List Addr,H b=some (.AG (bs.map V.ref))/\At R H bs xs
def Ex(R:Hp->Addr->α->Prop)(H:Hp)(b:Addr)(xs:List α):Prop:=∃bs:List Addr,H b=some (.AF (bs.map V.ref))/\At R H bs xs
theorem Fq(m:Mo R):Mo (A4 R):=λs ⟨bs,e,h⟩=>⟨bs,s _ _ e,h.keep m s⟩
theorem Lx(m:Mo R):Mo (Ex R):=λs ⟨bs,e,h⟩=>⟨bs,s _ _ e,h.keep m s⟩
end
def AS(H:Hp)(b:Addr)(q:Rat):Prop:=H b=some (.AG [.int q.num,.int q.den])
def Ce(H:Hp)(b:Addr)(ns:List Int):Prop:=H b=some (.AF (ns.map V.int))
theorem As:Mo AS:=λs h=>s _ _ h
theorem FF:Mo Ce:=λs h=>s _ _ h
theorem AS.BQ{H:Hp}{a b:Addr}{q:Rat}{ys:List V}(h:AS H b q)(e:H a=some (.AF ys)):AS (BQ H a) b q:=GW h λz=>by rw[z] at h; unfold AS at h; rw[e] at h; cases h
theorem Lz{H:Hp}{a:Addr}{ys:List V}(e:H a=some (.AF ys)){bs:List Addr}{qs:List Rat}(h:At AS H bs qs):At AS (BQ H a) bs qs:=⟨h.1,λi b x e1 e2=>(h.2 i b x e1 e2).BQ e⟩
structure Jk(J:It)(H1:Hp)(n:Nat)(f:Nat->Hp->V->Hp->Prop):Prop where
 go:∀i H2,i<n->AN H1 H2->J.go i H2
 yl:∀i H2 x H3,i<n->AN H1 H2->J.ED i H2 x H3->f i H2 x H3
 st:∀H2,AN H1 H2->J.stop n H2
section
variable {K:PySem.W.Frag}
theorem FE{H:Hp}{a:Addr}{xs:List V}(h:H a=some (.AG xs)):Jk (Jf K a) H xs.length (λi H2 x H3=>H3=H2/\xs[i]?=some x) :=
 ⟨λi H2 hi s=>⟨xs,xs[i],AI.of (s _ _ h),ij hi⟩,λi H2 x H3 _ s y=>⟨y.1,y.2 _ (AI.of (s _ _ h))⟩,λH2 s=>⟨xs,AI.of (s _ _ h),i4 _⟩⟩
theorem GO{H:Hp}{a:Addr}{xs:List V}(h:H a=some (.AF xs)):Jk (Jl K a) H xs.length (λi H2 x H3=>H3=H2/\xs[i]?=some x) :=
 ⟨λi H2 hi s=>⟨xs,xs[i],AQ.of (s _ _ h),ij hi⟩,λi H2 x H3 _ s y=>⟨y.1,y.2 _ (AQ.of (s _ _ h))⟩,λH2 s=>⟨xs,AQ.of (s _ _ h),i4 _⟩⟩
theorem Qs{H:Hp}{lo:Int}{n:Nat}:Jk (FY lo n) H n (λi H2 x H3=>H3=H2/\x=.int (lo+i)):=⟨λ_ _ hi _=>hi,λ_ _ _ _ _ _ y=>y,λ_ _=>i4 _⟩
theorem N7{H:Hp}{a b:Addr}{t1 t2:Bool}{xs ys:List V}(h1:∀H2,AN H H2->B5 t1 K H2 a xs)(h2:∀H2,AN H H2->B5 t2 K H2 b ys)(hl:xs.length=ys.length):
  Jk (Pr K t1 t2 a b) H xs.length (λi H2 x H3=>∃p u v,x=.ref p/\H2 p=none/\H3=AJ H2 p (.AG [u,v])/\xs[i]?=some u/\ys[i]?=some v) :=
 ⟨λi H2 hi s=>⟨xs,ys,xs[i],ys[i],h1 _ s,h2 _ s,ij hi,ij (by omega)⟩,λi H2 x H3 _ s y=>by
  obtain⟨p,u,v,e1,e2,e3,e4,e5⟩:=y;exact⟨p,u,v,e1,e2,e3,e4 _ (h1 _ s),e5 _ (h2 _ s)⟩,λH2 s=>⟨xs,ys,h1 _ s,h2 _ s,.inl (i4 _)⟩⟩
theorem CP {J:It} {n:Nat} {H1:Hp} {f:Nat->Hp->V->Hp->Prop} {acc:Addr} {σ0:St} {g:TG} {te:TE} {G:Hp->Prop} (r:Jk J H1 n f) (hn:n<=1000) (hacc:H1 acc=none) (Iv:Nat->List V->St->Hp->Prop) (h0:Iv 0 [] σ0 H1)
  (hs:∀(i:Nat) (ys:List V) (σ:St) (H2:Hp) (x:V) (H3:Hp),i<n->AN H1 H2->H2 acc=some (.AF ys)->Iv i ys σ (BQ H2 acc)->f i H2 x H3->∀C:St->VK,(∀(σ4:St) (v:V) (H5:Hp),AN H2 H5->Iv (i+1) (ys++[v]) σ4 (BQ H5 acc)->C σ4 v H5) →
   g x σ H3 λσ4 H4=>te σ4 H4 (C σ4))
  (fin:∀(ys:List V) (σ:St) (H2:Hp),AN H1 H2->H2 acc=some (.AF ys)->ys.length=n->Iv n ys σ (BQ H2 acc)->G H2) :
  ∃W:Nat->Nat->List V->St->Hp->Prop,(∃m,W 0 m [] σ0 (AJ H1 acc (.AF [])))/\∀i m ys σc H2,W i m ys σc H2 →
   (J.stop i H2/\G H2)\/(J.go i H2/\∀x H3,J.ED i H2 x H3->g x σc H3 λσ4 H4=>te σ4 H4 λv H5=>H5 acc=some (.AF ys)/\ys.length<sizeLine/\∃m',m' < m/\W (i+1) m' (ys++[v]) σ4 (AJ H5 acc (.AF (ys++[v])))):=by
 refine⟨λi m ys σ H2=>m=n-i/\i<=n/\AN H1 H2/\H2 acc=some (.AF ys)/\ys.length=i/\Iv i ys σ (BQ H2 acc),⟨n,rfl,jS _,?_,AU,rfl,?_⟩,?_⟩
 ·intro b o e; rw[Ad (BW e hacc)]; exact e
 ·rw[J2,SE hacc]; exact h0
 ·rintro i m ys σc H2 ⟨rfl,hi,sm,ha,hl,iv⟩;rcases jv i n with hlt | hge
  ·refine .inr ⟨r.go i H2 hlt sm,λx H3 yl=>?_⟩;refine hs i ys σc H2 x H3 hlt sm ha iv (r.yl i H2 x H3 hlt sm yl) (λσ4 v H5=>H5 acc=some (.AF ys)/\ys.length<sizeLine/\∃m',m' < n-i/\(m'=n-(i+1)/\i+1<=n/\AN H1 (AJ H5 acc (.AF (ys++[v])))/\(AJ H5 acc (.AF (ys++[v]))) acc=some (.AF (ys++[v]))/\(ys++[v]).length=i+1/\Iv (i+1) (ys++[v]) σ4 (BQ (AJ H5 acc (.AF (ys++[v]))) acc))) ?_;intro σ4 v H5 s5 iv5;refine⟨s5 _ _ ha,by rw[kn]; omega,n-(i+1),by omega,rfl,hlt,?_,AU,by simp[hl],?_⟩
   ·intro b o e; rw[Ad (BW e hacc)]; exact s5 _ _ (sm _ _ e)
   ·rw[J2]; exact iv5
  ·obtain rfl:i=n:=by omega
   exact .inl ⟨r.st H2 sm,fin ys σc H2 sm ha hl iv⟩
end
end My
namespace L2
open PySem PySem.Spec PyProof.Rows
structure Al(P:Program)(w:World)(K:PySem.W.Frag)(mg:Str->Option Value)(base:Heap)(k:Nat)(x:Str)(ps:List Str)(sp:Sp):Prop where
 ex:∃f fd,Ao P w K mg base Ay k f fd ps sp/\EW K fd ps []/\KP K f/\mg x=some (.ref f)
theorem Aa{X:Cx}{k:Nat}{x:Str}{ps:List Str}{sp:Sp}{e:Expr}{es:List Expr}{t:TA}{p pos:Pos}(c:Al X.prog X.w X.K X.mg X.base k x ps sp)(hr:Ck k X.A)(ha:PA X (e :: es) t)(hg:Gl X x:=by rfl)(hdb:(x == ("__debug__":Str))=false:=by decide)(he:starEach (e :: es) X.env=(false,eval e X.env) :: starEach es X.env:=by rfl)(hpl:(backTo pos (starEach es X.env)).any (·.1)=false:=by rfl):
  PE X (.Call (.Name x p) (e :: es) [] pos) (DI sp [] E0 t):=by
 obtain⟨f,fd,F,b,hk,hm⟩:=c.ex;exact aO F hr hg hm hk b .nil eg ha hdb he hpl
theorem A8{N P:List Str}{sc:Scope}(h1:sc.kind=.function:=by rfl)(h2:sc.isCoroutine=false:=by rfl)(h3:sc.isGenerator=false:=by rfl)(h4:N.Nodup:=by decide +kernel)(h5:N.take P.length=P:=by rfl)(h6:∀x∈P,sc.names.lookup x=some .local\/sc.names.lookup x=some .cell:=by decide +kernel)(h7:∀y∈sc.names,y.2≠.free:=by decide +kernel):A2 N P sc:=⟨h1,h2,h3,h4,h5,h6,h7⟩
theorem Ar.A9 {P:Program} {w:World} {K:PySem.W.Frag} {mg:Str->Option Value} {base:Heap} {x qual:Str} {st:Stmt} {f:Addr} {fd:FuncData} {N ps:List Str} {k:Nat} {sp:Sp} (F:Ar K x qual st f fd) (S:A2 N ps (Ap st))
  (hbody:∀(cdv:Value) (A:Around) (outer:List Env) (s:Shared) (H:Hp) (vs:List V) (Q:VK) (E:XK),Ck k (A.deeper (envOfC qual (Ap st) s.heap.objs.size f cdv))->sp vs H Q E →
   ∃t,DF (IZ Ay P w K mg base N qual (Ap st) f cdv A outer s H E).Gm (El st) t/\t { nx:=λ_ H'=>Q .BD H',rt:=Q } (Gd N vs) H) (len:∀vs H Q E,sp vs H Q E->vs.length=ps.length:=by (rintro vs H Q E ⟨⟩; subst_vars; rfl)):Ao P w K mg base Ay (k+1) f fd ps sp:=F.ok S len hbody
theorem nw{H:Hp}{p:Addr}(h:H p=none)(o:HO):∃H',AJ H p o=H'/\AN H H'/\H' p=some o:=⟨_,rfl,λb u q=>by rw[Ad (BW q h)]; exact q,AU⟩
end L2
namespace My
open PySem L2
theorem Ky{H:Hp}{p:Addr}(h:H p=none)(q:Rat):∃H',AJ H p (.AG [.int q.num,.int q.den])=H'/\AN H H'/\AS H' p q:=nw h _
open PySem.Spec PyProof.Rows
section
variable {X:Cx} {pins:List (Addr×Obj)} {σ:L2.St} {H:Hp} {s:Shared}
theorem At.cons_inv{α:Type}{R:Hp->Addr->α->Prop}{b:Addr}{bs:List Addr}{xs:List α}(h:At R H (b :: bs) xs):∃x ys,xs=x :: ys/\R H b x/\At R H bs ys:=by
 cases xs with
 | nil=>exact absurd h.1 (by simp)
 | cons x ys =>
  refine⟨x,ys,rfl,h.2 0 b x rfl rfl,by have:=h.1; simp at this; exact this,λi c y e1 e2=>h.2 (i+1) c y (by simpa using e1) (by simpa using e2)⟩
end
end My
namespace L2
open PySem PySem.Spec PyProof.Rows
section
variable {X:Cx}
def bt:V->List V->Hp->VK->Prop:=λx vs H Q=>∃(l:Addr) (ns:List Int) (k:Int),x=.ref l/\vs=[.int k]/\H l=some (.AF (ns.map V.int))/\k∈ns/\ns.length<=1000000/\Q (.int ((ns.idxOf k:Nat):Int)) H
theorem NT:Ja X "list.index" bt:=by
 intro pins s σ H x vs v us Q I rx rv h;obtain⟨l,ns,k,rfl,rfl,hH,hk,hz,q⟩:=h;cases rx;obtain⟨u,rfl,ru⟩:=rv.Aq;obtain⟨t,rfl⟩:=ru;obtain⟨z,its,n,r,hl,e⟩:=I.HV hH;have hi:=Mh r;have hlen:=hi.length;have hj:ns.idxOf k<ns.length:=kF.mpr hk;refine nQ mC ⟨_,e,rfl⟩ PySem.F.entry_list_index (PySem.F.args_list_index_2 _ _)
  (MeetsSeq.list_index l its.toArray n (.int k t) (isInt k) (λy hy=>eq_isInt k t hi y (by simpa using hy)) (ns.idxOf k) (by simpa [hlen] using hj) (by omega) ?_ ?_) ⟨e,⟨.int ((ns.idxOf k:Nat):Int),H,I.Dk _,⟨_,rfl⟩,q⟩⟩
 ·show isInt k its[ns.idxOf k]=true;rw[r9 k hi _ (by omega) hj];simpa using oR hj
 ·intro j hjs hlt;show isInt k its[j]=false;rw[r9 k hi j (by simpa using hjs) (by omega)];exact ne_of_lt_idxOf hlt _
theorem Xp(ns:List Int):(ns.map V.int).all FL=true:=by
 induction ns with
 | nil=>rfl
 | cons n ns ih=>rw[i8,qu,ih]; rfl
theorem RW(k:Int)(ns:List Int):Jg (.int k) (ns.map V.int)=decide (k∈ns):=by
 unfold Jg
 induction ns with
 | nil=>rfl
 | cons n ns ih =>
  rw[i8,m5,ih];have e:Gk (.int n) (.int k)=decide (k=n):=by
   show decide (n=k)=decide (k=n);by_cases h:n=k
   ·rw[kc h,kc h.symm]
   ·rw[kz h,kz (λz=>h z.symm)]
  rw[e];by_cases h:k=n
  ·simp[h]
  ·simp[h]
variable {K:PySem.W.Frag}
theorem iL(h:X.K=K:=by rfl):K7 X (Fy K):=h ▸ Bu
theorem iQ(h:X.K=K:=by rfl):K7 X (HX K):=h ▸ B8
theorem pT(K:PySem.W.Frag){X:Cx}{a b:PySem.Expr}{ta tb:TE}{pos:Pos}(ha:PE X a ta)(hb:PE X b tb)(hs:Ni b:=by exact λ_ _=>rfl)(h:X.K=K:=by rfl):PE X (.Subscript a b pos) (Bd (Fy K) ta tb):=A6 (iL h) ha hb hs
theorem pL(K:PySem.W.Frag){X:Cx}{a b:PySem.Expr}{ta tb:TE}{pos:Pos}(ha:PE X a ta)(hb:PE X b tb)(hs:Ni b:=by exact λ_ _=>rfl)(h:X.K=K:=by rfl):PE X (.Subscript a b pos) (Bd (HX K) ta tb):=A6 (iQ h) ha hb hs
theorem Wb(h:X.K=K:=by rfl):Ig X (Pf K):=h ▸ KU
theorem K8(h:X.K=K:=by rfl):Ig X (V4 K):=h ▸ Lb
theorem Bb(h:X.K=K:=by rfl):DJ X (.builtin "len") (MR K):=h ▸ Jm
theorem Fj(h:X.K=K:=by rfl):DJ X (.type "tuple") (λxs H Q=>∃p ys,xs=[.ref p]/\((AQ K H p ys/\∀l,H l=none->Q (.ref l) (AJ H l (.AG ys)))\/(AI K H p ys/\Q (.ref p) H))):=h ▸ Fb
theorem aD(h:X.K=K:=by rfl):DJ X (.type "list") (λxs H Q=>∃p ys,xs=[.ref p]/\(AQ K H p ys\/AI K H p ys)/\∀l,H l=none->Q (.ref l) (AJ H l (.AF ys))):=h ▸ P6
theorem Ds {es:List PySem.Expr} {k:Nat} {t:GG} {n:Nat} {pos:Pos} (hc:X.Ci=true) (g:K4 X es t) (h:X.K=K:=by rfl)
  (hn:(assignEach es X.env).length=n:=by rfl) (hst:(assignEach es X.env).findIdx? (·.1)=none:=by rfl):PG X (.Tuple es k pos) (IW K n t):=h ▸ II hc g hn hst
theorem Fx{tg l:PySem.Expr}{tl:TE}(hl:PE X l tl)(h:X.K=K:=by rfl):PI X tg l (PU K tl):=h ▸ Fs hl
theorem Ki{tg l:PySem.Expr}{tl:TE}(hl:PE X l tl)(h:X.K=K:=by rfl):PI X tg l (U9 K tl):=h ▸ JH hl
end
section
variable {prog:Program} {w:World} {A:Around} {E:Value->Shared->Prop} {s:Shared}
end
section
variable {X:Cx}
end
end L2
namespace L2
open PySem PySem.Spec PyProof.Rows PySem.SeqAt
section
variable {prog:Program} {w:World} {A:Around} {E:Value->Shared->Prop}
abbrev V6(items:Array Value)(x:Value):Nat->Option PySem.Fin×PUnit->Sem (ForInStep (Option PySem.Fin×PUnit)):=λi _=>match items[i]? with
 | some y=>do let b <-eqBool y x; if b=true then (do let r <-retInt (i:Int); pure (ForInStep.done (some r,()))) else pure (ForInStep.yield (none,()))
 | _=>pure (ForInStep.yield (none,()))
theorem Za(items:Array Value)(x:Value)(e:Value->Bool)(j:Nat)(hj:j<items.size)(hit:e items[j]=true)(hno:∀m (hm:m<items.size),m<j->e items[m]=false){Q:Option PySem.Fin×PUnit->Shared->Prop}:
  ∀(k i:Nat) (s:Shared),i+k=j->(∀y,y∈items->EqAt A s y x (e y))->Q (some (.done (.ret (.int j s.toks))),()) { s with toks:=s.toks+1 } →
   wpAny (model prog w) A (forIn (List.range' i (items.size-i) 1) ((none:Option PySem.Fin),()) (V6 items x)) Q E s:=by
 intro k
 induction k with
 | zero =>
  intro i s hi he q;have e1:i=j:=by omega
  subst e1;rw[show items.size-i=(items.size-i-1)+1 by omega,rX,ou];refine iu ?_;show wpAny _ _ (match items[i]? with | some y=>_ | _=>_) _ _ s;rw[show items[i]?=some items[i] by simp[hj]];refine iu (he _ (rf hj) prog w _ _ ?_);rw[hit]
  wp_walk
  exact q
 | succ k ih =>
  intro i s hi he q;have hl:i<items.size:=by omega
  rw[show items.size-i=(items.size-(i+1))+1 by omega,rX,ou];refine iu ?_;show wpAny _ _ (match items[i]? with | some y=>_ | _=>_) _ _ s;rw[show items[i]?=some items[i] by simp[hl]];refine iu (he _ (rf hl) prog w _ _ ?_);rw[hno i hl (by omega)];exact jk (ih (i+1) s (by omega) he q)
set_option maxHeartbeats 1000000 in
theorem Ws (t:Addr) (items:Array Value) (n:Nat) (dd:Option Addr) (sl:Array (Option Value)) (x:Value) (e:Value->Bool) (j:Nat) (hj:j<items.size)
  (hit:e items[j]=true) (hno:∀m (hm:m<items.size),m<j->e items[m]=false) :
  Meets (Builtin.«tuple.index» ⟨[.ref t,x],[]⟩) (λA R s=>s.heap.get? t=some { cls:=.type "tuple",dict:=dd,data:=.seq items n,slots:=sl }/\(∀y,y∈items->EqAt A.in1 s y x (e y))/\R (.ok (.ret (.int j s.toks))) { s with toks:=s.toks+1 }):=by
 intro prog w A R s h;obtain⟨hp,g,d,tk,os⟩:=s; obtain⟨ht,he,h⟩:=h
 wp_walk using l7 ht
 show wpAny (model prog w) A.in1 (forIn [:min items.size items.size] ((none:Option PySem.Fin),()) (V6 items x)) _ _ _;rw[qE];simp only[Std.Legacy.Range.size,Nat.min_self,Nat.sub_zero,Nat.add_sub_cancel,Nat.div_one];refine Za (A:=A.in1) items x e j hj hit hno j 0 _ (by omega) he ?_
 wp_walk
 exact h
end
section
variable {X:Cx}
def bP:V->List V->Hp->VK->Prop:=λx vs H Q=>∃(l:Addr) (ns:List Int) (k:Int),x=.ref l/\vs=[.int k]/\H l=some (.AG (ns.map V.int))/\k∈ns/\Q (.int ((ns.idxOf k:Nat):Int)) H
theorem Xn:Ja X "tuple.index" bP:=by
 intro pins s σ H x vs v us Q I rx rv h;obtain⟨l,ns,k,rfl,rfl,hH,hk,q⟩:=h;cases rx;obtain⟨u,rfl,ru⟩:=rv.Aq;obtain⟨t,rfl⟩:=ru;obtain⟨its,r,⟨⟨c,dct,dt,sl⟩,e,hc,n,hd⟩,_⟩:=I.tuple (AI.of (K:=X.K) hH);obtain rfl:c=.type "tuple":=hc;obtain rfl:dt=.seq its.toArray n:=hd;have hi:=Mh r;have hlen:=hi.length;have hj:ns.idxOf k<ns.length:=kF.mpr hk;refine nQ pG ⟨_,e,rfl⟩ PySem.F.entry_tuple_index (PySem.F.args_tuple_index_2 _ _)
  (Ws l its.toArray n dct sl (.int k t) (isInt k) (ns.idxOf k) (by simpa [hlen] using hj) ?_ ?_) ⟨e,λy hy=>(eq_isInt k t hi y (by simpa using hy)).at _ _,⟨.int ((ns.idxOf k:Nat):Int),H,I.Dk _,⟨_,rfl⟩,q⟩⟩
 ·show isInt k its[ns.idxOf k]=true;rw[r9 k hi _ (by omega) hj];simpa using oR hj
 ·intro j hjs hlt;show isInt k its[j]=false;rw[r9 k hi j (by simpa using hjs) (by omega)];exact ne_of_lt_idxOf hlt _
end
end L2
namespace HT
open PySem PySem.Spec PyProof.Rows L2
section
variable {prog:Program} {w:World} {A:Around} {E:Value->Shared->Prop} {s:Shared}
theorem Wm {t sl:Addr} {items:Array Value} {vl vu:Value} {lo hi:Option Int} {Q:Value->Shared->Prop} (ht:IsTup s.heap t items) (hs:s.heap.IsSliceOf sl vl vu .none) (pl:IsPart vl lo) (pu:IsPart vu hi)
  (hw:Ag items.size 0 lo=0/\Ag items.size items.size hi=items.size) (h:Q (.ref t) s):wpAny (model prog w) A (getItem (.ref t) (.ref sl)) Q E s:=by
 obtain⟨os,hos,hcs,hds⟩:=id hs;have hTs:s.TypeIs (.ref sl) "slice":=⟨os,hos,hcs⟩; unfold getItem; try with_reducible refine lW ?_
 first | refine iu (jk ?_) | skip
 refine iu (rJ ht.typeIs (by decide) (iu (kZ (name:=Str.ofString "__getitem__") ht.typeIs kr (lL kr ht.typeIs qF ?_ (qW _ _)))));show wpAny _ _ (Builtin.Tuple.tupleItemsOf (.ref t) >>= _) _ _ s; refine iu (tupleItemsOf_ ht (iu (pI hTs ?_)));rw[i5 (by decide)]; refine iu (P2 hs pl pu ?_);have yes:((((Ag items.size 0 lo:Nat):Int) == 0 && (1:Int) == 1 && (Ag items.size items.size hi-Ag items.size 0 lo) == items.size)=true):=by rw[hw.1,hw.2]; simp
 show wpAny _ _ (if (((Ag items.size 0 lo:Nat):Int) == 0 && (1:Int) == 1 && (Ag items.size items.size hi-Ag items.size 0 lo) == items.size)=true then _ else _) _ _ s; rw[i5 yes];unfold Builtin.Tuple.tupleIsExact; refine iu ?_
 first | refine iu (pI ht.typeIs (jk ?_)) | refine pI ht.typeIs ?_
 first
  | (rw[i5 (by decide)]; refine iu (pB (jk ⟨_,rfl,jk h⟩)))
  | (rw[i5 (by rfl)]; exact iu (pB (jk ⟨_,rfl,jk h⟩)))
end
end HT
namespace L2
open PySem PySem.Spec PyProof.Rows
section
variable {X:Cx} {K:PySem.W.Frag}
def Oh(K:PySem.W.Frag):V->Option Int->Option Int->Hp->VK->Prop:=λx lo hi H Q=>∃a xs,x=.ref a/\AI K H a xs /\
 ((HT.Ag xs.length 0 lo=0/\HT.Ag xs.length xs.length hi=xs.length)->Q (.ref a) H)/\(¬(HT.Ag xs.length 0 lo=0/\HT.Ag xs.length xs.length hi=xs.length)->∀p,H p=none->Q (.ref p) (AJ H p (.AG (Cu xs lo hi))))
theorem bU:Ig X (Oh X.K):=by
 intro pins s σ H x v vl vu lo hi sl Q I rx hs pl pu h;obtain⟨a,xs,rfl,hx,q1,q2⟩:=h;by_cases hw:HT.Ag xs.length 0 lo=0/\HT.Ag xs.length xs.length hi=xs.length
 ·cases rx;obtain⟨its,r,ht,hz⟩:=I.tuple hx;have hlen:its.toArray.size=xs.length:=by rw[ja]; exact r.length.symm
  exact⟨"tuple",_,kr.lookup,ht.typeIs,HT.Wm ht hs pl pu (by rw[hlen]; exact hw) ⟨.ref a,H,I,rfl,q1 hw⟩⟩
 ·exact KU pins s σ H _ v vl vu lo hi sl Q I rx hs pl pu ⟨a,xs,rfl,hx,hw,q2 hw⟩
theorem V9(h:X.K=K:=by rfl):Ig X (Oh K):=h ▸ bU
theorem Zv{pins:List (Addr×Obj)}{σ:St}{H:Hp}{s:Shared}{p:Addr}{xs:List V}(I:AK X pins σ H s)(ty:H p=some (.AG xs)):
  s.TypeIs (.ref p) "tuple"/\∀a,Value.ref p=.ref a->∃ob,s.heap.get? a=some ob/\ob.dict=none:=by
 obtain⟨_,its,r,⟨o,e,c⟩,o2,e2,c2⟩:=I.hok p _ ty;exact⟨⟨o,e,c.1⟩,λa ea=>by cases ea; exact⟨o2,e2,c2⟩⟩
def iH(r:V->List V->Hp->VK->Prop)(to:TE)(t:TA):TE:=λσ H Q=>to σ H λx H1=>(∃p xs,x=.ref p/\H1 p=some (.AG xs))/\t σ H1 λxs H2=>r x xs H2 Q
variable {o e:Expr} {es:List Expr} {to:TE} {t:TA} {name:Str} {apos cpos:Pos} {id:String} {r:V->List V->Hp->VK->Prop}
theorem dG (pa:PlainAttrs "tuple") (slot:Slot "tuple" name id) (hty:typeOf (.builtin id)=pure (.type "method_descriptor")) (hm:Ja X id r) (ho:PE X o to) (ha:PA X (e :: es) t)
  (hbase:attributeBase o name X.env (eval o X.env)=eval o X.env:=by rfl)
  (hfew:((backTo cpos (starEach (e :: es) X.env)).all (λx=>!x.1) && (backToKw cpos (keywordEach [] X.env)).all (λx=>x.1.isSome)
   && decide ((e :: es).length+([]:List Keyword).length+(if ([]:List Keyword).isEmpty then 0 else 1)<30))=true:=by rfl)
  (hline:(apos.endLine == cpos.line)=true:=by rfl) (hs:starEach (e :: es) X.env=(false,eval e X.env) :: starEach es X.env:=by rfl) (hplain:(backTo cpos (starEach es X.env)).any (·.1)=false:=by rfl) :
  PE X (.Call (.Attribute o name apos) (e :: es) [] cpos) (iH r to t):=by
 intro pins s σ H Q I h;refine p6 hbase hfew hline rfl (Af (ho pins s σ H _ I h) λv s1 ⟨x,H1,I1,r1,⟨p,xs,ex,hp⟩,q1⟩=>?_);subst ex;cases r1;obtain⟨h1,h2⟩:=Zv I1 hp;refine⟨"tuple",id,pa,slot,hty,h1,h2,?_⟩;have hA:=ha cpos pins s1 σ H1 _ I1 q1;rw[hs] at hA ⊢;refine pS (by show(false || (backTo cpos (starEach es X.env)).any (·.1))=false; rw[hplain] <;> rfl) (qp ?_);exact Af hA λus s2 ⟨vs,H2,I2,r2,q2⟩=>hm pins s2 σ H2 (.ref p) vs (.ref p) us Q I2 rfl r2 q2
inductive Dh(H:Hp):V->PyData->Prop
 | int (i:Int):Dh H (.int i) (.int i)
 | bl (b:Bool):Dh H (.bl b) (.bool b)
 | str (z:Str):Dh H (.str z) (.str z)
 | AG {p:Addr} {xs:List V} {ds:List PyData} (h:H p=some (.AG xs)) (hl:xs.length=ds.length) (hd:∀(i:Nat) (x:V) (d:PyData),xs[i]?=some x->ds[i]?=some d->Dh H x d):Dh H (.ref p) (.tuple ds)
theorem Dh.keep{H H':Hp}(s:AN H H'){v:V}{d:PyData}(h:Dh H v d):Dh H' v d:=by
 induction h with
 | int i=>exact .int i
 | bl b=>exact .bl b
 | str z=>exact .str z
 | AG h hl hd ih=>exact .AG (s _ _ h) hl ih
variable {pins:List (Addr×Obj)} {σ:L2.St} {H:Hp} {s:Shared}
theorem Mx(h:Heap):∀{xs:List V} {its:List Value} {ds:List PyData},Ah xs its->xs.length=ds.length->(∀(i:Nat) (x:V) (d:PyData),xs[i]?=some x->ds[i]?=some d->∀u,Aw x u->Reads h u d [])->ReadsAll h its ds []
 | [],_,ds,.nil,hl,_=>by
  have:ds=[]:=ku.mp hl.symm
  subst this;exact .nil
 | x :: xs,_,[],_,hl,_=>by simp at hl
 | x :: xs,_,d :: ds,.cons r rs,hl,hd =>
  .cons (as:=[]) (bs:=[]) (hd 0 x d rfl rfl _ r) (Mx h rs (by simpa using hl) λi x' d' e1 e2=>hd (i+1) x' d' (by simpa using e1) (by simpa using e2))
theorem KQ(I:AK X pins σ H s){v:V}{d:PyData}(h:Dh H v d):∀u,Aw v u->Reads s.heap u d []:=by
 induction h with
 | int i =>
  intro u r;obtain⟨t,rfl⟩:=r;exact .int _ _
 | bl b =>
  intro u r;cases r;exact .bool _
 | str z =>
  intro u r;obtain⟨t,rfl⟩:=r;exact .str _ _
 | AG h hl hd ih =>
  intro u r;cases r;obtain⟨its,rv,tp,_⟩:=I.tuple (AI.of (K:=X.K) h);obtain⟨o,ho,hc,n,hd'⟩:=tp;exact .tuple ho hc hd' (by simpa using Mx s.heap rv hl ih)
inductive Dw:Nat->PyData->Prop
 | int {n:Nat} (i:Int):Dw n (.int i)
 | bl {n:Nat} (b:Bool):Dw n (.bool b)
 | AG {n:Nat} {ds:List PyData} (h:∀d∈ds,Dw n d):Dw (n+1) (.tuple ds)
theorem La:∀{ds:List PyData},(∀d∈ds,d.canLay0=true)->PyData.canLayAll0 ds=true
 | [],_=>rfl
 | d :: ds,h=>by
  simp only[PyData.canLayAll0,kL];exact⟨h d (by simp),La λx hx=>h x (by simp[hx])⟩
theorem NO{n:Nat}:∀{ds:List PyData},(∀d∈ds,d.depth<=n)->PyData.depthAll ds<=n
 | [],_=>jS _
 | d :: ds,h=>by
  have:=NO (ds:=ds) λx hx=>h x (by simp[hx])
  have:=h d (by simp)
  simp only[PyData.depthAll];omega
theorem Dw.ok{n:Nat}{d:PyData}(h:Dw n d):d.canLay0=true/\d.depth<=n+1:=by
 induction h with
 | int i=>exact⟨rfl,by simp[PyData.depth]⟩
 | bl b=>exact⟨rfl,by simp[PyData.depth]⟩
 | @AG n ds h ih =>
  refine⟨by simp only[PyData.canLay0]; exact La λd hd=>(ih d hd).1,?_⟩
  have:=NO λd hd=>(ih d hd).2
  simp only[PyData.depth];omega
theorem Dw.shaped{n:Nat}{d:PyData}(h:Dw n d)(hn:n<=60):SeqAt.shaped d=true:=by
 unfold SeqAt.shaped;rw[kL];exact⟨h.ok.1,kc (by have:=h.ok.2; omega)⟩
def UC(b:Bool):R2:=λx y H Q=>∃(n:Nat) (d:PyData),n<=60/\Dh H x d/\Dh H y d/\Dw n d/\Q (.bl b) H
theorem cC(hu:X.A.units+64<cLine):Bo X (compareOp .Eq) (UC true):=by
 intro pins s σ H x y v u Q I rx ry h;obtain⟨n,d,hn,hx,hy,sh,k⟩:=h;refine eq_dataH (KQ I hx v rx) (KQ I hy u ry) (sh.shaped hn) (sh.shaped hn) hu ?_;rw[qk _ sh.ok.1];exact⟨.bl true,H,I,rfl,k⟩
theorem OL(hu:X.A.units+64<cLine):Bo X (compareOp .NotEq) (UC false):=by
 intro pins s σ H x y v u Q I rx ry h;obtain⟨n,d,hn,hx,hy,sh,k⟩:=h;refine ne_dataH (KQ I hx v rx) (KQ I hy u ry) (sh.shaped hn) (sh.shaped hn) hu ?_;rw[qk _ sh.ok.1];exact⟨.bl false,H,I,rfl,k⟩
theorem shp{d:PyData}(h:d.canLay0=true/\d.depth<=64):SeqAt.shaped d=true:=by
 unfold SeqAt.shaped;rw[kL];exact⟨h.1,kc h.2⟩
end
section
variable {X:Cx}
theorem YM(hc:X.Ci=true):DJ X (.builtin "min") (λxs H Q=>∃(p:Addr) (ns:List Int),xs=[.ref p]/\H p=some (.AF (ns.map V.int))/\0<ns.length/\∀m,m∈ns->(∀a∈ns,m<=a)->Q (.int m) H):=by
 intro pins s σ H xs us Q I r h;obtain⟨p,ns,rfl,hp,hne,q⟩:=h;obtain⟨u,rfl,r1⟩:=Er r;cases r1;obtain⟨_,its,n,rv,_,e⟩:=I.HV hp;have pa:s.heap.IsList p its.toArray:=⟨_,e,rfl,n,rfl⟩;have hlen:its.length=ns.length:=by rw[<-rv.length,ig]
 have hlt:p<s.heap.objs.size:=jj e;have num:∀i v,its.toArray[i]?=some v->∃t,v=.int (ns.getD i 0) t/\i<ns.length:=λi v hv=>by
  rw[lu] at hv;have hi:i<its.length:=(ip.mp hv).1;have hi2:i<ns.length:=by omega
  have hx:(ns.map V.int)[i]?=some (.int ns[i]):=by rw[iy,ij hi2]; rfl
  obtain⟨u,hu,ru⟩:=rv.get hx;rw[hu] at hv;obtain rfl:u=v:=je hv;obtain⟨t,rfl⟩:=ru;exact⟨t,by rw[ir,ij hi2]; rfl,hi2⟩
 refine call_min_walk (lI pa ?_);refine⟨s.heap.objs.size,_,_,_,_,_,λi j=>decide (ns.getD i 0<ns.getD j 0),rfl,Walks.list (show X.A.in1.handled=none from I.ok.hd hc) _ p (jM hlt) its.toArray,⟨⟨_,jo _ rfl,rfl,rfl⟩,pa.push _⟩,λb hb=>?_,by rw[ja]; omega,λi j vi vj s' Q' E' hi hj hQ'=>?_,λv h' tk hv k=>?_⟩
 ·simp only[jh,jP,kN] at hb;rw[kX];rcases hb with rfl | rfl
  ·exact pF _
  ·exact lX hlt
 ·obtain⟨t1,rfl,_⟩:=num i vi hi;obtain⟨t2,rfl,_⟩:=num j vj hj;exact lt_int hQ'
 ·obtain⟨t,rfl,hb⟩:=num _ v hv;obtain⟨h1,h2⟩:=sG (λi=>ns.getD i 0) (its.toArray.size-1);refine⟨.int _,H,I.Bx λb o eb=>?_,⟨t,rfl⟩,q _ (getD_mem hb) λa ha=>?_⟩
  ·exact k b o (λz=>by
    have:b=s.heap.objs.size:=by simpa using z
    exact absurd (jj eb) (by rw[this]; exact kW _)) (i3 _ eb)
  ·obtain⟨j,hj,rfl⟩:=mem_getD ha;exact h2 j (by rw[ja]; omega)
end
section
variable {prog:Program} {w:World} {A:Around} {E:Value->Shared->Prop} {s:Shared}
end
section
variable {X:Cx}
end
def hZ(ta:TE):TE:=λσ H Q=>ta σ H λv H1=>∃n:Nat,v=.int (n:Int)/\n<=1000/\∀l,H1 l=none->Q (.ref l) (AJ H1 l (.AF ((List.range n).map λi:Nat=>V.int (i:Int))))
theorem Ri:∀{xs:List V} {us:List Value},xs.length=us.length->(∀(i:Nat) (x:V) (u:Value),xs[i]?=some x->us[i]?=some u->Aw x u)->Ah xs us
 | [],[],_,_=>.nil
 | [],_ :: _,h,_=>by simp at h
 | _ :: _,[],h,_=>by simp at h
 | x :: xs,u :: us,h,g=>.cons (g 0 x u rfl rfl) (Ri (by simpa using h) λi y v e1 e2=>g (i+1) y v (by simpa using e1) (by simpa using e2))
theorem LZ:bootBuiltins "list" = some (.type "list"):=by decide +kernel
section
variable {X:Cx}
theorem Wv {a:PySem.Expr} {ta:TE} {p p' rpos pos:Pos} (hc:X.Ci=true) (hg:Gl X "list") (hm:X.mg "list" = none) (hg2:Gl X "range") (hm2:X.mg "range" = none) (ha:PE X a ta)
  (hs:starEach [.Call (.Name "range" p') [a] [] rpos] X.env=[(false,eval (.Call (.Name "range" p') [a] [] rpos) X.env)]:=by rfl) (hs2:starEach [a] X.env=[(false,eval a X.env)]:=by rfl) :
  PE X (.Call (.Name "list" p) [.Call (.Name "range" p') [a] [] rpos] [] pos) (hZ ta):=by
 intro pins s σ H Q I h;refine mJ (FI I hg hm LZ ?_ (by decide) (by decide));refine j5 ?_ (by rw[hs]; rfl) (by rfl);rw[hs];refine qJ ?_;refine mJ (FI I hg2 hm2 qt ?_ (by decide) (by decide));have PAl:PA X [a] (BI ta By):=AA ha AB (by rw[hs2]; rfl);have hq:BI ta By σ H (λvs H1=>match vs with
   | [v]=>∃n:Nat,v=.int (n:Int)/\n<=1000/\∀l,H1 l=none->Q (.ref l) (AJ H1 l (.AF ((List.range n).map λi:Nat=>V.int (i:Int))))
   | _=>False):=h
 refine j5 (Af (PAl rpos pins _ σ H _ I hq) λus s2 ⟨vs,H2,I2,r2,q2⟩=>?_) (by rw[hs2]; rfl) (by rfl);cases r2 with
 | nil=>exact False.elim q2
 | cons r rr =>
  cases rr with
  | cons _ _=>exact False.elim q2
  | nil =>
   obtain⟨n,rfl,hn,q⟩:=q2;obtain⟨t,rfl⟩:=r;refine call_range_1 (rh ?_);refine call_list_range (n:=n) (I2.ok.hd hc) (rL ..) (small_one (by omega) (by omega) (by omega) (by omega)) (by rw[rangeSize_one]; split <;> omega) (by omega) λh' tk acc c hk hS hI=>?_
   obtain⟨hl,hI⟩:=hI;have hz:((List.range n).map λi:Nat=>V.int (i:Int)).length<=sizeLine:=by rw[ig,jN,kn]; omega
   have rv:Ah ((List.range n).map λi:Nat=>V.int (i:Int)) acc.toList:=by
    refine Ri (by rw[ig,jN,kR,hl]) λi x u e1 e2=>?_
    have hi:i<n:=by
     have:=(ip.mp e2).1
     rw[kR,hl] at this;exact this
    rw[iy,j4 hi] at e1;obtain⟨t',ht⟩:=hI i u (by rw[<-Array.getElem?_toList]; exact e2);cases e1;exact⟨t',by rw[ht]; congr 1; omega⟩
   have fin:∀h1:Heap,(∀b o,s2.heap.get? b=some o->h1.get? b=some o)->(∀b o,h1.get? b=some o->h'.get? b=some o)->h'.get? h1.objs.size=some { cls:=.type "list",dict:=none,data:=.seq acc c,slots:=#[] }->EP X pins σ Q (.ref h1.objs.size) { s2 with heap:=h',toks:=tk }:=λh1 k1 k2 hS=>by
    have I3:=I2.Bx (h':=h1) (t':=tk) k1;exact⟨.ref _,_,I3.Df (t':=tk) k2 (i4 _) (show Bk X.prog X.w _ h' _ (.AF _) from ⟨hz,acc.toList,c,rv,hS⟩),rfl,q _ (I3.hok.Br (i4 _))⟩
   exact fin _ (λb o e=>i3 _ e) hk hS
end
section
variable {prog:Program} {w:World} {A:Around} {E:Value->Shared->Prop} {s:Shared}
end
section
variable {X:Cx}
end
section
variable {X:Cx}
theorem YR(hc:X.Ci=true):DJ X (.builtin "max") (λxs H Q=>∃(p:Addr) (ns:List Int),xs=[.ref p]/\H p=some (.AG (ns.map V.int))/\0<ns.length/\∀m,m∈ns->(∀a∈ns,a<=m)->Q (.int m) H):=by
 intro pins s σ H xs us Q I r h;obtain⟨p,ns,rfl,hp,hne,q⟩:=h;obtain⟨u,rfl,r1⟩:=Er r;cases r1;obtain⟨its,rv,pa,_⟩:=I.tuple (AI.of (K:=X.K) hp);have hlen:its.length=ns.length:=by rw[<-rv.length,ig]
 have hlt:p<s.heap.objs.size:=by
  obtain⟨o,ho,_⟩:=id pa;exact jj ho
 have num:∀i v,its.toArray[i]?=some v->∃t,v=.int (ns.getD i 0) t/\i<ns.length:=λi v hv=>by
  rw[lu] at hv;have hi:i<its.length:=(ip.mp hv).1;have hi2:i<ns.length:=by omega
  have hx:(ns.map V.int)[i]?=some (.int ns[i]):=by rw[iy,ij hi2]; rfl
  obtain⟨u,hu,ru⟩:=rv.get hx;rw[hu] at hv;obtain rfl:u=v:=je hv;obtain⟨t,rfl⟩:=ru;exact⟨t,by rw[ir,ij hi2]; rfl,hi2⟩
 refine call_max_walk (kK pa ?_);refine⟨s.heap.objs.size,_,_,_,_,_,λi j=>decide (-(ns.getD i 0) < -(ns.getD j 0)),rfl,Walks.tuple (show X.A.in1.handled=none from I.ok.hd hc) _ p (jM hlt) its.toArray,⟨⟨_,jo _ rfl,rfl,rfl⟩,pa.push _⟩,λb hb=>?_,by rw[ja]; omega,λi j vi vj s' Q' E' hi hj hQ'=>?_,λv h' tk hv k=>?_⟩
 ·simp only[jh,jP,kN] at hb;rw[kX];rcases hb with rfl | rfl
  ·exact pF _
  ·exact lX hlt
 ·obtain⟨t1,rfl,_⟩:=num i vi hi;obtain⟨t2,rfl,_⟩:=num j vj hj;refine gt_int ?_;have e:decide (ns.getD j 0<ns.getD i 0)=decide (-(ns.getD i 0) < -(ns.getD j 0)):=by
   rw[mD,lY,lY];omega
  first
   | (rw[e]; exact hQ')
   | (rw[show decide (ns.getD i 0 > ns.getD j 0)=decide (-(ns.getD i 0) < -(ns.getD j 0)) from e]; exact hQ')
 ·obtain⟨t,rfl,hb⟩:=num _ v hv;obtain⟨h1,h2⟩:=sG (λi=>-(ns.getD i 0)) (its.toArray.size-1);refine⟨.int _,H,I.Bx λb o eb=>?_,⟨t,rfl⟩,q _ (getD_mem hb) λa ha=>?_⟩
  ·exact k b o (λz=>by
    have:b=s.heap.objs.size:=by simpa using z
    exact absurd (jj eb) (by rw[this]; exact kW _)) (i3 _ eb)
  ·obtain⟨j,hj,rfl⟩:=mem_getD ha
   have:=h2 j (by rw[ja]; omega)
   have h3:-(ns.getD (argBest (λi j=>decide (-(ns.getD i 0) < -(ns.getD j 0))) (its.toArray.size-1)) 0)<=-(ns.getD j 0):=this;omega
def da(K:PySem.W.Frag):R2:=λx y H Q=>∃a b xs ys,x=.ref a/\y=.ref b/\AI K H a xs/\AI K H b ys/\ys≠[]/\xs.length+ys.length<=sizeLine /\
 (xs=[]->Q (.ref b) H)/\(xs≠[]->∀p,H p=none->Q (.ref p) (AJ H p (.AG (xs++ys))))
theorem aX:Bo X (binaryOp .Add) (da X.K):=by
 intro pins s σ H x y v u Q I rx ry h;obtain⟨a,b,xs,ys,rfl,rfl,ha,hb,hy,hz,q1,q2⟩:=h;by_cases hx:xs=[]
 ·cases rx;cases ry;obtain⟨its,r1,p1,_⟩:=I.tuple ha;obtain⟨its2,r2,p2,_⟩:=I.tuple hb;have e0:its=[]:=r1.KD.mpr hx;obtain⟨⟨cls,dd,data,sl⟩,ho,hc,n,hd⟩:=id p1;obtain⟨⟨cls2,dd2,data2,sl2⟩,ho2,hc2,n2,hd2⟩:=id p2;simp only at hc hd hc2 hd2;subst hc hd hc2 hd2;exact pH ⟨_,ho,rfl⟩ ⟨_,ho2,rfl⟩ om oZ mL mB (md _ _)
   (tuple_addW0 a b its.toArray its2.toArray n n2 dd dd2 sl sl2 (by simp[e0])) ⟨ho,ho2,⟨.ref b,H,I,rfl,q1 hx⟩⟩
 ·exact Lf pins s σ H _ _ v u Q I rx ry ⟨a,b,xs,ys,rfl,rfl,ha,hb,hx,hz,λz=>absurd z hy,λ_=>q2 hx⟩
variable {tg:Expr}
end
end L2
namespace L2
open PySem PySem.Spec PyProof.Rows PySem.W
section
variable {prog:Program} {w:World} {A:Around} {E:Value->Shared->Prop} {s:Shared}
theorem ZA{a:Addr}{n:Nat}{P:PySem.Fin->Shared->Prop}{vs:List Value}(ho:s.heap.get? a=some (seqObj "list" vs.toArray n))(hl:vs.length<2)(h:P (.done (.ret .none)) { s with heap:=sortedHeap s.heap a vs vs.toArray }):
  wpAny (model prog w) A (Builtin.«list.sort» ⟨[.ref a],[]⟩) P E s:=by
 rw[list_sort_plain];have ha:a<s.heap.objs.size:=jj ho;refine iu (listItems_at ho rfl ?_);refine iu (oY ho rfl ?_ (by rw[kn,ja]; omega) (jS _));obtain⟨e1,ho1⟩:∃e1,(s.heap.update a (Obj.mapSeq λ_=>#[])).get? a=some (seqObj "list" #[] e1):=⟨_,oB ho (λ_=>#[])⟩;refine iu (pY ho1 rfl ?_);refine iu (qo ?_ (by rw[kn]; simp; omega));refine iu (qw ?_ (jS _));refine lW ?_;have ho6:(((s.heap.update a (Obj.mapSeq λ_=>#[])).push (seqObj "tuple" vs.toArray 0)).push (seqObj "list" #[] 0)).get? a=some (seqObj "list" #[] e1):=i3 _ (i3 _ ho1);show wpAny (model prog w) A _ P E { s with heap:=((s.heap.update a (Obj.mapSeq λ_=>#[])).push (seqObj "tuple" vs.toArray 0)).push (seqObj "list" #[] 0) };dsimp only;have h2:vs.toArray.size<2:=by simpa using hl
 rw[i5 h2,i5 h2];refine iu (jk ?_);rw[StateT.run_pure];refine iu (jk ?_);dsimp only;have em:(arrOf (SortSt.mk' general' (vs.toArray.zip vs.toArray) #[] 7 none)).map (·.2)=vs.toArray:=by
  show(vs.toArray.zip vs.toArray).map (·.2)=vs.toArray
  match vs,hl with
  | [],_=>simp
  | [v],_=>simp
 rw[em];refine iu (pY ho6 rfl ?_);refine iu (oY ho6 rfl ?_ (jS _) (by rw[ja,kn]; omega));simp only[bne_self_eq_false,qH,if_false];exact jk h
theorem Xu {l:Addr} {vs:List Value} {Q:Value->Shared->Prop} (hl:s.heap.IsList l vs.toArray) (h64:vs.length<64)
  (h:∀s':Shared,(∀b o,s.heap.get? b=some o->s'.heap.get? b=some o)->s'.heap.objs.size=s.heap.objs.size+2->s'.heap.get? (s.heap.objs.size+1)=some (seqObj "list" vs.toArray 0)->s'={ s with heap:=s'.heap } →
   wpAny (model prog w) A.in1.in1 (Builtin.«list.sort» ⟨[.ref (s.heap.objs.size+1)],[]⟩) (λf s''=>f=.done (.ret .none)/\Q (.ref (s.heap.objs.size+1)) s'') E s'):wpAny (model prog w) A (call (.builtin "sorted") [.ref l]) Q E s:=by
 refine Calls.call_function_entry kind_sorted plain_sorted entry_sorted (args_sorted1 _) ?_;unfold Builtin.«sorted»;refine iu (m:=checkCount "sorted" 1 1 _) (jk ?_);refine iu (collect_list hl ?_ (by rw[kn]; omega));refine iu (qw ?_ (by rw[kn]; omega));have sz:((s.heap.push (seqObj "list" #[] 0)).update s.heap.objs.size (Obj.mapSeq (·++vs.toArray))).objs.size=s.heap.objs.size+1:=by rw[Heap.size_update,size_push']
 have hL:(((s.heap.push (seqObj "list" #[] 0)).update s.heap.objs.size (Obj.mapSeq (·++vs.toArray))).push (seqObj "list" vs.toArray 0)).get? (s.heap.objs.size+1)=some (seqObj "list" vs.toArray 0):=by rw[<-sz]; exact jo _ rfl
 show wpAny _ _ _ _ _ { s with heap:=((s.heap.push (seqObj "list" #[] 0)).update s.heap.objs.size (Obj.mapSeq (·++vs.toArray))).push (seqObj "list" vs.toArray 0) };rw[sz];have keep:∀b o,s.heap.get? b=some o->(((s.heap.push (seqObj "list" #[] 0)).update s.heap.objs.size (Obj.mapSeq (·++vs.toArray))).push (seqObj "list" vs.toArray 0)).get? b=some o:=λb o q=>by
  have hlt:b<s.heap.objs.size:=jj q;rw[rz _ _ _ (by rw[sz]; exact jM (lX hlt)),nh _ _ _ _ (jM hlt),rz _ _ _ (jM hlt)];exact q
 refine iu (lW (lL slot_list_sort ⟨_,hL,rfl⟩ entry_list_sort (kA (h _ keep (by rw[size_push',sz]) hL rfl) ?_ λ_ _ e=>e) (args_list_sort _)));rintro f s'' ⟨rfl,hq⟩;exact⟨_,rfl,jk ⟨_,rfl,hq⟩⟩
theorem Wr{h:Heap}{a:Addr}{vs:List Value}{out:Array Value}{b:Addr}{o:Obj}(hb:b≠a)(e:h.get? b=some o):(sortedHeap h a vs out).get? b=some o:=by
 unfold sortedHeap;rw[nh _ _ _ _ hb];refine i3 _ (i3 _ ?_);rw[nh _ _ _ _ hb]; exact e
theorem Wu{h:Heap}{a:Addr}{vs:List Value}{out:Array Value}{n:Nat}(ho:h.get? a=some (seqObj "list" vs.toArray n)):∃e,(sortedHeap h a vs out).get? a=some (seqObj "list" out e):=by
 obtain⟨e1,ho1⟩:∃e1,(h.update a (Obj.mapSeq λ_=>#[])).get? a=some (seqObj "list" #[] e1):=⟨_,oB ho (λ_=>#[])⟩;exact⟨_,oB (i3 _ (i3 _ ho1)) (λ_=>out)⟩
end
section
variable {X:Cx}
theorem Rh:∀{bs:List Addr} {us:List Value},Ah (bs.map V.ref) us->us=bs.map Value.ref
 | [],_,.nil=>rfl
 | b :: r,_,.cons (b:=u) h t=>by
  have h':u=Value.ref b:=h;rw[h',Rh t];rfl
theorem Qk:∀(bs:List Addr),Ah (bs.map V.ref) (bs.map Value.ref)
 | []=>.nil
 | b :: r=>.cons rfl (Qk r)
end
structure Ia(n:Nat)(lt:Nat->Nat->Bool):Prop where
 iX:∀i j,lt i j=true->lt j i=false
 trans:∀i j k,lt i j=true->lt j k=true->lt i k=true
 Pg:∀i j,i<n->j<n->i≠j->lt i j=true\/lt j i=true
section
variable {n:Nat} {lt:Nat->Nat->Bool} {cmp:Nat->Nat->(Bool->Shared->Prop)->Shared->Prop} {s:Shared} {p:Array Nat}
structure Cs(n:Nat)(p:Array Nat):Prop where
 pm:p.toList.Perm (List.range n)
 sz:p.size=n
 Dc:∀k,k<n->p.getD k 0<n
 inj:∀i j,i<n->j<n->p.getD i 0=p.getD j 0->i=j
def E7(lt:Nat->Nat->Bool)(p:Array Nat)(m:Nat):Prop:=∀i j,i<j->j<m->lt (p.getD i 0) (p.getD j 0)=true
def Pn(lt:Nat->Nat->Bool)(p:Array Nat)(m:Nat):Prop:=∀i j,i<j->j<m->lt (p.getD j 0) (p.getD i 0)=true
theorem aa{k:Nat}(h:k<p.size):p[k]?=some (p.getD k 0):=by
 rw[Array.getElem?_eq_getElem h]; simp[h]
theorem J7{q:Array Nat}{k j:Nat}(hj:j<p.size)(e:q[k]?=p[j]?):q.getD k 0=p.getD j 0:=by
 rw[aa hj] at e;simp only[oO,e];rfl
theorem P4{q:Array Nat}(g:Cs n p)(hq:q.Perm p)(hs:q.size=p.size)(f:Nat->Nat)(ff:∀k,k<n->f k<n)(fi:∀i j,i<n->j<n->f i=f j->i=j)(e:∀k,k<n->q.getD k 0=p.getD (f k) 0):Cs n q :=
 ⟨(Array.perm_iff_toList_perm.mp hq).trans g.pm,by rw[hs,g.sz],λk hk=>by rw[e k hk]; exact g.Dc _ (ff k hk),λi j hi hj h=>by
  rw[e i hi,e j hj] at h;exact fi i j hi hj (g.inj _ _ (ff i hi) (ff j hj) h)⟩
theorem OR(g:Cs n p){m:Nat}(hm:m<=n){k:Nat}(hk:k<n):(kas_rev p 0 m).getD k 0=p.getD (if k<m then m-1-k else k) 0:=by
 have e:=getElem?_mirror_all (xs:=p) (i:=0) (j:=m) (by rw[g.sz]; exact hm) k;unfold kas_rev;split
 ·rename_i h
  rw[i5 ⟨jS _,h⟩,nJ] at e;exact J7 (by rw[g.sz]; omega) e
 ·rename_i h
  rw[iz (λz=>h z.2)] at e;exact J7 (by rw[g.sz]; omega) e
theorem ZG(g:Cs n p){m:Nat}(hm:m<=n):Cs n (kas_rev p 0 m) :=
 P4 g (mirror_perm _ _ _ _) (mirror_size _ _ _ _) (λk=>if k<m then m-1-k else k) (λk hk=>by (try dsimp only); split <;> omega) (λi j hi hj h=>by
  try dsimp only at h
  split at h <;> split at h <;> omega) λk hk=>OR g hm hk
theorem dJ(g:Cs n p){m:Nat}(hm:m<=n)(d:Pn lt p m):E7 lt (kas_rev p 0 m) m:=λi j hij hj=>by
 rw[OR g hm (by omega),OR g hm (by omega),i5 (by omega),i5 hj];exact d _ _ (by omega) (by omega)
theorem OE(g:Cs n p){k l:Nat}(hk:k<n)(hl:l<=k){i:Nat}(hi:i<n):(bubble p k (k-l)).getD i 0=p.getD (if i=l then k else if l<i/\i<=k then i-1 else i) 0:=by
 have e:=getElem?_bubble (xs:=p) (src:=k) (by rw[g.sz]; exact hk) (k-l) (by omega) i;rw[show k-(k-l)=l by omega] at e;split
 ·rename_i h
  rw[i5 h] at e;exact J7 (by rw[g.sz]; omega) e
 ·rename_i h
  rw[iz h] at e;split
  ·rename_i h2
   rw[i5 h2] at e;exact J7 (by rw[g.sz]; omega) e
  ·rename_i h2
   rw[iz h2] at e;exact J7 (by rw[g.sz]; omega) e
theorem ZN(g:Cs n p){k l:Nat}(hk:k<n)(hl:l<=k):Cs n (bubble p k (k-l)) :=
 P4 g (bubble_perm _ _ _) (bubble_size _ _ _) (λi=>if i=l then k else if l<i/\i<=k then i-1 else i) (λi hi=>by (try dsimp only); split <;> (try split) <;> omega) (λi j hi hj h=>by
  try dsimp only at h
  split at h <;> split at h <;> (try split at h) <;> (try split at h) <;> omega) λi hi=>OE g hk hl hi
theorem OW(hc:∀i j C,i<n->j<n->C (lt i j) s->cmp i j C s)(g:Cs n p)(L:Ia n lt):∀(f a:Nat) {Q:Nat->Shared->Prop},1<=a->a+f<=n->E7 lt p a →
  (∀m,a<=m->m<=a+f->E7 lt p m->(m=a+f\/lt (p.getD m 0) (p.getD (m-1) 0)=true)->Q m s)->(kas_asc p f a).kasWp cmp Q s
 | 0,a,Q,_,_,u,q=>q a (i4 _) (i4 _) u (.inl rfl)
 | f+1,a,Q,a1,af,u,q=>by
  show cmp _ _ _ s;refine hc _ _ _ (g.Dc _ (by omega)) (g.Dc _ (by omega)) ?_;cases e:lt (p.getD a 0) (p.getD (a-1) 0) with
  | true=>exact q a (i4 _) (by omega) u (.inr e)
  | false =>
   refine OW hc g L f (a+1) (by omega) (by omega) (λi j hij hj=>?_) (λm h1 h2 h3 h4=>q m (by omega) (by omega) h3 (by rcases h4 with z | z; exact .inl (by omega); exact .inr z));have st:lt (p.getD (a-1) 0) (p.getD a 0)=true:=by
    rcases L.Pg _ _ (g.Dc a (by omega)) (g.Dc (a-1) (by omega)) (λz=>by have:=g.inj _ _ (by omega) (by omega) z; omega) with z | z
    ·rw[z] at e; cases e
    ·exact z
   rcases jv j a with z | z
   ·exact u i j hij z
   ·obtain rfl:j=a:=by omega
    rcases jv i (j-1) with y | y
    ·exact L.trans _ _ _ (u i (j-1) y (by omega)) st
    ·obtain rfl:i=j-1:=by omega
     exact st
theorem SJ(hc:∀i j C,i<n->j<n->C (lt i j) s->cmp i j C s)(g:Cs n p)(L:Ia n lt):∀(f a:Nat) {Q:Array Nat×Nat×Nat->Shared->Prop},1<=a->a+f<=n->Pn lt p a →
  (∀m,a<=m->m<=a+f->Pn lt p m->Q (p,m,0) s)->(kas_desc f p a 0).kasWp cmp Q s
 | 0,a,Q,_,_,u,q=>q a (i4 _) (i4 _) u
 | f+1,a,Q,a1,af,u,q=>by
  show cmp _ _ _ s;refine hc _ _ _ (g.Dc _ (by omega)) (g.Dc _ (by omega)) ?_;cases e:lt (p.getD a 0) (p.getD (a-1) 0) with
  | true =>
   show(kas_desc f p (a+1) 0).kasWp cmp Q s;refine SJ hc g L f (a+1) (by omega) (by omega) (λi j hij hj=>?_) (λm h1 h2 h3=>q m (by omega) (by omega) h3);rcases jv j a with z | z
   ·exact u i j hij z
   ·obtain rfl:j=a:=by omega
    rcases jv i (j-1) with y | y
    ·exact L.trans _ _ _ e (u i (j-1) y (by omega))
    ·obtain rfl:i=j-1:=by omega
     exact e
  | false =>
   have st:lt (p.getD (a-1) 0) (p.getD a 0)=true:=by
    rcases L.Pg _ _ (g.Dc a (by omega)) (g.Dc (a-1) (by omega)) (λz=>by have:=g.inj _ _ (by omega) (by omega) z; omega) with z | z
    ·rw[z] at e; cases e
    ·exact z
   show cmp _ _ _ s;refine hc _ _ _ (g.Dc _ (by omega)) (g.Dc _ (by omega)) ?_;rw[st];exact q a (i4 _) (by omega) u
theorem ZL(hc:∀i j C,i<n->j<n->C (lt i j) s->cmp i j C s)(g:Cs n p)(L:Ia n lt)(h2:2<=n){Q:Nat×Array Nat->Shared->Prop}(q:∀m p',1<=m->m<=n->Cs n p'->E7 lt p' m->Q (m,p') s):(kas_count n p).kasWp cmp Q s:=by
 unfold kas_count;rw[nq];refine OW hc g L (n-1) 1 (i4 _) (by omega) (λi j h1 h2=>by omega) λm m1 mn u st=>?_
 try dsimp only
 by_cases e:m=n
 ·rw[i5 (by rw[e]; exact beq_self_eq_true n)];exact q m p m1 (by omega) g u
 rw[iz (by intro z; exact e (by simpa using z))];by_cases e1:m > 1
 ·rw[i5 e1];show cmp _ _ _ s;refine hc _ _ _ (g.Dc _ (by omega)) (g.Dc _ (by omega)) ?_;rw[u 0 (m-1) (by omega) (by omega)];exact q m p m1 (by omega) g u
 rw[iz e1];obtain rfl:m=1:=by omega
 have fall:lt (p.getD 1 0) (p.getD 0 0)=true:=by
  rcases st with z | z
  ·omega
  ·exact z
 unfold kas_descPart;rw[nq];refine SJ hc g L (n-(1+1)) (1+1) (by omega) (by omega) (λi j h1 h2=>?_) λm m1 mn d=>?_
 ·obtain rfl:j=1:=by omega
  obtain rfl:i=0:=by omega
  exact fall
 try dsimp only
 rw[iz (kW 0)];unfold kas_tail3;rw[nq];have gr:=ZG g (m:=m) (by omega);refine OW hc gr L (n-m) m (by omega) (by omega) (dJ g (by omega) d) λm' h1 h2 u' _=>?_
 exact q m' _ (by omega) (by omega) gr u'
theorem NQ(hc:∀i j C,i<n->j<n->C (lt i j) s->cmp i j C s)(g:Cs n p)(L:Ia n lt){k:Nat}(hk:k<n)(u:E7 lt p k):∀(f l r:Nat) {Q:Nat->Shared->Prop},l<=r->r<=k->r-l<=f->(∀i,i<l->lt (p.getD i 0) (p.getD k 0)=true)->(∀i,r<=i->i<k->lt (p.getD k 0) (p.getD i 0)=true) →
  (∀m,m<=k->(∀i,i<m->lt (p.getD i 0) (p.getD k 0)=true)->(∀i,m<=i->i<k->lt (p.getD k 0) (p.getD i 0)=true)->Q m s)->(kas_place p k f l r).kasWp cmp Q s
 | 0,l,r,Q,lr,rk,hf,a,b,q=>by
  obtain rfl:l=r:=by omega
  exact q l rk a b
 | f+1,l,r,Q,lr,rk,hf,a,b,q=>by
  unfold kas_place;by_cases h:l ≥ r
  ·rw[i5 h];obtain rfl:l=r:=by omega
   exact q l rk a b
  rw[iz h];show cmp _ _ _ s;refine hc _ _ _ (g.Dc _ (by omega)) (g.Dc _ (by omega)) ?_;cases e:lt (p.getD k 0) (p.getD ((l+r) / 2) 0) with
  | true =>
   refine NQ hc g L hk u f l ((l+r) / 2) (by omega) (by omega) (by omega) a (λi h1 h2=>?_) q;rcases jv ((l+r) / 2) i with z | z
   ·exact L.trans _ _ _ e (u _ _ z h2)
   ·obtain rfl:i=(l+r) / 2:=by omega
    exact e
  | false =>
   have st:lt (p.getD ((l+r) / 2) 0) (p.getD k 0)=true:=by
    rcases L.Pg _ _ (g.Dc k hk) (g.Dc ((l+r) / 2) (by omega)) (λz=>by have:=g.inj _ _ hk (by omega) z; omega) with z | z
    ·rw[z] at e; cases e
    ·exact z
   refine NQ hc g L hk u f ((l+r) / 2+1) r (by omega) rk (by omega) (λi hi=>?_) b q;rcases jv i ((l+r) / 2) with z | z
   ·exact L.trans _ _ _ (u _ _ z (by omega)) st
   ·obtain rfl:i=(l+r) / 2:=by omega
    exact st
theorem To(hc:∀i j C,i<n->j<n->C (lt i j) s->cmp i j C s)(L:Ia n lt):∀(f k:Nat) (p:Array Nat) {Q:Array Nat->Shared->Prop},Cs n p->k+f=n->E7 lt p k->(∀p',Cs n p'->E7 lt p' n->Q p' s)->(kas_bin f p k).kasWp cmp Q s
 | 0,k,p,Q,g,e,u,q=>by
  obtain rfl:k=n:=by omega
  exact q p g u
 | f+1,k,p,Q,g,e,u,q=>by
  unfold kas_bin;rw[nq];refine NQ hc g L (show k<n by omega) u k 0 k (jS _) (i4 _) (by omega) (λi hi=>by omega) (λi h1 h2=>by omega) λl lk ha hb=>?_
  refine To hc L f (k+1) _ (ZN g (by omega) lk) (by omega) (λi j hij hj=>?_) q;rw[OE g (by omega) lk (by omega),OE g (by omega) lk (by omega)];by_cases ei:i=l
  ·rw[i5 ei,iz (by omega),i5 (by omega)];exact hb _ (by omega) (by omega)
  ·rw[iz ei];by_cases ej:j=l
   ·rw[iz (by omega),i5 ej];exact ha _ (by omega)
   ·rw[iz ej];by_cases z1:l<i/\i<=k
    ·rw[i5 z1,i5 (by omega)];exact u _ _ (by omega) (by omega)
    ·rw[iz z1];by_cases z2:l<j/\j<=k
     ·rw[i5 z2];exact u _ _ (by omega) (by omega)
     ·rw[iz z2];exact u _ _ hij (by omega)
theorem bB(hc:∀i j C,i<n->j<n->C (lt i j) s->cmp i j C s)(L:Ia n lt)(h2:2<=n){Q:Array Nat->Shared->Prop}(q:∀p,Cs n p->E7 lt p n->Q p s):(kas_sort n).kasWp cmp Q s:=by
 unfold kas_sort;rw[nq];have g0:Cs n (List.toArray (List.range n)):=by
  have e:∀k,k<n->(List.toArray (List.range n)).getD k 0=k:=λk hk=>by
   simp[oO,hk]
  exact⟨qf _,by simp,λk hk=>by rw[e k hk]; exact hk,λi j hi hj z=>by rwa [e i hi,e j hj] at z⟩
 refine ZL hc g0 L h2 λm p' m1 mn g u=>?_
 try dsimp only
 by_cases h:m<n
 ·rw[i5 h,show max m 1=m by omega];exact To hc L (n-m) m p' g (by omega) u q
 ·rw[iz h];obtain rfl:m=n:=by omega
  exact q p' g u
def CM:List Int->List Int->Bool
 | [],[]=>false
 | [],_ :: _=>true
 | _ :: _,[]=>false
 | x :: xs,y :: ys=>if x=y then CM xs ys else decide (x<y)
theorem Mw:∀{a b:List Int},CM a b=true->CM b a=false
 | [],[],h=>by cases h
 | [],_ :: _,_=>rfl
 | _ :: _,[],h=>by cases h
 | x :: xs,y :: ys,h=>by
  unfold CM at h ⊢;by_cases e:x=y
  ·rw[i5 e] at h; rw[i5 e.symm]; exact Mw h
  ·rw[iz e] at h; rw[iz (λz=>e z.symm)]
   have:=decide_eq_true_iff.mp h
   exact kz (by omega)
theorem QL:∀{a b c:List Int},CM a b=true->CM b c=true->CM a c=true
 | [],[],_,h,_=>by cases h
 | [],_ :: _,[],_,h=>by cases h
 | [],_ :: _,_ :: _,_,_=>rfl
 | _ :: _,[],_,h,_=>by cases h
 | _ :: _,_ :: _,[],_,h=>by cases h
 | x :: xs,y :: ys,z :: zs,h,g=>by
  unfold CM at h g ⊢;by_cases e:x=y
  ·rw[i5 e] at h;by_cases e2:y=z
   ·rw[i5 e2] at g; rw[i5 (e.trans e2)]; exact QL h g
   ·rw[iz e2] at g; rw[iz (λq=>e2 (e.symm.trans q)),e]; exact g
  ·rw[iz e] at h;have h':=decide_eq_true_iff.mp h;by_cases e2:y=z
   ·rw[iz (λq=>e (q.trans e2.symm)),<-e2]; exact h
   ·rw[iz e2] at g;have g':=decide_eq_true_iff.mp g;rw[iz (by omega)]; exact kc (by omega)
theorem Q0:∀{a b:List Int},a≠b->CM a b=true\/CM b a=true
 | [],[],h=>absurd rfl h
 | [],_ :: _,_=>.inl rfl
 | _ :: _,[],_=>.inr rfl
 | x :: xs,y :: ys,h=>by
  unfold CM;by_cases e:x=y
  ·rw[i5 e,i5 e.symm]; exact Q0 λz=>h (by rw[e,z])
  ·rw[iz e,iz (λz=>e z.symm)];rcases Int.lt_trichotomy x y with z | z | z
   ·exact .inl (kc z)
   ·exact absurd z e
   ·exact .inr (kc z)
theorem eU{rows:List (List Int)}(nd:rows.Nodup):Ia rows.length λi j=>CM (rows.getD i []) (rows.getD j []):=by
 have g:∀i (h:i<rows.length),rows.getD i []=rows[i]:=λi h=>by simp[h]
 refine⟨λi j h=>Mw h,λi j k h1 h2=>QL h1 h2,λi j hi hj ne=>Q0 ?_⟩;rw[g i hi,g j hj];intro z;exact ne ((rT nd).mp z)
variable {prog:Program} {w:World} {A:Around} {E:Value->Shared->Prop}
theorem Q9{b:Bool}{Q:Bool->Shared->Prop}:∀{xs ys:List Value} {ns ms:List Int} (i:Nat),IntsAre xs ns->IntsAre ys ms->Q (CM ns ms) s->KatLex prog w A b (decide (xs.length<ys.length)) Q (xs.zip ys) i s
 | [],[],_,_,i,hx,hy,h=>by
  cases hx; cases hy;exact kat_nil h
 | [],_ :: _,_,_,i,hx,hy,h=>by
  cases hx;cases hy with
  | cons=>exact kat_nil h
 | _ :: _,[],_,_,i,hx,hy,h=>by
  cases hy;cases hx with
  | cons=>exact kat_nil h
 | x :: xs,y :: ys,_,_,i,hx,hy,h=>by
  cases hx with
  | @cons m t _ ns' hx' =>
  cases hy with
  | @cons m' t' _ ms' hy' =>
  refine kat_cons (wpAny_eqBool_int ?_);have el:decide ((Value.int m t :: xs).length<(Value.int m' t' :: ys).length)=decide (xs.length<ys.length):=by
   rw[decide_eq_decide]; simp
  rw[el];unfold CM at h;refine kat_go (λe=>kat_yes (Q9 (i+1) hx' hy' ?_)) (λe=>kat_no ?_)
  ·rw[i5 (by simpa using e)] at h; exact h
  ·rw[iz (by simpa using e)] at h;cases e2:(b && i == 0) with
   | true=>exact oneLt_int h
   | false=>exact kat_one _ _ (lt_int h)
def KN(h:Heap)(bs:List Addr)(rows:List (List Int)):Prop:=bs.length=rows.length/\∀(i:Nat) (b:Addr) (r:List Int),bs[i]?=some b->rows[i]?=some r->r≠[]/\∃xs:List Value,IsTup h b xs.toArray/\IntsAre xs r
theorem KN.UJ{h:Heap}:∀{bs:List Addr} {rows:List (List Int)},KN h bs rows->∃fs:List Value,KatTups h (bs.map Value.ref) fs/\fs.length=bs.length/\∀v∈fs,∃i t,v=Value.int i t
 | [],rows,x=>⟨[],.nil,rfl,λv hv=>by cases hv⟩
 | b :: bs,[],x=>by have:=x.1; cases this
 | b :: bs,r :: rows,x=>by
  obtain⟨ne,xs,⟨o,e1,e2,n,e3⟩,hi⟩:=x.2 0 b r rfl rfl;obtain⟨fs,k,l,t⟩:=KN.UJ (bs:=bs) (rows:=rows) ⟨by have:=x.1; simpa using this,λi b' r' h1 h2=>x.2 (i+1) b' r' (by simpa using h1) (by simpa using h2)⟩;cases hi with
  | nil=>exact absurd rfl ne
  | @cons m tk vs' ns' hr =>
   refine⟨.int m tk :: fs,.cons e1 e2 e3 (by simp) k,by simp[l],λv hv=>?_⟩;rcases jh.mp hv with rfl | hv
   ·exact⟨_,_,rfl⟩
   ·exact t v hv
theorem Xr {a:Addr} {n:Nat} {P:PySem.Fin->Shared->Prop} {bs:List Addr} {rows:List (List Int)} (ho:s.heap.get? a=some (seqObj "list" (bs.map Value.ref).toArray n)) (hR:KN s.heap bs rows) (na:∀b∈bs,b≠a) (nd:rows.Nodup) (h2:2<=bs.length) (h64:bs.length<64)
  (h:∀p:Array Nat,Cs rows.length p->E7 (λi j=>CM (rows.getD i []) (rows.getD j [])) p rows.length->P (.done (.ret .none)) { s with heap:=sortedHeap s.heap a (bs.map Value.ref) (p.toList.map λi=>(bs.map Value.ref).getD i Value.none).toArray }) :
  wpAny (model prog w) A (Builtin.«list.sort» ⟨[.ref a],[]⟩) P E s:=by
 rw[list_sort_plain];have ha:a<s.heap.objs.size:=jj ho;have lb:(bs.map Value.ref).length=bs.length:=ig ..;refine iu (listItems_at ho rfl ?_);refine iu (oY ho rfl ?_ (by rw[kn,ja]; omega) (jS _));obtain⟨e1,ho1⟩:∃e1,(s.heap.update a (Obj.mapSeq λ_=>#[])).get? a=some (seqObj "list" #[] e1):=⟨_,oB ho (λ_=>#[])⟩;refine iu (pY ho1 rfl ?_);refine iu (qo ?_ (by rw[kn]; simp; omega));refine iu (qw ?_ (jS _));refine lW ?_;have keepT:∀{c:Addr} {o:Obj},c≠a->s.heap.get? c=some o->(((s.heap.update a (Obj.mapSeq λ_=>#[])).push (seqObj "tuple" (bs.map Value.ref).toArray 0)).push (seqObj "list" #[] 0)).get? c=some o:=λ{c o} hc e=>by
  refine i3 _ (i3 _ ?_);rw[nh _ _ _ _ hc]; exact e
 have ho6:(((s.heap.update a (Obj.mapSeq λ_=>#[])).push (seqObj "tuple" (bs.map Value.ref).toArray 0)).push (seqObj "list" #[] 0)).get? a=some (seqObj "list" #[] e1):=i3 _ (i3 _ ho1);show wpAny (model prog w) A _ P E { s with heap:=((s.heap.update a (Obj.mapSeq λ_=>#[])).push (seqObj "tuple" (bs.map Value.ref).toArray 0)).push (seqObj "list" #[] 0) };have eS:sortedHeap s.heap a (bs.map Value.ref)=λout=>(((s.heap.update a (Obj.mapSeq λ_=>#[])).push (seqObj "tuple" (bs.map Value.ref).toArray 0)).push (seqObj "list" #[] 0)).update a (Obj.mapSeq λ_=>out):=rfl
 rw[eS] at h;have hR1:KN (((s.heap.update a (Obj.mapSeq λ_=>#[])).push (seqObj "tuple" (bs.map Value.ref).toArray 0)).push (seqObj "list" #[] 0)) bs rows:=⟨hR.1,λi b r h1 h2=>by
  obtain⟨ne,xs,⟨o,e1,e2⟩,hi⟩:=hR.2 i b r h1 h2;exact⟨ne,xs,⟨o,keepT (na b (iq h1)) e1,e2⟩,hi⟩⟩
 generalize ((s.heap.update a (Obj.mapSeq λ_=>#[])).push (seqObj "tuple" (bs.map Value.ref).toArray 0)).push (seqObj "list" #[] 0)=h1 at ho6 h hR1;dsimp only;have hn2:¬(bs.map Value.ref).toArray.size<2:=by rw[ja]; omega
 rw[iz hn2,iz hn2];obtain⟨fs,kt,lf,tf⟩:=hR1.UJ;refine iu (kat_kind (T:=.type "int") kt (by omega) (λv hv=>?_) (by rfl) ?_)
 ·obtain⟨i,t,rfl⟩:=tf v hv;exact .now
 have lr:rows.length=bs.length:=hR.1.symm;refine iu (kA (kat_run (ks:=bs.map Value.ref) (vs:=bs.map Value.ref) (Q:=λst' s'=>s'={ s with heap:=h1 }/\∃p:Array Nat,Cs rows.length p/\E7 (λi j=>CM (rows.getD i []) (rows.getD j [])) p rows.length/\arrOf st'=p.map (kas_item ((bs.map Value.ref).toArray.zip (bs.map Value.ref).toArray))/\failedOf st'=none)
  (G:=λp s'=>s'={ s with heap:=h1 }/\Cs rows.length p/\E7 (λi j=>CM (rows.getD i []) (rows.getD j [])) p rows.length)
  rfl (by omega) (by omega) (λp' st' s' a1 a2 a3 a4=>⟨a4.1,p',a4.2.1,a4.2.2,a2,a3⟩) ?_) ?_ λ_ _ e=>e)
 ·rw[lb,<-lr];refine bB (s:={ s with heap:=h1 }) (lt:=λi j=>CM (rows.getD i []) (rows.getD j [])) (λi j C hi hj hC=>?_) (eU nd) (by omega) λp g u=>⟨rfl,g,u⟩
  have gb:∀i,i<rows.length->∃b,bs[i]?=some b/\(bs.map Value.ref).getD i Value.none=Value.ref b:=λi hi=>⟨bs[i]'(by omega),ij (by omega),by simp[show i<bs.length by omega]⟩
  obtain⟨bi,ebi,gbi⟩:=gb i hi;obtain⟨bj,ebj,gbj⟩:=gb j hj;obtain⟨_,xs,⟨ox,x1,x2,nx,x3⟩,hxs⟩:=hR1.2 i bi rows[i] ebi (ij hi);obtain⟨_,ys,⟨oy,y1,y2,ny,y3⟩,hys⟩:=hR1.2 j bj rows[j] ebj (ij hj);unfold kas_ask;rw[gbi,gbj];refine kat_lt (s:={ s with heap:=h1 }) x1 x3 y1 y3 ?_
  have:=Q9 (prog:=prog) (w:=w) (A:=A) (s:={ s with heap:=h1 }) (b:=(Value.type "int" != Value.type "tuple")) (Q:=C) 0 hxs hys (by simpa [hi,hj] using hC)
  simpa using this
 rintro⟨⟨⟩,st'⟩ s' ⟨rfl,p,hp,hu,har,hf⟩;dsimp only;have hout:=kat_snds (ks:=bs.map Value.ref) (vs:=bs.map Value.ref) rfl har;rw[hout];refine iu (pY ho6 rfl ?_);refine iu (oY ho6 rfl ?_ (jS _) (by rw[ja,ig,kR,hp.sz,kn]; omega));rw[hf];simp only[bne_self_eq_false,qH,if_false];exact jk (h p hp hu)
end
end L2
namespace L2
open PySem PySem.Spec PyProof.Rows
theorem RF{X:Cx}{pins:List (Addr×Obj)}{σ:St}{H:Hp}{s:Shared}{b:Addr}{r:List Int}(I:AK X pins σ H s)(h:H b=some (.AG (r.map V.int))):∃xs:List Value,IsTup s.heap b xs.toArray/\IntsAre xs r:=by
 obtain⟨its,rv,tp,_⟩:=I.tuple (AI.of (K:=X.K) h);exact⟨its,tp,Mh rv⟩
open PySem.W
theorem ZM{α:Type}(l:List α)(d:α):(List.range l.length).map (λi=>l.getD i d)=l:=by
 refine l9 (by simp) λi h1 h2=>?_
 simp at h1;simp[h1]
def Hj(H:Hp)(b:Addr)(r:List Int):Prop:=H b=some (.AG (r.map V.int))
theorem R4{H H':Hp}{b:Addr}{r:List Int}(s:AN H H')(h:Hj H b r):Hj H' b r:=s _ _ h
section
variable {X:Cx} {pins:List (Addr×Obj)} {σ:St} {H:Hp} {s:Shared}
theorem Yo{H:Hp}{bs:List Addr}{rows:List (List Int)}(hA:My.At Hj H bs rows){p:Array Nat}(g:Cs rows.length p)(u:E7 (λi j=>CM (rows.getD i []) (rows.getD j [])) p rows.length):
  My.At Hj H (p.toList.map λi=>bs.getD i 0) (p.toList.map λi=>rows.getD i [])/\(p.toList.map λi=>rows.getD i []).Perm rows/\(p.toList.map λi=>rows.getD i []).Pairwise (λa b=>CM a b=true)/\(p.toList.map λi=>(bs.map Value.ref).getD i Value.none)=(p.toList.map λi=>bs.getD i 0).map Value.ref:=by
 have lr:bs.length=rows.length:=hA.1;have lt:∀i∈p.toList,i<rows.length:=λi hi=>jw.mp (g.pm.mem_iff.mp hi)
 refine⟨⟨by simp,λi b x e1 e2=>?_⟩,?_,?_,?_⟩
 ·rw[iy] at e1 e2;obtain⟨k,ek,rfl⟩:=j6.mp e1;rw[ek] at e2;obtain rfl:=je e2;have hk:=lt k (iq ek);refine hA.2 k _ _ ?_ ?_
  ·rw[ir,ij (by omega)]; rfl
  ·show rows[k]?=some (rows.getD k []);rw[ir,ij hk]; rfl
 ·refine(g.pm.map _).trans ?_;rw[ZM]
 ·rw[kE,nA];intro i j hi hj hij;have sz:p.toList.length=rows.length:=by rw[kR,g.sz]
  have:=u i j hij (by omega)
  have e:∀k (hk:k<p.toList.length),p.getD k 0=p.toList[k]:=λk hk=>by
   have hk':k<p.size:=by rwa [kR] at hk
   simp[hk']
  dsimp only at this
  rwa [e i hi,e j hj] at this
 ·rw[jH];refine ko λi hi=>?_
  have:=lt i hi
  simp[show i<bs.length by omega]
theorem bX{rows:List (List Int)}(h:rows.length<2):rows.Pairwise (λa b=>CM a b=true):=by
 match rows,h with
 | [],_=>exact .nil
 | [x],_=>exact pM _ _
theorem QA:DJ X (.builtin "sorted") (λxs H Q=>∃(p:Addr) (bs:List Addr) (rows:List (List Int)),xs=[.ref p]/\H p=some (.AF (bs.map V.ref))/\My.At Hj H bs rows/\(∀r∈rows,r≠[])/\rows.Nodup/\rows.length<64 /\
  ∀(l:Addr) (cs:List Addr) (rs:List (List Int)),H l=none->My.At Hj H cs rs->rs.Perm rows->rs.Pairwise (λa b=>CM a b=true)->Q (.ref l) (AJ H l (.AF (cs.map V.ref)))):=by
 intro pins s σ H xs us Q I r h;obtain⟨p,bs,rows,rfl,hp,hA,hne,nd,h64,q⟩:=h;obtain⟨u,rfl,r1⟩:=Er r;cases r1;obtain⟨its,rv,pl,_⟩:=I.list (AQ.of (K:=X.K) hp);obtain rfl:=Rh rv;have lr:bs.length=rows.length:=hA.1;have hn:H (s.heap.objs.size+1)=none:=I.hok.Br (rM _);refine Xu pl.isList (by rw[ig]; omega) λs' keep hsz hD es=>?_
 have fin:∀(cs:List Addr) (rs:List (List Int)),My.At Hj H cs rs->rs.Perm rows->rs.Pairwise (λa b=>CM a b=true)->EP X pins σ Q (.ref (s.heap.objs.size+1)) { s' with heap:=sortedHeap s'.heap (s.heap.objs.size+1) (bs.map Value.ref) (cs.map Value.ref).toArray }:=λcs rs h1 h2 h3=>by
  obtain⟨e,he⟩:=Wu (out:=(cs.map Value.ref).toArray) hD;have lc:cs.length=rows.length:=h1.1.trans h2.length_eq;have hz:(cs.map V.ref).length<=sizeLine:=by rw[ig,kn]; omega
  refine⟨.ref (s.heap.objs.size+1),_,?_,rfl,q _ cs rs hn h1 h2 h3⟩;rw[es];exact I.Df (t':=s.toks) (λb o e=>Wr (jM (lX (jj e))) (keep b o e)) (rM _) (show Bk X.prog X.w _ _ _ (.AF (cs.map V.ref)) from ⟨hz,cs.map Value.ref,e,Qk cs,he⟩)
 rcases jv rows.length 2 with z | z
 ·exact ZA hD (by rw[ig]; omega) ⟨rfl,fin bs rows hA (qf _) (bX z)⟩
 have low:∀(i:Nat) (b:Addr) (r:List Int),bs[i]?=some b->rows[i]?=some r->b<s.heap.objs.size:=λi b r h1 h2=>by
  obtain⟨ys,⟨o,e1,_⟩,_⟩:=RF I (hA.2 i b r h1 h2);exact jj e1
 refine Xr hD ⟨lr,λi b r h1 h2=>⟨hne r (iq h2),?_⟩⟩ (λb hb=>?_) nd (by omega) (by omega) λpp g u=>⟨rfl,?_⟩
 ·obtain⟨ys,⟨o,e1,e2⟩,hi⟩:=RF I (hA.2 i b r h1 h2);exact⟨ys,⟨o,keep _ _ e1,e2⟩,hi⟩
 ·obtain⟨i,hi,rfl⟩:=ju hb;exact jM (lX (low i _ _ (ij hi) (ij (by omega))))
 ·obtain⟨a1,a2,a3,a4⟩:=Yo hA g u;rw[a4];exact fin _ _ a1 a2 a3
end
end L2
namespace L2
open PySem PySem.Spec PyProof.Rows My
section
variable {X:Cx}
def K9(H:Hp)(p:Addr)(ds:List PyData):Prop:=∃xs:List V,H p=some (.AF xs)/\xs.length=ds.length/\∀(i:Nat) (x:V) (d:PyData),xs[i]?=some x->ds[i]?=some d->Dh H x d
theorem K9.VD{pins:List (Addr×Obj)}{σ:L2.St}{H:Hp}{s:Shared}{p:Addr}{ds:List PyData}(I:AK X pins σ H s)(h:K9 H p ds):Reads s.heap (.ref p) (.list ds) [p]:=by
 obtain⟨xs,hp,l1,d1⟩:=h;obtain⟨its,rv,pl,_⟩:=I.list (AQ.of (K:=X.K) hp);obtain⟨o,ho,hc,m,hd'⟩:=pl.isList;exact .list ho hc hd' (by simpa using Mx s.heap rv l1 λi x d e1 e2=>KQ I (d1 i x d e1 e2))
theorem V7{n:Nat}{ds:List PyData}(hn:n<=50)(sh:∀d∈ds,Dw n d):SeqAt.shaped (PyData.list ds)=true:=by
 unfold SeqAt.shaped;rw[kL];refine⟨by simp only[PyData.canLay0]; exact La λd hd=>(sh d hd).ok.1,kc ?_⟩
 have:=NO (n:=n+1) λd hd=>(sh d hd).ok.2
 simp only[PyData.depth];omega
def di(b:Bool):R2:=λx y H Q=>∃(n:Nat) (p q:Addr) (ds es:List PyData),n<=50/\x=.ref p/\y=.ref q/\K9 H p ds/\K9 H q es/\(∀d∈ds,Dw n d)/\(∀d∈es,Dw n d)/\Q (.bl (if b then PyData.eqv (.list ds) (.list es) else !PyData.eqv (.list ds) (.list es))) H
theorem ax(hu:X.A.units+64<cLine):Bo X (compareOp .NotEq) (di false):=by
 intro pins s σ H x y v u Q I rx ry h;obtain⟨n,p,q,ds,es,hn,rfl,rfl,hp,hq,s1,s2,k⟩:=h;cases rx;cases ry;exact ne_dataH (hp.VD I) (hq.VD I) (V7 hn s1) (V7 hn s2) hu ⟨.bl _,H,I,rfl,k⟩
end
end L2
namespace L2
open PySem PySem.Spec PyProof.Rows PySem.W
section
def fS:R2:=λx y H Q=>∃a b xs ys,x=.ref a/\y=.ref b/\H a=some (.AG xs)/\H b=some (.AG ys)/\xs.length+ys.length<=sizeLine/\∀p H',AN H H'->H' p=some (.AG (xs++ys))->Q (.ref p) H'
theorem NX{X:Cx}:Bo X (binaryOp .Add) fS:=by
 intro pins s σ H x y v u Q I rx ry h;obtain⟨a,b,xs,ys,rfl,rfl,ha,hb,hz,q⟩:=h;by_cases hy:ys=[]
 ·by_cases hx:xs=[]
  ·subst hx hy;cases rx;cases ry;obtain⟨its,r1,p1,_⟩:=I.tuple (AI.of ha);obtain⟨its2,r2,p2,_⟩:=I.tuple (AI.of hb);have e0:its=[]:=r1.KD.mpr rfl;obtain⟨⟨cls,dd,data,sl⟩,ho,hc,n,hd⟩:=id p1;obtain⟨⟨cls2,dd2,data2,sl2⟩,ho2,hc2,n2,hd2⟩:=id p2;simp only at hc hd hc2 hd2;subst hc hd hc2 hd2;exact pH ⟨_,ho,rfl⟩ ⟨_,ho2,rfl⟩ om oZ mL mB (md _ _)
    (tuple_addW0 a b its.toArray its2.toArray n n2 dd dd2 sl sl2 (by simp[e0])) ⟨ho,ho2,⟨.ref b,H,I,rfl,q b H (AN.refl _) hb⟩⟩
  ·exact Lf pins s σ H _ _ v u Q I rx ry ⟨a,b,xs,ys,rfl,rfl,AI.of ha,AI.of hb,hx,hz,λz=>q a H (AN.refl _) (by rw[z,kg]; exact ha),λz=>absurd hy z⟩
 ·exact aX pins s σ H _ _ v u Q I rx ry ⟨a,b,xs,ys,rfl,rfl,AI.of ha,AI.of hb,hy,hz,λz=>q b H (AN.refl _) (by rw[z,nz]; exact hb),λ_ p hp=>q p _ (λb o e=>by rw[Ad (λz=>by rw[z,hp] at e; cases e)]; exact e) AU⟩
end
end L2
namespace Mth
theorem Rf(a b:Int):Int.gcd b (a.fmod b)=Int.gcd a b:=by
 rw[Int.fmod_def];have e:a-b*a.fdiv b=a+b*(-(a.fdiv b)):=by rw[Int.mul_neg,Int.sub_eq_add_neg]
 rw[e,Int.gcd_add_mul_left_right,Int.gcd_comm]
theorem aU(a b:Int)(h:b≠0):(a.fmod b).natAbs<b.natAbs:=by
 rw[Int.fmod_eq_emod];have h1:=j9 a h;have h2:=Int.emod_lt a h;split
 ·omega
 ·rename_i z
  have:¬b ∣ a:=λq=>z (Or.inr q)
  have hz:a % b≠0:=λq=>this (Int.dvd_of_emod_eq_zero q)
  omega
def part(t b:Int):Int:=if b<0 then -(Int.gcd t b:Int) else (Int.gcd t b:Int)
def BR(t b:Int):Int×Int:=(t.fdiv (part t b),b.fdiv (part t b))
theorem N3(t b:Int)(h:b≠0):0<Int.gcd t b:=Int.gcd_pos_of_ne_zero_right _ h
theorem J0(t b:Int)(h:b≠0):part t b≠0:=by
 have:=N3 t b h
 unfold part; split <;> omega
theorem QC(t b:Int):part t b ∣ t:=by
 unfold part; split
 ·exact Int.neg_dvd.mpr (mX t b)
 ·exact mX t b
theorem QF(t b:Int):part t b ∣ b:=by
 unfold part; split
 ·exact Int.neg_dvd.mpr (mM t b)
 ·exact mM t b
theorem Ln(t b:Int):(BR t b).1*part t b=t:=by
 show t.fdiv (part t b)*part t b=t;rw[kj (QC t b),qA (QC t b)]
theorem KS(t b:Int):(BR t b).2*part t b=b:=by
 show b.fdiv (part t b)*part t b=b;rw[kj (QF t b),qA (QF t b)]
theorem Ru(t b:Int)(h:b≠0):0<(BR t b).2:=by
 have e:=KS t b;have g:=N3 t b h;rcases Int.lt_or_lt_of_ne h with h1 | h1
 ·have hp:part t b<0:=by unfold part; rw[i5 h1]; omega
  rcases mP 0 (BR t b).2 with q | q
  ·exact q
  ·have:0<=(BR t b).2*part t b:=Int.mul_nonneg_of_nonpos_of_nonpos q (qK hp)
   omega
 ·have hp:0<part t b:=by unfold part; rw[iz (by omega)]; omega
  rcases mP 0 (BR t b).2 with q | q
  ·exact q
  ·have:(BR t b).2*part t b<=0:=nT q (qK hp)
   omega
theorem QN(t b:Int):(BR t b).1*b=t*(BR t b).2:=by
 have e1:=Ln t b;have e2:=KS t b;generalize (BR t b).1=n at *;generalize (BR t b).2=d at *;generalize part t b=p at *;subst e1;subst e2;rw[Int.mul_comm d p,sQ]
theorem Y8(t b:Int)(h:b≠0):Int.gcd (BR t b).1 (BR t b).2=1:=by
 have e1:=Ln t b;have e2:=KS t b;have g:=N3 t b h;have hp:(part t b).natAbs=Int.gcd t b:=by unfold part; split <;> omega
 have k:Int.gcd ((BR t b).1*part t b) ((BR t b).2*part t b)=Int.gcd (BR t b).1 (BR t b).2*(part t b).natAbs:=Int.gcd_mul_right _ _ _;rw[e1,e2,hp] at k
 have:1*Int.gcd t b=Int.gcd (BR t b).1 (BR t b).2*Int.gcd t b:=by rw[oa]; exact k
 exact(Nat.eq_of_mul_eq_mul_right g this).symm
theorem Se(t b:Int)(h:b≠0):(part t b).natAbs<=b.natAbs:=by
 have e:(part t b).natAbs=Int.gcd t b:=by unfold part; split <;> omega
 rw[e];exact oW (qd.mpr h) (by
  have:=mM t b
  exact oP.mp this)
theorem Qf(t b:Int)(h:b≠0):(BR t b).1.natAbs<=t.natAbs:=by
 have e:=congrArg Int.natAbs (Ln t b);rw[jG] at e
 have:1<=(part t b).natAbs:=qd.mpr (J0 t b h)
 calc (BR t b).1.natAbs=(BR t b).1.natAbs*1:=(rN _).symm
  _<=(BR t b).1.natAbs*(part t b).natAbs:=kD _ this
  _=t.natAbs:=e
theorem Qq(t b:Int)(h:b≠0):(BR t b).2.natAbs<=b.natAbs:=by
 have e:=congrArg Int.natAbs (KS t b);rw[jG] at e
 have:1<=(part t b).natAbs:=qd.mpr (J0 t b h)
 calc (BR t b).2.natAbs=(BR t b).2.natAbs*1:=(rN _).symm
  _<=(BR t b).2.natAbs*(part t b).natAbs:=kD _ this
  _=b.natAbs:=e
end Mth
namespace Wd
abbrev AW:=Nat->Rat
abbrev Av:=List Bool->Rat
def sh(v:AW):AW:=λj=>v (j+1)
def BE(w:Av):Av:=λT=>w (false :: T)
def A3(w:Av):Av:=λT=>w (true :: T)
def wg:AW->Av->Av
 | _,_,[]=>0
 | v,w,false :: S=>wg (sh v) (BE w) S
 | v,w,true :: S=>v 0*w (false :: S)-wg (sh v) (A3 w) S
def Aq:Av
 | []=>1
 | false :: S=>Aq S
 | true :: _=>0
theorem Jy(S:List Bool):∀(u v:AW) (w:Av),wg (λj=>u j+v j) w S=wg u w S+wg v w S:=by
 induction S with
 | nil=>intro u v w; simp only[wg]; grind
 | cons b S ih =>
  intro u v w;have h:=ih (sh u) (sh v);have e:sh (λj=>u j+v j)=λj=>sh u j+sh v j:=rfl
  cases b
  ·simp only[wg,e,h]
  ·simp only[wg,e,h]; grind
theorem Gv(S:List Bool):∀(c:Rat) (v:AW) (w:Av),wg (λj=>c*v j) w S=c*wg v w S:=by
 induction S with
 | nil=>intro c v w; simp[wg]
 | cons b S ih =>
  intro c v w;have h:=ih c (sh v);have e:sh (λj=>c*v j)=λj=>c*sh v j:=rfl
  cases b
  ·simp only[wg,e,h]
  ·simp only[wg,e,h]; grind
theorem KJ(S:List Bool):∀(v:AW) (w x:Av),wg v (λT=>w T+x T) S=wg v w S+wg v x S:=by
 induction S with
 | nil=>intro v w x; simp only[wg]; grind
 | cons b S ih =>
  intro v w x;have e0:BE (λT=>w T+x T)=λT=>BE w T+BE x T:=rfl
  have e1:A3 (λT=>w T+x T)=λT=>A3 w T+A3 x T:=rfl
  cases b
  ·simp only[wg,e0,ih]
  ·simp only[wg,e1,ih]; grind
theorem FC(S:List Bool):∀(c:Rat) (v:AW) (w:Av),wg v (λT=>c*w T) S=c*wg v w S:=by
 induction S with
 | nil=>intro c v w; simp[wg]
 | cons b S ih =>
  intro c v w;have e0:BE (λT=>c*w T)=λT=>c*BE w T:=rfl
  have e1:A3 (λT=>c*w T)=λT=>c*A3 w T:=rfl
  cases b
  ·simp only[wg,e0,ih]
  ·simp only[wg,e1,ih]; grind
theorem cx(S:List Bool)(v:AW)(w x:Av):wg v (λT=>w T-x T) S=wg v w S-wg v x S:=by
 have e:(λT=>w T-x T)=λT=>w T+(λT=>(-1)*x T) T:=by funext T; grind
 rw[e,KJ,FC]; grind
theorem JV(S:List Bool):∀(v:AW) (w:Av),wg v (wg v w) S=0:=by
 induction S with
 | nil=>intro v w; simp[wg]
 | cons b S ih =>
  intro v w;cases b
  ·have e0:BE (wg v w)=wg (sh v) (BE w):=rfl;simp only[wg,e0,ih]
  ·have e1:A3 (wg v w)=λT=>v 0*BE w T-wg (sh v) (A3 w) T:=rfl
   have e2:(λT=>v 0*BE w T)=λT=>v 0*BE w T:=rfl
   simp only[wg,e1];rw[cx (x:=wg (sh v) (A3 w)) (w:=λT=>v 0*BE w T),FC,ih]; grind
theorem J8(u v:AW)(w:Av)(S:List Bool):wg u (wg v w) S=- wg v (wg u w) S:=by
 have h:=JV S (λj=>u j+v j) w;have e:wg (λj=>u j+v j) w=λT=>wg u w T+wg v w T:=by funext T; exact Jy T u v w
 rw[Jy,e,KJ,KJ,JV,JV] at h
 grind
theorem LY(S:List Bool)(v:AW):wg v (λ_=>0) S=0:=by
 have h:=FC S 0 v (λ_=>0);have e:(λT:List Bool=>(0:Rat)*(λ_=>(0:Rat)) T)=λ_=>0:=by funext T; grind
 rw[e] at h; grind
def Ac:List AW->Av->Av
 | [],w=>w
 | v :: L,w=>Ac L (wg v w)
theorem GP(L M:List AW)(w:Av):Ac (L++M) w=Ac M (Ac L w):=by
 induction L generalizing w with
 | nil=>rfl
 | cons v L ih=>simp[Ac,ih]
theorem Gy(L:List AW):∀(c:Rat) (w:Av),Ac L (λT=>c*w T)=λT=>c*Ac L w T:=by
 induction L with
 | nil=>intro c w; rfl
 | cons v L ih =>
  intro c w;have e:wg v (λT=>c*w T)=λT=>c*wg v w T:=by funext T; exact FC T c v w
  simp only[Ac]; rw[e,ih]
theorem Z0(L:List AW):∀(w x:Av),Ac L (λT=>w T+x T)=λT=>Ac L w T+Ac L x T:=by
 induction L with
 | nil=>intro w x; rfl
 | cons v L ih =>
  intro w x;have e:wg v (λT=>w T+x T)=λT=>wg v w T+wg v x T:=by funext T; exact KJ T v w x
  simp only[Ac]; rw[e,ih]
theorem Yk(L:List AW):Ac L (λ_=>0)=λ_=>0:=by
 induction L with
 | nil=>rfl
 | cons v L ih =>
  have e:wg v (λ_=>0)=λ_=>0:=by funext T; exact LY T v
  simp only[Ac]; rw[e,ih]
def sg(n:Nat):Rat:=if n % 2=0 then 1 else -1
theorem Nb(n:Nat):sg (n+1)=- sg n:=by unfold sg; split <;> split <;> first | omega | grind
theorem IM(n:Nat):sg n*sg n=1:=by unfold sg; split <;> grind
theorem UP(L:List AW):∀(v:AW) (w:Av) (S:List Bool),Ac L (wg v w) S=sg L.length*wg v (Ac L w) S:=by
 induction L with
 | nil=>intro v w S; simp[Ac,sg]
 | cons u L ih =>
  intro v w S;simp only[Ac,jD];have e:wg u (wg v w)=λT=>(-1)*wg v (wg u w) T:=by funext T; rw[J8]; grind
  rw[e,Gy];simp only[];rw[ih,Nb]; grind
theorem NA(P Q R:List AW)(v:AW)(w:Av)(S:List Bool):Ac (P++v :: Q++v :: R) w S=0:=by
 have e:P++v :: Q++v :: R=P++(v :: (Q++(v :: R))):=by simp
 rw[e,GP];generalize Ac P w=x;simp only[Ac];rw[GP];simp only[Ac];have h:wg v (Ac Q (wg v x))=λ_=>0:=by
  funext T
  have h2:Ac Q (wg v x)=λT=>sg Q.length*wg v (Ac Q x) T:=by funext T; exact UP Q v x T
  rw[h2,FC,JV]; grind
 rw[h,Yk]
theorem Mi(P Q:List AW)(u v:AW)(w:Av)(S:List Bool):
  Ac (P++(λj=>u j+v j) :: Q) w S=Ac (P++u :: Q) w S+Ac (P++v :: Q) w S:=by
 rw[GP,GP,GP];simp only[Ac];have e:wg (λj=>u j+v j) (Ac P w)=λT=>wg u (Ac P w) T+wg v (Ac P w) T:=by funext T; exact Jy T u v _
 rw[e,Z0]
theorem W5(P Q:List AW)(c:Rat)(v:AW)(w:Av)(S:List Bool):
  Ac (P++(λj=>c*v j) :: Q) w S=c*Ac (P++v :: Q) w S:=by
 rw[GP,GP];simp only[Ac];have e:wg (λj=>c*v j) (Ac P w)=λT=>c*wg v (Ac P w) T:=by funext T; exact Gv T c v _
 rw[e,Gy]
theorem ZS(P Q R:List AW)(u v:AW)(w:Av)(S:List Bool):
  Ac (P++u :: Q++v :: R) w S=- Ac (P++v :: Q++u :: R) w S:=by
 have h:=NA P Q R (λj=>u j+v j) w S;have a1:∀x y:AW,P++x :: Q++y :: R=P++x :: (Q++y :: R):=by intro x y; simp
 have h1:Ac (P++(λj=>u j+v j) :: Q++(λj=>u j+v j) :: R) w S
   = Ac (P++u :: Q++(λj=>u j+v j) :: R) w S+Ac (P++v :: Q++(λj=>u j+v j) :: R) w S:=by
  rw[a1,Mi,<-a1,<-a1]
 rw[h1,Mi,Mi,NA,NA] at h
 grind
def DE(c:Nat)(v:AW):AW:=λj=>v (j+c)
def pre(c:Nat)(w:Av):Av:=λT=>w (List.replicate c true++T)
theorem OF(c:Nat):∀(v:AW) (w:Av) (S:List Bool),(∀j,j<c->v j=0) →
  wg v w (List.replicate c true++S)=sg c*wg (DE c v) (pre c w) S:=by
 induction c with
 | zero=>intro v w S _; simp[sg]; rfl
 | succ c ih =>
  intro v w S h;have h0:=h 0 (by omega)
  have:=ih (sh v) (A3 w) S (λj hj=>h (j+1) (by omega))
  simp only[jE,lK,wg];rw[this,h0,Nb];have e1:DE c (sh v)=DE (c+1) v:=by funext j; simp only[DE,sh]; congr 1
  have e2:pre c (A3 w)=pre (c+1) w:=by funext T; simp[pre,A3,jE]
  rw[e1,e2]; grind
theorem au(S:List Bool):∀(v:AW) (w:Av),(∀b∈S,b=false)->wg v w S=0:=by
 induction S with
 | nil=>intro v w _; rfl
 | cons b S ih =>
  intro v w h
  have:=h b (by simp)
  subst this;exact ih _ _ (λb hb=>h b (by simp[hb]))
theorem dB(d e:Nat):∀(v:AW) (w:Av),
  wg v w (List.replicate d false++true :: List.replicate e false)=v d*w (List.replicate (d+1+e) false):=by
 induction d with
 | zero =>
  intro v w;simp only[qC,nz,wg];rw[au _ _ _ (λb hb=>(qM.mp hb).2)]
  have:(0+1+e)=e+1:=by omega
  rw[this,jE]; grind
 | succ d ih =>
  intro v w
  have:=ih (sh v) (BE w)
  simp only[jE,lK,wg];rw[this]
  have:d+1+1+e=(d+1+e)+1:=by omega
  rw[this,jE]; rfl
def Tk(c m:Nat):List Bool:=List.replicate c true++List.replicate (m-c) false
def Sj(c j m:Nat):List Bool:=List.replicate c true++(List.replicate (j-c) false++true :: List.replicate (m-1-j) false)
theorem Ou{c j m:Nat}{v:AW}(w:Av)(hz:∀i,i<c->v i=0)(h1:c<=j)(h2:j<m):
  wg v w (Sj c j m)=sg c*(v j*w (Tk c m)):=by
 unfold Sj;rw[OF c v w _ hz,dB];have e:j-c+1+(m-1-j)=m-c:=by omega
 simp only[DE,pre,e,Tk]
 have:j-c+c=j:=by omega
 rw[this]
theorem aj{c m:Nat}(h:c<m):Sj c c m=Tk (c+1) m:=by
 unfold Sj Tk;have e:m-1-c=m-(c+1):=by omega
 rw[mU,qC,nz,e,lD,jU]; rfl
def Bz:Nat->Rat
 | 0=>1
 | c+1=>Bz c*sg c
theorem JO(c:Nat):Bz c*Bz c=1:=by
 induction c with
 | zero=>simp[Bz]
 | succ c ih=>simp only[Bz]; have:=IM c; grind
def ld(c m:Nat)(w:Av):Rat:=Bz c*w (Tk c m)
theorem fE{c m:Nat}{v:AW}(w:Av)(hz:∀i,i<c->v i=0)(h:c<m):ld (c+1) m (wg v w)=v c*ld c m w:=by
 have:=Ou (v:=v) w hz (i4 c) h
 rw[aj h] at this;unfold ld;rw[this]; simp only[Bz]; have:=IM c; grind
def BM(x:Rat):Prop:=∃n:Int,x=n
theorem BM.Eh{x y:Rat}(h:BM x)(g:BM y):BM (x*y):=by
 obtain⟨a,rfl⟩:=h; obtain⟨b,rfl⟩:=g; exact⟨a*b,by grind⟩
theorem BM.Di{x y:Rat}(h:BM x)(g:BM y):BM (x-y):=by
 obtain⟨a,rfl⟩:=h; obtain⟨b,rfl⟩:=g; exact⟨a-b,by grind⟩
theorem BM.of(n:Int):BM (n:Rat):=⟨n,rfl⟩
theorem Lv(S:List Bool):∀(v:AW) (w:Av),(∀j,BM (v j))->(∀T,BM (w T))->BM (wg v w S):=by
 induction S with
 | nil=>intro v w _ _; exact⟨0,rfl⟩
 | cons b S ih =>
  intro v w h g;cases b
  ·exact ih _ _ (λj=>h (j+1)) (λT=>g _)
  ·exact((h 0).Eh (g _)).Di (ih _ _ (λj=>h (j+1)) (λT=>g _))
theorem Nd(S:List Bool):BM (Aq S):=by
 induction S with
 | nil=>exact⟨1,rfl⟩
 | cons b S ih=>cases b; exact ih; exact⟨0,rfl⟩
theorem Zn(n:Nat):Aq (List.replicate n false)=1:=by
 induction n with
 | zero=>rfl
 | succ n ih=>rw[jE]; exact ih
theorem OY(m:Nat):ld 0 m Aq=1:=by
 simp[ld,Bz,Tk,Zn]
def CZ(S:List Bool):Nat:=(S.filter id).length
theorem cG(S:List Bool):∀(v:AW) (w:Av) (d:Nat),(∀T,CZ T<d->w T=0)->CZ S<d+1->wg v w S=0:=by
 induction S with
 | nil=>intro v w d _ _; rfl
 | cons b S ih =>
  intro v w d h g;cases b
  ·exact ih (sh v) (BE w) d (λT hT=>h _ (by simpa [CZ] using hT)) (by simpa [CZ] using g)
  ·simp only[wg];have g1:CZ S<d:=by simp[CZ] at g ⊢; omega
   rw[h (false :: S) (by simpa [CZ] using g1)];cases d with
   | zero=>omega
   | succ d=>rw[ih (sh v) (A3 w) d (λT hT=>h _ (by simp[CZ] at hT ⊢; omega)) g1]; grind
theorem Z3(L:List AW):∀(w:Av) (d:Nat),(∀T,CZ T<d->w T=0)->∀S,CZ S<d+L.length->Ac L w S=0:=by
 induction L with
 | nil=>intro w d h S hS; exact h S (by simpa using hS)
 | cons v L ih =>
  intro w d h S hS;exact ih (wg v w) (d+1) (λT hT=>cG T v w d h hT) S (by simp at hS; omega)
theorem aF(c:Nat)(L:List AW):∀(w:Av) (S:List Bool),(∀v∈L,∀j,j<c->v j=0) →
  ∃e:Rat,Ac L w (List.replicate c true++S)=e*Ac (L.map (DE c)) (pre c w) S:=by
 induction L with
 | nil=>intro w S _; exact⟨1,by simp[Ac,pre]⟩
 | cons v L ih =>
  intro w S h;obtain⟨e,he⟩:=ih (wg v w) S (λu hu=>h u (by simp[hu]));refine⟨e*sg c,?_⟩;simp only[Ac,i8];rw[he]
  have:pre c (wg v w)=λT=>sg c*wg (DE c v) (pre c w) T:=by
   funext T; exact OF c v w T (h v (by simp))
  rw[this,Gy]; grind
theorem bL{c n m:Nat}{L:List AW}(w:Av)(hz:∀v∈L,∀j,j<c->v j=0)(h1:c<=n)(h2:n<c+L.length):Ac L w (Tk n m)=0:=by
 have e:Tk n m=List.replicate c true++(List.replicate (n-c) true++List.replicate (m-n) false):=by
  unfold Tk;rw[<-List.append_assoc,mj];congr 2; omega
 obtain⟨x,hx⟩:=aF c L w (List.replicate (n-c) true++List.replicate (m-n) false) hz;rw[e,hx,Z3 _ _ 0 (λT hT=>by omega)]
 ·grind
 ·simp[CZ,nG]; omega
def Ab(B x:Rat):Prop:=-B<=x/\x<=B
theorem Ab.nn{B x:Rat}(h:Ab B x):0<=B:=by obtain⟨a,b⟩:=h; grind
theorem Ab.Eh{B C x y:Rat}(h:Ab B x)(g:Ab C y):Ab (B*C) (x*y):=by
 obtain⟨h1,h2⟩:=h;obtain⟨h3,h4⟩:=g;have a1:=kY (show 0<=B-x by grind) (show 0<=C+y by grind);have a2:=kY (show 0<=B+x by grind) (show 0<=C-y by grind);have a3:=kY (show 0<=B-x by grind) (show 0<=C-y by grind);have a4:=kY (show 0<=B+x by grind) (show 0<=C+y by grind);constructor <;> grind
theorem Ab.Di{B C x y:Rat}(h:Ab B x)(g:Ab C y):Ab (B+C) (x-y):=by
 obtain⟨h1,h2⟩:=h;obtain⟨h3,h4⟩:=g;constructor <;> grind
theorem Ab.le{B C x:Rat}(h:Ab B x)(g:B<=C):Ab C x:=by
 obtain⟨h1,h2⟩:=h;constructor <;> grind
theorem Ab.neg{B x:Rat}(h:Ab B x):Ab B (-1*x):=by
 obtain⟨h1,h2⟩:=h;constructor <;> grind
theorem Oe{V W:Rat}(S:List Bool):∀(v:AW) (w:Av),(∀j,Ab V (v j))->(∀T:List Bool,T.length=S.length->Ab W (w T))->Ab ((S.length:Nat)*(V*W)) (wg v w S):=by
 induction S with
 | nil=>intro v w _ _; simp only[wg,lC]; constructor <;> grind
 | cons b S ih =>
  intro v w h g;have hW:=(g (b :: S) rfl).nn;have hV:=(h 0).nn;have hVW:=kY hV hW;have e:(((b :: S).length:Nat):Rat)=(S.length:Nat)+1:=by rw[jD]; grind
  cases b
  ·have:=ih (sh v) (BE w) (λj=>h (j+1)) (λT hT=>g _ (by simp[hT]))
   simp only[wg];refine this.le ?_;rw[e]; grind
  ·have h1:=ih (sh v) (A3 w) (λj=>h (j+1)) (λT hT=>g _ (by simp[hT]));have h2:=(h 0).Eh (g (false :: S) (by simp));simp only[wg];refine(h2.Di h1).le ?_;rw[e]; grind
def vr(r:List Int):AW:=λj=>((r.getD j 0:Int):Rat)
def Cn(row lead:List Int)(k:Nat)(p:Int):List Int:=List.zipWith (λx y=>(lead.getD k 0*x-row.getD k 0*y).fdiv p) row lead
structure Pz(f:AW->Rat):Prop where
 Dt:∀u v:AW,f (λj=>u j+v j)=f u+f v
 Gj:∀(c:Rat) (v:AW),f (λj=>c*v j)=c*f v
structure Bi(B n m k:Nat)(A0:List AW)(top:List (List Int))(Z:List (List Int×AW))(p:Int)(w:Av):Prop where
 F9:top.length=k
 Ew:k+Z.length=n
 nm:n<=m
 IU:∀r∈top,r.length=m
 Dg:∀z∈Z,z.1.length=m
 pz:p≠0
 pl:ld k m w=p
 rel:∀z∈Z,∀S,p*wg z.2 w S=wg (vr z.1) w S
 Ee:∀z∈Z,∀j,j<k->vr z.1 j=0
 HZ:∀S,BM (w S)
 FT:∀z∈Z,∀j,BM (z.2 j)
 all:Ac (Z.map (·.2)) w=Ac A0 Aq
 E2:∀i,i<k->(top.getD i []).getD i 0≠0/\∀j,j<i->(top.getD i []).getD j 0=0
 Hh:0<k->(top.getD (k-1) []).getD (k-1) 0=p
 Hs:∀z∈Z,∀j,Ab B (z.2 j)
 Hr:∀T,Ab ((T.length*B) ^ k:Nat) (w T)
 Ik:∀r∈top,∀j,Ab ((m*B) ^ n:Nat) (vr r j)
 b1:1<=B
 K1:∀f,Pz f->(∀a∈A0,f a=0)->(∀r∈top,f (vr r)=0)/\∀z∈Z,f (vr z.1)=0
 JW:∀f,Pz f->(∀r∈top,f (vr r)=0)->(∀z∈Z,f (vr z.1)=0)->∀a∈A0,f a=0
def ng(z:List Int×AW):List Int×AW:=(z.1.map (λx=>-x),λj=>(-1)*z.2 j)
theorem Ww(r:List Int)(j:Nat):(r.map (λx=>-x)).getD j 0=- r.getD j 0:=by
 simp only[ir,iy];cases r[j]? <;> simp
theorem L0(r:List Int):vr (r.map (λx=>-x))=λj=>(-1)*vr r j:=by
 funext j; simp only[vr,Ww]; grind
theorem Bi.gj {B0 n m k:Nat} {A0:List AW} {top:List (List Int)} {f z:List Int×AW} {P Q:List (List Int×AW)} {p:Int} {w:Av}
  (B:Bi B0 n m k A0 top (f :: P++z :: Q) p w):Bi B0 n m k A0 top (z :: P++ng f :: Q) p w:=by
 have hf:f∈f :: P++z :: Q:=by simp
 have hm:∀y∈z :: P++ng f :: Q,y∈f :: P++z :: Q\/y=ng f:=by
  intro y hy; simp at hy ⊢; grind
 refine { F9:=B.F9,Ew:=?_,nm:=B.nm,IU:=B.IU,Dg:=?_,pz:=B.pz,pl:=B.pl,rel:=?_,Ee:=?_,HZ:=B.HZ,FT:=?_,all:=?_,E2:=B.E2,Hh:=B.Hh,Hs:=?_,Hr:=B.Hr,Ik:=B.Ik,b1:=B.b1,K1:=?_,JW:=?_ }
 ·have:=B.Ew; simp at this ⊢; omega
 ·intro y hy; rcases hm y hy with h | h
  ·exact B.Dg y h
  ·subst h; simp[ng]; exact B.Dg f hf
 ·intro y hy S; rcases hm y hy with h | h
  ·exact B.rel y h S
  ·subst h
   have:=B.rel f hf S
   simp only[ng,L0];rw[Gv,Gv]; grind
 ·intro y hy j hj; rcases hm y hy with h | h
  ·exact B.Ee y h j hj
  ·subst h
   have:=B.Ee f hf j hj
   simp only[ng,L0]; grind
 ·intro y hy j; rcases hm y hy with h | h
  ·exact B.FT y h j
  ·subst h; exact(BM.of (-1)).Eh (B.FT f hf j)
 ·rw[<-B.all]
  funext S
  simp only[ji,i8,ng];have h1:=W5 (z.2 :: P.map (·.2)) (Q.map (·.2)) (-1) f.2 w S;have h2:=ZS [] (P.map (·.2)) (Q.map (·.2)) z.2 f.2 w S;simp only[nz] at h2;rw[h1,h2]; grind
 ·intro y hy j; rcases hm y hy with h | h
  ·exact B.Hs y h j
  ·subst h; exact(B.Hs f hf j).neg
 ·intro g hg h0
  have:=B.K1 g hg h0
  refine⟨this.1,λy hy=>?_⟩;rcases hm y hy with h | h
  ·exact this.2 y h
  ·subst h; simp only[ng,L0]; rw[hg.Gj,this.2 f hf]; grind
 ·intro g hg h1 h2;refine B.JW g hg h1 λy hy=>?_
  have hf2:=h2 (ng f) (by simp);simp only[ng,L0] at hf2;rw[hg.Gj] at hf2;simp only[lK,jh,i9] at hy;rcases hy with h | h | h | h
  ·subst h; grind
  ·exact h2 y (by simp[h])
  ·subst h; exact h2 y (by simp)
  ·exact h2 y (by simp[h])
theorem UW{p:Rat}{a b z r:AW}{w:Av}(hp:p≠0)(ha:∀S,p*wg a w S=wg r w S)(hb:∀S,p*wg b w S=wg z w S)(S:List Bool):
  p*wg a (wg b w) S=wg r (wg b w) S:=by
 have h1:wg a (wg z w) S=p*wg a (wg b w) S:=by
  have:wg z w=λT=>p*wg b w T:=by funext T; exact(hb T).symm
  rw[this,FC]
 have h2:wg z (wg r w) S=p*wg z (wg a w) S:=by
  have:wg r w=λT=>p*wg a w T:=by funext T; exact(ha T).symm
  rw[this,FC]
 have h3:wg r (wg z w) S=p*wg r (wg b w) S:=by
  have:wg z w=λT=>p*wg b w T:=by funext T; exact(hb T).symm
  rw[this,FC]
 have h4:=J8 a z w S;have h5:=J8 z r w S
 have:p*(p*wg a (wg b w) S)=p*wg r (wg b w) S:=by grind
 grind
theorem aT{p:Rat}{b z:AW}{w:Av}(hb:∀S,p*wg b w S=wg z w S)(S:List Bool):wg z (wg b w) S=0:=by
 rw[J8]
 have:wg z w=λT=>p*wg b w T:=by funext T; exact(hb T).symm
 rw[this,FC,JV]; grind
theorem Lc{row lead:List Int}{k m:Nat}{p:Int}(h1:row.length=m)(h2:lead.length=m):(Cn row lead k p).length=m:=by
 simp[Cn,h1,h2]
theorem aM{row lead:List Int}{k m:Nat}{p:Int}(h1:row.length=m)(h2:lead.length=m)(j:Nat):
  (Cn row lead k p).getD j 0=(lead.getD k 0*row.getD j 0-row.getD k 0*lead.getD j 0).fdiv p:=by
 by_cases hj:j<m
 ·have a1:row.getD j 0=row[j]:=by rw[ir,ij (by omega)]; rfl
  have a2:lead.getD j 0=lead[j]:=by rw[ir,ij (by omega)]; rfl
  have hl:j<(Cn row lead k p).length:=by rw[Lc h1 h2]; exact hj
  rw[a1,a2,ir,ij hl];simp[Cn]
 ·have o:∀l:List Int,l.length=m->l.getD j 0=0:=by
   intro l hl;rw[ir,j7 (by omega)]; rfl
  rw[o _ (Lc h1 h2),o row h1,o lead h2];simp
theorem XW{r:List Int}{j:Nat}(h:vr r j=0):r.getD j 0=0:=by
 simp only[vr] at h; exact_mod_cast h
theorem QP {m k:Nat} {a b:AW} {r z:List Int} {p:Int} {w:Av} (hk:k<m) (hr:r.length=m) (hzl:z.length=m) (hp:p≠0) (hpl:ld k m w=p)
  (ha:∀S,(p:Rat)*wg a w S=wg (vr r) w S) (hb:∀S,(p:Rat)*wg b w S=wg (vr z) w S) (zr:∀j,j<k->vr r j=0) (zz:∀j,j<k->vr z j=0)
  (hq:z.getD k 0≠0) (iw:∀S,BM (w S)) (ia:∀j,BM (a j)) (ib:∀j,BM (b j)) :
  ld (k+1) m (wg b w)=z.getD k 0/\(∀j,(p:Rat)*vr (Cn r z k p) j=(z.getD k 0:Int)*vr r j-(r.getD k 0:Int)*vr z j) /\
  (∀S,((z.getD k 0:Int):Rat)*wg a (wg b w) S=wg (vr (Cn r z k p)) (wg b w) S)/\∀j,j<k+1->vr (Cn r z k p) j=0:=by
 have hp':(p:Rat)≠0:=by exact_mod_cast hp
 have hq':((z.getD k 0:Int):Rat)≠0:=by exact_mod_cast hq
 have l1:ld (k+1) m (wg b w)=z.getD k 0:=by
  have h1:=fE w zz hk;have h2:ld (k+1) m (wg (vr z) w)=p*ld (k+1) m (wg b w):=by
   unfold ld; rw[<-hb]; grind
  rw[h2,hpl] at h1
  have:vr z k=((z.getD k 0:Int):Rat):=rfl
  rw[this] at h1; grind
 let M:AW:=λj=>((z.getD k 0:Int):Rat)*vr r j+(-((r.getD k 0:Int):Rat))*vr z j
 have hM:∀S,wg M (wg b w) S=((z.getD k 0:Int):Rat)*(p*wg a (wg b w) S):=by
  intro S;have e:=Jy S (λj=>((z.getD k 0:Int):Rat)*vr r j) (λj=>(-((r.getD k 0:Int):Rat))*vr z j) (wg b w);rw[Gv,Gv,aT hb S,<-UW hp' ha hb S] at e;show wg M (wg b w) S=_;rw[show M=λj=>((z.getD k 0:Int):Rat)*vr r j+(-((r.getD k 0:Int):Rat))*vr z j from rfl,e]; grind
 have zM:∀j,j<k+1->M j=0:=by
  intro j hj;show((z.getD k 0:Int):Rat)*vr r j+(-((r.getD k 0:Int):Rat))*vr z j=0;rcases jv j k with h | h
  ·rw[zr j h,zz j h]; grind
  ·have:j=k:=by omega
   subst this;show((z.getD j 0:Int):Rat)*((r.getD j 0:Int):Rat)+(-((r.getD j 0:Int):Rat))*((z.getD j 0:Int):Rat)=0
   grind
 have dv:∀j,∃c:Int,M j=p*c:=by
  intro j;rcases jv j (k+1) with h | h
  ·exact⟨0,by rw[zM j h]; grind⟩
  ·rcases jv j m with h2 | h2
   ·have h3:=Ou (v:=M) (wg b w) zM h h2;rw[hM] at h3;obtain⟨c,hc⟩:=Lv (Sj (k+1) j m) a (wg b w) ia (λT=>Lv T b w ib iw);have h4:wg b w (Tk (k+1) m)=Bz (k+1)*((z.getD k 0:Int):Rat):=by
     have:=JO (k+1)
     rw[<-l1]; unfold ld; grind
    rw[h4] at h3;have h5:=JO (k+1);have h6:=IM (k+1);have ht:BM (sg (k+1)*Bz (k+1)):=by
     have i1:∀c,BM (sg c):=by intro c; unfold sg; split; exact⟨1,rfl⟩; exact⟨-1,rfl⟩
     have i2:∀c,BM (Bz c):=by
      intro c; induction c with
      | zero=>exact⟨1,rfl⟩
      | succ c ih=>exact ih.Eh (i1 c)
     exact(i1 _).Eh (i2 _)
    obtain⟨t,ht⟩:=ht;refine⟨t*c,?_⟩;rw[hc] at h3
    have:M j=sg (k+1)*Bz (k+1)*(p*c):=by
     have:((z.getD k 0:Int):Rat)*(M j)=((z.getD k 0:Int):Rat)*(sg (k+1)*Bz (k+1)*(p*c)):=by grind
     grind
    rw[this,ht]; grind
   ·refine⟨0,?_⟩;show((z.getD k 0:Int):Rat)*vr r j+(-((r.getD k 0:Int):Rat))*vr z j=_;have e1:r.getD j 0=0:=by rw[ir,j7 (by omega)]; rfl
    have e2:z.getD j 0=0:=by rw[ir,j7 (by omega)]; rfl
    simp only[vr,e1,e2]; grind
 have ex:∀j,(p:Rat)*vr (Cn r z k p) j=M j:=by
  intro j;obtain⟨c,hc⟩:=dv j;have hMi:M j=((z.getD k 0*r.getD j 0-r.getD k 0*z.getD j 0:Int):Rat):=by
   show((z.getD k 0:Int):Rat)*((r.getD j 0:Int):Rat)+(-((r.getD k 0:Int):Rat))*((z.getD j 0:Int):Rat)=_
   grind
  have hi:z.getD k 0*r.getD j 0-r.getD k 0*z.getD j 0=p*c:=by
   rw[hMi] at hc; exact_mod_cast hc
  simp only[vr];rw[aM hr hzl,hi,hc,kj (rA p c),l8 _ hp]
 have eN:(λj=>(p:Rat)*vr (Cn r z k p) j)=M:=funext ex;refine⟨l1,?_,?_,?_⟩
 ·intro j; rw[ex j];show((z.getD k 0:Int):Rat)*vr r j+(-((r.getD k 0:Int):Rat))*vr z j=_
  grind
 ·intro S;have h:=hM S;rw[<-eN,Gv] at h
  grind
 ·intro j hj;have h:=ex j;rw[zM j hj] at h
  grind
theorem Bi.Wa {B0 n m k:Nat} {A0:List AW} {top:List (List Int)} {Z:List (List Int×AW)} {p:Int} {w:Av} (B:Bi B0 n m k A0 top Z p w)
  {z:List Int×AW} (hz:z∈Z) (j:Nat):Ab ((m*B0) ^ (k+1):Nat) (vr z.1 j):=by
 have nnr:∀a:Nat,(0:Rat)<=(a:Rat):=λa=>by exact_mod_cast jS a
 have z0:Ab ((m*B0) ^ (k+1):Nat) (0:Rat):=by have:=nnr ((m*B0) ^ (k+1)); constructor <;> grind
 have hkn:=B.Ew;have hnm:=B.nm;have hl:0<Z.length:=kQ hz;rcases jv j k with h | h
 ·rw[B.Ee z hz j h]; exact z0
 ·rcases jv j m with h2 | h2
  ·have e:=Ou (v:=vr z.1) w (B.Ee z hz) h h2;rw[<-B.rel z hz] at e;have hp:(p:Rat)≠0:=by have:=B.pz; exact_mod_cast this
   have ht:w (Tk k m)=Bz k*p:=by
    have:=JO k
    have:=B.pl
    unfold ld at this; grind
   rw[ht] at e;have e2:vr z.1 j=sg k*Bz k*wg z.2 w (Sj k j m):=by
    have h5:=JO k;have h6:=IM k
    have:p*(vr z.1 j)=p*(sg k*Bz k*wg z.2 w (Sj k j m)):=by grind
    grind
   have ls:(Sj k j m).length=m:=by unfold Sj; simp; omega
   have bd:=Oe (V:=(B0:Nat)) (W:=((m*B0) ^ k:Nat)) (Sj k j m) z.2 w (B.Hs z hz) (λT hT=>by have:=B.Hr T; rw[hT,ls] at this; exact this);rw[ls] at bd;have eb:((m:Nat):Rat)*(((B0:Nat):Rat)*(((m*B0) ^ k:Nat):Rat))=(((m*B0) ^ (k+1):Nat):Rat):=by
    rw[lE]
    have:m*(B0*(m*B0) ^ k)=(m*B0) ^ k*(m*B0):=by rw[<-Nat.mul_assoc,nI]
    rw[<-this]; simp[mI]
   rw[eb] at bd;rw[e2];have s1:∀c,sg c=1\/sg c=-1:=by intro c; unfold sg; split; exact .inl rfl; exact .inr rfl
   have s2:∀c,Bz c=1\/Bz c=-1:=by
    intro c; induction c with
    | zero=>exact .inl rfl
    | succ c ih =>
     simp only[Bz];rcases ih with a | a <;> rcases s1 c with b | b <;> rw[a,b] <;> grind
   rcases s1 k with a | a <;> rcases s2 k with b | b <;> rw[a,b]
   ·simpa using bd
   ·have:=bd.neg; simpa using this
   ·have:=bd.neg; simpa using this
   ·rw[show(-1:Rat) * -1*wg z.2 w (Sj k j m)=wg z.2 w (Sj k j m) by grind]; exact bd
  ·have e1:z.1.getD j 0=0:=by rw[ir,j7 (by rw[B.Dg z hz]; omega)]; rfl
   have:vr z.1 j=0:=by simp only[vr,e1]; rfl
   rw[this]; exact z0
theorem Ul{a i n:Nat}(h:1<=a)(hi:i<=n):a ^ i<=a ^ n:=jX h hi
theorem Bi.step {B0 n m k:Nat} {A0:List AW} {top:List (List Int)} {z:List Int×AW} {Z:List (List Int×AW)} {p:Int} {w:Av}
  (B:Bi B0 n m k A0 top (z :: Z) p w) (hq:z.1.getD k 0≠0) :
  Bi B0 n m (k+1) A0 (top++[z.1]) (Z.map λy=>(Cn y.1 z.1 k p,y.2)) (z.1.getD k 0) (wg z.2 w):=by
 have hkn:=B.Ew;have hnm:=B.nm;simp at hkn;have hkm:k<m:=by omega
 have hz:z∈z :: Z:=by simp
 have key:∀y∈Z,_:=λy hy=>QP hkm (B.Dg y (by simp[hy])) (B.Dg z hz) B.pz B.pl (B.rel y (by simp[hy])) (B.rel z hz) (B.Ee y (by simp[hy])) (B.Ee z hz) hq B.HZ (B.FT y (by simp[hy])) (B.FT z hz)
 have l1:=(QP hkm (B.Dg z hz) (B.Dg z hz) B.pz B.pl (B.rel z hz) (B.rel z hz) (B.Ee z hz) (B.Ee z hz) hq B.HZ (B.FT z hz) (B.FT z hz)).1;have hp':(p:Rat)≠0:=by have:=B.pz; exact_mod_cast this
 have hlT:=B.F9;refine { F9:=by simp[B.F9],Ew:=by simp; omega,nm:=B.nm,IU:=?_,Dg:=?_,pz:=hq,pl:=l1,rel:=?_,Ee:=?_,HZ:=λS=>Lv S z.2 w (B.FT z hz) B.HZ,FT:=?_,all:=?_,E2:=?_,Hh:=?_,Hs:=?_,Hr:=?_,Ik:=?_,b1:=B.b1,K1:=?_,JW:=?_ }
 ·intro r hr; simp at hr; rcases hr with h | h
  ·exact B.IU r h
  ·subst h; exact B.Dg z hz
 ·intro y hy; simp at hy; obtain⟨a,b,hab,rfl⟩:=hy;exact Lc (B.Dg (a,b) (by simp[hab])) (B.Dg z hz)
 ·intro y hy S; simp at hy; obtain⟨a,b,hab,rfl⟩:=hy;exact(key (a,b) hab).2.2.1 S
 ·intro y hy; simp at hy; obtain⟨a,b,hab,rfl⟩:=hy;exact(key (a,b) hab).2.2.2
 ·intro y hy; simp at hy; obtain⟨a,b,hab,rfl⟩:=hy;exact B.FT (a,b) (by simp[hab])
 ·rw[<-B.all]; simp[Ac,nS]
 ·intro i hi;rcases jv i k with h | h
  ·have:(top++[z.1]).getD i []=top.getD i []:=by
    rw[ir,ir,jm (by omega)]
   rw[this]; exact B.E2 i h
  ·have:i=k:=by omega
   subst this
   have:(top++[z.1]).getD i []=z.1:=by
    rw[ir,jd (by omega),hlT]; simp
   rw[this];exact⟨hq,λj hj=>XW (B.Ee z hz j hj)⟩
 ·intro _
  have:(top++[z.1]).getD (k+1-1) []=z.1:=by
   rw[ir,jd (by omega)]; simp[hlT]
  rw[this]; rfl
 ·intro y hy; simp at hy; obtain⟨a,b,hab,rfl⟩:=hy;exact B.Hs (a,b) (by simp[hab])
 ·intro T;have bd:=Oe (V:=(B0:Nat)) (W:=((T.length*B0) ^ k:Nat)) T z.2 w (B.Hs z hz) (λU hU=>by have:=B.Hr U; rw[hU] at this; exact this);have eb:((T.length:Nat):Rat)*(((B0:Nat):Rat)*(((T.length*B0) ^ k:Nat):Rat))=(((T.length*B0) ^ (k+1):Nat):Rat):=by
   rw[lE]
   have:T.length*(B0*(T.length*B0) ^ k)=(T.length*B0) ^ k*(T.length*B0):=by rw[<-Nat.mul_assoc,nI]
   rw[<-this]; simp[mI]
  rw[eb] at bd;exact bd
 ·intro r hr j; simp at hr; rcases hr with h | h
  ·exact B.Ik r h j
  ·subst h;refine(B.Wa hz j).le ?_
   have:=B.b1
   have h1:1<=m*B0:=rO (by omega) (by omega)
   exact_mod_cast Ul h1 (by omega)
 ·intro f hf h0;have hl:=B.K1 f hf h0;refine⟨?_,?_⟩
  ·intro r hr; simp at hr; rcases hr with h | h
   ·exact hl.1 r h
   ·subst h; exact hl.2 z hz
  ·intro y hy; simp at hy; obtain⟨a,b,hab,rfl⟩:=hy;have h1:=(key (a,b) hab).2.1;have e:(λj=>(p:Rat)*vr (Cn a z.1 k p) j)=λj=>(λj=>((z.1.getD k 0:Int):Rat)*vr a j) j+(λj=>(-((a.getD k 0:Int):Rat))*vr z.1 j) j:=by
    funext j; rw[h1 j]; grind
   have h2:=congrArg f e;rw[hf.Gj,hf.Dt,hf.Gj,hf.Gj,hl.2 z hz,hl.2 (a,b) (by simp[hab])] at h2
   grind
 ·intro f hf h1 h2;have fz:f (vr z.1)=0:=h1 z.1 (by simp);have hq':((z.1.getD k 0:Int):Rat)≠0:=by exact_mod_cast hq
  refine B.JW f hf (λr hr=>h1 r (by simp[hr])) λy hy=>?_
  rcases jh.mp hy with h | h
  ·subst h; exact fz
  ·have e1:=(key y h).2.1;have e:(λj=>(p:Rat)*vr (Cn y.1 z.1 k p) j)=λj=>(λj=>((z.1.getD k 0:Int):Rat)*vr y.1 j) j+(λj=>(-((y.1.getD k 0:Int):Rat))*vr z.1 j) j:=by
    funext j; rw[e1 j]; grind
   have h3:=congrArg f e;rw[hf.Gj,hf.Dt,hf.Gj,hf.Gj,fz,h2 _ (oH h)] at h3
   grind
theorem bK(Z:List (List Int×AW)):∀{p:Rat} {w:Av},p≠0->(∀z∈Z,∀S,p*wg z.2 w S=wg (vr z.1) w S) →
  ∃c:Rat,c≠0/\∀S,c*Ac (Z.map (·.2)) w S=Ac (Z.map (λz=>vr z.1)) w S:=by
 induction Z with
 | nil=>intro p w _ _; exact⟨1,by grind,λS=>by simp[Ac]⟩
 | cons z Z ih =>
  intro p w hp h;obtain⟨c,hc,hS⟩:=ih (p:=p) (w:=wg z.2 w) hp (λy hy S=>UW hp (h y (by simp[hy])) (h z (by simp)) S);refine⟨p*c,by grind,λS=>?_⟩;simp only[i8,Ac];have e:wg (vr z.1) w=λT=>p*wg z.2 w T:=by funext T; exact(h z (by simp) T).symm
  rw[e,Gy];simp only[];rw[<-hS]; grind
theorem Bi.none {B0 n m k:Nat} {A0:List AW} {top:List (List Int)} {Z:List (List Int×AW)} {p:Int} {w:Av}
  (B:Bi B0 n m k A0 top Z p w) (hkn:k<n) (h0:∀z∈Z,z.1.getD k 0=0):ld n m (Ac A0 Aq)=0:=by
 have hp':(p:Rat)≠0:=by have:=B.pz; exact_mod_cast this
 obtain⟨c,hc,hS⟩:=bK Z hp' B.rel;have h:=bL (c:=k+1) (n:=n) (m:=m) (L:=Z.map (λz=>vr z.1)) w ?_ (by omega) (by have:=B.Ew; simp; omega)
 ·rw[<-hS,B.all] at h;unfold ld; grind
 ·intro v hv j hj;rw[i7] at hv;obtain⟨z,hz,rfl⟩:=hv;rcases jv j k with h | h
  ·exact B.Ee _ hz j h
  ·have:j=k:=by omega
   subst this
   have:=h0 _ hz
   simp only[vr]; rw[this]; rfl
theorem Bi.iS{B0 n m:Nat}{R:List (List Int)}(hb1:1<=B0)(hb:∀r∈R,∀j,Ab B0 (vr r j))(h1:R.length=n)(h2:n<=m)(h3:∀r∈R,r.length=m):
  Bi B0 n m 0 (R.map vr) [] (R.map λr=>(r,vr r)) 1 Aq:=by
 refine { F9:=rfl,Ew:=by simp[h1],nm:=h2,IU:=by simp,Dg:=?_,pz:=by omega,pl:=?_,rel:=?_,Ee:=by intro _ _ j hj; omega,HZ:=Nd,FT:=?_,all:=?_,E2:=by intro i hi; omega,Hh:=by intro h; omega,Hs:=?_,Hr:=?_,Ik:=by simp,b1:=hb1,K1:=?_,JW:=?_ }
 ·intro z hz; simp at hz; obtain⟨a,ha,rfl⟩:=hz; exact h3 a ha
 ·rw[OY]; rfl
 ·intro z hz S; simp at hz; obtain⟨a,ha,rfl⟩:=hz; simp only[]; grind
 ·intro z hz j; simp at hz; obtain⟨a,ha,rfl⟩:=hz; exact⟨_,rfl⟩
 ·simp[nS]
 ·intro z hz j; simp at hz; obtain⟨a,ha,rfl⟩:=hz; exact hb a ha j
 ·intro T
  have:Aq T=1\/Aq T=0:=by
   induction T with
   | nil=>exact .inl rfl
   | cons b T ih=>cases b; exact ih; exact .inr rfl
  rw[qQ];rcases this with h | h <;> rw[h] <;> constructor <;> grind
 ·intro f hf h0; refine⟨by simp,?_⟩;intro z hz; simp at hz; obtain⟨a,ha,rfl⟩:=hz; exact h0 _ (oH ha)
 ·intro f hf h1 h2 a ha;obtain⟨r,hr,rfl⟩:=i7.mp ha;exact h2 (r,vr r) (i7.mpr ⟨r,hr,rfl⟩)
theorem Bi.fin {B0 n m:Nat} {A0:List AW} {top:List (List Int)} {Z:List (List Int×AW)} {p:Int} {w:Av}
  (B:Bi B0 n m n A0 top Z p w):Z=[]/\ld n m (Ac A0 Aq)=p:=by
 have:Z=[]:=by have:=B.Ew; exact ku.mp (by omega)
 subst this;refine⟨rfl,?_⟩;rw[<-B.all]; exact B.pl
end Wd
namespace Mth
theorem Fc(t b : Int)(h : b ≠ 0): BR t b = (((t : Rat) / (b : Rat)).num, (((t : Rat) / (b : Rat)).den : Int)) := by
  have g := Y8 t b h;have p := Ru t b h;have c := QN t b;generalize (BR t b) = x at *;obtain⟨n, d⟩ := x;simp only at g p c;have hd : d = (d.toNat : Int) := by omega
  have hn : d.toNat ≠ 0 := by omega
  have hc : n.natAbs.Coprime d.toNat := by
    have : Int.gcd n d = n.natAbs.gcd d.toNat := by rw[Int.gcd]; congr 1; omega
    unfold Nat.Coprime; rw[<- this]; exact g
  let r : Rat := ⟨n, d.toNat, hn, hc⟩
  have hr : r * (d : Rat) = n := by
    have h1 : r = (n : Rat) / ((d.toNat : Nat) : Rat) := by
      have := nO r;rw[<- this, nX]; rfl
    have h2 : ((d.toNat : Nat) : Rat) = (d : Rat) := by
      have : ((d.toNat : Nat) : Rat) = (((d.toNat : Nat) : Int) : Rat) := rfl;rw[this, <- hd]
    have h3 : (d : Rat) ≠ 0 := by have : d ≠ 0 := by omega
                                  exact_mod_cast this
    rw[h1, h2]; grind
  have hb : (b : Rat) ≠ 0 := by exact_mod_cast h
  have hd0 : (d : Rat) ≠ 0 := by have : d ≠ 0 := by omega
                                 exact_mod_cast this
  have cr : (n : Rat) * b = t * d := by exact_mod_cast c
  have e : (t : Rat) / (b : Rat) = r := by grind
  rw[e];show(n, d) = (n, ((d.toNat : Nat) : Int));rw[<- hd]
def fr(q:Rat):Int×Int:=(q.num,q.den)
theorem Fl(q:Rat):q*((q.den:Nat):Rat)=q.num:=by
 have h1:=nO q;rw[nX] at h1
 have:((q.den:Nat):Rat)≠0:=by exact_mod_cast q.den_nz
 have h2:(((q.den:Nat):Int):Rat)=((q.den:Nat):Rat):=rfl;rw[h2] at h1
 grind
theorem Io(q:Rat):((q.den:Nat):Rat)≠0:=by exact_mod_cast q.den_nz
theorem ic(n:Nat):(((n:Nat):Int):Rat)=((n:Nat):Rat):=rfl
theorem UX(p q:Rat):BR (p.num*q.den+q.num*p.den) (p.den*q.den)=fr (p+q):=by
 have hp:=p.den_nz;have hq:=q.den_nz;have h:((p.den:Int)*(q.den:Int))≠0:=k7 (by omega) (by omega);rw[Fc _ _ h];have e:(((p.num*q.den+q.num*p.den:Int)):Rat) / (((p.den:Int)*(q.den:Int):Int):Rat)=p+q:=by
  have:=Fl p; have:=Fl q; have:=Io p; have:=Io q
  simp only[pR,jQ,ic]
  grind
 rw[e]; rfl
theorem Oa(p q:Rat):BR (p.num*q.den-q.num*p.den) (p.den*q.den)=fr (p-q):=by
 have hp:=p.den_nz;have hq:=q.den_nz;have h:((p.den:Int)*(q.den:Int))≠0:=k7 (by omega) (by omega);rw[Fc _ _ h];have e:(((p.num*q.den-q.num*p.den:Int)):Rat) / (((p.den:Int)*(q.den:Int):Int):Rat)=p-q:=by
  have:=Fl p; have:=Fl q; have:=Io p; have:=Io q
  simp only[nB,jQ,ic]
  grind
 rw[e]; rfl
theorem T9(p q:Rat):BR (p.num*q.num) (p.den*q.den)=fr (p*q):=by
 have hp:=p.den_nz;have hq:=q.den_nz;have h:((p.den:Int)*(q.den:Int))≠0:=k7 (by omega) (by omega);rw[Fc _ _ h];have e:(((p.num*q.num:Int)):Rat) / (((p.den:Int)*(q.den:Int):Int):Rat)=p*q:=by
  have:=Fl p; have:=Fl q; have:=Io p; have:=Io q
  simp only[jQ,ic]
  grind
 rw[e]; rfl
def Sb(n d:Nat)(q:Rat):Prop:=q.num.natAbs<=2 ^ n/\q.den<=2 ^ d
theorem ak{t b:Int}(h:b≠0):(BR t b).1.natAbs<=t.natAbs/\(BR t b).2.natAbs<=b.natAbs:=by
 have h1:=Ln t b;have h2:=KS t b;have h3:=J0 t b h;have a1:t.natAbs=(BR t b).1.natAbs*(part t b).natAbs:=by rw[<-Int.natAbs_mul,h1]
 have a2:b.natAbs=(BR t b).2.natAbs*(part t b).natAbs:=by rw[<-Int.natAbs_mul,h2]
 have a3:1<=(part t b).natAbs:=by omega
 rw[a1,a2];exact⟨mw _ a3,mw _ a3⟩
theorem ME{t b:Int}{n d:Nat}(h:b≠0)(h1:t.natAbs<=2 ^ n)(h2:b.natAbs<=2 ^ d){q:Rat}(e:BR t b=fr q):Sb n d q:=by
 have:=ak (t:=t) h
 rw[e] at this;simp only[fr,jz] at this;exact⟨by omega,by omega⟩
theorem C3{a b m n:Nat}(h:a<=2 ^ m)(g:b<=2 ^ n):a*b<=2 ^ (m+n):=by rw[m9]; exact Nat.mul_le_mul h g
theorem Je(p q:Rat):((p.den:Int)*(q.den:Int))≠0:=by
 have hp:=p.den_nz;have hq:=q.den_nz;exact k7 (by omega) (by omega)
theorem Sb.Eh{n d n' d':Nat}{p q:Rat}(h:Sb n d p)(g:Sb n' d' q):Sb (n+n') (d+d') (p*q):=by
 refine ME (Je p q) ?_ ?_ (T9 p q)
 ·rw[jG]; exact C3 h.1 g.1
 ·rw[jG,jz,jz]; exact C3 h.2 g.2
theorem Sb.Dt{n d n' d' N:Nat}{p q:Rat}(h:Sb n d p)(g:Sb n' d' q)(h1:n+d'<=N)(h2:n' + d<=N):Sb (N+1) (d+d') (p+q):=by
 refine ME (Je p q) ?_ ?_ (UX p q)
 ·have a1:(p.num*q.den).natAbs<=2 ^ N:=by
   rw[jG,jz];exact js (C3 h.1 g.2) (jX (by decide) h1)
  have a2:(q.num*p.den).natAbs<=2 ^ N:=by
   rw[jG,jz];exact js (C3 g.1 h.2) (jX (by decide) h2)
  have:=rB (p.num*q.den) (q.num*p.den)
  rw[lE]; omega
 ·rw[jG,jz,jz]; exact C3 h.2 g.2
theorem Sb.Di{n d n' d' N:Nat}{p q:Rat}(h:Sb n d p)(g:Sb n' d' q)(h1:n+d'<=N)(h2:n' + d<=N):Sb (N+1) (d+d') (p-q):=by
 refine ME (Je p q) ?_ ?_ (Oa p q)
 ·have a1:(p.num*q.den).natAbs<=2 ^ N:=by
   rw[jG,jz];exact js (C3 h.1 g.2) (jX (by decide) h1)
  have a2:(q.num*p.den).natAbs<=2 ^ N:=by
   rw[jG,jz];exact js (C3 g.1 h.2) (jX (by decide) h2)
  have:=nU (p.num*q.den) (q.num*p.den)
  rw[lE]; omega
 ·rw[jG,jz,jz]; exact C3 h.2 g.2
theorem Sb.mono{n d n' d':Nat}{p:Rat}(h:Sb n d p)(h1:n<=n')(h2:d<=d'):Sb n' d' p :=
 ⟨js h.1 (jX (by decide) h1),js h.2 (jX (by decide) h2)⟩
theorem Sb.zero:Sb 0 0 0:=by constructor <;> decide
theorem Sb.Aq:Sb 0 0 1:=by constructor <;> decide
def DB(c:Int)(q:Rat):Int:=c.fdiv (Int.gcd c q.den:Int)*q.den
def cb(r:List Rat):Int:=r.foldl DB 1
theorem Ti{c:Int}(h:0<c)(q:Rat):0<DB c q/\c ∣ DB c q/\(q.den:Int) ∣ DB c q/\DB c q<=c*q.den:=by
 have hq:=q.den_nz;have hg:0<Int.gcd c q.den:=mW _ (by omega);obtain⟨x,hx⟩:=mX c (q.den:Int);obtain⟨y,hy⟩:=mM c (q.den:Int);generalize hG:Int.gcd c (q.den:Int)=G at *;have hG0:(G:Int)≠0:=by omega
 have e:c.fdiv (G:Int)=x:=by
  rw[kj ⟨x,hx⟩]
  conv=>lhs; rw[hx]
  rw[l8 _ hG0]
 have hx0:0<x:=by
  rcases mP 0 x with h' | h'
  ·exact h'
  ·have:(G:Int)*x<=0:=Int.mul_nonpos_of_nonneg_of_nonpos (by omega) h'
   omega
 have hq0:(0:Int)<q.den:=by omega
 unfold DB;rw[hG,e];refine⟨oK hx0 hq0,⟨y,?_⟩,⟨x,Int.mul_comm _ _⟩,?_⟩
 ·conv=>lhs; rw[hy]
  conv=>rhs; rw[hx]
  rw[Int.mul_left_comm,sQ]
 ·refine oq ?_ (by omega)
  have:1*x<=(G:Int)*x:=oq (by omega) (by omega)
  omega
theorem VW(r:List Rat):∀{c:Int} {D d:Nat},0<c->c.natAbs<=2 ^ D->(∀q∈r,q.den<=2 ^ d) →
  0<r.foldl DB c/\c ∣ r.foldl DB c/\(∀q∈r,(q.den:Int) ∣ r.foldl DB c)/\(r.foldl DB c).natAbs<=2 ^ (D+d*r.length):=by
 induction r with
 | nil=>intro c D d h g _; exact⟨h,Int.dvd_refl _,by simp,by simpa using g⟩
 | cons q r ih =>
  intro c D d h g hd;obtain⟨a1,a2,a3,a4⟩:=Ti h q;have hq:=hd q (by simp);have a5:(DB c q).natAbs<=2 ^ (D+d):=by
   have h5:(DB c q).natAbs<=c.natAbs*q.den:=by
    have e1:((c.natAbs*q.den:Nat):Int)=c*q.den:=by rw[sk]; congr 1; omega
    omega
   exact js h5 (C3 g hq)
  obtain⟨b1,b2,b3,b4⟩:=ih (D:=D+d) (d:=d) a1 a5 (λp hp=>hd p (by simp[hp]));refine⟨b1,sO a2 b2,?_,?_⟩
  ·intro p hp;rcases jh.mp hp with rfl | hp
   ·exact sO a3 b2
   ·exact b3 p hp
  ·rw[jD,kO]
   have:D+(d*r.length+d)=D+d+d*r.length:=by omega
   rw[this]; exact b4
def wh(b:Int)(q:Rat):Int:=q.num*b.fdiv q.den
theorem Tx{b:Int}{q:Rat}(h:(q.den:Int) ∣ b):((wh b q:Int):Rat)=b*q:=by
 obtain⟨x,hx⟩:=h;have hq:=q.den_nz;have e:b.fdiv q.den=x:=by
  rw[kj ⟨x,hx⟩,hx,l8 _ (by omega)]
 unfold wh;rw[e,hx]
 have:=Fl q
 simp only[jQ,ic]
 grind
end Mth
namespace Wd
open Mth
def JZ(R:List (List Int))(k i:Nat):List (List Int):=if i=k then R else (R.set k (R.getD i [])).set i ((R.getD k []).map λx=>-x)
theorem OV{α:Type}(A B:List α)(x d:α){i:Nat}(h:A.length=i):(A++x :: B).getD i d=x:=by
 subst h;rw[ir,jd (i4 _)]; simp
theorem TJ{α:Type}(A B:List α)(x y:α){i:Nat}(h:A.length=i):(A++x :: B).set i y=A++y :: B:=by
 subst h;rw[qh _ _ (i4 _)]; simp
theorem Bi.iJ {B0 n m k:Nat} {A0:List AW} {top:List (List Int)} {Z:List (List Int×AW)} {p:Int} {w:Av} (B:Bi B0 n m k A0 top Z p w) {i:Nat} (h1:k<=i) (h2:i<n)
  (h3:((top++Z.map (·.1)).getD i []).getD k 0≠0):∃z Z',Bi B0 n m k A0 top (z :: Z') p w/\JZ (top++Z.map (·.1)) k i=top++z.1 :: Z'.map (·.1)/\z.1.getD k 0≠0:=by
 have hl:=B.Ew;have ht:=B.F9;cases Z with
 | nil=>simp at hl; omega
 | cons f Zr =>
  by_cases hik:i=k
  ·subst hik;refine⟨f,Zr,B,?_,?_⟩
   ·unfold JZ; rw[i5 rfl]; rfl
   ·rw[i8,OV _ _ _ _ ht] at h3; exact h3
  ·have hj:i-k-1<Zr.length:=by simp at hl; omega
   have e:Zr=Zr.take (i-k-1)++Zr[i-k-1] :: Zr.drop (i-k-1+1):=by rw[kP,kq]
   generalize Zr.take (i-k-1)=P0 at e;have hP0:(Zr.take (i-k-1)).length=i-k-1:=by simp; omega
   have hPl:P0.length=i-k-1:=by
    have:=congrArg List.length e
    simp at this; omega
   generalize Zr[i-k-1]=z at e;generalize Zr.drop (i-k-1+1)=Q at e;subst e;have B':Bi B0 n m k A0 top (f :: P0++z :: Q) p w:=B;have e1:top++List.map (·.1) (f :: (P0++z :: Q))=(top++f.1 :: P0.map (·.1))++z.1 :: Q.map (·.1):=by simp
   have l1:(top++f.1 :: P0.map (·.1)).length=i:=by simp; omega
   have gi:(top++List.map (·.1) (f :: (P0++z :: Q))).getD i []=z.1:=by rw[e1]; exact OV _ _ _ _ l1
   have gk:(top++List.map (·.1) (f :: (P0++z :: Q))).getD k []=f.1:=by rw[i8]; exact OV _ _ _ _ ht
   refine⟨z,P0++ng f :: Q,B'.gj,?_,?_⟩
   ·unfold JZ;rw[iz hik,gi,gk,i8,TJ _ _ _ _ ht];have e2:top++z.1 :: List.map (·.1) (P0++z :: Q)=(top++z.1 :: P0.map (·.1))++z.1 :: Q.map (·.1):=by simp
    rw[e2,TJ _ _ _ _ (by simp; omega)];simp[ng]
   ·rw[gi] at h3; exact h3
theorem Fn{N:Nat}{x:Int}(h:Ab ((N:Nat):Rat) ((x:Int):Rat)):x.natAbs<=N:=by
 obtain⟨h1,h2⟩:=h;have a:x<=(N:Int):=by
  have:((x:Int):Rat)<=(((N:Nat):Int):Rat):=h2
  exact_mod_cast this
 have b:-(N:Int)<=x:=by
  have:((-(N:Int):Int):Rat)<=((x:Int):Rat):=by rw[mH]; exact h1
  exact_mod_cast this
 omega
theorem IG{N:Nat}{x:Int}(h:x.natAbs<=N):Ab ((N:Nat):Rat) ((x:Int):Rat):=by
 have a:x<=(N:Int):=by omega
 have b:-(N:Int)<=x:=by omega
 constructor
 ·have:((-(N:Int):Int):Rat)<=((x:Int):Rat):=by exact_mod_cast b
  rw[mH] at this; exact this
 ·have:((x:Int):Rat)<=(((N:Nat):Int):Rat):=by exact_mod_cast a
  exact this
theorem mem_getD{r:List Int}{x:Int}(h:x∈r):∃j,r.getD j 0=x:=by
 obtain⟨j,hj,e⟩:=ju h;exact⟨j,by rw[ir,ij hj]; exact e⟩
theorem Ra{r:List Int}{N:Nat}(h:∀x∈r,x.natAbs<=N)(j:Nat):(r.getD j 0).natAbs<=N:=by
 rw[ir];by_cases hj:j<r.length
 ·rw[ij hj]; exact h _ (ka hj)
 ·rw[j7 (by omega)]; simp
def vq(r:List Rat):AW:=λj=>r.getD j 0
def dt(n m:Nat)(T:List (List Rat)):Rat:=ld n m (Ac (T.map vq) Aq)
theorem Of{b:Int}{r:List Rat}(h:∀q∈r,(q.den:Int) ∣ b):vr (r.map (wh b))=λj=>(b:Rat)*vq r j:=by
 funext j
 simp only[vr,vq,ir,iy];cases e:r[j]? with
 | none=>simp
 | some q=>simp; exact Tx (h q (iq e))
def EY:List Int->Int
 | []=>1
 | b :: L=>b*EY L
theorem XF(T:List (List Rat))(β:List Rat->Int)(h:∀r∈T,∀q∈r,(q.den:Int) ∣ β r):
  ∀w S,Ac (T.map λr=>vr (r.map (wh (β r)))) w S=((EY (T.map β):Int):Rat)*Ac (T.map vq) w S:=by
 induction T with
 | nil=>intro w S; simp[Ac,EY]
 | cons r T ih =>
  intro w S;simp only[i8,Ac,EY];rw[ih (λr' hr'=>h r' (by simp[hr']))];have e:wg (vr (r.map (wh (β r)))) w=λT=>((β r:Int):Rat)*wg (vq r) w T:=by
   funext T; rw[Of (h r (by simp))]; exact Gv T _ _ w
  rw[e,Gy,jQ]; grind
theorem Mr{n m:Nat}(T:List (List Rat))(β:List Rat->Int)(h:∀r∈T,∀q∈r,(q.den:Int) ∣ β r):
  ld n m (Ac ((T.map λr=>r.map (wh (β r))).map vr) Aq)=((EY (T.map β):Int):Rat)*dt n m T:=by
 unfold dt ld;rw[jH]
 have:=XF T β h Aq (Tk n m)
 have e:(vr ∘ λr:List Rat=>List.map (wh (β r)) r)=λr:List Rat=>vr (r.map (wh (β r))):=rfl
 rw[e,this]
 grind
theorem Q3(L:List Int){d:Nat}:(∀b∈L,0<b/\b.natAbs<=2 ^ d)->0<EY L/\(EY L).natAbs<=2 ^ (d*L.length):=by
 induction L with
 | nil=>intro _; exact⟨by decide,by simp[EY]⟩
 | cons b L ih =>
  intro h;obtain⟨h1,h2⟩:=ih (λx hx=>h x (by simp[hx]));obtain⟨g1,g2⟩:=h b (by simp);refine⟨oK g1 h1,?_⟩;simp only[EY];rw[jG,jD,kO,mT];exact C3 g2 h2
def Ak(f:Nat->Rat):Nat->Rat
 | 0=>0
 | n+1=>Ak f n+f n
theorem NH{f:Nat->Rat}{i:Nat}:∀{n:Nat},i<n->(∀l,l<n->l≠i->f l=0)->Ak f n=f i:=by
 intro n
 induction n with
 | zero=>intro h; omega
 | succ n ih =>
  intro h g;by_cases hi:i=n
  ·subst hi
   have:∀m,m<=i->Ak f m=0:=by
    intro m
    induction m with
    | zero=>intro _; rfl
    | succ m ihm=>intro hm; simp only[Ak]; rw[ihm (by omega),g m (by omega) (by omega)]; grind
   simp only[Ak]; rw[this i (i4 _)]; grind
  ·simp only[Ak];rw[ih (by omega) (λl hl hne=>g l (by omega) hne),g n (by omega) (by omega)]; grind
def en(T:List (List Rat))(i j:Nat):Rat:=(T.getD i []).getD j 0
theorem Jo{f:Nat->Rat}:∀{n:Nat},(∀l,l<n->f l=0)->Ak f n=0:=by
 intro n
 induction n with
 | zero=>intro _; rfl
 | succ n ih=>intro h; simp only[Ak]; rw[ih (λl hl=>h l (by omega)),h n (by omega)]; grind
end Wd
namespace Wd
def fx(n:Nat)(x:Nat->Rat):AW->Rat:=λv=>Ak (λj=>v j*x j) n-v n
theorem I0(f g:Nat->Rat):∀n,Ak (λj=>f j+g j) n=Ak f n+Ak g n:=by
 intro n
 induction n with
 | zero=>simp only[Ak]; grind
 | succ n ih=>simp only[Ak]; rw[ih]; grind
theorem QX(c:Rat)(f:Nat->Rat):∀n,Ak (λj=>c*f j) n=c*Ak f n:=by
 intro n
 induction n with
 | zero=>simp only[Ak]; grind
 | succ n ih=>simp only[Ak]; rw[ih]; grind
theorem Dy{f g:Nat->Rat}:∀{n},(∀j,j<n->f j=g j)->Ak f n=Ak g n:=by
 intro n
 induction n with
 | zero=>intro _; rfl
 | succ n ih=>intro h; simp only[Ak]; rw[ih (λj hj=>h j (by omega)),h n (by omega)]
theorem Ue(n:Nat)(x:Nat->Rat):Pz (fx n x):=by
 constructor
 ·intro u v;have e:Ak (λj=>(u j+v j)*x j) n=Ak (λj=>u j*x j+v j*x j) n:=Dy (λj _=>by grind);simp only[fx];rw[e,I0]; grind
 ·intro c v;have e:Ak (λj=>c*v j*x j) n=Ak (λj=>c*(v j*x j)) n:=Dy (λj _=>by grind);simp only[fx];rw[e,QX]; grind
theorem Zy{n:Nat}(A:Nat->AW)(hd:∀i,i<n->A i i≠0)(hz:∀i j,i<n->j<i->A i j=0):∀k,k<=n->∃x:Nat->Rat,∀i,n-k<=i->i<n->fx n x (A i)=0:=by
 intro k
 induction k with
 | zero=>intro _; exact⟨λ_=>0,λi h1 h2=>by omega⟩
 | succ k ih =>
  intro hk;obtain⟨x,hx⟩:=ih (by omega)
  let i0:=n-(k+1)
  have hi0:i0<n:=by show n-(k+1)<n; omega
  let rest:=Ak (λj=>if j=i0 then 0 else A i0 j*x j) n
  let x':Nat->Rat:=λj=>if j=i0 then (A i0 n-rest) / A i0 i0 else x j
  refine⟨x',λi h1 h2=>?_⟩;have split:∀(B:AW) (y:Nat->Rat),Ak (λj=>B j*y j) n=B i0*y i0+Ak (λj=>if j=i0 then 0 else B j*y j) n:=by
   intro B y;have e:Ak (λj=>B j*y j) n=Ak (λj=>(if j=i0 then B i0*y i0 else 0)+(if j=i0 then 0 else B j*y j)) n:=by
    refine Dy λj _=>?_
    by_cases h:j=i0
    ·simp only[i5 h,h]; grind
    ·simp only[iz h]; grind
   rw[e,I0];congr 1;rw[NH (i:=i0) hi0 (λl _ hne=>iz hne)];simp
  by_cases hii:i=i0
  ·subst hii;have hne:=hd i0 hi0;have e2:Ak (λj=>if j=i0 then 0 else A i0 j*x' j) n=rest:=by
    refine Dy λj _=>?_
    by_cases h:j=i0
    ·simp only[i5 h]
    ·simp only[iz h,x']
   simp only[fx];rw[split,e2];simp only[x',i5]
   grind
  ·have hgt:i0<i:=by
    have:n-(k+1)<=i:=h1
    show n-(k+1)<i
    have:i≠n-(k+1):=hii
    omega
   have h3:=hx i (by have:n-(k+1)<i:=hgt; omega) h2;simp only[fx] at h3 ⊢;rw[split] at h3 ⊢;have z:A i i0=0:=hz i i0 h2 hgt;have e2:Ak (λj=>if j=i0 then 0 else A i j*x' j) n=Ak (λj=>if j=i0 then 0 else A i j*x j) n:=by
    refine Dy λj _=>?_
    by_cases h:j=i0
    ·simp only[i5 h]
    ·simp only[iz h,x']
   rw[e2,z];rw[z] at h3
   grind
def ct:AW->Av->Av
 | _,_,[]=>0
 | y,w,false :: S=>y 0*w (true :: S)+ct (sh y) (BE w) S
 | y,w,true :: S=>- ct (sh y) (A3 w) S
theorem b8(S:List Bool):∀(y:AW) (w x:Av),ct y (λT=>w T+x T) S=ct y w S+ct y x S:=by
 induction S with
 | nil=>intro y w x; simp only[ct]; grind
 | cons b S ih =>
  intro y w x;have e0:BE (λT=>w T+x T)=λT=>BE w T+BE x T:=rfl
  have e1:A3 (λT=>w T+x T)=λT=>A3 w T+A3 x T:=rfl
  cases b
  ·simp only[ct,e0,ih]; grind
  ·simp only[ct,e1,ih]; grind
theorem Nt(S:List Bool):∀(c:Rat) (y:AW) (w:Av),ct y (λT=>c*w T) S=c*ct y w S:=by
 induction S with
 | nil=>intro c y w; simp only[ct]; grind
 | cons b S ih =>
  intro c y w;have e0:BE (λT=>c*w T)=λT=>c*BE w T:=rfl
  have e1:A3 (λT=>c*w T)=λT=>c*A3 w T:=rfl
  cases b
  ·simp only[ct,e0,ih]; grind
  ·simp only[ct,e1,ih]; grind
theorem cj(S:List Bool)(y:AW)(w x:Av):ct y (λT=>w T-x T) S=ct y w S-ct y x S:=by
 have e:(λT=>w T-x T)=λT=>w T+(λT=>(-1)*x T) T:=by funext T; grind
 rw[e,b8,Nt]; grind
def Gg(u y:AW):Nat->Rat
 | 0=>0
 | n+1=>u 0*y 0+Gg (sh u) (sh y) n
theorem dU(S:List Bool):∀(v y:AW) (w:Av),ct y (wg v w) S+wg v (ct y w) S=Gg v y S.length*w S:=by
 induction S with
 | nil=>intro v y w; simp only[ct,wg,Gg,lC]; grind
 | cons b S ih =>
  intro v y w;cases b
  ·have h:=ih (sh v) (sh y) (BE w);have e1:BE (wg v w)=wg (sh v) (BE w):=rfl;have e2:BE (ct y w)=λT=>(λT=>y 0*A3 w T) T+ct (sh y) (BE w) T:=rfl
   simp only[ct,wg,Gg,jD,e1];rw[e2,KJ,FC]
   have:BE w S=w (false :: S):=rfl
   grind
  ·have h:=ih (sh v) (sh y) (A3 w);have e1:A3 (wg v w)=λT=>(λT=>v 0*BE w T) T-wg (sh v) (A3 w) T:=rfl
   have e2:A3 (ct y w)=λT=>(-1)*ct (sh y) (A3 w) T:=by funext T; show-ct (sh y) (A3 w) T=_; grind
   simp only[ct,wg,Gg,jD];rw[e1,e2,cj,Nt,FC]
   have:A3 w S=w (true :: S):=rfl
   grind
theorem Tu(S:List Bool):∀(v:AW) (w x:Av),(∀T:List Bool,T.length=S.length->w T=x T)->wg v w S=wg v x S:=by
 induction S with
 | nil=>intro v w x _; rfl
 | cons b S ih =>
  intro v w x h;cases b
  ·exact ih _ _ _ (λT hT=>h (false :: T) (by simp[hT]))
  ·simp only[wg];rw[h (false :: S) (by simp),ih (sh v) (A3 w) (A3 x) (λT hT=>h (true :: T) (by simp[hT]))]
theorem cW(S:List Bool):∀y:AW,ct y Aq S=0:=by
 induction S with
 | nil=>intro y; rfl
 | cons b S ih =>
  intro y;cases b
  ·simp only[ct];have e:BE Aq=Aq:=rfl;have e2:Aq (true :: S)=0:=rfl;rw[e,ih,e2]; grind
  ·simp only[ct];have e:A3 Aq=λT=>0*Aq T:=by funext T; show(0:Rat)=_; grind
   rw[e,Nt]; grind
theorem bg(m:Nat)(y:AW)(L:List AW):∀(w:Av),(∀v∈L,Gg v y m=0)->(∀S:List Bool,S.length=m->ct y w S=0)->∀S:List Bool,S.length=m->ct y (Ac L w) S=0:=by
 induction L with
 | nil=>intro w _ h; exact h
 | cons v L ih =>
  intro w hv h;refine ih (wg v w) (λu hu=>hv u (by simp[hu])) λS hS=>?_
  have e:=dU S v y w;have e2:wg v (ct y w) S=0:=by
   rw[Tu S v (ct y w) (λ_=>0) (λT hT=>h T (by omega)),LY]
  rw[e2,hS,hv v (by simp)] at e
  grind
theorem Tp(c:Nat):∀(y:AW) (w:Av) (S:List Bool),ct y w (List.replicate c true++S)=sg c*ct (DE c y) (pre c w) S:=by
 induction c with
 | zero=>intro y w S; simp[sg]; rfl
 | succ c ih =>
  intro y w S;simp only[jE,lK,ct];rw[ih,Nb];have e1:DE c (sh y)=DE (c+1) y:=by funext j; simp only[DE,sh]; congr 1
  have e2:pre c (A3 w)=pre (c+1) w:=by funext T; simp[pre,A3,jE]
  rw[e1,e2]; grind
theorem ZR(n:Nat):∀u y:AW,Gg u y n=Ak (λj=>u j*y j) n:=by
 have key:∀n (f:Nat->Rat),Ak f (n+1)=f 0+Ak (λj=>f (j+1)) n:=by
  intro n f
  induction n with
  | zero=>simp only[Ak]; grind
  | succ n ih=>rw[Ak,ih]; simp only[Ak]; grind
 induction n with
 | zero=>intro u y; rfl
 | succ n ih =>
  intro u y;simp only[Gg];rw[ih,key]; rfl
def Jd(n j:Nat):List Bool:=List.replicate j true++false :: (List.replicate (n-1-j) true++[true])
def Ma(n j:Nat):Rat:=Bz n*sg (n-1-j)
theorem T6{n:Nat}{A:List AW}{x:Nat->Rat}(h:∀a∈A,fx n x a=0){j:Nat}(hj:j<n):(Jd n j).length=n+1/\(Ma n j=1\/Ma n j=-1)/\x j*ld n (n+1) (Ac A Aq)=Ma n j*Ac A Aq (Jd n j):=by
 let y:AW:=λi=>if i=n then -1 else x i
 have hdot:∀v∈A,Gg v y (n+1)=0:=by
  intro v hv;rw[ZR];simp only[Ak];have e:Ak (λj=>v j*y j) n=Ak (λj=>v j*x j) n:=Dy λi hi=>by simp only[y,iz (show i≠n by omega)]
  have:=h v hv
  simp only[fx] at this;rw[e];simp only[y,i5]; grind
 have hz:=bg (n+1) y A Aq hdot (λS _=>cW S y) (List.replicate j true++(false :: (List.replicate (n-1-j) true++[false]))) (by simp; omega);generalize Ac A Aq=w at hz ⊢;rw[Tp] at hz;simp only[ct] at hz;rw[Tp] at hz;simp only[ct] at hz;have s1:∀c,sg c=1\/sg c=-1:=by intro c; unfold sg; split; exact .inl rfl; exact .inr rfl
 have s2:∀c,Bz c=1\/Bz c=-1:=by
  intro c; induction c with
  | zero=>exact .inl rfl
  | succ c ih =>
   simp only[Bz];rcases ih with a | a <;> rcases s1 c with b | b <;> rw[a,b] <;> grind
 have eT:List.replicate j true++true :: (List.replicate (n-1-j) true++[false])=Tk n (n+1):=by
  unfold Tk;rw[show n+1-n=1 by omega,List.replicate_one]
  have:List.replicate j true++true :: (List.replicate (n-1-j) true++[false])=(List.replicate j true++List.replicate 1 true++List.replicate (n-1-j) true)++[false]:=by simp
  rw[this,mj,mj];congr 2; omega
 have y1:DE j y 0=x j:=by simp only[DE,y,nJ,iz (show j≠n by omega)]
 have y2:DE (n-1-j) (sh (DE j y)) 0=-1:=by
  simp only[DE,sh,y];rw[i5 (by omega)]
 have w1:pre j w (true :: (List.replicate (n-1-j) true++[false]))=w (Tk n (n+1)):=by unfold pre; rw[eT]
 have w2:pre (n-1-j) (BE (pre j w)) [true]=w (List.replicate j true++false :: (List.replicate (n-1-j) true++[true])):=rfl;rw[y1,y2,w1,w2] at hz;unfold Jd Ma;refine⟨by simp; omega,?_,?_⟩
 ·rcases s2 n with a | a <;> rcases s1 (n-1-j) with b | b <;> rw[a,b] <;> grind
 ·unfold ld;have hs:=s1 j;rcases s1 j with a | a <;> rw[a] at hz <;> grind
theorem Q4{n:Nat}{x:Nat->Rat}{c:Rat}(hc:c≠0){v:AW}:fx n x (λj=>c*v j)=0↔fx n x v=0:=by
 rw[(Ue n x).Gj];constructor
 ·intro h; grind
 ·intro h; rw[h]; grind
end Wd
namespace Mth
theorem ao{c M:Int}(h:0<c){q:Rat}(h1:c ∣ M)(h2:(q.den:Int) ∣ M):DB c q ∣ M:=by
 have hq:=q.den_nz;have hg:0<Int.gcd c q.den:=mW _ (by omega);have e1:=mX c (q.den:Int);have e:DB c q=c / (Int.gcd c q.den:Int)*q.den:=by unfold DB; rw[kj e1]
 have l:c / (Int.gcd c q.den:Int)*q.den=(Int.lcm c q.den:Int):=by
  have h3:(Int.gcd c q.den:Int)*(Int.lcm c q.den:Int)=c*q.den:=by
   have:=Int.gcd_mul_lcm c (q.den:Int)
   have h4:((c*(q.den:Int)).natAbs:Int)=c*q.den:=by
    have:0<c*(q.den:Int):=oK h (by omega)
    omega
   rw[<-h4,jG,<-this,sk]
  have h5:(Int.gcd c q.den:Int)≠0:=by omega
  refine Int.eq_of_mul_eq_mul_left h5 ?_;rw[h3,<-Int.mul_assoc,Int.mul_ediv_cancel' e1]
 rw[e,l];exact Int.coe_lcm_dvd h1 h2
theorem c8(r:List Rat){M:Int}:∀{c:Int},0<c->c ∣ M->(∀q∈r,(q.den:Int) ∣ M)->r.foldl DB c ∣ M:=by
 induction r with
 | nil=>intro c _ h _; exact h
 | cons q r ih =>
  intro c hc h1 h2;exact ih (Ti hc q).1 (ao hc h1 (h2 q (by simp))) (λp hp=>h2 p (by simp[hp]))
theorem fA{r:List Rat}{M:Int}(hM:0<M)(h:∀q∈r,(q.den:Int) ∣ M):(cb r).natAbs<=M.natAbs:=by
 have h1:cb r ∣ M:=c8 r (by decide) (Int.one_dvd _) h;exact oW (by omega) (Int.natAbs_dvd_natAbs.mpr h1)
theorem bG{q:Rat}{M k:Int}(h:(M:Rat)*q=k):(q.den:Int) ∣ M:=by
 have h1:=Fl q;have e:(((M*q.num:Int)):Rat)=((k*q.den:Int):Rat):=by
  rw[jQ,jQ,ic]; grind
 have e2:M*q.num=k*q.den:=by exact_mod_cast e
 have e3:M.natAbs*q.num.natAbs=k.natAbs*q.den:=by
  have:=congrArg Int.natAbs e2
  rw[jG,jG,jz] at this;exact this
 have cp2:Nat.Coprime q.den q.num.natAbs:=Nat.Coprime.symm q.reduced
 have:q.den ∣ M.natAbs:=Nat.Coprime.dvd_of_dvd_mul_right cp2 ⟨k.natAbs,by rw[e3,nI]⟩
 exact oP.mpr this
theorem Sh:∀{r:List Rat} {p:Rat},p∈r->p.den<=(r.map (·.den)).sum
 | q :: r,p,h=>by
  rw[i8,jy];rcases jh.mp h with rfl | h
  ·omega
  ·have:=Sh h; omega
theorem OZ(r:List Rat):0<cb r/\∀q∈r,(q.den:Int) ∣ cb r:=by
 obtain⟨a,_,b,_⟩:=VW r (c:=1) (D:=0) (d:=(r.map (·.den)).sum) (by decide) (by decide) (λp hp=>by
  have h1:p.den<=(r.map (·.den)).sum:=Sh hp;have h2:(r.map (·.den)).sum<2 ^ (r.map (·.den)).sum:=Nat.lt_two_pow_self;omega)
 exact⟨a,b⟩
def Vb(v:Nat)(q:Rat):Prop:=Wd.Ab ((2 ^ v:Nat):Rat) q
theorem Sb.vb{n d:Nat}{q:Rat}(h:Sb n d q):Vb n q:=by
 have h1:=Fl q;have h2:(1:Rat)<=((q.den:Nat):Rat):=by
  have:1<=q.den:=by have:=q.den_nz; omega
  exact_mod_cast this
 have h3:=Wd.IG h.1;obtain⟨a,b⟩:=h3;have nn:(0:Rat)<=((2 ^ n:Nat):Rat):=by exact_mod_cast jS _
 rw[<-h1] at a b;constructor
 ·by_cases hq:0<=q
  ·grind
  ·have:0<=(-q)*(((q.den:Nat):Rat)-1):=kY (by grind) (by grind)
   grind
 ·by_cases hq:0<=q
  ·have:0<=q*(((q.den:Nat):Rat)-1):=kY hq (by grind)
   grind
  ·grind
theorem VZ{b:Int}{q:Rat}{v D:Nat}(h:(q.den:Int) ∣ b)(h1:Vb v q)(h2:b.natAbs<=2 ^ D):(wh b q).natAbs<=2 ^ (D+v):=by
 refine Wd.Fn ?_;rw[Tx h]
 have:=(Wd.IG h2).Eh h1
 have e:(((2 ^ D:Nat)):Rat)*((2 ^ v:Nat):Rat)=((2 ^ (D+v):Nat):Rat):=by rw[m9,mI]
 rw[e] at this;exact this
theorem Vb.Eh{v u:Nat}{p q:Rat}(h:Vb v p)(g:Vb u q):Vb (v+u) (p*q):=by
 have:=Wd.Ab.Eh h g
 have e:(((2 ^ v:Nat)):Rat)*((2 ^ u:Nat):Rat)=((2 ^ (v+u):Nat):Rat):=by rw[m9,mI]
 rw[e] at this;exact this
theorem Vb.Dt{v:Nat}{p q:Rat}(h:Vb v p)(g:Vb v q):Vb (v+1) (p+q):=by
 obtain⟨a,b⟩:=h;obtain⟨c,d⟩:=g;have e:((2 ^ (v+1):Nat):Rat)=((2 ^ v:Nat):Rat)+((2 ^ v:Nat):Rat):=by
  rw[lE,Nat.mul_two,Rat.natCast_add]
 unfold Vb Wd.Ab;rw[e];constructor <;> grind
theorem Vb.mono{v u:Nat}{p:Rat}(h:Vb v p)(hv:v<=u):Vb u p:=by
 refine Wd.Ab.le h ?_
 exact_mod_cast jX (by decide) hv
end Mth
namespace Wd
open Mth
theorem aI(S:List Bool):∀(u v:AW) (w:Av),(∀j,j<S.length->u j=v j)->wg u w S=wg v w S:=by
 induction S with
 | nil=>intro u v w _; rfl
 | cons b S ih =>
  intro u v w h;have h2:=ih (sh u) (sh v);cases b
  ·exact h2 _ (λj hj=>h (j+1) (by simp; omega))
  ·simp only[wg];rw[h 0 (by simp),h2 _ (λj hj=>h (j+1) (by simp; omega))]
theorem Zs(S:List Bool):∀(v:AW) (w:Av),wg v w (S++[false])=wg v (λT=>w (T++[false])) S:=by
 induction S with
 | nil=>intro v w; rfl
 | cons b S ih =>
  intro v w;cases b
  ·exact ih (sh v) (BE w)
  ·simp only[lK,wg];rw[ih]; rfl
theorem Zb(S:List Bool):Aq (S++[false])=Aq S:=by
 induction S with
 | nil=>rfl
 | cons b S ih=>cases b; exact ih; rfl
theorem Yv(n:Nat)(L:List (AW×AW)):∀(w x:Av),(∀p∈L,∀j,j<n->p.1 j=p.2 j)->(∀T:List Bool,T.length=n->w (T++[false])=x T)->∀S:List Bool,S.length=n->Ac (L.map (·.1)) w (S++[false])=Ac (L.map (·.2)) x S:=by
 induction L with
 | nil=>intro w x _ h S hS; exact h S hS
 | cons p L ih =>
  intro w x hp h S hS;refine ih (wg p.1 w) (wg p.2 x) (λq hq=>hp q (by simp[hq])) (λT hT=>?_) S hS;rw[Zs,aI T p.1 p.2 _ (λj hj=>hp p (by simp) j (by omega))];exact Tu T p.2 _ _ (λU hU=>h U (by omega))
theorem US{row:List Rat}{q:Rat}{j:Nat}(h:j<row.length):vq (row++[q]) j=vq row j:=by
 simp only[vq,ir];rw[jm h]
theorem eu{row:List Rat}{q:Rat}:vq (row++[q]) row.length=q:=by
 simp only[vq,ir];rw[jd (i4 _)]; simp
theorem bc{n:Nat}{T:List (List Rat)}{r:List Rat}(hT:T.length=n)(hr:r.length=n)(hc:∀x∈T,x.length=n):dt n (n+1) (List.zipWith (λrow q=>row++[q]) T r)=dt n n T:=by
 have e1:(List.zipWith (λrow q=>row++[q]) T r).map vq=((T.zip r).map λp=>(vq (p.1++[p.2]),vq p.1)).map (·.1):=by
  rw[jH,rW,List.zip,rW]; rfl
 have e2:T.map vq=((T.zip r).map λp=>(vq (p.1++[p.2]),vq p.1)).map (·.2):=by
  rw[jH]
  have:(T.zip r).map Prod.fst=T:=List.map_fst_zip (by omega)
  conv=>lhs; rw[<-this]
  rw[jH]; rfl
 unfold dt ld;rw[e1,e2];congr 1;have t1:Tk n (n+1)=Tk n n++[false]:=by
  unfold Tk;rw[show n+1-n=1 by omega,mU]; simp
 rw[t1];refine Yv n _ Aq Aq (λp hp j hj=>?_) (λT _=>Zb T) _ (by unfold Tk; simp);obtain⟨q,hq,rfl⟩:=i7.mp hp;exact US (by rw[hc q.1 (ow hq).1]; exact hj)
theorem Zz{n:Nat}{row:List Rat}{q:Rat}{x:Nat->Rat}(h:row.length=n):fx n x (vq (row++[q]))=Ak (λj=>vq row j*x j) n-q:=by
 simp only[fx];rw[Dy (λj hj=>by rw[US (by omega)])]
 have:=eu (row:=row) (q:=q)
 rw[h] at this;rw[this]
def iW(n:Nat)(row dq:List Rat):Rat:=Ak (λj=>row.getD j 0*dq.getD j 0) n
def C9(T:List (List Rat))(i j:Nat)(v:Rat):List (List Rat):=T.set i ((T.getD i []).set j v)
structure Sq(n:Nat)(T:List (List Rat)):Prop where
 len:T.length=n
 FV:∀r∈T,r.length=n
theorem Sq.row{n:Nat}{T:List (List Rat)}(h:Sq n T){i:Nat}(hi:i<n):(T.getD i []).length=n/\T[i]?=some (T.getD i []):=by
 have e:T[i]?=some (T[i]'(by rw[h.len]; exact hi)):=ij _;have e2:T.getD i []=T[i]'(by rw[h.len]; exact hi):=by rw[ir,e]; rfl
 rw[e2];exact⟨h.FV _ (ka _),e⟩
theorem Sq.set{n:Nat}{T:List (List Rat)}(h:Sq n T){i j:Nat}{v:Rat}(hi:i<n):Sq n (C9 T i j v):=by
 refine⟨by unfold C9; rw[k9]; exact h.len,λr hr=>?_⟩;unfold C9 at hr;rcases kT hr with h1 | h1
 ·exact h.FV r h1
 ·rw[h1,k9]; exact(h.row hi).1
theorem IC{n:Nat}{T:List (List Rat)}(h:Sq n T){i j:Nat}{v:Rat}(hi:i<n)(hj:j<n)(i' j':Nat):en (C9 T i j v) i' j'=if i'=i/\j'=j then v else en T i' j':=by
 unfold en C9;have hl:=(h.row hi).1;by_cases e:i=i'
 ·subst e
  have:(T.set i ((T.getD i []).set j v)).getD i []=(T.getD i []).set j v:=by
   rw[ir,jR (by rw[h.len]; exact hi)]; rfl
  rw[this];by_cases e2:j=j'
  ·subst e2;rw[i5 ⟨rfl,rfl⟩,ir,jR (by omega)]; rfl
  ·rw[iz (λz=>e2 z.2.symm),ir,jF e2,<-List.getD_eq_getElem?_getD]
 ·have:(T.set i ((T.getD i []).set j v)).getD i' []=T.getD i' []:=by
   rw[ir,jF e,<-List.getD_eq_getElem?_getD]
  rw[this,iz (λz=>e z.1.symm)]
abbrev AO:=Nat×Nat×Rat
def Ca(T:List (List Rat))(r:AO):List (List Rat) :=
 if r.1=r.2.1 then T else
 let T1:=C9 T r.1 r.1 (en T r.1 r.1+r.2.2)
 let T2:=C9 T1 r.2.1 r.2.1 (en T1 r.2.1 r.2.1+r.2.2)
 let T3:=C9 T2 r.1 r.2.1 (en T2 r.1 r.2.1-r.2.2)
 C9 T3 r.2.1 r.1 (en T3 r.2.1 r.1-r.2.2)
def EL(n:Nat):List (List Rat):=List.replicate n (List.replicate n 0)
def Bj(n:Nat)(rs:List AO):List (List Rat):=rs.foldl Ca (EL n)
theorem S9(n:Nat):Sq n (EL n):=⟨by simp[EL],λr hr=>by rw[(qM.mp hr).2]; simp⟩
theorem R1(n i j:Nat):en (EL n) i j=0:=by
 unfold en EL;rw[ir,ir,mq];split
 ·simp only[r8];rw[mq];split <;> rfl
 ·rfl
def DA(r:AO)(i j:Nat):Rat :=
 if r.1=r.2.1 then 0 else (if i=r.1/\j=r.1 then r.2.2 else 0)+(if i=r.2.1/\j=r.2.1 then r.2.2 else 0)-(if i=r.1/\j=r.2.1 then r.2.2 else 0)-(if i=r.2.1/\j=r.1 then r.2.2 else 0)
theorem QJ{n:Nat}{T:List (List Rat)}(h:Sq n T){r:AO}(h1:r.1<n)(h2:r.2.1<n):Sq n (Ca T r)/\∀i j,en (Ca T r) i j=en T i j+DA r i j:=by
 unfold Ca DA;by_cases e:r.1=r.2.1
 ·simp only[i5 e];exact⟨h,λi j=>by grind⟩
 ·simp only[iz e];have q1:=h.set (j:=r.1) (v:=en T r.1 r.1+r.2.2) h1;have e1:=IC h (v:=en T r.1 r.1+r.2.2) h1 h1;generalize C9 T r.1 r.1 (en T r.1 r.1+r.2.2)=T1 at q1 e1;have q2:=q1.set (j:=r.2.1) (v:=en T1 r.2.1 r.2.1+r.2.2) h2;have e2:=IC q1 (v:=en T1 r.2.1 r.2.1+r.2.2) h2 h2;generalize C9 T1 r.2.1 r.2.1 (en T1 r.2.1 r.2.1+r.2.2)=T2 at q2 e2;have q3:=q2.set (j:=r.2.1) (v:=en T2 r.1 r.2.1-r.2.2) h1;have e3:=IC q2 (v:=en T2 r.1 r.2.1-r.2.2) h1 h2;generalize C9 T2 r.1 r.2.1 (en T2 r.1 r.2.1-r.2.2)=T3 at q3 e3;have q4:=q3.set (j:=r.1) (v:=en T3 r.2.1 r.1-r.2.2) h2;have e4:=IC q3 (v:=en T3 r.2.1 r.1-r.2.2) h2 h1;refine⟨q4,λi j=>?_⟩;rw[e4];simp only[e3,e2,e1]
  grind
theorem bS{n:Nat}:∀(rs:List AO) {T:List (List Rat)},Sq n T->(∀r∈rs,r.1<n/\r.2.1<n)->Sq n (rs.foldl Ca T)/\∀i j,en (rs.foldl Ca T) i j=en T i j+(rs.map λr=>DA r i j).sum:=by
 intro rs
 induction rs with
 | nil=>intro T h _; exact⟨h,λi j=>by simp only[kf,lO,List.foldl_nil]; grind⟩
 | cons r rs ih =>
  intro T h hr;obtain⟨a,b⟩:=QJ h (hr r (by simp)).1 (hr r (by simp)).2;obtain⟨c,d⟩:=ih a (λx hx=>hr x (by simp[hx]));refine⟨c,λi j=>?_⟩;rw[su,d,b,i8,jy]; grind
theorem Yu(c:Nat)(L:List AW):∀(w:Av) (S:List Bool),(∀v∈L,∀j,j<c->v j=0) →
  ∃e:Rat,e*e=1/\Ac L w (List.replicate c true++S)=e*Ac (L.map (DE c)) (pre c w) S:=by
 induction L with
 | nil=>intro w S _; exact⟨1,by grind,by simp[Ac,pre]⟩
 | cons v L ih =>
  intro w S h;obtain⟨e,h1,he⟩:=ih (wg v w) S (λu hu=>h u (by simp[hu]));refine⟨e*sg c,by have:=IM c; grind,?_⟩;simp only[Ac,i8];rw[he]
  have:pre c (wg v w)=λT=>sg c*wg (DE c v) (pre c w) T:=by
   funext T; exact OF c v w T (h v (by simp))
  rw[this,Gy]; grind
theorem Ir(f:Nat->Rat):∀n,Ak f (n+1)=f 0+Ak (λj=>f (j+1)) n:=by
 intro n
 induction n with
 | zero=>simp only[Ak]; grind
 | succ n ih =>
  have:Ak f (n+1+1)=Ak f (n+1)+f (n+1):=rfl
  rw[this,ih]; simp only[Ak]; grind
theorem Zm(r:AW)(c:AW->Rat)(M:List AW):∀(w:Av),(∀S,wg r w S=0)->Ac (M.map λv=>λj=>v j + -c v*r j) w=Ac M w:=by
 induction M with
 | nil=>intro w _; rfl
 | cons v M ih =>
  intro w h;simp only[i8,Ac];have e:wg (λj=>v j + -c v*r j) w=wg v w:=by
   funext S
   have h1:=Jy S v (λj=>-c v*r j) w;rw[Gv,h S] at h1;rw[h1]; grind
  rw[e];refine ih _ (λS=>?_);have e2:wg r w=λ_=>0:=funext h
  rw[J8,e2,LY]; grind
theorem fX:∀(n:Nat) (L:List AW),L.length=n->ld n n (Ac L Aq)=0->∃x:Nat->Rat,(∃j,j<n/\x j≠0)/\∀v∈L,Ak (λj=>v j*x j) n=0:=by
 intro n
 induction n with
 | zero =>
  intro L hL h
  have:L=[]:=ku.mp hL
  subst this;have h1:=OY 0;rw[show Ac [] Aq=Aq from rfl,h1] at h
  grind
 | succ n ih =>
  intro L hL h;by_cases hz:∀v∈L,v 0=0
  ·refine⟨λj=>if j=0 then 1 else 0,⟨0,by omega,by simp⟩,λv hv=>?_⟩;rw[NH (i:=0) (by omega) (λl _ hl=>by simp[hl])];rw[hz v hv]; grind
  ·have hz':∃r,r∈L/\r 0≠0:=by
    apply nj;intro hn;exact hz (λv hv=>nj λz=>hn ⟨v,hv,z⟩)
   obtain⟨r,hr,h0⟩:=hz';obtain⟨A,B,rfl⟩:=nF hr;have hl:(A++B).length=n:=by simp at hL ⊢; omega
   let c:AW->Rat:=λv=>v 0 / r 0
   let f:AW->AW:=λv=>λj=>v j + -c v*r j
   have e1:∀S,Ac (A++r :: B) Aq S=sg A.length*Ac ((A++B).map f) (wg r Aq) S:=by
    intro S;have q1:Ac ((A++B).map f) (wg r Aq)=Ac (A++B) (wg r Aq):=Zm r c (A++B) (wg r Aq) (λS=>JV S r Aq);rw[q1,GP,GP];have q2:Ac A (wg r Aq)=λT=>sg A.length*wg r (Ac A Aq) T:=funext λT=>UP A r Aq T
    rw[q2,Gy];show Ac B (wg r (Ac A Aq)) S=_
    have:=IM A.length
    grind
   have fz:∀v∈(A++B).map f,∀j,j<1->v j=0:=by
    intro v hv j hj;obtain⟨u,_,rfl⟩:=i7.mp hv
    have:j=0:=by omega
    subst this;show u 0 + -(u 0 / r 0)*r 0=0
    have:u 0 / r 0*r 0=u 0:=qT h0
    grind
   obtain⟨e,ee,he⟩:=Yu 1 ((A++B).map f) (wg r Aq) (List.replicate n true) fz;have e2:pre 1 (wg r Aq)=λT=>r 0*Aq T:=by
    funext T
    show wg r Aq (true :: T)=_;simp only[wg]
    have:A3 Aq=λ_=>0:=by funext S; rfl
    rw[this,LY];show r 0*Aq T-0=_
    grind
   have e3:Tk (n+1) (n+1)=List.replicate 1 true++List.replicate n true:=by unfold Tk; simp[jE]
   have e4:Tk n n=List.replicate n true:=by unfold Tk; simp
   have h2:ld n n (Ac (((A++B).map f).map (DE 1)) Aq)=0:=by
    unfold ld at h ⊢;rw[e3,e1,he,e2,Gy] at h;rw[e4];have t1:=JO (n+1);have t2:=IM A.length;have nt:Bz (n+1)≠0:=λz=>by rw[z] at t1; grind
    have ns:sg A.length≠0:=λz=>by rw[z] at t2; grind
    have ne:e≠0:=λz=>by rw[z] at ee; grind
    have z:=(lF.mp h).resolve_left nt;have z:=(lF.mp z).resolve_left ns;have z:=(lF.mp z).resolve_left ne;have z:=(lF.mp z).resolve_left h0;rw[z]; grind
   obtain⟨y,⟨j,hj,hy⟩,hs⟩:=ih _ (by simp only[ig]; exact hl) h2
   let s:=Ak (λj=>r (j+1)*y j) n
   let x:Nat->Rat:=λj=>match j with | 0=>-s / r 0 | j+1=>y j
   have x0:r 0*x 0=-s:=by
    show r 0*(-s / r 0)=-s;rw[nN]; exact qT h0
   have hr0:Ak (λj=>r j*x j) (n+1)=0:=by
    rw[Ir];show r 0*x 0+s=0;rw[x0]; grind
   refine⟨x,⟨j+1,by omega,hy⟩,λv hv=>?_⟩;have hv':v=r\/v∈A++B:=by
    rcases i9.mp hv with z | z
    ·exact .inr (i9.mpr (.inl z))
    ·rcases jh.mp z with z | z
     ·exact .inl z
     ·exact .inr (i9.mpr (.inr z))
   rcases hv' with rfl | hm
   ·exact hr0
   ·have g1:=hs (DE 1 (f v)) (i7.mpr ⟨f v,i7.mpr ⟨v,hm,rfl⟩,rfl⟩);have g2:Ak (λj=>f v j*x j) (n+1)=0:=by
     rw[Ir,show f v 0=0 from fz _ (i7.mpr ⟨v,hm,rfl⟩) 0 (by omega)]
     have:Ak (λj=>f v (j+1)*x (j+1)) n=0:=g1
     rw[this]; grind
    have g3:Ak (λj=>f v j*x j) (n+1)=Ak (λj=>v j*x j) (n+1) + -c v*Ak (λj=>r j*x j) (n+1):=by
     rw[<-QX,<-I0];refine Dy λj _=>?_
     show(v j + -c v*r j)*x j=_
     grind
    rw[g2,hr0] at g3
    grind
def A5(X:Nat->Rat)(r:AO):Rat:=r.2.2*(X r.1-X r.2.1)
def CK(X:Nat->Rat)(i:Nat)(r:AO):Rat:=(if i=r.1 then A5 X r else 0)-(if i=r.2.1 then A5 X r else 0)
def BJ(X:Nat->Rat)(rs:List AO)(i:Nat):Rat:=(rs.map (CK X i)).sum
def Pa(n:Nat)(rs:List AO):Prop:=∀S:Nat->Prop,S 0->(∀r∈rs,S r.1↔S r.2.1)->∀p,p<n->S p
theorem LH{n i:Nat}(c:Rat)(hi:i<n):Ak (λj=>if j=i then c else 0) n=c:=by
 rw[NH (i:=i) hi (λl _ h=>by rw[iz h])]; rw[i5 rfl]
theorem Y9{n:Nat}{r:AO}(h1:r.1<n)(h2:r.2.1<n)(X:Nat->Rat)(i:Nat):Ak (λj=>DA r i j*X j) n=CK X i r:=by
 by_cases e:r.1=r.2.1
 ·have:∀j,DA r i j*X j=0:=λj=>by unfold DA; rw[i5 e]; grind
  rw[Jo (λl _=>this l)];unfold CK A5;rw[e]; grind
 ·have:∀j,DA r i j*X j=(if j=r.1 then (if i=r.1 then r.2.2*X r.1 else 0)-(if i=r.2.1 then r.2.2*X r.1 else 0) else 0)+(if j=r.2.1 then (if i=r.2.1 then r.2.2*X r.2.1 else 0)-(if i=r.1 then r.2.2*X r.2.1 else 0) else 0):=by
   intro j;unfold DA;rw[iz e];by_cases a1:j=r.1
   ·subst a1;by_cases a2:i=r.1 <;> by_cases a3:i=r.2.1 <;> simp[a2,a3,e] <;> grind
   ·by_cases a4:j=r.2.1
    ·subst a4;by_cases a2:i=r.1 <;> by_cases a3:i=r.2.1 <;> simp[a1,a2,a3,e] <;> grind
    ·simp[a1,a4]; grind
  rw[Dy (g:=λj=>(if j=r.1 then (if i=r.1 then r.2.2*X r.1 else 0)-(if i=r.2.1 then r.2.2*X r.1 else 0) else 0)+(if j=r.2.1 then (if i=r.2.1 then r.2.2*X r.2.1 else 0)-(if i=r.1 then r.2.2*X r.2.1 else 0) else 0)) (λj _=>this j)];rw[I0,LH _ h1,LH _ h2];unfold CK A5
  grind
theorem RO{n:Nat}(f:AO->Nat->Rat):∀rs:List AO,Ak (λj=>(rs.map λr=>f r j).sum) n=(rs.map λr=>Ak (f r) n).sum:=by
 intro rs
 induction rs with
 | nil=>simp only[kf,lO]; exact Jo λ_ _=>rfl
 | cons r rs ih=>simp only[i8,jy]; rw[I0,ih]
theorem NR(c:Rat)(f:AO->Rat)(rs:List AO):(rs.map f).sum*c=(rs.map λr=>f r*c).sum:=by
 induction rs with
 | nil=>simp only[kf,lO]; grind
 | cons r rs ih=>simp only[i8,jy]; rw[<-ih]; grind
theorem LN{f g:AO->Rat}{rs:List AO}(h:∀r∈rs,f r=g r):(rs.map f).sum=(rs.map g).sum:=by rw[ko h]
theorem HF{n:Nat}{rs:List AO}(h:∀r∈rs,r.1<n/\r.2.1<n):Sq n (Bj n rs)/\∀i j,en (Bj n rs) i j=(rs.map λr=>DA r i j).sum:=by
 obtain⟨a,b⟩:=bS rs (S9 n) h;refine⟨a,λi j=>?_⟩
 have:=b i j
 rw[R1] at this;show en (rs.foldl Ca (EL n)) i j=_;rw[this]; grind
theorem Q7{n:Nat}{rs:List AO}(h:∀r∈rs,r.1<n/\r.2.1<n)(X:Nat->Rat)(i:Nat):Ak (λj=>en (Bj n rs) i j*X j) n=BJ X rs i:=by
 rw[Dy (g:=λj=>(rs.map λr=>DA r i j*X j).sum) (λj _=>by rw[(HF h).2,NR])];rw[RO (λr j=>DA r i j*X j)];exact LN λr hr=>Y9 (h r hr).1 (h r hr).2 X i
theorem Zl{n:Nat}{r:AO}(h1:r.1<n)(h2:r.2.1<n)(X Y:Nat->Rat):Ak (λi=>Y i*CK X i r) n=A5 X r*(Y r.1-Y r.2.1):=by
 have:∀i,Y i*CK X i r=(if i=r.1 then Y r.1*A5 X r else 0)+(if i=r.2.1 then-(Y r.2.1*A5 X r) else 0):=by
  intro i;unfold CK;by_cases a:i=r.1 <;> by_cases b:i=r.2.1 <;> simp[a,b] <;> grind
 rw[Dy (λi _=>this i),I0,LH _ h1,LH _ h2]; grind
theorem RV{n:Nat}{rs:List AO}(h:∀r∈rs,r.1<n/\r.2.1<n)(X Y:Nat->Rat):Ak (λi=>Y i*BJ X rs i) n=(rs.map λr=>A5 X r*(Y r.1-Y r.2.1)).sum:=by
 rw[Dy (g:=λi=>(rs.map λr=>Y i*CK X i r).sum) (λi _=>by unfold BJ; rw[nN,NR]; exact LN λr _=>nN _ _)];rw[RO (λr i=>Y i*CK X i r)];exact LN λr hr=>Zl (h r hr).1 (h r hr).2 X Y
theorem fV(x:Rat):0<=x*x:=by
 rcases Rat.le_total (a:=0) (b:=x) with h | h
 ·exact kY h h
 ·have:0<=-x:=by grind
  have:=kY this this
  grind
theorem cy{f:AO->Rat}:∀{rs:List AO},(∀r∈rs,0<=f r)->0<=(rs.map f).sum:=by
 intro rs
 induction rs with
 | nil=>intro _; simp only[kf,lO]; exact Rat.le_refl
 | cons r rs ih =>
  intro h;simp only[i8,jy];have h1:=h r (by simp);have h2:=ih (λx hx=>h x (by simp[hx]))
  grind
theorem ai{f:AO->Rat}:∀{rs:List AO},(∀r∈rs,0<=f r)->(rs.map f).sum=0->∀r∈rs,f r=0:=by
 intro rs
 induction rs with
 | nil=>intro _ _ r hr; cases hr
 | cons r rs ih =>
  intro h e x hx;simp only[i8,jy] at e;have h1:=h r (by simp);have h2:=cy (f:=f) (rs:=rs) (λx hx=>h x (by simp[hx]));rcases jh.mp hx with rfl | hx
  ·grind
  ·exact ih (λx hx=>h x (by simp[hx])) (by grind) x hx
theorem Qi{n:Nat}{rs:List AO}(h:∀r∈rs,r.1<n/\r.2.1<n/\0<r.2.2)(g:Pa n rs){X:Nat->Rat}(h0:X 0=0)(hb:∀i,i<n->X i=0\/BJ X rs i=0):∀i,i<n->X i=0:=by
 have h':∀r∈rs,r.1<n/\r.2.1<n:=λr hr=>⟨(h r hr).1,(h r hr).2.1⟩
 have e1:=RV h' X X;rw[Jo (λi hi=>by rcases hb i hi with z | z <;> rw[z] <;> grind)] at e1;have nn:∀r∈rs,0<=A5 X r*(X r.1-X r.2.1):=by
  intro r hr;have a:=fV (X r.1-X r.2.1);have b:=kY (Rat.le_of_lt (h r hr).2.2) a;unfold A5; grind
 have e2:=ai nn e1.symm;refine g (λp=>X p=0) h0 (λr hr=>?_);have e3:=e2 r hr;unfold A5 at e3;have pe:r.2.2≠0:=λz=>by have:=(h r hr).2.2; rw[z] at this; exact absurd this (Rat.lt_irrefl)
 have e4:r.2.2*((X r.1-X r.2.1)*(X r.1-X r.2.1))=0:=by grind
 have e5:=(lF.mp e4).resolve_left pe;have e6:X r.1-X r.2.1=0:=by rcases lF.mp e5 with z | z <;> exact z
 have e7:X r.1=X r.2.1:=by grind
 rw[e7]
def Eb(T:List (List Rat)):List (List Rat):=(T.drop 2).map (·.drop 2)
theorem JI{n:Nat}{T:List (List Rat)}(q:Sq (n+2) T):(Eb T).length=n/\∀r∈Eb T,r.length=n:=by
 refine⟨by unfold Eb; rw[ig,jO,q.len]; omega,λr hr=>?_⟩;obtain⟨s,hs,rfl⟩:=i7.mp hr;rw[jO,q.FV s (l6 hs)]; omega
theorem Na{n:Nat}{T:List (List Rat)}(q:Sq (n+2) T){i:Nat}(hi:i<n):(Eb T)[i]?=some ((T.getD (i+2) []).drop 2):=by
 unfold Eb;rw[iy,lN,mT 2 i,(q.row (by omega)).2]; rfl
theorem Ss(r:List Rat)(j:Nat):vq (r.drop 2) j=r.getD (j+2) 0:=by
 unfold vq;rw[ir,lN,mT 2 j,<-List.getD_eq_getElem?_getD]
def Kg(a b:Rat)(x:Nat->Rat):Nat->Rat
 | 0=>a
 | 1=>b
 | j+2=>x j
theorem QY(f:Nat->Rat)(a b:Rat)(x:Nat->Rat)(n:Nat):Ak (λj=>f j*Kg a b x j) (n+2)=f 0*a+(f 1*b+Ak (λj=>f (j+2)*x j) n):=by
 rw[Ir,Ir]; rfl
theorem dM{n:Nat}{rs:List AO}(h:∀r∈rs,r.1<n+2/\r.2.1<n+2/\0<r.2.2)(g:Pa (n+2) rs):dt n n (Eb (Bj (n+2) rs))≠0:=by
 have h':∀r∈rs,r.1<n+2/\r.2.1<n+2:=λr hr=>⟨(h r hr).1,(h r hr).2.1⟩
 have q:=(HF h').1;intro z;obtain⟨x,⟨j,hj,hx⟩,hs⟩:=fX n _ (by rw[ig]; exact(JI q).1) z;have e:=Qi h g (X:=Kg 0 0 x) rfl (λi hi=>by
  match i with
  | 0=>exact .inl rfl
  | 1=>exact .inl rfl
  | i+2 =>
   right
   rw[<-Q7 h',QY];have e1:=hs (vq ((Bj (n+2) rs).getD (i+2) [] |>.drop 2)) (i7.mpr ⟨_,iq (Na q (by omega)),rfl⟩);have e2:Ak (λj=>en (Bj (n+2) rs) (i+2) (j+2)*x j) n=0:=by
    rw[<-e1];refine Dy λj _=>?_
    rw[Ss]; rfl
   rw[e2]; grind) (j+2) (by omega)
 exact hx e
def FG(T:List (List Rat)):List Rat:=(T.drop 2).map λr=>0-r.getD 0 0
theorem Mz{n:Nat}{T:List (List Rat)}(q:Sq (n+2) T):(FG T).length=n:=by unfold FG; rw[ig,jO,q.len]; omega
theorem Qr{n:Nat}{T:List (List Rat)}(q:Sq (n+2) T){i:Nat}(hi:i<n):(FG T)[i]?=some (0-en T (i+2) 0):=by
 unfold FG;rw[iy,lN,mT 2 i,(q.row (by omega)).2]; rfl
theorem dh {n:Nat} {rs:List AO} (h:∀r∈rs,r.1<n+2/\r.2.1<n+2) {x:Nat->Rat}
  (hx:∀y∈List.zipWith (λrow q=>row++[q]) (Eb (Bj (n+2) rs)) (FG (Bj (n+2) rs)),fx n x (vq y)=0):∀i,2<=i->i<n+2->BJ (Kg 1 0 x) rs i=0:=by
 have q:=(HF h).1;intro i h2 hi;obtain⟨k,rfl⟩:∃k,i=k+2:=⟨i-2,by omega⟩;rw[<-Q7 h,QY];have e1:=hx ((((Bj (n+2) rs).getD (k+2) []).drop 2)++[0-en (Bj (n+2) rs) (k+2) 0]) (by
  refine iq (i:=k) ?_;rw[mQ,Na q (by omega),Qr q (by omega)])
 rw[Zz (by rw[jO,(q.row (i:=k+2) (by omega)).1]; omega)] at e1;have e2:Ak (λj=>en (Bj (n+2) rs) (k+2) (j+2)*x j) n=Ak (λj=>vq (((Bj (n+2) rs).getD (k+2) []).drop 2) j*x j) n:=by
  refine Dy λj _=>?_
  rw[Ss]; rfl
 rw[e2]; grind
theorem Yl{n:Nat}{rs:List AO}(h:∀r∈rs,r.1<n/\r.2.1<n)(X:Nat->Rat):Ak (λi=>BJ X rs i) n=0:=by
 have e:=RV h X (λ_=>1);rw[Dy (g:=λi=>BJ X rs i) (λi _=>by grind)] at e;rw[e]
 have:(rs.map λr=>A5 X r*((1:Rat)-1)).sum=(rs.map λr=>(λ_:AO=>(0:Rat)) r).sum:=LN λr _=>by grind
 rw[this];clear this e h
 induction rs with
 | nil=>rfl
 | cons r rs ih=>simp only[i8,jy]; rw[ih]; grind
theorem XR{n:Nat}{rs:List AO}(h:∀r∈rs,r.1<n+2/\r.2.1<n+2){X:Nat->Rat}(hb:∀i,2<=i->i<n+2->BJ X rs i=0):BJ X rs 1=- BJ X rs 0:=by
 have e:=Yl h X;rw[Ir,Ir,Jo (λi hi=>hb (i+1+1) (by omega) (by omega))] at e
 have:BJ X rs (0+1)=BJ X rs 1:=rfl
 rw[this] at e
 grind
theorem BM.Dt{x y:Rat}(h:BM x)(g:BM y):BM (x+y):=by
 obtain⟨a,rfl⟩:=h; obtain⟨b,rfl⟩:=g; exact⟨a+b,by grind⟩
theorem BM.neg{x:Rat}(h:BM x):BM (-x):=by
 obtain⟨a,rfl⟩:=h; exact⟨-a,by grind⟩
theorem BM.zero:BM 0:=⟨0,rfl⟩
theorem bW{f:AO->Rat}:∀{rs:List AO},(∀r∈rs,BM (f r))->BM (rs.map f).sum:=by
 intro rs
 induction rs with
 | nil=>intro _; exact⟨0,rfl⟩
 | cons r rs ih=>intro h; simp only[i8,jy]; exact(h r (by simp)).Dt (ih λx hx=>h x (by simp[hx]))
theorem Ab.Dt{B C x y:Rat}(h:Ab B x)(g:Ab C y):Ab (B+C) (x+y):=by
 obtain⟨h1,h2⟩:=h; obtain⟨g1,g2⟩:=g;constructor <;> grind
theorem bq{f:AO->Rat}{B:Rat}:∀{rs:List AO},(∀r∈rs,Ab B (f r))->Ab ((rs.length:Nat)*B) (rs.map f).sum:=by
 intro rs
 induction rs with
 | nil=>intro _; simp only[kf,lO,lC]; constructor <;> grind
 | cons r rs ih =>
  intro h;simp only[i8,jy];have e:(((r :: rs).length:Nat):Rat)*B=B+(rs.length:Nat)*B:=by rw[jD]; grind
  rw[e];exact(h r (by simp)).Dt (ih λx hx=>h x (by simp[hx]))
def C0:List AO->Nat
 | []=>1
 | r :: rs=>r.2.2.den*C0 rs
theorem Iz:∀rs:List AO,0<C0 rs
 | []=>Nat.one_pos
 | r :: rs=>rO r.2.2.den_pos (Iz rs)
theorem TF{β:Nat}:∀{rs:List AO},(∀r∈rs,r.2.2.den<=2 ^ β)->C0 rs<=2 ^ (β*rs.length)
 | [],_=>by simp[C0]
 | r :: rs,h=>by
  have h1:=h r (by simp);have h2:=TF (rs:=rs) λx hx=>h x (by simp[hx])
  have:=C3 h1 h2
  rw[jD,kO,mT]; exact this
theorem LP:∀{rs:List AO} {r:AO},r∈rs->r.2.2.den ∣ C0 rs
 | [],_,h=>by cases h
 | s :: rs,r,h=>by
  rcases jh.mp h with rfl | h
  ·exact Nat.dvd_mul_right _ _
  ·exact Nat.dvd_trans (LP h) (Nat.dvd_mul_left _ _)
theorem Nj{q:Rat}{M:Nat}(h:q.den ∣ M):BM ((M:Nat)*q):=by
 obtain⟨k,rfl⟩:=h;refine⟨k*q.num,?_⟩;have e:=Fl q;have e1:((q.den*k:Nat):Rat)=(q.den:Nat)*(k:Nat):=by exact_mod_cast rfl
 have e2:((k*q.num:Int):Rat)=(k:Nat)*(q.num:Int):=by rw[jQ]; rfl
 rw[e1,e2,<-e]; grind
theorem Sm(r:AO)(i j:Nat):DA r i j=0\/DA r i j=r.2.2\/DA r i j=-r.2.2:=by
 unfold DA;by_cases e:r.1=r.2.1
 ·rw[i5 e]; exact .inl rfl
 ·rw[iz e];by_cases a:i=r.1
  ·have b:i≠r.2.1:=λz=>e (a.symm.trans z)
   by_cases c:j=r.1
   ·have d:j≠r.2.1:=λz=>e (c.symm.trans z)
    simp[a,c,e]; grind
   ·by_cases d:j=r.2.1
    ·simp[a,d,e]; grind
    ·simp[a,c,d,e]; grind
  ·by_cases b:i=r.2.1
   ·by_cases c:j=r.1
    ·have d:j≠r.2.1:=λz=>e (c.symm.trans z)
     have e':r.2.1≠r.1:=λz=>e z.symm
     simp[b,c,e,e']; grind
    ·have e':r.2.1≠r.1:=λz=>e z.symm
     by_cases d:j=r.2.1
     ·simp[b,d,e']; grind
     ·simp[b,c,d,e']; grind
   ·simp[a,b]; grind
theorem Zo{B:Rat}(h:0<=B):Ab B 0:=by constructor <;> grind
theorem Oc{n α β:Nat}{rs:List AO}(h:∀r∈rs,r.1<n/\r.2.1<n/\Sb α β r.2.2)(hm:rs.length<=16)(i j:Nat):BM ((C0 rs:Nat)*en (Bj n rs) i j)/\Vb (α+4) (en (Bj n rs) i j):=by
 rw[(HF λr hr=>⟨(h r hr).1,(h r hr).2.1⟩).2];constructor
 ·rw[nN,NR];refine bW λr hr=>?_
  have q:=Nj (LP hr);rw[nN];rcases Sm r i j with e | e | e <;> rw[e]
  ·rw[Rat.mul_zero]; exact BM.zero
  ·exact q
  ·have:=q.neg
   rwa [Rat.mul_neg]
 ·have q:∀r∈rs,Ab ((2 ^ α:Nat):Rat) (DA r i j):=λr hr=>by
   have v:Ab ((2 ^ α:Nat):Rat) r.2.2:=(h r hr).2.2.vb;rcases Sm r i j with e | e | e <;> rw[e]
   ·exact Zo v.nn
   ·exact v
   ·have:=v.neg
    rwa [show -1*r.2.2=-r.2.2 by grind] at this
  refine(bq q).le ?_
  have:rs.length*2 ^ α<=2 ^ (α+4):=by rw[m9,nI]; exact kD _ hm
  have e:(((rs.length*2 ^ α:Nat)):Rat)=(rs.length:Nat)*((2 ^ α:Nat):Rat):=by exact_mod_cast rfl
  rw[<-e]; exact_mod_cast this
theorem SY(L:List AW):∀(w:Av),(∀v∈L,∀j,BM (v j))->(∀T,BM (w T))->∀S,BM (Ac L w S):=by
 induction L with
 | nil=>intro w _ h; exact h
 | cons v L ih=>intro w h g; exact ih _ (λu hu=>h u (by simp[hu])) (λT=>Lv T v w (h v (by simp)) g)
theorem cH{V:Nat}(L:List AW)(s:Nat):∀(w:Av) (W:Nat),(∀v∈L,∀j,Ab ((V:Nat):Rat) (v j))->(∀T:List Bool,T.length=s->Ab ((W:Nat):Rat) (w T))->∀S:List Bool,S.length=s->Ab (((s*V) ^ L.length*W:Nat):Rat) (Ac L w S):=by
 induction L with
 | nil=>intro w W _ h S hS; rw[lC,qQ,oa]; exact h S hS
 | cons v L ih =>
  intro w W h g S hS
  have:=ih (wg v w) (s*(V*W)) (λu hu=>h u (by simp[hu])) (λT hT=>by
   have:=Oe (V:=((V:Nat):Rat)) (W:=((W:Nat):Rat)) T v w (h v (by simp)) (λU hU=>g U (by omega))
   rw[hT] at this;have e:(((s*(V*W):Nat)):Rat)=(s:Nat)*(((V:Nat):Rat)*((W:Nat):Rat)):=by rw[mI,mI]
   rw[e]; exact this) S hS
  rw[jD,lE,sV,sV s V W]; exact this
theorem cQ(S:List Bool):Ab ((1:Nat):Rat) (Aq S):=by
 induction S with
 | nil=>show Ab _ 1; constructor <;> decide
 | cons b S ih =>
  cases b
  ·exact ih
  ·show Ab _ 0; constructor <;> decide
theorem b6{n E:Nat}{A:List AW}(lA:A.length=n)(n1:n+1<=16)(hi:∀a∈A,∀j,BM (a j))(hb:∀a∈A,∀j,Ab ((2 ^ E:Nat):Rat) (a j)){x:Nat->Rat}(hx:∀a∈A,fx n x a=0)(hd:ld n (n+1) (Ac A Aq)≠0):
  ∃W:Int,W≠0/\W.natAbs<=2 ^ ((4+E)*n)/\∀j,j<n->∃k:Int,(W:Rat)*x j=k/\k.natAbs<=2 ^ ((4+E)*n):=by
 have bd:∀S:List Bool,S.length=n+1->∀k:Int,Ac A Aq S=k->k.natAbs<=2 ^ ((4+E)*n):=by
  intro S hS k hk;have b:=cH (V:=2 ^ E) A (n+1) Aq 1 hb (λT _=>cQ T) S hS;rw[hk,lA,rN] at b;refine js (Fn b) ?_;have h1:(n+1)*2 ^ E<=2 ^ (4+E):=by rw[m9 2 4]; exact mZ _ (by omega)
  have h2:=qD h1 n
  rwa [<-Nat.pow_mul] at h2
 obtain⟨w,hw⟩:=SY A Aq hi Nd (Tk n (n+1));have tt:Bz n=1\/Bz n=-1:=by
  have:(Bz n-1)*(Bz n+1)=0:=by have:=JO n; grind
  rcases lF.mp this with z | z
  ·left; grind
  ·right; grind
 have lt:(Tk n (n+1)).length=n+1:=by unfold Tk; simp
 have bw:=bd _ lt w hw;have main:∀W:Int,ld n (n+1) (Ac A Aq)=W->W.natAbs<=2 ^ ((4+E)*n)->∃W:Int,W≠0/\W.natAbs<=2 ^ ((4+E)*n)/\∀j,j<n->∃k:Int,(W:Rat)*x j=k/\k.natAbs<=2 ^ ((4+E)*n):=by
  intro W hW hl;refine⟨W,λz=>hd (by rw[hW,z]; rfl),hl,λj hj=>?_⟩;obtain⟨l1,l2,l3⟩:=T6 hx hj;obtain⟨k,hk⟩:=SY A Aq hi Nd (Jd n j);have bk:=bd _ l1 k hk;rw[hW,hk] at l3;rcases l2 with h1 | h1 <;> rw[h1] at l3
  ·exact⟨k,by grind,bk⟩
  ·refine⟨-k,?_,by rw[oI]; exact bk⟩;rw[mH]; grind
 rcases tt with e | e
 ·exact main w (by unfold ld; rw[hw,e]; grind) bw
 ·refine main (-w) ?_ (by rw[oI]; exact bw);unfold ld; rw[hw,e,mH]; grind
end Wd
namespace Mth
theorem HL:∀(n:Nat) (l:List Int),l.Nodup->(∀x∈l,0<=x/\x<n)->l.length<=n
 | 0,l,_,h=>by
  cases l with
  | nil=>exact i4 _
  | cons a r =>
   have:=h a (jZ ..)
   omega
 | n+1,l,hn,h=>by
  by_cases hm:(n:Int)∈l
  ·have h1:=HL n (l.erase (n:Int)) (hn.erase _) (λx hx=>by
    have hx1:=List.mem_of_mem_erase hx;have hx2:x≠(n:Int):=λz=>by
     rw[z] at hx;exact(List.Nodup.not_mem_erase hn) hx
    have:=h x hx1
    omega)
   have h2:=pD hm
   have:0<l.length:=kQ hm
   omega
  ·have h1:=HL n l hn (λx hx=>by
    have hx2:x≠(n:Int):=λz=>hm (z ▸ hx)
    have:=h x hx
    omega)
   omega
theorem Li:∀(l l':List Int),l.Nodup->(∀x∈l,x∈l')->l.length<=l'.length
 | [],_,_,_=>jS _
 | a :: r,l',hn,h=>by
  have h1:=jV.mp hn;have h2:=Li r (l'.erase a) h1.2 λx hx=>(List.mem_erase_of_ne (λz:x=a=>h1.1 (z ▸ hx))).mpr (h x (jB _ hx))
  have hm:=h a (jZ ..);have h3:=pD hm
  have:=kQ hm
  rw[jD];omega
abbrev AD(n:Nat)(e:Int):Prop:=0<=e/\e<n
def Ax(φ:Int->Int):Nat->Int->Int
 | 0,s=>s
 | k+1,s=>φ (Ax φ k s)
structure FK(φ:Int->Int)(n:Nat):Prop where
 into:∀e,AD n e->AD n (φ e)
 inj:∀a b,AD n a->AD n b->φ a=φ b->a=b
section
variable {φ:Int->Int} {n:Nat} (P:FK φ n)
include P
theorem D6{s:Int}(hs:AD n s):∀k,AD n (Ax φ k s)
 | 0=>hs
 | k+1=>P.into _ (D6 hs k)
theorem RS{s:Int}(hs:AD n s):∀(i j:Nat),i<=j->Ax φ i s=Ax φ j s->Ax φ (j-i) s=s
 | 0,j,_,e=>by rw[Nat.sub_zero]; exact e.symm
 | i+1,0,h,_=>absurd h (by omega)
 | i+1,j+1,h,e=>by
  rw[Nat.add_sub_add_right];exact RS hs i j (by omega) (P.inj _ _ (D6 P hs i) (D6 P hs j) e)
omit P in
def Gp(φ:Int->Int)(s:Int)(m:Nat):Prop:=1<=m/\Ax φ m s=s/\∀k,1<=k->k<m->Ax φ k s≠s
omit P in
theorem Gp.Vs{s:Int}{m m':Nat}(h:Gp φ s m)(h':Gp φ s m'):m=m':=by
 rcases ph m m' with z | z | z
 ·exact absurd h.2.1 (h'.2.2 m h.1 z)
 ·exact z
 ·exact absurd h'.2.1 (h.2.2 m' h'.1 z)
omit P in
def Cf(φ:Int->Int)(s:Int)(m:Nat):List Int:=(List.range m).map λk=>Ax φ k s
omit P in
theorem Jq{s:Int}{m:Nat}:(Cf φ s m).length=m:=by simp[Cf]
omit P in
theorem LJ{s:Int}{m k:Nat}(h:k<m):(Cf φ s m)[k]?=some (Ax φ k s):=by
 unfold Cf;rw[iy,j4 h];rfl
omit P in
theorem DV{s x:Int}{m:Nat}:x∈Cf φ s m↔∃k,k<m/\Ax φ k s=x:=by simp[Cf]
omit P in
theorem QB{s:Int}{m:Nat}:Cf φ s (m+1)=Cf φ s m++[Ax φ m s]:=by simp[Cf,lS]
theorem QO{s:Int}{m:Nat}(hs:AD n s)(h:∀k,1<=k->k<m->Ax φ k s≠s):(Cf φ s m).Nodup:=by
 unfold Cf List.Nodup;rw[kE];refine nD ?_ (mK (n:=m));intro a b ha hb hab e;exact h (b-a) (by omega) (by have:=jw.mp hb; omega) (RS P hs a b (by omega) e)
theorem Um{s:Int}(hs:AD n s):∃m,m<=n/\Gp φ s m:=by
 by_cases hz:∃m,1<=m/\m<=n/\Ax φ m s=s
 ·have key:∀N m,m<=N->1<=m->m<=n->Ax φ m s=s->∃m,m<=n/\Gp φ s m:=by
   intro N
   induction N with
   | zero=>intro m h1 h2; omega
   | succ N ih =>
    intro m h1 h2 h3 h4;by_cases q:∃k,1<=k/\k<m/\Ax φ k s=s
    ·obtain⟨k,k1,k2,k3⟩:=q;exact ih k (by omega) k1 (by omega) k3
    ·exact⟨m,h3,h2,h4,λk k1 k2 k3=>q ⟨k,k1,k2,k3⟩⟩
  obtain⟨m,h1,h2,h3⟩:=hz;exact key m m (i4 _) h1 h2 h3
 ·have h1:=QO P (m:=n+1) hs λk k1 k2 k3=>hz ⟨k,k1,by omega,k3⟩
  have h2:=HL n _ h1 λx hx=>by
   obtain⟨k,_,e⟩:=DV.mp hx;rw[<-e];exact D6 P hs k
  rw[Jq] at h2;omega
omit P in
open Classical in
def BS(φ:Int->Int)(s:Int):Nat:=if h:∃m,Gp φ s m then h.choose else 1
theorem FH{s:Int}(hs:AD n s):Gp φ s (BS φ s):=by
 obtain⟨m,_,h⟩:=Um P hs;have e:∃m,Gp φ s m:=⟨m,h⟩;unfold BS;rw[dif_pos e];exact e.choose_spec
theorem Uk{s:Int}(hs:AD n s):BS φ s<=n:=by
 obtain⟨m,h1,h⟩:=Um P hs;rw[(FH P hs).Vs h];exact h1
omit P in
def BK(φ:Int->Int)(s:Int):List Int:=Cf φ s (BS φ s)
theorem aP{s:Int}(hs:AD n s):(BK φ s).Nodup:=QO P hs (FH P hs).2.2
theorem KA{s x:Int}(hs:AD n s)(hx:x∈BK φ s):AD n x:=by
 obtain⟨k,_,e⟩:=DV.mp hx;rw[<-e];exact D6 P hs k
theorem Ht{s:Int}(hs:AD n s):s∈BK φ s:=DV.mpr ⟨0,(FH P hs).1,rfl⟩
theorem Yi{s x:Int}(hs:AD n s)(hx:x∈BK φ s):φ x∈BK φ s:=by
 obtain⟨k,hk,e⟩:=DV.mp hx;have hp:=FH P hs;by_cases q:k+1<BS φ s
 ·exact DV.mpr ⟨k+1,q,by rw[<-e]; rfl⟩
 ·have:k+1=BS φ s:=by omega
  refine DV.mpr ⟨0,hp.1,?_⟩;rw[<-e];show s=Ax φ (k+1) s;rw[this,hp.2.1]
theorem Yx{s x:Int}(hs:AD n s)(hx:AD n x)(h:φ x∈BK φ s):x∈BK φ s:=by
 obtain⟨k,hk,e⟩:=DV.mp h;have hp:=FH P hs;cases k with
 | succ k=>exact DV.mpr ⟨k,by omega,P.inj _ _ (D6 P hs k) hx e⟩
 | zero =>
  have hm:BS φ s-1+1=BS φ s:=by have:=hp.1; omega
  refine DV.mpr ⟨BS φ s-1,by omega,P.inj _ _ (D6 P hs _) hx ?_⟩;rw[<-e];show Ax φ (BS φ s-1+1) s=s;rw[hm];exact hp.2.1
theorem XU{s:Int}{S:List Int}(hs:AD n s)(hS:∀x,AD n x->φ x∈S->x∈S)(h:s∉S):∀x∈BK φ s,x∉S:=by
 intro x hx;obtain⟨k,hk,e⟩:=DV.mp hx;subst e;clear hx hk
 induction k with
 | zero=>exact h
 | succ k ih=>exact λz=>ih (hS _ (D6 P hs k) z)
omit P in
open Classical in
def Am(φ:Int->Int):Nat->List (List Int)
 | 0=>[]
 | i+1=>if (i:Int)∈(Am φ i).flatten then Am φ i else Am φ i++[BK φ i]
omit P in
theorem XT{i:Nat}(h:(i:Int)∈(Am φ i).flatten):Am φ (i+1)=Am φ i:=by
 rw[Am,i5 h]
omit P in
theorem XN{i:Nat}(h:(i:Int)∉(Am φ i).flatten):Am φ (i+1)=Am φ i++[BK φ i]:=by
 rw[Am,iz h]
omit P in
structure Oj(φ:Int->Int)(n i:Nat)(R:List (List Int)):Prop where
 of:∀r∈R,∃s,AD n s/\s<i/\r=BK φ s/\∀x∈r,s<=x
 nd:R.flatten.Nodup
 all:∀e,0<=e->e<(i:Int)->e∈R.flatten
 Vf:R.Pairwise λr r'=>∀s s',r=BK φ s->AD n s->r'=BK φ s'->AD n s'->(∀x∈r,s<=x)->(∀x∈r',s'<=x)->s<s'
theorem Oj.iP{i:Nat}{R:List (List Int)}(h:Oj φ n i R){x:Int}(hi:AD n x)(hx:φ x∈R.flatten):x∈R.flatten:=by
 obtain⟨r,hr,hx⟩:=jn.mp hx;obtain⟨s,hs,_,e,_⟩:=h.of r hr;subst e;exact jn.mpr ⟨_,hr,Yx P hs hi hx⟩
theorem Qa{s s':Int}(hs:AD n s)(hs':AD n s')(e:BK φ s=BK φ s')(h:∀x∈BK φ s,s<=x)(h':∀x∈BK φ s',s'<=x):s=s':=by
 have h1:=h' s (e ▸ Ht P hs);have h2:=h s' (e ▸ Ht P hs');omega
theorem Gu:∀i,i<=n->Oj φ n i (Am φ i)
 | 0,_=>⟨λr h=>by simp[Am] at h,by simp[Am],λe h1 h2=>by omega,by simp[Am]⟩
 | i+1,hi=>by
  have ih:=Gu i (by omega);have hs:AD n (i:Int):=⟨by omega,by omega⟩;unfold Am;by_cases q:(i:Int)∈(Am φ i).flatten
  ·rw[i5 q];refine⟨λr hr=>?_,ih.nd,λe h1 h2=>?_,ih.Vf⟩
   ·obtain⟨s,a,b,c,d⟩:=ih.of r hr;exact⟨s,a,by omega,c,d⟩
   ·by_cases z:e=i
    ·rw[z]; exact q
    ·exact ih.all e h1 (by omega)
  ·rw[iz q];have ap:=XU P hs (λx hx h=>ih.iP P hx h) q;have low:∀x∈BK φ (i:Int),(i:Int)<=x:=λx hx=>by
    rcases mP x i with z | z
    ·exact absurd (ih.all x (KA P hs hx).1 z) (ap x hx)
    ·exact z
   refine⟨λr hr=>?_,?_,λe h1 h2=>?_,?_⟩
   ·rcases i9.mp hr with hr | hr
    ·obtain⟨s,a,b,c,d⟩:=ih.of r hr;exact⟨s,a,by omega,c,d⟩
    ·have e:r=BK φ (i:Int):=by simpa using hr
     subst e;exact⟨i,hs,by omega,rfl,low⟩
   ·rw[j3,jY];refine⟨ih.nd,by simpa using aP P hs,λx hx y hy e=>?_⟩;subst e;exact ap x (by simpa using hy) hx
   ·rw[j3,i9];by_cases z:e=i
    ·rw[z]; right; simpa using Ht P hs
    ·left; exact ih.all e h1 (by omega)
   ·rw[List.pairwise_append];refine⟨ih.Vf,pM ..,λr hr r' hr' s s' e hs1 e' hs1' l l'=>?_⟩;have er:r'=BK φ (i:Int):=by simpa using hr'
    obtain⟨t,ht,hti,et,lt⟩:=ih.of r hr;have h1:s=t:=Qa P hs1 ht (e.symm.trans et) (e ▸ l) (et ▸ lt);have h2:s'=(i:Int):=Qa P hs1' hs (e'.symm.trans er) (e' ▸ l') low;omega
theorem Wq:(Am φ n).flatten.length=n:=by
 have h:=Gu P n (i4 _);have h1:=HL n _ h.nd λx hx=>by
  obtain⟨r,hr,hx⟩:=jn.mp hx;obtain⟨s,hs,_,e,_⟩:=h.of r hr;subst e;exact KA P hs hx
 have h2:((List.range n).map (λk:Nat=>(k:Int))).length<=(Am φ n).flatten.length:=by
  have nd:((List.range n).map (λk:Nat=>(k:Int))).Nodup:=by
   unfold List.Nodup;rw[kE];exact mN (λ{a b} h=>by omega) (mK (n:=n))
  refine Li _ _ nd ?_;intro x hx;obtain⟨k,hk,e⟩:=i7.mp hx
  have:=jw.mp hk
  exact h.all x (by omega) (by omega)
 rw[ig,jN] at h2;omega
end
end Mth
namespace Mth
def EV(row:List Int)(k:Nat):Int:=row.getD (if k=0 then row.length-1 else k-1) 0
def BG(row:List Int):List (Int×Int):=(List.range row.length).map λk=>(row.getD k 0,EV row k)
def Az(ts:List (List Int)):List (Int×Int):=(ts.map BG).flatten
theorem Xh(row:List Int):(List.range row.length).map (λk=>row.getD k 0)=row:=by
 refine l9 (by simp) λi h1 h2=>?_
 simp[List.getD,h2]
theorem LR(row:List Int):(BG row).map (·.1)=row:=by
 unfold BG;rw[jH];exact Xh row
theorem NS(row:List Int):(BG row).length=row.length:=by simp[BG]
theorem YC(r:List Int)(l:Int):(BG (r++[l])).map (·.2)=l :: r:=by
 unfold BG;rw[jH];have hl:(r++[l]).length=r.length+1:=by simp
 rw[hl,kB,i8,jH];congr 1
 ·show EV (r++[l]) 0=l;unfold EV;rw[i5 rfl,hl];simp[List.getD]
 ·refine l9 (by simp) λi h1 h2=>?_
  simp[EV,List.getD,jm h2,h2]
theorem RG(row:List Int):((BG row).map (·.2)).Perm row:=by
 rcases List.eq_nil_or_concat row with h | ⟨r,l,h⟩
 ·subst h;exact .nil
 ·rw[List.concat_eq_append] at h;subst h;rw[YC];exact(List.perm_append_singleton l r).symm
theorem E9:∀ts:List (List Int),(Az ts).map (·.1)=ts.flatten
 | []=>rfl
 | r :: ts=>by
  have ih:=E9 ts;unfold Az at *;rw[i8,jx,ji,LR,ih,jx]
theorem Ip:∀ts:List (List Int),((Az ts).map (·.2)).Perm ts.flatten
 | []=>.nil
 | r :: ts=>by
  have ih:=Ip ts;unfold Az at *;rw[i8,jx,ji,jx];exact(RG r).append ih
theorem P9(ts:List (List Int))(r:List Int):Az (ts++[r])=Az ts++BG r:=by simp[Az]
def lk(L:List (Int×Int))(e:Int):Option Int:=(L.find? λp=>decide (p.1=e)).map (·.2)
theorem JQ{L:List (Int×Int)}{e v:Int}(h:lk L e=some v):(e,v)∈L:=by
 unfold lk at h;cases q:L.find? λp=>decide (p.1=e) with
 | none=>rw[q] at h; cases h
 | some p =>
  rw[q] at h;have h1:=pA q;have h2:=so q;have h3:p.1=e:=of_decide_eq_true h2;have h4:p.2=v:=je h;rw[<-h3,<-h4];exact h1
theorem LX{L:List (Int×Int)}{e:Int}(h:e∈L.map (·.1)):∃v,lk L e=some v:=by
 obtain⟨p,hp,e1⟩:=i7.mp h;unfold lk;cases q:L.find? λp=>decide (p.1=e) with
 | none =>
  have:=List.find?_eq_none.mp q p hp
  exact absurd (kc e1) this
 | some p=>exact⟨p.2,rfl⟩
theorem bD{L:List (Int×Int)}{e:Int}(h:e∉L.map (·.1)):lk L e=none:=by
 cases q:lk L e with
 | none=>rfl
 | some v=>exact absurd (i7.mpr ⟨_,JQ q,rfl⟩) h
theorem Mu{α β:Type}{f:α->β}:∀{L:List α},(L.map f).Nodup->∀{p q},p∈L->q∈L->f p=f q->p=q
 | [],_,p,_,hp,_,_=>absurd hp (by simp)
 | a :: L,h,p,q,hp,hq,e=>by
  rw[i8,jV] at h;rcases jh.mp hp with h1 | h1
  ·rcases jh.mp hq with h2 | h2
   ·rw[h1,h2]
   ·exact(h.1 (i7.mpr ⟨q,h2,by rw[<-e,h1]⟩)).elim
  ·rcases jh.mp hq with h2 | h2
   ·exact(h.1 (i7.mpr ⟨p,h1,by rw[e,h2]⟩)).elim
   ·exact Mu h.2 h1 h2 e
theorem MF{L:List (Int×Int)}{e v:Int}(hn:(L.map (·.1)).Nodup)(h:(e,v)∈L):lk L e=some v:=by
 obtain⟨u,hu⟩:=LX (i7.mpr ⟨_,h,rfl⟩)
 have:=Mu hn (JQ hu) h rfl
 rw[hu,(oN this).2]
structure B9(n:Nat)(ts:List (List Int)):Prop where
 nd:ts.flatten.Nodup
 mem:∀e,e∈ts.flatten↔AD n e
 Eu:n % 2=0
def AH(e:Int):Int:=if e % 2=0 then e+1 else e-1
theorem CI{n:Nat}(h:n % 2=0){e:Int}(he:AD n e):AD n (AH e):=by
 unfold AH;obtain⟨h1,h2⟩:=he;split <;> constructor <;> omega
theorem Bp(e:Int):AH (AH e)=e:=by
 unfold AH;split <;> split <;> omega
def AL(ts:List (List Int))(e:Int):Int:=(lk (Az ts) (AH e)).getD 0
section
variable {n:Nat} {ts:List (List Int)} (T:B9 n ts)
include T
theorem B9.len:ts.flatten.length=n:=by
 have h1:=HL n _ T.nd λx hx=>(T.mem x).mp hx
 have h2:((List.range n).map (λk:Nat=>(k:Int))).length<=ts.flatten.length:=by
  have nd:((List.range n).map (λk:Nat=>(k:Int))).Nodup:=by
   unfold List.Nodup;rw[kE];exact mN (λ{a b} h=>by omega) (mK (n:=n))
  refine Li _ _ nd λx hx=>?_
  obtain⟨k,hk,e⟩:=i7.mp hx
  have:=jw.mp hk
  exact(T.mem x).mpr ⟨by omega,by omega⟩
 rw[ig,jN] at h2;omega
theorem B9.gN:(Az ts).length=n:=by
 have:=congrArg List.length (E9 ts)
 rw[ig,T.len] at this;exact this
theorem B9.Fz{e:Int}(he:AD n e):∃v,lk (Az ts) e=some v/\AD n v:=by
 obtain⟨v,hv⟩:=LX (L:=Az ts) (e:=e) (by rw[E9]; exact(T.mem e).mpr he);refine⟨v,hv,(T.mem v).mp ?_⟩;exact(Ip ts).mem_iff.mp (i7.mpr ⟨_,JQ hv,rfl⟩)
theorem B9.KY{e:Int}(he:AD n e):lk (Az ts) (AH e)=some (AL ts e):=by
 obtain⟨v,hv,_⟩:=T.Fz (CI T.Eu he);unfold AL;rw[hv];rfl
theorem B9.perm:FK (AL ts) n:=by
 refine⟨λe he=>?_,λa b ha hb e=>?_⟩
 ·obtain⟨v,hv,hi⟩:=T.Fz (CI T.Eu he);unfold AL;rw[hv];exact hi
 ·have h1:=JQ (T.KY ha);have h2:=JQ (T.KY hb);rw[e] at h1;have nd:((Az ts).map (·.2)).Nodup:=(Ip ts).nodup_iff.mpr T.nd;have h3:=(oN (Mu nd h1 h2 rfl)).1;rw[<-Bp a,h3,Bp]
end
def C6:Nat->List (List Int)->List (Int×Int)
 | _,[]=>[]
 | i,r :: R=>r.map (λe=>(e,(i:Int)))++C6 (i+1) R
theorem Qo:∀(i:Nat) (R:List (List Int)) (r:List Int),C6 i (R++[r])=C6 i R++r.map λe=>(e,((i+R.length:Nat):Int))
 | i,[],r=>by simp[C6]
 | i,s :: R,r=>by
  rw[lK];unfold C6;rw[Qo (i+1) R r,jU];congr 3
  funext e
  rw[jD,Nat.add_right_comm,Nat.add_assoc]
theorem Jv:∀(i:Nat) (R:List (List Int)),(C6 i R).map (·.1)=R.flatten
 | _,[]=>rfl
 | i,r :: R=>by
  unfold C6;rw[ji,Jv (i+1) R,jH,jx];congr 1;exact sT (λ_=>rfl) r
theorem DM{α:Type}{R:List α}{j:Nat}{r:α}(h:R[j]?=some r):R.take (j+1)=R.take j++[r]:=by
 rw[rD,h];rfl
section
variable {φ:Int->Int} {n:Nat} (P:FK φ n)
include P
theorem a8{s:Int}(hs:AD n s):(BK φ s).headD 0=s:=by
 have h:=(FH P hs).1;unfold BK Cf;obtain⟨m,e⟩:∃m,BS φ s=m+1:=⟨BS φ s-1,by omega⟩;rw[e,kB,i8];rfl
theorem HE{r:List Int}(h:r∈Am φ n):AD n (r.headD 0)/\r=BK φ (r.headD 0)/\∀x∈r,r.headD 0<=x:=by
 obtain⟨s,hs,_,e,l⟩:=(Gu P n (i4 _)).of r h;subst e;rw[a8 P hs];exact⟨hs,rfl,l⟩
theorem Gz:(Am φ n).flatten.Nodup:=(Gu P n (i4 _)).nd
theorem EG{x:Int}:x∈(Am φ n).flatten↔AD n x:=by
 constructor
 ·intro h;obtain⟨r,hr,hx⟩:=jn.mp h;obtain⟨h1,h2,_⟩:=HE P hr;rw[h2] at hx;exact KA P h1 hx
 ·intro h;exact(Gu P n (i4 _)).all x h.1 h.2
theorem XI{s:Int}(hs:AD n s){k:Nat}{x:Int}(hx:(BK φ s)[k]?=some x):∃y,y∈BK φ s/\(BK φ s)[if k=0 then (BK φ s).length-1 else k-1]?=some y/\φ y=x:=by
 have hp:=FH P hs;have hl:(BK φ s).length=BS φ s:=Jq;have hk:k<BS φ s:=by rw[<-hl]; exact(ip.mp hx).1
 have hx2:Ax φ k s=x:=je ((LJ hk).symm.trans hx);rw[hl];cases k with
 | zero =>
  rw[i5 rfl];refine⟨Ax φ (BS φ s-1) s,DV.mpr ⟨_,by omega,rfl⟩,LJ (by omega),?_⟩;have h1:BS φ s-1+1=BS φ s:=by omega
  show Ax φ (BS φ s-1+1) s=x;rw[h1,hp.2.1,<-hx2];rfl
 | succ k =>
  rw[iz (by omega)];exact⟨Ax φ k s,DV.mpr ⟨_,by omega,rfl⟩,LJ (by omega),hx2⟩
end
end Mth
namespace Mth
theorem JM{l m:List Int}:(l++m).Nodup↔l.Nodup/\m.Nodup/\∀x∈l,x∉m:=by
 rw[jY];constructor
 ·rintro⟨a,b,c⟩;exact⟨a,b,λx hx hm=>c x hx x hm rfl⟩
 ·rintro⟨a,b,c⟩;exact⟨a,b,λx hx y hy e=>c x hx (e ▸ hy)⟩
theorem aS{n:Nat}{x:Int}:AD (n+1) x↔AD n x\/x=n:=by
 constructor
 ·rintro⟨a,b⟩;rcases mP x n with h | h
  ·exact .inl ⟨a,h⟩
  ·right; omega
 ·rintro(⟨a,b⟩ | rfl)
  ·exact⟨a,by omega⟩
  ·exact⟨by omega,by omega⟩
def cp:Int->List Int->List (Int×Int)
 | _,[]=>[]
 | y,a :: l=>(a,y) :: cp a l
theorem UA:∀(y:Int) (l:List Int),(cp y l).length=l.length
 | _,[]=>rfl
 | _,a :: l=>by simp[cp,UA a l]
theorem TV:∀(y:Int) (l:List Int) (k:Nat),k<l.length->(cp y l)[k]?=some (l.getD k 0,if k=0 then y else l.getD (k-1) 0)
 | _,a :: l,0,_=>rfl
 | y,a :: l,k+1,h=>by
  show(cp a l)[k]?=_;rw[TV a l k (by simpa using h)];cases k with
  | zero=>rfl
  | succ k=>simp
theorem Em(row:List Int):BG row=cp (row.getLastD 0) row:=by
 refine o8 λk=>?_
 by_cases h:k<row.length
 ·rw[TV _ _ _ h];unfold BG EV;rw[iy,j4 h];show some (row.getD k 0,row.getD (if k=0 then row.length-1 else k-1) 0)=_;congr 2;by_cases z:k=0
  ·rw[i5 z,i5 z];rw[jK,List.getLast?_eq_getElem?,ir]
  ·rw[iz z,iz z]
 ·rw[j7 (by rw[NS]; omega),j7 (by rw[UA]; omega)]
theorem Ll:∀(y:Int) (l m:List Int),cp y (l++m)=cp y l++cp (l.getLastD y) m
 | _,[],m=>rfl
 | y,a :: l,m=>by
  show(a,y) :: cp a (l++m)=(a,y) :: (cp a l++cp ((a :: l).getLastD y) m);rw[Ll a l m,show(a :: l).getLastD y=l.getLastD a by cases l <;> rfl]
theorem Lu(ρ:Int->Int):∀(y:Int) (l:List Int),cp (ρ y) (l.map ρ)=(cp y l).map λp=>(ρ p.1,ρ p.2)
 | _,[]=>rfl
 | y,a :: l=>by
  show(ρ a,ρ y) :: cp (ρ a) (l.map ρ)=_;rw[Lu ρ a l]; rfl
def pr(ts:List (List Int))(x:Int):Int:=(lk (Az ts) x).getD 0
theorem BZ(ts:List (List Int))(e:Int):AL ts e=pr ts (AH e):=rfl
theorem DZ{ts:List (List Int)}(nd:ts.flatten.Nodup){x y:Int}(h:(x,y)∈Az ts):pr ts x=y:=by
 unfold pr;rw[MF (by rw[E9]; exact nd) h]; rfl
theorem GV{ts:List (List Int)}(nd:ts.flatten.Nodup){x:Int}(h:x∈ts.flatten):(x,pr ts x)∈Az ts:=by
 rw[<-E9] at h;obtain⟨v,hv⟩:=LX h
 have:=JQ hv
 unfold pr;rw[hv]; exact this
theorem Jp(A B:List (List Int)):Az (A++B)=Az A++Az B:=by simp[Az]
theorem Iu(A B:List (List Int))(r:List Int):Az (A++r :: B)=Az A++(BG r++Az B):=by simp[Az]
theorem Gw(A B:List (List Int))(r:List Int):(A++r :: B).flatten=A.flatten++(r++B.flatten):=by simp
theorem UT{A B:List (List Int)}{t1 t2:List Int}{s e:Int}(nd:(A++(t1++s :: t2) :: B).flatten.Nodup)(he:e∉(A++(t1++s :: t2) :: B).flatten):
  (A++(t1++e :: s :: t2) :: B).flatten.Nodup/\(∀x,x∈(A++(t1++e :: s :: t2) :: B).flatten↔x∈(A++(t1++s :: t2) :: B).flatten\/x=e) /\
  pr (A++(t1++e :: s :: t2) :: B) s=e/\pr (A++(t1++e :: s :: t2) :: B) e=pr (A++(t1++s :: t2) :: B) s /\
  ∀x,x∈(A++(t1++s :: t2) :: B).flatten->x≠s->pr (A++(t1++e :: s :: t2) :: B) x=pr (A++(t1++s :: t2) :: B) x:=by
 have p:List.Perm (A++(t1++e :: s :: t2) :: B).flatten (e :: (A++(t1++s :: t2) :: B).flatten):=by
  rw[Gw,Gw,show A.flatten++(t1++e :: s :: t2++B.flatten)=(A.flatten++t1)++e :: (s :: t2++B.flatten) by simp];exact List.perm_middle.trans (List.Perm.cons _ (List.Perm.of_eq (by simp)))
 have nd':(A++(t1++e :: s :: t2) :: B).flatten.Nodup:=p.nodup_iff.mpr (jV.mpr ⟨he,nd⟩);have hl:(t1++e :: s :: t2).getLastD 0=(t1++s :: t2).getLastD 0:=by
  rw[jK,jK,mY,mY];rw[show(e :: s :: t2).getLast?=(s :: t2).getLast? by simp[List.getLast?_cons_cons]]
 generalize hy:(t1++s :: t2).getLastD 0=y at hl;have r1:BG (t1++s :: t2)=cp y t1++(s,t1.getLastD y) :: cp s t2:=by rw[Em,hy,Ll]; rfl
 have r2:BG (t1++e :: s :: t2)=cp y t1++(e,t1.getLastD y) :: (s,e) :: cp s t2:=by rw[Em,hl,Ll]; rfl
 have ps:pr (A++(t1++s :: t2) :: B) s=t1.getLastD y:=DZ nd (by rw[Iu,r1]; simp);refine⟨nd',λx=>p.mem_iff.trans (by simp only[jh]; exact or_comm),DZ nd' (by rw[Iu,r2]; simp),?_,λx hx xs=>?_⟩
 ·rw[ps];exact DZ nd' (by rw[Iu,r2]; simp)
 ·refine DZ nd' ?_;have m:=GV nd hx;rw[Iu,r1] at m;rw[Iu,r2];simp only[i9,jh,Prod.mk.injEq] at m ⊢;rcases m with z | (z | z | z) | z
  ·exact .inl z
  ·exact .inr (.inl (.inl z))
  ·exact absurd z.1 xs
  ·exact .inr (.inl (.inr (.inr (.inr z))))
  ·exact .inr (.inr z)
theorem cB{A B:List (List Int)}{t:List Int}{a f:Int}(nd:(A++t :: B).flatten.Nodup)(ha:a∈t)(hf:f∉(A++t :: B).flatten):
  (A++(t.map λx=>if x=a then f else x) :: B).flatten.Nodup/\(∀x,x∈(A++(t.map λx=>if x=a then f else x) :: B).flatten↔(x∈(A++t :: B).flatten/\x≠a)\/x=f) /\
  pr (A++(t.map λx=>if x=a then f else x) :: B) f=(if pr (A++t :: B) a=a then f else pr (A++t :: B) a) /\
  ∀x,x∈(A++t :: B).flatten->x≠a->pr (A++(t.map λx=>if x=a then f else x) :: B) x=(if pr (A++t :: B) x=a then f else pr (A++t :: B) x):=by
 generalize hρ:(λx=>if x=a then f else x)=ρ;have ra:ρ a=f:=by rw[<-hρ]; simp
 have rx:∀x,x≠a->ρ x=x:=λx h=>by rw[<-hρ]; simp[h]
 have rr:∀z,(if z=a then f else z)=ρ z:=λz=>by rw[<-hρ]
 rw[Gw] at nd hf;obtain⟨n1,n2,n3⟩:=JM.mp nd;obtain⟨n4,n5,n6⟩:=JM.mp n2;simp only[i9,not_or] at hf;have inj:∀x y,x∈t->y∈t->ρ x=ρ y->x=y:=λx y hx hy e=>by
  by_cases xa:x=a
  ·by_cases ya:y=a
   ·rw[xa,ya]
   ·rw[xa,ra,rx y ya] at e; exact absurd (e ▸ hy) hf.2.1
  ·by_cases ya:y=a
   ·rw[ya,ra,rx x xa] at e; exact absurd (e ▸ hx) hf.2.1
   ·rwa [rx x xa,rx y ya] at e
 have ndm:(t.map ρ).Nodup:=by
  unfold List.Nodup;rw[kE];exact nD (λ{x y} hx hy h e=>h (inj x y hx hy e)) n4
 have mm:∀x,x∈t.map ρ↔(x∈t/\x≠a)\/x=f:=λx=>by
  rw[i7];constructor
  ·rintro⟨y,hy,rfl⟩;by_cases ya:y=a
   ·right; rw[ya,ra]
   ·left; rw[rx y ya]; exact⟨hy,ya⟩
  ·rintro(⟨h1,h2⟩ | rfl)
   ·exact⟨x,h1,rx x h2⟩
   ·exact⟨a,ha,ra⟩
 have aA:a∉A.flatten:=λz=>n3 a z (by simp[ha])
 have aB:a∉B.flatten:=λz=>n6 a ha z
 have nd':(A++(t.map ρ) :: B).flatten.Nodup:=by
  rw[Gw,JM,JM];refine⟨n1,⟨ndm,n5,λx hx=>?_⟩,λx hx=>?_⟩
  ·rcases(mm x).mp hx with z | z
   ·exact n6 x z.1
   ·rw[z]; exact hf.2.2
  ·intro z;rcases i9.mp z with z | z
   ·rcases(mm x).mp z with w | w
    ·exact n3 x hx (by simp[w.1])
    ·exact hf.1 (w ▸ hx)
   ·exact n3 x hx (by simp[z])
 have row:BG (t.map ρ)=(BG t).map λp=>(ρ p.1,ρ p.2):=by
  rw[Em,Em,<-Lu];congr 1;cases t with
  | nil=>cases ha
  | cons b l =>
   rw[jK,jK,o9];rw[mF]; rfl
 have old:∀{x y},(x,y)∈Az (A++t :: B)->x∈(A++t :: B).flatten/\y∈(A++t :: B).flatten:=λ{x y} h=>by
  constructor
  ·rw[<-E9]; exact i7.mpr ⟨_,h,rfl⟩
  ·exact(Ip _).mem_iff.mp (i7.mpr ⟨_,h,rfl⟩)
 have ndO:(A++t :: B).flatten.Nodup:=by rw[Gw]; exact nd
 have snd_in:∀{L:List (List Int)} {x y:Int},(x,y)∈Az L->y∈L.flatten:=λ{L x y} h=>(Ip _).mem_iff.mp (i7.mpr ⟨_,h,rfl⟩)
 have go:∀x y,(x,y)∈Az (A++t :: B)->(ρ x,ρ y)∈Az (A++(t.map ρ) :: B):=λx y h=>by
  have hx:=(old h).1;rw[Iu] at h ⊢;rw[row];rcases i9.mp h with z | z
  ·have xA:x∈A.flatten:=by rw[<-E9]; exact i7.mpr ⟨_,z,rfl⟩
   have yA:=snd_in z;rw[rx x (λe=>aA (e ▸ xA)),rx y (λe=>aA (e ▸ yA))];exact kM _ z
  rcases i9.mp z with z | z
  ·exact jC _ (kM _ (i7.mpr ⟨_,z,rfl⟩))
  ·have xB:x∈B.flatten:=by rw[<-E9]; exact i7.mpr ⟨_,z,rfl⟩
   have yB:=snd_in z;rw[rx x (λe=>aB (e ▸ xB)),rx y (λe=>aB (e ▸ yB))];exact jC _ (jC _ z)
 have am:a∈(A++t :: B).flatten:=by rw[Gw]; simp[ha]
 refine⟨nd',λx=>?_,?_,λx hx xa=>?_⟩
 ·rw[Gw,Gw];simp only[i9,mm];constructor
  ·rintro(z | (z | z) | z)
   ·exact .inl ⟨.inl z,λe=>aA (e ▸ z)⟩
   ·exact .inl ⟨.inr (.inl z.1),z.2⟩
   ·exact .inr z
   ·exact .inl ⟨.inr (.inr z),λe=>aB (e ▸ z)⟩
  ·rintro(⟨z | z | z,w⟩ | z)
   ·exact .inl z
   ·exact .inr (.inl (.inl ⟨z,w⟩))
   ·exact .inr (.inr z)
   ·exact .inr (.inl (.inr z))
 ·rw[rr]
  have:=go _ _ (GV ndO am)
  rw[ra] at this;exact DZ nd' this
 ·rw[rr]
  have:=go _ _ (GV ndO hx)
  rw[rx x xa] at this;exact DZ nd' this
theorem Zf{ts:List (List Int)}{a:Int}(nd:ts.flatten.Nodup)(ha:a∉ts.flatten):(ts++[[a]]).flatten.Nodup/\pr (ts++[[a]]) a=a/\∀x,x∈ts.flatten->pr (ts++[[a]]) x=pr ts x:=by
 have nd':(ts++[[a]]).flatten.Nodup:=by
  rw[j3,JM];exact⟨nd,by simp,λx hx h=>ha (by simp at h; exact h ▸ hx)⟩
 refine⟨nd',DZ nd' ?_,λx hx=>DZ nd' ?_⟩
 ·rw[Jp]; exact jC _ (by simp[Az,Em,cp])
 ·rw[Jp]; exact kM _ (GV nd hx)
theorem ZD{ts:List (List Int)}{a b:Int}(nd:ts.flatten.Nodup)(ha:a∉ts.flatten)(hb:b∉ts.flatten)(ab:a≠b):(ts++[[a,b]]).flatten.Nodup/\pr (ts++[[a,b]]) a=b/\pr (ts++[[a,b]]) b=a/\∀x,x∈ts.flatten->pr (ts++[[a,b]]) x=pr ts x:=by
 have nd':(ts++[[a,b]]).flatten.Nodup:=by
  rw[j3,JM];refine⟨nd,by simp[ab],λx hx h=>?_⟩;simp at h;rcases h with z | z
  ·exact ha (z ▸ hx)
  ·exact hb (z ▸ hx)
 refine⟨nd',DZ nd' ?_,DZ nd' ?_,λx hx=>DZ nd' ?_⟩
 ·rw[Jp]; exact jC _ (by simp[Az,Em,cp])
 ·rw[Jp]; exact jC _ (by simp[Az,Em,cp])
 ·rw[Jp]; exact kM _ (GV nd hx)
structure Du(φ:Int->Int)(n:Nat):Prop where
 apart:∃S:Int->Prop,(∀x,AD n x->(S x↔S (φ x)))/\S 0/\¬S 1
 CY:∀S:Int->Prop,(∀x,AD n x->(S x↔S (φ x)))->(∀k:Nat,1<=k->2*k+1<n->(S (2*(k:Int))↔S (2*(k:Int)+1)))->S 1->∀x,AD n x->S x
section
variable {φ ψ:Int->Int} {n:Nat} {a b:Int}
theorem CS{x:Int}:AD (n+2) x↔AD n x\/x=n\/x=(n:Int)+1:=by
 constructor
 ·rintro⟨h1,h2⟩;push_cast at h2;by_cases z:x<n
  ·exact .inl ⟨h1,z⟩
  ·omega
 ·rintro(⟨h1,h2⟩ | rfl | rfl)
  ·exact⟨h1,by push_cast; omega⟩
  ·exact⟨by omega,by push_cast; omega⟩
  ·exact⟨by omega,by push_cast; omega⟩
def F8(S:Int->Prop)(n:Nat)(u v:Prop)(x:Int):Prop:=(x=(n:Int)/\u)\/(x=(n:Int)+1/\v)\/(x≠(n:Int)/\x≠(n:Int)+1/\S x)
theorem JK(S:Int->Prop)(u v:Prop):F8 S n u v (n:Int)↔u:=by
 unfold F8;constructor
 ·rintro(h | h | h)
  ·exact h.2
  ·omega
  ·exact absurd rfl h.1
 ·exact λh=>.inl ⟨rfl,h⟩
theorem JP(S:Int->Prop)(u v:Prop):F8 S n u v ((n:Int)+1)↔v:=by
 unfold F8;constructor
 ·rintro(h | h | h)
  ·omega
  ·exact h.2
  ·exact absurd rfl h.2.1
 ·exact λh=>.inr (.inl ⟨rfl,h⟩)
theorem Dp(S:Int->Prop)(u v:Prop){x:Int}(h:AD n x):F8 S n u v x↔S x:=by
 have h1:x≠(n:Int):=λe=>by have:=h.2; omega
 have h2:x≠(n:Int)+1:=λe=>by have:=h.2; omega
 unfold F8;constructor
 ·rintro(z | z | z)
  ·exact absurd z.1 h1
  ·exact absurd z.1 h2
  ·exact z.2.2
 ·exact λz=>.inr (.inr ⟨h1,h2,z⟩)
theorem Du.Km(D:Du φ n)(into:∀x,AD n x->AD n (φ x))(n2:2<=n)(ha:AD n a)(h1:ψ a=n)(h2:ψ n=(n:Int)+1)(h3:ψ ((n:Int)+1)=φ a)(h4:∀x,AD n x->x≠a->ψ x=φ x):Du ψ (n+2):=by
 obtain⟨S,s1,s2,s3⟩:=D.apart;refine⟨⟨F8 S n (S a) (S a),λx hx=>?_,(Dp _ _ _ ⟨by omega,by omega⟩).mpr s2,λz=>s3 ((Dp _ _ _ ⟨by omega,by omega⟩).mp z)⟩,λS hS hr h0=>?_⟩
 ·rcases CS.mp hx with z | rfl | rfl
  ·rw[Dp _ _ _ z];by_cases e:x=a
   ·rw[e,h1,JK]
   ·rw[h4 x z e,Dp _ _ _ (into x z)];exact s1 x z
  ·rw[h2,JK,JP]
  ·rw[h3,JP,Dp _ _ _ (into a ha)];exact s1 a ha
 ·have up:∀{x:Int},AD n x->AD (n+2) x:=λh=>CS.mpr (.inl h)
  have hN:S n↔S ((n:Int)+1):=by have:=hS n (CS.mpr (.inr (.inl rfl))); rwa [h2] at this
  have hN1:S ((n:Int)+1)↔S (φ a):=by have:=hS ((n:Int)+1) (CS.mpr (.inr (.inr rfl))); rwa [h3] at this
  have hA:S a↔S n:=by have:=hS a (up ha); rwa [h1] at this
  have old:=D.CY S (λx hx=>by
   by_cases e:x=a
   ·rw[e]; exact hA.trans (hN.trans hN1)
   ·have:=hS x (up hx); rwa [h4 x hx e] at this) (λk k1 k2=>hr k k1 (by omega)) h0
  intro x hx;rcases CS.mp hx with z | rfl | rfl
  ·exact old x z
  ·exact hA.mp (old a ha)
  ·exact hN.mp (hA.mp (old a ha))
theorem Jz{S:Int->Prop}(hS:∀x,AD n x->(S x↔S (φ x)))(into:∀x,AD n x->AD n (φ x))(ha:AD n a):∀k,AD n (Ax φ k a)/\(S a↔S (Ax φ k a))
 | 0=>⟨ha,Iff.rfl⟩
 | k+1=>by
  obtain⟨h1,h2⟩:=Jz hS into ha k;exact⟨into _ h1,h2.trans (hS _ h1)⟩
theorem Du.Kf(D:Du φ n)(into:∀x,AD n x->AD n (φ x))(n2:2<=n)(ev:n % 2=0)(ha:AD n a)(kb:∃k,Ax φ k a=b)(h1:a≠b->ψ a=n)(h2:a≠b->ψ n=φ b)(h2':a=b->ψ n=n)(h3:ψ b=(n:Int)+1)(h5:ψ ((n:Int)+1)=φ a)(h4:∀x,AD n x->x≠a->x≠b->ψ x=φ x):Du ψ (n+2):=by
 obtain⟨k,hk⟩:=kb;have hb:AD n b:=by rw[<-hk]; exact(Jz (S:=λ_=>True) (λ_ _=>Iff.rfl) into ha k).1
 obtain⟨S,s1,s2,s3⟩:=D.apart;have sab:S a↔S b:=by rw[<-hk]; exact(Jz s1 into ha k).2
 refine⟨⟨F8 S n (S a) (S b),λx hx=>?_,(Dp _ _ _ ⟨by omega,by omega⟩).mpr s2,λz=>s3 ((Dp _ _ _ ⟨by omega,by omega⟩).mp z)⟩,λS hS hr h0=>?_⟩
 ·rcases CS.mp hx with z | rfl | rfl
  ·rw[Dp _ _ _ z];by_cases eb:x=b
   ·rw[eb,h3,JP]
   ·by_cases ea:x=a
    ·rw[ea,h1 (λe=>eb (ea.trans e)),JK]
    ·rw[h4 x z ea eb,Dp _ _ _ (into x z)];exact s1 x z
  ·by_cases e:a=b
   ·rw[h2' e]
   ·rw[h2 e,JK,Dp _ _ _ (into b hb)];exact sab.trans (s1 b hb)
  ·rw[h5,JP,Dp _ _ _ (into a ha)];exact sab.symm.trans (s1 a ha)
 ·have up:∀{x:Int},AD n x->AD (n+2) x:=λh=>CS.mpr (.inl h)
  have hR:S n↔S ((n:Int)+1):=by
   have:=hr (n / 2) (by omega) (by omega)
   rwa [show 2*((n / 2:Nat):Int)=(n:Int) by omega] at this
  have hN1:S ((n:Int)+1)↔S (φ a):=by have:=hS ((n:Int)+1) (CS.mpr (.inr (.inr rfl))); rwa [h5] at this
  have hB:S b↔S ((n:Int)+1):=by have:=hS b (up hb); rwa [h3] at this
  have old:=D.CY S (λx hx=>by
   by_cases eb:x=b
   ·by_cases ab:a=b
    ·rw[eb,<-ab];rw[<-ab] at hB;exact hB.trans hN1
    ·have hN:S n↔S (φ b):=by have:=hS n (CS.mpr (.inr (.inl rfl))); rwa [h2 ab] at this
     rw[eb];exact hB.trans (hR.symm.trans hN)
   ·by_cases ea:x=a
    ·have hA:S a↔S n:=by have:=hS a (up ha); rwa [h1 (λe=>eb (ea.trans e))] at this
     rw[ea];exact hA.trans (hR.trans hN1)
    ·have:=hS x (up hx); rwa [h4 x hx ea eb] at this) (λk k1 k2=>hr k k1 (by omega)) h0
  intro x hx;rcases CS.mp hx with z | rfl | rfl
  ·exact old x z
  ·exact hR.mpr (hB.mp (old b hb))
  ·exact hB.mp (old b hb)
theorem Du.part{q pe:Int}(D:Du φ n)(into:∀x,AD n x->AD n (φ x))(n2:2<=n)(hq:AD n q)(hp:AD n pe)(h1:ψ q=n)(h2:ψ n=(if φ q=pe then (n:Int)+1 else φ q))(h3:ψ ((n:Int)+1)=pe)(h4:∀x,AD n x->x≠q->ψ x=(if φ x=pe then (n:Int)+1 else φ x)):Du ψ (n+2):=by
 obtain⟨S,s1,s2,s3⟩:=D.apart;have key:∀(S:Int->Prop) (x:Int),AD n x->(F8 S n (S q) (S pe) (if φ x=pe then (n:Int)+1 else φ x)↔S (φ x)):=λS x hx=>by
  by_cases e:φ x=pe
  ·rw[i5 e,JP,e]
  ·rw[iz e,Dp _ _ _ (into x hx)]
 refine⟨⟨F8 S n (S q) (S pe),λx hx=>?_,(Dp _ _ _ ⟨by omega,by omega⟩).mpr s2,λz=>s3 ((Dp _ _ _ ⟨by omega,by omega⟩).mp z)⟩,λS hS hr h0=>?_⟩
 ·rcases CS.mp hx with z | rfl | rfl
  ·rw[Dp _ _ _ z];by_cases e:x=q
   ·rw[e,h1,JK]
   ·rw[h4 x z e,key S x z];exact s1 x z
  ·rw[h2,JK,key S q hq];exact s1 q hq
  ·rw[h3,JP,Dp _ _ _ hp]
 ·have up:∀{x:Int},AD n x->AD (n+2) x:=λh=>CS.mpr (.inl h)
  have hN1:S ((n:Int)+1)↔S pe:=by have:=hS ((n:Int)+1) (CS.mpr (.inr (.inr rfl))); rwa [h3] at this
  have kk:∀x,(S (if φ x=pe then (n:Int)+1 else φ x)↔S (φ x)):=λx=>by
   by_cases e:φ x=pe
   ·rw[i5 e,e]; exact hN1
   ·rw[iz e]
  have hQ:S q↔S n:=by have:=hS q (up hq); rwa [h1] at this
  have old:=D.CY S (λx hx=>by
   by_cases e:x=q
   ·have hN:=hS n (CS.mpr (.inr (.inl rfl)));rw[h2] at hN;rw[e];exact hQ.trans (hN.trans (kk q))
   ·have:=hS x (up hx)
    rw[h4 x hx e] at this;exact this.trans (kk x)) (λk k1 k2=>hr k k1 (by omega)) h0
  intro x hx;rcases CS.mp hx with z | rfl | rfl
  ·exact old x z
  ·exact hQ.mp (old q hq)
  ·exact hN1.mpr (old pe hp)
def Cm(ts:List (List Int))(n:Nat):Prop:=∀f:Int->Rat,(∀x,AD n x->f (AH x)=- f x)->(∀t∈ts,(t.map f).sum=0)->∃p:Int->Rat,(∀x,AD n x->p (AL ts x)=p x)/\∀x,AD n x->p x-p (AH x)=f x
theorem dC{p:Nat->Prop}:∀k,p k->∃k,p k/\∀j,j<k->¬p j:=by
 intro k
 induction k using Nat.strongRecOn with
 | ind k ih =>
  intro h;by_cases z:∃j,j<k/\p j
  ·obtain⟨j,h1,h2⟩:=z;exact ih j h1 h2
  ·exact⟨k,h,λj hj q=>z ⟨j,hj,q⟩⟩
theorem RH(φ:Int->Int)(s:Int)(i:Nat):∀k,Ax φ k (Ax φ i s)=Ax φ (k+i) s
 | 0=>by rw[nJ]; rfl
 | k+1=>by
  rw[show k+1+i=(k+i)+1 by omega];show φ (Ax φ k (Ax φ i s))=φ (Ax φ (k+i) s);rw[RH φ s i k]
def CZ(φ:Int->Int)(a:Int):Nat->Int->Rat
 | 0,_=>0
 | k+1,x=>CZ φ a k x+if Ax φ (k+1) a=x then 1 else 0
theorem Rc{φ:Int->Int}{n:Nat}(PM:FK φ n){a x:Int}(ha:AD n a)(hx:AD n x):∀k,CZ φ a k (φ x)=CZ φ a k x+(if x=a then 1 else 0)-(if Ax φ k a=x then 1 else 0)
 | 0=>by
  show(0:Rat)=0+(if x=a then 1 else 0)-(if a=x then 1 else 0);by_cases e:x=a
  ·rw[i5 e,i5 e.symm]; grind
  ·rw[iz e,iz (λz=>e z.symm)]; grind
 | k+1=>by
  show CZ φ a k (φ x)+(if φ (Ax φ k a)=φ x then 1 else 0)=CZ φ a k x+(if Ax φ (k+1) a=x then 1 else 0)+(if x=a then 1 else 0)-(if Ax φ (k+1) a=x then 1 else 0);rw[Rc PM ha hx k];by_cases e:Ax φ k a=x
  ·rw[i5 e,i5 (show φ (Ax φ k a)=φ x by rw[e])]; grind
  ·rw[iz e,iz (show ¬φ (Ax φ k a)=φ x from λz=>e (PM.inj _ _ (D6 PM ha k) hx z))]; grind
theorem Zx{φ:Int->Int}{n:Nat}(PM:FK φ n){a b:Int}(ha:AD n a)(kb:∃k,Ax φ k a=b):∃χ:Int->Rat,(∀x,AD n x->χ (φ x)=χ x+(if x=a then 1 else 0)-(if x=b then 1 else 0))/\(a≠b->χ b=χ a+1):=by
 obtain⟨k0,hk0⟩:=kb;obtain⟨k,hk,mn⟩:=dC (p:=λk=>Ax φ k a=b) k0 hk0;have st:∀x,AD n x->CZ φ a k (φ x)=CZ φ a k x+(if x=a then 1 else 0)-(if x=b then 1 else 0):=λx hx=>by
  rw[Rc PM ha hx k,hk];by_cases e:x=b
  ·rw[i5 e,i5 (show b=x from e.symm)]
  ·rw[iz e,iz (show ¬b=x from λz=>e z.symm)]
 refine⟨CZ φ a k,st,λab=>?_⟩;have go:∀j,j<k->CZ φ a k (Ax φ (j+1) a)=CZ φ a k a+1:=by
  intro j
  induction j with
  | zero =>
   intro _;show CZ φ a k (φ a)=_;rw[st a ha,i5 rfl,iz ab]; grind
  | succ j ih =>
   intro hj;show CZ φ a k (φ (Ax φ (j+1) a))=_;have e1:Ax φ (j+1) a≠a:=λe=>mn (k-(j+1)) (by omega) (by
    show Ax φ (k-(j+1)) a=b
    have:=RH φ a (j+1) (k-(j+1))
    rw[e,show k-(j+1)+(j+1)=k by omega,hk] at this;exact this)
   rw[st _ (D6 PM ha _),iz e1,iz (mn (j+1) (by omega)),ih (by omega)]; grind
 have k0:0<k:=by
  rcases nH k with z | z
  ·subst z; exact absurd hk ab
  ·exact z
 have:=go (k-1) (by omega)
 rw[show k-1+1=k by omega,hk] at this;exact this
theorem ND{l m:List Rat}(h:l.Perm m):l.sum=m.sum:=by
 induction h with
 | nil=>rfl
 | cons a _ ih=>rw[jy,jy,ih]
 | swap a b l=>rw[jy,jy,jy,jy]; grind
 | trans _ _ i1 i2=>exact i1.trans i2
theorem KC{f g:Int->Rat}:∀t:List Int,(t.map λx=>f x+g x).sum=(t.map f).sum+(t.map g).sum
 | []=>by simp; grind
 | a :: t=>by rw[i8,i8,i8,jy,jy,jy,KC t]; grind
theorem LD{f:Int->Rat}(c:Rat):∀t:List Int,(t.map λx=>c*f x).sum=c*(t.map f).sum
 | []=>by simp
 | a :: t=>by rw[i8,i8,jy,jy,LD c t]; grind
theorem Rx{f g:Int->Rat}{t:List Int}(h:∀x∈t,f x=g x):(t.map f).sum=(t.map g).sum:=by rw[ko h]
theorem Nl{s:Int}:∀{t:List Int},t.Nodup->(t.map λx=>if x=s then (1:Rat) else 0).sum=if s∈t then 1 else 0
 | [],_=>by simp
 | a :: t,nd=>by
  rw[jV] at nd;rw[i8,jy,Nl nd.2];by_cases e:a=s
  ·subst e; rw[i5 rfl,iz nd.1,i5 (by simp)]; grind
  ·rw[iz e];by_cases z:s∈t
   ·rw[i5 z,i5 (by simp[z])]; grind
   ·rw[iz z,iz (show ¬s∈a :: t from λq=>(jh.mp q).elim (λq=>e q.symm) z)]; grind
theorem Yp{ts:List (List Int)}(nd:ts.flatten.Nodup){t:List Int}(ht:t∈ts)(g:Int->Rat):(t.map λx=>g (pr ts x)).sum=(t.map g).sum:=by
 have h1:(t.map λx=>g (pr ts x))=((BG t).map λp=>g p.2):=by
  conv=>lhs; rw[<-LR t]
  rw[jH];refine ko λp hp=>?_
  show g (pr ts p.1)=g p.2;rw[DZ nd (x:=p.1) (y:=p.2) (jn.mpr ⟨BG t,i7.mpr ⟨t,ht,rfl⟩,hp⟩)]
 rw[h1,show((BG t).map λp=>g p.2)=((BG t).map (·.2)).map g by rw[jH]; rfl];exact ND ((RG t).map g)
variable {ts ts':List (List Int)}
def FO(p:Int->Rat)(n:Nat)(u v:Rat)(x:Int):Rat:=if x=(n:Int) then u else if x=(n:Int)+1 then v else p x
theorem HG(p:Int->Rat)(u v:Rat):FO p n u v (n:Int)=u:=i5 rfl
theorem HJ(p:Int->Rat)(u v:Rat):FO p n u v ((n:Int)+1)=v:=by unfold FO; rw[iz (by omega),i5 rfl]
theorem Dl(p:Int->Rat)(u v:Rat){x:Int}(h:AD n x):FO p n u v x=p x:=by unfold FO; rw[iz (λe=>by have:=h.2; omega),iz (λe=>by have:=h.2; omega)]
theorem Cm.C8{p:Int->Rat}{f:Int->Rat}{u v:Rat}(ev:n % 2=0)(anti:∀x,AD (n+2) x->f (AH x)=- f x)(d:∀x,AD n x->p x-p (AH x)=f x)(h:u-v=f n):∀x,AD (n+2) x->FO p n u v x-FO p n u v (AH x)=f x:=λx hx=>by
 have o1:AH (n:Int)=(n:Int)+1:=by unfold AH; rw[i5 (by omega)]
 have o2:AH ((n:Int)+1)=n:=by unfold AH; rw[iz (by omega)]; omega
 rcases CS.mp hx with z | rfl | rfl
 ·rw[Dl _ _ _ z,Dl _ _ _ (CI ev z)]; exact d x z
 ·rw[o1,HG,HJ]; exact h
 ·have:=anti n (CS.mpr (.inr (.inl rfl)))
  rw[o1] at this;rw[o2,HG,HJ,this]
  grind
theorem up2{x:Int}(h:AD n x):AD (n+2) x:=CS.mpr (.inl h)
theorem Cm.Km (D:Cm ts n) (ev:n % 2=0) (into:∀x,AD n x->AD n (AL ts x)) (ha:AD n a) (h1:AL ts' a=n) (h2:AL ts' n=(n:Int)+1) (h3:AL ts' ((n:Int)+1)=AL ts a) (h4:∀x,AD n x->x≠a->AL ts' x=AL ts x)
  (hb:∀f:Int->Rat,(∀t∈ts',(t.map f).sum=0)->f ((n:Int)+1)=0/\(f n=0->∀t∈ts,(t.map f).sum=0)):Cm ts' (n+2):=λf anti bal=>by
 obtain⟨b1,b2⟩:=hb f bal;have o2:AH ((n:Int)+1)=n:=by unfold AH; rw[iz (by omega)]; omega
 have f0:f n=0:=by
  have:=anti ((n:Int)+1) (CS.mpr (.inr (.inr rfl)))
  rw[o2,b1] at this;rw[this]; grind
 obtain⟨p,i1,d1⟩:=D f (λx hx=>anti x (up2 hx)) (b2 f0);refine⟨FO p n (p a) (p a),λx hx=>?_,Cm.C8 ev anti d1 (by rw[f0]; grind)⟩;rcases CS.mp hx with z | rfl | rfl
 ·by_cases e:x=a
  ·rw[e,h1,HG,Dl _ _ _ ha]
  ·rw[h4 x z e,Dl _ _ _ (into x z),Dl _ _ _ z]; exact i1 x z
 ·rw[h2,HG,HJ]
 ·rw[h3,HJ,Dl _ _ _ (into a ha)]; exact i1 a ha
theorem Cm.part {pe:Int} (D:Cm ts n) (ev:n % 2=0) (into:∀x,AD n x->AD n (AL ts x)) (hp:AD n pe) (h1:AL ts' (AH pe)=n) (h2:AL ts' n=(if AL ts (AH pe)=pe then (n:Int)+1 else AL ts (AH pe))) (h3:AL ts' ((n:Int)+1)=pe) (h4:∀x,AD n x->x≠AH pe->AL ts' x=(if AL ts x=pe then (n:Int)+1 else AL ts x))
  (hb:∀f:Int->Rat,(∀t∈ts',(t.map f).sum=0)->f pe+f n=0/\(f ((n:Int)+1)=f pe->∀t∈ts,(t.map f).sum=0)):Cm ts' (n+2):=λf anti bal=>by
 obtain⟨b1,b2⟩:=hb f bal;have o1:AH (n:Int)=(n:Int)+1:=by unfold AH; rw[i5 (by omega)]
 have f0:f ((n:Int)+1)=f pe:=by
  have:=anti n (CS.mpr (.inr (.inl rfl)))
  rw[o1] at this;rw[this]; grind
 obtain⟨p,i1,d1⟩:=D f (λx hx=>anti x (up2 hx)) (b2 f0);have hq:=CI ev hp;have dp:=d1 pe hp;have key:∀x,AD n x->FO p n (p (AH pe)) (p pe) (if AL ts x=pe then (n:Int)+1 else AL ts x)=p x:=λx hx=>by
  by_cases e:AL ts x=pe
  ·rw[i5 e,HJ,<-e]; exact i1 x hx
  ·rw[iz e,Dl _ _ _ (into x hx)]; exact i1 x hx
 refine⟨FO p n (p (AH pe)) (p pe),λx hx=>?_,Cm.C8 ev anti d1 (by grind)⟩;rcases CS.mp hx with z | rfl | rfl
 ·by_cases e:x=AH pe
  ·rw[e,h1,HG,Dl _ _ _ hq]
  ·rw[h4 x z e,key x z,Dl _ _ _ z]
 ·rw[h2,key _ hq,HG]
 ·rw[h3,HJ,Dl _ _ _ hp]
theorem N5{φ:Int->Int}{p:Int->Rat}(PM:FK φ n)(ha:AD n a)(i1:∀x,AD n x->p (φ x)=p x):∀k,p (Ax φ k a)=p a
 | 0=>rfl
 | k+1=>(i1 _ (D6 PM ha k)).trans (N5 PM ha i1 k)
theorem Cm.Kf (D:Cm ts n) (T:B9 n ts) (ha:AD n a) (kb:∃k,Ax (AL ts) k a=b) (h1:a≠b->AL ts' a=n) (h2:a≠b->AL ts' n=AL ts b) (h2':a=b->AL ts' n=n) (h3:AL ts' b=(n:Int)+1) (h5:AL ts' ((n:Int)+1)=AL ts a) (h4:∀x,AD n x->x≠a->x≠b->AL ts' x=AL ts x)
  (hb:∀f:Int->Rat,(∀t∈ts',(t.map f).sum=0)->∀t∈ts,(t.map f).sum+(if AH a∈t then f n else 0)+(if AH b∈t then f ((n:Int)+1) else 0)=0):Cm ts' (n+2):=λf anti bal=>by
 have ev:=T.Eu;have PM:=T.perm;have into:∀x,AD n x->AD n (AL ts x):=PM.into;obtain⟨χ,c1,c2⟩:=Zx PM ha kb;have hbn:AD n b:=by obtain⟨k,rfl⟩:=kb; exact D6 PM ha k
 have o1:AH (n:Int)=(n:Int)+1:=by unfold AH; rw[i5 (by omega)]
 have f1:f ((n:Int)+1)=- f n:=by have:=anti n (CS.mpr (.inr (.inl rfl))); rwa [o1] at this
 have balO:∀t∈ts,(t.map λx=>f x+f n*(χ x-χ (AH x))).sum=0:=λt ht=>by
  have tin:∀x∈t,AD n x:=λx hx=>(T.mem x).mp (jn.mpr ⟨t,ht,hx⟩)
  have tnd:t.Nodup:=by
   obtain⟨i,hi,rfl⟩:=ju ht;exact(qg.mp T.nd).1 _ ht
  have e1:∀x∈t,χ x-χ (AH x)=(χ x + -1*χ (pr ts x))+((if x=AH a then 1 else 0) + -1*(if x=AH b then 1 else 0)):=λx hx=>by
   have:=c1 (AH x) (CI ev (tin x hx))
   rw[BZ,Bp] at this;have ia:(if AH x=a then (1:Rat) else 0)=if x=AH a then 1 else 0:=by
    by_cases e:AH x=a
    ·rw[i5 e,i5 (by rw[<-e,Bp])]
    ·rw[iz e,iz (λz=>e (by rw[z,Bp]))]
   have ib:(if AH x=b then (1:Rat) else 0)=if x=AH b then 1 else 0:=by
    by_cases e:AH x=b
    ·rw[i5 e,i5 (by rw[<-e,Bp])]
    ·rw[iz e,iz (λz=>e (by rw[z,Bp]))]
   rw[ia,ib] at this;rw[this]; grind
  rw[KC,LD,Rx e1,KC,KC,KC,LD,LD,Yp T.nd ht χ,Nl tnd,Nl tnd]
  have:=hb f bal t ht
  rw[f1] at this;by_cases ea:AH a∈t <;> by_cases eb:AH b∈t <;> simp only[ea,eb,if_true,if_false] at this ⊢ <;> grind
 obtain⟨p,i1,d1⟩:=D (λx=>f x+f n*(χ x-χ (AH x))) (λx hx=>by
  show f (AH x)+f n*(χ (AH x)-χ (AH (AH x)))=-(f x+f n*(χ x-χ (AH x)));rw[Bp,anti x (up2 hx)]; grind) balO
 have pab:p b=p a:=by
  obtain⟨k,rfl⟩:=kb;exact N5 PM ha i1 k
 have ca:=c1 a ha;have cb:=c1 b hbn;have ia:=i1 a ha;have ib:=i1 b hbn;refine⟨FO (λx=>p x-f n*χ x) n (p b-f n*χ b+f n) (p b-f n*χ b),λx hx=>?_,Cm.C8 ev anti (λx hx=>?_) (by grind)⟩
 ·rcases CS.mp hx with z | rfl | rfl
  ·by_cases eb:x=b
   ·rw[eb,h3,HJ,Dl _ _ _ hbn]
   ·by_cases ea:x=a
    ·have ab:a≠b:=λe=>eb (ea.trans e)
     rw[ea,h1 ab,HG,Dl _ _ _ ha]
     have:=c2 ab
     rw[pab,this]; grind
    ·rw[h4 x z ea eb,Dl _ _ _ (into x z),Dl _ _ _ z]
     have:=c1 x z
     rw[iz ea,iz eb] at this;rw[i1 x z,this]; grind
  ·by_cases ab:a=b
   ·rw[h2' ab]
   ·rw[h2 ab,HG,Dl _ _ _ (into b hbn)];rw[iz (λe=>ab e.symm),i5 rfl] at cb;show p (AL ts b)-f n*χ (AL ts b)=_;rw[ib,cb]; grind
  ·rw[h5,HJ,Dl _ _ _ (into a ha)];show p (AL ts a)-f n*χ (AL ts a)=_;by_cases ab:a=b
   ·rw[i5 rfl,i5 ab] at ca;rw[ia,ca,<-ab]; grind
   ·rw[i5 rfl,iz ab] at ca;rw[ia,ca,pab,c2 ab]; grind
 ·have:=d1 x hx
  show p x-f n*χ x-(p (AH x)-f n*χ (AH x))=f x
  grind
theorem QG{ts:List (List Int)}{p:Nat}{r r' t:List Int}(hp:ts[p]?=some r)(ht:t∈ts):t=r\/t∈ts.set p r':=by
 obtain⟨i,hi,rfl⟩:=ju ht;by_cases e:p=i
 ·subst e;rw[ij hi] at hp;exact .inl (je hp)
 ·right
  have:(ts.set p r')[i]?=some ts[i]:=by rw[jF e,ij hi]
  exact iq this
theorem Ml{ts:List (List Int)}{p:Nat}{r r':List Int}(hp:ts[p]?=some r):r'∈ts.set p r':=by
 have h:=(ip.mp hp).1
 have:(ts.set p r')[p]?=some r':=jR h
 exact iq this
theorem Si(f:Int->Rat)(e s:Int)(t1 t2:List Int):((t1++e :: s :: t2).map f).sum=((t1++s :: t2).map f).sum+f e:=by
 simp only[ji,i8,pQ,jy]; grind
theorem YW{n:Nat}(hn:n=4):Cm [[2,0],[3,1]] n:=λf anti bal=>by
 subst hn;have n0:AL [[2,0],[3,1]] 0=3:=by decide
 have n1:AL [[2,0],[3,1]] 1=2:=by decide
 have n2:AL [[2,0],[3,1]] 2=1:=by decide
 have n3:AL [[2,0],[3,1]] 3=0:=by decide
 have cs:∀x:Int,AD 4 x->x=0\/x=1\/x=2\/x=3:=λx h=>by obtain⟨h1,h2⟩:=h; omega
 have b:=bal [2,0] (by simp);have a0:=anti 0 ⟨by decide,by decide⟩;have a2:=anti 2 ⟨by decide,by decide⟩;have o0:AH 0=1:=by decide
 have o1:AH 1=0:=by decide
 have o2:AH 2=3:=by decide
 have o3:AH 3=2:=by decide
 rw[o0] at a0;rw[o2] at a2;simp only[i8,kf,jy,lO] at b;have p0:(if ((0:Int)=0\/(0:Int)=3) then f 0 else 0)=f 0:=i5 (by decide);have p1:(if ((1:Int)=0\/(1:Int)=3) then f 0 else 0)=0:=iz (by decide);have p2:(if ((2:Int)=0\/(2:Int)=3) then f 0 else 0)=0:=iz (by decide);have p3:(if ((3:Int)=0\/(3:Int)=3) then f 0 else 0)=f 0:=i5 (by decide);refine⟨λx=>if x=0\/x=3 then f 0 else 0,λx hx=>?_,λx hx=>?_⟩
 ·rcases cs x hx with rfl | rfl | rfl | rfl
  ·rw[n0]; exact p3.trans p0.symm
  ·rw[n1]; exact p2.trans p1.symm
  ·rw[n2]; exact p1.trans p2.symm
  ·rw[n3]; exact p0.trans p3.symm
 ·rcases cs x hx with rfl | rfl | rfl | rfl
  ·rw[o0]; show(if ((0:Int)=0\/(0:Int)=3) then f 0 else 0)-(if ((1:Int)=0\/(1:Int)=3) then f 0 else 0)=_; rw[p0,p1]; grind
  ·rw[o1]; show(if ((1:Int)=0\/(1:Int)=3) then f 0 else 0)-(if ((0:Int)=0\/(0:Int)=3) then f 0 else 0)=_; rw[p0,p1]; grind
  ·rw[o2]; show(if ((2:Int)=0\/(2:Int)=3) then f 0 else 0)-(if ((3:Int)=0\/(3:Int)=3) then f 0 else 0)=_; rw[p2,p3]; grind
  ·rw[o3]; show(if ((3:Int)=0\/(3:Int)=3) then f 0 else 0)-(if ((2:Int)=0\/(2:Int)=3) then f 0 else 0)=_; rw[p2,p3]; grind
structure Gn(ts:List (List Int))(hs:List Nat):Prop where
 ev:hs.length % 2=0
 n4:4<=hs.length
 two:2<=ts.length
 nd:ts.flatten.Nodup
 mem:∀x,x∈ts.flatten↔AD hs.length x
 CD:∀(p:Nat) (t:List Int),ts[p]?=some t->∀x:Int,x∈t->hs[x.toNat]?=some p
 ne:∀t∈ts,t≠[]
 few:2*ts.length<=hs.length
 lo:hs[0]?=some 0/\hs[1]?=some 1
 CY:∀S:Nat->Prop,S 0->(∀k,1<=k->∀p q,hs[2*k]?=some p->hs[2*k+1]?=some q->(S p↔S q))->∀p,p<ts.length->S p
 du:Du (AL ts) hs.length
 po:Cm ts hs.length
theorem Gn.FP{ts:List (List Int)}{hs:List Nat}(g:Gn ts hs):B9 hs.length ts:=⟨g.nd,g.mem,g.ev⟩
theorem N9{α:Type}{ts:List α}{p:Nat}{r:α}(h:ts[p]?=some r):∃A B,ts=A++r :: B/\A.length=p/\∀r',ts.set p r'=A++r' :: B:=by
 obtain⟨hp,e⟩:=ip.mp h;refine⟨ts.take p,ts.drop (p+1),?_,by rw[jT]; omega,λr'=>?_⟩
 ·rw[<-e,kP,kq]
 ·exact List.set_eq_take_append_cons_drop .. |>.trans (by rw[i5 hp])
theorem Gx{n:Nat}(h:n % 2=0):AH (n:Int)=(n:Int)+1:=by unfold AH; rw[i5 (by omega)]
theorem Nk{n:Nat}(h:n % 2=0):AH ((n:Int)+1)=n:=by unfold AH; rw[iz (by omega)]; omega
theorem HK{x y:Int}(h:AH x=AH y):x=y:=by rw[<-Bp x,h,Bp]
theorem Gn.Km{ts:List (List Int)}{hs:List Nat}(g:Gn ts hs){p:Nat}{t1 t2:List Int}{s:Int}(hp:ts[p]?=some (t1++s :: t2)):
  Gn (ts.set p (t1++(hs.length:Int) :: s :: t2)++[[(hs.length:Int)+1]]) (hs++[p]++[ts.length]):=by
 obtain⟨A,B,eT,lA,eS⟩:=N9 hp;have pl:p<ts.length:=(ip.mp hp).1;have nd0:=g.nd;have mem0:=g.mem;generalize hn:hs.length=n at *;have ev:=g.ev;rw[hn] at ev;have em:((n:Nat):Int)∉ts.flatten:=λz=>by have:=(mem0 _).mp z; omega
 have em1:((n:Nat):Int)+1∉ts.flatten:=λz=>by have:=(mem0 _).mp z; omega
 have sm:s∈ts.flatten:=jn.mpr ⟨_,iq hp,by simp⟩;have sR:=(mem0 s).mp sm;rw[eT] at nd0 em;obtain⟨nd1,mem1,q1,q2,q3⟩:=UT nd0 em;rw[<-eT,<-eS] at *;have em1':((n:Nat):Int)+1∉(ts.set p (t1++(n:Int) :: s :: t2)).flatten:=λz=>by
  rcases(mem1 _).mp z with w | w
  ·exact em1 w
  ·omega
 obtain⟨nd2,q4,q5⟩:=Zf nd1 em1';have q6:∀x∈ts.flatten,pr (ts.set p (t1++(n:Int) :: s :: t2)++[[(n:Int)+1]]) x=pr (ts.set p (t1++(n:Int) :: s :: t2)) x:=λx hx=>q5 x ((mem1 x).mpr (.inl hx))
 have lH:(hs++[p]++[ts.length]).length=n+2:=by simp[hn]
 have lT:(ts.set p (t1++(n:Int) :: s :: t2)++[[(n:Int)+1]]).length=ts.length+1:=by simp
 have aR:AD n (AH s):=CI ev sR;have f1:AL (ts.set p (t1++(n:Int) :: s :: t2)++[[(n:Int)+1]]) (AH s)=n:=by rw[BZ,Bp,q6 s sm,q1]
 have f2:AL (ts.set p (t1++(n:Int) :: s :: t2)++[[(n:Int)+1]]) n=(n:Int)+1:=by rw[BZ,Gx ev,q4]
 have f3:AL (ts.set p (t1++(n:Int) :: s :: t2)++[[(n:Int)+1]]) ((n:Int)+1)=AL ts (AH s):=by rw[BZ,Nk ev,q5 _ ((mem1 _).mpr (.inr rfl)),q2,BZ,Bp]
 have f4:∀x,AD n x->x≠AH s->AL (ts.set p (t1++(n:Int) :: s :: t2)++[[(n:Int)+1]]) x=AL ts x:=λx hx xa=>by
  have hm:AH x∈ts.flatten:=(mem0 _).mpr (CI ev hx);rw[BZ,q6 _ hm,q3 _ hm (λe=>xa (by rw[<-e,Bp])),BZ]
 have into:∀x,AD n x->AD n (AL ts x):=λx hx=>by have:=g.FP.perm.into x (by rw[hn]; exact hx); rwa [hn] at this
 have du0:=g.du;rw[hn] at du0;have po0:=g.po;rw[hn] at po0;have pz:Cm (ts.set p (t1++(n:Int) :: s :: t2)++[[(n:Int)+1]]) (n+2):=by
  refine po0.Km ev into aR f1 f2 f3 f4 λf bal=>?_
  have b1:=bal [(n:Int)+1] (by simp);simp only[i8,kf,jy,lO] at b1;refine⟨by grind,λf0 t ht=>?_⟩;rcases QG (r':=t1++(n:Int) :: s :: t2) hp ht with e | e
  ·have:=bal _ (i9.mpr (.inl (Ml (r':=t1++(n:Int) :: s :: t2) hp)))
   rw[Si,f0] at this;rw[e]; grind
  ·exact bal t (i9.mpr (.inl e))
 have few:=g.few;have n4:=g.n4;rw[hn] at few n4;have hget:∀{i q},hs[i]?=some q->(hs++[p]++[ts.length])[i]?=some q:=λ{i q} h=>by
  rw[jU,jm (ip.mp h).1]; exact h
 refine⟨by rw[lH]; omega,by rw[lH]; omega,by rw[lT]; have:=g.two; omega,nd2,λx=>?_,λq t hq x hx=>?_,λt ht=>?_,by rw[lT,lH]; omega,⟨hget g.lo.1,hget g.lo.2⟩,λS S0 hS q hq=>?_,by rw[lH]; exact du0.Km into (by omega) aR f1 f2 f3 f4,by rw[lH]; exact pz⟩
 ·rw[lH,j3,i9,mem1,mem0];simp only[jx,oj,kg,jA,AD];omega
 ·rcases jv q ts.length with ql | ql
  ·rw[jm (by simpa using ql)] at hq;by_cases e:p=q
   ·subst e;rw[jR ql] at hq;cases hq;by_cases xn:x=n
    ·rw[xn,kd,<-hn,jU,jd (i4 _)]; simp
    ·refine hget (g.CD p _ hp x ?_);simp only[i9,jh] at hx ⊢;rcases hx with z | z | z | z
     ·exact .inl z
     ·exact absurd z xn
     ·exact .inr (.inl z)
     ·exact .inr (.inr z)
   ·rw[jF e] at hq;exact hget (g.CD q t hq x hx)
  ·have:q=ts.length:=by
    have:=(ip.mp hq).1
    rw[lT] at this; omega
   subst this;rw[jd (by simp)] at hq;simp at hq;subst hq;rw[jA.mp hx,show((n:Int)+1).toNat=n+1 by omega,<-hn];rw[jd (by simp)]; simp
 ·rcases i9.mp ht with z | z
  ·rcases kT z with w | w
   ·exact g.ne t w
   ·rw[w]; simp
  ·rw[jA.mp z]; simp
 ·have h1:=g.CY S S0 (λk k1 a b ha hb=>hS k k1 a b (hget ha) (hget hb));rcases jv q ts.length with ql | ql
  ·exact h1 q ql
  ·have:q=ts.length:=by rw[lT] at hq; omega
   subst this
   have:=hS (n / 2) (by omega) p ts.length (by rw[show 2*(n / 2)=n by omega,<-hn,jU,jd (i4 _)]; simp) (by rw[show 2*(n / 2)+1=n+1 by omega,<-hn,jd (by simp)]; simp)
   exact this.mp (h1 p pl)
structure Gb(ts:List (List Int))(hs:List Nat):Prop where
 nd:ts.flatten.Nodup
 mem:∀x,x∈ts.flatten↔AD hs.length x
 CD:∀(p:Nat) (t:List Int),ts[p]?=some t->∀x:Int,x∈t->hs[x.toNat]?=some p
 ne:∀t∈ts,t≠[]
theorem Gn.gb{ts:List (List Int)}{hs:List Nat}(g:Gn ts hs):Gb ts hs:=⟨g.nd,g.mem,g.CD,g.ne⟩
theorem Gb.Ey{ts:List (List Int)}{hs:List Nat}(g:Gb ts hs){p:Nat}{t1 t2:List Int}{s:Int}(hp:ts[p]?=some (t1++s :: t2)):
  Gb (ts.set p (t1++(hs.length:Int) :: s :: t2)) (hs++[p])/\pr (ts.set p (t1++(hs.length:Int) :: s :: t2)) s=hs.length/\pr (ts.set p (t1++(hs.length:Int) :: s :: t2)) hs.length=pr ts s /\
   ∀x,AD hs.length x->x≠s->pr (ts.set p (t1++(hs.length:Int) :: s :: t2)) x=pr ts x:=by
 obtain⟨A,B,eT,lA,eS⟩:=N9 hp;have pl:p<ts.length:=(ip.mp hp).1;have nd0:=g.nd;have mem0:=g.mem;generalize hn:hs.length=n at *;have em:((n:Nat):Int)∉ts.flatten:=λz=>by have:=(mem0 _).mp z; omega
 rw[eT] at nd0 em;obtain⟨nd1,mem1,q1,q2,q3⟩:=UT nd0 em;rw[<-eT,<-eS] at *;have lH:(hs++[p]).length=n+1:=by simp[hn]
 have hget:∀{i q},hs[i]?=some q->(hs++[p])[i]?=some q:=λ{i q} h=>by
  rw[jm (ip.mp h).1]; exact h
 refine⟨⟨nd1,λx=>?_,λq t hq x hx=>?_,λt ht=>?_⟩,q1,q2,λx hx xs=>q3 x ((mem0 x).mpr hx) xs⟩
 ·rw[lH,mem1,mem0,aS]
 ·by_cases e:p=q
  ·subst e;rw[jR pl] at hq;cases hq;by_cases xn:x=n
   ·rw[xn,kd,<-hn,jd (i4 _)]; simp
   ·refine hget (g.CD p _ hp x ?_);simp only[i9,jh] at hx ⊢;rcases hx with z | z | z | z
    ·exact .inl z
    ·exact absurd z xn
    ·exact .inr (.inl z)
    ·exact .inr (.inr z)
  ·rw[jF e] at hq;exact hget (g.CD q t hq x hx)
 ·rcases kT ht with w | w
  ·exact g.ne t w
  ·rw[w]; simp
theorem Gb.bal{ts:List (List Int)}{hs:List Nat}(g:Gb ts hs){p:Nat}{t1 t2:List Int}{s e X:Int}{f:Int->Rat}{c:Rat}(hp:ts[p]?=some (t1++s :: t2))(Xe:X≠e)(h:∀t∈ts.set p (t1++e :: s :: t2),(t.map f).sum+(if X∈t then c else 0)=0):
  ∀t∈ts,(t.map f).sum+(if s∈t then f e else 0)+(if X∈t then c else 0)=0:=λt ht=>by
 obtain⟨i,hi,rfl⟩:=ju ht;have gi:ts[i]?=some ts[i]:=ij hi;by_cases q:p=i
 ·subst q;have q2:ts[p]=t1++s :: t2:=by rw[gi] at hp; exact je hp
  have:=h _ (Ml (r':=t1++e :: s :: t2) hp)
  rw[Si] at this;have i1:(if X∈t1++e :: s :: t2 then c else 0)=(if X∈t1++s :: t2 then c else 0):=by
   have:X∈t1++e :: s :: t2↔X∈t1++s :: t2:=by simp[Xe]
   by_cases z:X∈t1++s :: t2
   ·rw[i5 z,i5 (this.mpr z)]
   ·rw[iz z,iz (λy=>z (this.mp y))]
  rw[i1] at this;rw[q2,i5 (show s∈t1++s :: t2 by simp)];exact this
 ·have ns:s∉ts[i]:=λz=>by
   have h1:=g.CD i _ gi s z;have h2:=g.CD p _ hp s (by simp);rw[h1] at h2;exact q (je h2).symm
  rw[iz ns]
  have:=h _ (iq (show(ts.set p (t1++e :: s :: t2))[i]?=some ts[i] by rw[jF q,gi]))
  grind
theorem Gn.Kf {ts:List (List Int)} {hs:List Nat} (g:Gn ts hs) {p1 p2:Nat} {t1 t2 u1 u2:List Int} {a b:Int} (aR:AD hs.length a) (kb:∃k,Ax (AL ts) k a=b)
  (h1:ts[p1]?=some (t1++AH a :: t2)) (h2:(ts.set p1 (t1++(hs.length:Int) :: AH a :: t2))[p2]?=some (u1++AH b :: u2)) :
  Gn ((ts.set p1 (t1++(hs.length:Int) :: AH a :: t2)).set p2 (u1++((hs.length:Int)+1) :: AH b :: u2)) (hs++[p1]++[p2]):=by
 have ev:=g.ev;have n4:=g.n4;have few:=g.few;have T:=g.FP;have bR:AD hs.length b:=by obtain⟨k,rfl⟩:=kb; exact D6 T.perm aR k
 obtain⟨B1,q1,q2,q3⟩:=g.gb.Ey h1;generalize hT1:ts.set p1 (t1++(hs.length:Int) :: AH a :: t2)=ts1 at *;have lT1:ts1.length=ts.length:=by rw[<-hT1]; simp
 have lh:(hs++[p1]).length=hs.length+1:=by simp
 have e1:(((hs++[p1]).length:Nat):Int)=(hs.length:Int)+1:=by rw[lh]; push_cast; rfl
 obtain⟨B2,r1,r2,r3⟩:=B1.Ey h2;rw[e1] at B2 r1 r2 r3;rw[lh] at r3;generalize hT2:ts1.set p2 (u1++((hs.length:Int)+1) :: AH b :: u2)=ts2 at *;have lT2:ts2.length=ts.length:=by rw[<-hT2]; simp[lT1]
 have lH:(hs++[p1]++[p2]).length=hs.length+2:=by simp
 have hget:∀{i q},hs[i]?=some q->(hs++[p1]++[p2])[i]?=some q:=λ{i q} h=>by
  rw[jU,jm (ip.mp h).1]; exact h
 have saR:=CI ev aR;have sbR:=CI ev bR;generalize hn:hs.length=n at *;have up:∀{x:Int},AD n x->AD (n+1) x:=λ{x} h=>⟨h.1,by have:=h.2; omega⟩
 have w1:AL ts2 ((n:Int)+1)=AL ts a:=by
  rw[BZ,Nk ev,r3 _ ⟨by omega,by omega⟩ (λe=>by have:=sbR.2; omega),q2,BZ]
 have w2:AL ts2 b=(n:Int)+1:=by rw[BZ,r1]
 have w3:∀x,AD n x->x≠a->x≠b->AL ts2 x=AL ts x:=λx hx xa xb=>by
  have:=CI ev hx
  rw[BZ,r3 _ (up this) (λe=>xb (HK e)),q3 _ this (λe=>xa (HK e)),BZ]
 have into:∀x,AD n x->AD n (AL ts x):=λx hx=>T.perm.into x hx
 have dz:Du (AL ts2) (n+2):=by
  have du0:=g.du;rw[hn] at du0;refine du0.Kf into (by omega) ev aR kb (λab=>?_) (λab=>?_) (λab=>?_) w2 w1 w3
  ·have sab:AH b≠AH a:=λe=>ab (HK e).symm
   rw[BZ,r3 _ (up saR) (λe=>sab e.symm),q1]
  ·have sab:AH b≠AH a:=λe=>ab (HK e).symm
   rw[BZ,Gx ev,r2,q3 _ sbR sab,BZ]
  ·subst ab;rw[BZ,Gx ev,r2,q1]
 have pz:Cm ts2 (n+2):=by
  have po0:=g.po;rw[hn] at po0;refine po0.Kf T aR kb (λab=>?_) (λab=>?_) (λab=>?_) w2 w1 w3 λf bal=>?_
  ·have sab:AH b≠AH a:=λe=>ab (HK e).symm
   rw[BZ,r3 _ (up saR) (λe=>sab e.symm),q1]
  ·have sab:AH b≠AH a:=λe=>ab (HK e).symm
   rw[BZ,Gx ev,r2,q3 _ sbR sab,BZ]
  ·subst ab;rw[BZ,Gx ev,r2,q1]
  ·have c1:=B1.bal (X:=-1) (f:=f) (c:=0) h2 (e:=(n:Int)+1) (by omega) (by
    rw[hT2];intro t ht
    have:=bal t ht
    split <;> grind)
   exact g.gb.bal (X:=AH b) (c:=f ((n:Int)+1)) h1 (λe=>by have:=sbR.2; omega) (by
    rw[hT1];intro t ht
    have:=c1 t ht
    split at this <;> split at this <;> grind)
 refine⟨by rw[lH]; omega,by rw[lH]; omega,by rw[lT2]; exact g.two,B2.nd,B2.mem,B2.CD,B2.ne,by rw[lT2,lH]; omega,⟨hget g.lo.1,hget g.lo.2⟩,λS S0 hS q hq=>?_,by rw[lH]; exact dz,by rw[lH]; exact pz⟩;exact g.CY S S0 (λk k1 x y hx hy=>hS k k1 x y (hget hx) (hget hy)) q (by omega)
theorem Gn.part{ts:List (List Int)}{hs:List Nat}(g:Gn ts hs){p r:Nat}{t:List Int}{pe:Int}(r1:1<=r)(er:pe=2*(r:Int)+1)(hp:ts[p]?=some t)(pm:pe∈t):
  Gn (ts.set p (t.map λx=>if x=pe then (hs.length:Int)+1 else x)++[[pe,(hs.length:Int)]]) ((hs++[ts.length]++[p]).set pe.toNat ts.length):=by
 obtain⟨A,B,eT,lA,eS⟩:=N9 hp;have pl:p<ts.length:=(ip.mp hp).1;have nd0:=g.nd;have mem0:=g.mem;have ev:=g.ev;have n4:=g.n4;have few:=g.few;have P:=g.FP.perm;have pet:pe∈ts.flatten:=jn.mpr ⟨t,iq hp,pm⟩;have peR:=(mem0 pe).mp pet;have hpe:=g.CD p t hp pe pm;generalize hn:hs.length=n at *;have pn:pe.toNat<n:=by have:=peR.2; omega
 have pt:pe.toNat=2*r+1:=by omega
 have em:((n:Nat):Int)+1∉ts.flatten:=λz=>by have:=(mem0 _).mp z; omega
 rw[eT] at nd0 em;obtain⟨nd1,mem1,q1,q2⟩:=cB nd0 pm em;rw[<-eT,<-eS] at *;generalize hT1:ts.set p (t.map λx=>if x=pe then (n:Int)+1 else x)=ts1 at *;have lT1:ts1.length=ts.length:=by rw[<-hT1]; simp
 have pe1:pe∉ts1.flatten:=λz=>by
  rcases(mem1 _).mp z with w | w
  ·exact w.2 rfl
  ·have:=peR.2; omega
 have n1:((n:Nat):Int)∉ts1.flatten:=λz=>by
  rcases(mem1 _).mp z with w | w
  ·have:=(mem0 _).mp w.1; omega
  ·omega
 obtain⟨nd2,w1,w2,w3⟩:=ZD nd1 pe1 n1 (λe=>by have:=peR.2; omega);generalize hT2:ts1++[[pe,(n:Int)]]=ts2 at *;have lT2:ts2.length=ts.length+1:=by rw[<-hT2]; simp[lT1]
 have lH:((hs++[ts.length]++[p]).set pe.toNat ts.length).length=n+2:=by simp[hn]
 have qR:=CI ev peR;have v1:AL ts2 (AH pe)=n:=by rw[BZ,Bp,w1]
 have v2:AL ts2 n=(if AL ts (AH pe)=pe then (n:Int)+1 else AL ts (AH pe)):=by
  rw[BZ,Gx ev,w3 _ ((mem1 _).mpr (.inr rfl)),q1,BZ,Bp]
 have v3:AL ts2 ((n:Int)+1)=pe:=by rw[BZ,Nk ev,w2]
 have v4:∀x,AD n x->x≠AH pe->AL ts2 x=(if AL ts x=pe then (n:Int)+1 else AL ts x):=λx hx xq=>by
  have ox:=CI ev hx;have xp:AH x≠pe:=λe=>xq (by rw[<-e,Bp])
  rw[BZ,w3 _ ((mem1 _).mpr (.inl ⟨(mem0 _).mpr ox,xp⟩)),q2 _ ((mem0 _).mpr ox) xp,BZ]
 have hnn:∀{x:Int},AD n x->x≠(n:Int):=λ{x} h e=>by have:=h.2; omega
 have du0:=g.du;rw[hn] at du0;have dz:Du (AL ts2) (n+2):=du0.part (λx hx=>P.into x hx) (by omega) qR peR v1 v2 v3 v4;have pz:Cm ts2 (n+2):=by
  have po0:=g.po;rw[hn] at po0;refine po0.part ev (λx hx=>P.into x hx) peR v1 v2 v3 v4 λf bal=>?_
  rw[<-hT2,<-hT1] at bal;have b1:=bal [pe,(n:Int)] (by simp);simp only[i8,kf,jy,lO] at b1;refine⟨by grind,λf0 u hu=>?_⟩;rcases QG (r':=t.map λx=>if x=pe then (n:Int)+1 else x) hp hu with e | e
  ·have:=bal _ (i9.mpr (.inl (Ml (r':=t.map λx=>if x=pe then (n:Int)+1 else x) hp)))
   rw[jH] at this;rw[e,<-this];refine Rx λx _=>?_
   show f x=f (if x=pe then (n:Int)+1 else x);by_cases z:x=pe
   ·rw[i5 z,f0,z]
   ·rw[iz z]
  ·exact bal u (i9.mpr (.inl e))
 have hget:∀{i q},hs[i]?=some q->i≠pe.toNat->((hs++[ts.length]++[p]).set pe.toNat ts.length)[i]?=some q:=λ{i q} h ne=>by
  rw[jF (λe=>ne e.symm),jU,jm (ip.mp h).1]; exact h
 have hN:((hs++[ts.length]++[p]).set pe.toNat ts.length)[n]?=some ts.length:=by
  rw[jF (by omega),jU,<-hn,jd (i4 _)]; simp
 have hN1:((hs++[ts.length]++[p]).set pe.toNat ts.length)[n+1]?=some p:=by
  rw[jF (by omega),<-hn,jd (by simp)]; simp
 have hP:((hs++[ts.length]++[p]).set pe.toNat ts.length)[pe.toNat]?=some ts.length:=by
  rw[jR (by simp[hn]; omega)]
 have two:=g.two;refine⟨by rw[lH]; omega,by rw[lH]; omega,by rw[lT2]; omega,nd2,λx=>?_,λi t' hi x hx=>?_,λt' ht'=>?_,by rw[lT2,lH]; omega,⟨hget g.lo.1 (by omega),hget g.lo.2 (by omega)⟩,λS S0 hS i hi=>?_,by rw[lH]; exact dz,by rw[lH]; exact pz⟩
 ·rw[lH,<-hT2,j3,i9,mem1,mem0];simp only[jx,oj,kg,jh,jP,kN,AD]
  have:=peR.1
  have:=peR.2
  omega
 ·rw[<-hT2] at hi;rcases jv i ts.length with il | il
  ·rw[jm (by omega),<-hT1] at hi;by_cases e:p=i
   ·subst e;rw[jR pl] at hi;cases hi;obtain⟨y,hy,rfl⟩:=i7.mp hx;by_cases yp:y=pe
    ·rw[i5 yp,show((n:Int)+1).toNat=n+1 by omega]; exact hN1
    ·rw[iz yp];have yR:=(mem0 y).mp (jn.mpr ⟨t,iq hp,hy⟩);exact hget (g.CD p t hp y hy) (λe=>yp (by have:=yR.1; have:=peR.1; omega))
   ·rw[jF e] at hi;have hx2:=g.CD i t' hi x hx;refine hget hx2 (λz=>?_);rw[z,hpe] at hx2;exact e (je hx2)
  ·have:i=ts.length:=by
    have:=(ip.mp hi).1
    simp[lT1] at this; omega
   subst this;rw[jd (by omega),lT1] at hi;simp at hi;subst hi;simp only[jh,jP,kN] at hx;rcases hx with rfl | rfl
   ·exact hP
   ·rw[kd]; exact hN
 ·rw[<-hT2,<-hT1] at ht';rcases i9.mp ht' with z | z
  ·rcases kT z with w | w
   ·exact g.ne t' w
   ·rw[w];intro e;rw[mh] at e;rw[e] at pm;cases pm
  ·rw[jA.mp z]; simp
 ·have sP:S ts.length↔S p:=hS (n / 2) (by omega) _ _ (by rw[show 2*(n / 2)=n by omega]; exact hN) (by rw[show 2*(n / 2)+1=n+1 by omega]; exact hN1);have old:=g.CY S S0 (λk k1 x y hx hy=>by
   by_cases e:2*k+1=pe.toNat
   ·have ey:y=p:=by rw[e,hpe] at hy; exact(je hy).symm
    subst ey;exact(hS k k1 x ts.length (hget hx (by omega)) (by rw[e]; exact hP)).trans sP
   ·exact hS k k1 x y (hget hx (by omega)) (hget hy e))
  rcases jv i ts.length with il | il
  ·exact old i il
  ·have:i=ts.length:=by rw[lT2] at hi; omega
   rw[this];exact sP.mpr (old p pl)
theorem ZJ(ts:List (List Int)){n:Nat}(hn:n=4)(p0:pr ts 0=2)(p1:pr ts 1=3)(p2:pr ts 2=0)(p3:pr ts 3=1):Du (AL ts) n:=by
 subst hn;have n0:AL ts 0=3:=p1;have n1:AL ts 1=2:=p0;have n2:AL ts 2=1:=p3;have n3:AL ts 3=0:=p2;have cs:∀x:Int,AD 4 x->x=0\/x=1\/x=2\/x=3:=λx h=>by obtain⟨h1,h2⟩:=h; omega
 refine⟨⟨λx=>x=0\/x=3,λx hx=>?_,.inl rfl,by decide⟩,λS hS hr h1 x hx=>?_⟩
 ·rcases cs x hx with rfl | rfl | rfl | rfl
  ·rw[n0]; decide
  ·rw[n1]; decide
  ·rw[n2]; decide
  ·rw[n3]; decide
 ·have a1:=hS 1 ⟨by decide,by decide⟩;have a3:=hS 3 ⟨by decide,by decide⟩;have r:=hr 1 (by decide) (by decide);rw[n1] at a1;rw[n3] at a3;have s2:=a1.mp h1;have s3:S 3:=r.mp s2;rcases cs x hx with rfl | rfl | rfl | rfl
  ·exact a3.mp s3
  ·exact h1
  ·exact s2
  ·exact s3
theorem GN(ρ:Int->Int):∀R:List (List Int),(R.map λc=>c.map ρ).flatten=R.flatten.map ρ
 | []=>rfl
 | c :: R=>by rw[i8,jx,jx,ji,GN ρ R]
theorem JN{ρ:Int->Int}:∀{l:List Int},l.Nodup->(∀x∈l,∀y∈l,ρ x=ρ y->x=y)->(l.map ρ).Nodup
 | [],_,_=>by simp
 | a :: l,nd,inj=>by
  rw[jV] at nd;rw[i8,jV];refine⟨λz=>?_,JN nd.2 λx hx y hy=>inj x (by simp[hx]) y (by simp[hy])⟩;obtain⟨b,hb,e⟩:=i7.mp z;exact nd.1 (inj b (by simp[hb]) a (by simp) e ▸ hb)
theorem OM{ts:List (List Int)}{ρ:Int->Int}(nd:ts.flatten.Nodup)(inj:∀x∈ts.flatten,∀y∈ts.flatten,ρ x=ρ y->x=y):(ts.map λt=>t.map ρ).flatten.Nodup/\∀x∈ts.flatten,pr (ts.map λt=>t.map ρ) (ρ x)=ρ (pr ts x):=by
 have nd':(ts.map λt=>t.map ρ).flatten.Nodup:=by rw[GN]; exact JN nd inj
 refine⟨nd',λx hx=>DZ nd' ?_⟩;have m:=GV nd hx;have row:∀t:List Int,BG (t.map ρ)=(BG t).map λp=>(ρ p.1,ρ p.2):=λt=>by
  rw[Em,Em];cases t with
  | nil=>rfl
  | cons a l =>
   rw[<-Lu];congr 1;rw[jK,jK,o9,mF]; rfl
 unfold Az at m ⊢;obtain⟨r,hr,hm⟩:=jn.mp m;obtain⟨t,ht,rfl⟩:=i7.mp hr;refine jn.mpr ⟨BG (t.map ρ),i7.mpr ⟨t.map ρ,i7.mpr ⟨t,ht,rfl⟩,rfl⟩,?_⟩;rw[row];exact i7.mpr ⟨_,hm,rfl⟩
def Cv(r r':List Int):Prop:=∃l m,r=l++m/\r'=m++l
theorem Qd{r r':List Int}(h:Cv r r'):∀p∈BG r,p∈BG r':=by
 obtain⟨l,m,rfl,rfl⟩:=h;intro p hp;rw[Em] at hp ⊢;rw[Ll] at hp ⊢;cases l with
 | nil=>simpa [cp] using hp
 | cons a l =>
  cases m with
  | nil=>simpa [cp] using hp
  | cons b m =>
   have e1:((a :: l)++(b :: m)).getLastD 0=(b :: m).getLastD 0:=by rw[jK,jK,mY,mF]; rfl
   have e2:((b :: m)++(a :: l)).getLastD 0=(a :: l).getLastD 0:=by rw[jK,jK,mY,mF]; rfl
   have e3:∀(c:Int) (k:List Int) (y z:Int),(c :: k).getLastD y=(c :: k).getLastD z:=λc k y z=>by cases k <;> rfl
   rw[e1] at hp;rw[e2];rw[i9] at hp ⊢;rw[e3 b m _ 0,e3 a l _ 0] at *;rw[e3 a l _ 0] at hp;exact hp.symm
theorem Cv.perm{r r':List Int}(h:Cv r r'):List.Perm r r':=by
 obtain⟨l,m,rfl,rfl⟩:=h;exact List.perm_append_comm
theorem LG:∀{ts us:List (List Int)},ts.length=us.length->(∀(i:Nat) (t u:List Int),ts[i]?=some t->us[i]?=some u->Cv t u)->List.Perm ts.flatten us.flatten
 | [],[],_,_=>qf _
 | t :: ts,u :: us,h,g=>by
  rw[jx,jx];exact(g 0 t u rfl rfl).perm.append (LG (by simpa using h) λi a b ha hb=>g (i+1) a b ha hb)
theorem Nv{ts us:List (List Int)}(nd:ts.flatten.Nodup)(hl:ts.length=us.length)(g:∀(i:Nat) (t u:List Int),ts[i]?=some t->us[i]?=some u->Cv t u):us.flatten.Nodup/\∀x∈ts.flatten,pr us x=pr ts x:=by
 have p:=LG hl g;have nd':=p.nodup_iff.mp nd;refine⟨nd',λx hx=>DZ nd' ?_⟩;have m:=GV nd hx;unfold Az at m ⊢;obtain⟨r,hr,hm⟩:=jn.mp m;obtain⟨t,ht,rfl⟩:=i7.mp hr;obtain⟨i,hi,e⟩:=ju ht;have hu:i<us.length:=by omega
 exact jn.mpr ⟨BG us[i],i7.mpr ⟨_,ka hu,rfl⟩,Qd (g i t us[i] (by rw[ij hi,e]) (ij hu)) _ hm⟩
end
end Mth
namespace Mth
structure Ef(φ:Int->Int)(m:Nat):Prop where
 apart:∃S:Int->Prop,(∀x,AD (2*m+2) x->(S x↔S (φ x)))/\S (2*(m:Int))/\¬S (2*(m:Int)+1)
 CY:∀S:Int->Prop,(∀x,AD (2*m+2) x->(S x↔S (φ x)))->(∀k:Nat,k<m->(S (2*(k:Int))↔S (2*(k:Int)+1)))->S (2*(m:Int)+1)->∀x,AD (2*m+2) x->S x
theorem dP {φ ψ ρ:Int->Int} {m:Nat} (D:Du φ (2*m+2)) (into:∀x,AD (2*m+2) x->AD (2*m+2) (φ x)) (rin:∀x,AD (2*m+2) x->AD (2*m+2) (ρ x)) (rinv:∃σ:Int->Int,∀x,AD (2*m+2) x->AD (2*m+2) (σ x)/\ρ (σ x)=x) (rinj:∀x y,AD (2*m+2) x->AD (2*m+2) y->ρ x=ρ y->x=y)
  (r0:ρ 0=2*(m:Int)) (roth:∀x,AD (2*m+2) x->AH (ρ x)=ρ (AH x)) (h:∀x,AD (2*m+2) x->ψ (ρ x)=ρ (φ x)):Ef ψ m:=by
 obtain⟨σ,hσ⟩:=rinv;have i0:AD (2*m+2) 0:=⟨by omega,by push_cast; omega⟩;have i1:AD (2*m+2) 1:=⟨by omega,by push_cast; omega⟩;have e1:ρ 1=2*(m:Int)+1:=by
  have:=roth 0 i0
  rw[r0,show AH 0=1 from rfl] at this;rw[<-this];unfold AH;rw[i5 (by omega)]
 have sr:∀x,AD (2*m+2) x->σ (ρ x)=x:=λx hx=>rinj _ _ (hσ _ (rin x hx)).1 hx (hσ _ (rin x hx)).2
 obtain⟨S,s1,s2,s3⟩:=D.apart;refine⟨⟨λy=>S (σ y),λy hy=>?_,?_,?_⟩,λS hS hr h0 y hy=>?_⟩
 ·obtain⟨a,b⟩:=hσ y hy;have e:σ (ψ y)=φ (σ y):=by
   have:=h _ a
   rw[b] at this;rw[this,sr _ (into _ a)]
  show S (σ y)↔S (σ (ψ y));rw[e];exact s1 _ a
 ·show S (σ (2*(m:Int)));rw[<-r0,sr 0 i0];exact s2
 ·show ¬S (σ (2*(m:Int)+1));rw[<-e1,sr 1 i1];exact s3
 ·obtain⟨a,b⟩:=hσ y hy
  have:=D.CY (λx=>S (ρ x)) (λx hx=>by
   have:=hS _ (rin x hx)
   rw[h x hx] at this;exact this) (λk k1 k2=>by
   have ik:AD (2*m+2) (2*(k:Int)):=⟨by omega,by push_cast; omega⟩;have ro:=roth _ ik;rw[show AH (2*(k:Int))=2*(k:Int)+1 by unfold AH; rw[i5 (by omega)]] at ro;have n0:ρ (2*(k:Int))≠2*(m:Int):=λz=>by have:=rinj _ _ ik i0 (z.trans r0.symm); omega
   have n1:ρ (2*(k:Int))≠2*(m:Int)+1:=λz=>by have:=rinj _ _ ik i1 (z.trans e1.symm); omega
   obtain⟨y0,y1⟩:=rin _ ik;show S (ρ (2*(k:Int)))↔S (ρ (2*(k:Int)+1));rw[<-ro];generalize ρ (2*(k:Int))=z at *;have key:=hr (z.toNat / 2) (by omega);unfold AH;by_cases e:z % 2=0
   ·rw[i5 e];rw[show 2*((z.toNat / 2:Nat):Int)=z by omega] at key;exact key
   ·rw[iz e];rw[show 2*((z.toNat / 2:Nat):Int)=z-1 by omega,show z-1+1=z by omega] at key;exact key.symm) (by show S (ρ 1); rw[e1]; exact h0) _ a
  rw[<-b];exact this
def BL(m:Nat)(x:Int):Int:=if x / 2=(m:Int) then AH x else x
theorem OC{m:Nat}{x:Int}(h:AD (2*m+2) x):AD (2*m+2) (BL m x):=by
 unfold BL;split
 ·exact CI (by omega) h
 ·exact h
theorem IB(m:Nat)(x:Int):BL m (BL m x)=x:=by
 unfold BL;by_cases e:x / 2=(m:Int)
 ·rw[i5 e,i5 (by unfold AH; split <;> omega),Bp]
 ·rw[iz e,iz e]
theorem Np(m:Nat)(x:Int):BL m (AH x)=AH (BL m x):=by
 unfold BL
 have:AH x / 2=x / 2:=by unfold AH; split <;> omega
 rw[this];split <;> rfl
theorem Tj{ts:List (List Int)}{x y:Int}(h:(x,y)∈Az ts):∃t∈ts,∃k,k<t.length/\t[k]?=some x/\t[if k=0 then t.length-1 else k-1]?=some y:=by
 obtain⟨r,hr,hx⟩:=jn.mp h;obtain⟨t,ht,rfl⟩:=i7.mp hr;obtain⟨k,hk,e⟩:=i7.mp hx;have hk':=jw.mp hk;obtain⟨e1,e2⟩:=oN e;refine⟨t,ht,k,hk',?_,?_⟩
 ·rw[<-e1,ir,ij hk']; rfl
 ·unfold EV at e2
  have:(if k=0 then t.length-1 else k-1)<t.length:=by split <;> omega
  rw[<-e2,ir,ij this]; rfl
section
variable {n:Nat} {us:List (List Int)} (T:B9 n us)
include T
theorem Yg{x:Int}(hx:AD n x):AD n (pr (Am (AL us) n) x)/\AL us (pr (Am (AL us) n) x)=x:=by
 have P:=T.perm;have hm:x∈(Am (AL us) n).flatten:=(EG P).mpr hx;obtain⟨r,hr,k,hk,h1,h2⟩:=Tj (GV (Gz P) hm);obtain⟨i1,i2,_⟩:=HE P hr;rw[i2] at h1;obtain⟨y,hy,h3,h4⟩:=XI P i1 h1;rw[<-i2] at h3;rw[h2] at h3;cases h3;exact⟨(EG P).mp (jn.mpr ⟨r,hr,by rw[i2]; exact hy⟩),h4⟩
theorem X0{m:Nat}(hn:n=2*m+2){W:List (List Int)}(pw:W.Perm ((Am (AL us) n).map λr=>r.map (BL m)))(prp:∀{x:Int},x∈((Am (AL us) n).map λr=>r.map (BL m)).flatten->pr W x=pr ((Am (AL us) n).map λr=>r.map (BL m)) x):
  B9 n W/\∀y,AD n y->AL W (AH (BL m (pr us y)))=AH (BL m y):=by
 subst hn;have P:=T.perm;have inj:∀x y:Int,BL m x=BL m y->x=y:=λx y e=>by rw[<-IB m x,e,IB]
 obtain⟨nd1,pm⟩:=OM (ts:=Am (AL us) (2*m+2)) (ρ:=BL m) (Gz P) (λx _ y _=>inj x y);have pf:=pw.flatten;have mem1:∀x,x∈W.flatten↔AD (2*m+2) x:=λx=>by
  rw[pf.mem_iff,GN,i7];constructor
  ·rintro⟨y,hy,rfl⟩;exact OC ((EG P).mp hy)
  ·intro hx;exact⟨BL m x,(EG P).mpr (OC hx),IB m x⟩
 refine⟨⟨pf.nodup_iff.mpr nd1,mem1,by omega⟩,λy hy=>?_⟩;have hz:AD (2*m+2) (pr us y):=by
  have:=P.into _ (CI T.Eu hy)
  rw[BZ,Bp] at this;exact this
 have hzm:pr us y∈(Am (AL us) (2*m+2)).flatten:=(EG P).mpr hz;obtain⟨a1,a2⟩:=Yg T hz;have e1:pr (Am (AL us) (2*m+2)) (pr us y)=AH y:=P.inj _ _ a1 (CI T.Eu hy) (by rw[a2,BZ,Bp]);rw[BZ,Bp,prp (by rw[GN]; exact i7.mpr ⟨_,hzm,rfl⟩),pm _ hzm,e1,Np]
end
end Mth
namespace Mth
structure MY(us:List (List Int))(m:Nat):Prop where
 du:Ef (AL us) m
 po:Cm us (2*m+2)
theorem aG {ts us:List (List Int)} {ρ:Int->Int} {n:Nat} (D:Cm ts n) (into:∀x,AD n x->AD n (AL ts x)) (ev:n % 2=0) (rin:∀x,AD n x->AD n (ρ x)) (rinv:∃σ:Int->Int,∀x,AD n x->AD n (σ x)/\ρ (σ x)=x) (rinj:∀x y,AD n x->AD n y->ρ x=ρ y->x=y)
  (roth:∀x,AD n x->AH (ρ x)=ρ (AH x)) (h:∀x,AD n x->AL us (ρ x)=ρ (AL ts x)) (hs:∀f:Int->Rat,(∀u∈us,(u.map f).sum=0)->∀t∈ts,(t.map λx=>f (ρ x)).sum=0):Cm us n:=λf anti bal=>by
 obtain⟨σ,hσ⟩:=rinv;obtain⟨p,i1,d1⟩:=D (λx=>f (ρ x)) (λx hx=>by
  show f (ρ (AH x))=- f (ρ x);rw[<-roth x hx]; exact anti _ (rin x hx)) (hs f bal)
 have back:∀x,AD n x->σ (ρ x)=x:=λx hx=>rinj _ _ (hσ _ (rin x hx)).1 hx (hσ _ (rin x hx)).2
 refine⟨λy=>p (σ y),λy hy=>?_,λy hy=>?_⟩
 ·obtain⟨s1,s2⟩:=hσ y hy;show p (σ (AL us y))=p (σ y)
  have:=h _ s1
  rw[s2] at this;rw[this,back _ (into _ s1)];exact i1 _ s1
 ·obtain⟨s1,s2⟩:=hσ y hy;show p (σ y)-p (σ (AH y))=f y;have e:σ (AH y)=AH (σ y):=by
   have:=roth _ s1
   rw[s2] at this;rw[this,back _ (CI ev s1)]
  have:=d1 _ s1
  rw[e,this,s2]
end Mth
namespace My
open PySem L2 Mth
theorem AZ{H:Hp}{p:Addr}(h:H p=none)(o:HO):AN H (AJ H p o):=λb u q=>by rw[Ad (BW q h)]; exact q
def Bs(x:Addr)(H H':Hp):Prop:=∀b o,b≠x->H b=some o->H' b=some o
theorem Bs.refl(x:Addr)(H:Hp):Bs x H H:=λ_ _ _ h=>h
theorem Bs.E1{x:Addr}{H H':Hp}(h:Bs x H H')(o:HO):Bs x H (AJ H' x o):=λb u n q=>by rw[Ad n]; exact h b u n q
theorem Bs.trans{x:Addr}{H H1 H2:Hp}(a:Bs x H H1)(b:Bs x H1 H2):Bs x H H2:=λc o n h=>b c o n (a c o n h)
theorem _root_.L2.AN.b{x:Addr}{H H':Hp}(h:AN H H'):Bs x H H':=λb o _ q=>h b o q
theorem Bs.same{x:Addr}{H0 H H':Hp}(h:Bs x H H')(s:AN H0 H)(n:H0 x=none):AN H0 H':=λb o q=>h b o (BW q n) (s b o q)
theorem Bs.Aq{x:Addr}{H:Hp}{o:HO}:Bs x H (AJ H x o):=(Bs.refl x H).E1 o
theorem _root_.L2.AN.up{x:Addr}{H0 H:Hp}(s:AN H0 H)(n:H0 x=none)(o:HO):AN H0 (AJ H x o):=Bs.Aq.same s n
theorem HQ{c A B:Prop}[Decidable c](hc:¬c)(h:A):if (!decide c)=true then A else B:=by
 rw[kz hc];exact Ed h
theorem De{c A B:Prop}[Decidable c](hc:c)(h:A):if decide c=true then A else B:=by
 rw[kc hc];exact Ed h
theorem DP{c A B:Prop}[Decidable c](hc:¬c)(h:B):if decide c=true then A else B:=by
 rw[kz hc];exact Bh h
theorem iv{a b:Int}(h:a=b):V.int a=V.int b:=by rw[h]
theorem EE{a b:Int}(h:a≠b):¬V.int a=V.int b:=λz=>h (V.int.inj z)
theorem Cw{n:Nat}(h:n<=100000):n<sizeLine:=by rw[kn]; omega
abbrev BB(L:List (Int×Int)):List (AY×V):=L.map λp=>(Sum.inl p.1,V.int p.2)
theorem Nr(e:Int):∀L:List (Int×Int),Cj (BB L) (Sum.inl e:AY)=(lk L e).map V.int
 | []=>rfl
 | p :: L=>by
  show Cj ((Sum.inl p.1,V.int p.2) :: BB L) (Sum.inl e:AY)=_;by_cases h:p.1=e
  ·rw[Iy (p:=((Sum.inl p.1:AY),V.int p.2)) (by rw[h])];unfold lk;rw[n9 (by simpa using h)];rfl
  ·rw[Hu (p:=((Sum.inl p.1:AY),V.int p.2)) (λz=>h (pX z)),Nr e L];unfold lk;rw[n8 (by simpa using h)]
theorem Ny{kvs:List (AY×V)}{k:AY}{v:V}(h:Cj kvs k=none):CL kvs k v=kvs++[(k,v)]:=by
 unfold CL;rw[NJ,h];rfl
theorem HI{L:List (Int×Int)}{e v:Int}(h:e∉L.map (·.1)):CL (BB L) (Sum.inl e:AY) (.int v)=BB (L++[(e,v)]):=by
 rw[Ny (by rw[Nr,bD h]; rfl)];simp
abbrev Ji(l:List Int):List (AY×V):=l.map λe=>(Sum.inl e,V.bl true)
theorem NU(e:Int):∀l:List Int,Cj (Ji l) (Sum.inl e:AY)=if e∈l then some (V.bl true) else none
 | []=>rfl
 | p :: L=>by
  show Cj ((Sum.inl p,V.bl true) :: Ji L) (Sum.inl e:AY)=_;by_cases h:p=e
  ·rw[Iy (p:=((Sum.inl p:AY),V.bl true)) (by rw[h]),i5 (by simp[h])]
  ·rw[Hu (p:=((Sum.inl p:AY),V.bl true)) (λz=>h (pX z)),NU e L]
   have:e∈p :: L↔e∈L:=by simp[kC h]
   by_cases q:e∈L
   ·rw[i5 q,i5 (this.mpr q)]
   ·rw[iz q,iz λz=>q (this.mp z)]
theorem Zw{l:List Int}{e:Int}(h:e∉l):CL (Ji l) (Sum.inl e:AY) (.bl true)=Ji (l++[e]):=by
 rw[Ny (by rw[NU,iz h])];simp
theorem IE{H:Hp}{d:Addr}{L:List (Int×Int)}{e v:Int}(h:H d=some (.dK (BB L)))(q:lk L e=some v):DL H d (.int e) (some (.int v)):=by
 have:=DL.k (k:=Sum.inl e) h
 rw[Nr,q] at this;exact this
def Hn(H:Hp)(a:Addr)(bs:List Addr)(ts:List (List Int)):Prop :=
 H a=some (.AG (bs.map V.ref))/\bs.length=ts.length/\∀(i:Nat) (b:Addr) (row:List Int),bs[i]?=some b->ts[i]?=some row->H b=some (.AG (row.map V.int))
theorem Hn.keep{H H':Hp}{a:Addr}{bs:List Addr}{ts:List (List Int)}(h:Hn H a bs ts)(s:AN H H'):Hn H' a bs ts :=
 ⟨s _ _ h.1,h.2.1,λi b row e1 e2=>s _ _ (h.2.2 i b row e1 e2)⟩
theorem Uc{bs:List Addr}{ts:List (List Int)}{i:Nat}{x:V}(hl:bs.length=ts.length)(h:(bs.map V.ref)[i]?=some x):∃b row,x=.ref b/\bs[i]?=some b/\ts[i]?=some row:=by
 rw[iy] at h;cases e:bs[i]? with
 | none=>rw[e] at h; cases h
 | some b =>
  rw[e] at h;have hi:i<bs.length:=(ip.mp e).1;exact⟨b,ts[i]'(by omega),(je h).symm,rfl,ij (by omega)⟩
theorem GS{row:List Int}{i:Nat}{x:V}(h:(row.map V.int)[i]?=some x):∃e,x=.int e/\row[i]?=some e:=by
 rw[iy] at h;cases q:row[i]? with
 | none=>rw[q] at h; cases h
 | some e =>
  rw[q] at h;exact⟨e,(je h).symm,rfl⟩
theorem OT{row:List Int}{i:Nat}{e:Int}(h:row[i]?=some e):(row.map V.int)[i]?=some (.int e):=by rw[iy,h]; rfl
theorem SI{row:List Int}{j:Nat}(h:j<row.length):Bt (row.map V.int) ((j:Int)-1)=some (.int (EV row j)):=by
 have g:∀i,i<row.length->(row.map V.int)[i]?=some (.int (row.getD i 0)):=λi hi=>by
  rw[iy,ij hi,ir,ij hi];rfl
 unfold EV;cases j with
 | zero =>
  rw[i5 rfl];have hl:(row.map V.int).length=row.length:=ig ..;have e:EF (row.map V.int).length (((0:Nat):Int)-1)=some (row.length-1):=by
   unfold EF;rw[hl,iz (by decide),i5 (by omega)];congr 1;omega
  unfold Bt;rw[e];exact g _ (by omega)
 | succ j =>
  rw[iz (by omega),show(((j+1:Nat):Int)-1)=((j:Nat):Int) by omega];exact BX (g j (by omega))
theorem LK{ts:List (List Int)}(nd:ts.flatten.Nodup){i j:Nat}{row:List Int}{e:Int}(h1:ts[i]?=some row)(h2:row[j]?=some e):e∉(ts.take i).flatten++row.take j:=by
 obtain⟨hi,q1⟩:=ip.mp h1;obtain⟨hj,q2⟩:=ip.mp h2;have e1:ts=ts.take i++row :: ts.drop (i+1):=by rw[<-q1,kP,kq]
 have e2:row=row.take j++e :: row.drop (j+1):=by rw[<-q2,kP,kq]
 rw[e1,j3,jx,jY] at nd;obtain⟨_,n2,n3⟩:=nd;intro z;rcases i9.mp z with z | z
 ·exact n3 e z e (kM _ (by rw[e2]; simp)) rfl
 ·rw[jY] at n2;have n4:=n2.1;rw[e2,jY] at n4;exact n4.2.2 e z e (by simp) rfl
theorem Hm(x y z:V):Bt [x,y,z] 0=some x:=BX (j:=0) rfl
theorem EA(x y z:V):Bt [x,y,z] 1=some y:=BX (j:=1) rfl
theorem C1(x y z:V):Bt [x,y,z] 2=some z:=BX (j:=2) rfl
theorem BE{x y:V}:Bt [x,y] 0=some x:=BX (j:=0) rfl
theorem A3{x y:V}:Bt [x,y] 1=some y:=BX (j:=1) rfl
theorem Jr(xs:List V){j:Nat}(h:j<=xs.length):Cu xs none (some (j:Int))=xs.take j:=by
 unfold Cu;have e1:HT.Ag xs.length 0 none=0:=rfl;have e2:HT.Ag xs.length xs.length (some (j:Int))=j:=by simp[HT.Ag]; rw[iz (by omega)]; omega
 rw[e1,e2]; simp
theorem Hy(xs:List V){j:Nat}(h:j<=xs.length):Cu xs (some (j:Int)) none=xs.drop j:=by
 unfold Cu;have e1:HT.Ag xs.length 0 (some (j:Int))=j:=by simp[HT.Ag]; rw[iz (by omega)]; omega
 have e2:HT.Ag xs.length xs.length none=xs.length:=rfl;rw[e1,e2,jf]; simp
theorem FQ{n:Nat}(h:n<=100000):n<=sizeLine:=pE (Cw h)
def Ba(H:Hp)(b:Addr)(ns:List Int):Prop:=H b=some (.AG (ns.map V.int))
theorem C4:Mo Ba:=λs h=>s _ _ h
theorem Ba.BQ{H:Hp}{a b:Addr}{t:List Int}{ys:List V}(h:Ba H b t)(e:H a=some (.AF ys)):Ba (BQ H a) b t:=GW h λz=>by rw[z] at h; unfold Ba at h; rw[e] at h; cases h
abbrev Be(hs:List Nat):List V:=hs.map λx:Nat=>V.int (x:Int)
theorem cK{hs:List Nat}{i p:Nat}(h:hs[i]?=some p):Bt (Be hs) ((i:Nat):Int)=some (.int (p:Int)):=BX (by rw[iy,h]; rfl)
theorem Jx{n j:Nat}(h:j<n):EF n ((j:Nat):Int)=some j:=by unfold EF; rw[i5 (by omega),i5 (by omega)]; simp
theorem az{i:Nat}{v:V}{σ:L2.St}{H:Hp}{k:L2.St->Hp->Prop}(h:k (σ.set i (some v)) H):BU i v σ H k:=h
theorem dS{D:DQ}{f:L2.St->Hp->Prop}{σ:L2.St}{H:Hp}(h:f σ H):({ D with nx:=f }:DQ).nx σ H:=h
theorem Rv{t u:L2.TS}{D:DQ}{σ:L2.St}{H:Hp}{G:L2.St->Hp->Prop}(m:(∀σ H,G σ H->u D σ H)->t { D with nx:=u D } σ H)(r:∀σ H,G σ H->u D σ H):Kr t u D σ H:=m r
theorem Ka{i:Int}{n:Nat}(h:i.natAbs<2 ^ n)(hn:n<=8000):BY i:=jL h (jX (by decide) hn)
abbrev iI(K:PySem.W.Frag)(H:Hp)(a:Addr)(ns:List Int):Prop:=AQ K H a (ns.map V.int)/\ns.length<=63
end My
namespace My
open PySem
def top(i:Nat):Stmt:=PySem.Challenge.pw_currentfloor_k37_whole_other_of_other.main.body.getD i (.Pass ⟨0,0,0,0⟩)
abbrev sCommon:Stmt:=top 5
abbrev sFraction:Stmt:=top 6
abbrev sPlus:Stmt:=top 7
abbrev sMinus:Stmt:=top 8
abbrev sTimes:Stmt:=top 9
abbrev sOver:Stmt:=top 10
abbrev s_less:Stmt:=top 11
abbrev sCBot:Stmt:=top 12
abbrev sWholes:Stmt:=top 13
abbrev sOther:Stmt:=top 15
abbrev sAhead:Stmt:=top 16
abbrev sRingFrom:Stmt:=top 17
abbrev sRings:Stmt:=top 18
abbrev sLandOf:Stmt:=top 19
abbrev s_begun_least:Stmt:=top 21
abbrev s_told_turns:Stmt:=top 22
abbrev s_lands_placed:Stmt:=top 24
abbrev s_places_of:Stmt:=top 25
abbrev s_turn_of:Stmt:=top 26
abbrev s_other_net:Stmt:=top 27
abbrev sLed:Stmt:=top 29
abbrev sSweptRow:Stmt:=top 30
abbrev sSwept:Stmt:=top 31
abbrev sBack:Stmt:=top 32
abbrev sAnswer:Stmt:=top 33
abbrev sEaseTable:Stmt:=top 35
abbrev sPoleless:Stmt:=top 36
abbrev sHeights:Stmt:=top 37
abbrev sFallOf:Stmt:=top 38
abbrev sRunBy:Stmt:=top 39
abbrev s_land_sides:Stmt:=top 41
abbrev s_rising:Stmt:=top 42
abbrev s_laid:Stmt:=top 43
abbrev s_law_numbers:Stmt:=top 45
abbrev sWhole:Stmt:=top 46
abbrev s_law_row:Stmt:=top 47
abbrev s_law_divisor:Stmt:=top 48
abbrev sLFrac:Stmt:=top 49
abbrev sLEase:Stmt:=top 50
abbrev s_law_ahead:Stmt:=top 51
abbrev s_law_land:Stmt:=top 52
abbrev s_law_corner:Stmt:=top 53
abbrev sGrow:Stmt:=top 54
abbrev s_law_order:Stmt:=top 55
abbrev s_law_finished:Stmt:=top 56
abbrev sNext:Stmt:=top 57
abbrev s_law_grown:Stmt:=top 58
abbrev s_law_begun:Stmt:=top 59
abbrev s_law_is_net:Stmt:=top 60
abbrev s_law_is_fraction:Stmt:=top 61
abbrev s_law_fractions_are:Stmt:=top 62
abbrev s_law_is_floor:Stmt:=top 63
abbrev s_law_minus:Stmt:=top 64
abbrev s_law_fall:Stmt:=top 65
abbrev s_law_exchanged:Stmt:=top 66
abbrev s_law_half_turn:Stmt:=top 67
abbrev sLaw:Stmt:=top 68
open L2 Mth
section
variable {P:Program} {w:World} {K:PySem.W.Frag} {mg:Str->Option Value} {base:Heap}
inductive Ui(vs:List V)(H:Hp)(Q:VK):Prop
 | mk (a b:Int) (h_0:vs=[.int a,.int b]) (h_1:Q (.int (Int.gcd a b:Int)) H):Ui vs H Q
def Ov:Sp:=λvs H Q _=>Ui vs H Q
theorem Sn{x:Int}{n:Nat}(h:Int.gcd x 0=n):(if x<0 then -x else x)=(n:Int):=by
 rw[<-h,Int.gcd_zero_right];split <;> omega
theorem MP:A2 ["one","other","rest"] ["one","other"] (Ap sCommon):=A8
theorem X6{f:Addr}{fd:FuncData}(F:Ar K "common_part" "common_part" sCommon f fd)(ma:mg "abs" = none):Ao P w K mg base Ay 1 f fd ["one","other"] Ov:=by
 refine F.A9 MP λcdv A outer s H vs Q E hr h=>?_
 obtain⟨a,b,rfl,q⟩:=h;refine⟨_,AR (Hx jt (BN Dd (pv 1) AE (BH _))
   (AR (AX (i:=2) MP.nd rfl (Or.inl rfl) (AM Z4 (pv 0) (pv 1)))
   (AR (AX (i:=0) MP.nd rfl (Or.inl rfl) (pv 1))
   (AV (AX (i:=1) MP.nd rfl (Or.inl rfl) (pv 2))))))
  (AV (An (Au LV (by rfl) ma PyProof.Rows.boot_abs (AA (pv 0) AB)))),?_⟩
 refine Hv (λσ H2=>∃x y r,σ=[some (.int x),some (.int y),r]/\H2=H/\Int.gcd x y=Int.gcd a b) (λσ _=>match σ with | [_,some (.int y),_]=>y.natAbs | _=>0) ⟨a,b,none,rfl,rfl,rfl⟩ ?_ ?_
 ·rintro σ H2 ⟨x,y,r,rfl,rfl,g⟩;refine⟨_,rfl,rfl,_,rfl,?_⟩;by_cases hy:y=0
  ·refine D7 (iv hy) ?_;subst hy;refine⟨_,rfl,x,rfl,?_⟩;rw[Sn g];exact q
  ·refine HQ (EE hy) ?_;exact⟨_,rfl,_,rfl,_,_,rfl,rfl,hy,_,rfl,_,rfl,⟨y,x.fmod y,some (.int (x.fmod y)),rfl,rfl,(Rf x y).trans g⟩,aU x y hy⟩
 ·rintro σ H2 Q1 Q2 hq ⟨v,e,sc,b,eb,z⟩;exact⟨v,e,sc,b,eb,hq _ _ z⟩
theorem NI{X:Cx}{st:Stmt}:PS X st (λ_ _ _=>False):=by
 intro pins s σ H D I h;exact False.elim h
inductive Sl(C:Addr)(vs:List V)(H:Hp)(Q:VK)(E:XK):Prop
 | mk (t b:Int) (h_0:vs=[.int t,.int b]) (h_1:BY b) (h_2:(b=0->False)) (h_3:(b≠0->∀p,H p=none->Q (.ref p) (AJ H p (.AG [.int (BR t b).1,.int (BR t b).2])))):Sl C vs H Q E
def IL(C:Addr):Sp:=λvs H Q E=>Sl C vs H Q E
theorem Po:A2 ["top","bottom","part"] ["top","bottom"] (Ap sFraction):=A8
theorem W6{f C:Addr}{fd:FuncData}(F:Ar K "fraction" "fraction" sFraction f fd)(G:Al P w K mg base 1 "common_part" ["one","other"] Ov):Ao P w K mg base Ay 2 f fd ["top","bottom"] (IL C):=by
 refine F.A9 Po λcdv A outer s H vs Q E hr h=>?_
 obtain⟨t,b,rfl,hb,h0,h1⟩:=h;refine⟨_,AR (Bl (BN EX (pv 1) AE (BH _)) (AV NI) B7)
  (AR (AX (i:=2) Po.nd rfl (Or.inl rfl) (Aa G hr (AA (pv 0) (AA (pv 1) AB))))
  (AR (Bl (BN L7 (pv 1) AE (BH _)) (AV (AX (i:=2) Po.nd rfl (Or.inl rfl) (Ga GX (pv 2)))) B7)
  (AV (An (Bf (AA (AM Ff (pv 0) (pv 2)) (AA (AM Ff (pv 1) (pv 2)) AB))))))),?_⟩
 refine⟨_,rfl,rfl,_,rfl,?_⟩;by_cases hz:b=0
 ·refine De (iv hz) ?_;exact(h0 hz).elim
 refine DP (EE hz) ?_;refine⟨_,rfl,_,rfl,t,b,rfl,?_⟩;refine⟨_,rfl,_,_,rfl,rfl,_,rfl,?_⟩;have fin:∀part,part=Mth.part t b->Ox (Kl (BI (Bd (rI IP λi j=>V.int (i.fdiv j)) (Aj 0) (Aj 2)) (BI (Bd (rI IP λi j=>V.int (i.fdiv j)) (Aj 1) (Aj 2)) By)))
   { nx:=λ_ H'=>Q .BD H',rt:=Q } [some (.int t),some (.int b),some (.int part)] H:=by
  rintro part rfl;have hp:IP t (Mth.part t b):=⟨J0 t b hz,km (Se t b hz) hb⟩;exact⟨_,rfl,_,rfl,_,_,rfl,rfl,hp,_,rfl,_,rfl,_,_,rfl,rfl,hp,by exact CA,h1 hz⟩
 by_cases hn:b<0
 ·refine De hn ?_;exact⟨_,rfl,_,rfl,fin _ (by unfold Mth.part; rw[i5 hn])⟩
 ·refine DP hn ?_;exact fin _ (by unfold Mth.part; rw[iz hn])
open Wd
theorem Nu{x:Addr}{H0 H:Hp}(s:AN H0 H)(n:H0 x=none)(o:HO):AN H0 (AJ H x o):=λb u q=>by rw[Ad (BW q n)]; exact s b u q
theorem Gh{i:Int}{n:Nat}(h:i.natAbs<=2 ^ n)(hn:n<8000):BY i:=km h (qr (by decide) hn)
theorem N4{ns:List Int}{i:Nat}{v:V}(h:(ns.map V.int)[i]?=some v):∃e,v=.int e/\ns[i]?=some e:=by
 rw[iy] at h;cases q:ns[i]? with
 | none=>rw[q] at h; cases h
 | some e=>rw[q] at h; exact⟨e,(je h).symm,rfl⟩
theorem ID{ns:List Int}{i:Nat}(h:i<ns.length):Bt (ns.map V.int) (i:Int)=some (.int (ns.getD i 0)):=by
 refine BX ?_;rw[iy,ij h,ir,ij h]; rfl
theorem DU{α:Type}{xs:List α}{i:Nat}{x:α}(h:xs[i]?=some x):xs.take (i+1)=xs.take i++[x]:=by
 rw[rD,h]; rfl
variable {f g h C:Addr} {fd gd hd:FuncData}
inductive VS(vs:List V)(H:Hp)(Q:VK):Prop
 | mk (a:Addr) (qs:List Rat) (d:Nat) (h_0:vs=[.ref a]) (h_1:A4 AS H a qs) (h_2:(∀q∈qs,q.den<=2 ^ d)) (h_3:d*qs.length+d<8000) (h_4:Q (.int (cb qs)) H):VS vs H Q
def PY:Sp:=λvs H Q _=>VS vs H Q
theorem ML:A2 ["row","common","one"] ["row"] (Ap sCBot):=A8
theorem aZ(F:Ar K "common_bottom" "common_bottom" sCBot f fd)(G:Al P w K mg base 1 "common_part" ["one","other"] Ov):
  Ao P w K mg base Ay 2 f fd ["row"] PY:=by
 refine F.A9 ML λcdv A outer s H vs Q E hr h=>?_
 obtain⟨a,qs,d,rfl,⟨bs,ha,hA⟩,hd,hsz,q⟩:=h;refine⟨_,AR (AX (i:=1) ML.nd rfl (Or.inl rfl) AE)
  (AR (CQ jt rfl (Fs (pv 0)) (Ae (i:=2) ML.nd rfl (Or.inl rfl))
   (AV (AX (i:=1) ML.nd rfl (Or.inl rfl) (AM DG (AM Ff (pv 1) (Aa G hr (AA (pv 1) (AA (A6 Bu (pv 2) AE (λ_ _=>rfl)) AB)))) (A6 Bu (pv 2) AE (λ_ _=>rfl))))))
  (AV (An (pv 1)))),?_⟩
 refine⟨_,rfl,a,rfl,⟨_,AI.of ha⟩,?_⟩;refine IA (xs:=bs.map V.ref) (λi σ H2=>∃u,H2=H/\σ=[some (.ref a),some (.int ((qs.take i).foldl DB 1)),u]) ⟨none,rfl,rfl⟩ (λi σ H2 _ ⟨_,e,_⟩=>by rw[e]; exact AI.of ha) ?_ ?_
 ·rintro i x σ H2 hx ⟨u,rfl,rfl⟩;obtain⟨b,y,rfl,_,hy,hB⟩:=hA.ref hx;have hi:i<qs.length:=(ip.mp hy).1;have ym:y∈qs:=iq hy;obtain⟨c1,c2,c3,c4⟩:=VW (qs.take i) (c:=1) (D:=0) (d:=d) (by decide) (by decide) (λp hp=>hd p (List.mem_of_mem_take hp));generalize hc:(qs.take i).foldl DB 1=c at *;have lt:(qs.take i).length<=qs.length:=by simp; omega
  have mle:d*(qs.take i).length<=d*qs.length:=kD d lt;have hdn:y.den<=2 ^ d:=hd y ym;have hg0:(Int.gcd c y.den:Int)≠0:=by have:=mW (y.den:Int) (show c≠0 by omega); omega
  have hgb:BY (Int.gcd c y.den:Int):=by
   refine Gh (n:=d) ?_ (by omega);rw[jz];refine js (oW ?_ (oP.mp (mM c (y.den:Int)))) ?_
   ·have:=y.den_nz; omega
   ·simpa using hdn
  have hb1:BY (c.fdiv (Int.gcd c y.den:Int)):=by
   refine Gh (n:=0+d*(qs.take i).length) (js ?_ c4) (by omega);rw[kj (mX c _)];exact pk c _
  have hb2:BY (y.den:Int):=Gh (n:=d) (by simpa using hdn) (by omega);refine⟨_,rfl,_,rfl,_,rfl,b,_,_,_,rfl,rfl,AI.of hB,A3,c,y.den,rfl,_,_,rfl,rfl,⟨hg0,hgb⟩,_,rfl,b,_,_,_,rfl,rfl,AI.of hB,A3,_,_,rfl,rfl,⟨hb1,hb2⟩,?_⟩;refine⟨some (.ref b),rfl,?_⟩;rw[DU hy,rC];show _=[some (V.ref a),some (.int (DB ((qs.take i).foldl DB 1) y)),some (.ref b)];rw[hc]; rfl
 ·rintro σ H2 ⟨u,rfl,rfl⟩;refine⟨_,rfl,?_⟩;rw[ig,hA.1,lj];exact q
inductive Qt(vs:List V)(H:Hp)(Q:VK):Prop
 | mk (a:Addr) (qs:List Rat) (b:Int) (h_0:vs=[.ref a,.int b]) (h_1:A4 AS H a qs) (h_2:qs.length<=1000) (h_3:(∀q∈qs,BY q.num/\BY (q.den:Int)/\BY (b.fdiv q.den))) (h_4:∀p H',AN H H'->H p=none->Ce H' p (qs.map (wh b))->Q (.ref p) H'):Qt vs H Q
def NF:Sp:=λvs H Q _=>Qt vs H Q
theorem iA:A2 ["row","bottom"] ["row","bottom"] (Ap sWholes):=A8
theorem fg:(["one","bottom"]:List Str).Nodup:=by decide +kernel
theorem Xs(F:Ar K "wholes" "wholes" sWholes f fd):Ao P w K mg base Ay 1 f fd ["row","bottom"] NF:=by
 refine F.A9 iA λcdv A outer s H vs Q E hr h=>?_
 obtain⟨a,qs,b,rfl,⟨bs,ha,hA⟩,hn,hsz,q⟩:=h;refine⟨_,AV (An (C5 (Nc:=["one","bottom"]) (cap:=[(1,1)]) (g:=BU 0) (te:=Bd (rI Kh λi j=>.int (i*j)) (Bd (Fy K) (Aj 0) (tC (.int 0))) (Bd (rI IP λi j=>.int (i.fdiv j)) (Aj 1) (Bd (Fy K) (Aj 0) (tC (.int 1))))) rfl (Fs (pv 0))
   (CB rfl rfl (by decide +kernel) (by decide +kernel) (jb.mpr ⟨⟨rfl,rfl⟩,i6 _⟩) rfl (jb.mpr ⟨⟨_,_,rfl,rfl,rfl,rfl,rfl⟩,i6 _⟩))
   (λ_ _ _ _ _=>Ae (i:=0) fg rfl (Or.inl rfl)) (λ_ _ _ _ _=>AM DG (A6 Bu (pv 0) AE (λ_ _=>rfl)) (AM Ff (pv 1) (A6 Bu (pv 0) AE (λ_ _=>rfl)))))),?_⟩
 refine⟨_,rfl,a,rfl,⟨_,AI.of ha⟩,λacc hacc=>?_⟩;refine CP (FE ha) (by rw[ig,hA.1]; exact hn) hacc (λi ys σ _=>ys=((qs.take i).map (wh b)).map V.int/\∃u,σ=[u,some (.int b)]) ⟨rfl,none,rfl⟩ ?_ ?_
 ·rintro i ys σ H2 x H3 hi sm hacc2 ⟨hys,u,rfl⟩ ⟨rfl,hx⟩ C hC;obtain⟨c,y,rfl,_,hy,hB⟩:=hA.ref hx;obtain⟨s1,s2,s3⟩:=hsz y (iq hy);have hB3:=As sm hB;have yd:=y.den_nz;refine⟨_,rfl,c,_,_,_,rfl,rfl,AI.of hB3,BE,_,rfl,_,rfl,c,_,_,_,rfl,rfl,AI.of hB3,A3,_,_,rfl,rfl,⟨by omega,s2⟩,_,_,rfl,rfl,⟨s1,s3⟩,?_⟩;refine hC _ _ _ (AN.refl _) ⟨?_,_,rfl⟩;rw[hys,DU hy,ji,ji]; rfl
 ·rintro ys σ H2 sm ha2 hl ⟨hys,_⟩;refine q acc H2 sm hacc ?_;rw[ig,hA.1,lj] at hys;unfold Ce;rw[ha2,hys]
inductive Tr(vs:List V)(H:Hp)(Q:VK):Prop
 | mk (a:Addr) (R:List (List Int)) (k m:Nat) (h_0:vs=[.ref a,.int k]) (h_1:Ex Ce H a R) (h_2:k<R.length) (h_3:R.length<=1000) (h_4:(∀r∈R,r.length=m)) (h_5:k<m) (h_6:m<=1000) (h_7:((∀i,k<=i->i<R.length->(R.getD i []).getD k 0=0)->Q .BD H)) (h_8:∀i p H',k<=i->i<R.length->(R.getD i []).getD k 0≠0->AN H H'->H p=none->Ex Ce H' p (JZ R k i)->Q (.ref p) H'):Tr vs H Q
def VX:Sp:=λvs H Q _=>Tr vs H Q
theorem PQ:A2 ["rows","k","place","exchanged"] ["rows","k"] (Ap sLed):=A8
theorem gL:(["number"]:List Str).Nodup:=by decide +kernel
theorem getD_some{α:Type}{xs:List α}{i:Nat}{x d:α}(h:xs[i]?=some x):xs.getD i d=x:=by rw[ir,h]; rfl
theorem LZ:bootBuiltins "list" = some (.type "list"):=by decide +kernel
theorem N8{n j:Nat}(h:j<n):EF n (j:Int)=some j:=by
 unfold EF;rw[i5 (by omega),i5 (by omega)]; simp
theorem ck(F:Ar K "led" "led" sLed f fd)(ml:mg "len" = none)(mr:mg "range" = none)(mli:mg "list" = none):Ao P w K mg base Ay 1 f fd ["rows","k"] VX:=by
 refine F.A9 PQ λcdv A outer s H vs Q E hr h=>?_
 obtain⟨a,R,k,m,rfl,⟨bs,ha,hA⟩,hk,hR,hm,hkm,hm1,qn,qs⟩:=h;refine⟨_,AR (CQ jt rfl (YN (by rfl) mr (AA (pv 1) (AA (Au Jm (by rfl) ml BO (AA (pv 0) AB)) AB))) (Ae (i:=2) PQ.nd rfl (Or.inl rfl))
   (AV (Bl (BN Dd (A6 B8 (A6 B8 (pv 0) (pv 2) (λ_ _=>rfl)) (pv 1) (λ_ _=>rfl)) AE (BH _))
    (AR (AX (i:=3) PQ.nd rfl (Or.inl rfl) (Cy P6 (by rfl) mli LZ (AA (pv 0) AB)))
    (AR (Bl (BN Dd (pv 2) (pv 1) (BH _))
     (AR (Dr (A6 B8 (pv 0) (pv 2) (λ_ _=>rfl)) (Fu (pv 3) (pv 1) Fh))
     (AV (Dr (C5 (Nc:=["number"]) (cap:=[]) (g:=BU 0) (te:=Wh (rU λi=>.int (-i)) (Aj 0)) rfl (JH (A6 B8 (pv 0) (pv 1) (λ_ _=>rfl)))
      (CB rfl rfl (by decide +kernel) (by decide +kernel) (i6 _) rfl (i6 _)) (λ_ _ _ _ _=>Ae (i:=0) gL rfl (Or.inl rfl)) (λ_ _ _ _ _=>Ga GX (pv 0))) (Fu (pv 3) (pv 2) Fh)))) B7)
    (AV (An (pv 3))))) B7)))
  (AV (An KW)),?_⟩
 have hbl:bs.length=R.length:=hA.1;refine⟨_,rfl,_,rfl,a,_,rfl,.inl (AQ.of ha),_,_,rfl,⟨by omega,by omega,by rw[ig]; omega,by rw[ig]; omega⟩,?_⟩;rw[ig,show((bs.length:Int)-(k:Int)).toNat=R.length-k by omega];refine LM (n:=R.length-k) (λi σ H2=>H2=H/\(∃u v,σ=[some (.ref a),some (.int k),u,v])/\∀j,k<=j->j<k+i->(R.getD j []).getD k 0=0) ⟨rfl,⟨none,none,rfl⟩,λj h1 h2=>by omega⟩ ?_ ?_
 ·rintro i σ H2 hi ⟨rfl,⟨u,v,rfl⟩,hz⟩;have hki:k+i<R.length:=by omega
  have ei:R[k+i]?=some R[k+i]:=ij hki;obtain⟨b,hb,hB⟩:=hA.get ei;have rl:R[k+i].length=m:=hm _ (ka hki);have gi:R.getD (k+i) []=R[k+i]:=getD_some ei;have cst:(k:Int)+(i:Int)=((k+i:Nat):Int):=by omega
  refine⟨_,rfl,_,rfl,a,_,_,_,rfl,rfl,AQ.of ha,by rw[cst]; exact BX (CT hb),_,rfl,b,_,_,_,rfl,rfl,AQ.of hB,ID (by omega),rfl,_,rfl,?_⟩;by_cases hv:R[k+i].getD k 0=0
  ·refine D7 (iv hv) ⟨rfl,⟨_,_,rfl⟩,λj h1 h2=>?_⟩;rcases jv j (k+i) with h3 | h3
   ·exact hz j h1 h3
   ·obtain rfl:j=k+i:=by omega
    rw[gi]; exact hv
  ·refine HQ (EE hv) ?_;refine⟨_,rfl,a,_,rfl,.inl (AQ.of ha),λl hl=>?_⟩;refine⟨_,rfl,_,rfl,rfl,_,rfl,?_⟩;by_cases hi0:i=0
   ·subst hi0;refine D7 (iv (by omega)) ?_;refine⟨_,rfl,qs (k+0) l _ (by omega) hki (by rw[gi]; exact hv) (AZ hl _) hl ?_⟩;unfold JZ;rw[i5 (by omega)];exact⟨bs,AU,hA.keep FF (AZ hl _)⟩
   ·refine HQ (EE (by omega)) ?_;have ek:R[k]?=some R[k]:=ij hk;obtain⟨c,hc,hCk⟩:=hA.get ek;have gk:R.getD k []=R[k]:=getD_some ek;have al:a≠l:=BW ha hl;have s1:AN H2 (AJ H2 l (.AF (bs.map V.ref))):=AZ hl _;refine⟨_,rfl,_,rfl,a,_,_,_,rfl,rfl,AQ.of (s1 _ _ ha),by rw[cst]; exact BX (CT hb),_,rfl,_,rfl,l,_,_,_,rfl,rfl,AU,N8 (j:=k) (by rw[ig]; omega),?_⟩;have s2:AN H2 (AJ (AJ H2 l (.AF (bs.map V.ref))) l (.AF ((bs.map V.ref).set k (.ref b)))):=Nu s1 hl _;refine⟨_,rfl,_,rfl,a,_,_,_,rfl,rfl,AQ.of (s2 _ _ ha),BX (CT hc),c,rfl,⟨_,AQ.of (s2 _ _ hCk)⟩,λacc hacc=>?_⟩;have hCk2:=s2 _ _ hCk;generalize hH3:AJ (AJ H2 l (.AF (bs.map V.ref))) l (.AF ((bs.map V.ref).set k (.ref b)))=H3 at *;have hl3:H3 l=some (.AF ((bs.map V.ref).set k (.ref b))):=by rw[<-hH3]; exact AU
    have rk:R[k].length=m:=hm _ (ka hk);refine CP (GO hCk2) (by rw[ig]; omega) hacc (λj ys σ _=>ys=((R[k].take j).map λx=>-x).map V.int/\∃u,σ=[u]) ⟨rfl,none,rfl⟩ ?_ ?_
    ·rintro j ys σ H4 x H5 hj sm hacc2 ⟨hys,u4,rfl⟩ ⟨rfl,hx⟩ C hC;obtain⟨e,rfl,he⟩:=N4 hx;refine⟨_,rfl,_,rfl,hC _ _ _ (AN.refl _) ⟨?_,_,rfl⟩⟩;rw[hys,DU he,ji,ji]; rfl
    ·rintro ys σ H4 sm ha4 hlen ⟨hys,_⟩;rw[ig,lj] at hys;refine⟨_,rfl,_,rfl,l,_,_,_,rfl,rfl,sm _ _ hl3,by rw[cst]; exact N8 (j:=k+i) (by rw[k9,ig]; omega),?_⟩;have acl:acc≠l:=λz=>by rw[z,hl3] at hacc; cases hacc
     have s5:AN H2 (AJ H4 l (.AF (((bs.map V.ref).set k (.ref b)).set (k+i) (.ref acc)))):=Nu (s2.trans sm) hl _;refine⟨_,rfl,qs (k+i) l _ (by omega) hki (by rw[gi]; exact hv) s5 hl ?_⟩;unfold JZ;rw[iz (by omega),gi,gk];refine⟨(bs.set k b).set (k+i) acc,?_,?_⟩
     ·rw[AU,mS,mS]
     ·refine((hA.keep FF s5).set k (FF s5 hB)).set (k+i) ?_;show AJ H4 l _ acc=_;rw[Ad acl,ha4,hys]
 ·rintro σ H2 ⟨rfl,⟨u,v,rfl⟩,hz⟩;exact qn λi h1 h2=>hz i h1 (by omega)
inductive Th(vs:List V)(H:Hp)(Q:VK):Prop
 | mk (a b:Addr) (row lead:List Int) (k m:Nat) (p:Int) (h_0:vs=[.ref a,.ref b,.int k,.int p]) (h_1:Ce H a row) (h_2:Ce H b lead) (h_3:row.length=m) (h_4:lead.length=m) (h_5:k<m) (h_6:m<=1000) (h_7:p≠0) (h_8:BY p) (h_9:(∀x∈row,BY x)) (h_10:(∀x∈lead,BY x)) (h_11:∀q H',AN H H'->H q=none->Ce H' q (Cn row lead k p)->Q (.ref q) H'):Th vs H Q
def Od:Sp:=λvs H Q _=>Th vs H Q
theorem gS:A2 ["row","lead","k","before"] ["row","lead","k","before"] (Ap sSweptRow):=A8
theorem Vt:(["number","other","row","lead","k","before"]:List Str).Nodup:=by decide +kernel
def gE(K:PySem.W.Frag):TE:=Bd (rI IP λi j=>.int (i.fdiv j)) (Bd (Ez λi j=>.int (i-j)) (Bd (rI Kh λi j=>.int (i*j)) (Bd (HX K) (Aj 3) (Aj 4)) (Aj 0)) (Bd (rI Kh λi j=>.int (i*j)) (Bd (HX K) (Aj 2) (Aj 4)) (Aj 1))) (Aj 5)
theorem W8(F:Ar K "swept_row" "swept_row" sSweptRow f fd)(mz:mg "zip" = none):Ao P w K mg base Ay 1 f fd ["row","lead","k","before"] Od:=by
 refine F.A9 gS λcdv A outer s H vs Q E hr h=>?_
 obtain⟨a,b,row,lead,k,m,p,rfl,ha,hb,hr1,hl1,hk,hm,hp,bp,br,bl,q⟩:=h;refine⟨_,AV (An (C5 (Nc:=["number","other","row","lead","k","before"]) (cap:=[(2,0),(3,1),(4,2),(5,3)]) (g:=IW K 2 (GZ (BU 0) (GZ (BU 1) Kx))) (te:=gE K) rfl (NZ (t1:=false) (t2:=false) (by rfl) mz (AA (pv 0) (AA (pv 1) AB)))
   (CB rfl rfl (by decide +kernel) (by decide +kernel) (jb.mpr ⟨⟨rfl,rfl⟩,jb.mpr ⟨⟨rfl,rfl⟩,jb.mpr ⟨⟨rfl,rfl⟩,jb.mpr ⟨⟨rfl,rfl⟩,i6 _⟩⟩⟩⟩) rfl
    (jb.mpr ⟨⟨_,_,rfl,rfl,rfl,rfl,rfl⟩,jb.mpr ⟨⟨_,_,rfl,rfl,rfl,rfl,rfl⟩,jb.mpr ⟨⟨_,_,rfl,rfl,rfl,rfl,rfl⟩,jb.mpr ⟨⟨_,_,rfl,rfl,rfl,rfl,rfl⟩,i6 _⟩⟩⟩⟩))
   (λ_ _ _ _ _=>II rfl (BF (Ae (i:=0) Vt rfl (Or.inl rfl)) (BF (Ae (i:=1) Vt rfl (Or.inl rfl)) Cq)))
   (λ_ _ _ _ _=>AM Ff (AM DW (AM DG (A6 B8 (pv 3) (pv 4) (λ_ _=>rfl)) (pv 0)) (AM DG (A6 B8 (pv 2) (pv 4) (λ_ _=>rfl)) (pv 1))) (pv 5)))),?_⟩
 refine⟨_,rfl,_,rfl,a,b,rfl,⟨_,B5.l ha⟩,⟨_,B5.l hb⟩,λacc hacc=>?_⟩;refine CP (N7 (xs:=row.map V.int) (ys:=lead.map V.int) (λH2 s=>B5.l (s _ _ ha)) (λH2 s=>B5.l (s _ _ hb)) (by rw[ig,ig]; omega)) (by rw[ig]; omega) hacc
  (λi ys σ _=>ys=((Cn row lead k p).take i).map V.int/\∃u v,σ=[u,v,some (.ref a),some (.ref b),some (.int k),some (.int p)]) ⟨rfl,none,none,rfl⟩ ?_ ?_
 ·rintro i ys σ H2 x H3 hi sm hacc2 ⟨hys,u,v,rfl⟩ ⟨t,n1,n2,rfl,ht,rfl,hn1,hn2⟩ C hC;obtain⟨x1,rfl,hx1⟩:=N4 hn1;obtain⟨x2,rfl,hx2⟩:=N4 hn2;have s3:AN H2 (AJ H2 t (.AG [.int x1,.int x2])):=AZ ht _;have gm:∀(l:List Int) (j:Nat),j<l.length->(∀x∈l,BY x)->BY (l.getD j 0):=λl j hj hb=>by
   rw[ir,ij hj]; exact hb _ (ka hj)
  refine⟨t,_,rfl,AI.of AU,rfl,_,_,rfl,_,_,rfl,rfl,?_⟩;refine⟨_,rfl,_,rfl,b,_,_,_,rfl,rfl,AQ.of (s3 _ _ (sm _ _ hb)),ID (by omega),_,rfl,_,_,rfl,rfl,⟨gm _ _ (by omega) bl,br _ (iq hx1)⟩,
   _,rfl,_,rfl,a,_,_,_,rfl,rfl,AQ.of (s3 _ _ (sm _ _ ha)),ID (by omega),_,rfl,_,_,rfl,rfl,⟨gm _ _ (by omega) br,bl _ (iq hx2)⟩,_,_,rfl,rfl,_,rfl,_,_,rfl,rfl,⟨hp,bp⟩,?_⟩
  refine hC _ _ _ s3 ⟨?_,_,_,rfl⟩;have e:(Cn row lead k p)[i]?=some ((lead.getD k 0*x1-row.getD k 0*x2).fdiv p):=by
   unfold Cn;rw[mQ,hx1,hx2]
  rw[hys,DU e,ji]; rfl
 ·rintro ys σ H2 sm ha2 hl ⟨hys,_⟩;refine q acc H2 sm hacc ?_;rw[ig] at hys
  have:(Cn row lead k p).length=m:=Lc hr1 hl1
  rw[jf (by omega)] at hys;unfold Ce;rw[ha2,hys]
inductive RI(vs:List V)(H:Hp)(Q:VK):Prop
 | mk (a:Addr) (R:List (List Int)) (n m B0:Nat) (h_0:vs=[.ref a]) (h_1:Ex Ce H a R) (h_2:R.length=n) (h_3:n<=m) (h_4:m<=100) (h_5:(∀r∈R,r.length=m)) (h_6:1<=B0) (h_7:(∀r∈R,∀x∈r,x.natAbs<=B0)) (h_8:(m*B0) ^ n<2 ^ 8000) (h_9:(∀H',AN H H'->ld n m (Ac (R.map vr) Aq)=0->Q .BD H')) (h_10:∀p H' T,AN H H'->Ex Ce H' p T->(∃Z c v,Bi B0 n m n (R.map vr) T Z c v)->Q (.ref p) H'):RI vs H Q
def SU:Sp:=λvs H Q _=>RI vs H Q
theorem Hi:A2 ["rows","size","before","k","lead"] ["rows"] (Ap sSwept):=A8
theorem fk:(["row","lead","k","before"]:List Str).Nodup:=by decide +kernel
theorem So{B0 n m k:Nat}{A0:List AW}{top:List (List Int)}{Z:List (List Int×AW)}{p:Int}{v:Av}(B:Bi B0 n m k A0 top Z p v)(hb:(m*B0) ^ n<2 ^ 8000){z:List Int×AW}(hz:z∈Z):∀x∈z.1,BY x:=by
 intro x hx;obtain⟨j,rfl⟩:=Wd.mem_getD hx;have h:=Fn (B.Wa hz j);have hl:=B.Ew;have hp:0<Z.length:=kQ hz;have h1:1<=m*B0:=rO (by have:=B.nm; omega) B.b1;exact km (js h (Ul h1 (by omega))) hb
theorem VN{B0 n m k:Nat}{A0:List AW}{top:List (List Int)}{Z:List (List Int×AW)}{p:Int}{v:Av}(B:Bi B0 n m k A0 top Z p v)(hb:(m*B0) ^ n<2 ^ 8000):BY p:=by
 rcases nH k with rfl | hk
 ·have h1:=B.pl
  have:(p:Rat)=ld 0 m v:=h1.symm
  have hw:=B.Hr (Tk 0 m);have e:ld 0 m v=v (Tk 0 m):=by simp[ld,Bz]
  rw[<-e,<-this] at hw
  have:=Fn hw
  have z:(1:Nat)<2 ^ 8000:=by
   have:=Nat.one_lt_two_pow (n:=8000) (by decide)
   exact this
  rw[qQ] at this;exact km this z
 ·have hl:=B.Hh hk;have ht:=B.F9;have hm:top.getD (k-1) []∈top:=by
   rw[ir,ij (by omega)]; exact ka _
  have:=Fn (B.Ik _ hm (k-1))
  rw[hl] at this;exact km this hb
theorem Yz (F:Ar K "swept" "swept" sSwept f fd) (G:Al P w K mg base 1 "led" ["rows","k"] VX)
  (G2:Al P w K mg base 1 "swept_row" ["row","lead","k","before"] Od)
  (ml:mg "len" = none) (mr:mg "range" = none):Ao P w K mg base Ay 2 f fd ["rows"] SU:=by
 refine F.A9 Hi λcdv A outer s H vs Q E hr h=>?_
 obtain⟨a,R,n,m,B0,rfl,hA,hn,hnm,hm,hcol,hb1,hbd,hbig,qn,qs⟩:=h;refine⟨_,AR (AX (i:=1) Hi.nd rfl (Or.inl rfl) (Au Jm (by rfl) ml BO (AA (pv 0) AB)))
  (AR (AX (i:=2) Hi.nd rfl (Or.inr rfl) AE)
  (AR (CQ jt rfl (Iw (by rfl) mr (AA (pv 1) AB)) (Ae (i:=3) Hi.nd rfl (Or.inr rfl))
   (AR (AX (i:=0) Hi.nd rfl (Or.inl rfl) (Aa G hr (AA (pv 0) (AA (pv 3) AB))))
   (AR (Bl (BN T4 (pv 0) KW (BH _)) (AV (An KW)) B7)
   (AR (AX (i:=4) Hi.nd rfl (Or.inr rfl) (A6 B8 (pv 0) (pv 3) (λ_ _=>rfl)))
   (AR (AX (i:=0) Hi.nd rfl (Or.inl rfl) (AM KI (D0 Lb (pv 0) EI (Dm (AM Bc (pv 3) AE)))
    (C5 (Nc:=["row","lead","k","before"]) (cap:=[(1,4),(2,3),(3,2)]) (g:=BU 0) (te:=DI Od [] E0 (BI (Aj 0) (BI (Aj 1) (BI (Aj 2) (BI (Aj 3) By))))) rfl (JH (D0 Lb (pv 0) (Dm (AM Bc (pv 3) AE)) EI))
     (CB rfl rfl (by decide +kernel) (by decide +kernel) (jb.mpr ⟨⟨rfl,rfl⟩,jb.mpr ⟨⟨rfl,rfl⟩,jb.mpr ⟨⟨rfl,rfl⟩,i6 _⟩⟩⟩) rfl
      (jb.mpr ⟨⟨_,_,rfl,rfl,rfl,rfl,rfl⟩,jb.mpr ⟨⟨_,_,rfl,rfl,rfl,rfl,rfl⟩,jb.mpr ⟨⟨_,_,rfl,rfl,rfl,rfl,rfl⟩,i6 _⟩⟩⟩))
     (λ_ _ _ _ _=>Ae (i:=0) fk rfl (Or.inl rfl)) (λ_ _ _ _ _=>Aa G2 hr (AA (pv 0) (AA (pv 1) (AA (pv 2) (AA (pv 3) AB))))))))
   (AV (AX (i:=2) Hi.nd rfl (Or.inr rfl) (A6 B8 (pv 4) (pv 3) (λ_ _=>rfl)))))))))
  (AV (An (pv 0))))),?_⟩
 obtain⟨bs,ha,hAt⟩:=id hA;refine⟨_,rfl,a,_,rfl,.inl (AQ.of ha),?_⟩;refine⟨_,rfl,(((bs.map V.ref).length:Nat):Int),rfl,by rw[ig,hAt.1]; omega,by rw[ig,hAt.1]; omega,?_⟩;rw[show((((bs.map V.ref).length:Nat):Int)).toNat=n by rw[ig,hAt.1]; omega];refine LM (n:=n) (λk σ H2=>AN H H2/\∃(c:Addr) (top:List (List Int)) (Z:List (List Int×AW)) (p:Int) (v:Av) (u1 u2:Option V),σ=[some (.ref c),some (.int (((bs.map V.ref).length:Nat):Int)),some (.int p),u1,u2]/\Ex Ce H2 c (top++Z.map (·.1))/\Bi B0 n m k (R.map vr) top Z p v)
  ⟨AN.refl _,a,[],R.map λr=>(r,vr r),1,Aq,none,none,rfl,by simp[nS]; exact hA,Bi.iS hb1 (λr hr j=>IG (Ra (hbd r hr) j)) hn hnm hcol⟩ ?_ ?_
 ·rintro k σ H2 hk ⟨sm,c,top,Z,p,v,u1,u2,rfl,hL,B⟩;have lT:=B.F9;have lZ:=B.Ew;have lall:(top++Z.map (·.1)).length=n:=by simp; omega
  have zk:(0:Int)+(k:Nat)=((k:Nat):Int):=by omega
  refine⟨_,rfl,_,rfl,c,top++Z.map (·.1),k,m,by rw[zk]; rfl,hL,by omega,by omega,?_,by omega,by omega,?_,?_⟩
  ·intro r hr;rcases i9.mp hr with h1 | h1
   ·exact B.IU r h1
   ·obtain⟨z,hz,rfl⟩:=i7.mp h1;exact B.Dg z hz
  ·
   intro h0;refine⟨_,rfl,rfl,_,rfl,?_⟩;refine De rfl ?_;refine qn H2 sm (B.none hk λz hz=>?_);obtain⟨j,hj,e⟩:=ju hz;have hh:=h0 (k+j) (by omega) (by omega)
   have:(top++Z.map (·.1)).getD (k+j) []=z.1:=by
    rw[ir,jd (by omega),show k+j-top.length=j by omega,iy,ij hj,e]; rfl
   rw[this] at hh;exact hh
  ·intro i c2 H3 h1 h2 h3 s3 nc2 hL3;obtain⟨z,Z',B2,eR,hz⟩:=B.iJ h1 (by omega) h3;rw[eR] at hL3;refine⟨_,rfl,rfl,_,rfl,?_⟩;refine DP (λz=>by cases z) ?_;obtain⟨cs,hc2,hAt2⟩:=id hL3;have lZ2:=B2.Ew;simp at lZ2;have lcs:cs.length=n:=by rw[hAt2.1]; simp; omega
   have ek:(top++z.1 :: Z'.map (·.1))[k]?=some z.1:=by rw[jd (by omega),lT]; simp
   obtain⟨b,hb,hB⟩:=hAt2.get ek;refine⟨_,rfl,_,rfl,c2,_,_,_,rfl,rfl,AQ.of hc2,by rw[zk]; exact BX (CT hb),?_⟩;have k1:((0:Int)+(k:Nat))+1=((k+1:Nat):Int):=by omega
   refine⟨_,rfl,_,rfl,_,_,rfl,rfl,_,rfl,c2,_,rfl,AQ.of hc2,λp1 hp1=>?_⟩
   (try dsimp only)
   rw[k1,Jr _ (by rw[ig]; omega)];have s4:AN H3 (AJ H3 p1 (.AF ((cs.map V.ref).take (k+1)))):=AZ hp1 _;have hp14:(AJ H3 p1 (.AF ((cs.map V.ref).take (k+1)))) p1=some (.AF ((cs.map V.ref).take (k+1))):=AU;generalize AJ H3 p1 (.AF ((cs.map V.ref).take (k+1)))=H4 at s4 hp14;refine⟨_,rfl,_,rfl,_,_,rfl,rfl,_,rfl,c2,_,rfl,AQ.of (s4 _ _ hc2),λp2 hp2=>?_⟩
   (try dsimp only)
   rw[k1,Hy _ (by rw[ig]; omega)];have s5:AN H4 (AJ H4 p2 (.AF ((cs.map V.ref).drop (k+1)))):=AZ hp2 _;have hp25:(AJ H4 p2 (.AF ((cs.map V.ref).drop (k+1)))) p2=some (.AF ((cs.drop (k+1)).map V.ref)):=by rw[AU,m8]
   generalize AJ H4 p2 (.AF ((cs.map V.ref).drop (k+1)))=H5 at s5 hp25;refine⟨p2,rfl,⟨_,AQ.of hp25⟩,λacc hacc=>?_⟩;have s35:AN H3 H5:=s4.trans s5;have hAd:At Ce H5 (cs.drop (k+1)) (Z'.map (·.1)):=by
    have:=(hAt2.drop (k+1)).keep FF s35
    have e:(top++z.1 :: Z'.map (·.1)).drop (k+1)=Z'.map (·.1):=by
     rw[List.drop_append,List.drop_of_length_le (by omega),show k+1-top.length=1 by omega]; rfl
    rw[e] at this;exact this
   have hzm:z∈z :: Z':=by simp
   refine CP (GO hp25) (by rw[ig,jO]; omega) hacc
    (λi ys σ hp=>∃ds:List Addr,ys=ds.map V.ref/\At Ce hp ds ((Z'.map λy=>Cn y.1 z.1 k p).take i)/\∃u,σ=[u,some (.ref b),some (.int ((0:Int)+(k:Nat))),some (.int p)]) ⟨[],rfl,At.nil,none,rfl⟩ ?_ ?_
   ·rintro i ys σ H6 x H7 hi sm6 hacc6 ⟨ds,rfl,hD,u,rfl⟩ ⟨rfl,hx⟩ C hC;obtain⟨e,r,rfl,he,hr',hE⟩:=hAd.ref hx;rw[iy] at hr';cases q:Z'[i]? with
    | none=>rw[q] at hr'; cases hr'
    | some y =>
     rw[q] at hr';obtain rfl:y.1=r:=je hr';have ym:y∈z :: Z':=jB _ (iq q);refine⟨_,rfl,_,rfl,_,rfl,_,rfl,e,b,y.1,z.1,k,m,p,by rw[zk]; rfl,sm6 _ _ hE,sm6 _ _ (s35 _ _ hB),B2.Dg y ym,B2.Dg z hzm,by omega,by omega,B.pz,VN B hbig,So B2 hbig ym,So B2 hbig hzm,?_⟩;intro r2 H8 s8 nr2 hr2;refine hC _ _ _ s8 ⟨ds++[r2],by simp,?_,_,rfl⟩;have ne:r2≠acc:=λz=>by rw[z,hacc6] at nr2; cases nr2
     have e3:(Z'.map λy=>Cn y.1 z.1 k p)[i]?=some (Cn y.1 z.1 k p):=by rw[iy,q]; rfl
     rw[DU e3];exact(hD.keep FF (EH acc s8)).snoc (GW hr2 ne)
   ·rintro ys σ H6 sm6 hacc6 hl6 ⟨ds,rfl,hD,u,rfl⟩;rw[ig,jO,jf (by simp; omega)] at hD;have hp16:=sm6 _ _ (s5 _ _ hp14);have hlen:(cs.map V.ref).length=n:=by rw[ig]; exact lcs
    have hdl:ds.length=Z'.length:=by rw[hD.1]; simp
    refine⟨p1,acc,_,_,rfl,rfl,hp16,hacc6,by rw[jT,ig,ig]; exact FQ (by omega),λc3 hc3=>?_⟩;have s7:AN H6 (AJ H6 c3 (.AF ((cs.map V.ref).take (k+1)++ds.map V.ref))):=AZ hc3 _;have s37:=(s35.trans sm6).trans s7;have b1:z.1.length=m:=B2.Dg z hzm;refine⟨_,rfl,_,rfl,b,_,_,_,rfl,rfl,AQ.of (s37 _ _ hB),by rw[zk]; exact ID (by omega),?_⟩;have B3:=B2.step hz;refine⟨sm.trans (s3.trans s37),c3,top++[z.1],_,z.1.getD k 0,_,_,_,rfl,⟨cs.take (k+1)++ds,?_,?_⟩,B3⟩
    ·rw[AU,ji,oh]
    ·have t1:=(hAt2.take (k+1)).keep FF s37;have e:(top++z.1 :: Z'.map (·.1)).take (k+1)=top++[z.1]:=by
      rw[List.take_append,jf (by omega),show k+1-top.length=1 by omega]; rfl
     rw[e] at t1;have t2:=(hD.keep FF (D5 H6 acc)).keep FF s7;have e2:List.map (·.1) (Z'.map λy=>(Cn y.1 z.1 k p,y.2))=Z'.map λy=>Cn y.1 z.1 k p:=by simp[nS]
     rw[e2];exact t1.WW t2
 ·rintro σ H2 ⟨sm,c,top,Z,p,v,u1,u2,rfl,hL,B⟩;obtain⟨rfl,_⟩:=B.fin;rw[kf,kg] at hL;exact⟨_,rfl,qs c H2 top sm hL ⟨[],p,v,B⟩⟩
variable {f1 f2 f3 f4:Addr} {d1 d2 d3 d4:FuncData}
structure TK(n m d E D:Nat)(T:List (List Rat)):Prop where
 len:T.length=n
 FV:∀r∈T,r.length=m
 nm:n<=m
 WQ:m<=15
 den:∀r∈T,∀q∈r,q.den<=2 ^ d
 num:∀r∈T,∀q∈r,BY q.num
 iO:∀r∈T,(cb r).natAbs<=2 ^ D
 iG:∀r∈T,∀q∈r,(wh (cb r) q).natAbs<=2 ^ E
 bd:(4+E)*n<7990/\D<7990/\d*m+d<7990
theorem TK.hcb{n m d E D:Nat}{T:List (List Rat)}(h:TK n m d E D T){r:List Rat}(hr:r∈T):0<cb r/\(∀q∈r,(q.den:Int) ∣ cb r)/\(cb r).natAbs<=2 ^ D :=
 ⟨(OZ r).1,(OZ r).2,h.iO r hr⟩
def Dx(T:List (List Rat)):List (List Int):=T.map λr=>r.map (wh (cb r))
theorem TK.Pk{n m d E D:Nat}{T:List (List Rat)}(h:TK n m d E D T):∀r∈Dx T,r.length=m/\∀x∈r,x.natAbs<=2 ^ E:=by
 intro r hr;obtain⟨s,hs,rfl⟩:=i7.mp hr;refine⟨by rw[ig]; exact h.FV s hs,λx hx=>?_⟩;obtain⟨q,hq,rfl⟩:=i7.mp hx;exact h.iG s hs q hq
theorem TK.GD{n m d E D:Nat}{T:List (List Rat)}(h:TK n m d E D T):(m*2 ^ E) ^ n<2 ^ 8000:=by
 have h1:m*2 ^ E<=2 ^ (4+E):=by
  rw[m9 2 4];exact mZ _ (by have:=h.WQ; omega)
 have h2:=qD h1 n;rw[<-Nat.pow_mul] at h2;exact km h2 (qr (by decide) (by have:=h.bd; omega))
theorem TK.wb{n m d E D:Nat}{T:List (List Rat)}(h:TK n m d E D T){r:List Rat}(hr:r∈T):∀q∈r,BY q.num/\BY (q.den:Int)/\BY ((cb r).fdiv q.den):=by
 intro q hq;obtain⟨c1,c2,c3⟩:=h.hcb hr
 have:=h.bd
 refine⟨h.num r hr q hq,Gh (n:=d) (by simpa using h.den r hr q hq) (by omega),Gh (n:=D) (js ?_ c3) (by omega)⟩;rw[kj (c2 q hq)];exact pk _ _
theorem gh:(["row"]:List Str).Nodup:=by decide +kernel
theorem bO{α:Type}{xs:List α}{v:α}(h:xs[xs.length-1]?=some v):Bt xs (-1)=some v:=by
 have hl:0<xs.length:=by have:=(ip.mp h).1; omega
 have e:EF xs.length (-1)=some (xs.length-1):=by
  unfold EF;rw[iz (by decide),i5 (by omega)];congr 1; omega
 unfold Bt;rw[e]; exact h
theorem GY:Mo (A4 AS):=λs h=>Fq (R:=AS) (λs h=>As s h) s h
variable {C2:Addr}
structure WR(B0 n:Nat)(T:List (List Int))(c:Int)(x:Nat->Rat)(u:Nat->Int):Prop where
 n0:0<n
 len:T.length=n
 FV:∀r∈T,r.length=n+1
 c0:c≠0
 Hh:(T.getD (n-1) []).getD (n-1) 0=c
 E2:∀i,i<n->(T.getD i []).getD i 0≠0/\∀j,j<i->(T.getD i []).getD j 0=0
 iF:∀i,i<n->fx n x (vr (T.getD i []))=0
 whole:∀j,j<n->((u j:Int):Rat)=c*x j
 GD:(∀r∈T,∀y∈r,BY y)/\(∀j,j<n->BY (u j))/\BY c
inductive TH(vs:List V)(H:Hp)(Q:VK):Prop
 | mk (a:Addr) (B0 n:Nat) (T:List (List Int)) (c:Int) (x:Nat->Rat) (u:Nat->Int) (h_0:vs=[.ref a]) (h_1:Ex Ce H a T) (h_2:n<=100) (h_3:WR B0 n T c x u) (h_4:∀p H',AN H H'->H p=none->A4 AS H' p ((List.range n).map x)->Q (.ref p) H'):TH vs H Q
def UU:Sp:=λvs H Q _=>TH vs H Q
theorem HW:A2 ["rows","size","whole","found","k","row","known"] ["rows"] (Ap sBack):=A8
theorem Ve:(["number","other"]:List Str).Nodup:=by decide +kernel
theorem gC:(["number","whole"]:List Str).Nodup:=by decide +kernel
def Eg(u:Nat->Int)(n k:Nat):List Int:=(List.range (n-k)).map λi=>u (k+i)
theorem Yt{u:Nat->Int}{n k:Nat}(h:k<n):Eg u n k=u k :: Eg u n (k+1):=by
 unfold Eg;rw[show n-k=(n-(k+1))+1 by omega,kB,i8,jH];congr 1;refine ko λi _=>?_
 show u (k+(i+1))=u (k+1+i);congr 1; omega
def EZ(r:List Int)(u:Nat->Int)(n k:Nat):List Int:=(List.range (n-k)).map λi=>r.getD (k+i) 0*u (k+i)
theorem XH{r:List Int}{u:Nat->Int}{n k:Nat}(h:k<n):EZ r u n k=(r.getD k 0*u k) :: EZ r u n (k+1):=by
 unfold EZ;rw[show n-k=(n-(k+1))+1 by omega,kB,i8,jH];congr 1;refine ko λi _=>?_
 show r.getD (k+(i+1)) 0*u (k+(i+1))=r.getD (k+1+i) 0*u (k+1+i)
 have:k+(i+1)=k+1+i:=by omega
 rw[this]
theorem ZQ{n:Nat}{r:List Int}{c:Int}{x:Nat->Rat}{u:Nat->Int}(hw:∀j,j<n->((u j:Int):Rat)=c*x j)(hs:fx n x (vr r)=0){k:Nat}(hk:k<n)(hd:r.getD k 0≠0)(hz:∀j,j<k->r.getD j 0=0):
  (r.getD n 0*c-(EZ r u n (k+1)).sum).fdiv (r.getD k 0)=u k:=by
 have tail:∀m,m<=n->(((EZ r u n (n-m)).sum:Int):Rat)=c*(Ak (λj=>vr r j*x j) n-Ak (λj=>vr r j*x j) (n-m)):=by
  intro m
  induction m with
  | zero=>intro _; simp[EZ]; grind
  | succ m ih =>
   intro hm;rw[XH (show n-(m+1)<n by omega),jy,pR,jQ,hw _ (by omega)];rw[show n-(m+1)+1=n-m by omega,ih (by omega)];have e:Ak (λj=>vr r j*x j) (n-m)=Ak (λj=>vr r j*x j) (n-(m+1))+vr r (n-(m+1))*x (n-(m+1)):=by
    rw[show n-m=n-(m+1)+1 by omega]; rfl
   rw[e]
   have:vr r (n-(m+1))=((r.getD (n-(m+1)) 0:Int):Rat):=rfl
   rw[<-this]; grind
 have t:=tail (n-(k+1)) (by omega);rw[show n-(n-(k+1))=k+1 by omega] at t;have low:Ak (λj=>vr r j*x j) (k+1)=vr r k*x k:=by
  simp only[Ak];rw[Jo (λl hl=>by rw[show vr r l=0 by simp only[vr,hz l hl]; rfl]; grind)]; grind
 rw[low] at t;have hs':Ak (λj=>vr r j*x j) n=vr r n:=by simp only[fx] at hs; grind
 rw[hs'] at t;have key:(((r.getD n 0*c-(EZ r u n (k+1)).sum:Int)):Rat)=((r.getD k 0*u k:Int):Rat):=by
  rw[nB,jQ,jQ,t,hw k hk];have a1:vr r n=((r.getD n 0:Int):Rat):=rfl;have a2:vr r k=((r.getD k 0:Int):Rat):=rfl;rw[<-a1,<-a2]; grind
 have ki:r.getD n 0*c-(EZ r u n (k+1)).sum=r.getD k 0*u k:=by exact_mod_cast key
 rw[ki,kj (rA _ _),l8 _ hd]
theorem NM{r:List Int}(h:∀y∈r,BY y){j:Nat}(hj:j<r.length):BY (r.getD j 0):=by
 rw[ir,ij hj]; exact h _ (ka hj)
theorem aQ(xs:List V){i j:Nat}(h:i<=j)(hj:j<=xs.length):Cu xs (some (i:Int)) (some (j:Int))=(xs.drop i).take (j-i):=by
 unfold Cu;have e1:HT.Ag xs.length 0 (some (i:Int))=i:=by simp[HT.Ag]; rw[iz (by omega)]; omega
 have e2:HT.Ag xs.length xs.length (some (j:Int))=j:=by simp[HT.Ag]; rw[iz (by omega)]; omega
 rw[e1,e2]
theorem Z8 (F:Ar K "found_back" "found_back" sBack f fd) (G:Al P w K mg base 2 "fraction" ["top","bottom"] (IL C))
  (ml:mg "len" = none) (mr:mg "range" = none) (mz:mg "zip" = none) (msu:mg "sum" = none) (mt:mg "tuple" = none):Ao P w K mg base Ay 3 f fd ["rows"] UU:=by
 refine F.A9 HW λcdv A outer s H vs Q E hr h=>?_
 obtain⟨a,B0,n,T,c,x,u,rfl,⟨bs,ha,hA⟩,hn,S,q⟩:=h;refine⟨_,AR (AX (i:=1) HW.nd rfl (Or.inl rfl) (Au Jm (by rfl) ml BO (AA (pv 0) AB)))
  (AR (AX (i:=2) HW.nd rfl (Or.inr rfl) (A6 B8 (A6 B8 (pv 0) (Ga GX AE) (λ_ _=>rfl)) (AM DW (pv 1) AE) (λ_ _=>rfl)))
  (AR (AX (i:=3) HW.nd rfl (Or.inl rfl) (Cd AB))
  (AR (CQ jt rfl (YJ (by rfl) mr (AA (AM DW (pv 1) AE) (AA (Ga GX AE) (AA (Ga GX AE) AB)))) (Ae (i:=4) HW.nd rfl (Or.inl rfl))
   (AR (AX (i:=5) HW.nd rfl (Or.inl rfl) (A6 B8 (pv 0) (pv 4) (λ_ _=>rfl)))
   (AR (AX (i:=6) HW.nd rfl (Or.inl rfl) (Au (YL rfl) (by rfl) msu dE (AA (C5 (Nc:=["number","other"]) (cap:=[]) (g:=IW K 2 (GZ (BU 0) (GZ (BU 1) Kx))) (te:=Bd (rI Kh λi j=>.int (i*j)) (Aj 0) (Aj 1)) rfl
     (NZ (t1:=false) (t2:=false) (by rfl) mz (AA (D0 Lb (pv 5) (Dm (AM Bc (pv 4) AE)) (Dm (pv 1))) (AA (pv 3) AB)))
     (CB rfl rfl (by decide +kernel) (by decide +kernel) (i6 _) rfl (i6 _)) (λ_ _ _ _ _=>II rfl (BF (Ae (i:=0) Ve rfl (Or.inl rfl)) (BF (Ae (i:=1) Ve rfl (Or.inl rfl)) Cq)))
     (λ_ _ _ _ _=>AM DG (pv 0) (pv 1))) AB)))
   (AV (AX (i:=3) HW.nd rfl (Or.inl rfl) (AM KI (Cd (AA (AM Ff (AM DW (AM DG (A6 B8 (pv 5) (pv 1) (λ_ _=>rfl)) (pv 2)) (pv 6)) (A6 B8 (pv 5) (pv 4) (λ_ _=>rfl))) AB)) (pv 3)))))))
  (AV (An (Cy Fb (by rfl) mt B6 (AA (C5 (Nc:=["number","whole"]) (cap:=[(1,2)]) (g:=BU 0) (te:=DI (IL C) [] E0 (BI (Aj 0) (BI (Aj 1) By))) rfl (JH (pv 3))
   (CB rfl rfl (by decide +kernel) (by decide +kernel) (jb.mpr ⟨⟨rfl,rfl⟩,i6 _⟩) rfl (jb.mpr ⟨⟨_,_,rfl,rfl,rfl,rfl,rfl⟩,i6 _⟩))
   (λ_ _ _ _ _=>Ae (i:=0) gC rfl (Or.inl rfl)) (λ_ _ _ _ _=>Aa G hr (AA (pv 0) (AA (pv 1) AB)))) AB))))))),?_⟩
 have n0:=S.n0;have lT:=S.len;have lb:bs.length=n:=by rw[hA.1]; exact lT
 have gT:∀i,i<n->∃b,bs[i]?=some b/\Ce H b (T.getD i [])/\(T.getD i []).length=n+1/\(∀y∈T.getD i [],BY y):=by
  intro i hi;have e:T[i]?=some (T[i]'(by omega)):=ij _;obtain⟨b,h1,h2⟩:=hA.get e;have hm:T[i]'(by omega)∈T:=ka _;rw[getD_some e];exact⟨b,h1,h2,S.FV _ hm,S.GD.1 _ hm⟩
 obtain⟨bz,hbz,hBz,lz,_⟩:=gT (n-1) (by omega);refine⟨_,rfl,a,_,rfl,.inl (AQ.of ha),?_⟩;rw[ig,lb];have nm1:((n:Nat):Int)-1=((n-1:Nat):Int):=by omega
 refine⟨_,rfl,_,rfl,a,_,_,_,rfl,rfl,AQ.of ha,bO (by rw[ig,lb]; exact CT hbz),_,rfl,_,_,rfl,rfl,bz,_,_,_,rfl,rfl,AQ.of hBz,by rw[nm1]; exact ID (by omega),?_⟩;rw[S.Hh];refine⟨by exact Gq,λl0 hl0=>?_⟩;have s0:=AZ hl0 (.AF [])
 try dsimp only
 try refine Cp ?_
 first | refine Co λUL1 hUL1=>?_ | refine nx_hide λUL1 hUL1=>?_
 refine⟨_,rfl,_,_,rfl,rfl,_,rfl,_,rfl,n,rfl,by omega,?_⟩;refine Yq (n:=n) (lo:=((n:Nat):Int)-1) (step:=-1) (λi σ H2=>AN H H2/\∃l u4 u5 u6,σ=[some (.ref a),some (.int ((n:Nat):Int)),some (.int c),some (.ref l),u4,u5,u6]/\H l=none/\Ce H2 l (Eg u n (n-i)))
  ⟨s0,l0,none,none,none,rfl,hl0,by unfold Ce Eg; rw[AU]; simp⟩ ?_ ?_
 ·rintro i σ H2 hi ⟨sm,l,u4,u5,u6,rfl,nl,hl⟩;have hk:n-1-i<n:=by omega
  obtain⟨k,hkd⟩:∃k,k=n-1-i:=⟨_,rfl⟩;have ek:((n:Nat):Int)-1+(i:Nat)*(-1)=((k:Nat):Int):=by omega
  obtain⟨b,hb,hB,lr,br⟩:=gT k (by omega);generalize hrow:T.getD k []=row at hB lr br;rw[ek];have ha2:=sm _ _ ha;have hB2:=sm _ _ hB;refine⟨_,rfl,_,rfl,a,_,_,_,rfl,rfl,AQ.of ha2,BX (CT hb),?_⟩;have k1:((k:Nat):Int)+1=((k+1:Nat):Int):=by omega
  refine⟨_,rfl,_,rfl,_,_,rfl,rfl,_,rfl,_,rfl,_,rfl,b,_,rfl,AQ.of hB2,λp1 hp1=>?_⟩
  (try dsimp only)
  rw[k1,aQ _ (by omega) (by rw[ig]; omega)];have s3:=AZ hp1 (.AF (((row.map V.int).drop (k+1)).take (n-(k+1))));have e1:(AJ H2 p1 (.AF (((row.map V.int).drop (k+1)).take (n-(k+1))))) p1=some (.AF (((row.drop (k+1)).take (n-(k+1))).map V.int)):=by rw[AU,oh,m8]
  generalize AJ H2 p1 (.AF (((row.map V.int).drop (k+1)).take (n-(k+1))))=H3 at s3 e1;have ni:n-i=k+1:=by omega
  rw[ni] at hl;have hl3:=s3 _ _ hl;refine⟨_,rfl,p1,l,rfl,⟨_,B5.l e1⟩,⟨_,B5.l hl3⟩,λacc hacc=>?_⟩;have lf:(Eg u n (k+1)).length=n-(k+1):=by unfold Eg; simp
  refine CP (N7 (xs:=((row.drop (k+1)).take (n-(k+1))).map V.int) (ys:=(Eg u n (k+1)).map V.int) (λH4 s=>B5.l (s _ _ e1)) (λH4 s=>B5.l (s _ _ hl3)) (by simp[lf]; omega)) (by simp; omega) hacc
   (λj ys σ _=>ys=((EZ row u n (k+1)).take j).map V.int/\∃v1 v2,σ=[v1,v2]) ⟨rfl,none,none,rfl⟩ ?_ ?_
  ·rintro j ys σ H4 z H5 hj s4 hacc4 ⟨hys,v1,v2,rfl⟩ ⟨t,n1,n2,rfl,ht,rfl,hn1,hn2⟩ Cc hC;have hj2:j<n-(k+1):=by simp at hj; omega
   have g1:n1=.int (row.getD (k+1+j) 0):=by
    rw[iy,oQ,i5 hj2,lN,ij (by omega)] at hn1;rw[ir,ij (by omega)];exact(je hn1).symm
   have g2:n2=.int (u (k+1+j)):=by
    unfold Eg at hn2;rw[iy,iy,j4 hj2] at hn2;exact(je hn2).symm
   subst g1 g2;have s5:=AZ ht (.AG [.int (row.getD (k+1+j) 0),.int (u (k+1+j))]);refine⟨t,_,rfl,AI.of AU,rfl,_,_,rfl,_,_,rfl,rfl,?_⟩;refine⟨_,rfl,_,rfl,_,_,rfl,rfl,⟨NM br (by omega),S.GD.2.1 _ (by omega)⟩,?_⟩;refine hC _ _ _ s5 ⟨?_,_,_,rfl⟩;have e:(EZ row u n (k+1))[j]?=some (row.getD (k+1+j) 0*u (k+1+j)):=by unfold EZ; rw[iy,j4 hj2]; rfl
   rw[hys,DU e,ji]; rfl
  ·rintro ys σ H4 s4 hacc4 hl4 ⟨hys,_⟩;have lp:(EZ row u n (k+1)).length=n-(k+1):=by unfold EZ; simp
   rw[jf (by simp; omega)] at hys;rw[hys] at hacc4;refine⟨acc,_,rfl,hacc4,?_⟩;have s24:=s3.trans s4;have bn:=ZQ (r:=row) S.whole (by rw[<-hrow]; exact S.iF k (by omega)) (k:=k) (by omega) (by rw[<-hrow]; exact(S.E2 k (by omega)).1) (by rw[<-hrow]; exact(S.E2 k (by omega)).2);refine⟨_,rfl,_,rfl,b,_,_,_,rfl,rfl,AQ.of (s24 _ _ hB2),ID (by omega),_,rfl,_,_,rfl,rfl,⟨NM br (by omega),S.GD.2.2⟩,_,rfl,_,_,rfl,rfl,_,rfl,_,rfl,b,_,_,_,rfl,rfl,AQ.of (s24 _ _ hB2),ID (by omega),_,_,rfl,rfl,
    ⟨by rw[<-hrow]; exact(S.E2 k (by omega)).1,NM br (by omega)⟩,by exact Gr,λp2 hp2=>?_⟩
   (try dsimp only)
   rw[bn];have s5:=AZ hp2 (.AF [.int (u k)]);refine⟨_,rfl,p2,l,_,_,rfl,rfl,AU,s5 _ _ (s4 _ _ hl3),by simp[lf]; exact FQ (by omega),λp3 hp3=>?_⟩;have s6:=AZ hp3 (.AF ([V.int (u k)]++(Eg u n (k+1)).map V.int));have sall:=sm.trans (s24.trans (s5.trans s6));refine⟨sall,p3,_,_,_,rfl,(sm.trans (s24.trans s5)).free hp3,?_⟩;unfold Ce;rw[AU,show n-(i+1)=k by omega,Yt (show k<n by omega)]; rfl
 ·rintro σ H2 ⟨sm,l,u4,u5,u6,rfl,nl,hl⟩;subst hUL1;rw[mU] at hl;refine⟨_,rfl,l,rfl,⟨_,AQ.of hl⟩,λacc hacc=>?_⟩;have lf:(Eg u n 0).length=n:=by unfold Eg; simp
  refine CP (GO hl) (by rw[ig,lf]; omega) hacc (λj ys σ hp=>∃ds:List Addr,ys=ds.map V.ref/\At AS hp ds (((List.range n).map x).take j)/\∃v,σ=[v,some (.int c)]) ⟨[],rfl,At.nil,none,rfl⟩ ?_ ?_
  ·rintro j ys σ H4 z H5 hj s4 hacc4 ⟨ds,rfl,hD,v,rfl⟩ ⟨rfl,hx⟩ Cc hC;have hj2:j<n:=by rw[ig,lf] at hj; exact hj
   have g1:z=.int (u j):=by
    unfold Eg at hx;rw[iy,iy,j4 (by omega)] at hx
    have:=(je hx).symm
    rw[this]; simp
   subst g1;refine⟨_,rfl,_,rfl,u j,c,rfl,S.GD.2.2,λz=>absurd z S.c0,λ_ p hp=>?_⟩;have ef:BR (u j) c=fr (x j):=by
    rw[Fc _ _ S.c0];have h1:=S.whole j hj2;have h2:((c:Int):Rat)≠0:=by have:=S.c0; exact_mod_cast this
    have:((u j:Int):Rat) / ((c:Int):Rat)=x j:=by rw[h1]; grind
    rw[this]; rfl
   rw[ef];have s5:=AZ hp (.AG [.int (fr (x j)).1,.int (fr (x j)).2]);refine hC _ _ _ s5 ⟨ds++[p],by simp,?_,_,rfl⟩;have e:((List.range n).map x)[j]?=some (x j):=by rw[iy,j4 hj2]; rfl
   rw[DU e];exact(hD.keep As (EH acc s5)).snoc (AS.BQ (q:=x j) AU (s5 _ _ hacc4))
  ·rintro ys σ H4 s4 hacc4 hl4 ⟨ds,rfl,hD,v,rfl⟩;rw[ig,lf,jf (by simp)] at hD;refine⟨acc,_,rfl,.inl ⟨AQ.of hacc4,λp hp=>?_⟩⟩;have s5:=AZ hp (.AG (ds.map V.ref));exact q p _ ((sm.trans s4).trans s5) ((sm.trans s4).free hp) ⟨ds,AU,(hD.keep As (D5 H4 acc)).keep As s5⟩
theorem iT{H:Hp}{a b:Addr}{r:List Rat}{ys:List V}(h:A4 AS H b r)(e:H a=some (.AF ys)):A4 AS (BQ H a) b r:=by
 obtain⟨cs,h1,h2⟩:=h;exact⟨cs,GW h1 (λz=>by rw[z,e] at h1; cases h1),Lz e h2⟩
def CC(T:List (List Rat))(r:List Rat):List (List Rat):=List.zipWith (λrow q=>row++[q]) T r
theorem dH{B0 n d E' D:Nat}{J:List (List Rat)}(ok:TK n (n+1) d E' D J)(n0:0<n){T2:List (List Int)}{Z:List (List Int×AW)}{c:Int}{v:Av}(hb:((n+1)*B0) ^ n<2 ^ 8000)(B:Bi B0 n (n+1) n ((Dx J).map vr) T2 Z c v):
  ∃x u,WR B0 n T2 c x u/\(∀r∈J,fx n x (vq r)=0)/\dt n (n+1) J≠0:=by
 obtain⟨rfl,eD⟩:=B.fin;have lT:=B.F9;have rowm:∀i,i<n->T2.getD i []∈T2:=λi hi=>by
  rw[ir,ij (by omega)]; exact ka _
 obtain⟨x,hx⟩:=Zy (n:=n) (λi=>vr (T2.getD i [])) (λi hi=>by
   have:=(B.E2 i hi).1
   show((((T2.getD i []).getD i 0:Int)):Rat)≠0
   exact_mod_cast this) (λi j hi hj=>by
   show((((T2.getD i []).getD j 0:Int)):Rat)=0;rw[(B.E2 i hi).2 j hj]; rfl) n (i4 _)
 have hx0:∀i,i<n->fx n x (vr (T2.getD i []))=0:=λi hi=>hx i (by omega) hi
 have hA:∀a∈(Dx J).map vr,fx n x a=0:=B.JW (fx n x) (Ue n x) (λr hr=>by
  obtain⟨i,hi,er⟩:=ju hr
  have:=hx0 i (by omega)
  rw[ir,ij hi] at this;simp only[r8] at this;rw[er] at this; exact this) (by simp)
 have pz:((c:Int):Rat)≠0:=by have:=B.pz; exact_mod_cast this
 have wv:v=Ac ((Dx J).map vr) Aq:=B.all;have ex:∀j:Nat,∃k:Int,j<n->((k:Int):Rat)=c*x j/\BY k:=by
  intro j;by_cases hj:j<n
  ·obtain⟨l1,l2,l3⟩:=T6 hA hj;rw[eD,<-wv] at l3;obtain⟨k,hk⟩:=B.HZ (Jd n j);have bw:=B.Hr (Jd n j);rw[l1,hk] at bw;have hbk:k.natAbs<=((n+1)*B0) ^ n:=Fn bw;rcases l2 with h1 | h1
   ·refine⟨k,λ_=>⟨?_,km hbk hb⟩⟩;rw[<-hk]; rw[h1] at l3; grind
   ·refine⟨-k,λ_=>⟨?_,by unfold BY; rw[oI]; exact km hbk hb⟩⟩;rw[mH,<-hk]; rw[h1] at l3; grind
  ·exact⟨0,λh=>absurd h hj⟩
 obtain⟨u,hu⟩:=Classical.axiomOfChoice ex;have bigT:∀r∈T2,∀y∈r,BY y:=λr hr y hy=>by
  obtain⟨j,rfl⟩:=Wd.mem_getD hy;exact km (Fn (B.Ik r hr j)) hb
 refine⟨x,u,⟨n0,lT,B.IU,B.pz,B.Hh n0,B.E2,hx0,λj hj=>(hu j hj).1,bigT,λj hj=>(hu j hj).2,VN B hb⟩,?_,?_⟩
 ·intro r hr;obtain⟨c1,c2,_⟩:=ok.hcb hr;have h1:=hA (vr (r.map (wh (cb r)))) (oH (i7.mpr ⟨r,hr,rfl⟩));rw[Of c2] at h1;exact(Q4 (by exact_mod_cast (show cb r≠0 by omega))).mp h1
 ·intro z;have sc:=Mr (n:=n) (m:=n+1) J cb (λr hr=>(ok.hcb hr).2.1);rw[z] at sc;have e2:ld n (n+1) (Ac ((Dx J).map vr) Aq)=c:=eD
  have:((c:Int):Rat)=0:=by rw[<-e2]; unfold Dx; rw[sc]; grind
  exact pz this
inductive Qv(C2:Addr)(vs:List V)(H:Hp)(Q:VK)(E:XK):Prop
 | mk (a b:Addr) (T:List (List Rat)) (r:List Rat) (n d E' D:Nat) (h_0:vs=[.ref a,.ref b]) (h_1:A4 (A4 AS) H a T) (h_2:A4 AS H b r) (h_3:T.length=n) (h_4:r.length=n) (h_5:(∀x∈T,x.length=n)) (h_6:TK n (n+1) d E' D (CC T r)) (h_7:(dt n (n+1) (CC T r)=0->∀H',AN H H'->False)) (h_8:(dt n (n+1) (CC T r)≠0->∀p H' x,AN H H'->(∀y∈CC T r,fx n x (vq y)=0)->A4 AS H' p ((List.range n).map x)->Q (.ref p) H')):Qv C2 vs H Q E
def Rr(C2:Addr):Sp:=λvs H Q E=>Qv C2 vs H Q E
theorem PR:A2 ["table","right","joined","rows"] ["table","right"] (Ap sAnswer):=A8
theorem Vk:(["row","number"]:List Str).Nodup:=by decide +kernel
theorem Xm (F:Ar K "answer" "answer" sAnswer f fd) (G1:Al P w K mg base 2 "common_bottom" ["row"] PY)
  (G2:Al P w K mg base 1 "wholes" ["row","bottom"] NF)
  (G3:Al P w K mg base 2 "swept" ["rows"] SU)
  (G4:Al P w K mg base 3 "found_back" ["rows"] UU)
  (ml:mg "len" = none) (mz:mg "zip" = none):Ao P w K mg base Ay 4 f fd ["table","right"] (Rr C2):=by
 refine F.A9 PR λcdv A outer s H vs Q E hr h=>?_
 obtain⟨a,b,T,r,n,d,E',D,rfl,⟨bs,ha,hA⟩,⟨cs,hb,hB⟩,lT,lr,cT,ok,q0,q1⟩:=h;have hr2:=hr.mono (show 2<=3 by decide);have hr1:=hr.mono (show 1<=3 by decide);refine⟨_,AR (Bl (BN EX (Au Jm (by rfl) ml BO (AA (pv 0) AB)) AE (BH _)) (AV (An (Bf AB))) B7)
  (AR (Iq (i:=2) PR.nd rfl (Or.inl rfl) (Nc:=["row","number"]) (cap:=[]) (g:=IW K 2 (GZ (BU 0) (GZ (BU 1) Kx))) (te:=Bd (U8 K) (Aj 0) (Kl (BI (Aj 1) By))) rfl (NZ (t1:=true) (t2:=true) (by rfl) mz (AA (pv 0) (AA (pv 1) AB)))
   (CB rfl rfl (by decide +kernel) (by decide +kernel) (i6 _) rfl (i6 _)) (λ_ _ _ _ _=>II rfl (BF (Ae (i:=0) Vk rfl (Or.inl rfl)) (BF (Ae (i:=1) Vk rfl (Or.inl rfl)) Cq)))
   (λ_ _ _ _ _=>AM Lf (pv 0) (Bf (AA (pv 1) AB))))
  (AR (AX (i:=3) PR.nd rfl (Or.inl rfl) (Aa G3 hr2 (AA (C5 (Nc:=["row"]) (cap:=[]) (g:=BU 0) (te:=DI NF [] E0 (BI (Aj 0) (BI (DI PY [] E0 (BI (Aj 0) By)) By))) rfl (JH (pv 2))
   (CB rfl rfl (by decide +kernel) (by decide +kernel) (i6 _) rfl (i6 _)) (λ_ _ _ _ _=>Ae (i:=0) gh rfl (Or.inl rfl))
   (λ_ _ _ _ _=>Aa G2 hr1 (AA (pv 0) (AA (Aa G1 hr2 (AA (pv 0) AB)) AB)))) AB)))
  (AR (Bl (BN T4 (pv 3) KW (BH _)) (AV NI) B7)
  (AV (An (Aa G4 hr (AA (pv 3) AB))))))),?_⟩
 have lb:bs.length=n:=by rw[hA.1]; exact lT
 have lc:cs.length=n:=by rw[hB.1]; exact lr
 have n15:=ok.WQ;refine⟨_,rfl,a,_,rfl,.inr (AI.of ha),rfl,_,rfl,?_⟩;by_cases hn0:n=0
 ·subst hn0;refine De (iv (by rw[ig,lb]; rfl)) ?_;have e1:T=[]:=ku.mp lT;subst e1;refine⟨by exact Gq,λp hp=>q1 ?_ p _ (λ_=>0) (AZ hp _) (by simp[CC]) ⟨[],AU,At.nil⟩⟩
  have:dt 0 1 (CC [] r)=1:=by unfold dt CC; exact OY 1
  rw[this]; grind
 refine DP (EE (by rw[ig,lb]; omega)) ?_;have lJ:(CC T r).length=n:=ok.len;have jg:∀i row q,T[i]?=some row->r[i]?=some q->(CC T r)[i]?=some (row++[q]):=λi row q h1 h2=>by
  unfold CC;rw[mQ,h1,h2]
 refine⟨_,rfl,_,rfl,a,b,rfl,⟨_,B5.t ha⟩,⟨_,B5.t hb⟩,λacc hacc=>?_⟩;refine CP (N7 (xs:=bs.map V.ref) (ys:=cs.map V.ref) (λH3 s=>B5.t (s _ _ ha)) (λH3 s=>B5.t (s _ _ hb)) (by rw[ig,ig]; omega)) (by rw[ig]; omega) hacc
  (λi ys σ hp=>∃ds:List Addr,ys=ds.map V.ref/\At (A4 AS) hp ds ((CC T r).take i)/\∃u v,σ=[u,v]) ⟨[],rfl,At.nil,none,none,rfl⟩ ?_ ?_
 ·rintro i ys σ H3 z H4 hi sm hacc3 ⟨ds,rfl,hD,u,v,rfl⟩ ⟨t,n1,n2,rfl,ht,rfl,hn1,hn2⟩ Cc hC;obtain⟨c1,row,rfl,_,hrow,es,hes,hEs⟩:=hA.ref hn1;obtain⟨c2,qq,rfl,_,hqq,hfq⟩:=hB.ref hn2;have s3:AN H3 (AJ H3 t (.AG [.ref c1,.ref c2])):=AZ ht _;have rl:row.length=n:=cT row (iq hrow);have esl:es.length=n:=by rw[hEs.1]; exact rl
  refine⟨t,_,rfl,AI.of AU,rfl,_,_,rfl,_,_,rfl,rfl,?_⟩;refine⟨_,rfl,_,rfl,by exact Gr,λt1 ht1=>?_⟩;have s4:=AZ ht1 (.AG [.ref c2]);have s34:=s3.trans s4;refine⟨c1,t1,es.map V.ref,[.ref c2],rfl,rfl,AI.of (s34 _ _ (sm _ _ hes)),AI.of AU,?_,by simp; exact FQ (by omega),λz=>by simp at z,λ_ p hp=>?_⟩
  ·intro z;have z2:=congrArg List.length z;simp only[ig,lC] at z2;omega
  have s5:=AZ hp (.AG (es.map V.ref++[.ref c2]));have s35:=s34.trans s5;refine hC _ _ _ s35 ⟨ds++[p],by simp,?_,_,_,rfl⟩;rw[DU (jg i row qq hrow hqq)];refine(hD.keep GY (EH acc s35)).snoc (iT ⟨es++[c2],by rw[AU]; simp,?_⟩ (s35 _ _ hacc3));exact(hEs.keep As (sm.trans s35)).snoc ((sm.trans s35) _ _ hfq)
 rintro ys σ1 H2 s2 hacc2 hl2 ⟨ds,rfl,hD,u,v,rfl⟩;rw[ig,lb,jf (by omega)] at hD;have hD2:=hD.keep GY (D5 H2 acc);have ld2:ds.length=n:=by rw[hD.1]; exact lJ
 refine⟨_,rfl,acc,rfl,⟨_,AQ.of hacc2⟩,λac2 hac2=>?_⟩;refine CP (GO hacc2) (by rw[ig]; omega) hac2 (λi ys σ hp=>∃gs:List Addr,ys=gs.map V.ref/\At Ce hp gs ((Dx (CC T r)).take i)/\∃u,σ=[u]) ⟨[],rfl,At.nil,none,rfl⟩ ?_ ?_
 ·rintro i ys σ H3 z H4 hi sm hac3 ⟨gs,rfl,hG,u,rfl⟩ ⟨rfl,hx⟩ Cc hC;obtain⟨c,row,rfl,_,hrow,hR⟩:=hD2.ref hx;have rm:row∈CC T r:=iq hrow;have hR3:=GY sm hR
  have:=ok.bd
  refine⟨_,rfl,_,rfl,c,row,d,rfl,hR3,λq hq=>ok.den row rm q hq,by rw[ok.FV row rm]; omega,?_⟩;refine⟨c,row,cb row,rfl,hR3,by rw[ok.FV row rm]; omega,ok.wb rm,λp H5 s5 np hp=>?_⟩;refine hC _ _ _ s5 ⟨gs++[p],by simp,?_,_,rfl⟩;have ne:p≠ac2:=λz=>by rw[z,hac3] at np; cases np
  have e3:(Dx (CC T r))[i]?=some (row.map (wh (cb row))):=by unfold Dx; rw[iy,hrow]; rfl
  rw[DU e3];exact(hG.keep FF (EH ac2 s5)).snoc (GW hp ne)
 rintro ys σ2 H3 s3 hac3 hl3 ⟨gs,rfl,hG,u,rfl⟩;have lw:(Dx (CC T r)).length=n:=by unfold Dx; rw[ig]; exact lJ
 rw[ig,ld2,jf (by omega)] at hG;refine⟨ac2,Dx (CC T r),n,n+1,2 ^ E',rfl,⟨gs,hac3,hG.keep FF (D5 H3 ac2)⟩,lw,by omega,by omega,λr hr=>(ok.Pk r hr).1,Nat.one_le_two_pow,λr hr=>(ok.Pk r hr).2,ok.GD,?_,?_⟩
 ·intro H4 s4 h0;refine⟨_,rfl,rfl,_,rfl,De rfl ?_⟩;refine q0 ?_ H4 (s2.trans (s3.trans s4));have sc:=Mr (n:=n) (m:=n+1) (CC T r) cb (λr hr=>(ok.hcb hr).2.1);obtain⟨pp,pl⟩:=Q3 ((CC T r).map cb) (d:=D) (λb hb=>by
   obtain⟨r,hr,rfl⟩:=i7.mp hb;exact⟨(ok.hcb hr).1,(ok.hcb hr).2.2⟩)
  have pq:((EY ((CC T r).map cb):Int):Rat)≠0:=by
   have:EY ((CC T r).map cb)≠0:=by omega
   exact_mod_cast this
  have h1:((EY ((CC T r).map cb):Int):Rat)*dt n (n+1) (CC T r)=0:=by rw[<-sc]; exact h0
  grind
 ·intro p H4 T2 s4 hL ⟨Z,c,v,B⟩;refine⟨_,rfl,rfl,_,rfl,DP (λz=>by cases z) ?_⟩;obtain⟨x,u,S,hx,hd⟩:=dH ok (by omega) ok.GD B;exact⟨_,rfl,p,_,n,T2,c,x,u,rfl,hL,by omega,S,λp5 H5 s5 np5 hp5=>q1 hd p5 H5 x (s2.trans (s3.trans (s4.trans s5))) hx hp5⟩
abbrev MK(H:Hp)(Q:VK)(q:Rat):Prop:=∀p,H p=none->Q (.ref p) (AJ H p (.AG [.int q.num,.int q.den]))
abbrev Sf(q:Rat):Prop:=Sb 3900 3900 q
theorem Sf.n{q:Rat}(h:Sf q):BY q.num:=Gh h.1 (by decide)
theorem Sf.d{q:Rat}(h:Sf q):BY (q.den:Int):=Gh (n:=3900) (by simpa using h.2) (by decide)
theorem Sf.dd{p q:Rat}(h:Sf p)(g:Sf q):BY ((p.den:Int)*(q.den:Int)):=by
 refine Gh (n:=7800) ?_ (by decide);rw[jG,jz,jz];exact C3 h.2 g.2
inductive UK(op:Rat->Rat->Rat)(vs:List V)(H:Hp)(Q:VK):Prop
 | mk (p q:Addr) (x y:Rat) (h_0:vs=[.ref p,.ref q]) (h_1:AS H p x) (h_2:AS H q y) (h_3:Sf x) (h_4:Sf y) (h_5:MK H Q (op x y)):UK op vs H Q
def DY(op:Rat->Rat->Rat):Sp:=λvs H Q _=>UK op vs H Q
theorem eI:A2 ["one","other"] ["one","other"] (Ap sPlus):=A8
theorem Z5(F:Ar K "plus" "plus" sPlus f fd)(G:Al P w K mg base 2 "fraction" ["top","bottom"] (IL C)):
  Ao P w K mg base Ay 3 f fd ["one","other"] (DY λx y=>x+y):=by
 refine F.A9 eI λcdv A outer s H vs Q E hr h=>?_
 obtain⟨p,q,x,y,rfl,hp,hq,sx,sy,k⟩:=h;refine⟨_,AV (An (Aa G hr (AA (AM Bc (AM DG (A6 Bu (pv 0) AE (λ_ _=>rfl)) (A6 Bu (pv 1) AE (λ_ _=>rfl))) (AM DG (A6 Bu (pv 1) AE (λ_ _=>rfl)) (A6 Bu (pv 0) AE (λ_ _=>rfl)))) (AA (AM DG (A6 Bu (pv 0) AE (λ_ _=>rfl)) (A6 Bu (pv 1) AE (λ_ _=>rfl))) AB)))),?_⟩;refine⟨_,rfl,p,_,_,_,rfl,rfl,AI.of hp,BE,_,rfl,q,_,_,_,rfl,rfl,AI.of hq,A3,_,_,rfl,rfl,⟨sx.n,sy.d⟩,_,rfl,q,_,_,_,rfl,rfl,AI.of hq,BE,_,rfl,p,_,_,_,rfl,rfl,AI.of hp,A3,_,_,rfl,rfl,⟨sy.n,sx.d⟩,_,_,rfl,rfl,
  _,rfl,p,_,_,_,rfl,rfl,AI.of hp,A3,_,rfl,q,_,_,_,rfl,rfl,AI.of hq,A3,_,_,rfl,rfl,⟨sx.d,sy.d⟩,_,_,rfl,Sf.dd sx sy,λz=>absurd z (Je x y),λ_ t ht=>?_⟩
 have e:=UX x y;have q1:=k t ht;have e1:=congrArg Prod.fst e;have e2:=congrArg Prod.snd e;simp only[fr] at e1 e2;rw[e1,e2];exact q1
theorem de:A2 ["one","other"] ["one","other"] (Ap sMinus):=A8
theorem Ys(F:Ar K "minus" "minus" sMinus f fd)(G:Al P w K mg base 2 "fraction" ["top","bottom"] (IL C)):
  Ao P w K mg base Ay 3 f fd ["one","other"] (DY λx y=>x-y):=by
 refine F.A9 de λcdv A outer s H vs Q E hr h=>?_
 obtain⟨p,q,x,y,rfl,hp,hq,sx,sy,k⟩:=h;refine⟨_,AV (An (Aa G hr (AA (AM DW (AM DG (A6 Bu (pv 0) AE (λ_ _=>rfl)) (A6 Bu (pv 1) AE (λ_ _=>rfl))) (AM DG (A6 Bu (pv 1) AE (λ_ _=>rfl)) (A6 Bu (pv 0) AE (λ_ _=>rfl)))) (AA (AM DG (A6 Bu (pv 0) AE (λ_ _=>rfl)) (A6 Bu (pv 1) AE (λ_ _=>rfl))) AB)))),?_⟩;refine⟨_,rfl,p,_,_,_,rfl,rfl,AI.of hp,BE,_,rfl,q,_,_,_,rfl,rfl,AI.of hq,A3,_,_,rfl,rfl,⟨sx.n,sy.d⟩,_,rfl,q,_,_,_,rfl,rfl,AI.of hq,BE,_,rfl,p,_,_,_,rfl,rfl,AI.of hp,A3,_,_,rfl,rfl,⟨sy.n,sx.d⟩,_,_,rfl,rfl,
  _,rfl,p,_,_,_,rfl,rfl,AI.of hp,A3,_,rfl,q,_,_,_,rfl,rfl,AI.of hq,A3,_,_,rfl,rfl,⟨sx.d,sy.d⟩,_,_,rfl,Sf.dd sx sy,λz=>absurd z (Je x y),λ_ t ht=>?_⟩
 have e:=Oa x y;have q1:=k t ht;have e1:=congrArg Prod.fst e;have e2:=congrArg Prod.snd e;simp only[fr] at e1 e2;rw[e1,e2];exact q1
theorem dg:A2 ["one","other"] ["one","other"] (Ap sTimes):=A8
theorem Yy(F:Ar K "times" "times" sTimes f fd)(G:Al P w K mg base 2 "fraction" ["top","bottom"] (IL C)):
  Ao P w K mg base Ay 3 f fd ["one","other"] (DY λx y=>x*y):=by
 refine F.A9 dg λcdv A outer s H vs Q E hr h=>?_
 obtain⟨p,q,x,y,rfl,hp,hq,sx,sy,k⟩:=h;refine⟨_,AV (An (Aa G hr (AA (AM DG (A6 Bu (pv 0) AE (λ_ _=>rfl)) (A6 Bu (pv 1) AE (λ_ _=>rfl))) (AA (AM DG (A6 Bu (pv 0) AE (λ_ _=>rfl)) (A6 Bu (pv 1) AE (λ_ _=>rfl))) AB)))),?_⟩;refine⟨_,rfl,p,_,_,_,rfl,rfl,AI.of hp,BE,_,rfl,q,_,_,_,rfl,rfl,AI.of hq,BE,_,_,rfl,rfl,⟨sx.n,sy.n⟩,
  _,rfl,p,_,_,_,rfl,rfl,AI.of hp,A3,_,rfl,q,_,_,_,rfl,rfl,AI.of hq,A3,_,_,rfl,rfl,⟨sx.d,sy.d⟩,_,_,rfl,Sf.dd sx sy,λz=>absurd z (Je x y),λ_ t ht=>?_⟩
 have e:=T9 x y;have q1:=k t ht;have e1:=congrArg Prod.fst e;have e2:=congrArg Prod.snd e;simp only[fr] at e1 e2;rw[e1,e2];exact q1
abbrev LF:Hp->Addr->List Rat->Prop:=Ex AS
theorem MI:Mo LF:=λs h=>Lx (R:=AS) (λs h=>As s h) s h
theorem TN{H:Hp}{a b:Addr}{r:List Rat}{ys:List V}(h:LF H b r)(n:b≠a)(e:H a=some (.AF ys)):LF (BQ H a) b r:=by
 obtain⟨cs,h1,h2⟩:=h;exact⟨cs,GW h1 n,Lz e h2⟩
theorem Tg{H:Hp}{a:Addr}{bs:List Addr}{qs:List Rat}{ys:List V}(h:At AS H bs qs)(e:H a=some (.AF ys))(o:HO):At AS (AJ H a o) bs qs:=(Lz e h).keep As (OD H a o)
def Bg(H:Hp)(b:Addr)(r:AO):Prop:=∃e,H b=some (.AG [.int (r.1:Int),.int (r.2.1:Int),.ref e])/\AS H e r.2.2
theorem D3:Mo Bg:=λs ⟨e,h1,h2⟩=>⟨e,s _ _ h1,s _ _ h2⟩
def Pb(H:Hp)(a:Addr)(n:Nat)(rs:List AO):Prop:=∃(r:Addr) (t:V),H a=some (.AG [.int (n:Int),.ref r,t])/\A4 Bg H r rs
structure E4(H:Hp)(R:Addr)(bs:List Addr)(T:List (List Rat)):Prop where
 h1:H R=some (.AF (bs.map V.ref))
 rows:At LF H bs T
 nd:(R :: bs).Nodup
theorem E4.keep{H H':Hp}{R:Addr}{bs:List Addr}{T:List (List Rat)}(M:E4 H R bs T)(s:AN H H'):E4 H' R bs T:=⟨s _ _ M.h1,M.rows.keep MI s,M.nd⟩
theorem VM{l:List Addr}(h:l.Nodup){i j:Nat}{b:Addr}(h1:l[i]?=some b)(h2:l[j]?=some b):i=j:=by
 obtain⟨i1,e1⟩:=ip.mp h1;obtain⟨j1,e2⟩:=ip.mp h2;have hp:=nA.mp h;rcases ph i j with z | z | z
 ·exact absurd (e1.trans e2.symm) (hp i j i1 j1 z)
 ·exact z
 ·exact absurd (e2.trans e1.symm) (hp j i j1 i1 z)
theorem E4.E1{H:Hp}{R b p:Addr}{bs cs:List Addr}{T:List (List Rat)}{i j:Nat}{v:Rat}(M:E4 H R bs T)(hb:bs[i]?=some b)(hc:H b=some (.AF (cs.map V.ref)))(hr:At AS H cs (T.getD i []))(hp:AS H p v):
  E4 (AJ H b (.AF ((cs.map V.ref).set j (.ref p)))) R bs (C9 T i j v):=by
 have bm:b∈bs:=iq hb;obtain⟨n1,n2⟩:=jV.mp M.nd;have e1:R≠b:=λz=>n1 (by rw[z]; exact bm)
 refine⟨by rw[Ad e1]; exact M.h1,⟨by unfold C9; rw[k9]; exact M.rows.1,λk c x q1 q2=>?_⟩,M.nd⟩;unfold C9 at q2;by_cases hk:i=k
 ·subst hk;rw[hb] at q1;cases q1;have hl:i<T.length:=by rw[<-M.rows.1]; exact(ip.mp hb).1
  rw[jR hl] at q2;cases q2;refine⟨cs.set j p,by rw[AU,mS],Tg (hr.set j hp) hc _⟩
 ·rw[jF hk] at q2;have ne:c≠b:=λz=>hk (VM n2 hb (by rw[q1,z]))
  exact MI (OD H b _) (TN (M.rows.2 k c x q1 q2) ne hc)
theorem E4.get{H:Hp}{R:Addr}{bs:List Addr}{T:List (List Rat)}{n i j:Nat}(M:E4 H R bs T)(q:Sq n T)(hi:i<n)(hj:j<n):∃b cs c,bs[i]?=some b/\H b=some (.AF (cs.map V.ref))/\At AS H cs (T.getD i [])/\cs[j]?=some c/\AS H c (en T i j)/\cs.length=n:=by
 obtain⟨l,e⟩:=q.row hi;obtain⟨b,hb,cs,h1,h2⟩:=M.rows.get e;have ej:(T.getD i [])[j]?=some ((T.getD i [])[j]'(by omega)):=ij _;obtain⟨c,h3,h4⟩:=h2.get ej;refine⟨b,cs,c,hb,h1,h2,h3,?_,by rw[h2.1]; exact l⟩
 have:en T i j=(T.getD i [])[j]'(by omega):=by unfold en; rw[ir,ej]; rfl
 rw[this]; exact h4
theorem aw(n:Nat)(t:Addr):(List.replicate n [V.ref t]).flatten=(List.replicate n t).map V.ref:=by
 induction n with
 | zero=>rfl
 | succ n ih=>rw[jE,jx,ih,jE]; rfl
theorem L4 {σ:St} {H H0:Hp} {D:DQ} {op:Rat->Rat->Rat} {R e:Addr} {bs:List Addr} {T:List (List Rat)} {n i j a b:Nat} {q:Rat} (hR:σ[1]?=some (some (.ref R))) (ha:σ[a]?=some (some (.int (i:Int)))) (hb:σ[b]?=some (some (.int (j:Int)))) (he:σ[4]?=some (some (.ref e)))
  (M:E4 H R bs T) (sq:Sq n T) (hi:i<n) (hj:j<n) (fe:AS H e q) (s1:Sf (en T i j)) (s2:Sf q) (sm:AN H0 H) (fr:∀b∈bs,H0 b=none)
  (k:∀H',AN H0 H'->E4 H' R bs (C9 T i j (op (en T i j) q))->AS H' e q->D.nx σ H') :
  JX (DI (DY op) [] E0 (BI (Bd (HX K) (Bd (HX K) (Aj 1) (Aj a)) (Aj b)) (BI (Aj 4) By))) (WI (Bd (HX K) (Aj 1) (Aj a)) (Aj b) U3) D σ H:=by
 obtain⟨b1,cs,c,h1,h2,h3,h4,h5,h6⟩:=M.get sq hi hj;refine⟨_,hR,_,ha,R,_,_,_,rfl,rfl,AQ.of M.h1,BX (CT h1),_,hb,b1,_,_,_,rfl,rfl,AQ.of h2,BX (CT h4),_,he,c,e,_,_,rfl,h5,fe,s1,s2,λp hp=>?_⟩;have s3:=AZ hp (.AG [.int (op (en T i j) q).num,.int (op (en T i j) q).den]);refine⟨_,hR,_,ha,R,_,_,_,rfl,rfl,AQ.of (s3 _ _ M.h1),BX (CT h1),_,hb,b1,_,_,_,rfl,rfl,s3 _ _ h2,N8 (by rw[ig]; omega),?_⟩;have bn:H0 b1=none:=fr b1 (iq h1);refine k _ (Nu (sm.trans s3) bn _) ((M.keep s3).E1 h1 (s3 _ _ h2) (h3.keep As s3) AU) ?_;exact As (OD _ b1 _) (AS.BQ (s3 _ _ fe) (s3 _ _ h2))
inductive SN(vs:List V)(H:Hp)(Q:VK):Prop
 | mk (a:Addr) (n α β:Nat) (rs:List AO) (h_0:vs=[.ref a]) (h_1:Pb H a n rs) (h_2:n<=100) (h_3:rs.length<=100) (h_4:(∀r∈rs,r.1<n/\r.2.1<n/\Sb α β r.2.2)) (h_5:α+(β+1)*rs.length<=3900) (h_6:β*rs.length<=3900) (h_7:∀p H',AN H H'->A4 (A4 AS) H' p (Bj n rs)->Q (.ref p) H'):SN vs H Q
def Ta:Sp:=λvs H Q _=>SN vs H Q
theorem Ks:A2 ["net","rows","one","other","ease"] ["net"] (Ap sEaseTable):=A8
theorem fh:(["place","net"]:List Str).Nodup:=by decide +kernel
theorem Ot:(["row"]:List Str).Nodup:=by decide +kernel
def dD(K:PySem.W.Frag):List V->Hp->VK->Prop:=λxs H Q=>∃p ys,xs=[.ref p]/\((AQ K H p ys/\∀l,H l=none->Q (.ref l) (AJ H l (.AG ys)))\/(AI K H p ys/\Q (.ref p) H))
theorem Vu{H:Hp}{a b:Addr}{r:List Rat}{ys:List V}(h:A4 AS H b r)(e:H a=some (.AF ys)):A4 AS (BQ H a) b r:=by
 obtain⟨cs,h1,h2⟩:=h;exact⟨cs,GW h1 (λz=>by rw[z,e] at h1; cases h1),Lz e h2⟩
theorem GU:Mo (A4 AS):=λs h=>Fq (R:=AS) (λs h=>As s h) s h
theorem bY{α β:Nat}{r:AO}(h:Sb α β r.2.2)(i j:Nat):DA r i j=0\/DA r i j=r.2.2\/DA r i j=-r.2.2:=by
 unfold DA;by_cases e:r.1=r.2.1
 ·rw[i5 e]; exact .inl rfl
 ·rw[iz e];by_cases a:i=r.1/\j=r.1
  ·have b:¬(i=r.2.1/\j=r.2.1):=λz=>e (a.1.symm.trans z.1)
   have c:¬(i=r.1/\j=r.2.1):=λz=>e (a.2.symm.trans z.2)
   have d:¬(i=r.2.1/\j=r.1):=λz=>e (a.1.symm.trans z.1)
   rw[i5 a,iz b,iz c,iz d]; right; left; grind
  ·rw[iz a];by_cases b:i=r.2.1/\j=r.2.1
   ·have c:¬(i=r.1/\j=r.2.1):=λz=>e (z.1.symm.trans b.1)
    have d:¬(i=r.2.1/\j=r.1):=λz=>e (z.2.symm.trans b.2)
    rw[i5 b,iz c,iz d]; right; left; grind
   ·rw[iz b];by_cases c:i=r.1/\j=r.2.1
    ·have d:¬(i=r.2.1/\j=r.1):=λz=>e (c.1.symm.trans z.1)
     rw[i5 c,iz d]; right; right; grind
    ·rw[iz c];by_cases d:i=r.2.1/\j=r.1
     ·rw[i5 d]; right; right; grind
     ·rw[iz d]; left; grind
def GI(n α β k:Nat)(T:List (List Rat)):Prop:=Sq n T/\∀i j,Sb (α+(β+1)*k) (β*k) (en T i j)
theorem GI.zero(n α β:Nat):GI n α β 0 (EL n):=⟨S9 n,λi j=>by rw[R1]; exact Sb.zero.mono (jS _) (jS _)⟩
theorem GI.Aq{n α β k:Nat}{T:List (List Rat)}(h:GI n α β k T){q:Rat}(hq:Sb α β q)(i j:Nat):Sb (α+(β+1)*(k+1)) (β*(k+1)) (en T i j+q)/\Sb (α+(β+1)*(k+1)) (β*(k+1)) (en T i j-q):=by
 have m1:β*k<=(β+1)*k:=mZ _ (by omega);constructor
 ·have:=(h.2 i j).Dt hq (N:=α+(β+1)*k+β) (by omega) (by omega)
  exact this.mono (by rw[kO]; omega) (by rw[kO]; omega)
 ·have:=(h.2 i j).Di hq (N:=α+(β+1)*k+β) (by omega) (by omega)
  exact this.mono (by rw[kO]; omega) (by rw[kO]; omega)
theorem GI.step{n α β k:Nat}{T:List (List Rat)}(h:GI n α β k T){r:AO}(h1:r.1<n)(h2:r.2.1<n)(hq:Sb α β r.2.2):GI n α β (k+1) (Ca T r):=by
 obtain⟨a,b⟩:=QJ h.1 h1 h2;refine⟨a,λi j=>?_⟩;rw[b];have o:=h.Aq hq i j;rcases bY hq i j with e | e | e
 ·rw[e,Rat.add_zero];exact(h.2 i j).mono (by rw[kO]; omega) (by rw[kO]; omega)
 ·rw[e]; exact o.1
 ·rw[e,<-Rat.sub_eq_add_neg]; exact o.2
theorem aN(F:Ar K "ease_table" "ease_table" sEaseTable f fd)(G1:Al P w K mg base 3 "plus" ["one","other"] (DY λx y=>x+y))(G2:Al P w K mg base 3 "minus" ["one","other"] (DY λx y=>x-y))(mr:mg "range" = none)(mt:mg "tuple" = none):
  Ao P w K mg base Ay 4 f fd ["net"] Ta:=by
 refine F.A9 Ks λcdv A outer s H vs Q E hr h=>?_
 obtain⟨a,n,α,β,rs,rfl,⟨ra,tv,ha,bs,hra,hRs⟩,hn,hm,hrs,z1,z2,q⟩:=h;refine⟨_,AR (Iq (i:=1) Ks.nd rfl (Or.inl rfl) (Nc:=["place","net"]) (cap:=[(1,0)]) (g:=BU 0) (te:=Bd WH (Vz (BI (Kl (BI (tC (.int 0)) (BI (tC (.int 1)) By))) By)) (Bd (Fy K) (Aj 1) (tC (.int 0)))) rfl (Iw (by rfl) mr (AA (A6 Bu (pv 0) AE (λ_ _=>rfl)) AB))
   (CB rfl rfl (by decide +kernel) (by decide +kernel) (jb.mpr ⟨⟨rfl,rfl⟩,i6 _⟩) rfl (jb.mpr ⟨⟨_,_,rfl,rfl,rfl,rfl,rfl⟩,i6 _⟩))
   (λ_ _ _ _ _=>Ae (i:=0) fh rfl (Or.inl rfl)) (λ_ _ _ _ _=>AM OO (Cd (AA (Bf (AA AE (AA AE AB))) AB)) (A6 Bu (pv 1) AE (λ_ _=>rfl))))
  (AR (CQ jt rfl (Fs (A6 Bu (pv 0) AE (λ_ _=>rfl))) (II rfl (BF (Ae (i:=2) Ks.nd rfl (Or.inl rfl)) (BF (Ae (i:=3) Ks.nd rfl (Or.inl rfl)) (BF (Ae (i:=4) Ks.nd rfl (Or.inl rfl)) Cq))))
   (AV (Bl (BN Dd (pv 2) (pv 3) (BH _))
    (AR (Dr (Aa G1 hr (AA (A6 B8 (A6 B8 (pv 1) (pv 2) (λ_ _=>rfl)) (pv 2) (λ_ _=>rfl)) (AA (pv 4) AB))) (Fu (A6 B8 (pv 1) (pv 2) (λ_ _=>rfl)) (pv 2) Fh))
    (AR (Dr (Aa G1 hr (AA (A6 B8 (A6 B8 (pv 1) (pv 3) (λ_ _=>rfl)) (pv 3) (λ_ _=>rfl)) (AA (pv 4) AB))) (Fu (A6 B8 (pv 1) (pv 3) (λ_ _=>rfl)) (pv 3) Fh))
    (AR (Dr (Aa G2 hr (AA (A6 B8 (A6 B8 (pv 1) (pv 2) (λ_ _=>rfl)) (pv 3) (λ_ _=>rfl)) (AA (pv 4) AB))) (Fu (A6 B8 (pv 1) (pv 2) (λ_ _=>rfl)) (pv 3) Fh))
    (AV (Dr (Aa G2 hr (AA (A6 B8 (A6 B8 (pv 1) (pv 3) (λ_ _=>rfl)) (pv 2) (λ_ _=>rfl)) (AA (pv 4) AB))) (Fu (A6 B8 (pv 1) (pv 3) (λ_ _=>rfl)) (pv 2) Fh)))))) B7)))
  (AV (An (Cy Fb (by rfl) mt B6 (AA (C5 (Nc:=["row"]) (cap:=[]) (g:=BU 0) (te:=K2 (dD K) (BI (Aj 0) By)) rfl (JH (pv 1))
   (CB rfl rfl (by decide +kernel) (by decide +kernel) (i6 _) rfl (i6 _)) (λ_ _ _ _ _=>Ae (i:=0) Ot rfl (Or.inl rfl)) (λ_ _ _ _ _=>Cy Fb (by rfl) mt B6 (AA (pv 0) AB))) AB))))),?_⟩
 have at0':∀x y z:V,Bt [x,y,z] 0=some x:=λx y z=>BX (j:=0) rfl
 have at1':∀x y z:V,Bt [x,y,z] 1=some y:=λx y z=>BX (j:=1) rfl
 refine⟨_,rfl,a,_,_,_,rfl,rfl,AI.of ha,at0' _ _ _,((n:Nat):Int),rfl,by omega,by omega,λacc hacc=>?_⟩;rw[show((n:Nat):Int).toNat=n by omega];refine CP Qs (by omega) hacc (λi ys σ hp=>∃ds:List Addr,ys=ds.map V.ref/\At LF hp ds (List.replicate i (List.replicate n 0))/\ds.Nodup/\(∀d∈ds,H d=none)/\∃u,σ=[u,some (.ref a)]) ⟨[],rfl,At.nil,by simp,by simp,none,rfl⟩ ?_ ?_
 ·rintro i ys σ H2 x H3 hi sm hacc2 ⟨ds,rfl,hD,nd,fr,u,rfl⟩ ⟨rfl,rfl⟩ Cc hC;refine⟨by exact CA,λt ht=>⟨by exact Gr,λl hl=>?_⟩⟩;obtain⟨H4,zg,s1,zz⟩:=nw ht (.AG [.int 0,.int 1]);rw[zg] at hl ⊢;have e1:AS H4 t 0:=zz;obtain⟨H5,zg,s2,e2⟩:=nw hl (.AF [.ref t]);rw[zg];have s12:=s1.trans s2;refine⟨_,rfl,a,_,_,_,rfl,rfl,AI.of (s12 _ _ (sm _ _ ha)),at0' _ _ _,l,((n:Nat):Int),[.ref t],rfl,rfl,e2,by omega,by omega,by simp; exact FQ (by omega),λp hp=>?_⟩;rw[show((n:Nat):Int).toNat=n by omega];rw[aw];have s3:=AZ hp (.AF ((List.replicate n t).map V.ref));have s13:=s12.trans s3;have pacc:p≠acc:=λz=>by rw[z,s12 _ _ hacc2] at hp; cases hp
  have pf:H p=none:=(sm.trans s12).free hp;refine hC _ _ _ s13 ⟨ds++[p],by simp,?_,?_,?_,_,rfl⟩
  ·rw[lD];refine(hD.keep MI (EH acc s13)).snoc (TN ⟨List.replicate n t,AU,⟨by simp,λk c y e3 e4=>?_⟩⟩ pacc (s13 _ _ hacc2));rw[mq] at e3 e4;split at e3
   ·rename_i hk
    rw[i5 hk] at e4;cases e3; cases e4;exact As (s2.trans s3) e1
   ·cases e3
  ·rw[jY];refine⟨nd,by simp,λx hx y hy z=>?_⟩;rw[jA] at hy;subst hy;subst z;obtain⟨k,hk,ek⟩:=ju hx;have hl2:k<(List.replicate i (List.replicate n (0:Rat))).length:=by rw[<-hD.1]; exact hk
   obtain⟨cs,h1,_⟩:=hD.2 k x _ (by rw[ij hk,ek]) (ij hl2)
   have:=s12 _ _ (D5 _ _ _ _ h1)
   rw[this] at hp; cases hp
  ·intro d hd';rcases i9.mp hd' with h' | h'
   ·exact fr d h'
   ·rw[jA] at h'; rw[h']; exact pf
 rintro ys σ1 H2 s2 hacc2 hl2 ⟨ds,rfl,hD,nd,fr,u,rfl⟩;have M0:E4 H2 acc ds (EL n):=by
  refine⟨hacc2,hD.keep MI (D5 H2 acc),jV.mpr ⟨λz=>?_,nd⟩⟩;obtain⟨k,hk,ek⟩:=ju z;have hl2:k<(List.replicate n (List.replicate n (0:Rat))).length:=by rw[<-hD.1]; exact hk
  obtain⟨cs,h1,_⟩:=hD.2 k acc _ (by rw[ij hk,ek]) (ij hl2);rw[Hw] at h1; cases h1
 have fr2:∀b∈ds,H b=none:=fr
 try dsimp only
 try refine Cp ?_
 first | refine Co λUL1 hUL1=>?_ | refine nx_hide λUL1 hUL1=>?_
 refine⟨_,rfl,a,_,_,_,rfl,rfl,AI.of (s2 _ _ ha),at1' _ _ _,ra,rfl,⟨_,AI.of (s2 _ _ hra)⟩,?_⟩;refine IA (xs:=bs.map V.ref) (λk σ H3=>AN H H3/\(∃u2 u3 u4,σ=[some (.ref a),some (.ref acc),u2,u3,u4])/\E4 H3 acc ds ((rs.take k).foldl Ca (EL n))/\GI n α β k ((rs.take k).foldl Ca (EL n)))
  ⟨s2,⟨none,none,none,rfl⟩,M0,GI.zero n α β⟩ (λk σ H3 _ ⟨s3,_⟩=>AI.of (s3 _ _ hra)) ?_ ?_
 ·rintro k x σ H3 hx ⟨s3,⟨u2,u3,u4,rfl⟩,M,ts⟩;obtain⟨c,r,rfl,_,hr',e,hc,he⟩:=hRs.ref hx;have rm:r∈rs:=iq hr';obtain⟨r1,r2,rq⟩:=hrs r rm;have hk:k<rs.length:=(ip.mp hr').1;have stp:=ts.step r1 r2 rq;rw[DU hr',rC];show IW K 3 _ _ _ _ _;refine⟨c,_,rfl,AI.of (s3 _ _ hc),rfl,_,_,rfl,_,_,rfl,_,_,rfl,rfl,?_⟩;have fin:∀(T':List (List Rat)),T'=Ca ((rs.take k).foldl Ca (EL n)) r->List.foldl Ca (List.foldl Ca (EL n) (List.take k rs)) [r]=T':=λT' h=>h.symm
  refine⟨_,rfl,_,rfl,rfl,_,rfl,?_⟩;generalize hT:(rs.take k).foldl Ca (EL n)=T at M ts stp;have zk1:(β+1)*(k+1)<=(β+1)*rs.length:=kD _ hk;have zk2:β*(k+1)<=β*rs.length:=kD _ hk;have zk3:β*rs.length+rs.length=(β+1)*rs.length:=by rw[oM,oa]
  have up:∀{x:Rat},Sb (α+(β+1)*(k+1)) (β*(k+1)) x->Sf x:=λh=>h.mono (by omega) (by omega)
  have lo:∀i j,Sf (en T i j):=λi j=>up ((ts.2 i j).mono (by rw[kO]; omega) (by rw[kO]; omega))
  have sq:Sf r.2.2:=by
   have b1':β<=β*rs.length:=mw _ (by omega);exact rq.mono (by omega) (by omega)
  by_cases eq:r.1=r.2.1
  ·refine D7 (iv (by rw[eq])) ⟨s3,⟨_,_,_,rfl⟩,?_,?_⟩
   ·have:List.foldl Ca T [r]=T:=by show Ca T r=T; unfold Ca; rw[i5 eq]
    rw[this]; exact M
   ·show GI n α β (k+1) (Ca T r);exact stp
  ·refine HQ (EE (by omega)) ?_;have sq0:=ts.1;refine L4 (i:=r.1) (j:=r.1) (a:=2) (b:=2) (op:=λx y=>x+y) rfl rfl rfl rfl M sq0 r1 r1 (s3 _ _ he) (lo _ _) sq s3 fr2 λH4 s4 M4 f4=>?_
   have q1:=sq0.set (j:=r.1) (v:=en T r.1 r.1+r.2.2) r1;have e1:=IC sq0 (v:=en T r.1 r.1+r.2.2) r1 r1;generalize hT1:C9 T r.1 r.1 (en T r.1 r.1+r.2.2)=T1 at M4 q1 e1;have g1:en T1 r.2.1 r.2.1=en T r.2.1 r.2.1:=by rw[e1,iz (λz=>eq z.1.symm)]
   refine L4 (i:=r.2.1) (j:=r.2.1) (a:=3) (b:=3) (op:=λx y=>x+y) rfl rfl rfl rfl M4 q1 r2 r2 f4 (by rw[g1]; exact lo _ _) sq s4 fr2 λH5 s5 M5 f5=>?_
   have q2:=q1.set (j:=r.2.1) (v:=en T1 r.2.1 r.2.1+r.2.2) r2;have e2:=IC q1 (v:=en T1 r.2.1 r.2.1+r.2.2) r2 r2;generalize hT2:C9 T1 r.2.1 r.2.1 (en T1 r.2.1 r.2.1+r.2.2)=T2 at M5 q2 e2;have g2:en T2 r.1 r.2.1=en T r.1 r.2.1:=by rw[e2,iz (λz=>eq z.1),e1,iz (λz=>eq z.2.symm)]
   refine L4 (i:=r.1) (j:=r.2.1) (a:=2) (b:=3) (op:=λx y=>x-y) rfl rfl rfl rfl M5 q2 r1 r2 f5 (by rw[g2]; exact lo _ _) sq s5 fr2 λH6 s6 M6 f6=>?_
   have q3:=q2.set (j:=r.2.1) (v:=en T2 r.1 r.2.1-r.2.2) r1;have e3:=IC q2 (v:=en T2 r.1 r.2.1-r.2.2) r1 r2;generalize hT3:C9 T2 r.1 r.2.1 (en T2 r.1 r.2.1-r.2.2)=T3 at M6 q3 e3;have g3:en T3 r.2.1 r.1=en T r.2.1 r.1:=by rw[e3,iz (λz=>eq z.1.symm),e2,iz (λz=>eq z.2),e1,iz (λz=>eq z.1.symm)]
   refine L4 (i:=r.2.1) (j:=r.1) (a:=3) (b:=2) (op:=λx y=>x-y) rfl rfl rfl rfl M6 q3 r2 r1 f6 (by rw[g3]; exact lo _ _) sq s6 fr2 λH7 s7 M7 f7=>?_
   refine⟨s7,⟨_,_,_,rfl⟩,?_,stp⟩
   have:List.foldl Ca T [r]=C9 T3 r.2.1 r.1 (en T3 r.2.1 r.1-r.2.2):=by
    show Ca T r=_;unfold Ca;rw[iz eq];simp only[hT1,hT2,hT3]
   rw[this];exact M7
 ·rintro σ H3 ⟨s3,⟨u2,u3,u4,rfl⟩,M,ts⟩;subst hUL1;rw[ig,hRs.1,lj] at M ts;have lds:ds.length=n:=by rw[hD.1]; simp
  refine⟨_,rfl,acc,rfl,⟨_,AQ.of M.h1⟩,λac2 hac2=>?_⟩;refine CP (GO M.h1) (by rw[ig]; omega) hac2 (λi ys σ hp=>∃gs:List Addr,ys=gs.map V.ref/\At (A4 AS) hp gs ((rs.foldl Ca (EL n)).take i)/\∃u,σ=[u]) ⟨[],rfl,At.nil,none,rfl⟩ ?_ ?_
  ·rintro i ys σ H4 x H5 hi s4 hac4 ⟨gs,rfl,hG,u,rfl⟩ ⟨rfl,hx⟩ Cc hC;obtain⟨b,row,rfl,_,hy,cs,hB,hCs⟩:=M.rows.ref hx;have hB2:=s4 _ _ hB;refine⟨_,rfl,b,_,rfl,.inl ⟨AQ.of hB2,λp hp=>?_⟩⟩;have sp:=AZ hp (.AG (cs.map V.ref));refine hC _ _ _ sp ⟨gs++[p],by simp,?_,_,rfl⟩;rw[DU hy];exact(hG.keep GU (EH ac2 sp)).snoc (Vu ⟨cs,AU,hCs.keep As (s4.trans sp)⟩ (sp _ _ hac4))
  ·rintro ys σ H4 s4 ha4 hl4 ⟨gs,rfl,hG,u,rfl⟩;rw[ig,lds,jf (by rw[ts.1.len]; exact i4 _)] at hG;refine⟨ac2,_,rfl,.inl ⟨AQ.of ha4,λp hp=>?_⟩⟩;have sp:=AZ hp (.AG (gs.map V.ref));exact q p _ ((s3.trans s4).trans sp) ⟨gs,AU,(hG.keep GU (D5 H4 ac2)).keep GU sp⟩
structure HB(n m α β:Nat):Prop where
 n13:n<=14
 m16:m<=16
 bd:(8+β*m+α)*n+β*m+α+20<=3900
structure Cg(n m α β:Nat)(rs:List AO):Prop where
 hb:HB n m α β
 len:rs.length<=m
 C8:∀r∈rs,r.1<n+2/\r.2.1<n+2/\Sb α β r.2.2
 pos:∀r∈rs,0<r.2.2
 CY:Pa (n+2) rs
theorem Cg.two{n m α β:Nat}{rs:List AO}(k:Cg n m α β rs):∀r∈rs,r.1<n+2/\r.2.1<n+2:=λr hr=>⟨(k.C8 r hr).1,(k.C8 r hr).2.1⟩
theorem Cg.den{n m α β:Nat}{rs:List AO}(k:Cg n m α β rs):C0 rs<=2 ^ (β*m) :=
 js (TF λr hr=>(k.C8 r hr).2.2.2) (jX (by decide) (kD _ k.len))
def DX(n:Nat)(rs:List AO):List (List Rat):=CC (Eb (Bj (n+2) rs)) (FG (Bj (n+2) rs))
theorem Cg.row{n m α β:Nat}{rs:List AO}(k:Cg n m α β rs){y:List Rat}(hy:y∈DX n rs):y.length=n+1/\∀q∈y,BM ((C0 rs:Nat)*q)/\Vb (α+4) q:=by
 have sq:=(HF k.two).1;obtain⟨i,hi,e⟩:=ju hy;have hi':i<n:=by
  have:i<(DX n rs).length:=hi
  unfold DX CC at this;rw[qB,(JI sq).1] at this;omega
 have e2:(DX n rs)[i]?=some ((((Bj (n+2) rs).getD (i+2) []).drop 2)++[0-en (Bj (n+2) rs) (i+2) 0]):=by
  unfold DX CC;rw[mQ,Na sq hi',Qr sq hi']
 rw[ij hi,e] at e2;cases e2;have rl:=(sq.row (i:=i+2) (by omega)).1;have m16:rs.length<=16:=js k.len k.hb.m16;refine⟨by rw[jc,jO,rl]; simp,λq hq=>?_⟩;rcases i9.mp hq with h | h
 ·have h:=l6 h;obtain⟨j,hj,ej⟩:=ju h
  have:q=en (Bj (n+2) rs) (i+2) j:=by unfold en; rw[ir (l:=(Bj (n+2) rs).getD (i+2) []),ij hj,ej]; rfl
  rw[this];exact Oc k.C8 m16 _ _
 ·rw[jA] at h;rw[h];obtain⟨a,b⟩:=Oc k.C8 m16 (i+2) 0;constructor
  ·have:=a.neg
   rwa [show -((C0 rs:Nat)*en (Bj (n+2) rs) (i+2) 0)=(C0 rs:Nat)*(0-en (Bj (n+2) rs) (i+2) 0) by grind] at this
  ·have:=Ab.neg b
   rwa [show -1*en (Bj (n+2) rs) (i+2) 0=0-en (Bj (n+2) rs) (i+2) 0 by grind] at this
theorem Cg.Wk{n m α β:Nat}{rs:List AO}(k:Cg n m α β rs){y:List Rat}(hy:y∈DX n rs):∀q∈y,(q.den:Int) ∣ (C0 rs:Int):=λq hq=>by
 obtain⟨c,hc⟩:=((k.row hy).2 q hq).1;exact bG (k:=c) (by rw[ic]; exact hc)
theorem Cg.tk{n m α β:Nat}{rs:List AO}(k:Cg n m α β rs):TK n (n+1) (β*m) (β*m+(α+4)) (β*m) (DX n rs):=by
 have sq:=(HF k.two).1;have hd:=k.den;have pd:(0:Int)<(C0 rs:Int):=by have:=Iz rs; omega
 have hcb:∀r∈DX n rs,(cb r).natAbs<=2 ^ (β*m):=λr hr=>js (fA pd (k.Wk hr)) (by rw[jz]; exact hd)
 have hdq:∀r∈DX n rs,∀q∈r,q.den<=2 ^ (β*m):=λr hr q hq=>js (oW (Iz rs) (by exact_mod_cast k.Wk hr q hq)) hd
 have b:=k.hb.bd;generalize β*m=s at *;have e1:(8+s+α)*n=8*n+s*n+α*n:=by rw[oM,oM]
 rw[e1] at b;have n13:=k.hb.n13;refine⟨?_,λr hr=>(k.row hr).1,by omega,by omega,hdq,λr hr q hq=>?_,hcb,λr hr q hq=>?_,?_,by omega,?_⟩
 ·unfold DX CC;rw[qB,(JI sq).1,Mz sq]; omega
 ·have h1:=VZ (b:=(q.den:Int)) (D:=s) (Int.dvd_refl _) ((k.row hr).2 q hq).2 (by rw[jz]; exact hdq r hr q hq)
  have:wh (q.den:Int) q=q.num:=by
   unfold wh;rw[Int.fdiv_self (by have:=q.den_nz; omega),Int.mul_one]
  rw[this] at h1;exact Gh h1 (by omega)
 ·exact VZ ((OZ r).2 q hq) ((k.row hr).2 q hq).2 (hcb r hr)
 ·have:(4+(s+(α+4)))*n=8*n+s*n+α*n:=by rw[<-e1]; congr 1; omega
  omega
 ·have:s*(n+1)=s*n+s:=kO _ _
  omega
theorem Cg.ne{n m α β:Nat}{rs:List AO}(k:Cg n m α β rs):dt n (n+1) (DX n rs)≠0:=by
 have sq:=(HF k.two).1;have c:=JI sq;unfold DX CC;rw[bc c.1 (Mz sq) c.2];exact dM (λr hr=>⟨(k.C8 r hr).1,(k.C8 r hr).2.1,k.pos r hr⟩) k.CY
structure E5(n B:Nat)(rs:List AO)(X:Nat->Rat):Prop where
 x0:X 0=1
 x1:X 1=0
 bal:∀i,2<=i->i<n+2->BJ X rs i=0
 wh:∃W:Int,W≠0/\W.natAbs<=2 ^ B/\∀j,j<n+2->∃k:Int,(W:Rat)*X j=k/\k.natAbs<=2 ^ B
theorem Cg.htx{n m α β:Nat}{rs:List AO}(k:Cg n m α β rs){x:Nat->Rat}(hx:∀y∈DX n rs,fx n x (vq y)=0):E5 n ((8+β*m+α)*n) rs (Kg 1 0 x):=by
 have tk:=k.tk;have n13:=k.hb.n13;refine⟨rfl,rfl,dh k.two hx,?_⟩;have sc:=Mr (n:=n) (m:=n+1) (DX n rs) cb (λr hr=>(tk.hcb hr).2.1);have pp:EY ((DX n rs).map cb)≠0:=by
  have:=(Q3 (d:=β*m) ((DX n rs).map cb) (λb hb=>by
   obtain⟨r,hr,rfl⟩:=i7.mp hb;exact⟨(tk.hcb hr).1,(tk.hcb hr).2.2⟩)).1
  omega
 obtain⟨W,w0,wl,wx⟩:=b6 (n:=n) (E:=β*m+(α+4)) (A:=(Dx (DX n rs)).map vr) (x:=x) (by unfold Dx; rw[ig,ig]; exact tk.len) (by omega)
  (λa ha j=>by obtain⟨r,_,rfl⟩:=i7.mp ha; exact BM.of _)
  (λa ha j=>by
   obtain⟨r,hr,rfl⟩:=i7.mp ha;exact IG (Ra ((tk.Pk r hr).2) j))
  (λa ha=>by
   obtain⟨r,hr,rfl⟩:=i7.mp ha;unfold Dx at hr;obtain⟨y,hy,rfl⟩:=i7.mp hr;rw[Of (tk.hcb hy).2.1];have c0:((cb y:Int):Rat)≠0:=by
    have:cb y≠0:=by have:=(tk.hcb hy).1; omega
    exact_mod_cast this
   exact(Q4 c0).mpr (hx y hy))
  (by
   unfold Dx;rw[sc];intro z;rcases lF.mp z with h | h
   ·exact pp (by exact_mod_cast h)
   ·exact k.ne h)
 have eB:(4+(β*m+(α+4)))*n=(8+β*m+α)*n:=by congr 1; omega
 rw[eB] at wl wx;refine⟨W,w0,wl,λj hj=>?_⟩
 match j,hj with
 | 0,_=>exact⟨W,by show(W:Rat)*1=W; grind,wl⟩
 | 1,_=>exact⟨0,by show(W:Rat)*0=0; grind,by simp⟩
 | j+2,hj=>exact wx j (by omega)
theorem PB{n:Nat}(h:2<=n):HT.Ag n 0 (some 2)=2:=by simp[HT.Ag]; omega
inductive SW(vs:List V)(H:Hp)(Q:VK):Prop
 | mk (a:Addr) (T:List (List Rat)) (n:Nat) (h_0:vs=[.ref a]) (h_1:A4 (A4 AS) H a T) (h_2:Sq (n+2) T) (h_3:n<=100) (h_4:∀p H',AN H H'->A4 (A4 AS) H' p (Eb T)->Q (.ref p) H'):SW vs H Q
def UQ:Sp:=λvs H Q _=>SW vs H Q
theorem gJ:A2 ["table"] ["table"] (Ap sPoleless):=A8
theorem bH(F:Ar K "poleless" "poleless" sPoleless f fd)(mt:mg "tuple" = none):Ao P w K mg base Ay 1 f fd ["table"] UQ:=by
 refine F.A9 gJ λcdv A outer s H vs Q E hr h=>?_
 obtain⟨a,T,n,rfl,⟨bs,ha,hA⟩,sq,hn,q⟩:=h;refine⟨_,AV (An (Cy Fb (by rfl) mt B6 (AA (C5 (Nc:=["row"]) (cap:=[]) (g:=BU 0) (te:=Wi (Pf K) (Aj 0) (Vd (tC (.int 2))) Ld) rfl (Fs (D0 KU (pv 0) (Dm AE) EI))
   (CB rfl rfl (by decide +kernel) (by decide +kernel) (i6 _) rfl (i6 _)) (λ_ _ _ _ _=>Ae (i:=0) Ot rfl (Or.inl rfl)) (λ_ _ _ _ _=>D0 KU (pv 0) (Dm AE) EI)) AB))),?_⟩
 have lb:bs.length=n+2:=by rw[hA.1]; exact sq.len
 refine⟨_,rfl,2,rfl,a,_,rfl,AI.of ha,λz=>?_,λp0 hp0=>?_⟩
 ·have:=z.1
  rw[PB (by rw[ig]; omega)] at this;cases this
 rw[show Cu (bs.map V.ref) (some 2) none=(bs.drop 2).map V.ref by rw[show(some (2:Int))=some ((2:Nat):Int) from rfl,Hy _ (by rw[ig]; omega),m8]];obtain⟨H1,zg,s0,h0⟩:=nw hp0 (.AG ((bs.drop 2).map V.ref));rw[zg];have hA1:=(hA.keep GU s0).drop 2;refine⟨p0,rfl,⟨_,AI.of h0⟩,λacc hacc=>?_⟩;refine CP (FE h0) (by rw[ig,jO]; omega) hacc (λi ys σ hp=>∃ds:List Addr,ys=ds.map V.ref/\At (A4 AS) hp ds ((Eb T).take i)/\∃u,σ=[u]) ⟨[],rfl,At.nil,none,rfl⟩ ?_ ?_
 ·rintro i ys σ H2 x H3 hi sm hacc2 ⟨ds,rfl,hD,u,rfl⟩ ⟨rfl,hx⟩ Cc hC;obtain⟨b,row,rfl,_,hy,cs,hB,hCs⟩:=hA1.ref hx;have hB2:=sm _ _ hB;have rl:row.length=n+2:=sq.FV row (l6 (iq hy));have cl:cs.length=n+2:=by rw[hCs.1]; exact rl
  refine⟨_,rfl,2,rfl,b,_,rfl,AI.of hB2,λz=>?_,λp hp=>?_⟩
  ·have:=z.1
   rw[PB (by rw[ig]; omega)] at this;cases this
  rw[show Cu (cs.map V.ref) (some 2) none=(cs.drop 2).map V.ref by rw[show(some (2:Int))=some ((2:Nat):Int) from rfl,Hy _ (by rw[ig]; omega),m8]];have sp:=AZ hp (.AG ((cs.drop 2).map V.ref));refine hC _ _ _ sp ⟨ds++[p],by simp,?_,_,rfl⟩;have ec:(Eb T)[i]?=some (row.drop 2):=by unfold Eb; rw[iy,hy]; rfl
  rw[DU ec];exact(hD.keep GU (EH acc sp)).snoc (Vu ⟨cs.drop 2,AU,(hCs.keep As (sm.trans sp)).drop 2⟩ (sp _ _ hacc2))
 ·rintro ys σ H4 s4 ha4 hl4 ⟨gs,rfl,hG,u,rfl⟩;rw[ig,jO,jf (by rw[(JI sq).1]; omega)] at hG;refine⟨acc,_,rfl,.inl ⟨AQ.of ha4,λp hp=>?_⟩⟩;have sp:=AZ hp (.AG (gs.map V.ref));exact q p _ ((s0.trans s4).trans sp) ⟨gs,AU,(hG.keep GU (D5 H4 acc)).keep GU sp⟩
theorem JD{W k:Int}{q:Rat}{a b:Nat}(w0:W≠0)(e:(W:Rat)*q=k)(h1:k.natAbs<=2 ^ b)(h2:W.natAbs<=2 ^ a):Sb b a q:=by
 refine ME w0 h1 h2 ?_;rw[Fc k W w0];have w1:(W:Rat)≠0:=by exact_mod_cast w0
 have:(k:Rat) / (W:Rat)=q:=by
  rw[<-e,nN];rw[Rat.div_def,Rat.mul_assoc,Rat.mul_inv_cancel _ w1,Rat.mul_one]
 rw[this]; rfl
theorem eh{M:Nat}{q:Rat}{D v:Nat}(m0:0<M)(hi:BM ((M:Nat)*q))(hM:M<=2 ^ D)(hv:Vb v q):Sb (D+v) D q:=by
 obtain⟨k,hk⟩:=hi;have ab:Ab ((2 ^ D:Nat):Rat) ((M:Nat):Rat):=IG (x:=(M:Int)) (by rw[jz]; exact hM)
 have:=ab.Eh hv
 rw[hk,<-Rat.natCast_mul,<-Nat.pow_add] at this;exact JD (W:=(M:Int)) (by omega) (by rw[ic]; exact hk) (Fn this) (by rw[jz]; exact hM)
theorem Cg.sf{n m α β:Nat}{rs:List AO}(k:Cg n m α β rs)(i j:Nat):Sf (en (Bj (n+2) rs) i j):=by
 obtain⟨a,b⟩:=Oc k.C8 (js k.len k.hb.m16) i j
 have:=k.hb.bd
 exact(eh (Iz rs) a k.den b).mono (by omega) (by omega)
theorem iM:Sf 0:=Sb.zero.mono (jS _) (jS _)
theorem XS(n:Nat)(x:Nat->Rat):(List.range (n+2)).map (Kg 1 0 x)=1 :: 0 :: (List.range n).map x:=by
 rw[kB,kB];simp[jH];exact⟨rfl,rfl,λ_ _=>rfl⟩
inductive UI(vs:List V)(H:Hp)(Q:VK):Prop
 | mk (a:Addr) (n m α β:Nat) (rs:List AO) (h_0:vs=[.ref a]) (h_1:Pb H a (n+2) rs) (h_2:Cg n m α β rs) (h_3:∀p H' X,AN H H'->E5 n ((8+β*m+α)*n) rs X->A4 AS H' p ((List.range (n+2)).map X)->Q (.ref p) H'):UI vs H Q
def VQ:Sp:=λvs H Q _=>UI vs H Q
theorem PZ:A2 ["net","table","right"] ["net"] (Ap sHeights):=A8
theorem Xg (F:Ar K "heights" "heights" sHeights f fd) (G1:Al P w K mg base 4 "ease_table" ["net"] Ta)
  (G2:Al P w K mg base 3 "minus" ["one","other"] (DY λx y=>x-y))
  (G3:Al P w K mg base 1 "poleless" ["table"] UQ)
  (G4:Al P w K mg base 4 "answer" ["table","right"] (Rr C2)) (mt:mg "tuple" = none) :
  Ao P w K mg base Ay 5 f fd ["net"] VQ:=by
 refine F.A9 PZ λcdv A outer s H vs Q E hr h=>?_
 obtain⟨a,n,m,α,β,rs,rfl,hN,k,q⟩:=h;have hr3:=hr.mono (show 3<=4 by decide);have hr1:=hr.mono (show 1<=4 by decide);refine⟨_,AR (AX (i:=1) PZ.nd rfl (Or.inl rfl) (Aa G1 hr (AA (pv 0) AB)))
  (AR (AX (i:=2) PZ.nd rfl (Or.inl rfl) (Cy Fb (by rfl) mt B6 (AA (C5 (Nc:=["row"]) (cap:=[]) (g:=BU 0) (te:=DI (DY λx y=>x-y) [] E0 (BI (Kl (BI (tC (.int 0)) (BI (tC (.int 1)) By))) (BI (Bd (Fy K) (Aj 0) (tC (.int 0))) By))) rfl (Fs (D0 KU (pv 1) (Dm AE) EI))
   (CB rfl rfl (by decide +kernel) (by decide +kernel) (i6 _) rfl (i6 _)) (λ_ _ _ _ _=>Ae (i:=0) Ot rfl (Or.inl rfl)) (λ_ _ _ _ _=>Aa G2 hr3 (AA (Bf (AA AE (AA AE AB))) (AA (A6 Bu (pv 0) AE (λ_ _=>rfl)) AB)))) AB)))
  (AV (An (AM Lf (Bf (AA (Bf (AA AE (AA AE AB))) (AA (Bf (AA AE (AA AE AB))) AB)))
   (Aa G4 hr (AA (Aa G3 hr1 (AA (pv 1) AB)) (AA (pv 2) AB))))))),?_⟩
 have m16:rs.length<=16:=js k.len k.hb.m16;have n13:=k.hb.n13;have bd:=k.hb.bd;have bl:β*rs.length<=β*m:=kD _ k.len;have bl1:(β+1)*rs.length=β*rs.length+rs.length:=by rw[oM,oa]
 have sq:=(HF k.two).1;have ksf:=k.sf;refine⟨_,rfl,a,n+2,α,β,rs,rfl,hN,by omega,by omega,k.C8,by omega,by omega,λt H1 s1 hT=>?_⟩;have ht:=(JI sq);have hrl:=Mz sq;obtain⟨bs,ha,hA⟩:=hT;have lb:bs.length=n+2:=by rw[hA.1]; exact sq.len
 refine⟨_,rfl,2,rfl,t,_,rfl,AI.of ha,λz=>?_,λp0 hp0=>?_⟩
 ·have:=z.1
  rw[PB (by rw[ig]; omega)] at this;cases this
 rw[show Cu (bs.map V.ref) (some 2) none=(bs.drop 2).map V.ref by rw[show(some (2:Int))=some ((2:Nat):Int) from rfl,Hy _ (by rw[ig]; omega),m8]];obtain⟨H2,zg,s0,h0⟩:=nw hp0 (.AG ((bs.drop 2).map V.ref));rw[zg];have hA1:=(hA.keep GU s0).drop 2;refine⟨p0,rfl,⟨_,AI.of h0⟩,λacc hacc=>?_⟩;refine CP (FE h0) (by rw[ig,jO]; omega) hacc (λi ys σ hp=>∃ds:List Addr,ys=ds.map V.ref/\At AS hp ds ((FG (Bj (n+2) rs)).take i)/\∃u,σ=[u]) ⟨[],rfl,At.nil,none,rfl⟩ ?_ ?_
 ·rintro i ys σ H3 x H4 hi sm hacc2 ⟨ds,rfl,hD,u,rfl⟩ ⟨rfl,hx⟩ Cc hC;obtain⟨b,row,rfl,_,hy,cs,hB,hCs⟩:=hA1.ref hx;have hB2:=sm _ _ hB;have rl:row.length=n+2:=sq.FV row (l6 (iq hy));have er:row[0]?=some (row.getD 0 0):=by rw[ir,ij (by omega)]; rfl
  obtain⟨c,hc,hcf⟩:=hCs.get er;have i':i<n:=by
   have:i<(bs.drop 2).length:=by rw[ig] at hi; exact hi
   rw[jO] at this; omega
  have erow:row=(Bj (n+2) rs).getD (i+2) []:=by
   rw[lN,mT 2 i,(sq.row (i:=i+2) (by omega)).2] at hy;exact(je hy).symm
  refine⟨by exact CA,λz hz=>?_⟩;obtain⟨H5,zg,sz,zz⟩:=nw hz (.AG [.int 0,.int 1]);rw[zg];have ez:AS H5 z 0:=zz;refine⟨_,rfl,b,_,_,_,rfl,rfl,AI.of (sz _ _ hB2),BX (j:=0) (CT hc),z,c,0,row.getD 0 0,rfl,ez,sz _ _ (sm _ _ hcf),iM,by rw[erow]; exact ksf (i+2) 0,λp hp=>?_⟩;have sp:=AZ hp (.AG [.int (0-row.getD 0 0).num,.int (0-row.getD 0 0).den]);have szp:=sz.trans sp;refine hC _ _ _ szp ⟨ds++[p],by simp,?_,_,rfl⟩;have ec:(FG (Bj (n+2) rs))[i]?=some (0-row.getD 0 0):=by unfold FG; rw[iy,hy]; rfl
  rw[DU ec];exact(hD.keep As (EH acc szp)).snoc (AS.BQ (q:=0-row.getD 0 0) AU (szp _ _ hacc2))
 ·rintro ys σ H4 s4 ha4 hl4 ⟨gs,rfl,hG,u,rfl⟩;rw[ig,jO,jf (by rw[hrl]; omega)] at hG;refine⟨acc,_,rfl,.inl ⟨AQ.of ha4,λrt hrt=>?_⟩⟩;have s5:=AZ hrt (.AG (gs.map V.ref));have hR:A4 AS (AJ H4 rt (.AG (gs.map V.ref))) rt (FG (Bj (n+2) rs)):=⟨gs,AU,(hG.keep As (D5 H4 acc)).keep As s5⟩;generalize AJ H4 rt (.AG (gs.map V.ref))=H5 at s5 hR;have s15:=(s0.trans s4).trans s5;refine⟨by exact CA,λz1 hz1=>⟨by exact CA,λz2 hz2=>⟨by exact CA,λz3 hz3=>?_⟩⟩⟩;obtain⟨H6,zg,t1,zz⟩:=nw hz1 (.AG [.int 1,.int 1]);rw[zg] at hz2 hz3 ⊢;have e1:AS H6 z1 1:=zz;obtain⟨H7,zg,t2,zz⟩:=nw hz2 (.AG [.int 0,.int 1]);rw[zg] at hz3 ⊢;have e2:AS H7 z2 0:=zz;obtain⟨H8,zg,t3,e3⟩:=nw hz3 (.AG [.ref z1,.ref z2]);rw[zg];have s18:=s15.trans ((t1.trans t2).trans t3);refine⟨_,rfl,t,Bj (n+2) rs,n,rfl,⟨bs,s18 _ _ ha,hA.keep GU s18⟩,sq,by omega,λpt H9 s9 hP=>?_⟩;refine⟨_,rfl,pt,rt,Eb (Bj (n+2) rs),FG (Bj (n+2) rs),n,_,_,_,rfl,hP,Fq (R:=AS) (λs h=>As s h) (((t1.trans t2).trans t3).trans s9) hR,ht.1,hrl,ht.2,k.tk,λz=>absurd z k.ne,λ_ pa H10 x s10 hx hX=>?_⟩;have htx:=k.htx hx;obtain⟨xs,hpa,hXs⟩:=hX;have s910:=s9.trans s10;have sAll:=(s1.trans s18).trans s910;have a1:At AS H10 ([z1,z2]++xs) (1 :: 0 :: (List.range n).map x):=by
   refine At.WW (xs:=[1,0]) (At.snoc (bs:=[z1]) (xs:=[1]) (At.snoc (bs:=[]) (xs:=[]) At.nil ?_) ?_) hXs
   ·exact((t2.trans t3).trans s910) _ _ e1
   ·exact(t3.trans s910) _ _ e2
  rw[<-XS] at a1;have lx:xs.length=n:=by rw[hXs.1]; simp
  refine⟨z3,pa,[.ref z1,.ref z2],xs.map V.ref,rfl,rfl,AI.of (s910 _ _ e3),AI.of hpa,by simp,by rw[ig]; exact FQ (by simp; omega),λz=>?_,λz p hp=>?_⟩
  ·have xe:xs=[]:=mh.mp z;subst xe;exact q z3 H10 _ sAll htx ⟨[z1,z2],s910 _ _ e3,a1⟩
  ·have sp:=AZ hp (.AG ([.ref z1,.ref z2]++xs.map V.ref));exact q p _ _ (sAll.trans sp) htx ⟨[z1,z2]++xs,by rw[AU]; simp,a1.keep As sp⟩
def Uw(Z:Int)(N c:Nat)(q:Rat):Prop:=∃k:Int,(Z:Rat)*q=k/\k.natAbs<=c*2 ^ N
theorem Uw.Dt{Z:Int}{N c d:Nat}{p q:Rat}(h:Uw Z N c p)(g:Uw Z N d q):Uw Z N (c+d) (p+q):=by
 obtain⟨k,h1,h2⟩:=h;obtain⟨l,g1,g2⟩:=g;refine⟨k+l,by rw[pR,<-h1,<-g1]; grind,?_⟩;rw[oM];exact js (rB _ _) (Nat.add_le_add h2 g2)
theorem Uw.neg{Z:Int}{N c:Nat}{p:Rat}(h:Uw Z N c p):Uw Z N c (-p):=by
 obtain⟨k,h1,h2⟩:=h;exact⟨-k,by rw[mH,<-h1]; grind,by rw[oI]; exact h2⟩
theorem Uw.Di{Z:Int}{N c d:Nat}{p q:Rat}(h:Uw Z N c p)(g:Uw Z N d q):Uw Z N (c+d) (p-q):=by
 rw[Rat.sub_eq_add_neg]; exact h.Dt g.neg
theorem Uw.mono{Z:Int}{N c d:Nat}{p:Rat}(h:Uw Z N c p)(e:c<=d):Uw Z N d p:=by
 obtain⟨k,h1,h2⟩:=h;exact⟨k,h1,js h2 (mZ _ e)⟩
theorem Uw.zero(Z:Int)(N:Nat):Uw Z N 0 0:=⟨0,by rw[Rat.mul_zero]; rfl,by simp⟩
theorem Uw.sf{Z:Int}{N c:Nat}{q:Rat}(h:Uw Z N c q)(z0:Z≠0)(hz:Z.natAbs<=2 ^ 3900)(hc:c<=64)(hN:N+6<=3900):Sf q:=by
 obtain⟨k,h1,h2⟩:=h;refine JD z0 h1 (js h2 ?_) hz
 have:c*2 ^ N<=2 ^ (N+6):=by rw[m9,nI]; exact kD _ hc
 exact js this (jX (by decide) hN)
structure Kz(n:Nat)(rs:List AO)(X:Nat->Rat)(Z:Int)(N:Nat):Prop where
 z0:Z≠0
 zl:Z.natAbs<=2 ^ 3900
 nl:N+6<=3900
 hs:∀j,j<n+2->Sf (X j)
 fs:∀r∈rs,Sf (X r.1-X r.2.1)
 es:∀r∈rs,Sf r.2.2
 ru:∀r∈rs,Uw Z N 1 (A5 X r)
theorem E5.fG{n m α β:Nat}{rs:List AO}{X:Nat->Rat}(k:Cg n m α β rs)(h:E5 n ((8+β*m+α)*n) rs X):∃Z N,Kz n rs X Z N:=by
 obtain⟨W,w0,wl,wx⟩:=h.wh;have bd:=k.hb.bd;have bm:∀r∈rs,β<=β*m:=λr hr=>by
  have:0<rs.length:=kQ hr
  have:=k.len
  exact mw _ (by omega)
 generalize (8+β*m+α)*n=B at *;have hd:=k.den;have hp:=Iz rs;have fall:∀r∈rs,∃c:Int,(W:Rat)*(X r.1-X r.2.1)=c/\c.natAbs<=2 ^ (B+1):=λr hr=>by
  obtain⟨a1,a2,a3⟩:=k.C8 r hr;obtain⟨x,e1,l1⟩:=wx _ a1;obtain⟨y,e2,l2⟩:=wx _ a2;refine⟨x-y,by rw[nB,<-e1,<-e2]; grind,?_⟩
  have:=nU x y
  rw[lE]; omega
 refine⟨W*(C0 rs:Int),β*m+α+(B+1),k7 w0 (by omega),?_,by omega,λj hj=>?_,λr hr=>?_,λr hr=>?_,λr hr=>?_⟩
 ·rw[jG,jz];exact js (C3 wl hd) (jX (by decide) (by omega))
 ·obtain⟨c,e,l⟩:=wx j hj;exact(JD w0 e l wl).mono (by omega) (by omega)
 ·obtain⟨c,e,l⟩:=fall r hr;exact(JD w0 e l wl).mono (by omega) (by omega)
 ·have:=bm r hr
  exact(k.C8 r hr).2.2.mono (by omega) (by omega)
 ·obtain⟨c,e,l⟩:=fall r hr;obtain⟨v,hv⟩:=Nj (LP hr);refine⟨v*c,?_,?_⟩
  ·rw[jQ,jQ,<-hv,<-e,ic];unfold A5; grind
  ·have ab:Ab ((2 ^ (β*m):Nat):Rat) ((C0 rs:Nat):Rat):=IG (x:=(C0 rs:Int)) (by rw[jz]; exact hd);have vb:=ab.Eh (k.C8 r hr).2.2.vb;rw[hv,<-Rat.natCast_mul,<-Nat.pow_add] at vb;rw[jG,oa];exact C3 (Fn vb) l
theorem Kz.CK{n:Nat}{rs:List AO}{X:Nat->Rat}{Z:Int}{N:Nat}(s:Kz n rs X Z N)(i:Nat){r:AO}(hr:r∈rs):Uw Z N 2 (CK X i r):=by
 have h:=s.ru r hr
 have:∀c:Prop,[Decidable c]->Uw Z N 1 (if c then A5 X r else 0):=λc _=>by
  by_cases e:c
  ·rw[i5 e]; exact h
  ·rw[iz e]; exact(Uw.zero Z N).mono (by omega)
 exact(this _).Di (this _)
theorem Qc{X:Nat->Rat}{rs:List AO}{k i:Nat}{r:AO}(e:rs[k]?=some r):BJ X (rs.take (k+1)) i=BJ X (rs.take k) i+Wd.CK X i r:=by
 unfold BJ;rw[DU e,ji,pQ];simp only[i8,kf,jy,lO,Rat.add_zero]
theorem Kz.sum{n:Nat}{rs:List AO}{X:Nat->Rat}{Z:Int}{N:Nat}(s:Kz n rs X Z N)(i:Nat):∀k,k<=rs.length->Uw Z N (2*k) (BJ X (rs.take k) i):=by
 intro k
 induction k with
 | zero=>intro _; exact Uw.zero Z N
 | succ k ih =>
  intro hk;have e:rs[k]?=some rs[k]:=ij hk;rw[Qc e,kO];exact(ih (by omega)).Dt (s.CK i (ka _))
theorem JA{n i:Nat}(X:Nat->Rat)(h:i<n):((List.range n).map X)[i]?=some (X i):=by
 rw[iy,j4 h]; rfl
inductive S6(vs:List V)(H:Hp)(Q:VK):Prop
 | mk (a b:Addr) (r:AO) (n:Nat) (X:Nat->Rat) (h_0:vs=[.ref a,.ref b]) (h_1:Bg H a r) (h_2:Ex AS H b ((List.range n).map X)) (h_3:r.1<n) (h_4:r.2.1<n) (h_5:Sf (X r.1)) (h_6:Sf (X r.2.1)) (h_7:MK H Q (X r.1-X r.2.1)):S6 vs H Q
def Ob:Sp:=λvs H Q _=>S6 vs H Q
theorem gZ:A2 ["rope","levels"] ["rope","levels"] (Ap sFallOf):=A8
theorem ah(F:Ar K "fall_of" "fall_of" sFallOf f fd)(G:Al P w K mg base 3 "minus" ["one","other"] (DY λx y=>x-y)):
  Ao P w K mg base Ay 4 f fd ["rope","levels"] Ob:=by
 refine F.A9 gZ λcdv A outer s H vs Q E hr h=>?_
 obtain⟨a,b,r,n,X,rfl,⟨e,ha,he⟩,⟨bs,hb,hB⟩,r1,r2,s1,s2,q⟩:=h;refine⟨_,AV (An (Aa G hr (AA (A6 B8 (pv 1) (A6 Bu (pv 0) AE (λ_ _=>rfl)) (λ_ _=>rfl)) (AA (A6 B8 (pv 1) (A6 Bu (pv 0) AE (λ_ _=>rfl)) (λ_ _=>rfl)) AB)))),?_⟩;obtain⟨c1,h1,g1⟩:=hB.get (JA X r1);obtain⟨c2,h2,g2⟩:=hB.get (JA X r2);exact⟨_,rfl,_,rfl,a,_,_,_,rfl,rfl,AI.of ha,Hm _ _ _,b,_,_,_,rfl,rfl,AQ.of hb,BX (CT h1),_,rfl,_,rfl,a,_,_,_,rfl,rfl,AI.of ha,EA _ _ _,b,_,_,_,rfl,rfl,AQ.of hb,BX (CT h2),c1,c2,_,_,rfl,g1,g2,s1,s2,q⟩
inductive RJ(vs:List V)(H:Hp)(Q:VK):Prop
 | mk (a b:Addr) (n:Nat) (rs:List AO) (X:Nat->Rat) (h_0:vs=[.ref a,.ref b]) (h_1:Pb H a n rs) (h_2:Ex AS H b ((List.range n).map X)) (h_3:rs.length<=100) (h_4:(∀r∈rs,r.1<n/\r.2.1<n/\Sf (X r.1)/\Sf (X r.2.1)/\Sf (X r.1-X r.2.1)/\Sf r.2.2)) (h_5:∀p H',AN H H'->A4 AS H' p (rs.map (A5 X))->Q (.ref p) H'):RJ vs H Q
def TL:Sp:=λvs H Q _=>RJ vs H Q
theorem fY:A2 ["net","levels"] ["net","levels"] (Ap sRunBy):=A8
theorem gR:(["rope","levels"]:List Str).Nodup:=by decide +kernel
theorem ZX (F:Ar K "runnings_by" "runnings_by" sRunBy f fd) (G1:Al P w K mg base 3 "times" ["one","other"] (DY λx y=>x*y))
  (G2:Al P w K mg base 4 "fall_of" ["rope","levels"] Ob) (mt:mg "tuple" = none) :
  Ao P w K mg base Ay 5 f fd ["net","levels"] TL:=by
 refine F.A9 fY λcdv A outer s H vs Q E hr h=>?_
 obtain⟨a,b,n,rs,X,rfl,⟨ra,tv,ha,bs,hra,hRs⟩,hL,hm,hrs,q⟩:=h;have hr3:=hr.mono (show 3<=4 by decide);refine⟨_,AV (An (Cy Fb (by rfl) mt B6 (AA (C5 (Nc:=["rope","levels"]) (cap:=[(1,1)]) (g:=BU 0) (te:=DI (DY λx y=>x*y) [] E0 (BI (Bd (Fy K) (Aj 0) (tC (.int 2))) (BI (DI Ob [] E0 (BI (Aj 0) (BI (Aj 1) By))) By))) rfl (Fs (A6 Bu (pv 0) AE (λ_ _=>rfl)))
   (CB rfl rfl (by decide +kernel) (by decide +kernel) (jb.mpr ⟨⟨rfl,rfl⟩,i6 _⟩) rfl (jb.mpr ⟨⟨_,_,rfl,rfl,rfl,rfl,rfl⟩,i6 _⟩)) (λ_ _ _ _ _=>Ae (i:=0) gR rfl (Or.inl rfl))
   (λ_ _ _ _ _=>Aa G1 hr3 (AA (A6 Bu (pv 0) AE (λ_ _=>rfl)) (AA (Aa G2 hr (AA (pv 0) (AA (pv 1) AB))) AB)))) AB))),?_⟩
 have lb:bs.length=rs.length:=hRs.1;refine⟨_,rfl,a,_,_,_,rfl,rfl,AI.of ha,EA _ _ _,ra,rfl,⟨_,AI.of hra⟩,λacc hacc=>?_⟩;refine CP (FE hra) (by rw[ig]; omega) hacc (λi ys σ hp=>∃ds:List Addr,ys=ds.map V.ref/\At AS hp ds ((rs.map (A5 X)).take i)/\∃u,σ=[u,some (.ref b)]) ⟨[],rfl,At.nil,none,rfl⟩ ?_ ?_
 ·rintro i ys σ H3 x H4 hi sm hacc2 ⟨ds,rfl,hD,u,rfl⟩ ⟨rfl,hx⟩ Cc hC;obtain⟨c,r,rfl,_,hy,e,hc,he⟩:=hRs.ref hx;obtain⟨r1,r2,s1,s2,s3,s4⟩:=hrs r (iq hy);refine⟨_,rfl,c,_,_,_,rfl,rfl,AI.of (sm _ _ hc),C1 _ _ _,_,rfl,_,rfl,c,b,r,n,X,rfl,⟨e,sm _ _ hc,sm _ _ he⟩,Lx (R:=AS) (λs h=>As s h) sm hL,r1,r2,s1,s2,λp hp=>?_⟩;obtain⟨H5,zg,sp,hf⟩:=Ky hp (X r.1-X r.2.1);rw[zg];refine⟨e,p,_,_,rfl,sp _ _ (sm _ _ he),hf,s4,s3,λp2 hp2=>?_⟩;have sp2:=AZ hp2 (.AG [.int (r.2.2*(X r.1-X r.2.1)).num,.int (r.2.2*(X r.1-X r.2.1)).den]);have sA:=sp.trans sp2;refine hC _ _ _ sA ⟨ds++[p2],by simp,?_,_,rfl⟩;have ec:(rs.map (A5 X))[i]?=some (A5 X r):=by rw[iy,hy]; rfl
  rw[DU ec];exact(hD.keep As (EH acc sA)).snoc (AS.BQ (q:=A5 X r) AU (sA _ _ hacc2))
 ·rintro ys σ H4 s4 ha4 hl4 ⟨gs,rfl,hG,u,rfl⟩;rw[ig,lb,jf (by rw[ig]; exact i4 _)] at hG;refine⟨acc,_,rfl,.inl ⟨AQ.of ha4,λp hp=>?_⟩⟩;have sp:=AZ hp (.AG (gs.map V.ref));exact q p _ (s4.trans sp) ⟨gs,AU,(hG.keep As (D5 H4 acc)).keep As sp⟩
end
end My
namespace My
open PySem L2 Mth
section
variable {P:Program} {w:World} {K:PySem.W.Frag} {mg:Str->Option Value} {base:Heap}
inductive TZ(vs:List V)(H:Hp)(Q:VK):Prop
 | mk (e:Int) (h_0:vs=[.int e]) (h_1:Q (.int (AH e)) H):TZ vs H Q
def L9:Sp:=λvs H Q _=>TZ vs H Q
theorem gn:A2 ["end"] ["end"] (Ap sOther):=A8
theorem Yr{f:Addr}{fd:FuncData}(F:Ar K "other_end" "other_end" sOther f fd):Ao P w K mg base Ay 1 f fd ["end"] L9:=by
 refine F.A9 gn λcdv A outer s H vs Q E hr h=>?_
 obtain⟨e,rfl,q⟩:=h;refine⟨_,AV (An (NP (BN EX (AM CH (pv 0) AE) AE (BH _)) (AM Bc (pv 0) AE) (AM DW (pv 0) AE))),?_⟩;refine⟨_,rfl,_,_,rfl,rfl,(show(0:Int)<2 by decide),rfl,_,rfl,?_⟩;unfold AH at q;by_cases h:e % 2=0
 ·rw[i5 h] at q;exact De (iv h) ⟨_,rfl,_,_,rfl,rfl,q⟩
 ·rw[iz h] at q;exact DP (EE h) ⟨_,rfl,_,_,rfl,rfl,q⟩
inductive Q8(vs:List V)(H:Hp)(Q:VK):Prop
 | mk (a:Addr) (bs:List Addr) (ts:List (List Int)) (n:Nat) (h_0:vs=[.ref a]) (h_1:Hn H a bs ts) (h_2:B9 n ts) (h_3:n<=1000) (h_4:∀d H',AN H H'->H d=none->H' d=some (.dK (BB (Az ts)))->Q (.ref d) H'):Q8 vs H Q
def S4:Sp:=λvs H Q _=>Q8 vs H Q
def T7(K:PySem.W.Frag):TS:=Kr (JX Up (BU 1)) (Kr (PL (PU K (Aj 0)) (BU 2) (PL (VB (BI (Aj 2) By)) (IW K 2 (GZ (BU 3) (GZ (BU 4) Kx)))
 (U4 (Aj 1) (Aj 4) (Bd (Fy K) (Aj 2) (Bd (Ez λi j=>.int (i-j)) (Aj 3) (tC (.int 1))))))) (Ox (Aj 1)))
theorem ZP{H:Hp}{Q:VK}{a:Addr}{bs:List Addr}{ts:List (List Int)}{n:Nat}{nx:St->Hp->Prop}(hT:Hn H a bs ts)(T:B9 n ts)(hn:n<=1000)(q:∀d H',AN H H'->H d=none->H' d=some (.dK (BB (Az ts)))->Q (.ref d) H'):
  T7 K { nx:=nx,rt:=Q } [some (.ref a),none,none,none,none] H:=by
 intro d hd
 try dsimp only
 try refine Cp ?_
 first | refine Co λUL1 hUL1=>?_ | refine nx_hide λUL1 hUL1=>?_
 refine⟨_,rfl,a,rfl,⟨_,AI.of (AZ hd _ _ _ hT.1)⟩,?_⟩;refine IA (xs:=bs.map V.ref) (λi σ H2=>∃t k e,σ=[some (.ref a),some (.ref d),t,k,e]/\AN H H2/\H2 d=some (.dK (BB (Az (ts.take i))))) ⟨none,none,none,rfl,AZ hd _,AU⟩ (λi σ H2 _ ⟨_,_,_,_,s,_⟩=>AI.of (s _ _ hT.1)) ?_ ?_
 ·rintro i x σ H2 hx ⟨t0,k0,e0,rfl,sm,hd2⟩;obtain⟨b,row,rfl,hb,hrow⟩:=Uc hT.2.1 hx;have hB:=sm _ _ (hT.2.2 i b row hb hrow)
  try dsimp only
  try refine Cp ?_
  first | refine Co λUL2 hUL2=>?_ | refine nx_hide λUL2 hUL2=>?_
  refine⟨_,rfl,b,_,rfl,hB,?_⟩;refine JB (xs:=row.map V.int) (λj σ H3=>∃k e,σ=[some (.ref a),some (.ref d),some (.ref b),k,e]/\AN H H3/\H3 d=some (.dK (BB (Az (ts.take i)++(BG row).take j)))) ⟨k0,e0,rfl,sm,by rw[oJ,kg]; exact hd2⟩
   (λj σ H3 _ ⟨_,_,_,s,_⟩=>s _ _ (hT.2.2 i b row hb hrow)) ?_ ?_
  ·rintro j x σ H3 p hx3 ⟨k1,e1,rfl,sm3,hd3⟩ hp;obtain⟨e,rfl,he⟩:=GS hx3;have hj:j<row.length:=(ip.mp he).1;have sm4:AN H (AJ H3 p (.AG [.int j,.int e])):=sm3.trans (AZ hp _);have hd4:(AJ H3 p (.AG [.int j,.int e])) d=some (.dK (BB (Az (ts.take i)++(BG row).take j))):=AZ hp _ _ _ hd3;have keys:(Az (ts.take i)++(BG row).take j).map (·.1)=(ts.take i).flatten++row.take j:=by
    rw[ji,E9,oh,LR]
   have fr:e∉(Az (ts.take i)++(BG row).take j).map (·.1):=by rw[keys]; exact LK T.nd hrow he
   have ln:(BB (Az (ts.take i)++(BG row).take j)).length<sizeLine:=by
    have l1:=congrArg List.length keys;rw[ig] at l1;have l2:((ts.take i).flatten++row.take j).length<=n:=by
     rw[<-T.len];have e1:ts=ts.take i++ts.drop i:=(kq i ts).symm;have hd:ts.drop i=row :: ts.drop (i+1):=by
      obtain⟨hi,q1⟩:=ip.mp hrow;rw[<-q1,kP]
     have e2:ts.flatten.length=(ts.take i).flatten.length+(row.length+(ts.drop (i+1)).flatten.length):=by
      conv=>lhs; rw[e1,hd]
      rw[j3,jx,jc,jc]
     rw[e2,jc,jT];omega
    rw[ig,l1];exact Cw (by omega)
   refine⟨p,_,rfl,AI.of AU,rfl,_,_,rfl,_,_,rfl,rfl,?_⟩;refine⟨_,rfl,_,rfl,_,_,rfl,rfl,b,_,_,_,rfl,rfl,AI.of (sm4 _ _ (hT.2.2 i b row hb hrow)),SI hj,_,rfl,_,rfl,d,_,rfl,D8.k (k:=Sum.inl e) hd4 ln,?_⟩;refine⟨_,_,rfl,sm4.up hd _,?_⟩;rw[AU,HI fr,jU];have rp:(BG row)[j]?=some (e,EV row j):=by
    unfold BG;rw[iy,j4 hj];show some (row.getD j 0,EV row j)=_;rw[ir,he];rfl
   rw[DM rp]
  ·rintro σ H3 ⟨k1,e1,rfl,sm3,hd3⟩;subst hUL2;refine⟨_,_,_,rfl,sm3,?_⟩;rw[hd3,DM hrow,P9,ig,show(BG row).take row.length=BG row from jf (by rw[NS]; exact i4 _)]
 ·rintro σ H2 ⟨t0,k0,e0,rfl,sm,hd2⟩;subst hUL1;refine⟨_,rfl,q d H2 sm hd ?_⟩;rw[hd2,ig,jf (by rw[hT.2.1]; exact i4 _)]
theorem Kv:A2 ["turns","ahead","turn","k","end"] ["turns"] (Ap sAhead):=A8
theorem Zi{f:Addr}{fd:FuncData}(F:Ar K "ends_ahead" "ends_ahead" sAhead f fd)(me:mg "enumerate" = none):Ao P w K mg base Ay 1 f fd ["turns"] S4:=by
 refine F.A9 Kv λcdv A outer s H vs Q E hr h=>?_
 obtain⟨a,bs,ts,n,rfl,hT,T,hn,q⟩:=h;have hu:=FN hr;refine⟨T7 K,AR (AX (i:=1) Kv.nd rfl (Or.inl rfl) Jw)
  (AR (CQ jt rfl (Fs (pv 0)) (Ae (i:=2) Kv.nd rfl (Or.inl rfl))
   (AV (CQ jt rfl (JE (by rfl) me (AA (pv 2) AB)) (II rfl (BF (Ae (i:=3) Kv.nd rfl (Or.inl rfl)) (BF (Ae (i:=4) Kv.nd rfl (Or.inl rfl)) Cq)))
    (AV (GR hu (pv 1) (pv 4) (A6 Bu (pv 2) (AM DW (pv 3) AE) (λ_ _=>rfl)) rfl)))))
  (AV (An (pv 1)))),ZP hT T hn q⟩
inductive R0(vs:List V)(H:Hp)(Q:VK):Prop
 | mk (s:Int) (d:Addr) (ts:List (List Int)) (n:Nat) (h_0:vs=[.int s,.ref d]) (h_1:H d=some (.dK (BB (Az ts)))) (h_2:B9 n ts) (h_3:n<=1000) (h_4:AD n s) (h_5:∀p H',AN H H'->H p=none->H' p=some (.AG ((BK (AL ts) s).map V.int))->Q (.ref p) H'):R0 vs H Q
def UG:Sp:=λvs H Q _=>R0 vs H Q
theorem MN:A2 ["start","ahead","ring","end"] ["start","ahead"] (Ap sRingFrom):=A8
theorem W9{f:Addr}{fd:FuncData}(F:Ar K "ring_from" "ring_from" sRingFrom f fd)(G:Al P w K mg base 1 "other_end" ["end"] L9)(mt:mg "tuple" = none):
  Ao P w K mg base Ay 2 f fd ["start","ahead"] UG:=by
 refine F.A9 MN λcdv A outer s H vs Q E hr h=>?_
 obtain⟨s0,d,ts,n,rfl,hd,T,hn,hs,q⟩:=h;have hu:=FN hr;have PM:=T.perm;have PE:=FH PM hs;refine⟨_,AR (AX (i:=2) MN.nd rfl (Or.inl rfl) (Cd (AA (pv 0) AB)))
  (AR (AX (i:=3) MN.nd rfl (Or.inl rfl) (EU hu (pv 1) (Aa G hr (AA (pv 0) AB)) (λ_ _=>rfl)))
  (AR (Hx jt (BN Dd (pv 3) (pv 0) (BH _))
   (AR (DN (Cr K jq jI jJ Dz (pv 2) (AA (pv 3) AB)))
    (AV (AX (i:=3) MN.nd rfl (Or.inl rfl) (EU hu (pv 1) (Aa G hr (AA (pv 3) AB)) (λ_ _=>rfl))))))
  (AV (An (Cy Fb (by rfl) mt B6 (AA (pv 2) AB)))))),?_⟩
 refine⟨_,rfl,by exact Gr,λl hl=>?_⟩;refine⟨_,rfl,_,rfl,s0,rfl,d,_,rfl,IE (AZ hl _ _ _ hd) (T.KY hs),?_⟩;refine Hv (λσ H2=>∃j,1<=j/\j<=BS (AL ts) s0/\σ=[some (.int s0),some (.ref d),some (.ref l),some (.int (Ax (AL ts) j s0))]/\AN H H2/\H2 l=some (.AF ((Cf (AL ts) s0 j).map V.int)))
  (λ_ H2=>match H2 l with | some (.AF xs)=>BS (AL ts) s0-xs.length | _=>0) ⟨1,i4 _,PE.1,rfl,AZ hl _,AU⟩ ?_ ?_
 ·rintro σ H2 ⟨j,j1,j2,rfl,sm,hl2⟩;refine⟨_,rfl,_,rfl,rfl,_,rfl,?_⟩;by_cases he:Ax (AL ts) j s0=s0
  ·refine D7 (iv he) ?_;have hj:j=BS (AL ts) s0:=by
    rcases jv j (BS (AL ts) s0) with z | z
    ·exact absurd he (PE.2.2 j j1 z)
    ·omega
   subst hj;refine⟨_,rfl,l,_,rfl,.inl ⟨AQ.of hl2,λp hp=>?_⟩⟩;exact q p _ (sm.trans (AZ hp _)) (sm.free hp) AU
  ·refine HQ (EE he) ?_;have hj:j<BS (AL ts) s0:=by
    rcases jv j (BS (AL ts) s0) with z | z
    ·exact z
    ·exact absurd (by rw[show j=BS (AL ts) s0 by omega]; exact PE.2.1) he
   have hpl:=Uk PM hs;have hlen:(Cf (AL ts) s0 j).length=j:=Jq;refine⟨_,rfl,.inl ⟨rfl,_,AQ.of hl2⟩,_,rfl,l,_,_,rfl,rfl,hl2,by rw[ig,hlen]; exact Cw (by omega),?_⟩;have sm2:=sm.up hl (.AF ((Cf (AL ts) s0 j).map V.int++[.int (Ax (AL ts) j s0)]));refine⟨_,rfl,_,rfl,_,rfl,d,_,rfl,IE (sm2 _ _ hd) (T.KY (D6 PM hs j)),?_⟩;refine⟨⟨j+1,by omega,hj,rfl,sm2,?_⟩,?_⟩
   ·rw[AU,QB,ji];rfl
   ·rw[AU,hl2];show BS (AL ts) s0-((Cf (AL ts) s0 j).map V.int++[V.int (Ax (AL ts) j s0)]).length<BS (AL ts) s0-((Cf (AL ts) s0 j).map V.int).length;rw[jc,ig,hlen,kh];omega
 ·rintro σ H2 Q1 Q2 hq ⟨v,e,v',e',sc,b,eb,z⟩;exact⟨v,e,v',e',sc,b,eb,hq _ _ z⟩
def HN(H:Hp)(bs:List Addr)(R:List (List Int)):Prop:=bs.length=R.length/\∀(i:Nat) (b:Addr) (row:List Int),bs[i]?=some b->R[i]?=some row->H b=some (.AG (row.map V.int))
theorem HN.snoc{H H':Hp}{bs:List Addr}{R:List (List Int)}{b:Addr}{row:List Int}(h:HN H bs R)(s:∀c ys,H c=some (.AG ys)->H' c=some (.AG ys))(hb:H' b=some (.AG (row.map V.int))):HN H' (bs++[b]) (R++[row]):=by
 refine⟨by rw[jc,jc,h.1]; rfl,λi c r e1 e2=>?_⟩;rcases jv i bs.length with z | z
 ·rw[jm z] at e1;rw[jm (by rw[<-h.1]; exact z)] at e2;exact s _ _ (h.2 i c r e1 e2)
 ·have hi:i<bs.length+1:=by
   have:=(ip.mp e1).1
   rw[jc] at this;exact this
  have hi2:i=bs.length:=by omega
  subst hi2;rw[jd (i4 _),mU] at e1;rw[h.1,jd (i4 _),mU] at e2;cases e1;cases e2;exact hb
theorem HN.keep{H H':Hp}{bs:List Addr}{R:List (List Int)}(h:HN H bs R)(s:∀c ys,H c=some (.AG ys)->H' c=some (.AG ys)):HN H' bs R:=⟨h.1,λi b r e1 e2=>s _ _ (h.2 i b r e1 e2)⟩
theorem Bs.AG{x:Addr}{H H':Hp}(h:Bs x H H')(hx:∀ys,H x≠some (.AG ys)):∀c ys,H c=some (.AG ys)->H' c=some (.AG ys):=λc ys e=>h c _ (λz=>hx ys (z ▸ e)) e
theorem Ms{φ:Int->Int}{n:Nat}(PM:FK φ n){i:Nat}(hi:i<=n):(Am φ i).flatten.length<=n/\(Am φ i).length<=n:=by
 have L:=Gu PM i hi;have inn:∀x∈(Am φ i).flatten,AD n x:=λx hx=>by
  obtain⟨r,hr,hx⟩:=jn.mp hx;obtain⟨s,hs,_,e,_⟩:=L.of r hr;subst e;exact KA PM hs hx
 have h1:=HL n _ L.nd inn;refine⟨h1,js ?_ h1⟩
 have:∀R:List (List Int),(∀r∈R,1<=r.length)->R.length<=R.flatten.length:=by
  intro R
  induction R with
  | nil=>intro _; exact i4 _
  | cons r R ih =>
   intro h;have h2:=ih λr' hr'=>h r' (jB _ hr')
   have h3:=h r (jZ ..);rw[jx,jc,jD];omega
 refine this _ λr hr=>?_
 obtain⟨s,hs,_,e,_⟩:=L.of r hr;subst e;exact kQ (Ht PM hs)
inductive RA(vs:List V)(H:Hp)(Q:VK):Prop
 | mk (a:Addr) (bs:List Addr) (ts:List (List Int)) (n:Nat) (h_0:vs=[.ref a]) (h_1:Hn H a bs ts) (h_2:B9 n ts) (h_3:n<=1000) (h_4:∀p cs H',AN H H'->H p=none->H' p=some (.AG (cs.map V.ref))->HN H' cs (Am (AL ts) n)->Q (.ref p) H'):RA vs H Q
def N6:Sp:=λvs H Q _=>RA vs H Q
theorem Ib:A2 ["turns","ahead","seen","lands","start","ring","end"] ["turns"] (Ap sRings):=A8
theorem ZV {f:Addr} {fd:FuncData} (F:Ar K "rings" "rings" sRings f fd) (G:Al P w K mg base 1 "ends_ahead" ["turns"] S4)
  (G2:Al P w K mg base 2 "ring_from" ["start","ahead"] UG)
  (ml:mg "len" = none) (mr:mg "range" = none) (mt:mg "tuple" = none):Ao P w K mg base Ay 3 f fd ["turns"] N6:=by
 refine F.A9 Ib λcdv A outer s H vs Q E hr h=>?_
 obtain⟨a,bs,ts,n,rfl,hT,T,hn,q⟩:=h;have hu:=FN hr;have PM:=T.perm;refine⟨_,AR (AX (i:=1) Ib.nd rfl (Or.inl rfl) (Aa G (hr.mono (by decide)) (AA (pv 0) AB)))
  (AR (AX (i:=2) Ib.nd rfl (Or.inl rfl) Jw)
  (AR (AX (i:=3) Ib.nd rfl (Or.inl rfl) (Cd AB))
  (AR (CQ jt rfl (Iw (by rfl) mr (AA (Au Mt (by rfl) ml BO (AA (pv 1) AB)) AB)) (Ae (i:=4) Ib.nd rfl (Or.inl rfl))
   (AV (Bl (KZ (Mn hu (pv 4) (pv 2)))
    (AR (AX (i:=5) Ib.nd rfl (Or.inl rfl) (Aa G2 hr (AA (pv 4) (AA (pv 1) AB))))
    (AR (CQ jt rfl (Fs (pv 5)) (Ae (i:=6) Ib.nd rfl (Or.inl rfl)) (AV (GR hu (pv 2) (pv 6) Ep rfl)))
    (AV (DN (Cr K jq jI jJ Dz (pv 3) (AA (pv 5) AB)))))) B7)))
  (AV (An (Cy Fb (by rfl) mt B6 (AA (pv 3) AB))))))),?_⟩
 refine⟨_,rfl,a,bs,ts,n,rfl,hT,T,hn,λd H1 s1 nd hd=>?_⟩;intro sn hsn;refine⟨by exact Gq,λld hld=>?_⟩;have s2:AN H1 (AJ H1 sn (.dK [])):=AZ hsn _;have s3:AN (AJ H1 sn (.dK [])) (AJ (AJ H1 sn (.dK [])) ld (.AF [])):=AZ hld _;have dsn:d≠sn:=BW hd hsn;have lsn:ld≠sn:=λz=>by rw[z,AU] at hld; cases hld
 have dld:d≠ld:=BW (s2 _ _ hd) hld;have fsn:H sn=none:=s1.free hsn;have fld:H ld=none:=(s1.trans s2).free hld;have hlenA:(BB (Az ts)).length=n:=by rw[ig,T.gN]
 try dsimp only
 try refine Cp ?_
 first | refine Co λUL1 hUL1=>?_ | refine nx_hide λUL1 hUL1=>?_
 refine⟨_,rfl,d,_,rfl,s3 _ _ (s2 _ _ hd),((BB (Az ts)).length:Int),rfl,by omega,by omega,?_⟩;rw[show(((BB (Az ts)).length:Int)).toNat=n by omega];refine LM (n:=n) (λi σ H2=>∃st rg en cs,σ=[some (.ref a),some (.ref d),some (.ref sn),some (.ref ld),st,rg,en]/\AN H H2/\H2 d=some (.dK (BB (Az ts)))/\H2 sn=some (.dK (Ji (Am (AL ts) i).flatten)) /\
  H2 ld=some (.AF (cs.map V.ref))/\HN H2 cs (Am (AL ts) i)) ⟨none,none,none,[],rfl,s1.trans (s2.trans s3),s3 _ _ (s2 _ _ hd),?_,AU,⟨rfl,λi b row e1 e2=>by simp at e1⟩⟩ ?_ ?_
 ·rw[Ad (kC lsn),AU];rfl
 ·rintro i σ H2 hi ⟨st,rg,en,cs,rfl,sm,hd2,hsn2,hld2,hR⟩;have hin:AD n (i:Int):=⟨by omega,by omega⟩;have L:=Gu PM i (by omega);refine⟨_,rfl,_,rfl,sn,_,rfl,DL.k (k:=Sum.inl ((0:Int)+(i:Nat))) hsn2,_,rfl,?_⟩;rw[NU,show(0:Int)+(i:Nat)=(i:Int) by omega];by_cases hm:(i:Int)∈(Am (AL ts) i).flatten
  ·rw[i5 hm];have e0:=XT hm;refine Bh ⟨_,_,_,cs,rfl,sm,hd2,?_,hld2,?_⟩
   ·rw[hsn2,e0]
   ·rw[e0];exact hR
  ·rw[iz hm];refine Ed ?_;have e1:=XN hm;refine⟨_,rfl,_,rfl,(i:Int),d,ts,n,rfl,hd2,T,hn,hin,λr H3 s4 nr hr3=>?_⟩;have sm3:=sm.trans s4;have rsn:r≠sn:=λz=>by rw[z,hsn2] at nr; cases nr
   have ll:=Ms PM (i:=i+1) (by omega);rw[e1,j3,jc,jc] at ll;simp only[jx,oj,kg,kh] at ll
   try dsimp only
   try refine Cp ?_
   first | refine Co λUL2 hUL2=>?_ | refine nx_hide λUL2 hUL2=>?_
   refine⟨_,rfl,r,rfl,⟨_,AI.of hr3⟩,?_⟩;refine IA (xs:=(BK (AL ts) i).map V.int) (λk σ H4=>∃en,σ=[some (.ref a),some (.ref d),some (.ref sn),some (.ref ld),some (.int (i:Int)),some (.ref r),en]/\Bs sn H3 H4/\H4 sn=some (.dK (Ji ((Am (AL ts) i).flatten++(BK (AL ts) i).take k))))
    ⟨en,rfl,Bs.refl _ _,by rw[oJ,kg]; exact s4 _ _ hsn2⟩ (λk σ H4 _ ⟨_,_,sb,_⟩=>AI.of (sb _ _ rsn hr3)) ?_ ?_
   ·rintro k x σ H4 hx ⟨en4,rfl,sb,hs4⟩;obtain⟨e,rfl,he⟩:=GS hx;have fr:e∉(Am (AL ts) i).flatten++(BK (AL ts) i).take k:=by
     have nd2:=(Gu PM (i+1) (by omega)).nd;rw[e1] at nd2;have hii:(Am (AL ts) i++[BK (AL ts) i])[(Am (AL ts) i).length]?=some (BK (AL ts) i):=by
      rw[jd (i4 _),mU];rfl
     have:=LK nd2 hii he
     rw[List.take_append_of_le_length (i4 _),lj] at this;exact this
    refine⟨_,rfl,_,rfl,sn,_,rfl,D8.k (k:=Sum.inl e) hs4 ?_,?_⟩
    ·rw[ig,jc,jT];exact Cw (by omega)
    ·refine⟨_,rfl,sb.E1 _,?_⟩;rw[AU,Zw fr,jU,DM he]
   ·rintro σ H4 ⟨en4,rfl,sb,hs4⟩;subst hUL2;rw[ig,lj] at hs4;have hld4:H4 ld=some (.AF (cs.map V.ref)):=sb _ _ lsn (s4 _ _ hld2);refine⟨_,rfl,.inl ⟨rfl,_,AQ.of hld4⟩,_,rfl,ld,_,_,rfl,rfl,hld4,by rw[ig,hR.1]; exact Cw (by omega),?_⟩;have tups:∀c ys,H3 c=some (.AG ys)->(AJ H4 ld (.AF (cs.map V.ref++[.ref r]))) c=some (.AG ys):=λc ys e=>by
     have n1:c≠sn:=λz=>by rw[z,s4 _ _ hsn2] at e; cases e
     have n2:c≠ld:=λz=>by rw[z,s4 _ _ hld2] at e; cases e
     rw[Ad n2];exact sb _ _ n1 e
    refine⟨_,_,_,cs++[r],rfl,?_,?_,?_,?_,?_⟩
    ·exact(sb.same sm3 fsn).up fld _
    ·rw[Ad dld];exact sb _ _ dsn (s4 _ _ hd2)
    ·rw[Ad (kC lsn),hs4,e1,j3];simp
    ·rw[AU,ji];rfl
    ·rw[e1];exact(hR.keep λc ys e=>s4 _ _ e).snoc tups (tups _ _ hr3)
 ·rintro σ H2 ⟨st,rg,en,cs,rfl,sm,hd2,hsn2,hld2,hR⟩;subst hUL1;refine⟨_,rfl,ld,_,rfl,.inl ⟨AQ.of hld2,λp hp=>?_⟩⟩;exact q p cs _ (sm.trans (AZ hp _)) (sm.free hp) AU (hR.keep λc ys e=>AZ hp _ _ _ e)
def NL:Sp:=λvs H Q _=>∃(a:Addr) (bs:List Addr) (ts:List (List Int)) (n:Nat),vs=[.ref a]/\Hn H a bs ts/\B9 n ts/\n<=1000 /\
 ∀p H',AN H H'->H p=none->H' p=some (.AG (((List.range n).map λe:Nat=>(lk (C6 0 (Am (AL ts) n)) (e:Int)).getD 0).map V.int))->Q (.ref p) H'
theorem Kp:A2 ["turns","numbers","number","ring","end"] ["turns"] (Ap sLandOf):=A8
theorem dr:(["end","numbers"]:List Str).Nodup:=by decide +kernel
theorem Y6{R:List (List Int)}{j:Nat}{row:List Int}(h:R[j]?=some row)(k:Nat):((C6 0 (R.take j)++(row.take k).map λe=>(e,(j:Int))).map (·.1))=(R.take j).flatten++row.take k:=by
 rw[ji,Jv,jH];congr 1;exact sT (λ_=>rfl) _
theorem Y7{R:List (List Int)}{j:Nat}{row:List Int}(h:R[j]?=some row):C6 0 (R.take (j+1))=C6 0 (R.take j)++row.map λe=>(e,(j:Int)):=by
 have hj:j<R.length:=(ip.mp h).1;rw[DM h,Qo,jT,nJ,Nat.min_eq_left (by omega)]
theorem Y0{R:List (List Int)}{i:Nat}{row:List Int}(h:R[i]?=some row)(j:Nat):((R.take i).flatten++row.take j).length<=R.flatten.length:=by
 obtain⟨hi,q1⟩:=ip.mp h;have e1:R=R.take i++row :: R.drop (i+1):=by rw[<-q1,kP,kq]
 have e2:R.flatten.length=(R.take i).flatten.length+(row.length+(R.drop (i+1)).flatten.length):=by
  conv=>lhs; rw[e1]
  rw[j3,jx,jc,jc]
 rw[e2,jc,jT];omega
theorem YF {D:Addr} {L:List (Int×Int)} {n:Nat} {H1:Hp} {acc:Addr} {G:Hp->Prop} {σ0:St} (hσ:σ0=[none,some (.ref D)]) (hD:H1 D=some (.dK (BB L))) (hl:∀e:Nat,e<n->∃v,lk L e=some v) (hn:n<=1000) (hacc:H1 acc=none)
  (fin:∀H2,AN H1 H2->H2 acc=some (.AF (((List.range n).map λe:Nat=>(lk L (e:Int)).getD 0).map V.int))->G H2) :
  ∃W:Nat->Nat->List V->St->Hp->Prop,(∃m,W 0 m [] σ0 (AJ H1 acc (.AF [])))/\∀i m ys σc H2,W i m ys σc H2 →
  ((FY 0 n).stop i H2/\G H2)\/((FY 0 n).go i H2/\∀x H3,(FY 0 n).ED i H2 x H3->BU 0 x σc H3 λσ4 H4=>MA (Aj 1) (Aj 0) σ4 H4 λv H5=>H5 acc=some (.AF ys)/\ys.length<sizeLine/\∃m',m' < m/\W (i+1) m' (ys++[v]) σ4 (AJ H5 acc (.AF (ys++[v])))):=by
 refine⟨λi m ys σc H2=>m=n-i/\i<=n/\AN H1 H2/\H2 acc=some (.AF ys)/\ys=((List.range i).map λe:Nat=>(lk L (e:Int)).getD 0).map V.int/\∃u,σc=[u,some (.ref D)],⟨n,rfl,jS _,AZ hacc _,AU,rfl,none,hσ⟩,?_⟩;rintro i m ys σc H2 ⟨rfl,hi,sm,ha,hys,u,rfl⟩;rcases jv i n with hlt | hge
 ·refine .inr ⟨hlt,λx H3 yl=>?_⟩;obtain⟨rfl,rfl⟩:=yl;obtain⟨v,hv⟩:=hl i hlt;refine⟨_,rfl,_,rfl,D,.int v,rfl,?_,ha,?_,n-(i+1),by omega,rfl,hlt,?_,AU,?_,_,rfl⟩
  ·rw[show(0:Int)+(i:Nat)=(i:Int) by omega];exact IE (sm _ _ hD) hv
  ·rw[hys,ig,ig,jN];exact Cw (by omega)
  ·exact sm.up hacc _
  ·rw[hys,lS,ji,ji,i8,kf,hv];rfl
 ·obtain rfl:i=n:=by omega
  exact .inl ⟨i4 _,fin H2 sm (by rw[ha,hys])⟩
theorem YX {f:Addr} {fd:FuncData} (F:Ar K "land_of" "land_of" sLandOf f fd) (G:Al P w K mg base 3 "rings" ["turns"] N6)
  (ml:mg "len" = none) (mr:mg "range" = none) (mt:mg "tuple" = none) (me:mg "enumerate" = none):Ao P w K mg base Ay 4 f fd ["turns"] NL:=by
 refine F.ok Kp (λvs H Q E h=>?_) (λcdv A outer s H vs Q E hr h=>?_)
 ·obtain⟨a,bs,ts,n,rfl,_⟩:=h;rfl
 obtain⟨a,bs,ts,n,rfl,hT,T,hn,q⟩:=h;have hu:=FN hr;have PM:=T.perm;have nd:=Gz PM;have flen:=Wq PM;refine⟨_,AR (AX (i:=1) Kp.nd rfl (Or.inr rfl) Jw)
  (AR (CQ jt rfl (JE (by rfl) me (AA (Aa G hr (AA (pv 0) AB)) AB)) (II rfl (BF (Ae (i:=2) Kp.nd rfl (Or.inl rfl)) (BF (Ae (i:=3) Kp.nd rfl (Or.inl rfl)) Cq)))
   (AV (CQ jt rfl (Fs (pv 3)) (Ae (i:=4) Kp.nd rfl (Or.inl rfl)) (AV (GR hu (pv 1) (pv 4) (pv 2) rfl)))))
  (AV (An (Cy Fb (by rfl) mt B6 (AA (C5 (Nc:=["end","numbers"]) (cap:=[(1,1)]) (g:=BU 0) (te:=MA (Aj 1) (Aj 0)) rfl (Iw (by rfl) mr (AA (Au Mt (by rfl) ml BO (AA (pv 1) AB)) AB))
   (CB rfl rfl (by decide +kernel) (by decide +kernel) (jb.mpr ⟨⟨rfl,rfl⟩,i6 _⟩) rfl (jb.mpr ⟨⟨_,_,rfl,rfl,rfl,rfl,rfl⟩,i6 _⟩))
   (λ_ _ _ _ _=>Ae (i:=0) dr rfl (Or.inl rfl)) (λ_ _ _ _ _=>EU hu (pv 1) (pv 0) (λ_ _=>rfl))) AB))))),?_⟩
 intro d hd;have s0:AN H (AJ H d (.dK [])):=AZ hd _;refine⟨_,rfl,a,bs,ts,n,rfl,hT.keep s0,T,hn,λrr cs H1 s1 nrr hrr hR=>?_⟩;have hd1:H1 d=some (.dK []):=s1 _ _ AU;refine⟨rr,_,rfl,hrr,?_⟩;refine JB (xs:=cs.map V.ref) (λj σ H2=>∃nu rg en,σ=[some (.ref a),some (.ref d),nu,rg,en]/\Bs d H1 H2/\H2 d=some (.dK (BB (C6 0 ((Am (AL ts) n).take j))))) ⟨none,none,none,rfl,Bs.refl _ _,hd1⟩
  (λj σ H2 _ ⟨_,_,_,_,sb,_⟩=>sb _ _ (λz=>by rw[z,hd1] at hrr; cases hrr) hrr) ?_ ?_
 ·rintro j x σ H2 p hx ⟨nu,rg,en,rfl,sb,hd2⟩ hp;obtain⟨b,row,rfl,hb,hrow⟩:=Uc hR.1 hx;have hB1:=hR.2 j b row hb hrow;have bd:b≠d:=λz=>by rw[z,hd1] at hB1; cases hB1
  have s3:=AZ hp (.AG [.int j,.ref b]);refine⟨p,_,rfl,AI.of AU,rfl,_,_,rfl,_,_,rfl,rfl,?_⟩;have hB3:=s3 _ _ (sb _ _ bd hB1);refine⟨_,rfl,b,rfl,⟨_,AI.of hB3⟩,?_⟩;refine IA (xs:=row.map V.int) (λk σ H4=>∃en,σ=[some (.ref a),some (.ref d),some (.int j),some (.ref b),en]/\Bs d H1 H4/\H4 d=some (.dK (BB (C6 0 ((Am (AL ts) n).take j)++(row.take k).map λe=>(e,(j:Int))))))
   ⟨en,rfl,sb.trans (AN.b s3),by rw[oJ,kf,kg]; exact s3 _ _ hd2⟩ (λk σ H4 _ ⟨_,_,sb4,_⟩=>AI.of (sb4 _ _ bd hB1)) ?_ ?_
  ·rintro k x σ H4 hx4 ⟨en4,rfl,sb4,hd4⟩;obtain⟨e,rfl,he⟩:=GS hx4;have ky:=Y6 hrow k;refine⟨_,rfl,_,rfl,_,rfl,d,_,rfl,D8.k (k:=Sum.inl e) hd4 ?_,?_⟩
   ·have l1:=congrArg List.length ky;rw[ig] at l1;rw[ig,l1]
    have:=Y0 hrow k
    exact Cw (by omega)
   ·refine⟨_,rfl,sb4.E1 _,?_⟩;rw[AU,HI (by rw[ky]; exact LK nd hrow he),jU,DM he,ji];rfl
  ·rintro σ H4 ⟨en4,rfl,sb4,hd4⟩;refine⟨_,_,_,rfl,sb4,?_⟩;rw[hd4,ig,lj,Y7 hrow]
 ·rintro σ H2 ⟨nu,rg,en,rfl,sb,hd2⟩;rw[ig,jf (by rw[hR.1]; exact i4 _)] at hd2;have sm:AN H H2:=sb.same (s0.trans s1) hd;have hlen:(BB (C6 0 (Am (AL ts) n))).length=n:=by
   have:=congrArg List.length (Jv 0 (Am (AL ts) n))
   rw[ig,flen] at this;rw[ig,this]
  refine⟨_,rfl,d,_,rfl,hd2,((BB (C6 0 (Am (AL ts) n))).length:Int),rfl,by omega,by omega,λacc hacc=>?_⟩;rw[show(((BB (C6 0 (Am (AL ts) n))).length:Int)).toNat=n by omega];refine YF rfl hd2 (λe he=>?_) hn hacc λH3 s3 h3=>?_
  ·refine LX ?_;rw[Jv];exact(EG PM).mpr ⟨by omega,by omega⟩
  ·exact⟨acc,_,rfl,.inl ⟨AQ.of h3,λp hp=>q p _ ((sm.trans s3).trans (AZ hp _)) ((sm.trans s3).free hp) AU⟩⟩
abbrev AO:Type:=Nat×Nat×Rat
structure Eo(q:Rat):Prop where
 pos:0<q.num
 top:q.num<1000
 ie:(q.den:Int)<1000
variable {f g h f1 f2 f3 f4:Addr} {fd gd hd d1 d2 d3 d4:FuncData}
theorem VY{n:Nat}(h:2<=n):HT.Ag n n (some 2)=2:=by simp[HT.Ag]; omega
variable {C fI:Addr} {dI:FuncData}
structure Fo(H:Hp)(T:Addr)(bs:List Addr)(ts:List (List Int)):Prop where
 h1:H T=some (.AF (bs.map V.ref))
 rows:At Ce H bs ts
 nd:(T :: bs).Nodup
theorem Fo.keep{H H':Hp}{T:Addr}{bs:List Addr}{ts:List (List Int)}(M:Fo H T bs ts)(s:AN H H'):Fo H' T bs ts:=⟨s _ _ M.h1,M.rows.keep FF s,M.nd⟩
theorem Fo.E1{H:Hp}{T b:Addr}{bs:List Addr}{ts:List (List Int)}{i:Nat}{t:List Int}(M:Fo H T bs ts)(hb:bs[i]?=some b):Fo (AJ H b (.AF (t.map V.int))) T bs (ts.set i t):=by
 have bm:b∈bs:=iq hb;obtain⟨n1,n2⟩:=jV.mp M.nd;have e1:T≠b:=λz=>n1 (by rw[z]; exact bm)
 refine⟨by rw[Ad e1]; exact M.h1,⟨by rw[k9]; exact M.rows.1,λk c x q1 q2=>?_⟩,M.nd⟩;by_cases hk:i=k
 ·subst hk;rw[hb] at q1;cases q1;have hl:i<ts.length:=by rw[<-M.rows.1]; exact(ip.mp hb).1
  rw[jR hl] at q2;cases q2;exact AU
 ·rw[jF hk] at q2;have ne:c≠b:=λz=>hk (VM n2 hb (by rw[q1,z]))
  show AJ H b _ c=_;rw[Ad ne];exact M.rows.2 k c x q1 q2
def EK(hs:List Nat)(i:Nat):List Int:=((List.range hs.length).filter λe=>decide (hs[e]?=some i)).map (λe:Nat=>(e:Int))
theorem XO(hs:List Nat)(p i:Nat):EK (hs++[p]) i=if p=i then EK hs i++[(hs.length:Int)] else EK hs i:=by
 unfold EK;rw[jc,kh,lS,nG,ji];have e1:(List.range hs.length).filter (λe=>decide ((hs++[p])[e]?=some i))=(List.range hs.length).filter λe=>decide (hs[e]?=some i) :=
  List.filter_congr λx hx=>by rw[jm (jw.mp hx)]
 have e2:(hs++[p])[hs.length]?=some p:=by simp
 rw[e1];by_cases h:p=i
 ·rw[i5 h,pK (by rw[e2,h]; simp)]; rfl
 ·rw[iz h,pJ (by rw[e2]; simpa using h)]; simp
theorem YT{hs:List Nat}{i:Nat}{x:Int}:x∈EK hs i↔0<=x/\hs[x.toNat]?=some i:=by
 unfold EK;rw[i7];constructor
 ·rintro⟨e,he,rfl⟩;rw[mG] at he;exact⟨by omega,by simpa using he.2⟩
 ·rintro⟨h0,h1⟩;refine⟨x.toNat,mG.mpr ⟨jw.mpr (ip.mp h1).1,by simpa using h1⟩,by omega⟩
theorem Zk(hs:List Nat)(i:Nat):(EK hs i).Pairwise (· < ·):=by
 unfold EK;rw[kE];refine mN (λh=>by omega) (List.Pairwise.filter _ (mK))
def CF(rs:List AO):List Nat:=rs.flatMap λr=>[r.1,r.2.1]
def hm(rs:List AO):List Nat:=CF rs++[0,1]
theorem ET:∀rs:List AO,(CF rs).length=2*rs.length
 | []=>rfl
 | r :: rs=>by show(r.1 :: r.2.1 :: CF rs).length=_; simp[ET rs]; omega
theorem b9(rs:List AO):(hm rs).length=2*rs.length+2:=by unfold hm; rw[jc,ET]; rfl
theorem LQ(rs:List AO)(r:AO):CF (rs++[r])=CF rs++[r.1]++[r.2.1]:=by unfold CF; simp
structure BP(n:Nat)(rs:List AO)(ts:List (List Int)):Prop where
 m1:1<=rs.length
 m14:rs.length<=7
 n2:2<=n
 n15:n<=16
 len:ts.length=n
 tn:B9 (2*rs.length+2) ts
 ne:∀t∈ts,t≠[]
 ease:∀r∈rs,Eo r.2.2/\r.1<n/\r.2.1<n
 CD:∀(p:Nat) (t:List Int),ts[p]?=some t->∀x:Int,x∈t->(hm rs)[x.toNat]?=some p
 CY:∀S:Nat->Prop,S 0->(∀r∈rs,(S r.1↔S r.2.1))->∀p,p<n->S p
theorem LS{ts:List (List Int)}{t:List Int}(h:t∈ts):t.length<=ts.flatten.length:=by
 obtain⟨A,B,rfl⟩:=nF h;simp; omega
theorem BP.tlen{n:Nat}{rs:List AO}{ts:List (List Int)}(k:BP n rs ts){t:List Int}(h:t∈ts):t.length<=30:=by
 have:=LS h
 rw[k.tn.len] at this
 have:=k.m14
 omega
theorem Lo{ts:List (List Int)}{t:List Int}(nd:ts.flatten.Nodup)(h:t∈ts):t.Nodup:=by
 obtain⟨A,B,rfl⟩:=nF h;rw[j3,jx,jY,jY] at nd;exact nd.2.1.1
theorem BP.perm{n:Nat}{rs:List AO}{ts:List (List Int)}(k:BP n rs ts){p:Nat}{t:List Int}(h:ts[p]?=some t):t.Perm (EK (hm rs) p):=by
 have tm:=iq h;refine(lV (Lo k.tn.nd tm) ((Zk _ _).imp λh=>by omega)).mpr λx=>?_
 rw[YT];constructor
 ·intro hx;exact⟨((k.tn.mem x).mp (jn.mpr ⟨t,tm,hx⟩)).1,k.CD p t h x hx⟩
 ·rintro⟨h0,h1⟩;have hl:=(ip.mp h1).1;rw[b9] at hl;obtain⟨t',ht',hx⟩:=jn.mp ((k.tn.mem x).mpr ⟨h0,by omega⟩);obtain⟨j,hj,e⟩:=ju ht';have hj2:ts[j]?=some t':=by rw[ij hj,e]
  have:=k.CD j t' hj2 x hx
  rw[h1] at this;obtain rfl:p=j:=je this;rw[h] at hj2;cases hj2;exact hx
variable {f5 f6:Addr} {d5 d6:FuncData}
theorem QU:bootBuiltins "sorted" = some (.builtin "sorted"):=by decide +kernel
theorem fB{H H':Hp}{a:Addr}{ts:List (List Int)}(s:AN H H')(h:A4 Ba H a ts):A4 Ba H' a ts:=Fq (R:=Ba) (λs h=>C4 s h) s h
theorem Nh{H:Hp}{T:Addr}{bs:List Addr}{ts:List (List Int)}{p:Nat}{t:List Int}(M:Fo H T bs ts)(h:ts[p]?=some t):∃b,bs[p]?=some b/\b∈bs/\Bt (bs.map V.ref) ((p:Nat):Int)=some (.ref b)/\H b=some (.AF (t.map V.int)):=by
 obtain⟨b,hb,hB⟩:=M.rows.get h;exact⟨b,hb,iq hb,BX (CT hb),hB⟩
theorem JC{x:Int}:∀{t:List Int},x∈t->∃u1 u2,t=u1++x :: u2/\x∉u1
 | a :: t,h=>by
  by_cases e:x=a
  ·subst e; exact⟨[],t,rfl,by simp⟩
  ·rcases jh.mp h with z | z
   ·exact absurd z e
   ·obtain⟨u1,u2,rfl,n⟩:=JC z;exact⟨a :: u1,u2,rfl,by simp[e,n]⟩
theorem KG{x:Int}{u2:List Int}:∀{u1:List Int},x∉u1->(u1++x :: u2).idxOf x=u1.length
 | [],_=>by simp
 | a :: u,h=>by
  have e:a≠x:=λz=>h (by rw[z]; exact jZ ..)
  have:=KG (u2:=u2) (u1:=u) (λz=>h (jB _ z))
  rw[lK,pP,this,show(a == x)=false from beq_false_of_ne e];rfl
theorem Q5{x y:Int}{u:List Int}(h:x∉u):(u.map λz=>if z=x then y else z)=u:=by
 conv=>rhs; rw[<-List.map_id u]
 refine ko λz hz=>?_
 have:z≠x:=λq=>h (by rw[<-q]; exact hz)
 rw[iz this]; rfl
theorem Rz{x y:Int}{t:List Int}(nd:t.Nodup)(h:x∈t):t.set (t.idxOf x) y=t.map λz=>if z=x then y else z:=by
 obtain⟨u1,u2,rfl,n1⟩:=JC h;rw[KG n1,qh _ _ (i4 _),mU,List.set_cons_zero,ji,i8,i5 rfl,Q5 n1];rw[jY,jV] at nd;rw[Q5 nd.2.1.1]
theorem _root_.Mth.Gn.at{ts:List (List Int)}{hs:List Nat}(g:Gn ts hs){x:Int}(h:AD hs.length x):∃p t,ts[p]?=some t/\x∈t/\hs[x.toNat]?=some p:=by
 obtain⟨t,ht,hx⟩:=jn.mp ((g.mem x).mpr h);obtain⟨p,hp,e⟩:=ju ht;have h2:ts[p]?=some t:=by rw[ij hp,e]
 exact⟨p,t,h2,hx,g.CD p t h2 x hx⟩
theorem Nw(φ:Int->Int)(s:Int)(i:Nat):∀k,Ax φ k (Ax φ i s)=Ax φ (k+i) s
 | 0=>by rw[nJ]; rfl
 | k+1=>by
  rw[show k+1+i=(k+i)+1 by omega];show φ (Ax φ k (Ax φ i s))=φ (Ax φ (k+i) s);rw[Nw φ s i k]
theorem Xa{φ:Int->Int}{n:Nat}(PM:FK φ n){s a b:Int}(hs:AD n s)(ha:a∈BK φ s)(hb:b∈BK φ s):∃k,Ax φ k a=b:=by
 obtain⟨i,hi,rfl⟩:=DV.mp ha;obtain⟨j,hj,rfl⟩:=DV.mp hb;have pp:=FH PM hs;refine⟨(BS φ s-i)+j,?_⟩;have e:Ax φ (BS φ s-i) (Ax φ i s)=s:=by rw[Nw,show BS φ s-i+i=BS φ s by omega]; exact pp.2.1
 rw[show BS φ s-i+j=j+(BS φ s-i) by omega,<-Nw,e]
theorem NY{ts:List (List Int)}{hs:List Nat}(g:Gn ts hs){p:Nat}{t:List Int}(h:ts[p]?=some t):t.length<=hs.length:=by
 have:=LS (iq h)
 rwa [g.FP.len] at this
theorem _root_.Mth.Gn.tsl{ts:List (List Int)}{hs:List Nat}(g:Gn ts hs):ts.length<=hs.length:=by have:=g.few; omega
theorem iB{R:List Int}(h:0<R.length)(c:Int):∃a,a∈R/\Bt (R.map V.int) (c % (((R.map V.int).length:Nat):Int))=some (.int a):=by
 rw[ig];have h0:(0:Int)<(R.length:Int):=by omega
 have c0:=j9 c (lB h0);have c1:=ke c h0;generalize c % (R.length:Int)=d at c0 c1;have hd:d.toNat<R.length:=by omega
 refine⟨R[d.toNat],ka hd,?_⟩
 have:=BX (xs:=R.map V.int) (OT (ij hd))
 rwa [show((d.toNat:Nat):Int)=d by omega] at this
theorem HH:∀{rs:List AO} {k:Nat} {r:AO},rs[k]?=some r->(CF rs)[2*k]?=some r.1/\(CF rs)[2*k+1]?=some r.2.1
 | r0 :: rs,0,r,h=>by cases h; exact⟨rfl,rfl⟩
 | r0 :: rs,k+1,r,h=>by
  have:=HH (rs:=rs) (k:=k) (r:=r) (by simpa using h)
  rw[show 2*(k+1)=2*k+1+1 by omega];exact this
theorem Yh{H:Hp}{b c:Addr}{ys:List V}{o:HO}{r:AO}(hb:H b=some (.AF ys))(h:Bg H c r):Bg (AJ H b o) c r:=by
 obtain⟨e,h1,h2⟩:=h;refine⟨e,by rw[Ad (λz=>by rw[z,hb] at h1; cases h1)]; exact h1,?_⟩;unfold AS at h2 ⊢;rw[Ad (λz=>by rw[z,hb] at h2; cases h2)]; exact h2
theorem NB{H:Hp}{b:Addr}{ys:List V}{o:HO}{cs:List Addr}{rs:List AO}(hb:H b=some (.AF ys))(h:At Bg H cs rs):At Bg (AJ H b o) cs rs:=⟨h.1,λi c r e1 e2=>Yh hb (h.2 i c r e1 e2)⟩
theorem Xi{ts us:List (List Int)}(h:ts.Perm us):(Az ts).Perm (Az us):=by
 unfold Az;exact(h.map BG).flatten
theorem LW{ts us:List (List Int)}(h:ts.Perm us)(nd:ts.flatten.Nodup){x:Int}(hx:x∈ts.flatten):pr us x=pr ts x :=
 DZ (h.flatten.nodup_iff.mp nd) ((Xi h).mem_iff.mp (GV nd hx))
theorem XX{n:Nat}{π:Nat->Nat}(into:∀p,p<n->π p<n)(inv:∃τ:Nat->Nat,∀q,q<n->τ q<n/\π (τ q)=q)(inj:∀p q,p<n->q<n->π p=π q->p=q):((List.range n).map π).Perm (List.range n):=by
 obtain⟨τ,hτ⟩:=inv;refine(lV ?_ kU).mpr λx=>?_
 ·rw[List.Nodup,kE];refine nD (λ{a b} ha hb hab e=>?_) (kU (n:=n));exact hab (inj a b (jw.mp ha) (jw.mp hb) e)
 ·rw[i7,jw];constructor
  ·rintro⟨p,hp,rfl⟩;exact into p (jw.mp hp)
  ·intro hx;exact⟨τ x,jw.mpr (hτ x hx).1,(hτ x hx).2⟩
theorem Qm(us:List (List Int)):(List.range us.length).map (λq=>us.getD q [])=us:=by
 refine l9 (by simp) λi h1 h2=>?_
 simp[List.getD,h2]
structure WS(n m:Nat)(π:Nat->Nat)(ρ:Int->Int):Prop where
 p0:π 0=0
 p1:π 1=1
 pin:∀p,p<n->π p<n
 WB:∃τ:Nat->Nat,∀q,q<n->τ q<n/\π (τ q)=q
 gX:∀p q,p<n->q<n->π p=π q->p=q
 rin:∀x,AD (2*m+2) x->AD (2*m+2) (ρ x)
 rinv:∃σ:Int->Int,∀x,AD (2*m+2) x->AD (2*m+2) (σ x)/\ρ (σ x)=x
 rinj:∀x y,AD (2*m+2) x->AD (2*m+2) y->ρ x=ρ y->x=y
 r0:ρ 0=2*(m:Int)
 roth:∀x,AD (2*m+2) x->AH (ρ x)=ρ (AH x)
theorem cX {ts:List (List Int)} {hs:List Nat} {m:Nat} {rs:List AO} {us:List (List Int)} {π:Nat->Nat} {ρ:Int->Int} (g:Gn ts hs) (hl:hs.length=2*m+2) (h14:m<=7) (hr:rs.length=m) (hu:us.length=ts.length) (R:WS ts.length m π ρ)
  (rot:∀(p:Nat) (t:List Int),ts[p]?=some t->∃u,us[π p]?=some u/\Cv (t.map ρ) u)
  (hom:∀x,AD (2*m+2) x->(hm rs)[(ρ x).toNat]?=(hs[x.toNat]?).map π) (ease:∀r∈rs,Eo r.2.2):BP ts.length rs us/\MY us m:=by
 have n4:=g.n4;have few:=g.few;obtain⟨τ,hτ⟩:=R.WB;obtain⟨σ,hσ⟩:=R.rinv;have inx:∀x∈ts.flatten,AD (2*m+2) x:=λx hx=>by have:=(g.mem x).mp hx; rwa [hl] at this
 obtain⟨nd',pm'⟩:=OM (ts:=ts) (ρ:=ρ) g.nd (λx hx y hy=>R.rinj x y (inx x hx) (inx y hy));have perm:((List.range ts.length).map λp=>us.getD (π p) []).Perm us:=by
  have:=(XX R.pin R.WB R.gX).map (λq=>us.getD q [])
  rw[jH,<-hu,Qm us,hu] at this;exact this
 have lw:(ts.map λt=>t.map ρ).length=((List.range ts.length).map λp=>us.getD (π p) []).length:=by simp
 have rw1:∀(i:Nat) (t u:List Int),(ts.map λt=>t.map ρ)[i]?=some t->((List.range ts.length).map λp=>us.getD (π p) [])[i]?=some u->Cv t u:=by
  intro i t u h1 h2;rw[iy] at h1;cases e:ts[i]? with
  | none=>rw[e] at h1; cases h1
  | some t0 =>
   rw[e] at h1;cases h1;have hi:i<ts.length:=(ip.mp e).1;rw[iy,j4 hi] at h2;cases h2;obtain⟨u,hu1,hu2⟩:=rot i t0 e;show Cv (t0.map ρ) (us.getD (π i) []);rw[ir,hu1];exact hu2
 obtain⟨nd1,pr1⟩:=Nv nd' lw rw1;have pf:=LG lw rw1;have nd2:us.flatten.Nodup:=perm.flatten.nodup_iff.mp nd1;have mem2:∀x,x∈us.flatten↔AD (2*m+2) x:=by
  intro x;rw[<-perm.flatten.mem_iff,<-pf.mem_iff,GN,i7];constructor
  ·rintro⟨y,hy,rfl⟩;exact R.rin y (inx y hy)
  ·intro hx;obtain⟨s1,s2⟩:=hσ x hx;exact⟨_,(g.mem _).mpr (by rw[hl]; exact s1),s2⟩
 have T:B9 (2*m+2) us:=⟨nd2,mem2,by omega⟩;have pr2:∀y,AD (2*m+2) y->pr us (ρ y)=ρ (pr ts y):=by
  intro y hy;have hy1:y∈ts.flatten:=(g.mem y).mpr (by rw[hl]; exact hy);have hy2:ρ y∈(ts.map λt=>t.map ρ).flatten:=by rw[GN]; exact i7.mpr ⟨y,hy1,rfl⟩
  rw[LW perm nd1 (pf.mem_iff.mp hy2),pr1 _ hy2,pm' y hy1]
 have back:∀{q:Nat} {u:List Int},us[q]?=some u->∃p t,p<ts.length/\ts[p]?=some t/\π p=q/\Cv (t.map ρ) u:=by
  intro q u h;have hq:q<ts.length:=by rw[<-hu]; exact(ip.mp h).1
  obtain⟨t1,t2⟩:=hτ q hq;obtain⟨u',h1,h2⟩:=rot (τ q) _ (ij t1);rw[t2,h] at h1;cases h1;exact⟨τ q,_,t1,ij t1,t2,h2⟩
 have home_lt:∀{x:Int} {p:Nat},AD (2*m+2) x->hs[x.toNat]?=some p->p<ts.length:=by
  intro x p hx h;obtain⟨p',t,h1,_,h2⟩:=g.at (x:=x) (by rw[hl]; exact hx);rw[h] at h2;cases h2;exact(ip.mp h1).1
 have hs_at:∀{x:Int},AD (2*m+2) x->∃p,hs[x.toNat]?=some p:=λ{x} hx=>by
  obtain⟨p',t,_,_,h2⟩:=g.at (x:=x) (by rw[hl]; exact hx);exact⟨p',h2⟩
 have hm_lt:∀{y:Int} {q:Nat},AD (2*m+2) y->(hm rs)[y.toNat]?=some q->q<ts.length:=by
  intro y q hy h;obtain⟨s1,s2⟩:=hσ y hy;obtain⟨p,hp⟩:=hs_at s1
  have:=hom _ s1
  rw[s2,h,hp] at this;cases this;exact R.pin p (home_lt s1 hp)
 have rope_at:∀{k:Nat} {r:AO},rs[k]?=some r->(hm rs)[((2*k:Nat):Int).toNat]?=some r.1/\(hm rs)[((2*k+1:Nat):Int).toNat]?=some r.2.1:=by
  intro k r h;have hk:k<rs.length:=(ip.mp h).1;obtain⟨a1,a2⟩:=HH h;unfold hm;have l0:=ET rs;exact⟨by rw[kd,jm (by rw[l0]; omega)]; exact a1,by rw[kd,jm (by rw[l0]; omega)]; exact a2⟩
 have nxr:∀x,AD (2*m+2) x->AL us (ρ x)=ρ (AL ts x):=λx hx=>by
  have ho:=CI (n:=2*m+2) (by omega) hx;rw[BZ,R.roth x hx,pr2 _ ho,BZ]
 have dz:Ef (AL us) m:=by
  have d0:=g.du;rw[hl] at d0;exact dP d0 (λx hx=>by have:=g.FP.perm.into x (by rw[hl]; exact hx); rwa [hl] at this) R.rin R.rinv R.rinj R.r0 R.roth nxr
 have pz:Cm us (2*m+2):=by
  have p0:=g.po;rw[hl] at p0;refine aG p0 (λx hx=>by have:=g.FP.perm.into x (by rw[hl]; exact hx); rwa [hl] at this) (by omega) R.rin R.rinv R.rinj R.roth nxr λf bal t ht=>?_
  obtain⟨i,hi,e⟩:=ju ht;obtain⟨u,hu1,hu2⟩:=rot i t (by rw[ij hi,e])
  have:=ND (hu2.perm.map f)
  rw[bal u (iq hu1),jH] at this;exact this
 refine⟨⟨by omega,by omega,g.two,by omega,hu,by rw[hr]; exact T,?_,?_,?_,?_⟩,dz,pz⟩
 ·intro u hu';obtain⟨q,hq,e⟩:=ju hu';obtain⟨p,t,_,ht,_,r⟩:=back (show us[q]?=some u by rw[ij hq,e]);intro z
  have:=r.perm.length_eq
  rw[z,ig] at this;exact g.ne t (iq ht) (List.eq_nil_of_length_eq_zero (by simpa using this))
 ·intro r hr';obtain⟨k,hk,e⟩:=ju hr';obtain⟨a1,a2⟩:=rope_at (show rs[k]?=some r by rw[ij hk,e]);exact⟨ease r hr',hm_lt ⟨by omega,by push_cast; omega⟩ a1,hm_lt ⟨by omega,by push_cast; omega⟩ a2⟩
 ·intro q u hu' y hy;obtain⟨p,t,_,ht,eq,r⟩:=back hu';obtain⟨x,hx,rfl⟩:=i7.mp (r.perm.mem_iff.mpr hy);have ix:=inx x (jn.mpr ⟨t,iq ht,hx⟩);rw[hom x ix,g.CD p t ht x hx,<-eq];rfl
 ·intro S h0 hS q hq;obtain⟨t1,t2⟩:=hτ q hq;rw[<-t2];refine g.CY (λp=>S (π p)) (by show S (π 0); rw[R.p0]; exact h0) (λk k1 p' q' e1 e2=>?_) _ t1;have hj:=(ip.mp e2).1;have i1:AD (2*m+2) ((2*k:Nat):Int):=⟨by omega,by push_cast; omega⟩;have i2:AD (2*m+2) ((2*k+1:Nat):Int):=⟨by omega,by push_cast; omega⟩;have o1:AH ((2*k:Nat):Int)=((2*k+1:Nat):Int):=by rw[Gx (by omega)]; push_cast; rfl
  have h1:=hom _ i1;have h2:=hom _ i2;rw[kd,e1] at h1;rw[kd,e2] at h2;have r1:=R.rin _ i1;have ro:=R.roth _ i1;rw[o1] at ro;have z0:AD (2*m+2) 0:=⟨by omega,by push_cast; omega⟩;have z1:AD (2*m+2) 1:=⟨by omega,by push_cast; omega⟩;have e01:ρ 1=2*(m:Int)+1:=by
   have:=R.roth 0 z0
   rw[R.r0,show AH 0=1 from rfl] at this;rw[<-this]
   have:=Gx (n:=2*m) (by omega)
   push_cast at this;exact this
  have n0:ρ ((2*k:Nat):Int)≠2*(m:Int):=λz=>by
   have:=R.rinj _ _ i1 z0 (z.trans R.r0.symm)
   omega
  have n1:ρ ((2*k:Nat):Int)≠2*(m:Int)+1:=λz=>by
   have:=R.rinj _ _ i1 z1 (z.trans e01.symm)
   omega
  obtain⟨y0,y1⟩:=r1;generalize ρ ((2*k:Nat):Int)=y at h1 ro n0 n1 y0 y1;generalize ρ ((2*k+1:Nat):Int)=y' at h2 ro;have hj2:y.toNat / 2<rs.length:=by omega
  obtain⟨a1,a2⟩:=rope_at (ij hj2);have hS':=hS _ (ka hj2);rw[kd] at a1 a2;rcases oX y.toNat with e | e
  ·have ey:y'=y+1:=by rw[<-ro]; unfold AH; rw[i5 (by omega)]
   rw[show 2*(y.toNat / 2)=y.toNat by omega,h1] at a1;rw[show 2*(y.toNat / 2)+1=y'.toNat by omega,h2] at a2;have b1:π p'=rs[y.toNat / 2].1:=je a1;have b2:π q'=rs[y.toNat / 2].2.1:=je a2;show S (π p')↔S (π q');rw[b1,b2];exact hS'
  ·have ey:y'=y-1:=by rw[<-ro]; unfold AH; rw[iz (by omega)]
   rw[show 2*(y.toNat / 2)=y'.toNat by omega,h2] at a1;rw[show 2*(y.toNat / 2)+1=y.toNat by omega,h1] at a2;have b1:π q'=rs[y.toNat / 2].1:=je a1;have b2:π p'=rs[y.toNat / 2].2.1:=je a2;show S (π p')↔S (π q');rw[b1,b2];exact hS'.symm
inductive RN(vs:List V)(H:Hp)(Q:VK):Prop
 | mk (i:Int) (h_0:vs=[.int i]) (h_1:Q (.bl true) H):RN vs H Q
def Lj:Sp:=λvs H Q _=>RN vs H Q
theorem fm:A2 ["_law_found"] ["_law_found"] (Ap sWhole):=A8
theorem Yf(F:Ar K "_law_whole" "_law_whole" sWhole f fd)(ms:mg "isinstance" = none)(mi:mg "int" = none)(mb:mg "bool" = none):Ao P w K mg base Ay 1 f fd ["_law_found"] Lj:=by
 refine F.A9 fm λcdv A outer s H vs Q E hr h=>?_
 obtain⟨i,rfl,q⟩:=h;refine⟨_,AV (An (KH (Au (FA (c:=.ty "int") (cv:=.type "int") λ_ z=>z) (by rfl) ms E8 (AA (pv 0) (AA (FD (v:=.ty "int") (by rfl) mi cL rfl) AB)))
  (Lw (cU (Au (FA (c:=.ty "bool") (cv:=.type "bool") λ_ z=>z) (by rfl) ms E8 (AA (pv 0) (AA (FD (v:=.ty "bool") (by rfl) mb ba rfl) AB))))))),?_⟩
 refine⟨_,rfl,_,_,_,rfl,CV.int i,Fd K _,_,rfl,Ed ?_⟩;exact⟨_,rfl,_,_,_,rfl,CV.int i,W0 K,_,rfl,q⟩
inductive Ts(vs:List V)(H:Hp)(Q:VK):Prop
 | mk (p:Addr) (ns:List Int) (m:Int) (h_0:vs=[.ref p,.int m]) (h_1:H p=some (.AG (ns.map V.int))) (h_2:m=ns.length) (h_3:ns.length<=1000) (h_4:∀H',AN H H'->Q (.bl true) H'):Ts vs H Q
def MB:Sp:=λvs H Q _=>Ts vs H Q
theorem ft:A2 ["_law_found","_law_many"] ["_law_found","_law_many"] (Ap s_law_row):=A8
theorem Oo:(["_law_one"]:List Str).Nodup:=by decide +kernel
theorem dN (F : Ar K "_law_row" "_law_row" s_law_row f fd) (G : Al P w K mg base 1 "_law_whole" ["_law_found"] Lj) (ms : mg "isinstance" = none) (mt : mg "tuple" = none)
    (ml : mg "len" = none) (ma : mg "all" = none) : Ao P w K mg base Ay 2 f fd ["_law_found", "_law_many"] MB := by
  refine F.A9 ft λcdv A outer s H vs Q E hr h => ?_
  obtain⟨p, ns, m, rfl, hp, rfl, hn, q⟩ := h;refine⟨_, AR (Bl (PW.pt (DO (EJ (Dn (Au (FA (c := .ty "tuple") (cv := .type "tuple") λ_ z => z) (by rfl) ms E8 (AA (pv 0) (AA (FD (v := .ty "tuple") (by rfl) mt B6 rfl) AB)))))
        (Fp (BN Dd (Au (Bb (K := K)) (by rfl) ml BO (AA (pv 0) AB)) (pv 1) (BH _))))) (AV (An Ep)) B7)
    (AV (An (Au (LI rfl) (by rfl) ma Lk (AA (C5 (Nc := ["_law_one"]) (cap := []) (g := BU 0) (te := DI Lj [] E0 (BI (Aj 0) By)) rfl (Fx (K := K) (pv 0))
      (CB rfl rfl (by decide +kernel) (by decide +kernel) (i6 _) rfl (i6 _)) (λ_ _ _ _ _ => Ae (i := 0) Oo rfl (Or.inl rfl)) (λ_ _ _ _ _ => Aa G hr (AA (pv 0) AB))) AB)))), ?_⟩
  refine⟨_, rfl, _, _, _, rfl, CV.AG hp, Fd K _, _, rfl, Bh ?_⟩;refine⟨_, rfl, p, _, rfl, .inr (AI.of hp), _, rfl, rfl, _, rfl, ?_⟩;refine D7 (by rw[ig]) ?_;refine⟨_, rfl, p, rfl, ⟨_, AI.of hp⟩, λacc hacc => ?_⟩;refine⟨λi m ys σc H2 => m = ns.length - i /\ i <= ns.length /\ AN H H2 /\ H2 acc = some (.AF ys) /\ ys = (List.replicate i true).map V.bl /\ ∃u, σc = [u], ⟨ns.length, rfl, jS _, AZ hacc _, AU, rfl, none, rfl⟩, ?_⟩;rintro i m ys σc H2 ⟨rfl, hi, sm, ha, hys, u, rfl⟩;rcases jv i ns.length with hlt | hge
  · refine .inr ⟨⟨_, .int ns[i], AI.of (sm _ _ hp), OT (ij hlt)⟩, λx H3 yl => ?_⟩;obtain⟨rfl, hx⟩ := yl;obtain⟨e, rfl, _⟩ := GS (hx _ (AI.of (sm _ _ hp)));refine⟨_, rfl, e, rfl, ha, ?_, ns.length - (i + 1), by omega, rfl, hlt, sm.up hacc _, AU, ?_, _, rfl⟩
    · rw[hys, ig, mR];exact Cw (by omega)
    · rw[hys, lD, ji];rfl
  · obtain rfl : i = ns.length := by omega
    refine .inl ⟨⟨_, AI.of (sm _ _ hp), by rw[ig]; exact i4 _⟩, ?_⟩;refine⟨acc, List.replicate ns.length true, rfl, AQ.of (by rw[ha, hys]), ?_⟩;rw[show(List.replicate ns.length true).all id = true by simp];exact q H2 sm
theorem cN(a:Int):(if a<0 then -a else a)=(a.natAbs:Int):=by split <;> omega
theorem Zj{x y:Int}(hy:0<y):Int.gcd y (x % y)=Int.gcd x y:=by
 have:=Rf x y
 rwa [oU x (qK hy)] at this
theorem a9{t b:Int}(ht:0<t)(ht2:t<1000)(hb:0<b)(hb2:b<1000):Eo ((t:Rat) / (b:Rat)):=by
 have e:=Fc t b (by omega);have l1:=Qf t b (by omega);have l2:=Qq t b (by omega);have c:=QN t b;have d:=Ru t b (by omega);rw[e] at l1 l2 c d;dsimp only at l1 l2 c d;generalize ((t:Rat) / (b:Rat))=q at l1 l2 c d;have n0:0<q.num:=by
  rcases mP 0 q.num with h | h
  ·exact h
  ·have h1:0<t*(q.den:Int):=oK ht d;have h2:q.num*b<=0:=nT h (by omega);omega
 exact⟨n0,by omega,by omega⟩
theorem MM:A2 ["_law_a","_law_b","_law_rest"] ["_law_a","_law_b"] (Ap s_law_divisor):=A8
inductive UY(vs:List V)(H:Hp)(Q:VK):Prop
 | mk (a b:Int) (h_0:vs=[.int a,.int b]) (h_1:0<=a) (h_2:0<=b) (h_3:Q (.int (Int.gcd a b:Int)) H):UY vs H Q
def Oq:Sp:=λvs H Q _=>UY vs H Q
theorem XG(F:Ar K "_law_divisor" "_law_divisor" s_law_divisor f fd):Ao P w K mg base Ay 1 f fd ["_law_a","_law_b"] Oq:=by
 refine F.A9 MM λcdv A outer s H vs Q E hr h=>?_
 obtain⟨a,b,rfl,a0,b0,q⟩:=h;refine⟨_,AR (Hx jt (BN L6 (pv 1) AE (BH _))
   (AR (AX (i:=2) MM.nd rfl (Or.inl rfl) (AM CH (pv 0) (pv 1)))
   (AR (AX (i:=0) MM.nd rfl (Or.inl rfl) (pv 1))
   (AV (AX (i:=1) MM.nd rfl (Or.inl rfl) (pv 2))))))
  (AV (An (pv 0))),?_⟩
 refine Hv (λσ H2=>∃x y r,σ=[some (.int x),some (.int y),r]/\H2=H/\0<=x/\0<=y/\Int.gcd x y=Int.gcd a b) (λσ _=>match σ with | [_,some (.int y),_]=>y.natAbs | _=>0) ⟨_,_,none,rfl,rfl,a0,b0,rfl⟩ ?_ ?_
 ·rintro σ H2 ⟨x,y,r,rfl,rfl,x0,y0,gg⟩;refine⟨_,rfl,_,_,rfl,rfl,_,rfl,?_⟩;by_cases hy:0<y
  ·refine De hy ?_;have m0:=j9 x (lB hy);have m1:=ke x hy;refine⟨_,rfl,_,rfl,_,_,rfl,rfl,hy,_,rfl,_,rfl,⟨y,x % y,some (.int (x % y)),rfl,rfl,y0,m0,(Zj hy).trans gg⟩,?_⟩;show(x % y).natAbs<y.natAbs;omega
  ·refine DP hy ?_;have e:y=0:=by omega
   subst e;refine⟨_,rfl,?_⟩
   have:=Sn gg
   rw[iz (by omega)] at this;rw[this];exact q
 ·rintro σ H2 Q1 Q2 hq ⟨v,e,i,j,e1,e2,b,eb,z⟩;exact⟨v,e,i,j,e1,e2,b,eb,hq _ _ z⟩
inductive OU(vs:List V)(H:Hp)(Q:VK):Prop
 | mk (t b:Int) (h_0:vs=[.int t,.int b]) (h_3:0<b) (h_4:BY b) (h_5:MK H Q ((t:Rat) / (b:Rat))):OU vs H Q
def Kd:Sp:=λvs H Q _=>OU vs H Q
theorem Vj:A2 ["_law_top","_law_bottom","_law_shared"] ["_law_top","_law_bottom"] (Ap sLFrac):=A8
theorem Zc(F:Ar K "_law_fraction" "_law_fraction" sLFrac f fd)(G:Al P w K mg base 1 "_law_divisor" ["_law_a","_law_b"] Oq)(ma:mg "abs" = none):
  Ao P w K mg base Ay 2 f fd ["_law_top","_law_bottom"] Kd:=by
 refine F.A9 Vj λcdv A outer s H vs Q E hr h=>?_
 obtain⟨t,b,rfl,b0,hb,q⟩:=h;refine⟨_,AR (AX (i:=2) Vj.nd rfl (Or.inl rfl) (Aa G hr (AA (Au LV (by rfl) ma OK (AA (pv 0) AB)) (AA (pv 1) AB))))
  (AV (An (Bf (AA (AM Ff (pv 0) (pv 2)) (AA (AM Ff (pv 1) (pv 2)) AB))))),?_⟩
 refine⟨_,rfl,t,rfl,_,rfl,_,b,rfl,by split <;> omega,by omega,?_⟩;rw[show Int.gcd (if t<0 then -t else t) b=Int.gcd t b by split; exact Int.neg_gcd; rfl];have ep:(Int.gcd t b:Int)=Mth.part t b:=by unfold Mth.part; rw[iz (by omega)]
 rw[ep];have hp:IP t (Mth.part t b):=⟨J0 t b (by omega),km (Se t b (by omega)) hb⟩;refine⟨_,rfl,_,rfl,_,_,rfl,rfl,hp,_,rfl,_,rfl,_,_,rfl,rfl,hp,by exact CA,λp hp'=>?_⟩;have q1:=q p hp'
 have:=Fc t b (by omega)
 unfold BR at this;rw[<-(oN this).1,<-(oN this).2] at q1;exact q1
inductive RL(vs:List V)(H:Hp)(Q:VK):Prop
 | mk (z m:Int) (h_0:vs=[.int z,.int m]) (h_2:0<m) (h_3:m<1000) (h_4:∀p H' q,AN H H'->AS H' p q->Eo q->Q (.ref p) H'):RL vs H Q
def Sx:Sp:=λvs H Q _=>RL vs H Q
theorem fu:A2 ["_law_c","_law_most"] ["_law_c","_law_most"] (Ap sLEase):=A8
theorem Y2(F:Ar K "_law_ease" "_law_ease" sLEase f fd)(G:Al P w K mg base 2 "_law_fraction" ["_law_top","_law_bottom"] Kd):
  Ao P w K mg base Ay 3 f fd ["_law_c","_law_most"] Sx:=by
 refine F.A9 fu λcdv A outer s H vs Q E hr h=>?_
 obtain⟨z,m,rfl,m0,m1,q⟩:=h;refine⟨_,AR (Bl (BN EX (AM CH (pv 0) AE) AE (BH _)) (AV (An (Bf (AA AE (AA AE AB))))) B7)
  (AR (Bl (BN EX (AM CH (pv 0) AE) AE (BH _))
   (AV (An (Aa G hr (AA (AM Bc AE (AM CH (AM ES (pv 0) AE) AE)) (AA (AM Bc AE (AM CH (AM ES (pv 0) AE) AE)) AB))))) B7)
  (AV (An (Aa G hr (AA (AM Bc AE (AM CH (AM ES (pv 0) AE) (pv 1))) (AA (AM Bc AE (AM CH (AM Ff (AM ES (pv 0) AE) (pv 1)) (pv 1))) AB)))))),?_⟩
 have m3:(0:Int)<3:=by decide
 have d3:MQ z 3:=⟨by decide,by decide⟩;have hb:BY m:=Ka (n:=10) (by omega) (by decide);have gv:∀t b:Int,0<t->t<1000->0<b->b<1000->Kd [.int t,.int b] H Q E:=λt b t0 t1 b0 b1=>⟨t,b,rfl,b0,Ka (n:=10) (by omega) (by decide),λp hp=>q p _ _ (AZ hp _) AU (a9 t0 t1 b0 b1)⟩
 refine⟨_,rfl,_,_,rfl,rfl,m3,rfl,_,rfl,?_⟩;refine MT (λ_=>?_) (λ_=>?_)
 ·refine⟨by exact CA,λp hp=>?_⟩;exact q p _ 1 (AZ hp _) AU ⟨by decide,by decide,by decide⟩
 refine⟨_,rfl,_,_,rfl,rfl,m3,rfl,_,rfl,?_⟩;refine MT (λ_=>?_) (λ_=>?_)
 ·refine⟨_,rfl,_,_,rfl,rfl,d3,_,_,rfl,rfl,(show(0:Int)<9 by decide),_,_,rfl,rfl,_,rfl,_,_,rfl,rfl,⟨by decide,by decide⟩,_,_,rfl,rfl,(show(0:Int)<9 by decide),_,_,rfl,rfl,?_⟩;exact gv _ _ (by omega) (by omega) (by omega) (by omega)
 ·refine⟨_,rfl,_,_,rfl,rfl,d3,_,rfl,_,_,rfl,rfl,m0,_,_,rfl,rfl,_,rfl,_,_,rfl,rfl,d3,_,rfl,_,_,rfl,rfl,⟨by omega,hb⟩,_,rfl,_,_,rfl,rfl,m0,_,_,rfl,rfl,?_⟩;have a1:=j9 (z / 3) (lB m0);have a2:=ke (z / 3) m0;have b1:=j9 ((z / 3).fdiv m) (lB m0);have b2:=ke ((z / 3).fdiv m) m0;exact gv _ _ (by omega) (by omega) (by omega) (by omega)
inductive Sy(K:PySem.W.Frag)(vs:List V)(H:Hp)(Q:VK):Prop
 | mk (a:Addr) (ns:List Int) (least:Nat) (h_0:vs=[.ref a,.int (least:Int)]) (h_1:iI K H a ns) (h_2:least<=100) (h_3:∀p (ms:List Int) H',AN H H'->H p=none->H' p=some (.AF (ms.map V.int))->(∀x∈ms,0<=x)->ms.length<=200->Q (.ref p) H'):Sy K vs H Q
def Ub(K:PySem.W.Frag):Sp:=λvs H Q _=>Sy K vs H Q
theorem HS:A2 ["_law_script","_law_least","_law_as_they_stand","_law_made","_law_k","_law_cell","_law_one","_law_other"] ["_law_script","_law_least"] (Ap s_law_numbers):=A8
theorem Xb(F:Ar K "_law_numbers" "_law_numbers" s_law_numbers f fd)(ml:mg "len" = none)(mr:mg "range" = none)(mx:mg "max" = none)(mn:mg "min" = none)(ma:mg "abs" = none):Ao P w K mg base Ay 1 f fd ["_law_script","_law_least"] (Ub K):=by
 refine F.A9 HS λcdv A outer s H vs Q E hr h=>?_
 obtain⟨a,ns,least,rfl,⟨hS,hl⟩,hle,q⟩:=h;refine⟨_,AR (AX (i:=2) HS.nd rfl (Or.inl rfl) (KH (JG L6 (Au (Bb (K:=K)) (by rfl) ml BO (AA (pv 0) AB)) AE (BH _)) (Lw (JG EX (AM CH (pL K (pv 0) AE) AE) AE (BH _)))))
  (AR (AX (i:=3) HS.nd rfl (Or.inl rfl) (Cd AB))
  (AR (CQ jt rfl (Iw (by rfl) mr (AA (Au (X8 rfl) (by rfl) mx TQ (AA (AM Bc (pv 1) AE) (AA (Au (YK rfl) (by rfl) mn OH (AA AE (AA (Au (Bb (K:=K)) (by rfl) ml BO (AA (pv 0) AB)) AB))) AB))) AB)) (Ae (i:=4) HS.nd rfl (Or.inl rfl))
   (AR (AX (i:=5) HS.nd rfl (Or.inl rfl) AE)
   (AR (Bl (BN L7 (pv 4) (Au (Bb (K:=K)) (by rfl) ml BO (AA (pv 0) AB)) (BH _)) (AV (AX (i:=5) HS.nd rfl (Or.inl rfl) (pL K (pv 0) (pv 4)))) B7)
   (AV (Bl (Dn (pv 2))
    (AV (DN (Cr K jq jI jJ Dz (pv 3) (AA (Au LV (by rfl) ma OK (AA (pv 5) AB)) AB))))
    (AR (AX (i:=6) HS.nd rfl (Or.inl rfl) (AM CH (AM Bc (AM Bw (AM CH (pv 5) (AM cu AE AE)) AE) (AM Bw AE (AM Bc (pv 4) AE))) AE))
    (AR (AX (i:=7) HS.nd rfl (Or.inl rfl) (AM CH (AM Bc (AM Bw (pv 6) AE) (AM Bw AE (AM Bc (pv 4) AE))) AE))
    (AV (DN (Cr K jq jI jJ Dz (pv 3) (AA (AM Bc (AM Bw (AM CH (AM Bw (pv 6) AE) AE) AE) (pv 7)) AB)))))))))))
  (AV (An (D0 (K8 (K:=K)) (pv 3) (Dm AE) EI))))),?_⟩
 refine Rv (G:=λσ H2=>H=H2/\∃b,σ=[some (.ref a),some (.int (least:Int)),some (.bl b),none,none,none,none,none]) (λr=>?_) ?_
 ·refine⟨_,rfl,a,_,rfl,.inl hS,_,_,rfl,rfl,_,rfl,?_⟩;rcases nH ns.length with z | z
  ·refine DP (by rw[ig]; omega) ?_;exact r _ _ ⟨rfl,_,rfl⟩
  ·refine De (by rw[ig]; omega) ?_;have e:Bt (ns.map V.int) 0=some (.int ns[0]):=BX (j:=0) (by rw[iy,ij z]; rfl);refine⟨_,rfl,a,_,_,_,rfl,rfl,hS,e,_,_,rfl,rfl,(show(0:Int)<2 by decide),rfl,?_⟩;exact r _ _ ⟨rfl,_,rfl⟩
 rintro σ _ ⟨rfl,b,rfl⟩;refine⟨by exact Gq,λL hL=>?_⟩;obtain⟨H1,zg,sL,zz⟩:=nw hL (.AF []);rw[zg];have eL:H1 L=some (.AF ([].map V.int)):=zz
 try dsimp only
 try refine Cp ?_
 first | refine Co λUL3 hUL3=>?_ | refine nx_hide λUL3 hUL3=>?_
 refine⟨_,rfl,_,_,rfl,rfl,_,rfl,a,_,rfl,.inl (sL.seq hS),_,_,rfl,_,_,rfl,_,rfl,?_,?_,?_⟩
 ·split <;> omega
 ·rw[ig]; split <;> split <;> omega
 have hN:(if (if (((ns.map V.int).length:Nat):Int)<63 then (((ns.map V.int).length:Nat):Int) else 63) > (least:Int)+1 then (if (((ns.map V.int).length:Nat):Int)<63 then (((ns.map V.int).length:Nat):Int) else 63) else (least:Int)+1).toNat<=164:=by
  rw[ig]; split <;> (try split) <;> omega
 generalize (if (if (((ns.map V.int).length:Nat):Int)<63 then (((ns.map V.int).length:Nat):Int) else 63) > (least:Int)+1 then (if (((ns.map V.int).length:Nat):Int)<63 then (((ns.map V.int).length:Nat):Int) else 63) else (least:Int)+1).toNat=N at hN;refine LM (n:=N) (λi σ H2=>∃u1 u2 u3 u4 ms,σ=[some (.ref a),some (.int (least:Int)),some (.bl b),some (.ref L),u1,u2,u3,u4]/\AN H H2/\H2 L=some (.AF ((ms:List Int).map V.int))/\(∀x∈ms,0<=x)/\ms.length=i)
  ⟨none,none,none,none,[],rfl,sL,eL,by simp,rfl⟩ ?_ ?_
 ·rintro i σ H2 hi ⟨u1,u2,u3,u4,ms,rfl,s2,e2,p2,l2⟩;refine az (dS (Rv (G:=λσ H3=>H2=H3/\∃z:Int,σ=[some (.ref a),some (.int (least:Int)),some (.bl b),some (.ref L),some (.int ((0:Int)+(i:Nat))),some (.int z),u3,u4]) (λr=>?_) ?_))
  ·refine⟨_,rfl,_,rfl,a,_,rfl,.inl (s2.seq hS),_,_,rfl,rfl,_,rfl,?_⟩;by_cases hk:(0:Int)+(i:Nat)<(((ns.map V.int).length:Nat):Int)
   ·refine De hk ?_;rw[ig] at hk;have hk':i<ns.length:=by omega
    have e:Bt (ns.map V.int) ((0:Int)+(i:Nat))=some (.int ns[i]):=by rw[Int.zero_add]; exact BX (by rw[iy,ij hk']; rfl)
    refine⟨_,rfl,_,rfl,a,_,_,_,rfl,rfl,s2.seq hS,e,?_⟩;exact r _ _ ⟨rfl,_,rfl⟩
   ·refine DP hk ?_;exact r _ _ ⟨rfl,_,rfl⟩
  rintro σ _ ⟨rfl,z,rfl⟩;have sz:(ms.map V.int).length<sizeLine:=by rw[ig]; exact Cw (by omega)
  have fin:∀y:Int,0<=y->∀(v3 v4:Option V),∃u1 u2 u3 u4 ms',[some (V.ref a),some (.int (least:Int)),some (.bl b),some (.ref L),some (.int ((0:Int)+(i:Nat))),some (.int z),v3,v4]=[some (.ref a),some (.int (least:Int)),some (.bl b),some (.ref L),u1,u2,u3,u4]/\AN H (AJ H2 L (.AF (ms.map V.int++[.int y])))/\(AJ H2 L (.AF (ms.map V.int++[.int y]))) L=some (.AF ((ms':List Int).map V.int))/\(∀x∈ms',0<=x)/\ms'.length=i+1:=by
   intro y hy v3 v4;refine⟨_,_,_,_,ms++[y],rfl,s2.up hL _,by rw[AU]; simp,λx hx=>?_,by simp[l2]⟩;rcases i9.mp hx with w | w
   ·exact p2 x w
   ·rw[jA] at w; omega
  refine⟨_,rfl,_,rfl,?_⟩;cases b with
  | true =>
   refine Ed ?_;refine⟨_,rfl,.inl ⟨rfl,_,AQ.of e2⟩,_,rfl,z,rfl,L,_,_,rfl,rfl,e2,sz,?_⟩;exact fin _ (by split <;> omega) _ _
  | false =>
   refine Bh ?_;refine⟨_,rfl,_,_,rfl,rfl,⟨by decide,by decide,by decide⟩,_,_,rfl,rfl,(show(0:Int)<10 ^ ((18:Int).toNat) by decide),_,_,rfl,rfl,.inr ⟨by decide,by decide⟩,_,rfl,_,_,rfl,rfl,_,_,rfl,rfl,.inl ⟨by decide,by decide⟩,_,_,rfl,rfl,_,_,rfl,rfl,(show(0:Int)<2147483647 by decide),?_⟩;refine⟨_,rfl,_,_,rfl,rfl,.inr ⟨by decide,by decide⟩,_,rfl,_,_,rfl,rfl,_,_,rfl,rfl,.inl ⟨by decide,by decide⟩,_,_,rfl,rfl,_,_,rfl,rfl,(show(0:Int)<2147483629 by decide),?_⟩;refine⟨_,rfl,.inl ⟨rfl,_,AQ.of e2⟩,_,rfl,_,_,rfl,rfl,.inr ⟨by decide,by decide⟩,_,_,rfl,rfl,(show(0:Int)<2147483399 by decide),_,_,rfl,rfl,.inr ⟨by decide,by decide⟩,_,rfl,_,_,rfl,rfl,L,_,_,rfl,rfl,e2,sz,?_⟩;refine fin _ ?_ _ _;have d1:∀z:Int,0<=z % 2147483399:=λz=>j9 _ (by decide)
   have d2:∀z:Int,0<=z % 2147483629:=λz=>j9 _ (by decide)
   have e1:=d1 ((z % 10 ^ ((18:Int).toNat)*48271+16807*((0:Int)+(i:Nat)+1)) % 2147483647*40692);have e2:=d2 ((z % 10 ^ ((18:Int).toNat)*48271+16807*((0:Int)+(i:Nat)+1)) % 2147483647*69621+7919*((0:Int)+(i:Nat)+3));omega
 ·rintro σ H2 ⟨u1,u2,u3,u4,ms,rfl,s2,e2,p2,l2⟩;subst hUL3;refine⟨_,rfl,1,rfl,L,_,rfl,AQ.of e2,λp hp=>?_⟩;have ec:Cu (ms.map V.int) (some 1) none=(ms.drop 1).map V.int:=by
   unfold Cu;have e1:HT.Ag (ms.map V.int).length (ms.map V.int).length none=(ms.map V.int).length:=rfl;have e2:HT.Ag (ms.map V.int).length 0 (some 1)=min 1 (ms.map V.int).length:=by simp[HT.Ag]
   rw[e1,e2,jf (by rw[jO]; exact i4 _),m8];rcases nH ms.length with z | z
   ·have:ms=[]:=ku.mp z
    subst this;rfl
   ·rw[show min 1 (ms.map V.int).length=1 by rw[ig]; omega]
  rw[ec];refine q p (ms.drop 1) _ (s2.trans (AZ hp _)) (s2.free hp) AU (λx hx=>p2 x (l6 hx)) (by rw[jO]; omega)
inductive VE(vs:List V)(H:Hp)(Q:VK):Prop
 | mk (a:Addr) (ns:List Int) (h_0:vs=[.ref a]) (h_1:H a=some (.AF (ns.map V.int))) (h_2:(∀x∈ns,0<=x)) (h_3:ns.length<=200) (h_4:∀z ns' H',Bs a H H'->H' a=some (.AF ((ns':List Int).map V.int))->(∀x∈ns',0<=x)->ns'.length<=200->0<=z->Q (.int z) H'):VE vs H Q
def Pe:Sp:=λvs H Q _=>VE vs H Q
theorem gq:A2 ["_law_numbers_here"] ["_law_numbers_here"] (Ap sNext):=A8
theorem ZK(F:Ar K "_law_next" "_law_next" sNext f fd)(ml:mg "len" = none):Ao P w K mg base Ay 1 f fd ["_law_numbers_here"] Pe:=by
 refine F.A9 gq λcdv A outer s H vs Q E hr h=>?_
 obtain⟨a,ns,rfl,ha,hp,hl,q⟩:=h;refine⟨_,AR (Bl (BN EX (Au (Bb (K:=K)) (by rfl) ml BO (AA (pv 0) AB)) AE (BH _)) (AV (An AE)) B7)
  (AV (An (Cr K jq qi qj RE (pv 0) (AA AE AB)))),?_⟩
 refine⟨_,rfl,a,_,rfl,.inl (AQ.of ha),rfl,_,rfl,?_⟩;cases ns with
 | nil =>
  refine Ed ?_;exact q 0 [] H (Bs.refl _ _) ha hp (by simp) (by decide)
 | cons n ns =>
  refine DP (EE (by simp; omega)) ?_;refine⟨_,rfl,.inl ⟨rfl,_,AQ.of ha⟩,a,_,0,0,.int n,rfl,rfl,ha,by decide,by decide,by simp[seqIndex?],rfl,?_⟩;exact q n ns _ Bs.Aq (by rw[AU]; rfl) (λx hx=>hp x (jB _ hx)) (by simp at hl; omega) (hp n (jZ ..))
abbrev dn(c:Int)(ts:List (List Int)):List (List Int):=ts.map λt=>t.map λx=>x-c
theorem ZW(ρ:Int->Int)(t:List Int):BG (t.map ρ)=(BG t).map λp=>(ρ p.1,ρ p.2):=by
 rw[Em,Em];cases t with
 | nil=>rfl
 | cons a t =>
  have e:((a :: t).map ρ).getLastD 0=ρ ((a :: t).getLastD 0):=by
   rw[jK,jK,o9,mF];rfl
  rw[e,Lu]
theorem Xw(ρ:Int->Int)(ts:List (List Int)):Az (ts.map λt=>t.map ρ)=(Az ts).map λp=>(ρ p.1,ρ p.2):=by
 unfold Az;rw[jH,List.map_flatten,jH];congr 1;refine ko λt _=>?_
 exact ZW ρ t
theorem Tb{ρ:Int->Int}(inj:∀x y,ρ x=ρ y->x=y)(e:Int):∀L:List (Int×Int),lk (L.map λp=>(ρ p.1,ρ p.2)) (ρ e)=(lk L e).map ρ
 | []=>rfl
 | p :: L=>by
  have ih:=Tb inj e L;unfold lk at ih ⊢;rw[i8];by_cases h:p.1=e
  ·rw[n9 (by simp[h]),n9 (by simpa using h)];rfl
  ·rw[n8 (by simp; exact λz=>h (inj _ _ z)),n8 (by simpa using h)];exact ih
theorem J3{c x y:Int}(h:x-c=y-c):x=y:=by omega
theorem cw{ts:List (List Int)}{n:Nat}(T:B9 n ts)(c:Int){y:Int}(hy:AD n y):lk (Az (dn c ts)) (AH y-c)=some (AL ts y-c):=by
 unfold dn;rw[Xw (λx=>x-c),Tb (ρ:=λx=>x-c) (λx y=>J3) (AH y) (Az ts),T.KY hy];rfl
theorem R8(c:Int)(ts:List (List Int)):(dn c ts).flatten=ts.flatten.map λx=>x-c:=GN _ ts
theorem dW{c:Int}{ts:List (List Int)}(h:ts.flatten.Nodup):(dn c ts).flatten.Nodup:=by
 rw[R8];exact JN h λx _ y _ e=>J3 e
theorem MJ{c:Int}{ts:List (List Int)}{p:Nat}{t:List Int}(h:ts[p]?=some t):(dn c ts)[p]?=some (t.map λx=>x-c):=by rw[iy,h]; rfl
theorem UE{c:Int}{ts:List (List Int)}{p:Nat}{u:List Int}(h:(dn c ts)[p]?=some u):∃t,ts[p]?=some t/\u=t.map λx=>x-c:=by
 rw[iy] at h;cases e:ts[p]? with
 | none=>rw[e] at h; cases h
 | some t=>rw[e] at h; exact⟨t,rfl,(je h).symm⟩
theorem OP{c x:Int}:∀{t:List Int},x∈t->(t.map λy=>y-c).idxOf (x-c)=t.idxOf x
 | a :: t,h=>by
  rw[i8,pP,pP];by_cases e:a=x
  ·subst e; simp
  ·have e1:(a == x)=false:=beq_false_of_ne e;have e2:(a-c == x-c)=false:=beq_false_of_ne (λz=>e (J3 z));rw[e1,e2];rcases jh.mp h with z | z
   ·exact absurd z.symm e
   ·show(t.map λy=>y-c).idxOf (x-c)+1=t.idxOf x+1;rw[OP z]
theorem Lr{c x:Int}{t:List Int}:x-c∈(t.map λy=>y-c)↔x∈t:=by
 rw[i7];constructor
 ·rintro⟨y,hy,e⟩;rw[<-J3 e]; exact hy
 ·intro h; exact⟨x,h,rfl⟩
theorem c6(c:Int)(ts:List (List Int))(p:Nat)(t:List Int):(dn c ts).set p (t.map λx=>x-c)=dn c (ts.set p t):=by unfold dn; rw[mS]
theorem gu:∀k:Nat,k<40->Builtin.bitXor ((k:Int)-2) 1=AH (k:Int)-2:=by decide
theorem O0{y:Int}{n:Nat}(h:AD n y)(hn:n<=40):Builtin.bitXor (y-2) 1=AH y-2:=by
 obtain⟨h1,h2⟩:=h
 have:=gu y.toNat (by omega)
 rwa [show((y.toNat:Nat):Int)=y by omega] at this
inductive Ql(vs:List V)(H:Hp)(Q:VK):Prop
 | mk (T:Addr) (bs:List Addr) (us:List (List Int)) (h_0:vs=[.ref T]) (h_1:Fo H T bs us) (h_2:us.flatten.Nodup) (h_3:us.flatten.length<=1000) (h_4:∀d H',AN H H'->H d=none->H' d=some (.dK (BB (Az us)))->Q (.ref d) H'):Ql vs H Q
def RZ:Sp:=λvs H Q _=>Ql vs H Q
theorem Ku:A2 ["_law_turns","_law_ahead_here","_law_turn","_law_at","_law_end"] ["_law_turns"] (Ap s_law_ahead):=A8
theorem XY(F:Ar K "_law_ahead" "_law_ahead" s_law_ahead f fd)(me:mg "enumerate" = none):Ao P w K mg base Ay 1 f fd ["_law_turns"] RZ:=by
 refine F.A9 Ku λcdv A outer s H vs Q E hr h=>?_
 obtain⟨T,bs,us,rfl,M,nd,hn,q⟩:=h;have hu:=FN hr;refine⟨_,AR (AX (i:=1) Ku.nd rfl (Or.inl rfl) Jw)
  (AR (CQ jt rfl (Ki (K:=K) (pv 0)) (Ae (i:=2) Ku.nd rfl (Or.inl rfl))
   (AV (CQ jt rfl (Js (by rfl) me (AA (pv 2) AB)) (Ds (n:=2) (K:=K) rfl (BF (Ae (i:=3) Ku.nd rfl (Or.inl rfl)) (BF (Ae (i:=4) Ku.nd rfl (Or.inl rfl)) Cq)))
    (AV (GR hu (pv 1) (pv 4) (pL K (pv 2) (AM DW (pv 3) AE)) rfl)))))
  (AV (An (pv 1)))),?_⟩
 intro d hd
 try dsimp only
 try refine Cp ?_
 first | refine Co λUL1 hUL1=>?_ | refine nx_hide λUL1 hUL1=>?_
 refine⟨_,rfl,T,rfl,⟨_,AQ.of (AZ hd _ _ _ M.h1)⟩,?_⟩;refine Y1 (xs:=bs.map V.ref) (λi σ H2=>∃t k e,σ=[some (.ref T),some (.ref d),t,k,e]/\AN H H2/\H2 d=some (.dK (BB (Az (us.take i))))) ⟨none,none,none,rfl,AZ hd _,AU⟩ (λi σ H2 _ ⟨_,_,_,_,s,_⟩=>AQ.of (s _ _ M.h1)) ?_ ?_
 ·rintro i x σ H2 hx ⟨t0,k0,e0,rfl,sm,hd2⟩;obtain⟨b,row,rfl,hb,hrow,hB0⟩:=M.rows.ref hx;have hB:=sm _ _ hB0
  try dsimp only
  try refine Cp ?_
  first | refine Co λUL2 hUL2=>?_ | refine nx_hide λUL2 hUL2=>?_
  refine⟨_,rfl,b,_,rfl,hB,?_⟩;refine Mq (xs:=row.map V.int) (λj σ H3=>∃k e,σ=[some (.ref T),some (.ref d),some (.ref b),k,e]/\AN H H3/\H3 d=some (.dK (BB (Az (us.take i)++(BG row).take j)))) ⟨k0,e0,rfl,sm,by rw[oJ,kg]; exact hd2⟩
   (λj σ H3 _ ⟨_,_,_,s,_⟩=>s _ _ hB0) ?_ ?_
  ·rintro j x σ H3 p hx3 ⟨k1,e1,rfl,sm3,hd3⟩ hp;obtain⟨e,rfl,he⟩:=GS hx3;have hj:j<row.length:=(ip.mp he).1;have sm4:AN H (AJ H3 p (.AG [.int j,.int e])):=sm3.trans (AZ hp _);have hd4:(AJ H3 p (.AG [.int j,.int e])) d=some (.dK (BB (Az (us.take i)++(BG row).take j))):=AZ hp _ _ _ hd3;have keys:(Az (us.take i)++(BG row).take j).map (·.1)=(us.take i).flatten++row.take j:=by
    rw[ji,E9,oh,LR]
   have fr:e∉(Az (us.take i)++(BG row).take j).map (·.1):=by rw[keys]; exact LK nd hrow he
   have ln:(BB (Az (us.take i)++(BG row).take j)).length<sizeLine:=by
    have l1:=congrArg List.length keys;rw[ig] at l1;have l2:((us.take i).flatten++row.take j).length<=us.flatten.length:=by
     have e1:us=us.take i++us.drop i:=(kq i us).symm;have hd:us.drop i=row :: us.drop (i+1):=by
      obtain⟨hi,q1⟩:=ip.mp hrow;rw[<-q1,kP]
     have e2:us.flatten.length=(us.take i).flatten.length+(row.length+(us.drop (i+1)).flatten.length):=by
      conv=>lhs; rw[e1,hd]
      rw[j3,jx,jc,jc]
     rw[e2,jc,jT];omega
    rw[ig,l1];exact Cw (by omega)
   refine⟨p,_,rfl,AI.of AU,rfl,_,_,rfl,_,_,rfl,rfl,?_⟩;refine⟨_,rfl,_,rfl,_,_,rfl,rfl,b,_,_,_,rfl,rfl,AQ.of (sm4 _ _ hB0),SI hj,_,rfl,_,rfl,d,_,rfl,D8.k (k:=Sum.inl e) hd4 ln,?_⟩;refine⟨_,_,rfl,sm4.up hd _,?_⟩;rw[AU,HI fr,jU];have rp:(BG row)[j]?=some (e,EV row j):=by
    unfold BG;rw[iy,j4 hj];show some (row.getD j 0,EV row j)=_;rw[ir,he];rfl
   rw[DM rp]
  ·rintro σ H3 ⟨k1,e1,rfl,sm3,hd3⟩;subst hUL2;refine⟨_,_,_,rfl,sm3,?_⟩;rw[hd3,DM hrow,P9,ig,show(BG row).take row.length=BG row from jf (by rw[NS]; exact i4 _)]
 ·rintro σ H2 ⟨t0,k0,e0,rfl,sm,hd2⟩;subst hUL1;refine⟨_,rfl,q d H2 sm hd ?_⟩;rw[hd2,ig,jf (by rw[M.rows.1]; exact i4 _)]
inductive TC(c:Int)(vs:List V)(H:Hp)(Q:VK):Prop
 | mk (d:Addr) (ts:List (List Int)) (n:Nat) (s:Int) (h_0:vs=[.ref d,.int (s-c)]) (h_1:H d=some (.dK (BB (Az (dn c ts))))) (h_2:B9 n ts) (h_3:n<=40) (h_4:AD n s) (h_5:∀p H',AN H H'->H p=none->H' p=some (.AF (((BK (AL ts) s).map λx=>x-c).map V.int))->Q (.ref p) H'):TC c vs H Q
def Tt(c:Int):Sp:=λvs H Q _=>TC c vs H Q
theorem MU:A2 ["_law_ahead_here","_law_start","_law_ring","_law_here"] ["_law_ahead_here","_law_start"] (Ap s_law_land):=A8
theorem bQ(c:Int)(hx:∀{y:Int} {n:Nat},AD n y->n<=40->Builtin.bitXor (y-c) 1=AH y-c)(F:Ar K "_law_land" "_law_land" s_law_land f fd):Ao P w K mg base Ay 1 f fd ["_law_ahead_here","_law_start"] (Tt c):=by
 refine F.A9 MU λcdv A outer s H vs Q E hr h=>?_
 obtain⟨d,ts,n,s0,rfl,hd,T,hn,hs0,q⟩:=h;have hu:=FN hr;have PM:=T.perm;have PE:=FH PM hs0;refine⟨_,AR (AX (i:=2) MU.nd rfl (Or.inl rfl) (Cd (AA (pv 1) AB)))
  (AR (AX (i:=3) MU.nd rfl (Or.inl rfl) (EU hu (pv 0) (AM KO (pv 1) AE) (λ_ _=>rfl)))
  (AR (Hx jt (BN Dd (pv 3) (pv 1) (BH _))
   (AR (DN (Cr K jq jI jJ Dz (pv 2) (AA (pv 3) AB)))
    (AV (AX (i:=3) MU.nd rfl (Or.inl rfl) (EU hu (pv 0) (AM KO (pv 3) AE) (λ_ _=>rfl))))))
  (AV (An (pv 2))))),?_⟩
 refine⟨_,rfl,by exact Gr,λl hl=>?_⟩;have get:∀{H2:Hp} {y:Int},H2 d=some (.dK (BB (Az (dn c ts))))->AD n y->DL H2 d (.int (Builtin.bitXor (y-c) 1)) (some (.int (AL ts y-c))):=by
  intro H2 y h2 hy;rw[hx hy hn];exact IE h2 (cw T c hy)
 refine⟨_,rfl,_,rfl,_,_,rfl,rfl,d,_,rfl,get (AZ hl _ _ _ hd) hs0,?_⟩;refine Hv (λσ H2=>∃j,1<=j/\j<=BS (AL ts) s0/\σ=[some (.ref d),some (.int (s0-c)),some (.ref l),some (.int (Ax (AL ts) j s0-c))]/\AN H H2/\H2 l=some (.AF (((Cf (AL ts) s0 j).map λx=>x-c).map V.int)))
  (λ_ H2=>match H2 l with | some (.AF xs)=>BS (AL ts) s0-xs.length | _=>0) ⟨1,i4 _,PE.1,rfl,AZ hl _,AU⟩ ?_ ?_
 ·rintro σ H2 ⟨j,j1,j2,rfl,sm,hl2⟩;refine⟨_,rfl,_,rfl,rfl,_,rfl,?_⟩;by_cases he:Ax (AL ts) j s0=s0
  ·refine D7 (iv (by rw[he])) ?_;have hj:j=BS (AL ts) s0:=by
    rcases jv j (BS (AL ts) s0) with z | z
    ·exact absurd he (PE.2.2 j j1 z)
    ·omega
   subst hj;exact⟨_,rfl,q l _ sm hl hl2⟩
  ·refine HQ (EE (λz=>he (J3 z))) ?_;have hj:j<BS (AL ts) s0:=by
    rcases jv j (BS (AL ts) s0) with z | z
    ·exact z
    ·exact absurd (by rw[show j=BS (AL ts) s0 by omega]; exact PE.2.1) he
   have hpl:=Uk PM hs0;have hlen:(Cf (AL ts) s0 j).length=j:=Jq;refine⟨_,rfl,.inl ⟨rfl,_,AQ.of hl2⟩,_,rfl,l,_,_,rfl,rfl,hl2,by rw[ig,ig,hlen]; exact Cw (by omega),?_⟩;have sm2:=sm.up hl (.AF (((Cf (AL ts) s0 j).map λx=>x-c).map V.int++[.int (Ax (AL ts) j s0-c)]));refine⟨_,rfl,_,rfl,_,_,rfl,rfl,d,_,rfl,get (sm2 _ _ hd) (D6 PM hs0 j),?_⟩;refine⟨⟨j+1,by omega,hj,rfl,sm2,?_⟩,?_⟩
   ·rw[AU,QB,ji,ji];rfl
   ·rw[AU,hl2];show BS (AL ts) s0-(((Cf (AL ts) s0 j).map λx=>x-c).map V.int++[V.int (Ax (AL ts) j s0-c)]).length<BS (AL ts) s0-(((Cf (AL ts) s0 j).map λx=>x-c).map V.int).length;rw[jc,ig,ig,hlen,kh];omega
 ·rintro σ H2 Q1 Q2 hq ⟨v,e,v',e',sc,b,eb,z⟩;exact⟨v,e,v',e',sc,b,eb,hq _ _ z⟩
inductive QR(vs:List V)(H:Hp)(Q:VK):Prop
 | mk (T:Addr) (bs:List Addr) (ts:List (List Int)) (n:Nat) (y:Int) (h_0:vs=[.ref T,.int (y-2)]) (h_1:Fo H T bs (dn 2 ts)) (h_2:n<=40) (h_3:AD n y) (h_4:AH y∈ts.flatten) (h_5:(∀t∈ts,t.length<=1000)) (h_6:∀p t q H',ts[p]?=some t->AH y∈t->AN H H'->H' q=some (.AG [.int ((p:Nat):Int),.int ((t.idxOf (AH y):Nat):Int)])->Q (.ref q) H'):QR vs H Q
def RX:Sp:=λvs H Q _=>QR vs H Q
theorem PJ:A2 ["_law_turns","_law_end","_law_place","_law_turn"] ["_law_turns","_law_end"] (Ap s_law_corner):=A8
theorem X1(F:Ar K "_law_corner" "_law_corner" s_law_corner f fd)(me:mg "enumerate" = none):Ao P w K mg base Ay 1 f fd ["_law_turns","_law_end"] RX:=by
 refine F.A9 PJ λcdv A outer s H vs Q E hr h=>?_
 obtain⟨T,bs,ts,n,y,rfl,M,hn,hy,ho,hl,q⟩:=h;refine⟨_,AR (CQ jt rfl (Js (by rfl) me (AA (pv 0) AB)) (Ds (n:=2) (K:=K) rfl (BF (Ae (i:=2) PJ.nd rfl (Or.inl rfl)) (BF (Ae (i:=3) PJ.nd rfl (Or.inl rfl)) Cq)))
   (AV (Bl (BN Xo (AM KO (pv 1) AE) (pv 3) (by with_unfolding_all rfl))
    (AV (An (Bf (AA (pv 2) (AA (Cr K jq mC nR NT (pv 3) (AA (AM KO (pv 1) AE) AB)) AB))))) B7)))
  (AV (An (Bf (AA AE (AA AE AB))))),?_⟩
 have ex:=O0 hy hn
 try dsimp only
 try refine Cp ?_
 first | refine Co λUL4 hUL4=>?_ | refine nx_hide λUL4 hUL4=>?_
 refine⟨_,rfl,T,_,rfl,M.h1,?_⟩;refine Mq (xs:=bs.map V.ref) (λi σ H2=>(∃u v,σ=[some (.ref T),some (.int (y-2)),u,v])/\AN H H2/\∀j t,j<i->ts[j]?=some t->AH y∉t) ⟨⟨none,none,rfl⟩,AN.refl _,λj t h=>by omega⟩ (λi σ H2 _ ⟨_,s2,_⟩=>s2 _ _ M.h1) ?_ ?_
 ·rintro i x σ H2 p hx ⟨⟨u,v,rfl⟩,s2,hz⟩ hp;obtain⟨b,t',rfl,hb,hy',hB⟩:=M.rows.ref hx;obtain⟨t,ht,rfl⟩:=UE hy';have s3:=s2.trans (AZ hp (.AG [.int i,.ref b]));refine⟨p,_,rfl,AI.of AU,rfl,_,_,rfl,_,_,rfl,rfl,?_⟩;generalize AJ H2 p (.AG [.int i,.ref b])=H3 at s3;have hB3:=s3 _ _ hB;have tl:t.length<=1000:=hl t (iq ht);refine⟨_,rfl,_,_,rfl,rfl,_,rfl,b,_,rfl,.inl (AQ.of hB3),rfl,Xp _,_,rfl,?_⟩;rw[iz (by decide:¬(false=true)),RW,ex];by_cases hm:AH y∈t
  ·refine De (Lr.mpr hm) ?_;refine⟨_,rfl,_,rfl,.inl ⟨rfl,_,AQ.of hB3⟩,_,rfl,_,_,rfl,rfl,b,_,_,rfl,rfl,hB3,(by rw[ex]; exact Lr.mpr hm),by rw[ig]; omega,by exact CA,λp2 hp2=>?_⟩;rw[ex,OP hm];exact q i t p2 _ ht hm (s3.trans (AZ hp2 _)) AU
  ·refine DP (λz=>hm (Lr.mp z)) ⟨⟨_,_,rfl⟩,s3,λj t' hj hjt=>?_⟩;rcases jv j i with h3 | h3
   ·exact hz j t' h3 hjt
   ·obtain rfl:j=i:=by omega
    rw[ht] at hjt;cases hjt;exact hm
 ·rintro σ H2 ⟨⟨u,v,rfl⟩,s2,hz⟩;subst hUL4
  exfalso
  obtain⟨t,ht,hm⟩:=jn.mp ho;obtain⟨j,hj,ej⟩:=ju ht;refine hz j t ?_ (by rw[ij hj,ej]) hm;rw[ig,M.rows.1];simpa using hj
def Fr(T h:Addr)(bs:List Addr)(H H':Hp):Prop:=∀b o,b∉T :: h :: bs->H b=some o->H' b=some o
theorem Fr.refl{T h:Addr}{bs:List Addr}(H:Hp):Fr T h bs H H:=λ_ _ _ e=>e
theorem Fr.same{T h:Addr}{bs:List Addr}{H H':Hp}(s:AN H H'):Fr T h bs H H':=λb o _ e=>s b o e
theorem Fr.trans{T h:Addr}{bs:List Addr}{H H1 H2:Hp}(a:Fr T h bs H H1)(b:Fr T h bs H1 H2):Fr T h bs H H2:=λc o n e=>b c o n (a c o n e)
theorem Fr.up{T h:Addr}{bs:List Addr}{H:Hp}{x:Addr}(hx:x∈T :: h :: bs)(o:HO):Fr T h bs H (AJ H x o):=λc u n e=>by
 rw[Ad (λz=>n (by rw[z]; exact hx))]; exact e
structure CN(H:Hp)(R T:Addr)(cs bs:List Addr)(ts:List (List Int))(rs:List AO):Prop where
 tm:Fo H T bs (dn 2 ts)
 r1:H R=some (.AF (cs.map V.ref))
 rr:At Bg H cs rs
 rn:R∉T :: bs
theorem CN.keep{H H':Hp}{R T:Addr}{cs bs:List Addr}{ts:List (List Int)}{rs:List AO}(M:CN H R T cs bs ts rs)(s:AN H H'):CN H' R T cs bs ts rs:=⟨M.tm.keep s,s _ _ M.r1,M.rr.keep D3 s,M.rn⟩
theorem CN.bl{H:Hp}{R T:Addr}{cs bs:List Addr}{ts:List (List Int)}{rs:List AO}(M:CN H R T cs bs ts rs):bs.length=ts.length:=by rw[M.tm.rows.1,ig]
theorem CN.turn{H:Hp}{R T b:Addr}{cs bs:List Addr}{ts:List (List Int)}{rs:List AO}{i:Nat}{t:List Int}(M:CN H R T cs bs ts rs)(hb:bs[i]?=some b):CN (AJ H b (.AF ((t.map λx=>x-2).map V.int))) R T cs bs (ts.set i t) rs:=by
 have bm:b∈bs:=iq hb;have li:i<ts.length:=by rw[<-M.bl]; exact(ip.mp hb).1
 have hB:H b=some (.AF ((ts[i].map λx=>x-2).map V.int)):=M.tm.rows.2 i b _ hb (MJ (ij li));refine⟨?_,?_,NB hB M.rr,M.rn⟩
 ·have:=M.tm.E1 (t:=t.map λx=>x-2) hb
  rw[c6] at this;exact this
 ·rw[Ad (λz=>M.rn (by rw[z]; exact jB _ bm))]; exact M.r1
theorem CN.new{H:Hp}{R T l:Addr}{cs bs:List Addr}{ts:List (List Int)}{rs:List AO}(M:CN H R T cs bs ts rs)(hl:H l=none):l∉T :: R :: bs:=by
 intro m;rcases jh.mp m with z | z
 ·rw[z,M.tm.h1] at hl; cases hl
 ·rcases jh.mp z with z | z
  ·rw[z,M.r1] at hl; cases hl
  ·obtain⟨k,hk,ek⟩:=ju z;have hl2:k<(dn 2 ts).length:=by rw[<-M.tm.rows.1]; exact hk
   have:=M.tm.rows.2 k l (dn 2 ts)[k] (by rw[ij hk,ek]) (ij hl2)
   unfold Ce at this;rw[hl] at this; cases this
theorem CN.more{H:Hp}{R T l:Addr}{cs bs:List Addr}{ts:List (List Int)}{rs:List AO}{u:List Int}(M:CN H R T cs bs ts rs)(hl:H l=none):CN (AJ (AJ H l (.AF ((u.map λx=>x-2).map V.int))) T (.AF (bs.map V.ref++[.ref l]))) R T cs (bs++[l]) (ts++[u]) rs:=by
 have nl:=M.new hl;obtain⟨H1,zg,s1,e1⟩:=nw hl (.AF ((u.map λx=>x-2).map V.int));rw[zg];have M1:=M.keep s1;have lT:l≠T:=λz=>nl (by simp[z])
 have lR:R≠l:=λz=>nl (by simp[z])
 have lb:l∉bs:=λz=>nl (by simp[z])
 have RT:R≠T:=λz=>M.rn (by simp[z])
 obtain⟨n1,n2⟩:=jV.mp M.tm.nd;refine⟨⟨by rw[AU]; simp,?_,?_⟩,by rw[Ad RT]; exact M1.r1,NB M1.tm.h1 M1.rr,?_⟩
 ·have a1:=M1.tm.rows.snoc (b:=l) (x:=u.map λx=>x-2) e1;rw[show dn 2 (ts++[u])=dn 2 ts++[u.map λx=>x-2] by simp[dn]];refine⟨a1.1,λi b x q1 q2=>?_⟩
  have:=a1.2 i b x q1 q2
  unfold Ce at this ⊢;have bT:b≠T:=λz=>by
   subst z;rcases i9.mp (iq q1) with w | w
   ·exact n1 w
   ·exact lT (jA.mp w).symm
  rw[Ad bT]; exact this
 ·rw[jV];refine⟨λz=>?_,?_⟩
  ·rcases i9.mp z with w | w
   ·exact n1 w
   ·exact lT (jA.mp w).symm
  ·rw[jY];refine⟨n2,by simp,λx hx y hy z=>?_⟩;rw[jA] at hy;subst hy; subst z;exact lb hx
 ·intro z;rcases jh.mp z with w | w
  ·exact RT w
  ·rcases i9.mp w with w | w
   ·exact M.rn (jB _ w)
   ·exact lR (jA.mp w)
theorem CN.Mb{H:Hp}{R T:Addr}{cs cs' bs:List Addr}{ts:List (List Int)}{rs rs':List AO}{ys:List V}(M:CN H R T cs bs ts rs)(hy:ys=cs'.map V.ref)(hr:At Bg H cs' rs'):CN (AJ H R (.AF ys)) R T cs' bs ts rs':=by
 subst hy;refine⟨⟨?_,⟨M.tm.rows.1,λi b x e1 e2=>?_⟩,M.tm.nd⟩,AU,NB M.r1 hr,M.rn⟩
 ·rw[Ad (λz=>M.rn (by rw[z]; exact jZ ..))]; exact M.tm.h1
 ·show AJ H R _ b=_;rw[Ad (λz=>M.rn (by rw[<-z]; exact jB _ (iq e1)))];exact M.tm.rows.2 i b x e1 e2
theorem FrN.free{R T l:Addr}{cs bs:List Addr}{H H':Hp}{ts:List (List Int)}{rs:List AO}(F:Fr T R bs H H')(M:CN H' R T cs bs ts rs)(hl:H' l=none):H l=none:=by
 cases e:H l with
 | none=>rfl
 | some o =>
  have:=F l o (M.new hl) e
  rw[this] at hl; cases hl
theorem av{rs:List AO}{k x:Nat}{r:AO}{q:Rat}(h:rs[k]?=some r):CF (rs.set k (r.1,x,q))=(CF rs).set (2*k+1) x:=by
 induction rs generalizing k with
 | nil=>simp at h
 | cons r0 rs ih =>
  cases k with
  | zero=>cases h; rfl
  | succ k =>
   have:=ih (k:=k) (by simpa using h)
   show r0.1 :: r0.2.1 :: CF (rs.set k (r.1,x,q))=(r0.1 :: r0.2.1 :: CF rs).set (2*(k+1)+1) x;rw[this,show 2*(k+1)+1=2*k+1+1+1 by omega];rfl
abbrev hs2(rs:List AO):List Nat:=[0,1]++CF rs
inductive SH(vs:List V)(H:Hp)(Q:VK):Prop
 | mk (R T e:Addr) (cs bs:List Addr) (ts:List (List Int)) (rs:List AO) (c:Int) (qe:Rat) (h_0:vs=[.ref R,.ref T,.int c,.ref e]) (h_1:CN H R T cs bs ts rs) (h_2:Gn ts (hs2 rs)) (h_3:rs.length<=13) (h_4:0<=c) (h_5:AS H e qe) (h_6:Eo qe) (h_7:(∀r∈rs,Eo r.2.2)) (h_8:∀H' cs' bs' ts' rs',Fr T R bs H H'->(∀b∈bs',b∈bs\/H b=none)->CN H' R T cs' bs' ts' rs'->Gn ts' (hs2 rs')->rs'.length=rs.length+1->(∀r∈rs',Eo r.2.2)->Q .BD H'):SH vs H Q
def Tz:Sp:=λvs H Q _=>SH vs H Q
theorem Ec:A2 ["_law_ropes","_law_turns","_law_c","_law_ease_here","_law_many","_law_start","_law_place","_law_at","_law_rope","_law_one","_law_far","_law_old","_law_ring","_law_spot"] ["_law_ropes","_law_turns","_law_c","_law_ease_here"] (Ap sGrow):=A8
set_option maxHeartbeats 1000000 in
theorem bA (F:Ar K "_law_grow" "_law_grow" sGrow f fd) (G1:Al P w K mg base 1 "_law_corner" ["_law_turns","_law_end"] RX)
  (G2:Al P w K mg base 1 "_law_ahead" ["_law_turns"] RZ)
  (G3:Al P w K mg base 1 "_law_land" ["_law_ahead_here","_law_start"] (Tt 2)) (ml:mg "len" = none) :
  Ao P w K mg base Ay 2 f fd ["_law_ropes","_law_turns","_law_c","_law_ease_here"] Tz:=by
 refine F.A9 Ec λcdv A outer s H vs Q E hr h=>?_
 obtain⟨R,T,e,cs,bs,ts,rs,c,qe,rfl,M,g,h13,c0,he,eke,ekr,q⟩:=h;refine⟨_,AR (AX (i:=4) Ec.nd rfl (Or.inl rfl) (AM Bw AE (Au (Bb (K:=K)) (by rfl) ml BO (AA (pv 0) AB))))
  (AR (AX (i:=5) Ec.nd rfl (Or.inl rfl) (AM DW (AM CH (pv 2) (AM Bc (pv 4) AE)) AE))
  (AR (AX (i:=2) Ec.nd rfl (Or.inl rfl) (AM ES (pv 2) (AM Bc (pv 4) AE)))
  (AR (Dr (Aa G1 hr (AA (pv 1) (AA (pv 5) AB))) (Ds (n:=2) (K:=K) rfl (BF (Ae (i:=6) Ec.nd rfl (Or.inl rfl)) (BF (Ae (i:=7) Ec.nd rfl (Or.inl rfl)) Cq))))
  (AV (Bl (BN EX (AM CH (pv 2) AE) AE (BH _))
   (AR (DN (Cr K jq mf nM Mv (pL K (pv 1) (pv 6)) (AA (pv 7) (AA (pv 4) AB))))
   (AR (DN (Cr K jq jI jJ Dz (pv 1) (AA (Cd (AA (AM Bc (pv 4) AE) AB)) AB)))
   (AV (DN (Cr K jq jI jJ Dz (pv 0) (AA (Bf (AA (pv 6) (AA (AM DW (Au (Bb (K:=K)) (by rfl) ml BO (AA (pv 1) AB)) AE) (AA (pv 3) AB)))) AB))))))
   (AV (Bl (BN EX (AM CH (pv 2) AE) AE (BH _))
    (AR (AX (i:=8) Ec.nd rfl (Or.inl rfl) (AM CH (AM ES (pv 2) AE) (Au (Bb (K:=K)) (by rfl) ml BO (AA (pv 0) AB))))
    (AR (Dr (pL K (pv 0) (pv 8)) (Ds (n:=3) (K:=K) rfl (BF (Ae (i:=9) Ec.nd rfl (Or.inl rfl)) (BF (Ae (i:=10) Ec.nd rfl (Or.inl rfl)) (BF (Ae (i:=11) Ec.nd rfl (Or.inl rfl)) Cq)))))
    (AR (Dr (AM Bc (pv 4) AE) (Fu (pL K (pv 1) (pv 10)) (Cr K jq mC nR NT (pL K (pv 1) (pv 10)) (AA (AM Bc (AM Bw AE (pv 8)) AE) AB)) Fh))
    (AR (DN (Cr K jq jI jJ Dz (pv 1) (AA (Cd (AA (AM Bc (AM Bw AE (pv 8)) AE) (AA (pv 4) AB))) AB)))
    (AR (Dr (Bf (AA (pv 9) (AA (AM DW (Au (Bb (K:=K)) (by rfl) ml BO (AA (pv 1) AB)) AE) (AA (pv 11) AB)))) (Fu (pv 0) (pv 8) Fh))
    (AV (DN (Cr K jq jI jJ Dz (pv 0) (AA (Bf (AA (AM DW (Au (Bb (K:=K)) (by rfl) ml BO (AA (pv 1) AB)) AE) (AA (pv 10) (AA (pv 3) AB)))) AB)))))))))
    (AR (AX (i:=12) Ec.nd rfl (Or.inl rfl) (Aa G3 hr (AA (Aa G2 hr (AA (pv 1) AB)) (AA (pv 5) AB))))
    (AR (DN (Cr K jq mf nM Mv (pL K (pv 1) (pv 6)) (AA (pv 7) (AA (pv 4) AB))))
    (AR (Dr (Aa G1 hr (AA (pv 1) (AA (pL K (pv 12) (AM CH (AM ES (pv 2) AE) (Au (Bb (K:=K)) (by rfl) ml BO (AA (pv 12) AB)))) AB))) (Ds (n:=2) (K:=K) rfl (BF (Ae (i:=10) Ec.nd rfl (Or.inl rfl)) (BF (Ae (i:=13) Ec.nd rfl (Or.inl rfl)) Cq))))
    (AR (DN (Cr K jq mf nM Mv (pL K (pv 1) (pv 10)) (AA (pv 13) (AA (AM Bc (pv 4) AE) AB))))
    (AV (DN (Cr K jq jI jJ Dz (pv 0) (AA (Bf (AA (pv 6) (AA (pv 10) (AA (pv 3) AB)))) AB))))))))))))))),?_⟩
 have ev:=g.ev;have n4:=g.n4;have PM:=g.FP.perm;have tsl:=g.tsl;have hln:(hs2 rs).length=2*rs.length+2:=by rw[jc,ET]; simp; omega
 have lc:(((cs.map V.ref).length:Nat):Int)=(rs.length:Int):=by rw[ig,M.rr.1]
 have lcl:(cs.map V.ref).length<sizeLine:=by rw[ig,M.rr.1]; exact Cw (by omega)
 have m4:(0:Int)<4:=by decide
 have mul2:∀x:Int,IX 2 x:=λx=>.inl ⟨by decide,by decide⟩
 have npos:(0:Int)<2*(rs.length:Int)+2:=by omega
 have nE:((hs2 rs).length:Int)=2*(rs.length:Int)+2:=by rw[hln]; push_cast; rfl
 have tl:∀t∈ts,t.length<=1000:=λt ht=>by have:=LS ht; rw[g.FP.len] at this; omega
 refine⟨_,rfl,R,_,rfl,.inl (AQ.of M.r1),_,_,rfl,rfl,mul2 _,?_⟩
 (try dsimp only)
 rw[lc];refine⟨_,rfl,_,rfl,_,_,rfl,rfl,_,_,rfl,rfl,npos,_,_,rfl,rfl,?_⟩;refine⟨_,rfl,_,rfl,_,_,rfl,rfl,_,_,rfl,rfl,⟨npos,by show 2*(rs.length:Int)+2<1073741824; omega⟩,?_⟩
 (try dsimp only)
 have c2:0<=c / (2*(rs.length:Int)+2):=Int.ediv_nonneg c0 (by omega);have yR:AD (hs2 rs).length (c % (2*(rs.length:Int)+2)):=⟨j9 _ (lB npos),by rw[nE]; exact ke _ npos⟩;generalize c % (2*(rs.length:Int)+2)=y at yR;generalize c / (2*(rs.length:Int)+2)=z at c2;have yo:=CI ev yR;refine⟨_,rfl,_,rfl,T,bs,ts,(hs2 rs).length,y,rfl,M.tm,by omega,yR,(g.mem _).mpr yo,tl,λp t pq H1 hp hx s1 hpq=>?_⟩;refine⟨pq,_,rfl,AI.of hpq,rfl,_,_,rfl,_,_,rfl,rfl,?_⟩;have M1:=M.keep s1;have he1:=As s1 he;have F1:Fr T R bs H H1:=Fr.same s1;obtain⟨t1,t2,rfl,nm⟩:=JC hx;have ix:=KG (u2:=t2) nm;have pl:p<ts.length:=(ip.mp hp).1;have tlen:=NY g hp;obtain⟨b,hb,bm,ab,hB⟩:=Nh M1.tm (MJ hp);rw[ix];have e3:∀(x:Int) (u1 u2:List Int) (o:Int),(((u1++o :: u2).map λx=>x-2).map V.int).take ((u1.length:Int)).toNat++V.int (x-2) :: (((u1++o :: u2).map λx=>x-2).map V.int).drop ((u1.length:Int)).toNat=((u1++x :: o :: u2).map λx=>x-2).map V.int:=by
  intro x u1 u2 o;rw[kd,<-List.map_take,<-List.map_drop,<-List.map_take,<-List.map_drop];simp
 have em:(2:Int)*(rs.length:Int)=((hs2 rs).length:Int)-2:=by rw[nE]; omega
 have em1:(2:Int)*(rs.length:Int)+1=((hs2 rs).length:Int)+1-2:=by rw[nE]; omega
 have lbs:=M.bl;refine⟨_,rfl,_,_,rfl,rfl,m4,rfl,_,rfl,?_⟩;refine MT (λ_=>?_) (λ_=>?_)
 ·
  refine⟨_,rfl,_,rfl,T,_,_,_,rfl,rfl,AQ.of M1.tm.h1,ab,.inl ⟨rfl,_,AQ.of hB⟩,_,rfl,_,rfl,b,_,(t1.length:Int),.int (2*(rs.length:Int)),rfl,rfl,hB,by omega,by simp; omega,by rw[ig,ig]; omega,?_⟩;rw[em,e3];have M2:=M1.turn (t:=t1++((hs2 rs).length:Int) :: AH y :: t2) hb;have F2:=F1.trans (Fr.up (T:=T) (h:=R) (bs:=bs) (H:=H1) (x:=b) (by simp[bm]) (.AF (((t1++((hs2 rs).length:Int) :: AH y :: t2).map λx=>x-2).map V.int)));have he2:AS (AJ H1 b (.AF (((t1++((hs2 rs).length:Int) :: AH y :: t2).map λx=>x-2).map V.int))) e qe:=by
   unfold AS at he1 ⊢;rw[Ad (λz=>by rw[z,hB] at he1; cases he1)]; exact he1
  generalize AJ H1 b (.AF (((t1++((hs2 rs).length:Int) :: AH y :: t2).map λx=>x-2).map V.int))=H2 at M2 F2 he2;refine⟨_,rfl,.inl ⟨rfl,_,AQ.of M2.tm.h1⟩,_,rfl,_,_,rfl,rfl,by exact Gr,λl hl=>?_⟩;have s3:=AZ hl (.AF [.int (((hs2 rs).length:Int)-2+1)]);refine⟨T,_,_,rfl,rfl,s3 _ _ M2.tm.h1,by rw[ig]; exact Cw (by omega),?_⟩;have fl:=FrN.free F2 M2 hl;have M3:=M2.more (u:=[((hs2 rs).length:Int)+1]) hl;have e4:(([((hs2 rs).length:Int)+1].map λx=>x-2).map V.int)=[.int (((hs2 rs).length:Int)-2+1)]:=by
   show [V.int (((hs2 rs).length:Int)+1-2)]=_;rw[show((hs2 rs).length:Int)+1-2=((hs2 rs).length:Int)-2+1 by omega]
  rw[e4] at M3;have he3:AS (AJ (AJ H2 l (.AF [.int (((hs2 rs).length:Int)-2+1)])) T (.AF (bs.map V.ref++[.ref l]))) e qe:=by
   have:=As s3 he2
   unfold AS at this ⊢;rw[Ad (λz=>by rw[z,s3 _ _ M2.tm.h1] at this; cases this)]; exact this
  have F3:=(F2.trans (Fr.same s3)).trans (Fr.up (T:=T) (h:=R) (bs:=bs) (x:=T) (by simp) (.AF (bs.map V.ref++[.ref l])));generalize AJ (AJ H2 l (.AF [.int (((hs2 rs).length:Int)-2+1)])) T (.AF (bs.map V.ref++[.ref l]))=H3 at M3 he3 F3;refine⟨_,rfl,.inl ⟨rfl,_,AQ.of M3.r1⟩,_,rfl,_,rfl,T,_,rfl,.inl (AQ.of M3.tm.h1),_,_,rfl,rfl,_,rfl,by exact FX,λrp hrp=>?_⟩;have el:((((bs++[l]).map V.ref).length:Nat):Int)-1=(ts.length:Int):=by rw[ig,jc,lbs]; simp
  (try dsimp only)
  rw[el];have s4:=AZ hrp (.AG [.int (p:Int),.int (ts.length:Int),.ref e]);have rop:Bg (AJ H3 rp (.AG [.int (p:Int),.int (ts.length:Int),.ref e])) rp (p,ts.length,qe):=⟨e,AU,As s4 he3⟩;have M4:=M3.keep s4;have F4:=F3.trans (Fr.same (T:=T) (h:=R) (bs:=bs) s4);generalize AJ H3 rp (.AG [.int (p:Int),.int (ts.length:Int),.ref e])=H4 at rop M4 F4;refine⟨R,_,_,rfl,rfl,M4.r1,lcl,?_⟩;have M5:=M4.Mb (cs':=cs++[rp]) (rs':=rs++[(p,ts.length,qe)]) (ys:=cs.map V.ref++[.ref rp]) (by simp) (M4.rr.snoc rop);refine q _ (cs++[rp]) (bs++[l]) _ _ (F4.trans (Fr.up (by simp) _)) (λx hx=>?_) M5 ?_ (by simp) (λr hr'=>?_)
  ·rcases i9.mp hx with w | w
   ·exact .inl w
   ·exact .inr (by rw[jA.mp w]; exact fl)
  ·have:=g.Km hp
   rw[show hs2 (rs++[(p,ts.length,qe)])=hs2 rs++[p]++[ts.length] by unfold hs2; rw[LQ]; simp];exact this
  ·rcases i9.mp hr' with w | w
   ·exact ekr r w
   ·rw[jA.mp w]; exact eke
 refine⟨_,rfl,_,_,rfl,rfl,m4,rfl,_,rfl,?_⟩;refine MT (λ_=>?_) (λ_=>?_)
 ·
  have mp:(0:Int)<(((cs.map V.ref).length:Nat):Int):=by rw[lc]; omega
  refine⟨_,rfl,_,_,rfl,rfl,⟨by decide,by decide⟩,_,rfl,R,_,rfl,.inl (AQ.of M1.r1),_,_,rfl,rfl,mp,?_⟩
  (try dsimp only)
  have d0:=j9 (z / 4) (lB mp);have d1:=ke (z / 4) mp;rw[lc] at d0 d1 ⊢;obtain⟨k,hk⟩:∃k:Nat,z / 4 % (rs.length:Int)=(k:Int):=⟨(z / 4 % (rs.length:Int)).toNat,by omega⟩;rw[hk] at d1 ⊢;have hk2:k<rs.length:=by omega
  have hrk:rs[k]?=some rs[k]:=ij hk2;generalize rs[k]=r at hrk;obtain⟨rc,hrc,e0,hrc1,hrc2⟩:=M1.rr.get hrk;refine⟨_,rfl,_,rfl,R,_,_,_,rfl,rfl,AQ.of M1.r1,BX (CT hrc),rc,_,rfl,AI.of hrc1,rfl,_,_,rfl,_,_,rfl,_,_,rfl,rfl,?_⟩;have peR:AD (hs2 rs).length (2*(k:Int)+3):=⟨by omega,by rw[nE]; omega⟩;obtain⟨pp,tt,hpp,px,pm⟩:=g.at peR;obtain⟨a1,a2⟩:=HH hrk;have pmr:pp=r.2.1:=by
   have e1:(hs2 rs)[(2*(k:Int)+3).toNat]?=some r.2.1:=by
    rw[show(2*(k:Int)+3).toNat=2+(2*k+1) by omega];show(0 :: 1 :: CF rs)[2+(2*k+1)]?=_;rw[show 2+(2*k+1)=2*k+1+1+1 by omega,j8,j8];exact a2
   rw[e1] at pm;exact(je pm).symm
  subst pmr;have ttl:=NY g hpp;have ppl:r.2.1<ts.length:=(ip.mp hpp).1;obtain⟨bb,hbb,bbm,abb,hBB⟩:=Nh M1.tm (MJ hpp);have ttn:=Lo g.nd (iq hpp);have ixl:tt.idxOf (2*(k:Int)+3)<tt.length:=kF.mpr px;have pe2:(2:Int)*(k:Int)+1=2*(k:Int)+3-2:=by omega
  refine⟨_,rfl,_,_,rfl,rfl,_,rfl,_,rfl,T,_,_,_,rfl,rfl,AQ.of M1.tm.h1,abb,_,rfl,_,rfl,T,_,_,_,rfl,rfl,AQ.of M1.tm.h1,abb,.inl ⟨rfl,_,AQ.of hBB⟩,_,rfl,_,_,rfl,rfl,mul2 _,_,_,rfl,rfl,bb,tt.map (λx=>x-2),_,rfl,rfl,hBB,by rw[pe2]; exact Lr.mpr px,by rw[ig]; omega,bb,_,_,tt.idxOf (2*(k:Int)+3),rfl,rfl,hBB,by rw[pe2,OP px,ig,ig]; exact Jx ixl,?_⟩;have e5:((tt.map λx=>x-2).map V.int).set (tt.idxOf (2*(k:Int)+3)) (V.int (2*(rs.length:Int)+1))=((tt.map λx=>if x=2*(k:Int)+3 then ((hs2 rs).length:Int)+1 else x).map λx=>x-2).map V.int:=by
   rw[<-Rz ttn px,mS,mS,em1]
  (try dsimp only)
  rw[e5];have M2:=M1.turn (t:=tt.map λx=>if x=2*(k:Int)+3 then ((hs2 rs).length:Int)+1 else x) hbb;have F2:=F1.trans (Fr.up (T:=T) (h:=R) (bs:=bs) (H:=H1) (x:=bb) (by simp[bbm]) (.AF (((tt.map λx=>if x=2*(k:Int)+3 then ((hs2 rs).length:Int)+1 else x).map λx=>x-2).map V.int)));have up2:∀{a:Addr} {qq:Rat},AS H1 a qq->AS (AJ H1 bb (.AF (((tt.map λx=>if x=2*(k:Int)+3 then ((hs2 rs).length:Int)+1 else x).map λx=>x-2).map V.int))) a qq:=by
   intro a qq h;unfold AS at h ⊢;rw[Ad (λz=>by rw[z,hBB] at h; cases h)]; exact h
  have he2:=up2 he1;have ho2:=up2 hrc2;generalize AJ H1 bb (.AF (((tt.map λx=>if x=2*(k:Int)+3 then ((hs2 rs).length:Int)+1 else x).map λx=>x-2).map V.int))=H2 at M2 F2 he2 ho2;refine⟨_,rfl,.inl ⟨rfl,_,AQ.of M2.tm.h1⟩,_,rfl,_,_,rfl,rfl,mul2 _,_,_,rfl,rfl,_,rfl,by exact CA,λl hl=>?_⟩;have s3:=AZ hl (.AF [.int (2*(k:Int)+1),.int (2*(rs.length:Int))]);refine⟨T,_,_,rfl,rfl,s3 _ _ M2.tm.h1,by rw[ig]; exact Cw (by omega),?_⟩;have fl:=FrN.free F2 M2 hl;have M3:=M2.more (u:=[2*(k:Int)+3,((hs2 rs).length:Int)]) hl;have e4:(([2*(k:Int)+3,((hs2 rs).length:Int)].map λx=>x-2).map V.int)=[.int (2*(k:Int)+1),.int (2*(rs.length:Int))]:=by
   show [V.int (2*(k:Int)+3-2),V.int (((hs2 rs).length:Int)-2)]=_;rw[<-em,<-pe2]
  rw[e4] at M3;have up3:∀{a:Addr} {qq:Rat},AS H2 a qq->AS (AJ (AJ H2 l (.AF [.int (2*(k:Int)+1),.int (2*(rs.length:Int))])) T (.AF (bs.map V.ref++[.ref l]))) a qq:=by
   intro a qq h
   have:=As s3 h
   unfold AS at this ⊢;rw[Ad (λz=>by rw[z,s3 _ _ M2.tm.h1] at this; cases this)]; exact this
  have he3:=up3 he2;have ho3:=up3 ho2;have F3:=(F2.trans (Fr.same s3)).trans (Fr.up (T:=T) (h:=R) (bs:=bs) (x:=T) (by simp) (.AF (bs.map V.ref++[.ref l])));dsimp only at M3 ⊢;generalize AJ (AJ H2 l (.AF [.int (2*(k:Int)+1),.int (2*(rs.length:Int))])) T (.AF (bs.map V.ref++[.ref l]))=H3 at M3 he3 ho3 F3;have el:((((bs++[l]).map V.ref).length:Nat):Int)-1=(ts.length:Int):=by rw[ig,jc,lbs]; simp
  refine⟨_,rfl,_,rfl,T,_,rfl,.inl (AQ.of M3.tm.h1),_,_,rfl,rfl,_,rfl,by exact FX,λnp hnp=>?_⟩
  (try dsimp only)
  rw[el];have s4:=AZ hnp (.AG [.int (r.1:Int),.int (ts.length:Int),.ref e0]);have rop:Bg (AJ H3 np (.AG [.int (r.1:Int),.int (ts.length:Int),.ref e0])) np (r.1,ts.length,r.2.2):=⟨e0,AU,As s4 ho3⟩;have M4:=M3.keep s4;have he4:=As s4 he3;have F4:=F3.trans (Fr.same (T:=T) (h:=R) (bs:=bs) s4);generalize AJ H3 np (.AG [.int (r.1:Int),.int (ts.length:Int),.ref e0])=H4 at rop M4 F4 he4;refine⟨_,rfl,_,rfl,R,_,_,k,rfl,rfl,M4.r1,by rw[ig,M.rr.1]; exact Jx hk2,?_⟩;have M5:=M4.Mb (cs':=cs.set k np) (rs':=rs.set k (r.1,ts.length,r.2.2)) (ys:=(cs.map V.ref).set k (.ref np)) (by rw[mS]) (M4.rr.set k rop);have F5:=F4.trans (Fr.up (T:=T) (h:=R) (bs:=bs) (H:=H4) (x:=R) (by simp) (.AF ((cs.map V.ref).set k (.ref np))));have he5:AS (AJ H4 R (.AF ((cs.map V.ref).set k (.ref np)))) e qe:=by
   unfold AS at he4 ⊢;rw[Ad (λz=>by rw[z,M4.r1] at he4; cases he4)]; exact he4
  generalize AJ H4 R (.AF ((cs.map V.ref).set k (.ref np)))=H5 at M5 F5 he5;refine⟨_,rfl,.inl ⟨rfl,_,AQ.of M5.r1⟩,_,rfl,T,_,rfl,.inl (AQ.of M5.tm.h1),_,_,rfl,rfl,_,rfl,_,rfl,by exact FX,λrp hrp=>?_⟩
  (try dsimp only)
  rw[el];have s6:=AZ hrp (.AG [.int (ts.length:Int),.int (r.2.1:Int),.ref e]);have rop6:Bg (AJ H5 rp (.AG [.int (ts.length:Int),.int (r.2.1:Int),.ref e])) rp (ts.length,r.2.1,qe):=⟨e,AU,As s6 he5⟩;have M6:=M5.keep s6;have F6:=F5.trans (Fr.same (T:=T) (h:=R) (bs:=bs) s6);generalize AJ H5 rp (.AG [.int (ts.length:Int),.int (r.2.1:Int),.ref e])=H6 at rop6 M6 F6;refine⟨R,_,_,rfl,rfl,M6.r1,by rw[ig,k9,M.rr.1]; exact Cw (by omega),?_⟩;have M7:=M6.Mb (cs':=cs.set k np++[rp]) (rs':=rs.set k (r.1,ts.length,r.2.2)++[(ts.length,r.2.1,qe)]) (ys:=(cs.set k np).map V.ref++[.ref rp]) (by simp) (M6.rr.snoc rop6);refine q _ (cs.set k np++[rp]) (bs++[l]) _ _ (F6.trans (Fr.up (by simp) _)) (λx hx=>?_) M7 ?_ (by simp) (λr' hr'=>?_)
  ·rcases i9.mp hx with w | w
   ·exact .inl w
   ·exact .inr (by rw[jA.mp w]; exact fl)
  ·have:=g.part (r:=k+1) (pe:=2*(k:Int)+3) (by omega) (by push_cast; omega) hpp px
   rw[show hs2 (rs.set k (r.1,ts.length,r.2.2)++[(ts.length,r.2.1,qe)])=(hs2 rs++[ts.length]++[r.2.1]).set (2*(k:Int)+3).toNat ts.length by
    have hl0:=ET rs;rw[show(2*(k:Int)+3).toNat=2*k+1+1+1 by omega];unfold hs2;rw[LQ,av hrk];show 0 :: 1 :: ((CF rs).set (2*k+1) ts.length++[ts.length]++[r.2.1])=(0 :: 1 :: (CF rs++[ts.length]++[r.2.1])).set (2*k+1+1+1) ts.length;rw[qP,qP,jU,jU,List.set_append_left _ _ (by rw[hl0]; omega)]]
   exact this
  ·rcases i9.mp hr' with w | w
   ·rcases kT w with w | w
    ·exact ekr r' w
    ·rw[w]; exact ekr r (iq hrk)
   ·rw[jA.mp w]; exact eke
 ·
  refine⟨_,rfl,T,bs,_,rfl,M1.tm,dW g.nd,by rw[R8,ig,g.FP.len]; omega,λd H2 s2 _ hd=>?_⟩;refine⟨_,rfl,d,ts,(hs2 rs).length,y,rfl,hd,g.FP,by omega,yR,λrg H3 s3 nrg hrg=>?_⟩;have s23:=s2.trans s3;have M3:=M1.keep s23;have he3:=As s23 he1;have F3:=F1.trans (Fr.same (T:=T) (h:=R) (bs:=bs) s23);have Rm:=Ht PM yR;have hreach:∀{b:Int},b∈BK (AL ts) y->AD (hs2 rs).length b/\∃k,Ax (AL ts) k y=b:=λhb=>⟨KA PM yR hb,Xa PM yR Rm hb⟩
  generalize BK (AL ts) y=Rg at hrg Rm hreach;have Rl:0<(Rg.map λx=>x-2).length:=by rw[ig]; exact kQ Rm
  have Rl2:(0:Int)<((((Rg.map λx=>x-2).map V.int).length:Nat):Int):=by rw[ig]; omega
  obtain⟨x2,xm,ex2⟩:=iB Rl (z / 4);obtain⟨x,hxm,rfl⟩:=i7.mp xm;obtain⟨xR,kx⟩:=hreach hxm;have xo:=CI ev xR;have ab3:=ab;have hB3:=s23 _ _ hB;refine⟨_,rfl,_,rfl,T,_,_,_,rfl,rfl,AQ.of M3.tm.h1,ab,.inl ⟨rfl,_,AQ.of hB3⟩,_,rfl,_,rfl,b,_,(t1.length:Int),.int (2*(rs.length:Int)),rfl,rfl,hB3,by omega,by simp; omega,by rw[ig,ig]; omega,?_⟩;rw[em,e3];have M4:=M3.turn (t:=t1++((hs2 rs).length:Int) :: AH y :: t2) hb;have F4:=F3.trans (Fr.up (T:=T) (h:=R) (bs:=bs) (H:=H3) (x:=b) (by simp[bm]) (.AF (((t1++((hs2 rs).length:Int) :: AH y :: t2).map λx=>x-2).map V.int)));have he4:AS (AJ H3 b (.AF (((t1++((hs2 rs).length:Int) :: AH y :: t2).map λx=>x-2).map V.int))) e qe:=by
   unfold AS at he3 ⊢;rw[Ad (λz=>by rw[z,hB3] at he3; cases he3)]; exact he3
  have hrg4:(AJ H3 b (.AF (((t1++((hs2 rs).length:Int) :: AH y :: t2).map λx=>x-2).map V.int))) rg=some (.AF ((Rg.map λx=>x-2).map V.int)):=by
   rw[Ad (kC (BW (s2 _ _ hB) nrg))]; exact hrg
  generalize AJ H3 b (.AF (((t1++((hs2 rs).length:Int) :: AH y :: t2).map λx=>x-2).map V.int))=H4 at M4 F4 he4 hrg4;have inv:∀{o:Int},o∈ts.flatten->o∈(ts.set p (t1++((hs2 rs).length:Int) :: AH y :: t2)).flatten:=by
   intro o ho;obtain⟨t,ht,hm⟩:=jn.mp ho;obtain⟨j,hj,ej⟩:=ju ht;by_cases e:p=j
   ·subst e
    have:t=t1++AH y :: t2:=by rw[ij hj,ej] at hp; exact je hp
    subst this;refine jn.mpr ⟨_,iq (jR pl),?_⟩;rcases i9.mp hm with w | w
    ·exact kM _ w
    ·exact jC _ (jB _ w)
   ·exact jn.mpr ⟨t,iq (show(ts.set p (t1++((hs2 rs).length:Int) :: AH y :: t2))[j]?=some t by rw[jF e,ij hj,ej]),hm⟩
  have tl4:∀t∈ts.set p (t1++((hs2 rs).length:Int) :: AH y :: t2),t.length<=999:=by
   intro t ht;rcases kT ht with w | w
   ·have:=LS w; rw[g.FP.len] at this; omega
   ·rw[w];rw[jc,jD] at tlen;rw[jc,jD,jD];omega
  refine⟨_,rfl,_,rfl,_,rfl,_,_,rfl,rfl,⟨by decide,by decide⟩,_,rfl,rg,_,rfl,.inl (AQ.of hrg4),_,_,rfl,rfl,Rl2,rg,_,_,_,rfl,rfl,AQ.of hrg4,ex2,T,bs,_,(hs2 rs).length,x,rfl,M4.tm,by omega,xR,inv ((g.mem _).mpr xo),λt ht=>by have:=tl4 t ht; omega,λp2 u pq2 H5 hp2 hxu s5 hpq2=>?_⟩;refine⟨pq2,_,rfl,AI.of hpq2,rfl,_,_,rfl,_,_,rfl,rfl,?_⟩;have M5:=M4.keep s5;have he5:=As s5 he4;have F5:=F4.trans (Fr.same (T:=T) (h:=R) (bs:=bs) s5);obtain⟨u1,u2,rfl,nu⟩:=JC hxu;have ixu:=KG (u2:=u2) nu;have ul:=tl4 _ (iq hp2);obtain⟨b5,hb5,bm5,ab5,hB5⟩:=Nh M5.tm (MJ hp2);rw[ixu];refine⟨_,rfl,_,rfl,T,_,_,_,rfl,rfl,AQ.of M5.tm.h1,ab5,.inl ⟨rfl,_,AQ.of hB5⟩,_,rfl,_,rfl,_,_,rfl,rfl,b5,_,(u1.length:Int),.int (((hs2 rs).length:Int)-2+1),rfl,rfl,hB5,by omega,by simp; omega,by rw[ig,ig]; omega,?_⟩;rw[show((hs2 rs).length:Int)-2+1=((hs2 rs).length:Int)+1-2 by omega,e3];have M6:=M5.turn (t:=u1++(((hs2 rs).length:Int)+1) :: AH x :: u2) hb5;have F6:=F5.trans (Fr.up (T:=T) (h:=R) (bs:=bs) (H:=H5) (x:=b5) (by simp[bm5]) (.AF (((u1++(((hs2 rs).length:Int)+1) :: AH x :: u2).map λx=>x-2).map V.int)));have he6:AS (AJ H5 b5 (.AF (((u1++(((hs2 rs).length:Int)+1) :: AH x :: u2).map λx=>x-2).map V.int))) e qe:=by
   unfold AS at he5 ⊢;rw[Ad (λz=>by rw[z,hB5] at he5; cases he5)]; exact he5
  generalize AJ H5 b5 (.AF (((u1++(((hs2 rs).length:Int)+1) :: AH x :: u2).map λx=>x-2).map V.int))=H6 at M6 F6 he6;refine⟨_,rfl,.inl ⟨rfl,_,AQ.of M6.r1⟩,_,rfl,_,rfl,_,rfl,by exact FX,λrp hrp=>?_⟩;have s7:=AZ hrp (.AG [.int (p:Int),.int (p2:Int),.ref e]);have rop:Bg (AJ H6 rp (.AG [.int (p:Int),.int (p2:Int),.ref e])) rp (p,p2,qe):=⟨e,AU,As s7 he6⟩;have M7:=M6.keep s7;have F7:=F6.trans (Fr.same (T:=T) (h:=R) (bs:=bs) s7);generalize AJ H6 rp (.AG [.int (p:Int),.int (p2:Int),.ref e])=H7 at rop M7 F7;refine⟨R,_,_,rfl,rfl,M7.r1,lcl,?_⟩;have M8:=M7.Mb (cs':=cs++[rp]) (rs':=rs++[(p,p2,qe)]) (ys:=cs.map V.ref++[.ref rp]) (by simp) (M7.rr.snoc rop);refine q _ (cs++[rp]) bs _ _ (F7.trans (Fr.up (by simp) _)) (λx hx=>.inl hx) M8 ?_ (by simp) (λr hr'=>?_)
  ·have:=g.Kf yR kx hp hp2
   rw[show hs2 (rs++[(p,p2,qe)])=hs2 rs++[p]++[p2] by unfold hs2; rw[LQ]; simp];exact this
  ·rcases i9.mp hr' with w | w
   ·exact ekr r w
   ·rw[jA.mp w]; exact eke
end
def cI(c:Int):Nat->Int
 | 0=>c
 | i+1=>cI c i / 2
abbrev Il(c:Int)(k:Nat):Int:=cI c k % 2
theorem CU(c:Int)(k:Nat):Il c k=0\/Il c k=1:=by
 show cI c k % 2=0\/cI c k % 2=1;omega
abbrev oA(os:List Nat)(k:Nat):Nat:=os.getD k 0
def A7(m:Nat)(os:List Nat)(c:Int)(x:Int):Int :=
 if x<2 then 2*(m:Int)+x else if x % 2=0 then 2*(oA os ((x.toNat-2) / 2):Int)+Il c ((x.toNat-2) / 2) else 2*(oA os ((x.toNat-2) / 2):Int)+1-Il c ((x.toNat-2) / 2)
section
variable {m n:Nat} {os ps:List Nat} {c:Int}
theorem HP:A7 m os c 0=2*(m:Int):=by unfold A7; rw[i5 (by decide)]; omega
theorem IS:A7 m os c 1=2*(m:Int)+1:=by unfold A7; rw[i5 (by decide)]
theorem HM(k:Nat):A7 m os c (2*(k:Int)+2)=2*(oA os k:Int)+Il c k:=by
 unfold A7;rw[iz (by omega),i5 (by omega),show((2*(k:Int)+2).toNat-2) / 2=k by omega]
theorem HR(k:Nat):A7 m os c (2*(k:Int)+3)=2*(oA os k:Int)+1-Il c k:=by
 unfold A7;rw[iz (by omega),iz (by omega),show((2*(k:Int)+3).toNat-2) / 2=k by omega]
theorem J1{x:Int}(h:AD (2*m+2) x):x=0\/x=1\/∃k:Nat,k<m/\(x=2*(k:Int)+2\/x=2*(k:Int)+3):=by
 obtain⟨h1,h2⟩:=h;rcases mP x 2 with z | z
 ·omega
 ·exact .inr (.inr ⟨(x.toNat-2) / 2,by omega,by omega⟩)
theorem DH(h:os.Perm (List.range m)){k:Nat}(hk:k<m):os[k]?=some (oA os k)/\oA os k<m:=by
 have hl:=h.length_eq;rw[jN] at hl;have hk':k<os.length:=by omega
 have e:os[k]?=some (oA os k):=by
  unfold oA;rw[ir,ij hk'];rfl
 exact⟨e,jw.mp (h.mem_iff.mp (iq e))⟩
theorem JJ(h:os.Perm (List.range m)){k j:Nat}(hk:k<m)(hj:j<m)(e:oA os k=oA os j):k=j:=by
 have hl:=h.length_eq;rw[jN] at hl;have nd:os.Nodup:=h.nodup_iff.mpr kU;exact(nV (by omega) nd).mp (by rw[(DH h hk).1,(DH h hj).1,e])
theorem Lp(h:os.Perm (List.range m)){q:Nat}(hq:q<m):∃k,k<m/\oA os k=q:=by
 have hl:=h.length_eq;rw[jN] at hl;obtain⟨k,hk,e⟩:=ju (h.mem_iff.mpr (jw.mpr hq));refine⟨k,by omega,?_⟩;unfold oA;rw[ir,ij hk,e];rfl
theorem Z9(h:ps.Perm (List.range n)):(0 :: 1 :: ps.map λx=>x+2).Perm (List.range (n+2)):=by
 rw[kB,kB,i8,jH];exact((h.map λx=>x+2).cons 1).cons 0
theorem cV(n2:2<=n)(ho:os.Perm (List.range m))(hp:ps.Perm (List.range n))(p0:oA ps 0=0)(p1:oA ps 1=1):WS n m (oA ps) (A7 m os c):=by
 have rin:∀x,AD (2*m+2) x->AD (2*m+2) (A7 m os c x):=by
  intro x hx;rcases J1 hx with rfl | rfl | ⟨k,hk,rfl | rfl⟩
  ·rw[HP]; exact⟨by omega,by push_cast; omega⟩
  ·rw[IS]; exact⟨by omega,by push_cast; omega⟩
  ·rw[HM]
   have:=(DH ho hk).2
   rcases CU c k with z | z <;> (rw[z]; exact⟨by omega,by push_cast; omega⟩)
  ·rw[HR]
   have:=(DH ho hk).2
   rcases CU c k with z | z <;> (rw[z]; exact⟨by omega,by push_cast; omega⟩)
 have surj:∀y,∃x,AD (2*m+2) y->AD (2*m+2) x/\A7 m os c x=y:=by
  intro y;by_cases hy:AD (2*m+2) y
  ·have hy':=hy;obtain⟨h1,h2⟩:=hy';push_cast at h2;by_cases e0:y=2*(m:Int)
   ·exact⟨0,λ_=>⟨⟨by omega,by push_cast; omega⟩,by rw[HP,e0]⟩⟩
   by_cases e1:y=2*(m:Int)+1
   ·exact⟨1,λ_=>⟨⟨by omega,by push_cast; omega⟩,by rw[IS,e1]⟩⟩
   obtain⟨k,hk,ek⟩:=Lp ho (q:=y.toNat / 2) (by omega);rcases(show y % 2=0\/y % 2=1 by omega) with z | z <;> rcases CU c k with f | f
   ·exact⟨2*(k:Int)+2,λ_=>⟨⟨by omega,by push_cast; omega⟩,by rw[HM,f,ek]; omega⟩⟩
   ·exact⟨2*(k:Int)+3,λ_=>⟨⟨by omega,by push_cast; omega⟩,by rw[HR,f,ek]; omega⟩⟩
   ·exact⟨2*(k:Int)+3,λ_=>⟨⟨by omega,by push_cast; omega⟩,by rw[HR,f,ek]; omega⟩⟩
   ·exact⟨2*(k:Int)+2,λ_=>⟨⟨by omega,by push_cast; omega⟩,by rw[HM,f,ek]; omega⟩⟩
  ·exact⟨0,λz=>absurd z hy⟩
 have inj:∀x y,AD (2*m+2) x->AD (2*m+2) y->A7 m os c x=A7 m os c y->x=y:=by
  have io:∀{k j:Nat},k<m->j<m->oA os k=oA os j->k=j:=λh1 h2=>JJ ho h1 h2
  intro x y hx hy e;rcases J1 hx with rfl | rfl | ⟨k,hk,rfl | rfl⟩ <;> rcases J1 hy with rfl | rfl | ⟨j,hj,rfl | rfl⟩ <;> simp only[HP,IS,HM,HR] at e
  ·rfl
  ·omega
  ·have:=(DH ho hj).2; have:=CU c j; omega
  ·have:=(DH ho hj).2; have:=CU c j; omega
  ·omega
  ·rfl
  ·have:=(DH ho hj).2; have:=CU c j; omega
  ·have:=(DH ho hj).2; have:=CU c j; omega
  ·have:=(DH ho hk).2; have:=CU c k; omega
  ·have:=(DH ho hk).2; have:=CU c k; omega
  ·have:=CU c k; have:=CU c j
   have:=io hk hj (by omega)
   omega
  ·have:=CU c k; have:=CU c j
   have:=io hk hj (by omega)
   subst this;omega
  ·have:=(DH ho hk).2; have:=CU c k; omega
  ·have:=(DH ho hk).2; have:=CU c k; omega
  ·have:=CU c k; have:=CU c j
   have:=io hk hj (by omega)
   subst this;omega
  ·have:=CU c k; have:=CU c j
   have:=io hk hj (by omega)
   omega
 refine⟨p0,p1,λp h=>(DH hp h).2,?_,λp q h1 h2 e=>JJ hp h1 h2 e,rin,⟨λy=>Classical.choose (surj y),λy hy=>qc (surj y) hy⟩,inj,HP,λx hx=>?_⟩
 ·have ex:∀q,∃k,q<n->k<n/\oA ps k=q:=λq=>by
   by_cases h:q<n
   ·obtain⟨k,hk⟩:=Lp hp h;exact⟨k,λ_=>hk⟩
   ·exact⟨0,λz=>absurd z h⟩
  exact⟨λq=>Classical.choose (ex q),λq hq=>qc (ex q) hq⟩
 ·rcases J1 hx with rfl | rfl | ⟨k,hk,rfl | rfl⟩
  ·rw[show AH 0=1 from rfl,HP,IS]; unfold AH; rw[i5 (by omega)]
  ·rw[show AH 1=0 from rfl,HP,IS]; unfold AH; rw[iz (by omega)]; omega
  ·rw[show AH (2*(k:Int)+2)=2*(k:Int)+3 by unfold AH; rw[i5 (by omega)]; omega,HM,HR];rcases CU c k with f | f <;> (rw[f]; unfold AH; split <;> omega)
  ·rw[show AH (2*(k:Int)+3)=2*(k:Int)+2 by unfold AH; rw[iz (by omega)]; omega,HM,HR];rcases CU c k with f | f <;> (rw[f]; unfold AH; split <;> omega)
def Ei(ps:List Nat)(c:Int)(k:Nat)(r:AO):AO:=if Il c k=0 then (oA ps r.1,oA ps r.2.1,r.2.2) else (oA ps r.2.1,oA ps r.1,r.2.2)
theorem cA{rs rs':List AO}(hr:rs.length=m)(hr':rs'.length=m)(ho:os.Perm (List.range m))(p0:oA ps 0=0)(p1:oA ps 1=1)(h:∀(k:Nat) (r:AO),rs[k]?=some r->rs'[oA os k]?=some (Ei ps c k r)):
  ∀x,AD (2*m+2) x->(hm rs')[(A7 m os c x).toNat]?=((hs2 rs)[x.toNat]?).map (oA ps):=by
 have l0:=ET rs';have l1:=ET rs;intro x hx;rcases J1 hx with rfl | rfl | ⟨k,hk,e⟩
 ·rw[HP];unfold hm;rw[jd (by rw[l0]; omega),l0,show(2*(m:Int)).toNat-2*rs'.length=0 by omega];show some 0=some (oA ps 0);rw[p0]
 ·rw[IS];unfold hm;rw[jd (by rw[l0]; omega),l0,show(2*(m:Int)+1).toNat-2*rs'.length=1 by omega];show some 1=some (oA ps 1);rw[p1]
 ·have hrk:rs[k]?=some rs[k]:=ij (by omega);generalize rs[k]=r at hrk;have ho1:=(DH ho hk).2;obtain⟨b1,b2⟩:=HH hrk;obtain⟨a1,a2⟩:=HH (h k r hrk);have c1:(hs2 rs)[2*k+2]?=some r.1:=by
   show(0 :: 1 :: CF rs)[2*k+1+1]?=_;rw[j8,j8]; exact b1
  have c2:(hs2 rs)[2*k+3]?=some r.2.1:=by
   show(0 :: 1 :: CF rs)[2*k+1+1+1]?=_;rw[j8,j8]; exact b2
  have d1:(hm rs')[2*oA os k]?=some (Ei ps c k r).1:=by unfold hm; rw[jm (by rw[l0]; omega)]; exact a1
  have d2:(hm rs')[2*oA os k+1]?=some (Ei ps c k r).2.1:=by unfold hm; rw[jm (by rw[l0]; omega)]; exact a2
  unfold Ei at d1 d2;rcases e with rfl | rfl
  ·rw[HM,show(2*(k:Int)+2).toNat=2*k+2 by omega,c1];rcases CU c k with f | f
   ·rw[f,show(2*(oA os k:Int)+0).toNat=2*oA os k by omega,d1,i5 f]; rfl
   ·rw[f,show(2*(oA os k:Int)+1).toNat=2*oA os k+1 by omega,d2,iz (by omega)]; rfl
  ·rw[HR,show(2*(k:Int)+3).toNat=2*k+3 by omega,c2];rcases CU c k with f | f
   ·rw[f,show(2*(oA os k:Int)+1-0).toNat=2*oA os k+1 by omega,d2,i5 f]; rfl
   ·rw[f,show(2*(oA os k:Int)+1-1).toNat=2*oA os k by omega,d1,iz (by omega)]; rfl
end
def B4(ρ:Int->Int)(i:Nat):List (Int×Int):=(List.range (2*i+2)).map λj:Nat=>((j:Int)-2,ρ (j:Int))
theorem Yj(ρ:Int->Int)(i:Nat):B4 ρ (i+1)=(B4 ρ i++[(2*(i:Int),ρ (2*(i:Int)+2))])++[(2*(i:Int)+1,ρ (2*(i:Int)+3))]:=by
 unfold B4;rw[show 2*(i+1)+2=2*i+2+1+1 by omega,lS,lS,ji,ji];simp only[i8,kf];rw[show(((2*i+2:Nat):Int))=2*(i:Int)+2 by omega,show(((2*i+2+1:Nat):Int))=2*(i:Int)+3 by omega,show 2*(i:Int)+2-2=2*(i:Int) by omega,show 2*(i:Int)+3-2=2*(i:Int)+1 by omega]
theorem Sa(ρ:Int->Int)(i:Nat):(B4 ρ i).length=2*i+2:=by unfold B4; rw[ig,jN]
theorem Nf(ρ:Int->Int)(i:Nat):(B4 ρ i).map (·.1)=(List.range (2*i+2)).map λj:Nat=>(j:Int)-2:=by unfold B4; rw[jH]; rfl
theorem bI(ρ:Int->Int)(i:Nat):(2*(i:Int))∉(B4 ρ i).map (·.1):=by
 rw[Nf];intro z;obtain⟨j,hj,e⟩:=i7.mp z
 have:=jw.mp hj
 omega
theorem ae(ρ:Int->Int)(i:Nat)(v:Int):(2*(i:Int)+1)∉(B4 ρ i++[(2*(i:Int),v)]).map (·.1):=by
 rw[ji,Nf];intro z;rcases i9.mp z with z | z
 ·obtain⟨j,hj,e⟩:=i7.mp z
  have:=jw.mp hj
  omega
 ·have:2*(i:Int)+1=2*(i:Int):=by simpa using z
  omega
theorem aL(ρ:Int->Int){m:Nat}{y:Int}(h:AD (2*m+2) y):lk (B4 ρ m) (y-2)=some (ρ y):=by
 obtain⟨h1,h2⟩:=h;refine MF ?_ ?_
 ·rw[Nf];rw[List.Nodup,kE];exact mN (λ{a b} hab e=>hab (by omega)) (kU (n:=2*m+2))
 ·unfold B4;refine i7.mpr ⟨y.toNat,jw.mpr (by omega),?_⟩;rw[show((y.toNat:Nat):Int)=y by omega]
theorem Og{α:Type}{R:Hp->Addr->α->Prop}{H:Hp}:∀{mv:List V} {Pq:Nat->α->Prop},(∀q,q<mv.length->∃d x,mv[q]?=some (.ref d)/\R H d x/\Pq q x)->∃(ds:List Addr) (xs:List α),mv=ds.map V.ref/\At R H ds xs/\∀q x,xs[q]?=some x->Pq q x
 | [],Pq,_=>⟨[],[],rfl,At.nil,by simp⟩
 | v :: mv,Pq,h=>by
  obtain⟨d,x,e1,e2,e3⟩:=h 0 (by simp);obtain⟨ds,xs,f1,f2,f3⟩:=Og (mv:=mv) (Pq:=λq=>Pq (q+1)) (λq hq=>by
   obtain⟨d,x,e1,e2,e3⟩:=h (q+1) (by simpa using hq);exact⟨d,x,by simpa using e1,e2,e3⟩)
  have ev:v=.ref d:=by simpa using e1
  subst ev;subst f1;refine⟨d :: ds,x :: xs,rfl,⟨by simp[f2.1],λi b y g1 g2=>?_⟩,λq y hq=>?_⟩
  ·cases i with
   | zero=>cases g1; cases g2; exact e2
   | succ i=>exact f2.2 i b y (by simpa using g1) (by simpa using g2)
  ·cases q with
   | zero=>cases hq; exact e3
   | succ q=>exact f3 q y (by simpa using hq)
theorem QE:∀(ss:List Nat) (k:Nat),(Be ss).eraseIdx k=Be (ss.eraseIdx k)
 | [],k=>by cases k <;> rfl
 | s :: ss,0=>rfl
 | s :: ss,k+1=>by
  show _ :: (Be ss).eraseIdx k=_ :: Be (ss.eraseIdx k);rw[QE ss k]
theorem Mj{α:Type}:∀{ss:List α} {k:Nat} {x:α},ss[k]?=some x->(x :: ss.eraseIdx k).Perm ss
 | s :: ss,0,x,h=>by cases h; exact .refl _
 | s :: ss,k+1,x,h=>by
  have:=Mj (ss:=ss) (k:=k) (by simpa using h)
  exact(List.Perm.swap s x _).trans (this.cons s)
theorem LL{H:Hp}{b c:Addr}{o o':HO}{r:AO}(hb:H b=some o')(hn:∀ys,o'≠.AG ys)(h:Bg H c r):Bg (AJ H b o) c r:=by
 obtain⟨e,h1,h2⟩:=h;refine⟨e,by rw[Ad (λz=>by rw[z,hb] at h1; exact hn _ (je h1))]; exact h1,?_⟩;unfold AS at h2 ⊢;rw[Ad (λz=>by rw[z,hb] at h2; exact hn _ (je h2))]; exact h2
section
variable {P:Program} {w:World} {K:PySem.W.Frag} {mg:Str->Option Value} {base:Heap} {f g h f1 f2 f3 f4:Addr} {fd gd hd d1 d2 d3 d4:FuncData}
inductive RY(vs:List V)(H:Hp)(Q:VK):Prop
 | mk (m:Nat) (c:Int) (h_0:vs=[.int (m:Int),.int c]) (h_1:m<=100) (h_2:∀p l os c' H',AN H H'->H l=none->H' p=some (.AG [.ref l,.int c'])->H' l=some (.AF (Be os))->os.Perm (List.range m)->Q (.ref p) H'):RY vs H Q
def SS:Sp:=λvs H Q _=>RY vs H Q
theorem Ko:A2 ["_law_many","_law_c","_law_some","_law_found","_law_at"] ["_law_many","_law_c"] (Ap s_law_order):=A8
theorem Ym(F:Ar K "_law_order" "_law_order" s_law_order f fd)(ml:mg "len" = none)(mr:mg "range" = none)(mi:mg "list" = none):Ao P w K mg base Ay 1 f fd ["_law_many","_law_c"] SS:=by
 refine F.A9 Ko λcdv A outer s H vs Q E hr h=>?_
 obtain⟨m,c,rfl,hm,q⟩:=h;refine⟨_,AR (AX (i:=2) Ko.nd rfl (Or.inl rfl) (Wv rfl (by rfl) mi (by rfl) mr (pv 0)))
  (AR (AX (i:=3) Ko.nd rfl (Or.inl rfl) (Cd AB))
  (AR (Hx jt (BN L6 (Au (Bb (K:=K)) (by rfl) ml BO (AA (pv 2) AB)) AE (BH _))
   (AR (AX (i:=4) Ko.nd rfl (Or.inl rfl) (AM CH (pv 1) (Au (Bb (K:=K)) (by rfl) ml BO (AA (pv 2) AB))))
   (AR (AX (i:=1) Ko.nd rfl (Or.inl rfl) (AM ES (pv 1) (Au (Bb (K:=K)) (by rfl) ml BO (AA (pv 2) AB))))
   (AV (DN (Cr K jq jI jJ Dz (pv 3) (AA (Cr K jq qi qj RE (pv 2) (AA (pv 4) AB)) AB)))))))
  (AV (An (Bf (AA (pv 3) (AA (pv 1) AB))))))),?_⟩
 refine⟨_,rfl,m,rfl,by omega,λS hS=>?_⟩;obtain⟨H1,zg,sS,zz⟩:=nw hS (.AF ((List.range m).map λi:Nat=>V.int (i:Int)));rw[zg];have eS:H1 S=some (.AF (Be (List.range m))):=zz;refine⟨by exact Gq,λL hL=>?_⟩;obtain⟨H2,zg,sL,zz⟩:=nw hL (.AF []);rw[zg];have eL:H2 L=some (.AF (Be [])):=zz;have nSL:S≠L:=BW eS hL;have eS1:=sL _ _ eS;have fL:H L=none:=sS.free hL;refine Hv (λσ H3=>∃c u ss os,σ=[some (.int (m:Int)),some (.int c),some (.ref S),some (.ref L),u]/\AN H H3/\H3 S=some (.AF (Be ss))/\H3 L=some (.AF (Be os))/\(os++ss).Perm (List.range m)) (λ_ H3=>match H3 S with | some (.AF xs)=>xs.length | _=>0)
  ⟨c,none,List.range m,[],rfl,sS.trans sL,eS1,eL,.refl _⟩ ?_ ?_
 ·rintro σ H3 ⟨c,u,ss,os,rfl,s3,hS3,hL3,pm⟩;have lens:=pm.length_eq;rw[jc,jN] at lens;refine⟨_,rfl,S,_,rfl,.inl (AQ.of hS3),_,_,rfl,rfl,_,rfl,?_⟩;by_cases hz:ss.length=0
  ·refine DP (by rw[ig]; omega) ?_
   have:ss=[]:=ku.mp hz
   subst this;rw[kg] at pm;refine⟨_,rfl,_,rfl,by exact CA,λp hp=>?_⟩;exact q p L os c _ (s3.trans (AZ hp _)) fL AU (AZ hp _ _ _ hL3) pm
  ·refine De (by rw[ig]; omega) ?_;have lp:(0:Int)<(((Be ss).length:Nat):Int):=by rw[ig]; omega
   refine⟨_,rfl,_,rfl,S,_,rfl,.inl (AQ.of hS3),_,_,rfl,rfl,lp,?_⟩;refine⟨_,rfl,_,rfl,S,_,rfl,.inl (AQ.of hS3),_,_,rfl,rfl,⟨lp,by rw[ig]; show(ss.length:Int)<1073741824; omega⟩,?_⟩
   (try dsimp only)
   have d0:=j9 c (lB lp);have d1:=ke c lp;rw[ig] at d0 d1 ⊢;obtain⟨k,hk⟩:∃k:Nat,c % (ss.length:Int)=(k:Int):=⟨(c % (ss.length:Int)).toNat,by omega⟩;rw[hk] at d1 ⊢;have hk2:k<ss.length:=by omega
   have ek:ss[k]?=some ss[k]:=ij hk2;generalize ss[k]=x at ek;have ev:(Be ss)[k]?=some (.int (x:Int)):=by rw[iy,ek]; rfl
   refine⟨_,rfl,.inl ⟨rfl,_,AQ.of hL3⟩,_,rfl,.inl ⟨rfl,_,AQ.of hS3⟩,_,rfl,S,_,(k:Int),k,_,rfl,rfl,hS3,by omega,by omega,(N0 (by rw[ig]; exact Jx hk2)).1,ev,L,_,_,rfl,rfl,by rw[Ad (kC nSL)]; exact hL3,by rw[ig]; exact Cw (by omega),?_⟩;rw[QE];refine⟨⟨_,_,ss.eraseIdx k,os++[x],rfl,(s3.up hS _).up fL _,by rw[Ad nSL,AU],by rw[AU]; simp,?_⟩,?_⟩
   ·refine List.Perm.trans ?_ pm;rw[jU];exact(Mj ek).append_left os
   ·rw[Ad nSL,AU,hS3];show(Be (ss.eraseIdx k)).length<(Be ss).length;rw[ig,ig]
    have:=(Mj ek).length_eq
    rw[jD] at this;omega
 ·rintro σ H2 Q1 Q2 hq ⟨v,e,p,ys,e1,e2,i,j,e3,e4,b,eb,z⟩;exact⟨v,e,p,ys,e1,e2,i,j,e3,e4,b,eb,hq _ _ z⟩
theorem JF{os:List Nat}{m:Nat}(h:os.Perm (List.range m)){k:Nat}(hk:k<m):Bt (Be os) ((k:Nat):Int)=some (.int ((oA os k:Nat):Int)):=cK (DH h hk).1
theorem Vg(v:V)(k:Nat):(List.replicate k [v]).flatten=List.replicate k v:=by
 induction k with
 | zero=>rfl
 | succ k ih=>rw[jE,jx,ih,jE]; rfl
theorem VI{ts:List (List Int)}{hs:List Nat}(g:Gn ts hs){j p:Nat}(h:hs[j]?=some p):p<ts.length:=by
 have hj:=(ip.mp h).1;obtain⟨p',t,a,_,b⟩:=g.at (x:=(j:Int)) ⟨by omega,by omega⟩;rw[kd,h] at b;cases b;exact(ip.mp a).1
theorem Z6(x y:Nat){z:Int}(h:z=0\/z=1):Bt [V.int (x:Int),V.int (y:Int)] z=some (.int ((if z=0 then x else y:Nat):Int))/\Bt [V.int (x:Int),V.int (y:Int)] (1-z)=some (.int ((if z=0 then y else x:Nat):Int)):=by
 rcases h with rfl | rfl
 ·exact⟨BE,A3⟩
 ·exact⟨A3,BE⟩
theorem cS(ps:List Nat)(c:Int)(k:Nat)(r:AO):Ei ps c k r=((if cI c k % 2=0 then oA ps r.1 else oA ps r.2.1:Nat),(if cI c k % 2=0 then oA ps r.2.1 else oA ps r.1:Nat),r.2.2):=by
 unfold Ei;by_cases z:cI c k % 2=0
 ·rw[i5 z,i5 z,i5 z]
 ·rw[iz z,iz z,iz z]
inductive Tw(vs:List V)(H:Hp)(Q:VK):Prop
 | mk (R T:Addr) (cs bs:List Addr) (ts:List (List Int)) (rs:List AO) (c:Int) (h_0:vs=[.ref R,.ref T,.int c]) (h_1:CN H R T cs bs ts rs) (h_2:Gn ts (hs2 rs)) (h_3:rs.length<=7) (h_4:(∀r∈rs,Eo r.2.2)) (h_5:∀p ra ta n rs' us H',AN H H'->H' p=some (.AG [.int ((n:Nat):Int),.ref ra,.ref ta])->A4 Bg H' ra rs'->A4 Ba H' ta us->BP n rs' us->MY us rs'.length->Q (.ref p) H'):Tw vs H Q
def Ux:Sp:=λvs H Q _=>Tw vs H Q
theorem C7:A2 ["_law_ropes","_law_turns","_law_c","_law_many","_law_order_here","_law_places","_law_names","_law_made","_law_k","_law_rope","_law_flip","_law_pair","_law_rows","_law_turn","_law_row_here","_law_cut"] ["_law_ropes","_law_turns","_law_c"] (Ap s_law_finished):=A8
theorem fC:(["_law_place"]:List Str).Nodup:=by decide +kernel
theorem gH:(["_law_end","_law_names"]:List Str).Nodup:=by decide +kernel
set_option maxHeartbeats 2000000 in
seal L2.DF L2.PS L2.PE L2.PA in
theorem cD (F:Ar K "_law_finished" "_law_finished" s_law_finished f fd) (G1:Al P w K mg base 1 "_law_order" ["_law_many","_law_c"] SS)
  (ml:mg "len" = none) (me:mg "enumerate" = none) (mt:mg "tuple" = none):Ao P w K mg base Ay 2 f fd ["_law_ropes","_law_turns","_law_c"] Ux:=by
 refine F.A9 C7 λcdv A outer s H vs Q E hr h=>?_
 obtain⟨R,T,cs,bs,ts,rs,c,rfl,M,g,h14,ekr,q⟩:=h;have hu:=FN hr;refine⟨_,AR (AX (i:=3) C7.nd rfl (Or.inl rfl) (Au (Bb (K:=K)) (by rfl) ml BO (AA (pv 0) AB)))
  (AR (Dr (Aa G1 hr (AA (pv 3) (AA (pv 2) AB))) (Ds (n:=2) (K:=K) rfl (BF (Ae (i:=4) C7.nd rfl (Or.inl rfl)) (BF (Ae (i:=2) C7.nd rfl (Or.inl rfl)) Cq))))
  (AR (Dr (Aa G1 hr (AA (AM DW (Au (Bb (K:=K)) (by rfl) ml BO (AA (pv 1) AB)) AE) (AA (pv 2) AB))) (Ds (n:=2) (K:=K) rfl (BF (Ae (i:=5) C7.nd rfl (Or.inl rfl)) (BF (Ae (i:=2) C7.nd rfl (Or.inl rfl)) Cq))))
  (AR (AX (i:=5) C7.nd rfl (Or.inl rfl) (AM KI (Cd (AA AE (AA AE AB))) (C5 (Nc:=["_law_place"]) (cap:=[]) (g:=BU 0) (te:=Bd (Ez λi j=>.int (i+j)) (Aj 0) (tC (.int 2))) rfl (Ki (K:=K) (pv 5))
    (CB rfl rfl (by decide +kernel) (by decide +kernel) (i6 _) rfl (i6 _)) (λ_ _ _ _ _=>Ae (i:=0) fC rfl (Or.inl rfl)) (λ_ _ _ _ _=>AM Bc (pv 0) AE))))
  (AR (AX (i:=6) C7.nd rfl (Or.inr rfl) (Sz (NK (Ga GX AE) (AM Bw AE (pv 3)) (NK (Ga GX AE) (AM Bc (AM Bw AE (pv 3)) AE) SF)) rfl rfl (λz=>by cases z) (by decide)))
  (AR (AX (i:=7) C7.nd rfl (Or.inl rfl) (AM OO (Cd (AA KW AB)) (pv 3)))
  (AR (CQ jt rfl (Js (by rfl) me (AA (pv 0) AB)) (Ds (n:=2) (K:=K) rfl (BF (Ae (i:=8) C7.nd rfl (Or.inl rfl)) (BF (Ae (i:=9) C7.nd rfl (Or.inl rfl)) Cq)))
   (AR (AX (i:=10) C7.nd rfl (Or.inl rfl) (AM CH (pv 2) AE))
   (AR (AX (i:=2) C7.nd rfl (Or.inl rfl) (AM ES (pv 2) AE))
   (AR (GR hu (pv 6) (AM Bw AE (pv 8)) (AM Bc (AM Bw AE (pL K (pv 4) (pv 8))) (pv 10)) rfl)
   (AR (GR hu (pv 6) (AM Bc (AM Bw AE (pv 8)) AE) (AM DW (AM Bc (AM Bw AE (pL K (pv 4) (pv 8))) AE) (pv 10)) rfl)
   (AR (AX (i:=11) C7.nd rfl (Or.inl rfl) (Cd (AA (pL K (pv 5) (pT K (pv 9) AE)) (AA (pL K (pv 5) (pT K (pv 9) AE)) AB))))
   (AV (Dr (Bf (AA (pL K (pv 11) (pv 10)) (AA (pL K (pv 11) (AM DW AE (pv 10))) (AA (pT K (pv 9) AE) AB)))) (Fu (pv 7) (pL K (pv 4) (pv 8)) Fh)))))))))
  (AR (AX (i:=12) C7.nd rfl (Or.inl rfl) (AM OO (Cd (AA (Bf AB) AB)) (Au (Bb (K:=K)) (by rfl) ml BO (AA (pv 1) AB))))
  (AR (CQ jt rfl (Js (by rfl) me (AA (pv 1) AB)) (Ds (n:=2) (K:=K) rfl (BF (Ae (i:=8) C7.nd rfl (Or.inl rfl)) (BF (Ae (i:=13) C7.nd rfl (Or.inl rfl)) Cq)))
   (AR (Iq (i:=14) C7.nd rfl (Or.inl rfl) (Nc:=["_law_end","_law_names"]) (cap:=[(1,6)]) (g:=BU 0) (te:=MA (Aj 1) (Aj 0)) rfl (Ki (K:=K) (pv 13))
    (CB rfl rfl (by decide +kernel) (by decide +kernel) (jb.mpr ⟨⟨rfl,rfl⟩,i6 _⟩) rfl (jb.mpr ⟨⟨_,_,rfl,rfl,rfl,rfl,rfl⟩,i6 _⟩)) (λ_ _ _ _ _=>Ae (i:=0) gH rfl (Or.inl rfl))
    (λ_ _ _ _ _=>EU hu (pv 1) (pv 0) (λ_ _=>rfl)))
   (AR (AX (i:=15) C7.nd rfl (Or.inl rfl) (AM CH (pv 2) (Au (Bb (K:=K)) (by rfl) ml BO (AA (pv 14) AB))))
   (AR (AX (i:=2) C7.nd rfl (Or.inl rfl) (AM ES (pv 2) (Au (Bb (K:=K)) (by rfl) ml BO (AA (pv 14) AB))))
   (AV (Dr (Cy (Fj (K:=K)) (by rfl) mt B6 (AA (AM KI (D0 (K8 (K:=K)) (pv 14) (Dm (pv 15)) EI) (D0 (K8 (K:=K)) (pv 14) EI (Dm (pv 15)))) AB)) (Fu (pv 12) (pL K (pv 5) (pv 8)) Fh)))))))
  (AV (An (Bf (AA (Au (Bb (K:=K)) (by rfl) ml BO (AA (pv 1) AB)) (AA (Cy (Fj (K:=K)) (by rfl) mt B6 (AA (pv 7) AB)) (AA (Cy (Fj (K:=K)) (by rfl) mt B6 (AA (pv 12) AB)) AB))))))))))))))
  ,?_⟩
 have tsl:=g.tsl;have two:=g.two;have hln:(hs2 rs).length=2*rs.length+2:=by rw[jc,ET]; simp; omega
 have lc:(((cs.map V.ref).length:Nat):Int)=(rs.length:Int):=by rw[ig,M.rr.1]
 have lb:(((bs.map V.ref).length:Nat):Int)=(ts.length:Int):=by rw[ig,M.bl]
 have mul2:∀x:Int,IX 2 x:=λx=>.inl ⟨by decide,by decide⟩
 refine⟨_,rfl,R,_,rfl,.inl (AQ.of M.r1),?_⟩
 (try dsimp only)
 rw[lc];refine⟨_,rfl,_,rfl,rs.length,c,rfl,by omega,λq1 L1 os c1 H1 s1 nL1 hq1 hL1 po=>?_⟩;refine⟨q1,_,rfl,AI.of hq1,rfl,_,_,rfl,_,_,rfl,rfl,?_⟩;have M1:=M.keep s1;refine⟨_,rfl,T,_,rfl,.inl (AQ.of M1.tm.h1),_,_,rfl,rfl,_,rfl,ts.length-2,c1,by rw[lb]; (try dsimp only); rw[show(ts.length:Int)-2=((ts.length-2:Nat):Int) by omega]; rfl,by omega,λq2 L2 ps c2 H2 s2 nL2 hq2 hL2 pp=>?_⟩;refine⟨q2,_,rfl,AI.of hq2,rfl,_,_,rfl,_,_,rfl,rfl,?_⟩;clear hq1 hq2;refine⟨by exact CA,λla hla=>?_⟩;obtain⟨H3,zg,sa,ea⟩:=nw hla (.AF [.int 0,.int 1]);rw[zg];have hL2a:=sa _ _ hL2;have lps:ps.length=ts.length-2:=by have:=pp.length_eq; rwa [jN] at this
 refine⟨_,rfl,L2,rfl,⟨_,AQ.of hL2a⟩,λacc hacc=>?_⟩;refine CP (GO hL2a) (by rw[ig]; omega) hacc (λj ys σ hp=>ys=(Be (ps.map λx=>x+2)).take j/\∃u,σ=[u]) ⟨rfl,none,rfl⟩ ?_ ?_
 ·rintro j ys σ H7 x H8 hj sm hacc2 ⟨rfl,u,rfl⟩ ⟨rfl,hx⟩ Cc hC;have hj':j<ps.length:=by rw[ig] at hj; exact hj
  rw[iy,ij hj'] at hx;cases hx;refine⟨_,rfl,_,_,rfl,rfl,?_⟩;refine hC _ _ _ (AN.refl _) ⟨?_,_,rfl⟩;have ee:(Be (ps.map λx=>x+2))[j]?=some (.int ((ps[j]:Nat)+2:Int)):=by
   rw[iy,iy,ij hj'];rfl
  rw[DM ee]
 rintro ys σ H4 s4 hacc4 _ ⟨rfl,u,rfl⟩;rw[ig,jf (by rw[ig,ig]; exact i4 _)] at hacc4;refine⟨la,acc,_,_,rfl,rfl,s4 _ _ ea,hacc4,by rw[ig,ig]; exact FQ (by simp; omega),λPl hPl=>?_⟩;have pe:[V.int 0,V.int 1]++Be (ps.map λx=>x+2)=Be (0 :: 1 :: ps.map λx=>x+2):=rfl;rw[pe];have pl:=Z9 pp;rw[show ts.length-2+2=ts.length by omega] at pl;have p0:oA (0 :: 1 :: ps.map λx=>x+2) 0=0:=rfl;have p1:oA (0 :: 1 :: ps.map λx=>x+2) 1=1:=rfl;generalize (0 :: 1 :: ps.map λx=>x+2)=pls at pl p0 p1;have s5:AN H (AJ H4 Pl (.AF (Be pls))):=s1.trans (s2.trans (sa.trans (s4.trans (AZ hPl _))));have eP:(AJ H4 Pl (.AF (Be pls))) Pl=some (.AF (Be pls)):=AU;have eO:(AJ H4 Pl (.AF (Be pls))) L1=some (.AF (Be os)):=AZ hPl _ _ _ (s4 _ _ (sa _ _ (s2 _ _ hL1)));generalize AJ H4 Pl (.AF (Be pls))=H5 at s5 eP eO;clear s4 sa s2 s1 hacc4 hL2a hL2 hL1 ea hPl hacc hla;have M5:=M.keep s5;refine λD hD=>?_
 have sD0:=AZ hD (.dK []);refine⟨_,rfl,_,rfl,_,_,rfl,rfl,mul2 _,_,rfl,_,rfl,_,_,rfl,rfl,mul2 _,_,_,rfl,rfl,?_⟩;refine⟨AU,[(Sum.inl (-2),.int (2*(rs.length:Int))),(Sum.inl (-1),.int (2*(rs.length:Int)+1))],rfl,by show 2<=15; decide,?_⟩;have eN:Ft [] [((Sum.inl (-2):AY),V.int (2*(rs.length:Int))),(Sum.inl (-1),.int (2*(rs.length:Int)+1))]=BB (B4 (A7 rs.length os c2) 0):=by
  show CL (CL (BB []) (Sum.inl (-2):AY) (.int (2*(rs.length:Int)))) (Sum.inl (-1):AY) (.int (2*(rs.length:Int)+1))=_;rw[HI (by simp),HI (by simp)];show BB [(-2,2*(rs.length:Int)),(-1,2*(rs.length:Int)+1)]=BB [(((0:Nat):Int)-2,A7 rs.length os c2 ((0:Nat):Int)),(((1:Nat):Int)-2,A7 rs.length os c2 ((1:Nat):Int))];rw[show((0:Nat):Int)=0 from rfl,show((1:Nat):Int)=1 from rfl,HP,IS];rfl
 rw[eN];have sD:=sD0.up hD (.dK (BB (B4 (A7 rs.length os c2) 0)));have eD:(AJ (AJ H5 D (.dK [])) D (.dK (BB (B4 (A7 rs.length os c2) 0)))) D=some (.dK (BB (B4 (A7 rs.length os c2) 0))):=AU;generalize AJ (AJ H5 D (.dK [])) D (.dK (BB (B4 (A7 rs.length os c2) 0)))=H6 at sD eD;refine⟨by exact Gr,λl0 hl0=>?_⟩;obtain⟨H7,zg,s0,e0⟩:=nw hl0 (.AF [.BD]);rw[zg];have eD0:=s0 _ _ eD;have s60:=sD.trans s0;refine⟨_,rfl,l0,_,_,rfl,rfl,e0,by omega,by omega,by rw[kh]; exact FQ (by omega),λMk hMk=>?_⟩;rw[Vg,show((rs.length:Int)).toNat=rs.length by omega];obtain⟨H8,zg,sM,eM⟩:=nw hMk (.AF (List.replicate rs.length .BD));rw[zg];have eD1:=sM _ _ eD0;have s6:=s60.trans sM;have nDM:D≠Mk:=BW eD0 hMk;have fM:H5 Mk=none:=s60.free hMk;clear s60 s0 e0 eD0 sD eD sD0
 try dsimp only
 try refine Cp ?_
 first | refine Co λUL hUL=>?_ | refine nx_hide λUL hUL=>?_
 refine⟨_,rfl,R,_,rfl,(M5.keep s6).r1,?_⟩;refine Mp (xs:=cs.map V.ref) (λi σ H2=>∃uk ur uf up mv,σ=[some (.ref R),some (.ref T),some (.int (cI c2 i)),some (.int (rs.length:Int)),some (.ref L1),some (.ref Pl),some (.ref D),some (.ref Mk),uk,ur,uf,up,none,none,none,none]/\AN H5 H2/\H2 D=some (.dK (BB (B4 (A7 rs.length os c2) i))) /\
   H2 Mk=some (.AF mv)/\mv.length=rs.length/\∀k,k<i->∃d r,rs[k]?=some r/\mv[oA os k]?=some (.ref d)/\Bg H2 d (Ei pls c2 k r))
  ⟨none,none,none,none,_,rfl,s6,eD1,eM,by rw[mR],λk hk=>by omega⟩ (λi σ H2 _ ⟨_,_,_,_,_,_,s2,_⟩=>(M5.keep s2).r1) ?_ ?_
 ·rintro i x σ H2 p hx ⟨uk,ur,uf,up,mv,rfl,s2,hD2,hM2,lmv,made⟩ hp U0 hU0;obtain⟨d,r,rfl,hd,hr2,hR0⟩:=M5.rr.ref hx;have hi:i<rs.length:=(ip.mp hr2).1;have sp:=AZ hp (.AG [.int i,.ref d]);have hD3:=sp _ _ hD2;have hM3:=sp _ _ hM2;have s3:=s2.trans sp;have made3:∀k,k<i->∃d' r,rs[k]?=some r/\mv[oA os k]?=some (.ref d')/\Bg (AJ H2 p (.AG [.int i,.ref d])) d' (Ei pls c2 k r):=λk hk=>by
   obtain⟨d,r,a1,a2,a3⟩:=made k hk;exact⟨d,r,a1,a2,D3 sp a3⟩
  refine⟨p,_,rfl,AI.of AU,rfl,_,_,rfl,_,_,rfl,rfl,?_⟩;generalize AJ H2 p (.AG [.int i,.ref d])=H3 at s3 hD3 hM3 made3;clear made sp hD2 hM2 s2 hp
  try dsimp only
  try refine Cp ?_
  first | refine Co λU hU=>?_ | refine nx_hide λU hU=>?_
  refine⟨_,rfl,_,_,rfl,rfl,(show(0:Int)<2 by decide),?_⟩;subst hU
  try dsimp only
  try refine Cp ?_
  first | refine Co λU hU=>?_ | refine nx_hide λU hU=>?_
  refine⟨_,rfl,_,_,rfl,rfl,⟨by decide,by decide⟩,?_⟩;subst hU;have szd:∀(L:List (Int×Int)),L.length<=100->(BB L).length<sizeLine:=λL hL=>by rw[ig]; exact Cw (by omega)
  try dsimp only
  try refine Cp ?_
  first | refine Co λU hU=>?_ | refine nx_hide λU hU=>?_
  refine⟨_,rfl,_,rfl,L1,_,_,_,rfl,rfl,AQ.of (s3 _ _ eO),JF po hi,_,_,rfl,rfl,mul2 _,_,rfl,_,_,rfl,rfl,_,rfl,_,rfl,_,_,rfl,rfl,mul2 _,D,_,rfl,D8.k (k:=Sum.inl (2*(i:Int))) hD3 (szd _ (by rw[Sa]; omega)),?_⟩;have v1:2*((oA os i:Nat):Int)+cI c2 i % 2=A7 rs.length os c2 (2*(i:Int)+2):=(HM i).symm;have v2:2*((oA os i:Nat):Int)+1-cI c2 i % 2=A7 rs.length os c2 (2*(i:Int)+3):=(HR i).symm
  (try dsimp only)
  rw[v1,HI (bI _ i)];have s4:=s3.up hD (.dK (BB (B4 (A7 rs.length os c2) i++[(2*(i:Int),A7 rs.length os c2 (2*(i:Int)+2))])));have hD4:(AJ H3 D (.dK (BB (B4 (A7 rs.length os c2) i++[(2*(i:Int),A7 rs.length os c2 (2*(i:Int)+2))])))) D=some (.dK (BB (B4 (A7 rs.length os c2) i++[(2*(i:Int),A7 rs.length os c2 (2*(i:Int)+2))]))):=AU;have hM4:(AJ H3 D (.dK (BB (B4 (A7 rs.length os c2) i++[(2*(i:Int),A7 rs.length os c2 (2*(i:Int)+2))])))) Mk=some (.AF mv):=by rw[Ad (kC nDM)]; exact hM3
  have made4:∀k,k<i->∃d' r,rs[k]?=some r/\mv[oA os k]?=some (.ref d')/\Bg (AJ H3 D (.dK (BB (B4 (A7 rs.length os c2) i++[(2*(i:Int),A7 rs.length os c2 (2*(i:Int)+2))])))) d' (Ei pls c2 k r):=λk hk=>by
   obtain⟨d,r,a1,a2,a3⟩:=made3 k hk;exact⟨d,r,a1,a2,LL hD3 (λys z=>by cases z) a3⟩
  generalize AJ H3 D (.dK (BB (B4 (A7 rs.length os c2) i++[(2*(i:Int),A7 rs.length os c2 (2*(i:Int)+2))])))=H4 at s4 hD4 hM4 made4;clear made3 s3 hD3 hM3;subst hU
  try dsimp only
  try refine Cp ?_
  first | refine Co λU hU=>?_ | refine nx_hide λU hU=>?_
  refine⟨_,rfl,_,rfl,L1,_,_,_,rfl,rfl,AQ.of (s4 _ _ eO),JF po hi,_,_,rfl,rfl,mul2 _,_,_,rfl,rfl,_,rfl,_,_,rfl,rfl,_,rfl,_,rfl,_,_,rfl,rfl,mul2 _,_,_,rfl,rfl,D,_,rfl,D8.k (k:=Sum.inl (2*(i:Int)+1)) hD4 (szd _ (by rw[jc,Sa,kh]; omega)),?_⟩
  (try dsimp only)
  rw[v2,HI (ae _ i _),<-Yj];have s5':=s4.up hD (.dK (BB (B4 (A7 rs.length os c2) (i+1))));have hD5:(AJ H4 D (.dK (BB (B4 (A7 rs.length os c2) (i+1))))) D=some (.dK (BB (B4 (A7 rs.length os c2) (i+1)))):=AU;have hM5:(AJ H4 D (.dK (BB (B4 (A7 rs.length os c2) (i+1))))) Mk=some (.AF mv):=by rw[Ad (kC nDM)]; exact hM4
  have made5:∀k,k<i->∃d' r,rs[k]?=some r/\mv[oA os k]?=some (.ref d')/\Bg (AJ H4 D (.dK (BB (B4 (A7 rs.length os c2) (i+1))))) d' (Ei pls c2 k r):=λk hk=>by
   obtain⟨d,r,a1,a2,a3⟩:=made4 k hk;exact⟨d,r,a1,a2,LL hD4 (λys z=>by cases z) a3⟩
  generalize AJ H4 D (.dK (BB (B4 (A7 rs.length os c2) (i+1))))=H5' at s5' hD5 hM5 made5;clear made4 s4 hD4 hM4;subst hU;obtain⟨e,hd1,hd2⟩:=id hR0;obtain⟨g1,g2⟩:=HH hr2;have r1:r.1<ts.length:=VI g (j:=2*i+2) (by show(0 :: 1 :: CF rs)[2*i+1+1]?=_; rw[j8,j8]; exact g1);have r2:r.2.1<ts.length:=VI g (j:=2*i+3) (by show(0 :: 1 :: CF rs)[2*i+1+1+1]?=_; rw[j8,j8]; exact g2)
  try dsimp only
  try refine Cp ?_
  first | refine Co λU hU=>?_ | refine nx_hide λU hU=>?_
  refine⟨_,rfl,_,rfl,d,_,_,_,rfl,rfl,AI.of (s5' _ _ hd1),Hm _ _ _,Pl,_,_,_,rfl,rfl,AQ.of (s5' _ _ eP),JF pl r1,_,rfl,_,rfl,d,_,_,_,rfl,rfl,AI.of (s5' _ _ hd1),EA _ _ _,Pl,_,_,_,rfl,rfl,AQ.of (s5' _ _ eP),JF pl r2,by exact CA,λpr hpr=>?_⟩;obtain⟨H6',zg,s6',hp6⟩:=nw hpr (.AF [.int ((oA pls r.1:Nat):Int),.int ((oA pls r.2.1:Nat):Int)]);rw[zg];subst hU;obtain⟨f1',f2'⟩:=Z6 (oA pls r.1) (oA pls r.2.1) (CU c2 i);have s56:=s5'.trans s6';refine⟨_,rfl,_,rfl,pr,_,_,_,rfl,rfl,AQ.of hp6,f1',_,rfl,_,rfl,_,_,rfl,rfl,pr,_,_,_,rfl,rfl,AQ.of hp6,f2',_,rfl,d,_,_,_,rfl,rfl,AI.of (s56 _ _ hd1),C1 _ _ _,by exact FX,λnp hnp=>?_⟩;have s7:=AZ hnp (.AG [.int ((if cI c2 i % 2=0 then oA pls r.1 else oA pls r.2.1:Nat):Int),.int ((if cI c2 i % 2=0 then oA pls r.2.1 else oA pls r.1:Nat):Int),.ref e]);have hn7:Bg (AJ H6' np (.AG [.int ((if cI c2 i % 2=0 then oA pls r.1 else oA pls r.2.1:Nat):Int),.int ((if cI c2 i % 2=0 then oA pls r.2.1 else oA pls r.1:Nat):Int),.ref e])) np (Ei pls c2 i r):=by
   rw[cS];exact⟨e,AU,As (s56.trans s7) hd2⟩
  have s67:=s6'.trans s7;have hM7:=s67 _ _ hM5;have hD7:=s67 _ _ hD5;have s57:=s5'.trans s67;generalize AJ H6' np (.AG [.int ((if cI c2 i % 2=0 then oA pls r.1 else oA pls r.2.1:Nat):Int),.int ((if cI c2 i % 2=0 then oA pls r.2.1 else oA pls r.1:Nat):Int),.ref e])=H7' at s7 hn7 s67 hM7 hD7 s57;have oi:=(DH po hi).2;refine⟨_,rfl,_,rfl,_,rfl,L1,_,_,_,rfl,rfl,AQ.of (s57 _ _ eO),JF po hi,Mk,_,_,oA os i,rfl,rfl,hM7,by rw[lmv]; exact Jx oi,?_⟩;refine hU0 _ _ ⟨_,_,_,_,mv.set (oA os i) (.ref np),rfl,s57.up fM _,by rw[Ad nDM]; exact hD7,AU,by rw[k9]; exact lmv,λk hk=>?_⟩;rcases jv k i with hlt | hge
  ·obtain⟨d',r',a1,a2,a3⟩:=made5 k hlt;refine⟨d',r',a1,?_,LL hM7 (λys z=>by cases z) (D3 s67 a3)⟩;rw[jF (λz=>by have:=JJ po hi (by omega) z; omega)];exact a2
  ·obtain rfl:k=i:=by omega
   exact⟨np,r,hr2,by rw[jR (by rw[lmv]; exact oi)],LL hM7 (λys z=>by cases z) hn7⟩
 rintro σ H9 ⟨uk,ur,uf,up,mv,rfl,s9,hD9,hM9,lmv,made⟩;subst hUL;rw[ig,M.rr.1] at hD9 made;have cl:(cs.map V.ref).length=rs.length:=by rw[ig,M.rr.1]
 rw[cl];have s09:=s5.trans s9;have M9:=M.keep s09;refine⟨by exact Gq,λt0 ht0=>⟨by exact Gr,λl1 hl1=>?_⟩⟩;have sa:=(AZ ht0 (.AG [])).trans (AZ hl1 (.AF [.ref t0]));have ea:(AJ (AJ H9 t0 (.AG [])) l1 (.AF [.ref t0])) l1=some (.AF [.ref t0]):=AU;generalize AJ (AJ H9 t0 (.AG [])) l1 (.AF [.ref t0])=Ha at sa ea;refine⟨_,rfl,T,_,rfl,.inl (AQ.of (M9.keep sa).tm.h1),l1,_,_,rfl,rfl,ea,by rw[lb]; omega,by rw[lb]; omega,by rw[lb,kh]; exact FQ (by omega),λRw hRw=>?_⟩;rw[Vg,lb,show((ts.length:Int)).toNat=ts.length by omega];have sb:=sa.trans (AZ hRw (.AF (List.replicate ts.length (.ref t0))));have eb:(AJ Ha Rw (.AF (List.replicate ts.length (.ref t0)))) Rw=some (.AF (List.replicate ts.length (.ref t0))):=AU;have fR:H9 Rw=none:=sa.free hRw;generalize AJ Ha Rw (.AF (List.replicate ts.length (.ref t0)))=Hb at sb eb;clear sa ea
 try dsimp only
 try refine Cp ?_
 first | refine Co λUL hUL=>?_ | refine nx_hide λUL hUL=>?_
 refine⟨_,rfl,T,_,rfl,(M9.keep sb).tm.h1,?_⟩;have eO9:=s9 _ _ eO;have eP9:=s9 _ _ eP;refine Mp (xs:=bs.map V.ref) (λi σ H2=>∃cc uk ut uh uc rv,σ=[some (.ref R),some (.ref T),some (.int cc),some (.int (rs.length:Int)),some (.ref L1),some (.ref Pl),some (.ref D),some (.ref Mk),uk,ur,uf,up,some (.ref Rw),ut,uh,uc]/\AN H9 H2 /\
   H2 Rw=some (.AF rv)/\rv.length=ts.length/\∀k,k<i->∃d u t,ts[k]?=some t/\rv[oA pls k]?=some (.ref d)/\Ba H2 d u/\Cv (t.map (A7 rs.length os c2)) u)
  ⟨_,_,none,none,none,_,rfl,sb,eb,by rw[mR],λk hk=>by omega⟩ (λi σ H2 _ ⟨_,_,_,_,_,_,_,s2,_⟩=>(M9.keep s2).tm.h1) ?_ ?_
 ·rintro i x σ H2 p hx ⟨cc,uk',ut,uh,uc,rv,rfl,s2,hR2,lrv,rows⟩ hp U0 hU0;obtain⟨b,t',rfl,hb,ht',hB0⟩:=M9.tm.rows.ref hx;obtain⟨t,ht,rfl⟩:=UE ht';have hi:i<ts.length:=(ip.mp ht).1;have tl:=NY g ht;have sp:=AZ hp (.AG [.int i,.ref b]);have hR3:=sp _ _ hR2;have s3:=s2.trans sp;refine⟨p,_,rfl,AI.of AU,rfl,_,_,rfl,_,_,rfl,rfl,?_⟩;have rows3:∀k,k<i->∃d u t,ts[k]?=some t/\rv[oA pls k]?=some (.ref d)/\Ba (AJ H2 p (.AG [.int i,.ref b])) d u/\Cv (t.map (A7 rs.length os c2)) u:=λk hk=>by
   obtain⟨d,u,t,a1,a2,a3,a4⟩:=rows k hk;exact⟨d,u,t,a1,a2,C4 sp a3,a4⟩
  generalize AJ H2 p (.AG [.int i,.ref b])=H3 at s3 hR3 rows3;clear rows sp hR2 s2 hp;have hB:H3 b=some (.AF ((t.map λx=>x-2).map V.int)):=s3 _ _ hB0
  try dsimp only
  try refine Cp ?_
  first | refine Co λU hU=>?_ | refine nx_hide λU hU=>?_
  refine⟨_,rfl,b,rfl,⟨_,AQ.of hB⟩,λacc hacc=>?_⟩;refine CP (GO hB) (by rw[ig,ig]; omega) hacc (λj ys σ hp=>ys=((t.map (A7 rs.length os c2)).take j).map V.int/\∃u,σ=[u,some (.ref D)]) ⟨rfl,none,rfl⟩ ?_ ?_
  ·rintro j ys σ H7 x H8 hj sm hacc2 ⟨rfl,u,rfl⟩ ⟨rfl,hx⟩ Cc hC;obtain⟨e,rfl,he⟩:=GS hx;rw[iy] at he;cases ey:t[j]? with
   | none=>rw[ey] at he; cases he
   | some y =>
    rw[ey] at he;cases he;have yR:AD (2*rs.length+2) y:=by
     have:=(g.mem y).mp (jn.mpr ⟨t,iq ht,iq ey⟩)
     rwa [hln] at this
    refine⟨_,rfl,_,rfl,D,_,rfl,IE (sm _ _ (s3 _ _ hD9)) (aL _ yR),?_⟩;refine hC _ _ _ (AN.refl _) ⟨?_,_,rfl⟩;have ee:(t.map (A7 rs.length os c2))[j]?=some (A7 rs.length os c2 y):=by rw[iy,ey]; rfl
    rw[DM ee,ji];rfl
  rintro ys σ H4 s4 hacc4 _ ⟨rfl,u,rfl⟩;subst hU;rw[ig,ig,jf (by rw[ig]; exact i4 _)] at hacc4;have tn:=g.ne t (iq ht);have tp:0<t.length:=oG.mpr tn;have lr:((((t.map (A7 rs.length os c2)).map V.int).length:Nat):Int)=(t.length:Int):=by rw[ig,ig]
  try dsimp only
  try refine Cp ?_
  first | refine Co λU hU=>?_ | refine nx_hide λU hU=>?_
  refine⟨_,rfl,_,rfl,acc,_,rfl,.inl (AQ.of hacc4),_,_,rfl,rfl,by rw[lr]; omega,?_⟩;subst hU
  try dsimp only
  try refine Cp ?_
  first | refine Co λU hU=>?_ | refine nx_hide λU hU=>?_
  refine⟨_,rfl,_,rfl,acc,_,rfl,.inl (AQ.of hacc4),_,_,rfl,rfl,⟨by rw[lr]; omega,by rw[lr]; show(t.length:Int)<1073741824; omega⟩,?_⟩;subst hU
  (try dsimp only)
  rw[lr];have tp':(0:Int)<(t.length:Int):=by omega
  have d0:=j9 cc (lB tp');have d1:=ke cc tp';obtain⟨j,hj⟩:∃j:Nat,cc % (t.length:Int)=(j:Int):=⟨(cc % (t.length:Int)).toNat,by omega⟩;rw[hj] at d1 ⊢;have jl:j<=((t.map (A7 rs.length os c2)).map V.int).length:=by rw[ig,ig]; omega
  refine⟨_,rfl,_,rfl,_,rfl,acc,_,rfl,AQ.of hacc4,λp1 hp1=>?_⟩;rw[Hy _ jl];obtain⟨H5a,zg,s5a,e5⟩:=nw hp1 (.AF (((t.map (A7 rs.length os c2)).map V.int).drop j));rw[zg];refine⟨_,rfl,_,rfl,_,rfl,acc,_,rfl,AQ.of (s5a _ _ hacc4),λp2 hp2=>?_⟩;rw[Jr _ jl];obtain⟨H6a,zg,s6a,e6⟩:=nw hp2 (.AF (((t.map (A7 rs.length os c2)).map V.int).take j));rw[zg];refine⟨p1,p2,_,_,rfl,rfl,s6a _ _ e5,e6,by rw[jO,jT,ig,ig]; exact FQ (by omega),λp3 hp3=>?_⟩;rw[<-List.map_drop,<-List.map_take,<-List.map_append];have rot:Cv (t.map (A7 rs.length os c2)) ((t.map (A7 rs.length os c2)).drop j++(t.map (A7 rs.length os c2)).take j):=⟨_,_,(kq j _).symm,rfl⟩;generalize (t.map (A7 rs.length os c2)).drop j++(t.map (A7 rs.length os c2)).take j=un at rot;obtain⟨H7a,zg,s7a,e7⟩:=nw hp3 (.AF (un.map V.int));rw[zg];refine⟨p3,_,rfl,.inl ⟨AQ.of e7,λp4 hp4=>?_⟩⟩;have s8a:=AZ hp4 (.AG (un.map V.int));have e8:Ba (AJ H7a p4 (.AG (un.map V.int))) p4 un:=AU;have s48:=s4.trans (s5a.trans (s6a.trans (s7a.trans s8a)));generalize AJ H7a p4 (.AG (un.map V.int))=H8a at s8a e8 s48;have s38:=s3.trans s48;have hR8:=s48 _ _ hR3;have pi:=(DH pl hi).2;refine⟨_,rfl,_,rfl,_,rfl,Pl,_,_,_,rfl,rfl,AQ.of (s38 _ _ eP9),JF pl hi,Rw,_,_,oA pls i,rfl,rfl,hR8,by rw[lrv]; exact Jx pi,?_⟩;have ukeep:∀{d:Addr} {u:List Int},Ba H8a d u->Ba (AJ H8a Rw (.AF (rv.set (oA pls i) (.ref p4)))) d u:=λ{d u} h=>by
   unfold Ba at h ⊢;rw[Ad (λz=>by rw[z,hR8] at h; cases h)]; exact h
  refine hU0 _ _ ⟨_,_,_,_,_,rv.set (oA pls i) (.ref p4),rfl,s38.up fR _,AU,by rw[k9]; exact lrv,λk hk=>?_⟩;rcases jv k i with hlt | hge
  ·obtain⟨d',u',t',a1,a2,a3,a4⟩:=rows3 k hlt;refine⟨d',u',t',a1,?_,ukeep (C4 s48 a3),a4⟩;rw[jF (λz=>by have:=JJ pl hi (by omega) z; omega)];exact a2
  ·obtain rfl:k=i:=by omega
   exact⟨p4,un,t,ht,by rw[jR (by rw[lrv]; exact pi)],ukeep e8,rot⟩
 rintro σ Hz ⟨cc,uk',ut,uh,uc,rv,rfl,sz,hRz,lrv,rows⟩;subst hUL;rw[ig,M.bl] at rows;obtain⟨ds,rs',rfl,hds,hrs⟩:=Og (R:=Bg) (H:=Hz) (mv:=mv) (Pq:=λq r'=>∃k r,k<rs.length/\oA os k=q/\rs[k]?=some r/\r'=Ei pls c2 k r) (λqq hq=>by
  obtain⟨k,hk,ek⟩:=Lp po (q:=qq) (by omega);obtain⟨d,r,a1,a2,a3⟩:=made k hk;rw[ek] at a2;exact⟨d,_,a2,D3 sz a3,k,r,hk,ek,a1,rfl⟩)
 obtain⟨es,us,rfl,hes,hus⟩:=Og (R:=Ba) (H:=Hz) (mv:=rv) (Pq:=λq u=>∃k t,k<ts.length/\oA pls k=q/\ts[k]?=some t/\Cv (t.map (A7 rs.length os c2)) u) (λqq hq=>by
  obtain⟨k,hk,ek⟩:=Lp pl (q:=qq) (by omega);obtain⟨d,u,t,a1,a2,a3,a4⟩:=rows k hk;rw[ek] at a2;exact⟨d,_,a2,a3,k,t,hk,ek,a1,a4⟩)
 rw[ig] at lmv lrv;have lrs:rs'.length=rs.length:=by rw[<-hds.1]; exact lmv
 have lus:us.length=ts.length:=by rw[<-hes.1]; exact lrv
 have N:BP ts.length rs' us/\MY us rs.length:=by
  refine cX (m:=rs.length) (π:=oA pls) (ρ:=A7 rs.length os c2) g hln h14 lrs lus (cV two po pl p0 p1) (λp t ht=>?_) (cA rfl lrs po p0 p1 λk r hk=>?_) (λr' hr'=>?_)
  ·have hp:=(ip.mp ht).1;have pi:=(DH pl hp).2;have hu1:us[oA pls p]?=some us[oA pls p]:=ij (by omega);obtain⟨k,t',a1,a2,a3,a4⟩:=hus _ _ hu1
   have:=JJ pl a1 hp a2
   subst this;rw[ht] at a3;cases a3;exact⟨_,hu1,a4⟩
  ·have hk':=(ip.mp hk).1;have oi:=(DH po hk').2;have hu1:rs'[oA os k]?=some rs'[oA os k]:=ij (by omega);obtain⟨k',r',a1,a2,a3,a4⟩:=hrs _ _ hu1
   have:=JJ po a1 hk' a2
   subst this;rw[hk] at a3;cases a3;rw[hu1,a4]
  ·obtain⟨j,hj,ej⟩:=ju hr';obtain⟨k,r,a1,a2,a3,a4⟩:=hrs j r' (by rw[ij hj,ej])
   have:=ekr r (iq a3)
   rw[a4];unfold Ei;split <;> exact this
 have s0z:=s09.trans sz;refine⟨_,rfl,T,_,rfl,.inl (AQ.of (M.keep s0z).tm.h1),_,rfl,Mk,_,rfl,.inl ⟨AQ.of (sz _ _ hM9),λp1' hp1=>?_⟩⟩;obtain⟨H7,zg,s7,e7⟩:=nw hp1 (.AG (ds.map V.ref));rw[zg];have hR7:=s7 _ _ hRz;refine⟨_,rfl,Rw,_,rfl,.inl ⟨AQ.of hR7,λp2 hp2=>?_⟩⟩;obtain⟨H8,zg,s8,e8⟩:=nw hp2 (.AG (es.map V.ref));rw[zg];refine⟨by exact FX,λp hp=>?_⟩;rw[lb];have s9':=AZ hp (.AG [.int (ts.length:Int),.ref p1',.ref p2]);have s79:=s7.trans (s8.trans s9');exact q p p1' p2 ts.length rs' us _ (s0z.trans s79) AU ⟨ds,s9' _ _ (s8 _ _ e7),hds.keep D3 s79⟩ ⟨es,s9' _ _ e8,hes.keep C4 s79⟩ N.1 (by rw[lrs]; exact N.2)
theorem Yd:Gn [[2,0],[3,1]] [0,1,0,1]:=by
 have nd:([[2,0],[3,1]]:List (List Int)).flatten.Nodup:=by decide
 refine⟨by decide,by decide,by decide,nd,λx=>?_,λp t hp x hx=>?_,by decide,by decide,⟨rfl,rfl⟩,λS S0 hS p hp=>?_,ZJ [[2,0],[3,1]] rfl (by decide) (by decide) (by decide) (by decide),YW rfl⟩
 ·simp only[jx,oj,kg,i9,jh,jP,kN,AD,jD,lC];omega
 ·match p,hp with
  | 0,hp=>cases hp; simp at hx; rcases hx with rfl | rfl <;> rfl
  | 1,hp=>cases hp; simp at hx; rcases hx with rfl | rfl <;> rfl
 ·have:=hS 1 (by decide) 0 1 rfl rfl
  match p,hp with
  | 0,_=>exact S0
  | 1,_=>exact this.mp S0
theorem CN.Kc{H H':Hp}{R T a:Addr}{cs bs:List Addr}{ts:List (List Int)}{rs:List AO}{ys:List V}(M:CN H R T cs bs ts rs)(ha:H a=some (.AF ys))(n:a∉T :: R :: bs)(s:Bs a H H'):CN H' R T cs bs ts rs:=by
 have nt:∀{c:Addr} {zs:List V},H c=some (.AG zs)->H' c=some (.AG zs):=λ{c zs} h=>s _ _ (λz=>by rw[z,ha] at h; cases h) h
 refine⟨⟨s _ _ (λz=>n (by simp[z])) M.tm.h1,⟨M.tm.rows.1,λi b x e1 e2=>s _ _ (λz=>n (by rw[<-z]; exact jB _ (jB _ (iq e1)))) (M.tm.rows.2 i b x e1 e2)⟩,M.tm.nd⟩,s _ _ (λz=>n (by simp[z])) M.r1,⟨M.rr.1,λi b x e1 e2=>?_⟩,M.rn⟩;obtain⟨e,h1,h2⟩:=M.rr.2 i b x e1 e2;exact⟨e,nt h1,nt h2⟩
inductive Rk(vs:List V)(H:Hp)(Q:VK):Prop
 | mk (a:Addr) (ns:List Int) (mo gr:Int) (h_0:vs=[.ref a,.int mo,.int gr]) (h_1:H a=some (.AF (ns.map V.int))) (h_2:(∀x∈ns,0<=x)) (h_3:ns.length<=200) (h_4:1<=mo) (h_5:mo<=7) (h_6:0<gr) (h_7:gr<1000) (h_8:∀p ra ta n rs us H',Bs a H H'->H' p=some (.AG [.int ((n:Nat):Int),.ref ra,.ref ta])->A4 Bg H' ra rs->A4 Ba H' ta us->BP n rs us->MY us rs.length->Q (.ref p) H'):Rk vs H Q
def R3:Sp:=λvs H Q _=>Rk vs H Q
theorem JY:A2 ["_law_numbers_here","_law_most","_law_great","_law_many","_law_last","_law_ropes","_law_turns","_law_c"] ["_law_numbers_here","_law_most","_law_great"] (Ap s_law_grown):=A8
set_option maxHeartbeats 1000000 in
seal L2.DF L2.PS L2.PE L2.PA in
theorem Zh (F:Ar K "_law_grown" "_law_grown" s_law_grown f fd) (G1:Al P w K mg base 1 "_law_next" ["_law_numbers_here"] Pe)
  (G2:Al P w K mg base 3 "_law_ease" ["_law_c","_law_most"] Sx)
  (G3:Al P w K mg base 2 "_law_grow" ["_law_ropes","_law_turns","_law_c","_law_ease_here"] Tz)
  (G4:Al P w K mg base 2 "_law_finished" ["_law_ropes","_law_turns","_law_c"] Ux) (ml:mg "len" = none) :
  Ao P w K mg base Ay 4 f fd ["_law_numbers_here","_law_most","_law_great"] R3:=by
 refine F.A9 JY λcdv A outer s H vs Q E hr h=>?_
 obtain⟨a,ns,mo,gr,rfl,ha,hp,hl,mo1,mo14,gr0,gr1,q⟩:=h;have r1:=hr.mono (show 1<=3 by decide);have r2:=hr.mono (show 2<=3 by decide);refine⟨_,AR (AX (i:=3) JY.nd rfl (Or.inl rfl) (AM Bc AE (AM CH (Aa G1 r1 (AA (pv 0) AB)) (pv 1))))
  (AR (AX (i:=4) JY.nd rfl (Or.inl rfl) (Aa G1 r1 (AA (pv 0) AB)))
  (AR (AX (i:=5) JY.nd rfl (Or.inl rfl) (Cd (AA (Bf (AA AE (AA AE (AA (Aa G2 hr (AA (Aa G1 r1 (AA (pv 0) AB)) (AA (pv 2) AB))) AB)))) AB)))
  (AR (AX (i:=6) JY.nd rfl (Or.inl rfl) (Cd (AA (Cd (AA AE (AA (Ga GX AE) AB))) (AA (Cd (AA AE (AA (Ga GX AE) AB))) AB))))
  (AR (Hx jt (BN L7 (Au (Bb (K:=K)) (by rfl) ml BO (AA (pv 5) AB)) (pv 3) (BH _))
   (AR (AX (i:=7) JY.nd rfl (Or.inl rfl) (Aa G1 r1 (AA (pv 0) AB)))
   (AV (DN (Aa G3 r2 (AA (pv 5) (AA (pv 6) (AA (pv 7) (AA (Aa G2 hr (AA (Aa G1 r1 (AA (pv 0) AB)) (AA (pv 2) AB))) AB)))))))))
  (AV (An (Aa G4 r2 (AA (pv 5) (AA (pv 6) (AA (pv 4) AB)))))))))),?_⟩
 refine⟨_,rfl,a,ns,rfl,ha,hp,hl,λz ns1 H1 s1 ha1 hp1 hl1 z0=>?_⟩;refine⟨_,rfl,_,_,rfl,rfl,by omega,_,_,rfl,rfl,?_⟩
 (try dsimp only)
 have y0:=j9 z (show mo≠0 by omega);have y1:=ke z (show 0<mo by omega);generalize hmy:1+z % mo=my;have my1:1<=my:=by omega
 have my14:my<=7:=by omega
 refine⟨_,rfl,a,ns1,rfl,ha1,hp1,hl1,λc ns2 H2 s2 ha2 hp2 hl2 c0=>?_⟩;refine⟨_,rfl,a,ns2,rfl,ha2,hp2,hl2,λz3 ns3 H3 s3 ha3 hp3 hl3 z30=>?_⟩;refine⟨_,rfl,z3,gr,rfl,gr0,gr1,λe H4 qe s4 he ek=>?_⟩;have s14:Bs a H H4:=s1.trans (s2.trans (s3.trans s4.b));have ha4:=s4 _ _ ha3;refine⟨by exact FX,λtp htp=>⟨by exact Gr,λR hR=>?_⟩⟩;obtain⟨H5,zg,s5,e5⟩:=nw htp (.AG [.int 0,.int 1,.ref e]);rw[zg] at hR ⊢;obtain⟨H6,zg,s6,e6⟩:=nw hR (.AF [.ref tp]);rw[zg];refine⟨_,rfl,by exact CA,λl1 h1=>⟨_,rfl,by exact CA,λl2 h2=>⟨by exact CA,λT hT=>?_⟩⟩⟩;obtain⟨H7,zg,s7,e7⟩:=nw h1 (.AF [.int 0,.int (-2)]);rw[zg] at h2 hT ⊢;obtain⟨H8,zg,s8,e8⟩:=nw h2 (.AF [.int 1,.int (-1)]);rw[zg] at hT ⊢;obtain⟨H9,zg,s9,e9⟩:=nw hT (.AF [.ref l1,.ref l2]);rw[zg];have s46:=s5.trans s6;have s47:=s46.trans s7;have s48:=s47.trans s8;have s49:=s48.trans s9;have n12:l1≠l2:=BW e7 h2;have n1T:l1≠T:=BW (s8 _ _ e7) hT;have n2T:l2≠T:=BW e8 hT;have nR1:R≠l1:=BW e6 h1;have nR2:R≠l2:=BW (s7 _ _ e6) h2;have nRT:R≠T:=BW (s8 _ _ (s7 _ _ e6)) hT;have M0:CN H9 R T [tp] [l1,l2] [[2,0],[3,1]] [(0,1,qe)]:=by
  refine⟨⟨e9,⟨rfl,λi b x e1 e2=>?_⟩,?_⟩,s9 _ _ (s8 _ _ (s7 _ _ e6)),⟨rfl,λi b x e1 e2=>?_⟩,?_⟩
  ·match i,e1,e2 with
   | 0,e1,e2=>cases e1; cases e2; exact s9 _ _ (s8 _ _ e7)
   | 1,e1,e2=>cases e1; cases e2; exact s9 _ _ e8
  ·simp[n12,kC n1T,kC n2T]
  ·match i,e1,e2 with
   | 0,e1,e2=>cases e1; cases e2; exact⟨e,(s6.trans (s7.trans (s8.trans s9))) _ _ e5,As s49 he⟩
  ·simp[nRT,nR1,nR2]
 have ne4:∀{x:Addr},H4 x=none->H x=none/\x≠a:=λ{x} hx=>by
  have nx:x≠a:=λz=>by rw[z,ha4] at hx; cases hx
  refine⟨?_,nx⟩;cases eo:H x with
  | none=>rfl
  | some o =>
   have:=s14 x o nx eo
   rw[this] at hx; cases hx
 have fr0:∀b∈T :: R :: [l1,l2],H b=none/\b≠a:=by
  intro b hb;simp at hb;rcases hb with rfl | rfl | rfl | rfl
  ·exact ne4 (s48.free hT)
  ·exact ne4 (s5.free hR)
  ·exact ne4 (s46.free h1)
  ·exact ne4 (s47.free h2)
 refine Hv (λσ H2=>∃uc ns cs bs ts rs,σ=[some (.ref a),some (.int mo),some (.int gr),some (.int my),some (.int c),some (.ref R),some (.ref T),uc]/\Bs a H H2/\H2 a=some (.AF ((ns:List Int).map V.int))/\(∀x∈ns,0<=x)/\ns.length<=200/\(∀b∈T :: R :: bs,H b=none/\b≠a)/\CN H2 R T cs bs ts rs/\Gn ts (hs2 rs)/\(rs.length:Int)<=my/\(∀r∈rs,Eo r.2.2))
  (λ_ H2=>match H2 R with | some (.AF xs)=>my.toNat-xs.length | _=>0) ⟨none,ns3,[tp],[l1,l2],[[2,0],[3,1]],[(0,1,qe)],rfl,s14.trans s49.b,s49 _ _ ha4,hp3,hl3,fr0,M0,Yd,by show(1:Int)<=my; omega,λr hr=>by rw[jA.mp hr]; exact ek⟩ ?_ ?_
 ·rintro σ Hc ⟨uc,nc,cs,bs,ts,rs,rfl,sc,hac,hpc,hlc,fr,M,gg,lm,ek⟩;have lc:(((cs.map V.ref).length:Nat):Int)=(rs.length:Int):=by rw[ig,M.rr.1]
  refine⟨_,rfl,R,_,rfl,.inl (AQ.of M.r1),_,rfl,_,_,rfl,rfl,_,rfl,?_⟩;rw[lc];have na:a∉T :: R :: bs:=λz=>(fr a z).2 rfl
  by_cases hlt:(rs.length:Int)<my
  ·refine De hlt ?_;refine⟨_,rfl,a,nc,rfl,hac,hpc,hlc,λc1 n1 Hd sd had hpd hld c10=>?_⟩;have Md:=M.Kc hac na sd;refine⟨_,rfl,_,rfl,_,rfl,_,rfl,a,n1,rfl,had,hpd,hld,λc2 n2 He se hae hpe hle c20=>?_⟩;have Me:=Md.Kc had na se;refine⟨_,rfl,c2,gr,rfl,gr0,gr1,λe2 Hf q2 sf hf ekf=>?_⟩;have Mf:=Me.keep sf;refine⟨R,T,e2,cs,bs,ts,rs,c1,q2,rfl,Mf,gg,by omega,c10,hf,ekf,ek,λHg cs' bs' ts' rs' Fg fb Mg g' l' ek'=>?_⟩;have scf:Bs a H Hf:=sc.trans (sd.trans (se.trans sf.b));have haf:=sf _ _ hae;refine⟨⟨_,n2,cs',bs',ts',rs',rfl,λb o nb e=>Fg b o (λhb=>by
     have hb':b∈T :: R :: bs:=hb;rw[(fr b hb').1] at e; cases e) (scf b o nb e),Fg _ _ (λhb=>na hb) haf,hpe,hle,λb hb=>?_,Mg,g',by omega,ek'⟩,?_⟩
   ·rcases jh.mp hb with w | w
    ·exact fr b (by simp[w])
    ·rcases jh.mp w with w | w
     ·exact fr b (by simp[w])
     ·rcases fb b w with y | y
      ·exact fr b (by simp[y])
      ·have nb:b≠a:=λz=>by rw[z,haf] at y; cases y
       refine⟨?_,nb⟩;cases eo:H b with
       | none=>rfl
       | some o=>rw[scf b o nb eo] at y; cases y
   ·rw[Mg.r1,M.r1];show my.toNat-(cs'.map V.ref).length<my.toNat-(cs.map V.ref).length;rw[ig,ig,Mg.rr.1,M.rr.1];omega
  ·refine DP hlt ?_;refine⟨_,rfl,_,rfl,_,rfl,R,T,cs,bs,ts,rs,c,rfl,M,gg,by omega,ek,λp ra ta n rs' us H' s' hp' hR' hT' N D=>?_⟩;exact q p ra ta n rs' us H' (sc.trans s'.b) hp' hR' hT' N D
 ·rintro σ H2 Q1 Q2 hq ⟨v,e,p,ys,e1,e2,v',e',i,j,e3,e4,b,eb,z⟩;exact⟨v,e,p,ys,e1,e2,v',e',i,j,e3,e4,b,eb,hq _ _ z⟩
theorem X9 {J:It} {n:Nat} {H1:Hp} {f:Nat->Hp->V->Hp->Prop} {acc:Addr} {σ0:St} {g:TG} {tt:TT} {te:TE} {G:Hp->Prop} (r:Jk J H1 n f) (hn:n<=1000) (hacc:H1 acc=none) (Iv:Nat->List V->St->Hp->Prop) (h0:Iv 0 [] σ0 H1)
  (hs:∀(i:Nat) (ys:List V) (σ:St) (H2:Hp) (x:V) (H3:Hp),i<n->AN H1 H2->H2 acc=some (.AF ys)->Iv i ys σ (BQ H2 acc)->f i H2 x H3->∀(C:St->VK) (N:St->Hp->Prop),(∀(σ4:St) (v:V) (H5:Hp),AN H2 H5->Iv (i+1) (ys++[v]) σ4 (BQ H5 acc)->C σ4 v H5)->(∀(σ4:St) (H5:Hp),AN H2 H5->Iv (i+1) ys σ4 (BQ H5 acc)->N σ4 H5) →
   g x σ H3 λσ4 H4=>tt σ4 H4 λok H5=>if ok=true then te σ4 H5 (C σ4) else N σ4 H5)
  (fin:∀(ys:List V) (σ:St) (H2:Hp),AN H1 H2->H2 acc=some (.AF ys)->Iv n ys σ (BQ H2 acc)->G H2) :
  ∃W:Nat->Nat->List V->St->Hp->Prop,(∃m,W 0 m [] σ0 (AJ H1 acc (.AF [])))/\∀i m ys σc H2,W i m ys σc H2 →
   (J.stop i H2/\G H2)\/(J.go i H2/\∀x H3,J.ED i H2 x H3->g x σc H3 λσ4 H4=>tt σ4 H4 λok H5=>if ok=true then (te σ4 H5 λv H6=>H6 acc=some (.AF ys)/\ys.length<sizeLine/\∃m',m' < m/\W (i+1) m' (ys++[v]) σ4 (AJ H6 acc (.AF (ys++[v])))) else ∃m',m' < m/\W (i+1) m' ys σ4 H5):=by
 refine⟨λi m ys σ H2=>m=n-i/\i<=n/\AN H1 H2/\H2 acc=some (.AF ys)/\ys.length<=i/\Iv i ys σ (BQ H2 acc),⟨n,rfl,jS _,?_,AU,i4 _,?_⟩,?_⟩
 ·intro b o e; rw[Ad (BW e hacc)]; exact e
 ·rw[J2,SE hacc]; exact h0
 ·rintro i m ys σc H2 ⟨rfl,hi,sm,ha,hl,iv⟩;rcases jv i n with hlt | hge
  ·refine .inr ⟨r.go i H2 hlt sm,λx H3 yl=>?_⟩;refine hs i ys σc H2 x H3 hlt sm ha iv (r.yl i H2 x H3 hlt sm yl) (λσ4 v H5=>H5 acc=some (.AF ys)/\ys.length<sizeLine/\∃m',m' < n-i/\(m'=n-(i+1)/\i+1<=n/\AN H1 (AJ H5 acc (.AF (ys++[v])))/\(AJ H5 acc (.AF (ys++[v]))) acc=some (.AF (ys++[v]))/\(ys++[v]).length<=i+1/\Iv (i+1) (ys++[v]) σ4 (BQ (AJ H5 acc (.AF (ys++[v]))) acc)))
    (λσ4 H5=>∃m',m' < n-i/\(m'=n-(i+1)/\i+1<=n/\AN H1 H5/\H5 acc=some (.AF ys)/\ys.length<=i+1/\Iv (i+1) ys σ4 (BQ H5 acc))) ?_ ?_
   ·intro σ4 v H5 s5 iv5;refine⟨s5 _ _ ha,by rw[kn]; omega,n-(i+1),by omega,rfl,hlt,?_,AU,by rw[jc,kh]; omega,?_⟩
    ·intro b o e; rw[Ad (BW e hacc)]; exact s5 _ _ (sm _ _ e)
    ·rw[J2]; exact iv5
   ·intro σ4 H5 s5 iv5;exact⟨n-(i+1),by omega,rfl,hlt,sm.trans s5,s5 _ _ ha,by omega,iv5⟩
  ·obtain rfl:i=n:=by omega
   exact .inl ⟨r.st H2 sm,fin ys σc H2 sm ha iv⟩
open Wd
def E6:List Int->Int
 | []=>0
 | [x]=>x
 | x :: y :: r=>min x (E6 (y :: r))
theorem OX:∀{l:List Int},l≠[]->E6 l∈l/\∀x∈l,E6 l<=x
 | [],h=>absurd rfl h
 | [x],_=>⟨by simp[E6],λy hy=>by rw[jA.mp hy]; exact Int.le_refl _⟩
 | x :: y :: r,_=>by
  obtain⟨h1,h2⟩:=OX (l:=y :: r) (by simp);have e:E6 (x :: y :: r)=min x (E6 (y :: r)):=rfl;rw[e];generalize E6 (y :: r)=m at h1 h2;refine⟨?_,λz hz=>?_⟩
  ·rcases Int.le_total x m with h | h
   ·rw[show min x m=x by omega]; exact jZ ..
   ·rw[show min x m=m by omega]; exact jB _ h1
  ·rcases jh.mp hz with rfl | hz
   ·omega
   ·have:=h2 z hz; omega
def BV(t:List Int):List Int:=t.drop (t.idxOf (E6 t))++t.take (t.idxOf (E6 t))
theorem OG{t:List Int}{m:Int}(hm:m∈t)(h:∀a∈t,m<=a):E6 t=m:=by
 obtain⟨h1,h2⟩:=OX (l:=t) (List.ne_nil_of_mem hm)
 have:=h _ h1
 have:=h2 _ hm
 omega
theorem Yn{t:List Int}:∃a b,t=a++b/\BV t=b++a:=⟨_,_,(kq (t.idxOf (E6 t)) t).symm,rfl⟩
theorem LB{t1 t2:List Int}{m:Int}(h1:m∉t1)(h:∀a∈t1++m :: t2,m<=a):BV (t1++m :: t2)=m :: (t2++t1):=by
 unfold BV;rw[OG (m:=m) (by simp) h,KG h1];simp
theorem W7{t u:List Int}(nd:t.Nodup)(ne:t≠[])(h:Cv t u):BV u=BV t:=by
 obtain⟨m1,m2⟩:=OX ne;generalize E6 t=m at m1 m2;obtain⟨l,r,rfl,rfl⟩:=h;have hle:∀a∈r++l,m<=a:=λa ha=>m2 a (by rcases i9.mp ha with z | z <;> simp[z])
 rcases i9.mp m1 with z | z
 ·obtain⟨l1,l2,rfl,n1⟩:=JC z;have nr:m∉r++l1:=by
   intro w;rw[jY] at nd;rcases i9.mp w with w | w
   ·exact nd.2.2 m (by simp) m w rfl
   ·exact n1 w
  have e1:r++(l1++m :: l2)=(r++l1)++m :: l2:=by simp
  have e2:(l1++m :: l2)++r=l1++m :: (l2++r):=by simp
  rw[e1,LB nr (by rw[<-e1]; exact hle),e2,LB n1 (by rw[<-e2]; exact m2)];simp
 ·obtain⟨r1,r2,rfl,n1⟩:=JC z;have nl:m∉l++r1:=by
   intro w;rw[jY] at nd;rcases i9.mp w with w | w
   ·exact nd.2.2 m w m (by simp) rfl
   ·exact n1 w
  have e1:(r1++m :: r2)++l=r1++m :: (r2++l):=by simp
  have e2:l++(r1++m :: r2)=(l++r1)++m :: r2:=by simp
  rw[e1,LB n1 (by rw[<-e1]; exact hle),e2,LB nl (by rw[<-e2]; exact m2)];simp
theorem J5(t:List Int):Cv t (BV t):=Yn
theorem RM(ts:List (List Int)):ts.length=(ts.map BV).length/\∀(i:Nat) (t u:List Int),ts[i]?=some t->(ts.map BV)[i]?=some u->Cv t u:=by
 refine⟨by simp,λi t u h1 h2=>?_⟩;rw[iy,h1] at h2;cases h2;exact J5 t
theorem Td{K:PySem.W.Frag}{H:Hp}{a:Addr}{xs:List V}{lo hi:Option Int}{Q:VK}(ha:H a=some (.AG xs))(q:∀p H',AN H H'->H' p=some (.AG (Cu xs lo hi))->Q (.ref p) H'):Oh K (.ref a) lo hi H Q :=
 ⟨a,xs,rfl,AI.of ha,λz=>q a H (AN.refl _) (by rw[ha]; unfold Cu; rw[z.1,z.2]; simp),λ_ p hp=>q p _ (AZ hp _) AU⟩
inductive UD(vs:List V)(H:Hp)(Q:VK):Prop
 | mk (a:Addr) (t:List Int) (h_0:vs=[.ref a]) (h_1:H a=some (.AG (t.map V.int))) (h_2:t≠[]) (h_3:t.length<=1000) (h_4:∀p H',AN H H'->H' p=some (.AG ((BV t).map V.int))->Q (.ref p) H'):UD vs H Q
def Om:Sp:=λvs H Q _=>UD vs H Q
theorem Vo:A2 ["turn","cut"] ["turn"] (Ap s_begun_least):=A8
theorem cf(F:Ar K "begun_least" "begun_least" s_begun_least f fd)(mn:mg "min" = none):Ao P w K mg base Ay 1 f fd ["turn"] Om:=by
 refine F.A9 Vo λcdv A outer s H vs Q E hr h=>?_
 obtain⟨a,t,rfl,ha,ht,hl,q⟩:=h;refine⟨_,AR (AX (i:=1) Vo.nd rfl (Or.inl rfl) (dG PySem.F.plainAttrs_tuple pG PySem.F.type_tuple_index Xn (pv 0) (AA (Au (X7 rfl) (by rfl) mn OH (AA (pv 0) AB)) AB)))
  (AV (An (AM NX (D0 (V9 (K:=K)) (pv 0) (Dm (pv 1)) EI) (D0 (V9 (K:=K)) (pv 0) EI (Dm (pv 1)))))),?_⟩
 refine⟨_,rfl,⟨a,_,rfl,ha⟩,_,rfl,a,t,rfl,ha,oG.mpr ht,λm mm mle=>⟨a,t,m,rfl,rfl,ha,mm,?_⟩⟩;have em:=OG mm mle;have hc:t.idxOf m<t.length:=kF.mpr mm;have eb:BV t=t.drop (t.idxOf m)++t.take (t.idxOf m):=by unfold BV; rw[em]
 generalize t.idxOf m=c at hc eb;refine⟨_,rfl,_,rfl,_,rfl,?_⟩;dsimp only[Ld];refine Td ha λp1 H1 s1 e1=>⟨_,rfl,?_⟩
 dsimp only[Ld];refine⟨_,rfl,_,rfl,Td (s1 _ _ ha) λp2 H2 s2 e2=>?_⟩;rw[Hy _ (by rw[ig]; omega),<-List.map_drop] at e1;rw[Jr _ (by rw[ig]; omega),<-List.map_take] at e2;refine⟨p1,p2,_,_,rfl,rfl,s2 _ _ e1,e2,?_,λp H3 s3 hp=>q p H3 (s1.trans (s2.trans s3)) ?_⟩
 ·rw[ig,ig,jO,jT];exact FQ (by omega)
 ·rw[hp,eb,ji]
theorem g9:A2 ["turns"] ["turns"] (Ap s_told_turns):=A8
theorem dQ:(["turn"]:List Str).Nodup:=by decide +kernel
inductive T5(vs:List V)(H:Hp)(Q:VK):Prop
 | mk (a:Addr) (ts:List (List Int)) (h_0:vs=[.ref a]) (h_1:Ex Ba H a ts) (h_2:ts.length<=1000) (h_3:(∀t∈ts,t≠[]/\t.length<=1000)) (h_4:∀p H',AN H H'->A4 Ba H' p (ts.map BV)->Q (.ref p) H'):T5 vs H Q
def VR:Sp:=λvs H Q _=>T5 vs H Q
theorem Zg(F:Ar K "told_turns" "told_turns" s_told_turns f fd)(G:Al P w K mg base 1 "begun_least" ["turn"] Om)(mt:mg "tuple" = none):Ao P w K mg base Ay 2 f fd ["turns"] VR:=by
 refine F.A9 g9 λcdv A outer s H vs Q E hr h=>?_
 obtain⟨a,ts,rfl,⟨bs,ha,hB⟩,hl,ht,q⟩:=h;refine⟨_,AV (An (Cy (Fj (K:=K)) (by rfl) mt B6 (AA (C5 (Nc:=["turn"]) (cap:=[]) (g:=BU 0) (te:=DI Om [] E0 (BI (Aj 0) By)) rfl (Ki (K:=K) (pv 0))
   (CB rfl rfl (by decide +kernel) (by decide +kernel) (i6 _) rfl (i6 _)) (λ_ _ _ _ _=>Ae (i:=0) dQ rfl (Or.inl rfl))
   (λ_ _ _ _ _=>Aa G hr (AA (pv 0) AB))) AB))),?_⟩
 have lb:bs.length=ts.length:=hB.1;refine⟨_,rfl,a,rfl,⟨_,AQ.of ha⟩,λacc hacc=>?_⟩;refine CP (GO ha) (by rw[ig]; omega) hacc (λi ys σ hp=>∃ds:List Addr,ys=ds.map V.ref/\At Ba hp ds ((ts.map BV).take i)/\∃u,σ=[u]) ⟨[],rfl,At.nil,none,rfl⟩ ?_ ?_
 ·rintro i ys σ H3 x H4 hi sm hacc2 ⟨ds,rfl,hD,u,rfl⟩ ⟨rfl,hx⟩ Cc hC;obtain⟨c,t,rfl,_,hy,hc⟩:=hB.ref hx;obtain⟨t1,t2⟩:=ht t (iq hy);refine⟨_,rfl,c,t,rfl,sm _ _ hc,t1,t2,λp H5 s5 hp=>?_⟩;refine hC _ _ _ s5 ⟨ds++[p],by simp,?_,_,rfl⟩;have ec:(ts.map BV)[i]?=some (BV t):=by rw[iy,hy]; rfl
  rw[DM ec];exact(hD.keep C4 (EH acc s5)).snoc (Ba.BQ (t:=BV t) hp (s5 _ _ hacc2))
 ·rintro ys σ H4 s4 ha4 hl4 ⟨gs,rfl,hG,u,rfl⟩;rw[ig,lb,jf (by rw[ig]; exact i4 _)] at hG;refine⟨acc,_,rfl,.inl ⟨AQ.of ha4,λp hp=>?_⟩⟩;have sp:=AZ hp (.AG (gs.map V.ref));exact q p _ (s4.trans sp) ⟨gs,AU,(hG.keep C4 (D5 H4 acc)).keep C4 sp⟩
theorem Vr:A2 ["_law_turn","_law_at"] ["_law_turn"] (Ap s_law_begun):=A8
inductive Sr(vs:List V)(H:Hp)(Q:VK):Prop
 | mk (a:Addr) (t:List Int) (h_0:vs=[.ref a]) (h_1:H a=some (.AF (t.map V.int))) (h_2:t≠[]) (h_3:t.length<=1000) (h_4:∀p H',AN H H'->Ba H' p (BV t)->Q (.ref p) H'):Sr vs H Q
def UH:Sp:=λvs H Q _=>Sr vs H Q
theorem ZZ(F:Ar K "_law_begun" "_law_begun" s_law_begun f fd)(mn:mg "min" = none)(mt:mg "tuple" = none):Ao P w K mg base Ay 1 f fd ["_law_turn"] UH:=by
 refine F.A9 Vr λcdv A outer s H vs Q E hr h=>?_
 obtain⟨a,t,rfl,ha,ht,hl,q⟩:=h;refine⟨_,AR (AX (i:=1) Vr.nd rfl (Or.inl rfl) (Cr K jq mC nR NT (pv 0) (AA (Au (YM rfl) (by rfl) mn OH (AA (pv 0) AB)) AB)))
  (AV (An (AM NX (Cy (Fj (K:=K)) (by rfl) mt B6 (AA (D0 (K8 (K:=K)) (pv 0) (Dm (pv 1)) EI) AB)) (Cy (Fj (K:=K)) (by rfl) mt B6 (AA (D0 (K8 (K:=K)) (pv 0) EI (Dm (pv 1))) AB))))),?_⟩
 have tl:0<t.length:=oG.mpr ht;refine⟨_,rfl,.inl ⟨rfl,_,AQ.of ha⟩,_,rfl,a,t,rfl,ha,tl,λm mm mle=>?_⟩;refine⟨a,t,m,rfl,rfl,ha,mm,by omega,?_⟩;have em:=OG mm mle;have hc:t.idxOf m<t.length:=kF.mpr mm;have eb:BV t=t.drop (t.idxOf m)++t.take (t.idxOf m):=by unfold BV; rw[em]
 generalize t.idxOf m=c at hc eb;refine⟨_,rfl,_,rfl,_,rfl,a,_,rfl,AQ.of ha,λl1 hl1=>?_⟩;rw[Hy _ (by rw[ig]; omega),<-List.map_drop];refine⟨l1,_,rfl,.inl ⟨AQ.of AU,λp1 hp1=>?_⟩⟩;have s1:=(AZ hl1 (.AF ((t.drop c).map V.int))).trans (AZ hp1 (.AG ((t.drop c).map V.int)));have e1:(AJ (AJ H l1 (.AF ((t.drop c).map V.int))) p1 (.AG ((t.drop c).map V.int))) p1=some (.AG ((t.drop c).map V.int)):=AU;generalize AJ (AJ H l1 (.AF ((t.drop c).map V.int))) p1 (.AG ((t.drop c).map V.int))=H1 at s1 e1;refine⟨_,rfl,_,rfl,_,rfl,a,_,rfl,AQ.of (s1 _ _ ha),λl2 hl2=>?_⟩;rw[Jr _ (by rw[ig]; omega),<-List.map_take];refine⟨l2,_,rfl,.inl ⟨AQ.of AU,λp2 hp2=>?_⟩⟩;have s2:=(AZ hl2 (.AF ((t.take c).map V.int))).trans (AZ hp2 (.AG ((t.take c).map V.int)));have e2:(AJ (AJ H1 l2 (.AF ((t.take c).map V.int))) p2 (.AG ((t.take c).map V.int))) p2=some (.AG ((t.take c).map V.int)):=AU;generalize AJ (AJ H1 l2 (.AF ((t.take c).map V.int))) p2 (.AG ((t.take c).map V.int))=H2 at s2 e2;refine⟨p1,p2,_,_,rfl,rfl,s2 _ _ e1,e2,?_,λp H3 s3 hp=>q p H3 (s1.trans (s2.trans s3)) ?_⟩
 ·rw[ig,ig,jO,jT];exact FQ (by omega)
 ·unfold Ba;rw[hp,eb,ji]
inductive Ry(vs:List V)(H:Hp)(Q:VK):Prop
 | mk (p ra ta:Addr) (n:Int) (rs:List AO) (ts:List (List Int)) (h_0:vs=[.ref p]) (h_1:H p=some (.AG [.int n,.ref ra,.ref ta])) (h_2:A4 Bg H ra rs) (h_3:A4 Ba H ta ts) (h_4:ts.length<=1000) (h_5:(∀t∈ts,t.length<=1000)) (h_6:∀H',AN H H'->Q (.bl true) H'):Ry vs H Q
def S5:Sp:=λvs H Q _=>Ry vs H Q
theorem Vi:A2 ["_law_found","_law_rope"] ["_law_found"] (Ap s_law_is_net):=A8
theorem V3:(["_law_turn"]:List Str).Nodup:=by decide +kernel
theorem ZY (F : Ar K "_law_is_net" "_law_is_net" s_law_is_net f fd) (G1 : Al P w K mg base 1 "_law_whole" ["_law_found"] Lj)
    (G2 : Al P w K mg base 2 "_law_row" ["_law_found", "_law_many"] MB)
    (ms : mg "isinstance" = none) (mt : mg "tuple" = none) (ml : mg "len" = none) (ma : mg "all" = none) : Ao P w K mg base Ay 3 f fd ["_law_found"] S5 := by
  refine F.A9 Vi λcdv A outer s H vs Q E hr h => ?_
  obtain⟨p, ra, ta, n, rs, ts, rfl, hp, ⟨cs, hra, hR⟩, ⟨bs, hta, hT⟩, tl, tlt, q⟩ := h;have r1 := hr.mono (show 1 <= 2 by decide);refine⟨_, AR (Bl (PW.pt (DO (EJ (Dn (Au (FA (c := .ty "tuple") (cv := .type "tuple") λ_ z => z) (by rfl) ms E8 (AA (pv 0) (AA (FD (v := .ty "tuple") (by rfl) mt B6 rfl) AB)))))
        (DO (BN Dd (Au (Bb (K := K)) (by rfl) ml BO (AA (pv 0) AB)) AE (BH _))
        (Fp (EJ (Dn (Aa G1 r1 (AA (pT K (pv 0) AE) AB)))))))) (AV (An Ep)) B7)
    (AR (Bl (PW.pt (DO (EJ (Dn (Au (FA (c := .ty "tuple") (cv := .type "tuple") λ_ z => z) (by rfl) ms E8 (AA (pT K (pv 0) AE) (AA (FD (v := .ty "tuple") (by rfl) mt B6 rfl) AB)))))
        (Fp (EJ (Dn (Au (FA (c := .ty "tuple") (cv := .type "tuple") λ_ z => z) (by rfl) ms E8 (AA (pT K (pv 0) AE) (AA (FD (v := .ty "tuple") (by rfl) mt B6 rfl) AB)))))))) (AV (An Ep)) B7)
    (AR (CQ jt rfl (Fx (K := K) (pT K (pv 0) AE)) (Ae (i := 1) Vi.nd rfl (Or.inl rfl))
      (AV (Bl (PW.pt (DO (EJ (Dn (Au (FA (c := .ty "tuple") (cv := .type "tuple") λ_ z => z) (by rfl) ms E8 (AA (pv 1) (AA (FD (v := .ty "tuple") (by rfl) mt B6 rfl) AB)))))
        (DO (BN Dd (Au (Bb (K := K)) (by rfl) ml BO (AA (pv 1) AB)) AE (BH _))
        (DO (EJ (Dn (Aa G2 hr (AA (D0 (Wb (K := K)) (pv 1) EI (Dm AE)) (AA AE AB)))))
        (Fp (EJ (Dn (Aa G2 hr (AA (pT K (pv 1) AE) (AA AE AB)))))))))) (AV (An Ep)) B7)))
    (AV (An (Au (LI rfl) (by rfl) ma Lk (AA (C5 (Nc := ["_law_turn"]) (cap := []) (g := BU 0)
      (te := VT (K2 (V1 K (.ty "tuple") (.type "tuple")) (BI (Aj 0) (BI (tC (.ty "tuple")) By))) (DI MB [] E0 (BI (Aj 0) (BI (K2 (MR K) (BI (Aj 0) By)) By)))) rfl (Fx (K := K) (pT K (pv 0) AE))
      (CB rfl rfl (by decide +kernel) (by decide +kernel) (i6 _) rfl (i6 _)) (λ_ _ _ _ _ => Ae (i := 0) V3 rfl (Or.inl rfl))
      (λ_ _ _ _ _ => KH (Au (FA (c := .ty "tuple") (cv := .type "tuple") λ_ z => z) (by rfl) ms E8 (AA (pv 0) (AA (FD (v := .ty "tuple") (by rfl) mt B6 rfl) AB))) (Lw (Aa G2 hr (AA (pv 0) (AA (Au (Bb (K := K)) (by rfl) ml BO (AA (pv 0) AB)) AB)))))) AB)))))), ?_⟩
  refine⟨_, rfl, _, _, _, rfl, CV.AG hp, Fd K _, _, rfl, Bh ?_⟩;refine⟨_, rfl, p, _, rfl, .inr (AI.of hp), rfl, _, rfl, Bh ?_⟩;refine⟨_, rfl, p, _, _, _, rfl, rfl, AI.of hp, Hm _ _ _, n, rfl, _, rfl, Bh ?_⟩;refine⟨_, rfl, p, _, _, _, rfl, rfl, AI.of hp, EA _ _ _, _, _, _, rfl, CV.AG hra, Fd K _, _, rfl, Bh ?_⟩;refine⟨_, rfl, p, _, _, _, rfl, rfl, AI.of hp, C1 _ _ _, _, _, _, rfl, CV.AG hta, Fd K _, _, rfl, Bh ?_⟩;refine⟨_, rfl, p, _, _, _, rfl, rfl, AI.of hp, EA _ _ _, ra, rfl, ⟨_, AI.of hra⟩, ?_⟩;refine IA (xs := cs.map V.ref) (λi σ H2 => AN H H2 /\ ∃u, σ = [some (.ref p), u]) ⟨AN.refl _, none, rfl⟩ (λi σ H2 _ ⟨s2, _⟩ => AI.of (s2 _ _ hra)) ?_ ?_
  · rintro i x σ H2 hx ⟨s2, u, rfl⟩;obtain⟨c, r, rfl, _, _, hr0⟩ := hR.ref hx;obtain⟨e, h1, h2⟩ := D3 s2 hr0;refine⟨_, rfl, _, _, _, rfl, CV.AG h1, Fd K _, _, rfl, Bh ?_⟩;refine⟨_, rfl, c, _, rfl, .inr (AI.of h1), rfl, _, rfl, Bh ?_⟩;refine⟨_, rfl, 2, rfl, c, _, rfl, AI.of h1, λz => ?_, λp2 hp2 => ?_⟩
    · have := z.2;rw[VY (by show 2 <= 3; decide)] at this;cases this
    rw[show Cu [V.int (r.1 : Int), .int (r.2.1 : Int), .ref e] none (some 2) = ([(r.1 : Int), (r.2.1 : Int)] : List Int).map V.int from rfl];obtain⟨H3, zg, s3, e3⟩ := nw hp2 (.AG (([(r.1 : Int), (r.2.1 : Int)] : List Int).map V.int));rw[zg];refine⟨p2, _, _, rfl, e3, rfl, by show 2 <= 1000; decide, λH4 s4 => ⟨_, rfl, Bh ?_⟩⟩;have s34 := s3.trans s4;have h24 : H4 e = some (.AG (([r.2.2.num, (r.2.2.den : Int)] : List Int).map V.int)) := s34 _ _ h2;refine⟨_, rfl, c, _, _, _, rfl, rfl, AI.of (s34 _ _ h1), C1 _ _ _, e, _, _, rfl, h24, rfl, by show 2 <= 1000; decide, λH5 s5 => ⟨_, rfl, Bh ?_⟩⟩;exact⟨s2.trans (s34.trans s5), _, rfl⟩
  · rintro σ H2 ⟨s2, u, rfl⟩;have hta2 := s2 _ _ hta;refine⟨_, rfl, p, _, _, _, rfl, rfl, AI.of (s2 _ _ hp), C1 _ _ _, ta, rfl, ⟨_, AI.of hta2⟩, λacc hacc => ?_⟩;refine CP (FE hta2) (by rw[ig, hT.1]; exact tl) hacc (λi ys σ hp => ys = (List.replicate i true).map V.bl /\ ∃u, σ = [u]) ⟨rfl, none, rfl⟩ ?_ ?_
    · rintro i ys σ H3 x H4 hi sm hacc2 ⟨rfl, u, rfl⟩ ⟨rfl, hx⟩ Cc hC;obtain⟨c, t, rfl, _, hy, hc⟩ := hT.ref hx;have hc3 : H4 c = some (.AG (t.map V.int)) := (s2.trans sm) _ _ hc;refine⟨_, rfl, _, _, _, rfl, CV.AG hc3, Fd K _, _, rfl, Ed ?_⟩;refine⟨_, rfl, _, rfl, c, _, rfl, .inr (AI.of hc3), c, t, _, rfl, hc3, by rw[ig], tlt t (iq hy), λH5 s5 => ?_⟩;refine hC _ _ _ s5 ⟨?_, _, rfl⟩;rw[lD, ji];rfl
    · rintro ys σ H3 s3 ha3 _ ⟨rfl, u, rfl⟩;refine⟨acc, _, rfl, AQ.of ha3, ?_⟩;rw[show(List.replicate (bs.map V.ref).length true).all id = true by simp];exact q H3 (s2.trans s3)
def BC(L:List (List Int))(x:Int):Nat:=L.findIdx λr=>decide (x∈r)
theorem GQ{L:List (List Int)}{x:Int}(h:x∈L.flatten):∃r,L[BC L x]?=some r/\x∈r:=by
 obtain⟨r,hr,hx⟩:=jn.mp h;have hl:BC L x<L.length:=List.findIdx_lt_length_of_exists ⟨r,hr,kc hx⟩;exact⟨L[BC L x],ij hl,of_decide_eq_true (List.findIdx_getElem (w:=hl))⟩
theorem dR{L:List (List Int)}(nd:L.flatten.Nodup){i j:Nat}{r s:List Int}{x:Int}(h1:L[i]?=some r)(h2:L[j]?=some s)(hx:x∈r)(hy:x∈s):i=j:=by
 have pw:=(qg.mp nd).2;rw[nA] at pw;obtain⟨l1,e1⟩:=ip.mp h1;obtain⟨l2,e2⟩:=ip.mp h2;rcases ph i j with z | z | z
 ·exact absurd rfl (pw i j l1 l2 z x (by rw[e1]; exact hx) x (by rw[e2]; exact hy))
 ·exact z
 ·exact absurd rfl (pw j i l2 l1 z x (by rw[e2]; exact hy) x (by rw[e1]; exact hx))
theorem Le{L:List (List Int)}(nd:L.flatten.Nodup){l:Nat}{r:List Int}{x:Int}(hl:L[l]?=some r)(hx:x∈r):BC L x=l:=by
 obtain⟨r',h1,h2⟩:=GQ (jn.mpr ⟨r,iq hl,hx⟩);exact dR nd h1 hl h2 hx
theorem Qb{us:List (List Int)}{n:Nat}(T:B9 n us){x:Int}(hx:AD n x):BC (Am (AL us) n) (AL us x)=BC (Am (AL us) n) x:=by
 have P:=T.perm;obtain⟨r,h1,h2⟩:=GQ ((EG P).mpr hx);obtain⟨j1,j2,_⟩:=HE P (iq h1);have h3:=h2;rw[j2] at h3
 have:=Yi P j1 h3
 rw[<-j2] at this;exact Le (Gz P) h1 this
theorem SA:∀(L:List (List Int)) (i:Nat) (l:Nat) (r:List Int) (x:Int),L[l]?=some r->x∈r->(x,((i+l:Nat):Int))∈C6 i L
 | [],i,l,r,x,h,_=>by cases l <;> cases h
 | c :: L,i,0,r,x,h,hx=>by cases h; exact i9.mpr (.inl (i7.mpr ⟨x,hx,by simp⟩))
 | c :: L,i,l+1,r,x,h,hx=>by
  have:=SA L (i+1) l r x (by simpa using h) hx
  rw[show i+1+l=i+(l+1) by omega] at this;exact i9.mpr (.inr this)
theorem UZ{L:List (List Int)}(nd:L.flatten.Nodup){x:Int}(h:x∈L.flatten):lk (C6 0 L) x=some ((BC L x:Nat):Int):=by
 obtain⟨r,h1,h2⟩:=GQ h
 have:=SA L 0 _ r x h1 h2
 rw[nJ] at this;exact MF (by rw[Jv]; exact nd) this
def D9(rs:List AO)(Y:Nat->Rat)(x:Int):Rat :=
 match rs[(x / 2).toNat]? with
 | some r=>if x % 2=0 then A5 Y r else-A5 Y r
 | none=>if x % 2=0 then-BJ Y rs 0 else BJ Y rs 0
theorem Qj{rs:List AO}{Y:Nat->Rat}{k:Nat}{r:AO}(h:rs[k]?=some r):D9 rs Y (2*(k:Int))=A5 Y r:=by
 unfold D9;rw[show(2*(k:Int) / 2).toNat=k by omega,h];show(if 2*(k:Int) % 2=0 then A5 Y r else _)=_;rw[i5 (by omega)]
theorem Yw{rs:List AO}{Y:Nat->Rat}{k:Nat}{r:AO}(h:rs[k]?=some r):D9 rs Y (2*(k:Int)+1)=- A5 Y r:=by
 unfold D9;rw[show((2*(k:Int)+1) / 2).toNat=k by omega,h];show(if (2*(k:Int)+1) % 2=0 then _ else-A5 Y r)=_;rw[iz (by omega)]
theorem aH(rs:List AO)(Y:Nat->Rat):D9 rs Y (2*(rs.length:Int))=- BJ Y rs 0:=by
 unfold D9;rw[show(2*(rs.length:Int) / 2).toNat=rs.length by omega,j7 (i4 _)];show(if 2*(rs.length:Int) % 2=0 then-BJ Y rs 0 else _)=_;rw[i5 (by omega)]
theorem bE(rs:List AO)(Y:Nat->Rat):D9 rs Y (2*(rs.length:Int)+1)=BJ Y rs 0:=by
 unfold D9;rw[show((2*(rs.length:Int)+1) / 2).toNat=rs.length by omega,j7 (i4 _)];show(if (2*(rs.length:Int)+1) % 2=0 then _ else BJ Y rs 0)=_;rw[iz (by omega)]
theorem YI(rs:List AO)(Y:Nat->Rat)(x:Int):D9 rs Y (AH x)=- D9 rs Y x:=by
 unfold D9 AH;by_cases e:x % 2=0
 ·rw[i5 e,show(x+1) / 2=x / 2 by omega];cases rs[(x / 2).toNat]? with
  | none=>show(if (x+1) % 2=0 then-BJ Y rs 0 else BJ Y rs 0)=- (if x % 2=0 then-BJ Y rs 0 else BJ Y rs 0); rw[i5 e,iz (by omega)]; grind
  | some r=>show(if (x+1) % 2=0 then A5 Y r else-A5 Y r)=- (if x % 2=0 then A5 Y r else-A5 Y r); rw[i5 e,iz (by omega)]
 ·rw[iz e,show(x-1) / 2=x / 2 by omega];cases rs[(x / 2).toNat]? with
  | none=>show(if (x-1) % 2=0 then-BJ Y rs 0 else BJ Y rs 0)=- (if x % 2=0 then-BJ Y rs 0 else BJ Y rs 0); rw[iz e,i5 (by omega)]
  | some r=>show(if (x-1) % 2=0 then A5 Y r else-A5 Y r)=- (if x % 2=0 then A5 Y r else-A5 Y r); rw[iz e,i5 (by omega)]; grind
theorem LO(f:Int->Rat)(hs:List Nat)(q p:Nat):((EK (hs++[q]) p).map f).sum=((EK hs p).map f).sum+if p=q then f (hs.length:Int) else 0:=by
 rw[XO];by_cases e:q=p
 ·rw[i5 e,i5 e.symm,ji,pQ]; simp; grind
 ·rw[iz e,iz (λz=>e z.symm)]; grind
theorem Rj{rs:List AO}{Y:Nat->Rat}(p:Nat):∀j,j<=rs.length->((EK (CF (rs.take j)) p).map (D9 rs Y)).sum=BJ Y (rs.take j) p
 | 0,_=>by simp[CF,EK,BJ]
 | j+1,hj=>by
  have e:rs[j]?=some rs[j]:=ij hj;have l1:(CF (rs.take j)).length=2*j:=by rw[ET,jT]; omega
  rw[Qc e,DM e,LQ,LO,LO,Rj p j (by omega),jc,l1];have e1:=Qj (Y:=Y) e;have e2:=Yw (Y:=Y) e;rw[show((2*j:Nat):Int)=2*(j:Int) by omega,show((2*j + [rs[j].1].length:Nat):Int)=2*(j:Int)+1 by simp,e1,e2];unfold CK;split <;> split <;> grind
structure MS(rs:List AO)(ts:List (List Int))(Y:Nat->Rat)(p:Int->Rat):Prop where
 inv:∀x,AD (2*rs.length+2) x->p (AL ts x)=p x
 df:∀(k:Nat) (r:AO),rs[k]?=some r->p (2*(k:Int))-p (2*(k:Int)+1)=A5 Y r
 o:p (2*(rs.length:Int))=0
theorem cZ{n:Nat}{rs:List AO}{ts:List (List Int)}{Y:Nat->Rat}(k:BP (n+2) rs ts)(po:Cm ts (2*rs.length+2))(hb:∀i,2<=i->i<n+2->BJ Y rs i=0):∃p,MS rs ts Y p:=by
 have two:∀r∈rs,r.1<n+2/\r.2.1<n+2:=λr hr=>(k.ease r hr).2
 obtain⟨p,i1,d1⟩:=po (D9 rs Y) (λx _=>YI rs Y x) (λt ht=>by
  obtain⟨i,hi,e⟩:=ju ht;have hp:=k.perm (show ts[i]?=some t by rw[ij hi,e]);rw[ND (hp.map (D9 rs Y))];show((EK (CF rs++[0,1]) i).map (D9 rs Y)).sum=0;rw[show CF rs++[0,1]=CF rs++[0]++[1] by simp,LO,LO,jc,ET];have s:=Rj (rs:=rs) (Y:=Y) i rs.length (i4 _);rw[lj] at s;rw[s,show((2*rs.length:Nat):Int)=2*(rs.length:Int) by omega,show((2*rs.length + [0].length:Nat):Int)=2*(rs.length:Int)+1 by simp,aH,bE];have po:=XR two hb;rw[k.len] at hi
  match i,hi with
  | 0,_=>simp; grind
  | 1,_=>simp; grind
  | i+2,hi=>rw[hb (i+2) (by omega) hi,iz (by omega),iz (by omega)]; grind)
 refine⟨λx=>p x-p (2*(rs.length:Int)),λx hx=>?_,λj r hj=>?_,?_⟩
 ·show p _-_=p _-_;rw[i1 x hx]
 ·have hl:=(ip.mp hj).1
  have:=d1 (2*(j:Int)) ⟨by omega,by push_cast; omega⟩
  rw[show AH (2*(j:Int))=2*(j:Int)+1 by unfold AH; rw[i5 (by omega)],Qj hj] at this;show p _-_-(p _-_)=_
  grind
 ·show p _-p _=0
  grind
def EM(ts:List (List Int))(n:Nat)(p:Int->Rat)(j:Int):Rat:=p (((Am (AL ts) n).getD j.toNat []).headD 0)
theorem ZC{ts:List (List Int)}{n:Nat}{p:Int->Rat}(T:B9 n ts)(inv:∀x,AD n x->p (AL ts x)=p x){x:Int}(hx:AD n x):EM ts n p ((BC (Am (AL ts) n) x:Nat):Int)=p x:=by
 have P:=T.perm;obtain⟨r,h1,h2⟩:=GQ ((EG P).mpr hx);obtain⟨j1,j2,_⟩:=HE P (iq h1);unfold EM;rw[kd,ir,h1];show p (r.headD 0)=p x;rw[j2] at h2;obtain⟨k,_,e⟩:=DV.mp h2;rw[<-e];exact(N5 P j1 inv k).symm
theorem R6{ts:List (List Int)}{n:Nat}(T:B9 n ts){x:Int}(hx:AD n x):BC (Am (AL ts) n) x<(Am (AL ts) n).length:=by
 obtain⟨r,h1,_⟩:=GQ ((EG T.perm).mpr hx);exact(ip.mp h1).1
theorem Qx{ts:List (List Int)}{n:Nat}(T:B9 n ts){j:Nat}(hj:j<(Am (AL ts) n).length):∃x,AD n x/\BC (Am (AL ts) n) x=j:=by
 have h1:(Am (AL ts) n)[j]?=some (Am (AL ts) n)[j]:=ij hj;obtain⟨j1,j2,_⟩:=HE T.perm (iq h1);refine⟨_,j1,Le (Gz T.perm) h1 ?_⟩
 have:=Ht T.perm j1
 rw[<-j2] at this;exact this
def Ol(ts:List (List Int))(m:Nat):Prop:=∀S:Int->Prop,(∀x,AD (2*m+2) x->(S x↔S (AL ts x)))->(∀k:Nat,k<m->(S (2*(k:Int))↔S (2*(k:Int)+1)))->S (2*(m:Int))->∀x,AD (2*m+2) x->S x
theorem _root_.Mth.Ef.eG{ts:List (List Int)}{m:Nat}(D:Ef (AL ts) m):Ol ts m:=λS h1 h2 h0 x hx=>by
 by_cases z:S (2*(m:Int)+1)
 ·exact D.CY S h1 h2 z x hx
 ·have:=D.CY (λx=>¬S x) (λx hx=>not_congr (h1 x hx)) (λk hk=>not_congr (h2 k hk)) z (2*(m:Int)) ⟨by omega,by push_cast; omega⟩
  exact absurd h0 this
end
end My
namespace My
open PySem L2 Mth Wd
abbrev DD(l:List (Int×Addr)):List (AY×V):=l.map λp=>(Sum.inl p.1,V.ref p.2)
theorem Im{e:Int}:∀{l:List (Int×Addr)},e∉l.map (·.1)->Cj (DD l) (Sum.inl e:AY)=none
 | [],_=>rfl
 | p :: l,h=>by
  show Cj ((Sum.inl p.1,V.ref p.2) :: DD l) (Sum.inl e:AY)=_;rw[Hu (p:=((Sum.inl p.1:AY),V.ref p.2)) (λz=>h (by rw[<-Sum.inl.inj z]; simp)),Im (λz=>h (by simp only[i8]; exact jB _ z))]
theorem Lg{e:Int}:∀{l:List (Int×Addr)},e∈l.map (·.1)->∃a,(e,a)∈l/\Cj (DD l) (Sum.inl e:AY)=some (.ref a)
 | p :: l,h=>by
  show ∃a,(e,a)∈p :: l/\Cj ((Sum.inl p.1,V.ref p.2) :: DD l) (Sum.inl e:AY)=some (.ref a);by_cases z:p.1=e
  ·exact⟨p.2,by rw[<-z]; exact jZ ..,by rw[Iy (p:=((Sum.inl p.1:AY),V.ref p.2)) (by rw[z])]⟩
  ·have hm:e∈l.map (·.1):=by
    rw[i8] at h;rcases jh.mp h with y | y
    ·exact absurd y.symm z
    ·exact y
   obtain⟨a,h1,h2⟩:=Lg hm;exact⟨a,jB _ h1,by rw[Hu (p:=((Sum.inl p.1:AY),V.ref p.2)) (λy=>z (pX y))]; exact h2⟩
theorem Zt{l:List (Int×Addr)}{e:Int}{a:Addr}(h:e∉l.map (·.1)):CL (DD l) (Sum.inl e:AY) (.ref a)=DD (l++[(e,a)]):=by
 rw[Ny (Im h)];simp
structure CG(H:Hp)(L:Nat)(P:Int->Rat)(Z:Int)(N:Nat)(l:List (Int×Addr)):Prop where
 nd:(l.map (·.1)).Nodup
 inn:∀q∈l,AD L q.1
 fr:∀q∈l,AS H q.2 (P q.1)/\Uw Z N l.length (P q.1)
section
variable {H H':Hp} {L:Nat} {P:Int->Rat} {Z:Int} {N:Nat} {l:List (Int×Addr)}
theorem CG.keep(k:CG H L P Z N l)(s:AN H H'):CG H' L P Z N l:=⟨k.nd,k.inn,λq hq=>⟨As s (k.fr q hq).1,(k.fr q hq).2⟩⟩
theorem CG.Kc{d:Addr}{kv:List (AY×V)}(k:CG H L P Z N l)(hd:H d=some (.dK kv))(o:HO):CG (AJ H d o) L P Z N l:=⟨k.nd,k.inn,λq hq=>⟨by
 have h:H q.2=_:=(k.fr q hq).1;show AJ H d o q.2=_;rw[Ad (λz=>by rw[z,hd] at h; cases h)];exact h,(k.fr q hq).2⟩⟩
theorem CG.len(k:CG H L P Z N l):l.length<=L:=by
 have:=HL L (l.map (·.1)) k.nd (λx hx=>by
  obtain⟨q,hq,rfl⟩:=i7.mp hx;exact k.inn q hq)
 rwa [ig] at this
theorem CG.Aq{e:Int}{a:Addr}(he:AD L e)(h:AS H a 0)(hP:P e=0):CG H L P Z N [(e,a)]:=by
 refine⟨by simp,λq hq=>?_,λq hq=>?_⟩
 ·rw[jA.mp hq]; exact he
 ·rw[jA.mp hq,hP]; exact⟨h,(Uw.zero Z N).mono (by omega)⟩
theorem CG.Dt(k:CG H L P Z N l){e:Int}{a:Addr}(hn:e∉l.map (·.1))(he:AD L e)(h:AS H a (P e))(u:Uw Z N (l.length+1) (P e)):CG H L P Z N (l++[(e,a)]):=by
 refine⟨?_,λq hq=>?_,λq hq=>?_⟩
 ·rw[ji,jY];refine⟨k.nd,by simp,λx hx y hy=>?_⟩;simp only[i8,kf,jA] at hy;subst hy;exact λz=>hn (z ▸ hx)
 ·rcases i9.mp hq with z | z
  ·exact k.inn q z
  ·rw[jA.mp z]; exact he
 ·rw[jc];rcases i9.mp hq with z | z
  ·exact⟨(k.fr q z).1,(k.fr q z).2.mono (by simp)⟩
  ·rw[jA.mp z]; exact⟨h,u⟩
theorem CG.all(k:CG H L P Z N l)(h:L<=l.length){e:Int}(he:AD L e):e∈l.map (·.1):=by
 by_cases z:e∈l.map (·.1)
 ·exact z
 ·have:=HL L (e :: l.map (·.1)) (jV.mpr ⟨z,k.nd⟩) (λx hx=>by
   rcases jh.mp hx with rfl | hx
   ·exact he
   ·obtain⟨q,hq,rfl⟩:=i7.mp hx;exact k.inn q hq)
  rw[jD,ig] at this;omega
end
def EO(ts:List (List Int))(n:Nat):List Int:=(List.range n).map λe:Nat=>((BC (Am (AL ts) n) (e:Int):Nat):Int)
theorem cY{ts:List (List Int)}{n:Nat}(T:B9 n ts):((List.range n).map λe:Nat=>(lk (C6 0 (Am (AL ts) n)) (e:Int)).getD 0)=EO ts n:=by
 unfold EO;refine ko λe he=>?_
 have:=jw.mp he
 rw[UZ (Gz T.perm) ((EG T.perm).mpr ⟨by omega,by omega⟩)];rfl
theorem Tc{ts:List (List Int)}{n e:Nat}(h:e<n):Bt ((EO ts n).map V.int) ((e:Nat):Int)=some (.int ((BC (Am (AL ts) n) (e:Int):Nat):Int)) :=
 BX (OT (by unfold EO; rw[iy,j4 h]; rfl))
theorem aC(ts:List (List Int))(n:Nat):(EO ts n).length=n:=by unfold EO; rw[ig,jN]
theorem bF{ts:List (List Int)}{n:Nat}(T:B9 n ts){x:Int}(hx:x∈EO ts n)(h:∀a∈EO ts n,a<=x):x=((Am (AL ts) n).length:Int)-1:=by
 have mm:∀e,AD n e->((BC (Am (AL ts) n) e:Nat):Int)∈EO ts n:=λe he=>by
  unfold EO;exact i7.mpr ⟨e.toNat,jw.mpr (by have:=he.1; have:=he.2; omega),by rw[show((e.toNat:Nat):Int)=e by have:=he.1; omega]⟩
 unfold EO at hx;obtain⟨e,he,rfl⟩:=i7.mp hx
 have:=jw.mp he
 have l1:=R6 T (x:=(e:Int)) ⟨by omega,by omega⟩;obtain⟨y,hy,ey⟩:=Qx T (j:=(Am (AL ts) n).length-1) (by omega)
 have:=h _ (mm y hy)
 rw[ey] at this;omega
structure WK(rs:List AO)(Y:Nat->Rat)(Z:Int)(N:Nat):Prop where
 z0:Z≠0
 zl:Z.natAbs<=2 ^ 3900
 nl:N+6<=3900
 ru:∀r∈rs,Uw Z N 1 (A5 Y r)
structure Dv(rs:List AO)(ts:List (List Int))(Y:Nat->Rat)(p:Int->Rat)(Z:Int)(N:Nat):Prop where
 m14:rs.length<=14
 tn:B9 (2*rs.length+2) ts
 hg:Ol ts rs.length
 pp:MS rs ts Y p
 wd:WK rs Y Z N
abbrev BA(rs:List AO)(ts:List (List Int))(x:Int):Int:=((BC (Am (AL ts) (2*rs.length+2)) x:Nat):Int)
abbrev CO(rs:List AO)(ts:List (List Int)):Nat:=(Am (AL ts) (2*rs.length+2)).length
section
variable {rs:List AO} {ts:List (List Int)} {Y:Nat->Rat} {p:Int->Rat} {Z:Int} {N:Nat} {H:Hp} {l:List (Int×Addr)}
theorem Dv.in(D:Dv rs ts Y p Z N){x:Int}(hx:AD (2*rs.length+2) x):AD (CO rs ts) (BA rs ts x):=⟨by unfold BA; omega,by unfold BA CO; have:=R6 D.tn hx; omega⟩
theorem Dv.le(D:Dv rs ts Y p Z N):CO rs ts<=30:=by
 have:=(Ms D.tn.perm (i4 _)).2
 have:=D.m14
 unfold CO;omega
theorem Dv.at(D:Dv rs ts Y p Z N){x:Int}(hx:AD (2*rs.length+2) x):EM ts (2*rs.length+2) p (BA rs ts x)=p x:=ZC D.tn D.pp.inv hx
theorem Dv.sf(D:Dv rs ts Y p Z N){c:Nat}{q:Rat}(h:Uw Z N c q)(hc:c<=64):Sf q:=h.sf D.wd.z0 D.wd.zl hc D.wd.nl
theorem Dv.full (D:Dv rs ts Y p Z N) (k:CG H (CO rs ts) (EM ts (2*rs.length+2) p) Z N l) (h0:BA rs ts (2*(rs.length:Int))∈l.map (·.1))
  (cl:∀j:Nat,j<rs.length->(BA rs ts (2*(j:Int))∈l.map (·.1)↔BA rs ts (2*(j:Int)+1)∈l.map (·.1))):CO rs ts<=l.length:=by
 have all:=D.hg (λx=>BA rs ts x∈l.map (·.1)) (λx hx=>by rw[show BA rs ts (AL ts x)=BA rs ts x by unfold BA; rw[Qb D.tn hx]]) cl h0
 have:=Li ((List.range (CO rs ts)).map λj:Nat=>(j:Int)) (l.map (·.1)) (by
  rw[List.Nodup,kE];exact mN (λh e=>h (by omega)) kU) (λx hx=>by
  obtain⟨j,hj,rfl⟩:=i7.mp hx;obtain⟨y,hy,ey⟩:=Qx D.tn (jw.mp hj)
  have:=all y hy
  unfold BA at this
  rwa [ey] at this)
 rwa [ig,ig,jN] at this
theorem Dv.step(D:Dv rs ts Y p Z N)(k:CG H (CO rs ts) (EM ts (2*rs.length+2) p) Z N l){j:Nat}{r:AO}(hj:rs[j]?=some r):
  (BA rs ts (2*(j:Int)+1)∈l.map (·.1)->∃a,(BA rs ts (2*(j:Int)+1),a)∈l/\Cj (DD l) (Sum.inl (BA rs ts (2*(j:Int)+1)):AY)=some (.ref a)/\AS H a (p (2*(j:Int)+1))/\Sf (p (2*(j:Int)+1)) /\
   (BA rs ts (2*(j:Int))∉l.map (·.1)->∀b H',AN H H'->AS H' b (p (2*(j:Int)+1)+A5 Y r)->CG H' (CO rs ts) (EM ts (2*rs.length+2) p) Z N (l++[(BA rs ts (2*(j:Int)),b)]))) /\
  (BA rs ts (2*(j:Int))∈l.map (·.1)->∃a,(BA rs ts (2*(j:Int)),a)∈l/\Cj (DD l) (Sum.inl (BA rs ts (2*(j:Int))):AY)=some (.ref a)/\AS H a (p (2*(j:Int)))/\Sf (p (2*(j:Int))) /\
   (BA rs ts (2*(j:Int)+1)∉l.map (·.1)->∀b H',AN H H'->AS H' b (p (2*(j:Int))-A5 Y r)->CG H' (CO rs ts) (EM ts (2*rs.length+2) p) Z N (l++[(BA rs ts (2*(j:Int)+1),b)]))):=by
 have jl:=(ip.mp hj).1;have i0:AD (2*rs.length+2) (2*(j:Int)):=⟨by omega,by push_cast; omega⟩;have i1:AD (2*rs.length+2) (2*(j:Int)+1):=⟨by omega,by push_cast; omega⟩;have df:=D.pp.df j r hj;have ru:=D.wd.ru r (iq hj);have kl:=k.len;have L30:=D.le;constructor
 ·intro h;obtain⟨a,h1,h2⟩:=Lg h;obtain⟨f1,f2⟩:=k.fr _ h1;dsimp only at f1 f2;rw[D.at i1] at f1 f2;refine⟨a,h1,h2,f1,D.sf f2 (by omega),λhn b H' s hb=>?_⟩;have e:p (2*(j:Int)+1)+A5 Y r=p (2*(j:Int)):=by grind
  refine(k.keep s).Dt hn (D.in i0) ?_ ?_
  ·rw[D.at i0,<-e]; exact hb
  ·rw[D.at i0,<-e]; exact f2.Dt ru
 ·intro h;obtain⟨a,h1,h2⟩:=Lg h;obtain⟨f1,f2⟩:=k.fr _ h1;dsimp only at f1 f2;rw[D.at i0] at f1 f2;refine⟨a,h1,h2,f1,D.sf f2 (by omega),λhn b H' s hb=>?_⟩;have e:p (2*(j:Int))-A5 Y r=p (2*(j:Int)+1):=by grind
  refine(k.keep s).Dt hn (D.in i1) ?_ ?_
  ·rw[D.at i1,<-e]; exact hb
  ·rw[D.at i1,<-e]; exact f2.Di ru
end
def GK(x y:Rat):Rat:=if y<x then y else x
def GH(x y:Rat):Rat:=if y<x then x else y
theorem Nx{rs:List AO}{ts:List (List Int)}{j:Nat}(h:j<=rs.length):Bt ((EO ts (2*rs.length+2)).map V.int) (2*(j:Int))=some (.int (BA rs ts (2*(j:Int)))):=by
 have:=Tc (ts:=ts) (n:=2*rs.length+2) (e:=2*j) (by omega)
 rwa [show((2*j:Nat):Int)=2*(j:Int) by omega] at this
theorem NW{rs:List AO}{ts:List (List Int)}{j:Nat}(h:j<=rs.length):Bt ((EO ts (2*rs.length+2)).map V.int) (2*(j:Int)+1)=some (.int (BA rs ts (2*(j:Int)+1))):=by
 have:=Tc (ts:=ts) (n:=2*rs.length+2) (e:=2*j+1) (by omega)
 rwa [show((2*j+1:Nat):Int)=2*(j:Int)+1 by omega] at this
section
variable {P:Program} {w:World} {K:PySem.W.Frag} {mg:Str->Option Value} {base:Heap} {f g h f1 f2 f3 f4 f5:Addr} {fd gd hd d1 d2 d3 d4 d5:FuncData}
inductive Sk(vs:List V)(H:Hp)(Q:VK):Prop
 | mk (p q:Addr) (x y:Rat) (h_0:vs=[.ref p,.ref q]) (h_1:AS H p x) (h_2:AS H q y) (h_3:Sf x) (h_4:Sf y) (h_5:Q (.bl (decide (x<y))) H):Sk vs H Q
def Ur:Sp:=λvs H Q _=>Sk vs H Q
theorem eC:A2 ["one","other"] ["one","other"] (Ap s_less):=A8
theorem Zu(F:Ar K "less" "less" s_less f fd):Ao P w K mg base Ay 1 f fd ["one","other"] Ur:=by
 refine F.A9 eC λcdv A outer s H vs Q E hr h=>?_
 obtain⟨p,q,x,y,rfl,hp,hq,sx,sy,k⟩:=h;refine⟨_,AV (An (JG L7 (AM DG (pT K (pv 0) AE) (pT K (pv 1) AE)) (AM DG (pT K (pv 1) AE) (pT K (pv 0) AE)) (BH _))),?_⟩;rw[show decide (x<y)=decide (x.num*(y.den:Int)<y.num*(x.den:Int)) from decide_eq_decide.mpr (Rat.lt_iff x y)] at k;exact⟨_,rfl,p,_,_,_,rfl,rfl,AI.of hp,BE,_,rfl,q,_,_,_,rfl,rfl,AI.of hq,A3,_,_,rfl,rfl,⟨sx.n,sy.d⟩,_,rfl,q,_,_,_,rfl,rfl,AI.of hq,BE,_,rfl,p,_,_,_,rfl,rfl,AI.of hp,A3,_,_,rfl,rfl,⟨sy.n,sx.d⟩,_,_,rfl,rfl,k⟩
inductive TM(vs:List V)(H:Hp)(Q:VK):Prop
 | mk (p q:Addr) (x y:Rat) (h_0:vs=[.ref p,.ref q]) (h_1:AS H p x) (h_2:AS H q y) (h_3:Sf x) (h_4:Sf y) (h_5:∀t a b,H t=none->AS H a (GK x y)->AS H b (GH x y)->Q (.ref t) (AJ H t (.AG [.ref a,.ref b]))):TM vs H Q
def VU:Sp:=λvs H Q _=>TM vs H Q
theorem gF:A2 ["one","other"] ["one","other"] (Ap s_rising):=A8
theorem YE(F:Ar K "rising" "rising" s_rising f fd)(G:Al P w K mg base 1 "less" ["one","other"] Ur):Ao P w K mg base Ay 2 f fd ["one","other"] VU:=by
 refine F.A9 gF λcdv A outer s H vs Q E hr h=>?_
 obtain⟨p,q,x,y,rfl,hp,hq,sx,sy,k⟩:=h;refine⟨_,AV (An (NP (Dn (Aa G hr (AA (pv 1) (AA (pv 0) AB)))) (Bf (AA (pv 1) (AA (pv 0) AB))) (Bf (AA (pv 0) (AA (pv 1) AB))))),?_⟩;refine⟨_,rfl,_,rfl,q,p,y,x,rfl,hq,hp,sy,sx,_,rfl,?_⟩;unfold GK GH at k;by_cases z:y<x
 ·rw[i5 z,i5 z] at k;exact De z ⟨_,rfl,_,rfl,by exact CA,λt ht=>k t q p ht hq hp⟩
 ·rw[iz z,iz z] at k;exact DP z ⟨_,rfl,_,rfl,by exact CA,λt ht=>k t p q ht hp hq⟩
inductive Rb(vs:List V)(H:Hp)(Q:VK):Prop
 | mk (a b:Addr) (rs:List AO) (ts:List (List Int)) (Y:Nat->Rat) (p:Int->Rat) (Z:Int) (N:Nat) (h_0:vs=[.ref a,.ref b]) (h_1:H a=some (.AG ((EO ts (2*rs.length+2)).map V.int))) (h_2:A4 AS H b (rs.map (A5 Y))) (h_3:Dv rs ts Y p Z N)
  (h_4:∀d l H',AN H H'->H' d=some (.dK (DD l))->CG H' (CO rs ts) (EM ts (2*rs.length+2) p) Z N l->CO rs ts<=l.length->Q (.ref d) H'):Rb vs H Q
def Sw:Sp:=λvs H Q _=>Rb vs H Q
theorem IV:A2 ["lands","widths","outer","sides","k","width","right","left"] ["lands","widths"] (Ap s_land_sides):=A8
seal L2.DF L2.PS L2.PE L2.PA in
theorem ZF (F:Ar K "land_sides" "land_sides" s_land_sides f fd) (G1:Al P w K mg base 3 "plus" ["one","other"] (DY λx y=>x+y))
  (G2:Al P w K mg base 3 "minus" ["one","other"] (DY λx y=>x-y)) (ml:mg "len" = none) (mx:mg "max" = none) (me:mg "enumerate" = none):Ao P w K mg base Ay 4 f fd ["lands","widths"] Sw:=by
 refine F.A9 IV λcdv A outer s H vs Q E hr h=>?_
 obtain⟨a,b,rs,ts,Y,p,Z,N,rfl,ha,⟨bs,hb,hB⟩,D,q⟩:=h;have hu:=FN hr;refine⟨_,AR (AX (i:=2) IV.nd rfl (Or.inl rfl) (Au (Bb (K:=K)) (by rfl) ml BO (AA (pv 1) AB)))
  (AR (AX (i:=3) IV.nd rfl (Or.inl rfl) (Sz (NK (pT K (pv 0) (AM Bw AE (pv 2))) (Bf (AA AE (AA AE AB))) SF) rfl rfl (λz=>by cases z) (by decide)))
  (AR (Hx jt (BN eW (Au Mt (by rfl) ml BO (AA (pv 3) AB)) (Au (YR rfl) (by rfl) mx TQ (AA (pv 0) AB)) (BH _))
   (AV (CQ jt rfl (JE (by rfl) me (AA (pv 1) AB)) (Ds (n:=2) (K:=K) rfl (BF (Ae (i:=4) IV.nd rfl (Or.inl rfl)) (BF (Ae (i:=5) IV.nd rfl (Or.inl rfl)) Cq)))
    (AR (AX (i:=6) IV.nd rfl (Or.inl rfl) (pT K (pv 0) (AM Bw AE (pv 4))))
    (AR (AX (i:=7) IV.nd rfl (Or.inl rfl) (pT K (pv 0) (AM Bc (AM Bw AE (pv 4)) AE)))
    (AV (Bl (PW.pt (OA (KZ (Te hu (pv 7) (pv 3))) (Nm (KZ (Mn hu (pv 6) (pv 3))))))
     (AV (GR hu (pv 3) (pv 6) (Aa G1 hr (AA (EU hu (pv 3) (pv 7) (λ_ _=>rfl)) (AA (pv 5) AB))) rfl))
     (AV (Bl (PW.pt (OA (KZ (Te hu (pv 6) (pv 3))) (Nm (KZ (Mn hu (pv 7) (pv 3))))))
      (AV (GR hu (pv 3) (pv 7) (Aa G2 hr (AA (EU hu (pv 3) (pv 6) (λ_ _=>rfl)) (AA (pv 5) AB))) rfl)) B7)))))))))
  (AV (An (pv 3))))),?_⟩
 have m14:=D.m14;have lb:bs.length=rs.length:=by rw[hB.1,ig]
 have i0:AD (2*rs.length+2) (2*(rs.length:Int)):=⟨by omega,by push_cast; omega⟩;refine⟨_,rfl,b,_,rfl,.inr (AI.of hb),?_⟩;rw[ig,lb];intro d hd;obtain⟨H1,zg,s1,e1⟩:=nw hd (.dK []);rw[zg];refine⟨_,rfl,_,rfl,_,_,rfl,rfl,.inl ⟨by decide,by decide⟩,a,_,_,_,rfl,rfl,AI.of (s1 _ _ ha),Nx (i4 _),by exact CA,λz hz=>?_⟩;obtain⟨H2,zg,s2,zz⟩:=nw hz (.AG [.int 0,.int 1]);rw[zg];have fz:AS H2 z 0:=zz;have e2:=s2 _ _ e1;refine⟨e2,[(Sum.inl (BA rs ts (2*(rs.length:Int))),.ref z)],rfl,by show 1<=15; decide,?_⟩;have s3:AN H (AJ H2 d (.dK (Ft [] [((Sum.inl (BA rs ts (2*(rs.length:Int))):AY),V.ref z)]))):=(s1.trans s2).up hd _;have e3:(AJ H2 d (.dK (Ft [] [((Sum.inl (BA rs ts (2*(rs.length:Int))):AY),V.ref z)]))) d=some (.dK (DD [(BA rs ts (2*(rs.length:Int)),z)])):=AU;have k3:CG (AJ H2 d (.dK (Ft [] [((Sum.inl (BA rs ts (2*(rs.length:Int))):AY),V.ref z)]))) (CO rs ts) (EM ts (2*rs.length+2) p) Z N [(BA rs ts (2*(rs.length:Int)),z)] :=
  (CG.Aq (D.in i0) fz (by rw[D.at i0]; exact D.pp.o)).Kc e2 _
 generalize AJ H2 d (.dK (Ft [] [((Sum.inl (BA rs ts (2*(rs.length:Int))):AY),V.ref z)]))=H3 at s3 e3 k3;have ad:a≠d:=λz=>by rw[z,hd] at ha; cases ha
 have bd:b≠d:=λz=>by rw[z,hd] at hb; cases hb
 refine Hv (λσ H4=>∃l u1 u2 u3 u4,σ=[some (.ref a),some (.ref b),some (.int (rs.length:Int)),some (.ref d),u1,u2,u3,u4]/\AN H H4/\H4 d=some (.dK (DD l))/\CG H4 (CO rs ts) (EM ts (2*rs.length+2) p) Z N l/\BA rs ts (2*(rs.length:Int))∈l.map (·.1))
  (λ_ H4=>match H4 d with | some (.dK kv)=>CO rs ts-kv.length | _=>0) ⟨_,none,none,none,none,rfl,s3,e3,k3,by simp⟩ ?_ ?_
 ·rintro σ H4 ⟨l,u1,u2,u3,u4,rfl,s4,hd4,k4,c4⟩;refine⟨_,rfl,d,_,rfl,hd4,_,rfl,a,_,rfl,s4 _ _ ha,by rw[aC]; omega,λx hx mx'=>?_⟩;rw[bF D.tn hx mx',ig];refine⟨_,_,rfl,rfl,_,rfl,?_⟩;by_cases hlt:(l.length:Int)<=(CO rs ts:Int)-1
  ·refine De hlt ?_;refine⟨_,rfl,b,_,rfl,s4 _ _ hb,?_⟩;refine JB (xs:=bs.map V.ref) (λi σ H5=>∃l' u1 u2 u3 u4,σ=[some (.ref a),some (.ref b),some (.int (rs.length:Int)),some (.ref d),u1,u2,u3,u4]/\AN H H5/\H5 d=some (.dK (DD l'))/\CG H5 (CO rs ts) (EM ts (2*rs.length+2) p) Z N l'/\BA rs ts (2*(rs.length:Int))∈l'.map (·.1)/\l.length<=l'.length /\
     (l'.length=l.length->l'=l/\∀j:Nat,j<i->(BA rs ts (2*(j:Int))∈l.map (·.1)↔BA rs ts (2*(j:Int)+1)∈l.map (·.1))))
    ⟨l,u1,u2,u3,u4,rfl,s4,hd4,k4,c4,i4 _,λ_=>⟨rfl,λj hj=>absurd hj (Nat.not_lt_zero _)⟩⟩ (λi σ H5 _ ⟨_,_,_,_,_,_,s5,_⟩=>s5 _ _ hb) ?_ ?_
   ·rintro i x σ H5 tp hx ⟨l',v1,v2,v3,v4,rfl,s5,hd5,k5,c5,le5,cl5⟩ htp;obtain⟨c,q1,rfl,_,hy,hc⟩:=hB.ref hx;obtain⟨r,hr1,rfl⟩:∃r,rs[i]?=some r/\A5 Y r=q1:=by
     rw[iy] at hy;cases e:rs[i]? with
     | none=>rw[e] at hy; cases hy
     | some r=>rw[e] at hy; exact⟨r,rfl,je hy⟩
    have il:=(ip.mp hr1).1;obtain⟨H6,zg,s6,e6⟩:=nw htp (.AG [.int (i:Int),.ref c]);rw[zg];have hd6:=s6 _ _ hd5;have k6:=k5.keep s6;have s06:=s5.trans s6;refine⟨tp,_,rfl,AI.of e6,rfl,_,_,rfl,_,_,rfl,rfl,?_⟩;refine⟨_,rfl,_,rfl,_,_,rfl,rfl,.inl ⟨by decide,by decide⟩,a,_,_,_,rfl,rfl,AI.of (s06 _ _ ha),Nx (by omega),?_⟩;refine⟨_,rfl,_,rfl,_,_,rfl,rfl,.inl ⟨by decide,by decide⟩,_,_,rfl,rfl,a,_,_,_,rfl,rfl,AI.of (s06 _ _ ha),NW (by omega),?_⟩;obtain⟨stR,stL⟩:=D.step k6 hr1;have ruS:=D.sf (D.wd.ru r (iq hr1)) (by decide);have fc:=As s06 (by exact hc);have kl:=k6.len;have L30:=D.le;have szK:(DD l').length<sizeLine:=by rw[ig]; exact Cw (by omega)
    have g1:=DL.k (k:=Sum.inl (BA rs ts (2*(i:Int)+1))) hd6;have g0:=DL.k (k:=Sum.inl (BA rs ts (2*(i:Int)))) hd6;have same:∀(h:BA rs ts (2*(i:Int))∈l'.map (·.1)↔BA rs ts (2*(i:Int)+1)∈l'.map (·.1)),l'.length=l.length->l'=l/\∀j:Nat,j<i+1->(BA rs ts (2*(j:Int))∈l.map (·.1)↔BA rs ts (2*(j:Int)+1)∈l.map (·.1)):=λh z=>by
     obtain⟨rfl,c2⟩:=cl5 z;refine⟨rfl,λj hj=>?_⟩;rcases jv j i with y | y
     ·exact c2 j y
     ·obtain rfl:j=i:=by omega
      exact h
    have more:∀(e:Int) (t:Addr) (H8:Hp),e∉l'.map (·.1)->AN H6 H8->CG H8 (CO rs ts) (EM ts (2*rs.length+2) p) Z N (l'++[(e,t)])->∃l'' w1 w2 w3 w4,[some (V.ref a),some (.ref b),some (.int (rs.length:Int)),some (.ref d),some (.int (i:Int)),some (.ref c),some (.int (BA rs ts (2*(i:Int)))),some (.int (BA rs ts (2*(i:Int)+1)))]=[some (.ref a),some (.ref b),some (.int (rs.length:Int)),some (.ref d),w1,w2,w3,w4] /\
      AN H (AJ H8 d (.dK (CL (DD l') (Sum.inl e:AY) (.ref t))))/\(AJ H8 d (.dK (CL (DD l') (Sum.inl e:AY) (.ref t)))) d=some (.dK (DD l''))/\CG (AJ H8 d (.dK (CL (DD l') (Sum.inl e:AY) (.ref t)))) (CO rs ts) (EM ts (2*rs.length+2) p) Z N l''/\BA rs ts (2*(rs.length:Int))∈l''.map (·.1)/\l.length<=l''.length /\
      (l''.length=l.length->l''=l/\∀j:Nat,j<i+1->(BA rs ts (2*(j:Int))∈l.map (·.1)↔BA rs ts (2*(j:Int)+1)∈l.map (·.1))):=λe t H8 hn s8 k8=>by
     refine⟨l'++[(e,t)],_,_,_,_,rfl,(s06.trans s8).up hd _,by rw[AU,Zt hn],k8.Kc (s8 _ _ hd6) _,by rw[ji]; exact i9.mpr (.inl c5),by rw[jc]; omega,λz=>?_⟩;rw[jc,kh] at z;omega
    refine⟨_,rfl,_,rfl,d,_,rfl,g1,_,rfl,?_⟩;by_cases h1:BA rs ts (2*(i:Int)+1)∈l'.map (·.1)
    ·obtain⟨al,_,vl,fl,sl,addR⟩:=stR h1;rw[vl];rw[vl] at g1;refine Ed ?_;refine⟨_,rfl,_,rfl,d,_,rfl,g0,_,rfl,?_⟩;by_cases h0:BA rs ts (2*(i:Int))∈l'.map (·.1)
     ·obtain⟨ar,_,vr,fr,sr,addL⟩:=stL h0;rw[vr];rw[vr] at g0;refine Bh ?_;refine⟨_,rfl,_,rfl,d,_,rfl,g0,_,rfl,Ed ?_⟩;refine⟨_,rfl,_,rfl,d,_,rfl,g1,_,rfl,Bh ?_⟩;exact⟨l',_,_,_,_,rfl,s06,hd6,k6,c5,le5,same ⟨λ_=>h1,λ_=>h0⟩⟩
     ·rw[Im h0];refine Ed ?_;refine⟨_,rfl,_,rfl,d,_,rfl,g1,_,rfl,al,c,_,_,rfl,fl,fc,sl,ruS,λt ht=>?_⟩;have s8:=AZ ht (.AG [.int (p (2*(i:Int)+1)+A5 Y r).num,.int (p (2*(i:Int)+1)+A5 Y r).den]);exact⟨_,rfl,_,rfl,d,_,rfl,D8.k (k:=Sum.inl (BA rs ts (2*(i:Int)))) (s8 _ _ hd6) szK,more _ t _ h0 s8 (addR h0 t _ s8 AU)⟩
    ·rw[Im h1];rw[Im h1] at g1;refine Bh (Bh ?_);refine⟨_,rfl,_,rfl,d,_,rfl,g0,_,rfl,?_⟩;by_cases h0:BA rs ts (2*(i:Int))∈l'.map (·.1)
     ·obtain⟨ar,_,vr,fr,sr,addL⟩:=stL h0;rw[vr];rw[vr] at g0;refine Ed ?_;refine⟨_,rfl,_,rfl,d,_,rfl,g1,_,rfl,Ed ?_⟩;refine⟨_,rfl,_,rfl,d,_,rfl,g0,_,rfl,ar,c,_,_,rfl,fr,fc,sr,ruS,λt ht=>?_⟩;have s8:=AZ ht (.AG [.int (p (2*(i:Int))-A5 Y r).num,.int (p (2*(i:Int))-A5 Y r).den]);exact⟨_,rfl,_,rfl,d,_,rfl,D8.k (k:=Sum.inl (BA rs ts (2*(i:Int)+1))) (s8 _ _ hd6) szK,more _ t _ h1 s8 (addL h1 t _ s8 AU)⟩
     ·rw[Im h0];refine Bh (Bh ?_);exact⟨l',_,_,_,_,rfl,s06,hd6,k6,c5,le5,same ⟨λz=>absurd z h0,λz=>absurd z h1⟩⟩
   ·rintro σ H5 ⟨l',v1,v2,v3,v4,rfl,s5,hd5,k5,c5,le5,cl5⟩;refine⟨⟨l',_,_,_,_,rfl,s5,hd5,k5,c5⟩,?_⟩;show(match H5 d with | some (.dK kv)=>CO rs ts-kv.length | _=>0)<(match H4 d with | some (.dK kv)=>CO rs ts-kv.length | _=>0);rw[hd5,hd4];show CO rs ts-(DD l').length<CO rs ts-(DD l).length;rw[ig,ig];rcases jv l.length l'.length with z | z
    ·omega
    ·obtain⟨rfl,c2⟩:=cl5 (by omega)
     have:=D.full k5 c5 (λj hj=>c2 j (by rw[ig,lb]; exact hj))
     omega
  ·refine DP hlt ?_;exact⟨_,rfl,q d l H4 s4 hd4 k4 (by omega)⟩
 ·rintro σ H4 Q1 Q2 hq ⟨v,e,d',kv,z1,z2,v',e',a',ns,y1,y2,y3,z⟩;exact⟨v,e,d',kv,z1,z2,v',e',a',ns,y1,y2,y3,λm hm hl=>by
   obtain⟨i,j,e1,e2,b,eb,zz⟩:=z m hm hl;exact⟨i,j,e1,e2,b,eb,hq _ _ zz⟩⟩
theorem RK(X Y:Nat->Rat)(i:Nat):∀rs:List AO,BJ (λj=>X j-Y j) rs i=BJ X rs i-BJ Y rs i
 | []=>by unfold BJ; simp; grind
 | r :: rs=>by
  have e:CK (λj=>X j-Y j) i r=CK X i r-CK Y i r:=by
   unfold CK A5;split <;> split <;> grind
  have:=RK X Y i rs
  unfold BJ at this ⊢;rw[i8,i8,i8,jy,jy,jy,this,e]
  grind
theorem Rt(X:Nat->Rat)(c:Rat)(i:Nat):∀rs:List AO,BJ (λj=>X j*c) rs i=BJ X rs i*c
 | []=>by unfold BJ; simp
 | r :: rs=>by
  have e:CK (λj=>X j*c) i r=CK X i r*c:=by
   unfold CK A5;split <;> split <;> grind
  have:=Rt X c i rs
  unfold BJ at this ⊢;rw[i8,i8,jy,jy,this,e]
  grind
theorem ZT{n m α β B B':Nat}{rs:List AO}{X Y:Nat->Rat}(k:Cg n m α β rs)(hX:E5 n B rs X)(hY:E5 n B' rs Y):∀j,j<n+2->X j=Y j:=by
 have:=Qi (X:=λj=>X j-Y j) (λr hr=>⟨(k.C8 r hr).1,(k.C8 r hr).2.1,k.pos r hr⟩) k.CY (by show X 0-Y 0=0; rw[hX.x0,hY.x0]; grind) (λi hi=>by
  match i,hi with
  | 0,_=>left; show X 0-Y 0=0; rw[hX.x0,hY.x0]; grind
  | 1,_=>left; show X 1-Y 1=0; rw[hX.x1,hY.x1]; grind
  | i+2,hi=>right; rw[RK,hX.bal (i+2) (by omega) hi,hY.bal (i+2) (by omega) hi]; grind)
 intro j hj
 have:=this j hj
 grind
structure Pw(n:Nat)(rs:List AO)(X:Nat->Rat)(F:Rat):Prop where
 hs:∀j,j<n+2->Sf (X j)
 ys:∀j,j<n+2->Sf (X j*F)
 fs:∀r∈rs,Sf (X r.1-X r.2.1)
 ds:∀r∈rs,Sf (X r.1*F-X r.2.1*F)
 es:∀r∈rs,Sf r.2.2
 rx:∀r∈rs,Sf (A5 X r)
 sF:Sf F
theorem E5.Ug{n:Nat}{rs:List AO}{X:Nat->Rat}{F:Rat}(k:Cg n 14 10 10 rs)(h:E5 n ((8+10*14+10)*n) rs X)(hF:Sb 30 30 F):Pw n rs X F/\∃Z N,WK rs (λj=>X j*F) Z N:=by
 obtain⟨Z,N,z⟩:=h.fG k;obtain⟨W,w0,wl,wx⟩:=h.wh;have n13:=k.hb.n13;have hB:(8+10*14+10)*n<=2212:=by omega
 generalize (8+10*14+10)*n=B at *;have hd:C0 rs<=2 ^ 140:=k.den;have hp:=Iz rs;have fd0:(F.den:Int)≠0:=by have:=F.den_nz; omega
 have fF:((F.den:Int):Rat)*F=(F.num:Int):=by
  have d0:(F.den:Rat)≠0:=by have:=F.den_nz; exact_mod_cast this
  have e:F=(F.num:Rat) / (F.den:Rat):=(nO F).symm.trans (by rw[nX]; rfl);rw[ic]
  conv=>lhs; rw[e]
  grind
 have fn:F.num.natAbs<=2 ^ 30:=hF.1;have fl:(F.den:Int).natAbs<=2 ^ 30:=by rw[jz]; exact hF.2
 have wf:(W*(F.den:Int)).natAbs<=2 ^ (B+30):=by rw[jG]; exact C3 wl fl
 have fall:∀r∈rs,∃c:Int,(W:Rat)*(X r.1-X r.2.1)=c/\c.natAbs<=2 ^ (B+1):=λr hr=>by
  obtain⟨a1,a2,a3⟩:=k.C8 r hr;obtain⟨x,e1,l1⟩:=wx _ a1;obtain⟨y,e2,l2⟩:=wx _ a2;refine⟨x-y,by rw[nB,<-e1,<-e2]; grind,?_⟩
  have:=nU x y
  rw[lE]; omega
 have run:∀r∈rs,∃c:Int,((W*(C0 rs:Int)*(F.den:Int):Int):Rat)*A5 (λj=>X j*F) r=c/\c.natAbs<=2 ^ (140+10+(B+1)+30):=λr hr=>by
  obtain⟨c,e,l⟩:=fall r hr;obtain⟨v,hv⟩:=Nj (LP hr);refine⟨v*c*F.num,?_,?_⟩
  ·rw[jQ,jQ,jQ,jQ,<-hv,<-e,<-fF,ic];unfold A5; grind
  ·have ab:Ab ((2 ^ 140:Nat):Rat) ((C0 rs:Nat):Rat):=IG (x:=(C0 rs:Int)) (by rw[jz]; exact hd);have vb:=ab.Eh (k.C8 r hr).2.2.vb;rw[hv,<-Rat.natCast_mul,<-Nat.pow_add] at vb;rw[jG,jG];exact C3 (C3 (Fn vb) l) fn
 refine⟨⟨z.hs,λj hj=>?_,z.fs,λr hr=>?_,z.es,λr hr=>(z.ru r hr).sf z.z0 z.zl (by decide) z.nl,hF.mono (by decide) (by decide)⟩,W*(C0 rs:Int)*(F.den:Int),140+10+(B+1)+30,k7 (k7 w0 (by omega)) fd0,?_,by omega,λr hr=>?_⟩
 ·obtain⟨c,e,l⟩:=wx j hj;refine(JD (W:=W*(F.den:Int)) (k:=c*F.num) (b:=B+30) (a:=B+30) (k7 w0 fd0) ?_ (by rw[jG]; exact C3 l fn) wf).mono (by omega) (by omega);rw[jQ,jQ,<-e,<-fF]; grind
 ·obtain⟨c,e,l⟩:=fall r hr;refine(JD (W:=W*(F.den:Int)) (k:=c*F.num) (b:=B+1+30) (a:=B+30) (k7 w0 fd0) ?_ (by rw[jG]; exact C3 l fn) wf).mono (by omega) (by omega);rw[jQ,jQ,<-e,<-fF]; grind
 ·rw[jG,jG,jz (C0 rs)];exact js (C3 (C3 wl hd) fl) (jX (by decide) (by omega))
 ·obtain⟨c,e,l⟩:=run r hr;exact⟨c,e,by rw[oa]; exact l⟩
theorem BP.k{n:Nat}{rs:List AO}{ts:List (List Int)}(k:BP (n+2) rs ts):Cg n 14 10 10 rs:=by
 have:=k.n15
 refine⟨⟨by omega,by decide,by omega⟩,by have:=k.m14; omega,λr hr=>?_,λr hr=>?_,k.CY⟩
 ·obtain⟨⟨e1,e2,e3⟩,h1,h2⟩:=k.ease r hr;exact⟨h1,h2,by show r.2.2.num.natAbs<=2 ^ 10; omega,by show r.2.2.den<=2 ^ 10; omega⟩
 ·have:=(k.ease r hr).1.pos
  rw[Rat.lt_iff]; simpa using this
def Kq(p:Int->Rat)(Y:Nat->Rat)(k:Nat)(r:AO):List Rat:=[GK (p (2*(k:Int))) (p (2*(k:Int)+1)),GK (Y r.1) (Y r.2.1),GH (p (2*(k:Int))) (p (2*(k:Int)+1)),GH (Y r.1) (Y r.2.1)]
def FJ(p:Int->Rat)(Y:Nat->Rat)(rs:List AO):List (List Rat):=rs.mapIdx λk r=>Kq p Y k r
theorem Lh{p:Int->Rat}{Y:Nat->Rat}{rs:List AO}{k:Nat}{r:AO}(h:rs[k]?=some r):(FJ p Y rs)[k]?=some (Kq p Y k r):=by
 unfold FJ;rw[l5,h];rfl
theorem Fe(p:Int->Rat)(Y:Nat->Rat)(rs:List AO):(FJ p Y rs).length=rs.length:=by unfold FJ; rw[kJ]
def IK(H:Hp)(a:Addr)(W U:Rat)(rows:List (List Rat)):Prop:=∃p q r,H a=some (.AG [.ref p,.ref q,.ref r])/\AS H p W/\AS H q U/\A4 (A4 AS) H r rows
theorem RR{H H':Hp}{a:Addr}{W U:Rat}{rows:List (List Rat)}(s:AN H H')(h:IK H a W U rows):IK H' a W U rows:=by
 obtain⟨p,q,r,h1,h2,h3,h4⟩:=h;exact⟨p,q,r,s _ _ h1,s _ _ h2,s _ _ h3,Fq (R:=A4 AS) (λs h=>GY s h) s h4⟩
structure iE(n:Nat)(rs:List AO)(ts:List (List Int))(X:Nat->Rat)(F:Rat)(p:Int->Rat)(Z:Int)(N:Nat):Prop where
 nk:Cg n 14 10 10 rs
 hx:E5 n ((8+10*14+10)*n) rs X
 hf:Pw n rs X F
 ld:Dv rs ts (λj=>X j*F) p Z N
theorem S7{H:Hp}{t c0 c1 c2 c3:Addr}{x0 x1 x2 x3:Rat}(h:H t=some (.AG [.ref c0,.ref c1,.ref c2,.ref c3]))(h0:AS H c0 x0)(h1:AS H c1 x1)(h2:AS H c2 x2)(h3:AS H c3 x3):A4 AS H t [x0,x1,x2,x3] :=
 ⟨[c0,c1,c2,c3],h,rfl,λi b x e1 e2=>by
  match i,e1,e2 with
  | 0,e1,e2=>cases e1; cases e2; exact h0
  | 1,e1,e2=>cases e1; cases e2; exact h1
  | 2,e1,e2=>cases e1; cases e2; exact h2
  | 3,e1,e2=>cases e1; cases e2; exact h3⟩
theorem cg{H:Hp}{l b:Addr}{ys:List V}{o:HO}{r:List Rat}(hl:H l=some (.AF ys))(h:A4 AS H b r):A4 AS (AJ H l o) b r:=by
 obtain⟨bs,h1,h2⟩:=h;exact⟨bs,by rw[Ad (λz=>by rw[z,hl] at h1; cases h1)]; exact h1,Tg h2 hl o⟩
theorem Su{H:Hp}{l:Addr}{ys:List V}{o:HO}{bs:List Addr}{rr:List (List Rat)}(hl:H l=some (.AF ys))(h:At (A4 AS) H bs rr):At (A4 AS) (AJ H l o) bs rr:=⟨h.1,λi b x e1 e2=>cg hl (h.2 i b x e1 e2)⟩
theorem Dv.Fz{rs:List AO}{ts:List (List Int)}{Y:Nat->Rat}{p:Int->Rat}{Z:Int}{N:Nat}{H:Hp}{l:List (Int×Addr)}{d:Addr}(D:Dv rs ts Y p Z N)(k:CG H (CO rs ts) (EM ts (2*rs.length+2) p) Z N l)(hl:CO rs ts<=l.length)(hd:H d=some (.dK (DD l))){x:Int}(hx:AD (2*rs.length+2) x):
  ∃a,DL H d (.int (BA rs ts x)) (some (.ref a))/\AS H a (p x)/\Sf (p x):=by
 obtain⟨a,h1,h2⟩:=Lg (k.all hl (D.in hx));obtain⟨f1,f2⟩:=k.fr _ h1;dsimp only at f1 f2;rw[D.at hx] at f1 f2;have g:=DL.k (k:=Sum.inl (BA rs ts x)) hd;rw[h2] at g
 have:=k.len
 have:=D.le
 exact⟨a,g,f1,D.sf f2 (by omega)⟩
variable {f6:Addr} {d6:FuncData}
inductive Sg(vs:List V)(H:Hp)(Q:VK):Prop
 | mk (a b ra ta:Addr) (n:Nat) (rs:List AO) (ts:List (List Int)) (F:Rat) (h_0:vs=[.ref a,.ref b]) (h_1:H a=some (.AG [.int ((n+2:Nat):Int),.ref ra,.ref ta])) (h_2:A4 Bg H ra rs) (h_3:A4 Ba H ta ts) (h_4:AS H b F) (h_5:Cg n 14 10 10 rs)
  (h_6:∀X,E5 n ((8+10*14+10)*n) rs X->∃p Z N,iE n rs ts X F p Z N/\∀q H',AN H H'->(∀x,AD (2*rs.length+2) x->Sf (p x))->IK H' q (p (2*(rs.length:Int)+1)) F (FJ p (λj=>X j*F) rs)->Q (.ref q) H'):Sg vs H Q
def TR:Sp:=λvs H Q _=>Sg vs H Q
theorem Fw:A2 ["net","fall","levels","lands","sides","rectangles","k","rope","across","upward","width"] ["net","fall"] (Ap s_laid):=A8
theorem fN:(["level","fall"]:List Str).Nodup:=by decide +kernel
set_option maxHeartbeats 4000000 in
seal L2.DF L2.PS L2.PE L2.PA in
theorem ay (F0:Ar K "laid" "laid" s_laid f fd) (G1:Al P w K mg base 3 "times" ["one","other"] (DY λx y=>x*y))
  (G2:Al P w K mg base 5 "heights" ["net"] VQ)
  (G3:Al P w K mg base 4 "land_of" ["turns"] NL)
  (G4:Al P w K mg base 4 "land_sides" ["lands","widths"] Sw)
  (G5:Al P w K mg base 5 "runnings_by" ["net","levels"] TL)
  (G6:Al P w K mg base 2 "rising" ["one","other"] VU) (ml:mg "len" = none) (me:mg "enumerate" = none) (mt:mg "tuple" = none):Ao P w K mg base Ay 6 f fd ["net","fall"] TR:=by
 refine F0.A9 Fw λcdv A outer s H vs Q E hr h=>?_
 obtain⟨a,b,ra,ta,n,rs,ts,F,rfl,ha,hra,hta,hb,nk,qq⟩:=h;have hu:=FN hr;have r2:=hr.mono (show 2<=5 by decide);have r3:=hr.mono (show 3<=5 by decide);have r4:=hr.mono (show 4<=5 by decide);refine⟨_,AR (Iq (i:=2) Fw.nd rfl (Or.inl rfl) (Nc:=["level","fall"]) (cap:=[(1,1)]) (g:=BU 0) (te:=DI (DY λx y=>x*y) [] E0 (BI (Aj 0) (BI (Aj 1) By))) rfl (Fx (K:=K) (Aa G2 hr (AA (pv 0) AB)))
   (CB rfl rfl (by decide +kernel) (by decide +kernel) (jb.mpr ⟨⟨rfl,rfl⟩,i6 _⟩) rfl (jb.mpr ⟨⟨_,_,rfl,rfl,rfl,rfl,rfl⟩,i6 _⟩)) (λ_ _ _ _ _=>Ae (i:=0) fN rfl (Or.inl rfl))
   (λ_ _ _ _ _=>Aa G1 r3 (AA (pv 0) (AA (pv 1) AB))))
  (AR (AX (i:=3) Fw.nd rfl (Or.inl rfl) (Aa G3 r4 (AA (pT K (pv 0) AE) AB)))
  (AR (AX (i:=4) Fw.nd rfl (Or.inl rfl) (Aa G4 r4 (AA (pv 3) (AA (Aa G5 hr (AA (pv 0) (AA (pv 2) AB))) AB))))
  (AR (AX (i:=5) Fw.nd rfl (Or.inl rfl) (Cd AB))
  (AR (CQ jt rfl (JE (by rfl) me (AA (pT K (pv 0) AE) AB)) (Ds (n:=2) (K:=K) rfl (BF (Ae (i:=6) Fw.nd rfl (Or.inl rfl)) (BF (Ae (i:=7) Fw.nd rfl (Or.inl rfl)) Cq)))
   (AR (AX (i:=8) Fw.nd rfl (Or.inl rfl) (Aa G6 r2 (AA (EU hu (pv 4) (pT K (pv 3) (AM Bw AE (pv 6))) (λ_ _=>rfl)) (AA (EU hu (pv 4) (pT K (pv 3) (AM Bc (AM Bw AE (pv 6)) AE)) (λ_ _=>rfl)) AB))))
   (AR (AX (i:=9) Fw.nd rfl (Or.inl rfl) (Aa G6 r2 (AA (pL K (pv 2) (pT K (pv 7) AE)) (AA (pL K (pv 2) (pT K (pv 7) AE)) AB))))
   (AV (DN (Cr K jq jI jJ Dz (pv 5) (AA (Bf (AA (pT K (pv 8) AE) (AA (pT K (pv 9) AE) (AA (pT K (pv 8) AE) (AA (pT K (pv 9) AE) AB))))) AB))))))
  )
  (AR (AX (i:=10) Fw.nd rfl (Or.inl rfl) (EU hu (pv 4) (pT K (pv 3) (AM Bc (AM Bw AE (Au (Bb (K:=K)) (by rfl) ml BO (AA (pT K (pv 0) AE) AB))) AE)) (λ_ _=>rfl)))
  (AV (An (Bf (AA (pv 10) (AA (pv 1) (AA (Cy (Fj (K:=K)) (by rfl) mt B6 (AA (pv 5) AB)) AB)))))))))))
  ,?_⟩
 have n13:=nk.hb.n13;obtain⟨cs,hra1,hRs⟩:=hra;have lc:cs.length=rs.length:=hRs.1;refine⟨_,rfl,a,n,14,10,10,rs,rfl,⟨ra,_,ha,cs,hra1,hRs⟩,nk,λhp H1 X s1 hX hT=>?_⟩;obtain⟨p,Z,N,ly,q⟩:=qq X hX;have D:=ly.ld;have m14:=D.m14;obtain⟨bs,hp1,hB⟩:=hT;have lb:bs.length=n+2:=by rw[hB.1,ig,jN]
 refine⟨hp,rfl,⟨_,AI.of hp1⟩,λacc hacc=>?_⟩;refine CP (FE hp1) (by rw[ig]; omega) hacc (λi ys σ Hq=>∃ds:List Addr,ys=ds.map V.ref/\At AS Hq ds (((List.range (n+2)).map λj=>X j*F).take i)/\∃u,σ=[u,some (.ref b)]) ⟨[],rfl,At.nil,none,rfl⟩ ?_ ?_
 ·rintro i ys σ H3 x H4 hi sm hacc2 ⟨ds,rfl,hD,u,rfl⟩ ⟨rfl,hx⟩ Cc hC;obtain⟨c,xq,rfl,_,hy,hc⟩:=hB.ref hx;have hi':i<n+2:=by rw[ig,lb] at hi; exact hi
  rw[JA X hi'] at hy;cases hy;refine⟨_,rfl,_,rfl,c,b,_,_,rfl,sm _ _ hc,sm _ _ (s1 _ _ hb),ly.hf.hs i hi',ly.hf.sF,λt ht=>?_⟩;have st:=AZ ht (.AG [.int (X i*F).num,.int (X i*F).den]);refine hC _ _ _ st ⟨ds++[t],by simp,?_,_,rfl⟩;rw[DU (JA (λj=>X j*F) hi')];exact(hD.keep As (EH acc st)).snoc (AS.BQ (q:=X i*F) AU (st _ _ hacc2))
 rintro ys σ H2 s2 ha2 hl2 ⟨gs,rfl,hG,u,rfl⟩;rw[ig,lb,jf (by rw[ig,jN]; exact i4 _)] at hG;replace hG:=hG.keep As (D5 H2 acc);have s02:=s1.trans s2;have two:=ly.nk.two;have hA2:Ex AS H2 acc ((List.range (n+2)).map λj=>X j*F):=⟨gs,ha2,hG⟩;obtain⟨tb,hta1,hTa⟩:=hta;refine⟨_,rfl,a,_,_,_,rfl,rfl,AI.of (s02 _ _ ha),C1 _ _ _,ta,tb,ts,2*rs.length+2,rfl,⟨s02 _ _ hta1,hTa.1,λi c row e1 e2=>s02 _ _ (hTa.2 i c row e1 e2)⟩,D.tn,by omega,λlp H3 s3 nl hl3=>?_⟩;rw[cY D.tn] at hl3;have s03:=s02.trans s3;refine⟨_,rfl,_,rfl,_,rfl,a,acc,n+2,rs,(λj=>X j*F),rfl,⟨ra,_,s03 _ _ ha,cs,s03 _ _ hra1,hRs.keep D3 s03⟩,Lx (R:=AS) (λs h=>As s h) s3 hA2,by omega,λr hr=>?_,λwp H4 s4 hw4=>?_⟩
 ·obtain⟨r1,r2⟩:=two r hr;exact⟨r1,r2,ly.hf.ys _ r1,ly.hf.ys _ r2,ly.hf.ds r hr,ly.hf.es r hr⟩
 refine⟨lp,wp,rs,ts,_,p,Z,N,rfl,s4 _ _ hl3,hw4,D,λd l H5 s5 hd5 kS5 full=>?_⟩;have s35:=s4.trans s5;have s05:=s03.trans s35;have hl5:=s35 _ _ hl3;have hA5:=Lx (R:=AS) (λs h=>As s h) (s3.trans s35) hA2;obtain⟨gs',ha5,hG5⟩:=hA5;have ha5':=s05 _ _ ha;have hr5:=s05 _ _ hra1;have hR5:=hRs.keep D3 s05;have hb5:=s05 _ _ hb;refine⟨by exact Gq,λR hR=>?_⟩;obtain⟨H6,zg,s6,zz⟩:=nw hR (.AF []);rw[zg];have e6:H6 R=some (.AF (([]:List Addr).map V.ref)):=zz;refine⟨_,rfl,a,_,_,_,rfl,rfl,AI.of (s6 _ _ ha5'),EA _ _ _,ra,_,rfl,s6 _ _ hr5,?_⟩;refine JB (xs:=cs.map V.ref) (λi σ H7=>∃u6 u7 u8 u9 ds,σ=[some (.ref a),some (.ref b),some (.ref acc),some (.ref lp),some (.ref d),some (.ref R),u6,u7,u8,u9,none]/\AN H5 H7/\H7 R=some (.AF (ds.map V.ref))/\At (A4 AS) H7 ds ((FJ p (λj=>X j*F) rs).take i))
  ⟨none,none,none,none,[],rfl,s6,e6,At.nil⟩ (λi σ H7 _ ⟨_,_,_,_,_,_,s7,_⟩=>s7 _ _ hr5) ?_ ?_
 ·rintro i x σ H7 tp hx ⟨u6,u7,u8,u9,ds,rfl,s7,eR,hD⟩ htp;obtain⟨c,r,rfl,_,hy,e,hc,he⟩:=hR5.ref hx;have il:=(ip.mp hy).1;obtain⟨r1,r2⟩:=two r (iq hy);obtain⟨H8,zg,s8,e8⟩:=nw htp (.AG [.int (i:Int),.ref c]);rw[zg];have s58:=s7.trans s8;have eR8:=s8 _ _ eR;have hD8:=hD.keep (λs h=>Fq (R:=AS) (λs h=>As s h) s h) s8;have i0:AD (2*rs.length+2) (2*(i:Int)):=⟨by omega,by push_cast; omega⟩;have i1:AD (2*rs.length+2) (2*(i:Int)+1):=⟨by omega,by push_cast; omega⟩;obtain⟨ar,gr,fr,sr⟩:=D.Fz (kS5.keep s58) full (s58 _ _ hd5) i0;obtain⟨al,gl,fl,sl⟩:=D.Fz (kS5.keep s58) full (s58 _ _ hd5) i1;refine⟨tp,_,rfl,AI.of e8,rfl,_,_,rfl,_,_,rfl,rfl,?_⟩;refine⟨_,rfl,_,rfl,_,rfl,_,_,rfl,rfl,.inl ⟨by decide,by decide⟩,lp,_,_,_,rfl,rfl,AI.of (s58 _ _ hl5),Nx (by omega),d,_,rfl,gr,
   _,rfl,_,rfl,_,rfl,_,_,rfl,rfl,.inl ⟨by decide,by decide⟩,_,_,rfl,rfl,lp,_,_,_,rfl,rfl,AI.of (s58 _ _ hl5),NW (by omega),d,_,rfl,gl,ar,al,_,_,rfl,fr,fl,sr,sl,λac c0 c2 hac h0 h2=>?_⟩
  obtain⟨H9,zg,s9,e9⟩:=nw hac (.AG [.ref c0,.ref c2]);rw[zg];have s59:=s58.trans s9;have eR9:=s9 _ _ eR8;have h09:=As s9 h0;have h29:=As s9 h2;have hD9:=hD8.keep (λs h=>Fq (R:=AS) (λs h=>As s h) s h) s9;obtain⟨x1,g1,y1⟩:=hG5.get (JA (λj=>X j*F) r1);obtain⟨x2,g2,y2⟩:=hG5.get (JA (λj=>X j*F) r2);refine⟨_,rfl,_,rfl,c,_,_,_,rfl,rfl,AI.of (s59 _ _ hc),Hm _ _ _,acc,_,_,_,rfl,rfl,AQ.of (s59 _ _ ha5),BX (CT g1),_,rfl,_,rfl,c,_,_,_,rfl,rfl,AI.of (s59 _ _ hc),EA _ _ _,acc,_,_,_,rfl,rfl,AQ.of (s59 _ _ ha5),BX (CT g2),
   x1,x2,_,_,rfl,As s59 y1,As s59 y2,ly.hf.ys _ r1,ly.hf.ys _ r2,λup c1 c3 hup h1 h3=>?_⟩
  obtain⟨HA,zg,sA,eA⟩:=nw hup (.AG [.ref c1,.ref c3]);rw[zg];have s5A:=s59.trans sA;have eRA:=sA _ _ eR9;have h0A:=As sA h09;have h2A:=As sA h29;have h1A:=As sA h1;have h3A:=As sA h3;have e9A:=sA _ _ e9;have hDA:=hD9.keep (λs h=>Fq (R:=AS) (λs h=>As s h) s h) sA;refine⟨_,rfl,.inl ⟨rfl,_,AQ.of eRA⟩,_,rfl,ac,_,_,_,rfl,rfl,AI.of e9A,BE,_,rfl,up,_,_,_,rfl,rfl,AI.of eA,BE,_,rfl,ac,_,_,_,rfl,rfl,AI.of e9A,A3,_,rfl,up,_,_,_,rfl,rfl,AI.of eA,A3,by exact WU,λbx hbx=>?_⟩;have sB:=AZ hbx (.AG [.ref c0,.ref c1,.ref c2,.ref c3]);have tB:A4 AS (AJ HA bx (.AG [.ref c0,.ref c1,.ref c2,.ref c3])) bx (Kq p (λj=>X j*F) i r):=S7 AU (As sB h0A) (As sB h1A) (As sB h2A) (As sB h3A);have s5B:=s5A.trans sB;have eRB:=sB _ _ eRA;have hDB:=hDA.keep (λs h=>Fq (R:=AS) (λs h=>As s h) s h) sB;generalize AJ HA bx (.AG [.ref c0,.ref c1,.ref c2,.ref c3])=HB at sB tB s5B eRB hDB;refine⟨R,_,_,rfl,rfl,eRB,by rw[ig,hDB.1,jT]; exact Cw (by omega),?_⟩;refine⟨_,_,_,_,ds++[bx],rfl,s5B.up hR _,by rw[AU]; simp,?_⟩;rw[DU (Lh hy)];exact Su eRB (hDB.snoc tB)
 ·rintro σ H7 ⟨u6,u7,u8,u9,ds,rfl,s7,eR,hD⟩;rw[ig,lc,jf (by rw[Fe]; exact i4 _)] at hD;have io:AD (2*rs.length+2) (2*(rs.length:Int)+1):=⟨by omega,by push_cast; omega⟩;obtain⟨wa,gw,fw,sw⟩:=D.Fz (kS5.keep s7) full (s7 _ _ hd5) io;refine⟨_,rfl,_,rfl,_,rfl,a,_,_,_,rfl,rfl,AI.of (s7 _ _ ha5'),EA _ _ _,ra,_,rfl,.inr (AI.of (s7 _ _ hr5)),?_⟩;rw[ig,lc];refine⟨_,_,rfl,rfl,.inl ⟨by decide,by decide⟩,_,_,rfl,rfl,lp,_,_,_,rfl,rfl,AI.of (s7 _ _ hl5),NW (i4 _),d,_,rfl,gw,?_⟩;refine⟨_,rfl,_,rfl,_,rfl,R,_,rfl,.inl ⟨AQ.of eR,λrc hrc=>⟨by exact FX,λq1 hq1=>?_⟩⟩⟩;obtain⟨H8,zg,s8,e8⟩:=nw hrc (.AG (ds.map V.ref));rw[zg] at hq1 ⊢;have s9:=AZ hq1 (.AG [.ref wa,.ref b,.ref rc]);have s89:=s8.trans s9;exact q q1 _ ((s05.trans s7).trans s89) (λx hx=>by obtain⟨_,_,_,z⟩:=D.Fz (kS5.keep s7) full (s7 _ _ hd5) hx; exact z) ⟨wa,b,rc,AU,As s89 fw,s89 _ _ (s7 _ _ hb5),ds,s9 _ _ e8,hD.keep (λs h=>Fq (R:=AS) (λs h=>As s h) s h) s89⟩
end
section
variable {P:Program} {w:World} {K:PySem.W.Frag} {mg:Str->Option Value} {base:Heap} {f g h f1 f2 f3:Addr} {fd gd hd d1 d2 d3:FuncData}
inductive Uo(vs:List V)(H:Hp)(Q:VK):Prop
 | mk (p:Addr) (q:Rat) (h_0:vs=[.ref p]) (h_1:AS H p q) (h_2:∀H',AN H H'->Q (.bl true) H'):Uo vs H Q
def Oi:Sp:=λvs H Q _=>Uo vs H Q
theorem gf:A2 ["_law_found"] ["_law_found"] (Ap s_law_is_fraction):=A8
theorem cF (F:Ar K "_law_is_fraction" "_law_is_fraction" s_law_is_fraction f fd) (G1:Al P w K mg base 2 "_law_row" ["_law_found","_law_many"] MB)
  (G2:Al P w K mg base 1 "_law_divisor" ["_law_a","_law_b"] Oq) (ma:mg "abs" = none):Ao P w K mg base Ay 3 f fd ["_law_found"] Oi:=by
 refine F.A9 gf λcdv A outer s H vs Q E hr h=>?_
 obtain⟨p,y,rfl,hp,q⟩:=h;refine⟨_,AV (An (KH (Aa G1 hr (AA (pv 0) (AA AE AB)))
  (KH (JG L6 (pT K (pv 0) AE) AE (BH _))
   (Lw (JG EX (Aa G2 (hr.mono (by decide)) (AA (Au LV (by rfl) ma OK (AA (pT K (pv 0) AE) AB)) (AA (pT K (pv 0) AE) AB))) AE (BH _)))))),?_⟩
 have yd:=y.den_nz;refine⟨_,rfl,p,[y.num,(y.den:Int)],2,rfl,hp,rfl,by show 2<=1000; decide,λH1 s1=>⟨_,rfl,Ed ?_⟩⟩;have hp1:AS H1 p y:=s1 _ _ hp;refine⟨_,rfl,p,_,_,_,rfl,rfl,AI.of hp1,A3,_,_,rfl,rfl,_,rfl,De (by omega) ?_⟩;refine⟨_,rfl,p,_,_,_,rfl,rfl,AI.of hp1,BE,y.num,rfl,_,rfl,p,_,_,_,rfl,rfl,AI.of hp1,A3,_,_,rfl,by split <;> omega,by omega,rfl,?_⟩;have e:Int.gcd (if y.num<0 then -y.num else y.num) (y.den:Int)=1:=by
  rw[cN]
  have:=y.reduced
  unfold Nat.Coprime at this;unfold Int.gcd;simpa using this
 rw[e];exact q H1 s1
theorem SX(n:Nat):(List.replicate n true).all id=true:=by simp
inductive Vc(vs:List V)(H:Hp)(Q:VK):Prop
 | mk (p:Addr) (qs:List Rat) (m:Int) (h_0:vs=[.ref p,.int m]) (h_1:A4 AS H p qs) (h_2:m=qs.length) (h_3:qs.length<=1000) (h_4:∀H',AN H H'->Q (.bl true) H'):Vc vs H Q
def PN:Sp:=λvs H Q _=>Vc vs H Q
theorem gK:A2 ["_law_found","_law_many"] ["_law_found","_law_many"] (Ap s_law_fractions_are):=A8
theorem fP (F : Ar K "_law_fractions_are" "_law_fractions_are" s_law_fractions_are f fd) (G : Al P w K mg base 3 "_law_is_fraction" ["_law_found"] Oi) (ms : mg "isinstance" = none) (mt : mg "tuple" = none)
    (ml : mg "len" = none) (ma : mg "all" = none) : Ao P w K mg base Ay 4 f fd ["_law_found", "_law_many"] PN := by
  refine F.A9 gK λcdv A outer s H vs Q E hr h => ?_
  obtain⟨p, qs, m, rfl, ⟨ts, hp, hT⟩, rfl, hn, q⟩ := h;have lt : ts.length = qs.length := hT.1;refine⟨_, AR (Bl (PW.pt (DO (EJ (Dn (Au (FA (c := .ty "tuple") (cv := .type "tuple") λ_ z => z) (by rfl) ms E8 (AA (pv 0) (AA (FD (v := .ty "tuple") (by rfl) mt B6 rfl) AB)))))
        (Fp (BN Dd (Au (Bb (K := K)) (by rfl) ml BO (AA (pv 0) AB)) (pv 1) (BH _))))) (AV (An Ep)) B7)
    (AV (An (Au (LI rfl) (by rfl) ma Lk (AA (C5 (Nc := ["_law_one"]) (cap := []) (g := BU 0) (te := DI Oi [] E0 (BI (Aj 0) By)) rfl (Fx (K := K) (pv 0))
      (CB rfl rfl (by decide +kernel) (by decide +kernel) (i6 _) rfl (i6 _)) (λ_ _ _ _ _ => Ae (i := 0) Oo rfl (Or.inl rfl)) (λ_ _ _ _ _ => Aa G hr (AA (pv 0) AB))) AB)))), ?_⟩
  refine⟨_, rfl, _, _, _, rfl, CV.AG hp, Fd K _, _, rfl, Bh ?_⟩;refine⟨_, rfl, p, _, rfl, .inr (AI.of hp), _, rfl, rfl, _, rfl, ?_⟩;refine D7 (by rw[ig, lt]) ?_;refine⟨_, rfl, p, rfl, ⟨_, AI.of hp⟩, λacc hacc => ?_⟩;refine CP (FE hp) (by rw[ig]; omega) hacc (λi ys σ _ => ys = (List.replicate i true).map V.bl /\ ∃u, σ = [u]) ⟨rfl, none, rfl⟩ ?_ ?_
  · rintro i ys σ H2 x H3 hi sm hacc2 ⟨hys, u, rfl⟩ ⟨rfl, hx⟩ C hC2;obtain⟨t, y, rfl, _, _, ht⟩ := hT.ref hx;refine⟨_, rfl, t, y, rfl, sm _ _ ht, λH4 s4 => ?_⟩;refine hC2 _ _ _ s4 ⟨?_, _, rfl⟩;rw[hys, lD, ji]; rfl
  rintro ys σ H2 s2 g2 _ ⟨hys, _⟩;refine⟨acc, _, rfl, AQ.of (by rw[g2, hys]), ?_⟩;rw[SX];exact q _ s2
inductive TY(vs:List V)(H:Hp)(Q:VK):Prop
 | mk (p:Addr) (W U:Rat) (rows:List (List Rat)) (m:Int) (h_0:vs=[.ref p,.int m]) (h_1:IK H p W U rows) (h_2:(∀r∈rows,r.length=4)) (h_3:m=rows.length) (h_4:rows.length<=1000) (h_5:∀H',AN H H'->Q (.bl true) H'):TY vs H Q
def Ut:Sp:=λvs H Q _=>TY vs H Q
theorem fJ:A2 ["_law_found","_law_many"] ["_law_found","_law_many"] (Ap s_law_is_floor):=A8
theorem cO (F : Ar K "_law_is_floor" "_law_is_floor" s_law_is_floor f fd) (G : Al P w K mg base 4 "_law_fractions_are" ["_law_found", "_law_many"] PN) (ms : mg "isinstance" = none) (mt : mg "tuple" = none)
    (ml : mg "len" = none) (ma : mg "all" = none) : Ao P w K mg base Ay 5 f fd ["_law_found", "_law_many"] Ut := by
  refine F.A9 fJ λcdv A outer s H vs Q E hr h => ?_
  obtain⟨a, W, U, rows, m, rfl, ⟨p, q0, r, ha, fW, fU, fR⟩, n4, rfl, n1000, q⟩ := h;obtain⟨cs, hr', hC⟩ := id fR;have lc : cs.length = rows.length := hC.1;refine⟨_, AR (Bl (PW.pt (DO (EJ (Dn (Au (FA (c := .ty "tuple") (cv := .type "tuple") λ_ z => z) (by rfl) ms E8 (AA (pv 0) (AA (FD (v := .ty "tuple") (by rfl) mt B6 rfl) AB)))))
        (DO (BN Dd (Au (Bb (K := K)) (by rfl) ml BO (AA (pv 0) AB)) AE (BH _))
        (Fp (EJ (Dn (Aa G hr (AA (D0 (Wb (K := K)) (pv 0) EI (Dm AE)) (AA AE AB))))))))) (AV (An Ep)) B7)
    (AR (Bl (PW.pt (DO (EJ (Dn (Au (FA (c := .ty "tuple") (cv := .type "tuple") λ_ z => z) (by rfl) ms E8 (AA (pT K (pv 0) AE) (AA (FD (v := .ty "tuple") (by rfl) mt B6 rfl) AB)))))
        (Fp (BN Dd (Au (Bb (K := K)) (by rfl) ml BO (AA (pT K (pv 0) AE) AB)) (pv 1) (BH _))))) (AV (An Ep)) B7)
    (AV (An (Au (LI rfl) (by rfl) ma Lk (AA (C5 (Nc := ["_law_one"]) (cap := []) (g := BU 0) (te := DI PN [] E0 (BI (Aj 0) (BI (tC (.int 4)) By))) rfl (Fx (K := K) (pT K (pv 0) AE))
      (CB rfl rfl (by decide +kernel) (by decide +kernel) (i6 _) rfl (i6 _)) (λ_ _ _ _ _ => Ae (i := 0) Oo rfl (Or.inl rfl)) (λ_ _ _ _ _ => Aa G hr (AA (pv 0) (AA AE AB)))) AB))))), ?_⟩
  refine⟨_, rfl, _, _, _, rfl, CV.AG ha, Fd K _, _, rfl, Bh ?_⟩;refine⟨_, rfl, a, _, rfl, .inr (AI.of ha), rfl, _, rfl, D7 rfl ?_⟩;refine⟨_, rfl, 2, rfl, a, _, rfl, AI.of ha, λz => ?_, λp1 hp1 => ?_⟩
  · have := z.2;rw[VY (by show 2 <= 3; decide)] at this;cases this
  rw[show Cu [V.ref p, .ref q0, .ref r] none (some 2) = [p, q0].map V.ref by rw[show(some (2 : Int)) = some ((2 : Nat) : Int) from rfl, Jr _ (by show 2 <= 3; decide)]; rfl];obtain⟨H1, zg, s1, e1⟩ := nw hp1 (.AG ([p, q0].map V.ref));rw[zg];have a1 : At AS H1 [p, q0] [W, U] := (At.nil.snoc (R := AS) (b := p) (x := W) (s1 _ _ fW)).snoc (b := q0) (x := U) (s1 _ _ fU);refine⟨p1, [W, U], 2, rfl, ⟨_, e1, a1⟩, rfl, by show 2 <= 1000; decide, λH2 s2 => ⟨_, rfl, Bh ?_⟩⟩;have s12 := s1.trans s2;have ha2 := s12 _ _ ha;have hr2 := s12 _ _ hr';refine⟨_, rfl, a, _, _, _, rfl, rfl, AI.of ha2, C1 _ _ _, _, _, _, rfl, CV.AG hr2, Fd K _, _, rfl, Bh ?_⟩;refine⟨_, rfl, a, _, _, _, rfl, rfl, AI.of ha2, C1 _ _ _, r, _, rfl, .inr (AI.of hr2), _, rfl, rfl, _, rfl, D7 (by rw[ig, lc]) ?_⟩;refine⟨_, rfl, a, _, _, _, rfl, rfl, AI.of ha2, C1 _ _ _, r, rfl, ⟨_, AI.of hr2⟩, λacc hacc => ?_⟩;refine CP (FE hr2) (by rw[ig]; omega) hacc (λi ys σ _ => ys = (List.replicate i true).map V.bl /\ ∃u, σ = [u]) ⟨rfl, none, rfl⟩ ?_ ?_
  · rintro i ys σ H3 x H4 hi sm hacc2 ⟨hys, u, rfl⟩ ⟨rfl, hx⟩ C hC2;obtain⟨t, y, rfl, _, hy, ht⟩ := hC.ref hx;have ny := n4 y (iq hy);refine⟨_, rfl, t, y, 4, rfl, GY (s12.trans sm) ht, by rw[ny]; rfl, by omega, λH5 s5 => ?_⟩;refine hC2 _ _ _ s5 ⟨?_, _, rfl⟩;rw[hys, lD, ji]; rfl
  rintro ys σ H3 s3 g3 _ ⟨hys, _⟩;refine⟨acc, _, rfl, AQ.of (by rw[g3, hys]), ?_⟩;rw[SX];exact q _ (s12.trans s3)
end
def Ie(q:Rat):PyData:=.tuple [.int q.num,.int (q.den:Int)]
def WC(r:List Rat):PyData:=.tuple (r.map Ie)
def Uj(W U:Rat)(rows:List (List Rat)):PyData:=.tuple [Ie W,Ie U,.tuple (rows.map WC)]
theorem Kj{H:Hp}{p:Addr}{q:Rat}(h:AS H p q):Dh H (.ref p) (Ie q):=by
 refine .AG h rfl λi x d e1 e2=>?_
 match i,e1,e2 with
 | 0,e1,e2=>cases e1; cases e2; exact .int _
 | 1,e1,e2=>cases e1; cases e2; exact .int _
 | n+2,e1,e2=>simp at e1
theorem VL{α:Type}{R:Hp->Addr->α->Prop}{D:α->PyData}(hR:∀{H p x},R H p x->Dh H (.ref p) (D x)){H:Hp}{p:Addr}{xs:List α}(h:A4 R H p xs):Dh H (.ref p) (.tuple (xs.map D)):=by
 obtain⟨cs,hp,hC⟩:=h;refine .AG hp (by rw[ig,ig,hC.1]) λi x d e1 e2=>?_
 rw[iy] at e1 e2;obtain⟨c,ec,rfl⟩:=j6.mp e1;obtain⟨y,ey,rfl⟩:=j6.mp e2;exact hR (hC.2 i c y ec ey)
theorem Rq{H:Hp}{a:Addr}{W U:Rat}{rows:List (List Rat)}(h:IK H a W U rows):Dh H (.ref a) (Uj W U rows):=by
 obtain⟨p,q,r,ha,fW,fU,fR⟩:=h;refine .AG ha rfl λi x d e1 e2=>?_
 match i,e1,e2 with
 | 0,e1,e2=>cases e1; cases e2; exact Kj fW
 | 1,e1,e2=>cases e1; cases e2; exact Kj fU
 | 2,e1,e2=>cases e1; cases e2; exact VL (R:=A4 AS) (D:=WC) (λh=>VL (R:=AS) (D:=Ie) (λh=>Kj h) h) fR
 | n+3,e1,e2=>simp at e1
def GC(c a b:Nat):List Nat:=[a,b]++(List.range c).filter λl=>decide (l≠a/\l≠b)
theorem ZH{c a b:Nat}(ha:a<c)(hb:b<c)(ab:a≠b):(GC c a b).Perm (List.range c):=by
 refine(lV ?_ kU).mpr λx=>?_
 ·unfold GC;rw[jY];refine⟨by simp[ab],kU.filter _,λx hx y hy e=>?_⟩;subst e
  have:=of_decide_eq_true (mG.mp hy).2
  simp only[jh,jP,kN] at hx;rcases hx with rfl | rfl
  ·exact this.1 rfl
  ·exact this.2 rfl
 ·unfold GC;rw[i9,mG,jw];simp only[jh,jP,kN];constructor
  ·rintro((rfl | rfl) | ⟨h,_⟩)
   ·exact ha
   ·exact hb
   ·exact h
  ·intro h;by_cases e1:x=a
   ·exact .inl (.inl e1)
   ·by_cases e2:x=b
    ·exact .inl (.inr e2)
    ·exact .inr ⟨h,kc ⟨e1,e2⟩⟩
def DT(os:List Nat)(l:Nat):Nat:=os.idxOf l
theorem ON{os:List Nat}{l:Nat}(h:l∈os):os[DT os l]?=some l:=by
 have hl:os.idxOf l<os.length:=kF.mpr h;unfold DT;rw[ij hl,oR hl]
theorem KR{os:List Nat}(nd:os.Nodup){p l:Nat}(h:os[p]?=some l):DT os l=p:=by
 have hm:=iq h;exact(nV (kF.mpr hm) nd).mp ((ON hm).trans h.symm)
def Pm(L:List (List Int))(os:List Nat)(k:Nat)(r:AO):AO:=(DT os (BC L (2*(k:Int))),DT os (BC L (2*(k:Int)+1)),r.2.2⁻¹)
def CJ(L:List (List Int))(os:List Nat)(rs:List AO):List AO:=rs.mapIdx λk r=>Pm L os k r
def Cz(m:Nat)(L:List (List Int))(os:List Nat):List (List Int):=os.map λl=>(L.getD l []).map (BL m)
theorem Qz{q:Rat}(h:Eo q):Eo q⁻¹/\(q⁻¹).num=q.den/\((q⁻¹).den:Int)=q.num:=by
 obtain⟨h1,h2,h3⟩:=h;have e1:(q⁻¹).num=q.den:=by rw[Rat.num_inv,Int.sign_eq_one_of_pos h1,rK]
 have e2:((q⁻¹).den:Int)=q.num:=by rw[Rat.den_inv,iz (by omega)]; omega
 have dn:=q.den_nz;exact⟨⟨by omega,by omega,by omega⟩,e1,e2⟩
theorem NV{L:List (List Int)}{os:List Nat}{rs:List AO}{k:Nat}{r:AO}(h:rs[k]?=some r):(CJ L os rs)[k]?=some (Pm L os k r):=by
 unfold CJ;rw[l5,h];rfl
theorem Nq{L:List (List Int)}{os:List Nat}{rs:List AO}{k:Nat}{r':AO}(h:(CJ L os rs)[k]?=some r'):∃r,rs[k]?=some r/\r'=Pm L os k r:=by
 unfold CJ at h;rw[l5] at h;obtain⟨r,h1,h2⟩:=j6.mp h;exact⟨r,h1,h2.symm⟩
theorem _root_.Mth.Ef.two{us:List (List Int)}{m:Nat}(D:Ef (AL us) m)(T:B9 (2*m+2) us):BC (Am (AL us) (2*m+2)) (2*(m:Int)+1)≠BC (Am (AL us) (2*m+2)) (2*(m:Int)):=by
 have P:=T.perm;obtain⟨S,s1,s2,s3⟩:=D.apart;intro e;have i0:AD (2*m+2) (2*(m:Int)):=⟨by omega,by push_cast; omega⟩;have i1:AD (2*m+2) (2*(m:Int)+1):=⟨by omega,by push_cast; omega⟩;obtain⟨r,h1,h2⟩:=GQ ((EG P).mpr i1);obtain⟨r',h3,h4⟩:=GQ ((EG P).mpr i0);rw[e,h3] at h1;cases h1;obtain⟨j1,j2,_⟩:=HE P (iq h3);rw[j2] at h2 h4;have key:∀x∈BK (AL us) (r.headD 0),(S (r.headD 0)↔S x):=λx hx=>by
  obtain⟨k,_,rfl⟩:=DV.mp hx;exact(Jz s1 (λx hx=>P.into x hx) j1 k).2
 exact s3 ((key _ h2).mp ((key _ h4).mpr s2))
theorem NG{n:Nat}{rs:List AO}{us:List (List Int)}(k:BP n rs us)(D:Ef (AL us) rs.length){L:List (List Int)}(hL:L=Am (AL us) (2*rs.length+2)){os:List Nat}(ho:os=GC L.length (BC L (2*(rs.length:Int)+1)) (BC L (2*(rs.length:Int)))):
  BP L.length (CJ L os rs) (Cz rs.length L os)/\os.Perm (List.range L.length)/\∀y,AD (2*rs.length+2) y->AL (Cz rs.length L os) (AH (BL rs.length (pr us y)))=AH (BL rs.length y):=by
 have T:=k.tn;have P:=T.perm;have m1:=k.m1;have m14:=k.m14;have n2:=k.n2;have two:=D.two T;rw[<-hL] at two;have nd:L.flatten.Nodup:=by rw[hL]; exact Gz P
 have mem:∀{x:Int},x∈L.flatten↔AD (2*rs.length+2) x:=λ{x}=>by rw[hL]; exact EG P
 have i0:AD (2*rs.length+2) (2*(rs.length:Int)):=⟨by omega,by push_cast; omega⟩;have i1:AD (2*rs.length+2) (2*(rs.length:Int)+1):=⟨by omega,by push_cast; omega⟩;have nl:∀{x:Int},AD (2*rs.length+2) x->BC L x<L.length:=λhx=>by
  obtain⟨r,h1,_⟩:=GQ (mem.mpr hx);exact(ip.mp h1).1
 have po:os.Perm (List.range L.length):=by rw[ho]; exact ZH (nl i1) (nl i0) two
 have ndo:os.Nodup:=po.nodup_iff.mpr kU;have lo:os.length=L.length:=by have:=po.length_eq; rwa [jN] at this
 have inO:∀{x:Int},AD (2*rs.length+2) x->BC L x∈os:=λhx=>po.mem_iff.mpr (jw.mpr (nl hx))
 have o0:os[0]?=some (BC L (2*(rs.length:Int)+1)):=by rw[ho]; rfl
 have o1:os[1]?=some (BC L (2*(rs.length:Int))):=by rw[ho]; rfl
 have pL:∀{x:Int},AD (2*rs.length+2) x->DT os (BC L x)<L.length:=λhx=>by
  have:=(ip.mp (ON (inO hx))).1
  omega
 have lR:(CJ L os rs).length=rs.length:=by unfold CJ; rw[kJ]
 have pw:(Cz rs.length L os).Perm (L.map λr=>r.map (BL rs.length)):=by
  have e:(List.range L.length).map (λl=>(L.getD l []).map (BL rs.length))=L.map λr=>r.map (BL rs.length):=by
   have:=Qm L
   conv=>rhs; rw[<-this]
   rw[jH];rfl
  rw[<-e];exact po.map _
 have prp:∀{x:Int},x∈(L.map λr=>r.map (BL rs.length)).flatten->pr (Cz rs.length L os) x=pr (L.map λr=>r.map (BL rs.length)) x:=λ{x} hx=>by
  refine LW pw.symm ?_ hx;rw[GN];exact JN nd λx _ y _ e=>by rw[<-IB rs.length x,e,IB]
 have hdc:=X0 T (m:=rs.length) rfl (W:=Cz rs.length L os) (by rw[<-hL]; exact pw) (by rw[<-hL]; exact prp);obtain⟨TW,CW⟩:=hdc;have tAt:∀{p:Nat} {t:List Int},(Cz rs.length L os)[p]?=some t->∃l r,os[p]?=some l/\L[l]?=some r/\t=r.map (BL rs.length):=λ{p t} h=>by
  unfold Cz at h;rw[iy] at h;obtain⟨l,h1,h2⟩:=j6.mp h;have hl:l<L.length:=jw.mp (po.mem_iff.mp (iq h1));refine⟨l,L[l],h1,ij hl,?_⟩;rw[<-h2,ir,ij hl];rfl
 have rne:∀{l:Nat} {r:List Int},L[l]?=some r->∃x,x∈r:=λ{l r} h=>by
  rw[hL] at h;obtain⟨j1,j2,_⟩:=HE P (iq h);exact⟨r.headD 0,by rw[j2]; have:=Ht P j1; rw[<-j2] at this ⊢; exact this⟩
 have ropeO:∀{j:Nat},j<rs.length->∀x:Int,(x=2*(j:Int)\/x=2*(j:Int)+1)->AD (2*rs.length+2) x:=λ{j} hj x hx=>by
  rcases hx with rfl | rfl
  ·exact⟨by omega,by push_cast; omega⟩
  ·exact⟨by omega,by push_cast; omega⟩
 refine⟨⟨by rw[lR]; exact m1,by rw[lR]; exact m14,?_,by have:=(Ms P (i4 _)).2; rw[<-hL] at this; omega,by unfold Cz; rw[ig,lo],by rw[lR]; exact TW,λt ht=>?_,λr' hr'=>?_,λp t hp x hx=>?_,λS S0 hS p hp=>?_⟩,po,CW⟩
 ·have a:=nl i0;have b:=nl i1;omega
 ·obtain⟨p,hp⟩:=kG.mp ht;obtain⟨l,r,_,h2,rfl⟩:=tAt hp;obtain⟨x,hx⟩:=rne h2;intro e;rw[mh] at e;rw[e] at hx;cases hx
 ·obtain⟨j,hj⟩:=kG.mp hr';obtain⟨r,h1,rfl⟩:=Nq hj;have hj':=(ip.mp h1).1;exact⟨(Qz (k.ease r (iq h1)).1).1,pL (ropeO hj' _ (.inl rfl)),pL (ropeO hj' _ (.inr rfl))⟩
 ·obtain⟨l,r,h1,h2,rfl⟩:=tAt hp;obtain⟨y,hy,rfl⟩:=i7.mp hx;have yR:AD (2*rs.length+2) y:=mem.mp (jn.mpr ⟨r,iq h2,hy⟩);have ny:BC L y=l:=Le nd h2 hy;have pl:DT os (BC L y)=p:=by rw[ny]; exact KR ndo h1
  have h0l:=ET (CJ L os rs);rw[lR] at h0l;unfold BL;by_cases e:y / 2=(rs.length:Int)
  ·rw[i5 e];have cs:y=2*(rs.length:Int)\/y=2*(rs.length:Int)+1:=by omega
   unfold hm;rcases cs with rfl | rfl
   ·have:p=1:=by rw[<-pl]; exact KR ndo o1
    rw[show AH (2*(rs.length:Int))=2*(rs.length:Int)+1 by unfold AH; rw[i5 (by omega)],jd (by omega),h0l,show(2*(rs.length:Int)+1).toNat-2*rs.length=1 by omega,this];rfl
   ·have:p=0:=by rw[<-pl]; exact KR ndo o0
    rw[show AH (2*(rs.length:Int)+1)=2*(rs.length:Int) by unfold AH; rw[iz (by omega)]; omega,jd (by omega),h0l,show(2*(rs.length:Int)).toNat-2*rs.length=0 by omega,this];rfl
  ·rw[iz e];have yl:y.toNat / 2<rs.length:=by obtain⟨a,b⟩:=yR; push_cast at b; omega
   have hr:=NV (L:=L) (os:=os) (ij yl);obtain⟨g1,g2⟩:=HH hr;have inn:y.toNat<(CF (CJ L os rs)).length:=by omega
   unfold hm;rw[jm inn,<-pl];obtain⟨y0,_⟩:=yR;rcases oX y.toNat with z | z
   ·rw[show 2*(y.toNat / 2)=y.toNat by omega] at g1;rw[g1];show some (DT os (BC L (2*((y.toNat / 2:Nat):Int))))=_;rw[show 2*((y.toNat / 2:Nat):Int)=y by omega]
   ·rw[show 2*(y.toNat / 2)+1=y.toNat by omega] at g2;rw[g2];show some (DT os (BC L (2*((y.toNat / 2:Nat):Int)+1)))=_;rw[show 2*((y.toNat / 2:Nat):Int)+1=y by omega]
 ·have all:=D.CY (λx=>S (DT os (BC L x))) (λx hx=>by
   have:=Qb T hx
   rw[<-hL] at this;show S (DT os (BC L x))↔S (DT os (BC L (AL us x)));rw[this]) (λj hj=>hS _ (iq (NV (ij hj)))) (by
   show S (DT os (BC L (2*(rs.length:Int)+1)));rw[KR ndo o0];exact S0)
  have hpo:os[p]?=some os[p]:=ij (by omega);have hl:os[p]<L.length:=jw.mp (po.mem_iff.mp (iq hpo));have hr:=ij hl;obtain⟨x,hx⟩:=rne hr
  have:=all x (mem.mp (jn.mpr ⟨_,iq hr,hx⟩))
  have e:DT os (BC L x)=p:=by rw[Le nd hr hx]; exact KR ndo hpo
  change S (DT os (BC L x)) at this;rw[e] at this;exact this
def Bn(m:Nat)(x:Int):Int:=AH (BL m x)
theorem IF(m:Nat)(x:Int):Bn m (Bn m x)=x:=by unfold Bn; rw[Np,IB,Bp]
theorem IJ{m:Nat}{x:Int}(h:AD (2*m+2) x):AD (2*m+2) (Bn m x):=CI (by omega) (OC h)
theorem aV{m:Nat}{x y:Int}(h:Bn m x=Bn m y):x=y:=by rw[<-IF m x,h,IF]
theorem _root_.Mth.Cv.map{t u:List Int}(f:Int->Int)(h:Cv t u):Cv (t.map f) (u.map f):=by
 obtain⟨l,r,rfl,rfl⟩:=h;exact⟨l.map f,r.map f,ji ..,ji ..⟩
theorem BP.WM{n:Nat}{rs:List AO}{ts:List (List Int)}(k:BP n rs ts):BP n rs (ts.map BV)/\∀x,AD (2*rs.length+2) x->AL (ts.map BV) x=AL ts x:=by
 obtain⟨l1,rr⟩:=RM ts;obtain⟨nd,pe⟩:=Nv k.tn.nd l1 rr;have pf:=LG l1 rr;refine⟨⟨k.m1,k.m14,k.n2,k.n15,by rw[ig]; exact k.len,⟨nd,λx=>by rw[<-pf.mem_iff]; exact k.tn.mem x,k.tn.Eu⟩,λt ht=>?_,k.ease,λp t hp x hx=>?_,k.CY⟩,λx hx=>?_⟩
 ·obtain⟨t0,h0,rfl⟩:=i7.mp ht;intro e
  have:=(J5 t0).perm.length_eq
  rw[e] at this;exact k.ne t0 h0 (ku.mp this)
 ·rw[iy] at hp;obtain⟨t0,h0,rfl⟩:=j6.mp hp;exact k.CD p t0 h0 x ((J5 t0).perm.mem_iff.mpr hx)
 ·rw[BZ,BZ];exact pe _ ((k.tn.mem _).mpr (CI k.tn.Eu hx))
theorem YQ{φ : Int → Int}{n : Nat}(P : FK φ n){u : List Int}{a : Int}(hu : u[0]? = some a)(nd : u.Nodup)(inn : AD n a)(h : ∀(i : Nat) (x y : Int), u[i]? = some x → u[if i + 1 = u.length then 0 else i + 1]? = some y → φ x = y): BK φ a = u := by
  have hp := (ip.mp hu).1;have it : ∀k, k < u.length → u[k]? = some (Ax φ k a) := λk => by
    induction k with
    | zero => exact λ_ => hu
    | succ k ih =>
      intro hk;have e2 : u[k+1]? = some u[k+1] := ij hk;have := h k _ _ (ih (by omega)) (by rw[iz (by omega)]; exact e2);rw[e2, <- this];rfl
  have back : Ax φ u.length a = a := by
    have := h (u.length - 1) _ _ (it _ (by omega)) (by rw[i5 (by omega)]; exact hu);rw[show u.length = u.length - 1 + 1 by omega];exact this
  have pe := (FH P inn).Vs (show Gp φ a u.length from ⟨hp, back, λk k1 k2 e => by
    have := it k k2;rw[e] at this;have := (nV hp nd).mp (hu.trans this.symm);omega⟩)
  refine o8 λk => ?_
  unfold BK;rw[pe];by_cases hk : k < u.length
  · rw[LJ hk, it k hk]
  · rw[j7 (by rw[Jq]; omega), j7 (by omega)]
section
variable {n:Nat} {rs:List AO} {us:List (List Int)} {φ:Int->Int}
theorem Qg{m:Nat}(T:B9 (2*m+2) us)(P:FK φ (2*m+2))(st:∀y,AD (2*m+2) y->φ (Bn m (pr us y))=Bn m y){t:List Int}(ht:t∈us){y:Int}(hy:y∈t):∃u,Cv t u/\BK φ (Bn m y)=u.map (Bn m):=by
 have inT:∀{x:Int},x∈t->AD (2*m+2) x:=λhx=>(T.mem _).mp (jn.mpr ⟨t,ht,hx⟩)
 obtain⟨t1,t2,e⟩:=nF hy;have ro:Cv t (y :: (t2++t1)):=⟨t1,y :: t2,e,by simp⟩;have or:Cv (y :: (t2++t1)) t:=⟨y :: t2,t1,by simp,e⟩;have nd:(y :: (t2++t1)).Nodup:=ro.perm.nodup_iff.mp (Lo T.nd ht);refine⟨_,ro,?_⟩;have h0:(y :: (t2++t1))[0]?=some y:=rfl;generalize y :: (t2++t1)=u at *;refine YQ P (by rw[iy,h0]; rfl) (JN nd λ_ _ _ _=>aV) (IJ (inT hy)) λi a b ha hb=>?_
 rw[iy] at ha hb;obtain⟨x,hx,rfl⟩:=j6.mp ha;obtain⟨z,hz,rfl⟩:=j6.mp hb;rw[ig] at hz;have hi:=(ip.mp hx).1;have key:(z,x)∈BG u:=by
  refine i7.mpr ⟨if i+1=u.length then 0 else i+1,jw.mpr (ip.mp hz).1,?_⟩;unfold EV;rw[ir,hz,ir]
  have:(if (if i+1=u.length then 0 else i+1)=0 then u.length-1 else (if i+1=u.length then 0 else i+1)-1)=i:=by split <;> simp <;> omega
  rw[this,hx];rfl
 have:=DZ T.nd (jn.mpr ⟨_,i7.mpr ⟨t,ht,rfl⟩,Qd or _ key⟩)
 rw[<-this];exact st z (inT (or.perm.mem_iff.mp (iq hz)))
theorem Ls{k:Nat}{r:AO}(h:rs[k]?=some r):(hm rs)[(2*(k:Int)).toNat]?=some r.1/\(hm rs)[(2*(k:Int)+1).toNat]?=some r.2.1:=by
 obtain⟨g1,g2⟩:=HH h;have hk:=(ip.mp h).1;have l:=ET rs;unfold hm;rw[show(2*(k:Int)).toNat=2*k by omega,show(2*(k:Int)+1).toNat=2*k+1 by omega,jm (by omega),jm (by omega)];exact⟨g1,g2⟩
theorem OI(rs:List AO):(hm rs)[(2*(rs.length:Int)).toNat]?=some 0/\(hm rs)[(2*(rs.length:Int)+1).toNat]?=some 1:=by
 have l:=ET rs;unfold hm;rw[jd (by omega),jd (by omega),l,show(2*(rs.length:Int)).toNat-2*rs.length=0 by omega,show(2*(rs.length:Int)+1).toNat-2*rs.length=1 by omega];exact⟨rfl,rfl⟩
theorem BP.at(k:BP n rs us){x:Int}(hx:AD (2*rs.length+2) x):∃p t,us[p]?=some t/\x∈t/\(hm rs)[x.toNat]?=some p/\p<n:=by
 obtain⟨t,ht,h⟩:=jn.mp ((k.tn.mem x).mpr hx);obtain⟨p,hp⟩:=kG.mp ht;exact⟨p,t,hp,h,k.CD p t hp x h,by rw[<-k.len]; exact(ip.mp hp).1⟩
theorem BP.back(k:BP n rs us){x:Int}(hx:AD (2*rs.length+2) x){p:Nat}{t:List Int}(ht:us[p]?=some t)(h:(hm rs)[x.toNat]?=some p):x∈t:=by
 obtain⟨p',t',h1,h2,h3,_⟩:=k.at hx;rw[h] at h3;cases h3;rw[ht] at h1;cases h1;exact h2
theorem BP.du(k:BP n rs us)(P:FK φ (2*rs.length+2))(st:∀y,AD (2*rs.length+2) y->φ (Bn rs.length (pr us y))=Bn rs.length y):Ef φ rs.length:=by
 have T:=k.tn;obtain⟨o0,o1⟩:=OI rs;have n2:=k.n2;have t0:Bn rs.length (2*(rs.length:Int))=2*(rs.length:Int):=by unfold Bn BL; rw[i5 (by omega),Bp]
 have t1:Bn rs.length (2*(rs.length:Int)+1)=2*(rs.length:Int)+1:=by unfold Bn BL; rw[i5 (by omega),Bp]
 have i0:AD (2*rs.length+2) (2*(rs.length:Int)):=⟨by omega,by push_cast; omega⟩;have i1:AD (2*rs.length+2) (2*(rs.length:Int)+1):=⟨by omega,by push_cast; omega⟩;have same:∀S:Int->Prop,(∀x,AD (2*rs.length+2) x->(S x↔S (φ x)))->∀x y,AD (2*rs.length+2) x->AD (2*rs.length+2) y->(hm rs)[(Bn rs.length x).toNat]?=(hm rs)[(Bn rs.length y).toNat]?->(S x↔S y):=λS hS x y hx hy e=>by
  obtain⟨p,t,h1,h2,h3,_⟩:=k.at (IJ hx);rw[h3] at e;have h4:=k.back (IJ hy) h1 e.symm;obtain⟨u,ru,er⟩:=Qg T P st (iq h1) h2;rw[IF] at er
  have:y∈BK φ x:=by
   rw[er];exact i7.mpr ⟨_,ru.perm.mem_iff.mp h4,IF _ y⟩
  obtain⟨j,_,rfl⟩:=DV.mp this;exact(Jz hS P.into hx j).2
 have step:∀x,AD (2*rs.length+2) x->(hm rs)[(Bn rs.length (φ x)).toNat]?=(hm rs)[(Bn rs.length x).toNat]?:=λx hx=>by
  obtain⟨q,hq,e⟩:=i7.mp ((Ip us).mem_iff.mpr ((T.mem _).mpr (IJ hx)));have e2:=DZ T.nd (x:=q.1) (y:=q.2) hq;have hq1:AD (2*rs.length+2) q.1:=(T.mem _).mp (by rw[<-E9]; exact i7.mpr ⟨q,hq,rfl⟩)
  have:=st q.1 hq1
  rw[e2,e,IF] at this;rw[this,IF,<-e];obtain⟨r,hr,i,hi,a1,a2⟩:=Tj hq;obtain⟨p,hp⟩:=kG.mp hr;rw[k.CD p r hp _ (iq a1),k.CD p r hp _ (iq a2)]
 refine⟨⟨λx=>(hm rs)[(Bn rs.length x).toNat]?=some 0,λx hx=>by dsimp only; rw[step x hx],by dsimp only; rw[t0]; exact o0,by dsimp only; rw[t1,o1]; exact λz=>by cases z⟩,λS hS hr h0 x hx=>?_⟩;have sm:=same S hS
 let A:Nat->Prop:=λp=>∃x,AD (2*rs.length+2) x/\(hm rs)[(Bn rs.length x).toNat]?=some p/\S x
 have Ai:∀{p:Nat} {x:Int},AD (2*rs.length+2) x->(hm rs)[(Bn rs.length x).toNat]?=some p->(A p↔S x):=λ{p x} hx e=>by
  constructor
  ·rintro⟨y,h1,h2,h3⟩;exact(sm y x h1 hx (h2.trans e.symm)).mp h3
  ·exact λh=>⟨x,hx,e,h⟩
 have ropes:∀r∈rs,(A r.1↔A r.2.1):=λr hr'=>by
  obtain⟨j,hj⟩:=kG.mp hr';have jl:=(ip.mp hj).1;obtain⟨g1,g2⟩:=Ls hj;have j0:AD (2*rs.length+2) (2*(j:Int)):=⟨by omega,by push_cast; omega⟩;have j1:AD (2*rs.length+2) (2*(j:Int)+1):=⟨by omega,by push_cast; omega⟩;have e0:Bn rs.length (2*(j:Int))=2*(j:Int)+1:=by unfold Bn BL; rw[iz (by omega)]; unfold AH; rw[i5 (by omega)]
  have e1:Bn rs.length (2*(j:Int)+1)=2*(j:Int):=by unfold Bn BL; rw[iz (by omega)]; unfold AH; rw[iz (by omega)]; omega
  rw[Ai j1 (by rw[e1]; exact g1),Ai j0 (by rw[e0]; exact g2)];exact(hr j jl).symm
 have A1:A 1:=(Ai i1 (by rw[t1]; exact o1)).mpr h0;have A0:A 0:=nj λz=>k.CY (λp=>¬A p) z (λr hr'=>not_congr (ropes r hr')) 1 (by omega) A1
 obtain⟨p,t,h1,h2,h3,h4⟩:=k.at (IJ hx);exact(Ai hx h3).mp (k.CY A A0 ropes p h4)
structure Ct(n:Nat)(rs:List AO)(ts:List (List Int))(rs':List AO)(ts':List (List Int)):Prop where
 len:rs'.length=rs.length
 DS:BP n rs' ts'
 row:∀(q:Nat) (t':List Int),ts'[q]?=some t'->∃(p:Nat) (t:List Int),ts[p]?=some t/\t'=BV (t.map AH)
 es:∀(j:Nat) (r r':AO),rs[j]?=some r->rs'[j]?=some r'->r'.2.2=r.2.2
def EN(ts:List (List Int)):List (List Int):=(ts.map λt=>t.map AH).map BV
theorem Ly(k:BP n rs us):(EN us).flatten.Nodup/\∀x,AD (2*rs.length+2) x->pr (EN us) (AH x)=AH (pr us x):=by
 obtain⟨nd,e⟩:=OM (ts:=us) (ρ:=AH) k.tn.nd (λ_ _ _ _=>HK);obtain⟨l1,rr⟩:=RM (us.map λt=>t.map AH);obtain⟨nd',e'⟩:=Nv nd l1 rr;refine⟨nd',λx hx=>?_⟩;have hm:=(k.tn.mem x).mpr hx;unfold EN;rw[e' _ (by rw[GN]; exact i7.mpr ⟨x,hm,rfl⟩),e x hm]
theorem J9:∀{ts:List (List Int)},ts.flatten.Nodup->(∀t∈ts,t≠[])->ts.Nodup
 | [],_,_=>.nil
 | t :: ts,nd,ne=>by
  rw[jx,jY] at nd;refine jV.mpr ⟨λz=>?_,J9 nd.2.1 λu hu=>ne u (jB _ hu)⟩;obtain⟨x,hx⟩:=nv _ (ne t (jZ ..));exact nd.2.2 x hx x (jn.mpr ⟨t,z,hx⟩) rfl
theorem OB(k:BP n rs us):∀t∈EN us,t≠[]:=λt ht e=>by
 unfold EN at ht;rw[jH] at ht;obtain⟨t0,h0,rfl⟩:=i7.mp ht
 have:=(J5 (t0.map AH)).perm.length_eq
 rw[show BV (t0.map AH)=[] from e,ig] at this;exact k.ne t0 h0 (ku.mp this)
theorem OJ{p:Nat}{t:List Int}(h:us[p]?=some t):(EN us)[p]?=some (BV (t.map AH)):=by
 unfold EN;rw[iy,iy,h];rfl
theorem Ng{t:List Int}{x:Int}:x∈BV (t.map AH)↔AH x∈t:=by
 rw[<-(J5 _).perm.mem_iff,i7];constructor
 ·rintro⟨y,hy,rfl⟩;rw[Bp]; exact hy
 ·exact λh=>⟨_,h,Bp x⟩
theorem LU{n':Nat}{rs':List AO}{ts':List (List Int)}(k:BP n rs us)(k':BP n' rs' ts')(hl:rs'.length=rs.length)(row:∀(q:Nat) (t':List Int),ts'[q]?=some t'->∃(p:Nat) (t:List Int),us[p]?=some t/\t'=BV (t.map AH)):ts'.Perm (EN us):=by
 refine(lV (J9 k'.tn.nd k'.ne) (J9 (Ly k).1 (OB k))).mpr λr=>?_
 constructor
 ·intro h;obtain⟨q,hq⟩:=kG.mp h;obtain⟨p,t,h1,rfl⟩:=row q r hq;exact iq (OJ h1)
 ·intro h;unfold EN at h;rw[jH] at h;obtain⟨t,h0,rfl⟩:=i7.mp h;obtain⟨p,hp⟩:=kG.mp h0;obtain⟨y,hy⟩:=nv _ (k.ne t h0);have yi:AD (2*rs.length+2) y:=(k.tn.mem y).mp (jn.mpr ⟨t,h0,hy⟩);obtain⟨q,t',h1,h2,_⟩:=k'.at (x:=AH y) (by rw[hl]; exact CI k.tn.Eu yi);obtain⟨p2,t2,h3,rfl⟩:=row q t' h1;rw[Ng,Bp] at h2;have e1:=k.CD p t hp y hy;rw[k.CD p2 t2 h3 y h2] at e1;cases e1;rw[hp] at h3;cases h3;exact iq h1
theorem c9{n2:Nat}{rs2:List AO}{W:List (List Int)}{os:List Nat}(k:BP n rs us)(k2:BP n2 rs2 W)(hl:rs2.length=rs.length)(st:∀y,AD (2*rs.length+2) y->AL W (Bn rs.length (pr us y))=Bn rs.length y){L:List (List Int)}(hL:L=Am (AL W) (2*rs2.length+2))(po:os.Perm (List.range L.length)):
  ∀(q:Nat) (t':List Int),((Cz rs2.length L os).map BV)[q]?=some t'->∃(p:Nat) (t:List Int),us[p]?=some t/\t'=BV (t.map AH):=λq t' h=>by
 have P:=k2.tn.perm;rw[hl] at hL P h;unfold Cz at h;rw[jH,iy] at h;obtain⟨l,h1,rfl⟩:=j6.mp h;have hl':l<L.length:=jw.mp (po.mem_iff.mp (iq h1));obtain⟨r,hr⟩:∃r,L[l]?=some r:=⟨_,ij hl'⟩;have hm:=iq hr;rw[hL] at hm;obtain⟨j1,j2,_⟩:=HE P hm;obtain⟨p,t,h3,h4,_⟩:=k.at (IJ j1);obtain⟨u,ru,er⟩:=Qg k.tn P st (iq h3) h4;rw[IF,<-j2] at er;refine⟨p,t,h3,?_⟩;show BV ((L.getD l []).map (BL rs.length))=_;rw[ir,hr];show BV (r.map (BL rs.length))=_;have e:(u.map (Bn rs.length)).map (BL rs.length)=u.map AH:=by
  rw[jH];refine ko λx _=>?_
  show BL rs.length (AH (BL rs.length x))=_;rw[Np,IB]
 rw[er,e];have tm:=iq h3;exact W7 (JN (Lo k.tn.nd tm) λ_ _ _ _=>HK) (λz=>k.ne t tm (mh.mp z)) (ru.map AH)
theorem bV(k:BP n rs us)(D:Ef (AL us) rs.length){L:List (List Int)}(hL:L=Am (AL us) (2*rs.length+2)){os:List Nat}(ho:os=GC L.length (BC L (2*(rs.length:Int)+1)) (BC L (2*(rs.length:Int)))){rs':List AO}(hr:rs'=CJ L os rs){us':List (List Int)}(hu:us'=(Cz rs.length L os).map BV):
  BP L.length rs' us'/\Ef (AL us') rs'.length/\∀{L':List (List Int)},L'=Am (AL us') (2*rs'.length+2)->∀{os':List Nat},os'=GC L'.length (BC L' (2*(rs'.length:Int)+1)) (BC L' (2*(rs'.length:Int)))->Ct n rs us (CJ L' os' rs') ((Cz rs'.length L' os').map BV)/\L'.length=n:=by
 obtain⟨k1,po,st⟩:=NG k D hL ho;obtain⟨k2,nx⟩:=k1.WM;rw[<-hr,<-hu] at k2;rw[<-hu] at nx;have lR:(CJ L os rs).length=rs.length:=by unfold CJ; rw[kJ]
 have lr:rs'.length=rs.length:=by rw[hr]; exact lR
 rw[lR] at nx;have P:=k2.tn.perm;rw[lr] at P;have pin:∀y,AD (2*rs.length+2) y->AD (2*rs.length+2) (pr us y):=λy hy=>by
  have:=k.tn.perm.into _ (CI k.tn.Eu hy)
  rwa [BZ,Bp] at this
 have st':∀y,AD (2*rs.length+2) y->AL us' (Bn rs.length (pr us y))=Bn rs.length y:=λy hy=>by
  rw[nx _ (IJ (pin y hy))];exact st y hy
 have D2:=k.du P st';rw[<-lr] at D2;refine⟨k2,D2,λ{L'} hL' {os'} ho'=>?_⟩;obtain⟨k3,po',_⟩:=NG k2 D2 hL' ho';obtain⟨k4,_⟩:=k3.WM;have row:=c9 k k2 lr st' hL' po';have l4:(CJ L' os' rs').length=rs.length:=by unfold CJ; rw[kJ]; exact lr
 have pe:=LU k k4 l4 row;have ln:L'.length=n:=by
  rw[<-k4.len,pe.length_eq,<-k.len];unfold EN;rw[ig,ig]
 refine⟨⟨l4,by rw[<-ln]; exact k4,row,λj r r' h1 h2=>?_⟩,ln⟩;obtain⟨r1,h3,rfl⟩:=Nq h2;rw[hr] at h3;obtain⟨r2,h4,rfl⟩:=Nq h3;rw[h1] at h4;cases h4;show r.2.2⁻¹⁻¹=r.2.2;exact Rat.inv_inv ..
def sg(rs:List AO)(ts':List (List Int))(q:Nat):Nat:=((hm rs)[(AH ((ts'.getD q []).headD 0)).toNat]?).getD 0
variable {rs':List AO} {ts ts':List (List Int)}
theorem Ct.at(k:BP n rs ts)(h:Ct n rs ts rs' ts'){q:Nat}{t':List Int}(hq:ts'[q]?=some t'):∃t,ts[sg rs ts' q]?=some t/\t'=BV (t.map AH):=by
 obtain⟨p,t,h1,rfl⟩:=h.row q t' hq;obtain⟨a,l,e⟩:=List.exists_cons_of_ne_nil (h.DS.ne _ (iq hq));have e2:sg rs ts' q=p:=by
  unfold sg;rw[ir,hq];show((hm rs)[(AH ((BV (t.map AH)).headD 0)).toNat]?).getD 0=p;rw[k.CD p t h1 _ (Ng.mp (show(BV (t.map AH)).headD 0∈BV (t.map AH) by rw[e]; simp))];rfl
 exact⟨t,by rw[e2]; exact h1,rfl⟩
theorem Ct.to(k:BP n rs ts)(h:Ct n rs ts rs' ts'){x:Int}(hx:AD (2*rs.length+2) x){q p:Nat}(hq:(hm rs')[x.toNat]?=some q)(hp:(hm rs)[(AH x).toNat]?=some p):sg rs ts' q=p:=by
 obtain⟨q1,t',h1,h2,h3,_⟩:=h.DS.at (x:=x) (by rw[h.len]; exact hx);rw[hq] at h3;cases h3;obtain⟨t,h4,rfl⟩:=h.at k h1;have e:=k.CD _ t h4 _ (Ng.mp h2);rw[hp] at e;exact(je e).symm
theorem Ct.lt(k:BP n rs ts)(h:Ct n rs ts rs' ts'){q:Nat}(hq:q<n):sg rs ts' q<n:=by
 obtain⟨t,h1,_⟩:=h.at k (ij (show q<ts'.length by rw[h.DS.len]; exact hq));rw[<-k.len];exact(ip.mp h1).1
theorem Ct.inj(k:BP n rs ts)(h:Ct n rs ts rs' ts'){q q':Nat}(hq:q<n)(hq':q' < n)(e:sg rs ts' q=sg rs ts' q'):q=q':=by
 obtain⟨t1,g1⟩:∃t,ts'[q]?=some t:=⟨_,ij (by rw[h.DS.len]; exact hq)⟩;obtain⟨t2,g2⟩:∃t,ts'[q']?=some t:=⟨_,ij (by rw[h.DS.len]; exact hq')⟩;obtain⟨t,h1,rfl⟩:=h.at k g1;obtain⟨t3,h2,rfl⟩:=h.at k g2;rw[<-e,h1] at h2;obtain rfl:=je h2;obtain⟨x,hx⟩:=nv _ (h.DS.ne _ (iq g1));have a:=h.DS.CD q _ g1 x hx;rw[h.DS.CD q' _ g2 x hx] at a;exact(je a).symm
theorem Ct.Oy(k:BP n rs ts)(h:Ct n rs ts rs' ts'){j:Nat}{r r':AO}(hr:rs[j]?=some r)(hr':rs'[j]?=some r'):sg rs ts' r'.1=r.2.1/\sg rs ts' r'.2.1=r.1:=by
 have jl:=(ip.mp hr).1;obtain⟨a1,a2⟩:=Ls hr;obtain⟨b1,b2⟩:=Ls hr';refine⟨h.to k ⟨by omega,by push_cast; omega⟩ b1 ?_,h.to k ⟨by omega,by push_cast; omega⟩ b2 ?_⟩
 ·unfold AH; rw[i5 (by omega)]; exact a2
 ·unfold AH; rw[iz (by omega),show 2*(j:Int)+1-1=2*(j:Int) by omega]; exact a1
theorem Ct.out(k:BP n rs ts)(h:Ct n rs ts rs' ts'):sg rs ts' 0=1/\sg rs ts' 1=0:=by
 obtain⟨a1,a2⟩:=OI rs;obtain⟨b1,b2⟩:=OI rs';rw[h.len] at b1 b2;refine⟨h.to k ⟨by omega,by push_cast; omega⟩ b1 ?_,h.to k ⟨by omega,by push_cast; omega⟩ b2 ?_⟩
 ·unfold AH; rw[i5 (by omega)]; exact a2
 ·unfold AH; rw[iz (by omega),show 2*(rs.length:Int)+1-1=2*(rs.length:Int) by omega]; exact a1
theorem SK:∀l:List Rat,(l.map λx=>- x).sum=- l.sum
 | []=>by simp
 | x :: l=>by rw[i8,jy,jy,SK l]; grind
theorem Ct.A5(k:BP n rs ts)(h:Ct n rs ts rs' ts'){X Y:Nat->Rat}{c:Rat}(hY:∀q,q<n->Y q=c-X (sg rs ts' q)){j:Nat}{r r':AO}(hr:rs[j]?=some r)(hr':rs'[j]?=some r'):Wd.A5 Y r'=Wd.A5 X r:=by
 obtain⟨e1,e2⟩:=h.Oy k hr hr';obtain⟨_,l1,l2⟩:=h.DS.ease r' (iq hr');unfold Wd.A5;rw[hY _ l1,hY _ l2,e1,e2,h.es j r r' hr hr']
 grind
theorem Ct.htx{n:Nat}{B:Nat}{X:Nat->Rat}(k:BP (n+2) rs ts)(h:Ct (n+2) rs ts rs' ts')(hX:E5 n B rs X):E5 n (B+1) rs' (λq=>1-X (sg rs ts' q)):=by
 obtain⟨o0,o1⟩:=h.out k;refine⟨?_,?_,λi i2 hi=>?_,?_⟩
 ·show 1-X (sg rs ts' 0)=1;rw[o0,hX.x1]; grind
 ·show 1-X (sg rs ts' 1)=0;rw[o1,hX.x0]; grind
 ·have si:=h.lt k hi;have s0:sg rs ts' i≠0:=λz=>by have:=h.inj k hi (show 1<n+2 by omega) (z.trans o1.symm); omega
  have s1:sg rs ts' i≠1:=λz=>by have:=h.inj k hi (show 0<n+2 by omega) (z.trans o0.symm); omega
  have e:rs'.map (CK (λq=>1-X (sg rs ts' q)) i)=(rs.map (CK X (sg rs ts' i))).map λx=>- x:=by
   rw[jH];refine l9 (by rw[ig,ig,h.len]) λj h1 h2=>?_
   rw[ig] at h1 h2;have g1:rs'[j]?=some rs'[j]:=ij h1;have g2:rs[j]?=some rs[j]:=ij h2;rw[rV,rV];have rr:=h.A5 k (Y:=λq=>1-X (sg rs ts' q)) (X:=X) (c:=1) (λ_ _=>rfl) g2 g1;obtain⟨e1,e2⟩:=h.Oy k g2 g1;obtain⟨_,l1,l2⟩:=h.DS.ease _ (iq g1);show CK _ i rs'[j]=- CK X (sg rs ts' i) rs[j];unfold CK;rw[rr];have q1:(i=rs'[j].1)↔(sg rs ts' i=rs[j].2.1):=⟨λz=>by rw[z]; exact e1,λz=>h.inj k hi l1 (z.trans e1.symm)⟩;have q2:(i=rs'[j].2.1)↔(sg rs ts' i=rs[j].1):=⟨λz=>by rw[z]; exact e2,λz=>h.inj k hi l2 (z.trans e2.symm)⟩;simp only[q1,q2]
   grind
  unfold BJ;rw[e,SK]
  have:=hX.bal (sg rs ts' i) (by omega) si
  unfold BJ at this;rw[this]; grind
 ·obtain⟨W,w0,wl,wx⟩:=hX.wh;refine⟨W,w0,by rw[lE]; omega,λj hj=>?_⟩;obtain⟨c,e,l⟩:=wx _ (h.lt k hj);refine⟨W-c,by rw[nB,<-e]; grind,?_⟩
  have:=nU W c
  rw[lE]; omega
theorem Ct.iN(k:BP n rs ts)(h:Ct n rs ts rs' ts'){Y Y':Nat->Rat}{p:Int->Rat}(hp:MS rs ts Y p)(hY:∀(j:Nat) (r r':AO),rs[j]?=some r->rs'[j]?=some r'->Wd.A5 Y' r'=Wd.A5 Y r):MS rs' ts' Y' (λx=>p (2*(rs.length:Int)+1)-p (AH x)):=by
 have ev:∀j:Nat,AH (2*(j:Int))=2*(j:Int)+1/\AH (2*(j:Int)+1)=2*(j:Int):=λj=>by
  unfold AH; rw[i5 (by omega),iz (by omega)]; omega
 refine⟨λx hx=>?_,λj r' hr'=>?_,?_⟩
 ·rw[h.len] at hx;have hx':=CI k.tn.Eu hx;have e1:AL ts' x=AH (pr ts x):=by
   rw[BZ,<-(Ly k).2 x hx];refine(LW (LU k h.DS h.len h.row) h.DS.tn.nd ?_).symm;rw[h.DS.tn.mem,h.len]; exact hx'
  have:=hp.inv _ hx'
  rw[BZ,Bp] at this;show _-p (AH (AL ts' x))=_-p (AH x);rw[e1,Bp,this]
 ·have hj:j<rs.length:=by rw[<-h.len]; exact(ip.mp hr').1
  have g:=ij hj;show _-p (AH (2*(j:Int)))-(_-p (AH (2*(j:Int)+1)))=_;rw[hY j _ r' g hr',<-hp.df j _ g,(ev j).1,(ev j).2]
  grind
 ·show _-p (AH (2*(rs'.length:Int)))=0;rw[h.len,(ev _).1]
  grind
theorem Ct.CY(k:BP n rs ts)(h:Ct n rs ts rs' ts')(D:Ef (AL ts) rs.length):Ol ts' rs'.length:=λS h1 h2 h0 x hx=>by
 have ev:∀j:Nat,AH (2*(j:Int))=2*(j:Int)+1/\AH (2*(j:Int)+1)=2*(j:Int):=λj=>by
  unfold AH; rw[i5 (by omega),iz (by omega)]; omega
 rw[h.len] at h1 h2 h0 hx;have hx':=CI k.tn.Eu hx
 have:=D.CY (λx=>S (AH x)) (λy hy=>by
  show S (AH y)↔S (AH (AL ts y));have hy':=CI k.tn.Eu hy;rw[h1 _ hy'];have e1:AL ts' (AH y)=AH (pr ts (AH y)):=by
   rw[BZ,<-(Ly k).2 _ hy',Bp];refine(LW (LU k h.DS h.len h.row) h.DS.tn.nd ?_).symm;rw[h.DS.tn.mem,h.len]; exact hy
  rw[e1,BZ]) (λj hj=>by
  show S (AH _)↔S (AH _);rw[(ev j).1,(ev j).2];exact(h2 j hj).symm) (by show S (AH _); rw[(ev _).2]; exact h0) _ hx'
 change S (AH (AH x)) at this
 rwa [Bp] at this
variable {P:Program} {w:World} {K:PySem.W.Frag} {mg:Str->Option Value} {base:Heap} {f g h f1 f2 f3 f4:Addr} {fd gd hd d1 d2 d3 d4:FuncData}
inductive VJ(vs:List V)(H:Hp)(Q:VK):Prop
 | mk (p q:Addr) (x:Rat) (h_0:vs=[.ref p,.ref q]) (h_1:H p=some (.AG [.int 1,.int 1])) (h_2:AS H q x) (h_3:Eo x) (h_4:∀r H',AN H H'->AS H' r x⁻¹->Q (.ref r) H'):VJ vs H Q
def V2:Sp:=λvs H Q _=>VJ vs H Q
theorem gY:A2 ["one","other"] ["one","other"] (Ap sOver):=A8
theorem eJ{C:Addr}(F:Ar K "over" "over" sOver f fd)(G:Al P w K mg base 2 "fraction" ["top","bottom"] (IL C)):Ao P w K mg base Ay 3 f fd ["one","other"] V2:=by
 refine F.A9 gY λcdv A outer s H vs Q E hr h=>?_
 obtain⟨p,q,x,rfl,hp,hq,ek,k⟩:=h;refine⟨_,AR (Bl (BN EX (pT K (pv 1) AE) AE (BH _)) YD B7)
  (AV (An (Aa G hr (AA (AM Bw (pT K (pv 0) AE) (pT K (pv 1) AE))
   (AA (AM Bw (pT K (pv 0) AE) (pT K (pv 1) AE)) AB))))),?_⟩
 obtain⟨e1,e2,e3⟩:=id ek;obtain⟨_,i1,i2⟩:=Qz ek;have hq':H q=some (.AG [.int x.num,.int x.den]):=hq;have m1:∀z:Int,IX 1 z:=λz=>.inl ⟨by decide,by decide⟩
 refine⟨_,rfl,q,_,_,_,rfl,rfl,AI.of hq',BE,rfl,_,rfl,DP (EE (by omega)) ?_⟩;refine⟨_,rfl,p,_,_,_,rfl,rfl,AI.of hp,BE,_,rfl,q,_,_,_,rfl,rfl,AI.of hq',A3,_,_,rfl,rfl,m1 _,_,rfl,p,_,_,_,rfl,rfl,AI.of hp,A3,_,rfl,q,_,_,_,rfl,rfl,AI.of hq',BE,_,_,rfl,rfl,m1 _,?_⟩;refine⟨x.den,x.num,by rw[rK,rK]; rfl,Ka (n:=10) (by omega) (by decide),λz=>by omega,λz r hr'=>k r _ (AZ hr' _) ?_⟩;have e:(((x.den:Nat):Int):Rat) / ((x.num:Int):Rat)=x⁻¹:=by
  have:=(nO x⁻¹).symm
  rw[nX,i1,i2] at this;exact this.symm
 show AJ _ _ _ r=_;rw[AU,Fc _ _ z,e]
inductive VA(vs:List V)(H:Hp)(Q:VK):Prop
 | mk (c a b:Nat) (h_0:vs=[.int (c:Int),.int (a:Int),.int (b:Int)]) (h_1:c<=1000) (h_2:∀l H',AN H H'->H' l=some (.AF (Be (GC c a b)))->Q (.ref l) H'):VA vs H Q
def Vh:Sp:=λvs H Q _=>VA vs H Q
theorem gP:A2 ["count","upper","lower"] ["count","upper","lower"] (Ap s_lands_placed):=A8
theorem dy:(["land","upper","lower"]:List Str).Nodup:=by decide +kernel
theorem Xt(F:Ar K "lands_placed" "lands_placed" s_lands_placed f fd)(mr:mg "range" = none):Ao P w K mg base Ay 1 f fd ["count","upper","lower"] Vh:=by
 refine F.A9 gP λcdv A outer s H vs Q E hr h=>?_
 obtain⟨c,a,b,rfl,hc,q⟩:=h;refine⟨_,AV (An (AM KI (Cd (AA (pv 1) (AA (pv 2) AB))) (Y5 (Nc:=["land","upper","lower"]) (cap:=[(1,1),(2,2)]) (g:=BU 0) (tt:=V8 (MD (Bd P1 (Aj 0) (Aj 1))) (MD (Bd P1 (Aj 0) (Aj 2)))) (te:=Aj 0) rfl (Iw (by rfl) mr (AA (pv 0) AB))
   (CB rfl rfl (by decide +kernel) (by decide +kernel) (jb.mpr ⟨⟨rfl,rfl⟩,jb.mpr ⟨⟨rfl,rfl⟩,i6 _⟩⟩) rfl (jb.mpr ⟨⟨_,_,rfl,rfl,rfl,rfl,rfl⟩,jb.mpr ⟨⟨_,_,rfl,rfl,rfl,rfl,rfl⟩,i6 _⟩⟩))
   (λ_ _ _ _ _=>Ae (i:=0) dy rfl (Or.inl rfl)) (λ_ _ _ _ _=>PW.pt (OA (BN Dd (pv 0) (pv 1) (BH _)) (Nm (BN Dd (pv 0) (pv 2) (BH _))))) (λ_ _ _ _ _=>pv 0)))),?_⟩
 refine⟨_,rfl,_,rfl,by exact CA,λl1 hl1=>?_⟩;obtain⟨H1,zg,s1,e1⟩:=nw hl1 (.AF [.int (a:Int),.int (b:Int)]);rw[zg];refine⟨_,rfl,(c:Int),rfl,by omega,by omega,λacc hacc=>?_⟩;rw[show((c:Int)).toNat=c by omega];refine X9 Qs hc hacc (λi ys σ hp=>ys=Be ((List.range i).filter λl=>decide (l≠a/\l≠b))/\∃u,σ=[u,some (.int (a:Int)),some (.int (b:Int))]) ⟨rfl,none,rfl⟩ ?_ ?_
 ·rintro i ys σ H2' x H2 hi sm hacc2 ⟨rfl,u,rfl⟩ ⟨rfl,rfl⟩ Cc Nn hC hN;rw[show((0:Int)+(i:Nat))=(i:Int) by omega];refine⟨_,rfl,_,rfl,rfl,_,rfl,?_⟩;have no:¬(i≠a/\i≠b)->Nn [some (.int (i:Int)),some (.int (a:Int)),some (.int (b:Int))] H2:=λe=>hN _ _ (AN.refl _) ⟨by rw[lS,nG,pJ (by rw[lY]; exact e)]; simp,_,rfl⟩
  by_cases h1:i=a
  ·refine D7 (by rw[h1]) ?_;exact Bh (no λe=>e.1 h1)
  ·refine HQ (EE (by omega)) ?_;refine⟨_,rfl,_,rfl,rfl,_,rfl,?_⟩;by_cases h2:i=b
   ·exact D7 (by rw[h2]) (no λe=>e.2 h2)
   ·refine HQ (EE (by omega)) ⟨_,rfl,hC _ _ _ (AN.refl _) ⟨?_,_,rfl⟩⟩;rw[lS,nG,pK (by rw[lY]; exact⟨h1,h2⟩),List.filter_nil];unfold Be;rw[ji];rfl
 ·rintro ys σ H2 sm hacc2 ⟨rfl,_⟩;refine⟨l1,acc,_,_,rfl,rfl,sm _ _ e1,hacc2,?_,λp hp=>q p _ ((s1.trans sm).trans (AZ hp _)) ?_⟩
  ·have:=List.length_filter_le (λl=>decide (l≠a/\l≠b)) (List.range c)
   rw[jN] at this;show 2+(Be _).length<=sizeLine;unfold Be;rw[ig,kn];omega
  ·rw[AU];rfl
def GJ(os:List Nat):List (Int×Int):=os.mapIdx λi (l:Nat)=>((l:Int),(i:Int))
theorem UM{os:List Nat}{i l:Nat}(h:os[i]?=some l):(GJ os)[i]?=some ((l:Int),(i:Int)):=by
 unfold GJ;rw[l5,h];rfl
theorem SM(os:List Nat):(GJ os).length=os.length:=by
 unfold GJ;rw[kJ]
theorem R5(os:List Nat):(GJ os).map (·.1)=os.map λl:Nat=>(l:Int):=by
 refine o8 λi=>?_
 rw[iy,iy];unfold GJ;rw[l5];cases os[i]? <;> rfl
theorem Xk{os:List Nat}(nd:os.Nodup):(os.map λl:Nat=>(l:Int)).Nodup:=by
 rw[oV,kE];exact(oV.mp nd).imp λh e=>h (by omega)
theorem Tv{os:List Nat}(nd:os.Nodup){l:Nat}(h:l∈os):lk (GJ os) (l:Int)=some ((DT os l:Nat):Int) :=
 MF (by rw[R5]; exact Xk nd) (iq (UM (ON h)))
theorem aK{os:List Nat}(nd:os.Nodup){i l:Nat}(h:os[i]?=some l):(l:Int)∉((GJ os).take i).map (·.1):=by
 rw[oh,R5];intro hm;rw[<-List.map_take] at hm;obtain⟨l',h1,h2⟩:=i7.mp hm;obtain rfl:l'=l:=by omega
 obtain⟨j,hj⟩:=kG.mp h1;rw[oQ] at hj;split at hj
 ·rename_i z
  have:=(nV (ip.mp hj).1 nd).mp (hj.trans h.symm)
  omega
 ·cases hj
theorem Rn{os:List Nat}{i:Nat}{x:V}(h:(Be os)[i]?=some x):∃l:Nat,x=.int (l:Int)/\os[i]?=some l:=by
 rw[iy] at h;obtain⟨l,h1,h2⟩:=j6.mp h;exact⟨l,h2.symm,h1⟩
inductive U1(vs:List V)(H:Hp)(Q:VK):Prop
 | mk (a:Addr) (os:List Nat) (h_0:vs=[.ref a]) (h_1:H a=some (.AF (Be os))) (h_2:os.Nodup) (h_3:os.length<=1000) (h_4:∀d H',AN H H'->H' d=some (.dK (BB (GJ os)))->Q (.ref d) H'):U1 vs H Q
def Vy:Sp:=λvs H Q _=>U1 vs H Q
theorem MO:A2 ["lands","places","place","land"] ["lands"] (Ap s_places_of):=A8
theorem eV(F:Ar K "places_of" "places_of" s_places_of f fd)(me:mg "enumerate" = none):Ao P w K mg base Ay 1 f fd ["lands"] Vy:=by
 refine F.A9 MO λcdv A outer s H vs Q E hr h=>?_
 obtain⟨a,os,rfl,ha,nd,hl,q⟩:=h;have hu:=FN hr;refine⟨_,AR (AX (i:=1) MO.nd rfl (Or.inl rfl) Jw)
  (AR (CQ jt rfl (Js (by rfl) me (AA (pv 0) AB)) (Ds (n:=2) (K:=K) rfl (BF (Ae (i:=2) MO.nd rfl (Or.inl rfl)) (BF (Ae (i:=3) MO.nd rfl (Or.inl rfl)) Cq)))
   (AV (GR hu (pv 1) (pv 3) (pv 2) rfl)))
  (AV (An (pv 1)))),?_⟩
 intro d hd;have s0:AN H (AJ H d (.dK [])):=AZ hd _;dsimp only;refine Cp ?_;refine Co λU hU=>?_
 refine⟨_,rfl,a,_,rfl,s0 _ _ ha,?_⟩;refine Mp (xs:=Be os) (λi σ H2=>∃u v,σ=[some (.ref a),some (.ref d),u,v]/\AN H H2/\H2 d=some (.dK (BB ((GJ os).take i)))) ⟨none,none,rfl,s0,AU⟩ (λi σ H2 _ ⟨_,_,_,s2,_⟩=>s2 _ _ ha) ?_ ?_
 ·rintro i x σ H2 p hx ⟨u,v,rfl,s2,hd2⟩ hp U2 hU2;obtain⟨l,rfl,hl2⟩:=Rn hx;have s3:=AZ hp (.AG [.int i,.int (l:Int)]);refine⟨p,_,rfl,AI.of AU,rfl,_,_,rfl,_,_,rfl,rfl,?_⟩;refine⟨_,rfl,_,rfl,_,rfl,d,_,rfl,D8.k (k:=Sum.inl (l:Int)) (s3 _ _ hd2) ?_,hU2 _ _ ⟨_,_,rfl,(s2.trans s3).up hd _,?_⟩⟩
  ·rw[ig,jT,SM];exact Cw (by omega)
  ·rw[AU,HI (aK nd hl2),DM (UM hl2)]
 ·rintro σ H2 ⟨u,v,rfl,s2,hd2⟩;rw[<-hU];rw[ig,jf (by rw[SM]; exact i4 _)] at hd2;exact⟨_,rfl,q d _ s2 hd2⟩
inductive VF(vs:List V)(H:Hp)(Q:VK):Prop
 | mk (a:Addr) (r:List Int) (m:Nat) (h_0:vs=[.ref a,.int (m:Int)]) (h_1:Ba H a r) (h_2:r.length<=1000) (h_3:∀p H',AN H H'->H p=none->Ba H' p (r.map (BL m))->Q (.ref p) H'):VF vs H Q
def PV:Sp:=λvs H Q _=>VF vs H Q
theorem fO:A2 ["ring","outer"] ["ring","outer"] (Ap s_turn_of):=A8
theorem gz:(["end","outer"]:List Str).Nodup:=by decide +kernel
theorem eF(F:Ar K "turn_of" "turn_of" s_turn_of f fd)(G:Al P w K mg base 1 "other_end" ["end"] L9)(mt:mg "tuple" = none):Ao P w K mg base Ay 2 f fd ["ring","outer"] PV:=by
 refine F.A9 fO λcdv A outer s H vs Q E hr h=>?_
 obtain⟨a,r,m,rfl,ha,hl,q⟩:=h;refine⟨_,AV (An (Cy (Fj (K:=K)) (by rfl) mt B6 (AA (C5 (Nc:=["end","outer"]) (cap:=[(1,1)]) (g:=BU 0) (te:=WV (MD (Bd Wj (Bd (rI MQ λi j=>.int (i / j)) (Aj 0) (tC (.int 2))) (Aj 1))) (DI L9 [] E0 (BI (Aj 0) By)) (Aj 0)) rfl (Fx (K:=K) (pv 0))
   (CB rfl rfl (by decide +kernel) (by decide +kernel) (jb.mpr ⟨⟨rfl,rfl⟩,i6 _⟩) rfl (jb.mpr ⟨⟨_,_,rfl,rfl,rfl,rfl,rfl⟩,i6 _⟩)) (λ_ _ _ _ _=>Ae (i:=0) gz rfl (Or.inl rfl))
   (λ_ _ _ _ _=>NP (BN EX (AM ES (pv 0) AE) (pv 1) (BH _)) (Aa G hr (AA (pv 0) AB)) (pv 0))) AB))),?_⟩
 have ha':H a=some (.AG (r.map V.int)):=ha;refine⟨_,rfl,a,rfl,⟨_,AI.of ha'⟩,λacc hacc=>?_⟩;refine CP (FE ha') (by rw[ig]; omega) hacc (λi ys σ hp=>ys=((r.map (BL m)).take i).map V.int/\∃u,σ=[u,some (.int (m:Int))]) ⟨rfl,none,rfl⟩ ?_ ?_
 ·rintro i ys σ H3 x H4 hi sm hacc2 ⟨rfl,u,rfl⟩ ⟨rfl,hx⟩ Cc hC;obtain⟨e,rfl,he⟩:=GS hx;have key:Cc [some (.int e),some (.int (m:Int))] (.int (BL m e)) H4:=by
   refine hC _ _ _ (AN.refl _) ⟨?_,_,rfl⟩;rw[DM (show(r.map (BL m))[i]?=some (BL m e) by rw[iy,he]; rfl),ji];rfl
  refine⟨_,rfl,_,_,rfl,rfl,⟨by decide,by decide⟩,_,rfl,rfl,_,rfl,?_⟩;unfold BL at key;by_cases z:e / 2=(m:Int)
  ·rw[i5 z] at key;exact De (iv z) ⟨_,rfl,e,rfl,key⟩
  ·rw[iz z] at key;exact DP (EE z) ⟨_,rfl,key⟩
 ·rintro ys σ H4 s4 ha4 hl4 ⟨rfl,u,rfl⟩;rw[ig,jf (by rw[ig]; exact i4 _)] at ha4;refine⟨acc,_,rfl,.inl ⟨AQ.of ha4,λp hp=>q p _ (s4.trans (AZ hp _)) (s4.free hp) AU⟩⟩
theorem L5{L:List (List Int)}{n:Nat}(nd:L.flatten.Nodup)(mem:∀{x:Int},x∈L.flatten↔AD n x){e:Nat}(h:e<n){z:Int}(hz:z=(e:Int)):Bt (((List.range n).map λe:Nat=>(lk (C6 0 L) (e:Int)).getD 0).map V.int) z=some (.int ((BC L z:Nat):Int)):=by
 subst hz;refine BX ?_;rw[iy,iy,j4 h,oz,oz,UZ nd (mem.mpr ⟨by omega,by omega⟩)];rfl
theorem Bg.BQ{H:Hp}{a b:Addr}{r:AO}{ys:List V}(h:Bg H b r)(e:H a=some (.AF ys)):Bg (BQ H a) b r:=by
 obtain⟨d,h1,h2⟩:=h;have h2':H d=some (.AG [.int r.2.2.num,.int r.2.2.den]):=h2;refine⟨d,GW h1 λz=>?_,GW h2' λz=>?_⟩
 ·rw[z,e] at h1; cases h1
 ·rw[z,e] at h2'; cases h2'
variable {f5 f6 f7:Addr} {d5 d6 d7:FuncData}
inductive U5(vs:List V)(H:Hp)(Q:VK):Prop
 | mk (a ra ta:Addr) (n:Nat) (rs:List AO) (ts:List (List Int)) (L:List (List Int)) (os:List Nat) (h_0:vs=[.ref a]) (h_1:H a=some (.AG [.int (n:Int),.ref ra,.ref ta])) (h_2:BP n rs ts) (h_3:Ef (AL ts) rs.length) (h_4:A4 Bg H ra rs) (h_5:A4 Ba H ta ts)
  (h_6:L=Am (AL ts) (2*rs.length+2)) (h_7:os=GC L.length (BC L (2*(rs.length:Int)+1)) (BC L (2*(rs.length:Int))))
  (h_8:∀p cr tr H',AN H H'->H' p=some (.AG [.int (L.length:Int),.ref cr,.ref tr])->A4 Bg H' cr (CJ L os rs)->A4 Ba H' tr ((Cz rs.length L os).map BV)->Q (.ref p) H'):U5 vs H Q
def Vx:Sp:=λvs H Q _=>U5 vs H Q
theorem FR:A2 ["net","ropes","outer","lands","numbers","order","places","crossing","k","rope","turns"] ["net"] (Ap s_other_net):=A8
theorem dc:(["land","lands","outer"]:List Str).Nodup:=by decide +kernel
theorem eK (F:Ar K "other_net" "other_net" s_other_net f fd)
  (G1:Al P w K mg base 3 "rings" ["turns"] N6)
  (G2:Al P w K mg base 4 "land_of" ["turns"] NL)
  (G3:Al P w K mg base 1 "lands_placed" ["count","upper","lower"] Vh)
  (G4:Al P w K mg base 1 "places_of" ["lands"] Vy)
  (G5:Al P w K mg base 3 "over" ["one","other"] V2)
  (G6:Al P w K mg base 2 "turn_of" ["ring","outer"] PV)
  (G7:Al P w K mg base 2 "told_turns" ["turns"] VR)
  (ml:mg "len" = none) (me:mg "enumerate" = none) (mt:mg "tuple" = none):Ao P w K mg base Ay 5 f fd ["net"] Vx:=by
 refine F.A9 FR λcdv A outer s H vs Q E hr h=>?_
 obtain⟨a,ra,ta,n,rs,ts,L,os,rfl,ha,k,D,⟨cs,hra,hC⟩,⟨bs,hta,hB⟩,hL,ho,q⟩:=h;have hu:=FN hr;refine⟨_,AR (AX (i:=1) FR.nd rfl (Or.inl rfl) (pT K (pv 0) AE))
  (AR (AX (i:=2) FR.nd rfl (Or.inr rfl) (Au (Bb (K:=K)) (by rfl) ml BO (AA (pv 1) AB)))
  (AR (AX (i:=3) FR.nd rfl (Or.inr rfl) (Aa G1 (hr.mono (by decide)) (AA (pT K (pv 0) AE) AB)))
  (AR (AX (i:=4) FR.nd rfl (Or.inl rfl) (Aa G2 hr (AA (pT K (pv 0) AE) AB)))
  (AR (AX (i:=5) FR.nd rfl (Or.inl rfl) (Aa G3 (hr.mono (by decide)) (AA (Au (Bb (K:=K)) (by rfl) ml BO (AA (pv 3) AB)) (AA (pT K (pv 4) (AM Bc (AM Bw AE (pv 2)) AE)) (AA (pT K (pv 4) (AM Bw AE (pv 2))) AB)))))
  (AR (AX (i:=6) FR.nd rfl (Or.inl rfl) (Aa G4 (hr.mono (by decide)) (AA (pv 5) AB)))
  (AR (AX (i:=7) FR.nd rfl (Or.inl rfl) (Cd AB))
  (AR (CQ jt rfl (JE (by rfl) me (AA (pv 1) AB)) (Ds (n:=2) (K:=K) rfl (BF (Ae (i:=8) FR.nd rfl (Or.inl rfl)) (BF (Ae (i:=9) FR.nd rfl (Or.inl rfl)) Cq)))
   (AV (DN (Cr K jq jI jJ Dz (pv 7) (AA (Bf
    (AA (EU hu (pv 6) (pT K (pv 4) (AM Bw AE (pv 8))) (λ_ _=>rfl))
    (AA (EU hu (pv 6) (pT K (pv 4) (AM Bc (AM Bw AE (pv 8)) AE)) (λ_ _=>rfl))
    (AA (Aa G5 (hr.mono (by decide)) (AA (Bf (AA AE (AA AE AB))) (AA (pT K (pv 9) AE) AB))) AB)))) AB)))))
  (AR (Iq (i:=10) FR.nd rfl (Or.inl rfl) (Nc:=["land","lands","outer"]) (cap:=[(1,3),(2,2)]) (g:=BU 0) (te:=DI PV [] E0 (BI (Bd (Fy K) (Aj 1) (Aj 0)) (BI (Aj 2) By))) rfl (Ki (K:=K) (pv 5))
   (CB rfl rfl (by decide +kernel) (by decide +kernel) (jb.mpr ⟨⟨rfl,rfl⟩,jb.mpr ⟨⟨rfl,rfl⟩,i6 _⟩⟩) rfl (jb.mpr ⟨⟨_,_,rfl,rfl,rfl,rfl,rfl⟩,jb.mpr ⟨⟨_,_,rfl,rfl,rfl,rfl,rfl⟩,i6 _⟩⟩))
   (λ_ _ _ _ _=>Ae (i:=0) dc rfl (Or.inl rfl)) (λ_ _ _ _ _=>Aa G6 (hr.mono (by decide)) (AA (pT K (pv 1) (pv 0)) (AA (pv 2) AB))))
  (AV (An (Bf (AA (Au (Bb (K:=K)) (by rfl) ml BO (AA (pv 5) AB)) (AA (Cy (Fj (K:=K)) (by rfl) mt B6 (AA (pv 7) AB)) (AA (Aa G7 (hr.mono (by decide)) (AA (pv 10) AB)) AB)))))))))))))),?_⟩
 obtain⟨k',po,_⟩:=NG k D hL ho;have T:=k.tn;have m14:=k.m14;have PM:=T.perm;have nd:L.flatten.Nodup:=by rw[hL]; exact Gz PM
 have mem:∀{x:Int},x∈L.flatten↔AD (2*rs.length+2) x:=λ{x}=>by rw[hL]; exact EG PM
 have ndo:os.Nodup:=po.nodup_iff.mpr kU;have lo:os.length=L.length:=by have:=po.length_eq; rwa [jN] at this
 have l15:=k'.n15;have lcs:cs.length=rs.length:=hC.1;have nl:∀{x:Int},AD (2*rs.length+2) x->BC L x<L.length:=λhx=>by
  obtain⟨r,h1,_⟩:=GQ (mem.mpr hx);exact(ip.mp h1).1
 have inO:∀{x:Int},AD (2*rs.length+2) x->BC L x∈os:=λhx=>po.mem_iff.mpr (jw.mpr (nl hx))
 have mul2:∀x:Int,IX 2 x:=λx=>.inl ⟨by decide,by decide⟩
 refine⟨_,rfl,a,_,_,_,rfl,rfl,AI.of ha,EA _ _ _,?_⟩;refine⟨_,rfl,ra,_,rfl,.inr (AI.of hra),?_⟩;rw[ig,lcs];refine⟨_,rfl,a,_,_,_,rfl,rfl,AI.of ha,C1 _ _ _,ta,bs,ts,2*rs.length+2,rfl,⟨hta,hB⟩,T,by omega,λlp ls H1 s1 _ hlp hR=>?_⟩;refine⟨_,rfl,a,_,_,_,rfl,rfl,AI.of (s1 _ _ ha),C1 _ _ _,ta,bs,ts,2*rs.length+2,rfl,Hn.keep ⟨hta,hB⟩ s1,T,by omega,λnp H2 s2 _ hnp=>?_⟩;rw[<-hL] at hR hnp;have lls:ls.length=L.length:=hR.1;have hlp2:=s2 _ _ hlp;have s02:=s1.trans s2;refine⟨_,rfl,lp,_,rfl,.inr (AI.of hlp2),_,rfl,_,rfl,_,_,rfl,rfl,mul2 _,_,_,rfl,rfl,np,_,_,_,rfl,rfl,AI.of hnp,L5 nd mem (e:=2*rs.length+1) (by omega) (by omega),_,rfl,_,rfl,_,_,rfl,rfl,mul2 _,np,_,_,_,rfl,rfl,AI.of hnp,L5 nd mem (e:=2*rs.length) (by omega) (by omega),?_⟩;refine⟨L.length,BC L (2*(rs.length:Int)+1),BC L (2*(rs.length:Int)),by rw[ig,lls]; rfl,by omega,λop H3 s3 hop=>?_⟩;rw[<-ho] at hop;refine⟨_,rfl,op,os,rfl,hop,ndo,by omega,λpd H4 s4 hpd=>?_⟩;refine⟨by exact Gq,λcr hcr=>?_⟩;obtain⟨H5,zg,s5,hcr5⟩:=nw hcr (.AF []);rw[zg];have s04:AN H H4:=(s02.trans s3).trans s4;dsimp only;refine Cp ?_;refine Co λUL1 hUL1=>?_
 refine⟨_,rfl,ra,_,rfl,s5 _ _ (s04 _ _ hra),?_⟩;refine JB (xs:=cs.map V.ref) (λi σ H6=>∃u v,σ=[some (.ref a),some (.ref ra),some (.int (rs.length:Int)),some (.ref lp),some (.ref np),some (.ref op),some (.ref pd),some (.ref cr),u,v,none]/\AN H4 H6/\∃gs:List Addr,H6 cr=some (.AF (gs.map V.ref))/\At Bg (BQ H6 cr) gs ((CJ L os rs).take i))
  ⟨none,none,rfl,s5,[],hcr5,At.nil⟩ (λi σ H6 _ ⟨_,_,_,s6,_⟩=>s6 _ _ (s04 _ _ hra)) ?_ ?_
 ·rintro i x σ H6 p hx ⟨u,v,rfl,s6,gs,hcr6,hG⟩ hp;obtain⟨c,r,rfl,_,hy,e,hc,he⟩:=hC.ref hx;have hi:i<rs.length:=(ip.mp hy).1;have ek:=(k.ease r (iq hy)).1;have s7:=AZ hp (.AG [.int i,.ref c]);refine⟨p,_,rfl,AI.of AU,rfl,_,_,rfl,_,_,rfl,rfl,?_⟩;generalize AJ H6 p (.AG [.int i,.ref c])=H7 at s7;have s47:=s6.trans s7;have hnp7:=s47 _ _ (s4 _ _ (s3 _ _ hnp));have i1:AD (2*rs.length+2) (2*(i:Int)):=⟨by omega,by push_cast; omega⟩;have i2:AD (2*rs.length+2) (2*(i:Int)+1):=⟨by omega,by push_cast; omega⟩;refine⟨_,rfl,.inl ⟨rfl,_,AQ.of (s7 _ _ hcr6)⟩,?_⟩;refine⟨_,rfl,_,rfl,_,rfl,_,_,rfl,rfl,mul2 _,np,_,_,_,rfl,rfl,AI.of hnp7,L5 nd mem (e:=2*i) (by omega) (by omega),pd,_,rfl,IE (s47 _ _ hpd) (Tv ndo (inO i1)),?_⟩;refine⟨_,rfl,_,rfl,_,rfl,_,_,rfl,rfl,mul2 _,_,_,rfl,rfl,np,_,_,_,rfl,rfl,AI.of hnp7,L5 nd mem (e:=2*i+1) (by omega) (by omega),pd,_,rfl,IE (s47 _ _ hpd) (Tv ndo (inO i2)),?_⟩;refine⟨by exact CA,λo1 ho1=>?_⟩;obtain⟨H8,zg,s8,ho8⟩:=nw ho1 (.AG [.int 1,.int 1]);rw[zg];have s08:=s04.trans (s47.trans s8);refine⟨_,rfl,c,_,_,_,rfl,rfl,AI.of (s08 _ _ hc),C1 _ _ _,?_⟩;refine⟨o1,e,r.2.2,rfl,ho8,s08 _ _ he,ek,λiv9 H9 s9 hiv=>?_⟩;refine⟨by exact FX,λt ht=>?_⟩;obtain⟨HA,zg,s10,ht10⟩:=nw ht (.AG [.int ((DT os (BC L (2*(i:Int))):Nat):Int),.int ((DT os (BC L (2*(i:Int)+1)):Nat):Int),.ref iv9]);rw[zg];have s6A:AN H6 HA:=(s7.trans s8).trans (s9.trans s10);have hcrA:=s6A _ _ hcr6;have lg:gs.length<=rs.length:=by
   have:=hG.1
   rw[jT] at this;have z:(CJ L os rs).length=rs.length:=by unfold CJ; rw[kJ]
   omega
  refine⟨cr,_,_,rfl,rfl,hcrA,by rw[ig]; exact Cw (by omega),?_⟩;refine⟨_,_,rfl,(s6.trans s6A).up hcr _,gs++[t],?_,?_⟩
  ·rw[AU,ji];rfl
  ·rw[J2,DM (NV hy)];refine(hG.keep D3 (EH cr s6A)).snoc ?_;refine Bg.BQ ?_ hcrA;exact⟨iv9,ht10,s10 _ _ hiv⟩
 ·rintro σ H6 ⟨u,v,rfl,s6,gs,hcr6,hG⟩;subst hUL1;rw[ig,lcs,jf (by unfold CJ; rw[kJ]; exact i4 _)] at hG;have hop6:=s6 _ _ (s4 _ _ hop);refine⟨_,rfl,op,rfl,⟨_,AQ.of hop6⟩,λacc hacc=>?_⟩;refine CP (GO hop6) (by rw[ig]; omega) hacc (λi ys σ hp=>∃ds:List Addr,ys=ds.map V.ref/\At Ba hp ds ((Cz rs.length L os).take i)/\∃u,σ=[u,some (.ref lp),some (.int (rs.length:Int))]) ⟨[],rfl,At.nil,none,rfl⟩ ?_ ?_
  ·rintro i ys σ H7 x H8 hi s7 hacc2 ⟨ds,rfl,hD,u,rfl⟩ ⟨rfl,hx⟩ Cc hCc;obtain⟨l,rfl,hl⟩:=Rn hx;have hlL:l<L.length:=jw.mp (po.mem_iff.mp (iq hl));have hr1:L[l]?=some L[l]:=ij hlL;have hb1:ls[l]?=some ls[l]:=ij (by omega);have hbr:=hR.2 l _ _ hb1 hr1;have et:(Cz rs.length L os)[i]?=some (L[l].map (BL rs.length)):=by
    unfold Cz;rw[iy,hl,oz,ir,hr1];rfl
   have tl:=k'.tlen (iq et);rw[ig] at tl;have lR:(CJ L os rs).length=rs.length:=by unfold CJ; rw[kJ]
   have s47:=s6.trans s7;refine⟨_,rfl,_,rfl,lp,_,_,_,rfl,rfl,AI.of (s47 _ _ (s4 _ _ (s3 _ _ hlp2))),BX (CT hb1),_,rfl,?_⟩;refine⟨ls[l],L[l],rs.length,rfl,s47 _ _ (s4 _ _ (s3 _ _ (s2 _ _ hbr))),by omega,λp H9 s9 _ hp=>?_⟩;refine hCc _ _ _ s9 ⟨ds++[p],by simp,?_,_,rfl⟩;rw[DM et];exact(hD.keep C4 (EH acc s9)).snoc (Ba.BQ hp (s9 _ _ hacc2))
  ·rintro ys σ H7 s7 ha7 hl7 ⟨ds,rfl,hD,u,rfl⟩;have ld:(Cz rs.length L os).length=os.length:=by unfold Cz; rw[ig]
   rw[ig,jf (by omega)] at hD;refine⟨_,rfl,op,_,rfl,.inl (AQ.of (s7 _ _ hop6)),_,rfl,cr,_,rfl,.inl ⟨AQ.of (s7 _ _ hcr6),λcp hcp=>?_⟩⟩;obtain⟨H8,zg,s8,hcp8⟩:=nw hcp (.AG (gs.map V.ref));rw[zg];refine⟨_,rfl,acc,Cz rs.length L os,rfl,⟨ds,s8 _ _ ha7,(hD.keep C4 (D5 H7 acc)).keep C4 s8⟩,by omega,λt ht=>⟨k'.ne t ht,?_⟩,λtr H9 s9 htr=>?_⟩
   ·have lR:(CJ L os rs).length=rs.length:=by unfold CJ; rw[kJ]
    have:=k'.tlen ht
    omega
   refine⟨by exact FX,λp hp=>?_⟩;have sA:=AZ hp (.AG [.int ((Be os).length:Int),.ref cp,.ref tr]);have s7A:=s8.trans (s9.trans sA);refine q p cp tr _ (((s04.trans s6).trans s7).trans s7A) ?_ ⟨gs,sA _ _ (s9 _ _ hcp8),?_⟩ (fB sA htr)
   ·rw[AU,ig,lo]
   ·exact(hG.keep D3 (D5 H6 cr)).keep D3 (s7.trans s7A)
theorem cm{H:Hp}{Q:VK}{t b:Int}{q:Rat}(hb:BY b)(b0:0<b)(e:BR t b=fr q)(k:MK H Q q):OU [.int t,.int b] H Q:=by
 refine⟨t,b,rfl,b0,hb,?_⟩;have e2:=Fc t b (by omega);have e3:((t:Rat) / (b:Rat))=q:=by
  rw[e] at e2;have h1:=congrArg Prod.fst e2;have h2:=congrArg Prod.snd e2;simp only[fr] at h1 h2;exact(Rat.ext h1 (by omega)).symm
 rw[e3];exact k
theorem gB(x y:Rat):0<(x.den:Int)*(y.den:Int):=oK (by have:=x.den_nz; omega) (by have:=y.den_nz; omega)
theorem fo:A2 ["_law_a","_law_b"] ["_law_a","_law_b"] (Ap s_law_minus):=A8
theorem YB(F:Ar K "_law_minus" "_law_minus" s_law_minus f fd)(G:Al P w K mg base 2 "_law_fraction" ["_law_top","_law_bottom"] Kd):
  Ao P w K mg base Ay 3 f fd ["_law_a","_law_b"] (DY λx y=>x-y):=by
 refine F.A9 fo λcdv A outer s H vs Q E hr h=>?_
 obtain⟨p,q,x,y,rfl,hp,hq,sx,sy,k⟩:=h;refine⟨_,AV (An (Aa G hr (AA (AM DW (AM DG (pT K (pv 0) AE) (pT K (pv 1) AE)) (AM DG (pT K (pv 1) AE) (pT K (pv 0) AE))) (AA (AM DG (pT K (pv 0) AE) (pT K (pv 1) AE)) AB)))),?_⟩;exact⟨_,rfl,p,_,_,_,rfl,rfl,AI.of hp,BE,_,rfl,q,_,_,_,rfl,rfl,AI.of hq,A3,_,_,rfl,rfl,⟨sx.n,sy.d⟩,_,rfl,q,_,_,_,rfl,rfl,AI.of hq,BE,_,rfl,p,_,_,_,rfl,rfl,AI.of hp,A3,_,_,rfl,rfl,⟨sy.n,sx.d⟩,_,_,rfl,rfl,
  _,rfl,p,_,_,_,rfl,rfl,AI.of hp,A3,_,rfl,q,_,_,_,rfl,rfl,AI.of hq,A3,_,_,rfl,rfl,⟨sx.d,sy.d⟩,cm (Sf.dd sx sy) (gB x y) (Oa x y) k⟩
theorem aJ{t b:Int}(t0:0<t)(t1:t<=2 ^ 30)(b0:0<b)(b1:b<=2 ^ 30):Sb 30 30 ((t:Rat) / (b:Rat)):=by
 have e:=Fc t b (by omega);have l1:=Qf t b (by omega);have l2:=Qq t b (by omega);rw[e] at l1 l2;dsimp only at l1 l2;exact⟨by omega,by omega⟩
inductive RD(vs:List V)(H:Hp)(Q:VK):Prop
 | mk (z:Int) (h_0:vs=[.int z]) (h_1:∀p H' q,AN H H'->AS H' p q->Sb 30 30 q->Q (.ref p) H'):RD vs H Q
def S1:Sp:=λvs H Q _=>RD vs H Q
theorem WG:A2 ["_law_c","_law_most"] ["_law_c"] (Ap s_law_fall):=A8
theorem ZO(F:Ar K "_law_fall" "_law_fall" s_law_fall f fd)(G:Al P w K mg base 2 "_law_fraction" ["_law_top","_law_bottom"] Kd):
  Ao P w K mg base Ay 3 f fd ["_law_c"] S1:=by
 refine F.A9 WG λcdv A outer s H vs Q E hr h=>?_
 obtain⟨z,rfl,q⟩:=h;refine⟨_,AR (Bl (BN EX (AM CH (pv 0) AE) AE (BH _)) (AV (An (Bf (AA AE (AA AE AB))))) B7)
  (AR (AX (i:=1) WG.nd rfl (Or.inl rfl) (pL K (Cd (AA AE (AA AE AB))) (AM DW (AM CH (pv 0) AE) AE)))
  (AV (An (Aa G hr (AA (AM Bc AE (AM CH (AM ES (pv 0) AE) (pv 1))) (AA (AM Bc AE (AM CH (AM Ff (AM ES (pv 0) AE) (pv 1)) (pv 1))) AB)))))),?_⟩
 have c0:=j9 z (show(3:Int)≠0 by decide);have c1:=ke z (show(0:Int)<3 by decide);refine⟨_,rfl,_,_,rfl,rfl,(show(0:Int)<3 by decide),rfl,_,rfl,?_⟩;by_cases hz:z % 3=0
 ·refine De (iv hz) ⟨by exact CA,λp hp=>?_⟩;exact q p _ 1 (AZ hp _) AU ⟨by decide,by decide⟩
 refine DP (EE hz) ?_;obtain⟨u,hu1,hu2⟩:∃u,Bt [V.int 99,.int 999999999] (z % 3-1)=some (.int u)/\(u=99\/u=999999999):=by
  rcases(by omega:z % 3=1\/z % 3=2) with e | e
  ·exact⟨99,by rw[e]; exact BX (j:=0) rfl,.inl rfl⟩
  ·exact⟨999999999,by rw[e]; exact BX (j:=1) rfl,.inr rfl⟩
 have u0:0<u:=by omega
 have d3:MQ z 3:=⟨by decide,by decide⟩;refine⟨by exact CA,λl1 h1=>?_⟩;refine⟨_,rfl,_,_,rfl,rfl,(show(0:Int)<3 by decide),_,_,rfl,rfl,l1,_,_,_,rfl,rfl,AQ.of AU,hu1,?_⟩;have s1:=AZ h1 (.AF [.int 99,.int 999999999]);generalize AJ H l1 (.AF [.int 99,.int 999999999])=H1 at s1;refine⟨_,rfl,_,_,rfl,rfl,d3,_,rfl,_,_,rfl,rfl,u0,_,_,rfl,rfl,_,rfl,_,_,rfl,rfl,d3,_,rfl,_,_,rfl,rfl,⟨by omega,Ka (n:=31) (by omega) (by decide)⟩,_,rfl,_,_,rfl,rfl,u0,_,_,rfl,rfl,?_⟩;have a1:=j9 (z / 3) (lB u0);have a2:=ke (z / 3) u0;have b1:=j9 ((z / 3).fdiv u) (lB u0);have b2:=ke ((z / 3).fdiv u) u0;have t30:(2:Int) ^ 30=1073741824:=by decide
 exact⟨_,_,rfl,by omega,Ka (n:=31) (by omega) (by decide),λp hp=>q p _ _ (s1.trans (AZ hp _)) AU (aJ (by omega) (by omega) (by omega) (by omega))⟩
inductive VO(vs:List V)(H:Hp)(Q:VK):Prop
 | mk (a:Addr) (t:List Int) (h_0:vs=[.ref a]) (h_1:Ba H a t) (h_2:t≠[]) (h_3:t.length<=1000) (h_5:∀x∈t,AD 30 x) (h_4:∀p H',AN H H'->Ba H' p (BV (t.map AH))->Q (.ref p) H'):VO vs H Q
def Pc:Sp:=λvs H Q _=>VO vs H Q
theorem fj:A2 ["_law_turn"] ["_law_turn"] (Ap s_law_exchanged):=A8
theorem gI:(["_law_end"]:List Str).Nodup:=by decide +kernel
theorem bh(F:Ar K "_law_exchanged" "_law_exchanged" s_law_exchanged f fd)(G:Al P w K mg base 1 "_law_begun" ["_law_turn"] UH):Ao P w K mg base Ay 2 f fd ["_law_turn"] Pc:=by
 refine F.A9 fj λcdv A outer s H vs Q E hr h=>?_
 obtain⟨a,t,rfl,ha,tn,tl,ti,q⟩:=h;refine⟨_,AV (An (Aa G hr (AA (C5 (Nc:=["_law_end"]) (cap:=[]) (g:=BU 0) (te:=Bd (Ez λi j=>.int (Builtin.bitXor i j)) (Aj 0) (tC (.int 1))) rfl (Fx (K:=K) (pv 0))
   (CB rfl rfl (by decide +kernel) (by decide +kernel) (i6 _) rfl (i6 _)) (λ_ _ _ _ _=>Ae (i:=0) gI rfl (Or.inl rfl)) (λ_ _ _ _ _=>AM KO (pv 0) AE)) AB))),?_⟩
 have ha':H a=some (.AG (t.map V.int)):=ha;refine⟨_,rfl,a,rfl,⟨_,AI.of ha'⟩,λacc hacc=>?_⟩;refine CP (FE ha') (by rw[ig]; omega) hacc (λi ys σ hp=>ys=((t.map AH).take i).map V.int/\∃u,σ=[u]) ⟨rfl,none,rfl⟩ ?_ ?_
 ·rintro i ys σ H3 x H4 hi sm hacc2 ⟨rfl,u,rfl⟩ ⟨rfl,hx⟩ Cc hC;obtain⟨e,rfl,he⟩:=GS hx;obtain⟨i0,i1⟩:=ti e (iq he);have ex:=O0 (y:=e+2) (n:=40) ⟨by omega,by push_cast at i1 ⊢; omega⟩ (by decide);have eo:Builtin.bitXor e 1=AH e:=by
   rw[show e+2-2=e by omega] at ex;rw[ex];unfold AH;split <;> split <;> omega
  refine⟨_,rfl,_,_,rfl,rfl,hC _ _ _ (AN.refl _) ⟨?_,_,rfl⟩⟩;rw[DM (show(t.map AH)[i]?=some (AH e) by rw[iy,he]; rfl),ji,eo];rfl
 ·rintro ys σ H4 s4 ha4 hl4 ⟨rfl,u,rfl⟩;rw[ig,jf (by rw[ig]; exact i4 _)] at ha4;exact⟨acc,t.map AH,rfl,ha4,λz=>tn (mh.mp z),by rw[ig]; exact tl,λp H' s' hp=>q p H' (s4.trans s') hp⟩
def JR(W U:Rat)(r:List Rat):List Rat:=[W-r.getD 2 0,U-r.getD 3 0,W-r.getD 0 0,U-r.getD 1 0]
inductive Uz(vs:List V)(H:Hp)(Q:VK):Prop
 | mk (p:Addr) (W U:Rat) (rows:List (List Rat)) (h_0:vs=[.ref p]) (h_1:IK H p W U rows) (h_2:∀r∈rows,r.length=4/\∀q∈r,Sf q) (h_3:rows.length<=1000) (h_4:Sf W/\Sf U) (h_5:∀a H',AN H H'->IK H' a W U (rows.map (JR W U))->Q (.ref a) H'):Uz vs H Q
def WD:Sp:=λvs H Q _=>Uz vs H Q
theorem GB:A2 ["_law_floor","_law_width","_law_height","_law_some","_law_made","_law_left","_law_low","_law_right","_law_high","_law_one"] ["_law_floor"] (Ap s_law_half_turn):=A8
theorem ZU(F:Ar K "_law_half_turn" "_law_half_turn" s_law_half_turn f fd)(G:Al P w K mg base 3 "_law_minus" ["_law_a","_law_b"] (DY λx y=>x-y))(mt:mg "tuple" = none):Ao P w K mg base Ay 4 f fd ["_law_floor"] WD:=by
 refine F.A9 GB λcdv A outer s H vs Q E hr h=>?_
 obtain⟨p,W,U,rows,rfl,⟨w,u,rc,hp,hw,hu,⟨bs,hrc,hB⟩⟩,r4,rl,⟨sW,sU⟩,q⟩:=h;refine⟨_,AR (Dr (pv 0) (Ds (n:=3) (K:=K) rfl (BF (Ae (i:=1) GB.nd rfl (Or.inl rfl)) (BF (Ae (i:=2) GB.nd rfl (Or.inl rfl)) (BF (Ae (i:=3) GB.nd rfl (Or.inl rfl)) Cq)))))
  (AR (AX (i:=4) GB.nd rfl (Or.inl rfl) (Cd AB))
  (AR (CQ jt rfl (Fx (K:=K) (pv 3)) (Ds (n:=4) (K:=K) rfl (BF (Ae (i:=5) GB.nd rfl (Or.inl rfl)) (BF (Ae (i:=6) GB.nd rfl (Or.inl rfl)) (BF (Ae (i:=7) GB.nd rfl (Or.inl rfl)) (BF (Ae (i:=8) GB.nd rfl (Or.inl rfl)) Cq)))))
   (AR (AX (i:=9) GB.nd rfl (Or.inl rfl) (Bf (AA (Aa G hr (AA (pv 1) (AA (pv 7) AB))) (AA (Aa G hr (AA (pv 2) (AA (pv 8) AB))) AB))))
   (AV (DN (Cr K jq jI jJ Dz (pv 4) (AA (AM NX (pv 9) (Bf (AA (Aa G hr (AA (pv 1) (AA (pv 5) AB))) (AA (Aa G hr (AA (pv 2) (AA (pv 6) AB))) AB)))) AB))))))
  (AV (An (Bf (AA (pv 1) (AA (pv 2) (AA (Cy (Fj (K:=K)) (by rfl) mt B6 (AA (pv 4) AB)) AB)))))))),?_⟩
 refine⟨_,rfl,p,_,rfl,AI.of hp,rfl,_,_,rfl,_,_,rfl,_,_,rfl,rfl,?_⟩;refine⟨by exact Gq,λR hR=>?_⟩;obtain⟨H1,zg,s1,zz⟩:=nw hR (.AF []);rw[zg];have e1:H1 R=some (.AF (([]:List Addr).map V.ref)):=zz;refine⟨_,rfl,rc,rfl,⟨_,AI.of (s1 _ _ hrc)⟩,?_⟩;refine IA (xs:=bs.map V.ref) (λi σ H2=>∃u5 u6 u7 u8 u9 ds,σ=[some (.ref p),some (.ref w),some (.ref u),some (.ref rc),some (.ref R),u5,u6,u7,u8,u9]/\AN H H2/\H2 R=some (.AF (ds.map V.ref))/\At (A4 AS) H2 ds ((rows.map (JR W U)).take i))
  ⟨none,none,none,none,none,[],rfl,s1,e1,At.nil⟩ (λi σ H2 _ ⟨_,_,_,_,_,_,_,s2,_⟩=>AI.of (s2 _ _ hrc)) ?_ ?_
 ·rintro i x σ H2 hx ⟨u5,u6,u7,u8,u9,ds,rfl,s2,eR,hD⟩;obtain⟨c,r,rfl,_,hy,hc⟩:=hB.ref hx;obtain⟨l4,sr⟩:=r4 r (iq hy);obtain⟨cs,hcs,hC⟩:=GY s2 hc;obtain⟨q0,q1,q2,q3,rfl⟩:∃q0 q1 q2 q3,r=[q0,q1,q2,q3]:=by
   match r,l4 with
   | [q0,q1,q2,q3],_=>exact⟨q0,q1,q2,q3,rfl⟩
  obtain⟨c0,c1,c2,c3,rfl⟩:∃c0 c1 c2 c3,cs=[c0,c1,c2,c3]:=by
   match cs,hC.1 with
   | [c0,c1,c2,c3],_=>exact⟨c0,c1,c2,c3,rfl⟩
  have f0:=hC.2 0 c0 q0 rfl rfl;have f1:=hC.2 1 c1 q1 rfl rfl;have f2:=hC.2 2 c2 q2 rfl rfl;have f3:=hC.2 3 c3 q3 rfl rfl;refine⟨c,_,rfl,AI.of hcs,rfl,_,_,rfl,_,_,rfl,_,_,rfl,_,_,rfl,rfl,?_⟩;refine⟨_,rfl,_,rfl,w,c2,W,q2,rfl,s2 _ _ hw,f2,sW,sr q2 (by simp),λt2 ht2=>?_⟩;obtain⟨H3,zg,s3,e3⟩:=Ky ht2 (W-q2);rw[zg];refine⟨_,rfl,_,rfl,u,c3,U,q3,rfl,s3 _ _ (s2 _ _ hu),As s3 f3,sU,sr q3 (by simp),λt3 ht3=>?_⟩;obtain⟨H4,zg,s4,e4⟩:=Ky ht3 (U-q3);rw[zg];refine⟨by exact CA,λo1 ho1=>?_⟩;obtain⟨H5,zg,s5,e5⟩:=nw ho1 (.AG [.ref t2,.ref t3]);rw[zg];have s25:=s3.trans (s4.trans s5);refine⟨_,rfl,.inl ⟨rfl,_,AQ.of (s25 _ _ eR)⟩,?_⟩;refine⟨_,rfl,_,rfl,_,rfl,w,c0,W,q0,rfl,s25 _ _ (s2 _ _ hw),As s25 f0,sW,sr q0 (by simp),λt0 ht0=>?_⟩;obtain⟨H6,zg,s6,e6⟩:=Ky ht0 (W-q0);rw[zg];have s26:=s25.trans s6;refine⟨_,rfl,_,rfl,u,c1,U,q1,rfl,s26 _ _ (s2 _ _ hu),As s26 f1,sU,sr q1 (by simp),λt1 ht1=>?_⟩;obtain⟨H7,zg,s7,e7⟩:=Ky ht1 (U-q1);rw[zg];refine⟨by exact CA,λo2 ho2=>?_⟩;obtain⟨H8,zg,s8,e8⟩:=nw ho2 (.AG [.ref t0,.ref t1]);rw[zg];have s58:=s6.trans (s7.trans s8);refine⟨o1,o2,_,_,rfl,rfl,s58 _ _ e5,e8,by exact WU,λbx H9 s9 hbx=>?_⟩;have s28:=(s25.trans s58).trans s9;have tB:A4 AS H9 bx (JR W U [q0,q1,q2,q3]):=S7 hbx (As ((s4.trans s5).trans (s58.trans s9)) e3) (As (s5.trans (s58.trans s9)) e4) (As ((s7.trans s8).trans s9) e6) (As (s8.trans s9) e7);refine⟨R,_,_,rfl,rfl,s28 _ _ eR,by rw[ig,hD.1,jT,ig]; exact Cw (by omega),?_⟩;refine⟨_,_,_,_,_,ds++[bx],rfl,(s2.trans s28).up hR _,by rw[AU]; simp,?_⟩;rw[DM (show(rows.map (JR W U))[i]?=some (JR W U [q0,q1,q2,q3]) by rw[iy,hy]; rfl)];exact Su (s28 _ _ eR) ((hD.keep GY s28).snoc tB)
 ·rintro σ H2 ⟨u5,u6,u7,u8,u9,ds,rfl,s2,eR,hD⟩;rw[ig,show bs.length=rows.length from hB.1,jf (by rw[ig]; exact i4 _)] at hD;refine⟨_,rfl,_,rfl,_,rfl,R,_,rfl,.inl ⟨AQ.of eR,λtp htp=>⟨by exact FX,λq1 hq1=>?_⟩⟩⟩;obtain⟨H3,zg,s3,e3⟩:=nw htp (.AG (ds.map V.ref));rw[zg] at hq1 ⊢;have s4:=AZ hq1 (.AG [.ref w,.ref u,.ref tp]);have s24:=s2.trans (s3.trans s4);exact q q1 _ s24 ⟨w,u,tp,AU,s24 _ _ hw,s24 _ _ hu,ds,s4 _ _ e3,(hD.keep GY s3).keep GY s4⟩
theorem Lm(n:Nat)(q:Rat):Dw (n+1) (Ie q):=.AG λd hd=>by
 simp only[jh,jP,kN] at hd;rcases hd with rfl | rfl
 ·exact .int _
 ·exact .int _
theorem X5(W U:Rat)(rows:List (List Rat)):Dw 4 (Uj W U rows):=.AG λd hd=>by
 simp only[jh,jP,kN] at hd;rcases hd with rfl | rfl | rfl
 ·exact Lm 2 _
 ·exact Lm 2 _
 ·refine .AG λd hd=>?_
  obtain⟨r,_,rfl⟩:=i7.mp hd;refine .AG λd hd=>?_
  obtain⟨x,_,rfl⟩:=i7.mp hd;exact Lm 0 _
theorem SD(p:Int->Rat)(Y:Nat->Rat)(rs:List AO):∀r∈FJ p Y rs,r.length=4:=λr hr=>by
 unfold FJ at hr;obtain⟨k,hk,rfl⟩:=List.mem_mapIdx.mp hr;rfl
theorem RP:∀{l m:List (List Int)},l.Pairwise (λa b=>CM a b=true)->m.Pairwise (λa b=>CM a b=true)->l.Perm m->l=m
 | [],m,_,_,p=>by rw[p.nil_eq]
 | a :: l,[],_,_,p=>by have:=p.length_eq; simp at this
 | a :: l,b :: m,h1,h2,p=>by
  obtain⟨a1,a2⟩:=qN.mp h1;obtain⟨b1,b2⟩:=qN.mp h2;have e:a=b:=by
   have ma:a∈b :: m:=p.mem_iff.mp jZ;have mb:b∈a :: l:=p.mem_iff.mpr jZ;rcases jh.mp ma with z | z
   ·exact z
   ·rcases jh.mp mb with y | y
    ·exact y.symm
    ·have u:=b1 a z;have v:=a1 b y;rw[Mw u] at v;cases v
  subst e;rw[RP a2 b2 (p.cons_inv)]
abbrev MG(t:List Int):PyData:=.tuple (t.map PyData.int)
theorem J4{H:Hp}{p:Addr}{t:List Int}(h:H p=some (.AG (t.map V.int))):Dh H (.ref p) (MG t):=by
 refine .AG h (by simp) λi x d e1 e2=>?_
 obtain⟨e,rfl,he⟩:=GS e1;rw[iy,he] at e2;cases e2;exact .int e
theorem NC(n:Nat)(t:List Int):Dw (n+1) (MG t):=.AG λd hd=>by
 obtain⟨x,_,rfl⟩:=i7.mp hd;exact .int x
theorem SR{H:Hp}{p:Addr}{cs:List Addr}{rr:List (List Int)}(h:H p=some (.AF (cs.map V.ref)))(hA:At Hj H cs rr):K9 H p (rr.map MG):=by
 refine⟨_,h,by rw[ig,ig]; exact hA.1,λi x d e1 e2=>?_⟩;obtain⟨c,t,rfl,_,hy,hc⟩:=hA.ref e1;rw[iy,hy] at e2;cases e2;exact J4 hc
theorem Ua(W a b:Rat):GK (W-b) (W-a)=W-GH a b:=by
 unfold GK GH;by_cases z:b<a
 ·rw[i5 z,i5 (by grind)]
 ·rw[iz z,iz (by grind)]
theorem UN(W a b:Rat):GH (W-b) (W-a)=W-GK a b:=by
 unfold GK GH;by_cases z:b<a
 ·rw[i5 z,i5 (by grind)]
 ·rw[iz z,iz (by grind)]
theorem XM{n:Nat}{rs rs':List AO}{ts ts':List (List Int)}(k:BP n rs ts)(h:Ct n rs ts rs' ts'){X X2:Nat->Rat}{F W:Rat}{p:Int->Rat}(e:∀q,q<n->X2 q=1-X (sg rs ts' q)):FJ (λx=>W-p (AH x)) (λj=>X2 j*F) rs'=(FJ p (λj=>X j*F) rs).map (JR W F):=by
 refine l9 (by rw[ig,Fe,Fe,h.len]) λj h1 h2=>?_
 rw[Fe] at h1;rw[ig,Fe] at h2;have g1:rs'[j]?=some rs'[j]:=ij h1;have g2:rs[j]?=some rs[j]:=ij h2;obtain⟨e1,e2⟩:=h.Oy k g2 g1;obtain⟨_,l1,l2⟩:=h.DS.ease _ (iq g1);refine je ?_;rw[<-List.getElem?_eq_getElem,<-List.getElem?_eq_getElem,iy,Lh g1,Lh g2];have o0:AH (2*(j:Int))=2*(j:Int)+1:=by unfold AH; rw[i5 (by omega)]
 have o1:AH (2*(j:Int)+1)=2*(j:Int):=by unfold AH; rw[iz (by omega)]; omega
 have y1:X2 rs'[j].1*F=F-X rs[j].2.1*F:=by rw[e _ l1,e1]; grind
 have y2:X2 rs'[j].2.1*F=F-X rs[j].1*F:=by rw[e _ l2,e2]; grind
 refine congrArg some ?_;unfold Kq;dsimp only;rw[o0,o1,y1,y2,Ua,Ua,UN,UN];rfl
theorem cJ{n:Nat}{rs:List AO}{X:Nat->Rat}{F:Rat}{p:Int->Rat}(two:∀r∈rs,r.1<n+2/\r.2.1<n+2)(hf:Pw n rs X F)(sp:∀x,AD (2*rs.length+2) x->Sf (p x)):∀r∈FJ p (λj=>X j*F) rs,r.length=4/\∀q∈r,Sf q:=λr hr=>by
 refine⟨SD _ _ _ r hr,λq hq=>?_⟩;obtain⟨j,hj,e⟩:=ju hr;rw[Fe] at hj;have g2:rs[j]?=some rs[j]:=ij hj
 have:=Lh (p:=p) (Y:=λj=>X j*F) g2
 rw[ij (by rw[Fe]; exact hj),e] at this;rw[je this] at hq;obtain⟨t1,t2⟩:=two _ (iq g2);have s0:=sp (2*(j:Int)) ⟨by omega,by push_cast; omega⟩;have s1:=sp (2*(j:Int)+1) ⟨by omega,by push_cast; omega⟩;have mn:∀{a b:Rat},Sf a->Sf b->Sf (GK a b):=λha hb=>by unfold GK; split; exact hb; exact ha
 have mx:∀{a b:Rat},Sf a->Sf b->Sf (GH a b):=λha hb=>by unfold GH; split; exact ha; exact hb
 unfold Kq at hq;simp only[jh,jP,kN] at hq;rcases hq with rfl | rfl | rfl | rfl
 ·exact mn s0 s1
 ·exact mn (hf.ys _ t1) (hf.ys _ t2)
 ·exact mx s0 s1
 ·exact mx (hf.ys _ t1) (hf.ys _ t2)
def L8(K:PySem.W.Frag):Sp:=λvs H Q _=>∃(a:Addr) (ns:List Int),vs=[.ref a]/\AQ K H a (ns.map V.int)/\ns.length<=63/\∀H',Q (.bl true) H'
theorem Ge:A2 ["_law_script","_law_numbers_here","_law_fall_here","_law_net","_law_found","_law_due","_law_k","_law_rope","_law_floor"] ["_law_script"] (Ap sLaw):=A8
set_option maxHeartbeats 4000000 in
seal L2.DF L2.PS L2.PE L2.PA in
theorem cM (F0:Ar K "law" "law" sLaw f fd) (G1:Al P w K mg base 1 "_law_numbers" ["_law_script","_law_least"] (Ub K))
  (G2:Al P w K mg base 1 "_law_next" ["_law_numbers_here"] Pe)
  (G3:Al P w K mg base 3 "_law_fall" ["_law_c"] S1)
  (G4:Al P w K mg base 4 "_law_grown" ["_law_numbers_here","_law_most","_law_great"] R3)
  (G5:Al P w K mg base 5 "other_net" ["net"] Vx)
  (G6:Al P w K mg base 3 "_law_is_net" ["_law_found"] S5)
  (G7:Al P w K mg base 2 "_law_exchanged" ["_law_turn"] Pc)
  (G8:Al P w K mg base 6 "laid" ["net","fall"] TR)
  (G9:Al P w K mg base 5 "_law_is_floor" ["_law_found","_law_many"] Ut)
  (G0:Al P w K mg base 4 "_law_half_turn" ["_law_floor"] WD) (ml:mg "len" = none) (me:mg "enumerate" = none) (ms:mg "sorted" = none) (mi:mg "list" = none) :
  Ao P w K mg base Ay 7 f fd ["_law_script"] (L8 K):=by
 refine F0.ok Ge (λvs H Q E h=>?_) (λcdv A outer s H vs Q E hr h=>?_)
 ·obtain⟨a,ns,rfl,_⟩:=h;rfl
 obtain⟨a,ns,rfl,hS,hn,q⟩:=h;have hu:=hr.units;have r1:=hr.mono (show 1<=6 by decide);have r2:=hr.mono (show 2<=6 by decide);have r3:=hr.mono (show 3<=6 by decide);have r4:=hr.mono (show 4<=6 by decide);have r5:=hr.mono (show 5<=6 by decide);refine⟨_,AR (AX (i:=1) Ge.nd rfl (Or.inl rfl) (Aa G1 r1 (AA (pv 0) (AA AE AB))))
  (AR (AX (i:=2) Ge.nd rfl (Or.inl rfl) (Aa G3 r3 (AA (Aa G2 r1 (AA (pv 1) AB)) AB)))
  (AR (AX (i:=3) Ge.nd rfl (Or.inl rfl) (Aa G4 r4 (AA (pv 1) (AA AE (AA AE AB)))))
  (AR (AX (i:=4) Ge.nd rfl (Or.inl rfl) (Aa G5 r5 (AA (Aa G5 r5 (AA (pv 3) AB)) AB)))
  (AR (Bl (PW.pt (DO (EJ (Dn (Aa G6 r3 (AA (pv 4) AB))))
   (DO (BN Dd (pT K (pv 4) AE) (pT K (pv 3) AE) (BH _))
   (DO (BN Dd (Au (Bb (K:=K)) (by rfl) ml BO (AA (pT K (pv 4) AE) AB)) (Au (Bb (K:=K)) (by rfl) ml BO (AA (pT K (pv 3) AE) AB)) (BH _))
   (Fp (BN Dd (Au (Bb (K:=K)) (by rfl) ml BO (AA (pT K (pv 4) AE) AB)) (pT K (pv 3) AE) (BH _))))))) (AV (An Ep)) B7)
  (AR (Iq (i:=5) Ge.nd rfl (Or.inl rfl) (Nc:=["_law_turn"]) (cap:=[]) (g:=BU 0) (te:=DI Pc [] E0 (BI (Aj 0) By)) rfl (Fx (K:=K) (pT K (pv 3) AE))
   (CB rfl rfl (by decide +kernel) (by decide +kernel) (i6 _) rfl (i6 _)) (λ_ _ _ _ _=>Ae (i:=0) V3 rfl (Or.inl rfl)) (λ_ _ _ _ _=>Aa G7 r2 (AA (pv 0) AB)))
  (AR (Bl (PW.pt (DO (BN (ax hu) (Au QA (by rfl) ms QU (AA (Cy (aD (K:=K)) (by rfl) mi LZ (AA (pT K (pv 4) AE) AB)) AB)) (Au QA (by rfl) ms QU (AA (pv 5) AB)) (BH _))
   (DO (BN (OL hu) (pT K (pT K (pv 4) AE) AE) (pL K (pv 5) AE) (BH _))
   (Fp (BN (OL hu) (pT K (pT K (pv 4) AE) AE) (pL K (pv 5) AE) (BH _)))))) (AV (An Ep)) B7)
  (AR (CQ jt rfl (JE (by rfl) me (AA (pT K (pv 4) AE) AB)) (Ds (n:=2) (K:=K) rfl (BF (Ae (i:=6) Ge.nd rfl (Or.inl rfl)) (BF (Ae (i:=7) Ge.nd rfl (Or.inl rfl)) Cq)))
   (AV (Bl (PW.pt (DO (BN P7 (AM Bw AE (pv 6)) (pT K (pT K (pv 4) AE) (pT K (pv 7) AE)) (by with_unfolding_all rfl))
    (DO (BN P7 (AM Bc (AM Bw AE (pv 6)) AE) (pT K (pT K (pv 4) AE) (pT K (pv 7) AE)) (by with_unfolding_all rfl))
    (Fp (BN (OL hu) (pT K (pv 7) AE) (pT K (pT K (pT K (pv 3) AE) (pv 6)) AE) (BH _)))))) (AV (An Ep)) B7)))
  (AR (AX (i:=8) Ge.nd rfl (Or.inl rfl) (Aa G8 hr (AA (pv 3) (AA (pv 2) AB))))
  (AR (Bl (EJ (Dn (Aa G9 r5 (AA (pv 8) (AA (Au (Bb (K:=K)) (by rfl) ml BO (AA (pT K (pv 3) AE) AB)) AB))))) (AV (An Ep)) B7)
  (AV (An (JG (cC hu) (Aa G8 hr (AA (pv 4) (AA (pv 2) AB))) (Aa G0 r4 (AA (pv 8) AB)) (BH _)))))))))))))
  ,?_⟩
 refine⟨_,rfl,a,ns,40,rfl,⟨hS,hn⟩,by decide,λL ms H1 s1 nL hL hp hl=>?_⟩;refine⟨_,rfl,L,ms,rfl,hL,hp,hl,λz ms2 H2 s2 hL2 hp2 hl2 z0=>?_⟩;refine⟨z,rfl,λfa H3 F s3 hF3 sF=>?_⟩;refine⟨_,rfl,L,ms2,7,999,rfl,s3 _ _ hL2,hp2,hl2,by decide,by decide,by decide,by decide,λp ra ta n rs ts H4 s4 hp4 hR4 hT4 N D=>?_⟩;have hF4:AS H4 fa F:=s4 _ _ (λz=>by
  have:=s3 _ _ hL2
  rw[<-z] at this;have h:H3 fa=_:=hF3;rw[h] at this;cases this) hF3
 clear s1 s2 s3 s4 hF3 hL hL2;obtain⟨n,rfl⟩:∃n',n=n' + 2:=⟨n-2,by have:=N.n2; omega⟩;obtain⟨L1,hL1⟩:∃L,L=Am (AL ts) (2*rs.length+2):=⟨_,rfl⟩;obtain⟨os1,ho1⟩:∃o,o=GC L1.length (BC L1 (2*(rs.length:Int)+1)) (BC L1 (2*(rs.length:Int))):=⟨_,rfl⟩;refine⟨_,rfl,p,ra,ta,n+2,rs,ts,L1,os1,rfl,hp4,N,D.du,hR4,hT4,hL1,ho1,λp1 cr1 tr1 H5 s5 hp5 hR5 hT5=>?_⟩;obtain⟨k1,D1,hlf⟩:=bV N D.du hL1 ho1 rfl rfl;generalize CJ L1 os1 rs=rs1 at hR5 k1 D1 hlf;generalize (Cz rs.length L1 os1).map BV=ts1 at hT5 k1 D1 hlf;obtain⟨L2,hL2⟩:∃L,L=Am (AL ts1) (2*rs1.length+2):=⟨_,rfl⟩;obtain⟨os2,ho2⟩:∃o,o=GC L2.length (BC L2 (2*(rs1.length:Int)+1)) (BC L2 (2*(rs1.length:Int))):=⟨_,rfl⟩;refine⟨p1,cr1,tr1,_,rs1,ts1,L2,os2,rfl,hp5,k1,D1,hR5,hT5,hL2,ho2,λp2 cr2 tr2 H6 s6 hp6 hR6 hT6=>?_⟩;obtain⟨h,ln⟩:=hlf hL2 ho2;rw[ln] at hp6;generalize CJ L2 os2 rs1=rs2 at hR6 h;generalize (Cz rs1.length L2 os2).map BV=ts2 at hT6 h;have N2:=h.DS;have m7:=N.m14;have n16:=N.n15;have hl2:=h.len;have s46:=s5.trans s6;clear hlf D1 k1 hR5 hT5 hp5;obtain⟨cs,hra,hC⟩:=hR4;obtain⟨bs,hta,hB⟩:=hT4;obtain⟨cs2,hcr,hC2⟩:=hR6;obtain⟨bs2,htr,hB2⟩:=hT6;have lc:cs.length=rs.length:=hC.1;have lc2:cs2.length=rs.length:=by rw[hC2.1]; exact hl2
 have lb:bs.length=n+2:=by rw[hB.1]; exact N.len
 have lb2:bs2.length=n+2:=by rw[hB2.1]; exact N2.len
 have tl:∀t∈ts,t.length<=1000:=λt ht=>by have:=N.tlen ht; omega
 refine⟨_,rfl,p2,cr2,tr2,_,rs2,ts2,rfl,hp6,⟨cs2,hcr,hC2⟩,⟨bs2,htr,hB2⟩,by rw[N2.len]; omega,λt ht=>by have:=N2.tlen ht; omega,λH7 s7=>⟨_,rfl,Bh ?_⟩⟩;have s47:=s46.trans s7;refine⟨_,rfl,p2,_,_,_,rfl,rfl,AI.of (s7 _ _ hp6),Hm _ _ _,_,rfl,p,_,_,_,rfl,rfl,AI.of (s47 _ _ hp4),Hm _ _ _,rfl,_,rfl,D7 rfl ?_⟩;refine⟨_,rfl,p2,_,_,_,rfl,rfl,AI.of (s7 _ _ hp6),EA _ _ _,cr2,_,rfl,.inr (AI.of (s7 _ _ hcr)),_,rfl,p,_,_,_,rfl,rfl,AI.of (s47 _ _ hp4),EA _ _ _,ra,_,rfl,.inr (AI.of (s47 _ _ hra)),rfl,_,rfl,D7 (by rw[ig,ig,lc,lc2]) ?_⟩;refine⟨_,rfl,p2,_,_,_,rfl,rfl,AI.of (s7 _ _ hp6),C1 _ _ _,tr2,_,rfl,.inr (AI.of (s7 _ _ htr)),_,rfl,p,_,_,_,rfl,rfl,AI.of (s47 _ _ hp4),Hm _ _ _,rfl,_,rfl,D7 (by rw[ig,lb2]) ?_⟩;refine⟨_,rfl,p,_,_,_,rfl,rfl,AI.of (s47 _ _ hp4),C1 _ _ _,ta,rfl,⟨_,AI.of (s47 _ _ hta)⟩,λacc hacc=>?_⟩;refine CP (FE (s47 _ _ hta)) (by rw[ig]; omega) hacc (λi ys σ hp=>∃ds:List Addr,ys=ds.map V.ref/\At Ba hp ds ((EN ts).take i)/\∃u,σ=[u]) ⟨[],rfl,At.nil,none,rfl⟩ ?_ ?_
 ·rintro i ys σ H8 x H9 hi sm hacc2 ⟨ds,rfl,hD,u,rfl⟩ ⟨rfl,hx⟩ Cc hC;obtain⟨c,t,rfl,_,hy,hc⟩:=hB.ref hx;have tm:=iq hy;refine⟨_,rfl,c,t,rfl,sm _ _ (s47 _ _ hc),N.ne t tm,tl t tm,λx hx=>?_,λb HA sA hb=>?_⟩
  ·obtain⟨i0,i1⟩:=(N.tn.mem x).mp (jn.mpr ⟨t,tm,hx⟩);exact⟨i0,by push_cast at i1 ⊢; omega⟩
  ·refine hC _ _ _ sA ⟨ds++[b],by simp,?_,_,rfl⟩;rw[DM (OJ hy)];exact(hD.keep C4 (EH acc sA)).snoc (Ba.BQ hb (sA _ _ hacc2))
 rintro ys σ H8 s8 ha8 hl8 ⟨ds,rfl,hD,u,rfl⟩;have ld:(EN ts).length=n+2:=by unfold EN; rw[ig,ig]; exact N.len
 rw[ig,lb,jf (by omega)] at hD;replace hD:=hD.keep C4 (D5 H8 acc);have s48:=s47.trans s8;have s68:=s7.trans s8;have hp8:=s48 _ _ hp4;have hq8:=s68 _ _ hp6;have ht8:=s68 _ _ htr;have hB8:=hB2.keep C4 s68;have pe:=LU N N2 hl2 h.row;refine⟨_,rfl,p2,_,_,_,rfl,rfl,AI.of hq8,C1 _ _ _,tr2,_,rfl,.inr (AI.of ht8),λl1 hl1=>?_⟩;obtain⟨H9,zg,s9,e9⟩:=nw hl1 (.AF (bs2.map V.ref));rw[zg];refine⟨l1,bs2,ts2,rfl,e9,hB8.keep C4 s9,N2.ne,J9 N2.tn.nd N2.ne,by rw[N2.len]; omega,λl2 c2 rr2 hl2' hA2 pm2 pw2=>?_⟩;obtain⟨HA,zg,sA,eA⟩:=nw hl2' (.AF (c2.map V.ref));rw[zg];have s8A:=s9.trans sA;refine⟨_,rfl,acc,ds,EN ts,rfl,s8A _ _ ha8,hD.keep C4 s8A,OB N,J9 (Ly N).1 (OB N),by rw[ld]; omega,λl3 c3 rr3 hl3 hA3 pm3 pw3=>?_⟩;obtain⟨HB,zg,sB,eB⟩:=nw hl3 (.AF (c3.map V.ref));rw[zg];obtain rfl:rr2=rr3:=RP pw2 pw3 ((pm2.trans pe).trans pm3.symm);have shp:∀d∈rr2.map MG,Dw 1 d:=λd hd=>by obtain⟨t,_,rfl⟩:=i7.mp hd; exact NC 0 t
 refine⟨1,l2,l3,_,_,by decide,rfl,rfl,SR (sB _ _ eA) (hA2.keep R4 (sA.trans sB)),SR eB (hA3.keep R4 sB),shp,shp,?_⟩;rw[qk _ (by simp only[PyData.canLay0]; exact La λd hd=>(shp d hd).ok.1)];refine⟨_,rfl,Bh ?_⟩;have s8B:=s8A.trans sB;have s4B:=s48.trans s8B;have s6B:=s68.trans s8B;have hpB:=s4B _ _ hp4;have hqB:=s6B _ _ hp6;have htB:=s6B _ _ htr;have haB:=s8B _ _ ha8;have hBB:=hB2.keep C4 s6B;have hDB:=hD.keep C4 s8B;obtain⟨o0,o1⟩:=h.out N;have rw1:∀(i j:Nat),i<n+2->sg rs ts2 i=j->∃b d t,bs2[i]?=some b/\ds[j]?=some d/\Ba HB b t/\Ba HB d t:=λi j hi e=>by
  obtain⟨t',g⟩:∃t',ts2[i]?=some t':=⟨_,ij (by rw[N2.len]; exact hi)⟩;obtain⟨t,h1,h2⟩:=h.at N g;rw[e] at h1;obtain⟨b,hb1,hb2⟩:=hBB.get g;obtain⟨d,hd1,hd2⟩:=hDB.get (OJ h1);exact⟨b,d,_,hb1,hd1,by rw[<-h2]; exact hb2,hd2⟩
 obtain⟨b0,d1,t0,g1,g2,f1,f2⟩:=rw1 0 1 (by omega) o0;refine⟨_,rfl,p2,_,_,_,rfl,rfl,AI.of hqB,C1 _ _ _,tr2,_,_,_,rfl,rfl,AI.of htB,BX (j:=0) (CT g1),_,rfl,acc,_,_,_,rfl,rfl,AQ.of haB,BX (j:=1) (CT g2),1,_,by decide,J4 f1,J4 f2,NC 0 _,_,rfl,Bh ?_⟩;clear g1 g2 f1 f2;obtain⟨b1,d0,t1,g1,g2,f1,f2⟩:=rw1 1 0 (by omega) o1;refine⟨_,rfl,p2,_,_,_,rfl,rfl,AI.of hqB,C1 _ _ _,tr2,_,_,_,rfl,rfl,AI.of htB,BX (j:=1) (CT g1),_,rfl,acc,_,_,_,rfl,rfl,AQ.of haB,BX (j:=0) (CT g2),1,_,by decide,J4 f1,J4 f2,NC 0 _,_,rfl,Bh ?_⟩;clear g1 g2 f1 f2 rw1 hDB haB;have hcB:=s6B _ _ hcr;have hCB:=hC2.keep D3 s6B;have hrB:=s4B _ _ hra;have hRB:=hC.keep D3 s4B;have hFB:=As s4B hF4;have hTB:=s4B _ _ hta;have hTA:=hB.keep C4 s4B;clear hD hB8 ht8 hq8 hp8 s8 s7 s9 sA sB eA eB hA2 hA3 e9;refine⟨_,rfl,p2,_,_,_,rfl,rfl,AI.of hqB,EA _ _ _,cr2,_,rfl,hcB,?_⟩;refine JB (xs:=cs2.map V.ref) (λi σ H7=>∃u6 u7,σ=[some (.ref a),some (.ref L),some (.ref fa),some (.ref p),some (.ref p2),some (.ref acc),u6,u7,none]/\AN HB H7)
  ⟨none,none,rfl,AN.refl _⟩ (λi σ H7 _ ⟨_,_,_,s7⟩=>s7 _ _ hcB) ?_ ?_
 ·rintro i x σ H7 tp hx ⟨u6,u7,rfl,s7⟩ htp;obtain⟨c,r',rfl,_,hy,e,hc,he⟩:=hCB.ref hx;have il':=(ip.mp hy).1;have il:i<rs.length:=by omega
  have gy:rs[i]?=some rs[i]:=ij il;obtain⟨c',gc,e',hc',he'⟩:=hRB.get gy;obtain⟨_,l1,l2⟩:=N2.ease r' (iq hy);obtain⟨m1,m2⟩:=Ls hy;obtain⟨ta1,g1⟩:∃t,ts2[r'.1]?=some t:=⟨_,ij (by rw[N2.len]; exact l1)⟩;obtain⟨ta2,g2⟩:∃t,ts2[r'.2.1]?=some t:=⟨_,ij (by rw[N2.len]; exact l2)⟩;obtain⟨b1,q1,f1⟩:=hBB.get g1;obtain⟨b2,q2,f2⟩:=hBB.get g2;have i0:=N2.back (x:=2*(i:Int)) ⟨by omega,by push_cast; omega⟩ g1 m1;have i1:=N2.back (x:=2*(i:Int)+1) ⟨by omega,by push_cast; omega⟩ g2 m2;obtain⟨H8,zg,s8,e8⟩:=nw htp (.AG [.int (i:Int),.ref c]);rw[zg];have sB8:=s7.trans s8;have flat:∀t:List Int,(t.map V.int).all FL=true:=λt=>by simp[FL]
  have inn:∀{x:Int} {t:List Int},x∈t->(V.bl (if true=true then !Jg (.int x) (t.map V.int) else Jg (.int x) (t.map V.int)))=.bl false:=λ{x t} hx=>by
   rw[i5 rfl,RW,kc hx];rfl
  refine⟨tp,_,rfl,AI.of e8,rfl,_,_,rfl,_,_,rfl,rfl,?_⟩;refine⟨_,rfl,_,_,rfl,rfl,.inl ⟨by decide,by decide⟩,_,rfl,p2,_,_,_,rfl,rfl,AI.of (sB8 _ _ hqB),C1 _ _ _,_,rfl,c,_,_,_,rfl,rfl,AI.of (sB8 _ _ hc),Hm _ _ _,tr2,_,_,_,rfl,rfl,AI.of (sB8 _ _ htB),BX (CT q1),b1,_,rfl,.inr (AI.of (sB8 _ _ f1)),rfl,flat _,?_⟩;rw[inn i0];refine⟨_,rfl,Bh ?_⟩;refine⟨_,rfl,_,_,rfl,rfl,.inl ⟨by decide,by decide⟩,_,_,rfl,rfl,_,rfl,p2,_,_,_,rfl,rfl,AI.of (sB8 _ _ hqB),C1 _ _ _,_,rfl,c,_,_,_,rfl,rfl,AI.of (sB8 _ _ hc),EA _ _ _,tr2,_,_,_,rfl,rfl,AI.of (sB8 _ _ htB),BX (CT q2),b2,_,rfl,.inr (AI.of (sB8 _ _ f2)),rfl,flat _,?_⟩;rw[inn i1];refine⟨_,rfl,Bh ?_⟩;have ee:=h.es i _ r' gy hy;refine⟨_,rfl,c,_,_,_,rfl,rfl,AI.of (sB8 _ _ hc),C1 _ _ _,_,rfl,p,_,_,_,rfl,rfl,AI.of (sB8 _ _ hpB),EA _ _ _,_,rfl,ra,_,_,_,rfl,rfl,AI.of (sB8 _ _ hrB),BX (CT gc),c',_,_,_,rfl,rfl,AI.of (sB8 _ _ hc'),C1 _ _ _,1,Ie r'.2.2,by decide,Kj (As sB8 he),by rw[ee]; exact Kj (As sB8 he'),Lm 0 _,_,rfl,Bh ?_⟩;exact⟨_,_,rfl,sB8⟩
 ·rintro σ H7 ⟨u6,u7,rfl,s7⟩;have nk:=N.k;have nk2:=N2.k;have hR7:A4 Bg H7 ra rs:=⟨cs,s7 _ _ hrB,hRB.keep D3 s7⟩;have hT7:A4 Ba H7 ta ts:=⟨bs,s7 _ _ hTB,hTA.keep C4 s7⟩;refine⟨_,rfl,_,rfl,p,fa,ra,ta,n,rs,ts,F,rfl,s7 _ _ hpB,hR7,hT7,As s7 hFB,nk,λX hX=>?_⟩;obtain⟨hf,Z,NN,wd⟩:=hX.Ug nk sF;obtain⟨pt,hpt⟩:=cZ (Y:=λj=>X j*F) N D.po (λi h2 hi=>by rw[Rt,hX.bal i h2 hi]; grind);refine⟨pt,Z,NN,⟨nk,hX,hf,by omega,N.tn,D.du.eG,hpt,wd⟩,λfq H8 s8 sfp hFl=>?_⟩;have sB8:=s7.trans s8;refine⟨_,rfl,_,rfl,p,_,_,_,rfl,rfl,AI.of (sB8 _ _ hpB),EA _ _ _,ra,_,rfl,.inr (AI.of (sB8 _ _ hrB)),fq,_,_,_,_,rfl,hFl,SD _ _ _,by rw[ig,lc,Fe],by rw[Fe]; omega,λH9 s9=>⟨_,rfl,Bh ?_⟩⟩;have sB9:=sB8.trans s9;refine⟨_,rfl,_,rfl,p2,fa,cr2,tr2,n,rs2,ts2,F,rfl,sB9 _ _ hqB,⟨cs2,sB9 _ _ hcB,hCB.keep D3 sB9⟩,⟨bs2,sB9 _ _ htB,hBB.keep C4 sB9⟩,As sB9 hFB,nk2,λX2 hX2=>?_⟩;have eX:∀q,q<n+2->X2 q=1-X (sg rs ts2 q):=ZT nk2 hX2 (h.htx N hX);obtain⟨hf2,Z2,NN2,wd2⟩:=hX2.Ug nk2 sF;have hp2:=h.iN N hpt (Y':=λj=>X2 j*F) (λj r r' h1 h2=>h.A5 N (c:=F) (X:=λj=>X j*F) (λq hq=>by rw[eX q hq]; grind) h1 h2);refine⟨_,Z2,NN2,⟨nk2,hX2,hf2,by omega,N2.tn,h.CY N D.du,hp2,wd2⟩,λfq2 HC sC _ hFl2=>?_⟩;rw[XM N h eX] at hFl2;refine⟨_,rfl,fq,_,F,_,rfl,RR (s9.trans sC) hFl,cJ nk.two hf sfp,by rw[Fe]; omega,⟨sfp _ ⟨by omega,by push_cast; omega⟩,hf.sF⟩,λhq HD sD hHt=>?_⟩;have ew:pt (2*(rs.length:Int)+1)-pt (AH (2*(rs2.length:Int)+1))=pt (2*(rs.length:Int)+1):=by
   rw[hl2,show AH (2*(rs.length:Int)+1)=2*(rs.length:Int) by unfold AH; rw[iz (by omega)]; omega,hpt.o]
   grind
  rw[ew] at hFl2;exact⟨4,_,by decide,Rq (RR sD hFl2),Rq hHt,X5 _ _ _,q _⟩
end
end My
namespace My
open PySem L2 Mth
section
variable {K:PySem.W.Frag} {x qn:Str} {st:Stmt} {f C:Addr} {oc kV doc pm cdv ct:Value} {od an:Option Addr} {osl:Array (Option Value)} {fd:FuncData} {ps:List Str}
structure Dq(K:PySem.W.Frag)(x:Str)(st:Stmt)(ps:List Str)(f:Addr)(fd:FuncData):Prop where
 F:Ar K x x st f fd
 b:EW K fd ps []
 a:PySem.W.nsIn K mainGlobals x=some (some (.ref f))
theorem Dq.all{h:Heap}{mg:Str->Option Value}(d:Dq K x st ps f fd)(X:K.In h)(G:h.Ns mainGlobals mg):Ar K x x st f fd/\EW K fd ps []/\PySem.W.keepIn K (.ref f)=true/\mg x=some (.ref f):=⟨d.F,d.b,d.F.kp,qv X G d.a⟩
theorem Dq.mk'{h:Heap}{mg:Str->Option Value}{k:Nat}{sp:Sp}(d:Dq K x st ps f fd)(l:PySem.W.OpenLaw)(w:World)(base:Heap)(X:K.In h)(G:h.Ns mainGlobals mg)(o:Ar K x x st f fd->Ao l.prog w K mg base Ay k f fd ps sp):Al l.prog w K mg base k x ps sp:=⟨f,fd,o d.F,d.b,d.F.kp,qv X G d.a⟩
theorem dq (a:PySem.W.nsIn K mainGlobals x=some (some (.ref f))) (l:K.lookup f=some ⟨oc,od,.func (PySem.W.fnOf x x (Fi st) (El st) (Ap st) .none kV doc pm an cdv ct),osl⟩) (c:PySem.W.codeIn K cdv x=true) (k:PySem.W.keepIn K (.ref f)=true)
  (b:∀{fd},Ar K x x st f fd->EW K fd ps []):Dq K x st ps f (PySem.W.fnOf x x (Fi st) (El st) (Ap st) .none kV doc pm an cdv ct):=⟨Tq l c k,b (Tq l c k),a⟩
theorem bn1(st:Stmt)(x qn:Str){p0:Str}(h:∀(kV doc pm:Value) (an:Option Addr) (cdv ct a0:Value),bindArgs (PySem.W.fnOf x qn (Fi st) (El st) (Ap st) .none kV doc pm an cdv ct) ⟨[a0],[]⟩=pure [(p0,a0)]:=by intros; rfl)(F:Ar K x qn st f fd):EW K fd [p0] []:=F.binds λkV doc pm an cdv ct us hl=>by
 match us,hl with
 | [a0],_=>exact h kV doc pm an cdv ct a0
theorem bn2(st:Stmt)(x qn:Str){p0 p1:Str}(h:∀(kV doc pm:Value) (an:Option Addr) (cdv ct a0 a1:Value),bindArgs (PySem.W.fnOf x qn (Fi st) (El st) (Ap st) .none kV doc pm an cdv ct) ⟨[a0,a1],[]⟩=pure [(p0,a0),(p1,a1)]:=by intros; rfl)(F:Ar K x qn st f fd):EW K fd [p0,p1] []:=F.binds λkV doc pm an cdv ct us hl=>by
 match us,hl with
 | [a0,a1],_=>exact h kV doc pm an cdv ct a0 a1
theorem bn3(st:Stmt)(x qn:Str){p0 p1 p2:Str}(h:∀(kV doc pm:Value) (an:Option Addr) (cdv ct a0 a1 a2:Value),bindArgs (PySem.W.fnOf x qn (Fi st) (El st) (Ap st) .none kV doc pm an cdv ct) ⟨[a0,a1,a2],[]⟩=pure [(p0,a0),(p1,a1),(p2,a2)]:=by intros; rfl)(F:Ar K x qn st f fd):EW K fd [p0,p1,p2] []:=F.binds λkV doc pm an cdv ct us hl=>by
 match us,hl with
 | [a0,a1,a2],_=>exact h kV doc pm an cdv ct a0 a1 a2
theorem bn4(st:Stmt)(x qn:Str){p0 p1 p2 p3:Str}(h:∀(kV doc pm:Value) (an:Option Addr) (cdv ct a0 a1 a2 a3:Value),bindArgs (PySem.W.fnOf x qn (Fi st) (El st) (Ap st) .none kV doc pm an cdv ct) ⟨[a0,a1,a2,a3],[]⟩=pure [(p0,a0),(p1,a1),(p2,a2),(p3,a3)]:=by intros; rfl)(F:Ar K x qn st f fd):EW K fd [p0,p1,p2,p3] []:=F.binds λkV doc pm an cdv ct us hl=>by
 match us,hl with
 | [a0,a1,a2,a3],_=>exact h kV doc pm an cdv ct a0 a1 a2 a3
structure Zq(K:PySem.W.Frag)(x:Str):Prop where
 a:PySem.W.nsIn K mainGlobals x=some none
end
set_option maxHeartbeats 4000000 in
theorem all_mk {l:PySem.W.OpenLaw} {w:World} {K:PySem.W.Frag} {h:Heap} {mg:Str->Option Value} {fa f1 f2 f3 f4 f5 f6 f7 f8 f9 f10 f11 f12 f13 f14 f15 f16 f17 f18 f19 f20 f21 f22 f23 f24 f25 f26 f27 f28 f29 f30 f31 f32 f33 f34 f35 f36 f37 f38 f39 f40 f41 f42 f43 f44 f45 f46 f47 f48 f49 f50 f51 f52 f53 f54 f55 f56 f57:Addr} {d1 d2 d3 d4 d5 d6 d7 d8 d9 d10 d11 d12 d13 d14 d15 d16 d17 d18 d19 d20 d21 d22 d23 d24 d25 d26 d27 d28 d29 d30 d31 d32 d33 d34 d35 d36 d37 d38 d39 d40 d41 d42 d43 d44 d45 d46 d47 d48 d49 d50 d51 d52 d53 d54 d55 d56 d57:FuncData} (X:K.In h) (G:h.Ns mainGlobals mg) (hfa:mg "law" = some (.ref fa))
  (h1:Dq K "common_part" sCommon ["one","other"] f1 d1)
  (h2:Dq K "fraction" sFraction ["top","bottom"] f2 d2)
  (h3:Dq K "plus" sPlus ["one","other"] f3 d3)
  (h4:Dq K "minus" sMinus ["one","other"] f4 d4)
  (h5:Dq K "times" sTimes ["one","other"] f5 d5)
  (h6:Dq K "over" sOver ["one","other"] f6 d6)
  (h7:Dq K "less" s_less ["one","other"] f7 d7)
  (h8:Dq K "common_bottom" sCBot ["row"] f8 d8)
  (h9:Dq K "wholes" sWholes ["row","bottom"] f9 d9)
  (h10:Dq K "other_end" sOther ["end"] f10 d10)
  (h11:Dq K "ends_ahead" sAhead ["turns"] f11 d11)
  (h12:Dq K "ring_from" sRingFrom ["start","ahead"] f12 d12)
  (h13:Dq K "rings" sRings ["turns"] f13 d13)
  (h14:Dq K "land_of" sLandOf ["turns"] f14 d14)
  (h15:Dq K "begun_least" s_begun_least ["turn"] f15 d15)
  (h16:Dq K "told_turns" s_told_turns ["turns"] f16 d16)
  (h17:Dq K "lands_placed" s_lands_placed ["count","upper","lower"] f17 d17)
  (h18:Dq K "places_of" s_places_of ["lands"] f18 d18)
  (h19:Dq K "turn_of" s_turn_of ["ring","outer"] f19 d19)
  (h20:Dq K "other_net" s_other_net ["net"] f20 d20)
  (h21:Dq K "led" sLed ["rows","k"] f21 d21)
  (h22:Dq K "swept_row" sSweptRow ["row","lead","k","before"] f22 d22)
  (h23:Dq K "swept" sSwept ["rows"] f23 d23)
  (h24:Dq K "found_back" sBack ["rows"] f24 d24)
  (h25:Dq K "answer" sAnswer ["table","right"] f25 d25)
  (h26:Dq K "ease_table" sEaseTable ["net"] f26 d26)
  (h27:Dq K "poleless" sPoleless ["table"] f27 d27)
  (h28:Dq K "heights" sHeights ["net"] f28 d28)
  (h29:Dq K "fall_of" sFallOf ["rope","levels"] f29 d29)
  (h30:Dq K "runnings_by" sRunBy ["net","levels"] f30 d30)
  (h31:Dq K "land_sides" s_land_sides ["lands","widths"] f31 d31)
  (h32:Dq K "rising" s_rising ["one","other"] f32 d32)
  (h33:Dq K "laid" s_laid ["net","fall"] f33 d33)
  (h34:Dq K "_law_numbers" s_law_numbers ["_law_script","_law_least"] f34 d34)
  (h35:Dq K "_law_whole" sWhole ["_law_found"] f35 d35)
  (h36:Dq K "_law_row" s_law_row ["_law_found","_law_many"] f36 d36)
  (h37:Dq K "_law_divisor" s_law_divisor ["_law_a","_law_b"] f37 d37)
  (h38:Dq K "_law_fraction" sLFrac ["_law_top","_law_bottom"] f38 d38)
  (h39:Dq K "_law_ease" sLEase ["_law_c","_law_most"] f39 d39)
  (h40:Dq K "_law_ahead" s_law_ahead ["_law_turns"] f40 d40)
  (h41:Dq K "_law_land" s_law_land ["_law_ahead_here","_law_start"] f41 d41)
  (h42:Dq K "_law_corner" s_law_corner ["_law_turns","_law_end"] f42 d42)
  (h43:Dq K "_law_grow" sGrow ["_law_ropes","_law_turns","_law_c","_law_ease_here"] f43 d43)
  (h44:Dq K "_law_order" s_law_order ["_law_many","_law_c"] f44 d44)
  (h45:Dq K "_law_finished" s_law_finished ["_law_ropes","_law_turns","_law_c"] f45 d45)
  (h46:Dq K "_law_next" sNext ["_law_numbers_here"] f46 d46)
  (h47:Dq K "_law_grown" s_law_grown ["_law_numbers_here","_law_most","_law_great"] f47 d47)
  (h48:Dq K "_law_begun" s_law_begun ["_law_turn"] f48 d48)
  (h49:Dq K "_law_is_net" s_law_is_net ["_law_found"] f49 d49)
  (h50:Dq K "_law_is_fraction" s_law_is_fraction ["_law_found"] f50 d50)
  (h51:Dq K "_law_fractions_are" s_law_fractions_are ["_law_found","_law_many"] f51 d51)
  (h52:Dq K "_law_is_floor" s_law_is_floor ["_law_found","_law_many"] f52 d52)
  (h53:Dq K "_law_minus" s_law_minus ["_law_a","_law_b"] f53 d53)
  (h54:Dq K "_law_fall" s_law_fall ["_law_c"] f54 d54)
  (h55:Dq K "_law_exchanged" s_law_exchanged ["_law_turn"] f55 d55)
  (h56:Dq K "_law_half_turn" s_law_half_turn ["_law_floor"] f56 d56)
  (h57:Dq K "law" sLaw ["_law_script"] f57 d57)
  (z_abs:Zq K "abs")
  (z_len:Zq K "len")
  (z_range:Zq K "range")
  (z_list:Zq K "list")
  (z_zip:Zq K "zip")
  (z_tuple:Zq K "tuple")
  (z_sum:Zq K "sum")
  (z_min:Zq K "min")
  (z_max:Zq K "max")
  (z_enumerate:Zq K "enumerate")
  (z_sorted:Zq K "sorted")
  (z_all:Zq K "all")
  (z_isinstance:Zq K "isinstance")
  (z_int:Zq K "int")
  (z_bool:Zq K "bool")
  : ∃fd:FuncData,(∀(s:Shared) (v:Value),BindsTo s fd ⟨[v],[]⟩ [("_law_script",v)])/\∀base:Heap,K.In base->base.Ns mainGlobals mg->Ao l.prog w K mg base Ay 7 fa fd ["_law_script"] (L8 K):=by
 have e:=hfa.symm.trans (qv X G h57.a);cases e;have ⟨F57,b57,k57,m57⟩:=h57.all X G;have m_abs:=jW X G z_abs.a;have m_len:=jW X G z_len.a;have m_range:=jW X G z_range.a;have m_list:=jW X G z_list.a;have m_zip:=jW X G z_zip.a;have m_tuple:=jW X G z_tuple.a;have m_sum:=jW X G z_sum.a;have m_min:=jW X G z_min.a;have m_max:=jW X G z_max.a;have m_enumerate:=jW X G z_enumerate.a;have m_sorted:=jW X G z_sorted.a;have m_all:=jW X G z_all.a;have m_isinstance:=jW X G z_isinstance.a;have m_int:=jW X G z_int.a;have m_bool:=jW X G z_bool.a;refine⟨d57,λs v=>by obtain⟨_,_,_,_,_,_,_,_,_,rfl,_⟩:=F57.ex; exact .of_eq rfl,λbase _ _=>?_⟩;have O1:=h1.mk' l w base X G λF=>X6 F  m_abs
 have O2:=h2.mk' l w base X G λF=>W6 (C:=0) F O1
 have O3:=h3.mk' l w base X G λF=>Z5 F O2
 have O4:=h4.mk' l w base X G λF=>Ys F O2
 have O5:=h5.mk' l w base X G λF=>Yy F O2
 have O6:=h6.mk' l w base X G λF=>eJ F O2
 have O7:=h7.mk' l w base X G λF=>Zu F
 have O8:=h8.mk' l w base X G λF=>aZ F O1
 have O9:=h9.mk' l w base X G λF=>Xs F
 have O21:=h21.mk' l w base X G λF=>ck F  m_len m_range m_list
 have O22:=h22.mk' l w base X G λF=>W8 F  m_zip
 have O23:=h23.mk' l w base X G λF=>Yz F O21 O22 m_len m_range
 have O24:=h24.mk' l w base X G λF=>Z8 F O2 m_len m_range m_zip m_sum m_tuple
 have O25:=h25.mk' l w base X G λF=>Xm (C2:=0) F O8 O9 O23 O24 m_len m_zip
 have O26:=h26.mk' l w base X G λF=>aN F O3 O4 m_range m_tuple
 have O27:=h27.mk' l w base X G λF=>bH F  m_tuple
 have O28:=h28.mk' l w base X G λF=>Xg F O26 O4 O27 O25 m_tuple
 have O29:=h29.mk' l w base X G λF=>ah F O4
 have O30:=h30.mk' l w base X G λF=>ZX F O5 O29 m_tuple
 have O10:=h10.mk' l w base X G λF=>Yr F
 have O11:=h11.mk' l w base X G λF=>Zi F  m_enumerate
 have O12:=h12.mk' l w base X G λF=>W9 F O10 m_tuple
 have O13:=h13.mk' l w base X G λF=>ZV F O11 O12 m_len m_range m_tuple
 have O14:=h14.mk' l w base X G λF=>YX F O13 m_len m_range m_tuple m_enumerate
 have O15:=h15.mk' l w base X G λF=>cf F  m_min
 have O16:=h16.mk' l w base X G λF=>Zg F O15 m_tuple
 have O17:=h17.mk' l w base X G λF=>Xt F  m_range
 have O18:=h18.mk' l w base X G λF=>eV F  m_enumerate
 have O19:=h19.mk' l w base X G λF=>eF F O10 m_tuple
 have O20:=h20.mk' l w base X G λF=>eK F O13 O14 O17 O18 O6 O19 O16 m_len m_enumerate m_tuple
 have O31:=h31.mk' l w base X G λF=>ZF F O3 O4 m_len m_max m_enumerate
 have O32:=h32.mk' l w base X G λF=>YE F O7
 have O33:=h33.mk' l w base X G λF=>ay F O5 O28 O14 O31 O30 O32 m_len m_enumerate m_tuple
 have O34:=h34.mk' l w base X G λF=>Xb F  m_len m_range m_max m_min m_abs
 have O35:=h35.mk' l w base X G λF=>Yf F  m_isinstance m_int m_bool
 have O36:=h36.mk' l w base X G λF=>dN F O35 m_isinstance m_tuple m_len m_all
 have O37:=h37.mk' l w base X G λF=>XG F
 have O38:=h38.mk' l w base X G λF=>Zc F O37 m_abs
 have O39:=h39.mk' l w base X G λF=>Y2 F O38
 have O40:=h40.mk' l w base X G λF=>XY F  m_enumerate
 have O41:=h41.mk' l w base X G λF=>bQ 2 (λh1 h2=>O0 h1 h2) F
 have O42:=h42.mk' l w base X G λF=>X1 F  m_enumerate
 have O43:=h43.mk' l w base X G λF=>bA F O42 O40 O41 m_len
 have O44:=h44.mk' l w base X G λF=>Ym F  m_len m_range m_list
 have O45:=h45.mk' l w base X G λF=>cD F O44 m_len m_enumerate m_tuple
 have O46:=h46.mk' l w base X G λF=>ZK F  m_len
 have O47:=h47.mk' l w base X G λF=>Zh F O46 O39 O43 O45 m_len
 have O48:=h48.mk' l w base X G λF=>ZZ F  m_min m_tuple
 have O49:=h49.mk' l w base X G λF=>ZY F O35 O36 m_isinstance m_tuple m_len m_all
 have O50:=h50.mk' l w base X G λF=>cF F O36 O37 m_abs
 have O51:=h51.mk' l w base X G λF=>fP F O50 m_isinstance m_tuple m_len m_all
 have O52:=h52.mk' l w base X G λF=>cO F O51 m_isinstance m_tuple m_len m_all
 have O53:=h53.mk' l w base X G λF=>YB F O38
 have O54:=h54.mk' l w base X G λF=>ZO F O38
 have O55:=h55.mk' l w base X G λF=>bh F O48
 have O56:=h56.mk' l w base X G λF=>ZU F O53 m_tuple
 exact cM F57 O34 O46 O54 O47 O20 O49 O55 O33 O52 O56 m_len m_enumerate m_sorted m_list
theorem walk {l:PySem.W.OpenLaw} {q:Program} {loose:List Str} {XP:(Str->Option Value)->Heap->Prop} {YP:World->Heap->Prop} {d:DefRec} {K:Params->PySem.W.Frag} (hn:l.most=some 63) (hdf:d.params.defaults=[])
  (hY:∀(w:World) (h:Heap),YP w h->(K w.params).In h)
  (F:∀(w:World) (mg:Str->Option Value) (fa:Addr) (h:Heap),(K w.params).In h->h.Ns mainGlobals mg->mg d.name=some (.ref fa) →
   ∃fd:FuncData,(∀(s:Shared) (u:Value),BindsTo s fd ⟨[u],[]⟩ [("_law_script",u)])/\∀base:Heap,(K w.params).In base->base.Ns mainGlobals mg->Ao l.prog w (K w.params) mg base Ay 7 fa fd ["_law_script"] (L8 (K w.params))) :
  PySem.W.WalkO q loose XP YP l.row.toRowW d [] (λf vs=>PySem.call f vs) :=
 L2.bC (n:=63) (k:=7) (x:="_law_script") (CX:=λ_=>Ay) (sp:=λw=>L8 (K w.params)) hn (by decide) hdf ⟨rfl,by decide,by decide⟩ hY F (λ_ _ a ns hl _ hS=>⟨a,ns,rfl,hS,hl,λ_=>rfl⟩) λ_ _ _ _ _ z=>z
end My
namespace PySem.W.Fast
theorem tw6479337062397151110:True:=trivial
theorem tw3750406068056384268:True:=trivial
theorem tw3523200894152018339:True:=trivial
theorem tw7340697089021723706:True:=trivial
theorem tw9919223809750975056:True:=trivial
theorem tw12915888946413715717:True:=trivial
theorem tw9461381698440971438:True:=trivial
theorem tw6002420789346780077:True:=trivial
theorem tw2511442876267628312:True:=trivial
theorem tw5648608516413378041:True:=trivial
theorem tw10014770279211305406:True:=trivial
theorem tw2611529097243234865:True:=trivial
theorem tw3164560667014522898:True:=trivial
theorem tw12456835223096791931:True:=trivial
theorem tw17359385527179154634:True:=trivial
theorem tw8507945431186447786:True:=trivial
theorem tw11591540143109285077:True:=trivial
theorem tw2793316853077407150:True:=trivial
theorem tw8134425109690912693:True:=trivial
theorem tw1546363413324457556:True:=trivial
theorem tw878761774533629582:True:=trivial
theorem tw13576967777836321745:True:=trivial
theorem tw8909636054661587073:True:=trivial
theorem tw5978260132971910199:True:=trivial
theorem tw16695348383388750051:True:=trivial
theorem tw7510432742890316627:True:=trivial
theorem tw13745672890518603109:True:=trivial
theorem tw11240682363685839235:True:=trivial
theorem tw4887849128477854645:True:=trivial
theorem tw6878407523359335892:True:=trivial
theorem tw8524011015842750181:True:=trivial
theorem tw9297487250331666970:True:=trivial
theorem tw2477516239376971415:True:=trivial
theorem tw1310595728307193043:True:=trivial
theorem tw18351387783771990365:True:=trivial
theorem tw4495519736914405950:True:=trivial
theorem tw4388125785524702790:True:=trivial
theorem tw2865749647207926859:True:=trivial
theorem tw10347041362154629159:True:=trivial
theorem tw14672054938155604773:True:=trivial
theorem tw16591547239168428142:True:=trivial
theorem te13114480779047113168:True:=trivial
theorem tw9799789704393554193:True:=trivial
theorem tw14109339413363352581:True:=trivial
theorem tw2469901958364517720:True:=trivial
theorem tw2407872450447436660:True:=trivial
theorem tw6822123078061050129:True:=trivial
theorem tw6666077489817460985:True:=trivial
theorem tw7812278134212369282:True:=trivial
theorem tw7753913286612733984:True:=trivial
theorem tw2478718841863223653:True:=trivial
theorem tw11590922461306684763:True:=trivial
theorem tw16809729712802088324:True:=trivial
theorem tw1957650980291304435:True:=trivial
theorem tw11741793979093898482:True:=trivial
theorem tw9649032622350645287:True:=trivial
theorem tw2204764663222739568:True:=trivial
theorem tw7948932636812579639:True:=trivial
theorem tw17480454110707647980:True:=trivial
theorem tw10191775157113006296:True:=trivial
theorem tw16701608963378528275:True:=trivial
theorem tw10310740451205414468:True:=trivial
theorem tw12211835616189036593:True:=trivial
theorem tw490187287343485360:True:=trivial
theorem tw6921043428468807536:True:=trivial
theorem tw191764206696388042:True:=trivial
theorem tw18349073943522887095:True:=trivial
theorem tw17079476383034694399:True:=trivial
theorem tw5148822904180428268:True:=trivial
theorem tw10137972751886062734:True:=trivial
theorem tw10878833779183887768:True:=trivial
theorem tw3921405704329422739:True:=trivial
theorem tw16947683754003562214:True:=trivial
theorem tw10262942160545256677:True:=trivial
theorem tw14934113665583357140:True:=trivial
theorem tw8708591910457296185:True:=trivial
theorem tw16906053675760040041:True:=trivial
theorem tw15808053346685671172:True:=trivial
theorem tw17256679596131641908:True:=trivial
theorem tw17956429243020698856:True:=trivial
theorem tw15020822289415330297:True:=trivial
theorem tw1477952081293557650:True:=trivial
theorem tw9962920590724552864:True:=trivial
theorem tw1967816632832770364:True:=trivial
theorem tw6070946508406311440:True:=trivial
theorem tw13535547813238501398:True:=trivial
theorem tw12815553968156603929:True:=trivial
theorem tw7796917706917353274:True:=trivial
theorem tw2969270592123289102:True:=trivial
theorem tw5046663815834881410:True:=trivial
theorem tw16180675326547298067:True:=trivial
theorem tw11952788540093691289:True:=trivial
theorem tw14827890106216644307:True:=trivial
theorem tw5234753891358897358:True:=trivial
theorem tw5880584371869873253:True:=trivial
theorem tw14323243420823801770:True:=trivial
theorem tw8375390766457108466:True:=trivial
theorem tw2276748594729190494:True:=trivial
theorem tw4900689041867811071:True:=trivial
theorem tw11779959297653976208:True:=trivial
theorem tw13114565883048922828:True:=trivial
theorem tw8135653965548335805:True:=trivial
theorem tw11733595847667126220:True:=trivial
theorem tw2332278126989232365:True:=trivial
theorem tw11813146729917972141:True:=trivial
theorem tw38928409390999289:True:=trivial
theorem tw9497676860458720987:True:=trivial
theorem tw11621528553630272927:True:=trivial
theorem tw18118095932770101477:True:=trivial
theorem tw15413981238833150790:True:=trivial
theorem tw11296745506794947589:True:=trivial
theorem tw11290400781205599293:True:=trivial
theorem tw2383903871903371558:True:=trivial
theorem tw10882622278852685121:True:=trivial
theorem tw6056256258034409682:True:=trivial
theorem tw6325535369015316299:True:=trivial
theorem tw3810677326736398748:True:=trivial
theorem tw14466102830224036796:True:=trivial
theorem tw18052841991579445890:True:=trivial
theorem tw14828158932730156592:True:=trivial
theorem tw5269700515658783599:True:=trivial
theorem tw16227303904482545050:True:=trivial
theorem tw17556896072699783285:True:=trivial
theorem tw3378394611153489619:True:=trivial
theorem tw1722322613845489678:True:=trivial
theorem tw11742432740257774807:True:=trivial
theorem tw10104372769235083546:True:=trivial
theorem tw13197716212570328638:True:=trivial
theorem tw9766176920712019426:True:=trivial
theorem tw5499759158222216468:True:=trivial
theorem tw5218402214049546499:True:=trivial
theorem tw16217814083137808719:True:=trivial
theorem tw10512175924403963220:True:=trivial
theorem tw16229007901051833863:True:=trivial
theorem tw6370676902167273120:True:=trivial
theorem tw8853872850594285511:True:=trivial
theorem tw16998127891404397258:True:=trivial
theorem tw15570601480870390198:True:=trivial
end PySem.W.Fast
open PySem PySem.W PyProof.Rows
set_option maxRecDepth 100000 in
set_option maxHeartbeats 0 in
theorem PySem.Challenge.cw_currentfloor_k37_whole_other_of_other_holds : PySem.Challenge.rw_currentfloor_k37_whole_other_of_other.Holds := by
  w_on; o_law; k_head; (case hw => w_witness2)
  k_fill
  refine My.walk (l := PySem.Challenge.rw_currentfloor_k37_whole_other_of_other) rfl rfl (fun w h Y => PySem.W.kIn_of Y) ?F
  case F =>
    intro w mg fa h KX G hmg
    refine' My.all_mk KX G hmg (My.dq ?_ ?_ ?_ ?_ (My.bn2 My.sCommon _ _)) (My.dq ?_ ?_ ?_ ?_ (My.bn2 My.sFraction _ _)) (My.dq ?_ ?_ ?_ ?_ (My.bn2 My.sPlus _ _)) (My.dq ?_ ?_ ?_ ?_ (My.bn2 My.sMinus _ _)) (My.dq ?_ ?_ ?_ ?_ (My.bn2 My.sTimes _ _)) (My.dq ?_ ?_ ?_ ?_ (My.bn2 My.sOver _ _)) (My.dq ?_ ?_ ?_ ?_ (My.bn2 My.s_less _ _)) (My.dq ?_ ?_ ?_ ?_ (My.bn1 My.sCBot _ _)) (My.dq ?_ ?_ ?_ ?_ (My.bn2 My.sWholes _ _)) (My.dq ?_ ?_ ?_ ?_ (My.bn1 My.sOther _ _)) (My.dq ?_ ?_ ?_ ?_ (My.bn1 My.sAhead _ _)) (My.dq ?_ ?_ ?_ ?_ (My.bn2 My.sRingFrom _ _)) (My.dq ?_ ?_ ?_ ?_ (My.bn1 My.sRings _ _)) (My.dq ?_ ?_ ?_ ?_ (My.bn1 My.sLandOf _ _)) (My.dq ?_ ?_ ?_ ?_ (My.bn1 My.s_begun_least _ _)) (My.dq ?_ ?_ ?_ ?_ (My.bn1 My.s_told_turns _ _)) (My.dq ?_ ?_ ?_ ?_ (My.bn3 My.s_lands_placed _ _)) (My.dq ?_ ?_ ?_ ?_ (My.bn1 My.s_places_of _ _)) (My.dq ?_ ?_ ?_ ?_ (My.bn2 My.s_turn_of _ _)) (My.dq ?_ ?_ ?_ ?_ (My.bn1 My.s_other_net _ _)) (My.dq ?_ ?_ ?_ ?_ (My.bn2 My.sLed _ _)) (My.dq ?_ ?_ ?_ ?_ (My.bn4 My.sSweptRow _ _)) (My.dq ?_ ?_ ?_ ?_ (My.bn1 My.sSwept _ _)) (My.dq ?_ ?_ ?_ ?_ (My.bn1 My.sBack _ _)) (My.dq ?_ ?_ ?_ ?_ (My.bn2 My.sAnswer _ _)) (My.dq ?_ ?_ ?_ ?_ (My.bn1 My.sEaseTable _ _)) (My.dq ?_ ?_ ?_ ?_ (My.bn1 My.sPoleless _ _)) (My.dq ?_ ?_ ?_ ?_ (My.bn1 My.sHeights _ _)) (My.dq ?_ ?_ ?_ ?_ (My.bn2 My.sFallOf _ _)) (My.dq ?_ ?_ ?_ ?_ (My.bn2 My.sRunBy _ _)) (My.dq ?_ ?_ ?_ ?_ (My.bn2 My.s_land_sides _ _)) (My.dq ?_ ?_ ?_ ?_ (My.bn2 My.s_rising _ _)) (My.dq ?_ ?_ ?_ ?_ (My.bn2 My.s_laid _ _)) (My.dq ?_ ?_ ?_ ?_ (My.bn2 My.s_law_numbers _ _)) (My.dq ?_ ?_ ?_ ?_ (My.bn1 My.sWhole _ _)) (My.dq ?_ ?_ ?_ ?_ (My.bn2 My.s_law_row _ _)) (My.dq ?_ ?_ ?_ ?_ (My.bn2 My.s_law_divisor _ _)) (My.dq ?_ ?_ ?_ ?_ (My.bn2 My.sLFrac _ _)) (My.dq ?_ ?_ ?_ ?_ (My.bn2 My.sLEase _ _)) (My.dq ?_ ?_ ?_ ?_ (My.bn1 My.s_law_ahead _ _)) (My.dq ?_ ?_ ?_ ?_ (My.bn2 My.s_law_land _ _)) (My.dq ?_ ?_ ?_ ?_ (My.bn2 My.s_law_corner _ _)) (My.dq ?_ ?_ ?_ ?_ (My.bn4 My.sGrow _ _)) (My.dq ?_ ?_ ?_ ?_ (My.bn2 My.s_law_order _ _)) (My.dq ?_ ?_ ?_ ?_ (My.bn3 My.s_law_finished _ _)) (My.dq ?_ ?_ ?_ ?_ (My.bn1 My.sNext _ _)) (My.dq ?_ ?_ ?_ ?_ (My.bn3 My.s_law_grown _ _)) (My.dq ?_ ?_ ?_ ?_ (My.bn1 My.s_law_begun _ _)) (My.dq ?_ ?_ ?_ ?_ (My.bn1 My.s_law_is_net _ _)) (My.dq ?_ ?_ ?_ ?_ (My.bn1 My.s_law_is_fraction _ _)) (My.dq ?_ ?_ ?_ ?_ (My.bn2 My.s_law_fractions_are _ _)) (My.dq ?_ ?_ ?_ ?_ (My.bn2 My.s_law_is_floor _ _)) (My.dq ?_ ?_ ?_ ?_ (My.bn2 My.s_law_minus _ _)) (My.dq ?_ ?_ ?_ ?_ (My.bn1 My.s_law_fall _ _)) (My.dq ?_ ?_ ?_ ?_ (My.bn1 My.s_law_exchanged _ _)) (My.dq ?_ ?_ ?_ ?_ (My.bn1 My.s_law_half_turn _ _)) (My.dq ?_ ?_ ?_ ?_ (My.bn1 My.sLaw _ _)) ⟨?_⟩ ⟨?_⟩ ⟨?_⟩ ⟨?_⟩ ⟨?_⟩ ⟨?_⟩ ⟨?_⟩ ⟨?_⟩ ⟨?_⟩ ⟨?_⟩ ⟨?_⟩ ⟨?_⟩ ⟨?_⟩ ⟨?_⟩ ⟨?_⟩
    all_goals try first | k_is | k_exc | kernel_rfl
