import PyProof.Rows.All
import Wide.All
import OpenK.AllK
import Wide.FinOn
import Lean
import PyProof.EqAt
import PyProof.EqKinds
import PyProof.TupleCall
import PySem.Challenge.RW_currentfloor_k30_nets_of_built_floors
noncomputable section
set_option Elab.async false
set_option linter.all false
set_option maxRecDepth 100000
theorem cf:type_of% @List.length_map:=@List.length_map
theorem cg:type_of% @List.getElem?_eq_getElem:=@List.getElem?_eq_getElem
theorem cj:type_of% @PySem.Heap.get?_push_of_some:=@PySem.Heap.get?_push_of_some
theorem cm:type_of% @List.getElem?_eq_some_iff:=@List.getElem?_eq_some_iff
theorem cq:type_of% @List.mem_of_getElem?:=@List.mem_of_getElem?
theorem cu:type_of% @List.getElem?_map:=@List.getElem?_map
theorem cw:type_of% @List.getD_eq_getElem?_getD:=@List.getD_eq_getElem?_getD
theorem cx:type_of% @List.size_toArray:=@List.size_toArray
theorem cy:type_of% @List.forall_mem_cons:=@List.forall_mem_cons
theorem cP:type_of% @List.mem_cons:=@List.mem_cons
theorem cQ:type_of% @List.forall_mem_nil:=@List.forall_mem_nil
theorem cR:type_of% @Nat.le_refl:=@Nat.le_refl
theorem cS:type_of% @List.mem_append:=@List.mem_append
theorem cT:type_of% @List.mem_map:=@List.mem_map
theorem cU:type_of% @PySem.Heap.get?_push_size:=@PySem.Heap.get?_push_size
theorem cV:type_of% @PySem.Heap.lt_size:=@PySem.Heap.lt_size
theorem cW:type_of% @List.mem_singleton:=@List.mem_singleton
theorem cX:type_of% @List.length_append:=@List.length_append
theorem cY:type_of% @List.pairwise_iff_getElem:=@List.pairwise_iff_getElem
theorem cZ:type_of% @List.mem_range:=@List.mem_range
theorem c5:type_of% @Nat.lt_or_ge:=@Nat.lt_or_ge
theorem c7:type_of% @List.length_range:=@List.length_range
theorem c8:type_of% @Nat.ne_of_lt:=@Nat.ne_of_lt
theorem da:type_of% @List.mem_cons_of_mem:=@List.mem_cons_of_mem
theorem dc:type_of% @PySem.F.plainAttrs_list:=@PySem.F.plainAttrs_list
theorem de:type_of% @List.not_mem_nil:=@List.not_mem_nil
theorem df:type_of% @Bool.false_ne_true:=@Bool.false_ne_true
theorem dg:type_of% @Nat.le_trans:=@Nat.le_trans
theorem dh:type_of% @List.map_append:=@List.map_append
theorem dk:type_of% @Nat.zero_le:=@Nat.zero_le
theorem dm:type_of% @List.length_take:=@List.length_take
theorem dr:type_of% @List.mem_cons_self:=@List.mem_cons_self
theorem dv:type_of% @PySem.PassesOwn.never:=@PySem.PassesOwn.never
theorem dw:type_of% @Array.length_toList:=@Array.length_toList
theorem dy:type_of% @Nat.lt_of_lt_of_le:=@Nat.lt_of_lt_of_le
theorem dz:type_of% @Array.getElem?_eq_getElem:=@Array.getElem?_eq_getElem
theorem dA:type_of% @List.mem_append_right:=@List.mem_append_right
theorem dC:type_of% @List.take_of_length_le:=@List.take_of_length_le
theorem dD:type_of% @Array.getD_eq_getD_getElem?:=@Array.getD_eq_getD_getElem?
theorem dE:type_of% @Int.emod_lt_of_pos:=@Int.emod_lt_of_pos
theorem dF:type_of% @List.getElem?_eq_none:=@List.getElem?_eq_none
theorem dG:type_of% @PySem.F.slot_list_append:=@PySem.F.slot_list_append
theorem dH:type_of% @PySem.F.type_list_append:=@PySem.F.type_list_append
theorem dJ:type_of% @Option.map_eq_some_iff:=@Option.map_eq_some_iff
theorem dM:type_of% @List.length_cons:=@List.length_cons
theorem dN:type_of% @List.length_drop:=@List.length_drop
theorem dO:type_of% @Bool.and_eq_true:=@Bool.and_eq_true
theorem dP:type_of% @PySem.W.mg_none_of:=@PySem.W.mg_none_of
theorem dQ:type_of% @Int.le_refl:=@Int.le_refl
theorem dR:type_of% @List.mem_filter:=@List.mem_filter
theorem dS:type_of% @List.getElem_of_mem:=@List.getElem_of_mem
theorem dZ:type_of% @Int.emod_nonneg:=@Int.emod_nonneg
theorem d0:type_of% @List.getElem?_append_left:=@List.getElem?_append_left
theorem ed:type_of% @List.getElem?_append_right:=@List.getElem?_append_right
theorem eh:type_of% @PyProof.Rows.callWith_type1:=@PyProof.Rows.callWith_type1
theorem eo:type_of% @List.mem_append_left:=@List.mem_append_left
theorem eD:type_of% @List.append_nil:=@List.append_nil
theorem eE:type_of% @List.idxOf_lt_length_iff:=@List.idxOf_lt_length_iff
theorem eF:type_of% @PySem.Heap.size_push:=@PySem.Heap.size_push
theorem eG:type_of% @List.nodup_cons:=@List.nodup_cons
theorem eI:type_of% @List.take_length:=@List.take_length
theorem eJ:type_of% @List.map_cons:=@List.map_cons
theorem eK:type_of% @Ne.symm:=@Ne.symm
theorem eL:type_of% @Int.natAbs_natCast:=@Int.natAbs_natCast
theorem eM:type_of% @List.filter_append:=@List.filter_append
theorem eO:type_of% @List.getElem?_range:=@List.getElem?_range
theorem eP:type_of% @List.getElem_mem:=@List.getElem_mem
theorem eQ:type_of% @Nat.lt_trichotomy:=@Nat.lt_trichotomy
theorem eR:type_of% @PySem.Heap.get?_update_other:=@PySem.Heap.get?_update_other
theorem eT:type_of% @List.filter_cons:=@List.filter_cons
theorem eV:type_of% @PySem.Heap.SameBut.update:=@PySem.Heap.SameBut.update
theorem eY:type_of% @Nat.lt_succ_of_lt:=@Nat.lt_succ_of_lt
theorem eZ:type_of% @PyProof.Rows.slot_tuple_getitem:=@PyProof.Rows.slot_tuple_getitem
theorem e8:type_of% @PySem.F.slot_list_index:=@PySem.F.slot_list_index
theorem fc:type_of% @Bool.eq_iff_iff:=@Bool.eq_iff_iff
theorem fe:type_of% @List.pairwise_cons:=@List.pairwise_cons
theorem fg:type_of% @List.map_map:=@List.map_map
theorem fh:type_of% @Rat.intCast_mul:=@Rat.intCast_mul
theorem fj:type_of% @Nat.ne_of_gt:=@Nat.ne_of_gt
theorem fm:type_of% @List.length_singleton:=@List.length_singleton
theorem fo:type_of% @List.length_filter_le:=@List.length_filter_le
theorem fq:type_of% @PySem.W.kia_one:=@PySem.W.kia_one
theorem ft:type_of% @Bool.false_eq_true:=@Bool.false_eq_true
theorem fv:type_of% @List.countP_append:=@List.countP_append
theorem fw:type_of% @Int.fdiv_eq_ediv_of_dvd:=@Int.fdiv_eq_ediv_of_dvd
theorem fA:type_of% @PySem.F.type_list_index:=@PySem.F.type_list_index
theorem fB:type_of% @Nat.lt_irrefl:=@Nat.lt_irrefl
theorem fC:type_of% @Int.mul_nonneg:=@Int.mul_nonneg
theorem fD:type_of% @Int.toNat_natCast:=@Int.toNat_natCast
theorem fE:type_of% @List.pairwise_map:=@List.pairwise_map
theorem fF:type_of% @PySem.mem_of_lookup:=@PySem.mem_of_lookup
theorem fG:type_of% @List.map_congr_left:=@List.map_congr_left
theorem fH:type_of% @PySem.W.KasT.kasWp_bind:=@PySem.W.KasT.kasWp_bind
theorem fJ:type_of% @PySem.Heap.get?_update_self:=@PySem.Heap.get?_update_self
theorem fL:type_of% @List.take_append_drop:=@List.take_append_drop
theorem fM:type_of% @List.Pairwise.and_mem:=@List.Pairwise.and_mem
theorem fN:type_of% @PySem.F.called_set:=@PySem.F.called_set
theorem fO:type_of% @List.pairwise_append:=@List.pairwise_append
theorem fP:type_of% @Nat.pow_le_pow_right:=@Nat.pow_le_pow_right
theorem fQ:type_of% @PySem.Heap.get?_update_ne:=@PySem.Heap.get?_update_ne
theorem fS:type_of% @List.map_eq_nil_iff:=@List.map_eq_nil_iff
theorem fT:type_of% @List.getElem?_toArray:=@List.getElem?_toArray
theorem fV:type_of% @List.getElem_idxOf:=@List.getElem_idxOf
theorem fX:type_of% @Int.mul_comm:=@Int.mul_comm
theorem fY:type_of% @List.ext_getElem?:=@List.ext_getElem?
theorem fZ:type_of% @Int.natAbs_mul:=@Int.natAbs_mul
theorem gc:type_of% @Int.zero_add:=@Int.zero_add
namespace L2
open PySem PySem.Spec PyProof.Rows
abbrev Ap:=Sum Int Str
def IJ:Ap->Value->Bool
 | .inl k,v=>Value.isInt k v
 | .inr x,v=>Value.isStrOf x v
def bQ(w:World):Ap->Int
 | .inl k=>hashInt k
 | .inr x=>hashStr w x
theorem Fd:∀{k:Ap} {v:Value},IJ k v=true->(∃i t,k=Sum.inl i/\v=Value.int i t)\/(∃x t,k=Sum.inr x/\v=Value.str x t)
 | .inl i,v,h=>by
  obtain⟨t,e⟩:=Value.isInt_shape (k:=i) (v:=v) h;exact .inl ⟨i,t,rfl,e⟩
 | .inr x,v,h=>by
  obtain⟨t,e⟩:=Value.isStrOf_shape (x:=x) (v:=v) h;exact .inr ⟨x,t,rfl,e⟩
theorem VR(i:Int)(t:Tok):IJ (.inl i) (.int i t)=true:=by simp[IJ,Value.isInt]
theorem VO(x:Str)(t:Tok):IJ (.inr x) (.str x t)=true:=by simp[IJ,Value.isStrOf]
theorem Yj(a b:Int):decide ((Sum.inl a:Ap)=Sum.inl b)=(a == b):=by
 by_cases e:a=b
 ·subst e; simp
 ·have h:¬(Sum.inl a:Ap)=Sum.inl b:=λq=>e (Sum.inl.inj q)
  rw[decide_eq_false h];exact(beq_eq_false_iff_ne.mpr e).symm
theorem ZG(a b:Str):decide ((Sum.inr a:Ap)=Sum.inr b)=decide (a=b):=by
 by_cases e:a=b
 ·subst e; simp
 ·have h:¬(Sum.inr a:Ap)=Sum.inr b:=λq=>e (Sum.inr.inj q)
  rw[decide_eq_false h,decide_eq_false e]
theorem Ye(a:Int)(b:Str):decide ((Sum.inl a:Ap)=Sum.inr b)=false:=decide_eq_false (λq=>nomatch q)
theorem YV(a:Str)(b:Int):decide ((Sum.inr a:Ap)=Sum.inl b)=false:=decide_eq_false (λq=>nomatch q)
def DV(prog:Program)(w:World):PySem.KeyKind prog w Ap where
 is:=IJ
 hash:=bQ w
 inj:=λv a b ha hb=>by
  rcases Fd ha with ⟨i,t,rfl,rfl⟩ | ⟨x,t,rfl,rfl⟩
  ·rcases Fd hb with ⟨j,u,rfl,e⟩ | ⟨y,u,rfl,e⟩
   ·injection e with e1 _; rw[e1]
   ·exact nomatch e
  ·rcases Fd hb with ⟨j,u,rfl,e⟩ | ⟨y,u,rfl,e⟩
   ·exact nomatch e
   ·injection e with e1 _; rw[e1]
 byValue:=λk v h=>by
  rcases Fd h with ⟨i,t,rfl,rfl⟩ | ⟨x,t,rfl,rfl⟩ <;> rfl
 pyHash:=λhv h=>by
  rcases Fd hv with ⟨i,t,rfl,rfl⟩ | ⟨x,t,rfl,rfl⟩
  ·exact wpAny_pyHash_int h
  ·exact wpAny_pyHash_str h
 eqBool:=λhu hv h=>by
  rcases Fd hu with ⟨i,t,rfl,rfl⟩ | ⟨x,t,rfl,rfl⟩
  ·rcases Fd hv with ⟨j,u,rfl,rfl⟩ | ⟨y,u,rfl,rfl⟩
   ·rw[Yj] at h; exact wpAny_eqBool_int h
   ·rw[Ye] at h; exact SeqAt.EqAt.int_str i t y u _ _ _ _ h
  ·rcases Fd hv with ⟨j,u,rfl,rfl⟩ | ⟨y,u,rfl,rfl⟩
   ·rw[YV] at h; exact SeqAt.EqAt.str_int x t j u _ _ _ _ h
   ·rw[ZG] at h; exact wpAny_eqBool_str h
 «strs»:=λk x t v h=>by
  rcases Fd h with ⟨i,u,rfl,e⟩ | ⟨y,u,rfl,e⟩
  ·exact nomatch e
  ·injection e with e1 _
   subst e1;cases v <;> rfl
theorem UL(prog:Program)(w:World)(i:Int)(t:Tok):(DV prog w).is (.inl i) (.int i t)=true:=VR i t
theorem UM(prog:Program)(w:World)(x:Str)(t:Tok):(DV prog w).is (.inr x) (.str x t)=true:=VO x t
inductive V where
 | Aj | bl (b:Bool) | int (i:Int) | str (x:Str) | Dm (b:Array UInt8) | Hd (b:UInt64) | ref (a:Addr) | ty (n:String)
 deriving DecidableEq
def Ae:V->Value->Prop
 | .Aj,u=>u=Value.none
 | .bl b,u=>u=Value.bool b
 | .int i,u=>∃t,u=Value.int i t
 | .str x,u=>∃t,u=Value.str x t
 | .Dm b,u=>∃t,u=Value.bytes b t
 | .Hd b,u=>∃t,u=Value.float b t
 | .ref a,u=>u=Value.ref a
 | .ty n,u=>u=Value.type n
abbrev AX:List V->List Value->Prop:=Paired Ae
theorem AX.length{xs:List V}{us:List Value}(r:AX xs us):xs.length=us.length:=Paired.length r
theorem AX.get:∀{xs:List V} {us:List Value} {i:Nat} {x:V},AX xs us->xs[i]?=some x->∃u,us[i]?=some u/\Ae x u
 | _,_,_,_,.nil,e=>by simp at e
 | _,_,0,_,.cons r _,e=>by simp at e; subst e; exact⟨_,rfl,r⟩
 | _,_,i+1,x,.cons _ t,e=>by
  obtain⟨u,h1,h2⟩:=AX.get (i:=i) (x:=x) t (by simpa using e);exact⟨u,by simpa using h1,h2⟩
theorem AX.set{x:V}{u:Value}(r:Ae x u):∀{xs:List V} {us:List Value} (i:Nat),AX xs us->AX (xs.set i x) (us.set i u)
 | _,_,_,.nil=>.nil
 | _,_,0,.cons _ t=>.cons r t
 | _,_,i+1,.cons q t=>.cons q (AX.set r i t)
theorem AX.append:∀{xs ys:List V} {us ws:List Value},AX xs us->AX ys ws->AX (xs++ys) (us++ws)
 | _,_,_,_,.nil,s=>s
 | _,_,_,_,.cons r t,s=>.cons r (AX.append t s)
theorem AX.take:∀{xs:List V} {us:List Value} (n:Nat),AX xs us->AX (xs.take n) (us.take n)
 | _,_,0,_=>.nil
 | _,_,_+1,.nil=>.nil
 | _,_,n+1,.cons r t=>.cons r (AX.take n t)
theorem AX.drop:∀{xs:List V} {us:List Value} (n:Nat),AX xs us->AX (xs.drop n) (us.drop n)
 | _,_,0,r=>r
 | _,_,_+1,.nil=>.nil
 | _,_,n+1,.cons _ t=>AX.drop n t
def GD:Option V->Option Value->Prop
 | some v,some u=>Ae v u
 | none,none=>True
 | _,_=>False
def KV{κ:Type}:List (κ×V)->List (κ×Value)->Prop:=Paired λ(p:κ×V) (q:κ×Value)=>p.1=q.1/\Ae p.2 q.2
def kV:Ap->V
 | .inl i=>.int i
 | .inr x=>.str x
inductive HO where
  | AD (xs:List V)
  | AF (xs:List V)
  | dK (kvs:List (Ap×V)) | dT (kvs:List (List Ap×V))
  | set (S:Int->Bool) (n:Nat)
  | EA (C dx:Addr) (fs:List (Str×V))
  | own (x:Addr)
  | xd (fs:List (Str×V))
  | NW (f x:Addr)
  | Nl (lo hi:Int)
  | C3 (o:Obj) (u:HO)
  | Bw (ps:Array Value)
  | ext (φ:Heap->Prop)
abbrev Hp:=Addr->Option HO
def AE(H:Hp)(a:Addr)(o:HO):Hp:=λb=>if b=a then some o else H b
theorem AM{H:Hp}{a:Addr}{o:HO}:AE H a o a=some o:=by unfold AE; rw[if_pos rfl]
theorem AW{H:Hp}{a b:Addr}{o:HO}(h:b≠a):AE H a o b=H b:=by unfold AE; rw[if_neg h]
theorem QR{H:Hp}{a:Addr}{o u:HO}:AE (AE H a o) a u=AE H a u:=by
 funext b; unfold AE; split <;> rfl
theorem Rc{H:Hp}{a b:Addr}{o u:HO}(h:H a=some o)(h':H b=some u)(d:o≠u):a≠b:=by
 intro e; subst e; rw[h] at h'; exact d (Option.some.inj h')
theorem BB{H:Hp}{a b:Addr}{o:HO}(h:H a=some o)(h':H b=none):a≠b:=by
 intro e; subst e; rw[h] at h'; cases h'
section
variable (P:Program) (w:World)
def A9(H:Hp)(h:Heap)(a:Addr):HO->Prop
 | .AD xs=>xs.length<=sizeLine/\∃(its:List Value) (n:Nat),AX xs its/\h.get? a=some { cls:=.type "list",data:=.seq its.toArray n }
 | .AF xs=>xs.length<=sizeLine/\∃its:List Value,AX xs its/\IsTup h a its.toArray/\∃o,h.get? a=some o/\o.dict=none
 | .dK kvs=>kvs.length<=sizeLine/\(a == sysModules)=false/\∃vs,KV kvs vs/\h.DictOf (DV P w) a vs
 | .dT kvs=>kvs.length<=sizeLine/\(a == sysModules)=false/\∃xs:List (List Ap×Addr×Value),
   Paired (λ(p:List Ap×V) (q:List Ap×Addr×Value)=>p.1=q.1/\H q.2.1=some (.AF (p.1.map kV))/\Ae p.2 q.2.2) kvs xs /\
   ∃o es ep,h.get? a=some o/\o.ExactDict/\o.data=.dict es ep/\es.toList=xs.map (entryOfKey (tupleKind (DV P w)))/\(xs.map (·.1)).Nodup
 | .set S n=>h.SetOf (intKind P w) a S n
 | .EA C dx fs=>H dx=some (.own a)/\fs.length<=1000/\dx≠a/\h.get? a=some (PySem.W.instObj C dx) /\
   ∃mA,h.Ns1 dx mA/\(∀f,GD (fs.lookup f) (mA f))/\PySem.Within mA (fs.map (·.1))
 | .own _=>∃o,h.get? a=some o
 | .xd fs=>∃mA,h.Ns1 a mA/\∀f,GD (fs.lookup f) (mA f)
 | .Nl lo hi=>∃t u v,h.get? a=some { cls:=.type "range",data:=.fields #[.int lo t,.int hi u,.int 1 v] }
 | .C3 o u=>h.get? a=some o/\A9 H h a u
 | .Bw ps=>h.get? a=some { cls:=.none,data:=.fields ps }
 | .NW f x=>h.get? a=some (PySem.W.methodObj (.ref f) (.ref x))
 | .ext φ=>φ h/\(∃o,h.get? a=some o)/\∀h1 h2:Heap,φ h1->(∀o,h1.get? a=some o->h2.get? a=some o)->φ h2
def BN(H:Hp)(h:Heap):Prop:=∀a o,H a=some o->A9 P w H h a o
end
section
variable {P:Program} {w:World} {H H':Hp} {h h':Heap} {a:Addr} {o:HO}
theorem A9.lt(x:A9 P w H h a o):a<h.objs.size:=by
 cases o with
 | AD xs=>obtain⟨_,_,_,_,e⟩:=x; exact cV e
 | AF xs=>obtain⟨_,_,_,p,_⟩:=x; exact p.lt
 | dK kvs=>obtain⟨_,_,_,_,o,_,_,e,_⟩:=x; exact cV e
 | dT kvs=>obtain⟨_,_,_,_,o,_,_,e,_⟩:=x; exact cV e
 | set S n=>obtain⟨o,_,_,_,e,_⟩:=x; exact cV e
 | EA C dx fs=>obtain⟨_,_,_,e,_⟩:=x; exact cV e
 | own y=>obtain⟨_,e⟩:=x; exact cV e
 | xd fs=>obtain⟨_,⟨_,_,_,e,_⟩,_⟩:=x; exact cV e
 | Nl lo hi=>obtain⟨_,_,_,e⟩:=x; exact cV e
 | C3 ob u=>obtain⟨e,_⟩:=x; exact cV e
 | Bw ps=>exact cV (show h.get? a=some _ from x)
 | NW f y=>exact cV (show h.get? a=some _ from x)
 | ext φ=>obtain⟨_,⟨_,e⟩,_⟩:=x; exact cV e
theorem Paired.NH{α β:Type}{F G:α->β->Prop}:∀{l₁:List α} {l₂:List β},Paired F l₁ l₂->(∀a b,F a b->G a b)->Paired G l₁ l₂
 | _,_,.nil,_=>.nil
 | _,_,.cons r t,f=>.cons (f _ _ r) (Paired.NH t f)
theorem A9.FT (x:A9 P w H h a o) (k:∀b u,(b=a\/H b=some (.own a))->h.get? b=some u->h'.get? b=some u)
  (ho:∀b,H b=some (.own a)->H' b=some (.own a)) (ht:∀b xs,H b=some (.AF xs)->H' b=some (.AF xs)):A9 P w H' h' a o:=by
 induction o with
 | AD xs=>obtain⟨z,its,n,r,e⟩:=x; exact⟨z,its,n,r,k _ _ (.inl rfl) e⟩
 | AF xs=>obtain⟨z,its,r,⟨ob,e,c⟩,ob2,e2,c2⟩:=x; exact⟨z,its,r,⟨ob,k _ _ (.inl rfl) e,c⟩,ob2,k _ _ (.inl rfl) e2,c2⟩
 | dK kvs=>obtain⟨z,y,vs,r,ob,es,ep,e,c⟩:=x; exact⟨z,y,vs,r,ob,es,ep,k _ _ (.inl rfl) e,c⟩
 | dT kvs =>
  obtain⟨z,y,xs,r,ob,es,ep,e,c⟩:=x;exact⟨z,y,xs,Paired.NH r λp q z=>⟨z.1,ht _ _ z.2.1,z.2.2⟩,ob,es,ep,k _ _ (.inl rfl) e,c⟩
 | set S n=>obtain⟨ob,es,ep,t,e,c⟩:=x; exact⟨ob,es,ep,t,k _ _ (.inl rfl) e,c⟩
 | EA C dx fs =>
  obtain⟨d,z,ne,e,mA,⟨od,es,ep,e2,c⟩,r⟩:=x;exact⟨ho _ d,z,ne,k _ _ (.inl rfl) e,mA,⟨od,es,ep,k _ _ (.inr d) e2,c⟩,r⟩
 | own y=>obtain⟨ob,e⟩:=x; exact⟨ob,k _ _ (.inl rfl) e⟩
 | xd fs=>obtain⟨mA,⟨od,es,ep,e,c⟩,r⟩:=x; exact⟨mA,⟨od,es,ep,k _ _ (.inl rfl) e,c⟩,r⟩
 | Nl lo hi=>obtain⟨t,u,v,e⟩:=x; exact⟨t,u,v,k _ _ (.inl rfl) e⟩
 | C3 ob u ih=>obtain⟨e,q⟩:=x; exact⟨k _ _ (.inl rfl) e,ih q⟩
 | Bw ps =>
  have e:h.get? a=some { cls:=.none,data:=.fields ps }:=x;show h'.get? a=some { cls:=.none,data:=.fields ps };exact k a _ (.inl rfl) e
 | NW f y =>
  have e:h.get? a=some (PySem.W.methodObj (.ref f) (.ref y)):=x;show h'.get? a=some (PySem.W.methodObj (.ref f) (.ref y));exact k a _ (.inl rfl) e
 | ext φ=>obtain⟨p,⟨o,e⟩,st⟩:=x; exact⟨st _ _ p λo q=>k _ _ (.inl rfl) q,⟨o,k _ _ (.inl rfl) e⟩,st⟩
theorem BN.lt(x:BN P w H h)(e:H a=some o):a<h.objs.size:=(x a o e).lt
theorem BN.fresh(x:BN P w H h)(e:h.objs.size<=a):H a=none:=by
 cases q:H a with
 | none=>rfl
 | some u=>exact absurd (dy (x.lt q) e) (fB _)
theorem BN.BJ(x:BN P w H h)(k:∀b u,h.get? b=some u->h'.get? b=some u):BN P w H h':=λa o e =>
 (x a o e).FT (λb u _ q=>k b u q) (λ_ q=>q) λ_ _ q=>q
theorem BN.laid(x:BN P w H h)(k:∀b u,h.get? b=some u->h'.get? b=some u)(hp:h.objs.size<=a)(new:A9 P w (AE H a o) h' a o):BN P w (AE H a o) h':=λb u e=>by
 have hn:=x.fresh hp;by_cases hb:b=a
 ·subst hb; rw[AM] at e; cases e; exact new
 ·rw[AW hb] at e;exact(x b u e).FT (λc v _ q=>k c v q) (λc q=>by rw[AW (BB q hn)]; exact q) λc xs q=>by rw[AW (BB q hn)]; exact q
end
def Rd(H:Hp)(a:Addr)(u:HO):Prop:=H a=some u\/∃o,H a=some (.C3 o u)
theorem Rd.of{H:Hp}{a:Addr}{u:HO}(h:H a=some u):Rd H a u:=.inl h
theorem Rd.ok{P:Program}{w:World}{H:Hp}{h:Heap}{a:Addr}{u:HO}(r:Rd H a u)(x:BN P w H h):A9 P w H h a u:=by
 rcases r with r | ⟨o,r⟩
 ·exact x a u r
 ·obtain⟨_,q⟩:=x a _ r;exact q
def Jd:Option HO->Prop
 | some (.AD _)=>True
 | some (.dK _)=>True
 | some (.dT _)=>True
 | some (.set _ _)=>True
 | some (.EA _ _ _)=>True
 | some (.ext _)=>True
 | _=>False
section
variable {P:Program} {w:World} {H:Hp} {h h':Heap} {x e:Addr} {o':HO}
theorem BN.Eu (ok:BN P w H h) (mu:Jd (H x)) (he:e=x\/H e=some (.own x)) (k:∀b u,b≠e->h.get? b=some u->h'.get? b=some u) (heo:∃u,h'.get? e=some u)
  (new:A9 P w (AE H x o') h' x o'):BN P w (AE H x o') h':=λb u q=>by
 have nown:∀c y,H c=some (.own y)->c≠x:=λc y r z=>by subst z; rw[r] at mu; exact mu
 have ntup:∀c xs,H c=some (.AF xs)->c≠x:=λc xs r z=>by subst z; rw[r] at mu; exact mu
 by_cases hb:b=x
 ·subst hb; rw[AM] at q; cases q; exact new
 ·rw[AW hb] at q;by_cases hbe:b=e
  ·have q':H b=some (.own x):=by
    rcases he with z | z
    ·exact absurd (hbe.trans z) hb
    ·rw[hbe]; exact z
   rw[q] at q'; cases q';obtain⟨v,hv⟩:=heo;exact⟨v,by rw[hbe]; exact hv⟩
  ·refine(ok b u q).FT (λc v hc r=>k c v ?_ r) (λc r=>by rw[AW (nown c b r)]; exact r) λc xs r=>by rw[AW (ntup c xs r)]; exact r
   rcases hc with rfl | hc
   ·exact hbe
   ·rintro rfl;rcases he with z | z
    ·exact nown c b hc z
    ·rw[hc] at z; cases z; exact hb rfl
end
structure Un(fs ex:List Addr)(H H':Hp)(h h':Heap):Prop where
 keep:∀b o,h.get? b=some o->H b=none->b∉fs->b∉ex->h'.get? b=some o
 slot:∀b o,h.get? b=some o->H b=none->b∈fs->b∉ex->∃sl,h'.get? b=some { o with slots:=sl }
 free:∀b o,h.get? b=some o->H b=none->b∉ex->H' b=none
 there:∀b o,h.get? b=some o->b∉ex->∃o',h'.get? b=some o'
 tups:∀b xs,H b=some (.AF xs)->H' b=some (.AF xs)
 frzs:∀b o u,H b=some (.C3 o u)->H' b=some (.C3 o u)
 tbls:∀b ps,H b=some (.Bw ps)->∃more,H' b=some (.Bw (ps++more))
section
variable {fs fs' ex ex':List Addr} {H H1 H2:Hp} {h h1 h2 h':Heap} {a x e:Addr} {o:HO}
theorem Un.any(u:Un fs ex H H1 h h1){b:Addr}{ob:Obj}(q:h.get? b=some ob)(n:H b=none)(hx:b∉ex):∃sl,h1.get? b=some { ob with slots:=sl }:=by
 by_cases hb:b∈fs
 ·exact u.slot b ob q n hb hx
 ·exact⟨ob.slots,u.keep b ob q n hb hx⟩
theorem Un.trans(a:Un fs ex H H1 h h1)(b:Un fs ex H1 H2 h1 h2):Un fs ex H H2 h h2 where
 keep:=λc ob q n hc hx=>b.keep c ob (a.keep c ob q n hc hx) (a.free c ob q n hx) hc hx
 slot:=λc ob q n hc hx=>by
  obtain⟨sl,e1⟩:=a.slot c ob q n hc hx;obtain⟨sl',e2⟩:=b.slot c _ e1 (a.free c ob q n hx) hc hx;exact⟨sl',e2⟩
 free:=λc ob q n hx=>by
  obtain⟨o',e1⟩:=a.there c ob q hx;exact b.free c o' e1 (a.free c ob q n hx) hx
 there:=λc ob q hx=>by
  obtain⟨o',e1⟩:=a.there c ob q hx;exact b.there c o' e1 hx
 tups:=λc xs q=>b.tups c xs (a.tups c xs q)
 frzs:=λc ob xs q=>b.frzs c ob xs (a.frzs c ob xs q)
 tbls:=λc ps q=>by
  obtain⟨m1,e1⟩:=a.tbls c ps q;obtain⟨m2,e2⟩:=b.tbls c _ e1;exact⟨m1++m2,by rw[e2,Array.append_assoc]⟩
theorem Un.BJ(k:∀b u,h.get? b=some u->h'.get? b=some u):Un fs ex H H h h' :=
 ⟨λb ob q _ _ _=>k b ob q,λb ob q _ _ _=>⟨ob.slots,k b ob q⟩,λ_ _ _ n _=>n,λb ob q _=>⟨ob,k b ob q⟩,λ_ _ q=>q,λ_ _ _ q=>q,λ_ ps q=>⟨#[],by rw[q]; simp⟩⟩
theorem Un.refl:Un fs ex H H h h:=Un.BJ λ_ _ q=>q
theorem Un.laid(k:∀b u,h.get? b=some u->h'.get? b=some u)(hp:h.objs.size<=a)(hn:H a=none):Un fs ex H (AE H a o) h h' where
 keep:=λb u q _ _ _=>k b u q
 slot:=λb u q _ _ _=>⟨u.slots,k b u q⟩
 free:=λb u q n _=>by rw[AW (c8 (dy (cV q) hp))]; exact n
 there:=λb u q _=>⟨u,k b u q⟩
 tups:=λb xs q=>by rw[AW (BB q hn)]; exact q
 frzs:=λb u xs q=>by rw[AW (BB q hn)]; exact q
 tbls:=λb ps q=>⟨#[],by rw[AW (BB q hn),q]; simp⟩
theorem Un.Eu(mu:Jd (H x))(he:e=x\/H e=some (.own x))(k:∀b u,b≠e->h.get? b=some u->h'.get? b=some u)(heo:∃u,h'.get? e=some u):Un fs ex H (AE H x o) h h':=by
 have hx:∀b,H b=none->b≠x:=λb n z=>by subst z; rw[n] at mu; exact mu
 have hb:∀b,H b=none->b≠e:=λb n z=>by
  subst z;rcases he with r | r
  ·exact hx b n r
  ·rw[n] at r; cases r
 have hm:∀b u,H b=some u->¬Jd (some u)->b≠x:=λb u q nm z=>by subst z; rw[q] at mu; exact nm mu
 refine⟨λb u q n _ _=>k b u (hb b n) q,λb u q n _ _=>⟨u.slots,k b u (hb b n) q⟩,λb u q n _=>by rw[AW (hx b n)]; exact n,λb u q _=>?_,
  λb xs q=>by rw[AW (hm b _ q λz=>z)]; exact q,λb u xs q=>by rw[AW (hm b _ q λz=>z)]; exact q,λb ps q=>⟨#[],by rw[AW (hm b _ q λz=>z),q]; simp⟩⟩
 by_cases hbe:b=e
 ·subst hbe; exact heo
 ·exact⟨u,k b u hbe q⟩
theorem Un.mono(u:Un fs ex H H1 h h1)(hs:∀b∈fs,b∈fs')(hx:∀b∈ex,b∈ex'):Un fs' ex' H H1 h h1 :=
 ⟨λb ob q n hb he=>u.keep b ob q n (λz=>hb (hs b z)) λz=>he (hx b z),λ_ _ q n _ he=>u.any q n λz=>he (hx _ z),λb ob q n he=>u.free b ob q n λz=>he (hx b z),λb ob q he=>u.there b ob q λz=>he (hx b z),u.tups,u.frzs,u.tbls⟩
end
def LI(h:Heap)(H:Hp):List Addr:=(List.range h.objs.size).filter λa=>(H a).isSome
def DN(h:Heap)(H:Hp):Heap:=PySem.W.hideAll h (LI h H)
theorem OR(h:Heap)(H:Hp):(DN h H).objs.size=h.objs.size:=PySem.W.hideAll_size _ _
theorem Pd{h:Heap}{H:Hp}{b:Addr}{o:Obj}(e:h.get? b=some o)(n:H b=none):(DN h H).get? b=some o :=
 PySem.W.hideAll_get _ e λhm=>by
  have q:(H b).isSome=true:=(dR.mp hm).2;rw[n] at q; simp at q
theorem QC{h:Heap}{H:Hp}{b:Addr}{o:Obj}(e:(DN h H).get? b=some o):h.get? b=some o/\H b=none:=by
 have e':h.get? b=some o:=PySem.W.of_hideAll (LI h H) e;refine⟨e',?_⟩;cases q:H b with
 | none=>rfl
 | some x =>
  have hm:b∈LI h H:=dR.mpr ⟨cZ.mpr (cV e'),by simp[q]⟩;have z:(DN h H).get? b=none:=PySem.W.hideAll_none (LI h H) hm;rw[z] at e; cases e
def Xl(g h:Heap)(L:Addr):List (Addr×Obj):=(List.range h.objs.size).filterMap λa=>if a=L\/(g.get? a).isSome=true then none else (h.get? a).map λo=>(a,o)
def rest(g h:Heap)(L d:Addr):List (Addr×Obj):=(Xl g h L).filter λp=>decide (p.1≠d)
structure Mod(K:PySem.W.Frag)(mg:Str->Option Value)(base:Heap):Prop where
 Nf:K.In base
 Dg:base.Ns mainGlobals mg
 Ia:∃mb,base.Ns builtinsNs mb/\∀x:Str,x≠"__name__"->mb x=bootBuiltins x
 nolimit:base.NoLimit
structure Cx where
 prog:Program
 w:World
 K:PySem.W.Frag
 mg:Str->Option Value
 base:Heap
 A:Around
 N:List Str
 s₀:Shared
 H₀:Hp
 env:Env
 outer:List Env
 stack:List Env
 ex:List Addr
 fn:Str->Bool
 BS:Bool
 pn:List (Addr×Obj)
 xe:Value->Shared->Prop
def E9(l:List Env):List Addr:=l.filterMap (·.frame)
abbrev Cx.fs(X:Cx):List Addr:=E9 X.outer
def Nb(sc:Scope)(x:Str):Prop:=sc.names.lookup x=some .local\/sc.names.lookup x=some .cell\/sc.names.lookup x=some .free
def HX(sc:Scope)(x:Str):Prop:=sc.names.lookup x=some .local\/sc.names.lookup x=some .cell
def BK(env:Env)(h:Heap)(m:Str->Option Value)(x:Str)(u:Value):Prop :=
 (env.kindOf x=some .local/\m x=some u)\/((env.kindOf x=some .cell\/env.kindOf x=some .free)/\∃c,env.cells.lookup x=some c/\h.IsCell c (some u))
structure Cx.Ok(X:Cx):Prop where
 CH:Mod X.K X.mg X.base
 kind:X.env.scope.kind=.function
 Dg:X.env.globals=mainGlobals
 Ia:X.env.builtins=builtinsNs
 above:X.s₀.heap.objs.size<=X.env.locals
 inj:∀x y c,X.env.cells.lookup x=some c->X.env.cells.lookup y=some c->x=y
 has:∀x,(X.env.kindOf x=some .cell\/X.env.kindOf x=some .free)->∃c,X.env.cells.lookup x=some c
 Jh:∀x c,X.fn x=true->X.env.cells.lookup x=some c->X.s₀.heap.objs.size<=c
 hd:X.BS=true->X.A.handled=none
 frames:X.A.frames=some X.stack
 LN:X.stack=X.outer\/(X.stack=X.env :: X.outer/\X.env.frame=some X.env.locals)
 Tp:∀b∈X.ex,b≠X.env.locals/\∀x c,X.env.cells.lookup x=some c->c≠b
 bs:∀b o,X.base.get? b=some o->X.s₀.heap.get? b=some o/\X.H₀ b=none
 E4:X.base.objs.size<=X.s₀.heap.objs.size
 Jb:∀b o,X.base.get? b=some o->b∉X.ex
 JZ:∀b∈X.ex,b∉X.fs
 D2:X.s₀.heap.FunFrames X.base X.outer
 Gn:∀b∈X.fs,X.H₀ b=none
structure AI(X:Cx)(pins:List (Addr×Obj))(σ:List (Option V))(H:Hp)(s:Shared):Prop where
 ok:X.Ok
 os:s.os=X.s₀.os
 bare:AllBare s.gens
 base:Un X.fs X.ex X.H₀ H X.s₀.heap s.heap
 Co:∃m,s.heap.Ns X.env.locals m/\∀(i:Nat) (x:Str) (v:V),X.N[i]?=some x->σ[i]?=some (some v)->Nb X.env.scope x->∃u,Ae v u/\BK X.env s.heap m x u
 cell:∀x c,X.env.cells.lookup x=some c->∃v,s.heap.IsCell c v
 free:H X.env.locals=none
 Dw:∀x c,X.env.cells.lookup x=some c->H c=none
 pin:∀p∈X.pn++pins,s.heap.get? p.1=some p.2/\H p.1=none/\p.1≠X.env.locals/\p.1∉X.fs/\∀v,p.2.data≠.cell v
 hok:BN X.prog X.w H s.heap
 len:σ.length=X.N.length
section
variable {X:Cx} {pins:List (Addr×Obj)} {σ:List (Option V)} {H H':Hp} {s:Shared} {h':Heap}
theorem Cx.Ok.bL(ok:X.Ok){b:Addr}{o:Obj}(e:X.base.get? b=some o):b∉X.fs:=λhb=>by
 have:=(ok.D2.mem hb).1
 rw[e] at this; cases this
theorem AI.bs(I:AI X pins σ H s):∀b o,X.base.get? b=some o->s.heap.get? b=some o/\H b=none:=λb o e =>
 ⟨I.base.keep b o (I.ok.bs b o e).1 (I.ok.bs b o e).2 (I.ok.bL e) (I.ok.Jb b o e),I.base.free b o (I.ok.bs b o e).1 (I.ok.bs b o e).2 (I.ok.Jb b o e)⟩
theorem AI.bk(I:AI X pins σ H s):∀b o,X.base.get? b=some o->s.heap.get? b=some o:=λb o e=>(I.bs b o e).1
theorem AI.CH(I:AI X pins σ H s):Mod X.K X.mg X.base:=I.ok.CH
theorem AI.Cz(I:AI X pins σ H s):X.K.In s.heap:=I.ok.CH.Nf.keeps I.bk
theorem AI.nolimit(I:AI X pins σ H s):s.heap.NoLimit:=I.ok.CH.nolimit.keeps I.bk
theorem AI.fr(I:AI X pins σ H s):∃m,Fr X.base X.env.locals s.heap m :=
 let ⟨m,hn,_⟩:=I.Co
 ⟨m,hn,I.bk,dg I.ok.E4 I.ok.above⟩
theorem AI.lt(I:AI X pins σ H s):X.env.locals<s.heap.objs.size:=let ⟨_,hn,_⟩:=I.Co; hn.lt
theorem AI.sz(I:AI X pins σ H s):X.s₀.heap.objs.size<=s.heap.objs.size:=dg I.ok.above (Nat.le_of_lt I.lt)
theorem AI.Ss(I:AI X pins σ H s){a:Addr}(h:s.heap.objs.size<=a):a∉X.fs:=λhb=>by
 obtain⟨_,o,ho,_⟩:=I.ok.D2.mem hb;exact absurd (dy (cV ho) (dg I.sz h)) (fB _)
theorem AI.cne(I:AI X pins σ H s):∀x c,X.env.cells.lookup x=some c->c≠X.env.locals:=λx c e z=>by
 obtain⟨v,o,ho,hd⟩:=I.cell x c e;obtain⟨m,⟨o',es,ep,ho',hd',_⟩,_⟩:=I.Co;rw[z,ho'] at ho; cases ho; rw[hd'] at hd; cases hd
theorem AI.D2(I:AI X pins σ H s):s.heap.FunFrames X.base X.outer:=by
 have all:∀(l:List Env),(∀b∈E9 l,b∈X.fs)->X.s₀.heap.FunFrames X.base l->s.heap.FunFrames X.base l:=by
  intro l
  induction l with
  | nil=>intro _ _; trivial
  | cons env r ih =>
   intro hs hl;obtain⟨hk,⟨L,o,hf,hn,ho,hd⟩,hr⟩:=hl;have hL:L∈X.fs:=hs L (by unfold E9; rw[List.filterMap_cons,hf]; exact dr);obtain⟨sl,e⟩:=I.base.slot L o ho (I.ok.Gn L hL) hL λz=>I.ok.JZ L z hL
   exact⟨hk,⟨L,_,hf,hn,e,hd⟩,ih (λb hb=>hs b (by unfold E9; rw[List.filterMap_cons,hf]; exact da _ hb)) hr⟩
 exact all X.outer (λ_ hb=>hb) I.ok.D2
theorem AI.stack(I:AI X pins σ H s):s.heap.FunFrames X.base X.stack:=by
 rcases I.ok.LN with e | ⟨e,hf⟩
 ·rw[e]; exact I.D2
 ·rw[e];obtain⟨m,hn,_⟩:=I.Co;refine .cons (by rw[I.ok.kind]; decide) hf hn ?_ I.D2;exact Heap.get?_none_of_le (dg I.ok.E4 I.ok.above)
theorem AI.Kf(I:AI X pins σ H s):∀b∈E9 X.stack,b∈X.env.locals :: X.fs:=λb hb=>by
 rcases I.ok.LN with e | ⟨e,hf⟩
 ·rw[e] at hb; exact da _ hb
 ·rw[e] at hb;unfold E9 at hb;rw[List.filterMap_cons,hf] at hb;exact hb
theorem AI.Px(I:AI X pins σ H s):∀b∈E9 X.stack,H b=none:=λb hb=>by
 rcases cP.mp (I.Kf b hb) with e | hb
 ·rw[e]; exact I.free
 ·obtain⟨_,o,ho,_⟩:=I.ok.D2.mem hb;exact I.base.free b o ho (I.ok.Gn b hb) λz=>I.ok.JZ b z hb
theorem AI.step {g':Array GenState} {t':Nat} {d':Drawn} {ch:List Addr} (I:AI X pins σ H s)
  (hch:∀b∈ch,(b∈X.ex\/X.s₀.heap.objs.size<=b)/\b≠X.env.locals/\(∀x c,X.env.cells.lookup x=some c->c≠b)/\∀p∈X.pn++pins,p.1≠b)
  (keep:∀b o,b≠X.env.locals->b∉X.fs->b∉ch->s.heap.get? b=some o->H b=none->h'.get? b=some o)
  (slot:∀b o,b≠X.env.locals->b∈X.fs->b∉ch->s.heap.get? b=some o->H b=none->∃sl,h'.get? b=some { o with slots:=sl }) (free:∀b o,b∉ch->s.heap.get? b=some o->H b=none->H' b=none)
  (there:∀b o,b∉ch->s.heap.get? b=some o->∃o',h'.get? b=some o')
  (tups:∀b xs,H b=some (.AF xs)->H' b=some (.AF xs)) (frzs:∀b o u,H b=some (.C3 o u)->H' b=some (.C3 o u)) (tbls:∀b ps,H b=some (.Bw ps)->∃more,H' b=some (.Bw (ps++more)))
  (ns:∀m,s.heap.Ns X.env.locals m->h'.Ns X.env.locals m) (hok:BN X.prog X.w H' h') (hg:AllBare g') :
  AI X pins σ H' { s with heap:=h',gens:=g',drawn:=d',toks:=t' }:=by
 have neL:∀b o,X.s₀.heap.get? b=some o->b≠X.env.locals:=λb o e=>c8 (dy (cV e) I.ok.above)
 have neC:∀b o,X.s₀.heap.get? b=some o->b∉X.ex->b∉ch:=λb o e hx hb=>by
  rcases(hch b hb).1 with z | z
  ·exact hx z
  ·exact absurd (dy (cV e) z) (fB _)
 have cellK:∀x c,X.env.cells.lookup x=some c->∀v,s.heap.IsCell c v->h'.IsCell c v:=λx c e v ⟨o,ho,hd⟩=>by
  have nch:c∉ch:=λz=>(hch c z).2.2.1 x c e rfl
  by_cases hc:c∈X.fs
  ·obtain⟨sl,q⟩:=slot c o (I.cne x c e) hc nch ho (I.Dw x c e);exact⟨_,q,hd⟩
  ·exact⟨o,keep c o (I.cne x c e) hc nch ho (I.Dw x c e),hd⟩
 refine⟨I.ok,I.os,hg,⟨λb o e n hb hx=>?_,λb o e n hb hx=>?_,λb o e n hx=>?_,λb o e hx=>?_,λb xs e=>tups b xs (I.base.tups b xs e),λb o xs e=>frzs b o xs (I.base.frzs b o xs e),λb ps e=>?_⟩,?_,λx c e=>?_,?_,λx c e=>?_,λp hp=>?_,hok,I.len⟩
 ·exact keep b o (neL b o e) hb (neC b o e hx) (I.base.keep b o e n hb hx) (I.base.free b o e n hx)
 ·obtain⟨sl,e1⟩:=I.base.slot b o e n hb hx;obtain⟨sl',e2⟩:=slot b _ (neL b o e) hb (neC b o e hx) e1 (I.base.free b o e n hx);exact⟨sl',e2⟩
 ·obtain⟨o',e1⟩:=I.base.there b o e hx;exact free b o' (neC b o e hx) e1 (I.base.free b o e n hx)
 ·obtain⟨o',e1⟩:=I.base.there b o e hx;exact there b o' (neC b o e hx) e1
 ·obtain⟨m1,e1⟩:=I.base.tbls b ps e;obtain⟨m2,e2⟩:=tbls b _ e1;exact⟨m1++m2,by rw[e2,Array.append_assoc]⟩
 ·obtain⟨m,hn,hl⟩:=I.Co;refine⟨m,ns m hn,λi x v e1 e2 e3=>?_⟩;obtain⟨u,r,l⟩:=hl i x v e1 e2 e3;refine⟨u,r,?_⟩;rcases l with l | ⟨k,c,e,z⟩
  ·exact .inl l
  ·exact .inr ⟨k,c,e,cellK x c e _ z⟩
 ·obtain⟨v,z⟩:=I.cell x c e;exact⟨v,cellK x c e v z⟩
 ·obtain⟨m,⟨o,_,_,ho,_⟩,_⟩:=I.Co;exact free _ o (λz=>(hch _ z).2.1 rfl) ho I.free
 ·obtain⟨v,o,ho,hd⟩:=I.cell x c e;exact free c o (λz=>(hch c z).2.2.1 x c e rfl) ho (I.Dw x c e)
 ·obtain⟨e,n,ne,nf,d⟩:=I.pin p hp;have nch:p.1∉ch:=λz=>(hch p.1 z).2.2.2 p hp rfl
  exact⟨keep p.1 p.2 ne nf nch e n,free p.1 p.2 nch e n,ne,nf,d⟩
theorem AI.un{t':Nat}(I:AI X pins σ H s)(u:Un X.fs [] H H' s.heap h')(hok:BN X.prog X.w H' h'):AI X pins σ H' { s with heap:=h',toks:=t' }:=by
 obtain⟨m,⟨o,es,ep,ho,r⟩,_⟩:=id I.Co;obtain⟨sl,hL⟩:=u.any ho I.free (by simp);exact I.step (g':=s.gens) (d':=s.drawn) (ch:=[]) (λ_ z=>nomatch z) (λb o _ hb _ e n=>u.keep b o e n hb (by simp)) (λb o _ hb _ e n=>u.slot b o e n hb (by simp)) (λb o _ e n=>u.free b o e n (by simp)) (λb o _ e=>u.there b o e (by simp)) u.tups u.frzs u.tbls (λm' hm=>by
  obtain⟨o',es',ep',ho',r'⟩:=hm;rw[ho] at ho'; cases ho';exact⟨_,es',ep',hL,r'⟩) hok I.bare
theorem AI.call {g':Array GenState} {t':Nat} {d':Drawn} {ch:List Addr} (I:AI X pins σ H s) (u:Un (E9 X.stack) ch H H' s.heap h') (hok:BN X.prog X.w H' h') (hg:AllBare g')
  (hch:∀b∈ch,(b∈X.ex\/X.s₀.heap.objs.size<=b)/\b≠X.env.locals/\(∀x c,X.env.cells.lookup x=some c->c≠b)/\∀p∈X.pn++pins,p.1≠b) :
  AI X pins σ H' { s with heap:=h',gens:=g',drawn:=d',toks:=t' }:=by
 obtain⟨m,⟨o,es,ep,ho,r⟩,_⟩:=id I.Co;obtain⟨sl,hL⟩:=u.any ho I.free λz=>(hch _ z).2.1 rfl
 exact I.step (ch:=ch) hch (λb o hL hb hc e n=>u.keep b o e n (λz=>(cP.mp (I.Kf b z)).elim hL hb) hc) (λb o _ _ hc e n=>u.any e n hc) (λb o hc e n=>u.free b o e n hc) (λb o hc e=>u.there b o e hc) u.tups u.frzs u.tbls (λm' hm=>by
  obtain⟨o',es',ep',ho',r'⟩:=hm;rw[ho] at ho'; cases ho';exact⟨_,es',ep',hL,r'⟩) hok hg
theorem AI.Er {t':Nat} {it:Addr} (I:AI X pins σ H s) (k:∀b o,b≠it->s.heap.get? b=some o->h'.get? b=some o) (hn:H it=none) (hL:it≠X.env.locals)
  (h1:it∈X.ex\/X.s₀.heap.objs.size<=it) (h2:∀x c,X.env.cells.lookup x=some c->c≠it) (h3:∀p∈X.pn++pins,p.1≠it):AI X pins σ H { s with heap:=h',toks:=t' }:=by
 have nit:∀b u,H b=some u->b≠it:=λb u e z=>by rw[z,hn] at e; cases e
 refine I.step (g':=s.gens) (d':=s.drawn) (ch:=[it]) (λb hb=>?_) (λb o _ _ hc e _=>k b o (λz=>hc (by simp[z])) e) (λb o _ _ hc e _=>⟨o.slots,k b o (λz=>hc (by simp[z])) e⟩) (λ_ _ _ _ n=>n)
  (λb o hc e=>⟨o,k b o (λz=>hc (by simp[z])) e⟩) (λ_ _ e=>e) (λ_ _ _ e=>e) (λb ps e=>⟨#[],by rw[e]; simp⟩) (λm hm=>?_) (λb u e=>?_) I.bare
 ·have e:b=it:=by simpa using hb
  subst e;exact⟨h1,hL,h2,h3⟩
 ·obtain⟨o,es,ep,ho,r⟩:=hm;exact⟨o,es,ep,k _ o (eK hL) ho,r⟩
 ·refine(I.hok b u e).FT (λc v hc q=>k c v ?_ q) (λ_ q=>q) λ_ _ q=>q
  rcases hc with z | z
  ·rw[z]; exact nit b u e
  ·exact nit c _ z
theorem AI.Cn(I:AI X pins σ H s)(t:Nat):AI X pins σ H { s with toks:=t }:=I.un (h':=s.heap) (t':=t) Un.refl I.hok
theorem AI.BJ{t':Nat}(I:AI X pins σ H s)(k:∀b u,s.heap.get? b=some u->h'.get? b=some u):AI X pins σ H { s with heap:=h',toks:=t' }:=I.un (Un.BJ k) (I.hok.BJ k)
theorem AI.laid{a:Addr}{o:HO}{t':Nat}(I:AI X pins σ H s)(k:∀b u,s.heap.get? b=some u->h'.get? b=some u)(hp:s.heap.objs.size<=a)(new:A9 X.prog X.w (AE H a o) h' a o):
  AI X pins σ (AE H a o) { s with heap:=h',toks:=t' }:=I.un (Un.laid k hp (I.hok.fresh hp)) (I.hok.laid k hp new)
theorem AI.Eu {x e:Addr} {o:HO} {t':Nat} (I:AI X pins σ H s) (mu:Jd (H x)) (he:e=x\/H e=some (.own x)) (k:∀b u,b≠e->s.heap.get? b=some u->h'.get? b=some u) (heo:∃u,h'.get? e=some u)
  (new:A9 X.prog X.w (AE H x o) h' x o):AI X pins σ (AE H x o) { s with heap:=h',toks:=t' }:=I.un (Un.Eu mu he k heo) (I.hok.Eu mu he k heo new)
theorem AI.JS{σ':List (Option V)}(I:AI X pins σ H s)(hl:σ'.length=σ.length)(w:∀(i:Nat) v,σ'[i]?=some (some v)->σ[i]?=some (some v)):AI X pins σ' H s :=
 ⟨I.ok,I.os,I.bare,I.base,let ⟨m,hn,hl'⟩:=I.Co; ⟨m,hn,λi x v e1 e2 e3=>hl' i x v e1 (w i v e2) e3⟩,I.cell,I.free,I.Dw,I.pin,I.hok,hl.trans I.len⟩
theorem AI.KZ{pins':List (Addr×Obj)}(I:AI X pins σ H s)(h:∀p∈pins',s.heap.get? p.1=some p.2/\H p.1=none/\p.1≠X.env.locals/\p.1∉X.fs/\∀v,p.2.data≠.cell v):AI X pins' σ H s :=
 ⟨I.ok,I.os,I.bare,I.base,I.Co,I.cell,I.free,I.Dw,λp hp=>(cS.mp hp).elim (λz=>I.pin p (eo _ z)) (h p),I.hok,I.len⟩
theorem PX{N:List Str}(hN:N.Nodup){i j:Nat}{x:Str}(a:N[i]?=some x)(b:N[j]?=some x):i=j:=by
 obtain⟨h1,e1⟩:=cm.mp a;obtain⟨h2,e2⟩:=cm.mp b;exact(List.getElem_inj hN).mp (e1.trans e2.symm)
theorem OI {M:Model} {A:Around} {E:Value->Shared->Prop} {i:Nat} {x:Str} {v:V} {u:Value} {Q:Unit->Shared->Prop} (I:AI X pins σ H s) (hN:X.N.Nodup) (hi:X.N[i]?=some x) (hx:HX X.env.scope x) (r:Ae v u)
  (h:∀s',AI X pins (σ.set i (some v)) H s'->(∃a,Heap.SameBut a s.heap s'.heap/\(a=X.env.locals\/X.env.cells.lookup x=some a))->Q () s') (hf:X.fn x=true\/X.env.scope.names.lookup x=some .local:=by first | exact .inl rfl | exact .inr rfl | assumption):wpAny M A (storeName X.env x u) Q E s:=by
 obtain⟨m,hn,hl⟩:=id I.Co;have hcls:(X.env.scope.kind == .class || (X.env.scope.kind == .module && X.env.locals != X.env.globals))=false:=by rw[I.ok.kind]; rfl
 have hiσ:i<σ.length:=by rw[I.len]; exact(cm.mp hi).1
 have cne:=I.cne;have tracked:∀{a:Addr} {h':Heap},(∃o,s.heap.get? a=some o/\H a=none)->Heap.SameBut a s.heap h'->BN X.prog X.w H h':=λ{a h'} ha hs b ob e=>by
  obtain⟨_,_,hfree⟩:=ha;refine(I.hok b ob e).FT (λc w' hc q=>(hs.2 c ?_).trans q) (λ_ q=>q) λ_ _ q=>q
  rintro rfl;rcases hc with rfl | hc
  ·rw[hfree] at e; cases e
  ·rw[hfree] at hc; cases hc
 rcases hx with hk | hk
 ·refine wpAny_storeName_local hk hn (λh' hn' hs=>?_) hcls;obtain⟨oL,_,_,hoL,_⟩:=id hn;refine h _ ⟨I.ok,I.os,I.bare,⟨λb o e n hb hx=>?_,λb o e n hb hx=>?_,I.base.free,λb o e hx=>?_,I.base.tups,I.base.frzs,I.base.tbls⟩,⟨_,hn',λj y v' e1 e2 e3=>?_⟩,λy c e=>?_,I.free,I.Dw,λp hp=>?_,tracked ⟨oL,hoL,I.free⟩ hs,by simpa using I.len⟩ ⟨_,hs,.inl rfl⟩
  ·exact(hs.2 b (c8 (dy (cV e) I.ok.above))).trans (I.base.keep b o e n hb hx)
  ·obtain⟨sl,e1⟩:=I.base.slot b o e n hb hx;exact⟨sl,(hs.2 b (c8 (dy (cV e) I.ok.above))).trans e1⟩
  ·obtain⟨o',e1⟩:=I.base.there b o e hx;exact⟨o',(hs.2 b (c8 (dy (cV e) I.ok.above))).trans e1⟩
  ·by_cases hj:j=i
   ·subst hj;rw[hi] at e1; cases e1;rw[List.getElem?_set_self hiσ] at e2;cases e2;exact⟨u,r,.inl ⟨hk,by simp⟩⟩
   ·rw[List.getElem?_set_ne (eK hj)] at e2;obtain⟨u',r',q⟩:=hl j y v' e1 e2 e3;refine⟨u',r',?_⟩;rcases q with ⟨k,e⟩ | ⟨k,c,e,z⟩
    ·refine .inl ⟨k,?_⟩
     have:y≠x:=λe=>hj (PX hN e1 (e ▸ hi))
     simp[this,e]
    ·exact .inr ⟨k,c,e,z.sameBut hs (cne y c e)⟩
  ·obtain⟨w',z⟩:=I.cell y c e;exact⟨w',z.sameBut hs (cne y c e)⟩
  ·obtain⟨e,n,ne,nf,d⟩:=I.pin p hp;exact⟨(hs.2 p.1 ne).trans e,n,ne,nf,d⟩
 ·have hfn:X.fn x=true:=by
   rcases hf with z | z
   ·exact z
   ·rw[z] at hk; cases hk
  obtain⟨c,hc⟩:=I.ok.has x (.inl hk);obtain⟨w',z⟩:=I.cell x c hc;refine wpAny_storeName_cell I.ok.kind hk hc z (λh' hc' hs=>?_);obtain⟨oc,hoc,hocd⟩:=id z;refine h { s with heap:=h' } ⟨I.ok,I.os,I.bare,⟨λb o e n hb hx=>?_,λb o e n hb hx=>?_,I.base.free,λb o e hx=>?_,I.base.tups,I.base.frzs,I.base.tbls⟩,⟨m,hn.sameBut hs (eK (cne x c hc)),λj y v' e1 e2 e3=>?_⟩,λy c' e=>?_,I.free,I.Dw,λp hp=>?_,tracked ⟨oc,hoc,I.Dw x c hc⟩ hs,by simpa using I.len⟩ ⟨c,hs,.inr hc⟩
  ·exact(hs.2 b (c8 (dy (cV e) (I.ok.Jh x c hfn hc)))).trans (I.base.keep b o e n hb hx)
  ·obtain⟨sl,e1⟩:=I.base.slot b o e n hb hx;exact⟨sl,(hs.2 b (c8 (dy (cV e) (I.ok.Jh x c hfn hc)))).trans e1⟩
  ·obtain⟨o',e1⟩:=I.base.there b o e hx;exact⟨o',(hs.2 b (c8 (dy (cV e) (I.ok.Jh x c hfn hc)))).trans e1⟩
  ·by_cases hj:j=i
   ·subst hj;rw[hi] at e1; cases e1;rw[List.getElem?_set_self hiσ] at e2;cases e2;exact⟨u,r,.inr ⟨.inl hk,c,hc,hc'⟩⟩
   ·rw[List.getElem?_set_ne (eK hj)] at e2;obtain⟨u',r',q⟩:=hl j y v' e1 e2 e3;refine⟨u',r',?_⟩;rcases q with q | ⟨k,c',e,z'⟩
    ·exact .inl q
    ·refine .inr ⟨k,c',e,z'.sameBut hs ?_⟩;rintro rfl;exact hj (PX hN e1 (I.ok.inj _ _ _ e hc ▸ hi))
  ·by_cases hcc:c'=c
   ·subst hcc; exact⟨_,hc'⟩
   ·obtain⟨w2,z2⟩:=I.cell y c' e;exact⟨w2,z2.sameBut hs hcc⟩
  ·obtain⟨e,n,ne,nf,d⟩:=I.pin p hp;refine⟨(hs.2 p.1 ?_).trans e,n,ne,nf,d⟩;intro q;rw[q,hoc] at e;have q':oc=p.2:=Option.some.inj e;exact d w' (by rw[<-q']; exact hocd)
theorem J2 {M:Model} {A:Around} {E:Value->Shared->Prop} {i:Nat} {x:Str} {v:V} {u:Value} {Q:Unit->Shared->Prop} (I:AI X pins σ H s) (hN:X.N.Nodup) (hi:X.N[i]?=some x) (hx:HX X.env.scope x) (r:Ae v u)
  (h:∀s',AI X pins (σ.set i (some v)) H s'->Q () s') (hf:X.fn x=true\/X.env.scope.names.lookup x=some .local:=by first | exact .inl rfl | exact .inr rfl | assumption):wpAny M A (storeName X.env x u) Q E s :=
 OI I hN hi hx r (λs' I' _=>h s' I') hf
theorem AI.aF {s':Shared} {ch:List Addr} (I:AI X pins σ H s) (ho:s'.os=s.os) (u:Un (E9 X.stack) ch H H' s.heap s'.heap) (hok:BN X.prog X.w H' s'.heap) (hg:AllBare s'.gens)
  (hch:∀b∈ch,(b∈X.ex\/X.s₀.heap.objs.size<=b)/\b≠X.env.locals/\(∀x c,X.env.cells.lookup x=some c->c≠b)/\∀p∈X.pn++pins,p.1≠b):AI X pins σ H' s':=by
 obtain⟨h',g',d',t',o'⟩:=s';have e:o'=s.os:=ho;subst e;exact I.call (g':=g') (t':=t') (d':=d') u hok hg hch
end
abbrev XK:=Value->Option Addr->Hp->Prop
abbrev St:=List (Option V)
abbrev VK:=V->Hp->Prop
abbrev TE:=St->Hp->VK->Prop
abbrev TT:=St->Hp->(Bool->Hp->Prop)->Prop
abbrev TA:=St->Hp->(List V->Hp->Prop)->Prop
structure ET where
 nx:St->Hp->Prop
 rt:VK
 bk:St->Hp->Prop:=λ_ _=>False
 ct:St->Hp->Prop:=λ_ _=>False
abbrev TS:=ET->St->Hp->Prop
def EP(X:Cx)(pins:List (Addr×Obj))(σ:St)(Q:VK)(u:Value)(s':Shared):Prop:=∃v H',AI X pins σ H' s'/\Ae v u/\Q v H'
def TP(X:Cx)(pins:List (Addr×Obj))(σ:St)(Q:Bool->Hp->Prop)(b:Bool)(s':Shared):Prop:=∃H',AI X pins σ H' s'/\Q b H'
def AP(X:Cx)(pins:List (Addr×Obj))(σ:St)(Q:List V->Hp->Prop)(us:List Value)(s':Shared):Prop:=∃vs H',AI X pins σ H' s'/\AX vs us/\Q vs H'
def SP(X:Cx)(pins:List (Addr×Obj))(D:ET)(f:Flow)(s':Shared):Prop :=
 match f with
 | .next=>∃σ' H',AI X pins σ' H' s'/\D.nx σ' H'
 | .brk=>∃σ' H',AI X pins σ' H' s'/\D.bk σ' H'
 | .cont=>∃σ' H',AI X pins σ' H' s'/\D.ct σ' H'
 | .ret u=>∃v σ' H',AI X pins σ' H' s'/\Ae v u/\D.rt v H'
def PE(X:Cx)(e:Expr)(t:TE):Prop :=
 ∀(pins:List (Addr×Obj)) (s:Shared) (σ:St) (H:Hp) (Q:VK),AI X pins σ H s->t σ H Q->wpAny (model X.prog X.w) X.A (eval e X.env) (EP X pins σ Q) X.xe s
def PT(X:Cx)(e:Expr)(t:TT):Prop :=
 ∀(pins:List (Addr×Obj)) (s:Shared) (σ:St) (H:Hp) (Q:Bool->Hp->Prop),AI X pins σ H s->t σ H Q->wpAny (model X.prog X.w) X.A (isTrue e X.env (eval e X.env)) (TP X pins σ Q) X.xe s
def PW(X:Cx)(e:Expr)(t:TT):Prop :=
 ∀(whole:Sem Value) (pins:List (Addr×Obj)) (s:Shared) (σ:St) (H:Hp) (Q:Bool->Hp->Prop),AI X pins σ H s->t σ H Q->wpAny (model X.prog X.w) X.A (isTrue e X.env whole) (TP X pins σ Q) X.xe s
theorem PW.pt{X:Cx}{e:Expr}{t:TT}(h:PW X e t):PT X e t:=h _
def PA(X:Cx)(es:List Expr)(t:TA):Prop :=
 ∀(pos:Pos) (pins:List (Addr×Obj)) (s:Shared) (σ:St) (H:Hp) (Q:List V->Hp->Prop),AI X pins σ H s->t σ H Q->wpAny (model X.prog X.w) X.A (spliced (backTo pos (starEach es X.env))) (AP X pins σ Q) X.xe s
def PS(X:Cx)(st:Stmt)(t:TS):Prop :=
 ∀(pins:List (Addr×Obj)) (s:Shared) (σ:St) (H:Hp) (D:ET),AI X pins σ H s->t D σ H->wpAny (model X.prog X.w) X.A (exec st X.env) (SP X pins D) X.xe s
def Bu(X:Cx)(st:List Stmt)(t:TS):Prop :=
 ∀(pins:List (Addr×Obj)) (s:Shared) (σ:St) (H:Hp) (D:ET),AI X pins σ H s->t D σ H->wpAny (model X.prog X.w) X.A (execs st X.env) (SP X pins D) X.xe s
theorem AZ{α:Type}{t:Sem α}{Q Q':α->Shared->Prop}{M:Model}{A:Around}{E:Value->Shared->Prop}{s:Shared}(h:wpAny M A t Q E s)(hQ:∀a s,Q a s->Q' a s):wpAny M A t Q' E s:=wpAny_mono h hQ λ_ _ x=>x
section
variable {X:Cx}
inductive Sy(i:Nat)(σ:St)(H:Hp)(Q:VK):Prop
 | mk (v:V) (e:σ[i]?=some (some v)) (q:Q v H):Sy i σ H Q
def Au(i:Nat):TE:=λσ H Q=>Sy i σ H Q
inductive NV(x:V)(H:Hp)(Q:Bool->Hp->Prop):Prop
 | mk (c:Bool) (e:x=.bl c) (q:Q c H):NV x H Q
def tC(v:V):TE:=λ_ H Q=>Q v H
theorem Yb{i:Nat}{x:Str}{pos:Pos}(hN:X.N[i]?=some x)(hv:Nb X.env.scope x)(hd:(x == ("__debug__":Str))=false:=by decide)(hcd:(x == ("__classdict__":Str))=false:=by decide):PE X (.Name x pos) (Au i):=by
 intro pins s σ H Q I h;obtain⟨v,e,h⟩:=h;obtain⟨m,hn,hl⟩:=I.Co;obtain⟨u,r,l⟩:=hl i x v hN e hv;have fin:EP X pins σ Q u s:=⟨v,H,I,r,h⟩;rcases l with ⟨hk,hm⟩ | ⟨hk,c,hc,hcell⟩
 ·exact wpAny_Name (wpAny_loadName_local I.ok.kind hk hn hm fin) hd
 ·rcases hk with hk | hk
  ·exact wpAny_Name (wpAny_loadName_cell I.ok.kind hk hc hcell fin) hd
  ·exact wpAny_Name (wpAny_loadName_free I.ok.kind hk hc hcell fin hcd) hd
theorem AH{i j pos}:PE X (.Constant (.int i) j pos) (tC (.int i)):=λ_ _ _ H _ I h=>wpAny_Constant_int ⟨.int i,H,I.Cn _,⟨_,rfl⟩,h⟩
theorem MS{b j pos}:PE X (.Constant (.bool b) j pos) (tC (.bl b)):=λ_ _ _ H _ I h=>Constant_bool ⟨.bl b,H,I,rfl,h⟩
theorem MH{j pos}:PE X (.Constant .none j pos) (tC .Aj):=λ_ _ _ H _ I h=>Constant_none ⟨.Aj,H,I,rfl,h⟩
theorem GK{x j pos}:PE X (.Constant (.str x) j pos) (tC (.str x)):=λ_ _ _ H _ I h=>Calls.Constant_str ⟨.str x,H,I.Cn _,⟨_,rfl⟩,h⟩
def Gl(X:Cx)(x:Str):Prop:=X.env.kindOf x=some .globalImplicit
theorem XU {E:Value->Shared->Prop} {pins:List (Addr×Obj)} {s:Shared} {σ:St} {H:Hp} {x:Str} {u:Value} {pos:Pos} {Q:Value->Shared->Prop} (I:AI X pins σ H s) (hg:Gl X x) (hm:X.mg x=some u) (h:Q u s)
  (hd:(x == ("__debug__":Str))=false:=by decide):wpAny (model X.prog X.w) X.A (eval (.Name x pos) X.env) Q E s :=
 Calls.Name_function_global I.ok.kind hg (Calls.loadGlobal_global (by rw[I.ok.Dg]; exact I.CH.Dg.keeps I.bk) hm h) hd
theorem Dt {E:Value->Shared->Prop} {pins:List (Addr×Obj)} {s:Shared} {σ:St} {H:Hp} {x:Str} {u:Value} {pos:Pos} {Q:Value->Shared->Prop} (I:AI X pins σ H s) (hg:Gl X x) (hm:X.mg x=none) (hv:bootBuiltins x=some u) (h:Q u s)
  (hn:x≠"__name__":=by decide) (hd:(x == ("__debug__":Str))=false:=by decide):wpAny (model X.prog X.w) X.A (eval (.Name x pos) X.env) Q E s:=by
 obtain⟨mb,h1,h2⟩:=I.CH.Ia;exact Calls.Name_function_global I.ok.kind hg (Calls.loadGlobal_builtin (by rw[I.ok.Dg]; exact I.CH.Dg.keeps I.bk) hm (by rw[I.ok.Ia]; exact h1.keeps I.bk) ((h2 x hn).trans hv) h) hd
theorem KU{x:Str}{v:V}{u:Value}{pos:Pos}(hg:Gl X x)(hm:X.mg x=none)(hv:bootBuiltins x=some u)(r:Ae v u)(hn:x≠"__name__":=by decide)(hd:(x == ("__debug__":Str))=false:=by decide):PE X (.Name x pos) (tC v) :=
 λ_ _ _ H _ I h=>Dt I hg hm hv ⟨v,H,I,r,h⟩ hn hd
variable {a b:Expr} {ta tb:TE} {pos:Pos}
def PC(X:Cx)(op:CmpOp)(a b:Expr)(t:TE):Prop :=
 ∀(pins:List (Addr×Obj)) (s:Shared) (σ:St) (H:Hp) (Q:VK),AI X pins σ H s->t σ H Q →
  wpAny (model X.prog X.w) X.A (eval a X.env) (λv s₁=>wpAny (model X.prog X.w) X.A (eval b X.env) (λu s₂=>wpAny (model X.prog X.w) X.A (compareOp op v u) (EP X pins σ Q) X.xe s₂) X.xe s₁) X.xe s
theorem nobehind(b:Expr){op:CmpOp}(h:op≠.In)(h2:op≠.NotIn):behindInMarks op b=false:=by
 have e1:(op == CmpOp.In)=false:=by cases op <;> first | rfl | exact absurd rfl h
 have e2:(op == CmpOp.NotIn)=false:=by cases op <;> first | rfl | exact absurd rfl h2
 cases b <;> simp[behindInMarks,e1,e2]
def Zr(ta:TE):TE:=λσ H Q=>ta σ H λx H1=>Q (.bl (!decide (x=.Aj))) H1
theorem Ae.Wz{x:V}{v:Value}(r:Ae x v):(v == Value.none)=decide (x=.Aj):=by
 cases x with
 | Aj=>cases r; rfl
 | bl _=>cases r; rfl
 | int _=>obtain⟨t,rfl⟩:=r; rfl
 | str _=>obtain⟨t,rfl⟩:=r; rfl
 | Dm _=>obtain⟨t,rfl⟩:=r; rfl
 | Hd _=>obtain⟨t,rfl⟩:=r; rfl
 | ref _=>cases r; rfl
 | ty _=>cases r; rfl
theorem Qc{j pos'}(ha:PE X a ta):PC X .IsNot a (.Constant .none j pos') (Zr ta):=by
 intro pins s σ H Q I h;refine AZ (ha pins s σ H _ I h) λv s1 ⟨x,H1,I1,r1,q1⟩=>?_
 exact Constant_none (isnot_none_gen ⟨.bl _,H1,I1,by rw[r1.Wz]; rfl,q1⟩)
def tB(t:TE):TT:=λσ H Q=>t σ H λx H1=>NV x H1 Q
theorem MN{op:CmpOp}{t:TE}(h:PC X op a b t)(h1:behindInMarks op b=false:=by first | exact nobehind _ (by decide) (by decide) | rfl):PT X (.Compare a [op] [b] pos) (tB t):=by
 intro pins s σ H Q I hw;refine wpAny_isTrue_Compare1 (AZ (h pins s σ H _ I hw) λv s1 h1=>AZ h1 λu s2 h2=>AZ h2 λc s3 ⟨x,H1,I1,r1,q1⟩=>?_) h1;obtain⟨d,rfl,q⟩:=q1;cases r1;exact wpAny_truthy_bool ⟨H1,I1,q⟩
theorem EK{e:Expr}{t:TE}(h:PE X e t)(he:∀whole,isTrue e X.env whole=(do let v <-whole; standAt e.pos; holding [v] (truthy v)):=by intro _; rfl):PT X e (tB t):=by
 intro pins s σ H Q I hw;refine isTrue_plain (AZ (h pins s σ H _ I hw) λv s1 ⟨x,H1,I1,r1,q1⟩=>?_) (he _);obtain⟨d,rfl,q⟩:=q1;cases r1;exact wpAny_truthy_bool ⟨H1,I1,q⟩
variable {tA tB':TT} {rest:List Expr}
def av(t u:TT):TT:=λσ H Q=>t σ H λc H1=>if c=true then u σ H1 Q else Q false H1
def cG(t u:TT):TT:=λσ H Q=>t σ H λc H1=>if c=true then Q true H1 else u σ H1 Q
def SX(t:TT):TT:=λσ H Q=>t σ H λc H1=>Q (!c) H1
theorem HA(ha:PT X a tA):PW X (.BoolOp .And [a] pos) tA:=by
 intro wh pins s σ H Q I h;refine isTrue_and (AZ (ha pins s σ H Q I h) λc s1 e=>?_);cases c with
 | true=>exact isTrue_and_nil e
 | false=>exact e
theorem Ke(ha:PT X a tA):PW X (.BoolOp .Or [a] pos) tA:=by
 intro wh pins s σ H Q I h;refine isTrue_or (AZ (ha pins s σ H Q I h) λc s1 e=>?_);cases c with
 | false=>exact isTrue_or_nil e
 | true=>exact e
theorem DY(ha:PT X a tA)(hb:PW X (.BoolOp .And (b :: rest) pos) tB'):PW X (.BoolOp .And (a :: b :: rest) pos) (av tA tB'):=by
 intro wh pins s σ H Q I h;refine isTrue_and (AZ (ha pins s σ H _ I h) λc s1 ⟨H1,I1,q1⟩=>?_);cases c with
 | true=>exact hb wh pins s1 σ H1 Q I1 q1
 | false=>exact⟨H1,I1,q1⟩
theorem Fw(ha:PT X a tA)(hb:PW X (.BoolOp .Or (b :: rest) pos) tB'):PW X (.BoolOp .Or (a :: b :: rest) pos) (cG tA tB'):=by
 intro wh pins s σ H Q I h;refine isTrue_or (AZ (ha pins s σ H _ I h) λc s1 ⟨H1,I1,q1⟩=>?_);cases c with
 | true=>exact⟨H1,I1,q1⟩
 | false=>exact hb wh pins s1 σ H1 Q I1 q1
theorem Fq(ha:PT X a tA):PT X (.UnaryOp .Not a pos) (SX tA):=by
 intro pins s σ H Q I h;exact isTrue_not (ha pins s σ H (λc H1=>Q (!c) H1) I h)
def ZN(ta tb:TE):TE:=λσ H Q=>ta σ H λx H1=>∃c,x=.bl c/\if c=true then tb σ H1 Q else Q (.bl false) H1
def aY(ta tb:TE):TE:=λσ H Q=>ta σ H λx H1=>∃c,x=.bl c/\if c=true then Q (.bl true) H1 else tb σ H1 Q
def Zx(ta:TE):TE:=λσ H Q=>ta σ H λx H1=>∃c,x=.bl c/\Q (.bl (!c)) H1
theorem JA{op}{t:TE}(h:PE X a t):PE X (.BoolOp op [a] pos) t:=λpins s σ H Q I hw=>BoolOp_one (h pins s σ H Q I hw)
theorem Kg(ha:PE X a ta)(hb:PE X (.BoolOp .And (b :: rest) pos) tb):PE X (.BoolOp .And (a :: b :: rest) pos) (ZN ta tb):=by
 intro pins s σ H Q I h;refine BoolOp_and (AZ (ha pins s σ H _ I h) λv s1 ⟨x,H1,I1,r1,q1⟩=>?_);obtain⟨c,rfl,q1⟩:=q1;cases r1;refine wpAny_truthy_bool ?_;cases c with
 | true=>exact hb pins s1 σ H1 Q I1 q1
 | false=>exact⟨.bl false,H1,I1,rfl,q1⟩
theorem MW(ha:PE X a ta)(hb:PE X (.BoolOp .Or (b :: rest) pos) tb):PE X (.BoolOp .Or (a :: b :: rest) pos) (aY ta tb):=by
 intro pins s σ H Q I h;refine BoolOp_or (AZ (ha pins s σ H _ I h) λv s1 ⟨x,H1,I1,r1,q1⟩=>?_);obtain⟨c,rfl,q1⟩:=q1;cases r1;refine wpAny_truthy_bool ?_;cases c with
 | false=>exact hb pins s1 σ H1 Q I1 q1
 | true=>exact⟨.bl true,H1,I1,rfl,q1⟩
theorem YE(ha:PE X a ta):PE X (.UnaryOp .Not a pos) (Zx ta):=by
 intro pins s σ H Q I h;refine UnaryOp_ (AZ (ha pins s σ H _ I h) λv s1 ⟨x,H1,I1,r1,q1⟩=>?_);obtain⟨c,rfl,q1⟩:=q1;cases r1;exact not_of (wpAny_truthy_bool ⟨.bl (!c),H1,I1,rfl,q1⟩)
def cA(t:TT)(ta tb:TE):TE:=λσ H Q=>t σ H λc H1=>if c=true then ta σ H1 Q else tb σ H1 Q
theorem Vz{c:Expr}(hc:PT X c tA)(ha:PE X a ta)(hb:PE X b tb):PE X (.IfExp c a b pos) (cA tA ta tb):=by
 intro pins s σ H Q I h;refine wpAny_IfExp (AZ (hc pins s σ H _ I h) λd s1 ⟨H1,I1,q1⟩=>?_);cases d with
 | true=>exact ha pins s1 σ H1 Q I1 q1
 | false=>exact hb pins s1 σ H1 Q I1 q1
end
def AJ(K:PySem.W.Frag)(H:Hp)(a:Addr)(xs:List V):Prop :=
 Rd H a (.AD xs) \/
  ∃(o:Obj) (its:Array Value) (n:Nat),K.lookup a=some o/\o.cls=.type "list"/\o.dict=none/\o.data=.seq its n/\its.size<=sizeLine/\AX xs its.toList
def AO(K:PySem.W.Frag)(H:Hp)(a:Addr)(xs:List V):Prop :=
 Rd H a (.AF xs) \/
  ∃(o:Obj) (its:Array Value) (n:Nat),K.lookup a=some o/\o.cls=.type "tuple"/\o.data=.seq its n/\its.size<=sizeLine/\AX xs its.toList
def bS:Value->Option V
 | .none=>some .Aj
 | .bool b=>some (.bl b)
 | .int i _=>some (.int i)
 | .str x _=>some (.str x)
 | .bytes b _=>some (.Dm b)
 | .float b _=>some (.Hd b)
 | .ref a=>some (.ref a)
 | .type n=>some (.ty n)
 | _=>none
theorem Ae.TR{x:V}{u:Value}(r:Ae x u):bS u=some x:=by
 cases x with
 | Aj=>cases r; rfl
 | bl _=>cases r; rfl
 | int _=>obtain⟨t,rfl⟩:=r; rfl
 | str _=>obtain⟨t,rfl⟩:=r; rfl
 | Dm _=>obtain⟨t,rfl⟩:=r; rfl
 | Hd _=>obtain⟨t,rfl⟩:=r; rfl
 | ref _=>cases r; rfl
 | ty _=>cases r; rfl
theorem Ae.inj{x y:V}{u:Value}(r:Ae x u)(q:Ae y u):x=y:=Option.some.inj (r.TR.symm.trans q.TR)
theorem AX.inj:∀{xs ys:List V} {us:List Value},AX xs us->AX ys us->xs=ys
 | _,_,_,.nil,.nil=>rfl
 | _,_,_,.cons r t,.cons r' t'=>by rw[r.inj r',AX.inj t t']
section
variable {X:Cx} {pins:List (Addr×Obj)} {σ:St} {H:Hp} {s:Shared} {a:Addr} {xs ys:List V}
theorem AJ.of{K:PySem.W.Frag}(h:H a=some (.AD xs)):AJ K H a xs:=.inl (.inl h)
theorem AO.of{K:PySem.W.Frag}(h:H a=some (.AF xs)):AO K H a xs:=.inl (.inl h)
theorem AI.list(I:AI X pins σ H s)(h:AJ X.K H a xs):∃its:List Value,AX xs its/\PlainL s.heap a its.toArray/\xs.length<=sizeLine:=by
 rcases h with h | ⟨o,its,n,hk,hc,hd,hs,hz,r⟩
 ·obtain⟨z,its,n,r,e⟩:=h.ok I.hok;exact⟨its,r,⟨_,n,e,rfl,rfl,rfl⟩,z⟩
 ·refine⟨its.toList,r,⟨o,n,I.Cz a o hk,hc,hd,by simpa using hs⟩,?_⟩;have e:=r.length;simp only[dw] at e;omega
theorem AI.tuple(I:AI X pins σ H s)(h:AO X.K H a xs):∃its:List Value,AX xs its/\IsTup s.heap a its.toArray/\xs.length<=sizeLine:=by
 rcases h with h | ⟨o,its,n,hk,hc,hs,hz,r⟩
 ·obtain⟨z,its,r,p,_⟩:=h.ok I.hok;exact⟨its,r,p,z⟩
 ·refine⟨its.toList,r,⟨o,I.Cz a o hk,hc,n,by simpa using hs⟩,?_⟩;have e:=r.length;simp only[dw] at e;omega
theorem AI.list_inj(I:AI X pins σ H s)(h:AJ X.K H a xs)(h':AJ X.K H a ys):xs=ys:=by
 obtain⟨its,r,⟨o,n,e,_,_,d⟩,_⟩:=I.list h;obtain⟨its',r',⟨o',n',e',_,_,d'⟩,_⟩:=I.list h';rw[e] at e'; cases e';rw[d] at d';injection d' with d1 _
 have:its=its':=by simpa using congrArg Array.toList d1
 subst this;exact r.inj r'
theorem AI.Ol(I:AI X pins σ H s)(h:AO X.K H a xs)(h':AO X.K H a ys):xs=ys:=by
 obtain⟨its,r,⟨o,e,_,n,d⟩,_⟩:=I.tuple h;obtain⟨its',r',⟨o',e',_,n',d'⟩,_⟩:=I.tuple h';rw[e] at e'; cases e';rw[d] at d';injection d' with d1 _
 have:its=its':=by simpa using congrArg Array.toList d1
 subst this;exact r.inj r'
end
abbrev Cx.EV(X:Cx)(E:Value->Shared->Prop):Cx:={ X with xe:=E }
abbrev Cx.Fb(X:Cx):Cx:=X.EV λ_ _=>False
theorem Cx.Ok.EV{X:Cx}(ok:X.Ok)(E:Value->Shared->Prop):(X.EV E).Ok :=
 ⟨ok.CH,ok.kind,ok.Dg,ok.Ia,ok.above,ok.inj,ok.has,ok.Jh,ok.hd,ok.frames,ok.LN,ok.Tp,ok.bs,ok.E4,ok.Jb,ok.JZ,ok.D2,ok.Gn⟩
theorem Cx.Ok.FI{X:Cx}{E:Value->Shared->Prop}(ok:(X.EV E).Ok):X.Ok :=
 ⟨ok.CH,ok.kind,ok.Dg,ok.Ia,ok.above,ok.inj,ok.has,ok.Jh,ok.hd,ok.frames,ok.LN,ok.Tp,ok.bs,ok.E4,ok.Jb,ok.JZ,ok.D2,ok.Gn⟩
section
variable {X:Cx} {pins:List (Addr×Obj)} {σ:St} {H:Hp} {s:Shared} {E:Value->Shared->Prop}
theorem AI.EV(I:AI X pins σ H s)(E:Value->Shared->Prop):AI (X.EV E) pins σ H s:=⟨I.ok.EV E,I.os,I.bare,I.base,I.Co,I.cell,I.free,I.Dw,I.pin,I.hok,I.len⟩
theorem AI.FI(I:AI (X.EV E) pins σ H s):AI X pins σ H s:=⟨I.ok.FI,I.os,I.bare,I.base,I.Co,I.cell,I.free,I.Dw,I.pin,I.hok,I.len⟩
theorem SP.FI{D:ET}{f:Flow}{s':Shared}(h:SP (X.EV E) pins D f s'):SP X pins D f s':=by
 cases f with
 | next=>obtain⟨σ',H',I,q⟩:=h; exact⟨σ',H',I.FI,q⟩
 | brk=>obtain⟨σ',H',I,q⟩:=h; exact⟨σ',H',I.FI,q⟩
 | cont=>obtain⟨σ',H',I,q⟩:=h; exact⟨σ',H',I.FI,q⟩
 | ret u=>obtain⟨v,σ',H',I,r,q⟩:=h; exact⟨v,σ',H',I.FI,r,q⟩
theorem PE.Fb{e:Expr}{t:TE}(h:PE X.Fb e t):PE X e t:=λpins s σ H Q I hw =>
 wpAny_mono (h pins s σ H Q (I.EV _) hw) (λ_ _ ⟨v,H',I',r,q⟩=>⟨v,H',I'.FI,r,q⟩) λ_ _ z=>False.elim z
theorem PT.Fb{e:Expr}{t:TT}(h:PT X.Fb e t):PT X e t:=λpins s σ H Q I hw =>
 wpAny_mono (h pins s σ H Q (I.EV _) hw) (λ_ _ ⟨H',I',q⟩=>⟨H',I'.FI,q⟩) λ_ _ z=>False.elim z
theorem Bu.Fb{st:List Stmt}{t:TS}(h:Bu X.Fb st t):Bu X st t:=λpins s σ H D I hw =>
 wpAny_mono (h pins s σ H D (I.EV _) hw) (λ_ _ q=>q.FI) λ_ _ z=>False.elim z
end
section
variable {X:Cx} {st:Stmt} {rest:List Stmt} {t u:TS} {e:Expr} {te:TE} {pos:Pos}
def Zo:TS:=λD σ H=>D.nx σ H
def Mt(t u:TS):TS:=λD σ H=>t { D with nx:=u D } σ H
theorem B2:Bu X [] Zo:=λ_ _ σ H _ I h=>wpAny_execs_nil ⟨σ,H,I,h⟩
theorem AS(h1:PS X st t)(h2:Bu X rest u):Bu X (st :: rest) (Mt t u):=by
 intro pins s σ H D I h;refine wpAny_execs_cons (AZ (h1 pins s σ H { D with nx:=u D } I h) λf s1 q=>?_);cases f with
 | next =>
  obtain⟨σ',H',I',q⟩:=q;exact h2 pins s1 σ' H' D I' q
 | ret v=>exact q
 | brk=>exact q
 | cont=>exact q
theorem AU(h1:PS X st t):Bu X [st] t:=by
 intro pins s σ H D I h;refine wpAny_execs_cons (AZ (h1 pins s σ H D I h) λf s1 q=>?_);cases f with
 | next=>exact wpAny_execs_nil q
 | ret v=>exact q
 | brk=>exact q
 | cont=>exact q
theorem AI.quiet{pins:List (Addr×Obj)}{σ:St}{H:Hp}{s:Shared}(I:AI X pins σ H s):interactive X.env=false:=by simp[interactive,I.ok.kind]
def Zs(te:TE):TS:=λD σ H=>te σ H λ_ H1=>D.nx σ H1
theorem Cq(he:PE X e te)(hs:swapsWith e none pos.line X.env=pure false:=by rfl):PS X (.Expr e pos) (Zs te):=by
 intro pins s σ H D I h;exact wpAny_Expr_any (AZ (he pins s σ H _ I h) λv s1 ⟨x,H1,I1,r1,q1⟩=>⟨σ,H1,I1,q1⟩) I.quiet hs
def Mf(te:TE):TS:=λD σ H=>te σ H D.rt
theorem Ak(he:PE X e te):PS X (.Return (some e) pos) (Mf te):=by
 intro pins s σ H D I h;exact wpAny_Return_some (AZ (he pins s σ H _ I h) λv s1 ⟨x,H1,I1,r1,q1⟩=>⟨x,σ,H1,I1,r1,q1⟩)
def NS(c:TT)(t u:TS):TS:=λD σ H=>c σ H λb H1=>if b=true then t D σ H1 else u D σ H1
theorem Bk{c:Expr}{a b:List Stmt}{tc:TT}(hc:PT X c tc)(ha:Bu X a t)(hb:Bu X b u):PS X (.If c a b pos) (NS tc t u):=by
 intro pins s σ H D I h;refine wpAny_If (AZ (hc pins s σ H _ I h) λd s1 ⟨H1,I1,q1⟩=>?_);cases d with
 | true=>exact ha pins s1 σ H1 D I1 q1
 | false=>exact hb pins s1 σ H1 D I1 q1
def Qg:TS:=λ_ _ _=>False
theorem PB:PS X st Qg:=λ_ _ _ _ _ _ h=>h.elim
theorem Jr{sts:List Stmt}:Bu X sts Qg:=λ_ _ _ _ _ _ h=>h.elim
end
abbrev TG:=V->St->Hp->(St->Hp->Prop)->Prop
abbrev D9:=List V->St->Hp->(St->Hp->Prop)->Prop
def PG(X:Cx)(target:Expr)(t:TG):Prop :=
 ∀(pins:List (Addr×Obj)) (s:Shared) (σ:St) (H:Hp) (v:V) (u:Value) (Q:St->Hp->Prop),AI X pins σ H s->Ae v u->t v σ H Q →
  wpAny (model X.prog X.w) X.A (assign target X.env u) (λ_ s'=>∃σ' H',AI X pins σ' H' s'/\Q σ' H') X.xe s
def Hn(X:Cx)(ts:List Expr)(t:D9):Prop :=
 ∀(pins:List (Addr×Obj)) (s:Shared) (σ:St) (H:Hp) (vs:List V) (us:List Value) (Q:St->Hp->Prop),AI X pins σ H s->AX vs us->t vs σ H Q →
  wpAny (model X.prog X.w) X.A (assignInOrder ((assignEach ts X.env).map (·.2)) us) (λ_ s'=>∃σ' H',AI X pins σ' H' s'/\Q σ' H') X.xe s
abbrev Mh:=V->V->V->Hp->(Hp->Prop)->Prop
def Si(X:Cx)(t:Mh):Prop :=
 ∀(pins:List (Addr×Obj)) (s:Shared) (σ:St) (H:Hp) (o i v:V) (ov iv u:Value) (Q:Hp->Prop),AI X pins σ H s->Ae o ov->Ae i iv->Ae v u->t o i v H Q →
  wpAny (model X.prog X.w) X.A (setItem ov iv u) (λ_ s'=>∃H',AI X pins σ H' s'/\Q H') X.xe s
section
variable {X:Cx} {pos:Pos}
def BG(i:Nat):TG:=λv σ H Q=>Q (σ.set i (some v)) H
theorem AV{i:Nat}{x:Str}(hN:X.N.Nodup)(hi:X.N[i]?=some x)(hx:HX X.env.scope x)(hf:X.fn x=true\/X.env.scope.names.lookup x=some .local:=by first | exact .inl rfl | exact .inr rfl | assumption):PG X (.Name x pos) (BG i):=by
 intro pins s σ H v u Q I r h;exact wpAny_assign_Name (J2 I hN hi hx r (λs' I'=>⟨_,H,I',h⟩) hf)
inductive Ry(vs:List V)(σ:St)(H:Hp)(Q:St->Hp->Prop):Prop
 | mk (e:vs=[]) (q:Q σ H):Ry vs σ H Q
def K2:D9:=λvs σ H Q=>Ry vs σ H Q
inductive RK(t:TG)(u:D9)(vs:List V)(σ:St)(H:Hp)(Q:St->Hp->Prop):Prop
 | mk (v:V) (r:List V) (e:vs=v :: r) (q:t v σ H λσ' H'=>u r σ' H' Q):RK t u vs σ H Q
def HK(t:TG)(u:D9):D9:=λvs σ H Q=>RK t u vs σ H Q
theorem CS:Hn X [] K2:=by
 intro pins s σ H vs us Q I r h;obtain⟨e,h⟩:=h;subst e;cases r;exact assignInOrder_nil ⟨σ,H,I,h⟩
theorem Ai {e:Expr} {es:List Expr} {t:TG} {u:D9} (h1:PG X e t) (h2:Hn X es u)
  (hs:(assignEach (e :: es) X.env).map (·.2)=assign e X.env :: (assignEach es X.env).map (·.2):=by rfl):Hn X (e :: es) (HK t u):=by
 intro pins s σ H vs us Q I r h;obtain⟨v,vr,e1,h⟩:=h;subst e1;cases r with
 | cons r rr =>
  rw[hs];refine assignInOrder_cons (AZ (h1 pins s σ H _ _ _ I r h) λ_ s1 ⟨σ1,H1,I1,q1⟩=>?_);exact h2 pins s1 σ1 H1 _ _ Q I1 rr q1
inductive R5(K:PySem.W.Frag)(n:Nat)(t:D9)(v:V)(σ:St)(H:Hp)(Q:St->Hp->Prop):Prop
 | mk (a:Addr) (xs:List V) (e:v=.ref a) (s:AO K H a xs) (l:xs.length=n) (q:t xs σ H Q):R5 K n t v σ H Q
def JT(K:PySem.W.Frag)(n:Nat)(t:D9):TG:=λv σ H Q=>R5 K n t v σ H Q
theorem Y1 {es:List Expr} {k:Nat} {t:D9} {n:Nat} (hc:X.BS=true) (h:Hn X es t)
  (hn:(assignEach es X.env).length=n:=by rfl) (hst:(assignEach es X.env).findIdx? (·.1)=none:=by rfl):PG X (.Tuple es k pos) (JT X.K n t):=by
 intro pins s σ H v u Q I r hw;obtain⟨a,xs,e1,hq,hl,hw⟩:=hw;subst e1;cases r;obtain⟨its,rv,ht,hz⟩:=I.tuple hq;refine assign_Tuple_tuple (I.ok.hd hc) ht (by simp[hn,<-hl,rv.length]) hst λh' hx=>?_
 have I1:AI X pins σ H { s with heap:=h' }:=I.BJ (t':=s.toks) λb o e=>hx b o (c8 (cV e)) e
 exact h pins _ σ H xs _ Q I1 (by simpa using rv) hw
def bV(to ti:TE)(t:Mh):TG:=λv σ H Q=>to σ H λo H1=>ti σ H1 λi H2=>t o i v H2 λH3=>Q σ H3
theorem YX {o i:Expr} {to ti:TE} {t:Mh} (ho:PE X o to) (hi:PE X i ti) (hs:Si X t)
  (ha:∀v,assign (.Subscript o i pos) X.env v=(do
   let ov <-holding [v] (eval o X.env)
   let iv <-holding [v,ov] (eval i X.env)
   standAt pos
   holding [v,ov,iv] (setItem ov iv v)
   release [v,ov,iv] []):=by intro _; rfl):PG X (.Subscript o i pos) (bV to ti t):=by
 intro pins s σ H v u Q I r h;rw[ha];refine wpAny_bind (wpAny_holding (AZ (ho pins s σ H _ I h) λov s1 ⟨x,H1,I1,r1,q1⟩=>?_));refine wpAny_bind (wpAny_holding (AZ (hi pins s1 σ H1 _ I1 q1) λiv s2 ⟨y,H2,I2,r2,q2⟩=>?_));refine wpAny_bind (wpAny_standAt (wpAny_bind (wpAny_holding (AZ (hs pins s2 σ H2 x y v ov iv u _ I2 r1 r2 r q2) λ_ s3 ⟨H3,I3,q3⟩=>?_))));exact wpAny_release ⟨σ,H3,I3,q3⟩
def JM(te:TE)(g:TG):TS:=λD σ H=>te σ H λx H1=>g x σ H1 D.nx
theorem Fp {tg e:Expr} {te:TE} {g:TG} (he:PE X e te) (hg:PG X tg g) (hs:swapsWithSole [tg] e pos.line X.env=pure false:=by rfl) (hw:swappedStores [tg] e X.env=pure none:=by rfl)
  (h1:(assignEach [tg] X.env).map (·.2)=[assign tg X.env]:=by rfl):PS X (.Assign [tg] e pos) (JM te g):=by
 intro pins s σ H D I h;refine wpAny_Assign_stores (AZ (he pins s σ H _ I h) λv s1 ⟨x,H1,I1,r1,q1⟩=>?_) hs hw;rw[h1];exact AZ (hg pins s1 σ H1 x v _ I1 r1 q1) λ_ s2 q=>q
theorem Aa{i:Nat}{x:Str}{e:Expr}{te:TE}{pos':Pos}(hN:X.N.Nodup)(hi:X.N[i]?=some x)(hx:HX X.env.scope x)(he:PE X e te)(hs:swapsWith e (some (.Name x pos')) pos.line X.env=pure false:=by rfl)(hf:X.fn x=true\/X.env.scope.names.lookup x=some .local:=by first | exact .inl rfl | exact .inr rfl | assumption):
  PS X (.Assign [.Name x pos'] e pos) (JM te (BG i)):=by
 intro pins s σ H D I h;refine wpAny_Assign_Name (AZ (he pins s σ H _ I h) λv s1 ⟨y,H1,I1,r1,q1⟩=>?_) hs;exact J2 I1 hN hi hx r1 (λs2 I2=>⟨_,H1,I2,q1⟩) hf
def aj(i j:Nat)(ta:TA):TS:=λD σ H=>ta σ H λvs H1=>∃v w,vs=[v,w]/\D.nx ((σ.set i (some v)).set j (some w)) H1
theorem YD {i j:Nat} {x y:Str} {a b:Expr} {ta:TA} {px py pt:Pos} {kt k2 pt2} (hc:X.BS=true) (hN:X.N.Nodup) (hi:X.N[i]?=some x) (hj:X.N[j]?=some y) (hij:i≠j)
  (hx:X.env.scope.names.lookup x=some .local) (hy:X.env.scope.names.lookup y=some .local) (ha:PA X [a,b] ta)
  (hw:swappedStores [.Tuple [.Name x px,.Name y py] kt pt] (.Tuple [a,b] k2 pt2) X.env=pure (some [x,y]))
  (hs:swapsWithSole [.Tuple [.Name x px,.Name y py] kt pt] (.Tuple [a,b] k2 pt2) pos.line X.env=pure false:=by rfl) :
  PS X (.Assign [.Tuple [.Name x px,.Name y py] kt pt] (.Tuple [a,b] k2 pt2) pos) (aj i j ta):=by
 intro pins s σ H D I h;rw[exec_Assign_arm];refine wpAny_bind (wpAny_standAt ?_);rw[hs];refine wpAny_bind (wpAny_pure ?_);rw[if_neg (by decide)];refine wpAny_bind (Tuple_ (AZ (ha _ pins s σ H _ I h) λus s1 ⟨vs,H1,I1,r1,q1⟩=>?_));obtain⟨v,w,e1,q1⟩:=q1;subst e1;obtain⟨u1,u2,rfl,rv,rw'⟩:∃u1 u2,us=[u1,u2]/\Ae v u1/\Ae w u2:=by
  cases r1 with
  | cons p q =>
   cases q with
   | cons p' q' =>
    cases q';exact⟨_,_,rfl,p,p'⟩
 refine wpAny_newObj_type ?_ (by show 2<=sizeLine; decide);have I2:AI X pins σ H1 { s1 with heap:=s1.heap.push { cls:=.type "tuple",data:=.seq [u1,u2].toArray } }:=I1.BJ (t':=s1.toks) λb o e=>cj _ e
 rw[hw];refine wpAny_bind (wpAny_pure ?_);show wpAny (model X.prog X.w) X.A (do rule "assign.swapped-stores"; let items <-unpackItems (.ref s1.heap.objs.size) 2 none; assignInOrder [λv=>bindName X.env y v,λv=>bindName X.env x v] items.reverse; pure Flow.next) _ _ _;refine wpAny_bind (wpAny_rule (wpAny_bind (unpackItems_tuple (items:=#[u1,u2]) (I.ok.hd hc) (IsTup.new s1.heap _) λh' hx'=>?_)));have I3:=I2.BJ (h':=h') (t':=s1.toks) λb o e=>hx' b o (c8 (cV e)) e
 show wpAny _ _ (assignInOrder [λv=>bindName X.env y v,λv=>bindName X.env x v] [u2,u1] >>= λ_=>pure Flow.next) _ _ _;refine wpAny_bind (assignInOrder_cons (wpAny_bindName (J2 I3 hN hj (.inl hy) rw' (λs2 I4=>?_) (.inr hy))));refine assignInOrder_cons (wpAny_bindName (J2 I4 hN hi (.inl hx) rv (λs3 I5=>assignInOrder_nil (wpAny_pure ?_)) (.inr hx)));rw[List.set_comm _ _ (eK hij)] at I5;exact⟨_,H1,I5,q1⟩
end
section
variable {X:Cx} {pos:Pos}
def Qz(c:TT)(tb:TS):TS:=λD σ H=>∃W:Nat->St->Hp->Prop,(∃m,W m σ H)/\∀m σ H,W m σ H →
 c σ H λb H1=>if b=true then ∃N:St->Hp->Prop,(∀σ' H',N σ' H'->∃m',m' < m/\W m' σ' H')/\tb { D with nx:=N,ct:=N,bk:=D.nx } σ H1 else D.nx σ H1
theorem Oy{c:Expr}{body:List Stmt}{tc:TT}{tb:TS}(hp:PassesOwn (model X.prog X.w) X.A X.env X.xe)(hc:PT X c tc)(hb:Bu X body tb):PS X (.While c body [] pos) (Qz tc tb):=by
 intro pins s σ H D I h;obtain⟨W,⟨m0,w0⟩,turn⟩:=h;refine wpAny_While (codeAny_whileLoop (λn s'=>∃σ' H',AI X pins σ' H' s'/\W n σ' H') ?_ m0 ⟨σ,H,I,w0⟩);rintro n s1 ⟨σ1,H1,I1,w1⟩;refine wpAny_passesOwn hp (AZ (hc pins s1 σ1 H1 _ I1 (turn n σ1 H1 w1)) λb s2 ⟨H2,I2,q2⟩=>?_);cases b with
 | true =>
  obtain⟨N,hN,q2⟩:=q2;rw[if_pos rfl];refine wpAny_passesOwn hp (AZ (hb pins s2 σ1 H2 _ I2 q2) λf s3 q3=>?_);cases f with
  | next =>
   obtain⟨σ3,H3,I3,n3⟩:=q3;obtain⟨m',hm,w3⟩:=hN σ3 H3 n3;exact⟨m',hm,σ3,H3,I3,w3⟩
  | cont =>
   obtain⟨σ3,H3,I3,n3⟩:=q3;obtain⟨m',hm,w3⟩:=hN σ3 H3 n3;exact⟨m',hm,σ3,H3,I3,w3⟩
  | brk=>exact q3
  | ret v=>exact q3
 | false =>
  rw[if_neg df];exact wpAny_execs_nil ⟨σ1,H2,I2,q2⟩
end
structure It where
 go:Nat->Hp->Prop
 EB:Nat->Hp->V->Hp->Prop
 stop:Nat->Hp->Prop
def E1(X:Cx)(pins:List (Addr×Obj))(H:Hp)(b:Addr):Prop :=
 H b=none/\b≠X.env.locals/\b∉X.fs/\(b∈X.ex\/X.s₀.heap.objs.size<=b)/\(∀x c,X.env.cells.lookup x=some c->c≠b)/\∀p∈X.pn++pins,p.1≠b
theorem AI.HN{X:Cx}{pins:List (Addr×Obj)}{σ:St}{H H':Hp}{s:Shared}{b:Addr}(I:AI X pins σ H s)(hb:s.heap.objs.size<=b)(hn:H' b=none):E1 X pins H' b:=by
 refine⟨hn,fj (dy I.lt hb),I.Ss hb,.inr (dg I.sz hb),λx c e z=>?_,λp hp z=>?_⟩
 ·obtain⟨v,q⟩:=I.cell x c e;exact absurd (dy q.lt (by rw[z]; exact hb)) (fB _)
 ·exact absurd (dy (cV (I.pin p hp).1) (by rw[z]; exact hb)) (fB _)
structure HU(P:Program)(w:World)(K:PySem.W.Frag)(tg:Expr)(J:It)(fp:List Addr)(it:Addr)(tn:Nat->Heap->Prop):Prop where
 mem:it∈fp
 obj:∀i h,tn i h->∀b∈fp,∃o,h.get? b=some o/\∀v,o.data≠.cell v
 keep:∀i h h',tn i h->(∀b∈fp,∀o,h.get? b=some o->h'.get? b=some o)->tn i h'
 item:∀(X:Cx),X.prog=P->X.w=w->X.K=K->X.BS=true->∀(i:Nat) (pins:List (Addr×Obj)) (s:Shared) (σ:St) (H:Hp) (E:Value->Shared->Prop),AI X pins σ H s->(∀b∈fp,E1 X pins H b)->tn i s.heap->J.go i H →
  wpAny (model P w) X.A (pyNext (.ref it)) (λr s1=>∃u,r=some u /\
   wpAny (model P w) X.A (letOwnedTupleGo tg (.ref it) u) (λ_ s2=>∃x H',AI X pins σ H' s2/\Ae x u/\J.EB i H x H'/\tn (i+1) s2.heap/\∀b∈fp,H' b=none) E s1) E s
 done:∀(X:Cx),X.prog=P->X.w=w->X.K=K->X.BS=true->∀(i:Nat) (pins:List (Addr×Obj)) (s:Shared) (σ:St) (H:Hp) (E:Value->Shared->Prop),AI X pins σ H s->(∀b∈fp,E1 X pins H b)->tn i s.heap->J.stop i H →
  wpAny (model P w) X.A (pyNext (.ref it)) (λr s1=>r=none/\AI X pins σ H s1) E s
 self:∀(A:Around) (i:Nat) (s:Shared) (Q:Value->Shared->Prop) (E:Value->Shared->Prop),tn i s.heap->Q (.ref it) s->wpAny (model P w) A (pyIter (.ref it)) Q E s
abbrev TI:=St->Hp->(It->Hp->Prop)->Prop
def Tc(X:Cx)(pins:List (Addr×Obj))(σ:St)(tg:Expr)(R:It->Hp->Prop)(itv:Value)(s2:Shared):Prop :=
 ∃(it:Addr) (fp:List Addr) (tn:Nat->Heap->Prop) (J:It) (H':Hp),itv=.ref it/\AI X pins σ H' s2/\HU X.prog X.w X.K tg J fp it tn/\tn 0 s2.heap/\(∀b∈fp,E1 X pins H' b)/\R J H'
def PI(X:Cx)(tg iter:Expr)(wi:TI):Prop :=
 ∀(pins:List (Addr×Obj)) (s:Shared) (σ:St) (H:Hp) (R:It->Hp->Prop),AI X pins σ H s->wi σ H R →
  wpAny (model X.prog X.w) X.A (eval iter X.env) (λv s1=>wpAny (model X.prog X.w) X.A (pyIter v) (Tc X pins σ tg R) X.xe s1) X.xe s
theorem Ks {M : Model} {A : Around} {E : Value → Shared → Prop} {s : Shared} {tg : Expr} {it : Addr} {u : Value} {o : Obj} {n : String} {vs : Array Value} {Q : Unit → Shared → Prop} (ho : s.heap.get? it = some o) (hc : o.cls = .type n) (hd : o.data = .fields vs)
    (hn : ["enumerate", "zip", "dict_itemiterator", "dict_reverseitemiterator", "odict_iterator", "itertools.zip_longest", "itertools.pairwise"].contains n = false) (hQ : Q () s) : wpAny M A (letOwnedTupleGo tg (.ref it) u) Q E s := by
  unfold letOwnedTupleGo;cases tg <;> first
    | exact wpAny_pure hQ
    | (cases u <;> first
        | exact wpAny_pure hQ
        | (refine wpAny_bind (wpAny_load ho ?_)
           rw[hc, hd];show wpAny M A (if (["enumerate", "zip", "dict_itemiterator", "dict_reverseitemiterator", "odict_iterator", "itertools.zip_longest", "itertools.pairwise"].contains n && vs[0]? == some (rawInt _)) = true then _ else _) Q E s;rw[if_neg (by intro h; rw[hn, Bool.false_and] at h; cases h)];exact wpAny_pure hQ))
def Ib(K:PySem.W.Frag)(a:Addr):It :=
 ⟨λi H=>∃xs x,AJ K H a xs/\xs[i]?=some x,λi H x H'=>H'=H/\∀xs,AJ K H a xs->xs[i]?=some x,λi H=>∃xs,AJ K H a xs/\xs.length<=i⟩
def IY(K:PySem.W.Frag)(a:Addr):It :=
 ⟨λi H=>∃xs x,AO K H a xs/\xs[i]?=some x,λi H x H'=>H'=H/\∀xs,AO K H a xs->xs[i]?=some x,λi H=>∃xs,AO K H a xs/\xs.length<=i⟩
def Dp(lo:Int)(n:Nat):It:=⟨λi _=>i<n,λi H x H'=>H'=H/\x=.int (lo+i),λi _=>n<=i⟩
theorem Vb{P:Program}{w:World}{K:PySem.W.Frag}{tg:Expr}(a it:Addr):HU P w K tg (Ib K a) [it] it (λi h=>h.IsListIter it a i) where
 mem:=by simp
 obj:=λi h st b hb=>by
  have e:b=it:=by simpa using hb
  subst e;obtain⟨o,e,c,d⟩:=st;exact⟨o,e,λv z=>by rw[d] at z; cases z⟩
 keep:=λi h h' st k=>st.at λo e=>k it (by simp) o e
 item:=by
  intro X hP hw hK hc i pins s σ H E I hf st hg;subst hP hw hK;obtain⟨xs,x,hq,hx⟩:=hg;obtain⟨its,rv,p,hz⟩:=I.list hq;obtain⟨u,hu,ru⟩:=rv.get hx;obtain⟨f0,f1,f2,f3,f4,f5⟩:=hf it (by simp);refine wpAny_pyNext_list_item st p.isList (x:=u) (by simpa using hu) λh' st' sb=>?_
  have I1:AI X pins σ H { s with heap:=h' }:=I.Er (t':=s.toks) (λb o hb e=>(sb.2 b hb).trans e) f0 f1 f3 f4 f5;obtain⟨o,e,c,d⟩:=id st';exact⟨u,rfl,Ks (s:={ s with heap:=h' }) e c d (by decide) ⟨x,H,I1,ru,⟨rfl,λys hy=>by rw[I.list_inj hy hq]; exact hx⟩,st',λb hb=>(hf b hb).1⟩⟩
 done:=by
  intro X hP hw hK hc i pins s σ H E I hf st hg;subst hP hw hK;obtain⟨xs,hq,hx⟩:=hg;obtain⟨its,rv,p,hz⟩:=I.list hq;obtain⟨f0,f1,f2,f3,f4,f5⟩:=hf it (by simp);have hl:=rv.length;exact wpAny_pyNext_list_end (I.ok.hd hc) st p.isList (by simp; omega) λh' eb=>⟨rfl,I.Er (t':=s.toks) (λb o hb e=>eb b o hb e) f0 f1 f3 f4 f5⟩
 self:=λ_ _ _ _ _ st h=>wpAny_pyIter_listiter st h
theorem UR{P:Program}{w:World}{K:PySem.W.Frag}{tg:Expr}(a it:Addr):HU P w K tg (IY K a) [it] it (λi h=>h.IsTupleIter it a i) where
 mem:=by simp
 obj:=λi h st b hb=>by
  have e:b=it:=by simpa using hb
  subst e;obtain⟨o,e,c,d⟩:=st;exact⟨o,e,λv z=>by rw[d] at z; cases z⟩
 keep:=λi h h' st k=>st.at λo e=>k it (by simp) o e
 item:=by
  intro X hP hw hK hc i pins s σ H E I hf st hg;subst hP hw hK;obtain⟨xs,x,hq,hx⟩:=hg;obtain⟨its,rv,p,hz⟩:=I.tuple hq;obtain⟨u,hu,ru⟩:=rv.get hx;obtain⟨f0,f1,f2,f3,f4,f5⟩:=hf it (by simp);refine wpAny_pyNext_tuple_item st (show s.heap.IsTuple a its.toArray from p) (x:=u) (by simpa using hu) λh' st' sb=>?_
  have I1:AI X pins σ H { s with heap:=h' }:=I.Er (t':=s.toks) (λb o hb e=>(sb.2 b hb).trans e) f0 f1 f3 f4 f5;obtain⟨o,e,c,d⟩:=id st';exact⟨u,rfl,Ks (s:={ s with heap:=h' }) e c d (by decide) ⟨x,H,I1,ru,⟨rfl,λys hy=>by rw[I.Ol hy hq]; exact hx⟩,st',λb hb=>(hf b hb).1⟩⟩
 done:=by
  intro X hP hw hK hc i pins s σ H E I hf st hg;subst hP hw hK;obtain⟨xs,hq,hx⟩:=hg;obtain⟨its,rv,p,hz⟩:=I.tuple hq;obtain⟨f0,f1,f2,f3,f4,f5⟩:=hf it (by simp);have hl:=rv.length;exact wpAny_pyNext_tuple_end (I.ok.hd hc) st (show s.heap.IsTuple a its.toArray from p) (by simp; omega) λh' eb=>⟨rfl,I.Er (t':=s.toks) (λb o hb e=>eb b o hb e) f0 f1 f3 f4 f5⟩
 self:=λ_ _ _ _ _ st h=>wpAny_pyIter_tupleiter st h
theorem UQ{P:Program}{w:World}{K:PySem.W.Frag}{tg:Expr}(it:Addr)(lo:Int)(n:Nat):HU P w K tg (Dp lo n) [it] it (λi h=>IsRangeIter h it (lo+(i:Nat)*1) ((n:Int)-(i:Nat)) 1) where
 mem:=by simp
 obj:=λi h st b hb=>by
  have e:b=it:=by simpa using hb
  subst e;exact⟨_,st,λv z=>by
   have z':Data.fields _=Data.cell v:=z;cases z'⟩
 keep:=λi h h' st k=>k it (by simp) _ st
 item:=by
  intro X hP hw hK hc i pins s σ H E I hf st hg;subst hP hw hK;obtain⟨f0,f1,f2,f3,f4,f5⟩:=hf it (by simp);have W:=Walks.range (prog:=X.prog) (w:=X.w) (I.ok.hd hc) it lo 1 n;refine W.item i s _ _ hg st λv h' tk hv st' kk=>?_
  obtain⟨t,rfl⟩:=hv;have I1:AI X pins σ H { s with heap:=h',toks:=tk }:=I.Er (λb o hb e=>kk b o (by simpa using hb) e) f0 f1 f3 f4 f5;refine⟨_,rfl,Ks (s:={ s with heap:=h',toks:=tk }) (n:="range_iterator") st' rfl rfl (by decide) ⟨.int (lo+i),H,I1,⟨t,?_⟩,⟨rfl,rfl⟩,st',λb hb=>(hf b hb).1⟩⟩;rw[Int.mul_one]
 done:=by
  intro X hP hw hK hc i pins s σ H E I hf st hg;subst hP hw hK;obtain⟨f0,f1,f2,f3,f4,f5⟩:=hf it (by simp);exact wpAny_pyNext_range_end (I.ok.hd hc) st (by have:n<=i:=hg; omega) λh' eb=>⟨rfl,I.Er (t':=s.toks) (λb o hb e=>eb b o hb e) f0 f1 f3 f4 f5⟩
 self:=λ_ _ _ _ _ st h=>wpAny_pyIter_rangeiter st h
section
variable {X:Cx} {tg:Expr}
inductive Qj(K:PySem.W.Frag)(x:V)(H:Hp)(R:It->Hp->Prop):Prop
 | mk (a:Addr) (e:x=.ref a) (s:∃xs,AJ K H a xs) (q:R (Ib K a) H):Qj K x H R
inductive Rl(K:PySem.W.Frag)(x:V)(H:Hp)(R:It->Hp->Prop):Prop
 | mk (a:Addr) (e:x=.ref a) (s:∃xs,AO K H a xs) (q:R (IY K a) H):Rl K x H R
def RU(K:PySem.W.Frag)(tl:TE):TI:=λσ H R=>tl σ H λx H1=>Qj K x H1 R
def Sq(K:PySem.W.Frag)(tl:TE):TI:=λσ H R=>tl σ H λx H1=>Rl K x H1 R
theorem QT{l:Expr}{tl:TE}(hl:PE X l tl):PI X tg l (RU X.K tl):=by
 intro pins s σ H R I h;refine AZ (hl pins s σ H _ I h) λv s1 ⟨x,H1,I1,r1,q1⟩=>?_
 obtain⟨a,e,⟨xs,hq⟩,q⟩:=q1;subst e;cases r1;obtain⟨its,rv,p,hz⟩:=I1.list hq;refine wpAny_pyIter_list p.isList ?_;refine⟨s1.heap.objs.size,[s1.heap.objs.size],_,_,H1,rfl,I1.BJ (t':=s1.toks) λb o e=>cj _ e,Vb a _,⟨_,cU _ rfl,rfl,rfl⟩,λb hb=>?_,q⟩;have e:b=s1.heap.objs.size:=by simpa using hb
 subst e;exact I1.HN (cR _) (I1.hok.fresh (cR _))
theorem Kk{l:Expr}{tl:TE}(hl:PE X l tl):PI X tg l (Sq X.K tl):=by
 intro pins s σ H R I h;refine AZ (hl pins s σ H _ I h) λv s1 ⟨x,H1,I1,r1,q1⟩=>?_
 obtain⟨a,e,⟨xs,hq⟩,q⟩:=q1;subst e;cases r1;obtain⟨its,rv,p,hz⟩:=I1.tuple hq;refine wpAny_pyIter_tuple (show s1.heap.IsTuple a its.toArray from p) ?_;refine⟨s1.heap.objs.size,[s1.heap.objs.size],_,_,H1,rfl,I1.BJ (t':=s1.toks) λb o e=>cj _ e,UR a _,⟨_,cU _ rfl,rfl,rfl⟩,λb hb=>?_,q⟩;have e:b=s1.heap.objs.size:=by simpa using hb
 subst e;exact I1.HN (cR _) (I1.hok.fresh (cR _))
theorem PM {pins:List (Addr×Obj)} {σ:St} {H:Hp} {s:Shared} {R:It->Hp->Prop} {E:Value->Shared->Prop} {lo hi:Int} {t u v:Tok} {tk:Nat} (I:AI X pins σ H s) (h1:-(2 ^ 62)<=lo) (h2:lo<2 ^ 62) (h3:-(2 ^ 62)<=hi) (h4:hi<2 ^ 62)
  (q:R (Dp lo (hi-lo).toNat) H):wpAny (model X.prog X.w) X.A (pyIter (.ref s.heap.objs.size)) (Tc X pins σ tg R) E { s with heap:=s.heap.push { cls:=.type "range",data:=.fields #[.int lo t,.int hi u,.int 1 v] },toks:=tk }:=by
 refine wpAny_pyIter_range (IsRange.new ..) (small_one h1 h2 h3 h4) ?_;have I1:AI X pins σ H { s with heap:=s.heap.push { cls:=.type "range",data:=.fields #[.int lo t,.int hi u,.int 1 v] },toks:=tk }:=I.BJ λb o e=>cj _ e
 refine⟨(s.heap.push { cls:=.type "range",data:=.fields #[.int lo t,.int hi u,.int 1 v] }).objs.size,[(s.heap.push { cls:=.type "range",data:=.fields #[.int lo t,.int hi u,.int 1 v] }).objs.size],_,_,H,rfl,
  I1.BJ (t':=tk) λb o e=>cj _ e,UQ _ lo (hi-lo).toNat,?_,λb hb=>?_,q⟩
 ·have e1:lo+((0:Nat):Int)*1=lo:=by simp
  have e2:(((hi-lo).toNat:Nat):Int)-((0:Nat):Int)=Builtin.Range.rangeSize lo hi 1:=by rw[rangeSize_one]; split <;> omega
  show IsRangeIter _ _ (lo+((0:Nat):Int)*1) ((((hi-lo).toNat:Nat):Int)-((0:Nat):Int)) 1;rw[e1,e2];exact cU _ rfl
 ·have e:b=(s.heap.push { cls:=.type "range",data:=.fields #[.int lo t,.int hi u,.int 1 v] }).objs.size:=by simpa using hb
  subst e;exact I1.HN (cR _) (I1.hok.fresh (cR _))
def aP(ta:TA):TI:=λσ H R=>ta σ H λvs H1=>∃j:Int,vs=[.int j]/\-(2 ^ 62)<=j/\j<2 ^ 62/\R (Dp 0 j.toNat) H1
def ZQ(ta:TA):TI:=λσ H R=>ta σ H λvs H1=>∃i j:Int,vs=[.int i,.int j]/\(-(2 ^ 62)<=i/\i<2 ^ 62/\-(2 ^ 62)<=j/\j<2 ^ 62)/\R (Dp i (j-i).toNat) H1
theorem EC{a:Expr}{ta:TA}{p pos:Pos}(hg:Gl X "range")(hm:X.mg "range" = none)(ha:PA X [a] ta)(hs:starEach [a] X.env=[(false,eval a X.env)]:=by rfl):PI X tg (.Call (.Name "range" p) [a] [] pos) (aP ta):=by
 intro pins s σ H R I h;refine Call_ (Dt I hg hm boot_range (eh (AZ (ha pos pins s σ H _ I h) λus s1 ⟨vs,H1,I1,r1,q1⟩=>?_) hs rfl));obtain⟨j,e,q1,q2,q⟩:=q1;subst e;cases r1 with
 | cons r rr =>
  cases rr;obtain⟨t,rfl⟩:=r;exact call_range_1 (PM I1 (by omega) (by omega) q1 q2 (by simpa using q))
theorem Jt{a b:Expr}{ta:TA}{p pos:Pos}(hg:Gl X "range")(hm:X.mg "range" = none)(ha:PA X [a,b] ta)(hs:starEach [a,b] X.env=[(false,eval a X.env),(false,eval b X.env)]:=by rfl)(hs2:starEach [b] X.env=[(false,eval b X.env)]:=by rfl):
  PI X tg (.Call (.Name "range" p) [a,b] [] pos) (ZQ ta):=by
 intro pins s σ H R I h;refine Call_ (Dt I hg hm boot_range (eh (AZ (ha pos pins s σ H _ I h) λus s1 ⟨vs,H1,I1,r1,q1⟩=>?_) (by rw[hs,hs2]) (by rw[hs2]; rfl)));obtain⟨i,j,e,⟨q1,q2,q3,q4⟩,q⟩:=q1;subst e;cases r1 with
 | cons r rr =>
  cases rr with
  | cons r' rr =>
   cases rr;obtain⟨t,rfl⟩:=r;obtain⟨t',rfl⟩:=r';exact call_range_2 (PM I1 q1 q2 q3 q4 q)
def bX(wi:TI)(g:TG)(tb:TS):TS:=λD σ H=>wi σ H λJ H1=>∃W:Nat->Nat->St->Hp->Prop,(∃m,W 0 m σ H1)/\∀i m σ H,W i m σ H →
 (J.stop i H/\D.nx σ H)\/(J.go i H/\∃N:St->Hp->Prop,(∀σ' H',N σ' H'->∃m',m' < m/\W (i+1) m' σ' H')/\∀x H',J.EB i H x H'->g x σ H' λσ2 H2=>tb { D with nx:=N,ct:=N,bk:=D.nx } σ2 H2)
def JB(fp:List Addr)(h:Heap):List (Addr×Obj):=fp.filterMap λb=>(h.get? b).map λo=>(b,o)
theorem Jn{fp:List Addr}{h:Heap}{b:Addr}{o:Obj}(hb:b∈fp)(e:h.get? b=some o):(b,o)∈JB fp h:=List.mem_filterMap.mpr ⟨b,hb,by rw[e]; rfl⟩
theorem U7{fp:List Addr}{h:Heap}{p:Addr×Obj}(hp:p∈JB fp h):p.1∈fp/\h.get? p.1=some p.2:=by
 obtain⟨b,hb,e⟩:=List.mem_filterMap.mp hp;cases q:h.get? b with
 | none=>rw[q] at e; cases e
 | some o =>
  rw[q] at e;have e':(b,o)=p:=Option.some.inj e;subst e';exact⟨hb,q⟩
theorem AI.Qx{pins:List (Addr×Obj)}{σ:St}{H:Hp}{s:Shared}{fp:List Addr}(I:AI X pins σ H s)(hf:∀b∈fp,E1 X pins H b)(ho:∀b∈fp,∃o,s.heap.get? b=some o/\∀v,o.data≠.cell v):AI X (pins++JB fp s.heap) σ H s :=
 I.KZ λp hp=>(cS.mp hp).elim (λz=>I.pin p (dA _ z)) λz=>by
  obtain⟨hb,e⟩:=U7 z;obtain⟨f0,f1,f2,_⟩:=hf p.1 hb;obtain⟨o,e',d⟩:=ho p.1 hb;rw[e] at e'; cases e';exact⟨e,f0,f1,f2,d⟩
theorem AI.Ij{pins pl:List (Addr×Obj)}{σ:St}{H:Hp}{s:Shared}(I:AI X (pins++pl) σ H s):AI X pins σ H s:=I.KZ λp hp=>I.pin p (dA _ (eo _ hp))
theorem Bv {iter:Expr} {body:List Stmt} {wi:TI} {g:TG} {tb:TS} {pos:Pos} (hp:PassesOwn (model X.prog X.w) X.A X.env X.xe) (hc:X.BS=true) (hi:PI X tg iter wi) (hg:PG X tg g) (hb:Bu X body tb)
  (hs:∀x,foldedSetIterable iter X.env x=pure x:=by intro _; rfl):PS X (.For tg iter body [] pos) (bX wi g tb):=by
 intro pins s σ H D I h;refine wpAny_For (AZ (hi pins s σ H _ I h) λv s1 h1=>AZ h1 λitv s2 h2=>?_) hs;obtain⟨it,fp,tn,J,H2,e,I2,T,st2,f2,W,⟨m0,w0⟩,turn⟩:=h2;subst e;have stat:∀{H':Hp},(∀b∈fp,H' b=none)->∀b∈fp,E1 X pins H' b:=λhn b hb=>⟨hn b hb,(f2 b hb).2⟩
 refine codeAny_forLoop_any (λn s'=>∃i σ' H',AI X pins σ' H' s'/\tn i s'.heap/\(∀b∈fp,H' b=none)/\W i n σ' H') ?_ m0 ⟨0,σ,H2,I2,st2,λb hb=>(f2 b hb).1,w0⟩;rintro n s3 ⟨i,σ3,H3,I3,st3,fr3,w3⟩;rcases turn i n σ3 H3 w3 with ⟨stop,qn⟩ | ⟨go,N,hN,step⟩
 ·refine wpAny_passesOwn hp (AZ (T.done X rfl rfl rfl hc i pins s3 σ3 H3 X.xe I3 (stat fr3) st3 stop) λr s4 ⟨hr,I4⟩=>?_);subst hr;exact wpAny_execs_nil ⟨σ3,H3,I4,qn⟩
 ·refine wpAny_passesOwn hp (AZ (T.item X rfl rfl rfl hc i pins s3 σ3 H3 X.xe I3 (stat fr3) st3 go) λr s4 ⟨u,hr,h4⟩=>?_);subst hr;refine wpAny_passesOwn hp (AZ h4 λ_ s5 ⟨x,H5,I5,r5,y5,st5,fr5⟩=>?_);have I5':=I5.Qx (stat fr5) (T.obj _ _ st5);refine wpAny_passesOwn hp (AZ (hg _ s5 σ3 H5 x u _ I5' r5 (step x H5 y5)) λ_ s6 ⟨σ6,H6,I6,q6⟩=>?_);refine wpAny_passesOwn hp (AZ (hb _ s6 σ6 H6 _ I6 q6) λf s7 q7=>?_);have again:∀{σ7:St} {H7:Hp},AI X (pins++JB fp s5.heap) σ7 H7 s7->N σ7 H7->∃m,m<n/\∃i σ' H',AI X pins σ' H' s7/\tn i s7.heap/\(∀b∈fp,H' b=none)/\W i m σ' H':=λ{σ7 H7} I7 n7=>by
   obtain⟨m',hm,w7⟩:=hN σ7 H7 n7;refine⟨m',hm,i+1,σ7,H7,I7.Ij,T.keep _ _ _ st5 λb hb o e=>(I7.pin (b,o) (dA _ (dA _ (Jn hb e)))).1,λb hb=>?_,w7⟩;obtain⟨o,e,d⟩:=T.obj _ _ st5 b hb;exact(I7.pin (b,o) (dA _ (dA _ (Jn hb e)))).2.1
  cases f with
  | next=>obtain⟨σ7,H7,I7,n7⟩:=q7; exact again I7 n7
  | cont=>obtain⟨σ7,H7,I7,n7⟩:=q7; exact again I7 n7
  | brk=>obtain⟨σ7,H7,I7,q7⟩:=q7; exact⟨σ7,H7,I7.Ij,q7⟩
  | ret v=>obtain⟨x7,σ7,H7,I7,r7,q7⟩:=q7; exact⟨x7,σ7,H7,I7.Ij,r7,q7⟩
end
theorem Fg {K:PySem.W.Frag} {a:Addr} {xs:List V} {g:TG} {tb:TS} {D:ET} {σ:St} {H:Hp} (Pv:Nat->St->Hp->Prop) (h0:Pv 0 σ H) (hl:∀i σ H,i<=xs.length->Pv i σ H->AJ K H a xs)
  (hs:∀i x σ H,xs[i]?=some x->Pv i σ H->g x σ H λσ2 H2=>tb { D with nx:=Pv (i+1),ct:=Pv (i+1),bk:=D.nx } σ2 H2) (hd:∀σ H,Pv xs.length σ H->D.nx σ H) :
  ∃W:Nat->Nat->St->Hp->Prop,(∃m,W 0 m σ H)/\∀i m σ H,W i m σ H →
   ((Ib K a).stop i H/\D.nx σ H)\/((Ib K a).go i H/\∃N:St->Hp->Prop,(∀σ' H',N σ' H'->∃m',m' < m/\W (i+1) m' σ' H')/\∀x H',(Ib K a).EB i H x H'->g x σ H' λσ2 H2=>tb { D with nx:=N,ct:=N,bk:=D.nx } σ2 H2):=by
 refine⟨λi m σ H=>m=xs.length-i/\i<=xs.length/\Pv i σ H,⟨xs.length,by simp,dk _,h0⟩,?_⟩;rintro i m σ H ⟨rfl,hi,p⟩;have q:=hl i σ H hi p;by_cases hlt:i<xs.length
 ·refine .inr ⟨⟨xs,xs[i],q,by simp[hlt]⟩,Pv (i+1),λσ' H' p'=>⟨xs.length-(i+1),by omega,rfl,hlt,p'⟩,λx H' y=>?_⟩;obtain⟨e,y⟩:=y;subst e;exact hs i x σ _ (y xs q) p
 ·have e:i=xs.length:=by omega
  subst e;exact .inl ⟨⟨xs,q,cR _⟩,hd σ H p⟩
theorem Ph {K:PySem.W.Frag} {a:Addr} {xs:List V} {g:TG} {tb:TS} {D:ET} {σ:St} {H:Hp} (Pv:Nat->St->Hp->Prop) (h0:Pv 0 σ H) (hl:∀i σ H,i<=xs.length->Pv i σ H->AO K H a xs)
  (hs:∀i x σ H,xs[i]?=some x->Pv i σ H->g x σ H λσ2 H2=>tb { D with nx:=Pv (i+1),ct:=Pv (i+1),bk:=D.nx } σ2 H2) (hd:∀σ H,Pv xs.length σ H->D.nx σ H) :
  ∃W:Nat->Nat->St->Hp->Prop,(∃m,W 0 m σ H)/\∀i m σ H,W i m σ H →
   ((IY K a).stop i H/\D.nx σ H)\/((IY K a).go i H/\∃N:St->Hp->Prop,(∀σ' H',N σ' H'->∃m',m' < m/\W (i+1) m' σ' H')/\∀x H',(IY K a).EB i H x H'->g x σ H' λσ2 H2=>tb { D with nx:=N,ct:=N,bk:=D.nx } σ2 H2):=by
 refine⟨λi m σ H=>m=xs.length-i/\i<=xs.length/\Pv i σ H,⟨xs.length,by simp,dk _,h0⟩,?_⟩;rintro i m σ H ⟨rfl,hi,p⟩;have q:=hl i σ H hi p;by_cases hlt:i<xs.length
 ·refine .inr ⟨⟨xs,xs[i],q,by simp[hlt]⟩,Pv (i+1),λσ' H' p'=>⟨xs.length-(i+1),by omega,rfl,hlt,p'⟩,λx H' y=>?_⟩;obtain⟨e,y⟩:=y;subst e;exact hs i x σ _ (y xs q) p
 ·have e:i=xs.length:=by omega
  subst e;exact .inl ⟨⟨xs,q,cR _⟩,hd σ H p⟩
theorem FA {lo:Int} {n:Nat} {g:TG} {tb:TS} {D:ET} {σ:St} {H:Hp} (Pv:Nat->St->Hp->Prop) (h0:Pv 0 σ H)
  (hs:∀i σ H,i<n->Pv i σ H->g (.int (lo+i)) σ H λσ2 H2=>tb { D with nx:=Pv (i+1),ct:=Pv (i+1),bk:=D.nx } σ2 H2) (hd:∀σ H,Pv n σ H->D.nx σ H) :
  ∃W:Nat->Nat->St->Hp->Prop,(∃m,W 0 m σ H)/\∀i m σ H,W i m σ H →
   ((Dp lo n).stop i H/\D.nx σ H)\/((Dp lo n).go i H/\∃N:St->Hp->Prop,(∀σ' H',N σ' H'->∃m',m' < m/\W (i+1) m' σ' H')/\∀x H',(Dp lo n).EB i H x H'->g x σ H' λσ2 H2=>tb { D with nx:=N,ct:=N,bk:=D.nx } σ2 H2):=by
 refine⟨λi m σ H=>m=n-i/\i<=n/\Pv i σ H,⟨n,by simp,dk _,h0⟩,?_⟩;rintro i m σ H ⟨rfl,hi,p⟩;by_cases hlt:i<n
 ·refine .inr ⟨hlt,Pv (i+1),λσ' H' p'=>⟨n-(i+1),by omega,rfl,hlt,p'⟩,λx H' y=>?_⟩;obtain⟨e,y⟩:=y;subst e y;exact hs i σ _ hlt p
 ·have e:i=n:=by omega
  subst e;exact .inl ⟨cR _,hd σ H p⟩
theorem Ov {c:TT} {tb:TS} {D:ET} {σ:St} {H:Hp} (Pv:St->Hp->Prop) (μ:St->Hp->Nat) (h0:Pv σ H)
  (hs:∀σ H,Pv σ H->c σ H λb H1=>if b=true then tb { D with nx:=λσ' H'=>Pv σ' H'/\μ σ' H' < μ σ H,ct:=λσ' H'=>Pv σ' H'/\μ σ' H' < μ σ H,bk:=D.nx } σ H1 else D.nx σ H1)
  (mono:∀σ H Q Q',(∀b H1,Q b H1->Q' b H1)->c σ H Q->c σ H Q'):Qz c tb D σ H:=by
 refine⟨λm σ H=>m=μ σ H/\Pv σ H,⟨_,rfl,h0⟩,?_⟩;rintro m σ H ⟨rfl,p⟩;refine mono σ H _ _ (λb H1 q=>?_) (hs σ H p);cases b with
 | true=>exact⟨_,λσ' H' ⟨p',l⟩=>⟨_,l,rfl,p'⟩,q⟩
 | false=>exact q
abbrev R2:=V->V->Hp->VK->Prop
def By(X:Cx)(f:Value->Value->Sem Value)(r:R2):Prop :=
 ∀(pins:List (Addr×Obj)) (s:Shared) (σ:St) (H:Hp) (x y:V) (v u:Value) (Q:VK),AI X pins σ H s->Ae x v->Ae y u->r x y H Q →
  wpAny (model X.prog X.w) X.A (f v u) (EP X pins σ Q) X.xe s
def Ng(X:Cx)(f:Value->Sem Value)(r:V->Hp->VK->Prop):Prop :=
 ∀(pins:List (Addr×Obj)) (s:Shared) (σ:St) (H:Hp) (x:V) (v:Value) (Q:VK),AI X pins σ H s->Ae x v->r x H Q →
  wpAny (model X.prog X.w) X.A (f v) (EP X pins σ Q) X.xe s
def CT(X:Cx)(f:Value)(r:List V->Hp->VK->Prop):Prop :=
 ∀(pins:List (Addr×Obj)) (s:Shared) (σ:St) (H:Hp) (xs:List V) (us:List Value) (Q:VK),AI X pins σ H s->AX xs us->r xs H Q →
  wpAny (model X.prog X.w) X.A (call f us) (EP X pins σ Q) X.xe s
def bY(X:Cx)(r:V->Hp->(Bool->Hp->Prop)->Prop):Prop :=
 ∀(pins:List (Addr×Obj)) (s:Shared) (σ:St) (H:Hp) (x:V) (v:Value) (Q:Bool->Hp->Prop),AI X pins σ H s->Ae x v->r x H Q →
  wpAny (model X.prog X.w) X.A (truthy v) (TP X pins σ Q) X.xe s
def BM(r:R2)(ta tb:TE):TE:=λσ H Q=>ta σ H λx H1=>tb σ H1 λy H2=>r x y H2 Q
def bc(r:V->Hp->VK->Prop)(ta:TE):TE:=λσ H Q=>ta σ H λx H1=>r x H1 Q
inductive IR(C:Int->Int->Prop)(g:Int->Int->V)(x y:V)(H:Hp)(Q:VK):Prop
 | mk (i j:Int) (a:x=.int i) (b:y=.int j) (c:C i j) (q:Q (g i j) H):IR C g x y H Q
def rI(C:Int->Int->Prop)(g:Int->Int->V):R2:=λx y H Q=>IR C g x y H Q
inductive Ti(g:Int->Int->V)(x y:V)(H:Hp)(Q:VK):Prop
 | mk (i j:Int) (a:x=.int i) (b:y=.int j) (q:Q (g i j) H):Ti g x y H Q
def Ea(g:Int->Int->V):R2:=λx y H Q=>Ti g x y H Q
def rU(g:Int->V):V->Hp->VK->Prop:=λx H Q=>∃i,x=.int i/\Q (g i) H
section
variable {X:Cx} {a b c:Expr} {ta tb tc:TE} {pos:Pos}
theorem Mq (ha:PE X a ta) (hb:PE X b tb) {pins:List (Addr×Obj)} {s:Shared} {σ:St} {H:Hp} {R:V->V->Hp->Prop} (I:AI X pins σ H s)
  (h:ta σ H λx H1=>tb σ H1 λy H2=>R x y H2) {Q:Value->Shared->Prop} {f:Value->Value->Sem Value}
  (hf:∀v u s2 x y H2,AI X pins σ H2 s2->Ae x v->Ae y u->R x y H2->wpAny (model X.prog X.w) X.A (f v u) Q X.xe s2) :
  wpAny (model X.prog X.w) X.A (eval a X.env) (λv s₁=>wpAny (model X.prog X.w) X.A (eval b X.env) (λu s₂=>wpAny (model X.prog X.w) X.A (f v u) Q X.xe s₂) X.xe s₁) X.xe s:=by
 refine AZ (ha pins s σ H _ I h) λv s1 ⟨x,H1,I1,r1,q1⟩=>?_
 refine AZ (hb pins s1 σ H1 _ I1 q1) λu s2 ⟨y,H2,I2,r2,q2⟩=>?_
 exact hf v u s2 x y H2 I2 r1 r2 q2
theorem AQ{op:Operator}{r:R2}(ho:By X (binaryOp op) r)(ha:PE X a ta)(hb:PE X b tb):PE X (.BinOp a op b pos) (BM r ta tb):=by
 intro pins s σ H Q I h;exact wpAny_BinOp (Mq ha hb I h λv u s2 x y H2 I2 rx ry q=>ho pins s2 σ H2 x y v u Q I2 rx ry q)
theorem FK{op:UnaryOp}{r:V->Hp->VK->Prop}(ho:Ng X (unaryOp op) r)(ha:PE X a ta):PE X (.UnaryOp op a pos) (bc r ta):=by
 intro pins s σ H Q I h;exact UnaryOp_ (AZ (ha pins s σ H _ I h) λv s1 ⟨x,H1,I1,r1,q1⟩=>ho pins s1 σ H1 x v Q I1 r1 q1)
theorem Hc {f:Value->Value->Sem Value} {C:Int->Int->Prop} {g:Int->Int->Int}
  (rule:∀(i j:Int) (t u:Tok) (s:Shared) (Q:Value->Shared->Prop) (E:Value->Shared->Prop),C i j->Q (.int (g i j) s.toks) { s with toks:=s.toks+1 }->wpAny (model X.prog X.w) X.A (f (.int i t) (.int j u)) Q E s) :
  By X f (rI C λi j=>.int (g i j)):=by
 intro pins s σ H x y v u Q I rx ry h;obtain⟨i,j,rfl,rfl,hc,q⟩:=h;obtain⟨t,rfl⟩:=rx;obtain⟨t',rfl⟩:=ry;exact rule i j t t' s _ _ hc ⟨.int (g i j),H,I.Cn _,⟨_,rfl⟩,q⟩
theorem Su {f:Value->Value->Sem Value} {g:Int->Int->Int}
  (rule:∀(i j:Int) (t u:Tok) (s:Shared) (Q:Value->Shared->Prop) (E:Value->Shared->Prop),Q (.int (g i j) s.toks) { s with toks:=s.toks+1 }->wpAny (model X.prog X.w) X.A (f (.int i t) (.int j u)) Q E s) :
  By X f (Ea λi j=>.int (g i j)):=by
 intro pins s σ H x y v u Q I rx ry h;obtain⟨i,j,rfl,rfl,q⟩:=h;obtain⟨t,rfl⟩:=rx;obtain⟨t',rfl⟩:=ry;exact rule i j t t' s _ _ ⟨.int (g i j),H,I.Cn _,⟨_,rfl⟩,q⟩
theorem NK {f:Value->Value->Sem Value} {g:Int->Int->Bool}
  (rule:∀(i j:Int) (t u:Tok) (s:Shared) (Q:Value->Shared->Prop) (E:Value->Shared->Prop),Q (.bool (g i j)) s->wpAny (model X.prog X.w) X.A (f (.int i t) (.int j u)) Q E s) :
  By X f (Ea λi j=>.bl (g i j)):=by
 intro pins s σ H x y v u Q I rx ry h;obtain⟨i,j,rfl,rfl,q⟩:=h;obtain⟨t,rfl⟩:=rx;obtain⟨t',rfl⟩:=ry;exact rule i j t t' s _ _ ⟨.bl (g i j),H,I,rfl,q⟩
def bO(i j:Int):Prop:=0<j/\j<1073741824
def bW(i j:Int):Prop:=0<=j/\j<=1000000/\i.natAbs<2 ^ 64
def Gh(i j:Int):Prop:=(-(2 ^ 64)<i/\i<2 ^ 64)\/(-(2 ^ 64)<j/\j<2 ^ 64)
theorem Gh.ok{i j:Int}(h:Gh i j):IntMulOk i j:=by
 rcases h with ⟨h1,h2⟩ | ⟨h1,h2⟩
 ·exact .of_left (intBits_le_64 h1 h2)
 ·exact .of_right (intBits_le_64 h1 h2)
theorem A5:By X (binaryOp .Add) (Ea λi j=>.int (i+j)):=Su λ_ _ _ _ _ _ _ q=>add_int q
theorem B4:By X (binaryOp .Sub) (Ea λi j=>.int (i-j)):=Su λ_ _ _ _ _ _ _ q=>sub_int q
theorem C6:By X (binaryOp .Mult) (rI Gh λi j=>.int (i*j)):=Hc λ_ _ _ _ _ _ _ hc q=>mul_int q hc.ok
theorem DU:By X (binaryOp .FloorDiv) (rI bO λi j=>.int (i / j)):=Hc λi j _ _ _ _ _ hc q=>by
 have h1:(0:Int)<j:=hc.1;have h2:j<1073741824:=hc.2;exact floordiv_int (by omega) (by rw[Int.fdiv_eq_ediv_of_nonneg i (by omega)]; exact q) (.inl (PyProof.noPylong_small (by omega)))
theorem Bi:By X (binaryOp .Mod) (rI (λ_ j=>0<j) λi j=>.int (i % j)):=Hc λi j _ _ _ _ _ hc q=>by
 have h1:(0:Int)<j:=hc;exact mod_int' (by omega) (by rw[Int.fmod_eq_emod_of_nonneg i (by omega)]; exact q)
theorem XA:By X (binaryOp .Mod) (rI (λ_ j=>j≠0) λi j=>.int (i.fmod j)):=Hc λ_ _ _ _ _ _ _ hc q=>mod_int' hc q
theorem Yr:By X (binaryOp .Pow) (rI bW λi j=>.int (i ^ j.toNat)):=Hc λ_ _ _ _ _ _ _ hc q=>pow_int_small hc.1 hc.2.1 hc.2.2 q
theorem cD {f:Value->Sem Value} {g:Int->Int}
  (rule:∀(i:Int) (t:Tok) (s:Shared) (Q:Value->Shared->Prop) (E:Value->Shared->Prop),Q (.int (g i) s.toks) { s with toks:=s.toks+1 }->wpAny (model X.prog X.w) X.A (f (.int i t)) Q E s) :
  Ng X f (rU λi=>.int (g i)):=by
 intro pins s σ H x v Q I rx h;obtain⟨i,rfl,q⟩:=h;obtain⟨t,rfl⟩:=rx;exact rule i t s _ _ ⟨.int (g i),H,I.Cn _,⟨_,rfl⟩,q⟩
theorem FJ:Ng X (unaryOp .USub) (rU λi=>.int (-i)):=cD λ_ _ _ _ _ q=>neg_int q
end
def Sg:V->V->Bool
 | .Aj,.Aj=>true | .Aj,.int _=>true | .int _,.Aj=>true | .Aj,.bl _=>true | .bl _,.Aj=>true | .Aj,.str _=>true | .str _,.Aj=>true
 | .int _,.int _=>true | .bl _,.bl _=>true | .str _,.str _=>true | .Dm _,.Dm _=>true
 | .int _,.str _=>true | .str _,.int _=>true | .bl _,.str _=>true | .str _,.bl _=>true
 | _,_=>false
inductive TV(x y:V)(H:Hp)(Q:VK):Prop
 | mk (c:Sg x y=true) (q:Q (.bl (decide (x=y))) H):TV x y H Q
inductive TX(x y:V)(H:Hp)(Q:VK):Prop
 | mk (c:Sg x y=true) (q:Q (.bl (!decide (x=y))) H):TX x y H Q
def Tf:R2:=λx y H Q=>TV x y H Q
def bu:R2:=λx y H Q=>TX x y H Q
theorem KO{i j:Int}:decide (V.int i=V.int j)=(i == j):=by
 rw[fc];simp
theorem MG{i j:Bool}:decide (V.bl i=V.bl j)=(i == j):=by
 rw[fc];simp
theorem QG{i j:Str}:decide (V.str i=V.str j)=(i == j):=by
 rw[fc];simp
theorem QU{i j:Array UInt8}:decide (V.Dm i=V.Dm j)=(i.toList == j.toList):=by
 rw[fc];cases i;cases j;simp
section
variable {X:Cx} {a b c:Expr} {ta tb tc:TE} {pos:Pos}
theorem BX{pins:List (Addr×Obj)}{σ:St}{H:Hp}{s:Shared}{Q:VK}{k k':Bool}(I:AI X pins σ H s)(q:Q (.bl k) H)(e:k=k'):EP X pins σ Q (.bool k') s:=by
 subst e;exact⟨.bl k,H,I,rfl,q⟩
theorem Ci:By X (compareOp .Eq) Tf:=by
 intro pins s σ H x y v u Q I rx ry h;obtain⟨hs,q⟩:=h;cases x with
 | Aj =>
  cases rx;cases y with
  | Aj=>cases ry; exact PySem.EqNone.eq_none_none (BX I q (by simp))
  | bl j=>cases ry; exact PySem.EqNone.eq_none_bool (BX I q (by simp))
  | int j=>obtain⟨t',rfl⟩:=ry; exact PySem.EqNone.eq_none_int (BX I q (by simp))
  | str j=>obtain⟨t',rfl⟩:=ry; exact PySem.EqNone.eq_none_str (BX I q (by simp))
  | _=>exact absurd (show false=true from hs) df
 | bl i =>
  cases rx;cases y with
  | Aj=>cases ry; exact PySem.EqNone.eq_bool_none (BX I q (by simp))
  | bl j=>cases ry; exact eq_bool (BX I q MG)
  | str j=>obtain⟨t',rfl⟩:=ry; exact PySem.EqMixed.eq_bool_str (BX I q (by simp))
  | _=>exact absurd (show false=true from hs) df
 | int i =>
  obtain⟨t,rfl⟩:=rx;cases y with
  | Aj=>cases ry; exact PySem.EqNone.eq_int_none (BX I q (by simp))
  | int j=>obtain⟨t',rfl⟩:=ry; exact eq_int (BX I q KO)
  | str j=>obtain⟨t',rfl⟩:=ry; exact PySem.EqMixed.eq_int_str (BX I q (by simp))
  | _=>exact absurd (show false=true from hs) df
 | str i =>
  obtain⟨t,rfl⟩:=rx;cases y with
  | Aj=>cases ry; exact PySem.EqNone.eq_str_none (BX I q (by simp))
  | bl j=>cases ry; exact PySem.EqMixed.eq_str_bool (BX I q (by simp))
  | int j=>obtain⟨t',rfl⟩:=ry; exact PySem.EqMixed.eq_str_int (BX I q (by simp))
  | str j=>obtain⟨t',rfl⟩:=ry; exact eq_str (BX I q QG)
  | _=>exact absurd (show false=true from hs) df
 | Dm i =>
  obtain⟨t,rfl⟩:=rx;cases y with
  | Dm j=>obtain⟨t',rfl⟩:=ry; exact PySem.W.eq_bytes (BX I q QU)
  | _=>exact absurd (show false=true from hs) df
 | _=>cases y <;> exact absurd (show false=true from hs) df
theorem GU:By X (compareOp .NotEq) bu:=by
 intro pins s σ H x y v u Q I rx ry h;obtain⟨hs,q⟩:=h;cases x with
 | Aj =>
  cases rx;cases y with
  | Aj=>cases ry; exact PySem.EqNone.ne_none_none (BX I q (by simp))
  | bl j=>cases ry; exact PySem.EqNone.ne_none_bool (BX I q (by simp))
  | int j=>obtain⟨t',rfl⟩:=ry; exact PySem.EqNone.ne_none_int (BX I q (by simp))
  | str j=>obtain⟨t',rfl⟩:=ry; exact PySem.EqNone.ne_none_str (BX I q (by simp))
  | _=>exact absurd (show false=true from hs) df
 | bl i =>
  cases rx;cases y with
  | Aj=>cases ry; exact PySem.EqNone.ne_bool_none (BX I q (by simp))
  | bl j=>cases ry; exact ne_bool (BX I q (congrArg not MG))
  | str j=>obtain⟨t',rfl⟩:=ry; exact PySem.EqMixed.ne_bool_str (BX I q (by simp))
  | _=>exact absurd (show false=true from hs) df
 | int i =>
  obtain⟨t,rfl⟩:=rx;cases y with
  | Aj=>cases ry; exact PySem.EqNone.ne_int_none (BX I q (by simp))
  | int j=>obtain⟨t',rfl⟩:=ry; exact ne_int (BX I q (congrArg not KO))
  | str j=>obtain⟨t',rfl⟩:=ry; exact PySem.EqMixed.ne_int_str (BX I q (by simp))
  | _=>exact absurd (show false=true from hs) df
 | str i =>
  obtain⟨t,rfl⟩:=rx;cases y with
  | Aj=>cases ry; exact PySem.EqNone.ne_str_none (BX I q (by simp))
  | bl j=>cases ry; exact PySem.EqMixed.ne_str_bool (BX I q (by simp))
  | int j=>obtain⟨t',rfl⟩:=ry; exact PySem.EqMixed.ne_str_int (BX I q (by simp))
  | str j=>obtain⟨t',rfl⟩:=ry; exact ne_str (BX I q (congrArg not QG))
  | _=>exact absurd (show false=true from hs) df
 | Dm i =>
  obtain⟨t,rfl⟩:=rx;cases y with
  | Dm j=>obtain⟨t',rfl⟩:=ry; exact PySem.W.ne_bytes (BX I q (congrArg not QU))
  | _=>exact absurd (show false=true from hs) df
 | _=>cases y <;> exact absurd (show false=true from hs) df
theorem GQ:By X (compareOp .Lt) (Ea λi j=>.bl (decide (i<j))):=NK λ_ _ _ _ _ _ _ q=>lt_int q
theorem IK:By X (compareOp .LtE) (Ea λi j=>.bl (decide (i<=j))):=NK λ_ _ _ _ _ _ _ q=>le_int q
theorem FL:By X (compareOp .Gt) (Ea λi j=>.bl (decide (j<i))):=NK λ_ _ _ _ _ _ _ q=>gt_int q
theorem An(b:Expr){op:CmpOp}(h:op≠.In:=by decide)(h2:op≠.NotIn:=by decide):behindInMarks op b=false:=by
 have e1:(op == CmpOp.In)=false:=by cases op <;> first | rfl | exact absurd rfl h
 have e2:(op == CmpOp.NotIn)=false:=by cases op <;> first | rfl | exact absurd rfl h2
 cases b <;> simp[behindInMarks,e1,e2]
theorem Ds{op:CmpOp}{r:R2}(ho:By X (compareOp op) r)(ha:PE X a ta)(hb:PE X b tb)(hm:behindInMarks op b=false):PE X (.Compare a [op] [b] pos) (BM r ta tb):=by
 intro pins s σ H Q I h;exact wpAny_Compare1 (Mq ha hb I h λv u s2 x y H2 I2 rx ry q=>ho pins s2 σ H2 x y v u Q I2 rx ry q) hm
def Md(t:TE):TT:=λσ H Q=>t σ H λx H'=>NV x H' Q
theorem A4{op:CmpOp}{r:R2}(ho:By X (compareOp op) r)(ha:PE X a ta)(hb:PE X b tb)(hm:behindInMarks op b=false):PT X (.Compare a [op] [b] pos) (Md (BM r ta tb)):=by
 intro pins s σ H Q I h;refine wpAny_isTrue_Compare1 (AZ (ha pins s σ H _ I h) λv s1 ⟨x,H1,I1,r1,q1⟩=>AZ (hb pins s1 σ H1 _ I1 q1) λu s2 ⟨y,H2,I2,r2,q2⟩ =>
  AZ (ho pins s2 σ H2 x y v u _ I2 r1 r2 q2) λc s3 ⟨z,H3,I3,r3,k,e,q3⟩=>?_) hm
 subst e;cases r3;exact wpAny_truthy_bool ⟨H3,I3,q3⟩
def SV(K:PySem.W.Frag)(x:V)(H:Hp)(k:Bool):Prop :=
 match x with
 | .Aj=>k=false
 | .bl b=>k=b
 | .int i=>k=(i != 0)
 | .str y=>y.length<=sizeLine/\k=((y.length:Int) != 0)
 | .Dm y=>y.size<=sizeLine/\k=((y.size:Int) != 0)
 | .ref p=>(∃xs,AJ K H p xs/\k=!xs.isEmpty)\/(∃xs,AO K H p xs/\k=!xs.isEmpty)\/∃kvs,H p=some (.dK kvs)/\k=!kvs.isEmpty
 | _=>False
theorem Ue{κ:Type}{kvs:List (κ×V)}{vs:List (κ×Value)}(r:KV kvs vs):(!vs.isEmpty)=!kvs.isEmpty:=by
 cases r <;> rfl
theorem OC{xs:List V}{its:List Value}(r:AX xs its):(!its.toArray.isEmpty)=!xs.isEmpty:=by
 cases r <;> simp
theorem JD:(sizeLine:Nat)<2 ^ 63:=by rw[sizeLine_eq]; decide
theorem Yh:bY X (λx H Q=>∃k,SV X.K x H k/\Q k H):=by
 intro pins s σ H x v Q I rx h;obtain⟨k,e,q⟩:=h;have hl:=JD;have hs:sizeLine=16777216:=sizeLine_eq;cases x with
 | Aj =>
  cases rx;have e':k=false:=e;subst e';exact truthy_none ⟨H,I,q⟩
 | bl b =>
  cases rx;have e':k=b:=e;subst e';exact wpAny_truthy_bool ⟨H,I,q⟩
 | int i =>
  obtain⟨t,rfl⟩:=rx;have e':k=(i != 0):=e;subst e';exact PySem.P.truthy_int ⟨H,I,q⟩
 | str y =>
  obtain⟨t,rfl⟩:=rx;obtain⟨hy,e'⟩:y.length<=sizeLine/\k=((y.length:Int) != 0):=e;subst e';exact PySem.P.truthy_str (by omega) ⟨H,I.Cn _,q⟩
 | Dm y =>
  obtain⟨t,rfl⟩:=rx;obtain⟨hy,e'⟩:y.size<=sizeLine/\k=((y.size:Int) != 0):=e;subst e';exact PySem.W.truthy_bytes (by omega) ⟨H,I.Cn _,q⟩
 | ref p =>
  cases rx;have e':(∃xs,AJ X.K H p xs/\k=!xs.isEmpty)\/(∃xs,AO X.K H p xs/\k=!xs.isEmpty)\/∃kvs,H p=some (.dK kvs)/\k=!kvs.isEmpty:=e;rcases e' with ⟨xs,hx,e'⟩ | ⟨xs,hx,e'⟩ | ⟨kvs,hx,e'⟩
  ·subst e';obtain⟨its,r,pl,hz⟩:=I.list hx;have hlen:=r.length;exact wpAny_truthy_list pl.isList (by simp only[cx]; omega) ⟨H,I.Cn _,by rw[OC r]; exact q⟩
  ·subst e';obtain⟨its,r,pl,hz⟩:=I.tuple hx;have hlen:=r.length;exact truthy_tuple pl (by simp only[cx]; omega) ⟨H,I.Cn _,by rw[OC r]; exact q⟩
  ·subst e';obtain⟨hz,hS,vs,r,m⟩:kvs.length<=sizeLine/\(p == sysModules)=false/\∃vs,KV kvs vs/\s.heap.DictOf (DV X.prog X.w) p vs:=I.hok p _ hx;have hlen:kvs.length=vs.length:=Paired.length r;exact wpAny_truthy_dict hS m (by omega) ⟨H,I.Cn _,by rw[Ue r]; exact q⟩
 | _=>exact(show False from e).elim
theorem Wb(ha:PE X a ta)(he:∀whole,isTrue a X.env whole=(do let v <-whole; standAt a.pos; holding [v] (truthy v))):
  PT X a (λσ H Q=>ta σ H λx H'=>∃k,SV X.K x H' k/\Q k H'):=by
 intro pins s σ H Q I h;exact isTrue_plain (AZ (ha pins s σ H _ I h) λv s1 ⟨x,H1,I1,r1,q1⟩=>Yh pins s1 σ H1 x v Q I1 r1 q1) (he _)
theorem Ey{x:V}{us:List Value}(r:AX [x] us):∃u,us=[u]/\Ae x u:=by
 cases r with
 | cons r1 r2=>cases r2; exact⟨_,rfl,r1⟩
theorem JI{x y:V}{us:List Value}(r:AX [x,y] us):∃u w',us=[u,w']/\Ae x u/\Ae y w':=by
 cases r with
 | cons r1 r2 =>
  cases r2 with
  | cons r3 r4=>cases r4; exact⟨_,_,rfl,r1,r3⟩
theorem Ou:CT X (.builtin "abs") (λxs H Q=>∃i,xs=[.int i]/\Q (.int (if i<0 then -i else i)) H):=by
 intro pins s σ H xs us Q I r h;obtain⟨i,rfl,q⟩:=h;obtain⟨u,rfl,t,rfl⟩:=Ey r;exact call_abs_int λu tk=>⟨.int (if i<0 then -i else i),H,I.Cn _,⟨_,rfl⟩,q⟩
theorem Li(hc:X.BS=true):CT X (.builtin "max") (λxs H Q=>∃i j,xs=[.int i,.int j]/\Q (.int (if j > i then j else i)) H):=by
 intro pins s σ H xs us Q I r h;obtain⟨i,j,rfl,q⟩:=h;obtain⟨u,w',rfl,⟨t,rfl⟩,⟨t',rfl⟩⟩:=JI r;refine max_two_ints (I.ok.hd hc) λh' tk k=>⟨_,H,I.BJ k,?_,q⟩
 by_cases hj:j > i
 ·rw[if_pos hj,if_pos hj]; exact⟨_,rfl⟩
 ·rw[if_neg hj,if_neg hj]; exact⟨_,rfl⟩
theorem LZ(hc:X.BS=true):CT X (.builtin "min") (λxs H Q=>∃i j,xs=[.int i,.int j]/\Q (.int (if j<i then j else i)) H):=by
 intro pins s σ H xs us Q I r h;obtain⟨i,j,rfl,q⟩:=h;obtain⟨u,w',rfl,⟨t,rfl⟩,⟨t',rfl⟩⟩:=JI r;refine min_two_ints (I.ok.hd hc) λh' tk k=>⟨_,H,I.BJ k,?_,q⟩
 by_cases hj:j<i
 ·rw[if_pos hj,if_pos hj]; exact⟨_,rfl⟩
 ·rw[if_neg hj,if_neg hj]; exact⟨_,rfl⟩
end
structure JU(h:Heap)(x dx C:Addr)(mA:Str->Option Value):Prop where
 obj:h.get? x=some (PySem.W.instObj C dx)
 ns:h.Ns1 dx mA
 ne:dx≠x
theorem VV{h:Heap}{dx:Addr}{mA:Str->Option Value}(n:h.Ns1 dx mA):∃od,h.get? dx=some od/\∀name,PySem.W.lookIn name od=some (mA name):=by
 obtain⟨o,es,ep,ho,hd,hk,_,hm⟩:=n;refine⟨o,ho,λname=>?_⟩;have e:=hm name;unfold nsFind findBy at e;rw[<-Array.find?_toList] at e;unfold PySem.W.lookIn;rw[hd];dsimp only;split
 ·rename_i y q
  rw[q] at e;exact congrArg some e
 ·rename_i q
  rw[q] at e;have a:es.toList.any (·.refKey)=false:=by
   rw[List.any_eq_false];intro y hy;obtain⟨z,t,hkey⟩:=hk y (Array.mem_toList_iff.mp hy);simp[DictEntry.refKey,hkey]
  have a':¬es.toList.any (·.refKey)=true:=by rw[a]; exact df
  rw[if_neg a'];exact congrArg some e
theorem JU.Sm{h:Heap}{x dx C:Addr}{mA:Str->Option Value}(I:JU h x dx C mA):∃od,PySem.W.InstAt h x (PySem.W.instObj C dx) C (some od)/\∀name,PySem.W.lookIn name od=some (mA name) :=
 let ⟨od,ho,hl⟩:=VV I.ns
 ⟨od,⟨I.obj,rfl,rfl,ho⟩,hl⟩
section
variable {prog:Program} {w:World} {A:Around} {E:Value->Shared->Prop} {s:Shared} {K:PySem.W.Frag} {x dx C f:Addr} {mA:Str->Option Value} {name:Str} {v:Value}
theorem Ip {ns:List Str} {Q:Unit->Shared->Prop} (X:K.In s.heap) (I:JU s.heap x dx C mA)
  (hs:PySem.W.findIn K (.ref C) "__setattr__" = some (some (.builtin "object.__setattr__"))) (hp:PySem.W.plainOver K C=true) (ht:PySem.W.takerIn K C name=some none) (hh:PySem.W.hasDictIn K C=true)
  (hw:PySem.Within mA ns) (hsz:ns.length<=sizeLine)
  (h:∀h',JU h' x dx C (λy=>if y=name then some v else mA y)->Heap.SameBut dx s.heap h'->Q () { s with heap:=h',toks:=s.toks+2 }) :
  wpAny (model prog w) A (setAttr (.ref x) name v) Q E s:=by
 obtain⟨od,J,hl⟩:=I.Sm;refine PySem.W.set_plain X J hs (PySem.W.osa_open (s:={ s with toks:=s.toks+1 }) (r:=none) X J hp ht λb=>?_);obtain⟨cd,hc,hd'⟩:=PySem.W.any_some hh;have hx:s.heap.get? x=some ⟨.ref C,some dx,.plain,#[]⟩:=I.obj;refine wpAny_bind (wpAny_pure (wpAny_bind (wpAny_bind (wpAny_loadPart hx (wpAny_bind (PySem.W.Looks.here (s:={ s with toks:=s.toks+1 }) (PySem.W.looks_clsIn X hc) ?_))))));rw[hd'];refine wpAny_pure (a:=some dx) (wpAny_bind (wpAny_pure (wpAny_bind ?_)));refine wpAny_nsSet1 (s:={ s with toks:=s.toks+1 }) I.ns λh' hn2 hs2=>?_
 obtain⟨oD,esD,epD,hoD,hdD,hcD⟩:=hn2.count (PySem.Within.cons name v hw);refine wpAny_bind (wpAny_lookBehind hoD (by rw[hdD]; exact pastItsLine_dict (dg hcD (by rw[dM]; omega))) ?_);exact wpAny_pure (h _ ⟨(hs2.2 _ (eK I.ne)).trans I.obj,hn2,I.ne⟩ hs2)
end
section
variable {P:Program} {w:World} {H H':Hp} {h h':Heap} {a C dx:Addr} {fs fs':List (Str×V)}
theorem XZ(hok:BN P w H h)(e:H a=some (.EA C dx fs)):∃mA,JU h a dx C mA/\(∀f,GD (fs.lookup f) (mA f))/\PySem.Within mA (fs.map (·.1))/\fs.length<=1000/\H dx=some (.own a):=by
 obtain⟨d,z,ne,ob,mA,n,r,q⟩:=(show A9 P w H h a (.EA C dx fs) from hok a _ e);exact⟨mA,⟨ob,n,ne⟩,r,q,z,d⟩
end
structure NY(K:PySem.W.Frag)(C:Addr):Prop where
 pg:PySem.W.plainGet K C Str.empty=true
 hd:PySem.W.hasDictIn K C=true
 po:PySem.W.plainOver K C=true
 sa:PySem.W.findIn K (.ref C) "__setattr__" = some (some (.builtin "object.__setattr__"))
theorem NY.get{K:PySem.W.Frag}{C:Addr}(c:NY K C)(f:Str):PySem.W.plainGet K C f=true:=c.pg
section
variable {X:Cx} {pins:List (Addr×Obj)} {σ:St} {H:Hp} {s:Shared} {a C dx:Addr} {fs:List (Str×V)} {f:Str} {v:V} {A:Around} {E:Value->Shared->Prop}
theorem AI.made(I:AI X pins σ H s):AI X pins σ (AE (AE H s.heap.objs.size (.own (s.heap.objs.size+1))) (s.heap.objs.size+1) (.EA C s.heap.objs.size []))
  { s with heap:=(s.heap.push PySem.W.emptyDict).push (PySem.W.instObj C s.heap.objs.size) }:=by
 have e1:(s.heap.push PySem.W.emptyDict).get? s.heap.objs.size=some PySem.W.emptyDict:=cU s.heap rfl;have e2:((s.heap.push PySem.W.emptyDict).push (PySem.W.instObj C s.heap.objs.size)).get? (s.heap.objs.size+1)=some (PySem.W.instObj C s.heap.objs.size):=by
  have:=cU (s.heap.push PySem.W.emptyDict) (o:=PySem.W.instObj C s.heap.objs.size) rfl
  rwa [eF] at this
 have e3:(s.heap.push PySem.W.emptyDict).Ns s.heap.objs.size (λ_=>none):=⟨PySem.W.emptyDict,#[],_,e1,rfl,(λe he=>absurd he (by simp)),λ_=>rfl⟩;have I1:=I.laid (a:=s.heap.objs.size) (o:=.own (s.heap.objs.size+1)) (h':=s.heap.push PySem.W.emptyDict) (t':=s.toks) (λb u q=>cj _ q) (cR _) ⟨_,e1⟩;refine I1.laid (a:=s.heap.objs.size+1) (o:=.EA C s.heap.objs.size []) (t':=s.toks) (λb u q=>cj _ q) (Nat.le_of_eq (eF _ _)) ?_;have ne:s.heap.objs.size≠s.heap.objs.size+1:=c8 (Nat.lt_succ_self _);refine⟨by rw[AW ne,AM],dk _,ne,e2,λ_=>none,(Heap.Ns1.of_empty e3).at λo q=>cj _ q,λ_=>True.intro,λy hy=>absurd rfl hy⟩
end
section
variable {X:Cx} {o e value:Expr} {f:Str} {pos pos' tpos:Pos} {ta tv:TE}
end
section
variable {X:Cx} {pins:List (Addr×Obj)} {σ:St} {H:Hp} {s:Shared} {A:Around} {E:Value->Shared->Prop} {Q:Value->Shared->Prop} {c:Value} {b:Bool}
inductive Cy(K:PySem.W.Frag)(H:Hp):V->Value->Prop where
 | Aj:Cy K H .Aj (.type "NoneType")
 | bl (x:Bool):Cy K H (.bl x) (.type "bool")
 | int (i:Int):Cy K H (.int i) (.type "int")
 | str (x:Str):Cy K H (.str x) (.type "str")
 | Hd (x:UInt64):Cy K H (.Hd x) (.type "float")
 | AD {a:Addr} {xs:List V} (e:H a=some (.AD xs)):Cy K H (.ref a) (.type "list")
 | C3 {a:Addr} {o:Obj} {xs:List V} (e:H a=some (.C3 o (.AD xs))):Cy K H (.ref a) (.type "list")
 | AF {a:Addr} {xs:List V} (e:H a=some (.AF xs)):Cy K H (.ref a) (.type "tuple")
 | dK {a:Addr} {kvs:List (Ap×V)} (e:H a=some (.dK kvs)):Cy K H (.ref a) (.type "dict")
 | dT {a:Addr} {kvs:List (List Ap×V)} (e:H a=some (.dT kvs)):Cy K H (.ref a) (.type "dict")
 | EA {a C dx:Addr} {fs:List (Str×V)} (e:H a=some (.EA C dx fs)) (cl:NY K C) (ha:PySem.W.findIn K (.ref C) "__class__" = some (some (.builtin "object.__class__")))
   (hn:PySem.W.specialIn K (.builtin "object.__class__") "__get__" = some (some (.builtin "getset_descriptor.__get__"))) (htk:PySem.W.takesIn K (.builtin "object.__class__")=some true)
   (hm:PySem.W.mroIn K C (.type "object")=some true):Cy K H (.ref a) (.ref C)
theorem VM{x:V}{u t:Value}(I:AI X pins σ H s)(rx:Ae x u)(ty:Cy X.K H x t)(e:PySem.W.kitOne X.K t c=some b)(h:∀tk,Q (.bool b) { s with toks:=tk }):
  wpAny (model X.prog X.w) A (call (.builtin "isinstance") [u,c]) Q E s:=by
 cases ty with
 | Aj=>cases (show u=Value.none from rx); exact fq PySem.W.kitx_none I.Cz True.intro e (λz=>nomatch z) h
 | bl y=>cases (show u=Value.bool y from rx); exact fq PySem.W.kitx_bool I.Cz True.intro e (λz=>nomatch z) h
 | int i=>obtain⟨t,q⟩:=(show ∃t,u=Value.int i t from rx); cases q; exact fq PySem.W.kitx_int I.Cz True.intro e (λz=>nomatch z) h
 | str y=>obtain⟨t,q⟩:=(show ∃t,u=Value.str y t from rx); cases q; exact fq PySem.W.kitx_str I.Cz True.intro e (λz=>nomatch z) h
 | Hd y=>obtain⟨t,q⟩:=(show ∃t,u=Value.float y t from rx); cases q; exact fq PySem.W.kitx_float I.Cz True.intro e (λz=>nomatch z) h
 | @AD a xs ea =>
  cases (show u=Value.ref a from rx);obtain⟨_,_,n,_,h1⟩:=(show A9 X.prog X.w H s.heap a (.AD xs) from I.hok a _ ea);exact fq PySem.W.kitx_list I.Cz ⟨_,h1,rfl⟩ e (λz=>nomatch z) h
 | @C3 a ob xs ea =>
  cases (show u=Value.ref a from rx);obtain⟨_,_,_,n,_,h1⟩:=(show A9 X.prog X.w H s.heap a (.C3 ob (.AD xs)) from I.hok a _ ea);exact fq PySem.W.kitx_list I.Cz ⟨_,h1,rfl⟩ e (λz=>nomatch z) h
 | @AF a xs ea =>
  cases (show u=Value.ref a from rx);obtain⟨_,_,_,p,_⟩:=(show A9 X.prog X.w H s.heap a (.AF xs) from I.hok a _ ea);obtain⟨o,h1,h2,_⟩:=p;exact fq PySem.W.kitx_tuple I.Cz ⟨o,h1,h2⟩ e (λz=>nomatch z) h
 | @dK a kvs ea =>
  cases (show u=Value.ref a from rx);obtain⟨_,_,vs,_,p⟩:=(show A9 X.prog X.w H s.heap a (.dK kvs) from I.hok a _ ea);obtain⟨o,es,ep,h1,h2,_⟩:=p;exact fq PySem.W.kitx_dict I.Cz ⟨o,h1,h2.1⟩ e (λz=>nomatch z) h
 | @dT a kvs ea =>
  cases (show u=Value.ref a from rx);obtain⟨_,_,xs,_,o,es,ep,h1,h2,_⟩:=(show A9 X.prog X.w H s.heap a (.dT kvs) from I.hok a _ ea);exact fq PySem.W.kitx_dict I.Cz ⟨o,h1,h2.1⟩ e (λz=>nomatch z) h
 | @EA a C dx fs ea cl ha hn htk hm =>
  cases (show u=Value.ref a from rx);obtain⟨mA,O,_⟩:=XZ I.hok ea;obtain⟨od,J,_⟩:=O.Sm;exact fq (PySem.W.kitx_own (cl.get _) cl.hd ha hn htk hm) I.Cz J e (λz=>nomatch z) h
end
structure Be(k:Nat)(A:Around):Prop where
 hd:A.handled=none
 dp:A.depth+3*k+5<recursionLimit
 un:A.units+16*k+200<cLine
theorem Be.mono{j k:Nat}{A:Around}(r:Be k A)(h:j<=k):Be j A:=⟨r.hd,by have:=r.dp; omega,by have:=r.un; omega⟩
theorem Be.deeper{k:Nat}{A:Around}(r:Be (k+1) A)(env:Env):Be k (A.deeper env) :=
 ⟨r.hd,by have:=r.dp; show A.depth+1+3*k+5<_; omega,by have:=r.un; show A.units+3+16*k+200<_; omega⟩
theorem Be.in1{k:Nat}{A:Around}(r:Be (k+1) A):Be k A.in1 :=
 ⟨r.hd,by have:=r.dp; show A.depth+3*k+5<_; omega,by have:=r.un; show A.units+1+16*k+200<_; omega⟩
theorem Be.depth{k:Nat}{A:Around}(r:Be k A):A.depth<recursionLimit:=by have:=r.dp; omega
theorem Be.units{k:Nat}{A:Around}(r:Be k A):A.units+64<cLine:=by have:=r.un; omega
def B7:TA:=λ_ H Q=>Q [] H
def BQ(ta:TE)(tr:TA):TA:=λσ H Q=>ta σ H λx H1=>tr σ H1 λxs H2=>Q (x :: xs) H2
section
variable {X:Cx} {e:Expr} {es:List Expr} {te:TE} {t:TA} {pos:Pos}
theorem AG:PA X [] B7:=λ_ _ _ _ H Q I h=>Calls.spliced_nil ⟨[],H,I,.nil,h⟩
theorem AA(ha:PE X e te)(hr:PA X es t)(hs:starEach (e :: es) X.env=(false,eval e X.env) :: starEach es X.env:=by rfl):PA X (e :: es) (BQ te t):=by
 intro pos pins s σ H Q I h;rw[hs];show wpAny _ _ (spliced ((false,eval e X.env) :: backTo pos (starEach es X.env))) _ _ s;refine Calls.spliced_cons (AZ (ha pins s σ H _ I h) λu s1 ⟨x,H1,I1,r1,q1⟩=>?_);exact AZ (hr pos pins s1 σ H1 _ I1 q1) λus s2 ⟨xs,H2,I2,r2,q2⟩=>⟨x :: xs,H2,I2,.cons r1 r2,q2⟩
inductive Rr(xs:List V)(H:Hp)(Q:VK):Prop
 | mk (n:xs.length<=sizeLine) (q:∀p,H p=none->Q (.ref p) (AE H p (.AF xs))):Rr xs H Q
inductive Rj(xs:List V)(H:Hp)(Q:VK):Prop
 | mk (n:xs.length<=sizeLine) (q:∀p,H p=none->Q (.ref p) (AE H p (.AD xs))):Rj xs H Q
def K3(t:TA):TE:=λσ H Q=>t σ H λxs H1=>Rr xs H1 Q
def K1(t:TA):TE:=λσ H Q=>t σ H λxs H1=>Rj xs H1 Q
theorem Ao{x1}(h:PA X es t):PE X (.Tuple es x1 pos) (K3 t):=by
 intro pins s σ H Q I hq;refine wpAny_Tuple_spliced (AZ (h pos pins s σ H _ I hq) λus s1 ⟨xs,H1,I1,r,z,q⟩=>⟨by rw[<-r.length]; exact z,?_⟩);have hf:H1 s1.heap.objs.size=none:=I1.hok.fresh (cR _);refine⟨.ref s1.heap.objs.size,AE H1 s1.heap.objs.size (.AF xs),I1.laid (t':=s1.toks) (λb u e=>cj _ e) (cR _) ?_,rfl,q _ hf⟩;exact⟨z,us,r,⟨_,cU _ rfl,rfl,_,rfl⟩,_,cU _ rfl,rfl⟩
theorem B3(h:PA X es t):PE X (.List es pos) (K1 t):=by
 intro pins s σ H Q I hq;refine wpAny_List_spliced (AZ (h pos pins s σ H _ I hq) λus s1 ⟨xs,H1,I1,r,z,q⟩=>⟨by rw[<-r.length]; exact z,?_⟩);have hf:H1 s1.heap.objs.size=none:=I1.hok.fresh (cR _);refine⟨.ref s1.heap.objs.size,AE H1 s1.heap.objs.size (.AD xs),I1.laid (t':=s1.toks) (λb u e=>cj _ e) (cR _) ?_,rfl,q _ hf⟩;exact⟨z,us,0,r,cU _ rfl⟩
end
abbrev Sp:=List V->Hp->VK->XK->Prop
abbrev DP:=List Env->Hp->Shared->XK->Value->Shared->Prop
structure Fz(P:Program)(w:World)(K:PySem.W.Frag)(mg:Str->Option Value)(base:Heap)(A:Around)(outer:List Env)(s:Shared)(H:Hp):Prop where
 frames:A.frames=some outer
 CH:Mod K mg base
 bs:∀b o,base.get? b=some o->s.heap.get? b=some o/\H b=none
 E4:base.objs.size<=s.heap.objs.size
 D2:s.heap.FunFrames base outer
 Gn:∀b∈E9 outer,H b=none
 hok:BN P w H s.heap
 bare:AllBare s.gens
def CE(outer:List Env)(P:Program)(w:World)(H:Hp)(s:Shared)(Q:VK)(u:Value)(s':Shared):Prop :=
 ∃v H',s'.os=s.os/\AllBare s'.gens/\Un (E9 outer) [] H H' s.heap s'.heap/\BN P w H' s'.heap/\Ae v u/\Q v H'
def CR(CX:DP)(outer:List Env)(P:Program)(w:World)(H:Hp)(s:Shared)(Q:VK)(E:XK)(r:Result)(s':Shared):Prop :=
 match r with
 | .ok (.ret u)=>CE outer P w H s Q u s'
 | .ok _=>False
 | .error e=>CX outer H s E e s'
structure AL(P:Program)(w:World)(K:PySem.W.Frag)(mg:Str->Option Value)(base:Heap)(CX:DP)(k:Nat)(f:Addr)(fd:FuncData)(ps:List Str)(sp:Sp):Prop where
 len:∀vs H Q E,sp vs H Q E->vs.length=ps.length
 Jk:∀(A:Around) (outer:List Env) (s:Shared) (H:Hp) (args:Args) (us:List Value) (vs:List V) (Q:VK) (E:XK),Be k A->Fz P w K mg base A outer s H->BindsTo s fd args (ps.zip us)->AX vs us->sp vs H Q E →
  codeAny (model P w) A (.call (.ref f) args) (CR CX outer P w H s Q E) s
theorem AL.mono{P:Program}{w:World}{K:PySem.W.Frag}{mg:Str->Option Value}{base:Heap}{CX:DP}{j k:Nat}{f:Addr}{fd:FuncData}{ps:List Str}{sp:Sp}(F:AL P w K mg base CX j f fd ps sp)(h:j<=k):
  AL P w K mg base CX k f fd ps sp:=⟨F.len,λA outer s H args us vs Q E hr=>F.Jk A outer s H args us vs Q E (hr.mono h)⟩
theorem AL.imp {P:Program} {w:World} {K:PySem.W.Frag} {mg:Str->Option Value} {base:Heap} {CX:DP} {k:Nat} {f:Addr} {fd:FuncData} {ps:List Str} {sp sp':Sp} (F:AL P w K mg base CX k f fd ps sp)
  (h:∀vs H Q E,sp' vs H Q E->sp vs H Q E):AL P w K mg base CX k f fd ps sp' :=
 ⟨λvs H Q E q=>F.len vs H Q E (h _ _ _ _ q),λA outer s H args us vs Q E hr he hb hv hs=>F.Jk A outer s H args us vs Q E hr he hb hv (h _ _ _ _ hs)⟩
theorem Fz.in1{P:Program}{w:World}{K:PySem.W.Frag}{mg:Str->Option Value}{base:Heap}{A:Around}{outer:List Env}{s:Shared}{H:Hp}(e:Fz P w K mg base A outer s H):
  Fz P w K mg base A.in1 outer s H:=⟨e.frames,e.CH,e.bs,e.E4,e.D2,e.Gn,e.hok,e.bare⟩
section
variable {X:Cx} {pins:List (Addr×Obj)} {σ:St} {H:Hp} {s s':Shared}
theorem AI.TH(I:AI X pins σ H s):Fz X.prog X.w X.K X.mg X.base X.A X.stack s H :=
 ⟨I.ok.frames,I.ok.CH,I.bs,dg I.ok.E4 I.sz,I.stack,I.Px,I.hok,I.bare⟩
theorem AI.after{Q:VK}{u:Value}(I:AI X pins σ H s)(h:CE X.stack X.prog X.w H s Q u s'):EP X pins σ Q u s':=by
 obtain⟨v,H',os,bare,un,hok,r,q⟩:=h;obtain⟨hh,g,d,t,os'⟩:=s';obtain rfl:os'=s.os:=os;exact⟨v,H',I.call (h':=hh) (g':=g) (d':=d) (t':=t) (ch:=[]) un hok bare (λb z=>absurd z (by simp)),r,q⟩
end
def Fs(sp:Sp)(dvs:List V)(E:XK)(t:TA):TE:=λσ H Q=>t σ H λvs H1=>sp (vs++dvs) H1 Q E
def Af(K:PySem.W.Frag)(fd:FuncData)(ps:List Str)(ds:List Value):Prop :=
 ∀(s:Shared) (us:List Value),K.In s.heap->(us++ds).length=ps.length->BindsTo s fd ⟨us,[]⟩ (ps.zip (us++ds))
theorem Af.all{K:PySem.W.Frag}{fd:FuncData}{ps:List Str}(h:∀us:List Value,us.length=ps.length->bindArgs fd ⟨us,[]⟩=pure (ps.zip us)):Af K fd ps []:=λs us _ hl=>by
 rw[eD] at hl ⊢;exact .of_eq (h us hl)
def MM(CX:DP)(X:Cx)(E:XK):Prop:=∀(pins:List (Addr×Obj)) (σ:St) (H:Hp) (s:Shared) (e:Value) (s':Shared),AI X pins σ H s->CX X.stack H s E e s'->X.xe e s'
section
variable {X:Cx} {CX:DP} {k:Nat} {f C:Addr} {fd:FuncData} {ps:List Str} {sp:Sp} {dvs:List V} {ds:List Value} {E:XK} {x m:Str} {p pos apos:Pos} {e o:Expr} {es:List Expr} {ta:TE} {t:TA}
theorem Yc {pins:List (Addr×Obj)} {σ:St} {H:Hp} {s:Shared} {Q:VK} {us:List Value} {vs:List V} (F:AL X.prog X.w X.K X.mg X.base CX k f fd ps sp) (hr:Be k X.A) (hb:Af X.K fd ps ds) (hd:AX dvs ds) (hx:MM CX X E)
  (I:AI X pins σ H s) (r:AX vs us) (h:sp (vs++dvs) H Q E):wpAny (model X.prog X.w) X.A (call (.ref f) us) (EP X pins σ Q) X.xe s:=by
 have r2:AX (vs++dvs) (us++ds):=r.append hd;have hl:(us++ds).length=ps.length:=by rw[<-r2.length]; exact F.len _ _ _ _ h
 refine wpAny_call (codeAny_mono (F.Jk X.A X.stack s H ⟨us,[]⟩ (us++ds) (vs++dvs) Q E hr I.TH (hb s us I.Cz hl) r2 h) λr s' hq=>?_);cases r with
 | error e=>exact hx pins σ H s e s' I hq
 | ok fl =>
  cases fl with
  | ret u=>exact I.after hq
  | next=>exact False.elim hq
  | brk=>exact False.elim hq
  | cont=>exact False.elim hq
theorem Ac (F:AL X.prog X.w X.K X.mg X.base CX k f fd ps sp) (hr:Be k X.A) (hg:Gl X x) (hm:X.mg x=some (.ref f)) (hk:PySem.W.keepIn X.K (.ref f)=true) (hb:Af X.K fd ps ds) (hd:AX dvs ds) (hx:MM CX X E)
  (ha:PA X (e :: es) t) (hdb:(x == ("__debug__":Str))=false:=by decide) (he:starEach (e :: es) X.env=(false,eval e X.env) :: starEach es X.env:=by rfl) (hpl:(backTo pos (starEach es X.env)).any (·.1)=false:=by rfl) :
  PE X (.Call (.Name x p) (e :: es) [] pos) (Fs sp dvs E t):=by
 intro pins s σ H Q I h;refine wpAny_Call_Name_kw (XU I hg hm ?_ hdb);refine PySem.W.callWith_K (h₀:=X.base) I.ok.CH.Nf hk (AZ (ha pos pins s σ H _ I h) λus s1 ⟨vs,H1,I1,r,q⟩=>⟨I1.Cz,?_⟩) he hpl;exact Yc F hr hb hd hx I1 r q
end
section
variable {X:Cx} {CX:DP} {k:Nat} {f C:Addr} {fd:FuncData} {ps ks:List Str} {sp:Sp} {E:XK} {x m:Str} {p pos apos kpos:Pos} {e o:Expr} {es:List Expr} {kws:List Keyword} {te ta:TE} {t tk:TA} {nm:Option Str}
variable {g:List Value->List Value->List Value} {gV:List V->List V->List V}
end
structure Ar(N P:List Str)(sc:Scope):Prop where
 kind:sc.kind=.function
 co:sc.isCoroutine=false
 gen:sc.isGenerator=false
 nd:N.Nodup
 pre:N.take P.length=P
 Tn:∀x∈P,sc.names.lookup x=some .local\/sc.names.lookup x=some .cell
 YG:∀y∈sc.names,y.2≠.free
theorem Av{N P:List Str}{sc:Scope}(h1:sc.kind=.function:=by rfl)(h2:sc.isCoroutine=false:=by rfl)(h3:sc.isGenerator=false:=by rfl)(h4:N.Nodup:=by decide +kernel)(h5:N.take P.length=P:=by rfl)(h6:∀x∈P,sc.names.lookup x=some .local\/sc.names.lookup x=some .cell:=by decide +kernel)(h7:∀y∈sc.names,y.2≠.free:=by decide +kernel):Ar N P sc:=⟨h1,h2,h3,h4,h5,h6,h7⟩
abbrev KP(K:PySem.W.Frag)(f:Addr):Prop:=PySem.W.keepIn K (.ref f)=true
theorem Hs:0<=sizeLine:=by decide
theorem sz1:1<=sizeLine:=by decide
theorem sz2:2<=sizeLine:=by decide
theorem CB:3<=sizeLine:=by decide
theorem DO:4<=sizeLine:=by decide
theorem sz5:5<=sizeLine:=by decide
theorem OK{kindOf:Str->Option NameKind}{x:Str}:∀{binds:List (Str×Value)} {m:Str->Option Value},(∀v,(x,v)∉binds)->bindL kindOf binds m x=m x
 | [],_,_=>rfl
 | (n,v) :: r,m,h=>by
  unfold bindL;rw[OK λw hw=>h w (da _ hw)];split
  ·have:x≠n:=by rintro rfl; exact h v dr
   simp[this]
  ·rfl
theorem OX{kindOf:Str->Option NameKind}{x:Str}:∀{binds:List (Str×Value)} {m:Str->Option Value},(∀v,(x,v)∉binds)->bindC kindOf binds m x=m x
 | [],_,_=>rfl
 | (n,v) :: r,m,h=>by
  unfold bindC;rw[OX λw hw=>h w (da _ hw)];split
  ·rfl
  ·have:x≠n:=by rintro rfl; exact h v dr
   simp[this]
theorem Om{kindOf:Str->Option NameKind}{x:Str}{v:Value}:∀{P:List Str} {vs:List Value} {i:Nat} {m:Str->Option Value},P.Nodup->P[i]?=some x->vs[i]?=some v->kindOf x=some .local →
  bindL kindOf (P.zip vs) m x=some v
 | [],_,_,_,_,h,_,_=>by simp at h
 | _ :: _,[],_,_,_,_,h,_=>by simp at h
 | p :: P,w :: vs,0,m,nd,h1,h2,hk=>by
  simp at h1 h2; subst h1; subst h2;show bindL kindOf ((p,w) :: P.zip vs) m p=_;unfold bindL;rw[OK λv hv=>(eG.mp nd).1 (List.of_mem_zip hv).1,if_pos hk];simp
 | p :: P,w :: vs,i+1,m,nd,h1,h2,hk=>by
  show bindL kindOf ((p,w) :: P.zip vs) m x=_;unfold bindL;exact Om (i:=i) (eG.mp nd).2 (by simpa using h1) (by simpa using h2) hk
theorem OW{kindOf:Str->Option NameKind}{x:Str}{v:Value}:∀{P:List Str} {vs:List Value} {i:Nat} {m:Str->Option Value},P.Nodup->P[i]?=some x->vs[i]?=some v->kindOf x≠some .local →
  bindC kindOf (P.zip vs) m x=some v
 | [],_,_,_,_,h,_,_=>by simp at h
 | _ :: _,[],_,_,_,_,h,_=>by simp at h
 | p :: P,w :: vs,0,m,nd,h1,h2,hk=>by
  simp at h1 h2; subst h1; subst h2;show bindC kindOf ((p,w) :: P.zip vs) m p=_;unfold bindC;rw[OX λv hv=>(eG.mp nd).1 (List.of_mem_zip hv).1,if_neg hk];simp
 | p :: P,w :: vs,i+1,m,nd,h1,h2,hk=>by
  show bindC kindOf ((p,w) :: P.zip vs) m x=_;unfold bindC;exact OW (i:=i) (eG.mp nd).2 (by simpa using h1) (by simpa using h2) hk
def Ft(N:List Str)(vs:List V):St:=vs.map some++List.replicate (N.length-vs.length) none
def HS(CX:DP)(P:Program)(w:World)(K:PySem.W.Frag)(mg:Str->Option Value)(base:Heap)(N:List Str)(qual:Str)(scope:Scope)(f:Addr)(cd:Value)(A:Around)(outer:List Env)(s:Shared)(H:Hp)(E:XK):Cx where
 prog:=P
 w:=w
 K:=K
 mg:=mg
 base:=base
 A:=A.deeper (envOfC qual scope s.heap.objs.size f cd)
 N:=N
 s₀:=s
 H₀:=H
 env:=envOfC qual scope s.heap.objs.size f cd
 outer:=outer
 stack:=envOfC qual scope s.heap.objs.size f cd :: outer
 ex:=[]
 BS:=true
 fn:=λ_=>true
 pn:=[]
 xe:=λe s'=>wpAny (model P w) (A.deeper (envOfC qual scope s.heap.objs.size f cd)) (leaving (envOfC qual scope s.heap.objs.size f cd) e) (λ_ s''=>CX outer H s E e s'') (λe' s''=>CX outer H s E e' s'') s'
theorem PY{sc:Scope}{n:Nat}{x:Str}(h:sc.names.lookup x=some .cell):∃c,(cellsFrom n sc.names []).lookup x=some c:=by
 have q:=PySem.W.cellsFrom_some sc.names n [] (.inl h);exact Option.isSome_iff_exists.mp q
theorem Vr {CX:DP} {P:Program} {w:World} {K:PySem.W.Frag} {mg:Str->Option Value} {base:Heap} {N ps:List Str} {qual:Str} {scope:Scope} {f:Addr} {cd:Value} {A:Around} {outer:List Env} {s s1:Shared} {H:Hp} {E:XK} {us:List Value} {vs:List V}
  (S:Ar N ps scope) (hd:A.handled=none) (e0:Fz P w K mg base A outer s H) (hl:vs.length=ps.length) (r:AX vs us)
  (x:InCallC s s.heap.objs.size (bindL (envOfC qual scope s.heap.objs.size f cd).kindOf (ps.zip us) λ_=>none) (cellsFrom (s.heap.objs.size+1) scope.names []) (bindC (envOfC qual scope s.heap.objs.size f cd).kindOf (ps.zip us) λ_=>none) s1) :
  AI (HS CX P w K mg base N qual scope f cd A outer s H E) [] (Ft N vs) H s1:=by
 have hpl:ps.length<=N.length:=by have:=congrArg List.length S.pre; rw[dm] at this; omega
 obtain⟨h1,tk,rfl,hk⟩:=x.done;have noA:∀b:Addr,b∉(HS CX P w K mg base N qual scope f cd A outer s H E).ex:=λb z=>absurd (show b∈([]:List Addr) from z) (by simp)
 refine⟨⟨e0.CH,S.kind,rfl,rfl,cR _,λy z c h1 h2=>?_,λy hy=>?_,λy c _ h=>?_,λ_=>hd,Around.frames_deeper e0.frames,.inr ⟨rfl,rfl⟩,λb z=>absurd z (noA b),e0.bs,e0.E4,λb _ _=>noA b,λb z=>absurd z (noA b),e0.D2,e0.Gn⟩,
  rfl,e0.bare,Un.BJ hk,⟨_,x.toInCall.ns,λi y v h1 h2 h3=>?_⟩,λy c h=>⟨_,x.cell y c h⟩,e0.hok.fresh (cR _),λy c h=>?_,λp hp=>absurd (show p∈([]:List (Addr×Obj)) from hp) (by simp),e0.hok.BJ hk,?_⟩
 ·exact name_of_addr x.apart (fF h1) (fF h2)
 ·have hy:scope.names.lookup y=some .cell\/scope.names.lookup y=some .free:=hy;rcases hy with hy | hy
  ·exact PY hy
  ·exact absurd rfl (S.YG _ (fF hy))
 ·exact Nat.le_of_lt (x.above y c (fF h))
 ·have hi:i<vs.length:=by
   unfold Ft at h2;by_cases hi:i<vs.length
   ·exact hi
   ·rw[ed (by simpa using hi)] at h2;rw[List.getElem?_replicate] at h2;split at h2 <;> cases h2
  have ha:vs[i]?=some v:=by
   unfold Ft at h2;rw[d0 (by simpa using hi),cu] at h2;cases e:vs[i]? with
   | none=>rw[e] at h2; cases h2
   | some a=>rw[e] at h2; cases h2; rfl
  obtain⟨u,hu,rv⟩:=r.get ha;have hp:ps[i]?=some y:=by
   rw[<-S.pre,List.getElem?_take_of_lt (by omega)]; exact h1
  have ndP:ps.Nodup:=by rw[<-S.pre]; exact S.nd.sublist (List.take_sublist _ _)
  refine⟨u,rv,?_⟩;rcases S.Tn y (cq hp) with k | k
  ·exact .inl ⟨k,Om ndP hp hu k⟩
  ·obtain⟨c,e⟩:=PY (n:=s.heap.objs.size+1) k;refine .inr ⟨.inl k,c,e,?_⟩;have q:=x.cell y c e;rw[OW ndP hp hu (by show scope.names.lookup y≠_; rw[k]; decide)] at q;exact q
 ·exact e0.hok.fresh (Nat.le_of_lt (x.above y c (fF h)))
 ·unfold Ft;show _=N.length;rw[cX,cf,List.length_replicate];omega
theorem RQ {CX:DP} {P:Program} {w:World} {K:PySem.W.Frag} {mg:Str->Option Value} {base:Heap} {k:Nat} {f:Addr} {name qual:Str} {params:Arguments} {body:List Stmt} {scope:Scope} {dV kV doc pm cdv ct oc:Value} {an od:Option Addr}
  {osl:Array (Option Value)} {N ps:List Str} {sp:Sp} (lk:K.lookup f=some ⟨oc,od,.func (PySem.W.fnOf name qual params body scope dV kV doc pm an cdv ct),osl⟩) (hcd:PySem.W.codeIn K cdv qual=true) (S:Ar N ps scope)
  (len:∀vs H Q E,sp vs H Q E->vs.length=ps.length)
  (hbody:∀(A:Around) (outer:List Env) (s:Shared) (H:Hp) (vs:List V) (Q:VK) (E:XK),Be k (A.deeper (envOfC qual scope s.heap.objs.size f cdv))->sp vs H Q E →
   ∃t,Bu (HS CX P w K mg base N qual scope f cdv A outer s H E) body t/\t { nx:=λ_ H'=>Q .Aj H',rt:=Q } (Ft N vs) H) :
  AL P w K mg base CX (k+1) f (PySem.W.fnOf name qual params body scope dV kV doc pm an cdv ct) ps sp:=by
 refine⟨len,λA outer s H args us vs Q E hr e0 hb r hsp=>?_⟩;have hl:=len _ _ _ _ hsp;have KX:K.In s.heap:=e0.CH.Nf.keeps λb o e=>(e0.bs b o e).1
 have lim:s.heap.NoLimit:=e0.CH.nolimit.keeps λb o e=>(e0.bs b o e).1
 have hkind:∀y∈ps.zip us,scope.names.lookup y.1=some .local\/(scope.names.lookup y.1=some .cell/\((cellsFrom (s.heap.objs.size+1) scope.names []).lookup y.1).isSome=true):=λ⟨n,v⟩ hy=>by
  rcases S.Tn n (List.of_mem_zip hy).1 with q | q
  ·exact .inl q
  ·exact .inr ⟨q,PySem.W.cellsFrom_some _ _ _ (.inl q)⟩
 refine codeAny_call_function hr.depth (KX _ _ lk) rfl S.co S.gen rfl (PySem.W.codeRec_of KX hcd) (hb _ _ _ _ ?_);refine wpAny_newFunctionEnv_cells S.kind hkind λenv he s1 x=>?_
 subst he;refine⟨lim.keeps x.toInCall.keep,codeAny_func ?_⟩;obtain⟨t,ht,hq⟩:=hbody A outer s H vs Q E (hr.deeper _) hsp;have I:AI (HS CX P w K mg base N qual scope f cdv A outer s H E) [] (Ft N vs) H s1:=Vr S hr.hd e0 hl r x;refine wpAny_mono (ht [] s1 (Ft N vs) H _ I hq) (λfl s' hs=>?_) λe s' hs=>hs
 have fin:∀{σ':St} {H':Hp} {v:V} {u:Value},AI (HS CX P w K mg base N qual scope f cdv A outer s H E) [] σ' H' s'->Ae v u->Q v H'->CE outer P w H s Q u s' :=
  λ{σ' H' v u} J rv q=>⟨v,H',J.os,J.bare,J.base,J.hok,rv,q⟩
 cases fl with
 | ret u =>
  obtain⟨v,σ',H',J,rv,q⟩:=hs;exact fin J rv q
 | next =>
  obtain⟨σ',H',J,q⟩:=hs;exact fin (v:=V.Aj) (u:=Value.none) J rfl q
 | brk =>
  obtain⟨_,_,_,q⟩:=hs;exact False.elim q
 | cont =>
  obtain⟨_,_,_,q⟩:=hs;exact False.elim q
section
variable {X:Cx} {x:Str} {p pos:Pos} {e:Expr} {es:List Expr} {t:TA} {id T:String} {r:List V->Hp->VK->Prop}
def Nh(r:List V->Hp->VK->Prop)(t:TA):TE:=λσ H Q=>t σ H λvs H1=>r vs H1 Q
theorem As (hc:CT X (.builtin id) r) (hg:Gl X x) (hm:X.mg x=none) (hv:bootBuiltins x=some (.builtin id)) (ha:PA X (e :: es) t) (hn:x≠"__name__":=by decide) (hdb:(x == ("__debug__":Str))=false:=by decide)
  (he:starEach (e :: es) X.env=(false,eval e X.env) :: starEach es X.env:=by rfl) (hpl:(backTo pos (starEach es X.env)).any (·.1)=false:=by rfl):PE X (.Call (.Name x p) (e :: es) [] pos) (Nh r t):=by
 intro pins s σ H Q I h;refine wpAny_Call_Name_kw (Dt I hg hm hv ?_ hn hdb);exact PyProof.Rows.callWith_builtin1 (AZ (ha pos pins s σ H _ I h) λus s1 ⟨vs,H1,I1,r1,q1⟩=>hc pins s1 σ H1 vs us Q I1 r1 q1) he hpl
theorem Dr (hc:CT X (.type T) r) (hg:Gl X x) (hm:X.mg x=none) (hv:bootBuiltins x=some (.type T)) (ha:PA X (e :: es) t) (hn:x≠"__name__":=by decide) (hdb:(x == ("__debug__":Str))=false:=by decide)
  (he:starEach (e :: es) X.env=(false,eval e X.env) :: starEach es X.env:=by rfl) (hpl:(backTo pos (starEach es X.env)).any (·.1)=false:=by rfl):PE X (.Call (.Name x p) (e :: es) [] pos) (Nh r t):=by
 intro pins s σ H Q I h;refine wpAny_Call_Name_kw (Dt I hg hm hv ?_ hn hdb);exact eh (AZ (ha pos pins s σ H _ I h) λus s1 ⟨vs,H1,I1,r1,q1⟩=>hc pins s1 σ H1 vs us Q I1 r1 q1) he hpl
end
end L2
namespace HT
open PySem PyProof.Rows
section
open PySem.SeqAt
open PySem.AutoSeq1 (wpAny_loadPart')
open PySem.MeetsSeq PySem.MeetsSeq2 PySem.MeetsSeq3
end
section
variable {prog:Program} {w:World} {A:Around} {E:Value->Shared->Prop} {s:Shared}
theorem XI {t b:Addr} {vs ws:List Value} {Q:Value->Shared->Prop} (ht:IsTup s.heap t vs.toArray) (hb:IsTup s.heap b ws.toArray) (hv:vs≠[])
  (h1:ws=[]->Q (.ref t) s) (h2:ws≠[]->Q (.ref s.heap.objs.size) { s with heap:=s.heap.push { cls:=.type "tuple",data:=.seq (vs++ws).toArray } })
  (hsz:vs.length+ws.length<=sizeLine):wpAny (model prog w) A (binaryOp .Add (.ref t) (.ref b)) Q E s:=by
 obtain⟨⟨cls,dd,data,sl⟩,ho,hc,n,hd⟩:=id ht;obtain⟨⟨cls2,dd2,data2,sl2⟩,ho2,hc2,n2,hd2⟩:=id hb;simp only at hc hd hc2 hd2;subst hc hd hc2 hd2;have e:vs.toArray++ws.toArray=(vs++ws).toArray:=by simp
 by_cases hw:ws=[]
 ·exact concat_meets ⟨_,ho,rfl⟩ ⟨_,ho2,rfl⟩ noFill_tuple_add seq_tuple_add PySem.F.slot_tuple_add PySem.F.entry_tuple_add (PySem.F.args_tuple_add_2 _ _)
   (tuple_addW1 t b vs.toArray ws.toArray n n2 dd dd2 sl sl2 (by simpa using hv) (by simp[hw])) ⟨ho,ho2,h1 hw⟩
 ·refine concat_meets ⟨_,ho,rfl⟩ ⟨_,ho2,rfl⟩ noFill_tuple_add seq_tuple_add PySem.F.slot_tuple_add PySem.F.entry_tuple_add (PySem.F.args_tuple_add_2 _ _)
   (tuple_addW2 t b vs.toArray ws.toArray n n2 dd dd2 sl sl2 (by simpa using hv) (by simpa using hw) (by rw[cx,cx]; exact hsz)) ⟨ho,ho2,?_⟩
  rw[e];exact h2 hw
def AY(n d:Nat):Option Int->Nat
 | none=>d
 | some v=>if v<0 then (v+(n:Int)).toNat else min v.toNat n
theorem Im(n d k:Nat):AY n d (some (k:Int))=min k n:=by
 show(if (k:Int)<0 then ((k:Int)+(n:Int)).toNat else min (k:Int).toNat n)=min k n;rw[if_neg (by omega),fD]
theorem Y5(n d:Nat)(hd:d<=n)(o:Option Int):AY n d o<=n:=by
 cases o with
 | none=>exact hd
 | some v =>
  show(if v<0 then (v+(n:Int)).toNat else min v.toNat n)<=n;by_cases hv:v<0
  ·rw[if_pos hv]; omega
  ·rw[if_neg hv]; exact Nat.min_le_right _ _
theorem P4(v:Int)(n d:Nat):(if v<0 then max (v+(n:Int)) 0 else min v (n:Int))=((AY n d (some v):Nat):Int):=by
 show(if v<0 then max (v+(n:Int)) 0 else min v (n:Int))=(((if v<0 then (v+(n:Int)).toNat else min v.toNat n):Nat):Int);by_cases hv:v<0
 ·simp only[if_pos hv]; omega
 ·simp only[if_neg hv]; omega
theorem UX(lo hi:Option Int)(n:Nat):Builtin.Slice.sliceAdjust lo hi 1 (n:Int)=(((AY n 0 lo:Nat):Int),((AY n n hi:Nat):Int)):=by
 have h1:¬((1:Int)<0):=by omega
 unfold Builtin.Slice.sliceAdjust;simp only[h1,if_false];refine Prod.ext ?_ ?_
 ·cases lo with
  | none=>rfl
  | some v=>exact P4 v n 0
 ·cases hi with
  | none=>rfl
  | some v=>exact P4 v n n
theorem Uh(i j:Nat):Builtin.Slice.slicePlaces (i:Int) (j:Int) 1=j-i:=by
 unfold Builtin.Slice.slicePlaces;have h1:(1:Int) > 0:=by omega
 simp only[h1,if_true,Int.ediv_one];split <;> omega
theorem N8{v:Value}{o:Option Int}{Q:Option Int->Shared->Prop}(p:IsPart v o)(h:Q o s):wpAny (model prog w) A (Builtin.Slice.slicePartIndex v) Q E s:=by
 cases p with
 | none=>exact slicePart_none h
 | int i t=>exact slicePart_int h
theorem Nr {sl:Addr} {vl vu:Value} {lo hi:Option Int} {n:Nat} {Q:Int×Int×Nat->Shared->Prop} (hs:s.heap.IsSliceOf sl vl vu .none) (pl:IsPart vl lo) (pu:IsPart vu hi)
  (h:Q (((AY n 0 lo:Nat):Int),1,AY n n hi-AY n 0 lo) s):wpAny (model prog w) A (Builtin.Slice.sliceApplied (.ref sl) (pure (n:Int))) Q E s:=by
 obtain⟨os,hos,hcs,hds⟩:=id hs;unfold Builtin.Slice.sliceApplied Builtin.Slice.sliceFields;refine wpAny_bind (wpAny_bind (wpAny_field hos hds (x:=vl) rfl (wpAny_bind (wpAny_field hos hds (x:=vu) rfl (wpAny_bind (wpAny_field hos hds (x:=.none) rfl (wpAny_pure ?_)))))));refine wpAny_bind (slicePart_none ?_);show wpAny _ _ (if ((1:Int) == 0)=true then _ else _) _ _ s;rw[if_neg (by decide)];refine wpAny_bind (N8 pl (wpAny_bind (N8 pu (wpAny_bind (wpAny_pure ?_)))));show wpAny _ _ (match Builtin.Slice.sliceAdjust lo hi 1 (n:Int) with | (lo,hi)=>pure (lo,(1:Int),Builtin.Slice.slicePlaces lo hi 1)) _ _ s;rw[UX lo hi n];show wpAny _ _ (pure (((AY n 0 lo:Nat):Int),(1:Int),Builtin.Slice.slicePlaces ((AY n 0 lo:Nat):Int) ((AY n n hi:Nat):Int) 1)) _ _ s;rw[Uh];exact wpAny_pure h
theorem Vw(xs:Array Value)(i k:Nat):((List.range k).filterMap λ(m:Nat)=>xs[((i:Int)+(m:Int)*1).toNat]?).toArray=((xs.toList.drop i).take k).toArray:=by
 have e:(λ(m:Nat)=>xs[((i:Int)+(m:Int)*1).toNat]?)=λm=>xs[i+m]?:=by
  funext m
  have:((i:Int)+(m:Int)*1).toNat=i+m:=by omega
  rw[this]
 rw[e]
 have:=pick_run xs i k
 rw[List.filterMap_map] at this;have e2:((λx=>xs[x]?) ∘ λx=>i+x)=λm=>xs[i+m]?:=rfl
 rw[e2] at this;rw[this]
theorem Tt {t sl:Addr} {items:Array Value} {vl vu:Value} {lo hi:Option Int} {Q:Value->Shared->Prop} (ht:IsTup s.heap t items) (hs:s.heap.IsSliceOf sl vl vu .none) (pl:IsPart vl lo) (pu:IsPart vu hi)
  (hw:¬(AY items.size 0 lo=0/\AY items.size items.size hi=items.size))
  (h:Q (.ref s.heap.objs.size) { s with heap:=s.heap.push { cls:=.type "tuple",data:=.seq ((items.toList.drop (AY items.size 0 lo)).take (AY items.size items.size hi-AY items.size 0 lo)).toArray } })
  (hsz:items.size<=sizeLine):wpAny (model prog w) A (getItem (.ref t) (.ref sl)) Q E s:=by
 have htake:sizeOk (.seq ((items.toList.drop (AY items.size 0 lo)).take (AY items.size items.size hi-AY items.size 0 lo)).toArray):=by
  show((items.toList.drop (AY items.size 0 lo)).take (AY items.size items.size hi-AY items.size 0 lo)).toArray.size<=sizeLine;rw[cx,dm,dN,dw];omega
 have hj:AY items.size items.size hi<=items.size:=Y5 _ _ (cR _) hi;obtain⟨os,hos,hcs,hds⟩:=id hs;have hTs:s.TypeIs (.ref sl) "slice":=⟨os,hos,hcs⟩;unfold getItem
 try with_reducible refine wpAny_holding ?_
 first | refine wpAny_bind (wpAny_pure ?_) | skip
 refine wpAny_bind (wpAny_sequenceKey ht.typeIs (by decide) ?_);refine wpAny_bind (wpAny_callSpecial?_slot (name:=Str.ofString "__getitem__") ht.typeIs eZ
  (wpAny_call_entry eZ ht.typeIs entry_tuple_getitem ?_ (args_tuple_getitem _ _)))
 show wpAny _ _ (Builtin.Tuple.tupleItemsOf (.ref t) >>= _) _ _ s;refine wpAny_bind (tupleItemsOf_ ht ?_);refine wpAny_bind (wpAny_typeOf hTs ?_);rw[if_pos (by decide)];refine wpAny_bind (Nr hs pl pu ?_);have hno:¬((((AY items.size 0 lo:Nat):Int) == 0 && (1:Int) == 1 && (AY items.size items.size hi-AY items.size 0 lo) == items.size)=true):=by
  intro q;rw[dO,dO] at q;have q1:((AY items.size 0 lo:Nat):Int)=0:=eq_of_beq q.1.1;have q2:AY items.size items.size hi-AY items.size 0 lo=items.size:=eq_of_beq q.2;exact hw ⟨by omega,by omega⟩
 show wpAny _ _ (if (((AY items.size 0 lo:Nat):Int) == 0 && (1:Int) == 1 && (AY items.size items.size hi-AY items.size 0 lo) == items.size)=true then _ else _) _ _ s;rw[if_neg hno,Vw]
 first
  | exact wpAny_bind (m:=Builtin.Tuple.tupleExact _) (wpAny_newObj_type (wpAny_pure ⟨_,rfl,wpAny_pure h⟩) htake)
  | exact wpAny_bind (m:=Builtin.Tuple.tupleExact _) (wpAny_newObj_type (wpAny_bind (wpAny_pure (wpAny_pure ⟨_,rfl,wpAny_pure h⟩))) htake)
  | exact wpAny_bind (wpAny_bind (m:=Builtin.Tuple.tupleExact _) (wpAny_newObj_type (wpAny_pure (wpAny_pure ⟨_,rfl,wpAny_pure h⟩)) htake))
  | exact wpAny_bind (wpAny_bind (m:=Builtin.Tuple.tupleExact _) (wpAny_newObj_type (wpAny_pure ⟨_,rfl,wpAny_pure h⟩) htake))
end
end HT
namespace L2
open PySem PySem.Spec PyProof.Rows
abbrev TO:=St->Hp->(Option Int->Hp->Prop)->Prop
def PO(X:Cx)(e:Option Expr)(t:TO):Prop :=
 ∀(pins:List (Addr×Obj)) (s:Shared) (σ:St) (H:Hp) (Q:Option Int->Hp->Prop),AI X pins σ H s->t σ H Q →
  wpAny (model X.prog X.w) X.A (evalPart e X.env) (λu s'=>∃o H',AI X pins σ H' s'/\IsPart u o/\Q o H') X.xe s
def MA:TO:=λ_ H Q=>Q none H
def MZ(t:TE):TO:=λσ H Q=>t σ H λx H1=>∃i,x=.int i/\Q (some i) H1
theorem Jo{ns:List Int}:∀{us:List Value},AX (ns.map V.int) us->IntsAre us ns:=by
 induction ns with
 | nil=>intro us r; rw[List.map_nil] at r; cases r; exact .nil
 | cons n ns ih =>
  intro us r;rw[eJ] at r;cases r with
  | cons r1 r2 =>
   obtain⟨t,e⟩:=r1;subst e;exact .cons n t (ih r2)
section
variable {X:Cx} {e:Expr} {te:TE} {lo hi:Option Expr} {tl th:TO} {pos p2:Pos}
theorem FG:PO X none MA:=by
 intro pins s σ H Q I h;rw[evalPart_none];exact wpAny_pure ⟨none,H,I,.none,h⟩
theorem EG(h:PE X e te):PO X (some e) (MZ te):=by
 intro pins s σ H Q I hw;rw[evalPart_some];refine AZ (h pins s σ H _ I hw) λu s1 ⟨x,H1,I1,r1,q1⟩=>?_
 obtain⟨i,rfl,q⟩:=q1;obtain⟨t,rfl⟩:=r1;exact⟨some i,H1,I1,.int i t,q⟩
def HZ(X:Cx)(r:V->Option Int->Option Int->Hp->VK->Prop):Prop :=
 ∀(pins:List (Addr×Obj)) (s:Shared) (σ:St) (H:Hp) (x:V) (v vl vu:Value) (lo hi:Option Int) (sl:Addr) (Q:VK),AI X pins σ H s->Ae x v->s.heap.IsSliceOf sl vl vu .none->IsPart vl lo->IsPart vu hi->r x lo hi H Q →
  ∃T id,typeLookup (.type T) "__getitem__" = pure (some (.builtin id))/\s.TypeIs v T/\wpAny (model X.prog X.w) X.A (getItem v (.ref sl)) (EP X pins σ Q) X.xe s
def NX(r:V->Option Int->Option Int->Hp->VK->Prop)(te:TE)(tl th:TO):TE:=λσ H Q=>te σ H λx H1=>tl σ H1 λl H2=>th σ H2 λu H3=>r x l u H3 Q
theorem Eg{r:V->Option Int->Option Int->Hp->VK->Prop}(hr:HZ X r)(he:PE X e te)(hl:PO X lo tl)(hu:PO X hi th):PE X (.Subscript e (.Slice lo hi none p2) pos) (NX r te tl th):=by
 intro pins s σ H Q I h;refine Subscript_ (AZ (he pins s σ H _ I h) λv s1 ⟨x,H1,I1,r1,q1⟩=>?_);refine wpAny_Slice (AZ (hl pins s1 σ H1 _ I1 q1) λvl s2 ⟨l,H2,I2,pl,q2⟩=>AZ (hu pins s2 σ H2 _ I2 q2) λvu s3 ⟨u,H3,I3,pu,q3⟩=>?_);rw[evalPart_none];refine wpAny_pure ?_;have I4:AI X pins σ H3 { s3 with heap:=s3.heap.push { cls:=.type "slice",data:=.fields #[vl,vu,.none] } }:=I3.BJ (t':=s3.toks) λb ob q=>cj _ q
 obtain⟨T,id,hT,ht,hg⟩:=hr pins { s3 with heap:=s3.heap.push { cls:=.type "slice",data:=.fields #[vl,vu,.none] } } σ H3 x v vl vu l u s3.heap.objs.size Q I4 r1 (Heap.IsSliceOf.new ..) pl pu q3;show wpAny (model X.prog X.w) X.A (subscriptTail e (.Slice lo hi none p2) v (.ref s3.heap.objs.size)) (EP X pins σ Q) X.xe { s3 with heap:=s3.heap.push { cls:=.type "slice",data:=.fields #[vl,vu,.none] } };exact tail_any (ops:=[.ref s3.heap.objs.size,v]) ht hT hg (by with_unfolding_all rfl)
def CU(xs:List V)(lo hi:Option Int):List V:=(xs.drop (HT.AY xs.length 0 lo)).take (HT.AY xs.length xs.length hi-HT.AY xs.length 0 lo)
theorem Nz(xs:List V)(lo hi:Option Int):(CU xs lo hi).length<=xs.length:=by
 unfold CU;rw[dm,dN];omega
def Sz(K:PySem.W.Frag):V->Option Int->Option Int->Hp->VK->Prop:=λx lo hi H Q=>∃a xs,x=.ref a/\AO K H a xs /\
 ¬(HT.AY xs.length 0 lo=0/\HT.AY xs.length xs.length hi=xs.length)/\∀p,H p=none->Q (.ref p) (AE H p (.AF (CU xs lo hi)))
theorem MQ:HZ X (Sz X.K):=by
 intro pins s σ H x v vl vu lo hi sl Q I rx hs pl pu h;obtain⟨a,xs,rfl,hx,hw,q⟩:=h;cases rx;obtain⟨its,r,ht,hz⟩:=I.tuple hx;have hlen:its.toArray.size=xs.length:=by rw[cx]; exact r.length.symm
 refine⟨"tuple",_,eZ.lookup,ht.typeIs,?_⟩;refine HT.Tt ht hs pl pu (by rw[hlen]; exact hw) ?_ (by rw[hlen]; exact hz);rw[hlen];refine⟨.ref s.heap.objs.size,_,I.laid (t':=s.toks) (o:=.AF (CU xs lo hi)) (λb ob q=>cj _ q) (cR _) ?_,rfl,q _ (I.hok.fresh (cR _))⟩;exact⟨dg (Nz xs lo hi) hz,_,(r.drop (HT.AY xs.length 0 lo)).take (HT.AY xs.length xs.length hi-HT.AY xs.length 0 lo),IsTup.new _ _,_,cU _ rfl,rfl⟩
def SO(K:PySem.W.Frag):R2:=λx y H Q=>∃a b xs ys,x=.ref a/\y=.ref b/\AO K H a xs/\AO K H b ys/\xs≠[]/\xs.length+ys.length<=sizeLine /\
 (ys=[]->Q (.ref a) H)/\(ys≠[]->∀p,H p=none->Q (.ref p) (AE H p (.AF (xs++ys))))
theorem AX.L8{xs:List V}{us:List Value}(r:AX xs us):us=[]↔xs=[]:=by
 cases r with
 | nil=>simp
 | cons _ _=>simp
theorem QE:By X (binaryOp .Add) (SO X.K):=by
 intro pins s σ H x y v u Q I rx ry h;obtain⟨a,b,xs,ys,rfl,rfl,ha,hb,hx,hz,q1,q2⟩:=h;cases rx;cases ry;obtain⟨its,r1,p1,_⟩:=I.tuple ha;obtain⟨its2,r2,p2,_⟩:=I.tuple hb;refine HT.XI p1 p2 (λz=>hx (r1.L8.mp z)) (λz=>⟨.ref a,H,I,rfl,q1 (r2.L8.mp z)⟩) (λz=>?_) (by rw[<-r1.length,<-r2.length]; exact hz);refine⟨.ref s.heap.objs.size,_,I.laid (t':=s.toks) (o:=.AF (xs++ys)) (λb ob q=>cj _ q) (cR _) ?_,rfl,q2 (λw=>z (r2.L8.mpr w)) _ (I.hok.fresh (cR _))⟩;exact⟨by rw[cX]; exact hz,_,r1.append r2,IsTup.new _ _,_,cU _ rfl,rfl⟩
def E7(n:Nat)(i:Int):Option Nat:=if 0<=i then (if i<n then some i.toNat else none) else if -(n:Int)<=i then some (i+n).toNat else none
def BI{α:Type}(xs:List α)(i:Int):Option α:=(E7 xs.length i).bind λj=>xs[j]?
theorem QO{n:Nat}{i:Int}{j:Nat}(h:E7 n i=some j):seqIndex? i n=some j/\j<n/\-(n:Int)<=i/\i<n:=by
 unfold E7 at h;by_cases h0:0<=i
 ·rw[if_pos h0] at h;by_cases h1:i<n
  ·rw[if_pos h1] at h;have e:i.toNat=j:=Option.some.inj h;exact⟨by rw[seqIndex_of h0 h1,e],by omega,by omega,h1⟩
  ·rw[if_neg h1] at h; cases h
 ·rw[if_neg h0] at h;by_cases h1:-(n:Int)<=i
  ·rw[if_pos h1] at h;have e:(i+n).toNat=j:=Option.some.inj h;exact⟨by rw[seqIndex_neg (by omega) h1,e],by omega,h1,by omega⟩
  ·rw[if_neg h1] at h; cases h
theorem P9{α:Type}{xs:List α}{i:Int}{v:α}(h:BI xs i=some v):∃j,seqIndex? i xs.length=some j/\xs[j]?=some v/\j<xs.length/\-(xs.length:Int)<=i/\i<xs.length:=by
 unfold BI at h;cases e:E7 xs.length i with
 | none=>rw[e] at h; cases h
 | some j =>
  rw[e] at h;obtain⟨h1,h2,h3,h4⟩:=QO e;exact⟨j,h1,h,h2,h3,h4⟩
theorem Aq{α:Type}{xs:List α}{j:Nat}{v:α}(h:xs[j]?=some v):BI xs (j:Int)=some v:=by
 have hj:j<xs.length:=(cm.mp h).1;have e:E7 xs.length (j:Int)=some j:=by
  unfold E7;rw[if_pos (by omega),if_pos (by omega)]; simp
 unfold BI; rw[e]; exact h
def L6(b:Expr):Prop:=∀o i,subscripted b false o i=operate [o,i] (getItem o i)
def Jg(X:Cx)(r:R2):Prop :=
 ∀(value slice:Expr) (pins:List (Addr×Obj)) (s:Shared) (σ:St) (H:Hp) (x y:V) (v u:Value) (Q:VK),AI X pins σ H s->Ae x v->Ae y u->r x y H Q →
  subscripted slice false v u=operate [v,u] (getItem v u)->wpAny (model X.prog X.w) X.A (subscriptTail value slice v u) (EP X pins σ Q) X.xe s
def TY(X:Cx)(id:String)(r:V->List V->Hp->VK->Prop):Prop :=
 ∀(pins:List (Addr×Obj)) (s:Shared) (σ:St) (H:Hp) (x:V) (xs:List V) (v:Value) (us:List Value) (Q:VK),AI X pins σ H s->Ae x v->AX xs us->r x xs H Q →
  wpAny (model X.prog X.w) X.A (call (.builtin id) (v :: us)) (EP X pins σ Q) X.xe s
variable {a b:Expr} {ta tb:TE}
theorem Ct{r:R2}(hr:Jg X r)(ha:PE X a ta)(hb:PE X b tb)(hs:L6 b):PE X (.Subscript a b pos) (BM r ta tb):=by
 intro pins s σ H Q I h;exact Subscript_ (Mq ha hb I h λv u s2 x y H2 I2 rx ry q=>hr a b pins s2 σ H2 x y v u Q I2 rx ry q (hs _ _))
inductive S7(K:PySem.W.Frag)(x y:V)(H:Hp)(Q:VK):Prop
 | mk (p:Addr) (xs:List V) (i:Int) (v:V) (a:x=.ref p) (b:y=.int i) (c:AJ K H p xs) (d:BI xs i=some v) (q:Q v H):S7 K x y H Q
inductive TC(K:PySem.W.Frag)(x y:V)(H:Hp)(Q:VK):Prop
 | mk (p:Addr) (xs:List V) (i:Int) (v:V) (a:x=.ref p) (b:y=.int i) (c:AO K H p xs) (d:BI xs i=some v) (q:Q v H):TC K x y H Q
def Gf(K:PySem.W.Frag):R2:=λx y H Q=>S7 K x y H Q
def E2(K:PySem.W.Frag):R2:=λx y H Q=>TC K x y H Q
theorem KC:Jg X (Gf X.K):=by
 intro value slice pins s σ H x y v u Q I rx ry h hs;obtain⟨p,xs,i,z,rfl,rfl,hq,he,q⟩:=h;cases rx;obtain⟨t,rfl⟩:=ry;obtain⟨its,r,pl,hz⟩:=I.list hq;obtain⟨j,h1,h2,h3,h4,h5⟩:=P9 he;obtain⟨w,ew,rw'⟩:=r.get h2;have hl:=r.length;have hn:=JD;have fin:EP X pins σ Q w s:=⟨z,H,I,rw',q⟩;by_cases h0:0<=i
 ·have hj:i.toNat=j:=by
   rw[seqIndex_of h0 h5] at h1;exact Option.some.inj h1
  exact item_listR pl.isList h0 (by omega) (by rw[hj]; simpa using ew) fin hs
 ·have hj:(i+(its.toArray.size:Int)).toNat=j:=by
   rw[seqIndex_neg (by omega) h4] at h1;rw[cx,<-hl];exact Option.some.inj h1
  exact subscriptTail_builtinR (x:=w) pl.isList.typeIs slot_list_getitem.lookup
   (wpAny_getItem_list_neg (Q:=λr s'=>r=w/\EP X pins σ Q r s') pl.isList (by omega) (by rw[cx] <;> omega) (by omega) (by rw[hj]; simpa using ew) ⟨rfl,fin⟩) hs
theorem Du:Jg X (E2 X.K):=by
 intro value slice pins s σ H x y v u Q I rx ry h hs;obtain⟨p,xs,i,z,rfl,rfl,hq,he,q⟩:=h;cases rx;obtain⟨t,rfl⟩:=ry;obtain⟨its,r,pl,hz⟩:=I.tuple hq;obtain⟨j,h1,h2,h3,h4,h5⟩:=P9 he;obtain⟨w,ew,rw'⟩:=r.get h2;have hl:=r.length;have hn:=JD;have fin:EP X pins σ Q w s:=⟨z,H,I,rw',q⟩;exact subscriptTail_builtinR (x:=w) pl.typeIs slot_tuple_getitem.lookup
  (getItem_tuple (j:=j) (Q:=λr s'=>r=w/\EP X pins σ Q r s') pl (by omega) (by omega) (by rw[cx,<-hl]; exact h1) (by simpa using ew) ⟨rfl,fin⟩) hs
theorem Uu(its:List Value)(n j:Nat)(u:Value):Obj.mapSeq (·.setIfInBounds j u) { cls:=.type "list",data:=.seq its.toArray n }={ cls:=.type "list",data:=.seq (its.set j u).toArray n }:=by
 simp[Obj.mapSeq]
theorem AI.AD{pins:List (Addr×Obj)}{σ:St}{H:Hp}{s:Shared}{p:Addr}{xs:List V}(I:AI X pins σ H s)(h:H p=some (.AD xs)):
  ∃(its:List Value) (n:Nat),AX xs its/\s.heap.get? p=some { cls:=.type "list",data:=.seq its.toArray n }/\xs.length<=sizeLine:=by
 obtain⟨z,its,n,r,e⟩:=I.hok p _ h;exact⟨its,n,r,e,z⟩
theorem AI.Yg {pins:List (Addr×Obj)} {σ:St} {H:Hp} {s:Shared} {p:Addr} {xs ys:List V} {its its':List Value} {n n':Nat} {f:Obj->Obj} (I:AI X pins σ H s) (h:H p=some (.AD xs))
  (ho:s.heap.get? p=some { cls:=.type "list",data:=.seq its.toArray n }) (hf:f { cls:=.type "list",data:=.seq its.toArray n }={ cls:=.type "list",data:=.seq its'.toArray n' }) (r:AX ys its') (hz:ys.length<=sizeLine) (t:Nat) :
  AI X pins σ (AE H p (.AD ys)) { s with heap:=s.heap.update p f,toks:=t }:=by
 have e:(s.heap.update p f).get? p=some { cls:=.type "list",data:=.seq its'.toArray n' }:=by
  rw[fJ f ho (by rw[hf] <;> rfl),hf]
 refine I.Eu (x:=p) (e:=p) (by rw[h]; trivial) (.inl rfl) (λb u hb q=>(eR _ _ (eK hb)).trans q) ⟨_,e⟩ ?_;exact⟨hz,its',n',r,e⟩
inductive SN(o i v:V)(H:Hp)(Q:Hp->Prop):Prop
 | mk (p:Addr) (xs:List V) (k:Int) (j:Nat) (e1:o=.ref p) (e2:i=.int k) (h:H p=some (.AD xs)) (x:E7 xs.length k=some j) (q:Q (AE H p (.AD (xs.set j v)))):SN o i v H Q
def Z8:V->V->V->Hp->(Hp->Prop)->Prop:=λo i v H Q=>SN o i v H Q
theorem WB:Si X Z8:=by
 intro pins s σ H o i v ov iv u Q I ro ri rv h;obtain⟨p,xs,k,j,rfl,rfl,hp,hj,q⟩:=h;cases ro;obtain⟨t,rfl⟩:=ri;obtain⟨its,n,r,ho,hz⟩:=I.AD hp;obtain⟨h1,h2,h3,h4⟩:=QO hj;have hl:=r.length;have hn:=JD;have I':AI X pins σ (AE H p (.AD (xs.set j v))) { s with heap:=s.heap.update p (Obj.mapSeq (·.setIfInBounds j u)) } :=
  I.Yg hp ho (Uu its n j u) (r.set rv j) (by rw[List.length_set]; exact hz) s.toks
 by_cases h0:0<=k
 ·have hk:k.toNat=j:=by
   rw[seqIndex_of h0 h4] at h1;exact Option.some.inj h1
  exact PySem.W.ki_setAt ho h0 (by omega) (by rw[cx,<-hl]; exact h4) (by rw[hk]; exact⟨_,I',q⟩)
 ·have hk:(k+(its.toArray.size:Int)).toNat=j:=by
   rw[seqIndex_neg (by omega) h3] at h1;rw[cx,<-hl];exact Option.some.inj h1
  exact PySem.W.ki_setBack ho (by omega) (by rw[cx,<-hl]; exact h3) (by omega) (by rw[hk]; exact⟨_,I',q⟩)
theorem UE(lo hi:Option Int)(n:Nat):(sliceBounds lo hi none n).1=((HT.AY n 0 lo:Nat):Int)/\(sliceBounds lo hi none n).2.1=((HT.AY n n hi:Nat):Int)/\(sliceBounds lo hi none n).2.2=1:=by
 refine⟨?_,?_,rfl⟩
 ·cases lo with
  | none=>simp[sliceBounds,HT.AY]
  | some i =>
   simp only[sliceBounds,HT.AY,Option.getD_none,show(1:Int) > 0 by decide,if_true];by_cases h:i<0
   ·simp only[h,if_true] <;> omega
   ·simp only[h,if_false] <;> omega
 ·cases hi with
  | none=>simp[sliceBounds,HT.AY]
  | some i =>
   simp only[sliceBounds,HT.AY,Option.getD_none,show(1:Int) > 0 by decide,if_true];by_cases h:i<0
   ·simp only[h,if_true] <;> omega
   ·simp only[h,if_false] <;> omega
theorem T6(its:List Value)(lo hi:Option Int):slicePick its.toArray lo hi none=((its.drop (HT.AY its.length 0 lo)).take (HT.AY its.length its.length hi-HT.AY its.length 0 lo)).toArray:=by
 obtain⟨h1,h2,h3⟩:=UE lo hi its.toArray.size;unfold slicePick;rw[h1,h2,h3];simp only[sliceRange_one,pick_run,cx] <;> rfl
inductive SW(K:PySem.W.Frag)(x:V)(lo hi:Option Int)(H:Hp)(Q:VK):Prop
 | mk (a:Addr) (xs:List V) (e:x=.ref a) (s:AJ K H a xs) (q:∀p,H p=none->Q (.ref p) (AE H p (.AD (CU xs lo hi)))):SW K x lo hi H Q
def K5(K:PySem.W.Frag):V->Option Int->Option Int->Hp->VK->Prop:=λx lo hi H Q=>SW K x lo hi H Q
theorem XF:HZ X (K5 X.K):=by
 intro pins s σ H x v vl vu lo hi sl Q I rx hs pl pu h;obtain⟨a,xs,rfl,hx,q⟩:=h;cases rx;obtain⟨its,r,ht,hz⟩:=I.list hx;have hlen:=r.length;refine⟨"list",_,slot_list_getitem.lookup,ht.isList.typeIs,?_⟩;refine wpAny_getItem_list_slice ht.isList hs pl pu .none (by simp) ?_ (by rw[cx] <;> omega);rw[T6,<-hlen];refine⟨.ref s.heap.objs.size,_,I.laid (t':=s.toks) (o:=.AD (CU xs lo hi)) (λb ob q=>cj _ q) (cR _) ?_,rfl,q _ (I.hok.fresh (cR _))⟩;exact⟨dg (Nz xs lo hi) hz,_,0,(r.drop (HT.AY xs.length 0 lo)).take (HT.AY xs.length xs.length hi-HT.AY xs.length 0 lo),cU _ rfl⟩
inductive ND(K:PySem.W.Frag)(xs:List V)(H:Hp)(Q:VK):Prop
 | mk (p:Addr) (ys:List V) (e:xs=[.ref p]) (s:AJ K H p ys\/AO K H p ys) (q:Q (.int ys.length) H):ND K xs H Q
theorem Nv:CT X (.builtin "len") (ND X.K):=by
 intro pins s σ H xs us Q I r h;obtain⟨p,ys,rfl,hq,q⟩:=h;obtain⟨u,rfl,rx⟩:=Ey r;cases rx;have hn:=JD;rcases hq with hq | hq
 ·obtain⟨its,r',pl,hz⟩:=I.list hq;have hlen:=r'.length;exact Calls.call_len_list pl.isList (by simp only[cx] <;> omega) ⟨.int ys.length,H,I.Cn _,⟨s.toks+1,by rw[cx,hlen]⟩,q⟩
 ·obtain⟨its,r',pl,hz⟩:=I.tuple hq;have hlen:=r'.length;exact len_tuple pl (by simp only[cx] <;> omega) ⟨.int ys.length,H,I.Cn _,⟨s.toks+1,by rw[cx,hlen]⟩,q⟩
theorem UC:CT X (.type "list") (λxs H Q=>∃p ys,xs=[.ref p]/\(AJ X.K H p ys\/AO X.K H p ys)/\∀l,H l=none->Q (.ref l) (AE H l (.AD ys))):=by
 intro pins s σ H xs us Q I r h;obtain⟨p,ys,rfl,hq,q⟩:=h;obtain⟨u,rfl,rx⟩:=Ey r;cases rx;have fin:∀(its:List Value),AX ys its->ys.length<=sizeLine->∀(h':Heap) (c':Nat),(∀b o',s.heap.get? b=some o'->h'.get? b=some o') →
   h'.get? s.heap.objs.size=some { cls:=.type "list",dict:=none,data:=.seq its.toArray c',slots:=#[] }->EP X pins σ Q (.ref s.heap.objs.size) { s with heap:=h' }:=λits r' hz h' c' kp e =>
  ⟨.ref s.heap.objs.size,_,I.laid (t':=s.toks) kp (cR _) (show A9 X.prog X.w _ h' _ (.AD ys) from ⟨hz,its,c',r',e⟩),rfl,q _ (I.hok.fresh (cR _))⟩
 rcases hq with hq | hq
 ·obtain⟨its,r',pl,hz⟩:=I.list hq;have hlen:=r'.length;obtain⟨o,ho,hc,n,hd⟩:=pl.isList;exact call_list_seq p (.inl rfl) ho hc hd (λh' c' kp e=>fin its r' hz h' c' kp e) (by simp only[cx] <;> omega)
 ·obtain⟨its,r',pl,hz⟩:=I.tuple hq;have hlen:=r'.length;obtain⟨o,ho,hc,n,hd⟩:=pl;exact call_list_seq p (.inr rfl) ho hc hd (λh' c' kp e=>fin its r' hz h' c' kp e) (by simp only[cx] <;> omega)
theorem Nu:CT X (.type "tuple") (λxs H Q=>∃p ys,xs=[.ref p]/\((AJ X.K H p ys/\∀l,H l=none->Q (.ref l) (AE H l (.AF ys)))\/(AO X.K H p ys/\Q (.ref p) H))):=by
 intro pins s σ H xs us Q I r h;obtain⟨p,ys,rfl,h⟩:=h;obtain⟨u,rfl,rx⟩:=Ey r;cases rx;rcases h with ⟨hq,q⟩ | ⟨hq,q⟩
 ·obtain⟨its,r',pl,hz⟩:=I.list hq;have hlen:=r'.length;refine call_tuple_list pl.isList (λh' kp=>?_) (by simp only[cx] <;> omega);have I1:AI X pins σ H { s with heap:=h' }:=I.BJ (t':=s.toks) kp;have I2:AI X pins σ (AE H h'.objs.size (.AF ys)) { s with heap:=h'.push { cls:=.type "tuple",data:=.seq its.toArray } } :=
   I1.laid (t':=s.toks) (λb o e=>cj _ e) (cR _) (show A9 X.prog X.w _ _ _ (.AF ys) from ⟨hz,its,r',IsTup.new _ _,_,cU _ rfl,rfl⟩)
  exact⟨.ref h'.objs.size,_,I2,rfl,q _ (I1.hok.fresh (cR _))⟩
 ·obtain⟨its,r',pl,hz⟩:=I.tuple hq;exact call_tuple_same pl ⟨.ref p,H,I,rfl,q⟩
def TM(K:PySem.W.Frag)(T:String)(x:V)(H:Hp):Prop:=match x with
 | .str _=>T="str"
 | .int _=>T="int"
 | .ref p=>(T="list"/\∃xs,AJ K H p xs)\/(T="tuple"/\∃o,K.lookup p=some o/\o.cls=.type "tuple"/\o.dict=none) \/
   (T="dict"/\((∃kvs,H p=some (.dK kvs))\/∃kvs,H p=some (.dT kvs)))\/(T="set"/\∃S n,H p=some (.set S n))
 | _=>False
theorem ZF{pins:List (Addr×Obj)}{σ:St}{H:Hp}{s:Shared}{T:String}{x:V}{v:Value}(I:AI X pins σ H s)(r:Ae x v)(ty:TM X.K T x H):
  s.TypeIs v T/\∀a,v=.ref a->∃ob,s.heap.get? a=some ob/\ob.dict=none:=by
 cases x with
 | str z =>
  obtain⟨t,rfl⟩:=r;cases (show T="str" from ty);exact⟨typeIs_str s z t,λ_ e=>nomatch e⟩
 | int i =>
  obtain⟨t,rfl⟩:=r;cases (show T="int" from ty);exact⟨typeIs_int s i t,λ_ e=>nomatch e⟩
 | ref p =>
  cases r;rcases ty with ⟨rfl,xs,hq⟩ | ⟨rfl,o,hk,hc,hd⟩ | ⟨rfl,hk⟩ | ⟨rfl,S,n,hk⟩
  ·obtain⟨its,_,pl,_⟩:=I.list hq;refine⟨pl.isList.typeIs,λa e=>?_⟩;cases e;obtain⟨o,n,e,c,hd,_⟩:=pl;exact⟨o,e,hd⟩
  ·refine⟨⟨o,I.Cz p o hk,hc⟩,λa e=>?_⟩;cases e;exact⟨o,I.Cz _ o hk,hd⟩
  ·have z:∃o,s.heap.get? p=some o/\o.ExactDict:=by
    rcases hk with ⟨kvs,hk⟩ | ⟨kvs,hk⟩
    ·obtain⟨_,_,_,_,o,_,_,e,ex,_⟩:=I.hok p _ hk;exact⟨o,e,ex⟩
    ·obtain⟨_,_,_,_,o,_,_,e,ex,_⟩:=I.hok p _ hk;exact⟨o,e,ex⟩
   obtain⟨o,e,ex⟩:=z;refine⟨⟨o,e,ex.1⟩,λa e2=>?_⟩;cases e2;exact⟨o,e,ex.2.1⟩
  ·obtain⟨o,_,_,_,e,ex,_⟩:=I.hok p _ hk;refine⟨⟨o,e,ex.1⟩,λa e2=>?_⟩;cases e2;exact⟨o,e,ex.2.1⟩
 | _=>exact False.elim ty
def TU(K:PySem.W.Frag)(T:String)(r:V->List V->Hp->VK->Prop)(to:TE)(t:TA):TE:=λσ H Q=>to σ H λx H1=>TM K T x H1/\t σ H1 λxs H2=>r x xs H2 Q
variable {o:Expr} {es:List Expr} {to:TE} {t:TA} {name:Str} {apos cpos:Pos} {T id:String} {r:V->List V->Hp->VK->Prop}
theorem GV (pa:PlainAttrs T) (slot:Slot T name id) (hty:typeOf (.builtin id)=pure (.type "method_descriptor")) (hm:TY X id r) (ho:PE X o to) (ha:PA X (e :: es) t)
  (hbase:attributeBase o name X.env (eval o X.env)=eval o X.env:=by rfl)
  (hfew:((backTo cpos (starEach (e :: es) X.env)).all (λx=>!x.1) && (backToKw cpos (keywordEach [] X.env)).all (λx=>x.1.isSome)
   && decide ((e :: es).length+([]:List Keyword).length+(if ([]:List Keyword).isEmpty then 0 else 1)<30))=true:=by rfl)
  (hline:(apos.endLine == cpos.line)=true:=by rfl) (hs:starEach (e :: es) X.env=(false,eval e X.env) :: starEach es X.env:=by rfl) (hplain:(backTo cpos (starEach es X.env)).any (·.1)=false:=by rfl) :
  PE X (.Call (.Attribute o name apos) (e :: es) [] cpos) (TU X.K T r to t):=by
 intro pins s σ H Q I h;refine wpAny_Call_method_late hbase hfew hline rfl (AZ (ho pins s σ H _ I h) λv s1 ⟨x,H1,I1,r1,ty,q1⟩=>?_);obtain⟨h1,h2⟩:=ZF I1 r1 ty;refine⟨T,id,pa,slot,hty,h1,h2,?_⟩;have hA:=ha cpos pins s1 σ H1 _ I1 q1;rw[hs] at hA ⊢;refine Calls.callWith_builtin (by show(false || (backTo cpos (starEach es X.env)).any (·.1))=false; rw[hplain] <;> rfl) (Calls.evalArgs_plain ?_);exact AZ hA λus s2 ⟨vs,H2,I2,r2,q2⟩=>hm pins s2 σ H2 x vs v us Q I2 r1 r2 q2
end
def Ic(X:Cx)(id:String)(r:V->List V->Hp->VK->Prop):Prop :=
 ∀(pins:List (Addr×Obj)) (s:Shared) (σ:St) (H:Hp) (x:V) (xs:List V) (v:Value) (us:List Value) (Q:VK),AI X pins σ H s->Ae x v->AX xs us->r x xs H Q →
  wpAny (model X.prog X.w) X.A (call (.builtin id) (v :: us)) (EP X pins σ Q) X.xe s
theorem AX.one:∀{x:V} {us:List Value},AX [x] us->∃u,us=[u]/\Ae x u
 | _,_,.cons r .nil=>⟨_,rfl,r⟩
theorem AX.Jf:∀{x y:V} {us:List Value},AX [x,y] us->∃u v,us=[u,v]/\Ae x u/\Ae y v
 | _,_,_,.cons r (.cons q .nil)=>⟨_,_,rfl,r,q⟩
theorem AX.dropLast{xs:List V}{us:List Value}(h:AX xs us):AX xs.dropLast us.dropLast:=by
 induction h with
 | nil=>exact .nil
 | cons r t ih =>
  cases t with
  | nil=>exact .nil
  | cons q t'=>exact .cons r ih
theorem AX.eraseIdx:∀{xs:List V} {us:List Value} (i:Nat),AX xs us->AX (xs.eraseIdx i) (us.eraseIdx i)
 | _,_,_,.nil=>.nil
 | _,_,0,.cons _ t=>t
 | _,_,i+1,.cons r t=>.cons r (AX.eraseIdx i t)
theorem AX.reverse{xs:List V}{us:List Value}(h:AX xs us):AX xs.reverse us.reverse:=by
 induction h with
 | nil=>exact .nil
 | cons r t ih=>rw[List.reverse_cons,List.reverse_cons]; exact AX.append ih (.cons r .nil)
section
variable {X:Cx} {pins:List (Addr×Obj)} {σ:St} {H:Hp} {s:Shared} {l b:Addr} {xs ys zs:List V}
theorem AI.GC {its its':List Value} {n:Nat} {f:Array Value->Array Value} {t':Nat} (I:AI X pins σ H s) (hH:H l=some (.AD xs))
  (e:s.heap.get? l=some { cls:=.type "list",data:=.seq its.toArray n }) (hf:f its.toArray=its'.toArray) (hv:AX ys its') (hz:ys.length<=sizeLine) :
  AI X pins σ (AE H l (.AD ys)) { s with heap:=s.heap.update l (Obj.mapSeq f),toks:=t' }:=by
 have q:=PySem.IsL.update e f;rw[hf] at q;refine I.Eu (x:=l) (e:=l) (by rw[hH]; exact trivial) (.inl rfl) (λb' u hb hu=>(eR s.heap (Obj.mapSeq f) (eK hb)).trans hu) ⟨_,q⟩ ?_;exact⟨hz,its',_,hv,q⟩
theorem AI.NI{its:List Value}{t':Nat}(I:AI X pins σ H s)(hv:AX ys its)(hz:ys.length<=sizeLine):
  AI X pins σ (AE H s.heap.objs.size (.AD ys)) { s with heap:=s.heap.push { cls:=.type "list",data:=.seq its.toArray },toks:=t' } :=
 I.laid (λ_ _ q=>cj _ q) (cR _) ⟨hz,its,0,hv,cU _ rfl⟩
theorem AI.fresh(I:AI X pins σ H s):H s.heap.objs.size=none:=I.hok.fresh (cR _)
theorem AI.DJ(I:AI X pins σ H s)(hH:H l=some (.AD xs)):xs.length<=sizeLine/\∃(its:List Value) (n:Nat),AX xs its/\xs.length=its.length/\s.heap.get? l=some { cls:=.type "list",data:=.seq its.toArray n }:=by
 obtain⟨z,its,n,r,e⟩:=I.hok l _ hH;exact⟨z,its,n,r,r.length,e⟩
theorem WY{n:Nat}(h:n<=sizeLine):Builtin.List.listTooLong n=false:=by
 unfold Builtin.List.listTooLong;exact decide_eq_false (by omega)
end
section
variable {X:Cx}
inductive Sk(x:V)(vs:List V)(H:Hp)(Q:VK):Prop
 | mk (l:Addr) (xs:List V) (y:V) (e1:x=.ref l) (e2:vs=[y]) (h:H l=some (.AD xs)) (n:xs.length<sizeLine) (q:Q .Aj (AE H l (.AD (xs++[y])))):Sk x vs H Q
def QA:V->List V->Hp->VK->Prop:=λx vs H Q=>Sk x vs H Q
theorem DT:Ic X "list.append" QA:=by
 intro pins s σ H x vs v us Q I rx rv h;obtain⟨l,xs,y,rfl,rfl,hH,hz,q⟩:=h;cases rx;obtain⟨u,rfl,ru⟩:=rv.one;obtain⟨z,its,n,r,hl,e⟩:=I.DJ hH;refine call_meets F.slot_list_append ⟨_,e,rfl⟩ F.entry_list_append (F.args_list_append_2 _ _) (PySem.list_append l its.toArray n u (by rw[cx]; omega)) ⟨e,?_⟩;refine⟨.Aj,_,I.GC (its':=its++[u]) hH e (by simp) (r.append (.cons ru .nil)) ?_,rfl,q⟩;rw[cX,fm];omega
def XR:V->List V->Hp->VK->Prop:=λx vs H Q=>∃l b xs zs,x=.ref l/\vs=[.ref b]/\H l=some (.AD xs)/\H b=some (.AD zs)/\xs.length+zs.length<=sizeLine/\Q .Aj (AE H l (.AD (xs++zs)))
theorem VE:Ic X "list.extend" XR:=by
 intro pins s σ H x vs v us Q I rx rv h;obtain⟨l,b,xs,zs,rfl,rfl,hH,hB,hz,q⟩:=h;cases rx;obtain⟨u,rfl,ru⟩:=rv.one;cases ru;obtain⟨z,its,n,r,hl,e⟩:=I.DJ hH;obtain⟨z2,its2,n2,r2,hl2,e2⟩:=I.DJ hB;have hsz:its.toArray.size+its2.toArray.size<=sizeLine:=by rw[cx,cx]; omega
 have hlong:¬(!its.toArray.isEmpty && Builtin.List.listTooLong (its.toArray.size+its2.toArray.size))=true:=by
  rw[WY hsz,Bool.and_false];exact df
 refine call_meets F.slot_list_extend ⟨_,e,rfl⟩ F.entry_list_extend (F.args_list_extend_2 _ _)
  (AutoSeq1.list_extend_list_list_0 l its.toArray n b its2.toArray n2 hlong (by rw[cx]; omega) (by omega)) ⟨e,e2,?_⟩
 refine⟨.Aj,_,I.GC (its':=its++its2) hH e (by simp) (r.append r2) ?_,rfl,q⟩;rw[cX];omega
inductive S4(x y:V)(H:Hp)(Q:VK):Prop
 | mk (l b:Addr) (xs zs:List V) (e1:x=.ref l) (e2:y=.ref b) (h1:H l=some (.AD xs)) (h2:H b=some (.AD zs)) (n:xs.length+zs.length<=sizeLine) (q:∀p,H p=none->Q (.ref p) (AE H p (.AD (xs++zs)))):S4 x y H Q
def Mv:R2:=λx y H Q=>S4 x y H Q
theorem Eo:By X (binaryOp .Add) Mv:=by
 intro pins s σ H x y v u Q I rx ry h;obtain⟨l,b,xs,zs,rfl,rfl,hH,hB,hz,q⟩:=h;cases rx;cases ry;obtain⟨z,its,n,r,hl,e⟩:=I.DJ hH;obtain⟨z2,its2,n2,r2,hl2,e2⟩:=I.DJ hB;refine PySem.P.add_list e e2 ?_ (by rw[cx,cx]; omega);have ea:its.toArray++its2.toArray=(its++its2).toArray:=by simp
 rw[ea];exact⟨.ref _,_,I.NI (t':=s.toks) (r.append r2) (by rw[cX]; omega),rfl,q _ I.fresh⟩
end
section
variable {prog:Program} {w:World} {A:Around} {E:Value->Shared->Prop} {s:Shared}
end
section
variable {X:Cx}
end
section
variable {κ:Type} [DecidableEq κ]
def CG(kvs:List (κ×V))(k:κ):Option V:=(kvs.find? λkv=>decide (kv.1=k)).map (·.2)
def Dc(kvs:List (κ×V))(k:κ)(v:V):List (κ×V) :=
 if (kvs.any λkv=>decide (kv.1=k))=true then kvs.map (λkv=>if kv.1=k then (kv.1,v) else kv) else kvs++[(k,v)]
def SD(kvs:List (κ×V))(k:κ):List (κ×V):=kvs.filter λkv=>decide (kv.1≠k)
theorem Ej{p:κ×V}{r:List (κ×V)}{k:κ}(e:p.1=k):CG (p :: r) k=some p.2:=by simp[CG,List.find?_cons,e]
theorem Eh{p:κ×V}{r:List (κ×V)}{k:κ}(e:¬p.1=k):CG (p :: r) k=CG r k:=by simp[CG,List.find?_cons,e]
theorem Jx(k:κ):∀kvs:List (κ×V),(kvs.any λkv=>decide (kv.1=k))=(CG kvs k).isSome
 | []=>rfl
 | p :: r=>by
  rw[List.any_cons];by_cases e:p.1=k
  ·simp only[Ej e,decide_eq_true e,Bool.true_or,Option.isSome_some]
  ·rw[Eh e,decide_eq_false e,Bool.false_or]; exact Jx k r
theorem Ot(k j:κ)(y:V):∀kvs:List (κ×V),CG (kvs.map λkv=>if kv.1=k then (kv.1,y) else kv) j=(CG kvs j).map λx=>if j=k then y else x
 | []=>rfl
 | p :: r=>by
  have ih:=Ot k j y r;rw[eJ];by_cases h:p.1=k
  ·rw[if_pos h];by_cases e:p.1=j
   ·rw[Ej (p:=(p.1,y)) e,Ej e,Option.map_some,if_pos (e.symm.trans h)]
   ·rw[Eh (p:=(p.1,y)) e,Eh e,ih]
  ·rw[if_neg h];by_cases e:p.1=j
   ·rw[Ej (p:=p) e,Ej e,Option.map_some,if_neg (λz=>h (e.trans z))]
   ·rw[Eh (p:=p) e,Eh e,ih]
theorem OH(k j:κ)(y:V):∀kvs:List (κ×V),CG kvs k=none->CG (kvs++[(k,y)]) j=if j=k then some y else CG kvs j
 | [],_=>by
  by_cases e:k=j
  ·rw[if_pos e.symm]; exact Ej (p:=(k,y)) e
  ·rw[if_neg (λz=>e z.symm)]; exact Eh (p:=(k,y)) e
 | p :: r,hn=>by
  rw[List.cons_append];have hk:¬p.1=k:=λz=>by rw[Ej z] at hn; cases hn
  rw[Eh hk] at hn;have ih:=OH k j y r hn;by_cases e:p.1=j
  ·rw[Ej e,Ej e,if_neg (λz=>hk (e.trans z))]
  ·rw[Eh e,Eh e,ih]
theorem Wm(kvs:List (κ×V))(k j:κ)(y:V):CG (Dc kvs k y) j=if j=k then some y else CG kvs j:=by
 unfold Dc;by_cases a:(kvs.any λkv=>decide (kv.1=k))=true
 ·rw[if_pos a,Ot];rw[Jx] at a;by_cases e:j=k
  ·obtain⟨x,hx⟩:=Option.isSome_iff_exists.mp a;rw[if_pos e,e,hx,Option.map_some,if_pos rfl]
  ·rw[if_neg e];cases CG kvs j with
   | none=>rfl
   | some x=>rw[Option.map_some,if_neg e]
 ·rw[if_neg a];refine OH k j y kvs ?_;rw[Jx] at a;cases q:CG kvs k with
  | none=>rfl
  | some x=>rw[q] at a; exact(a rfl).elim
theorem LS(kvs:List (κ×V))(k:κ)(v:V):(Dc kvs k v).length<=kvs.length+1:=by
 unfold Dc;split
 ·rw[cf]; omega
 ·rw[cX,dM,List.length_nil]; omega
theorem GD.Lj{o:Option V}{u:Option Value}(r:GD o u):o.isSome=u.isSome:=by
 cases o with
 | none=>cases u with
  | none=>rfl
  | some _=>exact(show False from r).elim
 | some _=>cases u with
  | none=>exact(show False from r).elim
  | some _=>rfl
theorem GD.getD{o:Option V}{u:Option Value}{d:V}{d':Value}(r:GD o u)(rd:Ae d d'):Ae (o.getD d) (u.getD d'):=by
 cases o with
 | none=>cases u with
  | none=>exact rd
  | some _=>exact(show False from r).elim
 | some _=>cases u with
  | none=>exact(show False from r).elim
  | some _=>exact r
theorem KV.val{kvs:List (κ×V)}{vs:List (κ×Value)}(r:KV kvs vs)(k:κ):GD (CG kvs k) (valueAt vs k):=by
 unfold KV at r
 induction r with
 | nil=>exact True.intro
 | @cons p q ps qs h t ih =>
  obtain⟨h1,h2⟩:=h;by_cases e:p.1=k
  ·have e':q.1=k:=h1.symm.trans e;have b:valueAt (q :: qs) k=some q.2:=by simp[valueAt,List.find?_cons,e']
   rw[Ej e,b]; exact h2
  ·have e':¬q.1=k:=λz=>e (h1.trans z)
   have b:valueAt (q :: qs) k=valueAt qs k:=by simp[valueAt,List.find?_cons,e']
   rw[Eh e,b]; exact ih
theorem KV.any{kvs:List (κ×V)}{vs:List (κ×Value)}(r:KV kvs vs)(k:κ):(kvs.any λkv=>decide (kv.1=k))=vs.any λkv=>decide (kv.1=k):=by
 unfold KV at r
 induction r with
 | nil=>rfl
 | cons h t ih=>rw[List.any_cons,List.any_cons,ih,h.1]
theorem KV.Mm{kvs:List (κ×V)}{vs:List (κ×Value)}(r:KV kvs vs)(k:κ){y:V}{u:Value}(ry:Ae y u):
  KV (kvs.map λkv=>if kv.1=k then (kv.1,y) else kv) (vs.map λkv=>if kv.1=k then (kv.1,u) else kv):=by
 unfold KV at r ⊢
 induction r with
 | nil=>exact .nil
 | @cons p q ps qs h t ih =>
  rw[eJ,eJ];refine .cons ?_ ih;obtain⟨h1,h2⟩:=h;by_cases e:p.1=k
  ·rw[if_pos e,if_pos (h1.symm.trans e)]; exact⟨h1,ry⟩
  ·rw[if_neg e,if_neg (λz=>e (h1.trans z))]; exact⟨h1,h2⟩
theorem KV.put{kvs:List (κ×V)}{vs:List (κ×Value)}(r:KV kvs vs)(k:κ){y:V}{u:Value}(ry:Ae y u):KV (Dc kvs k y) (stored vs k u):=by
 unfold Dc stored;rw[r.any k];by_cases e:(vs.any λkv=>decide (kv.1=k))=true
 ·rw[if_pos e,if_pos e]; exact r.Mm k ry
 ·rw[if_neg e,if_neg e]; exact Paired.snoc r ⟨rfl,ry⟩
theorem KV.drop{kvs:List (κ×V)}{vs:List (κ×Value)}(r:KV kvs vs)(k:κ):KV (SD kvs k) (without vs k):=by
 unfold KV at r ⊢;unfold SD without
 induction r with
 | nil=>exact .nil
 | @cons p q ps qs h t ih =>
  obtain⟨h1,h2⟩:=h;rw[eT,eT];by_cases e:p.1=k
  ·have a:¬decide (p.1≠k)=true:=by simp[e]
   have b:¬decide (q.1≠k)=true:=by simp[h1.symm.trans e]
   rw[if_neg a,if_neg b]; exact ih
  ·have e':¬q.1=k:=λz=>e (h1.trans z)
   have a:decide (p.1≠k)=true:=by simp[e]
   have b:decide (q.1≠k)=true:=by simp[e']
   rw[if_pos a,if_pos b]; exact .cons ⟨h1,h2⟩ ih
theorem KV.length{kvs:List (κ×V)}{vs:List (κ×Value)}(r:KV kvs vs):kvs.length=vs.length:=Paired.length r
end
theorem Mc{P:Program}{w:World}{k:Ap}{u:Value}(r:Ae (kV k) u):(DV P w).is k u=true:=by
 cases k with
 | inl i=>obtain⟨t,e⟩:=(show ∃t,u=Value.int i t from r); subst e; exact UL P w i t
 | inr x=>obtain⟨t,e⟩:=(show ∃t,u=Value.str x t from r); subst e; exact UM P w x t
theorem Og{P:Program}{w:World}:∀{ks:List Ap} {us:List Value},AX (ks.map kV) us->ItemsAre (DV P w) ks us
 | [],_,r=>by rw[List.map_nil] at r; cases r; exact .nil
 | k :: ks,_,r=>by
  rw[eJ] at r;cases r with
  | cons h t=>exact .cons (Mc h) (Og t)
abbrev KT(H:Hp):List (List Ap×V)->List (List Ap×Addr×Value)->Prop:=Paired λp q=>p.1=q.1/\H q.2.1=some (.AF (p.1.map kV))/\Ae p.2 q.2.2
theorem KT.val{H:Hp}{kvs:List (List Ap×V)}{xs:List (List Ap×Addr×Value)}(r:KT H kvs xs)(k:List Ap):GD (CG kvs k) ((atKey xs k).map (·.2)):=by
 induction r with
 | nil=>exact True.intro
 | @cons p q ps qs h t ih =>
  obtain⟨h1,_,h2⟩:=h;by_cases e:p.1=k
  ·have e':q.1=k:=h1.symm.trans e;have b:atKey (q :: qs) k=some q.2:=by simp[atKey,List.find?_cons,e']
   rw[Ej e,b]; exact h2
  ·have e':¬q.1=k:=λz=>e (h1.trans z)
   have b:atKey (q :: qs) k=atKey qs k:=by simp[atKey,List.find?_cons,e']
   rw[Eh e,b]; exact ih
theorem KT.Mm{H:Hp}{kvs:List (List Ap×V)}{xs:List (List Ap×Addr×Value)}(r:KT H kvs xs)(k:List Ap){y:V}{u:Value}(ry:Ae y u):
  KT H (kvs.map λkv=>if kv.1=k then (kv.1,y) else kv) (xs.map (putAt k u)):=by
 induction r with
 | nil=>exact .nil
 | @cons p q ps qs h t ih =>
  rw[eJ,eJ];refine .cons ?_ ih;obtain⟨h1,h2,h3⟩:=h;unfold putAt;by_cases e:p.1=k
  ·rw[if_pos e,if_pos (h1.symm.trans e)]; exact⟨h1,h2,ry⟩
  ·rw[if_neg e,if_neg (λz=>e (h1.trans z))]; exact⟨h1,h2,h3⟩
theorem KT.put{H:Hp}{kvs:List (List Ap×V)}{xs:List (List Ap×Addr×Value)}(r:KT H kvs xs)(k:List Ap){b:Addr}{y:V}{u:Value}(hb:H b=some (.AF (k.map kV)))(ry:Ae y u):
  KT H (Dc kvs k y) (storedH xs k b u):=by
 have e:(kvs.any λkv=>decide (kv.1=k))=(atKey xs k).isSome:=by
  rw[Jx,(r.val k).Lj,Option.isSome_map]
 unfold Dc storedH;rw[e];by_cases q:(atKey xs k).isSome=true
 ·rw[if_pos q,if_pos q]; exact r.Mm k ry
 ·rw[if_neg q,if_neg q]; exact Paired.snoc r ⟨rfl,hb,ry⟩
theorem KT.keeps{H H':Hp}{kvs:List (List Ap×V)}{xs:List (List Ap×Addr×Value)}(r:KT H kvs xs)(ht:∀b ys,H b=some (.AF ys)->H' b=some (.AF ys)):KT H' kvs xs :=
 Paired.NH r λ_ _ z=>⟨z.1,ht _ _ z.2.1,z.2.2⟩
section
variable {P:Program} {w:World} {H:Hp} {h:Heap} {a:Addr}
theorem Rn{u:HO}(ok:BN P w H h)(e:Rd H a u):A9 P w H h a u:=e.ok ok
theorem Ru{kvs:List (Ap×V)}(ok:BN P w H h)(e:Rd H a (.dK kvs)):kvs.length<=sizeLine/\(a == sysModules)=false/\∃vs,KV kvs vs/\h.DictOf (DV P w) a vs :=
 show A9 P w H h a (.dK kvs) from Rn ok e
theorem aO{kvs:List (Ap×V)}(ok:BN P w H h)(e:H a=some (.dK kvs)):kvs.length<=sizeLine/\(a == sysModules)=false/\∃vs,KV kvs vs/\h.DictOf (DV P w) a vs:=Ru ok (.inl e)
theorem MR{ks:List Ap}(ok:BN P w H h)(e:H a=some (.AF (ks.map kV))):(tupleKind (DV P w)).is h ks a:=by
 obtain⟨_,its,r,⟨o,h1,h2,n,h3⟩,_⟩:=(show A9 P w H h a (.AF (ks.map kV)) from ok a _ e);exact⟨o,its.toArray,n,h1,h2,h3,by simpa using Og r⟩
theorem SK{kvs:List (List Ap×V)}(ok:BN P w H h)(e:Rd H a (.dT kvs)):kvs.length<=sizeLine/\(a == sysModules)=false /\
  ∃xs,KT H kvs xs/\h.DictOfH (tupleKind (DV P w)) a xs:=by
 obtain⟨z,y,xs,r,o,es,ep,h1,h2,h3,h4,h5⟩:=(show A9 P w H h a (.dT kvs) from Rn ok e);refine⟨z,y,xs,r,o,es,ep,h1,h2,h3,h4,λx hx=>?_,h5⟩;have all:∀{l:List (List Ap×V)} {m:List (List Ap×Addr×Value)},KT H l m->∀x∈m,(tupleKind (DV P w)).is h x.1 x.2.1:=by
  intro l m q
  induction q with
  | nil=>intro x hx; exact nomatch hx
  | @cons p q ps qs hq t ih =>
   intro x hx;rcases cP.mp hx with e | hx
   ·subst e;exact MR ok (by rw[<-hq.1]; exact hq.2.1)
   ·exact ih x hx
 exact all r x hx
theorem Z6{kvs:List (List Ap×V)}(ok:BN P w H h)(e:H a=some (.dT kvs)):kvs.length<=sizeLine/\(a == sysModules)=false /\
  ∃xs,KT H kvs xs/\h.DictOfH (tupleKind (DV P w)) a xs:=SK ok (.inl e)
end
def JV(H:Hp)(a:Addr)(y:V)(r:Option V):Prop :=
 (∃kvs k,Rd H a (.dK kvs)/\y=kV k/\r=CG kvs k)\/∃kvs k b,Rd H a (.dT kvs)/\y=.ref b/\H b=some (.AF (k.map kV))/\r=CG kvs k
def JW(H:Hp)(a:Addr)(y v:V)(H':Hp):Prop :=
 (∃kvs k,H a=some (.dK kvs)/\y=kV k/\kvs.length<sizeLine/\H'=AE H a (.dK (Dc kvs k v))) \/
 ∃kvs k b,H a=some (.dT kvs)/\y=.ref b/\H b=some (.AF (k.map kV))/\kvs.length<sizeLine/\H'=AE H a (.dT (Dc kvs k v))
theorem JV.t{H:Hp}{a b:Addr}{kvs:List (List Ap×V)}{k:List Ap}(e:H a=some (.dT kvs))(eb:H b=some (.AF (k.map kV))):JV H a (.ref b) (CG kvs k):=.inr ⟨kvs,k,b,.inl e,rfl,eb,rfl⟩
theorem JW.t{H:Hp}{a b:Addr}{kvs:List (List Ap×V)}{k:List Ap}{v:V}(e:H a=some (.dT kvs))(eb:H b=some (.AF (k.map kV)))(hl:kvs.length<sizeLine):
  JW H a (.ref b) v (AE H a (.dT (Dc kvs k v))):=.inr ⟨kvs,k,b,e,rfl,eb,hl,rfl⟩
section
variable {X:Cx} {pins:List (Addr×Obj)} {σ:St} {H:Hp} {s:Shared} {a:Addr} {y v:V} {u r:Value} {o:Option V} {A:Around} {E:Value->Shared->Prop}
theorem AI.big(I:AI X pins σ H s):sysModules<s.heap.objs.size:=by
 have h:mainGlobals<s.heap.objs.size:=(I.CH.Dg.keeps I.bk).lt;exact Nat.lt_trans (by decide) h
theorem Xf{Q:Value->Shared->Prop}(hu:A.units+1<cLine)(I:AI X pins σ H s)(g:JV H a y o)(ry:Ae y u)(h:∀s',AI X pins σ H s'->Q (.bool (!o.isSome)) s'):
  wpAny (model X.prog X.w) A (compareOp .NotIn u (.ref a)) Q E s:=by
 rcases g with ⟨kvs,k,e,ey,l⟩ | ⟨kvs,k,b,e,ey,eb,l⟩
 ·subst ey;obtain⟨z,hd,vs,rel,dd⟩:=Ru I.hok e;refine wpAny_notIn_of (Mc ry) hd dd.mapOf ?_;rw[<-(rel.val k).Lj,<-l];exact h _ (I.Cn _)
 ·subst ey;cases (show u=Value.ref b from ry);obtain⟨z,hd,xs,rel,dd⟩:=SK I.hok e;refine wpAny_notIn_heap (tupleKind_room_in1 hu) (MR I.hok eb) hd dd ?_;have q:=(rel.val k).Lj;rw[Option.isSome_map] at q;rw[<-q,<-l];exact h _ (I.Cn _)
theorem P8{h':Heap}{t':Nat}{ob:HO}(I:AI X pins σ H s)(mu:Jd (H a))(hs:Heap.SameBut a s.heap h')(he:∃q,h'.get? a=some q)(new:A9 X.prog X.w (AE H a ob) h' a ob):
  AI X pins σ (AE H a ob) { s with heap:=h',toks:=t' } :=
 I.Eu (x:=a) (e:=a) mu (.inl rfl) (λb q hb z=>(hs.2 b hb).trans z) he new
theorem Y3{P:Program}{w:World}{H':Hp}{h':Heap}{kvs:List (Ap×V)}{vs:List (Ap×Value)}(z:kvs.length<=sizeLine)(hd:(a == sysModules)=false)(rel:KV kvs vs)(dd:h'.DictOf (DV P w) a vs):
  A9 P w H' h' a (.dK kvs):=⟨z,hd,vs,rel,dd⟩
theorem VF{H':Hp}{Q:Unit->Shared->Prop}(hu:A.units+1<cLine)(I:AI X pins σ H s)(g:JW H a y v H')(ry:Ae y u)(rv:Ae v r)(h:∀s',AI X pins σ H' s'->Q () s'):
  wpAny (model X.prog X.w) A (setItem (.ref a) u r) Q E s:=by
 rcases g with ⟨kvs,k,e,ey,l,eH⟩ | ⟨kvs,k,b,e,ey,eb,l,eH⟩
 ·subst ey eH;obtain⟨z,hd,vs,rel,dd⟩:=aO I.hok e;have hz:vs.length<=sizeLine:=by rw[<-rel.length]; exact z
  have hl:(Dc kvs k v).length<=sizeLine:=by have:=LS kvs k v; omega
  refine wpAny_setItem_pairs (hsz:=hz) (Mc ry) dd λh' dd' hs=>h _ ?_
  have he:∃q,h'.get? a=some q:=let ⟨q,_,_,hq,_⟩:=dd'; ⟨q,hq⟩
  exact P8 I (by rw[e]; exact True.intro) hs he (Y3 hl hd (rel.put k rv) dd')
 ·subst ey eH;cases (show u=Value.ref b from ry);obtain⟨z,hd,xs,rel,dd⟩:=Z6 I.hok e;have hz:xs.length<=sizeLine:=by rw[<-Paired.length rel]; exact z
  have hl:(Dc kvs k v).length<=sizeLine:=by have:=LS kvs k v; omega
  refine wpAny_setItem_heap (hsz:=hz) (tupleKind_room_in1 hu) (MR I.hok eb) dd λh' dd' hs=>h _ ?_
  obtain⟨q,es,ep,hq,h2,h3,h4,_,h5⟩:=dd';refine P8 I (by rw[e]; exact True.intro) hs ⟨q,hq⟩ ⟨hl,hd,_,(rel.put k eb rv).keeps λc ys ec=>?_,q,es,ep,hq,h2,h3,h4,h5⟩;rw[AW (Rc ec e (λz=>nomatch z))];exact ec
end
section
variable {X:Cx} {pins:List (Addr×Obj)} {σ:St} {H:Hp} {s:Shared} {a:Addr} {kvs:List (Ap×V)} {k:Ap} {u:Value} {A:Around} {E:Value->Shared->Prop}
end
inductive RR(x y v:V)(H:Hp)(Q:Hp->Prop):Prop
 | mk (a:Addr) (H4:Hp) (e:x=.ref a) (d:JW H a y v H4) (q:Q H4):RR x y v H Q
def X7(ty td:TE):TE:=λσ H Q=>ty σ H λy H1=>td σ H1 λx H2=>∃a o,x=.ref a/\JV H2 a y o/\Q (.bl (!o.isSome)) H2
def aD(td ty tv:TE):TS:=λD σ H=>tv σ H λv H1=>td σ H1 λx H2=>ty σ H2 λy H3=>RR x y v H3 (D.nx σ)
section
variable {X:Cx} {o i e value:Expr} {pos pos' tpos:Pos} {td ty tv:TE}
theorem Vd(hu:X.A.units+1<cLine)(hi:PE X i ty)(ho:PE X o td):PC X .NotIn i o (X7 ty td):=by
 intro pins s σ H Q I h;refine AZ (hi pins s σ H _ I h) λiv s1 ⟨y,H1,I1,ry,q1⟩=>AZ (ho pins s1 σ H1 _ I1 q1) λu s2 ⟨x,H2,I2,rx,a,ov,ex,g,q2⟩=>?_
 subst ex;obtain rfl:u=Value.ref a:=rx;exact Xf hu I2 g ry λs3 I3=>⟨.bl (!ov.isSome),H2,I3,rfl,q2⟩
theorem X0(hu:X.A.units+1<cLine)(ho:PE X o td)(hi:PE X i ty)(hv:PE X value tv)(hs:swapsWith value (some (.Subscript o i pos')) pos.line X.env=pure false):
  PS X (.Assign [.Subscript o i pos'] value pos) (aD td ty tv):=by
 intro pins s σ H D I h;refine wpAny_Assign_Subscript (AZ (hv pins s σ H _ I h) λr s1 ⟨v,H1,I1,rv,q1⟩=>AZ (ho pins s1 σ H1 _ I1 q1) λu s2 ⟨x,H2,I2,rx,q2⟩=>AZ (hi pins s2 σ H2 _ I2 q2) λiv s3 ⟨y,H3,I3,ry,a,H4,ex,g,q3⟩=>?_) hs;subst ex;obtain rfl:u=Value.ref a:=rx;exact VF hu I3 g ry rv λs4 I4=>⟨σ,H4,I4,q3⟩
end
theorem V4{P:Program}{w:World}{H:Hp}(h:Heap)(hb:sysModules<h.objs.size):A9 P w H (h.push { cls:=.type "dict",data:=.dict #[] }) h.objs.size (.dT []) :=
 ⟨dk _,beq_eq_false_iff_ne.mpr (eK (c8 hb)),[],.nil,_,#[],0,cU _ rfl,⟨rfl,rfl,rfl⟩,rfl,rfl,List.nodup_nil⟩
def Y2:TE:=λ_ H Q=>∀p,H p=none->Q (.ref p) (AE H p (.dT []))
section
variable {X:Cx} {pos:Pos}
theorem WH:PE X (.Dict [] [] pos) Y2:=λpins s σ H Q I h =>
 wpAny_Dict_empty ⟨.ref s.heap.objs.size,_,I.laid (a:=s.heap.objs.size) (o:=.dT []) (t':=s.toks) (λ_ _ q=>cj _ q) (cR _) (V4 s.heap I.big),rfl,h _ (I.hok.fresh (cR _))⟩
end
structure M1(X:Cx)(o:Expr)(m:Str)(apos:Pos)(e:Expr)(cpos:Pos):Prop where
 base:attributeBase o m X.env (eval o X.env)=eval o X.env
 bh:((backTo cpos (starEach [e] X.env)).all (λx=>!x.1) && (backToKw cpos (keywordEach [] X.env)).all (λx=>x.1.isSome)
  && decide (([e]:List Expr).length+([]:List Keyword).length+(if ([]:List Keyword).isEmpty then 0 else 1)<30))=true
 line:(apos.endLine == cpos.line)=true
 aB:backTo cpos (starEach [e] X.env)=[(false,eval e X.env)]
structure M2(X:Cx)(o:Expr)(m:Str)(apos:Pos)(e f:Expr)(cpos:Pos):Prop where
 base:attributeBase o m X.env (eval o X.env)=eval o X.env
 bh:((backTo cpos (starEach [e,f] X.env)).all (λx=>!x.1) && (backToKw cpos (keywordEach [] X.env)).all (λx=>x.1.isSome)
  && decide (([e,f]:List Expr).length+([]:List Keyword).length+(if ([]:List Keyword).isEmpty then 0 else 1)<30))=true
 line:(apos.endLine == cpos.line)=true
 aB:backTo cpos (starEach [e,f] X.env)=[(false,eval e X.env),(false,eval f X.env)]
section
variable {X:Cx} {pins:List (Addr×Obj)} {σ:St} {H:Hp} {s:Shared} {a:Addr} {y d:V} {u r:Value} {o:Option V} {A:Around} {E:Value->Shared->Prop}
end
section
variable {X:Cx} {o e f:Expr} {apos cpos:Pos} {td ty tx:TE}
end
section
variable {X:Cx} {pins:List (Addr×Obj)} {σ:St} {H:Hp} {s:Shared} {a:Addr} {kvs:List (Ap×V)} {A:Around} {E:Value->Shared->Prop}
end
section
variable {X:Cx} {pins:List (Addr×Obj)} {σ:St} {H:Hp} {s:Shared} {a:Addr} {y:V} {u:Value} {A:Around} {E:Value->Shared->Prop}
end
end L2
namespace Att
open PySem PySem.W PySem.Calls PyProof.Rows
theorem T3{P:Params}{h:Heap}:∀(ns:List Int) (vs:List Value),WellAll P h vs (ns.map WData.int)->IntsAre vs ns:=by
 intro ns
 induction ns with
 | nil =>
  intro vs w;rw[List.map_nil] at w;cases w;exact .nil
 | cons n ns ih =>
  intro vs w;rw[eJ] at w;cases w with
  | cons a b =>
   cases a;exact .cons _ _ (ih _ b)
theorem VN {l:OpenLaw} {n:Nat} (hn:l.most=some n) {P:Params} {h:Heap} {args:List WData} {vals:List Value}
  (hpre:l.row.toRowW.claim.pre args=true) (hwl:WellAll P h vals args) :
  ∃a vs ns,vals=[Value.ref a]/\args=[WData.list (ns.map WData.int)]/\h.get? a=some { cls:=.type "list",data:=.seq vs.toArray }/\IntsAre vs ns/\ns.length<=n:=by
 have hsh:WShape.hasAll [] args [.list .int]=true:=(pre_splitW hpre).1;have hc:l.pre.holds [] { args:=args }=true:=(pre_splitW hpre).2;obtain⟨d,r,rfl,h1,h2⟩:=hasAllW_cons hsh;obtain rfl:=hasAllW_nil h2;obtain⟨xs,rfl,h3⟩:=hasW_list h1;obtain⟨ns,rfl⟩:=items_int h3;have hlen:ns.length<=n:=by
  unfold OpenLaw.pre at hc;have h4:(WTm.not (.lt (.lit (.int (n:Int))) (.len (.arg 0)))).holds [] { args:=[.list (ns.map .int)] }=true:=by
   have h4:=(holds_andW hc).1;rw[hn] at h4;exact h4
  have h5:=condW_of h4 (w_not (w_lt w_lit (w_len_list (w_arg rfl))));rw[cf] at h5;refine Nat.le_of_not_lt λq=>?_
  have q':(n:Int)<((ns.length:Nat):Int):=by omega
  first
   | (rw[decide_eq_true q'] at h5; exact absurd h5 (by decide))
   | (simp at h5; omega)
 cases hwl with
 | cons w1 w2 =>
  cases w2;cases w1 with
  | list ho hall=>exact⟨_,_,ns,rfl,rfl,ho,T3 ns _ hall,hlen⟩
theorem Uy(l:OpenLaw)(args:List WData):l.row.toRowW.claim.post args (.bool true) args=true :=
 postW_of (r:=l.row.toRowW) (X:=(true == true))
  (show WShape.has [] (.bool true) .bool=true by first | rfl | decide | simp[WShape.has,WShape.arms,WShape.armsAll])
  (show(WTm.eq .res (.lit (.bool true))).value [] { args:=args,res:=some (.bool true),after:=args }=some (.bool (true == true)) from w_eq_bool (w_res rfl) w_lit) rfl
theorem Ny {l:OpenLaw} {n:Nat} {q:Program} {loose:List Str} {XP:(Str->Option Value)->Heap->Prop} {YP:World->Heap->Prop} {d:DefRec}
  (hn:l.most=some n) (hdf:d.params.defaults=[])
  (call:∀(w:World) (s₀ s₁:Shared) (mg mb:Str->Option Value) (fa:Addr) (o:Obj) (pm cd doc:Value) (a:Addr) (vs:List Value) (ns:List Int),
   Ground q loose [] XP w s₀ mg mb s₁.heap->YP w s₁.heap →
   s₁.heap.get? fa=some o->o.data=.func (docDef d.name d.params d.body d.scope pm cd doc)->s₁.heap.CodeRec cd d.name->mg d.name=some (.ref fa) →
   s₁.heap.get? a=some { cls:=.type "list",data:=.seq vs.toArray }->IntsAre vs ns->ns.length<=n->s₁.gens = #[] →
   codeAny (model l.prog w) callerA (.call (.ref fa) ⟨[.ref a],[]⟩) (λr s'=>r=.ok (.ret (.bool true))/\OldK s₁.heap s'.heap/\s'.os=s₁.os/\AllBare s'.gens) s₁) :
  WalkO q loose XP YP l.row.toRowW d [] (λf vs=>PySem.call f vs):=by
 intro w s₀ s₁ mg mb G Y fa o pm cd doc dV kV ho hd hcd hD hmg hg args vals as hpre hlay hrd hwl hlo;obtain rfl:dV=.none:=Dflts.none hD hdf;obtain rfl:kV=.none:=Dflts.noKw hD;obtain⟨a,vs,ns,rfl,rfl,hobj,hints,hlen⟩:=VN hn hpre hwl;refine enter_call (codeAny_mono (call w s₀ s₁ mg mb fa o pm cd doc a vs ns G Y ho (fd_plain hd) hcd hmg hobj hints hlen hg) λr s' hq=>?_);obtain⟨rfl,h2,h3,h4⟩:=hq;exact⟨.inl ⟨.bool true,.bool true,[],rfl,λ_=>rfl,.bool true,Uy l _,λ_=>⟨List.Pairwise.nil,λ_ hm=>(nomatch hm)⟩⟩,h2,h3,h4⟩
section
variable {prog:Program} {w:World} {A:Around} {E:Value->Shared->Prop} {s:Shared} {K:Frag}
def Iu(h:Heap):Heap:={ h with objs:=#[] }
theorem LX(h:Heap)(b:Addr):(Iu h).get? b=none:=by
 cases e:(Iu h).get? b with
 | none=>rfl
 | some o=>exact absurd (cV e) (Nat.not_lt_zero _)
def Kj(h:Heap)(L d:Addr):List (Addr×Obj):=(List.range h.objs.size).filterMap λa=>if a=L\/a=d then none else (h.get? a).map λo=>(a,o)
theorem LY{h:Heap}{L d a:Addr}{o:Obj}:(a,o)∈Kj h L d↔a≠L/\a≠d/\h.get? a=some o:=by
 unfold Kj;rw[List.mem_filterMap];constructor
 ·rintro⟨b,_,e⟩;split at e
  ·cases e
  ·rename_i hb
   obtain⟨o',ho,e'⟩:=dJ.mp e;cases e';exact⟨λq=>hb (.inl q),λq=>hb (.inr q),ho⟩
 ·rintro⟨n1,n2,ho⟩;refine⟨a,cZ.mpr (cV ho),?_⟩;rw[if_neg (show ¬(a=L\/a=d) from λq=>q.elim n1 n2),ho] <;> rfl
theorem UN{h:Heap}{L d:Addr}{od:Obj}(hne:d≠L)(ho:h.get? d=some od):News (Iu h) L h ([]++(d,od) :: Kj h L d):=by
 rintro⟨a,o⟩ hp;rcases cP.mp hp with e | hp
 ·cases e;exact⟨ho,hne,LX _ _⟩
 ·obtain⟨n1,n2,e⟩:=LY.mp hp;exact⟨e,n1,LX _ _⟩
theorem ZM{h:Heap}{L:Addr}{m:Str->Option Value}(n:h.Ns L m):Fr (Iu h) L h m :=
 ⟨n,λb o e=>(by rw[LX] at e; cases e),dk _⟩
theorem Ii {x C dx L:Addr} {ox:Obj} {m:Str->Option Value} {es es':List DictEntry} {n n':Nat} {name:Str} {v:Value} {Q:Unit->Shared->Prop}
  (X:K.In s.heap) (I:PySem.W.InstAt s.heap x ox C (some (dictOf es n))) (hd:ox.dict=some dx) (hL:s.heap.Ns L m) (hne:dx≠L)
  (hs:findIn K (.ref C) "__setattr__" = some (some (.builtin "object.__setattr__"))) (hp:plainOver K C=true) (ht:takerIn K C name=some none) (hh:hasDictIn K C=true) (hl:(getL name es).isSome=true)
  (e:(putL name (PyData.keyHash w.params name) (.str name (s.toks+1)) v es,putN name es n)=(es',n')) (hz:es'.length<=1000)
  (h:∀h':Heap,h'.Ns L m->h'.get? dx=some (dictOf es' n')->(∀b o,b≠dx->b≠L->s.heap.get? b=some o->h'.get? b=some o)->Q () { s with heap:=h',toks:=s.toks+2 }) :
  wpAny (model prog w) A (setAttr (.ref x) name v) Q E s:=by
 obtain⟨e1,e2⟩:=Prod.mk.inj e;have hdx:s.heap.get? dx=some (dictOf es n):=by
  have:=I.dict
  rw[hd] at this;exact this
 refine set_plain X I hs (osa_dict (s:={ s with toks:=s.toks+1 }) (h₀:=Iu s.heap) (L:=L) (m:=m) (od:=dictOf es n) (od':=dictOf es' n') (es:=es') (n:=n') (pre:=[]) (post:=Kj s.heap L dx)
  (ZM hL) (UN hne hdx) X I hd hp ht hh hl (λ_ q=>nomatch q) (λ⟨_,_⟩ q=>(LY.mp q).2.1) (by rw[putName_dict,e1,e2]) rfl hz λh' F' N'=>?_)
 exact h h' F'.ns (N'.get (List.Mem.head _)) λb o n1 n2 ho=>N'.get (List.Mem.tail _ (LY.mpr ⟨n2,n1,ho⟩))
end
end Att
namespace L2
open PySem PySem.Spec PyProof.Rows
theorem Le:∀{vs:List Value} {ns:List Int},IntsAre vs ns->AX (ns.map V.int) vs
 | _,_,.nil=>.nil
 | _,_,.cons n t h=>.cons ⟨t,rfl⟩ (Le h)
def NR(H:Hp):Prop:=∀b,H b=none\/∃o xs,H b=some (.C3 o (.AD xs))
theorem WE {P:Program} {w:World} {K:PySem.W.Frag} {mg mb:Str->Option Value} {CX:DP} {k:Nat} {fa a:Addr} {fd:FuncData} {x:Str} {sp:Sp} {s₁:Shared} {vs:List Value} {ns:List Int}
  (KX:K.In s₁.heap) (hns:s₁.heap.Ns mainGlobals mg) (hb:s₁.heap.Ns builtinsNs mb) (hbb:∀x:Str,x≠"__name__"->mb x=bootBuiltins x) (hlim:s₁.heap.NoLimit) (hg:s₁.gens = #[])
  (ha:s₁.heap.get? a=some { cls:=.type "list",data:=.seq vs.toArray }) (hi:IntsAre vs ns) (hl:ns.length<=sizeLine) (hr:Be k callerA)
  (F:∀base:Heap,K.In base->base.Ns mainGlobals mg->AL P w K mg base CX k fa fd [x] sp) (hbind:∀(s:Shared) (u:Value),BindsTo s fd ⟨[u],[]⟩ [(x,u)])
  (hsp:∀H:Hp,NR H->AJ K H a (ns.map V.int)->sp [.ref a] H (λv _=>v=.bl true) λ_ _ _=>False)
  (hCX:∀H e s',CX [] H s₁ (λ_ _ _=>False) e s'->False) :
  codeAny (model P w) callerA (.call (.ref fa) ⟨[.ref a],[]⟩) (λr s'=>r=.ok (.ret (.bool true))/\OldK s₁.heap s'.heap/\s'.os=s₁.os/\AllBare s'.gens) s₁:=by
 have rv:=Le hi;have lenV:=hi.length;have core:∀H:Hp,NR H->AJ K H a (ns.map V.int)->BN P w H s₁.heap->(∀b,H b≠none->b=a)->(H a≠none->K.lookup a=none) →
   codeAny (model P w) callerA (.call (.ref fa) ⟨[.ref a],[]⟩) (λr s'=>r=.ok (.ret (.bool true))/\OldK s₁.heap s'.heap/\s'.os=s₁.os/\AllBare s'.gens) s₁:=by
  intro H hO hS hok hA hK;have base_of:∀{b:Addr} {o:Obj},s₁.heap.get? b=some o->H b=none->(DN s₁.heap H).get? b=some o:=λe n=>Pd e n
  have noA:∀{b:Addr} {o:Obj} {es:Array DictEntry} {ep:Nat},s₁.heap.get? b=some o->o.data=.dict es ep->H b=none:=λ{b o es ep} e d=>by
   cases q:H b with
   | none=>rfl
   | some u =>
    have e':b=a:=hA b (by rw[q]; simp);subst e';rw[ha] at e; cases e;have d':Data.seq vs.toArray _=Data.dict es ep:=d;cases d'
  have nsK:∀{b:Addr} {m:Str->Option Value},s₁.heap.Ns b m->(DN s₁.heap H).Ns b m:=λ{b m} ⟨o,es,ep,e,d,r⟩=>⟨o,es,ep,base_of e (noA e d),d,r⟩
  have hKb:K.In (DN s₁.heap H):=λb o e=>base_of (KX b o e) (by
   cases q:H b with
   | none=>rfl
   | some u =>
    have e':b=a:=hA b (by rw[q]; simp);subst e';rw[hK (by rw[q]; simp)] at e; cases e)
  have hM:Mod K mg (DN s₁.heap H):=⟨hKb,nsK hns,⟨mb,nsK hb,hbb⟩,let ⟨mc,h1,h2⟩:=hlim; ⟨mc,nsK h1,h2⟩⟩;have e0:Fz P w K mg (DN s₁.heap H) callerA [] s₁ H:=⟨rfl,hM,λb o e=>QC e,Nat.le_of_eq (OR _ _),trivial,λb hb=>absurd (show b∈([]:List Addr) from hb) (by simp),hok,.of_eq hg⟩;refine codeAny_mono ((F _ hKb (nsK hns)).Jk callerA [] s₁ H ⟨[.ref a],[]⟩ [.ref a] [.ref a] _ _ hr e0 (hbind s₁ (.ref a)) (.cons rfl .nil) (hsp H hO hS)) λr s' h=>?_
  cases r with
  | error e=>exact(hCX H e s' h).elim
  | ok fl =>
   cases fl with
   | next=>exact False.elim h
   | brk=>exact False.elim h
   | cont=>exact False.elim h
   | ret u =>
    obtain⟨v,H',os,bare,un,hok',r',q⟩:=h;have q':v=.bl true:=q;subst q';obtain rfl:u=Value.bool true:=r';refine⟨rfl,OldK.of_keep λb o e=>?_,os,bare⟩;cases q:H b with
    | none=>exact un.keep b o e q (by intro z; exact absurd (show b∈([]:List Addr) from z) (by simp)) (by simp)
    | some u =>
     rcases hO b with z | ⟨ob,xs,z⟩
     ·rw[q] at z; cases z
     ·have z2:=un.frzs b ob _ z;obtain⟨e1,_⟩:=hok b _ z;obtain⟨e2,_⟩:=hok' b _ z2;rw[e] at e1; cases e1;exact e2
 cases hk:K.lookup a with
 | some o =>
  have e:=KX a o hk;rw[ha] at e;cases e;refine core (λ_=>none) (λ_=>.inl rfl) (.inr ⟨_,vs.toArray,_,hk,rfl,rfl,rfl,by rw[cx,lenV]; exact hl,by simpa using rv⟩) (λb u z=>by have z':(none:Option HO)=some u:=z; cases z') (λb z=>absurd rfl z) λz=>absurd rfl z
 | none =>
  refine core (λb=>if b=a then some (.C3 { cls:=.type "list",data:=.seq vs.toArray } (.AD (ns.map V.int))) else none) (λb=>?_) (.inl (.inr ⟨{ cls:=.type "list",data:=.seq vs.toArray },if_pos rfl⟩)) (λb u z=>?_) (λb z=>?_) λ_=>hk
  ·by_cases hb:b=a
   ·exact .inr ⟨_,_,if_pos hb⟩
   ·exact .inl (if_neg hb)
  ·by_cases hb:b=a
   ·have z':=(if_pos hb).symm.trans z;cases z';subst hb;exact⟨ha,by rw[cf]; exact hl,vs,_,rv,ha⟩
   ·have z':=(if_neg hb).symm.trans z;cases z'
  ·by_cases hb:b=a
   ·exact hb
   ·exact absurd (if_neg hb) z
abbrev cO{K:PySem.W.Frag}{h:Heap}(_:K.In h):PySem.W.Frag:=K
theorem cN {l:PySem.W.OpenLaw} {n k:Nat} {q:Program} {loose:List Str} {XP:(Str->Option Value)->Heap->Prop} {YP:World->Heap->Prop} {d:DefRec} {K:Params->PySem.W.Frag} {CX:World->DP} {sp:World->Sp} {x:Str}
  (hn:l.most=some n) (hn2:n<=sizeLine) (hdf:d.params.defaults=[]) (hr:Be k callerA)
  (hY:∀(w:World) (h:Heap),YP w h->(K w.params).In h)
  (F:∀(w:World) (mg:Str->Option Value) (fa:Addr) (h:Heap),(K w.params).In h->h.Ns mainGlobals mg->mg d.name=some (.ref fa) →
   ∃fd:FuncData,(∀(s:Shared) (u:Value),BindsTo s fd ⟨[u],[]⟩ [(x,u)]) /\
    ∀base:Heap,(K w.params).In base->base.Ns mainGlobals mg->AL l.prog w (K w.params) mg base (CX w) k fa fd [x] (sp w))
  (hsp:∀(w:World) (H:Hp) (a:Addr) (ns:List Int),ns.length<=n->NR H->AJ (K w.params) H a (ns.map V.int)->sp w [.ref a] H (λv _=>v=.bl true) λ_ _ _=>False)
  (hCX:∀(w:World) (H:Hp) (s:Shared) (e:Value) (s':Shared),CX w [] H s (λ_ _ _=>False) e s'->False) :
  PySem.W.WalkO q loose XP YP l.row.toRowW d [] (λf vs=>PySem.call f vs):=by
 refine Att.Ny hn hdf λw s₀ s₁ mg mb fa o pm cd doc a vs ns G Y ho hd hcd hmg hobj hints hlen hg=>?_
 have KX:=hY w _ Y;obtain⟨fd,hb,hF⟩:=F w mg fa _ KX G.T.g hmg;exact WE KX G.T.g G.T.b G.T.builtins G.T.nolimit hg hobj hints (dg hlen hn2) hr hF hb (λH hO hS=>hsp w H a ns hlen hO hS) λH e s'=>hCX w H s₁ e s'
def FH(s:Stmt):Arguments:=match s with
 | .FunctionDef _ a _ _ _ _ _ _ _ _=>a
 | _=>{ posonlyargs:=[],args:=[],vararg:=none,kwonlyargs:=[],kw_defaults:=[],kwarg:=none,defaults:=[] }
def EF(s:Stmt):List Stmt:=match s with
 | .FunctionDef _ _ b _ _ _ _ _ _ _=>b
 | _=>[]
def Ah(s:Stmt):Scope:=match s with
 | .FunctionDef _ _ _ _ _ _ sc _ _ _=>sc
 | _=>{ kind:=.function,names:=[],isGenerator:=false,isCoroutine:=false }
abbrev AK:DP:=λ_ _ _ _ _ _=>False
abbrev E0:XK:=λ_ _ _=>False
theorem Ad{X:Cx}:MM AK X E0:=λ_ _ _ _ _ _ _ h=>h.elim
structure Fun(K:PySem.W.Frag)(x qual:Str)(st:Stmt)(f:Addr)(fd:FuncData):Prop where
 ex:∃(oc:Value) (od:Option Addr) (kV doc pm:Value) (an:Option Addr) (cdv ct:Value) (osl:Array (Option Value)),
  fd=PySem.W.fnOf x qual (FH st) (EF st) (Ah st) .none kV doc pm an cdv ct/\K.lookup f=some ⟨oc,od,.func fd,osl⟩/\PySem.W.codeIn K cdv qual=true
 kp:KP K f
section
variable {P:Program} {w:World} {K:PySem.W.Frag} {mg:Str->Option Value} {base:Heap}
theorem Fun.ok {x qual:Str} {st:Stmt} {f:Addr} {fd:FuncData} {N ps:List Str} {k:Nat} {sp:Sp} (F:Fun K x qual st f fd) (S:Ar N ps (Ah st)) (len:∀vs H Q E,sp vs H Q E->vs.length=ps.length)
  (hbody:∀(cdv:Value) (A:Around) (outer:List Env) (s:Shared) (H:Hp) (vs:List V) (Q:VK) (E:XK),Be k (A.deeper (envOfC qual (Ah st) s.heap.objs.size f cdv))->sp vs H Q E →
   ∃t,Bu (HS AK P w K mg base N qual (Ah st) f cdv A outer s H E).Fb (EF st) t/\t { nx:=λ_ H'=>Q .Aj H',rt:=Q } (Ft N vs) H):AL P w K mg base AK (k+1) f fd ps sp:=by
 obtain⟨oc,od,kV,doc,pm,an,cdv,ct,osl,rfl,lk,hcd⟩:=F.ex;refine RQ lk hcd S len λA outer s H vs Q E hr hsp=>?_
 obtain⟨t,h,q⟩:=hbody cdv A outer s H vs Q E hr hsp;exact⟨t,h.Fb,q⟩
theorem Fun.binds {x qual:Str} {st:Stmt} {f:Addr} {fd:FuncData} {ps:List Str} (F:Fun K x qual st f fd)
  (h:∀(kV doc pm:Value) (an:Option Addr) (cdv ct:Value) (us:List Value),us.length=ps.length->bindArgs (PySem.W.fnOf x qual (FH st) (EF st) (Ah st) .none kV doc pm an cdv ct) ⟨us,[]⟩=pure (ps.zip us)):Af K fd ps []:=by
 obtain⟨oc,od,kV,doc,pm,an,cdv,ct,osl,rfl,lk,hcd⟩:=F.ex;exact .all (h kV doc pm an cdv ct)
theorem RI {x qual:Str} {st:Stmt} {f:Addr} {oc:Value} {od an:Option Addr} {osl:Array (Option Value)} {kV doc pm cdv ct:Value} (l:K.lookup f=some ⟨oc,od,.func (PySem.W.fnOf x qual (FH st) (EF st) (Ah st) .none kV doc pm an cdv ct),osl⟩)
  (c:PySem.W.codeIn K cdv qual=true) (k:KP K f):Fun K x qual st f (PySem.W.fnOf x qual (FH st) (EF st) (Ah st) .none kV doc pm an cdv ct):=⟨⟨oc,od,kV,doc,pm,an,cdv,ct,osl,rfl,l,c⟩,k⟩
end
theorem R9{A:Around}{k:Nat}(hr:Be k A):A.units+1<cLine:=Nat.lt_of_le_of_lt (Nat.add_le_add_left (by decide:1<=64) _) hr.units
section
variable {X:Cx}
theorem pv (i:Nat) {x:Str} {pos:Pos} (hN:X.N[i]?=some x:=by rfl) (hv:Nb X.env.scope x:=by first | exact Or.inl rfl | exact Or.inr (Or.inl rfl) | exact Or.inr (Or.inr rfl)) (hd:(x == ("__debug__":Str))=false:=by decide)
  (hcd:(x == ("__classdict__":Str))=false:=by decide):PE X (.Name x pos) (Au i):=Yb hN hv hd hcd
end
theorem CO{A B:Prop}(h:B):if false=true then A else B:=by
 rw[if_neg df];exact h
theorem FQ{A B:Prop}(h:A):if true=true then A else B:=by
 rw[if_pos rfl];exact h
theorem Ga{c A B:Prop}[Decidable c](h1:c->A)(h2:¬c->B):if c then A else B:=by
 by_cases h:c
 ·rw[if_pos h];exact h1 h
 ·rw[if_neg h];exact h2 h
theorem SA{c A B:Prop}[Decidable c](hc:c)(h:B):if (!decide c)=true then A else B:=by
 rw[decide_eq_true hc];exact CO h
def AN(H H':Hp):Prop:=∀b o,H b=some o->H' b=some o
theorem AN.refl(H:Hp):AN H H:=λ_ _ h=>h
theorem AN.trans{H H1 H2:Hp}(a:AN H H1)(b:AN H1 H2):AN H H2:=λc o h=>b c o (a c o h)
theorem AN.free{H H':Hp}(e:AN H H'){l:Addr}(h:H' l=Option.none):H l=Option.none:=by
 cases q:H l with
 | none=>rfl
 | some o =>
  rw[e l o q] at h;cases h
theorem AN.seq{K:PySem.W.Frag}{H H':Hp}{a:Addr}{xs:List V}(e:AN H H')(h:AJ K H a xs):AJ K H' a xs:=by
 rcases h with (h | ⟨o,h⟩) | h
 ·exact .inl (.inl (e _ _ h))
 ·exact .inl (.inr ⟨o,e _ _ h⟩)
 ·exact .inr h
section
variable {X:Cx}
end
section
variable {κ:Type} [DecidableEq κ]
end
end L2
namespace L2
open PySem
def DK(h h':Heap):Prop:=∀a o,h.get? a=some o->∃o',h'.get? a=some o'/\o'.dict=o.dict
theorem DK.refl(h:Heap):DK h h:=λ_ o e=>⟨o,e,rfl⟩
theorem DK.trans{h1 h2 h3:Heap}(x:DK h1 h2)(y:DK h2 h3):DK h1 h3:=λa o e=>by
 obtain⟨o1,e1,d1⟩:=x a o e;obtain⟨o2,e2,d2⟩:=y a o1 e1;exact⟨o2,e2,d2.trans d1⟩
theorem VC{h:Heap}{a:Addr}{o:Obj}(e:h.get? a=some o):o.isFreed=false:=by
 unfold Heap.get? at e;split at e
 ·cases e
 ·rename_i x hx
  obtain⟨c,d,dt,sl⟩:=o;cases dt <;> first | rfl | (exact absurd e (hx _ _ _))
theorem DK.AE{h:Heap}{a:Addr}{f:Obj->Obj}(hf:∀o,(f o).dict=o.dict/\(f o).isFreed=o.isFreed):DK h (h.update a f):=λb o e=>by
 by_cases hb:a=b
 ·subst hb;exact⟨f o,fJ f e ((hf o).2.trans (VC e)),(hf o).1⟩
 ·exact⟨o,(eR h f hb).trans e,rfl⟩
theorem DK.push(h:Heap)(x:Obj):DK h (h.push x):=λ_ o e=>⟨o,cj x e,rfl⟩
structure KpD{α:Type}(t:Sem α):Prop where
 out:∀(M:Model) (Γ:Ctx) (Q:α->Pos->Shared->Prop) (E:Value->Pos->Shared->Prop) (p:Pos) (s:Shared),Sem.wp M Γ t Q E p s->Sem.wp M Γ t (λa p' s'=>Q a p' s'/\DK s.heap s'.heap) E p s
namespace KpD
variable {α β:Type}
theorem pure(a:α):KpD (Pure.pure a:Sem α):=⟨λ_ _ _ _ _ s h=>⟨h,DK.refl _⟩⟩
theorem unsupported(w:String):KpD (PySem.unsupported w:Sem α):=⟨λ_ _ _ _ _ _ h=>h⟩
theorem bind{m:Sem α}{f:α->Sem β}(hm:KpD m)(hf:∀a,KpD (f a)):KpD (m >>= f):=⟨λM Γ Q E p s h=>by
 rw[Sem.wp_bind'] at h ⊢;refine Sem.wp_mono M Γ m (λa p' s' ⟨q,k⟩=>?_) (λ_ _ _ z=>z) p s (hm.out M Γ _ E p s h);exact Sem.wp_mono M Γ (f a) (λb p2 s2 ⟨q2,k2⟩=>⟨q2,k.trans k2⟩) (λ_ _ _ z=>z) p' s' ((hf a).out M Γ Q E p' s' q)⟩
theorem ite{c:Prop}[Decidable c]{t u:Sem α}(ht:KpD t)(hu:KpD u):KpD (if c then t else u):=by split <;> assumption
theorem load(a:Addr):KpD (PySem.load a):=⟨λ_ _ _ _ _ _ h=>by
 obtain⟨o,e,q⟩:=h;exact⟨o,e,q,DK.refl _⟩⟩
theorem stack:KpD PySem.stack:=⟨λ_ _ _ _ _ _ h=>⟨h,DK.refl _⟩⟩
theorem update(a:Addr){f:Obj->Obj}(hf:∀o,(f o).dict=o.dict/\(f o).isFreed=o.isFreed):KpD (PySem.update a f):=⟨λ_ _ _ _ _ _ h=>⟨h.1,h.2,DK.AE hf⟩⟩
theorem alloc(x:Obj):KpD (PySem.alloc x):=⟨λ_ _ _ _ _ _ h=>⟨h,DK.push _ _⟩⟩
theorem field(v:Value)(i:Nat):KpD (PySem.field v i):=⟨λM Γ Q E p s h=>by
 rw[wp_field_iff] at h ⊢;obtain⟨a,o,vs,x,e,ho,hd,hx,q⟩:=h;exact⟨a,o,vs,x,e,ho,hd,hx,q,DK.refl _⟩⟩
theorem ag(g:Array Value->Array Value)(o:Obj):(o.mapFields g).dict=o.dict/\(o.mapFields g).isFreed=o.isFreed:=by
 obtain⟨c,d,dt,sl⟩:=o;cases dt <;> exact⟨rfl,rfl⟩
theorem setField(v:Value)(i:Nat)(x:Value):KpD (PySem.setField v i x):=⟨λM Γ Q E p s h=>by
 rw[wp_setField_iff] at h ⊢;obtain⟨a,o,vs,e,ho,hd,hi,q⟩:=h;exact⟨a,o,vs,e,ho,hd,hi,q,DK.AE (ag _)⟩⟩
theorem newFields(ty:String)(vs:List Value):KpD (PySem.newFields ty vs):=by
 unfold PySem.newFields newObj newObjAsIs;dsimp only;split
 all_goals repeat' with_reducible first
  | exact unsupported _
  | exact alloc _
  | exact pure _
  | apply bind
  | intro _
theorem slotF(g:Obj->Array (Option Value))(o:Obj):({ o with slots:=g o }:Obj).dict=o.dict/\({ o with slots:=g o }:Obj).isFreed=o.isFreed:=by
 obtain⟨c,d,dt,sl⟩:=o;cases dt <;> exact⟨rfl,rfl⟩
end KpD
local macro_rules
 | `(tactic| trivial)=>`(tactic| (repeat' with_reducible first
  | assumption
  | exact KpD.pure _
  | exact KpD.unsupported _
  | exact KpD.field _ _
  | exact KpD.setField _ _ _
  | exact KpD.newFields _ _
  | exact KpD.load _
  | exact KpD.update _ (KpD.slotF _)
  | exact KpD.stack
  | exact KpD.alloc _
  | apply KpD.ite
  | apply KpD.bind
  | intro _
  | split))
end L2
namespace L2
open PySem PySem.Spec PyProof.Rows
def SQ(B:Heap)(l:List Env)(a:Addr)(cls:Value)(t:Addr)(od:Option Addr)(h:Heap):Prop:=Heap.FlyingW B l a cls (.ref t) h/\∃o,h.get? a=some o/\o.dict=od
theorem SQ.there{B h:Heap}{l:List Env}{a t:Addr}{cls:Value}{od:Option Addr}(x:SQ B l a cls t od h):∃o,h.get? a=some o/\o.cls=cls/\o.dict=od/\∃vs,o.data=.fields vs:=by
 obtain⟨o,e,d⟩:=x.2;obtain⟨o2,vs,e2,c,f,_⟩:=x.1.first;rw[e] at e2;cases e2;exact⟨o,e,c,d,vs,f⟩
theorem DK.dict{h h':Heap}{a:Addr}{od:Option Addr}(k:DK h h')(x:∃o,h.get? a=some o/\o.dict=od):∃o,h'.get? a=some o/\o.dict=od:=by
 obtain⟨o,e,d⟩:=x;obtain⟨o',e',d'⟩:=k a o e;exact⟨o',e',d'.trans d⟩
section
variable {X:Cx} {pins:List (Addr×Obj)} {σ:St} {H:Hp} {s s':Shared} {E:XK} {e:Value}
end
section
variable {P:Program} {w:World} {K:PySem.W.Frag} {mg:Str->Option Value} {base:Heap} {N:List Str} {qual:Str} {scope:Scope} {f:Addr} {cd:Value} {A:Around} {outer:List Env} {s₀:Shared} {H₀:Hp} {E:XK}
end
section
variable {M:Model} {A:Around} {E:Value->Shared->Prop} {s:Shared} {B:Heap} {env:Env} {outer l:List Env} {L e t:Addr} {cls:Value} {od:Option Addr} {Q:Unit->Shared->Prop}
end
def Bp(X:Cx)(scope:Scope)(cl:List (Str×Addr))(C:Addr)(Nc:List Str)(ex:List Addr)(pins:List (Addr×Obj))(s₀:Shared)(H₀:Hp):Cx where
 prog:=X.prog
 w:=X.w
 K:=X.K
 mg:=X.mg
 base:=X.base
 A:=X.A
 N:=Nc
 s₀:=s₀
 H₀:=H₀
 env:=compEnvC scope cl C X.env
 outer:=X.stack
 stack:=X.stack
 ex:=ex
 fn:=λy=>scope.names.lookup y == some .local
 BS:=true
 pn:=X.pn++pins
 xe:=λ_ _=>False
structure Fe(X:Cx)(scope:Scope)(cl:List (Str×Addr))(Nc:List Str)(cap:List (Nat×Nat)):Prop where
 clos:closureFor scope X.env=pure cl
 kind:scope.kind=.function
 names:∀y∈scope.names,y.2=.local->scope.names.lookup y.1=some .local
 nocell:∀y∈scope.names,y.2≠.cell
 sub:∀x c,cl.lookup x=some c->X.env.cells.lookup x=some c/\scope.names.lookup x≠some .local
 has:∀x,((relabel scope X.env).names.lookup x=some .cell\/(relabel scope X.env).names.lookup x=some .free)->∃c,cl.lookup x=some c
 caps:∀j i,(j,i)∈cap->∃x c,Nc[j]?=some x/\X.N[i]?=some x/\cl.lookup x=some c/\X.env.scope.names.lookup x=some .cell/\(relabel scope X.env).names.lookup x=some .cell
theorem B1 {X:Cx} {scope:Scope} {cl:List (Str×Addr)} {Nc:List Str} {cap:List (Nat×Nat)} (clos:closureFor scope X.env=pure cl) (kind:scope.kind=.function) (names:∀y∈scope.names,y.2=.local->scope.names.lookup y.1=some .local) (nocell:∀y∈scope.names,y.2≠.cell)
  (subs:∀p∈cl,X.env.cells.lookup p.1=some p.2/\scope.names.lookup p.1=some .free) (hass:((relabel scope X.env).names.all λp=>(p.2 != .cell && p.2 != .free) || (cl.lookup p.1).isSome)=true)
  (caps:∀p∈cap,∃x c,Nc[p.1]?=some x/\X.N[p.2]?=some x/\cl.lookup x=some c/\X.env.scope.names.lookup x=some .cell/\(relabel scope X.env).names.lookup x=some .cell):Fe X scope cl Nc cap :=
 ⟨clos,kind,names,nocell,λx c e=>⟨(subs (x,c) (fF e)).1,λz=>by
  have:=(subs (x,c) (fF e)).2
  rw[z] at this;cases this⟩,λx e=>by
  have key:∀k,(relabel scope X.env).names.lookup x=some k->(k=.cell\/k=.free)->∃c,cl.lookup x=some c:=λk e hk=>by
   have:=List.all_eq_true.mp hass (x,k) (fF e)
   rcases hk with rfl | rfl
   ·exact Option.isSome_iff_exists.mp (by simpa using this)
   ·exact Option.isSome_iff_exists.mp (by simpa using this)
  rcases e with e | e
  ·exact key _ e (.inl rfl)
  ·exact key _ e (.inr rfl),λj i m=>caps (j,i) m⟩
def HJ(n:Nat)(cap:List (Nat×Nat))(σ:St):St:=(List.range n).map λj=>((cap.find? λp=>p.1 == j).bind λp=>σ[p.2]?).bind id
theorem VD{n:Nat}{cap:List (Nat×Nat)}{σ:St}{j:Nat}{v:V}(h:(HJ n cap σ)[j]?=some (some v)):∃i,(j,i)∈cap/\σ[i]?=some (some v):=by
 unfold HJ at h;rw[cu] at h;cases e:(List.range n)[j]? with
 | none=>rw[e] at h; cases h
 | some k =>
  rw[e] at h;have hk:k=j:=by
   obtain⟨hl,q⟩:=cm.mp e;rw[List.getElem_range] at q;exact q.symm
  subst hk;simp only[Option.map_some,Option.some.injEq] at h;cases f:cap.find? λp=>p.1 == k with
  | none=>rw[f] at h; cases h
  | some p =>
   rw[f] at h;have h1:=List.mem_of_find?_eq_some f;have h2:p.1=k:=by
    have:=List.find?_some f
    exact eq_of_beq this
   refine⟨p.2,?_,?_⟩
   ·rw[<-h2]; exact h1
   ·simp only[Option.bind_some] at h;cases g:σ[p.2]? with
    | none=>rw[g] at h; cases h
    | some o=>rw[g] at h; simpa using h
section
variable {X:Cx} {pins:List (Addr×Obj)} {σ:St} {H:Hp} {s:Shared} {scope:Scope} {cl:List (Str×Addr)} {Nc:List Str} {cap:List (Nat×Nat)} {fp:List Addr}
theorem Wn (I:AI X pins σ H s) (hcalm:X.BS=true) (S:Fe X scope cl Nc cap) (hfp:∀b∈fp,E1 X pins H b) (hob:∀b∈fp,∃o,s.heap.get? b=some o) {C:Addr} {h1:Heap} {m:Str->Option Value} {tk:Nat} (hC:s.heap.objs.size<=C)
  (hn:h1.Ns C m) (keep:∀b o,s.heap.get? b=some o->h1.get? b=some o):AI (Bp X scope cl C Nc fp pins s H) [] (HJ Nc.length cap σ) H { s with heap:=h1,toks:=tk }:=by
 have neC:∀b o,s.heap.get? b=some o->b≠C:=λb o e=>c8 (dy (cV e) hC)
 refine⟨⟨I.ok.CH,S.kind,I.ok.Dg,I.ok.Ia,hC,λx y c e1 e2=>?_,λx hx=>S.has x hx,λx c e1 e2=>?_,λ_=>I.ok.hd hcalm,I.ok.frames,.inl rfl,λb hb=>⟨?_,λx c e=>?_⟩,I.bs,dg I.ok.E4 I.sz,λb o e hb=>?_,λb hb z=>?_,I.stack,I.Px⟩,
  rfl,I.bare,Un.BJ keep,⟨m,hn,λj x v e1 e2 e3=>?_⟩,λx c e=>?_,I.hok.fresh hC,λx c e=>?_,λp hp=>?_,I.hok.BJ keep,?_⟩
 ·exact I.ok.inj x y c (S.sub x c e1).1 (S.sub y c e2).1
 ·exact absurd (beq_iff_eq.mp e1) (S.sub x c e2).2
 ·obtain⟨o,e⟩:=hob b hb;exact neC b o e
 ·exact(hfp b hb).2.2.2.2.1 x c (S.sub x c e).1
 ·rcases(hfp b hb).2.2.2.1 with z | z
  ·exact I.ok.Jb b o e z
  ·exact absurd (dy (cV e) (dg I.ok.E4 z)) (fB _)
 ·rcases cP.mp (I.Kf b z) with z | z
  ·exact(hfp b hb).2.1 z
  ·exact(hfp b hb).2.2.1 z
 ·obtain⟨i,hm,hv⟩:=VD e2;obtain⟨x',c,q1,q2,q3,q4,q5⟩:=S.caps j i hm;have e1':Nc[j]?=some x:=e1;rw[q1] at e1';cases e1';obtain⟨mo,_,hl⟩:=I.Co;obtain⟨u,r,l⟩:=hl i x v q2 hv (.inr (.inl q4));refine⟨u,r,?_⟩;rcases l with ⟨k,_⟩ | ⟨_,c',e',z⟩
  ·have k':X.env.scope.names.lookup x=some .local:=k;rw[q4] at k';cases k'
  ·have:c'=c:=Option.some.inj (e'.symm.trans (S.sub x c q3).1)
   subst this;obtain⟨o,ho,hd⟩:=z;exact .inr ⟨.inl q5,c',q3,⟨o,keep _ _ ho,hd⟩⟩
 ·obtain⟨v,o,ho,hd⟩:=I.cell x c (S.sub x c e).1;exact⟨v,o,keep _ _ ho,hd⟩
 ·exact I.Dw x c (S.sub x c e).1
 ·have hp':p∈X.pn++pins:=by
   have z:p∈(X.pn++pins)++[]:=hp;rw[eD] at z;exact z
  obtain⟨e,n,ne,nf,d⟩:=I.pin p hp';refine⟨keep _ _ e,n,neC _ _ e,λz=>?_,d⟩;rcases cP.mp (I.Kf p.1 z) with z | z
  ·exact ne z
  ·exact nf z
 ·show(HJ Nc.length cap σ).length=Nc.length;unfold HJ;rw[cf,c7]
theorem VB(I:AI X pins σ H s)(hfp:∀b∈fp,E1 X pins H b){C:Addr}{σc:St}{H':Hp}{s':Shared}{h':Heap}(J:AI (Bp X scope cl C Nc fp pins s H) [] σc H' s')(hs:Heap.SameBut C s'.heap h'):AI X pins σ H' { s' with heap:=h' }:=by
 have hC:s.heap.objs.size<=C:=J.ok.above;have neC:∀b o,s.heap.get? b=some o->b≠C:=λb o e=>c8 (dy (cV e) hC)
 have u:=J.base;refine I.aF (s':={ s' with heap:=h' }) (ch:=fp) J.os ⟨λb o e n hb hx=>?_,λb o e n hb hx=>?_,u.free,λb o e hx=>?_,u.tups,u.frzs,u.tbls⟩ (λb o e=>?_) J.bare λb hb=>⟨(hfp b hb).2.2.2.1,(hfp b hb).2.1,(hfp b hb).2.2.2.2.1,(hfp b hb).2.2.2.2.2⟩
 ·exact(hs.2 b (neC b o e)).trans (u.keep b o e n hb hx)
 ·obtain⟨sl,q⟩:=u.slot b o e n hb hx;exact⟨sl,(hs.2 b (neC b o e)).trans q⟩
 ·obtain⟨o',q⟩:=u.there b o e hx;exact⟨o',(hs.2 b (neC b o e)).trans q⟩
 ·refine(J.hok b o e).FT (λc v hc q=>(hs.2 c ?_).trans q) (λ_ q=>q) λ_ _ q=>q
  intro z;subst z;have fr:H' c=none:=J.free;rcases hc with hc | hc
  ·rw[hc] at fr; rw[fr] at e; cases e
  ·rw[fr] at hc; cases hc
end
def Kq(n:Nat)(cap:List (Nat×Nat))(wi:TI)(g:TG)(te:TE):TE:=λσ H Q=>wi σ H λJ H1=>∀acc,H1 acc=none →
 ∃W:Nat->Nat->List V->St->Hp->Prop,(∃m,W 0 m [] (HJ n cap σ) (AE H1 acc (.AD [])))/\∀i m ys σc H2,W i m ys σc H2 →
  (J.stop i H2/\Q (.ref acc) H2)\/(J.go i H2/\∀x H3,J.EB i H2 x H3->g x σc H3 λσ4 H4=>te σ4 H4 λv H5=>H5 acc=some (.AD ys)/\ys.length<sizeLine/\∃m',m' < m/\W (i+1) m' (ys++[v]) σ4 (AE H5 acc (.AD (ys++[v]))))
def HB(n:Nat)(cap:List (Nat×Nat))(wi:TI)(g:TG)(tt:TT)(te:TE):TE:=λσ H Q=>wi σ H λJ H1=>∀acc,H1 acc=none →
 ∃W:Nat->Nat->List V->St->Hp->Prop,(∃m,W 0 m [] (HJ n cap σ) (AE H1 acc (.AD [])))/\∀i m ys σc H2,W i m ys σc H2 →
  (J.stop i H2/\Q (.ref acc) H2)\/(J.go i H2/\∀x H3,J.EB i H2 x H3->g x σc H3 λσ4 H4=>tt σ4 H4 λok H5=>if ok=true then (te σ4 H5 λv H6=>H6 acc=some (.AD ys)/\ys.length<sizeLine/\∃m',m' < m/\W (i+1) m' (ys++[v]) σ4 (AE H6 acc (.AD (ys++[v])))) else ∃m',m' < m/\W (i+1) m' ys σ4 H5)
def Ji(X:Cx)(ifs:List PySem.Expr)(tt:TT):Prop:=∀(pins:List (Addr×Obj)) (s:Shared) (σ:St) (H:Hp) (Q:Bool->Hp->Prop),AI X pins σ H s->tt σ H Q →
 wpAny (model X.prog X.w) X.A (forIn ifs true λc r=>if r=true then do let ok <-isTrue c X.env (eval c X.env); pure (ForInStep.yield ok) else pure (ForInStep.yield r)) (λok s'=>∃H',AI X pins σ H' s'/\Q ok H') X.xe s
theorem QL{X:Cx}{c:PySem.Expr}{tt:TT}(h:PT X c tt):Ji X [c] tt:=λpins s σ H Q I q=>wpAny_tests_one (h pins s σ H Q I q)
theorem Pg{X:Cx}:Ji X [] (λ_ H Q=>Q true H):=λ_ _ _ H _ I q=>wpAny_tests_nil ⟨H,I,q⟩
section
variable {prog:Program} {w:World} {A:Around} {s:Shared}
theorem UD {elt iter tg:PySem.Expr} {ifs:List PySem.Expr} {scope:Scope} {pos:Pos} {it acc:Value} {env:Env} {R:Result->Shared->Prop} (I:Nat->Shared->Prop)
  (turn:∀n s,I n s->wpAny (model prog w) A (pyNext it) (λr s₁=>match r with
   | none=>R (.ok .next) s₁
   | some v=>wpAny (model prog w) A (letOwnedTupleGo tg it v) (λ_ s₁'=>wpAny (model prog w) A (assign tg env v) (λ_ s₂ =>
     wpAny (model prog w) A (forIn ifs true λc r=>if r=true then do let ok <-isTrue c env (eval c env); pure (ForInStep.yield ok) else pure (ForInStep.yield r)) (λok s₃=>if ok=true then
      wpAny (model prog w) A (eval elt env) (λx s₄ =>
       wpAny (model prog w) A (call (.builtin "list.append") [acc,x]) (λ_ s₅=>∃m,m<n/\I m s₅) (λ_ _=>False) s₄) (λ_ _=>False) s₃
      else ∃m,m<n/\I m s₃) (λ_ _=>False) s₂)
     (λ_ _=>False) s₁') (λ_ _=>False) s₁) (notedBy (model prog w) A env λe s'=>R (.error e) s') s)
  (n:Nat) (h:I n s):codeAny (model prog w) A (.compLoop (.ListComp elt [⟨tg,iter,ifs,0⟩] scope pos) 0 it acc env) R s:=by
 refine codeAny_loop rfl I (λn s hI=>?_) n h;show wpAny _ A ((compTurn (.ListComp elt [⟨tg,iter,ifs,0⟩] scope pos) 0 it acc env).onRaise (λx=>do noteFrame x env; theTreesLotGoes x)) _ _ s;refine wpAny_noted ?_;rw[compTurn_list];refine wpAny_bind (wpAny_standAt (wpAny_bind (wpAny_mono (turn n s hI) (λr s₁ h₁=>?_) λ_ _ h'=>h')));cases r with
 | none=>exact wpAny_pure h₁
 | some v =>
  refine wpAny_bind (wpAny_mono h₁ (λ_ s₁' h₁'=>?_) λ_ _ h'=>False.elim h');refine wpAny_bind (wpAny_mono h₁' (λ_ s₂ h₂=>wpAny_bind (wpAny_mono h₂ (λok s₃ h₃=>?_) λ_ _ h'=>False.elim h')) λ_ _ h'=>False.elim h');cases ok with
  | false=>exact wpAny_pure ⟨rfl,h₃⟩
  | true =>
   exact wpAny_bind (wpAny_bind (wpAny_mono h₃ (λx s₄ h₄=>wpAny_bind (wpAny_mono h₄ (λ_ s₅ h₅=>wpAny_pure (wpAny_pure ⟨rfl,h₅⟩)) λ_ _ h'=>False.elim h')) λ_ _ h'=>False.elim h'))
end
section
variable {X:Cx} {elt iter tg:PySem.Expr} {ifs:List PySem.Expr} {pos:Pos} {scope:Scope} {cl:List (Str×Addr)} {Nc:List Str} {cap:List (Nat×Nat)} {wi:TI} {g:TG} {tt:TT} {te:TE}
theorem OU {pins:List (Addr×Obj)} {s:Shared} {σ:St} {H:Hp} {Q:V->Hp->Prop} {pos':Pos} {use:Option (Value->Sem Unit)} {P:Value->Shared->Prop} (hc:X.BS=true) (hi:PI X tg iter wi) (S:Fe X scope cl Nc cap)
  (hg:∀C fp pins s H,PG (Bp X scope cl C Nc fp pins s H) tg g) (ht:∀C fp pins s H,Ji (Bp X scope cl C Nc fp pins s H) ifs tt) (he:∀C fp pins s H,PE (Bp X scope cl C Nc fp pins s H) elt te)
  (hs:∀y,foldedSetIterable iter X.env y=pure y) (I:AI X pins σ H s) (h:HB Nc.length cap wi g tt te σ H Q)
  (fin:∀(acc C:Addr) (H5:Hp) (s6:Shared) (m6:Str->Option Value),AI X pins σ H5 s6->E1 X pins H5 C->s6.heap.Ns C m6->Q (.ref acc) H5->compPost (model X.prog X.w) X.A X.xe use P (.ref acc) C (.ok .next) s6) :
  wpAny (model X.prog X.w) X.A (comprehension (.ListComp elt [⟨tg,iter,ifs,0⟩] scope pos) scope X.env pos' (newList []) false (eval iter X.env) use) P X.xe s:=by
 refine wpAny_comprehension_free (use:=use) (cl:=cl) rfl hs S.clos S.kind S.names ?_;refine AZ (hi pins s σ H _ I h) λv s1 h1=>AZ h1 λitv s2 h2=>?_
 obtain⟨it,fp,tn,J,H2,e,I2,T,st2,f2,rd⟩:=h2;subst e;refine wpAny_newObj_type ?_;have hacc:H2 s2.heap.objs.size=none:=I2.hok.fresh (cR _);obtain⟨W,⟨m0,w0⟩,turn⟩:=rd s2.heap.objs.size hacc;have I3:AI X pins σ (AE H2 s2.heap.objs.size (.AD [])) { s2 with heap:=s2.heap.push { cls:=.type "list",dict:=none,data:=.seq ([]:List Value).toArray } } :=
  I2.laid (t':=s2.toks) (λb u e=>cj _ e) (cR _) ⟨dk _,[],0,.nil,cU _ rfl⟩
 have st3:tn 0 (s2.heap.push { cls:=.type "list",dict:=none,data:=.seq ([]:List Value).toArray }):=T.keep _ _ _ st2 λb _ o e=>cj _ e
 have f3:∀b∈fp,E1 X pins (AE H2 s2.heap.objs.size (.AD [])) b:=λb hb=>by
  obtain⟨o,e,_⟩:=T.obj _ _ st2 b hb;refine⟨?_,(f2 b hb).2⟩;rw[AW (c8 (cV e))];exact(f2 b hb).1
 generalize hh3:s2.heap.push { cls:=.type "list",dict:=none,data:=.seq ([]:List Value).toArray }=h3 at I3 st3 ⊢;generalize hH3:AE H2 s2.heap.objs.size (.AD [])=H3 at I3 f3 w0;generalize s2.heap.objs.size=acc at *;refine wpAny_newFunctionEnv S.nocell (by intro y hy; simp at hy) (λh4 hns hsb=>?_) S.kind;dsimp only at hns hsb ⊢;have keep:∀b o,h3.get? b=some o->h4.get? b=some o:=λb o e=>hsb.extBut b o (c8 (cV e)) (cj _ e)
 have f0:∀b∈fp,∃o,h3.get? b=some o:=λb hb=>by
  obtain⟨o,e,_⟩:=T.obj _ _ st3 b hb;exact⟨o,e⟩
 have I4:=Wn (tk:=s2.toks+([]:List (Str×Value)).length) I3 hc S f3 f0 (C:=h3.objs.size) (cR _) hns keep;have st4:tn 0 h4:=T.keep _ _ _ st3 λb _ o e=>keep b o e
 have stat:∀{H':Hp},(∀b∈fp,H' b=none)->∀b∈fp,E1 (Bp X scope cl h3.objs.size Nc fp pins { s2 with heap:=h3 } H3) [] H' b:=λhn b hb=>by
  obtain⟨o,e⟩:=f0 b hb;refine⟨hn b hb,c8 (cV e),I4.ok.JZ b hb,.inl hb,λx c q=>(f3 b hb).2.2.2.2.1 x c (S.sub x c q).1,λp hp=>?_⟩;have z:p∈(X.pn++pins)++[]:=hp;rw[eD] at z;exact(f3 b hb).2.2.2.2.2 p z
 have loop:codeAny (model X.prog X.w) X.A (.compLoop (.ListComp elt [⟨tg,iter,ifs,0⟩] scope pos) 0 (.ref it) (.ref acc) (compEnvC scope cl h3.objs.size X.env)) (compPost (model X.prog X.w) X.A X.xe use P (.ref acc) h3.objs.size)
   { s2 with heap:=h4,toks:=s2.toks+([]:List (Str×Value)).length }:=by
  refine UD (λn s'=>∃i ys σ' H',AI (Bp X scope cl h3.objs.size Nc fp pins { s2 with heap:=h3 } H3) [] σ' H' s'/\tn i s'.heap/\(∀b∈fp,H' b=none)/\W i n ys σ' H') ?_ m0 ⟨0,[],_,H3,I4,st4,λb hb=>(f3 b hb).1,w0⟩;rintro n s5 ⟨i,ys,σ5,H5,I5,st5,fr5,w5⟩;rcases turn i n ys σ5 H5 w5 with ⟨stop,qn⟩ | ⟨go,step⟩
  ·refine AZ (T.done (Bp X scope cl h3.objs.size Nc fp pins { s2 with heap:=h3 } H3) rfl rfl rfl rfl i [] s5 σ5 H5 _ I5 (stat fr5) st5 stop) λr s6 ⟨hr,I6⟩=>?_
   subst hr;obtain⟨m6,hn6,_⟩:=id I6.Co;exact fin acc _ H5 s6 m6 (VB (h':=s6.heap) I3 f3 I6 ⟨rfl,λ_ _=>rfl⟩) (I3.HN (cR _) I6.free) hn6 qn
  ·refine wpAny_mono (T.item (Bp X scope cl h3.objs.size Nc fp pins { s2 with heap:=h3 } H3) rfl rfl rfl rfl i [] s5 σ5 H5 (λ_ _=>False) I5 (stat fr5) st5 go) (λr s6 ⟨u,hr,h6⟩=>?_) λ_ _ z=>False.elim z
   subst hr;refine AZ h6 λ_ s7 ⟨y,H7,I7,r7,y7,st7,fr7⟩=>?_
   have I7':=I7.Qx (stat fr7) (T.obj _ _ st7);have kp:∀{σ8:St} {H8:Hp} {s8:Shared},AI (Bp X scope cl h3.objs.size Nc fp pins { s2 with heap:=h3 } H3) ([]++JB fp s7.heap) σ8 H8 s8->tn (i+1) s8.heap/\∀b∈fp,H8 b=none:=λ{σ8 H8 s8} I8 =>
    ⟨T.keep _ _ _ st7 λb hb o e=>(I8.pin (b,o) (dA _ (dA _ (Jn hb e)))).1,λb hb=>by
     obtain⟨o,e,d⟩:=T.obj _ _ st7 b hb;exact(I8.pin (b,o) (dA _ (dA _ (Jn hb e)))).2.1⟩
   refine AZ (hg _ _ _ _ _ _ s7 σ5 H7 y u _ I7' r7 (step y H7 y7)) λ_ s8 ⟨σ8,H8,I8,q8⟩=>?_
   refine AZ (ht _ _ _ _ _ _ s8 σ8 H8 _ I8 q8) λok s9 ⟨H9,I9,q9⟩=>?_
   cases ok with
   | false =>
    rw[if_neg df] at q9 ⊢;obtain⟨m',hm,w'⟩:=q9;obtain⟨st9,fr9⟩:=kp I9;exact⟨m',hm,i+1,ys,σ8,H9,I9.Ij,st9,fr9,w'⟩
   | true =>
    rw[if_pos rfl] at q9 ⊢;refine AZ (he _ _ _ _ _ _ s9 σ8 H9 _ I9 q9) λw10 s10 ⟨v10,H10,I10,r10,e10,l10,m',hm,q10⟩=>?_
    refine AZ (DT _ s10 σ8 H10 (.ref acc) [v10] (.ref acc) [w10] (λ_ H11=>W (i+1) m' (ys++[v10]) σ8 H11) I10 rfl (.cons r10 .nil) ⟨acc,ys,v10,rfl,rfl,e10,l10,q10⟩) λ_ s11 ⟨_,H11,I11,_,q11⟩=>?_
    obtain⟨st11,fr11⟩:=kp I11;exact⟨m',hm,i+1,ys++[v10],σ8,H11,I11.Ij,st11,fr11,q11⟩
 exact codeAny_compStart_list loop (T.self _ 0 _ _ _ st4 loop)
theorem Pb (hc:X.BS=true) (hi:PI X tg iter wi) (S:Fe X scope cl Nc cap)
  (hg:∀C fp pins s H,PG (Bp X scope cl C Nc fp pins s H) tg g) (ht:∀C fp pins s H,Ji (Bp X scope cl C Nc fp pins s H) ifs tt) (he:∀C fp pins s H,PE (Bp X scope cl C Nc fp pins s H) elt te)
  (hs:∀y,foldedSetIterable iter X.env y=pure y:=by intro _; rfl):PE X (.ListComp elt [⟨tg,iter,ifs,0⟩] scope pos) (HB Nc.length cap wi g tt te):=by
 intro pins s σ H Q I h;rw[eval_ListComp];exact OU (use:=none) hc hi S hg ht he hs I h λacc C H5 s6 m6 back fpC hn qn=>⟨m6,hn,λh7 hs7=>⟨.ref acc,H5,back.Er (t':=s6.toks) (λb o hb q=>(hs7.2 b hb).trans q) fpC.1 fpC.2.1 fpC.2.2.2.1 fpC.2.2.2.2.1 fpC.2.2.2.2.2,rfl,qn⟩⟩
theorem OE{n:Nat}:HB n cap wi g (λ_ H Q=>Q true H) te=Kq n cap wi g te:=by
 unfold HB Kq;simp only[if_true]
theorem EH (hc:X.BS=true) (hi:PI X tg iter wi) (S:Fe X scope cl Nc cap)
  (hg:∀C fp pins s H,PG (Bp X scope cl C Nc fp pins s H) tg g) (he:∀C fp pins s H,PE (Bp X scope cl C Nc fp pins s H) elt te)
  (hs:∀y,foldedSetIterable iter X.env y=pure y:=by intro _; rfl):PE X (.ListComp elt [⟨tg,iter,[],0⟩] scope pos) (Kq Nc.length cap wi g te) :=
 OE ▸ Pb (ifs:=[]) (pos:=pos) hc hi S hg (λ_ _ _ _ _=>Pg) he hs
theorem Oq {ct:PySem.Expr} (hc:X.BS=true) (hi:PI X tg iter wi) (S:Fe X scope cl Nc cap)
  (hg:∀C fp pins s H,PG (Bp X scope cl C Nc fp pins s H) tg g) (ht:∀C fp pins s H,PT (Bp X scope cl C Nc fp pins s H) ct tt) (he:∀C fp pins s H,PE (Bp X scope cl C Nc fp pins s H) elt te)
  (hs:∀y,foldedSetIterable iter X.env y=pure y:=by intro _; rfl):PE X (.ListComp elt [⟨tg,iter,[ct],0⟩] scope pos) (HB Nc.length cap wi g tt te) :=
 Pb hc hi S hg (λC fp pins s H=>QL (ht C fp pins s H)) he hs
theorem Nw {i:Nat} {y:Str} {py spos:Pos} (hN:X.N.Nodup) (hiN:X.N[i]?=some y) (hy:HX X.env.scope y)
  (hc:X.BS=true) (hi:PI X tg iter wi) (S:Fe X scope cl Nc cap)
  (hg:∀C fp pins s H,PG (Bp X scope cl C Nc fp pins s H) tg g) (ht:∀C fp pins s H,Ji (Bp X scope cl C Nc fp pins s H) ifs tt) (he:∀C fp pins s H,PE (Bp X scope cl C Nc fp pins s H) elt te)
  (hsw:swapsWith (.ListComp elt [⟨tg,iter,ifs,0⟩] scope pos) (some (.Name y py)) spos.line X.env=pure true:=by rfl) (hs:∀z,foldedSetIterable iter X.env z=pure z:=by intro _; rfl)
  (hf:X.fn y=true\/X.env.scope.names.lookup y=some .local:=by first | exact .inl rfl | exact .inr rfl | assumption) :
  PS X (.Assign [.Name y py] (.ListComp elt [⟨tg,iter,ifs,0⟩] scope pos) spos) (JM (HB Nc.length cap wi g tt te) (BG i)):=by
 intro pins s σ H D I h;rw[exec_Assign_Name_used _ _ _ _ hsw];refine wpAny_bind (wpAny_standAt (wpAny_bind ?_));show wpAny _ X.A (do let _ <-comprehension (.ListComp elt [⟨tg,iter,ifs,0⟩] scope pos) scope X.env _ (newList []) false (eval iter X.env) (some (assign (.Name y py) X.env))) _ _ s;refine wpAny_bind (wpAny_mono (OU (use:=some (assign (.Name y py) X.env)) (P:=λ_ s'=>SP X pins D .next s') hc hi S hg ht he hs I h λacc C H5 s6 m6 back fpC hn6 qn=>?_) (λ_ s' hq=>wpAny_pure (wpAny_pure hq)) λ_ _ e=>e);show wpAny (model X.prog X.w) X.A (assign (.Name y py) X.env (.ref acc)) _ X.xe s6;refine wpAny_assign_Name (OI (v:=.ref acc) back hN hiN hy rfl (λs7 I7 ⟨a7,sb7,e7⟩=>?_) hf);have nC:C≠a7:=by
  rcases e7 with e7 | e7
  ·rw[e7]; exact fpC.2.1
  ·exact eK (fpC.2.2.2.2.1 _ _ e7)
 refine⟨m6,hn6.sameBut sb7 nC,λh8 hs8=>⟨_,H5,?_,qn⟩⟩;exact I7.Er (t':=s7.toks) (λb o hb q=>(hs8.2 b hb).trans q) fpC.1 fpC.2.1 fpC.2.2.2.1 fpC.2.2.2.2.1 fpC.2.2.2.2.2
theorem LQ {ct:PySem.Expr} {i:Nat} {y:Str} {py spos:Pos} (hN:X.N.Nodup) (hiN:X.N[i]?=some y) (hy:HX X.env.scope y)
  (hc:X.BS=true) (hi:PI X tg iter wi) (S:Fe X scope cl Nc cap)
  (hg:∀C fp pins s H,PG (Bp X scope cl C Nc fp pins s H) tg g) (ht:∀C fp pins s H,PT (Bp X scope cl C Nc fp pins s H) ct tt) (he:∀C fp pins s H,PE (Bp X scope cl C Nc fp pins s H) elt te)
  (hsw:swapsWith (.ListComp elt [⟨tg,iter,[ct],0⟩] scope pos) (some (.Name y py)) spos.line X.env=pure true:=by rfl) (hs:∀z,foldedSetIterable iter X.env z=pure z:=by intro _; rfl)
  (hf:X.fn y=true\/X.env.scope.names.lookup y=some .local:=by first | exact .inl rfl | exact .inr rfl | assumption) :
  PS X (.Assign [.Name y py] (.ListComp elt [⟨tg,iter,[ct],0⟩] scope pos) spos) (JM (HB Nc.length cap wi g tt te) (BG i)) :=
 Nw hN hiN hy hc hi S hg (λC fp pins s H=>QL (ht C fp pins s H)) he hsw hs hf
theorem Gw {i:Nat} {y:Str} {py spos:Pos} (hN:X.N.Nodup) (hiN:X.N[i]?=some y) (hy:HX X.env.scope y)
  (hc:X.BS=true) (hi:PI X tg iter wi) (S:Fe X scope cl Nc cap)
  (hg:∀C fp pins s H,PG (Bp X scope cl C Nc fp pins s H) tg g) (he:∀C fp pins s H,PE (Bp X scope cl C Nc fp pins s H) elt te)
  (hsw:swapsWith (.ListComp elt [⟨tg,iter,[],0⟩] scope pos) (some (.Name y py)) spos.line X.env=pure true:=by rfl) (hs:∀z,foldedSetIterable iter X.env z=pure z:=by intro _; rfl)
  (hf:X.fn y=true\/X.env.scope.names.lookup y=some .local:=by first | exact .inl rfl | exact .inr rfl | assumption) :
  PS X (.Assign [.Name y py] (.ListComp elt [⟨tg,iter,[],0⟩] scope pos) spos) (JM (Kq Nc.length cap wi g te) (BG i)) :=
 OE ▸ Nw (ifs:=[]) hN hiN hy hc hi S hg (λ_ _ _ _ _=>Pg) he hsw hs hf
end
section
variable {X:Cx}
def BV(i:Int):Prop:=i.natAbs<2 ^ 8000
theorem Qa{i:Int}(h:BV i):i.natAbs.log2<8000:=by
 by_cases z:i.natAbs=0
 ·rw[z]; decide
 ·exact(Nat.log2_lt z).mpr h
theorem PR{i:Int}(h:BV i):Builtin.Int.intBits i<=8001:=by
 have:=Qa h
 unfold Builtin.Int.intBits;split <;> omega
def RW(i j:Int):Prop:=BV i/\BV j
theorem KJ:By X (binaryOp .Mult) (rI RW λi j=>.int (i*j)):=Hc λ_ _ _ _ _ _ _ hc q=>mul_int q (IntMulOk.of_bits (dg (PR hc.1) (by decide)) (dg (PR hc.2) (by decide)))
def IH(_ j:Int):Prop:=j≠0/\BV j
theorem Hu:By X (binaryOp .FloorDiv) (rI IH λi j=>.int (i.fdiv j)):=Hc λ_ _ _ _ _ _ _ hc q=>floordiv_int hc.1 q (.inl (PyProof.noPylong_of_log2 (by have:=Qa hc.2; omega)))
def aa(K:PySem.W.Frag)(c:V)(cv:Value):List V->Hp->VK->Prop:=λxs H Q=>∃x t b,xs=[x,c]/\Cy K H x t/\PySem.W.kitOne K t cv=some b/\Q (.bl b) H
theorem J4{c:V}{cv:Value}(hc:∀u,Ae c u->u=cv):CT X (.builtin "isinstance") (aa X.K c cv):=by
 intro pins s σ H xs us Q I r h;obtain⟨x,t,b,rfl,ty,e,q⟩:=h;obtain⟨u,w',rfl,r1,r2⟩:=JI r;cases hc w' r2;exact VM I r1 ty e λtk=>⟨.bl b,H,I.Cn _,rfl,q⟩
theorem Jl:bootBuiltins "isinstance" = some (.builtin "isinstance"):=by decide +kernel
theorem Yy:bootBuiltins "int" = some (.type "int"):=by decide +kernel
theorem Xu:bootBuiltins "bool" = some (.type "bool"):=by decide +kernel
theorem ED:bootBuiltins "tuple" = some (.type "tuple"):=by decide +kernel
theorem Qs:bootBuiltins "all" = some (.builtin "all"):=by decide +kernel
theorem Bh:bootBuiltins "len" = some (.builtin "len"):=by decide +kernel
theorem Yi:bootBuiltins "abs" = some (.builtin "abs"):=by decide +kernel
theorem MK:bootBuiltins "max" = some (.builtin "max"):=by decide +kernel
theorem ID:bootBuiltins "min" = some (.builtin "min"):=by decide +kernel
theorem Lr(K:PySem.W.Frag)(t:Value):PySem.W.kitOne K t t=some true:=by
 unfold PySem.W.kitOne;rw[if_pos (beq_self_eq_true t)]
theorem UG(K:PySem.W.Frag):PySem.W.kitOne K (.type "int") (.type "bool")=some false:=by first | rfl | decide +kernel | kernel_rfl
theorem Pp:∀{bs:List Bool} {us:List Value},AX (bs.map V.bl) us->us=bs.map Value.bool
 | [],_,.nil=>rfl
 | b :: r,_,.cons (b:=u) h t=>by
  have h':u=Value.bool b:=h;rw[h',Pp t];rfl
def Sl(K:PySem.W.Frag):List V->Hp->VK->Prop:=λxs H Q=>∃(p:Addr) (bs:List Bool),xs=[.ref p]/\AJ K H p (bs.map V.bl)/\Q (.bl (bs.all id)) H
theorem Vu(bs:List Bool):((List.range bs.length).all λi=>(bs[i]?).getD true)=bs.all id:=by
 rw[fc,List.all_eq_true,List.all_eq_true];constructor
 ·intro h b hb;obtain⟨i,hi,rfl⟩:=List.mem_iff_getElem.mp hb
  have:=h i (cZ.mpr hi)
  rw[cg hi] at this;exact this
 ·intro h i hi;have hl:=cZ.mp hi;rw[cg hl];exact h _ (eP hl)
theorem Oi(hc:X.BS=true):CT X (.builtin "all") (Sl X.K):=by
 intro pins s σ H xs us Q I r h;obtain⟨p,bs,rfl,hq,q⟩:=h;obtain⟨u,rfl,r1⟩:=Ey r;cases r1;obtain⟨its,rv,pl,hz⟩:=I.list hq;have e:=Pp rv;subst e;have hlt:p<s.heap.objs.size:=by
  obtain⟨o,_,ho,_⟩:=pl;exact cV ho
 refine call_all_walk (wpAny_pyIter_list pl.isList ?_);refine⟨s.heap.objs.size,_,_,_,_,_,λi=>(bs[i]?).getD true,rfl,Walks.list (show X.A.in1.handled=none from I.ok.hd hc) _ p (c8 hlt) (bs.map Value.bool).toArray,⟨⟨_,cU _ rfl,rfl,rfl⟩,pl.isList.push _⟩,λi v s' Q' E' hP hQ'=>?_,λh' tk k=>?_⟩
 ·have hP:(bs.map Value.bool).toArray[i]?=some v:=hP;have hQ':Q' ((bs[i]?).getD true) s':=hQ';rw[fT,cu] at hP;cases e:bs[i]? with
  | none=>rw[e] at hP; cases hP
  | some b =>
   rw[e] at hP;obtain rfl:Value.bool b=v:=Option.some.inj hP;have hQ2:Q' b s':=by
    rw[e] at hQ';exact hQ'
   exact wpAny_pure hQ2
 ·refine⟨.bl (bs.all id),H,I.BJ λb o eb=>?_,?_,q⟩
  ·exact k b o (λz=>by
    have:b=s.heap.objs.size:=by simpa using z
    exact absurd (cV eb) (by rw[this]; exact fB _)) (cj _ eb)
  ·show Value.bool _=Value.bool _;rw[cx,cf,Vu]
end
section
variable {prog:Program} {w:World} {A:Around} {E:Value->Shared->Prop} {s:Shared}
theorem Ul {c t:Addr} {k:Nat} {vs:Array Value} {y:Value} {Q:Value->Shared->Prop} (hc:s.heap.IsTupleIter c t k) (ht:s.heap.IsTuple t vs) (hy:vs[k]?=some y)
  (hQ:∀h',h'.IsTupleIter c t (k+1)->Heap.SameBut c s.heap h'->Q y { s with heap:=h' }):wpAny (model prog w) A (Builtin.SmallTypes.nextOf (.ref c)) Q E s:=by
 obtain⟨ob,e1,e2,e3⟩:=id hc;obtain⟨ot,f1,_,nt,f2⟩:=ht;unfold Builtin.SmallTypes.nextOf;refine wpAny_bind (wpAny_callSpecial?_slot (name:=Str.ofString "__next__") hc.typeIs PySem.F.slot_tuple_iterator_next (wpAny_call_entry PySem.F.slot_tuple_iterator_next hc.typeIs PySem.F.entry_tuple_iterator_next ?_ (PySem.F.args_tuple_iterator_next_1 _)));show wpAny _ _ (field (.ref c) 0 >>= _) _ _ s;refine wpAny_bind (wpAny_field e1 e3 (x:=.ref t) rfl ?_);show wpAny _ _ (if (Value.ref t == Value.none)=true then _ else _) _ _ _;rw[if_neg (show ¬((Value.ref t == Value.none)=true) by exact df)];show wpAny _ _ (field (.ref c) 1 >>= _) _ _ s;refine wpAny_bind (wpAny_field e1 e3 (x:=.int k 0) rfl ?_);show wpAny _ _ (seqItems? (.ref t) >>= _) _ _ _;refine wpAny_bind (wpAny_seqItems f1 f2 ?_);simp only[fD,hy];refine wpAny_bind (wpAny_setField e1 e3 (by simp) (wpAny_pure ⟨y,rfl,wpAny_pure (hQ _ ?_ (eV ..))⟩));exact⟨_,fJ _ e1 (Obj.isFreed_of_fields (Obj.data_mapFields e3 _)),(Obj.cls_mapFields ..).trans e2,by rw[Obj.data_mapFields e3]; simp[rawInt]⟩
theorem Vs {c t:Addr} {k:Nat} {vs:Array Value} {Q:Value->Shared->Prop} (hh:A.handled=none) (hc:s.heap.IsTupleIter c t k) (ht:s.heap.IsTuple t vs) (hy:vs[k]?=none)
  (hE:∀h' x,Heap.ExtBut c s.heap h'->(∃o,h'.get? x=some o/\o.cls=.type "StopIteration")->E (.ref x) { s with heap:=h' }):wpAny (model prog w) A (Builtin.SmallTypes.nextOf (.ref c)) Q E s:=by
 obtain⟨ob,e1,e2,e3⟩:=id hc;obtain⟨ot,f1,_,nt,f2⟩:=ht;unfold Builtin.SmallTypes.nextOf;refine wpAny_bind (wpAny_callSpecial?_slot (name:=Str.ofString "__next__") hc.typeIs PySem.F.slot_tuple_iterator_next (wpAny_call_entry PySem.F.slot_tuple_iterator_next hc.typeIs PySem.F.entry_tuple_iterator_next ?_ (PySem.F.args_tuple_iterator_next_1 _)));show wpAny _ _ (field (.ref c) 0 >>= _) _ _ s;refine wpAny_bind (wpAny_field e1 e3 (x:=.ref t) rfl ?_);show wpAny _ _ (if (Value.ref t == Value.none)=true then _ else _) _ _ _;rw[if_neg (show ¬((Value.ref t == Value.none)=true) by exact df)];show wpAny _ _ (field (.ref c) 1 >>= _) _ _ s;refine wpAny_bind (wpAny_field e1 e3 (x:=.int k 0) rfl ?_);show wpAny _ _ (seqItems? (.ref t) >>= _) _ _ _;refine wpAny_bind (wpAny_seqItems f1 f2 ?_);simp only[fD,hy];refine wpAny_bind (wpAny_rule (wpAny_bind (wpAny_setField e1 e3 (by simp) ?_)));show wpAny _ _ (newExc (.type "StopIteration") [] >>= _) _ _ (_:Shared);refine wpAny_bind ?_;simp only[newExc,newTuple];refine wpAny_bind (wpAny_newObj_type ?_ (by size_fits)); refine wpAny_bind (m:=firstArgMember _ _) (wpAny_of_eq (a:=Value.none) (by first | rfl | (simp only[firstArgMember]; rfl)) ?_);refine wpAny_newObj_type ?_ (by size_fits); simp only[raiseNew];refine wpAny_bind (wpAny_handled ?_); first | rw[show A.in1.handled=none from hh] | rw[hh]
 refine wpAny_bind (wpAny_pure (wpAny_throw (hE _ _ (((eV ..).extBut.push _).push _) ⟨_,cU _ rfl,rfl⟩)))
end
section
variable {X:Cx}
def Xp:V->List V->Hp->VK->Prop:=λx vs H Q=>∃l xs k y,x=.ref l/\vs=[.int k,y]/\H l=some (.AD xs)/\0<=k/\k<=xs.length/\xs.length<1000000/\Q .Aj (AE H l (.AD (xs.take k.toNat++y :: xs.drop k.toNat)))
theorem Oc:Ic X "list.insert" Xp:=by
 intro pins s σ H x vs v us Q I rx rv h;obtain⟨l,xs,k,y,rfl,rfl,hH,k0,k1,hz,q⟩:=h;cases rx;obtain⟨u1,u2,rfl,r1,r2⟩:=JI rv;obtain⟨t,rfl⟩:=r1;obtain⟨z,its,n,r,hl,e⟩:=I.DJ hH;have hzs:its.length<=sizeLine:=by rw[<-hl]; exact z
 have hfit:¬(!Builtin.List.listFitsIndex k)=true:=by
  unfold Builtin.List.listFitsIndex;simp only[Bool.not_eq_true,Bool.not_eq_false',dO,decide_eq_true_eq];omega
 refine call_meets PySem.F.slot_list_insert ⟨_,e,rfl⟩ PySem.F.entry_list_insert (PySem.F.args_list_insert_3 _ _ _) (AutoSeq1.list_insert_list_int_val_1 l its.toArray n k t u2 hfit (by rw[cx]; exact hzs)) ⟨e,?_⟩;refine⟨.Aj,_,I.GC (its':=its.take k.toNat++u2 :: its.drop k.toNat) hH e ?_ ((r.take _).append (.cons r2 (r.drop _))) ?_,rfl,q⟩
 ·have hk:¬k<0:=by omega
  have hm:min k.toNat its.toArray.size=k.toNat:=by rw[cx]; omega
  simp only[if_neg hk,hm];apply Array.toList_inj.mp;simp;exact dC (by simp)
 ·rw[cX,dM,dm,dN];rw[sizeLine_eq] at *;omega
theorem Vc(hc:X.BS=true):CT X (.builtin "min") (λxs H Q=>∃(p:Addr) (ns:List Int),xs=[.ref p]/\H p=some (.AF (ns.map V.int))/\0<ns.length/\∀m,m∈ns->(∀a∈ns,m<=a)->Q (.int m) H):=by
 intro pins s σ H xs us Q I r h;obtain⟨p,ns,rfl,hp,hne,q⟩:=h;obtain⟨u,rfl,r1⟩:=Ey r;cases r1;obtain⟨its,rv,pa,_⟩:=I.tuple (AO.of (K:=X.K) hp);have hlen:its.length=ns.length:=by rw[<-rv.length,cf]
 have hlt:p<s.heap.objs.size:=by
  obtain⟨o,ho,_⟩:=id pa;exact cV ho
 have num:∀i v,its.toArray[i]?=some v->∃t,v=.int (ns.getD i 0) t/\i<ns.length:=λi v hv=>by
  rw[fT] at hv;have hi:i<its.length:=(cm.mp hv).1;have hi2:i<ns.length:=by omega
  have hx:(ns.map V.int)[i]?=some (.int ns[i]):=by rw[cu,cg hi2]; rfl
  obtain⟨u,hu,ru⟩:=rv.get hx;rw[hu] at hv;obtain rfl:u=v:=Option.some.inj hv;obtain⟨t,rfl⟩:=ru;exact⟨t,by rw[cw,cg hi2]; rfl,hi2⟩
 refine call_min_walk (wpAny_pyIter_tuple pa ?_);refine⟨s.heap.objs.size,_,_,_,_,_,λi j=>decide (ns.getD i 0<ns.getD j 0),rfl,Walks.tuple (show X.A.in1.handled=none from I.ok.hd hc) _ p (c8 hlt) its.toArray,⟨⟨_,cU _ rfl,rfl,rfl⟩,pa.push _⟩,λb hb=>?_,by rw[cx]; omega,λi j vi vj s' Q' E' hi hj hQ'=>?_,λv h' tk hv k=>?_⟩
 ·simp only[cP,de,or_false] at hb;rw[eF];rcases hb with rfl | rfl
  ·exact Nat.lt_succ_self _
  ·exact eY hlt
 ·obtain⟨t1,rfl,_⟩:=num i vi hi;obtain⟨t2,rfl,_⟩:=num j vj hj;exact lt_int hQ'
 ·obtain⟨t,rfl,hb⟩:=num _ v hv;obtain⟨h1,h2⟩:=argBest_lt (λi=>ns.getD i 0) (its.toArray.size-1);refine⟨.int _,H,I.BJ λb o eb=>?_,⟨t,rfl⟩,q _ (getD_mem hb) λa ha=>?_⟩
  ·exact k b o (λz=>by
    have:b=s.heap.objs.size:=by simpa using z
    exact absurd (cV eb) (by rw[this]; exact fB _)) (cj _ eb)
  ·obtain⟨j,hj,rfl⟩:=mem_getD ha;exact h2 j (by rw[cx]; omega)
end
section
variable {X:Cx}
def JQ(a : Addr): It :=
  ⟨λi H => ∃xs x, H a = some (.AD xs) /\ xs[i]? = some x,
   λi H v H' => ∃p x, v = .ref p /\ H p = none /\ H' = AE H p (.AF [.int i, x]) /\ ∀xs, H a = some (.AD xs) → xs[i]? = some x,
   λi H => ∃xs, H a = some (.AD xs) /\ xs.length = i⟩
theorem Ug{P:Program}{w:World}{K:PySem.W.Frag}{es:List PySem.Expr}{kk:Nat}{pos:Pos}{a e it:Addr}(hei:e≠it):
  HU P w K (.Tuple es kk pos) (JQ a) [e,it] e (λi h=>(∃old,IsEnum h e it ((i:Nat):Int) old)/\h.IsListIter it a i) where
 mem:=by simp
 obj:=λi h st c hc=>by
  obtain⟨⟨old,h1⟩,o2,h2,_,d2⟩:=st;simp only[cP,de,or_false] at hc;rcases hc with rfl | rfl
  ·exact⟨_,h1,λv z=>by have z':Data.fields _=Data.cell v:=z; cases z'⟩
  ·exact⟨_,h2,λv z=>by rw[d2] at z; cases z⟩
 keep:=λi h h' st k=>by
  obtain⟨⟨old,h1⟩,o2,h2,r⟩:=st;exact⟨⟨old,k e (by simp) _ h1⟩,o2,k it (by simp) _ h2,r⟩
 item:=by
  intro X hP hw hK hc i pins s σ H E I hf st hg;subst hP hw hK;obtain⟨xs,x,qa,hx⟩:=hg;obtain⟨its,rv,pa,_⟩:=I.list (AJ.of (K:=X.K) qa);obtain⟨ux,hux,rx⟩:=rv.get hx;obtain⟨⟨old,h1⟩,h2⟩:=st;have nea:e≠a:=λz=>by
   have:=(hf e (by simp)).1
   rw[z,qa] at this;cases this
  have nia:a≠it:=λz=>by
   have:=(hf it (by simp)).1
   rw[<-z,qa] at this;cases this
  have hlt:i<its.toArray.size:=by
   rw[cx];exact(cm.mp hux).1
  have D:Draws X.prog X.w X.A.in1 it [it,a] its.toArray.size (λi v=>its.toArray[i]?=some v) (λi h=>h.IsListIter it a i/\h.IsList a its.toArray):=Draws.list (show X.A.in1.handled=none from I.ok.hd hc) it a nia its.toArray;refine wpAny_pyNext_enum_itemD D h1 ⟨h2,pa.isList⟩ hlt hei (by simp[hei,nea]) λy h' tk hy a1 a2 a3 a4 k=>?_
  have hyx:y=ux:=by
   have q1:its.toArray[i]?=some y:=hy;rw[fT,hux] at q1;exact(Option.some.inj q1).symm
  subst hyx;refine⟨_,rfl,wpAny_letOwnedTupleGo_enum a1 λh'' b1 sb=>?_⟩;have sb:Heap.SameBut e h' h'':=sb;have hse:s.heap.objs.size≠e:=fj (cV h1);have hsi:s.heap.objs.size≠it:=by
   obtain⟨o,g,_⟩:=id h2;exact fj (cV g)
  have hn:H s.heap.objs.size=none:=I.hok.fresh (cR _);have kk':∀c o,c∉[e,it]->s.heap.get? c=some o->h''.get? c=some o:=λc o hc q =>
   (sb.2 c λz=>hc (by simp[z])).trans (k c o (λz=>hc (by simp[z])) (λz=>hc (by simp[z])) q)
  have tO:h''.get? s.heap.objs.size=some { cls:=.type "tuple",data:=.seq #[.int i tk,y] }:=(sb.2 _ hse).trans a3;have nt:∀c u,H c=some u->c∉[e,it]:=λc u q hc=>by
   have:=(hf c hc).1
   rw[q] at this;cases this
  have tupOk:A9 X.prog X.w (AE H s.heap.objs.size (.AF [.int i,x])) h'' s.heap.objs.size (.AF [.int i,x]) :=
   ⟨by exact sz2,[.int i tk,y],.cons ⟨tk,rfl⟩ (.cons rx .nil),⟨_,tO,rfl,_,rfl⟩,_,tO,rfl⟩
  have I1:AI X pins σ (AE H s.heap.objs.size (.AF [.int i,x])) { s with heap:=h'',toks:=tk+1 }:=by
   refine I.step (g':=s.gens) (d':=s.drawn) (t':=tk+1) (ch:=[e,it]) (λc hc=>⟨(hf c hc).2.2.2.1,(hf c hc).2.1,(hf c hc).2.2.2.2.1,(hf c hc).2.2.2.2.2⟩) (λc o _ _ hc q _=>kk' c o hc q) (λc o _ _ hc q _=>⟨o.slots,kk' c o hc q⟩)
    (λc o _ q n=>by rw[AW (c8 (cV q))]; exact n) (λc o hc q=>⟨o,kk' c o hc q⟩) (λc vs q=>by rw[AW (BB q hn)]; exact q) (λc o vs q=>by rw[AW (BB q hn)]; exact q)
    (λc ps q=>⟨#[],by rw[AW (BB q hn),q]; simp⟩) (λm hm=>?_) (λc o q=>?_) I.bare
   ·obtain⟨o,es',ep,ho,r⟩:=hm;exact⟨o,es',ep,kk' _ o (λq=>(hf _ q).2.1 rfl) ho,r⟩
   ·by_cases hcs:c=s.heap.objs.size
    ·subst hcs;rw[AM] at q;cases q;exact tupOk
    ·rw[AW hcs] at q;refine(I.hok c o q).FT (λd v hd z=>kk' d v ?_ z) (λd z=>by rw[AW (BB z hn)]; exact z) λd vs z=>by rw[AW (BB z hn)]; exact z
     rcases hd with hd | hd
     ·rw[hd]; exact nt c o q
     ·exact nt d _ hd
  have g2:h''.IsListIter it a (i+1):=by
   obtain⟨⟨o,g,r⟩,_⟩:=a2;exact⟨o,(sb.2 _ (eK hei)).trans g,r⟩
  have g1:IsEnum h'' e it (((i+1:Nat)):Int) y:=by
   have:((i+1:Nat):Int)=(i:Int)+1:=by omega
   rw[this];exact b1
  exact⟨.ref s.heap.objs.size,_,I1,rfl,⟨_,x,rfl,hn,rfl,λxs' q=>by rw[qa] at q; cases q; exact hx⟩,⟨⟨_,g1⟩,g2⟩,λc hc=>by
   have:c≠s.heap.objs.size:=by
    simp only[cP,de,or_false] at hc;rcases hc with rfl | rfl
    ·exact eK hse
    ·exact eK hsi
   rw[AW this];exact(hf c hc).1⟩
 done:=by
  intro X hP hw hK hc i pins s σ H E I hf st hg;subst hP hw hK;obtain⟨xs,qa,hl⟩:=hg;obtain⟨its,rv,pa,_⟩:=I.list (AJ.of (K:=X.K) qa);obtain⟨⟨old,h1⟩,h2⟩:=st;have nia:a≠it:=λz=>by
   have:=(hf it (by simp)).1
   rw[<-z,qa] at this;cases this
  have D:Draws X.prog X.w X.A.in1 it [it,a] its.toArray.size (λi v=>its.toArray[i]?=some v) (λi h=>h.IsListIter it a i/\h.IsList a its.toArray):=Draws.list (show X.A.in1.handled=none from I.ok.hd hc) it a nia its.toArray;have hi:its.toArray.size=i:=by
   rw[cx,<-rv.length];exact hl
  obtain⟨f0,f1,f2,f3,f4,f5⟩:=hf it (by simp);refine wpAny_pyNext_enum_endD D h1 (by rw[hi]; exact⟨h2,pa.isList⟩) λh' k=>⟨rfl,I.Er (t':=s.toks) (λb o hb q=>k b o hb q) f0 f1 f3 f4 f5⟩
 self:=λ_ _ _ _ _ st h=>by
  obtain⟨⟨old,h1⟩,_⟩:=st;exact wpAny_pyIter_enum h1 h
def ZK(ta:TA):TI:=λσ H R=>ta σ H λvs H1=>∃a xs,vs=[.ref a]/\H1 a=some (.AD xs)/\R (JQ a) H1
theorem Jy{es:List PySem.Expr}{kk:Nat}{tpos:Pos}{a:PySem.Expr}{ta:TA}{p pos:Pos}(hg:Gl X "enumerate")(hm:X.mg "enumerate" = none)(ha:PA X [a] ta)(hs:starEach [a] X.env=[(false,eval a X.env)]:=by rfl):
  PI X (.Tuple es kk tpos) (.Call (.Name "enumerate" p) [a] [] pos) (ZK ta):=by
 intro pins s σ H R I h;refine Call_ (Dt I hg hm PyProof.Rows.boot_enumerate (eh (AZ (ha pos pins s σ H _ I h) λus s1 ⟨vs,H1,I1,r1,q1⟩=>?_) hs rfl));obtain⟨la,xs,e,qa,q⟩:=q1;subst e;obtain⟨u1,rfl,ra⟩:=Ey r1;cases ra;obtain⟨its,rv,pa,_⟩:=I1.list (AJ.of (K:=X.K) qa);refine call_enumerate_list pa.isList λh' z1 z2 _ zk=>wpAny_pyIter_enum z1 ?_
 have I2:AI X pins σ H1 { s1 with heap:=h' }:=I1.BJ (t':=s1.toks) zk;refine⟨s1.heap.objs.size+1,_,_,_,H1,rfl,I2,Ug (Nat.succ_ne_self _),⟨⟨_,z1⟩,z2⟩,λc hc=>?_,q⟩;have hge:s1.heap.objs.size<=c:=by
  simp only[cP,de,or_false] at hc;rcases hc with rfl | rfl <;> omega
 exact I1.HN (H':=H1) hge (I1.hok.fresh hge)
theorem Jq {a:Addr} {xs:List V} {g:TG} {tb:TS} {D:ET} {σ:St} {H:Hp} (Pv:Nat->St->Hp->Prop) (h0:Pv 0 σ H) (hl:∀i σ H,i<=xs.length->Pv i σ H->H a=some (.AD xs))
  (hs:∀i x σ H p,xs[i]?=some x->Pv i σ H->H p=none->g (.ref p) σ (AE H p (.AF [.int i,x])) λσ2 H2=>tb { D with nx:=Pv (i+1),ct:=Pv (i+1),bk:=D.nx } σ2 H2) (hd:∀σ H,Pv xs.length σ H->D.nx σ H) :
  ∃W:Nat->Nat->St->Hp->Prop,(∃m,W 0 m σ H)/\∀i m σ H,W i m σ H →
   ((JQ a).stop i H/\D.nx σ H)\/((JQ a).go i H/\∃N:St->Hp->Prop,(∀σ' H',N σ' H'->∃m',m' < m/\W (i+1) m' σ' H')/\∀x H',(JQ a).EB i H x H'->g x σ H' λσ2 H2=>tb { D with nx:=N,ct:=N,bk:=D.nx } σ2 H2):=by
 refine⟨λi m σ H=>m=xs.length-i/\i<=xs.length/\Pv i σ H,⟨xs.length,by simp,dk _,h0⟩,?_⟩;rintro i m σ H ⟨rfl,hi,p⟩;have qa:=hl i σ H hi p;rcases c5 i xs.length with hlt | hge
 ·refine .inr ⟨⟨xs,xs[i],qa,by simp[hlt]⟩,Pv (i+1),λσ' H' p'=>⟨xs.length-(i+1),by omega,rfl,hlt,p'⟩,λv H' yl=>?_⟩;obtain⟨pa,x,rfl,hp,rfl,hx⟩:=yl;exact hs i x σ H pa (hx xs qa) p hp
 ·obtain rfl:i=xs.length:=by omega
  exact .inl ⟨⟨xs,qa,rfl⟩,hd σ H p⟩
variable {a:Addr} {xs:List V} {g:TG} {tb:TS} {D:ET} {σ:St} {H:Hp}
theorem C7 {X:Cx} (K:PySem.W.Frag) {o e:PySem.Expr} {es:List PySem.Expr} {to:TE} {t:TA} {name:Str} {apos cpos:Pos} {T id:String} {r:V->List V->Hp->VK->Prop} (pa:PlainAttrs T) (slot:Slot T name id) (hty:typeOf (.builtin id)=pure (.type "method_descriptor")) (hm:TY X id r) (ho:PE X o to) (ha:PA X (e :: es) t)
  (hbase:attributeBase o name X.env (eval o X.env)=eval o X.env:=by rfl)
  (hfew:((backTo cpos (starEach (e :: es) X.env)).all (λx=>!x.1) && (backToKw cpos (keywordEach [] X.env)).all (λx=>x.1.isSome) && decide ((e :: es).length+([]:List Keyword).length+(if ([]:List Keyword).isEmpty then 0 else 1)<30))=true:=by rfl)
  (hline:(apos.endLine == cpos.line)=true:=by rfl) (hs:starEach (e :: es) X.env=(false,eval e X.env) :: starEach es X.env:=by rfl) (hplain:(backTo cpos (starEach es X.env)).any (·.1)=false:=by rfl) (hK:X.K=K:=by rfl) :
  PE X (.Call (.Attribute o name apos) (e :: es) [] cpos) (TU K T r to t):=by
 subst hK;exact GV pa slot hty hm ho ha hbase hfew hline hs hplain
theorem LW:∀{ns:List Int} {us:List Value},AX (ns.map V.int) us->IntsAre us ns
 | [],_,.nil=>.nil
 | n :: r,_,.cons (b:=u) h t=>by
  obtain⟨k,rfl⟩:=h;exact .cons n k (LW t)
theorem OA(ns:List Int):SeqAt.shaped (.tuple (ns.map PyData.int))=true:=by
 simp[SeqAt.shaped,PyData.canLay0,PyData.depth,PySem.W.ke_canLayAll0,PySem.W.ke_depthAll]
theorem Wr(ns ms:List Int):PySem.Spec.same (.tuple (ns.map PyData.int)) (.tuple (ms.map PyData.int))=decide (ns=ms):=by
 simp only[PySem.Spec.same];exact PySem.W.ke_sameAll ns ms
theorem Lh(hu:X.A.units+64<cLine):By X (compareOp .Eq) (λx y H Q=>∃(p q:Addr) (ns ms:List Int),x=.ref p/\y=.ref q/\H p=some (.AF (ns.map V.int))/\H q=some (.AF (ms.map V.int))/\Q (.bl (decide (ns=ms))) H):=by
 intro pins s σ H x y v u Q I rx ry h;obtain⟨p,q,ns,ms,rfl,rfl,hp,hq,k⟩:=h;cases rx;cases ry;obtain⟨its,r1,t1,_⟩:=I.tuple (AO.of (K:=X.K) hp);obtain⟨jts,r2,t2,_⟩:=I.tuple (AO.of (K:=X.K) hq);refine eq_dataH_same (reads_tuple_ints t1 (LW r1)) (reads_tuple_ints t2 (LW r2)) (OA ns) (OA ms) hu (SeqAt.noMix_of_shape (.tuples .int) rfl _ _ (tuples_map_has λ_=>rfl) (tuples_map_has λ_=>rfl)) ?_;rw[Wr];exact⟨.bl _,H,I,rfl,k⟩
def BU(t:Bool)(h:Heap)(c a:Addr)(k:Nat):Prop:=if t then h.IsTupleIter c a k else h.IsListIter c a k
def CY(t:Bool)(h:Heap)(a:Addr)(vs:Array Value):Prop:=if t then h.IsTuple a vs else h.IsList a vs
theorem BU.ext{t:Bool}{h h':Heap}{c b a:Addr}{k:Nat}(x:BU t h c a k)(hs:Heap.ExtBut b h h')(n:c≠b):BU t h' c a k:=by
 cases t
 ·exact Heap.IsListIter.extBut x hs n
 ·exact Heap.IsTupleIter.extBut x hs n
theorem BU.at{t:Bool}{h h':Heap}{c a:Addr}{k:Nat}(x:BU t h c a k)(e:∀o,h.get? c=some o->h'.get? c=some o):BU t h' c a k:=by
 cases t
 ·exact Heap.IsListIter.at x e
 ·exact Heap.IsTupleIter.at x e
theorem BU.obj{t:Bool}{h:Heap}{c a:Addr}{k:Nat}(x:BU t h c a k):∃o,h.get? c=some o/\∀v,o.data≠.cell v:=by
 cases t
 ·obtain⟨o,e,_,d⟩:=x;exact⟨o,e,λv z=>by rw[d] at z; cases z⟩
 ·obtain⟨o,e,_,d⟩:=x;exact⟨o,e,λv z=>by rw[d] at z; cases z⟩
theorem CY.ext{t:Bool}{h h':Heap}{b a:Addr}{vs:Array Value}(x:CY t h a vs)(hs:Heap.ExtBut b h h')(n:a≠b):CY t h' a vs:=by
 cases t
 ·exact Heap.IsList.extBut x hs n
 ·exact Heap.IsTuple.extBut x hs n
variable {prog:Program} {w:World} {A:Around} {E:Value->Shared->Prop} {s:Shared}
theorem LV {t:Bool} {c a:Addr} {k:Nat} {vs:Array Value} {y:Value} {Q:Value->Shared->Prop} (hc:BU t s.heap c a k) (ht:CY t s.heap a vs) (hy:vs[k]?=some y)
  (hQ:∀h',BU t h' c a (k+1)->Heap.SameBut c s.heap h'->Q y { s with heap:=h' }):wpAny (model prog w) A (Builtin.SmallTypes.nextOf (.ref c)) Q E s:=by
 cases t
 ·exact wpAny_nextOf_list_item hc ht hy hQ
 ·exact Ul hc ht hy hQ
theorem Ob {t:Bool} {c a:Addr} {k:Nat} {vs:Array Value} {Q:Value->Shared->Prop} (hh:A.handled=none) (hc:BU t s.heap c a k) (ht:CY t s.heap a vs) (hy:vs[k]?=none)
  (hE:∀h' x,Heap.ExtBut c s.heap h'->(∃o,h'.get? x=some o/\o.cls=.type "StopIteration")->E (.ref x) { s with heap:=h' }):wpAny (model prog w) A (Builtin.SmallTypes.nextOf (.ref c)) Q E s:=by
 cases t
 ·exact wpAny_nextOf_list_end hh hc ht hy hE
 ·exact Vs hh hc ht hy hE
theorem Uz {t1 t2:Bool} {z TI TO i1 i2 l1 l2:Addr} {k1 k2:Nat} {xs ys:Array Value} {x y a b:Value} {Q:Value->Shared->Prop} (ap:ZipApart z TI TO i1 i2 l1 l2)
  (qz:IsZip s.heap z TI TO .none) (qI:IsPair s.heap TI (.ref i1) (.ref i2)) (qO:IsPair s.heap TO a b)
  (q1:BU t1 s.heap i1 l1 k1) (q2:BU t2 s.heap i2 l2 k2) (m1:CY t1 s.heap l1 xs) (m2:CY t2 s.heap l2 ys) (hx:xs[k1]?=some x) (hy:ys[k2]?=some y)
  (hQ:∀g,IsZip g z TI TO (rawInt s.heap.objs.size)->IsPair g TO x y->BU t1 g i1 l1 (k1+1)->BU t2 g i2 l2 (k2+1)->IsPair g s.heap.objs.size x y->g.objs.size=s.heap.objs.size+1 →
   (∀c o,c≠z->c≠TO->c≠i1->c≠i2->s.heap.get? c=some o->g.get? c=some o)->Q (.ref s.heap.objs.size) { s with heap:=g }) :
  wpAny (model prog w) A (Builtin.«zip.__next__» ⟨[.ref z],[]⟩) (λfin s'=>∃v,fin=.done (.ret v)/\Q v s') E s:=by
 show wpAny _ A (field (.ref z) 2 >>= _) _ _ _;refine wpAny_bind (wpAny_field qz rfl (x:=.bool false) rfl ?_); show wpAny _ A (field (.ref z) 3 >>= _) _ _ _;refine wpAny_bind (wpAny_field qz rfl (x:=.ref TI) rfl (wpAny_bind (wpAny_seqItems qI rfl ?_)));show wpAny _ A (Builtin.SmallTypes.ownedTupleIsFree (.ref z) >>= _) _ _ _;refine wpAny_bind ?_; unfold Builtin.SmallTypes.ownedTupleIsFree;refine wpAny_bind (wpAny_field qz rfl (x:=.none) rfl (wpAny_pure ?_)); simp only[if_true];refine wpAny_bind (wpAny_rule (wpAny_bind (wpAny_field qz rfl (x:=.ref TO) rfl (wpAny_bind (wpAny_setField_rec qz (by simp) λg1 z1 s1=>?_)))));replace z1:IsZip g1 z TI TO .ellipsis:=z1;refine wpAny_bind ?_; simp only[List.zipIdx_cons,List.zipIdx_nil,List.forIn_cons,List.forIn_nil];refine wpAny_bind (wpAny_bind (wpAny_onRaise ?_)); show wpAny _ A (Builtin.SmallTypes.nextOf (.ref i1) >>= _) _ _ _;refine wpAny_bind (LV (q1.ext s1.extBut ap.i1z) (m1.ext s1.extBut ap.l1z) hx λg2 n1 s2=>wpAny_pure ?_);have O2:IsPair g2 TO a b:=s2.extBut _ _ ap.TOi1 (s1.extBut _ _ ap.TOz qO);refine wpAny_bind (wpAny_seqItems O2 rfl (wpAny_bind (wpAny_updateSeq_pair O2 λg3 O3 s3=>?_)));replace O3:IsPair g3 TO x b:=O3;refine wpAny_bind (wpAny_letGo (wpAny_pure (wpAny_bind (wpAny_bind (wpAny_onRaise ?_))))); show wpAny _ A (Builtin.SmallTypes.nextOf (.ref i2) >>= _) _ _ _;refine wpAny_bind (LV (((q2.ext s1.extBut ap.i2z).ext s2.extBut ap.i12.symm).ext s3.extBut ap.TOi2.symm) (((m2.ext s1.extBut ap.l2z).ext s2.extBut ap.l2i1).ext s3.extBut ap.l2TO) hy λg4 n2 s4=>wpAny_pure ?_);have O4:IsPair g4 TO x b:=s4.extBut _ _ ap.TOi2 O3;refine wpAny_bind (wpAny_seqItems O4 rfl (wpAny_bind (wpAny_updateSeq_pair O4 λg5 O5 s5=>?_)));replace O5:IsPair g5 TO x y:=O5;refine wpAny_bind (wpAny_letGo (wpAny_pure (wpAny_pure (wpAny_bind (wpAny_seqItems O5 rfl (wpAny_bind (wpAny_newTuple ?_)))))));have sz5:g5.objs.size=s.heap.objs.size:=by rw[s5.1,s4.1,s3.1,s2.1,s1.1]
 have z5:IsZip g5 z TI TO .ellipsis:=s5.extBut _ _ ap.TOz.symm (s4.extBut _ _ ap.i2z.symm (s3.extBut _ _ ap.TOz.symm (s2.extBut _ _ ap.i1z.symm z1)));have kp:∀c o,c≠z->c≠TO->c≠i1->c≠i2->s.heap.get? c=some o->g5.get? c=some o:=λc o c1 c2 c3 c4 e =>
  s5.extBut _ _ c2 (s4.extBut _ _ c4 (s3.extBut _ _ c2 (s2.extBut _ _ c3 (s1.extBut _ _ c1 e))))
 have N1:BU t1 g5 i1 l1 (k1+1):=((n1.ext s3.extBut ap.TOi1.symm).ext s4.extBut ap.i12).ext s5.extBut ap.TOi1.symm;have N2:BU t2 g5 i2 l2 (k2+1):=n2.ext s5.extBut ap.TOi2.symm;have ltz:z<g5.objs.size:=cV z5;show wpAny _ A (Builtin.SmallTypes.ownedTupleHandOut (.ref z) (.ref g5.objs.size) >>= _) _ _ _;refine wpAny_bind ?_; unfold Builtin.SmallTypes.ownedTupleHandOut;have z6:IsZip (g5.push { cls:=.type "tuple",data:=.seq #[x,y] }) z TI TO .ellipsis:=cj _ z5;refine wpAny_bind (wpAny_setField_rec z6 (by simp) λg7 z7 s7=>?_);replace z7:IsZip g7 z TI TO (rawInt g5.objs.size):=z7;refine wpAny_setField_rec z7 (by simp) λg8 z8 s8=>?_
 replace z8:IsZip g8 z TI TO (rawInt g5.objs.size):=z8;have up:∀c o,c≠z->g5.get? c=some o->g8.get? c=some o:=λc o c1 e=>s8.extBut _ _ c1 (s7.extBut _ _ c1 (cj _ e))
 have T8:IsPair g8 g5.objs.size x y:=s8.extBut _ _ (fj ltz) (s7.extBut _ _ (fj ltz) (cU _ rfl));have sz8:g8.objs.size=g5.objs.size+1:=by rw[s8.1,s7.1,eF]
 rw[sz5] at z8 T8 sz8;refine wpAny_pure ⟨_,rfl,?_⟩;show Q (.ref g5.objs.size) _;rw[sz5];exact hQ g8 z8 (up _ _ ap.TOz O5) (N1.at λo e=>up _ o ap.i1z e) (N2.at λo e=>up _ o ap.i2z e) T8 sz8 λc o c1 c2 c3 c4 e=>up c o c1 (kp c o c1 c2 c3 c4 e)
theorem Wl {t1 t2:Bool} {z TI TO i1 i2 l1 l2:Addr} {k1 k2:Nat} {xs ys:Array Value} {a b:Value} {Q:Fin->Shared->Prop} (hh:A.handled=none) (ap:ZipApart z TI TO i1 i2 l1 l2)
  (qz:IsZip s.heap z TI TO .none) (qI:IsPair s.heap TI (.ref i1) (.ref i2)) (qO:IsPair s.heap TO a b)
  (q1:BU t1 s.heap i1 l1 k1) (q2:BU t2 s.heap i2 l2 k2) (m1:CY t1 s.heap l1 xs) (m2:CY t2 s.heap l2 ys) (hend:xs[k1]?=none\/ys[k2]?=none)
  (hE:∀g e,(∀c o,c≠z->c≠TO->c≠i1->c≠i2->s.heap.get? c=some o->g.get? c=some o)->(∃o,g.get? e=some o/\o.cls=.type "StopIteration")->E (.ref e) { s with heap:=g }) :
  wpAny (model prog w) A (Builtin.«zip.__next__» ⟨[.ref z],[]⟩) Q E s:=by
 show wpAny _ A (field (.ref z) 2 >>= _) _ _ _;refine wpAny_bind (wpAny_field qz rfl (x:=.bool false) rfl ?_); show wpAny _ A (field (.ref z) 3 >>= _) _ _ _;refine wpAny_bind (wpAny_field qz rfl (x:=.ref TI) rfl (wpAny_bind (wpAny_seqItems qI rfl ?_)));show wpAny _ A (Builtin.SmallTypes.ownedTupleIsFree (.ref z) >>= _) _ _ _;refine wpAny_bind ?_; unfold Builtin.SmallTypes.ownedTupleIsFree;refine wpAny_bind (wpAny_field qz rfl (x:=.none) rfl (wpAny_pure ?_)); simp only[if_true];refine wpAny_bind (wpAny_rule (wpAny_bind (wpAny_field qz rfl (x:=.ref TO) rfl (wpAny_bind (wpAny_setField_rec qz (by simp) λg1 z1 s1=>?_)))));replace z1:IsZip g1 z TI TO .ellipsis:=z1;refine wpAny_bind ?_; simp only[List.zipIdx_cons,List.zipIdx_nil,List.forIn_cons,List.forIn_nil];refine wpAny_bind (wpAny_bind (wpAny_onRaise ?_)); show wpAny _ A (Builtin.SmallTypes.nextOf (.ref i1) >>= _) _ _ _;cases hx:xs[k1]? with
 | none =>
  refine wpAny_bind (Ob hh (q1.ext s1.extBut ap.i1z) (m1.ext s1.extBut ap.l1z) hx λg2 e s2 he=>?_);obtain⟨oe,w1,w2⟩:=he;have z2:IsZip g2 z TI TO .ellipsis:=s2 _ _ ap.i1z.symm z1;have ez:e≠z:=λx=>by subst x; rw[z2] at w1; cases w1; simp at w2
  exact wpAny_setField_rec z2 (by simp) λg3 _ s3=>hE g3 e (λc o c1 _ c3 _ x=>s3.extBut _ _ c1 (s2 _ _ c3 (s1.extBut _ _ c1 x))) ⟨oe,s3.extBut _ _ ez w1,w2⟩
 | some x =>
  have hy:ys[k2]?=none:=by rcases hend with h | h; rw[hx] at h; cases h; exact h
  refine wpAny_bind (LV (q1.ext s1.extBut ap.i1z) (m1.ext s1.extBut ap.l1z) hx λg2 n1 s2=>wpAny_pure ?_);have O2:IsPair g2 TO a b:=s2.extBut _ _ ap.TOi1 (s1.extBut _ _ ap.TOz qO);refine wpAny_bind (wpAny_seqItems O2 rfl (wpAny_bind (wpAny_updateSeq_pair O2 λg3 O3 s3=>?_)));refine wpAny_bind (wpAny_letGo (wpAny_pure (wpAny_bind (wpAny_bind (wpAny_onRaise ?_))))); show wpAny _ A (Builtin.SmallTypes.nextOf (.ref i2) >>= _) _ _ _;refine wpAny_bind (Ob hh (((q2.ext s1.extBut ap.i2z).ext s2.extBut ap.i12.symm).ext s3.extBut ap.TOi2.symm) (((m2.ext s1.extBut ap.l2z).ext s2.extBut ap.l2i1).ext s3.extBut ap.l2TO) hy λg4 e s4 he=>?_);obtain⟨oe,w1,w2⟩:=he;have z4:IsZip g4 z TI TO .ellipsis:=s4 _ _ ap.i2z.symm (s3.extBut _ _ ap.TOz.symm (s2.extBut _ _ ap.i1z.symm z1));have ez:e≠z:=λx=>by subst x; rw[z4] at w1; cases w1; simp at w2
  exact wpAny_setField_rec z4 (by simp) λg5 _ s5=>hE g5 e (λc o c1 c2 c3 c4 x=>s5.extBut _ _ c1 (s4 _ _ c4 (s3.extBut _ _ c2 (s2.extBut _ _ c3 (s1.extBut _ _ c1 x))))) ⟨oe,s5.extBut _ _ ez w1,w2⟩
theorem UA {t1 t2:Bool} {z TI TO i1 i2 l1 l2:Addr} {k1 k2:Nat} {xs ys:Array Value} {x y a b:Value} {Q:Option Value->Shared->Prop} (ap:ZipApart z TI TO i1 i2 l1 l2)
  (qz:IsZip s.heap z TI TO .none) (qI:IsPair s.heap TI (.ref i1) (.ref i2)) (qO:IsPair s.heap TO a b)
  (q1:BU t1 s.heap i1 l1 k1) (q2:BU t2 s.heap i2 l2 k2) (m1:CY t1 s.heap l1 xs) (m2:CY t2 s.heap l2 ys) (hx:xs[k1]?=some x) (hy:ys[k2]?=some y)
  (hQ:∀g,IsZip g z TI TO (rawInt s.heap.objs.size)->IsPair g TO x y->BU t1 g i1 l1 (k1+1)->BU t2 g i2 l2 (k2+1)->IsPair g s.heap.objs.size x y->g.objs.size=s.heap.objs.size+1 →
   (∀c o,c≠z->c≠TO->c≠i1->c≠i2->s.heap.get? c=some o->g.get? c=some o)->Q (some (.ref s.heap.objs.size)) { s with heap:=g }) :
  wpAny (model prog w) A (pyNext (.ref z)) Q E s:=by
 have ty:s.TypeIs (.ref z) "zip":=⟨_,qz,rfl⟩;unfold pyNext;exact wpAny_bind (wpAny_attempt (wpAny_callSpecial?_slot (name:=Str.ofString "__next__") ty PySem.F.slot_zip_next (wpAny_call_entry PySem.F.slot_zip_next ty PySem.F.entry_zip_next
   (Uz ap qz qI qO q1 q2 m1 m2 hx hy λg a1 a2 a3 a4 a5 a6 a7=>wpAny_pure (hQ g a1 a2 a3 a4 a5 a6 a7)) (PySem.F.args_zip_next_1 _))))
theorem UH {t1 t2:Bool} {z TI TO i1 i2 l1 l2:Addr} {k1 k2:Nat} {xs ys:Array Value} {a b:Value} {Q:Option Value->Shared->Prop} (hh:A.handled=none) (ap:ZipApart z TI TO i1 i2 l1 l2)
  (qz:IsZip s.heap z TI TO .none) (qI:IsPair s.heap TI (.ref i1) (.ref i2)) (qO:IsPair s.heap TO a b)
  (q1:BU t1 s.heap i1 l1 k1) (q2:BU t2 s.heap i2 l2 k2) (m1:CY t1 s.heap l1 xs) (m2:CY t2 s.heap l2 ys) (hend:xs[k1]?=none\/ys[k2]?=none)
  (hQ:∀g,(∀c o,c≠z->c≠TO->c≠i1->c≠i2->s.heap.get? c=some o->g.get? c=some o)->Q none { s with heap:=g }):wpAny (model prog w) A (pyNext (.ref z)) Q E s:=by
 have ty:s.TypeIs (.ref z) "zip":=⟨_,qz,rfl⟩;unfold pyNext;refine wpAny_bind (wpAny_attempt (wpAny_callSpecial?_slot (name:=Str.ofString "__next__") ty PySem.F.slot_zip_next (wpAny_call_entry PySem.F.slot_zip_next ty PySem.F.entry_zip_next (Wl hh ap qz qI qO q1 q2 m1 m2 hend λg e hk he=>?_) (PySem.F.args_zip_next_1 _))));obtain⟨o,w1,w2⟩:=he;exact wpAny_bind (wpAny_isInstance (T:="StopIteration") (b:=true) ⟨o,w1,w2⟩ isSubtype_stop (wpAny_pure (hQ _ hk)))
def Ee(t:Bool)(l:Addr):Obj:=if t then { cls:=.type "tuple_iterator",data:=.fields #[.ref l,.int 0 0] } else { cls:=.type "list_iterator",data:=.fields #[.ref l,.int 0 0] }
abbrev Hf(t1 t2:Bool)(h:Heap)(l1 l2:Addr):Heap:=(h.push (Ee t1 l1)).push (Ee t2 l2)
abbrev LG(t1 t2:Bool)(h:Heap)(l1 l2:Addr):Heap:=((Hf t1 t2 h l1 l2).push { cls:=.type "tuple",data:=.seq #[.ref h.objs.size,.ref (h.push (Ee t1 l1)).objs.size] }).push { cls:=.type "tuple",data:=.seq #[.none,.none] }
abbrev Hh(t1 t2:Bool)(h:Heap)(l1 l2:Addr):Heap:=(LG t1 t2 h l1 l2).push { cls:=.type "zip",data:=.fields #[.none,.bool false,.bool false,.ref (Hf t1 t2 h l1 l2).objs.size,.ref ((Hf t1 t2 h l1 l2).push { cls:=.type "tuple",data:=.seq #[.ref h.objs.size,.ref (h.push (Ee t1 l1)).objs.size] }).objs.size] }
set_option maxHeartbeats 4000000 in
theorem Uv(t1 t2:Bool)(l1 l2:Addr)(xs ys:Array Value):
  Meets (Builtin.«zip.__new__» ⟨[.type "zip",.ref l1,.ref l2],[]⟩) (λ_ R s=>CY t1 s.heap l1 xs/\CY t2 s.heap l2 ys/\R (.ok (.ret (.ref (LG t1 t2 s.heap l1 l2).objs.size))) { s with heap:=Hh t1 t2 s.heap l1 l2 }) :=
 .of_wp λprog w A R s h=>by
  obtain⟨hp,g,d,tk,os⟩:=s; obtain⟨m1,m2,h⟩:=h;have hsub:=sub_zip;cases t1 <;> cases t2
  ·have a1:Heap.IsList (Shared.heap ⟨hp,g,d,tk,os⟩) l1 xs:=m1;have a2:Heap.IsList (Shared.heap ⟨hp.push { cls:=.type "list_iterator",data:=.fields #[.ref l1,.int 0 0] },g,d,tk,os⟩) l2 ys:=Heap.IsList.push m2 _
   wp_walk using wpAny_pyIter_list a1,wpAny_pyIter_list a2
   exact⟨_,rfl,h⟩
  ·have a1:Heap.IsList (Shared.heap ⟨hp,g,d,tk,os⟩) l1 xs:=m1;have a2:Heap.IsTuple (Shared.heap ⟨hp.push { cls:=.type "list_iterator",data:=.fields #[.ref l1,.int 0 0] },g,d,tk,os⟩) l2 ys:=Heap.IsTuple.push m2 _
   wp_walk using wpAny_pyIter_list a1,wpAny_pyIter_tuple a2
   exact⟨_,rfl,h⟩
  ·have a1:Heap.IsTuple (Shared.heap ⟨hp,g,d,tk,os⟩) l1 xs:=m1;have a2:Heap.IsList (Shared.heap ⟨hp.push { cls:=.type "tuple_iterator",data:=.fields #[.ref l1,.int 0 0] },g,d,tk,os⟩) l2 ys:=Heap.IsList.push m2 _
   wp_walk using wpAny_pyIter_tuple a1,wpAny_pyIter_list a2
   exact⟨_,rfl,h⟩
  ·have a1:Heap.IsTuple (Shared.heap ⟨hp,g,d,tk,os⟩) l1 xs:=m1;have a2:Heap.IsTuple (Shared.heap ⟨hp.push { cls:=.type "tuple_iterator",data:=.fields #[.ref l1,.int 0 0] },g,d,tk,os⟩) l2 ys:=Heap.IsTuple.push m2 _
   wp_walk using wpAny_pyIter_tuple a1,wpAny_pyIter_tuple a2
   exact⟨_,rfl,h⟩
theorem Va {t1 t2:Bool} {l1 l2:Addr} {xs ys:Array Value} {Q:Value->Shared->Prop} (m1:CY t1 s.heap l1 xs) (m2:CY t2 s.heap l2 ys)
  (h:∀g,IsZip g (s.heap.objs.size+4) (s.heap.objs.size+2) (s.heap.objs.size+3) .none->IsPair g (s.heap.objs.size+2) (.ref s.heap.objs.size) (.ref (s.heap.objs.size+1)) →
   IsPair g (s.heap.objs.size+3) .none .none->BU t1 g s.heap.objs.size l1 0->BU t2 g (s.heap.objs.size+1) l2 0->g.objs.size=s.heap.objs.size+5 →
   (∀c o,s.heap.get? c=some o->g.get? c=some o)->Q (.ref (s.heap.objs.size+4)) { s with heap:=g }) :
  wpAny (model prog w) A (call (.type "zip") [.ref l1,.ref l2]) Q E s:=by
 refine callType_new PySem.F.called_zip (by decide) (PySem.F.typeCall_zip_2 _ _) (PySem.F.newCall_zip_2 _ _) (λobj=>PySem.F.args_object_init_3 obj _ _) PySem.F.entry_zip_new (Uv t1 t2 l1 l2 xs ys) ⟨m1,m2,?_⟩;have y1:(s.heap.push (Ee t1 l1)).objs.size=s.heap.objs.size+1:=eF ..;have y2:(Hf t1 t2 s.heap l1 l2).objs.size=s.heap.objs.size+2:=by rw[eF,y1]
 have y3:((Hf t1 t2 s.heap l1 l2).push { cls:=.type "tuple",data:=.seq #[.ref s.heap.objs.size,.ref (s.heap.push (Ee t1 l1)).objs.size] }).objs.size=s.heap.objs.size+3:=by rw[eF,y2]
 have y4:(LG t1 t2 s.heap l1 l2).objs.size=s.heap.objs.size+4:=by rw[eF,y3]
 have y5:(Hh t1 t2 s.heap l1 l2).objs.size=s.heap.objs.size+5:=by rw[eF,y4]
 have f1:∀(t:Bool) (l:Addr),(Ee t l).isFreed=false:=λt l=>by cases t <;> rfl
 have e5:(Hh t1 t2 s.heap l1 l2).get? (LG t1 t2 s.heap l1 l2).objs.size=some _:=cU _ rfl;have e4:(Hh t1 t2 s.heap l1 l2).get? ((Hf t1 t2 s.heap l1 l2).push { cls:=.type "tuple",data:=.seq #[.ref s.heap.objs.size,.ref (s.heap.push (Ee t1 l1)).objs.size] }).objs.size=some _:=cj _ (cU _ rfl);have e3:(Hh t1 t2 s.heap l1 l2).get? (Hf t1 t2 s.heap l1 l2).objs.size=some _:=cj _ (cj _ (cU _ rfl));have e2:(Hh t1 t2 s.heap l1 l2).get? (s.heap.push (Ee t1 l1)).objs.size=some (Ee t2 l2):=cj _ (cj _ (cj _ (cU _ (f1 _ _))));have e1:(Hh t1 t2 s.heap l1 l2).get? s.heap.objs.size=some (Ee t1 l1):=cj _ (cj _ (cj _ (cj _ (cU _ (f1 _ _)))));have iK:∀(t:Bool) (g:Heap) (c l:Addr),g.get? c=some (Ee t l)->BU t g c l 0:=λt g c l e=>by cases t <;> exact⟨_,e,rfl,rfl⟩
 show _/\_;rw[y2,y3,y4] at e5;rw[y1,y2] at e3;rw[y3] at e4;rw[y1] at e2;rw[y4];exact⟨⟨_,e5,rfl⟩,h _ e5 e3 e4 (iK _ _ _ _ e1) (iK _ _ _ _ e2) y5 λc o q=>cj _ (cj _ (cj _ (cj _ (cj _ q))))⟩
def CQ(t:Bool)(K:PySem.W.Frag)(H:Hp)(a:Addr)(xs:List V):Prop:=if t then AO K H a xs else AJ K H a xs
theorem CY.lt{t:Bool}{h:Heap}{a:Addr}{vs:Array Value}(x:CY t h a vs):a<h.objs.size:=by
 cases t
 ·obtain⟨o,e,_⟩:=x;exact cV e
 ·obtain⟨o,e,_⟩:=x;exact cV e
theorem AI.IZ{pins:List (Addr×Obj)}{σ:St}{H:Hp}{s:Shared}{t:Bool}{a:Addr}{xs:List V}(I:AI X pins σ H s)(h:CQ t X.K H a xs):∃its:List Value,AX xs its/\CY t s.heap a its.toArray/\xs.length<=sizeLine:=by
 cases t
 ·obtain⟨its,rv,p,z⟩:=I.list h;exact⟨its,rv,p.isList,z⟩
 ·obtain⟨its,rv,p,z⟩:=I.tuple h;exact⟨its,rv,p,z⟩
theorem AI.QI{pins:List (Addr×Obj)}{σ:St}{H:Hp}{s:Shared}{t:Bool}{a:Addr}{xs ys:List V}(I:AI X pins σ H s)(h:CQ t X.K H a xs)(g:CQ t X.K H a ys):xs=ys:=by
 cases t
 ·exact I.list_inj h g
 ·exact I.Ol h g
theorem CQ.l{K:PySem.W.Frag}{H:Hp}{a:Addr}{xs:List V}(h:H a=some (.AD xs)):CQ false K H a xs:=AJ.of h
theorem CQ.t{K:PySem.W.Frag}{H:Hp}{a:Addr}{xs:List V}(h:H a=some (.AF xs)):CQ true K H a xs:=AO.of h
def NT(K : PySem.W.Frag)(t1 t2 : Bool)(a b : Addr): It :=
  ⟨λi H => ∃xs ys x y, CQ t1 K H a xs /\ CQ t2 K H b ys /\ xs[i]? = some x /\ ys[i]? = some y,
   λi H v H' => ∃p x y, v = .ref p /\ H p = none /\ H' = AE H p (.AF [x, y]) /\ (∀xs, CQ t1 K H a xs → xs[i]? = some x) /\ ∀ys, CQ t2 K H b ys → ys[i]? = some y,
   λi H => ∃xs ys, CQ t1 K H a xs /\ CQ t2 K H b ys /\ (xs.length <= i \/ ys.length <= i)⟩
theorem Vt{t1 t2:Bool}{P:Program}{w:World}{K:PySem.W.Frag}{es:List PySem.Expr}{kk:Nat}{pos:Pos}{a b z TI TO i1 i2:Addr}(D:ZipApart z TI TO i1 i2 a b):
  HU P w K (.Tuple es kk pos) (NT K t1 t2 a b) [z,TI,TO,i1,i2] z (λi h=>IsZip h z TI TO .none/\IsPair h TI (.ref i1) (.ref i2)/\(∃u v,IsPair h TO u v)/\BU t1 h i1 a i/\BU t2 h i2 b i) where
 mem:=by simp
 obj:=λi h st c hc=>by
  obtain⟨h1,h2,⟨u,v,h3⟩,h4,h5⟩:=st;simp only[cP,de,or_false] at hc;rcases hc with rfl | rfl | rfl | rfl | rfl
  ·exact⟨_,h1,λv z=>by have z':Data.fields _=Data.cell v:=z; cases z'⟩
  ·exact⟨_,h2,λv z=>by have z':Data.seq _ _=Data.cell v:=z; cases z'⟩
  ·exact⟨_,h3,λv z=>by have z':Data.seq _ _=Data.cell v:=z; cases z'⟩
  ·exact h4.obj
  ·exact h5.obj
 keep:=λi h h' st k=>by
  obtain⟨h1,h2,⟨u,v,h3⟩,h4,h5⟩:=st;exact⟨k z (by simp) _ h1,k TI (by simp) _ h2,⟨u,v,k TO (by simp) _ h3⟩,h4.at λo e=>k i1 (by simp) o e,h5.at λo e=>k i2 (by simp) o e⟩
 item:=by
  intro X hP hw hK hc i pins s σ H E I hf st hg;subst hP hw hK;obtain⟨xs,ys,x,y,qa,qb,hx,hy⟩:=hg;obtain⟨its,rv,pa,_⟩:=I.IZ qa;obtain⟨jts,rw',pb,_⟩:=I.IZ qb;obtain⟨ux,hux,rx⟩:=rv.get hx;obtain⟨uy,huy,ry⟩:=rw'.get hy;obtain⟨h1,h2,⟨u,v,h3⟩,h4,h5⟩:=st;refine UA D h1 h2 h3 h4 h5 pa pb (x:=ux) (y:=uy) (by simpa using hux) (by simpa using huy) λh' a1 a2 a3 a4 a5 a6 k=>?_
  refine⟨_,rfl,wpAny_letOwnedTupleGo_zip a1 λh'' b1 sb=>?_⟩;have hsz:s.heap.objs.size≠z:=fj (cV h1);have nfp:∀c∈[z,TI,TO,i1,i2],s.heap.objs.size≠c:=λc hc=>by
   have:∃o,s.heap.get? c=some o:=by
    obtain⟨o4,g4,_⟩:=h4.obj;obtain⟨o5,g5,_⟩:=h5.obj;simp only[cP,de,or_false] at hc;rcases hc with rfl | rfl | rfl | rfl | rfl
    ·exact⟨_,h1⟩
    ·exact⟨_,h2⟩
    ·exact⟨_,h3⟩
    ·exact⟨_,g4⟩
    ·exact⟨_,g5⟩
   obtain⟨o,e⟩:=this;exact fj (cV e)
  have hn:H s.heap.objs.size=none:=I.hok.fresh (cR _);have kk':∀c o,c∉[z,TI,TO,i1,i2]->s.heap.get? c=some o->h''.get? c=some o:=λc o hc e =>
   (sb.2 c λq=>hc (by simp[q])).trans (k c o (λq=>hc (by simp[q])) (λq=>hc (by simp[q])) (λq=>hc (by simp[q])) (λq=>hc (by simp[q])) e)
  have tO:h''.get? s.heap.objs.size=some { cls:=.type "tuple",data:=.seq #[ux,uy] }:=(sb.2 _ hsz).trans a5;have nt:∀c u,H c=some u->c∉[z,TI,TO,i1,i2]:=λc u e hc=>by
   have:=(hf c hc).1
   rw[e] at this;cases this
  have tupOk:A9 X.prog X.w (AE H s.heap.objs.size (.AF [x,y])) h'' s.heap.objs.size (.AF [x,y]) :=
   ⟨by exact sz2,[ux,uy],.cons rx (.cons ry .nil),⟨_,tO,rfl,_,rfl⟩,_,tO,rfl⟩
  have I1:AI X pins σ (AE H s.heap.objs.size (.AF [x,y])) { s with heap:=h'' }:=by
   refine I.step (g':=s.gens) (d':=s.drawn) (t':=s.toks) (ch:=[z,TI,TO,i1,i2]) (λc hc=>⟨(hf c hc).2.2.2.1,(hf c hc).2.1,(hf c hc).2.2.2.2.1,(hf c hc).2.2.2.2.2⟩) (λc o _ _ hc e _=>kk' c o hc e) (λc o _ _ hc e _=>⟨o.slots,kk' c o hc e⟩)
    (λc o _ e n=>by rw[AW (c8 (cV e))]; exact n) (λc o hc e=>⟨o,kk' c o hc e⟩) (λc vs e=>by rw[AW (BB e hn)]; exact e) (λc o vs e=>by rw[AW (BB e hn)]; exact e)
    (λc ps e=>⟨#[],by rw[AW (BB e hn),e]; simp⟩) (λm hm=>?_) (λc o e=>?_) I.bare
   ·obtain⟨o,es',ep,ho,r⟩:=hm;exact⟨o,es',ep,kk' _ o (λq=>(hf _ q).2.1 rfl) ho,r⟩
   ·by_cases hcs:c=s.heap.objs.size
    ·subst hcs;rw[AM] at e;cases e;exact tupOk
    ·rw[AW hcs] at e;refine(I.hok c o e).FT (λd v hd q=>kk' d v ?_ q) (λd q=>by rw[AW (BB q hn)]; exact q) λd vs q=>by rw[AW (BB q hn)]; exact q
     rcases hd with hd | hd
     ·rw[hd]; exact nt c o e
     ·exact nt d _ hd
  have g4:BU t1 h'' i1 a (i+1):=a3.at λo e=>(sb.2 _ D.i1z).trans e
  have g5:BU t2 h'' i2 b (i+1):=a4.at λo e=>(sb.2 _ D.i2z).trans e
  have g2:IsPair h'' TI (.ref i1) (.ref i2):=(sb.2 _ D.TIz).trans (k _ _ D.TIz D.TITO D.TIi1 D.TIi2 h2);have g3:IsPair h'' TO ux uy:=(sb.2 _ D.TOz).trans a2;exact⟨.ref s.heap.objs.size,_,I1,rfl,⟨_,x,y,rfl,hn,rfl,λxs' q=>by rw[I.QI q qa]; exact hx,λys' q=>by rw[I.QI q qb]; exact hy⟩,⟨b1,g2,⟨_,_,g3⟩,g4,g5⟩,λc hc=>by rw[AW (eK (nfp c hc))]; exact(hf c hc).1⟩
 done:=by
  intro X hP hw hK hc i pins s σ H E I hf st hg;subst hP hw hK;obtain⟨xs,ys,qa,qb,hl⟩:=hg;obtain⟨its,rv,pa,_⟩:=I.IZ qa;obtain⟨jts,rw',pb,_⟩:=I.IZ qb;obtain⟨h1,h2,⟨u,v,h3⟩,h4,h5⟩:=st;have l1:=rv.length;have l2:=rw'.length;have hend:its.toArray[i]?=none\/jts.toArray[i]?=none:=by
   rcases hl with hl | hl
   ·exact .inl (by simp; omega)
   ·exact .inr (by simp; omega)
  refine UH (I.ok.hd hc) D h1 h2 h3 h4 h5 pa pb hend λh' k=>⟨rfl,?_⟩
  have kk':∀c o,c∉[z,TI,TO,i1,i2]->s.heap.get? c=some o->h'.get? c=some o:=λc o hc e =>
   k c o (λq=>hc (by simp[q])) (λq=>hc (by simp[q])) (λq=>hc (by simp[q])) (λq=>hc (by simp[q])) e
  have nt:∀c u,H c=some u->c∉[z,TI,TO,i1,i2]:=λc u e hc=>by
   have:=(hf c hc).1
   rw[e] at this;cases this
  refine I.step (g':=s.gens) (d':=s.drawn) (t':=s.toks) (ch:=[z,TI,TO,i1,i2]) (λc hc=>⟨(hf c hc).2.2.2.1,(hf c hc).2.1,(hf c hc).2.2.2.2.1,(hf c hc).2.2.2.2.2⟩) (λc o _ _ hc e _=>kk' c o hc e) (λc o _ _ hc e _=>⟨o.slots,kk' c o hc e⟩)
   (λ_ _ _ _ n=>n) (λc o hc e=>⟨o,kk' c o hc e⟩) (λ_ _ e=>e) (λ_ _ _ e=>e) (λc ps e=>⟨#[],by rw[e]; simp⟩) (λm hm=>?_) (λc o e=>?_) I.bare
  ·obtain⟨o,es',ep,ho,r⟩:=hm;exact⟨o,es',ep,kk' _ o (λq=>(hf _ q).2.1 rfl) ho,r⟩
  ·refine(I.hok c o e).FT (λd v hd q=>kk' d v ?_ q) (λ_ q=>q) λ_ _ q=>q
   rcases hd with hd | hd
   ·rw[hd]; exact nt c o e
   ·exact nt d _ hd
 self:=λ_ _ _ _ _ st h=>wpAny_pyIter_zip st.1 h
def ZR(K:PySem.W.Frag)(t1 t2:Bool)(ta:TA):TI:=λσ H R=>ta σ H λvs H1=>∃a b,vs=[.ref a,.ref b]/\(∃xs,CQ t1 K H1 a xs)/\(∃ys,CQ t2 K H1 b ys)/\R (NT K t1 t2 a b) H1
theorem W9{t1 t2:Bool}{es:List PySem.Expr}{kk:Nat}{tpos:Pos}{a b:PySem.Expr}{ta:TA}{p pos:Pos}(hg:Gl X "zip")(hm:X.mg "zip" = none)(ha:PA X [a,b] ta)(hs:starEach [a,b] X.env=(false,eval a X.env) :: starEach [b] X.env:=by rfl)(hs2:(backTo pos (starEach [b] X.env)).any (·.1)=false:=by rfl):
  PI X (.Tuple es kk tpos) (.Call (.Name "zip" p) [a,b] [] pos) (ZR X.K t1 t2 ta):=by
 intro pins s σ H R I h;refine Call_ (Dt I hg hm PyProof.Rows.boot_zip (eh (AZ (ha pos pins s σ H _ I h) λus s1 ⟨vs,H1,I1,r1,q1⟩=>?_) hs hs2));obtain⟨la,lb,e,⟨xs,qa⟩,⟨ys,qb⟩,q⟩:=q1;subst e;obtain⟨u1,u2,rfl,ra,rb⟩:=JI r1;cases ra;cases rb;obtain⟨its,rv,pa,_⟩:=I1.IZ qa;obtain⟨jts,rw',pb,_⟩:=I1.IZ qb;have lta:la<s1.heap.objs.size:=by
  exact pa.lt
 have ltb:lb<s1.heap.objs.size:=by
  exact pb.lt
 refine Va pa pb λh' z1 z2 z3 z4 z5 zs zk=>?_
 refine wpAny_pyIter_zip z1 ?_;have I2:AI X pins σ H1 { s1 with heap:=h' }:=I1.BJ (t':=s1.toks) zk;have D:ZipApart (s1.heap.objs.size+4) (s1.heap.objs.size+2) (s1.heap.objs.size+3) s1.heap.objs.size (s1.heap.objs.size+1) la lb:=by
  have la':@LT.lt Nat _ la s1.heap.objs.size:=lta;have lb':@LT.lt Nat _ lb s1.heap.objs.size:=ltb;constructor <;> (show @Ne Nat _ _; omega)
 refine⟨s1.heap.objs.size+4,_,_,_,H1,rfl,I2,Vt D,⟨z1,z2,⟨_,_,z3⟩,z4,z5⟩,λc hc=>?_,q⟩;have hge:s1.heap.objs.size<=c:=by
  simp only[cP,de,or_false] at hc;rcases hc with rfl | rfl | rfl | rfl | rfl <;> omega
 have f:=I1.HN (H':=H1) hge (I1.hok.fresh hge);exact f
end
end L2
namespace L2
open PySem PySem.Spec PyProof.Rows PySem.W
section
variable {prog:Program} {w:World} {A:Around} {E:Value->Shared->Prop} {K:Frag} {h:Heap} {g:Array GenState} {d:Drawn} {t:Nat} {os:OsState} {a C:Addr} {o:Obj}
end
section
variable {X:Cx}
end
end L2
namespace My
open PySem L2
def BF(H:Hp)(a:Addr):Hp:=λb=>if b=a then none else H b
theorem Hx(H:Hp)(a:Addr):BF H a a=none:=if_pos rfl
theorem HE{H:Hp}{a b:Addr}(h:b≠a):BF H a b=H b:=if_neg h
theorem EE(H:Hp)(a:Addr):AN (BF H a) H:=λb o e=>by
 by_cases h:b=a
 ·subst h; rw[Hx] at e; cases e
 ·rw[HE h] at e; exact e
theorem FD{H H':Hp}(a:Addr)(s:AN H H'):AN (BF H a) (BF H' a):=λb o e=>by
 by_cases h:b=a
 ·subst h; rw[Hx] at e; cases e
 ·rw[HE h] at e ⊢; exact s _ _ e
theorem RA(H:Hp)(a:Addr)(o:HO):AN (BF H a) (AE H a o):=λb u e=>by
 by_cases h:b=a
 ·subst h; rw[Hx] at e; cases e
 ·rw[HE h] at e; rw[AW h]; exact e
theorem KW(H:Hp)(a:Addr)(o:HO):BF (AE H a o) a=BF H a:=by
 funext b
 by_cases h:b=a
 ·subst h; rw[Hx,Hx]
 ·rw[HE h,HE h,AW h]
theorem P6{H:Hp}{a:Addr}(h:H a=none):BF H a=H:=by
 funext b
 by_cases z:b=a
 ·subst z; rw[Hx,h]
 ·exact HE z
theorem Fn{H:Hp}{a b:Addr}{o:HO}(e:H b=some o)(h:b≠a):BF H a b=some o:=by rw[HE h]; exact e
section
variable {α:Type} {R:Hp->Addr->α->Prop}
def At(R:Hp->Addr->α->Prop)(H:Hp)(bs:List Addr)(xs:List α):Prop:=bs.length=xs.length/\∀(i:Nat) (b:Addr) (x:α),bs[i]?=some b->xs[i]?=some x->R H b x
def Mo(R:Hp->Addr->α->Prop):Prop:=∀{H H':Hp} {b:Addr} {x:α},AN H H'->R H b x->R H' b x
theorem At.nil{H:Hp}:At R H [] []:=⟨rfl,λi b x e=>by simp at e⟩
theorem At.keep{H H':Hp}{bs:List Addr}{xs:List α}(h:At R H bs xs)(m:Mo R)(s:AN H H'):At R H' bs xs:=⟨h.1,λi b x e1 e2=>m s (h.2 i b x e1 e2)⟩
theorem At.snoc{H:Hp}{bs:List Addr}{xs:List α}{b:Addr}{x:α}(h:At R H bs xs)(r:R H b x):At R H (bs++[b]) (xs++[x]):=by
 refine⟨by simp[h.1],λi c y e1 e2=>?_⟩;have hl:=h.1;rcases c5 i bs.length with z | z
 ·rw[d0 z] at e1;rw[d0 (by omega)] at e2;exact h.2 i c y e1 e2
 ·rw[ed z] at e1;rw[ed (by omega)] at e2;rw[hl] at e1;cases hi:i-xs.length with
  | zero=>rw[hi] at e1 e2; cases e1; cases e2; exact r
  | succ k=>rw[hi] at e1; simp at e1
theorem At.Nk{H:Hp}{bs cs:List Addr}{xs ys:List α}(h:At R H bs xs)(g:At R H cs ys):At R H (bs++cs) (xs++ys):=by
 refine⟨by simp[h.1,g.1],λi c y e1 e2=>?_⟩;have hl:=h.1;rcases c5 i bs.length with z | z
 ·rw[d0 z] at e1;rw[d0 (by omega)] at e2;exact h.2 i c y e1 e2
 ·rw[ed z] at e1;rw[ed (by omega)] at e2;rw[hl] at e1;exact g.2 _ c y e1 e2
theorem At.take{H:Hp}{bs:List Addr}{xs:List α}(h:At R H bs xs)(k:Nat):At R H (bs.take k) (xs.take k):=by
 refine⟨by simp[h.1],λi c y e1 e2=>?_⟩;rw[List.getElem?_take] at e1 e2;split at e1
 ·rename_i hk; rw[if_pos hk] at e2; exact h.2 i c y e1 e2
 ·cases e1
theorem At.drop{H:Hp}{bs:List Addr}{xs:List α}(h:At R H bs xs)(k:Nat):At R H (bs.drop k) (xs.drop k):=by
 refine⟨by simp[h.1],λi c y e1 e2=>?_⟩;rw[List.getElem?_drop] at e1 e2;exact h.2 _ c y e1 e2
theorem At.set{H:Hp}{bs:List Addr}{xs:List α}{b:Addr}{x:α}(h:At R H bs xs)(k:Nat)(r:R H b x):At R H (bs.set k b) (xs.set k x):=by
 refine⟨by simp[h.1],λi c y e1 e2=>?_⟩;rw[List.getElem?_set] at e1 e2;by_cases hk:k=i
 ·subst hk;have hl:=h.1;by_cases hb:k<bs.length
  ·rw[if_pos rfl,if_pos hb] at e1;rw[if_pos rfl,if_pos (by omega)] at e2;cases e1; cases e2; exact r
  ·rw[if_pos rfl,if_neg hb] at e1; cases e1
 ·rw[if_neg hk] at e1 e2;exact h.2 _ c y e1 e2
theorem At.get{H:Hp}{bs:List Addr}{xs:List α}{i:Nat}{x:α}(h:At R H bs xs)(e:xs[i]?=some x):∃b,bs[i]?=some b/\R H b x:=by
 have hi:i<bs.length:=by rw[h.1]; exact(cm.mp e).1
 exact⟨bs[i],cg hi,h.2 i _ x (cg hi) e⟩
theorem At.ref{H:Hp}{bs:List Addr}{xs:List α}{i:Nat}{v:V}(h:At R H bs xs)(e:(bs.map V.ref)[i]?=some v):∃b x,v=.ref b/\bs[i]?=some b/\xs[i]?=some x/\R H b x:=by
 rw[cu] at e;cases q:bs[i]? with
 | none=>rw[q] at e; cases e
 | some b =>
  rw[q] at e;have hi:i<xs.length:=by rw[<-h.1]; exact(cm.mp q).1
  exact⟨b,xs[i],(Option.some.inj e).symm,rfl,cg hi,h.2 i b _ q (cg hi)⟩
theorem Qv{bs:List Addr}{i:Nat}{b:Addr}(h:bs[i]?=some b):(bs.map V.ref)[i]?=some (.ref b):=by rw[cu,h]; rfl
def BA(R:Hp->Addr->α->Prop)(H:Hp)(b:Addr)(xs:List α):Prop:=∃bs:List Addr,H b=some (.AF (bs.map V.ref))/\At R H bs xs
def Ax(R:Hp->Addr->α->Prop)(H:Hp)(b:Addr)(xs:List α):Prop:=∃bs:List Addr,H b=some (.AD (bs.map V.ref))/\At R H bs xs
theorem EL(m:Mo R):Mo (BA R):=λs ⟨bs,e,h⟩=>⟨bs,s _ _ e,h.keep m s⟩
theorem HD(m:Mo R):Mo (Ax R):=λs ⟨bs,e,h⟩=>⟨bs,s _ _ e,h.keep m s⟩
end
def Ag(H:Hp)(b:Addr)(q:Rat):Prop:=H b=some (.AF [.int q.num,.int q.den])
def Cj(H:Hp)(b:Addr)(ns:List Int):Prop:=H b=some (.AD (ns.map V.int))
theorem EO:Mo Ag:=λs h=>s _ _ h
theorem GJ:Mo Cj:=λs h=>s _ _ h
theorem Ag.BF{H:Hp}{a b:Addr}{q:Rat}{ys:List V}(h:Ag H b q)(e:H a=some (.AD ys)):Ag (BF H a) b q:=Fn h λz=>by rw[z] at h; unfold Ag at h; rw[e] at h; cases h
theorem RO{H:Hp}{a:Addr}{ys:List V}(e:H a=some (.AD ys)){bs:List Addr}{qs:List Rat}(h:At Ag H bs qs):At Ag (BF H a) bs qs:=⟨h.1,λi b x e1 e2=>(h.2 i b x e1 e2).BF e⟩
structure HY(J:It)(H1:Hp)(n:Nat)(f:Nat->Hp->V->Hp->Prop):Prop where
 go:∀i H2,i<n->AN H1 H2->J.go i H2
 yl:∀i H2 x H3,i<n->AN H1 H2->J.EB i H2 x H3->f i H2 x H3
 st:∀H2,AN H1 H2->J.stop n H2
section
variable {K:PySem.W.Frag}
theorem G0{H:Hp}{a:Addr}{xs:List V}(h:H a=some (.AF xs)):HY (IY K a) H xs.length (λi H2 x H3=>H3=H2/\xs[i]?=some x) :=
 ⟨λi H2 hi s=>⟨xs,xs[i],AO.of (s _ _ h),cg hi⟩,λi H2 x H3 _ s y=>⟨y.1,y.2 _ (AO.of (s _ _ h))⟩,λH2 s=>⟨xs,AO.of (s _ _ h),cR _⟩⟩
theorem Fh{H:Hp}{a:Addr}{xs:List V}(h:H a=some (.AD xs)):HY (Ib K a) H xs.length (λi H2 x H3=>H3=H2/\xs[i]?=some x) :=
 ⟨λi H2 hi s=>⟨xs,xs[i],AJ.of (s _ _ h),cg hi⟩,λi H2 x H3 _ s y=>⟨y.1,y.2 _ (AJ.of (s _ _ h))⟩,λH2 s=>⟨xs,AJ.of (s _ _ h),cR _⟩⟩
theorem Jw{H:Hp}{lo:Int}{n:Nat}:HY (Dp lo n) H n (λi H2 x H3=>H3=H2/\x=.int (lo+i)):=⟨λ_ _ hi _=>hi,λ_ _ _ _ _ _ y=>y,λ_ _=>cR _⟩
theorem Xh{H:Hp}{a b:Addr}{t1 t2:Bool}{xs ys:List V}(h1:∀H2,AN H H2->CQ t1 K H2 a xs)(h2:∀H2,AN H H2->CQ t2 K H2 b ys)(hl:xs.length=ys.length):
  HY (NT K t1 t2 a b) H xs.length (λi H2 x H3=>∃p u v,x=.ref p/\H2 p=none/\H3=AE H2 p (.AF [u,v])/\xs[i]?=some u/\ys[i]?=some v) :=
 ⟨λi H2 hi s=>⟨xs,ys,xs[i],ys[i],h1 _ s,h2 _ s,cg hi,cg (by omega)⟩,λi H2 x H3 _ s y=>by
  obtain⟨p,u,v,e1,e2,e3,e4,e5⟩:=y;exact⟨p,u,v,e1,e2,e3,e4 _ (h1 _ s),e5 _ (h2 _ s)⟩,λH2 s=>⟨xs,ys,h1 _ s,h2 _ s,.inl (cR _)⟩⟩
theorem Cf {J:It} {n:Nat} {H1:Hp} {f:Nat->Hp->V->Hp->Prop} {acc:Addr} {σ0:St} {g:TG} {te:TE} {G:Hp->Prop} (r:HY J H1 n f) (hn:n<=1000) (hacc:H1 acc=none) (Iv:Nat->List V->St->Hp->Prop) (h0:Iv 0 [] σ0 H1)
  (hs:∀(i:Nat) (ys:List V) (σ:St) (H2:Hp) (x:V) (H3:Hp),i<n->AN H1 H2->H2 acc=some (.AD ys)->Iv i ys σ (BF H2 acc)->f i H2 x H3->∀C:St->VK,(∀(σ4:St) (v:V) (H5:Hp),AN H2 H5->Iv (i+1) (ys++[v]) σ4 (BF H5 acc)->C σ4 v H5) →
   g x σ H3 λσ4 H4=>te σ4 H4 (C σ4))
  (fin:∀(ys:List V) (σ:St) (H2:Hp),AN H1 H2->H2 acc=some (.AD ys)->ys.length=n->Iv n ys σ (BF H2 acc)->G H2) :
  ∃W:Nat->Nat->List V->St->Hp->Prop,(∃m,W 0 m [] σ0 (AE H1 acc (.AD [])))/\∀i m ys σc H2,W i m ys σc H2 →
   (J.stop i H2/\G H2)\/(J.go i H2/\∀x H3,J.EB i H2 x H3->g x σc H3 λσ4 H4=>te σ4 H4 λv H5=>H5 acc=some (.AD ys)/\ys.length<sizeLine/\∃m',m' < m/\W (i+1) m' (ys++[v]) σ4 (AE H5 acc (.AD (ys++[v])))):=by
 refine⟨λi m ys σ H2=>m=n-i/\i<=n/\AN H1 H2/\H2 acc=some (.AD ys)/\ys.length=i/\Iv i ys σ (BF H2 acc),⟨n,rfl,dk _,?_,AM,rfl,?_⟩,?_⟩
 ·intro b o e; rw[AW (BB e hacc)]; exact e
 ·rw[KW,P6 hacc]; exact h0
 ·rintro i m ys σc H2 ⟨rfl,hi,sm,ha,hl,iv⟩;rcases c5 i n with hlt | hge
  ·refine .inr ⟨r.go i H2 hlt sm,λx H3 yl=>?_⟩;refine hs i ys σc H2 x H3 hlt sm ha iv (r.yl i H2 x H3 hlt sm yl) (λσ4 v H5=>H5 acc=some (.AD ys)/\ys.length<sizeLine/\∃m',m' < n-i/\(m'=n-(i+1)/\i+1<=n/\AN H1 (AE H5 acc (.AD (ys++[v])))/\(AE H5 acc (.AD (ys++[v]))) acc=some (.AD (ys++[v]))/\(ys++[v]).length=i+1/\Iv (i+1) (ys++[v]) σ4 (BF (AE H5 acc (.AD (ys++[v]))) acc))) ?_;intro σ4 v H5 s5 iv5;refine⟨s5 _ _ ha,by rw[sizeLine_eq]; omega,n-(i+1),by omega,rfl,hlt,?_,AM,by simp[hl],?_⟩
   ·intro b o e; rw[AW (BB e hacc)]; exact s5 _ _ (sm _ _ e)
   ·rw[KW]; exact iv5
  ·obtain rfl:i=n:=by omega
   exact .inl ⟨r.st H2 sm,fin ys σc H2 sm ha hl iv⟩
end
end My
namespace My
open PySem L2 PySem.Spec PyProof.Rows
section
variable {X:Cx} {pins:List (Addr×Obj)} {σ:L2.St} {H:Hp} {s:Shared}
end
end My
namespace L2
open PySem PySem.Spec PyProof.Rows
section
variable {X:Cx}
def YZ:V->List V->Hp->VK->Prop:=λx vs H Q=>∃(l:Addr) (ns:List Int) (k:Int),x=.ref l/\vs=[.int k]/\H l=some (.AD (ns.map V.int))/\k∈ns/\ns.length<=1000000/\Q (.int ((ns.idxOf k:Nat):Int)) H
theorem Gz:Ic X "list.index" YZ:=by
 intro pins s σ H x vs v us Q I rx rv h;obtain⟨l,ns,k,rfl,rfl,hH,hk,hz,q⟩:=h;cases rx;obtain⟨u,rfl,ru⟩:=rv.one;obtain⟨t,rfl⟩:=ru;obtain⟨z,its,n,r,hl,e⟩:=I.DJ hH;have hi:=Jo r;have hlen:=hi.length;have hj:ns.idxOf k<ns.length:=eE.mpr hk;refine call_meets e8 ⟨_,e,rfl⟩ PySem.F.entry_list_index (PySem.F.args_list_index_2 _ _)
  (MeetsSeq.list_index l its.toArray n (.int k t) (isInt k) (λy hy=>eq_isInt k t hi y (by simpa using hy)) (ns.idxOf k) (by simpa [hlen] using hj) (by omega) ?_ ?_) ⟨e,⟨.int ((ns.idxOf k:Nat):Int),H,I.Cn _,⟨_,rfl⟩,q⟩⟩
 ·show isInt k its[ns.idxOf k]=true;rw[isInt_at k hi _ (by omega) hj];simpa using fV hj
 ·intro j hjs hlt;show isInt k its[j]=false;rw[isInt_at k hi j (by simpa using hjs) (by omega)];exact ne_of_lt_idxOf hlt _
variable {K:PySem.W.Frag}
theorem bp(h:X.K=K:=by rfl):Jg X (E2 K):=h ▸ Du
theorem cE(h:X.K=K:=by rfl):Jg X (Gf K):=h ▸ KC
theorem pT(K:PySem.W.Frag){X:Cx}{a b:PySem.Expr}{ta tb:TE}{pos:Pos}(ha:PE X a ta)(hb:PE X b tb)(hs:L6 b:=by exact λ_ _=>rfl)(h:X.K=K:=by rfl):PE X (.Subscript a b pos) (BM (E2 K) ta tb):=Ct (bp h) ha hb hs
theorem pL(K:PySem.W.Frag){X:Cx}{a b:PySem.Expr}{ta tb:TE}{pos:Pos}(ha:PE X a ta)(hb:PE X b tb)(hs:L6 b:=by exact λ_ _=>rfl)(h:X.K=K:=by rfl):PE X (.Subscript a b pos) (BM (Gf K) ta tb):=Ct (cE h) ha hb hs
theorem cF(h:X.K=K:=by rfl):HZ X (Sz K):=h ▸ MQ
theorem Ho(h:X.K=K:=by rfl):HZ X (K5 K):=h ▸ XF
theorem Bo(h:X.K=K:=by rfl):CT X (.builtin "len") (ND K):=h ▸ Nv
theorem Fi(h:X.K=K:=by rfl):CT X (.type "tuple") (λxs H Q=>∃p ys,xs=[.ref p]/\((AJ K H p ys/\∀l,H l=none->Q (.ref l) (AE H l (.AF ys)))\/(AO K H p ys/\Q (.ref p) H))):=h ▸ Nu
theorem Ca {es:List PySem.Expr} {k:Nat} {t:D9} {n:Nat} {pos:Pos} (hc:X.BS=true) (g:Hn X es t) (h:X.K=K:=by rfl)
  (hn:(assignEach es X.env).length=n:=by rfl) (hst:(assignEach es X.env).findIdx? (·.1)=none:=by rfl):PG X (.Tuple es k pos) (JT K n t):=h ▸ Y1 hc g hn hst
theorem IM{tg l:PySem.Expr}{tl:TE}(hl:PE X l tl)(h:X.K=K:=by rfl):PI X tg l (Sq K tl):=h ▸ Kk hl
theorem Cu{tg l:PySem.Expr}{tl:TE}(hl:PE X l tl)(h:X.K=K:=by rfl):PI X tg l (RU K tl):=h ▸ QT hl
end
section
variable {prog:Program} {w:World} {A:Around} {E:Value->Shared->Prop} {s:Shared}
end
section
variable {X:Cx}
theorem XJ{ns:List Int}:∀{us:List Value},IntsAre us ns->AX (ns.map V.int) us:=by
 induction ns with
 | nil=>intro us r; cases r; exact .nil
 | cons n ns ih =>
  intro us r;cases r with
  | cons=>exact .cons ⟨_,rfl⟩ (ih (by assumption))
end
end L2
namespace L2
open PySem PySem.Spec PyProof.Rows PySem.SeqAt
section
variable {prog:Program} {w:World} {A:Around} {E:Value->Shared->Prop}
abbrev TJ(items:Array Value)(x:Value):Nat->Option PySem.Fin×PUnit->Sem (ForInStep (Option PySem.Fin×PUnit)):=λi _=>match items[i]? with
 | some y=>do let b <-eqBool y x; if b=true then (do let r <-retInt (i:Int); pure (ForInStep.done (some r,()))) else pure (ForInStep.yield (none,()))
 | _=>pure (ForInStep.yield (none,()))
theorem V3(items:Array Value)(x:Value)(e:Value->Bool)(j:Nat)(hj:j<items.size)(hit:e items[j]=true)(hno:∀m (hm:m<items.size),m<j->e items[m]=false){Q:Option PySem.Fin×PUnit->Shared->Prop}:
  ∀(k i:Nat) (s:Shared),i+k=j->(∀y,y∈items->EqAt A s y x (e y))->Q (some (.done (.ret (.int j s.toks))),()) { s with toks:=s.toks+1 } →
   wpAny (model prog w) A (forIn (List.range' i (items.size-i) 1) ((none:Option PySem.Fin),()) (TJ items x)) Q E s:=by
 intro k
 induction k with
 | zero =>
  intro i s hi he q;have e1:i=j:=by omega
  subst e1;rw[show items.size-i=(items.size-i-1)+1 by omega,List.range'_succ,List.forIn_cons];refine wpAny_bind ?_;show wpAny _ _ (match items[i]? with | some y=>_ | _=>_) _ _ s;rw[show items[i]?=some items[i] by simp[hj]];refine wpAny_bind (he _ (Array.getElem_mem hj) prog w _ _ ?_);rw[hit]
  wp_walk
  exact q
 | succ k ih =>
  intro i s hi he q;have hl:i<items.size:=by omega
  rw[show items.size-i=(items.size-(i+1))+1 by omega,List.range'_succ,List.forIn_cons];refine wpAny_bind ?_;show wpAny _ _ (match items[i]? with | some y=>_ | _=>_) _ _ s;rw[show items[i]?=some items[i] by simp[hl]];refine wpAny_bind (he _ (Array.getElem_mem hl) prog w _ _ ?_);rw[hno i hl (by omega)];exact wpAny_pure (ih (i+1) s (by omega) he q)
set_option maxHeartbeats 1000000 in
theorem T5 (t:Addr) (items:Array Value) (n:Nat) (dd:Option Addr) (sl:Array (Option Value)) (x:Value) (e:Value->Bool) (j:Nat) (hj:j<items.size)
  (hit:e items[j]=true) (hno:∀m (hm:m<items.size),m<j->e items[m]=false) :
  Meets (Builtin.«tuple.index» ⟨[.ref t,x],[]⟩) (λA R s=>s.heap.get? t=some { cls:=.type "tuple",dict:=dd,data:=.seq items n,slots:=sl }/\(∀y,y∈items->EqAt A.in1 s y x (e y))/\R (.ok (.ret (.int j s.toks))) { s with toks:=s.toks+1 }):=by
 intro prog w A R s h;obtain⟨hp,g,d,tk,os⟩:=s; obtain⟨ht,he,h⟩:=h
 wp_walk using AutoSeq1.wpAny_loadPart' ht
 show wpAny (model prog w) A.in1 (forIn [:min items.size items.size] ((none:Option PySem.Fin),()) (TJ items x)) _ _ _;rw[Std.Legacy.Range.forIn_eq_forIn_range'];simp only[Std.Legacy.Range.size,Nat.min_self,Nat.sub_zero,Nat.add_sub_cancel,Nat.div_one];refine V3 (A:=A.in1) items x e j hj hit hno j 0 _ (by omega) he ?_
 wp_walk
 exact h
end
section
variable {X:Cx}
def X8:V->List V->Hp->VK->Prop:=λx vs H Q=>∃(l:Addr) (ns:List Int) (k:Int),x=.ref l/\vs=[.int k]/\H l=some (.AF (ns.map V.int))/\k∈ns/\Q (.int ((ns.idxOf k:Nat):Int)) H
theorem VZ:Ic X "tuple.index" X8:=by
 intro pins s σ H x vs v us Q I rx rv h;obtain⟨l,ns,k,rfl,rfl,hH,hk,q⟩:=h;cases rx;obtain⟨u,rfl,ru⟩:=rv.one;obtain⟨t,rfl⟩:=ru;obtain⟨its,r,⟨⟨c,dct,dt,sl⟩,e,hc,n,hd⟩,_⟩:=I.tuple (AO.of (K:=X.K) hH);obtain rfl:c=.type "tuple":=hc;obtain rfl:dt=.seq its.toArray n:=hd;have hi:=Jo r;have hlen:=hi.length;have hj:ns.idxOf k<ns.length:=eE.mpr hk;refine call_meets PySem.F.slot_tuple_index ⟨_,e,rfl⟩ PySem.F.entry_tuple_index (PySem.F.args_tuple_index_2 _ _)
  (T5 l its.toArray n dct sl (.int k t) (isInt k) (ns.idxOf k) (by simpa [hlen] using hj) ?_ ?_) ⟨e,λy hy=>(eq_isInt k t hi y (by simpa using hy)).at _ _,⟨.int ((ns.idxOf k:Nat):Int),H,I.Cn _,⟨_,rfl⟩,q⟩⟩
 ·show isInt k its[ns.idxOf k]=true;rw[isInt_at k hi _ (by omega) hj];simpa using fV hj
 ·intro j hjs hlt;show isInt k its[j]=false;rw[isInt_at k hi j (by simpa using hjs) (by omega)];exact ne_of_lt_idxOf hlt _
end
end L2
namespace HT
open PySem PySem.Spec PyProof.Rows L2
section
variable {prog:Program} {w:World} {A:Around} {E:Value->Shared->Prop} {s:Shared}
theorem Tu {t sl:Addr} {items:Array Value} {vl vu:Value} {lo hi:Option Int} {Q:Value->Shared->Prop} (ht:IsTup s.heap t items) (hs:s.heap.IsSliceOf sl vl vu .none) (pl:IsPart vl lo) (pu:IsPart vu hi)
  (hw:AY items.size 0 lo=0/\AY items.size items.size hi=items.size) (h:Q (.ref t) s):wpAny (model prog w) A (getItem (.ref t) (.ref sl)) Q E s:=by
 obtain⟨os,hos,hcs,hds⟩:=id hs;have hTs:s.TypeIs (.ref sl) "slice":=⟨os,hos,hcs⟩; unfold getItem; try with_reducible refine wpAny_holding ?_
 first | refine wpAny_bind (wpAny_pure ?_) | skip
 refine wpAny_bind (wpAny_sequenceKey ht.typeIs (by decide) (wpAny_bind (wpAny_callSpecial?_slot (name:=Str.ofString "__getitem__") ht.typeIs eZ (wpAny_call_entry eZ ht.typeIs entry_tuple_getitem ?_ (args_tuple_getitem _ _)))));show wpAny _ _ (Builtin.Tuple.tupleItemsOf (.ref t) >>= _) _ _ s; refine wpAny_bind (tupleItemsOf_ ht (wpAny_bind (wpAny_typeOf hTs ?_)));rw[if_pos (by decide)]; refine wpAny_bind (Nr hs pl pu ?_);have yes:((((AY items.size 0 lo:Nat):Int) == 0 && (1:Int) == 1 && (AY items.size items.size hi-AY items.size 0 lo) == items.size)=true):=by rw[hw.1,hw.2]; simp
 show wpAny _ _ (if (((AY items.size 0 lo:Nat):Int) == 0 && (1:Int) == 1 && (AY items.size items.size hi-AY items.size 0 lo) == items.size)=true then _ else _) _ _ s; rw[if_pos yes];unfold Builtin.Tuple.tupleIsExact; refine wpAny_bind ?_
 first | refine wpAny_bind (wpAny_typeOf ht.typeIs (wpAny_pure ?_)) | refine wpAny_typeOf ht.typeIs ?_
 first
  | (rw[if_pos (by decide)]; refine wpAny_bind (wpAny_rule (wpAny_pure ⟨_,rfl,wpAny_pure h⟩)))
  | (rw[if_pos (by rfl)]; exact wpAny_bind (wpAny_rule (wpAny_pure ⟨_,rfl,wpAny_pure h⟩)))
end
end HT
namespace L2
open PySem PySem.Spec PyProof.Rows
section
variable {X:Cx} {K:PySem.W.Frag}
def R7(K:PySem.W.Frag):V->Option Int->Option Int->Hp->VK->Prop:=λx lo hi H Q=>∃a xs,x=.ref a/\AO K H a xs /\
 ((HT.AY xs.length 0 lo=0/\HT.AY xs.length xs.length hi=xs.length)->Q (.ref a) H)/\(¬(HT.AY xs.length 0 lo=0/\HT.AY xs.length xs.length hi=xs.length)->∀p,H p=none->Q (.ref p) (AE H p (.AF (CU xs lo hi))))
theorem Xj:HZ X (R7 X.K):=by
 intro pins s σ H x v vl vu lo hi sl Q I rx hs pl pu h;obtain⟨a,xs,rfl,hx,q1,q2⟩:=h;by_cases hw:HT.AY xs.length 0 lo=0/\HT.AY xs.length xs.length hi=xs.length
 ·cases rx;obtain⟨its,r,ht,hz⟩:=I.tuple hx;have hlen:its.toArray.size=xs.length:=by rw[cx]; exact r.length.symm
  exact⟨"tuple",_,eZ.lookup,ht.typeIs,HT.Tu ht hs pl pu (by rw[hlen]; exact hw) ⟨.ref a,H,I,rfl,q1 hw⟩⟩
 ·exact MQ pins s σ H _ v vl vu lo hi sl Q I rx hs pl pu ⟨a,xs,rfl,hx,hw,q2 hw⟩
theorem S9(h:X.K=K:=by rfl):HZ X (R7 K):=h ▸ Xj
theorem Xx{pins:List (Addr×Obj)}{σ:St}{H:Hp}{s:Shared}{p:Addr}{xs:List V}(I:AI X pins σ H s)(ty:H p=some (.AF xs)):
  s.TypeIs (.ref p) "tuple"/\∀a,Value.ref p=.ref a->∃ob,s.heap.get? a=some ob/\ob.dict=none:=by
 obtain⟨_,its,r,⟨o,e,c⟩,o2,e2,c2⟩:=I.hok p _ ty;exact⟨⟨o,e,c.1⟩,λa ea=>by cases ea; exact⟨o2,e2,c2⟩⟩
def bf(r:V->List V->Hp->VK->Prop)(to:TE)(t:TA):TE:=λσ H Q=>to σ H λx H1=>(∃p xs,x=.ref p/\H1 p=some (.AF xs))/\t σ H1 λxs H2=>r x xs H2 Q
variable {o e:Expr} {es:List Expr} {to:TE} {t:TA} {name:Str} {apos cpos:Pos} {id:String} {r:V->List V->Hp->VK->Prop}
theorem YK (pa:PlainAttrs "tuple") (slot:Slot "tuple" name id) (hty:typeOf (.builtin id)=pure (.type "method_descriptor")) (hm:Ic X id r) (ho:PE X o to) (ha:PA X (e :: es) t)
  (hbase:attributeBase o name X.env (eval o X.env)=eval o X.env:=by rfl)
  (hfew:((backTo cpos (starEach (e :: es) X.env)).all (λx=>!x.1) && (backToKw cpos (keywordEach [] X.env)).all (λx=>x.1.isSome)
   && decide ((e :: es).length+([]:List Keyword).length+(if ([]:List Keyword).isEmpty then 0 else 1)<30))=true:=by rfl)
  (hline:(apos.endLine == cpos.line)=true:=by rfl) (hs:starEach (e :: es) X.env=(false,eval e X.env) :: starEach es X.env:=by rfl) (hplain:(backTo cpos (starEach es X.env)).any (·.1)=false:=by rfl) :
  PE X (.Call (.Attribute o name apos) (e :: es) [] cpos) (bf r to t):=by
 intro pins s σ H Q I h;refine wpAny_Call_method_late hbase hfew hline rfl (AZ (ho pins s σ H _ I h) λv s1 ⟨x,H1,I1,r1,⟨p,xs,ex,hp⟩,q1⟩=>?_);subst ex;cases r1;obtain⟨h1,h2⟩:=Xx I1 hp;refine⟨"tuple",id,pa,slot,hty,h1,h2,?_⟩;have hA:=ha cpos pins s1 σ H1 _ I1 q1;rw[hs] at hA ⊢;refine Calls.callWith_builtin (by show(false || (backTo cpos (starEach es X.env)).any (·.1))=false; rw[hplain] <;> rfl) (Calls.evalArgs_plain ?_);exact AZ hA λus s2 ⟨vs,H2,I2,r2,q2⟩=>hm pins s2 σ H2 (.ref p) vs (.ref p) us Q I2 rfl r2 q2
inductive Bz(H:Hp):V->PyData->Prop
 | int (i:Int):Bz H (.int i) (.int i)
 | bl (b:Bool):Bz H (.bl b) (.bool b)
 | str (z:Str):Bz H (.str z) (.str z)
 | AF {p:Addr} {xs:List V} {ds:List PyData} (h:H p=some (.AF xs)) (hl:xs.length=ds.length) (hd:∀(i:Nat) (x:V) (d:PyData),xs[i]?=some x->ds[i]?=some d->Bz H x d):Bz H (.ref p) (.tuple ds)
theorem Bz.keep{H H':Hp}(s:AN H H'){v:V}{d:PyData}(h:Bz H v d):Bz H' v d:=by
 induction h with
 | int i=>exact .int i
 | bl b=>exact .bl b
 | str z=>exact .str z
 | AF h hl hd ih=>exact .AF (s _ _ h) hl ih
variable {pins:List (Addr×Obj)} {σ:L2.St} {H:Hp} {s:Shared}
theorem OQ(h:Heap):∀{xs:List V} {its:List Value} {ds:List PyData},AX xs its->xs.length=ds.length->(∀(i:Nat) (x:V) (d:PyData),xs[i]?=some x->ds[i]?=some d->∀u,Ae x u->Reads h u d [])->ReadsAll h its ds []
 | [],_,ds,.nil,hl,_=>by
  have:ds=[]:=List.length_eq_zero_iff.mp hl.symm
  subst this;exact .nil
 | x :: xs,_,[],_,hl,_=>by simp at hl
 | x :: xs,_,d :: ds,.cons r rs,hl,hd =>
  .cons (as:=[]) (bs:=[]) (hd 0 x d rfl rfl _ r) (OQ h rs (by simpa using hl) λi x' d' e1 e2=>hd (i+1) x' d' (by simpa using e1) (by simpa using e2))
theorem Qw(I:AI X pins σ H s){v:V}{d:PyData}(h:Bz H v d):∀u,Ae v u->Reads s.heap u d []:=by
 induction h with
 | int i =>
  intro u r;obtain⟨t,rfl⟩:=r;exact .int _ _
 | bl b =>
  intro u r;cases r;exact .bool _
 | str z =>
  intro u r;obtain⟨t,rfl⟩:=r;exact .str _ _
 | AF h hl hd ih =>
  intro u r;cases r;obtain⟨its,rv,tp,_⟩:=I.tuple (AO.of (K:=X.K) h);obtain⟨o,ho,hc,n,hd'⟩:=tp;exact .tuple ho hc hd' (by simpa using OQ s.heap rv hl ih)
inductive Gq:Nat->PyData->Prop
 | int {n:Nat} (i:Int):Gq n (.int i)
 | bl {n:Nat} (b:Bool):Gq n (.bool b)
 | AF {n:Nat} {ds:List PyData} (h:∀d∈ds,Gq n d):Gq (n+1) (.tuple ds)
theorem FE:∀{ds:List PyData},(∀d∈ds,d.canLay0=true)->PyData.canLayAll0 ds=true
 | [],_=>rfl
 | d :: ds,h=>by
  simp only[PyData.canLayAll0,dO];exact⟨h d (by simp),FE λx hx=>h x (by simp[hx])⟩
theorem Ff{n:Nat}:∀{ds:List PyData},(∀d∈ds,d.depth<=n)->PyData.depthAll ds<=n
 | [],_=>dk _
 | d :: ds,h=>by
  have:=Ff (ds:=ds) λx hx=>h x (by simp[hx])
  have:=h d (by simp)
  simp only[PyData.depthAll];omega
theorem Gq.ok{n:Nat}{d:PyData}(h:Gq n d):d.canLay0=true/\d.depth<=n+1:=by
 induction h with
 | int i=>exact⟨rfl,by simp[PyData.depth]⟩
 | bl b=>exact⟨rfl,by simp[PyData.depth]⟩
 | @AF n ds h ih =>
  refine⟨by simp only[PyData.canLay0]; exact FE λd hd=>(ih d hd).1,?_⟩
  have:=Ff λd hd=>(ih d hd).2
  simp only[PyData.depth];omega
theorem Gq.shaped{n:Nat}{d:PyData}(h:Gq n d)(hn:n<=60):SeqAt.shaped d=true:=by
 unfold SeqAt.shaped;rw[dO];exact⟨h.ok.1,decide_eq_true (by have:=h.ok.2; omega)⟩
def ar:R2:=λx y H Q=>∃(d e:PyData),Bz H x d/\Bz H y e/\(d.canLay0=true/\d.depth<=64)/\(e.canLay0=true/\e.depth<=64)/\Q (.bl (!PyData.eqv d e)) H
theorem TZ{d:PyData}(h:d.canLay0=true/\d.depth<=64):SeqAt.shaped d=true:=by
 unfold SeqAt.shaped;rw[dO];exact⟨h.1,decide_eq_true h.2⟩
theorem Ql(hu:X.A.units+64<cLine):By X (compareOp .NotEq) ar:=by
 intro pins s σ H x y v u Q I rx ry h;obtain⟨d,e,hx,hy,sd,se,k⟩:=h;exact ne_dataH (Qw I hx v rx) (Qw I hy u ry) (TZ sd) (TZ se) hu ⟨.bl _,H,I,rfl,k⟩
end
section
variable {X:Cx}
theorem Oh(hc:X.BS=true):CT X (.builtin "min") (λxs H Q=>∃(p:Addr) (ns:List Int),xs=[.ref p]/\H p=some (.AD (ns.map V.int))/\0<ns.length/\∀m,m∈ns->(∀a∈ns,m<=a)->Q (.int m) H):=by
 intro pins s σ H xs us Q I r h;obtain⟨p,ns,rfl,hp,hne,q⟩:=h;obtain⟨u,rfl,r1⟩:=Ey r;cases r1;obtain⟨_,its,n,rv,_,e⟩:=I.DJ hp;have pa:s.heap.IsList p its.toArray:=⟨_,e,rfl,n,rfl⟩;have hlen:its.length=ns.length:=by rw[<-rv.length,cf]
 have hlt:p<s.heap.objs.size:=cV e;have num:∀i v,its.toArray[i]?=some v->∃t,v=.int (ns.getD i 0) t/\i<ns.length:=λi v hv=>by
  rw[fT] at hv;have hi:i<its.length:=(cm.mp hv).1;have hi2:i<ns.length:=by omega
  have hx:(ns.map V.int)[i]?=some (.int ns[i]):=by rw[cu,cg hi2]; rfl
  obtain⟨u,hu,ru⟩:=rv.get hx;rw[hu] at hv;obtain rfl:u=v:=Option.some.inj hv;obtain⟨t,rfl⟩:=ru;exact⟨t,by rw[cw,cg hi2]; rfl,hi2⟩
 refine call_min_walk (wpAny_pyIter_list pa ?_);refine⟨s.heap.objs.size,_,_,_,_,_,λi j=>decide (ns.getD i 0<ns.getD j 0),rfl,Walks.list (show X.A.in1.handled=none from I.ok.hd hc) _ p (c8 hlt) its.toArray,⟨⟨_,cU _ rfl,rfl,rfl⟩,pa.push _⟩,λb hb=>?_,by rw[cx]; omega,λi j vi vj s' Q' E' hi hj hQ'=>?_,λv h' tk hv k=>?_⟩
 ·simp only[cP,de,or_false] at hb;rw[eF];rcases hb with rfl | rfl
  ·exact Nat.lt_succ_self _
  ·exact eY hlt
 ·obtain⟨t1,rfl,_⟩:=num i vi hi;obtain⟨t2,rfl,_⟩:=num j vj hj;exact lt_int hQ'
 ·obtain⟨t,rfl,hb⟩:=num _ v hv;obtain⟨h1,h2⟩:=argBest_lt (λi=>ns.getD i 0) (its.toArray.size-1);refine⟨.int _,H,I.BJ λb o eb=>?_,⟨t,rfl⟩,q _ (getD_mem hb) λa ha=>?_⟩
  ·exact k b o (λz=>by
    have:b=s.heap.objs.size:=by simpa using z
    exact absurd (cV eb) (by rw[this]; exact fB _)) (cj _ eb)
  ·obtain⟨j,hj,rfl⟩:=mem_getD ha;exact h2 j (by rw[cx]; omega)
end
section
variable {prog:Program} {w:World} {A:Around} {E:Value->Shared->Prop} {s:Shared}
end
section
variable {X:Cx}
end
def bN(ta:TE):TE:=λσ H Q=>ta σ H λv H1=>∃n:Nat,v=.int (n:Int)/\n<=1000/\∀l,H1 l=none->Q (.ref l) (AE H1 l (.AD ((List.range n).map λi:Nat=>V.int (i:Int))))
theorem Ll:∀{xs:List V} {us:List Value},xs.length=us.length->(∀(i:Nat) (x:V) (u:Value),xs[i]?=some x->us[i]?=some u->Ae x u)->AX xs us
 | [],[],_,_=>.nil
 | [],_ :: _,h,_=>by simp at h
 | _ :: _,[],h,_=>by simp at h
 | x :: xs,u :: us,h,g=>.cons (g 0 x u rfl rfl) (Ll (by simpa using h) λi y v e1 e2=>g (i+1) y v (by simpa using e1) (by simpa using e2))
theorem Lz:bootBuiltins "list" = some (.type "list"):=by decide +kernel
section
variable {X:Cx}
theorem UB {a:PySem.Expr} {ta:TE} {p p' rpos pos:Pos} (hc:X.BS=true) (hg:Gl X "list") (hm:X.mg "list" = none) (hg2:Gl X "range") (hm2:X.mg "range" = none) (ha:PE X a ta)
  (hs:starEach [.Call (.Name "range" p') [a] [] rpos] X.env=[(false,eval (.Call (.Name "range" p') [a] [] rpos) X.env)]:=by rfl) (hs2:starEach [a] X.env=[(false,eval a X.env)]:=by rfl) :
  PE X (.Call (.Name "list" p) [.Call (.Name "range" p') [a] [] rpos] [] pos) (bN ta):=by
 intro pins s σ H Q I h;refine wpAny_Call_Name_kw (Dt I hg hm Lz ?_ (by decide) (by decide));refine eh ?_ (by rw[hs]; rfl) (by rfl);rw[hs];refine Calls.spliced_cons ?_;refine wpAny_Call_Name_kw (Dt I hg2 hm2 boot_range ?_ (by decide) (by decide));have PAl:PA X [a] (BQ ta B7):=AA ha AG (by rw[hs2]; rfl);have hq:BQ ta B7 σ H (λvs H1=>match vs with
   | [v]=>∃n:Nat,v=.int (n:Int)/\n<=1000/\∀l,H1 l=none->Q (.ref l) (AE H1 l (.AD ((List.range n).map λi:Nat=>V.int (i:Int))))
   | _=>False):=h
 refine eh (AZ (PAl rpos pins _ σ H _ I hq) λus s2 ⟨vs,H2,I2,r2,q2⟩=>?_) (by rw[hs2]; rfl) (by rfl);cases r2 with
 | nil=>exact False.elim q2
 | cons r rr =>
  cases rr with
  | cons _ _=>exact False.elim q2
  | nil =>
   obtain⟨n,rfl,hn,q⟩:=q2;obtain⟨t,rfl⟩:=r;refine call_range_1 (Calls.spliced_nil ?_);refine call_list_range (n:=n) (I2.ok.hd hc) (IsRange.new ..) (small_one (by omega) (by omega) (by omega) (by omega)) (by rw[rangeSize_one]; split <;> omega) (by omega) λh' tk acc c hk hS hI=>?_
   obtain⟨hl,hI⟩:=hI;have hz:((List.range n).map λi:Nat=>V.int (i:Int)).length<=sizeLine:=by rw[cf,c7,sizeLine_eq]; omega
   have rv:AX ((List.range n).map λi:Nat=>V.int (i:Int)) acc.toList:=by
    refine Ll (by rw[cf,c7,dw,hl]) λi x u e1 e2=>?_
    have hi:i<n:=by
     have:=(cm.mp e2).1
     rw[dw,hl] at this;exact this
    rw[cu,eO hi] at e1;obtain⟨t',ht⟩:=hI i u (by rw[<-Array.getElem?_toList]; exact e2);cases e1;exact⟨t',by rw[ht]; congr 1; omega⟩
   have fin:∀h1:Heap,(∀b o,s2.heap.get? b=some o->h1.get? b=some o)->(∀b o,h1.get? b=some o->h'.get? b=some o)->h'.get? h1.objs.size=some { cls:=.type "list",dict:=none,data:=.seq acc c,slots:=#[] }->EP X pins σ Q (.ref h1.objs.size) { s2 with heap:=h',toks:=tk }:=λh1 k1 k2 hS=>by
    have I3:=I2.BJ (h':=h1) (t':=tk) k1;exact⟨.ref _,_,I3.laid (t':=tk) k2 (cR _) (show A9 X.prog X.w _ h' _ (.AD _) from ⟨hz,acc.toList,c,rv,hS⟩),rfl,q _ (I3.hok.fresh (cR _))⟩
   exact fin _ (λb o e=>cj _ e) hk hS
end
section
variable {prog:Program} {w:World} {A:Around} {E:Value->Shared->Prop} {s:Shared}
end
section
variable {X:Cx}
end
section
variable {X:Cx}
theorem WO{xs:Array Nat}{j:Nat}(hs:xs.toList.Pairwise (· < ·)):∀(fuel lo hi:Nat),lo<=hi->hi<=xs.size->hi-lo<=fuel->(∀(i x:Nat),i<lo->xs[i]?=some x->x<j)->(∀(i x:Nat),hi<=i->xs[i]?=some x->j<=x) →
  SetTable.below.go xs j fuel lo hi<=xs.size/\(∀(i x:Nat),i<SetTable.below.go xs j fuel lo hi->xs[i]?=some x->x<j)/\(∀(i x:Nat),SetTable.below.go xs j fuel lo hi<=i->xs[i]?=some x->j<=x):=by
 have mono:∀(a b x y:Nat),a<b->xs[a]?=some x->xs[b]?=some y->x<y:=λa b x y hab ha hb=>by
  rw[<-Array.getElem?_toList] at ha hb;obtain⟨h1,rfl⟩:=cm.mp ha;obtain⟨h2,rfl⟩:=cm.mp hb;exact cY.mp hs a b h1 h2 hab
 intro fuel
 induction fuel with
 | zero =>
  intro lo hi h1 h2 h3 h4 h5;obtain rfl:lo=hi:=by omega
  exact⟨h2,h4,h5⟩
 | succ f ih =>
  intro lo hi h1 h2 h3 h4 h5;unfold SetTable.below.go;by_cases c:lo<hi
  ·rw[if_pos c];have hm:(lo+hi) / 2<xs.size:=by omega
   have em:xs[(lo+hi) / 2]?=some xs[(lo+hi) / 2]:=dz hm;have eg:xs.getD ((lo+hi) / 2) j=xs[(lo+hi) / 2]:=by rw[dD,em]; rfl
   dsimp only;rw[eg];by_cases d:xs[(lo+hi) / 2]<j
   ·rw[if_pos d];refine ih _ _ (by omega) h2 (by omega) (λi x hi' e=>?_) h5;rcases c5 i ((lo+hi) / 2) with z | z
    ·exact Nat.lt_trans (mono i _ x _ z e em) d
    ·obtain rfl:i=(lo+hi) / 2:=by omega
     rw[em] at e; cases e; exact d
   ·rw[if_neg d];refine ih _ _ (by omega) (by omega) (by omega) h4 (λi x hi' e=>?_);rcases c5 ((lo+hi) / 2) i with z | z
    ·have:=mono _ i _ x z em e; omega
    ·obtain rfl:i=(lo+hi) / 2:=by omega
     rw[em] at e; cases e; omega
  ·rw[if_neg c];obtain rfl:lo=hi:=by omega
   exact⟨h2,h4,h5⟩
theorem Ox{xs:Array Nat}(hs:xs.toList.Pairwise (· < ·))(j:Nat):SetTable.below xs j<=xs.size/\(∀(i x:Nat),i<SetTable.below xs j->xs[i]?=some x->x<j)/\(∀(i x:Nat),SetTable.below xs j<=i->xs[i]?=some x->j<=x):=by
 unfold SetTable.below;exact WO hs _ 0 xs.size (dk _) (cR _) (by omega) (λi _ h=>by omega) λi x h e=>by
  rw[Array.getElem?_eq_none h] at e; cases e
theorem Ua{xs:Array Nat}(hs:xs.toList.Pairwise (· < ·)){j:Nat}(hn:xs[SetTable.below xs j]?≠some j):(SetTable.insertAt xs (SetTable.below xs j) j).toList.Pairwise (· < ·):=by
 obtain⟨b1,b2,b3⟩:=Ox hs j;rw[SetTable.toList_insertAt,fO];have hd:∀y∈xs.toList.drop (SetTable.below xs j),j<y:=λy hy=>by
  obtain⟨k,hk,rfl⟩:=dS hy;rw[List.getElem_drop];have hl:SetTable.below xs j+k<xs.toList.length:=by rw[dN] at hk; omega
  have e:xs[SetTable.below xs j+k]?=some xs.toList[SetTable.below xs j+k]:=by rw[<-Array.getElem?_toList]; exact cg hl
  have:=b3 _ _ (Nat.le_add_right _ _) e
  rcases c5 j xs.toList[SetTable.below xs j+k] with z | z
  ·exact z
  ·have ej:xs.toList[SetTable.below xs j+k]=j:=by omega
   cases k with
   | zero=>rw[ej] at e; exact absurd e hn
   | succ k =>
    have hl0:SetTable.below xs j<xs.toList.length:=by omega
    have e0:xs[SetTable.below xs j]?=some xs.toList[SetTable.below xs j]:=by rw[<-Array.getElem?_toList]; exact cg hl0
    have g0:=b3 _ _ (cR _) e0
    have:=cY.mp hs (SetTable.below xs j) (SetTable.below xs j+(k+1)) hl0 hl (by omega)
    omega
 refine⟨hs.sublist (List.take_sublist _ _),fe.mpr ⟨hd,hs.sublist (List.drop_sublist _ _)⟩,λa ha b hb=>?_⟩;have haj:a<j:=by
  obtain⟨k,hk,rfl⟩:=dS ha;rw[List.getElem_take];rw[dm] at hk;have hl:k<xs.toList.length:=by omega
  exact b2 k _ (by omega) (by rw[<-Array.getElem?_toList]; exact cg hl)
 rcases cP.mp hb with z | z
 ·rw[z]; exact haj
 ·exact Nat.lt_trans haj (hd b z)
structure DM(b:Bool)(t:SetTable):Prop where
 led:t.led=b
 NZ:t.dummies = #[]
 ord:t.plain=true->t.place.toList.Pairwise (· < ·)
theorem DM.Ko{b:Bool}{t:SetTable}(x:DM b t)(n:Nat):DM b (t.standIn n):=⟨x.led,rfl,λz=>by cases z⟩
theorem Ui{t:SetTable}(hd:t.dummies = #[]){h:Int}:∀(fuel:Nat) (p:SetTable.Probe) (j:Nat) (d:Option Nat),p.dummy=none->SetTable.probe.go t (λ_=>h+1) h fuel p=some (.empty j d)->d=none/\t.slot j=.empty:=by
 intro fuel
 induction fuel with
 | zero=>intro p j d _ e; cases e
 | succ f ih =>
  intro p j d hp e;have ad:∀q:SetTable.Probe,q.dummy=none->(t.advance q).dummy=none:=λq hq=>by
   unfold SetTable.advance;split
   ·exact hq
   ·exact hq
  unfold SetTable.probe.go at e;split at e
  ·rename_i hs
   simp only[Option.some.injEq,SetTable.Met.empty.injEq] at e;exact⟨by rw[<-e.2]; exact hp,by rw[<-e.1]; exact hs⟩
  ·rename_i hs
   unfold SetTable.slot at hs;dsimp only at hs;split at hs
   ·cases hs
   ·rw[hd] at hs
    have:SetTable.has #[] p.j=false:=by unfold SetTable.has; simp
    rw[this] at hs;cases hs
  ·rename_i i hs
   have ne:((h+1:Int) == h)=false:=by rw[beq_eq_false_iff_ne]; omega
   rw[ne] at e;exact ih _ j d (ad p hp) e
theorem DM.Na{b:Bool}{t:SetTable}(x:DM b t)(es:Array (Int×Value))(h:Int)(v:Value):DM b (layNew t es h v).2.1:=by
 unfold layNew;cases e:t.freeSlot h with
 | none=>exact x.Ko _
 | some q =>
  obtain⟨slot,wd⟩:=q;have hs:t.place[SetTable.below t.place slot]?≠some slot:=by
   unfold SetTable.freeSlot at e;split at e
   ·rename_i j d hp
    obtain⟨rfl,hsl⟩:=Ui x.NZ _ _ j d rfl hp;simp only[Option.getD_none,Option.some.injEq,Prod.mk.injEq] at e;rw[<-e.1];intro z;unfold SetTable.slot at hsl;dsimp only at hsl;rw[z] at hsl;simp at hsl
   ·cases e
  have put:DM b (t.put slot).1:=by
   refine⟨x.led,?_,λz=>Ua (x.ord z) hs⟩;show(if _ then _ else t.dummies) = #[];rw[x.NZ]
   have:SetTable.has #[] slot=false:=by unfold SetTable.has; simp
   rw[this]; rfl
  show DM b ((t.put slot).1.orStandIn _);unfold SetTable.orStandIn;split
  ·exact put
  ·exact put.Ko _
theorem UP(owner:Array (Option Nat))(n:Nat):(((List.range n).filterMap λj=>(owner.getD j none).map (j,·)).map (·.1)).Pairwise (· < ·):=by
 have e:∀l:List Nat,((l.filterMap λj=>(owner.getD j none).map (j,·)).map (·.1))=l.filter λj=>(owner.getD j none).isSome:=by
  intro l
  induction l with
  | nil=>rfl
  | cons j l ih =>
   rw[List.filterMap_cons,eT];cases h:owner.getD j none with
   | none=>simpa using ih
   | some q=>simpa using ih
 rw[e];exact List.pairwise_lt_range.sublist List.filter_sublist
theorem DM.aA{b:Bool}{t:SetTable}(x:DM b t)(es:Array (Int×Value))(n:Nat):DM b (relayAll t es n).2.1:=by
 unfold relayAll;cases e:t.relaid (es.map (·.1)) n with
 | none=>exact x.Ko _
 | some q =>
  obtain⟨t',order⟩:=q;dsimp only;split
  ·unfold SetTable.relaid SetTable.laid at e;cases o:SetTable.layClean (SetTable.sizeAbove n-1) (es.map (·.1)) with
   | none=>rw[o] at e; cases e
   | some owner =>
    rw[o] at e;simp only[Option.bind_eq_bind,Option.bind_some,Option.pure_def,Option.some.injEq,Prod.mk.injEq] at e;rw[<-e.1];exact⟨x.led,rfl,λ_=>by simpa using UP owner _⟩
  ·exact x.Ko _
def Gd(e:Int×Value):Int:=match e.2 with
 | .int k _=>k
 | _=>0
def EI(prog:Program)(w:World)(l:List (Int×Value)):Prop:=∀e∈l,∃k t,e=((intKind prog w).hash k,.int k t)
def B8(prog:Program)(w:World)(b:Bool)(h:Heap)(a:Addr)(ks:List Int):Prop :=
 ∃o es ep t,h.get? a=some o/\o.ExactSet/\o.data=.set es ep t/\EI prog w es.toList/\(es.toList.map Gd).Perm ks/\es.size<scanBound/\t.fits es.size=true/\DM b t
variable {prog:Program} {w:World}
theorem EI.el{l:List (Int×Value)}(h:EI prog w l):ElemsOf (intKind prog w) l:=λe he=>by
 obtain⟨k,t,rfl⟩:=h e he;exact⟨⟨k,intKind_is prog w k t,rfl⟩,rfl⟩
theorem EI.JX{l m:List (Int×Value)}(h:EI prog w l)(p:List.Perm m l):EI prog w m:=λe he=>h e (p.mem_iff.mp he)
theorem YH(k k':Int)(t:Tok):(intKind prog w).is k (.int k' t)=decide (k=k'):=KeyKind.is_eq_decide (intKind_is prog w k' t) k
theorem N0{h:Heap}{a:Addr}{o:Obj}{es:Array (Int×Value)}{ep:Nat}{t:SetTable}(ho:h.get? a=some o)(hd:o.data=.set es ep t)(es':Array (Int×Value))(t':SetTable):
  (h.update a (Obj.putSet es' t')).get? a=some { o with data:=.set es' (ep+1) t' }:=by
 have g:=fJ (Obj.putSet es' t') ho (by rw[putSet_of es' t' hd]; rfl)
 rwa [putSet_of es' t' hd] at g
variable {A:Around} {E:Value->Shared->Prop} {s:Shared}
theorem Pq{b:Bool}{s₁:Shared}{Q:Unit->Shared->Prop}(h:Q () s₁):wpAny (model prog w) A (match b with | true=>rule "set.scan.the-table-gave-way" | false=>pure ()) Q E s₁:=by
 cases b
 ·exact wpAny_pure h
 ·exact wpAny_rule h
theorem XO {b:Bool} {a:Addr} {ks:List Int} {k:Int} {tk:Tok} {Q:Bool->Shared->Prop} (hS:B8 prog w b s.heap a ks) (hr:ks.length+1<scanBound)
  (h:∀h',Heap.SameBut a s.heap h'->B8 prog w b h' a (if k∈ks then ks else ks++[k])->Q (!decide (k∈ks)) { s with heap:=h' }) :
  wpAny (model prog w) A (setAddHashed a (.int k tk) ((intKind prog w).hash k)) Q E s:=by
 obtain⟨o,es,ep,t,ho,hex,hd,hel,hp,hb,hf,ti⟩:=hS;have isk:=intKind_is prog w k tk; have scn:(Value.int k tk).scannable=true:=rfl;have sz:es.size=ks.length:=by rw[<-Array.length_toList,<-hp.length_eq,cf]
 have mem:k∈ks↔∃e∈es.toList,(intKind prog w).is k e.2=true:=by
  rw[<-hp.mem_iff,cT];constructor
  ·rintro⟨e,he,rfl⟩;obtain⟨k',t',rfl⟩:=hel e he;exact⟨_,he,intKind_is prog w k' t'⟩
  ·rintro⟨e,he,q⟩;obtain⟨k',t',rfl⟩:=hel e he;rw[YH,decide_eq_true_eq] at q;exact⟨_,he,q.symm⟩
 unfold setAddHashed setAddHashedIn; refine wpAny_holding ?_;refine wpAny_bind (wpAny_setState_of ho hd hf ?_); dsimp only; rw[byScan_of scn hb hel.el];simp only[↓reduceIte]; unfold setAddByScan;refine wpAny_bind (wpAny_bind (wpAny_rule (wpAny_bind (wpAny_setScan_of isk ho hd hf hel.el ?_))));cases fi:List.findIdx? (λe=>(intKind prog w).is k e.2) es.toList with
 | some j =>
  obtain⟨hj,hpj,_⟩:=List.findIdx?_eq_some_iff_getElem.mp fi;have hk:k∈ks:=mem.mpr ⟨_,eP hj,hpj⟩;have fin:=h s.heap (Heap.SameBut.refl a s.heap) (by rw[if_pos hk]; exact⟨o,es,ep,t,ho,hex,hd,hel,hp,hb,hf,ti⟩);rw[decide_eq_true hk] at fin;exact wpAny_pure (wpAny_pure fin)
 | none =>
  have hk:¬k∈ks:=λz=>by
   obtain⟨e,he,q⟩:=mem.mp z;rw[List.findIdx?_eq_none_iff.mp fi e he] at q; cases q
  rw[if_neg hk,decide_eq_false hk] at h;have lp:=layNew_perm t es ((intKind prog w).hash k) (.int k tk); have lf:=layNew_fits t es ((intKind prog w).hash k) (.int k tk); have lt:=ti.Na es ((intKind prog w).hash k) (.int k tk);generalize layNew t es ((intKind prog w).hash k) (.int k tk)=L at lp lf lt ⊢;obtain⟨e1,t1,wd,gv⟩:=L;dsimp only at lp lf lt ⊢;rw[Array.toList_push] at lp;have el1:EI prog w e1.toList:=EI.JX (λe he=>by
   rcases cS.mp he with z | z
   ·exact hel e z
   ·exact⟨k,tk,cW.mp z⟩) lp
  have pk1:(e1.toList.map Gd).Perm (ks++[k]):=by
   refine(lp.map Gd).trans ?_;rw[dh];exact hp.append_right _
  have sz1:e1.size=ks.length+1:=by rw[<-Array.length_toList,lp.length_eq,cX,dw,sz]; rfl
  have tail:∀t2:SetTable,t2.fits e1.size=true->DM b t2->wpAny (model prog w) A (do
    storeSet a e1 t2
    if (!wd && t2.tooFull)=true then do
      (match (relayAll t2 e1 (SetTable.grown e1.size)).2.2 with | true=>rule "set.scan.the-table-gave-way" | false=>pure ())
      storeSet a (relayAll t2 e1 (SetTable.grown e1.size)).1 (relayAll t2 e1 (SetTable.grown e1.size)).2.1
      pure (some true)
     else pure (some true)) (λr s'=>r=some true/\∃h',s'={ s with heap:=h' }/\Heap.SameBut a s.heap h'/\B8 prog w b h' a (ks++[k])) E s:=λt2 f2 i2=>by
   have b1:e1.size<scanBound:=by omega
   refine wpAny_bind (wpAny_storeSet_of ho hd ?_ (fits_of_scanBound b1));have g1:=N0 ho hd e1 t2; have sb:=eV s.heap a (Obj.putSet e1 t2);split
   ·have rp:=relayAll_perm t2 e1 (SetTable.grown e1.size); have rf:=relayAll_fits t2 e1 (SetTable.grown e1.size); have ri:=i2.aA e1 (SetTable.grown e1.size);generalize relayAll t2 e1 (SetTable.grown e1.size)=R at rp rf ri ⊢;obtain⟨e2,t3,gv2⟩:=R;dsimp only at rp rf ri ⊢;have sz2:e2.size=e1.size:=by rw[<-Array.length_toList,rp.length_eq,dw]
    refine wpAny_bind (Pq (wpAny_bind (wpAny_storeSet_of g1 rfl ?_ (fits_of_scanBound (by omega)))));have g2:=N0 g1 rfl e2 t3;exact wpAny_pure ⟨rfl,_,rfl,sb.trans (eV _ a _),_,e2,_,t3,g2,hex,rfl,el1.JX rp,(rp.map Gd).trans pk1,by omega,rf,ri⟩
   ·exact wpAny_pure ⟨rfl,_,rfl,sb,_,e1,_,t2,g1,hex,rfl,el1,pk1,b1,f2,i2⟩
  refine wpAny_bind (Pq ?_);split
  ·refine wpAny_bind ?_;rw[hashByValue_scannable 8 scn];refine wpAny_pure (wpAny_mono (tail _ lf lt) (λr s' x=>?_) λ_ _ z=>z);obtain⟨rfl,h',rfl,x1,x2⟩:=x;exact wpAny_pure (h h' x1 x2)
  ·refine wpAny_bind (wpAny_pure ?_);simp only[↓reduceIte];refine wpAny_mono (tail _ lf lt) (λr s' x=>?_) λ_ _ z=>z
   obtain⟨rfl,h',rfl,x1,x2⟩:=x;exact wpAny_pure (h h' x1 x2)
def GY(acc:List Int)(k:Int):List Int:=if k∈acc then acc else acc++[k]
def BY(ns:List Int):List Int:=ns.foldl GY []
theorem Uk(ns:List Int)(k:Int):BY (ns++[k])=GY (BY ns) k:=by unfold BY; rw[List.foldl_append]; rfl
theorem La(ns:List Int):(BY ns).length<=ns.length:=by
 have go:∀(l acc:List Int),(l.foldl GY acc).length<=acc.length+l.length:=by
  intro l
  induction l with
  | nil=>intro acc; exact cR _
  | cons k l ih =>
   intro acc;rw[List.foldl_cons];refine dg (ih _) ?_;unfold GY;split
   ·rw[dM]; omega
   ·rw[cX,dM,dM,List.length_nil]; omega
 have:=go ns []
 rw[List.length_nil] at this;unfold BY; omega
theorem Lf(ns:List Int)(k:Int):k∈BY ns↔k∈ns:=by
 have go:∀(l acc:List Int),k∈l.foldl GY acc↔k∈acc\/k∈l:=by
  intro l
  induction l with
  | nil=>intro acc; simp
  | cons x l ih =>
   intro acc;rw[List.foldl_cons,ih,cP];unfold GY;split
   ·rename_i h
    constructor
    ·rintro(z | z)
     ·exact .inl z
     ·exact .inr (.inr z)
    ·rintro(z | rfl | z)
     ·exact .inl z
     ·exact .inl h
     ·exact .inr z
   ·rw[cS,cW];constructor
    ·rintro((z | z) | z)
     ·exact .inl z
     ·exact .inr (.inl z)
     ·exact .inr (.inr z)
    ·rintro(z | z | z)
     ·exact .inl (.inl z)
     ·exact .inl (.inr z)
     ·exact .inr z
 have:=go ns []
 unfold BY;simpa using this
theorem LR(ns:List Int):(BY ns).Nodup:=by
 have go:∀(l acc:List Int),acc.Nodup->(l.foldl GY acc).Nodup:=by
  intro l
  induction l with
  | nil=>intro acc h; exact h
  | cons x l ih =>
   intro acc h;rw[List.foldl_cons];refine ih _ ?_;unfold GY;split
   ·exact h
   ·rename_i hx
    rw[List.nodup_append];exact⟨h,by simp,λa ha b hb=>by rw[cW.mp hb]; exact λz=>hx (z ▸ ha)⟩
 exact go ns [] List.nodup_nil
abbrev Dz(w:World):Bool:=!w.params.followText "set-order"
theorem WM{R:Result->Shared->Prop}{St:Nat->Heap->Prop}{I ax S:Addr}{items:Array Value}{ns:List Int}(W:Walks prog w A.in1 I [I,ax] [I] items.size (λi v=>items[i]?=some v) St)(hSI:S≠I)(hSa:S≠ax)(hv:IntsAre items.toList ns)(hb:items.size+1<scanBound){b:Bool}:
  ∀(k i:Nat) (s:Shared),items.size-i=k->i<=items.size->St i s.heap->B8 prog w b s.heap S (BY (ns.take i)) →
   (∀h' tk,(∀c o,c≠S->c≠I->s.heap.get? c=some o->h'.get? c=some o)->B8 prog w b h' S (BY ns)->R (.ok (.ret .none)) { s with heap:=h',toks:=tk }) →
   codeAny (model prog w) A (.builtin "set.update.loop" ⟨[.ref S,.ref I],[]⟩) R s:=by
 have ln:ns.length=items.size:=by rw[<-Array.length_toList]; exact hv.length.symm
 have keepX:∀{h h':Heap} {ks:List Int},B8 prog w b h S ks->(∀o,h.get? S=some o->h'.get? S=some o)->B8 prog w b h' S ks:=λx k=>by
  obtain⟨o,es,ep,t,ho,rest⟩:=x;exact⟨o,es,ep,t,k o ho,rest⟩
 intro k
 induction k with
 | zero =>
  intro i s hk hi hst hS hR; obtain rfl:i=items.size:=by omega
  refine codeAny_builtin F.entry_set_update_loop ?_; rw[Around.under_plainId F.plain_set_update_loop _]; show wpAny _ A.in1 (pyNext (.ref I) >>= _) _ _ s;refine wpAny_bind (W.done s _ _ hst λh' tk hk'=>wpAny_pure (hR h' tk (λc o _ c2 e=>hk' c o (by simpa using c2) e) ?_));rw[dC (by omega)] at hS;exact keepX hS λo e=>hk' S o (by simpa using hSI) e
 | succ k ih =>
  intro i s hk hi hst hS hR; have hlt:i<items.size:=by omega
  refine codeAny_builtin F.entry_set_update_loop ?_; rw[Around.under_plainId F.plain_set_update_loop _]; show wpAny _ A.in1 (pyNext (.ref I) >>= _) _ _ s;refine wpAny_bind (W.item i s _ _ hlt hst λv h' tk hP hst' hk'=>?_);obtain⟨t,rfl⟩:=IntsAre.int_at hv i v (by rw[Array.getElem?_toList]; exact hP);have hS':B8 prog w b h' S (BY (ns.take i)):=keepX hS λo e=>hk' S o (by simpa using hSI) e
  show wpAny _ A.in1 (holding [Value.int (ns.getD i 0) t] (setAdd S (.int (ns.getD i 0) t)) >>= _) _ _ _;refine wpAny_bind (wpAny_holding ?_); unfold setAdd; refine wpAny_holding (wpAny_bind ((intKind prog w).pyHash (intKind_is prog w (ns.getD i 0) t) ?_));have room:(BY (ns.take i)).length+1<scanBound:=by
   have:=La (ns.take i)
   rw[dm] at this; omega
  refine XO (s:={ s with heap:=h',toks:=tk+1 }) hS' room λh2 sb x2=>?_
  have eN:BY (ns.take (i+1))=if ns.getD i 0∈BY (ns.take i) then BY (ns.take i) else BY (ns.take i)++[ns.getD i 0]:=by
   have e:ns[i]?=some (ns.getD i 0):=by rw[cw,cg (by omega)]; rfl
   rw[List.take_add_one,e];exact Uk _ _
  rw[<-eN] at x2;have fr:∀c o,c≠S->h'.get? c=some o->h2.get? c=some o:=λc o hc e=>by rw[sb.2 c hc]; exact e
  refine wpAny_pure ⟨plainId_quiet F.plain_set_update_loop _,ih (i+1) _ (by omega) hlt (W.frame _ _ _ hst' λc hc o e=>fr c o (λz=>?_) e) x2 λh3 tk3 k3 x3=>?_⟩
  ·rcases cP.mp hc with y | y
   ·exact hSI (z.symm.trans y)
   ·exact hSa (z.symm.trans (cW.mp y))
  ·exact hR h3 tk3 (λc o c1 c2 e=>k3 c o c1 c2 (fr c o c1 (hk' c o (by simpa using c2) e))) x3
theorem WJ(a:Value){Q₁:Value->Shared->Prop}(h:Q₁ (.ref s.heap.objs.size) { s with heap:=s.heap.push { cls:=.type "set",dict:=none,data:=.set #[] 0 (.fresh 0 0 (Dz w)) } }):
  codeAny (model prog w) A (.call (.builtin "set.__new__") ⟨[.type "set",a],[]⟩) (wants Q₁ E) s:=by
 refine codeAny_of_tree ?_; show wpAny _ A.in1 (do checkBuiltinCall "set.__new__" ⟨[.type "set",a],[]⟩; again (.builtin "set.__new__" ⟨[.type "set",a],[]⟩)) _ _ s;refine wpAny_bind (wpAny_of_eq (PySem.F.newCall_set_1 a) (wpAny_pure ⟨plainId_quiet PySem.F.plain_set_new _,codeAny_builtin PySem.F.entry_set_new ?_⟩)); rw[Around.under_plainId PySem.F.plain_set_new _];unfold Builtin.«set.__new__» Builtin.Frozenset.newClass; have hsub:=sub_set_self; obtain⟨hp,g,d,tk,os⟩:=s; dsimp only
 wp_walk
 refine wpAny_askSetting (wpAny_pure ?_); dsimp only; simp only[newObj];refine wpAny_bind (wpAny_alloc (wpAny_pure ?_)); exact wpAny_pure h
abbrev FR(w:World):Obj:={ cls:=.type "set",dict:=none,data:=.set #[] 0 (.fresh 0 0 (Dz w)) }
theorem WT(h:Heap):B8 prog w (Dz w) (h.push (FR w)) h.objs.size [] :=
 ⟨FR w,#[],0,_,cU h rfl,⟨rfl,rfl,rfl⟩,rfl,λe he=>by simp at he,List.Perm.refl _,by decide,rfl,⟨rfl,rfl,λ_=>List.Pairwise.nil⟩⟩
set_option maxRecDepth 100000 in
set_option maxHeartbeats 3200000 in
theorem U5 {l:Addr} {items:Array Value} {ns:List Int} {Q:Value->Shared->Prop} (hh:A.handled=none) (hl:s.heap.IsList l items) (hv:IntsAre items.toList ns) (hb:items.size+1<scanBound)
  (h:∀(h':Heap) (tk:Nat),B8 prog w (Dz w) h' s.heap.objs.size (BY ns)->(∀b o,s.heap.get? b=some o->h'.get? b=some o)->Q (.ref s.heap.objs.size) { s with heap:=h',toks:=tk }) :
  wpAny (model prog w) A (call (.type "set") [.ref l]) Q E s:=by
 obtain⟨c,tl,hmro⟩:=fN.mro; have hmade:=fN.made; have hsub:=fN.sub;refine wpAny_call (codeAny_of_tree ?_); show wpAny _ _ (callAny (.type "set") _) _ _ _;refine wpAny_pure ⟨Code.quiet_builtin _ (by decide +kernel),codeAny_builtin PySem.F.entry_type_call ?_⟩; rw[Around.under_plain (weight_type_call_type "set" [.ref l] []) rfl];have h1:=fN.notType; have h2:=fN.canCreate; have hct:=PySem.F.typeCall_set_1 (.ref l)
 repeat (any_goals (first | assumption | wp_step))
 refine codeAny_mono (WJ (.ref l) (E:=E) (Q₁:=λob s₁=>ob=.ref s.heap.objs.size/\s₁={ s with heap:=s.heap.push (FR w) }) ⟨rfl,rfl⟩) λr s₁ hr=>?_
 cases r with
 | error e=>exact hr
 | ok fl =>
  cases fl with
  | ret ob =>
   obtain⟨rfl,rfl⟩:=hr;have oS:(s.heap.push (FR w)).get? s.heap.objs.size=some (FR w):=cU _ rfl;have hT:Shared.TypeIs { s with heap:=s.heap.push (FR w) } (.ref s.heap.objs.size) "set":=⟨_,oS,rfl⟩;have hli:=fN.init.lookup; have hbi:=fN.init.bind (.ref s.heap.objs.size)
   repeat (any_goals (first | assumption | wp_step))
   refine codeAny_mono (codeAny_call_builtin (R:=wants (λr s₂=>r=.none/\∃h' tk,s₂={ s with heap:=h',toks:=tk }/\B8 prog w (Dz w) h' s.heap.objs.size (BY ns)/\(∀b o,s.heap.get? b=some o->h'.get? b=some o)) E)
    fN.init.plain PySem.F.entry_set_init (check_set_init_1 hT ?_)) λr₂ s₂ hr₂=>?_
   ·obtain⟨ol,hol,hcl,nl,hdl⟩:=hl; obtain⟨oc,od,oda,osl⟩:=ol; simp only at hcl hdl;subst hcl; subst hdl;have hol':(s.heap.push (FR w)).get? l=some { cls:=.type "list",dict:=od,data:=.seq items nl,slots:=osl }:=cj _ hol;have hsls:=PySem.F.sub_list_set; have hslf:=PySem.F.sub_list_frozenset; have hne:(Value.type "list" == Value.type "dict")=false:=by decide
    have hl1:(s.heap.push (FR w)).IsList l items:=⟨_,hol',rfl,nl,rfl⟩;unfold Builtin.«set.__init__» noKeywords Builtin.Frozenset.updateFrom; generalize hPI:pyIter=PI
    wp_walk
    subst hPI;refine wpAny_pyIter_list hl1 (wpAny_bind (wpAny_runValue ?_));have hlS:l<s.heap.objs.size:=cV hol; have hh3:A.in1.in1.in1.handled=none:=by simp[hh]
    have lI:l≠(s.heap.push (FR w)).objs.size:=by rw[eF]; exact c8 (eY hlS)
    have sI:s.heap.objs.size≠(s.heap.push (FR w)).objs.size:=by rw[eF]; exact c8 (Nat.lt_succ_self _)
    refine WM (Walks.list hh3 _ l lI items) sI (fj hlS) hv hb (b:=Dz w) (items.size-0) 0 _ (by omega) (dk _) ⟨⟨_,cU _ rfl,rfl,rfl⟩,hl1.push _⟩ ?s0 ?fin
    case s0 =>
     obtain⟨o,es,ep,t,ho,rest⟩:=WT (prog:=prog) (w:=w) s.heap;exact⟨o,es,ep,t,cj _ ho,rest⟩
    case fin =>
     intro h' tk k3 x3;show wpAny _ _ _ _ _ _;refine wpAny_pure ?_;show wpAny _ _ (ret Value.none) _ _ _;refine wpAny_pure ⟨rfl,h',tk,rfl,x3,λb o e=>?_⟩;have lb:=cV e;exact k3 b o (c8 lb) (by rw[eF]; exact c8 (eY lb)) (cj _ (cj _ e))
   ·cases r₂ with
    | error e=>exact hr₂
    | ok fl₂ =>
     cases fl₂ with
     | ret r =>
      obtain⟨rfl,h',tk,rfl,x3,k3⟩:=hr₂
      repeat (any_goals (first | assumption | wp_step))
      exact h _ _ x3 k3
     | _=>exact hr₂.elim
  | _=>exact hr.elim
theorem OL:Manifest.owners.lookup (String.ofList ['r','o','t','a','r','e','t','i','_','t','e','s'].reverse)=some Manifest.sig_set_iterator:=by kernel_rfl
theorem Ig:Slot "set_iterator" "__next__" "set_iterator.__next__":=.of (owner:="set_iterator") (n:="__next__") (by rw[typeLookup_type,builtinLookup_eq_fast]; kernel_rfl) (by decide +kernel) (by decide +kernel) (by decide +kernel)
 (by first | exact .inl (by decide +kernel) | exact .inr (by decide +kernel)) (by rw[isSubtype_type]; kernel_rfl)
theorem Tv:entryFor table "set_iterator.__next__" = some Builtin.«set_iterator.__next__»:=entryFor_of_tree (by kernel_rfl)
theorem T4(a:Value):argsOk "set_iterator.__next__" ⟨[a],[]⟩:=by
 unfold argsOk; rw[signature?_of (id:="set_iterator.__next__") (n:=['_','_','t','x','e','n','_','_']) (o:=['r','o','t','a','r','e','t','i','_','t','e','s']) (by kernel_rfl) OL]; kernel_rfl
theorem Nt:Slot "set_iterator" "__iter__" "set_iterator.__iter__":=.of (owner:="set_iterator") (n:="__iter__") (by rw[typeLookup_type,builtinLookup_eq_fast]; kernel_rfl) (by decide +kernel) (by decide +kernel) (by decide +kernel)
 (by first | exact .inl (by decide +kernel) | exact .inr (by decide +kernel)) (by rw[isSubtype_type]; kernel_rfl)
theorem Tw:entryFor table "set_iterator.__iter__" = some Builtin.«dict_keyiterator.__iter__»:=entryFor_alias (id':="dict_keyiterator.__iter__") (by kernel_rfl) rfl (by decide +kernel) (by kernel_rfl)
theorem Tz(a:Value):argsOk "set_iterator.__iter__" ⟨[a],[]⟩:=by
 unfold argsOk; rw[signature?_of (id:="set_iterator.__iter__") (n:=['_','_','r','e','t','i','_','_']) (o:=['r','o','t','a','r','e','t','i','_','t','e','s']) (by kernel_rfl) OL]; kernel_rfl
theorem Tx:entryFor table "set.__iter__" = some Builtin.«frozenset.__iter__»:=entryFor_alias (id':="frozenset.__iter__") (by kernel_rfl) rfl (by decide +kernel) (by kernel_rfl)
theorem N3{α:Type}{l:List α}{i:Nat}(h:i<l.length):(l[i] :: l.eraseIdx i).Perm l:=by
 rw[List.eraseIdx_eq_take_drop_succ];have e:l=l.take i++l[i] :: l.drop (i+1):=by rw[List.getElem_cons_drop,fL]
 conv=>rhs; rw[e]
 exact List.perm_middle.symm
theorem UU{src:Source}{n:Nat}{Q:Nat->Shared->Prop}(hn:n≠0)(h:Q (w.draws src (s.drawn.get src) % n) { s with drawn:=s.drawn.bump src }):wpAny (model prog w) A (choose src n) Q E s:=λ_ _ _=>⟨hn,h⟩
theorem Lb{α:Type}(next:Nat->Nat)(xs:Array α):(pickOrder next xs).toList.Perm xs.toList:=by
 have go:∀(fuel k:Nat) (left:List α) (out:Array α),left.length<=fuel->(pickOrder.go next fuel k left out).toList.Perm (out.toList++left):=by
  intro fuel
  induction fuel with
  | zero =>
   intro k left out hl;obtain rfl:left=[]:=List.length_eq_zero_iff.mp (by omega);unfold pickOrder.go;simp
  | succ f ih =>
   intro k left out hl;unfold pickOrder.go;cases e:left[next k % left.length]? with
   | none =>
    dsimp only
    have:left=[]:=by
     cases left with
     | nil=>rfl
     | cons x l =>
      have:=Nat.mod_lt (next k) (show 0<(x :: l).length by simp)
      rw[cg this] at e; cases e
    rw[this]; simp
   | some x =>
    dsimp only;obtain⟨hk,ex⟩:=cm.mp e;refine(ih _ _ _ (by rw[List.length_eraseIdx_of_lt hk]; omega)).trans ?_;rw[Array.toList_push,List.append_assoc];refine List.Perm.append_left _ ?_;rw[<-ex];exact N3 hk
 have:=go xs.size 0 xs.toList #[] (by simp)
 simpa [pickOrder] using this
theorem PJ{α:Type}{R:List α->Shared->Prop}:∀(n:Nat) (xs:List α) (s:Shared),n=xs.length->(∀ys d',ys.Perm xs->R ys { s with drawn:=d' })->wpAny (model prog w) A (drawOrder n xs) R E s
 | 0,xs,s,hn,h=>by
  obtain rfl:xs=[]:=List.length_eq_zero_iff.mp hn.symm;unfold drawOrder;exact wpAny_pure (h [] s.drawn (List.Perm.refl _))
 | n+1,[],s,hn,h=>by cases hn
 | n+1,x :: xs,s,hn,h=>by
  unfold drawOrder;refine wpAny_bind (UU (by simp) ?_);have hk:=Nat.mod_lt (w.draws .order (s.drawn.get .order)) (show 0<(x :: xs).length by simp);generalize w.draws .order (s.drawn.get .order) % (x :: xs).length=i at hk ⊢;rw[cg hk];dsimp only;refine wpAny_bind (PJ n ((x :: xs).eraseIdx i) _ (by rw[List.length_eraseIdx_of_lt hk]; simp at hn ⊢; omega) λys d' p=>wpAny_pure (h _ d' ?_));exact(List.Perm.cons _ p).trans (N3 hk)
end
section
variable {prog:Program} {w:World} {A:Around} {E:Value->Shared->Prop} {s:Shared}
abbrev Cw(first:Value)(i:Nat)(a:Addr)(n ep:Nat):Obj:={ cls:=.type "set_iterator",data:=.fields #[first,.int i 0,.ref a,.int n 0,.int ep 0] }
theorem Js {I:Addr} {first:Value} {i:Nat} {a:Addr} {n ep:Nat} {Q:Option Value->Shared->Prop} (hI:s.heap.get? I=some (Cw first i a n ep))
  (hc:wpAny (model prog w) A.in1 (Builtin.«set_iterator.__next__» ⟨[.ref I],[]⟩) (λfin s'=>∃r,fin=.done (.ret r)/\Q (some r) s') (λe s'=>∃ob o,s'.heap.get? ob=some o/\o.cls=.type "StopIteration"/\e=.ref ob/\Q none s') s) :
  wpAny (model prog w) A (pyNext (.ref I)) Q E s:=by
 have hT:s.TypeIs (.ref I) "set_iterator":=⟨_,hI,rfl⟩;unfold pyNext;refine wpAny_bind (wpAny_attempt (wpAny_callSpecial?_slot (name:=Str.ofString "__next__") hT Ig (wpAny_call_entry Ig hT Tv ?_ (T4 _))));refine wpAny_mono hc (λfin s' x=>?_) (λe s' x=>?_)
 ·obtain⟨r,rfl,q⟩:=x;exact⟨r,rfl,wpAny_pure q⟩
 ·obtain⟨ob,o,ho,hcl,rfl,q⟩:=x;refine wpAny_bind (wpAny_isInstance (T:="StopIteration") (b:=true) ⟨_,ho,hcl⟩ isSubtype_stop ?_);exact wpAny_pure q
theorem Ii{h:Heap}{I:Addr}{f0 f1 f2 f3 f4:Value}{cl:Value}(hI:h.get? I=some { cls:=cl,data:=.fields #[f0,f1,f2,f3,f4] })(k:Nat)(v:Value):
  (h.update I (Obj.mapFields (·.setIfInBounds k v))).get? I=some { cls:=cl,data:=.fields (#[f0,f1,f2,f3,f4].setIfInBounds k v) }:=fJ _ hI rfl
theorem Pa {h:Heap} {I:Addr} {R:Fin->Shared->Prop} {X:Value->Shared->Prop} (hh:A.handled=none) (s₁:Shared) (he:Heap.ExtBut I h s₁.heap)
  (hX:∀ob o h',h'.get? ob=some o->o.cls=.type "StopIteration"->Heap.ExtBut I h h'->X (.ref ob) { s₁ with heap:=h' }):wpAny (model prog w) A (newExc (.type "StopIteration") [] >>= λe=>raiseNew e) R X s₁:=by
 refine wpAny_bind ?_; simp only[newExc,newTuple];refine wpAny_bind (wpAny_newObj_type ?_ (by size_fits)); refine wpAny_bind (m:=firstArgMember _ _) (wpAny_of_eq (a:=Value.none) (by first | rfl | (simp only[firstArgMember]; rfl)) ?_);refine wpAny_newObj_type ?_ (by size_fits); simp only[raiseNew];refine wpAny_bind (wpAny_handled ?_); rw[hh];refine wpAny_bind (wpAny_pure (wpAny_throw ?_));exact hX _ _ _ (cU _ rfl) rfl ((he.push _).push _)
section
variable {I a:Addr} {o:Obj} {es:Array (Int×Value)} {i n ep sl:Nat} {t:SetTable} {Q:Option Value->Shared->Prop}
theorem Xz {v:Value} {nx:Nat} (hI:s.heap.get? I=some (Cw (.int sl 0) i a n ep)) (ho:s.heap.get? a=some o) (hd:o.data=.set es ep t) (hf:t.fits es.size=true) (hn:es.size=n)
  (hN:∀(A':Around) (E':Value->Shared->Prop) (Q':Option (Value×Nat)->Shared->Prop),Q' (some (v,nx)) s->wpAny (model prog w) A' (setNext a sl i ep) Q' E' s)
  (hQ:∀h',h'.get? I=some (Cw (.int nx 0) (i+1) a n ep)->Heap.SameBut I s.heap h'->Q (some v) { s with heap:=h' }):wpAny (model prog w) A (pyNext (.ref I)) Q E s:=by
 refine Js hI ?_;unfold Builtin.«set_iterator.__next__»;refine wpAny_bind (wpAny_pure ?_);refine wpAny_bind (wpAny_fieldsOf hI rfl ?_);show wpAny _ _ (setEntries a >>= _) _ _ s;refine wpAny_bind (wpAny_setEntries_of ho hd hf ?_);rw[if_neg (by simp[hn])];show wpAny _ _ (setNext a ((sl:Int).toNat) ((i:Int).toNat) ((ep:Int).toNat) >>= _) _ _ s;simp only[fD];refine wpAny_bind (hN _ _ _ ?_);show wpAny _ _ (setField (.ref I) 0 (rawInt nx) >>= _) _ _ s;refine wpAny_bind (wpAny_setField hI rfl (by simp) ?_);have g1:=Ii hI 0 (rawInt nx);show wpAny _ _ (setField (.ref I) 1 (rawInt ((i:Int)+1)) >>= _) _ _ _;refine wpAny_bind (wpAny_setField g1 rfl (by simp) (wpAny_pure ⟨v,rfl,hQ _ ?_ ?_⟩))
 ·have g2:=Ii (f0:=rawInt nx) (by simpa using g1) 1 (rawInt ((i:Int)+1));rw[g2]; simp[rawInt]
 ·exact(eV ..).trans (eV ..)
theorem ZD (hh:A.handled=none) (hI:s.heap.get? I=some (Cw (.int sl 0) i a n ep)) (ho:s.heap.get? a=some o) (hd:o.data=.set es ep t) (hf:t.fits es.size=true) (hn:es.size=n)
  (hN:∀(A':Around) (E':Value->Shared->Prop) (Q':Option (Value×Nat)->Shared->Prop),Q' none s->wpAny (model prog w) A' (setNext a sl i ep) Q' E' s)
  (hQ:∀h',Heap.ExtBut I s.heap h'->Q none { s with heap:=h' }):wpAny (model prog w) A (pyNext (.ref I)) Q E s:=by
 refine Js hI ?_;unfold Builtin.«set_iterator.__next__»;refine wpAny_bind (wpAny_pure ?_);refine wpAny_bind (wpAny_fieldsOf hI rfl ?_);show wpAny _ _ (setEntries a >>= _) _ _ s;refine wpAny_bind (wpAny_setEntries_of ho hd hf ?_);rw[if_neg (by simp[hn])];show wpAny _ _ (setNext a ((sl:Int).toNat) ((i:Int).toNat) ((ep:Int).toNat) >>= _) _ _ s;simp only[fD];refine wpAny_bind (hN _ _ _ ?_);show wpAny _ _ (setField (.ref I) 2 .none >>= _) _ _ s;refine wpAny_bind (wpAny_setField hI rfl (by simp) ?_);exact Pa (A:=A.in1) (h:=s.heap) (I:=I) hh { s with heap:=s.heap.update I (Obj.mapFields (·.setIfInBounds 2 Value.none)) } (eV ..).extBut (λob o' h' e1 e2 e3=>⟨ob,o',e1,e2,rfl,hQ h' e3⟩)
end
end
section
variable {prog:Program} {w:World} {A:Around} {E:Value->Shared->Prop} {s:Shared} {a I:Addr} {o:Obj} {es:Array (Int×Value)} {i n ep:Nat} {t:SetTable}
theorem KR{Q:Bool->Shared->Prop}(h:Q (w.params.followText "set-order") s):wpAny (model prog w) A setsByText Q E s:=by
 unfold setsByText; exact wpAny_bind (wpAny_askSetting (wpAny_pure h))
def Dn(t:SetTable):Nat->Nat
 | 0=>0
 | i+1=>t.place.getD i 0+1
theorem Vn{t:SetTable}(hs:t.place.toList.Pairwise (· < ·)):∀i,i<=t.place.size->SetTable.below t.place (Dn t i)=i:=by
 have mono:∀(a b x y:Nat),a<b->t.place[a]?=some x->t.place[b]?=some y->x<y:=λa b x y hab ha hb=>by
  rw[<-Array.getElem?_toList] at ha hb;obtain⟨h1,rfl⟩:=cm.mp ha;obtain⟨h2,rfl⟩:=cm.mp hb;exact cY.mp hs a b h1 h2 hab
 intro i hi;obtain⟨b1,b2,b3⟩:=Ox hs (Dn t i);rcases eQ (SetTable.below t.place (Dn t i)) i with z | z | z
 ·have e:t.place[SetTable.below t.place (Dn t i)]?=some t.place[SetTable.below t.place (Dn t i)]:=dz (by omega);have g:=b3 _ _ (cR _) e;generalize t.place[SetTable.below t.place (Dn t i)]=x at e g;cases i with
  | zero=>omega
  | succ i =>
   have ei:t.place[i]?=some t.place[i]:=dz (by omega);have gi:Dn t (i+1)=t.place[i]+1:=by show t.place.getD i 0+1=_; rw[dD,ei]; rfl
   rcases c5 (SetTable.below t.place (Dn t (i+1))) i with y | y
   ·have:=mono _ _ _ _ y e ei; omega
   ·have eb:SetTable.below t.place (Dn t (i+1))=i:=by omega
    rw[eb,ei] at e;cases e; omega
 ·exact z
 ·have ei:t.place[i]?=some t.place[i]:=dz (by omega);have g:=b2 i _ z ei;generalize t.place[i]=x at ei g;cases i with
  | zero=>simp[Dn] at g
  | succ i =>
   have e0:t.place[i]?=some t.place[i]:=dz (by omega);have gi:Dn t (i+1)=t.place[i]+1:=by show t.place.getD i 0+1=_; rw[dD,e0]; rfl
   have:=mono i (i+1) _ _ (by omega) e0 ei
   omega
theorem WG (hb:w.params.followText "set-order" = false) (ho:s.heap.get? a=some o) (hd:o.data=.set es ep t) (hf:t.fits es.size=true) (ti:DM true t) (hp:(!t.plain && decide (es.size > 1))=false) (hi:i<=es.size)
  {Q:Option (Value×Nat)->Shared->Prop} (h:Q (if i<es.size then some ((es.getD i (0,.none)).2,Dn t (i+1)) else none) s):wpAny (model prog w) A (setNext a (Dn t i) i ep) Q E s:=by
 have sz:t.place.size=es.size:=by
  unfold SetTable.fits at hf;simp only[dO,beq_iff_eq] at hf;exact hf.1
 have ord:t.place.toList.Pairwise (· < ·):=by
  cases hpl:t.plain with
  | true=>exact ti.ord hpl
  | false =>
   rw[hpl] at hp
   have:t.place.toList.length<=1:=by simp at hp; rw[dw]; omega
   match hl:t.place.toList,this with
   | [],_=>exact List.Pairwise.nil
   | [x],_=>exact List.pairwise_singleton _ _
 unfold setNext;refine wpAny_bind (wpAny_setState_of ho hd hf ?_);refine wpAny_bind (KR ?_);rw[hb];refine wpAny_ite_split (λz=>by cases z) (λ_=>?_);refine wpAny_ite_split (λz=>absurd z (show ¬((!t.plain && decide (es.size > 1))=true) by rw[hp]; decide)) (λ_=>?_);refine wpAny_bind ?_;refine wpAny_ite_split (λz=>absurd z (show ¬((!t.led && !es.isEmpty)=true) by rw[ti.led]; simp)) (λ_=>wpAny_pure ?_);rw[Vn ord i (by omega)];refine wpAny_pure ?_;rcases c5 i es.size with z | z
 ·rw[if_pos z] at h;have e1:es[i]?=some (es.getD i (0,.none)):=by rw[dD,dz z]; rfl
  have e2:t.place[i]?=some (t.place.getD i 0):=by rw[dD,dz (by omega)]; rfl
  rw[e1,e2];exact h
 ·rw[if_neg (by omega)] at h;rw[Array.getElem?_eq_none z];exact h
theorem Vi (hb:w.params.followText "set-order" = true) (ho:s.heap.get? a=some o) (hd:o.data=.set es ep t) (hf:t.fits es.size=true)
  {Q:Option (Value×Nat)->Shared->Prop} (h:Q ((pickOrder (w.params.setOrder a ep) es)[i]?.map λe=>(e.2,0)) s):wpAny (model prog w) A (setNext a 0 i ep) Q E s:=by
 unfold setNext;refine wpAny_bind (wpAny_setState_of ho hd hf ?_);refine wpAny_bind (KR ?_);rw[hb];refine wpAny_ite_split (λ_=>?_) (λz=>absurd rfl z);dsimp only;refine wpAny_ite_split (λz=>absurd z (by simp)) (λ_=>?_);unfold setWalk;refine wpAny_bind (wpAny_bind (wpAny_setState_of ho hd hf ?_));refine wpAny_bind (KR ?_);rw[hb];refine wpAny_ite_split (λ_=>?_) (λz=>absurd rfl z);refine wpAny_bind (wpAny_askSetting (wpAny_pure ?_));exact wpAny_pure h
theorem Wg{Q:Bool->Shared->Prop}(hT:s.TypeIs (.ref a) "set")(h:Q false s):wpAny (model prog w) A (Builtin.List.listLengthHint (.ref a)) Q E s:=by
 unfold Builtin.List.listLengthHint; refine wpAny_bind (wpAny_specialOf hT PySem.F.slot_set_len.lookup ?_);generalize hid:("set.__len__":String)=id0
 wp_delta
 rw[show splitId id0=some ("set","__len__") from by subst hid; decide +kernel]; subst hid;refine wpAny_bind (wpAny_isInstance (T:="set") (b:=true) hT (by rw[isSubtype_type]; kernel_rfl) ?_);refine wpAny_ite_split (λz=>absurd z (by decide)) (λ_=>wpAny_ite_split (λ_=>?_) (λz=>absurd (by decide +kernel) z));exact wpAny_bind (wpAny_typeOf hT (wpAny_pure h))
abbrev GB(ys:List Nat):Obj:={ cls:=.type "tuple",data:=.seq (ys.map λy:Nat=>rawInt (y:Int)).toArray }
theorem WQ {Q:Value->Shared->Prop} (ho:s.heap.get? a=some o) (hx:o.ExactSet) (hd:o.data=.set es ep t) (hf:t.fits es.size=true) (hz:es.size<=sizeLine)
  (h1:(!w.params.followText "set-order" && (!t.plain && decide (es.size > 1)))=false->Q (.ref s.heap.objs.size) { s with heap:=s.heap.push (Cw (.int 0 0) 0 a es.size ep) })
  (h2:(!w.params.followText "set-order" && (!t.plain && decide (es.size > 1)))=true->∀ys d',ys.Perm (List.range es.size)->Q (.ref (s.heap.objs.size+1)) { s with heap:=(s.heap.push (GB ys)).push (Cw (.ref s.heap.objs.size) 0 a es.size ep),drawn:=d' }) :
  wpAny (model prog w) A (pyIter (.ref a)) Q E s:=by
 have hT:s.TypeIs (.ref a) "set":=⟨o,ho,hx.1⟩;refine wpAny_pyIter_slot hT PySem.F.slot_set_iter (wpAny_call_entry PySem.F.slot_set_iter hT Tx ?_ (PySem.F.args_set_iter_1 _));unfold Builtin.«frozenset.__iter__»;refine wpAny_bind (wpAny_pure ?_);unfold Builtin.Frozenset.sizeOf;refine wpAny_bind (wpAny_bind (wpAny_setEntries_of ho hd hf (wpAny_pure ?_)));unfold setDrawn;refine wpAny_bind (wpAny_bind (wpAny_setState_of ho hd hf (wpAny_bind (KR (wpAny_pure ?_)))));refine wpAny_ite_split (λz=>?_) (λz=>?_)
 ·have z':(!w.params.followText "set-order" && (!t.plain && decide (es.size > 1)))=true:=z;refine wpAny_bind (PJ es.size (List.range es.size) s (by simp) λys d' p=>?_);have ly:ys.length=es.size:=by rw[p.length_eq,c7]
  unfold newTuple;refine wpAny_bind (wpAny_newObj_type ?_ (by simp only[sizeOk,cx,cf,ly]; exact hz));have ho':=cj (GB ys) ho;refine wpAny_bind (wpAny_setEpoch_of (s:={ s with heap:=s.heap.push (GB ys),drawn:=d' }) ho' hd hf ?_);unfold newFields;refine wpAny_bind (wpAny_newObj_type (wpAny_pure ⟨_,rfl,"set_iterator",_,⟨_,cU _ rfl,rfl⟩,Ig.lookup,?_⟩));have fin:=h2 z' ys d' p;have e:(s.heap.push (GB ys)).objs.size=s.heap.objs.size+1:=eF ..;simp only[e];exact fin
 ·refine wpAny_bind (wpAny_pure ?_);refine wpAny_bind (wpAny_setEpoch_of ho hd hf ?_);unfold newFields;refine wpAny_bind (wpAny_newObj_type (wpAny_pure ⟨_,rfl,"set_iterator",_,⟨_,cU _ rfl,rfl⟩,Ig.lookup,?_⟩));have z':(!w.params.followText "set-order" && (!t.plain && decide (es.size > 1)))=false:=by
   have:¬(!w.params.followText "set-order" && (!t.plain && decide (es.size > 1)))=true:=z
   rwa [Bool.not_eq_true] at this
  exact h1 z'
variable {tp:Addr} {Q:Option Value->Shared->Prop}
theorem Ud {ys:List Nat} {y:Nat} {e:Int×Value} (hI:s.heap.get? I=some (Cw (.ref tp) i a n ep)) (hT:s.heap.get? tp=some (GB ys)) (ho:s.heap.get? a=some o) (hd:o.data=.set es ep t) (hf:t.fits es.size=true) (hn:es.size=n) (hy:ys[i]?=some y) (he:es[y]?=some e)
  (hQ:∀h',h'.get? I=some (Cw (.ref tp) (i+1) a n ep)->Heap.SameBut I s.heap h'->Q (some e.2) { s with heap:=h' }):wpAny (model prog w) A (pyNext (.ref I)) Q E s:=by
 refine Js hI ?_;unfold Builtin.«set_iterator.__next__»;refine wpAny_bind (wpAny_pure (wpAny_bind (wpAny_fieldsOf hI rfl ?_)));show wpAny _ _ (setEntries a >>= _) _ _ s;refine wpAny_bind (wpAny_setEntries_of ho hd hf ?_); rw[if_neg (by simp[hn])];show wpAny _ _ (seqItems? (.ref tp) >>= _) _ _ s;refine wpAny_bind (wpAny_seqItems hT rfl ?_);have e1:(ys.map λy:Nat=>rawInt (y:Int)).toArray[((i:Int)).toNat]?=some (rawInt (y:Int)):=by
  rw[fD,fT,cu,hy]; rfl
 dsimp only;rw[e1];show wpAny _ _ (setNextDrawn a ((y:Int).toNat) ((ep:Int).toNat) >>= _) _ _ s;rw[fD,fD];unfold setNextDrawn;refine wpAny_bind (wpAny_bind (wpAny_setState_of ho hd hf ?_));refine wpAny_ite_split (λz=>absurd z (by simp)) (λ_=>?_);rw[he];refine wpAny_pure ?_;show wpAny _ _ (setField (.ref I) 1 (rawInt ((i:Int)+1)) >>= _) _ _ s;refine wpAny_bind (wpAny_setField hI rfl (by simp) (wpAny_pure ⟨e.2,rfl,hQ _ ?_ (eV ..)⟩));rw[Ii hI 1 (rawInt ((i:Int)+1))]; simp[rawInt]
theorem Vg {ys:List Nat} (hh:A.handled=none) (hI:s.heap.get? I=some (Cw (.ref tp) i a n ep)) (hT:s.heap.get? tp=some (GB ys)) (ho:s.heap.get? a=some o) (hd:o.data=.set es ep t) (hf:t.fits es.size=true) (hn:es.size=n) (hy:ys[i]?=none)
  (hQ:∀h',Heap.ExtBut I s.heap h'->Q none { s with heap:=h' }):wpAny (model prog w) A (pyNext (.ref I)) Q E s:=by
 refine Js hI ?_;unfold Builtin.«set_iterator.__next__»;refine wpAny_bind (wpAny_pure (wpAny_bind (wpAny_fieldsOf hI rfl ?_)));show wpAny _ _ (setEntries a >>= _) _ _ s;refine wpAny_bind (wpAny_setEntries_of ho hd hf ?_); rw[if_neg (by simp[hn])];show wpAny _ _ (seqItems? (.ref tp) >>= _) _ _ s;refine wpAny_bind (wpAny_seqItems hT rfl ?_);have e1:(ys.map λy:Nat=>rawInt (y:Int)).toArray[((i:Int)).toNat]?=none:=by
  rw[fD,fT,cu,hy]; rfl
 dsimp only;rw[e1];show wpAny _ _ (setField (.ref I) 0 (rawInt 0) >>= _) _ _ s;refine wpAny_bind (wpAny_setField hI rfl (by simp) ?_);have g1:=Ii hI 0 (rawInt 0);show wpAny _ _ (setField (.ref I) 2 .none >>= _) _ _ _;refine wpAny_bind (wpAny_setField g1 rfl (by simp) ?_);exact Pa (A:=A.in1) (h:=s.heap) (I:=I) hh { s with heap:=(s.heap.update I (Obj.mapFields (·.setIfInBounds 0 (rawInt 0)))).update I (Obj.mapFields (·.setIfInBounds 2 Value.none)) } ((eV ..).trans (eV ..)).extBut (λob o' h' e1 e2 e3=>⟨ob,o',e1,e2,rfl,hQ h' e3⟩)
theorem Oj{first:Value}{Q:Value->Shared->Prop}(hI:s.heap.get? I=some (Cw first i a n ep))(h:Q (.ref I) s):wpAny (model prog w) A (pyIter (.ref I)) Q E s:=by
 have hT:s.TypeIs (.ref I) "set_iterator":=⟨_,hI,rfl⟩;refine wpAny_pyIter_slot hT Nt (wpAny_call_entry Nt hT Tw ?_ (Tz _));show wpAny _ _ (ret (.ref I)) _ _ s;exact wpAny_pure ⟨_,rfl,"set_iterator",_,hT,Ig.lookup,h⟩
theorem PL (hh:A.handled=none) (hne:a≠I) (hd:o.data=.set es ep t) (hf:t.fits es.size=true) (hn:es.size=n) (sl:Nat->Nat) (val:Nat->Value)
  (hN:∀(s:Shared),s.heap.get? a=some o->∀i,i<=n->∀(A':Around) (E':Value->Shared->Prop) (Q':Option (Value×Nat)->Shared->Prop),Q' (if i<n then some (val i,sl (i+1)) else none) s->wpAny (model prog w) A' (setNext a (sl i) i ep) Q' E' s) :
  Walks prog w A I [I,a] [I] n (λi v=>v=val i) (λi h=>h.get? I=some (Cw (.int (sl i) 0) i a n ep)/\h.get? a=some o) where
 sub:=λb hb=>by simp at hb; simp[hb]
 frame:=λi h h' st hk=>⟨hk I (by simp) _ st.1,hk a (by simp) _ st.2⟩
 item:=λi s Q E hi st hQ=>by
  refine Xz (v:=val i) (nx:=sl (i+1)) st.1 st.2 hd hf hn (λA' E' Q' q=>hN s st.2 i (by omega) A' E' Q' (by rw[if_pos hi]; exact q)) λh' e1 e2=>?_
  exact hQ _ h' s.toks rfl ⟨e1,by rw[e2.2 a hne]; exact st.2⟩ λb ob hb e=>by rw[e2.2 b (by simpa using hb)]; exact e
 done:=λs Q E st hQ=>by
  refine ZD hh st.1 st.2 hd hf hn (λA' E' Q' q=>hN s st.2 n (cR _) A' E' Q' (by rw[if_neg (fB _)]; exact q)) λh' e1=>?_
  exact hQ h' s.toks λb ob hb e=>e1 b ob (by simpa using hb) e
 self:=λi s Q E st hQ=>Oj st.1 hQ
theorem Um(hh:A.handled=none)(hne:a≠I)(hnt:tp≠I)(hd:o.data=.set es ep t)(hf:t.fits es.size=true)(hn:es.size=n){ys:List Nat}(hp:ys.Perm (List.range n)):
  Walks prog w A I [I,a,tp] [I] n (λi v=>∃y e,ys[i]?=some y/\es[y]?=some e/\v=e.2) (λi h=>h.get? I=some (Cw (.ref tp) i a n ep)/\h.get? a=some o/\h.get? tp=some (GB ys)) where
 sub:=λb hb=>by simp at hb; simp[hb]
 frame:=λi h h' st hk=>⟨hk I (by simp) _ st.1,hk a (by simp) _ st.2.1,hk tp (by simp) _ st.2.2⟩
 item:=λi s Q E hi st hQ=>by
  have ly:ys.length=n:=by rw[hp.length_eq,c7]
  have ey:ys[i]?=some ys[i]:=cg (by omega);have hy:ys[i]<es.size:=by rw[hn]; exact cZ.mp (hp.mem_iff.mp (eP _))
  have ee:es[ys[i]]?=some es[ys[i]]:=dz hy;refine Ud st.1 st.2.2 st.2.1 hd hf hn ey ee λh' e1 e2=>?_
  exact hQ _ h' s.toks ⟨_,_,ey,ee,rfl⟩ ⟨e1,by rw[e2.2 a hne]; exact st.2.1,by rw[e2.2 tp hnt]; exact st.2.2⟩ λb ob hb e=>by rw[e2.2 b (by simpa using hb)]; exact e
 done:=λs Q E st hQ=>by
  have ly:ys.length=n:=by rw[hp.length_eq,c7]
  refine Vg hh st.1 st.2.2 st.2.1 hd hf hn (dF (by omega)) λh' e1=>?_
  exact hQ h' s.toks λb ob hb e=>e1 b ob (by simpa using hb) e
 self:=λi s Q E st hQ=>Oj st.1 hQ
open PySem.W
variable {S:Addr}
theorem XB {R:Result->Shared->Prop} {Good:List Value->Prop} {res:Value} {c₀:Nat} (hT:s.TypeIs (.ref a) "set") (hSa:S≠a) (hS:s.heap.get? S=some { cls:=.type "list",data:=.seq #[] c₀ }) (hn:n<=sizeLine)
  (hit:∀E':Value->Shared->Prop,wpAny (model prog w) A.in1 (pyIter (.ref a)) (λit s1=>∃(I:Addr) (h1:Heap) (d1:Drawn) (fp:List Addr) (P:Nat->Value->Prop) (St:Nat->Heap->Prop),it=.ref I/\s1={ s with heap:=h1,drawn:=d1 }/\Walks prog w A.in1 I fp [I] n P St/\S∉fp/\St 0 h1/\(∀b o,s.heap.get? b=some o->h1.get? b=some o)/\s.heap.get? I=none/\∀acc,ItemsOf P acc n->Good acc.toList) E' s)
  (hR:∀h' tk d' acc c,(∀b o,b≠S->s.heap.get? b=some o->h'.get? b=some o)->h'.get? S=some { cls:=.type "list",dict:=none,data:=.seq acc c,slots:=#[] }->Good acc.toList->R (.ok (.ret res)) { s with heap:=h',toks:=tk,drawn:=d' }) :
  wpAny (model prog w) A.in1 (Builtin.List.listExtendWith (.ref S) (.ref a) res) (λfin s'=>match fin with | .done f=>R (.ok f) s' | .again c'=>c'.quiet=true/\codeAny (model prog w) A c' R s') (λe s'=>R (.error e) s') s:=by
 unfold Builtin.List.listExtendWith; refine wpAny_bind (wpAny_typeOf (T:="set") hT ?_);have r1:Builtin.List.listSameRef (.ref S) (.ref a)=false:=by simp[Builtin.List.listSameRef,hSa]
 have r2:(Value.type "set" == Value.type "list")=false:=by decide
 have r3:(Value.type "set" == Value.type "tuple")=false:=by decide
 simp only[r1,r2,r3,Bool.or_false,ft,if_false];refine wpAny_bind (wpAny_mono (hit _) (λit s1 x=>?_) λ_ _ z=>z);obtain⟨I,h1,d1,fp,P,St,rfl,rfl,W,hSf,st,k1,nI,good⟩:=x;have S1:=k1 _ _ hS;have key:∀(h:Heap) (c₁ tk:Nat),St 0 h->(∀b o,b≠S->s.heap.get? b=some o->h.get? b=some o)->h.get? S=some { cls:=.type "list",data:=.seq #[] c₁ }->codeAny (model prog w) A (.builtin "list.extend.loop" ⟨[.ref S,.ref I,res],[]⟩) R { s with heap:=h,toks:=tk,drawn:=d1 }:=λh c₁ tk hst hk hS₁=>by
  refine codeAny_extend_loopS W.toS hn S hSf res n 0 _ #[] c₁ rfl (dk _) hst hS₁ (ItemsOf.nil _) λs' acc' c' hm hS' hacc=>?_
  have es:=Moved.eq_with hm;rw[es];refine hR s'.heap s'.toks d1 acc' c' (λb o hb e=>hm.heap b o (λhmem=>?_) (hk b o hb e)) hS' (good _ hacc);rcases cP.mp hmem with z | z
  ·exact hb z
  ·rw[cW.mp z,nI] at e; cases e
 have hT1:Shared.TypeIs { s with heap:=h1,drawn:=d1 } (.ref a) "set":=by
  obtain⟨oT,e1,e2⟩:=hT;exact⟨oT,k1 _ _ e1,e2⟩
 refine wpAny_bind (wpAny_holding (Wg hT1 ?_));refine wpAny_ite_split (λ_=>?_) (λ_=>wpAny_pure ⟨plainId_quiet PySem.F.plain_extend_loop _,key _ c₀ _ st (λb o _ e=>k1 b o e) S1⟩);refine wpAny_bind (wpAny_rule (wpAny_bind ?_));show wpAny _ _ (updateSeq S (·.push .none) >>= λ_=>updateSeq S (·.pop)) _ _ _;refine wpAny_bind (wpAny_updateSeq S1 rfl ?_);have S2:=fJ (Obj.mapSeq (·.push Value.none)) S1 rfl;refine wpAny_updateSeq (hz:=by seq_fits) S2 rfl ?_;have S3:=fJ (Obj.mapSeq (·.pop)) S2 rfl;refine wpAny_pure ⟨plainId_quiet PySem.F.plain_extend_loop _,key _ _ _ ?_ (λb o hb e=>?_) S3⟩
 ·refine W.frame 0 _ _ st λb hb o e=>?_
  have hbS:b≠S:=λz=>hSf (z ▸ hb)
  rw[eR _ _ (eK hbS),eR _ _ (eK hbS)]; exact e
 ·rw[eR _ _ (eK hb),eR _ _ (eK hb)]; exact k1 b o e
theorem QX:∀{l:List (Int×Value)},EI prog w l->IntsAre (l.map (·.2)) (l.map Gd)
 | [],_=>.nil
 | e :: l,h=>by
  obtain⟨k,t,rfl⟩:=h e (by simp);exact .cons k t (QX λx hx=>h x (by simp[hx]))
def JK(ks:List Int)(vs:List Value):Prop:=∃ms,IntsAre vs ms/\ms.Perm ks
theorem L9{l m:List (Int×Value)}{ks:List Int}(h:EI prog w l)(p:m.Perm l)(q:(l.map Gd).Perm ks):JK ks (m.map (·.2)):=⟨m.map Gd,QX (h.JX p),(p.map Gd).trans q⟩
theorem Lg{P:Nat->Value->Prop}{acc:Array Value}{vs:List Value}(h:ItemsOf P acc vs.length)(hv:∀i v,i<vs.length->P i v->vs[i]?=some v):acc.toList=vs:=by
 refine fY λi=>?_
 rcases c5 i vs.length with z | z
 ·have hi:i<acc.size:=by rw[h.1]; exact z
  rw[Array.getElem?_toList,dz hi];exact(hv i _ z (h.2 i _ (dz hi))).symm
 ·rw[dF z,dF (by rw[dw,h.1]; exact z)]
theorem VG{ks:List Int}(hh:A.handled=none)(x:B8 prog w (Dz w) s.heap a ks)(hSs:S<s.heap.objs.size)(hSa:S≠a):
  wpAny (model prog w) A (pyIter (.ref a)) (λit s1=>∃(I:Addr) (h1:Heap) (d1:Drawn) (fp:List Addr) (P:Nat->Value->Prop) (St:Nat->Heap->Prop),it=.ref I/\s1={ s with heap:=h1,drawn:=d1 }/\Walks prog w A I fp [I] ks.length P St/\S∉fp/\St 0 h1/\(∀b o,s.heap.get? b=some o->h1.get? b=some o)/\s.heap.get? I=none/\∀acc,ItemsOf P acc ks.length->JK ks acc.toList) E s:=by
 obtain⟨o,es,ep,t,ho,hex,hd,hel,hp,hb,hf,ti⟩:=x;have sz:es.size=ks.length:=by rw[<-Array.length_toList,<-hp.length_eq,cf]
 have la:=cV ho;refine WQ ho hex hd hf (fits_of_scanBound hb) (λz=>?_) (λz ys d' yp=>?_)
 ·have aI:a≠s.heap.objs.size:=c8 la;have hSf:S∉[s.heap.objs.size,a]:=by simp only[cP,de,or_false,not_or]; exact⟨c8 hSs,hSa⟩
  have gI:(s.heap.push (Cw (.int 0 0) 0 a es.size ep)).get? s.heap.objs.size=some (Cw (.int 0 0) 0 a es.size ep):=cU _ rfl;have ga:=cj (Cw (.int 0 0) 0 a es.size ep) ho;cases hbt:w.params.followText "set-order" with
  | true =>
   have pp:=Lb (w.params.setOrder a ep) es;have ps:(pickOrder (w.params.setOrder a ep) es).size=es.size:=by rw[<-Array.length_toList,pp.length_eq,dw]
   refine⟨_,_,s.drawn,_,_,_,rfl,rfl,PL hh aI hd hf sz (λ_=>0) (λi=>((pickOrder (w.params.setOrder a ep) es).getD i (0,.none)).2) (λs' ho' i hi A' E' Q' q=>Vi hbt ho' hd hf ?_),hSf,⟨by rw[<-sz]; exact gI,ga⟩,λb ob e=>cj _ e,Heap.get?_none_of_le (cR _),λacc ha=>?_⟩
   ·rcases c5 i ks.length with y | y
    ·rw[if_pos y] at q;have e1:(pickOrder (w.params.setOrder a ep) es)[i]?=some ((pickOrder (w.params.setOrder a ep) es).getD i (0,.none)):=by rw[dD,dz (by omega)]; rfl
     rw[e1]; exact q
    ·rw[if_neg (by omega)] at q;rw[Array.getElem?_eq_none (by omega)]; exact q
   ·have lv:((pickOrder (w.params.setOrder a ep) es).toList.map (·.2)).length=ks.length:=by rw[cf,dw,ps,sz]
    rw[Lg (vs:=(pickOrder (w.params.setOrder a ep) es).toList.map (·.2)) (by rw[lv]; exact ha) (λi v hi e=>by
     rw[lv] at hi;rw[e,cu,Array.getElem?_toList,dD,dz (by omega)]; rfl)]
    exact L9 hel pp hp
  | false =>
   rw[hbt] at z;have z':(!t.plain && decide (es.size > 1))=false:=by simpa using z
   have ti':DM true t:=⟨by rw[ti.led]; show(!w.params.followText "set-order")=true; rw[hbt]; rfl,ti.NZ,ti.ord⟩;refine⟨_,_,s.drawn,_,_,_,rfl,rfl,PL hh aI hd hf sz (Dn t) (λi=>(es.getD i (0,.none)).2) (λs' ho' i hi A' E' Q' q=>WG hbt ho' hd hf ti' z' (by omega) (by rw[sz]; exact q)),hSf,⟨by rw[<-sz]; exact gI,ga⟩,λb ob e=>cj _ e,Heap.get?_none_of_le (cR _),λacc ha=>?_⟩;have lv:(es.toList.map (·.2)).length=ks.length:=by rw[cf,dw,sz]
   rw[Lg (vs:=es.toList.map (·.2)) (by rw[lv]; exact ha) (λi v hi e=>by
    rw[lv] at hi;rw[e,cu,Array.getElem?_toList,dD,dz (by omega)]; rfl)]
   exact L9 hel (List.Perm.refl _) hp
 ·have e1:(s.heap.push (GB ys)).objs.size=s.heap.objs.size+1:=eF ..;have aI:a≠s.heap.objs.size+1:=c8 (eY la);have tI:s.heap.objs.size≠s.heap.objs.size+1:=c8 (Nat.lt_succ_self _);have hSf:S∉[s.heap.objs.size+1,a,s.heap.objs.size]:=by simp only[cP,de,or_false,not_or]; exact⟨c8 (eY hSs),hSa,c8 hSs⟩
  have yp':ys.Perm (List.range ks.length):=by rw[<-sz]; exact yp
  have gI:((s.heap.push (GB ys)).push (Cw (.ref s.heap.objs.size) 0 a es.size ep)).get? (s.heap.objs.size+1)=some (Cw (.ref s.heap.objs.size) 0 a es.size ep):=by rw[<-e1]; exact cU _ rfl
  refine⟨_,_,d',_,_,_,rfl,rfl,Um (tp:=s.heap.objs.size) hh aI tI hd hf sz yp',hSf,⟨by rw[<-sz]; exact gI,cj _ (cj _ ho),cj _ (cU _ rfl)⟩,λb ob e=>cj _ (cj _ e),Heap.get?_none_of_le (Nat.le_succ _),λacc ha=>?_⟩;have ly:ys.length=ks.length:=by rw[yp'.length_eq,c7]
  have pm:(ys.filterMap λy=>es[y]?).Perm es.toList:=(yp.filterMap _).trans (by rw[filterMap_getElem?_range]);have em:∀l:List Nat,(∀y∈l,y<es.size)->l.filterMap (λy=>es[y]?)=l.map λy=>es.getD y (0,.none):=by
   intro l
   induction l with
   | nil=>intro _; rfl
   | cons y l ih =>
    intro hl;have e0:es[y]?=some (es.getD y (0,.none)):=by rw[dD,dz (hl y (by simp))]; rfl
    rw[List.filterMap_cons,e0,eJ];exact congrArg _ (ih λx hx=>hl x (by simp[hx]))
  rw[em ys λy hy=>cZ.mp (yp.mem_iff.mp hy)] at pm;have lv:((ys.map λy=>es.getD y (0,.none)).map (·.2)).length=ks.length:=by rw[cf,cf,ly]
  rw[Lg (vs:=(ys.map λy=>es.getD y (0,.none)).map (·.2)) (by rw[lv]; exact ha) (λi v hi e=>by
   obtain⟨y,q,e1,e2,rfl⟩:=e;rw[cu,cu,e1];show some (es.getD y (0,.none)).2=_;rw[dD,e2]; rfl)]
  exact L9 hel pm hp
end
end L2
namespace L2
open PySem PySem.Spec PyProof.Rows PySem.W
section
variable {prog:Program} {w:World} {A:Around} {E:Value->Shared->Prop} {s:Shared} {a:Addr}
theorem B8.keep{b:Bool}{h h':Heap}{ks:List Int}(x:B8 prog w b h a ks)(k:∀o,h.get? a=some o->h'.get? a=some o):B8 prog w b h' a ks:=by
 obtain⟨o,es,ep,t,ho,rest⟩:=x;exact⟨o,es,ep,t,k o ho,rest⟩
theorem B8.type{b:Bool}{ks:List Int}(x:B8 prog w b s.heap a ks):s.TypeIs (.ref a) "set":=by
 obtain⟨o,es,ep,t,ho,hex,_⟩:=x;exact⟨o,ho,hex.1⟩
theorem UO {R:List Value->Shared->Prop} {ks:List Int} (hh:A.handled=none) (x:B8 prog w (Dz w) s.heap a ks) (hn:ks.length<=sizeLine)
  (h:∀(h':Heap) (tk:Nat) (d':Drawn) (vs:List Value),(∀b o,s.heap.get? b=some o->h'.get? b=some o)->s.heap.objs.size<h'.objs.size->JK ks vs->R vs { s with heap:=h',toks:=tk,drawn:=d' }):wpAny (model prog w) A (collect (.ref a)) R E s:=by
 have la:a<s.heap.objs.size:=by
  obtain⟨o,_,_,_,ho,_⟩:=x;exact cV ho
 unfold collect; refine wpAny_bind (wpAny_runValue (codeAny_builtin entry_proto_collect' ?_)); rw[Around.under_plainId PySem.F.plain_proto_collect _];show wpAny _ A.in1 (newList [] >>= λl=>again (.builtin "list.__iadd__" ⟨[l,.ref a],[]⟩)) _ _ s;refine wpAny_bind (wpAny_newObj_type (wpAny_pure ⟨plainId_quiet PySem.F.plain_list_iadd _,codeAny_builtin entry_list_iadd' ?_⟩)); rw[Around.under_plainId PySem.F.plain_list_iadd _];have gS:(s.heap.push { cls:=.type "list",data:=.seq ([]:List Value).toArray }).get? s.heap.objs.size=some { cls:=.type "list",data:=.seq #[] }:=cU _ rfl;show wpAny _ A.in1 (Builtin.List.listExtendWith (.ref s.heap.objs.size) (.ref a) (.ref s.heap.objs.size)) _ _ _;have x1:B8 prog w (Dz w) (s.heap.push { cls:=.type "list",data:=.seq ([]:List Value).toArray }) a ks:=x.keep λo e=>cj _ e
 have ls:s.heap.objs.size<(s.heap.push { cls:=.type "list",data:=.seq ([]:List Value).toArray }).objs.size:=by rw[eF]; exact Nat.lt_succ_self _
 have go:=XB (A:=A) (s:={ s with heap:=s.heap.push { cls:=.type "list",data:=.seq ([]:List Value).toArray } }) (a:=a) (S:=s.heap.objs.size) (n:=ks.length) (Good:=JK ks) (res:=.ref s.heap.objs.size) (c₀:=0)
  (R:=λ(q:Result) (s':Shared)=>∃(h':Heap) (tk:Nat) (d':Drawn) (acc:Array Value) (c:Nat),q=.ok (.ret (.ref s.heap.objs.size))/\s'={ s with heap:=h',toks:=tk,drawn:=d' }/\(∀b o,s.heap.get? b=some o->h'.get? b=some o)/\h'.get? s.heap.objs.size=some { cls:=.type "list",dict:=none,data:=.seq acc c,slots:=#[] }/\JK ks acc.toList)
  (B8.type (s:={ s with heap:=s.heap.push { cls:=.type "list",data:=.seq ([]:List Value).toArray } }) x1) (fj la) gS hn (λE'=>VG (A:=A.in1) (s:={ s with heap:=s.heap.push { cls:=.type "list",data:=.seq ([]:List Value).toArray } }) hh x1 ls (fj la))
  (λh' tk d' acc c k1 k2 k3=>⟨h',tk,d',acc,c,rfl,rfl,λb o e=>k1 b o (c8 (cV e)) (cj _ e),k2,k3⟩)
 refine wpAny_mono go (λfin s' y=>?_) λe s' y=>?_
 ·cases fin with
  | done f =>
   obtain⟨h',tk,d',acc,c,e,rfl,k1,k2,k3⟩:=y;cases e;show wpAny _ A (load s.heap.objs.size >>= _) _ _ _;exact wpAny_bind (wpAny_load k2 (wpAny_pure (h h' tk d' acc.toList k1 (cV k2) k3)))
  | again c₁ =>
   refine⟨y.1,codeAny_mono y.2 λq s₂ y=>?_⟩;obtain⟨h',tk,d',acc,c,rfl,rfl,k1,k2,k3⟩:=y;show wpAny _ A (load s.heap.objs.size >>= _) _ _ _;exact wpAny_bind (wpAny_load k2 (wpAny_pure (h h' tk d' acc.toList k1 (cV k2) k3)))
 ·obtain⟨_,_,_,_,_,e',_⟩:=y;cases e'
theorem Ub {ks:List Int} {Q:Value->Shared->Prop} (hh:A.handled=none) (x:B8 prog w (Dz w) s.heap a ks) (h64:ks.length<64)
  (h:∀(D:Addr) (h':Heap) (tk:Nat) (d':Drawn) (out:Array Value) (e:Nat) (ms:List Int),(∀b o,s.heap.get? b=some o->h'.get? b=some o)->s.heap.objs.size<=D->h'.get? D=some (seqObj "list" out e)->IntsAre out.toList ms->ms.Perm ks->ms.Pairwise (·<=·)->Q (.ref D) { s with heap:=h',toks:=tk,drawn:=d' }) :
  wpAny (model prog w) A (call (.builtin "sorted") [.ref a]) Q E s:=by
 refine Calls.call_function_entry kind_sorted plain_sorted entry_sorted (args_sorted1 _) ?_; unfold Builtin.«sorted»;refine wpAny_bind (m:=checkCount "sorted" 1 1 _) (wpAny_pure (wpAny_bind (UO (A:=A.in1) hh x (by rw[sizeLine_eq]; omega) λh1 tk d1 vs k1 lh gd=>?_)));obtain⟨ns,hI,hP⟩:=gd;have lv:vs.length<64:=by rw[hI.length,hP.length_eq]; exact h64
 refine wpAny_bind (wpAny_newList ?_ (by rw[sizeLine_eq]; omega));have hL:(h1.push (seqObj "list" vs.toArray 0)).get? h1.objs.size=some (seqObj "list" vs.toArray 0):=cU _ rfl;refine wpAny_bind (wpAny_holding (wpAny_call_entry slot_list_sort ⟨_,hL,rfl⟩ entry_list_sort (list_sort_tree hL hI lv λout ns' a1 a2 a3=>⟨_,rfl,wpAny_pure ⟨_,rfl,?_⟩⟩) (args_list_sort _)));obtain⟨e,he⟩:=sortedHeap_at (out:=out) hL;refine h _ _ _ d1 out e ns' (λb o eb=>?_) (Nat.le_of_lt lh) he a1 (a2.trans hP) a3;have g1:=k1 b o eb;rw[sortedHeap_old (c8 (cV g1)) (by rw[eF]; exact eY (cV g1))];exact cj _ g1
end
section
variable {X:Cx}
theorem Vv{pins:List (Addr×Obj)}{σ:St}{H:Hp}{s:Shared}(I:AI X pins σ H s)(d:Drawn):AI X pins σ H { s with drawn:=d }:=⟨I.ok,I.os,I.bare,I.base,I.Co,I.cell,I.free,I.Dw,I.pin,I.hok,I.len⟩
def D3(P:Program)(w:World)(a:Addr)(ks:List Int):HO:=.ext λh=>B8 P w (Dz w) h a ks
theorem Xb{P:Program}{w:World}{H:Hp}{h:Heap}{a:Addr}{ks:List Int}(x:B8 P w (Dz w) h a ks):A9 P w H h a (D3 P w a ks) :=
 ⟨x,let ⟨o,_,_,_,ho,_⟩:=x; ⟨o,ho⟩,λ_ _ y k=>y.keep λo e=>k o e⟩
theorem Vp(hc:X.BS=true):CT X (.type "set") (λxs H Q=>∃(p:Addr) (ns:List Int),xs=[.ref p]/\AJ X.K H p (ns.map V.int)/\ns.length<=1000/\∀a,H a=none->Q (.ref a) (AE H a (D3 X.prog X.w a (BY ns)))):=by
 intro pins s σ H xs us Q I r h;obtain⟨p,ns,rfl,hp,hl,q⟩:=h;obtain⟨u,rfl,r1⟩:=Ey r;cases r1;obtain⟨its,rv,pl,_⟩:=I.list hp;have hlen:its.length=ns.length:=by rw[<-rv.length,cf]
 refine U5 (I.ok.hd hc) pl.isList (ns:=ns) (by simpa using Jo rv) (by rw[cx,hlen]; unfold scanBound; omega) λh' tk x k=>?_
 have hn:H s.heap.objs.size=none:=I.hok.fresh (cR _);exact⟨.ref s.heap.objs.size,_,I.laid (t':=tk) (λb u e=>k b u e) (cR _) (Xb x),rfl,q _ hn⟩
theorem Uc(hc:X.BS=true):CT X (.builtin "sorted") (λxs H Q=>∃(a:Addr) (ks:List Int),xs=[.ref a]/\H a=some (D3 X.prog X.w a ks)/\ks.length<64/\∀(l:Addr) (ms:List Int),H l=none->ms.Perm ks->ms.Pairwise (·<=·)->Q (.ref l) (AE H l (.AD (ms.map V.int)))):=by
 intro pins s σ H xs us Q I r h;obtain⟨a,ks,rfl,ha,h64,q⟩:=h;obtain⟨u,rfl,r1⟩:=Ey r;cases r1;have x:B8 X.prog X.w (Dz X.w) s.heap a ks:=(I.hok a _ ha).1;refine Ub (I.ok.hd hc) x h64 λD h' tk d' out e ms k hD he a1 a2 a3=>?_
 have hz:(ms.map V.int).length<=sizeLine:=by rw[cf,a2.length_eq,sizeLine_eq]; omega
 have hn:H D=none:=I.hok.fresh hD;exact⟨.ref D,_,Vv (I.laid (t':=tk) (λb u e=>k b u e) hD (show A9 X.prog X.w _ _ _ (.AD (ms.map V.int)) from ⟨hz,out.toList,e,XJ a1,he⟩)) d',rfl,q _ ms hn a2 a3⟩
end
section
variable {prog:Program} {w:World} {A:Around} {E:Value->Shared->Prop} {s:Shared}
theorem Wi{a:Addr}{n:Nat}{P:PySem.Fin->Shared->Prop}{vs:List Value}(ho:s.heap.get? a=some (seqObj "list" vs.toArray n))(hl:vs.length<2)(h:P (.done (.ret .none)) { s with heap:=sortedHeap s.heap a vs vs.toArray }):
  wpAny (model prog w) A (Builtin.«list.sort» ⟨[.ref a],[]⟩) P E s:=by
 rw[list_sort_plain];have ha:a<s.heap.objs.size:=cV ho;refine wpAny_bind (listItems_at ho rfl ?_);refine wpAny_bind (listUpdate_at ho rfl ?_ (by rw[sizeLine_eq,cx]; omega) (dk _));obtain⟨e1,ho1⟩:∃e1,(s.heap.update a (Obj.mapSeq λ_=>#[])).get? a=some (seqObj "list" #[] e1):=⟨_,get?_update_seq ho (λ_=>#[])⟩;refine wpAny_bind (seqEpoch_at ho1 rfl ?_);refine wpAny_bind (wpAny_newTuple ?_ (by rw[sizeLine_eq]; simp; omega));refine wpAny_bind (wpAny_newList ?_ (dk _));refine wpAny_holding ?_;have ho6:(((s.heap.update a (Obj.mapSeq λ_=>#[])).push (seqObj "tuple" vs.toArray 0)).push (seqObj "list" #[] 0)).get? a=some (seqObj "list" #[] e1):=cj _ (cj _ ho1);show wpAny (model prog w) A _ P E { s with heap:=((s.heap.update a (Obj.mapSeq λ_=>#[])).push (seqObj "tuple" vs.toArray 0)).push (seqObj "list" #[] 0) };dsimp only;have h2:vs.toArray.size<2:=by simpa using hl
 rw[if_pos h2,if_pos h2];refine wpAny_bind (wpAny_pure ?_);rw[StateT.run_pure];refine wpAny_bind (wpAny_pure ?_);dsimp only;have em:(arrOf (SortSt.mk' general' (vs.toArray.zip vs.toArray) #[] 7 none)).map (·.2)=vs.toArray:=by
  show(vs.toArray.zip vs.toArray).map (·.2)=vs.toArray
  match vs,hl with
  | [],_=>simp
  | [v],_=>simp
 rw[em];refine wpAny_bind (seqEpoch_at ho6 rfl ?_);refine wpAny_bind (listUpdate_at ho6 rfl ?_ (dk _) (by rw[cx,sizeLine_eq]; omega));simp only[bne_self_eq_false,ft,if_false];exact wpAny_pure h
theorem VJ {l:Addr} {vs:List Value} {Q:Value->Shared->Prop} (hl:s.heap.IsList l vs.toArray) (h64:vs.length<64)
  (h:∀s':Shared,(∀b o,s.heap.get? b=some o->s'.heap.get? b=some o)->s'.heap.objs.size=s.heap.objs.size+2->s'.heap.get? (s.heap.objs.size+1)=some (seqObj "list" vs.toArray 0)->s'={ s with heap:=s'.heap } →
   wpAny (model prog w) A.in1.in1 (Builtin.«list.sort» ⟨[.ref (s.heap.objs.size+1)],[]⟩) (λf s''=>f=.done (.ret .none)/\Q (.ref (s.heap.objs.size+1)) s'') E s'):wpAny (model prog w) A (call (.builtin "sorted") [.ref l]) Q E s:=by
 refine Calls.call_function_entry kind_sorted plain_sorted entry_sorted (args_sorted1 _) ?_;unfold Builtin.«sorted»;refine wpAny_bind (m:=checkCount "sorted" 1 1 _) (wpAny_pure ?_);refine wpAny_bind (collect_list hl ?_ (by rw[sizeLine_eq]; omega));refine wpAny_bind (wpAny_newList ?_ (by rw[sizeLine_eq]; omega));have sz:((s.heap.push (seqObj "list" #[] 0)).update s.heap.objs.size (Obj.mapSeq (·++vs.toArray))).objs.size=s.heap.objs.size+1:=by rw[Heap.size_update,size_push']
 have hL:(((s.heap.push (seqObj "list" #[] 0)).update s.heap.objs.size (Obj.mapSeq (·++vs.toArray))).push (seqObj "list" vs.toArray 0)).get? (s.heap.objs.size+1)=some (seqObj "list" vs.toArray 0):=by rw[<-sz]; exact cU _ rfl
 show wpAny _ _ _ _ _ { s with heap:=((s.heap.push (seqObj "list" #[] 0)).update s.heap.objs.size (Obj.mapSeq (·++vs.toArray))).push (seqObj "list" vs.toArray 0) };rw[sz];have keep:∀b o,s.heap.get? b=some o->(((s.heap.push (seqObj "list" #[] 0)).update s.heap.objs.size (Obj.mapSeq (·++vs.toArray))).push (seqObj "list" vs.toArray 0)).get? b=some o:=λb o q=>by
  have hlt:b<s.heap.objs.size:=cV q;rw[Heap.get?_push_ne _ _ _ (by rw[sz]; exact c8 (eY hlt)),fQ _ _ _ _ (c8 hlt),Heap.get?_push_ne _ _ _ (c8 hlt)];exact q
 refine wpAny_bind (wpAny_holding (wpAny_call_entry slot_list_sort ⟨_,hL,rfl⟩ entry_list_sort (wpAny_mono (h _ keep (by rw[size_push',sz]) hL rfl) ?_ λ_ _ e=>e) (args_list_sort _)));rintro f s'' ⟨rfl,hq⟩;exact⟨_,rfl,wpAny_pure ⟨_,rfl,hq⟩⟩
theorem sortedHeap_old{h:Heap}{a:Addr}{vs:List Value}{out:Array Value}{b:Addr}{o:Obj}(hb:b≠a)(e:h.get? b=some o):(sortedHeap h a vs out).get? b=some o:=by
 unfold sortedHeap;rw[fQ _ _ _ _ hb];refine cj _ (cj _ ?_);rw[fQ _ _ _ _ hb]; exact e
theorem sortedHeap_at{h:Heap}{a:Addr}{vs:List Value}{out:Array Value}{n:Nat}(ho:h.get? a=some (seqObj "list" vs.toArray n)):∃e,(sortedHeap h a vs out).get? a=some (seqObj "list" out e):=by
 obtain⟨e1,ho1⟩:∃e1,(h.update a (Obj.mapSeq λ_=>#[])).get? a=some (seqObj "list" #[] e1):=⟨_,get?_update_seq ho (λ_=>#[])⟩;exact⟨_,get?_update_seq (cj _ (cj _ ho1)) (λ_=>out)⟩
end
section
variable {X:Cx}
theorem Ik:∀{bs:List Addr} {us:List Value},AX (bs.map V.ref) us->us=bs.map Value.ref
 | [],_,.nil=>rfl
 | b :: r,_,.cons (b:=u) h t=>by
  have h':u=Value.ref b:=h;rw[h',Ik t];rfl
theorem Od:∀(bs:List Addr),AX (bs.map V.ref) (bs.map Value.ref)
 | []=>.nil
 | b :: r=>.cons rfl (Od r)
end
structure HP(n:Nat)(lt:Nat->Nat->Bool):Prop where
 F0:∀i j,lt i j=true->lt j i=false
 trans:∀i j k,lt i j=true->lt j k=true->lt i k=true
 Np:∀i j,i<n->j<n->i≠j->lt i j=true\/lt j i=true
section
variable {n:Nat} {lt:Nat->Nat->Bool} {cmp:Nat->Nat->(Bool->Shared->Prop)->Shared->Prop} {s:Shared} {p:Array Nat}
structure Az(n:Nat)(p:Array Nat):Prop where
 pm:p.toList.Perm (List.range n)
 sz:p.size=n
 below:∀k,k<n->p.getD k 0<n
 inj:∀i j,i<n->j<n->p.getD i 0=p.getD j 0->i=j
def Ed(lt:Nat->Nat->Bool)(p:Array Nat)(m:Nat):Prop:=∀i j,i<j->j<m->lt (p.getD i 0) (p.getD j 0)=true
def Nj(lt:Nat->Nat->Bool)(p:Array Nat)(m:Nat):Prop:=∀i j,i<j->j<m->lt (p.getD j 0) (p.getD i 0)=true
theorem XT{k:Nat}(h:k<p.size):p[k]?=some (p.getD k 0):=by
 rw[dz h]; simp[h]
theorem El{q:Array Nat}{k j:Nat}(hj:j<p.size)(e:q[k]?=p[j]?):q.getD k 0=p.getD j 0:=by
 rw[XT hj] at e;simp only[dD,e];rfl
theorem LP{q:Array Nat}(g:Az n p)(hq:q.Perm p)(hs:q.size=p.size)(f:Nat->Nat)(ff:∀k,k<n->f k<n)(fi:∀i j,i<n->j<n->f i=f j->i=j)(e:∀k,k<n->q.getD k 0=p.getD (f k) 0):Az n q :=
 ⟨(Array.perm_iff_toList_perm.mp hq).trans g.pm,by rw[hs,g.sz],λk hk=>by rw[e k hk]; exact g.below _ (ff k hk),λi j hi hj h=>by
  rw[e i hi,e j hj] at h;exact fi i j hi hj (g.inj _ _ (ff i hi) (ff j hj) h)⟩
theorem HC(g:Az n p){m:Nat}(hm:m<=n){k:Nat}(hk:k<n):(kas_rev p 0 m).getD k 0=p.getD (if k<m then m-1-k else k) 0:=by
 have e:=getElem?_mirror_all (xs:=p) (i:=0) (j:=m) (by rw[g.sz]; exact hm) k;unfold kas_rev;split
 ·rename_i h
  rw[if_pos ⟨dk _,h⟩,Nat.zero_add] at e;exact El (by rw[g.sz]; omega) e
 ·rename_i h
  rw[if_neg (λz=>h z.2)] at e;exact El (by rw[g.sz]; omega) e
theorem Lk(g:Az n p){m:Nat}(hm:m<=n):Az n (kas_rev p 0 m) :=
 LP g (mirror_perm _ _ _ _) (mirror_size _ _ _ _) (λk=>if k<m then m-1-k else k) (λk hk=>by (try dsimp only); split <;> omega) (λi j hi hj h=>by
  try dsimp only at h
  split at h <;> split at h <;> omega) λk hk=>HC g hm hk
theorem YO(g:Az n p){m:Nat}(hm:m<=n)(d:Nj lt p m):Ed lt (kas_rev p 0 m) m:=λi j hij hj=>by
 rw[HC g hm (by omega),HC g hm (by omega),if_pos (by omega),if_pos hj];exact d _ _ (by omega) (by omega)
theorem Iz(g:Az n p){k l:Nat}(hk:k<n)(hl:l<=k){i:Nat}(hi:i<n):(bubble p k (k-l)).getD i 0=p.getD (if i=l then k else if l<i/\i<=k then i-1 else i) 0:=by
 have e:=getElem?_bubble (xs:=p) (src:=k) (by rw[g.sz]; exact hk) (k-l) (by omega) i;rw[show k-(k-l)=l by omega] at e;split
 ·rename_i h
  rw[if_pos h] at e;exact El (by rw[g.sz]; omega) e
 ·rename_i h
  rw[if_neg h] at e;split
  ·rename_i h2
   rw[if_pos h2] at e;exact El (by rw[g.sz]; omega) e
  ·rename_i h2
   rw[if_neg h2] at e;exact El (by rw[g.sz]; omega) e
theorem PK(g:Az n p){k l:Nat}(hk:k<n)(hl:l<=k):Az n (bubble p k (k-l)) :=
 LP g (bubble_perm _ _ _) (bubble_size _ _ _) (λi=>if i=l then k else if l<i/\i<=k then i-1 else i) (λi hi=>by (try dsimp only); split <;> (try split) <;> omega) (λi j hi hj h=>by
  try dsimp only at h
  split at h <;> split at h <;> (try split at h) <;> (try split at h) <;> omega) λi hi=>Iz g hk hl hi
theorem MC(hc:∀i j C,i<n->j<n->C (lt i j) s->cmp i j C s)(g:Az n p)(L:HP n lt):∀(f a:Nat) {Q:Nat->Shared->Prop},1<=a->a+f<=n->Ed lt p a →
  (∀m,a<=m->m<=a+f->Ed lt p m->(m=a+f\/lt (p.getD m 0) (p.getD (m-1) 0)=true)->Q m s)->(kas_asc p f a).kasWp cmp Q s
 | 0,a,Q,_,_,u,q=>q a (cR _) (cR _) u (.inl rfl)
 | f+1,a,Q,a1,af,u,q=>by
  show cmp _ _ _ s;refine hc _ _ _ (g.below _ (by omega)) (g.below _ (by omega)) ?_;cases e:lt (p.getD a 0) (p.getD (a-1) 0) with
  | true=>exact q a (cR _) (by omega) u (.inr e)
  | false =>
   refine MC hc g L f (a+1) (by omega) (by omega) (λi j hij hj=>?_) (λm h1 h2 h3 h4=>q m (by omega) (by omega) h3 (by rcases h4 with z | z; exact .inl (by omega); exact .inr z));have st:lt (p.getD (a-1) 0) (p.getD a 0)=true:=by
    rcases L.Np _ _ (g.below a (by omega)) (g.below (a-1) (by omega)) (λz=>by have:=g.inj _ _ (by omega) (by omega) z; omega) with z | z
    ·rw[z] at e; cases e
    ·exact z
   rcases c5 j a with z | z
   ·exact u i j hij z
   ·obtain rfl:j=a:=by omega
    rcases c5 i (j-1) with y | y
    ·exact L.trans _ _ _ (u i (j-1) y (by omega)) st
    ·obtain rfl:i=j-1:=by omega
     exact st
theorem Py(hc:∀i j C,i<n->j<n->C (lt i j) s->cmp i j C s)(g:Az n p)(L:HP n lt):∀(f a:Nat) {Q:Array Nat×Nat×Nat->Shared->Prop},1<=a->a+f<=n->Nj lt p a →
  (∀m,a<=m->m<=a+f->Nj lt p m->Q (p,m,0) s)->(kas_desc f p a 0).kasWp cmp Q s
 | 0,a,Q,_,_,u,q=>q a (cR _) (cR _) u
 | f+1,a,Q,a1,af,u,q=>by
  show cmp _ _ _ s;refine hc _ _ _ (g.below _ (by omega)) (g.below _ (by omega)) ?_;cases e:lt (p.getD a 0) (p.getD (a-1) 0) with
  | true =>
   show(kas_desc f p (a+1) 0).kasWp cmp Q s;refine Py hc g L f (a+1) (by omega) (by omega) (λi j hij hj=>?_) (λm h1 h2 h3=>q m (by omega) (by omega) h3);rcases c5 j a with z | z
   ·exact u i j hij z
   ·obtain rfl:j=a:=by omega
    rcases c5 i (j-1) with y | y
    ·exact L.trans _ _ _ e (u i (j-1) y (by omega))
    ·obtain rfl:i=j-1:=by omega
     exact e
  | false =>
   have st:lt (p.getD (a-1) 0) (p.getD a 0)=true:=by
    rcases L.Np _ _ (g.below a (by omega)) (g.below (a-1) (by omega)) (λz=>by have:=g.inj _ _ (by omega) (by omega) z; omega) with z | z
    ·rw[z] at e; cases e
    ·exact z
   show cmp _ _ _ s;refine hc _ _ _ (g.below _ (by omega)) (g.below _ (by omega)) ?_;rw[st];exact q a (cR _) (by omega) u
theorem W4(hc:∀i j C,i<n->j<n->C (lt i j) s->cmp i j C s)(g:Az n p)(L:HP n lt)(h2:2<=n){Q:Nat×Array Nat->Shared->Prop}(q:∀m p',1<=m->m<=n->Az n p'->Ed lt p' m->Q (m,p') s):(kas_count n p).kasWp cmp Q s:=by
 unfold kas_count;rw[fH];refine MC hc g L (n-1) 1 (cR _) (by omega) (λi j h1 h2=>by omega) λm m1 mn u st=>?_
 try dsimp only
 by_cases e:m=n
 ·rw[if_pos (by rw[e]; exact beq_self_eq_true n)];exact q m p m1 (by omega) g u
 rw[if_neg (by intro z; exact e (by simpa using z))];by_cases e1:m > 1
 ·rw[if_pos e1];show cmp _ _ _ s;refine hc _ _ _ (g.below _ (by omega)) (g.below _ (by omega)) ?_;rw[u 0 (m-1) (by omega) (by omega)];exact q m p m1 (by omega) g u
 rw[if_neg e1];obtain rfl:m=1:=by omega
 have fall:lt (p.getD 1 0) (p.getD 0 0)=true:=by
  rcases st with z | z
  ·omega
  ·exact z
 unfold kas_descPart;rw[fH];refine Py hc g L (n-(1+1)) (1+1) (by omega) (by omega) (λi j h1 h2=>?_) λm m1 mn d=>?_
 ·obtain rfl:j=1:=by omega
  obtain rfl:i=0:=by omega
  exact fall
 try dsimp only
 rw[if_neg (fB 0)];unfold kas_tail3;rw[fH];have gr:=Lk g (m:=m) (by omega);refine MC hc gr L (n-m) m (by omega) (by omega) (YO g (by omega) d) λm' h1 h2 u' _=>?_
 exact q m' _ (by omega) (by omega) gr u'
theorem Lv(hc:∀i j C,i<n->j<n->C (lt i j) s->cmp i j C s)(g:Az n p)(L:HP n lt){k:Nat}(hk:k<n)(u:Ed lt p k):∀(f l r:Nat) {Q:Nat->Shared->Prop},l<=r->r<=k->r-l<=f->(∀i,i<l->lt (p.getD i 0) (p.getD k 0)=true)->(∀i,r<=i->i<k->lt (p.getD k 0) (p.getD i 0)=true) →
  (∀m,m<=k->(∀i,i<m->lt (p.getD i 0) (p.getD k 0)=true)->(∀i,m<=i->i<k->lt (p.getD k 0) (p.getD i 0)=true)->Q m s)->(kas_place p k f l r).kasWp cmp Q s
 | 0,l,r,Q,lr,rk,hf,a,b,q=>by
  obtain rfl:l=r:=by omega
  exact q l rk a b
 | f+1,l,r,Q,lr,rk,hf,a,b,q=>by
  unfold kas_place;by_cases h:l ≥ r
  ·rw[if_pos h];obtain rfl:l=r:=by omega
   exact q l rk a b
  rw[if_neg h];show cmp _ _ _ s;refine hc _ _ _ (g.below _ (by omega)) (g.below _ (by omega)) ?_;cases e:lt (p.getD k 0) (p.getD ((l+r) / 2) 0) with
  | true =>
   refine Lv hc g L hk u f l ((l+r) / 2) (by omega) (by omega) (by omega) a (λi h1 h2=>?_) q;rcases c5 ((l+r) / 2) i with z | z
   ·exact L.trans _ _ _ e (u _ _ z h2)
   ·obtain rfl:i=(l+r) / 2:=by omega
    exact e
  | false =>
   have st:lt (p.getD ((l+r) / 2) 0) (p.getD k 0)=true:=by
    rcases L.Np _ _ (g.below k hk) (g.below ((l+r) / 2) (by omega)) (λz=>by have:=g.inj _ _ hk (by omega) z; omega) with z | z
    ·rw[z] at e; cases e
    ·exact z
   refine Lv hc g L hk u f ((l+r) / 2+1) r (by omega) rk (by omega) (λi hi=>?_) b q;rcases c5 i ((l+r) / 2) with z | z
   ·exact L.trans _ _ _ (u _ _ z (by omega)) st
   ·obtain rfl:i=(l+r) / 2:=by omega
    exact st
theorem Qo(hc:∀i j C,i<n->j<n->C (lt i j) s->cmp i j C s)(L:HP n lt):∀(f k:Nat) (p:Array Nat) {Q:Array Nat->Shared->Prop},Az n p->k+f=n->Ed lt p k->(∀p',Az n p'->Ed lt p' n->Q p' s)->(kas_bin f p k).kasWp cmp Q s
 | 0,k,p,Q,g,e,u,q=>by
  obtain rfl:k=n:=by omega
  exact q p g u
 | f+1,k,p,Q,g,e,u,q=>by
  unfold kas_bin;rw[fH];refine Lv hc g L (show k<n by omega) u k 0 k (dk _) (cR _) (by omega) (λi hi=>by omega) (λi h1 h2=>by omega) λl lk ha hb=>?_
  refine Qo hc L f (k+1) _ (PK g (by omega) lk) (by omega) (λi j hij hj=>?_) q;rw[Iz g (by omega) lk (by omega),Iz g (by omega) lk (by omega)];by_cases ei:i=l
  ·rw[if_pos ei,if_neg (by omega),if_pos (by omega)];exact hb _ (by omega) (by omega)
  ·rw[if_neg ei];by_cases ej:j=l
   ·rw[if_neg (by omega),if_pos ej];exact ha _ (by omega)
   ·rw[if_neg ej];by_cases z1:l<i/\i<=k
    ·rw[if_pos z1,if_pos (by omega)];exact u _ _ (by omega) (by omega)
    ·rw[if_neg z1];by_cases z2:l<j/\j<=k
     ·rw[if_pos z2];exact u _ _ (by omega) (by omega)
     ·rw[if_neg z2];exact u _ _ hij (by omega)
theorem Xg(hc:∀i j C,i<n->j<n->C (lt i j) s->cmp i j C s)(L:HP n lt)(h2:2<=n){Q:Array Nat->Shared->Prop}(q:∀p,Az n p->Ed lt p n->Q p s):(kas_sort n).kasWp cmp Q s:=by
 unfold kas_sort;rw[fH];have g0:Az n (List.toArray (List.range n)):=by
  have e:∀k,k<n->(List.toArray (List.range n)).getD k 0=k:=λk hk=>by
   simp[dD,hk]
  exact⟨List.Perm.refl _,by simp,λk hk=>by rw[e k hk]; exact hk,λi j hi hj z=>by rwa [e i hi,e j hj] at z⟩
 refine W4 hc g0 L h2 λm p' m1 mn g u=>?_
 try dsimp only
 by_cases h:m<n
 ·rw[if_pos h,show max m 1=m by omega];exact Qo hc L (n-m) m p' g (by omega) u q
 ·rw[if_neg h];obtain rfl:m=n:=by omega
  exact q p' g u
def Al:List Int->List Int->Bool
 | [],[]=>false
 | [],_ :: _=>true
 | _ :: _,[]=>false
 | x :: xs,y :: ys=>if x=y then Al xs ys else decide (x<y)
theorem Gx:∀{a b:List Int},Al a b=true->Al b a=false
 | [],[],h=>by cases h
 | [],_ :: _,_=>rfl
 | _ :: _,[],h=>by cases h
 | x :: xs,y :: ys,h=>by
  unfold Al at h ⊢;by_cases e:x=y
  ·rw[if_pos e] at h; rw[if_pos e.symm]; exact Gx h
  ·rw[if_neg e] at h; rw[if_neg (λz=>e z.symm)]
   have:=decide_eq_true_iff.mp h
   exact decide_eq_false (by omega)
theorem Jm:∀{a b c:List Int},Al a b=true->Al b c=true->Al a c=true
 | [],[],_,h,_=>by cases h
 | [],_ :: _,[],_,h=>by cases h
 | [],_ :: _,_ :: _,_,_=>rfl
 | _ :: _,[],_,h,_=>by cases h
 | _ :: _,_ :: _,[],_,h=>by cases h
 | x :: xs,y :: ys,z :: zs,h,g=>by
  unfold Al at h g ⊢;by_cases e:x=y
  ·rw[if_pos e] at h;by_cases e2:y=z
   ·rw[if_pos e2] at g; rw[if_pos (e.trans e2)]; exact Jm h g
   ·rw[if_neg e2] at g; rw[if_neg (λq=>e2 (e.symm.trans q)),e]; exact g
  ·rw[if_neg e] at h;have h':=decide_eq_true_iff.mp h;by_cases e2:y=z
   ·rw[if_neg (λq=>e (q.trans e2.symm)),<-e2]; exact h
   ·rw[if_neg e2] at g;have g':=decide_eq_true_iff.mp g;rw[if_neg (by omega)]; exact decide_eq_true (by omega)
theorem J5:∀{a b:List Int},a≠b->Al a b=true\/Al b a=true
 | [],[],h=>absurd rfl h
 | [],_ :: _,_=>.inl rfl
 | _ :: _,[],_=>.inr rfl
 | x :: xs,y :: ys,h=>by
  unfold Al;by_cases e:x=y
  ·rw[if_pos e,if_pos e.symm]; exact J5 λz=>h (by rw[e,z])
  ·rw[if_neg e,if_neg (λz=>e z.symm)];rcases Int.lt_trichotomy x y with z | z | z
   ·exact .inl (decide_eq_true z)
   ·exact absurd z e
   ·exact .inr (decide_eq_true z)
theorem Z7{rows:List (List Int)}(nd:rows.Nodup):HP rows.length λi j=>Al (rows.getD i []) (rows.getD j []):=by
 have g:∀i (h:i<rows.length),rows.getD i []=rows[i]:=λi h=>by simp[h]
 refine⟨λi j h=>Gx h,λi j k h1 h2=>Jm h1 h2,λi j hi hj ne=>J5 ?_⟩;rw[g i hi,g j hj];intro z;exact ne ((List.getElem_inj nd).mp z)
variable {prog:Program} {w:World} {A:Around} {E:Value->Shared->Prop}
theorem Lm{b:Bool}{Q:Bool->Shared->Prop}:∀{xs ys:List Value} {ns ms:List Int} (i:Nat),IntsAre xs ns->IntsAre ys ms->Q (Al ns ms) s->KatLex prog w A b (decide (xs.length<ys.length)) Q (xs.zip ys) i s
 | [],[],_,_,i,hx,hy,h=>by
  cases hx; cases hy;exact kat_nil h
 | [],_ :: _,_,_,i,hx,hy,h=>by
  cases hx;cases hy with
  | cons=>exact kat_nil h
 | _ :: _,[],_,_,i,hx,hy,h=>by
  cases hy;cases hx with
  | cons=>exact kat_nil h
 | x :: xs,y :: ys,_,_,i,hx,hy,h=>by
  cases hx with
  | @cons m t _ ns' hx' =>
  cases hy with
  | @cons m' t' _ ms' hy' =>
  refine kat_cons (wpAny_eqBool_int ?_);have el:decide ((Value.int m t :: xs).length<(Value.int m' t' :: ys).length)=decide (xs.length<ys.length):=by
   rw[decide_eq_decide]; simp
  rw[el];unfold Al at h;refine kat_go (λe=>kat_yes (Lm (i+1) hx' hy' ?_)) (λe=>kat_no ?_)
  ·rw[if_pos (by simpa using e)] at h; exact h
  ·rw[if_neg (by simpa using e)] at h;cases e2:(b && i == 0) with
   | true=>exact oneLt_int h
   | false=>exact kat_one _ _ (lt_int h)
def IC(h:Heap)(bs:List Addr)(rows:List (List Int)):Prop:=bs.length=rows.length/\∀(i:Nat) (b:Addr) (r:List Int),bs[i]?=some b->rows[i]?=some r->r≠[]/\∃xs:List Value,IsTup h b xs.toArray/\IntsAre xs r
theorem IC.MI{h:Heap}:∀{bs:List Addr} {rows:List (List Int)},IC h bs rows->∃fs:List Value,KatTups h (bs.map Value.ref) fs/\fs.length=bs.length/\∀v∈fs,∃i t,v=Value.int i t
 | [],rows,x=>⟨[],.nil,rfl,λv hv=>by cases hv⟩
 | b :: bs,[],x=>by have:=x.1; cases this
 | b :: bs,r :: rows,x=>by
  obtain⟨ne,xs,⟨o,e1,e2,n,e3⟩,hi⟩:=x.2 0 b r rfl rfl;obtain⟨fs,k,l,t⟩:=IC.MI (bs:=bs) (rows:=rows) ⟨by have:=x.1; simpa using this,λi b' r' h1 h2=>x.2 (i+1) b' r' (by simpa using h1) (by simpa using h2)⟩;cases hi with
  | nil=>exact absurd rfl ne
  | @cons m tk vs' ns' hr =>
   refine⟨.int m tk :: fs,.cons e1 e2 e3 (by simp) k,by simp[l],λv hv=>?_⟩;rcases cP.mp hv with rfl | hv
   ·exact⟨_,_,rfl⟩
   ·exact t v hv
theorem VT {a:Addr} {n:Nat} {P:PySem.Fin->Shared->Prop} {bs:List Addr} {rows:List (List Int)} (ho:s.heap.get? a=some (seqObj "list" (bs.map Value.ref).toArray n)) (hR:IC s.heap bs rows) (na:∀b∈bs,b≠a) (nd:rows.Nodup) (h2:2<=bs.length) (h64:bs.length<64)
  (h:∀p:Array Nat,Az rows.length p->Ed (λi j=>Al (rows.getD i []) (rows.getD j [])) p rows.length->P (.done (.ret .none)) { s with heap:=sortedHeap s.heap a (bs.map Value.ref) (p.toList.map λi=>(bs.map Value.ref).getD i Value.none).toArray }) :
  wpAny (model prog w) A (Builtin.«list.sort» ⟨[.ref a],[]⟩) P E s:=by
 rw[list_sort_plain];have ha:a<s.heap.objs.size:=cV ho;have lb:(bs.map Value.ref).length=bs.length:=cf ..;refine wpAny_bind (listItems_at ho rfl ?_);refine wpAny_bind (listUpdate_at ho rfl ?_ (by rw[sizeLine_eq,cx]; omega) (dk _));obtain⟨e1,ho1⟩:∃e1,(s.heap.update a (Obj.mapSeq λ_=>#[])).get? a=some (seqObj "list" #[] e1):=⟨_,get?_update_seq ho (λ_=>#[])⟩;refine wpAny_bind (seqEpoch_at ho1 rfl ?_);refine wpAny_bind (wpAny_newTuple ?_ (by rw[sizeLine_eq]; simp; omega));refine wpAny_bind (wpAny_newList ?_ (dk _));refine wpAny_holding ?_;have keepT:∀{c:Addr} {o:Obj},c≠a->s.heap.get? c=some o->(((s.heap.update a (Obj.mapSeq λ_=>#[])).push (seqObj "tuple" (bs.map Value.ref).toArray 0)).push (seqObj "list" #[] 0)).get? c=some o:=λ{c o} hc e=>by
  refine cj _ (cj _ ?_);rw[fQ _ _ _ _ hc]; exact e
 have ho6:(((s.heap.update a (Obj.mapSeq λ_=>#[])).push (seqObj "tuple" (bs.map Value.ref).toArray 0)).push (seqObj "list" #[] 0)).get? a=some (seqObj "list" #[] e1):=cj _ (cj _ ho1);show wpAny (model prog w) A _ P E { s with heap:=((s.heap.update a (Obj.mapSeq λ_=>#[])).push (seqObj "tuple" (bs.map Value.ref).toArray 0)).push (seqObj "list" #[] 0) };have eS:sortedHeap s.heap a (bs.map Value.ref)=λout=>(((s.heap.update a (Obj.mapSeq λ_=>#[])).push (seqObj "tuple" (bs.map Value.ref).toArray 0)).push (seqObj "list" #[] 0)).update a (Obj.mapSeq λ_=>out):=rfl
 rw[eS] at h;have hR1:IC (((s.heap.update a (Obj.mapSeq λ_=>#[])).push (seqObj "tuple" (bs.map Value.ref).toArray 0)).push (seqObj "list" #[] 0)) bs rows:=⟨hR.1,λi b r h1 h2=>by
  obtain⟨ne,xs,⟨o,e1,e2⟩,hi⟩:=hR.2 i b r h1 h2;exact⟨ne,xs,⟨o,keepT (na b (cq h1)) e1,e2⟩,hi⟩⟩
 generalize ((s.heap.update a (Obj.mapSeq λ_=>#[])).push (seqObj "tuple" (bs.map Value.ref).toArray 0)).push (seqObj "list" #[] 0)=h1 at ho6 h hR1;dsimp only;have hn2:¬(bs.map Value.ref).toArray.size<2:=by rw[cx]; omega
 rw[if_neg hn2,if_neg hn2];obtain⟨fs,kt,lf,tf⟩:=hR1.MI;refine wpAny_bind (kat_kind (T:=.type "int") kt (by omega) (λv hv=>?_) (by rfl) ?_)
 ·obtain⟨i,t,rfl⟩:=tf v hv;exact .now
 have lr:rows.length=bs.length:=hR.1.symm;refine wpAny_bind (wpAny_mono (kat_run (ks:=bs.map Value.ref) (vs:=bs.map Value.ref) (Q:=λst' s'=>s'={ s with heap:=h1 }/\∃p:Array Nat,Az rows.length p/\Ed (λi j=>Al (rows.getD i []) (rows.getD j [])) p rows.length/\arrOf st'=p.map (kas_item ((bs.map Value.ref).toArray.zip (bs.map Value.ref).toArray))/\failedOf st'=none)
  (G:=λp s'=>s'={ s with heap:=h1 }/\Az rows.length p/\Ed (λi j=>Al (rows.getD i []) (rows.getD j [])) p rows.length)
  rfl (by omega) (by omega) (λp' st' s' a1 a2 a3 a4=>⟨a4.1,p',a4.2.1,a4.2.2,a2,a3⟩) ?_) ?_ λ_ _ e=>e)
 ·rw[lb,<-lr];refine Xg (s:={ s with heap:=h1 }) (lt:=λi j=>Al (rows.getD i []) (rows.getD j [])) (λi j C hi hj hC=>?_) (Z7 nd) (by omega) λp g u=>⟨rfl,g,u⟩
  have gb:∀i,i<rows.length->∃b,bs[i]?=some b/\(bs.map Value.ref).getD i Value.none=Value.ref b:=λi hi=>⟨bs[i]'(by omega),cg (by omega),by simp[show i<bs.length by omega]⟩
  obtain⟨bi,ebi,gbi⟩:=gb i hi;obtain⟨bj,ebj,gbj⟩:=gb j hj;obtain⟨_,xs,⟨ox,x1,x2,nx,x3⟩,hxs⟩:=hR1.2 i bi rows[i] ebi (cg hi);obtain⟨_,ys,⟨oy,y1,y2,ny,y3⟩,hys⟩:=hR1.2 j bj rows[j] ebj (cg hj);unfold kas_ask;rw[gbi,gbj];refine kat_lt (s:={ s with heap:=h1 }) x1 x3 y1 y3 ?_
  have:=Lm (prog:=prog) (w:=w) (A:=A) (s:={ s with heap:=h1 }) (b:=(Value.type "int" != Value.type "tuple")) (Q:=C) 0 hxs hys (by simpa [hi,hj] using hC)
  simpa using this
 rintro⟨⟨⟩,st'⟩ s' ⟨rfl,p,hp,hu,har,hf⟩;dsimp only;have hout:=kat_snds (ks:=bs.map Value.ref) (vs:=bs.map Value.ref) rfl har;rw[hout];refine wpAny_bind (seqEpoch_at ho6 rfl ?_);refine wpAny_bind (listUpdate_at ho6 rfl ?_ (dk _) (by rw[cx,cf,dw,hp.sz,sizeLine_eq]; omega));rw[hf];simp only[bne_self_eq_false,ft,if_false];exact wpAny_pure (h p hp hu)
end
end L2
namespace L2
open PySem PySem.Spec PyProof.Rows
theorem Lq{X:Cx}{pins:List (Addr×Obj)}{σ:St}{H:Hp}{s:Shared}{b:Addr}{r:List Int}(I:AI X pins σ H s)(h:H b=some (.AF (r.map V.int))):∃xs:List Value,IsTup s.heap b xs.toArray/\IntsAre xs r:=by
 obtain⟨its,rv,tp,_⟩:=I.tuple (AO.of (K:=X.K) h);exact⟨its,tp,Jo rv⟩
end L2
namespace L2
open PySem PySem.Spec PyProof.Rows PySem.W
section
variable {prog:Program} {w:World} {A:Around} {E:Value->Shared->Prop} {s:Shared}
theorem UT {l fa:Addr} {vs:List Value} {Q:Value->Shared->Prop} (hl:s.heap.IsList l vs.toArray) (h64:vs.length<64)
  (h:∀s':Shared,(∀b o,s.heap.get? b=some o->s'.heap.get? b=some o)->s'.heap.get? (s.heap.objs.size+1)=some (seqObj "list" vs.toArray 0)->s'={ s with heap:=s'.heap } →
   wpAny (model prog w) A.in1.in1 (ksk_tree (s.heap.objs.size+1) (.ref fa) false) (λf s''=>f=.done (.ret .none)/\Q (.ref (s.heap.objs.size+1)) s'') E s'):wpAny (model prog w) A (call (.builtin "sorted") [.ref l] [(Str.ofString "key",.ref fa)]) Q E s:=by
 refine call_function_entry_kw kind_sorted plain_sorted entry_sorted (ksk_s1 _ _) ?_;unfold Builtin.«sorted»;refine wpAny_bind (m:=checkCount "sorted" 1 1 _) (wpAny_pure ?_);refine wpAny_bind (collect_list hl ?_ (by rw[sizeLine_eq]; omega));refine wpAny_bind (wpAny_newList ?_ (by rw[sizeLine_eq]; omega));have sz:((s.heap.push (seqObj "list" #[] 0)).update s.heap.objs.size (Obj.mapSeq (·++vs.toArray))).objs.size=s.heap.objs.size+1:=by rw[Heap.size_update,size_push']
 have hL:(((s.heap.push (seqObj "list" #[] 0)).update s.heap.objs.size (Obj.mapSeq (·++vs.toArray))).push (seqObj "list" vs.toArray 0)).get? (s.heap.objs.size+1)=some (seqObj "list" vs.toArray 0):=by rw[<-sz]; exact cU _ rfl
 show wpAny _ _ _ _ _ { s with heap:=((s.heap.push (seqObj "list" #[] 0)).update s.heap.objs.size (Obj.mapSeq (·++vs.toArray))).push (seqObj "list" vs.toArray 0) };rw[sz];have keep:∀b o,s.heap.get? b=some o->(((s.heap.push (seqObj "list" #[] 0)).update s.heap.objs.size (Obj.mapSeq (·++vs.toArray))).push (seqObj "list" vs.toArray 0)).get? b=some o:=λb o q=>by
  have hlt:b<s.heap.objs.size:=cV q;rw[Heap.get?_push_ne _ _ _ (by rw[sz]; exact c8 (eY hlt)),fQ _ _ _ _ (c8 hlt),Heap.get?_push_ne _ _ _ (c8 hlt)];exact q
 refine wpAny_bind (wpAny_holding (wpAny_call_entry_kw slot_list_sort ⟨_,hL,rfl⟩ entry_list_sort (wpAny_mono (?body:wpAny (model prog w) A.in1.in1 (Builtin.«list.sort» ⟨[.ref (s.heap.objs.size+1)],[(Str.ofString "key",.ref fa)]⟩) (λf s''=>f=.done (.ret .none)/\Q (.ref (s.heap.objs.size+1)) s'') E _) ?_ λ_ _ e=>e) (ksk_l1 _ _)))
 case body =>
  rw[ksk_t1];exact h _ keep hL rfl
 rintro f s'' ⟨rfl,hq⟩;exact⟨_,rfl,wpAny_pure ⟨_,rfl,hq⟩⟩
end
def Sh(sp:Sp)(H:Hp)(x:V)(r:List Int):Prop:=∀H2,AN H H2->∀QQ:VK,(∀p H3,AN H2 H3->H3 p=some (.AF (r.map V.int))->QQ (.ref p) H3)->sp [x] H2 QQ E0
section
variable {X:Cx} {pins:List (Addr×Obj)} {σ:St} {H:Hp} {s:Shared}
theorem L7{xs:List V}{its:List Value}(r:AX xs its){i:Nat}{u:Value}(h:its[i]?=some u):∃x,xs[i]?=some x/\Ae x u:=by
 induction r generalizing i with
 | nil=>cases h
 | cons a _ ih =>
  cases i with
  | zero=>cases h; exact⟨_,rfl,a⟩
  | succ i=>exact ih (by simpa using h)
end
structure FN(lt:Nat->Nat->Bool):Prop where
 F0:∀i j,lt i j=true->lt j i=false
 TK:∀i j k,lt i k=true->lt i j=true\/lt j k=true
section
variable {n:Nat} {lt:Nat->Nat->Bool} {cmp:Nat->Nat->(Bool->Shared->Prop)->Shared->Prop} {s:Shared} {p:Array Nat}
theorem FN.no(L:FN lt){i j k:Nat}(h1:lt i j=false)(h2:lt j k=false):lt i k=false:=by
 cases e:lt i k with
 | false=>rfl
 | true =>
  rcases L.TK i j k e with z | z
  ·rw[h1] at z; cases z
  ·rw[h2] at z; cases z
def Ec(lt:Nat->Nat->Bool)(p:Array Nat)(m:Nat):Prop:=∀i j,i<j->j<m->lt (p.getD j 0) (p.getD i 0)=false
def GI(lt:Nat->Nat->Bool)(p:Array Nat)(m:Nat):Prop:=∀i j,i<j->j<m->lt (p.getD i 0) (p.getD j 0)=false
def LJ(lt:Nat->Nat->Bool)(p:Array Nat)(l m:Nat):Prop:=∀i j,l<=i->i<m->l<=j->j<m->lt (p.getD i 0) (p.getD j 0)=false
theorem KQ(g:Az n p){l m:Nat}(hm:m<=n){k:Nat}(hk:k<n):(kas_rev p l m).getD k 0=p.getD (if l<=k/\k<m then l+m-1-k else k) 0:=by
 have e:=getElem?_mirror_all (xs:=p) (i:=l) (j:=m) (by rw[g.sz]; exact hm) k;unfold kas_rev;split
 ·rename_i h
  rw[if_pos h] at e;exact El (by rw[g.sz]; omega) e
 ·rename_i h
  rw[if_neg h] at e;exact El (by rw[g.sz]; omega) e
theorem Oo(g:Az n p){l m:Nat}(hm:m<=n):Az n (kas_rev p l m) :=
 LP g (mirror_perm _ _ _ _) (mirror_size _ _ _ _) (λk=>if l<=k/\k<m then l+m-1-k else k) (λk hk=>by (try dsimp only); split <;> omega) (λi j hi hj h=>by
  try dsimp only at h
  split at h <;> split at h <;> omega) λk hk=>KQ g hm hk
theorem Pe(g:Az n p){l m:Nat}(hm:m<=n)(d:GI lt p m)(e:LJ lt p l m):GI lt (kas_rev p l m) m:=λi j hij hj=>by
 rw[KQ g hm (by omega),KQ g hm (by omega)];by_cases h1:l<=i
 ·rw[if_pos ⟨h1,by omega⟩,if_pos ⟨by omega,hj⟩];exact e _ _ (by omega) (by omega) (by omega) (by omega)
 ·rw[if_neg (λz=>h1 z.1)];by_cases h2:l<=j
  ·rw[if_pos ⟨h2,hj⟩];exact d _ _ (by omega) (by omega)
  ·rw[if_neg (λz=>h2 z.1)];exact d _ _ hij hj
theorem XW(g:Az n p){m:Nat}(hm:m<=n)(d:GI lt p m):Ec lt (kas_rev p 0 m) m:=λi j hij hj=>by
 rw[HC g hm (k:=j) (by omega),HC g hm (k:=i) (by omega),if_pos hj,if_pos (show i<m by omega)];exact d _ _ (by omega) (by omega)
theorem MB(hc:∀i j C,i<n->j<n->C (lt i j) s->cmp i j C s)(g:Az n p)(L:FN lt):∀(f a:Nat) {Q:Nat->Shared->Prop},1<=a->a+f<=n->Ec lt p a →
  (∀m,a<=m->m<=a+f->Ec lt p m->(m=a+f\/lt (p.getD m 0) (p.getD (m-1) 0)=true)->Q m s)->(kas_asc p f a).kasWp cmp Q s
 | 0,a,Q,_,_,u,q=>q a (cR _) (cR _) u (.inl rfl)
 | f+1,a,Q,a1,af,u,q=>by
  show cmp _ _ _ s;refine hc _ _ _ (g.below _ (by omega)) (g.below _ (by omega)) ?_;cases e:lt (p.getD a 0) (p.getD (a-1) 0) with
  | true=>exact q a (cR _) (by omega) u (.inr e)
  | false =>
   refine MB hc g L f (a+1) (by omega) (by omega) (λi j hij hj=>?_) (λm h1 h2 h3 h4=>q m (by omega) (by omega) h3 (by rcases h4 with z | z; exact .inl (by omega); exact .inr z));rcases c5 j a with z | z
   ·exact u i j hij z
   ·obtain rfl:j=a:=by omega
    rcases c5 i (j-1) with y | y
    ·exact L.no e (u i (j-1) y (by omega))
    ·obtain rfl:i=j-1:=by omega
     exact e
theorem J0(hc:∀i j C,i<n->j<n->C (lt i j) s->cmp i j C s)(L:FN lt):∀(f a t:Nat) (p:Array Nat) {Q:Array Nat×Nat×Nat->Shared->Prop},Az n p->1<=a->a+f<=n->t+1<=a->GI lt p a->LJ lt p (a-(t+1)) a →
  (∀m p' t',1<=m->m<=a+f->t' + 1<=m->Az n p'->GI lt p' m->LJ lt p' (m-(t' + 1)) m->Q (p',m,t') s)->(kas_desc f p a t).kasWp cmp Q s
 | 0,a,t,p,Q,g,a1,_,ta,d,eq,q=>q a p t a1 (cR _) ta g d eq
 | f+1,a,t,p,Q,g,a1,af,ta,d,eq,q=>by
  show cmp _ _ _ s;refine hc _ _ _ (g.below _ (by omega)) (g.below _ (by omega)) ?_;cases e:lt (p.getD a 0) (p.getD (a-1) 0) with
  | true =>
   have nx:lt (p.getD (a-1) 0) (p.getD a 0)=false:=L.F0 _ _ e;have one:∀{p':Array Nat},Az n p'->GI lt p' a->p'.getD a 0=p.getD a 0->(∀i,i<a->∃j,j<a/\p'.getD i 0=p.getD j 0)->GI lt p' (a+1):=λ{p'} g' d' ea ei i j hij hj=>by
    rcases c5 j a with z | z
    ·exact d' i j hij z
    ·obtain rfl:j=a:=by omega
     obtain⟨k,hk,ek⟩:=ei i hij;rw[ea,ek];rcases c5 k (j-1) with y | y
     ·exact L.no (d k (j-1) y (by omega)) nx
     ·obtain rfl:k=j-1:=by omega
      exact nx
   have self:∀{p':Array Nat},LJ lt p' (a+1-(0+1)) (a+1):=λ{p'} i j h1 h2 h3 h4=>by
    obtain rfl:i=a:=by omega
    obtain rfl:j=i:=by omega
    cases z:lt (p'.getD j 0) (p'.getD j 0) with
    | false=>rfl
    | true=>have:=L.F0 _ _ z; rw[z] at this; cases this
   by_cases ht:t > 0
   ·show(if t > 0 then kas_desc f (kas_rev p (a-(t+1)) a) (a+1) 0 else kas_desc f p (a+1) 0).kasWp cmp Q s;rw[if_pos ht];have g':=Oo g (l:=a-(t+1)) (m:=a) (by omega);have ra:∀k,k<n->_:=λk hk=>KQ g (l:=a-(t+1)) (m:=a) (by omega) (k:=k) hk
    refine J0 hc L f (a+1) 0 _ g' (by omega) (by omega) (by omega) (one g' (Pe g (by omega) d eq) ?_ λi hi=>?_) self (λm p' t' h1 h2 h3 h4 h5 h6=>q m p' t' h1 (by omega) h3 h4 h5 h6)
    ·rw[ra a (by omega),if_neg (by omega)]
    ·refine⟨_,?_,ra i (by omega)⟩;split <;> omega
   ·show(if t > 0 then kas_desc f (kas_rev p (a-(t+1)) a) (a+1) 0 else kas_desc f p (a+1) 0).kasWp cmp Q s;rw[if_neg ht];exact J0 hc L f (a+1) 0 p g (by omega) (by omega) (by omega) (one g d rfl λi hi=>⟨i,hi,rfl⟩) self (λm p' t' h1 h2 h3 h4 h5 h6=>q m p' t' h1 (by omega) h3 h4 h5 h6)
  | false =>
   show cmp _ _ _ s;refine hc _ _ _ (g.below _ (by omega)) (g.below _ (by omega)) ?_;cases e2:lt (p.getD (a-1) 0) (p.getD a 0) with
   | true=>exact q a p t a1 (by omega) ta g d eq
   | false =>
    show(kas_desc f p (a+1) (t+1)).kasWp cmp Q s;have la:∀i,a-(t+1)<=i->i<a->lt (p.getD i 0) (p.getD a 0)=false/\lt (p.getD a 0) (p.getD i 0)=false:=λi h1 h2 =>
     ⟨L.no (eq i (a-1) h1 h2 (by omega) (by omega)) e2,L.no e (eq (a-1) i (by omega) (by omega) h1 h2)⟩
    refine J0 hc L f (a+1) (t+1) p g (by omega) (by omega) (by omega) (λi j hij hj=>?_) (λi j h1 h2 h3 h4=>?_) (λm p' t' h1 h2 h3 h4 h5 h6=>q m p' t' h1 (by omega) h3 h4 h5 h6)
    ·rcases c5 j a with z | z
     ·exact d i j hij z
     ·obtain rfl:j=a:=by omega
      rcases c5 i (j-1) with y | y
      ·exact L.no (d i (j-1) y (by omega)) e2
      ·obtain rfl:i=j-1:=by omega
       exact e2
    ·rcases c5 i a with zi | zi
     ·rcases c5 j a with zj | zj
      ·exact eq i j (by omega) zi (by omega) zj
      ·obtain rfl:j=a:=by omega
       exact(la i (by omega) zi).1
     ·obtain rfl:i=a:=by omega
      rcases c5 j i with zj | zj
      ·exact(la j (by omega) zj).2
      ·obtain rfl:j=i:=by omega
       cases z:lt (p.getD j 0) (p.getD j 0) with
       | false=>rfl
       | true=>have:=L.F0 _ _ z; rw[z] at this; cases this
theorem PD(hc:∀i j C,i<n->j<n->C (lt i j) s->cmp i j C s)(g:Az n p)(L:FN lt){k:Nat}(k1:1<=k)(kn:k+1<=n)(d:GI lt p (k+1)){Q:Nat×Array Nat->Shared->Prop}(q:∀m p',1<=m->m<=n->Az n p'->Ec lt p' m->Q (m,p') s):(kas_descPart k n p).kasWp cmp Q s:=by
 unfold kas_descPart;rw[fH];refine J0 hc L (n-(k+1)) (k+1) 0 p g (by omega) (by omega) (by omega) d (λi j h1 h2 h3 h4=>?_) λm p' t' m1 mn tm g' d' e'=>?_
 ·obtain rfl:i=k:=by omega
  obtain rfl:j=i:=by omega
  cases z:lt (p.getD j 0) (p.getD j 0) with
  | false=>rfl
  | true=>have:=L.F0 _ _ z; rw[z] at this; cases this
 try dsimp only
 have fin:∀p'':Array Nat,Az n p''->GI lt p'' m->(kas_tail3 m n p'').kasWp cmp Q s:=λp'' g'' d''=>by
  unfold kas_tail3;rw[fH];have gr:=Lk g'' (m:=m) (by omega);refine MB hc gr L (n-m) m m1 (by omega) (XW g'' (by omega) d'') λm' h1 h2 u' _=>?_
  exact q m' _ (by omega) (by omega) gr u'
 by_cases ht:t' > 0
 ·rw[if_pos ht];exact fin _ (Oo g' (by omega)) (Pe g' (by omega) d' e')
 ·rw[if_neg ht];exact fin _ g' d'
theorem VX(hc:∀i j C,i<n->j<n->C (lt i j) s->cmp i j C s)(g:Az n p)(L:FN lt)(h2:2<=n){Q:Nat×Array Nat->Shared->Prop}(q:∀m p',1<=m->m<=n->Az n p'->Ec lt p' m->Q (m,p') s):(kas_count n p).kasWp cmp Q s:=by
 unfold kas_count;rw[fH];refine MB hc g L (n-1) 1 (cR _) (by omega) (λi j h1 h2=>by omega) λm m1 mn u st=>?_
 try dsimp only
 by_cases e:m=n
 ·rw[if_pos (by rw[e]; exact beq_self_eq_true n)];exact q m p m1 (by omega) g u
 rw[if_neg (by intro z; exact e (by simpa using z))];have fall:lt (p.getD m 0) (p.getD (m-1) 0)=true:=by
  rcases st with z | z
  ·omega
  ·exact z
 have nx:=L.F0 _ _ fall;by_cases e1:m > 1
 ·rw[if_pos e1];show cmp _ _ _ s;refine hc _ _ _ (g.below _ (by omega)) (g.below _ (by omega)) ?_;cases e0:lt (p.getD 0 0) (p.getD (m-1) 0) with
  | true=>exact q m p m1 (by omega) g u
  | false =>
   show(kas_descPart m n (kas_rev p 0 m)).kasWp cmp Q s;have le0:∀i,i<m->lt (p.getD i 0) (p.getD 0 0)=false:=λi hi=>by
    rcases Nat.eq_zero_or_pos i with rfl | z
    ·cases z:lt (p.getD 0 0) (p.getD 0 0) with
     | false=>rfl
     | true=>have:=L.F0 _ _ z; rw[z] at this; cases this
    ·exact u 0 i z hi
   have lel:∀i,i<m->lt (p.getD (m-1) 0) (p.getD i 0)=false:=λi hi=>by
    rcases c5 i (m-1) with z | z
    ·exact u i (m-1) z (by omega)
    ·obtain rfl:i=m-1:=by omega
     cases z:lt (p.getD (m-1) 0) (p.getD (m-1) 0) with
     | false=>rfl
     | true=>have:=L.F0 _ _ z; rw[z] at this; cases this
   have eqa:∀i j,i<m->j<m->lt (p.getD i 0) (p.getD j 0)=false:=λi j hi hj=>L.no (le0 i hi) (L.no e0 (lel j hj))
   have gr:=Lk g (m:=m) (by omega);refine PD hc gr L m1 (by omega) (λi j hij hj=>?_) q;rw[HC g (by omega) (by omega),HC g (by omega) (by omega),if_pos (show i<m by omega)];rcases c5 j m with z | z
   ·rw[if_pos z];exact eqa _ _ (by omega) (by omega)
   ·obtain rfl:j=m:=by omega
    rw[if_neg (fB _)];exact L.no (eqa (j-1-i) (j-1) (by omega) (by omega)) nx
 rw[if_neg e1];obtain rfl:m=1:=by omega
 refine PD hc g L (cR _) (by omega) (λi j h1 h2=>?_) q;obtain rfl:j=1:=by omega
 obtain rfl:i=0:=by omega
 exact nx
theorem Ld(hc:∀i j C,i<n->j<n->C (lt i j) s->cmp i j C s)(g:Az n p)(L:FN lt){k:Nat}(hk:k<n)(u:Ec lt p k):∀(f l r:Nat) {Q:Nat->Shared->Prop},l<=r->r<=k->r-l<=f->(∀i,i<l->lt (p.getD k 0) (p.getD i 0)=false)->(∀i,r<=i->i<k->lt (p.getD k 0) (p.getD i 0)=true) →
  (∀m,m<=k->(∀i,i<m->lt (p.getD k 0) (p.getD i 0)=false)->(∀i,m<=i->i<k->lt (p.getD k 0) (p.getD i 0)=true)->Q m s)->(kas_place p k f l r).kasWp cmp Q s
 | 0,l,r,Q,lr,rk,hf,a,b,q=>by
  obtain rfl:l=r:=by omega
  exact q l rk a b
 | f+1,l,r,Q,lr,rk,hf,a,b,q=>by
  unfold kas_place;by_cases h:l ≥ r
  ·rw[if_pos h];obtain rfl:l=r:=by omega
   exact q l rk a b
  rw[if_neg h];show cmp _ _ _ s;refine hc _ _ _ (g.below _ (by omega)) (g.below _ (by omega)) ?_;cases e:lt (p.getD k 0) (p.getD ((l+r) / 2) 0) with
  | true =>
   refine Ld hc g L hk u f l ((l+r) / 2) (by omega) (by omega) (by omega) a (λi h1 h2=>?_) q;rcases c5 ((l+r) / 2) i with z | z
   ·rcases L.TK _ (p.getD i 0) _ e with w | w
    ·exact w
    ·rw[u _ _ z h2] at w; cases w
   ·obtain rfl:i=(l+r) / 2:=by omega
    exact e
  | false =>
   refine Ld hc g L hk u f ((l+r) / 2+1) r (by omega) rk (by omega) (λi hi=>?_) b q;rcases c5 i ((l+r) / 2) with z | z
   ·exact L.no e (u _ _ z (by omega))
   ·obtain rfl:i=(l+r) / 2:=by omega
    exact e
theorem Qb(hc:∀i j C,i<n->j<n->C (lt i j) s->cmp i j C s)(L:FN lt):∀(f k:Nat) (p:Array Nat) {Q:Array Nat->Shared->Prop},Az n p->k+f=n->Ec lt p k->(∀p',Az n p'->Ec lt p' n->Q p' s)->(kas_bin f p k).kasWp cmp Q s
 | 0,k,p,Q,g,e,u,q=>by
  obtain rfl:k=n:=by omega
  exact q p g u
 | f+1,k,p,Q,g,e,u,q=>by
  unfold kas_bin;rw[fH];refine Ld hc g L (show k<n by omega) u k 0 k (dk _) (cR _) (by omega) (λi hi=>by omega) (λi h1 h2=>by omega) λl lk ha hb=>?_
  refine Qb hc L f (k+1) _ (PK g (by omega) lk) (by omega) (λi j hij hj=>?_) q;rw[Iz g (by omega) lk (i:=j) (by omega),Iz g (by omega) lk (i:=i) (by omega)];by_cases ei:i=l
  ·rw[if_pos ei,if_neg (show ¬j=l by omega),if_pos (show l<j/\j<=k by omega)];exact L.F0 _ _ (hb _ (by omega) (by omega))
  ·rw[if_neg ei];by_cases ej:j=l
   ·rw[if_pos ej,if_neg (show ¬(l<i/\i<=k) by omega)];exact ha _ (by omega)
   ·rw[if_neg ej];by_cases z1:l<i/\i<=k
    ·rw[if_pos z1,if_pos (show l<j/\j<=k by omega)];exact u _ _ (by omega) (by omega)
    ·rw[if_neg z1];by_cases z2:l<j/\j<=k
     ·rw[if_pos z2];exact u _ _ (by omega) (by omega)
     ·rw[if_neg z2];exact u _ _ hij (by omega)
theorem Wt(hc:∀i j C,i<n->j<n->C (lt i j) s->cmp i j C s)(L:FN lt)(h2:2<=n){Q:Array Nat->Shared->Prop}(q:∀p,Az n p->Ec lt p n->Q p s):(kas_sort n).kasWp cmp Q s:=by
 unfold kas_sort;rw[fH];have g0:Az n (List.toArray (List.range n)):=by
  have e:∀k,k<n->(List.toArray (List.range n)).getD k 0=k:=λk hk=>by
   simp[dD,hk]
  exact⟨List.Perm.refl _,by simp,λk hk=>by rw[e k hk]; exact hk,λi j hi hj z=>by rwa [e i hi,e j hj] at z⟩
 refine VX hc g0 L h2 λm p' m1 mn g u=>?_
 try dsimp only
 by_cases h:m<n
 ·rw[if_pos h,show max m 1=m by omega];exact Qb hc L (n-m) m p' g (by omega) u q
 ·rw[if_neg h];obtain rfl:m=n:=by omega
  exact q p' g u
variable {X:Cx} {pins:List (Addr×Obj)} {σ:St} {H:Hp}
def IG(rows:List (List Int))(p:List Nat):Prop:=p.Perm (List.range rows.length)/\p.Pairwise λi j=>Al (rows.getD j []) (rows.getD i [])=false
theorem Yw{rows:List (List Int)}:FN λi j=>Al (rows.getD i []) (rows.getD j []):=⟨λi j h=>Gx h,λi j k h=>by
 by_cases e:rows.getD i []=rows.getD j []
 ·exact .inr (by rw[<-e]; exact h)
 ·rcases J5 e with z | z
  ·exact .inl z
  ·exact .inr (Jm z h)⟩
theorem WS{rows:List (List Int)}{p:Array Nat}(g:Az rows.length p)(u:Ec (λi j=>Al (rows.getD i []) (rows.getD j [])) p rows.length):IG rows p.toList:=by
 refine⟨g.pm,cY.mpr λi j hi hj hij=>?_⟩;have e:∀k (hk:k<p.toList.length),p.getD k 0=p.toList[k]:=λk hk=>by
  rw[dw] at hk;simp[hk]
 have:=u i j hij (by rw[dw,g.sz] at hj; exact hj)
 rw[e i hi,e j hj] at this;exact this
theorem VY{rows:List (List Int)}(h:rows.length<2):IG rows (List.range rows.length):=by
 refine⟨.refl _,cY.mpr λi j hi hj hij=>?_⟩;rw[c7] at hi hj;omega
theorem OS{xs:List V}{its:List Value}(r:AX xs its){p:List Nat}(hp:∀i∈p,i<its.length):AX (p.map λi=>xs.getD i .Aj) (p.map λi=>its.getD i Value.none):=by
 induction p with
 | nil=>exact .nil
 | cons i p ih =>
  refine .cons ?_ (ih λj hj=>hp j (by simp[hj]));have hi:i<its.length:=hp i (by simp);obtain⟨x,e,rx⟩:=L7 r (cg hi);show Ae (xs.getD i .Aj) (its.getD i Value.none);rw[cw,cw,e,cg hi];exact rx
theorem Wu {a kS:Addr} {e1:Nat} {its:List Value} {xs:List V} {ks:List Addr} {rows:List (List Int)} {Q:PySem.Fin->Shared->Prop} {A:Around} {E:Value->Shared->Prop} (I:AI X pins σ H s) (rv:AX xs its) (ha:s.heap.get? a=some (seqObj "list" #[] e1)) {φ:Heap->Prop} (hA:H a=some (.ext φ)) (hk:H kS=some (.AD (ks.map V.ref))) (nak:kS≠a)
  (lk:ks.length=its.length) (hR:IC s.heap ks rows) (h64:its.length<64)
  (q:∀(p:List Nat) s',IG rows p->AI X pins σ (AE (AE H kS (.AD [])) a (.AD (p.map λi=>xs.getD i .Aj))) s'->Q (.done (.ret .none)) s') :
  wpAny (model X.prog X.w) A (ksk_end a false its.toArray e1 (.ref kS) (ks.map Value.ref).toArray) Q E s:=by
 have lr:rows.length=its.length:=by rw[<-hR.1,lk]
 obtain⟨hz,kv,kn,rk,lkv,ek⟩:=I.DJ hk;obtain rfl:=Ik rk;have tail:∀(st:SortSt) (p:Array Nat),IG rows p.toList->(arrOf st).map (·.2)=(p.toList.map λi=>its.getD i Value.none).toArray->failedOf st=none->wpAny (model X.prog X.w) A (ksk_tail a false e1 (.ref kS) st) Q E s:=λst p hp har hf=>by
  unfold ksk_tail
  try dsimp only
  have pl:p.toList.length=its.length:=by rw[hp.1.length_eq,c7,lr]
  have I1:=I.GC (its':=[]) (ys:=[]) (f:=λ_=>#[]) (t':=s.toks) hk ek rfl .nil (by show 0<=sizeLine; exact dk _);have ha1:(s.heap.update kS (Obj.mapSeq λ_=>(#[]:Array Value))).get? a=some (seqObj "list" #[] e1):=by rw[fQ _ _ _ _ (eK nak)]; exact ha
  have hA1:(AE H kS (.AD [])) a=some (.ext φ):=by rw[AW (eK nak)]; exact hA
  have vp:=OS rv (p:=p.toList) λi hi=>by have:=cZ.mp (hp.1.mem_iff.mp hi); omega
  have lp:(p.toList.map λi=>xs.getD i V.Aj).length<=sizeLine:=by rw[cf,pl,sizeLine_eq]; omega
  have qq:=PySem.IsL.update ha1 λ_=>(p.toList.map λi=>its.getD i Value.none).toArray
  have I2:=I1.Eu (x:=a) (e:=a) (o:=.AD (p.toList.map λi=>xs.getD i V.Aj)) (t':=s.toks) (by rw[hA1]; exact trivial) (.inl rfl) (λb' u hb hu=>(eR _ (Obj.mapSeq λ_=>(p.toList.map λi=>its.getD i Value.none).toArray) (eK hb)).trans hu) ⟨_,qq⟩ ⟨lp,_,_,vp,qq⟩;refine wpAny_bind (listUpdate_at ek rfl ?_ (by rw[cx,cf,lk,sizeLine_eq]; omega) (dk _));refine wpAny_bind (wpAny_letGo ?_);refine wpAny_bind (seqEpoch_at ha1 rfl ?_);rw[har];refine wpAny_bind (listUpdate_at ha1 rfl ?_ (dk _) (by simp only[ft,if_false]; rw[cx,cf,pl,sizeLine_eq]; omega));rw[hf];simp only[bne_self_eq_false,ft,if_false];exact wpAny_pure (q _ _ hp I2)
 unfold ksk_end
 try dsimp only
 rw[if_neg df];by_cases h2:its.toArray.size<2
 ·rw[if_pos h2,if_pos h2];refine wpAny_bind (wpAny_pure ?_);rw[StateT.run_pure];refine wpAny_bind (wpAny_pure ?_)
  try dsimp only
  rw[cx] at h2;rw[if_neg df];refine tail _ (List.range rows.length).toArray (by simpa using VY (by omega)) ?_ rfl;show Array.map (·.2) ((ks.map Value.ref).toArray.zip its.toArray)=_;refine Array.ext' ?_;rw[Array.toList_map,ksk_zip];simp only[List.toList_toArray];rw[lr];refine fY λi=>?_
  rw[cu,cu];rcases c5 i its.length with z | z
  ·rw[eO z];rw[cg (by rw[List.length_zip,cf,lk]; omega),List.getElem_zip];simp[z]
  ·rw[dF (by rw[List.length_zip]; omega),dF (by rw[c7]; exact z)];rfl
 rw[if_neg h2,if_neg h2];rw[cx] at h2;obtain⟨fs,kt,lf,tf⟩:=hR.MI;refine wpAny_bind (kat_kind (T:=.type "int") kt (by omega) (λv hv=>?_) (by rfl) ?_)
 ·obtain⟨i,t,rfl⟩:=tf v hv;exact .now
 rw[if_neg df];refine wpAny_bind (wpAny_mono (kat_run (ks:=ks.map Value.ref) (vs:=its) (Q:=λst' s'=>s'=s/\∃p:Array Nat,Az rows.length p/\Ec (λi j=>Al (rows.getD i []) (rows.getD j [])) p rows.length/\arrOf st'=p.map (kas_item ((ks.map Value.ref).toArray.zip its.toArray))/\failedOf st'=none)
  (G:=λp s'=>s'=s/\Az rows.length p/\Ec (λi j=>Al (rows.getD i []) (rows.getD j [])) p rows.length)
  (by rw[cf]; exact lk) (by omega) h64 (λp' st' s' a1 a2 a3 a4=>⟨a4.1,p',a4.2.1,a4.2.2,a2,a3⟩) ?_) ?_ λ_ _ e=>e)
 ·rw[<-lr];refine Wt (s:=s) (lt:=λi j=>Al (rows.getD i []) (rows.getD j [])) (λi j C hi hj hC=>?_) Yw (by omega) λp g u=>⟨rfl,g,u⟩
  have lks:ks.length=rows.length:=hR.1;have gb:∀i,i<rows.length->∃b,ks[i]?=some b/\(ks.map Value.ref).getD i Value.none=Value.ref b:=λi hi=>⟨ks[i]'(by omega),cg (by omega),by simp[show i<ks.length by omega]⟩
  obtain⟨bi,ebi,gbi⟩:=gb i hi;obtain⟨bj,ebj,gbj⟩:=gb j hj;obtain⟨_,xs',⟨ox,x1,x2,nx,x3⟩,hxs⟩:=hR.2 i bi rows[i] ebi (cg hi);obtain⟨_,ys',⟨oy,y1,y2,ny,y3⟩,hys⟩:=hR.2 j bj rows[j] ebj (cg hj);unfold kas_ask;rw[gbi,gbj];refine kat_lt (s:=s) x1 x3 y1 y3 ?_
  have:=Lm (prog:=X.prog) (w:=X.w) (A:=A) (s:=s) (b:=(Value.type "int" != Value.type "tuple")) (Q:=C) 0 hxs hys (by simpa [hi,hj] using hC)
  simpa using this
 rintro⟨⟨⟩,st'⟩ s' ⟨rfl,p,hp,hu,har,hf⟩;dsimp only;refine tail _ p (WS hp hu) ?_ hf;exact kat_snds (ks:=ks.map Value.ref) (vs:=its) (by rw[cf]; exact lk) har
theorem VU {fa a:Addr} {sp:Sp} {xs:List V} {rows:List (List Int)} {H0:Hp} {Q:PySem.Fin->Shared->Prop} (ask:∀(H:Hp) (s:Shared) (x:V) (u:Value) (Q:VK),AI X pins σ H s->Ae x u->sp [x] H Q E0->wpAny (model X.prog X.w) X.A.in1.in1 (call (.ref fa) [u]) (EP X pins σ Q) (λ_ _=>False) s) (I:AI X pins σ H s) (ha:H a=some (.AD xs)) (s0:AN H0 H) (na:H0 a=none)
  (lr:rows.length=xs.length) (ne:∀r∈rows,r≠[]) (h64:xs.length<64) (keys:∀(i:Nat) (x:V) (r:List Int),xs[i]?=some x->rows[i]?=some r->Sh sp H0 x r)
  (q:∀(p:List Nat) s' H',IG rows p->AN H0 H'->H' a=some (.AD (p.map λi=>xs.getD i .Aj))->AI X pins σ H' s'->Q (.done (.ret .none)) s') :
  wpAny (model X.prog X.w) X.A.in1.in1 (ksk_tree a (.ref fa) false) Q X.xe s:=by
 obtain⟨z,its,n,rv,li,e⟩:=I.DJ ha;have I1:=I.GC (its':=[]) (ys:=[]) (f:=λ_=>#[]) (t':=s.toks) ha e rfl .nil (dk _);obtain⟨e1,ho1⟩:∃e1,(s.heap.update a (Obj.mapSeq λ_=>(#[]:Array Value))).get? a=some (seqObj "list" #[] e1):=⟨_,get?_update_seq e λ_=>#[]⟩;have I2:=I1.Eu (x:=a) (e:=a) (o:=.ext λh=>h.get? a=some (seqObj "list" #[] e1)) (t':=s.toks) (by rw[AM]; exact trivial) (.inl rfl) (λb u _ hu=>hu) ⟨_,ho1⟩ ⟨ho1,⟨_,ho1⟩,λh1 h2 p1 k1=>k1 _ p1⟩;rw[QR] at I2;unfold ksk_tree;refine wpAny_bind (listItems_at e rfl ?_);refine wpAny_bind (listUpdate_at e rfl ?_ (by rw[cx,<-li,sizeLine_eq]; omega) (dk _));refine wpAny_bind (seqEpoch_at ho1 rfl ?_);refine wpAny_bind (wpAny_newTuple ?_ (by show its.length<=_; rw[<-li,sizeLine_eq]; omega));refine wpAny_bind (wpAny_newList ?_ (dk _));refine wpAny_holding ?_;have I3:=I2.BJ (h':=(s.heap.update a (Obj.mapSeq λ_=>(#[]:Array Value))).push (seqObj "tuple" its.toArray 0)) (t':=s.toks) λb o q=>cj _ q
 have fk:(AE H a (.ext λh=>h.get? a=some (seqObj "list" #[] e1))) ((s.heap.update a (Obj.mapSeq λ_=>(#[]:Array Value))).push (seqObj "tuple" its.toArray 0)).objs.size=none:=I3.fresh;have I4:=I3.NI (its:=[]) (ys:=[]) (t':=s.toks) .nil (dk _);have s1:AN H0 (AE H a (.ext λh=>h.get? a=some (seqObj "list" #[] e1))):=λb o q=>by rw[AW (BB q na)]; exact s0 b o q
 have s2:AN H0 (AE (AE H a (.ext λh=>h.get? a=some (seqObj "list" #[] e1))) ((s.heap.update a (Obj.mapSeq λ_=>(#[]:Array Value))).push (seqObj "tuple" its.toArray 0)).objs.size (.AD [])):=λb o q=>by rw[AW (BB (s1 b o q) fk)]; exact s1 b o q
 have nak:((s.heap.update a (Obj.mapSeq λ_=>(#[]:Array Value))).push (seqObj "tuple" its.toArray 0)).objs.size≠a:=λy=>by rw[y,AM] at fk; cases fk
 have k0:H0 ((s.heap.update a (Obj.mapSeq λ_=>(#[]:Array Value))).push (seqObj "tuple" its.toArray 0)).objs.size=none:=by
  cases hq:H0 ((s.heap.update a (Obj.mapSeq λ_=>(#[]:Array Value))).push (seqObj "tuple" its.toArray 0)).objs.size with
  | none=>rfl
  | some o=>rw[s1 _ _ hq] at fk; cases fk
 have a4:(AE (AE H a (.ext λh=>h.get? a=some (seqObj "list" #[] e1))) ((s.heap.update a (Obj.mapSeq λ_=>(#[]:Array Value))).push (seqObj "tuple" its.toArray 0)).objs.size (.AD [])) a=some (.ext λh=>h.get? a=some (seqObj "list" #[] e1)):=by rw[AW (eK nak),AM]
 have k4:(AE (AE H a (.ext λh=>h.get? a=some (seqObj "list" #[] e1))) ((s.heap.update a (Obj.mapSeq λ_=>(#[]:Array Value))).push (seqObj "tuple" its.toArray 0)).objs.size (.AD [])) ((s.heap.update a (Obj.mapSeq λ_=>(#[]:Array Value))).push (seqObj "tuple" its.toArray 0)).objs.size=some (.AD (([]:List Addr).map V.ref)):=AM;change wpAny _ _ _ _ _ { s with heap:=((s.heap.update a (Obj.mapSeq λ_=>(#[]:Array Value))).push (seqObj "tuple" its.toArray 0)).push (seqObj "list" #[] 0),toks:=s.toks };change AI X pins σ _ { s with heap:=((s.heap.update a (Obj.mapSeq λ_=>(#[]:Array Value))).push (seqObj "tuple" its.toArray 0)).push (seqObj "list" #[] 0),toks:=s.toks } at I4;generalize ((s.heap.update a (Obj.mapSeq λ_=>(#[]:Array Value))).push (seqObj "tuple" its.toArray 0)).objs.size=kS at I4 s2 nak k0 a4 k4 ⊢;generalize AE (AE H a (.ext λh=>h.get? a=some (seqObj "list" #[] e1))) kS (.AD [])=H4 at I4 s2 a4 k4;generalize ({ s with heap:=((s.heap.update a (Obj.mapSeq λ_=>(#[]:Array Value))).push (seqObj "tuple" its.toArray 0)).push (seqObj "list" #[] 0),toks:=s.toks }:Shared)=s4 at I4 ⊢;unfold ksk_rest;refine wpAny_bind (wpAny_rule ?_)
 first
  | rw[List.forIn_toArray]
  | (rw[<-Array.forIn_toList]; simp only[List.toList_toArray])
  | rw[<-Array.forIn_toList]
 refine wpAny_bind (ksk_fold (λi s'=>∃H' ks,AI X pins σ H' s'/\AN H0 H'/\H' a=some (.ext λh=>h.get? a=some (seqObj "list" #[] e1))/\H' kS=some (.AD (ks.map V.ref))/\ks.length=i/\∀(j:Nat) (b:Addr) (r:List Int),ks[j]?=some b->rows[j]?=some r->H' b=some (.AF (r.map V.int))) its 0 s4
  ⟨H4,[],I4,s2,a4,k4,rfl,λj b r h=>by cases h⟩ ?step ?done)
 case step =>
  rintro j u s' hu ⟨H',ks,I',sH,aH,kH,lk,tk⟩;rw[Nat.zero_add] at lk ⊢;obtain⟨x,hx,rx⟩:=L7 rv hu;have hj:j<xs.length:=(cm.mp hx).1;have hrow:rows[j]?=some rows[j]:=cg (by omega);have ak:=ask H' s' x u (λv H2=>∃p,v=.ref p/\AN H' H2/\H2 p=some (.AF (rows[j].map V.int))) I' rx (keys j x _ hx hrow H' sH _ λp H3 s3 h3=>⟨p,rfl,s3,h3⟩);refine wpAny_bind (wpAny_attempt (wpAny_mono ak (λv s'' he=>?_) λ_ _ hF=>hF.elim));obtain⟨w,H2,I2',rw',p,rfl,s3,h3⟩:=he;cases rw'
  try dsimp only
  obtain⟨hz,kv,kn,rk,lkv,ek⟩:=I2'.DJ (s3 _ _ kH);obtain rfl:=Ik rk;have I5:=I2'.GC (its':=ks.map Value.ref++[.ref p]) (ys:=(ks++[p]).map V.ref) (f:=(·.push (.ref p))) (t':=s''.toks) (s3 _ _ kH) ek (by simp) (by rw[dh]; exact rk.append (.cons rfl .nil)) (by rw[cf,cX,lk,fm,sizeLine_eq]; omega);refine wpAny_bind (listUpdate_at ek rfl ?_ (by rw[cx,cf,lk,sizeLine_eq]; omega) (dg (Nat.le_of_eq (Array.size_push ..)) (by rw[cx,cf,lk,sizeLine_eq]; omega)));refine wpAny_pure ⟨rfl,_,ks++[p],I5,λb o q=>by rw[AW (BB q k0)]; exact s3 _ _ (sH _ _ q),by rw[AW (eK nak)]; exact s3 _ _ aH,AM,by rw[cX,lk]; rfl,λi b r h1 h2=>?_⟩;have hb2:H2 b=some (.AF (r.map V.int)):=by
   rcases c5 i ks.length with y | y
   ·rw[d0 y] at h1;exact s3 _ _ (tk i b r h1 h2)
   ·have:i=ks.length:=by have:=(cm.mp h1).1; rw[cX,fm] at this; omega
    subst this;rw[List.getElem?_concat_length] at h1;cases h1;rw[lk,hrow] at h2;cases h2;exact h3
  rw[AW (λy=>by rw[y,s3 _ _ kH] at hb2; cases hb2)];exact hb2
 case done =>
  rintro s' ⟨H',ks,I',sH,aH,kH,lk,tk⟩;rw[Nat.zero_add] at lk;obtain⟨hz,kv,kn,rk,lkv,ek⟩:=I'.DJ kH;obtain rfl:=Ik rk
  try dsimp only
  refine wpAny_bind (listItems_at ek rfl ?_);have ga:s'.heap.get? a=some (seqObj "list" #[] e1):=(show A9 X.prog X.w H' s'.heap a (.ext λh=>h.get? a=some (seqObj "list" #[] e1)) from I'.hok a _ aH).1;refine Wu I' rv ga aH kH nak lk ⟨by omega,λi b r h1 h2=>⟨ne r (cq h2),Lq I' (tk i b r h1 h2)⟩⟩ (by omega) λp s'' hp I''=>?_
  refine q p s'' _ hp (λb o y=>?_) AM I'';rw[AW (BB y na),AW (BB y k0)];exact sH _ _ y
def RG(sp:Sp)(l:V)(H:Hp)(Q:VK):Prop:=∃(a:Addr) (xs:List V) (rows:List (List Int)),l=.ref a/\H a=some (.AD xs)/\rows.length=xs.length/\(∀r∈rows,r≠[])/\xs.length<64/\(∀(i:Nat) (x:V) (r:List Int),xs[i]?=some x->rows[i]?=some r->Sh sp H x r) /\
 ∀(D:Addr) (p:List Nat) (H':Hp),IG rows p->AN H H'->H D=none->H' D=some (.AD (p.map λi=>xs.getD i .Aj))->Q (.ref D) H'
theorem Uq {fa:Addr} {sp:Sp} {l:V} {u:Value} {Q:VK} (ask:∀(H:Hp) (s:Shared) (x:V) (u:Value) (Q:VK),AI X pins σ H s->Ae x u->sp [x] H Q E0->wpAny (model X.prog X.w) X.A.in1.in1 (call (.ref fa) [u]) (EP X pins σ Q) (λ_ _=>False) s)
  (I:AI X pins σ H s) (rl:Ae l u) (h:RG sp l H Q):wpAny (model X.prog X.w) X.A (call (.builtin "sorted") [u] [(Str.ofString "key",.ref fa)]) (EP X pins σ Q) X.xe s:=by
 obtain⟨a,xs,rows,rfl,ha,lr,ne,h64,keys,q⟩:=h;cases rl;obtain⟨its,rv,pl,_⟩:=I.list (AJ.of (K:=X.K) ha);have li:=rv.length;refine UT pl.isList (by omega) λs' keep hD es=>?_
 have hn:H (s.heap.objs.size+1)=none:=I.hok.fresh (Nat.le_succ _);have I1:AI X pins σ (AE H (s.heap.objs.size+1) (.AD xs)) s':=by
  rw[es];exact I.laid (t':=s.toks) keep (Nat.le_succ _) (show A9 X.prog X.w _ _ _ (.AD xs) from ⟨by rw[sizeLine_eq]; omega,its,0,rv,hD⟩)
 refine VU ask I1 AM (H0:=H) (λb o e=>by rw[AW (BB e hn)]; exact e) hn lr ne h64 keys λp s'' H' hp sH hA I''=>⟨rfl,.ref _,H',I'',rfl,q _ p H' hp sH hn hA⟩
theorem N6:bootBuiltins "sorted" = some (.builtin "sorted"):=by decide +kernel
def EN(mg:Str->Option Value)(base:Heap):Prop:=∃(bm:Addr) (o:Obj),mg "__builtins__" = some (.ref bm)/\bm≠builtinsNs/\bm≠mainGlobals/\base.get? bm=some o/\o.cls=.type "module"/\o.dict=some builtinsNs/\o.data=.plain
def ER(q:Str)(c:Addr):HO:=.ext λh=>h.CodeRec (.ref c) q
def Cv(T:Addr)(H H':Hp):Prop:=∀b o,b≠T->H b=some o->H' b=some o
variable {P:Program} {w:World} {h:Heap} {q:Str} {c:Addr}
theorem Xw(r:h.CodeRec (.ref c) q):A9 P w H h c (ER q c):=by
 have r':=r;obtain⟨c',o,vs,t,e,ho,hd,hv⟩:=r;cases e;refine⟨r',⟨o,ho⟩,λh1 h2 x k=>?_⟩;obtain⟨c',o,vs,t,e,ho,hd,hv⟩:=x;cases e;exact⟨_,o,vs,t,rfl,k _ ho,hd,hv⟩
theorem V5(ok:BN P w H h)(e:H c=some (ER q c)):h.CodeRec (.ref c) q:=(show A9 P w H h c (ER q c) from ok _ _ e).1
end
def EU(q:Str)(params:Arguments)(body:PySem.Expr)(scope:Scope)(cl:List (Str×Addr))(pm:Value)(f c:Addr):HO:=.ext λh=>∃ctv,h.get? f=some (kla_obj "<lambda>" q params body scope cl pm c ctv)
def D4(L:List (Pos×Addr)):List Value:=L.flatMap λe=>[rawInt e.1.line,rawInt e.1.col,.ref e.2]
def Bs(H:Hp)(T:Addr)(q:Str):Prop:=∃L:List (Pos×Addr),H T=some (.Bw (D4 L).toArray)/\∀e∈L,H e.2=some (ER q e.2)
theorem Lx:∀L:List (Pos×Addr),TriplesOk (D4 L)
 | []=>trivial
 | _ :: L=>Lx L
theorem OF{pos:Pos}{v:Value}:∀{L:List (Pos×Addr)},codeAmong pos (D4 L)=some v->∃e∈L,v=.ref e.2
 | [],h=>by cases h
 | e :: L,h=>by
  have h':(if (((e.1.line:Nat):Int) == ((pos.line:Nat):Int) && ((e.1.col:Nat):Int) == ((pos.col:Nat):Int))=true then some (Value.ref e.2) else codeAmong pos (D4 L))=some v:=h;split at h'
  ·exact⟨e,dr ..,(Option.some.inj h').symm⟩
  ·obtain⟨e',h1,h2⟩:=OF h';exact⟨e',da _ h1,h2⟩
section
variable {P:Program} {w:World} {H:Hp} {h:Heap} {q:Str} {params:Arguments} {body:PySem.Expr} {scope:Scope} {cl:List (Str×Addr)} {pm:Value} {f c:Addr}
theorem QJ{ctv:Value}(r:h.get? f=some (kla_obj "<lambda>" q params body scope cl pm c ctv)):A9 P w H h f (EU q params body scope cl pm f c) :=
 ⟨⟨ctv,r⟩,⟨_,r⟩,λ_ _ ⟨v,x⟩ k=>⟨v,k _ x⟩⟩
theorem WL(ok:BN P w H h)(e:H f=some (EU q params body scope cl pm f c)):∃ctv,h.get? f=some (kla_obj "<lambda>" q params body scope cl pm c ctv):=(show A9 P w H h f (EU q params body scope cl pm f c) from ok _ _ e).1
end
section
variable {X:Cx} {pins:List (Addr×Obj)} {σ:St} {H:Hp} {s:Shared} {params:Arguments} {body:PySem.Expr} {scope:Scope} {cl:List (Str×Addr)} {pos:Pos} {c T:Addr}
theorem OP {Q:Value->Shared->Prop} (I:AI X pins σ H s) (hcode:X.env.code=.ref c) (hC:CodeHd X.base c T) (hB:EN X.mg X.base) (hcl:closureFor scope X.env=pure cl) (hdef:defaultsOf params X.env=([],[])) (hT:Bs H T (X.env.qual++"<lambda>"))
  (q:∀(f c':Addr) (H':Hp) (s':Shared),AI X pins σ H' s'->Cv T H H'->H f=none->Bs H' T (X.env.qual++"<lambda>")->H' c'=some (ER (X.env.qual++"<lambda>") c')->H' f=some (EU (X.env.qual++"<lambda>") params body scope cl ((X.mg "__name__").getD .none) f c')->Q (.ref f) s') :
  wpAny (model X.prog X.w) X.A (eval (.Lambda params body scope pos) X.env) Q X.xe s:=by
 have bk:=I.bk;obtain⟨bm,ob,b1,b2,b3,b4,b5,b6⟩:=hB;refine kla_eval hdef ?_;obtain⟨L,hT,hL⟩:=hT;have gT:s.heap.get? T=some (tabObj (D4 L).toArray):=I.hok _ _ hT;have nT:∀{b:Addr},H b=none->b≠T:=λ{b} e z=>by rw[z,hT] at e; cases e
 cases hf:codeAmong pos (D4 L).toArray.toList with
 | none =>
  have hgT:mainGlobals≠T:=by
   obtain⟨o,es,ep,e,_⟩:=I.CH.Dg;exact nT (I.bs _ _ e).2
  refine kla_makeFunction (mg:=X.mg) hcl I.ok.Dg (I.CH.Dg.keeps bk) hcode (hC.keeps bk) gT (by simpa using Lx L) hf hgT ⟨bm,ob,b1,b2,b3,nT (I.bs _ _ b4).2,bk _ _ b4,b5,b6⟩ λc' ctv h' tk hx hge hlt hrec htb=>?_
  have hsz:s.heap.objs.size<=h'.objs.size:=Nat.le_of_lt (Nat.lt_of_le_of_lt hge hlt);have nc:H c'=none:=I.hok.fresh hge;have nf:H h'.objs.size=none:=I.hok.fresh hsz;have nfc:h'.objs.size≠c':=fj hlt;have lT:T<s.heap.objs.size:=cV gT;have nfT:h'.objs.size≠T:=fj (dy lT hsz);have ncT:c'≠T:=fj (dy lT hge);generalize hpm:(X.mg "__name__").getD .none=pm at q ⊢;generalize X.env.qual++"<lambda>" = qn at q hrec hL ⊢;have gf:(h'.push (kla_obj "<lambda>" qn params body scope cl pm c' ctv)).get? h'.objs.size=some (kla_obj "<lambda>" qn params body scope cl pm c' ctv):=cU _ rfl;have kp:∀b o,h'.get? b=some o->(h'.push (kla_obj "<lambda>" qn params body scope cl pm c' ctv)).get? b=some o:=λb o e=>cj _ e
  generalize h'.push (kla_obj "<lambda>" qn params body scope cl pm c' ctv)=h2 at gf kp ⊢;generalize h'.objs.size=f at nf nfc nfT gf hsz ⊢;have et:(D4 L).toArray++#[rawInt pos.line,rawInt pos.col,.ref c']=(D4 (L++[(pos,c')])).toArray:=by
   unfold D4;rw[List.flatMap_append];simp
  rw[et] at htb;obtain⟨H',eH⟩:∃H',H'=AE (AE (AE H T (.Bw (D4 (L++[(pos,c')])).toArray)) c' (ER qn c')) f (EU qn params body scope cl pm f c'):=⟨_,rfl⟩;have atf:H' f=some (EU qn params body scope cl pm f c'):=by rw[eH,AM]
  have atc:H' c'=some (ER qn c'):=by rw[eH,AW (eK nfc),AM]
  have atT:H' T=some (.Bw (D4 (L++[(pos,c')])).toArray):=by rw[eH,AW (eK nfT),AW (eK ncT),AM]
  have atO:∀b,b≠f->b≠c'->b≠T->H' b=H b:=λb h1 h2 h3=>by rw[eH,AW h1,AW h2,AW h3]
  clear eH;have old:Cv T H H':=λb o h1 e=>by rw[atO b (BB e nf) (BB e nc) h1]; exact e
  have gk:∀b o,b≠T->s.heap.get? b=some o->h2.get? b=some o:=λb o n e=>kp _ _ (hx b o n e)
  have nTo:∀{b:Addr} {o:HO},H b=some o->o≠.Bw (D4 L).toArray->b≠T:=λe n=>Rc e hT n
  have un:Un X.fs [] H H' s.heap h2:=by
   refine⟨λb o e n _ _=>gk b o (nT n) e,λb o e n _ _=>⟨o.slots,gk b o (nT n) e⟩,λb o e n _=>?_,λb o e _=>?_,λb xs e=>old b _ (nTo e λz=>by cases z) e,λb o u e=>old b _ (nTo e λz=>by cases z) e,λb ps e=>?_⟩
   ·have lb:=cV e;rw[atO b (c8 (dy lb hsz)) (c8 (dy lb hge)) (nT n)];exact n
   ·by_cases z:b=T
    ·subst z; exact⟨_,kp _ _ htb⟩
    ·exact⟨o,gk b o z e⟩
   ·by_cases z:b=T
    ·subst z;rw[hT] at e;cases e;exact⟨_,by rw[atT,et]⟩
    ·exact⟨#[],by rw[old b _ z e]; simp⟩
  have hok:BN X.prog X.w H' h2:=λb u e=>by
   by_cases z1:b=f
   ·subst z1; rw[atf] at e; cases e; exact QJ gf
   by_cases z2:b=c'
   ·subst z2;rw[atc] at e;cases e;obtain⟨c9,o,vs,t,e9,ho,hd,hv⟩:=hrec;cases e9;exact Xw ⟨_,o,vs,t,rfl,kp _ _ ho,hd,hv⟩
   by_cases z3:b=T
   ·subst z3; rw[atT] at e; cases e; exact kp _ _ htb
   rw[atO b z1 z2 z3] at e;refine(I.hok b u e).FT (λc v hc r=>gk c v ?_ r) (λc r=>old c _ (nTo r λz=>by cases z) r) λc xs r=>old c _ (nTo r λz=>by cases z) r
   rcases hc with rfl | hc
   ·exact z3
   ·exact nTo hc λz=>by cases z
  refine q f c' H' _ (I.un un hok) old nf ⟨L++[(pos,c')],atT,λe he=>?_⟩ atc atf;rcases cS.mp he with he | he
  ·have:=hL e he
   exact old _ _ (nTo this λz=>by unfold ER at z; cases z) this
  ·rw[cW.mp he];exact atc
 | some cv =>
  obtain⟨e,he,rfl⟩:=OF (L:=L) (by simpa using hf);have hc':=hL e he;generalize e.2=c' at hf hc';refine kla_makeFunctionHit (mg:=X.mg) hcl I.ok.Dg (I.CH.Dg.keeps bk) hcode (hC.keeps bk) gT (by simpa using Lx L) hf ⟨bm,ob,b1,b2,b3,nT (I.bs _ _ b4).2,bk _ _ b4,b5,b6⟩ λctv h' tk hk hsz=>?_
  have nf:H h'.objs.size=none:=I.hok.fresh hsz;have I1:=(I.BJ (h':=h') (t':=tk) hk).laid (a:=h'.objs.size) (o:=EU (X.env.qual++"<lambda>") params body scope cl ((X.mg "__name__").getD .none) h'.objs.size c') (t':=tk) (h':=h'.push (kla_obj "<lambda>" (X.env.qual++"<lambda>") params body scope cl ((X.mg "__name__").getD .none) c' ctv)) (λb o e=>cj _ e) (cR _) (QJ (ctv:=ctv) (cU _ rfl));have sm:∀b o,H b=some o->AE H h'.objs.size (EU (X.env.qual++"<lambda>") params body scope cl ((X.mg "__name__").getD .none) h'.objs.size c') b=some o:=λb o e=>by rw[AW (BB e nf)]; exact e
  exact q _ c' _ _ I1 (λb o _ e=>sm b o e) nf ⟨L,sm _ _ hT,λe he=>sm _ _ (hL e he)⟩ (sm _ _ hc') AM
end
section
variable {M:Model} {A:Around} {E:Value->Shared->Prop} {s:Shared}
theorem Ut{names:List (Str×NameKind)}(h:∀y∈names,y.2≠.cell)(n:Nat)(cl:List (Str×Addr)):cellsFrom n names cl=cl:=by
 induction names with
 | nil=>rfl
 | cons y r ih =>
  obtain⟨x,k⟩:=y
  have:=h (x,k) (dr ..)
  unfold cellsFrom;rw[if_neg (by simpa using this)];exact ih λy hy=>h y (da _ hy)
theorem Vl{names:List (Str×NameKind)}(h:∀y∈names,y.2≠.cell)(hp:Heap):pushCells hp names=hp:=by
 induction names with
 | nil=>rfl
 | cons y r ih =>
  obtain⟨x,k⟩:=y
  have:=h (x,k) (dr ..)
  unfold pushCells;rw[if_neg (by simpa using this)];exact ih λy hy=>h y (da _ hy)
end
def Iw(qual:Str)(scope:Scope)(cl:List (Str×Addr))(L f:Addr)(cd:Value):Env:={ scope:=scope,locals:=L,globals:=mainGlobals,cells:=cl,qual:=qual++".<locals>.",func:=some f,code:=cd,frame:=some L,builtins:=builtinsNs }
def II(CX:DP)(P:Program)(w:World)(K:PySem.W.Frag)(mg:Str->Option Value)(base:Heap)(N:List Str)(qual:Str)(scope:Scope)(cl:List (Str×Addr))(f:Addr)(cd:Value)(A:Around)(outer:List Env)(s:Shared)(H:Hp)(E:XK):Cx where
 prog:=P
 w:=w
 K:=K
 mg:=mg
 base:=base
 A:=A.deeper (Iw qual scope cl s.heap.objs.size f cd)
 N:=N
 s₀:=s
 H₀:=H
 env:=Iw qual scope cl s.heap.objs.size f cd
 outer:=outer
 stack:=Iw qual scope cl s.heap.objs.size f cd :: outer
 ex:=[]
 BS:=true
 fn:=λ_=>false
 pn:=[]
 xe:=λe s'=>wpAny (model P w) (A.deeper (Iw qual scope cl s.heap.objs.size f cd)) (leaving (Iw qual scope cl s.heap.objs.size f cd) e) (λ_ s''=>CX outer H s E e s'') (λe' s''=>CX outer H s E e' s'') s'
section
variable {P:Program} {w:World} {K:Frag} {mg:Str->Option Value} {base:Heap}
end
section
variable {P:Program} {w:World} {K:PySem.W.Frag} {mg:Str->Option Value} {base:Heap} {N:List Str} {qual:Str} {scope:Scope} {cl:List (Str×Addr)} {f:Addr} {cd:Value} {A:Around} {outer:List Env} {s₀:Shared} {H₀:Hp} {E:XK}
end
section
variable {X:Cx}
end
section
variable {X:Cx} {params:Arguments} {body:PySem.Expr} {scope:Scope} {cl:List (Str×Addr)} {lpos:Pos} {c T:Addr}
structure Kr(X:Cx)(scope:Scope)(cl:List (Str×Addr))(N:List Str)(js:List Nat):Prop where
 clos:closureFor scope X.env=pure cl
 kind:scope.kind=.function
 co:scope.isCoroutine=false
 gen:scope.isGenerator=false
 nc:∀y∈scope.names,y.2≠.cell
 nm:∀(i:Nat) (x:Str),N[i]?=some x->∃j c,js[i]?=some j/\X.N[j]?=some x/\scope.names.lookup x=some .free/\cl.lookup x=some c/\X.env.cells.lookup x=some c/\X.env.scope.names.lookup x=some .cell
 back:∀x c,cl.lookup x=some c->X.env.cells.lookup x=some c
 has:∀x,(scope.names.lookup x=some .cell\/scope.names.lookup x=some .free)->∃c,cl.lookup x=some c
 own:∀x,X.fn x=true
end
section
variable {M:Model} {A:Around} {E:Value->Shared->Prop} {s:Shared}
theorem Ur {scope:Scope} {globals:Addr} {cl:List (Str×Addr)} {qual:Str} {func:Option Addr} {code:Value} {builtins:Addr} {Q:Env->Shared->Prop} {x:Str} {u:Value} (hk:scope.kind=.function) (hn:∀y∈scope.names,y.2≠.cell) (hx:scope.names.lookup x=some .local)
  (hQ:∀h',h'.Ns s.heap.objs.size (λy=>if y=x then some u else none)->(∀b o,s.heap.get? b=some o->h'.get? b=some o)->Q (newEnv scope s.heap.objs.size globals cl qual func code none builtins) { s with heap:=h',toks:=s.toks+1 }) :
  wpAny M A (newFunctionEnv scope globals cl [(x,u)] qual func code none builtins) Q E s:=by
 simp only[newFunctionEnv,Option.isSome_none,ft,if_false];refine wpAny_bind (wpAny_alloc ?_);refine wpAny_bind (wpAny_layCells _ (λname kind cells=>by cases hkc:kind == NameKind.cell <;> simp[hkc]) _ _ _ _ ?_);rw[Ut hn,Vl hn,List.forIn_cons];refine wpAny_bind (wpAny_bind (wpAny_bind (wpAny_storeName_local (env:=newEnv scope s.heap.objs.size globals cl qual func code none builtins) hx (Heap.Ns.new s.heap (.type "frame")) (λh' hn' sb=>wpAny_pure ?_) (by show(scope.kind == .class || (scope.kind == .module && _))=false; rw[hk]; rfl))));dsimp only;rw[List.forIn_nil];refine wpAny_pure (wpAny_pure (hQ h' hn' λb o e=>?_));have lt:=cV e;rw[sb.2 b (c8 lt)];exact cj _ e
end
structure Sr(scope:Scope)(cl:List (Str×Addr))(x:Str)(N:List Str)(vs:List V)(s:Shared)(H:Hp):Prop where
 px:scope.names.lookup x=some .local
 nm:∀(i:Nat) (x:Str),N[i]?=some x->∃c u v,scope.names.lookup x=some .free/\cl.lookup x=some c/\s.heap.IsCell c (some u)/\vs[i]?=some v/\Ae v u
 fr:∀x c,cl.lookup x=some c->H c=none/\∃v,s.heap.IsCell c v
 inj:∀x y c,cl.lookup x=some c->cl.lookup y=some c->x=y
 has:∀x,(scope.names.lookup x=some .cell\/scope.names.lookup x=some .free)->∃c,cl.lookup x=some c
 len:vs.length=N.length
section
variable {P:Program} {w:World} {K:Frag} {mg:Str->Option Value} {base:Heap}
theorem V1 {CX:DP} {k:Nat} {f c:Addr} {qual:Str} {params:Arguments} {body:PySem.Expr} {scope:Scope} {cl:List (Str×Addr)} {pm:Value} {x:Str} {N:List Str} {A:Around} {outer:List Env} {s:Shared} {H:Hp} {v:V} {u:Value} {vs:List V} {Q:VK} {E:XK} (hk:scope.kind=.function) (hco:scope.isCoroutine=false) (hgen:scope.isGenerator=false) (hnc:∀y∈scope.names,y.2≠.cell)
  (hr:Be (k+1) A) (e0:Fz P w K mg base A outer s H) (C:Sr scope cl x N vs s H) (rv:Ae v u)
  (hf:H f=some (EU qual params body scope cl pm f c)) (hc:H c=some (ER qual c)) (hb:∀ctv,bindArgs (kla_fn "<lambda>" qual params body scope cl pm (.ref c) ctv) ⟨[u],[]⟩=pure [(x,u)])
  (hbody:∃t,PE (II CX P w K mg base (x :: N) qual scope cl f (.ref c) A outer s H E) body t/\t (some v :: vs.map some) H Q):codeAny (model P w) A (.call (.ref f) ⟨[u],[]⟩) (CR CX outer P w H s Q E) s:=by
 have lim:s.heap.NoLimit:=e0.CH.nolimit.keeps λb o e=>(e0.bs b o e).1
 obtain⟨ctv,gf⟩:=WL e0.hok hf;refine kla_callFunE hr.depth gf rfl hco hgen rfl (V5 e0.hok hc) (wpAny_of_eq (hb ctv) ?_);refine Ur hk hnc C.px λh' hns kp=>?_
 refine⟨lim.keeps kp,kla_codeExpr ?_⟩;obtain⟨t,ht,hq⟩:=hbody;have noA:∀b:Addr,b∉(II CX P w K mg base (x :: N) qual scope cl f (.ref c) A outer s H E).ex:=λb z=>absurd (show b∈([]:List Addr) from z) (by simp)
 have I:AI (II CX P w K mg base (x :: N) qual scope cl f (.ref c) A outer s H E) [] (some v :: vs.map some) H { s with heap:=h',toks:=s.toks+1 }:=by
  refine⟨⟨e0.CH,hk,rfl,rfl,cR _,C.inj,C.has,λy c z _=>?_,λ_=>hr.hd,Around.frames_deeper e0.frames,.inr ⟨rfl,rfl⟩,λb z=>absurd z (noA b),e0.bs,e0.E4,λb _ _=>noA b,λb z=>absurd z (noA b),e0.D2,e0.Gn⟩,
   rfl,e0.bare,Un.BJ kp,⟨_,hns,λi y v' h1 h2 h3=>?_⟩,λy c h=>?_,e0.hok.fresh (cR _),λy c h=>(C.fr y c h).1,λp hp=>absurd (show p∈([]:List (Addr×Obj)) from hp) (by simp),e0.hok.BJ kp,?_⟩
  ·have z':false=true:=z;cases z'
  ·cases i with
   | zero =>
    cases h1;cases h2;exact⟨u,rv,.inl ⟨C.px,if_pos rfl⟩⟩
   | succ i =>
    have h1:N[i]?=some y:=h1;have h2:(vs.map some)[i]?=some (some v'):=h2;obtain⟨c,u,v',k1,k2,k3,k4,k5⟩:=C.nm i y h1;rw[cu,k4] at h2;cases h2;exact⟨u,k5,.inr ⟨.inr k1,c,k2,k3.keeps kp⟩⟩
  ·obtain⟨v,hv⟩:=(C.fr y c h).2;exact⟨v,hv.keeps kp⟩
  ·show(some v :: vs.map some).length=(x :: N).length;rw[dM,dM,cf,C.len]
 refine wpAny_mono (ht [] _ (some v :: vs.map some) H _ I hq) (λu s' hs=>?_) λe s' hs=>hs
 obtain⟨v,H',J,rv,q⟩:=hs;exact⟨v,H',J.os,J.bare,J.base,J.hok,rv,q⟩
end
theorem W5{α β:Type}{f:α->β}{l m:List β}{r:List α}(h:l.Perm m)(e:r.map f=m):∃p:List α,p.Perm r/\l=p.map f:=by
 induction h generalizing r with
 | nil=>exact⟨r,.refl _,e.symm⟩
 | cons x _ ih =>
  match r,e with
  | a :: r,e =>
   injection e with e1 e2
   obtain⟨p,p1,p2⟩:=ih e2;exact⟨a :: p,p1.cons a,by rw[eJ,e1,p2]⟩
 | swap x y l =>
  match r,e with
  | a :: b :: r,e =>
   injection e with e1 e2
   injection e2 with e2 e3
   exact⟨b :: a :: r,.swap _ _ _,by rw[eJ,eJ,e1,e2,e3]⟩
 | trans _ _ ih1 ih2 =>
  obtain⟨p,p1,p2⟩:=ih2 e;obtain⟨p',p3,p4⟩:=ih1 p2.symm;exact⟨p',p3.trans p1,p4⟩
theorem Pm:∀{ns:List Int} {us:List Value},AX (ns.map V.int) us->IntsAre us ns
 | [],_,h=>by cases h; exact .nil
 | n :: ns,_,h=>by
  cases h with
  | cons r rr =>
   obtain⟨t,rfl⟩:=r;exact .cons _ _ (Pm rr)
def EW(kz:List Int)(p:List Nat):Prop:=p.Perm (List.range kz.length)/\p.Pairwise λi j=>kz.getD i 0<=kz.getD j 0
theorem X9{kz:List Int}{keys:Array Value}{its:List Value}{xs:Array Keyed}(hk:IntsAre keys.toList kz)(hl:kz.length=its.length)(hp:xs.Perm (keys.zip its.toArray))(hs:SortedTo xs xs.size):∃p,EW kz p/\xs.map (·.2)=(p.map λi=>its.getD i Value.none).toArray:=by
 have lk:keys.toList.length=kz.length:=hk.length;have e:(List.range kz.length).map (λi=>(keys.toList.getD i Value.none,its.getD i Value.none))=keys.toList.zip its:=by
  refine fY λi=>?_
  rw[cu];rcases c5 i kz.length with z | z
  ·rw[eO z,cg (by rw[List.length_zip]; omega),List.getElem_zip];have k1:i<keys.size:=by rw[<-Array.length_toList]; omega
   simp[k1,show i<its.length by omega]
  ·rw[dF (by rw[c7]; exact z),dF (by rw[List.length_zip]; omega)]; rfl
 have hl':xs.toList.Perm (keys.toList.zip its):=by rw[<-ksk_zip]; exact Array.perm_iff_toList_perm.mp hp
 obtain⟨p,p1,p2⟩:=W5 hl' e;have num:∀i,i<kz.length->numOf (keys.toList.getD i Value.none)=kz.getD i 0:=λi hi=>by
  have:=congrArg (λl:List Int=>l.getD i 0) hk.nums
  rw[cw,cg (by omega)];simp only[cw,cu,cg (show i<keys.toList.length by omega),Option.map_some,Option.getD_some] at this ⊢;exact this
 refine⟨p,⟨p1,cY.mpr λi j hi hj hij=>?_⟩,?_⟩
 ·have lx:xs.size=p.length:=by rw[<-Array.length_toList,p2,cf]
  have q:=hs i j (Nat.le_of_lt hij) (by omega);rw[K_eq (by omega),K_eq (by omega)] at q;have at':∀k (hk:k<p.length),numOf (xs[k]'(by omega)).1=kz.getD p[k] 0:=λk hk=>by
   have e1:xs[k]'(by omega)=xs.toList[k]'(by rw[dw]; omega):=by rw[Array.getElem_toList]
   rw[e1];simp only[p2,List.getElem_map];exact num _ (cZ.mp (p1.mem_iff.mp (eP hk)))
  rw[at' i hi,at' j hj] at q;exact q
 ·refine Array.ext' ?_;rw[Array.toList_map,p2,fg]; rfl
section
variable {X:Cx} {pins:List (Addr×Obj)} {σ:St} {H:Hp} {s:Shared}
def SY(sp:Sp)(H:Hp)(x:V)(k:Int):Prop:=∀H2,AN H H2->∀QQ:VK,(∀H3,AN H2 H3->QQ (.int k) H3)->sp [x] H2 QQ E0
theorem VA {a kS:Addr} {e1:Nat} {its:List Value} {xs:List V} {kz:List Int} {Q:PySem.Fin->Shared->Prop} {A:Around} {E:Value->Shared->Prop} {φ:Heap->Prop} {kv:List Value} (I:AI X pins σ H s) (rv:AX xs its) (ha:s.heap.get? a=some (seqObj "list" #[] e1)) (hA:H a=some (.ext φ)) (hk:H kS=some (.AD (kz.map V.int))) (nak:kS≠a)
  (lk:kz.length=its.length) (rk:AX (kz.map V.int) kv) {kn:Nat} (ek:s.heap.get? kS=some (seqObj "list" kv.toArray kn)) (h64:its.length<64)
  (q:∀(p:List Nat) s',EW kz p->AI X pins σ (AE (AE H kS (.AD [])) a (.AD (p.map λi=>xs.getD i .Aj))) s'->Q (.done (.ret .none)) s') :
  wpAny (model X.prog X.w) A (ksk_end a false its.toArray e1 (.ref kS) kv.toArray) Q E s:=by
 have ik:IntsAre kv.toArray.toList kz:=by simpa using Pm rk
 have lkv:kv.length=its.length:=by have:=rk.length; rw[cf] at this; omega
 have tail:∀(st:SortSt),(arrOf st).Perm (kv.toArray.zip its.toArray)->SortedTo (arrOf st) (arrOf st).size->failedOf st=none->wpAny (model X.prog X.w) A (ksk_tail a false e1 (.ref kS) st) Q E s:=λst hp hs hf=>by
  obtain⟨p,op,har⟩:=X9 ik lk hp hs;unfold ksk_tail
  try dsimp only
  have pl:p.length=its.length:=by rw[op.1.length_eq,c7,lk]
  have I1:=I.GC (its':=[]) (ys:=[]) (f:=λ_=>#[]) (t':=s.toks) hk ek rfl .nil (by show 0<=sizeLine; exact dk _);have ha1:(s.heap.update kS (Obj.mapSeq λ_=>(#[]:Array Value))).get? a=some (seqObj "list" #[] e1):=by rw[fQ _ _ _ _ (eK nak)]; exact ha
  have hA1:(AE H kS (.AD [])) a=some (.ext φ):=by rw[AW (eK nak)]; exact hA
  have vp:=OS rv (p:=p) λi hi=>by have:=cZ.mp (op.1.mem_iff.mp hi); omega
  have lp:(p.map λi=>xs.getD i V.Aj).length<=sizeLine:=by rw[cf,pl,sizeLine_eq]; omega
  have qq:=PySem.IsL.update ha1 λ_=>(p.map λi=>its.getD i Value.none).toArray
  have I2:=I1.Eu (x:=a) (e:=a) (o:=.AD (p.map λi=>xs.getD i V.Aj)) (t':=s.toks) (by rw[hA1]; exact trivial) (.inl rfl) (λb' u hb hu=>(eR _ (Obj.mapSeq λ_=>(p.map λi=>its.getD i Value.none).toArray) (eK hb)).trans hu) ⟨_,qq⟩ ⟨lp,_,_,vp,qq⟩;refine wpAny_bind (listUpdate_at ek rfl ?_ (by rw[cx,lkv,sizeLine_eq]; omega) (dk _));refine wpAny_bind (wpAny_letGo ?_);refine wpAny_bind (seqEpoch_at ha1 rfl ?_);rw[har];refine wpAny_bind (listUpdate_at ha1 rfl ?_ (dk _) (by simp only[ft,if_false]; rw[cx,cf,pl,sizeLine_eq]; omega));rw[hf];simp only[bne_self_eq_false,ft,if_false];exact wpAny_pure (q _ _ op I2)
 have hzs:(kv.toArray.zip its.toArray).size=its.length:=by rw[Array.size_zip,cx,cx,lkv,Nat.min_self]
 unfold ksk_end
 try dsimp only
 rw[if_neg df];by_cases h2:its.toArray.size<2
 ·rw[if_pos h2,if_pos h2];refine wpAny_bind (wpAny_pure ?_);rw[StateT.run_pure];refine wpAny_bind (wpAny_pure ?_)
  try dsimp only
  rw[cx] at h2;rw[if_neg df];refine tail _ (Array.Perm.refl _) ?_ rfl;intro i j hij hj;have hj2:j<(kv.toArray.zip its.toArray).size:=hj;rw[hzs] at hj2
  have:i=j:=by omega
  subst this;exact dQ _
 ·rw[if_neg h2,if_neg h2];rw[cx] at h2;rw[ksk_kind ik (by rw[cx]; omega)];refine wpAny_bind (wpAny_pure ?_);rw[if_neg df];refine wpAny_bind (wpAny_mono (wpS_sortRuns (a₀:=kv.toArray.zip its.toArray) (st:=SortSt.mk' oneType' (kv.toArray.zip its.toArray) #[] 7 none)
   (Q:=λ_ st'=>(arrOf st').Perm (kv.toArray.zip its.toArray)/\failedOf st'=none/\SortedTo (arrOf st') (kv.toArray.zip its.toArray).size)
   (ksk_intKeys ik) ⟨Array.Perm.refl _,rfl,rfl,rfl⟩ (by rw[hzs]; omega) (by rw[hzs]; exact h64) λst' a1 a2 a3=>⟨a1,a2,a3⟩) ?_ λ_ _ e=>e)
  rintro⟨⟨⟩,st'⟩ s' ⟨rfl,hp,hf,hs⟩
  try dsimp only
  exact tail _ hp (by rw[hp.size_eq]; exact hs) hf
theorem Uj {fa a:Addr} {sp:Sp} {xs:List V} {kz:List Int} {H0:Hp} {Q:PySem.Fin->Shared->Prop} (ask:∀(H:Hp) (s:Shared) (x:V) (u:Value) (Q:VK),AI X pins σ H s->Ae x u->sp [x] H Q E0->wpAny (model X.prog X.w) X.A.in1.in1 (call (.ref fa) [u]) (EP X pins σ Q) (λ_ _=>False) s) (I:AI X pins σ H s) (ha:H a=some (.AD xs)) (s0:AN H0 H) (na:H0 a=none)
  (lr:kz.length=xs.length) (h64:xs.length<64) (keys:∀(i:Nat) (x:V) (k:Int),xs[i]?=some x->kz[i]?=some k->SY sp H0 x k)
  (q:∀(p:List Nat) s' H',EW kz p->AN H0 H'->H' a=some (.AD (p.map λi=>xs.getD i .Aj))->AI X pins σ H' s'->Q (.done (.ret .none)) s') :
  wpAny (model X.prog X.w) X.A.in1.in1 (ksk_tree a (.ref fa) false) Q X.xe s:=by
 obtain⟨z,its,n,rv,li,e⟩:=I.DJ ha;have I1:=I.GC (its':=[]) (ys:=[]) (f:=λ_=>#[]) (t':=s.toks) ha e rfl .nil (dk _);obtain⟨e1,ho1⟩:∃e1,(s.heap.update a (Obj.mapSeq λ_=>(#[]:Array Value))).get? a=some (seqObj "list" #[] e1):=⟨_,get?_update_seq e λ_=>#[]⟩;have I2:=I1.Eu (x:=a) (e:=a) (o:=.ext λh=>h.get? a=some (seqObj "list" #[] e1)) (t':=s.toks) (by rw[AM]; exact trivial) (.inl rfl) (λb u _ hu=>hu) ⟨_,ho1⟩ ⟨ho1,⟨_,ho1⟩,λh1 h2 p1 k1=>k1 _ p1⟩;rw[QR] at I2;unfold ksk_tree;refine wpAny_bind (listItems_at e rfl ?_);refine wpAny_bind (listUpdate_at e rfl ?_ (by rw[cx,<-li,sizeLine_eq]; omega) (dk _));refine wpAny_bind (seqEpoch_at ho1 rfl ?_);refine wpAny_bind (wpAny_newTuple ?_ (by show its.length<=_; rw[<-li,sizeLine_eq]; omega));refine wpAny_bind (wpAny_newList ?_ (dk _));refine wpAny_holding ?_;have I3:=I2.BJ (h':=(s.heap.update a (Obj.mapSeq λ_=>(#[]:Array Value))).push (seqObj "tuple" its.toArray 0)) (t':=s.toks) λb o q=>cj _ q
 have fk:(AE H a (.ext λh=>h.get? a=some (seqObj "list" #[] e1))) ((s.heap.update a (Obj.mapSeq λ_=>(#[]:Array Value))).push (seqObj "tuple" its.toArray 0)).objs.size=none:=I3.fresh;have I4:=I3.NI (its:=[]) (ys:=[]) (t':=s.toks) .nil (dk _);have s1:AN H0 (AE H a (.ext λh=>h.get? a=some (seqObj "list" #[] e1))):=λb o q=>by rw[AW (BB q na)]; exact s0 b o q
 have s2:AN H0 (AE (AE H a (.ext λh=>h.get? a=some (seqObj "list" #[] e1))) ((s.heap.update a (Obj.mapSeq λ_=>(#[]:Array Value))).push (seqObj "tuple" its.toArray 0)).objs.size (.AD [])):=λb o q=>by rw[AW (BB (s1 b o q) fk)]; exact s1 b o q
 have nak:((s.heap.update a (Obj.mapSeq λ_=>(#[]:Array Value))).push (seqObj "tuple" its.toArray 0)).objs.size≠a:=λy=>by rw[y,AM] at fk; cases fk
 have k0:H0 ((s.heap.update a (Obj.mapSeq λ_=>(#[]:Array Value))).push (seqObj "tuple" its.toArray 0)).objs.size=none:=by
  cases hq:H0 ((s.heap.update a (Obj.mapSeq λ_=>(#[]:Array Value))).push (seqObj "tuple" its.toArray 0)).objs.size with
  | none=>rfl
  | some o=>rw[s1 _ _ hq] at fk; cases fk
 have a4:(AE (AE H a (.ext λh=>h.get? a=some (seqObj "list" #[] e1))) ((s.heap.update a (Obj.mapSeq λ_=>(#[]:Array Value))).push (seqObj "tuple" its.toArray 0)).objs.size (.AD [])) a=some (.ext λh=>h.get? a=some (seqObj "list" #[] e1)):=by rw[AW (eK nak),AM]
 have k4:(AE (AE H a (.ext λh=>h.get? a=some (seqObj "list" #[] e1))) ((s.heap.update a (Obj.mapSeq λ_=>(#[]:Array Value))).push (seqObj "tuple" its.toArray 0)).objs.size (.AD [])) ((s.heap.update a (Obj.mapSeq λ_=>(#[]:Array Value))).push (seqObj "tuple" its.toArray 0)).objs.size=some (.AD ((kz.take 0).map V.int)):=AM;change wpAny _ _ _ _ _ { s with heap:=((s.heap.update a (Obj.mapSeq λ_=>(#[]:Array Value))).push (seqObj "tuple" its.toArray 0)).push (seqObj "list" #[] 0),toks:=s.toks };change AI X pins σ _ { s with heap:=((s.heap.update a (Obj.mapSeq λ_=>(#[]:Array Value))).push (seqObj "tuple" its.toArray 0)).push (seqObj "list" #[] 0),toks:=s.toks } at I4;generalize ((s.heap.update a (Obj.mapSeq λ_=>(#[]:Array Value))).push (seqObj "tuple" its.toArray 0)).objs.size=kS at I4 s2 nak k0 a4 k4 ⊢;generalize AE (AE H a (.ext λh=>h.get? a=some (seqObj "list" #[] e1))) kS (.AD [])=H4 at I4 s2 a4 k4;generalize ({ s with heap:=((s.heap.update a (Obj.mapSeq λ_=>(#[]:Array Value))).push (seqObj "tuple" its.toArray 0)).push (seqObj "list" #[] 0),toks:=s.toks }:Shared)=s4 at I4 ⊢;unfold ksk_rest;refine wpAny_bind (wpAny_rule ?_)
 first
  | rw[List.forIn_toArray]
  | (rw[<-Array.forIn_toList]; simp only[List.toList_toArray])
  | rw[<-Array.forIn_toList]
 refine wpAny_bind (ksk_fold (λi s'=>∃H',AI X pins σ H' s'/\AN H0 H'/\H' a=some (.ext λh=>h.get? a=some (seqObj "list" #[] e1))/\H' kS=some (.AD ((kz.take i).map V.int))) its 0 s4
  ⟨H4,I4,s2,a4,k4⟩ ?step ?done)
 case step =>
  rintro j u s' hu ⟨H',I',sH,aH,kH⟩;rw[Nat.zero_add] at kH ⊢;obtain⟨x,hx,rx⟩:=L7 rv hu;have hj:j<xs.length:=(cm.mp hx).1;have hkz:kz[j]?=some kz[j]:=cg (by omega);have lt:((kz.take j).map V.int).length=j:=by rw[cf,dm]; omega
  have ak:=ask H' s' x u (λv H2=>v=.int kz[j]/\AN H' H2) I' rx (keys j x _ hx hkz H' sH _ λH3 s3=>⟨rfl,s3⟩);refine wpAny_bind (wpAny_attempt (wpAny_mono ak (λv s'' he=>?_) λ_ _ hF=>hF.elim));obtain⟨w,H2,I2',rw',rfl,s3⟩:=he;obtain⟨tk,rfl⟩:=rw'
  try dsimp only
  obtain⟨hz,kv,kn,rk,lkv,ek⟩:=I2'.DJ (s3 _ _ kH);have lkv':kv.length=j:=by have:=rk.length; omega
  have tk1:(kz.take (j+1)).map V.int=(kz.take j).map V.int++[.int kz[j]]:=by
   rw[List.map_take,List.map_take,List.take_add_one,cu,hkz]; rfl
  have I5:=I2'.GC (its':=kv++[.int kz[j] tk]) (ys:=(kz.take (j+1)).map V.int) (f:=(·.push (.int kz[j] tk))) (t':=s''.toks) (s3 _ _ kH) ek (by simp) (by rw[tk1]; exact rk.append (.cons ⟨tk,rfl⟩ .nil)) (by rw[tk1,cX,lt,fm,sizeLine_eq]; omega);refine wpAny_bind (listUpdate_at ek rfl ?_ (by rw[cx,lkv',sizeLine_eq]; omega) (dg (Nat.le_of_eq (Array.size_push ..)) (by rw[cx,lkv',sizeLine_eq]; omega)));exact wpAny_pure ⟨rfl,_,I5,λb o q=>by rw[AW (BB q k0)]; exact s3 _ _ (sH _ _ q),by rw[AW (eK nak)]; exact s3 _ _ aH,AM⟩
 case done =>
  rintro s' ⟨H',I',sH,aH,kH⟩;rw[Nat.zero_add,dC (by omega)] at kH;obtain⟨hz,kv,kn,rk,lkv,ek⟩:=I'.DJ kH
  try dsimp only
  refine wpAny_bind (listItems_at ek rfl ?_);have ga:s'.heap.get? a=some (seqObj "list" #[] e1):=(show A9 X.prog X.w H' s'.heap a (.ext λh=>h.get? a=some (seqObj "list" #[] e1)) from I'.hok a _ aH).1;refine VA I' rv ga aH kH nak (by omega) rk ek (by omega) λp s'' hp I''=>?_
  refine q p s'' _ hp (λb o y=>?_) AM I'';rw[AW (BB y na),AW (BB y k0)];exact sH _ _ y
end
section
variable {prog:Program} {w:World} {A:Around} {E:Value->Shared->Prop} {s:Shared}
theorem US {R:Result->Shared->Prop} {r S:Addr} {a b c:Int} {t u v:Tok} {n c0:Nat} (hh:A.handled=none) (hr:IsRange s.heap r a b c t u v) (hsmall:Builtin.Range.small a b c=true) (hn:Builtin.Range.rangeSize a b c=n) (hlen:n<=2 ^ 24) (hS:s.heap.get? S=some { cls:=.type "list",data:=.seq #[] c0 })
  (hR:∀h' tk acc' c',(∀b o,b≠S->s.heap.get? b=some o->h'.get? b=some o)->h'.get? S=some { cls:=.type "list",dict:=none,data:=.seq acc' c',slots:=#[] } →
   ItemsOf (λi v=>∃t,v=.int (a+i*c) t) acc' n->R (.ok (.ret (.ref S))) { s with heap:=h',toks:=tk }):codeAny (model prog w) A (.builtin "list.__iadd__" ⟨[.ref S,.ref r],[]⟩) R s :=
 codeAny_builtin entry_list_iadd' (wpAny_extend_range hh hr hsmall hn hlen S (.ref S) c0 hS hR)
theorem T7 {r:Addr} {a b c:Int} {t u v:Tok} {n:Nat} {Q:List Value->Shared->Prop} (hh:A.handled=none) (hr:IsRange s.heap r a b c t u v) (hsmall:Builtin.Range.small a b c=true) (hn:Builtin.Range.rangeSize a b c=n) (hlen:n<=2 ^ 24)
  (h:∀(h':Heap) (tk:Nat) (acc:Array Value),s.heap.objs.size<h'.objs.size->(∀b o,s.heap.get? b=some o->h'.get? b=some o)->ItemsOf (λi v=>∃t,v=.int (a+i*c) t) acc n->Q acc.toList { s with heap:=h',toks:=tk }) :
  wpAny (model prog w) A (collect (.ref r)) Q E s:=by
 unfold collect;refine wpAny_bind (wpAny_runValue (codeAny_builtin entry_proto_collect' ?_));show wpAny _ _ (do again (.builtin "list.__iadd__" ⟨[<-newList [],.ref r],[]⟩)) _ _ s;refine wpAny_bind (wpAny_newList (wpAny_pure ⟨Code.quiet_builtin _ (by decide +kernel),US (s:={ s with heap:=s.heap.push (seqObj "list" #[] 0) }) (S:=s.heap.objs.size) hh (cj _ hr) hsmall hn hlen (cU _ rfl) λh' tk acc c' hk hS hI=>?_⟩))
 try dsimp only
 refine wpAny_bind (wpAny_load hS ?_);exact wpAny_pure (h h' tk acc (cV hS) (λb o e=>hk b o (c8 (cV e)) (cj _ e)) hI)
end
section
variable {prog:Program} {w:World} {A:Around} {E:Value->Shared->Prop} {s:Shared}
theorem UW {r fa:Addr} {n:Nat} {t u v:Tok} {Q:Value->Shared->Prop} (hh:A.handled=none) (hr:IsRange s.heap r 0 n 1 t u v) (h64:n<64)
  (h:∀(D:Addr) (its:List Value) (h':Heap) (tk:Nat),s.heap.objs.size<=D->(∀b o,s.heap.get? b=some o->h'.get? b=some o)->h'.get? D=some (seqObj "list" its.toArray 0)->AX ((List.range n).map λi:Nat=>V.int (i:Int)) its →
   wpAny (model prog w) A.in1.in1 (ksk_tree D (.ref fa) false) (λf s''=>f=.done (.ret .none)/\Q (.ref D) s'') E { s with heap:=h',toks:=tk }):wpAny (model prog w) A (call (.builtin "sorted") [.ref r] [(Str.ofString "key",.ref fa)]) Q E s:=by
 refine call_function_entry_kw kind_sorted plain_sorted entry_sorted (ksk_s1 _ _) ?_;unfold Builtin.«sorted»;refine wpAny_bind (m:=checkCount "sorted" 1 1 _) (wpAny_pure ?_);refine wpAny_bind (T7 hh hr (small_one (by omega) (by omega) (by omega) (by omega)) (n:=n) (by rw[rangeSize_one]; split <;> omega) (by omega) λh1 tk acc sz1 k1 hI=>?_);obtain⟨hl,hI⟩:=hI;have rv:AX ((List.range n).map λi:Nat=>V.int (i:Int)) acc.toList:=by
  refine Ll (by rw[cf,c7,dw,hl]) λi x u e1 e2=>?_
  have hi:i<n:=by
   have:=(cm.mp e2).1
   rw[dw,hl] at this;exact this
  rw[cu,eO hi] at e1;obtain⟨t',ht⟩:=hI i u (by rw[<-Array.getElem?_toList]; exact e2);cases e1;exact⟨t',by rw[ht]; congr 1; omega⟩
 have al:acc.toList.length=n:=by rw[dw,hl]
 refine wpAny_bind (wpAny_newList ?_ (by rw[al,sizeLine_eq]; omega));have hL:(h1.push (seqObj "list" acc.toList.toArray 0)).get? h1.objs.size=some (seqObj "list" acc.toList.toArray 0):=cU _ rfl;have keep:∀b o,s.heap.get? b=some o->(h1.push (seqObj "list" acc.toList.toArray 0)).get? b=some o:=λb o q=>cj _ (k1 b o q)
 show wpAny _ _ _ _ _ { s with heap:=h1.push (seqObj "list" acc.toList.toArray 0),toks:=tk };refine wpAny_bind (wpAny_holding (wpAny_call_entry_kw slot_list_sort ⟨_,hL,rfl⟩ entry_list_sort (wpAny_mono (?body:wpAny (model prog w) A.in1.in1 (Builtin.«list.sort» ⟨[.ref h1.objs.size],[(Str.ofString "key",.ref fa)]⟩) (λf s''=>f=.done (.ret .none)/\Q (.ref h1.objs.size) s'') E _) ?_ λ_ _ e=>e) (ksk_l1 _ _)))
 case body =>
  rw[ksk_t1];exact h _ _ _ _ (Nat.le_of_lt sz1) keep hL rv
 rintro f s'' ⟨rfl,hq⟩;exact⟨_,rfl,wpAny_pure ⟨_,rfl,hq⟩⟩
end
section
variable {X:Cx} {pins:List (Addr×Obj)} {σ:St} {H:Hp} {s:Shared} {params:Arguments} {body:PySem.Expr} {scope:Scope} {cl:List (Str×Addr)} {lpos:Pos} {c T:Addr}
def I0(f c:Addr)(q:Str)(params:Arguments)(body:PySem.Expr)(scope:Scope)(cl:List (Str×Addr))(pm:Value)(vs:List V)(rd:V->List V->Hp->VK->Prop):Sp:=λxs H Q _=>∃x,xs=[x]/\H f=some (EU q params body scope cl pm f c)/\H c=some (ER q c)/\rd x vs H Q
theorem PH {k:Nat} {pn:Str} {N:List Str} {js:List Nat} {f c':Addr} {pm:Value} {q:Str} {vs:List V} {rd:V->List V->Hp->VK->Prop} {x:V} {u:Value} {Q:VK} (S:Kr X scope cl N js) (hpx:scope.names.lookup pn=some .local) (hjs:js.length=N.length) (hvl:vs.length=js.length) (hvs:∀(i j:Nat),js[i]?=some j->∃v,vs[i]?=some v/\σ[j]?=some (some v)) (hr:Be (k+3) X.A)
  (hb:∀(qual:Str) (pm:Value) (c:Addr) (ctv u:Value),bindArgs (kla_fn "<lambda>" qual params body scope cl pm (.ref c) ctv) ⟨[u],[]⟩=pure [(pn,u)])
  (hbody:∀(f c:Addr) (A:Around) (outer:List Env) (s:Shared) (x:V) (vs:List V) (H:Hp) (Q:VK),rd x vs H Q->∃t,PE (II AK X.prog X.w X.K X.mg X.base (pn :: N) q scope cl f (.ref c) A outer s H E0) body t/\t (some x :: vs.map some) H Q)
  (I:AI X pins σ H s) (rx:Ae x u) (h:I0 f c' q params body scope cl pm vs rd [x] H Q E0):wpAny (model X.prog X.w) X.A.in1.in1 (call (.ref f) [u]) (EP X pins σ Q) (λ_ _=>False) s:=by
 obtain⟨x',e,h1,h2,h3⟩:=h;cases e;have C:Sr scope cl pn N vs s H:=by
  refine⟨hpx,λi x hi=>?_,λx cc hx=>?_,λx y cc hx hy=>?_,S.has,by omega⟩
  ·obtain⟨jj,cc,h1,h2,h3,h4,h5,h6⟩:=S.nm i x hi;obtain⟨v,h7,h8⟩:=hvs i jj h1;obtain⟨m,_,lc⟩:=I.Co;obtain⟨u,ru,lk⟩:=lc jj x v h2 h8 (.inr (.inl h6));rcases lk with ⟨z,_⟩ | ⟨_,c2,z1,z2⟩
   ·have z':X.env.scope.names.lookup x=some .local:=z;rw[h6] at z';cases z'
   ·rw[h5] at z1;cases z1;exact⟨cc,u,v,h3,h4,z2,h7,ru⟩
  ·have hx':=S.back x cc hx;exact⟨I.Dw x cc hx',I.cell x cc hx'⟩
  ·exact I.ok.inj x y cc (S.back x cc hx) (S.back y cc hy)
 refine wpAny_call (codeAny_mono (V1 (k:=k) (x:=pn) (N:=N) (vs:=vs) (v:=x) (CX:=AK) (Q:=Q) (E:=E0) S.kind S.co S.gen S.nc hr.in1.in1 I.TH.in1.in1 C rx h1 h2 (λctv=>hb _ _ _ ctv u) (hbody f c' _ _ s x vs H Q h3)) λr s' hq=>?_);cases r with
 | error e=>exact False.elim hq
 | ok fl =>
  cases fl with
  | ret u=>exact I.after hq
  | next=>exact False.elim hq
  | brk=>exact False.elim hq
  | cont=>exact False.elim hq
def Qp(ta:TE)(T:Addr)(q:Str)(params:Arguments)(body:PySem.Expr)(scope:Scope)(cl:List (Str×Addr))(pm:Value)(js:List Nat)(rd:V->List V->Hp->VK->Prop):TE:=λσ H Q=>ta σ H λv H1=>∃n:Nat,v=.int (n:Int)/\n<64/\Bs H1 T q /\
 ∃vs:List V,vs.length=js.length/\(∀(i j:Nat),js[i]?=some j->∃v,vs[i]?=some v/\σ[j]?=some (some v)) /\
 ∀(f c:Addr) (H2:Hp),Cv T H1 H2->H1 f=none->Bs H2 T q->H2 c=some (ER q c)->H2 f=some (EU q params body scope cl pm f c)->∃kz:List Int,kz.length=n/\(∀(i:Nat) (k:Int),kz[i]?=some k->SY (I0 f c q params body scope cl pm vs rd) H2 (.int (i:Int)) k) /\
 ∀(D:Addr) (p:List Nat) (H':Hp),EW kz p->AN H2 H'->H2 D=none->H' D=some (.AD (p.map λi:Nat=>V.int (i:Int)))->Q (.ref D) H'
theorem Wa {k:Nat} {pn:Str} {N:List Str} {js:List Nat} {rd:V->List V->Hp->VK->Prop} {a:PySem.Expr} {kp p p' rpos pos:Pos} {ta:TE} (hc:X.BS=true) (S:Kr X scope cl N js) (hpx:scope.names.lookup pn=some .local) (hjs:js.length=N.length) (hr:Be (k+3) X.A) (hg:Gl X "sorted") (hm:X.mg "sorted" = none) (hg2:Gl X "range") (hm2:X.mg "range" = none) (ha:PE X a ta)
  (hcode:X.env.code=.ref c) (hC:CodeHd X.base c T) (hB:EN X.mg X.base) (hdef:defaultsOf params X.env=([],[]))
  (hb:∀(qual:Str) (pm:Value) (c:Addr) (ctv u:Value),bindArgs (kla_fn "<lambda>" qual params body scope cl pm (.ref c) ctv) ⟨[u],[]⟩=pure [(pn,u)])
  (hbody:∀(f c:Addr) (A:Around) (outer:List Env) (s:Shared) (x:V) (vs:List V) (H:Hp) (Q:VK),rd x vs H Q->∃t,PE (II AK X.prog X.w X.K X.mg X.base (pn :: N) (X.env.qual++"<lambda>") scope cl f (.ref c) A outer s H E0) body t/\t (some x :: vs.map some) H Q)
  (hs:starEach [.Call (.Name "range" p') [a] [] rpos] X.env=[(false,eval (.Call (.Name "range" p') [a] [] rpos) X.env)]:=by rfl) (hs2:starEach [a] X.env=[(false,eval a X.env)]:=by rfl) :
  PE X (.Call (.Name "sorted" p) [.Call (.Name "range" p') [a] [] rpos] [⟨some "key",.Lambda params body scope lpos,kp⟩] pos) (Qp ta T (X.env.qual++"<lambda>") params body scope cl ((X.mg "__name__").getD .none) js rd):=by
 intro pins s σ H Q I h;refine wpAny_Call_Name_kw (Dt I hg hm N6 ?_ (by decide) (by decide));refine callWith_kw ?_ (by rw[hs]; rfl) (by rw[hs]; rfl) rfl rfl;rw[hs];refine Calls.spliced_cons ?_;refine wpAny_Call_Name_kw (Dt I hg2 hm2 boot_range ?_ (by decide) (by decide));have PAl:PA X [a] (BQ ta B7):=AA ha AG (by rw[hs2]; rfl);have hq:BQ ta B7 σ H (λvs H1=>match vs with
   | [v]=>Qp (λ_ H Q=>Q v H) T (X.env.qual++"<lambda>") params body scope cl ((X.mg "__name__").getD .none) js rd σ H1 Q
   | _=>False):=h
 refine eh (AZ (PAl rpos pins _ σ H _ I hq) λus s2 ⟨vs,H2,I2,r2,q2⟩=>?_) (by rw[hs2]; rfl) (by rfl);cases r2 with
 | nil=>exact False.elim q2
 | cons r rr =>
  cases rr with
  | cons _ _=>exact False.elim q2
  | nil =>
   obtain⟨n,rfl,hn,hT,vs,hvl,hvs,hk⟩:=q2;obtain⟨t,rfl⟩:=r;refine call_range_1 (Calls.spliced_nil ?_);have I3:=I2.BJ (h':=s2.heap.push { cls:=.type "range",data:=.fields #[.int 0 s2.toks,.int (n:Int) t,.int 1 (s2.toks+1)] }) (t':=s2.toks+1+1) λb o e=>cj _ e
   have gr:(s2.heap.push { cls:=.type "range",data:=.fields #[.int 0 s2.toks,.int (n:Int) t,.int 1 (s2.toks+1)] }).get? s2.heap.objs.size=some { cls:=.type "range",data:=.fields #[.int 0 s2.toks,.int (n:Int) t,.int 1 (s2.toks+1)] }:=cU _ rfl;have I4:AI X ((s2.heap.objs.size,({ cls:=.type "range",data:=.fields #[.int 0 s2.toks,.int (n:Int) t,.int 1 (s2.toks+1)] }:Obj)) :: pins) σ H2 _:=I3.KZ (λp hp=>?pin)
   case pin =>
    rcases cP.mp hp with rfl | hp
    ·exact⟨gr,I2.fresh,fj I2.lt,I2.Ss (cR _),λv z=>by cases z⟩
    ·exact I3.pin p (dA _ hp)
   refine kws_cons (OP I4 hcode hC hB S.clos hdef hT λf c' H5 s5 I5 bt nf tb hc' hf'=>kws_nil ?_);have g5:=(I5.pin _ (dA _ (dr ..))).1;obtain⟨kz,lkz,keys,q⟩:=hk f c' H5 bt nf tb hc' hf';refine UW (n:=n) (I5.ok.hd hc) g5 hn λD its h' tk hD keep hg rv=>?_
   have hn':H5 D=none:=I5.hok.fresh hD;have lx:((List.range n).map λi:Nat=>V.int (i:Int)).length=n:=by rw[cf,c7]
   have I6:=I5.laid (a:=D) (o:=.AD ((List.range n).map λi:Nat=>V.int (i:Int))) (t':=tk) keep hD (show A9 X.prog X.w _ h' D (.AD _) from ⟨by rw[lx,sizeLine_eq]; omega,its,0,rv,hg⟩);refine Uj (sp:=I0 f c' (X.env.qual++"<lambda>") params body scope cl ((X.mg "__name__").getD .none) vs rd) (λH s x u Q I rx hx=>PH S hpx hjs hvl hvs hr hb hbody I rx hx) I6 AM (H0:=H5) (λb o e=>by rw[AW (BB e hn')]; exact e) hn' (by omega) (by omega) (λi x k e1 e2=>?_) λp s'' H' hp sH hA I''=>⟨rfl,.ref _,H',I''.KZ λp hp=>?_,rfl,q D p H' hp sH hn' ?_⟩
   ·rw[cu] at e1;obtain⟨j,hj,rfl⟩:=dJ.mp e1;have il:i<n:=by have:=(cm.mp hj).1; rwa [c7] at this
    rw[eO il] at hj;cases hj;exact keys i k e2
   ·exact I''.pin p (dA _ (da _ hp))
   ·rw[hA];congr 2;refine fG λi hi=>?_
    have il:i<n:=by have:=cZ.mp (hp.1.mem_iff.mp hi); omega
    rw[cw,cu,eO il]; rfl
def Qu(ta:TE)(T:Addr)(q:Str)(params:Arguments)(body:PySem.Expr)(scope:Scope)(cl:List (Str×Addr))(pm:Value)(js:List Nat)(rd:V->List V->Hp->VK->Prop):TE:=λσ H Q=>ta σ H λv H1=>Bs H1 T q /\
 ∃vs:List V,vs.length=js.length/\(∀(i j:Nat),js[i]?=some j->∃v,vs[i]?=some v/\σ[j]?=some (some v)) /\
 ∀(f c:Addr) (H2:Hp),Cv T H1 H2->H1 f=none->Bs H2 T q->H2 c=some (ER q c)->H2 f=some (EU q params body scope cl pm f c)->RG (I0 f c q params body scope cl pm vs rd) v H2 Q
theorem WV {k:Nat} {pn:Str} {N:List Str} {js:List Nat} {rd:V->List V->Hp->VK->Prop} {e:PySem.Expr} {kp p pos:Pos} {ta:TE} (S:Kr X scope cl N js) (hpx:scope.names.lookup pn=some .local) (hjs:js.length=N.length) (hr:Be (k+3) X.A) (hg:Gl X "sorted") (hm:X.mg "sorted" = none) (ha:PE X e ta)
  (hcode:X.env.code=.ref c) (hC:CodeHd X.base c T) (hB:EN X.mg X.base) (hdef:defaultsOf params X.env=([],[]))
  (hb:∀(qual:Str) (pm:Value) (c:Addr) (ctv u:Value),bindArgs (kla_fn "<lambda>" qual params body scope cl pm (.ref c) ctv) ⟨[u],[]⟩=pure [(pn,u)])
  (hbody:∀(f c:Addr) (A:Around) (outer:List Env) (s:Shared) (x:V) (vs:List V) (H:Hp) (Q:VK),rd x vs H Q->∃t,PE (II AK X.prog X.w X.K X.mg X.base (pn :: N) (X.env.qual++"<lambda>") scope cl f (.ref c) A outer s H E0) body t/\t (some x :: vs.map some) H Q)
  (hs:starEach [e] X.env=[(false,eval e X.env)]:=by rfl):PE X (.Call (.Name "sorted" p) [e] [⟨some "key",.Lambda params body scope lpos,kp⟩] pos) (Qu ta T (X.env.qual++"<lambda>") params body scope cl ((X.mg "__name__").getD .none) js rd):=by
 intro pins s σ H Q I h;refine wpAny_Call_Name_kw (Dt I hg hm N6 ?_ (by decide) (by decide));have PAl:PA X [e] (BQ ta B7):=AA ha AG (by rw[hs]; rfl);have hq:BQ ta B7 σ H (λvs H1=>match vs with
   | [v]=>Qu (λ_ H Q=>Q v H) T (X.env.qual++"<lambda>") params body scope cl ((X.mg "__name__").getD .none) js rd σ H1 Q
   | _=>False):=h
 refine callWith_kw (AZ (PAl pos pins s σ H _ I hq) λus s1 ⟨vs,H1,I1,r1,q1⟩=>?_) (by rw[hs]; rfl) (by rw[hs]; rfl) rfl rfl;cases r1 with
 | nil=>exact False.elim q1
 | cons r rr =>
  cases rr with
  | cons _ _=>exact False.elim q1
  | nil =>
   obtain⟨hT,vs,hvl,hvs,hk⟩:=q1;refine kws_cons (OP I1 hcode hC hB S.clos hdef hT λf c' H2 s2 I2 bt nf tb hc' hf'=>kws_nil ?_);exact Uq (sp:=I0 f c' (X.env.qual++"<lambda>") params body scope cl ((X.mg "__name__").getD .none) vs rd) (λH s x u Q I rx hx=>PH S hpx hjs hvl hvs hr hb hbody I rx hx) I2 r (hk f c' H2 bt nf tb hc' hf')
end
theorem WW{α:Type}(l:List α)(d:α):(List.range l.length).map (λi=>l.getD i d)=l:=by
 refine List.ext_getElem (by simp) λi h1 h2=>?_
 simp at h1;simp[h1]
def Dx(H:Hp)(b:Addr)(r:List Int):Prop:=H b=some (.AF (r.map V.int))
theorem Hy{H H':Hp}{b:Addr}{r:List Int}(s:AN H H')(h:Dx H b r):Dx H' b r:=s _ _ h
section
variable {X:Cx} {pins:List (Addr×Obj)} {σ:St} {H:Hp} {s:Shared}
theorem WX{H:Hp}{bs:List Addr}{rows:List (List Int)}(hA:My.At Dx H bs rows){p:Array Nat}(g:Az rows.length p)(u:Ed (λi j=>Al (rows.getD i []) (rows.getD j [])) p rows.length):
  My.At Dx H (p.toList.map λi=>bs.getD i 0) (p.toList.map λi=>rows.getD i [])/\(p.toList.map λi=>rows.getD i []).Perm rows/\(p.toList.map λi=>rows.getD i []).Pairwise (λa b=>Al a b=true)/\(p.toList.map λi=>(bs.map Value.ref).getD i Value.none)=(p.toList.map λi=>bs.getD i 0).map Value.ref:=by
 have lr:bs.length=rows.length:=hA.1;have lt:∀i∈p.toList,i<rows.length:=λi hi=>cZ.mp (g.pm.mem_iff.mp hi)
 refine⟨⟨by simp,λi b x e1 e2=>?_⟩,?_,?_,?_⟩
 ·rw[cu] at e1 e2;obtain⟨k,ek,rfl⟩:=dJ.mp e1;rw[ek] at e2;obtain rfl:=Option.some.inj e2;have hk:=lt k (cq ek);refine hA.2 k _ _ ?_ ?_
  ·rw[cw,cg (by omega)]; rfl
  ·show rows[k]?=some (rows.getD k []);rw[cw,cg hk]; rfl
 ·refine(g.pm.map _).trans ?_;rw[WW]
 ·rw[fE,cY];intro i j hi hj hij;have sz:p.toList.length=rows.length:=by rw[dw,g.sz]
  have:=u i j hij (by omega)
  have e:∀k (hk:k<p.toList.length),p.getD k 0=p.toList[k]:=λk hk=>by
   have hk':k<p.size:=by rwa [dw] at hk
   simp[hk']
  dsimp only at this
  rwa [e i hi,e j hj] at this
 ·rw[fg];refine fG λi hi=>?_
  have:=lt i hi
  simp[show i<bs.length by omega]
theorem XN{rows:List (List Int)}(h:rows.length<2):rows.Pairwise (λa b=>Al a b=true):=by
 match rows,h with
 | [],_=>exact .nil
 | [x],_=>exact List.pairwise_singleton _ _
theorem Nx:CT X (.builtin "sorted") (λxs H Q=>∃(p:Addr) (bs:List Addr) (rows:List (List Int)),xs=[.ref p]/\H p=some (.AD (bs.map V.ref))/\My.At Dx H bs rows/\(∀r∈rows,r≠[])/\rows.Nodup/\rows.length<64 /\
  ∀(l:Addr) (cs:List Addr) (rs:List (List Int)),H l=none->My.At Dx H cs rs->rs.Perm rows->rs.Pairwise (λa b=>Al a b=true)->Q (.ref l) (AE H l (.AD (cs.map V.ref)))):=by
 intro pins s σ H xs us Q I r h;obtain⟨p,bs,rows,rfl,hp,hA,hne,nd,h64,q⟩:=h;obtain⟨u,rfl,r1⟩:=Ey r;cases r1;obtain⟨its,rv,pl,_⟩:=I.list (AJ.of (K:=X.K) hp);obtain rfl:=Ik rv;have lr:bs.length=rows.length:=hA.1;have hn:H (s.heap.objs.size+1)=none:=I.hok.fresh (Nat.le_succ _);refine VJ pl.isList (by rw[cf]; omega) λs' keep hsz hD es=>?_
 have fin:∀(cs:List Addr) (rs:List (List Int)),My.At Dx H cs rs->rs.Perm rows->rs.Pairwise (λa b=>Al a b=true)->EP X pins σ Q (.ref (s.heap.objs.size+1)) { s' with heap:=sortedHeap s'.heap (s.heap.objs.size+1) (bs.map Value.ref) (cs.map Value.ref).toArray }:=λcs rs h1 h2 h3=>by
  obtain⟨e,he⟩:=sortedHeap_at (out:=(cs.map Value.ref).toArray) hD;have lc:cs.length=rows.length:=h1.1.trans h2.length_eq;have hz:(cs.map V.ref).length<=sizeLine:=by rw[cf,sizeLine_eq]; omega
  refine⟨.ref (s.heap.objs.size+1),_,?_,rfl,q _ cs rs hn h1 h2 h3⟩;rw[es];exact I.laid (t':=s.toks) (λb o e=>sortedHeap_old (c8 (eY (cV e))) (keep b o e)) (Nat.le_succ _) (show A9 X.prog X.w _ _ _ (.AD (cs.map V.ref)) from ⟨hz,cs.map Value.ref,e,Od cs,he⟩)
 rcases c5 rows.length 2 with z | z
 ·exact Wi hD (by rw[cf]; omega) ⟨rfl,fin bs rows hA (List.Perm.refl _) (XN z)⟩
 have low:∀(i:Nat) (b:Addr) (r:List Int),bs[i]?=some b->rows[i]?=some r->b<s.heap.objs.size:=λi b r h1 h2=>by
  obtain⟨ys,⟨o,e1,_⟩,_⟩:=Lq I (hA.2 i b r h1 h2);exact cV e1
 refine VT hD ⟨lr,λi b r h1 h2=>⟨hne r (cq h2),?_⟩⟩ (λb hb=>?_) nd (by omega) (by omega) λpp g u=>⟨rfl,?_⟩
 ·obtain⟨ys,⟨o,e1,e2⟩,hi⟩:=Lq I (hA.2 i b r h1 h2);exact⟨ys,⟨o,keep _ _ e1,e2⟩,hi⟩
 ·obtain⟨i,hi,rfl⟩:=dS hb;exact c8 (eY (low i _ _ (cg hi) (cg (by omega))))
 ·obtain⟨a1,a2,a3,a4⟩:=WX hA g u;rw[a4];exact fin _ _ a1 a2 a3
end
end L2
namespace L2
open PySem PySem.Spec PyProof.Rows
def LO(K:PySem.W.Frag)(a:Addr)(n:Nat):It :=
 ⟨λi H=>∃xs x,AJ K H a xs/\xs.length=n/\xs.reverse[i]?=some x,λi H x H'=>H'=H/\∀xs,AJ K H a xs->xs.reverse[i]?=some x,λi _=>n<=i⟩
theorem Wh{P:Program}{w:World}{K:PySem.W.Frag}{tg:Expr}(a it:Addr)(n:Nat):HU P w K tg (LO K a n) [it] it (λi h=>i<=n/\h.IsRevIter it a ((n:Int)-1-(i:Int))) where
 mem:=by simp
 obj:=λi h st b hb=>by
  have e:b=it:=by simpa using hb
  subst e;obtain⟨o,e,c,d⟩:=st.2;exact⟨o,e,λv z=>by rw[d] at z; cases z⟩
 keep:=λi h h' st k=>⟨st.1,st.2.at λo e=>k it (by simp) o e⟩
 item:=by
  intro X hP hw hK hc i pins s σ H E I hf st hg;subst hP hw hK;obtain⟨xs,x,hq,ln,hx⟩:=hg;have il:i<n:=by have:=(cm.mp hx).1; rw[List.length_reverse] at this; omega
  have hx':xs[n-1-i]?=some x:=by rw[List.getElem?_reverse (by omega),ln] at hx; exact hx
  obtain⟨its,rv,p,hz⟩:=I.list hq;obtain⟨u,hu,ru⟩:=rv.get hx';obtain⟨f0,f1,f2,f3,f4,f5⟩:=hf it (by simp);have hit:=st.2;rw[show(n:Int)-1-(i:Int)=((n-1-i:Nat):Int) by omega] at hit;refine wpAny_pyNext_rev_item hit p.isList (x:=u) (by simpa using hu) λh' st' sb=>?_
  have I1:AI X pins σ H { s with heap:=h' }:=I.Er (t':=s.toks) (λb o hb e=>(sb.2 b hb).trans e) f0 f1 f3 f4 f5;obtain⟨o,e,c,d⟩:=id st';rw[show((n-1-i:Nat):Int)-1=(n:Int)-1-((i+1:Nat):Int) by omega] at st';exact⟨u,rfl,Ks (s:={ s with heap:=h' }) e c d (by decide) ⟨x,H,I1,ru,⟨rfl,λys hy=>by rw[I.list_inj hy hq]; exact hx⟩,⟨il,st'⟩,λb hb=>(hf b hb).1⟩⟩
 done:=by
  intro X hP hw hK hc i pins s σ H E I hf st hg;subst hP hw hK;have hg:n<=i:=hg;obtain⟨f0,f1,f2,f3,f4,f5⟩:=hf it (by simp);have hit:=st.2
  have:=st.1
  rw[show(n:Int)-1-(i:Int)=-1 by omega] at hit;exact wpAny_pyNext_rev_end (I.ok.hd hc) hit λh' eb=>⟨rfl,I.Er (t':=s.toks) (λb o hb e=>eb b o hb e) f0 f1 f3 f4 f5⟩
 self:=λ_ _ _ _ _ st h=>wpAny_pyIter_revIter st.2 h
section
variable {X:Cx} {tg:Expr}
def bP(K:PySem.W.Frag)(tl:TE):TI:=λσ H R=>tl σ H λx H1=>∃a xs,x=.ref a/\AJ K H1 a xs/\R (LO K a xs.length) H1
theorem YW{l:PySem.Expr}{tl:TE}{p rpos:Pos}(hg2:Gl X "reversed")(hm2:X.mg "reversed" = none)(hl:PE X l tl)(hs2:starEach [l] X.env=[(false,eval l X.env)]:=by rfl):PI X tg (.Call (.Name "reversed" p) [l] [] rpos) (bP X.K tl):=by
 intro pins s σ H R I h;refine wpAny_Call_Name_kw (Dt I hg2 hm2 (show bootBuiltins "reversed" = some (.type "reversed") by decide +kernel) ?_ (by decide) (by decide));have PAl:PA X [l] (BQ tl B7):=AA hl AG (by rw[hs2]; rfl);have hq:BQ tl B7 σ H (λvs H1=>match vs with
   | [x]=>∃a xs,x=.ref a/\AJ X.K H1 a xs/\R (LO X.K a xs.length) H1
   | _=>False):=h
 refine eh (AZ (PAl rpos pins _ σ H _ I hq) λus s2 ⟨vs,H2,I2,r2,q2⟩=>?_) (by rw[hs2]; rfl) (by rfl);cases r2 with
 | nil=>exact False.elim q2
 | cons r rr =>
  cases rr with
  | cons _ _=>exact False.elim q2
  | nil =>
   obtain⟨a,xs,rfl,hq,q⟩:=q2;cases r;obtain⟨its,rv,pl,hz⟩:=I2.list hq;have ln:=rv.length;refine call_reversed_list (items:=its.toArray) pl.isList ?_;have st:(s2.heap.push (revObj a ((its.toArray.size:Int)-1))).IsRevIter s2.heap.objs.size a ((its.toArray.size:Int)-1):=⟨_,cU _ rfl,rfl,rfl⟩;refine wpAny_pyIter_revIter (s:={ s2 with heap:=s2.heap.push (revObj a ((its.toArray.size:Int)-1)) }) st ?_;refine⟨s2.heap.objs.size,[s2.heap.objs.size],_,_,H2,rfl,I2.BJ (t':=s2.toks) λb o e=>cj _ e,Wh a _ xs.length,⟨dk _,?_⟩,λb hb=>?_,q⟩
   ·rw[cx,<-ln] at st;rw[show((xs.length:Int)-1-((0:Nat):Int))=(xs.length:Int)-1 by omega];rw[cx,<-ln];exact st
   ·have e:b=s2.heap.objs.size:=by simpa using hb
    subst e;exact I2.HN (cR _) (I2.hok.fresh (cR _))
end
section
variable {pr:Program} {w:World} {A:Around} {E:Value->Shared->Prop}
theorem Pc{j t:Addr}{zs:Array Value}(ne:t≠j):∀(n i:Nat) (s:Shared) (Q:List Value->Shared->Prop),s.heap.IsListIter j t i->s.heap.IsList t zs->i+n<=zs.size →
  (∀g,g.IsListIter j t (i+n)->Heap.SameBut j s.heap g->Q ((zs.toList.drop i).take n) { s with heap:=g })->wpAny (model pr w) A (draw (.ref j) n) Q E s
 | 0,i,s,Q,a,_,_,q=>wpAny_pure (M:=model pr w) (by simpa using q s.heap a (Heap.SameBut.refl ..))
 | n+1,i,s,Q,a,b,le,q=>by
  have lt:i<zs.size:=by omega
  show wpAny _ _ (pyNext (.ref j) >>= _) Q E s;refine wpAny_bind (wpAny_pyNext_list_item a b (x:=zs[i]) (by simp[lt]) λg1 a1 e1=>?_);refine wpAny_bind (wpAny_holding (Pc ne n (i+1) _ _ a1 (b.extBut e1.extBut ne) (by omega) λg2 a2 e2=>wpAny_pure ?_));have z:=q g2 (by rw[show i+(n+1)=i+1+n by omega]; exact a2) (e1.trans e2);rw[show zs.toList.drop i=zs[i] :: zs.toList.drop (i+1) by simp[List.drop_eq_getElem_cons,lt],List.take_succ_cons] at z;exact z
theorem YF {s:Shared} {t:Addr} {zs:Array Value} {Q:List Value->Shared->Prop} (hh:A.handled=none) (b:s.heap.IsList t zs)
  (q:∀g,Heap.ExtBut s.heap.objs.size s.heap g->Q zs.toList { s with heap:=g }):wpAny (model pr w) A (unpackItems (.ref t) zs.size none) Q E s:=by
 have ne:t≠s.heap.objs.size:=by obtain⟨o,ho,_⟩:=b; exact c8 (cV ho)
 unfold unpackItems;refine wpAny_bind ?_;unfold notIterableAtAll;refine wpAny_bind (wpAny_specialOf b.typeIs slot_list_iter.lookup (wpAny_pure ?_));rw[if_neg df];refine wpAny_bind (wpAny_holding (wpAny_pyIter_list b ?_));refine wpAny_bind (wpAny_holding (Pc ne zs.size 0 _ _ ⟨_,cU _ rfl,rfl,rfl⟩ (b.push _) (by omega) λg1 a1 e1=>?_));rw[List.drop_zero,dC (by simp),if_neg (by simp)];refine wpAny_bind (wpAny_holding (wpAny_pyNext_list_end hh a1 ((b.push _).extBut e1.extBut ne) (by simp) λg2 e2=>?_));rw[if_neg (by simp)];exact wpAny_pure (q g2 λc o hc e=>e2 c o hc (e1.extBut c o hc (cj _ e)))
end
section
variable {X:Cx} {pos:Pos}
def SR(K:PySem.W.Frag)(n:Nat)(t:D9):TG:=λv σ H Q=>∃a xs,v=.ref a/\AJ K H a xs/\xs.length=n/\t xs σ H Q
theorem Yx {es:List Expr} {k:Nat} {t:D9} {n:Nat} (hc:X.BS=true) (h:Hn X es t)
  (hn:(assignEach es X.env).length=n:=by rfl) (hst:(assignEach es X.env).findIdx? (·.1)=none:=by rfl):PG X (.Tuple es k pos) (SR X.K n t):=by
 intro pins s σ H v u Q I r hw;obtain⟨a,xs,rfl,hq,hl,hw⟩:=hw;cases r;obtain⟨its,rv,⟨o,m,e,c,_,d⟩,hz⟩:=I.list hq;have il:s.heap.IsList a its.toArray:=⟨o,e,c,m,d⟩;have ln:(assignEach es X.env).length=its.toArray.size:=by simp[hn,<-hl,rv.length]
 rw[assign_Tuple];refine wpAny_bind (wpAny_standAt ?_);unfold unpack;rw[ln,hst];refine wpAny_bind (wpAny_holding (YF (I.ok.hd hc) il λg hx=>?_));have I1:AI X pins σ H { s with heap:=g }:=I.BJ (t':=s.toks) λb o e=>hx b o (c8 (cV e)) e
 exact h pins _ σ H xs _ Q I1 (by simpa using rv) hw
theorem aK {K:PySem.W.Frag} {es:List PySem.Expr} {k:Nat} {t:D9} {n:Nat} (hc:X.BS=true) (g:Hn X es t) (h:X.K=K:=by rfl)
  (hn:(assignEach es X.env).length=n:=by rfl) (hs:(assignEach es X.env).findIdx? (·.1)=none:=by rfl):PG X (.Tuple es k pos) (SR K n t):=h ▸ Yx hc g hn hs
end
end L2
namespace L2
open PySem PySem.Spec PyProof.Rows PySem.W
theorem Up {P:Program} {w:World} {K:PySem.W.Frag} {mg mb:Str->Option Value} {k:Nat} {fa a:Addr} {Ts:List Addr} {fd:FuncData} {x:Str} {sp:Sp} {s₁:Shared} {vs:List Value} {ns:List Int}
  (KX:K.In s₁.heap) (hns:s₁.heap.Ns mainGlobals mg) (hb:s₁.heap.Ns builtinsNs mb) (hbb:∀x:Str,x≠"__name__"->mb x=bootBuiltins x) (hlim:s₁.heap.NoLimit) (hg:s₁.gens = #[])
  (gT:∀T∈Ts,s₁.heap.get? T=some (tabObj #[])) (hKT:∀T∈Ts,K.lookup T=none) (hC:∀T∈Ts,∃c,CodeHd s₁.heap c T) (hbm:EN mg s₁.heap)
  (ha:s₁.heap.get? a=some { cls:=.type "list",data:=.seq vs.toArray }) (hi:IntsAre vs ns) (hl:ns.length<=sizeLine) (hr:Be k callerA)
  (F:∀base:Heap,K.In base->base.Ns mainGlobals mg->EN mg base->AL P w K mg base AK k fa fd [x] sp) (hbind:∀(s:Shared) (u:Value),BindsTo s fd ⟨[u],[]⟩ [(x,u)])
  (hsp:∀H:Hp,(∀T∈Ts,H T=some (.Bw #[]))->AJ K H a (ns.map V.int)->sp [.ref a] H (λv _=>v=.bl true) λ_ _ _=>False) :
  codeAny (model P w) callerA (.call (.ref fa) ⟨[.ref a],[]⟩) (λr s'=>r=.ok (.ret (.bool true))/\OldK s₁.heap s'.heap/\s'.os=s₁.os/\AllBare s'.gens) s₁:=by
 have rv:=Le hi;have lenV:=hi.length;have naT:a∉Ts:=λz=>by rw[gT a z] at ha; cases ha
 have core:∀H:Hp,(∀T∈Ts,H T=some (.Bw #[]))->(∀b,H b=none\/(∃o xs,H b=some (.C3 o (.AD xs)))\/b∈Ts)->AJ K H a (ns.map V.int)->BN P w H s₁.heap->(∀b,H b≠none->b=a\/b∈Ts)->(H a≠none->K.lookup a=none) →
   codeAny (model P w) callerA (.call (.ref fa) ⟨[.ref a],[]⟩) (λr s'=>r=.ok (.ret (.bool true))/\OldK s₁.heap s'.heap/\s'.os=s₁.os/\AllBare s'.gens) s₁:=by
  intro H hT hO hS hok hA hK;have base_of:∀{b:Addr} {o:Obj},s₁.heap.get? b=some o->H b=none->(DN s₁.heap H).get? b=some o:=λe n=>Pd e n
  have noA:∀{b:Addr} {o:Obj},s₁.heap.get? b=some o->o≠{ cls:=.type "list",data:=.seq vs.toArray }->o≠tabObj #[]->H b=none:=λ{b o} e d1 d2=>by
   cases q:H b with
   | none=>rfl
   | some u =>
    rcases hA b (by rw[q]; simp) with e' | e'
    ·subst e'; rw[ha] at e; exact absurd (Option.some.inj e).symm d1
    ·rw[gT b e'] at e; exact absurd (Option.some.inj e).symm d2
  have nsK:∀{b:Addr} {m:Str->Option Value},s₁.heap.Ns b m->(DN s₁.heap H).Ns b m:=λ{b m} ⟨o,es,ep,e,d,r⟩=>⟨o,es,ep,base_of e (noA e (λz=>by rw[z] at d; cases d) (λz=>by rw[z] at d; cases d)),d,r⟩
  have hKb:K.In (DN s₁.heap H):=λb o e=>base_of (KX b o e) (by
   cases q:H b with
   | none=>rfl
   | some u =>
    rcases hA b (by rw[q]; simp) with e' | e'
    ·subst e'; rw[hK (by rw[q]; simp)] at e; cases e
    ·rw[hKT b e'] at e; cases e)
  have hM:Mod K mg (DN s₁.heap H):=⟨hKb,nsK hns,⟨mb,nsK hb,hbb⟩,let ⟨mc,h1,h2⟩:=hlim; ⟨mc,nsK h1,h2⟩⟩;have hbm':EN mg (DN s₁.heap H):=by
   obtain⟨bm,o,b1,b2,b3,b4,b5,b6⟩:=hbm;exact⟨bm,o,b1,b2,b3,base_of b4 (noA b4 (λz=>by rw[z] at b6; exact nomatch b6.2) (λz=>by rw[z] at b6; exact nomatch b6.2)),b5,b6⟩
  have e0:Fz P w K mg (DN s₁.heap H) callerA [] s₁ H:=⟨rfl,hM,λb o e=>QC e,Nat.le_of_eq (OR _ _),trivial,λb hb=>absurd (show b∈([]:List Addr) from hb) (by simp),hok,.of_eq hg⟩;refine codeAny_mono ((F _ hKb (nsK hns) hbm').Jk callerA [] s₁ H ⟨[.ref a],[]⟩ [.ref a] [.ref a] _ _ hr e0 (hbind s₁ (.ref a)) (.cons rfl .nil) (hsp H hT hS)) λr s' h=>?_
  cases r with
  | error e=>exact False.elim h
  | ok fl =>
   cases fl with
   | next=>exact False.elim h
   | brk=>exact False.elim h
   | cont=>exact False.elim h
   | ret u =>
    obtain⟨v,H',os,bare,un,hok',r',q⟩:=h;have q':v=.bl true:=q;subst q';obtain rfl:u=Value.bool true:=r';have key:∀b o,s₁.heap.get? b=some o->s'.heap.get? b=some o\/(b∈Ts/\o=tabObj #[]/\∃more,s'.heap.get? b=some (tabObj (#[]++more))):=λb o e=>by
     cases q:H b with
     | none=>exact .inl (un.keep b o e q (by intro z; exact absurd (show b∈([]:List Addr) from z) (by simp)) (by simp))
     | some u =>
      rcases hO b with z | ⟨ob,xs,z⟩ | z
      ·rw[q] at z; cases z
      ·have z2:=un.frzs b ob _ z;obtain⟨e1,_⟩:=hok b _ z;obtain⟨e2,_⟩:=hok' b _ z2;rw[e] at e1; cases e1;exact .inl e2
      ·rw[gT b z] at e;obtain⟨more,z2⟩:=un.tbls b _ (hT b z);exact .inr ⟨z,(Option.some.inj e).symm,more,hok' b _ z2⟩
    refine⟨rfl,⟨λb o e=>?_,λb o e=>?_⟩,os,bare⟩
    ·rcases key b o e with z | ⟨hb,rfl,more,z⟩
     ·exact .inl z
     ·obtain⟨c,hc⟩:=hC b hb;exact .inr (.inl ⟨(hc.tab (gT b hb)).isCodeTable,rfl,#[],more,rfl,z⟩)
    ·rcases key b o e with z | ⟨hb,rfl,more,z⟩
     ·exact⟨_,z⟩
     ·exact⟨_,z⟩
 have nI:∀(H0:Hp) (b:Addr),b∉Ts->(λb=>if b∈Ts then some (HO.Bw #[]) else H0 b:Hp) b=H0 b:=λH0 b hb=>if_neg hb
 have yI:∀(H0:Hp) (b:Addr),b∈Ts->(λb=>if b∈Ts then some (HO.Bw #[]) else H0 b:Hp) b=some (.Bw #[]):=λH0 b hb=>if_pos hb
 cases hk:K.lookup a with
 | some o =>
  have e:=KX a o hk;rw[ha] at e;cases e;refine core (λb=>if b∈Ts then some (.Bw #[]) else none) (λT h=>yI (λ_=>none) T h) (λb=>?_) (.inr ⟨_,vs.toArray,_,hk,rfl,rfl,rfl,by rw[cx,lenV]; exact hl,by simpa using rv⟩) (λb u z=>?_) (λb z=>?_) λz=>absurd (nI (λ_=>none) a naT) z
  ·by_cases hb:b∈Ts
   ·exact .inr (.inr hb)
   ·exact .inl (nI (λ_=>none) b hb)
  ·by_cases hb:b∈Ts
   ·rw[yI (λ_=>none) b hb] at z; cases z; exact gT b hb
   ·rw[nI (λ_=>none) b hb] at z; cases z
  ·by_cases hb:b∈Ts
   ·exact .inr hb
   ·exact absurd (nI (λ_=>none) b hb) z
 | none =>
  let H0:Hp:=AE (λ_=>none) a (.C3 { cls:=.type "list",data:=.seq vs.toArray } (.AD (ns.map V.int)))
  have hA0:H0 a=some (.C3 { cls:=.type "list",data:=.seq vs.toArray } (.AD (ns.map V.int))):=AM;refine core (λb=>if b∈Ts then some (.Bw #[]) else H0 b) (λT h=>yI H0 T h) (λb=>?_) (.inl (.inr ⟨{ cls:=.type "list",data:=.seq vs.toArray },(nI H0 a naT).trans hA0⟩)) (λb u z=>?_) (λb z=>?_) λ_=>hk
  ·by_cases hb:b∈Ts
   ·exact .inr (.inr hb)
   ·by_cases hb2:b=a
    ·subst hb2; exact .inr (.inl ⟨_,_,(nI H0 b hb).trans hA0⟩)
    ·exact .inl ((nI H0 b hb).trans (AW hb2))
  ·by_cases hb:b∈Ts
   ·rw[yI H0 b hb] at z; cases z; exact gT b hb
   ·rw[nI H0 b hb] at z;by_cases hb2:b=a
    ·subst hb2; rw[hA0] at z; cases z;exact⟨ha,by rw[cf]; exact hl,vs,_,rv,ha⟩
    ·rw[show H0 b=none from AW hb2] at z; cases z
  ·by_cases hb:b∈Ts
   ·exact .inr hb
   ·by_cases hb2:b=a
    ·exact .inl hb2
    ·exact absurd ((nI H0 b hb).trans (AW hb2)) z
theorem VP {l:PySem.W.OpenLaw} {n k:Nat} {q:Program} {loose:List Str} {XP:(Str->Option Value)->Heap->Prop} {YP:World->Heap->Prop} {d:DefRec} {K:Params->PySem.W.Frag} {sp:World->Sp} {x:Str} {Ts:List Addr}
  (hn:l.most=some n) (hn2:n<=sizeLine) (hdf:d.params.defaults=[]) (hr:Be k callerA)
  (hY:∀(w:World) (h:Heap),YP w h->(K w.params).In h/\∀T∈Ts,h.get? T=some (tabObj #[]))
  (F:∀(w:World) (mg:Str->Option Value) (fa:Addr) (h:Heap),(K w.params).In h->h.Ns mainGlobals mg->mg d.name=some (.ref fa) →
   ∃fd:FuncData,(∀(s:Shared) (u:Value),BindsTo s fd ⟨[u],[]⟩ [(x,u)])/\(∀T∈Ts,(K w.params).lookup T=none/\∃c,codeHdIn (K w.params) c T=true) /\
    ∀base:Heap,(K w.params).In base->base.Ns mainGlobals mg->EN mg base->AL l.prog w (K w.params) mg base AK k fa fd [x] (sp w))
  (hsp:∀(w:World) (H:Hp) (a:Addr) (ns:List Int),ns.length<=n->(∀T∈Ts,H T=some (.Bw #[]))->AJ (K w.params) H a (ns.map V.int)->sp w [.ref a] H (λv _=>v=.bl true) λ_ _ _=>False) :
  PySem.W.WalkO q loose XP YP l.row.toRowW d [] (λf vs=>PySem.call f vs):=by
 refine Att.Ny hn hdf λw s₀ s₁ mg mb fa o pm cd doc a vs ns G Y ho hd hcd hmg hobj hints hlen hg=>?_
 obtain⟨KX,gT⟩:=hY w _ Y;obtain⟨fd,hb,hKT,hF⟩:=F w mg fa _ KX G.T.g hmg;have bm:EN mg s₁.heap:=by
  obtain⟨bm,ob,b1,b2,b3,b4,b5,b6⟩:=G.T.bmain;refine⟨bm,ob,b1,b2,λz=>?_,b3,b4,b5,b6⟩;obtain⟨o,es,ep,e,hd,_⟩:=G.T.g;rw[z,e] at b3; cases b3; rw[hd] at b6; cases b6
 exact Up KX G.T.g G.T.b G.T.builtins G.T.nolimit hg gT (λT h=>(hKT T h).1) (λT h=>let ⟨c,hc⟩:=(hKT T h).2; ⟨c,codeHd_of_K KX hc⟩) bm hobj hints (dg hlen hn2) hr hF hb λH hO hS=>hsp w H a ns hlen hO hS
end L2
namespace Mth
theorem Ow(a b:Int):Int.gcd b (a.fmod b)=Int.gcd a b:=by
 rw[Int.fmod_def];have e:a-b*a.fdiv b=a+b*(-(a.fdiv b)):=by rw[Int.mul_neg,Int.sub_eq_add_neg]
 rw[e,Int.gcd_add_mul_left_right,Int.gcd_comm]
theorem YB(a b:Int)(h:b≠0):(a.fmod b).natAbs<b.natAbs:=by
 rw[Int.fmod_eq_emod];have h1:=dZ a h;have h2:=Int.emod_lt a h;split
 ·omega
 ·rename_i z
  have:¬b ∣ a:=λq=>z (Or.inr q)
  have hz:a % b≠0:=λq=>this (Int.dvd_of_emod_eq_zero q)
  omega
def part(t b:Int):Int:=if b<0 then -(Int.gcd t b:Int) else (Int.gcd t b:Int)
def A0(t b:Int):Int×Int:=(t.fdiv (part t b),b.fdiv (part t b))
theorem KL(t b:Int)(h:b≠0):0<Int.gcd t b:=Int.gcd_pos_of_ne_zero_right _ h
theorem KD(t b:Int)(h:b≠0):part t b≠0:=by
 have:=KL t b h
 unfold part; split <;> omega
theorem N5(t b:Int):part t b ∣ t:=by
 unfold part; split
 ·exact Int.neg_dvd.mpr (Int.gcd_dvd_left t b)
 ·exact Int.gcd_dvd_left t b
theorem N4(t b:Int):part t b ∣ b:=by
 unfold part; split
 ·exact Int.neg_dvd.mpr (Int.gcd_dvd_right t b)
 ·exact Int.gcd_dvd_right t b
theorem Kd(t b:Int):(A0 t b).1*part t b=t:=by
 show t.fdiv (part t b)*part t b=t;rw[fw (N5 t b),Int.ediv_mul_cancel (N5 t b)]
theorem JE(t b:Int):(A0 t b).2*part t b=b:=by
 show b.fdiv (part t b)*part t b=b;rw[fw (N4 t b),Int.ediv_mul_cancel (N4 t b)]
theorem WD(t b:Int)(h:b≠0):0<(A0 t b).2:=by
 have e:=JE t b;have g:=KL t b h;rcases Int.lt_or_lt_of_ne h with h1 | h1
 ·have hp:part t b<0:=by unfold part; rw[if_pos h1]; omega
  rcases Int.lt_or_le 0 (A0 t b).2 with q | q
  ·exact q
  ·have:0<=(A0 t b).2*part t b:=Int.mul_nonneg_of_nonpos_of_nonpos q (Int.le_of_lt hp)
   omega
 ·have hp:0<part t b:=by unfold part; rw[if_neg (by omega)]; omega
  rcases Int.lt_or_le 0 (A0 t b).2 with q | q
  ·exact q
  ·have:(A0 t b).2*part t b<=0:=Int.mul_nonpos_of_nonpos_of_nonneg q (Int.le_of_lt hp)
   omega
theorem Uw(t b:Int):(A0 t b).1*b=t*(A0 t b).2:=by
 have e1:=Kd t b;have e2:=JE t b;generalize (A0 t b).1=n at *;generalize (A0 t b).2=d at *;generalize part t b=p at *;subst e1;subst e2;rw[fX d p,Int.mul_assoc]
theorem WN(t b:Int)(h:b≠0):Int.gcd (A0 t b).1 (A0 t b).2=1:=by
 have e1:=Kd t b;have e2:=JE t b;have g:=KL t b h;have hp:(part t b).natAbs=Int.gcd t b:=by unfold part; split <;> omega
 have k:Int.gcd ((A0 t b).1*part t b) ((A0 t b).2*part t b)=Int.gcd (A0 t b).1 (A0 t b).2*(part t b).natAbs:=Int.gcd_mul_right _ _ _;rw[e1,e2,hp] at k
 have:1*Int.gcd t b=Int.gcd (A0 t b).1 (A0 t b).2*Int.gcd t b:=by rw[Nat.one_mul]; exact k
 exact(Nat.eq_of_mul_eq_mul_right g this).symm
theorem QS(t b:Int)(h:b≠0):(part t b).natAbs<=b.natAbs:=by
 have e:(part t b).natAbs=Int.gcd t b:=by unfold part; split <;> omega
 rw[e];exact Nat.le_of_dvd (Int.natAbs_pos.mpr h) (by
  have:=Int.gcd_dvd_right t b
  exact Int.ofNat_dvd_left.mp this)
theorem Vh(t b:Int)(h:b≠0):(A0 t b).1.natAbs<=t.natAbs:=by
 have e:=congrArg Int.natAbs (Kd t b);rw[fZ] at e
 have:1<=(part t b).natAbs:=Int.natAbs_pos.mpr (KD t b h)
 calc (A0 t b).1.natAbs=(A0 t b).1.natAbs*1:=(Nat.mul_one _).symm
  _<=(A0 t b).1.natAbs*(part t b).natAbs:=Nat.mul_le_mul_left _ this
  _=t.natAbs:=e
theorem VQ(t b:Int)(h:b≠0):(A0 t b).2.natAbs<=b.natAbs:=by
 have e:=congrArg Int.natAbs (JE t b);rw[fZ] at e
 have:1<=(part t b).natAbs:=Int.natAbs_pos.mpr (KD t b h)
 calc (A0 t b).2.natAbs=(A0 t b).2.natAbs*1:=(Nat.mul_one _).symm
  _<=(A0 t b).2.natAbs*(part t b).natAbs:=Nat.mul_le_mul_left _ this
  _=b.natAbs:=e
end Mth
namespace Wd
end Wd
namespace Mth
theorem Gy(t b : Int)(h : b ≠ 0): A0 t b = (((t : Rat) / (b : Rat)).num, (((t : Rat) / (b : Rat)).den : Int)) := by
  have g := WN t b h;have p := WD t b h;have c := Uw t b;generalize (A0 t b) = x at *;obtain⟨n, d⟩ := x;simp only at g p c;have hd : d = (d.toNat : Int) := by omega
  have hn : d.toNat ≠ 0 := by omega
  have hc : n.natAbs.Coprime d.toNat := by
    have : Int.gcd n d = n.natAbs.gcd d.toNat := by rw[Int.gcd]; congr 1; omega
    unfold Nat.Coprime; rw[<- this]; exact g
  let r : Rat := ⟨n, d.toNat, hn, hc⟩
  have hr : r * (d : Rat) = n := by
    have h1 : r = (n : Rat) / ((d.toNat : Nat) : Rat) := by
      have := Rat.num_divInt_den r;rw[<- this, Rat.divInt_eq_div]; rfl
    have h2 : ((d.toNat : Nat) : Rat) = (d : Rat) := by
      have : ((d.toNat : Nat) : Rat) = (((d.toNat : Nat) : Int) : Rat) := rfl;rw[this, <- hd]
    have h3 : (d : Rat) ≠ 0 := by have : d ≠ 0 := by omega
                                  exact_mod_cast this
    rw[h1, h2]; grind
  have hb : (b : Rat) ≠ 0 := by exact_mod_cast h
  have hd0 : (d : Rat) ≠ 0 := by have : d ≠ 0 := by omega
                                 exact_mod_cast this
  have cr : (n : Rat) * b = t * d := by exact_mod_cast c
  have e : (t : Rat) / (b : Rat) = r := by grind
  rw[e];show(n, d) = (n, ((d.toNat : Nat) : Int));rw[<- hd]
def fr(q:Rat):Int×Int:=(q.num,q.den)
theorem Yp{p q:Rat}(h:fr p=fr q):p=q:=by
 unfold fr at h;have h1:=congrArg Prod.fst h;have h2:=congrArg Prod.snd h;simp at h1 h2;exact Rat.ext h1 (by omega)
theorem Hz(q:Rat):q*((q.den:Nat):Rat)=q.num:=by
 have h1:=Rat.num_divInt_den q;rw[Rat.divInt_eq_div] at h1
 have:((q.den:Nat):Rat)≠0:=by exact_mod_cast q.den_nz
 have h2:(((q.den:Nat):Int):Rat)=((q.den:Nat):Rat):=rfl;rw[h2] at h1
 grind
theorem Ih(q:Rat):((q.den:Nat):Rat)≠0:=by exact_mod_cast q.den_nz
theorem Yl(q:Rat):((q.num:Int):Rat) / ((((q.den:Nat):Int)):Rat)=q:=by
 have:=Hz q
 have h2:(((q.den:Nat):Int):Rat)=((q.den:Nat):Rat):=rfl
 have:=Ih q
 rw[h2]; grind
theorem ic(n:Nat):(((n:Nat):Int):Rat)=((n:Nat):Rat):=rfl
theorem Ym(p q:Rat):A0 (p.num*q.den-q.num*p.den) (p.den*q.den)=fr (p-q):=by
 have hp:=p.den_nz;have hq:=q.den_nz;have h:((p.den:Int)*(q.den:Int))≠0:=Int.mul_ne_zero (by omega) (by omega);rw[Gy _ _ h];have e:(((p.num*q.den-q.num*p.den:Int)):Rat) / (((p.den:Int)*(q.den:Int):Int):Rat)=p-q:=by
  have:=Hz p; have:=Hz q; have:=Ih p; have:=Ih q
  simp only[Rat.intCast_sub,fh,ic]
  grind
 rw[e]; rfl
theorem Yt(p q:Rat):A0 (p.num*q.num) (p.den*q.den)=fr (p*q):=by
 have hp:=p.den_nz;have hq:=q.den_nz;have h:((p.den:Int)*(q.den:Int))≠0:=Int.mul_ne_zero (by omega) (by omega);rw[Gy _ _ h];have e:(((p.num*q.num:Int)):Rat) / (((p.den:Int)*(q.den:Int):Int):Rat)=p*q:=by
  have:=Hz p; have:=Hz q; have:=Ih p; have:=Ih q
  simp only[fh,ic]
  grind
 rw[e]; rfl
def Sb(n d:Nat)(q:Rat):Prop:=q.num.natAbs<=2 ^ n/\q.den<=2 ^ d
theorem X6{t b:Int}(h:b≠0):(A0 t b).1.natAbs<=t.natAbs/\(A0 t b).2.natAbs<=b.natAbs:=by
 have h1:=Kd t b;have h2:=JE t b;have h3:=KD t b h;have a1:t.natAbs=(A0 t b).1.natAbs*(part t b).natAbs:=by rw[<-Int.natAbs_mul,h1]
 have a2:b.natAbs=(A0 t b).2.natAbs*(part t b).natAbs:=by rw[<-Int.natAbs_mul,h2]
 have a3:1<=(part t b).natAbs:=by omega
 rw[a1,a2];exact⟨Nat.le_mul_of_pos_right _ a3,Nat.le_mul_of_pos_right _ a3⟩
theorem Zc{t b:Int}{n d:Nat}(h:b≠0)(h1:t.natAbs<=2 ^ n)(h2:b.natAbs<=2 ^ d){q:Rat}(e:A0 t b=fr q):Sb n d q:=by
 have:=X6 (t:=t) h
 rw[e] at this;simp only[fr,eL] at this;exact⟨by omega,by omega⟩
theorem IV{a b m n:Nat}(h:a<=2 ^ m)(g:b<=2 ^ n):a*b<=2 ^ (m+n):=by rw[Nat.pow_add]; exact Nat.mul_le_mul h g
theorem Tr(p q:Rat):((p.den:Int)*(q.den:Int))≠0:=by
 have hp:=p.den_nz;have hq:=q.den_nz;exact Int.mul_ne_zero (by omega) (by omega)
theorem Sb.sub{n d n' d' N:Nat}{p q:Rat}(h:Sb n d p)(g:Sb n' d' q)(h1:n+d'<=N)(h2:n' + d<=N):Sb (N+1) (d+d') (p-q):=by
 refine Zc (Tr p q) ?_ ?_ (Ym p q)
 ·have a1:(p.num*q.den).natAbs<=2 ^ N:=by
   rw[fZ,eL];exact dg (IV h.1 g.2) (fP (by decide) h1)
  have a2:(q.num*p.den).natAbs<=2 ^ N:=by
   rw[fZ,eL];exact dg (IV g.1 h.2) (fP (by decide) h2)
  have:=Int.natAbs_sub_le (p.num*q.den) (q.num*p.den)
  rw[Nat.pow_succ]; omega
 ·rw[fZ,eL,eL]; exact IV h.2 g.2
theorem Sb.mono{n d n' d':Nat}{p:Rat}(h:Sb n d p)(h1:n<=n')(h2:d<=d'):Sb n' d' p :=
 ⟨dg h.1 (fP (by decide) h1),dg h.2 (fP (by decide) h2)⟩
theorem Sb.one:Sb 0 0 1:=by constructor <;> decide
def DH(c:Int)(q:Rat):Int:=c.fdiv (Int.gcd c q.den:Int)*q.den
def cb(r:List Rat):Int:=r.foldl DH 1
theorem ZJ{c:Int}(h:0<c)(q:Rat):0<DH c q/\c ∣ DH c q/\(q.den:Int) ∣ DH c q/\DH c q<=c*q.den:=by
 have hq:=q.den_nz;have hg:0<Int.gcd c q.den:=Int.gcd_pos_of_ne_zero_left _ (by omega);obtain⟨x,hx⟩:=Int.gcd_dvd_left c (q.den:Int);obtain⟨y,hy⟩:=Int.gcd_dvd_right c (q.den:Int);generalize hG:Int.gcd c (q.den:Int)=G at *;have hG0:(G:Int)≠0:=by omega
 have e:c.fdiv (G:Int)=x:=by
  rw[fw ⟨x,hx⟩]
  conv=>lhs; rw[hx]
  rw[Int.mul_ediv_cancel_left _ hG0]
 have hx0:0<x:=by
  rcases Int.lt_or_le 0 x with h' | h'
  ·exact h'
  ·have:(G:Int)*x<=0:=Int.mul_nonpos_of_nonneg_of_nonpos (by omega) h'
   omega
 have hq0:(0:Int)<q.den:=by omega
 unfold DH;rw[hG,e];refine⟨Int.mul_pos hx0 hq0,⟨y,?_⟩,⟨x,fX _ _⟩,?_⟩
 ·conv=>lhs; rw[hy]
  conv=>rhs; rw[hx]
  rw[Int.mul_left_comm,Int.mul_assoc]
 ·refine Int.mul_le_mul_of_nonneg_right ?_ (by omega)
  have:1*x<=(G:Int)*x:=Int.mul_le_mul_of_nonneg_right (by omega) (by omega)
  omega
theorem RS(r:List Rat):∀{c:Int} {D d:Nat},0<c->c.natAbs<=2 ^ D->(∀q∈r,q.den<=2 ^ d) →
  0<r.foldl DH c/\c ∣ r.foldl DH c/\(∀q∈r,(q.den:Int) ∣ r.foldl DH c)/\(r.foldl DH c).natAbs<=2 ^ (D+d*r.length):=by
 induction r with
 | nil=>intro c D d h g _; exact⟨h,Int.dvd_refl _,by simp,by simpa using g⟩
 | cons q r ih =>
  intro c D d h g hd;obtain⟨a1,a2,a3,a4⟩:=ZJ h q;have hq:=hd q (by simp);have a5:(DH c q).natAbs<=2 ^ (D+d):=by
   have h5:(DH c q).natAbs<=c.natAbs*q.den:=by
    have e1:((c.natAbs*q.den:Nat):Int)=c*q.den:=by rw[Int.natCast_mul]; congr 1; omega
    omega
   exact dg h5 (IV g hq)
  obtain⟨b1,b2,b3,b4⟩:=ih (D:=D+d) (d:=d) a1 a5 (λp hp=>hd p (by simp[hp]));refine⟨b1,Int.dvd_trans a2 b2,?_,?_⟩
  ·intro p hp;rcases cP.mp hp with rfl | hp
   ·exact Int.dvd_trans a3 b2
   ·exact b3 p hp
  ·rw[dM,Nat.mul_succ]
   have:D+(d*r.length+d)=D+d+d*r.length:=by omega
   rw[this]; exact b4
def wh(b:Int)(q:Rat):Int:=q.num*b.fdiv q.den
theorem ZH{b:Int}{q:Rat}(h:(q.den:Int) ∣ b):((wh b q:Int):Rat)=b*q:=by
 obtain⟨x,hx⟩:=h;have hq:=q.den_nz;have e:b.fdiv q.den=x:=by
  rw[fw ⟨x,hx⟩,hx,Int.mul_ediv_cancel_left _ (by omega)]
 unfold wh;rw[e,hx]
 have:=Hz q
 simp only[fh,ic]
 grind
theorem SE{b:Int}{q:Rat}{n D:Nat}(h:(q.den:Int) ∣ b)(h1:q.num.natAbs<=2 ^ n)(h2:b.natAbs<=2 ^ D):(wh b q).natAbs<=2 ^ (n+D):=by
 obtain⟨x,hx⟩:=h;have hq:=q.den_nz;have e:b.fdiv q.den=x:=by
  rw[fw ⟨x,hx⟩,hx,Int.mul_ediv_cancel_left _ (by omega)]
 unfold wh;rw[e,fZ];refine IV h1 (dg ?_ h2);rw[hx,fZ,eL];exact Nat.le_mul_of_pos_left _ (by omega)
end Mth
namespace Fl
abbrev AB:=Int×Int×Int×Int
abbrev AB.l(b:AB):Int:=b.1
abbrev AB.d(b:AB):Int:=b.2.1
abbrev AB.r(b:AB):Int:=b.2.2.1
abbrev AB.u(b:AB):Int:=b.2.2.2
def DG(b:AB):Prop:=(b.l<b.r/\b.d<b.u)\/(b.l=b.r/\b.d=b.u)
def CD(w h:Int)(b:AB):Prop:=0<=b.l/\0<=b.d/\b.r<=w/\b.u<=h
def CZ(a b:AB):Bool:=decide (max a.l b.l<min a.r b.r) && decide (max a.d b.d<min a.u b.u)
def Bg(x y:Int)(b:AB):Bool:=decide (b.l<=x/\x<b.r/\b.d<=y/\y<b.u)
theorem CJ{x y:Int}{b:AB}:Bg x y b=true↔b.l<=x/\x<b.r/\b.d<=y/\y<b.u:=decide_eq_true_iff
structure BH(w h:Int)(bs:List AB):Prop where
 ok:∀b∈bs,DG b
 inn:∀b∈bs,CD w h b
 one:∀x y,0<=x->x<w->0<=y->y<h->bs.countP (Bg x y)=1
theorem GL{a b:AB}:CZ a b=true↔a.l<a.r/\a.l<b.r/\b.l<a.r/\b.l<b.r/\a.d<a.u/\a.d<b.u/\b.d<a.u/\b.d<b.u:=by
 unfold CZ;rw[dO,decide_eq_true_iff,decide_eq_true_iff,Int.max_lt,Int.lt_min,Int.lt_min,Int.max_lt,Int.lt_min,Int.lt_min];exact⟨λ⟨⟨⟨h1,h2⟩,h3,h4⟩,⟨h5,h6⟩,h7,h8⟩=>⟨h1,h2,h3,h4,h5,h6,h7,h8⟩,λ⟨h1,h2,h3,h4,h5,h6,h7,h8⟩=>⟨⟨⟨h1,h2⟩,h3,h4⟩,⟨h5,h6⟩,h7,h8⟩⟩
theorem YA{a b:AB}:CZ a b=true↔∃x y,Bg x y a=true/\Bg x y b=true:=by
 rw[GL];constructor
 ·intro h;refine⟨max a.l b.l,max a.d b.d,CJ.mpr ?_,CJ.mpr ?_⟩ <;> omega
 ·rintro⟨x,y,h1,h2⟩;rw[CJ] at h1 h2;omega
theorem Us{w h:Int}(hw:0<w)(hh:0<h):BH w h [(0,0,w,h)]:=by
 refine⟨λb hb=>?_,λb hb=>?_,λx y x0 x1 y0 y1=>?_⟩
 ·rw[cW.mp hb]; exact .inl ⟨hw,hh⟩
 ·rw[cW.mp hb]; exact⟨dQ _,dQ _,dQ _,dQ _⟩
 ·have:Bg x y (0,0,w,h)=true:=CJ.mpr ⟨x0,x1,y0,y1⟩
  simp[List.countP_cons,this]
structure Parts(b:AB)(ps:List AB):Prop where
 ok:∀p∈ps,p.l<p.r/\p.d<p.u
 inn:∀p∈ps,b.l<=p.l/\b.d<=p.d/\p.r<=b.r/\p.u<=b.u
 one:∀x y,ps.countP (Bg x y)=if Bg x y b=true then 1 else 0
theorem BH.Ni{w h:Int}{A B ps:List AB}{b:AB}(t:BH w h (A++b :: B))(p:Parts b ps):BH w h (A++ps++B):=by
 have ib:=t.inn b (by simp);refine⟨λq hq=>?_,λq hq=>?_,λx y x0 x1 y0 y1=>?_⟩
 ·rcases cS.mp hq with z | z
  ·rcases cS.mp z with z | z
   ·exact t.ok q (by simp[z])
   ·exact .inl (p.ok q z)
  ·exact t.ok q (by simp[z])
 ·rcases cS.mp hq with z | z
  ·rcases cS.mp z with z | z
   ·exact t.inn q (by simp[z])
   ·have:=p.inn q z
    unfold CD at ib ⊢;omega
  ·exact t.inn q (by simp[z])
 ·have:=t.one x y x0 x1 y0 y1
  rw[fv,List.countP_cons] at this;rw[fv,fv,p.one];omega
theorem EJ{x y:Int}{b:AB}{l:List AB}:(b :: l).countP (Bg x y)=l.countP (Bg x y)+if Bg x y b=true then 1 else 0:=List.countP_cons ..
theorem Iq{x y:Int}:([]:List AB).countP (Bg x y)=0:=rfl
theorem aJ{b:AB}{x:Int}(h1:b.l<x)(h2:x<b.r)(h3:b.d<b.u):Parts b [(b.l,b.d,x,b.u),(x,b.d,b.r,b.u)]:=by
 refine⟨λp hp=>?_,λp hp=>?_,λu v=>?_⟩
 ·simp only[cP,de,or_false] at hp;rcases hp with rfl | rfl <;> exact⟨by dsimp only[AB.l,AB.d,AB.r,AB.u] at *; omega,by dsimp only[AB.l,AB.d,AB.r,AB.u] at *; omega⟩
 ·simp only[cP,de,or_false] at hp;rcases hp with rfl | rfl <;> exact⟨by dsimp only[AB.l,AB.d,AB.r,AB.u] at *; omega,by dsimp only[AB.l,AB.d,AB.r,AB.u] at *; omega,by dsimp only[AB.l,AB.d,AB.r,AB.u] at *; omega,by dsimp only[AB.l,AB.d,AB.r,AB.u] at *; omega⟩
 ·rw[EJ,EJ,Iq];simp only[CJ,AB.l,AB.d,AB.r,AB.u] at *;split <;> split <;> split <;> omega
theorem Z1{b:AB}{y:Int}(h1:b.d<y)(h2:y<b.u)(h3:b.l<b.r):Parts b [(b.l,b.d,b.r,y),(b.l,y,b.r,b.u)]:=by
 refine⟨λp hp=>?_,λp hp=>?_,λu v=>?_⟩
 ·simp only[cP,de,or_false] at hp;rcases hp with rfl | rfl <;> exact⟨by dsimp only[AB.l,AB.d,AB.r,AB.u] at *; omega,by dsimp only[AB.l,AB.d,AB.r,AB.u] at *; omega⟩
 ·simp only[cP,de,or_false] at hp;rcases hp with rfl | rfl <;> exact⟨by dsimp only[AB.l,AB.d,AB.r,AB.u] at *; omega,by dsimp only[AB.l,AB.d,AB.r,AB.u] at *; omega,by dsimp only[AB.l,AB.d,AB.r,AB.u] at *; omega,by dsimp only[AB.l,AB.d,AB.r,AB.u] at *; omega⟩
 ·rw[EJ,EJ,Iq];simp only[CJ,AB.l,AB.d,AB.r,AB.u] at *;split <;> split <;> split <;> omega
theorem Z4{b:AB}{x f y u:Int}(h1:b.l<x)(h2:x<f)(h3:f<b.r)(h4:b.d<y)(h5:y<u)(h6:u<b.u):
  Parts b [(b.l,b.d,f,y),(f,b.d,b.r,u),(x,u,b.r,b.u),(b.l,y,x,b.u),(x,y,f,u)]:=by
 refine⟨λp hp=>?_,λp hp=>?_,λs t=>?_⟩
 ·simp only[cP,de,or_false] at hp;rcases hp with rfl | rfl | rfl | rfl | rfl <;> exact⟨by dsimp only[AB.l,AB.d,AB.r,AB.u] at *; omega,by dsimp only[AB.l,AB.d,AB.r,AB.u] at *; omega⟩
 ·simp only[cP,de,or_false] at hp;rcases hp with rfl | rfl | rfl | rfl | rfl <;> exact⟨by dsimp only[AB.l,AB.d,AB.r,AB.u] at *; omega,by dsimp only[AB.l,AB.d,AB.r,AB.u] at *; omega,by dsimp only[AB.l,AB.d,AB.r,AB.u] at *; omega,by dsimp only[AB.l,AB.d,AB.r,AB.u] at *; omega⟩
 ·rw[EJ,EJ,EJ,EJ,EJ,Iq];simp only[CJ,AB.l,AB.d,AB.r,AB.u] at *;by_cases c1:s<b.1 <;> by_cases c2:s<x <;> by_cases c3:s<f <;> by_cases c4:s<b.2.2.1 <;> by_cases d1:t<b.2.1 <;> by_cases d2:t<y <;> by_cases d3:t<u <;> by_cases d4:t<b.2.2.2 <;> (try omega) <;> (repeat (first | rw[if_pos (by omega)] | rw[if_neg (by omega)]))
theorem VH{α:Type}{p:α->Bool}{l:List α}{i j:Nat}(hij:i<j)(hj:j<l.length)(pi:p (l[i]'(by omega))=true)(pj:p l[j]=true):2<=l.countP p:=by
 have e:l=l.take (i+1)++l.drop (i+1):=(fL _ _).symm;rw[e,fv];have a:0<(l.take (i+1)).countP p:=List.countP_pos_iff.mpr ⟨l[i],List.mem_take_iff_getElem.mpr ⟨i,by omega,rfl⟩,pi⟩;have b:0<(l.drop (i+1)).countP p:=List.countP_pos_iff.mpr ⟨l[j],List.mem_drop_iff_getElem.mpr ⟨j-(i+1),by omega,by congr 1; omega⟩,pj⟩;omega
abbrev Df(bs:List AB):Prop:=bs.Pairwise λa b=>CZ a b=false
theorem QV{w h x y:Int}{b:AB}(i:CD w h b)(z:Bg x y b=true):0<=x/\x<w/\0<=y/\y<h:=by
 rw[CJ] at z;obtain⟨a,b',c,d⟩:=i;omega
theorem BH.TF{w h:Int}{bs:List AB}(t:BH w h bs):Df bs:=by
 rw[Df,cY];intro i j hi hj hij;rw[Bool.eq_false_iff];intro z;obtain⟨x,y,h1,h2⟩:=YA.mp z;obtain⟨a,b,c,d⟩:=QV (t.inn _ (eP hi)) h1
 have:=VH (p:=Bg x y) hij hj h1 h2
 rw[t.one x y a b c d] at this;omega
theorem BH.JX{w h:Int}{bs cs:List AB}(t:BH w h bs)(p:cs.Perm bs):BH w h cs :=
 ⟨λb hb=>t.ok b (p.mem_iff.mp hb),λb hb=>t.inn b (p.mem_iff.mp hb),λx y a b c d=>by rw[p.countP_eq]; exact t.one x y a b c d⟩
theorem BH.more{w h:Int}{A B:List AB}{q:AB}(t:BH w h (A++B))(e1:q.l=q.r)(e2:q.d=q.u)(i:CD w h q):BH w h (A++[q]++B):=by
 refine⟨λb hb=>?_,λb hb=>?_,λx y a b c d=>?_⟩
 ·simp only[cS,cW] at hb;rcases hb with (z | rfl) | z
  ·exact t.ok b (by simp[z])
  ·exact .inr ⟨e1,e2⟩
  ·exact t.ok b (by simp[z])
 ·simp only[cS,cW] at hb;rcases hb with (z | rfl) | z
  ·exact t.inn b (by simp[z])
  ·exact i
  ·exact t.inn b (by simp[z])
 ·have:=t.one x y a b c d
  rw[fv] at this;have nq:Bg x y q=false:=by rw[Bool.eq_false_iff]; intro z; rw[CJ] at z; omega
  rw[fv,fv,List.countP_cons,nq,List.countP_nil];simp only[ft,if_false];omega
theorem BH.bare{w h:Int}{bs:List AB}(t:BH w h bs)(p:AB->Bool)(hp:∀b∈bs,p b=false->b.l=b.r):BH w h (bs.filter p):=by
 refine⟨λb hb=>t.ok b (dR.mp hb).1,λb hb=>t.inn b (dR.mp hb).1,λx y a b c d=>?_⟩;rw[<-t.one x y a b c d,List.countP_filter];refine List.countP_congr λq hq=>?_
 rw[dO];constructor
 ·exact λz=>z.1
 ·intro z;refine⟨z,?_⟩;cases e:p q with
  | true=>rfl
  | false =>
   have:=hp q hq e
   rw[CJ] at z;omega
structure Bd(m:Int)(vs xs:List Int):Prop where
 up:xs.Pairwise (· < ·)
 mem:∀v,v∈xs↔v=0\/v=m\/v∈vs
theorem OJ:∀{xs ys:List Int},xs.Pairwise (· < ·)->ys.Pairwise (· < ·)->(∀v,v∈xs↔v∈ys)->xs=ys
 | [],[],_,_,_=>rfl
 | [],y :: ys,_,_,h=>absurd ((h y).mpr (by simp)) (by simp)
 | x :: xs,[],_,_,h=>absurd ((h x).mp (by simp)) (by simp)
 | x :: xs,y :: ys,hx,hy,h=>by
  rw[fe] at hx hy;have e:x=y:=by
   rcases cP.mp ((h x).mp (by simp)) with z | z
   ·exact z
   ·rcases cP.mp ((h y).mpr (by simp)) with z' | z'
    ·exact z'.symm
    ·have:=hx.1 y z'; have:=hy.1 x z; omega
  subst e;congr 1;refine OJ hx.2 hy.2 λv=>?_
  constructor
  ·intro z;rcases cP.mp ((h v).mp (by simp[z])) with q | q
   ·have:=hx.1 v z; omega
   ·exact q
  ·intro z;rcases cP.mp ((h v).mpr (by simp[z])) with q | q
   ·have:=hy.1 v z; omega
   ·exact q
theorem Bd.CV{m:Int}{vs xs ys:List Int}(a:Bd m vs xs)(b:Bd m vs ys):xs=ys:=OJ a.up b.up λv=>by rw[a.mem,b.mem]
def cov(bs:List AB)(x0 y0 x1 y1:Int):Bool:=bs.any λb=>decide (b.l<=x0) && decide (x1<=b.r) && (decide (b.d<=y0) && decide (y1<=b.u))
def Es(xs ys:List Int)(j k:Nat):AB:=(xs.getD j 0,ys.getD k 0,xs.getD (j+1) 0,ys.getD (k+1) 0)
abbrev De(bs:List AB)(xs ys:List Int)(j k:Nat):Bool:=cov bs (Es xs ys j k).l (Es xs ys j k).d (Es xs ys j k).r (Es xs ys j k).u
def DI(bs:List AB)(xs ys:List Int)(k:Nat):Option Nat:=(List.range (xs.length-1)).find? λj=>!De bs xs ys j k
def Dh(bs:List AB)(xs ys:List Int):Option AB:=(List.range (ys.length-1)).findSome? λk=>(DI bs xs ys k).map λj=>Es xs ys j k
theorem Pu{xs:List Int}(h:xs.Pairwise (· < ·)){j:Nat}(hj:j+1<xs.length){v:Int}(hv:v∈xs)(hl:xs.getD j 0<v):xs.getD (j+1) 0<=v:=by
 obtain⟨i,hi,rfl⟩:=dS hv;have g:∀k (hk:k<xs.length),xs.getD k 0=xs[k]:=λk hk=>by rw[cw,cg hk]; rfl
 rw[g j (by omega)] at hl;rw[g (j+1) hj];have p:=cY.mp h;rcases eQ i (j+1) with z | z | z
 ·rcases c5 i j with y | y
  ·have:=p i j hi (by omega) y; omega
  ·have:i=j:=by omega
   subst this; omega
 ·subst z; exact dQ _
 ·have:=p (j+1) i hj hi z; omega
theorem RZ{xs:List Int}(h:xs.Pairwise (· < ·)){j:Nat}(hj:j+1<xs.length):xs.getD j 0<xs.getD (j+1) 0/\xs.getD j 0∈xs/\xs.getD (j+1) 0∈xs:=by
 have g:∀k (hk:k<xs.length),xs.getD k 0=xs[k]:=λk hk=>by rw[cw,cg hk]; rfl
 rw[g j (by omega),g (j+1) hj];exact⟨cY.mp h j (j+1) (by omega) hj (by omega),eP _,eP _⟩
abbrev FP(bs:List AB):List Int:=bs.map (·.1)++bs.map (·.2.2.1)
abbrev FW(bs:List AB):List Int:=bs.map (·.2.1)++bs.map (·.2.2.2)
end Fl
namespace Fl
structure Sc(f:Int->Int)(D:Int->Prop):Prop where
 lt:∀a b,D a->D b->(a<b↔f a<f b)
 z:D 0
 f0:f 0=0
section
variable {f:Int->Int} {D:Int->Prop}
theorem Sc.le(s:Sc f D){a b:Int}(ha:D a)(hb:D b):a<=b↔f a<=f b:=by have:=s.lt b a hb ha; omega
theorem Sc.eq(s:Sc f D){a b:Int}(ha:D a)(hb:D b):a=b↔f a=f b:=by have:=s.lt a b ha hb; have:=s.lt b a hb ha; omega
abbrev BC(f:Int->Int)(b:AB):AB:=(f b.l,f b.d,f b.r,f b.u)
abbrev DB(D:Int->Prop)(b:AB):Prop:=D b.l/\D b.d/\D b.r/\D b.u
theorem Sc.ok(s:Sc f D){b:AB}(h:DB D b):DG (BC f b)↔DG b:=by
 obtain⟨h1,h2,h3,h4⟩:=h;unfold DG;have a:=s.lt _ _ h1 h3; have c:=s.lt _ _ h2 h4; have d:=s.eq h1 h3; have e:=s.eq h2 h4;show(f b.l<f b.r/\f b.d<f b.u)\/(f b.l=f b.r/\f b.d=f b.u)↔_;rw[<-a,<-c,<-d,<-e]
theorem Sc.inn(s:Sc f D){w h:Int}{b:AB}(hw:D w)(hh:D h)(hb:DB D b):CD (f w) (f h) (BC f b)↔CD w h b:=by
 obtain⟨h1,h2,h3,h4⟩:=hb;unfold CD;show 0<=f b.l/\0<=f b.d/\f b.r<=f w/\f b.u<=f h↔_;have a:=s.le s.z h1; have c:=s.le s.z h2;rw[s.f0] at a c;rw[<-a,<-c,<-s.le h3 hw,<-s.le h4 hh]
theorem Sc.ov(s:Sc f D){a b:AB}(ha:DB D a)(hb:DB D b):CZ (BC f a) (BC f b)=CZ a b:=by
 rw[fc,GL,GL];show f a.l<f a.r/\f a.l<f b.r/\f b.l<f a.r/\f b.l<f b.r/\f a.d<f a.u/\f a.d<f b.u/\f b.d<f a.u/\f b.d<f b.u↔_;obtain⟨a1,a2,a3,a4⟩:=ha;obtain⟨b1,b2,b3,b4⟩:=hb;rw[<-s.lt _ _ a1 a3,<-s.lt _ _ a1 b3,<-s.lt _ _ b1 a3,<-s.lt _ _ b1 b3,<-s.lt _ _ a2 a4,<-s.lt _ _ a2 b4,<-s.lt _ _ b2 a4,<-s.lt _ _ b2 b4]
theorem Sc.bd(s:Sc f D){m:Int}{vs xs:List Int}(b:Bd m vs xs)(h:∀v∈xs,D v):Bd (f m) (vs.map f) (xs.map f):=by
 refine⟨?_,λv=>?_⟩
 ·rw[fE];exact b.up.imp_of_mem λ{x y} hx hy z=>(s.lt x y (h x hx) (h y hy)).mp z
 ·rw[cT];constructor
  ·rintro⟨x,hx,rfl⟩;rcases(b.mem x).mp hx with z | z | z
   ·exact .inl (by rw[z,s.f0])
   ·exact .inr (.inl (by rw[z]))
   ·exact .inr (.inr (cT.mpr ⟨x,z,rfl⟩))
  ·rintro(z | z | z)
   ·exact⟨0,(b.mem 0).mpr (.inl rfl),by rw[z,s.f0]⟩
   ·exact⟨m,(b.mem m).mpr (.inr (.inl rfl)),z.symm⟩
   ·obtain⟨x,hx,rfl⟩:=cT.mp z;exact⟨x,(b.mem x).mpr (.inr (.inr hx)),rfl⟩
theorem KS(s:Sc f D)(xs:List Int)(j:Nat):(xs.map f).getD j 0=f (xs.getD j 0):=by
 rw[cw,cu,cw];cases xs[j]? with
 | none=>exact s.f0.symm
 | some x=>rfl
theorem Sc.cell(s:Sc f D)(xs ys:List Int)(j k:Nat):Es (xs.map f) (ys.map f) j k=BC f (Es xs ys j k):=by
 unfold Es;rw[KS s,KS s,KS s,KS s]
theorem Kc{xs:List Int}(z:D 0)(h:∀v∈xs,D v)(j:Nat):D (xs.getD j 0):=by
 rw[cw];cases e:xs[j]? with
 | none=>exact z
 | some x=>exact h x (cq e)
theorem Sc.Ce(s:Sc f D){bs:List AB}{xs ys:List Int}(hb:∀b∈bs,DB D b)(hx:∀v∈xs,D v)(hy:∀v∈ys,D v):Dh (bs.map (BC f)) (xs.map f) (ys.map f)=(Dh bs xs ys).map (BC f):=by
 have cv:∀j k,De (bs.map (BC f)) (xs.map f) (ys.map f) j k=De bs xs ys j k:=λj k=>by
  show cov _ _ _ _ _=cov _ _ _ _ _;rw[s.cell];unfold cov;rw[List.any_map];rw[fc,List.any_eq_true,List.any_eq_true];refine exists_congr λb=>and_congr_right λhm=>?_
  obtain⟨b1,b2,b3,b4⟩:=hb b hm;have d1:=Kc s.z hx j; have d2:=Kc s.z hx (j+1); have e1:=Kc s.z hy k; have e2:=Kc s.z hy (k+1);show(decide (f b.l<=f (xs.getD j 0)) && decide (f (xs.getD (j+1) 0)<=f b.r) && (decide (f b.d<=f (ys.getD k 0)) && decide (f (ys.getD (k+1) 0)<=f b.u)))=true↔(decide (b.l<=xs.getD j 0) && decide (xs.getD (j+1) 0<=b.r) && (decide (b.d<=ys.getD k 0) && decide (ys.getD (k+1) 0<=b.u)))=true;simp only[dO,decide_eq_true_eq];rw[<-s.le b1 d1,<-s.le d2 b3,<-s.le b2 e1,<-s.le e2 b4]
 have rg:∀k,DI (bs.map (BC f)) (xs.map f) (ys.map f) k=DI bs xs ys k:=λk=>by
  unfold DI;rw[cf];congr 1
  funext j
  rw[cv]
 unfold Dh;rw[cf,List.map_findSome?];congr 1
 funext k
 rw[rg];show _=Option.map (BC f) ((DI bs xs ys k).map λj=>Es xs ys j k);rw[Option.map_map];congr 1
 funext j
 exact s.cell xs ys j k
end
structure Fst(bs:List AB)(j k:Nat):Prop where
 lt:j<k
 at_:∃a b,bs[j]?=some a/\bs[k]?=some b/\CZ a b=true
 Ra:∀(j' k':Nat) (a b:AB),j' < k'->bs[j']?=some a->bs[k']?=some b->(j' < j\/(j'=j/\k' < k))->CZ a b=false
theorem Fst.sc{f:Int->Int}{D:Int->Prop}(s:Sc f D){bs:List AB}(hb:∀b∈bs,DB D b){j k:Nat}(h:Fst bs j k):Fst (bs.map (BC f)) j k:=by
 obtain⟨lt,⟨a,b,e1,e2,o⟩,no⟩:=h;refine⟨lt,⟨BC f a,BC f b,by rw[cu,e1]; rfl,by rw[cu,e2]; rfl,?_⟩,λj' k' a' b' hl h1 h2 hc=>?_⟩
 ·rw[s.ov (hb a (cq e1)) (hb b (cq e2))]; exact o
 ·rw[cu] at h1 h2;obtain⟨a0,q1,rfl⟩:=dJ.mp h1;obtain⟨b0,q2,rfl⟩:=dJ.mp h2;rw[s.ov (hb a0 (cq q1)) (hb b0 (cq q2))];exact no j' k' a0 b0 hl q1 q2 hc
theorem Df.sc{f:Int->Int}{D:Int->Prop}(s:Sc f D){bs:List AB}(hb:∀b∈bs,DB D b)(h:Df bs):Df (bs.map (BC f)):=by
 rw[Df,fE];exact List.Pairwise.imp_of_mem (λ{a b} ha hb' z=>by rw[s.ov (hb a ha) (hb b hb')]; exact z) h
theorem BH.index{w h:Int}{bs:List AB}(t:BH w h bs){i j:Nat}{c:AB}(hi:bs[i]?=some c)(hj:bs[j]?=some c)(hc:c.l<c.r)(hd:c.d<c.u):i=j:=by
 obtain⟨hil,ei⟩:=cm.mp hi;obtain⟨hjl,ej⟩:=cm.mp hj;have no:=cY.mp t.TF;have o:CZ c c=true:=by rw[GL]; omega
 rcases eQ i j with z | z | z
 ·have:=no i j hil hjl z; rw[ei,ej,o] at this; cases this
 ·exact z
 ·have:=no j i hjl hil z; rw[ei,ej,o] at this; cases this
end Fl
namespace Fl
def IQ(w h:Int)(bs:List AB):Prop:=∀x y,0<=x->x<w->0<=y->y<h->∃b∈bs,Bg x y b=true
structure EM(w h:Int)(bs:List AB):Prop where
 ok:∀b∈bs,DG b
 inn:∀b∈bs,CD w h b
 nov:Df bs
theorem BH.R0{w h:Int}{bs:List AB}(t:BH w h bs):EM w h bs:=⟨t.ok,t.inn,t.TF⟩
theorem EM.sub{w h:Int}{bs cs:List AB}(c:EM w h bs)(s:cs.Sublist bs):EM w h cs:=⟨λb hb=>c.ok b (s.subset hb),λb hb=>c.inn b (s.subset hb),List.Pairwise.sublist s c.nov⟩
theorem Qe{xs:List Int}(h:xs.Pairwise (· < ·)){lo hi x:Int}(h0:lo∈xs)(h1:hi∈xs)(a:lo<=x)(b:x<hi):∃j,j+1<xs.length/\xs.getD j 0<=x/\x<xs.getD (j+1) 0:=by
 have g:∀k (hk:k<xs.length),xs.getD k 0=xs[k]:=λk hk=>by rw[cw,cg hk]; rfl
 have il:xs.findIdx (λv=>decide (x<v))<xs.length:=List.findIdx_lt_length_of_exists ⟨hi,h1,decide_eq_true b⟩;have ip:x<xs[xs.findIdx (λv=>decide (x<v))]:=by simpa using List.findIdx_getElem (w:=il)
 have im:∀m (hm:m<xs.findIdx (λv=>decide (x<v))),xs[m]'(by omega)<=x:=λm hm=>by
  have:=List.not_of_lt_findIdx hm
  simpa using this
 obtain⟨i,il,ip,im⟩:∃i,∃il:i<xs.length,x<xs[i]/\∀m (hm:m<i),xs[m]'(by omega)<=x:=⟨_,il,ip,im⟩;have i0:i≠0:=λz=>by
  subst z;obtain⟨m,hm,rfl⟩:=dS h0;rcases Nat.eq_zero_or_pos m with y | y
  ·subst y; omega
  ·have:=cY.mp h 0 m il hm y; omega
 refine⟨i-1,by omega,?_,?_⟩
 ·rw[g (i-1) (by omega)]; exact im (i-1) (by omega)
 ·rw[g (i-1+1) (by omega)]
  have:i-1+1=i:=by omega
  simp only[this]; exact ip
theorem EM.JY{w h:Int}{bs:List AB}(t:EM w h bs)(hw:0<w)(hh:0<h){xs ys:List Int}(bx:Bd w (FP bs) xs)(by':Bd h (FW bs) ys):Dh bs xs ys=none↔IQ w h bs:=by
 constructor
 ·intro e x y x0 x1 y0 y1;obtain⟨j,jl,j1,j2⟩:=Qe bx.up ((bx.mem 0).mpr (.inl rfl)) ((bx.mem w).mpr (.inr (.inl rfl))) x0 x1;obtain⟨k,kl,k1,k2⟩:=Qe by'.up ((by'.mem 0).mpr (.inl rfl)) ((by'.mem h).mpr (.inr (.inl rfl))) y0 y1
  unfold Dh at e;rw[List.findSome?_eq_none_iff] at e;have e1:=e k (cZ.mpr (by omega));rw[Option.map_eq_none_iff] at e1;unfold DI at e1;rw[List.find?_eq_none] at e1;have e2:=e1 j (cZ.mpr (by omega));have e3:De bs xs ys j k=true:=by simpa using e2
  obtain⟨b,hb,c⟩:=List.any_eq_true.mp e3;simp only[dO,decide_eq_true_eq] at c;have c1:b.1<=xs.getD j 0:=c.1.1;have c2:xs.getD (j+1) 0<=b.2.2.1:=c.1.2;have c3:b.2.1<=ys.getD k 0:=c.2.1;have c4:ys.getD (k+1) 0<=b.2.2.2:=c.2.2;exact⟨b,hb,CJ.mpr ⟨by show b.1<=x; omega,by show x<b.2.2.1; omega,by show b.2.1<=y; omega,by show y<b.2.2.2; omega⟩⟩
 ·intro f;unfold Dh;rw[List.findSome?_eq_none_iff];intro k hk;rw[Option.map_eq_none_iff];unfold DI;rw[List.find?_eq_none];intro j hj;have hk:=cZ.mp hk;have hj:=cZ.mp hj;obtain⟨x1,x2,x3⟩:=RZ bx.up (j:=j) (by omega);obtain⟨y1,y2,y3⟩:=RZ by'.up (j:=k) (by omega)
  have rx:∀v∈xs,0<=v/\v<=w:=λv hv=>by
   rcases(bx.mem v).mp hv with z | z | z
   ·omega
   ·omega
   ·rcases cS.mp z with z | z
    ·obtain⟨b,hb,rfl⟩:=cT.mp z
     have:=t.inn b hb; have:=t.ok b hb; unfold CD DG at *; dsimp only[AB.l,AB.d,AB.r,AB.u] at *; omega
    ·obtain⟨b,hb,rfl⟩:=cT.mp z
     have:=t.inn b hb; have:=t.ok b hb; unfold CD DG at *; dsimp only[AB.l,AB.d,AB.r,AB.u] at *; omega
  have ry:∀v∈ys,0<=v/\v<=h:=λv hv=>by
   rcases(by'.mem v).mp hv with z | z | z
   ·omega
   ·omega
   ·rcases cS.mp z with z | z
    ·obtain⟨b,hb,rfl⟩:=cT.mp z
     have:=t.inn b hb; have:=t.ok b hb; unfold CD DG at *; dsimp only[AB.l,AB.d,AB.r,AB.u] at *; omega
    ·obtain⟨b,hb,rfl⟩:=cT.mp z
     have:=t.inn b hb; have:=t.ok b hb; unfold CD DG at *; dsimp only[AB.l,AB.d,AB.r,AB.u] at *; omega
  obtain⟨b,hb,hit⟩:=f (xs.getD j 0) (ys.getD k 0) (rx _ x2).1 (by have:=(rx _ x3).2; omega) (ry _ y2).1 (by have:=(ry _ y3).2; omega);rw[CJ] at hit;have n1:=Pu bx.up (j:=j) (by omega) ((bx.mem _).mpr (.inr (.inr (dA _ (cT.mpr ⟨b,hb,rfl⟩))))) hit.2.1;have n2:=Pu by'.up (j:=k) (by omega) ((by'.mem _).mpr (.inr (.inr (dA _ (cT.mpr ⟨b,hb,rfl⟩))))) hit.2.2.2
  have:De bs xs ys j k=true:=List.any_eq_true.mpr ⟨b,hb,by
   simp only[dO,decide_eq_true_eq];exact⟨⟨hit.1,n1⟩,hit.2.2.1,n2⟩⟩
  simp[this]
def GS(u:Int)(b:AB):AB:=(u-b.u,b.l,u-b.d,b.r)
theorem W6{u:Int}{b:AB}(h:DG b):DG (GS u b):=by
 unfold DG GS at *; dsimp only[AB.l,AB.d,AB.r,AB.u] at *; omega
theorem X5{w u:Int}{b:AB}(h:CD w u b):CD u w (GS u b):=by
 unfold CD GS at *; dsimp only[AB.l,AB.d,AB.r,AB.u] at *; omega
theorem X3{u:Int}{a b:AB}:CZ (GS u a) (GS u b)=CZ a b:=by
 rw[fc,GL,GL];unfold GS; dsimp only[AB.l,AB.d,AB.r,AB.u] at *; omega
theorem EM.turn{w u:Int}{bs:List AB}(c:EM w u bs):EM u w (bs.map (GS u)):=by
 refine⟨λb hb=>?_,λb hb=>?_,?_⟩
 ·obtain⟨a,ha,rfl⟩:=cT.mp hb; exact W6 (c.ok a ha)
 ·obtain⟨a,ha,rfl⟩:=cT.mp hb; exact X5 (c.inn a ha)
 ·rw[Df,fE];exact c.nov.imp λh=>by rw[X3]; exact h
theorem VS{b:AB}(h1:b.l<b.r)(h2:b.d<b.u):Parts b [b]:=by
 refine⟨λp hp=>?_,λp hp=>?_,λs t=>?_⟩
 ·rw[cW.mp hp]; exact⟨h1,h2⟩
 ·rw[cW.mp hp]; exact⟨dQ _,dQ _,dQ _,dQ _⟩
 ·rw[EJ,Iq]; omega
section
variable {w h k:Int} {bs A B:List AB} {b:AB}
theorem Xq{x y:Int}(hn:∀b∈bs,Bg x y b=false):bs.countP (Bg x y)=0:=by
 rw[List.countP_eq_zero];intro b hb;rw[hn b hb]; decide
theorem BH.JG(t:BH w h bs)(w0:0<=w)(hk:0<k)(hh:0<h):BH (w+k) h (bs++[(w,0,w+k,h)]):=by
 refine⟨λb hb=>?_,λb hb=>?_,λx y x0 x1 y0 y1=>?_⟩
 ·rcases cS.mp hb with z | z
  ·exact t.ok b z
  ·rw[cW.mp z]; exact .inl ⟨by show w<w+k; omega,hh⟩
 ·rcases cS.mp hb with z | z
  ·have:=t.inn b z
   unfold CD at this ⊢;omega
  ·rw[cW.mp z]; exact⟨w0,dQ _,dQ _,dQ _⟩
 ·rw[fv,EJ,Iq];simp only[CJ,AB.l,AB.d,AB.r,AB.u];rcases Int.lt_or_le x w with c | c
  ·rw[t.one x y x0 c y0 y1,if_neg (by omega)]
  ·rw[Xq λb hb=>?_,if_pos (by omega)];rw[Bool.eq_false_iff];intro z;rw[CJ] at z
   have:=t.inn b hb
   unfold CD at this;omega
theorem BH.aZ(t:BH w h (A++b :: B)){x y:Int}(hb:Bg x y b=true){cs:List AB}(hc:∀c∈cs,Bg x y c=false):¬IQ w h (A++cs++B):=by
 intro f;have ib:=t.inn b (by simp);have hb':=CJ.mp hb;have hx:=QV ib hb;have one:=t.one x y hx.1 hx.2.1 hx.2.2.1 hx.2.2.2;rw[fv,EJ,if_pos hb] at one;obtain⟨c,hc1,hc2⟩:=f x y hx.1 hx.2.1 hx.2.2.1 hx.2.2.2;have pos:∀{l:List AB},c∈l->0<l.countP (Bg x y):=λhl=>List.countP_pos_iff.mpr ⟨c,hl,hc2⟩
 rcases cS.mp hc1 with z | z
 ·rcases cS.mp z with z | z
  ·have:=pos z; omega
  ·rw[hc c z] at hc2; cases hc2
 ·have:=pos z; omega
theorem ZA(h1:b.l<b.r)(h2:b.d<b.u):Bg b.l b.d b=true:=CJ.mpr ⟨dQ _,h1,dQ _,h2⟩
theorem BH.out(t:BH w h (A++b :: B))(h1:b.l<b.r)(h2:b.d<b.u):¬IQ w h (A++B):=by
 have:=t.aZ (ZA h1 h2) (cs:=[]) (λc hc=>by cases hc)
 rwa [eD] at this
end
end Fl
namespace Ln
abbrev Sd:Type:=Int×Int×Int
abbrev Sd.v(s:Sd):Int:=s.1
abbrev Sd.a(s:Sd):Int:=s.2.1
abbrev Sd.z(s:Sd):Int:=s.2.2
def Eb(s t:Sd):Prop:=s.v=t.v/\s.a<=t.z/\t.a<=s.z
def Hr(s t:Sd):Prop:=t.v<s.v\/(s.v=t.v/\s.a<=t.a)
def Bf(s t:Sd):Prop:=t.v<s.v\/(s.v=t.v/\s.z<t.a)
def inl(s l:Sd):Prop:=s.v=l.v/\l.a<=s.a/\s.z<=l.z
def BW(acc:List Sd)(s:Sd):List Sd:=match acc.getLast? with
 | none=>acc++[s]
 | some q=>if q.v=s.v/\s.a<=q.z then acc.dropLast++[(s.v,q.a,max s.z q.z)] else acc++[s]
theorem L5(s:Sd):BW [] s=[s]:=rfl
theorem J8(a:List Sd)(q s:Sd):BW (a++[q]) s=if q.v=s.v/\s.a<=q.z then a++[(s.v,q.a,max s.z q.z)] else a++[q]++[s]:=by
 unfold BW;rw[List.getLast?_append];simp
theorem KN{α:Type}(l:List α):l=[]\/∃a q,l=a++[q]:=by
 rcases List.eq_nil_or_concat l with h | ⟨a,q,h⟩
 ·exact .inl h
 ·exact .inr ⟨a,q,by simpa using h⟩
structure Fu(γ:Type)(c:Sd->γ)(pre ls:List Sd):Prop where
 ap:ls.Pairwise Bf
 FX:∀l∈ls,l.a<l.z
 has:∀s∈pre,∃l∈ls,inl s l
 left:∀l∈ls,∃s∈pre,inl s l/\s.a=l.a
 JG:∀l∈ls,∃s∈pre,inl s l/\s.z=l.z
 one:∀l∈ls,∀s∈pre,∀t∈pre,inl s l->inl t l->c s=c t
section
variable {γ:Type} {c:Sd->γ}
theorem Vo:Fu γ c [] []:=⟨.nil,λ_ h=>(by cases h),λ_ h=>(by cases h),λ_ h=>(by cases h),λ_ h=>(by cases h),λ_ h=>(by cases h)⟩
theorem UY{pre ls:List Sd}{s:Sd}(L:Fu γ c pre ls)(hs:s.a<s.z)(hp:∀t∈pre,t.a<t.z)(ord:∀t∈pre,Hr t s)(hc:∀t∈pre,Eb s t->c s=c t):Fu γ c (pre++[s]) (BW ls s):=by
 have new_:∀{q:Sd},(∀l∈ls,Bf l s)->q=s->Fu γ c (pre++[s]) (ls++[q]):=λ{q} hap e=>by
  subst e;have nin:∀l∈ls,¬inl q l:=λl hl h=>by
   have:=hap l hl
   have:=L.FX l hl
   unfold Bf at *;unfold inl at h;omega
  have inq:inl q q:=⟨rfl,dQ _,dQ _⟩;have out:∀t∈pre,¬inl t q:=λt ht h=>by
   obtain⟨l,hl,hi⟩:=L.has t ht;have h1:=hap l hl;have h2:=L.FX l hl;have h3:=hp t ht;unfold Bf at h1;unfold inl at h hi;omega
  refine⟨?_,?_,?_,?_,?_,?_⟩
  ·rw[fO];exact⟨L.ap,List.pairwise_singleton _ _,λl hl m hm=>by rw[cW.mp hm]; exact hap l hl⟩
  ·intro l hl;rcases cS.mp hl with h | h
   ·exact L.FX l h
   ·rw[cW.mp h]; exact hs
  ·intro t ht;rcases cS.mp ht with h | h
   ·obtain⟨l,hl,hi⟩:=L.has t h;exact⟨l,eo _ hl,hi⟩
   ·rw[cW.mp h];exact⟨q,by simp,inq⟩
  ·intro l hl;rcases cS.mp hl with h | h
   ·obtain⟨t,ht,hi⟩:=L.left l h;exact⟨t,eo _ ht,hi⟩
   ·rw[cW.mp h];exact⟨q,by simp,inq,rfl⟩
  ·intro l hl;rcases cS.mp hl with h | h
   ·obtain⟨t,ht,hi⟩:=L.JG l h;exact⟨t,eo _ ht,hi⟩
   ·rw[cW.mp h];exact⟨q,by simp,inq,rfl⟩
  ·intro l hl x hx y hy ix iy;rcases cS.mp hl with h | h
   ·rcases cS.mp hx with hx | hx
    ·rcases cS.mp hy with hy | hy
     ·exact L.one l h x hx y hy ix iy
     ·rw[cW.mp hy] at iy; exact(nin l h iy).elim
    ·rw[cW.mp hx] at ix; exact(nin l h ix).elim
   ·rw[cW.mp h] at ix iy;rcases cS.mp hx with hx | hx
    ·exact(out x hx ix).elim
    ·rcases cS.mp hy with hy | hy
     ·exact(out y hy iy).elim
     ·rw[cW.mp hx,cW.mp hy]
 rcases KN ls with rfl | ⟨ls',q,rfl⟩
 ·rw[L5];exact new_ (λl hl=>by cases hl) rfl
 rw[J8];have ap:=fO.mp L.ap;have qw:=L.FX q (by simp);obtain⟨tl,htl,itl,etl⟩:=L.left q (by simp);have bl:=ord tl htl;have lo:∀l∈ls',Bf l q:=λl hl=>ap.2.2 l hl q (by simp)
 split
 ·rename_i h
  obtain⟨hv,hz⟩:=h;obtain⟨tr,htr,itr,etr⟩:=L.JG q (by simp);have br:=ord tr htr;have cs:c s=c tr:=hc tr htr (by
   unfold Eb;unfold Hr at br;unfold inl at itr;refine⟨by omega,by omega,?_⟩
   have:=hp tr htr
   omega)
  obtain⟨m,eq⟩:∃m:Sd,((s.v,q.a,max s.z q.z):Sd)=m:=⟨_,rfl⟩;rw[eq];have m1:m.v=s.v:=by rw[<-eq]
  have m2:m.a=q.a:=by rw[<-eq]
  have m3:s.z<=m.z/\q.z<=m.z/\(m.z=s.z\/m.z=q.z):=by
   rw[<-eq];show s.z<=max s.z q.z/\q.z<=max s.z q.z/\(max s.z q.z=s.z\/max s.z q.z=q.z);omega
  have sa:q.a<=s.a:=by
   unfold Hr at bl;unfold inl at itl;omega
  have ism:inl s m:=⟨m1.symm,by omega,m3.1⟩;have qm:∀t:Sd,inl t q->inl t m:=λt h=>by
   unfold inl at *;refine⟨by omega,by omega,by omega⟩
  have mq:∀t∈pre,inl t m->inl t q:=λt ht h=>by
   obtain⟨l,hl,hi⟩:=L.has t ht;rcases cS.mp hl with z | z
   ·have:=lo l z
    have:=L.FX l hl
    have:=hp t ht
    unfold Bf at *;unfold inl at *;omega
   ·rw[cW.mp z] at hi; exact hi
  have ns:∀l∈ls',¬inl s l:=λl hl h=>by
   have:=lo l hl
   unfold Bf at this;unfold inl at h;omega
  refine⟨?_,?_,?_,?_,?_,?_⟩
  ·rw[fO];refine⟨ap.1,List.pairwise_singleton _ _,λl hl y hy=>?_⟩;rw[cW.mp hy]
   have:=lo l hl
   unfold Bf at *;omega
  ·intro l hl;rcases cS.mp hl with h | h
   ·exact L.FX l (by simp[h])
   ·rw[cW.mp h]; omega
  ·intro t ht;rcases cS.mp ht with h | h
   ·obtain⟨l,hl,hi⟩:=L.has t h;rcases cS.mp hl with z | z
    ·exact⟨l,by simp[z],hi⟩
    ·rw[cW.mp z] at hi;exact⟨m,by simp,qm t hi⟩
   ·rw[cW.mp h];exact⟨m,by simp,ism⟩
  ·intro l hl;rcases cS.mp hl with h | h
   ·obtain⟨t,ht,hi⟩:=L.left l (by simp[h]);exact⟨t,eo _ ht,hi⟩
   ·rw[cW.mp h];exact⟨tl,eo _ htl,qm tl itl,by omega⟩
  ·intro l hl;rcases cS.mp hl with h | h
   ·obtain⟨t,ht,hi⟩:=L.JG l (by simp[h]);exact⟨t,eo _ ht,hi⟩
   ·rw[cW.mp h];rcases m3.2.2 with z | z
    ·exact⟨s,by simp,ism,z.symm⟩
    ·exact⟨tr,eo _ htr,qm tr itr,by omega⟩
  ·intro l hl x hx y hy ix iy;rcases cS.mp hl with h | h
   ·rcases cS.mp hx with hx | hx
    ·rcases cS.mp hy with hy | hy
     ·exact L.one l (by simp[h]) x hx y hy ix iy
     ·rw[cW.mp hy] at iy; exact(ns l h iy).elim
    ·rw[cW.mp hx] at ix; exact(ns l h ix).elim
   ·rw[cW.mp h] at ix iy;have key:∀x∈pre++[s],inl x m->c x=c tr:=λx hx ix=>by
     rcases cS.mp hx with hx | hx
     ·exact L.one q (by simp) x hx tr htr (mq x hx ix) itr
     ·rw[cW.mp hx]; exact cs
    rw[key x hx ix,key y hy iy]
 ·rename_i h
  refine new_ (λl hl=>?_) rfl;have qs:Bf q s:=by
   unfold Hr at bl;unfold inl at itl;unfold Bf;omega
  rcases cS.mp hl with z | z
  ·have:=lo l z
   unfold Bf at *;omega
  ·rw[cW.mp z]; exact qs
theorem OT:∀{ss pre ls:List Sd},Fu γ c pre ls->(pre++ss).Pairwise Hr->(∀t∈pre++ss,t.a<t.z)->(∀s∈pre++ss,∀t∈pre++ss,Eb s t->c s=c t)->Fu γ c (pre++ss) (ss.foldl BW ls)
 | [],pre,ls,L,_,_,_=>by rw[eD]; exact L
 | s :: ss,pre,ls,L,o,w,h=>by
  have e:pre++s :: ss=pre++[s]++ss:=by simp
  rw[List.foldl_cons,e];rw[e] at o w h;refine OT (UY L (w s (by simp)) (λt ht=>w t (by simp[ht])) (λt ht=>?_) (λt ht z=>h s (by simp) t (by simp[ht]) z)) o w h;exact(fO.mp (fO.mp o).1).2.2 t ht s (by simp)
def Dv(M:List Int)(k a:Nat):List Int:=M.map λm=>if m=M.getD k 0 then M.getD a 0 else m
theorem V0{M:List Int}{k a i:Nat}(hi:i<M.length):(Dv M k a).getD i 0=if M.getD i 0=M.getD k 0 then M.getD a 0 else M.getD i 0:=by
 unfold Dv;rw[cw,cu,cw (l:=M) (i:=i),cg hi];rfl
structure C9(n:Nat)(tc:Nat->Nat->Prop)(done:Nat->Nat->Prop)(M:List Int):Prop where
 len:M.length=n
 GO:∀i j,i<n->j<n->done i j->tc i j->M.getD i 0=M.getD j 0
 only:∀c:Nat->Int,(∀i j,i<n->j<n->tc i j->c i=c j)->∀i j,i<n->j<n->M.getD i 0=M.getD j 0->c i=c j
variable {n:Nat} {tc done done':Nat->Nat->Prop} {M:List Int}
theorem Pl:C9 n tc (λ_ _=>False) ((List.range n).map λi:Nat=>(i:Int)):=by
 have at_:∀i,i<n->((List.range n).map λi:Nat=>(i:Int)).getD i 0=(i:Int):=λi hi=>by
  rw[cw,cu,eO hi]; rfl
 refine⟨by simp,λi j _ _ h=>h.elim,λc _ i j hi hj e=>?_⟩;rw[at_ i hi,at_ j hj] at e
 have:i=j:=by omega
 rw[this]
theorem N9{k a:Nat}(h:C9 n tc done M)(hk:k<n)(ha:a<n)(ht:tc k a)(hd:∀i j,done' i j->done i j\/(i=k/\j=a)):C9 n tc done' (Dv M k a):=by
 have rl:∀i,i<n->(Dv M k a).getD i 0=if M.getD i 0=M.getD k 0 then M.getD a 0 else M.getD i 0:=λi hi=>V0 (by rw[h.len]; exact hi)
 refine⟨by unfold Dv; rw[cf]; exact h.len,λi j hi hj hdn t=>?_,λc hc i j hi hj e=>?_⟩
 ·rw[rl i hi,rl j hj];rcases hd i j hdn with z | ⟨rfl,rfl⟩
  ·rw[h.GO i j hi hj z t]
  ·rw[if_pos rfl];split <;> rfl
 ·rw[rl i hi,rl j hj] at e;have ck:c k=c a:=hc k a hk ha ht;have o:=h.only c hc;by_cases e1:M.getD i 0=M.getD k 0
  ·rw[if_pos e1] at e;by_cases e2:M.getD j 0=M.getD k 0
   ·exact o i j hi hj (e1.trans e2.symm)
   ·rw[if_neg e2] at e;rw[o i k hi hk e1,ck,o a j ha hj e]
  ·rw[if_neg e1] at e;by_cases e2:M.getD j 0=M.getD k 0
   ·rw[if_pos e2] at e;rw[o j k hj hk e2,ck,o i a hi ha e]
   ·rw[if_neg e2] at e;exact o i j hi hj e
theorem OD{k a:Nat}(h:C9 n tc done M)(hs:tc k a->M.getD k 0=M.getD a 0)(hd:∀i j,done' i j->done i j\/(i=k/\j=a)):C9 n tc done' M:=by
 refine⟨h.len,λi j hi hj hdn t=>?_,h.only⟩;rcases hd i j hdn with z | ⟨rfl,rfl⟩
 ·exact h.GO i j hi hj z t
 ·exact hs t
end
end Ln
namespace Ln
section
variable {ls:List Sd}
theorem OO(ap:ls.Pairwise Bf){l m:Sd}(hl:l∈ls)(hm:m∈ls):l=m\/Bf l m\/Bf m l:=by
 obtain⟨i,hi,rfl⟩:=dS hl;obtain⟨j,hj,rfl⟩:=dS hm;have h:=cY.mp ap;rcases eQ i j with z | z | z
 ·exact .inr (.inl (h i j hi hj z))
 ·subst z; exact .inl rfl
 ·exact .inr (.inr (h j i hj hi z))
theorem PZ(ap:ls.Pairwise Bf){s t l m:Sd}(hl:l∈ls)(hm:m∈ls)(h1:inl s l)(h2:inl t m)(h:Eb s t):l=m:=by
 rcases OO ap hl hm with z | z | z
 ·exact z
 ·unfold Bf at z; unfold inl at h1 h2; unfold Eb at h; omega
 ·unfold Bf at z; unfold inl at h1 h2; unfold Eb at h; omega
theorem Xv(ap:ls.Pairwise Bf){s l m:Sd}(hs:s.a<s.z)(hl:l∈ls)(hm:m∈ls)(h1:inl s l)(h2:inl s m):l=m :=
 PZ ap hl hm h1 h2 ⟨rfl,by omega,by omega⟩
def Cg(ls:List Sd)(s:Sd):Nat:=ls.findIdx λl=>decide (s.v=l.v/\l.a<=s.a/\s.z<=l.z)
theorem Ht{s l:Sd}(ap:ls.Pairwise Bf)(hs:s.a<s.z)(hl:l∈ls)(h:inl s l):ls[Cg ls s]?=some l:=by
 have ex:∃x∈ls,(λl:Sd=>decide (s.v=l.v/\l.a<=s.a/\s.z<=l.z)) x=true:=⟨l,hl,decide_eq_true h⟩;have lt:Cg ls s<ls.length:=List.findIdx_lt_length_of_exists ex;have p:=List.findIdx_getElem (w:=lt);rw[cg lt];have h2:inl s (ls[Cg ls s]):=by
  have p':=decide_eq_true_iff.mp p;exact p'
 rw[Xv ap hs (eP lt) hl h2 h]
end
section
variable {n:Nat} {S:Nat->Sd} {M:List Int} {ls ss:List Sd} {done:Nat->Nat->Prop}
theorem U3 (m:C9 n (λi j=>Eb (S i) (S j)) done M) (hd:∀i j,i<n->j<n->Eb (S i) (S j)->M.getD i 0=M.getD j 0) (hw:∀i,i<n->(S i).a<(S i).z) (hin:∀i,i<n->S i∈ss) (hout:∀s∈ss,∃i,i<n/\S i=s)
  (L:∀(c:Sd->Int),(∀s∈ss,∀t∈ss,Eb s t->c s=c t)->Fu Int c ss ls) {i j:Nat} (hi:i<n) (hj:j<n):Cg ls (S i)=Cg ls (S j)↔M.getD i 0=M.getD j 0:=by
 have wss:∀s∈ss,s.a<s.z:=λs hs=>by obtain⟨k,hk,rfl⟩:=hout s hs; exact hw k hk
 have L0:=L (λ_=>0) (λ_ _ _ _ _=>rfl);constructor
 ·intro e
  let idx:Sd->Nat:=λs=>(List.range n).findIdx λk=>decide (S k=s)
  have idx_ok:∀s∈ss,idx s<n/\S (idx s)=s:=λs hs=>by
   obtain⟨k,hk,rfl⟩:=hout s hs;have ex:∃x∈List.range n,(λx=>decide (S x=S k)) x=true:=⟨k,cZ.mpr hk,decide_eq_true rfl⟩;have lt:=List.findIdx_lt_length_of_exists ex;have p:=List.findIdx_getElem (w:=lt);rw[c7] at lt;have p':=of_decide_eq_true p;rw[List.getElem_range] at p';exact⟨lt,p'⟩
  have Lc:=L (λs=>M.getD (idx s) 0) λs hs t ht h=>by
   obtain⟨a1,a2⟩:=idx_ok s hs;obtain⟨b1,b2⟩:=idx_ok t ht;exact hd _ _ a1 b1 (by rw[a2,b2]; exact h)
  obtain⟨l,hl,il⟩:=Lc.has (S i) (hin i hi);obtain⟨l',hl',il'⟩:=Lc.has (S j) (hin j hj);have e1:=Ht Lc.ap (hw i hi) hl il;have e2:=Ht Lc.ap (hw j hj) hl' il';rw[e,e2] at e1;obtain rfl:=Option.some.inj e1;have one:=Lc.one l' hl (S i) (hin i hi) (S j) (hin j hj) il il';have self:∀k,k<n->M.getD (idx (S k)) 0=M.getD k 0:=λk hk=>by
   obtain⟨a1,a2⟩:=idx_ok (S k) (hin k hk);refine hd _ _ a1 hk ?_;rw[a2]
   have:=hw k hk
   exact⟨rfl,by omega,by omega⟩
  rw[<-self i hi,<-self j hj];exact one
 ·intro e
  have:=m.only (λk=>(Cg ls (S k):Int)) (λa b ha hb h=>by
   obtain⟨l,hl,il⟩:=L0.has (S a) (hin a ha);obtain⟨l',hl',il'⟩:=L0.has (S b) (hin b hb);have el:=PZ L0.ap hl hl' il il' h;subst el;have e1:=Ht L0.ap (hw a ha) hl il;have e2:=Ht L0.ap (hw b hb) hl il';obtain⟨h1,g1⟩:=cm.mp e1;obtain⟨h2,g2⟩:=cm.mp e2;show(Cg ls (S a):Int)=(Cg ls (S b):Int);rcases eQ (Cg ls (S a)) (Cg ls (S b)) with z | z | z
   ·have ap:=cY.mp L0.ap _ _ h1 h2 z;rw[g1,g2] at ap
    have:=L0.FX l hl
    unfold Bf at ap; omega
   ·rw[z]
   ·have ap:=cY.mp L0.ap _ _ h2 h1 z;rw[g1,g2] at ap
    have:=L0.FX l hl
    unfold Bf at ap; omega) i j hi hj e
  exact_mod_cast this
end
end Ln
namespace My
open PySem L2 Mth
theorem AR{H:Hp}{p:Addr}(h:H p=none)(o:HO):AN H (AE H p o):=λb u q=>by rw[AW (BB q h)]; exact q
def DA(x:Addr)(H H':Hp):Prop:=∀b o,b≠x->H b=some o->H' b=some o
theorem DA.refl(x:Addr)(H:Hp):DA x H H:=λ_ _ _ h=>h
theorem DA.put{x:Addr}{H H':Hp}(h:DA x H H')(o:HO):DA x H (AE H' x o):=λb u n q=>by rw[AW n]; exact h b u n q
theorem DA.trans{x:Addr}{H H1 H2:Hp}(a:DA x H H1)(b:DA x H1 H2):DA x H H2:=λc o n h=>b c o n (a c o n h)
theorem _root_.L2.AN.b{x:Addr}{H H':Hp}(h:AN H H'):DA x H H':=λb o _ q=>h b o q
theorem DA.same{x:Addr}{H0 H H':Hp}(h:DA x H H')(s:AN H0 H)(n:H0 x=none):AN H0 H':=λb o q=>h b o (BB q n) (s b o q)
theorem DA.one{x:Addr}{H:Hp}{o:HO}:DA x H (AE H x o):=(DA.refl x H).put o
theorem _root_.L2.AN.up{x:Addr}{H0 H:Hp}(s:AN H0 H)(n:H0 x=none)(o:HO):AN H0 (AE H x o):=DA.one.same s n
theorem RX{c A B:Prop}[Decidable c](hc:¬c)(h:A):if (!decide c)=true then A else B:=by
 rw[decide_eq_false hc];exact FQ h
theorem Bl{c A B:Prop}[Decidable c](hc:c)(h:A):if decide c=true then A else B:=by
 rw[decide_eq_true hc];exact FQ h
theorem Bj{c A B:Prop}[Decidable c](hc:¬c)(h:B):if decide c=true then A else B:=by
 rw[decide_eq_false hc];exact CO h
theorem iv{a b:Int}(h:a=b):V.int a=V.int b:=by rw[h]
theorem E8{a b:Int}(h:a≠b):¬V.int a=V.int b:=λz=>h (V.int.inj z)
theorem bz{n:Nat}(h:n<=100000):n<sizeLine:=by rw[sizeLine_eq]; omega
def Nd(H:Hp)(a:Addr)(bs:List Addr)(ts:List (List Int)):Prop :=
 H a=some (.AF (bs.map V.ref))/\bs.length=ts.length/\∀(i:Nat) (b:Addr) (row:List Int),bs[i]?=some b->ts[i]?=some row->H b=some (.AF (row.map V.int))
theorem Nd.keep{H H':Hp}{a:Addr}{bs:List Addr}{ts:List (List Int)}(h:Nd H a bs ts)(s:AN H H'):Nd H' a bs ts :=
 ⟨s _ _ h.1,h.2.1,λi b row e1 e2=>s _ _ (h.2.2 i b row e1 e2)⟩
theorem int_at{row:List Int}{i:Nat}{x:V}(h:(row.map V.int)[i]?=some x):∃e,x=.int e/\row[i]?=some e:=by
 rw[cu] at h;cases q:row[i]? with
 | none=>rw[q] at h; cases h
 | some e =>
  rw[q] at h;exact⟨e,(Option.some.inj h).symm,rfl⟩
theorem Dy(x y z:V):BI [x,y,z] 0=some x:=Aq (j:=0) rfl
theorem D5(x y z:V):BI [x,y,z] 1=some y:=Aq (j:=1) rfl
theorem DD(x y z:V):BI [x,y,z] 2=some z:=Aq (j:=2) rfl
theorem Gv{x y:V}:BI [x,y] 0=some x:=Aq (j:=0) rfl
theorem E6{x y:V}:BI [x,y] 1=some y:=Aq (j:=1) rfl
theorem Il(xs:List V){j:Nat}(h:j<=xs.length):CU xs none (some (j:Int))=xs.take j:=by
 unfold CU;have e1:HT.AY xs.length 0 none=0:=rfl;have e2:HT.AY xs.length xs.length (some (j:Int))=j:=by simp[HT.AY]; rw[if_neg (by omega)]; omega
 rw[e1,e2]; simp
theorem J3(xs:List V){j:Nat}(h:j<=xs.length):CU xs (some (j:Int)) none=xs.drop j:=by
 unfold CU;have e1:HT.AY xs.length 0 (some (j:Int))=j:=by simp[HT.AY]; rw[if_neg (by omega)]; omega
 have e2:HT.AY xs.length xs.length none=xs.length:=rfl;rw[e1,e2,dC]; simp
theorem GW{n:Nat}(h:n<=100000):n<=sizeLine:=Nat.le_of_lt (bz h)
theorem Im{n j d:Nat}(h:j<=n):HT.AY n d (some (j:Int))=j:=by simp[HT.AY]; rw[if_neg (by omega)]; omega
def Bq(H:Hp)(b:Addr)(ns:List Int):Prop:=H b=some (.AF (ns.map V.int))
theorem Ei:Mo Bq:=λs h=>s _ _ h
theorem Bq.BF{H:Hp}{a b:Addr}{t:List Int}{ys:List V}(h:Bq H b t)(e:H a=some (.AD ys)):Bq (BF H a) b t:=Fn h λz=>by rw[z] at h; unfold Bq at h; rw[e] at h; cases h
abbrev Nm(K:PySem.W.Frag)(H:Hp)(a:Addr)(ns:List Int):Prop:=AJ K H a (ns.map V.int)/\ns.length<=63
end My
namespace My
open PySem
def Aw(i:Nat):Stmt:=PySem.Challenge.pw_currentfloor_k30_nets_of_built_floors.main.body.getD i (.Pass ⟨0,0,0,0⟩)
abbrev sCommon:Stmt:=Aw 6
abbrev sFraction:Stmt:=Aw 7
abbrev sCBot:Stmt:=Aw 8
abbrev sWholes:Stmt:=Aw 9
abbrev s_is_point:Stmt:=Aw 11
abbrev s_without_points:Stmt:=Aw 12
abbrev s_numbers_of:Stmt:=Aw 13
abbrev s_whole_floor:Stmt:=Aw 14
abbrev s_is_neither:Stmt:=Aw 16
abbrev s_is_out:Stmt:=Aw 17
abbrev s_overlap:Stmt:=Aw 18
abbrev s_first_overlap:Stmt:=Aw 19
abbrev s_borders:Stmt:=Aw 20
abbrev s_covered_cells:Stmt:=Aw 21
abbrev s_first_gap:Stmt:=Aw 22
abbrev s_looked_whole:Stmt:=Aw 23
abbrev s_looked:Stmt:=Aw 24
abbrev s_check_covers:Stmt:=Aw 25
abbrev s_begun_least:Stmt:=Aw 27
abbrev s_told_turns:Stmt:=Aw 28
abbrev s_level_sides:Stmt:=Aw 30
abbrev s_lines_of:Stmt:=Aw 31
abbrev s_placed:Stmt:=Aw 32
abbrev s_place_at:Stmt:=Aw 33
abbrev s_rope_of:Stmt:=Aw 34
abbrev s_turns_of:Stmt:=Aw 35
abbrev s_net_of:Stmt:=Aw 36
abbrev sCellAt:Stmt:=Aw 38
abbrev sLow:Stmt:=Aw 39
abbrev sLMul:Stmt:=Aw 42
abbrev s_law_whole:Stmt:=Aw 43
abbrev s_law_fraction:Stmt:=Aw 44
abbrev s_law_across:Stmt:=Aw 46
abbrev s_law_down:Stmt:=Aw 47
abbrev s_law_wheel:Stmt:=Aw 48
abbrev s_law_cut:Stmt:=Aw 49
abbrev s_law_boxes:Stmt:=Aw 50
abbrev s_law_share:Stmt:=Aw 51
abbrev s_law_scaled:Stmt:=Aw 52
abbrev s_law_points:Stmt:=Aw 53
abbrev s_law_lines:Stmt:=Aw 54
abbrev s_law_order:Stmt:=Aw 55
abbrev s_law_turn:Stmt:=Aw 56
abbrev s_law_due:Stmt:=Aw 57
abbrev s_law_kinds:Stmt:=Aw 58
abbrev sLaw:Stmt:=Aw 59
open L2 Mth
section
variable {P:Program} {w:World} {K:PySem.W.Frag} {mg:Str->Option Value} {base:Heap}
inductive RB(vs:List V)(H:Hp)(Q:VK):Prop
 | mk (a b:Int) (h_0:vs=[.int a,.int b]) (h_1:Q (.int (Int.gcd a b:Int)) H):RB vs H Q
def Kw:Sp:=λvs H Q _=>RB vs H Q
theorem QZ{x:Int}{n:Nat}(h:Int.gcd x 0=n):(if x<0 then -x else x)=(n:Int):=by
 rw[<-h,Int.gcd_zero_right];split <;> omega
theorem K4:Ar ["one","other","rest"] ["one","other"] (Ah sCommon):=Av
theorem Vm{f:Addr}{fd:FuncData}(F:Fun K "common_part" "common_part" sCommon f fd)(ma:mg "abs" = none):AL P w K mg base AK 1 f fd ["one","other"] Kw:=by
 refine F.ok K4 (λvs H Q E h=>?_) (λcdv A outer s H vs Q E hr h=>?_)
 ·obtain⟨a,b,rfl,_⟩:=h;rfl
 obtain⟨a,b,rfl,q⟩:=h;refine⟨_,AS (Oy dv (A4 GU (pv 1) AH (An _))
   (AS (Aa (i:=2) K4.nd rfl (Or.inl rfl) (AQ XA (pv 0) (pv 1)))
   (AS (Aa (i:=0) K4.nd rfl (Or.inl rfl) (pv 1))
   (AU (Aa (i:=1) K4.nd rfl (Or.inl rfl) (pv 2))))))
  (AU (Ak (As Ou (by rfl) ma PyProof.Rows.boot_abs (AA (pv 0) AG)))),?_⟩
 refine Ov (λσ H2=>∃x y r,σ=[some (.int x),some (.int y),r]/\H2=H/\Int.gcd x y=Int.gcd a b) (λσ _=>match σ with | [_,some (.int y),_]=>y.natAbs | _=>0) ⟨a,b,none,rfl,rfl,rfl⟩ ?_ ?_
 ·rintro σ H2 ⟨x,y,r,rfl,rfl,g⟩;refine⟨_,rfl,rfl,_,rfl,?_⟩;by_cases hy:y=0
  ·refine SA (iv hy) ?_;subst hy;refine⟨_,rfl,x,rfl,?_⟩;rw[QZ g];exact q
  ·refine RX (E8 hy) ?_;exact⟨_,rfl,_,rfl,_,_,rfl,rfl,hy,_,rfl,_,rfl,⟨y,x.fmod y,some (.int (x.fmod y)),rfl,rfl,(Ow x y).trans g⟩,YB x y hy⟩
 ·rintro σ H2 Q1 Q2 hq ⟨v,e,sc,b,eb,z⟩;exact⟨v,e,sc,b,eb,hq _ _ z⟩
theorem PB{X:Cx}{st:Stmt}:PS X st (λ_ _ _=>False):=by
 intro pins s σ H D I h;exact False.elim h
inductive P5(C:Addr)(vs:List V)(H:Hp)(Q:VK)(E:XK):Prop
 | mk (t b:Int) (h_0:vs=[.int t,.int b]) (h_1:BV b) (h_2:(b=0->False)) (h_3:(b≠0->∀p,H p=none->Q (.ref p) (AE H p (.AF [.int (A0 t b).1,.int (A0 t b).2])))):P5 C vs H Q E
def JC(C:Addr):Sp:=λvs H Q E=>P5 C vs H Q E
theorem NU:Ar ["top","bottom","part"] ["top","bottom"] (Ah sFraction):=Av
theorem UI{f g C:Addr}{fd gd:FuncData}(F:Fun K "fraction" "fraction" sFraction f fd)(G:AL P w K mg base AK 1 g gd ["one","other"] Kw)(bG:Af K gd ["one","other"] [])(kG:KP K g)(mG:mg "common_part" = some (.ref g)):AL P w K mg base AK 2 f fd ["top","bottom"] (JC C):=by
 refine F.ok NU (λvs H Q E h=>?_) (λcdv A outer s H vs Q E hr h=>?_)
 ·obtain⟨a,b,rfl,_⟩:=h;rfl
 obtain⟨t,b,rfl,hb,h0,h1⟩:=h;refine⟨_,AS (Bk (A4 Ci (pv 1) AH (An _)) (AU PB) B2)
  (AS (Aa (i:=2) NU.nd rfl (Or.inl rfl) (Ac (CX:=AK) G hr (by rfl) mG kG bG .nil (Ad (X:=_)) (AA (pv 0) (AA (pv 1) AG))))
  (AS (Bk (A4 GQ (pv 1) AH (An _)) (AU (Aa (i:=2) NU.nd rfl (Or.inl rfl) (FK FJ (pv 2)))) B2)
  (AU (Ak (Ao (AA (AQ Hu (pv 0) (pv 2)) (AA (AQ Hu (pv 1) (pv 2)) AG))))))),?_⟩
 refine⟨_,rfl,rfl,_,rfl,?_⟩;by_cases hz:b=0
 ·refine Bl (iv hz) ?_;exact(h0 hz).elim
 refine Bj (E8 hz) ?_;refine⟨_,rfl,_,rfl,t,b,rfl,?_⟩;refine⟨_,rfl,_,_,rfl,rfl,_,rfl,?_⟩;have fin:∀part,part=Mth.part t b->Mf (K3 (BQ (BM (rI IH λi j=>V.int (i.fdiv j)) (Au 0) (Au 2)) (BQ (BM (rI IH λi j=>V.int (i.fdiv j)) (Au 1) (Au 2)) B7)))
   { nx:=λ_ H'=>Q .Aj H',rt:=Q } [some (.int t),some (.int b),some (.int part)] H:=by
  rintro part rfl;have hp:IH t (Mth.part t b):=⟨KD t b hz,Nat.lt_of_le_of_lt (QS t b hz) hb⟩;exact⟨_,rfl,_,rfl,_,_,rfl,rfl,hp,_,rfl,_,rfl,_,_,rfl,rfl,hp,by exact sz2,h1 hz⟩
 by_cases hn:b<0
 ·refine Bl hn ?_;exact⟨_,rfl,_,rfl,fin _ (by unfold Mth.part; rw[if_pos hn])⟩
 ·refine Bj hn ?_;exact fin _ (by unfold Mth.part; rw[if_neg hn])
open Wd
theorem DW{x:Addr}{H0 H:Hp}(s:AN H0 H)(n:H0 x=none)(o:HO):AN H0 (AE H x o):=λb u q=>by rw[AW (BB q n)]; exact s b u q
theorem DE{i:Int}{n:Nat}(h:i.natAbs<=2 ^ n)(hn:n<8000):BV i:=Nat.lt_of_le_of_lt h (Nat.pow_lt_pow_right (by decide) hn)
theorem Io{ns:List Int}{i:Nat}{v:V}(h:(ns.map V.int)[i]?=some v):∃e,v=.int e/\ns[i]?=some e:=by
 rw[cu] at h;cases q:ns[i]? with
 | none=>rw[q] at h; cases h
 | some e=>rw[q] at h; exact⟨e,(Option.some.inj h).symm,rfl⟩
theorem Ka{ns:List Int}{i:Nat}(h:i<ns.length):BI (ns.map V.int) (i:Int)=some (.int (ns.getD i 0)):=by
 refine Aq ?_;rw[cu,cg h,cw,cg h]; rfl
theorem BO{α:Type}{xs:List α}{i:Nat}{x:α}(h:xs[i]?=some x):xs.take (i+1)=xs.take i++[x]:=by
 rw[List.take_add_one,h]; rfl
variable {f g h C:Addr} {fd gd hd:FuncData}
theorem K9:Ar ["row","common","one"] ["row"] (Ah sCBot):=Av
inductive Oa(vs:List V)(H:Hp)(Q:VK):Prop
 | mk (a:Addr) (qs:List Rat) (b:Int) (h_0:vs=[.ref a,.int b]) (h_1:BA Ag H a qs) (h_2:qs.length<=1000) (h_3:(∀q∈qs,BV q.num/\BV (q.den:Int)/\BV (b.fdiv q.den))) (h_4:∀p H',AN H H'->H p=none->Cj H' p (qs.map (wh b))->Q (.ref p) H'):Oa vs H Q
def J7:Sp:=λvs H Q _=>Oa vs H Q
theorem a8:Ar ["row","bottom"] ["row","bottom"] (Ah sWholes):=Av
theorem ab:(["one","bottom"]:List Str).Nodup:=by decide +kernel
theorem Vj(F:Fun K "wholes" "wholes" sWholes f fd):AL P w K mg base AK 1 f fd ["row","bottom"] J7:=by
 refine F.ok a8 (λvs H Q E h=>?_) (λcdv A outer s H vs Q E hr h=>?_)
 ·obtain⟨a,qs,b,rfl,_⟩:=h;rfl
 obtain⟨a,qs,b,rfl,⟨bs,ha,hA⟩,hn,hsz,q⟩:=h;refine⟨_,AU (Ak (EH (Nc:=["one","bottom"]) (cap:=[(1,1)]) (g:=BG 0) (te:=BM (rI RW λi j=>.int (i*j)) (BM (E2 K) (Au 0) (tC (.int 0))) (BM (rI IH λi j=>.int (i.fdiv j)) (Au 1) (BM (E2 K) (Au 0) (tC (.int 1))))) rfl (Kk (pv 0))
   (B1 rfl rfl (by decide +kernel) (by decide +kernel) (cy.mpr ⟨⟨rfl,rfl⟩,cQ _⟩) rfl (cy.mpr ⟨⟨_,_,rfl,rfl,rfl,rfl,rfl⟩,cQ _⟩))
   (λ_ _ _ _ _=>AV (i:=0) ab rfl (Or.inl rfl)) (λ_ _ _ _ _=>AQ KJ (Ct Du (pv 0) AH (λ_ _=>rfl)) (AQ Hu (pv 1) (Ct Du (pv 0) AH (λ_ _=>rfl)))))),?_⟩
 refine⟨_,rfl,a,rfl,⟨_,AO.of ha⟩,λacc hacc=>?_⟩;refine Cf (G0 ha) (by rw[cf,hA.1]; exact hn) hacc (λi ys σ _=>ys=((qs.take i).map (wh b)).map V.int/\∃u,σ=[u,some (.int b)]) ⟨rfl,none,rfl⟩ ?_ ?_
 ·rintro i ys σ H2 x H3 hi sm hacc2 ⟨hys,u,rfl⟩ ⟨rfl,hx⟩ C hC;obtain⟨c,y,rfl,_,hy,hB⟩:=hA.ref hx;obtain⟨s1,s2,s3⟩:=hsz y (cq hy);have hB3:=EO sm hB;have yd:=y.den_nz;refine⟨_,rfl,c,_,_,_,rfl,rfl,AO.of hB3,Gv,_,rfl,_,rfl,c,_,_,_,rfl,rfl,AO.of hB3,E6,_,_,rfl,rfl,⟨by omega,s2⟩,_,_,rfl,rfl,⟨s1,s3⟩,?_⟩;refine hC _ _ _ (AN.refl _) ⟨?_,_,rfl⟩;rw[hys,BO hy,dh,dh]; rfl
 ·rintro ys σ H2 sm ha2 hl ⟨hys,_⟩;refine q acc H2 sm hacc ?_;rw[cf,hA.1,eI] at hys;unfold Cj;rw[ha2,hys]
theorem Lz:bootBuiltins "list" = some (.type "list"):=by decide +kernel
theorem YI{H:Hp}{a:Addr}{bs:List Addr}{qs:List Rat}{ys:List V}(h:At Ag H bs qs)(e:H a=some (.AD ys))(o:HO):At Ag (AE H a o) bs qs:=(RO e h).keep EO (RA H a o)
theorem Td{H:Hp}{a b:Addr}{r:List Rat}{ys:List V}(h:BA Ag H b r)(e:H a=some (.AD ys)):BA Ag (BF H a) b r:=by
 obtain⟨cs,h1,h2⟩:=h;exact⟨cs,Fn h1 (λz=>by rw[z,e] at h1; cases h1),RO e h2⟩
theorem Ex:Mo (BA Ag):=λs h=>EL (R:=Ag) (λs h=>EO s h) s h
def Ep(H:Hp)(a:Addr)(W U:Rat)(rows:List (List Rat)):Prop:=∃p q r,H a=some (.AF [.ref p,.ref q,.ref r])/\Ag H p W/\Ag H q U/\BA (BA Ag) H r rows
theorem Lp{H H':Hp}{a:Addr}{W U:Rat}{rows:List (List Rat)}(s:AN H H')(h:Ep H a W U rows):Ep H' a W U rows:=by
 obtain⟨p,q,r,h1,h2,h3,h4⟩:=h;exact⟨p,q,r,s _ _ h1,s _ _ h2,s _ _ h3,EL (R:=BA Ag) (λs h=>Ex s h) s h4⟩
abbrev nums(W U:Rat)(rows:List (List Rat)):List Rat:=W :: U :: rows.flatten
theorem MT:∀{rows:List (List Rat)},(∀r∈rows,r.length=4)->rows.flatten.length=4*rows.length
 | [],_=>rfl
 | r :: rows,h=>by
  rw[List.flatten_cons,cX,h r (by simp),MT (λx hx=>h x (by simp[hx])),dM]; omega
variable {C0 f1 f2 f3 f4 f5:Addr} {d1 d2 d3 d4 d5:FuncData}
inductive RH(vs:List V)(H:Hp)(Q:VK):Prop
 | mk (a:Addr) (qs:List Rat) (d:Nat) (h_0:vs=[.ref a]) (h_1:Ax Ag H a qs) (h_2:(∀q∈qs,q.den<=2 ^ d)) (h_3:d*qs.length+d<8000) (h_4:Q (.int (cb qs)) H):RH vs H Q
def Kt:Sp:=λvs H Q _=>RH vs H Q
theorem Ws(F:Fun K "common_bottom" "common_bottom" sCBot f fd)(G:AL P w K mg base AK 1 g gd ["one","other"] Kw)(bG:Af K gd ["one","other"] [])(kG:KP K g)(mG:mg "common_part" = some (.ref g)):
  AL P w K mg base AK 2 f fd ["row"] Kt:=by
 refine F.ok K9 (λvs H Q E h=>?_) (λcdv A outer s H vs Q E hr h=>?_)
 ·obtain⟨a,qs,d,rfl,_⟩:=h;rfl
 obtain⟨a,qs,d,rfl,⟨bs,ha,hA⟩,hd,hsz,q⟩:=h;refine⟨_,AS (Aa (i:=1) K9.nd rfl (Or.inl rfl) AH)
  (AS (Bv dv rfl (QT (pv 0)) (AV (i:=2) K9.nd rfl (Or.inl rfl))
   (AU (Aa (i:=1) K9.nd rfl (Or.inl rfl) (AQ KJ (AQ Hu (pv 1) (Ac G hr (by rfl) mG kG bG .nil Ad (AA (pv 1) (AA (Ct Du (pv 2) AH (λ_ _=>rfl)) AG)))) (Ct Du (pv 2) AH (λ_ _=>rfl))))))
  (AU (Ak (pv 1)))),?_⟩
 refine⟨_,rfl,a,rfl,⟨_,AJ.of ha⟩,?_⟩;refine Fg (xs:=bs.map V.ref) (λi σ H2=>∃u,H2=H/\σ=[some (.ref a),some (.int ((qs.take i).foldl DH 1)),u]) ⟨none,rfl,rfl⟩ (λi σ H2 _ ⟨_,e,_⟩=>by rw[e]; exact AJ.of ha) ?_ ?_
 ·rintro i x σ H2 hx ⟨u,rfl,rfl⟩;obtain⟨b,y,rfl,_,hy,hB⟩:=hA.ref hx;have hi:i<qs.length:=(cm.mp hy).1;have ym:y∈qs:=cq hy;obtain⟨c1,c2,c3,c4⟩:=RS (qs.take i) (c:=1) (D:=0) (d:=d) (by decide) (by decide) (λp hp=>hd p (List.mem_of_mem_take hp));generalize hc:(qs.take i).foldl DH 1=c at *;have lt:(qs.take i).length<=qs.length:=by simp; omega
  have mle:d*(qs.take i).length<=d*qs.length:=Nat.mul_le_mul_left d lt;have hdn:y.den<=2 ^ d:=hd y ym;have hg0:(Int.gcd c y.den:Int)≠0:=by have:=Int.gcd_pos_of_ne_zero_left (y.den:Int) (show c≠0 by omega); omega
  have hgb:BV (Int.gcd c y.den:Int):=by
   refine DE (n:=d) ?_ (by omega);rw[eL];refine dg (Nat.le_of_dvd ?_ (Int.ofNat_dvd_left.mp (Int.gcd_dvd_right c (y.den:Int)))) ?_
   ·have:=y.den_nz; omega
   ·simpa using hdn
  have hb1:BV (c.fdiv (Int.gcd c y.den:Int)):=by
   refine DE (n:=0+d*(qs.take i).length) (dg ?_ c4) (by omega);rw[fw (Int.gcd_dvd_left c _)];exact Int.natAbs_ediv_le_natAbs c _
  have hb2:BV (y.den:Int):=DE (n:=d) (by simpa using hdn) (by omega);refine⟨_,rfl,_,rfl,_,rfl,b,_,_,_,rfl,rfl,AO.of hB,E6,c,y.den,rfl,_,_,rfl,rfl,⟨hg0,hgb⟩,_,rfl,b,_,_,_,rfl,rfl,AO.of hB,E6,_,_,rfl,rfl,⟨hb1,hb2⟩,?_⟩;refine⟨some (.ref b),rfl,?_⟩;rw[BO hy,List.foldl_append];show _=[some (V.ref a),some (.int (DH ((qs.take i).foldl DH 1) y)),some (.ref b)];rw[hc]; rfl
 ·rintro σ H2 ⟨u,rfl,rfl⟩;refine⟨_,rfl,?_⟩;rw[cf,hA.1,eI];exact q
inductive QK(vs:List V)(H:Hp)(Q:VK):Prop
 | mk (a:Addr) (W U:Rat) (rows:List (List Rat)) (h_0:vs=[.ref a]) (h_1:Ep H a W U rows) (h_2:rows.length<=40) (h_3:(∀r∈rows,r.length=4)) (h_4:∀p H',AN H H'->Ax Ag H' p (nums W U rows)->Q (.ref p) H'):QK vs H Q
def Ki:Sp:=λvs H Q _=>QK vs H Q
theorem Ml:Ar ["floor","numbers","rectangle"] ["floor"] (Ah s_numbers_of):=Av
theorem Xn(F:Fun K "numbers_of" "numbers_of" s_numbers_of f fd)(mli:mg "list" = none):AL P w K mg base AK 1 f fd ["floor"] Ki:=by
 refine F.ok Ml (λvs H Q E h=>?_) (λcdv A outer s H vs Q E hr h=>?_)
 ·obtain⟨a,W,U,rows,rfl,_⟩:=h;rfl
 obtain⟨a,W,U,rows,rfl,⟨p,q0,r,ha,hW,hU,bs,hrr,hB⟩,hl,h4,q⟩:=h;refine⟨_,AS (Aa (i:=1) Ml.nd rfl (Or.inl rfl) (B3 (AA (Ct Du (pv 0) AH (λ_ _=>rfl)) (AA (Ct Du (pv 0) AH (λ_ _=>rfl)) AG))))
  (AS (Bv dv rfl (Kk (Ct Du (pv 0) AH (λ_ _=>rfl))) (AV (i:=2) Ml.nd rfl (Or.inl rfl))
   (AU (Cq (C7 K dc PySem.F.slot_list_extend PySem.F.type_list_extend VE (pv 1) (AA (Dr UC (by rfl) mli Lz (AA (pv 2) AG)) AG)))))
  (AU (Ak (pv 1)))),?_⟩
 refine⟨_,rfl,a,_,_,_,rfl,rfl,AO.of ha,Dy _ _ _,_,rfl,a,_,_,_,rfl,rfl,AO.of ha,D5 _ _ _,by exact sz2,λL hL=>?_⟩;have s1:=AR hL (.AD [.ref p,.ref q0]);have e1:(AE H L (.AD [.ref p,.ref q0])) L=some (.AD ([p,q0].map V.ref)):=AM;generalize AE H L (.AD [.ref p,.ref q0])=H1 at s1 e1;have lb:bs.length=rows.length:=hB.1;refine⟨_,rfl,a,_,_,_,rfl,rfl,AO.of (s1 _ _ ha),DD _ _ _,r,rfl,⟨_,AO.of (s1 _ _ hrr)⟩,?_⟩;refine Ph (xs:=bs.map V.ref) (λi σ H2=>AN H H2/\∃(u:Option V) (cs:List Addr),σ=[some (.ref a),some (.ref L),u]/\H2 L=some (.AD (cs.map V.ref))/\At Ag H2 cs (W :: U :: (rows.take i).flatten))
  ⟨s1,none,[p,q0],rfl,e1,(At.nil.snoc (R:=Ag) (b:=p) (x:=W) (s1 _ _ hW)).snoc (b:=q0) (x:=U) (s1 _ _ hU)⟩ (λi σ H2 _ ⟨s2,_⟩=>AO.of (s2 _ _ hrr)) ?_ ?_
 ·rintro i x σ H2 hx ⟨s2,u,cs,rfl,hcs,hC⟩;obtain⟨b,row,rfl,_,hrow,es,hes,hE⟩:=hB.ref hx;have hi:i<rows.length:=(cm.mp hrow).1;have le:es.length=4:=by rw[hE.1]; exact h4 row (cq hrow)
  have lc:cs.length=2+4*i:=by
   rw[hC.1,dM,dM,MT (λx hx=>h4 x (List.mem_of_mem_take hx)),dm]; omega
  refine⟨_,rfl,.inl ⟨rfl,_,AJ.of hcs⟩,_,rfl,b,_,rfl,.inr (AO.of (s2 _ _ hes)),λlf hlf=>?_⟩;have s3:=AR hlf (.AD (es.map V.ref));have e3:(AE H2 lf (.AD (es.map V.ref))) lf=some (.AD (es.map V.ref)):=AM;generalize AE H2 lf (.AD (es.map V.ref))=H3 at s3 e3;refine⟨L,lf,_,_,rfl,rfl,s3 _ _ hcs,e3,by rw[cf,cf]; exact GW (by omega),?_⟩;refine⟨DW (s2.trans s3) hL _,_,cs++es,rfl,by rw[AM]; simp,?_⟩
  have:=(hC.keep EO s3).Nk (hE.keep EO (s2.trans s3))
  rw[BO hrow,List.flatten_append,List.flatten_cons,List.flatten_nil,eD];exact YI this (s3 _ _ hcs) _
 ·rintro σ H2 ⟨s2,u,cs,rfl,hcs,hC⟩;rw[cf,lb,eI] at hC;exact⟨_,rfl,q L H2 s2 ⟨cs,hcs,hC⟩⟩
theorem ZS{n:Nat}(h:2<=n):HT.AY n n (some 2)=2:=by simp[HT.AY]; omega
inductive SI(vs:List V)(H:Hp)(Q:VK):Prop
 | mk (a:Addr) (b:Int) (W U:Rat) (rows:List (List Rat)) (h_0:vs=[.ref a,.int b]) (h_1:Ep H a W U rows) (h_2:rows.length<=40) (h_3:(∀r∈rows,r.length=4)) (h_4:(∀q∈nums W U rows,BV q.num/\BV (q.den:Int)/\BV (b.fdiv q.den))) (h_5:∀p l H',AN H H'->H' p=some (.AF [.int (wh b W),.int (wh b U),.ref l])->Ax Cj H' l (rows.map λr=>r.map (wh b))->Q (.ref p) H'):SI vs H Q
def LC:Sp:=λvs H Q _=>SI vs H Q
theorem Sa:Ar ["floor","bottom","sides"] ["floor","bottom"] (Ah s_whole_floor):=Av
theorem bF:(["rectangle","bottom"]:List Str).Nodup:=by decide +kernel
theorem aN(F:Fun K "whole_floor" "whole_floor" s_whole_floor f fd)(G1:AL P w K mg base AK 1 f1 d1 ["row","bottom"] J7)(b1:Af K d1 ["row","bottom"] [])(k1:KP K f1)(m1:mg "wholes" = some (.ref f1)):
  AL P w K mg base AK 2 f fd ["floor","bottom"] LC:=by
 refine F.ok Sa (λvs H Q E h=>?_) (λcdv A outer s H vs Q E hr h=>?_)
 ·obtain⟨a,b,W,U,rows,rfl,_⟩:=h;rfl
 obtain⟨a,b,W,U,rows,rfl,⟨p,q0,r,ha,hW,hU,bs,hrr,hB⟩,hl,h4,hsz,q⟩:=h;refine⟨_,AS (Aa (i:=2) Sa.nd rfl (Or.inl rfl) (Ac G1 hr (by rfl) m1 k1 b1 .nil Ad (AA (Eg MQ (pv 0) FG (EG AH)) (AA (pv 1) AG))))
  (AU (Ak (Ao (AA (Ct KC (pv 2) AH (λ_ _=>rfl)) (AA (Ct KC (pv 2) AH (λ_ _=>rfl)) (AA
   (EH (Nc:=["rectangle","bottom"]) (cap:=[(1,1)]) (g:=BG 0) (te:=Fs J7 [] E0 (BQ (Au 0) (BQ (Au 1) B7))) rfl (Kk (Ct Du (pv 0) AH (λ_ _=>rfl)))
   (B1 rfl rfl (by decide +kernel) (by decide +kernel) (cy.mpr ⟨⟨rfl,rfl⟩,cQ _⟩) rfl (cy.mpr ⟨⟨_,_,rfl,rfl,rfl,rfl,rfl⟩,cQ _⟩))
   (λ_ _ _ _ _=>AV (i:=0) bF rfl (Or.inl rfl)) (λ_ _ _ _ _=>Ac G1 hr (by rfl) m1 k1 b1 .nil Ad (AA (pv 0) (AA (pv 1) AG)))) AG)))))),?_⟩
 refine⟨_,rfl,2,rfl,a,_,rfl,AO.of ha,λz=>?_,λp1 hp1=>?_⟩
 ·have:=z.2
  rw[ZS (by show 2<=3; decide)] at this;cases this
 rw[show CU [V.ref p,.ref q0,.ref r] none (some 2)=[p,q0].map V.ref by rw[show(some (2:Int))=some ((2:Nat):Int) from rfl,Il _ (by show 2<=3; decide)]; rfl];have s1:=AR hp1 (.AF ([p,q0].map V.ref));have e1:(AE H p1 (.AF ([p,q0].map V.ref))) p1=some (.AF ([p,q0].map V.ref)):=AM;generalize AE H p1 (.AF ([p,q0].map V.ref))=H1 at s1 e1;have a1:At Ag H1 [p,q0] [W,U]:=(At.nil.snoc (R:=Ag) (b:=p) (x:=W) (s1 _ _ hW)).snoc (b:=q0) (x:=U) (s1 _ _ hU);refine⟨_,rfl,p1,[W,U],b,rfl,⟨_,e1,a1⟩,by show 2<=1000; decide,λy hy=>hsz y (by simp only[cP,de,or_false] at hy; rcases hy with rfl | rfl <;> simp),λl2 H2 s2 _ hl2=>?_⟩;have hl2':H2 l2=some (.AD [.int (wh b W),.int (wh b U)]):=hl2;have s12:=s1.trans s2;have lb:bs.length=rows.length:=hB.1;refine⟨_,rfl,l2,_,_,_,rfl,rfl,AJ.of hl2',Gv,_,rfl,l2,_,_,_,rfl,rfl,AJ.of hl2',E6,?_⟩;refine⟨_,rfl,a,_,_,_,rfl,rfl,AO.of (s12 _ _ ha),DD _ _ _,r,rfl,⟨_,AO.of (s12 _ _ hrr)⟩,λacc hacc=>?_⟩;refine Cf (G0 (s12 _ _ hrr)) (by rw[cf]; omega) hacc (λi ys σ hp=>∃gs:List Addr,ys=gs.map V.ref/\At Cj hp gs ((rows.map λr=>r.map (wh b)).take i)/\∃u,σ=[u,some (.int b)]) ⟨[],rfl,At.nil,none,rfl⟩ ?_ ?_
 ·rintro i ys σ H3 z H4 hi sm hac3 ⟨gs,rfl,hG,u,rfl⟩ ⟨rfl,hx⟩ Cc hC;obtain⟨c,row,rfl,_,hrow,hR⟩:=hB.ref hx;have rm:row∈rows:=cq hrow;have hR3:=Ex (s12.trans sm) hR;refine⟨_,rfl,_,rfl,c,row,b,rfl,hR3,by rw[h4 row rm]; omega,λy hy=>hsz y (by simp only[cP]; exact .inr (.inr (List.mem_flatten.mpr ⟨row,rm,hy⟩))),λp5 H5 s5 np hp=>?_⟩;refine hC _ _ _ s5 ⟨gs++[p5],by simp,?_,_,rfl⟩;have ne:p5≠acc:=λz=>by rw[z,hac3] at np; cases np
  have e3:(rows.map λr=>r.map (wh b))[i]?=some (row.map (wh b)):=by rw[cu,hrow]; rfl
  rw[BO e3];exact(hG.keep GJ (FD acc s5)).snoc (Fn hp ne)
 rintro ys σ2 H3 s3 hac3 hl3 ⟨gs,rfl,hG,u,rfl⟩;rw[cf,lb,dC (by rw[cf]; omega)] at hG;refine⟨by exact CB,λpp hpp=>?_⟩;have s4:=AR hpp (.AF [.int (wh b W),.int (wh b U),.ref acc]);exact q pp acc _ (s12.trans (s3.trans s4)) AM ⟨gs,s4 _ _ hac3,(hG.keep GJ (EE H3 acc)).keep GJ s4⟩
open Fl
def Ck(H:Hp)(a:Addr)(b:AB):Prop:=H a=some (.AD [.int b.l,.int b.d,.int b.r,.int b.u])
theorem Kl:Mo Ck:=λs h=>s _ _ h
def CL(b:AB):Bool:=decide (b.r<b.l) || (decide (b.u<b.d) || (decide (b.l=b.r) != decide (b.d=b.u)))
def CP(w h:Int)(b:AB):Bool:=decide (b.l<0) || (decide (b.d<0) || (decide (w<b.r) || decide (h<b.u)))
theorem Z3{b:AB}(h:DG b):CL b=false:=by
 rcases h with ⟨h1,h2⟩ | ⟨h1,h2⟩
 ·simp only[CL,decide_eq_false (show ¬b.r<b.l by omega),decide_eq_false (show ¬b.u<b.d by omega),decide_eq_false (show ¬b.l=b.r by omega),decide_eq_false (show ¬b.d=b.u by omega)]; rfl
 ·simp only[CL,decide_eq_false (show ¬b.r<b.l by omega),decide_eq_false (show ¬b.u<b.d by omega),decide_eq_true h1,decide_eq_true h2]; rfl
theorem Gk{a b c d:V}:BI [a,b,c,d] 0=some a:=Aq (j:=0) rfl
theorem GZ{a b c d:V}:BI [a,b,c,d] 1=some b:=Aq (j:=1) rfl
theorem Gj{a b c d:V}:BI [a,b,c,d] 2=some c:=Aq (j:=2) rfl
theorem GX{a b c d:V}:BI [a,b,c,d] 3=some d:=Aq (j:=3) rfl
inductive Rk(vs:List V)(H:Hp)(Q:VK):Prop
 | mk (a:Addr) (b:AB) (h_0:vs=[.ref a]) (h_1:Ck H a b) (h_2:Q (.bl (CL b)) H):Rk vs H Q
def NB:Sp:=λvs H Q _=>Rk vs H Q
theorem au:Ar ["rectangle"] ["rectangle"] (Ah s_is_neither):=Av
theorem Zp(F:Fun K "is_neither" "is_neither" s_is_neither f fd):AL P w K mg base AK 1 f fd ["rectangle"] NB:=by
 refine F.ok au (λvs H Q E h=>?_) (λcdv A outer s H vs Q E hr h=>?_)
 ·obtain⟨a,b,rfl,_⟩:=h;rfl
 obtain⟨a,b,rfl,ha,q⟩:=h;refine⟨_,AS (Bk (PW.pt (Fw (A4 FL (pL K (pv 0) AH) (pL K (pv 0) AH) (An _))
   (Ke (A4 FL (pL K (pv 0) AH) (pL K (pv 0) AH) (An _))))) (AU (Ak MS)) B2)
  (AU (Ak (Ds GU (Ds Ci (pL K (pv 0) AH) (pL K (pv 0) AH) (An _))
   (Ds Ci (pL K (pv 0) AH) (pL K (pv 0) AH) (An _)) (An _)))),?_⟩
 refine⟨_,rfl,a,_,_,_,rfl,rfl,AJ.of ha,Gk,_,rfl,a,_,_,_,rfl,rfl,AJ.of ha,Gj,_,_,rfl,rfl,_,rfl,?_⟩
 (try dsimp only)
 by_cases h1:b.r<b.l
 ·rw[if_pos (decide_eq_true h1),if_pos rfl];rw[show CL b=true by simp only[CL,decide_eq_true h1]; rfl] at q;exact q
 rw[if_neg (by rw[decide_eq_false h1]; decide)];refine⟨_,rfl,a,_,_,_,rfl,rfl,AJ.of ha,GZ,_,rfl,a,_,_,_,rfl,rfl,AJ.of ha,GX,_,_,rfl,rfl,_,rfl,?_⟩
 (try dsimp only)
 by_cases h2:b.u<b.d
 ·rw[if_pos (decide_eq_true h2)];rw[show CL b=true by simp only[CL,decide_eq_false h1,decide_eq_true h2]; rfl] at q;exact q
 rw[if_neg (by rw[decide_eq_false h2]; decide)];refine⟨_,rfl,a,_,_,_,rfl,rfl,AJ.of ha,Gk,_,rfl,a,_,_,_,rfl,rfl,AJ.of ha,Gj,rfl,_,rfl,a,_,_,_,rfl,rfl,AJ.of ha,GZ,_,rfl,a,_,_,_,rfl,rfl,AJ.of ha,GX,rfl,rfl,?_⟩;rw[show CL b=(decide (b.l=b.r) != decide (b.d=b.u)) by simp only[CL,decide_eq_false h1,decide_eq_false h2]; rfl] at q;rw[MG,KO,KO];rw[Bool.beq_eq_decide_eq,Bool.beq_eq_decide_eq];exact q
inductive Q4(vs:List V)(H:Hp)(Q:VK):Prop
 | mk (a:Addr) (b:AB) (m n:Int) (h_0:vs=[.ref a,.int m,.int n]) (h_1:Ck H a b) (h_2:Q (.bl (CP m n b)) H):Q4 vs H Q
def MX:Sp:=λvs H Q _=>Q4 vs H Q
theorem ZW:Ar ["rectangle","width","height"] ["rectangle","width","height"] (Ah s_is_out):=Av
theorem Yk(F:Fun K "is_out" "is_out" s_is_out f fd):AL P w K mg base AK 1 f fd ["rectangle","width","height"] MX:=by
 refine F.ok ZW (λvs H Q E h=>?_) (λcdv A outer s H vs Q E hr h=>?_)
 ·obtain⟨a,b,m,n,rfl,_⟩:=h;rfl
 obtain⟨a,b,m,n,rfl,ha,q⟩:=h;refine⟨_,AU (Ak (MW (Ds GQ (pL K (pv 0) AH) AH (An _)) (MW (Ds GQ (pL K (pv 0) AH) AH (An _))
  (MW (Ds FL (pL K (pv 0) AH) (pv 1) (An _)) (JA (Ds FL (pL K (pv 0) AH) (pv 2) (An _))))))),?_⟩
 refine⟨_,rfl,a,_,_,_,rfl,rfl,AJ.of ha,Gk,_,_,rfl,rfl,_,rfl,?_⟩;by_cases h1:b.l<0
 ·rw[if_pos (decide_eq_true h1)];rw[show CP m n b=true by simp only[CP,decide_eq_true h1]; rfl] at q;exact q
 rw[if_neg (by rw[decide_eq_false h1]; decide)];refine⟨_,rfl,a,_,_,_,rfl,rfl,AJ.of ha,GZ,_,_,rfl,rfl,_,rfl,?_⟩;by_cases h2:b.d<0
 ·rw[if_pos (decide_eq_true h2)];rw[show CP m n b=true by simp only[CP,decide_eq_false h1,decide_eq_true h2]; rfl] at q;exact q
 rw[if_neg (by rw[decide_eq_false h2]; decide)];refine⟨_,rfl,a,_,_,_,rfl,rfl,AJ.of ha,Gj,_,rfl,_,_,rfl,rfl,_,rfl,?_⟩;by_cases h3:m<b.r
 ·rw[if_pos (decide_eq_true h3)];rw[show CP m n b=true by simp only[CP,decide_eq_false h1,decide_eq_false h2,decide_eq_true h3]; rfl] at q;exact q
 rw[if_neg (by rw[decide_eq_false h3]; decide)];refine⟨_,rfl,a,_,_,_,rfl,rfl,AJ.of ha,GX,_,rfl,_,_,rfl,rfl,?_⟩;rw[show CP m n b=decide (n<b.u) by simp only[CP,decide_eq_false h1,decide_eq_false h2,decide_eq_false h3]; rfl] at q;exact q
inductive Ro(vs:List V)(H:Hp)(Q:VK):Prop
 | mk (a c:Addr) (b d:AB) (h_0:vs=[.ref a,.ref c]) (h_1:Ck H a b) (h_2:Ck H c d) (h_3:Q (.bl (CZ b d)) H):Ro vs H Q
def NN:Sp:=λvs H Q _=>Ro vs H Q
theorem NF:Ar ["one","other","across","upward"] ["one","other"] (Ah s_overlap):=Av
theorem TN(i j:Int):(if j > i then j else i)=max i j:=by split <;> omega
theorem Th(i j:Int):(if j<i then j else i)=min i j:=by split <;> omega
theorem aR(F:Fun K "overlap" "overlap" s_overlap f fd)(mx:mg "max" = none)(mn:mg "min" = none):AL P w K mg base AK 1 f fd ["one","other"] NN:=by
 refine F.ok NF (λvs H Q E h=>?_) (λcdv A outer s H vs Q E hr h=>?_)
 ·obtain⟨a,c,b,d,rfl,_⟩:=h;rfl
 obtain⟨a,c,b,d,rfl,ha,hc,q⟩:=h;refine⟨_,AS (Aa (i:=2) NF.nd rfl (Or.inl rfl) (Ds GQ (As (Li rfl) (by rfl) mx MK (AA (pL K (pv 0) AH) (AA (pL K (pv 1) AH) AG)))
   (As (LZ rfl) (by rfl) mn ID (AA (pL K (pv 0) AH) (AA (pL K (pv 1) AH) AG))) (An _)))
  (AS (Aa (i:=3) NF.nd rfl (Or.inl rfl) (Ds GQ (As (Li rfl) (by rfl) mx MK (AA (pL K (pv 0) AH) (AA (pL K (pv 1) AH) AG)))
   (As (LZ rfl) (by rfl) mn ID (AA (pL K (pv 0) AH) (AA (pL K (pv 1) AH) AG))) (An _)))
  (AU (Ak (Kg (pv 2) (JA (pv 3)))))),?_⟩
 refine⟨_,rfl,a,_,_,_,rfl,rfl,AJ.of ha,Gk,_,rfl,c,_,_,_,rfl,rfl,AJ.of hc,Gk,_,_,rfl,_,rfl,a,_,_,_,rfl,rfl,AJ.of ha,Gj,_,rfl,c,_,_,_,rfl,rfl,AJ.of hc,Gj,_,_,rfl,_,_,rfl,rfl,?_⟩;refine⟨_,rfl,a,_,_,_,rfl,rfl,AJ.of ha,GZ,_,rfl,c,_,_,_,rfl,rfl,AJ.of hc,GZ,_,_,rfl,_,rfl,a,_,_,_,rfl,rfl,AJ.of ha,GX,_,rfl,c,_,_,_,rfl,rfl,AJ.of hc,GX,_,_,rfl,_,_,rfl,rfl,?_⟩;rw[TN,Th,TN,Th];refine⟨_,rfl,_,rfl,?_⟩;by_cases h1:max b.l d.l<min b.r d.r
 ·rw[if_pos (decide_eq_true h1)];rw[show CZ b d=decide (max b.d d.d<min b.u d.u) by simp only[CZ,decide_eq_true h1]; rfl] at q;exact⟨_,rfl,q⟩
 ·rw[if_neg (by rw[decide_eq_false h1]; decide)];rw[show CZ b d=false by simp only[CZ,decide_eq_false h1]; rfl] at q;exact q
theorem P7{bs:List Addr}{i:Nat}{b:Addr}(h:bs[i]?=some b):(bs.map V.ref)[i]?=some (.ref b):=by rw[cu,h]; rfl
inductive Rb(vs:List V)(H:Hp)(Q:VK):Prop
 | mk (a:Addr) (bs:List AB) (h_0:vs=[.ref a]) (h_1:Ax Ck H a bs) (h_2:bs.length<=1000) (h_3:(∀(j k:Nat) (p:Addr) (H':Hp),Fst bs j k->AN H H'->H' p=some (.AF [.int j,.int k])->Q (.ref p) H')) (h_4:(Df bs->∀H',AN H H'->Q .Aj H')):Rb vs H Q
def Me:Sp:=λvs H Q _=>Rb vs H Q
theorem LA:Ar ["rectangles","j","one","k"] ["rectangles"] (Ah s_first_overlap):=Av
theorem aL (F:Fun K "first_overlap" "first_overlap" s_first_overlap f fd) (G:AL P w K mg base AK 1 g gd ["one","other"] NN) (bG:Af K gd ["one","other"] []) (kG:KP K g) (mG:mg "overlap" = some (.ref g))
  (me:mg "enumerate" = none) (mr:mg "range" = none) (ml:mg "len" = none):AL P w K mg base AK 2 f fd ["rectangles"] Me:=by
 refine F.ok LA (λvs H Q E h=>?_) (λcdv A outer s H vs Q E hr h=>?_)
 ·obtain⟨a,bs,rfl,_⟩:=h;rfl
 obtain⟨a,bs,rfl,⟨cs,ha,hC⟩,hl,q1,q2⟩:=h;refine⟨_,AS (Bv dv rfl (Jy (by rfl) me (AA (pv 0) AG)) (Ca (n:=2) (K:=K) rfl (Ai (AV (i:=1) LA.nd rfl (Or.inl rfl)) (Ai (AV (i:=2) LA.nd rfl (Or.inl rfl)) CS)))
   (AU (Bv dv rfl (Jt (by rfl) mr (AA (AQ A5 (pv 1) AH) (AA (As (Bo (K:=K)) (by rfl) ml Bh (AA (pv 0) AG)) AG))) (AV (i:=3) LA.nd rfl (Or.inl rfl))
    (AU (Bk (EK (Ac G hr (by rfl) mG kG bG .nil Ad (AA (pv 2) (AA (pL K (pv 0) (pv 3)) AG)))) (AU (Ak (Ao (AA (pv 1) (AA (pv 3) AG))))) B2)))))
  (AU (Ak MH)),?_⟩
 have lc:cs.length=bs.length:=hC.1;refine⟨_,rfl,a,_,rfl,ha,?_⟩;refine Jq (xs:=cs.map V.ref) (λi σ H2=>AN H H2/\(∃u1 u2 u3,σ=[some (.ref a),u1,u2,u3])/\∀(j' k':Nat) (x y:AB),j' < k'->j' < i->bs[j']?=some x->bs[k']?=some y->CZ x y=false)
  ⟨AN.refl _,⟨none,none,none,rfl⟩,λ_ _ _ _ _ z=>absurd z (Nat.not_lt_zero _)⟩ (λi σ H2 _ ⟨s2,_⟩=>s2 _ _ ha) ?_ ?_
 ·rintro i x σ H2 p hx ⟨s2,⟨u1,u2,u3,rfl⟩,no⟩ hp;obtain⟨c,b,rfl,_,hy,fb⟩:=hC.ref hx;have bi:i<bs.length:=(cm.mp hy).1;have s3:=AR hp (.AF [.int ((i:Nat):Int),.ref c]);have g3:(AE H2 p (.AF [.int ((i:Nat):Int),.ref c])) p=some (.AF [.int ((i:Nat):Int),.ref c]):=AM;generalize AE H2 p (.AF [.int ((i:Nat):Int),.ref c])=H3 at s3 g3;have s03:=s2.trans s3;refine⟨p,_,rfl,AO.of g3,rfl,_,_,rfl,_,_,rfl,rfl,?_⟩;refine⟨_,rfl,_,_,rfl,rfl,_,rfl,a,_,rfl,.inl (AJ.of (s03 _ _ ha)),_,_,rfl,?_,?_⟩
  ·rw[cf,lc]; omega
  rw[cf,lc,show((bs.length:Int)-((i:Int)+1)).toNat=bs.length-(i+1) by omega];refine FA (λk σ H4=>H4=H3/\(∃u3,σ=[some (.ref a),some (.int ((i:Nat):Int)),some (.ref c),u3])/\∀(k':Nat) (y:AB),i<k'->k' < i+1+k->bs[k']?=some y->CZ b y=false)
   ⟨rfl,⟨u3,rfl⟩,λk' y z1 z2=>by omega⟩ ?_ ?_
  ·rintro k σ H4 hk ⟨rfl,⟨u4,rfl⟩,nk⟩;have kl:i+1+k<bs.length:=by omega
   have hz:bs[i+1+k]?=some bs[i+1+k]:=cg kl;obtain⟨cz,hcz,fz⟩:=hC.get hz;refine⟨_,rfl,_,rfl,_,rfl,a,_,_,_,rfl,rfl,AJ.of (s03 _ _ ha),Aq (j:=i+1+k) (P7 hcz),c,cz,b,_,rfl,s03 _ _ fb,s03 _ _ fz,_,rfl,?_⟩;refine Ga (λov=>?_) (λov=>?_)
   ·refine⟨_,rfl,_,rfl,by exact sz2,λt ht=>?_⟩;refine q1 i (i+1+k) t _ ⟨by omega,⟨b,_,hy,hz,ov⟩,?_⟩ (s03.trans (AR ht _)) (by rw[AM]; rfl);rintro j' k' x y h1 h2 h3 (h4 | ⟨rfl,h4⟩)
    ·exact no j' k' x y h1 h4 h2 h3
    ·rw[hy] at h2; cases h2;exact nk k' y h1 h4 h3
   ·refine⟨rfl,⟨_,rfl⟩,λk' y h1 h2 h3=>?_⟩;rcases c5 k' (i+1+k) with z | z
    ·exact nk k' y h1 z h3
    ·obtain rfl:k'=i+1+k:=by omega
     rw[hz] at h3; cases h3;simpa using ov
  ·rintro σ H4 ⟨rfl,⟨u4,rfl⟩,nk⟩;refine⟨s03,⟨_,_,_,rfl⟩,λj' k' x y h1 h2 h3 h4=>?_⟩;rcases c5 j' i with z | z
   ·exact no j' k' x y h1 z h3 h4
   ·obtain rfl:j'=i:=by omega
    rw[hy] at h3; cases h3
    have:=(cm.mp h4).1
    exact nk k' y h1 (by omega) h4
 ·rintro σ H2 ⟨s2,⟨u1,u2,u3,rfl⟩,no⟩;rw[cf,lc] at no;refine q2 ?_ _ s2;rw[Df,cY];intro i j hi hj hij;exact no i j _ _ hij hi (cg hi) (cg hj)
end
end My
namespace L2
open PySem PySem.Spec PyProof.Rows
section
variable {X:Cx} {K:PySem.W.Frag} {P:Program} {w:World}
theorem Qd(hc:X.BS=true)(h:X.K=K:=by rfl)(hp:X.prog=P:=by rfl)(hw:X.w=w:=by rfl):CT X (.type "set") (λxs H Q=>∃(p:Addr) (ns:List Int),xs=[.ref p]/\AJ K H p (ns.map V.int)/\ns.length<=1000/\∀a,H a=none->Q (.ref a) (AE H a (D3 P w a (BY ns)))):=by
 subst h hp hw;exact Vp hc
theorem Pw(hc:X.BS=true)(hp:X.prog=P:=by rfl)(hw:X.w=w:=by rfl):CT X (.builtin "sorted") (λxs H Q=>∃(a:Addr) (ks:List Int),xs=[.ref a]/\H a=some (D3 P w a ks)/\ks.length<64/\∀(l:Addr) (ms:List Int),H l=none->ms.Perm ks->ms.Pairwise (·<=·)->Q (.ref l) (AE H l (.AD (ms.map V.int)))):=by
 subst hp hw;exact Uc hc
end
end L2
namespace My
open PySem L2 Mth Wd Fl
theorem Q5:bootBuiltins "set" = some (.type "set"):=by decide +kernel
theorem Jp:bootBuiltins "sorted" = some (.builtin "sorted"):=by decide +kernel
def Gs(t:Nat)(b:AB):Int:=if t=0 then b.l else b.d
def LH(t:Nat)(b:AB):Int:=if t=0 then b.r else b.u
def C8(t:Nat)(bs:List AB):List Int:=bs.map (Gs t)++bs.map (LH t)
theorem Z9(bs:List AB):C8 0 bs=FP bs:=rfl
theorem ZV(bs:List AB):C8 1 bs=FW bs:=rfl
theorem Ze{t:Nat}(h:t<=1)(b:AB):BI [V.int b.l,.int b.d,.int b.r,.int b.u] (t:Int)=some (.int (Gs t b)):=by
 rcases(show t=0\/t=1 by omega) with rfl | rfl
 ·exact Gk
 ·exact GZ
theorem Zh{t:Nat}(h:t<=1)(b:AB):BI [V.int b.l,.int b.d,.int b.r,.int b.u] ((t:Int)+2)=some (.int (LH t b)):=by
 rcases(show t=0\/t=1 by omega) with rfl | rfl
 ·exact Gj
 ·exact GX
theorem ZP{m:Int}{vs ns ms:List Int}(e:∀v,v∈ns↔v=0\/v=m\/v∈vs)(p:ms.Perm (BY ns))(srt:ms.Pairwise (·<=·)):Bd m vs ms:=by
 refine⟨?_,λv=>by rw[p.mem_iff,Lf,e]⟩;have nd:ms.Nodup:=p.nodup_iff.mpr (LR ns);exact(srt.and nd).imp λ⟨a,b⟩=>by omega
section
variable {P:Program} {w:World} {K:PySem.W.Frag} {mg:Str->Option Value} {base:Heap} {f g h C0 f1 f2 f3 f4 f5:Addr} {fd gd hd d1 d2 d3 d4 d5:FuncData}
inductive R6(vs:List V)(H:Hp)(Q:VK):Prop
 | mk (a:Addr) (bs:List AB) (t:Nat) (m:Int) (h_0:vs=[.ref a,.int t,.int m]) (h_1:Ax Ck H a bs) (h_2:bs.length<=30) (h_3:t<=1) (h_4:∀l xs H',AN H H'->Cj H' l xs->xs.length<=62->Bd m (C8 t bs) xs->Q (.ref l) H'):R6 vs H Q
def Mr:Sp:=λvs H Q _=>R6 vs H Q
theorem M0:Ar ["rectangles","at","most","lesser","greater"] ["rectangles","at","most"] (Ah s_borders):=Av
theorem So:(["rectangle","at"]:List Str).Nodup:=by decide +kernel
theorem Zw(F:Fun K "borders" "borders" s_borders f fd)(mse:mg "set" = none)(mso:mg "sorted" = none):AL P w K mg base AK 1 f fd ["rectangles","at","most"] Mr:=by
 refine F.ok M0 (λvs H Q E h=>?_) (λcdv A outer s H vs Q E hr h=>?_)
 ·obtain⟨a,bs,t,m,rfl,_⟩:=h;rfl
 obtain⟨a,bs,t,m,rfl,⟨cs,ha,hC⟩,hl,ht,q⟩:=h;refine⟨_,AS (Gw (i:=3) M0.nd rfl (Or.inl rfl) (Nc:=["rectangle","at"]) (cap:=[(1,1)]) (g:=BG 0) (te:=BM (Gf K) (Au 0) (Au 1)) rfl (Cu (K:=K) (pv 0))
   (B1 rfl rfl (by decide +kernel) (by decide +kernel) (cy.mpr ⟨⟨rfl,rfl⟩,cQ _⟩) rfl (cy.mpr ⟨⟨_,_,rfl,rfl,rfl,rfl,rfl⟩,cQ _⟩))
   (λ_ _ _ _ _=>AV (i:=0) So rfl (Or.inl rfl)) (λ_ _ _ _ _=>pL K (pv 0) (pv 1)))
  (AS (Gw (i:=4) M0.nd rfl (Or.inl rfl) (Nc:=["rectangle","at"]) (cap:=[(1,1)]) (g:=BG 0) (te:=BM (Gf K) (Au 0) (BM (Ea λi j=>.int (i+j)) (Au 1) (tC (.int 2)))) rfl (Cu (K:=K) (pv 0))
   (B1 rfl rfl (by decide +kernel) (by decide +kernel) (cy.mpr ⟨⟨rfl,rfl⟩,cQ _⟩) rfl (cy.mpr ⟨⟨_,_,rfl,rfl,rfl,rfl,rfl⟩,cQ _⟩))
   (λ_ _ _ _ _=>AV (i:=0) So rfl (Or.inl rfl)) (λ_ _ _ _ _=>pL K (pv 0) (AQ A5 (pv 1) AH)))
  (AU (Ak (As (Pw (P:=P) (w:=w) rfl) (by rfl) mso Jp (AA (Dr (Qd (K:=K) (P:=P) (w:=w) rfl) (by rfl) mse Q5 (AA (AQ Eo (AQ Eo (B3 (AA AH (AA (pv 2) AG))) (pv 3)) (pv 4)) AG)) AG))))),?_⟩
 have lc:cs.length=bs.length:=hC.1;refine⟨_,rfl,a,rfl,⟨_,AJ.of ha⟩,λl1 h1=>?_⟩;refine Cf (Fh ha) (by rw[cf,lc]; omega) h1 (λi ys σ _=>ys=((bs.take i).map (Gs t)).map V.int/\∃u,σ=[u,some (.int (t:Int))]) ⟨rfl,none,rfl⟩ ?_ ?_
 ·rintro i ys σ H2 x H3 hi sm hacc2 ⟨hys,u,rfl⟩ ⟨rfl,hx⟩ C hC2;obtain⟨c,b,rfl,_,hy,hB⟩:=hC.ref hx;refine⟨_,rfl,_,rfl,c,_,_,_,rfl,rfl,AJ.of (sm _ _ hB),Ze ht b,?_⟩;refine hC2 _ _ _ (AN.refl _) ⟨?_,_,rfl⟩;rw[hys,BO hy,dh,dh]; rfl
 rintro ys σ H1 s1 g1 _ ⟨hys,_⟩;rw[cf,lc,eI] at hys;subst hys;refine⟨_,rfl,a,rfl,⟨_,AJ.of (s1 _ _ ha)⟩,λl2 h2=>?_⟩;refine Cf (Fh (s1 _ _ ha)) (by rw[cf,lc]; omega) h2 (λi ys σ _=>ys=((bs.take i).map (LH t)).map V.int/\∃u,σ=[u,some (.int (t:Int))]) ⟨rfl,none,rfl⟩ ?_ ?_
 ·rintro i ys σ H2 x H3 hi sm hacc2 ⟨hys,u,rfl⟩ ⟨rfl,hx⟩ C hC2;obtain⟨c,b,rfl,_,hy,hB⟩:=hC.ref hx;refine⟨_,rfl,_,rfl,_,_,rfl,rfl,c,_,_,_,rfl,rfl,AJ.of (sm _ _ (s1 _ _ hB)),Zh ht b,?_⟩;refine hC2 _ _ _ (AN.refl _) ⟨?_,_,rfl⟩;rw[hys,BO hy,dh,dh]; rfl
 rintro ys σ H2 s2 g2 _ ⟨hys,_⟩;rw[cf,lc,eI] at hys;subst hys;have g1':=s2 _ _ g1;refine⟨_,rfl,by exact sz2,λl3 h3=>?_⟩;have s3:=AR h3 (.AD [.int 0,.int m]);have g3:(AE H2 l3 (.AD [.int 0,.int m])) l3=some (.AD [.int 0,.int m]):=AM;generalize AE H2 l3 (.AD [.int 0,.int m])=H3 at s3 g3;refine⟨_,rfl,l3,l1,_,_,rfl,rfl,g3,s3 _ _ g1',by rw[cf,cf]; exact GW (by show 2+bs.length<=_; omega),λl4 h4=>?_⟩;have s4:=AR h4 (.AD ([.int 0,.int m]++(bs.map (Gs t)).map V.int));have g4:(AE H3 l4 (.AD ([.int 0,.int m]++(bs.map (Gs t)).map V.int))) l4=some (.AD ([.int 0,.int m]++(bs.map (Gs t)).map V.int)):=AM;generalize AE H3 l4 (.AD ([.int 0,.int m]++(bs.map (Gs t)).map V.int))=H4 at s4 g4;have s24:=s3.trans s4;refine⟨_,rfl,l4,l2,_,_,rfl,rfl,g4,s24 _ _ g2,by rw[cX,cf,cf,cf,cf]; exact GW (by show 2+bs.length+bs.length<=_; omega),λl5 h5=>?_⟩;have e5:[V.int 0,.int m]++(bs.map (Gs t)).map V.int++(bs.map (LH t)).map V.int=((0:Int) :: m :: C8 t bs).map V.int:=by simp[C8]
 rw[e5];have s5:=AR h5 (.AD (((0:Int) :: m :: C8 t bs).map V.int));have g5:(AE H4 l5 (.AD (((0:Int) :: m :: C8 t bs).map V.int))) l5=some (.AD (((0:Int) :: m :: C8 t bs).map V.int)):=AM;generalize AE H4 l5 (.AD (((0:Int) :: m :: C8 t bs).map V.int))=H5 at s5 g5;have ln:((0:Int) :: m :: C8 t bs).length=2+2*bs.length:=by simp[C8]; omega
 refine⟨l5,_,rfl,AJ.of g5,by rw[ln]; omega,λl6 h6=>?_⟩;have s6:=AR h6 (D3 P w l6 (BY ((0:Int) :: m :: C8 t bs)));have g6:(AE H5 l6 (D3 P w l6 (BY ((0:Int) :: m :: C8 t bs)))) l6=some (D3 P w l6 (BY ((0:Int) :: m :: C8 t bs))):=AM;generalize AE H5 l6 (D3 P w l6 (BY ((0:Int) :: m :: C8 t bs)))=H6 at s6 g6;have la:=La ((0:Int) :: m :: C8 t bs);refine⟨l6,_,rfl,g6,by omega,λl7 ms h7 pm srt=>?_⟩;refine q l7 ms _ ((s1.trans s2).trans ((s24.trans (s5.trans s6)).trans (AR h7 _))) AM (by have:=pm.length_eq; omega) (ZP (λv=>?_) pm srt);simp only[cP]
end
end My
namespace Fl
theorem El{xs:List Int}{j:Nat}(h:j<xs.length):xs.getD j 0=xs[j]:=by rw[cw,cg h]; rfl
theorem Km{xs:List Int}(h:xs.Pairwise (· < ·)){i j:Nat}(hj:j<xs.length)(hij:i<j):xs.getD i 0<xs.getD j 0:=by
 rw[El hj,El (show i<xs.length by omega)];exact cY.mp h i j (by omega) hj hij
theorem IA{xs:List Int}{v:Int}(hv:v∈xs):xs.idxOf v<xs.length/\xs.getD (xs.idxOf v) 0=v:=by
 have hi:=eE.mpr hv;refine⟨hi,?_⟩;rw[El hi];exact fV hi
theorem Kh{xs:List Int}(h:xs.Pairwise (· < ·)){j:Nat}(hj:j+1<xs.length){v:Int}(hv:v∈xs):xs.idxOf v<=j↔v<=xs.getD j 0:=by
 obtain⟨hi,e⟩:=IA hv;constructor
 ·intro z;rcases c5 (xs.idxOf v) j with y | y
  ·have:=Km h (show j<xs.length by omega) y; omega
  ·obtain y':xs.idxOf v=j:=by omega
   rw[<-y',e]; exact dQ _
 ·intro z;rcases c5 j (xs.idxOf v) with y | y
  ·have:=Km h hi y; omega
  ·exact y
theorem Kb{xs:List Int}(h:xs.Pairwise (· < ·)){j:Nat}(hj:j+1<xs.length){v:Int}(hv:v∈xs):j<xs.idxOf v↔xs.getD (j+1) 0<=v:=by
 obtain⟨hi,e⟩:=IA hv;constructor
 ·intro z;rcases c5 (j+1) (xs.idxOf v) with y | y
  ·have:=Km h hi y; omega
  ·obtain y':xs.idxOf v=j+1:=by omega
   rw[<-y',e]; exact dQ _
 ·intro z;rcases c5 j (xs.idxOf v) with y | y
  ·exact y
  ·have:=Km h hj (show xs.idxOf v<j+1 by omega); omega
def HW(xs ys:List Int)(b:AB)(j k:Nat):Prop:=xs.idxOf b.l<=j/\j<xs.idxOf b.r/\ys.idxOf b.d<=k/\k<ys.idxOf b.u
theorem Y8{xs ys:List Int}{bs:List AB}(hx:xs.Pairwise (· < ·))(hy:ys.Pairwise (· < ·))(hb:∀b∈bs,b.l∈xs/\b.r∈xs/\b.d∈ys/\b.u∈ys){j k:Nat}(hj:j+1<xs.length)(hk:k+1<ys.length):
  De bs xs ys j k=true↔∃b∈bs,HW xs ys b j k:=by
 rw[De,cov,List.any_eq_true];constructor
 ·rintro⟨b,m,z⟩;obtain⟨h1,h2,h3,h4⟩:=hb b m;simp only[dO,decide_eq_true_iff] at z;obtain⟨⟨z1,z2⟩,z3,z4⟩:=z;exact⟨b,m,(Kh hx hj h1).mpr z1,(Kb hx hj h2).mpr z2,(Kh hy hk h3).mpr z3,(Kb hy hk h4).mpr z4⟩
 ·rintro⟨b,m,z1,z2,z3,z4⟩;obtain⟨h1,h2,h3,h4⟩:=hb b m;refine⟨b,m,?_⟩;simp only[dO,decide_eq_true_iff];exact⟨⟨(Kh hx hj h1).mp z1,(Kb hx hj h2).mp z2⟩,(Kh hy hk h3).mp z3,(Kb hy hk h4).mp z4⟩
end Fl
namespace My
open PySem L2 Mth Wd Fl
def kC(j k:Nat):List Ap:=[.inl (j:Int),.inl (k:Int)]
theorem RP{j k j' k':Nat}:kC j k=kC j' k'↔j=j'/\k=k':=by
 constructor
 ·intro z;injection z with z1 z2
  injection z2 with z2 _
  injection z1 with z1
  injection z2 with z2
  omega
 ·rintro⟨rfl,rfl⟩; rfl
def Fv(kvs:List (List Ap×V))(c:Nat->Nat->Prop):Prop:=∀j k,(CG kvs (kC j k)).isSome=true↔c j k
theorem VI{kvs:List (List Ap×V)}{c:Nat->Nat->Prop}(h:Fv kvs c)(j0 k0:Nat)(v:V):Fv (Dc kvs (kC j0 k0) v) λj k=>c j k\/(j=j0/\k=k0):=by
 intro j k;rw[Wm];by_cases e:kC j k=kC j0 k0
 ·rw[if_pos e];exact⟨λ_=>.inr (RP.mp e),λ_=>rfl⟩
 ·rw[if_neg e,h j k];exact⟨.inl,λz=>z.elim id λy=>absurd (RP.mpr y) e⟩
theorem Fv.of{kvs:List (List Ap×V)}{c c':Nat->Nat->Prop}(h:Fv kvs c)(e:∀j k,c j k↔c' j k):Fv kvs c':=λj k=>(h j k).trans (e j k)
section
variable {P:Program} {w:World} {K:PySem.W.Frag} {mg:Str->Option Value} {base:Heap} {f g h C0 f1 f2 f3 f4 f5:Addr} {fd gd hd d1 d2 d3 d4 d5:FuncData}
inductive Qm(vs:List V)(H:Hp)(Q:VK):Prop
 | mk (c r a:Addr) (xs ys:List Int) (bs:List AB) (h_0:vs=[.ref c,.ref r,.ref a]) (h_1:Cj H c xs) (h_2:Cj H r ys) (h_3:Ax Ck H a bs) (h_4:bs.length<=30) (h_5:xs.length<=62) (h_6:ys.length<=62) (h_7:(∀b∈bs,b.l∈xs/\b.r∈xs/\b.d∈ys/\b.u∈ys)) (h_8:∀p kvs H',AN H H'->H' p=some (.dT kvs)->Fv kvs (λj k=>∃b∈bs,HW xs ys b j k)->Q (.ref p) H'):Qm vs H Q
def MY:Sp:=λvs H Q _=>Qm vs H Q
theorem JL:Ar ["columns","rows","rectangles","covered","rectangle","column","row"] ["columns","rows","rectangles"] (Ah s_covered_cells):=Av
theorem YM(F:Fun K "covered_cells" "covered_cells" s_covered_cells f fd)(mr:mg "range" = none):AL P w K mg base AK 1 f fd ["columns","rows","rectangles"] MY:=by
 refine F.ok JL (λvs H Q E h=>?_) (λcdv A outer s H vs Q E hr h=>?_)
 ·obtain⟨c,r,a,xs,ys,bs,rfl,_⟩:=h;rfl
 obtain⟨c,r,a,xs,ys,bs,rfl,hc,hrr,⟨cs,ha,hC⟩,hl,lx,ly,hm,q⟩:=h;have hu:=R9 hr;refine⟨_,AS (Aa (i:=3) JL.nd rfl (Or.inl rfl) WH)
  (AS (Bv dv rfl (Cu (K:=K) (pv 2)) (AV (i:=4) JL.nd rfl (Or.inl rfl))
   (AU (Bv dv rfl (Jt (by rfl) mr
     (AA (C7 K dc e8 fA Gz (pv 0) (AA (pL K (pv 4) AH) AG))
      (AA (C7 K dc e8 fA Gz (pv 0) (AA (pL K (pv 4) AH) AG)) AG))) (AV (i:=5) JL.nd rfl (Or.inl rfl))
    (AU (Bv dv rfl (Jt (by rfl) mr
      (AA (C7 K dc e8 fA Gz (pv 1) (AA (pL K (pv 4) AH) AG))
       (AA (C7 K dc e8 fA Gz (pv 1) (AA (pL K (pv 4) AH) AG)) AG))) (AV (i:=6) JL.nd rfl (Or.inl rfl))
     (AU (X0 hu (pv 3) (Ao (AA (pv 5) (AA (pv 6) AG))) MS rfl)))))))
  (AU (Ak (pv 3)))),?_⟩
 have lc:cs.length=bs.length:=hC.1;refine λD hD=>?_
 have s1:=AR hD (.dT []);have g1:(AE H D (.dT [])) D=some (.dT []):=AM;generalize AE H D (.dT [])=H1 at s1 g1;refine⟨_,rfl,a,rfl,⟨_,AJ.of (s1 _ _ ha)⟩,?_⟩;refine Fg (xs:=cs.map V.ref) (λi σ H2=>AN H H2/\(∃u4 u5 u6,σ=[some (.ref c),some (.ref r),some (.ref a),some (.ref D),u4,u5,u6])/\∃kvs,H2 D=some (.dT kvs)/\kvs.length<=i*4000/\Fv kvs λj k=>∃b∈bs.take i,HW xs ys b j k)
  ⟨s1,⟨none,none,none,rfl⟩,[],g1,dk _,λj k=>by simp[CG]⟩ (λi σ H2 _ ⟨s2,_⟩=>AJ.of (s2 _ _ ha)) ?_ ?_
 ·rintro i x σ H2 hx ⟨s2,⟨u4,u5,u6,rfl⟩,kvs,hk,nk,ck⟩;obtain⟨cb,b,rfl,_,hy,fb⟩:=hC.ref hx;have bi:i<bs.length:=(cm.mp hy).1;obtain⟨m1,m2,m3,m4⟩:=hm b (cq hy);have i1:=(IA m1).1;have i2:=(IA m2).1;have i3:=(IA m3).1;have i4:=(IA m4).1;refine⟨_,rfl,.inl ⟨rfl,_,AJ.of (s2 _ _ hc)⟩,_,rfl,cb,_,_,_,rfl,rfl,AJ.of (s2 _ _ fb),Gk,c,xs,_,rfl,rfl,s2 _ _ hc,m1,by omega,?_⟩;refine⟨_,rfl,.inl ⟨rfl,_,AJ.of (s2 _ _ hc)⟩,_,rfl,cb,_,_,_,rfl,rfl,AJ.of (s2 _ _ fb),Gj,c,xs,_,rfl,rfl,s2 _ _ hc,m2,by omega,?_⟩;refine⟨_,_,rfl,by omega,?_⟩;rw[show(((xs.idxOf b.r:Nat):Int)-((xs.idxOf b.l:Nat):Int)).toNat=xs.idxOf b.r-xs.idxOf b.l by omega];refine FA (λn σ H3=>AN H H3/\(∃u5 u6,σ=[some (.ref c),some (.ref r),some (.ref a),some (.ref D),some (.ref cb),u5,u6])/\∃kvs,H3 D=some (.dT kvs)/\kvs.length<=i*4000+n*62/\Fv kvs λj k=>(∃b∈bs.take i,HW xs ys b j k)\/(xs.idxOf b.l<=j/\j<xs.idxOf b.l+n/\ys.idxOf b.d<=k/\k<ys.idxOf b.u))
   ⟨s2,⟨u5,u6,rfl⟩,kvs,hk,by omega,ck.of λj k=>⟨.inl,λz=>z.elim id λy=>by omega⟩⟩ ?_ ?_
  ·rintro n σ H3 hn ⟨s3,⟨u5,u6,rfl⟩,kvs,hk,nk,ck⟩;refine⟨_,rfl,.inl ⟨rfl,_,AJ.of (s3 _ _ hrr)⟩,_,rfl,cb,_,_,_,rfl,rfl,AJ.of (s3 _ _ fb),GZ,r,ys,_,rfl,rfl,s3 _ _ hrr,m3,by omega,?_⟩;refine⟨_,rfl,.inl ⟨rfl,_,AJ.of (s3 _ _ hrr)⟩,_,rfl,cb,_,_,_,rfl,rfl,AJ.of (s3 _ _ fb),GX,r,ys,_,rfl,rfl,s3 _ _ hrr,m4,by omega,?_⟩;refine⟨_,_,rfl,by omega,?_⟩;rw[show(((ys.idxOf b.u:Nat):Int)-((ys.idxOf b.d:Nat):Int)).toNat=ys.idxOf b.u-ys.idxOf b.d by omega];refine FA (λt σ H4=>AN H H4/\(∃u6,σ=[some (.ref c),some (.ref r),some (.ref a),some (.ref D),some (.ref cb),some (.int (((xs.idxOf b.l:Nat):Int)+(n:Int))),u6])/\∃kvs,H4 D=some (.dT kvs)/\kvs.length<=i*4000+n*62+t /\
     Fv kvs λj k=>((∃b∈bs.take i,HW xs ys b j k)\/(xs.idxOf b.l<=j/\j<xs.idxOf b.l+n/\ys.idxOf b.d<=k/\k<ys.idxOf b.u))\/(j=xs.idxOf b.l+n/\ys.idxOf b.d<=k/\k<ys.idxOf b.d+t))
    ⟨s3,⟨u6,rfl⟩,kvs,hk,by omega,ck.of λj k=>⟨.inl,λz=>z.elim id λy=>by omega⟩⟩ ?_ ?_
   ·rintro t σ H4 ht ⟨s4,⟨u6,rfl⟩,kvs,hk,nk,ck⟩;refine⟨_,rfl,_,rfl,_,rfl,by exact sz2,λtp htp=>?_⟩;have s5:=AR htp (.AF [.int (((xs.idxOf b.l:Nat):Int)+(n:Int)),.int (((ys.idxOf b.d:Nat):Int)+(t:Int))]);have g5:(AE H4 tp (.AF [.int (((xs.idxOf b.l:Nat):Int)+(n:Int)),.int (((ys.idxOf b.d:Nat):Int)+(t:Int))])) tp=some (.AF ((kC (xs.idxOf b.l+n) (ys.idxOf b.d+t)).map kV)):=AM;generalize AE H4 tp (.AF [.int (((xs.idxOf b.l:Nat):Int)+(n:Int)),.int (((ys.idxOf b.d:Nat):Int)+(t:Int))])=H5 at s5 g5;have hk5:=s5 _ _ hk;refine⟨D,_,rfl,JW.t hk5 g5 (by rw[sizeLine_eq]; omega),DW (s4.trans s5) hD _,⟨_,rfl⟩,_,AM,by have:=LS kvs (kC (xs.idxOf b.l+n) (ys.idxOf b.d+t)) (V.bl true); omega,?_⟩;refine(VI ck _ _ _).of λj k=>?_
    constructor
    ·rintro((z | z) | z)
     ·exact .inl z
     ·exact .inr (by omega)
     ·exact .inr (by omega)
    ·rintro(z | z)
     ·exact .inl (.inl z)
     ·rcases(show k<ys.idxOf b.d+t\/k=ys.idxOf b.d+t by omega) with y | y
      ·exact .inl (.inr ⟨z.1,z.2.1,y⟩)
      ·exact .inr ⟨z.1,y⟩
   ·rintro σ H4 ⟨s4,⟨u6,rfl⟩,kvs,hk,nk,ck⟩;refine⟨s4,⟨_,_,rfl⟩,kvs,hk,by omega,ck.of λj k=>?_⟩;constructor
    ·rintro((z | z) | z)
     ·exact .inl z
     ·exact .inr (by omega)
     ·exact .inr (by omega)
    ·rintro(z | z)
     ·exact .inl (.inl z)
     ·rcases(show j<xs.idxOf b.l+n\/j=xs.idxOf b.l+n by omega) with y | y
      ·exact .inl (.inr ⟨z.1,y,z.2.2⟩)
      ·exact .inr ⟨y,by omega,by omega⟩
  ·rintro σ H3 ⟨s3,⟨u5,u6,rfl⟩,kvs,hk,nk,ck⟩;refine⟨s3,⟨_,_,_,rfl⟩,kvs,hk,by omega,ck.of λj k=>?_⟩;rw[BO hy];constructor
   ·rintro(⟨b',mb,z⟩ | z)
    ·exact⟨b',eo _ mb,z⟩
    ·exact⟨b,by simp,by unfold HW; omega⟩
   ·rintro⟨b',mb,z⟩;rcases cS.mp mb with y | y
    ·exact .inl ⟨b',y,z⟩
    ·rw[cW.mp y] at z;unfold HW at z;exact .inr (by omega)
 ·rintro σ H2 ⟨s2,⟨u4,u5,u6,rfl⟩,kvs,hk,nk,ck⟩;rw[cf,lc,eI] at ck;exact⟨_,rfl,q D kvs H2 s2 hk ck⟩
end
end My
namespace Fl
theorem UK{bs:List AB}{xs ys:List Int}{k:Nat}(h:∀j,j<xs.length-1->De bs xs ys j k=true):DI bs xs ys k=none:=by
 rw[DI,List.find?_eq_none];intro j hj;rw[h j (cZ.mp hj)]; decide
theorem UJ{bs:List AB}{xs ys:List Int}{j k:Nat}(hj:j<xs.length-1)(h:∀j',j' < j->De bs xs ys j' k=true)(e:De bs xs ys j k=false):DI bs xs ys k=some j:=by
 rw[DI,List.find?_range_eq_some];exact⟨by rw[e]; rfl,cZ.mpr hj,λj' z=>by rw[h j' z]; rfl⟩
theorem U9{bs:List AB}{xs ys:List Int}(h:∀k,k<ys.length-1->DI bs xs ys k=none):Dh bs xs ys=none:=by
 rw[Dh,List.findSome?_eq_none_iff];intro k hk;rw[h k (cZ.mp hk)]; rfl
theorem VL{bs:List AB}{xs ys:List Int}{j k:Nat}(hk:k<ys.length-1)(h:∀k',k' < k->DI bs xs ys k'=none)(e:DI bs xs ys k=some j):Dh bs xs ys=some (Es xs ys j k):=by
 rw[Dh,List.findSome?_eq_some_iff];refine⟨List.range k,k,(List.range (ys.length-1)).drop (k+1),?_,by rw[e]; rfl,λx hx=>by rw[h x (cZ.mp hx)]; rfl⟩;have hl:k<(List.range (ys.length-1)).length:=by rw[c7]; exact hk
 have t1:(List.range (ys.length-1)).take k=List.range k:=by rw[List.take_range]; congr 1; omega
 have t2:(List.range (ys.length-1)).drop k=k :: (List.range (ys.length-1)).drop (k+1):=by rw[List.drop_eq_getElem_cons hl,List.getElem_range]
 rw[<-t1,<-t2,fL]
end Fl
namespace My
open PySem L2 Mth Wd Fl
section
variable {P:Program} {w:World} {K:PySem.W.Frag} {mg:Str->Option Value} {base:Heap} {f g h C0 f1 f2 f3 f4 f5:Addr} {fd gd hd d1 d2 d3 d4 d5:FuncData}
def Cm(b:AB):List V:=[.int b.l,.int b.d,.int b.r,.int b.u]
inductive R4(vs:List V)(H:Hp)(Q:VK):Prop
 | mk (m n:Int) (a:Addr) (bs:List AB) (h_0:vs=[.int m,.int n,.ref a]) (h_1:Ax Ck H a bs) (h_2:bs.length<=30) (h_3:∀xs ys,Bd m (FP bs) xs->Bd n (FW bs) ys->(∀b p H',Dh bs xs ys=some b->AN H H'->H' p=some (.AF (Cm b))->Q (.ref p) H')/\(Dh bs xs ys=none->∀H',AN H H'->Q .Aj H')):R4 vs H Q
def NL:Sp:=λvs H Q _=>R4 vs H Q
theorem IS:Ar ["width","height","rectangles","columns","rows","covered","row","column"] ["width","height","rectangles"] (Ah s_first_gap):=Av
theorem Zi (F : Fun K "first_gap" "first_gap" s_first_gap f fd) (G1 : AL P w K mg base AK 1 f1 d1 ["rectangles", "at", "most"] Mr) (b1 : Af K d1 ["rectangles", "at", "most"] []) (k1 : KP K f1) (m1 : mg "borders" = some (.ref f1))
    (G2 : AL P w K mg base AK 1 f2 d2 ["columns", "rows", "rectangles"] MY) (b2 : Af K d2 ["columns", "rows", "rectangles"] []) (k2 : KP K f2) (m2 : mg "covered_cells" = some (.ref f2))
    (mr : mg "range" = none) (ml : mg "len" = none) : AL P w K mg base AK 2 f fd ["width", "height", "rectangles"] NL := by
  refine F.ok IS (λvs H Q E h => ?_) (λcdv A outer s H vs Q E hr h => ?_)
  · obtain⟨m, n, a, bs, rfl, _⟩ := h;rfl
  obtain⟨m, n, a, bs, rfl, hA, hl, q⟩ := h;have hu := R9 hr;refine⟨_, AS (Aa (i := 3) IS.nd rfl (Or.inl rfl) (Ac G1 hr (by rfl) m1 k1 b1 .nil Ad (AA (pv 2) (AA AH (AA (pv 0) AG)))))
    (AS (Aa (i := 4) IS.nd rfl (Or.inl rfl) (Ac G1 hr (by rfl) m1 k1 b1 .nil Ad (AA (pv 2) (AA AH (AA (pv 1) AG)))))
    (AS (Aa (i := 5) IS.nd rfl (Or.inl rfl) (Ac G2 hr (by rfl) m2 k2 b2 .nil Ad (AA (pv 3) (AA (pv 4) (AA (pv 2) AG)))))
    (AS (Bv dv rfl (EC (by rfl) mr (AA (AQ B4 (As (Bo (K := K)) (by rfl) ml Bh (AA (pv 4) AG)) AH) AG)) (AV (i := 6) IS.nd rfl (Or.inl rfl))
      (AU (Bv dv rfl (EC (by rfl) mr (AA (AQ B4 (As (Bo (K := K)) (by rfl) ml Bh (AA (pv 3) AG)) AH) AG)) (AV (i := 7) IS.nd rfl (Or.inl rfl))
        (AU (Bk (MN (Vd hu (Ao (AA (pv 7) (AA (pv 6) AG))) (pv 5)))
          (AU (Ak (Ao (AA (pL K (pv 3) (pv 7)) (AA (pL K (pv 4) (pv 6))
            (AA (pL K (pv 3) (AQ A5 (pv 7) AH)) (AA (pL K (pv 4) (AQ A5 (pv 6) AH)) AG))))))) B2)))))
    (AU (Ak MH))))), ?_⟩
  refine⟨_, rfl, _, rfl, a, bs, 0, m, rfl, hA, hl, dk _, λc xs H1 s1 hc lx bx => ?_⟩;have hA1 := HD (R := Ck) (λs h => Kl s h) s1 hA;refine⟨_, rfl, _, rfl, a, bs, 1, n, rfl, hA1, hl, cR _, λr ys H2 s2 hrr ly by' => ?_⟩;have hA2 := HD (R := Ck) (λs h => Kl s h) s2 hA1;rw[Z9] at bx;rw[ZV] at by'
  have hm : ∀b ∈ bs, b.l ∈ xs /\ b.r ∈ xs /\ b.d ∈ ys /\ b.u ∈ ys := λb hb =>
    ⟨(bx.mem _).mpr (.inr (.inr (eo _ (cT.mpr ⟨b, hb, rfl⟩)))), (bx.mem _).mpr (.inr (.inr (dA _ (cT.mpr ⟨b, hb, rfl⟩)))),
     (by'.mem _).mpr (.inr (.inr (eo _ (cT.mpr ⟨b, hb, rfl⟩)))), (by'.mem _).mpr (.inr (.inr (dA _ (cT.mpr ⟨b, hb, rfl⟩))))⟩
  refine⟨_, rfl, _, rfl, _, rfl, c, r, a, xs, ys, bs, rfl, s2 _ _ hc, hrr, hA2, hl, lx, ly, hm, λD kvs H3 s3 hD ck => ?_⟩;obtain⟨q1, q2⟩ := q xs ys bx by'
  have hc3 : H3 c = some (.AD (xs.map V.int)) := s3 _ _ (s2 _ _ hc);have hr3 : H3 r = some (.AD (ys.map V.int)) := s3 _ _ hrr;have s03 := (s1.trans s2).trans s3;have cv : ∀j k, j < xs.length - 1 → k < ys.length - 1 → (CG kvs (kC j k)).isSome = De bs xs ys j k := λj k hj hk => by
    rw[fc, ck j k, Y8 bx.up by'.up hm (by omega) (by omega)]
  refine⟨_, rfl, r, _, rfl, .inl (AJ.of hr3), _, _, rfl, rfl, _, rfl, by rw[cf]; omega, by rw[cf]; omega, ?_⟩;rw[cf, show((ys.length : Int) - 1).toNat = ys.length - 1 by omega];refine FA (λk σ H4 => AN H3 H4 /\ (∃u6 u7, σ = [some (.int m), some (.int n), some (.ref a), some (.ref c), some (.ref r), some (.ref D), u6, u7]) /\ ∀k', k' < k → DI bs xs ys k' = none)
    ⟨AN.refl _, ⟨none, none, rfl⟩, λk' z => absurd z (Nat.not_lt_zero _)⟩ ?_ ?_
  · rintro k σ H4 hk ⟨s4, ⟨u6, u7, rfl⟩, nk⟩;rw[gc];refine⟨_, rfl, c, _, rfl, .inl (AJ.of (s4 _ _ hc3)), _, _, rfl, rfl, _, rfl, by rw[cf]; omega, by rw[cf]; omega, ?_⟩;rw[cf, show((xs.length : Int) - 1).toNat = xs.length - 1 by omega];refine FA (λj σ H5 => AN H3 H5 /\ (∃u7, σ = [some (.int m), some (.int n), some (.ref a), some (.ref c), some (.ref r), some (.ref D), some (.int (k : Int)), u7]) /\ ∀j', j' < j → De bs xs ys j' k = true)
      ⟨s4, ⟨u7, rfl⟩, λj' z => absurd z (Nat.not_lt_zero _)⟩ ?_ ?_
    · rintro j σ H5 hj ⟨s5, ⟨u7, rfl⟩, nj⟩;rw[gc];refine⟨_, rfl, _, rfl, by exact sz2, λtp htp => ?_⟩;have s6 := AR htp (.AF [.int (j : Int), .int (k : Int)]);have g6 : (AE H5 tp (.AF [.int (j : Int), .int (k : Int)])) tp = some (.AF ((kC j k).map kV)) := AM;generalize AE H5 tp (.AF [.int (j : Int), .int (k : Int)]) = H6 at s6 g6;have s36 := s5.trans s6;refine⟨_, rfl, D, _, rfl, JV.t (s36 _ _ hD) g6, _, rfl, ?_⟩;rw[cv j k hj hk];refine Ga (λov => ?_) (λov => ?_)
      · have e : De bs xs ys j k = false := by simpa using ov
        refine⟨_, rfl, _, rfl, c, _, _, _, rfl, rfl, AJ.of (s36 _ _ hc3), Ka (by omega), _, rfl, _, rfl, r, _, _, _, rfl, rfl, AJ.of (s36 _ _ hr3), Ka (by omega), ?_⟩;refine⟨_, rfl, _, rfl, _, _, rfl, rfl, c, _, _, _, rfl, rfl, AJ.of (s36 _ _ hc3), Ka (i := j + 1) (by omega), ?_⟩;refine⟨_, rfl, _, rfl, _, _, rfl, rfl, r, _, _, _, rfl, rfl, AJ.of (s36 _ _ hr3), Ka (i := k + 1) (by omega), ?_⟩;refine⟨by exact DO, λt ht => ?_⟩;exact q1 (Es xs ys j k) t _ (VL hk nk (UJ hj nj e)) ((s03.trans s36).trans (AR ht _)) AM
      · have e : De bs xs ys j k = true := by simpa using ov
        refine⟨s36, ⟨_, rfl⟩, λj' z => ?_⟩;rcases(show j' < j \/ j' = j by omega) with y | rfl
        · exact nj j' y
        · exact e
    · rintro σ H5 ⟨s5, ⟨u7, rfl⟩, nj⟩;refine⟨s5, ⟨_, _, rfl⟩, λk' z => ?_⟩;rcases(show k' < k \/ k' = k by omega) with y | rfl
      · exact nk k' y
      · exact UK nj
  · rintro σ H4 ⟨s4, ⟨u6, u7, rfl⟩, nk⟩;exact q2 (U9 nk) _ (s03.trans s4)
inductive BK(m n:Int)(bs:List AB):List V->Prop
 | no (k:Nat) (b:AB):bs[k]?=some b->CL b=true->(∀k' b',k' < k->bs[k']?=some b'->CL b'=false)->BK m n bs [.str "no",.int (k:Int)]
 | out (k:Nat) (b:AB):(∀b∈bs,CL b=false)->bs[k]?=some b->CP m n b=true->(∀k' b',k' < k->bs[k']?=some b'->CP m n b'=false)->BK m n bs [.str "out",.int (k:Int)]
 | ov (j k:Nat):(∀b∈bs,CL b=false)->(∀b∈bs,CP m n b=false)->Fst bs j k->BK m n bs [.str "overlap",.int (j:Int),.int (k:Int)]
 | Ce (b:AB) (xs ys:List Int):(∀b∈bs,CL b=false)->(∀b∈bs,CP m n b=false)->Df bs->Bd m (FP bs) xs->Bd n (FW bs) ys->Dh bs xs ys=some b->BK m n bs (.str "gap" :: Cm b)
 | cov (xs ys:List Int):(∀b∈bs,CL b=false)->(∀b∈bs,CP m n b=false)->Df bs->Bd m (FP bs) xs->Bd n (FW bs) ys->Dh bs xs ys=none->BK m n bs [.str "covers"]
theorem Q7{α:Type}{l:List α}{p:α->Prop}(h:∀(k:Nat) (b:α),k<l.length->l[k]?=some b->p b):∀b∈l,p b:=λb hb=>by
 obtain⟨k,hk,rfl⟩:=dS hb;exact h k _ hk (cg hk)
inductive Rv(vs:List V)(H:Hp)(Q:VK):Prop
 | mk (m n:Int) (a:Addr) (bs:List AB) (h_0:vs=[.int m,.int n,.ref a]) (h_1:Ax Ck H a bs) (h_2:bs.length<=30) (h_3:∀ws p H',BK m n bs ws->AN H H'->H' p=some (.AF ws)->Q (.ref p) H'):Rv vs H Q
def Mz:Sp:=λvs H Q _=>Rv vs H Q
theorem HL:Ar ["width","height","rectangles","k","rectangle","pair","gap"] ["width","height","rectangles"] (Ah s_looked_whole):=Av
theorem Mx(h:X.K=K:=by rfl):By X (binaryOp .Add) (SO K):=h ▸ QE
theorem ZU (F:Fun K "looked_whole" "looked_whole" s_looked_whole f fd) (G1:AL P w K mg base AK 1 f1 d1 ["rectangle"] NB) (b1:Af K d1 ["rectangle"] []) (k1:KP K f1) (m1:mg "is_neither" = some (.ref f1))
  (G2:AL P w K mg base AK 1 f2 d2 ["rectangle","width","height"] MX) (b2:Af K d2 ["rectangle","width","height"] []) (k2:KP K f2) (m2:mg "is_out" = some (.ref f2))
  (G3:AL P w K mg base AK 2 f3 d3 ["rectangles"] Me) (b3:Af K d3 ["rectangles"] []) (k3:KP K f3) (m3:mg "first_overlap" = some (.ref f3))
  (G4:AL P w K mg base AK 2 f4 d4 ["width","height","rectangles"] NL) (b4:Af K d4 ["width","height","rectangles"] []) (k4:KP K f4) (m4:mg "first_gap" = some (.ref f4))
  (me:mg "enumerate" = none):AL P w K mg base AK 3 f fd ["width","height","rectangles"] Mz:=by
 refine F.ok HL (λvs H Q E h=>?_) (λcdv A outer s H vs Q E hr h=>?_)
 ·obtain⟨m,n,a,bs,rfl,_⟩:=h;rfl
 obtain⟨m,n,a,bs,rfl,hA,hl,q⟩:=h;have r1:Be 1 _:=hr.mono (by decide);refine⟨_,AS (Bv dv rfl (Jy (by rfl) me (AA (pv 2) AG)) (Ca (n:=2) (K:=K) rfl (Ai (AV (i:=3) HL.nd rfl (Or.inl rfl)) (Ai (AV (i:=4) HL.nd rfl (Or.inl rfl)) CS)))
   (AU (Bk (EK (Ac G1 r1 (by rfl) m1 k1 b1 .nil Ad (AA (pv 4) AG))) (AU (Ak (Ao (AA GK (AA (pv 3) AG))))) B2)))
  (AS (Bv dv rfl (Jy (by rfl) me (AA (pv 2) AG)) (Ca (n:=2) (K:=K) rfl (Ai (AV (i:=3) HL.nd rfl (Or.inl rfl)) (Ai (AV (i:=4) HL.nd rfl (Or.inl rfl)) CS)))
   (AU (Bk (EK (Ac G2 r1 (by rfl) m2 k2 b2 .nil Ad (AA (pv 4) (AA (pv 0) (AA (pv 1) AG))))) (AU (Ak (Ao (AA GK (AA (pv 3) AG))))) B2)))
  (AS (Aa (i:=5) HL.nd rfl (Or.inl rfl) (Ac G3 hr (by rfl) m3 k3 b3 .nil Ad (AA (pv 2) AG)))
  (AS (Bk (MN (Qc (pv 5))) (AU (Ak (AQ (Mx (K:=K)) (Ao (AA GK AG)) (pv 5)))) B2)
  (AS (Aa (i:=6) HL.nd rfl (Or.inl rfl) (Ac G4 hr (by rfl) m4 k4 b4 .nil Ad (AA (pv 0) (AA (pv 1) (AA (pv 2) AG)))))
  (AS (Bk (MN (Qc (pv 6))) (AU (Ak (AQ (Mx (K:=K)) (Ao (AA GK AG)) (pv 6)))) B2)
  (AU (Ak (Ao (AA GK AG))))))))),?_⟩
 obtain⟨cs,ha,hC⟩:=id hA;have lc:cs.length=bs.length:=hC.1;refine⟨_,rfl,a,_,rfl,ha,?_⟩;refine Jq (xs:=cs.map V.ref) (λi σ H2=>AN H H2/\(∃u3 u4,σ=[some (.int m),some (.int n),some (.ref a),u3,u4,none,none])/\∀k' b',k' < i->bs[k']?=some b'->CL b'=false)
  ⟨AN.refl _,⟨none,none,rfl⟩,λ_ _ z=>absurd z (Nat.not_lt_zero _)⟩ (λi σ H2 _ ⟨s2,_⟩=>s2 _ _ ha) ?_ ?_
 ·rintro i x σ H2 p hx ⟨s2,⟨u3,u4,rfl⟩,no⟩ hp;obtain⟨c,b,rfl,_,hy,fb⟩:=hC.ref hx;have s3:=AR hp (.AF [.int ((i:Nat):Int),.ref c]);have g3:(AE H2 p (.AF [.int ((i:Nat):Int),.ref c])) p=some (.AF [.int ((i:Nat):Int),.ref c]):=AM;generalize AE H2 p (.AF [.int ((i:Nat):Int),.ref c])=H3 at s3 g3;have s03:=s2.trans s3;refine⟨p,_,rfl,AO.of g3,rfl,_,_,rfl,_,_,rfl,rfl,?_⟩;refine⟨_,rfl,c,b,rfl,s03 _ _ fb,_,rfl,?_⟩;refine Ga (λe=>?_) (λe=>?_)
  ·refine⟨_,rfl,by exact sz2,λt ht=>?_⟩;exact q _ t _ (.no i b hy e no) (s03.trans (AR ht _)) AM
  ·refine⟨s03,⟨_,_,rfl⟩,λk' b' z1 z2=>?_⟩;rcases(show k' < i\/k'=i by omega) with y | rfl
   ·exact no k' b' y z2
   ·rw[hy] at z2; cases z2; simpa using e
 rintro σ H1 ⟨s1,⟨u3,u4,rfl⟩,no⟩;rw[cf,lc] at no;have no':∀b∈bs,CL b=false:=Q7 no;clear no;refine⟨_,rfl,a,_,rfl,s1 _ _ ha,?_⟩;refine Jq (xs:=cs.map V.ref) (λi σ H2=>AN H H2/\(∃u3 u4,σ=[some (.int m),some (.int n),some (.ref a),u3,u4,none,none])/\∀k' b',k' < i->bs[k']?=some b'->CP m n b'=false)
  ⟨s1,⟨u3,u4,rfl⟩,λ_ _ z=>absurd z (Nat.not_lt_zero _)⟩ (λi σ H2 _ ⟨s2,_⟩=>s2 _ _ ha) ?_ ?_
 ·rintro i x σ H2 p hx ⟨s2,⟨u3,u4,rfl⟩,no⟩ hp;obtain⟨c,b,rfl,_,hy,fb⟩:=hC.ref hx;have s3:=AR hp (.AF [.int ((i:Nat):Int),.ref c]);have g3:(AE H2 p (.AF [.int ((i:Nat):Int),.ref c])) p=some (.AF [.int ((i:Nat):Int),.ref c]):=AM;generalize AE H2 p (.AF [.int ((i:Nat):Int),.ref c])=H3 at s3 g3;have s03:=s2.trans s3;refine⟨p,_,rfl,AO.of g3,rfl,_,_,rfl,_,_,rfl,rfl,?_⟩;refine⟨_,rfl,_,rfl,_,rfl,c,b,m,n,rfl,s03 _ _ fb,_,rfl,?_⟩;refine Ga (λe=>?_) (λe=>?_)
  ·refine⟨_,rfl,by exact sz2,λt ht=>?_⟩;exact q _ t _ (.out i b no' hy e no) (s03.trans (AR ht _)) AM
  ·refine⟨s03,⟨_,_,rfl⟩,λk' b' z1 z2=>?_⟩;rcases(show k' < i\/k'=i by omega) with y | rfl
   ·exact no k' b' y z2
   ·rw[hy] at z2; cases z2; simpa using e
 rintro σ H2 ⟨s2,⟨v3,v4,rfl⟩,no⟩;rw[cf,lc] at no;have out':∀b∈bs,CP m n b=false:=Q7 no;clear no;have hA2:=HD (R:=Ck) (λs h=>Kl s h) s2 hA;refine⟨_,rfl,a,bs,rfl,hA2,by omega,λj k p H3 fst s3 hp=>?_,λnov H3 s3=>?_⟩
 ·refine⟨_,rfl,_,rfl,?_⟩;refine FQ ?_;refine⟨by exact sz1,λt ht=>?_⟩;have s4:=AR ht (.AF [.str "overlap"]);have g4:(AE H3 t (.AF [.str "overlap"])) t=some (.AF [.str "overlap"]):=AM;generalize AE H3 t (.AF [.str "overlap"])=H4 at s4 g4;refine⟨_,rfl,t,p,_,_,rfl,rfl,AO.of g4,AO.of (s4 _ _ hp),by simp,by exact CB,(λz=>by cases z),λ_ t2 ht2=>?_⟩;exact q _ t2 _ (.ov j k no' out' fst) (s2.trans (s3.trans (s4.trans (AR ht2 _)))) AM
 refine⟨_,rfl,_,rfl,?_⟩;refine CO ?_;have hA3:=HD (R:=Ck) (λs h=>Kl s h) s3 hA2;refine⟨_,rfl,_,rfl,_,rfl,m,n,a,bs,rfl,hA3,hl,λxs ys bx by'=>⟨λb p H4 gp s4 hp=>?_,λgp H4 s4=>?_⟩⟩
 ·refine⟨_,rfl,_,rfl,?_⟩;refine FQ ?_;refine⟨by exact sz1,λt ht=>?_⟩;have s5:=AR ht (.AF [.str "gap"]);have g5:(AE H4 t (.AF [.str "gap"])) t=some (.AF [.str "gap"]):=AM;generalize AE H4 t (.AF [.str "gap"])=H5 at s5 g5;refine⟨_,rfl,t,p,_,_,rfl,rfl,AO.of g5,AO.of (s5 _ _ hp),by simp,by exact sz5,(λz=>by cases z),λ_ t2 ht2=>?_⟩;exact q _ t2 _ (.Ce b xs ys no' out' nov bx by' gp) (s2.trans (s3.trans (s4.trans (s5.trans (AR ht2 _))))) AM
 ·refine⟨_,rfl,_,rfl,?_⟩;refine CO ?_;refine⟨by exact sz1,λt ht=>?_⟩;exact q _ t _ (.cov xs ys no' out' nov bx by' gp) (s2.trans (s3.trans (s4.trans (AR ht _)))) AM
def Je(r:List Int):AB:=(r.getD 0 0,r.getD 1 0,r.getD 2 0,r.getD 3 0)
theorem Xs{r:List Int}(h:r.length=4):r=[(Je r).l,(Je r).d,(Je r).r,(Je r).u]:=by
 match r,h with
 | [a,b,c,d],_=>rfl
def Cr(B:Int)(rows:List (List Rat)):List AB:=rows.map λr=>Je (r.map (wh B))
theorem ON{H:Hp}{l:Addr}{B:Int}{rows:List (List Rat)}(four:∀r∈rows,r.length=4)(h:Ax Cj H l (rows.map λr=>r.map (wh B))):Ax Ck H l (Cr B rows):=by
 obtain⟨cs,h1,h2,h3⟩:=h;refine⟨cs,h1,by rw[h2,Cr,cf,cf],λi c b e1 e2=>?_⟩;rw[Cr,cu] at e2;obtain⟨r,e3,rfl⟩:=dJ.mp e2
 have:=h3 i c (r.map (wh B)) e1 (by rw[cu,e3]; rfl)
 have f4:=Xs (r:=r.map (wh B)) (by rw[cf]; exact four r (cq e3));unfold Cj at this;rw[f4] at this;exact this
structure DR(W U:Rat)(rows:List (List Rat)):Prop where
 len:rows.length<=30
 four:∀r∈rows,r.length=4
 sz:∀q∈nums W U rows,q.den<=2 ^ 16/\q.num.natAbs<=2 ^ 64
theorem DR.Nq{W U:Rat}{rows:List (List Rat)}(k:DR W U rows):(nums W U rows).length<=122:=by
 have:=k.len
 rw[dM,dM,MT k.four]; omega
theorem DR.cb{W U:Rat}{rows:List (List Rat)}(k:DR W U rows):0<cb (nums W U rows)/\(∀q∈nums W U rows,(q.den:Int) ∣ cb (nums W U rows))/\(Mth.cb (nums W U rows)).natAbs<=2 ^ 1952:=by
 obtain⟨h1,_,h2,h3⟩:=RS (nums W U rows) (c:=1) (D:=0) (d:=16) (by decide) (by decide) (λq hq=>(k.sz q hq).1);exact⟨h1,h2,dg h3 (fP (by decide) (by have:=k.Nq; omega))⟩
theorem DR.big{W U:Rat}{rows:List (List Rat)}(k:DR W U rows):∀q∈nums W U rows,BV q.num/\BV (q.den:Int)/\BV ((Mth.cb (nums W U rows)).fdiv q.den):=λq hq=>by
 obtain⟨h1,h2,h3⟩:=k.cb;obtain⟨s1,s2⟩:=k.sz q hq;refine⟨DE s2 (by decide),DE (n:=16) (by rw[eL]; exact s1) (by decide),DE (n:=1952) (dg ?_ h3) (by decide)⟩;rw[fw (h2 q hq)];exact Int.natAbs_ediv_le_natAbs _ _
def Br(B:Int)(g:AB):List Rat:=[(g.l:Rat) / (B:Rat),(g.d:Rat) / (B:Rat),(g.r:Rat) / (B:Rat),(g.u:Rat) / (B:Rat)]
inductive RT(vs:List V)(H:Hp)(Q:VK):Prop
 | mk (a:Addr) (W U:Rat) (rows:List (List Rat)) (h_0:vs=[.ref a]) (h_1:Ep H a W U rows) (h_2:DR W U rows) (h_3:(∀ws p H',BK (wh (cb (nums W U rows)) W) (wh (cb (nums W U rows)) U) (Cr (cb (nums W U rows)) rows) ws->ws.head?≠some (.str "gap")->AN H H'->H' p=some (.AF ws)->Q (.ref p) H')) (h_4:(∀g p ts H',BK (wh (cb (nums W U rows)) W) (wh (cb (nums W U rows)) U) (Cr (cb (nums W U rows)) rows) (.str "gap" :: Cm g)->AN H H'->H' p=some (.AF (.str "gap" :: ts.map V.ref))->At Ag H' ts (Br (cb (nums W U rows)) g)->Q (.ref p) H')):RT vs H Q
def LB:Sp:=λvs H Q _=>RT vs H Q
theorem K6:Ar ["floor","bottom","whole","found"] ["floor"] (Ah s_looked):=Av
theorem bI:(["number","bottom"]:List Str).Nodup:=by decide +kernel
theorem BK.head{m n:Int}{bs:List AB}{ws:List V}(h:BK m n bs ws):(∃s t,ws=.str s :: t/\s≠"gap")\/∃g,ws=.str "gap" :: Cm g:=by
 cases h with
 | no=>exact .inl ⟨_,_,rfl,by decide⟩
 | out=>exact .inl ⟨_,_,rfl,by decide⟩
 | ov=>exact .inl ⟨_,_,rfl,by decide⟩
 | Ce b=>exact .inr ⟨b,rfl⟩
 | cov=>exact .inl ⟨_,_,rfl,by decide⟩
theorem hd0(x:V)(t:List V):BI (x :: t) 0=some x:=Aq (j:=0) rfl
theorem Zk:HT.AY 5 0 (some 1)=1:=by simp[HT.AY]
theorem Vq (F:Fun K "looked" "looked" s_looked f fd) (G1:AL P w K mg base AK 1 f1 d1 ["floor"] Ki) (b1:Af K d1 ["floor"] []) (k1:KP K f1) (m1:mg "numbers_of" = some (.ref f1))
  (G2:AL P w K mg base AK 2 f2 d2 ["top","bottom"] (JC C0)) (b2:Af K d2 ["top","bottom"] []) (k2:KP K f2) (m2:mg "fraction" = some (.ref f2))
  (G3:AL P w K mg base AK 2 f3 d3 ["row"] Kt) (b3:Af K d3 ["row"] []) (k3:KP K f3) (m3:mg "common_bottom" = some (.ref f3))
  (G4:AL P w K mg base AK 3 f4 d4 ["width","height","rectangles"] Mz) (b4:Af K d4 ["width","height","rectangles"] []) (k4:KP K f4) (m4:mg "looked_whole" = some (.ref f4))
  (G5:AL P w K mg base AK 2 f5 d5 ["floor","bottom"] LC) (b5:Af K d5 ["floor","bottom"] []) (k5:KP K f5) (m5:mg "whole_floor" = some (.ref f5)) (mt:mg "tuple" = none) :
  AL P w K mg base AK 4 f fd ["floor"] LB:=by
 refine F.ok K6 (λvs H Q E h=>?_) (λcdv A outer s H vs Q E hr h=>?_)
 ·obtain⟨a,W,U,rows,rfl,_⟩:=h;rfl
 obtain⟨a,W,U,rows,rfl,hF,k,q1,q2⟩:=h;have r1:=hr.mono (show 1<=3 by decide);have r2:=hr.mono (show 2<=3 by decide);refine⟨_,AS (Aa (i:=1) K6.nd rfl (Or.inr rfl) (Ac G3 r2 (by rfl) m3 k3 b3 .nil Ad (AA (Ac G1 r1 (by rfl) m1 k1 b1 .nil Ad (AA (pv 0) AG)) AG)))
  (AS (Aa (i:=2) K6.nd rfl (Or.inl rfl) (Ac G5 r2 (by rfl) m5 k5 b5 .nil Ad (AA (pv 0) (AA (pv 1) AG))))
  (AS (Aa (i:=3) K6.nd rfl (Or.inl rfl) (Ac G4 hr (by rfl) m4 k4 b4 .nil Ad (AA (pT K (pv 2) AH) (AA (pT K (pv 2) AH) (AA (pT K (pv 2) AH) AG)))))
  (AS (Bk (A4 Ci (pT K (pv 3) AH) GK (An _))
   (AU (Ak (AQ (Mx (K:=K)) (Ao (AA GK AG)) (Dr (Fi (K:=K)) (by rfl) mt ED (AA (EH (Nc:=["number","bottom"]) (cap:=[(1,1)]) (g:=BG 0) (te:=Fs (JC C0) [] E0 (BQ (Au 0) (BQ (Au 1) B7))) rfl (IM (K:=K) (Eg (cF (K:=K)) (pv 3) (EG AH) FG))
    (B1 rfl rfl (by decide +kernel) (by decide +kernel) (cy.mpr ⟨⟨rfl,rfl⟩,cQ _⟩) rfl (cy.mpr ⟨⟨_,_,rfl,rfl,rfl,rfl,rfl⟩,cQ _⟩))
    (λ_ _ _ _ _=>AV (i:=0) bI rfl (Or.inl rfl)) (λ_ _ _ _ _=>Ac (CX:=AK) G2 r2 (by rfl) m2 k2 b2 .nil Ad (AA (pv 0) (AA (pv 1) AG)))) AG))))) B2)
  (AU (Ak (pv 3)))))),?_⟩
 have l40:=k.len;refine⟨_,rfl,a,W,U,rows,rfl,hF,by omega,k.four,λpn H1 s1 hN=>⟨pn,_,16,rfl,hN,λy hy=>(k.sz y hy).1,by have:=k.Nq; omega,?_⟩⟩;refine⟨_,rfl,_,rfl,a,_,W,U,rows,rfl,Lp s1 hF,by omega,k.four,k.big,λpw l H2 s2 hw hL=>?_⟩;have hB:=ON k.four hL;obtain⟨B0,_,BL⟩:=k.cb;generalize cb (nums W U rows)=B at *;have Bb:BV B:=DE BL (by decide);have Bn:B≠0:=by omega
 refine⟨_,rfl,pw,_,_,_,rfl,rfl,AO.of hw,Dy _ _ _,_,rfl,pw,_,_,_,rfl,rfl,AO.of hw,D5 _ _ _,_,rfl,pw,_,_,_,rfl,rfl,AO.of hw,DD _ _ _,?_⟩;refine⟨_,_,l,_,rfl,hB,by rw[Cr,cf]; exact l40,λws p H3 lk s3 hp=>?_⟩;have s03:=(s1.trans s2).trans s3;rcases lk.head with ⟨z,t,rfl,ne⟩ | ⟨g,rfl⟩
 ·refine⟨_,rfl,p,_,_,_,rfl,rfl,AO.of hp,hd0 _ _,rfl,_,rfl,Bj (λe=>ne (V.str.inj e)) ?_⟩;exact⟨_,rfl,q1 _ p _ lk (λe=>ne (by injection e with e; injection e)) s03 hp⟩
 refine⟨_,rfl,p,_,_,_,rfl,rfl,AO.of hp,hd0 _ _,rfl,_,rfl,Bl rfl ?_⟩;refine⟨by exact sz1,λt ht=>?_⟩;have s4:=AR ht (.AF [.str "gap"]);have g4:(AE H3 t (.AF [.str "gap"])) t=some (.AF [.str "gap"]):=AM;generalize AE H3 t (.AF [.str "gap"])=H4 at s4 g4;refine⟨_,rfl,1,rfl,p,_,rfl,AO.of (s4 _ _ hp),λz=>?_,λp1 hp1=>?_⟩
 ·have:=z.1
  rw[show(V.str "gap" :: Cm g).length=5 from rfl,Zk] at this;cases this
 rw[show CU (V.str "gap" :: Cm g) (some 1) none=[g.l,g.d,g.r,g.u].map V.int by rw[show(some (1:Int))=some ((1:Nat):Int) from rfl,J3 _ (by show 1<=5; decide)]; rfl];have s5:=AR hp1 (.AF ([g.l,g.d,g.r,g.u].map V.int));have g5:(AE H4 p1 (.AF ([g.l,g.d,g.r,g.u].map V.int))) p1=some (.AF ([g.l,g.d,g.r,g.u].map V.int)):=AM;generalize AE H4 p1 (.AF ([g.l,g.d,g.r,g.u].map V.int))=H5 at s5 g5;refine⟨p1,rfl,⟨_,AO.of g5⟩,λacc hacc=>?_⟩;refine Cf (G0 g5) (by show 4<=1000; decide) hacc (λi ys σ hp=>∃ds:List Addr,ys=ds.map V.ref/\At Ag hp ds ((Br B g).take i)/\∃u,σ=[u,some (.int B)]) ⟨[],rfl,At.nil,none,rfl⟩ ?_ ?_
 ·rintro i ys σ H6 x H7 hi sm hac6 ⟨ds,rfl,hD,u,rfl⟩ ⟨rfl,hx⟩ Cc hC;obtain⟨e,rfl,he⟩:=Io hx;have eg:(Br B g)[i]?=some ((e:Rat) / (B:Rat)):=by
   have:Br B g=[g.l,g.d,g.r,g.u].map λe:Int=>(e:Rat) / (B:Rat):=rfl
   rw[this,cu,he]; rfl
  refine⟨_,rfl,_,rfl,e,B,rfl,Bb,λz=>absurd z Bn,λ_ p5 hp5=>?_⟩;have s8:=AR hp5 (.AF [.int (A0 e B).1,.int (A0 e B).2]);have g8:Ag (AE H7 p5 (.AF [.int (A0 e B).1,.int (A0 e B).2])) p5 ((e:Rat) / (B:Rat)):=by
   rw[Gy e B Bn]; exact AM
  have ne:p5≠acc:=λz=>by rw[z,hac6] at hp5; cases hp5
  refine hC _ _ _ s8 ⟨ds++[p5],by simp,?_,_,rfl⟩;rw[BO eg];exact(hD.keep EO (FD acc s8)).snoc (Fn g8 ne)
 rintro ys σ2 H6 s6 hac6 _ ⟨ds,rfl,hD,u,rfl⟩;have ld:ds.length=4:=hD.1;rw[show(Br B g).take ([g.l,g.d,g.r,g.u].map V.int).length=Br B g from rfl] at hD;refine⟨acc,_,rfl,.inl ⟨AJ.of hac6,λp7 hp7=>?_⟩⟩;have s7:=AR hp7 (.AF (ds.map V.ref));have g7:(AE H6 p7 (.AF (ds.map V.ref))) p7=some (.AF (ds.map V.ref)):=AM;generalize AE H6 p7 (.AF (ds.map V.ref))=H7 at s7 g7;have s47:=(s5.trans s6).trans s7;refine⟨t,p7,_,_,rfl,rfl,AO.of (s47 _ _ g4),AO.of g7,by simp,by rw[cf,ld]; show 5<=sizeLine; decide,(λz=>by rw[fS] at z; rw[z] at ld; cases ld),λ_ p8 hp8=>?_⟩;refine q2 g p8 ds _ lk (s03.trans (s4.trans (s47.trans (AR hp8 _)))) AM ?_;exact((hD.keep EO (EE H6 acc)).keep EO s7).keep EO (AR hp8 _)
end
end My
namespace My
open PySem L2 Mth Wd
section
variable {K:PySem.W.Frag}
theorem Jv {J:It} {n:Nat} {H1:Hp} {f:Nat->Hp->V->Hp->Prop} {acc:Addr} {σ0:St} {g:TG} {tt:TT} {te:TE} {G:Hp->Prop} (r:HY J H1 n f) (hn:n<=1000) (hacc:H1 acc=none) (Iv:Nat->List V->St->Hp->Prop) (h0:Iv 0 [] σ0 H1)
  (hs:∀(i:Nat) (ys:List V) (σ:St) (H2:Hp) (x:V) (H3:Hp),i<n->AN H1 H2->H2 acc=some (.AD ys)->Iv i ys σ (BF H2 acc)->f i H2 x H3->∀(C:St->VK) (N:St->Hp->Prop),(∀(σ4:St) (v:V) (H5:Hp),AN H2 H5->Iv (i+1) (ys++[v]) σ4 (BF H5 acc)->C σ4 v H5)->(∀(σ4:St) (H5:Hp),AN H2 H5->Iv (i+1) ys σ4 (BF H5 acc)->N σ4 H5) →
   g x σ H3 λσ4 H4=>tt σ4 H4 λok H5=>if ok=true then te σ4 H5 (C σ4) else N σ4 H5)
  (fin:∀(ys:List V) (σ:St) (H2:Hp),AN H1 H2->H2 acc=some (.AD ys)->Iv n ys σ (BF H2 acc)->G H2) :
  ∃W:Nat->Nat->List V->St->Hp->Prop,(∃m,W 0 m [] σ0 (AE H1 acc (.AD [])))/\∀i m ys σc H2,W i m ys σc H2 →
   (J.stop i H2/\G H2)\/(J.go i H2/\∀x H3,J.EB i H2 x H3->g x σc H3 λσ4 H4=>tt σ4 H4 λok H5=>if ok=true then (te σ4 H5 λv H6=>H6 acc=some (.AD ys)/\ys.length<sizeLine/\∃m',m' < m/\W (i+1) m' (ys++[v]) σ4 (AE H6 acc (.AD (ys++[v])))) else ∃m',m' < m/\W (i+1) m' ys σ4 H5):=by
 refine⟨λi m ys σ H2=>m=n-i/\i<=n/\AN H1 H2/\H2 acc=some (.AD ys)/\ys.length<=i/\Iv i ys σ (BF H2 acc),⟨n,rfl,dk _,?_,AM,cR _,?_⟩,?_⟩
 ·intro b o e; rw[AW (BB e hacc)]; exact e
 ·rw[KW,P6 hacc]; exact h0
 ·rintro i m ys σc H2 ⟨rfl,hi,sm,ha,hl,iv⟩;rcases c5 i n with hlt | hge
  ·refine .inr ⟨r.go i H2 hlt sm,λx H3 yl=>?_⟩;refine hs i ys σc H2 x H3 hlt sm ha iv (r.yl i H2 x H3 hlt sm yl) (λσ4 v H5=>H5 acc=some (.AD ys)/\ys.length<sizeLine/\∃m',m' < n-i/\(m'=n-(i+1)/\i+1<=n/\AN H1 (AE H5 acc (.AD (ys++[v])))/\(AE H5 acc (.AD (ys++[v]))) acc=some (.AD (ys++[v]))/\(ys++[v]).length<=i+1/\Iv (i+1) (ys++[v]) σ4 (BF (AE H5 acc (.AD (ys++[v]))) acc)))
    (λσ4 H5=>∃m',m' < n-i/\(m'=n-(i+1)/\i+1<=n/\AN H1 H5/\H5 acc=some (.AD ys)/\ys.length<=i+1/\Iv (i+1) ys σ4 (BF H5 acc))) ?_ ?_
   ·intro σ4 v H5 s5 iv5;refine⟨s5 _ _ ha,by rw[sizeLine_eq]; omega,n-(i+1),by omega,rfl,hlt,?_,AM,by rw[cX,fm]; omega,?_⟩
    ·intro b o e; rw[AW (BB e hacc)]; exact s5 _ _ (sm _ _ e)
    ·rw[KW]; exact iv5
   ·intro σ4 H5 s5 iv5;exact⟨n-(i+1),by omega,rfl,hlt,sm.trans s5,s5 _ _ ha,by omega,iv5⟩
  ·obtain rfl:i=n:=by omega
   exact .inl ⟨r.st H2 sm,fin ys σc H2 sm ha iv⟩
open Fl
def Di(r:List Rat):Bool:=decide (r.getD 0 0=r.getD 2 0) && decide (r.getD 1 0=r.getD 3 0)
theorem Qq(a b:Rat):decide ([a.num,(a.den:Int)]=[b.num,(b.den:Int)])=decide (a=b):=by
 rw[decide_eq_decide];constructor
 ·intro h;simp only[List.cons.injEq,and_true] at h;exact Rat.ext h.1 (by have:=h.2; omega)
 ·rintro rfl; rfl
theorem bD{H:Hp}{p:Addr}{r:List Rat}(h:BA Ag H p r)(n:r.length=4):∃(c0 c1 c2 c3:Addr) (x0 x1 x2 x3:Rat),r=[x0,x1,x2,x3]/\H p=some (.AF [.ref c0,.ref c1,.ref c2,.ref c3])/\Ag H c0 x0/\Ag H c1 x1/\Ag H c2 x2/\Ag H c3 x3:=by
 obtain⟨cs,hp,hC⟩:=h;have lc:cs.length=4:=by rw[hC.1,n]
 match r,n,cs,lc with
 | [x0,x1,x2,x3],_,[c0,c1,c2,c3],_=>exact⟨c0,c1,c2,c3,x0,x1,x2,x3,rfl,hp,hC.2 0 _ _ rfl rfl,hC.2 1 _ _ rfl rfl,hC.2 2 _ _ rfl rfl,hC.2 3 _ _ rfl rfl⟩
variable {P:Program} {w:World} {mg:Str->Option Value} {base:Heap} {f g h f1 f2 f3:Addr} {fd gd hd d1 d2 d3:FuncData}
inductive Qr(vs:List V)(H:Hp)(Q:VK):Prop
 | mk (p:Addr) (r:List Rat) (h_0:vs=[.ref p]) (h_1:BA Ag H p r) (h_2:r.length=4) (h_3:Q (.bl (Di r)) H):Qr vs H Q
def Kv:Sp:=λvs H Q _=>Qr vs H Q
theorem bR:Ar ["rectangle"] ["rectangle"] (Ah s_is_point):=Av
theorem Yo(F:Fun K "is_point" "is_point" s_is_point f fd):AL P w K mg base AK 1 f fd ["rectangle"] Kv:=by
 refine F.ok bR (λvs H Q E h=>?_) (λcdv A outer s H vs Q E hr h=>?_)
 ·obtain⟨p,r,rfl,_⟩:=h;rfl
 obtain⟨p,r,rfl,hp,n4,q⟩:=h;obtain⟨c0,c1,c2,c3,x0,x1,x2,x3,rfl,hp,h0,h1,h2,h3⟩:=bD hp n4;refine⟨_,AU (Ak (Kg (Ds (Lh hr.units) (pT K (pv 0) AH) (pT K (pv 0) AH) (An _)) (JA (Ds (Lh hr.units) (pT K (pv 0) AH) (pT K (pv 0) AH) (An _))))),?_⟩;refine⟨_,rfl,p,_,_,_,rfl,rfl,AO.of hp,Gk,_,rfl,p,_,_,_,rfl,rfl,AO.of hp,Gj,c0,c2,[x0.num,(x0.den:Int)],[x2.num,(x2.den:Int)],rfl,rfl,h0,h2,_,rfl,?_⟩;rw[Qq];have e:Di [x0,x1,x2,x3]=(decide (x0=x2) && decide (x1=x3)):=rfl;rw[e] at q;by_cases z:x0=x2
 ·refine Bl z ?_;refine⟨_,rfl,p,_,_,_,rfl,rfl,AO.of hp,GZ,_,rfl,p,_,_,_,rfl,rfl,AO.of hp,GX,c1,c3,[x1.num,(x1.den:Int)],[x3.num,(x3.den:Int)],rfl,rfl,h1,h3,?_⟩;rw[Qq];rw[decide_eq_true z,Bool.true_and] at q;exact q
 ·refine Bj z ?_;rw[decide_eq_false z,Bool.false_and] at q
  first | exact q | (rw[decide_eq_false z]; exact q)
inductive Rq(vs:List V)(H:Hp)(Q:VK):Prop
 | mk (a:Addr) (W U:Rat) (rows:List (List Rat)) (h_0:vs=[.ref a]) (h_1:Ep H a W U rows) (h_2:rows.length<=1000) (h_3:(∀r∈rows,r.length=4)) (h_4:∀p H',AN H H'->Ep H' p W U (rows.filter λr=>!Di r)->Q (.ref p) H'):Rq vs H Q
def NP:Sp:=λvs H Q _=>Rq vs H Q
theorem bM:Ar ["floor"] ["floor"] (Ah s_without_points):=Av
theorem aX:(["rectangle"]:List Str).Nodup:=by decide +kernel
theorem Z2(F:Fun K "without_points" "without_points" s_without_points f fd)(G:AL P w K mg base AK 1 g gd ["rectangle"] Kv)(bG:Af K gd ["rectangle"] [])(kG:KP K g)(mG:mg "is_point" = some (.ref g))(mt:mg "tuple" = none):AL P w K mg base AK 2 f fd ["floor"] NP:=by
 refine F.ok bM (λvs H Q E h=>?_) (λcdv A outer s H vs Q E hr h=>?_)
 ·obtain⟨a,W,U,rows,rfl,_⟩:=h;rfl
 obtain⟨a,W,U,rows,rfl,⟨p,q0,r,ha,fW,fU,fR⟩,n1000,n4,q⟩:=h;refine⟨_,AU (Ak (Ao (AA (pT K (pv 0) AH) (AA (pT K (pv 0) AH) (AA (Dr (Fi (K:=K)) (by rfl) mt ED (AA
   (Oq (Nc:=["rectangle"]) (cap:=[]) (g:=BG 0) (tt:=SX (Md (Fs Kv [] E0 (BQ (Au 0) B7)))) (te:=Au 0) rfl (IM (K:=K) (pT K (pv 0) AH))
    (B1 rfl rfl (by decide +kernel) (by decide +kernel) (cQ _) rfl (cQ _)) (λ_ _ _ _ _=>AV (i:=0) aX rfl (Or.inl rfl))
    (λ_ _ _ _ _=>Fq (EK (Ac G hr (by rfl) mG kG bG .nil Ad (AA (pv 0) AG)))) (λ_ _ _ _ _=>pv 0)) AG)) AG))))),?_⟩
 obtain⟨cs,hr',hC⟩:=id fR;have lc:cs.length=rows.length:=hC.1;refine⟨_,rfl,a,_,_,_,rfl,rfl,AO.of ha,Dy _ _ _,_,rfl,a,_,_,_,rfl,rfl,AO.of ha,D5 _ _ _,_,rfl,a,_,_,_,rfl,rfl,AO.of ha,DD _ _ _,r,rfl,⟨_,AO.of hr'⟩,λacc hacc=>?_⟩;refine Jv (G0 hr') (by rw[cf]; omega) hacc (λi ws σ hp=>∃es:List Addr,ws=es.map V.ref/\At (BA Ag) hp es ((rows.take i).filter λr=>!Di r)/\∃u,σ=[u]) ⟨[],rfl,At.nil,none,rfl⟩ ?_ ?_
 ·rintro i ws σ H5 x H6 hi sm hacc5 ⟨es,rfl,hE,u,rfl⟩ ⟨rfl,hx⟩ Cc Nn hC1 hN1;obtain⟨g1,b,rfl,_,hb,hg⟩:=hC.ref hx;have hg6:BA Ag H6 g1 b:=Ex sm hg;refine⟨_,rfl,g1,b,rfl,hg6,n4 b (cq hb),_,rfl,?_⟩;cases e:Di b with
  | true =>
   refine CO ?_;exact hN1 _ _ (AN.refl _) ⟨es,rfl,by rw[BO hb,eM,List.filter_cons_of_neg (by simp[e])]; simpa using hE,_,rfl⟩
  | false =>
   refine FQ ?_;refine⟨_,rfl,hC1 _ _ _ (AN.refl _) ⟨es++[g1],by simp,?_,_,rfl⟩⟩;rw[BO hb,eM,List.filter_cons_of_pos (by simp[e])];exact hE.snoc (Td hg6 hacc5)
 rintro ws σ H2 s2 hac2 ⟨es,rfl,hE',u,rfl⟩;rw[cf,lc,eI] at hE';refine⟨acc,_,rfl,.inl ⟨AJ.of hac2,λt3 ht3=>?_⟩⟩;have v3:=AR ht3 (.AF (es.map V.ref));have f3:BA (BA Ag) (AE H2 t3 (.AF (es.map V.ref))) t3 (rows.filter λr=>!Di r):=⟨es,AM,(hE'.keep Ex (EE H2 acc)).keep Ex v3⟩;generalize AE H2 t3 (.AF (es.map V.ref))=H3 at v3 f3;refine⟨by exact CB,λpp hpp=>?_⟩;have v4:=AR hpp (.AF [.ref p,.ref q0,.ref t3]);have s04:=s2.trans (v3.trans v4);exact q pp _ s04 ⟨p,q0,t3,AM,s04 _ _ fW,s04 _ _ fU,EL (R:=BA Ag) (λs h=>Ex s h) v4 f3⟩
def GG(q:Rat):PyData:=.tuple [.int q.num,.int (q.den:Int)]
theorem RF(q:Rat):(GG q).canLay0=true:=by
 simp only[GG,PyData.canLay0];refine FE λd hd=>?_
 simp only[cP,de,or_false] at hd;rcases hd with rfl | rfl <;> rfl
theorem Pr(q:Rat):(GG q).depth<=2:=by simp[GG,PyData.depth,PyData.depthAll]
theorem R3{H:Hp}{p:Addr}{q:Rat}(h:Ag H p q):Bz H (.ref p) (GG q):=by
 refine .AF h rfl λi x d e1 e2=>?_
 match i,e1,e2 with
 | 0,e1,e2=>cases e1; cases e2; exact .int _
 | 1,e1,e2=>cases e1; cases e2; exact .int _
 | n+2,e1,e2=>simp at e1
def covD:PyData:=.tuple [.str "covers"]
theorem Ls:covD.canLay0=true:=by first | rfl | decide +kernel | (simp only[covD,PyData.canLay0,PyData.canLayAll0]; decide)
theorem OV:covD.depth<=64:=by first | decide | (simp[covD,PyData.depth,PyData.depthAll])
theorem Q9{H:Hp}{p:Addr}(h:H p=some (.AF [.str "covers"])):Bz H (.ref p) covD:=by
 refine .AF h rfl λi x d e1 e2=>?_
 match i,e1,e2 with
 | 0,e1,e2=>cases e1; cases e2; exact .str _
 | n+1,e1,e2=>simp at e1
def Gb(qs:List Rat):PyData:=.tuple (.str "gap" :: qs.map GG)
theorem Ww(qs:List Rat):(Gb qs).canLay0=true:=by
 simp only[Gb,PyData.canLay0];refine FE λd hd=>?_
 rcases cP.mp hd with rfl | hd
 ·first | rfl | decide +kernel | (simp only[PyData.canLay0]; decide)
 ·obtain⟨q,_,rfl⟩:=cT.mp hd; exact RF q
theorem U8(qs:List Rat):(Gb qs).depth<=64:=by
 have:=Ff (n:=2) (ds:=.str "gap" :: qs.map GG) λd hd=>by
  rcases cP.mp hd with rfl | hd
  ·simp[PyData.depth]
  ·obtain⟨q,_,rfl⟩:=cT.mp hd; exact Pr q
 simp only[Gb,PyData.depth]; omega
theorem Y0{H:Hp}{p:Addr}{ts:List Addr}{qs:List Rat}(h:H p=some (.AF (.str "gap" :: ts.map V.ref)))(hT:At Ag H ts qs):Bz H (.ref p) (Gb qs):=by
 refine .AF h (by simp[hT.1]) λi x d e1 e2=>?_
 cases i with
 | zero=>cases e1; cases e2; exact .str _
 | succ i =>
  rw[List.getElem?_cons_succ,cu] at e1 e2;obtain⟨c,ec,rfl⟩:=dJ.mp e1;obtain⟨y,ey,rfl⟩:=dJ.mp e2;exact R3 (hT.2 i c y ec ey)
theorem YU(qs:List Rat)(h:0<qs.length):PyData.eqv (Gb qs) covD=false:=by
 match qs,h with
 | q :: r,_=>simp[Gb,covD,PyData.eqv,PyData.eqvAll]
open PySem.Spec PyProof.Rows in
theorem YQ:PyData.eqv covD covD=true:=SeqAt.eqv_refl _ Ls
def GP(s:Str)(is:List Int):PyData:=.tuple (.str s :: is.map PyData.int)
theorem V7{s:Str}(h:PyData.canLay0 (.str s)=true)(is:List Int):(GP s is).canLay0=true:=by
 simp only[GP,PyData.canLay0];refine FE λd hd=>?_
 rcases cP.mp hd with rfl | hd
 ·exact h
 ·obtain⟨q,_,rfl⟩:=cT.mp hd; rfl
theorem VW(s:Str)(is:List Int):(GP s is).depth<=64:=by
 have:=Ff (n:=2) (ds:=.str s :: is.map PyData.int) λd hd=>by
  rcases cP.mp hd with rfl | hd
  ·simp[PyData.depth]
  ·obtain⟨q,_,rfl⟩:=cT.mp hd; simp[PyData.depth]
 simp only[GP,PyData.depth]; omega
theorem Xa{H:Hp}{p:Addr}{s:Str}{is:List Int}(h:H p=some (.AF (.str s :: is.map V.int))):Bz H (.ref p) (GP s is):=by
 refine .AF h (by simp) λi x d e1 e2=>?_
 cases i with
 | zero=>cases e1; cases e2; exact .str _
 | succ i =>
  rw[List.getElem?_cons_succ,cu] at e1 e2;obtain⟨c,ec,rfl⟩:=dJ.mp e1;obtain⟨y,ey,rfl⟩:=dJ.mp e2;rw[ec] at ey;obtain rfl:=Option.some.inj ey;exact .int _
theorem Xo(s:Str)(is:List Int)(h:0<is.length):PyData.eqv (GP s is) covD=false:=by
 match is,h with
 | q :: r,_=>simp[GP,covD,PyData.eqv,PyData.eqvAll]
theorem BK.aw{m n:Int}{bs:List AB}{ws:List V}(h:BK m n bs ws):ws=[.str "covers"]\/(∃(s:Str) (is:List Int),ws=.str s :: is.map V.int/\0<is.length/\s≠"gap"/\PyData.canLay0 (.str s)=true)\/∃g,ws=.str "gap" :: Cm g:=by
 cases h with
 | no k=>exact .inr (.inl ⟨"no",[(k:Int)],rfl,Nat.succ_pos _,by decide,by first | rfl | decide +kernel | (simp only[PyData.canLay0]; decide)⟩)
 | out k=>exact .inr (.inl ⟨"out",[(k:Int)],rfl,Nat.succ_pos _,by decide,by first | rfl | decide +kernel | (simp only[PyData.canLay0]; decide)⟩)
 | ov j k=>exact .inr (.inl ⟨"overlap",[(j:Int),(k:Int)],rfl,Nat.succ_pos _,by decide,by first | rfl | decide +kernel | (simp only[PyData.canLay0]; decide)⟩)
 | Ce b=>exact .inr (.inr ⟨b,rfl⟩)
 | cov=>exact .inl rfl
theorem Fst.no{bs:List AB}{j k:Nat}(f:Fst bs j k)(n:Df bs):False:=by
 obtain⟨a,b,e1,e2,o⟩:=f.at_;obtain⟨hi,rfl⟩:=cm.mp e1;obtain⟨hj,rfl⟩:=cm.mp e2
 have:=cY.mp n j k hi hj f.lt
 rw[this] at o; cases o
theorem Fst.same{bs:List AB}{j k j' k':Nat}(f:Fst bs j k)(g:Fst bs j' k'):j=j'/\k=k':=by
 obtain⟨a,b,e1,e2,o⟩:=f.at_;obtain⟨a',b',e1',e2',o'⟩:=g.at_;have l1:¬(j<j'\/(j=j'/\k<k')):=λz=>by
  have:=g.Ra j k a b f.lt e1 e2 z
  rw[this] at o; cases o
 have l2:¬(j' < j\/(j'=j/\k' < k)):=λz=>by
  have:=f.Ra j' k' a' b' g.lt e1' e2' z
  rw[this] at o'; cases o'
 omega
theorem DX{bs:List AB}{p:AB->Bool}{k:Nat}{b:AB}(e:bs[k]?=some b)(t:p b=true)(n:∀b∈bs,p b=false):False:=by
 rw[n b (cq e)] at t; cases t
theorem PF {bs:List AB} {p:AB->Bool} {k k2:Nat} {b b2:AB} (e:bs[k]?=some b) (t:p b=true) (n:∀k' b',k' < k->bs[k']?=some b'->p b'=false)
  (e2:bs[k2]?=some b2) (t2:p b2=true) (n2:∀k' b',k' < k2->bs[k']?=some b'->p b'=false):k=k2:=by
 rcases eQ k k2 with z | z | z
 ·rw[n2 k b z e] at t; cases t
 ·exact z
 ·rw[n k2 b2 z e2] at t2; cases t2
theorem BK.CV{m n:Int}{bs:List AB}{ws vs:List V}(h:BK m n bs ws)(g:BK m n bs vs):ws=vs:=by
 cases h with
 | no k b e t f =>
  cases g with
  | no k2 b2 e2 t2 f2=>rw[PF e t f e2 t2 f2]
  | out k2 b2 a=>exact(DX e t a).elim
  | ov j k2 a=>exact(DX e t a).elim
  | Ce c xs ys a=>exact(DX e t a).elim
  | cov xs ys a=>exact(DX e t a).elim
 | out k b a e t f =>
  cases g with
  | no k2 b2 e2 t2 f2=>exact(DX e2 t2 a).elim
  | out k2 b2 _ e2 t2 f2=>rw[PF e t f e2 t2 f2]
  | ov j k2 _ o=>exact(DX e t o).elim
  | Ce c xs ys _ o=>exact(DX e t o).elim
  | cov xs ys _ o=>exact(DX e t o).elim
 | ov j k a o f =>
  cases g with
  | no k2 b2 e2 t2 f2=>exact(DX e2 t2 a).elim
  | out k2 b2 _ e2 t2 f2=>exact(DX e2 t2 o).elim
  | ov j2 k2 _ _ f2=>obtain⟨rfl,rfl⟩:=Fst.same f f2; rfl
  | Ce c xs ys _ _ z=>exact(Fst.no f z).elim
  | cov xs ys _ _ z=>exact(Fst.no f z).elim
 | Ce b xs ys a o z b1 b2 e =>
  cases g with
  | no k2 c2 e2 t2 f2=>exact(DX e2 t2 a).elim
  | out k2 c2 _ e2 t2 f2=>exact(DX e2 t2 o).elim
  | ov j2 k2 _ _ f2=>exact(Fst.no f2 z).elim
  | Ce c xs2 ys2 _ _ _ d1 d2 e2 =>
   rw[b1.CV d1,b2.CV d2,e2] at e;cases e; rfl
  | cov xs2 ys2 _ _ _ d1 d2 e2 =>
   rw[b1.CV d1,b2.CV d2,e2] at e;cases e
 | cov xs ys a o z b1 b2 e =>
  cases g with
  | no k2 c2 e2 t2 f2=>exact(DX e2 t2 a).elim
  | out k2 c2 _ e2 t2 f2=>exact(DX e2 t2 o).elim
  | ov j2 k2 _ _ f2=>exact(Fst.no f2 z).elim
  | Ce c xs2 ys2 _ _ _ d1 d2 e2 =>
   rw[b1.CV d1,b2.CV d2,e2] at e;cases e
  | cov xs2 ys2 _ _ _ d1 d2 e2=>rfl
inductive Ef(m n B:Int)(bs:List AB):PyData->Prop
 | cov:BK m n bs [.str "covers"]->Ef m n B bs covD
 | HV (s:Str) (is:List Int):BK m n bs (.str s :: is.map V.int)->0<is.length->s≠"gap"->PyData.canLay0 (.str s)=true->Ef m n B bs (GP s is)
 | Ce (g:AB):BK m n bs (.str "gap" :: Cm g)->Ef m n B bs (Gb (Br B g))
theorem Pn:∀{a b:List Int},a.map V.int=b.map V.int->a=b
 | [],[],_=>rfl
 | [],_ :: _,h=>by cases h
 | _ :: _,[],h=>by cases h
 | x :: a,y :: b,h=>by
  simp only[eJ,List.cons.injEq,V.int.injEq] at h;rw[h.1,Pn h.2]
theorem Ef.CV{m n B:Int}{bs:List AB}{D E:PyData}(h:Ef m n B bs D)(g:Ef m n B bs E):D=E:=by
 cases h with
 | cov l =>
  cases g with
  | cov=>rfl
  | HV s is l2 h1 =>
   have:=BK.CV l l2
   simp only[List.cons.injEq] at this;rw[fS.mp this.2.symm] at h1;exact absurd h1 (by decide)
  | Ce g l2 =>
   have:=BK.CV l l2
   simp[Cm] at this
 | HV s is l h1 h2 =>
  cases g with
  | cov l2 =>
   have:=BK.CV l2 l
   simp only[List.cons.injEq] at this;rw[fS.mp this.2.symm] at h1;exact absurd h1 (by decide)
  | HV s2 is2 l2 =>
   have:=BK.CV l l2
   simp only[List.cons.injEq,V.str.injEq] at this;rw[this.1,Pn this.2]
  | Ce g l2 =>
   have:=BK.CV l l2
   simp only[List.cons.injEq,V.str.injEq] at this;exact absurd this.1 h2
 | Ce c l =>
  cases g with
  | cov l2 =>
   have:=BK.CV l2 l
   simp[Cm] at this
  | HV s2 is2 l2 h1 h2 =>
   have:=BK.CV l2 l
   simp only[List.cons.injEq,V.str.injEq] at this;exact absurd this.1 h2
  | Ce d l2 =>
   have:=BK.CV l l2
   simp only[Cm,List.cons.injEq,V.int.injEq,true_and,and_true] at this;obtain⟨e1,e2,e3,e4⟩:=this;unfold Br;rw[e1,e2,e3,e4]
theorem Ef.Na{m n B:Int}{bs:List AB}{D:PyData}(h:Ef m n B bs D):D.canLay0=true/\D.depth<=64:=by
 cases h with
 | cov=>exact⟨Ls,OV⟩
 | HV s is _ _ _ hl=>exact⟨V7 hl is,VW s is⟩
 | Ce g=>exact⟨Ww _,U8 _⟩
theorem Ef.eq{m n B:Int}{bs:List AB}{D:PyData}(h:Ef m n B bs D):(D=covD/\BK m n bs [.str "covers"]/\PyData.eqv D covD=true)\/(PyData.eqv D covD=false/\¬BK m n bs [.str "covers"]):=by
 cases h with
 | cov l=>exact .inl ⟨rfl,l,YQ⟩
 | HV s is l h1 h2 =>
  refine .inr ⟨Xo s is h1,λl2=>?_⟩
  have:=BK.CV l2 l
  simp only[List.cons.injEq] at this;rw[fS.mp this.2.symm] at h1;exact absurd h1 (by decide)
 | Ce g l =>
  refine .inr ⟨YU _ (by show 0<4; decide),λl2=>?_⟩
  have:=BK.CV l2 l
  simp[Cm] at this
abbrev Jc(W U:Rat)(rows:List (List Rat))(D:PyData):Prop:=Ef (wh (cb (nums W U rows)) W) (wh (cb (nums W U rows)) U) (cb (nums W U rows)) (Cr (cb (nums W U rows)) rows) D
variable {C0 f4 f5 fI CN:Addr} {d4 d5 dI:FuncData}
theorem Zb{H:Hp}{Q:VK}{E:XK}{a:Addr}{W U:Rat}{rows:List (List Rat)}(hF:Ep H a W U rows)(k:DR W U rows)(q:∀o D H',AN H H'->Jc W U rows D->Bz H' (.ref o) D->Q (.ref o) H'):LB [.ref a] H Q E:=by
 refine⟨a,W,U,rows,rfl,hF,k,λws p H' lk ng s' hp=>?_,λg p ts H' lk s' hp hT=>?_⟩
 ·rcases BK.aw lk with rfl | ⟨s,is,rfl,h1,h2,h3⟩ | ⟨g,rfl⟩
  ·exact q p _ H' s' (.cov lk) (Q9 hp)
  ·exact q p _ H' s' (.HV s is lk h1 h2 h3) (Xa hp)
  ·exact absurd rfl ng
 ·exact q p _ H' s' (.Ce g lk) (Y0 hp hT)
end
end My
namespace My
open PySem L2 Mth Wd Fl
section
variable {k B:Int} {W U:Int} {bs:List AB}
def fK(k B:Int)(e:Int):Int:=wh B ((e:Rat) / (k:Rat))
def dK(k B:Int)(e:Int):Prop:=(((e:Rat) / (k:Rat)).den:Int) ∣ B
theorem ML{e:Int}(h:dK k B e):((fK k B e:Int):Rat)=B*((e:Rat) / (k:Rat)):=ZH h
theorem OG(bs:List AB):Cr B (bs.map (Br k))=bs.map (BC (fK k B)):=by
 unfold Cr;rw[fg];rfl
theorem P0{c x:Int}(h:0<c):0<x*c↔0<x :=
 ⟨λz=>by
  rcases Int.lt_or_le 0 x with y | y
  ·exact y
  ·have:=Int.mul_nonpos_of_nonpos_of_nonneg y (Int.le_of_lt h); omega,λz=>Int.mul_pos z h⟩
theorem N7:((0:Int):Rat) / (k:Rat)=0:=by
 rw[Rat.div_def]; simp
theorem cL(hB:0<B)(hk:0<k):Sc (fK k B) (dK k B):=by
 have hk':(k:Rat)≠0:=by exact_mod_cast (show k≠0 by omega)
 refine⟨λa b ha hb=>?_,?_,?_⟩
 ·have e1:=ML ha;have e2:=ML hb;have e:(((fK k B b-fK k B a)*k:Int):Rat)=(((b-a)*B:Int):Rat):=by
   rw[fh,fh,Rat.intCast_sub,Rat.intCast_sub,e1,e2]
   grind
  have e':(fK k B b-fK k B a)*k=(b-a)*B:=by exact_mod_cast e
  have p1:=P0 (x:=fK k B b-fK k B a) hk;have p2:=P0 (x:=b-a) hB;rw[e'] at p1;constructor
  ·intro z
   have:=p1.mp (p2.mpr (by omega)); omega
  ·intro z
   have:=p2.mp (p1.mpr (by omega)); omega
 ·unfold dK;rw[N7];exact Int.one_dvd _
 ·unfold fK wh;rw[N7];exact Int.zero_mul _
theorem Ek{e:Int}(k1:1<=k)(k6:k<=65536)(he:e.natAbs<=2 ^ 64):((e:Rat) / (k:Rat)).den<=2 ^ 16/\((e:Rat) / (k:Rat)).num.natAbs<=2 ^ 64:=by
 have e0:=Gy e k (by omega);have l1:=Vh e k (by omega);have l2:=VQ e k (by omega);rw[e0] at l1 l2;dsimp only at l1 l2;rw[eL] at l2
 have:(65536:Nat)<=2 ^ 16:=by decide
 exact⟨by omega,by omega⟩
structure CW(k W U:Int)(bs:List AB):Prop where
 k1:1<=k
 k6:k<=65536
 len:bs.length<=30
 w:W.natAbs<=2 ^ 64
 u:U.natAbs<=2 ^ 64
 sm:∀b∈bs,b.l.natAbs<=2 ^ 64/\b.d.natAbs<=2 ^ 64/\b.r.natAbs<=2 ^ 64/\b.u.natAbs<=2 ^ 64
theorem CW.lk(h:CW k W U bs):DR ((W:Rat) / (k:Rat)) ((U:Rat) / (k:Rat)) (bs.map (Br k)):=by
 refine⟨by rw[cf]; exact h.len,λr hr=>?_,λq hq=>?_⟩
 ·obtain⟨b,_,rfl⟩:=cT.mp hr; rfl
 ·simp only[nums,cP,List.mem_flatten,cT] at hq;rcases hq with rfl | rfl | ⟨_,⟨b,hb,rfl⟩,hq⟩
  ·exact Ek h.k1 h.k6 h.w
  ·exact Ek h.k1 h.k6 h.u
  ·obtain⟨a1,a2,a3,a4⟩:=h.sm b hb;simp only[Br,cP,de,or_false] at hq;rcases hq with rfl | rfl | rfl | rfl
   ·exact Ek h.k1 h.k6 a1
   ·exact Ek h.k1 h.k6 a2
   ·exact Ek h.k1 h.k6 a3
   ·exact Ek h.k1 h.k6 a4
def C1(k W U:Int)(bs:List AB):Int:=cb (nums ((W:Rat) / (k:Rat)) ((U:Rat) / (k:Rat)) (bs.map (Br k)))
theorem CW.To(h:CW k W U bs):0<C1 k W U bs:=h.lk.cb.1
theorem CW.dW(h:CW k W U bs):dK k (C1 k W U bs) W:=h.lk.cb.2.1 _ (by simp)
theorem CW.dU(h:CW k W U bs):dK k (C1 k W U bs) U:=h.lk.cb.2.1 _ (by simp)
theorem CW.dB(h:CW k W U bs):∀b∈bs,DB (dK k (C1 k W U bs)) b:=λb hb=>by
 have m:∀q∈Br k b,q∈nums ((W:Rat) / (k:Rat)) ((U:Rat) / (k:Rat)) (bs.map (Br k)):=λq hq=>by
  simp only[nums,cP];exact .inr (.inr (List.mem_flatten.mpr ⟨_,cT.mpr ⟨b,hb,rfl⟩,hq⟩))
 exact⟨h.lk.cb.2.1 _ (m _ (by simp[Br])),h.lk.cb.2.1 _ (m _ (by simp[Br])),h.lk.cb.2.1 _ (m _ (by simp[Br])),h.lk.cb.2.1 _ (m _ (by simp[Br]))⟩
theorem CW.sc(h:CW k W U bs):Sc (fK k (C1 k W U bs)) (dK k (C1 k W U bs)):=cL h.To (by have:=h.k1; omega)
theorem CW.dX(h:CW k W U bs){xs:List Int}(bx:Bd W (FP bs) xs):∀v∈xs,dK k (C1 k W U bs) v:=λv hv=>by
 rcases(bx.mem v).mp hv with rfl | rfl | hv
 ·exact h.sc.z
 ·exact h.dW
 ·rcases cS.mp hv with z | z
  ·obtain⟨b,hb,rfl⟩:=cT.mp z; exact(h.dB b hb).1
  ·obtain⟨b,hb,rfl⟩:=cT.mp z; exact(h.dB b hb).2.2.1
theorem CW.dY(h:CW k W U bs){ys:List Int}(by':Bd U (FW bs) ys):∀v∈ys,dK k (C1 k W U bs) v:=λv hv=>by
 rcases(by'.mem v).mp hv with rfl | rfl | hv
 ·exact h.sc.z
 ·exact h.dU
 ·rcases cS.mp hv with z | z
  ·obtain⟨b,hb,rfl⟩:=cT.mp z; exact(h.dB b hb).2.1
  ·obtain⟨b,hb,rfl⟩:=cT.mp z; exact(h.dB b hb).2.2.2
abbrev Zv(k W U:Int)(bs:List AB)(ws:List V):Prop:=BK (fK k (C1 k W U bs) W) (fK k (C1 k W U bs) U) (bs.map (BC (fK k (C1 k W U bs)))) ws
end
section
variable {f:Int->Int} {D:Int->Prop}
theorem Sc.ni(s:Sc f D){b:AB}(h:DB D b):CL (BC f b)=CL b:=by
 obtain⟨h1,h2,h3,h4⟩:=h;show(decide (f b.r<f b.l) || (decide (f b.u<f b.d) || (decide (f b.l=f b.r) != decide (f b.d=f b.u))))=_;rw[decide_eq_decide.mpr (s.lt _ _ h3 h1).symm,decide_eq_decide.mpr (s.lt _ _ h4 h2).symm,decide_eq_decide.mpr (s.eq h1 h3).symm,decide_eq_decide.mpr (s.eq h2 h4).symm];rfl
theorem Sc.out(s:Sc f D){w h:Int}{b:AB}(hw:D w)(hh:D h)(hb:DB D b):CP (f w) (f h) (BC f b)=CP w h b:=by
 obtain⟨h1,h2,h3,h4⟩:=hb;show(decide (f b.l<0) || (decide (f b.d<0) || (decide (f w<f b.r) || decide (f h<f b.u))))=_;have a:=s.lt _ _ h1 s.z; have c:=s.lt _ _ h2 s.z;rw[s.f0] at a c;rw[decide_eq_decide.mpr a.symm,decide_eq_decide.mpr c.symm,decide_eq_decide.mpr (s.lt _ _ hw h3).symm,decide_eq_decide.mpr (s.lt _ _ hh h4).symm];rfl
end
theorem XX{b:AB}(h:CL b=false):DG b:=by
 simp only[CL,Bool.or_eq_false_iff,decide_eq_false_iff_not,bne_eq_false_iff_eq,decide_eq_decide] at h;obtain⟨h1,h2,h3⟩:=h;unfold DG;by_cases e:b.l=b.r
 ·exact .inr ⟨e,h3.mp e⟩
 ·have:¬b.d=b.u:=λz=>e (h3.mpr z)
  exact .inl ⟨by omega,by omega⟩
theorem Wc{w h:Int}{b:AB}(z:CP w h b=false):CD w h b:=by
 simp only[CP,Bool.or_eq_false_iff,decide_eq_false_iff_not] at z;unfold CD;omega
def Gg(x:Int):List Int->List Int
 | []=>[x]
 | y :: l=>if x<y then x :: y :: l else if x=y then y :: l else y :: Gg x l
theorem Lu{x v:Int}:∀{l:List Int},v∈Gg x l↔v=x\/v∈l
 | []=>by simp[Gg]
 | y :: l=>by
  unfold Gg;split
  ·simp
  ·split
   ·rename_i e; subst e; simp
   ·rw[cP,Lu (l:=l),cP];constructor
    ·rintro(h | h | h) <;> simp[h]
    ·rintro(h | h | h) <;> simp[h]
theorem P2{x:Int}:∀{l:List Int},l.Pairwise (· < ·)->(Gg x l).Pairwise (· < ·)
 | [],_=>by simp[Gg]
 | y :: l,h=>by
  unfold Gg;have h':=fe.mp h;split
  ·rename_i z
   refine fe.mpr ⟨λv hv=>?_,h⟩;rcases cP.mp hv with rfl | hv
   ·exact z
   ·have:=h'.1 v hv; omega
  ·split
   ·exact h
   ·refine fe.mpr ⟨λv hv=>?_,P2 h'.2⟩;rcases Lu.mp hv with rfl | hv
    ·omega
    ·exact h'.1 v hv
theorem Rf:∀L:List Int,∃xs:List Int,xs.Pairwise (· < ·)/\∀v,v∈xs↔v∈L
 | []=>⟨[],.nil,λ_=>Iff.rfl⟩
 | x :: L=>by
  obtain⟨xs,h1,h2⟩:=Rf L;exact⟨Gg x xs,P2 h1,λv=>by rw[Lu,h2,cP]⟩
theorem Rg(m:Int)(vs:List Int):∃xs,Bd m vs xs:=by
 obtain⟨xs,h1,h2⟩:=Rf (0 :: m :: vs);exact⟨xs,h1,λv=>by rw[h2,cP,cP]⟩
section
variable {k W U:Int} {bs:List AB}
theorem ZE(f:Int->Int)(bs:List AB):FP (bs.map (BC f))=(FP bs).map f:=by
 simp only[FP,dh,fg]; rfl
theorem Yz(f:Int->Int)(bs:List AB):FW (bs.map (BC f))=(FW bs).map f:=by
 simp only[FW,dh,fg]; rfl
theorem XY(h:CW k W U bs)(hW:0<W)(hU:0<U):Zv k W U bs [.str "covers"]↔EM W U bs/\IQ W U bs:=by
 obtain⟨xs,bx⟩:=Rg W (FP bs);obtain⟨ys,by'⟩:=Rg U (FW bs);have s:=h.sc;have b1:=s.bd bx (h.dX bx);have b2:=s.bd by' (h.dY by')
 rw[<-ZE] at b1;rw[<-Yz] at b2;have g:=s.Ce (bs:=bs) h.dB (h.dX bx) (h.dY by');constructor
 ·intro lk;cases lk with
  | cov xs2 ys2 a o z c1 c2 e =>
   rw[c1.CV b1,c2.CV b2,g,Option.map_eq_none_iff] at e;have cl:EM W U bs:=by
    refine⟨λb hb=>?_,λb hb=>?_,?_⟩
    ·exact XX (by rw[<-Sc.ni s (h.dB b hb)]; exact a _ (cT.mpr ⟨b,hb,rfl⟩))
    ·exact Wc (by rw[<-Sc.out s h.dW h.dU (h.dB b hb)]; exact o _ (cT.mpr ⟨b,hb,rfl⟩))
    ·refine(fE.mp z).imp_of_mem λ{x y} hx hy q=>?_
     rw[<-s.ov (h.dB x hx) (h.dB y hy)]; exact q
   exact⟨cl,(cl.JY hW hU bx by').mp e⟩
 ·rintro⟨cl,fu⟩;refine .cov _ _ (λb hb=>?_) (λb hb=>?_) (Df.sc s h.dB cl.nov) b1 b2 ?_
  ·obtain⟨c,hc,rfl⟩:=cT.mp hb;rw[Sc.ni s (h.dB c hc)]; exact Z3 (cl.ok c hc)
  ·obtain⟨c,hc,rfl⟩:=cT.mp hb;rw[Sc.out s h.dW h.dU (h.dB c hc)]
   have:=cl.inn c hc
   unfold CD at this;simp only[CP,Bool.or_eq_false_iff,decide_eq_false_iff_not];omega
  ·rw[g,(cl.JY hW hU bx by').mpr fu]; rfl
theorem Xt(h:CW k W U bs)(hW:0<W)(hU:0<U){c:Bool}(hc:c=true↔EM W U bs/\IQ W U bs):∀D,Jc ((W:Rat) / (k:Rat)) ((U:Rat) / (k:Rat)) (bs.map (Br k)) D->PyData.eqv D covD=c:=λD l=>by
 have l':Ef (fK k (C1 k W U bs) W) (fK k (C1 k W U bs) U) (C1 k W U bs) (bs.map (BC (fK k (C1 k W U bs)))) D:=by
  rw[<-OG]; exact l
 have i:=XY h hW hU;rcases l'.eq with ⟨_,z,e⟩ | ⟨e,z⟩
 ·rw[e]; exact(hc.mpr (i.mp z)).symm
 ·rw[e];cases c with
  | false=>rfl
  | true=>exact absurd (i.mpr (hc.mp rfl)) z
end
abbrev sB(m:Int)(b:AB):AB:=(m*b.l,m*b.d,m*b.r,m*b.u)
abbrev tB(b:AB):Prop:=b.l<b.r/\b.d<b.u
theorem Yf{m x y:Int}(hm:0<m)(b:AB):Bg x y (sB m b)=Bg (x / m) (y / m) b:=by
 rw[fc,CJ,CJ,Int.le_ediv_iff_mul_le hm,Int.le_ediv_iff_mul_le hm,Int.ediv_lt_iff_lt_mul hm,Int.ediv_lt_iff_lt_mul hm,fX b.l,fX b.d,fX b.r,fX b.u]
theorem ai{m:Int}(hm:0<m){b:AB}(h:tB b):tB (sB m b):=⟨Int.mul_lt_mul_of_pos_left h.1 hm,Int.mul_lt_mul_of_pos_left h.2 hm⟩
theorem ZC{m w h:Int}{bs:List AB}(hm:0<m)(t:BH w h bs)(ht:∀b∈bs,tB b):BH (m*w) (m*h) (bs.map (sB m)):=by
 have m0:=Int.le_of_lt hm;refine⟨λb hb=>?_,λb hb=>?_,λx y x0 x1 y0 y1=>?_⟩
 ·obtain⟨c,hc,rfl⟩:=cT.mp hb;exact .inl (ai hm (ht c hc))
 ·obtain⟨c,hc,rfl⟩:=cT.mp hb;obtain⟨i1,i2,i3,i4⟩:=t.inn c hc;exact⟨fC m0 i1,fC m0 i2,Int.mul_le_mul_of_nonneg_left i3 m0,Int.mul_le_mul_of_nonneg_left i4 m0⟩
 ·rw[List.countP_map,<-t.one (x / m) (y / m) (Int.ediv_nonneg x0 m0) ((Int.ediv_lt_iff_lt_mul hm).mpr (by rw[fX]; exact x1)) (Int.ediv_nonneg y0 m0) ((Int.ediv_lt_iff_lt_mul hm).mpr (by rw[fX]; exact y1))];exact List.countP_congr λb _=>by rw[Function.comp_apply,Yf hm]
section
variable {w h:Int} {A B bs:List AB} {b:AB}
end
end My
namespace My
open PySem L2 Mth Wd
section
variable {P:Program} {w:World} {K:PySem.W.Frag} {mg:Str->Option Value} {base:Heap} {f g h f1 f2:Addr} {fd gd hd d1 d2:FuncData}
abbrev S6(H:Hp)(Q:VK)(q:Rat):Prop:=∀p,H p=none->Q (.ref p) (AE H p (.AF [.int q.num,.int q.den]))
abbrev Sf(q:Rat):Prop:=Sb 3900 3900 q
theorem Sf.n{q:Rat}(h:Sf q):BV q.num:=DE h.1 (by decide)
theorem Sf.d{q:Rat}(h:Sf q):BV (q.den:Int):=DE (n:=3900) (by simpa using h.2) (by decide)
theorem Sf.dd{p q:Rat}(h:Sf p)(g:Sf q):BV ((p.den:Int)*(q.den:Int)):=by
 refine DE (n:=7800) ?_ (by decide);rw[fZ,eL,eL];exact IV h.2 g.2
inductive RJ(op:Rat->Rat->Rat)(vs:List V)(H:Hp)(Q:VK):Prop
 | mk (p q:Addr) (x y:Rat) (h_0:vs=[.ref p,.ref q]) (h_1:Ag H p x) (h_2:Ag H q y) (h_3:Sf x) (h_4:Sf y) (h_5:S6 H Q (op x y)):RJ op vs H Q
def JF(op:Rat->Rat->Rat):Sp:=λvs H Q _=>RJ op vs H Q
abbrev Za(z:Int):Prop:=0<=z/\z<2147483587
inductive QF(K:PySem.W.Frag)(vs:List V)(H:Hp)(Q:VK):Prop
 | mk (a:Addr) (ns:List Int) (k:Int) (h_0:vs=[.ref a,.int k]) (h_1:Nm K H a ns) (h_2:0<=k) (h_3:∀z,Za z->Q (.int z) H):QF K vs H Q
def Iy(K:PySem.W.Frag):Sp:=λvs H Q _=>QF K vs H Q
theorem NO:Ar ["_law_script","_law_k","_law_cell_here"] ["_law_script","_law_k"] (Ah sCellAt):=Av
theorem XE(F:Fun K "_law_cell" "_law_cell" sCellAt f fd)(ml:mg "len" = none):AL P w K mg base AK 1 f fd ["_law_script","_law_k"] (Iy K):=by
 refine F.ok NO (λvs H Q E h=>?_) (λcdv A outer s H vs Q E hr h=>?_)
 ·obtain⟨a,ns,k,rfl,_⟩:=h;rfl
 obtain⟨a,ns,k,rfl,⟨hS,hl⟩,h0,q⟩:=h;refine⟨_,AS (Aa (i:=2) NO.nd rfl (Or.inl rfl) (AQ A5 (pv 1) AH))
  (AS (Bk (A4 GQ (pv 1) (As Nv (by rfl) ml Bh (AA (pv 0) AG)) (An _))
   (AU (Aa (i:=2) NO.nd rfl (Or.inl rfl) (AQ A5 (AQ A5 (AQ C6 (AQ Bi (Ct KC (pv 0) (pv 1) (λ_ _=>rfl)) (AQ Yr AH AH)) AH) (pv 1)) AH))) B2)
  (AU (Ak (AQ Bi (AQ C6 (AQ Bi (AQ C6 (pv 2) AH) AH) AH) AH)))),?_⟩
 refine⟨_,rfl,_,_,rfl,rfl,_,rfl,_,rfl,a,_,rfl,.inl hS,_,_,rfl,rfl,_,rfl,?_⟩;have fin:∀x:Int,Mf (BM (rI (λ_ j=>0<j) λi j=>.int (i % j)) (BM (rI Gh λi j=>.int (i*j)) (BM (rI (λ_ j=>0<j) λi j=>.int (i % j)) (BM (rI Gh λi j=>.int (i*j)) (Au 2) (tC (.int 40692))) (tC (.int 2147483629))) (tC (.int 48271))) (tC (.int 2147483587)))
   { nx:=λ_ H'=>Q .Aj H',rt:=Q } [some (.ref a),some (.int k),some (.int x)] H:=λx =>
  ⟨_,rfl,_,_,rfl,rfl,.inr ⟨by decide,by decide⟩,_,_,rfl,rfl,(show(0:Int)<2147483629 by decide),_,_,rfl,rfl,.inr ⟨by decide,by decide⟩,_,_,rfl,rfl,(show(0:Int)<2147483587 by decide),q _ ⟨dZ _ (by decide),dE _ (by decide)⟩⟩
 by_cases hk:k<(((ns.map V.int).length:Nat):Int)
 ·refine Bl hk ?_;rw[cf] at hk;have hk':k.toNat<ns.length:=by omega
  have e:BI (ns.map V.int) ((k.toNat:Nat):Int)=some (.int ns[k.toNat]):=Aq (by rw[cu,cg hk']; rfl);rw[show((k.toNat:Nat):Int)=k by omega] at e;refine⟨_,rfl,_,rfl,a,_,_,_,rfl,rfl,hS,e,_,_,rfl,rfl,⟨by decide,by decide,by decide⟩,_,_,rfl,rfl,(show(0:Int)<10 ^ ((18:Int).toNat) by decide),_,_,rfl,rfl,.inr ⟨by decide,by decide⟩,_,rfl,_,_,rfl,rfl,_,_,rfl,rfl,fin _⟩
 ·exact Bj hk (fin _)
inductive Q6(vs:List V)(H:Hp)(Q:VK):Prop
 | mk (t b:Int) (h_0:vs=[.int t,.int b]) (h_1:0<b) (h_2:BV b) (h_3:S6 H Q ((t:Rat) / (b:Rat))):Q6 vs H Q
def HG:Sp:=λvs H Q _=>Q6 vs H Q
theorem K8:Ar ["_law_top","_law_bottom","_law_one","_law_other"] ["_law_top","_law_bottom"] (Ah sLow):=Av
theorem Yn(a:Int):(if a<0 then -a else a)=(a.natAbs:Int):=by split <;> omega
theorem V8{x y:Int}(hy:0<y):Int.gcd y (x % y)=Int.gcd x y:=by
 have:=Ow x y
 rwa [Int.fmod_eq_emod_of_nonneg x (Int.le_of_lt hy)] at this
theorem Y6(F:Fun K "_law_low" "_law_low" sLow f fd)(ma:mg "abs" = none):AL P w K mg base AK 1 f fd ["_law_top","_law_bottom"] HG:=by
 refine F.ok K8 (λvs H Q E h=>?_) (λcdv A outer s H vs Q E hr h=>?_)
 ·obtain⟨t,b,rfl,_⟩:=h;rfl
 obtain⟨t,b,rfl,hb,bb,q⟩:=h;refine⟨_,AS (Aa (i:=2) K8.nd rfl (Or.inl rfl) (As Ou (by rfl) ma Yi (AA (pv 0) AG)))
  (AS (Aa (i:=3) K8.nd rfl (Or.inl rfl) (pv 1))
  (AS (Oy dv (A4 GU (pv 3) AH (An _)) (AU (YD (i:=2) (j:=3) rfl K8.nd rfl rfl (by decide) rfl rfl (AA (pv 3) (AA (AQ Bi (pv 2) (pv 3)) AG)) rfl)))
  (AU (Ak (Ao (AA (AQ Hu (pv 0) (pv 2)) (AA (AQ Hu (pv 1) (pv 2)) AG))))))),?_⟩
 refine⟨_,rfl,t,rfl,_,rfl,?_⟩;rw[Yn];refine Ov (λσ H2=>∃x y,σ=[some (.int t),some (.int b),some (.int x),some (.int y)]/\H2=H/\0<=x/\0<=y/\Int.gcd x y=Int.gcd t b) (λσ _=>match σ with | [_,_,_,some (.int y)]=>y.natAbs | _=>0) ⟨_,_,rfl,rfl,by omega,by omega,by unfold Int.gcd; simp⟩ ?_ ?_
 ·rintro σ H2 ⟨x,y,rfl,rfl,x0,y0,gg⟩;refine⟨_,rfl,rfl,_,rfl,?_⟩;by_cases hy:y=0
  ·refine SA (iv hy) ?_;subst hy;have gx:x=(Int.gcd t b:Int):=by
    have:=QZ gg
    rw[if_neg (by omega)] at this;exact this
   have pe:Mth.part t b=x:=by unfold Mth.part; rw[if_neg (by omega),gx]
   have gp:0<Int.gcd t b:=Mth.KL t b (by omega);have hx:IH t x:=⟨by omega,by rw[<-pe]; exact Nat.lt_of_le_of_lt (QS t b (by omega)) bb⟩;have ef:=Gy t b (by omega);unfold A0 at ef;rw[pe] at ef;have e1:=congrArg Prod.fst ef;have e2:=congrArg Prod.snd ef;simp only at e1 e2;refine⟨_,rfl,_,rfl,_,_,rfl,rfl,hx,_,rfl,_,rfl,_,_,rfl,rfl,hx,by exact sz2,?_⟩
   (try dsimp only)
   rw[e1,e2];exact q
  ·refine RX (E8 hy) ?_;have yp:0<y:=by omega
   have m0:=dZ x (Int.ne_of_gt yp);have m1:=dE x yp;refine⟨_,rfl,_,rfl,_,rfl,_,_,rfl,rfl,yp,_,_,rfl,⟨y,x % y,rfl,rfl,y0,m0,(V8 yp).trans gg⟩,?_⟩;show(x % y).natAbs<y.natAbs;omega
 ·rintro σ H2 Q1 Q2 hq ⟨v,e,sc,b,eb,z⟩;exact⟨v,e,sc,b,eb,hq _ _ z⟩
theorem cI(p q:Rat):0<(p.den:Int)*(q.den:Int):=by
 have hp:=p.den_nz;have hq:=q.den_nz;exact Int.mul_pos (by omega) (by omega)
theorem Z5(p q:Rat):(((p.num*q.num:Int)):Rat) / (((p.den:Int)*(q.den:Int):Int):Rat)=p*q:=by
 have h:=Yt p q;rw[Gy _ _ (Tr p q)] at h;exact Yp h
theorem bH:Ar ["_law_one","_law_other"] ["_law_one","_law_other"] (Ah sLMul):=Av
theorem Xr(F:Fun K "_law_mul" "_law_mul" sLMul f fd)(G:AL P w K mg base AK 1 g gd ["_law_top","_law_bottom"] HG)(bG:Af K gd ["_law_top","_law_bottom"] [])(kG:KP K g)(mG:mg "_law_low" = some (.ref g)):
  AL P w K mg base AK 2 f fd ["_law_one","_law_other"] (JF λx y=>x*y):=by
 refine F.ok bH (λvs H Q E h=>?_) (λcdv A outer s H vs Q E hr h=>?_)
 ·obtain⟨p,q,x,y,rfl,_⟩:=h;rfl
 obtain⟨p,q,x,y,rfl,hp,hq,sx,sy,k⟩:=h;refine⟨_,AU (Ak (Ac G hr (by rfl) mG kG bG .nil Ad (AA (AQ KJ (Ct Du (pv 0) AH (λ_ _=>rfl)) (Ct Du (pv 1) AH (λ_ _=>rfl)))
  (AA (AQ KJ (Ct Du (pv 0) AH (λ_ _=>rfl)) (Ct Du (pv 1) AH (λ_ _=>rfl))) AG)))),?_⟩
 refine⟨_,rfl,p,_,_,_,rfl,rfl,AO.of hp,Gv,_,rfl,q,_,_,_,rfl,rfl,AO.of hq,Gv,_,_,rfl,rfl,⟨sx.n,sy.n⟩,
  _,rfl,p,_,_,_,rfl,rfl,AO.of hp,E6,_,rfl,q,_,_,_,rfl,rfl,AO.of hq,E6,_,_,rfl,rfl,⟨sx.d,sy.d⟩,_,_,rfl,cI x y,Sf.dd sx sy,?_⟩
 rw[Z5];exact k
open Fl
def BE(H:Hp)(p:Addr)(b:AB):Prop:=H p=some (.AF (Cm b))
theorem Em:Mo BE:=λs h=>s _ _ h
theorem Fj{H:Hp}{p:Addr}(hp:H p=none)(a b c d:Int):∃H',AE H p (.AF [.int a,.int b,.int c,.int d])=H'/\AN H H'/\BE H' p (a,b,c,d):=⟨_,rfl,AR hp _,AM⟩
theorem HI{H H':Hp}{a:Addr}{bs:List AB}(s:AN H H')(h:Ax BE H a bs):Ax BE H' a bs:=HD (R:=BE) (λs h=>Em s h) s h
theorem Parts.swap{b p q:AB}(h:Parts b [p,q]):Parts b [q,p]:=by
 have pm:[q,p].Perm [p,q]:=List.Perm.swap _ _ _;exact⟨λx hx=>h.ok x (pm.subset hx),λx hx=>h.inn x (pm.subset hx),λx y=>by rw[pm.countP_eq]; exact h.one x y⟩
variable {f3:Addr} {d3:FuncData}
theorem Q3{H : Hp}{Q : VK}{b : AB}(q : ∀l ps H', AN H H' → Ax BE H' l ps → Parts b ps → ps.length = 2 → Q (.ref l) H'){a1 b1 c1 d1 a2 b2 c2 d2 : Int}(pt : Parts b [(a1, b1, c1, d1), (a2, b2, c2, d2)]): ∀p, H p = none → ∀p2, (AE H p (.AF [.int a1, .int b1, .int c1, .int d1])) p2 = none → ∀p3, (AE (AE H p (.AF [.int a1, .int b1, .int c1, .int d1])) p2 (.AF [.int a2, .int b2, .int c2, .int d2])) p3 = none →
      Q (.ref p3) (AE (AE (AE H p (.AF [.int a1, .int b1, .int c1, .int d1])) p2 (.AF [.int a2, .int b2, .int c2, .int d2])) p3 (.AD [.ref p, .ref p2])) := by
  intro p hp p2 hp2 p3 hp3;obtain⟨H1, e1, s1, g1⟩ := Fj hp a1 b1 c1 d1;rw[e1] at hp2 hp3 ⊢;obtain⟨H2, e2, s2, g2⟩ := Fj hp2 a2 b2 c2 d2;rw[e2] at hp3 ⊢;have s3 := AR hp3 (.AD [.ref p, .ref p2]);exact q p3 [(a1, b1, c1, d1), (a2, b2, c2, d2)] _ (s1.trans (s2.trans s3)) ⟨[p, p2], AM, (At.nil.snoc (R := BE) (b := p) (x := (a1, b1, c1, d1)) ((s2.trans s3) _ _ g1)).snoc (b := p2) (x := (a2, b2, c2, d2)) (s3 _ _ g2)⟩ pt rfl
inductive RL(D:AB->Prop)(vs:List V)(H:Hp)(Q:VK):Prop
 | mk (p:Addr) (b:AB) (c:Int) (h_0:vs=[.ref p,.int c]) (h_1:BE H p b) (h_2:tB b) (h_3:D b) (h_4:∀l ps H',AN H H'->Ax BE H' l ps->Parts b ps->ps.length=2->Q (.ref l) H'):RL D vs H Q
def IL(D:AB->Prop):Sp:=λvs H Q _=>RL D vs H Q
theorem IU:Ar ["_law_box","_law_cell_here","_law_left","_law_low_here","_law_right","_law_high","_law_place"] ["_law_box","_law_cell_here"] (Ah s_law_across):=Av
theorem IP:Ar ["_law_box","_law_cell_here","_law_left","_law_low_here","_law_right","_law_high","_law_place"] ["_law_box","_law_cell_here"] (Ah s_law_down):=Av
set_option maxHeartbeats 4000000 in
theorem Vf(F:Fun K "_law_across" "_law_across" s_law_across f fd):AL P w K mg base AK 1 f fd ["_law_box","_law_cell_here"] (IL λb=>1<b.u-b.d):=by
 refine F.ok IU (λvs H Q E h=>?_) (λcdv A outer s H vs Q E hr h=>?_)
 ·obtain⟨p,b,c,rfl,_⟩:=h;rfl
 obtain⟨pb,⟨l,d,r,u⟩,c,rfl,hb,⟨t1,t2⟩,h2,q⟩:=h;dsimp only[AB.l,AB.d,AB.r,AB.u] at t1 t2 h2;refine⟨_,AS (Fp (pv 0) (Ca (K:=K) rfl (Ai (AV (i:=2) IU.nd rfl (Or.inl rfl)) (Ai (AV (i:=3) IU.nd rfl (Or.inl rfl)) (Ai (AV (i:=4) IU.nd rfl (Or.inl rfl)) (Ai (AV (i:=5) IU.nd rfl (Or.inl rfl)) CS))))))
  (AS (Aa (i:=6) IU.nd rfl (Or.inl rfl) (AQ A5 (AQ A5 (pv 3) AH) (AQ Bi (pv 1) (AQ B4 (AQ B4 (pv 5) (pv 3)) AH))))
  (AU (Ak (B3 (AA (Ao (AA (pv 2) (AA (pv 6) (AA (pv 4) (AA (pv 5) AG))))) (AA (Ao (AA (pv 2) (AA (pv 3) (AA (pv 4) (AA (pv 6) AG))))) AG)))))),?_⟩
 have hb':H pb=some (.AF [.int l,.int d,.int r,.int u]):=hb;refine⟨_,rfl,pb,_,rfl,AO.of hb',rfl,_,_,rfl,_,_,rfl,_,_,rfl,_,_,rfl,rfl,?_⟩;refine⟨_,rfl,_,_,rfl,rfl,_,rfl,_,rfl,_,rfl,_,_,rfl,rfl,_,_,rfl,rfl,_,_,rfl,rfl,(show(0:Int)<u-d-1 by omega),_,_,rfl,rfl,?_⟩;have m0:=dZ c (show u-d-1≠0 by omega);have m1:=dE c (show 0<u-d-1 by omega);generalize c % (u-d-1)=m at *;refine⟨_,rfl,_,rfl,_,rfl,_,rfl,by exact DO,λp hp=>⟨_,rfl,_,rfl,_,rfl,_,rfl,by exact DO,λp2 hp2=>⟨by exact sz2,λp3 hp3=>?_⟩⟩⟩;exact Q3 q (Parts.swap (Z1 (b:=(l,d,r,u)) (by show d<d+1+m; omega) (by show d+1+m<u; omega) t1)) p hp p2 hp2 p3 hp3
set_option maxHeartbeats 4000000 in
theorem XS(F:Fun K "_law_down" "_law_down" s_law_down f fd):AL P w K mg base AK 1 f fd ["_law_box","_law_cell_here"] (IL λb=>1<b.r-b.l):=by
 refine F.ok IP (λvs H Q E h=>?_) (λcdv A outer s H vs Q E hr h=>?_)
 ·obtain⟨p,b,c,rfl,_⟩:=h;rfl
 obtain⟨pb,⟨l,d,r,u⟩,c,rfl,hb,⟨t1,t2⟩,h2,q⟩:=h;dsimp only[AB.l,AB.d,AB.r,AB.u] at t1 t2 h2;refine⟨_,AS (Fp (pv 0) (Ca (K:=K) rfl (Ai (AV (i:=2) IP.nd rfl (Or.inl rfl)) (Ai (AV (i:=3) IP.nd rfl (Or.inl rfl)) (Ai (AV (i:=4) IP.nd rfl (Or.inl rfl)) (Ai (AV (i:=5) IP.nd rfl (Or.inl rfl)) CS))))))
  (AS (Aa (i:=6) IP.nd rfl (Or.inl rfl) (AQ A5 (AQ A5 (pv 2) AH) (AQ Bi (pv 1) (AQ B4 (AQ B4 (pv 4) (pv 2)) AH))))
  (AU (Ak (B3 (AA (Ao (AA (pv 2) (AA (pv 3) (AA (pv 6) (AA (pv 5) AG))))) (AA (Ao (AA (pv 6) (AA (pv 3) (AA (pv 4) (AA (pv 5) AG))))) AG)))))),?_⟩
 have hb':H pb=some (.AF [.int l,.int d,.int r,.int u]):=hb;refine⟨_,rfl,pb,_,rfl,AO.of hb',rfl,_,_,rfl,_,_,rfl,_,_,rfl,_,_,rfl,rfl,?_⟩;refine⟨_,rfl,_,_,rfl,rfl,_,rfl,_,rfl,_,rfl,_,_,rfl,rfl,_,_,rfl,rfl,_,_,rfl,rfl,(show(0:Int)<r-l-1 by omega),_,_,rfl,rfl,?_⟩;have m0:=dZ c (show r-l-1≠0 by omega);have m1:=dE c (show 0<r-l-1 by omega);generalize c % (r-l-1)=m at *;refine⟨_,rfl,_,rfl,_,rfl,_,rfl,by exact DO,λp hp=>⟨_,rfl,_,rfl,_,rfl,_,rfl,by exact DO,λp2 hp2=>⟨by exact sz2,λp3 hp3=>?_⟩⟩⟩;exact Q3 q (aJ (b:=(l,d,r,u)) (by show l<l+1+m; omega) (by show l+1+m<r; omega) t2) p hp p2 hp2 p3 hp3
def HQ(s:Int)(b:AB):AB:=(s-b.r,b.d,s-b.l,b.u)
theorem Wk{s x y:Int}{b:AB}:Bg x y (HQ s b)=Bg (s-1-x) y b:=by
 rw[fc,CJ,CJ];dsimp only[HQ,AB.l,AB.d,AB.r,AB.u];omega
theorem Parts.bo{b:AB}{ps:List AB}(h:Parts b ps):Parts b (ps.map (HQ (b.l+b.r))):=by
 refine⟨λp hp=>?_,λp hp=>?_,λx y=>?_⟩
 ·obtain⟨q,hq,rfl⟩:=cT.mp hp
  have:=h.ok q hq
  dsimp only[HQ,AB.l,AB.d,AB.r,AB.u] at *;omega
 ·obtain⟨q,hq,rfl⟩:=cT.mp hp
  have:=h.inn q hq
  dsimp only[HQ,AB.l,AB.d,AB.r,AB.u] at *;omega
 ·rw[List.countP_map,List.countP_congr (q:=Bg (b.l+b.r-1-x) y) (λp _=>by rw[Function.comp_apply,Wk]),h.one]
  have:Bg (b.l+b.r-1-x) y b=Bg x y b:=by
   rw[fc,CJ,CJ]; omega
  rw[this]
inductive SG(vs:List V)(H:Hp)(Q:VK):Prop
 | mk (p:Addr) (b:AB) (c:Int) (h_0:vs=[.ref p,.int c]) (h_1:BE H p b) (h_2:2<b.r-b.l) (h_3:2<b.u-b.d) (h_4:∀l ps H',AN H H'->Ax BE H' l ps->Parts b ps->ps.length=5->Q (.ref l) H'):SG vs H Q
def Mn:Sp:=λvs H Q _=>SG vs H Q
theorem ES:Ar ["_law_box","_law_cell_here","_law_left","_law_low_here","_law_right","_law_high","_law_one","_law_two","_law_three","_law_four","_law_made"] ["_law_box","_law_cell_here"] (Ah s_law_wheel):=Av
theorem aU:(["_law_box","_law_left","_law_right"]:List Str).Nodup:=by decide +kernel
theorem cJ(b:AB):BI (Cm b) 0=some (.int b.l):=Aq (j:=0) rfl
theorem cM(b:AB):BI (Cm b) 1=some (.int b.d):=Aq (j:=1) rfl
theorem bw(b:AB):BI (Cm b) 2=some (.int b.r):=Aq (j:=2) rfl
theorem cK(b:AB):BI (Cm b) 3=some (.int b.u):=Aq (j:=3) rfl
seal L2.Bu L2.PS L2.PE L2.PA in
set_option maxHeartbeats 8000000 in
theorem Wo(F:Fun K "_law_wheel" "_law_wheel" s_law_wheel f fd):AL P w K mg base AK 1 f fd ["_law_box","_law_cell_here"] Mn:=by
 refine F.ok ES (λvs H Q E h=>?_) (λcdv A outer s H vs Q E hr h=>?_)
 ·obtain⟨p,b,c,rfl,_⟩:=h;rfl
 obtain⟨pb,⟨l,d,r,u⟩,c,rfl,hb,h3,h4,q⟩:=h;dsimp only[AB.l,AB.d,AB.r,AB.u] at h3 h4;refine⟨_,AS (Fp (pv 0) (Ca (K:=K) rfl (Ai (AV (i:=2) ES.nd rfl (Or.inr rfl)) (Ai (AV (i:=3) ES.nd rfl (Or.inl rfl)) (Ai (AV (i:=4) ES.nd rfl (Or.inr rfl)) (Ai (AV (i:=5) ES.nd rfl (Or.inl rfl)) CS))))))
  (AS (Aa (i:=6) ES.nd rfl (Or.inl rfl) (AQ A5 (AQ A5 (pv 2) AH) (AQ Bi (pv 1) (AQ B4 (AQ B4 (pv 4) (pv 2)) AH))))
  (AS (Aa (i:=7) ES.nd rfl (Or.inl rfl) (AQ A5 (AQ A5 (pv 6) AH) (AQ Bi (AQ DU (pv 1) AH) (AQ B4 (AQ B4 (pv 4) (pv 6)) AH))))
  (AS (Aa (i:=8) ES.nd rfl (Or.inl rfl) (AQ A5 (AQ A5 (pv 3) AH) (AQ Bi (AQ DU (pv 1) AH) (AQ B4 (AQ B4 (pv 5) (pv 3)) AH))))
  (AS (Aa (i:=9) ES.nd rfl (Or.inl rfl) (AQ A5 (AQ A5 (pv 8) AH) (AQ Bi (AQ DU (pv 1) AH) (AQ B4 (AQ B4 (pv 5) (pv 8)) AH))))
  (AS (Aa (i:=10) ES.nd rfl (Or.inl rfl) (B3 (AA (Ao (AA (pv 2) (AA (pv 3) (AA (pv 7) (AA (pv 8) AG))))) (AA (Ao (AA (pv 7) (AA (pv 3) (AA (pv 4) (AA (pv 9) AG)))))
   (AA (Ao (AA (pv 6) (AA (pv 9) (AA (pv 4) (AA (pv 5) AG))))) AG)))))
  (AS (Aa (i:=10) ES.nd rfl (Or.inl rfl) (AQ Eo (pv 10) (B3 (AA (Ao (AA (pv 2) (AA (pv 8) (AA (pv 6) (AA (pv 5) AG))))) (AA (Ao (AA (pv 6) (AA (pv 8) (AA (pv 7) (AA (pv 9) AG))))) AG)))))
  (AS (Bk (A4 Ci (AQ Bi (AQ DU (pv 1) AH) AH) AH (An _))
   (AU (Gw (i:=10) ES.nd rfl (Or.inl rfl) (Nc:=["_law_box","_law_left","_law_right"]) (cap:=[(1,2),(2,4)]) (g:=BG 0) (te:=K3 (BQ (BM (Ea λi j=>.int (i-j)) (BM (Ea λi j=>.int (i+j)) (Au 1) (Au 2)) (BM (E2 K) (Au 0) (tC (.int 2)))) (BQ (BM (E2 K) (Au 0) (tC (.int 1))) (BQ (BM (Ea λi j=>.int (i-j)) (BM (Ea λi j=>.int (i+j)) (Au 1) (Au 2)) (BM (E2 K) (Au 0) (tC (.int 0)))) (BQ (BM (E2 K) (Au 0) (tC (.int 3))) B7))))) rfl (Cu (K:=K) (pv 10))
    (B1 rfl rfl (by decide +kernel) (by decide +kernel) (cy.mpr ⟨⟨rfl,rfl⟩,cy.mpr ⟨⟨rfl,rfl⟩,cQ _⟩⟩) rfl (cy.mpr ⟨⟨_,_,rfl,rfl,rfl,rfl,rfl⟩,cy.mpr ⟨⟨_,_,rfl,rfl,rfl,rfl,rfl⟩,cQ _⟩⟩))
    (λ_ _ _ _ _=>AV (i:=0) aU rfl (Or.inl rfl)) (λ_ _ _ _ _=>Ao (AA (AQ B4 (AQ A5 (pv 1) (pv 2)) (pT K (pv 0) AH)) (AA (pT K (pv 0) AH) (AA (AQ B4 (AQ A5 (pv 1) (pv 2)) (pT K (pv 0) AH)) (AA (pT K (pv 0) AH) AG))))))) B2)
  (AU (Ak (pv 10)))))))))),?_⟩
 have hb':H pb=some (.AF [.int l,.int d,.int r,.int u]):=hb;refine⟨_,rfl,pb,_,rfl,AO.of hb',rfl,_,_,rfl,_,_,rfl,_,_,rfl,_,_,rfl,rfl,?_⟩;refine⟨_,rfl,_,_,rfl,rfl,_,rfl,_,rfl,_,rfl,_,_,rfl,rfl,_,_,rfl,rfl,_,_,rfl,rfl,(show(0:Int)<r-l-2 by omega),_,_,rfl,rfl,?_⟩;dsimp only;have m0:=dZ c (show r-l-2≠0 by omega);have m1:=dE c (show 0<r-l-2 by omega);generalize c % (r-l-2)=m at *;obtain⟨x,ex⟩:∃x,x=l+1+m:=⟨_,rfl⟩;rw[<-ex];refine⟨_,rfl,_,_,rfl,rfl,_,rfl,_,_,rfl,rfl,⟨by decide,by decide⟩,_,rfl,_,rfl,_,_,rfl,rfl,_,_,rfl,rfl,_,_,rfl,rfl,(show(0:Int)<r-x-1 by omega),_,_,rfl,rfl,?_⟩;dsimp only;have n0:=dZ (c / 7) (show r-x-1≠0 by omega);have n1:=dE (c / 7) (show 0<r-x-1 by omega);generalize c / 7 % (r-x-1)=n at *;obtain⟨fa,ef⟩:∃y,y=x+1+n:=⟨_,rfl⟩;rw[<-ef];refine⟨_,rfl,_,_,rfl,rfl,_,rfl,_,_,rfl,rfl,⟨by decide,by decide⟩,_,rfl,_,rfl,_,_,rfl,rfl,_,_,rfl,rfl,_,_,rfl,rfl,(show(0:Int)<u-d-2 by omega),_,_,rfl,rfl,?_⟩;dsimp only;have o0:=dZ (c / 3) (show u-d-2≠0 by omega);have o1:=dE (c / 3) (show 0<u-d-2 by omega);generalize c / 3 % (u-d-2)=o at *;obtain⟨y,ey⟩:∃y,y=d+1+o:=⟨_,rfl⟩;rw[<-ey];refine⟨_,rfl,_,_,rfl,rfl,_,rfl,_,_,rfl,rfl,⟨by decide,by decide⟩,_,rfl,_,rfl,_,_,rfl,rfl,_,_,rfl,rfl,_,_,rfl,rfl,(show(0:Int)<u-y-1 by omega),_,_,rfl,rfl,?_⟩;dsimp only;have v0:=dZ (c / 11) (show u-y-1≠0 by omega);have v1:=dE (c / 11) (show 0<u-y-1 by omega);generalize c / 11 % (u-y-1)=v at *;obtain⟨up,eu⟩:∃z,z=y+1+v:=⟨_,rfl⟩;rw[<-eu];refine⟨_,rfl,_,rfl,_,rfl,_,rfl,by exact DO,λp1 hp1=>?_⟩;obtain⟨H1,e1,s1,g1⟩:=Fj hp1 l d fa y;rw[e1];refine⟨_,rfl,_,rfl,_,rfl,_,rfl,by exact DO,λp2 hp2=>?_⟩;obtain⟨H2,e2,s2,g2⟩:=Fj hp2 fa d r up;rw[e2];refine⟨_,rfl,_,rfl,_,rfl,_,rfl,by exact DO,λp3 hp3=>?_⟩;obtain⟨H3,e3,s3,g3⟩:=Fj hp3 x up r u;rw[e3];refine⟨by exact CB,λp5 hp5=>?_⟩;have s5:=AR hp5 (.AD [.ref p1,.ref p2,.ref p3]);have g5:(AE H3 p5 (.AD [.ref p1,.ref p2,.ref p3])) p5=some (.AD [.ref p1,.ref p2,.ref p3]):=AM;generalize AE H3 p5 (.AD [.ref p1,.ref p2,.ref p3])=H5 at s5 g5;refine⟨_,rfl,?_⟩;refine⟨_,rfl,_,rfl,_,rfl,_,rfl,by exact DO,λp4 hp4=>?_⟩;obtain⟨H4,e4,s4,g4⟩:=Fj hp4 l y x u;rw[e4];refine⟨_,rfl,_,rfl,_,rfl,_,rfl,by exact DO,λp6 hp6=>?_⟩;obtain⟨H6,e6,s6,g6⟩:=Fj hp6 x y fa up;rw[e6];refine⟨by exact sz2,λp7 hp7=>?_⟩;have s7:=AR hp7 (.AD [.ref p4,.ref p6]);have g7:(AE H6 p7 (.AD [.ref p4,.ref p6])) p7=some (.AD [.ref p4,.ref p6]):=AM;generalize AE H6 p7 (.AD [.ref p4,.ref p6])=H7 at s7 g7;refine⟨p5,p7,_,_,rfl,rfl,(s4.trans (s6.trans s7)) _ _ g5,g7,by exact sz5,λp8 hp8=>?_⟩;have s8:=AR hp8 (.AD ([.ref p1,.ref p2,.ref p3]++[.ref p4,.ref p6]));have g8:(AE H7 p8 (.AD ([.ref p1,.ref p2,.ref p3]++[.ref p4,.ref p6]))) p8=some (.AD ([p1,p2,p3,p4,p6].map V.ref)):=AM;generalize AE H7 p8 (.AD ([.ref p1,.ref p2,.ref p3]++[.ref p4,.ref p6]))=H8 at s8 g8;have t6:=s7.trans s8;have t4:=s6.trans t6;have t3:=s5.trans (s4.trans t4);have hC:At BE H8 [p1,p2,p3,p4,p6] [(l,d,fa,y),(fa,d,r,up),(x,up,r,u),(l,y,x,u),(x,y,fa,up)] :=
  ((((At.nil.snoc (R:=BE) (b:=p1) (x:=(l,d,fa,y)) ((s2.trans (s3.trans t3)) _ _ g1)).snoc (b:=p2) (x:=(fa,d,r,up)) ((s3.trans t3) _ _ g2)).snoc (b:=p3) (x:=(x,up,r,u)) (t3 _ _ g3)).snoc (b:=p4) (x:=(l,y,x,u)) (t4 _ _ g4)).snoc (b:=p6) (x:=(x,y,fa,up)) (t6 _ _ g6)
 have pt:=Z4 (b:=(l,d,r,u)) (x:=x) (f:=fa) (y:=y) (u:=up) (by show l<x; omega) (by omega) (by show fa<r; omega) (by show d<y; omega) (by omega) (by show up<u; omega);have s08:=s1.trans (s2.trans (s3.trans t3));dsimp only[AB.l,AB.d,AB.r,AB.u] at pt;generalize ebs:[(l,d,fa,y),(fa,d,r,up),(x,up,r,u),(l,y,x,u),(x,y,fa,up)]=bs at hC pt;have lb:bs.length=5:=by rw[<-ebs]; rfl
 generalize [p1,p2,p3,p4,p6]=cs at g8 hC;have lc:cs.length=5:=by rw[hC.1,lb]
 refine⟨_,rfl,_,_,rfl,rfl,⟨by decide,by decide⟩,_,_,rfl,rfl,(show(0:Int)<2 by decide),rfl,_,rfl,?_⟩;refine Ga (λ_=>?_) (λ_=>⟨_,rfl,q p8 bs H8 s08 ⟨cs,g8,hC⟩ pt lb⟩);refine⟨_,rfl,p8,rfl,⟨_,AJ.of g8⟩,λacc hacc=>?_⟩;refine Cf (Fh g8) (by rw[cf]; omega) hacc (λi ys σ hp=>∃ds:List Addr,ys=ds.map V.ref/\At BE hp ds ((bs.map (HQ (l+r))).take i)/\∃u,σ=[u,some (.int l),some (.int r)]) ⟨[],rfl,At.nil,none,rfl⟩ ?_ ?_
 ·rintro i ys σ H9 x9 H10 hi sm hac ⟨ds,rfl,hD,u9,rfl⟩ ⟨rfl,hx⟩ Cc hCc;obtain⟨cb,b,rfl,_,hbi,hB⟩:=hC.ref hx;have hB9:H10 cb=some (.AF (Cm b)):=sm _ _ hB;refine⟨_,rfl,_,rfl,_,_,rfl,rfl,_,rfl,cb,_,_,_,rfl,rfl,AO.of hB9,bw b,_,_,rfl,rfl,_,rfl,cb,_,_,_,rfl,rfl,AO.of hB9,cM b,_,rfl,_,rfl,_,_,rfl,rfl,_,rfl,cb,_,_,_,rfl,rfl,AO.of hB9,cJ b,_,_,rfl,rfl,_,rfl,cb,_,_,_,rfl,rfl,AO.of hB9,cK b,by exact DO,λp9 hp9=>?_⟩;obtain⟨H11,e11,s11,g11⟩:=Fj hp9 (l+r-b.r) b.d (l+r-b.l) b.u;rw[e11];have ne:p9≠acc:=λz=>by rw[z,hac] at hp9; cases hp9
  refine hCc _ _ _ s11 ⟨ds++[p9],by simp,?_,_,rfl⟩;rw[BO (x:=HQ (l+r) b) (by rw[cu,hbi]; rfl)];exact(hD.keep Em (FD acc s11)).snoc (show BE _ p9 _ from Fn g11 ne)
 rintro ys σ2 H9 s9 hac hl9 ⟨ds,rfl,hD,u9,rfl⟩;rw[cf,lc,dC (by rw[cf,lb]; exact cR _)] at hD;exact⟨_,rfl,q acc _ H9 (s08.trans s9) ⟨ds,hac,hD.keep Em (EE H9 acc)⟩ (Parts.bo pt) (by rw[cf,lb])⟩
end
end My
namespace My
open PySem L2 Mth Wd Fl
theorem Rm{T R:Prop}(m:T->R)(r:T):R:=m r
theorem MP{c:TT}{t u rest:TS}{D:ET}{σ:L2.St}{H:Hp}(C:L2.St->Hp->Prop)(hr:∀σ' H',C σ' H'->rest D σ' H')(hi:∀nx:L2.St->Hp->Prop,(∀σ' H',C σ' H'->nx σ' H')->NS c t u { D with nx:=nx } σ H):Mt (NS c t u) rest D σ H:=hi (rest D) hr
theorem QB(c:Int){n:Nat}(h:0<n):∃t:Nat,c % (n:Int)=(t:Int)/\t<n :=
 ⟨(c % (n:Int)).toNat,by have:=dZ c (show(n:Int)≠0 by omega); omega,by have:=dE c (show 0<(n:Int) by omega); omega⟩
theorem U4{α:Type}{bs:List α}{i:Nat}{b:α}(h:bs[i]?=some b):bs=bs.take i++b :: bs.drop (i+1):=by
 obtain⟨hi,rfl⟩:=cm.mp h;rw[<-List.drop_eq_getElem_cons hi,fL]
section
variable {K:PySem.W.Frag} {σ:L2.St} {H:Hp} {Q:VK} {v i j:Nat} {l:Addr} {bs:List AB} {ti tj tm:TE}
theorem QW (hv:σ[v]?=some (some (.ref l))) (hB:Ax BE H l bs) (hi:i<=bs.length) (ei:∀H' (R:VK),R (.int (i:Int)) H'->ti σ H' R)
  (q:∀p cs H',AN H H'->H' p=some (.AD (cs.map V.ref))->At BE H' cs (bs.take i)->Q (.ref p) H'):NX (K5 K) (Au v) MA (MZ ti) σ H Q:=by
 obtain⟨cs,hl,hC⟩:=hB;have lc:cs.length=bs.length:=hC.1;refine⟨_,hv,ei _ _ ⟨_,rfl,l,_,rfl,AJ.of hl,λp hp=>?_⟩⟩;rw[Il _ (show i<=(cs.map V.ref).length by rw[cf]; omega),<-List.map_take];exact q p _ _ (AR hp _) AM ((hC.take i).keep Em (AR hp _))
theorem QY (hv:σ[v]?=some (some (.ref l))) (hB:Ax BE H l bs) (hi:i<=bs.length) (ei:∀H' (R:VK),R (.int (i:Int)) H'->ti σ H' R)
  (q:∀p cs H',AN H H'->H' p=some (.AD (cs.map V.ref))->At BE H' cs (bs.drop i)->Q (.ref p) H'):NX (K5 K) (Au v) (MZ ti) MA σ H Q:=by
 obtain⟨cs,hl,hC⟩:=hB;have lc:cs.length=bs.length:=hC.1;refine⟨_,hv,ei _ _ ⟨_,rfl,l,_,rfl,AJ.of hl,λp hp=>?_⟩⟩;rw[J3 _ (show i<=(cs.map V.ref).length by rw[cf]; omega),<-List.map_drop];exact q p _ _ (AR hp _) AM ((hC.drop i).keep Em (AR hp _))
theorem MO {p1 p2:Addr} {c1 c2:List Addr} {b1 b2:List AB} (g1:H p1=some (.AD (c1.map V.ref))) (h1:At BE H c1 b1) (g2:H p2=some (.AD (c2.map V.ref))) (h2:At BE H c2 b2) (n:b1.length+b2.length<=1000)
  (q:∀p H',AN H H'->H' p=some (.AD ((c1++c2).map V.ref))->At BE H' (c1++c2) (b1++b2)->Q (.ref p) H'):Mv (.ref p1) (.ref p2) H Q:=by
 refine⟨p1,p2,_,_,rfl,rfl,g1,g2,by rw[cf,cf]; have:=h1.1; have:=h2.1; exact GW (by omega),λp3 hp3=>?_⟩;rw[<-List.map_append];exact q p3 _ (AR hp3 _) AM ((h1.Nk h2).keep Em (AR hp3 _))
end
theorem WC{A B ps:List AB}(j:Nat):(A++ps.drop j++B++ps.take j).Perm (A++ps++B):=by
 rw[List.append_assoc,List.append_assoc,List.append_assoc];refine List.Perm.append_left A ?_;have e:ps++B=ps.take j++(ps.drop j++B):=by rw[<-List.append_assoc,fL]
 rw[e,<-List.append_assoc];exact List.perm_append_comm
structure Bt(W U:Int)(bs:List AB):Prop where
 t:BH W U bs
 b:∀b∈bs,tB b
 n:0<bs.length
 m:bs.length<=14
theorem Bt.Ni{W U:Int}{bs ps:List AB}{b:AB}{t:Nat}(h:Bt W U bs)(e:bs[t]?=some b)(p:Parts b ps)(p0:0<ps.length)(pm:ps.length+bs.length<=15)(j:Nat):Bt W U (bs.take t++ps.drop j++bs.drop (t+1)++ps.take j):=by
 have es:=U4 e;have pr:=WC (A:=bs.take t) (B:=bs.drop (t+1)) (ps:=ps) j;have t1:t<bs.length:=(cm.mp e).1;have ln:(bs.take t++ps.drop j++bs.drop (t+1)++ps.take j).length=t+ps.length+(bs.length-(t+1)):=by
  rw[pr.length_eq,cX,cX,dm,dN]; omega
 refine⟨(BH.Ni (es ▸ h.t) p).JX pr,λx hx=>?_,by omega,by omega⟩;rcases cS.mp (pr.subset hx) with z | z
 ·rcases cS.mp z with z | z
  ·exact h.b x (List.mem_of_mem_take z)
  ·exact p.ok x z
 ·exact h.b x (List.mem_of_mem_drop z)
section
variable {P:Program} {w:World} {K:PySem.W.Frag} {mg:Str->Option Value} {base:Heap} {f g h f1 f2 f3:Addr} {fd gd hd d1 d2 d3:FuncData}
inductive RC(vs:List V)(H:Hp)(Q:VK):Prop
 | mk (a:Addr) (bs:List AB) (c W U:Int) (h_0:vs=[.ref a,.int c,.int 14]) (h_1:Ax BE H a bs) (h_2:Bt W U bs) (h_3:∀l bs' H',AN H H'->Ax BE H' l bs'->Bt W U bs'->Q (.ref l) H'):RC vs H Q
def MV:Sp:=λvs H Q _=>RC vs H Q
theorem E3:Ar ["_law_boxes_here","_law_cell_here","_law_most","_law_at","_law_left","_law_low_here","_law_right","_law_high","_law_made","_law_by"] ["_law_boxes_here","_law_cell_here","_law_most"] (Ah s_law_cut):=Av
seal L2.Bu L2.PS L2.PE L2.PA in
set_option maxHeartbeats 8000000 in
theorem YY (F:Fun K "_law_cut" "_law_cut" s_law_cut f fd) (G1:AL P w K mg base AK 1 f1 d1 ["_law_box","_law_cell_here"] Mn) (b1:Af K d1 ["_law_box","_law_cell_here"] []) (k1:KP K f1) (m1:mg "_law_wheel" = some (.ref f1))
  (G2:AL P w K mg base AK 1 f2 d2 ["_law_box","_law_cell_here"] (IL λb=>1<b.u-b.d)) (b2:Af K d2 ["_law_box","_law_cell_here"] []) (k2:KP K f2) (m2:mg "_law_across" = some (.ref f2))
  (G3:AL P w K mg base AK 1 f3 d3 ["_law_box","_law_cell_here"] (IL λb=>1<b.r-b.l)) (b3:Af K d3 ["_law_box","_law_cell_here"] []) (k3:KP K f3) (m3:mg "_law_down" = some (.ref f3)) (ml:mg "len" = none) :
  AL P w K mg base AK 2 f fd ["_law_boxes_here","_law_cell_here","_law_most"] MV:=by
 refine F.ok E3 (λvs H Q E h=>?_) (λcdv A outer s H vs Q E hr h=>?_)
 ·obtain⟨a,bs,c,W,U,rfl,_⟩:=h;rfl
 obtain⟨a,bs,c,W,U,rfl,⟨cs,hl,hC⟩,bt,q⟩:=h;refine⟨_,AS (Aa (i:=3) E3.nd rfl (Or.inl rfl) (AQ Bi (AQ DU (pv 1) AH) (As (Bo (K:=K)) (by rfl) ml Bh (AA (pv 0) AG))))
  (AS (Fp (pL K (pv 0) (pv 3)) (Ca (K:=K) rfl (Ai (AV (i:=4) E3.nd rfl (Or.inl rfl)) (Ai (AV (i:=5) E3.nd rfl (Or.inl rfl)) (Ai (AV (i:=6) E3.nd rfl (Or.inl rfl)) (Ai (AV (i:=7) E3.nd rfl (Or.inl rfl)) CS))))))
  (AS (Aa (i:=8) E3.nd rfl (Or.inl rfl) (B3 (AA (pL K (pv 0) (pv 3)) AG)))
  (AS (Bk (PW.pt (DY (A4 Ci (AQ Bi (pv 1) AH) AH (An _)) (DY (A4 FL (AQ B4 (pv 6) (pv 4)) AH (An _)) (DY (A4 FL (AQ B4 (pv 7) (pv 5)) AH (An _)) (HA (A4 IK (AQ A5 (As (Bo (K:=K)) (by rfl) ml Bh (AA (pv 0) AG)) AH) (pv 2) (An _)))))))
    (AU (Aa (i:=8) E3.nd rfl (Or.inl rfl) (Ac G1 hr (by rfl) m1 k1 b1 .nil Ad (AA (pL K (pv 0) (pv 3)) (AA (AQ DU (pv 1) AH) AG)))))
    (AU (Bk (PW.pt (DY (A4 Ci (AQ Bi (AQ Bi (pv 1) AH) AH) AH (An _)) (DY (A4 FL (AQ B4 (pv 7) (pv 5)) AH (An _)) (HA (A4 GQ (As (Bo (K:=K)) (by rfl) ml Bh (AA (pv 0) AG)) (pv 2) (An _))))))
     (AU (Aa (i:=8) E3.nd rfl (Or.inl rfl) (Ac G2 hr (by rfl) m2 k2 b2 .nil Ad (AA (pL K (pv 0) (pv 3)) (AA (AQ DU (pv 1) AH) AG)))))
     (AU (Bk (PW.pt (DY (A4 FL (AQ B4 (pv 6) (pv 4)) AH (An _)) (HA (A4 GQ (As (Bo (K:=K)) (by rfl) ml Bh (AA (pv 0) AG)) (pv 2) (An _)))))
      (AU (Aa (i:=8) E3.nd rfl (Or.inl rfl) (Ac G3 hr (by rfl) m3 k3 b3 .nil Ad (AA (pL K (pv 0) (pv 3)) (AA (AQ DU (pv 1) AH) AG))))) B2)))))
  (AS (Aa (i:=9) E3.nd rfl (Or.inl rfl) (AQ Bi (AQ DU (pv 1) AH) (As (Bo (K:=K)) (by rfl) ml Bh (AA (pv 8) AG))))
  (AU (Ak (AQ Eo (AQ Eo (AQ Eo (Eg (Ho (K:=K)) (pv 0) FG (EG (pv 3))) (Eg (Ho (K:=K)) (pv 8) (EG (pv 9)) FG)) (Eg (Ho (K:=K)) (pv 0) (EG (AQ A5 (pv 3) AH)) FG)) (Eg (Ho (K:=K)) (pv 8) FG (EG (pv 9)))))))))),?_⟩
 have lc:cs.length=bs.length:=hC.1;have b0:=bt.n;have b12:=bt.m;refine⟨_,rfl,_,_,rfl,rfl,⟨by decide,by decide⟩,_,rfl,a,_,rfl,.inl (AJ.of hl),_,_,rfl,rfl,by rw[cf,lc]; omega,?_⟩;rw[cf,lc];dsimp only;obtain⟨t,et,tl⟩:=QB (c / 4) b0;rw[et];have hy:bs[t]?=some bs[t]:=cg tl;obtain⟨cb,hcb,fb⟩:=hC.get hy;generalize bs[t]=b at hy fb;have tb:tB b:=bt.b b (cq hy);obtain⟨l,d,r,u⟩:=b;have fb':H cb=some (.AF [.int l,.int d,.int r,.int u]):=fb;have at_:BI (cs.map V.ref) (t:Int)=some (.ref cb):=Aq (P7 hcb)
 refine⟨_,rfl,_,rfl,a,_,_,_,rfl,rfl,AJ.of hl,at_,cb,_,rfl,AO.of fb',rfl,_,_,rfl,_,_,rfl,_,_,rfl,_,_,rfl,rfl,?_⟩;refine⟨_,rfl,_,rfl,a,_,_,_,rfl,rfl,AJ.of hl,at_,by exact sz1,λp1 hp1=>?_⟩;have s1:=AR hp1 (.AD [.ref cb]);have g1:(AE H p1 (.AD [.ref cb])) p1=some (.AD [.ref cb]):=AM;generalize AE H p1 (.AD [.ref cb])=H1 at s1 g1;have hl1:=s1 _ _ hl;have fb1:BE H1 cb (l,d,r,u):=s1 _ _ fb;have ln:(((cs.map V.ref).length:Nat):Int)=(bs.length:Int):=by rw[cf,lc]
 dsimp only[tB,AB.l,AB.d,AB.r,AB.u] at tb;unfold BG;dsimp only;refine MP (λσ H2=>∃(lm:Addr) (ps:List AB),σ=[some (.ref a),some (.int c),some (.int 14),some (.int (t:Int)),some (.int l),some (.int d),some (.int r),some (.int u),some (.ref lm),none]/\AN H H2/\Ax BE H2 lm ps/\Parts (l,d,r,u) ps/\0<ps.length/\ps.length+bs.length<=15) ?_ λnx hn=>?_
 ·rintro σ H2 ⟨lm,ps,rfl,s2,hP,pt,p0,pm⟩;obtain⟨ds,hd,hD⟩:=id hP;have ld:ds.length=ps.length:=hD.1;refine⟨_,rfl,_,_,rfl,rfl,⟨by decide,by decide⟩,_,rfl,lm,_,rfl,.inl (AJ.of hd),_,_,rfl,rfl,by rw[cf,ld]; omega,?_⟩;rw[cf,ld];dsimp only;obtain⟨j,ej,jl⟩:=QB (c / 16) p0;rw[ej];have hB2:Ax BE H2 a bs:=HI s2 ⟨cs,hl,hC⟩;refine QW (v:=0) (i:=t) rfl hB2 (by omega) (λH' R z=>⟨_,rfl,z⟩) λq1 c1 H3 s3 g3 h3=>?_
  refine QY (v:=8) (i:=j) rfl (HI s3 hP) (by omega) (λH' R z=>⟨_,rfl,z⟩) λq2 c2 H4 s4 g4 h4=>?_
  refine MO (s4 _ _ g3) (h3.keep Em s4) g4 h4 (by rw[dm,dN]; omega) λq3 H5 s5 g5 h5=>?_
  have s25:=s3.trans (s4.trans s5);refine QY (v:=0) (i:=t+1) rfl (HI s25 hB2) (by omega) (λH' R z=>⟨_,rfl,_,_,rfl,rfl,z⟩) λq4 c4 H6 s6 g6 h6=>?_
  refine MO (s6 _ _ g5) (h5.keep Em s6) g6 h6 (by rw[cX,dm,dN,dN]; omega) λq5 H7 s7 g7 h7=>?_
  have s57:=s6.trans s7;refine QW (v:=8) (i:=j) rfl (HI (s25.trans s57) hP) (by omega) (λH' R z=>⟨_,rfl,z⟩) λq6 c6 H8 s8 g8 h8=>?_
  refine MO (s8 _ _ g7) (h7.keep Em s8) g8 h8 (by rw[cX,cX,dm,dN,dN,dm]; omega) λq7 H9 s9 g9 h9=>?_
  exact q q7 _ H9 (s2.trans (s25.trans (s57.trans (s8.trans s9)))) ⟨_,g9,h9⟩ (bt.Ni hy pt p0 pm j)
 refine⟨_,rfl,_,_,rfl,rfl,(show(0:Int)<4 by decide),rfl,_,rfl,?_⟩;apply Rm
 case m =>
  intro rest;refine Ga (λ_=>⟨_,rfl,_,rfl,_,_,rfl,rfl,_,_,rfl,rfl,_,rfl,?_⟩) (λ_=>rest);by_cases z1:(2:Int)<r-l
  ·refine Bl z1 ⟨_,rfl,_,rfl,_,_,rfl,rfl,_,_,rfl,rfl,_,rfl,?_⟩;by_cases z2:(2:Int)<u-d
   ·refine Bl z2 ⟨_,rfl,a,_,rfl,.inl (AJ.of hl1),_,_,rfl,rfl,_,rfl,_,_,rfl,rfl,_,rfl,?_⟩;by_cases z3:((cs.map V.ref).length:Int)+4<=14
    ·refine Bl z3 ?_;rw[ln] at z3;refine⟨_,rfl,_,rfl,a,_,_,_,rfl,rfl,AJ.of hl1,at_,_,rfl,_,_,rfl,rfl,⟨by decide,by decide⟩,cb,(l,d,r,u),_,rfl,fb1,z1,z2,λlm ps H2 s2 hP pt p5=>hn _ _ ⟨lm,ps,rfl,s1.trans s2,hP,pt,by omega,by omega⟩⟩
    ·exact Bj z3 rest
   ·exact Bj z2 rest
  ·exact Bj z1 rest
 refine⟨_,rfl,_,_,rfl,rfl,(show(0:Int)<4 by decide),_,_,rfl,rfl,(show(0:Int)<2 by decide),rfl,_,rfl,?_⟩;apply Rm
 case m =>
  intro rest;refine Ga (λ_=>⟨_,rfl,_,rfl,_,_,rfl,rfl,_,_,rfl,rfl,_,rfl,?_⟩) (λ_=>rest);by_cases z1:(1:Int)<u-d
  ·refine Bl z1 ⟨_,rfl,a,_,rfl,.inl (AJ.of hl1),_,rfl,_,_,rfl,rfl,_,rfl,?_⟩;by_cases z3:((cs.map V.ref).length:Int)<14
   ·refine Bl z3 ?_;rw[ln] at z3;refine⟨_,rfl,_,rfl,a,_,_,_,rfl,rfl,AJ.of hl1,at_,_,rfl,_,_,rfl,rfl,⟨by decide,by decide⟩,cb,(l,d,r,u),_,rfl,fb1,tb,z1,λlm ps H2 s2 hP pt p5=>hn _ _ ⟨lm,ps,rfl,s1.trans s2,hP,pt,by omega,by omega⟩⟩
   ·exact Bj z3 rest
  ·exact Bj z1 rest
 refine⟨_,rfl,_,rfl,_,_,rfl,rfl,_,_,rfl,rfl,_,rfl,?_⟩;have one:=hn _ H1 ⟨p1,[(l,d,r,u)],rfl,s1,⟨[cb],g1,At.nil.snoc (R:=BE) (b:=cb) (x:=(l,d,r,u)) fb1⟩,VS tb.1 tb.2,by show 0<1; decide,by show 1+_<=15; omega⟩;by_cases z1:(1:Int)<r-l
 ·refine Bl z1 ⟨_,rfl,a,_,rfl,.inl (AJ.of hl1),_,rfl,_,_,rfl,rfl,_,rfl,?_⟩;by_cases z3:((cs.map V.ref).length:Int)<14
  ·refine Bl z3 ?_;rw[ln] at z3;refine⟨_,rfl,_,rfl,a,_,_,_,rfl,rfl,AJ.of hl1,at_,_,rfl,_,_,rfl,rfl,⟨by decide,by decide⟩,cb,(l,d,r,u),_,rfl,fb1,tb,z1,λlm ps H2 s2 hP pt p5=>hn _ _ ⟨lm,ps,rfl,s1.trans s2,hP,pt,by omega,by omega⟩⟩
  ·exact Bj z3 one
 ·exact Bj z1 one
end
theorem Rh(c:Int):∃v:Int,BI [V.int 6,.int 9,.int 12,.int 200] (c % 4)=some (.int v)/\6<=v/\v<=200:=by
 have h0:=dZ c (show(4:Int)≠0 by decide);have h1:=dE c (show(0:Int)<4 by decide);generalize c % 4=z at *;rcases(show z=0\/z=1\/z=2\/z=3 by omega) with rfl | rfl | rfl | rfl
 ·exact⟨6,Aq (j:=0) rfl,by decide,by decide⟩
 ·exact⟨9,Aq (j:=1) rfl,by decide,by decide⟩
 ·exact⟨12,Aq (j:=2) rfl,by decide,by decide⟩
 ·exact⟨200,Aq (j:=3) rfl,by decide,by decide⟩
section
variable {P:Program} {w:World} {K:PySem.W.Frag} {mg:Str->Option Value} {base:Heap} {f g h f1 f2 f3:Addr} {fd gd hd d1 d2 d3:FuncData}
inductive Rw(K:PySem.W.Frag)(vs:List V)(H:Hp)(Q:VK):Prop
 | mk (a:Addr) (ns:List Int) (h_0:vs=[.ref a,.int 1,.int 14]) (h_1:Nm K H a ns) (h_2:∀p l W U bs H',AN H H'->H' p=some (.AF [.int W,.int U,.ref l])->Ax BE H' l bs->Bt W U bs->1<=W->W<=200->1<=U->U<=200->Q (.ref p) H'):Rw K vs H Q
def NM(K:PySem.W.Frag):Sp:=λvs H Q _=>Rw K vs H Q
theorem IW:Ar ["_law_script","_law_first","_law_most","_law_wide","_law_high","_law_boxes_here","_law_k"] ["_law_script","_law_first","_law_most"] (Ah s_law_boxes):=Av
seal L2.Bu L2.PS L2.PE L2.PA in
set_option maxHeartbeats 8000000 in
theorem Zn (F:Fun K "_law_boxes" "_law_boxes" s_law_boxes f fd) (G1:AL P w K mg base AK 1 f1 d1 ["_law_script","_law_k"] (Iy K)) (b1:Af K d1 ["_law_script","_law_k"] []) (k1:KP K f1) (m1:mg "_law_cell" = some (.ref f1))
  (G2:AL P w K mg base AK 2 f2 d2 ["_law_boxes_here","_law_cell_here","_law_most"] MV) (b2:Af K d2 ["_law_boxes_here","_law_cell_here","_law_most"] []) (k2:KP K f2) (m2:mg "_law_cut" = some (.ref f2)) (ml:mg "len" = none) (mn:mg "min" = none) (mr:mg "range" = none) :
  AL P w K mg base AK 3 f fd ["_law_script","_law_first","_law_most"] (NM K):=by
 refine F.ok IW (λvs H Q E h=>?_) (λcdv A outer s H vs Q E hr h=>?_)
 ·obtain⟨a,ns,rfl,_⟩:=h;rfl
 obtain⟨a,ns,rfl,⟨hS,hn⟩,q⟩:=h;have r1:=hr.mono (show 1<=2 by decide);refine⟨_,AS (Aa (i:=3) IW.nd rfl (Or.inl rfl) (AQ A5 AH (AQ Bi (Ac G1 r1 (by rfl) m1 k1 b1 .nil Ad (AA (pv 0) (AA (pv 1) AG))) (pL K (B3 (AA AH (AA AH (AA AH (AA AH AG))))) (AQ Bi (Ac G1 r1 (by rfl) m1 k1 b1 .nil Ad (AA (pv 0) (AA (AQ A5 (pv 1) AH) AG))) AH)))))
  (AS (Aa (i:=4) IW.nd rfl (Or.inl rfl) (AQ A5 AH (AQ Bi (Ac G1 r1 (by rfl) m1 k1 b1 .nil Ad (AA (pv 0) (AA (AQ A5 (pv 1) AH) AG))) (pL K (B3 (AA AH (AA AH (AA AH (AA AH AG))))) (AQ Bi (AQ DU (Ac G1 r1 (by rfl) m1 k1 b1 .nil Ad (AA (pv 0) (AA (AQ A5 (pv 1) AH) AG))) AH) AH)))))
  (AS (Aa (i:=5) IW.nd rfl (Or.inl rfl) (B3 (AA (Ao (AA AH (AA AH (AA (pv 3) (AA (pv 4) AG))))) AG)))
  (AS (Bv dv rfl (Jt (by rfl) mr (AA (AQ A5 (pv 1) AH) (AA (As (LZ rfl) (by rfl) mn ID (AA (As (Bo (K:=K)) (by rfl) ml Bh (AA (pv 0) AG)) (AA (AQ A5 (AQ A5 (pv 1) AH) (pv 2)) AG))) AG))) (AV (i:=6) IW.nd rfl (Or.inl rfl))
   (AU (Aa (i:=5) IW.nd rfl (Or.inl rfl) (Ac G2 hr (by rfl) m2 k2 b2 .nil Ad (AA (pv 5) (AA (Ac G1 r1 (by rfl) m1 k1 b1 .nil Ad (AA (pv 0) (AA (pv 6) AG))) (AA (pv 2) AG)))))))
  (AU (Ak (Ao (AA (pv 3) (AA (pv 4) (AA (pv 5) AG))))))))),?_⟩
 refine⟨_,rfl,_,rfl,a,ns,1,rfl,⟨hS,hn⟩,by decide,λz1 _=>?_⟩;refine⟨by exact DO,λp1 hp1=>?_⟩;have s1:=AR hp1 (.AD [V.int 6,.int 9,.int 12,.int 200]);have g1:(AE H p1 (.AD [V.int 6,.int 9,.int 12,.int 200])) p1=some (.AD [V.int 6,.int 9,.int 12,.int 200]):=AM;generalize AE H p1 (.AD [V.int 6,.int 9,.int 12,.int 200])=H1 at s1 g1;refine⟨_,rfl,_,rfl,_,_,rfl,rfl,a,ns,_,rfl,⟨s1.seq hS,hn⟩,by decide,λz2 _=>?_⟩;obtain⟨v,ev,v6,v200⟩:=Rh z2;refine⟨_,_,rfl,rfl,(show(0:Int)<4 by decide),p1,_,_,_,rfl,rfl,AJ.of g1,ev,_,_,rfl,rfl,(show(0:Int)<v by omega),_,_,rfl,rfl,?_⟩;have w0:=dZ z1 (show v≠0 by omega);have w1:=dE z1 (show 0<v by omega);dsimp only;obtain⟨W,eW⟩:∃W,W=1+z1 % v:=⟨_,rfl⟩;rw[<-eW];refine⟨_,rfl,_,rfl,_,_,rfl,rfl,a,ns,_,rfl,⟨s1.seq hS,hn⟩,by decide,λz3 _=>?_⟩;refine⟨by exact DO,λp2 hp2=>?_⟩;have s2:=AR hp2 (.AD [V.int 6,.int 9,.int 12,.int 200]);have g2:(AE H1 p2 (.AD [V.int 6,.int 9,.int 12,.int 200])) p2=some (.AD [V.int 6,.int 9,.int 12,.int 200]):=AM;generalize AE H1 p2 (.AD [V.int 6,.int 9,.int 12,.int 200])=H2 at s2 g2;have s02:=s1.trans s2;refine⟨_,rfl,_,rfl,_,_,rfl,rfl,a,ns,_,rfl,⟨s02.seq hS,hn⟩,by decide,λz4 _=>?_⟩;obtain⟨v',ev',v6',v200'⟩:=Rh (z4 / 4);refine⟨_,_,rfl,rfl,⟨by decide,by decide⟩,_,_,rfl,rfl,(show(0:Int)<4 by decide),p2,_,_,_,rfl,rfl,AJ.of g2,ev',_,_,rfl,rfl,(show(0:Int)<v' by omega),_,_,rfl,rfl,?_⟩;have u0:=dZ z3 (show v'≠0 by omega);have u1:=dE z3 (show 0<v' by omega);dsimp only;obtain⟨U,eU⟩:∃U,U=1+z3 % v':=⟨_,rfl⟩;rw[<-eU];refine⟨_,rfl,_,rfl,by exact DO,λp3 hp3=>?_⟩;obtain⟨H3,e3,s3,g3⟩:=Fj hp3 0 0 W U;rw[e3];refine⟨by exact sz1,λp4 hp4=>?_⟩;have s4:=AR hp4 (.AD [.ref p3]);have g4:(AE H3 p4 (.AD [.ref p3])) p4=some (.AD [.ref p3]):=AM;generalize AE H3 p4 (.AD [.ref p3])=H4 at s4 g4;have s04:=s02.trans (s3.trans s4);have W0:0<W:=by omega
 have U0:0<U:=by omega
 have ln:(((ns.map V.int).length:Nat):Int)<=63:=by rw[cf]; omega
 refine⟨_,rfl,_,_,rfl,rfl,_,rfl,a,_,rfl,.inl (s04.seq hS),_,rfl,_,_,rfl,rfl,_,rfl,_,_,rfl,rfl,_,_,rfl,_,_,rfl,⟨by decide,by decide,by split <;> omega,by split <;> omega⟩,?_⟩;refine FA (λi σ H5=>AN H H5/\∃(l:Addr) (bs:List AB) (u6:Option V),σ=[some (.ref a),some (.int 1),some (.int 14),some (.int W),some (.int U),some (.ref l),u6]/\Ax BE H5 l bs/\Bt W U bs)
  ⟨s04,p4,[(0,0,W,U)],none,rfl,⟨[p3],g4,At.nil.snoc (R:=BE) (b:=p3) (x:=(0,0,W,U)) (s4 _ _ g3)⟩,Us W0 U0,λb hb=>by rw[cW.mp hb]; exact⟨W0,U0⟩,by show 0<1; decide,by show 1<=14; decide⟩ ?_ ?_
 ·rintro i σ H5 hi ⟨s5,l,bs,u6,rfl,hB,bt⟩;refine⟨_,rfl,_,rfl,_,rfl,a,ns,_,rfl,⟨s5.seq hS,hn⟩,by omega,λz _=>?_⟩;exact⟨_,rfl,l,bs,z,W,U,rfl,hB,bt,λl' bs' H6 s6 hB' bt'=>⟨s5.trans s6,l',bs',_,rfl,hB',bt'⟩⟩
 ·rintro σ H5 ⟨s5,l,bs,u6,rfl,hB,bt⟩;refine⟨_,rfl,_,rfl,_,rfl,by exact CB,λp hp=>?_⟩;have s6:=AR hp (.AF [.int W,.int U,.ref l]);exact q p l W U bs _ (s5.trans s6) AM (HI s6 hB) bt (by omega) (by omega) (by omega) (by omega)
inductive R8(vs:List V)(H:Hp)(Q:VK):Prop
 | mk (c:Int) (h_0:vs=[.int c]) (h_1:∀(T B:Int) p H',AN H H'->1<=T->T<=9999->1<=B->B<=999->Ag H' p ((T:Rat) / (B:Rat))->Q (.ref p) H'):R8 vs H Q
def M9:Sp:=λvs H Q _=>R8 vs H Q
theorem ao:Ar ["_law_cell_here"] ["_law_cell_here"] (Ah s_law_share):=Av
theorem aT{H:Hp}{p:Addr}(h:H p=some (.AF [.int 1,.int 1])):Ag H p (((1:Int):Rat) / ((1:Int):Rat)):=by
 have e:(((1:Int):Rat) / ((1:Int):Rat))=1:=by grind
 rw[e]; exact h
theorem Zt(F:Fun K "_law_share" "_law_share" s_law_share f fd)(G:AL P w K mg base AK 1 g gd ["_law_top","_law_bottom"] HG)(bG:Af K gd ["_law_top","_law_bottom"] [])(kG:KP K g)(mG:mg "_law_low" = some (.ref g)):
  AL P w K mg base AK 2 f fd ["_law_cell_here"] M9:=by
 refine F.ok ao (λvs H Q E h=>?_) (λcdv A outer s H vs Q E hr h=>?_)
 ·obtain⟨c,rfl,_⟩:=h;rfl
 obtain⟨c,rfl,q⟩:=h;refine⟨_,AS (Bk (A4 Ci (AQ Bi (pv 0) AH) AH (An _)) (AU (Ak (Ao (AA AH (AA AH AG))))) B2)
  (AU (Ak (Ac G hr (by rfl) mG kG bG .nil Ad (AA (AQ A5 AH (AQ Bi (AQ DU (pv 0) AH) AH)) (AA (AQ A5 AH (AQ Bi (AQ C6 (AQ DU (pv 0) AH) AH) AH)) AG))))),?_⟩
 refine⟨_,rfl,_,_,rfl,rfl,(show(0:Int)<2 by decide),rfl,_,rfl,?_⟩;refine Ga (λ_=>⟨by exact sz2,λp hp=>q 1 1 p _ (AR hp _) (by decide) (by decide) (by decide) (by decide) (aT AM)⟩) (λ_=>?_);refine⟨_,rfl,_,_,rfl,rfl,⟨by decide,by decide⟩,_,_,rfl,rfl,(show(0:Int)<9999 by decide),_,_,rfl,rfl,_,rfl,_,_,rfl,rfl,⟨by decide,by decide⟩,_,_,rfl,rfl,.inr ⟨by decide,by decide⟩,_,_,rfl,rfl,(show(0:Int)<999 by decide),_,_,rfl,rfl,?_⟩;have a0:=dZ (c / 2) (show(9999:Int)≠0 by decide);have a1:=dE (c / 2) (show(0:Int)<9999 by decide);have b0:=dZ (c / 2*48271) (show(999:Int)≠0 by decide);have b1:=dE (c / 2*48271) (show(0:Int)<999 by decide);refine⟨_,_,rfl,by omega,DE (n:=10) (by omega) (by decide),λp hp=>q _ _ p _ (AR hp _) (by omega) (by omega) (by omega) (by omega) AM⟩
open PySem.Spec PyProof.Rows Ln
theorem J1{β:Type}{x:Str}{b:β}:∀{l:List (Str×β)},l.lookup x=some b->(x,b)∈l
 | [],h=>by cases h
 | (y,c) :: l,h=>by
  rw[List.lookup_cons] at h;split at h
  ·rename_i z
   cases h;rw[eq_of_beq z];exact dr ..
  ·exact da _ (J1 h)
theorem PQ {X:Cx} {scope:Scope} {cl:List (Str×Addr)} {N:List Str} {js:List Nat} (clos:closureFor scope X.env=pure cl) (kind:scope.kind=.function) (co:scope.isCoroutine=false) (gen:scope.isGenerator=false)
  (hl:N.length=js.length) (nm:∀p∈N.zip js,∃c,X.N[p.2]?=some p.1/\scope.names.lookup p.1=some .free/\cl.lookup p.1=some c/\X.env.cells.lookup p.1=some c/\X.env.scope.names.lookup p.1=some .cell)
  (sub:∀p∈cl,X.env.cells.lookup p.1=some p.2) (nc:∀y∈scope.names,y.2≠.cell) (has:∀y∈scope.names,y.2=.free->∃c,cl.lookup y.1=some c) (own:∀x,X.fn x=true):Kr X scope cl N js:=by
 refine⟨clos,kind,co,gen,nc,λi x hi=>?_,λx c h=>sub _ (J1 h),λx h=>?_,own⟩
 ·have il:=(cm.mp hi).1;have hj:js[i]?=some js[i]:=cg (by omega);obtain⟨c,h1,h2,h3,h4,h5⟩:=nm (x,js[i]) (cq (i:=i) (by rw[List.getElem?_zip_eq_some]; exact⟨hi,hj⟩));exact⟨_,c,hj,h1,h2,h3,h4,h5⟩
 ·rcases h with h | h
  ·exact absurd rfl (nc _ (J1 h))
  ·exact has _ (J1 h) rfl
def A7(H:Hp)(p:Addr)(s:Sd):Prop:=H p=some (.AF [.int s.1,.int s.2.1,.int s.2.2])
theorem Cs:Mo A7:=λs h=>s _ _ h
def LK(b:AB):List Sd:=[(b.u,b.l,b.r),(b.d,b.l,b.r)]
def CC(w h:Int)(bs:List AB):List Sd:=[(h,0,w),(0,0,w)]++bs.flatMap LK
def Kn:Str:=(("level_sides":Str)++".<locals>.")++"<lambda>"
def D0(s:Sd):List Int:=[-s.v,s.a]
def bA:V->List V->Hp->VK->Prop:=λx _ H Q=>∃(p:Addr) (s:Sd),x=.ref p/\A7 H p s/\∀t,H t=none->Q (.ref t) (AE H t (.AF ((D0 s).map V.int)))
theorem IB{H:Hp}{L:Addr}{cs:List Addr}{ss:List Sd}{ys:List V}(h:At A7 H cs ss)(e:H L=some (.AD ys))(o:HO):At A7 (AE H L o) cs ss :=
 ⟨h.1,λi b x e1 e2=>by
  have:=h.2 i b x e1 e2
  unfold A7 at this ⊢;rw[AW (λz=>by rw[z,e] at this; cases this)];exact this⟩
theorem C4{T:Addr}{q:Str}{H H':Hp}(h:Bs H T q)(s:AN H H'):Bs H' T q:=by
 obtain⟨L,h1,h2⟩:=h;exact⟨L,s _ _ h1,λe he=>s _ _ (h2 e he)⟩
theorem KI(bs:List AB):(bs.flatMap LK).length=2*bs.length:=by
 induction bs with
 | nil=>rfl
 | cons b r ih=>rw[List.flatMap_cons,cX,ih,dM]; show 2+_=_; omega
theorem W7{α:Type}{R:Hp->Addr->α->Prop}{H:Hp}{cs:List Addr}{xs:List α}(d:α)(h:At R H cs xs){p:List Nat}(hp:∀i∈p,i<xs.length):At R H (p.map λi=>cs.getD i 0) (p.map λi=>xs.getD i d):=by
 refine⟨by rw[cf,cf],λi b x e1 e2=>?_⟩;rw[cu] at e1 e2;obtain⟨j,hj,rfl⟩:=dJ.mp e1;rw[hj] at e2;cases e2;have jl:=hp j (cq hj);have jc:j<cs.length:=by rw[h.1]; exact jl
 refine h.2 j _ _ ?_ ?_
 ·rw[cw,cg jc]; rfl
 ·show xs[j]?=some (xs.getD j d);rw[cw,cg jl]; rfl
theorem V9{cs:List Addr}{p:List Nat}(hp:∀i∈p,i<cs.length):(p.map λi=>(cs.map V.ref).getD i .Aj)=(p.map λi=>cs.getD i 0).map V.ref:=by
 rw[fg];refine fG λi hi=>?_
 have:=hp i hi
 rw[cw,cu,cg this];show V.ref _=V.ref (cs.getD i 0);rw[cw,cg this]; rfl
theorem Lb{α:Type}(xs:List α)(d:α){p:List Nat}(hp:p.Perm (List.range xs.length)):(p.map λi=>xs.getD i d).Perm xs:=by
 have e:(List.range xs.length).map (λi=>xs.getD i d)=xs:=by
  refine fY λi=>?_
  rw[cu];rcases c5 i xs.length with z | z
  ·rw[eO z,cg z]; simp[z]
  ·rw[dF (by rw[c7]; exact z),dF z]; rfl
 have:=hp.map λi=>xs.getD i d
 rw[e] at this;exact this
variable {c T:Addr}
theorem Fun.Tq {x qual:Str} {st:Stmt} {f:Addr} {fd:FuncData} {N ps:List Str} {k:Nat} {sp:Sp} (F:Fun K x qual st f fd) (S:Ar N ps (Ah st)) (len:∀vs H Q E,sp vs H Q E->vs.length=ps.length)
  (hbody:∀(A:Around) (outer:List Env) (s:Shared) (H:Hp) (vs:List V) (Q:VK) (E:XK),Be k (A.deeper (PyProof.Rows.envOfC qual (Ah st) s.heap.objs.size f fd.code))->sp vs H Q E →
   ∃t,Bu (HS AK P w K mg base N qual (Ah st) f fd.code A outer s H E).Fb (EF st) t/\t { nx:=λ_ H'=>Q .Aj H',rt:=Q } (Ft N vs) H):AL P w K mg base AK (k+1) f fd ps sp:=by
 obtain⟨oc,od,kV,doc,pm,an,cdv,ct,osl,rfl,lk,hcd⟩:=F.ex;refine RQ lk hcd S len λA outer s H vs Q E hr hsp=>?_
 obtain⟨t,h,q⟩:=hbody A outer s H vs Q E hr hsp;exact⟨t,h.Fb,q⟩
def M3(T:Addr):Sp:=λvs H Q _=>∃(wd hg:Int) (rp:Addr) (bs:List AB),vs=[.int wd,.int hg,.ref rp]/\Ax Ck H rp bs/\bs.length<=14/\Bs H T Kn /\
 ∀(D:Addr) (L:List Sd) (H':Hp),Cv T H H'->Bs H' T Kn->Ax A7 H' D L->L.Perm (CC wd hg bs)->L.Pairwise (λs t=>Al (D0 t) (D0 s)=false)->Q (.ref D) H'
theorem IX:Ar ["width","height","rectangles","sides","left","low","right","high"] ["width","height","rectangles"] (Ah s_level_sides):=Av
set_option maxHeartbeats 4000000 in
theorem Zd(F:Fun K "level_sides" "level_sides" s_level_sides f fd)(hcd:fd.code=.ref c)(hC:PySem.W.CodeHd base c T)(hB:EN mg base)(ms:mg "sorted" = none):AL P w K mg base AK 5 f fd ["width","height","rectangles"] (M3 T):=by
 refine Fun.Tq F IX (λvs H Q E h=>?_) (λA outer s H vs Q E hr h=>?_)
 ·obtain⟨wd,hg,rp,bs,rfl,_⟩:=h;rfl
 obtain⟨wd,hg,rp,bs,rfl,hL,n14,hT,q⟩:=h;refine⟨_,AS (Aa (i:=3) IX.nd rfl (Or.inl rfl) (B3 (AA (Ao (AA (pv 1) (AA AH (AA (pv 0) AG)))) (AA (Ao (AA AH (AA AH (AA (pv 0) AG)))) AG))))
  (AS (Bv dv rfl (Cu (K:=K) (pv 2)) (aK (n:=4) (K:=K) rfl (Ai (AV (i:=4) IX.nd rfl (Or.inl rfl)) (Ai (AV (i:=5) IX.nd rfl (Or.inl rfl)) (Ai (AV (i:=6) IX.nd rfl (Or.inl rfl)) (Ai (AV (i:=7) IX.nd rfl (Or.inl rfl)) CS)))))
   (AS (Cq (GV dc dG dH DT (pv 3) (AA (Ao (AA (pv 7) (AA (pv 4) (AA (pv 6) AG)))) AG)))
   (AU (Cq (GV dc dG dH DT (pv 3) (AA (Ao (AA (pv 5) (AA (pv 4) (AA (pv 6) AG)))) AG))))))
  (AU (Ak (WV (k:=1) (pn:="side") (N:=[]) (js:=[]) (cl:=[]) (rd:=bA) (T:=T) (c:=c)
    (PQ rfl rfl rfl rfl rfl (cQ _) (cQ _) (by decide +kernel) (cy.mpr ⟨(λz=>by cases z),cQ _⟩) λ_=>rfl) rfl rfl hr (by rfl) ms (pv 3) hcd hC hB rfl (λ_ _ _ _ _=>rfl)
    (λf c A outer s x vs H Q h=>⟨_,Ao (AA (FK FJ (pT K (pv 0) AH)) (AA (pT K (pv 0) AH) AG)),by
     obtain⟨p,s,rfl,hp,h⟩:=h;exact⟨_,rfl,p,_,_,_,rfl,rfl,AO.of hp,Dy _ _ _,_,rfl,_,rfl,p,_,_,_,rfl,rfl,AO.of hp,D5 _ _ _,by exact sz2,h⟩⟩))))),?_⟩
 refine⟨_,rfl,_,rfl,by exact CB,λp1 hp1=>?_⟩;have s1:=AR hp1 (.AF [.int hg,.int 0,.int wd]);have g1:A7 (AE H p1 (.AF [.int hg,.int 0,.int wd])) p1 (hg,0,wd):=AM;generalize AE H p1 (.AF [.int hg,.int 0,.int wd])=H1 at s1 g1;refine⟨_,rfl,by exact CB,λp2 hp2=>?_⟩;have s2:=AR hp2 (.AF [.int 0,.int 0,.int wd]);have g2:A7 (AE H1 p2 (.AF [.int 0,.int 0,.int wd])) p2 (0,0,wd):=AM;generalize AE H1 p2 (.AF [.int 0,.int 0,.int wd])=H2 at s2 g2;refine⟨by exact sz2,λl hl=>?_⟩;have nl:H l=none:=by
  cases z:H l with
  | none=>rfl
  | some o=>rw[s2 _ _ (s1 _ _ z)] at hl; cases hl
 have s3:=AR hl (.AD [.ref p1,.ref p2]);have g3:AE H2 l (.AD [.ref p1,.ref p2]) l=some (.AD ([p1,p2].map V.ref)):=AM;generalize AE H2 l (.AD [.ref p1,.ref p2])=H3 at s3 g3;have s03:=s1.trans (s2.trans s3);obtain⟨cs,hrp,hC⟩:=id hL;have lc:cs.length=bs.length:=hC.1;refine⟨_,rfl,rp,rfl,⟨_,AJ.of (s03 _ _ hrp)⟩,?_⟩;refine Fg (xs:=cs.map V.ref) (λi σ H4=>AN H H4/\∃(u4 u5 u6 u7:Option V) (es:List Addr),σ=[some (.int wd),some (.int hg),some (.ref rp),some (.ref l),u4,u5,u6,u7]/\H4 l=some (.AD (es.map V.ref))/\At A7 H4 es ([(hg,0,wd),(0,0,wd)]++(bs.take i).flatMap LK))
  ⟨s03,none,none,none,none,[p1,p2],rfl,g3,by simpa using (At.nil.snoc (R:=A7) (b:=p1) (x:=(hg,0,wd)) ((s2.trans s3) _ _ g1)).snoc (b:=p2) (x:=(0,0,wd)) (s3 _ _ g2)⟩ (λi σ H4 _ z=>AJ.of (z.1 _ _ hrp)) ?_ ?_
 ·rintro i x σ H4 hx ⟨s4,u4,u5,u6,u7,es,rfl,hes,hE⟩;obtain⟨b,bx,rfl,_,hb,hbx⟩:=hC.ref hx;have il:i<bs.length:=(cm.mp hb).1;have le:es.length=2+2*i:=by rw[hE.1,cX,KI,dm]; show 2+_=_; omega
  obtain⟨b0,b1,b2,b3⟩:=bx;refine⟨b,_,rfl,AJ.of (s4 _ _ hbx),rfl,_,_,rfl,_,_,rfl,_,_,rfl,_,_,rfl,rfl,?_⟩;refine⟨_,rfl,.inl ⟨rfl,_,AJ.of hes⟩,_,rfl,_,rfl,_,rfl,by exact CB,λq1 hq1=>?_⟩;have s5:=AR hq1 (.AF [.int b3,.int b0,.int b2]);have g5:A7 (AE H4 q1 (.AF [.int b3,.int b0,.int b2])) q1 (b3,b0,b2):=AM;generalize AE H4 q1 (.AF [.int b3,.int b0,.int b2])=H5 at s5 g5;refine⟨l,_,_,rfl,rfl,s5 _ _ hes,by rw[cf,sizeLine_eq]; omega,?_⟩;have s6:=DW (s4.trans s5) nl (.AD (es.map V.ref++[.ref q1]));have A6:=IB ((hE.keep Cs s5).snoc g5) (s5 _ _ hes) (.AD (es.map V.ref++[.ref q1]));have g6:AE H5 l (.AD (es.map V.ref++[.ref q1])) l=some (.AD ((es++[q1]).map V.ref)):=by rw[AM]; simp
  generalize AE H5 l (.AD (es.map V.ref++[.ref q1]))=H6 at s6 A6 g6;refine⟨_,rfl,.inl ⟨rfl,_,AJ.of g6⟩,_,rfl,_,rfl,_,rfl,by exact CB,λq2 hq2=>?_⟩;have s7:=AR hq2 (.AF [.int b1,.int b0,.int b2]);have g7:A7 (AE H6 q2 (.AF [.int b1,.int b0,.int b2])) q2 (b1,b0,b2):=AM;generalize AE H6 q2 (.AF [.int b1,.int b0,.int b2])=H7 at s7 g7;refine⟨l,_,_,rfl,rfl,s7 _ _ g6,by rw[cf,cX,sizeLine_eq,le,fm]; omega,?_⟩;refine⟨DW (s6.trans s7) nl _,_,_,_,_,es++[q1]++[q2],rfl,by rw[AM]; simp,?_⟩;have A8:=IB ((A6.keep Cs s7).snoc g7) (s7 _ _ g6) (.AD ((es++[q1]).map V.ref++[.ref q2]));rw[BO hb,List.flatMap_append];simpa [LK,AB.u,AB.l,AB.r,AB.d] using A8
 rintro σ H4 ⟨s4,u4,u5,u6,u7,es,rfl,hes,hE⟩;rw[cf,lc,eI] at hE;have lss:(CC wd hg bs).length=2+2*bs.length:=by unfold CC; rw[cX,KI]; rfl
 have hE:At A7 H4 es (CC wd hg bs):=hE;have le:es.length=(CC wd hg bs).length:=hE.1;refine⟨_,rfl,C4 hT s4,[],rfl,(λi j z=>by simp at z),λff c' H5 bt nf tb hc' hf'=>?_⟩;obtain⟨TL,hTT,_⟩:=C4 hT s4;have b5:∀{b:Addr} {o:HO},H4 b=some o->(∀z,o≠.Bw z)->H5 b=some o:=λ{b o} e n=>bt b o (λz=>by rw[z,hTT] at e; exact n _ (Option.some.inj e).symm) e
 have hes5:=b5 hes (λz y=>by cases y);have hE5:At A7 H5 es (CC wd hg bs):=⟨hE.1,λi b x e1 e2=>b5 (hE.2 i b x e1 e2) (λz y=>by cases y)⟩;refine⟨l,_,(CC wd hg bs).map D0,rfl,hes5,by rw[cf,cf,le],λr hr=>?_,by rw[cf,le,lss]; omega,λi x r e1 e2=>?_,λD p H6 op s6 nD hD=>?_⟩
 ·obtain⟨s,_,rfl⟩:=cT.mp hr;intro z; cases z
 ·obtain⟨b,sd,rfl,_,hsd,hR⟩:=hE5.ref e1;rw[cu,hsd] at e2;cases e2;exact λH7 s7 QQ hq=>⟨_,rfl,s7 _ _ hf',s7 _ _ hc',b,sd,rfl,s7 _ _ hR,λt ht=>hq t _ (AR ht _) AM⟩
 ·have pl:∀i∈p,i<(CC wd hg bs).length:=λi hi=>by have:=cZ.mp (op.1.mem_iff.mp hi); rwa [cf] at this
  refine q D (p.map λi=>(CC wd hg bs).getD i (0,0,0)) H6 (λb o n e=>s6 _ _ (bt b o n (s4 _ _ e))) (C4 tb s6) ⟨p.map λi=>es.getD i 0,?_,(W7 (0,0,0) hE5 pl).keep Cs s6⟩ (Lb _ _ (by have:=op.1; rwa [cf] at this)) ?_
  ·rw[hD,V9 (λi hi=>by rw[le]; exact pl i hi)]
  ·rw[fE];refine(fM.mp op.2).imp λ{i j} h=>?_
   obtain⟨hi,hj,h⟩:=h;have at':∀k,k∈p->((CC wd hg bs).map D0).getD k []=D0 ((CC wd hg bs).getD k (0,0,0)):=λk hk=>by
    rw[cw,cu,cw,cg (pl k hk)]; rfl
   rw[at' i hi,at' j hj] at h;exact h
theorem Jz{es:List Addr}{b:Addr}:BI ((es++[b]).map V.ref) (-1)=some (.ref b):=by
 unfold BI E7;have e:((es++[b]).map V.ref).length=es.length+1:=by simp
 rw[e,if_neg (by omega),if_pos (by omega),Option.bind_some,show((-1:Int)+((es.length+1:Nat):Int)).toNat=es.length by omega];rw[cu,ed (by omega),Nat.sub_self]; rfl
theorem WZ{es:List Addr}{b:Addr}:E7 ((es++[b]).map V.ref).length (-1)=some es.length:=by
 unfold E7;have e:((es++[b]).map V.ref).length=es.length+1:=by simp
 rw[e,if_neg (by omega),if_pos (by omega),show((-1:Int)+((es.length+1:Nat):Int)).toNat=es.length by omega]
theorem XH{α:Type}{R:Hp->Addr->α->Prop}{H:Hp}{cs:List Addr}{xs:List α}{x:α}(h:At R H cs (xs++[x])):∃es b,cs=es++[b]/\At R H es xs/\R H b x:=by
 rcases KN cs with rfl | ⟨es,b,rfl⟩
 ·have:=h.1; simp at this
 ·have l:es.length=xs.length:=by have:=h.1; simpa using this
  refine⟨es,b,rfl,⟨l,λi c y e1 e2=>h.2 i c y (by rw[d0 (cm.mp e1).1]; exact e1) (by rw[d0 (cm.mp e2).1]; exact e2)⟩,h.2 es.length b x (by simp) (by rw[l]; simp)⟩
theorem Xm(acc:List Sd)(s:Sd):(BW acc s).length<=acc.length+1:=by
 rcases KN acc with rfl | ⟨a,q,rfl⟩
 ·rw[L5]; simp
 ·rw[J8]; split <;> simp
theorem J6:∀(L acc:List Sd),(L.foldl BW acc).length<=acc.length+L.length
 | [],acc=>by simp
 | s :: L,acc=>by
  have h1:=J6 L (BW acc s);have h2:=Xm acc s;rw[List.foldl_cons,dM]; omega
theorem Yv(x y:Int):(if y > x then y else x)=max x y:=by split <;> omega
def M5:Sp:=λvs H Q _=>∃(D:Addr) (L:List Sd),vs=[.ref D]/\Ax A7 H D L/\L.length<=40/\∀l H',AN H H'->Ax A7 H' l (L.foldl BW [])->Q (.ref l) H'
theorem JR:Ar ["sides","lines","level","left","right"] ["sides"] (Ah s_lines_of):=Av
set_option maxHeartbeats 4000000 in
theorem Wv(F:Fun K "lines_of" "lines_of" s_lines_of f fd)(mx:mg "max" = none):AL P w K mg base AK 1 f fd ["sides"] M5:=by
 refine F.ok JR (λvs H Q E h=>?_) (λcdv A outer s H vs Q E hr h=>?_)
 ·obtain⟨D,L,rfl,_⟩:=h;rfl
 obtain⟨D,L,rfl,⟨cs,hD,hC⟩,n40,q⟩:=h;refine⟨_,AS (Aa (i:=1) JR.nd rfl (Or.inl rfl) (B3 AG))
  (AS (Bv dv rfl (Cu (K:=K) (pv 0)) (Ca (n:=3) (K:=K) rfl (Ai (AV (i:=2) JR.nd rfl (Or.inl rfl)) (Ai (AV (i:=3) JR.nd rfl (Or.inl rfl)) (Ai (AV (i:=4) JR.nd rfl (Or.inl rfl)) CS))))
   (AU (Bk (PW.pt (DY (Wb (pv 1) (λ_=>rfl)) (DY (A4 Ci (pT K (pL K (pv 1) (FK FJ AH)) AH) (pv 2) (An _)) (HA (A4 IK (pv 3) (pT K (pL K (pv 1) (FK FJ AH)) AH) (An _))))))
    (AU (Fp (Ao (AA (pv 2) (AA (pT K (pL K (pv 1) (FK FJ AH)) AH) (AA (As (Li rfl) (by rfl) mx MK (AA (pv 4) (AA (pT K (pL K (pv 1) (FK FJ AH)) AH) AG))) AG)))) (YX (pv 1) (FK FJ AH) WB)))
    (AU (Cq (GV dc dG dH DT (pv 1) (AA (Ao (AA (pv 2) (AA (pv 3) (AA (pv 4) AG)))) AG)))))))
  (AU (Ak (pv 1)))),?_⟩
 refine⟨by exact Hs,λl hl=>?_⟩;have s1:=AR hl (.AD []);have g1:AE H l (.AD []) l=some (.AD (([]:List Addr).map V.ref)):=AM;generalize AE H l (.AD [])=H1 at s1 g1;have lc:cs.length=L.length:=hC.1;refine⟨_,rfl,D,rfl,⟨_,AJ.of (s1 _ _ hD)⟩,?_⟩;refine Fg (xs:=cs.map V.ref) (λi σ H2=>AN H H2/\∃(u2 u3 u4:Option V) (es:List Addr),σ=[some (.ref D),some (.ref l),u2,u3,u4]/\H2 l=some (.AD (es.map V.ref))/\At A7 H2 es ((L.take i).foldl BW []))
  ⟨s1,none,none,none,[],rfl,g1,At.nil⟩ (λi σ H2 _ z=>AJ.of (z.1 _ _ hD)) ?_ ?_
 ·rintro i x σ H2 hx ⟨s2,u2,u3,u4,es,rfl,hes,hE⟩;obtain⟨b,sd,rfl,_,hsd,hb⟩:=hC.ref hx;have il:i<L.length:=(cm.mp hsd).1;have fl:=J6 (L.take i) [];rw[dm,List.length_nil] at fl;have le:=hE.1;obtain⟨v,a,z⟩:=sd;refine⟨b,_,rfl,AO.of (s2 _ _ hb),rfl,_,_,rfl,_,_,rfl,_,_,rfl,rfl,?_⟩;rw[BO hsd,List.foldl_append,List.foldl_cons,List.foldl_nil];generalize (L.take i).foldl BW []=acc at hE le fl;have more:BW acc (v,a,z)=acc++[(v,a,z)]->∀p,H2 p=none->AN H (AE (AE H2 p (.AF [.int v,.int a,.int z])) l (.AD (es.map V.ref++[.ref p])))/\∃(u2 u3 u4:Option V) (es':List Addr),[some (V.ref D),some (V.ref l),some (V.int v),some (V.int a),some (V.int z)]=[some (.ref D),some (.ref l),u2,u3,u4]/\(AE (AE H2 p (.AF [.int v,.int a,.int z])) l (.AD (es.map V.ref++[.ref p]))) l=some (.AD (es'.map V.ref))/\At A7 (AE (AE H2 p (.AF [.int v,.int a,.int z])) l (.AD (es.map V.ref++[.ref p]))) es' (BW acc (v,a,z)):=λem p hp=>by
   rw[em];have s3:=AR hp (.AF [.int v,.int a,.int z]);have g3:A7 (AE H2 p (.AF [.int v,.int a,.int z])) p (v,a,z):=AM;generalize AE H2 p (.AF [.int v,.int a,.int z])=H3 at s3 g3;exact⟨DW (s2.trans s3) hl _,_,_,_,es++[p],rfl,by rw[AM]; simp,IB ((hE.keep Cs s3).snoc g3) (s3 _ _ hes) _⟩
  have sz:(es.map V.ref).length<sizeLine:=by rw[cf,sizeLine_eq]; omega
  rcases KN acc with rfl | ⟨a0,q0,rfl⟩
  ·refine⟨_,rfl,false,.inl ⟨_,AJ.of hes,?_⟩,CO ?_⟩
   ·have:es=[]:=List.length_eq_zero_iff.mp le
    rw[this]; rfl
   ·exact⟨_,rfl,.inl ⟨rfl,_,AJ.of hes⟩,_,rfl,_,rfl,_,rfl,by exact CB,λp hp=>⟨l,_,_,rfl,rfl,AR hp _ _ _ hes,sz,more (L5 _) p hp⟩⟩
  obtain⟨ea,b0,rfl,hEa,hb0⟩:=XH hE;obtain⟨qv,qa,qz⟩:=q0;have em:¬(qv=v/\a<=qz)->BW (a0++[(qv,qa,qz)]) (v,a,z)=a0++[(qv,qa,qz)]++[(v,a,z)]:=λn=>by rw[J8]; exact if_neg n
  refine⟨_,rfl,true,.inl ⟨_,AJ.of hes,by simp⟩,FQ ?_⟩;refine⟨_,rfl,_,rfl,l,_,_,_,rfl,rfl,AJ.of hes,Jz,b0,_,_,_,rfl,rfl,AO.of hb0,Dy _ _ _,_,rfl,rfl,_,rfl,?_⟩;by_cases h1:qv=v
  case neg =>
   refine Bj (λe=>h1 (by injection e)) ?_;exact⟨_,rfl,.inl ⟨rfl,_,AJ.of hes⟩,_,rfl,_,rfl,_,rfl,by exact CB,λp hp=>⟨l,_,_,rfl,rfl,AR hp _ _ _ hes,sz,more (em λc=>h1 c.1) p hp⟩⟩
  refine Bl (by rw[h1]) ⟨_,rfl,_,rfl,_,rfl,l,_,_,_,rfl,rfl,AJ.of hes,Jz,b0,_,_,_,rfl,rfl,AO.of hb0,DD _ _ _,_,_,rfl,rfl,_,rfl,?_⟩;by_cases h2:a<=qz
  case neg =>
   refine Bj h2 ?_;exact⟨_,rfl,.inl ⟨rfl,_,AJ.of hes⟩,_,rfl,_,rfl,_,rfl,by exact CB,λp hp=>⟨l,_,_,rfl,rfl,AR hp _ _ _ hes,sz,more (em λc=>h2 c.2) p hp⟩⟩
  refine Bl h2 ?_;refine⟨_,rfl,_,rfl,_,rfl,l,_,_,_,rfl,rfl,AJ.of hes,Jz,b0,_,_,_,rfl,rfl,AO.of hb0,D5 _ _ _,_,rfl,_,rfl,_,rfl,l,_,_,_,rfl,rfl,AJ.of hes,Jz,b0,_,_,_,rfl,rfl,AO.of hb0,DD _ _ _,_,_,rfl,by exact CB,λp hp=>?_⟩;rw[Yv];have s3:=AR hp (.AF [.int v,.int qa,.int (max z qz)]);have g3:A7 (AE H2 p (.AF [.int v,.int qa,.int (max z qz)])) p (v,qa,max z qz):=AM;generalize AE H2 p (.AF [.int v,.int qa,.int (max z qz)])=H3 at s3 g3;refine⟨_,rfl,_,rfl,l,_,_,_,rfl,rfl,s3 _ _ hes,WZ,?_⟩;rw[J8,if_pos ⟨h1,h2⟩];refine⟨DW (s2.trans s3) hl _,_,_,_,ea++[p],rfl,?_,IB ((hEa.keep Cs s3).snoc g3) (s3 _ _ hes) _⟩;rw[AM];simp
 ·rintro σ H2 ⟨s2,u2,u3,u4,es,rfl,hes,hE⟩;rw[cf,lc,eI] at hE;exact⟨_,rfl,q l H2 s2 ⟨es,hes,hE⟩⟩
theorem Ys{H H':Hp}(s:AN H H'){l:Addr}{L:List Sd}(h:Ax A7 H l L):Ax A7 H' l L:=by
 obtain⟨cs,h1,h2⟩:=h;exact⟨cs,s _ _ h1,h2.keep Cs s⟩
def Bx(L:List Sd):List Sd:=[L.getD 0 (0,0,0),L.getD (L.length-1) (0,0,0)]++(L.drop 1).dropLast
def Dd(v x:Int)(l:Sd):Bool:=decide (l.v=v) && (decide (l.a<=x) && decide (x<=l.z))
def FO(P:List Sd)(v x:Int):Nat:=P.findIdx (Dd v x)
abbrev Rp:Type:=Nat×Nat×Rat
def CA(H:Hp)(p:Addr)(r:Rp):Prop:=∃q,H p=some (.AF [.int (r.1:Int),.int (r.2.1:Int),.ref q])/\Ag H q r.2.2
theorem Ew:Mo CA:=λs ⟨q,h1,h2⟩=>⟨q,s _ _ h1,s _ _ h2⟩
def DQ(P:List Sd)(b:AB):Rp:=(FO P b.u b.l,FO P b.d b.l,((b.r-b.l:Int):Rat) / ((b.u-b.d:Int):Rat))
theorem Yu{xs:List V}(h:2<=xs.length):CU xs (some 1) (some (-1))=(xs.drop 1).dropLast:=by
 have e1:HT.AY xs.length 0 (some 1)=1:=by
  simp only[HT.AY];split <;> omega
 have e2:HT.AY xs.length xs.length (some (-1))=xs.length-1:=by
  simp only[HT.AY];split <;> omega
 unfold CU;rw[e1,e2,List.dropLast_eq_take,dN]
variable {C0:Addr}
def Mu:Sp:=λvs H Q _=>∃(l:Addr) (L:List Sd),vs=[.ref l]/\Ax A7 H l L/\2<=L.length/\L.length<=40/\∀l' H',AN H H'->Ax A7 H' l' (Bx L)->Q (.ref l') H'
theorem bT:Ar ["lines"] ["lines"] (Ah s_placed):=Av
theorem Ux(F:Fun K "placed" "placed" s_placed f fd):AL P w K mg base AK 1 f fd ["lines"] Mu:=by
 refine F.ok bT (λvs H Q E h=>?_) (λcdv A outer s H vs Q E hr h=>?_)
 ·obtain⟨l,L,rfl,_⟩:=h;rfl
 obtain⟨l,L,rfl,⟨cs,hl,hC⟩,n2,n40,q⟩:=h;refine⟨_,AU (Ak (AQ Eo (B3 (AA (pL K (pv 0) AH) (AA (pL K (pv 0) (FK FJ AH)) AG))) (Eg (Ho (K:=K)) (pv 0) (EG AH) (EG (FK FJ AH))))),?_⟩;have lc:cs.length=L.length:=hC.1;obtain⟨a0,e0,h0⟩:=hC.get (show L[0]?=some (L.getD 0 (0,0,0)) by rw[cw,cg (show 0<L.length by omega)]; rfl);obtain⟨az,ez,hz⟩:=hC.get (show L[L.length-1]?=some (L.getD (L.length-1) (0,0,0)) by rw[cw,cg (show L.length-1<L.length by omega)]; rfl);have el:BI (cs.map V.ref) (-1)=some (.ref az):=by
  unfold BI E7;rw[cf,if_neg (by omega),if_pos (by omega),Option.bind_some,show((-1:Int)+(cs.length:Int)).toNat=L.length-1 by omega];exact Qv ez
 refine⟨_,rfl,l,_,_,_,rfl,rfl,AJ.of hl,Aq (j:=0) (Qv e0),_,rfl,_,rfl,l,_,_,_,rfl,rfl,AJ.of hl,el,by exact sz2,λp1 hp1=>?_⟩;have s1:=AR hp1 (.AD [.ref a0,.ref az]);have g1:AE H p1 (.AD [.ref a0,.ref az]) p1=some (.AD ([a0,az].map V.ref)):=AM;generalize AE H p1 (.AD [.ref a0,.ref az])=H1 at s1 g1;refine⟨_,rfl,_,rfl,_,rfl,_,rfl,l,_,rfl,AJ.of (s1 _ _ hl),λp2 hp2=>?_⟩;rw[Yu (by rw[cf]; omega),<-List.map_drop,<-List.map_dropLast];have s2:=AR hp2 (.AD ((cs.drop 1).dropLast.map V.ref));have g2:AE H1 p2 (.AD ((cs.drop 1).dropLast.map V.ref)) p2=some (.AD ((cs.drop 1).dropLast.map V.ref)):=AM;generalize AE H1 p2 (.AD ((cs.drop 1).dropLast.map V.ref))=H2 at s2 g2;refine⟨p1,p2,_,_,rfl,rfl,s2 _ _ g1,g2,by rw[cf,cf,List.length_dropLast,dN,sizeLine_eq]; show 2+_<=_; omega,λp3 hp3=>?_⟩;have s3:=AR hp3 (.AD ([a0,az].map V.ref++(cs.drop 1).dropLast.map V.ref));have s03:=s1.trans (s2.trans s3);refine q p3 _ s03 ⟨[a0,az]++(cs.drop 1).dropLast,by rw[AM,dh],?_⟩;have A1:At A7 H [a0,az] [L.getD 0 (0,0,0),L.getD (L.length-1) (0,0,0)]:=by simpa using (At.nil.snoc (R:=A7) h0).snoc hz
 have A2:At A7 H (cs.drop 1).dropLast (L.drop 1).dropLast:=by
  rw[List.dropLast_eq_take,List.dropLast_eq_take,dN,dN,lc];exact(hC.drop 1).take _
 exact(A1.Nk A2).keep Cs s03
def NA:Sp:=λvs H Q _=>∃(l:Addr) (L:List Sd) (v x:Int),vs=[.ref l,.int v,.int x]/\Ax A7 H l L/\(∃s∈L,Dd v x s=true)/\∀H',AN H H'->Q (.int (FO L v x:Int)) H'
theorem NG:Ar ["lines","level","x","place","line"] ["lines","level","x"] (Ah s_place_at):=Av
theorem Uo(F:Fun K "place_at" "place_at" s_place_at f fd)(me:mg "enumerate" = none):AL P w K mg base AK 1 f fd ["lines","level","x"] NA:=by
 refine F.ok NG (λvs H Q E h=>?_) (λcdv A outer s H vs Q E hr h=>?_)
 ·obtain⟨l,L,v,x,rfl,_⟩:=h;rfl
 obtain⟨l,L,v,x,rfl,⟨cs,hl,hC⟩,⟨sx,mx,tx⟩,q⟩:=h;refine⟨_,AS (Bv dv rfl (Jy (by rfl) me (AA (pv 0) AG)) (Ca (n:=2) (K:=K) rfl (Ai (AV (i:=3) NG.nd rfl (Or.inl rfl)) (Ai (AV (i:=4) NG.nd rfl (Or.inl rfl)) CS)))
   (AU (Bk (PW.pt (DY (A4 Ci (pT K (pv 4) AH) (pv 1) (An _)) (DY (A4 IK (pT K (pv 4) AH) (pv 2) (An _)) (HA (A4 IK (pv 2) (pT K (pv 4) AH) (An _)))))) (AU (Ak (pv 3))) B2)))
  (AU (Ak MH)),?_⟩
 refine⟨_,rfl,l,_,rfl,hl,?_⟩;refine Jq (xs:=cs.map V.ref) (λi σ H2=>AN H H2/\(∃u3 u4,σ=[some (.ref l),some (.int v),some (.int x),u3,u4])/\∀k s,k<i->L[k]?=some s->Dd v x s=false)
  ⟨AN.refl _,⟨none,none,rfl⟩,λ_ _ z=>absurd z (Nat.not_lt_zero _)⟩ (λi σ H2 _ ⟨s2,_⟩=>s2 _ _ hl) ?_ ?_
 ·rintro i y σ H2 p hx ⟨s2,⟨u3,u4,rfl⟩,no⟩ hp;obtain⟨c,sd,rfl,_,hy,fb⟩:=hC.ref hx;have s3:=AR hp (.AF [.int ((i:Nat):Int),.ref c]);have g3:(AE H2 p (.AF [.int ((i:Nat):Int),.ref c])) p=some (.AF [.int ((i:Nat):Int),.ref c]):=AM;generalize AE H2 p (.AF [.int ((i:Nat):Int),.ref c])=H3 at s3 g3;have s03:=s2.trans s3;have fb3:=s03 _ _ fb;obtain⟨sv,sa,sz⟩:=sd;have next:Dd v x (sv,sa,sz)=false->AN H H3/\(∃u3 u4,[some (V.ref l),some (V.int v),some (V.int x),some (V.int ((i:Nat):Int)),some (V.ref c)]=[some (.ref l),some (.int v),some (.int x),u3,u4])/\∀k s,k<i+1->L[k]?=some s->Dd v x s=false:=λe=>by
   refine⟨s03,⟨_,_,rfl⟩,λk s z1 z2=>?_⟩;rcases(show k<i\/k=i by omega) with y | rfl
   ·exact no k s y z2
   ·rw[hy] at z2; cases z2; exact e
  refine⟨p,_,rfl,AO.of g3,rfl,_,_,rfl,_,_,rfl,rfl,?_⟩;refine⟨_,rfl,c,_,_,_,rfl,rfl,AO.of fb3,Dy _ _ _,_,rfl,rfl,_,rfl,?_⟩;by_cases h1:sv=v
  case neg=>exact Bj (λe=>h1 (by injection e)) (next (by show(decide (sv=v) && _)=false; rw[decide_eq_false h1,Bool.false_and]))
  refine Bl (by rw[h1]) ⟨_,rfl,c,_,_,_,rfl,rfl,AO.of fb3,D5 _ _ _,_,rfl,_,_,rfl,rfl,_,rfl,?_⟩;by_cases h2:sa<=x
  case neg=>exact Bj h2 (next (by show(decide (sv=v) && (decide (sa<=x) && _))=false; rw[decide_eq_false h2,Bool.false_and,Bool.and_false]))
  refine Bl h2 ⟨_,rfl,_,rfl,c,_,_,_,rfl,rfl,AO.of fb3,DD _ _ _,_,_,rfl,rfl,_,rfl,?_⟩;by_cases h3:x<=sz
  case neg=>exact Bj h3 (next (by show(decide (sv=v) && (decide (sa<=x) && decide (x<=sz)))=false; rw[decide_eq_false h3,Bool.and_false,Bool.and_false]))
  refine Bl h3 ⟨_,rfl,?_⟩;have il:i<L.length:=(cm.mp hy).1;have e:FO L v x=i:=by
   unfold FO;rw[List.findIdx_eq il];refine⟨?_,λj hj=>?_⟩
   ·have:=(cm.mp hy).2
    rw[this];show(decide (sv=v) && (decide (sa<=x) && decide (x<=sz)))=true;rw[decide_eq_true h1,decide_eq_true h2,decide_eq_true h3]; rfl
   ·exact no j _ hj (cg (by omega))
  rw[<-e];exact q H3 s03
 ·rintro σ H2 ⟨s2,⟨u3,u4,rfl⟩,no⟩;obtain⟨k,hk,rfl⟩:=dS mx
  have:=no k _ (by rw[cf,hC.1]; exact hk) (cg hk)
  rw[tx] at this;cases this
def K0:Sp:=λvs H Q _=>∃(l rb:Addr) (L:List Sd) (b:AB),vs=[.ref l,.ref rb]/\Ax A7 H l L/\Ck H rb b/\(∃s∈L,Dd b.u b.l s=true)/\(∃s∈L,Dd b.d b.l s=true)/\b.d<b.u/\BV (b.u-b.d)/\∀t H',AN H H'->CA H' t (DQ L b)->Q (.ref t) H'
theorem JP:Ar ["lines","rectangle","left","low","right","high"] ["lines","rectangle"] (Ah s_rope_of):=Av
theorem Xc (F:Fun K "rope_of" "rope_of" s_rope_of f fd) (G1:AL P w K mg base AK 1 f1 d1 ["lines","level","x"] NA) (b1:Af K d1 ["lines","level","x"] []) (k1:KP K f1) (m1:mg "place_at" = some (.ref f1))
  (G2:AL P w K mg base AK 2 f2 d2 ["top","bottom"] (JC C0)) (b2:Af K d2 ["top","bottom"] []) (k2:KP K f2) (m2:mg "fraction" = some (.ref f2)):AL P w K mg base AK 3 f fd ["lines","rectangle"] K0:=by
 refine F.ok JP (λvs H Q E h=>?_) (λcdv A outer s H vs Q E hr h=>?_)
 ·obtain⟨l,rb,L,b,rfl,_⟩:=h;rfl
 obtain⟨l,rb,L,⟨x0,x1,x2,x3⟩,rfl,hL,hb,e1,e2,du,bg,q⟩:=h;have r1:=hr.mono (show 1<=2 by decide);refine⟨_,AS (Aa (i:=2) JP.nd rfl (Or.inl rfl) (pL K (pv 1) AH))
  (AS (Aa (i:=3) JP.nd rfl (Or.inl rfl) (pL K (pv 1) AH))
  (AS (Aa (i:=4) JP.nd rfl (Or.inl rfl) (pL K (pv 1) AH))
  (AS (Aa (i:=5) JP.nd rfl (Or.inl rfl) (pL K (pv 1) AH))
  (AU (Ak (Ao (AA (Ac G1 r1 (by rfl) m1 k1 b1 .nil Ad (AA (pv 0) (AA (pv 5) (AA (pv 2) AG)))) (AA (Ac G1 r1 (by rfl) m1 k1 b1 .nil Ad (AA (pv 0) (AA (pv 3) (AA (pv 2) AG)))) (AA (Ac G2 hr (by rfl) m2 k2 b2 .nil Ad (AA (AQ B4 (pv 4) (pv 2)) (AA (AQ B4 (pv 5) (pv 3)) AG))) AG))))))))),?_⟩
 have hb':H rb=some (.AD [.int x0,.int x1,.int x2,.int x3]):=hb;refine⟨_,rfl,rb,_,_,_,rfl,rfl,AJ.of hb',Aq (j:=0) rfl,?_⟩;refine⟨_,rfl,rb,_,_,_,rfl,rfl,AJ.of hb',Aq (j:=1) rfl,?_⟩;refine⟨_,rfl,rb,_,_,_,rfl,rfl,AJ.of hb',Aq (j:=2) rfl,?_⟩;refine⟨_,rfl,rb,_,_,_,rfl,rfl,AJ.of hb',Aq (j:=3) rfl,?_⟩;dsimp only[AB.l,AB.d,AB.r,AB.u] at e1 e2 du bg;have du0:x3-x1≠0:=by omega
 refine⟨_,rfl,_,rfl,_,rfl,l,L,x3,x0,rfl,hL,e1,λH1 s1=>?_⟩;refine⟨_,rfl,_,rfl,_,rfl,l,L,x1,x0,rfl,Ys s1 hL,e2,λH2 s2=>?_⟩;refine⟨_,rfl,_,rfl,_,_,rfl,rfl,_,rfl,_,rfl,_,_,rfl,rfl,x2-x0,x3-x1,rfl,bg,λz=>du0 z,λ_ p hp=>?_⟩;have ef:=Gy (x2-x0) (x3-x1) du0;rw[ef];have s3:=AR hp (.AF [.int (((x2-x0:Int):Rat) / ((x3-x1:Int):Rat)).num,.int ((((x2-x0:Int):Rat) / ((x3-x1:Int):Rat)).den:Int)]);have g3:Ag (AE H2 p (.AF [.int (((x2-x0:Int):Rat) / ((x3-x1:Int):Rat)).num,.int ((((x2-x0:Int):Rat) / ((x3-x1:Int):Rat)).den:Int)])) p (((x2-x0:Int):Rat) / ((x3-x1:Int):Rat)):=AM;generalize AE H2 p (.AF [.int (((x2-x0:Int):Rat) / ((x3-x1:Int):Rat)).num,.int ((((x2-x0:Int):Rat) / ((x3-x1:Int):Rat)).den:Int)])=H3 at s3 g3;refine⟨by exact CB,λt ht=>?_⟩;have s4:=AR ht (.AF [.int (FO L x3 x0:Int),.int (FO L x1 x0:Int),.ref p]);exact q t _ (s1.trans (s2.trans (s3.trans s4))) ⟨p,AM,s4 _ _ g3⟩
def Dk:List Int->Int
 | []=>0
 | [x]=>x
 | x :: y :: r=>min x (Dk (y :: r))
theorem ME:∀{l:List Int},l≠[]->Dk l∈l/\∀x∈l,Dk l<=x
 | [],h=>absurd rfl h
 | [x],_=>⟨by simp[Dk],λy hy=>by rw[cW.mp hy]; exact dQ _⟩
 | x :: y :: r,_=>by
  obtain⟨h1,h2⟩:=ME (l:=y :: r) (by simp);have e:Dk (x :: y :: r)=min x (Dk (y :: r)):=rfl;rw[e];generalize Dk (y :: r)=m at h1 h2;refine⟨?_,λz hz=>?_⟩
  ·rcases Int.le_total x m with h | h
   ·rw[show min x m=x by omega]; exact dr ..
   ·rw[show min x m=m by omega]; exact da _ h1
  ·rcases cP.mp hz with rfl | hz
   ·omega
   ·have:=h2 z hz; omega
def Bm(t:List Int):List Int:=t.drop (t.idxOf (Dk t))++t.take (t.idxOf (Dk t))
theorem Oe{t:List Int}{m:Int}(hm:m∈t)(h:∀a∈t,m<=a):Dk t=m:=by
 obtain⟨h1,h2⟩:=ME (l:=t) (List.ne_nil_of_mem hm)
 have:=h _ h1
 have:=h2 _ hm
 omega
variable {f4:Addr} {d4:FuncData}
inductive Qy(vs:List V)(H:Hp)(Q:VK):Prop
 | mk (a:Addr) (t:List Int) (h_0:vs=[.ref a]) (h_1:H a=some (.AF (t.map V.int))) (h_2:t≠[]) (h_3:t.length<=1000) (h_4:∀p H',AN H H'->H' p=some (.AF ((Bm t).map V.int))->Q (.ref p) H'):Qy vs H Q
def Ku:Sp:=λvs H Q _=>Qy vs H Q
theorem SS:Ar ["turn","cut"] ["turn"] (Ah s_begun_least):=Av
theorem YL(F:Fun K "begun_least" "begun_least" s_begun_least f fd)(mn:mg "min" = none):AL P w K mg base AK 1 f fd ["turn"] Ku:=by
 refine F.ok SS (λvs H Q E h=>?_) (λcdv A outer s H vs Q E hr h=>?_)
 ·obtain⟨a,t,rfl,_⟩:=h;rfl
 obtain⟨a,t,rfl,ha,ht,hl,q⟩:=h;refine⟨_,AS (Aa (i:=1) SS.nd rfl (Or.inl rfl) (YK PySem.F.plainAttrs_tuple PySem.F.slot_tuple_index PySem.F.type_tuple_index VZ (pv 0) (AA (As (Vc rfl) (by rfl) mn ID (AA (pv 0) AG)) AG)))
  (AU (Ak (AQ QE (Eg (S9 (K:=K)) (pv 0) (EG (pv 1)) FG) (Eg (S9 (K:=K)) (pv 0) FG (EG (pv 1)))))),?_⟩
 have tl:0<t.length:=List.length_pos_iff.mpr ht;refine⟨_,rfl,⟨a,_,rfl,ha⟩,_,rfl,a,t,rfl,ha,tl,λm mm mle=>?_⟩;refine⟨a,t,m,rfl,rfl,ha,mm,?_⟩;have em:=Oe mm mle;have hc:t.idxOf m<t.length:=eE.mpr mm;have eb:Bm t=t.drop (t.idxOf m)++t.take (t.idxOf m):=by unfold Bm; rw[em]
 generalize t.idxOf m=c at hc eb;refine⟨_,rfl,_,rfl,_,rfl,a,_,rfl,AO.of ha,λz=>?_,λz p hp=>?_⟩
 ·
  have c0:c=0:=by rw[Im (by rw[cf]; omega)] at z; exact z.1
  subst c0;refine⟨_,rfl,_,rfl,_,rfl,a,_,rfl,AO.of ha,λz2=>?_,λz2 p2 hp2=>?_⟩
  ·have:=z2.2
   rw[Im (dk _),cf] at this;omega
  ·refine⟨a,p2,_,[],rfl,rfl,AO.of (AR hp2 _ _ _ ha),?_,?_,?_,λ_=>?_,λz3=>absurd rfl z3⟩
   ·rw[show CU (t.map V.int) none (some ((0:Nat):Int))=[] by rw[Il _ (dk _)]; rfl]; exact AO.of AM
   ·intro z4
    have:=congrArg List.length z4
    simp at this;exact ht this
   ·rw[cf]; exact GW (by simp; omega)
   ·refine q a _ (AR hp2 _) ?_;rw[eb];simpa using AR hp2 _ _ _ ha
 ·have ec:CU (t.map V.int) (some (c:Int)) none=(t.drop c).map V.int:=by rw[J3 _ (by rw[cf]; omega),List.map_drop]
  rw[ec];have s1:=AR hp (.AF ((t.drop c).map V.int));have g1:(AE H p (.AF ((t.drop c).map V.int))) p=some (.AF ((t.drop c).map V.int)):=AM;generalize AE H p (.AF ((t.drop c).map V.int))=H1 at s1 g1;have cn:c≠0:=λe=>z (by subst e; rw[Im (dk _)]; exact⟨rfl,rfl⟩)
  refine⟨_,rfl,_,rfl,_,rfl,a,_,rfl,AO.of (s1 _ _ ha),λz2=>?_,λz2 p2 hp2=>?_⟩
  ·have:=z2.2
   rw[Im (by rw[cf]; omega),cf] at this;omega
  ·have ec2:CU (t.map V.int) none (some (c:Int))=(t.take c).map V.int:=by rw[Il _ (by rw[cf]; omega),List.map_take]
   rw[ec2];have s2:=AR hp2 (.AF ((t.take c).map V.int));have g2:(AE H1 p2 (.AF ((t.take c).map V.int))) p2=some (.AF ((t.take c).map V.int)):=AM;generalize AE H1 p2 (.AF ((t.take c).map V.int))=H2 at s2 g2;refine⟨p,p2,_,_,rfl,rfl,AO.of (s2 _ _ g1),AO.of g2,?_,?_,λz3=>?_,λ_ p3 hp3=>?_⟩
   ·intro z4
    have:=congrArg List.length z4
    simp at this;omega
   ·simp; exact GW (by omega)
   ·have:=congrArg List.length z3
    rw[cf,dm] at this;have e0:([]:List V).length=0:=rfl;omega
   ·refine q p3 _ (s1.trans (s2.trans (AR hp3 _))) ?_;rw[AM,eb,dh]
def Ly:Sp:=λvs H Q _=>∃(a:Addr) (ts:List (List Int)),vs=[.ref a]/\Ax Bq H a ts/\ts.length<=1000/\(∀t∈ts,t≠[]/\t.length<=1000)/\∀p H',AN H H'->BA Bq H' p (ts.map Bm)->Q (.ref p) H'
theorem bE:Ar ["turns"] ["turns"] (Ah s_told_turns):=Av
theorem Ya:(["turn"]:List Str).Nodup:=by decide +kernel
theorem WA(F:Fun K "told_turns" "told_turns" s_told_turns f fd)(G:AL P w K mg base AK 1 g gd ["turn"] Ku)(bG:Af K gd ["turn"] [])(kG:KP K g)(mG:mg "begun_least" = some (.ref g))(mt:mg "tuple" = none):AL P w K mg base AK 2 f fd ["turns"] Ly:=by
 refine F.ok bE (λvs H Q E h=>?_) (λcdv A outer s H vs Q E hr h=>?_)
 ·obtain⟨a,ts,rfl,_⟩:=h;rfl
 obtain⟨a,ts,rfl,⟨bs,ha,hB⟩,hl,ht,q⟩:=h;refine⟨_,AU (Ak (Dr (Fi (K:=K)) (by rfl) mt ED (AA (EH (Nc:=["turn"]) (cap:=[]) (g:=BG 0) (te:=Fs Ku [] E0 (BQ (Au 0) B7)) rfl (Cu (K:=K) (pv 0))
   (B1 rfl rfl (by decide +kernel) (by decide +kernel) (cQ _) rfl (cQ _)) (λ_ _ _ _ _=>AV (i:=0) Ya rfl (Or.inl rfl))
   (λ_ _ _ _ _=>Ac G hr (by rfl) mG kG bG .nil Ad (AA (pv 0) AG))) AG))),?_⟩
 have lb:bs.length=ts.length:=hB.1;refine⟨_,rfl,a,rfl,⟨_,AJ.of ha⟩,λacc hacc=>?_⟩;refine Cf (Fh ha) (by rw[cf]; omega) hacc (λi ys σ hp=>∃ds:List Addr,ys=ds.map V.ref/\At Bq hp ds ((ts.map Bm).take i)/\∃u,σ=[u]) ⟨[],rfl,At.nil,none,rfl⟩ ?_ ?_
 ·rintro i ys σ H3 x H4 hi sm hacc2 ⟨ds,rfl,hD,u,rfl⟩ ⟨rfl,hx⟩ Cc hC;obtain⟨c,t,rfl,_,hy,hc⟩:=hB.ref hx;obtain⟨t1,t2⟩:=ht t (cq hy);refine⟨_,rfl,c,t,rfl,sm _ _ hc,t1,t2,λp H5 s5 hp=>?_⟩;refine hC _ _ _ s5 ⟨ds++[p],by simp,?_,_,rfl⟩;have ec:(ts.map Bm)[i]?=some (Bm t):=by rw[cu,hy]; rfl
  rw[BO ec];exact(hD.keep Ei (FD acc s5)).snoc (Bq.BF (t:=Bm t) hp (s5 _ _ hacc2))
 ·rintro ys σ H4 s4 ha4 hl4 ⟨gs,rfl,hG,u,rfl⟩;rw[cf,lb,dC (by rw[cf]; exact cR _)] at hG;refine⟨acc,_,rfl,.inl ⟨AJ.of ha4,λp hp=>?_⟩⟩;have sp:=AR hp (.AF (gs.map V.ref));exact q p _ (s4.trans sp) ⟨gs,AM,(hG.keep Ei (EE H4 acc)).keep Ei sp⟩
end
end My
namespace My
open PySem PySem.Spec PyProof.Rows L2 Mth Wd Fl Ln
def IE:Str:=(("turns_of":Str)++".<locals>.")++"<lambda>"
def bZ:V->List V->Hp->VK->Prop:=λx vs H Q=>∃(i:Nat) (lp:Addr) (ns:List Int) (k:Int),x=.int (i:Int)/\vs=[.ref lp]/\H lp=some (.AD (ns.map V.int))/\ns[i]?=some k/\Q (.int k) H
abbrev GH:Rp:=(0,0,0)
def Bc(rs:List Rp)(p:List Nat)(i:Nat):List Int:=(p.filter λk=>decide ((rs.getD k GH).2.1=i)).reverse.map λk:Nat=>2*(k:Int)+1
def BP(rs:List Rp)(p:List Nat)(i:Nat):List Int:=(p.filter λk=>decide ((rs.getD k GH).1=i)).map λk:Nat=>2*(k:Int)
def Ez(rs:List Rp)(p:List Nat)(n i:Nat):List Int:=(Bc rs p i++if i=0 then [2*(n:Int)] else [])++(BP rs p i++if i=1 then [2*(n:Int)+1] else [])
def DZ(pl:Nat)(rs:List Rp)(p:List Nat):List (List Int):=(List.range pl).map (Ez rs p rs.length)
theorem aG{l:List Addr}(h:l.Nodup){i j:Nat}{b:Addr}(h1:l[i]?=some b)(h2:l[j]?=some b):i=j:=by
 obtain⟨i1,e1⟩:=cm.mp h1;obtain⟨j1,e2⟩:=cm.mp h2;have hp:=cY.mp h;rcases eQ i j with z | z | z
 ·exact absurd (e1.trans e2.symm) (hp i j i1 j1 z)
 ·exact z
 ·exact absurd (e2.trans e1.symm) (hp j i j1 i1 z)
structure DC(H:Hp)(Ta Tb:Addr)(ba bb:List Addr)(as bs:List (List Int)):Prop where
 ha:H Ta=some (.AD (ba.map V.ref))
 hb:H Tb=some (.AD (bb.map V.ref))
 ra:At Cj H ba as
 rb:At Cj H bb bs
 nd:(Ta :: Tb :: (ba++bb)).Nodup
section
variable {H H':Hp} {Ta Tb b:Addr} {ba bb:List Addr} {as bs:List (List Int)} {i:Nat} {t:List Int}
theorem DC.keep(M:DC H Ta Tb ba bb as bs)(s:AN H H'):DC H' Ta Tb ba bb as bs:=⟨s _ _ M.ha,s _ _ M.hb,M.ra.keep GJ s,M.rb.keep GJ s,M.nd⟩
theorem P1{bs:List Addr}{ts:List (List Int)}(r:At Cj H bs ts)(nd:bs.Nodup)(hb:bs[i]?=some b):At Cj (AE H b (.AD (t.map V.int))) bs (ts.set i t):=by
 refine⟨by rw[List.length_set]; exact r.1,λk c x q1 q2=>?_⟩;by_cases hk:i=k
 ·subst hk;rw[hb] at q1;cases q1;have hl:i<ts.length:=by rw[<-r.1]; exact(cm.mp hb).1
  rw[List.getElem?_set_self hl] at q2;cases q2;exact AM
 ·rw[List.getElem?_set_ne hk] at q2;have ne:c≠b:=λz=>hk (aG nd hb (by rw[q1,z]))
  show AE H b _ c=_;rw[AW ne];exact r.2 k c x q1 q2
theorem PV{bs:List Addr}{ts:List (List Int)}(r:At Cj H bs ts)(n:b∉bs)(o:HO):At Cj (AE H b o) bs ts:=⟨r.1,λk c x q1 q2=>by
 show AE H b _ c=_;rw[AW (λz=>n (by rw[<-z]; exact cq q1))];exact r.2 k c x q1 q2⟩
theorem DC.Sx(M:DC H Ta Tb ba bb as bs)(h:ba[i]?=some b):DC (AE H b (.AD (t.map V.int))) Ta Tb ba bb (as.set i t) bs:=by
 obtain⟨n1,n2⟩:=eG.mp M.nd;obtain⟨n3,n4⟩:=eG.mp n2;obtain⟨n5,n6,n7⟩:=List.nodup_append.mp n4;have bm:=cq h;have e1:Ta≠b:=λz=>n1 (by rw[z]; simp[bm])
 have e2:Tb≠b:=λz=>n3 (by rw[z]; simp[bm])
 exact⟨by rw[AW e1]; exact M.ha,by rw[AW e2]; exact M.hb,P1 M.ra n5 h,PV M.rb (λz=>n7 b bm b z rfl) _,M.nd⟩
theorem DC.Sv(M:DC H Ta Tb ba bb as bs)(h:bb[i]?=some b):DC (AE H b (.AD (t.map V.int))) Ta Tb ba bb as (bs.set i t):=by
 obtain⟨n1,n2⟩:=eG.mp M.nd;obtain⟨n3,n4⟩:=eG.mp n2;obtain⟨n5,n6,n7⟩:=List.nodup_append.mp n4;have bm:=cq h;have e1:Ta≠b:=λz=>n1 (by rw[z]; simp[bm])
 have e2:Tb≠b:=λz=>n3 (by rw[z]; simp[bm])
 exact⟨by rw[AW e1]; exact M.ha,by rw[AW e2]; exact M.hb,PV M.ra (λz=>n7 b z b bm rfl) _,P1 M.rb n6 h,M.nd⟩
end
def aM(K:PySem.W.Frag):List V->Hp->VK->Prop:=λxs H Q=>∃p ys,xs=[.ref p]/\((AJ K H p ys/\∀l,H l=none->Q (.ref l) (AE H l (.AF ys)))\/(AO K H p ys/\Q (.ref p) H))
theorem Wx(i:Nat):(List.replicate (i+1) ([]:List Int))=List.replicate i []++[[]]:=by
 rw[List.replicate_succ']
theorem OB{H:Hp}{σ0:L2.St}(hσ:∃u,σ0=[u]){acc:Addr}{pl:Nat}{G:Hp->Prop}(n:pl<=1000)(hacc:H acc=none)(gd:∀es H',AN H H'->H' acc=some (.AD (es.map V.ref))->At Cj H' es (List.replicate pl [])->(acc :: es).Nodup->(∀b∈acc :: es,H b=none)->G H'):
  ∃W:Nat->Nat->List V->L2.St->Hp->Prop,(∃m,W 0 m [] σ0 (AE H acc (.AD [])))/\∀i m ys σc H2,W i m ys σc H2 →
   ((Dp 0 pl).stop i H2/\G H2)\/((Dp 0 pl).go i H2/\∀x H3,(Dp 0 pl).EB i H2 x H3->BG 0 x σc H3 λσ4 H4=>K1 B7 σ4 H4 λv H5=>H5 acc=some (.AD ys)/\ys.length<sizeLine/\∃m',m' < m/\W (i+1) m' (ys++[v]) σ4 (AE H5 acc (.AD (ys++[v])))):=by
 refine Cf (Jw (lo:=0) (n:=pl)) n hacc (λi ys σ hp=>∃es:List Addr,ys=es.map V.ref/\At Cj hp es (List.replicate i [])/\es.Nodup/\(∀b∈es,H b=none/\b≠acc)/\∃u,σ=[u]) ⟨[],rfl,At.nil,List.nodup_nil,(λb hb=>by cases hb),hσ⟩ ?_ ?_
 ·rintro i ys σ H2 x H3 hi sm hacc2 ⟨es,rfl,hE,nd,new,u,rfl⟩ ⟨rfl,rfl⟩ Cc hC;refine⟨by exact Hs,λl hl=>?_⟩;have s1:=AR hl (.AD []);have la:l≠acc:=λz=>by rw[z,hacc2] at hl; cases hl
  have lo:H l=none:=by
   cases z:H l with
   | none=>rfl
   | some o=>rw[sm _ _ z] at hl; cases hl
  have ln:l∉es:=λz=>by
   obtain⟨j,hj,e⟩:=dS z
   have:=hE.2 j l [] (by rw[<-e]; exact cg hj) (by rw[List.getElem?_replicate,if_pos (by have:=hE.1; rw[List.length_replicate] at this; omega)])
   have:=EE _ _ _ _ this
   rw[hl] at this; cases this
  refine hC _ _ _ s1 ⟨es++[l],by simp,?_,?_,λb hb=>?_,_,rfl⟩
  ·rw[Wx];exact(hE.keep GJ (FD acc s1)).snoc (Fn AM la)
  ·rw[List.nodup_append];exact⟨nd,by simp,λa ha b hb e=>ln (by rw[<-List.mem_singleton.mp hb,<-e]; exact ha)⟩
  ·rcases cS.mp hb with hb | hb
   ·exact new b hb
   ·rw[cW.mp hb]; exact⟨lo,la⟩
 ·rintro ys σ H2 s2 hacc2 hl2 ⟨es,rfl,hE,nd,new,u,rfl⟩;refine gd es H2 s2 hacc2 (hE.keep GJ (EE H2 acc)) (eG.mpr ⟨λz=>(new acc z).2 rfl,nd⟩) λb hb=>?_
  rcases cP.mp hb with rfl | hb
  ·exact hacc
  ·exact(new b hb).1
theorem OM(rs:List Rp)(q:List Nat)(k j:Nat):BP rs (q++[k]) j=BP rs q j++if (rs.getD k GH).1=j then [2*(k:Int)] else []:=by
 unfold BP;rw[eM,dh];by_cases h:(rs.getD k GH).1=j
 ·simp[h,-List.getD_eq_getElem?_getD]
 ·simp[h,-List.getD_eq_getElem?_getD]
theorem Of(rs:List Rp)(q:List Nat)(k j:Nat):Bc rs (q++[k]) j=(if (rs.getD k GH).2.1=j then [2*(k:Int)+1] else [])++Bc rs q j:=by
 unfold Bc;rw[eM,List.reverse_append,dh];by_cases h:(rs.getD k GH).2.1=j
 ·simp[h,-List.getD_eq_getElem?_getD]
 ·simp[h,-List.getD_eq_getElem?_getD]
theorem Ip{g g':Nat->List Int}{n a:Nat}(h:∀j,j≠a->g' j=g j):((List.range n).map g).set a (g' a)=(List.range n).map g':=by
 refine fY λj=>?_
 by_cases e:a=j
 ·subst e;rcases c5 a n with z | z
  ·rw[List.getElem?_set_self (by simpa using z),cu,eO z]; rfl
  ·rw[dF (by simpa using z),dF (by simpa using z)]
 ·rw[List.getElem?_set_ne e,cu,cu];cases z:(List.range n)[j]? with
  | none=>rfl
  | some x =>
   have:x=j:=by
    obtain⟨h1,h2⟩:=cm.mp z;rw[<-h2,List.getElem_range]
   subst this;exact congrArg some (h x λz=>e z.symm).symm
theorem HF{g:Nat->List Int}{n a:Nat}(h:a<n):((List.range n).map g)[a]?=some (g a):=by rw[cu,eO h]; rfl
theorem KH{H:Hp}{T b:Addr}{q:Str}{xs:List V}{o:HO}(h:Bs H T q)(e:H b=some (.AD xs)):Bs (AE H b o) T q:=by
 obtain⟨L,h1,h2⟩:=h;refine⟨L,?_,λc hc=>?_⟩
 ·rw[AW (λz=>by rw[z,e] at h1; cases h1)]; exact h1
 ·rw[AW (λz=>by have:=h2 c hc; rw[z,e] at this; cases this)]; exact h2 c hc
theorem KY{H H':Hp}{T b:Addr}{o:HO}(h:Cv T H H')(n:H b=none):Cv T H (AE H' b o):=λc u k e=>by
 rw[AW (BB e n)]; exact h c u k e
theorem DC.NC{H:Hp}{Ta Tb:Addr}{ba bb:List Addr}{as bs:List (List Int)}{i:Nat}{t:List Int}(M:DC H Ta Tb ba bb as bs)(h:as[i]?=some t):∃b,ba[i]?=some b/\H b=some (.AD (t.map V.int)):=by
 have il:=(cm.mp h).1;rw[<-M.ra.1] at il;exact⟨ba[i],cg il,M.ra.2 i _ _ (cg il) h⟩
theorem DC.Mk{H:Hp}{Ta Tb:Addr}{ba bb:List Addr}{as bs:List (List Int)}{i:Nat}{t:List Int}(M:DC H Ta Tb ba bb as bs)(h:bs[i]?=some t):∃b,bb[i]?=some b/\H b=some (.AD (t.map V.int)):=by
 have il:=(cm.mp h).1;rw[<-M.rb.1] at il;exact⟨bb[i],cg il,M.rb.2 i _ _ (cg il) h⟩
theorem J9(rs:List Rp)(p:List Nat)(i:Nat):(Bc rs p i).length<=p.length:=by
 unfold Bc; rw[cf,List.length_reverse]; exact fo _ _
theorem KG(rs:List Rp)(p:List Nat)(i:Nat):(BP rs p i).length<=p.length:=by
 unfold BP; rw[cf]; exact fo _ _
theorem Et{l:List Addr}{i:Nat}{b:Addr}(h:l[i]?=some b):(l.map V.ref)[i]?=some (.ref b):=by rw[cu,h]; rfl
section
variable {P:Program} {w:World} {K:PySem.W.Frag} {mg:Str->Option Value} {base:Heap} {f g h f1 f2 f3 c T:Addr} {fd gd hd d1 d2 d3:FuncData}
def M8(T:Addr):Sp:=λvs H Q _=>∃(pl:Nat) (ra la:Addr) (rs:List Rp) (ls:List Int),vs=[.int (pl:Int),.ref ra,.ref la]/\BA CA H ra rs/\H la=some (.AD (ls.map V.int))/\ls.length=rs.length/\rs.length<=14/\2<=pl/\pl<=40/\(∀r∈rs,r.1<pl/\r.2.1<pl)/\(∀p,EW ls p->∀t∈DZ pl rs p,t≠[])/\Bs H T IE /\
 ∀(t:Addr) (p:List Nat) (H':Hp),Cv T H H'->Bs H' T IE->EW ls p->BA Bq H' t ((DZ pl rs p).map Bm)->Q (.ref t) H'
theorem JN:Ar ["places","ropes","lefts","outer","above","below","k"] ["places","ropes","lefts"] (Ah s_turns_of):=Av
theorem Rx:(["place"]:List Str).Nodup:=by decide +kernel
theorem S8:(["one","other"]:List Str).Nodup:=by decide +kernel
set_option maxHeartbeats 4000000 in
theorem W3 (F:Fun K "turns_of" "turns_of" s_turns_of f fd) (hcd:fd.code=.ref c) (hC:PySem.W.CodeHd base c T) (hB:EN mg base) (G1:AL P w K mg base AK 2 f1 d1 ["turns"] Ly) (b1:Af K d1 ["turns"] []) (k1:KP K f1) (m1:mg "told_turns" = some (.ref f1))
  (ml:mg "len" = none) (mr:mg "range" = none) (ms:mg "sorted" = none) (mz:mg "zip" = none) (mt:mg "tuple" = none):AL P w K mg base AK 6 f fd ["places","ropes","lefts"] (M8 T):=by
 refine Fun.Tq F JN (λvs H Q E h=>?_) (λA outer s H vs Q E hr h=>?_)
 ·obtain⟨pl,ra,la,rs,ls,rfl,_⟩:=h;rfl
 obtain⟨pl,ra,la,rs,ls,rfl,⟨cs,hra,hR⟩,hla,ll,n14,p2,p40,hin,hne,hT,q⟩:=h;have r2:=hr.mono (show 2<=5 by decide);have r4:=hr.mono (show 1+3<=5 by decide);refine⟨_,AS (Aa (i:=3) JN.nd rfl (Or.inl rfl) (As (Bo (K:=K)) (by rfl) ml Bh (AA (pv 1) AG)))
  (AS (Gw (i:=4) JN.nd rfl (Or.inl rfl) (Nc:=["place"]) (cap:=[]) (g:=BG 0) (te:=K1 B7) rfl (EC (by rfl) mr (AA (pv 0) AG)) (B1 rfl rfl (by decide +kernel) (by decide +kernel) (cQ _) rfl (cQ _)) (λ_ _ _ _ _=>AV (i:=0) Rx rfl (Or.inl rfl)) (λ_ _ _ _ _=>B3 AG))
  (AS (Gw (i:=5) JN.nd rfl (Or.inl rfl) (Nc:=["place"]) (cap:=[]) (g:=BG 0) (te:=K1 B7) rfl (EC (by rfl) mr (AA (pv 0) AG)) (B1 rfl rfl (by decide +kernel) (by decide +kernel) (cQ _) rfl (cQ _)) (λ_ _ _ _ _=>AV (i:=0) Rx rfl (Or.inl rfl)) (λ_ _ _ _ _=>B3 AG))
  (AS (Bv dv rfl (Cu (K:=K) (Wa (k:=1) (pn:="rope") (N:=["lefts"]) (js:=[2]) (rd:=bZ) (T:=T) (c:=c) rfl
    (PQ rfl rfl rfl rfl rfl (cy.mpr ⟨⟨_,rfl,rfl,rfl,rfl,rfl⟩,cQ _⟩) (cy.mpr ⟨rfl,cQ _⟩) (by decide +kernel) (cy.mpr ⟨(λz=>by first | exact⟨_,rfl⟩ | cases z),cy.mpr ⟨(λz=>by first | exact⟨_,rfl⟩ | cases z),cQ _⟩⟩) λ_=>rfl) rfl rfl r4 (by rfl) ms (by rfl) mr (pv 3) hcd hC hB rfl (λ_ _ _ _ _=>rfl)
    (λf c A outer s x vs H Q h=>⟨_,pL K (pv 1) (pv 0),by
     obtain⟨i,lp,ns,k,rfl,rfl,hl,hk,h⟩:=h;exact⟨_,rfl,_,rfl,lp,_,_,_,rfl,rfl,AJ.of hl,Aq (by rw[cu,hk]; rfl),h⟩⟩))) (AV (i:=6) JN.nd rfl (Or.inl rfl))
   (AS (Cq (GV dc dG dH DT (pL K (pv 5) (pT K (pT K (pv 1) (pv 6)) AH)) (AA (AQ C6 AH (pv 6)) AG)))
   (AU (Cq (GV dc PySem.F.slot_list_insert PySem.F.type_list_insert Oc (pL K (pv 4) (pT K (pT K (pv 1) (pv 6)) AH)) (AA AH (AA (AQ A5 (AQ C6 AH (pv 6)) AH) AG)))))))
  (AS (Cq (GV dc dG dH DT (pL K (pv 4) AH) (AA (AQ C6 AH (pv 3)) AG)))
  (AS (Cq (GV dc dG dH DT (pL K (pv 5) AH) (AA (AQ A5 (AQ C6 AH (pv 3)) AH) AG)))
  (AU (Ak (Ac G1 r2 (by rfl) m1 k1 b1 .nil Ad (AA (EH (Nc:=["one","other"]) (cap:=[]) (g:=JT K 2 (HK (BG 0) (HK (BG 1) K2))) (te:=Nh (aM K) (BQ (BM Mv (Au 0) (Au 1)) B7)) rfl (W9 (t1:=false) (t2:=false) (by rfl) mz (AA (pv 4) (AA (pv 5) AG))) (B1 rfl rfl (by decide +kernel) (by decide +kernel) (cQ _) rfl (cQ _))
    (λ_ _ _ _ _=>Ca (n:=2) (K:=K) rfl (Ai (AV (i:=0) S8 rfl (Or.inl rfl)) (Ai (AV (i:=1) S8 rfl (Or.inl rfl)) CS))) (λ_ _ _ _ _=>Dr Nu (by rfl) mt ED (AA (AQ Eo (pv 0) (pv 1)) AG))) AG))))))))),?_⟩
 have ln:(cs.map V.ref).length=rs.length:=by rw[cf,hR.1]
 refine⟨_,rfl,ra,_,rfl,.inr (AO.of hra),?_⟩;rw[ln];refine⟨_,rfl,(pl:Int),rfl,by omega,by omega,λTa hTa=>?_⟩;refine OB (pl:=pl) ⟨none,rfl⟩ (by omega) hTa λba H1 s1 hA rA ndA nwA=>?_
 refine⟨_,rfl,(pl:Int),rfl,by omega,by omega,λTb hTb=>?_⟩;refine OB (pl:=pl) ⟨none,rfl⟩ (by omega) hTb λbb H2 s2 hA2 rB ndB nwB=>?_
 have old2:∀b∈Ta :: ba,H1 b≠none:=λb hb z=>by
  rcases cP.mp hb with rfl | hb
  ·rw[hA] at z; cases z
  ·obtain⟨j,hj,e⟩:=dS hb
   have:=rA.2 j b [] (by rw[<-e]; exact cg hj) (by rw[List.getElem?_replicate,if_pos (by have:=rA.1; rw[List.length_replicate] at this; omega)])
   have this:H1 b=_:=this;rw[z] at this; cases this
 have M:DC H2 Ta Tb ba bb ((List.range pl).map (Bc rs ([]:List Nat))) ((List.range pl).map (BP rs ([]:List Nat))):=by
  have e1:(List.range pl).map (Bc rs ([]:List Nat))=List.replicate pl []:=by rw[<-List.length_range (n:=pl),<-List.map_const']; simp[Bc]
  have e2:(List.range pl).map (BP rs ([]:List Nat))=List.replicate pl []:=by rw[<-List.length_range (n:=pl),<-List.map_const']; simp[BP]
  rw[e1,e2];refine⟨s2 _ _ hA,hA2,rA.keep GJ s2,rB,?_⟩;obtain⟨n1,n2⟩:=eG.mp ndA;obtain⟨n3,n4⟩:=eG.mp ndB;have ap:∀a∈Ta :: ba,∀b∈Tb :: bb,a≠b:=λa ha b hb z=>old2 a ha (by rw[z]; exact nwB b hb)
  refine eG.mpr ⟨λz=>?_,eG.mpr ⟨λz=>?_,List.nodup_append.mpr ⟨n2,n4,λa ha b hb=>ap a (da _ ha) b (da _ hb)⟩⟩⟩
  ·rcases cP.mp z with z | z
   ·exact ap Ta (by simp) Tb (by simp) z
   ·rcases cS.mp z with z | z
    ·exact n1 z
    ·exact ap Ta (by simp) Ta (da _ z) rfl
  ·rcases cS.mp z with z | z
   ·exact ap Tb (da _ z) Tb (by simp) rfl
   ·exact n3 z
 have s02:=s1.trans s2;have new:∀b∈ba++bb,H b=none:=λb hb=>by
  rcases cS.mp hb with hb | hb
  ·exact nwA b (da _ hb)
  ·cases z:H b with
   | none=>rfl
   | some o=>have:=nwB b (da _ hb); rw[s1 _ _ z] at this; cases this
 obtain⟨TL,hTT,_⟩:=id hT;have old:∀{Hi:Hp} {b:Addr} {o:HO},Cv T H Hi->H b=some o->(∀z,o≠.Bw z)->Hi b=some o:=λ{Hi b o} bt e n=>bt b o (λz=>by rw[z,hTT] at e; exact n _ (Option.some.inj e).symm) e
 refine⟨_,rfl,rs.length,rfl,by omega,C4 hT s02,[.ref la],rfl,(λi j z=>by
  rcases i with _ | i
  ·cases z; exact⟨_,rfl,rfl⟩
  ·simp at z),λff c' H5 bt nf tb hc' hf'=>⟨ls,ll,λi k e=>?_,λD p H6 op s6 nD hD=>?_⟩⟩
 ·have hla5:=bt la _ (λz=>by have:=s02 _ _ hTT; rw[<-z,s02 _ _ hla] at this; cases this) (s02 _ _ hla);exact λH7 s7 QQ hq=>⟨_,rfl,s7 _ _ hf',s7 _ _ hc',i,la,ls,k,rfl,rfl,s7 _ _ hla5,e,hq _ (AN.refl _)⟩
 have tt2:H2 T=some (.Bw (D4 TL).toArray):=s02 _ _ hTT;have k26:∀{b:Addr} {o:HO},H2 b=some o->(∀z,o≠.Bw z)->H6 b=some o:=λ{b o} e n=>s6 _ _ (bt b o (λz=>by rw[z,tt2] at e; exact n _ (Option.some.inj e).symm) e)
 have M6:DC H6 Ta Tb ba bb ((List.range pl).map (Bc rs ([]:List Nat))) ((List.range pl).map (BP rs ([]:List Nat))):=⟨k26 M.ha (λz y=>by cases y),k26 M.hb (λz y=>by cases y),⟨M.ra.1,λi b x e1 e2=>k26 (M.ra.2 i b x e1 e2) (λz y=>by cases y)⟩,⟨M.rb.1,λi b x e1 e2=>k26 (M.rb.2 i b x e1 e2) (λz y=>by cases y)⟩,M.nd⟩;have lp:p.length=rs.length:=by rw[op.1.length_eq,c7,ll]
 have kp:∀k∈p,k<rs.length:=λk hk=>by have:=cZ.mp (op.1.mem_iff.mp hk); omega
 have nDb:∀b∈ba++bb,D≠b:=λb hb z=>by
  have h5:H5 b≠none:=λy=>by
   rcases cS.mp hb with hb | hb
   ·obtain⟨j,hj⟩:=List.getElem?_of_mem hb;have jl:=(cm.mp hj).1;rw[M.ra.1] at jl;have e:H2 b=_:=M.ra.2 j b _ hj (cg jl);rw[bt b _ (λz=>by rw[z,tt2] at e; cases e) e] at y; cases y
   ·obtain⟨j,hj⟩:=List.getElem?_of_mem hb;have jl:=(cm.mp hj).1;rw[M.rb.1] at jl;have e:H2 b=_:=M.rb.2 j b _ hj (cg jl);rw[bt b _ (λz=>by rw[z,tt2] at e; cases e) e] at y; cases y
  exact h5 (by rw[<-z]; exact nD)
 refine⟨D,rfl,⟨_,AJ.of hD⟩,?_⟩;refine Fg (xs:=p.map λi:Nat=>V.int (i:Int)) (λi σ Hi=>(∃u,σ=[some (.int (pl:Int)),some (.ref ra),some (.ref la),some (.int (rs.length:Int)),some (.ref Ta),some (.ref Tb),u])/\Cv T H Hi/\Bs Hi T IE/\Hi D=some (.AD (p.map λi:Nat=>V.int (i:Int)))/\DC Hi Ta Tb ba bb ((List.range pl).map (Bc rs (p.take i))) ((List.range pl).map (BP rs (p.take i))))
  ⟨⟨none,rfl⟩,λb o n e=>s6 _ _ (bt b o n (s02 _ _ e)),C4 tb s6,hD,M6⟩ (λi σ Hi _ z=>AJ.of z.2.2.2.1) ?_ ?_
 ·rintro i x σ Hi hx ⟨⟨u,rfl⟩,bi,ti,di,Mi⟩;rw[cu] at hx;obtain⟨k,hk,rfl⟩:=dJ.mp hx;have kl:=kp k (cq hk);obtain⟨cb,hcb⟩:∃cb,cs[k]?=some cb:=⟨_,cg (by rw[hR.1]; exact kl)⟩;have er:rs[k]?=some (rs.getD k GH):=by rw[cw,cg kl]; rfl
  obtain⟨qf,hcq,_⟩:=hR.2 k cb _ hcb er;obtain⟨r1,r2'⟩:=hin _ (cq er);have et:=BO hk;generalize hr:rs.getD k GH=r at hcq r1 r2' er;have gra:∀{Hi},Cv T H Hi->Hi ra=some (.AF (cs.map V.ref)):=λb=>old b hra (λz y=>by cases y)
  have gcb:∀{Hi},Cv T H Hi->Hi cb=some (.AF [.int (r.1:Int),.int (r.2.1:Int),.ref qf]):=λb=>old b hcq (λz y=>by cases y)
  obtain⟨b1,hb1,gb1⟩:=Mi.Mk (HF (g:=BP rs (p.take i)) r1);have l1:=KG rs (p.take i) r.1;have lt:(p.take i).length<=14:=by rw[dm]; omega
  have mul:Gh 2 (k:Int):=.inl ⟨by decide,by decide⟩;refine⟨_,rfl,_,rfl,_,rfl,ra,_,_,_,rfl,rfl,AO.of (gra bi),Aq (Et hcb),cb,_,_,_,rfl,rfl,AO.of (gcb bi),Dy _ _ _,Tb,_,_,_,rfl,rfl,AJ.of Mi.hb,Aq (Et hb1),.inl ⟨rfl,_,AJ.of gb1⟩,_,rfl,_,_,rfl,rfl,mul,b1,_,_,rfl,rfl,gb1,by rw[cf,sizeLine_eq]; omega,?_⟩;have m1:b1∈ba++bb:=cS.mpr (.inr (cq hb1));have M1:=Mi.Sv (t:=BP rs (p.take (i+1)) r.1) hb1;have e1:(BP rs (p.take (i+1)) r.1).map V.int=(BP rs (p.take i) r.1).map V.int++[.int (2*(k:Int))]:=by rw[et,OM,hr,if_pos rfl,dh]; rfl
  rw[Ip (g':=BP rs (p.take (i+1))) (λj hj=>by rw[et,OM,hr,if_neg (λz=>hj z.symm),eD]),e1] at M1;have bi1:Cv T H (AE Hi b1 (.AD ((BP rs (p.take i) r.1).map V.int++[.int (2*(k:Int))]))):=KY bi (new _ m1);have ti1:=KH (o:=.AD ((BP rs (p.take i) r.1).map V.int++[.int (2*(k:Int))])) ti gb1;have di1:AE Hi b1 (.AD ((BP rs (p.take i) r.1).map V.int++[.int (2*(k:Int))])) D=_:=(AW (nDb _ m1)).trans di;generalize AE Hi b1 (.AD ((BP rs (p.take i) r.1).map V.int++[.int (2*(k:Int))]))=Hj at M1 bi1 ti1 di1;obtain⟨b2,hb2,gb2⟩:=M1.NC (HF (g:=Bc rs (p.take i)) r2');have l2:=J9 rs (p.take i) r.2.1;refine⟨_,rfl,_,rfl,_,rfl,ra,_,_,_,rfl,rfl,AO.of (gra bi1),Aq (Et hcb),cb,_,_,_,rfl,rfl,AO.of (gcb bi1),D5 _ _ _,Ta,_,_,_,rfl,rfl,AJ.of M1.ha,Aq (Et hb2),.inl ⟨rfl,_,AJ.of gb2⟩,_,rfl,_,_,rfl,rfl,mul,_,_,rfl,rfl,b2,_,_,_,rfl,rfl,gb2,by decide,by omega,by rw[cf]; omega,?_⟩;have m2:b2∈ba++bb:=cS.mpr (.inl (cq hb2));have M2:=M1.Sx (t:=Bc rs (p.take (i+1)) r.2.1) hb2;have e2:Bc rs (p.take (i+1)) r.2.1=(2*(k:Int)+1) :: Bc rs (p.take i) r.2.1:=by rw[et,Of,hr,if_pos rfl]; rfl
  rw[Ip (g':=Bc rs (p.take (i+1))) (λj hj=>by rw[et,Of,hr,if_neg (λz=>hj z.symm),List.nil_append]),e2] at M2;exact⟨⟨_,rfl⟩,KY bi1 (new _ m2),KH ti1 gb2,(AW (nDb _ m2)).trans di1,M2⟩
 rintro σ Hi ⟨⟨u,rfl⟩,bi,ti,di,Mi⟩;rw[cf,eI] at Mi;have mul:Gh 2 (rs.length:Int):=.inl ⟨by decide,by decide⟩;obtain⟨b1,hb1,gb1⟩:=Mi.NC (HF (g:=Bc rs p) (a:=0) (by omega));have l1:=J9 rs p 0;refine⟨_,rfl,Ta,_,_,_,rfl,rfl,AJ.of Mi.ha,Aq (j:=0) (Et hb1),.inl ⟨rfl,_,AJ.of gb1⟩,_,rfl,_,_,rfl,rfl,mul,b1,_,_,rfl,rfl,gb1,by rw[cf,sizeLine_eq]; omega,?_⟩;have m1:b1∈ba++bb:=cS.mpr (.inl (cq hb1));have M1:=Mi.Sx (t:=(λj=>Bc rs p j++if j=0 then [2*(rs.length:Int)] else []) 0) hb1;rw[Ip (g':=λj=>Bc rs p j++if j=0 then [2*(rs.length:Int)] else []) (λj hj=>by show Bc rs p j++_=_; rw[if_neg hj,eD])] at M1;have e1:((λj=>Bc rs p j++if j=0 then [2*(rs.length:Int)] else []) 0).map V.int=(Bc rs p 0).map V.int++[.int (2*(rs.length:Int))]:=by show(Bc rs p 0++_).map V.int=_; rw[if_pos rfl,dh]; rfl
 rw[e1] at M1;have bi1:Cv T H (AE Hi b1 (.AD ((Bc rs p 0).map V.int++[.int (2*(rs.length:Int))]))):=KY bi (new _ m1);have ti1:=KH (o:=.AD ((Bc rs p 0).map V.int++[.int (2*(rs.length:Int))])) ti gb1;generalize AE Hi b1 (.AD ((Bc rs p 0).map V.int++[.int (2*(rs.length:Int))]))=Hj at M1 bi1 ti1;obtain⟨b2,hb2,gb2⟩:=M1.Mk (HF (g:=BP rs p) (a:=1) (by omega));have l2:=KG rs p 1;refine⟨_,rfl,Tb,_,_,_,rfl,rfl,AJ.of M1.hb,Aq (j:=1) (Et hb2),.inl ⟨rfl,_,AJ.of gb2⟩,_,rfl,_,_,rfl,rfl,mul,_,_,rfl,rfl,b2,_,_,rfl,rfl,gb2,by rw[cf,sizeLine_eq]; omega,?_⟩;have m2:b2∈ba++bb:=cS.mpr (.inr (cq hb2));have M2:=M1.Sv (t:=(λj=>BP rs p j++if j=1 then [2*(rs.length:Int)+1] else []) 1) hb2;rw[Ip (g':=λj=>BP rs p j++if j=1 then [2*(rs.length:Int)+1] else []) (λj hj=>by show BP rs p j++_=_; rw[if_neg hj,eD])] at M2;have e2:((λj=>BP rs p j++if j=1 then [2*(rs.length:Int)+1] else []) 1).map V.int=(BP rs p 1).map V.int++[.int (2*(rs.length:Int)+1)]:=by show(BP rs p 1++_).map V.int=_; rw[if_pos rfl,dh]; rfl
 rw[e2] at M2;have bi2:Cv T H (AE Hj b2 (.AD ((BP rs p 1).map V.int++[.int (2*(rs.length:Int)+1)]))):=KY bi1 (new _ m2);have ti2:=KH (o:=.AD ((BP rs p 1).map V.int++[.int (2*(rs.length:Int)+1)])) ti1 gb2;generalize AE Hj b2 (.AD ((BP rs p 1).map V.int++[.int (2*(rs.length:Int)+1)]))=Hk at M2 bi2 ti2;have lba:ba.length=pl:=by rw[M2.ra.1,cf,c7]
 have lbb:bb.length=pl:=by rw[M2.rb.1,cf,c7]
 refine⟨_,rfl,_,rfl,Ta,Tb,rfl,⟨_,CQ.l M2.ha⟩,⟨_,CQ.l M2.hb⟩,λacc hacc=>?_⟩;refine Cf (Xh (xs:=ba.map V.ref) (ys:=bb.map V.ref) (λH3 s=>CQ.l (s _ _ M2.ha)) (λH3 s=>CQ.l (s _ _ M2.hb)) (by rw[cf,cf]; omega)) (by rw[cf]; omega) hacc
  (λi ys σ hp=>∃ds:List Addr,ys=ds.map V.ref/\At Bq hp ds ((DZ pl rs p).take i)/\∃u v,σ=[u,v]) ⟨[],rfl,At.nil,none,none,rfl⟩ ?_ ?_
 ·rintro i ys σ H3 x H4 hi sm hacc2 ⟨ds,rfl,hD',u,v,rfl⟩ ⟨pz,x1,x2,rfl,hpz,rfl,e1,e2⟩ Cc hC;have sz:=AR hpz (.AF [x1,x2]);have gz:AE H3 pz (.AF [x1,x2]) pz=_:=AM;generalize AE H3 pz (.AF [x1,x2])=H4 at sz gz;have ip:i<pl:=by rw[cf,lba] at hi; exact hi
  obtain⟨c1,h1,g1⟩:=M2.NC (HF (g:=λj=>Bc rs p j++if j=0 then [2*(rs.length:Int)] else []) ip);obtain⟨c2,h2,g2⟩:=M2.Mk (HF (g:=λj=>BP rs p j++if j=1 then [2*(rs.length:Int)+1] else []) ip);rw[Et h1] at e1;rw[Et h2] at e2;cases e1; cases e2;have l1:=J9 rs p i;have l2:=KG rs p i;refine⟨pz,_,rfl,AO.of gz,rfl,_,_,rfl,_,_,rfl,rfl,?_⟩;refine⟨_,rfl,_,rfl,c1,c2,_,_,rfl,rfl,sz _ _ (sm _ _ g1),sz _ _ (sm _ _ g2),?_,λl hl=>?_⟩
  ·rw[cf,cf,cX,cX,sizeLine_eq];have a1:(if i=0 then [2*(rs.length:Int)] else []).length<=1:=by split <;> simp
   have a2:(if i=1 then [2*(rs.length:Int)+1] else []).length<=1:=by split <;> simp
   omega
  rw[<-List.map_append];have s5:=AR hl (.AD ((Ez rs p rs.length i).map V.int));have g5:AE H4 l (.AD ((Ez rs p rs.length i).map V.int)) l=_:=AM;refine⟨l,_,rfl,.inl ⟨AJ.of g5,λt ht=>?_⟩⟩;have s6:=AR ht (.AF ((Ez rs p rs.length i).map V.int));have s36:=sz.trans (s5.trans s6);refine hC _ _ _ s36 ⟨ds++[t],by simp,?_,_,_,rfl⟩;have ec:(DZ pl rs p)[i]?=some (Ez rs p rs.length i):=HF ip;rw[BO ec];exact(hD'.keep Ei (FD acc s36)).snoc (Bq.BF (t:=Ez rs p rs.length i) AM (s36 _ _ hacc2))
 ·rintro ys σ H4 s4 ha4 hl4 ⟨gs,rfl,hG,u,v,rfl⟩;have lt:(DZ pl rs p).length=pl:=by unfold DZ; rw[cf,c7]
  rw[cf,lba,dC (by omega)] at hG;refine⟨acc,DZ pl rs p,rfl,⟨gs,ha4,hG.keep Ei (EE H4 acc)⟩,by omega,λt ht=>⟨hne p op t ht,?_⟩,λt H5 s5 hT5=>?_⟩
  ·obtain⟨j,_,rfl⟩:=cT.mp ht;have l1:=J9 rs p j;have l2:=KG rs p j;unfold Ez;rw[cX,cX,cX];have a1:(if j=0 then [2*(rs.length:Int)] else []).length<=1:=by split <;> simp
   have a2:(if j=1 then [2*(rs.length:Int)+1] else []).length<=1:=by split <;> simp
   omega
  ·exact q t p H5 (λb o n e=>s5 _ _ (s4 _ _ (bi2 b o n e))) (C4 ti2 (s4.trans s5)) op hT5
end
abbrev Ba(rows:List (List Rat)):List (List Rat):=rows.filter λr=>!Di r
structure Mg(bs:List AB)(P:List Sd):Prop where
 up:∀b∈bs,∃s∈P,Dd b.u b.l s=true
 dn:∀b∈bs,∃s∈P,Dd b.d b.l s=true
 ht:∀b∈bs,b.d<b.u/\BV (b.u-b.d)
 ne:∀p,EW (bs.map AB.l) p->∀t∈DZ P.length (bs.map (DQ P)) p,t≠[]
def S5(T1 T2:Addr)(H H':Hp):Prop:=∀b o,b≠T1->b≠T2->H b=some o->H' b=some o
abbrev Fy(L:List Sd):Prop:=L.Pairwise λs t=>Al (D0 t) (D0 s)=false
theorem XQ{L:List Sd}(h:2<=L.length):(Bx L).length=L.length:=by
 unfold Bx;rw[cX,List.length_dropLast,dN];show 2+_=_;omega
theorem Pz{P:List Sd}{v x:Int}(h:∃s∈P,Dd v x s=true):FO P v x<P.length:=List.findIdx_lt_length.mpr (by obtain⟨s,h1,h2⟩:=h; exact⟨s,h1,h2⟩)
theorem DR.Ba{W U:Rat}{rows:List (List Rat)}(k:DR W U rows):DR W U (Ba rows):=by
 refine⟨dg (fo _ _) k.len,λr hr=>k.four r (dR.mp hr).1,λq hq=>k.sz q ?_⟩;rcases cP.mp hq with h | hq
 ·exact cP.mpr (.inl h)
 rcases cP.mp hq with h | hq
 ·exact da _ (cP.mpr (.inl h))
 obtain⟨r,h1,h2⟩:=List.mem_flatten.mp hq;exact da _ (da _ (List.mem_flatten.mpr ⟨r,(dR.mp h1).1,h2⟩))
theorem Wy{H H':Hp}{T T2:Addr}{q q2:Str}(h:Bs H T q)(n:T2≠T)(b:Cv T H H')(h2:Bs H T2 q2):Bs H' T2 q2:=by
 obtain⟨L,t1,_⟩:=h;obtain⟨L2,e1,e2⟩:=h2;refine⟨L2,b _ _ n e1,λc hc=>b _ _ (λz=>?_) (e2 c hc)⟩
 have:=e2 c hc
 rw[z,t1] at this; cases this
theorem Hw{H H':Hp}{T b:Addr}{q:Str}{o:HO}(h:Bs H T q)(bt:Cv T H H')(e:H b=some o)(n:∀z,o≠.Bw z):H' b=some o:=by
 obtain⟨L,t1,_⟩:=h;exact bt b o (λz=>by rw[z,t1] at e; exact n _ (Option.some.inj e).symm) e
theorem CA.BF{H:Hp}{a b:Addr}{r:Rp}{ys:List V}(h:CA H b r)(e:H a=some (.AD ys)):CA (BF H a) b r:=by
 obtain⟨q,h1,h2⟩:=h;refine⟨q,Fn h1 (λz=>by rw[z,e] at h1; cases h1),?_⟩;exact Fn h2 (λz=>by have h2:H q=_:=h2; rw[z,e] at h2; cases h2)
section
variable {P:Program} {w:World} {K:PySem.W.Frag} {mg:Str->Option Value} {base:Heap} {f g h f1 f2 f3 f4 f5 f6 f7 f8 f9 c T T1 T2 C0:Addr} {fd gd hd d1 d2 d3 d4 d5 d6 d7 d8 d9:FuncData}
def MU:Sp:=λvs H Q _=>∃(a:Addr) (W U:Rat) (rows:List (List Rat)),vs=[.ref a]/\Ep H a W U rows/\DR W U rows/\(∀D,Jc W U rows D->PyData.eqv D covD=true)/\∀H',AN H H'->Q .Aj H'
theorem S0:Ar ["floor","found"] ["floor"] (Ah s_check_covers):=Av
theorem Yq(F:Fun K "check_covers" "check_covers" s_check_covers f fd)(G:AL P w K mg base AK 4 g gd ["floor"] LB)(bG:Af K gd ["floor"] [])(kG:KP K g)(mG:mg "looked" = some (.ref g)):AL P w K mg base AK 5 f fd ["floor"] MU:=by
 refine F.ok S0 (λvs H Q E h=>?_) (λcdv A outer s H vs Q E hr h=>?_)
 ·obtain⟨a,W,U,rows,rfl,_⟩:=h;rfl
 obtain⟨a,W,U,rows,rfl,hF,k,hc,q⟩:=h;refine⟨_,AS (Aa (i:=1) S0.nd rfl (Or.inl rfl) (Ac G hr (by rfl) mG kG bG .nil Ad (AA (pv 0) AG)))
  (AU (Bk (A4 (Ql hr.units) (pv 1) (Ao (AA GK AG)) (An _)) Jr B2)),?_⟩
 refine⟨_,rfl,Zb (E:=E0) hF k λo D H1 s1 lk rd=>?_⟩;refine⟨_,rfl,by exact sz1,λc hc'=>?_⟩;have s2:=AR hc' (.AF [.str "covers"]);have hc2:AE H1 c (.AF [.str "covers"]) c=some (.AF [.str "covers"]):=AM;generalize AE H1 c (.AF [.str "covers"])=H2 at s2 hc2;refine⟨D,covD,rd.keep s2,Q9 hc2,lk.Na,⟨Ls,OV⟩,_,rfl,?_⟩;rw[hc D lk];exact CO (q _ (s1.trans s2))
def NJ(T1 T2:Addr):Sp:=λvs H Q _=>∃(a:Addr) (W U:Rat) (rows:List (List Rat)),vs=[.ref a]/\Ep H a W U rows/\DR W U rows/\(∀D,Jc W U rows D->PyData.eqv D covD=true)/\Bs H T1 Kn/\Bs H T2 IE/\T2≠T1/\(Ba rows).length<=14/\∃(m n:Int) (bs:List AB),m=wh (cb (nums W U (Ba rows))) W/\n=wh (cb (nums W U (Ba rows))) U/\bs=Cr (cb (nums W U (Ba rows))) (Ba rows) /\
 (∀L,L.Perm (CC m n bs)->Fy L->2<=(L.foldl BW []).length/\Mg bs (Bx (L.foldl BW []))) /\
 ∀(L:List Sd) (p:List Nat) (X:List Sd) (t ra ta:Addr) (H':Hp),L.Perm (CC m n bs)->Fy L->EW (bs.map AB.l) p->S5 T1 T2 H H'->X=Bx (L.foldl BW [])->H' t=some (.AF [.int (X.length:Int),.ref ra,.ref ta])->BA CA H' ra (bs.map (DQ X))->BA Bq H' ta ((DZ X.length (bs.map (DQ X)) p).map Bm)->Q (.ref t) H'
theorem IF:Ar ["floor","solid","whole","lines","ropes","lefts"] ["floor"] (Ah s_net_of):=Av
theorem ay:(["rectangle","lines"]:List Str).Nodup:=by decide +kernel
theorem aV:(["rectangle"]:List Str).Nodup:=by decide +kernel
set_option maxHeartbeats 4000000 in
theorem ZT (F:Fun K "net_of" "net_of" s_net_of f fd) (G1:AL P w K mg base AK 5 f1 d1 ["floor"] MU) (b1:Af K d1 ["floor"] []) (k1:KP K f1) (m1:mg "check_covers" = some (.ref f1))
  (G2:AL P w K mg base AK 2 f2 d2 ["floor"] NP) (b2:Af K d2 ["floor"] []) (k2:KP K f2) (m2:mg "without_points" = some (.ref f2))
  (G3:AL P w K mg base AK 1 f3 d3 ["floor"] Ki) (b3:Af K d3 ["floor"] []) (k3:KP K f3) (m3:mg "numbers_of" = some (.ref f3))
  (G4:AL P w K mg base AK 2 f4 d4 ["row"] Kt) (b4:Af K d4 ["row"] []) (k4:KP K f4) (m4:mg "common_bottom" = some (.ref f4))
  (G5:AL P w K mg base AK 2 f5 d5 ["floor","bottom"] LC) (b5:Af K d5 ["floor","bottom"] []) (k5:KP K f5) (m5:mg "whole_floor" = some (.ref f5))
  (G6:AL P w K mg base AK 5 f6 d6 ["width","height","rectangles"] (M3 T1)) (b6:Af K d6 ["width","height","rectangles"] []) (k6:KP K f6) (m6:mg "level_sides" = some (.ref f6))
  (G7:AL P w K mg base AK 1 f7 d7 ["sides"] M5) (b7:Af K d7 ["sides"] []) (k7:KP K f7) (m7:mg "lines_of" = some (.ref f7))
  (G8:AL P w K mg base AK 1 f8 d8 ["lines"] Mu) (b8:Af K d8 ["lines"] []) (k8:KP K f8) (m8:mg "placed" = some (.ref f8))
  (G9:AL P w K mg base AK 3 f9 d9 ["lines","rectangle"] K0) (b9:Af K d9 ["lines","rectangle"] []) (k9:KP K f9) (m9:mg "rope_of" = some (.ref f9))
  (G:AL P w K mg base AK 6 g gd ["places","ropes","lefts"] (M8 T2)) (bG:Af K gd ["places","ropes","lefts"] []) (kG:KP K g) (mG:mg "turns_of" = some (.ref g))
  (ml:mg "len" = none) (mt:mg "tuple" = none):AL P w K mg base AK 7 f fd ["floor"] (NJ T1 T2):=by
 refine F.ok IF (λvs H Q E h=>?_) (λcdv A outer s H vs Q E hr h=>?_)
 ·obtain⟨a,W,U,rows,rfl,_⟩:=h;rfl
 obtain⟨a,W,U,rows,rfl,hF,k,hc,hT1,hT2,nT,n14,m,n,bs,hm,hn,hbs,ok,q⟩:=h;have r1:=hr.mono (show 1<=6 by decide);have r2:=hr.mono (show 2<=6 by decide);have r3:=hr.mono (show 3<=6 by decide);have r5:=hr.mono (show 5<=6 by decide);refine⟨_,AS (Cq (Ac G1 r5 (by rfl) m1 k1 b1 .nil Ad (AA (pv 0) AG)))
  (AS (Aa (i:=1) IF.nd rfl (Or.inl rfl) (Ac G2 r2 (by rfl) m2 k2 b2 .nil Ad (AA (pv 0) AG)))
  (AS (Bk (A4 FL (As (Bo (K:=K)) (by rfl) ml Bh (AA (pT K (pv 1) AH) AG)) AH (An _)) Jr B2)
  (AS (Aa (i:=2) IF.nd rfl (Or.inl rfl) (Ac G5 r2 (by rfl) m5 k5 b5 .nil Ad (AA (pv 1) (AA (Ac G4 r2 (by rfl) m4 k4 b4 .nil Ad (AA (Ac G3 r1 (by rfl) m3 k3 b3 .nil Ad (AA (pv 1) AG)) AG)) AG))))
  (AS (Aa (i:=3) IF.nd rfl (Or.inr rfl) (Ac G8 r1 (by rfl) m8 k8 b8 .nil Ad (AA (Ac G7 r1 (by rfl) m7 k7 b7 .nil Ad (AA (Ac G6 r5 (by rfl) m6 k6 b6 .nil Ad (AA (pT K (pv 2) AH) (AA (pT K (pv 2) AH) (AA (pT K (pv 2) AH) AG)))) AG)) AG)))
  (AS (Aa (i:=4) IF.nd rfl (Or.inl rfl) (Dr (Fi (K:=K)) (by rfl) mt ED (AA (EH (Nc:=["rectangle","lines"]) (cap:=[(1,3)]) (g:=BG 0) (te:=Fs K0 [] E0 (BQ (Au 1) (BQ (Au 0) B7))) rfl (Cu (K:=K) (pT K (pv 2) AH))
    (B1 rfl rfl (by decide +kernel) (by decide +kernel) (cy.mpr ⟨⟨rfl,rfl⟩,cQ _⟩) rfl (cy.mpr ⟨⟨_,_,rfl,rfl,rfl,rfl,rfl⟩,cQ _⟩))
    (λ_ _ _ _ _=>AV (i:=0) ay rfl (Or.inl rfl)) (λ_ _ _ _ _=>Ac (CX:=AK) G9 r3 (by rfl) m9 k9 b9 .nil Ad (AA (pv 1) (AA (pv 0) AG)))) AG)))
  (AS (Gw (i:=5) IF.nd rfl (Or.inl rfl) (Nc:=["rectangle"]) (cap:=[]) (g:=BG 0) (te:=BM (Gf K) (Au 0) (tC (.int 0))) rfl (Cu (K:=K) (pT K (pv 2) AH)) (B1 rfl rfl (by decide +kernel) (by decide +kernel) (cQ _) rfl (cQ _)) (λ_ _ _ _ _=>AV (i:=0) aV rfl (Or.inl rfl)) (λ_ _ _ _ _=>pL K (pv 0) AH))
  (AU (Ak (Ao (AA (As (Bo (K:=K)) (by rfl) ml Bh (AA (pv 3) AG)) (AA (pv 4) (AA (Ac G hr (by rfl) mG kG bG .nil Ad (AA (As (Bo (K:=K)) (by rfl) ml Bh (AA (pv 3) AG)) (AA (pv 4) (AA (pv 5) AG)))) AG)))))))))))),?_⟩
 have ks:=k.Ba;have l30:=k.len;refine⟨_,rfl,a,W,U,rows,rfl,hF,k,hc,λH1 s1=>?_⟩;refine⟨_,rfl,a,W,U,rows,rfl,Lp s1 hF,by omega,k.four,λps H2 s2 hps=>?_⟩;obtain⟨x1,x2,x3,e1,f1',f2',bs',e4,hB'⟩:=id hps;have lb:((bs'.map V.ref).length:Int)=((Ba rows).length:Int):=by rw[cf,hB'.1]
 refine⟨_,rfl,ps,_,_,_,rfl,rfl,AO.of e1,DD _ _ _,x3,_,rfl,.inr (AO.of e4),_,_,rfl,rfl,_,rfl,?_⟩;rw[lb];refine Bj (by omega) ?_;refine⟨_,rfl,_,rfl,ps,W,U,Ba rows,rfl,hps,by omega,ks.four,λpn H3 s3 hN=>⟨pn,_,16,rfl,hN,λy hy=>(ks.sz y hy).1,by have:=ks.Nq; omega,?_⟩⟩;refine⟨ps,_,W,U,Ba rows,rfl,Lp s3 hps,by omega,ks.four,ks.big,λpw l H4 s4 hw hL=>?_⟩;have hB:=ON ks.four hL;rw[<-hm,<-hn] at hw;rw[<-hbs] at hB;have lbs:bs.length<=14:=by rw[hbs,Cr,cf]; exact n14
 clear hm hn hbs hL hN;have s04:=s1.trans (s2.trans (s3.trans s4));refine⟨_,rfl,pw,_,_,_,rfl,rfl,AO.of hw,Dy _ _ _,_,rfl,pw,_,_,_,rfl,rfl,AO.of hw,D5 _ _ _,_,rfl,pw,_,_,_,rfl,rfl,AO.of hw,DD _ _ _,?_⟩;refine⟨m,n,l,bs,rfl,hB,lbs,C4 hT1 s04,λD L H5 bt5 tb5 hD pL rL=>?_⟩;obtain⟨o1,o2⟩:=ok L pL rL;have lL:L.length<=30:=by
  rw[pL.length_eq,CC,cX,KI]; show 2+_<=_; omega
 have fl:=J6 L [];rw[List.length_nil] at fl;have q:=q L;refine⟨D,L,rfl,hD,by omega,λl1 H6 s6 hl1=>?_⟩;refine⟨l1,_,rfl,hl1,o1,by omega,λl2 H7 s7 hl2=>?_⟩;have lX:(Bx (L.foldl BW [])).length=(L.foldl BW []).length:=XQ o1;have q:=λp=>q p (Bx (L.foldl BW []))
 generalize Bx (L.foldl BW [])=X at *;have t1:=C4 hT1 s04;have hw7:=s7 _ _ (s6 _ _ (Hw t1 bt5 hw (λz y=>by cases y)));obtain⟨cs,hl,hC⟩:=hB;have hl7:=s7 _ _ (s6 _ _ (Hw t1 bt5 hl (λz y=>by cases y)));have hC7:At Ck H7 cs bs:=⟨hC.1,λi b x e1 e2=>s7 _ _ (s6 _ _ (Hw t1 bt5 (hC.2 i b x e1 e2) (λz y=>by cases y)))⟩;have b7:∀b o,b≠T1->H b=some o->H7 b=some o:=λb o n e=>s7 _ _ (s6 _ _ (bt5 b o n (s04 _ _ e)))
 have t27:Bs H7 T2 IE:=C4 (Wy t1 nT bt5 (C4 hT2 s04)) (s6.trans s7);clear hw hl hC hD hl1 t1 tb5 bt5 s04;have lc:cs.length=bs.length:=hC7.1;have lr:(bs.map (DQ X)).length=bs.length:=cf _;refine⟨_,rfl,pw,_,_,_,rfl,rfl,AO.of hw7,DD _ _ _,l,rfl,⟨_,AJ.of hl7⟩,λacc hacc=>?_⟩;refine Cf (Fh hl7) (by rw[cf]; omega) hacc (λi ys σ hp=>∃ds:List Addr,ys=ds.map V.ref/\At CA hp ds ((bs.map (DQ X)).take i)/\∃u,σ=[u,some (.ref l2)]) ⟨[],rfl,At.nil,none,rfl⟩ ?_ ?_
 ·rintro i ys σ H8 x H9 hi sm hacc2 ⟨ds,rfl,hD,u,rfl⟩ ⟨rfl,hx⟩ Cc hCc;obtain⟨cb,b,rfl,_,hb,hbx⟩:=hC7.ref hx;have bm:=cq hb;refine⟨_,rfl,_,rfl,l2,cb,X,b,rfl,HD (R:=A7) (λs h=>Cs s h) sm hl2,sm _ _ hbx,o2.up b bm,o2.dn b bm,(o2.ht b bm).1,(o2.ht b bm).2,λt H9 s9 ht=>?_⟩;refine hCc _ _ _ s9 ⟨ds++[t],by simp,?_,_,rfl⟩;have ec:(bs.map (DQ X))[i]?=some (DQ X b):=by rw[cu,hb]; rfl
  rw[BO ec];exact(hD.keep Ew (FD acc s9)).snoc (ht.BF (s9 _ _ hacc2))
 rintro ys σ H8 s8 hacc2 hl8 ⟨ds,rfl,hD,u,rfl⟩;rw[cf,lc,dC (by omega)] at hD;refine⟨acc,_,rfl,.inl ⟨AJ.of hacc2,λra hra=>?_⟩⟩;have s9:=AR hra (.AF (ds.map V.ref));have hRa:BA CA (AE H8 ra (.AF (ds.map V.ref))) ra (bs.map (DQ X)):=⟨ds,AM,(hD.keep Ew (EE H8 acc)).keep Ew s9⟩;generalize AE H8 ra (.AF (ds.map V.ref))=H9 at s9 hRa;have s79:=s8.trans s9;refine⟨_,rfl,pw,_,_,_,rfl,rfl,AO.of (s79 _ _ hw7),DD _ _ _,l,rfl,⟨_,AJ.of (s79 _ _ hl7)⟩,λla hla=>?_⟩;refine Cf (Fh (s79 _ _ hl7)) (by rw[cf]; omega) hla (λi ys σ hp=>ys=((bs.map AB.l).take i).map V.int/\∃u,σ=[u]) ⟨rfl,none,rfl⟩ ?_ ?_
 ·rintro i ys σ Ha x Hb hi sm hacc3 ⟨rfl,u,rfl⟩ ⟨rfl,hx⟩ Cc hCc;obtain⟨cb,b,rfl,_,hb,hbx⟩:=hC7.ref hx;have hbx:H7 cb=_:=hbx;refine⟨_,rfl,cb,_,_,_,rfl,rfl,AJ.of (sm _ _ (s79 _ _ hbx)),hd0 _ _,hCc _ _ _ (AN.refl _) ⟨?_,_,rfl⟩⟩;rw[BO (show(bs.map AB.l)[i]?=some b.l by rw[cu,hb]; rfl),dh]; rfl
 rintro ys σ Ha sa hla2 hlen ⟨rfl,u,rfl⟩;rw[cf,lc,dC (by rw[cf]; omega)] at hla2;have s7a:=s79.trans sa;obtain⟨es,hes,hEs⟩:=HD (R:=A7) (λs h=>Cs s h) s7a hl2;have lX2:((es.map V.ref).length:Int)=(X.length:Int):=by rw[cf,hEs.1]
 refine⟨_,rfl,l2,_,rfl,.inl (AJ.of hes),_,rfl,_,rfl,l2,_,rfl,.inl (AJ.of hes),_,rfl,_,rfl,?_⟩;rw[lX2];refine⟨X.length,ra,la,bs.map (DQ X),bs.map AB.l,rfl,EL (R:=CA) (λs h=>Ew s h) sa hRa,hla2,by rw[cf,cf],by omega,by omega,by omega,λr hr=>?_,o2.ne,C4 t27 s7a,λta p Hb bb tb op hta=>?_⟩
 ·obtain⟨b,hb,rfl⟩:=cT.mp hr;exact⟨Pz (o2.up b hb),Pz (o2.dn b hb)⟩
 refine⟨by exact CB,λt ht=>?_⟩;have sb:=AR ht (.AF [.int (X.length:Int),.ref ra,.ref ta]);have ta':=C4 t27 s7a;obtain⟨ds2,hr2,hD2⟩:=EL (R:=CA) (λs h=>Ew s h) sa hRa;have hRb:BA CA Hb ra (bs.map (DQ X)):=⟨ds2,Hw ta' bb hr2 (λz y=>by cases y),hD2.1,λi b x e1 e2=>by
  obtain⟨qf,g1,g2⟩:=hD2.2 i b x e1 e2;exact⟨qf,Hw ta' bb g1 (λz y=>by cases y),Hw ta' bb g2 (λz y=>by cases y)⟩⟩
 exact q p t ra ta _ pL rL op (λb o n1 n2 e=>sb _ _ (bb b o n2 (s7a _ _ (b7 b o n1 e)))) rfl AM (EL (R:=CA) (λs h=>Ew s h) sb hRb) (EL (R:=Bq) (λs h=>Ei s h) sb hta)
end
end My
namespace My
open PySem L2 Mth Wd Fl
abbrev b4(b:AB):List Int:=[b.l,b.d,b.r,b.u]
def Cd(q:Rat)(b:AB):List Rat:=(b4 b).map λe:Int=>q*(e:Rat)
theorem XG{q:Rat}{b:AB}{j:Nat}{e:Int}(h:(b4 b)[j]?=some e):(Cd q b)[j]?=some (q*(e:Rat)):=by
 unfold Cd; rw[cu,h]; rfl
theorem MF{H:Hp}{p:Addr}{n:Int}(h:H p=some (.AF [.int n,.int 1])):Ag H p (n:Rat):=h
theorem Qh{H:Hp}{a:Addr}{ds:List Addr}{rs:List (List Rat)}{ys:List V}(h:At (BA Ag) H ds rs)(e:H a=some (.AD ys))(o:HO):At (BA Ag) (AE H a o) ds rs :=
 ⟨h.1,λi c x e1 e2=>Ex (RA H a o) (Td (h.2 i c x e1 e2) e)⟩
abbrev Tg(b:AB):Prop:=b.l.natAbs<=2 ^ 64/\b.d.natAbs<=2 ^ 64/\b.r.natAbs<=2 ^ 64/\b.u.natAbs<=2 ^ 64
theorem Z0{b:AB}{j:Nat}{e:Int}(h:Tg b)(he:(b4 b)[j]?=some e):e.natAbs<=2 ^ 64:=by
 obtain⟨h1,h2,h3,h4⟩:=h
 have:=cq he
 simp only[b4,cP,de,or_false] at this;rcases this with rfl | rfl | rfl | rfl <;> assumption
theorem Mb{q:Rat}(h:q.den<=2 ^ 16/\q.num.natAbs<=2 ^ 64):Sf q:=⟨dg h.2 (fP (by decide) (by decide)),dg h.1 (fP (by decide) (by decide))⟩
theorem MJ{e:Int}(h:e.natAbs<=2 ^ 64):Sf (e:Rat):=Mb ⟨by show 1<=_; exact Nat.one_le_two_pow,h⟩
abbrev Pt:Type:=Int×Rat×Rat
def Hg(H:Hp)(p:Addr)(t:Pt):Prop:=∃x y,H p=some (.AF [.int t.1,.ref x,.ref y])/\Ag H x t.2.1/\Ag H y t.2.2
theorem aC:Mo Hg:=λs ⟨x,y,h1,h2,h3⟩=>⟨x,y,s _ _ h1,s _ _ h2,s _ _ h3⟩
def EY(t:Pt):List Rat:=[t.2.1,t.2.2,t.2.1,t.2.2]
theorem Yd(t:Pt):Di (EY t)=true:=by simp[Di,EY]
structure EZ(ps base rows:List (List Rat)):Prop where
 f:(rows.filter λr=>!Di r)=base.filter λr=>!Di r
 m:∀r∈rows,r∈base\/r∈ps
 l:rows.length=base.length+ps.length
 t:∀P:List (List Rat)->Prop,P base->(∀(rows:List (List Rat)) (k:Nat) (r:List Rat),P rows->r∈ps->P (rows.take k++r :: rows.drop k))->P rows
theorem EZ.nil(base:List (List Rat)):EZ [] base base:=⟨rfl,λr h=>.inl h,rfl,λP h _=>h⟩
theorem EZ.more{ps base rows:List (List Rat)}{r:List Rat}(h:EZ ps base rows)(k:Nat)(e:Di r=true):EZ (ps++[r]) base (rows.take k++r :: rows.drop k):=by
 refine⟨?_,λx hx=>?_,?_,λP h0 hs=>hs rows k r (h.t P h0 λrows k x z hx=>hs rows k x z (cS.mpr (.inl hx))) (cS.mpr (.inr (cW.mpr rfl)))⟩
 ·rw[<-h.f,eM,eT,e];show _++(rows.drop k).filter _=_;rw[<-List.filter_append,fL]
 ·rcases cS.mp hx with hx | hx
  ·rcases h.m x (List.mem_of_mem_take hx) with z | z
   ·exact .inl z
   ·exact .inr (cS.mpr (.inl z))
  ·rcases cP.mp hx with rfl | hx
   ·exact .inr (cS.mpr (.inr (cW.mpr rfl)))
   ·rcases h.m x (List.mem_of_mem_drop hx) with z | z
    ·exact .inl z
    ·exact .inr (cS.mpr (.inl z))
 ·have:=h.l
  rw[cX,dM,dm,dN,cX,fm]; omega
theorem At.EA{α:Type}{R:Hp->Addr->α->Prop}{H:Hp}{ds:List Addr}{rs:List α}{p:Addr}{x:α}(h:At R H ds rs)(k:Nat)(r:R H p x):At R H (ds.take k++p :: ds.drop k) (rs.take k++x :: rs.drop k):=by
 refine⟨by simp[h.1],λi b y e1 e2=>?_⟩;have l1:(ds.take k).length=(rs.take k).length:=by simp[h.1]
 rcases c5 i (ds.take k).length with z | z
 ·rw[d0 z] at e1;rw[d0 (by omega)] at e2;rw[List.getElem?_take] at e1 e2;split at e1
  ·rename_i c; rw[if_pos c] at e2; exact h.2 i b y e1 e2
  ·cases e1
 ·rw[ed z] at e1;rw[ed (by omega)] at e2;rw[<-l1] at e2;rcases hj:i-(ds.take k).length with _ | j
  ·rw[hj] at e1 e2;cases e1; cases e2; exact r
  ·rw[hj,List.getElem?_cons_succ,List.getElem?_drop] at e1;rw[hj,List.getElem?_cons_succ,List.getElem?_drop] at e2;exact h.2 _ b y e1 e2
theorem V2(ds:List Addr)(k:Nat)(p:Addr):(ds.map V.ref).take k++V.ref p :: (ds.map V.ref).drop k=(ds.take k++p :: ds.drop k).map V.ref:=by
 rw[dh,eJ,List.map_take,List.map_drop]
section
variable {P:Program} {w:World} {K:PySem.W.Frag} {mg:Str->Option Value} {base:Heap} {f g h f1 f2 f3:Addr} {fd gd hd d1 d2 d3:FuncData}
inductive SF(K:PySem.W.Frag)(vs:List V)(H:Hp)(Q:VK):Prop
 | mk (a s t l:Addr) (W U:Int) (q:Rat) (bs:List AB) (pts:List Pt) (h_0:vs=[.ref a,.ref s,.ref t]) (h_1:H a=some (.AF [.int W,.int U,.ref l])) (h_2:Ax BE H l bs) (h_3:bs.length<=30) (h_4:Ag H s q) (h_5:Sf q) (h_6:Ax Hg H t pts/\pts.length<=3/\∀p∈pts,0<=p.1) (h_7:∀b∈bs,Tg b) (h_8:W.natAbs<=2 ^ 64) (h_9:U.natAbs<=2 ^ 64)
   (h_10:∀p rows H',AN H H'->Ep H' p (q*(W:Rat)) (q*(U:Rat)) rows->EZ (pts.map EY) (bs.map (Cd q)) rows->Q (.ref p) H'):SF K vs H Q
def Mp(K:PySem.W.Frag):Sp:=λvs H Q _=>SF K vs H Q
theorem GA:Ar ["_law_built","_law_share_here","_law_points_here","_law_wide","_law_high","_law_boxes_here","_law_rows","_law_box","_law_at","_law_x","_law_y"] ["_law_built","_law_share_here","_law_points_here"] (Ah s_law_scaled):=Av
theorem bJ:(["_law_number","_law_share_here"]:List Str).Nodup:=by decide +kernel
seal L2.Bu L2.PS L2.PE L2.PA in
set_option maxHeartbeats 8000000 in
theorem Zj(F:Fun K "_law_scaled" "_law_scaled" s_law_scaled f fd)(G:AL P w K mg base AK 2 g gd ["_law_one","_law_other"] (JF λx y=>x*y))(bG:Af K gd ["_law_one","_law_other"] [])(kG:KP K g)(mG:mg "_law_mul" = some (.ref g))(mt:mg "tuple" = none)(ml:mg "len" = none):
  AL P w K mg base AK 3 f fd ["_law_built","_law_share_here","_law_points_here"] (Mp K):=by
 refine F.ok GA (λvs H Q E h=>?_) (λcdv A outer s H vs Q E hr h=>?_)
 ·obtain⟨a,s,t,l,W,U,q,bs,pts,rfl,_⟩:=h;rfl
 obtain⟨a,sh,t,l,W,U,sg,bs,pts,rfl,ha,⟨cs,hl,hC⟩,n30,hs,sf,⟨⟨ts,ht,hP⟩,n3,pn⟩,sm,sW,sU,q⟩:=h;refine⟨_,AS (Fp (pv 0) (Ca (K:=K) rfl (Ai (AV (i:=3) GA.nd rfl (Or.inl rfl)) (Ai (AV (i:=4) GA.nd rfl (Or.inl rfl)) (Ai (AV (i:=5) GA.nd rfl (Or.inl rfl)) CS)))))
  (AS (Aa (i:=6) GA.nd rfl (Or.inl rfl) (B3 AG))
  (AS (Bv dv rfl (Cu (K:=K) (pv 5)) (AV (i:=7) GA.nd rfl (Or.inl rfl))
   (AU (Cq (C7 K dc dG dH DT (pv 6) (AA (Dr (Fi (K:=K)) (by rfl) mt ED (AA
    (EH (Nc:=["_law_number","_law_share_here"]) (cap:=[(1,1)]) (g:=BG 0) (te:=Fs (JF λx y=>x*y) [] E0 (BQ (Au 1) (BQ (K3 (BQ (Au 0) (BQ (tC (.int 1)) B7))) B7))) rfl (IM (K:=K) (pv 7))
    (B1 rfl rfl (by decide +kernel) (by decide +kernel) (cy.mpr ⟨⟨rfl,rfl⟩,cQ _⟩) rfl (cy.mpr ⟨⟨_,_,rfl,rfl,rfl,rfl,rfl⟩,cQ _⟩))
    (λ_ _ _ _ _=>AV (i:=0) bJ rfl (Or.inl rfl)) (λ_ _ _ _ _=>Ac G hr (by rfl) mG kG bG .nil Ad (AA (pv 1) (AA (Ao (AA (pv 0) (AA AH AG))) AG)))) AG)) AG)))))
  (AS (Bv dv rfl (Cu (K:=K) (pv 2)) (Ca (n:=3) (K:=K) rfl (Ai (AV (i:=8) GA.nd rfl (Or.inl rfl)) (Ai (AV (i:=9) GA.nd rfl (Or.inl rfl)) (Ai (AV (i:=10) GA.nd rfl (Or.inl rfl)) CS)))) (AU (Cq (C7 K dc PySem.F.slot_list_insert PySem.F.type_list_insert Oc (pv 6) (AA (AQ Bi (pv 8) (AQ A5 (As (Bo (K:=K)) (by rfl) ml Bh (AA (pv 6) AG)) AH)) (AA (Ao (AA (pv 9) (AA (pv 10) (AA (pv 9) (AA (pv 10) AG))))) AG))))))
  (AU (Ak (Ao (AA (Ac G hr (by rfl) mG kG bG .nil Ad (AA (pv 1) (AA (Ao (AA (pv 3) (AA AH AG))) AG))) (AA (Ac G hr (by rfl) mG kG bG .nil Ad (AA (pv 1) (AA (Ao (AA (pv 4) (AA AH AG))) AG)))
   (AA (Dr (Fi (K:=K)) (by rfl) mt ED (AA (pv 6) AG)) AG))))))))),?_⟩
 have lc:cs.length=bs.length:=hC.1;refine⟨_,rfl,a,_,rfl,AO.of ha,rfl,_,_,rfl,_,_,rfl,_,_,rfl,rfl,?_⟩;refine⟨by exact Hs,λL hL=>?_⟩;have s1:=AR hL (.AD []);have g1:(AE H L (.AD [])) L=some (.AD (([]:List Addr).map V.ref)):=AM;generalize AE H L (.AD [])=H1 at s1 g1;refine⟨_,rfl,l,rfl,⟨_,AJ.of (s1 _ _ hl)⟩,?_⟩;refine Fg (xs:=cs.map V.ref) (λi σ H2=>AN H H2/\∃(u:Option V) (ds:List Addr),σ=[some (.ref a),some (.ref sh),some (.ref t),some (.int W),some (.int U),some (.ref l),some (.ref L),u,none,none,none]/\H2 L=some (.AD (ds.map V.ref))/\At (BA Ag) H2 ds ((bs.map (Cd sg)).take i))
  ⟨s1,none,[],rfl,g1,At.nil⟩ (λi σ H2 _ ⟨s2,_⟩=>AJ.of (s2 _ _ hl)) ?_ ?_
 ·rintro i x σ H2 hx ⟨s2,u,ds,rfl,hds,hD⟩;obtain⟨cb,b,rfl,_,hb,fb⟩:=hC.ref hx;have smb:=sm b (cq hb);have hi:i<bs.length:=(cm.mp hb).1;have ld:ds.length<=i:=by rw[hD.1,dm]; exact Nat.min_le_left _ _
  have fb2:H2 cb=some (.AF ((b4 b).map V.int)):=s2 _ _ fb;refine⟨_,rfl,.inl ⟨rfl,_,AJ.of hds⟩,_,rfl,cb,rfl,⟨_,AO.of fb2⟩,λacc hacc=>?_⟩;refine Cf (G0 fb2) (by show 4<=1000; decide) hacc (λj ys σ hp=>∃es:List Addr,ys=es.map V.ref/\At Ag hp es ((Cd sg b).take j)/\∃u,σ=[u,some (.ref sh)]) ⟨[],rfl,At.nil,none,rfl⟩ ?_ ?_
  ·rintro j ys2 σ2 H6 x2 H7 hj sm2 hacc6 ⟨es,rfl,hE,u2,rfl⟩ ⟨rfl,hx2⟩ Cc2 hC2;obtain⟨e,rfl,he⟩:=Io hx2;refine⟨_,rfl,_,rfl,by exact sz2,λp3 hp3=>?_⟩;have s3:=AR hp3 (.AF [.int e,.int 1]);have g3:(AE H7 p3 (.AF [.int e,.int 1])) p3=some (.AF [.int e,.int 1]):=AM;generalize AE H7 p3 (.AF [.int e,.int 1])=H8 at s3 g3;refine⟨sh,p3,sg,(e:Rat),rfl,(s2.trans (sm2.trans s3)) _ _ hs,MF g3,sf,MJ (Z0 smb he),λp4 hp4=>?_⟩;have s4:=AR hp4 (.AF [.int (sg*(e:Rat)).num,.int (sg*(e:Rat)).den]);have st:=s3.trans s4;refine hC2 _ _ _ st ⟨es++[p4],by simp,?_,_,rfl⟩;rw[BO (XG (q:=sg) he)];exact(hE.keep EO (FD acc st)).snoc (Ag.BF (show Ag _ p4 _ from AM) (st _ _ hacc6))
  rintro ys2 σ2 H6 s6 hacc6 hl6 ⟨es,rfl,hE,u2,rfl⟩;rw[show(Cd sg b).take ((b4 b).map V.int).length=Cd sg b from rfl] at hE;refine⟨acc,_,rfl,.inl ⟨AJ.of hacc6,λpt hpt=>?_⟩⟩;have st:=AR hpt (.AF (es.map V.ref));have gt:BA Ag (AE H6 pt (.AF (es.map V.ref))) pt (Cd sg b):=⟨es,AM,(hE.keep EO (EE H6 acc)).keep EO st⟩;generalize AE H6 pt (.AF (es.map V.ref))=H7 at st gt;have s27:=s6.trans st;refine⟨L,_,_,rfl,rfl,s27 _ _ hds,by rw[cf]; exact GW (by omega),?_⟩;refine⟨DW (s2.trans s27) hL _,_,ds++[pt],rfl,by rw[AM]; simp,?_⟩;rw[BO (x:=Cd sg b) (by rw[cu,hb]; rfl)];exact Qh ((hD.keep Ex s27).snoc gt) (s27 _ _ hds) _
 ·rintro σ H2 ⟨s2,u,ds,rfl,hds,hD⟩;rw[cf,lc,dC (by rw[cf]; omega)] at hD;refine⟨_,rfl,t,rfl,⟨_,AJ.of (s2 _ _ ht)⟩,?_⟩;have lt:ts.length=pts.length:=hP.1;refine Fg (xs:=ts.map V.ref) (λi σ H3=>AN H H3/\∃(u8 u9 ua:Option V) (ds:List Addr) (rows:List (List Rat)),σ=[some (.ref a),some (.ref sh),some (.ref t),some (.int W),some (.int U),some (.ref l),some (.ref L),u,u8,u9,ua]/\H3 L=some (.AD (ds.map V.ref))/\At (BA Ag) H3 ds rows/\EZ ((pts.map EY).take i) (bs.map (Cd sg)) rows)
   ⟨s2,none,none,none,ds,_,rfl,hds,hD,EZ.nil _⟩ (λi σ H3 _ ⟨s3,_⟩=>AJ.of (s3 _ _ ht)) ?_ ?_
  ·rintro i x σ H3 hx ⟨s3,u8,u9,ua,es,rows,rfl,hes,hE,hI⟩;obtain⟨cp,pt,rfl,_,hpt,px,py,fp,fx,fy⟩:=hP.ref hx;have p0:=pn pt (cq hpt);have il:=(cm.mp hpt).1;have le:es.length=rows.length:=hE.1;have lr:=hI.l;rw[cf,dm,cf] at lr;refine⟨cp,_,rfl,AO.of (s3 _ _ fp),rfl,_,_,rfl,_,_,rfl,_,_,rfl,rfl,?_⟩;refine⟨_,rfl,.inl ⟨rfl,_,AJ.of hes⟩,_,rfl,_,rfl,L,_,rfl,.inl (AJ.of hes),_,_,rfl,rfl,_,_,rfl,rfl,?_,_,rfl,_,rfl,_,rfl,_,rfl,by exact DO,λp4 hp4=>?_⟩
   ·show(0:Int)<_;omega
   have s4:=AR hp4 (.AF [.ref px,.ref py,.ref px,.ref py]);have g4:BA Ag (AE H3 p4 (.AF [.ref px,.ref py,.ref px,.ref py])) p4 (EY pt):=by
    refine⟨[px,py,px,py],AM,?_⟩;have fx:=s4 _ _ (s3 _ _ fx);have fy:=s4 _ _ (s3 _ _ fy);exact(((At.nil.snoc (R:=Ag) (b:=px) (x:=pt.2.1) fx).snoc (b:=py) (x:=pt.2.2) fy).snoc (b:=px) (x:=pt.2.1) fx).snoc (b:=py) (x:=pt.2.2) fy
   generalize AE H3 p4 (.AF [.ref px,.ref py,.ref px,.ref py])=H4 at s4 g4;have m1:=dZ pt.1 (show(((es.map V.ref).length:Int)+1)≠0 by omega);have m2:=dE pt.1 (show 0<(((es.map V.ref).length:Int)+1) by omega);refine⟨L,_,_,_,rfl,rfl,s4 _ _ hes,m1,by omega,by rw[cf]; omega,?_⟩;rw[V2];refine⟨DW (s3.trans s4) hL _,_,_,_,_,_,rfl,AM,Qh (At.EA (hE.keep Ex s4) _ g4) (s4 _ _ hes) _,?_⟩;rw[BO (x:=EY pt) (by rw[cu,hpt]; rfl)];exact hI.more _ (Yd pt)
  clear hD hds s2;rintro σ H3 ⟨s2,u8,u9,ua,ds,rows,rfl,hds,hD,hI⟩;rw[cf,lt,dC (by rw[cf]; exact cR _)] at hI;refine⟨_,rfl,_,rfl,by exact sz2,λp3 hp3=>?_⟩;have s3:=AR hp3 (.AF [.int W,.int 1]);have g3:(AE H3 p3 (.AF [.int W,.int 1])) p3=some (.AF [.int W,.int 1]):=AM;generalize AE H3 p3 (.AF [.int W,.int 1])=H4 at s3 g3;refine⟨sh,p3,sg,(W:Rat),rfl,(s2.trans s3) _ _ hs,MF g3,sf,MJ sW,λt1 ht1=>?_⟩;have s4:=AR ht1 (.AF [.int (sg*(W:Rat)).num,.int (sg*(W:Rat)).den]);have f1:Ag (AE H4 t1 (.AF [.int (sg*(W:Rat)).num,.int (sg*(W:Rat)).den])) t1 (sg*(W:Rat)):=AM;generalize AE H4 t1 (.AF [.int (sg*(W:Rat)).num,.int (sg*(W:Rat)).den])=H5 at s4 f1;refine⟨_,rfl,_,rfl,by exact sz2,λp5 hp5=>?_⟩;have s5:=AR hp5 (.AF [.int U,.int 1]);have g5:(AE H5 p5 (.AF [.int U,.int 1])) p5=some (.AF [.int U,.int 1]):=AM;generalize AE H5 p5 (.AF [.int U,.int 1])=H6 at s5 g5;have s36:=s3.trans (s4.trans s5);refine⟨sh,p5,sg,(U:Rat),rfl,(s2.trans s36) _ _ hs,MF g5,sf,MJ sU,λt2 ht2=>?_⟩;have s6:=AR ht2 (.AF [.int (sg*(U:Rat)).num,.int (sg*(U:Rat)).den]);have f2:Ag (AE H6 t2 (.AF [.int (sg*(U:Rat)).num,.int (sg*(U:Rat)).den])) t2 (sg*(U:Rat)):=AM;generalize AE H6 t2 (.AF [.int (sg*(U:Rat)).num,.int (sg*(U:Rat)).den])=H7 at s6 f2;have s37:=s36.trans s6;refine⟨_,rfl,L,_,rfl,.inl ⟨AJ.of (s37 _ _ hds),λt3 ht3=>?_⟩⟩;have v3:=AR ht3 (.AF (ds.map V.ref));have f3:BA (BA Ag) (AE H7 t3 (.AF (ds.map V.ref))) t3 rows:=⟨ds,AM,hD.keep Ex (s37.trans v3)⟩;generalize AE H7 t3 (.AF (ds.map V.ref))=H8 at v3 f3;refine⟨by exact CB,λpp hpp=>?_⟩;have v4:=AR hpp (.AF [.ref t1,.ref t2,.ref t3]);exact q pp rows _ (s2.trans (s37.trans (v3.trans v4))) ⟨t1,t2,t3,AM,(s5.trans (s6.trans (v3.trans v4))) _ _ f1,(v3.trans v4) _ _ f2,EL (R:=BA Ag) (λs h=>Ex s h) v4 f3⟩ hI
theorem Y7{H:Hp}{a:Addr}{ds:List Addr}{rs:List Pt}{ys:List V}(h:At Hg H ds rs)(e:H a=some (.AD ys))(o:HO):At Hg (AE H a o) ds rs :=
 ⟨h.1,λi c x e1 e2=>by
  obtain⟨x1,x2,h1,h2,h3⟩:=h.2 i c x e1 e2;have h2:H x1=_:=h2;have h3:H x2=_:=h3;refine⟨x1,x2,?_,?_,?_⟩
  ·rw[AW (λz=>by rw[z,e] at h1; cases h1)]; exact h1
  ·show AE H a o x1=_;rw[AW (λz=>by rw[z,e] at h2; cases h2)]; exact h2
  ·show AE H a o x2=_;rw[AW (λz=>by rw[z,e] at h3; cases h3)]; exact h3⟩
structure Jj(W U:Int)(q:Rat)(t:Pt):Prop where
 a:0<=t.1
 x:∃i:Int,0<=i/\i<=12/\t.2.1=q*(((W*i:Int):Rat) / ((12:Int):Rat))
 y:∃j:Int,0<=j/\j<=12/\t.2.2=q*(((U*j:Int):Rat) / ((12:Int):Rat))
inductive Rz(K:PySem.W.Frag)(vs:List V)(H:Hp)(Q:VK):Prop
 | mk (a b s l:Addr) (ns:List Int) (W U:Int) (q:Rat) (h_0:vs=[.ref a,.int 20,.ref b,.ref s]) (h_1:Nm K H a ns) (h_2:H b=some (.AF [.int W,.int U,.ref l])) (h_3:Ag H s q) (h_4:Sf q) (h_5:1<=W/\W<=200) (h_6:1<=U/\U<=200)
   (h_7:∀t pts H',AN H H'->Ax Hg H' t pts->pts.length<=3->(∀p∈pts,Jj W U q p)->Q (.ref t) H'):Rz K vs H Q
def Ms(K:PySem.W.Frag):Sp:=λvs H Q _=>Rz K vs H Q
theorem IT:Ar ["_law_script","_law_first","_law_built","_law_share_here","_law_points_here","_law_k","_law_cell_here","_law_x","_law_y"] ["_law_script","_law_first","_law_built","_law_share_here"] (Ah s_law_points):=Av
theorem SJ{e:Int}(h0:0<=e)(h1:e<=2400):Sf ((e:Rat) / ((12:Int):Rat)):=Mb (Ek (by decide) (by decide) (dg (show e.natAbs<=2400 by omega) (by decide)))
seal L2.Bu L2.PS L2.PE L2.PA in
set_option maxHeartbeats 8000000 in
theorem Zm (F:Fun K "_law_points" "_law_points" s_law_points f fd) (G1:AL P w K mg base AK 1 f1 d1 ["_law_script","_law_k"] (Iy K)) (b1:Af K d1 ["_law_script","_law_k"] []) (k1:KP K f1) (m1:mg "_law_cell" = some (.ref f1))
  (G2:AL P w K mg base AK 2 f2 d2 ["_law_one","_law_other"] (JF λx y=>x*y)) (b2:Af K d2 ["_law_one","_law_other"] []) (k2:KP K f2) (m2:mg "_law_mul" = some (.ref f2))
  (G3:AL P w K mg base AK 1 f3 d3 ["_law_top","_law_bottom"] HG) (b3:Af K d3 ["_law_top","_law_bottom"] []) (k3:KP K f3) (m3:mg "_law_low" = some (.ref f3)) (mr:mg "range" = none) :
  AL P w K mg base AK 3 f fd ["_law_script","_law_first","_law_built","_law_share_here"] (Ms K):=by
 refine F.ok IT (λvs H Q E h=>?_) (λcdv A outer s H vs Q E hr h=>?_)
 ·obtain⟨a,b,s,l,ns,W,U,q,rfl,_⟩:=h;rfl
 obtain⟨a,b,sh,l,ns,W,U,sg,rfl,⟨hS,hn⟩,hb,hs,sf,⟨W1,W2⟩,⟨U1,U2⟩,q⟩:=h;have r1:=hr.mono (show 1<=2 by decide);refine⟨_,AS (Aa (i:=4) IT.nd rfl (Or.inl rfl) (B3 AG))
  (AS (Bv dv rfl (EC (by rfl) mr (AA (AQ Bi (Ac G1 r1 (by rfl) m1 k1 b1 .nil Ad (AA (pv 0) (AA (pv 1) AG))) AH) AG)) (AV (i:=5) IT.nd rfl (Or.inl rfl))
   (AS (Aa (i:=6) IT.nd rfl (Or.inl rfl) (Ac G1 r1 (by rfl) m1 k1 b1 .nil Ad (AA (pv 0) (AA (AQ A5 (AQ A5 (pv 1) AH) (pv 5)) AG))))
   (AS (Aa (i:=7) IT.nd rfl (Or.inl rfl) (Ac G2 hr (by rfl) m2 k2 b2 .nil Ad (AA (pv 3) (AA (Ac G3 r1 (by rfl) m3 k3 b3 .nil Ad (AA (AQ C6 (pT K (pv 2) AH) (AQ Bi (pv 6) AH)) (AA AH AG))) AG))))
   (AS (Aa (i:=8) IT.nd rfl (Or.inl rfl) (Ac G2 hr (by rfl) m2 k2 b2 .nil Ad (AA (pv 3) (AA (Ac G3 r1 (by rfl) m3 k3 b3 .nil Ad (AA (AQ C6 (pT K (pv 2) AH) (AQ Bi (AQ DU (pv 6) AH) AH)) (AA AH AG))) AG))))
   (AU (Cq (C7 K dc dG dH DT (pv 4) (AA (Ao (AA (AQ DU (pv 6) AH) (AA (pv 7) (AA (pv 8) AG)))) AG))))))))
  (AU (Ak (pv 4)))),?_⟩
 refine⟨by exact Hs,λL hL=>?_⟩;have s1:=AR hL (.AD []);have g1:(AE H L (.AD [])) L=some (.AD (([]:List Addr).map V.ref)):=AM;generalize AE H L (.AD [])=H1 at s1 g1;refine⟨_,rfl,_,rfl,a,ns,20,rfl,⟨s1.seq hS,hn⟩,by decide,λz ⟨z0,z1⟩=>?_⟩;have y0:=dZ z (show(4:Int)≠0 by decide);have y1:=dE z (show(0:Int)<4 by decide);refine⟨_,_,rfl,rfl,(show(0:Int)<4 by decide),_,rfl,by omega,by omega,?_⟩;refine FA (λi σ H2=>AN H H2/\∃(u5 u6 u7 u8:Option V) (ds:List Addr) (pts:List Pt),σ=[some (.ref a),some (.int 20),some (.ref b),some (.ref sh),some (.ref L),u5,u6,u7,u8]/\H2 L=some (.AD (ds.map V.ref))/\At Hg H2 ds pts/\pts.length=i/\∀p∈pts,Jj W U sg p)
  ⟨s1,none,none,none,none,[],[],rfl,g1,At.nil,rfl,λp hp=>by cases hp⟩ ?_ ?_
 ·rintro i σ H2 hi ⟨s2,u5,u6,u7,u8,ds,pts,rfl,hds,hD,rfl,hP⟩;have ld:ds.length=pts.length:=hD.1;have lp:(pts.length:Int)<4:=by omega
  refine⟨_,rfl,_,rfl,_,_,rfl,rfl,_,rfl,_,_,rfl,rfl,a,ns,_,rfl,⟨s2.seq hS,hn⟩,by omega,λc ⟨c0,c1⟩=>?_⟩;have x0:=dZ c (show(13:Int)≠0 by decide);have x1:=dE c (show(0:Int)<13 by decide);have w0:=dZ (c / 13) (show(13:Int)≠0 by decide);have w1:=dE (c / 13) (show(0:Int)<13 by decide);have c9:0<=c / 169:=Int.ediv_nonneg c0 (by decide);have b0:0<=W*(c % 13):=fC (by omega) x0;have b1':W*(c % 13)<=2400:=Int.le_trans (Int.mul_le_mul (show W<=200 by omega) (show c % 13<=12 by omega) x0 (by decide)) (by decide);have b2':0<=U*(c / 13 % 13):=fC (by omega) w0;have b3':U*(c / 13 % 13)<=2400:=Int.le_trans (Int.mul_le_mul (show U<=200 by omega) (show c / 13 % 13<=12 by omega) w0 (by decide)) (by decide);refine⟨_,rfl,_,rfl,b,_,_,_,rfl,rfl,AO.of (s2 _ _ hb),Dy _ _ _,_,rfl,_,_,rfl,rfl,(show(0:Int)<13 by decide),_,_,rfl,rfl,.inl ⟨by omega,by omega⟩,_,12,rfl,by decide,DE (n:=4) (by decide) (by decide),λp1 hp1=>?_⟩;have s3:=AR hp1 (.AF [.int (((W*(c % 13):Int):Rat) / ((12:Int):Rat)).num,.int (((W*(c % 13):Int):Rat) / ((12:Int):Rat)).den]);have f3:Ag (AE H2 p1 (.AF [.int (((W*(c % 13):Int):Rat) / ((12:Int):Rat)).num,.int (((W*(c % 13):Int):Rat) / ((12:Int):Rat)).den])) p1 (((W*(c % 13):Int):Rat) / ((12:Int):Rat)):=AM;generalize AE H2 p1 (.AF [.int (((W*(c % 13):Int):Rat) / ((12:Int):Rat)).num,.int (((W*(c % 13):Int):Rat) / ((12:Int):Rat)).den])=H3 at s3 f3;refine⟨sh,p1,sg,_,rfl,s3 _ _ (s2 _ _ hs),f3,sf,SJ b0 b1',λp2 hp2=>?_⟩;generalize hx:sg*(((W*(c % 13):Int):Rat) / ((12:Int):Rat))=vx;have s4:=AR hp2 (.AF [.int vx.num,.int vx.den]);have f4:Ag (AE H3 p2 (.AF [.int vx.num,.int vx.den])) p2 vx:=AM;generalize AE H3 p2 (.AF [.int vx.num,.int vx.den])=H4 at s4 f4;have s24:=s3.trans s4;refine⟨_,rfl,_,rfl,b,_,_,_,rfl,rfl,AO.of (s24 _ _ (s2 _ _ hb)),D5 _ _ _,_,rfl,_,_,rfl,rfl,⟨by decide,by decide⟩,_,_,rfl,rfl,(show(0:Int)<13 by decide),_,_,rfl,rfl,.inl ⟨by omega,by omega⟩,_,12,rfl,by decide,DE (n:=4) (by decide) (by decide),λp3 hp3=>?_⟩;have s5:=AR hp3 (.AF [.int (((U*(c / 13 % 13):Int):Rat) / ((12:Int):Rat)).num,.int (((U*(c / 13 % 13):Int):Rat) / ((12:Int):Rat)).den]);have f5:Ag (AE H4 p3 (.AF [.int (((U*(c / 13 % 13):Int):Rat) / ((12:Int):Rat)).num,.int (((U*(c / 13 % 13):Int):Rat) / ((12:Int):Rat)).den])) p3 (((U*(c / 13 % 13):Int):Rat) / ((12:Int):Rat)):=AM;generalize AE H4 p3 (.AF [.int (((U*(c / 13 % 13):Int):Rat) / ((12:Int):Rat)).num,.int (((U*(c / 13 % 13):Int):Rat) / ((12:Int):Rat)).den])=H5 at s5 f5;refine⟨sh,p3,sg,_,rfl,s5 _ _ (s24 _ _ (s2 _ _ hs)),f5,sf,SJ b2' b3',λp4 hp4=>?_⟩;generalize hy:sg*(((U*(c / 13 % 13):Int):Rat) / ((12:Int):Rat))=vy;have s6:=AR hp4 (.AF [.int vy.num,.int vy.den]);have f6:Ag (AE H5 p4 (.AF [.int vy.num,.int vy.den])) p4 vy:=AM;generalize AE H5 p4 (.AF [.int vy.num,.int vy.den])=H6 at s6 f6;have s26:=s24.trans (s5.trans s6);refine⟨_,rfl,.inl ⟨rfl,_,AJ.of (s26 _ _ hds)⟩,_,rfl,_,_,rfl,rfl,⟨by decide,by decide⟩,_,rfl,_,rfl,by exact CB,λp5 hp5=>?_⟩;have s7:=AR hp5 (.AF [.int (c / 169),.ref p2,.ref p4]);have f7:Hg (AE H6 p5 (.AF [.int (c / 169),.ref p2,.ref p4])) p5 (c / 169,vx,vy):=⟨p2,p4,AM,s7 _ _ (s6 _ _ (s5 _ _ f4)),s7 _ _ f6⟩;generalize AE H6 p5 (.AF [.int (c / 169),.ref p2,.ref p4])=H7 at s7 f7;have s27:=s26.trans s7;refine⟨L,_,_,rfl,rfl,s27 _ _ hds,by rw[cf]; exact GW (by omega),?_⟩;refine⟨DW (s2.trans s27) hL _,_,_,_,_,ds++[p5],pts++[(c / 169,vx,vy)],rfl,by rw[AM]; simp,Y7 ((hD.keep aC s27).snoc f7) (s27 _ _ hds) _,by simp,λp hp=>?_⟩;rcases cS.mp hp with hp | hp
  ·exact hP p hp
  ·rw[cW.mp hp];exact⟨c9,⟨c % 13,x0,by omega,hx.symm⟩,⟨c / 13 % 13,w0,by omega,hy.symm⟩⟩
 ·rintro σ H2 ⟨s2,u5,u6,u7,u8,ds,pts,rfl,hds,hD,hl,hP⟩;exact⟨_,rfl,q L pts H2 s2 ⟨ds,hds,hD⟩ (by omega) hP⟩
open Ln
def FZ(b:AB):List Sd:=[(b.d,b.l,b.r),(b.u,b.l,b.r)]
def Ab(w h:Int)(bs:List AB):List Sd:=[(h,0,w),(0,0,w)]++bs.flatMap FZ
theorem Po(bs:List AB):(bs.flatMap FZ).length=2*bs.length:=by
 induction bs with
 | nil=>rfl
 | cons b r ih=>rw[List.flatMap_cons,cX,ih,dM]; show 2+_=_; omega
theorem FF(w h:Int)(bs:List AB):(Ab w h bs).length=2+2*bs.length:=by
 unfold Ab; rw[cX,Po]; rfl
abbrev Am(S:List Sd)(i:Nat):Sd:=S.getD i (0,0,0)
def Dl(S:List Sd)(i j:Nat):Prop:=Eb (Am S i) (Am S j)
def DF(k a i j:Nat):Prop:=j<i/\(i<k\/(i=k/\j<a))
theorem GN{S:List Sd}{i:Nat}(h:i<S.length):S[i]?=some (Am S i):=by
 rw[Am,cw,cg h]; rfl
theorem C5{M:List Int}{i:Nat}(h:i<M.length):M[i]?=some (M.getD i 0):=by
 rw[cw,cg h]; rfl
theorem Ve{M:List Int}{k a i:Nat}{e:Int}(h:M[i]?=some e):(Dv M k a)[i]?=some (if e=M.getD k 0 then M.getD a 0 else e):=by
 unfold Dv; rw[cu,h]; rfl
theorem MD{H:Hp}{cs:List Addr}{S:List Sd}(h:At A7 H cs S){i:Nat}(hi:i<S.length):∃c,(cs.map V.ref)[i]?=some (.ref c)/\H c=some (.AF [.int (Am S i).v,.int (Am S i).a,.int (Am S i).z]):=by
 have il:i<cs.length:=by rw[h.1]; exact hi
 exact⟨cs[i],by rw[cu,cg il]; rfl,h.2 i _ _ (cg il) (GN hi)⟩
theorem _root_.Ln.C9.JS{n:Nat}{tc done done':Nat->Nat->Prop}{M:List Int}(h:C9 n tc done M)(w:∀i j,done' i j->done i j):C9 n tc done' M:=⟨h.len,λi j hi hj d t=>h.GO i j hi hj (w i j d) t,h.only⟩
structure FY(S:List Sd)(M:List Int):Prop where
 m:C9 S.length (Dl S) (λi j=>j<i) M
 r:∀m∈M,0<=m/\m<S.length
inductive Ri(vs:List V)(H:Hp)(Q:VK):Prop
 | mk (a l:Addr) (W U:Int) (bs:List AB) (h_0:vs=[.ref a]) (h_1:H a=some (.AF [.int W,.int U,.ref l])) (h_2:Ax BE H l bs) (h_3:bs.length<=14)
   (h_4:∀t ls lm M H',AN H H'->H' t=some (.AF [.ref ls,.ref lm])->Ax A7 H' ls (Ab W U bs)->H' lm=some (.AD (M.map V.int))->FY (Ab W U bs) M->Q (.ref t) H'):Ri vs H Q
def M4:Sp:=λvs H Q _=>Ri vs H Q
theorem DL:Ar ["_law_built","_law_wide","_law_high","_law_boxes_here","_law_sides","_law_left","_law_low_here","_law_right","_law_top","_law_marks","_law_k","_law_at","_law_one","_law_other"] ["_law_built"] (Ah s_law_lines):=Av
theorem aW:(["_law_mark","_law_marks","_law_k","_law_at"]:List Str).Nodup:=by decide +kernel
seal L2.Bu L2.PS L2.PE L2.PA in
set_option maxHeartbeats 8000000 in
theorem Zu(F:Fun K "_law_lines" "_law_lines" s_law_lines f fd)(mr:mg "range" = none)(ml:mg "len" = none)(mli:mg "list" = none):AL P w K mg base AK 1 f fd ["_law_built"] M4:=by
 refine F.ok DL (λvs H Q E h=>?_) (λcdv A outer s H vs Q E hr h=>?_)
 ·obtain⟨a,l,W,U,bs,rfl,_⟩:=h;rfl
 obtain⟨a,l,W,U,bs,rfl,ha,⟨cs,hl,hC⟩,n14,q⟩:=h;refine⟨_,AS (Fp (pv 0) (Ca (n:=3) (K:=K) rfl (Ai (AV (i:=1) DL.nd rfl (Or.inl rfl)) (Ai (AV (i:=2) DL.nd rfl (Or.inl rfl)) (Ai (AV (i:=3) DL.nd rfl (Or.inl rfl)) CS)))))
  (AS (Aa (i:=4) DL.nd rfl (Or.inl rfl) (B3 (AA (Ao (AA (pv 2) (AA AH (AA (pv 1) AG)))) (AA (Ao (AA AH (AA AH (AA (pv 1) AG)))) AG))))
  (AS (Bv dv rfl (Cu (K:=K) (pv 3)) (Ca (n:=4) (K:=K) rfl (Ai (AV (i:=5) DL.nd rfl (Or.inl rfl)) (Ai (AV (i:=6) DL.nd rfl (Or.inl rfl)) (Ai (AV (i:=7) DL.nd rfl (Or.inl rfl)) (Ai (AV (i:=8) DL.nd rfl (Or.inl rfl)) CS)))))
   (AS (Cq (C7 K dc dG dH DT (pv 4) (AA (Ao (AA (pv 6) (AA (pv 5) (AA (pv 7) AG)))) AG)))
   (AU (Cq (C7 K dc dG dH DT (pv 4) (AA (Ao (AA (pv 8) (AA (pv 5) (AA (pv 7) AG)))) AG))))))
  (AS (Aa (i:=9) DL.nd rfl (Or.inr rfl) (UB rfl (by rfl) mli (by rfl) mr (As (Bo (K:=K)) (by rfl) ml Bh (AA (pv 4) AG))))
  (AS (Bv dv rfl (EC (by rfl) mr (AA (As (Bo (K:=K)) (by rfl) ml Bh (AA (pv 4) AG)) AG)) (AV (i:=10) DL.nd rfl (Or.inr rfl))
   (AU (Bv dv rfl (EC (by rfl) mr (AA (pv 10) AG)) (AV (i:=11) DL.nd rfl (Or.inr rfl))
    (AS (Aa (i:=12) DL.nd rfl (Or.inl rfl) (pL K (pv 4) (pv 10)))
    (AS (Aa (i:=13) DL.nd rfl (Or.inl rfl) (pL K (pv 4) (pv 11)))
    (AU (Bk (PW.pt (DY (A4 Ci (pT K (pv 12) AH) (pT K (pv 13) AH) (An _)) (DY (A4 IK (pT K (pv 12) AH) (pT K (pv 13) AH) (An _)) (DY (A4 IK (pT K (pv 13) AH) (pT K (pv 12) AH) (An _)) (HA (A4 GU (pL K (pv 9) (pv 10)) (pL K (pv 9) (pv 11)) (An _)))))))
     (AU (Aa (i:=9) DL.nd rfl (Or.inr rfl) (EH (Nc:=["_law_mark","_law_marks","_law_k","_law_at"]) (cap:=[(1,9),(2,10),(3,11)]) (g:=BG 0) (te:=_) rfl (Cu (K:=K) (pv 9))
      (B1 rfl rfl (by decide +kernel) (by decide +kernel) (cy.mpr ⟨⟨rfl,rfl⟩,cy.mpr ⟨⟨rfl,rfl⟩,cy.mpr ⟨⟨rfl,rfl⟩,cQ _⟩⟩⟩) rfl (cy.mpr ⟨⟨_,_,rfl,rfl,rfl,rfl,rfl⟩,cy.mpr ⟨⟨_,_,rfl,rfl,rfl,rfl,rfl⟩,cy.mpr ⟨⟨_,_,rfl,rfl,rfl,rfl,rfl⟩,cQ _⟩⟩⟩))
      (λ_ _ _ _ _=>AV (i:=0) aW rfl (Or.inl rfl)) (λ_ _ _ _ _=>Vz (A4 Ci (pv 0) (pL K (pv 1) (pv 2)) (An _)) (pL K (pv 1) (pv 3)) (pv 0))))) B2)))))))
  (AU (Ak (Ao (AA (pv 4) (AA (pv 9) AG))))))))),?_⟩
 have lc:cs.length=bs.length:=hC.1;refine⟨_,rfl,a,_,rfl,AO.of ha,rfl,_,_,rfl,_,_,rfl,_,_,rfl,rfl,?_⟩;refine⟨_,rfl,_,rfl,by exact CB,λp1 hp1=>?_⟩;have s1:=AR hp1 (.AF [.int U,.int 0,.int W]);have g1:A7 (AE H p1 (.AF [.int U,.int 0,.int W])) p1 (U,0,W):=AM;generalize AE H p1 (.AF [.int U,.int 0,.int W])=H1 at s1 g1;refine⟨_,rfl,by exact CB,λp2 hp2=>?_⟩;have s2:=AR hp2 (.AF [.int 0,.int 0,.int W]);have g2:A7 (AE H1 p2 (.AF [.int 0,.int 0,.int W])) p2 (0,0,W):=AM;generalize AE H1 p2 (.AF [.int 0,.int 0,.int W])=H2 at s2 g2;refine⟨by exact sz2,λls hls=>?_⟩;have nl:H ls=none:=by
  cases z:H ls with
  | none=>rfl
  | some o=>rw[s2 _ _ (s1 _ _ z)] at hls; cases hls
 have s3:=AR hls (.AD [.ref p1,.ref p2]);have g3:AE H2 ls (.AD [.ref p1,.ref p2]) ls=some (.AD ([p1,p2].map V.ref)):=AM;generalize AE H2 ls (.AD [.ref p1,.ref p2])=H3 at s3 g3;have s03:=s1.trans (s2.trans s3);refine⟨_,rfl,l,rfl,⟨_,AJ.of (s03 _ _ hl)⟩,?_⟩;refine Fg (xs:=cs.map V.ref) (λi σ H4=>AN H H4/\∃(u5 u6 u7 u8:Option V) (es:List Addr),σ=[some (.ref a),some (.int W),some (.int U),some (.ref l),some (.ref ls),u5,u6,u7,u8,none,none,none,none,none]/\H4 ls=some (.AD (es.map V.ref))/\At A7 H4 es ([(U,0,W),(0,0,W)]++(bs.take i).flatMap FZ))
  ⟨s03,none,none,none,none,[p1,p2],rfl,g3,by simpa using (At.nil.snoc (R:=A7) (b:=p1) (x:=(U,0,W)) ((s2.trans s3) _ _ g1)).snoc (b:=p2) (x:=(0,0,W)) (s3 _ _ g2)⟩ (λi σ H4 _ z=>AJ.of (z.1 _ _ hl)) ?_ ?_
 ·rintro i x σ H4 hx ⟨s4,u5,u6,u7,u8,es,rfl,hes,hE⟩;obtain⟨b,bx,rfl,_,hb,hbx⟩:=hC.ref hx;have il:i<bs.length:=(cm.mp hb).1;have le:es.length=2+2*i:=by rw[hE.1,cX,Po,dm]; show 2+_=_; omega
  obtain⟨b0,b1,b2,b3⟩:=bx;refine⟨b,_,rfl,AO.of (s4 _ _ hbx),rfl,_,_,rfl,_,_,rfl,_,_,rfl,_,_,rfl,rfl,?_⟩;refine⟨_,rfl,.inl ⟨rfl,_,AJ.of hes⟩,_,rfl,_,rfl,_,rfl,by exact CB,λq1 hq1=>?_⟩;have s5:=AR hq1 (.AF [.int b1,.int b0,.int b2]);have g5:A7 (AE H4 q1 (.AF [.int b1,.int b0,.int b2])) q1 (b1,b0,b2):=AM;generalize AE H4 q1 (.AF [.int b1,.int b0,.int b2])=H5 at s5 g5;refine⟨ls,_,_,rfl,rfl,s5 _ _ hes,by rw[cf,sizeLine_eq]; omega,?_⟩;have s6:=DW (s4.trans s5) nl (.AD (es.map V.ref++[.ref q1]));have A6:=IB ((hE.keep Cs s5).snoc g5) (s5 _ _ hes) (.AD (es.map V.ref++[.ref q1]));have g6:AE H5 ls (.AD (es.map V.ref++[.ref q1])) ls=some (.AD ((es++[q1]).map V.ref)):=by rw[AM]; simp
  generalize AE H5 ls (.AD (es.map V.ref++[.ref q1]))=H6 at s6 A6 g6;refine⟨_,rfl,.inl ⟨rfl,_,AJ.of g6⟩,_,rfl,_,rfl,_,rfl,by exact CB,λq2 hq2=>?_⟩;have s7:=AR hq2 (.AF [.int b3,.int b0,.int b2]);have g7:A7 (AE H6 q2 (.AF [.int b3,.int b0,.int b2])) q2 (b3,b0,b2):=AM;generalize AE H6 q2 (.AF [.int b3,.int b0,.int b2])=H7 at s7 g7;refine⟨ls,_,_,rfl,rfl,s7 _ _ g6,by rw[cf,cX,sizeLine_eq,le,fm]; omega,?_⟩;refine⟨DW (s6.trans s7) nl _,_,_,_,_,es++[q1]++[q2],rfl,by rw[AM]; simp,?_⟩;have A8:=IB ((A6.keep Cs s7).snoc g7) (s7 _ _ g6) (.AD ((es++[q1]).map V.ref++[.ref q2]));rw[BO hb,List.flatMap_append];simpa [FZ,AB.u,AB.l,AB.r,AB.d] using A8
 rintro σ H4 ⟨s4,u5,u6,u7,u8,es,rfl,hes,hE⟩;rw[cf,lc,eI] at hE;have hE:At A7 H4 es (Ab W U bs):=hE;have lS:=FF W U bs;generalize Ab W U bs=S at hE lS q;have le:es.length=S.length:=hE.1;have lv:((es.map V.ref).length:Int)=(S.length:Int):=by rw[cf,le]
 refine⟨_,rfl,ls,_,rfl,.inl (AJ.of hes),S.length,by rw[lv],by omega,λlm hlm=>?_⟩;have s5:=AR hlm (.AD ((List.range S.length).map λi:Nat=>V.int (i:Int)));have g5:AE H4 lm (.AD ((List.range S.length).map λi:Nat=>V.int (i:Int))) lm=some (.AD (((List.range S.length).map λi:Nat=>(i:Int)).map V.int)):=by rw[AM,fg]; rfl
 generalize AE H4 lm (.AD ((List.range S.length).map λi:Nat=>V.int (i:Int)))=H5 at s5 g5;refine⟨_,rfl,ls,_,rfl,.inl (AJ.of (s5 _ _ hes)),S.length,by rw[lv],by omega,by omega,?_⟩;refine FA (λk σ H6=>AN H4 H6/\∃(lm:Addr) (M:List Int) (ua ub uc ud:Option V),σ=[some (.ref a),some (.int W),some (.int U),some (.ref l),some (.ref ls),u5,u6,u7,u8,some (.ref lm),ua,ub,uc,ud]/\H6 lm=some (.AD (M.map V.int))/\C9 S.length (Dl S) (DF k 0) M/\∀m∈M,0<=m/\m<S.length)
  ⟨s5,lm,_,none,none,none,none,rfl,g5,(Pl (n:=S.length) (tc:=Dl S)).JS (λi j h=>by unfold DF at h; omega),λm hm=>by
   obtain⟨i,hi,rfl⟩:=cT.mp hm
   have:=cZ.mp hi
   omega⟩ ?_ ?_
 ·rintro k σ H6 hk ⟨s6,lm,M,ua,ub,uc,ud,rfl,hlm,mk,mr'⟩;have hk:k<S.length:=by omega
  refine⟨_,rfl,(k:Int),by rw[gc],by omega,by omega,?_⟩;refine FA (n:=k) (λj σ H7=>AN H4 H7/\∃(lm:Addr) (M:List Int) (ub uc ud:Option V),σ=[some (.ref a),some (.int W),some (.int U),some (.ref l),some (.ref ls),u5,u6,u7,u8,some (.ref lm),some (.int (k:Int)),ub,uc,ud]/\H7 lm=some (.AD (M.map V.int))/\C9 S.length (Dl S) (DF k j) M/\∀m∈M,0<=m/\m<S.length)
   ⟨s6,lm,M,ub,uc,ud,by rw[gc]; rfl,hlm,mk,mr'⟩ ?_ ?_
  ·rintro j σ H7 hj ⟨s7,lm,M,ub,uc,ud,rfl,hlm,mk,mr'⟩;have hj2:j<S.length:=by omega
   obtain⟨c1,r1,t1⟩:=MD (hE.keep Cs s7) hk;obtain⟨c2,r2,t2⟩:=MD (hE.keep Cs s7) hj2;have lM:=mk.len;have e1:(M.map V.int)[k]?=some (.int (M.getD k 0)):=by rw[cu,C5 (by omega)]; rfl
   have e2:(M.map V.int)[j]?=some (.int (M.getD j 0)):=by rw[cu,C5 (by omega)]; rfl
   have hd:∀x y,DF k (j+1) x y->DF k j x y\/(x=k/\y=j):=λx y h=>by unfold DF at *; omega
   have skip:(Dl S k j->M.getD k 0=M.getD j 0)->AN H4 H7/\∃(lm':Addr) (M:List Int) (ub uc ud:Option V),[some (V.ref a),some (.int W),some (.int U),some (.ref l),some (.ref ls),u5,u6,u7,u8,some (.ref lm),some (.int (k:Int)),some (.int ((j:Nat):Int)),some (.ref c1),some (.ref c2)]=[some (V.ref a),some (.int W),some (.int U),some (.ref l),some (.ref ls),u5,u6,u7,u8,some (.ref lm'),some (.int (k:Int)),ub,uc,ud]/\H7 lm'=some (.AD (M.map V.int))/\C9 S.length (Dl S) (DF k (j+1)) M/\∀m∈M,0<=m/\m<S.length:=λe=>⟨s7,lm,M,_,_,_,rfl,hlm,OD mk e hd,mr'⟩
   rw[show(0:Int)+(j:Int)=(j:Int) from gc _];refine⟨_,rfl,_,rfl,ls,_,_,_,rfl,rfl,AJ.of (s7 _ _ hes),Aq r1,_,rfl,_,rfl,ls,_,_,_,rfl,rfl,AJ.of (s7 _ _ hes),Aq r2,?_⟩;refine⟨_,rfl,c1,_,_,_,rfl,rfl,AO.of t1,Dy _ _ _,_,rfl,c2,_,_,_,rfl,rfl,AO.of t2,Dy _ _ _,rfl,_,rfl,?_⟩;by_cases h1:(Am S k).v=(Am S j).v
   case neg=>exact Bj (λe=>h1 (by injection e)) (skip λt=>absurd t.1 h1)
   refine Bl (by rw[h1]) ⟨_,rfl,c1,_,_,_,rfl,rfl,AO.of t1,D5 _ _ _,_,rfl,c2,_,_,_,rfl,rfl,AO.of t2,DD _ _ _,_,_,rfl,rfl,_,rfl,?_⟩;by_cases h2:(Am S k).a<=(Am S j).z
   case neg=>exact Bj h2 (skip λt=>absurd t.2.1 h2)
   refine Bl h2 ⟨_,rfl,c2,_,_,_,rfl,rfl,AO.of t2,D5 _ _ _,_,rfl,c1,_,_,_,rfl,rfl,AO.of t1,DD _ _ _,_,_,rfl,rfl,_,rfl,?_⟩;by_cases h3:(Am S j).a<=(Am S k).z
   case neg=>exact Bj h3 (skip λt=>absurd t.2.2 h3)
   refine Bl h3 ⟨_,rfl,_,rfl,lm,_,_,_,rfl,rfl,AJ.of hlm,Aq e1,_,rfl,_,rfl,lm,_,_,_,rfl,rfl,AJ.of hlm,Aq e2,rfl,_,rfl,?_⟩;by_cases h4:M.getD k 0=M.getD j 0
   case pos=>exact(show(!decide (V.int (M.getD k 0)=V.int (M.getD j 0)))=false by rw[h4,decide_eq_true rfl]; rfl) ▸ CO (skip λ_=>h4)
   rw[show(!decide (V.int (M.getD k 0)=V.int (M.getD j 0)))=true by rw[decide_eq_false (E8 h4)]; rfl];refine FQ ?_;refine⟨_,rfl,lm,rfl,⟨_,AJ.of hlm⟩,λacc hacc=>?_⟩;refine Cf (Fh hlm) (by rw[cf]; omega) hacc (λi ys σ hp=>ys=((Dv M k j).take i).map V.int/\∃u,σ=[u,some (.ref lm),some (.int (k:Int)),some (.int (j:Int))]) ⟨rfl,none,rfl⟩ ?_ ?_
   ·rintro i ys σ H8 x H9 hi sm hacc2 ⟨rfl,u,rfl⟩ ⟨rfl,hx⟩ Cc hCc;obtain⟨e,rfl,he⟩:=Io hx;have re:=Ve (k:=k) (a:=j) he;refine⟨_,rfl,_,rfl,_,rfl,lm,_,_,_,rfl,rfl,AJ.of (sm _ _ hlm),Aq e1,rfl,_,rfl,?_⟩;by_cases h5:e=M.getD k 0
    ·rw[if_pos h5] at re;refine Bl (by rw[h5]) ⟨_,rfl,_,rfl,lm,_,_,_,rfl,rfl,AJ.of (sm _ _ hlm),Aq e2,hCc _ _ _ (AN.refl _) ⟨?_,_,rfl⟩⟩;rw[BO re,dh]; rfl
    ·rw[if_neg h5] at re;refine Bj (λz=>h5 (by injection z)) ⟨_,rfl,hCc _ _ _ (AN.refl _) ⟨?_,_,rfl⟩⟩;rw[BO re,dh]; rfl
   rintro ys σ H8 s8 hacc2 hlen ⟨rfl,u,rfl⟩;rw[cf,dC (by unfold Dv; rw[cf]; exact cR _)] at hacc2;refine⟨s7.trans s8,acc,Dv M k j,_,_,_,rfl,hacc2,N9 mk hk hj2 ⟨h1,h2,h3⟩ hd,λm hm=>?_⟩;unfold Dv at hm;obtain⟨m0,hm0,rfl⟩:=cT.mp hm;split
   ·exact mr' _ (cq (C5 (show j<M.length by omega)))
   ·exact mr' _ hm0
  ·rintro σ H7 ⟨s7,lm,M,ub,uc,ud,rfl,hlm,mk,mr'⟩;exact⟨s7,lm,M,_,_,_,_,rfl,hlm,mk.JS (λx y h=>by unfold DF at *; omega),mr'⟩
 ·rintro σ H6 ⟨s6,lm,M,ua,ub,uc,ud,rfl,hlm,mk,mr'⟩;refine⟨_,rfl,_,rfl,by exact sz2,λt ht=>?_⟩;have s7:=AR ht (.AF [.ref ls,.ref lm]);exact q t ls lm M _ (s4.trans (s6.trans s7)) AM ⟨es,(s6.trans s7) _ _ hes,hE.keep Cs (s6.trans s7)⟩ (s7 _ _ hlm) ⟨⟨mk.len,λx y hx hy d t=>mk.GO x y hx hy ⟨d,.inl hx⟩ t,mk.only⟩,mr'⟩
def CM(M:List Int)(n:Nat)(m:Int):List Nat:=(List.range n).filter λk=>decide (M.getD k 0=m)
theorem OY(M:List Int)(i:Nat)(m:Int):CM M (i+1) m=CM M i m++if M.getD i 0=m then [i] else []:=by
 unfold CM;rw[List.range_succ,eM];by_cases z:M.getD i 0=m
 ·rw[if_pos z,eT,if_pos (decide_eq_true z)]; rfl
 ·rw[if_neg z,eT,if_neg (by rw[decide_eq_false z]; exact df)]; rfl
theorem WR(M:List Int)(n:Nat)(m:Int):(CM M n m).length<=n:=by
 have:=fo (λk=>decide (M.getD k 0=m)) (List.range n)
 rw[c7] at this;exact this
theorem QN{M:List Int}{m:Int}(h:m∈M):CM M M.length m≠[]:=λz=>by
 obtain⟨k,hk,e⟩:=dS h
 have:k∈CM M M.length m:=dR.mpr ⟨cZ.mpr hk,decide_eq_true (by rw[cw,cg hk]; exact e)⟩
 rw[z] at this; cases this
abbrev Ie(S:List Sd)(M:List Int)(m:Int):List Int:=(CM M S.length m).map λk=>(Am S k).v
abbrev Hq(S:List Sd)(M:List Int)(m:Int):List Int:=(CM M S.length m).map λk=>(Am S k).a
theorem PU {K:PySem.W.Frag} {S:List Sd} {M:List Int} {H:Hp} {ls lm acc:Addr} {cs:List Addr} {m j:Int} {sf:Sd->Int} {σ0:L2.St} {G:Hp->Prop} (hσ:∃u,σ0=[u,some (.ref ls),some (.ref lm),some (.int m)]) (hj:∀s:Sd,BI [V.int s.v,.int s.a,.int s.z] j=some (.int (sf s)))
  (hl:H ls=some (.AD (cs.map V.ref))) (hC:At A7 H cs S) (hm:H lm=some (.AD (M.map V.int))) (lM:M.length=S.length) (n30:S.length<=30) (hacc:H acc=none) (gd:∀H',AN H H'->H' acc=some (.AD (((CM M S.length m).map λk=>sf (Am S k)).map V.int))->G H') :
  ∃W:Nat->Nat->List V->L2.St->Hp->Prop,(∃m,W 0 m [] σ0 (AE H acc (.AD [])))/\∀i m ys σc H2,W i m ys σc H2 →
   ((Dp 0 S.length).stop i H2/\G H2)\/((Dp 0 S.length).go i H2/\∀x H3,(Dp 0 S.length).EB i H2 x H3->BG 0 x σc H3 λσ4 H4=>Md (BM Tf (BM (Gf K) (Au 2) (Au 0)) (Au 3)) σ4 H4 λok H5=>if ok=true then (BM (E2 K) (BM (Gf K) (Au 1) (Au 0)) (tC (.int j)) σ4 H5 λv H6=>H6 acc=some (.AD ys)/\ys.length<sizeLine/\∃m',m' < m/\W (i+1) m' (ys++[v]) σ4 (AE H6 acc (.AD (ys++[v])))) else ∃m',m' < m/\W (i+1) m' ys σ4 H5):=by
 refine Jv (Jw (lo:=0) (n:=S.length)) (by omega) hacc (λi ys σ hp=>ys=((CM M i m).map λk=>sf (Am S k)).map V.int/\∃u,σ=[u,some (.ref ls),some (.ref lm),some (.int m)]) ⟨rfl,hσ⟩ ?_ ?_
 ·rintro i ys σ H2 x H3 hi sm hacc2 ⟨rfl,u,rfl⟩ ⟨rfl,rfl⟩ Cc Nn hCc hNn;rw[gc];have e1:(M.map V.int)[i]?=some (.int (M.getD i 0)):=by rw[cu,C5 (by omega)]; rfl
  obtain⟨c,r1,t1⟩:=MD (hC.keep Cs sm) hi;refine⟨_,rfl,_,rfl,lm,_,_,_,rfl,rfl,AJ.of (sm _ _ hm),Aq e1,_,rfl,rfl,_,rfl,?_⟩;by_cases z:M.getD i 0=m
  ·refine Bl (by rw[z]) ⟨_,rfl,_,rfl,ls,_,_,_,rfl,rfl,AJ.of (sm _ _ hl),Aq r1,c,_,_,_,rfl,rfl,AO.of t1,hj _,hCc _ _ _ (AN.refl _) ⟨?_,_,rfl⟩⟩;rw[OY,if_pos z,dh,dh]; rfl
  ·refine Bj (E8 z) (hNn _ _ (AN.refl _) ⟨?_,_,rfl⟩);rw[OY,if_neg z,eD]
 ·rintro ys σ H2 s2 hacc2 ⟨rfl,u,rfl⟩;exact gd H2 s2 hacc2
structure Se(S:List Sd)(M r:List Int):Prop where
 ex:∃v a m,r=[-v,a,m]/\v∈Ie S M m/\a∈Hq S M m/\∀x∈Hq S M m,a<=x
theorem YR{H:Hp}{a:Addr}{ds:List Addr}{rs:List (List Int)}{ys:List V}(h:At Dx H ds rs)(e:H a=some (.AD ys))(o:HO):At Dx (AE H a o) ds rs :=
 ⟨h.1,λi c x e1 e2=>by
  have h1:H c=_:=h.2 i c x e1 e2;show AE H a o c=_;rw[AW (λz=>by rw[z,e] at h1; cases h1)]; exact h1⟩
abbrev Fc(M:List Int)(m:Int):Bool:=decide (m≠M.getD 0 0) && decide (m≠M.getD 1 0)
structure GF(S:List Sd)(M R:List Int):Prop where
 nd:R.Nodup
 mem:∀m,m∈R↔m∈M/\m≠M.getD 0 0/\m≠M.getD 1 0
 up:R.Pairwise λm m'=>∃v v' a a',v∈(CM M S.length m).map (λk=>(Am S k).v)/\v'∈(CM M S.length m').map (λk=>(Am S k).v)/\a∈(CM M S.length m).map (λk=>(Am S k).a)/\(∀x∈(CM M S.length m).map (λk=>(Am S k).a),a<=x)/\a'∈(CM M S.length m').map (λk=>(Am S k).a)/\(∀x∈(CM M S.length m').map (λk=>(Am S k).a),a'<=x)/\Al [-v,a,m] [-v',a',m']=true
inductive SH(vs:List V)(H:Hp)(Q:VK):Prop
 | mk (ls lm:Addr) (S:List Sd) (M:List Int) (h_0:vs=[.ref ls,.ref lm]) (h_1:Ax A7 H ls S) (h_2:H lm=some (.AD (M.map V.int))) (h_3:M.length=S.length) (h_4:2<=S.length) (h_5:S.length<=30)
   (h_6:∀t R H',AN H H'->H' t=some (.AD ((M.getD 0 0 :: M.getD 1 0 :: R).map V.int))->GF S M R->Q (.ref t) H'):SH vs H Q
def NQ:Sp:=λvs H Q _=>SH vs H Q
theorem JO:Ar ["_law_sides","_law_marks","_law_found","_law_mark","_law_lefts","_law_level"] ["_law_sides","_law_marks"] (Ah s_law_order):=Av
theorem Sn:(["_law_k","_law_sides","_law_marks","_law_mark"]:List Str).Nodup:=by decide +kernel
theorem bU:(["_law_one"]:List Str).Nodup:=by decide +kernel
seal L2.Bu L2.PS L2.PE L2.PA in
set_option maxHeartbeats 8000000 in
theorem aS(F:Fun K "_law_order" "_law_order" s_law_order f fd)(mr:mg "range" = none)(ml:mg "len" = none)(mse:mg "set" = none)(mso:mg "sorted" = none)(mn:mg "min" = none):AL P w K mg base AK 1 f fd ["_law_sides","_law_marks"] NQ:=by
 refine F.ok JO (λvs H Q E h=>?_) (λcdv A outer s H vs Q E hr h=>?_)
 ·obtain⟨ls,lm,S,M,rfl,_⟩:=h;rfl
 obtain⟨ls,lm,S,M,rfl,⟨cs,hl,hC⟩,hm,lM,n2,n30,q⟩:=h;refine⟨_,AS (Aa (i:=2) JO.nd rfl (Or.inl rfl) (B3 AG))
  (AS (Bv dv rfl (Cu (K:=K) (As (Pw (P:=P) (w:=w) rfl) (by rfl) mso Jp (AA (Dr (Qd (K:=K) (P:=P) (w:=w) rfl) (by rfl) mse Q5 (AA (pv 1) AG)) AG))) (AV (i:=3) JO.nd rfl (Or.inr rfl))
   (AU (Bk (PW.pt (DY (A4 GU (pv 3) (pL K (pv 1) AH) (An _)) (HA (A4 GU (pv 3) (pL K (pv 1) AH) (An _)))))
    (AS (LQ (i:=4) JO.nd rfl (Or.inl rfl) (Nc:=["_law_k","_law_sides","_law_marks","_law_mark"]) (cap:=[(1,0),(2,1),(3,3)]) (g:=BG 0) (tt:=_) (te:=_) rfl (EC (by rfl) mr (AA (As (Bo (K:=K)) (by rfl) ml Bh (AA (pv 0) AG)) AG))
      (B1 rfl rfl (by decide +kernel) (by decide +kernel) (cy.mpr ⟨⟨rfl,rfl⟩,cy.mpr ⟨⟨rfl,rfl⟩,cy.mpr ⟨⟨rfl,rfl⟩,cQ _⟩⟩⟩) rfl (cy.mpr ⟨⟨_,_,rfl,rfl,rfl,rfl,rfl⟩,cy.mpr ⟨⟨_,_,rfl,rfl,rfl,rfl,rfl⟩,cy.mpr ⟨⟨_,_,rfl,rfl,rfl,rfl,rfl⟩,cQ _⟩⟩⟩))
      (λ_ _ _ _ _=>AV (i:=0) Sn rfl (Or.inl rfl)) (λ_ _ _ _ _=>A4 Ci (pL K (pv 2) (pv 0)) (pv 3) (An _)) (λ_ _ _ _ _=>pT K (pL K (pv 1) (pv 0)) AH))
    (AS (Aa (i:=5) JO.nd rfl (Or.inl rfl) (pL K (Oq (Nc:=["_law_k","_law_sides","_law_marks","_law_mark"]) (cap:=[(1,0),(2,1),(3,3)]) (g:=BG 0) (tt:=_) (te:=_) rfl (EC (by rfl) mr (AA (As (Bo (K:=K)) (by rfl) ml Bh (AA (pv 0) AG)) AG))
      (B1 rfl rfl (by decide +kernel) (by decide +kernel) (cy.mpr ⟨⟨rfl,rfl⟩,cy.mpr ⟨⟨rfl,rfl⟩,cy.mpr ⟨⟨rfl,rfl⟩,cQ _⟩⟩⟩) rfl (cy.mpr ⟨⟨_,_,rfl,rfl,rfl,rfl,rfl⟩,cy.mpr ⟨⟨_,_,rfl,rfl,rfl,rfl,rfl⟩,cy.mpr ⟨⟨_,_,rfl,rfl,rfl,rfl,rfl⟩,cQ _⟩⟩⟩))
      (λ_ _ _ _ _=>AV (i:=0) Sn rfl (Or.inl rfl)) (λ_ _ _ _ _=>A4 Ci (pL K (pv 2) (pv 0)) (pv 3) (An _)) (λ_ _ _ _ _=>pT K (pL K (pv 1) (pv 0)) AH)) AH))
    (AU (Cq (C7 K dc dG dH DT (pv 2) (AA (Ao (AA (FK FJ (pv 5)) (AA (As (Oh rfl) (by rfl) mn ID (AA (pv 4) AG)) (AA (pv 3) AG)))) AG)))))) B2)))
  (AU (Ak (AQ Eo (B3 (AA (pL K (pv 1) AH) (AA (pL K (pv 1) AH) AG)))
   (EH (Nc:=["_law_one"]) (cap:=[]) (g:=BG 0) (te:=BM (E2 K) (Au 0) (tC (.int 2))) rfl (Cu (K:=K) (As Nx (by rfl) mso Jp (AA (pv 2) AG))) (B1 rfl rfl (by decide +kernel) (by decide +kernel) (cQ _) rfl (cQ _)) (λ_ _ _ _ _=>AV (i:=0) bU rfl (Or.inl rfl)) (λ_ _ _ _ _=>pT K (pv 0) AH)))))),?_⟩
 have lc:cs.length=S.length:=hC.1;have lv:((cs.map V.ref).length:Int)=(S.length:Int):=by rw[cf,lc]
 have e0:BI (M.map V.int) 0=some (.int (M.getD 0 0)):=Aq (j:=0) (by rw[cu,C5 (by omega)]; rfl);have e1:BI (M.map V.int) 1=some (.int (M.getD 1 0)):=Aq (j:=1) (by rw[cu,C5 (by omega)]; rfl);refine⟨by exact Hs,λL hL=>?_⟩;have s1:=AR hL (.AD []);have g1:(AE H L (.AD [])) L=some (.AD (([]:List Addr).map V.ref)):=AM;generalize AE H L (.AD [])=H1 at s1 g1;refine⟨_,rfl,lm,M,rfl,AJ.of (s1 _ _ hm),by omega,λsa hsa=>?_⟩;have s2:=AR hsa (D3 P w sa (BY M));have g2:(AE H1 sa (D3 P w sa (BY M))) sa=some (D3 P w sa (BY M)):=AM;generalize AE H1 sa (D3 P w sa (BY M))=H2 at s2 g2;have la:=La M;refine⟨sa,_,rfl,g2,by omega,λD ms hD pm srt=>?_⟩;have mem:∀m,m∈ms↔m∈M:=λm=>by rw[pm.mem_iff,Lf]
 have ndm:ms.Nodup:=pm.nodup_iff.mpr (LR M);have lms:ms.length<=30:=by have:=pm.length_eq; omega
 have s3:=AR hD (.AD (ms.map V.int));have g3:(AE H2 D (.AD (ms.map V.int))) D=some (.AD (ms.map V.int)):=AM;have nDL:D≠L:=λz=>by rw[z,s2 _ _ g1] at hD; cases hD
 generalize AE H2 D (.AD (ms.map V.int))=H3 at s3 g3;refine⟨D,rfl,⟨_,AJ.of g3⟩,?_⟩;refine Fg (xs:=ms.map V.int) (λi σ H4=>AN H H4/\H4 D=some (.AD (ms.map V.int))/\∃(u3 u4 u5:Option V) (es:List Addr) (rows:List (List Int)),σ=[some (.ref ls),some (.ref lm),some (.ref L),u3,u4,u5]/\H4 L=some (.AD (es.map V.ref))/\At Dx H4 es rows/\rows.map (λr=>r.getD 2 0)=(ms.take i).filter (Fc M)/\∀r∈rows,Se S M r)
  ⟨s1.trans (s2.trans s3),g3,none,none,none,[],[],rfl,s3 _ _ (s2 _ _ g1),At.nil,rfl,λr hr=>by cases hr⟩ (λi σ H4 _ z=>AJ.of z.2.1) ?_ ?_
 ·rintro i x σ H4 hx ⟨s4,gD,u3,w4,w5,es,rows,rfl,hes,hE,hr,hk⟩;obtain⟨m,rfl,hi⟩:=Io hx;have mM:m∈M:=(mem m).mp (cq hi);have skip:Fc M m=false->AN H H4/\H4 D=some (.AD (ms.map V.int))/\∃(u3' u4 u5:Option V) (es:List Addr) (rows:List (List Int)),[some (V.ref ls),some (.ref lm),some (.ref L),some (.int m),w4,w5]=[some (V.ref ls),some (.ref lm),some (.ref L),u3',u4,u5]/\H4 L=some (.AD (es.map V.ref))/\At Dx H4 es rows/\rows.map (λr=>r.getD 2 0)=(ms.take (i+1)).filter (Fc M)/\∀r∈rows,Se S M r:=λe=>⟨s4,gD,_,_,_,es,rows,rfl,hes,hE,by rw[BO hi,eM,<-hr,eT,e]; simp,hk⟩
  refine⟨_,rfl,_,rfl,lm,_,_,_,rfl,rfl,AJ.of (s4 _ _ hm),e0,rfl,_,rfl,?_⟩;by_cases h1:m=M.getD 0 0
  case pos =>
   rw[show(!decide (V.int m=V.int (M.getD 0 0)))=false by rw[h1,decide_eq_true rfl]; rfl];exact CO (skip (by show(decide (m≠_) && _)=false; rw[decide_eq_false (λz=>z h1),Bool.false_and]))
  rw[show(!decide (V.int m=V.int (M.getD 0 0)))=true by rw[decide_eq_false (E8 h1)]; rfl];refine FQ ⟨_,rfl,_,rfl,lm,_,_,_,rfl,rfl,AJ.of (s4 _ _ hm),e1,rfl,_,rfl,?_⟩;by_cases h2:m=M.getD 1 0
  case pos =>
   rw[show(!decide (V.int m=V.int (M.getD 1 0)))=false by rw[h2,decide_eq_true rfl]; rfl];exact CO (skip (by show(decide (m≠M.getD 0 0) && decide (m≠_))=false; rw[decide_eq_false (p:=m≠M.getD 1 0) (λz=>z h2),Bool.and_false]))
  rw[show(!decide (V.int m=V.int (M.getD 1 0)))=true by rw[decide_eq_false (E8 h2)]; rfl];refine FQ ?_;have hne:=QN mM;rw[lM] at hne;have sl:=WR M S.length m;refine⟨_,rfl,ls,_,rfl,.inl (AJ.of (s4 _ _ hl)),S.length,by rw[lv],by omega,by omega,λa1 ha1=>?_⟩;refine PU (m:=m) (j:=1) (sf:=λs=>s.a) ⟨none,rfl⟩ (λs=>D5 _ _ _) (s4 _ _ hl) (hC.keep Cs s4) (s4 _ _ hm) lM n30 ha1 λH5 s5 g5=>?_
  refine⟨_,rfl,ls,_,rfl,.inl (AJ.of (s5 _ _ (s4 _ _ hl))),S.length,by rw[lv],by omega,by omega,λa2 ha2=>?_⟩;refine PU (m:=m) (j:=0) (sf:=λs=>s.v) ⟨none,rfl⟩ (λs=>Dy _ _ _) (s5 _ _ (s4 _ _ hl)) (hC.keep Cs (s4.trans s5)) (s5 _ _ (s4 _ _ hm)) lM n30 ha2 λH6 s6 g6=>?_
  obtain⟨k0,kr,ek⟩:∃k0 kr,CM M S.length m=k0 :: kr:=by
   cases z:CM M S.length m with
   | nil=>exact absurd z hne
   | cons a b=>exact⟨a,b,rfl⟩
  have g6':=g6;rw[ek] at g6';refine⟨a2,_,_,_,rfl,rfl,AJ.of g6',hd0 _ _,?_⟩;refine⟨_,rfl,.inl ⟨rfl,_,AJ.of ((s5.trans s6) _ _ hes)⟩,_,rfl,_,rfl,_,rfl,a1,_,rfl,s6 _ _ g5,by rw[cf,ek]; exact Nat.succ_pos _,λmn m1 m2=>?_⟩;refine⟨_,rfl,by exact CB,λp1 hp1=>?_⟩;have s7:=AR hp1 (.AF [.int (-(Am S k0).v),.int mn,.int m]);have g7:Dx (AE H6 p1 (.AF [.int (-(Am S k0).v),.int mn,.int m])) p1 [-(Am S k0).v,mn,m]:=AM;generalize AE H6 p1 (.AF [.int (-(Am S k0).v),.int mn,.int m])=H7 at s7 g7;have s47:=s5.trans (s6.trans s7);have lr:rows.length<=30:=by
   have:=congrArg List.length hr
   rw[cf] at this;have z:=fo (Fc M) (ms.take i);rw[dm] at z;omega
  have le:es.length=rows.length:=hE.1;refine⟨L,_,_,rfl,rfl,s47 _ _ hes,by rw[cf,sizeLine_eq]; omega,?_⟩;refine⟨DW (s4.trans s47) hL _,(AW nDL).trans (s47 _ _ gD),_,_,_,es++[p1],rows++[[-(Am S k0).v,mn,m]],rfl,by rw[AM]; simp,YR ((hE.keep Hy s47).snoc g7) (s47 _ _ hes) _,?_,λr hr'=>?_⟩
  ·rw[BO hi,eM,<-hr,dh,eT,if_pos (show Fc M m=true by show(decide (m≠_) && decide (m≠_))=true; rw[decide_eq_true h1,decide_eq_true h2]; rfl)]; rfl
  ·rcases cS.mp hr' with z | z
   ·exact hk r z
   ·rw[cW.mp z];exact⟨_,_,_,rfl,by rw[Ie,ek]; exact dr,m1,m2⟩
 rintro σ H4 ⟨s4,gD,u3,u4,u5,es,rows,rfl,hes,hE,hr,hk⟩;rw[cf,eI] at hr;have lr:rows.length<=30:=by
  have:=congrArg List.length hr
  rw[cf] at this;have z:=fo (Fc M) ms;omega
 have ndr:(rows.map λr=>r.getD 2 0).Nodup:=by rw[hr]; exact ndm.filter _
 refine⟨_,rfl,lm,_,_,_,rfl,rfl,AJ.of (s4 _ _ hm),e0,_,rfl,lm,_,_,_,rfl,rfl,AJ.of (s4 _ _ hm),e1,by exact sz2,λq1 hq1=>?_⟩;have s5:=AR hq1 (.AD [.int (M.getD 0 0),.int (M.getD 1 0)]);have g5:AE H4 q1 (.AD [.int (M.getD 0 0),.int (M.getD 1 0)]) q1=some (.AD [.int (M.getD 0 0),.int (M.getD 1 0)]):=AM;generalize AE H4 q1 (.AD [.int (M.getD 0 0),.int (M.getD 1 0)])=H5 at s5 g5;refine⟨_,rfl,L,es,rows,rfl,s5 _ _ hes,hE.keep Hy s5,λr z=>?_,List.Pairwise.of_map (λr:List Int=>r.getD 2 0) (λa b h z=>h (by rw[z])) ndr,by omega,λl2 ds rs hl2 hds prm pw=>?_⟩
 ·obtain⟨v,a,m,rfl,_⟩:=(hk r z).ex;exact List.cons_ne_nil _ _
 have s6:=AR hl2 (.AD (ds.map V.ref));have g6:AE H5 l2 (.AD (ds.map V.ref)) l2=some (.AD (ds.map V.ref)):=AM;generalize AE H5 l2 (.AD (ds.map V.ref))=H6 at s6 g6;have hds6:=hds.keep Hy s6;have lds:ds.length=rs.length:=hds.1;have lrs:=prm.length_eq;refine⟨l2,rfl,⟨_,AJ.of g6⟩,λacc hacc=>?_⟩;refine Cf (Fh g6) (by rw[cf]; omega) hacc (λi ys σ hp=>ys=((rs.map λr=>r.getD 2 0).take i).map V.int/\∃u,σ=[u]) ⟨rfl,none,rfl⟩ ?_ ?_
 ·rintro i ys σ H7 x H8 hi sm hacc2 ⟨rfl,u,rfl⟩ ⟨rfl,hx⟩ Cc hCc;obtain⟨c,r,rfl,_,hb,hbx⟩:=hds6.ref hx;obtain⟨v,a,m,rfl,_⟩:=(hk r (prm.mem_iff.mp (cq hb))).ex;refine⟨_,rfl,c,_,_,_,rfl,rfl,AO.of (sm _ _ hbx),DD _ _ _,hCc _ _ _ (AN.refl _) ⟨?_,_,rfl⟩⟩;rw[BO (show(rs.map λr=>r.getD 2 0)[i]?=some m by rw[cu,hb]; rfl),dh]; rfl
 rintro ys σ H7 s7 hacc2 hlen ⟨rfl,u,rfl⟩;rw[cf,lds,dC (by rw[cf]; exact cR _)] at hacc2;refine⟨q1,acc,_,_,rfl,rfl,s7 _ _ (s6 _ _ g5),hacc2,by rw[cf,cf,sizeLine_eq]; show 2+_<=_; omega,λt ht=>?_⟩;have pR:(rs.map λr=>r.getD 2 0).Perm (ms.filter (Fc M)):=by rw[<-hr]; exact prm.map _
 refine q t (rs.map λr=>r.getD 2 0) _ (s4.trans (s5.trans (s6.trans (s7.trans (AR ht _))))) AM ⟨pR.nodup_iff.mpr (ndm.filter _),λm=>?_,?_⟩
 ·rw[pR.mem_iff,dR,mem];simp only[Fc,dO,decide_eq_true_eq]
 ·rw[fE];refine(fM.mp pw).imp λ{r r'} h=>?_
  obtain⟨h1,h2,h3⟩:=h;obtain⟨v,a,m,rfl,x1,x2,x3⟩:=(hk r (prm.mem_iff.mp h1)).ex;obtain⟨v',a',m',rfl,y1,y2,y3⟩:=(hk r' (prm.mem_iff.mp h2)).ex;exact⟨v,v',a,a',x1,y1,x2,x3,y2,y3,h3⟩
theorem Xe{K:PySem.W.Frag}{H:Hp}{a:Addr}{xs:List V}(h:H a=some (.AD xs)):HY (LO K a xs.length) H xs.length (λi H2 x H3=>H3=H2/\xs.reverse[i]?=some x) :=
 ⟨λi H2 hi s=>⟨xs,xs.reverse[i]'(by rw[List.length_reverse]; exact hi),AJ.of (s _ _ h),rfl,cg _⟩,λi H2 x H3 _ s y=>⟨y.1,y.2 _ (AJ.of (s _ _ h))⟩,λH2 s=>cR _⟩
abbrev En:Type:=Nat×Nat
def Gp(H:Hp)(p:Addr)(e:En):Prop:=H p=some (.AF [.int (e.1:Int),.int (e.2:Int)])
theorem JH:Mo Gp:=λs h=>s _ _ h
abbrev EX(es:List En)(k:Nat):En:=es.getD k (0,0)
abbrev BD(bs:List AB)(k:Nat):Int:=(bs.getD k (0,0,0,0)).l
def D6(bs:List AB)(k:Nat):List Int:=[BD bs k,(k:Int)]
structure D7(bs:List AB)(p:List Nat):Prop where
 pm:p.Perm (List.range bs.length)
 up:p.Pairwise λi j=>Al (D6 bs i) (D6 bs j)=true
def FV(es:List En)(p:List Nat)(pl:Nat):List Int:=(p.reverse.filter λk=>decide ((EX es k).2=pl)).map λk:Nat=>2*(k:Int)+1
def FU(es:List En)(p:List Nat)(pl:Nat):List Int:=(p.filter λk=>decide ((EX es k).1=pl)).map λk:Nat=>2*(k:Int)
def B5(es:List En)(p:List Nat)(n pl:Nat):List Int:=(if pl=0 then [2*(n:Int)] else FV es p pl)++(if pl=1 then [2*(n:Int)+1] else FU es p pl)
theorem Y4{H:Hp}{cs:List Addr}{bs:List AB}(h:At BE H cs bs){i:Nat}(hi:i<bs.length):∃c d r u,(cs.map V.ref)[i]?=some (.ref c)/\H c=some (.AF [.int (BD bs i),d,r,u]):=by
 have il:i<cs.length:=by rw[h.1]; exact hi
 have e:bs[i]?=some (bs.getD i (0,0,0,0)):=by rw[cw,cg hi]; rfl
 exact⟨cs[i],_,_,_,by rw[cu,cg il]; rfl,h.2 i _ _ (cg il) e⟩
theorem RY{H:Hp}{cs:List Addr}{es:List En}(h:At Gp H cs es){i:Nat}(hi:i<es.length):∃c,(cs.map V.ref)[i]?=some (.ref c)/\H c=some (.AF [.int ((EX es i).1:Int),.int ((EX es i).2:Int)]):=by
 have il:i<cs.length:=by rw[h.1]; exact hi
 have e:es[i]?=some (EX es i):=by rw[EX,cw,cg hi]; rfl
 exact⟨cs[i],by rw[cu,cg il]; rfl,h.2 i _ _ (cg il) e⟩
theorem YS{bs:List AB}{rs:List (List Int)}(prm:rs.Perm ((List.range bs.length).map (D6 bs)))(pw:rs.Pairwise λa b=>Al a b=true):∃p,rs=p.map (D6 bs)/\D7 bs p:=by
 have e:rs=(rs.map λr=>(r.getD 1 0).toNat).map (D6 bs):=by
  rw[fg]
  conv=>lhs; rw[<-List.map_id rs]
  refine fG λr hr=>?_
  obtain⟨k,_,rfl⟩:=cT.mp (prm.mem_iff.mp hr);rfl
 refine⟨_,e,?_,?_⟩
 ·have:=prm.map λr=>(r.getD 1 0).toNat
  rw[fg] at this;have id':(List.range bs.length).map ((λr:List Int=>(r.getD 1 0).toNat) ∘ D6 bs)=List.range bs.length:=by
   conv=>rhs; rw[<-List.map_id (List.range bs.length)]
   exact fG λk _=>rfl
  rw[id'] at this;exact this
 ·rw[e,fE] at pw;exact pw
theorem YT(bs:List AB)(n:Nat):((List.range n).map (D6 bs)).Nodup:=by
 refine List.Pairwise.map _ (λi j h z=>h ?_) List.nodup_range
 have:=congrArg (λr:List Int=>r.getD 1 0) z
 have this:(i:Int)=(j:Int):=this;omega
theorem RD(es:List En)(p:List Nat)(pl:Nat):(FV es p pl).length<=p.length:=by
 unfold FV; rw[cf]; exact dg (fo _ _) (by rw[List.length_reverse]; exact cR _)
theorem Q0(es:List En)(p:List Nat)(pl:Nat):(FU es p pl).length<=p.length:=by
 unfold FU; rw[cf]; exact fo _ _
inductive RV(vs:List V)(H:Hp)(Q:VK):Prop
 | mk (pl:Nat) (le lb:Addr) (es:List En) (bs:List AB) (h_0:vs=[.int (pl:Int),.ref le,.ref lb]) (h_1:Ax Gp H le es) (h_2:Ax BE H lb bs) (h_3:es.length=bs.length) (h_4:bs.length<=14) (h_5:∀p,D7 bs p->B5 es p bs.length pl≠[])
   (h_6:∀t p H',AN H H'->D7 bs p->Bq H' t (Bm (B5 es p bs.length pl))->Q (.ref t) H'):RV vs H Q
def Ky:Sp:=λvs H Q _=>RV vs H Q
theorem Ge:Ar ["_law_place","_law_ends","_law_boxes_here","_law_order_here","_law_above","_law_below","_law_turn_here","_law_at"] ["_law_place","_law_ends","_law_boxes_here"] (Ah s_law_turn):=Av
theorem ah:(["_law_k","_law_boxes_here"]:List Str).Nodup:=by decide +kernel
theorem K7:(["_law_left","_law_k","_law_ends","_law_place"]:List Str).Nodup:=by decide +kernel
seal L2.Bu L2.PS L2.PE L2.PA in
set_option maxHeartbeats 8000000 in
theorem Zg(F : Fun K "_law_turn" "_law_turn" s_law_turn f fd)(mr : mg "range" = none)(ml : mg "len" = none)(mso : mg "sorted" = none)(mn : mg "min" = none)(mv : mg "reversed" = none)(mt : mg "tuple" = none): AL P w K mg base AK 1 f fd ["_law_place", "_law_ends", "_law_boxes_here"] Ky := by
  refine F.ok Ge (λvs H Q E h => ?_) (λcdv A outer s H vs Q E hr h => ?_)
  · obtain⟨pl, le, lb, es, bs, rfl, _⟩ := h;rfl
  obtain⟨pl, le, lb, es, bs, rfl, ⟨ds, hle, hD⟩, ⟨cs, hlb, hC⟩, lEB, n14, hne, q⟩ := h;refine⟨_, AS (Aa (i := 3) Ge.nd rfl (Or.inl rfl) (As Nx (by rfl) mso Jp (AA (EH (Nc := ["_law_k", "_law_boxes_here"]) (cap := [(1, 2)]) (g := BG 0) (te := _) rfl (EC (by rfl) mr (AA (As (Bo (K := K)) (by rfl) ml Bh (AA (pv 2) AG)) AG))
        (B1 rfl rfl (by decide +kernel) (by decide +kernel) (cy.mpr ⟨⟨rfl, rfl⟩, cQ _⟩) rfl (cy.mpr ⟨⟨_, _, rfl, rfl, rfl, rfl, rfl⟩, cQ _⟩))
        (λ_ _ _ _ _ => AV (i := 0) ah rfl (Or.inl rfl)) (λ_ _ _ _ _ => Ao (AA (pT K (pL K (pv 1) (pv 0)) AH) (AA (pv 0) AG)))) AG)))
    (AS (LQ (i := 4) Ge.nd rfl (Or.inl rfl) (Nc := ["_law_left", "_law_k", "_law_ends", "_law_place"]) (cap := [(2, 1), (3, 0)]) (g := JT K 2 (HK (BG 0) (HK (BG 1) K2))) (tt := _) (te := _) rfl (YW (by rfl) mv (pv 3))
        (B1 rfl rfl (by decide +kernel) (by decide +kernel) (cy.mpr ⟨⟨rfl, rfl⟩, cy.mpr ⟨⟨rfl, rfl⟩, cQ _⟩⟩) rfl (cy.mpr ⟨⟨_, _, rfl, rfl, rfl, rfl, rfl⟩, cy.mpr ⟨⟨_, _, rfl, rfl, rfl, rfl, rfl⟩, cQ _⟩⟩))
        (λ_ _ _ _ _ => Ca (n := 2) (K := K) rfl (Ai (AV (i := 0) K7 rfl (Or.inl rfl)) (Ai (AV (i := 1) K7 rfl (Or.inl rfl)) CS))) (λ_ _ _ _ _ => A4 Ci (pT K (pL K (pv 2) (pv 1)) AH) (pv 3) (An _)) (λ_ _ _ _ _ => AQ A5 (AQ C6 AH (pv 1)) AH))
    (AS (LQ (i := 5) Ge.nd rfl (Or.inl rfl) (Nc := ["_law_left", "_law_k", "_law_ends", "_law_place"]) (cap := [(2, 1), (3, 0)]) (g := JT K 2 (HK (BG 0) (HK (BG 1) K2))) (tt := _) (te := _) rfl (Cu (K := K) (pv 3))
        (B1 rfl rfl (by decide +kernel) (by decide +kernel) (cy.mpr ⟨⟨rfl, rfl⟩, cy.mpr ⟨⟨rfl, rfl⟩, cQ _⟩⟩) rfl (cy.mpr ⟨⟨_, _, rfl, rfl, rfl, rfl, rfl⟩, cy.mpr ⟨⟨_, _, rfl, rfl, rfl, rfl, rfl⟩, cQ _⟩⟩))
        (λ_ _ _ _ _ => Ca (n := 2) (K := K) rfl (Ai (AV (i := 0) K7 rfl (Or.inl rfl)) (Ai (AV (i := 1) K7 rfl (Or.inl rfl)) CS))) (λ_ _ _ _ _ => A4 Ci (pT K (pL K (pv 2) (pv 1)) AH) (pv 3) (An _)) (λ_ _ _ _ _ => AQ C6 AH (pv 1)))
    (AS (Bk (A4 Ci (pv 0) AH (An _)) (AU (Aa (i := 4) Ge.nd rfl (Or.inl rfl) (B3 (AA (AQ C6 AH (As (Bo (K := K)) (by rfl) ml Bh (AA (pv 2) AG))) AG)))) B2)
    (AS (Bk (A4 Ci (pv 0) AH (An _)) (AU (Aa (i := 5) Ge.nd rfl (Or.inl rfl) (B3 (AA (AQ A5 (AQ C6 AH (As (Bo (K := K)) (by rfl) ml Bh (AA (pv 2) AG))) AH) AG)))) B2)
    (AS (Aa (i := 6) Ge.nd rfl (Or.inl rfl) (AQ Eo (pv 4) (pv 5)))
    (AS (Aa (i := 7) Ge.nd rfl (Or.inl rfl) (C7 K dc e8 fA Gz (pv 6) (AA (As (Oh rfl) (by rfl) mn ID (AA (pv 6) AG)) AG)))
    (AU (Ak (Dr (Fi (K := K)) (by rfl) mt ED (AA (AQ Eo (Eg (Ho (K := K)) (pv 6) (EG (pv 7)) FG) (Eg (Ho (K := K)) (pv 6) FG (EG (pv 7)))) AG)))))))))), ?_⟩
  have lc : cs.length = bs.length := hC.1;have lv : ((cs.map V.ref).length : Int) = (bs.length : Int) := by rw[cf, lc]
  refine⟨_, rfl, lb, _, rfl, .inl (AJ.of hlb), bs.length, by rw[lv], by omega, by omega, λacc hacc => ?_⟩;refine Cf (Jw (lo := 0) (n := bs.length)) (by omega) hacc (λi ys σ hp => ∃gs : List Addr, ys = gs.map V.ref /\ At Dx hp gs ((List.range i).map (D6 bs)) /\ ∃u, σ = [u, some (.ref lb)]) ⟨[], rfl, At.nil, none, rfl⟩ ?_ ?_
  · rintro i ys σ H2 x H3 hi sm hacc2 ⟨gs, rfl, hG, u, rfl⟩ ⟨rfl, rfl⟩ Cc hCc;rw[gc];obtain⟨c, x1, x2, x3, r1, t1⟩ := Y4 (hC.keep Em sm) hi;refine⟨_, rfl, _, rfl, lb, _, _, _, rfl, rfl, AJ.of (sm _ _ hlb), Aq r1, c, _, _, _, rfl, rfl, AO.of t1, hd0 _ _, _, rfl, by exact sz2, λp hp => ?_⟩;have sp := AR hp (.AF [.int (BD bs i), .int (i : Int)]);refine hCc _ _ _ sp ⟨gs ++ [p], by simp, ?_, _, rfl⟩;rw[List.range_succ, dh];exact(hG.keep Hy (FD acc sp)).snoc (Bq.BF (t := D6 bs i) AM (sp _ _ hacc2))
  rintro ys σ H1 s1 hacc1 hl1 ⟨gs, rfl, hG, u, rfl⟩;refine⟨acc, gs, _, rfl, hacc1, hG.keep Hy (EE H1 acc), λr z => ?_, YT bs _, by rw[cf, c7]; omega, λlo os rs hlo hos prm pw => ?_⟩
  · obtain⟨k, _, rfl⟩ := cT.mp z;exact List.cons_ne_nil _ _
  obtain⟨p, rfl, op⟩ := YS prm pw;clear prm pw hG;have lp : p.length = bs.length := by rw[op.pm.length_eq, c7]
  have kp : ∀k ∈ p, k < es.length := λk hk => by have := cZ.mp (op.pm.mem_iff.mp hk); omega
  have s2 := AR hlo (.AD (os.map V.ref));have g2 : AE H1 lo (.AD (os.map V.ref)) lo = some (.AD (os.map V.ref)) := AM;have hos := hos.keep Hy s2;generalize AE H1 lo (.AD (os.map V.ref)) = H2 at s2 g2 hos;have s02 := s1.trans s2;have los : os.length = p.length := by rw[hos.1, cf]
  have lov : (os.map V.ref).length = p.length := by rw[cf, los]
  refine⟨_, rfl, lo, _, rfl, AJ.of g2, λa1 ha1 => ?_⟩;refine Jv (Xe g2) (by omega) ha1 (λi ys σ hp => ys = (((p.reverse.take i).filter λk => decide ((EX es k).2 = pl)).map λk : Nat => V.int (2 * (k : Int) + 1)) /\ ∃u v, σ = [u, v, some (.ref le), some (.int (pl : Int))]) ⟨rfl, none, none, rfl⟩ ?_ ?_
  · rintro i ys σ H3 x H4 hi sm hacc2 ⟨rfl, u, v, rfl⟩ ⟨rfl, hx⟩ Cc Nn hCc hNn;have hi : i < p.length := by omega
    have er : p.reverse[i]? = some (p[p.length - 1 - i]) := by rw[List.getElem?_reverse hi, cg]
    rw[List.getElem?_reverse (by omega), lov] at hx;obtain⟨c, r, rfl, _, hb, hbx⟩ := hos.ref hx;rw[cu, cg (show p.length - 1 - i < p.length by omega)] at hb;cases hb;generalize p[p.length - 1 - i] = k at hbx er;have km : k ∈ p := List.mem_reverse.mp (cq er);obtain⟨ce, r1, t1⟩ := RY (hD.keep JH (s02.trans sm)) (kp k km);refine⟨c, _, rfl, AO.of (sm _ _ hbx), rfl, _, _, rfl, _, _, rfl, rfl, ?_⟩;refine⟨_, rfl, _, rfl, le, _, _, _, rfl, rfl, AJ.of ((s02.trans sm) _ _ hle), Aq r1, ce, _, _, _, rfl, rfl, AO.of t1, E6, _, rfl, rfl, _, rfl, ?_⟩;by_cases z : (EX es k).2 = pl
    · refine Bl (by rw[z]) ⟨_, rfl, _, _, rfl, rfl, .inl ⟨by decide, by decide⟩, _, _, rfl, rfl, hCc _ _ _ (AN.refl _) ⟨?_, _, _, rfl⟩⟩;rw[BO er, eM, eT, if_pos (decide_eq_true z), dh]; rfl
    · refine Bj (E8 (λe => z (by omega))) (hNn _ _ (AN.refl _) ⟨?_, _, _, rfl⟩);rw[BO er, eM, eT, if_neg (by rw[decide_eq_false z]; exact df)]; simp
  rintro ys σ H3 s3 hA ⟨rfl, u1, v1, rfl⟩;have hA : H3 a1 = some (.AD ((FV es p pl).map V.int)) := by
    rw[hA, lov, <- List.length_reverse, eI, FV, fg]; rfl
  refine⟨_, rfl, lo, rfl, ⟨_, AJ.of (s3 _ _ g2)⟩, λa2 ha2 => ?_⟩;refine Jv (Fh (s3 _ _ g2)) (by omega) ha2 (λi ys σ hp => ys = (((p.take i).filter λk => decide ((EX es k).1 = pl)).map λk : Nat => V.int (2 * (k : Int))) /\ ∃u v, σ = [u, v, some (.ref le), some (.int (pl : Int))]) ⟨rfl, none, none, rfl⟩ ?_ ?_
  · rintro i ys σ H4 x H5 hi sm hacc2 ⟨rfl, u, v, rfl⟩ ⟨rfl, hx⟩ Cc Nn hCc hNn;have hi : i < p.length := by omega
    have er : p[i]? = some (p[i]) := cg hi;obtain⟨c, r, rfl, _, hb, hbx⟩ := hos.ref hx;rw[cu, er] at hb;cases hb;generalize p[i] = k at hbx er;have km : k ∈ p := cq er;have s24 := s3.trans sm;obtain⟨ce, r1, t1⟩ := RY (hD.keep JH (s02.trans s24)) (kp k km);refine⟨c, _, rfl, AO.of (s24 _ _ hbx), rfl, _, _, rfl, _, _, rfl, rfl, ?_⟩;refine⟨_, rfl, _, rfl, le, _, _, _, rfl, rfl, AJ.of ((s02.trans s24) _ _ hle), Aq r1, ce, _, _, _, rfl, rfl, AO.of t1, Gv, _, rfl, rfl, _, rfl, ?_⟩;by_cases z : (EX es k).1 = pl
    · refine Bl (by rw[z]) ⟨_, rfl, _, _, rfl, rfl, .inl ⟨by decide, by decide⟩, hCc _ _ _ (AN.refl _) ⟨?_, _, _, rfl⟩⟩;rw[BO er, eM, eT, if_pos (decide_eq_true z), dh]; rfl
    · refine Bj (E8 (λe => z (by omega))) (hNn _ _ (AN.refl _) ⟨?_, _, _, rfl⟩);rw[BO er, eM, eT, if_neg (by rw[decide_eq_false z]; exact df)]; simp
  rintro ys σ H4 s4 hB ⟨rfl, u2, v2, rfl⟩;have hB : H4 a2 = some (.AD ((FU es p pl).map V.int)) := by
    rw[hB, lov, eI, FU, fg]; rfl
  have hA := s4 _ _ hA;have s04 := s02.trans (s3.trans s4);have n1 := RD es p pl;have n2 := Q0 es p pl;unfold BG;dsimp only;refine MP (λσ H5 => ∃a1 : Addr, σ = [some (.int (pl : Int)), some (.ref le), some (.ref lb), some (.ref lo), some (.ref a1), some (.ref a2), none, none] /\ AN H4 H5 /\ H5 a1 = some (.AD ((if pl = 0 then [2 * (bs.length : Int)] else FV es p pl).map V.int))) ?_ λnx hn => ?_
  · rintro σ H5 ⟨b1, rfl, s5, hA5⟩;refine MP (λσ H6 => ∃b2 : Addr, σ = [some (.int (pl : Int)), some (.ref le), some (.ref lb), some (.ref lo), some (.ref b1), some (.ref b2), none, none] /\ AN H5 H6 /\ H6 b2 = some (.AD ((if pl = 1 then [2 * (bs.length : Int) + 1] else FU es p pl).map V.int))) ?_ λnx hn => ?_
    · rintro σ H6 ⟨b2, rfl, s6, hB6⟩;have na : (if pl = 0 then [2 * (bs.length : Int)] else FV es p pl).length <= 15 := by
        split
        · show 1 <= 15; decide
        · omega
      have nb : (if pl = 1 then [2 * (bs.length : Int) + 1] else FU es p pl).length <= 15 := by
        split
        · show 1 <= 15; decide
        · omega
      refine⟨_, rfl, _, rfl, b1, b2, _, _, rfl, rfl, s6 _ _ hA5, hB6, by rw[cf, cf, sizeLine_eq]; omega, λlt hlt => ?_⟩;have h0 := hne p op;have lT : (B5 es p bs.length pl).length <= 30 := by unfold B5; rw[cX]; omega
      rw[<- dh];have q := λt H' => q t p H'
      change ∀t H', AN H H' → D7 bs p → Bq H' t (Bm (B5 es p bs.length pl)) → Q (.ref t) H' at q;have s7 := AR hlt (.AD ((B5 es p bs.length pl).map V.int));have g7 : AE H6 lt (.AD ((B5 es p bs.length pl).map V.int)) lt = some (.AD ((B5 es p bs.length pl).map V.int)) := AM;change Mt _ _ _ _ (AE H6 lt (.AD ((B5 es p bs.length pl).map V.int)));generalize AE H6 lt (.AD ((B5 es p bs.length pl).map V.int)) = H7 at s7 g7;generalize B5 es p bs.length pl = t at h0 lT g7 q;refine⟨_, rfl, .inl ⟨rfl, _, AJ.of g7⟩, _, rfl, lt, t, rfl, g7, List.length_pos_iff.mpr h0, λm mm mle => ⟨lt, t, m, rfl, rfl, g7, mm, by omega, ?_⟩⟩;have em := Oe mm mle;have hc : t.idxOf m < t.length := eE.mpr mm;have eb : Bm t = t.drop (t.idxOf m) ++ t.take (t.idxOf m) := by unfold Bm; rw[em]
      generalize t.idxOf m = c at hc eb;refine⟨_, rfl, _, rfl, _, rfl, lt, _, rfl, AJ.of g7, λp1 hp1 => ?_⟩;have ec : CU (t.map V.int) (some (c : Int)) none = (t.drop c).map V.int := by rw[J3 _ (by rw[cf]; omega), List.map_drop]
      rw[ec];have s8 := AR hp1 (.AD ((t.drop c).map V.int));have g8 : AE H7 p1 (.AD ((t.drop c).map V.int)) p1 = some (.AD ((t.drop c).map V.int)) := AM;generalize AE H7 p1 (.AD ((t.drop c).map V.int)) = H8 at s8 g8;refine⟨_, rfl, _, rfl, _, rfl, lt, _, rfl, AJ.of (s8 _ _ g7), λp2 hp2 => ?_⟩;have ec2 : CU (t.map V.int) none (some (c : Int)) = (t.take c).map V.int := by rw[Il _ (by rw[cf]; omega), List.map_take]
      rw[ec2];have s9 := AR hp2 (.AD ((t.take c).map V.int));have g9 : AE H8 p2 (.AD ((t.take c).map V.int)) p2 = some (.AD ((t.take c).map V.int)) := AM;generalize AE H8 p2 (.AD ((t.take c).map V.int)) = H9 at s9 g9;refine⟨p1, p2, _, _, rfl, rfl, s9 _ _ g8, g9, by rw[cf, cf, dN, dm, sizeLine_eq]; omega, λp3 hp3 => ?_⟩;rw[<- dh, <- eb];have sa := AR hp3 (.AD ((Bm t).map V.int));have ga : AE H9 p3 (.AD ((Bm t).map V.int)) p3 = some (.AD ((Bm t).map V.int)) := AM;generalize AE H9 p3 (.AD ((Bm t).map V.int)) = Ha at sa ga;refine⟨p3, _, rfl, .inl ⟨AJ.of ga, λtt htt => ?_⟩⟩;exact q tt _ (s04.trans (s5.trans (s6.trans (s7.trans (s8.trans (s9.trans (sa.trans (AR htt _)))))))) op AM
    · refine⟨_, rfl, rfl, _, rfl, ?_⟩;by_cases z : pl = 1
      · refine Bl (by rw[z]; rfl) ⟨_, rfl, lb, _, rfl, .inl (AJ.of (s5 _ _ (s04 _ _ hlb))), _, _, rfl, rfl, .inl ⟨by decide, by decide⟩, _, _, rfl, rfl, by exact sz1, λb2 hb2 => hn _ _ ⟨b2, rfl, AR hb2 _, ?_⟩⟩;rw[if_pos z, AM, lv]; rfl
      · refine Bj (E8 (λe => z (by omega))) (hn _ _ ⟨a2, rfl, AN.refl _, ?_⟩);rw[if_neg z]; exact s5 _ _ hB
  · refine⟨_, rfl, rfl, _, rfl, ?_⟩;by_cases z : pl = 0
    · refine Bl (by rw[z]; rfl) ⟨_, rfl, lb, _, rfl, .inl (AJ.of (s04 _ _ hlb)), _, _, rfl, rfl, .inl ⟨by decide, by decide⟩, by exact sz1, λb2 hb2 => hn _ _ ⟨b2, rfl, AR hb2 _, ?_⟩⟩;rw[if_pos z, AM, lv]; rfl
    · refine Bj (E8 (λe => z (by omega))) (hn _ _ ⟨a1, rfl, AN.refl _, ?_⟩);rw[if_neg z]; exact hA
theorem Qn{H:Hp}{a:Addr}{ds:List Addr}{rs:List En}{ys:List V}(h:At Gp H ds rs)(e:H a=some (.AD ys))(o:HO):At Gp (AE H a o) ds rs :=
 ⟨h.1,λi c x e1 e2=>by
  have h1:H c=_:=h.2 i c x e1 e2;show AE H a o c=_;rw[AW (λz=>by rw[z,e] at h1; cases h1)]; exact h1⟩
theorem RE{H:Hp}{a:Addr}{ds:List Addr}{rs:List Rp}{ys:List V}(h:At CA H ds rs)(e:H a=some (.AD ys))(o:HO):At CA (AE H a o) ds rs :=
 ⟨h.1,λi c x e1 e2=>by
  obtain⟨qf,h1,h2⟩:=h.2 i c x e1 e2;have h2:H qf=_:=h2;refine⟨qf,?_,?_⟩
  ·rw[AW (λz=>by rw[z,e] at h1; cases h1)]; exact h1
  ·show AE H a o qf=_;rw[AW (λz=>by rw[z,e] at h2; cases h2)]; exact h2⟩
def BR(M R:List Int):List Int:=M.getD 0 0 :: M.getD 1 0 :: R
def A3(M R:List Int)(k:Nat):En:=((BR M R).idxOf (M.getD (3+2*k) 0),(BR M R).idxOf (M.getD (2+2*k) 0))
def CK(M R:List Int)(n:Nat):List En:=(List.range n).map (A3 M R)
def Gu(M R:List Int)(bs:List AB)(k:Nat):Rp:=((A3 M R k).1,(A3 M R k).2,(((bs.getD k (0,0,0,0)).r-(bs.getD k (0,0,0,0)).l:Int):Rat) / (((bs.getD k (0,0,0,0)).u-(bs.getD k (0,0,0,0)).d:Int):Rat))
def BZ(M R:List Int)(bs:List AB):List Rp:=(List.range bs.length).map (Gu M R bs)
theorem PN{S:List Sd}{M R:List Int}(h:GF S M R){m:Int}(hm:m∈M):m∈BR M R:=by
 unfold BR;by_cases e1:m=M.getD 0 0
 ·rw[e1]; exact dr
 by_cases e2:m=M.getD 1 0
 ·rw[<-e2]; exact da _ dr
 exact da _ (da _ ((h.mem m).mpr ⟨hm,e1,e2⟩))
theorem Hv{α:Type}{g:Nat->α}{n a:Nat}(h:a<n):((List.range n).map g)[a]?=some (g a):=by rw[cu,eO h]; rfl
structure SU(bs:List AB)(S:List Sd)(M R:List Int)(ts:List (List Int)):Prop where
 ms:FY S M
 od:GF S M R
 ln:ts.length=R.length+2
 tn:∀pl t,ts[pl]?=some t->∃p,D7 bs p/\t=Bm (B5 (CK M R bs.length) p bs.length pl)
variable {f4:Addr} {d4:FuncData}
inductive SM(vs:List V)(H:Hp)(Q:VK):Prop
 | mk (a l:Addr) (W U:Int) (bs:List AB) (h_0:vs=[.ref a]) (h_1:H a=some (.AF [.int W,.int U,.ref l])) (h_2:Ax BE H l bs) (h_3:bs.length<=14) (h_4:∀b∈bs,b.d<b.u/\BV (b.u-b.d))
   (h_5:∀M R,FY (Ab W U bs) M->GF (Ab W U bs) M R->R.length<=30/\∀pl p,pl<R.length+2->D7 bs p->B5 (CK M R bs.length) p bs.length pl≠[])
   (h_6:∀t ra ta M R ts H',AN H H'->SU bs (Ab W U bs) M R ts->H' t=some (.AF [.int ((R.length+2:Nat):Int),.ref ra,.ref ta])->BA CA H' ra (BZ M R bs)->BA Bq H' ta ts->Q (.ref t) H'):SM vs H Q
def M7:Sp:=λvs H Q _=>SM vs H Q
theorem D8:Ar ["_law_built","_law_boxes_here","_law_sides","_law_marks","_law_order_here","_law_ends","_law_ropes","_law_k","_law_left","_law_low_here","_law_right","_law_high","_law_turns"] ["_law_built"] (Ah s_law_due):=Av
theorem bC:(["_law_place","_law_ends","_law_boxes_here"]:List Str).Nodup:=by decide +kernel
seal L2.Bu L2.PS L2.PE L2.PA in
set_option maxHeartbeats 8000000 in
theorem aQ (F:Fun K "_law_due" "_law_due" s_law_due f fd) (G1:AL P w K mg base AK 1 f1 d1 ["_law_built"] M4) (b1:Af K d1 ["_law_built"] []) (k1:KP K f1) (m1:mg "_law_lines" = some (.ref f1))
  (G2:AL P w K mg base AK 1 f2 d2 ["_law_sides","_law_marks"] NQ) (b2:Af K d2 ["_law_sides","_law_marks"] []) (k2:KP K f2) (m2:mg "_law_order" = some (.ref f2))
  (G3:AL P w K mg base AK 1 f3 d3 ["_law_place","_law_ends","_law_boxes_here"] Ky) (b3:Af K d3 ["_law_place","_law_ends","_law_boxes_here"] []) (k3:KP K f3) (m3:mg "_law_turn" = some (.ref f3))
  (G4:AL P w K mg base AK 1 f4 d4 ["_law_top","_law_bottom"] HG) (b4:Af K d4 ["_law_top","_law_bottom"] []) (k4:KP K f4) (m4:mg "_law_low" = some (.ref f4))
  (mr:mg "range" = none) (ml:mg "len" = none) (mt:mg "tuple" = none):AL P w K mg base AK 2 f fd ["_law_built"] M7:=by
 refine F.ok D8 (λvs H Q E h=>?_) (λcdv A outer s H vs Q E hr h=>?_)
 ·obtain⟨a,l,W,U,bs,rfl,_⟩:=h;rfl
 obtain⟨a,l,W,U,bs,rfl,ha,hL,n14,hb,hne,q⟩:=h;refine⟨_,AS (Aa (i:=1) D8.nd rfl (Or.inr rfl) (pT K (pv 0) AH))
  (AS (Fp (Ac G1 hr (by rfl) m1 k1 b1 .nil Ad (AA (pv 0) AG)) (Ca (n:=2) (K:=K) rfl (Ai (AV (i:=2) D8.nd rfl (Or.inl rfl)) (Ai (AV (i:=3) D8.nd rfl (Or.inl rfl)) CS))))
  (AS (Aa (i:=4) D8.nd rfl (Or.inl rfl) (Ac G2 hr (by rfl) m2 k2 b2 .nil Ad (AA (pv 2) (AA (pv 3) AG))))
  (AS (Aa (i:=5) D8.nd rfl (Or.inr rfl) (B3 AG))
  (AS (Aa (i:=6) D8.nd rfl (Or.inl rfl) (B3 AG))
  (AS (Bv dv rfl (EC (by rfl) mr (AA (As (Bo (K:=K)) (by rfl) ml Bh (AA (pv 1) AG)) AG)) (AV (i:=7) D8.nd rfl (Or.inl rfl))
   (AS (Fp (pL K (pv 1) (pv 7)) (Ca (n:=4) (K:=K) rfl (Ai (AV (i:=8) D8.nd rfl (Or.inl rfl)) (Ai (AV (i:=9) D8.nd rfl (Or.inl rfl)) (Ai (AV (i:=10) D8.nd rfl (Or.inl rfl)) (Ai (AV (i:=11) D8.nd rfl (Or.inl rfl)) CS))))))
   (AS (Cq (C7 K dc dG dH DT (pv 5) (AA (Ao (AA (C7 K dc e8 fA Gz (pv 4) (AA (pL K (pv 3) (AQ A5 AH (AQ C6 AH (pv 7)))) AG)) (AA (C7 K dc e8 fA Gz (pv 4) (AA (pL K (pv 3) (AQ A5 AH (AQ C6 AH (pv 7)))) AG)) AG))) AG)))
   (AU (Cq (C7 K dc dG dH DT (pv 6) (AA (Ao (AA (pT K (pL K (pv 5) (pv 7)) AH) (AA (pT K (pL K (pv 5) (pv 7)) AH) (AA (Ac G4 hr (by rfl) m4 k4 b4 .nil Ad (AA (AQ B4 (pv 10) (pv 8)) (AA (AQ B4 (pv 11) (pv 9)) AG))) AG)))) AG)))))))
  (AS (Gw (i:=12) D8.nd rfl (Or.inl rfl) (Nc:=["_law_place","_law_ends","_law_boxes_here"]) (cap:=[(1,5),(2,1)]) (g:=BG 0) (te:=Fs Ky [] E0 (BQ (Au 0) (BQ (Au 1) (BQ (Au 2) B7)))) rfl (EC (by rfl) mr (AA (As (Bo (K:=K)) (by rfl) ml Bh (AA (pv 4) AG)) AG))
    (B1 rfl rfl (by decide +kernel) (by decide +kernel) (cy.mpr ⟨⟨rfl,rfl⟩,cy.mpr ⟨⟨rfl,rfl⟩,cQ _⟩⟩) rfl (cy.mpr ⟨⟨_,_,rfl,rfl,rfl,rfl,rfl⟩,cy.mpr ⟨⟨_,_,rfl,rfl,rfl,rfl,rfl⟩,cQ _⟩⟩))
    (λ_ _ _ _ _=>AV (i:=0) bC rfl (Or.inl rfl)) (λ_ _ _ _ _=>Ac (CX:=AK) G3 hr (by rfl) m3 k3 b3 .nil Ad (AA (pv 0) (AA (pv 1) (AA (pv 2) AG)))))
  (AU (Ak (Ao (AA (As (Bo (K:=K)) (by rfl) ml Bh (AA (pv 4) AG)) (AA (Dr (Fi (K:=K)) (by rfl) mt ED (AA (pv 6) AG)) (AA (Dr (Fi (K:=K)) (by rfl) mt ED (AA (pv 12) AG)) AG)))))))))))),?_⟩
 obtain⟨cs,hl,hC⟩:=id hL;have lc:cs.length=bs.length:=hC.1;have lv:((cs.map V.ref).length:Int)=(bs.length:Int):=by rw[cf,lc]
 refine⟨_,rfl,a,_,_,_,rfl,rfl,AO.of ha,DD _ _ _,?_⟩;refine⟨_,rfl,a,l,W,U,bs,rfl,ha,hL,n14,λt1 ls lm M H1 s1 ht1 hls hlm mk=>?_⟩;refine⟨t1,_,rfl,AO.of ht1,rfl,_,_,rfl,_,_,rfl,rfl,?_⟩;have lS:=FF W U bs;have lM:M.length=(Ab W U bs).length:=mk.m.len;refine⟨_,rfl,_,rfl,ls,lm,Ab W U bs,M,rfl,hls,hlm,lM,by omega,by omega,λlo R H2 s2 hlo od=>?_⟩;obtain⟨nR,hne⟩:=hne M R mk od;have q:=λt ra ta ts H'=>q t ra ta M R ts H'
 have inO:∀j,j<M.length->M.getD j 0∈BR M R:=λj hj=>PN od (cq (C5 hj))
 have hlo:H2 lo=some (.AD ((BR M R).map V.int)):=hlo;have lO:(BR M R).length=R.length+2:=rfl;have s02:=s1.trans s2;have hlm:=s2 _ _ hlm;clear hls ht1 s1 s2;refine⟨by exact Hs,λle hle=>?_⟩;have s3:=AR hle (.AD []);have g3:(AE H2 le (.AD [])) le=some (.AD (([]:List Addr).map V.ref)):=AM;generalize AE H2 le (.AD [])=H3 at s3 g3;refine⟨by exact Hs,λlr hlr=>?_⟩;have s4:=AR hlr (.AD []);have g4:(AE H3 lr (.AD [])) lr=some (.AD (([]:List Addr).map V.ref)):=AM;have ner:lr≠le:=λz=>by rw[z,g3] at hlr; cases hlr
 have nlr:H2 lr=none:=by
  cases z:H2 lr with
  | none=>rfl
  | some o=>rw[s3 _ _ z] at hlr; cases hlr
 generalize AE H3 lr (.AD [])=H4 at s4 g4;have hlb:=s02 _ _ hl;refine⟨_,rfl,l,_,rfl,.inl (AJ.of (s4 _ _ (s3 _ _ hlb))),bs.length,by rw[lv],by omega,by omega,?_⟩;refine FA (n:=bs.length) (λi σ Hi=>AN H2 Hi/\∃(u7 u8 u9 ua ub:Option V) (ds rs:List Addr),σ=[some (.ref a),some (.ref l),some (.ref ls),some (.ref lm),some (.ref lo),some (.ref le),some (.ref lr),u7,u8,u9,ua,ub,none]/\Hi le=some (.AD (ds.map V.ref))/\At Gp Hi ds ((CK M R bs.length).take i)/\Hi lr=some (.AD (rs.map V.ref))/\At CA Hi rs ((BZ M R bs).take i))
  ⟨s3.trans s4,none,none,none,none,none,[],[],rfl,s4 _ _ g3,At.nil,g4,At.nil⟩ ?_ ?_
 ·rintro i σ Hi hi ⟨si,u7,u8,u9,ua,ub,ds,rs,rfl,hds,hD,hrs,hR⟩;rw[show(0:Int)+(i:Int)=(i:Int) from gc _];obtain⟨cb,hcb⟩:∃cb,cs[i]?=some cb:=⟨_,cg (by omega)⟩;have eb:bs[i]?=some (bs.getD i (0,0,0,0)):=by rw[cw,cg hi]; rfl
  have fb:=si _ _ (s02 _ _ (hC.2 i cb _ hcb eb));have hbb:=hb _ (cq eb);have er:(BZ M R bs)[i]?=some (Gu M R bs i):=Hv hi;have ee:(CK M R bs.length)[i]?=some (A3 M R i):=Hv hi;have ld:ds.length=i:=by rw[hD.1,dm,CK,cf,c7]; omega
  have lrs:rs.length=i:=by rw[hR.1,dm,BZ,cf,c7]; omega
  have er':Gu M R bs i=((A3 M R i).1,(A3 M R i).2,(((bs.getD i (0,0,0,0)).r-(bs.getD i (0,0,0,0)).l:Int):Rat) / (((bs.getD i (0,0,0,0)).u-(bs.getD i (0,0,0,0)).d:Int):Rat)):=rfl;generalize bs.getD i (0,0,0,0)=bx at fb hbb er';have mul:Gh 2 (i:Int):=.inl ⟨by decide,by decide⟩;have a1:BI (M.map V.int) (3+2*(i:Int))=some (.int (M.getD (3+2*i) 0)):=by
   rw[show(3+2*(i:Int))=((3+2*i:Nat):Int) by omega];exact Aq (by rw[cu,C5 (by omega)]; rfl)
  have a2:BI (M.map V.int) (2+2*(i:Int))=some (.int (M.getD (2+2*i) 0)):=by
   rw[show(2+2*(i:Int))=((2+2*i:Nat):Int) by omega];exact Aq (by rw[cu,C5 (by omega)]; rfl)
  refine⟨_,rfl,_,rfl,l,_,_,_,rfl,rfl,AJ.of (si _ _ hlb),Aq (Et hcb),?_⟩;refine⟨cb,_,rfl,AO.of fb,rfl,_,_,rfl,_,_,rfl,_,_,rfl,_,_,rfl,rfl,?_⟩;refine⟨_,rfl,.inl ⟨rfl,_,AJ.of hds⟩,_,rfl,.inl ⟨rfl,_,AJ.of (si _ _ hlo)⟩,_,rfl,_,rfl,_,_,rfl,rfl,mul,_,_,rfl,rfl,lm,_,_,_,rfl,rfl,AJ.of (si _ _ hlm),a1,lo,BR M R,_,rfl,rfl,si _ _ hlo,inO _ (by omega),by omega,?_⟩;refine⟨_,rfl,.inl ⟨rfl,_,AJ.of (si _ _ hlo)⟩,_,rfl,_,rfl,_,_,rfl,rfl,mul,_,_,rfl,rfl,lm,_,_,_,rfl,rfl,AJ.of (si _ _ hlm),a2,lo,BR M R,_,rfl,rfl,si _ _ hlo,inO _ (by omega),by omega,by exact sz2,λp1 hp1=>?_⟩;have sp:=AR hp1 (.AF [.int ((A3 M R i).1:Int),.int ((A3 M R i).2:Int)]);have gp:Gp (AE Hi p1 (.AF [.int ((A3 M R i).1:Int),.int ((A3 M R i).2:Int)])) p1 (A3 M R i):=AM;change QA _ _ (AE Hi p1 (.AF [.int ((A3 M R i).1:Int),.int ((A3 M R i).2:Int)])) _;generalize AE Hi p1 (.AF [.int ((A3 M R i).1:Int),.int ((A3 M R i).2:Int)])=Hj at sp gp;refine⟨le,_,_,rfl,rfl,sp _ _ hds,by rw[cf,sizeLine_eq]; omega,?_⟩;have sj:=DW (si.trans sp) hle (.AD (ds.map V.ref++[.ref p1]));have D1:At Gp (AE Hj le (.AD (ds.map V.ref++[.ref p1]))) (ds++[p1]) ((CK M R bs.length).take (i+1)):=by
   rw[BO ee];exact Qn ((hD.keep JH sp).snoc gp) (sp _ _ hds) _
  have R1:=RE (hR.keep Ew sp) (sp _ _ hds) (.AD (ds.map V.ref++[.ref p1]));have l1:AE Hj le (.AD (ds.map V.ref++[.ref p1])) le=some (.AD ((ds++[p1]).map V.ref)):=by rw[AM]; simp
  have l2:AE Hj le (.AD (ds.map V.ref++[.ref p1])) lr=some (.AD (rs.map V.ref)):=(AW ner).trans (sp _ _ hrs);generalize AE Hj le (.AD (ds.map V.ref++[.ref p1]))=Hk at sj D1 R1 l1 l2;have r1:(ds++[p1])[i]?=some p1:=by rw[ed (by omega),ld,Nat.sub_self]; rfl
  have t1:Hk p1=some (.AF [.int ((A3 M R i).1:Int),.int ((A3 M R i).2:Int)]):=D1.2 i p1 _ r1 (by rw[List.getElem?_take,if_pos (by omega)]; exact ee);obtain⟨hb1,hb2⟩:=hbb;refine⟨_,rfl,.inl ⟨rfl,_,AJ.of l2⟩,_,rfl,_,rfl,le,_,_,_,rfl,rfl,AJ.of l1,Aq (Et r1),p1,_,_,_,rfl,rfl,AO.of t1,Gv,_,rfl,_,rfl,le,_,_,_,rfl,rfl,AJ.of l1,Aq (Et r1),p1,_,_,_,rfl,rfl,AO.of t1,E6,?_⟩;refine⟨_,rfl,_,rfl,_,_,rfl,rfl,_,rfl,_,rfl,_,_,rfl,rfl,_,_,rfl,by omega,hb2,λp2 hp2=>?_⟩;generalize hq:((bx.r-bx.l:Int):Rat) / ((bx.u-bx.d:Int):Rat)=qq at er' ⊢;have s5:=AR hp2 (.AF [.int qq.num,.int qq.den]);have f5:Ag (AE Hk p2 (.AF [.int qq.num,.int qq.den])) p2 qq:=AM;generalize AE Hk p2 (.AF [.int qq.num,.int qq.den])=Hl at s5 f5;refine⟨by exact CB,λp3 hp3=>?_⟩;have s6:=AR hp3 (.AF [.int ((A3 M R i).1:Int),.int ((A3 M R i).2:Int),.ref p2]);have f6:CA (AE Hl p3 (.AF [.int ((A3 M R i).1:Int),.int ((A3 M R i).2:Int),.ref p2])) p3 (Gu M R bs i):=by
   rw[er'];exact⟨p2,AM,s6 _ _ f5⟩
  generalize AE Hl p3 (.AF [.int ((A3 M R i).1:Int),.int ((A3 M R i).2:Int),.ref p2])=Hm at s6 f6;have s56:=s5.trans s6;refine⟨lr,_,_,rfl,rfl,s56 _ _ l2,by rw[cf,sizeLine_eq]; omega,?_⟩;refine⟨DW (sj.trans s56) nlr _,_,_,_,_,_,ds++[p1],rs++[p3],rfl,(AW (λz=>ner z.symm)).trans (s56 _ _ l1),Qn (D1.keep JH s56) (s56 _ _ l2) _,by rw[AM]; simp,?_⟩;rw[BO er];exact RE ((R1.keep Ew s56).snoc f6) (s56 _ _ l2) _
 rintro σ Hi ⟨si,u7,u8,u9,ua,ub,ds,rs,rfl,hds,hD,hrs,hR⟩;have lE:(CK M R bs.length).length=bs.length:=by rw[CK,cf,c7]
 have lR:(BZ M R bs).length=bs.length:=by rw[BZ,cf,c7]
 rw[dC (by omega)] at hD hR;have lov:(((BR M R).map V.int).length:Int)=((R.length+2:Nat):Int):=by rw[cf,lO]
 refine⟨_,rfl,lo,_,rfl,.inl (AJ.of (si _ _ hlo)),_,by rw[lov],by omega,by omega,λacc hacc=>?_⟩;refine Cf (Jw (lo:=0) (n:=R.length+2)) (by omega) hacc (λi ys σ hp=>∃(gs:List Addr) (ts:List (List Int)),ys=gs.map V.ref/\At Bq hp gs ts/\ts.length=i/\(∀pl t,ts[pl]?=some t->∃p,D7 bs p/\t=Bm (B5 (CK M R bs.length) p bs.length pl))/\∃u,σ=[u,some (.ref le),some (.ref l)]) ⟨[],[],rfl,At.nil,rfl,λpl t z=>by simp at z,none,rfl⟩ ?_ ?_
 ·rintro i ys σ Hj x Hk hi sm hacc2 ⟨gs,ts,rfl,hG,rfl,ht,u,rfl⟩ ⟨rfl,rfl⟩ Cc hCc;rw[gc];have sij:=si.trans sm;refine⟨_,rfl,_,rfl,_,rfl,ts.length,le,l,CK M R bs.length,bs,rfl,⟨ds,sm _ _ hds,hD.keep JH sm⟩,⟨cs,sij _ _ hlb,hC.keep Em (s02.trans sij)⟩,lE,n14,λp op=>hne _ p hi op,λt p H5 s5 op h5=>?_⟩;refine hCc _ _ _ s5 ⟨gs++[t],ts++[Bm (B5 (CK M R bs.length) p bs.length ts.length)],by simp,?_,by simp,λpl t' z=>?_,_,rfl⟩
  ·exact(hG.keep Ei (FD acc s5)).snoc (Bq.BF h5 (s5 _ _ hacc2))
  ·rcases c5 pl ts.length with y | y
   ·rw[d0 y] at z; exact ht pl t' z
   ·rw[ed y] at z;obtain⟨y1,y2⟩:=cm.mp z;have e0:pl=ts.length:=by simp at y1; omega
    subst e0;simp at z;exact⟨p,op,z.symm⟩
 rintro ys σ Hj sj hacc2 hlen ⟨gs,ts,rfl,hG,lts,ht,u,rfl⟩;have hG2:=hG.keep Ei (EE Hj acc);have sij:=si.trans sj;refine⟨_,rfl,lo,_,rfl,.inl (AJ.of (sij _ _ hlo)),_,rfl,lr,_,rfl,.inl ⟨AJ.of (sj _ _ hrs),λra hra=>?_⟩⟩;have s5:=AR hra (.AF (rs.map V.ref));have f5:BA CA (AE Hj ra (.AF (rs.map V.ref))) ra (BZ M R bs):=⟨rs,AM,hR.keep Ew (sj.trans s5)⟩;generalize AE Hj ra (.AF (rs.map V.ref))=Hk at s5 f5;refine⟨_,rfl,acc,_,rfl,.inl ⟨AJ.of (s5 _ _ hacc2),λta hta=>?_⟩⟩;have s6:=AR hta (.AF (gs.map V.ref));have f6:BA Bq (AE Hk ta (.AF (gs.map V.ref))) ta ts:=⟨gs,AM,hG2.keep Ei (s5.trans s6)⟩;generalize AE Hk ta (.AF (gs.map V.ref))=Hl at s6 f6;refine⟨by exact CB,λt ht'=>?_⟩;rw[lov];have s7:=AR ht' (.AF [.int ((R.length+2:Nat):Int),.ref ra,.ref ta]);exact q t ra ta ts _ (s02.trans (sij.trans (s5.trans (s6.trans s7)))) ⟨mk,od,lts,ht⟩ AM (EL (R:=CA) (λs h=>Ew s h) (s6.trans s7) f5) (EL (R:=Bq) (λs h=>Ei s h) s7 f6)
def HH(t:List Int):PyData:=.tuple (t.map .int)
def HR(ts:List (List Int)):PyData:=.tuple (ts.map HH)
theorem W8{H:Hp}{p:Addr}{t:List Int}(h:Bq H p t):Bz H (.ref p) (HH t):=by
 refine .AF h (by rw[cf,cf]) λi x d e1 e2=>?_
 obtain⟨e,rfl,he⟩:=int_at e1;rw[cu,he] at e2;cases e2;exact .int _
theorem Xi{H:Hp}{p:Addr}{ts:List (List Int)}(h:BA Bq H p ts):Bz H (.ref p) (HR ts):=by
 obtain⟨bs,h1,hB⟩:=h;refine .AF h1 (by rw[cf,cf,hB.1]) λi x d e1 e2=>?_
 obtain⟨c,r,rfl,_,hr,hc⟩:=hB.ref e1;rw[cu,hr] at e2;cases e2;exact W8 hc
theorem O0{H:Hp}{o:Addr}{x y z:V}{d e g:PyData}(h:H o=some (.AF [x,y,z]))(hx:Bz H x d)(hy:Bz H y e)(hz:Bz H z g):Bz H (.ref o) (.tuple [d,e,g]):=by
 refine .AF h rfl λi x' d' e1 e2=>?_
 match i,e1,e2 with
 | 0,e1,e2=>cases e1; cases e2; exact hx
 | 1,e1,e2=>cases e1; cases e2; exact hy
 | 2,e1,e2=>cases e1; cases e2; exact hz
theorem WK(t:List Int):(HH t).canLay0=true:=by
 simp only[HH,PyData.canLay0];refine FE λd hd=>?_
 obtain⟨x,_,rfl⟩:=cT.mp hd;rfl
theorem Vy(ts:List (List Int)):(HR ts).canLay0=true:=by
 simp only[HR,PyData.canLay0];refine FE λd hd=>?_
 obtain⟨x,_,rfl⟩:=cT.mp hd;exact WK x
theorem Wj(t:List Int):(HH t).depth<=2:=by
 simp only[HH,PyData.depth]
 have:=Ff (n:=1) (ds:=t.map PyData.int) λd hd=>by
  obtain⟨x,_,rfl⟩:=cT.mp hd;simp[PyData.depth]
 omega
theorem V6(ts:List (List Int)):(HR ts).depth<=3:=by
 simp only[HR,PyData.depth]
 have:=Ff (n:=2) (ds:=ts.map HH) λd hd=>by
  obtain⟨x,_,rfl⟩:=cT.mp hd;exact Wj x
 omega
def Gm(r:Rp):PyData:=.tuple [.int (r.1:Int),.int (r.2.1:Int),GG r.2.2]
def Fx(pl:Nat)(rs:List Rp)(ts:List (List Int)):PyData:=.tuple [.int (pl:Int),.tuple (rs.map Gm),HR ts]
theorem Zz{H:Hp}{p:Addr}{r:Rp}(h:CA H p r):Bz H (.ref p) (Gm r):=by
 obtain⟨q,h1,h2⟩:=h;exact O0 h1 (.int _) (.int _) (R3 h2)
theorem YC{H:Hp}{p:Addr}{rs:List Rp}(h:BA CA H p rs):Bz H (.ref p) (.tuple (rs.map Gm)):=by
 obtain⟨bs,h1,hB⟩:=h;refine .AF h1 (by rw[cf,cf,hB.1]) λi x d e1 e2=>?_
 obtain⟨c,r,rfl,_,hr,hc⟩:=hB.ref e1;rw[cu,hr] at e2;cases e2;exact Zz hc
structure Mj(H:Hp)(p:Addr)(pl:Nat)(rs:List Rp)(ts:List (List Int)):Prop where
 ex:∃ra ta,H p=some (.AF [.int (pl:Int),.ref ra,.ref ta])/\BA CA H ra rs/\BA Bq H ta ts
theorem Qf{H:Hp}{p:Addr}{pl:Nat}{rs:List Rp}{ts:List (List Int)}(h:Mj H p pl rs ts):Bz H (.ref p) (Fx pl rs ts):=by
 obtain⟨ra,ta,h1,h2,h3⟩:=h.ex;exact O0 h1 (.int _) (YC h2) (Xi h3)
theorem Pj(pl:Nat)(rs:List Rp)(ts:List (List Int)):(Fx pl rs ts).canLay0=true:=by
 simp only[Fx,PyData.canLay0];refine FE λd hd=>?_
 simp only[cP,de,or_false] at hd;rcases hd with rfl | rfl | rfl
 ·rfl
 ·simp only[PyData.canLay0];refine FE λd hd=>?_
  obtain⟨r,_,rfl⟩:=cT.mp hd;simp only[Gm,PyData.canLay0];refine FE λd hd=>?_
  simp only[cP,de,or_false] at hd;rcases hd with rfl | rfl | rfl
  ·rfl
  ·rfl
  ·exact RF _
 ·exact Vy ts
theorem X4(pl:Nat)(rs:List Rp)(ts:List (List Int)):(Fx pl rs ts).depth<=64:=by
 have d1:∀d∈rs.map Gm,d.depth<=3:=λd hd=>by
  obtain⟨r,_,rfl⟩:=cT.mp hd
  have:=Ff (n:=2) (ds:=[.int (r.1:Int),.int (r.2.1:Int),GG r.2.2]) λd hd=>by
   simp only[cP,de,or_false] at hd;rcases hd with rfl | rfl | rfl
   ·simp[PyData.depth]
   ·simp[PyData.depth]
   ·exact Pr _
  simp only[Gm,PyData.depth]; omega
 have d2:=Ff (n:=3) (ds:=rs.map Gm) d1;have d3:=V6 ts
 have:=Ff (n:=4) (ds:=[.int (pl:Int),.tuple (rs.map Gm),HR ts]) λd hd=>by
  simp only[cP,de,or_false] at hd;rcases hd with rfl | rfl | rfl
  ·simp[PyData.depth]
  ·simp only[PyData.depth]; omega
  ·omega
 simp only[Fx,PyData.depth]; omega
open PySem.Spec PyProof.Rows in
theorem ZI(pl:Nat)(rs:List Rp)(ts:List (List Int)):PyData.eqv (Fx pl rs ts) (Fx pl rs ts)=true:=SeqAt.eqv_refl _ (Pj _ _ _)
theorem XC{X:Cx}{K:PySem.W.Frag}(hc:X.BS=true)(h:X.K=K:=by rfl):CT X (.builtin "all") (Sl K):=h ▸ Oi hc
def Ir:Sp:=λvs H Q _=>∃i:Int,vs=[.int i]/\Q (.bl true) H
theorem ZX:Ar ["_law_found"] ["_law_found"] (Ah s_law_whole):=Av
theorem Wf(F:Fun K "_law_whole" "_law_whole" s_law_whole f fd)(ms:mg "isinstance" = none)(mi:mg "int" = none)(mb:mg "bool" = none):AL P w K mg base AK 1 f fd ["_law_found"] Ir:=by
 refine F.ok ZX (λvs H Q E h=>?_) (λcdv A outer s H vs Q E hr h=>?_)
 ·obtain⟨i,rfl,_⟩:=h;rfl
 obtain⟨i,rfl,q⟩:=h;refine⟨_,AU (Ak (Kg (As (J4 (c:=.ty "int") (cv:=.type "int") λ_ z=>z) (by rfl) ms Jl (AA (pv 0) (AA (KU (v:=.ty "int") (by rfl) mi Yy rfl) AG)))
  (JA (YE (As (J4 (c:=.ty "bool") (cv:=.type "bool") λ_ z=>z) (by rfl) ms Jl (AA (pv 0) (AA (KU (v:=.ty "bool") (by rfl) mb Xu rfl) AG))))))),?_⟩
 refine⟨_,rfl,_,_,_,rfl,Cy.int i,Lr K _,_,rfl,FQ ?_⟩;exact⟨_,rfl,_,_,_,rfl,Cy.int i,UG K,_,rfl,q⟩
def Lw:Sp:=λvs H Q _=>∃(p:Addr) (q:Rat),vs=[.ref p]/\Ag H p q/\BV (q.den:Int)/\∀H',AN H H'->Q (.bl true) H'
theorem ZY:Ar ["_law_found"] ["_law_found"] (Ah s_law_fraction):=Av
theorem WU (F : Fun K "_law_fraction" "_law_fraction" s_law_fraction f fd) (G : AL P w K mg base AK 1 g gd ["_law_top", "_law_bottom"] HG) (bG : Af K gd ["_law_top", "_law_bottom"] []) (kG : KP K g) (mG : mg "_law_low" = some (.ref g))
    (G2 : AL P w K mg base AK 1 h hd ["_law_found"] Ir) (bG2 : Af K hd ["_law_found"] []) (kG2 : KP K h) (mG2 : mg "_law_whole" = some (.ref h)) (ms : mg "isinstance" = none) (mt : mg "tuple" = none) (ml : mg "len" = none) :
    AL P w K mg base AK 2 f fd ["_law_found"] Lw := by
  refine F.ok ZY (λvs H Q E h => ?_) (λcdv A outer s H vs Q E hr h => ?_)
  · obtain⟨p, q, rfl, _⟩ := h;rfl
  obtain⟨p, q, rfl, hp, bd, k⟩ := h;have hu : (A.deeper (PyProof.Rows.envOfC "_law_fraction" (Ah s_law_fraction) s.heap.objs.size f cdv)).units + 64 < cLine := hr.units;refine⟨_, AS (Bk (PW.pt (Fw (Fq (EK (As (J4 (c := .ty "tuple") (cv := .type "tuple") λ_ z => z) (by rfl) ms Jl (AA (pv 0) (AA (KU (v := .ty "tuple") (by rfl) mt ED rfl) AG)))))
        (Fw (A4 GU (As (Bo (K := K)) (by rfl) ml Bh (AA (pv 0) AG)) AH (An _))
        (Fw (Fq (EK (Ac G2 hr (by rfl) mG2 kG2 bG2 .nil Ad (AA (pT K (pv 0) AH) AG))))
        (Ke (Fq (EK (Ac G2 hr (by rfl) mG2 kG2 bG2 .nil Ad (AA (pT K (pv 0) AH) AG))))))))) (AU (Ak MS)) B2)
    (AU (Ak (Kg (Ds FL (pT K (pv 0) AH) AH (An _)) (JA (Ds (Lh hu) (Ac G hr (by rfl) mG kG bG .nil Ad (AA (pT K (pv 0) AH) (AA (pT K (pv 0) AH) AG))) (pv 0) (An _)))))), ?_⟩
  have dp : (0 : Int) < (q.den : Int) := by have := q.den_nz; omega
  refine⟨_, rfl, _, _, _, rfl, Cy.AF hp, Lr K _, _, rfl, CO ?_⟩;refine⟨_, rfl, p, _, rfl, .inr (AO.of hp), rfl, _, rfl, CO ?_⟩;refine⟨_, rfl, p, _, _, _, rfl, rfl, AO.of hp, Gv, _, rfl, _, rfl, CO ?_⟩;refine⟨_, rfl, p, _, _, _, rfl, rfl, AO.of hp, E6, _, rfl, _, rfl, CO ?_⟩;refine⟨_, rfl, p, _, _, _, rfl, rfl, AO.of hp, E6, _, _, rfl, rfl, _, rfl, Bl dp ?_⟩;refine⟨_, rfl, p, _, _, _, rfl, rfl, AO.of hp, Gv, _, rfl, p, _, _, _, rfl, rfl, AO.of hp, E6, q.num, q.den, rfl, dp, bd, ?_⟩;rw[Yl];intro t ht;refine⟨_, rfl, t, p, [q.num, q.den], [q.num, q.den], rfl, rfl, AM, AR ht _ _ _ hp, ?_⟩;rw[decide_eq_true rfl];exact k _ (AR ht _)
def Mw:Sp:=λvs H Q _=>∃(p q:Addr) (pl:Nat) (rs:List Rp) (ts:List (List Int)),vs=[.ref p,.ref q]/\Mj H p pl rs ts/\Mj H q pl rs ts/\rs.length<=1000/\ts.length<=1000/\(∀t∈ts,t.length<=1000)/\(∀r∈rs,BV (r.2.2.den:Int))/\∀H',AN H H'->Q (.bl true) H'
theorem Kx:Ar ["_law_found","_law_due_here","_law_one","_law_other","_law_ease"] ["_law_found","_law_due_here"] (Ah s_law_kinds):=Av
theorem a9:(["_law_turn_here"]:List Str).Nodup:=by decide +kernel
theorem aq:(["_law_end"]:List Str).Nodup:=by decide +kernel
seal L2.Bu L2.PS L2.PE L2.PA in
set_option maxHeartbeats 8000000 in
theorem ZO (F : Fun K "_law_kinds" "_law_kinds" s_law_kinds f fd) (G1 : AL P w K mg base AK 1 f1 d1 ["_law_found"] Ir) (b1 : Af K d1 ["_law_found"] []) (k1 : KP K f1) (m1 : mg "_law_whole" = some (.ref f1))
    (G2 : AL P w K mg base AK 2 f2 d2 ["_law_found"] Lw) (b2 : Af K d2 ["_law_found"] []) (k2 : KP K f2) (m2 : mg "_law_fraction" = some (.ref f2))
    (ms : mg "isinstance" = none) (mt : mg "tuple" = none) (ml : mg "len" = none) (ma : mg "all" = none) : AL P w K mg base AK 3 f fd ["_law_found", "_law_due_here"] Mw := by
  refine F.ok Kx (λvs H Q E h => ?_) (λcdv A outer s H vs Q E hr h => ?_)
  · obtain⟨p, q, pl, rs, ts, rfl, _⟩ := h;rfl
  obtain⟨p, q, pl, rs, ts, rfl, hp, hq, n1, n2, n3, nb, k⟩ := h;have r1 := hr.mono (show 1 <= 2 by decide);refine⟨_, AS (Bk (PW.pt (Fw (Fq (EK (As (J4 (c := .ty "tuple") (cv := .type "tuple") λ_ z => z) (by rfl) ms Jl (AA (pv 0) (AA (KU (v := .ty "tuple") (by rfl) mt ED rfl) AG)))))
        (Fw (A4 GU (As (Bo (K := K)) (by rfl) ml Bh (AA (pv 0) AG)) AH (An _))
        (Fw (Fq (EK (Ac G1 r1 (by rfl) m1 k1 b1 .nil Ad (AA (pT K (pv 0) AH) AG))))
        (Ke (A4 (Ql hr.units) (pv 0) (pv 1) (An _))))))) Jr B2)
    (AS (Bv dv rfl (IM (K := K) (pT K (pv 0) AH)) (Ca (n := 3) (K := K) rfl (Ai (AV (i := 2) Kx.nd rfl (Or.inl rfl)) (Ai (AV (i := 3) Kx.nd rfl (Or.inl rfl)) (Ai (AV (i := 4) Kx.nd rfl (Or.inl rfl)) CS))))
      (AU (Bk (PW.pt (Fw (Fq (EK (Ac G1 r1 (by rfl) m1 k1 b1 .nil Ad (AA (pv 2) AG)))) (Fw (Fq (EK (Ac G1 r1 (by rfl) m1 k1 b1 .nil Ad (AA (pv 3) AG)))) (Ke (Fq (EK (Ac G2 hr (by rfl) m2 k2 b2 .nil Ad (AA (pv 4) AG)))))))) Jr B2)))
    (AU (Ak (As (Oi rfl) (by rfl) ma Qs (AA (EH (Nc := ["_law_turn_here"]) (cap := []) (g := BG 0) (te := _) rfl (IM (K := K) (pT K (pv 0) AH))
      (B1 rfl rfl (by decide +kernel) (by decide +kernel) (cQ _) rfl (cQ _)) (λ_ _ _ _ _ => AV (i := 0) a9 rfl (Or.inl rfl))
      (λ_ _ _ _ _ => As (XC (K := K) rfl) (by rfl) ma Qs (AA (EH (Nc := ["_law_end"]) (cap := []) (g := BG 0) (te := Fs Ir [] E0 (BQ (Au 0) B7)) rfl (IM (K := K) (pv 0))
        (B1 rfl rfl (by decide +kernel) (by decide +kernel) (cQ _) rfl (cQ _)) (λ_ _ _ _ _ => AV (i := 0) aq rfl (Or.inl rfl)) (λ_ _ _ _ _ => Ac (CX := AK) G1 r1 (by rfl) m1 k1 b1 .nil Ad (AA (pv 0) AG))) AG))) AG))))), ?_⟩
  obtain⟨ra, ta, h1, ⟨bs, hra, hB⟩, ⟨cs, hta, hC⟩⟩ := id hp.ex;have ld : PyData.canLay0 (Fx pl rs ts) = true /\ PyData.depth (Fx pl rs ts) <= 64 := ⟨Pj _ _ _, X4 _ _ _⟩;refine⟨_, rfl, _, _, _, rfl, Cy.AF h1, Lr K _, _, rfl, CO ?_⟩;refine⟨_, rfl, p, _, rfl, .inr (AO.of h1), rfl, _, rfl, CO ?_⟩;refine⟨_, rfl, p, _, _, _, rfl, rfl, AO.of h1, Dy _ _ _, _, rfl, _, rfl, CO ?_⟩;refine⟨_, rfl, _, rfl, _, _, Qf hp, Qf hq, ld, ld, _, rfl, ?_⟩;rw[ZI];refine CO ?_;refine⟨_, rfl, p, _, _, _, rfl, rfl, AO.of h1, D5 _ _ _, ra, rfl, ⟨_, AO.of hra⟩, ?_⟩;refine Ph (xs := bs.map V.ref) (λi σ H2 => AN H H2 /\ ∃(u2 u3 u4 : Option V), σ = [some (.ref p), some (.ref q), u2, u3, u4]) ⟨AN.refl _, none, none, none, rfl⟩ (λi σ H2 _ z => AO.of (z.1 _ _ hra)) ?_ ?_
  · rintro i x σ H2 hx ⟨s2, u2, u3, u4, rfl⟩;obtain⟨c, r, rfl, _, hr', qf, g1, g2⟩ := hB.ref hx;refine⟨c, _, rfl, AO.of (s2 _ _ g1), rfl, _, _, rfl, _, _, rfl, _, _, rfl, rfl, ?_⟩;refine⟨_, rfl, _, rfl, _, rfl, CO ?_⟩;refine⟨_, rfl, _, rfl, _, rfl, CO ?_⟩;exact⟨_, rfl, qf, r.2.2, rfl, s2 _ _ g2, nb r (cq hr'), λH3 s3 => ⟨_, rfl, CO ⟨s2.trans s3, _, _, _, rfl⟩⟩⟩
  rintro σ H2 ⟨s2, u2, u3, u4, rfl⟩;refine⟨_, rfl, p, _, _, _, rfl, rfl, AO.of (s2 _ _ h1), DD _ _ _, ta, rfl, ⟨_, AO.of (s2 _ _ hta)⟩, λacc hacc => ?_⟩;have lc : cs.length = ts.length := hC.1;refine Cf (G0 (s2 _ _ hta)) (by rw[cf]; omega) hacc (λi ys σ hp => ys = (List.replicate i true).map V.bl /\ ∃u, σ = [u]) ⟨rfl, none, rfl⟩ ?_ ?_
  · rintro i ys σ H3 x H4 hi sm hacc2 ⟨rfl, u, rfl⟩ ⟨rfl, hx⟩ Cc hCc;obtain⟨c, t, rfl, _, ht, hct⟩ := hC.ref hx;have hct := sm _ _ (s2 _ _ hct);refine⟨_, rfl, c, rfl, ⟨_, AO.of hct⟩, λac2 hac2 => ?_⟩;refine Cf (G0 hct) (by rw[cf]; exact n3 t (cq ht)) hac2 (λi ys σ hp => ys = (List.replicate i true).map V.bl /\ ∃u, σ = [u]) ⟨rfl, none, rfl⟩ ?_ ?_
    · rintro j ys σ H5 x H6 hj sm2 hacc3 ⟨rfl, u, rfl⟩ ⟨rfl, hx⟩ C2 hC2;obtain⟨e, rfl, he⟩ := Io hx;refine⟨_, rfl, e, rfl, hC2 _ _ _ (AN.refl _) ⟨?_, _, rfl⟩⟩;rw[List.replicate_succ', dh]; rfl
    · rintro ys σ H5 s5 hacc3 hl3 ⟨rfl, u, rfl⟩;refine⟨ac2, _, rfl, AJ.of hacc3, ?_⟩;rw[show(List.replicate (t.map V.int).length true).all id = true by rw[List.all_eq_true]; intro b hb; exact(List.mem_replicate.mp hb).2];refine hCc _ _ _ s5 ⟨?_, _, rfl⟩;rw[List.replicate_succ', dh]; rfl
  · rintro ys σ H5 s5 hacc3 hl3 ⟨rfl, u, rfl⟩;refine⟨acc, _, rfl, AJ.of hacc3, ?_⟩;rw[show(List.replicate (cs.map V.ref).length true).all id = true by rw[List.all_eq_true]; intro b hb; exact(List.mem_replicate.mp hb).2];exact k _ (s2.trans s5)
open PySem.Spec PyProof.Rows
structure TB(W U:Int)(bs:List AB)(q:Rat)(rows:List (List Rat)):Prop where
 lk:DR (q*(W:Rat)) (q*(U:Rat)) rows
 cov:∀D,Jc (q*(W:Rat)) (q*(U:Rat)) rows D->PyData.eqv D covD=true
 n14:(Ba rows).length<=14
 ok:∀L,L.Perm (CC (wh (cb (nums (q*(W:Rat)) (q*(U:Rat)) (Ba rows))) (q*(W:Rat))) (wh (cb (nums (q*(W:Rat)) (q*(U:Rat)) (Ba rows))) (q*(U:Rat))) (Cr (cb (nums (q*(W:Rat)) (q*(U:Rat)) (Ba rows))) (Ba rows)))->Fy L->2<=(L.foldl BW []).length/\Mg (Cr (cb (nums (q*(W:Rat)) (q*(U:Rat)) (Ba rows))) (Ba rows)) (Bx (L.foldl BW []))
 Te:∀M R,FY (Ab W U bs) M->GF (Ab W U bs) M R->R.length<=30/\∀pl p,pl<R.length+2->D7 bs p->B5 (CK M R bs.length) p bs.length pl≠[]
 eq:∀L p M R ts,L.Perm (CC (wh (cb (nums (q*(W:Rat)) (q*(U:Rat)) (Ba rows))) (q*(W:Rat))) (wh (cb (nums (q*(W:Rat)) (q*(U:Rat)) (Ba rows))) (q*(U:Rat))) (Cr (cb (nums (q*(W:Rat)) (q*(U:Rat)) (Ba rows))) (Ba rows)))->Fy L->EW ((Cr (cb (nums (q*(W:Rat)) (q*(U:Rat)) (Ba rows))) (Ba rows)).map AB.l) p->SU bs (Ab W U bs) M R ts →
  (Bx (L.foldl BW [])).length=R.length+2/\(Cr (cb (nums (q*(W:Rat)) (q*(U:Rat)) (Ba rows))) (Ba rows)).map (DQ (Bx (L.foldl BW [])))=BZ M R bs/\(DZ (R.length+2) (BZ M R bs) p).map Bm=ts
theorem Ma{H H':Hp}{T1 T2 b:Addr}{q1 q2:Str}{o:HO}(h1:Bs H T1 q1)(h2:Bs H T2 q2)(bt:S5 T1 T2 H H')(e:H b=some o)(n:∀z,o≠.Bw z):H' b=some o:=by
 obtain⟨L1,t1,_⟩:=h1;obtain⟨L2,t2,_⟩:=h2;exact bt b o (λz=>by rw[z,t1] at e; exact n _ (Option.some.inj e).symm) (λz=>by rw[z,t2] at e; exact n _ (Option.some.inj e).symm) e
theorem Bt.bd{W U:Int}{bs:List AB}(h:Bt W U bs)(hW:W<=200)(hU:U<=200){b:AB}(hb:b∈bs):(0<=b.l/\b.l<=200)/\(0<=b.d/\b.d<=200)/\(0<=b.r/\b.r<=200)/\(0<=b.u/\b.u<=200):=by
 have i:=h.t.inn b hb;have t:=h.b b hb;unfold CD at i;omega
theorem Xd(l:List Int):(Bm l).length=l.length:=by
 unfold Bm; rw[cX,dN,dm]
 have:=List.idxOf_le_length (a:=Dk l) (l:=l)
 omega
theorem bK(es:List En)(p:List Nat)(n pl:Nat):(B5 es p n pl).length<=2*p.length+2:=by
 have h1:=RD es p pl;have h2:=Q0 es p pl;unfold B5;rw[cX];have a1:(if pl=0 then [2*(n:Int)] else FV es p pl).length<=p.length+1:=by
  split
  ·show 1<=_; omega
  ·omega
 have a2:(if pl=1 then [2*(n:Int)+1] else FU es p pl).length<=p.length+1:=by
  split
  ·show 1<=_; omega
  ·omega
 omega
variable {f5 f6 f7 T1 T2:Addr} {d5 d6 d7:FuncData}
def Kp(K:PySem.W.Frag)(T1 T2:Addr):Sp:=λvs H Q _=>∃(a:Addr) (ns:List Int),vs=[.ref a]/\AJ K H a (ns.map V.int)/\ns.length<=63/\Bs H T1 Kn/\Bs H T2 IE/\T2≠T1/\∀H',Q (.bl true) H'
theorem Kz:Ar ["_law_script","_law_built","_law_share_here","_law_floor"] ["_law_script"] (Ah sLaw):=Av
seal L2.Bu L2.PS L2.PE L2.PA in
set_option maxHeartbeats 8000000 in
theorem Y9 (math:∀(W U:Int) (bs:List AB) (T B:Int) (pts:List Pt) (rows:List (List Rat)),Bt W U bs->1<=W->W<=200->1<=U->U<=200->1<=T->T<=9999->1<=B->B<=999->pts.length<=3->(∀p∈pts,Jj W U ((T:Rat) / (B:Rat)) p)->EZ (pts.map EY) (bs.map (Cd ((T:Rat) / (B:Rat)))) rows->TB W U bs ((T:Rat) / (B:Rat)) rows)
  (F:Fun K "law" "law" sLaw f fd) (G1:AL P w K mg base AK 1 f1 d1 ["_law_script","_law_k"] (Iy K)) (b1:Af K d1 ["_law_script","_law_k"] []) (k1:KP K f1) (m1:mg "_law_cell" = some (.ref f1))
  (G2:AL P w K mg base AK 3 f2 d2 ["_law_script","_law_first","_law_most"] (NM K)) (b2:Af K d2 ["_law_script","_law_first","_law_most"] []) (k2:KP K f2) (m2:mg "_law_boxes" = some (.ref f2))
  (G3:AL P w K mg base AK 2 f3 d3 ["_law_cell_here"] M9) (b3:Af K d3 ["_law_cell_here"] []) (k3:KP K f3) (m3:mg "_law_share" = some (.ref f3))
  (G4:AL P w K mg base AK 3 f4 d4 ["_law_built","_law_share_here","_law_points_here"] (Mp K)) (b4:Af K d4 ["_law_built","_law_share_here","_law_points_here"] []) (k4:KP K f4) (m4:mg "_law_scaled" = some (.ref f4))
  (G5:AL P w K mg base AK 3 f5 d5 ["_law_script","_law_first","_law_built","_law_share_here"] (Ms K)) (b5:Af K d5 ["_law_script","_law_first","_law_built","_law_share_here"] []) (k5:KP K f5) (m5:mg "_law_points" = some (.ref f5))
  (G6:AL P w K mg base AK 3 f6 d6 ["_law_found","_law_due_here"] Mw) (b6:Af K d6 ["_law_found","_law_due_here"] []) (k6:KP K f6) (m6:mg "_law_kinds" = some (.ref f6))
  (G7:AL P w K mg base AK 2 f7 d7 ["_law_built"] M7) (b7:Af K d7 ["_law_built"] []) (k7:KP K f7) (m7:mg "_law_due" = some (.ref f7))
  (G:AL P w K mg base AK 7 g gd ["floor"] (NJ T1 T2)) (bG:Af K gd ["floor"] []) (kG:KP K g) (mG:mg "net_of" = some (.ref g)) :
  AL P w K mg base AK 8 f fd ["_law_script"] (Kp K T1 T2):=by
 refine F.ok Kz (λvs H Q E h=>?_) (λcdv A outer s H vs Q E hr h=>?_)
 ·obtain⟨a,ns,rfl,_⟩:=h;rfl
 obtain⟨a,ns,rfl,hS,hn,hT1,hT2,nT,q⟩:=h;have r1:=hr.mono (show 1<=7 by decide);have r2:=hr.mono (show 2<=7 by decide);have r3:=hr.mono (show 3<=7 by decide);refine⟨_,AS (Aa (i:=1) Kz.nd rfl (Or.inl rfl) (Ac G2 r3 (by rfl) m2 k2 b2 .nil Ad (AA (pv 0) (AA AH (AA AH AG)))))
  (AS (Aa (i:=2) Kz.nd rfl (Or.inl rfl) (Ac G3 r2 (by rfl) m3 k3 b3 .nil Ad (AA (Ac G1 r1 (by rfl) m1 k1 b1 .nil Ad (AA (pv 0) (AA AH AG))) AG)))
  (AS (Aa (i:=3) Kz.nd rfl (Or.inl rfl) (Ac G4 r3 (by rfl) m4 k4 b4 .nil Ad (AA (pv 1) (AA (pv 2) (AA (Ac G5 r3 (by rfl) m5 k5 b5 .nil Ad (AA (pv 0) (AA AH (AA (pv 1) (AA (pv 2) AG))))) AG)))))
  (AU (Ak (Ac G6 r3 (by rfl) m6 k6 b6 .nil Ad (AA (Ac G hr (by rfl) mG kG bG .nil Ad (AA (pv 3) AG)) (AA (Ac G7 r2 (by rfl) m7 k7 b7 .nil Ad (AA (pv 1) AG)) AG))))))),?_⟩
 refine⟨_,rfl,a,ns,rfl,⟨hS,hn⟩,λp l W U bs H1 s1 hp hL bt W1 W2 U1 U2=>?_⟩;have hT1:=C4 hT1 s1;have hT2:=C4 hT2 s1;have hS1:=s1.seq hS;refine⟨_,rfl,a,ns,0,rfl,⟨hS1,hn⟩,by decide,λc _=>?_⟩;refine⟨c,rfl,λT B sh H2 s2 T0 T9 B0 B9 hsh=>?_⟩;have sf:Sf ((T:Rat) / (B:Rat)):=Mb (Ek B0 (by omega) (dg (show T.natAbs<=9999 by omega) (by decide)));refine⟨_,rfl,_,rfl,_,rfl,_,rfl,_,rfl,a,p,sh,l,ns,W,U,_,rfl,⟨s2.seq hS1,hn⟩,s2 _ _ hp,hsh,sf,⟨W1,W2⟩,⟨U1,U2⟩,λt pts H3 s3 ht n3 hpt=>?_⟩;have s13:=s2.trans s3;have bd:=λb hb=>Bt.bd bt W2 U2 (b:=b) hb
 refine⟨p,sh,t,l,W,U,_,bs,pts,rfl,s13 _ _ hp,HI s13 hL,by have:=bt.m; omega,s3 _ _ hsh,sf,⟨ht,n3,λx hx=>(hpt x hx).a⟩,λb hb=>?_,dg (show W.natAbs<=200 by omega) (by decide),dg (show U.natAbs<=200 by omega) (by decide),λfl rows H4 s4 hF hI=>?_⟩
 ·obtain⟨x1,x2,x3,x4⟩:=bd b hb;exact⟨dg (show b.l.natAbs<=200 by omega) (by decide),dg (show b.d.natAbs<=200 by omega) (by decide),dg (show b.r.natAbs<=200 by omega) (by decide),dg (show b.u.natAbs<=200 by omega) (by decide)⟩
 have LM:=math W U bs T B pts rows bt W1 W2 U1 U2 T0 T9 B0 B9 n3 hpt hI;generalize (T:Rat) / (B:Rat)=sg at LM hF;have s14:=s13.trans s4;have t14:=C4 hT1 s14;have t24:=C4 hT2 s14;refine⟨_,rfl,fl,_,_,rows,rfl,hF,LM.lk,LM.cov,t14,t24,nT,LM.n14,_,_,_,rfl,rfl,rfl,LM.ok,λL op X tn ra ta H5 pL rL oP b5 eX h5 hra hta=>?_⟩;have hp5:=Ma t14 t24 b5 (s14 _ _ hp) (λz y=>by cases y);obtain⟨cs,hl,hC⟩:=HI s14 hL;have hL5:Ax BE H5 l bs:=⟨cs,Ma t14 t24 b5 hl (λz y=>by cases y),hC.1,λi b x e1 e2=>Ma t14 t24 b5 (hC.2 i b x e1 e2) (λz y=>by cases y)⟩;refine⟨_,rfl,p,l,W,U,bs,rfl,hp5,hL5,bt.m,λb hb=>?_,LM.Te,λt2 ra2 ta2 M R ts H6 s6 du h6 hra2 hta2=>?_⟩
 ·obtain⟨x1,x2,x3,x4⟩:=bd b hb;exact⟨(bt.b b hb).2,DE (n:=8) (show(b.u-b.d).natAbs<=2 ^ 8 by omega) (by decide)⟩
 obtain⟨e1,e2,e3⟩:=LM.eq L op M R ts pL rL oP du;rw[eX,e1] at h5;rw[eX,e2] at hra;rw[eX,e1,e2,e3] at hta;have m14:=bt.m;refine⟨tn,t2,R.length+2,BZ M R bs,ts,rfl,⟨ra,ta,s6 _ _ h5,EL (R:=CA) (λs h=>Ew s h) s6 hra,EL (R:=Bq) (λs h=>Ei s h) s6 hta⟩,⟨ra2,ta2,h6,hra2,hta2⟩,?_,?_,λt' ht'=>?_,λr hr'=>?_,λH7 _=>q H7⟩
 ·rw[BZ,cf,c7]; omega
 ·rw[du.ln]; have:=(LM.Te M R du.ms du.od).1; omega
 ·obtain⟨j,hj⟩:=List.getElem?_of_mem ht';obtain⟨pp,o1,rfl⟩:=du.tn j t' hj
  have:=bK (CK M R bs.length) pp bs.length j
  have:=o1.pm.length_eq
  rw[c7] at this;rw[Xd]; omega
 ·obtain⟨j,hj,rfl⟩:=cT.mp hr';have hj:=cZ.mp hj;have eb:bs[j]?=some (bs.getD j (0,0,0,0)):=by rw[cw,cg hj]; rfl
  have hb:=cq eb;show BV (((((bs.getD j (0,0,0,0)).r-(bs.getD j (0,0,0,0)).l:Int):Rat) / (((bs.getD j (0,0,0,0)).u-(bs.getD j (0,0,0,0)).d:Int):Rat)).den:Int);generalize bs.getD j (0,0,0,0)=b at hb;obtain⟨x1,x2,x3,x4⟩:=bd b hb;obtain⟨y1,y2⟩:=bt.b b hb;exact DE (n:=16) (by rw[eL]; exact(Ek (e:=b.r-b.l) (k:=b.u-b.d) (by omega) (by omega) (dg (show(b.r-b.l).natAbs<=200 by omega) (by decide))).1) (by decide)
end
end My
namespace My
open PySem L2 Mth Wd Fl Ln
theorem Qi:∀{l1 l2:List Nat},l1.Pairwise (· < ·)->l2.Pairwise (· < ·)->(∀x,x∈l1↔x∈l2)->l1=l2
 | [],[],_,_,_=>rfl
 | [],b :: r,_,_,h=>absurd ((h b).mpr dr) (de)
 | a :: r,[],_,_,h=>absurd ((h a).mp dr) (de)
 | a :: r,b :: t,h1,h2,h=>by
  obtain⟨a1,a2⟩:=fe.mp h1;obtain⟨b1,b2⟩:=fe.mp h2;have e:a=b:=by
   rcases cP.mp ((h a).mp dr) with z | z
   ·exact z
   rcases cP.mp ((h b).mpr dr) with y | y
   ·exact y.symm
   have:=b1 a z
   have:=a1 b y
   omega
  subst e;rw[Qi a2 b2 λx=>⟨λhx=>?_,λhx=>?_⟩]
  ·rcases cP.mp ((h x).mp (da _ hx)) with z | z
   ·have:=a1 x hx; omega
   ·exact z
  ·rcases cP.mp ((h x).mpr (da _ hx)) with z | z
   ·have:=b1 x hx; omega
   ·exact z
theorem Oz{α:Type}[BEq α][LawfulBEq α]{p:α->Bool}{a:α}:∀{l:List α},(∀m∈l,p m=true↔m=a)->l.findIdx p=l.idxOf a
 | [],_=>rfl
 | m :: r,h=>by
  have ih:=Oz (l:=r) λx hx=>h x (da _ hx)
  have h0:=h m dr;rw[List.findIdx_cons,List.idxOf_cons,ih];by_cases z:m=a
  ·rw[h0.mpr z,z,beq_self_eq_true]
  ·have:p m=false:=by
    cases y:p m with
    | false=>rfl
    | true=>exact absurd (h0.mp y) z
   rw[this,beq_false_of_ne z]
theorem YJ{s t:Sd}(h:Al (D0 t) (D0 s)=false):Hr s t:=by
 have e:Al (D0 t) (D0 s)=if -t.v=-s.v then (if t.a=s.a then false else decide (t.a<s.a)) else decide (-t.v < -s.v):=rfl
 rw[e] at h;unfold Hr;by_cases z:-t.v=-s.v
 ·rw[if_pos z] at h;by_cases y:t.a=s.a
  ·exact .inr ⟨by omega,by omega⟩
  ·rw[if_neg y] at h
   have:=of_decide_eq_false h
   exact .inr ⟨by omega,by omega⟩
 ·rw[if_neg z] at h
  have:=of_decide_eq_false h
  exact .inl (by omega)
structure Gr(W U:Int)(bs:List AB):Prop where
 w:0<W
 u:0<U
 b:∀b∈bs,b.l<b.r/\b.d<b.u/\0<=b.l/\0<=b.d/\b.r<=W/\b.u<=U
theorem Lo(W U:Int)(bs:List AB):(CC W U bs).Perm (Ab W U bs):=by
 unfold CC Ab;refine List.Perm.append_left _ ?_
 induction bs with
 | nil=>exact .nil
 | cons b r ih =>
  rw[List.flatMap_cons,List.flatMap_cons];exact List.Perm.append (.swap _ _ _) ih
theorem GR{W U:Int}{bs:List AB}(F:Gr W U bs):∀s∈Ab W U bs,s.a<s.z/\0<=s.a/\s.z<=W/\0<=s.v/\s.v<=U:=λs hs=>by
 unfold Ab at hs;have hw:=F.w;have hu:=F.u;rcases cS.mp hs with z | z
 ·simp only[cP,de,or_false] at z;rcases z with rfl | rfl
  ·exact⟨hw,dQ _,dQ _,by show 0<=U; omega,dQ _⟩
  ·exact⟨hw,dQ _,dQ _,dQ _,by show 0<=U; omega⟩
 ·obtain⟨b,hb,hs⟩:=List.mem_flatMap.mp z;obtain⟨h1,h2,h3,h4,h5,h6⟩:=F.b b hb;simp only[FZ,cP,de,or_false] at hs;rcases hs with rfl | rfl
  ·exact⟨h1,h3,h5,h4,by show b.d<=U; omega⟩
  ·exact⟨h1,h3,h5,by show 0<=b.u; omega,h6⟩
section
variable {W U:Int} {bs:List AB} {L:List Sd} {M R:List Int}
theorem OZ(F:Gr W U bs)(pL:L.Perm (CC W U bs))(rL:Fy L)(c:Sd->Int)(hc:∀s∈L,∀t∈L,Eb s t->c s=c t):Fu Int c L (L.foldl BW []):=by
 have:=OT (γ:=Int) (c:=c) (ss:=L) (pre:=[]) (ls:=[]) Vo (rL.imp λh=>YJ h) (λt ht=>(GR F t ((Lo W U bs).mem_iff.mp (pL.mem_iff.mp ht))).1) hc
 exact this
theorem Ju(F:Gr W U bs)(pL:L.Perm (CC W U bs))(rL:Fy L)(mk:FY (Ab W U bs) M){i j:Nat}(hi:i<(Ab W U bs).length)(hj:j<(Ab W U bs).length):Cg (L.foldl BW []) (Am (Ab W U bs) i)=Cg (L.foldl BW []) (Am (Ab W U bs) j)↔M.getD i 0=M.getD j 0:=by
 have mem:∀s,s∈L↔s∈Ab W U bs:=λs=>by rw[pL.mem_iff,(Lo W U bs).mem_iff]
 refine U3 (S:=Am (Ab W U bs)) (ss:=L) mk.m (λi j hi hj t=>?_) (λi hi=>(GR F _ (cq (GN hi))).1) (λi hi=>(mem _).mpr (cq (GN hi))) (λs hs=>?_) (λc hc=>OZ F pL rL c hc) hi hj
 ·rcases eQ i j with z | z | z
  ·exact(mk.m.GO j i hj hi z ⟨t.1.symm,t.2.2,t.2.1⟩).symm
  ·rw[z]
  ·exact mk.m.GO i j hi hj z t
 ·obtain⟨k,hk,e⟩:=dS ((mem s).mp hs);exact⟨k,hk,by rw[Am,cw,cg hk]; exact e⟩
abbrev Ay(L:List Sd):List Sd:=L.foldl BW []
def Cb(W U:Int)(bs:List AB)(L:List Sd)(M:List Int)(m:Int):Nat:=Cg (Ay L) (Am (Ab W U bs) (M.idxOf m))
structure All(W U:Int)(bs:List AB)(L:List Sd)(M R:List Int):Prop where
 F:Gr W U bs
 pL:L.Perm (CC W U bs)
 rL:Fy L
 kk:FY (Ab W U bs) M
 od:GF (Ab W U bs) M R
theorem All.mem(A:All W U bs L M R){s:Sd}:s∈L↔s∈Ab W U bs:=by rw[A.pL.mem_iff,(Lo W U bs).mem_iff]
theorem All.li(A:All W U bs L M R):Fu Int (λ_=>0) L (Ay L):=OZ A.F A.pL A.rL _ λ_ _ _ _ _=>rfl
theorem All.at_(A:All W U bs L M R){i:Nat}(hi:i<(Ab W U bs).length):∃l,(Ay L)[Cg (Ay L) (Am (Ab W U bs) i)]?=some l/\inl (Am (Ab W U bs) i) l:=by
 have hm:=cq (GN hi);obtain⟨l,hl,il⟩:=A.li.has _ (A.mem.mpr hm);exact⟨l,Ht A.li.ap (GR A.F _ hm).1 hl il,il⟩
theorem All.line(A:All W U bs L M R){l:Sd}(hl:l∈Ay L):l.a<l.z/\0<=l.a/\l.z<=W/\0<=l.v/\l.v<=U:=by
 obtain⟨s,hs,i1,e1⟩:=A.li.left l hl;obtain⟨t,ht,i2,e2⟩:=A.li.JG l hl;have h1:=GR A.F s (A.mem.mp hs);have h2:=GR A.F t (A.mem.mp ht)
 have:=i1.1
 have w:=A.li.FX l hl;exact⟨w,by omega,by omega,by omega,by omega⟩
theorem All.E5(A:All W U bs L M R){i:Nat}(hi:i<(Ab W U bs).length):Cb W U bs L M (M.getD i 0)=Cg (Ay L) (Am (Ab W U bs) i):=by
 have lM:=A.kk.m.len;have hm:=cq (C5 (M:=M) (i:=i) (by omega));have il:=eE.mpr hm;refine(Ju A.F A.pL A.rL A.kk (by omega) hi).mpr ?_;rw[cw,cg il];exact fV il
theorem All.ex(A:All W U bs L M R){m:Int}(hm:m∈M):∃i,i<(Ab W U bs).length/\M.getD i 0=m:=by
 obtain⟨k,hk,e⟩:=dS hm;exact⟨k,by rw[<-A.kk.m.len]; exact hk,by rw[cw,cg hk]; exact e⟩
theorem All.inj(A:All W U bs L M R){m m':Int}(h:m∈M)(h':m'∈M)(e:Cb W U bs L M m=Cb W U bs L M m'):m=m':=by
 obtain⟨i,hi,rfl⟩:=A.ex h;obtain⟨j,hj,rfl⟩:=A.ex h';rw[A.E5 hi,A.E5 hj] at e;exact(Ju A.F A.pL A.rL A.kk hi hj).mp e
theorem All.nd(A:All W U bs L M R){i j:Nat}{l:Sd}(h1:(Ay L)[i]?=some l)(h2:(Ay L)[j]?=some l):i=j:=by
 obtain⟨hi,e1⟩:=cm.mp h1;obtain⟨hj,e2⟩:=cm.mp h2;have ap:=cY.mp A.li.ap;have w:=A.li.FX l (cq h1);rcases eQ i j with z | z | z
 ·have:=ap i j hi hj z
  rw[e1,e2] at this;unfold Bf at this; omega
 ·exact z
 ·have:=ap j i hj hi z
  rw[e1,e2] at this;unfold Bf at this; omega
theorem All.bq(A:All W U bs L M R){j:Nat}(hj:j<(Ay L).length):∃i,i<(Ab W U bs).length/\Cg (Ay L) (Am (Ab W U bs) i)=j:=by
 have e:=cg hj;obtain⟨s,hs,i1,_⟩:=A.li.left _ (eP hj);have hm:=A.mem.mp hs;obtain⟨k,hk,ek⟩:=dS hm;have es:Am (Ab W U bs) k=s:=by rw[Am,cw,cg hk]; exact ek
 refine⟨k,hk,?_⟩;rw[es];exact A.nd (Ht A.li.ap (GR A.F _ hm).1 (eP hj) i1) e
theorem All.lt(A:All W U bs L M R){m:Int}(hm:m∈M):Cb W U bs L M m<(Ay L).length:=by
 obtain⟨i,hi,rfl⟩:=A.ex hm;rw[A.E5 hi];obtain⟨l,e,_⟩:=A.at_ hi;exact(cm.mp e).1
theorem All.n2(_:All W U bs L M R):2<=(Ab W U bs).length:=by rw[FF]; omega
theorem All.m0(A:All W U bs L M R):M.getD 0 0∈M:=cq (C5 (by have:=A.n2; have:=A.kk.m.len; omega))
theorem All.m1(A:All W U bs L M R):M.getD 1 0∈M:=cq (C5 (by have:=A.n2; have:=A.kk.m.len; omega))
theorem All.t0(A:All W U bs L M R):Cb W U bs L M (M.getD 0 0)=0:=by
 rw[A.E5 (by have:=A.n2; omega)];obtain⟨l,e,il⟩:=A.at_ (i:=0) (by have:=A.n2; omega);obtain⟨h1,e1⟩:=cm.mp e;rcases Nat.eq_zero_or_pos (Cg (Ay L) (Am (Ab W U bs) 0)) with z | z
 ·exact z
 have ap:=cY.mp A.li.ap 0 _ (by omega) h1 z;have q:=A.line (eP (show 0<(Ay L).length by omega));rw[e1] at ap;have i1:U=l.v/\l.a<=0/\W<=l.z:=il;generalize (Ay L)[0]=l0 at ap q;unfold Bf at ap;omega
theorem All.t1(A:All W U bs L M R):Cb W U bs L M (M.getD 1 0)=(Ay L).length-1:=by
 rw[A.E5 (by have:=A.n2; omega)];obtain⟨l,e,il⟩:=A.at_ (i:=1) (by have:=A.n2; omega);obtain⟨h1,e1⟩:=cm.mp e;rcases c5 (Cg (Ay L) (Am (Ab W U bs) 1)) ((Ay L).length-1) with z | z
 ·have ap:=cY.mp A.li.ap _ ((Ay L).length-1) h1 (by omega) z;have q:=A.line (eP (show(Ay L).length-1<(Ay L).length by omega));rw[e1] at ap;have i1:0=l.v/\l.a<=0/\W<=l.z:=il;generalize (Ay L)[(Ay L).length-1]=l0 at ap q;unfold Bf at ap;omega
 ·omega
theorem All.ne(A:All W U bs L M R):M.getD 0 0≠M.getD 1 0:=λz=>by
 have:=(Ju A.F A.pL A.rL A.kk (show 0<_ by have:=A.n2; omega) (show 1<_ by have:=A.n2; omega)).mpr z
 obtain⟨l,e,il⟩:=A.at_ (i:=0) (by have:=A.n2; omega);obtain⟨l',e',il'⟩:=A.at_ (i:=1) (by have:=A.n2; omega);rw[this,e'] at e;cases e;have i1:U=l.v/\l.a<=0/\W<=l.z:=il;have i2:0=l.v/\l.a<=0/\W<=l.z:=il'
 have:=A.F.u
 omega
theorem All.Jf(A:All W U bs L M R):2<=(Ay L).length:=by
 have h0:=A.t0;have h1:=A.t1;have l1:=A.lt A.m1;rcases c5 (Ay L).length 2 with z | z
 ·exact absurd (A.inj A.m0 A.m1 (by omega)) A.ne
 ·exact z
theorem ae{v a m v' a' m':Int}(h:Al [-v,a,m] [-v',a',m']=true):v' < v\/(v=v'/\a<=a'):=by
 have e:Al [-v,a,m] [-v',a',m']=if -v=-v' then (if a=a' then (if m=m' then false else decide (m<m')) else decide (a<a')) else decide (-v < -v'):=rfl
 rw[e] at h;by_cases z:-v=-v'
 ·rw[if_pos z] at h;by_cases y:a=a'
  ·exact .inr ⟨by omega,by omega⟩
  ·rw[if_neg y] at h
   have:=of_decide_eq_true h
   exact .inr ⟨by omega,by omega⟩
 ·rw[if_neg z] at h
  have:=of_decide_eq_true h
  exact .inl (by omega)
theorem FC{M:List Int}{n k:Nat}{m:Int}(h:k∈CM M n m):k<n/\M.getD k 0=m:=by
 obtain⟨h1,h2⟩:=dR.mp h;exact⟨cZ.mp h1,of_decide_eq_true h2⟩
theorem All.up(A:All W U bs L M R):(R.map (Cb W U bs L M)).Pairwise (· < ·):=by
 rw[fE];refine(fM.mp (A.od.up.and A.od.nd)).imp λ{m m'} h=>?_
 obtain⟨h1,h2,⟨v,v',a,a',hv,hv',ha,_,ha',_,lx⟩,nm⟩:=h;have m1:=((A.od.mem m).mp h1).1;have m2:=((A.od.mem m').mp h2).1;rcases eQ (Cb W U bs L M m) (Cb W U bs L M m') with z | z | z
 ·exact z
 ·exact absurd (A.inj m1 m2 z) nm
 exfalso
 obtain⟨k1,s1,rfl⟩:=cT.mp hv;obtain⟨k2,s2,rfl⟩:=cT.mp hv';obtain⟨k3,s3,rfl⟩:=cT.mp ha;obtain⟨k4,s4,rfl⟩:=cT.mp ha';obtain⟨n1,g1⟩:=FC s1;obtain⟨n2,g2⟩:=FC s2;obtain⟨n3,g3⟩:=FC s3;obtain⟨n4,g4⟩:=FC s4;have t1:=A.E5 n1;have t2:=A.E5 n2;have t3:=A.E5 n3;have t4:=A.E5 n4;rw[g1] at t1; rw[g2] at t2; rw[g3] at t3; rw[g4] at t4;obtain⟨l1,e1,i1⟩:=A.at_ n1;obtain⟨l2,e2,i2⟩:=A.at_ n2;obtain⟨l3,e3,i3⟩:=A.at_ n3;obtain⟨l4,e4,i4⟩:=A.at_ n4;rw[<-t1] at e1; rw[<-t2] at e2; rw[<-t3] at e3; rw[<-t4] at e4;rw[e1] at e3; cases e3;rw[e2] at e4; cases e4;obtain⟨x1,y1⟩:=cm.mp e1;obtain⟨x2,y2⟩:=cm.mp e2;have ap:=cY.mp A.li.ap _ _ x2 x1 z;rw[y1,y2] at ap;have w4:=(GR A.F _ (cq (GN n4))).1;have lx:=ae lx;unfold Bf at ap;unfold inl at i1 i2 i3 i4;omega
theorem All.Tj(A:All W U bs L M R):R.map (Cb W U bs L M)=List.range' 1 ((Ay L).length-2):=by
 have k2:=A.Jf;refine Qi A.up List.pairwise_lt_range' λx=>?_
 rw[List.mem_range'_1];constructor
 ·intro h;obtain⟨m,hm,rfl⟩:=cT.mp h;obtain⟨h1,h2,h3⟩:=(A.od.mem m).mp hm;have lt:=A.lt h1;have n0:Cb W U bs L M m≠0:=λz=>h2 (A.inj h1 A.m0 (by rw[z,A.t0]))
  have n1:Cb W U bs L M m≠(Ay L).length-1:=λz=>h3 (A.inj h1 A.m1 (by rw[z,A.t1]))
  omega
 ·rintro⟨h1,h2⟩;obtain⟨i,hi,e⟩:=A.bq (j:=x) (by omega);have hm:=cq (C5 (M:=M) (i:=i) (by rw[A.kk.m.len]; exact hi));have t:=A.E5 hi;rw[e] at t;refine cT.mpr ⟨M.getD i 0,(A.od.mem _).mpr ⟨hm,λz=>?_,λz=>?_⟩,t⟩
  ·rw[z,A.t0] at t; omega
  ·rw[z,A.t1] at t; omega
theorem All.len(A:All W U bs L M R):(Ay L).length=R.length+2:=by
 have:=congrArg List.length A.Tj
 rw[cf,List.length_range'] at this
 have:=A.Jf
 omega
theorem All.Bx(A:All W U bs L M R):Bx (Ay L)=(BR M R).map λm=>(Ay L).getD (Cb W U bs L M m) (0,0,0):=by
 have k2:=A.Jf;have e:((Ay L).drop 1).dropLast=R.map λm=>(Ay L).getD (Cb W U bs L M m) (0,0,0):=by
  have e1:(R.map λm=>(Ay L).getD (Cb W U bs L M m) (0,0,0))=(List.range' 1 ((Ay L).length-2)).map λi=>(Ay L).getD i (0,0,0):=by rw[<-A.Tj,fg]; rfl
  rw[e1];generalize Ay L=ls at k2;refine List.ext_getElem (by simp; omega) λi h1 h2=>?_
  simp at h1;rw[List.getElem_dropLast,List.getElem_drop,List.getElem_map,List.getElem_range',cw,cg (by omega)];simp
 unfold My.Bx BR;rw[e,eJ,eJ,A.t0,A.t1];rfl
theorem All.place(A:All W U bs L M R){i:Nat}(hi:i<(Ab W U bs).length):FO (My.Bx (Ay L)) (Am (Ab W U bs) i).v (Am (Ab W U bs) i).a=(BR M R).idxOf (M.getD i 0):=by
 rw[A.Bx];unfold FO;rw[List.findIdx_map];refine Oz λm hm=>?_
 have mM:m∈M:=by
  unfold BR at hm;rcases cP.mp hm with rfl | hm
  ·exact A.m0
  rcases cP.mp hm with rfl | hm
  ·exact A.m1
  exact((A.od.mem m).mp hm).1
 obtain⟨l,e,il⟩:=A.at_ hi;have t:=A.E5 hi;have w:=(GR A.F _ (cq (GN hi))).1;have lt:=A.lt mM;have hg:(Ay L)[Cb W U bs L M m]?=some ((Ay L).getD (Cb W U bs L M m) (0,0,0)):=by rw[cw,cg lt]; rfl
 show Dd _ _ ((Ay L).getD (Cb W U bs L M m) (0,0,0))=true↔_;constructor
 ·intro h;generalize (Ay L).getD (Cb W U bs L M m) (0,0,0)=l' at h hg;unfold Dd at h;simp only[dO,decide_eq_true_eq] at h;have el:l'=l:=by
   rcases OO A.li.ap (cq hg) (cq e) with z | z | z
   ·exact z
   ·unfold Bf at z; unfold inl at il; omega
   ·unfold Bf at z; unfold inl at il; omega
  rw[el] at hg
  have:=A.nd hg e
  rw[<-t] at this;exact A.inj mM (cq (C5 (M:=M) (i:=i) (by rw[A.kk.m.len]; exact hi))) this
 ·rintro rfl;rw[t,e] at hg;rw[t,<-Option.some.inj hg];unfold inl at il;unfold Dd;simp only[dO,decide_eq_true_eq];omega
theorem Pk{g:Nat->Int}:∀{l1 l2:List Nat},(l1.Pairwise λa b=>g a<g b)->(l2.Pairwise λa b=>g a<g b)->(∀x,x∈l1↔x∈l2)->l1=l2
 | [],[],_,_,_=>rfl
 | [],b :: r,_,_,h=>absurd ((h b).mpr dr) (de)
 | a :: r,[],_,_,h=>absurd ((h a).mp dr) (de)
 | a :: r,b :: t,h1,h2,h=>by
  obtain⟨a1,a2⟩:=fe.mp h1;obtain⟨b1,b2⟩:=fe.mp h2;have e:a=b:=by
   rcases cP.mp ((h a).mp dr) with z | z
   ·exact z
   rcases cP.mp ((h b).mpr dr) with y | y
   ·exact y.symm
   have:=b1 a z
   have:=a1 b y
   omega
  subst e;rw[Pk a2 b2 λx=>⟨λhx=>?_,λhx=>?_⟩]
  ·rcases cP.mp ((h x).mp (da _ hx)) with z | z
   ·have:=a1 x hx; rw[z] at this; omega
   ·exact z
  ·rcases cP.mp ((h x).mpr (da _ hx)) with z | z
   ·have:=b1 x hx; rw[z] at this; omega
   ·exact z
theorem Pf:∀{bs:List AB} {k:Nat} {b:AB},bs[k]?=some b->(bs.flatMap FZ)[2*k]?=some (b.d,b.l,b.r)/\(bs.flatMap FZ)[2*k+1]?=some (b.u,b.l,b.r)
 | [],k,b,h=>by simp at h
 | c :: r,0,b,h=>by cases h; exact⟨rfl,rfl⟩
 | c :: r,k+1,b,h=>by
  have:=Pf (bs:=r) (k:=k) (b:=b) (by simpa using h)
  rw[List.flatMap_cons];have e1:2*(k+1)=2*k+1+1:=by omega
  rw[e1];exact this
theorem Fo{W U:Int}{bs:List AB}{k:Nat}{b:AB}(h:bs[k]?=some b):Am (Ab W U bs) (2+2*k)=(b.d,b.l,b.r)/\Am (Ab W U bs) (3+2*k)=(b.u,b.l,b.r):=by
 obtain⟨h1,h2⟩:=Pf h;unfold Am Ab;rw[cw,cw];rw[show 2+2*k=2*k+1+1 by omega,show 3+2*k=2*k+1+1+1 by omega];constructor
 ·show((bs.flatMap FZ)[2*k]?).getD _=_;rw[h1]; rfl
 ·show((bs.flatMap FZ)[2*k+1]?).getD _=_;rw[h2]; rfl
def He(bs:List AB):Prop:=∀(i j:Nat) (b c:AB),bs[i]?=some b->bs[j]?=some c->i≠j->¬(b.l<c.r/\c.l<b.r/\b.d<c.u/\c.d<b.u)
variable {p p':List Nat}
theorem B6{bs:List AB}{k:Nat}(h:k<bs.length):bs[k]?=some (bs.getD k (0,0,0,0)):=by rw[cw,cg h]; rfl
theorem All.bB(A:All W U bs L M R){k:Nat}{b:AB}(h:bs[k]?=some b):DQ (My.Bx (Ay L)) b=Gu M R bs k:=by
 have hk:=(cm.mp h).1;have lS:=FF W U bs;obtain⟨e1,e2⟩:=Fo (W:=W) (U:=U) h;have p1:=A.place (i:=2+2*k) (by omega);have p2:=A.place (i:=3+2*k) (by omega);rw[e1] at p1;rw[e2] at p2;have eb:bs.getD k (0,0,0,0)=b:=by have:=B6 hk; rw[h] at this; exact(Option.some.inj this).symm
 unfold DQ Gu A3;rw[eb];exact Prod.ext p2 (Prod.ext p1 rfl)
theorem All.Rt(A:All W U bs L M R):bs.map (DQ (My.Bx (Ay L)))=BZ M R bs:=by
 refine fY λk=>?_
 rcases c5 k bs.length with z | z
 ·rw[BZ,Hv z,cu,B6 z];exact congrArg some (A.bB (B6 z))
 ·rw[dF (by rw[cf]; exact z),dF (by rw[BZ,cf,c7]; exact z)]
theorem Q8{k:Nat}(h:k<bs.length):(BZ M R bs).getD k GH=Gu M R bs k:=by rw[cw,BZ,Hv h]; rfl
theorem Qt{k n:Nat}(h:k<n):EX (CK M R n) k=A3 M R k:=by rw[EX,cw,CK,Hv h]; rfl
theorem KA{O:List Int}{a b:Int}(ha:a∈O)(hb:b∈O)(h:O.idxOf a=O.idxOf b):a=b:=by
 have h1:=fV (eE.mpr ha);have h2:=fV (eE.mpr hb);rw[<-h1,<-h2];congr 1
theorem All.mO(A:All W U bs L M R){i:Nat}(hi:i<(Ab W U bs).length):M.getD i 0∈BR M R:=PN A.od (cq (C5 (by rw[A.kk.m.len]; exact hi)))
theorem All.LL(A:All W U bs L M R){i j:Nat}(hi:i<(Ab W U bs).length)(hj:j<(Ab W U bs).length)(h:M.getD i 0=M.getD j 0):(Am (Ab W U bs) i).v=(Am (Ab W U bs) j).v:=by
 have e:=(Ju A.F A.pL A.rL A.kk hi hj).mpr h;obtain⟨l,e1,i1⟩:=A.at_ hi;obtain⟨l',e2,i2⟩:=A.at_ hj;rw[e,e2] at e1;cases e1;exact i1.1.trans i2.1.symm
theorem All.below(A:All W U bs L M R)(D:He bs){j k:Nat}(hj:j<bs.length)(hk:k<bs.length)(ne:j≠k)(e:(A3 M R j).1=(A3 M R k).1):BD bs j≠BD bs k:=λz=>by
 have lS:=FF W U bs;have m:=A.LL (i:=3+2*j) (j:=3+2*k) (by omega) (by omega) (KA (A.mO (by omega)) (A.mO (by omega)) e);rw[(Fo (B6 hj)).2,(Fo (B6 hk)).2] at m;have d:=D j k _ _ (B6 hj) (B6 hk) ne;have f1:=A.F.b _ (cq (B6 hj));have f2:=A.F.b _ (cq (B6 hk));have m:(bs.getD j (0,0,0,0)).u=(bs.getD k (0,0,0,0)).u:=m;have z:(bs.getD j (0,0,0,0)).l=(bs.getD k (0,0,0,0)).l:=z;generalize bs.getD j (0,0,0,0)=b at *;generalize bs.getD k (0,0,0,0)=c at *;omega
theorem All.above(A:All W U bs L M R)(D:He bs){j k:Nat}(hj:j<bs.length)(hk:k<bs.length)(ne:j≠k)(e:(A3 M R j).2=(A3 M R k).2):BD bs j≠BD bs k:=λz=>by
 have lS:=FF W U bs;have m:=A.LL (i:=2+2*j) (j:=2+2*k) (by omega) (by omega) (KA (A.mO (by omega)) (A.mO (by omega)) e);rw[(Fo (B6 hj)).1,(Fo (B6 hk)).1] at m;have d:=D j k _ _ (B6 hj) (B6 hk) ne;have f1:=A.F.b _ (cq (B6 hj));have f2:=A.F.b _ (cq (B6 hk));have m:(bs.getD j (0,0,0,0)).d=(bs.getD k (0,0,0,0)).d:=m;have z:(bs.getD j (0,0,0,0)).l=(bs.getD k (0,0,0,0)).l:=z;generalize bs.getD j (0,0,0,0)=b at *;generalize bs.getD k (0,0,0,0)=c at *;omega
theorem QP(o:EW (bs.map AB.l) p):p.Perm (List.range bs.length)/\p.Pairwise λi j=>BD bs i<=BD bs j:=by
 obtain⟨h1,h2⟩:=o;rw[cf] at h1;refine⟨h1,(fM.mp h2).imp λ{i j} h=>?_⟩;obtain⟨hi,hj,h⟩:=h;have hi:=cZ.mp (h1.mem_iff.mp hi);have hj:=cZ.mp (h1.mem_iff.mp hj);have e:∀k,k<bs.length->(bs.map AB.l).getD k 0=BD bs k:=λk hk=>by
  rw[cw,cu,B6 hk]; rfl
 rw[e i hi,e j hj] at h;exact h
theorem XD(o:D7 bs p):p.Pairwise λi j=>BD bs i<=BD bs j:=o.up.imp λ{i j} h=>by
 have e:Al (D6 bs i) (D6 bs j)=if BD bs i=BD bs j then (if (i:Int)=(j:Int) then false else decide ((i:Int)<(j:Int))) else decide (BD bs i<BD bs j):=rfl
 rw[e] at h;by_cases z:BD bs i=BD bs j
 ·omega
 ·rw[if_neg z] at h
  have:=of_decide_eq_true h
  omega
theorem RN{q:Nat->Bool}(h1:p.Perm (List.range bs.length))(h2:p'.Perm (List.range bs.length))(u1:p.Pairwise λi j=>BD bs i<=BD bs j)(u2:p'.Pairwise λi j=>BD bs i<=BD bs j)(hq:∀j k,j<bs.length->k<bs.length->j≠k->q j=true->q k=true->BD bs j≠BD bs k):p.filter q=p'.filter q:=by
 have gen:∀{p:List Nat},p.Perm (List.range bs.length)->(p.Pairwise λi j=>BD bs i<=BD bs j)->(p.filter q).Pairwise λi j=>BD bs i<BD bs j:=λ{p} h u=>by
  have nd:p.Nodup:=h.nodup_iff.mpr List.nodup_range;refine(fM.mp ((u.and nd).filter q)).imp λ{i j} z=>?_
  obtain⟨z1,z2,z3,z4⟩:=z;obtain⟨y1,y2⟩:=dR.mp z1;obtain⟨y3,y4⟩:=dR.mp z2
  have:=hq i j (cZ.mp (h.mem_iff.mp y1)) (cZ.mp (h.mem_iff.mp y3)) z4 y2 y4
  omega
 refine Pk (gen h1 u1) (gen h2 u2) λx=>?_
 rw[dR,dR,h1.mem_iff,h2.mem_iff]
variable {pl:Nat}
theorem QH(h:p.Perm (List.range bs.length)):Bc (BZ M R bs) p pl=(p.filter λk=>decide ((A3 M R k).2=pl)).reverse.map λk:Nat=>2*(k:Int)+1:=by
 unfold Bc;rw[List.filter_congr λk hk=>?_];rw[Q8 (cZ.mp (h.mem_iff.mp hk))];rfl
theorem QD(h:p.Perm (List.range bs.length)):BP (BZ M R bs) p pl=(p.filter λk=>decide ((A3 M R k).1=pl)).map λk:Nat=>2*(k:Int):=by
 unfold BP;rw[List.filter_congr λk hk=>?_];rw[Q8 (cZ.mp (h.mem_iff.mp hk))];rfl
theorem L4(h:p.Perm (List.range bs.length)):FV (CK M R bs.length) p pl=(p.filter λk=>decide ((A3 M R k).2=pl)).reverse.map λk:Nat=>2*(k:Int)+1:=by
 unfold FV;rw[<-List.filter_reverse];rw[List.filter_congr λk hk=>?_];rw[Qt (cZ.mp (h.mem_iff.mp (List.mem_reverse.mp hk)))]
theorem L3(h:p.Perm (List.range bs.length)):FU (CK M R bs.length) p pl=(p.filter λk=>decide ((A3 M R k).1=pl)).map λk:Nat=>2*(k:Int):=by
 unfold FU;rw[List.filter_congr λk hk=>?_];rw[Qt (cZ.mp (h.mem_iff.mp hk))]
theorem All.cC(A:All W U bs L M R){k:Nat}(hk:k<bs.length):(A3 M R k).2≠0:=λz=>by
 have lS:=FF W U bs;have e:M.getD (2+2*k) 0=M.getD 0 0:=KA (O:=BR M R) (A.mO (by omega)) dr (by
  have:(BR M R).idxOf (M.getD 0 0)=0:=by unfold BR; rw[List.idxOf_cons,beq_self_eq_true]; rfl
  rw[this]; exact z)
 have m:=A.LL (i:=2+2*k) (j:=0) (by omega) (by omega) e;rw[(Fo (B6 hk)).1] at m;have m:(bs.getD k (0,0,0,0)).d=U:=m;have f1:=A.F.b _ (cq (B6 hk));omega
theorem All.i1(A:All W U bs L M R):(BR M R).idxOf (M.getD 1 0)=1:=by
 unfold BR;rw[List.idxOf_cons,beq_false_of_ne A.ne,List.idxOf_cons,beq_self_eq_true]; rfl
theorem All.cH(A:All W U bs L M R){k:Nat}(hk:k<bs.length):(A3 M R k).1≠1:=λz=>by
 have lS:=FF W U bs;have e:M.getD (3+2*k) 0=M.getD 1 0:=KA (O:=BR M R) (A.mO (by omega)) (A.mO (by omega)) (by rw[A.i1]; exact z);have m:=A.LL (i:=3+2*k) (j:=1) (by omega) (by omega) e;rw[(Fo (B6 hk)).2] at m;have m:(bs.getD k (0,0,0,0)).u=0:=m;have f1:=A.F.b _ (cq (B6 hk));omega
theorem All.turn(A:All W U bs L M R)(D:He bs)(o:EW (bs.map AB.l) p)(o':D7 bs p'):Ez (BZ M R bs) p bs.length pl=B5 (CK M R bs.length) p' bs.length pl:=by
 obtain⟨h1,u1⟩:=QP o;have u2:=XD o';have eA:=RN (q:=λk=>decide ((A3 M R k).2=pl)) h1 o'.pm u1 u2 λj k hj hk ne a b=>A.above D hj hk ne ((of_decide_eq_true a).trans (of_decide_eq_true b).symm)
 have eB:=RN (q:=λk=>decide ((A3 M R k).1=pl)) h1 o'.pm u1 u2 λj k hj hk ne a b=>A.below D hj hk ne ((of_decide_eq_true a).trans (of_decide_eq_true b).symm)
 unfold Ez B5;rw[QH h1,QD h1,L4 o'.pm,L3 o'.pm,eA,eB];by_cases z:pl=0
 ·have e:p'.filter (λk=>decide ((A3 M R k).2=pl))=[]:=List.filter_eq_nil_iff.mpr λk hk=>by
   have:=A.cC (cZ.mp (o'.pm.mem_iff.mp hk))
   rw[z]; simpa using this
  rw[e,if_pos z,if_neg (show pl≠1 by omega),if_pos z,if_neg (show pl≠1 by omega),eD]; rfl
 ·by_cases y:pl=1
  ·have e:p'.filter (λk=>decide ((A3 M R k).1=pl))=[]:=List.filter_eq_nil_iff.mpr λk hk=>by
    have:=A.cH (cZ.mp (o'.pm.mem_iff.mp hk))
    rw[y]; simpa using this
   rw[e,if_neg z,if_pos y,if_neg z,if_pos y,eD]; rfl
  ·rw[if_neg z,if_neg y,if_neg z,if_neg y,eD,eD]
theorem All.Zl(A:All W U bs L M R)(D:He bs)(o:EW (bs.map AB.l) p){ts:List (List Int)}(ln:ts.length=R.length+2)(tn:∀pl t,ts[pl]?=some t->∃p,D7 bs p/\t=Bm (B5 (CK M R bs.length) p bs.length pl)):(DZ (R.length+2) (BZ M R bs) p).map Bm=ts:=by
 have lr:(BZ M R bs).length=bs.length:=by rw[BZ,cf,c7]
 refine fY λi=>?_
 rcases c5 i (R.length+2) with z | z
 ·have e:=cg (l:=ts) (i:=i) (by omega);obtain⟨q,oq,et⟩:=tn i _ e;rw[e,et,cu,DZ,lr,Hv z];exact congrArg some (congrArg Bm (A.turn D o oq))
 ·rw[dF (by rw[cf,DZ,cf,c7]; exact z),dF (by omega)]
theorem All.JY(A:All W U bs L M R)(h:p.Perm (List.range bs.length))(hp:pl<R.length+2):B5 (CK M R bs.length) p bs.length pl≠[]:=by
 unfold B5;by_cases z:pl=0
 ·rw[if_pos z]; simp
 by_cases y:pl=1
 ·rw[if_pos y]; simp
 rw[if_neg z,if_neg y,L4 h,L3 h];have lS:=FF W U bs;have ndO:(BR M R).Nodup:=by
  unfold BR;refine eG.mpr ⟨λx=>?_,eG.mpr ⟨λx=>?_,A.od.nd⟩⟩
  ·rcases cP.mp x with x | x
   ·exact A.ne x
   ·exact((A.od.mem _).mp x).2.1 rfl
  ·exact((A.od.mem _).mp x).2.2 rfl
 have lO:(BR M R).length=R.length+2:=rfl;have hl:pl<(BR M R).length:=by omega
 have ix:(BR M R).idxOf (BR M R)[pl]=pl:=by
  have hm:=eP hl;have i1:=eE.mpr hm;have e:=fV i1;have nd:=cY.mp ndO;rcases eQ ((BR M R).idxOf (BR M R)[pl]) pl with x | x | x
  ·exact absurd e (nd _ _ i1 hl x)
  ·exact x
  ·exact absurd e.symm (nd _ _ hl i1 x)
 have mR:(BR M R)[pl]∈R:=by
  have:(BR M R)[pl]?=R[pl-2]?:=by
   obtain⟨k,rfl⟩:∃k,pl=k+1+1:=⟨pl-2,by omega⟩;rfl
  rw[cg hl] at this;exact cq this.symm
 obtain⟨m1,m2,m3⟩:=(A.od.mem _).mp mR;obtain⟨j,hj,ej⟩:=A.ex m1;rw[<-ej] at ix m2 m3;have j0:j≠0:=λx=>m2 (by rw[x])
 have j1:j≠1:=λx=>m3 (by rw[x])
 intro nil;obtain⟨n1,n2⟩:=List.append_eq_nil_iff.mp nil;rcases Nat.mod_two_eq_zero_or_one j with x | x
 ·have k:(j-2) / 2∈p.filter λk=>decide ((A3 M R k).2=pl):=dR.mpr ⟨h.mem_iff.mpr (cZ.mpr (by omega)),decide_eq_true (by unfold A3; rw[show 2+2*((j-2) / 2)=j by omega]; exact ix)⟩
  have n1:=fS.mp n1;rw[List.reverse_eq_nil_iff] at n1;rw[n1] at k; cases k
 ·have k:(j-2) / 2∈p.filter λk=>decide ((A3 M R k).1=pl):=dR.mpr ⟨h.mem_iff.mpr (cZ.mpr (by omega)),decide_eq_true (by unfold A3; rw[show 3+2*((j-2) / 2)=j by omega]; exact ix)⟩
  have n2:=fS.mp n2;rw[n2] at k; cases k
theorem Vk(a:List Int):Al a a=false:=by
 cases h:Al a a with
 | false=>rfl
 | true=>have:=Gx h; rw[h] at this; cases this
theorem Ja{a b:List Int}:Al b a=false↔a=b\/Al a b=true:=by
 constructor
 ·intro h;by_cases e:a=b
  ·exact .inl e
  ·rcases J5 e with z | z
   ·exact .inr z
   ·rw[h] at z; cases z
 ·rintro(rfl | h)
  ·exact Vk a
  ·exact Gx h
theorem UZ{a b c:List Int}(h1:Al b a=false)(h2:Al c b=false):Al c a=false:=by
 rcases Ja.mp h1 with rfl | h1
 ·exact h2
 rcases Ja.mp h2 with rfl | h2
 ·exact Ja.mpr (.inr h1)
 ·exact Ja.mpr (.inr (Jm h1 h2))
theorem RM{α:Type}(key:α->List Int)(l:List α):∃s:List α,s.Perm l/\s.Pairwise λa b=>Al (key b) (key a)=false:=by
 induction l with
 | nil=>exact⟨[],.nil,.nil⟩
 | cons x l ih =>
  obtain⟨s,ps,us⟩:=ih;refine⟨s.filter (λa=>!Al (key x) (key a))++x :: s.filter (λa=>!(!Al (key x) (key a))),?_,?_⟩
  ·refine List.perm_middle.trans (List.Perm.cons x ((List.filter_append_perm _ s).trans ps))
  ·refine fO.mpr ⟨us.filter _,fe.mpr ⟨λb hb=>?_,us.filter _⟩,λa ha b hb=>?_⟩
   ·have h:=(dR.mp hb).2;have h:Al (key x) (key b)=true:=by simpa using h
    exact Gx h
   ·have h:=(dR.mp ha).2;have h:Al (key x) (key a)=false:=by simpa using h
    rcases cP.mp hb with rfl | hb
    ·exact h
    ·have g:=(dR.mp hb).2;have g:Al (key x) (key b)=true:=by simpa using g
     exact UZ h (Gx g)
theorem We(W U:Int)(bs:List AB):∃L:List Sd,L.Perm (CC W U bs)/\Fy L:=RM D0 _
theorem Wq(S:List Sd):∃M,FY S M:=by
 have inner:∀k,k<S.length->∀a,a<=k->(∃M,C9 S.length (Dl S) (DF k 0) M/\∀m∈M,0<=m/\m<S.length)->∃M,C9 S.length (Dl S) (DF k a) M/\∀m∈M,0<=m/\m<S.length:=λk hk a=>by
  induction a with
  | zero=>intro _ h; exact h
  | succ a ih =>
   intro ha h;obtain⟨M,mk,mr⟩:=ih (by omega) h;have hd:∀x y,DF k (a+1) x y->DF k a x y\/(x=k/\y=a):=λx y h=>by unfold DF at *; omega
   by_cases t:Dl S k a
   ·refine⟨Dv M k a,N9 mk hk (by omega) t hd,λm hm=>?_⟩;unfold Dv at hm;obtain⟨m0,hm0,rfl⟩:=cT.mp hm
    have:=mk.len
    split
    ·exact mr _ (cq (C5 (show a<M.length by omega)))
    ·exact mr _ hm0
   ·exact⟨M,OD mk (λz=>absurd z t) hd,mr⟩
 have outer:∀k,k<=S.length->∃M,C9 S.length (Dl S) (DF k 0) M/\∀m∈M,0<=m/\m<S.length:=λk=>by
  induction k with
  | zero =>
   intro _;refine⟨_,(Pl (n:=S.length) (tc:=Dl S)).JS (λi j h=>by unfold DF at h; omega),λm hm=>?_⟩;obtain⟨i,hi,rfl⟩:=cT.mp hm
   have:=cZ.mp hi
   omega
  | succ k ih =>
   intro hk;obtain⟨M,mk,mr⟩:=inner k (by omega) k (cR _) (ih (by omega));exact⟨M,mk.JS (λx y h=>by unfold DF at *; omega),mr⟩
 obtain⟨M,mk,mr⟩:=outer S.length (cR _);exact⟨M,⟨mk.len,λx y hx hy d t=>mk.GO x y hx hy ⟨d,.inl hx⟩ t,mk.only⟩,mr⟩
theorem WI{S:List Sd}{M:List Int}(mk:FY S M):∃R,GF S M R:=by
 have lM:M.length=S.length:=mk.m.len
 let key:Int->List Int:=λm=>[-((Ie S M m).headD 0),Dk (Hq S M m),m]
 obtain⟨R,pR,uR⟩:=RM key ((BY M).filter (Fc M));have mem:∀m,m∈R↔m∈M/\m≠M.getD 0 0/\m≠M.getD 1 0:=λm=>by
  rw[pR.mem_iff,dR,Lf];simp only[Fc,dO,decide_eq_true_eq]
 have nd:R.Nodup:=pR.nodup_iff.mpr ((LR M).filter _);refine⟨R,nd,mem,(fM.mp (uR.and nd)).imp λ{m m'} h=>?_⟩;obtain⟨h1,h2,h3,h4⟩:=h;have ne:∀m,m∈R->CM M S.length m≠[]:=λm hm=>by
  have:=QN ((mem m).mp hm).1
  rw[lM] at this; exact this
 have hv:∀m,m∈R->(Ie S M m).headD 0∈Ie S M m:=λm hm=>by
  have:=ne m hm
  unfold Ie;cases z:CM M S.length m with
  | nil=>exact absurd z this
  | cons a b=>exact dr
 have ha:∀m,m∈R->Dk (Hq S M m)∈Hq S M m/\∀x∈Hq S M m,Dk (Hq S M m)<=x:=λm hm=>ME λz=>ne m hm (fS.mp z)
 refine⟨_,_,_,_,hv m h1,hv m' h2,(ha m h1).1,(ha m h1).2,(ha m' h2).1,(ha m' h2).2,?_⟩;rcases Ja.mp h3 with e | e
 ·have e:key m=key m':=e
  have:=congrArg (λr:List Int=>r.getD 2 0) e
  exact absurd this h4
 ·exact e
theorem All.hit(A:All W U bs L M R){i:Nat}(hi:i<(Ab W U bs).length):∃s∈My.Bx (Ay L),Dd (Am (Ab W U bs) i).v (Am (Ab W U bs) i).a s=true:=by
 have e:=A.place hi;have lt:=eE.mpr (A.mO hi);rw[<-e] at lt;have lX:(My.Bx (Ay L)).length=(BR M R).length:=by rw[A.Bx,cf]
 rw[<-lX] at lt;exact List.findIdx_lt_length.mp lt
theorem All.ZZ(A:All W U bs L M R)(h:p.Perm (List.range bs.length))(hp:pl<R.length+2):Ez (BZ M R bs) p bs.length pl≠[]:=by
 have f:=A.JY h hp;unfold Ez;unfold B5 at f;rw[L4 h,L3 h] at f;rw[QH h,QD h];by_cases z:pl=0
 ·rw[if_pos z]; simp
 by_cases y:pl=1
 ·rw[if_pos y]; simp
 rw[if_neg z,if_neg y] at f ⊢;rw[eD,eD];exact f
theorem Xy(F:Gr W U bs)(big:∀b∈bs,BV (b.u-b.d))(pL:L.Perm (CC W U bs))(rL:Fy L):2<=(L.foldl BW []).length/\Mg bs (My.Bx (L.foldl BW [])):=by
 obtain⟨M,mk⟩:=Wq (Ab W U bs);obtain⟨R,od⟩:=WI mk;have A:All W U bs L M R:=⟨F,pL,rL,mk,od⟩;have lS:=FF W U bs;refine⟨A.Jf,λb hb=>?_,λb hb=>?_,λb hb=>⟨(F.b b hb).2.1,big b hb⟩,λp op t ht=>?_⟩
 ·obtain⟨k,hk⟩:=List.getElem?_of_mem hb;have hl:=(cm.mp hk).1
  have:=A.hit (i:=3+2*k) (by omega)
  rw[(Fo hk).2] at this;exact this
 ·obtain⟨k,hk⟩:=List.getElem?_of_mem hb;have hl:=(cm.mp hk).1
  have:=A.hit (i:=2+2*k) (by omega)
  rw[(Fo hk).1] at this;exact this
 ·have lX:(My.Bx (L.foldl BW [])).length=R.length+2:=by rw[A.Bx,cf]; rfl
  rw[A.Rt,lX] at ht;unfold DZ at ht;obtain⟨i,hi,rfl⟩:=cT.mp ht;have lr:(BZ M R bs).length=bs.length:=by rw[BZ,cf,c7]
  rw[lr];exact A.ZZ (QP op).1 (cZ.mp hi)
def Sw(g:Int->Int)(s:Sd):Sd:=(g s.v,g s.a,g s.z)
abbrev DS(D:Int->Prop)(s:Sd):Prop:=D s.v/\D s.a/\D s.z
variable {g:Int->Int} {D:Int->Prop}
structure CI(g:Int->Int)(D:Int->Prop)(W U:Int)(bs:List AB):Prop where
 s:Sc g D
 w:D W
 u:D U
 b:∀b∈bs,DB D b
theorem QM(X:CI g D W U bs):Ab (g W) (g U) (bs.map (BC g))=(Ab W U bs).map (Sw g):=by
 unfold Ab;rw[dh,List.flatMap_map,List.map_flatMap];show [(g U,0,g W),(0,0,g W)]++_=[(g U,g 0,g W),(g 0,g 0,g W)]++_;rw[X.s.f0];rfl
theorem Zf(X:CI g D W U bs):∀s∈Ab W U bs,DS D s:=λs hs=>by
 unfold Ab at hs;have z:=X.s.z;rcases cS.mp hs with h | h
 ·simp only[cP,de,or_false] at h;rcases h with rfl | rfl
  ·exact⟨X.u,z,X.w⟩
  ·exact⟨z,z,X.w⟩
 ·obtain⟨b,hb,hs⟩:=List.mem_flatMap.mp h;obtain⟨h1,h2,h3,h4⟩:=X.b b hb;simp only[FZ,cP,de,or_false] at hs;rcases hs with rfl | rfl
  ·exact⟨h2,h1,h3⟩
  ·exact⟨h4,h1,h3⟩
theorem CI.len(X:CI g D W U bs):(Ab (g W) (g U) (bs.map (BC g))).length=(Ab W U bs).length:=by rw[QM X,cf]
theorem CI.at_(X:CI g D W U bs){i:Nat}(hi:i<(Ab W U bs).length):Am (Ab (g W) (g U) (bs.map (BC g))) i=Sw g (Am (Ab W U bs) i):=by
 rw[QM X,Am,cw,cu,GN hi]; rfl
theorem CI.d(X:CI g D W U bs){i:Nat}(hi:i<(Ab W U bs).length):DS D (Am (Ab W U bs) i):=Zf X _ (cq (GN hi))
theorem CI.tc(X:CI g D W U bs){i j:Nat}(hi:i<(Ab W U bs).length)(hj:j<(Ab W U bs).length):Dl (Ab (g W) (g U) (bs.map (BC g))) i j↔Dl (Ab W U bs) i j:=by
 unfold Dl;rw[X.at_ hi,X.at_ hj];obtain⟨a1,a2,a3⟩:=X.d hi;obtain⟨b1,b2,b3⟩:=X.d hj;generalize Am (Ab W U bs) i=s at *;generalize Am (Ab W U bs) j=t at *;unfold Eb;show g s.v=g t.v/\g s.a<=g t.z/\g t.a<=g s.z↔_;rw[<-X.s.eq a1 b1,<-X.s.le a2 b3,<-X.s.le b2 a3]
theorem CI.mk'(X:CI g D W U bs)(h:FY (Ab W U bs) M):FY (Ab (g W) (g U) (bs.map (BC g))) M:=by
 have l:=X.len;refine⟨⟨h.m.len.trans l.symm,λi j hi hj d t=>h.m.GO i j (by omega) (by omega) d ((X.tc (by omega) (by omega)).mp t),λc hc i j hi hj e=>h.m.only c (λi j hi hj t=>hc i j (by omega) (by omega) ((X.tc hi hj).mpr t)) i j (by omega) (by omega) e⟩,λm hm=>by rw[l]; exact h.r m hm⟩
theorem Vx(s:Sc g D){v a v' a' m m':Int}(hv:D v)(ha:D a)(hv':D v')(ha':D a')(h:Al [-v,a,m] [-v',a',m']=true):Al [-(g v),g a,m] [-(g v'),g a',m']=true:=by
 have e:∀v a v' a':Int,Al [-v,a,m] [-v',a',m']=if -v=-v' then (if a=a' then (if m=m' then false else decide (m<m')) else decide (a<a')) else decide (-v < -v'):=λ_ _ _ _=>rfl
 rw[e] at h ⊢;have q1:=s.eq hv hv';have q2:=s.eq ha ha';have q3:=s.lt v' v hv' hv;have q4:=s.lt a a' ha ha';by_cases z:-v=-v'
 ·rw[if_pos z] at h;rw[if_pos (show -(g v)=-(g v') by have:=q1.mp (by omega); omega)];by_cases y:a=a'
  ·rw[if_pos y] at h;rw[if_pos (q2.mp y)]; exact h
  ·rw[if_neg y] at h;rw[if_neg (λx=>y (q2.mpr x))];exact decide_eq_true (q4.mp (of_decide_eq_true h))
 ·rw[if_neg z] at h
  have:=of_decide_eq_true h
  have h2:=q3.mp (by omega);rw[if_neg (by omega)];exact decide_eq_true (by omega)
theorem CI.od(X:CI g D W U bs)(h:GF (Ab W U bs) M R):GF (Ab (g W) (g U) (bs.map (BC g))) M R:=by
 have l:=X.len;refine⟨h.nd,h.mem,h.up.imp λ{m m'} z=>?_⟩;obtain⟨v,v',a,a',hv,hv',ha,mn,ha',mn',lx⟩:=z;rw[l];obtain⟨k1,s1,rfl⟩:=cT.mp hv;obtain⟨k2,s2,rfl⟩:=cT.mp hv';obtain⟨k3,s3,rfl⟩:=cT.mp ha;obtain⟨k4,s4,rfl⟩:=cT.mp ha';have n1:=(FC s1).1;have n2:=(FC s2).1;have n3:=(FC s3).1;have n4:=(FC s4).1;refine⟨_,_,_,_,cT.mpr ⟨k1,s1,rfl⟩,cT.mpr ⟨k2,s2,rfl⟩,cT.mpr ⟨k3,s3,rfl⟩,λx hx=>?_,cT.mpr ⟨k4,s4,rfl⟩,λx hx=>?_,?_⟩
 ·obtain⟨k,sk,rfl⟩:=cT.mp hx;have nk:=(FC sk).1;rw[X.at_ nk,X.at_ n3];exact(X.s.le (X.d n3).2.1 (X.d nk).2.1).mp (mn _ (cT.mpr ⟨k,sk,rfl⟩))
 ·obtain⟨k,sk,rfl⟩:=cT.mp hx;have nk:=(FC sk).1;rw[X.at_ nk,X.at_ n4];exact(X.s.le (X.d n4).2.1 (X.d nk).2.1).mp (mn' _ (cT.mpr ⟨k,sk,rfl⟩))
 ·rw[X.at_ n1,X.at_ n2,X.at_ n3,X.at_ n4];exact Vx X.s (X.d n1).1 (X.d n3).2.1 (X.d n2).1 (X.d n4).2.1 lx
theorem CI.lf(X:CI g D W U bs){k:Nat}(hk:k<bs.length):BD (bs.map (BC g)) k=g (BD bs k)/\D (BD bs k):=by
 refine⟨?_,(X.b _ (cq (B6 hk))).1⟩;rw[BD,cw,cu,B6 hk]; rfl
theorem CI.ol(X:CI g D W U bs)(o:D7 bs p):D7 (bs.map (BC g)) p:=by
 refine⟨by rw[cf]; exact o.pm,(fM.mp o.up).imp λ{i j} z=>?_⟩;obtain⟨hi,hj,h⟩:=z;obtain⟨e1,d1⟩:=X.lf (cZ.mp (o.pm.mem_iff.mp hi));obtain⟨e2,d2⟩:=X.lf (cZ.mp (o.pm.mem_iff.mp hj));have e:∀bs:List AB,Al (D6 bs i) (D6 bs j)=if BD bs i=BD bs j then (if (i:Int)=(j:Int) then false else decide ((i:Int)<(j:Int))) else decide (BD bs i<BD bs j):=λ_=>rfl
 rw[e] at h ⊢;rw[e1,e2];have q2:=X.s.eq d1 d2;have q4:=X.s.lt _ _ d1 d2;by_cases y:BD bs i=BD bs j
 ·rw[if_pos y] at h;rw[if_pos (q2.mp y)]; exact h
 ·rw[if_neg y] at h;rw[if_neg (λx=>y (q2.mpr x))];exact decide_eq_true (q4.mp (of_decide_eq_true h))
theorem CI.LD(X:CI g D W U bs)(F:Gr W U bs):Gr (g W) (g U) (bs.map (BC g)):=by
 have z:=X.s.z;have f0:=X.s.f0;refine⟨by have:=(X.s.lt 0 W z X.w).mp F.w; omega,by have:=(X.s.lt 0 U z X.u).mp F.u; omega,λb hb=>?_⟩;obtain⟨c,hc,rfl⟩:=cT.mp hb;obtain⟨h1,h2,h3,h4,h5,h6⟩:=F.b c hc;obtain⟨x1,x2,x3,x4⟩:=X.b c hc;have y3:=(X.s.le z x1).mp h3;have y4:=(X.s.le z x2).mp h4;rw[f0] at y3 y4;exact⟨(X.s.lt _ _ x1 x3).mp h1,(X.s.lt _ _ x2 x4).mp h2,y3,y4,(X.s.le x3 X.w).mp h5,(X.s.le x4 X.u).mp h6⟩
theorem CI.dj(X:CI g D W U bs)(h:He bs):He (bs.map (BC g)):=λi j b c hb hc ne z=>by
 rw[cu] at hb hc;obtain⟨b0,eb,rfl⟩:=dJ.mp hb;obtain⟨c0,ec,rfl⟩:=dJ.mp hc;obtain⟨x1,x2,x3,x4⟩:=X.b b0 (cq eb);obtain⟨y1,y2,y3,y4⟩:=X.b c0 (cq ec);obtain⟨z1,z2,z3,z4⟩:=z;exact h i j b0 c0 eb ec ne ⟨(X.s.lt _ _ x1 y3).mpr z1,(X.s.lt _ _ y1 x3).mpr z2,(X.s.lt _ _ x2 y4).mpr z3,(X.s.lt _ _ y2 x4).mpr z4⟩
end
section
variable {T B q:Int}
theorem Fm{z:Int}(h:1<=z):(z:Rat)≠0:=by exact_mod_cast (show z≠0 by omega)
theorem HM(hB:1<=B)(hq:1<=q)(e:Int):((T*q*e:Int):Rat) / ((B*q:Int):Rat)=(T:Rat) / (B:Rat)*(e:Rat):=by
 have h1:=Fm hB;have h2:=Fm hq;rw[fh,fh,fh]
 grind
theorem Sj(hB:1<=B)(hq:1<=q)(b:AB):Br (B*q) (sB (T*q) b)=Cd ((T:Rat) / (B:Rat)) b:=by
 unfold Br Cd;show [((T*q*b.l:Int):Rat) / ((B*q:Int):Rat),((T*q*b.d:Int):Rat) / ((B*q:Int):Rat),((T*q*b.r:Int):Rat) / ((B*q:Int):Rat),((T*q*b.u:Int):Rat) / ((B*q:Int):Rat)]=_;rw[HM hB hq,HM hB hq,HM hB hq,HM hB hq];rfl
theorem TQ(hB:1<=B)(W i:Int):((T*W*i:Int):Rat) / ((B*12:Int):Rat)=(T:Rat) / (B:Rat)*(((W*i:Int):Rat) / ((12:Int):Rat)):=by
 have h1:=Fm hB;have h2:=Fm (show(1:Int)<=12 by decide);rw[fh,fh,fh,fh]
 grind
theorem JJ(hB:1<=B)(e:Int):((T*e:Int):Rat) / (B:Rat)=(T:Rat) / (B:Rat)*(e:Rat):=by
 have:=HM (T:=T) hB (q:=1) (by decide) e
 rwa [Int.mul_one,Int.mul_one] at this
end
theorem U6{w h:Int}{bs:List AB}(t:BH w h bs):IQ w h bs:=λx y a b c d=>by
 have:=t.one x y a b c d
 exact List.countP_pos_iff.mp (by omega)
theorem XM{w h:Int}{bs:List AB}(t:BH w h bs)(tb:∀b∈bs,tB b):He bs:=λi j b c hb hc ne z=>by
 have h1:=tb b (cq hb);have h2:=tb c (cq hc);have ov:CZ b c=true:=GL.mpr ⟨h1.1,z.1,z.2.1,h2.1,h1.2,z.2.2.1,z.2.2.2,h2.2⟩;have ov':CZ c b=true:=GL.mpr ⟨h2.1,z.2.1,z.1,h1.1,h2.2,z.2.2.2,z.2.2.1,h1.2⟩;obtain⟨x1,y1⟩:=cm.mp hb;obtain⟨x2,y2⟩:=cm.mp hc;have pw:=cY.mp t.R0.nov;rcases eQ i j with x | x | x
 ·have:=pw i j x1 x2 x
  rw[y1,y2,ov] at this; cases this
 ·exact ne x
 ·have:=pw j i x2 x1 x
  rw[y1,y2,ov'] at this; cases this
section
variable {W U T B:Int} {bs:List AB} {pts:List Pt} {rows:List (List Rat)}
theorem Bt.LD(bt:Bt W U bs)(W1:1<=W)(U1:1<=U):Gr W U bs:=⟨by omega,by omega,λb hb=>by
 have i:=bt.t.inn b hb;have t:=bt.b b hb;unfold CD at i;omega⟩
theorem X1(bt:Bt W U bs)(W1:1<=W)(W2:W<=200)(U1:1<=U)(U2:U<=200)(T0:1<=T)(T9:T<=9999)(B0:1<=B)(hpt:∀p∈pts,Jj W U ((T:Rat) / (B:Rat)) p)(hI:EZ (pts.map EY) (bs.map (Cd ((T:Rat) / (B:Rat)))) rows):
  ∃cs:List AB,rows=cs.map (Br (B*12))/\BH (T*12*W) (T*12*U) cs/\∀c∈cs,(0<=c.l/\c.l<=T*12*W)/\(0<=c.d/\c.d<=T*12*U)/\(0<=c.r/\c.r<=T*12*W)/\(0<=c.u/\c.u<=T*12*U):=by
 have m0:0<T*12:=by omega
 have inn:∀{cs:List AB},BH (T*12*W) (T*12*U) cs->∀c∈cs,(0<=c.l/\c.l<=T*12*W)/\(0<=c.d/\c.d<=T*12*U)/\(0<=c.r/\c.r<=T*12*W)/\(0<=c.u/\c.u<=T*12*U):=λt c hc=>by
  have i:=t.inn c hc;have o:=t.ok c hc;unfold CD at i;unfold DG at o;omega
 have main:=hI.t (λrows=>∃cs:List AB,rows=cs.map (Br (B*12))/\BH (T*12*W) (T*12*U) cs) ?_ ?_
 ·obtain⟨cs,h1,h2⟩:=main;exact⟨cs,h1,h2,inn h2⟩
 ·refine⟨bs.map (sB (T*12)),?_,ZC m0 bt.t bt.b⟩;rw[fg];exact fG λb _=>(Sj B0 (by decide) b).symm
 ·rintro rows k r ⟨cs,rfl,t⟩ hr;obtain⟨p,hp,rfl⟩:=cT.mp hr;obtain⟨_,⟨i,i0,i1,ex⟩,⟨j,j0,j1,ey⟩⟩:=hpt p hp;have b1:0<=T*W*i:=fC (fC (by omega) (by omega)) i0;have b2:T*W*i<=T*12*W:=by
   have:=Int.mul_le_mul_of_nonneg_left i1 (show 0<=T*W from fC (by omega) (by omega))
   have e:T*12*W=T*W*12:=by rw[Int.mul_assoc,fX 12 W,<-Int.mul_assoc]
   omega
  have c1:0<=T*U*j:=fC (fC (by omega) (by omega)) j0;have c2:T*U*j<=T*12*U:=by
   have:=Int.mul_le_mul_of_nonneg_left j1 (show 0<=T*U from fC (by omega) (by omega))
   have e:T*12*U=T*U*12:=by rw[Int.mul_assoc,fX 12 U,<-Int.mul_assoc]
   omega
  refine⟨cs.take k++(T*W*i,T*U*j,T*W*i,T*U*j) :: cs.drop k,?_,?_⟩
  ·rw[dh,eJ,List.map_take,List.map_drop];have e:EY p=Br (B*12) (T*W*i,T*U*j,T*W*i,T*U*j):=by
    unfold EY Br;show _=[((T*W*i:Int):Rat) / ((B*12:Int):Rat),((T*U*j:Int):Rat) / ((B*12:Int):Rat),((T*W*i:Int):Rat) / ((B*12:Int):Rat),((T*U*j:Int):Rat) / ((B*12:Int):Rat)];rw[TQ B0,TQ B0,ex,ey]
   rw[e]
  ·have:=BH.more (A:=cs.take k) (B:=cs.drop k) (q:=(T*W*i,T*U*j,T*W*i,T*U*j)) (by rw[fL]; exact t) rfl rfl (by
    unfold CD;show 0<=T*W*i/\_;refine⟨b1,?_⟩;show 0<=T*U*j/\T*W*i<=_/\T*U*j<=_;exact⟨c1,b2,c2⟩)
   rw[List.append_assoc] at this;exact this
end
section
variable {W U T B:Int} {bs:List AB} {pts:List Pt} {rows:List (List Rat)}
theorem Zy{b:AB}(T0:1<=T)(B0:1<=B)(h:tB b):Di (Cd ((T:Rat) / (B:Rat)) b)=false:=by
 have e:Di (Cd ((T:Rat) / (B:Rat)) b)=(decide ((T:Rat) / (B:Rat)*(b.l:Rat)=(T:Rat) / (B:Rat)*(b.r:Rat)) && decide ((T:Rat) / (B:Rat)*(b.d:Rat)=(T:Rat) / (B:Rat)*(b.u:Rat))):=rfl;rw[e,decide_eq_false (λz=>?_),Bool.false_and];have h1:=Fm T0;have h2:=Fm B0;have z:(b.l:Rat)=(b.r:Rat):=by grind
 have z:b.l=b.r:=by exact_mod_cast z
 have:=h.1
 omega
theorem YN(bt:Bt W U bs)(T0:1<=T)(B0:1<=B)(hI:EZ (pts.map EY) (bs.map (Cd ((T:Rat) / (B:Rat)))) rows):Ba rows=(bs.map (sB T)).map (Br B):=by
 have e:Ba rows=bs.map (Cd ((T:Rat) / (B:Rat))):=by
  refine hI.f.trans (List.filter_eq_self.mpr λr hr=>?_);obtain⟨b,hb,rfl⟩:=cT.mp hr;rw[Zy T0 B0 (bt.b b hb)]; rfl
 rw[e,fg];refine fG λb _=>?_
 have:=Sj (T:=T) B0 (q:=1) (by decide) b
 rw[Int.mul_one,Int.mul_one] at this;exact this.symm
def gU(T B C:Int)(e:Int):Int:=fK B C (T*e)
theorem aE{C:Int}(T0:1<=T)(s:Sc (fK B C) (dK B C)):Sc (gU T B C) (λe=>dK B C (T*e)):=by
 refine⟨λa b ha hb=>?_,by rw[Int.mul_zero]; exact s.z,by unfold gU; rw[Int.mul_zero]; exact s.f0⟩
 have:=s.lt _ _ ha hb
 unfold gU;rw[<-this];exact⟨λh=>Int.mul_lt_mul_of_pos_left h (by omega),λh=>Int.lt_of_mul_lt_mul_left h (by omega)⟩
theorem Gi{e:Int}(T0:1<=T)(T9:T<=9999)(h0:0<=e)(h1:e<=200):(T*e).natAbs<=2 ^ 64:=by
 have a:0<=T*e:=fC (by omega) h0;have b:T*e<=9999*200:=Int.mul_le_mul T9 h1 h0 (by decide);exact dg (show(T*e).natAbs<=1999800 by omega) (by decide)
theorem X2{g:Int->Int}{lam:Rat}{M R:List Int}(hl:lam≠0)(hg:∀b∈bs,((g b.l:Int):Rat)=lam*(b.l:Rat)/\((g b.d:Int):Rat)=lam*(b.d:Rat)/\((g b.r:Int):Rat)=lam*(b.r:Rat)/\((g b.u:Int):Rat)=lam*(b.u:Rat)):BZ M R (bs.map (BC g))=BZ M R bs:=by
 unfold BZ;rw[cf];refine fG λk hk=>?_
 have hk:=cZ.mp hk;unfold Gu;have e:(bs.map (BC g)).getD k (0,0,0,0)=BC g (bs.getD k (0,0,0,0)):=by
  rw[cw,cu,B6 hk]; rfl
 rw[e];obtain⟨h1,h2,h3,h4⟩:=hg _ (cq (B6 hk));generalize bs.getD k (0,0,0,0)=b at *;show(_,_,((g b.r-g b.l:Int):Rat) / ((g b.u-g b.d:Int):Rat))=_;have q:((g b.r-g b.l:Int):Rat) / ((g b.u-g b.d:Int):Rat)=((b.r-b.l:Int):Rat) / ((b.u-b.d:Int):Rat):=by
  rw[Rat.intCast_sub,Rat.intCast_sub,Rat.intCast_sub,Rat.intCast_sub,h1,h2,h3,h4];by_cases z:(b.u:Rat)-(b.d:Rat)=0
  ·have z2:lam*(b.u:Rat)-lam*(b.d:Rat)=0:=by grind
   rw[z,z2]; simp[Rat.div_def]
  ·grind
 rw[q]
theorem Xk{x y:Int}(h1:x.natAbs<=2 ^ (64+1952))(h2:y.natAbs<=2 ^ (64+1952)):BV (x-y):=by
 refine DE (n:=64+1952+1) ?_ (by decide);rw[Nat.pow_succ];generalize 2 ^ (64+1952)=z at h1 h2;omega
theorem ZL(W U:Int)(bs:List AB)(T B:Int)(pts:List Pt)(rows:List (List Rat))(bt:Bt W U bs)(W1:1<=W)(W2:W<=200)(U1:1<=U)(U2:U<=200)(T0:1<=T)(T9:T<=9999)(B0:1<=B)(B9:B<=999)(n3:pts.length<=3)(hpt:∀p∈pts,Jj W U ((T:Rat) / (B:Rat)) p)(hI:EZ (pts.map EY) (bs.map (Cd ((T:Rat) / (B:Rat)))) rows):TB W U bs ((T:Rat) / (B:Rat)) rows:=by
 have F:=bt.LD W1 U1;have n14:=bt.m;have Dj:=XM bt.t bt.b;have bd:∀b∈bs,(0<=b.l/\b.l<=200)/\(0<=b.d/\b.d<=200)/\(0<=b.r/\b.r<=200)/\(0<=b.u/\b.u<=200):=λb hb=>Bt.bd bt W2 U2 hb
 obtain⟨cs,ec,tc,hc⟩:=X1 bt W1 W2 U1 U2 T0 T9 B0 hpt hI;have mW:T*12*W<=23997600:=Int.le_trans (Int.mul_le_mul (show T*12<=119988 by omega) W2 (by omega) (by decide)) (by decide);have mU:T*12*U<=23997600:=Int.le_trans (Int.mul_le_mul (show T*12<=119988 by omega) U2 (by omega) (by decide)) (by decide);have pW:0<T*12*W:=Int.mul_pos (by omega) (by omega);have pU:0<T*12*U:=Int.mul_pos (by omega) (by omega);have sml:∀z:Int,0<=z->z<=23997600->z.natAbs<=2 ^ 64:=λz h0 h1=>dg (show z.natAbs<=23997600 by omega) (by decide)
 have lcs:cs.length<=30:=by
  have:=hI.l
  rw[ec,cf,cf,cf] at this;omega
 have LF:CW (B*12) (T*12*W) (T*12*U) cs:=⟨by omega,by omega,lcs,sml _ (by omega) mW,sml _ (by omega) mU,λc h=>by
  obtain⟨h1,h2,h3,h4⟩:=hc c h;exact⟨sml _ h1.1 (by omega),sml _ h2.1 (by omega),sml _ h3.1 (by omega),sml _ h4.1 (by omega)⟩⟩
 have lk:=LF.lk;have cov:=Xt LF pW pU (c:=true) ⟨λ_=>⟨tc.R0,U6 tc⟩,λ_=>rfl⟩;rw[HM B0 (by decide),HM B0 (by decide),<-ec] at lk cov;have es:=YN bt T0 B0 hI;have LU:CW B (T*W) (T*U) (bs.map (sB T)):=⟨B0,by omega,by rw[cf]; omega,Gi T0 T9 (by omega) W2,Gi T0 T9 (by omega) U2,λc h=>by
  obtain⟨b,hb,rfl⟩:=cT.mp h;obtain⟨h1,h2,h3,h4⟩:=bd b hb;exact⟨Gi T0 T9 h1.1 h1.2,Gi T0 T9 h2.1 h2.2,Gi T0 T9 h3.1 h3.2,Gi T0 T9 h4.1 h4.2⟩⟩
 obtain⟨C,hC⟩:∃C,C=C1 B (T*W) (T*U) (bs.map (sB T)):=⟨_,rfl⟩;have eC:cb (nums ((T:Rat) / (B:Rat)*(W:Rat)) ((T:Rat) / (B:Rat)*(U:Rat)) (Ba rows))=C:=by
  rw[es,hC,C1,JJ B0,JJ B0]
 have sc:=aE T0 (hC ▸ LU.sc);have dW:=hC ▸ LU.dW;have dU:=hC ▸ LU.dU;have dB:=LU.dB;rw[<-hC] at dB;have dB':∀b∈bs,DB (λe=>dK B C (T*e)) b:=λb hb=>dB (sB T b) (cT.mpr ⟨b,hb,rfl⟩)
 have X:CI (gU T B C) (λe=>dK B C (T*e)) W U bs:=⟨sc,dW,dU,dB'⟩;have eb:Cr C (Ba rows)=bs.map (BC (gU T B C)):=by
  rw[es,OG,fg]; rfl
 have eW:wh C ((T:Rat) / (B:Rat)*(W:Rat))=gU T B C W:=by unfold gU fK; rw[JJ B0]
 have eU:wh C ((T:Rat) / (B:Rat)*(U:Rat))=gU T B C U:=by unfold gU fK; rw[JJ B0]
 have Cp:0<C:=hC ▸ LU.To;have hg:∀e,dK B C (T*e)->((gU T B C e:Int):Rat)=(C:Rat)*((T:Rat) / (B:Rat))*(e:Rat):=λe h=>by
  unfold gU;rw[ML h,JJ B0]; grind
 have lam:(C:Rat)*((T:Rat) / (B:Rat))≠0:=by
  have h1:=Fm T0;have h2:=Fm B0;have h3:=Fm (show 1<=C by omega);intro z
  grind
 have rp:∀M R,BZ M R (bs.map (BC (gU T B C)))=BZ M R bs:=λM R=>X2 lam λb hb=>by
  obtain⟨h1,h2,h3,h4⟩:=dB' b hb;exact⟨hg _ h1,hg _ h2,hg _ h3,hg _ h4⟩
 have en:∀M R,CK M R (bs.map (BC (gU T B C))).length=CK M R bs.length:=λM R=>by rw[cf]
 refine⟨lk,cov,by rw[es,cf,cf]; exact n14,?_,λM R mk od=>?_,?_⟩
 ·rw[eC,eb,eW,eU];intro L pL rL;refine Xy (X.LD F) (λb hb=>?_) pL rL;obtain⟨b,hb',rfl⟩:=cT.mp hb;obtain⟨_,d2,_,d4⟩:=dB' b hb';obtain⟨_,h2,_,h4⟩:=bd b hb';have cB:C.natAbs<=2 ^ 1952:=by rw[hC]; exact LU.lk.cb.2.2
  have w1:=SE (b:=C) (q:=((T*b.u:Int):Rat) / (B:Rat)) d4 (Ek B0 (by omega) (Gi T0 T9 h4.1 h4.2)).2 cB;have w2:=SE (b:=C) (q:=((T*b.d:Int):Rat) / (B:Rat)) d2 (Ek B0 (by omega) (Gi T0 T9 h2.1 h2.2)).2 cB;exact Xk (x:=gU T B C b.u) (y:=gU T B C b.d) w1 w2
 ·obtain⟨L,pL,rL⟩:=We W U bs;have A:All W U bs L M R:=⟨F,pL,rL,mk,od⟩;refine⟨?_,λpl p hp o=>A.JY o.pm hp⟩
  have:=A.len
  have fl:(Ay L).length<=([]:List Sd).length+L.length:=J6 L [];have ll:=pL.length_eq;rw[CC,cX,KI] at ll;have ll:L.length=2+2*bs.length:=ll;rw[List.length_nil] at fl;omega
 ·rw[eC,eb,eW,eU];intro L p M R ts pL rL op du;have A:All (gU T B C W) (gU T B C U) (bs.map (BC (gU T B C))) L M R:=⟨X.LD F,pL,rL,X.mk' du.ms,X.od du.od⟩;refine⟨by rw[A.Bx,cf]; rfl,A.Rt.trans (rp M R),?_⟩;rw[<-rp M R];refine A.Zl (X.dj Dj) op du.ln λpl t h=>?_
  obtain⟨p',o,e⟩:=du.tn pl t h;refine⟨p',X.ol o,?_⟩;rw[cf];exact e
end
end My
namespace My
open PySem L2 Mth
section
variable {K:PySem.W.Frag} {x qn:Str} {st:Stmt} {f C:Addr} {oc kV doc pm cdv ct:Value} {od an:Option Addr} {osl:Array (Option Value)} {fd:FuncData} {ps:List Str}
structure Dq(K:PySem.W.Frag)(x:Str)(st:Stmt)(ps:List Str)(f:Addr)(fd:FuncData):Prop where
 F:Fun K x x st f fd
 b:Af K fd ps []
 a:PySem.W.nsIn K mainGlobals x=some (some (.ref f))
theorem Dq.all{h:Heap}{mg:Str->Option Value}(d:Dq K x st ps f fd)(X:K.In h)(G:h.Ns mainGlobals mg):Fun K x x st f fd/\Af K fd ps []/\PySem.W.keepIn K (.ref f)=true/\mg x=some (.ref f):=⟨d.F,d.b,d.F.kp,PySem.W.mg_of X G d.a⟩
theorem dq (a:PySem.W.nsIn K mainGlobals x=some (some (.ref f))) (l:K.lookup f=some ⟨oc,od,.func (PySem.W.fnOf x x (FH st) (EF st) (Ah st) .none kV doc pm an cdv ct),osl⟩) (c:PySem.W.codeIn K cdv x=true) (k:PySem.W.keepIn K (.ref f)=true)
  (b:∀{fd},Fun K x x st f fd->Af K fd ps []):Dq K x st ps f (PySem.W.fnOf x x (FH st) (EF st) (Ah st) .none kV doc pm an cdv ct):=⟨RI l c k,b (RI l c k),a⟩
theorem bn1(st:Stmt)(x qn:Str){p0:Str}(h:∀(kV doc pm:Value) (an:Option Addr) (cdv ct a0:Value),bindArgs (PySem.W.fnOf x qn (FH st) (EF st) (Ah st) .none kV doc pm an cdv ct) ⟨[a0],[]⟩=pure [(p0,a0)]:=by intros; rfl)(F:Fun K x qn st f fd):Af K fd [p0] []:=F.binds λkV doc pm an cdv ct us hl=>by
 match us,hl with
 | [a0],_=>exact h kV doc pm an cdv ct a0
theorem bn2(st:Stmt)(x qn:Str){p0 p1:Str}(h:∀(kV doc pm:Value) (an:Option Addr) (cdv ct a0 a1:Value),bindArgs (PySem.W.fnOf x qn (FH st) (EF st) (Ah st) .none kV doc pm an cdv ct) ⟨[a0,a1],[]⟩=pure [(p0,a0),(p1,a1)]:=by intros; rfl)(F:Fun K x qn st f fd):Af K fd [p0,p1] []:=F.binds λkV doc pm an cdv ct us hl=>by
 match us,hl with
 | [a0,a1],_=>exact h kV doc pm an cdv ct a0 a1
theorem bn3(st:Stmt)(x qn:Str){p0 p1 p2:Str}(h:∀(kV doc pm:Value) (an:Option Addr) (cdv ct a0 a1 a2:Value),bindArgs (PySem.W.fnOf x qn (FH st) (EF st) (Ah st) .none kV doc pm an cdv ct) ⟨[a0,a1,a2],[]⟩=pure [(p0,a0),(p1,a1),(p2,a2)]:=by intros; rfl)(F:Fun K x qn st f fd):Af K fd [p0,p1,p2] []:=F.binds λkV doc pm an cdv ct us hl=>by
 match us,hl with
 | [a0,a1,a2],_=>exact h kV doc pm an cdv ct a0 a1 a2
theorem bn4(st:Stmt)(x qn:Str){p0 p1 p2 p3:Str}(h:∀(kV doc pm:Value) (an:Option Addr) (cdv ct a0 a1 a2 a3:Value),bindArgs (PySem.W.fnOf x qn (FH st) (EF st) (Ah st) .none kV doc pm an cdv ct) ⟨[a0,a1,a2,a3],[]⟩=pure [(p0,a0),(p1,a1),(p2,a2),(p3,a3)]:=by intros; rfl)(F:Fun K x qn st f fd):Af K fd [p0,p1,p2,p3] []:=F.binds λkV doc pm an cdv ct us hl=>by
 match us,hl with
 | [a0,a1,a2,a3],_=>exact h kV doc pm an cdv ct a0 a1 a2 a3
structure Qk(fd:FuncData)(c:Addr):Prop where
 e:fd.code=.ref c
structure Zq(K:PySem.W.Frag)(x:Str):Prop where
 a:PySem.W.nsIn K mainGlobals x=some none
end
set_option maxHeartbeats 4000000 in
theorem all_mk {l:PySem.W.OpenLaw} {w:World} {K:PySem.W.Frag} {h:Heap} {mg:Str->Option Value} {fa CF T1 T2 c1 c2 f1 f2 f3 f4 f5 f6 f7 f8 f9 f10 f11 f12 f13 f14 f15 f16 f17 f18 f19 f20 f21 f22 f23 f24 f25 f26 f27 f28 f29 f30 f31 f32 f33 f34 f35 f36 f37 f38 f39 f40 f41 f42 f43 f44 f45 f46:Addr} {d1 d2 d3 d4 d5 d6 d7 d8 d9 d10 d11 d12 d13 d14 d15 d16 d17 d18 d19 d20 d21 d22 d23 d24 d25 d26 d27 d28 d29 d30 d31 d32 d33 d34 d35 d36 d37 d38 d39 d40 d41 d42 d43 d44 d45 d46:FuncData} (X:K.In h) (G:h.Ns mainGlobals mg) (hfa:mg "law" = some (.ref fa))
  (aCF:PySem.W.nsIn K mainGlobals "FloorError" = some (some (.ref CF)))
  (h1:Dq K "common_part" sCommon ["one","other"] f1 d1)
  (h2:Dq K "fraction" sFraction ["top","bottom"] f2 d2)
  (h3:Dq K "common_bottom" sCBot ["row"] f3 d3)
  (h4:Dq K "wholes" sWholes ["row","bottom"] f4 d4)
  (h5:Dq K "is_point" s_is_point ["rectangle"] f5 d5)
  (h6:Dq K "without_points" s_without_points ["floor"] f6 d6)
  (h7:Dq K "numbers_of" s_numbers_of ["floor"] f7 d7)
  (h8:Dq K "whole_floor" s_whole_floor ["floor","bottom"] f8 d8)
  (h9:Dq K "is_neither" s_is_neither ["rectangle"] f9 d9)
  (h10:Dq K "is_out" s_is_out ["rectangle","width","height"] f10 d10)
  (h11:Dq K "overlap" s_overlap ["one","other"] f11 d11)
  (h12:Dq K "first_overlap" s_first_overlap ["rectangles"] f12 d12)
  (h13:Dq K "borders" s_borders ["rectangles","at","most"] f13 d13)
  (h14:Dq K "covered_cells" s_covered_cells ["columns","rows","rectangles"] f14 d14)
  (h15:Dq K "first_gap" s_first_gap ["width","height","rectangles"] f15 d15)
  (h16:Dq K "looked_whole" s_looked_whole ["width","height","rectangles"] f16 d16)
  (h17:Dq K "looked" s_looked ["floor"] f17 d17)
  (h18:Dq K "check_covers" s_check_covers ["floor"] f18 d18)
  (h19:Dq K "begun_least" s_begun_least ["turn"] f19 d19)
  (h20:Dq K "told_turns" s_told_turns ["turns"] f20 d20)
  (h21:Dq K "level_sides" s_level_sides ["width","height","rectangles"] f21 d21)
  (h22:Dq K "lines_of" s_lines_of ["sides"] f22 d22)
  (h23:Dq K "placed" s_placed ["lines"] f23 d23)
  (h24:Dq K "place_at" s_place_at ["lines","level","x"] f24 d24)
  (h25:Dq K "rope_of" s_rope_of ["lines","rectangle"] f25 d25)
  (h26:Dq K "turns_of" s_turns_of ["places","ropes","lefts"] f26 d26)
  (h27:Dq K "net_of" s_net_of ["floor"] f27 d27)
  (h28:Dq K "_law_cell" sCellAt ["_law_script","_law_k"] f28 d28)
  (h29:Dq K "_law_low" sLow ["_law_top","_law_bottom"] f29 d29)
  (h30:Dq K "_law_mul" sLMul ["_law_one","_law_other"] f30 d30)
  (h31:Dq K "_law_whole" s_law_whole ["_law_found"] f31 d31)
  (h32:Dq K "_law_fraction" s_law_fraction ["_law_found"] f32 d32)
  (h33:Dq K "_law_across" s_law_across ["_law_box","_law_cell_here"] f33 d33)
  (h34:Dq K "_law_down" s_law_down ["_law_box","_law_cell_here"] f34 d34)
  (h35:Dq K "_law_wheel" s_law_wheel ["_law_box","_law_cell_here"] f35 d35)
  (h36:Dq K "_law_cut" s_law_cut ["_law_boxes_here","_law_cell_here","_law_most"] f36 d36)
  (h37:Dq K "_law_boxes" s_law_boxes ["_law_script","_law_first","_law_most"] f37 d37)
  (h38:Dq K "_law_share" s_law_share ["_law_cell_here"] f38 d38)
  (h39:Dq K "_law_scaled" s_law_scaled ["_law_built","_law_share_here","_law_points_here"] f39 d39)
  (h40:Dq K "_law_points" s_law_points ["_law_script","_law_first","_law_built","_law_share_here"] f40 d40)
  (h41:Dq K "_law_lines" s_law_lines ["_law_built"] f41 d41)
  (h42:Dq K "_law_order" s_law_order ["_law_sides","_law_marks"] f42 d42)
  (h43:Dq K "_law_turn" s_law_turn ["_law_place","_law_ends","_law_boxes_here"] f43 d43)
  (h44:Dq K "_law_due" s_law_due ["_law_built"] f44 d44)
  (h45:Dq K "_law_kinds" s_law_kinds ["_law_found","_law_due_here"] f45 d45)
  (h46:Dq K "law" sLaw ["_law_script"] f46 d46)
  (xc1:Qk d21 c1)
  (xc2:Qk d26 c2)
  (xk1:K.lookup T1=none)
  (xk2:K.lookup T2=none)
  (xh1:PySem.W.codeHdIn K c1 T1=true)
  (xh2:PySem.W.codeHdIn K c2 T2=true)
  (z_abs:Zq K "abs")
  (z_len:Zq K "len")
  (z_range:Zq K "range")
  (z_list:Zq K "list")
  (z_tuple:Zq K "tuple")
  (z_isinstance:Zq K "isinstance")
  (z_int:Zq K "int")
  (z_bool:Zq K "bool")
  (z_all:Zq K "all")
  (z_min:Zq K "min")
  (z_max:Zq K "max")
  (z_enumerate:Zq K "enumerate")
  (z_set:Zq K "set")
  (z_sorted:Zq K "sorted")
  (z_reversed:Zq K "reversed")
  (z_zip:Zq K "zip")
  : ∃fd:FuncData,(∀(s:Shared) (v:Value),BindsTo s fd ⟨[v],[]⟩ [("_law_script",v)])/\(∀T∈[T2,T1],K.lookup T=none/\∃c,PySem.W.codeHdIn K c T=true)/\∀base:Heap,K.In base->base.Ns mainGlobals mg->EN mg base->AL l.prog w K mg base AK 8 fa fd ["_law_script"] (Kp K T1 T2):=by
 have e:=hfa.symm.trans (PySem.W.mg_of X G h46.a);cases e;have ⟨F1,b1,k1,m1⟩:=h1.all X G;have ⟨F2,b2,k2,m2⟩:=h2.all X G;have ⟨F3,b3,k3,m3⟩:=h3.all X G;have ⟨F4,b4,k4,m4⟩:=h4.all X G;have ⟨F5,b5,k5,m5⟩:=h5.all X G;have ⟨F6,b6,k6,m6⟩:=h6.all X G;have ⟨F7,b7,k7,m7⟩:=h7.all X G;have ⟨F8,b8,k8,m8⟩:=h8.all X G;have ⟨F9,b9,k9,m9⟩:=h9.all X G;have ⟨F10,b10,k10,m10⟩:=h10.all X G;have ⟨F11,b11,k11,m11⟩:=h11.all X G;have ⟨F12,b12,k12,m12⟩:=h12.all X G;have ⟨F13,b13,k13,m13⟩:=h13.all X G;have ⟨F14,b14,k14,m14⟩:=h14.all X G;have ⟨F15,b15,k15,m15⟩:=h15.all X G;have ⟨F16,b16,k16,m16⟩:=h16.all X G;have ⟨F17,b17,k17,m17⟩:=h17.all X G;have ⟨F18,b18,k18,m18⟩:=h18.all X G;have ⟨F19,b19,k19,m19⟩:=h19.all X G;have ⟨F20,b20,k20,m20⟩:=h20.all X G;have ⟨F21,b21,k21,m21⟩:=h21.all X G;have ⟨F22,b22,k22,m22⟩:=h22.all X G;have ⟨F23,b23,k23,m23⟩:=h23.all X G;have ⟨F24,b24,k24,m24⟩:=h24.all X G;have ⟨F25,b25,k25,m25⟩:=h25.all X G;have ⟨F26,b26,k26,m26⟩:=h26.all X G;have ⟨F27,b27,k27,m27⟩:=h27.all X G;have ⟨F28,b28,k28,m28⟩:=h28.all X G;have ⟨F29,b29,k29,m29⟩:=h29.all X G;have ⟨F30,b30,k30,m30⟩:=h30.all X G;have ⟨F31,b31,k31,m31⟩:=h31.all X G;have ⟨F32,b32,k32,m32⟩:=h32.all X G;have ⟨F33,b33,k33,m33⟩:=h33.all X G;have ⟨F34,b34,k34,m34⟩:=h34.all X G;have ⟨F35,b35,k35,m35⟩:=h35.all X G;have ⟨F36,b36,k36,m36⟩:=h36.all X G;have ⟨F37,b37,k37,m37⟩:=h37.all X G;have ⟨F38,b38,k38,m38⟩:=h38.all X G;have ⟨F39,b39,k39,m39⟩:=h39.all X G;have ⟨F40,b40,k40,m40⟩:=h40.all X G;have ⟨F41,b41,k41,m41⟩:=h41.all X G;have ⟨F42,b42,k42,m42⟩:=h42.all X G;have ⟨F43,b43,k43,m43⟩:=h43.all X G;have ⟨F44,b44,k44,m44⟩:=h44.all X G;have ⟨F45,b45,k45,m45⟩:=h45.all X G;have ⟨F46,b46,k46,m46⟩:=h46.all X G;have mCF:=PySem.W.mg_of X G aCF;have m_abs:=dP X G z_abs.a;have m_len:=dP X G z_len.a;have m_range:=dP X G z_range.a;have m_list:=dP X G z_list.a;have m_tuple:=dP X G z_tuple.a;have m_isinstance:=dP X G z_isinstance.a;have m_int:=dP X G z_int.a;have m_bool:=dP X G z_bool.a;have m_all:=dP X G z_all.a;have m_min:=dP X G z_min.a;have m_max:=dP X G z_max.a;have m_enumerate:=dP X G z_enumerate.a;have m_set:=dP X G z_set.a;have m_sorted:=dP X G z_sorted.a;have m_reversed:=dP X G z_reversed.a;have m_zip:=dP X G z_zip.a;refine⟨d46,λs v=>by obtain⟨_,_,_,_,_,_,_,_,_,rfl,_⟩:=F46.ex; exact .of_eq rfl,λT hT=>by
  simp only[cP,de,or_false] at hT;rcases hT with rfl | rfl
  ·exact⟨xk2,_,xh2⟩
  ·exact⟨xk1,_,xh1⟩,λbase X' _ hB=>?_⟩
 have hC1:=PySem.W.codeHd_of_K X' xh1;have hC2:=PySem.W.codeHd_of_K X' xh2;have O1:AL l.prog w K mg base AK 1 f1 _ ["one","other"] Kw:=Vm F1   m_abs;have O2:AL l.prog w K mg base AK 2 f2 _ ["top","bottom"] (JC CF):=UI F2  O1 b1 k1 m1;have O3:AL l.prog w K mg base AK 2 f3 _ ["row"] Kt:=Ws F3  O1 b1 k1 m1;have O4:AL l.prog w K mg base AK 1 f4 _ ["row","bottom"] J7:=Vj F4;have O5:AL l.prog w K mg base AK 1 f5 _ ["rectangle"] Kv:=Yo F5;have O6:AL l.prog w K mg base AK 2 f6 _ ["floor"] NP:=Z2 F6  O5 b5 k5 m5 m_tuple;have O7:AL l.prog w K mg base AK 1 f7 _ ["floor"] Ki:=Xn F7   m_list;have O8:AL l.prog w K mg base AK 2 f8 _ ["floor","bottom"] LC:=aN F8  O4 b4 k4 m4;have O9:AL l.prog w K mg base AK 1 f9 _ ["rectangle"] NB:=Zp F9;have O10:AL l.prog w K mg base AK 1 f10 _ ["rectangle","width","height"] MX:=Yk F10;have O11:AL l.prog w K mg base AK 1 f11 _ ["one","other"] NN:=aR F11   m_max m_min;have O12:AL l.prog w K mg base AK 2 f12 _ ["rectangles"] Me:=aL F12  O11 b11 k11 m11 m_enumerate m_range m_len;have O13:AL l.prog w K mg base AK 1 f13 _ ["rectangles","at","most"] Mr:=Zw F13   m_set m_sorted;have O14:AL l.prog w K mg base AK 1 f14 _ ["columns","rows","rectangles"] MY:=YM F14   m_range;have O15:AL l.prog w K mg base AK 2 f15 _ ["width","height","rectangles"] NL:=Zi F15  O13 b13 k13 m13 O14 b14 k14 m14 m_range m_len;have O16:AL l.prog w K mg base AK 3 f16 _ ["width","height","rectangles"] Mz:=ZU F16  O9 b9 k9 m9 O10 b10 k10 m10 O12 b12 k12 m12 O15 b15 k15 m15 m_enumerate;have O17:AL l.prog w K mg base AK 4 f17 _ ["floor"] LB:=Vq F17  O7 b7 k7 m7 O2 b2 k2 m2 O3 b3 k3 m3 O16 b16 k16 m16 O8 b8 k8 m8 m_tuple;have O18:AL l.prog w K mg base AK 5 f18 _ ["floor"] MU:=Yq F18  O17 b17 k17 m17;have O19:AL l.prog w K mg base AK 1 f19 _ ["turn"] Ku:=YL F19   m_min;have O20:AL l.prog w K mg base AK 2 f20 _ ["turns"] Ly:=WA F20  O19 b19 k19 m19 m_tuple;have O21:AL l.prog w K mg base AK 5 f21 _ ["width","height","rectangles"] (M3 T1):=Zd F21 xc1.e hC1 hB  m_sorted;have O22:AL l.prog w K mg base AK 1 f22 _ ["sides"] M5:=Wv F22   m_max;have O23:AL l.prog w K mg base AK 1 f23 _ ["lines"] Mu:=Ux F23;have O24:AL l.prog w K mg base AK 1 f24 _ ["lines","level","x"] NA:=Uo F24   m_enumerate;have O25:AL l.prog w K mg base AK 3 f25 _ ["lines","rectangle"] K0:=Xc F25  O24 b24 k24 m24 O2 b2 k2 m2;have O26:AL l.prog w K mg base AK 6 f26 _ ["places","ropes","lefts"] (M8 T2):=W3 F26 xc2.e hC2 hB O20 b20 k20 m20 m_len m_range m_sorted m_zip m_tuple;have O27:AL l.prog w K mg base AK 7 f27 _ ["floor"] (NJ T1 T2):=ZT F27  O18 b18 k18 m18 O6 b6 k6 m6 O7 b7 k7 m7 O3 b3 k3 m3 O8 b8 k8 m8 O21 b21 k21 m21 O22 b22 k22 m22 O23 b23 k23 m23 O25 b25 k25 m25 O26 b26 k26 m26 m_len m_tuple;have O28:AL l.prog w K mg base AK 1 f28 _ ["_law_script","_law_k"] (Iy K):=XE F28   m_len;have O29:AL l.prog w K mg base AK 1 f29 _ ["_law_top","_law_bottom"] HG:=Y6 F29   m_abs;have O30:AL l.prog w K mg base AK 2 f30 _ ["_law_one","_law_other"] (JF λx y=>x*y):=Xr F30  O29 b29 k29 m29;have O31:AL l.prog w K mg base AK 1 f31 _ ["_law_found"] Ir:=Wf F31   m_isinstance m_int m_bool;have O32:AL l.prog w K mg base AK 2 f32 _ ["_law_found"] Lw:=WU F32  O29 b29 k29 m29 O31 b31 k31 m31 m_isinstance m_tuple m_len;have O33:AL l.prog w K mg base AK 1 f33 _ ["_law_box","_law_cell_here"] (IL λb=>1<b.u-b.d):=Vf F33;have O34:AL l.prog w K mg base AK 1 f34 _ ["_law_box","_law_cell_here"] (IL λb=>1<b.r-b.l):=XS F34;have O35:AL l.prog w K mg base AK 1 f35 _ ["_law_box","_law_cell_here"] Mn:=Wo F35;have O36:AL l.prog w K mg base AK 2 f36 _ ["_law_boxes_here","_law_cell_here","_law_most"] MV:=YY F36  O35 b35 k35 m35 O33 b33 k33 m33 O34 b34 k34 m34 m_len;have O37:AL l.prog w K mg base AK 3 f37 _ ["_law_script","_law_first","_law_most"] (NM K):=Zn F37  O28 b28 k28 m28 O36 b36 k36 m36 m_len m_min m_range;have O38:AL l.prog w K mg base AK 2 f38 _ ["_law_cell_here"] M9:=Zt F38  O29 b29 k29 m29;have O39:AL l.prog w K mg base AK 3 f39 _ ["_law_built","_law_share_here","_law_points_here"] (Mp K):=Zj F39  O30 b30 k30 m30 m_tuple m_len;have O40:AL l.prog w K mg base AK 3 f40 _ ["_law_script","_law_first","_law_built","_law_share_here"] (Ms K):=Zm F40  O28 b28 k28 m28 O30 b30 k30 m30 O29 b29 k29 m29 m_range;have O41:AL l.prog w K mg base AK 1 f41 _ ["_law_built"] M4:=Zu F41   m_range m_len m_list;have O42:AL l.prog w K mg base AK 1 f42 _ ["_law_sides","_law_marks"] NQ:=aS F42   m_range m_len m_set m_sorted m_min;have O43:AL l.prog w K mg base AK 1 f43 _ ["_law_place","_law_ends","_law_boxes_here"] Ky:=Zg F43   m_range m_len m_sorted m_min m_reversed m_tuple;have O44:AL l.prog w K mg base AK 2 f44 _ ["_law_built"] M7:=aQ F44  O41 b41 k41 m41 O42 b42 k42 m42 O43 b43 k43 m43 O29 b29 k29 m29 m_range m_len m_tuple;have O45:AL l.prog w K mg base AK 3 f45 _ ["_law_found","_law_due_here"] Mw:=ZO F45  O31 b31 k31 m31 O32 b32 k32 m32 m_isinstance m_tuple m_len m_all;exact Y9 ZL F46 O28 b28 k28 m28 O37 b37 k37 m37 O38 b38 k38 m38 O39 b39 k39 m39 O40 b40 k40 m40 O45 b45 k45 m45 O44 b44 k44 m44 O27 b27 k27 m27
theorem walk {l:PySem.W.OpenLaw} {q:Program} {loose:List Str} {XP:(Str->Option Value)->Heap->Prop} {YP:World->Heap->Prop} {d:DefRec} {K:Params->PySem.W.Frag} {T1 T2:Addr} (hn:l.most=some 63) (hdf:d.params.defaults=[])
  (hY:∀(w:World) (h:Heap),YP w h->(K w.params).In h/\∀T∈[T2,T1],h.get? T=some (PySem.W.tabObj #[])) (ne:T2≠T1)
  (F:∀(w:World) (mg:Str->Option Value) (fa:Addr) (h:Heap),(K w.params).In h->h.Ns mainGlobals mg->mg d.name=some (.ref fa) →
   ∃fd:FuncData,(∀(s:Shared) (u:Value),BindsTo s fd ⟨[u],[]⟩ [("_law_script",u)])/\(∀T∈[T2,T1],(K w.params).lookup T=none/\∃c,PySem.W.codeHdIn (K w.params) c T=true)/\∀base:Heap,(K w.params).In base->base.Ns mainGlobals mg->EN mg base->AL l.prog w (K w.params) mg base AK 8 fa fd ["_law_script"] (Kp (K w.params) T1 T2)) :
  PySem.W.WalkO q loose XP YP l.row.toRowW d [] (λf vs=>PySem.call f vs) :=
 L2.VP (n:=63) (k:=8) (x:="_law_script") (Ts:=[T2,T1]) (sp:=λw=>Kp (K w.params) T1 T2) hn (by decide) hdf ⟨rfl,by decide,by decide⟩ hY F λ_ _ a ns hl hT hS=>⟨a,ns,rfl,hS,hl,⟨[],hT T1 (by simp),λe he=>by cases he⟩,⟨[],hT T2 (by simp),λe he=>by cases he⟩,ne,λ_=>rfl⟩
end My
namespace PySem.W.Fast
theorem tw2082047740972567686:True:=trivial
theorem tw9750756523961445198:True:=trivial
theorem tw187855036203071421:True:=trivial
theorem tw13096477937890785110:True:=trivial
theorem tw17952097428861332582:True:=trivial
theorem tw1401179340302657688:True:=trivial
theorem tw16999854372934001573:True:=trivial
theorem tw13615089905961330775:True:=trivial
theorem tw17390639373183761446:True:=trivial
theorem tw3165912458142872505:True:=trivial
theorem tw17357656061829025572:True:=trivial
theorem tw3109476145111774324:True:=trivial
theorem tw3123794912961639206:True:=trivial
theorem tw18327434667676545108:True:=trivial
theorem tw3991044086926877633:True:=trivial
theorem tw10036396232843991260:True:=trivial
theorem tw16275083667817364862:True:=trivial
theorem tw17809345539787478512:True:=trivial
theorem tw7835759404005234803:True:=trivial
theorem tw144133763568220744:True:=trivial
theorem tw2986831968189863109:True:=trivial
theorem tw12753185384628995142:True:=trivial
theorem tw452824011571637451:True:=trivial
theorem tw16455835143486188129:True:=trivial
theorem tw14787108383323616379:True:=trivial
theorem tw16590388793829039228:True:=trivial
theorem tw16394706737224382366:True:=trivial
theorem tw4456513930780713919:True:=trivial
theorem tw9814889671486918788:True:=trivial
theorem tw8975848816601693203:True:=trivial
theorem tw10953374748633831791:True:=trivial
theorem tw1425993119638822569:True:=trivial
theorem tw2749062282728957354:True:=trivial
theorem tw14806914976865538663:True:=trivial
theorem tw7237074843417572113:True:=trivial
theorem tw1384640225445451149:True:=trivial
theorem tw10085357690176526290:True:=trivial
theorem tw11341458958051997331:True:=trivial
theorem tw1197414952838496290:True:=trivial
theorem tw2034182562118315369:True:=trivial
theorem tw269037284794919133:True:=trivial
theorem tw10824264100825227928:True:=trivial
theorem tw15074447065966553613:True:=trivial
theorem tw3459871509662116884:True:=trivial
theorem tw11532365106298119937:True:=trivial
theorem tw3381751729248875406:True:=trivial
theorem tw3317625524000973486:True:=trivial
theorem tw13011263569823222420:True:=trivial
theorem tw17969027394608963087:True:=trivial
theorem tw12124698338696942771:True:=trivial
theorem tw7549184792704621097:True:=trivial
theorem tw10136335220814381782:True:=trivial
theorem tw18422156356236600979:True:=trivial
theorem tw2577955023853082597:True:=trivial
theorem tw3457294360359865438:True:=trivial
theorem tw188675736448066069:True:=trivial
theorem tw1183067092477011687:True:=trivial
theorem tw15042334756528583262:True:=trivial
theorem tw10396838818948531580:True:=trivial
theorem tw15834065074698771142:True:=trivial
theorem tw13692930857142351333:True:=trivial
theorem tw11367029211481971787:True:=trivial
theorem tw5775838093167749682:True:=trivial
theorem tw1176281312533364056:True:=trivial
theorem tw3045321764927291478:True:=trivial
theorem tw15787010105470648460:True:=trivial
theorem tw3435364590819987797:True:=trivial
theorem tw8773291569032172466:True:=trivial
theorem tw4559611660327881672:True:=trivial
theorem tw13701978594255194169:True:=trivial
theorem tw2522890192597172090:True:=trivial
theorem tw3560755500689753803:True:=trivial
theorem tw15060744096849550803:True:=trivial
theorem tw1631567120341426312:True:=trivial
theorem tw12549057913549226629:True:=trivial
theorem tw15685166476143274246:True:=trivial
theorem tw2070526812949603653:True:=trivial
theorem tw15505901950322158881:True:=trivial
theorem tw3270161917312249954:True:=trivial
theorem tw9382388464379849621:True:=trivial
theorem tw503935390146033589:True:=trivial
theorem tw2344051346523435568:True:=trivial
theorem tw14928255590962767704:True:=trivial
theorem tw8356980544432444433:True:=trivial
theorem tw10371066001319332894:True:=trivial
theorem tw16694920383772374275:True:=trivial
theorem tw8519724112596517080:True:=trivial
theorem tw5181073251412227840:True:=trivial
theorem tw16052632202179949596:True:=trivial
theorem tw13728435654070001666:True:=trivial
theorem tw17587094652458337765:True:=trivial
theorem tw14988524614955069151:True:=trivial
theorem tw17169170760243555870:True:=trivial
theorem tw8922915709933446668:True:=trivial
theorem tw12993607294511682318:True:=trivial
theorem tw659060456847683504:True:=trivial
theorem tw10684370536839932705:True:=trivial
theorem tw1254664568151994320:True:=trivial
theorem tw6498430027943684119:True:=trivial
theorem tw13930815155982966518:True:=trivial
theorem tw16893209610954392766:True:=trivial
theorem tw5756857790020585511:True:=trivial
theorem te3562965283760129258:True:=trivial
theorem tw7211881311036951369:True:=trivial
theorem tw567553698023783671:True:=trivial
theorem tw12188737552085492641:True:=trivial
theorem tw14043194443801176329:True:=trivial
theorem tw18080495123200308137:True:=trivial
theorem tw7842914893874806764:True:=trivial
theorem tw9382129411692417424:True:=trivial
theorem tw12957699765873522087:True:=trivial
theorem tw11475682166392902085:True:=trivial
theorem tw4548176930280297780:True:=trivial
theorem tw7651611465634956872:True:=trivial
theorem tw3076444650206367528:True:=trivial
theorem tw3396639927657394358:True:=trivial
theorem tw3058040354280312479:True:=trivial
theorem tw2004081073556051530:True:=trivial
theorem tw9912659879371304537:True:=trivial
theorem tw5397324926402937135:True:=trivial
theorem tw8097024656353354359:True:=trivial
end PySem.W.Fast
open PySem PySem.W PyProof.Rows
set_option maxRecDepth 100000 in
set_option maxHeartbeats 0 in
theorem PySem.Challenge.cw_currentfloor_k30_nets_of_built_floors_holds : PySem.Challenge.rw_currentfloor_k30_nets_of_built_floors.Holds := by
  w_on; o_law; k_head; (case hw => w_witness2)
  k_fill
  refine My.walk (l := PySem.Challenge.rw_currentfloor_k30_nets_of_built_floors) rfl rfl (fun w h Y => ⟨PySem.W.km_in_of Y, PySem.W.km_tabs_of Y⟩) (by decide) ?F
  case F =>
    intro w mg fa h KX G hmg
    refine' My.all_mk KX G hmg ?_ (My.dq ?_ ?_ ?_ ?_ (My.bn2 My.sCommon _ _)) (My.dq ?_ ?_ ?_ ?_ (My.bn2 My.sFraction _ _)) (My.dq ?_ ?_ ?_ ?_ (My.bn1 My.sCBot _ _)) (My.dq ?_ ?_ ?_ ?_ (My.bn2 My.sWholes _ _)) (My.dq ?_ ?_ ?_ ?_ (My.bn1 My.s_is_point _ _)) (My.dq ?_ ?_ ?_ ?_ (My.bn1 My.s_without_points _ _)) (My.dq ?_ ?_ ?_ ?_ (My.bn1 My.s_numbers_of _ _)) (My.dq ?_ ?_ ?_ ?_ (My.bn2 My.s_whole_floor _ _)) (My.dq ?_ ?_ ?_ ?_ (My.bn1 My.s_is_neither _ _)) (My.dq ?_ ?_ ?_ ?_ (My.bn3 My.s_is_out _ _)) (My.dq ?_ ?_ ?_ ?_ (My.bn2 My.s_overlap _ _)) (My.dq ?_ ?_ ?_ ?_ (My.bn1 My.s_first_overlap _ _)) (My.dq ?_ ?_ ?_ ?_ (My.bn3 My.s_borders _ _)) (My.dq ?_ ?_ ?_ ?_ (My.bn3 My.s_covered_cells _ _)) (My.dq ?_ ?_ ?_ ?_ (My.bn3 My.s_first_gap _ _)) (My.dq ?_ ?_ ?_ ?_ (My.bn3 My.s_looked_whole _ _)) (My.dq ?_ ?_ ?_ ?_ (My.bn1 My.s_looked _ _)) (My.dq ?_ ?_ ?_ ?_ (My.bn1 My.s_check_covers _ _)) (My.dq ?_ ?_ ?_ ?_ (My.bn1 My.s_begun_least _ _)) (My.dq ?_ ?_ ?_ ?_ (My.bn1 My.s_told_turns _ _)) (My.dq ?_ ?_ ?_ ?_ (My.bn3 My.s_level_sides _ _)) (My.dq ?_ ?_ ?_ ?_ (My.bn1 My.s_lines_of _ _)) (My.dq ?_ ?_ ?_ ?_ (My.bn1 My.s_placed _ _)) (My.dq ?_ ?_ ?_ ?_ (My.bn3 My.s_place_at _ _)) (My.dq ?_ ?_ ?_ ?_ (My.bn2 My.s_rope_of _ _)) (My.dq ?_ ?_ ?_ ?_ (My.bn3 My.s_turns_of _ _)) (My.dq ?_ ?_ ?_ ?_ (My.bn1 My.s_net_of _ _)) (My.dq ?_ ?_ ?_ ?_ (My.bn2 My.sCellAt _ _)) (My.dq ?_ ?_ ?_ ?_ (My.bn2 My.sLow _ _)) (My.dq ?_ ?_ ?_ ?_ (My.bn2 My.sLMul _ _)) (My.dq ?_ ?_ ?_ ?_ (My.bn1 My.s_law_whole _ _)) (My.dq ?_ ?_ ?_ ?_ (My.bn1 My.s_law_fraction _ _)) (My.dq ?_ ?_ ?_ ?_ (My.bn2 My.s_law_across _ _)) (My.dq ?_ ?_ ?_ ?_ (My.bn2 My.s_law_down _ _)) (My.dq ?_ ?_ ?_ ?_ (My.bn2 My.s_law_wheel _ _)) (My.dq ?_ ?_ ?_ ?_ (My.bn3 My.s_law_cut _ _)) (My.dq ?_ ?_ ?_ ?_ (My.bn3 My.s_law_boxes _ _)) (My.dq ?_ ?_ ?_ ?_ (My.bn1 My.s_law_share _ _)) (My.dq ?_ ?_ ?_ ?_ (My.bn3 My.s_law_scaled _ _)) (My.dq ?_ ?_ ?_ ?_ (My.bn4 My.s_law_points _ _)) (My.dq ?_ ?_ ?_ ?_ (My.bn1 My.s_law_lines _ _)) (My.dq ?_ ?_ ?_ ?_ (My.bn2 My.s_law_order _ _)) (My.dq ?_ ?_ ?_ ?_ (My.bn3 My.s_law_turn _ _)) (My.dq ?_ ?_ ?_ ?_ (My.bn1 My.s_law_due _ _)) (My.dq ?_ ?_ ?_ ?_ (My.bn2 My.s_law_kinds _ _)) (My.dq ?_ ?_ ?_ ?_ (My.bn1 My.sLaw _ _)) ?_ ?_ ?_ ?_ ?_ ?_ ⟨?_⟩ ⟨?_⟩ ⟨?_⟩ ⟨?_⟩ ⟨?_⟩ ⟨?_⟩ ⟨?_⟩ ⟨?_⟩ ⟨?_⟩ ⟨?_⟩ ⟨?_⟩ ⟨?_⟩ ⟨?_⟩ ⟨?_⟩ ⟨?_⟩ ⟨?_⟩
    all_goals try first | k_is | k_exc | kernel_rfl | exact ⟨rfl⟩
