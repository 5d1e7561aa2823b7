import PyProof.Rows.All
import Wide.All
import OpenK.AllK
import Wide.FinOn
import Lean
import PyProof.EqAt
import PyProof.EqKinds
import PyProof.TupleCall
import PySem.Challenge.RW_currentfloor_k25_floor_of_a_net
noncomputable section
set_option Elab.async false
set_option linter.all false
set_option maxRecDepth 100000
theorem ed:type_of% @List.length_map:=@List.length_map
theorem eh:type_of% @List.getElem?_eq_getElem:=@List.getElem?_eq_getElem
theorem eu:type_of% @List.getElem?_eq_some_iff:=@List.getElem?_eq_some_iff
theorem eO:type_of% @List.getD_eq_getElem?_getD:=@List.getD_eq_getElem?_getD
theorem eQ:type_of% @List.mem_of_getElem?:=@List.mem_of_getElem?
theorem eU:type_of% @Nat.le_refl:=@Nat.le_refl
theorem eV:type_of% @PySem.wpAny_bind:=@PySem.wpAny_bind
theorem eY:type_of% @PySem.Heap.get?_push_of_some:=@PySem.Heap.get?_push_of_some
theorem eZ:type_of% @if_neg:=@if_neg
theorem ff:type_of% @if_pos:=@if_pos
theorem fg:type_of% @List.getElem?_map:=@List.getElem?_map
theorem fh:type_of% @List.forall_mem_nil:=@List.forall_mem_nil
theorem fi:type_of% @List.mem_map:=@List.mem_map
theorem fj:type_of% @List.length_append:=@List.length_append
theorem fk:type_of% @List.map_cons:=@List.map_cons
theorem fm:type_of% @List.mem_append:=@List.mem_append
theorem ft:type_of% @List.forall_mem_cons:=@List.forall_mem_cons
theorem fu:type_of% @List.getElem?_append_right:=@List.getElem?_append_right
theorem fv:type_of% @List.map_append:=@List.map_append
theorem fC:type_of% @Option.some.inj:=@Option.some.inj
theorem fE:type_of% @List.mem_cons:=@List.mem_cons
theorem fG:type_of% @List.size_toArray:=@List.size_toArray
theorem fH:type_of% @List.take_of_length_le:=@List.take_of_length_le
theorem fJ:type_of% @PySem.Heap.lt_size:=@PySem.Heap.lt_size
theorem fK:type_of% @List.length_range:=@List.length_range
theorem fN:type_of% @List.getElem?_append_left:=@List.getElem?_append_left
theorem fO:type_of% @PySem.Heap.get?_push_size:=@PySem.Heap.get?_push_size
theorem fP:type_of% @List.getElem_of_mem:=@List.getElem_of_mem
theorem fQ:type_of% @List.mem_singleton:=@List.mem_singleton
theorem fS:type_of% @PySem.wpAny_pure:=@PySem.wpAny_pure
theorem fT:type_of% @PySem.PassesOwn.never:=@PySem.PassesOwn.never
theorem fV:type_of% @List.mem_flatten:=@List.mem_flatten
theorem fX:type_of% @Bool.false_ne_true:=@Bool.false_ne_true
theorem fY:type_of% @Nat.le_trans:=@Nat.le_trans
theorem fZ:type_of% @List.flatten_cons:=@List.flatten_cons
theorem gc:type_of% @Nat.lt_or_ge:=@Nat.lt_or_ge
theorem gf:type_of% @List.sum_cons:=@List.sum_cons
theorem gh:type_of% @PySem.F.plainAttrs_list:=@PySem.F.plainAttrs_list
theorem gj:type_of% @Int.natAbs_natCast:=@Int.natAbs_natCast
theorem gn:type_of% @List.getElem?_set_ne:=@List.getElem?_set_ne
theorem gp:type_of% @List.getElem?_set_self:=@List.getElem?_set_self
theorem gq:type_of% @List.length_cons:=@List.length_cons
theorem gu:type_of% @List.mem_range:=@List.mem_range
theorem gy:type_of% @PyProof.Rows.callWith_type1:=@PyProof.Rows.callWith_type1
theorem gz:type_of% @List.mem_append_right:=@List.mem_append_right
theorem gA:type_of% @List.getElem?_range:=@List.getElem?_range
theorem gC:type_of% @List.replicate_succ:=@List.replicate_succ
theorem gD:type_of% @Int.natAbs_mul:=@Int.natAbs_mul
theorem gE:type_of% @List.not_mem_nil:=@List.not_mem_nil
theorem gF:type_of% @List.getLastD_eq_getLast?:=@List.getLastD_eq_getLast?
theorem gG:type_of% @List.map_map:=@List.map_map
theorem gI:type_of% @Nat.lt_of_lt_of_le:=@Nat.lt_of_lt_of_le
theorem gJ:type_of% @List.mem_cons_of_mem:=@List.mem_cons_of_mem
theorem gK:type_of% @Rat.intCast_mul:=@Rat.intCast_mul
theorem gL:type_of% @PySem.F.slot_list_append:=@PySem.F.slot_list_append
theorem gM:type_of% @PySem.F.type_list_append:=@PySem.F.type_list_append
theorem gN:type_of% @List.length_drop:=@List.length_drop
theorem gO:type_of% @PySem.W.mg_none_of:=@PySem.W.mg_none_of
theorem gP:type_of% @Nat.zero_le:=@Nat.zero_le
theorem gQ:type_of% @List.flatten_append:=@List.flatten_append
theorem gS:type_of% @Nat.ne_of_lt:=@Nat.ne_of_lt
theorem gU:type_of% @List.getElem?_eq_none:=@List.getElem?_eq_none
theorem gW:type_of% @List.append_assoc:=@List.append_assoc
theorem gX:type_of% @Int.emod_nonneg:=@Int.emod_nonneg
theorem gY:type_of% @List.map_nil:=@List.map_nil
theorem gZ:type_of% @Nat.pow_le_pow_right:=@Nat.pow_le_pow_right
theorem g9:type_of% @List.length_take:=@List.length_take
theorem ie:type_of% @Int.toNat_natCast:=@Int.toNat_natCast
theorem ig:type_of% @List.nodup_cons:=@List.nodup_cons
theorem ij:type_of% @Array.length_toList:=@Array.length_toList
theorem ip:type_of% @List.map_congr_left:=@List.map_congr_left
theorem iq:type_of% @List.getElem_mem:=@List.getElem_mem
theorem ir:type_of% @List.mem_cons_self:=@List.mem_cons_self
theorem iu:type_of% @List.length_singleton:=@List.length_singleton
theorem iy:type_of% @List.getElem?_cons_succ:=@List.getElem?_cons_succ
theorem iz:type_of% @Int.emod_lt_of_pos:=@Int.emod_lt_of_pos
theorem iA:type_of% @List.length_set:=@List.length_set
theorem iB:type_of% @Ne.symm:=@Ne.symm
theorem iC:type_of% @Int.fdiv_eq_ediv_of_dvd:=@Int.fdiv_eq_ediv_of_dvd
theorem iD:type_of% @List.nodup_append:=@List.nodup_append
theorem iE:type_of% @Nat.lt_of_le_of_lt:=@Nat.lt_of_le_of_lt
theorem iF:type_of% @List.append_nil:=@List.append_nil
theorem iG:type_of% @List.take_length:=@List.take_length
theorem iH:type_of% @PySem.wpAny_Call_Name_kw:=@PySem.wpAny_Call_Name_kw
theorem iI:type_of% @List.length_pos_of_mem:=@List.length_pos_of_mem
theorem iJ:type_of% @List.range_succ_eq_map:=@List.range_succ_eq_map
theorem iL:type_of% @Nat.mul_le_mul_left:=@Nat.mul_le_mul_left
theorem iM:type_of% @List.pairwise_map:=@List.pairwise_map
theorem iN:type_of% @List.take_append_drop:=@List.take_append_drop
theorem iO:type_of% @or_false:=@or_false
theorem iP:type_of% @PySem.W.kia_one:=@PySem.W.kia_one
theorem iQ:type_of% @decide_eq_false:=@decide_eq_false
theorem iR:type_of% @PySem.wpAny_field:=@PySem.wpAny_field
theorem iS:type_of% @List.mem_append_left:=@List.mem_append_left
theorem iT:type_of% @PySem.wpAny_mono:=@PySem.wpAny_mono
theorem iU:type_of% @Nat.mul_succ:=@Nat.mul_succ
theorem iV:type_of% @List.getElem_cons_drop:=@List.getElem_cons_drop
theorem iW:type_of% @List.length_reverse:=@List.length_reverse
theorem iX:type_of% @PySem.mem_of_lookup:=@PySem.mem_of_lookup
theorem iY:type_of% @List.mem_or_eq_of_mem_set:=@List.mem_or_eq_of_mem_set
theorem iZ:type_of% @List.sum_nil:=@List.sum_nil
theorem i4:type_of% @PySem.wpAny_pyIter_tuple:=@PySem.wpAny_pyIter_tuple
theorem i5:type_of% @Rat.mul_nonneg:=@Rat.mul_nonneg
theorem i6:type_of% @List.Pairwise.imp:=@List.Pairwise.imp
theorem i7:type_of% @Int.mul_ne_zero:=@Int.mul_ne_zero
theorem i8:type_of% @List.length_nil:=@List.length_nil
theorem ja:type_of% @Nat.ne_of_gt:=@Nat.ne_of_gt
theorem jb:type_of% @Nat.lt_irrefl:=@Nat.lt_irrefl
theorem jc:type_of% @Bool.and_eq_true:=@Bool.and_eq_true
theorem jd:type_of% @PySem.Heap.size_push:=@PySem.Heap.size_push
theorem je:type_of% @List.getElem?_drop:=@List.getElem?_drop
theorem jf:type_of% @decide_eq_true:=@decide_eq_true
theorem jh:type_of% @PySem.wpAny_seqItems:=@PySem.wpAny_seqItems
theorem ji:type_of% @PySem.sizeLine_eq:=@PySem.sizeLine_eq
theorem jj:type_of% @Int.ne_of_gt:=@Int.ne_of_gt
theorem jk:type_of% @List.replicate_succ':=@List.replicate_succ'
theorem jm:type_of% @Rat.mul_eq_zero:=@Rat.mul_eq_zero
theorem jn:type_of% @List.cons_append:=@List.cons_append
theorem jo:type_of% @List.map_set:=@List.map_set
theorem jq:type_of% @Nat.sub_self:=@Nat.sub_self
namespace L2
open PySem PySem.Spec PyProof.Rows
abbrev AX:=Sum Int Str
def Hr:AX->Value->Bool
 | .inl k,v=>Value.isInt k v
 | .inr x,v=>Value.isStrOf x v
def dC(w:World):AX->Int
 | .inl k=>hashInt k
 | .inr x=>hashStr w x
theorem Ff:∀{k:AX} {v:Value},Hr k v=true->(∃i t,k=Sum.inl i/\v=Value.int i t)\/(∃x t,k=Sum.inr x/\v=Value.str x t)
 | .inl i,v,h=>by
  obtain⟨t,e⟩:=Value.isInt_shape (k:=i) (v:=v) h;exact .inl ⟨i,t,rfl,e⟩
 | .inr x,v,h=>by
  obtain⟨t,e⟩:=Value.isStrOf_shape (x:=x) (v:=v) h;exact .inr ⟨x,t,rfl,e⟩
theorem Wu(i:Int)(t:Tok):Hr (.inl i) (.int i t)=true:=by simp[Hr,Value.isInt]
theorem Wf(x:Str)(t:Tok):Hr (.inr x) (.str x t)=true:=by simp[Hr,Value.isStrOf]
theorem Z5(a b:Int):decide ((Sum.inl a:AX)=Sum.inl b)=(a == b):=by
 by_cases e:a=b
 ·subst e; simp
 ·have h:¬(Sum.inl a:AX)=Sum.inl b:=λq=>e (Sum.inl.inj q)
  rw[iQ h];exact(beq_eq_false_iff_ne.mpr e).symm
theorem ag(a b:Str):decide ((Sum.inr a:AX)=Sum.inr b)=decide (a=b):=by
 by_cases e:a=b
 ·subst e; simp
 ·have h:¬(Sum.inr a:AX)=Sum.inr b:=λq=>e (Sum.inr.inj q)
  rw[iQ h,iQ e]
theorem Ze(a:Int)(b:Str):decide ((Sum.inl a:AX)=Sum.inr b)=false:=iQ (λq=>nomatch q)
theorem aL(a:Str)(b:Int):decide ((Sum.inr a:AX)=Sum.inl b)=false:=iQ (λq=>nomatch q)
def DD(prog:Program)(w:World):PySem.KeyKind prog w AX where
 is:=Hr
 hash:=dC w
 inj:=λv a b ha hb=>by
  rcases Ff ha with ⟨i,t,rfl,rfl⟩ | ⟨x,t,rfl,rfl⟩
  ·rcases Ff hb with ⟨j,u,rfl,e⟩ | ⟨y,u,rfl,e⟩
   ·injection e with e1 _; rw[e1]
   ·exact nomatch e
  ·rcases Ff hb with ⟨j,u,rfl,e⟩ | ⟨y,u,rfl,e⟩
   ·exact nomatch e
   ·injection e with e1 _; rw[e1]
 byValue:=λk v h=>by
  rcases Ff h with ⟨i,t,rfl,rfl⟩ | ⟨x,t,rfl,rfl⟩ <;> rfl
 pyHash:=λhv h=>by
  rcases Ff hv with ⟨i,t,rfl,rfl⟩ | ⟨x,t,rfl,rfl⟩
  ·exact wpAny_pyHash_int h
  ·exact wpAny_pyHash_str h
 eqBool:=λhu hv h=>by
  rcases Ff hu with ⟨i,t,rfl,rfl⟩ | ⟨x,t,rfl,rfl⟩
  ·rcases Ff hv with ⟨j,u,rfl,rfl⟩ | ⟨y,u,rfl,rfl⟩
   ·rw[Z5] at h; exact wpAny_eqBool_int h
   ·rw[Ze] at h; exact SeqAt.EqAt.int_str i t y u _ _ _ _ h
  ·rcases Ff hv with ⟨j,u,rfl,rfl⟩ | ⟨y,u,rfl,rfl⟩
   ·rw[aL] at h; exact SeqAt.EqAt.str_int x t j u _ _ _ _ h
   ·rw[ag] at h; exact wpAny_eqBool_str h
 «strs»:=λk x t v h=>by
  rcases Ff h with ⟨i,u,rfl,e⟩ | ⟨y,u,rfl,e⟩
  ·exact nomatch e
  ·injection e with e1 _
   subst e1;cases v <;> rfl
theorem V7(prog:Program)(w:World)(k:AX)(v:Value):(DD prog w).is k v=Hr k v:=rfl
theorem VZ(prog:Program)(w:World)(i:Int)(t:Tok):(DD prog w).is (.inl i) (.int i t)=true:=Wu i t
theorem Vh(prog:Program)(w:World)(x:Str)(t:Tok):(DD prog w).is (.inr x) (.str x t)=true:=Wf x t
inductive V where
 | BA | bl (b:Bool) | int (i:Int) | str (x:Str) | E4 (b:Array UInt8) | JQ (b:UInt64) | ref (a:Addr) | ty (n:String)
 deriving DecidableEq
def Au:V->Value->Prop
 | .BA,u=>u=Value.none
 | .bl b,u=>u=Value.bool b
 | .int i,u=>∃t,u=Value.int i t
 | .str x,u=>∃t,u=Value.str x t
 | .E4 b,u=>∃t,u=Value.bytes b t
 | .JQ b,u=>∃t,u=Value.float b t
 | .ref a,u=>u=Value.ref a
 | .ty n,u=>u=Value.type n
abbrev Ag:List V->List Value->Prop:=Paired Au
theorem Ag.length{xs:List V}{us:List Value}(r:Ag xs us):xs.length=us.length:=Paired.length r
theorem Ag.get:∀{xs:List V} {us:List Value} {i:Nat} {x:V},Ag xs us->xs[i]?=some x->∃u,us[i]?=some u/\Au x u
 | _,_,_,_,.nil,e=>by simp at e
 | _,_,0,_,.cons r _,e=>by simp at e; subst e; exact⟨_,rfl,r⟩
 | _,_,i+1,x,.cons _ t,e=>by
  obtain⟨u,h1,h2⟩:=Ag.get (i:=i) (x:=x) t (by simpa using e);exact⟨u,by simpa using h1,h2⟩
theorem Ag.set{x:V}{u:Value}(r:Au x u):∀{xs:List V} {us:List Value} (i:Nat),Ag xs us->Ag (xs.set i x) (us.set i u)
 | _,_,_,.nil=>.nil
 | _,_,0,.cons _ t=>.cons r t
 | _,_,i+1,.cons q t=>.cons q (Ag.set r i t)
theorem Ag.append:∀{xs ys:List V} {us ws:List Value},Ag xs us->Ag ys ws->Ag (xs++ys) (us++ws)
 | _,_,_,_,.nil,s=>s
 | _,_,_,_,.cons r t,s=>.cons r (Ag.append t s)
theorem Ag.take:∀{xs:List V} {us:List Value} (n:Nat),Ag xs us->Ag (xs.take n) (us.take n)
 | _,_,0,_=>.nil
 | _,_,_+1,.nil=>.nil
 | _,_,n+1,.cons r t=>.cons r (Ag.take n t)
theorem Ag.drop:∀{xs:List V} {us:List Value} (n:Nat),Ag xs us->Ag (xs.drop n) (us.drop n)
 | _,_,0,r=>r
 | _,_,_+1,.nil=>.nil
 | _,_,n+1,.cons _ t=>Ag.drop n t
def EK:Option V->Option Value->Prop
 | some v,some u=>Au v u
 | none,none=>True
 | _,_=>False
def KV{κ:Type}:List (κ×V)->List (κ×Value)->Prop:=Paired λ(p:κ×V) (q:κ×Value)=>p.1=q.1/\Au p.2 q.2
def kV:AX->V
 | .inl i=>.int i
 | .inr x=>.str x
inductive HO where
  | AB (xs:List V)
  | AG (xs:List V)
  | dK (kvs:List (AX×V)) | dT (kvs:List (List AX×V))
  | set (S:Int->Bool) (n:Nat)
  | Eg (C dx:Addr) (fs:List (Str×V))
  | ES (x:Addr)
  | xd (fs:List (Str×V))
  | PV (f x:Addr)
  | PY (lo hi:Int)
  | D7 (o:Obj) (u:HO)
  | IH (ps:Array Value)
  | ext (φ:Heap->Prop)
abbrev Hp:=Addr->Option HO
def AF(H:Hp)(a:Addr)(o:HO):Hp:=λb=>if b=a then some o else H b
theorem AS{H:Hp}{a:Addr}{o:HO}:AF H a o a=some o:=by unfold AF; rw[ff rfl]
theorem Ad{H:Hp}{a b:Addr}{o:HO}(h:b≠a):AF H a o b=H b:=by unfold AF; rw[eZ h]
theorem bc{H:Hp}{a b:Addr}{o u:HO}(h:H a=some o)(h':H b=some u)(d:o≠u):a≠b:=by
 intro e; subst e; rw[h] at h'; exact d (fC h')
theorem BL{H:Hp}{a b:Addr}{o:HO}(h:H a=some o)(h':H b=none):a≠b:=by
 intro e; subst e; rw[h] at h'; cases h'
section
variable (P:Program) (w:World)
def BY(H:Hp)(h:Heap)(a:Addr):HO->Prop
 | .AB xs=>xs.length<=sizeLine/\∃(its:List Value) (n:Nat),Ag xs its/\h.get? a=some { cls:=.type "list",data:=.seq its.toArray n }
 | .AG xs=>xs.length<=sizeLine/\∃its:List Value,Ag xs its/\IsTup h a its.toArray/\∃o,h.get? a=some o/\o.dict=none
 | .dK kvs=>kvs.length<=sizeLine/\(a == sysModules)=false/\∃vs,KV kvs vs/\h.DictOf (DD P w) a vs
 | .dT kvs=>kvs.length<=sizeLine/\(a == sysModules)=false/\∃xs:List (List AX×Addr×Value),
   Paired (λ(p:List AX×V) (q:List AX×Addr×Value)=>p.1=q.1/\H q.2.1=some (.AG (p.1.map kV))/\Au p.2 q.2.2) kvs xs /\
   ∃o es ep,h.get? a=some o/\o.ExactDict/\o.data=.dict es ep/\es.toList=xs.map (entryOfKey (tupleKind (DD P w)))/\(xs.map (·.1)).Nodup
 | .set S n=>h.SetOf (intKind P w) a S n
 | .Eg C dx fs=>H dx=some (.ES a)/\fs.length<=1000/\dx≠a/\h.get? a=some (PySem.W.instObj C dx) /\
   ∃mA,h.Ns1 dx mA/\(∀f,EK (fs.lookup f) (mA f))/\PySem.Within mA (fs.map (·.1))
 | .ES _=>∃o,h.get? a=some o
 | .xd fs=>∃mA,h.Ns1 a mA/\∀f,EK (fs.lookup f) (mA f)
 | .PY lo hi=>∃t u v,h.get? a=some { cls:=.type "range",data:=.fields #[.int lo t,.int hi u,.int 1 v] }
 | .D7 o u=>h.get? a=some o/\BY H h a u
 | .IH ps=>h.get? a=some { cls:=.none,data:=.fields ps }
 | .PV f x=>h.get? a=some (PySem.W.methodObj (.ref f) (.ref x))
 | .ext φ=>φ h/\(∃o,h.get? a=some o)/\∀h1 h2:Heap,φ h1->(∀o,h1.get? a=some o->h2.get? a=some o)->φ h2
def Br(H:Hp)(h:Heap):Prop:=∀a o,H a=some o->BY P w H h a o
end
section
variable {P:Program} {w:World} {H H':Hp} {h h':Heap} {a:Addr} {o:HO}
theorem BY.lt(x:BY P w H h a o):a<h.objs.size:=by
 cases o with
 | AB xs=>obtain⟨_,_,_,_,e⟩:=x; exact fJ e
 | AG xs=>obtain⟨_,_,_,p,_⟩:=x; exact p.lt
 | dK kvs=>obtain⟨_,_,_,_,o,_,_,e,_⟩:=x; exact fJ e
 | dT kvs=>obtain⟨_,_,_,_,o,_,_,e,_⟩:=x; exact fJ e
 | set S n=>obtain⟨o,_,_,_,e,_⟩:=x; exact fJ e
 | Eg C dx fs=>obtain⟨_,_,_,e,_⟩:=x; exact fJ e
 | ES y=>obtain⟨_,e⟩:=x; exact fJ e
 | xd fs=>obtain⟨_,⟨_,_,_,e,_⟩,_⟩:=x; exact fJ e
 | PY lo hi=>obtain⟨_,_,_,e⟩:=x; exact fJ e
 | D7 ob u=>obtain⟨e,_⟩:=x; exact fJ e
 | IH ps=>exact fJ (show h.get? a=some _ from x)
 | PV f y=>exact fJ (show h.get? a=some _ from x)
 | ext φ=>obtain⟨_,⟨_,e⟩,_⟩:=x; exact fJ e
theorem Paired.PB{α β:Type}{F G:α->β->Prop}:∀{l₁:List α} {l₂:List β},Paired F l₁ l₂->(∀a b,F a b->G a b)->Paired G l₁ l₂
 | _,_,.nil,_=>.nil
 | _,_,.cons r t,f=>.cons (f _ _ r) (Paired.PB t f)
theorem BY.FV (x:BY P w H h a o) (k:∀b u,(b=a\/H b=some (.ES a))->h.get? b=some u->h'.get? b=some u)
  (ho:∀b,H b=some (.ES a)->H' b=some (.ES a)) (ht:∀b xs,H b=some (.AG xs)->H' b=some (.AG xs)):BY P w H' h' a o:=by
 induction o with
 | AB xs=>obtain⟨z,its,n,r,e⟩:=x; exact⟨z,its,n,r,k _ _ (.inl rfl) e⟩
 | AG xs=>obtain⟨z,its,r,⟨ob,e,c⟩,ob2,e2,c2⟩:=x; exact⟨z,its,r,⟨ob,k _ _ (.inl rfl) e,c⟩,ob2,k _ _ (.inl rfl) e2,c2⟩
 | dK kvs=>obtain⟨z,y,vs,r,ob,es,ep,e,c⟩:=x; exact⟨z,y,vs,r,ob,es,ep,k _ _ (.inl rfl) e,c⟩
 | dT kvs =>
  obtain⟨z,y,xs,r,ob,es,ep,e,c⟩:=x;exact⟨z,y,xs,Paired.PB r λp q z=>⟨z.1,ht _ _ z.2.1,z.2.2⟩,ob,es,ep,k _ _ (.inl rfl) e,c⟩
 | set S n=>obtain⟨ob,es,ep,t,e,c⟩:=x; exact⟨ob,es,ep,t,k _ _ (.inl rfl) e,c⟩
 | Eg C dx fs =>
  obtain⟨d,z,ne,e,mA,⟨od,es,ep,e2,c⟩,r⟩:=x;exact⟨ho _ d,z,ne,k _ _ (.inl rfl) e,mA,⟨od,es,ep,k _ _ (.inr d) e2,c⟩,r⟩
 | ES y=>obtain⟨ob,e⟩:=x; exact⟨ob,k _ _ (.inl rfl) e⟩
 | xd fs=>obtain⟨mA,⟨od,es,ep,e,c⟩,r⟩:=x; exact⟨mA,⟨od,es,ep,k _ _ (.inl rfl) e,c⟩,r⟩
 | PY lo hi=>obtain⟨t,u,v,e⟩:=x; exact⟨t,u,v,k _ _ (.inl rfl) e⟩
 | D7 ob u ih=>obtain⟨e,q⟩:=x; exact⟨k _ _ (.inl rfl) e,ih q⟩
 | IH ps =>
  have e:h.get? a=some { cls:=.none,data:=.fields ps }:=x;show h'.get? a=some { cls:=.none,data:=.fields ps };exact k a _ (.inl rfl) e
 | PV f y =>
  have e:h.get? a=some (PySem.W.methodObj (.ref f) (.ref y)):=x;show h'.get? a=some (PySem.W.methodObj (.ref f) (.ref y));exact k a _ (.inl rfl) e
 | ext φ=>obtain⟨p,⟨o,e⟩,st⟩:=x; exact⟨st _ _ p λo q=>k _ _ (.inl rfl) q,⟨o,k _ _ (.inl rfl) e⟩,st⟩
theorem Br.lt(x:Br P w H h)(e:H a=some o):a<h.objs.size:=(x a o e).lt
theorem Br.BW(x:Br P w H h)(e:h.objs.size<=a):H a=none:=by
 cases q:H a with
 | none=>rfl
 | some u=>exact absurd (gI (x.lt q) e) (jb _)
theorem Br.Bn(x:Br P w H h)(k:∀b u,h.get? b=some u->h'.get? b=some u):Br P w H h':=λa o e =>
 (x a o e).FV (λb u _ q=>k b u q) (λ_ q=>q) λ_ _ q=>q
theorem Br.C6(x:Br P w H h)(k:∀b u,h.get? b=some u->h'.get? b=some u)(hp:h.objs.size<=a)(new:BY P w (AF H a o) h' a o):Br P w (AF H a o) h':=λb u e=>by
 have hn:=x.BW hp;by_cases hb:b=a
 ·subst hb; rw[AS] at e; cases e; exact new
 ·rw[Ad hb] at e;exact(x b u e).FV (λc v _ q=>k c v q) (λc q=>by rw[Ad (BL q hn)]; exact q) λc xs q=>by rw[Ad (BL q hn)]; exact q
end
def Rd(H:Hp)(a:Addr)(u:HO):Prop:=H a=some u\/∃o,H a=some (.D7 o u)
theorem Rd.of{H:Hp}{a:Addr}{u:HO}(h:H a=some u):Rd H a u:=.inl h
theorem Rd.ok{P:Program}{w:World}{H:Hp}{h:Heap}{a:Addr}{u:HO}(r:Rd H a u)(x:Br P w H h):BY P w H h a u:=by
 rcases r with r | ⟨o,r⟩
 ·exact x a u r
 ·obtain⟨_,q⟩:=x a _ r;exact q
def Kb:Option HO->Prop
 | some (.AB _)=>True
 | some (.dK _)=>True
 | some (.dT _)=>True
 | some (.set _ _)=>True
 | some (.Eg _ _ _)=>True
 | some (.ext _)=>True
 | _=>False
section
variable {P:Program} {w:World} {H:Hp} {h h':Heap} {x e:Addr} {o':HO}
theorem Br.Hh (ok:Br P w H h) (mu:Kb (H x)) (he:e=x\/H e=some (.ES x)) (k:∀b u,b≠e->h.get? b=some u->h'.get? b=some u) (heo:∃u,h'.get? e=some u)
  (new:BY P w (AF H x o') h' x o'):Br P w (AF H x o') h':=λb u q=>by
 have nown:∀c y,H c=some (.ES y)->c≠x:=λc y r z=>by subst z; rw[r] at mu; exact mu
 have ntup:∀c xs,H c=some (.AG xs)->c≠x:=λc xs r z=>by subst z; rw[r] at mu; exact mu
 by_cases hb:b=x
 ·subst hb; rw[AS] at q; cases q; exact new
 ·rw[Ad hb] at q;by_cases hbe:b=e
  ·have q':H b=some (.ES x):=by
    rcases he with z | z
    ·exact absurd (hbe.trans z) hb
    ·rw[hbe]; exact z
   rw[q] at q'; cases q';obtain⟨v,hv⟩:=heo;exact⟨v,by rw[hbe]; exact hv⟩
  ·refine(ok b u q).FV (λc v hc r=>k c v ?_ r) (λc r=>by rw[Ad (nown c b r)]; exact r) λc xs r=>by rw[Ad (ntup c xs r)]; exact r
   rcases hc with rfl | hc
   ·exact hbe
   ·rintro rfl;rcases he with z | z
    ·exact nown c b hc z
    ·rw[hc] at z; cases z; exact hb rfl
end
structure Un(fs ex:List Addr)(H H':Hp)(h h':Heap):Prop where
 keep:∀b o,h.get? b=some o->H b=none->b∉fs->b∉ex->h'.get? b=some o
 slot:∀b o,h.get? b=some o->H b=none->b∈fs->b∉ex->∃sl,h'.get? b=some { o with slots:=sl }
 free:∀b o,h.get? b=some o->H b=none->b∉ex->H' b=none
 there:∀b o,h.get? b=some o->b∉ex->∃o',h'.get? b=some o'
 tups:∀b xs,H b=some (.AG xs)->H' b=some (.AG xs)
 frzs:∀b o u,H b=some (.D7 o u)->H' b=some (.D7 o u)
 tbls:∀b ps,H b=some (.IH ps)->∃more,H' b=some (.IH (ps++more))
section
variable {fs fs' ex ex':List Addr} {H H1 H2:Hp} {h h1 h2 h':Heap} {a x e:Addr} {o:HO}
theorem Un.any(u:Un fs ex H H1 h h1){b:Addr}{ob:Obj}(q:h.get? b=some ob)(n:H b=none)(hx:b∉ex):∃sl,h1.get? b=some { ob with slots:=sl }:=by
 by_cases hb:b∈fs
 ·exact u.slot b ob q n hb hx
 ·exact⟨ob.slots,u.keep b ob q n hb hx⟩
theorem Un.trans(a:Un fs ex H H1 h h1)(b:Un fs ex H1 H2 h1 h2):Un fs ex H H2 h h2 where
 keep:=λc ob q n hc hx=>b.keep c ob (a.keep c ob q n hc hx) (a.free c ob q n hx) hc hx
 slot:=λc ob q n hc hx=>by
  obtain⟨sl,e1⟩:=a.slot c ob q n hc hx;obtain⟨sl',e2⟩:=b.slot c _ e1 (a.free c ob q n hx) hc hx;exact⟨sl',e2⟩
 free:=λc ob q n hx=>by
  obtain⟨o',e1⟩:=a.there c ob q hx;exact b.free c o' e1 (a.free c ob q n hx) hx
 there:=λc ob q hx=>by
  obtain⟨o',e1⟩:=a.there c ob q hx;exact b.there c o' e1 hx
 tups:=λc xs q=>b.tups c xs (a.tups c xs q)
 frzs:=λc ob xs q=>b.frzs c ob xs (a.frzs c ob xs q)
 tbls:=λc ps q=>by
  obtain⟨m1,e1⟩:=a.tbls c ps q;obtain⟨m2,e2⟩:=b.tbls c _ e1;exact⟨m1++m2,by rw[e2,Array.append_assoc]⟩
theorem Un.Bn(k:∀b u,h.get? b=some u->h'.get? b=some u):Un fs ex H H h h' :=
 ⟨λb ob q _ _ _=>k b ob q,λb ob q _ _ _=>⟨ob.slots,k b ob q⟩,λ_ _ _ n _=>n,λb ob q _=>⟨ob,k b ob q⟩,λ_ _ q=>q,λ_ _ _ q=>q,λ_ ps q=>⟨#[],by rw[q]; simp⟩⟩
theorem Un.refl:Un fs ex H H h h:=Un.Bn λ_ _ q=>q
theorem Un.C6(k:∀b u,h.get? b=some u->h'.get? b=some u)(hp:h.objs.size<=a)(hn:H a=none):Un fs ex H (AF H a o) h h' where
 keep:=λb u q _ _ _=>k b u q
 slot:=λb u q _ _ _=>⟨u.slots,k b u q⟩
 free:=λb u q n _=>by rw[Ad (gS (gI (fJ q) hp))]; exact n
 there:=λb u q _=>⟨u,k b u q⟩
 tups:=λb xs q=>by rw[Ad (BL q hn)]; exact q
 frzs:=λb u xs q=>by rw[Ad (BL q hn)]; exact q
 tbls:=λb ps q=>⟨#[],by rw[Ad (BL q hn),q]; simp⟩
theorem Un.Hh(mu:Kb (H x))(he:e=x\/H e=some (.ES x))(k:∀b u,b≠e->h.get? b=some u->h'.get? b=some u)(heo:∃u,h'.get? e=some u):Un fs ex H (AF H x o) h h':=by
 have hx:∀b,H b=none->b≠x:=λb n z=>by subst z; rw[n] at mu; exact mu
 have hb:∀b,H b=none->b≠e:=λb n z=>by
  subst z;rcases he with r | r
  ·exact hx b n r
  ·rw[n] at r; cases r
 have hm:∀b u,H b=some u->¬Kb (some u)->b≠x:=λb u q nm z=>by subst z; rw[q] at mu; exact nm mu
 refine⟨λb u q n _ _=>k b u (hb b n) q,λb u q n _ _=>⟨u.slots,k b u (hb b n) q⟩,λb u q n _=>by rw[Ad (hx b n)]; exact n,λb u q _=>?_,
  λb xs q=>by rw[Ad (hm b _ q λz=>z)]; exact q,λb u xs q=>by rw[Ad (hm b _ q λz=>z)]; exact q,λb ps q=>⟨#[],by rw[Ad (hm b _ q λz=>z),q]; simp⟩⟩
 by_cases hbe:b=e
 ·subst hbe; exact heo
 ·exact⟨u,k b u hbe q⟩
theorem Un.mono(u:Un fs ex H H1 h h1)(hs:∀b∈fs,b∈fs')(hx:∀b∈ex,b∈ex'):Un fs' ex' H H1 h h1 :=
 ⟨λb ob q n hb he=>u.keep b ob q n (λz=>hb (hs b z)) λz=>he (hx b z),λ_ _ q n _ he=>u.any q n λz=>he (hx _ z),λb ob q n he=>u.free b ob q n λz=>he (hx b z),λb ob q he=>u.there b ob q λz=>he (hx b z),u.tups,u.frzs,u.tbls⟩
end
def MD(h:Heap)(H:Hp):List Addr:=(List.range h.objs.size).filter λa=>(H a).isSome
def GD(h:Heap)(H:Hp):Heap:=PySem.W.hideAll h (MD h H)
theorem Wn(h:Heap)(H:Hp):(GD h H).objs.size=h.objs.size:=PySem.W.hideAll_size _ _
theorem XG{h:Heap}{H:Hp}{b:Addr}{o:Obj}(e:h.get? b=some o)(n:H b=none):(GD h H).get? b=some o :=
 PySem.W.hideAll_get _ e λhm=>by
  have q:(H b).isSome=true:=(List.mem_filter.mp hm).2;rw[n] at q; simp at q
theorem ZU{h:Heap}{H:Hp}{b:Addr}{o:Obj}(e:(GD h H).get? b=some o):h.get? b=some o/\H b=none:=by
 have e':h.get? b=some o:=PySem.W.of_hideAll (MD h H) e;refine⟨e',?_⟩;cases q:H b with
 | none=>rfl
 | some x =>
  have hm:b∈MD h H:=List.mem_filter.mpr ⟨gu.mpr (fJ e'),by simp[q]⟩;have z:(GD h H).get? b=none:=PySem.W.hideAll_none (MD h H) hm;rw[z] at e; cases e
def ZA(g h:Heap)(L:Addr):List (Addr×Obj):=(List.range h.objs.size).filterMap λa=>if a=L\/(g.get? a).isSome=true then none else (h.get? a).map λo=>(a,o)
def rest(g h:Heap)(L d:Addr):List (Addr×Obj):=(ZA g h L).filter λp=>decide (p.1≠d)
structure Mod(K:PySem.W.Frag)(mg:Str->Option Value)(base:Heap):Prop where
 PN:K.In base
 GB:base.Ns mainGlobals mg
 JT:∃mb,base.Ns builtinsNs mb/\∀x:Str,x≠"__name__"->mb x=bootBuiltins x
 nolimit:base.NoLimit
structure Cx where
 prog:Program
 w:World
 K:PySem.W.Frag
 mg:Str->Option Value
 base:Heap
 A:Around
 N:List Str
 s₀:Shared
 H₀:Hp
 env:Env
 outer:List Env
 stack:List Env
 ex:List Addr
 fn:Str->Bool
 CS:Bool
 pn:List (Addr×Obj)
 xe:Value->Shared->Prop
def E5(l:List Env):List Addr:=l.filterMap (·.frame)
abbrev Cx.fs(X:Cx):List Addr:=E5 X.outer
def Pa(sc:Scope)(x:Str):Prop:=sc.names.lookup x=some .local\/sc.names.lookup x=some .cell\/sc.names.lookup x=some .free
def JZ(sc:Scope)(x:Str):Prop:=sc.names.lookup x=some .local\/sc.names.lookup x=some .cell
def cO(env:Env)(h:Heap)(m:Str->Option Value)(x:Str)(u:Value):Prop :=
 (env.kindOf x=some .local/\m x=some u)\/((env.kindOf x=some .cell\/env.kindOf x=some .free)/\∃c,env.cells.lookup x=some c/\h.IsCell c (some u))
structure Cx.Ok(X:Cx):Prop where
 DI:Mod X.K X.mg X.base
 kind:X.env.scope.kind=.function
 GB:X.env.globals=mainGlobals
 JT:X.env.builtins=builtinsNs
 above:X.s₀.heap.objs.size<=X.env.locals
 inj:∀x y c,X.env.cells.lookup x=some c->X.env.cells.lookup y=some c->x=y
 has:∀x,(X.env.kindOf x=some .cell\/X.env.kindOf x=some .free)->∃c,X.env.cells.lookup x=some c
 Km:∀x c,X.fn x=true->X.env.cells.lookup x=some c->X.s₀.heap.objs.size<=c
 hd:X.CS=true->X.A.handled=none
 frames:X.A.frames=some X.stack
 MI:X.stack=X.outer\/(X.stack=X.env :: X.outer/\X.env.frame=some X.env.locals)
 U8:∀b∈X.ex,b≠X.env.locals/\∀x c,X.env.cells.lookup x=some c->c≠b
 bs:∀b o,X.base.get? b=some o->X.s₀.heap.get? b=some o/\X.H₀ b=none
 FY:X.base.objs.size<=X.s₀.heap.objs.size
 KI:∀b o,X.base.get? b=some o->b∉X.ex
 Ka:∀b∈X.ex,b∉X.fs
 Ec:X.s₀.heap.FunFrames X.base X.outer
 IF:∀b∈X.fs,X.H₀ b=none
structure AI(X:Cx)(pins:List (Addr×Obj))(σ:List (Option V))(H:Hp)(s:Shared):Prop where
 ok:X.Ok
 os:s.os=X.s₀.os
 bare:AllBare s.gens
 base:Un X.fs X.ex X.H₀ H X.s₀.heap s.heap
 Dm:∃m,s.heap.Ns X.env.locals m/\∀(i:Nat) (x:Str) (v:V),X.N[i]?=some x->σ[i]?=some (some v)->Pa X.env.scope x->∃u,Au v u/\cO X.env s.heap m x u
 cell:∀x c,X.env.cells.lookup x=some c->∃v,s.heap.IsCell c v
 free:H X.env.locals=none
 FJ:∀x c,X.env.cells.lookup x=some c->H c=none
 DT:∀p∈X.pn++pins,s.heap.get? p.1=some p.2/\H p.1=none/\p.1≠X.env.locals/\p.1∉X.fs/\∀v,p.2.data≠.cell v
 hok:Br X.prog X.w H s.heap
 len:σ.length=X.N.length
section
variable {X:Cx} {pins:List (Addr×Obj)} {σ:List (Option V)} {H H':Hp} {s:Shared} {h':Heap}
theorem Cx.Ok.cN(ok:X.Ok){b:Addr}{o:Obj}(e:X.base.get? b=some o):b∉X.fs:=λhb=>by
 have:=(ok.Ec.mem hb).1
 rw[e] at this; cases this
theorem AI.bs(I:AI X pins σ H s):∀b o,X.base.get? b=some o->s.heap.get? b=some o/\H b=none:=λb o e =>
 ⟨I.base.keep b o (I.ok.bs b o e).1 (I.ok.bs b o e).2 (I.ok.cN e) (I.ok.KI b o e),I.base.free b o (I.ok.bs b o e).1 (I.ok.bs b o e).2 (I.ok.KI b o e)⟩
theorem AI.bk(I:AI X pins σ H s):∀b o,X.base.get? b=some o->s.heap.get? b=some o:=λb o e=>(I.bs b o e).1
theorem AI.DI(I:AI X pins σ H s):Mod X.K X.mg X.base:=I.ok.DI
theorem AI.DV(I:AI X pins σ H s):X.K.In s.heap:=I.ok.DI.PN.keeps I.bk
theorem AI.nolimit(I:AI X pins σ H s):s.heap.NoLimit:=I.ok.DI.nolimit.keeps I.bk
theorem AI.fr(I:AI X pins σ H s):∃m,Fr X.base X.env.locals s.heap m :=
 let ⟨m,hn,_⟩:=I.Dm
 ⟨m,hn,I.bk,fY I.ok.FY I.ok.above⟩
theorem AI.lt(I:AI X pins σ H s):X.env.locals<s.heap.objs.size:=let ⟨_,hn,_⟩:=I.Dm; hn.lt
theorem AI.sz(I:AI X pins σ H s):X.s₀.heap.objs.size<=s.heap.objs.size:=fY I.ok.above (Nat.le_of_lt I.lt)
theorem AI.cV(I:AI X pins σ H s){a:Addr}(h:s.heap.objs.size<=a):a∉X.fs:=λhb=>by
 obtain⟨_,o,ho,_⟩:=I.ok.Ec.mem hb;exact absurd (gI (fJ ho) (fY I.sz h)) (jb _)
theorem AI.cne(I:AI X pins σ H s):∀x c,X.env.cells.lookup x=some c->c≠X.env.locals:=λx c e z=>by
 obtain⟨v,o,ho,hd⟩:=I.cell x c e;obtain⟨m,⟨o',es,ep,ho',hd',_⟩,_⟩:=I.Dm;rw[z,ho'] at ho; cases ho; rw[hd'] at hd; cases hd
theorem AI.Ec(I:AI X pins σ H s):s.heap.FunFrames X.base X.outer:=by
 have all:∀(l:List Env),(∀b∈E5 l,b∈X.fs)->X.s₀.heap.FunFrames X.base l->s.heap.FunFrames X.base l:=by
  intro l
  induction l with
  | nil=>intro _ _; trivial
  | cons env r ih =>
   intro hs hl;obtain⟨hk,⟨L,o,hf,hn,ho,hd⟩,hr⟩:=hl;have hL:L∈X.fs:=hs L (by unfold E5; rw[List.filterMap_cons,hf]; exact ir);obtain⟨sl,e⟩:=I.base.slot L o ho (I.ok.IF L hL) hL λz=>I.ok.Ka L z hL
   exact⟨hk,⟨L,_,hf,hn,e,hd⟩,ih (λb hb=>hs b (by unfold E5; rw[List.filterMap_cons,hf]; exact gJ _ hb)) hr⟩
 exact all X.outer (λ_ hb=>hb) I.ok.Ec
theorem AI.stack(I:AI X pins σ H s):s.heap.FunFrames X.base X.stack:=by
 rcases I.ok.MI with e | ⟨e,hf⟩
 ·rw[e]; exact I.Ec
 ·rw[e];obtain⟨m,hn,_⟩:=I.Dm;refine .cons (by rw[I.ok.kind]; decide) hf hn ?_ I.Ec;exact Heap.get?_none_of_le (fY I.ok.FY I.ok.above)
theorem AI.LN(I:AI X pins σ H s):∀b∈E5 X.stack,b∈X.env.locals :: X.fs:=λb hb=>by
 rcases I.ok.MI with e | ⟨e,hf⟩
 ·rw[e] at hb; exact gJ _ hb
 ·rw[e] at hb;unfold E5 at hb;rw[List.filterMap_cons,hf] at hb;exact hb
theorem AI.SG(I:AI X pins σ H s):∀b∈E5 X.stack,H b=none:=λb hb=>by
 rcases fE.mp (I.LN b hb) with e | hb
 ·rw[e]; exact I.free
 ·obtain⟨_,o,ho,_⟩:=I.ok.Ec.mem hb;exact I.base.free b o ho (I.ok.IF b hb) λz=>I.ok.Ka b z hb
theorem AI.step {g':Array GenState} {t':Nat} {d':Drawn} {ch:List Addr} (I:AI X pins σ H s)
  (hch:∀b∈ch,(b∈X.ex\/X.s₀.heap.objs.size<=b)/\b≠X.env.locals/\(∀x c,X.env.cells.lookup x=some c->c≠b)/\∀p∈X.pn++pins,p.1≠b)
  (keep:∀b o,b≠X.env.locals->b∉X.fs->b∉ch->s.heap.get? b=some o->H b=none->h'.get? b=some o)
  (slot:∀b o,b≠X.env.locals->b∈X.fs->b∉ch->s.heap.get? b=some o->H b=none->∃sl,h'.get? b=some { o with slots:=sl }) (free:∀b o,b∉ch->s.heap.get? b=some o->H b=none->H' b=none)
  (there:∀b o,b∉ch->s.heap.get? b=some o->∃o',h'.get? b=some o')
  (tups:∀b xs,H b=some (.AG xs)->H' b=some (.AG xs)) (frzs:∀b o u,H b=some (.D7 o u)->H' b=some (.D7 o u)) (tbls:∀b ps,H b=some (.IH ps)->∃more,H' b=some (.IH (ps++more)))
  (ns:∀m,s.heap.Ns X.env.locals m->h'.Ns X.env.locals m) (hok:Br X.prog X.w H' h') (hg:AllBare g') :
  AI X pins σ H' { s with heap:=h',gens:=g',drawn:=d',toks:=t' }:=by
 have neL:∀b o,X.s₀.heap.get? b=some o->b≠X.env.locals:=λb o e=>gS (gI (fJ e) I.ok.above)
 have neC:∀b o,X.s₀.heap.get? b=some o->b∉X.ex->b∉ch:=λb o e hx hb=>by
  rcases(hch b hb).1 with z | z
  ·exact hx z
  ·exact absurd (gI (fJ e) z) (jb _)
 have cellK:∀x c,X.env.cells.lookup x=some c->∀v,s.heap.IsCell c v->h'.IsCell c v:=λx c e v ⟨o,ho,hd⟩=>by
  have nch:c∉ch:=λz=>(hch c z).2.2.1 x c e rfl
  by_cases hc:c∈X.fs
  ·obtain⟨sl,q⟩:=slot c o (I.cne x c e) hc nch ho (I.FJ x c e);exact⟨_,q,hd⟩
  ·exact⟨o,keep c o (I.cne x c e) hc nch ho (I.FJ x c e),hd⟩
 refine⟨I.ok,I.os,hg,⟨λb o e n hb hx=>?_,λb o e n hb hx=>?_,λb o e n hx=>?_,λb o e hx=>?_,λb xs e=>tups b xs (I.base.tups b xs e),λb o xs e=>frzs b o xs (I.base.frzs b o xs e),λb ps e=>?_⟩,?_,λx c e=>?_,?_,λx c e=>?_,λp hp=>?_,hok,I.len⟩
 ·exact keep b o (neL b o e) hb (neC b o e hx) (I.base.keep b o e n hb hx) (I.base.free b o e n hx)
 ·obtain⟨sl,e1⟩:=I.base.slot b o e n hb hx;obtain⟨sl',e2⟩:=slot b _ (neL b o e) hb (neC b o e hx) e1 (I.base.free b o e n hx);exact⟨sl',e2⟩
 ·obtain⟨o',e1⟩:=I.base.there b o e hx;exact free b o' (neC b o e hx) e1 (I.base.free b o e n hx)
 ·obtain⟨o',e1⟩:=I.base.there b o e hx;exact there b o' (neC b o e hx) e1
 ·obtain⟨m1,e1⟩:=I.base.tbls b ps e;obtain⟨m2,e2⟩:=tbls b _ e1;exact⟨m1++m2,by rw[e2,Array.append_assoc]⟩
 ·obtain⟨m,hn,hl⟩:=I.Dm;refine⟨m,ns m hn,λi x v e1 e2 e3=>?_⟩;obtain⟨u,r,l⟩:=hl i x v e1 e2 e3;refine⟨u,r,?_⟩;rcases l with l | ⟨k,c,e,z⟩
  ·exact .inl l
  ·exact .inr ⟨k,c,e,cellK x c e _ z⟩
 ·obtain⟨v,z⟩:=I.cell x c e;exact⟨v,cellK x c e v z⟩
 ·obtain⟨m,⟨o,_,_,ho,_⟩,_⟩:=I.Dm;exact free _ o (λz=>(hch _ z).2.1 rfl) ho I.free
 ·obtain⟨v,o,ho,hd⟩:=I.cell x c e;exact free c o (λz=>(hch c z).2.2.1 x c e rfl) ho (I.FJ x c e)
 ·obtain⟨e,n,ne,nf,d⟩:=I.DT p hp;have nch:p.1∉ch:=λz=>(hch p.1 z).2.2.2 p hp rfl
  exact⟨keep p.1 p.2 ne nf nch e n,free p.1 p.2 nch e n,ne,nf,d⟩
theorem AI.un{t':Nat}(I:AI X pins σ H s)(u:Un X.fs [] H H' s.heap h')(hok:Br X.prog X.w H' h'):AI X pins σ H' { s with heap:=h',toks:=t' }:=by
 obtain⟨m,⟨o,es,ep,ho,r⟩,_⟩:=id I.Dm;obtain⟨sl,hL⟩:=u.any ho I.free (by simp);exact I.step (g':=s.gens) (d':=s.drawn) (ch:=[]) (λ_ z=>nomatch z) (λb o _ hb _ e n=>u.keep b o e n hb (by simp)) (λb o _ hb _ e n=>u.slot b o e n hb (by simp)) (λb o _ e n=>u.free b o e n (by simp)) (λb o _ e=>u.there b o e (by simp)) u.tups u.frzs u.tbls (λm' hm=>by
  obtain⟨o',es',ep',ho',r'⟩:=hm;rw[ho] at ho'; cases ho';exact⟨_,es',ep',hL,r'⟩) hok I.bare
theorem AI.call {g':Array GenState} {t':Nat} {d':Drawn} {ch:List Addr} (I:AI X pins σ H s) (u:Un (E5 X.stack) ch H H' s.heap h') (hok:Br X.prog X.w H' h') (hg:AllBare g')
  (hch:∀b∈ch,(b∈X.ex\/X.s₀.heap.objs.size<=b)/\b≠X.env.locals/\(∀x c,X.env.cells.lookup x=some c->c≠b)/\∀p∈X.pn++pins,p.1≠b) :
  AI X pins σ H' { s with heap:=h',gens:=g',drawn:=d',toks:=t' }:=by
 obtain⟨m,⟨o,es,ep,ho,r⟩,_⟩:=id I.Dm;obtain⟨sl,hL⟩:=u.any ho I.free λz=>(hch _ z).2.1 rfl
 exact I.step (ch:=ch) hch (λb o hL hb hc e n=>u.keep b o e n (λz=>(fE.mp (I.LN b z)).elim hL hb) hc) (λb o _ _ hc e n=>u.any e n hc) (λb o hc e n=>u.free b o e n hc) (λb o hc e=>u.there b o e hc) u.tups u.frzs u.tbls (λm' hm=>by
  obtain⟨o',es',ep',ho',r'⟩:=hm;rw[ho] at ho'; cases ho';exact⟨_,es',ep',hL,r'⟩) hok hg
theorem AI.Dh {t':Nat} {it:Addr} (I:AI X pins σ H s) (k:∀b o,b≠it->s.heap.get? b=some o->h'.get? b=some o) (hn:H it=none) (hL:it≠X.env.locals)
  (h1:it∈X.ex\/X.s₀.heap.objs.size<=it) (h2:∀x c,X.env.cells.lookup x=some c->c≠it) (h3:∀p∈X.pn++pins,p.1≠it):AI X pins σ H { s with heap:=h',toks:=t' }:=by
 have nit:∀b u,H b=some u->b≠it:=λb u e z=>by rw[z,hn] at e; cases e
 refine I.step (g':=s.gens) (d':=s.drawn) (ch:=[it]) (λb hb=>?_) (λb o _ _ hc e _=>k b o (λz=>hc (by simp[z])) e) (λb o _ _ hc e _=>⟨o.slots,k b o (λz=>hc (by simp[z])) e⟩) (λ_ _ _ _ n=>n)
  (λb o hc e=>⟨o,k b o (λz=>hc (by simp[z])) e⟩) (λ_ _ e=>e) (λ_ _ _ e=>e) (λb ps e=>⟨#[],by rw[e]; simp⟩) (λm hm=>?_) (λb u e=>?_) I.bare
 ·have e:b=it:=by simpa using hb
  subst e;exact⟨h1,hL,h2,h3⟩
 ·obtain⟨o,es,ep,ho,r⟩:=hm;exact⟨o,es,ep,k _ o (iB hL) ho,r⟩
 ·refine(I.hok b u e).FV (λc v hc q=>k c v ?_ q) (λ_ q=>q) λ_ _ q=>q
  rcases hc with z | z
  ·rw[z]; exact nit b u e
  ·exact nit c _ z
theorem AI.DU(I:AI X pins σ H s)(t:Nat):AI X pins σ H { s with toks:=t }:=I.un (h':=s.heap) (t':=t) Un.refl I.hok
theorem AI.Bn{t':Nat}(I:AI X pins σ H s)(k:∀b u,s.heap.get? b=some u->h'.get? b=some u):AI X pins σ H { s with heap:=h',toks:=t' }:=I.un (Un.Bn k) (I.hok.Bn k)
theorem AI.C6{a:Addr}{o:HO}{t':Nat}(I:AI X pins σ H s)(k:∀b u,s.heap.get? b=some u->h'.get? b=some u)(hp:s.heap.objs.size<=a)(new:BY X.prog X.w (AF H a o) h' a o):
  AI X pins σ (AF H a o) { s with heap:=h',toks:=t' }:=I.un (Un.C6 k hp (I.hok.BW hp)) (I.hok.C6 k hp new)
theorem AI.Hh {x e:Addr} {o:HO} {t':Nat} (I:AI X pins σ H s) (mu:Kb (H x)) (he:e=x\/H e=some (.ES x)) (k:∀b u,b≠e->s.heap.get? b=some u->h'.get? b=some u) (heo:∃u,h'.get? e=some u)
  (new:BY X.prog X.w (AF H x o) h' x o):AI X pins σ (AF H x o) { s with heap:=h',toks:=t' }:=I.un (Un.Hh mu he k heo) (I.hok.Hh mu he k heo new)
theorem AI.RQ{pins':List (Addr×Obj)}(I:AI X pins σ H s)(h:∀p∈pins',s.heap.get? p.1=some p.2/\H p.1=none/\p.1≠X.env.locals/\p.1∉X.fs/\∀v,p.2.data≠.cell v):AI X pins' σ H s :=
 ⟨I.ok,I.os,I.bare,I.base,I.Dm,I.cell,I.free,I.FJ,λp hp=>(fm.mp hp).elim (λz=>I.DT p (iS _ z)) (h p),I.hok,I.len⟩
theorem Qd{N:List Str}(hN:N.Nodup){i j:Nat}{x:Str}(a:N[i]?=some x)(b:N[j]?=some x):i=j:=by
 obtain⟨h1,e1⟩:=eu.mp a;obtain⟨h2,e2⟩:=eu.mp b;exact(List.getElem_inj hN).mp (e1.trans e2.symm)
theorem Qb {M:Model} {A:Around} {E:Value->Shared->Prop} {i:Nat} {x:Str} {v:V} {u:Value} {Q:Unit->Shared->Prop} (I:AI X pins σ H s) (hN:X.N.Nodup) (hi:X.N[i]?=some x) (hx:JZ X.env.scope x) (r:Au v u)
  (h:∀s',AI X pins (σ.set i (some v)) H s'->(∃a,Heap.SameBut a s.heap s'.heap/\(a=X.env.locals\/X.env.cells.lookup x=some a))->Q () s') (hf:X.fn x=true\/X.env.scope.names.lookup x=some .local:=by first | exact .inl rfl | exact .inr rfl | assumption):wpAny M A (storeName X.env x u) Q E s:=by
 obtain⟨m,hn,hl⟩:=id I.Dm;have hcls:(X.env.scope.kind == .class || (X.env.scope.kind == .module && X.env.locals != X.env.globals))=false:=by rw[I.ok.kind]; rfl
 have hiσ:i<σ.length:=by rw[I.len]; exact(eu.mp hi).1
 have cne:=I.cne;have tracked:∀{a:Addr} {h':Heap},(∃o,s.heap.get? a=some o/\H a=none)->Heap.SameBut a s.heap h'->Br X.prog X.w H h':=λ{a h'} ha hs b ob e=>by
  obtain⟨_,_,hfree⟩:=ha;refine(I.hok b ob e).FV (λc w' hc q=>(hs.2 c ?_).trans q) (λ_ q=>q) λ_ _ q=>q
  rintro rfl;rcases hc with rfl | hc
  ·rw[hfree] at e; cases e
  ·rw[hfree] at hc; cases hc
 rcases hx with hk | hk
 ·refine wpAny_storeName_local hk hn (λh' hn' hs=>?_) hcls;obtain⟨oL,_,_,hoL,_⟩:=id hn;refine h _ ⟨I.ok,I.os,I.bare,⟨λb o e n hb hx=>?_,λb o e n hb hx=>?_,I.base.free,λb o e hx=>?_,I.base.tups,I.base.frzs,I.base.tbls⟩,⟨_,hn',λj y v' e1 e2 e3=>?_⟩,λy c e=>?_,I.free,I.FJ,λp hp=>?_,tracked ⟨oL,hoL,I.free⟩ hs,by simpa using I.len⟩ ⟨_,hs,.inl rfl⟩
  ·exact(hs.2 b (gS (gI (fJ e) I.ok.above))).trans (I.base.keep b o e n hb hx)
  ·obtain⟨sl,e1⟩:=I.base.slot b o e n hb hx;exact⟨sl,(hs.2 b (gS (gI (fJ e) I.ok.above))).trans e1⟩
  ·obtain⟨o',e1⟩:=I.base.there b o e hx;exact⟨o',(hs.2 b (gS (gI (fJ e) I.ok.above))).trans e1⟩
  ·by_cases hj:j=i
   ·subst hj;rw[hi] at e1; cases e1;rw[gp hiσ] at e2;cases e2;exact⟨u,r,.inl ⟨hk,by simp⟩⟩
   ·rw[gn (iB hj)] at e2;obtain⟨u',r',q⟩:=hl j y v' e1 e2 e3;refine⟨u',r',?_⟩;rcases q with ⟨k,e⟩ | ⟨k,c,e,z⟩
    ·refine .inl ⟨k,?_⟩
     have:y≠x:=λe=>hj (Qd hN e1 (e ▸ hi))
     simp[this,e]
    ·exact .inr ⟨k,c,e,z.sameBut hs (cne y c e)⟩
  ·obtain⟨w',z⟩:=I.cell y c e;exact⟨w',z.sameBut hs (cne y c e)⟩
  ·obtain⟨e,n,ne,nf,d⟩:=I.DT p hp;exact⟨(hs.2 p.1 ne).trans e,n,ne,nf,d⟩
 ·have hfn:X.fn x=true:=by
   rcases hf with z | z
   ·exact z
   ·rw[z] at hk; cases hk
  obtain⟨c,hc⟩:=I.ok.has x (.inl hk);obtain⟨w',z⟩:=I.cell x c hc;refine wpAny_storeName_cell I.ok.kind hk hc z (λh' hc' hs=>?_);obtain⟨oc,hoc,hocd⟩:=id z;refine h { s with heap:=h' } ⟨I.ok,I.os,I.bare,⟨λb o e n hb hx=>?_,λb o e n hb hx=>?_,I.base.free,λb o e hx=>?_,I.base.tups,I.base.frzs,I.base.tbls⟩,⟨m,hn.sameBut hs (iB (cne x c hc)),λj y v' e1 e2 e3=>?_⟩,λy c' e=>?_,I.free,I.FJ,λp hp=>?_,tracked ⟨oc,hoc,I.FJ x c hc⟩ hs,by simpa using I.len⟩ ⟨c,hs,.inr hc⟩
  ·exact(hs.2 b (gS (gI (fJ e) (I.ok.Km x c hfn hc)))).trans (I.base.keep b o e n hb hx)
  ·obtain⟨sl,e1⟩:=I.base.slot b o e n hb hx;exact⟨sl,(hs.2 b (gS (gI (fJ e) (I.ok.Km x c hfn hc)))).trans e1⟩
  ·obtain⟨o',e1⟩:=I.base.there b o e hx;exact⟨o',(hs.2 b (gS (gI (fJ e) (I.ok.Km x c hfn hc)))).trans e1⟩
  ·by_cases hj:j=i
   ·subst hj;rw[hi] at e1; cases e1;rw[gp hiσ] at e2;cases e2;exact⟨u,r,.inr ⟨.inl hk,c,hc,hc'⟩⟩
   ·rw[gn (iB hj)] at e2;obtain⟨u',r',q⟩:=hl j y v' e1 e2 e3;refine⟨u',r',?_⟩;rcases q with q | ⟨k,c',e,z'⟩
    ·exact .inl q
    ·refine .inr ⟨k,c',e,z'.sameBut hs ?_⟩;rintro rfl;exact hj (Qd hN e1 (I.ok.inj _ _ _ e hc ▸ hi))
  ·by_cases hcc:c'=c
   ·subst hcc; exact⟨_,hc'⟩
   ·obtain⟨w2,z2⟩:=I.cell y c' e;exact⟨w2,z2.sameBut hs hcc⟩
  ·obtain⟨e,n,ne,nf,d⟩:=I.DT p hp;refine⟨(hs.2 p.1 ?_).trans e,n,ne,nf,d⟩;intro q;rw[q,hoc] at e;have q':oc=p.2:=fC e;exact d w' (by rw[<-q']; exact hocd)
theorem Qk {M:Model} {A:Around} {E:Value->Shared->Prop} {i:Nat} {x:Str} {v:V} {u:Value} {Q:Unit->Shared->Prop} (I:AI X pins σ H s) (hN:X.N.Nodup) (hi:X.N[i]?=some x) (hx:JZ X.env.scope x) (r:Au v u)
  (h:∀s',AI X pins (σ.set i (some v)) H s'->Q () s') (hf:X.fn x=true\/X.env.scope.names.lookup x=some .local:=by first | exact .inl rfl | exact .inr rfl | assumption):wpAny M A (storeName X.env x u) Q E s :=
 Qb I hN hi hx r (λs' I' _=>h s' I') hf
theorem AI.bg {s':Shared} {ch:List Addr} (I:AI X pins σ H s) (ho:s'.os=s.os) (u:Un (E5 X.stack) ch H H' s.heap s'.heap) (hok:Br X.prog X.w H' s'.heap) (hg:AllBare s'.gens)
  (hch:∀b∈ch,(b∈X.ex\/X.s₀.heap.objs.size<=b)/\b≠X.env.locals/\(∀x c,X.env.cells.lookup x=some c->c≠b)/\∀p∈X.pn++pins,p.1≠b):AI X pins σ H' s':=by
 obtain⟨h',g',d',t',o'⟩:=s';have e:o'=s.os:=ho;subst e;exact I.call (g':=g') (t':=t') (d':=d') u hok hg hch
end
abbrev XK:=Value->Option Addr->Hp->Prop
abbrev St:=List (Option V)
abbrev VK:=V->Hp->Prop
abbrev TE:=St->Hp->VK->Prop
abbrev TT:=St->Hp->(Bool->Hp->Prop)->Prop
abbrev TA:=St->Hp->(List V->Hp->Prop)->Prop
structure C7 where
 nx:St->Hp->Prop
 rt:VK
 bk:St->Hp->Prop:=λ_ _=>False
 ct:St->Hp->Prop:=λ_ _=>False
abbrev TS:=C7->St->Hp->Prop
def EP(X:Cx)(pins:List (Addr×Obj))(σ:St)(Q:VK)(u:Value)(s':Shared):Prop:=∃v H',AI X pins σ H' s'/\Au v u/\Q v H'
def TP(X:Cx)(pins:List (Addr×Obj))(σ:St)(Q:Bool->Hp->Prop)(b:Bool)(s':Shared):Prop:=∃H',AI X pins σ H' s'/\Q b H'
def AP(X:Cx)(pins:List (Addr×Obj))(σ:St)(Q:List V->Hp->Prop)(us:List Value)(s':Shared):Prop:=∃vs H',AI X pins σ H' s'/\Ag vs us/\Q vs H'
def SP(X:Cx)(pins:List (Addr×Obj))(D:C7)(f:Flow)(s':Shared):Prop :=
 match f with
 | .next=>∃σ' H',AI X pins σ' H' s'/\D.nx σ' H'
 | .brk=>∃σ' H',AI X pins σ' H' s'/\D.bk σ' H'
 | .cont=>∃σ' H',AI X pins σ' H' s'/\D.ct σ' H'
 | .ret u=>∃v σ' H',AI X pins σ' H' s'/\Au v u/\D.rt v H'
def PE(X:Cx)(e:Expr)(t:TE):Prop :=
 ∀(pins:List (Addr×Obj)) (s:Shared) (σ:St) (H:Hp) (Q:VK),AI X pins σ H s->t σ H Q->wpAny (model X.prog X.w) X.A (eval e X.env) (EP X pins σ Q) X.xe s
def PT(X:Cx)(e:Expr)(t:TT):Prop :=
 ∀(pins:List (Addr×Obj)) (s:Shared) (σ:St) (H:Hp) (Q:Bool->Hp->Prop),AI X pins σ H s->t σ H Q->wpAny (model X.prog X.w) X.A (isTrue e X.env (eval e X.env)) (TP X pins σ Q) X.xe s
def PW(X:Cx)(e:Expr)(t:TT):Prop :=
 ∀(whole:Sem Value) (pins:List (Addr×Obj)) (s:Shared) (σ:St) (H:Hp) (Q:Bool->Hp->Prop),AI X pins σ H s->t σ H Q->wpAny (model X.prog X.w) X.A (isTrue e X.env whole) (TP X pins σ Q) X.xe s
theorem PW.pt{X:Cx}{e:Expr}{t:TT}(h:PW X e t):PT X e t:=h _
def PA(X:Cx)(es:List Expr)(t:TA):Prop :=
 ∀(pos:Pos) (pins:List (Addr×Obj)) (s:Shared) (σ:St) (H:Hp) (Q:List V->Hp->Prop),AI X pins σ H s->t σ H Q->wpAny (model X.prog X.w) X.A (spliced (backTo pos (starEach es X.env))) (AP X pins σ Q) X.xe s
def PS(X:Cx)(st:Stmt)(t:TS):Prop :=
 ∀(pins:List (Addr×Obj)) (s:Shared) (σ:St) (H:Hp) (D:C7),AI X pins σ H s->t D σ H->wpAny (model X.prog X.w) X.A (exec st X.env) (SP X pins D) X.xe s
def CW(X:Cx)(st:List Stmt)(t:TS):Prop :=
 ∀(pins:List (Addr×Obj)) (s:Shared) (σ:St) (H:Hp) (D:C7),AI X pins σ H s->t D σ H->wpAny (model X.prog X.w) X.A (execs st X.env) (SP X pins D) X.xe s
theorem Ai{α:Type}{t:Sem α}{Q Q':α->Shared->Prop}{M:Model}{A:Around}{E:Value->Shared->Prop}{s:Shared}(h:wpAny M A t Q E s)(hQ:∀a s,Q a s->Q' a s):wpAny M A t Q' E s:=iT h hQ λ_ _ x=>x
section
variable {X:Cx}
inductive Uk(i:Nat)(σ:St)(H:Hp)(Q:VK):Prop
 | mk (v:V) (e:σ[i]?=some (some v)) (q:Q v H):Uk i σ H Q
def Ax(i:Nat):TE:=λσ H Q=>Uk i σ H Q
inductive PZ(x:V)(H:Hp)(Q:Bool->Hp->Prop):Prop
 | mk (c:Bool) (e:x=.bl c) (q:Q c H):PZ x H Q
def tC(v:V):TE:=λ_ H Q=>Q v H
theorem Zv{i:Nat}{x:Str}{pos:Pos}(hN:X.N[i]?=some x)(hv:Pa X.env.scope x)(hd:(x == ("__debug__":Str))=false:=by decide)(hcd:(x == ("__classdict__":Str))=false:=by decide):PE X (.Name x pos) (Ax i):=by
 intro pins s σ H Q I h;obtain⟨v,e,h⟩:=h;obtain⟨m,hn,hl⟩:=I.Dm;obtain⟨u,r,l⟩:=hl i x v hN e hv;have fin:EP X pins σ Q u s:=⟨v,H,I,r,h⟩;rcases l with ⟨hk,hm⟩ | ⟨hk,c,hc,hcell⟩
 ·exact wpAny_Name (wpAny_loadName_local I.ok.kind hk hn hm fin) hd
 ·rcases hk with hk | hk
  ·exact wpAny_Name (wpAny_loadName_cell I.ok.kind hk hc hcell fin) hd
  ·exact wpAny_Name (wpAny_loadName_free I.ok.kind hk hc hcell fin hcd) hd
theorem AD{i j pos}:PE X (.Constant (.int i) j pos) (tC (.int i)):=λ_ _ _ H _ I h=>wpAny_Constant_int ⟨.int i,H,I.DU _,⟨_,rfl⟩,h⟩
theorem Gi{b j pos}:PE X (.Constant (.bool b) j pos) (tC (.bl b)):=λ_ _ _ H _ I h=>Constant_bool ⟨.bl b,H,I,rfl,h⟩
theorem J5{j pos}:PE X (.Constant .none j pos) (tC .BA):=λ_ _ _ H _ I h=>Constant_none ⟨.BA,H,I,rfl,h⟩
def Gl(X:Cx)(x:Str):Prop:=X.env.kindOf x=some .globalImplicit
theorem Y0 {E:Value->Shared->Prop} {pins:List (Addr×Obj)} {s:Shared} {σ:St} {H:Hp} {x:Str} {u:Value} {pos:Pos} {Q:Value->Shared->Prop} (I:AI X pins σ H s) (hg:Gl X x) (hm:X.mg x=some u) (h:Q u s)
  (hd:(x == ("__debug__":Str))=false:=by decide):wpAny (model X.prog X.w) X.A (eval (.Name x pos) X.env) Q E s :=
 Calls.Name_function_global I.ok.kind hg (Calls.loadGlobal_global (by rw[I.ok.GB]; exact I.DI.GB.keeps I.bk) hm h) hd
theorem DX {E:Value->Shared->Prop} {pins:List (Addr×Obj)} {s:Shared} {σ:St} {H:Hp} {x:Str} {u:Value} {pos:Pos} {Q:Value->Shared->Prop} (I:AI X pins σ H s) (hg:Gl X x) (hm:X.mg x=none) (hv:bootBuiltins x=some u) (h:Q u s)
  (hn:x≠"__name__":=by decide) (hd:(x == ("__debug__":Str))=false:=by decide):wpAny (model X.prog X.w) X.A (eval (.Name x pos) X.env) Q E s:=by
 obtain⟨mb,h1,h2⟩:=I.DI.JT;exact Calls.Name_function_global I.ok.kind hg (Calls.loadGlobal_builtin (by rw[I.ok.GB]; exact I.DI.GB.keeps I.bk) hm (by rw[I.ok.JT]; exact h1.keeps I.bk) ((h2 x hn).trans hv) h) hd
theorem Ii{x:Str}{v:V}{u:Value}{pos:Pos}(hg:Gl X x)(hm:X.mg x=none)(hv:bootBuiltins x=some u)(r:Au v u)(hn:x≠"__name__":=by decide)(hd:(x == ("__debug__":Str))=false:=by decide):PE X (.Name x pos) (tC v) :=
 λ_ _ _ H _ I h=>DX I hg hm hv ⟨v,H,I,r,h⟩ hn hd
variable {a b:Expr} {ta tb:TE} {pos:Pos}
def PC(X:Cx)(op:CmpOp)(a b:Expr)(t:TE):Prop :=
 ∀(pins:List (Addr×Obj)) (s:Shared) (σ:St) (H:Hp) (Q:VK),AI X pins σ H s->t σ H Q →
  wpAny (model X.prog X.w) X.A (eval a X.env) (λv s₁=>wpAny (model X.prog X.w) X.A (eval b X.env) (λu s₂=>wpAny (model X.prog X.w) X.A (compareOp op v u) (EP X pins σ Q) X.xe s₂) X.xe s₁) X.xe s
theorem nobehind(b:Expr){op:CmpOp}(h:op≠.In)(h2:op≠.NotIn):behindInMarks op b=false:=by
 have e1:(op == CmpOp.In)=false:=by cases op <;> first | rfl | exact absurd rfl h
 have e2:(op == CmpOp.NotIn)=false:=by cases op <;> first | rfl | exact absurd rfl h2
 cases b <;> simp[behindInMarks,e1,e2]
def tB(t:TE):TT:=λσ H Q=>t σ H λx H1=>PZ x H1 Q
theorem Fq{op:CmpOp}{t:TE}(h:PC X op a b t)(h1:behindInMarks op b=false:=by first | exact nobehind _ (by decide) (by decide) | rfl):PT X (.Compare a [op] [b] pos) (tB t):=by
 intro pins s σ H Q I hw;refine wpAny_isTrue_Compare1 (Ai (h pins s σ H _ I hw) λv s1 h1=>Ai h1 λu s2 h2=>Ai h2 λc s3 ⟨x,H1,I1,r1,q1⟩=>?_) h1;obtain⟨d,rfl,q⟩:=q1;cases r1;exact wpAny_truthy_bool ⟨H1,I1,q⟩
theorem FH{e:Expr}{t:TE}(h:PE X e t)(he:∀whole,isTrue e X.env whole=(do let v <-whole; standAt e.pos; holding [v] (truthy v)):=by intro _; rfl):PT X e (tB t):=by
 intro pins s σ H Q I hw;refine isTrue_plain (Ai (h pins s σ H _ I hw) λv s1 ⟨x,H1,I1,r1,q1⟩=>?_) (he _);obtain⟨d,rfl,q⟩:=q1;cases r1;exact wpAny_truthy_bool ⟨H1,I1,q⟩
variable {tA tB':TT} {rest:List Expr}
def dA(t u:TT):TT:=λσ H Q=>t σ H λc H1=>if c=true then u σ H1 Q else Q false H1
def dm(t u:TT):TT:=λσ H Q=>t σ H λc H1=>if c=true then Q true H1 else u σ H1 Q
def cZ(t:TT):TT:=λσ H Q=>t σ H λc H1=>Q (!c) H1
theorem LG(ha:PT X a tA):PW X (.BoolOp .And [a] pos) tA:=by
 intro wh pins s σ H Q I h;refine isTrue_and (Ai (ha pins s σ H Q I h) λc s1 e=>?_);cases c with
 | true=>exact isTrue_and_nil e
 | false=>exact e
theorem J1(ha:PT X a tA):PW X (.BoolOp .Or [a] pos) tA:=by
 intro wh pins s σ H Q I h;refine isTrue_or (Ai (ha pins s σ H Q I h) λc s1 e=>?_);cases c with
 | false=>exact isTrue_or_nil e
 | true=>exact e
theorem LS(ha:PT X a tA)(hb:PW X (.BoolOp .And (b :: rest) pos) tB'):PW X (.BoolOp .And (a :: b :: rest) pos) (dA tA tB'):=by
 intro wh pins s σ H Q I h;refine isTrue_and (Ai (ha pins s σ H _ I h) λc s1 ⟨H1,I1,q1⟩=>?_);cases c with
 | true=>exact hb wh pins s1 σ H1 Q I1 q1
 | false=>exact⟨H1,I1,q1⟩
theorem Hj(ha:PT X a tA)(hb:PW X (.BoolOp .Or (b :: rest) pos) tB'):PW X (.BoolOp .Or (a :: b :: rest) pos) (dm tA tB'):=by
 intro wh pins s σ H Q I h;refine isTrue_or (Ai (ha pins s σ H _ I h) λc s1 ⟨H1,I1,q1⟩=>?_);cases c with
 | true=>exact⟨H1,I1,q1⟩
 | false=>exact hb wh pins s1 σ H1 Q I1 q1
theorem Gd(ha:PT X a tA):PT X (.UnaryOp .Not a pos) (cZ tA):=by
 intro pins s σ H Q I h;exact isTrue_not (ha pins s σ H (λc H1=>Q (!c) H1) I h)
def bL(ta tb:TE):TE:=λσ H Q=>ta σ H λx H1=>∃c,x=.bl c/\if c=true then tb σ H1 Q else Q (.bl false) H1
def aq(ta:TE):TE:=λσ H Q=>ta σ H λx H1=>∃c,x=.bl c/\Q (.bl (!c)) H1
theorem Su{op}{t:TE}(h:PE X a t):PE X (.BoolOp op [a] pos) t:=λpins s σ H Q I hw=>BoolOp_one (h pins s σ H Q I hw)
theorem Ny(ha:PE X a ta)(hb:PE X (.BoolOp .And (b :: rest) pos) tb):PE X (.BoolOp .And (a :: b :: rest) pos) (bL ta tb):=by
 intro pins s σ H Q I h;refine BoolOp_and (Ai (ha pins s σ H _ I h) λv s1 ⟨x,H1,I1,r1,q1⟩=>?_);obtain⟨c,rfl,q1⟩:=q1;cases r1;refine wpAny_truthy_bool ?_;cases c with
 | true=>exact hb pins s1 σ H1 Q I1 q1
 | false=>exact⟨.bl false,H1,I1,rfl,q1⟩
theorem Z4(ha:PE X a ta):PE X (.UnaryOp .Not a pos) (aq ta):=by
 intro pins s σ H Q I h;refine UnaryOp_ (Ai (ha pins s σ H _ I h) λv s1 ⟨x,H1,I1,r1,q1⟩=>?_);obtain⟨c,rfl,q1⟩:=q1;cases r1;exact not_of (wpAny_truthy_bool ⟨.bl (!c),H1,I1,rfl,q1⟩)
def dX(t:TT)(ta tb:TE):TE:=λσ H Q=>t σ H λc H1=>if c=true then ta σ H1 Q else tb σ H1 Q
theorem Qy{c:Expr}(hc:PT X c tA)(ha:PE X a ta)(hb:PE X b tb):PE X (.IfExp c a b pos) (dX tA ta tb):=by
 intro pins s σ H Q I h;refine wpAny_IfExp (Ai (hc pins s σ H _ I h) λd s1 ⟨H1,I1,q1⟩=>?_);cases d with
 | true=>exact ha pins s1 σ H1 Q I1 q1
 | false=>exact hb pins s1 σ H1 Q I1 q1
end
def AM(K:PySem.W.Frag)(H:Hp)(a:Addr)(xs:List V):Prop :=
 Rd H a (.AB xs) \/
  ∃(o:Obj) (its:Array Value) (n:Nat),K.lookup a=some o/\o.cls=.type "list"/\o.dict=none/\o.data=.seq its n/\its.size<=sizeLine/\Ag xs its.toList
def AJ(K:PySem.W.Frag)(H:Hp)(a:Addr)(xs:List V):Prop :=
 Rd H a (.AG xs) \/
  ∃(o:Obj) (its:Array Value) (n:Nat),K.lookup a=some o/\o.cls=.type "tuple"/\o.data=.seq its n/\its.size<=sizeLine/\Ag xs its.toList
def cA:Value->Option V
 | .none=>some .BA
 | .bool b=>some (.bl b)
 | .int i _=>some (.int i)
 | .str x _=>some (.str x)
 | .bytes b _=>some (.E4 b)
 | .float b _=>some (.JQ b)
 | .ref a=>some (.ref a)
 | .type n=>some (.ty n)
 | _=>none
theorem Au.VJ{x:V}{u:Value}(r:Au x u):cA u=some x:=by
 cases x with
 | BA=>cases r; rfl
 | bl _=>cases r; rfl
 | int _=>obtain⟨t,rfl⟩:=r; rfl
 | str _=>obtain⟨t,rfl⟩:=r; rfl
 | E4 _=>obtain⟨t,rfl⟩:=r; rfl
 | JQ _=>obtain⟨t,rfl⟩:=r; rfl
 | ref _=>cases r; rfl
 | ty _=>cases r; rfl
theorem Au.inj{x y:V}{u:Value}(r:Au x u)(q:Au y u):x=y:=fC (r.VJ.symm.trans q.VJ)
theorem Ag.inj:∀{xs ys:List V} {us:List Value},Ag xs us->Ag ys us->xs=ys
 | _,_,_,.nil,.nil=>rfl
 | _,_,_,.cons r t,.cons r' t'=>by rw[r.inj r',Ag.inj t t']
section
variable {X:Cx} {pins:List (Addr×Obj)} {σ:St} {H:Hp} {s:Shared} {a:Addr} {xs ys:List V}
theorem AM.of{K:PySem.W.Frag}(h:H a=some (.AB xs)):AM K H a xs:=.inl (.inl h)
theorem AJ.of{K:PySem.W.Frag}(h:H a=some (.AG xs)):AJ K H a xs:=.inl (.inl h)
theorem AI.list(I:AI X pins σ H s)(h:AM X.K H a xs):∃its:List Value,Ag xs its/\PlainL s.heap a its.toArray/\xs.length<=sizeLine:=by
 rcases h with h | ⟨o,its,n,hk,hc,hd,hs,hz,r⟩
 ·obtain⟨z,its,n,r,e⟩:=h.ok I.hok;exact⟨its,r,⟨_,n,e,rfl,rfl,rfl⟩,z⟩
 ·refine⟨its.toList,r,⟨o,n,I.DV a o hk,hc,hd,by simpa using hs⟩,?_⟩;have e:=r.length;simp only[ij] at e;omega
theorem AI.tuple(I:AI X pins σ H s)(h:AJ X.K H a xs):∃its:List Value,Ag xs its/\IsTup s.heap a its.toArray/\xs.length<=sizeLine:=by
 rcases h with h | ⟨o,its,n,hk,hc,hs,hz,r⟩
 ·obtain⟨z,its,r,p,_⟩:=h.ok I.hok;exact⟨its,r,p,z⟩
 ·refine⟨its.toList,r,⟨o,I.DV a o hk,hc,n,by simpa using hs⟩,?_⟩;have e:=r.length;simp only[ij] at e;omega
theorem AI.list_inj(I:AI X pins σ H s)(h:AM X.K H a xs)(h':AM X.K H a ys):xs=ys:=by
 obtain⟨its,r,⟨o,n,e,_,_,d⟩,_⟩:=I.list h;obtain⟨its',r',⟨o',n',e',_,_,d'⟩,_⟩:=I.list h';rw[e] at e'; cases e';rw[d] at d';injection d' with d1 _
 have:its=its':=by simpa using congrArg Array.toList d1
 subst this;exact r.inj r'
theorem AI.QE(I:AI X pins σ H s)(h:AJ X.K H a xs)(h':AJ X.K H a ys):xs=ys:=by
 obtain⟨its,r,⟨o,e,_,n,d⟩,_⟩:=I.tuple h;obtain⟨its',r',⟨o',e',_,n',d'⟩,_⟩:=I.tuple h';rw[e] at e'; cases e';rw[d] at d';injection d' with d1 _
 have:its=its':=by simpa using congrArg Array.toList d1
 subst this;exact r.inj r'
end
abbrev Cx.Ee(X:Cx)(E:Value->Shared->Prop):Cx:={ X with xe:=E }
abbrev Cx.GK(X:Cx):Cx:=X.Ee λ_ _=>False
theorem Cx.Ok.Ee{X:Cx}(ok:X.Ok)(E:Value->Shared->Prop):(X.Ee E).Ok :=
 ⟨ok.DI,ok.kind,ok.GB,ok.JT,ok.above,ok.inj,ok.has,ok.Km,ok.hd,ok.frames,ok.MI,ok.U8,ok.bs,ok.FY,ok.KI,ok.Ka,ok.Ec,ok.IF⟩
theorem Cx.Ok.FE{X:Cx}{E:Value->Shared->Prop}(ok:(X.Ee E).Ok):X.Ok :=
 ⟨ok.DI,ok.kind,ok.GB,ok.JT,ok.above,ok.inj,ok.has,ok.Km,ok.hd,ok.frames,ok.MI,ok.U8,ok.bs,ok.FY,ok.KI,ok.Ka,ok.Ec,ok.IF⟩
section
variable {X:Cx} {pins:List (Addr×Obj)} {σ:St} {H:Hp} {s:Shared} {E:Value->Shared->Prop}
theorem AI.Ee(I:AI X pins σ H s)(E:Value->Shared->Prop):AI (X.Ee E) pins σ H s:=⟨I.ok.Ee E,I.os,I.bare,I.base,I.Dm,I.cell,I.free,I.FJ,I.DT,I.hok,I.len⟩
theorem AI.FE(I:AI (X.Ee E) pins σ H s):AI X pins σ H s:=⟨I.ok.FE,I.os,I.bare,I.base,I.Dm,I.cell,I.free,I.FJ,I.DT,I.hok,I.len⟩
theorem SP.FE{D:C7}{f:Flow}{s':Shared}(h:SP (X.Ee E) pins D f s'):SP X pins D f s':=by
 cases f with
 | next=>obtain⟨σ',H',I,q⟩:=h; exact⟨σ',H',I.FE,q⟩
 | brk=>obtain⟨σ',H',I,q⟩:=h; exact⟨σ',H',I.FE,q⟩
 | cont=>obtain⟨σ',H',I,q⟩:=h; exact⟨σ',H',I.FE,q⟩
 | ret u=>obtain⟨v,σ',H',I,r,q⟩:=h; exact⟨v,σ',H',I.FE,r,q⟩
theorem PE.GK{e:Expr}{t:TE}(h:PE X.GK e t):PE X e t:=λpins s σ H Q I hw =>
 iT (h pins s σ H Q (I.Ee _) hw) (λ_ _ ⟨v,H',I',r,q⟩=>⟨v,H',I'.FE,r,q⟩) λ_ _ z=>False.elim z
theorem PT.GK{e:Expr}{t:TT}(h:PT X.GK e t):PT X e t:=λpins s σ H Q I hw =>
 iT (h pins s σ H Q (I.Ee _) hw) (λ_ _ ⟨H',I',q⟩=>⟨H',I'.FE,q⟩) λ_ _ z=>False.elim z
theorem CW.GK{st:List Stmt}{t:TS}(h:CW X.GK st t):CW X st t:=λpins s σ H D I hw =>
 iT (h pins s σ H D (I.Ee _) hw) (λ_ _ q=>q.FE) λ_ _ z=>False.elim z
end
section
variable {X:Cx} {st:Stmt} {rest:List Stmt} {t u:TS} {e:Expr} {te:TE} {pos:Pos}
def bB:TS:=λD σ H=>D.nx σ H
def JO(t u:TS):TS:=λD σ H=>t { D with nx:=u D } σ H
theorem Bp:CW X [] bB:=λ_ _ σ H _ I h=>wpAny_execs_nil ⟨σ,H,I,h⟩
theorem AN(h1:PS X st t)(h2:CW X rest u):CW X (st :: rest) (JO t u):=by
 intro pins s σ H D I h;refine wpAny_execs_cons (Ai (h1 pins s σ H { D with nx:=u D } I h) λf s1 q=>?_);cases f with
 | next =>
  obtain⟨σ',H',I',q⟩:=q;exact h2 pins s1 σ' H' D I' q
 | ret v=>exact q
 | brk=>exact q
 | cont=>exact q
theorem AV(h1:PS X st t):CW X [st] t:=by
 intro pins s σ H D I h;refine wpAny_execs_cons (Ai (h1 pins s σ H D I h) λf s1 q=>?_);cases f with
 | next=>exact wpAny_execs_nil q
 | ret v=>exact q
 | brk=>exact q
 | cont=>exact q
theorem AI.quiet{pins:List (Addr×Obj)}{σ:St}{H:Hp}{s:Shared}(I:AI X pins σ H s):interactive X.env=false:=by simp[interactive,I.ok.kind]
def bI(te:TE):TS:=λD σ H=>te σ H λ_ H1=>D.nx σ H1
theorem DB(he:PE X e te)(hs:swapsWith e none pos.line X.env=pure false:=by rfl):PS X (.Expr e pos) (bI te):=by
 intro pins s σ H D I h;exact wpAny_Expr_any (Ai (he pins s σ H _ I h) λv s1 ⟨x,H1,I1,r1,q1⟩=>⟨σ,H1,I1,q1⟩) I.quiet hs
def Ob(te:TE):TS:=λD σ H=>te σ H D.rt
theorem Am(he:PE X e te):PS X (.Return (some e) pos) (Ob te):=by
 intro pins s σ H D I h;exact wpAny_Return_some (Ai (he pins s σ H _ I h) λv s1 ⟨x,H1,I1,r1,q1⟩=>⟨x,σ,H1,I1,r1,q1⟩)
def Of(c:TT)(t u:TS):TS:=λD σ H=>c σ H λb H1=>if b=true then t D σ H1 else u D σ H1
theorem BZ{c:Expr}{a b:List Stmt}{tc:TT}(hc:PT X c tc)(ha:CW X a t)(hb:CW X b u):PS X (.If c a b pos) (Of tc t u):=by
 intro pins s σ H D I h;refine wpAny_If (Ai (hc pins s σ H _ I h) λd s1 ⟨H1,I1,q1⟩=>?_);cases d with
 | true=>exact ha pins s1 σ H1 D I1 q1
 | false=>exact hb pins s1 σ H1 D I1 q1
def Zm:TS:=λ_ _ _=>False
theorem Me:PS X st Zm:=λ_ _ _ _ _ _ h=>h.elim
end
abbrev TG:=V->St->Hp->(St->Hp->Prop)->Prop
abbrev Fd:=List V->St->Hp->(St->Hp->Prop)->Prop
def PG(X:Cx)(target:Expr)(t:TG):Prop :=
 ∀(pins:List (Addr×Obj)) (s:Shared) (σ:St) (H:Hp) (v:V) (u:Value) (Q:St->Hp->Prop),AI X pins σ H s->Au v u->t v σ H Q →
  wpAny (model X.prog X.w) X.A (assign target X.env u) (λ_ s'=>∃σ' H',AI X pins σ' H' s'/\Q σ' H') X.xe s
def Kh(X:Cx)(ts:List Expr)(t:Fd):Prop :=
 ∀(pins:List (Addr×Obj)) (s:Shared) (σ:St) (H:Hp) (vs:List V) (us:List Value) (Q:St->Hp->Prop),AI X pins σ H s->Ag vs us->t vs σ H Q →
  wpAny (model X.prog X.w) X.A (assignInOrder ((assignEach ts X.env).map (·.2)) us) (λ_ s'=>∃σ' H',AI X pins σ' H' s'/\Q σ' H') X.xe s
abbrev Oj:=V->V->V->Hp->(Hp->Prop)->Prop
def Ud(X:Cx)(t:Oj):Prop :=
 ∀(pins:List (Addr×Obj)) (s:Shared) (σ:St) (H:Hp) (o i v:V) (ov iv u:Value) (Q:Hp->Prop),AI X pins σ H s->Au o ov->Au i iv->Au v u->t o i v H Q →
  wpAny (model X.prog X.w) X.A (setItem ov iv u) (λ_ s'=>∃H',AI X pins σ H' s'/\Q H') X.xe s
section
variable {X:Cx} {pos:Pos}
def BQ(i:Nat):TG:=λv σ H Q=>Q (σ.set i (some v)) H
theorem Ah{i:Nat}{x:Str}(hN:X.N.Nodup)(hi:X.N[i]?=some x)(hx:JZ X.env.scope x)(hf:X.fn x=true\/X.env.scope.names.lookup x=some .local:=by first | exact .inl rfl | exact .inr rfl | assumption):PG X (.Name x pos) (BQ i):=by
 intro pins s σ H v u Q I r h;exact wpAny_assign_Name (Qk I hN hi hx r (λs' I'=>⟨_,H,I',h⟩) hf)
inductive Tu(vs:List V)(σ:St)(H:Hp)(Q:St->Hp->Prop):Prop
 | mk (e:vs=[]) (q:Q σ H):Tu vs σ H Q
def KR:Fd:=λvs σ H Q=>Tu vs σ H Q
inductive TU(t:TG)(u:Fd)(vs:List V)(σ:St)(H:Hp)(Q:St->Hp->Prop):Prop
 | mk (v:V) (r:List V) (e:vs=v :: r) (q:t v σ H λσ' H'=>u r σ' H' Q):TU t u vs σ H Q
def Fu(t:TG)(u:Fd):Fd:=λvs σ H Q=>TU t u vs σ H Q
theorem CO:Kh X [] KR:=by
 intro pins s σ H vs us Q I r h;obtain⟨e,h⟩:=h;subst e;cases r;exact assignInOrder_nil ⟨σ,H,I,h⟩
theorem BE {e:Expr} {es:List Expr} {t:TG} {u:Fd} (h1:PG X e t) (h2:Kh X es u)
  (hs:(assignEach (e :: es) X.env).map (·.2)=assign e X.env :: (assignEach es X.env).map (·.2):=by rfl):Kh X (e :: es) (Fu t u):=by
 intro pins s σ H vs us Q I r h;obtain⟨v,vr,e1,h⟩:=h;subst e1;cases r with
 | cons r rr =>
  rw[hs];refine assignInOrder_cons (Ai (h1 pins s σ H _ _ _ I r h) λ_ s1 ⟨σ1,H1,I1,q1⟩=>?_);exact h2 pins s1 σ1 H1 _ _ Q I1 rr q1
inductive Tz(K:PySem.W.Frag)(n:Nat)(t:Fd)(v:V)(σ:St)(H:Hp)(Q:St->Hp->Prop):Prop
 | mk (a:Addr) (xs:List V) (e:v=.ref a) (s:AJ K H a xs) (l:xs.length=n) (q:t xs σ H Q):Tz K n t v σ H Q
def IC(K:PySem.W.Frag)(n:Nat)(t:Fd):TG:=λv σ H Q=>Tz K n t v σ H Q
theorem Ga {es:List Expr} {k:Nat} {t:Fd} {n:Nat} (hc:X.CS=true) (h:Kh X es t)
  (hn:(assignEach es X.env).length=n:=by rfl) (hst:(assignEach es X.env).findIdx? (·.1)=none:=by rfl):PG X (.Tuple es k pos) (IC X.K n t):=by
 intro pins s σ H v u Q I r hw;obtain⟨a,xs,e1,hq,hl,hw⟩:=hw;subst e1;cases r;obtain⟨its,rv,ht,hz⟩:=I.tuple hq;refine assign_Tuple_tuple (I.ok.hd hc) ht (by simp[hn,<-hl,rv.length]) hst λh' hx=>?_
 have I1:AI X pins σ H { s with heap:=h' }:=I.Bn (t':=s.toks) λb o e=>hx b o (gS (fJ e)) e
 exact h pins _ σ H xs _ Q I1 (by simpa using rv) hw
def UP(to ti:TE)(t:Oj):TG:=λv σ H Q=>to σ H λo H1=>ti σ H1 λi H2=>t o i v H2 λH3=>Q σ H3
theorem EB {o i:Expr} {to ti:TE} {t:Oj} (ho:PE X o to) (hi:PE X i ti) (hs:Ud X t)
  (ha:∀v,assign (.Subscript o i pos) X.env v=(do
   let ov <-holding [v] (eval o X.env)
   let iv <-holding [v,ov] (eval i X.env)
   standAt pos
   holding [v,ov,iv] (setItem ov iv v)
   release [v,ov,iv] []):=by intro _; rfl):PG X (.Subscript o i pos) (UP to ti t):=by
 intro pins s σ H v u Q I r h;rw[ha];refine eV (wpAny_holding (Ai (ho pins s σ H _ I h) λov s1 ⟨x,H1,I1,r1,q1⟩=>?_));refine eV (wpAny_holding (Ai (hi pins s1 σ H1 _ I1 q1) λiv s2 ⟨y,H2,I2,r2,q2⟩=>?_));refine eV (wpAny_standAt (eV (wpAny_holding (Ai (hs pins s2 σ H2 x y v ov iv u _ I2 r1 r2 r q2) λ_ s3 ⟨H3,I3,q3⟩=>?_))));exact wpAny_release ⟨σ,H3,I3,q3⟩
def JN(te:TE)(g:TG):TS:=λD σ H=>te σ H λx H1=>g x σ H1 D.nx
theorem DF {tg e:Expr} {te:TE} {g:TG} (he:PE X e te) (hg:PG X tg g) (hs:swapsWithSole [tg] e pos.line X.env=pure false:=by rfl) (hw:swappedStores [tg] e X.env=pure none:=by rfl)
  (h1:(assignEach [tg] X.env).map (·.2)=[assign tg X.env]:=by rfl):PS X (.Assign [tg] e pos) (JN te g):=by
 intro pins s σ H D I h;refine wpAny_Assign_stores (Ai (he pins s σ H _ I h) λv s1 ⟨x,H1,I1,r1,q1⟩=>?_) hs hw;rw[h1];exact Ai (hg pins s1 σ H1 x v _ I1 r1 q1) λ_ s2 q=>q
theorem Aa{i:Nat}{x:Str}{e:Expr}{te:TE}{pos':Pos}(hN:X.N.Nodup)(hi:X.N[i]?=some x)(hx:JZ X.env.scope x)(he:PE X e te)(hs:swapsWith e (some (.Name x pos')) pos.line X.env=pure false:=by rfl)(hf:X.fn x=true\/X.env.scope.names.lookup x=some .local:=by first | exact .inl rfl | exact .inr rfl | assumption):
  PS X (.Assign [.Name x pos'] e pos) (JN te (BQ i)):=by
 intro pins s σ H D I h;refine wpAny_Assign_Name (Ai (he pins s σ H _ I h) λv s1 ⟨y,H1,I1,r1,q1⟩=>?_) hs;exact Qk I1 hN hi hx r1 (λs2 I2=>⟨_,H1,I2,q1⟩) hf
end
section
variable {X:Cx} {pos:Pos}
def N3(c:TT)(tb:TS):TS:=λD σ H=>∃W:Nat->St->Hp->Prop,(∃m,W m σ H)/\∀m σ H,W m σ H →
 c σ H λb H1=>if b=true then ∃N:St->Hp->Prop,(∀σ' H',N σ' H'->∃m',m' < m/\W m' σ' H')/\tb { D with nx:=N,ct:=N,bk:=D.nx } σ H1 else D.nx σ H1
theorem Ie{c:Expr}{body:List Stmt}{tc:TT}{tb:TS}(hp:PassesOwn (model X.prog X.w) X.A X.env X.xe)(hc:PT X c tc)(hb:CW X body tb):PS X (.While c body [] pos) (N3 tc tb):=by
 intro pins s σ H D I h;obtain⟨W,⟨m0,w0⟩,turn⟩:=h;refine wpAny_While (codeAny_whileLoop (λn s'=>∃σ' H',AI X pins σ' H' s'/\W n σ' H') ?_ m0 ⟨σ,H,I,w0⟩);rintro n s1 ⟨σ1,H1,I1,w1⟩;refine wpAny_passesOwn hp (Ai (hc pins s1 σ1 H1 _ I1 (turn n σ1 H1 w1)) λb s2 ⟨H2,I2,q2⟩=>?_);cases b with
 | true =>
  obtain⟨N,hN,q2⟩:=q2;rw[ff rfl];refine wpAny_passesOwn hp (Ai (hb pins s2 σ1 H2 _ I2 q2) λf s3 q3=>?_);cases f with
  | next =>
   obtain⟨σ3,H3,I3,n3⟩:=q3;obtain⟨m',hm,w3⟩:=hN σ3 H3 n3;exact⟨m',hm,σ3,H3,I3,w3⟩
  | cont =>
   obtain⟨σ3,H3,I3,n3⟩:=q3;obtain⟨m',hm,w3⟩:=hN σ3 H3 n3;exact⟨m',hm,σ3,H3,I3,w3⟩
  | brk=>exact q3
  | ret v=>exact q3
 | false =>
  rw[eZ fX];exact wpAny_execs_nil ⟨σ1,H2,I2,q2⟩
end
structure It where
 go:Nat->Hp->Prop
 D6:Nat->Hp->V->Hp->Prop
 stop:Nat->Hp->Prop
def Ew(X:Cx)(pins:List (Addr×Obj))(H:Hp)(b:Addr):Prop :=
 H b=none/\b≠X.env.locals/\b∉X.fs/\(b∈X.ex\/X.s₀.heap.objs.size<=b)/\(∀x c,X.env.cells.lookup x=some c->c≠b)/\∀p∈X.pn++pins,p.1≠b
theorem AI.FU{X:Cx}{pins:List (Addr×Obj)}{σ:St}{H H':Hp}{s:Shared}{b:Addr}(I:AI X pins σ H s)(hb:s.heap.objs.size<=b)(hn:H' b=none):Ew X pins H' b:=by
 refine⟨hn,ja (gI I.lt hb),I.cV hb,.inr (fY I.sz hb),λx c e z=>?_,λp hp z=>?_⟩
 ·obtain⟨v,q⟩:=I.cell x c e;exact absurd (gI q.lt (by rw[z]; exact hb)) (jb _)
 ·exact absurd (gI (fJ (I.DT p hp).1) (by rw[z]; exact hb)) (jb _)
structure GA(P:Program)(w:World)(K:PySem.W.Frag)(tg:Expr)(J:It)(fp:List Addr)(it:Addr)(tn:Nat->Heap->Prop):Prop where
 mem:it∈fp
 obj:∀i h,tn i h->∀b∈fp,∃o,h.get? b=some o/\∀v,o.data≠.cell v
 keep:∀i h h',tn i h->(∀b∈fp,∀o,h.get? b=some o->h'.get? b=some o)->tn i h'
 item:∀(X:Cx),X.prog=P->X.w=w->X.K=K->X.CS=true->∀(i:Nat) (pins:List (Addr×Obj)) (s:Shared) (σ:St) (H:Hp) (E:Value->Shared->Prop),AI X pins σ H s->(∀b∈fp,Ew X pins H b)->tn i s.heap->J.go i H →
  wpAny (model P w) X.A (pyNext (.ref it)) (λr s1=>∃u,r=some u /\
   wpAny (model P w) X.A (letOwnedTupleGo tg (.ref it) u) (λ_ s2=>∃x H',AI X pins σ H' s2/\Au x u/\J.D6 i H x H'/\tn (i+1) s2.heap/\∀b∈fp,H' b=none) E s1) E s
 done:∀(X:Cx),X.prog=P->X.w=w->X.K=K->X.CS=true->∀(i:Nat) (pins:List (Addr×Obj)) (s:Shared) (σ:St) (H:Hp) (E:Value->Shared->Prop),AI X pins σ H s->(∀b∈fp,Ew X pins H b)->tn i s.heap->J.stop i H →
  wpAny (model P w) X.A (pyNext (.ref it)) (λr s1=>r=none/\AI X pins σ H s1) E s
 self:∀(A:Around) (i:Nat) (s:Shared) (Q:Value->Shared->Prop) (E:Value->Shared->Prop),tn i s.heap->Q (.ref it) s->wpAny (model P w) A (pyIter (.ref it)) Q E s
abbrev TI:=St->Hp->(It->Hp->Prop)->Prop
def VG(X:Cx)(pins:List (Addr×Obj))(σ:St)(tg:Expr)(R:It->Hp->Prop)(itv:Value)(s2:Shared):Prop :=
 ∃(it:Addr) (fp:List Addr) (tn:Nat->Heap->Prop) (J:It) (H':Hp),itv=.ref it/\AI X pins σ H' s2/\GA X.prog X.w X.K tg J fp it tn/\tn 0 s2.heap/\(∀b∈fp,Ew X pins H' b)/\R J H'
def PI(X:Cx)(tg iter:Expr)(wi:TI):Prop :=
 ∀(pins:List (Addr×Obj)) (s:Shared) (σ:St) (H:Hp) (R:It->Hp->Prop),AI X pins σ H s->wi σ H R →
  wpAny (model X.prog X.w) X.A (eval iter X.env) (λv s1=>wpAny (model X.prog X.w) X.A (pyIter v) (VG X pins σ tg R) X.xe s1) X.xe s
theorem KC {M : Model} {A : Around} {E : Value → Shared → Prop} {s : Shared} {tg : Expr} {it : Addr} {u : Value} {o : Obj} {n : String} {vs : Array Value} {Q : Unit → Shared → Prop} (ho : s.heap.get? it = some o) (hc : o.cls = .type n) (hd : o.data = .fields vs)
    (hn : ["enumerate", "zip", "dict_itemiterator", "dict_reverseitemiterator", "odict_iterator", "itertools.zip_longest", "itertools.pairwise"].contains n = false) (hQ : Q () s) : wpAny M A (letOwnedTupleGo tg (.ref it) u) Q E s := by
  unfold letOwnedTupleGo;cases tg <;> first
    | exact fS hQ
    | (cases u <;> first
        | exact fS hQ
        | (refine eV (wpAny_load ho ?_)
           rw[hc, hd];show wpAny M A (if (["enumerate", "zip", "dict_itemiterator", "dict_reverseitemiterator", "odict_iterator", "itertools.zip_longest", "itertools.pairwise"].contains n && vs[0]? == some (rawInt _)) = true then _ else _) Q E s;rw[eZ (by intro h; rw[hn, Bool.false_and] at h; cases h)];exact fS hQ))
def Ja(K:PySem.W.Frag)(a:Addr):It :=
 ⟨λi H=>∃xs x,AM K H a xs/\xs[i]?=some x,λi H x H'=>H'=H/\∀xs,AM K H a xs->xs[i]?=some x,λi H=>∃xs,AM K H a xs/\xs.length<=i⟩
def JV(K:PySem.W.Frag)(a:Addr):It :=
 ⟨λi H=>∃xs x,AJ K H a xs/\xs[i]?=some x,λi H x H'=>H'=H/\∀xs,AJ K H a xs->xs[i]?=some x,λi H=>∃xs,AJ K H a xs/\xs.length<=i⟩
def E3(lo:Int)(n:Nat):It:=⟨λi _=>i<n,λi H x H'=>H'=H/\x=.int (lo+i),λi _=>n<=i⟩
theorem W5{P:Program}{w:World}{K:PySem.W.Frag}{tg:Expr}(a it:Addr):GA P w K tg (Ja K a) [it] it (λi h=>h.IsListIter it a i) where
 mem:=by simp
 obj:=λi h st b hb=>by
  have e:b=it:=by simpa using hb
  subst e;obtain⟨o,e,c,d⟩:=st;exact⟨o,e,λv z=>by rw[d] at z; cases z⟩
 keep:=λi h h' st k=>st.at λo e=>k it (by simp) o e
 item:=by
  intro X hP hw hK hc i pins s σ H E I hf st hg;subst hP hw hK;obtain⟨xs,x,hq,hx⟩:=hg;obtain⟨its,rv,p,hz⟩:=I.list hq;obtain⟨u,hu,ru⟩:=rv.get hx;obtain⟨f0,f1,f2,f3,f4,f5⟩:=hf it (by simp);refine wpAny_pyNext_list_item st p.isList (x:=u) (by simpa using hu) λh' st' sb=>?_
  have I1:AI X pins σ H { s with heap:=h' }:=I.Dh (t':=s.toks) (λb o hb e=>(sb.2 b hb).trans e) f0 f1 f3 f4 f5;obtain⟨o,e,c,d⟩:=id st';exact⟨u,rfl,KC (s:={ s with heap:=h' }) e c d (by decide) ⟨x,H,I1,ru,⟨rfl,λys hy=>by rw[I.list_inj hy hq]; exact hx⟩,st',λb hb=>(hf b hb).1⟩⟩
 done:=by
  intro X hP hw hK hc i pins s σ H E I hf st hg;subst hP hw hK;obtain⟨xs,hq,hx⟩:=hg;obtain⟨its,rv,p,hz⟩:=I.list hq;obtain⟨f0,f1,f2,f3,f4,f5⟩:=hf it (by simp);have hl:=rv.length;exact wpAny_pyNext_list_end (I.ok.hd hc) st p.isList (by simp; omega) λh' eb=>⟨rfl,I.Dh (t':=s.toks) (λb o hb e=>eb b o hb e) f0 f1 f3 f4 f5⟩
 self:=λ_ _ _ _ _ st h=>wpAny_pyIter_listiter st h
theorem Vy{P:Program}{w:World}{K:PySem.W.Frag}{tg:Expr}(a it:Addr):GA P w K tg (JV K a) [it] it (λi h=>h.IsTupleIter it a i) where
 mem:=by simp
 obj:=λi h st b hb=>by
  have e:b=it:=by simpa using hb
  subst e;obtain⟨o,e,c,d⟩:=st;exact⟨o,e,λv z=>by rw[d] at z; cases z⟩
 keep:=λi h h' st k=>st.at λo e=>k it (by simp) o e
 item:=by
  intro X hP hw hK hc i pins s σ H E I hf st hg;subst hP hw hK;obtain⟨xs,x,hq,hx⟩:=hg;obtain⟨its,rv,p,hz⟩:=I.tuple hq;obtain⟨u,hu,ru⟩:=rv.get hx;obtain⟨f0,f1,f2,f3,f4,f5⟩:=hf it (by simp);refine wpAny_pyNext_tuple_item st (show s.heap.IsTuple a its.toArray from p) (x:=u) (by simpa using hu) λh' st' sb=>?_
  have I1:AI X pins σ H { s with heap:=h' }:=I.Dh (t':=s.toks) (λb o hb e=>(sb.2 b hb).trans e) f0 f1 f3 f4 f5;obtain⟨o,e,c,d⟩:=id st';exact⟨u,rfl,KC (s:={ s with heap:=h' }) e c d (by decide) ⟨x,H,I1,ru,⟨rfl,λys hy=>by rw[I.QE hy hq]; exact hx⟩,st',λb hb=>(hf b hb).1⟩⟩
 done:=by
  intro X hP hw hK hc i pins s σ H E I hf st hg;subst hP hw hK;obtain⟨xs,hq,hx⟩:=hg;obtain⟨its,rv,p,hz⟩:=I.tuple hq;obtain⟨f0,f1,f2,f3,f4,f5⟩:=hf it (by simp);have hl:=rv.length;exact wpAny_pyNext_tuple_end (I.ok.hd hc) st (show s.heap.IsTuple a its.toArray from p) (by simp; omega) λh' eb=>⟨rfl,I.Dh (t':=s.toks) (λb o hb e=>eb b o hb e) f0 f1 f3 f4 f5⟩
 self:=λ_ _ _ _ _ st h=>wpAny_pyIter_tupleiter st h
theorem Vz{P:Program}{w:World}{K:PySem.W.Frag}{tg:Expr}(it:Addr)(lo:Int)(n:Nat):GA P w K tg (E3 lo n) [it] it (λi h=>IsRangeIter h it (lo+(i:Nat)*1) ((n:Int)-(i:Nat)) 1) where
 mem:=by simp
 obj:=λi h st b hb=>by
  have e:b=it:=by simpa using hb
  subst e;exact⟨_,st,λv z=>by
   have z':Data.fields _=Data.cell v:=z;cases z'⟩
 keep:=λi h h' st k=>k it (by simp) _ st
 item:=by
  intro X hP hw hK hc i pins s σ H E I hf st hg;subst hP hw hK;obtain⟨f0,f1,f2,f3,f4,f5⟩:=hf it (by simp);have W:=Walks.range (prog:=X.prog) (w:=X.w) (I.ok.hd hc) it lo 1 n;refine W.item i s _ _ hg st λv h' tk hv st' kk=>?_
  obtain⟨t,rfl⟩:=hv;have I1:AI X pins σ H { s with heap:=h',toks:=tk }:=I.Dh (λb o hb e=>kk b o (by simpa using hb) e) f0 f1 f3 f4 f5;refine⟨_,rfl,KC (s:={ s with heap:=h',toks:=tk }) (n:="range_iterator") st' rfl rfl (by decide) ⟨.int (lo+i),H,I1,⟨t,?_⟩,⟨rfl,rfl⟩,st',λb hb=>(hf b hb).1⟩⟩;rw[Int.mul_one]
 done:=by
  intro X hP hw hK hc i pins s σ H E I hf st hg;subst hP hw hK;obtain⟨f0,f1,f2,f3,f4,f5⟩:=hf it (by simp);exact wpAny_pyNext_range_end (I.ok.hd hc) st (by have:n<=i:=hg; omega) λh' eb=>⟨rfl,I.Dh (t':=s.toks) (λb o hb e=>eb b o hb e) f0 f1 f3 f4 f5⟩
 self:=λ_ _ _ _ _ st h=>wpAny_pyIter_rangeiter st h
section
variable {X:Cx} {tg:Expr}
inductive TZ(K:PySem.W.Frag)(x:V)(H:Hp)(R:It->Hp->Prop):Prop
 | mk (a:Addr) (e:x=.ref a) (s:∃xs,AM K H a xs) (q:R (Ja K a) H):TZ K x H R
inductive UI(K:PySem.W.Frag)(x:V)(H:Hp)(R:It->Hp->Prop):Prop
 | mk (a:Addr) (e:x=.ref a) (s:∃xs,AJ K H a xs) (q:R (JV K a) H):UI K x H R
def T7(K:PySem.W.Frag)(tl:TE):TI:=λσ H R=>tl σ H λx H1=>TZ K x H1 R
def Oo(K:PySem.W.Frag)(tl:TE):TI:=λσ H R=>tl σ H λx H1=>UI K x H1 R
theorem Ip{l:Expr}{tl:TE}(hl:PE X l tl):PI X tg l (T7 X.K tl):=by
 intro pins s σ H R I h;refine Ai (hl pins s σ H _ I h) λv s1 ⟨x,H1,I1,r1,q1⟩=>?_
 obtain⟨a,e,⟨xs,hq⟩,q⟩:=q1;subst e;cases r1;obtain⟨its,rv,p,hz⟩:=I1.list hq;refine wpAny_pyIter_list p.isList ?_;refine⟨s1.heap.objs.size,[s1.heap.objs.size],_,_,H1,rfl,I1.Bn (t':=s1.toks) λb o e=>eY _ e,W5 a _,⟨_,fO _ rfl,rfl,rfl⟩,λb hb=>?_,q⟩;have e:b=s1.heap.objs.size:=by simpa using hb
 subst e;exact I1.FU (eU _) (I1.hok.BW (eU _))
theorem Eo{l:Expr}{tl:TE}(hl:PE X l tl):PI X tg l (Oo X.K tl):=by
 intro pins s σ H R I h;refine Ai (hl pins s σ H _ I h) λv s1 ⟨x,H1,I1,r1,q1⟩=>?_
 obtain⟨a,e,⟨xs,hq⟩,q⟩:=q1;subst e;cases r1;obtain⟨its,rv,p,hz⟩:=I1.tuple hq;refine i4 (show s1.heap.IsTuple a its.toArray from p) ?_;refine⟨s1.heap.objs.size,[s1.heap.objs.size],_,_,H1,rfl,I1.Bn (t':=s1.toks) λb o e=>eY _ e,Vy a _,⟨_,fO _ rfl,rfl,rfl⟩,λb hb=>?_,q⟩;have e:b=s1.heap.objs.size:=by simpa using hb
 subst e;exact I1.FU (eU _) (I1.hok.BW (eU _))
theorem Q7 {pins:List (Addr×Obj)} {σ:St} {H:Hp} {s:Shared} {R:It->Hp->Prop} {E:Value->Shared->Prop} {lo hi:Int} {t u v:Tok} {tk:Nat} (I:AI X pins σ H s) (h1:-(2 ^ 62)<=lo) (h2:lo<2 ^ 62) (h3:-(2 ^ 62)<=hi) (h4:hi<2 ^ 62)
  (q:R (E3 lo (hi-lo).toNat) H):wpAny (model X.prog X.w) X.A (pyIter (.ref s.heap.objs.size)) (VG X pins σ tg R) E { s with heap:=s.heap.push { cls:=.type "range",data:=.fields #[.int lo t,.int hi u,.int 1 v] },toks:=tk }:=by
 refine wpAny_pyIter_range (IsRange.new ..) (small_one h1 h2 h3 h4) ?_;have I1:AI X pins σ H { s with heap:=s.heap.push { cls:=.type "range",data:=.fields #[.int lo t,.int hi u,.int 1 v] },toks:=tk }:=I.Bn λb o e=>eY _ e
 refine⟨(s.heap.push { cls:=.type "range",data:=.fields #[.int lo t,.int hi u,.int 1 v] }).objs.size,[(s.heap.push { cls:=.type "range",data:=.fields #[.int lo t,.int hi u,.int 1 v] }).objs.size],_,_,H,rfl,
  I1.Bn (t':=tk) λb o e=>eY _ e,Vz _ lo (hi-lo).toNat,?_,λb hb=>?_,q⟩
 ·have e1:lo+((0:Nat):Int)*1=lo:=by simp
  have e2:(((hi-lo).toNat:Nat):Int)-((0:Nat):Int)=Builtin.Range.rangeSize lo hi 1:=by rw[rangeSize_one]; split <;> omega
  show IsRangeIter _ _ (lo+((0:Nat):Int)*1) ((((hi-lo).toNat:Nat):Int)-((0:Nat):Int)) 1;rw[e1,e2];exact fO _ rfl
 ·have e:b=(s.heap.push { cls:=.type "range",data:=.fields #[.int lo t,.int hi u,.int 1 v] }).objs.size:=by simpa using hb
  subst e;exact I1.FU (eU _) (I1.hok.BW (eU _))
def bZ(ta:TA):TI:=λσ H R=>ta σ H λvs H1=>∃j:Int,vs=[.int j]/\-(2 ^ 62)<=j/\j<2 ^ 62/\R (E3 0 j.toNat) H1
def bq(ta:TA):TI:=λσ H R=>ta σ H λvs H1=>∃i j:Int,vs=[.int i,.int j]/\(-(2 ^ 62)<=i/\i<2 ^ 62/\-(2 ^ 62)<=j/\j<2 ^ 62)/\R (E3 i (j-i).toNat) H1
theorem HK{a:Expr}{ta:TA}{p pos:Pos}(hg:Gl X "range")(hm:X.mg "range" = none)(ha:PA X [a] ta)(hs:starEach [a] X.env=[(false,eval a X.env)]:=by rfl):PI X tg (.Call (.Name "range" p) [a] [] pos) (bZ ta):=by
 intro pins s σ H R I h;refine Call_ (DX I hg hm boot_range (gy (Ai (ha pos pins s σ H _ I h) λus s1 ⟨vs,H1,I1,r1,q1⟩=>?_) hs rfl));obtain⟨j,e,q1,q2,q⟩:=q1;subst e;cases r1 with
 | cons r rr =>
  cases rr;obtain⟨t,rfl⟩:=r;exact call_range_1 (Q7 I1 (by omega) (by omega) q1 q2 (by simpa using q))
theorem Wc{a b:Expr}{ta:TA}{p pos:Pos}(hg:Gl X "range")(hm:X.mg "range" = none)(ha:PA X [a,b] ta)(hs:starEach [a,b] X.env=[(false,eval a X.env),(false,eval b X.env)]:=by rfl)(hs2:starEach [b] X.env=[(false,eval b X.env)]:=by rfl):
  PI X tg (.Call (.Name "range" p) [a,b] [] pos) (bq ta):=by
 intro pins s σ H R I h;refine Call_ (DX I hg hm boot_range (gy (Ai (ha pos pins s σ H _ I h) λus s1 ⟨vs,H1,I1,r1,q1⟩=>?_) (by rw[hs,hs2]) (by rw[hs2]; rfl)));obtain⟨i,j,e,⟨q1,q2,q3,q4⟩,q⟩:=q1;subst e;cases r1 with
 | cons r rr =>
  cases rr with
  | cons r' rr =>
   cases rr;obtain⟨t,rfl⟩:=r;obtain⟨t',rfl⟩:=r';exact call_range_2 (Q7 I1 q1 q2 q3 q4 q)
def Oy(wi:TI)(g:TG)(tb:TS):TS:=λD σ H=>wi σ H λJ H1=>∃W:Nat->Nat->St->Hp->Prop,(∃m,W 0 m σ H1)/\∀i m σ H,W i m σ H →
 (J.stop i H/\D.nx σ H)\/(J.go i H/\∃N:St->Hp->Prop,(∀σ' H',N σ' H'->∃m',m' < m/\W (i+1) m' σ' H')/\∀x H',J.D6 i H x H'->g x σ H' λσ2 H2=>tb { D with nx:=N,ct:=N,bk:=D.nx } σ2 H2)
def J2(fp:List Addr)(h:Heap):List (Addr×Obj):=fp.filterMap λb=>(h.get? b).map λo=>(b,o)
theorem Kq{fp:List Addr}{h:Heap}{b:Addr}{o:Obj}(hb:b∈fp)(e:h.get? b=some o):(b,o)∈J2 fp h:=List.mem_filterMap.mpr ⟨b,hb,by rw[e]; rfl⟩
theorem Wa{fp:List Addr}{h:Heap}{p:Addr×Obj}(hp:p∈J2 fp h):p.1∈fp/\h.get? p.1=some p.2:=by
 obtain⟨b,hb,e⟩:=List.mem_filterMap.mp hp;cases q:h.get? b with
 | none=>rw[q] at e; cases e
 | some o =>
  rw[q] at e;have e':(b,o)=p:=fC e;subst e';exact⟨hb,q⟩
theorem AI.Tc{pins:List (Addr×Obj)}{σ:St}{H:Hp}{s:Shared}{fp:List Addr}(I:AI X pins σ H s)(hf:∀b∈fp,Ew X pins H b)(ho:∀b∈fp,∃o,s.heap.get? b=some o/\∀v,o.data≠.cell v):AI X (pins++J2 fp s.heap) σ H s :=
 I.RQ λp hp=>(fm.mp hp).elim (λz=>I.DT p (gz _ z)) λz=>by
  obtain⟨hb,e⟩:=Wa z;obtain⟨f0,f1,f2,_⟩:=hf p.1 hb;obtain⟨o,e',d⟩:=ho p.1 hb;rw[e] at e'; cases e';exact⟨e,f0,f1,f2,d⟩
theorem AI.Jo{pins pl:List (Addr×Obj)}{σ:St}{H:Hp}{s:Shared}(I:AI X (pins++pl) σ H s):AI X pins σ H s:=I.RQ λp hp=>I.DT p (gz _ (iS _ hp))
theorem Bu {iter:Expr} {body:List Stmt} {wi:TI} {g:TG} {tb:TS} {pos:Pos} (hp:PassesOwn (model X.prog X.w) X.A X.env X.xe) (hc:X.CS=true) (hi:PI X tg iter wi) (hg:PG X tg g) (hb:CW X body tb)
  (hs:∀x,foldedSetIterable iter X.env x=pure x:=by intro _; rfl):PS X (.For tg iter body [] pos) (Oy wi g tb):=by
 intro pins s σ H D I h;refine wpAny_For (Ai (hi pins s σ H _ I h) λv s1 h1=>Ai h1 λitv s2 h2=>?_) hs;obtain⟨it,fp,tn,J,H2,e,I2,T,st2,f2,W,⟨m0,w0⟩,turn⟩:=h2;subst e;have stat:∀{H':Hp},(∀b∈fp,H' b=none)->∀b∈fp,Ew X pins H' b:=λhn b hb=>⟨hn b hb,(f2 b hb).2⟩
 refine codeAny_forLoop_any (λn s'=>∃i σ' H',AI X pins σ' H' s'/\tn i s'.heap/\(∀b∈fp,H' b=none)/\W i n σ' H') ?_ m0 ⟨0,σ,H2,I2,st2,λb hb=>(f2 b hb).1,w0⟩;rintro n s3 ⟨i,σ3,H3,I3,st3,fr3,w3⟩;rcases turn i n σ3 H3 w3 with ⟨stop,qn⟩ | ⟨go,N,hN,step⟩
 ·refine wpAny_passesOwn hp (Ai (T.done X rfl rfl rfl hc i pins s3 σ3 H3 X.xe I3 (stat fr3) st3 stop) λr s4 ⟨hr,I4⟩=>?_);subst hr;exact wpAny_execs_nil ⟨σ3,H3,I4,qn⟩
 ·refine wpAny_passesOwn hp (Ai (T.item X rfl rfl rfl hc i pins s3 σ3 H3 X.xe I3 (stat fr3) st3 go) λr s4 ⟨u,hr,h4⟩=>?_);subst hr;refine wpAny_passesOwn hp (Ai h4 λ_ s5 ⟨x,H5,I5,r5,y5,st5,fr5⟩=>?_);have I5':=I5.Tc (stat fr5) (T.obj _ _ st5);refine wpAny_passesOwn hp (Ai (hg _ s5 σ3 H5 x u _ I5' r5 (step x H5 y5)) λ_ s6 ⟨σ6,H6,I6,q6⟩=>?_);refine wpAny_passesOwn hp (Ai (hb _ s6 σ6 H6 _ I6 q6) λf s7 q7=>?_);have again:∀{σ7:St} {H7:Hp},AI X (pins++J2 fp s5.heap) σ7 H7 s7->N σ7 H7->∃m,m<n/\∃i σ' H',AI X pins σ' H' s7/\tn i s7.heap/\(∀b∈fp,H' b=none)/\W i m σ' H':=λ{σ7 H7} I7 n7=>by
   obtain⟨m',hm,w7⟩:=hN σ7 H7 n7;refine⟨m',hm,i+1,σ7,H7,I7.Jo,T.keep _ _ _ st5 λb hb o e=>(I7.DT (b,o) (gz _ (gz _ (Kq hb e)))).1,λb hb=>?_,w7⟩;obtain⟨o,e,d⟩:=T.obj _ _ st5 b hb;exact(I7.DT (b,o) (gz _ (gz _ (Kq hb e)))).2.1
  cases f with
  | next=>obtain⟨σ7,H7,I7,n7⟩:=q7; exact again I7 n7
  | cont=>obtain⟨σ7,H7,I7,n7⟩:=q7; exact again I7 n7
  | brk=>obtain⟨σ7,H7,I7,q7⟩:=q7; exact⟨σ7,H7,I7.Jo,q7⟩
  | ret v=>obtain⟨x7,σ7,H7,I7,r7,q7⟩:=q7; exact⟨x7,σ7,H7,I7.Jo,r7,q7⟩
end
theorem Mc {K:PySem.W.Frag} {a:Addr} {xs:List V} {g:TG} {tb:TS} {D:C7} {σ:St} {H:Hp} (Pv:Nat->St->Hp->Prop) (h0:Pv 0 σ H) (hl:∀i σ H,i<=xs.length->Pv i σ H->AM K H a xs)
  (hs:∀i x σ H,xs[i]?=some x->Pv i σ H->g x σ H λσ2 H2=>tb { D with nx:=Pv (i+1),ct:=Pv (i+1),bk:=D.nx } σ2 H2) (hd:∀σ H,Pv xs.length σ H->D.nx σ H) :
  ∃W:Nat->Nat->St->Hp->Prop,(∃m,W 0 m σ H)/\∀i m σ H,W i m σ H →
   ((Ja K a).stop i H/\D.nx σ H)\/((Ja K a).go i H/\∃N:St->Hp->Prop,(∀σ' H',N σ' H'->∃m',m' < m/\W (i+1) m' σ' H')/\∀x H',(Ja K a).D6 i H x H'->g x σ H' λσ2 H2=>tb { D with nx:=N,ct:=N,bk:=D.nx } σ2 H2):=by
 refine⟨λi m σ H=>m=xs.length-i/\i<=xs.length/\Pv i σ H,⟨xs.length,by simp,gP _,h0⟩,?_⟩;rintro i m σ H ⟨rfl,hi,p⟩;have q:=hl i σ H hi p;by_cases hlt:i<xs.length
 ·refine .inr ⟨⟨xs,xs[i],q,by simp[hlt]⟩,Pv (i+1),λσ' H' p'=>⟨xs.length-(i+1),by omega,rfl,hlt,p'⟩,λx H' y=>?_⟩;obtain⟨e,y⟩:=y;subst e;exact hs i x σ _ (y xs q) p
 ·have e:i=xs.length:=by omega
  subst e;exact .inl ⟨⟨xs,q,eU _⟩,hd σ H p⟩
theorem HS {K:PySem.W.Frag} {a:Addr} {xs:List V} {g:TG} {tb:TS} {D:C7} {σ:St} {H:Hp} (Pv:Nat->St->Hp->Prop) (h0:Pv 0 σ H) (hl:∀i σ H,i<=xs.length->Pv i σ H->AJ K H a xs)
  (hs:∀i x σ H,xs[i]?=some x->Pv i σ H->g x σ H λσ2 H2=>tb { D with nx:=Pv (i+1),ct:=Pv (i+1),bk:=D.nx } σ2 H2) (hd:∀σ H,Pv xs.length σ H->D.nx σ H) :
  ∃W:Nat->Nat->St->Hp->Prop,(∃m,W 0 m σ H)/\∀i m σ H,W i m σ H →
   ((JV K a).stop i H/\D.nx σ H)\/((JV K a).go i H/\∃N:St->Hp->Prop,(∀σ' H',N σ' H'->∃m',m' < m/\W (i+1) m' σ' H')/\∀x H',(JV K a).D6 i H x H'->g x σ H' λσ2 H2=>tb { D with nx:=N,ct:=N,bk:=D.nx } σ2 H2):=by
 refine⟨λi m σ H=>m=xs.length-i/\i<=xs.length/\Pv i σ H,⟨xs.length,by simp,gP _,h0⟩,?_⟩;rintro i m σ H ⟨rfl,hi,p⟩;have q:=hl i σ H hi p;by_cases hlt:i<xs.length
 ·refine .inr ⟨⟨xs,xs[i],q,by simp[hlt]⟩,Pv (i+1),λσ' H' p'=>⟨xs.length-(i+1),by omega,rfl,hlt,p'⟩,λx H' y=>?_⟩;obtain⟨e,y⟩:=y;subst e;exact hs i x σ _ (y xs q) p
 ·have e:i=xs.length:=by omega
  subst e;exact .inl ⟨⟨xs,q,eU _⟩,hd σ H p⟩
theorem Kt {lo:Int} {n:Nat} {g:TG} {tb:TS} {D:C7} {σ:St} {H:Hp} (Pv:Nat->St->Hp->Prop) (h0:Pv 0 σ H)
  (hs:∀i σ H,i<n->Pv i σ H->g (.int (lo+i)) σ H λσ2 H2=>tb { D with nx:=Pv (i+1),ct:=Pv (i+1),bk:=D.nx } σ2 H2) (hd:∀σ H,Pv n σ H->D.nx σ H) :
  ∃W:Nat->Nat->St->Hp->Prop,(∃m,W 0 m σ H)/\∀i m σ H,W i m σ H →
   ((E3 lo n).stop i H/\D.nx σ H)\/((E3 lo n).go i H/\∃N:St->Hp->Prop,(∀σ' H',N σ' H'->∃m',m' < m/\W (i+1) m' σ' H')/\∀x H',(E3 lo n).D6 i H x H'->g x σ H' λσ2 H2=>tb { D with nx:=N,ct:=N,bk:=D.nx } σ2 H2):=by
 refine⟨λi m σ H=>m=n-i/\i<=n/\Pv i σ H,⟨n,by simp,gP _,h0⟩,?_⟩;rintro i m σ H ⟨rfl,hi,p⟩;by_cases hlt:i<n
 ·refine .inr ⟨hlt,Pv (i+1),λσ' H' p'=>⟨n-(i+1),by omega,rfl,hlt,p'⟩,λx H' y=>?_⟩;obtain⟨e,y⟩:=y;subst e y;exact hs i σ _ hlt p
 ·have e:i=n:=by omega
  subst e;exact .inl ⟨eU _,hd σ H p⟩
theorem Ic {c:TT} {tb:TS} {D:C7} {σ:St} {H:Hp} (Pv:St->Hp->Prop) (μ:St->Hp->Nat) (h0:Pv σ H)
  (hs:∀σ H,Pv σ H->c σ H λb H1=>if b=true then tb { D with nx:=λσ' H'=>Pv σ' H'/\μ σ' H' < μ σ H,ct:=λσ' H'=>Pv σ' H'/\μ σ' H' < μ σ H,bk:=D.nx } σ H1 else D.nx σ H1)
  (mono:∀σ H Q Q',(∀b H1,Q b H1->Q' b H1)->c σ H Q->c σ H Q'):N3 c tb D σ H:=by
 refine⟨λm σ H=>m=μ σ H/\Pv σ H,⟨_,rfl,h0⟩,?_⟩;rintro m σ H ⟨rfl,p⟩;refine mono σ H _ _ (λb H1 q=>?_) (hs σ H p);cases b with
 | true=>exact⟨_,λσ' H' ⟨p',l⟩=>⟨_,l,rfl,p'⟩,q⟩
 | false=>exact q
abbrev R2:=V->V->Hp->VK->Prop
def B8(X:Cx)(f:Value->Value->Sem Value)(r:R2):Prop :=
 ∀(pins:List (Addr×Obj)) (s:Shared) (σ:St) (H:Hp) (x y:V) (v u:Value) (Q:VK),AI X pins σ H s->Au x v->Au y u->r x y H Q →
  wpAny (model X.prog X.w) X.A (f v u) (EP X pins σ Q) X.xe s
def PQ(X:Cx)(f:Value->Sem Value)(r:V->Hp->VK->Prop):Prop :=
 ∀(pins:List (Addr×Obj)) (s:Shared) (σ:St) (H:Hp) (x:V) (v:Value) (Q:VK),AI X pins σ H s->Au x v->r x H Q →
  wpAny (model X.prog X.w) X.A (f v) (EP X pins σ Q) X.xe s
def DM(X:Cx)(f:Value)(r:List V->Hp->VK->Prop):Prop :=
 ∀(pins:List (Addr×Obj)) (s:Shared) (σ:St) (H:Hp) (xs:List V) (us:List Value) (Q:VK),AI X pins σ H s->Ag xs us->r xs H Q →
  wpAny (model X.prog X.w) X.A (call f us) (EP X pins σ Q) X.xe s
def By(r:R2)(ta tb:TE):TE:=λσ H Q=>ta σ H λx H1=>tb σ H1 λy H2=>r x y H2 Q
def U3(r:V->Hp->VK->Prop)(ta:TE):TE:=λσ H Q=>ta σ H λx H1=>r x H1 Q
inductive IR(C:Int->Int->Prop)(g:Int->Int->V)(x y:V)(H:Hp)(Q:VK):Prop
 | mk (i j:Int) (a:x=.int i) (b:y=.int j) (c:C i j) (q:Q (g i j) H):IR C g x y H Q
def rI(C:Int->Int->Prop)(g:Int->Int->V):R2:=λx y H Q=>IR C g x y H Q
inductive VC(g:Int->Int->V)(x y:V)(H:Hp)(Q:VK):Prop
 | mk (i j:Int) (a:x=.int i) (b:y=.int j) (q:Q (g i j) H):VC g x y H Q
def Fc(g:Int->Int->V):R2:=λx y H Q=>VC g x y H Q
def rU(g:Int->V):V->Hp->VK->Prop:=λx H Q=>∃i,x=.int i/\Q (g i) H
section
variable {X:Cx} {a b c:Expr} {ta tb tc:TE} {pos:Pos}
theorem Ov (ha:PE X a ta) (hb:PE X b tb) {pins:List (Addr×Obj)} {s:Shared} {σ:St} {H:Hp} {R:V->V->Hp->Prop} (I:AI X pins σ H s)
  (h:ta σ H λx H1=>tb σ H1 λy H2=>R x y H2) {Q:Value->Shared->Prop} {f:Value->Value->Sem Value}
  (hf:∀v u s2 x y H2,AI X pins σ H2 s2->Au x v->Au y u->R x y H2->wpAny (model X.prog X.w) X.A (f v u) Q X.xe s2) :
  wpAny (model X.prog X.w) X.A (eval a X.env) (λv s₁=>wpAny (model X.prog X.w) X.A (eval b X.env) (λu s₂=>wpAny (model X.prog X.w) X.A (f v u) Q X.xe s₂) X.xe s₁) X.xe s:=by
 refine Ai (ha pins s σ H _ I h) λv s1 ⟨x,H1,I1,r1,q1⟩=>?_
 refine Ai (hb pins s1 σ H1 _ I1 q1) λu s2 ⟨y,H2,I2,r2,q2⟩=>?_
 exact hf v u s2 x y H2 I2 r1 r2 q2
theorem AK{op:Operator}{r:R2}(ho:B8 X (binaryOp op) r)(ha:PE X a ta)(hb:PE X b tb):PE X (.BinOp a op b pos) (By r ta tb):=by
 intro pins s σ H Q I h;exact wpAny_BinOp (Ov ha hb I h λv u s2 x y H2 I2 rx ry q=>ho pins s2 σ H2 x y v u Q I2 rx ry q)
theorem Fv{op:UnaryOp}{r:V->Hp->VK->Prop}(ho:PQ X (unaryOp op) r)(ha:PE X a ta):PE X (.UnaryOp op a pos) (U3 r ta):=by
 intro pins s σ H Q I h;exact UnaryOp_ (Ai (ha pins s σ H _ I h) λv s1 ⟨x,H1,I1,r1,q1⟩=>ho pins s1 σ H1 x v Q I1 r1 q1)
theorem IJ {f:Value->Value->Sem Value} {C:Int->Int->Prop} {g:Int->Int->Int}
  (rule:∀(i j:Int) (t u:Tok) (s:Shared) (Q:Value->Shared->Prop) (E:Value->Shared->Prop),C i j->Q (.int (g i j) s.toks) { s with toks:=s.toks+1 }->wpAny (model X.prog X.w) X.A (f (.int i t) (.int j u)) Q E s) :
  B8 X f (rI C λi j=>.int (g i j)):=by
 intro pins s σ H x y v u Q I rx ry h;obtain⟨i,j,rfl,rfl,hc,q⟩:=h;obtain⟨t,rfl⟩:=rx;obtain⟨t',rfl⟩:=ry;exact rule i j t t' s _ _ hc ⟨.int (g i j),H,I.DU _,⟨_,rfl⟩,q⟩
theorem Oe {f:Value->Value->Sem Value} {g:Int->Int->Int}
  (rule:∀(i j:Int) (t u:Tok) (s:Shared) (Q:Value->Shared->Prop) (E:Value->Shared->Prop),Q (.int (g i j) s.toks) { s with toks:=s.toks+1 }->wpAny (model X.prog X.w) X.A (f (.int i t) (.int j u)) Q E s) :
  B8 X f (Fc λi j=>.int (g i j)):=by
 intro pins s σ H x y v u Q I rx ry h;obtain⟨i,j,rfl,rfl,q⟩:=h;obtain⟨t,rfl⟩:=rx;obtain⟨t',rfl⟩:=ry;exact rule i j t t' s _ _ ⟨.int (g i j),H,I.DU _,⟨_,rfl⟩,q⟩
theorem Ot {f:Value->Value->Sem Value} {g:Int->Int->Bool}
  (rule:∀(i j:Int) (t u:Tok) (s:Shared) (Q:Value->Shared->Prop) (E:Value->Shared->Prop),Q (.bool (g i j)) s->wpAny (model X.prog X.w) X.A (f (.int i t) (.int j u)) Q E s) :
  B8 X f (Fc λi j=>.bl (g i j)):=by
 intro pins s σ H x y v u Q I rx ry h;obtain⟨i,j,rfl,rfl,q⟩:=h;obtain⟨t,rfl⟩:=rx;obtain⟨t',rfl⟩:=ry;exact rule i j t t' s _ _ ⟨.bl (g i j),H,I,rfl,q⟩
def Ue(i j:Int):Prop:=0<j/\j<1073741824
def cn(i j:Int):Prop:=0<=j/\j<=1000000/\i.natAbs<2 ^ 64
def KN(i j:Int):Prop:=(-(2 ^ 64)<i/\i<2 ^ 64)\/(-(2 ^ 64)<j/\j<2 ^ 64)
theorem KN.ok{i j:Int}(h:KN i j):IntMulOk i j:=by
 rcases h with ⟨h1,h2⟩ | ⟨h1,h2⟩
 ·exact .of_left (intBits_le_64 h1 h2)
 ·exact .of_right (intBits_le_64 h1 h2)
theorem BH:B8 X (binaryOp .Add) (Fc λi j=>.int (i+j)):=Oe λ_ _ _ _ _ _ _ q=>add_int q
theorem Cq:B8 X (binaryOp .Sub) (Fc λi j=>.int (i-j)):=Oe λ_ _ _ _ _ _ _ q=>sub_int q
theorem Bt:B8 X (binaryOp .Mult) (rI KN λi j=>.int (i*j)):=IJ λ_ _ _ _ _ _ _ hc q=>mul_int q hc.ok
theorem Dt:B8 X (binaryOp .FloorDiv) (rI Ue λi j=>.int (i / j)):=IJ λi j _ _ _ _ _ hc q=>by
 have h1:(0:Int)<j:=hc.1;have h2:j<1073741824:=hc.2;exact floordiv_int (by omega) (by rw[Int.fdiv_eq_ediv_of_nonneg i (by omega)]; exact q) (.inl (PyProof.noPylong_small (by omega)))
theorem Bl:B8 X (binaryOp .Mod) (rI (λ_ j=>0<j) λi j=>.int (i % j)):=IJ λi j _ _ _ _ _ hc q=>by
 have h1:(0:Int)<j:=hc;exact mod_int' (by omega) (by rw[Int.fmod_eq_emod_of_nonneg i (by omega)]; exact q)
theorem ZO:B8 X (binaryOp .Mod) (rI (λ_ j=>j≠0) λi j=>.int (i.fmod j)):=IJ λ_ _ _ _ _ _ _ hc q=>mod_int' hc q
theorem J7:B8 X (binaryOp .Pow) (rI cn λi j=>.int (i ^ j.toNat)):=IJ λ_ _ _ _ _ _ _ hc q=>pow_int_small hc.1 hc.2.1 hc.2.2 q
theorem LV:B8 X (binaryOp .BitXor) (Fc λi j=>.int (Builtin.bitXor i j)):=Oe λ_ _ _ _ _ _ _ q=>xor_int q
theorem dj {f:Value->Sem Value} {g:Int->Int}
  (rule:∀(i:Int) (t:Tok) (s:Shared) (Q:Value->Shared->Prop) (E:Value->Shared->Prop),Q (.int (g i) s.toks) { s with toks:=s.toks+1 }->wpAny (model X.prog X.w) X.A (f (.int i t)) Q E s) :
  PQ X f (rU λi=>.int (g i)):=by
 intro pins s σ H x v Q I rx h;obtain⟨i,rfl,q⟩:=h;obtain⟨t,rfl⟩:=rx;exact rule i t s _ _ ⟨.int (g i),H,I.DU _,⟨_,rfl⟩,q⟩
theorem Fo:PQ X (unaryOp .USub) (rU λi=>.int (-i)):=dj λ_ _ _ _ _ q=>neg_int q
end
def UU:V->V->Bool
 | .BA,.BA=>true | .BA,.int _=>true | .int _,.BA=>true | .BA,.bl _=>true | .bl _,.BA=>true | .BA,.str _=>true | .str _,.BA=>true
 | .int _,.int _=>true | .bl _,.bl _=>true | .str _,.str _=>true | .E4 _,.E4 _=>true
 | .int _,.str _=>true | .str _,.int _=>true | .bl _,.str _=>true | .str _,.bl _=>true
 | _,_=>false
inductive U4(x y:V)(H:Hp)(Q:VK):Prop
 | mk (c:UU x y=true) (q:Q (.bl (decide (x=y))) H):U4 x y H Q
inductive U2(x y:V)(H:Hp)(Q:VK):Prop
 | mk (c:UU x y=true) (q:Q (.bl (!decide (x=y))) H):U2 x y H Q
def dw:R2:=λx y H Q=>U4 x y H Q
def dR:R2:=λx y H Q=>U2 x y H Q
theorem SM{i j:Int}:decide (V.int i=V.int j)=(i == j):=by
 rw[Bool.eq_iff_iff];simp
theorem TY{i j:Bool}:decide (V.bl i=V.bl j)=(i == j):=by
 rw[Bool.eq_iff_iff];simp
theorem SE{i j:Str}:decide (V.str i=V.str j)=(i == j):=by
 rw[Bool.eq_iff_iff];simp
theorem Ra{i j:Array UInt8}:decide (V.E4 i=V.E4 j)=(i.toList == j.toList):=by
 rw[Bool.eq_iff_iff];cases i;cases j;simp
section
variable {X:Cx} {a b c:Expr} {ta tb tc:TE} {pos:Pos}
theorem Bk{pins:List (Addr×Obj)}{σ:St}{H:Hp}{s:Shared}{Q:VK}{k k':Bool}(I:AI X pins σ H s)(q:Q (.bl k) H)(e:k=k'):EP X pins σ Q (.bool k') s:=by
 subst e;exact⟨.bl k,H,I,rfl,q⟩
theorem EF:B8 X (compareOp .Eq) dw:=by
 intro pins s σ H x y v u Q I rx ry h;obtain⟨hs,q⟩:=h;cases x with
 | BA =>
  cases rx;cases y with
  | BA=>cases ry; exact PySem.EqNone.eq_none_none (Bk I q (by simp))
  | bl j=>cases ry; exact PySem.EqNone.eq_none_bool (Bk I q (by simp))
  | int j=>obtain⟨t',rfl⟩:=ry; exact PySem.EqNone.eq_none_int (Bk I q (by simp))
  | str j=>obtain⟨t',rfl⟩:=ry; exact PySem.EqNone.eq_none_str (Bk I q (by simp))
  | _=>exact absurd (show false=true from hs) fX
 | bl i =>
  cases rx;cases y with
  | BA=>cases ry; exact PySem.EqNone.eq_bool_none (Bk I q (by simp))
  | bl j=>cases ry; exact eq_bool (Bk I q TY)
  | str j=>obtain⟨t',rfl⟩:=ry; exact PySem.EqMixed.eq_bool_str (Bk I q (by simp))
  | _=>exact absurd (show false=true from hs) fX
 | int i =>
  obtain⟨t,rfl⟩:=rx;cases y with
  | BA=>cases ry; exact PySem.EqNone.eq_int_none (Bk I q (by simp))
  | int j=>obtain⟨t',rfl⟩:=ry; exact eq_int (Bk I q SM)
  | str j=>obtain⟨t',rfl⟩:=ry; exact PySem.EqMixed.eq_int_str (Bk I q (by simp))
  | _=>exact absurd (show false=true from hs) fX
 | str i =>
  obtain⟨t,rfl⟩:=rx;cases y with
  | BA=>cases ry; exact PySem.EqNone.eq_str_none (Bk I q (by simp))
  | bl j=>cases ry; exact PySem.EqMixed.eq_str_bool (Bk I q (by simp))
  | int j=>obtain⟨t',rfl⟩:=ry; exact PySem.EqMixed.eq_str_int (Bk I q (by simp))
  | str j=>obtain⟨t',rfl⟩:=ry; exact eq_str (Bk I q SE)
  | _=>exact absurd (show false=true from hs) fX
 | E4 i =>
  obtain⟨t,rfl⟩:=rx;cases y with
  | E4 j=>obtain⟨t',rfl⟩:=ry; exact PySem.W.eq_bytes (Bk I q Ra)
  | _=>exact absurd (show false=true from hs) fX
 | _=>cases y <;> exact absurd (show false=true from hs) fX
theorem FP:B8 X (compareOp .NotEq) dR:=by
 intro pins s σ H x y v u Q I rx ry h;obtain⟨hs,q⟩:=h;cases x with
 | BA =>
  cases rx;cases y with
  | BA=>cases ry; exact PySem.EqNone.ne_none_none (Bk I q (by simp))
  | bl j=>cases ry; exact PySem.EqNone.ne_none_bool (Bk I q (by simp))
  | int j=>obtain⟨t',rfl⟩:=ry; exact PySem.EqNone.ne_none_int (Bk I q (by simp))
  | str j=>obtain⟨t',rfl⟩:=ry; exact PySem.EqNone.ne_none_str (Bk I q (by simp))
  | _=>exact absurd (show false=true from hs) fX
 | bl i =>
  cases rx;cases y with
  | BA=>cases ry; exact PySem.EqNone.ne_bool_none (Bk I q (by simp))
  | bl j=>cases ry; exact ne_bool (Bk I q (congrArg not TY))
  | str j=>obtain⟨t',rfl⟩:=ry; exact PySem.EqMixed.ne_bool_str (Bk I q (by simp))
  | _=>exact absurd (show false=true from hs) fX
 | int i =>
  obtain⟨t,rfl⟩:=rx;cases y with
  | BA=>cases ry; exact PySem.EqNone.ne_int_none (Bk I q (by simp))
  | int j=>obtain⟨t',rfl⟩:=ry; exact ne_int (Bk I q (congrArg not SM))
  | str j=>obtain⟨t',rfl⟩:=ry; exact PySem.EqMixed.ne_int_str (Bk I q (by simp))
  | _=>exact absurd (show false=true from hs) fX
 | str i =>
  obtain⟨t,rfl⟩:=rx;cases y with
  | BA=>cases ry; exact PySem.EqNone.ne_str_none (Bk I q (by simp))
  | bl j=>cases ry; exact PySem.EqMixed.ne_str_bool (Bk I q (by simp))
  | int j=>obtain⟨t',rfl⟩:=ry; exact PySem.EqMixed.ne_str_int (Bk I q (by simp))
  | str j=>obtain⟨t',rfl⟩:=ry; exact ne_str (Bk I q (congrArg not SE))
  | _=>exact absurd (show false=true from hs) fX
 | E4 i =>
  obtain⟨t,rfl⟩:=rx;cases y with
  | E4 j=>obtain⟨t',rfl⟩:=ry; exact PySem.W.ne_bytes (Bk I q (congrArg not Ra))
  | _=>exact absurd (show false=true from hs) fX
 | _=>cases y <;> exact absurd (show false=true from hs) fX
theorem Ht:B8 X (compareOp .Lt) (Fc λi j=>.bl (decide (i<j))):=Ot λ_ _ _ _ _ _ _ q=>lt_int q
theorem bf:B8 X (compareOp .LtE) (Fc λi j=>.bl (decide (i<=j))):=Ot λ_ _ _ _ _ _ _ q=>le_int q
theorem OY:B8 X (compareOp .Gt) (Fc λi j=>.bl (decide (j<i))):=Ot λ_ _ _ _ _ _ _ q=>gt_int q
theorem TJ:B8 X (compareOp .Is) (λx y H Q=>y=.BA/\Q (.bl (decide (x=.BA))) H):=by
 intro pins s σ H x y v u Q I rx ry h;obtain⟨rfl,q⟩:=h;cases ry;refine is_none_gen (Bk I q ?_);cases x <;> first
  | (cases rx; rfl)
  | (obtain⟨t,rfl⟩:=rx; rfl)
theorem BM(b:Expr){op:CmpOp}(h:op≠.In:=by decide)(h2:op≠.NotIn:=by decide):behindInMarks op b=false:=by
 have e1:(op == CmpOp.In)=false:=by cases op <;> first | rfl | exact absurd rfl h
 have e2:(op == CmpOp.NotIn)=false:=by cases op <;> first | rfl | exact absurd rfl h2
 cases b <;> simp[behindInMarks,e1,e2]
theorem HX{op:CmpOp}{r:R2}(ho:B8 X (compareOp op) r)(ha:PE X a ta)(hb:PE X b tb)(hm:behindInMarks op b=false):PE X (.Compare a [op] [b] pos) (By r ta tb):=by
 intro pins s σ H Q I h;exact wpAny_Compare1 (Ov ha hb I h λv u s2 x y H2 I2 rx ry q=>ho pins s2 σ H2 x y v u Q I2 rx ry q) hm
def bG(t:TE):TT:=λσ H Q=>t σ H λx H'=>PZ x H' Q
theorem BX{op:CmpOp}{r:R2}(ho:B8 X (compareOp op) r)(ha:PE X a ta)(hb:PE X b tb)(hm:behindInMarks op b=false):PT X (.Compare a [op] [b] pos) (bG (By r ta tb)):=by
 intro pins s σ H Q I h;refine wpAny_isTrue_Compare1 (Ai (ha pins s σ H _ I h) λv s1 ⟨x,H1,I1,r1,q1⟩=>Ai (hb pins s1 σ H1 _ I1 q1) λu s2 ⟨y,H2,I2,r2,q2⟩ =>
  Ai (ho pins s2 σ H2 x y v u _ I2 r1 r2 q2) λc s3 ⟨z,H3,I3,r3,k,e,q3⟩=>?_) hm
 subst e;cases r3;exact wpAny_truthy_bool ⟨H3,I3,q3⟩
theorem Lc:(sizeLine:Nat)<2 ^ 63:=by rw[ji]; decide
theorem EE{x:V}{us:List Value}(r:Ag [x] us):∃u,us=[u]/\Au x u:=by
 cases r with
 | cons r1 r2=>cases r2; exact⟨_,rfl,r1⟩
theorem Lv{x y:V}{us:List Value}(r:Ag [x,y] us):∃u w',us=[u,w']/\Au x u/\Au y w':=by
 cases r with
 | cons r1 r2 =>
  cases r2 with
  | cons r3 r4=>cases r4; exact⟨_,_,rfl,r1,r3⟩
theorem Ms:DM X (.builtin "abs") (λxs H Q=>∃i,xs=[.int i]/\Q (.int (if i<0 then -i else i)) H):=by
 intro pins s σ H xs us Q I r h;obtain⟨i,rfl,q⟩:=h;obtain⟨u,rfl,t,rfl⟩:=EE r;exact call_abs_int λu tk=>⟨.int (if i<0 then -i else i),H,I.DU _,⟨_,rfl⟩,q⟩
theorem WI(hc:X.CS=true):DM X (.builtin "min") (λxs H Q=>∃i j,xs=[.int i,.int j]/\Q (.int (if j<i then j else i)) H):=by
 intro pins s σ H xs us Q I r h;obtain⟨i,j,rfl,q⟩:=h;obtain⟨u,w',rfl,⟨t,rfl⟩,⟨t',rfl⟩⟩:=Lv r;refine min_two_ints (I.ok.hd hc) λh' tk k=>⟨_,H,I.Bn k,?_,q⟩
 by_cases hj:j<i
 ·rw[ff hj,ff hj]; exact⟨_,rfl⟩
 ·rw[eZ hj,eZ hj]; exact⟨_,rfl⟩
theorem XB:DM X (.type "int") (λxs H Q=>(∃i,xs=[.int i]/\Q (.int i) H)\/∃k,xs=[.bl k]/\Q (.int (if k then 1 else 0)) H):=by
 intro pins s σ H xs us Q I r h;rcases h with ⟨i,rfl,q⟩ | ⟨k,rfl,q⟩
 ·obtain⟨u,rfl,t,rfl⟩:=EE r;exact call_int_int ⟨.int i,H,I,⟨_,rfl⟩,q⟩
 ·obtain⟨u,rfl,r1⟩:=EE r;cases r1;exact call_int_bool ⟨.int (if k then 1 else 0),H,I.DU _,⟨_,rfl⟩,q⟩
end
structure KY(h:Heap)(x dx C:Addr)(mA:Str->Option Value):Prop where
 obj:h.get? x=some (PySem.W.instObj C dx)
 ns:h.Ns1 dx mA
 ne:dx≠x
theorem WW{h:Heap}{dx:Addr}{mA:Str->Option Value}(n:h.Ns1 dx mA):∃od,h.get? dx=some od/\∀name,PySem.W.lookIn name od=some (mA name):=by
 obtain⟨o,es,ep,ho,hd,hk,_,hm⟩:=n;refine⟨o,ho,λname=>?_⟩;have e:=hm name;unfold nsFind findBy at e;rw[<-Array.find?_toList] at e;unfold PySem.W.lookIn;rw[hd];dsimp only;split
 ·rename_i y q
  rw[q] at e;exact congrArg some e
 ·rename_i q
  rw[q] at e;have a:es.toList.any (·.refKey)=false:=by
   rw[List.any_eq_false];intro y hy;obtain⟨z,t,hkey⟩:=hk y (Array.mem_toList_iff.mp hy);simp[DictEntry.refKey,hkey]
  have a':¬es.toList.any (·.refKey)=true:=by rw[a]; exact fX
  rw[eZ a'];exact congrArg some e
theorem KY.Ey{h:Heap}{x dx C:Addr}{mA:Str->Option Value}(I:KY h x dx C mA):∃od,PySem.W.InstAt h x (PySem.W.instObj C dx) C (some od)/\∀name,PySem.W.lookIn name od=some (mA name) :=
 let ⟨od,ho,hl⟩:=WW I.ns
 ⟨od,⟨I.obj,rfl,rfl,ho⟩,hl⟩
section
variable {prog:Program} {w:World} {A:Around} {E:Value->Shared->Prop} {s:Shared} {K:PySem.W.Frag} {x dx C f:Addr} {mA:Str->Option Value} {name:Str} {v:Value}
theorem R1 {ns:List Str} {Q:Unit->Shared->Prop} (X:K.In s.heap) (I:KY s.heap x dx C mA)
  (hs:PySem.W.findIn K (.ref C) "__setattr__" = some (some (.builtin "object.__setattr__"))) (hp:PySem.W.plainOver K C=true) (ht:PySem.W.takerIn K C name=some none) (hh:PySem.W.hasDictIn K C=true)
  (hw:PySem.Within mA ns) (hsz:ns.length<=sizeLine)
  (h:∀h',KY h' x dx C (λy=>if y=name then some v else mA y)->Heap.SameBut dx s.heap h'->Q () { s with heap:=h',toks:=s.toks+2 }) :
  wpAny (model prog w) A (setAttr (.ref x) name v) Q E s:=by
 obtain⟨od,J,hl⟩:=I.Ey;refine PySem.W.set_plain X J hs (PySem.W.osa_open (s:={ s with toks:=s.toks+1 }) (r:=none) X J hp ht λb=>?_);obtain⟨cd,hc,hd'⟩:=PySem.W.any_some hh;have hx:s.heap.get? x=some ⟨.ref C,some dx,.plain,#[]⟩:=I.obj;refine eV (fS (eV (eV (wpAny_loadPart hx (eV (PySem.W.Looks.here (s:={ s with toks:=s.toks+1 }) (PySem.W.looks_clsIn X hc) ?_))))));rw[hd'];refine fS (a:=some dx) (eV (fS (eV ?_)));refine wpAny_nsSet1 (s:={ s with toks:=s.toks+1 }) I.ns λh' hn2 hs2=>?_
 obtain⟨oD,esD,epD,hoD,hdD,hcD⟩:=hn2.count (PySem.Within.cons name v hw);refine eV (wpAny_lookBehind hoD (by rw[hdD]; exact pastItsLine_dict (fY hcD (by rw[gq]; omega))) ?_);exact fS (h _ ⟨(hs2.2 _ (iB I.ne)).trans I.obj,hn2,I.ne⟩ hs2)
end
theorem EK.R0{v:V}{o:Option Value}(r:EK (some v) o):∃u,o=some u/\Au v u:=by
 cases o with
 | none=>exact(show False from r).elim
 | some u=>exact⟨u,rfl,r⟩
section
variable {P:Program} {w:World} {H H':Hp} {h h':Heap} {a C dx:Addr} {fs fs':List (Str×V)}
theorem YQ(hok:Br P w H h)(e:H a=some (.Eg C dx fs)):∃mA,KY h a dx C mA/\(∀f,EK (fs.lookup f) (mA f))/\PySem.Within mA (fs.map (·.1))/\fs.length<=1000/\H dx=some (.ES a):=by
 obtain⟨d,z,ne,ob,mA,n,r,q⟩:=(show BY P w H h a (.Eg C dx fs) from hok a _ e);exact⟨mA,⟨ob,n,ne⟩,r,q,z,d⟩
end
structure PJ(K:PySem.W.Frag)(C:Addr):Prop where
 pg:PySem.W.plainGet K C Str.empty=true
 hd:PySem.W.hasDictIn K C=true
 po:PySem.W.plainOver K C=true
 sa:PySem.W.findIn K (.ref C) "__setattr__" = some (some (.builtin "object.__setattr__"))
theorem PJ.get{K:PySem.W.Frag}{C:Addr}(c:PJ K C)(f:Str):PySem.W.plainGet K C f=true:=c.pg
section
variable {X:Cx} {pins:List (Addr×Obj)} {σ:St} {H:Hp} {s:Shared} {a C dx:Addr} {fs:List (Str×V)} {f:Str} {v:V} {A:Around} {E:Value->Shared->Prop}
end
section
variable {X:Cx} {o e value:Expr} {f:Str} {pos pos' tpos:Pos} {ta tv:TE}
end
section
variable {X:Cx} {pins:List (Addr×Obj)} {σ:St} {H:Hp} {s:Shared} {A:Around} {E:Value->Shared->Prop} {Q:Value->Shared->Prop} {c:Value} {b:Bool}
inductive C8(K:PySem.W.Frag)(H:Hp):V->Value->Prop where
 | BA:C8 K H .BA (.type "NoneType")
 | bl (x:Bool):C8 K H (.bl x) (.type "bool")
 | int (i:Int):C8 K H (.int i) (.type "int")
 | str (x:Str):C8 K H (.str x) (.type "str")
 | JQ (x:UInt64):C8 K H (.JQ x) (.type "float")
 | AB {a:Addr} {xs:List V} (e:H a=some (.AB xs)):C8 K H (.ref a) (.type "list")
 | D7 {a:Addr} {o:Obj} {xs:List V} (e:H a=some (.D7 o (.AB xs))):C8 K H (.ref a) (.type "list")
 | AG {a:Addr} {xs:List V} (e:H a=some (.AG xs)):C8 K H (.ref a) (.type "tuple")
 | dK {a:Addr} {kvs:List (AX×V)} (e:H a=some (.dK kvs)):C8 K H (.ref a) (.type "dict")
 | dT {a:Addr} {kvs:List (List AX×V)} (e:H a=some (.dT kvs)):C8 K H (.ref a) (.type "dict")
 | Eg {a C dx:Addr} {fs:List (Str×V)} (e:H a=some (.Eg C dx fs)) (cl:PJ K C) (ha:PySem.W.findIn K (.ref C) "__class__" = some (some (.builtin "object.__class__")))
   (hn:PySem.W.specialIn K (.builtin "object.__class__") "__get__" = some (some (.builtin "getset_descriptor.__get__"))) (htk:PySem.W.takesIn K (.builtin "object.__class__")=some true)
   (hm:PySem.W.mroIn K C (.type "object")=some true):C8 K H (.ref a) (.ref C)
theorem WL{x:V}{u t:Value}(I:AI X pins σ H s)(rx:Au x u)(ty:C8 X.K H x t)(e:PySem.W.kitOne X.K t c=some b)(h:∀tk,Q (.bool b) { s with toks:=tk }):
  wpAny (model X.prog X.w) A (call (.builtin "isinstance") [u,c]) Q E s:=by
 cases ty with
 | BA=>cases (show u=Value.none from rx); exact iP PySem.W.kitx_none I.DV True.intro e (λz=>nomatch z) h
 | bl y=>cases (show u=Value.bool y from rx); exact iP PySem.W.kitx_bool I.DV True.intro e (λz=>nomatch z) h
 | int i=>obtain⟨t,q⟩:=(show ∃t,u=Value.int i t from rx); cases q; exact iP PySem.W.kitx_int I.DV True.intro e (λz=>nomatch z) h
 | str y=>obtain⟨t,q⟩:=(show ∃t,u=Value.str y t from rx); cases q; exact iP PySem.W.kitx_str I.DV True.intro e (λz=>nomatch z) h
 | JQ y=>obtain⟨t,q⟩:=(show ∃t,u=Value.float y t from rx); cases q; exact iP PySem.W.kitx_float I.DV True.intro e (λz=>nomatch z) h
 | @AB a xs ea =>
  cases (show u=Value.ref a from rx);obtain⟨_,_,n,_,h1⟩:=(show BY X.prog X.w H s.heap a (.AB xs) from I.hok a _ ea);exact iP PySem.W.kitx_list I.DV ⟨_,h1,rfl⟩ e (λz=>nomatch z) h
 | @D7 a ob xs ea =>
  cases (show u=Value.ref a from rx);obtain⟨_,_,_,n,_,h1⟩:=(show BY X.prog X.w H s.heap a (.D7 ob (.AB xs)) from I.hok a _ ea);exact iP PySem.W.kitx_list I.DV ⟨_,h1,rfl⟩ e (λz=>nomatch z) h
 | @AG a xs ea =>
  cases (show u=Value.ref a from rx);obtain⟨_,_,_,p,_⟩:=(show BY X.prog X.w H s.heap a (.AG xs) from I.hok a _ ea);obtain⟨o,h1,h2,_⟩:=p;exact iP PySem.W.kitx_tuple I.DV ⟨o,h1,h2⟩ e (λz=>nomatch z) h
 | @dK a kvs ea =>
  cases (show u=Value.ref a from rx);obtain⟨_,_,vs,_,p⟩:=(show BY X.prog X.w H s.heap a (.dK kvs) from I.hok a _ ea);obtain⟨o,es,ep,h1,h2,_⟩:=p;exact iP PySem.W.kitx_dict I.DV ⟨o,h1,h2.1⟩ e (λz=>nomatch z) h
 | @dT a kvs ea =>
  cases (show u=Value.ref a from rx);obtain⟨_,_,xs,_,o,es,ep,h1,h2,_⟩:=(show BY X.prog X.w H s.heap a (.dT kvs) from I.hok a _ ea);exact iP PySem.W.kitx_dict I.DV ⟨o,h1,h2.1⟩ e (λz=>nomatch z) h
 | @Eg a C dx fs ea cl ha hn htk hm =>
  cases (show u=Value.ref a from rx);obtain⟨mA,O,_⟩:=YQ I.hok ea;obtain⟨od,J,_⟩:=O.Ey;exact iP (PySem.W.kitx_own (cl.get _) cl.hd ha hn htk hm) I.DV J e (λz=>nomatch z) h
end
structure CQ(k:Nat)(A:Around):Prop where
 hd:A.handled=none
 dp:A.depth+3*k+5<recursionLimit
 un:A.units+16*k+200<cLine
theorem CQ.mono{j k:Nat}{A:Around}(r:CQ k A)(h:j<=k):CQ j A:=⟨r.hd,by have:=r.dp; omega,by have:=r.un; omega⟩
theorem CQ.deeper{k:Nat}{A:Around}(r:CQ (k+1) A)(env:Env):CQ k (A.deeper env) :=
 ⟨r.hd,by have:=r.dp; show A.depth+1+3*k+5<_; omega,by have:=r.un; show A.units+3+16*k+200<_; omega⟩
theorem CQ.in1{k:Nat}{A:Around}(r:CQ (k+1) A):CQ k A.in1 :=
 ⟨r.hd,by have:=r.dp; show A.depth+3*k+5<_; omega,by have:=r.un; show A.units+1+16*k+200<_; omega⟩
theorem CQ.depth{k:Nat}{A:Around}(r:CQ k A):A.depth<recursionLimit:=by have:=r.dp; omega
theorem CQ.units{k:Nat}{A:Around}(r:CQ k A):A.units+64<cLine:=by have:=r.un; omega
def CF:TA:=λ_ H Q=>Q [] H
def BJ(ta:TE)(tr:TA):TA:=λσ H Q=>ta σ H λx H1=>tr σ H1 λxs H2=>Q (x :: xs) H2
section
variable {X:Cx} {e:Expr} {es:List Expr} {te:TE} {t:TA} {pos:Pos}
theorem AE:PA X [] CF:=λ_ _ _ _ H Q I h=>Calls.spliced_nil ⟨[],H,I,.nil,h⟩
theorem AA(ha:PE X e te)(hr:PA X es t)(hs:starEach (e :: es) X.env=(false,eval e X.env) :: starEach es X.env:=by rfl):PA X (e :: es) (BJ te t):=by
 intro pos pins s σ H Q I h;rw[hs];show wpAny _ _ (spliced ((false,eval e X.env) :: backTo pos (starEach es X.env))) _ _ s;refine Calls.spliced_cons (Ai (ha pins s σ H _ I h) λu s1 ⟨x,H1,I1,r1,q1⟩=>?_);exact Ai (hr pos pins s1 σ H1 _ I1 q1) λus s2 ⟨xs,H2,I2,r2,q2⟩=>⟨x :: xs,H2,I2,.cons r1 r2,q2⟩
inductive UH(xs:List V)(H:Hp)(Q:VK):Prop
 | mk (n:xs.length<=sizeLine) (q:∀p,H p=none->Q (.ref p) (AF H p (.AG xs))):UH xs H Q
inductive UC(xs:List V)(H:Hp)(Q:VK):Prop
 | mk (n:xs.length<=sizeLine) (q:∀p,H p=none->Q (.ref p) (AF H p (.AB xs))):UC xs H Q
def JK(t:TA):TE:=λσ H Q=>t σ H λxs H1=>UH xs H1 Q
def UR(t:TA):TE:=λσ H Q=>t σ H λxs H1=>UC xs H1 Q
theorem BP{x1}(h:PA X es t):PE X (.Tuple es x1 pos) (JK t):=by
 intro pins s σ H Q I hq;refine wpAny_Tuple_spliced (Ai (h pos pins s σ H _ I hq) λus s1 ⟨xs,H1,I1,r,z,q⟩=>⟨by rw[<-r.length]; exact z,?_⟩);have hf:H1 s1.heap.objs.size=none:=I1.hok.BW (eU _);refine⟨.ref s1.heap.objs.size,AF H1 s1.heap.objs.size (.AG xs),I1.C6 (t':=s1.toks) (λb u e=>eY _ e) (eU _) ?_,rfl,q _ hf⟩;exact⟨z,us,r,⟨_,fO _ rfl,rfl,_,rfl⟩,_,fO _ rfl,rfl⟩
theorem CB(h:PA X es t):PE X (.List es pos) (UR t):=by
 intro pins s σ H Q I hq;refine wpAny_List_spliced (Ai (h pos pins s σ H _ I hq) λus s1 ⟨xs,H1,I1,r,z,q⟩=>⟨by rw[<-r.length]; exact z,?_⟩);have hf:H1 s1.heap.objs.size=none:=I1.hok.BW (eU _);refine⟨.ref s1.heap.objs.size,AF H1 s1.heap.objs.size (.AB xs),I1.C6 (t':=s1.toks) (λb u e=>eY _ e) (eU _) ?_,rfl,q _ hf⟩;exact⟨z,us,0,r,fO _ rfl⟩
end
abbrev Sp:=List V->Hp->VK->XK->Prop
abbrev EN:=List Env->Hp->Shared->XK->Value->Shared->Prop
structure Hu(P:Program)(w:World)(K:PySem.W.Frag)(mg:Str->Option Value)(base:Heap)(A:Around)(outer:List Env)(s:Shared)(H:Hp):Prop where
 frames:A.frames=some outer
 DI:Mod K mg base
 bs:∀b o,base.get? b=some o->s.heap.get? b=some o/\H b=none
 FY:base.objs.size<=s.heap.objs.size
 Ec:s.heap.FunFrames base outer
 IF:∀b∈E5 outer,H b=none
 hok:Br P w H s.heap
 bare:AllBare s.gens
def CE(outer:List Env)(P:Program)(w:World)(H:Hp)(s:Shared)(Q:VK)(u:Value)(s':Shared):Prop :=
 ∃v H',s'.os=s.os/\AllBare s'.gens/\Un (E5 outer) [] H H' s.heap s'.heap/\Br P w H' s'.heap/\Au v u/\Q v H'
def CR(CX:EN)(outer:List Env)(P:Program)(w:World)(H:Hp)(s:Shared)(Q:VK)(E:XK)(r:Result)(s':Shared):Prop :=
 match r with
 | .ok (.ret u)=>CE outer P w H s Q u s'
 | .ok _=>False
 | .error e=>CX outer H s E e s'
structure An(P:Program)(w:World)(K:PySem.W.Frag)(mg:Str->Option Value)(base:Heap)(CX:EN)(k:Nat)(f:Addr)(fd:FuncData)(ps:List Str)(sp:Sp):Prop where
 len:∀vs H Q E,sp vs H Q E->vs.length=ps.length
 run:∀(A:Around) (outer:List Env) (s:Shared) (H:Hp) (args:Args) (us:List Value) (vs:List V) (Q:VK) (E:XK),CQ k A->Hu P w K mg base A outer s H->BindsTo s fd args (ps.zip us)->Ag vs us->sp vs H Q E →
  codeAny (model P w) A (.call (.ref f) args) (CR CX outer P w H s Q E) s
theorem An.mono{P:Program}{w:World}{K:PySem.W.Frag}{mg:Str->Option Value}{base:Heap}{CX:EN}{j k:Nat}{f:Addr}{fd:FuncData}{ps:List Str}{sp:Sp}(F:An P w K mg base CX j f fd ps sp)(h:j<=k):
  An P w K mg base CX k f fd ps sp:=⟨F.len,λA outer s H args us vs Q E hr=>F.run A outer s H args us vs Q E (hr.mono h)⟩
theorem An.imp {P:Program} {w:World} {K:PySem.W.Frag} {mg:Str->Option Value} {base:Heap} {CX:EN} {k:Nat} {f:Addr} {fd:FuncData} {ps:List Str} {sp sp':Sp} (F:An P w K mg base CX k f fd ps sp)
  (h:∀vs H Q E,sp' vs H Q E->sp vs H Q E):An P w K mg base CX k f fd ps sp' :=
 ⟨λvs H Q E q=>F.len vs H Q E (h _ _ _ _ q),λA outer s H args us vs Q E hr he hb hv hs=>F.run A outer s H args us vs Q E hr he hb hv (h _ _ _ _ hs)⟩
theorem Hu.in1{P:Program}{w:World}{K:PySem.W.Frag}{mg:Str->Option Value}{base:Heap}{A:Around}{outer:List Env}{s:Shared}{H:Hp}(e:Hu P w K mg base A outer s H):
  Hu P w K mg base A.in1 outer s H:=⟨e.frames,e.DI,e.bs,e.FY,e.Ec,e.IF,e.hok,e.bare⟩
section
variable {X:Cx} {pins:List (Addr×Obj)} {σ:St} {H:Hp} {s s':Shared}
theorem AI.cQ(I:AI X pins σ H s):Hu X.prog X.w X.K X.mg X.base X.A X.stack s H :=
 ⟨I.ok.frames,I.ok.DI,I.bs,fY I.ok.FY I.sz,I.stack,I.SG,I.hok,I.bare⟩
theorem AI.after{Q:VK}{u:Value}(I:AI X pins σ H s)(h:CE X.stack X.prog X.w H s Q u s'):EP X pins σ Q u s':=by
 obtain⟨v,H',os,bare,un,hok,r,q⟩:=h;obtain⟨hh,g,d,t,os'⟩:=s';obtain rfl:os'=s.os:=os;exact⟨v,H',I.call (h':=hh) (g':=g) (d':=d) (t':=t) (ch:=[]) un hok bare (λb z=>absurd z (by simp)),r,q⟩
end
def D1(sp:Sp)(dvs:List V)(E:XK)(t:TA):TE:=λσ H Q=>t σ H λvs H1=>sp (vs++dvs) H1 Q E
def EC(K:PySem.W.Frag)(fd:FuncData)(ps:List Str)(ds:List Value):Prop :=
 ∀(s:Shared) (us:List Value),K.In s.heap->(us++ds).length=ps.length->BindsTo s fd ⟨us,[]⟩ (ps.zip (us++ds))
theorem EC.all{K:PySem.W.Frag}{fd:FuncData}{ps:List Str}(h:∀us:List Value,us.length=ps.length->bindArgs fd ⟨us,[]⟩=pure (ps.zip us)):EC K fd ps []:=λs us _ hl=>by
 rw[iF] at hl ⊢;exact .of_eq (h us hl)
def N4(CX:EN)(X:Cx)(E:XK):Prop:=∀(pins:List (Addr×Obj)) (σ:St) (H:Hp) (s:Shared) (e:Value) (s':Shared),AI X pins σ H s->CX X.stack H s E e s'->X.xe e s'
section
variable {X:Cx} {CX:EN} {k:Nat} {f C:Addr} {fd:FuncData} {ps:List Str} {sp:Sp} {dvs:List V} {ds:List Value} {E:XK} {x m:Str} {p pos apos:Pos} {e o:Expr} {es:List Expr} {ta:TE} {t:TA}
theorem Z2 {pins:List (Addr×Obj)} {σ:St} {H:Hp} {s:Shared} {Q:VK} {us:List Value} {vs:List V} (F:An X.prog X.w X.K X.mg X.base CX k f fd ps sp) (hr:CQ k X.A) (hb:EC X.K fd ps ds) (hd:Ag dvs ds) (hx:N4 CX X E)
  (I:AI X pins σ H s) (r:Ag vs us) (h:sp (vs++dvs) H Q E):wpAny (model X.prog X.w) X.A (call (.ref f) us) (EP X pins σ Q) X.xe s:=by
 have r2:Ag (vs++dvs) (us++ds):=r.append hd;have hl:(us++ds).length=ps.length:=by rw[<-r2.length]; exact F.len _ _ _ _ h
 refine wpAny_call (codeAny_mono (F.run X.A X.stack s H ⟨us,[]⟩ (us++ds) (vs++dvs) Q E hr I.cQ (hb s us I.DV hl) r2 h) λr s' hq=>?_);cases r with
 | error e=>exact hx pins σ H s e s' I hq
 | ok fl =>
  cases fl with
  | ret u=>exact I.after hq
  | next=>exact False.elim hq
  | brk=>exact False.elim hq
  | cont=>exact False.elim hq
theorem ZG (F:An X.prog X.w X.K X.mg X.base CX k f fd ps sp) (hr:CQ k X.A) (hg:Gl X x) (hm:X.mg x=some (.ref f)) (hk:PySem.W.keepIn X.K (.ref f)=true) (hb:EC X.K fd ps ds) (hd:Ag dvs ds) (hx:N4 CX X E)
  (ha:PA X (e :: es) t) (hdb:(x == ("__debug__":Str))=false:=by decide) (he:starEach (e :: es) X.env=(false,eval e X.env) :: starEach es X.env:=by rfl) (hpl:(backTo pos (starEach es X.env)).any (·.1)=false:=by rfl) :
  PE X (.Call (.Name x p) (e :: es) [] pos) (D1 sp dvs E t):=by
 intro pins s σ H Q I h;refine iH (Y0 I hg hm ?_ hdb);refine PySem.W.callWith_K (h₀:=X.base) I.ok.DI.PN hk (Ai (ha pos pins s σ H _ I h) λus s1 ⟨vs,H1,I1,r,q⟩=>⟨I1.DV,?_⟩) he hpl;exact Z2 F hr hb hd hx I1 r q
structure Mk(K:PySem.W.Frag)(C f:Addr):Prop where
 eF:PySem.W.makesIn K C=true
 eI:PySem.W.findIn K (.ref C) "__init__" = some (some (.ref f))
 fn:PySem.W.isFn K (.ref f)=true
 kp:PySem.W.keepIn K (.ref C)=true
end
section
variable {X:Cx} {CX:EN} {k:Nat} {f C:Addr} {fd:FuncData} {ps ks:List Str} {sp:Sp} {E:XK} {x m:Str} {p pos apos kpos:Pos} {e o:Expr} {es:List Expr} {kws:List Keyword} {te ta:TE} {t tk:TA} {nm:Option Str}
variable {g:List Value->List Value->List Value} {gV:List V->List V->List V}
end
structure A3(N P:List Str)(sc:Scope):Prop where
 kind:sc.kind=.function
 co:sc.isCoroutine=false
 di:sc.isGenerator=false
 nd:N.Nodup
 pre:N.take P.length=P
 Uv:∀x∈P,sc.names.lookup x=some .local\/sc.names.lookup x=some .cell
 aW:∀y∈sc.names,y.2≠.free
abbrev KP(K:PySem.W.Frag)(f:Addr):Prop:=PySem.W.keepIn K (.ref f)=true
theorem FZ:0<=sizeLine:=by decide
theorem EO:1<=sizeLine:=by decide
theorem Bh:2<=sizeLine:=by decide
theorem E7:3<=sizeLine:=by decide
theorem VD:4<=sizeLine:=by decide
theorem QG{kindOf:Str->Option NameKind}{x:Str}:∀{binds:List (Str×Value)} {m:Str->Option Value},(∀v,(x,v)∉binds)->bindL kindOf binds m x=m x
 | [],_,_=>rfl
 | (n,v) :: r,m,h=>by
  unfold bindL;rw[QG λw hw=>h w (gJ _ hw)];split
  ·have:x≠n:=by rintro rfl; exact h v ir
   simp[this]
  ·rfl
theorem QT{kindOf:Str->Option NameKind}{x:Str}:∀{binds:List (Str×Value)} {m:Str->Option Value},(∀v,(x,v)∉binds)->bindC kindOf binds m x=m x
 | [],_,_=>rfl
 | (n,v) :: r,m,h=>by
  unfold bindC;rw[QT λw hw=>h w (gJ _ hw)];split
  ·rfl
  ·have:x≠n:=by rintro rfl; exact h v ir
   simp[this]
theorem QX{kindOf:Str->Option NameKind}{x:Str}{v:Value}:∀{P:List Str} {vs:List Value} {i:Nat} {m:Str->Option Value},P.Nodup->P[i]?=some x->vs[i]?=some v->kindOf x=some .local →
  bindL kindOf (P.zip vs) m x=some v
 | [],_,_,_,_,h,_,_=>by simp at h
 | _ :: _,[],_,_,_,_,h,_=>by simp at h
 | p :: P,w :: vs,0,m,nd,h1,h2,hk=>by
  simp at h1 h2; subst h1; subst h2;show bindL kindOf ((p,w) :: P.zip vs) m p=_;unfold bindL;rw[QG λv hv=>(ig.mp nd).1 (List.of_mem_zip hv).1,ff hk];simp
 | p :: P,w :: vs,i+1,m,nd,h1,h2,hk=>by
  show bindL kindOf ((p,w) :: P.zip vs) m x=_;unfold bindL;exact QX (i:=i) (ig.mp nd).2 (by simpa using h1) (by simpa using h2) hk
theorem QY{kindOf:Str->Option NameKind}{x:Str}{v:Value}:∀{P:List Str} {vs:List Value} {i:Nat} {m:Str->Option Value},P.Nodup->P[i]?=some x->vs[i]?=some v->kindOf x≠some .local →
  bindC kindOf (P.zip vs) m x=some v
 | [],_,_,_,_,h,_,_=>by simp at h
 | _ :: _,[],_,_,_,_,h,_=>by simp at h
 | p :: P,w :: vs,0,m,nd,h1,h2,hk=>by
  simp at h1 h2; subst h1; subst h2;show bindC kindOf ((p,w) :: P.zip vs) m p=_;unfold bindC;rw[QT λv hv=>(ig.mp nd).1 (List.of_mem_zip hv).1,eZ hk];simp
 | p :: P,w :: vs,i+1,m,nd,h1,h2,hk=>by
  show bindC kindOf ((p,w) :: P.zip vs) m x=_;unfold bindC;exact QY (i:=i) (ig.mp nd).2 (by simpa using h1) (by simpa using h2) hk
def Ft(N:List Str)(vs:List V):St:=vs.map some++List.replicate (N.length-vs.length) none
def ID(CX:EN)(P:Program)(w:World)(K:PySem.W.Frag)(mg:Str->Option Value)(base:Heap)(N:List Str)(qual:Str)(scope:Scope)(f:Addr)(cd:Value)(A:Around)(outer:List Env)(s:Shared)(H:Hp)(E:XK):Cx where
 prog:=P
 w:=w
 K:=K
 mg:=mg
 base:=base
 A:=A.deeper (envOfC qual scope s.heap.objs.size f cd)
 N:=N
 s₀:=s
 H₀:=H
 env:=envOfC qual scope s.heap.objs.size f cd
 outer:=outer
 stack:=envOfC qual scope s.heap.objs.size f cd :: outer
 ex:=[]
 CS:=true
 fn:=λ_=>true
 pn:=[]
 xe:=λe s'=>wpAny (model P w) (A.deeper (envOfC qual scope s.heap.objs.size f cd)) (leaving (envOfC qual scope s.heap.objs.size f cd) e) (λ_ s''=>CX outer H s E e s'') (λe' s''=>CX outer H s E e' s'') s'
theorem RB{sc:Scope}{n:Nat}{x:Str}(h:sc.names.lookup x=some .cell):∃c,(cellsFrom n sc.names []).lookup x=some c:=by
 have q:=PySem.W.cellsFrom_some sc.names n [] (.inl h);exact Option.isSome_iff_exists.mp q
theorem XC {CX:EN} {P:Program} {w:World} {K:PySem.W.Frag} {mg:Str->Option Value} {base:Heap} {N ps:List Str} {qual:Str} {scope:Scope} {f:Addr} {cd:Value} {A:Around} {outer:List Env} {s s1:Shared} {H:Hp} {E:XK} {us:List Value} {vs:List V}
  (S:A3 N ps scope) (hd:A.handled=none) (e0:Hu P w K mg base A outer s H) (hl:vs.length=ps.length) (r:Ag vs us)
  (x:InCallC s s.heap.objs.size (bindL (envOfC qual scope s.heap.objs.size f cd).kindOf (ps.zip us) λ_=>none) (cellsFrom (s.heap.objs.size+1) scope.names []) (bindC (envOfC qual scope s.heap.objs.size f cd).kindOf (ps.zip us) λ_=>none) s1) :
  AI (ID CX P w K mg base N qual scope f cd A outer s H E) [] (Ft N vs) H s1:=by
 have hpl:ps.length<=N.length:=by have:=congrArg List.length S.pre; rw[g9] at this; omega
 obtain⟨h1,tk,rfl,hk⟩:=x.done;have noA:∀b:Addr,b∉(ID CX P w K mg base N qual scope f cd A outer s H E).ex:=λb z=>absurd (show b∈([]:List Addr) from z) (by simp)
 refine⟨⟨e0.DI,S.kind,rfl,rfl,eU _,λy z c h1 h2=>?_,λy hy=>?_,λy c _ h=>?_,λ_=>hd,Around.frames_deeper e0.frames,.inr ⟨rfl,rfl⟩,λb z=>absurd z (noA b),e0.bs,e0.FY,λb _ _=>noA b,λb z=>absurd z (noA b),e0.Ec,e0.IF⟩,
  rfl,e0.bare,Un.Bn hk,⟨_,x.toInCall.ns,λi y v h1 h2 h3=>?_⟩,λy c h=>⟨_,x.cell y c h⟩,e0.hok.BW (eU _),λy c h=>?_,λp hp=>absurd (show p∈([]:List (Addr×Obj)) from hp) (by simp),e0.hok.Bn hk,?_⟩
 ·exact name_of_addr x.apart (iX h1) (iX h2)
 ·have hy:scope.names.lookup y=some .cell\/scope.names.lookup y=some .free:=hy;rcases hy with hy | hy
  ·exact RB hy
  ·exact absurd rfl (S.aW _ (iX hy))
 ·exact Nat.le_of_lt (x.above y c (iX h))
 ·have hi:i<vs.length:=by
   unfold Ft at h2;by_cases hi:i<vs.length
   ·exact hi
   ·rw[fu (by simpa using hi)] at h2;rw[List.getElem?_replicate] at h2;split at h2 <;> cases h2
  have ha:vs[i]?=some v:=by
   unfold Ft at h2;rw[fN (by simpa using hi),fg] at h2;cases e:vs[i]? with
   | none=>rw[e] at h2; cases h2
   | some a=>rw[e] at h2; cases h2; rfl
  obtain⟨u,hu,rv⟩:=r.get ha;have hp:ps[i]?=some y:=by
   rw[<-S.pre,List.getElem?_take_of_lt (by omega)]; exact h1
  have ndP:ps.Nodup:=by rw[<-S.pre]; exact S.nd.sublist (List.take_sublist _ _)
  refine⟨u,rv,?_⟩;rcases S.Uv y (eQ hp) with k | k
  ·exact .inl ⟨k,QX ndP hp hu k⟩
  ·obtain⟨c,e⟩:=RB (n:=s.heap.objs.size+1) k;refine .inr ⟨.inl k,c,e,?_⟩;have q:=x.cell y c e;rw[QY ndP hp hu (by show scope.names.lookup y≠_; rw[k]; decide)] at q;exact q
 ·exact e0.hok.BW (Nat.le_of_lt (x.above y c (iX h)))
 ·unfold Ft;show _=N.length;rw[fj,ed,List.length_replicate];omega
theorem az {CX:EN} {P:Program} {w:World} {K:PySem.W.Frag} {mg:Str->Option Value} {base:Heap} {k:Nat} {f:Addr} {name qual:Str} {params:Arguments} {body:List Stmt} {scope:Scope} {dV kV doc pm cdv ct oc:Value} {an od:Option Addr}
  {osl:Array (Option Value)} {N ps:List Str} {sp:Sp} (lk:K.lookup f=some ⟨oc,od,.func (PySem.W.fnOf name qual params body scope dV kV doc pm an cdv ct),osl⟩) (hcd:PySem.W.codeIn K cdv qual=true) (S:A3 N ps scope)
  (len:∀vs H Q E,sp vs H Q E->vs.length=ps.length)
  (hbody:∀(A:Around) (outer:List Env) (s:Shared) (H:Hp) (vs:List V) (Q:VK) (E:XK),CQ k (A.deeper (envOfC qual scope s.heap.objs.size f cdv))->sp vs H Q E →
   ∃t,CW (ID CX P w K mg base N qual scope f cdv A outer s H E) body t/\t { nx:=λ_ H'=>Q .BA H',rt:=Q } (Ft N vs) H) :
  An P w K mg base CX (k+1) f (PySem.W.fnOf name qual params body scope dV kV doc pm an cdv ct) ps sp:=by
 refine⟨len,λA outer s H args us vs Q E hr e0 hb r hsp=>?_⟩;have hl:=len _ _ _ _ hsp;have KX:K.In s.heap:=e0.DI.PN.keeps λb o e=>(e0.bs b o e).1
 have lim:s.heap.NoLimit:=e0.DI.nolimit.keeps λb o e=>(e0.bs b o e).1
 have hkind:∀y∈ps.zip us,scope.names.lookup y.1=some .local\/(scope.names.lookup y.1=some .cell/\((cellsFrom (s.heap.objs.size+1) scope.names []).lookup y.1).isSome=true):=λ⟨n,v⟩ hy=>by
  rcases S.Uv n (List.of_mem_zip hy).1 with q | q
  ·exact .inl q
  ·exact .inr ⟨q,PySem.W.cellsFrom_some _ _ _ (.inl q)⟩
 refine codeAny_call_function hr.depth (KX _ _ lk) rfl S.co S.di rfl (PySem.W.codeRec_of KX hcd) (hb _ _ _ _ ?_);refine wpAny_newFunctionEnv_cells S.kind hkind λenv he s1 x=>?_
 subst he;refine⟨lim.keeps x.toInCall.keep,codeAny_func ?_⟩;obtain⟨t,ht,hq⟩:=hbody A outer s H vs Q E (hr.deeper _) hsp;have I:AI (ID CX P w K mg base N qual scope f cdv A outer s H E) [] (Ft N vs) H s1:=XC S hr.hd e0 hl r x;refine iT (ht [] s1 (Ft N vs) H _ I hq) (λfl s' hs=>?_) λe s' hs=>hs
 have fin:∀{σ':St} {H':Hp} {v:V} {u:Value},AI (ID CX P w K mg base N qual scope f cdv A outer s H E) [] σ' H' s'->Au v u->Q v H'->CE outer P w H s Q u s' :=
  λ{σ' H' v u} J rv q=>⟨v,H',J.os,J.bare,J.base,J.hok,rv,q⟩
 cases fl with
 | ret u =>
  obtain⟨v,σ',H',J,rv,q⟩:=hs;exact fin J rv q
 | next =>
  obtain⟨σ',H',J,q⟩:=hs;exact fin (v:=V.BA) (u:=Value.none) J rfl q
 | brk =>
  obtain⟨_,_,_,q⟩:=hs;exact False.elim q
 | cont =>
  obtain⟨_,_,_,q⟩:=hs;exact False.elim q
section
variable {X:Cx} {x:Str} {p pos:Pos} {e:Expr} {es:List Expr} {t:TA} {id T:String} {r:List V->Hp->VK->Prop}
def PR(r:List V->Hp->VK->Prop)(t:TA):TE:=λσ H Q=>t σ H λvs H1=>r vs H1 Q
theorem A8 (hc:DM X (.builtin id) r) (hg:Gl X x) (hm:X.mg x=none) (hv:bootBuiltins x=some (.builtin id)) (ha:PA X (e :: es) t) (hn:x≠"__name__":=by decide) (hdb:(x == ("__debug__":Str))=false:=by decide)
  (he:starEach (e :: es) X.env=(false,eval e X.env) :: starEach es X.env:=by rfl) (hpl:(backTo pos (starEach es X.env)).any (·.1)=false:=by rfl):PE X (.Call (.Name x p) (e :: es) [] pos) (PR r t):=by
 intro pins s σ H Q I h;refine iH (DX I hg hm hv ?_ hn hdb);exact PyProof.Rows.callWith_builtin1 (Ai (ha pos pins s σ H _ I h) λus s1 ⟨vs,H1,I1,r1,q1⟩=>hc pins s1 σ H1 vs us Q I1 r1 q1) he hpl
theorem Cn (hc:DM X (.type T) r) (hg:Gl X x) (hm:X.mg x=none) (hv:bootBuiltins x=some (.type T)) (ha:PA X (e :: es) t) (hn:x≠"__name__":=by decide) (hdb:(x == ("__debug__":Str))=false:=by decide)
  (he:starEach (e :: es) X.env=(false,eval e X.env) :: starEach es X.env:=by rfl) (hpl:(backTo pos (starEach es X.env)).any (·.1)=false:=by rfl):PE X (.Call (.Name x p) (e :: es) [] pos) (PR r t):=by
 intro pins s σ H Q I h;refine iH (DX I hg hm hv ?_ hn hdb);exact gy (Ai (ha pos pins s σ H _ I h) λus s1 ⟨vs,H1,I1,r1,q1⟩=>hc pins s1 σ H1 vs us Q I1 r1 q1) he hpl
end
end L2
namespace HT
open PySem PyProof.Rows
section
open PySem.SeqAt
open PySem.AutoSeq1 (wpAny_loadPart')
open PySem.MeetsSeq PySem.MeetsSeq2 PySem.MeetsSeq3
end
section
variable {prog:Program} {w:World} {A:Around} {E:Value->Shared->Prop} {s:Shared}
theorem Y7 {t b:Addr} {vs ws:List Value} {Q:Value->Shared->Prop} (ht:IsTup s.heap t vs.toArray) (hb:IsTup s.heap b ws.toArray) (hv:vs≠[])
  (h1:ws=[]->Q (.ref t) s) (h2:ws≠[]->Q (.ref s.heap.objs.size) { s with heap:=s.heap.push { cls:=.type "tuple",data:=.seq (vs++ws).toArray } })
  (hsz:vs.length+ws.length<=sizeLine):wpAny (model prog w) A (binaryOp .Add (.ref t) (.ref b)) Q E s:=by
 obtain⟨⟨cls,dd,data,sl⟩,ho,hc,n,hd⟩:=id ht;obtain⟨⟨cls2,dd2,data2,sl2⟩,ho2,hc2,n2,hd2⟩:=id hb;simp only at hc hd hc2 hd2;subst hc hd hc2 hd2;have e:vs.toArray++ws.toArray=(vs++ws).toArray:=by simp
 by_cases hw:ws=[]
 ·exact concat_meets ⟨_,ho,rfl⟩ ⟨_,ho2,rfl⟩ noFill_tuple_add seq_tuple_add PySem.F.slot_tuple_add PySem.F.entry_tuple_add (PySem.F.args_tuple_add_2 _ _)
   (tuple_addW1 t b vs.toArray ws.toArray n n2 dd dd2 sl sl2 (by simpa using hv) (by simp[hw])) ⟨ho,ho2,h1 hw⟩
 ·refine concat_meets ⟨_,ho,rfl⟩ ⟨_,ho2,rfl⟩ noFill_tuple_add seq_tuple_add PySem.F.slot_tuple_add PySem.F.entry_tuple_add (PySem.F.args_tuple_add_2 _ _)
   (tuple_addW2 t b vs.toArray ws.toArray n n2 dd dd2 sl sl2 (by simpa using hv) (by simpa using hw) (by rw[fG,fG]; exact hsz)) ⟨ho,ho2,?_⟩
  rw[e];exact h2 hw
def Av(n d:Nat):Option Int->Nat
 | none=>d
 | some v=>if v<0 then (v+(n:Int)).toNat else min v.toNat n
theorem Zs(n d:Nat)(hd:d<=n)(o:Option Int):Av n d o<=n:=by
 cases o with
 | none=>exact hd
 | some v =>
  show(if v<0 then (v+(n:Int)).toNat else min v.toNat n)<=n;by_cases hv:v<0
  ·rw[ff hv]; omega
  ·rw[eZ hv]; exact Nat.min_le_right _ _
theorem R8(v:Int)(n d:Nat):(if v<0 then max (v+(n:Int)) 0 else min v (n:Int))=((Av n d (some v):Nat):Int):=by
 show(if v<0 then max (v+(n:Int)) 0 else min v (n:Int))=(((if v<0 then (v+(n:Int)).toNat else min v.toNat n):Nat):Int);by_cases hv:v<0
 ·simp only[ff hv]; omega
 ·simp only[eZ hv]; omega
theorem Vp(lo hi:Option Int)(n:Nat):Builtin.Slice.sliceAdjust lo hi 1 (n:Int)=(((Av n 0 lo:Nat):Int),((Av n n hi:Nat):Int)):=by
 have h1:¬((1:Int)<0):=by omega
 unfold Builtin.Slice.sliceAdjust;simp only[h1,if_false];refine Prod.ext ?_ ?_
 ·cases lo with
  | none=>rfl
  | some v=>exact R8 v n 0
 ·cases hi with
  | none=>rfl
  | some v=>exact R8 v n n
theorem Vu(i j:Nat):Builtin.Slice.slicePlaces (i:Int) (j:Int) 1=j-i:=by
 unfold Builtin.Slice.slicePlaces;have h1:(1:Int) > 0:=by omega
 simp only[h1,if_true,Int.ediv_one];split <;> omega
theorem Pw{v:Value}{o:Option Int}{Q:Option Int->Shared->Prop}(p:IsPart v o)(h:Q o s):wpAny (model prog w) A (Builtin.Slice.slicePartIndex v) Q E s:=by
 cases p with
 | none=>exact slicePart_none h
 | int i t=>exact slicePart_int h
theorem VM {sl:Addr} {vl vu:Value} {lo hi:Option Int} {n:Nat} {Q:Int×Int×Nat->Shared->Prop} (hs:s.heap.IsSliceOf sl vl vu .none) (pl:IsPart vl lo) (pu:IsPart vu hi)
  (h:Q (((Av n 0 lo:Nat):Int),1,Av n n hi-Av n 0 lo) s):wpAny (model prog w) A (Builtin.Slice.sliceApplied (.ref sl) (pure (n:Int))) Q E s:=by
 obtain⟨os,hos,hcs,hds⟩:=id hs;unfold Builtin.Slice.sliceApplied Builtin.Slice.sliceFields;refine eV (eV (iR hos hds (x:=vl) rfl (eV (iR hos hds (x:=vu) rfl (eV (iR hos hds (x:=.none) rfl (fS ?_)))))));refine eV (slicePart_none ?_);show wpAny _ _ (if ((1:Int) == 0)=true then _ else _) _ _ s;rw[eZ (by decide)];refine eV (Pw pl (eV (Pw pu (eV (fS ?_)))));show wpAny _ _ (match Builtin.Slice.sliceAdjust lo hi 1 (n:Int) with | (lo,hi)=>pure (lo,(1:Int),Builtin.Slice.slicePlaces lo hi 1)) _ _ s;rw[Vp lo hi n];show wpAny _ _ (pure (((Av n 0 lo:Nat):Int),(1:Int),Builtin.Slice.slicePlaces ((Av n 0 lo:Nat):Int) ((Av n n hi:Nat):Int) 1)) _ _ s;rw[Vu];exact fS h
theorem YC(xs:Array Value)(i k:Nat):((List.range k).filterMap λ(m:Nat)=>xs[((i:Int)+(m:Int)*1).toNat]?).toArray=((xs.toList.drop i).take k).toArray:=by
 have e:(λ(m:Nat)=>xs[((i:Int)+(m:Int)*1).toNat]?)=λm=>xs[i+m]?:=by
  funext m
  have:((i:Int)+(m:Int)*1).toNat=i+m:=by omega
  rw[this]
 rw[e]
 have:=pick_run xs i k
 rw[List.filterMap_map] at this;have e2:((λx=>xs[x]?) ∘ λx=>i+x)=λm=>xs[i+m]?:=rfl
 rw[e2] at this;rw[this]
theorem VL {t sl:Addr} {items:Array Value} {vl vu:Value} {lo hi:Option Int} {Q:Value->Shared->Prop} (ht:IsTup s.heap t items) (hs:s.heap.IsSliceOf sl vl vu .none) (pl:IsPart vl lo) (pu:IsPart vu hi)
  (hw:¬(Av items.size 0 lo=0/\Av items.size items.size hi=items.size))
  (h:Q (.ref s.heap.objs.size) { s with heap:=s.heap.push { cls:=.type "tuple",data:=.seq ((items.toList.drop (Av items.size 0 lo)).take (Av items.size items.size hi-Av items.size 0 lo)).toArray } })
  (hsz:items.size<=sizeLine):wpAny (model prog w) A (getItem (.ref t) (.ref sl)) Q E s:=by
 have htake:sizeOk (.seq ((items.toList.drop (Av items.size 0 lo)).take (Av items.size items.size hi-Av items.size 0 lo)).toArray):=by
  show((items.toList.drop (Av items.size 0 lo)).take (Av items.size items.size hi-Av items.size 0 lo)).toArray.size<=sizeLine;rw[fG,g9,gN,ij];omega
 have hj:Av items.size items.size hi<=items.size:=Zs _ _ (eU _) hi;obtain⟨os,hos,hcs,hds⟩:=id hs;have hTs:s.TypeIs (.ref sl) "slice":=⟨os,hos,hcs⟩;unfold getItem
 try with_reducible refine wpAny_holding ?_
 first | refine eV (fS ?_) | skip
 refine eV (wpAny_sequenceKey ht.typeIs (by decide) ?_);refine eV (wpAny_callSpecial?_slot (name:=Str.ofString "__getitem__") ht.typeIs PyProof.Rows.slot_tuple_getitem
  (wpAny_call_entry PyProof.Rows.slot_tuple_getitem ht.typeIs entry_tuple_getitem ?_ (args_tuple_getitem _ _)))
 show wpAny _ _ (Builtin.Tuple.tupleItemsOf (.ref t) >>= _) _ _ s;refine eV (tupleItemsOf_ ht ?_);refine eV (wpAny_typeOf hTs ?_);rw[ff (by decide)];refine eV (VM hs pl pu ?_);have hno:¬((((Av items.size 0 lo:Nat):Int) == 0 && (1:Int) == 1 && (Av items.size items.size hi-Av items.size 0 lo) == items.size)=true):=by
  intro q;rw[jc,jc] at q;have q1:((Av items.size 0 lo:Nat):Int)=0:=eq_of_beq q.1.1;have q2:Av items.size items.size hi-Av items.size 0 lo=items.size:=eq_of_beq q.2;exact hw ⟨by omega,by omega⟩
 show wpAny _ _ (if (((Av items.size 0 lo:Nat):Int) == 0 && (1:Int) == 1 && (Av items.size items.size hi-Av items.size 0 lo) == items.size)=true then _ else _) _ _ s;rw[eZ hno,YC]
 first
  | exact eV (m:=Builtin.Tuple.tupleExact _) (wpAny_newObj_type (fS ⟨_,rfl,fS h⟩) htake)
  | exact eV (m:=Builtin.Tuple.tupleExact _) (wpAny_newObj_type (eV (fS (fS ⟨_,rfl,fS h⟩))) htake)
  | exact eV (eV (m:=Builtin.Tuple.tupleExact _) (wpAny_newObj_type (fS (fS ⟨_,rfl,fS h⟩)) htake))
  | exact eV (eV (m:=Builtin.Tuple.tupleExact _) (wpAny_newObj_type (fS ⟨_,rfl,fS h⟩) htake))
end
end HT
namespace L2
open PySem PySem.Spec PyProof.Rows
abbrev TO:=St->Hp->(Option Int->Hp->Prop)->Prop
def PO(X:Cx)(e:Option Expr)(t:TO):Prop :=
 ∀(pins:List (Addr×Obj)) (s:Shared) (σ:St) (H:Hp) (Q:Option Int->Hp->Prop),AI X pins σ H s->t σ H Q →
  wpAny (model X.prog X.w) X.A (evalPart e X.env) (λu s'=>∃o H',AI X pins σ H' s'/\IsPart u o/\Q o H') X.xe s
def RU:TO:=λ_ H Q=>Q none H
def Tw(t:TE):TO:=λσ H Q=>t σ H λx H1=>∃i,x=.int i/\Q (some i) H1
theorem Vv{ns:List Int}:∀{us:List Value},Ag (ns.map V.int) us->IntsAre us ns:=by
 induction ns with
 | nil=>intro us r; rw[gY] at r; cases r; exact .nil
 | cons n ns ih =>
  intro us r;rw[fk] at r;cases r with
  | cons r1 r2 =>
   obtain⟨t,e⟩:=r1;subst e;exact .cons n t (ih r2)
section
variable {X:Cx} {e:Expr} {te:TE} {lo hi:Option Expr} {tl th:TO} {pos p2:Pos}
theorem FC:PO X none RU:=by
 intro pins s σ H Q I h;rw[evalPart_none];exact fS ⟨none,H,I,.none,h⟩
theorem Dv(h:PE X e te):PO X (some e) (Tw te):=by
 intro pins s σ H Q I hw;rw[evalPart_some];refine Ai (h pins s σ H _ I hw) λu s1 ⟨x,H1,I1,r1,q1⟩=>?_
 obtain⟨i,rfl,q⟩:=q1;obtain⟨t,rfl⟩:=r1;exact⟨some i,H1,I1,.int i t,q⟩
def Kj(X:Cx)(r:V->Option Int->Option Int->Hp->VK->Prop):Prop :=
 ∀(pins:List (Addr×Obj)) (s:Shared) (σ:St) (H:Hp) (x:V) (v vl vu:Value) (lo hi:Option Int) (sl:Addr) (Q:VK),AI X pins σ H s->Au x v->s.heap.IsSliceOf sl vl vu .none->IsPart vl lo->IsPart vu hi->r x lo hi H Q →
  ∃T id,typeLookup (.type T) "__getitem__" = pure (some (.builtin id))/\s.TypeIs v T/\wpAny (model X.prog X.w) X.A (getItem v (.ref sl)) (EP X pins σ Q) X.xe s
def VF(r:V->Option Int->Option Int->Hp->VK->Prop)(te:TE)(tl th:TO):TE:=λσ H Q=>te σ H λx H1=>tl σ H1 λl H2=>th σ H2 λu H3=>r x l u H3 Q
theorem EW{r:V->Option Int->Option Int->Hp->VK->Prop}(hr:Kj X r)(he:PE X e te)(hl:PO X lo tl)(hu:PO X hi th):PE X (.Subscript e (.Slice lo hi none p2) pos) (VF r te tl th):=by
 intro pins s σ H Q I h;refine Subscript_ (Ai (he pins s σ H _ I h) λv s1 ⟨x,H1,I1,r1,q1⟩=>?_);refine wpAny_Slice (Ai (hl pins s1 σ H1 _ I1 q1) λvl s2 ⟨l,H2,I2,pl,q2⟩=>Ai (hu pins s2 σ H2 _ I2 q2) λvu s3 ⟨u,H3,I3,pu,q3⟩=>?_);rw[evalPart_none];refine fS ?_;have I4:AI X pins σ H3 { s3 with heap:=s3.heap.push { cls:=.type "slice",data:=.fields #[vl,vu,.none] } }:=I3.Bn (t':=s3.toks) λb ob q=>eY _ q
 obtain⟨T,id,hT,ht,hg⟩:=hr pins { s3 with heap:=s3.heap.push { cls:=.type "slice",data:=.fields #[vl,vu,.none] } } σ H3 x v vl vu l u s3.heap.objs.size Q I4 r1 (Heap.IsSliceOf.new ..) pl pu q3;show wpAny (model X.prog X.w) X.A (subscriptTail e (.Slice lo hi none p2) v (.ref s3.heap.objs.size)) (EP X pins σ Q) X.xe { s3 with heap:=s3.heap.push { cls:=.type "slice",data:=.fields #[vl,vu,.none] } };exact tail_any (ops:=[.ref s3.heap.objs.size,v]) ht hT hg (by with_unfolding_all rfl)
def Cw(xs:List V)(lo hi:Option Int):List V:=(xs.drop (HT.Av xs.length 0 lo)).take (HT.Av xs.length xs.length hi-HT.Av xs.length 0 lo)
theorem Ph(xs:List V)(lo hi:Option Int):(Cw xs lo hi).length<=xs.length:=by
 unfold Cw;rw[g9,gN];omega
def Ol(K:PySem.W.Frag):V->Option Int->Option Int->Hp->VK->Prop:=λx lo hi H Q=>∃a xs,x=.ref a/\AJ K H a xs /\
 ¬(HT.Av xs.length 0 lo=0/\HT.Av xs.length xs.length hi=xs.length)/\∀p,H p=none->Q (.ref p) (AF H p (.AG (Cw xs lo hi)))
theorem LR:Kj X (Ol X.K):=by
 intro pins s σ H x v vl vu lo hi sl Q I rx hs pl pu h;obtain⟨a,xs,rfl,hx,hw,q⟩:=h;cases rx;obtain⟨its,r,ht,hz⟩:=I.tuple hx;have hlen:its.toArray.size=xs.length:=by rw[fG]; exact r.length.symm
 refine⟨"tuple",_,PyProof.Rows.slot_tuple_getitem.lookup,ht.typeIs,?_⟩;refine HT.VL ht hs pl pu (by rw[hlen]; exact hw) ?_ (by rw[hlen]; exact hz);rw[hlen];refine⟨.ref s.heap.objs.size,_,I.C6 (t':=s.toks) (o:=.AG (Cw xs lo hi)) (λb ob q=>eY _ q) (eU _) ?_,rfl,q _ (I.hok.BW (eU _))⟩;exact⟨fY (Ph xs lo hi) hz,_,(r.drop (HT.Av xs.length 0 lo)).take (HT.Av xs.length xs.length hi-HT.Av xs.length 0 lo),IsTup.new _ _,_,fO _ rfl,rfl⟩
def T4(K:PySem.W.Frag):R2:=λx y H Q=>∃a b xs ys,x=.ref a/\y=.ref b/\AJ K H a xs/\AJ K H b ys/\xs≠[]/\xs.length+ys.length<=sizeLine /\
 (ys=[]->Q (.ref a) H)/\(ys≠[]->∀p,H p=none->Q (.ref p) (AF H p (.AG (xs++ys))))
theorem Ag.Mv{xs:List V}{us:List Value}(r:Ag xs us):us=[]↔xs=[]:=by
 cases r with
 | nil=>simp
 | cons _ _=>simp
theorem Rn:B8 X (binaryOp .Add) (T4 X.K):=by
 intro pins s σ H x y v u Q I rx ry h;obtain⟨a,b,xs,ys,rfl,rfl,ha,hb,hx,hz,q1,q2⟩:=h;cases rx;cases ry;obtain⟨its,r1,p1,_⟩:=I.tuple ha;obtain⟨its2,r2,p2,_⟩:=I.tuple hb;refine HT.Y7 p1 p2 (λz=>hx (r1.Mv.mp z)) (λz=>⟨.ref a,H,I,rfl,q1 (r2.Mv.mp z)⟩) (λz=>?_) (by rw[<-r1.length,<-r2.length]; exact hz);refine⟨.ref s.heap.objs.size,_,I.C6 (t':=s.toks) (o:=.AG (xs++ys)) (λb ob q=>eY _ q) (eU _) ?_,rfl,q2 (λw=>z (r2.Mv.mpr w)) _ (I.hok.BW (eU _))⟩;exact⟨by rw[fj]; exact hz,_,r1.append r2,IsTup.new _ _,_,fO _ rfl,rfl⟩
def Dp(n:Nat)(i:Int):Option Nat:=if 0<=i then (if i<n then some i.toNat else none) else if -(n:Int)<=i then some (i+n).toNat else none
def B7{α:Type}(xs:List α)(i:Int):Option α:=(Dp xs.length i).bind λj=>xs[j]?
theorem RO{n:Nat}{i:Int}{j:Nat}(h:Dp n i=some j):seqIndex? i n=some j/\j<n/\-(n:Int)<=i/\i<n:=by
 unfold Dp at h;by_cases h0:0<=i
 ·rw[ff h0] at h;by_cases h1:i<n
  ·rw[ff h1] at h;have e:i.toNat=j:=fC h;exact⟨by rw[seqIndex_of h0 h1,e],by omega,by omega,h1⟩
  ·rw[eZ h1] at h; cases h
 ·rw[eZ h0] at h;by_cases h1:-(n:Int)<=i
  ·rw[ff h1] at h;have e:(i+n).toNat=j:=fC h;exact⟨by rw[seqIndex_neg (by omega) h1,e],by omega,h1,by omega⟩
  ·rw[eZ h1] at h; cases h
theorem Rb{α:Type}{xs:List α}{i:Int}{v:α}(h:B7 xs i=some v):∃j,seqIndex? i xs.length=some j/\xs[j]?=some v/\j<xs.length/\-(xs.length:Int)<=i/\i<xs.length:=by
 unfold B7 at h;cases e:Dp xs.length i with
 | none=>rw[e] at h; cases h
 | some j =>
  rw[e] at h;obtain⟨h1,h2,h3,h4⟩:=RO e;exact⟨j,h1,h,h2,h3,h4⟩
theorem BF{α:Type}{xs:List α}{j:Nat}{v:α}(h:xs[j]?=some v):B7 xs (j:Int)=some v:=by
 have hj:j<xs.length:=(eu.mp h).1;have e:Dp xs.length (j:Int)=some j:=by
  unfold Dp;rw[ff (by omega),ff (by omega)]; simp
 unfold B7; rw[e]; exact h
def NV(b:Expr):Prop:=∀o i,subscripted b false o i=operate [o,i] (getItem o i)
def Ki(X:Cx)(r:R2):Prop :=
 ∀(value slice:Expr) (pins:List (Addr×Obj)) (s:Shared) (σ:St) (H:Hp) (x y:V) (v u:Value) (Q:VK),AI X pins σ H s->Au x v->Au y u->r x y H Q →
  subscripted slice false v u=operate [v,u] (getItem v u)->wpAny (model X.prog X.w) X.A (subscriptTail value slice v u) (EP X pins σ Q) X.xe s
def U7(X:Cx)(id:String)(r:V->List V->Hp->VK->Prop):Prop :=
 ∀(pins:List (Addr×Obj)) (s:Shared) (σ:St) (H:Hp) (x:V) (xs:List V) (v:Value) (us:List Value) (Q:VK),AI X pins σ H s->Au x v->Ag xs us->r x xs H Q →
  wpAny (model X.prog X.w) X.A (call (.builtin id) (v :: us)) (EP X pins σ Q) X.xe s
variable {a b:Expr} {ta tb:TE}
theorem A2{r:R2}(hr:Ki X r)(ha:PE X a ta)(hb:PE X b tb)(hs:NV b):PE X (.Subscript a b pos) (By r ta tb):=by
 intro pins s σ H Q I h;exact Subscript_ (Ov ha hb I h λv u s2 x y H2 I2 rx ry q=>hr a b pins s2 σ H2 x y v u Q I2 rx ry q (hs _ _))
inductive Ub(K:PySem.W.Frag)(x y:V)(H:Hp)(Q:VK):Prop
 | mk (p:Addr) (xs:List V) (i:Int) (v:V) (a:x=.ref p) (b:y=.int i) (c:AM K H p xs) (d:B7 xs i=some v) (q:Q v H):Ub K x y H Q
inductive Ut(K:PySem.W.Frag)(x y:V)(H:Hp)(Q:VK):Prop
 | mk (p:Addr) (xs:List V) (i:Int) (v:V) (a:x=.ref p) (b:y=.int i) (c:AJ K H p xs) (d:B7 xs i=some v) (q:Q v H):Ut K x y H Q
def Gw(K:PySem.W.Frag):R2:=λx y H Q=>Ub K x y H Q
def GH(K:PySem.W.Frag):R2:=λx y H Q=>Ut K x y H Q
theorem B5:Ki X (Gw X.K):=by
 intro value slice pins s σ H x y v u Q I rx ry h hs;obtain⟨p,xs,i,z,rfl,rfl,hq,he,q⟩:=h;cases rx;obtain⟨t,rfl⟩:=ry;obtain⟨its,r,pl,hz⟩:=I.list hq;obtain⟨j,h1,h2,h3,h4,h5⟩:=Rb he;obtain⟨w,ew,rw'⟩:=r.get h2;have hl:=r.length;have hn:=Lc;have fin:EP X pins σ Q w s:=⟨z,H,I,rw',q⟩;by_cases h0:0<=i
 ·have hj:i.toNat=j:=by
   rw[seqIndex_of h0 h5] at h1;exact fC h1
  exact item_listR pl.isList h0 (by omega) (by rw[hj]; simpa using ew) fin hs
 ·have hj:(i+(its.toArray.size:Int)).toNat=j:=by
   rw[seqIndex_neg (by omega) h4] at h1;rw[fG,<-hl];exact fC h1
  exact subscriptTail_builtinR (x:=w) pl.isList.typeIs slot_list_getitem.lookup
   (wpAny_getItem_list_neg (Q:=λr s'=>r=w/\EP X pins σ Q r s') pl.isList (by omega) (by rw[fG] <;> omega) (by omega) (by rw[hj]; simpa using ew) ⟨rfl,fin⟩) hs
theorem Bj:Ki X (GH X.K):=by
 intro value slice pins s σ H x y v u Q I rx ry h hs;obtain⟨p,xs,i,z,rfl,rfl,hq,he,q⟩:=h;cases rx;obtain⟨t,rfl⟩:=ry;obtain⟨its,r,pl,hz⟩:=I.tuple hq;obtain⟨j,h1,h2,h3,h4,h5⟩:=Rb he;obtain⟨w,ew,rw'⟩:=r.get h2;have hl:=r.length;have hn:=Lc;have fin:EP X pins σ Q w s:=⟨z,H,I,rw',q⟩;exact subscriptTail_builtinR (x:=w) pl.typeIs slot_tuple_getitem.lookup
  (getItem_tuple (j:=j) (Q:=λr s'=>r=w/\EP X pins σ Q r s') pl (by omega) (by omega) (by rw[fG,<-hl]; exact h1) (by simpa using ew) ⟨rfl,fin⟩) hs
theorem V0(its:List Value)(n j:Nat)(u:Value):Obj.mapSeq (·.setIfInBounds j u) { cls:=.type "list",data:=.seq its.toArray n }={ cls:=.type "list",data:=.seq (its.set j u).toArray n }:=by
 simp[Obj.mapSeq]
theorem AI.AB{pins:List (Addr×Obj)}{σ:St}{H:Hp}{s:Shared}{p:Addr}{xs:List V}(I:AI X pins σ H s)(h:H p=some (.AB xs)):
  ∃(its:List Value) (n:Nat),Ag xs its/\s.heap.get? p=some { cls:=.type "list",data:=.seq its.toArray n }/\xs.length<=sizeLine:=by
 obtain⟨z,its,n,r,e⟩:=I.hok p _ h;exact⟨its,n,r,e,z⟩
theorem AI.Zy {pins:List (Addr×Obj)} {σ:St} {H:Hp} {s:Shared} {p:Addr} {xs ys:List V} {its its':List Value} {n n':Nat} {f:Obj->Obj} (I:AI X pins σ H s) (h:H p=some (.AB xs))
  (ho:s.heap.get? p=some { cls:=.type "list",data:=.seq its.toArray n }) (hf:f { cls:=.type "list",data:=.seq its.toArray n }={ cls:=.type "list",data:=.seq its'.toArray n' }) (r:Ag ys its') (hz:ys.length<=sizeLine) (t:Nat) :
  AI X pins σ (AF H p (.AB ys)) { s with heap:=s.heap.update p f,toks:=t }:=by
 have e:(s.heap.update p f).get? p=some { cls:=.type "list",data:=.seq its'.toArray n' }:=by
  rw[Heap.get?_update_self f ho (by rw[hf] <;> rfl),hf]
 refine I.Hh (x:=p) (e:=p) (by rw[h]; trivial) (.inl rfl) (λb u hb q=>(Heap.get?_update_other _ _ (iB hb)).trans q) ⟨_,e⟩ ?_;exact⟨hz,its',n',r,e⟩
inductive Tn(o i v:V)(H:Hp)(Q:Hp->Prop):Prop
 | mk (p:Addr) (xs:List V) (k:Int) (j:Nat) (e1:o=.ref p) (e2:i=.int k) (h:H p=some (.AB xs)) (x:Dp xs.length k=some j) (q:Q (AF H p (.AB (xs.set j v)))):Tn o i v H Q
def UD:V->V->V->Hp->(Hp->Prop)->Prop:=λo i v H Q=>Tn o i v H Q
theorem D9:Ud X UD:=by
 intro pins s σ H o i v ov iv u Q I ro ri rv h;obtain⟨p,xs,k,j,rfl,rfl,hp,hj,q⟩:=h;cases ro;obtain⟨t,rfl⟩:=ri;obtain⟨its,n,r,ho,hz⟩:=I.AB hp;obtain⟨h1,h2,h3,h4⟩:=RO hj;have hl:=r.length;have hn:=Lc;have I':AI X pins σ (AF H p (.AB (xs.set j v))) { s with heap:=s.heap.update p (Obj.mapSeq (·.setIfInBounds j u)) } :=
  I.Zy hp ho (V0 its n j u) (r.set rv j) (by rw[iA]; exact hz) s.toks
 by_cases h0:0<=k
 ·have hk:k.toNat=j:=by
   rw[seqIndex_of h0 h4] at h1;exact fC h1
  exact PySem.W.ki_setAt ho h0 (by omega) (by rw[fG,<-hl]; exact h4) (by rw[hk]; exact⟨_,I',q⟩)
 ·have hk:(k+(its.toArray.size:Int)).toNat=j:=by
   rw[seqIndex_neg (by omega) h3] at h1;rw[fG,<-hl];exact fC h1
  exact PySem.W.ki_setBack ho (by omega) (by rw[fG,<-hl]; exact h3) (by omega) (by rw[hk]; exact⟨_,I',q⟩)
theorem VR(lo hi:Option Int)(n:Nat):(sliceBounds lo hi none n).1=((HT.Av n 0 lo:Nat):Int)/\(sliceBounds lo hi none n).2.1=((HT.Av n n hi:Nat):Int)/\(sliceBounds lo hi none n).2.2=1:=by
 refine⟨?_,?_,rfl⟩
 ·cases lo with
  | none=>simp[sliceBounds,HT.Av]
  | some i =>
   simp only[sliceBounds,HT.Av,Option.getD_none,show(1:Int) > 0 by decide,if_true];by_cases h:i<0
   ·simp only[h,if_true] <;> omega
   ·simp only[h,if_false] <;> omega
 ·cases hi with
  | none=>simp[sliceBounds,HT.Av]
  | some i =>
   simp only[sliceBounds,HT.Av,Option.getD_none,show(1:Int) > 0 by decide,if_true];by_cases h:i<0
   ·simp only[h,if_true] <;> omega
   ·simp only[h,if_false] <;> omega
theorem VP(its:List Value)(lo hi:Option Int):slicePick its.toArray lo hi none=((its.drop (HT.Av its.length 0 lo)).take (HT.Av its.length its.length hi-HT.Av its.length 0 lo)).toArray:=by
 obtain⟨h1,h2,h3⟩:=VR lo hi its.toArray.size;unfold slicePick;rw[h1,h2,h3];simp only[sliceRange_one,pick_run,fG] <;> rfl
inductive US(K:PySem.W.Frag)(x:V)(lo hi:Option Int)(H:Hp)(Q:VK):Prop
 | mk (a:Addr) (xs:List V) (e:x=.ref a) (s:AM K H a xs) (q:∀p,H p=none->Q (.ref p) (AF H p (.AB (Cw xs lo hi)))):US K x lo hi H Q
def Up(K:PySem.W.Frag):V->Option Int->Option Int->Hp->VK->Prop:=λx lo hi H Q=>US K x lo hi H Q
theorem K9:Kj X (Up X.K):=by
 intro pins s σ H x v vl vu lo hi sl Q I rx hs pl pu h;obtain⟨a,xs,rfl,hx,q⟩:=h;cases rx;obtain⟨its,r,ht,hz⟩:=I.list hx;have hlen:=r.length;refine⟨"list",_,slot_list_getitem.lookup,ht.isList.typeIs,?_⟩;refine wpAny_getItem_list_slice ht.isList hs pl pu .none (by simp) ?_ (by rw[fG] <;> omega);rw[VP,<-hlen];refine⟨.ref s.heap.objs.size,_,I.C6 (t':=s.toks) (o:=.AB (Cw xs lo hi)) (λb ob q=>eY _ q) (eU _) ?_,rfl,q _ (I.hok.BW (eU _))⟩;exact⟨fY (Ph xs lo hi) hz,_,0,(r.drop (HT.Av xs.length 0 lo)).take (HT.Av xs.length xs.length hi-HT.Av xs.length 0 lo),fO _ rfl⟩
def Fx:V->Bool
 | .BA=>true
 | .bl _=>true
 | .int _=>true
 | .str _=>true
 | _=>false
def GL:V->V->Bool
 | .BA,.BA=>true
 | .bl a,.bl b=>a == b
 | .bl a,.int b=>(if a then 1 else 0) == b
 | .int a,.bl b=>a == (if b then 1 else 0)
 | .int a,.int b=>a == b
 | .str a,.str b=>a == b
 | _,_=>false
theorem Z0{A:Around}{s:Shared}{y x:V}{u v:Value}(ry:Au y u)(rx:Au x v)(fy:Fx y=true)(fx:Fx x=true):SeqAt.EqAt A s u v (GL y x):=by
 cases y with
 | BA =>
  cases ry;cases x with
  | BA=>cases rx; exact SeqAt.EqAt.same _
  | bl b=>cases rx; exact SeqAt.EqAt.none_bool b
  | int b=>obtain⟨t,rfl⟩:=rx; exact SeqAt.EqAt.none_int b t
  | str b=>obtain⟨t,rfl⟩:=rx; exact SeqAt.EqAt.none_str b t
  | _=>exact absurd (show false=true from fx) fX
 | bl a =>
  cases ry;cases x with
  | BA=>cases rx; exact SeqAt.EqAt.bool_none a
  | bl b=>cases rx; exact SeqAt.EqAt.bool_bool a b
  | int b=>obtain⟨t,rfl⟩:=rx; exact SeqAt.EqAt.bool_int a b t
  | str b=>obtain⟨t,rfl⟩:=rx; exact SeqAt.EqAt.bool_str a b t
  | _=>exact absurd (show false=true from fx) fX
 | int a =>
  obtain⟨t',rfl⟩:=ry;cases x with
  | BA=>cases rx; exact SeqAt.EqAt.int_none a t'
  | bl b=>cases rx; exact SeqAt.EqAt.int_bool a t' b
  | int b=>obtain⟨t,rfl⟩:=rx; exact SeqAt.EqAt.int_int a t' b t
  | str b=>obtain⟨t,rfl⟩:=rx; exact SeqAt.EqAt.int_str a t' b t
  | _=>exact absurd (show false=true from fx) fX
 | str a =>
  obtain⟨t',rfl⟩:=ry;cases x with
  | BA=>cases rx; exact SeqAt.EqAt.str_none a t'
  | bl b=>cases rx; exact SeqAt.EqAt.str_bool a t' b
  | int b=>obtain⟨t,rfl⟩:=rx; exact SeqAt.EqAt.str_int a t' b t
  | str b=>obtain⟨t,rfl⟩:=rx; exact SeqAt.EqAt.str_str a t' b t
  | _=>exact absurd (show false=true from fx) fX
 | _=>exact absurd (show false=true from fy) fX
def GJ(x:V)(u:Value):Bool:=match u with
 | .none=>GL .BA x
 | .bool b=>GL (.bl b) x
 | .int i _=>GL (.int i) x
 | .str z _=>GL (.str z) x
 | _=>false
theorem S2{x y:V}{u:Value}(r:Au y u)(f:Fx y=true):GJ x u=GL y x:=by
 cases y with
 | BA=>cases r; rfl
 | bl b=>cases r; rfl
 | int i=>obtain⟨t,rfl⟩:=r; rfl
 | str z=>obtain⟨t,rfl⟩:=r; rfl
 | _=>exact absurd (show false=true from f) fX
theorem NH{x:V}:∀{xs:List V} {us:List Value},Ag xs us->xs.all Fx=true->us.any (GJ x)=xs.any λy=>GL y x
 | _,_,.nil,_=>rfl
 | y :: xs,u :: us,.cons r t,f=>by
  rw[List.all_cons,jc] at f;rw[List.any_cons,List.any_cons,S2 r f.1,NH t f.2]
theorem Mm{A:Around}{s:Shared}{x:V}{v:Value}(rx:Au x v)(fx:Fx x=true):∀{xs:List V} {us:List Value},Ag xs us->xs.all Fx=true->∀u∈us,SeqAt.EqAt A s u v (GJ x u)
 | _,_,.nil,_=>λu hu=>by cases hu
 | y :: xs,u :: us,.cons r t,f=>λu' hu=>by
  rw[List.all_cons,jc] at f;rcases fE.mp hu with rfl | hu
  ·rw[S2 r f.1]; exact Z0 r rx f.1 fx
  ·exact Mm rx fx t f.2 u' hu
def ME(x:V)(xs:List V):Bool:=xs.any λy=>GL y x
def dU(K:PySem.W.Frag)(neg:Bool):R2:=λx y H Q=>∃p xs,y=.ref p/\(AM K H p xs\/AJ K H p xs)/\Fx x=true/\xs.all Fx=true/\Q (.bl (if neg then !ME x xs else ME x xs)) H
theorem W2:B8 X (compareOp .In) (dU X.K false):=by
 intro pins s σ H x y v u Q I rx ry h;obtain⟨p,xs,rfl,hq,fx,fs,q⟩:=h;cases ry;rcases hq with hq | hq
 ·obtain⟨its,r,pl,hz⟩:=I.list hq;refine SeqAt.in_listAt (GJ x) pl.isList (λw hw=>Mm rx fx r fs w (by simpa using hw)) ⟨.bl _,H,I,rfl,?_⟩;rw[show its.toArray.any (GJ x)=its.any (GJ x) by simp,NH r fs];exact q
 ·obtain⟨its,r,pl,hz⟩:=I.tuple hq;refine SeqAt.in_tupleAt (GJ x) pl (λw hw=>Mm rx fx r fs w (by simpa using hw)) ⟨.bl _,H,I,rfl,?_⟩;rw[show its.toArray.any (GJ x)=its.any (GJ x) by simp,NH r fs];exact q
inductive Od(K:PySem.W.Frag)(xs:List V)(H:Hp)(Q:VK):Prop
 | mk (p:Addr) (ys:List V) (e:xs=[.ref p]) (s:AM K H p ys\/AJ K H p ys) (q:Q (.int ys.length) H):Od K xs H Q
theorem Jb:DM X (.builtin "len") (Od X.K):=by
 intro pins s σ H xs us Q I r h;obtain⟨p,ys,rfl,hq,q⟩:=h;obtain⟨u,rfl,rx⟩:=EE r;cases rx;have hn:=Lc;rcases hq with hq | hq
 ·obtain⟨its,r',pl,hz⟩:=I.list hq;have hlen:=r'.length;exact Calls.call_len_list pl.isList (by simp only[fG] <;> omega) ⟨.int ys.length,H,I.DU _,⟨s.toks+1,by rw[fG,hlen]⟩,q⟩
 ·obtain⟨its,r',pl,hz⟩:=I.tuple hq;have hlen:=r'.length;exact len_tuple pl (by simp only[fG] <;> omega) ⟨.int ys.length,H,I.DU _,⟨s.toks+1,by rw[fG,hlen]⟩,q⟩
theorem VQ:DM X (.type "list") (λxs H Q=>∃p ys,xs=[.ref p]/\(AM X.K H p ys\/AJ X.K H p ys)/\∀l,H l=none->Q (.ref l) (AF H l (.AB ys))):=by
 intro pins s σ H xs us Q I r h;obtain⟨p,ys,rfl,hq,q⟩:=h;obtain⟨u,rfl,rx⟩:=EE r;cases rx;have fin:∀(its:List Value),Ag ys its->ys.length<=sizeLine->∀(h':Heap) (c':Nat),(∀b o',s.heap.get? b=some o'->h'.get? b=some o') →
   h'.get? s.heap.objs.size=some { cls:=.type "list",dict:=none,data:=.seq its.toArray c',slots:=#[] }->EP X pins σ Q (.ref s.heap.objs.size) { s with heap:=h' }:=λits r' hz h' c' kp e =>
  ⟨.ref s.heap.objs.size,_,I.C6 (t':=s.toks) kp (eU _) (show BY X.prog X.w _ h' _ (.AB ys) from ⟨hz,its,c',r',e⟩),rfl,q _ (I.hok.BW (eU _))⟩
 rcases hq with hq | hq
 ·obtain⟨its,r',pl,hz⟩:=I.list hq;have hlen:=r'.length;obtain⟨o,ho,hc,n,hd⟩:=pl.isList;exact call_list_seq p (.inl rfl) ho hc hd (λh' c' kp e=>fin its r' hz h' c' kp e) (by simp only[fG] <;> omega)
 ·obtain⟨its,r',pl,hz⟩:=I.tuple hq;have hlen:=r'.length;obtain⟨o,ho,hc,n,hd⟩:=pl;exact call_list_seq p (.inr rfl) ho hc hd (λh' c' kp e=>fin its r' hz h' c' kp e) (by simp only[fG] <;> omega)
theorem E8:DM X (.type "tuple") (λxs H Q=>∃p ys,xs=[.ref p]/\((AM X.K H p ys/\∀l,H l=none->Q (.ref l) (AF H l (.AG ys)))\/(AJ X.K H p ys/\Q (.ref p) H))):=by
 intro pins s σ H xs us Q I r h;obtain⟨p,ys,rfl,h⟩:=h;obtain⟨u,rfl,rx⟩:=EE r;cases rx;rcases h with ⟨hq,q⟩ | ⟨hq,q⟩
 ·obtain⟨its,r',pl,hz⟩:=I.list hq;have hlen:=r'.length;refine call_tuple_list pl.isList (λh' kp=>?_) (by simp only[fG] <;> omega);have I1:AI X pins σ H { s with heap:=h' }:=I.Bn (t':=s.toks) kp;have I2:AI X pins σ (AF H h'.objs.size (.AG ys)) { s with heap:=h'.push { cls:=.type "tuple",data:=.seq its.toArray } } :=
   I1.C6 (t':=s.toks) (λb o e=>eY _ e) (eU _) (show BY X.prog X.w _ _ _ (.AG ys) from ⟨hz,its,r',IsTup.new _ _,_,fO _ rfl,rfl⟩)
  exact⟨.ref h'.objs.size,_,I2,rfl,q _ (I1.hok.BW (eU _))⟩
 ·obtain⟨its,r',pl,hz⟩:=I.tuple hq;exact call_tuple_same pl ⟨.ref p,H,I,rfl,q⟩
def Uz(K:PySem.W.Frag)(T:String)(x:V)(H:Hp):Prop:=match x with
 | .str _=>T="str"
 | .int _=>T="int"
 | .ref p=>(T="list"/\∃xs,AM K H p xs)\/(T="tuple"/\∃o,K.lookup p=some o/\o.cls=.type "tuple"/\o.dict=none) \/
   (T="dict"/\((∃kvs,H p=some (.dK kvs))\/∃kvs,H p=some (.dT kvs)))\/(T="set"/\∃S n,H p=some (.set S n))
 | _=>False
theorem aI{pins:List (Addr×Obj)}{σ:St}{H:Hp}{s:Shared}{T:String}{x:V}{v:Value}(I:AI X pins σ H s)(r:Au x v)(ty:Uz X.K T x H):
  s.TypeIs v T/\∀a,v=.ref a->∃ob,s.heap.get? a=some ob/\ob.dict=none:=by
 cases x with
 | str z =>
  obtain⟨t,rfl⟩:=r;cases (show T="str" from ty);exact⟨typeIs_str s z t,λ_ e=>nomatch e⟩
 | int i =>
  obtain⟨t,rfl⟩:=r;cases (show T="int" from ty);exact⟨typeIs_int s i t,λ_ e=>nomatch e⟩
 | ref p =>
  cases r;rcases ty with ⟨rfl,xs,hq⟩ | ⟨rfl,o,hk,hc,hd⟩ | ⟨rfl,hk⟩ | ⟨rfl,S,n,hk⟩
  ·obtain⟨its,_,pl,_⟩:=I.list hq;refine⟨pl.isList.typeIs,λa e=>?_⟩;cases e;obtain⟨o,n,e,c,hd,_⟩:=pl;exact⟨o,e,hd⟩
  ·refine⟨⟨o,I.DV p o hk,hc⟩,λa e=>?_⟩;cases e;exact⟨o,I.DV _ o hk,hd⟩
  ·have z:∃o,s.heap.get? p=some o/\o.ExactDict:=by
    rcases hk with ⟨kvs,hk⟩ | ⟨kvs,hk⟩
    ·obtain⟨_,_,_,_,o,_,_,e,ex,_⟩:=I.hok p _ hk;exact⟨o,e,ex⟩
    ·obtain⟨_,_,_,_,o,_,_,e,ex,_⟩:=I.hok p _ hk;exact⟨o,e,ex⟩
   obtain⟨o,e,ex⟩:=z;refine⟨⟨o,e,ex.1⟩,λa e2=>?_⟩;cases e2;exact⟨o,e,ex.2.1⟩
  ·obtain⟨o,_,_,_,e,ex,_⟩:=I.hok p _ hk;refine⟨⟨o,e,ex.1⟩,λa e2=>?_⟩;cases e2;exact⟨o,e,ex.2.1⟩
 | _=>exact False.elim ty
def VI(K:PySem.W.Frag)(T:String)(r:V->List V->Hp->VK->Prop)(to:TE)(t:TA):TE:=λσ H Q=>to σ H λx H1=>Uz K T x H1/\t σ H1 λxs H2=>r x xs H2 Q
variable {o:Expr} {es:List Expr} {to:TE} {t:TA} {name:Str} {apos cpos:Pos} {T id:String} {r:V->List V->Hp->VK->Prop}
theorem bV (pa:PlainAttrs T) (slot:Slot T name id) (hty:typeOf (.builtin id)=pure (.type "method_descriptor")) (hm:U7 X id r) (ho:PE X o to) (ha:PA X (e :: es) t)
  (hbase:attributeBase o name X.env (eval o X.env)=eval o X.env:=by rfl)
  (hfew:((backTo cpos (starEach (e :: es) X.env)).all (λx=>!x.1) && (backToKw cpos (keywordEach [] X.env)).all (λx=>x.1.isSome)
   && decide ((e :: es).length+([]:List Keyword).length+(if ([]:List Keyword).isEmpty then 0 else 1)<30))=true:=by rfl)
  (hline:(apos.endLine == cpos.line)=true:=by rfl) (hs:starEach (e :: es) X.env=(false,eval e X.env) :: starEach es X.env:=by rfl) (hplain:(backTo cpos (starEach es X.env)).any (·.1)=false:=by rfl) :
  PE X (.Call (.Attribute o name apos) (e :: es) [] cpos) (VI X.K T r to t):=by
 intro pins s σ H Q I h;refine wpAny_Call_method_late hbase hfew hline rfl (Ai (ho pins s σ H _ I h) λv s1 ⟨x,H1,I1,r1,ty,q1⟩=>?_);obtain⟨h1,h2⟩:=aI I1 r1 ty;refine⟨T,id,pa,slot,hty,h1,h2,?_⟩;have hA:=ha cpos pins s1 σ H1 _ I1 q1;rw[hs] at hA ⊢;refine Calls.callWith_builtin (by show(false || (backTo cpos (starEach es X.env)).any (·.1))=false; rw[hplain] <;> rfl) (Calls.evalArgs_plain ?_);exact Ai hA λus s2 ⟨vs,H2,I2,r2,q2⟩=>hm pins s2 σ H2 x vs v us Q I2 r1 r2 q2
end
def MJ(X:Cx)(id:String)(r:V->List V->Hp->VK->Prop):Prop :=
 ∀(pins:List (Addr×Obj)) (s:Shared) (σ:St) (H:Hp) (x:V) (xs:List V) (v:Value) (us:List Value) (Q:VK),AI X pins σ H s->Au x v->Ag xs us->r x xs H Q →
  wpAny (model X.prog X.w) X.A (call (.builtin id) (v :: us)) (EP X pins σ Q) X.xe s
theorem Ag.Af:∀{x:V} {us:List Value},Ag [x] us->∃u,us=[u]/\Au x u
 | _,_,.cons r .nil=>⟨_,rfl,r⟩
theorem Ag.two:∀{x y:V} {us:List Value},Ag [x,y] us->∃u v,us=[u,v]/\Au x u/\Au y v
 | _,_,_,.cons r (.cons q .nil)=>⟨_,_,rfl,r,q⟩
theorem Ag.zero:∀{us:List Value},Ag [] us->us=[]
 | _,.nil=>rfl
theorem Ag.reverse{xs:List V}{us:List Value}(h:Ag xs us):Ag xs.reverse us.reverse:=by
 induction h with
 | nil=>exact .nil
 | cons r t ih=>rw[List.reverse_cons,List.reverse_cons]; exact Ag.append ih (.cons r .nil)
theorem Ag.U9{xs:List V}{us:List Value}(h:Ag xs us):∀k:Nat,Ag (List.replicate k xs).flatten (List.replicate k us).flatten
 | 0=>.nil
 | k+1=>by
  rw[gC,gC,fZ,fZ];exact Ag.append h (Ag.U9 h k)
theorem QR(its:List Value):∀(k:Nat) (acc:List Value),
  List.foldl (λx1 x2=>x1++x2) acc.toArray (List.replicate k its.toArray)=(acc++(List.replicate k its).flatten).toArray
 | 0,acc=>by simp
 | k+1,acc=>by
  have e:acc.toArray++its.toArray=(acc++its).toArray:=by simp
  have e2:(acc++its)++(List.replicate k its).flatten=acc++(List.replicate (k+1) its).flatten:=by
   rw[gC,fZ,gW]
  rw[<-e2,<-QR its k (acc++its),<-e,gC,List.foldl_cons]
section
variable {X:Cx} {pins:List (Addr×Obj)} {σ:St} {H:Hp} {s:Shared} {l b:Addr} {xs ys zs:List V}
theorem AI.Oh {its its':List Value} {n:Nat} {f:Array Value->Array Value} {t':Nat} (I:AI X pins σ H s) (hH:H l=some (.AB xs))
  (e:s.heap.get? l=some { cls:=.type "list",data:=.seq its.toArray n }) (hf:f its.toArray=its'.toArray) (hv:Ag ys its') (hz:ys.length<=sizeLine) :
  AI X pins σ (AF H l (.AB ys)) { s with heap:=s.heap.update l (Obj.mapSeq f),toks:=t' }:=by
 have q:=PySem.IsL.update e f;rw[hf] at q;refine I.Hh (x:=l) (e:=l) (by rw[hH]; exact trivial) (.inl rfl) (λb' u hb hu=>(Heap.get?_update_other s.heap (Obj.mapSeq f) (iB hb)).trans hu) ⟨_,q⟩ ?_;exact⟨hz,its',_,hv,q⟩
theorem AI.UW{its:List Value}{t':Nat}(I:AI X pins σ H s)(hv:Ag ys its)(hz:ys.length<=sizeLine):
  AI X pins σ (AF H s.heap.objs.size (.AB ys)) { s with heap:=s.heap.push { cls:=.type "list",data:=.seq its.toArray },toks:=t' } :=
 I.C6 (λ_ _ q=>eY _ q) (eU _) ⟨hz,its,0,hv,fO _ rfl⟩
theorem AI.BW(I:AI X pins σ H s):H s.heap.objs.size=none:=I.hok.BW (eU _)
theorem AI.GI(I:AI X pins σ H s)(hH:H l=some (.AB xs)):xs.length<=sizeLine/\∃(its:List Value) (n:Nat),Ag xs its/\xs.length=its.length/\s.heap.get? l=some { cls:=.type "list",data:=.seq its.toArray n }:=by
 obtain⟨z,its,n,r,e⟩:=I.hok l _ hH;exact⟨z,its,n,r,r.length,e⟩
theorem Qo{n:Nat}(h:n<=sizeLine):Builtin.List.listTooLong n=false:=by
 unfold Builtin.List.listTooLong;exact iQ (by omega)
end
section
variable {X:Cx}
inductive Ug(x:V)(vs:List V)(H:Hp)(Q:VK):Prop
 | mk (l:Addr) (xs:List V) (y:V) (e1:x=.ref l) (e2:vs=[y]) (h:H l=some (.AB xs)) (n:xs.length<sizeLine) (q:Q .BA (AF H l (.AB (xs++[y])))):Ug x vs H Q
def YN:V->List V->Hp->VK->Prop:=λx vs H Q=>Ug x vs H Q
theorem Ds:MJ X "list.append" YN:=by
 intro pins s σ H x vs v us Q I rx rv h;obtain⟨l,xs,y,rfl,rfl,hH,hz,q⟩:=h;cases rx;obtain⟨u,rfl,ru⟩:=rv.Af;obtain⟨z,its,n,r,hl,e⟩:=I.GI hH;refine call_meets F.slot_list_append ⟨_,e,rfl⟩ F.entry_list_append (F.args_list_append_2 _ _) (PySem.list_append l its.toArray n u (by rw[fG]; omega)) ⟨e,?_⟩;refine⟨.BA,_,I.Oh (its':=its++[u]) hH e (by simp) (r.append (.cons ru .nil)) ?_,rfl,q⟩;rw[fj,iu];omega
def Yc:V->List V->Hp->VK->Prop:=λx vs H Q=>∃l b xs zs,x=.ref l/\vs=[.ref b]/\H l=some (.AB xs)/\H b=some (.AB zs)/\xs.length+zs.length<=sizeLine/\Q .BA (AF H l (.AB (xs++zs)))
theorem W0:MJ X "list.extend" Yc:=by
 intro pins s σ H x vs v us Q I rx rv h;obtain⟨l,b,xs,zs,rfl,rfl,hH,hB,hz,q⟩:=h;cases rx;obtain⟨u,rfl,ru⟩:=rv.Af;cases ru;obtain⟨z,its,n,r,hl,e⟩:=I.GI hH;obtain⟨z2,its2,n2,r2,hl2,e2⟩:=I.GI hB;have hsz:its.toArray.size+its2.toArray.size<=sizeLine:=by rw[fG,fG]; omega
 have hlong:¬(!its.toArray.isEmpty && Builtin.List.listTooLong (its.toArray.size+its2.toArray.size))=true:=by
  rw[Qo hsz,Bool.and_false];exact fX
 refine call_meets F.slot_list_extend ⟨_,e,rfl⟩ F.entry_list_extend (F.args_list_extend_2 _ _)
  (AutoSeq1.list_extend_list_list_0 l its.toArray n b its2.toArray n2 hlong (by rw[fG]; omega) (by omega)) ⟨e,e2,?_⟩
 refine⟨.BA,_,I.Oh (its':=its++its2) hH e (by simp) (r.append r2) ?_,rfl,q⟩;rw[fj];omega
inductive UT(x y:V)(H:Hp)(Q:VK):Prop
 | mk (l b:Addr) (xs zs:List V) (e1:x=.ref l) (e2:y=.ref b) (h1:H l=some (.AB xs)) (h2:H b=some (.AB zs)) (n:xs.length+zs.length<=sizeLine) (q:∀p,H p=none->Q (.ref p) (AF H p (.AB (xs++zs)))):UT x y H Q
def cK:R2:=λx y H Q=>UT x y H Q
theorem HZ:B8 X (binaryOp .Add) cK:=by
 intro pins s σ H x y v u Q I rx ry h;obtain⟨l,b,xs,zs,rfl,rfl,hH,hB,hz,q⟩:=h;cases rx;cases ry;obtain⟨z,its,n,r,hl,e⟩:=I.GI hH;obtain⟨z2,its2,n2,r2,hl2,e2⟩:=I.GI hB;refine PySem.P.add_list e e2 ?_ (by rw[fG,fG]; omega);have ea:its.toArray++its2.toArray=(its++its2).toArray:=by simp
 rw[ea];exact⟨.ref _,_,I.UW (t':=s.toks) (r.append r2) (by rw[fj]; omega),rfl,q _ I.BW⟩
def Ui:R2:=λx y H Q=>∃l k xs,x=.ref l/\y=.int k/\H l=some (.AB xs)/\-(2 ^ 63)<=k/\k<2 ^ 63/\xs.length*k.toNat<=sizeLine /\
 ∀p,H p=none->Q (.ref p) (AF H p (.AB (List.replicate k.toNat xs).flatten))
theorem SQ{α:Type}(xs:List α)(k:Nat):(List.replicate k xs).flatten.length=k*xs.length:=by
 induction k with
 | zero=>simp
 | succ k ih=>rw[gC,fZ,fj,ih,Nat.succ_mul,Nat.add_comm]
theorem La:B8 X (binaryOp .Mult) Ui:=by
 intro pins s σ H x y v u Q I rx ry h;obtain⟨l,k,xs,rfl,rfl,hH,h1,h2,hz,q⟩:=h;cases rx;obtain⟨t,rfl⟩:=ry;obtain⟨z,its,n,r,hl,e⟩:=I.GI hH;have hlen:its.toArray.size*k.toNat<=sizeLine:=by rw[fG,<-hl]; exact hz
 have hcap:¬its.toArray.size*k.toNat > (2 ^ 63-1) / 8:=by
  have:(sizeLine:Nat)<=(2 ^ 63-1) / 8:=by decide
  omega
 have hfit:¬(!Builtin.List.listFitsIndex k)=true:=by
  rw[fitsIndex_both h1 h2];exact fX
 have hlong:¬Builtin.List.listTooLong (its.toArray.size*k.toNat)=true:=by
  rw[Qo hlen];exact fX
 have hnew:List.foldl (λx1 x2=>x1++x2) #[] (List.replicate (if its.toArray.isEmpty=true then 0 else k.toNat) its.toArray)=(List.replicate k.toNat its).flatten.toArray:=by
  have f0:∀m:Nat,List.foldl (λx1 x2=>x1++x2) #[] (List.replicate m its.toArray)=(List.replicate m its).flatten.toArray:=λm=>by
   have:=QR its m []
   rw[List.nil_append] at this;exact this
  rw[f0];cases its with
  | nil=>simp
  | cons a r'=>rw[eZ (by simp)]
 refine wpAny_binaryOp_repeat_ref (T:="list") (U:="int") (by decide) ⟨_,e,rfl⟩ (λs'=>typeIs_int s' k t) noFill_list_mul F.fills_int_mul F.slot_int_rmul repeat_list F.slot_int_index.lookup
  (call_meets F.slot_int_rmul (typeIs_int s k t) F.entry_int_rmul (F.args_int_rmul_2 _ _) (int___rmul___int_list k t l its.toArray n)
   ⟨e,rfl,⟨_,e,rfl⟩,call_meets F.slot_list_mul ⟨_,e,rfl⟩ F.entry_list_mul (F.args_list_mul_2 _ _) (AutoListH.list___mul___list_int_3 l its.toArray n k t hfit hcap hlong) ⟨e,?_⟩⟩)
 rw[hnew];exact⟨.ref _,_,I.UW (t':=s.toks) (r.U9 k.toNat) (by rw[SQ,Nat.mul_comm]; exact hz),rfl,q _ I.BW⟩
end
section
variable {prog:Program} {w:World} {A:Around} {E:Value->Shared->Prop} {s:Shared}
end
section
variable {X:Cx}
end
section
variable {κ:Type} [DecidableEq κ]
def CU(kvs:List (κ×V))(k:κ):Option V:=(kvs.find? λkv=>decide (kv.1=k)).map (·.2)
def Bw(kvs:List (κ×V))(k:κ)(v:V):List (κ×V) :=
 if (kvs.any λkv=>decide (kv.1=k))=true then kvs.map (λkv=>if kv.1=k then (kv.1,v) else kv) else kvs++[(k,v)]
def T6(kvs:List (κ×V))(k:κ):List (κ×V):=kvs.filter λkv=>decide (kv.1≠k)
theorem IW{p:κ×V}{r:List (κ×V)}{k:κ}(e:p.1=k):CU (p :: r) k=some p.2:=by simp[CU,List.find?_cons,e]
theorem HL{p:κ×V}{r:List (κ×V)}{k:κ}(e:¬p.1=k):CU (p :: r) k=CU r k:=by simp[CU,List.find?_cons,e]
theorem Mh(k:κ):∀kvs:List (κ×V),(kvs.any λkv=>decide (kv.1=k))=(CU kvs k).isSome
 | []=>rfl
 | p :: r=>by
  rw[List.any_cons];by_cases e:p.1=k
  ·simp only[IW e,jf e,Bool.true_or,Option.isSome_some]
  ·rw[HL e,iQ e,Bool.false_or]; exact Mh k r
theorem MK(kvs:List (κ×V))(k:κ)(v:V):(Bw kvs k v).length<=kvs.length+1:=by
 unfold Bw;split
 ·rw[ed]; omega
 ·rw[fj,gq,i8]; omega
theorem EK.Jd{o:Option V}{u:Option Value}(r:EK o u):o.isSome=u.isSome:=by
 cases o with
 | none=>cases u with
  | none=>rfl
  | some _=>exact(show False from r).elim
 | some _=>cases u with
  | none=>exact(show False from r).elim
  | some _=>rfl
theorem EK.getD{o:Option V}{u:Option Value}{d:V}{d':Value}(r:EK o u)(rd:Au d d'):Au (o.getD d) (u.getD d'):=by
 cases o with
 | none=>cases u with
  | none=>exact rd
  | some _=>exact(show False from r).elim
 | some _=>cases u with
  | none=>exact(show False from r).elim
  | some _=>exact r
theorem KV.Gz{kvs:List (κ×V)}{vs:List (κ×Value)}(r:KV kvs vs)(k:κ):EK (CU kvs k) (valueAt vs k):=by
 unfold KV at r
 induction r with
 | nil=>exact True.intro
 | @cons p q ps qs h t ih =>
  obtain⟨h1,h2⟩:=h;by_cases e:p.1=k
  ·have e':q.1=k:=h1.symm.trans e;have b:valueAt (q :: qs) k=some q.2:=by simp[valueAt,List.find?_cons,e']
   rw[IW e,b]; exact h2
  ·have e':¬q.1=k:=λz=>e (h1.trans z)
   have b:valueAt (q :: qs) k=valueAt qs k:=by simp[valueAt,List.find?_cons,e']
   rw[HL e,b]; exact ih
theorem KV.any{kvs:List (κ×V)}{vs:List (κ×Value)}(r:KV kvs vs)(k:κ):(kvs.any λkv=>decide (kv.1=k))=vs.any λkv=>decide (kv.1=k):=by
 unfold KV at r
 induction r with
 | nil=>rfl
 | cons h t ih=>rw[List.any_cons,List.any_cons,ih,h.1]
theorem KV.Ou{kvs:List (κ×V)}{vs:List (κ×Value)}(r:KV kvs vs)(k:κ){y:V}{u:Value}(ry:Au y u):
  KV (kvs.map λkv=>if kv.1=k then (kv.1,y) else kv) (vs.map λkv=>if kv.1=k then (kv.1,u) else kv):=by
 unfold KV at r ⊢
 induction r with
 | nil=>exact .nil
 | @cons p q ps qs h t ih =>
  rw[fk,fk];refine .cons ?_ ih;obtain⟨h1,h2⟩:=h;by_cases e:p.1=k
  ·rw[ff e,ff (h1.symm.trans e)]; exact⟨h1,ry⟩
  ·rw[eZ e,eZ (λz=>e (h1.trans z))]; exact⟨h1,h2⟩
theorem KV.put{kvs:List (κ×V)}{vs:List (κ×Value)}(r:KV kvs vs)(k:κ){y:V}{u:Value}(ry:Au y u):KV (Bw kvs k y) (stored vs k u):=by
 unfold Bw stored;rw[r.any k];by_cases e:(vs.any λkv=>decide (kv.1=k))=true
 ·rw[ff e,ff e]; exact r.Ou k ry
 ·rw[eZ e,eZ e]; exact Paired.snoc r ⟨rfl,ry⟩
theorem KV.drop{kvs:List (κ×V)}{vs:List (κ×Value)}(r:KV kvs vs)(k:κ):KV (T6 kvs k) (without vs k):=by
 unfold KV at r ⊢;unfold T6 without
 induction r with
 | nil=>exact .nil
 | @cons p q ps qs h t ih =>
  obtain⟨h1,h2⟩:=h;rw[List.filter_cons,List.filter_cons];by_cases e:p.1=k
  ·have a:¬decide (p.1≠k)=true:=by simp[e]
   have b:¬decide (q.1≠k)=true:=by simp[h1.symm.trans e]
   rw[eZ a,eZ b]; exact ih
  ·have e':¬q.1=k:=λz=>e (h1.trans z)
   have a:decide (p.1≠k)=true:=by simp[e]
   have b:decide (q.1≠k)=true:=by simp[e']
   rw[ff a,ff b]; exact .cons ⟨h1,h2⟩ ih
theorem KV.length{kvs:List (κ×V)}{vs:List (κ×Value)}(r:KV kvs vs):kvs.length=vs.length:=Paired.length r
end
theorem JC{P:Program}{w:World}{k:AX}{u:Value}(r:Au (kV k) u):(DD P w).is k u=true:=by
 cases k with
 | inl i=>obtain⟨t,e⟩:=(show ∃t,u=Value.int i t from r); subst e; exact VZ P w i t
 | inr x=>obtain⟨t,e⟩:=(show ∃t,u=Value.str x t from r); subst e; exact Vh P w x t
theorem P9{P:Program}{w:World}:∀{ks:List AX} {us:List Value},Ag (ks.map kV) us->ItemsAre (DD P w) ks us
 | [],_,r=>by rw[gY] at r; cases r; exact .nil
 | k :: ks,_,r=>by
  rw[fk] at r;cases r with
  | cons h t=>exact .cons (JC h) (P9 t)
abbrev KT(H:Hp):List (List AX×V)->List (List AX×Addr×Value)->Prop:=Paired λp q=>p.1=q.1/\H q.2.1=some (.AG (p.1.map kV))/\Au p.2 q.2.2
theorem KT.Gz{H:Hp}{kvs:List (List AX×V)}{xs:List (List AX×Addr×Value)}(r:KT H kvs xs)(k:List AX):EK (CU kvs k) ((atKey xs k).map (·.2)):=by
 induction r with
 | nil=>exact True.intro
 | @cons p q ps qs h t ih =>
  obtain⟨h1,_,h2⟩:=h;by_cases e:p.1=k
  ·have e':q.1=k:=h1.symm.trans e;have b:atKey (q :: qs) k=some q.2:=by simp[atKey,List.find?_cons,e']
   rw[IW e,b]; exact h2
  ·have e':¬q.1=k:=λz=>e (h1.trans z)
   have b:atKey (q :: qs) k=atKey qs k:=by simp[atKey,List.find?_cons,e']
   rw[HL e,b]; exact ih
theorem KT.Ou{H:Hp}{kvs:List (List AX×V)}{xs:List (List AX×Addr×Value)}(r:KT H kvs xs)(k:List AX){y:V}{u:Value}(ry:Au y u):
  KT H (kvs.map λkv=>if kv.1=k then (kv.1,y) else kv) (xs.map (putAt k u)):=by
 induction r with
 | nil=>exact .nil
 | @cons p q ps qs h t ih =>
  rw[fk,fk];refine .cons ?_ ih;obtain⟨h1,h2,h3⟩:=h;unfold putAt;by_cases e:p.1=k
  ·rw[ff e,ff (h1.symm.trans e)]; exact⟨h1,h2,ry⟩
  ·rw[eZ e,eZ (λz=>e (h1.trans z))]; exact⟨h1,h2,h3⟩
theorem KT.put{H:Hp}{kvs:List (List AX×V)}{xs:List (List AX×Addr×Value)}(r:KT H kvs xs)(k:List AX){b:Addr}{y:V}{u:Value}(hb:H b=some (.AG (k.map kV)))(ry:Au y u):
  KT H (Bw kvs k y) (storedH xs k b u):=by
 have e:(kvs.any λkv=>decide (kv.1=k))=(atKey xs k).isSome:=by
  rw[Mh,(r.Gz k).Jd,Option.isSome_map]
 unfold Bw storedH;rw[e];by_cases q:(atKey xs k).isSome=true
 ·rw[ff q,ff q]; exact r.Ou k ry
 ·rw[eZ q,eZ q]; exact Paired.snoc r ⟨rfl,hb,ry⟩
theorem KT.keeps{H H':Hp}{kvs:List (List AX×V)}{xs:List (List AX×Addr×Value)}(r:KT H kvs xs)(ht:∀b ys,H b=some (.AG ys)->H' b=some (.AG ys)):KT H' kvs xs :=
 Paired.PB r λ_ _ z=>⟨z.1,ht _ _ z.2.1,z.2.2⟩
section
variable {P:Program} {w:World} {H:Hp} {h:Heap} {a:Addr}
theorem Tr{u:HO}(ok:Br P w H h)(e:Rd H a u):BY P w H h a u:=e.ok ok
theorem JJ{kvs:List (AX×V)}(ok:Br P w H h)(e:Rd H a (.dK kvs)):kvs.length<=sizeLine/\(a == sysModules)=false/\∃vs,KV kvs vs/\h.DictOf (DD P w) a vs :=
 show BY P w H h a (.dK kvs) from Tr ok e
theorem Oa{kvs:List (AX×V)}(ok:Br P w H h)(e:H a=some (.dK kvs)):kvs.length<=sizeLine/\(a == sysModules)=false/\∃vs,KV kvs vs/\h.DictOf (DD P w) a vs:=JJ ok (.inl e)
theorem J3{ks:List AX}(ok:Br P w H h)(e:H a=some (.AG (ks.map kV))):(tupleKind (DD P w)).is h ks a:=by
 obtain⟨_,its,r,⟨o,h1,h2,n,h3⟩,_⟩:=(show BY P w H h a (.AG (ks.map kV)) from ok a _ e);exact⟨o,its.toArray,n,h1,h2,h3,by simpa using P9 r⟩
theorem KH{kvs:List (List AX×V)}(ok:Br P w H h)(e:Rd H a (.dT kvs)):kvs.length<=sizeLine/\(a == sysModules)=false /\
  ∃xs,KT H kvs xs/\h.DictOfH (tupleKind (DD P w)) a xs:=by
 obtain⟨z,y,xs,r,o,es,ep,h1,h2,h3,h4,h5⟩:=(show BY P w H h a (.dT kvs) from Tr ok e);refine⟨z,y,xs,r,o,es,ep,h1,h2,h3,h4,λx hx=>?_,h5⟩;have all:∀{l:List (List AX×V)} {m:List (List AX×Addr×Value)},KT H l m->∀x∈m,(tupleKind (DD P w)).is h x.1 x.2.1:=by
  intro l m q
  induction q with
  | nil=>intro x hx; exact nomatch hx
  | @cons p q ps qs hq t ih =>
   intro x hx;rcases fE.mp hx with e | hx
   ·subst e;exact J3 ok (by rw[<-hq.1]; exact hq.2.1)
   ·exact ih x hx
 exact all r x hx
theorem bj{kvs:List (List AX×V)}(ok:Br P w H h)(e:H a=some (.dT kvs)):kvs.length<=sizeLine/\(a == sysModules)=false /\
  ∃xs,KT H kvs xs/\h.DictOfH (tupleKind (DD P w)) a xs:=KH ok (.inl e)
end
def CT(H:Hp)(a:Addr)(y:V)(r:Option V):Prop :=
 (∃kvs k,Rd H a (.dK kvs)/\y=kV k/\r=CU kvs k)\/∃kvs k b,Rd H a (.dT kvs)/\y=.ref b/\H b=some (.AG (k.map kV))/\r=CU kvs k
def DR(H:Hp)(a:Addr)(y v:V)(H':Hp):Prop :=
 (∃kvs k,H a=some (.dK kvs)/\y=kV k/\kvs.length<sizeLine/\H'=AF H a (.dK (Bw kvs k v))) \/
 ∃kvs k b,H a=some (.dT kvs)/\y=.ref b/\H b=some (.AG (k.map kV))/\kvs.length<sizeLine/\H'=AF H a (.dT (Bw kvs k v))
theorem CT.k{H:Hp}{a:Addr}{kvs:List (AX×V)}{k:AX}(e:H a=some (.dK kvs)):CT H a (kV k) (CU kvs k):=.inl ⟨kvs,k,.inl e,rfl,rfl⟩
theorem CT.t{H:Hp}{a b:Addr}{kvs:List (List AX×V)}{k:List AX}(e:H a=some (.dT kvs))(eb:H b=some (.AG (k.map kV))):CT H a (.ref b) (CU kvs k):=.inr ⟨kvs,k,b,.inl e,rfl,eb,rfl⟩
theorem DR.k{H:Hp}{a:Addr}{kvs:List (AX×V)}{k:AX}{v:V}(e:H a=some (.dK kvs))(hl:kvs.length<sizeLine):DR H a (kV k) v (AF H a (.dK (Bw kvs k v))):=.inl ⟨kvs,k,e,rfl,hl,rfl⟩
theorem DR.t{H:Hp}{a b:Addr}{kvs:List (List AX×V)}{k:List AX}{v:V}(e:H a=some (.dT kvs))(eb:H b=some (.AG (k.map kV)))(hl:kvs.length<sizeLine):
  DR H a (.ref b) v (AF H a (.dT (Bw kvs k v))):=.inr ⟨kvs,k,b,e,rfl,eb,hl,rfl⟩
section
variable {X:Cx} {pins:List (Addr×Obj)} {σ:St} {H:Hp} {s:Shared} {a:Addr} {y v:V} {u r:Value} {o:Option V} {A:Around} {E:Value->Shared->Prop}
theorem AI.Fb(I:AI X pins σ H s):sysModules<s.heap.objs.size:=by
 have h:mainGlobals<s.heap.objs.size:=(I.DI.GB.keeps I.bk).lt;exact Nat.lt_trans (by decide) h
theorem Wm{Q:Value->Shared->Prop}(hu:A.units+1<cLine)(I:AI X pins σ H s)(g:CT H a y (some v))(ry:Au y u)(h:∀w' s',AI X pins σ H s'->Au v w'->Q w' s'):
  wpAny (model X.prog X.w) A (getItem (.ref a) u) Q E s:=by
 rcases g with ⟨kvs,k,e,ey,l⟩ | ⟨kvs,k,b,e,ey,eb,l⟩
 ·subst ey;obtain⟨z,hd,vs,rel,dd⟩:=JJ I.hok e;obtain⟨w',hw,rw'⟩:=EK.R0 (v:=v) (o:=valueAt vs k) (by rw[l]; exact rel.Gz k);exact wpAny_getItem_of (JC ry) dd.mapOf hw (h w' _ (I.DU _) rw')
 ·subst ey;cases (show u=Value.ref b from ry);obtain⟨z,hd,xs,rel,dd⟩:=KH I.hok e;obtain⟨w',hw,rw'⟩:=EK.R0 (v:=v) (o:=(atKey xs k).map (·.2)) (by rw[l]; exact rel.Gz k);obtain⟨p,hp,hp2⟩:=Option.map_eq_some_iff.mp hw;refine wpAny_getItem_heap (tupleKind_room_in1 hu) (J3 I.hok eb) dd hp ?_;rw[hp2];exact h w' _ (I.DU _) rw'
theorem dQ{Q:Value->Shared->Prop}(hu:A.units+1<cLine)(I:AI X pins σ H s)(g:CT H a y o)(ry:Au y u)(h:∀s',AI X pins σ H s'->Q (.bool o.isSome) s'):
  wpAny (model X.prog X.w) A (compareOp .In u (.ref a)) Q E s:=by
 rcases g with ⟨kvs,k,e,ey,l⟩ | ⟨kvs,k,b,e,ey,eb,l⟩
 ·subst ey;obtain⟨z,hd,vs,rel,dd⟩:=JJ I.hok e;refine wpAny_in_of (JC ry) hd dd.mapOf ?_;rw[<-(rel.Gz k).Jd,<-l];exact h _ (I.DU _)
 ·subst ey;cases (show u=Value.ref b from ry);obtain⟨z,hd,xs,rel,dd⟩:=KH I.hok e;refine wpAny_in_heap (tupleKind_room_in1 hu) (J3 I.hok eb) hd dd ?_;have q:=(rel.Gz k).Jd;rw[Option.isSome_map] at q;rw[<-q,<-l];exact h _ (I.DU _)
theorem YT{Q:Value->Shared->Prop}(hu:A.units+1<cLine)(I:AI X pins σ H s)(g:CT H a y o)(ry:Au y u)(h:∀s',AI X pins σ H s'->Q (.bool (!o.isSome)) s'):
  wpAny (model X.prog X.w) A (compareOp .NotIn u (.ref a)) Q E s:=by
 rcases g with ⟨kvs,k,e,ey,l⟩ | ⟨kvs,k,b,e,ey,eb,l⟩
 ·subst ey;obtain⟨z,hd,vs,rel,dd⟩:=JJ I.hok e;refine wpAny_notIn_of (JC ry) hd dd.mapOf ?_;rw[<-(rel.Gz k).Jd,<-l];exact h _ (I.DU _)
 ·subst ey;cases (show u=Value.ref b from ry);obtain⟨z,hd,xs,rel,dd⟩:=KH I.hok e;refine wpAny_notIn_heap (tupleKind_room_in1 hu) (J3 I.hok eb) hd dd ?_;have q:=(rel.Gz k).Jd;rw[Option.isSome_map] at q;rw[<-q,<-l];exact h _ (I.DU _)
theorem ND{h':Heap}{t':Nat}{ob:HO}(I:AI X pins σ H s)(mu:Kb (H a))(hs:Heap.SameBut a s.heap h')(he:∃q,h'.get? a=some q)(new:BY X.prog X.w (AF H a ob) h' a ob):
  AI X pins σ (AF H a ob) { s with heap:=h',toks:=t' } :=
 I.Hh (x:=a) (e:=a) mu (.inl rfl) (λb q hb z=>(hs.2 b hb).trans z) he new
theorem Tb{P:Program}{w:World}{H':Hp}{h':Heap}{kvs:List (AX×V)}{vs:List (AX×Value)}(z:kvs.length<=sizeLine)(hd:(a == sysModules)=false)(rel:KV kvs vs)(dd:h'.DictOf (DD P w) a vs):
  BY P w H' h' a (.dK kvs):=⟨z,hd,vs,rel,dd⟩
theorem WX{H':Hp}{Q:Unit->Shared->Prop}(hu:A.units+1<cLine)(I:AI X pins σ H s)(g:DR H a y v H')(ry:Au y u)(rv:Au v r)(h:∀s',AI X pins σ H' s'->Q () s'):
  wpAny (model X.prog X.w) A (setItem (.ref a) u r) Q E s:=by
 rcases g with ⟨kvs,k,e,ey,l,eH⟩ | ⟨kvs,k,b,e,ey,eb,l,eH⟩
 ·subst ey eH;obtain⟨z,hd,vs,rel,dd⟩:=Oa I.hok e;have hz:vs.length<=sizeLine:=by rw[<-rel.length]; exact z
  have hl:(Bw kvs k v).length<=sizeLine:=by have:=MK kvs k v; omega
  refine wpAny_setItem_pairs (hsz:=hz) (JC ry) dd λh' dd' hs=>h _ ?_
  have he:∃q,h'.get? a=some q:=let ⟨q,_,_,hq,_⟩:=dd'; ⟨q,hq⟩
  exact ND I (by rw[e]; exact True.intro) hs he (Tb hl hd (rel.put k rv) dd')
 ·subst ey eH;cases (show u=Value.ref b from ry);obtain⟨z,hd,xs,rel,dd⟩:=bj I.hok e;have hz:xs.length<=sizeLine:=by rw[<-Paired.length rel]; exact z
  have hl:(Bw kvs k v).length<=sizeLine:=by have:=MK kvs k v; omega
  refine wpAny_setItem_heap (hsz:=hz) (tupleKind_room_in1 hu) (J3 I.hok eb) dd λh' dd' hs=>h _ ?_
  obtain⟨q,es,ep,hq,h2,h3,h4,_,h5⟩:=dd';refine ND I (by rw[e]; exact True.intro) hs ⟨q,hq⟩ ⟨hl,hd,_,(rel.put k eb rv).keeps λc ys ec=>?_,q,es,ep,hq,h2,h3,h4,h5⟩;rw[Ad (bc ec e (λz=>nomatch z))];exact ec
end
section
variable {X:Cx} {pins:List (Addr×Obj)} {σ:St} {H:Hp} {s:Shared} {a:Addr} {kvs:List (AX×V)} {k:AX} {u:Value} {A:Around} {E:Value->Shared->Prop}
theorem bC{Q:Value->Shared->Prop}(I:AI X pins σ H s)(e:Rd H a (.dK kvs))(h:∀t s',AI X pins σ H s'->Q (.int kvs.length t) s'):wpAny (model X.prog X.w) A (call (.builtin "len") [.ref a]) Q E s:=by
 obtain⟨z,hd,vs,rel,dd⟩:=JJ I.hok e;refine call_len_dict hd dd (by rw[<-rel.length]; rw[ji] at z; omega) ?_;rw[<-rel.length];exact h _ _ (I.DU _)
end
def UY(i:Expr):Prop:=∀ov iv,subscripted i false ov iv=operate [ov,iv] (getItem ov iv)
theorem Ya {prog:Program} {w:World} {A:Around} {E:Value->Shared->Prop} {s:Shared} {env:Env} {value slice:Expr} {pos:Pos} {T id:String} {Q:Value->Shared->Prop}
  (hl:typeLookup (.type T) "__getitem__" = pure (some (.builtin id))) (hs:UY slice)
  (h:wpAny (model prog w) A (eval value env) (λo s₁=>wpAny (model prog w) A (eval slice env) (λi s₂=>s₂.TypeIs o T/\wpAny (model prog w) A (getItem o i) Q E s₂) E s₁) E s) :
  wpAny (model prog w) A (eval (.Subscript value slice pos) env) Q E s:=by
 refine Subscript_ (iT h (λo s₁ h₁=>iT h₁ (λi s₂ h₂=>?_) λ_ _ x=>x) λ_ _ x=>x);obtain⟨hT,h₂⟩:=h₂;unfold subscriptTail;refine eV ?_;rw[getitemInPython_of_ne hT.not_modules];refine eV (wpAny_specialOf hT hl ?_);have fin:wpAny (model prog w) A (subscripted slice false o i) (λr s₃=>wpAny (model prog w) A (letTemporaryGo value o r >>= λ_=>pure r) Q E s₃) E s₂:=by
  rw[hs o i];exact wpAny_operating (iT h₂ (λr s₃ h₃=>eV (wpAny_letTemporaryGo (fS h₃))) λ_ _ x=>x)
 first
  | exact fS (eV fin)
  | exact eV (fS (eV fin))
  | exact eV fin
theorem Va{X:Cx}{pins:List (Addr×Obj)}{σ:St}{H:Hp}{s:Shared}{a:Addr}{y:V}{o:Option V}(I:AI X pins σ H s)(g:CT H a y o):s.TypeIs (.ref a) "dict":=by
 rcases g with ⟨kvs,k,e,_,_⟩ | ⟨kvs,k,b,e,_,_,_⟩
 ·obtain⟨_,_,vs,_,dd⟩:=JJ I.hok e;exact dd.typeIs
 ·obtain⟨_,_,xs,_,dd⟩:=KH I.hok e;exact dd.typeIs
inductive UB(x y:V)(H:Hp)(Q:VK):Prop
 | mk (a:Addr) (v:V) (e:x=.ref a) (d:CT H a y (some v)) (q:Q v H):UB x y H Q
inductive Ua(x y:V)(H:Hp)(Q:VK):Prop
 | mk (a:Addr) (o:Option V) (e:x=.ref a) (d:CT H a y o) (q:Q (.bl o.isSome) H):Ua x y H Q
inductive Tv(x y v:V)(H:Hp)(Q:Hp->Prop):Prop
 | mk (a:Addr) (H4:Hp) (e:x=.ref a) (d:DR H a y v H4) (q:Q H4):Tv x y v H Q
def JE(td ty:TE):TE:=λσ H Q=>td σ H λx H1=>ty σ H1 λy H2=>UB x y H2 Q
def cM(ty td:TE):TE:=λσ H Q=>ty σ H λy H1=>td σ H1 λx H2=>Ua x y H2 Q
def Y9(ty td:TE):TE:=λσ H Q=>ty σ H λy H1=>td σ H1 λx H2=>∃a o,x=.ref a/\CT H2 a y o/\Q (.bl (!o.isSome)) H2
def To(td ty tv:TE):TS:=λD σ H=>tv σ H λv H1=>td σ H1 λx H2=>ty σ H2 λy H3=>Tv x y v H3 (D.nx σ)
section
variable {X:Cx} {o i e value:Expr} {pos pos' tpos:Pos} {td ty tv:TE}
theorem DE(hu:X.A.units+1<cLine)(ho:PE X o td)(hi:PE X i ty)(hs:UY i):PE X (.Subscript o i pos) (JE td ty):=by
 intro pins s σ H Q I h;refine Ya PySem.F.slot_dict_getitem.lookup hs (Ai (ho pins s σ H _ I h) λu s1 ⟨x,H1,I1,rx,q1⟩=>Ai (hi pins s1 σ H1 _ I1 q1) λiv s2 ⟨y,H2,I2,ry,a,v,ex,g,q2⟩=>?_);subst ex;obtain rfl:u=Value.ref a:=rx;exact⟨Va I2 g,Wm hu I2 g ry λw' s3 I3 rw'=>⟨v,H2,I3,rw',q2⟩⟩
theorem LU(hu:X.A.units+1<cLine)(hi:PE X i ty)(ho:PE X o td):PC X .In i o (cM ty td):=by
 intro pins s σ H Q I h;refine Ai (hi pins s σ H _ I h) λiv s1 ⟨y,H1,I1,ry,q1⟩=>Ai (ho pins s1 σ H1 _ I1 q1) λu s2 ⟨x,H2,I2,rx,a,ov,ex,g,q2⟩=>?_
 subst ex;obtain rfl:u=Value.ref a:=rx;exact dQ hu I2 g ry λs3 I3=>⟨.bl ov.isSome,H2,I3,rfl,q2⟩
theorem Jg(hu:X.A.units+1<cLine)(hi:PE X i ty)(ho:PE X o td):PC X .NotIn i o (Y9 ty td):=by
 intro pins s σ H Q I h;refine Ai (hi pins s σ H _ I h) λiv s1 ⟨y,H1,I1,ry,q1⟩=>Ai (ho pins s1 σ H1 _ I1 q1) λu s2 ⟨x,H2,I2,rx,a,ov,ex,g,q2⟩=>?_
 subst ex;obtain rfl:u=Value.ref a:=rx;exact YT hu I2 g ry λs3 I3=>⟨.bl (!ov.isSome),H2,I3,rfl,q2⟩
theorem EZ(hu:X.A.units+1<cLine)(ho:PE X o td)(hi:PE X i ty)(hv:PE X value tv)(hs:swapsWith value (some (.Subscript o i pos')) pos.line X.env=pure false):
  PS X (.Assign [.Subscript o i pos'] value pos) (To td ty tv):=by
 intro pins s σ H D I h;refine wpAny_Assign_Subscript (Ai (hv pins s σ H _ I h) λr s1 ⟨v,H1,I1,rv,q1⟩=>Ai (ho pins s1 σ H1 _ I1 q1) λu s2 ⟨x,H2,I2,rx,q2⟩=>Ai (hi pins s2 σ H2 _ I2 q2) λiv s3 ⟨y,H3,I3,ry,a,H4,ex,g,q3⟩=>?_) hs;subst ex;obtain rfl:u=Value.ref a:=rx;exact WX hu I3 g ry rv λs4 I4=>⟨σ,H4,I4,q3⟩
end
theorem Ql{P:Program}{w:World}{H:Hp}(h:Heap)(hb:sysModules<h.objs.size):BY P w H (h.push { cls:=.type "dict",data:=.dict #[] }) h.objs.size (.dK []) :=
 ⟨gP _,beq_eq_false_iff_ne.mpr (iB (gS hb)),[],.nil,Heap.DictOf.new h⟩
def Sk:TE:=λ_ H Q=>∀p,H p=none->Q (.ref p) (AF H p (.dK []))
section
variable {X:Cx} {pos:Pos}
theorem IX:PE X (.Dict [] [] pos) Sk:=λpins s σ H Q I h =>
 wpAny_Dict_empty ⟨.ref s.heap.objs.size,_,I.C6 (a:=s.heap.objs.size) (o:=.dK []) (t':=s.toks) (λ_ _ q=>eY _ q) (eU _) (Ql s.heap I.Fb),rfl,h _ (I.hok.BW (eU _))⟩
end
def OD:List (TE×TE)->St->Hp->(List (V×V)->Hp->Prop)->Prop
 | [],_,H,Q=>Q [] H
 | (tk,tv) :: r,σ,H,Q=>tk σ H λx H1=>tv σ H1 λy H2=>OD r σ H2 λps H3=>Q ((x,y) :: ps) H3
abbrev VV:List (V×V)->List (Value×Value)->Prop:=Paired λp q=>Au p.1 q.1/\Au p.2 q.2
def MF(X:Cx)(pos:Pos)(keys:List (Option Expr))(values:List Expr)(trs:List (TE×TE)):Prop :=
 ∀(pins:List (Addr×Obj)) (s:Shared) (σ:St) (H:Hp) (Q:List (V×V)->Hp->Prop),AI X pins σ H s->OD trs σ H Q →
  wpAny (model X.prog X.w) X.A (evalPairs (pairTrees keys values X.env pos)) (λvs s'=>∃ps H',AI X pins σ H' s'/\VV ps vs/\Q ps H') X.xe s
theorem NU{X:Cx}{pos:Pos}:MF X pos [] [] []:=λpins s σ H Q I h=>pairTrees_nil_walk ⟨[],H,I,.nil,h⟩
theorem Kz{X:Cx}{pos:Pos}{k v:Expr}{ks:List (Option Expr)}{vs:List Expr}{tk tv:TE}{trs:List (TE×TE)}(hk:PE X k tk)(hv:PE X v tv)(hr:MF X pos ks vs trs):
  MF X pos (some k :: ks) (v :: vs) ((tk,tv) :: trs):=λpins s σ H Q I h =>
 pairTrees_cons_walk (Ai (hk pins s σ H _ I h) λu s1 ⟨x,H1,I1,rx,q1⟩=>Ai (hv pins s1 σ H1 _ I1 q1) λw2 s2 ⟨y,H2,I2,ry,q2⟩ =>
  Ai (hr pins s2 σ H2 _ I2 q2) λws s3 ⟨ps,H3,I3,rel,q3⟩=>⟨(x,y) :: ps,H3,I3,.cons ⟨rx,ry⟩ rel,q3⟩)
def Dx(kvs more:List (AX×V)):List (AX×V):=more.foldl (λacc kv=>Bw acc kv.1 kv.2) kvs
theorem KV.av:∀{more:List (AX×V)} {rs:List (AX×Value)} {kvs:List (AX×V)} {vs:List (AX×Value)},KV more rs->KV kvs vs->KV (Dx kvs more) (merged vs rs):=by
 intro more rs kvs vs r;unfold KV at r
 induction r generalizing kvs vs with
 | nil=>intro q; exact q
 | @cons p q ps qs h t ih =>
  intro r0;have e:KV (Bw kvs p.1 p.2) (stored vs q.1 q.2):=by
   have:=r0.put p.1 h.2
   rw[<-h.1]; exact this
  exact ih e
theorem Pf:∀(more kvs:List (AX×V)),(Dx kvs more).length<=kvs.length+more.length
 | [],kvs=>by show kvs.length<=kvs.length+0; omega
 | p :: r,kvs=>by
  have h1:=Pf r (Bw kvs p.1 p.2);have h2:=MK kvs p.1 p.2;show(Dx (Bw kvs p.1 p.2) r).length<=_;rw[gq]; omega
theorem Pr{P:Program}{w:World}:∀{kvs:List (AX×V)} {ws:List (Value×Value)},VV (kvs.map λkv=>(kV kv.1,kv.2)) ws->∃rs,Carries (DD P w) ws rs/\KV kvs rs
 | [],_,r=>by rw[gY] at r; cases r; exact⟨[],True.intro,.nil⟩
 | p :: kvs,_,r=>by
  rw[fk] at r;cases r with
  | @cons a b as bs h t =>
   obtain⟨rs,c,q⟩:=Pr (P:=P) (w:=w) t;obtain⟨b1,b2⟩:=b;exact⟨(p.1,b2) :: rs,⟨JC h.1,rfl,c⟩,.cons ⟨rfl,h.2⟩ q⟩
def bN(trs:List (TE×TE)):TE:=λσ H Q=>∀p,H p=none->OD trs σ (AF H p (.dK [])) λps H2=>H2 p=some (.dK [])/\∃kvs:List (AX×V),ps=kvs.map (λkv=>(kV kv.1,kv.2))/\kvs.length<=15/\Q (.ref p) (AF H2 p (.dK (Dx [] kvs)))
theorem Nd {X:Cx} {pos:Pos} {keys:List (Option Expr)} {values:List Expr} {trs:List (TE×TE)} (h:MF X pos keys values trs) (hall:keys.all (·.isSome)=true) (hl:keys.length=values.length) (h0:keys≠[])
  (h15:keys.length<=15):PE X (.Dict keys values pos) (bN trs):=by
 intro pins s σ H Q I q;have hn:=I.hok.BW (eU s.heap.objs.size);have I1:=I.C6 (a:=s.heap.objs.size) (o:=.dK []) (h':=s.heap.push { cls:=.type "dict",data:=.dict #[] }) (t':=s.toks) (λ_ _ q=>eY _ q) (eU _) (Ql s.heap I.Fb);refine wpAny_Dict_walk (knd:=DD X.prog X.w) hall hl h0 h15 (Ai (h pins _ σ _ _ I1 (q _ hn)) λws s2 ⟨ps,H2,I2,rel,e,kvs,ep,lk,q2⟩=>?_);subst ep;obtain⟨rs,c,rk⟩:=Pr (P:=X.prog) (w:=X.w) rel;obtain⟨z,hd,vs0,r0,dd⟩:=Oa I2.hok e;cases r0;refine⟨rs,c,dd,λh' dd' hs=>⟨.ref s.heap.objs.size,_,?_,rfl,q2⟩⟩;have hz:(Dx [] kvs).length<=sizeLine:=by
  have h1:=Pf kvs [];rw[i8] at h1;rw[ji]; omega
 have he:∃q,h'.get? s.heap.objs.size=some q:=let ⟨q,_,_,hq,_⟩:=dd'; ⟨q,hq⟩
 exact ND I2 (by rw[e]; exact True.intro) hs he (Tb hz hd (rk.av .nil) dd')
structure M1(X:Cx)(o:Expr)(m:Str)(apos:Pos)(e:Expr)(cpos:Pos):Prop where
 base:attributeBase o m X.env (eval o X.env)=eval o X.env
 few:((backTo cpos (starEach [e] X.env)).all (λx=>!x.1) && (backToKw cpos (keywordEach [] X.env)).all (λx=>x.1.isSome)
  && decide (([e]:List Expr).length+([]:List Keyword).length+(if ([]:List Keyword).isEmpty then 0 else 1)<30))=true
 line:(apos.endLine == cpos.line)=true
 bF:backTo cpos (starEach [e] X.env)=[(false,eval e X.env)]
structure M2(X:Cx)(o:Expr)(m:Str)(apos:Pos)(e f:Expr)(cpos:Pos):Prop where
 base:attributeBase o m X.env (eval o X.env)=eval o X.env
 few:((backTo cpos (starEach [e,f] X.env)).all (λx=>!x.1) && (backToKw cpos (keywordEach [] X.env)).all (λx=>x.1.isSome)
  && decide (([e,f]:List Expr).length+([]:List Keyword).length+(if ([]:List Keyword).isEmpty then 0 else 1)<30))=true
 line:(apos.endLine == cpos.line)=true
 bF:backTo cpos (starEach [e,f] X.env)=[(false,eval e X.env),(false,eval f X.env)]
section
variable {X:Cx} {pins:List (Addr×Obj)} {σ:St} {H:Hp} {s:Shared} {a:Addr} {y d:V} {u r:Value} {o:Option V} {A:Around} {E:Value->Shared->Prop}
end
section
variable {X:Cx} {o e f:Expr} {apos cpos:Pos} {td ty tx:TE}
end
section
variable {X:Cx} {pins:List (Addr×Obj)} {σ:St} {H:Hp} {s:Shared} {a:Addr} {kvs:List (AX×V)} {A:Around} {E:Value->Shared->Prop}
end
section
variable {X:Cx} {pins:List (Addr×Obj)} {σ:St} {H:Hp} {s:Shared} {a:Addr} {y:V} {u:Value} {A:Around} {E:Value->Shared->Prop}
end
end L2
namespace Att
open PySem PySem.W PySem.Calls PyProof.Rows
theorem VN{P:Params}{h:Heap}:∀(ns:List Int) (vs:List Value),WellAll P h vs (ns.map WData.int)->IntsAre vs ns:=by
 intro ns
 induction ns with
 | nil =>
  intro vs w;rw[gY] at w;cases w;exact .nil
 | cons n ns ih =>
  intro vs w;rw[fk] at w;cases w with
  | cons a b =>
   cases a;exact .cons _ _ (ih _ b)
theorem WR {l:OpenLaw} {n:Nat} (hn:l.most=some n) {P:Params} {h:Heap} {args:List WData} {vals:List Value}
  (hpre:l.row.toRowW.claim.pre args=true) (hwl:WellAll P h vals args) :
  ∃a vs ns,vals=[Value.ref a]/\args=[WData.list (ns.map WData.int)]/\h.get? a=some { cls:=.type "list",data:=.seq vs.toArray }/\IntsAre vs ns/\ns.length<=n:=by
 have hsh:WShape.hasAll [] args [.list .int]=true:=(pre_splitW hpre).1;have hc:l.pre.holds [] { args:=args }=true:=(pre_splitW hpre).2;obtain⟨d,r,rfl,h1,h2⟩:=hasAllW_cons hsh;obtain rfl:=hasAllW_nil h2;obtain⟨xs,rfl,h3⟩:=hasW_list h1;obtain⟨ns,rfl⟩:=items_int h3;have hlen:ns.length<=n:=by
  unfold OpenLaw.pre at hc;have h4:(WTm.not (.lt (.lit (.int (n:Int))) (.len (.arg 0)))).holds [] { args:=[.list (ns.map .int)] }=true:=by
   have h4:=(holds_andW hc).1;rw[hn] at h4;exact h4
  have h5:=condW_of h4 (w_not (w_lt w_lit (w_len_list (w_arg rfl))));rw[ed] at h5;refine Nat.le_of_not_lt λq=>?_
  have q':(n:Int)<((ns.length:Nat):Int):=by omega
  first
   | (rw[jf q'] at h5; exact absurd h5 (by decide))
   | (simp at h5; omega)
 cases hwl with
 | cons w1 w2 =>
  cases w2;cases w1 with
  | list ho hall=>exact⟨_,_,ns,rfl,rfl,ho,VN ns _ hall,hlen⟩
theorem Wv(l:OpenLaw)(args:List WData):l.row.toRowW.claim.post args (.bool true) args=true :=
 postW_of (r:=l.row.toRowW) (X:=(true == true))
  (show WShape.has [] (.bool true) .bool=true by first | rfl | decide | simp[WShape.has,WShape.arms,WShape.armsAll])
  (show(WTm.eq .res (.lit (.bool true))).value [] { args:=args,res:=some (.bool true),after:=args }=some (.bool (true == true)) from w_eq_bool (w_res rfl) w_lit) rfl
theorem Ve {l:OpenLaw} {n:Nat} {q:Program} {loose:List Str} {XP:(Str->Option Value)->Heap->Prop} {YP:World->Heap->Prop} {d:DefRec}
  (hn:l.most=some n) (hdf:d.params.defaults=[])
  (call:∀(w:World) (s₀ s₁:Shared) (mg mb:Str->Option Value) (fa:Addr) (o:Obj) (pm cd doc:Value) (a:Addr) (vs:List Value) (ns:List Int),
   Ground q loose [] XP w s₀ mg mb s₁.heap->YP w s₁.heap →
   s₁.heap.get? fa=some o->o.data=.func (docDef d.name d.params d.body d.scope pm cd doc)->s₁.heap.CodeRec cd d.name->mg d.name=some (.ref fa) →
   s₁.heap.get? a=some { cls:=.type "list",data:=.seq vs.toArray }->IntsAre vs ns->ns.length<=n->s₁.gens = #[] →
   codeAny (model l.prog w) callerA (.call (.ref fa) ⟨[.ref a],[]⟩) (λr s'=>r=.ok (.ret (.bool true))/\OldK s₁.heap s'.heap/\s'.os=s₁.os/\AllBare s'.gens) s₁) :
  WalkO q loose XP YP l.row.toRowW d [] (λf vs=>PySem.call f vs):=by
 intro w s₀ s₁ mg mb G Y fa o pm cd doc dV kV ho hd hcd hD hmg hg args vals as hpre hlay hrd hwl hlo;obtain rfl:dV=.none:=Dflts.none hD hdf;obtain rfl:kV=.none:=Dflts.noKw hD;obtain⟨a,vs,ns,rfl,rfl,hobj,hints,hlen⟩:=WR hn hpre hwl;refine enter_call (codeAny_mono (call w s₀ s₁ mg mb fa o pm cd doc a vs ns G Y ho (fd_plain hd) hcd hmg hobj hints hlen hg) λr s' hq=>?_);obtain⟨rfl,h2,h3,h4⟩:=hq;exact⟨.inl ⟨.bool true,.bool true,[],rfl,λ_=>rfl,.bool true,Wv l _,λ_=>⟨List.Pairwise.nil,λ_ hm=>(nomatch hm)⟩⟩,h2,h3,h4⟩
section
variable {prog:Program} {w:World} {A:Around} {E:Value->Shared->Prop} {s:Shared} {K:Frag}
def eE(h:Heap)(L d:Addr):List (Addr×Obj):=(List.range h.objs.size).filterMap λa=>if a=L\/a=d then none else (h.get? a).map λo=>(a,o)
end
end Att
namespace L2
open PySem PySem.Spec PyProof.Rows
theorem QL:∀{vs:List Value} {ns:List Int},IntsAre vs ns->Ag (ns.map V.int) vs
 | _,_,.nil=>.nil
 | _,_,.cons n t h=>.cons ⟨t,rfl⟩ (QL h)
def Oc(H:Hp):Prop:=∀b,H b=none\/∃o xs,H b=some (.D7 o (.AB xs))
theorem X6 {P:Program} {w:World} {K:PySem.W.Frag} {mg mb:Str->Option Value} {CX:EN} {k:Nat} {fa a:Addr} {fd:FuncData} {x:Str} {sp:Sp} {s₁:Shared} {vs:List Value} {ns:List Int}
  (KX:K.In s₁.heap) (hns:s₁.heap.Ns mainGlobals mg) (hb:s₁.heap.Ns builtinsNs mb) (hbb:∀x:Str,x≠"__name__"->mb x=bootBuiltins x) (hlim:s₁.heap.NoLimit) (hg:s₁.gens = #[])
  (ha:s₁.heap.get? a=some { cls:=.type "list",data:=.seq vs.toArray }) (hi:IntsAre vs ns) (hl:ns.length<=sizeLine) (hr:CQ k callerA)
  (F:∀base:Heap,K.In base->base.Ns mainGlobals mg->An P w K mg base CX k fa fd [x] sp) (hbind:∀(s:Shared) (u:Value),BindsTo s fd ⟨[u],[]⟩ [(x,u)])
  (hsp:∀H:Hp,Oc H->AM K H a (ns.map V.int)->sp [.ref a] H (λv _=>v=.bl true) λ_ _ _=>False)
  (hCX:∀H e s',CX [] H s₁ (λ_ _ _=>False) e s'->False) :
  codeAny (model P w) callerA (.call (.ref fa) ⟨[.ref a],[]⟩) (λr s'=>r=.ok (.ret (.bool true))/\OldK s₁.heap s'.heap/\s'.os=s₁.os/\AllBare s'.gens) s₁:=by
 have rv:=QL hi;have lenV:=hi.length;have core:∀H:Hp,Oc H->AM K H a (ns.map V.int)->Br P w H s₁.heap->(∀b,H b≠none->b=a)->(H a≠none->K.lookup a=none) →
   codeAny (model P w) callerA (.call (.ref fa) ⟨[.ref a],[]⟩) (λr s'=>r=.ok (.ret (.bool true))/\OldK s₁.heap s'.heap/\s'.os=s₁.os/\AllBare s'.gens) s₁:=by
  intro H hO hS hok hA hK;have base_of:∀{b:Addr} {o:Obj},s₁.heap.get? b=some o->H b=none->(GD s₁.heap H).get? b=some o:=λe n=>XG e n
  have noA:∀{b:Addr} {o:Obj} {es:Array DictEntry} {ep:Nat},s₁.heap.get? b=some o->o.data=.dict es ep->H b=none:=λ{b o es ep} e d=>by
   cases q:H b with
   | none=>rfl
   | some u =>
    have e':b=a:=hA b (by rw[q]; simp);subst e';rw[ha] at e; cases e;have d':Data.seq vs.toArray _=Data.dict es ep:=d;cases d'
  have nsK:∀{b:Addr} {m:Str->Option Value},s₁.heap.Ns b m->(GD s₁.heap H).Ns b m:=λ{b m} ⟨o,es,ep,e,d,r⟩=>⟨o,es,ep,base_of e (noA e d),d,r⟩
  have hKb:K.In (GD s₁.heap H):=λb o e=>base_of (KX b o e) (by
   cases q:H b with
   | none=>rfl
   | some u =>
    have e':b=a:=hA b (by rw[q]; simp);subst e';rw[hK (by rw[q]; simp)] at e; cases e)
  have hM:Mod K mg (GD s₁.heap H):=⟨hKb,nsK hns,⟨mb,nsK hb,hbb⟩,let ⟨mc,h1,h2⟩:=hlim; ⟨mc,nsK h1,h2⟩⟩;have e0:Hu P w K mg (GD s₁.heap H) callerA [] s₁ H:=⟨rfl,hM,λb o e=>ZU e,Nat.le_of_eq (Wn _ _),trivial,λb hb=>absurd (show b∈([]:List Addr) from hb) (by simp),hok,.of_eq hg⟩;refine codeAny_mono ((F _ hKb (nsK hns)).run callerA [] s₁ H ⟨[.ref a],[]⟩ [.ref a] [.ref a] _ _ hr e0 (hbind s₁ (.ref a)) (.cons rfl .nil) (hsp H hO hS)) λr s' h=>?_
  cases r with
  | error e=>exact(hCX H e s' h).elim
  | ok fl =>
   cases fl with
   | next=>exact False.elim h
   | brk=>exact False.elim h
   | cont=>exact False.elim h
   | ret u =>
    obtain⟨v,H',os,bare,un,hok',r',q⟩:=h;have q':v=.bl true:=q;subst q';obtain rfl:u=Value.bool true:=r';refine⟨rfl,OldK.of_keep λb o e=>?_,os,bare⟩;cases q:H b with
    | none=>exact un.keep b o e q (by intro z; exact absurd (show b∈([]:List Addr) from z) (by simp)) (by simp)
    | some u =>
     rcases hO b with z | ⟨ob,xs,z⟩
     ·rw[q] at z; cases z
     ·have z2:=un.frzs b ob _ z;obtain⟨e1,_⟩:=hok b _ z;obtain⟨e2,_⟩:=hok' b _ z2;rw[e] at e1; cases e1;exact e2
 cases hk:K.lookup a with
 | some o =>
  have e:=KX a o hk;rw[ha] at e;cases e;refine core (λ_=>none) (λ_=>.inl rfl) (.inr ⟨_,vs.toArray,_,hk,rfl,rfl,rfl,by rw[fG,lenV]; exact hl,by simpa using rv⟩) (λb u z=>by have z':(none:Option HO)=some u:=z; cases z') (λb z=>absurd rfl z) λz=>absurd rfl z
 | none =>
  refine core (λb=>if b=a then some (.D7 { cls:=.type "list",data:=.seq vs.toArray } (.AB (ns.map V.int))) else none) (λb=>?_) (.inl (.inr ⟨{ cls:=.type "list",data:=.seq vs.toArray },ff rfl⟩)) (λb u z=>?_) (λb z=>?_) λ_=>hk
  ·by_cases hb:b=a
   ·exact .inr ⟨_,_,ff hb⟩
   ·exact .inl (eZ hb)
  ·by_cases hb:b=a
   ·have z':=(ff hb).symm.trans z;cases z';subst hb;exact⟨ha,by rw[ed]; exact hl,vs,_,rv,ha⟩
   ·have z':=(eZ hb).symm.trans z;cases z'
  ·by_cases hb:b=a
   ·exact hb
   ·exact absurd (eZ hb) z
abbrev eK{K:PySem.W.Frag}{h:Heap}(_:K.In h):PySem.W.Frag:=K
theorem YY {l:PySem.W.OpenLaw} {n k:Nat} {q:Program} {loose:List Str} {XP:(Str->Option Value)->Heap->Prop} {YP:World->Heap->Prop} {d:DefRec} {K:Params->PySem.W.Frag} {CX:World->EN} {sp:World->Sp} {x:Str}
  (hn:l.most=some n) (hn2:n<=sizeLine) (hdf:d.params.defaults=[]) (hr:CQ k callerA)
  (hY:∀(w:World) (h:Heap),YP w h->(K w.params).In h)
  (F:∀(w:World) (mg:Str->Option Value) (fa:Addr) (h:Heap),(K w.params).In h->h.Ns mainGlobals mg->mg d.name=some (.ref fa) →
   ∃fd:FuncData,(∀(s:Shared) (u:Value),BindsTo s fd ⟨[u],[]⟩ [(x,u)]) /\
    ∀base:Heap,(K w.params).In base->base.Ns mainGlobals mg->An l.prog w (K w.params) mg base (CX w) k fa fd [x] (sp w))
  (hsp:∀(w:World) (H:Hp) (a:Addr) (ns:List Int),ns.length<=n->Oc H->AM (K w.params) H a (ns.map V.int)->sp w [.ref a] H (λv _=>v=.bl true) λ_ _ _=>False)
  (hCX:∀(w:World) (H:Hp) (s:Shared) (e:Value) (s':Shared),CX w [] H s (λ_ _ _=>False) e s'->False) :
  PySem.W.WalkO q loose XP YP l.row.toRowW d [] (λf vs=>PySem.call f vs):=by
 refine Att.Ve hn hdf λw s₀ s₁ mg mb fa o pm cd doc a vs ns G Y ho hd hcd hmg hobj hints hlen hg=>?_
 have KX:=hY w _ Y;obtain⟨fd,hb,hF⟩:=F w mg fa _ KX G.T.g hmg;exact X6 KX G.T.g G.T.b G.T.builtins G.T.nolimit hg hobj hints (fY hlen hn2) hr hF hb (λH hO hS=>hsp w H a ns hlen hO hS) λH e s'=>hCX w H s₁ e s'
def FA(s:Stmt):Arguments:=match s with
 | .FunctionDef _ a _ _ _ _ _ _ _ _=>a
 | _=>{ posonlyargs:=[],args:=[],vararg:=none,kwonlyargs:=[],kw_defaults:=[],kwarg:=none,defaults:=[] }
def EY(s:Stmt):List Stmt:=match s with
 | .FunctionDef _ _ b _ _ _ _ _ _ _=>b
 | _=>[]
def Ao(s:Stmt):Scope:=match s with
 | .FunctionDef _ _ _ _ _ _ sc _ _ _=>sc
 | _=>{ kind:=.function,names:=[],isGenerator:=false,isCoroutine:=false }
abbrev Ay:EN:=λ_ _ _ _ _ _=>False
abbrev E0:XK:=λ_ _ _=>False
theorem ba{X:Cx}:N4 Ay X E0:=λ_ _ _ _ _ _ _ h=>h.elim
structure Ar(K:PySem.W.Frag)(x qual:Str)(st:Stmt)(f:Addr)(fd:FuncData):Prop where
 ex:∃(oc:Value) (od:Option Addr) (kV doc pm:Value) (an:Option Addr) (cdv ct:Value) (osl:Array (Option Value)),
  fd=PySem.W.fnOf x qual (FA st) (EY st) (Ao st) .none kV doc pm an cdv ct/\K.lookup f=some ⟨oc,od,.func fd,osl⟩/\PySem.W.codeIn K cdv qual=true
 kp:KP K f
section
variable {P:Program} {w:World} {K:PySem.W.Frag} {mg:Str->Option Value} {base:Heap}
theorem Ar.ok {x qual:Str} {st:Stmt} {f:Addr} {fd:FuncData} {N ps:List Str} {k:Nat} {sp:Sp} (F:Ar K x qual st f fd) (S:A3 N ps (Ao st)) (len:∀vs H Q E,sp vs H Q E->vs.length=ps.length)
  (hbody:∀(cdv:Value) (A:Around) (outer:List Env) (s:Shared) (H:Hp) (vs:List V) (Q:VK) (E:XK),CQ k (A.deeper (envOfC qual (Ao st) s.heap.objs.size f cdv))->sp vs H Q E →
   ∃t,CW (ID Ay P w K mg base N qual (Ao st) f cdv A outer s H E).GK (EY st) t/\t { nx:=λ_ H'=>Q .BA H',rt:=Q } (Ft N vs) H):An P w K mg base Ay (k+1) f fd ps sp:=by
 obtain⟨oc,od,kV,doc,pm,an,cdv,ct,osl,rfl,lk,hcd⟩:=F.ex;refine az lk hcd S len λA outer s H vs Q E hr hsp=>?_
 obtain⟨t,h,q⟩:=hbody cdv A outer s H vs Q E hr hsp;exact⟨t,h.GK,q⟩
theorem Ar.binds {x qual:Str} {st:Stmt} {f:Addr} {fd:FuncData} {ps:List Str} (F:Ar K x qual st f fd)
  (h:∀(kV doc pm:Value) (an:Option Addr) (cdv ct:Value) (us:List Value),us.length=ps.length->bindArgs (PySem.W.fnOf x qual (FA st) (EY st) (Ao st) .none kV doc pm an cdv ct) ⟨us,[]⟩=pure (ps.zip us)):EC K fd ps []:=by
 obtain⟨oc,od,kV,doc,pm,an,cdv,ct,osl,rfl,lk,hcd⟩:=F.ex;exact .all (h kV doc pm an cdv ct)
theorem Sy {x qual:Str} {st:Stmt} {f:Addr} {oc:Value} {od an:Option Addr} {osl:Array (Option Value)} {kV doc pm cdv ct:Value} (l:K.lookup f=some ⟨oc,od,.func (PySem.W.fnOf x qual (FA st) (EY st) (Ao st) .none kV doc pm an cdv ct),osl⟩)
  (c:PySem.W.codeIn K cdv qual=true) (k:KP K f):Ar K x qual st f (PySem.W.fnOf x qual (FA st) (EY st) (Ao st) .none kV doc pm an cdv ct):=⟨⟨oc,od,kV,doc,pm,an,cdv,ct,osl,rfl,l,c⟩,k⟩
end
theorem Eu{A:Around}{k:Nat}(hr:CQ k A):A.units+1<cLine:=iE (Nat.add_le_add_left (by decide:1<=64) _) hr.units
section
variable {X:Cx}
theorem pv (i:Nat) {x:Str} {pos:Pos} (hN:X.N[i]?=some x:=by rfl) (hv:Pa X.env.scope x:=by first | exact Or.inl rfl | exact Or.inr (Or.inl rfl) | exact Or.inr (Or.inr rfl)) (hd:(x == ("__debug__":Str))=false:=by decide)
  (hcd:(x == ("__classdict__":Str))=false:=by decide):PE X (.Name x pos) (Ax i):=Zv hN hv hd hcd
end
theorem CG{A B:Prop}(h:B):if false=true then A else B:=by
 rw[eZ fX];exact h
theorem Dk{A B:Prop}(h:A):if true=true then A else B:=by
 rw[ff rfl];exact h
theorem Hy{c A B:Prop}[Decidable c](h1:c->A)(h2:¬c->B):if c then A else B:=by
 by_cases h:c
 ·rw[ff h];exact h1 h
 ·rw[eZ h];exact h2 h
theorem FO{c A B:Prop}[Decidable c](hc:c)(h:B):if (!decide c)=true then A else B:=by
 rw[jf hc];exact CG h
def AR(H H':Hp):Prop:=∀b o,H b=some o->H' b=some o
theorem AR.refl(H:Hp):AR H H:=λ_ _ h=>h
theorem AR.trans{H H1 H2:Hp}(a:AR H H1)(b:AR H1 H2):AR H H2:=λc o h=>b c o (a c o h)
theorem AR.free{H H':Hp}(e:AR H H'){l:Addr}(h:H' l=Option.none):H l=Option.none:=by
 cases q:H l with
 | none=>rfl
 | some o =>
  rw[e l o q] at h;cases h
theorem AR.seq{K:PySem.W.Frag}{H H':Hp}{a:Addr}{xs:List V}(e:AR H H')(h:AM K H a xs):AM K H' a xs:=by
 rcases h with (h | ⟨o,h⟩) | h
 ·exact .inl (.inl (e _ _ h))
 ·exact .inl (.inr ⟨o,e _ _ h⟩)
 ·exact .inr h
section
variable {X:Cx}
theorem MW:DM X (.builtin "len") (λxs H Q=>∃a kvs,xs=[V.ref a]/\H a=some (.dK kvs)/\Q (.int kvs.length) H):=by
 intro pins s σ H xs us Q I r h;obtain⟨a,kvs,rfl,ha,q⟩:=h;obtain⟨u,rfl,ru⟩:=EE r;cases ru;exact bC I (.inl ha) λt s' I'=>⟨.int kvs.length,H,I',⟨t,rfl⟩,q⟩
end
section
variable {κ:Type} [DecidableEq κ]
end
end L2
namespace L2
open PySem
def DK(h h':Heap):Prop:=∀a o,h.get? a=some o->∃o',h'.get? a=some o'/\o'.dict=o.dict
theorem DK.refl(h:Heap):DK h h:=λ_ o e=>⟨o,e,rfl⟩
theorem DK.trans{h1 h2 h3:Heap}(x:DK h1 h2)(y:DK h2 h3):DK h1 h3:=λa o e=>by
 obtain⟨o1,e1,d1⟩:=x a o e;obtain⟨o2,e2,d2⟩:=y a o1 e1;exact⟨o2,e2,d2.trans d1⟩
theorem Wr{h:Heap}{a:Addr}{o:Obj}(e:h.get? a=some o):o.isFreed=false:=by
 unfold Heap.get? at e;split at e
 ·cases e
 ·rename_i x hx
  obtain⟨c,d,dt,sl⟩:=o;cases dt <;> first | rfl | (exact absurd e (hx _ _ _))
theorem DK.AF{h:Heap}{a:Addr}{f:Obj->Obj}(hf:∀o,(f o).dict=o.dict/\(f o).isFreed=o.isFreed):DK h (h.update a f):=λb o e=>by
 by_cases hb:a=b
 ·subst hb;exact⟨f o,Heap.get?_update_self f e ((hf o).2.trans (Wr e)),(hf o).1⟩
 ·exact⟨o,(Heap.get?_update_other h f hb).trans e,rfl⟩
theorem DK.push(h:Heap)(x:Obj):DK h (h.push x):=λ_ o e=>⟨o,eY x e,rfl⟩
structure KpD{α:Type}(t:Sem α):Prop where
 out:∀(M:Model) (Γ:Ctx) (Q:α->Pos->Shared->Prop) (E:Value->Pos->Shared->Prop) (p:Pos) (s:Shared),Sem.wp M Γ t Q E p s->Sem.wp M Γ t (λa p' s'=>Q a p' s'/\DK s.heap s'.heap) E p s
namespace KpD
variable {α β:Type}
theorem pure(a:α):KpD (Pure.pure a:Sem α):=⟨λ_ _ _ _ _ s h=>⟨h,DK.refl _⟩⟩
theorem unsupported(w:String):KpD (PySem.unsupported w:Sem α):=⟨λ_ _ _ _ _ _ h=>h⟩
theorem bind{m:Sem α}{f:α->Sem β}(hm:KpD m)(hf:∀a,KpD (f a)):KpD (m >>= f):=⟨λM Γ Q E p s h=>by
 rw[Sem.wp_bind'] at h ⊢;refine Sem.wp_mono M Γ m (λa p' s' ⟨q,k⟩=>?_) (λ_ _ _ z=>z) p s (hm.out M Γ _ E p s h);exact Sem.wp_mono M Γ (f a) (λb p2 s2 ⟨q2,k2⟩=>⟨q2,k.trans k2⟩) (λ_ _ _ z=>z) p' s' ((hf a).out M Γ Q E p' s' q)⟩
theorem ite{c:Prop}[Decidable c]{t u:Sem α}(ht:KpD t)(hu:KpD u):KpD (if c then t else u):=by split <;> assumption
theorem load(a:Addr):KpD (PySem.load a):=⟨λ_ _ _ _ _ _ h=>by
 obtain⟨o,e,q⟩:=h;exact⟨o,e,q,DK.refl _⟩⟩
theorem stack:KpD PySem.stack:=⟨λ_ _ _ _ _ _ h=>⟨h,DK.refl _⟩⟩
theorem update(a:Addr){f:Obj->Obj}(hf:∀o,(f o).dict=o.dict/\(f o).isFreed=o.isFreed):KpD (PySem.update a f):=⟨λ_ _ _ _ _ _ h=>⟨h.1,h.2,DK.AF hf⟩⟩
theorem alloc(x:Obj):KpD (PySem.alloc x):=⟨λ_ _ _ _ _ _ h=>⟨h,DK.push _ _⟩⟩
theorem field(v:Value)(i:Nat):KpD (PySem.field v i):=⟨λM Γ Q E p s h=>by
 rw[wp_field_iff] at h ⊢;obtain⟨a,o,vs,x,e,ho,hd,hx,q⟩:=h;exact⟨a,o,vs,x,e,ho,hd,hx,q,DK.refl _⟩⟩
theorem cH(g:Array Value->Array Value)(o:Obj):(o.mapFields g).dict=o.dict/\(o.mapFields g).isFreed=o.isFreed:=by
 obtain⟨c,d,dt,sl⟩:=o;cases dt <;> exact⟨rfl,rfl⟩
theorem setField(v:Value)(i:Nat)(x:Value):KpD (PySem.setField v i x):=⟨λM Γ Q E p s h=>by
 rw[wp_setField_iff] at h ⊢;obtain⟨a,o,vs,e,ho,hd,hi,q⟩:=h;exact⟨a,o,vs,e,ho,hd,hi,q,DK.AF (cH _)⟩⟩
theorem newFields(ty:String)(vs:List Value):KpD (PySem.newFields ty vs):=by
 unfold PySem.newFields newObj newObjAsIs;dsimp only;split
 all_goals repeat' with_reducible first
  | exact unsupported _
  | exact alloc _
  | exact pure _
  | apply bind
  | intro _
theorem slotF(g:Obj->Array (Option Value))(o:Obj):({ o with slots:=g o }:Obj).dict=o.dict/\({ o with slots:=g o }:Obj).isFreed=o.isFreed:=by
 obtain⟨c,d,dt,sl⟩:=o;cases dt <;> exact⟨rfl,rfl⟩
end KpD
local macro_rules
 | `(tactic| trivial)=>`(tactic| (repeat' with_reducible first
  | assumption
  | exact KpD.pure _
  | exact KpD.unsupported _
  | exact KpD.field _ _
  | exact KpD.setField _ _ _
  | exact KpD.newFields _ _
  | exact KpD.load _
  | exact KpD.update _ (KpD.slotF _)
  | exact KpD.stack
  | exact KpD.alloc _
  | apply KpD.ite
  | apply KpD.bind
  | intro _
  | split))
end L2
namespace L2
open PySem PySem.Spec PyProof.Rows
def Us(B:Heap)(l:List Env)(a:Addr)(cls:Value)(t:Addr)(od:Option Addr)(h:Heap):Prop:=Heap.FlyingW B l a cls (.ref t) h/\∃o,h.get? a=some o/\o.dict=od
theorem Us.there{B h:Heap}{l:List Env}{a t:Addr}{cls:Value}{od:Option Addr}(x:Us B l a cls t od h):∃o,h.get? a=some o/\o.cls=cls/\o.dict=od/\∃vs,o.data=.fields vs:=by
 obtain⟨o,e,d⟩:=x.2;obtain⟨o2,vs,e2,c,f,_⟩:=x.1.first;rw[e] at e2;cases e2;exact⟨o,e,c,d,vs,f⟩
theorem DK.dict{h h':Heap}{a:Addr}{od:Option Addr}(k:DK h h')(x:∃o,h.get? a=some o/\o.dict=od):∃o,h'.get? a=some o/\o.dict=od:=by
 obtain⟨o,e,d⟩:=x;obtain⟨o',e',d'⟩:=k a o e;exact⟨o',e',d'.trans d⟩
section
variable {X:Cx} {pins:List (Addr×Obj)} {σ:St} {H:Hp} {s s':Shared} {E:XK} {e:Value}
end
section
variable {P:Program} {w:World} {K:PySem.W.Frag} {mg:Str->Option Value} {base:Heap} {N:List Str} {qual:Str} {scope:Scope} {f:Addr} {cd:Value} {A:Around} {outer:List Env} {s₀:Shared} {H₀:Hp} {E:XK}
end
section
variable {M:Model} {A:Around} {E:Value->Shared->Prop} {s:Shared} {B:Heap} {env:Env} {outer l:List Env} {L e t:Addr} {cls:Value} {od:Option Addr} {Q:Unit->Shared->Prop}
end
def Cr(X:Cx)(scope:Scope)(cl:List (Str×Addr))(C:Addr)(Nc:List Str)(ex:List Addr)(pins:List (Addr×Obj))(s₀:Shared)(H₀:Hp):Cx where
 prog:=X.prog
 w:=X.w
 K:=X.K
 mg:=X.mg
 base:=X.base
 A:=X.A
 N:=Nc
 s₀:=s₀
 H₀:=H₀
 env:=compEnvC scope cl C X.env
 outer:=X.stack
 stack:=X.stack
 ex:=ex
 fn:=λy=>scope.names.lookup y == some .local
 CS:=true
 pn:=X.pn++pins
 xe:=λ_ _=>False
structure HJ(X:Cx)(scope:Scope)(cl:List (Str×Addr))(Nc:List Str)(cap:List (Nat×Nat)):Prop where
 clos:closureFor scope X.env=pure cl
 kind:scope.kind=.function
 names:∀y∈scope.names,y.2=.local->scope.names.lookup y.1=some .local
 nocell:∀y∈scope.names,y.2≠.cell
 sub:∀x c,cl.lookup x=some c->X.env.cells.lookup x=some c/\scope.names.lookup x≠some .local
 has:∀x,((relabel scope X.env).names.lookup x=some .cell\/(relabel scope X.env).names.lookup x=some .free)->∃c,cl.lookup x=some c
 caps:∀j i,(j,i)∈cap->∃x c,Nc[j]?=some x/\X.N[i]?=some x/\cl.lookup x=some c/\X.env.scope.names.lookup x=some .cell/\(relabel scope X.env).names.lookup x=some .cell
theorem CJ {X:Cx} {scope:Scope} {cl:List (Str×Addr)} {Nc:List Str} {cap:List (Nat×Nat)} (clos:closureFor scope X.env=pure cl) (kind:scope.kind=.function) (names:∀y∈scope.names,y.2=.local->scope.names.lookup y.1=some .local) (nocell:∀y∈scope.names,y.2≠.cell)
  (subs:∀p∈cl,X.env.cells.lookup p.1=some p.2/\scope.names.lookup p.1=some .free) (hass:((relabel scope X.env).names.all λp=>(p.2 != .cell && p.2 != .free) || (cl.lookup p.1).isSome)=true)
  (caps:∀p∈cap,∃x c,Nc[p.1]?=some x/\X.N[p.2]?=some x/\cl.lookup x=some c/\X.env.scope.names.lookup x=some .cell/\(relabel scope X.env).names.lookup x=some .cell):HJ X scope cl Nc cap :=
 ⟨clos,kind,names,nocell,λx c e=>⟨(subs (x,c) (iX e)).1,λz=>by
  have:=(subs (x,c) (iX e)).2
  rw[z] at this;cases this⟩,λx e=>by
  have key:∀k,(relabel scope X.env).names.lookup x=some k->(k=.cell\/k=.free)->∃c,cl.lookup x=some c:=λk e hk=>by
   have:=List.all_eq_true.mp hass (x,k) (iX e)
   rcases hk with rfl | rfl
   ·exact Option.isSome_iff_exists.mp (by simpa using this)
   ·exact Option.isSome_iff_exists.mp (by simpa using this)
  rcases e with e | e
  ·exact key _ e (.inl rfl)
  ·exact key _ e (.inr rfl),λj i m=>caps (j,i) m⟩
def Hi(n:Nat)(cap:List (Nat×Nat))(σ:St):St:=(List.range n).map λj=>((cap.find? λp=>p.1 == j).bind λp=>σ[p.2]?).bind id
theorem WC{n:Nat}{cap:List (Nat×Nat)}{σ:St}{j:Nat}{v:V}(h:(Hi n cap σ)[j]?=some (some v)):∃i,(j,i)∈cap/\σ[i]?=some (some v):=by
 unfold Hi at h;rw[fg] at h;cases e:(List.range n)[j]? with
 | none=>rw[e] at h; cases h
 | some k =>
  rw[e] at h;have hk:k=j:=by
   obtain⟨hl,q⟩:=eu.mp e;rw[List.getElem_range] at q;exact q.symm
  subst hk;simp only[Option.map_some,Option.some.injEq] at h;cases f:cap.find? λp=>p.1 == k with
  | none=>rw[f] at h; cases h
  | some p =>
   rw[f] at h;have h1:=List.mem_of_find?_eq_some f;have h2:p.1=k:=by
    have:=List.find?_some f
    exact eq_of_beq this
   refine⟨p.2,?_,?_⟩
   ·rw[<-h2]; exact h1
   ·simp only[Option.bind_some] at h;cases g:σ[p.2]? with
    | none=>rw[g] at h; cases h
    | some o=>rw[g] at h; simpa using h
section
variable {X:Cx} {pins:List (Addr×Obj)} {σ:St} {H:Hp} {s:Shared} {scope:Scope} {cl:List (Str×Addr)} {Nc:List Str} {cap:List (Nat×Nat)} {fp:List Addr}
theorem XF (I:AI X pins σ H s) (hcalm:X.CS=true) (S:HJ X scope cl Nc cap) (hfp:∀b∈fp,Ew X pins H b) (hob:∀b∈fp,∃o,s.heap.get? b=some o) {C:Addr} {h1:Heap} {m:Str->Option Value} {tk:Nat} (hC:s.heap.objs.size<=C)
  (hn:h1.Ns C m) (keep:∀b o,s.heap.get? b=some o->h1.get? b=some o):AI (Cr X scope cl C Nc fp pins s H) [] (Hi Nc.length cap σ) H { s with heap:=h1,toks:=tk }:=by
 have neC:∀b o,s.heap.get? b=some o->b≠C:=λb o e=>gS (gI (fJ e) hC)
 refine⟨⟨I.ok.DI,S.kind,I.ok.GB,I.ok.JT,hC,λx y c e1 e2=>?_,λx hx=>S.has x hx,λx c e1 e2=>?_,λ_=>I.ok.hd hcalm,I.ok.frames,.inl rfl,λb hb=>⟨?_,λx c e=>?_⟩,I.bs,fY I.ok.FY I.sz,λb o e hb=>?_,λb hb z=>?_,I.stack,I.SG⟩,
  rfl,I.bare,Un.Bn keep,⟨m,hn,λj x v e1 e2 e3=>?_⟩,λx c e=>?_,I.hok.BW hC,λx c e=>?_,λp hp=>?_,I.hok.Bn keep,?_⟩
 ·exact I.ok.inj x y c (S.sub x c e1).1 (S.sub y c e2).1
 ·exact absurd (beq_iff_eq.mp e1) (S.sub x c e2).2
 ·obtain⟨o,e⟩:=hob b hb;exact neC b o e
 ·exact(hfp b hb).2.2.2.2.1 x c (S.sub x c e).1
 ·rcases(hfp b hb).2.2.2.1 with z | z
  ·exact I.ok.KI b o e z
  ·exact absurd (gI (fJ e) (fY I.ok.FY z)) (jb _)
 ·rcases fE.mp (I.LN b z) with z | z
  ·exact(hfp b hb).2.1 z
  ·exact(hfp b hb).2.2.1 z
 ·obtain⟨i,hm,hv⟩:=WC e2;obtain⟨x',c,q1,q2,q3,q4,q5⟩:=S.caps j i hm;have e1':Nc[j]?=some x:=e1;rw[q1] at e1';cases e1';obtain⟨mo,_,hl⟩:=I.Dm;obtain⟨u,r,l⟩:=hl i x v q2 hv (.inr (.inl q4));refine⟨u,r,?_⟩;rcases l with ⟨k,_⟩ | ⟨_,c',e',z⟩
  ·have k':X.env.scope.names.lookup x=some .local:=k;rw[q4] at k';cases k'
  ·have:c'=c:=fC (e'.symm.trans (S.sub x c q3).1)
   subst this;obtain⟨o,ho,hd⟩:=z;exact .inr ⟨.inl q5,c',q3,⟨o,keep _ _ ho,hd⟩⟩
 ·obtain⟨v,o,ho,hd⟩:=I.cell x c (S.sub x c e).1;exact⟨v,o,keep _ _ ho,hd⟩
 ·exact I.FJ x c (S.sub x c e).1
 ·have hp':p∈X.pn++pins:=by
   have z:p∈(X.pn++pins)++[]:=hp;rw[iF] at z;exact z
  obtain⟨e,n,ne,nf,d⟩:=I.DT p hp';refine⟨keep _ _ e,n,neC _ _ e,λz=>?_,d⟩;rcases fE.mp (I.LN p.1 z) with z | z
  ·exact ne z
  ·exact nf z
 ·show(Hi Nc.length cap σ).length=Nc.length;unfold Hi;rw[ed,fK]
theorem W8(I:AI X pins σ H s)(hfp:∀b∈fp,Ew X pins H b){C:Addr}{σc:St}{H':Hp}{s':Shared}{h':Heap}(J:AI (Cr X scope cl C Nc fp pins s H) [] σc H' s')(hs:Heap.SameBut C s'.heap h'):AI X pins σ H' { s' with heap:=h' }:=by
 have hC:s.heap.objs.size<=C:=J.ok.above;have neC:∀b o,s.heap.get? b=some o->b≠C:=λb o e=>gS (gI (fJ e) hC)
 have u:=J.base;refine I.bg (s':={ s' with heap:=h' }) (ch:=fp) J.os ⟨λb o e n hb hx=>?_,λb o e n hb hx=>?_,u.free,λb o e hx=>?_,u.tups,u.frzs,u.tbls⟩ (λb o e=>?_) J.bare λb hb=>⟨(hfp b hb).2.2.2.1,(hfp b hb).2.1,(hfp b hb).2.2.2.2.1,(hfp b hb).2.2.2.2.2⟩
 ·exact(hs.2 b (neC b o e)).trans (u.keep b o e n hb hx)
 ·obtain⟨sl,q⟩:=u.slot b o e n hb hx;exact⟨sl,(hs.2 b (neC b o e)).trans q⟩
 ·obtain⟨o',q⟩:=u.there b o e hx;exact⟨o',(hs.2 b (neC b o e)).trans q⟩
 ·refine(J.hok b o e).FV (λc v hc q=>(hs.2 c ?_).trans q) (λ_ q=>q) λ_ _ q=>q
  intro z;subst z;have fr:H' c=none:=J.free;rcases hc with hc | hc
  ·rw[hc] at fr; rw[fr] at e; cases e
  ·rw[fr] at hc; cases hc
end
def Lq(n:Nat)(cap:List (Nat×Nat))(wi:TI)(g:TG)(te:TE):TE:=λσ H Q=>wi σ H λJ H1=>∀acc,H1 acc=none →
 ∃W:Nat->Nat->List V->St->Hp->Prop,(∃m,W 0 m [] (Hi n cap σ) (AF H1 acc (.AB [])))/\∀i m ys σc H2,W i m ys σc H2 →
  (J.stop i H2/\Q (.ref acc) H2)\/(J.go i H2/\∀x H3,J.D6 i H2 x H3->g x σc H3 λσ4 H4=>te σ4 H4 λv H5=>H5 acc=some (.AB ys)/\ys.length<sizeLine/\∃m',m' < m/\W (i+1) m' (ys++[v]) σ4 (AF H5 acc (.AB (ys++[v]))))
def J0(n:Nat)(cap:List (Nat×Nat))(wi:TI)(g:TG)(tt:TT)(te:TE):TE:=λσ H Q=>wi σ H λJ H1=>∀acc,H1 acc=none →
 ∃W:Nat->Nat->List V->St->Hp->Prop,(∃m,W 0 m [] (Hi n cap σ) (AF H1 acc (.AB [])))/\∀i m ys σc H2,W i m ys σc H2 →
  (J.stop i H2/\Q (.ref acc) H2)\/(J.go i H2/\∀x H3,J.D6 i H2 x H3->g x σc H3 λσ4 H4=>tt σ4 H4 λok H5=>if ok=true then (te σ4 H5 λv H6=>H6 acc=some (.AB ys)/\ys.length<sizeLine/\∃m',m' < m/\W (i+1) m' (ys++[v]) σ4 (AF H6 acc (.AB (ys++[v])))) else ∃m',m' < m/\W (i+1) m' ys σ4 H5)
def MG(X:Cx)(ifs:List PySem.Expr)(tt:TT):Prop:=∀(pins:List (Addr×Obj)) (s:Shared) (σ:St) (H:Hp) (Q:Bool->Hp->Prop),AI X pins σ H s->tt σ H Q →
 wpAny (model X.prog X.w) X.A (forIn ifs true λc r=>if r=true then do let ok <-isTrue c X.env (eval c X.env); pure (ForInStep.yield ok) else pure (ForInStep.yield r)) (λok s'=>∃H',AI X pins σ H' s'/\Q ok H') X.xe s
theorem R7{X:Cx}:MG X [] (λ_ H Q=>Q true H):=λ_ _ _ H _ I q=>wpAny_tests_nil ⟨H,I,q⟩
section
variable {prog:Program} {w:World} {A:Around} {s:Shared}
theorem VT {elt iter tg:PySem.Expr} {ifs:List PySem.Expr} {scope:Scope} {pos:Pos} {it acc:Value} {env:Env} {R:Result->Shared->Prop} (I:Nat->Shared->Prop)
  (turn:∀n s,I n s->wpAny (model prog w) A (pyNext it) (λr s₁=>match r with
   | none=>R (.ok .next) s₁
   | some v=>wpAny (model prog w) A (letOwnedTupleGo tg it v) (λ_ s₁'=>wpAny (model prog w) A (assign tg env v) (λ_ s₂ =>
     wpAny (model prog w) A (forIn ifs true λc r=>if r=true then do let ok <-isTrue c env (eval c env); pure (ForInStep.yield ok) else pure (ForInStep.yield r)) (λok s₃=>if ok=true then
      wpAny (model prog w) A (eval elt env) (λx s₄ =>
       wpAny (model prog w) A (call (.builtin "list.append") [acc,x]) (λ_ s₅=>∃m,m<n/\I m s₅) (λ_ _=>False) s₄) (λ_ _=>False) s₃
      else ∃m,m<n/\I m s₃) (λ_ _=>False) s₂)
     (λ_ _=>False) s₁') (λ_ _=>False) s₁) (notedBy (model prog w) A env λe s'=>R (.error e) s') s)
  (n:Nat) (h:I n s):codeAny (model prog w) A (.compLoop (.ListComp elt [⟨tg,iter,ifs,0⟩] scope pos) 0 it acc env) R s:=by
 refine codeAny_loop rfl I (λn s hI=>?_) n h;show wpAny _ A ((compTurn (.ListComp elt [⟨tg,iter,ifs,0⟩] scope pos) 0 it acc env).onRaise (λx=>do noteFrame x env; theTreesLotGoes x)) _ _ s;refine wpAny_noted ?_;rw[compTurn_list];refine eV (wpAny_standAt (eV (iT (turn n s hI) (λr s₁ h₁=>?_) λ_ _ h'=>h')));cases r with
 | none=>exact fS h₁
 | some v =>
  refine eV (iT h₁ (λ_ s₁' h₁'=>?_) λ_ _ h'=>False.elim h');refine eV (iT h₁' (λ_ s₂ h₂=>eV (iT h₂ (λok s₃ h₃=>?_) λ_ _ h'=>False.elim h')) λ_ _ h'=>False.elim h');cases ok with
  | false=>exact fS ⟨rfl,h₃⟩
  | true =>
   exact eV (eV (iT h₃ (λx s₄ h₄=>eV (iT h₄ (λ_ s₅ h₅=>fS (fS ⟨rfl,h₅⟩)) λ_ _ h'=>False.elim h')) λ_ _ h'=>False.elim h'))
end
section
variable {X:Cx} {elt iter tg:PySem.Expr} {ifs:List PySem.Expr} {pos:Pos} {scope:Scope} {cl:List (Str×Addr)} {Nc:List Str} {cap:List (Nat×Nat)} {wi:TI} {g:TG} {tt:TT} {te:TE}
theorem P7 {pins:List (Addr×Obj)} {s:Shared} {σ:St} {H:Hp} {Q:V->Hp->Prop} {pos':Pos} {use:Option (Value->Sem Unit)} {P:Value->Shared->Prop} (hc:X.CS=true) (hi:PI X tg iter wi) (S:HJ X scope cl Nc cap)
  (hg:∀C fp pins s H,PG (Cr X scope cl C Nc fp pins s H) tg g) (ht:∀C fp pins s H,MG (Cr X scope cl C Nc fp pins s H) ifs tt) (he:∀C fp pins s H,PE (Cr X scope cl C Nc fp pins s H) elt te)
  (hs:∀y,foldedSetIterable iter X.env y=pure y) (I:AI X pins σ H s) (h:J0 Nc.length cap wi g tt te σ H Q)
  (fin:∀(acc C:Addr) (H5:Hp) (s6:Shared) (m6:Str->Option Value),AI X pins σ H5 s6->Ew X pins H5 C->s6.heap.Ns C m6->Q (.ref acc) H5->compPost (model X.prog X.w) X.A X.xe use P (.ref acc) C (.ok .next) s6) :
  wpAny (model X.prog X.w) X.A (comprehension (.ListComp elt [⟨tg,iter,ifs,0⟩] scope pos) scope X.env pos' (newList []) false (eval iter X.env) use) P X.xe s:=by
 refine wpAny_comprehension_free (use:=use) (cl:=cl) rfl hs S.clos S.kind S.names ?_;refine Ai (hi pins s σ H _ I h) λv s1 h1=>Ai h1 λitv s2 h2=>?_
 obtain⟨it,fp,tn,J,H2,e,I2,T,st2,f2,rd⟩:=h2;subst e;refine wpAny_newObj_type ?_;have hacc:H2 s2.heap.objs.size=none:=I2.hok.BW (eU _);obtain⟨W,⟨m0,w0⟩,turn⟩:=rd s2.heap.objs.size hacc;have I3:AI X pins σ (AF H2 s2.heap.objs.size (.AB [])) { s2 with heap:=s2.heap.push { cls:=.type "list",dict:=none,data:=.seq ([]:List Value).toArray } } :=
  I2.C6 (t':=s2.toks) (λb u e=>eY _ e) (eU _) ⟨gP _,[],0,.nil,fO _ rfl⟩
 have st3:tn 0 (s2.heap.push { cls:=.type "list",dict:=none,data:=.seq ([]:List Value).toArray }):=T.keep _ _ _ st2 λb _ o e=>eY _ e
 have f3:∀b∈fp,Ew X pins (AF H2 s2.heap.objs.size (.AB [])) b:=λb hb=>by
  obtain⟨o,e,_⟩:=T.obj _ _ st2 b hb;refine⟨?_,(f2 b hb).2⟩;rw[Ad (gS (fJ e))];exact(f2 b hb).1
 generalize hh3:s2.heap.push { cls:=.type "list",dict:=none,data:=.seq ([]:List Value).toArray }=h3 at I3 st3 ⊢;generalize hH3:AF H2 s2.heap.objs.size (.AB [])=H3 at I3 f3 w0;generalize s2.heap.objs.size=acc at *;refine wpAny_newFunctionEnv S.nocell (by intro y hy; simp at hy) (λh4 hns hsb=>?_) S.kind;dsimp only at hns hsb ⊢;have keep:∀b o,h3.get? b=some o->h4.get? b=some o:=λb o e=>hsb.extBut b o (gS (fJ e)) (eY _ e)
 have f0:∀b∈fp,∃o,h3.get? b=some o:=λb hb=>by
  obtain⟨o,e,_⟩:=T.obj _ _ st3 b hb;exact⟨o,e⟩
 have I4:=XF (tk:=s2.toks+([]:List (Str×Value)).length) I3 hc S f3 f0 (C:=h3.objs.size) (eU _) hns keep;have st4:tn 0 h4:=T.keep _ _ _ st3 λb _ o e=>keep b o e
 have stat:∀{H':Hp},(∀b∈fp,H' b=none)->∀b∈fp,Ew (Cr X scope cl h3.objs.size Nc fp pins { s2 with heap:=h3 } H3) [] H' b:=λhn b hb=>by
  obtain⟨o,e⟩:=f0 b hb;refine⟨hn b hb,gS (fJ e),I4.ok.Ka b hb,.inl hb,λx c q=>(f3 b hb).2.2.2.2.1 x c (S.sub x c q).1,λp hp=>?_⟩;have z:p∈(X.pn++pins)++[]:=hp;rw[iF] at z;exact(f3 b hb).2.2.2.2.2 p z
 have loop:codeAny (model X.prog X.w) X.A (.compLoop (.ListComp elt [⟨tg,iter,ifs,0⟩] scope pos) 0 (.ref it) (.ref acc) (compEnvC scope cl h3.objs.size X.env)) (compPost (model X.prog X.w) X.A X.xe use P (.ref acc) h3.objs.size)
   { s2 with heap:=h4,toks:=s2.toks+([]:List (Str×Value)).length }:=by
  refine VT (λn s'=>∃i ys σ' H',AI (Cr X scope cl h3.objs.size Nc fp pins { s2 with heap:=h3 } H3) [] σ' H' s'/\tn i s'.heap/\(∀b∈fp,H' b=none)/\W i n ys σ' H') ?_ m0 ⟨0,[],_,H3,I4,st4,λb hb=>(f3 b hb).1,w0⟩;rintro n s5 ⟨i,ys,σ5,H5,I5,st5,fr5,w5⟩;rcases turn i n ys σ5 H5 w5 with ⟨stop,qn⟩ | ⟨go,step⟩
  ·refine Ai (T.done (Cr X scope cl h3.objs.size Nc fp pins { s2 with heap:=h3 } H3) rfl rfl rfl rfl i [] s5 σ5 H5 _ I5 (stat fr5) st5 stop) λr s6 ⟨hr,I6⟩=>?_
   subst hr;obtain⟨m6,hn6,_⟩:=id I6.Dm;exact fin acc _ H5 s6 m6 (W8 (h':=s6.heap) I3 f3 I6 ⟨rfl,λ_ _=>rfl⟩) (I3.FU (eU _) I6.free) hn6 qn
  ·refine iT (T.item (Cr X scope cl h3.objs.size Nc fp pins { s2 with heap:=h3 } H3) rfl rfl rfl rfl i [] s5 σ5 H5 (λ_ _=>False) I5 (stat fr5) st5 go) (λr s6 ⟨u,hr,h6⟩=>?_) λ_ _ z=>False.elim z
   subst hr;refine Ai h6 λ_ s7 ⟨y,H7,I7,r7,y7,st7,fr7⟩=>?_
   have I7':=I7.Tc (stat fr7) (T.obj _ _ st7);have kp:∀{σ8:St} {H8:Hp} {s8:Shared},AI (Cr X scope cl h3.objs.size Nc fp pins { s2 with heap:=h3 } H3) ([]++J2 fp s7.heap) σ8 H8 s8->tn (i+1) s8.heap/\∀b∈fp,H8 b=none:=λ{σ8 H8 s8} I8 =>
    ⟨T.keep _ _ _ st7 λb hb o e=>(I8.DT (b,o) (gz _ (gz _ (Kq hb e)))).1,λb hb=>by
     obtain⟨o,e,d⟩:=T.obj _ _ st7 b hb;exact(I8.DT (b,o) (gz _ (gz _ (Kq hb e)))).2.1⟩
   refine Ai (hg _ _ _ _ _ _ s7 σ5 H7 y u _ I7' r7 (step y H7 y7)) λ_ s8 ⟨σ8,H8,I8,q8⟩=>?_
   refine Ai (ht _ _ _ _ _ _ s8 σ8 H8 _ I8 q8) λok s9 ⟨H9,I9,q9⟩=>?_
   cases ok with
   | false =>
    rw[eZ fX] at q9 ⊢;obtain⟨m',hm,w'⟩:=q9;obtain⟨st9,fr9⟩:=kp I9;exact⟨m',hm,i+1,ys,σ8,H9,I9.Jo,st9,fr9,w'⟩
   | true =>
    rw[ff rfl] at q9 ⊢;refine Ai (he _ _ _ _ _ _ s9 σ8 H9 _ I9 q9) λw10 s10 ⟨v10,H10,I10,r10,e10,l10,m',hm,q10⟩=>?_
    refine Ai (Ds _ s10 σ8 H10 (.ref acc) [v10] (.ref acc) [w10] (λ_ H11=>W (i+1) m' (ys++[v10]) σ8 H11) I10 rfl (.cons r10 .nil) ⟨acc,ys,v10,rfl,rfl,e10,l10,q10⟩) λ_ s11 ⟨_,H11,I11,_,q11⟩=>?_
    obtain⟨st11,fr11⟩:=kp I11;exact⟨m',hm,i+1,ys++[v10],σ8,H11,I11.Jo,st11,fr11,q11⟩
 exact codeAny_compStart_list loop (T.self _ 0 _ _ _ st4 loop)
theorem Xo (hc:X.CS=true) (hi:PI X tg iter wi) (S:HJ X scope cl Nc cap)
  (hg:∀C fp pins s H,PG (Cr X scope cl C Nc fp pins s H) tg g) (ht:∀C fp pins s H,MG (Cr X scope cl C Nc fp pins s H) ifs tt) (he:∀C fp pins s H,PE (Cr X scope cl C Nc fp pins s H) elt te)
  (hs:∀y,foldedSetIterable iter X.env y=pure y:=by intro _; rfl):PE X (.ListComp elt [⟨tg,iter,ifs,0⟩] scope pos) (J0 Nc.length cap wi g tt te):=by
 intro pins s σ H Q I h;rw[eval_ListComp];exact P7 (use:=none) hc hi S hg ht he hs I h λacc C H5 s6 m6 back fpC hn qn=>⟨m6,hn,λh7 hs7=>⟨.ref acc,H5,back.Dh (t':=s6.toks) (λb o hb q=>(hs7.2 b hb).trans q) fpC.1 fpC.2.1 fpC.2.2.2.1 fpC.2.2.2.2.1 fpC.2.2.2.2.2,rfl,qn⟩⟩
theorem P1{n:Nat}:J0 n cap wi g (λ_ H Q=>Q true H) te=Lq n cap wi g te:=by
 unfold J0 Lq;simp only[if_true]
theorem C3 (hc:X.CS=true) (hi:PI X tg iter wi) (S:HJ X scope cl Nc cap)
  (hg:∀C fp pins s H,PG (Cr X scope cl C Nc fp pins s H) tg g) (he:∀C fp pins s H,PE (Cr X scope cl C Nc fp pins s H) elt te)
  (hs:∀y,foldedSetIterable iter X.env y=pure y:=by intro _; rfl):PE X (.ListComp elt [⟨tg,iter,[],0⟩] scope pos) (Lq Nc.length cap wi g te) :=
 P1 ▸ Xo (ifs:=[]) (pos:=pos) hc hi S hg (λ_ _ _ _ _=>R7) he hs
theorem Vc {i:Nat} {y:Str} {py spos:Pos} (hN:X.N.Nodup) (hiN:X.N[i]?=some y) (hy:JZ X.env.scope y)
  (hc:X.CS=true) (hi:PI X tg iter wi) (S:HJ X scope cl Nc cap)
  (hg:∀C fp pins s H,PG (Cr X scope cl C Nc fp pins s H) tg g) (ht:∀C fp pins s H,MG (Cr X scope cl C Nc fp pins s H) ifs tt) (he:∀C fp pins s H,PE (Cr X scope cl C Nc fp pins s H) elt te)
  (hsw:swapsWith (.ListComp elt [⟨tg,iter,ifs,0⟩] scope pos) (some (.Name y py)) spos.line X.env=pure true:=by rfl) (hs:∀z,foldedSetIterable iter X.env z=pure z:=by intro _; rfl)
  (hf:X.fn y=true\/X.env.scope.names.lookup y=some .local:=by first | exact .inl rfl | exact .inr rfl | assumption) :
  PS X (.Assign [.Name y py] (.ListComp elt [⟨tg,iter,ifs,0⟩] scope pos) spos) (JN (J0 Nc.length cap wi g tt te) (BQ i)):=by
 intro pins s σ H D I h;rw[exec_Assign_Name_used _ _ _ _ hsw];refine eV (wpAny_standAt (eV ?_));show wpAny _ X.A (do let _ <-comprehension (.ListComp elt [⟨tg,iter,ifs,0⟩] scope pos) scope X.env _ (newList []) false (eval iter X.env) (some (assign (.Name y py) X.env))) _ _ s;refine eV (iT (P7 (use:=some (assign (.Name y py) X.env)) (P:=λ_ s'=>SP X pins D .next s') hc hi S hg ht he hs I h λacc C H5 s6 m6 back fpC hn6 qn=>?_) (λ_ s' hq=>fS (fS hq)) λ_ _ e=>e);show wpAny (model X.prog X.w) X.A (assign (.Name y py) X.env (.ref acc)) _ X.xe s6;refine wpAny_assign_Name (Qb (v:=.ref acc) back hN hiN hy rfl (λs7 I7 ⟨a7,sb7,e7⟩=>?_) hf);have nC:C≠a7:=by
  rcases e7 with e7 | e7
  ·rw[e7]; exact fpC.2.1
  ·exact iB (fpC.2.2.2.2.1 _ _ e7)
 refine⟨m6,hn6.sameBut sb7 nC,λh8 hs8=>⟨_,H5,?_,qn⟩⟩;exact I7.Dh (t':=s7.toks) (λb o hb q=>(hs8.2 b hb).trans q) fpC.1 fpC.2.1 fpC.2.2.2.1 fpC.2.2.2.2.1 fpC.2.2.2.2.2
theorem IQ {i:Nat} {y:Str} {py spos:Pos} (hN:X.N.Nodup) (hiN:X.N[i]?=some y) (hy:JZ X.env.scope y)
  (hc:X.CS=true) (hi:PI X tg iter wi) (S:HJ X scope cl Nc cap)
  (hg:∀C fp pins s H,PG (Cr X scope cl C Nc fp pins s H) tg g) (he:∀C fp pins s H,PE (Cr X scope cl C Nc fp pins s H) elt te)
  (hsw:swapsWith (.ListComp elt [⟨tg,iter,[],0⟩] scope pos) (some (.Name y py)) spos.line X.env=pure true:=by rfl) (hs:∀z,foldedSetIterable iter X.env z=pure z:=by intro _; rfl)
  (hf:X.fn y=true\/X.env.scope.names.lookup y=some .local:=by first | exact .inl rfl | exact .inr rfl | assumption) :
  PS X (.Assign [.Name y py] (.ListComp elt [⟨tg,iter,[],0⟩] scope pos) spos) (JN (Lq Nc.length cap wi g te) (BQ i)) :=
 P1 ▸ Vc (ifs:=[]) hN hiN hy hc hi S hg (λ_ _ _ _ _=>R7) he hsw hs hf
end
section
variable {X:Cx}
def BN(i:Int):Prop:=i.natAbs<2 ^ 8000
theorem SJ{i:Int}(h:BN i):i.natAbs.log2<8000:=by
 by_cases z:i.natAbs=0
 ·rw[z]; decide
 ·exact(Nat.log2_lt z).mpr h
theorem RA{i:Int}(h:BN i):Builtin.Int.intBits i<=8001:=by
 have:=SJ h
 unfold Builtin.Int.intBits;split <;> omega
def KA(i j:Int):Prop:=BN i/\BN j
theorem CA:B8 X (binaryOp .Mult) (rI KA λi j=>.int (i*j)):=IJ λ_ _ _ _ _ _ _ hc q=>mul_int q (IntMulOk.of_bits (fY (RA hc.1) (by decide)) (fY (RA hc.2) (by decide)))
def Hm(_ j:Int):Prop:=j≠0/\BN j
theorem GQ:B8 X (binaryOp .FloorDiv) (rI Hm λi j=>.int (i.fdiv j)):=IJ λ_ _ _ _ _ _ _ hc q=>floordiv_int hc.1 q (.inl (PyProof.noPylong_of_log2 (by have:=SJ hc.2; omega)))
def Ke(lo step:Int)(n:Nat):It:=⟨λi _=>i<n,λi H x H'=>H'=H/\x=.int (lo+i*step),λi _=>n<=i⟩
theorem Wl{P:Program}{w:World}{K:PySem.W.Frag}{tg:PySem.Expr}(it:Addr)(lo step:Int)(n:Nat):GA P w K tg (Ke lo step n) [it] it (λi h=>IsRangeIter h it (lo+(i:Nat)*step) ((n:Int)-(i:Nat)) step) where
 mem:=by simp
 obj:=λi h st b hb=>by
  obtain rfl:b=it:=by simpa using hb
  exact⟨_,st,λv z=>by
   have z':Data.fields _=Data.cell v:=z;cases z'⟩
 keep:=λi h h' st k=>k it (by simp) _ st
 item:=by
  intro X hP hw hK hc i pins s σ H E I hf st hg;subst hP hw hK;obtain⟨f0,f1,f2,f3,f4,f5⟩:=hf it (by simp);have W:=Walks.range (prog:=X.prog) (w:=X.w) (I.ok.hd hc) it lo step n;refine W.item i s _ _ hg st λv h' tk hv st' kk=>?_
  obtain⟨t,rfl⟩:=hv;have I1:AI X pins σ H { s with heap:=h',toks:=tk }:=I.Dh (λb o hb e=>kk b o (by simpa using hb) e) f0 f1 f3 f4 f5;exact⟨_,rfl,KC (s:={ s with heap:=h',toks:=tk }) (n:="range_iterator") st' rfl rfl (by decide) ⟨.int (lo+i*step),H,I1,⟨t,rfl⟩,⟨rfl,rfl⟩,st',λb hb=>(hf b hb).1⟩⟩
 done:=by
  intro X hP hw hK hc i pins s σ H E I hf st hg;subst hP hw hK;obtain⟨f0,f1,f2,f3,f4,f5⟩:=hf it (by simp);exact wpAny_pyNext_range_end (I.ok.hd hc) st (by have:n<=i:=hg; omega) λh' eb=>⟨rfl,I.Dh (t':=s.toks) (λb o hb e=>eb b o hb e) f0 f1 f3 f4 f5⟩
 self:=λ_ _ _ _ _ st h=>wpAny_pyIter_rangeiter st h
theorem XH {lo step:Int} {n:Nat} {g:TG} {tb:TS} {D:C7} {σ:St} {H:Hp} (Pv:Nat->St->Hp->Prop) (h0:Pv 0 σ H)
  (hs:∀i σ H,i<n->Pv i σ H->g (.int (lo+i*step)) σ H λσ2 H2=>tb { D with nx:=Pv (i+1),ct:=Pv (i+1),bk:=D.nx } σ2 H2) (hd:∀σ H,Pv n σ H->D.nx σ H) :
  ∃W:Nat->Nat->St->Hp->Prop,(∃m,W 0 m σ H)/\∀i m σ H,W i m σ H →
   ((Ke lo step n).stop i H/\D.nx σ H)\/((Ke lo step n).go i H/\∃N:St->Hp->Prop,(∀σ' H',N σ' H'->∃m',m' < m/\W (i+1) m' σ' H')/\∀x H',(Ke lo step n).D6 i H x H'->g x σ H' λσ2 H2=>tb { D with nx:=N,ct:=N,bk:=D.nx } σ2 H2):=by
 refine⟨λi m σ H=>m=n-i/\i<=n/\Pv i σ H,⟨n,by simp,gP _,h0⟩,?_⟩;rintro i m σ H ⟨rfl,hi,p⟩;rcases gc i n with hlt | hge
 ·refine .inr ⟨hlt,Pv (i+1),λσ' H' p'=>⟨n-(i+1),by omega,rfl,hlt,p'⟩,λx H' y=>?_⟩;obtain⟨e,y⟩:=y;subst e y;exact hs i σ _ hlt p
 ·obtain rfl:i=n:=by omega
  exact .inl ⟨eU _,hd σ H p⟩
def cS(K:PySem.W.Frag)(c:V)(cv:Value):List V->Hp->VK->Prop:=λxs H Q=>∃x t b,xs=[x,c]/\C8 K H x t/\PySem.W.kitOne K t cv=some b/\Q (.bl b) H
theorem IV{c:V}{cv:Value}(hc:∀u,Au c u->u=cv):DM X (.builtin "isinstance") (cS X.K c cv):=by
 intro pins s σ H xs us Q I r h;obtain⟨x,t,b,rfl,ty,e,q⟩:=h;obtain⟨u,w',rfl,r1,r2⟩:=Lv r;cases hc w' r2;exact WL I r1 ty e λtk=>⟨.bl b,H,I.DU _,rfl,q⟩
theorem IL:bootBuiltins "isinstance" = some (.builtin "isinstance"):=by decide +kernel
theorem TH:bootBuiltins "int" = some (.type "int"):=by decide +kernel
theorem Yh:bootBuiltins "bool" = some (.type "bool"):=by decide +kernel
theorem Cb:bootBuiltins "tuple" = some (.type "tuple"):=by decide +kernel
theorem LP:bootBuiltins "all" = some (.builtin "all"):=by decide +kernel
theorem BR:bootBuiltins "len" = some (.builtin "len"):=by decide +kernel
theorem S4:bootBuiltins "abs" = some (.builtin "abs"):=by decide +kernel
theorem aP:bootBuiltins "max" = some (.builtin "max"):=by decide +kernel
theorem So:bootBuiltins "min" = some (.builtin "min"):=by decide +kernel
theorem Jk(K:PySem.W.Frag)(t:Value):PySem.W.kitOne K t t=some true:=by
 unfold PySem.W.kitOne;rw[ff (beq_self_eq_true t)]
theorem VU(K:PySem.W.Frag):PySem.W.kitOne K (.type "int") (.type "bool")=some false:=by first | rfl | decide +kernel | kernel_rfl
theorem Rf:∀{bs:List Bool} {us:List Value},Ag (bs.map V.bl) us->us=bs.map Value.bool
 | [],_,.nil=>rfl
 | b :: r,_,.cons (b:=u) h t=>by
  have h':u=Value.bool b:=h;rw[h',Rf t];rfl
def dP(K:PySem.W.Frag):List V->Hp->VK->Prop:=λxs H Q=>∃(p:Addr) (bs:List Bool),xs=[.ref p]/\AM K H p (bs.map V.bl)/\Q (.bl (bs.all id)) H
theorem Wo(bs:List Bool):((List.range bs.length).all λi=>(bs[i]?).getD true)=bs.all id:=by
 rw[Bool.eq_iff_iff,List.all_eq_true,List.all_eq_true];constructor
 ·intro h b hb;obtain⟨i,hi,rfl⟩:=List.mem_iff_getElem.mp hb
  have:=h i (gu.mpr hi)
  rw[eh hi] at this;exact this
 ·intro h i hi;have hl:=gu.mp hi;rw[eh hl];exact h _ (iq hl)
theorem Kv(hc:X.CS=true):DM X (.builtin "all") (dP X.K):=by
 intro pins s σ H xs us Q I r h;obtain⟨p,bs,rfl,hq,q⟩:=h;obtain⟨u,rfl,r1⟩:=EE r;cases r1;obtain⟨its,rv,pl,hz⟩:=I.list hq;have e:=Rf rv;subst e;have hlt:p<s.heap.objs.size:=by
  obtain⟨o,_,ho,_⟩:=pl;exact fJ ho
 refine call_all_walk (wpAny_pyIter_list pl.isList ?_);refine⟨s.heap.objs.size,_,_,_,_,_,λi=>(bs[i]?).getD true,rfl,Walks.list (show X.A.in1.handled=none from I.ok.hd hc) _ p (gS hlt) (bs.map Value.bool).toArray,⟨⟨_,fO _ rfl,rfl,rfl⟩,pl.isList.push _⟩,λi v s' Q' E' hP hQ'=>?_,λh' tk k=>?_⟩
 ·have hP:(bs.map Value.bool).toArray[i]?=some v:=hP;have hQ':Q' ((bs[i]?).getD true) s':=hQ';rw[List.getElem?_toArray,fg] at hP;cases e:bs[i]? with
  | none=>rw[e] at hP; cases hP
  | some b =>
   rw[e] at hP;obtain rfl:Value.bool b=v:=fC hP;have hQ2:Q' b s':=by
    rw[e] at hQ';exact hQ'
   exact fS hQ2
 ·refine⟨.bl (bs.all id),H,I.Bn λb o eb=>?_,?_,q⟩
  ·exact k b o (λz=>by
    have:b=s.heap.objs.size:=by simpa using z
    exact absurd (fJ eb) (by rw[this]; exact jb _)) (eY _ eb)
  ·show Value.bool _=Value.bool _;rw[fG,ed,Wo]
end
section
variable {prog:Program} {w:World} {A:Around} {E:Value->Shared->Prop} {s:Shared}
theorem Pm {c t:Addr} {k:Nat} {vs:Array Value} {y:Value} {Q:Value->Shared->Prop} (hc:s.heap.IsTupleIter c t k) (ht:s.heap.IsTuple t vs) (hy:vs[k]?=some y)
  (hQ:∀h',h'.IsTupleIter c t (k+1)->Heap.SameBut c s.heap h'->Q y { s with heap:=h' }):wpAny (model prog w) A (Builtin.SmallTypes.nextOf (.ref c)) Q E s:=by
 obtain⟨ob,e1,e2,e3⟩:=id hc;obtain⟨ot,f1,_,nt,f2⟩:=ht;unfold Builtin.SmallTypes.nextOf;refine eV (wpAny_callSpecial?_slot (name:=Str.ofString "__next__") hc.typeIs PySem.F.slot_tuple_iterator_next (wpAny_call_entry PySem.F.slot_tuple_iterator_next hc.typeIs PySem.F.entry_tuple_iterator_next ?_ (PySem.F.args_tuple_iterator_next_1 _)));show wpAny _ _ (field (.ref c) 0 >>= _) _ _ s;refine eV (iR e1 e3 (x:=.ref t) rfl ?_);show wpAny _ _ (if (Value.ref t == Value.none)=true then _ else _) _ _ _;rw[eZ (show ¬((Value.ref t == Value.none)=true) by exact fX)];show wpAny _ _ (field (.ref c) 1 >>= _) _ _ s;refine eV (iR e1 e3 (x:=.int k 0) rfl ?_);show wpAny _ _ (seqItems? (.ref t) >>= _) _ _ _;refine eV (jh f1 f2 ?_);simp only[ie,hy];refine eV (wpAny_setField e1 e3 (by simp) (fS ⟨y,rfl,fS (hQ _ ?_ (Heap.SameBut.update ..))⟩));exact⟨_,Heap.get?_update_self _ e1 (Obj.isFreed_of_fields (Obj.data_mapFields e3 _)),(Obj.cls_mapFields ..).trans e2,by rw[Obj.data_mapFields e3]; simp[rawInt]⟩
theorem QH {c t:Addr} {k:Nat} {vs:Array Value} {Q:Value->Shared->Prop} (hh:A.handled=none) (hc:s.heap.IsTupleIter c t k) (ht:s.heap.IsTuple t vs) (hy:vs[k]?=none)
  (hE:∀h' x,Heap.ExtBut c s.heap h'->(∃o,h'.get? x=some o/\o.cls=.type "StopIteration")->E (.ref x) { s with heap:=h' }):wpAny (model prog w) A (Builtin.SmallTypes.nextOf (.ref c)) Q E s:=by
 obtain⟨ob,e1,e2,e3⟩:=id hc;obtain⟨ot,f1,_,nt,f2⟩:=ht;unfold Builtin.SmallTypes.nextOf;refine eV (wpAny_callSpecial?_slot (name:=Str.ofString "__next__") hc.typeIs PySem.F.slot_tuple_iterator_next (wpAny_call_entry PySem.F.slot_tuple_iterator_next hc.typeIs PySem.F.entry_tuple_iterator_next ?_ (PySem.F.args_tuple_iterator_next_1 _)));show wpAny _ _ (field (.ref c) 0 >>= _) _ _ s;refine eV (iR e1 e3 (x:=.ref t) rfl ?_);show wpAny _ _ (if (Value.ref t == Value.none)=true then _ else _) _ _ _;rw[eZ (show ¬((Value.ref t == Value.none)=true) by exact fX)];show wpAny _ _ (field (.ref c) 1 >>= _) _ _ s;refine eV (iR e1 e3 (x:=.int k 0) rfl ?_);show wpAny _ _ (seqItems? (.ref t) >>= _) _ _ _;refine eV (jh f1 f2 ?_);simp only[ie,hy];refine eV (wpAny_rule (eV (wpAny_setField e1 e3 (by simp) ?_)));show wpAny _ _ (newExc (.type "StopIteration") [] >>= _) _ _ (_:Shared);refine eV ?_;simp only[newExc,newTuple];refine eV (wpAny_newObj_type ?_ (by size_fits)); refine eV (m:=firstArgMember _ _) (wpAny_of_eq (a:=Value.none) (by first | rfl | (simp only[firstArgMember]; rfl)) ?_);refine wpAny_newObj_type ?_ (by size_fits); simp only[raiseNew];refine eV (wpAny_handled ?_); first | rw[show A.in1.handled=none from hh] | rw[hh]
 refine eV (fS (wpAny_throw (hE _ _ (((Heap.SameBut.update ..).extBut.push _).push _) ⟨_,fO _ rfl,rfl⟩)))
theorem TN(hh:A.handled=none)(c t:Addr)(hne:t≠c)(vs:Array Value):
  Draws prog w A c [c,t] vs.size (λi v=>vs[i]?=some v) (λi h=>h.IsTupleIter c t i/\h.IsTuple t vs) where
 live:=λ_ _ st=>let ⟨o,ho,_⟩:=st.1; ⟨o,ho⟩
 frame:=λ_ _ _ st hk=>⟨let ⟨o,ho,r⟩:=st.1; ⟨o,hk c (by simp) o ho,r⟩,let ⟨o,ho,r⟩:=st.2; ⟨o,hk t (by simp) o ho,r⟩⟩
 item:=λi s' Q' E' hi st hQ=>Pm st.1 st.2 (y:=vs[i]) (by simp[hi]) λh' k1 k2=>hQ _ h' s'.toks (by simp[hi]) ⟨k1,st.2.extBut k2.extBut hne⟩ k2
 done:=λs' Q' E' st hE=>QH hh st.1 st.2 (by simp) hE
set_option maxHeartbeats 1000000 in
theorem Vj(t:Addr)(vs:Array Value)(n:Nat)(dct:Option Addr)(sl:Array (Option Value)):
  Meets (Builtin.«enumerate.__new__» ⟨[.type "enumerate",.ref t],[]⟩) (λ_ R s=>s.heap.get? t=some { cls:=.type "tuple",dict:=dct,data:=.seq vs n,slots:=sl } /\
   R (.ok (.ret (.ref (s.heap.push { cls:=.type "tuple_iterator",data:=.fields #[.ref t,.int 0 0] }).objs.size)))
    { s with heap:=(s.heap.push { cls:=.type "tuple_iterator",data:=.fields #[.ref t,.int 0 0] }).push { cls:=.type "enumerate",data:=.fields #[.none,.bool false,.ref s.heap.objs.size,rawInt 0,.none,.none] } }) :=
 .of_wp λprog w A R s h=>by
  obtain⟨hp,g,d,tk,os⟩:=s; obtain⟨ht,h⟩:=h;have hsub:=sub_enumerate;have hT:Heap.IsTuple (Shared.heap ⟨hp,g,d,tk,os⟩) t vs:=⟨_,ht,rfl,n,rfl⟩
  wp_walk using AutoSeq1.wpAny_loadPart' ht
  refine wpAny_stack_any λst=>fS ?_
  split
  ·rename_i c _ _ _ _ _
   cases (c == Value.type "enumerate") <;> (wp_walk using AutoSeq1.wpAny_loadPart' ht,i4 hT; exact⟨_,rfl,h⟩)
  ·wp_walk using AutoSeq1.wpAny_loadPart' ht,i4 hT; exact⟨_,rfl,h⟩
theorem Vw {t:Addr} {vs:Array Value} {Q:Value->Shared->Prop} (hT:s.heap.IsTuple t vs)
  (h:∀h',IsEnum h' (s.heap.objs.size+1) s.heap.objs.size 0 .none->h'.IsTupleIter s.heap.objs.size t 0->(∀b o,s.heap.get? b=some o->h'.get? b=some o)->Q (.ref (s.heap.objs.size+1)) { s with heap:=h' }) :
  wpAny (model prog w) A (call (.type "enumerate") [.ref t]) Q E s:=by
 obtain⟨⟨c,dct,dt,sl⟩,ht,hc,n,hd⟩:=hT;obtain rfl:c=.type "tuple":=hc;obtain rfl:dt=.seq vs n:=hd;refine callType_new PySem.F.called_enumerate (by decide) (PySem.F.typeCall_enumerate_1 _) (PySem.F.newCall_enumerate_1 _) (λobj=>PySem.F.args_object_init_2 obj _) PySem.F.entry_enumerate_new (Vj t vs n dct sl) ⟨ht,?_⟩;have z:(s.heap.push { cls:=.type "tuple_iterator",data:=.fields #[.ref t,.int 0 0] }).objs.size=s.heap.objs.size+1:=jd ..;show _/\_;rw[z];have he:IsEnum ((s.heap.push { cls:=.type "tuple_iterator",data:=.fields #[.ref t,.int 0 0] }).push { cls:=.type "enumerate",data:=.fields #[.none,.bool false,.ref s.heap.objs.size,rawInt 0,.none,.none] }) (s.heap.objs.size+1) s.heap.objs.size 0 .none:=by
  have q:=fO (s.heap.push { cls:=.type "tuple_iterator",data:=.fields #[.ref t,.int 0 0] }) (o:={ cls:=.type "enumerate",data:=.fields #[.none,.bool false,.ref s.heap.objs.size,rawInt 0,.none,.none] }) rfl;rw[z] at q;exact q
 exact⟨⟨_,he,rfl⟩,h _ he ⟨_,eY _ (fO _ rfl),rfl,rfl⟩ λb o q=>eY _ (eY _ q)⟩
end
section
variable {X:Cx}
def Kc(a : Addr): It :=
  ⟨λi H => ∃xs x, H a = some (.AG xs) /\ xs[i]? = some x,
   λi H v H' => ∃p x, v = .ref p /\ H p = none /\ H' = AF H p (.AG [.int i, x]) /\ ∀xs, H a = some (.AG xs) → xs[i]? = some x,
   λi H => ∃xs, H a = some (.AG xs) /\ xs.length = i⟩
theorem Wk{P:Program}{w:World}{K:PySem.W.Frag}{es:List PySem.Expr}{kk:Nat}{pos:Pos}{a e it:Addr}(hei:e≠it):
  GA P w K (.Tuple es kk pos) (Kc a) [e,it] e (λi h=>(∃old,IsEnum h e it ((i:Nat):Int) old)/\h.IsTupleIter it a i) where
 mem:=by simp
 obj:=λi h st c hc=>by
  obtain⟨⟨old,h1⟩,o2,h2,_,d2⟩:=st;simp only[fE,gE,iO] at hc;rcases hc with rfl | rfl
  ·exact⟨_,h1,λv z=>by have z':Data.fields _=Data.cell v:=z; cases z'⟩
  ·exact⟨_,h2,λv z=>by rw[d2] at z; cases z⟩
 keep:=λi h h' st k=>by
  obtain⟨⟨old,h1⟩,o2,h2,r⟩:=st;exact⟨⟨old,k e (by simp) _ h1⟩,o2,k it (by simp) _ h2,r⟩
 item:=by
  intro X hP hw hK hc i pins s σ H E I hf st hg;subst hP hw hK;obtain⟨xs,x,qa,hx⟩:=hg;obtain⟨its,rv,pa,_⟩:=I.tuple (AJ.of (K:=X.K) qa);obtain⟨ux,hux,rx⟩:=rv.get hx;obtain⟨⟨old,h1⟩,h2⟩:=st;have nea:e≠a:=λz=>by
   have:=(hf e (by simp)).1
   rw[z,qa] at this;cases this
  have nia:a≠it:=λz=>by
   have:=(hf it (by simp)).1
   rw[<-z,qa] at this;cases this
  have hlt:i<its.toArray.size:=by
   rw[fG];exact(eu.mp hux).1
  have D:Draws X.prog X.w X.A.in1 it [it,a] its.toArray.size (λi v=>its.toArray[i]?=some v) (λi h=>h.IsTupleIter it a i/\h.IsTuple a its.toArray):=TN (show X.A.in1.handled=none from I.ok.hd hc) it a nia its.toArray;refine wpAny_pyNext_enum_itemD D h1 ⟨h2,pa⟩ hlt hei (by simp[hei,nea]) λy h' tk hy a1 a2 a3 a4 k=>?_
  have hyx:y=ux:=by
   have q1:its.toArray[i]?=some y:=hy;rw[List.getElem?_toArray,hux] at q1;exact(fC q1).symm
  subst hyx;refine⟨_,rfl,wpAny_letOwnedTupleGo_enum a1 λh'' b1 sb=>?_⟩;have sb:Heap.SameBut e h' h'':=sb;have hse:s.heap.objs.size≠e:=ja (fJ h1);have hsi:s.heap.objs.size≠it:=by
   obtain⟨o,g,_⟩:=id h2;exact ja (fJ g)
  have hn:H s.heap.objs.size=none:=I.hok.BW (eU _);have kk':∀c o,c∉[e,it]->s.heap.get? c=some o->h''.get? c=some o:=λc o hc q =>
   (sb.2 c λz=>hc (by simp[z])).trans (k c o (λz=>hc (by simp[z])) (λz=>hc (by simp[z])) q)
  have tO:h''.get? s.heap.objs.size=some { cls:=.type "tuple",data:=.seq #[.int i tk,y] }:=(sb.2 _ hse).trans a3;have nt:∀c u,H c=some u->c∉[e,it]:=λc u q hc=>by
   have:=(hf c hc).1
   rw[q] at this;cases this
  have tupOk:BY X.prog X.w (AF H s.heap.objs.size (.AG [.int i,x])) h'' s.heap.objs.size (.AG [.int i,x]) :=
   ⟨by exact Bh,[.int i tk,y],.cons ⟨tk,rfl⟩ (.cons rx .nil),⟨_,tO,rfl,_,rfl⟩,_,tO,rfl⟩
  have I1:AI X pins σ (AF H s.heap.objs.size (.AG [.int i,x])) { s with heap:=h'',toks:=tk+1 }:=by
   refine I.step (g':=s.gens) (d':=s.drawn) (t':=tk+1) (ch:=[e,it]) (λc hc=>⟨(hf c hc).2.2.2.1,(hf c hc).2.1,(hf c hc).2.2.2.2.1,(hf c hc).2.2.2.2.2⟩) (λc o _ _ hc q _=>kk' c o hc q) (λc o _ _ hc q _=>⟨o.slots,kk' c o hc q⟩)
    (λc o _ q n=>by rw[Ad (gS (fJ q))]; exact n) (λc o hc q=>⟨o,kk' c o hc q⟩) (λc vs q=>by rw[Ad (BL q hn)]; exact q) (λc o vs q=>by rw[Ad (BL q hn)]; exact q)
    (λc ps q=>⟨#[],by rw[Ad (BL q hn),q]; simp⟩) (λm hm=>?_) (λc o q=>?_) I.bare
   ·obtain⟨o,es',ep,ho,r⟩:=hm;exact⟨o,es',ep,kk' _ o (λq=>(hf _ q).2.1 rfl) ho,r⟩
   ·by_cases hcs:c=s.heap.objs.size
    ·subst hcs;rw[AS] at q;cases q;exact tupOk
    ·rw[Ad hcs] at q;refine(I.hok c o q).FV (λd v hd z=>kk' d v ?_ z) (λd z=>by rw[Ad (BL z hn)]; exact z) λd vs z=>by rw[Ad (BL z hn)]; exact z
     rcases hd with hd | hd
     ·rw[hd]; exact nt c o q
     ·exact nt d _ hd
  have g2:h''.IsTupleIter it a (i+1):=by
   obtain⟨⟨o,g,r⟩,_⟩:=a2;exact⟨o,(sb.2 _ (iB hei)).trans g,r⟩
  have g1:IsEnum h'' e it (((i+1:Nat)):Int) y:=by
   have:((i+1:Nat):Int)=(i:Int)+1:=by omega
   rw[this];exact b1
  exact⟨.ref s.heap.objs.size,_,I1,rfl,⟨_,x,rfl,hn,rfl,λxs' q=>by rw[qa] at q; cases q; exact hx⟩,⟨⟨_,g1⟩,g2⟩,λc hc=>by
   have:c≠s.heap.objs.size:=by
    simp only[fE,gE,iO] at hc;rcases hc with rfl | rfl
    ·exact iB hse
    ·exact iB hsi
   rw[Ad this];exact(hf c hc).1⟩
 done:=by
  intro X hP hw hK hc i pins s σ H E I hf st hg;subst hP hw hK;obtain⟨xs,qa,hl⟩:=hg;obtain⟨its,rv,pa,_⟩:=I.tuple (AJ.of (K:=X.K) qa);obtain⟨⟨old,h1⟩,h2⟩:=st;have nia:a≠it:=λz=>by
   have:=(hf it (by simp)).1
   rw[<-z,qa] at this;cases this
  have D:Draws X.prog X.w X.A.in1 it [it,a] its.toArray.size (λi v=>its.toArray[i]?=some v) (λi h=>h.IsTupleIter it a i/\h.IsTuple a its.toArray):=TN (show X.A.in1.handled=none from I.ok.hd hc) it a nia its.toArray;have hi:its.toArray.size=i:=by
   rw[fG,<-rv.length];exact hl
  obtain⟨f0,f1,f2,f3,f4,f5⟩:=hf it (by simp);refine wpAny_pyNext_enum_endD D h1 (by rw[hi]; exact⟨h2,pa⟩) λh' k=>⟨rfl,I.Dh (t':=s.toks) (λb o hb q=>k b o hb q) f0 f1 f3 f4 f5⟩
 self:=λ_ _ _ _ _ st h=>by
  obtain⟨⟨old,h1⟩,_⟩:=st;exact wpAny_pyIter_enum h1 h
def UA(ta:TA):TI:=λσ H R=>ta σ H λvs H1=>∃a xs,vs=[.ref a]/\H1 a=some (.AG xs)/\R (Kc a) H1
theorem HW{es:List PySem.Expr}{kk:Nat}{tpos:Pos}{a:PySem.Expr}{ta:TA}{p pos:Pos}(hg:Gl X "enumerate")(hm:X.mg "enumerate" = none)(ha:PA X [a] ta)(hs:starEach [a] X.env=[(false,eval a X.env)]:=by rfl):
  PI X (.Tuple es kk tpos) (.Call (.Name "enumerate" p) [a] [] pos) (UA ta):=by
 intro pins s σ H R I h;refine Call_ (DX I hg hm PyProof.Rows.boot_enumerate (gy (Ai (ha pos pins s σ H _ I h) λus s1 ⟨vs,H1,I1,r1,q1⟩=>?_) hs rfl));obtain⟨la,xs,e,qa,q⟩:=q1;subst e;obtain⟨u1,rfl,ra⟩:=EE r1;cases ra;obtain⟨its,rv,pa,_⟩:=I1.tuple (AJ.of (K:=X.K) qa);refine Vw pa λh' z1 z2 zk=>wpAny_pyIter_enum z1 ?_
 have I2:AI X pins σ H1 { s1 with heap:=h' }:=I1.Bn (t':=s1.toks) zk;refine⟨s1.heap.objs.size+1,_,_,_,H1,rfl,I2,Wk (Nat.succ_ne_self _),⟨⟨_,z1⟩,z2⟩,λc hc=>?_,q⟩;have hge:s1.heap.objs.size<=c:=by
  simp only[fE,gE,iO] at hc;rcases hc with rfl | rfl <;> omega
 exact I1.FU (H':=H1) hge (I1.hok.BW hge)
theorem Ig {a:Addr} {xs:List V} {g:TG} {tb:TS} {D:C7} {σ:St} {H:Hp} (Pv:Nat->St->Hp->Prop) (h0:Pv 0 σ H) (hl:∀i σ H,i<=xs.length->Pv i σ H->H a=some (.AG xs))
  (hs:∀i x σ H p,xs[i]?=some x->Pv i σ H->H p=none->g (.ref p) σ (AF H p (.AG [.int i,x])) λσ2 H2=>tb { D with nx:=Pv (i+1),ct:=Pv (i+1),bk:=D.nx } σ2 H2) (hd:∀σ H,Pv xs.length σ H->D.nx σ H) :
  ∃W:Nat->Nat->St->Hp->Prop,(∃m,W 0 m σ H)/\∀i m σ H,W i m σ H →
   ((Kc a).stop i H/\D.nx σ H)\/((Kc a).go i H/\∃N:St->Hp->Prop,(∀σ' H',N σ' H'->∃m',m' < m/\W (i+1) m' σ' H')/\∀x H',(Kc a).D6 i H x H'->g x σ H' λσ2 H2=>tb { D with nx:=N,ct:=N,bk:=D.nx } σ2 H2):=by
 refine⟨λi m σ H=>m=xs.length-i/\i<=xs.length/\Pv i σ H,⟨xs.length,by simp,gP _,h0⟩,?_⟩;rintro i m σ H ⟨rfl,hi,p⟩;have qa:=hl i σ H hi p;rcases gc i xs.length with hlt | hge
 ·refine .inr ⟨⟨xs,xs[i],qa,by simp[hlt]⟩,Pv (i+1),λσ' H' p'=>⟨xs.length-(i+1),by omega,rfl,hlt,p'⟩,λv H' yl=>?_⟩;obtain⟨pa,x,rfl,hp,rfl,hx⟩:=yl;exact hs i x σ H pa (hx xs qa) p hp
 ·obtain rfl:i=xs.length:=by omega
  exact .inl ⟨⟨xs,qa,rfl⟩,hd σ H p⟩
def Yw:V->List V->Hp->VK->Prop:=λx vs H Q=>∃l xs k y,x=.ref l/\vs=[.int k,y]/\H l=some (.AB xs)/\0<=k/\k<=xs.length/\xs.length<1000000/\Q .BA (AF H l (.AB (xs.take k.toNat++y :: xs.drop k.toNat)))
theorem MX:MJ X "list.insert" Yw:=by
 intro pins s σ H x vs v us Q I rx rv h;obtain⟨l,xs,k,y,rfl,rfl,hH,k0,k1,hz,q⟩:=h;cases rx;obtain⟨u1,u2,rfl,r1,r2⟩:=Lv rv;obtain⟨t,rfl⟩:=r1;obtain⟨z,its,n,r,hl,e⟩:=I.GI hH;have hzs:its.length<=sizeLine:=by rw[<-hl]; exact z
 have hfit:¬(!Builtin.List.listFitsIndex k)=true:=by
  unfold Builtin.List.listFitsIndex;simp only[Bool.not_eq_true,Bool.not_eq_false',jc,decide_eq_true_eq];omega
 refine call_meets PySem.F.slot_list_insert ⟨_,e,rfl⟩ PySem.F.entry_list_insert (PySem.F.args_list_insert_3 _ _ _) (AutoSeq1.list_insert_list_int_val_1 l its.toArray n k t u2 hfit (by rw[fG]; exact hzs)) ⟨e,?_⟩;refine⟨.BA,_,I.Oh (its':=its.take k.toNat++u2 :: its.drop k.toNat) hH e ?_ ((r.take _).append (.cons r2 (r.drop _))) ?_,rfl,q⟩
 ·have hk:¬k<0:=by omega
  have hm:min k.toNat its.toArray.size=k.toNat:=by rw[fG]; omega
  simp only[eZ hk,hm];apply Array.toList_inj.mp;simp;exact fH (by simp)
 ·rw[fj,gq,g9,gN];rw[ji] at *;omega
end
section
variable {X:Cx}
def Gy(a : Addr): It :=
  ⟨λi H => ∃xs x, H a = some (.AB xs) /\ xs[i]? = some x,
   λi H v H' => ∃p x, v = .ref p /\ H p = none /\ H' = AF H p (.AG [.int i, x]) /\ ∀xs, H a = some (.AB xs) → xs[i]? = some x,
   λi H => ∃xs, H a = some (.AB xs) /\ xs.length = i⟩
theorem V8{P:Program}{w:World}{K:PySem.W.Frag}{es:List PySem.Expr}{kk:Nat}{pos:Pos}{a e it:Addr}(hei:e≠it):
  GA P w K (.Tuple es kk pos) (Gy a) [e,it] e (λi h=>(∃old,IsEnum h e it ((i:Nat):Int) old)/\h.IsListIter it a i) where
 mem:=by simp
 obj:=λi h st c hc=>by
  obtain⟨⟨old,h1⟩,o2,h2,_,d2⟩:=st;simp only[fE,gE,iO] at hc;rcases hc with rfl | rfl
  ·exact⟨_,h1,λv z=>by have z':Data.fields _=Data.cell v:=z; cases z'⟩
  ·exact⟨_,h2,λv z=>by rw[d2] at z; cases z⟩
 keep:=λi h h' st k=>by
  obtain⟨⟨old,h1⟩,o2,h2,r⟩:=st;exact⟨⟨old,k e (by simp) _ h1⟩,o2,k it (by simp) _ h2,r⟩
 item:=by
  intro X hP hw hK hc i pins s σ H E I hf st hg;subst hP hw hK;obtain⟨xs,x,qa,hx⟩:=hg;obtain⟨its,rv,pa,_⟩:=I.list (AM.of (K:=X.K) qa);obtain⟨ux,hux,rx⟩:=rv.get hx;obtain⟨⟨old,h1⟩,h2⟩:=st;have nea:e≠a:=λz=>by
   have:=(hf e (by simp)).1
   rw[z,qa] at this;cases this
  have nia:a≠it:=λz=>by
   have:=(hf it (by simp)).1
   rw[<-z,qa] at this;cases this
  have hlt:i<its.toArray.size:=by
   rw[fG];exact(eu.mp hux).1
  have D:Draws X.prog X.w X.A.in1 it [it,a] its.toArray.size (λi v=>its.toArray[i]?=some v) (λi h=>h.IsListIter it a i/\h.IsList a its.toArray):=Draws.list (show X.A.in1.handled=none from I.ok.hd hc) it a nia its.toArray;refine wpAny_pyNext_enum_itemD D h1 ⟨h2,pa.isList⟩ hlt hei (by simp[hei,nea]) λy h' tk hy a1 a2 a3 a4 k=>?_
  have hyx:y=ux:=by
   have q1:its.toArray[i]?=some y:=hy;rw[List.getElem?_toArray,hux] at q1;exact(fC q1).symm
  subst hyx;refine⟨_,rfl,wpAny_letOwnedTupleGo_enum a1 λh'' b1 sb=>?_⟩;have sb:Heap.SameBut e h' h'':=sb;have hse:s.heap.objs.size≠e:=ja (fJ h1);have hsi:s.heap.objs.size≠it:=by
   obtain⟨o,g,_⟩:=id h2;exact ja (fJ g)
  have hn:H s.heap.objs.size=none:=I.hok.BW (eU _);have kk':∀c o,c∉[e,it]->s.heap.get? c=some o->h''.get? c=some o:=λc o hc q =>
   (sb.2 c λz=>hc (by simp[z])).trans (k c o (λz=>hc (by simp[z])) (λz=>hc (by simp[z])) q)
  have tO:h''.get? s.heap.objs.size=some { cls:=.type "tuple",data:=.seq #[.int i tk,y] }:=(sb.2 _ hse).trans a3;have nt:∀c u,H c=some u->c∉[e,it]:=λc u q hc=>by
   have:=(hf c hc).1
   rw[q] at this;cases this
  have tupOk:BY X.prog X.w (AF H s.heap.objs.size (.AG [.int i,x])) h'' s.heap.objs.size (.AG [.int i,x]) :=
   ⟨by exact Bh,[.int i tk,y],.cons ⟨tk,rfl⟩ (.cons rx .nil),⟨_,tO,rfl,_,rfl⟩,_,tO,rfl⟩
  have I1:AI X pins σ (AF H s.heap.objs.size (.AG [.int i,x])) { s with heap:=h'',toks:=tk+1 }:=by
   refine I.step (g':=s.gens) (d':=s.drawn) (t':=tk+1) (ch:=[e,it]) (λc hc=>⟨(hf c hc).2.2.2.1,(hf c hc).2.1,(hf c hc).2.2.2.2.1,(hf c hc).2.2.2.2.2⟩) (λc o _ _ hc q _=>kk' c o hc q) (λc o _ _ hc q _=>⟨o.slots,kk' c o hc q⟩)
    (λc o _ q n=>by rw[Ad (gS (fJ q))]; exact n) (λc o hc q=>⟨o,kk' c o hc q⟩) (λc vs q=>by rw[Ad (BL q hn)]; exact q) (λc o vs q=>by rw[Ad (BL q hn)]; exact q)
    (λc ps q=>⟨#[],by rw[Ad (BL q hn),q]; simp⟩) (λm hm=>?_) (λc o q=>?_) I.bare
   ·obtain⟨o,es',ep,ho,r⟩:=hm;exact⟨o,es',ep,kk' _ o (λq=>(hf _ q).2.1 rfl) ho,r⟩
   ·by_cases hcs:c=s.heap.objs.size
    ·subst hcs;rw[AS] at q;cases q;exact tupOk
    ·rw[Ad hcs] at q;refine(I.hok c o q).FV (λd v hd z=>kk' d v ?_ z) (λd z=>by rw[Ad (BL z hn)]; exact z) λd vs z=>by rw[Ad (BL z hn)]; exact z
     rcases hd with hd | hd
     ·rw[hd]; exact nt c o q
     ·exact nt d _ hd
  have g2:h''.IsListIter it a (i+1):=by
   obtain⟨⟨o,g,r⟩,_⟩:=a2;exact⟨o,(sb.2 _ (iB hei)).trans g,r⟩
  have g1:IsEnum h'' e it (((i+1:Nat)):Int) y:=by
   have:((i+1:Nat):Int)=(i:Int)+1:=by omega
   rw[this];exact b1
  exact⟨.ref s.heap.objs.size,_,I1,rfl,⟨_,x,rfl,hn,rfl,λxs' q=>by rw[qa] at q; cases q; exact hx⟩,⟨⟨_,g1⟩,g2⟩,λc hc=>by
   have:c≠s.heap.objs.size:=by
    simp only[fE,gE,iO] at hc;rcases hc with rfl | rfl
    ·exact iB hse
    ·exact iB hsi
   rw[Ad this];exact(hf c hc).1⟩
 done:=by
  intro X hP hw hK hc i pins s σ H E I hf st hg;subst hP hw hK;obtain⟨xs,qa,hl⟩:=hg;obtain⟨its,rv,pa,_⟩:=I.list (AM.of (K:=X.K) qa);obtain⟨⟨old,h1⟩,h2⟩:=st;have nia:a≠it:=λz=>by
   have:=(hf it (by simp)).1
   rw[<-z,qa] at this;cases this
  have D:Draws X.prog X.w X.A.in1 it [it,a] its.toArray.size (λi v=>its.toArray[i]?=some v) (λi h=>h.IsListIter it a i/\h.IsList a its.toArray):=Draws.list (show X.A.in1.handled=none from I.ok.hd hc) it a nia its.toArray;have hi:its.toArray.size=i:=by
   rw[fG,<-rv.length];exact hl
  obtain⟨f0,f1,f2,f3,f4,f5⟩:=hf it (by simp);refine wpAny_pyNext_enum_endD D h1 (by rw[hi]; exact⟨h2,pa.isList⟩) λh' k=>⟨rfl,I.Dh (t':=s.toks) (λb o hb q=>k b o hb q) f0 f1 f3 f4 f5⟩
 self:=λ_ _ _ _ _ st h=>by
  obtain⟨⟨old,h1⟩,_⟩:=st;exact wpAny_pyIter_enum h1 h
def Z9(ta:TA):TI:=λσ H R=>ta σ H λvs H1=>∃a xs,vs=[.ref a]/\H1 a=some (.AB xs)/\R (Gy a) H1
theorem Ib{es:List PySem.Expr}{kk:Nat}{tpos:Pos}{a:PySem.Expr}{ta:TA}{p pos:Pos}(hg:Gl X "enumerate")(hm:X.mg "enumerate" = none)(ha:PA X [a] ta)(hs:starEach [a] X.env=[(false,eval a X.env)]:=by rfl):
  PI X (.Tuple es kk tpos) (.Call (.Name "enumerate" p) [a] [] pos) (Z9 ta):=by
 intro pins s σ H R I h;refine Call_ (DX I hg hm PyProof.Rows.boot_enumerate (gy (Ai (ha pos pins s σ H _ I h) λus s1 ⟨vs,H1,I1,r1,q1⟩=>?_) hs rfl));obtain⟨la,xs,e,qa,q⟩:=q1;subst e;obtain⟨u1,rfl,ra⟩:=EE r1;cases ra;obtain⟨its,rv,pa,_⟩:=I1.list (AM.of (K:=X.K) qa);refine call_enumerate_list pa.isList λh' z1 z2 _ zk=>wpAny_pyIter_enum z1 ?_
 have I2:AI X pins σ H1 { s1 with heap:=h' }:=I1.Bn (t':=s1.toks) zk;refine⟨s1.heap.objs.size+1,_,_,_,H1,rfl,I2,V8 (Nat.succ_ne_self _),⟨⟨_,z1⟩,z2⟩,λc hc=>?_,q⟩;have hge:s1.heap.objs.size<=c:=by
  simp only[fE,gE,iO] at hc;rcases hc with rfl | rfl <;> omega
 exact I1.FU (H':=H1) hge (I1.hok.BW hge)
theorem Jf {a:Addr} {xs:List V} {g:TG} {tb:TS} {D:C7} {σ:St} {H:Hp} (Pv:Nat->St->Hp->Prop) (h0:Pv 0 σ H) (hl:∀i σ H,i<=xs.length->Pv i σ H->H a=some (.AB xs))
  (hs:∀i x σ H p,xs[i]?=some x->Pv i σ H->H p=none->g (.ref p) σ (AF H p (.AG [.int i,x])) λσ2 H2=>tb { D with nx:=Pv (i+1),ct:=Pv (i+1),bk:=D.nx } σ2 H2) (hd:∀σ H,Pv xs.length σ H->D.nx σ H) :
  ∃W:Nat->Nat->St->Hp->Prop,(∃m,W 0 m σ H)/\∀i m σ H,W i m σ H →
   ((Gy a).stop i H/\D.nx σ H)\/((Gy a).go i H/\∃N:St->Hp->Prop,(∀σ' H',N σ' H'->∃m',m' < m/\W (i+1) m' σ' H')/\∀x H',(Gy a).D6 i H x H'->g x σ H' λσ2 H2=>tb { D with nx:=N,ct:=N,bk:=D.nx } σ2 H2):=by
 refine⟨λi m σ H=>m=xs.length-i/\i<=xs.length/\Pv i σ H,⟨xs.length,by simp,gP _,h0⟩,?_⟩;rintro i m σ H ⟨rfl,hi,p⟩;have qa:=hl i σ H hi p;rcases gc i xs.length with hlt | hge
 ·refine .inr ⟨⟨xs,xs[i],qa,by simp[hlt]⟩,Pv (i+1),λσ' H' p'=>⟨xs.length-(i+1),by omega,rfl,hlt,p'⟩,λv H' yl=>?_⟩;obtain⟨pa,x,rfl,hp,rfl,hx⟩:=yl;exact hs i x σ H pa (hx xs qa) p hp
 ·obtain rfl:i=xs.length:=by omega
  exact .inl ⟨⟨xs,qa,rfl⟩,hd σ H p⟩
theorem Co{i:Nat}{v:V}{σ:L2.St}{H:Hp}{k:L2.St->Hp->Prop}(h:k (σ.set i (some v)) H):BQ i v σ H k:=h
theorem DA{t u:L2.TS}{D:C7}{σ:L2.St}{H:Hp}(h:∀U:L2.St->Hp->Prop,u D=U->t { D with nx:=U } σ H):JO t u D σ H:=h _ rfl
theorem nx_hide{t:L2.TS}{N c b:L2.St->Hp->Prop}{r:VK}{σ:L2.St}{H:Hp}(h:∀U:L2.St->Hp->Prop,N=U->t { nx:=U,rt:=r,ct:=c,bk:=b } σ H):t { nx:=N,rt:=r,ct:=c,bk:=b } σ H:=h _ rfl
variable {a:Addr} {xs:List V} {g:TG} {tb:TS} {D:C7} {σ:St} {H:Hp}
theorem QS (Pv:Nat->St->Hp->Prop) (h0:Pv 0 σ H) (hl:∀i σ H,i<=xs.length->Pv i σ H->H a=some (.AB xs))
  (hs:∀i x σ H p,xs[i]?=some x->Pv i σ H->H p=none->∀U:St->Hp->Prop,(∀σ' H',Pv (i+1) σ' H'->U σ' H')->g (.ref p) σ (AF H p (.AG [.int i,x])) λσ2 H2=>tb { D with nx:=U,ct:=U,bk:=D.nx } σ2 H2) (hd:∀σ H,Pv xs.length σ H->D.nx σ H) :
  ∃W:Nat->Nat->St->Hp->Prop,(∃m,W 0 m σ H)/\∀i m σ H,W i m σ H →
   ((Gy a).stop i H/\D.nx σ H)\/((Gy a).go i H/\∃N:St->Hp->Prop,(∀σ' H',N σ' H'->∃m',m' < m/\W (i+1) m' σ' H')/\∀x H',(Gy a).D6 i H x H'->g x σ H' λσ2 H2=>tb { D with nx:=N,ct:=N,bk:=D.nx } σ2 H2) :=
 Jf Pv h0 hl (λi x σ H p e1 e2 e3=>hs i x σ H p e1 e2 e3 _ λ_ _ z=>z) hd
theorem C4 {X:Cx} (K:PySem.W.Frag) {o e:PySem.Expr} {es:List PySem.Expr} {to:TE} {t:TA} {name:Str} {apos cpos:Pos} {T id:String} {r:V->List V->Hp->VK->Prop} (pa:PlainAttrs T) (slot:Slot T name id) (hty:typeOf (.builtin id)=pure (.type "method_descriptor")) (hm:U7 X id r) (ho:PE X o to) (ha:PA X (e :: es) t)
  (hbase:attributeBase o name X.env (eval o X.env)=eval o X.env:=by rfl)
  (hfew:((backTo cpos (starEach (e :: es) X.env)).all (λx=>!x.1) && (backToKw cpos (keywordEach [] X.env)).all (λx=>x.1.isSome) && decide ((e :: es).length+([]:List Keyword).length+(if ([]:List Keyword).isEmpty then 0 else 1)<30))=true:=by rfl)
  (hline:(apos.endLine == cpos.line)=true:=by rfl) (hs:starEach (e :: es) X.env=(false,eval e X.env) :: starEach es X.env:=by rfl) (hplain:(backTo cpos (starEach es X.env)).any (·.1)=false:=by rfl) (hK:X.K=K:=by rfl) :
  PE X (.Call (.Attribute o name apos) (e :: es) [] cpos) (VI K T r to t):=by
 subst hK;exact bV pa slot hty hm ho ha hbase hfew hline hs hplain
theorem P4:∀{ns:List Int} {us:List Value},Ag (ns.map V.int) us->IntsAre us ns
 | [],_,.nil=>.nil
 | n :: r,_,.cons (b:=u) h t=>by
  obtain⟨k,rfl⟩:=h;exact .cons n k (P4 t)
def Bg(t:Bool)(h:Heap)(c a:Addr)(k:Nat):Prop:=if t then h.IsTupleIter c a k else h.IsListIter c a k
def Cy(t:Bool)(h:Heap)(a:Addr)(vs:Array Value):Prop:=if t then h.IsTuple a vs else h.IsList a vs
theorem Bg.ext{t:Bool}{h h':Heap}{c b a:Addr}{k:Nat}(x:Bg t h c a k)(hs:Heap.ExtBut b h h')(n:c≠b):Bg t h' c a k:=by
 cases t
 ·exact Heap.IsListIter.extBut x hs n
 ·exact Heap.IsTupleIter.extBut x hs n
theorem Bg.at{t:Bool}{h h':Heap}{c a:Addr}{k:Nat}(x:Bg t h c a k)(e:∀o,h.get? c=some o->h'.get? c=some o):Bg t h' c a k:=by
 cases t
 ·exact Heap.IsListIter.at x e
 ·exact Heap.IsTupleIter.at x e
theorem Bg.obj{t:Bool}{h:Heap}{c a:Addr}{k:Nat}(x:Bg t h c a k):∃o,h.get? c=some o/\∀v,o.data≠.cell v:=by
 cases t
 ·obtain⟨o,e,_,d⟩:=x;exact⟨o,e,λv z=>by rw[d] at z; cases z⟩
 ·obtain⟨o,e,_,d⟩:=x;exact⟨o,e,λv z=>by rw[d] at z; cases z⟩
theorem Cy.ext{t:Bool}{h h':Heap}{b a:Addr}{vs:Array Value}(x:Cy t h a vs)(hs:Heap.ExtBut b h h')(n:a≠b):Cy t h' a vs:=by
 cases t
 ·exact Heap.IsList.extBut x hs n
 ·exact Heap.IsTuple.extBut x hs n
variable {prog:Program} {w:World} {A:Around} {E:Value->Shared->Prop} {s:Shared}
theorem MM {t:Bool} {c a:Addr} {k:Nat} {vs:Array Value} {y:Value} {Q:Value->Shared->Prop} (hc:Bg t s.heap c a k) (ht:Cy t s.heap a vs) (hy:vs[k]?=some y)
  (hQ:∀h',Bg t h' c a (k+1)->Heap.SameBut c s.heap h'->Q y { s with heap:=h' }):wpAny (model prog w) A (Builtin.SmallTypes.nextOf (.ref c)) Q E s:=by
 cases t
 ·exact wpAny_nextOf_list_item hc ht hy hQ
 ·exact Pm hc ht hy hQ
theorem QJ {t:Bool} {c a:Addr} {k:Nat} {vs:Array Value} {Q:Value->Shared->Prop} (hh:A.handled=none) (hc:Bg t s.heap c a k) (ht:Cy t s.heap a vs) (hy:vs[k]?=none)
  (hE:∀h' x,Heap.ExtBut c s.heap h'->(∃o,h'.get? x=some o/\o.cls=.type "StopIteration")->E (.ref x) { s with heap:=h' }):wpAny (model prog w) A (Builtin.SmallTypes.nextOf (.ref c)) Q E s:=by
 cases t
 ·exact wpAny_nextOf_list_end hh hc ht hy hE
 ·exact QH hh hc ht hy hE
theorem Wj {t1 t2:Bool} {z TI TO i1 i2 l1 l2:Addr} {k1 k2:Nat} {xs ys:Array Value} {x y a b:Value} {Q:Value->Shared->Prop} (ap:ZipApart z TI TO i1 i2 l1 l2)
  (qz:IsZip s.heap z TI TO .none) (qI:IsPair s.heap TI (.ref i1) (.ref i2)) (qO:IsPair s.heap TO a b)
  (q1:Bg t1 s.heap i1 l1 k1) (q2:Bg t2 s.heap i2 l2 k2) (m1:Cy t1 s.heap l1 xs) (m2:Cy t2 s.heap l2 ys) (hx:xs[k1]?=some x) (hy:ys[k2]?=some y)
  (hQ:∀g,IsZip g z TI TO (rawInt s.heap.objs.size)->IsPair g TO x y->Bg t1 g i1 l1 (k1+1)->Bg t2 g i2 l2 (k2+1)->IsPair g s.heap.objs.size x y->g.objs.size=s.heap.objs.size+1 →
   (∀c o,c≠z->c≠TO->c≠i1->c≠i2->s.heap.get? c=some o->g.get? c=some o)->Q (.ref s.heap.objs.size) { s with heap:=g }) :
  wpAny (model prog w) A (Builtin.«zip.__next__» ⟨[.ref z],[]⟩) (λfin s'=>∃v,fin=.done (.ret v)/\Q v s') E s:=by
 show wpAny _ A (field (.ref z) 2 >>= _) _ _ _;refine eV (iR qz rfl (x:=.bool false) rfl ?_); show wpAny _ A (field (.ref z) 3 >>= _) _ _ _;refine eV (iR qz rfl (x:=.ref TI) rfl (eV (jh qI rfl ?_)));show wpAny _ A (Builtin.SmallTypes.ownedTupleIsFree (.ref z) >>= _) _ _ _;refine eV ?_; unfold Builtin.SmallTypes.ownedTupleIsFree;refine eV (iR qz rfl (x:=.none) rfl (fS ?_)); simp only[if_true];refine eV (wpAny_rule (eV (iR qz rfl (x:=.ref TO) rfl (eV (wpAny_setField_rec qz (by simp) λg1 z1 s1=>?_)))));replace z1:IsZip g1 z TI TO .ellipsis:=z1;refine eV ?_; simp only[List.zipIdx_cons,List.zipIdx_nil,List.forIn_cons,List.forIn_nil];refine eV (eV (wpAny_onRaise ?_)); show wpAny _ A (Builtin.SmallTypes.nextOf (.ref i1) >>= _) _ _ _;refine eV (MM (q1.ext s1.extBut ap.i1z) (m1.ext s1.extBut ap.l1z) hx λg2 n1 s2=>fS ?_);have O2:IsPair g2 TO a b:=s2.extBut _ _ ap.TOi1 (s1.extBut _ _ ap.TOz qO);refine eV (jh O2 rfl (eV (wpAny_updateSeq_pair O2 λg3 O3 s3=>?_)));replace O3:IsPair g3 TO x b:=O3;refine eV (wpAny_letGo (fS (eV (eV (wpAny_onRaise ?_))))); show wpAny _ A (Builtin.SmallTypes.nextOf (.ref i2) >>= _) _ _ _;refine eV (MM (((q2.ext s1.extBut ap.i2z).ext s2.extBut ap.i12.symm).ext s3.extBut ap.TOi2.symm) (((m2.ext s1.extBut ap.l2z).ext s2.extBut ap.l2i1).ext s3.extBut ap.l2TO) hy λg4 n2 s4=>fS ?_);have O4:IsPair g4 TO x b:=s4.extBut _ _ ap.TOi2 O3;refine eV (jh O4 rfl (eV (wpAny_updateSeq_pair O4 λg5 O5 s5=>?_)));replace O5:IsPair g5 TO x y:=O5;refine eV (wpAny_letGo (fS (fS (eV (jh O5 rfl (eV (wpAny_newTuple ?_)))))));have sz5:g5.objs.size=s.heap.objs.size:=by rw[s5.1,s4.1,s3.1,s2.1,s1.1]
 have z5:IsZip g5 z TI TO .ellipsis:=s5.extBut _ _ ap.TOz.symm (s4.extBut _ _ ap.i2z.symm (s3.extBut _ _ ap.TOz.symm (s2.extBut _ _ ap.i1z.symm z1)));have kp:∀c o,c≠z->c≠TO->c≠i1->c≠i2->s.heap.get? c=some o->g5.get? c=some o:=λc o c1 c2 c3 c4 e =>
  s5.extBut _ _ c2 (s4.extBut _ _ c4 (s3.extBut _ _ c2 (s2.extBut _ _ c3 (s1.extBut _ _ c1 e))))
 have N1:Bg t1 g5 i1 l1 (k1+1):=((n1.ext s3.extBut ap.TOi1.symm).ext s4.extBut ap.i12).ext s5.extBut ap.TOi1.symm;have N2:Bg t2 g5 i2 l2 (k2+1):=n2.ext s5.extBut ap.TOi2.symm;have ltz:z<g5.objs.size:=fJ z5;show wpAny _ A (Builtin.SmallTypes.ownedTupleHandOut (.ref z) (.ref g5.objs.size) >>= _) _ _ _;refine eV ?_; unfold Builtin.SmallTypes.ownedTupleHandOut;have z6:IsZip (g5.push { cls:=.type "tuple",data:=.seq #[x,y] }) z TI TO .ellipsis:=eY _ z5;refine eV (wpAny_setField_rec z6 (by simp) λg7 z7 s7=>?_);replace z7:IsZip g7 z TI TO (rawInt g5.objs.size):=z7;refine wpAny_setField_rec z7 (by simp) λg8 z8 s8=>?_
 replace z8:IsZip g8 z TI TO (rawInt g5.objs.size):=z8;have up:∀c o,c≠z->g5.get? c=some o->g8.get? c=some o:=λc o c1 e=>s8.extBut _ _ c1 (s7.extBut _ _ c1 (eY _ e))
 have T8:IsPair g8 g5.objs.size x y:=s8.extBut _ _ (ja ltz) (s7.extBut _ _ (ja ltz) (fO _ rfl));have sz8:g8.objs.size=g5.objs.size+1:=by rw[s8.1,s7.1,jd]
 rw[sz5] at z8 T8 sz8;refine fS ⟨_,rfl,?_⟩;show Q (.ref g5.objs.size) _;rw[sz5];exact hQ g8 z8 (up _ _ ap.TOz O5) (N1.at λo e=>up _ o ap.i1z e) (N2.at λo e=>up _ o ap.i2z e) T8 sz8 λc o c1 c2 c3 c4 e=>up c o c1 (kp c o c1 c2 c3 c4 e)
theorem X8 {t1 t2:Bool} {z TI TO i1 i2 l1 l2:Addr} {k1 k2:Nat} {xs ys:Array Value} {a b:Value} {Q:Fin->Shared->Prop} (hh:A.handled=none) (ap:ZipApart z TI TO i1 i2 l1 l2)
  (qz:IsZip s.heap z TI TO .none) (qI:IsPair s.heap TI (.ref i1) (.ref i2)) (qO:IsPair s.heap TO a b)
  (q1:Bg t1 s.heap i1 l1 k1) (q2:Bg t2 s.heap i2 l2 k2) (m1:Cy t1 s.heap l1 xs) (m2:Cy t2 s.heap l2 ys) (hend:xs[k1]?=none\/ys[k2]?=none)
  (hE:∀g e,(∀c o,c≠z->c≠TO->c≠i1->c≠i2->s.heap.get? c=some o->g.get? c=some o)->(∃o,g.get? e=some o/\o.cls=.type "StopIteration")->E (.ref e) { s with heap:=g }) :
  wpAny (model prog w) A (Builtin.«zip.__next__» ⟨[.ref z],[]⟩) Q E s:=by
 show wpAny _ A (field (.ref z) 2 >>= _) _ _ _;refine eV (iR qz rfl (x:=.bool false) rfl ?_); show wpAny _ A (field (.ref z) 3 >>= _) _ _ _;refine eV (iR qz rfl (x:=.ref TI) rfl (eV (jh qI rfl ?_)));show wpAny _ A (Builtin.SmallTypes.ownedTupleIsFree (.ref z) >>= _) _ _ _;refine eV ?_; unfold Builtin.SmallTypes.ownedTupleIsFree;refine eV (iR qz rfl (x:=.none) rfl (fS ?_)); simp only[if_true];refine eV (wpAny_rule (eV (iR qz rfl (x:=.ref TO) rfl (eV (wpAny_setField_rec qz (by simp) λg1 z1 s1=>?_)))));replace z1:IsZip g1 z TI TO .ellipsis:=z1;refine eV ?_; simp only[List.zipIdx_cons,List.zipIdx_nil,List.forIn_cons,List.forIn_nil];refine eV (eV (wpAny_onRaise ?_)); show wpAny _ A (Builtin.SmallTypes.nextOf (.ref i1) >>= _) _ _ _;cases hx:xs[k1]? with
 | none =>
  refine eV (QJ hh (q1.ext s1.extBut ap.i1z) (m1.ext s1.extBut ap.l1z) hx λg2 e s2 he=>?_);obtain⟨oe,w1,w2⟩:=he;have z2:IsZip g2 z TI TO .ellipsis:=s2 _ _ ap.i1z.symm z1;have ez:e≠z:=λx=>by subst x; rw[z2] at w1; cases w1; simp at w2
  exact wpAny_setField_rec z2 (by simp) λg3 _ s3=>hE g3 e (λc o c1 _ c3 _ x=>s3.extBut _ _ c1 (s2 _ _ c3 (s1.extBut _ _ c1 x))) ⟨oe,s3.extBut _ _ ez w1,w2⟩
 | some x =>
  have hy:ys[k2]?=none:=by rcases hend with h | h; rw[hx] at h; cases h; exact h
  refine eV (MM (q1.ext s1.extBut ap.i1z) (m1.ext s1.extBut ap.l1z) hx λg2 n1 s2=>fS ?_);have O2:IsPair g2 TO a b:=s2.extBut _ _ ap.TOi1 (s1.extBut _ _ ap.TOz qO);refine eV (jh O2 rfl (eV (wpAny_updateSeq_pair O2 λg3 O3 s3=>?_)));refine eV (wpAny_letGo (fS (eV (eV (wpAny_onRaise ?_))))); show wpAny _ A (Builtin.SmallTypes.nextOf (.ref i2) >>= _) _ _ _;refine eV (QJ hh (((q2.ext s1.extBut ap.i2z).ext s2.extBut ap.i12.symm).ext s3.extBut ap.TOi2.symm) (((m2.ext s1.extBut ap.l2z).ext s2.extBut ap.l2i1).ext s3.extBut ap.l2TO) hy λg4 e s4 he=>?_);obtain⟨oe,w1,w2⟩:=he;have z4:IsZip g4 z TI TO .ellipsis:=s4 _ _ ap.i2z.symm (s3.extBut _ _ ap.TOz.symm (s2.extBut _ _ ap.i1z.symm z1));have ez:e≠z:=λx=>by subst x; rw[z4] at w1; cases w1; simp at w2
  exact wpAny_setField_rec z4 (by simp) λg5 _ s5=>hE g5 e (λc o c1 c2 c3 c4 x=>s5.extBut _ _ c1 (s4 _ _ c4 (s3.extBut _ _ c2 (s2.extBut _ _ c3 (s1.extBut _ _ c1 x))))) ⟨oe,s5.extBut _ _ ez w1,w2⟩
theorem VX {t1 t2:Bool} {z TI TO i1 i2 l1 l2:Addr} {k1 k2:Nat} {xs ys:Array Value} {x y a b:Value} {Q:Option Value->Shared->Prop} (ap:ZipApart z TI TO i1 i2 l1 l2)
  (qz:IsZip s.heap z TI TO .none) (qI:IsPair s.heap TI (.ref i1) (.ref i2)) (qO:IsPair s.heap TO a b)
  (q1:Bg t1 s.heap i1 l1 k1) (q2:Bg t2 s.heap i2 l2 k2) (m1:Cy t1 s.heap l1 xs) (m2:Cy t2 s.heap l2 ys) (hx:xs[k1]?=some x) (hy:ys[k2]?=some y)
  (hQ:∀g,IsZip g z TI TO (rawInt s.heap.objs.size)->IsPair g TO x y->Bg t1 g i1 l1 (k1+1)->Bg t2 g i2 l2 (k2+1)->IsPair g s.heap.objs.size x y->g.objs.size=s.heap.objs.size+1 →
   (∀c o,c≠z->c≠TO->c≠i1->c≠i2->s.heap.get? c=some o->g.get? c=some o)->Q (some (.ref s.heap.objs.size)) { s with heap:=g }) :
  wpAny (model prog w) A (pyNext (.ref z)) Q E s:=by
 have ty:s.TypeIs (.ref z) "zip":=⟨_,qz,rfl⟩;unfold pyNext;exact eV (wpAny_attempt (wpAny_callSpecial?_slot (name:=Str.ofString "__next__") ty PySem.F.slot_zip_next (wpAny_call_entry PySem.F.slot_zip_next ty PySem.F.entry_zip_next
   (Wj ap qz qI qO q1 q2 m1 m2 hx hy λg a1 a2 a3 a4 a5 a6 a7=>fS (hQ g a1 a2 a3 a4 a5 a6 a7)) (PySem.F.args_zip_next_1 _))))
theorem Vg {t1 t2:Bool} {z TI TO i1 i2 l1 l2:Addr} {k1 k2:Nat} {xs ys:Array Value} {a b:Value} {Q:Option Value->Shared->Prop} (hh:A.handled=none) (ap:ZipApart z TI TO i1 i2 l1 l2)
  (qz:IsZip s.heap z TI TO .none) (qI:IsPair s.heap TI (.ref i1) (.ref i2)) (qO:IsPair s.heap TO a b)
  (q1:Bg t1 s.heap i1 l1 k1) (q2:Bg t2 s.heap i2 l2 k2) (m1:Cy t1 s.heap l1 xs) (m2:Cy t2 s.heap l2 ys) (hend:xs[k1]?=none\/ys[k2]?=none)
  (hQ:∀g,(∀c o,c≠z->c≠TO->c≠i1->c≠i2->s.heap.get? c=some o->g.get? c=some o)->Q none { s with heap:=g }):wpAny (model prog w) A (pyNext (.ref z)) Q E s:=by
 have ty:s.TypeIs (.ref z) "zip":=⟨_,qz,rfl⟩;unfold pyNext;refine eV (wpAny_attempt (wpAny_callSpecial?_slot (name:=Str.ofString "__next__") ty PySem.F.slot_zip_next (wpAny_call_entry PySem.F.slot_zip_next ty PySem.F.entry_zip_next (X8 hh ap qz qI qO q1 q2 m1 m2 hend λg e hk he=>?_) (PySem.F.args_zip_next_1 _))));obtain⟨o,w1,w2⟩:=he;exact eV (wpAny_isInstance (T:="StopIteration") (b:=true) ⟨o,w1,w2⟩ isSubtype_stop (fS (hQ _ hk)))
def Ei(t:Bool)(l:Addr):Obj:=if t then { cls:=.type "tuple_iterator",data:=.fields #[.ref l,.int 0 0] } else { cls:=.type "list_iterator",data:=.fields #[.ref l,.int 0 0] }
abbrev zk2(t1 t2:Bool)(h:Heap)(l1 l2:Addr):Heap:=(h.push (Ei t1 l1)).push (Ei t2 l2)
abbrev MH(t1 t2:Bool)(h:Heap)(l1 l2:Addr):Heap:=((zk2 t1 t2 h l1 l2).push { cls:=.type "tuple",data:=.seq #[.ref h.objs.size,.ref (h.push (Ei t1 l1)).objs.size] }).push { cls:=.type "tuple",data:=.seq #[.none,.none] }
abbrev II(t1 t2:Bool)(h:Heap)(l1 l2:Addr):Heap:=(MH t1 t2 h l1 l2).push { cls:=.type "zip",data:=.fields #[.none,.bool false,.bool false,.ref (zk2 t1 t2 h l1 l2).objs.size,.ref ((zk2 t1 t2 h l1 l2).push { cls:=.type "tuple",data:=.seq #[.ref h.objs.size,.ref (h.push (Ei t1 l1)).objs.size] }).objs.size] }
set_option maxHeartbeats 4000000 in
theorem V4(t1 t2:Bool)(l1 l2:Addr)(xs ys:Array Value):
  Meets (Builtin.«zip.__new__» ⟨[.type "zip",.ref l1,.ref l2],[]⟩) (λ_ R s=>Cy t1 s.heap l1 xs/\Cy t2 s.heap l2 ys/\R (.ok (.ret (.ref (MH t1 t2 s.heap l1 l2).objs.size))) { s with heap:=II t1 t2 s.heap l1 l2 }) :=
 .of_wp λprog w A R s h=>by
  obtain⟨hp,g,d,tk,os⟩:=s; obtain⟨m1,m2,h⟩:=h;have hsub:=sub_zip;cases t1 <;> cases t2
  ·have a1:Heap.IsList (Shared.heap ⟨hp,g,d,tk,os⟩) l1 xs:=m1;have a2:Heap.IsList (Shared.heap ⟨hp.push { cls:=.type "list_iterator",data:=.fields #[.ref l1,.int 0 0] },g,d,tk,os⟩) l2 ys:=Heap.IsList.push m2 _
   wp_walk using wpAny_pyIter_list a1,wpAny_pyIter_list a2
   exact⟨_,rfl,h⟩
  ·have a1:Heap.IsList (Shared.heap ⟨hp,g,d,tk,os⟩) l1 xs:=m1;have a2:Heap.IsTuple (Shared.heap ⟨hp.push { cls:=.type "list_iterator",data:=.fields #[.ref l1,.int 0 0] },g,d,tk,os⟩) l2 ys:=Heap.IsTuple.push m2 _
   wp_walk using wpAny_pyIter_list a1,i4 a2
   exact⟨_,rfl,h⟩
  ·have a1:Heap.IsTuple (Shared.heap ⟨hp,g,d,tk,os⟩) l1 xs:=m1;have a2:Heap.IsList (Shared.heap ⟨hp.push { cls:=.type "tuple_iterator",data:=.fields #[.ref l1,.int 0 0] },g,d,tk,os⟩) l2 ys:=Heap.IsList.push m2 _
   wp_walk using i4 a1,wpAny_pyIter_list a2
   exact⟨_,rfl,h⟩
  ·have a1:Heap.IsTuple (Shared.heap ⟨hp,g,d,tk,os⟩) l1 xs:=m1;have a2:Heap.IsTuple (Shared.heap ⟨hp.push { cls:=.type "tuple_iterator",data:=.fields #[.ref l1,.int 0 0] },g,d,tk,os⟩) l2 ys:=Heap.IsTuple.push m2 _
   wp_walk using i4 a1,i4 a2
   exact⟨_,rfl,h⟩
theorem WE {t1 t2:Bool} {l1 l2:Addr} {xs ys:Array Value} {Q:Value->Shared->Prop} (m1:Cy t1 s.heap l1 xs) (m2:Cy t2 s.heap l2 ys)
  (h:∀g,IsZip g (s.heap.objs.size+4) (s.heap.objs.size+2) (s.heap.objs.size+3) .none->IsPair g (s.heap.objs.size+2) (.ref s.heap.objs.size) (.ref (s.heap.objs.size+1)) →
   IsPair g (s.heap.objs.size+3) .none .none->Bg t1 g s.heap.objs.size l1 0->Bg t2 g (s.heap.objs.size+1) l2 0->g.objs.size=s.heap.objs.size+5 →
   (∀c o,s.heap.get? c=some o->g.get? c=some o)->Q (.ref (s.heap.objs.size+4)) { s with heap:=g }) :
  wpAny (model prog w) A (call (.type "zip") [.ref l1,.ref l2]) Q E s:=by
 refine callType_new PySem.F.called_zip (by decide) (PySem.F.typeCall_zip_2 _ _) (PySem.F.newCall_zip_2 _ _) (λobj=>PySem.F.args_object_init_3 obj _ _) PySem.F.entry_zip_new (V4 t1 t2 l1 l2 xs ys) ⟨m1,m2,?_⟩;have y1:(s.heap.push (Ei t1 l1)).objs.size=s.heap.objs.size+1:=jd ..;have y2:(zk2 t1 t2 s.heap l1 l2).objs.size=s.heap.objs.size+2:=by rw[jd,y1]
 have y3:((zk2 t1 t2 s.heap l1 l2).push { cls:=.type "tuple",data:=.seq #[.ref s.heap.objs.size,.ref (s.heap.push (Ei t1 l1)).objs.size] }).objs.size=s.heap.objs.size+3:=by rw[jd,y2]
 have y4:(MH t1 t2 s.heap l1 l2).objs.size=s.heap.objs.size+4:=by rw[jd,y3]
 have y5:(II t1 t2 s.heap l1 l2).objs.size=s.heap.objs.size+5:=by rw[jd,y4]
 have f1:∀(t:Bool) (l:Addr),(Ei t l).isFreed=false:=λt l=>by cases t <;> rfl
 have e5:(II t1 t2 s.heap l1 l2).get? (MH t1 t2 s.heap l1 l2).objs.size=some _:=fO _ rfl;have e4:(II t1 t2 s.heap l1 l2).get? ((zk2 t1 t2 s.heap l1 l2).push { cls:=.type "tuple",data:=.seq #[.ref s.heap.objs.size,.ref (s.heap.push (Ei t1 l1)).objs.size] }).objs.size=some _:=eY _ (fO _ rfl);have e3:(II t1 t2 s.heap l1 l2).get? (zk2 t1 t2 s.heap l1 l2).objs.size=some _:=eY _ (eY _ (fO _ rfl));have e2:(II t1 t2 s.heap l1 l2).get? (s.heap.push (Ei t1 l1)).objs.size=some (Ei t2 l2):=eY _ (eY _ (eY _ (fO _ (f1 _ _))));have e1:(II t1 t2 s.heap l1 l2).get? s.heap.objs.size=some (Ei t1 l1):=eY _ (eY _ (eY _ (eY _ (fO _ (f1 _ _)))));have iK:∀(t:Bool) (g:Heap) (c l:Addr),g.get? c=some (Ei t l)->Bg t g c l 0:=λt g c l e=>by cases t <;> exact⟨_,e,rfl,rfl⟩
 show _/\_;rw[y2,y3,y4] at e5;rw[y1,y2] at e3;rw[y3] at e4;rw[y1] at e2;rw[y4];exact⟨⟨_,e5,rfl⟩,h _ e5 e3 e4 (iK _ _ _ _ e1) (iK _ _ _ _ e2) y5 λc o q=>eY _ (eY _ (eY _ (eY _ (eY _ q))))⟩
def Bz(t:Bool)(K:PySem.W.Frag)(H:Hp)(a:Addr)(xs:List V):Prop:=if t then AJ K H a xs else AM K H a xs
theorem Cy.lt{t:Bool}{h:Heap}{a:Addr}{vs:Array Value}(x:Cy t h a vs):a<h.objs.size:=by
 cases t
 ·obtain⟨o,e,_⟩:=x;exact fJ e
 ·obtain⟨o,e,_⟩:=x;exact fJ e
theorem AI.JU{pins:List (Addr×Obj)}{σ:St}{H:Hp}{s:Shared}{t:Bool}{a:Addr}{xs:List V}(I:AI X pins σ H s)(h:Bz t X.K H a xs):∃its:List Value,Ag xs its/\Cy t s.heap a its.toArray/\xs.length<=sizeLine:=by
 cases t
 ·obtain⟨its,rv,p,z⟩:=I.list h;exact⟨its,rv,p.isList,z⟩
 ·obtain⟨its,rv,p,z⟩:=I.tuple h;exact⟨its,rv,p,z⟩
theorem AI.Rh{pins:List (Addr×Obj)}{σ:St}{H:Hp}{s:Shared}{t:Bool}{a:Addr}{xs ys:List V}(I:AI X pins σ H s)(h:Bz t X.K H a xs)(g:Bz t X.K H a ys):xs=ys:=by
 cases t
 ·exact I.list_inj h g
 ·exact I.QE h g
theorem Bz.l{K:PySem.W.Frag}{H:Hp}{a:Addr}{xs:List V}(h:H a=some (.AB xs)):Bz false K H a xs:=AM.of h
theorem Bz.t{K:PySem.W.Frag}{H:Hp}{a:Addr}{xs:List V}(h:H a=some (.AG xs)):Bz true K H a xs:=AJ.of h
def PF(K : PySem.W.Frag)(t1 t2 : Bool)(a b : Addr): It :=
  ⟨λi H => ∃xs ys x y, Bz t1 K H a xs /\ Bz t2 K H b ys /\ xs[i]? = some x /\ ys[i]? = some y,
   λi H v H' => ∃p x y, v = .ref p /\ H p = none /\ H' = AF H p (.AG [x, y]) /\ (∀xs, Bz t1 K H a xs → xs[i]? = some x) /\ ∀ys, Bz t2 K H b ys → ys[i]? = some y,
   λi H => ∃xs ys, Bz t1 K H a xs /\ Bz t2 K H b ys /\ (xs.length <= i \/ ys.length <= i)⟩
theorem Wz{t1 t2:Bool}{P:Program}{w:World}{K:PySem.W.Frag}{es:List PySem.Expr}{kk:Nat}{pos:Pos}{a b z TI TO i1 i2:Addr}(D:ZipApart z TI TO i1 i2 a b):
  GA P w K (.Tuple es kk pos) (PF K t1 t2 a b) [z,TI,TO,i1,i2] z (λi h=>IsZip h z TI TO .none/\IsPair h TI (.ref i1) (.ref i2)/\(∃u v,IsPair h TO u v)/\Bg t1 h i1 a i/\Bg t2 h i2 b i) where
 mem:=by simp
 obj:=λi h st c hc=>by
  obtain⟨h1,h2,⟨u,v,h3⟩,h4,h5⟩:=st;simp only[fE,gE,iO] at hc;rcases hc with rfl | rfl | rfl | rfl | rfl
  ·exact⟨_,h1,λv z=>by have z':Data.fields _=Data.cell v:=z; cases z'⟩
  ·exact⟨_,h2,λv z=>by have z':Data.seq _ _=Data.cell v:=z; cases z'⟩
  ·exact⟨_,h3,λv z=>by have z':Data.seq _ _=Data.cell v:=z; cases z'⟩
  ·exact h4.obj
  ·exact h5.obj
 keep:=λi h h' st k=>by
  obtain⟨h1,h2,⟨u,v,h3⟩,h4,h5⟩:=st;exact⟨k z (by simp) _ h1,k TI (by simp) _ h2,⟨u,v,k TO (by simp) _ h3⟩,h4.at λo e=>k i1 (by simp) o e,h5.at λo e=>k i2 (by simp) o e⟩
 item:=by
  intro X hP hw hK hc i pins s σ H E I hf st hg;subst hP hw hK;obtain⟨xs,ys,x,y,qa,qb,hx,hy⟩:=hg;obtain⟨its,rv,pa,_⟩:=I.JU qa;obtain⟨jts,rw',pb,_⟩:=I.JU qb;obtain⟨ux,hux,rx⟩:=rv.get hx;obtain⟨uy,huy,ry⟩:=rw'.get hy;obtain⟨h1,h2,⟨u,v,h3⟩,h4,h5⟩:=st;refine VX D h1 h2 h3 h4 h5 pa pb (x:=ux) (y:=uy) (by simpa using hux) (by simpa using huy) λh' a1 a2 a3 a4 a5 a6 k=>?_
  refine⟨_,rfl,wpAny_letOwnedTupleGo_zip a1 λh'' b1 sb=>?_⟩;have hsz:s.heap.objs.size≠z:=ja (fJ h1);have nfp:∀c∈[z,TI,TO,i1,i2],s.heap.objs.size≠c:=λc hc=>by
   have:∃o,s.heap.get? c=some o:=by
    obtain⟨o4,g4,_⟩:=h4.obj;obtain⟨o5,g5,_⟩:=h5.obj;simp only[fE,gE,iO] at hc;rcases hc with rfl | rfl | rfl | rfl | rfl
    ·exact⟨_,h1⟩
    ·exact⟨_,h2⟩
    ·exact⟨_,h3⟩
    ·exact⟨_,g4⟩
    ·exact⟨_,g5⟩
   obtain⟨o,e⟩:=this;exact ja (fJ e)
  have hn:H s.heap.objs.size=none:=I.hok.BW (eU _);have kk':∀c o,c∉[z,TI,TO,i1,i2]->s.heap.get? c=some o->h''.get? c=some o:=λc o hc e =>
   (sb.2 c λq=>hc (by simp[q])).trans (k c o (λq=>hc (by simp[q])) (λq=>hc (by simp[q])) (λq=>hc (by simp[q])) (λq=>hc (by simp[q])) e)
  have tO:h''.get? s.heap.objs.size=some { cls:=.type "tuple",data:=.seq #[ux,uy] }:=(sb.2 _ hsz).trans a5;have nt:∀c u,H c=some u->c∉[z,TI,TO,i1,i2]:=λc u e hc=>by
   have:=(hf c hc).1
   rw[e] at this;cases this
  have tupOk:BY X.prog X.w (AF H s.heap.objs.size (.AG [x,y])) h'' s.heap.objs.size (.AG [x,y]) :=
   ⟨by exact Bh,[ux,uy],.cons rx (.cons ry .nil),⟨_,tO,rfl,_,rfl⟩,_,tO,rfl⟩
  have I1:AI X pins σ (AF H s.heap.objs.size (.AG [x,y])) { s with heap:=h'' }:=by
   refine I.step (g':=s.gens) (d':=s.drawn) (t':=s.toks) (ch:=[z,TI,TO,i1,i2]) (λc hc=>⟨(hf c hc).2.2.2.1,(hf c hc).2.1,(hf c hc).2.2.2.2.1,(hf c hc).2.2.2.2.2⟩) (λc o _ _ hc e _=>kk' c o hc e) (λc o _ _ hc e _=>⟨o.slots,kk' c o hc e⟩)
    (λc o _ e n=>by rw[Ad (gS (fJ e))]; exact n) (λc o hc e=>⟨o,kk' c o hc e⟩) (λc vs e=>by rw[Ad (BL e hn)]; exact e) (λc o vs e=>by rw[Ad (BL e hn)]; exact e)
    (λc ps e=>⟨#[],by rw[Ad (BL e hn),e]; simp⟩) (λm hm=>?_) (λc o e=>?_) I.bare
   ·obtain⟨o,es',ep,ho,r⟩:=hm;exact⟨o,es',ep,kk' _ o (λq=>(hf _ q).2.1 rfl) ho,r⟩
   ·by_cases hcs:c=s.heap.objs.size
    ·subst hcs;rw[AS] at e;cases e;exact tupOk
    ·rw[Ad hcs] at e;refine(I.hok c o e).FV (λd v hd q=>kk' d v ?_ q) (λd q=>by rw[Ad (BL q hn)]; exact q) λd vs q=>by rw[Ad (BL q hn)]; exact q
     rcases hd with hd | hd
     ·rw[hd]; exact nt c o e
     ·exact nt d _ hd
  have g4:Bg t1 h'' i1 a (i+1):=a3.at λo e=>(sb.2 _ D.i1z).trans e
  have g5:Bg t2 h'' i2 b (i+1):=a4.at λo e=>(sb.2 _ D.i2z).trans e
  have g2:IsPair h'' TI (.ref i1) (.ref i2):=(sb.2 _ D.TIz).trans (k _ _ D.TIz D.TITO D.TIi1 D.TIi2 h2);have g3:IsPair h'' TO ux uy:=(sb.2 _ D.TOz).trans a2;exact⟨.ref s.heap.objs.size,_,I1,rfl,⟨_,x,y,rfl,hn,rfl,λxs' q=>by rw[I.Rh q qa]; exact hx,λys' q=>by rw[I.Rh q qb]; exact hy⟩,⟨b1,g2,⟨_,_,g3⟩,g4,g5⟩,λc hc=>by rw[Ad (iB (nfp c hc))]; exact(hf c hc).1⟩
 done:=by
  intro X hP hw hK hc i pins s σ H E I hf st hg;subst hP hw hK;obtain⟨xs,ys,qa,qb,hl⟩:=hg;obtain⟨its,rv,pa,_⟩:=I.JU qa;obtain⟨jts,rw',pb,_⟩:=I.JU qb;obtain⟨h1,h2,⟨u,v,h3⟩,h4,h5⟩:=st;have l1:=rv.length;have l2:=rw'.length;have hend:its.toArray[i]?=none\/jts.toArray[i]?=none:=by
   rcases hl with hl | hl
   ·exact .inl (by simp; omega)
   ·exact .inr (by simp; omega)
  refine Vg (I.ok.hd hc) D h1 h2 h3 h4 h5 pa pb hend λh' k=>⟨rfl,?_⟩
  have kk':∀c o,c∉[z,TI,TO,i1,i2]->s.heap.get? c=some o->h'.get? c=some o:=λc o hc e =>
   k c o (λq=>hc (by simp[q])) (λq=>hc (by simp[q])) (λq=>hc (by simp[q])) (λq=>hc (by simp[q])) e
  have nt:∀c u,H c=some u->c∉[z,TI,TO,i1,i2]:=λc u e hc=>by
   have:=(hf c hc).1
   rw[e] at this;cases this
  refine I.step (g':=s.gens) (d':=s.drawn) (t':=s.toks) (ch:=[z,TI,TO,i1,i2]) (λc hc=>⟨(hf c hc).2.2.2.1,(hf c hc).2.1,(hf c hc).2.2.2.2.1,(hf c hc).2.2.2.2.2⟩) (λc o _ _ hc e _=>kk' c o hc e) (λc o _ _ hc e _=>⟨o.slots,kk' c o hc e⟩)
   (λ_ _ _ _ n=>n) (λc o hc e=>⟨o,kk' c o hc e⟩) (λ_ _ e=>e) (λ_ _ _ e=>e) (λc ps e=>⟨#[],by rw[e]; simp⟩) (λm hm=>?_) (λc o e=>?_) I.bare
  ·obtain⟨o,es',ep,ho,r⟩:=hm;exact⟨o,es',ep,kk' _ o (λq=>(hf _ q).2.1 rfl) ho,r⟩
  ·refine(I.hok c o e).FV (λd v hd q=>kk' d v ?_ q) (λ_ q=>q) λ_ _ q=>q
   rcases hd with hd | hd
   ·rw[hd]; exact nt c o e
   ·exact nt d _ hd
 self:=λ_ _ _ _ _ st h=>wpAny_pyIter_zip st.1 h
def ak(K:PySem.W.Frag)(t1 t2:Bool)(ta:TA):TI:=λσ H R=>ta σ H λvs H1=>∃a b,vs=[.ref a,.ref b]/\(∃xs,Bz t1 K H1 a xs)/\(∃ys,Bz t2 K H1 b ys)/\R (PF K t1 t2 a b) H1
theorem Mw{t1 t2:Bool}{es:List PySem.Expr}{kk:Nat}{tpos:Pos}{a b:PySem.Expr}{ta:TA}{p pos:Pos}(hg:Gl X "zip")(hm:X.mg "zip" = none)(ha:PA X [a,b] ta)(hs:starEach [a,b] X.env=(false,eval a X.env) :: starEach [b] X.env:=by rfl)(hs2:(backTo pos (starEach [b] X.env)).any (·.1)=false:=by rfl):
  PI X (.Tuple es kk tpos) (.Call (.Name "zip" p) [a,b] [] pos) (ak X.K t1 t2 ta):=by
 intro pins s σ H R I h;refine Call_ (DX I hg hm PyProof.Rows.boot_zip (gy (Ai (ha pos pins s σ H _ I h) λus s1 ⟨vs,H1,I1,r1,q1⟩=>?_) hs hs2));obtain⟨la,lb,e,⟨xs,qa⟩,⟨ys,qb⟩,q⟩:=q1;subst e;obtain⟨u1,u2,rfl,ra,rb⟩:=Lv r1;cases ra;cases rb;obtain⟨its,rv,pa,_⟩:=I1.JU qa;obtain⟨jts,rw',pb,_⟩:=I1.JU qb;have lta:la<s1.heap.objs.size:=by
  exact pa.lt
 have ltb:lb<s1.heap.objs.size:=by
  exact pb.lt
 refine WE pa pb λh' z1 z2 z3 z4 z5 zs zk=>?_
 refine wpAny_pyIter_zip z1 ?_;have I2:AI X pins σ H1 { s1 with heap:=h' }:=I1.Bn (t':=s1.toks) zk;have D:ZipApart (s1.heap.objs.size+4) (s1.heap.objs.size+2) (s1.heap.objs.size+3) s1.heap.objs.size (s1.heap.objs.size+1) la lb:=by
  have la':@LT.lt Nat _ la s1.heap.objs.size:=lta;have lb':@LT.lt Nat _ lb s1.heap.objs.size:=ltb;constructor <;> (show @Ne Nat _ _; omega)
 refine⟨s1.heap.objs.size+4,_,_,_,H1,rfl,I2,Wz D,⟨z1,z2,⟨_,_,z3⟩,z4,z5⟩,λc hc=>?_,q⟩;have hge:s1.heap.objs.size<=c:=by
  simp only[fE,gE,iO] at hc;rcases hc with rfl | rfl | rfl | rfl | rfl <;> omega
 have f:=I1.FU (H':=H1) hge (I1.hok.BW hge);exact f
theorem aM:bootBuiltins "sum" = some (.builtin "sum"):=by decide +kernel
theorem W6(hc:X.CS=true):DM X (.builtin "sum") (λxs H Q=>∃(p:Addr) (ns:List Int),xs=[.ref p]/\H p=some (.AB (ns.map V.int))/\Q (.int ns.sum) H):=by
 intro pins s σ H xs us Q I r h;obtain⟨p,ns,rfl,hp,q⟩:=h;obtain⟨u,rfl,r1⟩:=r.Af;cases r1;obtain⟨its,rv,pl,hz⟩:=I.list (AM.of (K:=X.K) hp);have hi:IntsAre its ns:=P4 rv;obtain⟨ys,hx⟩:=hi.allInts.items;have hl':s.heap.IsList p (intItems ys):=hx ▸ pl.isList;refine sum_intListG (I.ok.hd hc) hl' λh' tk t' hk=>?_
 have e1:ns=ys.toList.map (·.1):=by
  rw[<-nums_intItems,<-hx];exact(show numsOf its.toArray.toList=ns from hi.numsOf).symm
 have e2:preSum (numAt ys) ys.size=ns.sum:=by rw[preSum_eq,fH (by simp),e1]
 rw[e2];exact⟨.int ns.sum,H,I.Bn hk,⟨t',rfl⟩,q⟩
def bH(ta:TA):TI:=λσ H R=>ta σ H λvs H1=>∃n:Nat,vs=[.int ((n:Int)-1),.int (-1),.int (-1)]/\n<=1000/\R (Ke ((n:Int)-1) (-1) n) H1
theorem SW(n:Nat):Builtin.Range.rangeSize ((n:Int)-1) (-1) (-1)=n:=by
 unfold Builtin.Range.rangeSize;simp only[show ¬((-1:Int) > 0) by decide,if_false];rw[show -(-1:Int)=1 by decide,Int.ediv_one];split <;> omega
theorem Zf{n:Nat}(h:n<=1000):Builtin.Range.small ((n:Int)-1) (-1) (-1)=true:=by
 unfold Builtin.Range.small;rw[SW];simp only[Builtin.Range.rangeFitsLong,jc,Bool.or_eq_true,decide_eq_true_eq,beq_iff_eq];refine⟨⟨⟨⟨⟨?_,?_⟩,⟨?_,?_⟩⟩,⟨?_,?_⟩⟩,⟨?_,?_⟩⟩,.inr ?_⟩ <;> first | omega | decide
theorem WN {tg:PySem.Expr} {a b c:PySem.Expr} {ta:TA} {p pos:Pos} (hg:Gl X "range") (hm:X.mg "range" = none) (ha:PA X [a,b,c] ta)
  (hs:starEach [a,b,c] X.env=(false,eval a X.env) :: starEach [b,c] X.env:=by rfl) (hs2:(backTo pos (starEach [b,c] X.env)).any (·.1)=false:=by rfl):PI X tg (.Call (.Name "range" p) [a,b,c] [] pos) (bH ta):=by
 intro pins s σ H R I h;refine Call_ (DX I hg hm boot_range (gy (Ai (ha pos pins s σ H _ I h) λus s1 ⟨vs,H1,I1,r1,q1⟩=>?_) hs hs2));obtain⟨n,e,hn,q⟩:=q1;subst e;cases r1 with
 | cons r rr =>
  cases rr with
  | cons r' rr =>
   cases rr with
   | cons r'' rr =>
    cases rr;obtain⟨t,rfl⟩:=r;obtain⟨t',rfl⟩:=r';obtain⟨t'',rfl⟩:=r'';refine call_range_3 (by omega) ?_ (.inl (PyProof.noPylong_small (by omega)));refine wpAny_pyIter_range (IsRange.new ..) (Zf hn) ?_;have I2:AI X pins σ H1 { s1 with heap:=s1.heap.push { cls:=.type "range",data:=.fields #[.int ((n:Int)-1) t,.int (-1) t',.int (-1) t''] } }:=I1.Bn (t':=s1.toks) λb o e=>eY _ e
    refine⟨_,[(s1.heap.push { cls:=.type "range",data:=.fields #[.int ((n:Int)-1) t,.int (-1) t',.int (-1) t''] }).objs.size],_,_,H1,rfl,I2.Bn (t':=s1.toks) λb o e=>eY _ e,Wl _ ((n:Int)-1) (-1) n,?_,λb hb=>?_,q⟩
    ·have e1:((n:Int)-1)+((0:Nat):Int)*(-1)=(n:Int)-1:=by simp
     have e2:((n:Nat):Int)-((0:Nat):Int)=Builtin.Range.rangeSize ((n:Int)-1) (-1) (-1):=by rw[SW]; simp
     show IsRangeIter _ _ (((n:Int)-1)+((0:Nat):Int)*(-1)) (((n:Nat):Int)-((0:Nat):Int)) (-1);rw[e1,e2];exact fO _ rfl
    ·have e:b=(s1.heap.push { cls:=.type "range",data:=.fields #[.int ((n:Int)-1) t,.int (-1) t',.int (-1) t''] }).objs.size:=by simpa using hb
     subst e;exact I2.FU (eU _) (I2.hok.BW (eU _))
end
end L2
namespace L2
open PySem PySem.Spec PyProof.Rows PySem.W
section
variable {prog:Program} {w:World} {A:Around} {E:Value->Shared->Prop} {K:Frag} {h:Heap} {g:Array GenState} {d:Drawn} {t:Nat} {os:OsState} {a C:Addr} {o:Obj}
end
section
variable {X:Cx}
end
end L2
namespace My
open PySem L2
def Ba(H:Hp)(a:Addr):Hp:=λb=>if b=a then none else H b
theorem HP(H:Hp)(a:Addr):Ba H a a=none:=ff rfl
theorem HY{H:Hp}{a b:Addr}(h:b≠a):Ba H a b=H b:=eZ h
theorem Dw(H:Hp)(a:Addr):AR (Ba H a) H:=λb o e=>by
 by_cases h:b=a
 ·subst h; rw[HP] at e; cases e
 ·rw[HY h] at e; exact e
theorem EX{H H':Hp}(a:Addr)(s:AR H H'):AR (Ba H a) (Ba H' a):=λb o e=>by
 by_cases h:b=a
 ·subst h; rw[HP] at e; cases e
 ·rw[HY h] at e ⊢; exact s _ _ e
theorem LM(H:Hp)(a:Addr)(o:HO):AR (Ba H a) (AF H a o):=λb u e=>by
 by_cases h:b=a
 ·subst h; rw[HP] at e; cases e
 ·rw[HY h] at e; rw[Ad h]; exact e
theorem SO(H:Hp)(a:Addr)(o:HO):Ba (AF H a o) a=Ba H a:=by
 funext b
 by_cases h:b=a
 ·subst h; rw[HP,HP]
 ·rw[HY h,HY h,Ad h]
theorem Yx{H:Hp}{a:Addr}(h:H a=none):Ba H a=H:=by
 funext b
 by_cases z:b=a
 ·subst z; rw[HP,h]
 ·exact HY z
theorem Gf{H:Hp}{a b:Addr}{o:HO}(e:H b=some o)(h:b≠a):Ba H a b=some o:=by rw[HY h]; exact e
section
variable {α:Type} {R:Hp->Addr->α->Prop}
def At(R:Hp->Addr->α->Prop)(H:Hp)(bs:List Addr)(xs:List α):Prop:=bs.length=xs.length/\∀(i:Nat) (b:Addr) (x:α),bs[i]?=some b->xs[i]?=some x->R H b x
def Mo(R:Hp->Addr->α->Prop):Prop:=∀{H H':Hp} {b:Addr} {x:α},AR H H'->R H b x->R H' b x
theorem At.nil{H:Hp}:At R H [] []:=⟨rfl,λi b x e=>by simp at e⟩
theorem At.keep{H H':Hp}{bs:List Addr}{xs:List α}(h:At R H bs xs)(m:Mo R)(s:AR H H'):At R H' bs xs:=⟨h.1,λi b x e1 e2=>m s (h.2 i b x e1 e2)⟩
theorem At.snoc{H:Hp}{bs:List Addr}{xs:List α}{b:Addr}{x:α}(h:At R H bs xs)(r:R H b x):At R H (bs++[b]) (xs++[x]):=by
 refine⟨by simp[h.1],λi c y e1 e2=>?_⟩;have hl:=h.1;rcases gc i bs.length with z | z
 ·rw[fN z] at e1;rw[fN (by omega)] at e2;exact h.2 i c y e1 e2
 ·rw[fu z] at e1;rw[fu (by omega)] at e2;rw[hl] at e1;cases hi:i-xs.length with
  | zero=>rw[hi] at e1 e2; cases e1; cases e2; exact r
  | succ k=>rw[hi] at e1; simp at e1
theorem At.Pc{H:Hp}{bs cs:List Addr}{xs ys:List α}(h:At R H bs xs)(g:At R H cs ys):At R H (bs++cs) (xs++ys):=by
 refine⟨by simp[h.1,g.1],λi c y e1 e2=>?_⟩;have hl:=h.1;rcases gc i bs.length with z | z
 ·rw[fN z] at e1;rw[fN (by omega)] at e2;exact h.2 i c y e1 e2
 ·rw[fu z] at e1;rw[fu (by omega)] at e2;rw[hl] at e1;exact g.2 _ c y e1 e2
theorem At.take{H:Hp}{bs:List Addr}{xs:List α}(h:At R H bs xs)(k:Nat):At R H (bs.take k) (xs.take k):=by
 refine⟨by simp[h.1],λi c y e1 e2=>?_⟩;rw[List.getElem?_take] at e1 e2;split at e1
 ·rename_i hk; rw[ff hk] at e2; exact h.2 i c y e1 e2
 ·cases e1
theorem At.drop{H:Hp}{bs:List Addr}{xs:List α}(h:At R H bs xs)(k:Nat):At R H (bs.drop k) (xs.drop k):=by
 refine⟨by simp[h.1],λi c y e1 e2=>?_⟩;rw[je] at e1 e2;exact h.2 _ c y e1 e2
theorem At.set{H:Hp}{bs:List Addr}{xs:List α}{b:Addr}{x:α}(h:At R H bs xs)(k:Nat)(r:R H b x):At R H (bs.set k b) (xs.set k x):=by
 refine⟨by simp[h.1],λi c y e1 e2=>?_⟩;rw[List.getElem?_set] at e1 e2;by_cases hk:k=i
 ·subst hk;have hl:=h.1;by_cases hb:k<bs.length
  ·rw[ff rfl,ff hb] at e1;rw[ff rfl,ff (by omega)] at e2;cases e1; cases e2; exact r
  ·rw[ff rfl,eZ hb] at e1; cases e1
 ·rw[eZ hk] at e1 e2;exact h.2 _ c y e1 e2
theorem At.get{H:Hp}{bs:List Addr}{xs:List α}{i:Nat}{x:α}(h:At R H bs xs)(e:xs[i]?=some x):∃b,bs[i]?=some b/\R H b x:=by
 have hi:i<bs.length:=by rw[h.1]; exact(eu.mp e).1
 exact⟨bs[i],eh hi,h.2 i _ x (eh hi) e⟩
theorem At.ref{H:Hp}{bs:List Addr}{xs:List α}{i:Nat}{v:V}(h:At R H bs xs)(e:(bs.map V.ref)[i]?=some v):∃b x,v=.ref b/\bs[i]?=some b/\xs[i]?=some x/\R H b x:=by
 rw[fg] at e;cases q:bs[i]? with
 | none=>rw[q] at e; cases e
 | some b =>
  rw[q] at e;have hi:i<xs.length:=by rw[<-h.1]; exact(eu.mp q).1
  exact⟨b,xs[i],(fC e).symm,rfl,eh hi,h.2 i b _ q (eh hi)⟩
theorem Be{bs:List Addr}{i:Nat}{b:Addr}(h:bs[i]?=some b):(bs.map V.ref)[i]?=some (.ref b):=by rw[fg,h]; rfl
def Az(R:Hp->Addr->α->Prop)(H:Hp)(b:Addr)(xs:List α):Prop:=∃bs:List Addr,H b=some (.AG (bs.map V.ref))/\At R H bs xs
def Ed(R:Hp->Addr->α->Prop)(H:Hp)(b:Addr)(xs:List α):Prop:=∃bs:List Addr,H b=some (.AB (bs.map V.ref))/\At R H bs xs
theorem FG(m:Mo R):Mo (Az R):=λs ⟨bs,e,h⟩=>⟨bs,s _ _ e,h.keep m s⟩
theorem Ld(m:Mo R):Mo (Ed R):=λs ⟨bs,e,h⟩=>⟨bs,s _ _ e,h.keep m s⟩
end
def AO(H:Hp)(b:Addr)(q:Rat):Prop:=H b=some (.AG [.int q.num,.int q.den])
def Bv(H:Hp)(b:Addr)(ns:List Int):Prop:=H b=some (.AB (ns.map V.int))
theorem AZ:Mo AO:=λs h=>s _ _ h
theorem EA:Mo Bv:=λs h=>s _ _ h
theorem AO.Ba{H:Hp}{a b:Addr}{q:Rat}{ys:List V}(h:AO H b q)(e:H a=some (.AB ys)):AO (Ba H a) b q:=Gf h λz=>by rw[z] at h; unfold AO at h; rw[e] at h; cases h
theorem LZ{H:Hp}{a:Addr}{ys:List V}(e:H a=some (.AB ys)){bs:List Addr}{qs:List Rat}(h:At AO H bs qs):At AO (Ba H a) bs qs:=⟨h.1,λi b x e1 e2=>(h.2 i b x e1 e2).Ba e⟩
structure JX(J:It)(H1:Hp)(n:Nat)(f:Nat->Hp->V->Hp->Prop):Prop where
 go:∀i H2,i<n->AR H1 H2->J.go i H2
 yl:∀i H2 x H3,i<n->AR H1 H2->J.D6 i H2 x H3->f i H2 x H3
 st:∀H2,AR H1 H2->J.stop n H2
section
variable {K:PySem.W.Frag}
theorem HR{H:Hp}{a:Addr}{xs:List V}(h:H a=some (.AG xs)):JX (JV K a) H xs.length (λi H2 x H3=>H3=H2/\xs[i]?=some x) :=
 ⟨λi H2 hi s=>⟨xs,xs[i],AJ.of (s _ _ h),eh hi⟩,λi H2 x H3 _ s y=>⟨y.1,y.2 _ (AJ.of (s _ _ h))⟩,λH2 s=>⟨xs,AJ.of (s _ _ h),eU _⟩⟩
theorem Fl{H:Hp}{a:Addr}{xs:List V}(h:H a=some (.AB xs)):JX (Ja K a) H xs.length (λi H2 x H3=>H3=H2/\xs[i]?=some x) :=
 ⟨λi H2 hi s=>⟨xs,xs[i],AM.of (s _ _ h),eh hi⟩,λi H2 x H3 _ s y=>⟨y.1,y.2 _ (AM.of (s _ _ h))⟩,λH2 s=>⟨xs,AM.of (s _ _ h),eU _⟩⟩
theorem MU{H:Hp}{lo:Int}{n:Nat}:JX (E3 lo n) H n (λi H2 x H3=>H3=H2/\x=.int (lo+i)):=⟨λ_ _ hi _=>hi,λ_ _ _ _ _ _ y=>y,λ_ _=>eU _⟩
theorem Mx{H:Hp}{a b:Addr}{t1 t2:Bool}{xs ys:List V}(h1:∀H2,AR H H2->Bz t1 K H2 a xs)(h2:∀H2,AR H H2->Bz t2 K H2 b ys)(hl:xs.length=ys.length):
  JX (PF K t1 t2 a b) H xs.length (λi H2 x H3=>∃p u v,x=.ref p/\H2 p=none/\H3=AF H2 p (.AG [u,v])/\xs[i]?=some u/\ys[i]?=some v) :=
 ⟨λi H2 hi s=>⟨xs,ys,xs[i],ys[i],h1 _ s,h2 _ s,eh hi,eh (by omega)⟩,λi H2 x H3 _ s y=>by
  obtain⟨p,u,v,e1,e2,e3,e4,e5⟩:=y;exact⟨p,u,v,e1,e2,e3,e4 _ (h1 _ s),e5 _ (h2 _ s)⟩,λH2 s=>⟨xs,ys,h1 _ s,h2 _ s,.inl (eU _)⟩⟩
theorem CN {J:It} {n:Nat} {H1:Hp} {f:Nat->Hp->V->Hp->Prop} {acc:Addr} {σ0:St} {g:TG} {te:TE} {G:Hp->Prop} (r:JX J H1 n f) (hn:n<=1000) (hacc:H1 acc=none) (Iv:Nat->List V->St->Hp->Prop) (h0:Iv 0 [] σ0 H1)
  (hs:∀(i:Nat) (ys:List V) (σ:St) (H2:Hp) (x:V) (H3:Hp),i<n->AR H1 H2->H2 acc=some (.AB ys)->Iv i ys σ (Ba H2 acc)->f i H2 x H3->∀C:St->VK,(∀(σ4:St) (v:V) (H5:Hp),AR H2 H5->Iv (i+1) (ys++[v]) σ4 (Ba H5 acc)->C σ4 v H5) →
   g x σ H3 λσ4 H4=>te σ4 H4 (C σ4))
  (fin:∀(ys:List V) (σ:St) (H2:Hp),AR H1 H2->H2 acc=some (.AB ys)->ys.length=n->Iv n ys σ (Ba H2 acc)->G H2) :
  ∃W:Nat->Nat->List V->St->Hp->Prop,(∃m,W 0 m [] σ0 (AF H1 acc (.AB [])))/\∀i m ys σc H2,W i m ys σc H2 →
   (J.stop i H2/\G H2)\/(J.go i H2/\∀x H3,J.D6 i H2 x H3->g x σc H3 λσ4 H4=>te σ4 H4 λv H5=>H5 acc=some (.AB ys)/\ys.length<sizeLine/\∃m',m' < m/\W (i+1) m' (ys++[v]) σ4 (AF H5 acc (.AB (ys++[v])))):=by
 refine⟨λi m ys σ H2=>m=n-i/\i<=n/\AR H1 H2/\H2 acc=some (.AB ys)/\ys.length=i/\Iv i ys σ (Ba H2 acc),⟨n,rfl,gP _,?_,AS,rfl,?_⟩,?_⟩
 ·intro b o e; rw[Ad (BL e hacc)]; exact e
 ·rw[SO,Yx hacc]; exact h0
 ·rintro i m ys σc H2 ⟨rfl,hi,sm,ha,hl,iv⟩;rcases gc i n with hlt | hge
  ·refine .inr ⟨r.go i H2 hlt sm,λx H3 yl=>?_⟩;refine hs i ys σc H2 x H3 hlt sm ha iv (r.yl i H2 x H3 hlt sm yl) (λσ4 v H5=>H5 acc=some (.AB ys)/\ys.length<sizeLine/\∃m',m' < n-i/\(m'=n-(i+1)/\i+1<=n/\AR H1 (AF H5 acc (.AB (ys++[v])))/\(AF H5 acc (.AB (ys++[v]))) acc=some (.AB (ys++[v]))/\(ys++[v]).length=i+1/\Iv (i+1) (ys++[v]) σ4 (Ba (AF H5 acc (.AB (ys++[v]))) acc))) ?_;intro σ4 v H5 s5 iv5;refine⟨s5 _ _ ha,by rw[ji]; omega,n-(i+1),by omega,rfl,hlt,?_,AS,by simp[hl],?_⟩
   ·intro b o e; rw[Ad (BL e hacc)]; exact s5 _ _ (sm _ _ e)
   ·rw[SO]; exact iv5
  ·obtain rfl:i=n:=by omega
   exact .inl ⟨r.st H2 sm,fin ys σc H2 sm ha hl iv⟩
end
end My
namespace L2
open PySem PySem.Spec PyProof.Rows
structure AU(P:Program)(w:World)(K:PySem.W.Frag)(mg:Str->Option Value)(base:Heap)(k:Nat)(x:Str)(ps:List Str)(sp:Sp):Prop where
 ex:∃f fd,An P w K mg base Ay k f fd ps sp/\EC K fd ps []/\KP K f/\mg x=some (.ref f)
theorem Ae{X:Cx}{k:Nat}{x:Str}{ps:List Str}{sp:Sp}{e:Expr}{es:List Expr}{t:TA}{p pos:Pos}(c:AU X.prog X.w X.K X.mg X.base k x ps sp)(hr:CQ k X.A)(ha:PA X (e :: es) t)(hg:Gl X x:=by rfl)(hdb:(x == ("__debug__":Str))=false:=by decide)(he:starEach (e :: es) X.env=(false,eval e X.env) :: starEach es X.env:=by rfl)(hpl:(backTo pos (starEach es X.env)).any (·.1)=false:=by rfl):
  PE X (.Call (.Name x p) (e :: es) [] pos) (D1 sp [] E0 t):=by
 obtain⟨f,fd,F,b,hk,hm⟩:=c.ex;exact ZG F hr hg hm hk b .nil ba ha hdb he hpl
theorem BC{N P:List Str}{sc:Scope}(h1:sc.kind=.function:=by rfl)(h2:sc.isCoroutine=false:=by rfl)(h3:sc.isGenerator=false:=by rfl)(h4:N.Nodup:=by decide +kernel)(h5:N.take P.length=P:=by rfl)(h6:∀x∈P,sc.names.lookup x=some .local\/sc.names.lookup x=some .cell:=by decide +kernel)(h7:∀y∈sc.names,y.2≠.free:=by decide +kernel):A3 N P sc:=⟨h1,h2,h3,h4,h5,h6,h7⟩
theorem Ar.BD {P:Program} {w:World} {K:PySem.W.Frag} {mg:Str->Option Value} {base:Heap} {x qual:Str} {st:Stmt} {f:Addr} {fd:FuncData} {N ps:List Str} {k:Nat} {sp:Sp} (F:Ar K x qual st f fd) (S:A3 N ps (Ao st))
  (hbody:∀(cdv:Value) (A:Around) (outer:List Env) (s:Shared) (H:Hp) (vs:List V) (Q:VK) (E:XK),CQ k (A.deeper (envOfC qual (Ao st) s.heap.objs.size f cdv))->sp vs H Q E →
   ∃t,CW (ID Ay P w K mg base N qual (Ao st) f cdv A outer s H E).GK (EY st) t/\t { nx:=λ_ H'=>Q .BA H',rt:=Q } (Ft N vs) H) (len:∀vs H Q E,sp vs H Q E->vs.length=ps.length:=by (rintro vs H Q E ⟨⟩; subst_vars; rfl)):An P w K mg base Ay (k+1) f fd ps sp:=F.ok S len hbody
theorem nw{H:Hp}{p:Addr}(h:H p=none)(o:HO):∃H',AF H p o=H'/\AR H H'/\H' p=some o:=⟨_,rfl,λb u q=>by rw[Ad (BL q h)]; exact q,AS⟩
end L2
namespace My
open PySem L2
theorem HG{H:Hp}{p:Addr}(h:H p=none)(q:Rat):∃H',AF H p (.AG [.int q.num,.int q.den])=H'/\AR H H'/\AO H' p q:=nw h _
open PySem.Spec PyProof.Rows
section
variable {X:Cx} {pins:List (Addr×Obj)} {σ:L2.St} {H:Hp} {s:Shared}
end
end My
namespace L2
open PySem PySem.Spec PyProof.Rows
section
variable {X:Cx}
def Zh:V->List V->Hp->VK->Prop:=λx vs H Q=>∃(l:Addr) (ns:List Int) (k:Int),x=.ref l/\vs=[.int k]/\H l=some (.AB (ns.map V.int))/\k∈ns/\ns.length<=1000000/\Q (.int ((ns.idxOf k:Nat):Int)) H
theorem RK:MJ X "list.index" Zh:=by
 intro pins s σ H x vs v us Q I rx rv h;obtain⟨l,ns,k,rfl,rfl,hH,hk,hz,q⟩:=h;cases rx;obtain⟨u,rfl,ru⟩:=rv.Af;obtain⟨t,rfl⟩:=ru;obtain⟨z,its,n,r,hl,e⟩:=I.GI hH;have hi:=Vv r;have hlen:=hi.length;have hj:ns.idxOf k<ns.length:=List.idxOf_lt_length_iff.mpr hk;refine call_meets PySem.F.slot_list_index ⟨_,e,rfl⟩ PySem.F.entry_list_index (PySem.F.args_list_index_2 _ _)
  (MeetsSeq.list_index l its.toArray n (.int k t) (isInt k) (λy hy=>eq_isInt k t hi y (by simpa using hy)) (ns.idxOf k) (by simpa [hlen] using hj) (by omega) ?_ ?_) ⟨e,⟨.int ((ns.idxOf k:Nat):Int),H,I.DU _,⟨_,rfl⟩,q⟩⟩
 ·show isInt k its[ns.idxOf k]=true;rw[isInt_at k hi _ (by omega) hj];simpa using List.getElem_idxOf hj
 ·intro j hjs hlt;show isInt k its[j]=false;rw[isInt_at k hi j (by simpa using hjs) (by omega)];exact ne_of_lt_idxOf hlt _
theorem WO(ns:List Int):(ns.map V.int).all Fx=true:=by
 induction ns with
 | nil=>rfl
 | cons n ns ih=>rw[fk,List.all_cons,ih]; rfl
theorem XM(k:Int)(ns:List Int):ME (.int k) (ns.map V.int)=decide (k∈ns):=by
 unfold ME
 induction ns with
 | nil=>rfl
 | cons n ns ih =>
  rw[fk,List.any_cons,ih];have e:GL (.int n) (.int k)=decide (k=n):=by
   show decide (n=k)=decide (k=n);by_cases h:n=k
   ·rw[jf h,jf h.symm]
   ·rw[iQ h,iQ (λz=>h z.symm)]
  rw[e];by_cases h:k=n
  ·simp[h]
  ·simp[h]
variable {K:PySem.W.Frag}
theorem de(h:X.K=K:=by rfl):Ki X (GH K):=h ▸ Bj
theorem da(h:X.K=K:=by rfl):Ki X (Gw K):=h ▸ B5
theorem pT(K:PySem.W.Frag){X:Cx}{a b:PySem.Expr}{ta tb:TE}{pos:Pos}(ha:PE X a ta)(hb:PE X b tb)(hs:NV b:=by exact λ_ _=>rfl)(h:X.K=K:=by rfl):PE X (.Subscript a b pos) (By (GH K) ta tb):=A2 (de h) ha hb hs
theorem pL(K:PySem.W.Frag){X:Cx}{a b:PySem.Expr}{ta tb:TE}{pos:Pos}(ha:PE X a ta)(hb:PE X b tb)(hs:NV b:=by exact λ_ _=>rfl)(h:X.K=K:=by rfl):PE X (.Subscript a b pos) (By (Gw K) ta tb):=A2 (da h) ha hb hs
theorem dg(h:X.K=K:=by rfl):Kj X (Ol K):=h ▸ LR
theorem Kl(h:X.K=K:=by rfl):Kj X (Up K):=h ▸ K9
theorem Bs(h:X.K=K:=by rfl):DM X (.builtin "len") (Od K):=h ▸ Jb
theorem Fm(h:X.K=K:=by rfl):DM X (.type "tuple") (λxs H Q=>∃p ys,xs=[.ref p]/\((AM K H p ys/\∀l,H l=none->Q (.ref l) (AF H l (.AG ys)))\/(AJ K H p ys/\Q (.ref p) H))):=h ▸ E8
theorem DZ {es:List PySem.Expr} {k:Nat} {t:Fd} {n:Nat} {pos:Pos} (hc:X.CS=true) (g:Kh X es t) (h:X.K=K:=by rfl)
  (hn:(assignEach es X.env).length=n:=by rfl) (hst:(assignEach es X.env).findIdx? (·.1)=none:=by rfl):PG X (.Tuple es k pos) (IC K n t):=h ▸ Ga hc g hn hst
theorem JG{tg l:PySem.Expr}{tl:TE}(hl:PE X l tl)(h:X.K=K:=by rfl):PI X tg l (Oo K tl):=h ▸ Eo hl
theorem Hn{tg l:PySem.Expr}{tl:TE}(hl:PE X l tl)(h:X.K=K:=by rfl):PI X tg l (T7 K tl):=h ▸ Ip hl
end
section
variable {prog:Program} {w:World} {A:Around} {E:Value->Shared->Prop} {s:Shared}
end
section
variable {X:Cx}
theorem YJ{ns:List Int}:∀{us:List Value},IntsAre us ns->Ag (ns.map V.int) us:=by
 induction ns with
 | nil=>intro us r; cases r; exact .nil
 | cons n ns ih =>
  intro us r;cases r with
  | cons=>exact .cons ⟨_,rfl⟩ (ih (by assumption))
end
end L2
namespace L2
open PySem PySem.Spec PyProof.Rows PySem.SeqAt
section
variable {prog:Program} {w:World} {A:Around} {E:Value->Shared->Prop}
end
section
variable {X:Cx}
end
end L2
namespace HT
open PySem PySem.Spec PyProof.Rows L2
section
variable {prog:Program} {w:World} {A:Around} {E:Value->Shared->Prop} {s:Shared}
end
end HT
namespace L2
open PySem PySem.Spec PyProof.Rows
section
variable {X:Cx} {K:PySem.W.Frag}
variable {o e:Expr} {es:List Expr} {to:TE} {t:TA} {name:Str} {apos cpos:Pos} {id:String} {r:V->List V->Hp->VK->Prop}
inductive Dn(H:Hp):V->PyData->Prop
 | int (i:Int):Dn H (.int i) (.int i)
 | bl (b:Bool):Dn H (.bl b) (.bool b)
 | str (z:Str):Dn H (.str z) (.str z)
 | AG {p:Addr} {xs:List V} {ds:List PyData} (h:H p=some (.AG xs)) (hl:xs.length=ds.length) (hd:∀(i:Nat) (x:V) (d:PyData),xs[i]?=some x->ds[i]?=some d->Dn H x d):Dn H (.ref p) (.tuple ds)
theorem Dn.keep{H H':Hp}(s:AR H H'){v:V}{d:PyData}(h:Dn H v d):Dn H' v d:=by
 induction h with
 | int i=>exact .int i
 | bl b=>exact .bl b
 | str z=>exact .str z
 | AG h hl hd ih=>exact .AG (s _ _ h) hl ih
variable {pins:List (Addr×Obj)} {σ:L2.St} {H:Hp} {s:Shared}
theorem QZ(h:Heap):∀{xs:List V} {its:List Value} {ds:List PyData},Ag xs its->xs.length=ds.length->(∀(i:Nat) (x:V) (d:PyData),xs[i]?=some x->ds[i]?=some d->∀u,Au x u->Reads h u d [])->ReadsAll h its ds []
 | [],_,ds,.nil,hl,_=>by
  have:ds=[]:=List.length_eq_zero_iff.mp hl.symm
  subst this;exact .nil
 | x :: xs,_,[],_,hl,_=>by simp at hl
 | x :: xs,_,d :: ds,.cons r rs,hl,hd =>
  .cons (as:=[]) (bs:=[]) (hd 0 x d rfl rfl _ r) (QZ h rs (by simpa using hl) λi x' d' e1 e2=>hd (i+1) x' d' (by simpa using e1) (by simpa using e2))
theorem Lf(I:AI X pins σ H s){v:V}{d:PyData}(h:Dn H v d):∀u,Au v u->Reads s.heap u d []:=by
 induction h with
 | int i =>
  intro u r;obtain⟨t,rfl⟩:=r;exact .int _ _
 | bl b =>
  intro u r;cases r;exact .bool _
 | str z =>
  intro u r;obtain⟨t,rfl⟩:=r;exact .str _ _
 | AG h hl hd ih =>
  intro u r;cases r;obtain⟨its,rv,tp,_⟩:=I.tuple (AJ.of (K:=X.K) h);obtain⟨o,ho,hc,n,hd'⟩:=tp;exact .tuple ho hc hd' (by simpa using QZ s.heap rv hl ih)
inductive E2:Nat->PyData->Prop
 | int {n:Nat} (i:Int):E2 n (.int i)
 | bl {n:Nat} (b:Bool):E2 n (.bool b)
 | AG {n:Nat} {ds:List PyData} (h:∀d∈ds,E2 n d):E2 (n+1) (.tuple ds)
theorem R4:∀{ds:List PyData},(∀d∈ds,d.canLay0=true)->PyData.canLayAll0 ds=true
 | [],_=>rfl
 | d :: ds,h=>by
  simp only[PyData.canLayAll0,jc];exact⟨h d (by simp),R4 λx hx=>h x (by simp[hx])⟩
theorem Qg{n:Nat}:∀{ds:List PyData},(∀d∈ds,d.depth<=n)->PyData.depthAll ds<=n
 | [],_=>gP _
 | d :: ds,h=>by
  have:=Qg (ds:=ds) λx hx=>h x (by simp[hx])
  have:=h d (by simp)
  simp only[PyData.depthAll];omega
theorem E2.ok{n:Nat}{d:PyData}(h:E2 n d):d.canLay0=true/\d.depth<=n+1:=by
 induction h with
 | int i=>exact⟨rfl,by simp[PyData.depth]⟩
 | bl b=>exact⟨rfl,by simp[PyData.depth]⟩
 | @AG n ds h ih =>
  refine⟨by simp only[PyData.canLay0]; exact R4 λd hd=>(ih d hd).1,?_⟩
  have:=Qg λd hd=>(ih d hd).2
  simp only[PyData.depth];omega
theorem E2.shaped{n:Nat}{d:PyData}(h:E2 n d)(hn:n<=60):SeqAt.shaped d=true:=by
 unfold SeqAt.shaped;rw[jc];exact⟨h.ok.1,jf (by have:=h.ok.2; omega)⟩
def TL(b:Bool):R2:=λx y H Q=>∃(n:Nat) (d:PyData),n<=60/\Dn H x d/\Dn H y d/\E2 n d/\Q (.bl b) H
theorem Ss(hu:X.A.units+64<cLine):B8 X (compareOp .Eq) (TL true):=by
 intro pins s σ H x y v u Q I rx ry h;obtain⟨n,d,hn,hx,hy,sh,k⟩:=h;refine eq_dataH (Lf I hx v rx) (Lf I hy u ry) (sh.shaped hn) (sh.shaped hn) hu ?_;rw[SeqAt.eqv_refl _ sh.ok.1];exact⟨.bl true,H,I,rfl,k⟩
theorem Tj(hu:X.A.units+64<cLine):B8 X (compareOp .NotEq) (TL false):=by
 intro pins s σ H x y v u Q I rx ry h;obtain⟨n,d,hn,hx,hy,sh,k⟩:=h;refine ne_dataH (Lf I hx v rx) (Lf I hy u ry) (sh.shaped hn) (sh.shaped hn) hu ?_;rw[SeqAt.eqv_refl _ sh.ok.1];exact⟨.bl false,H,I,rfl,k⟩
end
section
variable {X:Cx}
theorem WQ(hc:X.CS=true):DM X (.builtin "min") (λxs H Q=>∃(p:Addr) (ns:List Int),xs=[.ref p]/\H p=some (.AB (ns.map V.int))/\0<ns.length/\∀m,m∈ns->(∀a∈ns,m<=a)->Q (.int m) H):=by
 intro pins s σ H xs us Q I r h;obtain⟨p,ns,rfl,hp,hne,q⟩:=h;obtain⟨u,rfl,r1⟩:=EE r;cases r1;obtain⟨_,its,n,rv,_,e⟩:=I.GI hp;have pa:s.heap.IsList p its.toArray:=⟨_,e,rfl,n,rfl⟩;have hlen:its.length=ns.length:=by rw[<-rv.length,ed]
 have hlt:p<s.heap.objs.size:=fJ e;have num:∀i v,its.toArray[i]?=some v->∃t,v=.int (ns.getD i 0) t/\i<ns.length:=λi v hv=>by
  rw[List.getElem?_toArray] at hv;have hi:i<its.length:=(eu.mp hv).1;have hi2:i<ns.length:=by omega
  have hx:(ns.map V.int)[i]?=some (.int ns[i]):=by rw[fg,eh hi2]; rfl
  obtain⟨u,hu,ru⟩:=rv.get hx;rw[hu] at hv;obtain rfl:u=v:=fC hv;obtain⟨t,rfl⟩:=ru;exact⟨t,by rw[eO,eh hi2]; rfl,hi2⟩
 refine call_min_walk (wpAny_pyIter_list pa ?_);refine⟨s.heap.objs.size,_,_,_,_,_,λi j=>decide (ns.getD i 0<ns.getD j 0),rfl,Walks.list (show X.A.in1.handled=none from I.ok.hd hc) _ p (gS hlt) its.toArray,⟨⟨_,fO _ rfl,rfl,rfl⟩,pa.push _⟩,λb hb=>?_,by rw[fG]; omega,λi j vi vj s' Q' E' hi hj hQ'=>?_,λv h' tk hv k=>?_⟩
 ·simp only[fE,gE,iO] at hb;rw[jd];rcases hb with rfl | rfl
  ·exact Nat.lt_succ_self _
  ·exact Nat.lt_succ_of_lt hlt
 ·obtain⟨t1,rfl,_⟩:=num i vi hi;obtain⟨t2,rfl,_⟩:=num j vj hj;exact lt_int hQ'
 ·obtain⟨t,rfl,hb⟩:=num _ v hv;obtain⟨h1,h2⟩:=argBest_lt (λi=>ns.getD i 0) (its.toArray.size-1);refine⟨.int _,H,I.Bn λb o eb=>?_,⟨t,rfl⟩,q _ (getD_mem hb) λa ha=>?_⟩
  ·exact k b o (λz=>by
    have:b=s.heap.objs.size:=by simpa using z
    exact absurd (fJ eb) (by rw[this]; exact jb _)) (eY _ eb)
  ·obtain⟨j,hj,rfl⟩:=mem_getD ha;exact h2 j (by rw[fG]; omega)
end
section
variable {prog:Program} {w:World} {A:Around} {E:Value->Shared->Prop} {s:Shared}
theorem Vn {T:String} {r d:Addr} {n:Nat} {Pp:Nat->Value->Prop} {OK:Heap->Prop} (K:PySem.W.KdlSrc prog w T r d n Pp OK) (hh:A.handled=none) (hok:OK s.heap) {ns:List Int} (hI:∀acc:Array Value,ItemsOf Pp acc n->IntsAre acc.toList ns) (h64:n<64) {Q:Value->Shared->Prop}
  (h:∀(h1 h':Heap) (tk:Nat) (out:Array Value) (m:Nat) (ns':List Int),(∀b o,s.heap.get? b=some o->h1.get? b=some o)->(∀b o,h1.get? b=some o->h'.get? b=some o)->h'.get? h1.objs.size=some (seqObj "list" out m)->IntsAre out.toList ns'->ns'.Perm ns->ns'.Pairwise (·<=·)->Q (.ref h1.objs.size) { s with heap:=h',toks:=tk }) :
  wpAny (model prog w) A (call (.builtin "sorted") [.ref r]) Q E s:=by
 refine Calls.call_function_entry kind_sorted plain_sorted entry_sorted (args_sorted1 _) ?_;unfold Builtin.«sorted»;refine eV (m:=checkCount "sorted" 1 1 _) (fS ?_);refine eV (PySem.W.kdu_collect (A:=A.in1) K hh hok (by rw[ji]; omega) λh' tk acc hk hacc=>?_);have hl:acc.toList.length=n:=by rw[ij]; exact hacc.1
 refine eV (wpAny_newList ?_ (by rw[hl,ji]; omega));have hL:(h'.push (seqObj "list" acc.toList.toArray 0)).get? h'.objs.size=some (seqObj "list" acc.toList.toArray 0):=fO _ rfl;refine eV (wpAny_holding (wpAny_call_entry slot_list_sort ⟨_,hL,rfl⟩ entry_list_sort (list_sort_tree hL (hI acc hacc) (by rw[hl]; exact h64) λout ns' a1 a2 a3=>⟨_,rfl,fS ⟨_,rfl,?_⟩⟩) (args_list_sort _)));obtain⟨e,he⟩:=sortedHeap_at (n:=0) (out:=out) hL;refine h h' _ tk out e ns' hk (λb o hb=>?_) he a1 a2 a3;have hlt:=fJ hb;rw[sortedHeap_old (gS hlt) (by rw[size_push']; exact Nat.lt_succ_of_lt hlt)];exact eY _ hb
end
section
variable {X:Cx}
theorem Vs(hc:X.CS=true):DM X (.builtin "sorted") (λxs H Q=>∃(p:Addr) (L:List (Int×V)),xs=[.ref p]/\H p=some (.dK (L.map λq=>(Sum.inl q.1,q.2)))/\L.length<64/\∀(l:Addr) (ms:List Int),H l=none->ms.Perm (L.map (·.1))->ms.Pairwise (·<=·)->Q (.ref l) (AF H l (.AB (ms.map V.int)))):=by
 intro pins s σ H xs us Q I r h;obtain⟨p,L,rfl,hp,h64,q⟩:=h;obtain⟨u,rfl,r1⟩:=EE r;cases r1;obtain⟨_,lo,vs,kv,dd⟩:=Oa I.hok hp;obtain⟨ep,hat⟩:=dd.dictAt;have hlen:vs.length=L.length:=by
  have:=kv.length
  rw[ed] at this;exact this.symm
 refine Vn (PySem.W.kdl_dict (knd:=DD X.prog X.w) (kvs:=vs) (ep:=ep) lo) (I.ok.hd hc) hat (ns:=L.map (·.1)) (λacc ha=>?_) (by omega) λh1 h' tk out m ms hk hk2 hg a1 a2 a3=>?_
 ·have key:∀(L:List (Int×V)) (vs:List (AX×Value)) (us:List Value),KV (L.map λq=>((Sum.inl q.1:AX),q.2)) vs->us.length=vs.length->(∀(j:Nat) (v:Value),us[j]?=some v->∃k x,vs[j]?=some (k,x)/\(DD X.prog X.w).is k v=true)->IntsAre us (L.map (·.1)):=by
   intro L
   induction L with
   | nil =>
    intro vs us kv hl hu;cases kv
    have:us=[]:=List.length_eq_zero_iff.mp hl
    subst this;exact .nil
   | cons q L ih =>
    intro vs us kv hl hu;cases kv with
    | @cons _ b _ bs h1 h2 =>
     cases us with
     | nil=>simp at hl
     | cons u us =>
      obtain⟨k,x,e1,e2⟩:=hu 0 u rfl;cases e1;have hk1:(Sum.inl q.1:AX)=k:=h1.1;rw[<-hk1,V7] at e2;obtain⟨t,rfl⟩:∃t,u=.int q.1 t:=by
       have:Value.isInt q.1 u=true:=e2
       cases u <;> simp[Value.isInt] at this
       subst this;exact⟨_,rfl⟩
      exact .cons _ _ (ih bs us h2 (by simpa using hl) λj v hj=>by
       have:=hu (j+1) v (by simpa using hj)
       simpa using this)
  refine key L vs acc.toList kv (by rw[ij]; exact ha.1) λj v hj=>ha.2 j v (by rw[<-Array.getElem?_toList]; exact hj)
 ·have I1:=I.Bn (h':=h1) (t':=tk) hk;have hz:(ms.map V.int).length<=sizeLine:=by rw[ed,a2.length_eq,ed,ji]; omega
  have hn:H h1.objs.size=none:=I1.hok.BW (eU _);exact⟨.ref h1.objs.size,_,I1.C6 (t':=tk) hk2 (eU _) (show BY X.prog X.w _ _ _ (.AB (ms.map V.int)) from ⟨hz,out.toList,m,YJ a1,hg⟩),rfl,q _ ms hn a2 a3⟩
end
def cF(ta:TE):TE:=λσ H Q=>ta σ H λv H1=>∃n:Nat,v=.int (n:Int)/\n<=1000/\∀l,H1 l=none->Q (.ref l) (AF H1 l (.AB ((List.range n).map λi:Nat=>V.int (i:Int))))
theorem Mi:∀{xs:List V} {us:List Value},xs.length=us.length->(∀(i:Nat) (x:V) (u:Value),xs[i]?=some x->us[i]?=some u->Au x u)->Ag xs us
 | [],[],_,_=>.nil
 | [],_ :: _,h,_=>by simp at h
 | _ :: _,[],h,_=>by simp at h
 | x :: xs,u :: us,h,g=>.cons (g 0 x u rfl rfl) (Mi (by simpa using h) λi y v e1 e2=>g (i+1) y v (by simpa using e1) (by simpa using e2))
theorem Jq:bootBuiltins "list" = some (.type "list"):=by decide +kernel
section
variable {X:Cx}
theorem VS {a:PySem.Expr} {ta:TE} {p p' rpos pos:Pos} (hc:X.CS=true) (hg:Gl X "list") (hm:X.mg "list" = none) (hg2:Gl X "range") (hm2:X.mg "range" = none) (ha:PE X a ta)
  (hs:starEach [.Call (.Name "range" p') [a] [] rpos] X.env=[(false,eval (.Call (.Name "range" p') [a] [] rpos) X.env)]:=by rfl) (hs2:starEach [a] X.env=[(false,eval a X.env)]:=by rfl) :
  PE X (.Call (.Name "list" p) [.Call (.Name "range" p') [a] [] rpos] [] pos) (cF ta):=by
 intro pins s σ H Q I h;refine iH (DX I hg hm Jq ?_ (by decide) (by decide));refine gy ?_ (by rw[hs]; rfl) (by rfl);rw[hs];refine Calls.spliced_cons ?_;refine iH (DX I hg2 hm2 boot_range ?_ (by decide) (by decide));have PAl:PA X [a] (BJ ta CF):=AA ha AE (by rw[hs2]; rfl);have hq:BJ ta CF σ H (λvs H1=>match vs with
   | [v]=>∃n:Nat,v=.int (n:Int)/\n<=1000/\∀l,H1 l=none->Q (.ref l) (AF H1 l (.AB ((List.range n).map λi:Nat=>V.int (i:Int))))
   | _=>False):=h
 refine gy (Ai (PAl rpos pins _ σ H _ I hq) λus s2 ⟨vs,H2,I2,r2,q2⟩=>?_) (by rw[hs2]; rfl) (by rfl);cases r2 with
 | nil=>exact False.elim q2
 | cons r rr =>
  cases rr with
  | cons _ _=>exact False.elim q2
  | nil =>
   obtain⟨n,rfl,hn,q⟩:=q2;obtain⟨t,rfl⟩:=r;refine call_range_1 (Calls.spliced_nil ?_);refine call_list_range (n:=n) (I2.ok.hd hc) (IsRange.new ..) (small_one (by omega) (by omega) (by omega) (by omega)) (by rw[rangeSize_one]; split <;> omega) (by omega) λh' tk acc c hk hS hI=>?_
   obtain⟨hl,hI⟩:=hI;have hz:((List.range n).map λi:Nat=>V.int (i:Int)).length<=sizeLine:=by rw[ed,fK,ji]; omega
   have rv:Ag ((List.range n).map λi:Nat=>V.int (i:Int)) acc.toList:=by
    refine Mi (by rw[ed,fK,ij,hl]) λi x u e1 e2=>?_
    have hi:i<n:=by
     have:=(eu.mp e2).1
     rw[ij,hl] at this;exact this
    rw[fg,gA hi] at e1;obtain⟨t',ht⟩:=hI i u (by rw[<-Array.getElem?_toList]; exact e2);cases e1;exact⟨t',by rw[ht]; congr 1; omega⟩
   have fin:∀h1:Heap,(∀b o,s2.heap.get? b=some o->h1.get? b=some o)->(∀b o,h1.get? b=some o->h'.get? b=some o)->h'.get? h1.objs.size=some { cls:=.type "list",dict:=none,data:=.seq acc c,slots:=#[] }->EP X pins σ Q (.ref h1.objs.size) { s2 with heap:=h',toks:=tk }:=λh1 k1 k2 hS=>by
    have I3:=I2.Bn (h':=h1) (t':=tk) k1;exact⟨.ref _,_,I3.C6 (t':=tk) k2 (eU _) (show BY X.prog X.w _ h' _ (.AB _) from ⟨hz,acc.toList,c,rv,hS⟩),rfl,q _ (I3.hok.BW (eU _))⟩
   exact fin _ (λb o e=>eY _ e) hk hS
end
theorem WA:typeLookup (.type "list_reverseiterator") "__len__" = pure none:=by rw[typeLookup_type,builtinLookup_eq_fast]; kernel_rfl
theorem XO:typeLookup (.type "list_reverseiterator") "__length_hint__" = pure (some (.builtin "list_reverseiterator.__length_hint__")):=by rw[typeLookup_type,builtinLookup_eq_fast]; kernel_rfl
theorem XT:isSubtype (.type "list_reverseiterator") (.type "list_reverseiterator")=pure true:=by rw[isSubtype_type]; kernel_rfl
section
variable {prog:Program} {w:World} {A:Around} {E:Value->Shared->Prop} {s:Shared}
theorem XY{I:Addr}{Q:Bool->Shared->Prop}(hT:s.TypeIs (.ref I) "list_reverseiterator")(h:Q false s):wpAny (model prog w) A (Builtin.List.listLengthHint (.ref I)) Q E s:=by
 unfold Builtin.List.listLengthHint;refine eV (wpAny_specialOf hT WA ?_);show wpAny _ _ (specialOf (Value.ref I) (Str.ofString "__length_hint__") >>= _) _ _ _;refine eV (wpAny_specialOf hT XO ?_);dsimp only;have e:splitId "list_reverseiterator.__length_hint__" = some ("list_reverseiterator","__length_hint__"):=by kernel_rfl
 rw[e];dsimp only;refine eV (wpAny_isInstance (T:="list_reverseiterator") (b:=true) hT XT ?_);exact wpAny_of_eq (a:=false) (by first | rfl | kernel_rfl) h
theorem dF(hh:A.handled=none)(I l:Addr)(hne:l≠I)(items:Array Value):
  WalksS prog w A I [I,l] [I] (λa b=>a=b) items.size (λi v=>items[items.size-1-i]?=some v) (λi s=>i<=items.size/\s.heap.IsRevIter I l ((items.size:Int)-1-(i:Int))/\s.heap.IsList l items) where
 sub:=λb hb=>by
  have:b=I:=by simpa using hb
  simp[this]
 grefl:=λ_=>rfl
 gtrans:=λ_ _ _ h1 h2=>h1.trans h2
 frame:=λ_ _ _ _ x _ hk=>⟨x.1,x.2.1.at λo e=>hk I (by simp) o e,x.2.2.at λo e=>hk l (by simp) o e⟩
 item:=λi s Q E hi x hQ=>by
  have hit:=x.2.1;rw[show(items.size:Int)-1-(i:Int)=((items.size-1-i:Nat):Int) by omega] at hit;have hx:items[items.size-1-i]?=some (items[items.size-1-i]'(by omega)):=Array.getElem?_eq_getElem (by omega);refine wpAny_pyNext_rev_item hit x.2.2 hx λh' hit' hs'=>hQ _ _ hx ⟨hi,?_,x.2.2.at λo eo=>(hs'.2 l hne).trans eo⟩ ⟨λb o hb eo=>(hs'.2 b λq=>hb (by simp[q])).trans eo,rfl,rfl,rfl,eU _⟩
  rw[show((items.size-1-i:Nat):Int)-1=(items.size:Int)-1-((i+1:Nat):Int) by omega] at hit';exact hit'
 done:=λs Q E x hQ=>by
  have hit:=x.2.1;rw[show(items.size:Int)-1-(items.size:Int)=-1 by omega] at hit;exact wpAny_pyNext_rev_end hh hit λh' he'=>hQ _ ⟨λb o hb eo=>he' b o (λq=>hb (by simp[q])) eo,rfl,rfl,rfl,eU _⟩
 self:=λ_ _ _ _ x hQ=>wpAny_pyIter_revIter x.2.1 hQ
theorem WH{items acc:Array Value}(h:ItemsOf (λi v=>items[items.size-1-i]?=some v) acc items.size):acc.toList=items.toList.reverse:=by
 apply List.ext_getElem
 ·rw[iW,ij,ij,h.1]
 ·intro j h1 h2;have hj':j<acc.size:=by rw[ij] at h1; exact h1
  have hj:j<items.size:=by rw[<-h.1]; exact hj'
  have e:=h.2 j acc[j] (Array.getElem?_eq_getElem hj');rw[List.getElem_reverse];have e2:items[items.size-1-j]?=some (items[items.size-1-j]'(by omega)):=Array.getElem?_eq_getElem (by omega);have e3:=fC (e2.symm.trans e);simp only[Array.getElem_toList,ij];exact e3.symm
theorem X7 {I l S:Addr} {items:Array Value} {R:Result->Shared->Prop} (hh:A.handled=none) (hit:s.heap.IsRevIter I l ((items.size:Int)-1)) (hl:s.heap.IsList l items) (hne:l≠I) (hsz:items.size<=sizeLine) (hSI:S≠I) (hSl:S≠l)
  (hS:s.heap.get? S=some { cls:=.type "list",data:=.seq #[] })
  (hR:∀s' acc c,Moved (S :: [I]) (λa b=>a=b) s s'->s'.heap.get? S=some { cls:=.type "list",dict:=none,data:=.seq acc c,slots:=#[] }->acc.toList=items.toList.reverse->R (.ok (.ret .none)) s') :
  wpAny (model prog w) A.in1 (Builtin.«list.__init__» ⟨[.ref S,.ref I],[]⟩)
   (λfin s'=>match fin with | .done f=>R (.ok f) s' | .again c'=>c'.quiet=true/\codeAny (model prog w) A c' R s') (λe s'=>R (.error e) s') s:=by
 have W:=dF (prog:=prog) (w:=w) (A:=A.in1) hh I l hne items;have hSf:S∉[I,l]:=by simp[hSI,hSl]
 have st0:(0:Nat)<=items.size/\s.heap.IsRevIter I l ((items.size:Int)-1-((0:Nat):Int))/\s.heap.IsList l items:=⟨gP _,by simpa using hit,hl⟩;show wpAny _ A.in1 (do let old <-Builtin.List.listItems (.ref S); Builtin.List.listUpdate (.ref S) (λ_=>#[]); letGo old.toList.reverse; Builtin.List.listExtendWith (.ref S) (.ref I) .none) _ _ s;unfold Builtin.List.listItems;refine eV (eV (jh hS rfl (fS ?_)));show wpAny _ A.in1 (updateSeq S (λ_=>#[]) >>= λ_=>letGo (#[]:Array Value).toList.reverse >>= λ_=>Builtin.List.listExtendWith (.ref S) (.ref I) .none) _ _ s;refine eV (wpAny_updateSeq hS rfl (eV (wpAny_letGo ?_)));have S1:=Heap.get?_update_self (Obj.mapSeq (λ_=>(#[]:Array Value))) hS rfl;have oth:∀b o,b≠S->s.heap.get? b=some o->(s.heap.update S (Obj.mapSeq (λ_=>(#[]:Array Value)))).get? b=some o:=λb o hb e=>(Heap.get?_update_other _ _ (iB hb)).trans e
 have st1:=W.frame 0 s (s.heap.update S (Obj.mapSeq (λ_=>(#[]:Array Value)))) s.toks st0 (eU _) λb hb o e=>oth b o (λz=>hSf (z ▸ hb)) e
 have T1:=st1.2.1.typeIs;unfold Builtin.List.listExtendWith;refine eV (wpAny_typeOf T1 ?_);have q1:Builtin.List.listSameRef (.ref S) (.ref I)=false:=by simp[Builtin.List.listSameRef,hSI]
 have q2:(Value.type "list_reverseiterator" == Value.type "list")=false:=by decide
 have q3:(Value.type "list_reverseiterator" == Value.type "tuple")=false:=by decide
 simp only[q1,q2,q3,Bool.or_false,Bool.false_eq_true,if_false];refine eV (W.self 0 _ _ _ st1 ?_);refine eV (wpAny_holding (XY T1 ?_));show wpAny _ A.in1 (again (.builtin "list.extend.loop" ⟨[.ref S,.ref I,.none],[]⟩)) _ _ _;refine fS ⟨plainId_quiet F.plain_extend_loop _,codeAny_extend_loopS W hsz _ hSf _ items.size 0 _ _ _ rfl (gP _) st1 S1 (ItemsOf.nil _) λs' acc' c' hm hS' hacc=>?_⟩;refine hR s' acc' c' ⟨λb o hb eb=>hm.heap b o hb (oth b o (λz=>hb (by simp[z])) eb),hm.gens,hm.drawn,hm.os,hm.toks⟩ hS' (WH hacc)
theorem VO {I l:Addr} {items:Array Value} {Q:Value->Shared->Prop} (hh:A.handled=none) (hit:s.heap.IsRevIter I l ((items.size:Int)-1)) (hl:s.heap.IsList l items) (hne:l≠I) (hsz:items.size<=sizeLine)
  (hQ:∀s' acc c,Moved (s.heap.objs.size :: [I]) (λa b=>a=b) s s'->s'.heap.get? s.heap.objs.size=some { cls:=.type "list",dict:=none,data:=.seq acc c,slots:=#[] }->acc.toList=items.toList.reverse->Q (.ref s.heap.objs.size) s') :
  wpAny (model prog w) A (call (.type "list") [.ref I]) Q E s:=by
 have ltI:I<s.heap.objs.size:=by
  obtain⟨o,ho,_⟩:=hit;exact fJ ho
 have ltl:l<s.heap.objs.size:=by
  obtain⟨o,ho,_⟩:=hl;exact fJ ho
 refine callType_codes (Q₁:=λobj s₁=>obj=.ref s.heap.objs.size/\s₁={ s with heap:=s.heap.push { cls:=.type "list",data:=.seq #[] } }) F.called_list (F.typeCall_list_1 _) F.entry_list_init (code_list_new _ ⟨rfl,rfl⟩) λobj s₁ h₁=>?_
 obtain⟨rfl,rfl⟩:=h₁;have hS:(s.heap.push { cls:=.type "list",data:=.seq #[] }).get? s.heap.objs.size=some { cls:=.type "list",data:=.seq #[] }:=fO _ rfl;have kp:∀b o,s.heap.get? b=some o->(s.heap.push { cls:=.type "list",data:=.seq #[] }).get? b=some o:=λb o e=>eY _ e
 refine⟨⟨_,hS,rfl⟩,F.args_list_init_2 _ _,X7 hh (hit.at (kp I)) (hl.at (kp l)) hne hsz (ja ltI) (ja ltl) hS λs' acc c hm hS' hacc=>?_⟩;exact⟨rfl,hQ s' acc c ⟨λb o hb eb=>hm.heap b o hb (kp b o eb),hm.gens,hm.drawn,hm.os,hm.toks⟩ hS' hacc⟩
end
section
variable {X:Cx}
theorem Wq{h:Heap}{x o:Obj}{b:Addr}(e:(h.push x).get? b=some o)(n:b≠h.objs.size):h.get? b=some o:=by
 obtain⟨objs,l⟩:=h;unfold Heap.push Heap.get? at e;unfold Heap.get?;dsimp only at e n ⊢
 have:(objs.push x)[b]?=objs[b]?:=by
  rw[Array.getElem?_push];rw[eZ n]
 rw[this] at e;exact e
def cJ(tl:TE):TE:=λσ H Q=>tl σ H λx H1=>∃(a:Addr) (ys:List V),x=.ref a/\H1 a=some (.AB ys)/\∀l,H1 l=none->Q (.ref l) (AF H1 l (.AB ys.reverse))
theorem Ag.VB:∀{xs:List V} {us:List Value},Ag xs us->Ag xs.reverse us.reverse
 | _,_,.nil=>.nil
 | _,_,.cons h t=>by
  rw[List.reverse_cons,List.reverse_cons];exact(Ag.VB t).append (.cons h .nil)
theorem V6 {l:PySem.Expr} {tl:TE} {p p' rpos pos:Pos} (hc:X.CS=true) (hg:Gl X "list") (hm:X.mg "list" = none) (hg2:Gl X "reversed") (hm2:X.mg "reversed" = none) (hl:PE X l tl)
  (hs:starEach [.Call (.Name "reversed" p') [l] [] rpos] X.env=[(false,eval (.Call (.Name "reversed" p') [l] [] rpos) X.env)]:=by rfl) (hs2:starEach [l] X.env=[(false,eval l X.env)]:=by rfl) :
  PE X (.Call (.Name "list" p) [.Call (.Name "reversed" p') [l] [] rpos] [] pos) (cJ tl):=by
 intro pins s σ H Q I h;refine iH (DX I hg hm Jq ?_ (by decide) (by decide));refine gy ?_ (by rw[hs]; rfl) (by rfl);rw[hs];refine Calls.spliced_cons ?_;refine iH (DX I hg2 hm2 (show bootBuiltins "reversed" = some (.type "reversed") by decide +kernel) ?_ (by decide) (by decide));have PAl:PA X [l] (BJ tl CF):=AA hl AE (by rw[hs2]; rfl);have hq:BJ tl CF σ H (λvs H1=>match vs with
   | [x]=>∃(a:Addr) (ys:List V),x=.ref a/\H1 a=some (.AB ys)/\∀l,H1 l=none->Q (.ref l) (AF H1 l (.AB ys.reverse))
   | _=>False):=h
 refine gy (Ai (PAl rpos pins _ σ H _ I hq) λus s2 ⟨vs,H2,I2,r2,q2⟩=>?_) (by rw[hs2]; rfl) (by rfl);cases r2 with
 | nil=>exact False.elim q2
 | cons r rr =>
  cases rr with
  | cons _ _=>exact False.elim q2
  | nil =>
   obtain⟨la,ys,rfl,hla,q⟩:=q2;cases r;obtain⟨its,n,rts,e,hz1⟩:=I2.AB hla;refine call_reversed_list (items:=its.toArray) ⟨_,e,rfl,n,rfl⟩ (Calls.spliced_nil ?_);have hlt:la<s2.heap.objs.size:=fJ e;have I3:AI X pins σ H2 { s2 with heap:=s2.heap.push (revObj la ((its.toArray.size:Int)-1)) }:=I2.Bn (t':=s2.toks) λb o q=>eY _ q
   refine VO (items:=its.toArray) (I2.ok.hd hc) ⟨_,fO _ rfl,rfl,rfl⟩ ⟨_,eY _ e,rfl,n,rfl⟩ (gS hlt) (by rw[fG,<-rts.length]; exact hz1) λs' acc c hm hS hacc=>?_
   obtain⟨h',g',d',tk',os'⟩:=s';obtain rfl:s2.gens=g':=hm.gens;obtain rfl:d'=s2.drawn:=hm.drawn;obtain rfl:os'=s2.os:=hm.os;have rv:Ag ys.reverse acc.toList:=by rw[hacc]; exact Ag.VB rts
   have hz:ys.reverse.length<=sizeLine:=by rw[iW]; exact hz1
   have eS:(s2.heap.push (revObj la ((its.toArray.size:Int)-1))).objs.size=s2.heap.objs.size+1:=by simp[Heap.push]
   obtain⟨S,hSe⟩:∃S,S=(s2.heap.push (revObj la ((its.toArray.size:Int)-1))).objs.size:=⟨_,rfl⟩;have fin:∀h1:Heap,h1=s2.heap.push (revObj la ((its.toArray.size:Int)-1))->AI X pins σ (AF H2 h1.objs.size (.AB ys.reverse)) { s2 with heap:=h1.push { cls:=.type "list",dict:=none,data:=.seq acc c,slots:=#[] },toks:=s2.toks }:=λh1 e1=>by
    subst e1;exact I3.C6 (t':=s2.toks) (h':=(s2.heap.push (revObj la ((its.toArray.size:Int)-1))).push { cls:=.type "list",dict:=none,data:=.seq acc c,slots:=#[] }) (λb o q=>eY _ q) (eU _) (show BY X.prog X.w _ _ _ (.AB _) from ⟨hz,acc.toList,c,rv,fO _ rfl⟩)
   have I4:=fin _ rfl;rw[<-hSe] at I4;have nI:s2.heap.objs.size≠S:=by omega
   have f:=I2.FU (H':=AF H2 S (.AB ys.reverse)) (eU s2.heap.objs.size) (by rw[Ad nI]; exact I2.hok.BW (eU _));have I5:=I4.Dh (h':=h') (t':=tk') (it:=s2.heap.objs.size) (λb o hb eb=>?_) f.1 f.2.1 f.2.2.2.1 f.2.2.2.2.1 f.2.2.2.2.2
   ·rw[<-hSe];exact⟨.ref _,_,I5,rfl,q S (by rw[hSe]; exact I3.hok.BW (eU _))⟩
   ·by_cases hbS:b=S
    ·subst hbS;have e2:((s2.heap.push (revObj la ((its.toArray.size:Int)-1))).push { cls:=.type "list",dict:=none,data:=.seq acc c,slots:=#[] }).get? b=some { cls:=.type "list",dict:=none,data:=.seq acc c,slots:=#[] }:=by rw[hSe]; exact fO _ rfl
     have e3:=eb.symm.trans e2;cases e3;rw[<-hSe] at hS;exact hS
    ·refine hm.heap b o (λz=>?_) (Wq eb (by rw[<-hSe]; exact hbS));rcases fE.mp z with z | z
     ·exact hbS (by rw[hSe]; exact z)
     ·exact hb (by simpa using z)
end
def bE(ta:TA):TE:=λσ H Q=>ta σ H λvs H1=>∃(lo:Int) (n:Nat),vs=[.int lo,.int (lo+(n:Int))]/\0<=lo/\lo<=1000/\n<=1000/\∀l,H1 l=none->Q (.ref l) (AF H1 l (.AB ((List.range n).map λi:Nat=>V.int (lo+(i:Int)))))
section
variable {X:Cx}
theorem Pe {a b:PySem.Expr} {ta:TA} {p p' rpos pos:Pos} (hc:X.CS=true) (hg:Gl X "list") (hm:X.mg "list" = none) (hg2:Gl X "range") (hm2:X.mg "range" = none) (ha:PA X [a,b] ta)
  (hs:starEach [.Call (.Name "range" p') [a,b] [] rpos] X.env=[(false,eval (.Call (.Name "range" p') [a,b] [] rpos) X.env)]:=by rfl) (hs2:starEach [a,b] X.env=[(false,eval a X.env),(false,eval b X.env)]:=by rfl) (hs3:starEach [b] X.env=[(false,eval b X.env)]:=by rfl) :
  PE X (.Call (.Name "list" p) [.Call (.Name "range" p') [a,b] [] rpos] [] pos) (bE ta):=by
 intro pins s σ H Q I h;refine iH (DX I hg hm Jq ?_ (by decide) (by decide));refine gy ?_ (by rw[hs]; rfl) (by rfl);rw[hs];refine Calls.spliced_cons ?_;refine iH (DX I hg2 hm2 boot_range ?_ (by decide) (by decide));refine gy (Ai (ha rpos pins _ σ H _ I h) λus s2 ⟨vs,H2,I2,r2,q2⟩=>?_) (by rw[hs2,hs3]) (by rw[hs3]; rfl);obtain⟨lo,n,e,l0,l1,hn,q⟩:=q2;subst e;cases r2 with
 | cons r rr =>
  cases rr with
  | cons r' rr =>
   cases rr;obtain⟨t,rfl⟩:=r;obtain⟨t',rfl⟩:=r';refine call_range_2 (Calls.spliced_nil ?_);refine call_list_range (n:=n) (I2.ok.hd hc) (IsRange.new ..) (small_one (by omega) (by omega) (by omega) (by omega)) (by rw[rangeSize_one]; split <;> omega) (by omega) λh' tk acc c hk hS hI=>?_
   obtain⟨hl,hI⟩:=hI;have hz:((List.range n).map λi:Nat=>V.int (lo+(i:Int))).length<=sizeLine:=by rw[ed,fK,ji]; omega
   have rv:Ag ((List.range n).map λi:Nat=>V.int (lo+(i:Int))) acc.toList:=by
    refine Mi (by rw[ed,fK,ij,hl]) λi x u e1 e2=>?_
    have hi:i<n:=by
     have:=(eu.mp e2).1
     rw[ij,hl] at this;exact this
    rw[fg,gA hi] at e1;obtain⟨t',ht⟩:=hI i u (by rw[<-Array.getElem?_toList]; exact e2);cases e1;exact⟨t',by rw[ht]; congr 1; omega⟩
   have fin:∀h1:Heap,(∀b o,s2.heap.get? b=some o->h1.get? b=some o)->(∀b o,h1.get? b=some o->h'.get? b=some o)->h'.get? h1.objs.size=some { cls:=.type "list",dict:=none,data:=.seq acc c,slots:=#[] }->EP X pins σ Q (.ref h1.objs.size) { s2 with heap:=h',toks:=tk }:=λh1 k1 k2 hS=>by
    have I3:=I2.Bn (h':=h1) (t':=tk) k1;exact⟨.ref _,_,I3.C6 (t':=tk) k2 (eU _) (show BY X.prog X.w _ h' _ (.AB _) from ⟨hz,acc.toList,c,rv,hS⟩),rfl,q _ (I3.hok.BW (eU _))⟩
   exact fin _ (λb o e=>eY _ e) hk hS
theorem Wt(hc:X.CS=true):DM X (.builtin "max") (λxs H Q=>∃(p:Addr) (ns:List Int),xs=[.ref p]/\H p=some (.AG (ns.map V.int))/\0<ns.length/\∀m,m∈ns->(∀a∈ns,a<=m)->Q (.int m) H):=by
 intro pins s σ H xs us Q I r h;obtain⟨p,ns,rfl,hp,hne,q⟩:=h;obtain⟨u,rfl,r1⟩:=EE r;cases r1;obtain⟨its,rv,pa,_⟩:=I.tuple (AJ.of (K:=X.K) hp);have hlen:its.length=ns.length:=by rw[<-rv.length,ed]
 have hlt:p<s.heap.objs.size:=by
  obtain⟨o,ho,_⟩:=id pa;exact fJ ho
 have num:∀i v,its.toArray[i]?=some v->∃t,v=.int (ns.getD i 0) t/\i<ns.length:=λi v hv=>by
  rw[List.getElem?_toArray] at hv;have hi:i<its.length:=(eu.mp hv).1;have hi2:i<ns.length:=by omega
  have hx:(ns.map V.int)[i]?=some (.int ns[i]):=by rw[fg,eh hi2]; rfl
  obtain⟨u,hu,ru⟩:=rv.get hx;rw[hu] at hv;obtain rfl:u=v:=fC hv;obtain⟨t,rfl⟩:=ru;exact⟨t,by rw[eO,eh hi2]; rfl,hi2⟩
 refine call_max_walk (i4 pa ?_);refine⟨s.heap.objs.size,_,_,_,_,_,λi j=>decide (-(ns.getD i 0) < -(ns.getD j 0)),rfl,Walks.tuple (show X.A.in1.handled=none from I.ok.hd hc) _ p (gS hlt) its.toArray,⟨⟨_,fO _ rfl,rfl,rfl⟩,pa.push _⟩,λb hb=>?_,by rw[fG]; omega,λi j vi vj s' Q' E' hi hj hQ'=>?_,λv h' tk hv k=>?_⟩
 ·simp only[fE,gE,iO] at hb;rw[jd];rcases hb with rfl | rfl
  ·exact Nat.lt_succ_self _
  ·exact Nat.lt_succ_of_lt hlt
 ·obtain⟨t1,rfl,_⟩:=num i vi hi;obtain⟨t2,rfl,_⟩:=num j vj hj;refine gt_int ?_;have e:decide (ns.getD j 0<ns.getD i 0)=decide (-(ns.getD i 0) < -(ns.getD j 0)):=by
   rw[Bool.eq_iff_iff,decide_eq_true_eq,decide_eq_true_eq];omega
  first
   | (rw[e]; exact hQ')
   | (rw[show decide (ns.getD i 0 > ns.getD j 0)=decide (-(ns.getD i 0) < -(ns.getD j 0)) from e]; exact hQ')
 ·obtain⟨t,rfl,hb⟩:=num _ v hv;obtain⟨h1,h2⟩:=argBest_lt (λi=>-(ns.getD i 0)) (its.toArray.size-1);refine⟨.int _,H,I.Bn λb o eb=>?_,⟨t,rfl⟩,q _ (getD_mem hb) λa ha=>?_⟩
  ·exact k b o (λz=>by
    have:b=s.heap.objs.size:=by simpa using z
    exact absurd (fJ eb) (by rw[this]; exact jb _)) (eY _ eb)
  ·obtain⟨j,hj,rfl⟩:=mem_getD ha
   have:=h2 j (by rw[fG]; omega)
   have h3:-(ns.getD (argBest (λi j=>decide (-(ns.getD i 0) < -(ns.getD j 0))) (its.toArray.size-1)) 0)<=-(ns.getD j 0):=this;omega
def L9(K:PySem.W.Frag)(a:Addr)(n:Nat):It :=
 ⟨λi H=>∃xs x,AM K H a xs/\xs.length=n/\xs.reverse[i]?=some x,λi H x H'=>H'=H/\∀xs,AM K H a xs->xs.reverse[i]?=some x,λi _=>n<=i⟩
theorem Xb{P:Program}{w:World}{K:PySem.W.Frag}{tg:Expr}(a it:Addr)(n:Nat):GA P w K tg (L9 K a n) [it] it (λi h=>i<=n/\h.IsRevIter it a ((n:Int)-1-(i:Int))) where
 mem:=by simp
 obj:=λi h st b hb=>by
  have e:b=it:=by simpa using hb
  subst e;obtain⟨o,e,c,d⟩:=st.2;exact⟨o,e,λv z=>by rw[d] at z; cases z⟩
 keep:=λi h h' st k=>⟨st.1,st.2.at λo e=>k it (by simp) o e⟩
 item:=by
  intro X hP hw hK hc i pins s σ H E I hf st hg;subst hP hw hK;obtain⟨xs,x,hq,ln,hx⟩:=hg;have il:i<n:=by have:=(eu.mp hx).1; rw[iW] at this; omega
  have hx':xs[n-1-i]?=some x:=by rw[List.getElem?_reverse (by omega),ln] at hx; exact hx
  obtain⟨its,rv,p,hz⟩:=I.list hq;obtain⟨u,hu,ru⟩:=rv.get hx';obtain⟨f0,f1,f2,f3,f4,f5⟩:=hf it (by simp);have hit:=st.2;rw[show(n:Int)-1-(i:Int)=((n-1-i:Nat):Int) by omega] at hit;refine wpAny_pyNext_rev_item hit p.isList (x:=u) (by simpa using hu) λh' st' sb=>?_
  have I1:AI X pins σ H { s with heap:=h' }:=I.Dh (t':=s.toks) (λb o hb e=>(sb.2 b hb).trans e) f0 f1 f3 f4 f5;obtain⟨o,e,c,d⟩:=id st';rw[show((n-1-i:Nat):Int)-1=(n:Int)-1-((i+1:Nat):Int) by omega] at st';exact⟨u,rfl,KC (s:={ s with heap:=h' }) e c d (by decide) ⟨x,H,I1,ru,⟨rfl,λys hy=>by rw[I.list_inj hy hq]; exact hx⟩,⟨il,st'⟩,λb hb=>(hf b hb).1⟩⟩
 done:=by
  intro X hP hw hK hc i pins s σ H E I hf st hg;subst hP hw hK;have hg:n<=i:=hg;obtain⟨f0,f1,f2,f3,f4,f5⟩:=hf it (by simp);have hit:=st.2
  have:=st.1
  rw[show(n:Int)-1-(i:Int)=-1 by omega] at hit;exact wpAny_pyNext_rev_end (I.ok.hd hc) hit λh' eb=>⟨rfl,I.Dh (t':=s.toks) (λb o hb e=>eb b o hb e) f0 f1 f3 f4 f5⟩
 self:=λ_ _ _ _ _ st h=>wpAny_pyIter_revIter st.2 h
variable {tg:Expr}
def cY(K:PySem.W.Frag)(tl:TE):TI:=λσ H R=>tl σ H λx H1=>∃a xs,x=.ref a/\AM K H1 a xs/\R (L9 K a xs.length) H1
theorem Z3{l:PySem.Expr}{tl:TE}{p rpos:Pos}(hg2:Gl X "reversed")(hm2:X.mg "reversed" = none)(hl:PE X l tl)(hs2:starEach [l] X.env=[(false,eval l X.env)]:=by rfl):PI X tg (.Call (.Name "reversed" p) [l] [] rpos) (cY X.K tl):=by
 intro pins s σ H R I h;refine iH (DX I hg2 hm2 (show bootBuiltins "reversed" = some (.type "reversed") by decide +kernel) ?_ (by decide) (by decide));have PAl:PA X [l] (BJ tl CF):=AA hl AE (by rw[hs2]; rfl);have hq:BJ tl CF σ H (λvs H1=>match vs with
   | [x]=>∃a xs,x=.ref a/\AM X.K H1 a xs/\R (L9 X.K a xs.length) H1
   | _=>False):=h
 refine gy (Ai (PAl rpos pins _ σ H _ I hq) λus s2 ⟨vs,H2,I2,r2,q2⟩=>?_) (by rw[hs2]; rfl) (by rfl);cases r2 with
 | nil=>exact False.elim q2
 | cons r rr =>
  cases rr with
  | cons _ _=>exact False.elim q2
  | nil =>
   obtain⟨a,xs,rfl,hq,q⟩:=q2;cases r;obtain⟨its,rv,pl,hz⟩:=I2.list hq;have ln:=rv.length;refine call_reversed_list (items:=its.toArray) pl.isList ?_;have st:(s2.heap.push (revObj a ((its.toArray.size:Int)-1))).IsRevIter s2.heap.objs.size a ((its.toArray.size:Int)-1):=⟨_,fO _ rfl,rfl,rfl⟩;refine wpAny_pyIter_revIter (s:={ s2 with heap:=s2.heap.push (revObj a ((its.toArray.size:Int)-1)) }) st ?_;refine⟨s2.heap.objs.size,[s2.heap.objs.size],_,_,H2,rfl,I2.Bn (t':=s2.toks) λb o e=>eY _ e,Xb a _ xs.length,⟨gP _,?_⟩,λb hb=>?_,q⟩
   ·rw[fG,<-ln] at st;rw[show((xs.length:Int)-1-((0:Nat):Int))=(xs.length:Int)-1 by omega];rw[fG,<-ln];exact st
   ·have e:b=s2.heap.objs.size:=by simpa using hb
    subst e;exact I2.FU (eU _) (I2.hok.BW (eU _))
end
end L2
namespace Mth
theorem Qf(a b:Int):Int.gcd b (a.fmod b)=Int.gcd a b:=by
 rw[Int.fmod_def];have e:a-b*a.fdiv b=a+b*(-(a.fdiv b)):=by rw[Int.mul_neg,Int.sub_eq_add_neg]
 rw[e,Int.gcd_add_mul_left_right,Int.gcd_comm]
theorem ZY(a b:Int)(h:b≠0):(a.fmod b).natAbs<b.natAbs:=by
 rw[Int.fmod_eq_emod];have h1:=gX a h;have h2:=Int.emod_lt a h;split
 ·omega
 ·rename_i z
  have:¬b ∣ a:=λq=>z (Or.inr q)
  have hz:a % b≠0:=λq=>this (Int.dvd_of_emod_eq_zero q)
  omega
def part(t b:Int):Int:=if b<0 then -(Int.gcd t b:Int) else (Int.gcd t b:Int)
def BK(t b:Int):Int×Int:=(t.fdiv (part t b),b.fdiv (part t b))
theorem NZ(t b:Int)(h:b≠0):0<Int.gcd t b:=Int.gcd_pos_of_ne_zero_right _ h
theorem Jw(t b:Int)(h:b≠0):part t b≠0:=by
 have:=NZ t b h
 unfold part; split <;> omega
theorem P2(t b:Int):part t b ∣ t:=by
 unfold part; split
 ·exact Int.neg_dvd.mpr (Int.gcd_dvd_left t b)
 ·exact Int.gcd_dvd_left t b
theorem Pk(t b:Int):part t b ∣ b:=by
 unfold part; split
 ·exact Int.neg_dvd.mpr (Int.gcd_dvd_right t b)
 ·exact Int.gcd_dvd_right t b
theorem Lb(t b:Int):(BK t b).1*part t b=t:=by
 show t.fdiv (part t b)*part t b=t;rw[iC (P2 t b),Int.ediv_mul_cancel (P2 t b)]
theorem J6(t b:Int):(BK t b).2*part t b=b:=by
 show b.fdiv (part t b)*part t b=b;rw[iC (Pk t b),Int.ediv_mul_cancel (Pk t b)]
theorem Q5(t b:Int)(h:b≠0):0<(BK t b).2:=by
 have e:=J6 t b;have g:=NZ t b h;rcases Int.lt_or_lt_of_ne h with h1 | h1
 ·have hp:part t b<0:=by unfold part; rw[ff h1]; omega
  rcases Int.lt_or_le 0 (BK t b).2 with q | q
  ·exact q
  ·have:0<=(BK t b).2*part t b:=Int.mul_nonneg_of_nonpos_of_nonpos q (Int.le_of_lt hp)
   omega
 ·have hp:0<part t b:=by unfold part; rw[eZ (by omega)]; omega
  rcases Int.lt_or_le 0 (BK t b).2 with q | q
  ·exact q
  ·have:(BK t b).2*part t b<=0:=Int.mul_nonpos_of_nonpos_of_nonneg q (Int.le_of_lt hp)
   omega
theorem Pu(t b:Int):(BK t b).1*b=t*(BK t b).2:=by
 have e1:=Lb t b;have e2:=J6 t b;generalize (BK t b).1=n at *;generalize (BK t b).2=d at *;generalize part t b=p at *;subst e1;subst e2;rw[Int.mul_comm d p,Int.mul_assoc]
theorem Xz(t b:Int)(h:b≠0):Int.gcd (BK t b).1 (BK t b).2=1:=by
 have e1:=Lb t b;have e2:=J6 t b;have g:=NZ t b h;have hp:(part t b).natAbs=Int.gcd t b:=by unfold part; split <;> omega
 have k:Int.gcd ((BK t b).1*part t b) ((BK t b).2*part t b)=Int.gcd (BK t b).1 (BK t b).2*(part t b).natAbs:=Int.gcd_mul_right _ _ _;rw[e1,e2,hp] at k
 have:1*Int.gcd t b=Int.gcd (BK t b).1 (BK t b).2*Int.gcd t b:=by rw[Nat.one_mul]; exact k
 exact(Nat.eq_of_mul_eq_mul_right g this).symm
theorem Rt(t b:Int)(h:b≠0):(part t b).natAbs<=b.natAbs:=by
 have e:(part t b).natAbs=Int.gcd t b:=by unfold part; split <;> omega
 rw[e];exact Nat.le_of_dvd (Int.natAbs_pos.mpr h) (by
  have:=Int.gcd_dvd_right t b
  exact Int.ofNat_dvd_left.mp this)
theorem QO(t b:Int)(h:b≠0):(BK t b).1.natAbs<=t.natAbs:=by
 have e:=congrArg Int.natAbs (Lb t b);rw[gD] at e
 have:1<=(part t b).natAbs:=Int.natAbs_pos.mpr (Jw t b h)
 calc (BK t b).1.natAbs=(BK t b).1.natAbs*1:=(Nat.mul_one _).symm
  _<=(BK t b).1.natAbs*(part t b).natAbs:=iL _ this
  _=t.natAbs:=e
theorem QB(t b:Int)(h:b≠0):(BK t b).2.natAbs<=b.natAbs:=by
 have e:=congrArg Int.natAbs (J6 t b);rw[gD] at e
 have:1<=(part t b).natAbs:=Int.natAbs_pos.mpr (Jw t b h)
 calc (BK t b).2.natAbs=(BK t b).2.natAbs*1:=(Nat.mul_one _).symm
  _<=(BK t b).2.natAbs*(part t b).natAbs:=iL _ this
  _=b.natAbs:=e
end Mth
namespace Wd
abbrev AW:=Nat->Rat
abbrev Ap:=List Bool->Rat
def sh(v:AW):AW:=λj=>v (j+1)
def A9(w:Ap):Ap:=λT=>w (false :: T)
def As(w:Ap):Ap:=λT=>w (true :: T)
def wg:AW->Ap->Ap
 | _,_,[]=>0
 | v,w,false :: S=>wg (sh v) (A9 w) S
 | v,w,true :: S=>v 0*w (false :: S)-wg (sh v) (As w) S
def Af:Ap
 | []=>1
 | false :: S=>Af S
 | true :: _=>0
theorem Jl(S:List Bool):∀(u v:AW) (w:Ap),wg (λj=>u j+v j) w S=wg u w S+wg v w S:=by
 induction S with
 | nil=>intro u v w; simp only[wg]; grind
 | cons b S ih =>
  intro u v w;have h:=ih (sh u) (sh v);have e:sh (λj=>u j+v j)=λj=>sh u j+sh v j:=rfl
  cases b
  ·simp only[wg,e,h]
  ·simp only[wg,e,h]; grind
theorem GO(S:List Bool):∀(c:Rat) (v:AW) (w:Ap),wg (λj=>c*v j) w S=c*wg v w S:=by
 induction S with
 | nil=>intro c v w; simp[wg]
 | cons b S ih =>
  intro c v w;have h:=ih c (sh v);have e:sh (λj=>c*v j)=λj=>c*sh v j:=rfl
  cases b
  ·simp only[wg,e,h]
  ·simp only[wg,e,h]; grind
theorem J4(S:List Bool):∀(v:AW) (w x:Ap),wg v (λT=>w T+x T) S=wg v w S+wg v x S:=by
 induction S with
 | nil=>intro v w x; simp only[wg]; grind
 | cons b S ih =>
  intro v w x;have e0:A9 (λT=>w T+x T)=λT=>A9 w T+A9 x T:=rfl
  have e1:As (λT=>w T+x T)=λT=>As w T+As x T:=rfl
  cases b
  ·simp only[wg,e0,ih]
  ·simp only[wg,e1,ih]; grind
theorem Em(S:List Bool):∀(c:Rat) (v:AW) (w:Ap),wg v (λT=>c*w T) S=c*wg v w S:=by
 induction S with
 | nil=>intro c v w; simp[wg]
 | cons b S ih =>
  intro c v w;have e0:A9 (λT=>c*w T)=λT=>c*A9 w T:=rfl
  have e1:As (λT=>c*w T)=λT=>c*As w T:=rfl
  cases b
  ·simp only[wg,e0,ih]
  ·simp only[wg,e1,ih]; grind
theorem Zg(S:List Bool)(v:AW)(w x:Ap):wg v (λT=>w T-x T) S=wg v w S-wg v x S:=by
 have e:(λT=>w T-x T)=λT=>w T+(λT=>(-1)*x T) T:=by funext T; grind
 rw[e,J4,Em]; grind
theorem JF(S:List Bool):∀(v:AW) (w:Ap),wg v (wg v w) S=0:=by
 induction S with
 | nil=>intro v w; simp[wg]
 | cons b S ih =>
  intro v w;cases b
  ·have e0:A9 (wg v w)=wg (sh v) (A9 w):=rfl;simp only[wg,e0,ih]
  ·have e1:As (wg v w)=λT=>v 0*A9 w T-wg (sh v) (As w) T:=rfl
   have e2:(λT=>v 0*A9 w T)=λT=>v 0*A9 w T:=rfl
   simp only[wg,e1];rw[Zg (x:=wg (sh v) (As w)) (w:=λT=>v 0*A9 w T),Em,ih]; grind
theorem Ju(u v:AW)(w:Ap)(S:List Bool):wg u (wg v w) S=- wg v (wg u w) S:=by
 have h:=JF S (λj=>u j+v j) w;have e:wg (λj=>u j+v j) w=λT=>wg u w T+wg v w T:=by funext T; exact Jl T u v w
 rw[Jl,e,J4,J4,JF,JF] at h
 grind
theorem LB(S:List Bool)(v:AW):wg v (λ_=>0) S=0:=by
 have h:=Em S 0 v (λ_=>0);have e:(λT:List Bool=>(0:Rat)*(λ_=>(0:Rat)) T)=λ_=>0:=by funext T; grind
 rw[e] at h; grind
def Ac:List AW->Ap->Ap
 | [],w=>w
 | v :: L,w=>Ac L (wg v w)
theorem Fn(L M:List AW)(w:Ap):Ac (L++M) w=Ac M (Ac L w):=by
 induction L generalizing w with
 | nil=>rfl
 | cons v L ih=>simp[Ac,ih]
theorem GU(L:List AW):∀(c:Rat) (w:Ap),Ac L (λT=>c*w T)=λT=>c*Ac L w T:=by
 induction L with
 | nil=>intro c w; rfl
 | cons v L ih =>
  intro c w;have e:wg v (λT=>c*w T)=λT=>c*wg v w T:=by funext T; exact Em T c v w
  simp only[Ac]; rw[e,ih]
theorem ZP(L:List AW):∀(w x:Ap),Ac L (λT=>w T+x T)=λT=>Ac L w T+Ac L x T:=by
 induction L with
 | nil=>intro w x; rfl
 | cons v L ih =>
  intro w x;have e:wg v (λT=>w T+x T)=λT=>wg v w T+wg v x T:=by funext T; exact J4 T v w x
  simp only[Ac]; rw[e,ih]
theorem Xk(L:List AW):Ac L (λ_=>0)=λ_=>0:=by
 induction L with
 | nil=>rfl
 | cons v L ih =>
  have e:wg v (λ_=>0)=λ_=>0:=by funext T; exact LB T v
  simp only[Ac]; rw[e,ih]
def sg(n:Nat):Rat:=if n % 2=0 then 1 else -1
theorem Np(n:Nat):sg (n+1)=- sg n:=by unfold sg; split <;> split <;> first | omega | grind
theorem Hk(n:Nat):sg n*sg n=1:=by unfold sg; split <;> grind
theorem Sw(L:List AW):∀(v:AW) (w:Ap) (S:List Bool),Ac L (wg v w) S=sg L.length*wg v (Ac L w) S:=by
 induction L with
 | nil=>intro v w S; simp[Ac,sg]
 | cons u L ih =>
  intro v w S;simp only[Ac,gq];have e:wg u (wg v w)=λT=>(-1)*wg v (wg u w) T:=by funext T; rw[Ju]; grind
  rw[e,GU];simp only[];rw[ih,Np]; grind
theorem MT(P Q R:List AW)(v:AW)(w:Ap)(S:List Bool):Ac (P++v :: Q++v :: R) w S=0:=by
 have e:P++v :: Q++v :: R=P++(v :: (Q++(v :: R))):=by simp
 rw[e,Fn];generalize Ac P w=x;simp only[Ac];rw[Fn];simp only[Ac];have h:wg v (Ac Q (wg v x))=λ_=>0:=by
  funext T
  have h2:Ac Q (wg v x)=λT=>sg Q.length*wg v (Ac Q x) T:=by funext T; exact Sw Q v x T
  rw[h2,Em,JF]; grind
 rw[h,Xk]
theorem MN(P Q:List AW)(u v:AW)(w:Ap)(S:List Bool):
  Ac (P++(λj=>u j+v j) :: Q) w S=Ac (P++u :: Q) w S+Ac (P++v :: Q) w S:=by
 rw[Fn,Fn,Fn];simp only[Ac];have e:wg (λj=>u j+v j) (Ac P w)=λT=>wg u (Ac P w) T+wg v (Ac P w) T:=by funext T; exact Jl T u v _
 rw[e,ZP]
theorem VY(P Q:List AW)(c:Rat)(v:AW)(w:Ap)(S:List Bool):
  Ac (P++(λj=>c*v j) :: Q) w S=c*Ac (P++v :: Q) w S:=by
 rw[Fn,Fn];simp only[Ac];have e:wg (λj=>c*v j) (Ac P w)=λT=>c*wg v (Ac P w) T:=by funext T; exact GO T c v _
 rw[e,GU]
theorem Xq(P Q R:List AW)(u v:AW)(w:Ap)(S:List Bool):
  Ac (P++u :: Q++v :: R) w S=- Ac (P++v :: Q++u :: R) w S:=by
 have h:=MT P Q R (λj=>u j+v j) w S;have a1:∀x y:AW,P++x :: Q++y :: R=P++x :: (Q++y :: R):=by intro x y; simp
 have h1:Ac (P++(λj=>u j+v j) :: Q++(λj=>u j+v j) :: R) w S
   = Ac (P++u :: Q++(λj=>u j+v j) :: R) w S+Ac (P++v :: Q++(λj=>u j+v j) :: R) w S:=by
  rw[a1,MN,<-a1,<-a1]
 rw[h1,MN,MN,MT,MT] at h
 grind
def C0(c:Nat)(v:AW):AW:=λj=>v (j+c)
def pre(c:Nat)(w:Ap):Ap:=λT=>w (List.replicate c true++T)
theorem OG(c:Nat):∀(v:AW) (w:Ap) (S:List Bool),(∀j,j<c->v j=0) →
  wg v w (List.replicate c true++S)=sg c*wg (C0 c v) (pre c w) S:=by
 induction c with
 | zero=>intro v w S _; simp[sg]; rfl
 | succ c ih =>
  intro v w S h;have h0:=h 0 (by omega)
  have:=ih (sh v) (As w) S (λj hj=>h (j+1) (by omega))
  simp only[gC,jn,wg];rw[this,h0,Np];have e1:C0 c (sh v)=C0 (c+1) v:=by funext j; simp only[C0,sh]; congr 1
  have e2:pre c (As w)=pre (c+1) w:=by funext T; simp[pre,As,gC]
  rw[e1,e2]; grind
theorem Y5(S:List Bool):∀(v:AW) (w:Ap),(∀b∈S,b=false)->wg v w S=0:=by
 induction S with
 | nil=>intro v w _; rfl
 | cons b S ih =>
  intro v w h
  have:=h b (by simp)
  subst this;exact ih _ _ (λb hb=>h b (by simp[hb]))
theorem aK(d e:Nat):∀(v:AW) (w:Ap),
  wg v w (List.replicate d false++true :: List.replicate e false)=v d*w (List.replicate (d+1+e) false):=by
 induction d with
 | zero =>
  intro v w;simp only[List.replicate_zero,List.nil_append,wg];rw[Y5 _ _ _ (λb hb=>(List.mem_replicate.mp hb).2)]
  have:(0+1+e)=e+1:=by omega
  rw[this,gC]; grind
 | succ d ih =>
  intro v w
  have:=ih (sh v) (A9 w)
  simp only[gC,jn,wg];rw[this]
  have:d+1+1+e=(d+1+e)+1:=by omega
  rw[this,gC]; rfl
def Tk(c m:Nat):List Bool:=List.replicate c true++List.replicate (m-c) false
def Sj(c j m:Nat):List Bool:=List.replicate c true++(List.replicate (j-c) false++true :: List.replicate (m-1-j) false)
theorem OQ{c j m:Nat}{v:AW}(w:Ap)(hz:∀i,i<c->v i=0)(h1:c<=j)(h2:j<m):
  wg v w (Sj c j m)=sg c*(v j*w (Tk c m)):=by
 unfold Sj;rw[OG c v w _ hz,aK];have e:j-c+1+(m-1-j)=m-c:=by omega
 simp only[C0,pre,e,Tk]
 have:j-c+c=j:=by omega
 rw[this]
theorem Yu{c m:Nat}(h:c<m):Sj c c m=Tk (c+1) m:=by
 unfold Sj Tk;have e:m-1-c=m-(c+1):=by omega
 rw[jq,List.replicate_zero,List.nil_append,e,jk,gW]; rfl
def B4:Nat->Rat
 | 0=>1
 | c+1=>B4 c*sg c
theorem Iy(c:Nat):B4 c*B4 c=1:=by
 induction c with
 | zero=>simp[B4]
 | succ c ih=>simp only[B4]; have:=Hk c; grind
def ld(c m:Nat)(w:Ap):Rat:=B4 c*w (Tk c m)
theorem bU{c m:Nat}{v:AW}(w:Ap)(hz:∀i,i<c->v i=0)(h:c<m):ld (c+1) m (wg v w)=v c*ld c m w:=by
 have:=OQ (v:=v) w hz (eU c) h
 rw[Yu h] at this;unfold ld;rw[this]; simp only[B4]; have:=Hk c; grind
def BG(x:Rat):Prop:=∃n:Int,x=n
theorem BG.EM{x y:Rat}(h:BG x)(g:BG y):BG (x*y):=by
 obtain⟨a,rfl⟩:=h; obtain⟨b,rfl⟩:=g; exact⟨a*b,by grind⟩
theorem BG.sub{x y:Rat}(h:BG x)(g:BG y):BG (x-y):=by
 obtain⟨a,rfl⟩:=h; obtain⟨b,rfl⟩:=g; exact⟨a-b,by grind⟩
theorem BG.of(n:Int):BG (n:Rat):=⟨n,rfl⟩
theorem LO(S:List Bool):∀(v:AW) (w:Ap),(∀j,BG (v j))->(∀T,BG (w T))->BG (wg v w S):=by
 induction S with
 | nil=>intro v w _ _; exact⟨0,rfl⟩
 | cons b S ih =>
  intro v w h g;cases b
  ·exact ih _ _ (λj=>h (j+1)) (λT=>g _)
  ·exact((h 0).EM (g _)).sub (ih _ _ (λj=>h (j+1)) (λT=>g _))
theorem NM(S:List Bool):BG (Af S):=by
 induction S with
 | nil=>exact⟨1,rfl⟩
 | cons b S ih=>cases b; exact ih; exact⟨0,rfl⟩
theorem YS(n:Nat):Af (List.replicate n false)=1:=by
 induction n with
 | zero=>rfl
 | succ n ih=>rw[gC]; exact ih
theorem OA(m:Nat):ld 0 m Af=1:=by
 simp[ld,B4,Tk,YS]
def CM(S:List Bool):Nat:=(S.filter id).length
theorem ae(S:List Bool):∀(v:AW) (w:Ap) (d:Nat),(∀T,CM T<d->w T=0)->CM S<d+1->wg v w S=0:=by
 induction S with
 | nil=>intro v w d _ _; rfl
 | cons b S ih =>
  intro v w d h g;cases b
  ·exact ih (sh v) (A9 w) d (λT hT=>h _ (by simpa [CM] using hT)) (by simpa [CM] using g)
  ·simp only[wg];have g1:CM S<d:=by simp[CM] at g ⊢; omega
   rw[h (false :: S) (by simpa [CM] using g1)];cases d with
   | zero=>omega
   | succ d=>rw[ih (sh v) (As w) d (λT hT=>h _ (by simp[CM] at hT ⊢; omega)) g1]; grind
theorem Yo(L:List AW):∀(w:Ap) (d:Nat),(∀T,CM T<d->w T=0)->∀S,CM S<d+L.length->Ac L w S=0:=by
 induction L with
 | nil=>intro w d h S hS; exact h S (by simpa using hS)
 | cons v L ih =>
  intro w d h S hS;exact ih (wg v w) (d+1) (λT hT=>ae T v w d h hT) S (by simp at hS; omega)
theorem ZH(c:Nat)(L:List AW):∀(w:Ap) (S:List Bool),(∀v∈L,∀j,j<c->v j=0) →
  ∃e:Rat,Ac L w (List.replicate c true++S)=e*Ac (L.map (C0 c)) (pre c w) S:=by
 induction L with
 | nil=>intro w S _; exact⟨1,by simp[Ac,pre]⟩
 | cons v L ih =>
  intro w S h;obtain⟨e,he⟩:=ih (wg v w) S (λu hu=>h u (by simp[hu]));refine⟨e*sg c,?_⟩;simp only[Ac,fk];rw[he]
  have:pre c (wg v w)=λT=>sg c*wg (C0 c v) (pre c w) T:=by
   funext T; exact OG c v w T (h v (by simp))
  rw[this,GU]; grind
theorem ZR{c n m:Nat}{L:List AW}(w:Ap)(hz:∀v∈L,∀j,j<c->v j=0)(h1:c<=n)(h2:n<c+L.length):Ac L w (Tk n m)=0:=by
 have e:Tk n m=List.replicate c true++(List.replicate (n-c) true++List.replicate (m-n) false):=by
  unfold Tk;rw[<-List.append_assoc,List.replicate_append_replicate];congr 2; omega
 obtain⟨x,hx⟩:=ZH c L w (List.replicate (n-c) true++List.replicate (m-n) false) hz;rw[e,hx,Yo _ _ 0 (λT hT=>by omega)]
 ·grind
 ·simp[CM,List.filter_append]; omega
def Ab(B x:Rat):Prop:=-B<=x/\x<=B
theorem Ab.nn{B x:Rat}(h:Ab B x):0<=B:=by obtain⟨a,b⟩:=h; grind
theorem Ab.EM{B C x y:Rat}(h:Ab B x)(g:Ab C y):Ab (B*C) (x*y):=by
 obtain⟨h1,h2⟩:=h;obtain⟨h3,h4⟩:=g;have a1:=i5 (show 0<=B-x by grind) (show 0<=C+y by grind);have a2:=i5 (show 0<=B+x by grind) (show 0<=C-y by grind);have a3:=i5 (show 0<=B-x by grind) (show 0<=C-y by grind);have a4:=i5 (show 0<=B+x by grind) (show 0<=C+y by grind);constructor <;> grind
theorem Ab.sub{B C x y:Rat}(h:Ab B x)(g:Ab C y):Ab (B+C) (x-y):=by
 obtain⟨h1,h2⟩:=h;obtain⟨h3,h4⟩:=g;constructor <;> grind
theorem Ab.le{B C x:Rat}(h:Ab B x)(g:B<=C):Ab C x:=by
 obtain⟨h1,h2⟩:=h;constructor <;> grind
theorem Ab.neg{B x:Rat}(h:Ab B x):Ab B (-1*x):=by
 obtain⟨h1,h2⟩:=h;constructor <;> grind
theorem OZ{V W:Rat}(S:List Bool):∀(v:AW) (w:Ap),(∀j,Ab V (v j))->(∀T:List Bool,T.length=S.length->Ab W (w T))->Ab ((S.length:Nat)*(V*W)) (wg v w S):=by
 induction S with
 | nil=>intro v w _ _; simp only[wg,i8]; constructor <;> grind
 | cons b S ih =>
  intro v w h g;have hW:=(g (b :: S) rfl).nn;have hV:=(h 0).nn;have hVW:=i5 hV hW;have e:(((b :: S).length:Nat):Rat)=(S.length:Nat)+1:=by rw[gq]; grind
  cases b
  ·have:=ih (sh v) (A9 w) (λj=>h (j+1)) (λT hT=>g _ (by simp[hT]))
   simp only[wg];refine this.le ?_;rw[e]; grind
  ·have h1:=ih (sh v) (As w) (λj=>h (j+1)) (λT hT=>g _ (by simp[hT]));have h2:=(h 0).EM (g (false :: S) (by simp));simp only[wg];refine(h2.sub h1).le ?_;rw[e]; grind
def vr(r:List Int):AW:=λj=>((r.getD j 0:Int):Rat)
def CZ(row lead:List Int)(k:Nat)(p:Int):List Int:=List.zipWith (λx y=>(lead.getD k 0*x-row.getD k 0*y).fdiv p) row lead
structure PX(f:AW->Rat):Prop where
 DS:∀u v:AW,f (λj=>u j+v j)=f u+f v
 GF:∀(c:Rat) (v:AW),f (λj=>c*v j)=c*f v
structure Bi(B n m k:Nat)(A0:List AW)(top:List (List Int))(Z:List (List Int×AW))(p:Int)(w:Ap):Prop where
 FR:top.length=k
 Ef:k+Z.length=n
 nm:n<=m
 Hx:∀r∈top,r.length=m
 DP:∀z∈Z,z.1.length=m
 pz:p≠0
 pl:ld k m w=p
 rel:∀z∈Z,∀S,p*wg z.2 w S=wg (vr z.1) w S
 EV:∀z∈Z,∀j,j<k->vr z.1 j=0
 Gv:∀S,BG (w S)
 Ex:∀z∈Z,∀j,BG (z.2 j)
 all:Ac (Z.map (·.2)) w=Ac A0 Af
 Eh:∀i,i<k->(top.getD i []).getD i 0≠0/\∀j,j<i->(top.getD i []).getD j 0=0
 Gq:0<k->(top.getD (k-1) []).getD (k-1) 0=p
 HH:∀z∈Z,∀j,Ab B (z.2 j)
 HE:∀T,Ab ((T.length*B) ^ k:Nat) (w T)
 IG:∀r∈top,∀j,Ab ((m*B) ^ n:Nat) (vr r j)
 b1:1<=B
 Kf:∀f,PX f->(∀a∈A0,f a=0)->(∀r∈top,f (vr r)=0)/\∀z∈Z,f (vr z.1)=0
 JP:∀f,PX f->(∀r∈top,f (vr r)=0)->(∀z∈Z,f (vr z.1)=0)->∀a∈A0,f a=0
def ng(z:List Int×AW):List Int×AW:=(z.1.map (λx=>-x),λj=>(-1)*z.2 j)
theorem VW(r:List Int)(j:Nat):(r.map (λx=>-x)).getD j 0=- r.getD j 0:=by
 simp only[eO,fg];cases r[j]? <;> simp
theorem LL(r:List Int):vr (r.map (λx=>-x))=λj=>(-1)*vr r j:=by
 funext j; simp only[vr,VW]; grind
theorem Bi.cP {B0 n m k:Nat} {A0:List AW} {top:List (List Int)} {f z:List Int×AW} {P Q:List (List Int×AW)} {p:Int} {w:Ap}
  (B:Bi B0 n m k A0 top (f :: P++z :: Q) p w):Bi B0 n m k A0 top (z :: P++ng f :: Q) p w:=by
 have hf:f∈f :: P++z :: Q:=by simp
 have hm:∀y∈z :: P++ng f :: Q,y∈f :: P++z :: Q\/y=ng f:=by
  intro y hy; simp at hy ⊢; grind
 refine { FR:=B.FR,Ef:=?_,nm:=B.nm,Hx:=B.Hx,DP:=?_,pz:=B.pz,pl:=B.pl,rel:=?_,EV:=?_,Gv:=B.Gv,Ex:=?_,all:=?_,Eh:=B.Eh,Gq:=B.Gq,HH:=?_,HE:=B.HE,IG:=B.IG,b1:=B.b1,Kf:=?_,JP:=?_ }
 ·have:=B.Ef; simp at this ⊢; omega
 ·intro y hy; rcases hm y hy with h | h
  ·exact B.DP y h
  ·subst h; simp[ng]; exact B.DP f hf
 ·intro y hy S; rcases hm y hy with h | h
  ·exact B.rel y h S
  ·subst h
   have:=B.rel f hf S
   simp only[ng,LL];rw[GO,GO]; grind
 ·intro y hy j hj; rcases hm y hy with h | h
  ·exact B.EV y h j hj
  ·subst h
   have:=B.EV f hf j hj
   simp only[ng,LL]; grind
 ·intro y hy j; rcases hm y hy with h | h
  ·exact B.Ex y h j
  ·subst h; exact(BG.of (-1)).EM (B.Ex f hf j)
 ·rw[<-B.all]
  funext S
  simp only[fv,fk,ng];have h1:=VY (z.2 :: P.map (·.2)) (Q.map (·.2)) (-1) f.2 w S;have h2:=Xq [] (P.map (·.2)) (Q.map (·.2)) z.2 f.2 w S;simp only[List.nil_append] at h2;rw[h1,h2]; grind
 ·intro y hy j; rcases hm y hy with h | h
  ·exact B.HH y h j
  ·subst h; exact(B.HH f hf j).neg
 ·intro g hg h0
  have:=B.Kf g hg h0
  refine⟨this.1,λy hy=>?_⟩;rcases hm y hy with h | h
  ·exact this.2 y h
  ·subst h; simp only[ng,LL]; rw[hg.GF,this.2 f hf]; grind
 ·intro g hg h1 h2;refine B.JP g hg h1 λy hy=>?_
  have hf2:=h2 (ng f) (by simp);simp only[ng,LL] at hf2;rw[hg.GF] at hf2;simp only[jn,fE,fm] at hy;rcases hy with h | h | h | h
  ·subst h; grind
  ·exact h2 y (by simp[h])
  ·subst h; exact h2 y (by simp)
  ·exact h2 y (by simp[h])
theorem TQ{p:Rat}{a b z r:AW}{w:Ap}(hp:p≠0)(ha:∀S,p*wg a w S=wg r w S)(hb:∀S,p*wg b w S=wg z w S)(S:List Bool):
  p*wg a (wg b w) S=wg r (wg b w) S:=by
 have h1:wg a (wg z w) S=p*wg a (wg b w) S:=by
  have:wg z w=λT=>p*wg b w T:=by funext T; exact(hb T).symm
  rw[this,Em]
 have h2:wg z (wg r w) S=p*wg z (wg a w) S:=by
  have:wg r w=λT=>p*wg a w T:=by funext T; exact(ha T).symm
  rw[this,Em]
 have h3:wg r (wg z w) S=p*wg r (wg b w) S:=by
  have:wg z w=λT=>p*wg b w T:=by funext T; exact(hb T).symm
  rw[this,Em]
 have h4:=Ju a z w S;have h5:=Ju z r w S
 have:p*(p*wg a (wg b w) S)=p*wg r (wg b w) S:=by grind
 grind
theorem YZ{p:Rat}{b z:AW}{w:Ap}(hb:∀S,p*wg b w S=wg z w S)(S:List Bool):wg z (wg b w) S=0:=by
 rw[Ju]
 have:wg z w=λT=>p*wg b w T:=by funext T; exact(hb T).symm
 rw[this,Em,JF]; grind
theorem LI{row lead:List Int}{k m:Nat}{p:Int}(h1:row.length=m)(h2:lead.length=m):(CZ row lead k p).length=m:=by
 simp[CZ,h1,h2]
theorem Ym{row lead:List Int}{k m:Nat}{p:Int}(h1:row.length=m)(h2:lead.length=m)(j:Nat):
  (CZ row lead k p).getD j 0=(lead.getD k 0*row.getD j 0-row.getD k 0*lead.getD j 0).fdiv p:=by
 by_cases hj:j<m
 ·have a1:row.getD j 0=row[j]:=by rw[eO,eh (by omega)]; rfl
  have a2:lead.getD j 0=lead[j]:=by rw[eO,eh (by omega)]; rfl
  have hl:j<(CZ row lead k p).length:=by rw[LI h1 h2]; exact hj
  rw[a1,a2,eO,eh hl];simp[CZ]
 ·have o:∀l:List Int,l.length=m->l.getD j 0=0:=by
   intro l hl;rw[eO,gU (by omega)]; rfl
  rw[o _ (LI h1 h2),o row h1,o lead h2];simp
theorem WB{r:List Int}{j:Nat}(h:vr r j=0):r.getD j 0=0:=by
 simp only[vr] at h; exact_mod_cast h
theorem QF {m k:Nat} {a b:AW} {r z:List Int} {p:Int} {w:Ap} (hk:k<m) (hr:r.length=m) (hzl:z.length=m) (hp:p≠0) (hpl:ld k m w=p)
  (ha:∀S,(p:Rat)*wg a w S=wg (vr r) w S) (hb:∀S,(p:Rat)*wg b w S=wg (vr z) w S) (zr:∀j,j<k->vr r j=0) (zz:∀j,j<k->vr z j=0)
  (hq:z.getD k 0≠0) (iw:∀S,BG (w S)) (ia:∀j,BG (a j)) (ib:∀j,BG (b j)) :
  ld (k+1) m (wg b w)=z.getD k 0/\(∀j,(p:Rat)*vr (CZ r z k p) j=(z.getD k 0:Int)*vr r j-(r.getD k 0:Int)*vr z j) /\
  (∀S,((z.getD k 0:Int):Rat)*wg a (wg b w) S=wg (vr (CZ r z k p)) (wg b w) S)/\∀j,j<k+1->vr (CZ r z k p) j=0:=by
 have hp':(p:Rat)≠0:=by exact_mod_cast hp
 have hq':((z.getD k 0:Int):Rat)≠0:=by exact_mod_cast hq
 have l1:ld (k+1) m (wg b w)=z.getD k 0:=by
  have h1:=bU w zz hk;have h2:ld (k+1) m (wg (vr z) w)=p*ld (k+1) m (wg b w):=by
   unfold ld; rw[<-hb]; grind
  rw[h2,hpl] at h1
  have:vr z k=((z.getD k 0:Int):Rat):=rfl
  rw[this] at h1; grind
 let M:AW:=λj=>((z.getD k 0:Int):Rat)*vr r j+(-((r.getD k 0:Int):Rat))*vr z j
 have hM:∀S,wg M (wg b w) S=((z.getD k 0:Int):Rat)*(p*wg a (wg b w) S):=by
  intro S;have e:=Jl S (λj=>((z.getD k 0:Int):Rat)*vr r j) (λj=>(-((r.getD k 0:Int):Rat))*vr z j) (wg b w);rw[GO,GO,YZ hb S,<-TQ hp' ha hb S] at e;show wg M (wg b w) S=_;rw[show M=λj=>((z.getD k 0:Int):Rat)*vr r j+(-((r.getD k 0:Int):Rat))*vr z j from rfl,e]; grind
 have zM:∀j,j<k+1->M j=0:=by
  intro j hj;show((z.getD k 0:Int):Rat)*vr r j+(-((r.getD k 0:Int):Rat))*vr z j=0;rcases gc j k with h | h
  ·rw[zr j h,zz j h]; grind
  ·have:j=k:=by omega
   subst this;show((z.getD j 0:Int):Rat)*((r.getD j 0:Int):Rat)+(-((r.getD j 0:Int):Rat))*((z.getD j 0:Int):Rat)=0
   grind
 have dv:∀j,∃c:Int,M j=p*c:=by
  intro j;rcases gc j (k+1) with h | h
  ·exact⟨0,by rw[zM j h]; grind⟩
  ·rcases gc j m with h2 | h2
   ·have h3:=OQ (v:=M) (wg b w) zM h h2;rw[hM] at h3;obtain⟨c,hc⟩:=LO (Sj (k+1) j m) a (wg b w) ia (λT=>LO T b w ib iw);have h4:wg b w (Tk (k+1) m)=B4 (k+1)*((z.getD k 0:Int):Rat):=by
     have:=Iy (k+1)
     rw[<-l1]; unfold ld; grind
    rw[h4] at h3;have h5:=Iy (k+1);have h6:=Hk (k+1);have ht:BG (sg (k+1)*B4 (k+1)):=by
     have i1:∀c,BG (sg c):=by intro c; unfold sg; split; exact⟨1,rfl⟩; exact⟨-1,rfl⟩
     have i2:∀c,BG (B4 c):=by
      intro c; induction c with
      | zero=>exact⟨1,rfl⟩
      | succ c ih=>exact ih.EM (i1 c)
     exact(i1 _).EM (i2 _)
    obtain⟨t,ht⟩:=ht;refine⟨t*c,?_⟩;rw[hc] at h3
    have:M j=sg (k+1)*B4 (k+1)*(p*c):=by
     have:((z.getD k 0:Int):Rat)*(M j)=((z.getD k 0:Int):Rat)*(sg (k+1)*B4 (k+1)*(p*c)):=by grind
     grind
    rw[this,ht]; grind
   ·refine⟨0,?_⟩;show((z.getD k 0:Int):Rat)*vr r j+(-((r.getD k 0:Int):Rat))*vr z j=_;have e1:r.getD j 0=0:=by rw[eO,gU (by omega)]; rfl
    have e2:z.getD j 0=0:=by rw[eO,gU (by omega)]; rfl
    simp only[vr,e1,e2]; grind
 have ex:∀j,(p:Rat)*vr (CZ r z k p) j=M j:=by
  intro j;obtain⟨c,hc⟩:=dv j;have hMi:M j=((z.getD k 0*r.getD j 0-r.getD k 0*z.getD j 0:Int):Rat):=by
   show((z.getD k 0:Int):Rat)*((r.getD j 0:Int):Rat)+(-((r.getD k 0:Int):Rat))*((z.getD j 0:Int):Rat)=_
   grind
  have hi:z.getD k 0*r.getD j 0-r.getD k 0*z.getD j 0=p*c:=by
   rw[hMi] at hc; exact_mod_cast hc
  simp only[vr];rw[Ym hr hzl,hi,hc,iC (Int.dvd_mul_right p c),Int.mul_ediv_cancel_left _ hp]
 have eN:(λj=>(p:Rat)*vr (CZ r z k p) j)=M:=funext ex;refine⟨l1,?_,?_,?_⟩
 ·intro j; rw[ex j];show((z.getD k 0:Int):Rat)*vr r j+(-((r.getD k 0:Int):Rat))*vr z j=_
  grind
 ·intro S;have h:=hM S;rw[<-eN,GO] at h
  grind
 ·intro j hj;have h:=ex j;rw[zM j hj] at h
  grind
theorem Bi.Ux {B0 n m k:Nat} {A0:List AW} {top:List (List Int)} {Z:List (List Int×AW)} {p:Int} {w:Ap} (B:Bi B0 n m k A0 top Z p w)
  {z:List Int×AW} (hz:z∈Z) (j:Nat):Ab ((m*B0) ^ (k+1):Nat) (vr z.1 j):=by
 have nnr:∀a:Nat,(0:Rat)<=(a:Rat):=λa=>by exact_mod_cast gP a
 have z0:Ab ((m*B0) ^ (k+1):Nat) (0:Rat):=by have:=nnr ((m*B0) ^ (k+1)); constructor <;> grind
 have hkn:=B.Ef;have hnm:=B.nm;have hl:0<Z.length:=iI hz;rcases gc j k with h | h
 ·rw[B.EV z hz j h]; exact z0
 ·rcases gc j m with h2 | h2
  ·have e:=OQ (v:=vr z.1) w (B.EV z hz) h h2;rw[<-B.rel z hz] at e;have hp:(p:Rat)≠0:=by have:=B.pz; exact_mod_cast this
   have ht:w (Tk k m)=B4 k*p:=by
    have:=Iy k
    have:=B.pl
    unfold ld at this; grind
   rw[ht] at e;have e2:vr z.1 j=sg k*B4 k*wg z.2 w (Sj k j m):=by
    have h5:=Iy k;have h6:=Hk k
    have:p*(vr z.1 j)=p*(sg k*B4 k*wg z.2 w (Sj k j m)):=by grind
    grind
   have ls:(Sj k j m).length=m:=by unfold Sj; simp; omega
   have bd:=OZ (V:=(B0:Nat)) (W:=((m*B0) ^ k:Nat)) (Sj k j m) z.2 w (B.HH z hz) (λT hT=>by have:=B.HE T; rw[hT,ls] at this; exact this);rw[ls] at bd;have eb:((m:Nat):Rat)*(((B0:Nat):Rat)*(((m*B0) ^ k:Nat):Rat))=(((m*B0) ^ (k+1):Nat):Rat):=by
    rw[Nat.pow_succ]
    have:m*(B0*(m*B0) ^ k)=(m*B0) ^ k*(m*B0):=by rw[<-Nat.mul_assoc,Nat.mul_comm]
    rw[<-this]; simp[Rat.natCast_mul]
   rw[eb] at bd;rw[e2];have s1:∀c,sg c=1\/sg c=-1:=by intro c; unfold sg; split; exact .inl rfl; exact .inr rfl
   have s2:∀c,B4 c=1\/B4 c=-1:=by
    intro c; induction c with
    | zero=>exact .inl rfl
    | succ c ih =>
     simp only[B4];rcases ih with a | a <;> rcases s1 c with b | b <;> rw[a,b] <;> grind
   rcases s1 k with a | a <;> rcases s2 k with b | b <;> rw[a,b]
   ·simpa using bd
   ·have:=bd.neg; simpa using this
   ·have:=bd.neg; simpa using this
   ·rw[show(-1:Rat) * -1*wg z.2 w (Sj k j m)=wg z.2 w (Sj k j m) by grind]; exact bd
  ·have e1:z.1.getD j 0=0:=by rw[eO,gU (by rw[B.DP z hz]; omega)]; rfl
   have:vr z.1 j=0:=by simp only[vr,e1]; rfl
   rw[this]; exact z0
theorem TR{a i n:Nat}(h:1<=a)(hi:i<=n):a ^ i<=a ^ n:=gZ h hi
theorem Bi.step {B0 n m k:Nat} {A0:List AW} {top:List (List Int)} {z:List Int×AW} {Z:List (List Int×AW)} {p:Int} {w:Ap}
  (B:Bi B0 n m k A0 top (z :: Z) p w) (hq:z.1.getD k 0≠0) :
  Bi B0 n m (k+1) A0 (top++[z.1]) (Z.map λy=>(CZ y.1 z.1 k p,y.2)) (z.1.getD k 0) (wg z.2 w):=by
 have hkn:=B.Ef;have hnm:=B.nm;simp at hkn;have hkm:k<m:=by omega
 have hz:z∈z :: Z:=by simp
 have key:∀y∈Z,_:=λy hy=>QF hkm (B.DP y (by simp[hy])) (B.DP z hz) B.pz B.pl (B.rel y (by simp[hy])) (B.rel z hz) (B.EV y (by simp[hy])) (B.EV z hz) hq B.Gv (B.Ex y (by simp[hy])) (B.Ex z hz)
 have l1:=(QF hkm (B.DP z hz) (B.DP z hz) B.pz B.pl (B.rel z hz) (B.rel z hz) (B.EV z hz) (B.EV z hz) hq B.Gv (B.Ex z hz) (B.Ex z hz)).1;have hp':(p:Rat)≠0:=by have:=B.pz; exact_mod_cast this
 have hlT:=B.FR;refine { FR:=by simp[B.FR],Ef:=by simp; omega,nm:=B.nm,Hx:=?_,DP:=?_,pz:=hq,pl:=l1,rel:=?_,EV:=?_,Gv:=λS=>LO S z.2 w (B.Ex z hz) B.Gv,Ex:=?_,all:=?_,Eh:=?_,Gq:=?_,HH:=?_,HE:=?_,IG:=?_,b1:=B.b1,Kf:=?_,JP:=?_ }
 ·intro r hr; simp at hr; rcases hr with h | h
  ·exact B.Hx r h
  ·subst h; exact B.DP z hz
 ·intro y hy; simp at hy; obtain⟨a,b,hab,rfl⟩:=hy;exact LI (B.DP (a,b) (by simp[hab])) (B.DP z hz)
 ·intro y hy S; simp at hy; obtain⟨a,b,hab,rfl⟩:=hy;exact(key (a,b) hab).2.2.1 S
 ·intro y hy; simp at hy; obtain⟨a,b,hab,rfl⟩:=hy;exact(key (a,b) hab).2.2.2
 ·intro y hy; simp at hy; obtain⟨a,b,hab,rfl⟩:=hy;exact B.Ex (a,b) (by simp[hab])
 ·rw[<-B.all]; simp[Ac,Function.comp_def]
 ·intro i hi;rcases gc i k with h | h
  ·have:(top++[z.1]).getD i []=top.getD i []:=by
    rw[eO,eO,fN (by omega)]
   rw[this]; exact B.Eh i h
  ·have:i=k:=by omega
   subst this
   have:(top++[z.1]).getD i []=z.1:=by
    rw[eO,fu (by omega),hlT]; simp
   rw[this];exact⟨hq,λj hj=>WB (B.EV z hz j hj)⟩
 ·intro _
  have:(top++[z.1]).getD (k+1-1) []=z.1:=by
   rw[eO,fu (by omega)]; simp[hlT]
  rw[this]; rfl
 ·intro y hy; simp at hy; obtain⟨a,b,hab,rfl⟩:=hy;exact B.HH (a,b) (by simp[hab])
 ·intro T;have bd:=OZ (V:=(B0:Nat)) (W:=((T.length*B0) ^ k:Nat)) T z.2 w (B.HH z hz) (λU hU=>by have:=B.HE U; rw[hU] at this; exact this);have eb:((T.length:Nat):Rat)*(((B0:Nat):Rat)*(((T.length*B0) ^ k:Nat):Rat))=(((T.length*B0) ^ (k+1):Nat):Rat):=by
   rw[Nat.pow_succ]
   have:T.length*(B0*(T.length*B0) ^ k)=(T.length*B0) ^ k*(T.length*B0):=by rw[<-Nat.mul_assoc,Nat.mul_comm]
   rw[<-this]; simp[Rat.natCast_mul]
  rw[eb] at bd;exact bd
 ·intro r hr j; simp at hr; rcases hr with h | h
  ·exact B.IG r h j
  ·subst h;refine(B.Ux hz j).le ?_
   have:=B.b1
   have h1:1<=m*B0:=Nat.mul_pos (by omega) (by omega)
   exact_mod_cast TR h1 (by omega)
 ·intro f hf h0;have hl:=B.Kf f hf h0;refine⟨?_,?_⟩
  ·intro r hr; simp at hr; rcases hr with h | h
   ·exact hl.1 r h
   ·subst h; exact hl.2 z hz
  ·intro y hy; simp at hy; obtain⟨a,b,hab,rfl⟩:=hy;have h1:=(key (a,b) hab).2.1;have e:(λj=>(p:Rat)*vr (CZ a z.1 k p) j)=λj=>(λj=>((z.1.getD k 0:Int):Rat)*vr a j) j+(λj=>(-((a.getD k 0:Int):Rat))*vr z.1 j) j:=by
    funext j; rw[h1 j]; grind
   have h2:=congrArg f e;rw[hf.GF,hf.DS,hf.GF,hf.GF,hl.2 z hz,hl.2 (a,b) (by simp[hab])] at h2
   grind
 ·intro f hf h1 h2;have fz:f (vr z.1)=0:=h1 z.1 (by simp);have hq':((z.1.getD k 0:Int):Rat)≠0:=by exact_mod_cast hq
  refine B.JP f hf (λr hr=>h1 r (by simp[hr])) λy hy=>?_
  rcases fE.mp hy with h | h
  ·subst h; exact fz
  ·have e1:=(key y h).2.1;have e:(λj=>(p:Rat)*vr (CZ y.1 z.1 k p) j)=λj=>(λj=>((z.1.getD k 0:Int):Rat)*vr y.1 j) j+(λj=>(-((y.1.getD k 0:Int):Rat))*vr z.1 j) j:=by
    funext j; rw[e1 j]; grind
   have h3:=congrArg f e;rw[hf.GF,hf.DS,hf.GF,hf.GF,fz,h2 _ (List.mem_map_of_mem h)] at h3
   grind
theorem YL(Z:List (List Int×AW)):∀{p:Rat} {w:Ap},p≠0->(∀z∈Z,∀S,p*wg z.2 w S=wg (vr z.1) w S) →
  ∃c:Rat,c≠0/\∀S,c*Ac (Z.map (·.2)) w S=Ac (Z.map (λz=>vr z.1)) w S:=by
 induction Z with
 | nil=>intro p w _ _; exact⟨1,by grind,λS=>by simp[Ac]⟩
 | cons z Z ih =>
  intro p w hp h;obtain⟨c,hc,hS⟩:=ih (p:=p) (w:=wg z.2 w) hp (λy hy S=>TQ hp (h y (by simp[hy])) (h z (by simp)) S);refine⟨p*c,by grind,λS=>?_⟩;simp only[fk,Ac];have e:wg (vr z.1) w=λT=>p*wg z.2 w T:=by funext T; exact(h z (by simp) T).symm
  rw[e,GU];simp only[];rw[<-hS]; grind
theorem Bi.none {B0 n m k:Nat} {A0:List AW} {top:List (List Int)} {Z:List (List Int×AW)} {p:Int} {w:Ap}
  (B:Bi B0 n m k A0 top Z p w) (hkn:k<n) (h0:∀z∈Z,z.1.getD k 0=0):ld n m (Ac A0 Af)=0:=by
 have hp':(p:Rat)≠0:=by have:=B.pz; exact_mod_cast this
 obtain⟨c,hc,hS⟩:=YL Z hp' B.rel;have h:=ZR (c:=k+1) (n:=n) (m:=m) (L:=Z.map (λz=>vr z.1)) w ?_ (by omega) (by have:=B.Ef; simp; omega)
 ·rw[<-hS,B.all] at h;unfold ld; grind
 ·intro v hv j hj;rw[fi] at hv;obtain⟨z,hz,rfl⟩:=hv;rcases gc j k with h | h
  ·exact B.EV _ hz j h
  ·have:j=k:=by omega
   subst this
   have:=h0 _ hz
   simp only[vr]; rw[this]; rfl
theorem Bi.dZ{B0 n m:Nat}{R:List (List Int)}(hb1:1<=B0)(hb:∀r∈R,∀j,Ab B0 (vr r j))(h1:R.length=n)(h2:n<=m)(h3:∀r∈R,r.length=m):
  Bi B0 n m 0 (R.map vr) [] (R.map λr=>(r,vr r)) 1 Af:=by
 refine { FR:=rfl,Ef:=by simp[h1],nm:=h2,Hx:=by simp,DP:=?_,pz:=by omega,pl:=?_,rel:=?_,EV:=by intro _ _ j hj; omega,Gv:=NM,Ex:=?_,all:=?_,Eh:=by intro i hi; omega,Gq:=by intro h; omega,HH:=?_,HE:=?_,IG:=by simp,b1:=hb1,Kf:=?_,JP:=?_ }
 ·intro z hz; simp at hz; obtain⟨a,ha,rfl⟩:=hz; exact h3 a ha
 ·rw[OA]; rfl
 ·intro z hz S; simp at hz; obtain⟨a,ha,rfl⟩:=hz; simp only[]; grind
 ·intro z hz j; simp at hz; obtain⟨a,ha,rfl⟩:=hz; exact⟨_,rfl⟩
 ·simp[Function.comp_def]
 ·intro z hz j; simp at hz; obtain⟨a,ha,rfl⟩:=hz; exact hb a ha j
 ·intro T
  have:Af T=1\/Af T=0:=by
   induction T with
   | nil=>exact .inl rfl
   | cons b T ih=>cases b; exact ih; exact .inr rfl
  rw[Nat.pow_zero];rcases this with h | h <;> rw[h] <;> constructor <;> grind
 ·intro f hf h0; refine⟨by simp,?_⟩;intro z hz; simp at hz; obtain⟨a,ha,rfl⟩:=hz; exact h0 _ (List.mem_map_of_mem ha)
 ·intro f hf h1 h2 a ha;obtain⟨r,hr,rfl⟩:=fi.mp ha;exact h2 (r,vr r) (fi.mpr ⟨r,hr,rfl⟩)
theorem Bi.fin {B0 n m:Nat} {A0:List AW} {top:List (List Int)} {Z:List (List Int×AW)} {p:Int} {w:Ap}
  (B:Bi B0 n m n A0 top Z p w):Z=[]/\ld n m (Ac A0 Af)=p:=by
 have:Z=[]:=by have:=B.Ef; exact List.length_eq_zero_iff.mp (by omega)
 subst this;refine⟨rfl,?_⟩;rw[<-B.all]; exact B.pl
end Wd
namespace Mth
theorem Fj(t b : Int)(h : b ≠ 0): BK t b = (((t : Rat) / (b : Rat)).num, (((t : Rat) / (b : Rat)).den : Int)) := by
  have g := Xz t b h;have p := Q5 t b h;have c := Pu t b;generalize (BK t b) = x at *;obtain⟨n, d⟩ := x;simp only at g p c;have hd : d = (d.toNat : Int) := by omega
  have hn : d.toNat ≠ 0 := by omega
  have hc : n.natAbs.Coprime d.toNat := by
    have : Int.gcd n d = n.natAbs.gcd d.toNat := by rw[Int.gcd]; congr 1; omega
    unfold Nat.Coprime; rw[<- this]; exact g
  let r : Rat := ⟨n, d.toNat, hn, hc⟩
  have hr : r * (d : Rat) = n := by
    have h1 : r = (n : Rat) / ((d.toNat : Nat) : Rat) := by
      have := Rat.num_divInt_den r;rw[<- this, Rat.divInt_eq_div]; rfl
    have h2 : ((d.toNat : Nat) : Rat) = (d : Rat) := by
      have : ((d.toNat : Nat) : Rat) = (((d.toNat : Nat) : Int) : Rat) := rfl;rw[this, <- hd]
    have h3 : (d : Rat) ≠ 0 := by have : d ≠ 0 := by omega
                                  exact_mod_cast this
    rw[h1, h2]; grind
  have hb : (b : Rat) ≠ 0 := by exact_mod_cast h
  have hd0 : (d : Rat) ≠ 0 := by have : d ≠ 0 := by omega
                                 exact_mod_cast this
  have cr : (n : Rat) * b = t * d := by exact_mod_cast c
  have e : (t : Rat) / (b : Rat) = r := by grind
  rw[e];show(n, d) = (n, ((d.toNat : Nat) : Int));rw[<- hd]
def fr(q:Rat):Int×Int:=(q.num,q.den)
theorem FD(q:Rat):q*((q.den:Nat):Rat)=q.num:=by
 have h1:=Rat.num_divInt_den q;rw[Rat.divInt_eq_div] at h1
 have:((q.den:Nat):Rat)≠0:=by exact_mod_cast q.den_nz
 have h2:(((q.den:Nat):Int):Rat)=((q.den:Nat):Rat):=rfl;rw[h2] at h1
 grind
theorem IM(q:Rat):((q.den:Nat):Rat)≠0:=by exact_mod_cast q.den_nz
theorem ic(n:Nat):(((n:Nat):Int):Rat)=((n:Nat):Rat):=rfl
theorem OB(p q:Rat):BK (p.num*q.den+q.num*p.den) (p.den*q.den)=fr (p+q):=by
 have hp:=p.den_nz;have hq:=q.den_nz;have h:((p.den:Int)*(q.den:Int))≠0:=i7 (by omega) (by omega);rw[Fj _ _ h];have e:(((p.num*q.den+q.num*p.den:Int)):Rat) / (((p.den:Int)*(q.den:Int):Int):Rat)=p+q:=by
  have:=FD p; have:=FD q; have:=IM p; have:=IM q
  simp only[Rat.intCast_add,gK,ic]
  grind
 rw[e]; rfl
theorem OJ(p q:Rat):BK (p.num*q.den-q.num*p.den) (p.den*q.den)=fr (p-q):=by
 have hp:=p.den_nz;have hq:=q.den_nz;have h:((p.den:Int)*(q.den:Int))≠0:=i7 (by omega) (by omega);rw[Fj _ _ h];have e:(((p.num*q.den-q.num*p.den:Int)):Rat) / (((p.den:Int)*(q.den:Int):Int):Rat)=p-q:=by
  have:=FD p; have:=FD q; have:=IM p; have:=IM q
  simp only[Rat.intCast_sub,gK,ic]
  grind
 rw[e]; rfl
theorem OE(p q:Rat):BK (p.num*q.num) (p.den*q.den)=fr (p*q):=by
 have hp:=p.den_nz;have hq:=q.den_nz;have h:((p.den:Int)*(q.den:Int))≠0:=i7 (by omega) (by omega);rw[Fj _ _ h];have e:(((p.num*q.num:Int)):Rat) / (((p.den:Int)*(q.den:Int):Int):Rat)=p*q:=by
  have:=FD p; have:=FD q; have:=IM p; have:=IM q
  simp only[gK,ic]
  grind
 rw[e]; rfl
def Sb(n d:Nat)(q:Rat):Prop:=q.num.natAbs<=2 ^ n/\q.den<=2 ^ d
theorem ZK{t b:Int}(h:b≠0):(BK t b).1.natAbs<=t.natAbs/\(BK t b).2.natAbs<=b.natAbs:=by
 have h1:=Lb t b;have h2:=J6 t b;have h3:=Jw t b h;have a1:t.natAbs=(BK t b).1.natAbs*(part t b).natAbs:=by rw[<-Int.natAbs_mul,h1]
 have a2:b.natAbs=(BK t b).2.natAbs*(part t b).natAbs:=by rw[<-Int.natAbs_mul,h2]
 have a3:1<=(part t b).natAbs:=by omega
 rw[a1,a2];exact⟨Nat.le_mul_of_pos_right _ a3,Nat.le_mul_of_pos_right _ a3⟩
theorem Li{t b:Int}{n d:Nat}(h:b≠0)(h1:t.natAbs<=2 ^ n)(h2:b.natAbs<=2 ^ d){q:Rat}(e:BK t b=fr q):Sb n d q:=by
 have:=ZK (t:=t) h
 rw[e] at this;simp only[fr,gj] at this;exact⟨by omega,by omega⟩
theorem Ck{a b m n:Nat}(h:a<=2 ^ m)(g:b<=2 ^ n):a*b<=2 ^ (m+n):=by rw[Nat.pow_add]; exact Nat.mul_le_mul h g
theorem JS(p q:Rat):((p.den:Int)*(q.den:Int))≠0:=by
 have hp:=p.den_nz;have hq:=q.den_nz;exact i7 (by omega) (by omega)
theorem Sb.EM{n d n' d':Nat}{p q:Rat}(h:Sb n d p)(g:Sb n' d' q):Sb (n+n') (d+d') (p*q):=by
 refine Li (JS p q) ?_ ?_ (OE p q)
 ·rw[gD]; exact Ck h.1 g.1
 ·rw[gD,gj,gj]; exact Ck h.2 g.2
theorem Sb.DS{n d n' d' N:Nat}{p q:Rat}(h:Sb n d p)(g:Sb n' d' q)(h1:n+d'<=N)(h2:n' + d<=N):Sb (N+1) (d+d') (p+q):=by
 refine Li (JS p q) ?_ ?_ (OB p q)
 ·have a1:(p.num*q.den).natAbs<=2 ^ N:=by
   rw[gD,gj];exact fY (Ck h.1 g.2) (gZ (by decide) h1)
  have a2:(q.num*p.den).natAbs<=2 ^ N:=by
   rw[gD,gj];exact fY (Ck g.1 h.2) (gZ (by decide) h2)
  have:=Int.natAbs_add_le (p.num*q.den) (q.num*p.den)
  rw[Nat.pow_succ]; omega
 ·rw[gD,gj,gj]; exact Ck h.2 g.2
theorem Sb.sub{n d n' d' N:Nat}{p q:Rat}(h:Sb n d p)(g:Sb n' d' q)(h1:n+d'<=N)(h2:n' + d<=N):Sb (N+1) (d+d') (p-q):=by
 refine Li (JS p q) ?_ ?_ (OJ p q)
 ·have a1:(p.num*q.den).natAbs<=2 ^ N:=by
   rw[gD,gj];exact fY (Ck h.1 g.2) (gZ (by decide) h1)
  have a2:(q.num*p.den).natAbs<=2 ^ N:=by
   rw[gD,gj];exact fY (Ck g.1 h.2) (gZ (by decide) h2)
  have:=Int.natAbs_sub_le (p.num*q.den) (q.num*p.den)
  rw[Nat.pow_succ]; omega
 ·rw[gD,gj,gj]; exact Ck h.2 g.2
theorem Sb.mono{n d n' d':Nat}{p:Rat}(h:Sb n d p)(h1:n<=n')(h2:d<=d'):Sb n' d' p :=
 ⟨fY h.1 (gZ (by decide) h1),fY h.2 (gZ (by decide) h2)⟩
theorem Sb.zero:Sb 0 0 0:=by constructor <;> decide
theorem Sb.Af:Sb 0 0 1:=by constructor <;> decide
def Cz(c:Int)(q:Rat):Int:=c.fdiv (Int.gcd c q.den:Int)*q.den
def cb(r:List Rat):Int:=r.foldl Cz 1
theorem S9{c:Int}(h:0<c)(q:Rat):0<Cz c q/\c ∣ Cz c q/\(q.den:Int) ∣ Cz c q/\Cz c q<=c*q.den:=by
 have hq:=q.den_nz;have hg:0<Int.gcd c q.den:=Int.gcd_pos_of_ne_zero_left _ (by omega);obtain⟨x,hx⟩:=Int.gcd_dvd_left c (q.den:Int);obtain⟨y,hy⟩:=Int.gcd_dvd_right c (q.den:Int);generalize hG:Int.gcd c (q.den:Int)=G at *;have hG0:(G:Int)≠0:=by omega
 have e:c.fdiv (G:Int)=x:=by
  rw[iC ⟨x,hx⟩]
  conv=>lhs; rw[hx]
  rw[Int.mul_ediv_cancel_left _ hG0]
 have hx0:0<x:=by
  rcases Int.lt_or_le 0 x with h' | h'
  ·exact h'
  ·have:(G:Int)*x<=0:=Int.mul_nonpos_of_nonneg_of_nonpos (by omega) h'
   omega
 have hq0:(0:Int)<q.den:=by omega
 unfold Cz;rw[hG,e];refine⟨Int.mul_pos hx0 hq0,⟨y,?_⟩,⟨x,Int.mul_comm _ _⟩,?_⟩
 ·conv=>lhs; rw[hy]
  conv=>rhs; rw[hx]
  rw[Int.mul_left_comm,Int.mul_assoc]
 ·refine Int.mul_le_mul_of_nonneg_right ?_ (by omega)
  have:1*x<=(G:Int)*x:=Int.mul_le_mul_of_nonneg_right (by omega) (by omega)
  omega
theorem Tp(r:List Rat):∀{c:Int} {D d:Nat},0<c->c.natAbs<=2 ^ D->(∀q∈r,q.den<=2 ^ d) →
  0<r.foldl Cz c/\c ∣ r.foldl Cz c/\(∀q∈r,(q.den:Int) ∣ r.foldl Cz c)/\(r.foldl Cz c).natAbs<=2 ^ (D+d*r.length):=by
 induction r with
 | nil=>intro c D d h g _; exact⟨h,Int.dvd_refl _,by simp,by simpa using g⟩
 | cons q r ih =>
  intro c D d h g hd;obtain⟨a1,a2,a3,a4⟩:=S9 h q;have hq:=hd q (by simp);have a5:(Cz c q).natAbs<=2 ^ (D+d):=by
   have h5:(Cz c q).natAbs<=c.natAbs*q.den:=by
    have e1:((c.natAbs*q.den:Nat):Int)=c*q.den:=by rw[Int.natCast_mul]; congr 1; omega
    omega
   exact fY h5 (Ck g hq)
  obtain⟨b1,b2,b3,b4⟩:=ih (D:=D+d) (d:=d) a1 a5 (λp hp=>hd p (by simp[hp]));refine⟨b1,Int.dvd_trans a2 b2,?_,?_⟩
  ·intro p hp;rcases fE.mp hp with rfl | hp
   ·exact Int.dvd_trans a3 b2
   ·exact b3 p hp
  ·rw[gq,iU]
   have:D+(d*r.length+d)=D+d+d*r.length:=by omega
   rw[this]; exact b4
def wh(b:Int)(q:Rat):Int:=q.num*b.fdiv q.den
theorem S6{b:Int}{q:Rat}(h:(q.den:Int) ∣ b):((wh b q:Int):Rat)=b*q:=by
 obtain⟨x,hx⟩:=h;have hq:=q.den_nz;have e:b.fdiv q.den=x:=by
  rw[iC ⟨x,hx⟩,hx,Int.mul_ediv_cancel_left _ (by omega)]
 unfold wh;rw[e,hx]
 have:=FD q
 simp only[gK,ic]
 grind
end Mth
namespace Wd
open Mth
def JM(R:List (List Int))(k i:Nat):List (List Int):=if i=k then R else (R.set k (R.getD i [])).set i ((R.getD k []).map λx=>-x)
theorem OF{α:Type}(A B:List α)(x d:α){i:Nat}(h:A.length=i):(A++x :: B).getD i d=x:=by
 subst h;rw[eO,fu (eU _)]; simp
theorem SN{α:Type}(A B:List α)(x y:α){i:Nat}(h:A.length=i):(A++x :: B).set i y=A++y :: B:=by
 subst h;rw[List.set_append_right _ _ (eU _)]; simp
theorem Bi.dY {B0 n m k:Nat} {A0:List AW} {top:List (List Int)} {Z:List (List Int×AW)} {p:Int} {w:Ap} (B:Bi B0 n m k A0 top Z p w) {i:Nat} (h1:k<=i) (h2:i<n)
  (h3:((top++Z.map (·.1)).getD i []).getD k 0≠0):∃z Z',Bi B0 n m k A0 top (z :: Z') p w/\JM (top++Z.map (·.1)) k i=top++z.1 :: Z'.map (·.1)/\z.1.getD k 0≠0:=by
 have hl:=B.Ef;have ht:=B.FR;cases Z with
 | nil=>simp at hl; omega
 | cons f Zr =>
  by_cases hik:i=k
  ·subst hik;refine⟨f,Zr,B,?_,?_⟩
   ·unfold JM; rw[ff rfl]; rfl
   ·rw[fk,OF _ _ _ _ ht] at h3; exact h3
  ·have hj:i-k-1<Zr.length:=by simp at hl; omega
   have e:Zr=Zr.take (i-k-1)++Zr[i-k-1] :: Zr.drop (i-k-1+1):=by rw[iV,iN]
   generalize Zr.take (i-k-1)=P0 at e;have hP0:(Zr.take (i-k-1)).length=i-k-1:=by simp; omega
   have hPl:P0.length=i-k-1:=by
    have:=congrArg List.length e
    simp at this; omega
   generalize Zr[i-k-1]=z at e;generalize Zr.drop (i-k-1+1)=Q at e;subst e;have B':Bi B0 n m k A0 top (f :: P0++z :: Q) p w:=B;have e1:top++List.map (·.1) (f :: (P0++z :: Q))=(top++f.1 :: P0.map (·.1))++z.1 :: Q.map (·.1):=by simp
   have l1:(top++f.1 :: P0.map (·.1)).length=i:=by simp; omega
   have gi:(top++List.map (·.1) (f :: (P0++z :: Q))).getD i []=z.1:=by rw[e1]; exact OF _ _ _ _ l1
   have gk:(top++List.map (·.1) (f :: (P0++z :: Q))).getD k []=f.1:=by rw[fk]; exact OF _ _ _ _ ht
   refine⟨z,P0++ng f :: Q,B'.cP,?_,?_⟩
   ·unfold JM;rw[eZ hik,gi,gk,fk,SN _ _ _ _ ht];have e2:top++z.1 :: List.map (·.1) (P0++z :: Q)=(top++z.1 :: P0.map (·.1))++z.1 :: Q.map (·.1):=by simp
    rw[e2,SN _ _ _ _ (by simp; omega)];simp[ng]
   ·rw[gi] at h3; exact h3
theorem FI{N:Nat}{x:Int}(h:Ab ((N:Nat):Rat) ((x:Int):Rat)):x.natAbs<=N:=by
 obtain⟨h1,h2⟩:=h;have a:x<=(N:Int):=by
  have:((x:Int):Rat)<=(((N:Nat):Int):Rat):=h2
  exact_mod_cast this
 have b:-(N:Int)<=x:=by
  have:((-(N:Int):Int):Rat)<=((x:Int):Rat):=by rw[Rat.intCast_neg]; exact h1
  exact_mod_cast this
 omega
theorem Hd{N:Nat}{x:Int}(h:x.natAbs<=N):Ab ((N:Nat):Rat) ((x:Int):Rat):=by
 have a:x<=(N:Int):=by omega
 have b:-(N:Int)<=x:=by omega
 constructor
 ·have:((-(N:Int):Int):Rat)<=((x:Int):Rat):=by exact_mod_cast b
  rw[Rat.intCast_neg] at this; exact this
 ·have:((x:Int):Rat)<=(((N:Nat):Int):Rat):=by exact_mod_cast a
  exact this
theorem mem_getD{r:List Int}{x:Int}(h:x∈r):∃j,r.getD j 0=x:=by
 obtain⟨j,hj,e⟩:=fP h;exact⟨j,by rw[eO,eh hj]; exact e⟩
theorem Qh{r:List Int}{N:Nat}(h:∀x∈r,x.natAbs<=N)(j:Nat):(r.getD j 0).natAbs<=N:=by
 rw[eO];by_cases hj:j<r.length
 ·rw[eh hj]; exact h _ (iq hj)
 ·rw[gU (by omega)]; simp
def vq(r:List Rat):AW:=λj=>r.getD j 0
def dt(n m:Nat)(T:List (List Rat)):Rat:=ld n m (Ac (T.map vq) Af)
theorem OP{b:Int}{r:List Rat}(h:∀q∈r,(q.den:Int) ∣ b):vr (r.map (wh b))=λj=>(b:Rat)*vq r j:=by
 funext j
 simp only[vr,vq,eO,fg];cases e:r[j]? with
 | none=>simp
 | some q=>simp; exact S6 (h q (eQ e))
def ED:List Int->Int
 | []=>1
 | b :: L=>b*ED L
theorem V1(T:List (List Rat))(β:List Rat->Int)(h:∀r∈T,∀q∈r,(q.den:Int) ∣ β r):
  ∀w S,Ac (T.map λr=>vr (r.map (wh (β r)))) w S=((ED (T.map β):Int):Rat)*Ac (T.map vq) w S:=by
 induction T with
 | nil=>intro w S; simp[Ac,ED]
 | cons r T ih =>
  intro w S;simp only[fk,Ac,ED];rw[ih (λr' hr'=>h r' (by simp[hr']))];have e:wg (vr (r.map (wh (β r)))) w=λT=>((β r:Int):Rat)*wg (vq r) w T:=by
   funext T; rw[OP (h r (by simp))]; exact GO T _ _ w
  rw[e,GU,gK]; grind
theorem MO{n m:Nat}(T:List (List Rat))(β:List Rat->Int)(h:∀r∈T,∀q∈r,(q.den:Int) ∣ β r):
  ld n m (Ac ((T.map λr=>r.map (wh (β r))).map vr) Af)=((ED (T.map β):Int):Rat)*dt n m T:=by
 unfold dt ld;rw[gG]
 have:=V1 T β h Af (Tk n m)
 have e:(vr ∘ λr:List Rat=>List.map (wh (β r)) r)=λr:List Rat=>vr (r.map (wh (β r))):=rfl
 rw[e,this]
 grind
theorem Qi(L:List Int){d:Nat}:(∀b∈L,0<b/\b.natAbs<=2 ^ d)->0<ED L/\(ED L).natAbs<=2 ^ (d*L.length):=by
 induction L with
 | nil=>intro _; exact⟨by decide,by simp[ED]⟩
 | cons b L ih =>
  intro h;obtain⟨h1,h2⟩:=ih (λx hx=>h x (by simp[hx]));obtain⟨g1,g2⟩:=h b (by simp);refine⟨Int.mul_pos g1 h1,?_⟩;simp only[ED];rw[gD,gq,iU,Nat.add_comm];exact Ck g2 h2
def Ak(f:Nat->Rat):Nat->Rat
 | 0=>0
 | n+1=>Ak f n+f n
theorem Mt{f:Nat->Rat}{i:Nat}:∀{n:Nat},i<n->(∀l,l<n->l≠i->f l=0)->Ak f n=f i:=by
 intro n
 induction n with
 | zero=>intro h; omega
 | succ n ih =>
  intro h g;by_cases hi:i=n
  ·subst hi
   have:∀m,m<=i->Ak f m=0:=by
    intro m
    induction m with
    | zero=>intro _; rfl
    | succ m ihm=>intro hm; simp only[Ak]; rw[ihm (by omega),g m (by omega) (by omega)]; grind
   simp only[Ak]; rw[this i (eU _)]; grind
  ·simp only[Ak];rw[ih (by omega) (λl hl hne=>g l (by omega) hne),g n (by omega) (by omega)]; grind
def en(T:List (List Rat))(i j:Nat):Rat:=(T.getD i []).getD j 0
theorem Jj{f:Nat->Rat}:∀{n:Nat},(∀l,l<n->f l=0)->Ak f n=0:=by
 intro n
 induction n with
 | zero=>intro _; rfl
 | succ n ih=>intro h; simp only[Ak]; rw[ih (λl hl=>h l (by omega)),h n (by omega)]; grind
end Wd
namespace Wd
def fx(n:Nat)(x:Nat->Rat):AW->Rat:=λv=>Ak (λj=>v j*x j) n-v n
theorem Ih(f g:Nat->Rat):∀n,Ak (λj=>f j+g j) n=Ak f n+Ak g n:=by
 intro n
 induction n with
 | zero=>simp only[Ak]; grind
 | succ n ih=>simp only[Ak]; rw[ih]; grind
theorem QK(c:Rat)(f:Nat->Rat):∀n,Ak (λj=>c*f j) n=c*Ak f n:=by
 intro n
 induction n with
 | zero=>simp only[Ak]; grind
 | succ n ih=>simp only[Ak]; rw[ih]; grind
theorem Df{f g:Nat->Rat}:∀{n},(∀j,j<n->f j=g j)->Ak f n=Ak g n:=by
 intro n
 induction n with
 | zero=>intro _; rfl
 | succ n ih=>intro h; simp only[Ak]; rw[ih (λj hj=>h j (by omega)),h n (by omega)]
theorem Tf(n:Nat)(x:Nat->Rat):PX (fx n x):=by
 constructor
 ·intro u v;have e:Ak (λj=>(u j+v j)*x j) n=Ak (λj=>u j*x j+v j*x j) n:=Df (λj _=>by grind);simp only[fx];rw[e,Ih]; grind
 ·intro c v;have e:Ak (λj=>c*v j*x j) n=Ak (λj=>c*(v j*x j)) n:=Df (λj _=>by grind);simp only[fx];rw[e,QK]; grind
theorem Y4{n:Nat}(A:Nat->AW)(hd:∀i,i<n->A i i≠0)(hz:∀i j,i<n->j<i->A i j=0):∀k,k<=n->∃x:Nat->Rat,∀i,n-k<=i->i<n->fx n x (A i)=0:=by
 intro k
 induction k with
 | zero=>intro _; exact⟨λ_=>0,λi h1 h2=>by omega⟩
 | succ k ih =>
  intro hk;obtain⟨x,hx⟩:=ih (by omega)
  let i0:=n-(k+1)
  have hi0:i0<n:=by show n-(k+1)<n; omega
  let rest:=Ak (λj=>if j=i0 then 0 else A i0 j*x j) n
  let x':Nat->Rat:=λj=>if j=i0 then (A i0 n-rest) / A i0 i0 else x j
  refine⟨x',λi h1 h2=>?_⟩;have split:∀(B:AW) (y:Nat->Rat),Ak (λj=>B j*y j) n=B i0*y i0+Ak (λj=>if j=i0 then 0 else B j*y j) n:=by
   intro B y;have e:Ak (λj=>B j*y j) n=Ak (λj=>(if j=i0 then B i0*y i0 else 0)+(if j=i0 then 0 else B j*y j)) n:=by
    refine Df λj _=>?_
    by_cases h:j=i0
    ·simp only[ff h,h]; grind
    ·simp only[eZ h]; grind
   rw[e,Ih];congr 1;rw[Mt (i:=i0) hi0 (λl _ hne=>eZ hne)];simp
  by_cases hii:i=i0
  ·subst hii;have hne:=hd i0 hi0;have e2:Ak (λj=>if j=i0 then 0 else A i0 j*x' j) n=rest:=by
    refine Df λj _=>?_
    by_cases h:j=i0
    ·simp only[ff h]
    ·simp only[eZ h,x']
   simp only[fx];rw[split,e2];simp only[x',ff]
   grind
  ·have hgt:i0<i:=by
    have:n-(k+1)<=i:=h1
    show n-(k+1)<i
    have:i≠n-(k+1):=hii
    omega
   have h3:=hx i (by have:n-(k+1)<i:=hgt; omega) h2;simp only[fx] at h3 ⊢;rw[split] at h3 ⊢;have z:A i i0=0:=hz i i0 h2 hgt;have e2:Ak (λj=>if j=i0 then 0 else A i j*x' j) n=Ak (λj=>if j=i0 then 0 else A i j*x j) n:=by
    refine Df λj _=>?_
    by_cases h:j=i0
    ·simp only[ff h]
    ·simp only[eZ h,x']
   rw[e2,z];rw[z] at h3
   grind
def ct:AW->Ap->Ap
 | _,_,[]=>0
 | y,w,false :: S=>y 0*w (true :: S)+ct (sh y) (A9 w) S
 | y,w,true :: S=>- ct (sh y) (As w) S
theorem aS(S:List Bool):∀(y:AW) (w x:Ap),ct y (λT=>w T+x T) S=ct y w S+ct y x S:=by
 induction S with
 | nil=>intro y w x; simp only[ct]; grind
 | cons b S ih =>
  intro y w x;have e0:A9 (λT=>w T+x T)=λT=>A9 w T+A9 x T:=rfl
  have e1:As (λT=>w T+x T)=λT=>As w T+As x T:=rfl
  cases b
  ·simp only[ct,e0,ih]; grind
  ·simp only[ct,e1,ih]; grind
theorem NL(S:List Bool):∀(c:Rat) (y:AW) (w:Ap),ct y (λT=>c*w T) S=c*ct y w S:=by
 induction S with
 | nil=>intro c y w; simp only[ct]; grind
 | cons b S ih =>
  intro c y w;have e0:A9 (λT=>c*w T)=λT=>c*A9 w T:=rfl
  have e1:As (λT=>c*w T)=λT=>c*As w T:=rfl
  cases b
  ·simp only[ct,e0,ih]; grind
  ·simp only[ct,e1,ih]; grind
theorem Z8(S:List Bool)(y:AW)(w x:Ap):ct y (λT=>w T-x T) S=ct y w S-ct y x S:=by
 have e:(λT=>w T-x T)=λT=>w T+(λT=>(-1)*x T) T:=by funext T; grind
 rw[e,aS,NL]; grind
def GC(u y:AW):Nat->Rat
 | 0=>0
 | n+1=>u 0*y 0+GC (sh u) (sh y) n
theorem bM(S:List Bool):∀(v y:AW) (w:Ap),ct y (wg v w) S+wg v (ct y w) S=GC v y S.length*w S:=by
 induction S with
 | nil=>intro v y w; simp only[ct,wg,GC,i8]; grind
 | cons b S ih =>
  intro v y w;cases b
  ·have h:=ih (sh v) (sh y) (A9 w);have e1:A9 (wg v w)=wg (sh v) (A9 w):=rfl;have e2:A9 (ct y w)=λT=>(λT=>y 0*As w T) T+ct (sh y) (A9 w) T:=rfl
   simp only[ct,wg,GC,gq,e1];rw[e2,J4,Em]
   have:A9 w S=w (false :: S):=rfl
   grind
  ·have h:=ih (sh v) (sh y) (As w);have e1:As (wg v w)=λT=>(λT=>v 0*A9 w T) T-wg (sh v) (As w) T:=rfl
   have e2:As (ct y w)=λT=>(-1)*ct (sh y) (As w) T:=by funext T; show-ct (sh y) (As w) T=_; grind
   simp only[ct,wg,GC,gq];rw[e1,e2,Z8,NL,Em]
   have:As w S=w (true :: S):=rfl
   grind
theorem Sl(S:List Bool):∀(v:AW) (w x:Ap),(∀T:List Bool,T.length=S.length->w T=x T)->wg v w S=wg v x S:=by
 induction S with
 | nil=>intro v w x _; rfl
 | cons b S ih =>
  intro v w x h;cases b
  ·exact ih _ _ _ (λT hT=>h (false :: T) (by simp[hT]))
  ·simp only[wg];rw[h (false :: S) (by simp),ih (sh v) (As w) (As x) (λT hT=>h (true :: T) (by simp[hT]))]
theorem Zl(S:List Bool):∀y:AW,ct y Af S=0:=by
 induction S with
 | nil=>intro y; rfl
 | cons b S ih =>
  intro y;cases b
  ·simp only[ct];have e:A9 Af=Af:=rfl;have e2:Af (true :: S)=0:=rfl;rw[e,ih,e2]; grind
  ·simp only[ct];have e:As Af=λT=>0*Af T:=by funext T; show(0:Rat)=_; grind
   rw[e,NL]; grind
theorem aU(m:Nat)(y:AW)(L:List AW):∀(w:Ap),(∀v∈L,GC v y m=0)->(∀S:List Bool,S.length=m->ct y w S=0)->∀S:List Bool,S.length=m->ct y (Ac L w) S=0:=by
 induction L with
 | nil=>intro w _ h; exact h
 | cons v L ih =>
  intro w hv h;refine ih (wg v w) (λu hu=>hv u (by simp[hu])) λS hS=>?_
  have e:=bM S v y w;have e2:wg v (ct y w) S=0:=by
   rw[Sl S v (ct y w) (λ_=>0) (λT hT=>h T (by omega)),LB]
  rw[e2,hS,hv v (by simp)] at e
  grind
theorem Sd(c:Nat):∀(y:AW) (w:Ap) (S:List Bool),ct y w (List.replicate c true++S)=sg c*ct (C0 c y) (pre c w) S:=by
 induction c with
 | zero=>intro y w S; simp[sg]; rfl
 | succ c ih =>
  intro y w S;simp only[gC,jn,ct];rw[ih,Np];have e1:C0 c (sh y)=C0 (c+1) y:=by funext j; simp only[C0,sh]; congr 1
  have e2:pre c (As w)=pre (c+1) w:=by funext T; simp[pre,As,gC]
  rw[e1,e2]; grind
theorem Xy(n:Nat):∀u y:AW,GC u y n=Ak (λj=>u j*y j) n:=by
 have key:∀n (f:Nat->Rat),Ak f (n+1)=f 0+Ak (λj=>f (j+1)) n:=by
  intro n f
  induction n with
  | zero=>simp only[Ak]; grind
  | succ n ih=>rw[Ak,ih]; simp only[Ak]; grind
 induction n with
 | zero=>intro u y; rfl
 | succ n ih =>
  intro u y;simp only[GC];rw[ih,key]; rfl
def JW(n j:Nat):List Bool:=List.replicate j true++false :: (List.replicate (n-1-j) true++[true])
def MC(n j:Nat):Rat:=B4 n*sg (n-1-j)
theorem Th{n:Nat}{A:List AW}{x:Nat->Rat}(h:∀a∈A,fx n x a=0){j:Nat}(hj:j<n):(JW n j).length=n+1/\(MC n j=1\/MC n j=-1)/\x j*ld n (n+1) (Ac A Af)=MC n j*Ac A Af (JW n j):=by
 let y:AW:=λi=>if i=n then -1 else x i
 have hdot:∀v∈A,GC v y (n+1)=0:=by
  intro v hv;rw[Xy];simp only[Ak];have e:Ak (λj=>v j*y j) n=Ak (λj=>v j*x j) n:=Df λi hi=>by simp only[y,eZ (show i≠n by omega)]
  have:=h v hv
  simp only[fx] at this;rw[e];simp only[y,ff]; grind
 have hz:=aU (n+1) y A Af hdot (λS _=>Zl S y) (List.replicate j true++(false :: (List.replicate (n-1-j) true++[false]))) (by simp; omega);generalize Ac A Af=w at hz ⊢;rw[Sd] at hz;simp only[ct] at hz;rw[Sd] at hz;simp only[ct] at hz;have s1:∀c,sg c=1\/sg c=-1:=by intro c; unfold sg; split; exact .inl rfl; exact .inr rfl
 have s2:∀c,B4 c=1\/B4 c=-1:=by
  intro c; induction c with
  | zero=>exact .inl rfl
  | succ c ih =>
   simp only[B4];rcases ih with a | a <;> rcases s1 c with b | b <;> rw[a,b] <;> grind
 have eT:List.replicate j true++true :: (List.replicate (n-1-j) true++[false])=Tk n (n+1):=by
  unfold Tk;rw[show n+1-n=1 by omega,List.replicate_one]
  have:List.replicate j true++true :: (List.replicate (n-1-j) true++[false])=(List.replicate j true++List.replicate 1 true++List.replicate (n-1-j) true)++[false]:=by simp
  rw[this,List.replicate_append_replicate,List.replicate_append_replicate];congr 2; omega
 have y1:C0 j y 0=x j:=by simp only[C0,y,Nat.zero_add,eZ (show j≠n by omega)]
 have y2:C0 (n-1-j) (sh (C0 j y)) 0=-1:=by
  simp only[C0,sh,y];rw[ff (by omega)]
 have w1:pre j w (true :: (List.replicate (n-1-j) true++[false]))=w (Tk n (n+1)):=by unfold pre; rw[eT]
 have w2:pre (n-1-j) (A9 (pre j w)) [true]=w (List.replicate j true++false :: (List.replicate (n-1-j) true++[true])):=rfl;rw[y1,y2,w1,w2] at hz;unfold JW MC;refine⟨by simp; omega,?_,?_⟩
 ·rcases s2 n with a | a <;> rcases s1 (n-1-j) with b | b <;> rw[a,b] <;> grind
 ·unfold ld;have hs:=s1 j;rcases s1 j with a | a <;> rw[a] at hz <;> grind
theorem Q9{n:Nat}{x:Nat->Rat}{c:Rat}(hc:c≠0){v:AW}:fx n x (λj=>c*v j)=0↔fx n x v=0:=by
 rw[(Tf n x).GF];constructor
 ·intro h; grind
 ·intro h; rw[h]; grind
end Wd
namespace Mth
theorem ZC{c M:Int}(h:0<c){q:Rat}(h1:c ∣ M)(h2:(q.den:Int) ∣ M):Cz c q ∣ M:=by
 have hq:=q.den_nz;have hg:0<Int.gcd c q.den:=Int.gcd_pos_of_ne_zero_left _ (by omega);have e1:=Int.gcd_dvd_left c (q.den:Int);have e:Cz c q=c / (Int.gcd c q.den:Int)*q.den:=by unfold Cz; rw[iC e1]
 have l:c / (Int.gcd c q.den:Int)*q.den=(Int.lcm c q.den:Int):=by
  have h3:(Int.gcd c q.den:Int)*(Int.lcm c q.den:Int)=c*q.den:=by
   have:=Int.gcd_mul_lcm c (q.den:Int)
   have h4:((c*(q.den:Int)).natAbs:Int)=c*q.den:=by
    have:0<c*(q.den:Int):=Int.mul_pos h (by omega)
    omega
   rw[<-h4,gD,<-this,Int.natCast_mul]
  have h5:(Int.gcd c q.den:Int)≠0:=by omega
  refine Int.eq_of_mul_eq_mul_left h5 ?_;rw[h3,<-Int.mul_assoc,Int.mul_ediv_cancel' e1]
 rw[e,l];exact Int.coe_lcm_dvd h1 h2
theorem ah(r:List Rat){M:Int}:∀{c:Int},0<c->c ∣ M->(∀q∈r,(q.den:Int) ∣ M)->r.foldl Cz c ∣ M:=by
 induction r with
 | nil=>intro c _ h _; exact h
 | cons q r ih =>
  intro c hc h1 h2;exact ih (S9 hc q).1 (ZC hc h1 (h2 q (by simp))) (λp hp=>h2 p (by simp[hp]))
theorem au{r:List Rat}{M:Int}(hM:0<M)(h:∀q∈r,(q.den:Int) ∣ M):(cb r).natAbs<=M.natAbs:=by
 have h1:cb r ∣ M:=ah r (by decide) (Int.one_dvd _) h;exact Nat.le_of_dvd (by omega) (Int.natAbs_dvd_natAbs.mpr h1)
theorem ZL{q:Rat}{M k:Int}(h:(M:Rat)*q=k):(q.den:Int) ∣ M:=by
 have h1:=FD q;have e:(((M*q.num:Int)):Rat)=((k*q.den:Int):Rat):=by
  rw[gK,gK,ic]; grind
 have e2:M*q.num=k*q.den:=by exact_mod_cast e
 have e3:M.natAbs*q.num.natAbs=k.natAbs*q.den:=by
  have:=congrArg Int.natAbs e2
  rw[gD,gD,gj] at this;exact this
 have cp2:Nat.Coprime q.den q.num.natAbs:=Nat.Coprime.symm q.reduced
 have:q.den ∣ M.natAbs:=Nat.Coprime.dvd_of_dvd_mul_right cp2 ⟨k.natAbs,by rw[e3,Nat.mul_comm]⟩
 exact Int.ofNat_dvd_left.mpr this
theorem R9:∀{r:List Rat} {p:Rat},p∈r->p.den<=(r.map (·.den)).sum
 | q :: r,p,h=>by
  rw[fk,gf];rcases fE.mp h with rfl | h
  ·omega
  ·have:=R9 h; omega
theorem N7(r:List Rat):0<cb r/\∀q∈r,(q.den:Int) ∣ cb r:=by
 obtain⟨a,_,b,_⟩:=Tp r (c:=1) (D:=0) (d:=(r.map (·.den)).sum) (by decide) (by decide) (λp hp=>by
  have h1:p.den<=(r.map (·.den)).sum:=R9 hp;have h2:(r.map (·.den)).sum<2 ^ (r.map (·.den)).sum:=Nat.lt_two_pow_self;omega)
 exact⟨a,b⟩
def Vb(v:Nat)(q:Rat):Prop:=Wd.Ab ((2 ^ v:Nat):Rat) q
theorem Sb.vb{n d:Nat}{q:Rat}(h:Sb n d q):Vb n q:=by
 have h1:=FD q;have h2:(1:Rat)<=((q.den:Nat):Rat):=by
  have:1<=q.den:=by have:=q.den_nz; omega
  exact_mod_cast this
 have h3:=Wd.Hd h.1;obtain⟨a,b⟩:=h3;have nn:(0:Rat)<=((2 ^ n:Nat):Rat):=by exact_mod_cast gP _
 rw[<-h1] at a b;constructor
 ·by_cases hq:0<=q
  ·grind
  ·have:0<=(-q)*(((q.den:Nat):Rat)-1):=i5 (by grind) (by grind)
   grind
 ·by_cases hq:0<=q
  ·have:0<=q*(((q.den:Nat):Rat)-1):=i5 hq (by grind)
   grind
  ·grind
theorem UE{b:Int}{q:Rat}{v D:Nat}(h:(q.den:Int) ∣ b)(h1:Vb v q)(h2:b.natAbs<=2 ^ D):(wh b q).natAbs<=2 ^ (D+v):=by
 refine Wd.FI ?_;rw[S6 h]
 have:=(Wd.Hd h2).EM h1
 have e:(((2 ^ D:Nat)):Rat)*((2 ^ v:Nat):Rat)=((2 ^ (D+v):Nat):Rat):=by rw[Nat.pow_add,Rat.natCast_mul]
 rw[e] at this;exact this
theorem Vb.EM{v u:Nat}{p q:Rat}(h:Vb v p)(g:Vb u q):Vb (v+u) (p*q):=by
 have:=Wd.Ab.EM h g
 have e:(((2 ^ v:Nat)):Rat)*((2 ^ u:Nat):Rat)=((2 ^ (v+u):Nat):Rat):=by rw[Nat.pow_add,Rat.natCast_mul]
 rw[e] at this;exact this
theorem Vb.DS{v:Nat}{p q:Rat}(h:Vb v p)(g:Vb v q):Vb (v+1) (p+q):=by
 obtain⟨a,b⟩:=h;obtain⟨c,d⟩:=g;have e:((2 ^ (v+1):Nat):Rat)=((2 ^ v:Nat):Rat)+((2 ^ v:Nat):Rat):=by
  rw[Nat.pow_succ,Nat.mul_two,Rat.natCast_add]
 unfold Vb Wd.Ab;rw[e];constructor <;> grind
theorem Vb.mono{v u:Nat}{p:Rat}(h:Vb v p)(hv:v<=u):Vb u p:=by
 refine Wd.Ab.le h ?_
 exact_mod_cast gZ (by decide) hv
end Mth
namespace Wd
open Mth
theorem YU(S:List Bool):∀(u v:AW) (w:Ap),(∀j,j<S.length->u j=v j)->wg u w S=wg v w S:=by
 induction S with
 | nil=>intro u v w _; rfl
 | cons b S ih =>
  intro u v w h;have h2:=ih (sh u) (sh v);cases b
  ·exact h2 _ (λj hj=>h (j+1) (by simp; omega))
  ·simp only[wg];rw[h 0 (by simp),h2 _ (λj hj=>h (j+1) (by simp; omega))]
theorem Zd(S:List Bool):∀(v:AW) (w:Ap),wg v w (S++[false])=wg v (λT=>w (T++[false])) S:=by
 induction S with
 | nil=>intro v w; rfl
 | cons b S ih =>
  intro v w;cases b
  ·exact ih (sh v) (A9 w)
  ·simp only[jn,wg];rw[ih]; rfl
theorem Xn(S:List Bool):Af (S++[false])=Af S:=by
 induction S with
 | nil=>rfl
 | cons b S ih=>cases b; exact ih; rfl
theorem XI(n:Nat)(L:List (AW×AW)):∀(w x:Ap),(∀p∈L,∀j,j<n->p.1 j=p.2 j)->(∀T:List Bool,T.length=n->w (T++[false])=x T)->∀S:List Bool,S.length=n->Ac (L.map (·.1)) w (S++[false])=Ac (L.map (·.2)) x S:=by
 induction L with
 | nil=>intro w x _ h S hS; exact h S hS
 | cons p L ih =>
  intro w x hp h S hS;refine ih (wg p.1 w) (wg p.2 x) (λq hq=>hp q (by simp[hq])) (λT hT=>?_) S hS;rw[Zd,YU T p.1 p.2 _ (λj hj=>hp p (by simp) j (by omega))];exact Sl T p.2 _ _ (λU hU=>h U (by omega))
theorem Sx{row:List Rat}{q:Rat}{j:Nat}(h:j<row.length):vq (row++[q]) j=vq row j:=by
 simp only[vq,eO];rw[fN h]
theorem bO{row:List Rat}{q:Rat}:vq (row++[q]) row.length=q:=by
 simp only[vq,eO];rw[fu (eU _)]; simp
theorem ZZ{n:Nat}{T:List (List Rat)}{r:List Rat}(hT:T.length=n)(hr:r.length=n)(hc:∀x∈T,x.length=n):dt n (n+1) (List.zipWith (λrow q=>row++[q]) T r)=dt n n T:=by
 have e1:(List.zipWith (λrow q=>row++[q]) T r).map vq=((T.zip r).map λp=>(vq (p.1++[p.2]),vq p.1)).map (·.1):=by
  rw[gG,List.map_zipWith,List.zip,List.map_zipWith]; rfl
 have e2:T.map vq=((T.zip r).map λp=>(vq (p.1++[p.2]),vq p.1)).map (·.2):=by
  rw[gG]
  have:(T.zip r).map Prod.fst=T:=List.map_fst_zip (by omega)
  conv=>lhs; rw[<-this]
  rw[gG]; rfl
 unfold dt ld;rw[e1,e2];congr 1;have t1:Tk n (n+1)=Tk n n++[false]:=by
  unfold Tk;rw[show n+1-n=1 by omega,jq]; simp
 rw[t1];refine XI n _ Af Af (λp hp j hj=>?_) (λT _=>Xn T) _ (by unfold Tk; simp);obtain⟨q,hq,rfl⟩:=fi.mp hp;exact Sx (by rw[hc q.1 (List.of_mem_zip hq).1]; exact hj)
theorem Y1{n:Nat}{row:List Rat}{q:Rat}{x:Nat->Rat}(h:row.length=n):fx n x (vq (row++[q]))=Ak (λj=>vq row j*x j) n-q:=by
 simp only[fx];rw[Df (λj hj=>by rw[Sx (by omega)])]
 have:=bO (row:=row) (q:=q)
 rw[h] at this;rw[this]
def eG(n:Nat)(row dq:List Rat):Rat:=Ak (λj=>row.getD j 0*dq.getD j 0) n
def Cu(T:List (List Rat))(i j:Nat)(v:Rat):List (List Rat):=T.set i ((T.getD i []).set j v)
structure Sq(n:Nat)(T:List (List Rat)):Prop where
 len:T.length=n
 E1:∀r∈T,r.length=n
theorem Sq.row{n:Nat}{T:List (List Rat)}(h:Sq n T){i:Nat}(hi:i<n):(T.getD i []).length=n/\T[i]?=some (T.getD i []):=by
 have e:T[i]?=some (T[i]'(by rw[h.len]; exact hi)):=eh _;have e2:T.getD i []=T[i]'(by rw[h.len]; exact hi):=by rw[eO,e]; rfl
 rw[e2];exact⟨h.E1 _ (iq _),e⟩
theorem Sq.set{n:Nat}{T:List (List Rat)}(h:Sq n T){i j:Nat}{v:Rat}(hi:i<n):Sq n (Cu T i j v):=by
 refine⟨by unfold Cu; rw[iA]; exact h.len,λr hr=>?_⟩;unfold Cu at hr;rcases iY hr with h1 | h1
 ·exact h.E1 r h1
 ·rw[h1,iA]; exact(h.row hi).1
theorem HV{n:Nat}{T:List (List Rat)}(h:Sq n T){i j:Nat}{v:Rat}(hi:i<n)(hj:j<n)(i' j':Nat):en (Cu T i j v) i' j'=if i'=i/\j'=j then v else en T i' j':=by
 unfold en Cu;have hl:=(h.row hi).1;by_cases e:i=i'
 ·subst e
  have:(T.set i ((T.getD i []).set j v)).getD i []=(T.getD i []).set j v:=by
   rw[eO,gp (by rw[h.len]; exact hi)]; rfl
  rw[this];by_cases e2:j=j'
  ·subst e2;rw[ff ⟨rfl,rfl⟩,eO,gp (by omega)]; rfl
  ·rw[eZ (λz=>e2 z.2.symm),eO,gn e2,<-List.getD_eq_getElem?_getD]
 ·have:(T.set i ((T.getD i []).set j v)).getD i' []=T.getD i' []:=by
   rw[eO,gn e,<-List.getD_eq_getElem?_getD]
  rw[this,eZ (λz=>e z.1.symm)]
abbrev AQ:=Nat×Nat×Rat
def CP(T:List (List Rat))(r:AQ):List (List Rat) :=
 if r.1=r.2.1 then T else
 let T1:=Cu T r.1 r.1 (en T r.1 r.1+r.2.2)
 let T2:=Cu T1 r.2.1 r.2.1 (en T1 r.2.1 r.2.1+r.2.2)
 let T3:=Cu T2 r.1 r.2.1 (en T2 r.1 r.2.1-r.2.2)
 Cu T3 r.2.1 r.1 (en T3 r.2.1 r.1-r.2.2)
def Dy(n:Nat):List (List Rat):=List.replicate n (List.replicate n 0)
def Bc(n:Nat)(rs:List AQ):List (List Rat):=rs.foldl CP (Dy n)
theorem Rz(n:Nat):Sq n (Dy n):=⟨by simp[Dy],λr hr=>by rw[(List.mem_replicate.mp hr).2]; simp⟩
theorem RR(n i j:Nat):en (Dy n) i j=0:=by
 unfold en Dy;rw[eO,eO,List.getElem?_replicate];split
 ·simp only[Option.getD_some];rw[List.getElem?_replicate];split <;> rfl
 ·rfl
def Cv(r:AQ)(i j:Nat):Rat :=
 if r.1=r.2.1 then 0 else (if i=r.1/\j=r.1 then r.2.2 else 0)+(if i=r.2.1/\j=r.2.1 then r.2.2 else 0)-(if i=r.1/\j=r.2.1 then r.2.2 else 0)-(if i=r.2.1/\j=r.1 then r.2.2 else 0)
theorem Pj{n:Nat}{T:List (List Rat)}(h:Sq n T){r:AQ}(h1:r.1<n)(h2:r.2.1<n):Sq n (CP T r)/\∀i j,en (CP T r) i j=en T i j+Cv r i j:=by
 unfold CP Cv;by_cases e:r.1=r.2.1
 ·simp only[ff e];exact⟨h,λi j=>by grind⟩
 ·simp only[eZ e];have q1:=h.set (j:=r.1) (v:=en T r.1 r.1+r.2.2) h1;have e1:=HV h (v:=en T r.1 r.1+r.2.2) h1 h1;generalize Cu T r.1 r.1 (en T r.1 r.1+r.2.2)=T1 at q1 e1;have q2:=q1.set (j:=r.2.1) (v:=en T1 r.2.1 r.2.1+r.2.2) h2;have e2:=HV q1 (v:=en T1 r.2.1 r.2.1+r.2.2) h2 h2;generalize Cu T1 r.2.1 r.2.1 (en T1 r.2.1 r.2.1+r.2.2)=T2 at q2 e2;have q3:=q2.set (j:=r.2.1) (v:=en T2 r.1 r.2.1-r.2.2) h1;have e3:=HV q2 (v:=en T2 r.1 r.2.1-r.2.2) h1 h2;generalize Cu T2 r.1 r.2.1 (en T2 r.1 r.2.1-r.2.2)=T3 at q3 e3;have q4:=q3.set (j:=r.1) (v:=en T3 r.2.1 r.1-r.2.2) h2;have e4:=HV q3 (v:=en T3 r.2.1 r.1-r.2.2) h2 h1;refine⟨q4,λi j=>?_⟩;rw[e4];simp only[e3,e2,e1]
  grind
theorem ZT{n:Nat}:∀(rs:List AQ) {T:List (List Rat)},Sq n T->(∀r∈rs,r.1<n/\r.2.1<n)->Sq n (rs.foldl CP T)/\∀i j,en (rs.foldl CP T) i j=en T i j+(rs.map λr=>Cv r i j).sum:=by
 intro rs
 induction rs with
 | nil=>intro T h _; exact⟨h,λi j=>by simp only[gY,iZ,List.foldl_nil]; grind⟩
 | cons r rs ih =>
  intro T h hr;obtain⟨a,b⟩:=Pj h (hr r (by simp)).1 (hr r (by simp)).2;obtain⟨c,d⟩:=ih a (λx hx=>hr x (by simp[hx]));refine⟨c,λi j=>?_⟩;rw[List.foldl_cons,d,b,fk,gf]; grind
theorem Xv(c:Nat)(L:List AW):∀(w:Ap) (S:List Bool),(∀v∈L,∀j,j<c->v j=0) →
  ∃e:Rat,e*e=1/\Ac L w (List.replicate c true++S)=e*Ac (L.map (C0 c)) (pre c w) S:=by
 induction L with
 | nil=>intro w S _; exact⟨1,by grind,by simp[Ac,pre]⟩
 | cons v L ih =>
  intro w S h;obtain⟨e,h1,he⟩:=ih (wg v w) S (λu hu=>h u (by simp[hu]));refine⟨e*sg c,by have:=Hk c; grind,?_⟩;simp only[Ac,fk];rw[he]
  have:pre c (wg v w)=λT=>sg c*wg (C0 c v) (pre c w) T:=by
   funext T; exact OG c v w T (h v (by simp))
  rw[this,GU]; grind
theorem IP(f:Nat->Rat):∀n,Ak f (n+1)=f 0+Ak (λj=>f (j+1)) n:=by
 intro n
 induction n with
 | zero=>simp only[Ak]; grind
 | succ n ih =>
  have:Ak f (n+1+1)=Ak f (n+1)+f (n+1):=rfl
  rw[this,ih]; simp only[Ak]; grind
theorem XX(r:AW)(c:AW->Rat)(M:List AW):∀(w:Ap),(∀S,wg r w S=0)->Ac (M.map λv=>λj=>v j + -c v*r j) w=Ac M w:=by
 induction M with
 | nil=>intro w _; rfl
 | cons v M ih =>
  intro w h;simp only[fk,Ac];have e:wg (λj=>v j + -c v*r j) w=wg v w:=by
   funext S
   have h1:=Jl S v (λj=>-c v*r j) w;rw[GO,h S] at h1;rw[h1]; grind
  rw[e];refine ih _ (λS=>?_);have e2:wg r w=λ_=>0:=funext h
  rw[Ju,e2,LB]; grind
theorem dJ:∀(n:Nat) (L:List AW),L.length=n->ld n n (Ac L Af)=0->∃x:Nat->Rat,(∃j,j<n/\x j≠0)/\∀v∈L,Ak (λj=>v j*x j) n=0:=by
 intro n
 induction n with
 | zero =>
  intro L hL h
  have:L=[]:=List.length_eq_zero_iff.mp hL
  subst this;have h1:=OA 0;rw[show Ac [] Af=Af from rfl,h1] at h
  grind
 | succ n ih =>
  intro L hL h;by_cases hz:∀v∈L,v 0=0
  ·refine⟨λj=>if j=0 then 1 else 0,⟨0,by omega,by simp⟩,λv hv=>?_⟩;rw[Mt (i:=0) (by omega) (λl _ hl=>by simp[hl])];rw[hz v hv]; grind
  ·have hz':∃r,r∈L/\r 0≠0:=by
    apply Classical.byContradiction;intro hn;exact hz (λv hv=>Classical.byContradiction λz=>hn ⟨v,hv,z⟩)
   obtain⟨r,hr,h0⟩:=hz';obtain⟨A,B,rfl⟩:=List.append_of_mem hr;have hl:(A++B).length=n:=by simp at hL ⊢; omega
   let c:AW->Rat:=λv=>v 0 / r 0
   let f:AW->AW:=λv=>λj=>v j + -c v*r j
   have e1:∀S,Ac (A++r :: B) Af S=sg A.length*Ac ((A++B).map f) (wg r Af) S:=by
    intro S;have q1:Ac ((A++B).map f) (wg r Af)=Ac (A++B) (wg r Af):=XX r c (A++B) (wg r Af) (λS=>JF S r Af);rw[q1,Fn,Fn];have q2:Ac A (wg r Af)=λT=>sg A.length*wg r (Ac A Af) T:=funext λT=>Sw A r Af T
    rw[q2,GU];show Ac B (wg r (Ac A Af)) S=_
    have:=Hk A.length
    grind
   have fz:∀v∈(A++B).map f,∀j,j<1->v j=0:=by
    intro v hv j hj;obtain⟨u,_,rfl⟩:=fi.mp hv
    have:j=0:=by omega
    subst this;show u 0 + -(u 0 / r 0)*r 0=0
    have:u 0 / r 0*r 0=u 0:=Rat.div_mul_cancel h0
    grind
   obtain⟨e,ee,he⟩:=Xv 1 ((A++B).map f) (wg r Af) (List.replicate n true) fz;have e2:pre 1 (wg r Af)=λT=>r 0*Af T:=by
    funext T
    show wg r Af (true :: T)=_;simp only[wg]
    have:As Af=λ_=>0:=by funext S; rfl
    rw[this,LB];show r 0*Af T-0=_
    grind
   have e3:Tk (n+1) (n+1)=List.replicate 1 true++List.replicate n true:=by unfold Tk; simp[gC]
   have e4:Tk n n=List.replicate n true:=by unfold Tk; simp
   have h2:ld n n (Ac (((A++B).map f).map (C0 1)) Af)=0:=by
    unfold ld at h ⊢;rw[e3,e1,he,e2,GU] at h;rw[e4];have t1:=Iy (n+1);have t2:=Hk A.length;have nt:B4 (n+1)≠0:=λz=>by rw[z] at t1; grind
    have ns:sg A.length≠0:=λz=>by rw[z] at t2; grind
    have ne:e≠0:=λz=>by rw[z] at ee; grind
    have z:=(jm.mp h).resolve_left nt;have z:=(jm.mp z).resolve_left ns;have z:=(jm.mp z).resolve_left ne;have z:=(jm.mp z).resolve_left h0;rw[z]; grind
   obtain⟨y,⟨j,hj,hy⟩,hs⟩:=ih _ (by simp only[ed]; exact hl) h2
   let s:=Ak (λj=>r (j+1)*y j) n
   let x:Nat->Rat:=λj=>match j with | 0=>-s / r 0 | j+1=>y j
   have x0:r 0*x 0=-s:=by
    show r 0*(-s / r 0)=-s;rw[Rat.mul_comm]; exact Rat.div_mul_cancel h0
   have hr0:Ak (λj=>r j*x j) (n+1)=0:=by
    rw[IP];show r 0*x 0+s=0;rw[x0]; grind
   refine⟨x,⟨j+1,by omega,hy⟩,λv hv=>?_⟩;have hv':v=r\/v∈A++B:=by
    rcases fm.mp hv with z | z
    ·exact .inr (fm.mpr (.inl z))
    ·rcases fE.mp z with z | z
     ·exact .inl z
     ·exact .inr (fm.mpr (.inr z))
   rcases hv' with rfl | hm
   ·exact hr0
   ·have g1:=hs (C0 1 (f v)) (fi.mpr ⟨f v,fi.mpr ⟨v,hm,rfl⟩,rfl⟩);have g2:Ak (λj=>f v j*x j) (n+1)=0:=by
     rw[IP,show f v 0=0 from fz _ (fi.mpr ⟨v,hm,rfl⟩) 0 (by omega)]
     have:Ak (λj=>f v (j+1)*x (j+1)) n=0:=g1
     rw[this]; grind
    have g3:Ak (λj=>f v j*x j) (n+1)=Ak (λj=>v j*x j) (n+1) + -c v*Ak (λj=>r j*x j) (n+1):=by
     rw[<-QK,<-Ih];refine Df λj _=>?_
     show(v j + -c v*r j)*x j=_
     grind
    rw[g2,hr0] at g3
    grind
def Al(X:Nat->Rat)(r:AQ):Rat:=r.2.2*(X r.1-X r.2.1)
def Cd(X:Nat->Rat)(i:Nat)(r:AQ):Rat:=(if i=r.1 then Al X r else 0)-(if i=r.2.1 then Al X r else 0)
def BB(X:Nat->Rat)(rs:List AQ)(i:Nat):Rat:=(rs.map (Cd X i)).sum
def Oz(n:Nat)(rs:List AQ):Prop:=∀S:Nat->Prop,S 0->(∀r∈rs,S r.1↔S r.2.1)->∀p,p<n->S p
theorem Kw{n i:Nat}(c:Rat)(hi:i<n):Ak (λj=>if j=i then c else 0) n=c:=by
 rw[Mt (i:=i) hi (λl _ h=>by rw[eZ h])]; rw[ff rfl]
theorem XQ{n:Nat}{r:AQ}(h1:r.1<n)(h2:r.2.1<n)(X:Nat->Rat)(i:Nat):Ak (λj=>Cv r i j*X j) n=Cd X i r:=by
 by_cases e:r.1=r.2.1
 ·have:∀j,Cv r i j*X j=0:=λj=>by unfold Cv; rw[ff e]; grind
  rw[Jj (λl _=>this l)];unfold Cd Al;rw[e]; grind
 ·have:∀j,Cv r i j*X j=(if j=r.1 then (if i=r.1 then r.2.2*X r.1 else 0)-(if i=r.2.1 then r.2.2*X r.1 else 0) else 0)+(if j=r.2.1 then (if i=r.2.1 then r.2.2*X r.2.1 else 0)-(if i=r.1 then r.2.2*X r.2.1 else 0) else 0):=by
   intro j;unfold Cv;rw[eZ e];by_cases a1:j=r.1
   ·subst a1;by_cases a2:i=r.1 <;> by_cases a3:i=r.2.1 <;> simp[a2,a3,e] <;> grind
   ·by_cases a4:j=r.2.1
    ·subst a4;by_cases a2:i=r.1 <;> by_cases a3:i=r.2.1 <;> simp[a1,a2,a3,e] <;> grind
    ·simp[a1,a4]; grind
  rw[Df (g:=λj=>(if j=r.1 then (if i=r.1 then r.2.2*X r.1 else 0)-(if i=r.2.1 then r.2.2*X r.1 else 0) else 0)+(if j=r.2.1 then (if i=r.2.1 then r.2.2*X r.2.1 else 0)-(if i=r.1 then r.2.2*X r.2.1 else 0) else 0)) (λj _=>this j)];rw[Ih,Kw _ h1,Kw _ h2];unfold Cd Al
  grind
theorem RJ{n:Nat}(f:AQ->Nat->Rat):∀rs:List AQ,Ak (λj=>(rs.map λr=>f r j).sum) n=(rs.map λr=>Ak (f r) n).sum:=by
 intro rs
 induction rs with
 | nil=>simp only[gY,iZ]; exact Jj λ_ _=>rfl
 | cons r rs ih=>simp only[fk,gf]; rw[Ih,ih]
theorem Mp(c:Rat)(f:AQ->Rat)(rs:List AQ):(rs.map f).sum*c=(rs.map λr=>f r*c).sum:=by
 induction rs with
 | nil=>simp only[gY,iZ]; grind
 | cons r rs ih=>simp only[fk,gf]; rw[<-ih]; grind
theorem Kr{f g:AQ->Rat}{rs:List AQ}(h:∀r∈rs,f r=g r):(rs.map f).sum=(rs.map g).sum:=by rw[ip h]
theorem GV{n:Nat}{rs:List AQ}(h:∀r∈rs,r.1<n/\r.2.1<n):Sq n (Bc n rs)/\∀i j,en (Bc n rs) i j=(rs.map λr=>Cv r i j).sum:=by
 obtain⟨a,b⟩:=ZT rs (Rz n) h;refine⟨a,λi j=>?_⟩
 have:=b i j
 rw[RR] at this;show en (rs.foldl CP (Dy n)) i j=_;rw[this]; grind
theorem Qq{n:Nat}{rs:List AQ}(h:∀r∈rs,r.1<n/\r.2.1<n)(X:Nat->Rat)(i:Nat):Ak (λj=>en (Bc n rs) i j*X j) n=BB X rs i:=by
 rw[Df (g:=λj=>(rs.map λr=>Cv r i j*X j).sum) (λj _=>by rw[(GV h).2,Mp])];rw[RJ (λr j=>Cv r i j*X j)];exact Kr λr hr=>XQ (h r hr).1 (h r hr).2 X i
theorem Xm{n:Nat}{r:AQ}(h1:r.1<n)(h2:r.2.1<n)(X Y:Nat->Rat):Ak (λi=>Y i*Cd X i r) n=Al X r*(Y r.1-Y r.2.1):=by
 have:∀i,Y i*Cd X i r=(if i=r.1 then Y r.1*Al X r else 0)+(if i=r.2.1 then-(Y r.2.1*Al X r) else 0):=by
  intro i;unfold Cd;by_cases a:i=r.1 <;> by_cases b:i=r.2.1 <;> simp[a,b] <;> grind
 rw[Df (λi _=>this i),Ih,Kw _ h1,Kw _ h2]; grind
theorem RL{n:Nat}{rs:List AQ}(h:∀r∈rs,r.1<n/\r.2.1<n)(X Y:Nat->Rat):Ak (λi=>Y i*BB X rs i) n=(rs.map λr=>Al X r*(Y r.1-Y r.2.1)).sum:=by
 rw[Df (g:=λi=>(rs.map λr=>Y i*Cd X i r).sum) (λi _=>by unfold BB; rw[Rat.mul_comm,Mp]; exact Kr λr _=>Rat.mul_comm _ _)];rw[RJ (λr i=>Y i*Cd X i r)];exact Kr λr hr=>Xm (h r hr).1 (h r hr).2 X Y
theorem bQ(x:Rat):0<=x*x:=by
 rcases Rat.le_total (a:=0) (b:=x) with h | h
 ·exact i5 h h
 ·have:0<=-x:=by grind
  have:=i5 this this
  grind
theorem aO{f:AQ->Rat}:∀{rs:List AQ},(∀r∈rs,0<=f r)->0<=(rs.map f).sum:=by
 intro rs
 induction rs with
 | nil=>intro _; simp only[gY,iZ]; exact Rat.le_refl
 | cons r rs ih =>
  intro h;simp only[fk,gf];have h1:=h r (by simp);have h2:=ih (λx hx=>h x (by simp[hx]))
  grind
theorem Y6{f:AQ->Rat}:∀{rs:List AQ},(∀r∈rs,0<=f r)->(rs.map f).sum=0->∀r∈rs,f r=0:=by
 intro rs
 induction rs with
 | nil=>intro _ _ r hr; cases hr
 | cons r rs ih =>
  intro h e x hx;simp only[fk,gf] at e;have h1:=h r (by simp);have h2:=aO (f:=f) (rs:=rs) (λx hx=>h x (by simp[hx]));rcases fE.mp hx with rfl | hx
  ·grind
  ·exact ih (λx hx=>h x (by simp[hx])) (by grind) x hx
theorem QQ{n:Nat}{rs:List AQ}(h:∀r∈rs,r.1<n/\r.2.1<n/\0<r.2.2)(g:Oz n rs){X:Nat->Rat}(h0:X 0=0)(hb:∀i,i<n->X i=0\/BB X rs i=0):∀i,i<n->X i=0:=by
 have h':∀r∈rs,r.1<n/\r.2.1<n:=λr hr=>⟨(h r hr).1,(h r hr).2.1⟩
 have e1:=RL h' X X;rw[Jj (λi hi=>by rcases hb i hi with z | z <;> rw[z] <;> grind)] at e1;have nn:∀r∈rs,0<=Al X r*(X r.1-X r.2.1):=by
  intro r hr;have a:=bQ (X r.1-X r.2.1);have b:=i5 (Rat.le_of_lt (h r hr).2.2) a;unfold Al; grind
 have e2:=Y6 nn e1.symm;refine g (λp=>X p=0) h0 (λr hr=>?_);have e3:=e2 r hr;unfold Al at e3;have pe:r.2.2≠0:=λz=>by have:=(h r hr).2.2; rw[z] at this; exact absurd this (Rat.lt_irrefl)
 have e4:r.2.2*((X r.1-X r.2.1)*(X r.1-X r.2.1))=0:=by grind
 have e5:=(jm.mp e4).resolve_left pe;have e6:X r.1-X r.2.1=0:=by rcases jm.mp e5 with z | z <;> exact z
 have e7:X r.1=X r.2.1:=by grind
 rw[e7]
def EL(T:List (List Rat)):List (List Rat):=(T.drop 2).map (·.drop 2)
theorem Il{n:Nat}{T:List (List Rat)}(q:Sq (n+2) T):(EL T).length=n/\∀r∈EL T,r.length=n:=by
 refine⟨by unfold EL; rw[ed,gN,q.len]; omega,λr hr=>?_⟩;obtain⟨s,hs,rfl⟩:=fi.mp hr;rw[gN,q.E1 s (List.mem_of_mem_drop hs)]; omega
theorem Nk{n:Nat}{T:List (List Rat)}(q:Sq (n+2) T){i:Nat}(hi:i<n):(EL T)[i]?=some ((T.getD (i+2) []).drop 2):=by
 unfold EL;rw[fg,je,Nat.add_comm 2 i,(q.row (by omega)).2]; rfl
theorem Ry(r:List Rat)(j:Nat):vq (r.drop 2) j=r.getD (j+2) 0:=by
 unfold vq;rw[eO,je,Nat.add_comm 2 j,<-List.getD_eq_getElem?_getD]
def KG(a b:Rat)(x:Nat->Rat):Nat->Rat
 | 0=>a
 | 1=>b
 | j+2=>x j
theorem QC(f:Nat->Rat)(a b:Rat)(x:Nat->Rat)(n:Nat):Ak (λj=>f j*KG a b x j) (n+2)=f 0*a+(f 1*b+Ak (λj=>f (j+2)*x j) n):=by
 rw[IP,IP]; rfl
theorem Zj{n:Nat}{rs:List AQ}(h:∀r∈rs,r.1<n+2/\r.2.1<n+2/\0<r.2.2)(g:Oz (n+2) rs):dt n n (EL (Bc (n+2) rs))≠0:=by
 have h':∀r∈rs,r.1<n+2/\r.2.1<n+2:=λr hr=>⟨(h r hr).1,(h r hr).2.1⟩
 have q:=(GV h').1;intro z;obtain⟨x,⟨j,hj,hx⟩,hs⟩:=dJ n _ (by rw[ed]; exact(Il q).1) z;have e:=QQ h g (X:=KG 0 0 x) rfl (λi hi=>by
  match i with
  | 0=>exact .inl rfl
  | 1=>exact .inl rfl
  | i+2 =>
   right
   rw[<-Qq h',QC];have e1:=hs (vq ((Bc (n+2) rs).getD (i+2) [] |>.drop 2)) (fi.mpr ⟨_,eQ (Nk q (by omega)),rfl⟩);have e2:Ak (λj=>en (Bc (n+2) rs) (i+2) (j+2)*x j) n=0:=by
    rw[<-e1];refine Df λj _=>?_
    rw[Ry]; rfl
   rw[e2]; grind) (j+2) (by omega)
 exact hx e
def Er(T:List (List Rat)):List Rat:=(T.drop 2).map λr=>0-r.getD 0 0
theorem MP{n:Nat}{T:List (List Rat)}(q:Sq (n+2) T):(Er T).length=n:=by unfold Er; rw[ed,gN,q.len]; omega
theorem QW{n:Nat}{T:List (List Rat)}(q:Sq (n+2) T){i:Nat}(hi:i<n):(Er T)[i]?=some (0-en T (i+2) 0):=by
 unfold Er;rw[fg,je,Nat.add_comm 2 i,(q.row (by omega)).2]; rfl
theorem bK {n:Nat} {rs:List AQ} (h:∀r∈rs,r.1<n+2/\r.2.1<n+2) {x:Nat->Rat}
  (hx:∀y∈List.zipWith (λrow q=>row++[q]) (EL (Bc (n+2) rs)) (Er (Bc (n+2) rs)),fx n x (vq y)=0):∀i,2<=i->i<n+2->BB (KG 1 0 x) rs i=0:=by
 have q:=(GV h).1;intro i h2 hi;obtain⟨k,rfl⟩:∃k,i=k+2:=⟨i-2,by omega⟩;rw[<-Qq h,QC];have e1:=hx ((((Bc (n+2) rs).getD (k+2) []).drop 2)++[0-en (Bc (n+2) rs) (k+2) 0]) (by
  refine eQ (i:=k) ?_;rw[List.getElem?_zipWith,Nk q (by omega),QW q (by omega)])
 rw[Y1 (by rw[gN,(q.row (i:=k+2) (by omega)).1]; omega)] at e1;have e2:Ak (λj=>en (Bc (n+2) rs) (k+2) (j+2)*x j) n=Ak (λj=>vq (((Bc (n+2) rs).getD (k+2) []).drop 2) j*x j) n:=by
  refine Df λj _=>?_
  rw[Ry]; rfl
 rw[e2]; grind
theorem XU{n:Nat}{rs:List AQ}(h:∀r∈rs,r.1<n/\r.2.1<n)(X:Nat->Rat):Ak (λi=>BB X rs i) n=0:=by
 have e:=RL h X (λ_=>1);rw[Df (g:=λi=>BB X rs i) (λi _=>by grind)] at e;rw[e]
 have:(rs.map λr=>Al X r*((1:Rat)-1)).sum=(rs.map λr=>(λ_:AQ=>(0:Rat)) r).sum:=Kr λr _=>by grind
 rw[this];clear this e h
 induction rs with
 | nil=>rfl
 | cons r rs ih=>simp only[fk,gf]; rw[ih]; grind
theorem V9{n:Nat}{rs:List AQ}(h:∀r∈rs,r.1<n+2/\r.2.1<n+2){X:Nat->Rat}(hb:∀i,2<=i->i<n+2->BB X rs i=0):BB X rs 1=- BB X rs 0:=by
 have e:=XU h X;rw[IP,IP,Jj (λi hi=>hb (i+1+1) (by omega) (by omega))] at e
 have:BB X rs (0+1)=BB X rs 1:=rfl
 rw[this] at e
 grind
theorem BG.DS{x y:Rat}(h:BG x)(g:BG y):BG (x+y):=by
 obtain⟨a,rfl⟩:=h; obtain⟨b,rfl⟩:=g; exact⟨a+b,by grind⟩
theorem BG.neg{x:Rat}(h:BG x):BG (-x):=by
 obtain⟨a,rfl⟩:=h; exact⟨-a,by grind⟩
theorem BG.zero:BG 0:=⟨0,rfl⟩
theorem ZI{f:AQ->Rat}:∀{rs:List AQ},(∀r∈rs,BG (f r))->BG (rs.map f).sum:=by
 intro rs
 induction rs with
 | nil=>intro _; exact⟨0,rfl⟩
 | cons r rs ih=>intro h; simp only[fk,gf]; exact(h r (by simp)).DS (ih λx hx=>h x (by simp[hx]))
theorem Ab.DS{B C x y:Rat}(h:Ab B x)(g:Ab C y):Ab (B+C) (x+y):=by
 obtain⟨h1,h2⟩:=h; obtain⟨g1,g2⟩:=g;constructor <;> grind
theorem Zn{f:AQ->Rat}{B:Rat}:∀{rs:List AQ},(∀r∈rs,Ab B (f r))->Ab ((rs.length:Nat)*B) (rs.map f).sum:=by
 intro rs
 induction rs with
 | nil=>intro _; simp only[gY,iZ,i8]; constructor <;> grind
 | cons r rs ih =>
  intro h;simp only[fk,gf];have e:(((r :: rs).length:Nat):Rat)*B=B+(rs.length:Nat)*B:=by rw[gq]; grind
  rw[e];exact(h r (by simp)).DS (ih λx hx=>h x (by simp[hx]))
def Cj:List AQ->Nat
 | []=>1
 | r :: rs=>r.2.2.den*Cj rs
theorem IZ:∀rs:List AQ,0<Cj rs
 | []=>Nat.one_pos
 | r :: rs=>Nat.mul_pos r.2.2.den_pos (IZ rs)
theorem RY{β:Nat}:∀{rs:List AQ},(∀r∈rs,r.2.2.den<=2 ^ β)->Cj rs<=2 ^ (β*rs.length)
 | [],_=>by simp[Cj]
 | r :: rs,h=>by
  have h1:=h r (by simp);have h2:=RY (rs:=rs) λx hx=>h x (by simp[hx])
  have:=Ck h1 h2
  rw[gq,iU,Nat.add_comm]; exact this
theorem K3:∀{rs:List AQ} {r:AQ},r∈rs->r.2.2.den ∣ Cj rs
 | [],_,h=>by cases h
 | s :: rs,r,h=>by
  rcases fE.mp h with rfl | h
  ·exact Nat.dvd_mul_right _ _
  ·exact Nat.dvd_trans (K3 h) (Nat.dvd_mul_left _ _)
theorem NG{q:Rat}{M:Nat}(h:q.den ∣ M):BG ((M:Nat)*q):=by
 obtain⟨k,rfl⟩:=h;refine⟨k*q.num,?_⟩;have e:=FD q;have e1:((q.den*k:Nat):Rat)=(q.den:Nat)*(k:Nat):=by exact_mod_cast rfl
 have e2:((k*q.num:Int):Rat)=(k:Nat)*(q.num:Int):=by rw[gK]; rfl
 rw[e1,e2,<-e]; grind
theorem RW(r:AQ)(i j:Nat):Cv r i j=0\/Cv r i j=r.2.2\/Cv r i j=-r.2.2:=by
 unfold Cv;by_cases e:r.1=r.2.1
 ·rw[ff e]; exact .inl rfl
 ·rw[eZ e];by_cases a:i=r.1
  ·have b:i≠r.2.1:=λz=>e (a.symm.trans z)
   by_cases c:j=r.1
   ·have d:j≠r.2.1:=λz=>e (c.symm.trans z)
    simp[a,c,e]; grind
   ·by_cases d:j=r.2.1
    ·simp[a,d,e]; grind
    ·simp[a,c,d,e]; grind
  ·by_cases b:i=r.2.1
   ·by_cases c:j=r.1
    ·have d:j≠r.2.1:=λz=>e (c.symm.trans z)
     have e':r.2.1≠r.1:=λz=>e z.symm
     simp[b,c,e,e']; grind
    ·have e':r.2.1≠r.1:=λz=>e z.symm
     by_cases d:j=r.2.1
     ·simp[b,d,e']; grind
     ·simp[b,c,d,e']; grind
   ·simp[a,b]; grind
theorem ZS{B:Rat}(h:0<=B):Ab B 0:=by constructor <;> grind
theorem OI{n α β:Nat}{rs:List AQ}(h:∀r∈rs,r.1<n/\r.2.1<n/\Sb α β r.2.2)(hm:rs.length<=16)(i j:Nat):BG ((Cj rs:Nat)*en (Bc n rs) i j)/\Vb (α+4) (en (Bc n rs) i j):=by
 rw[(GV λr hr=>⟨(h r hr).1,(h r hr).2.1⟩).2];constructor
 ·rw[Rat.mul_comm,Mp];refine ZI λr hr=>?_
  have q:=NG (K3 hr);rw[Rat.mul_comm];rcases RW r i j with e | e | e <;> rw[e]
  ·rw[Rat.mul_zero]; exact BG.zero
  ·exact q
  ·have:=q.neg
   rwa [Rat.mul_neg]
 ·have q:∀r∈rs,Ab ((2 ^ α:Nat):Rat) (Cv r i j):=λr hr=>by
   have v:Ab ((2 ^ α:Nat):Rat) r.2.2:=(h r hr).2.2.vb;rcases RW r i j with e | e | e <;> rw[e]
   ·exact ZS v.nn
   ·exact v
   ·have:=v.neg
    rwa [show -1*r.2.2=-r.2.2 by grind] at this
  refine(Zn q).le ?_
  have:rs.length*2 ^ α<=2 ^ (α+4):=by rw[Nat.pow_add,Nat.mul_comm]; exact iL _ hm
  have e:(((rs.length*2 ^ α:Nat)):Rat)=(rs.length:Nat)*((2 ^ α:Nat):Rat):=by exact_mod_cast rfl
  rw[<-e]; exact_mod_cast this
theorem Rq(L:List AW):∀(w:Ap),(∀v∈L,∀j,BG (v j))->(∀T,BG (w T))->∀S,BG (Ac L w S):=by
 induction L with
 | nil=>intro w _ h; exact h
 | cons v L ih=>intro w h g; exact ih _ (λu hu=>h u (by simp[hu])) (λT=>LO T v w (h v (by simp)) g)
theorem aT{V:Nat}(L:List AW)(s:Nat):∀(w:Ap) (W:Nat),(∀v∈L,∀j,Ab ((V:Nat):Rat) (v j))->(∀T:List Bool,T.length=s->Ab ((W:Nat):Rat) (w T))->∀S:List Bool,S.length=s->Ab (((s*V) ^ L.length*W:Nat):Rat) (Ac L w S):=by
 induction L with
 | nil=>intro w W _ h S hS; rw[i8,Nat.pow_zero,Nat.one_mul]; exact h S hS
 | cons v L ih =>
  intro w W h g S hS
  have:=ih (wg v w) (s*(V*W)) (λu hu=>h u (by simp[hu])) (λT hT=>by
   have:=OZ (V:=((V:Nat):Rat)) (W:=((W:Nat):Rat)) T v w (h v (by simp)) (λU hU=>g U (by omega))
   rw[hT] at this;have e:(((s*(V*W):Nat)):Rat)=(s:Nat)*(((V:Nat):Rat)*((W:Nat):Rat)):=by rw[Rat.natCast_mul,Rat.natCast_mul]
   rw[e]; exact this) S hS
  rw[gq,Nat.pow_succ,Nat.mul_assoc,Nat.mul_assoc s V W]; exact this
theorem Zi(S:List Bool):Ab ((1:Nat):Rat) (Af S):=by
 induction S with
 | nil=>show Ab _ 1; constructor <;> decide
 | cons b S ih =>
  cases b
  ·exact ih
  ·show Ab _ 0; constructor <;> decide
theorem aX{n E:Nat}{A:List AW}(lA:A.length=n)(n1:n+1<=16)(hi:∀a∈A,∀j,BG (a j))(hb:∀a∈A,∀j,Ab ((2 ^ E:Nat):Rat) (a j)){x:Nat->Rat}(hx:∀a∈A,fx n x a=0)(hd:ld n (n+1) (Ac A Af)≠0):
  ∃W:Int,W≠0/\W.natAbs<=2 ^ ((4+E)*n)/\∀j,j<n->∃k:Int,(W:Rat)*x j=k/\k.natAbs<=2 ^ ((4+E)*n):=by
 have bd:∀S:List Bool,S.length=n+1->∀k:Int,Ac A Af S=k->k.natAbs<=2 ^ ((4+E)*n):=by
  intro S hS k hk;have b:=aT (V:=2 ^ E) A (n+1) Af 1 hb (λT _=>Zi T) S hS;rw[hk,lA,Nat.mul_one] at b;refine fY (FI b) ?_;have h1:(n+1)*2 ^ E<=2 ^ (4+E):=by rw[Nat.pow_add 2 4]; exact Nat.mul_le_mul_right _ (by omega)
  have h2:=Nat.pow_le_pow_left h1 n
  rwa [<-Nat.pow_mul] at h2
 obtain⟨w,hw⟩:=Rq A Af hi NM (Tk n (n+1));have tt:B4 n=1\/B4 n=-1:=by
  have:(B4 n-1)*(B4 n+1)=0:=by have:=Iy n; grind
  rcases jm.mp this with z | z
  ·left; grind
  ·right; grind
 have lt:(Tk n (n+1)).length=n+1:=by unfold Tk; simp
 have bw:=bd _ lt w hw;have main:∀W:Int,ld n (n+1) (Ac A Af)=W->W.natAbs<=2 ^ ((4+E)*n)->∃W:Int,W≠0/\W.natAbs<=2 ^ ((4+E)*n)/\∀j,j<n->∃k:Int,(W:Rat)*x j=k/\k.natAbs<=2 ^ ((4+E)*n):=by
  intro W hW hl;refine⟨W,λz=>hd (by rw[hW,z]; rfl),hl,λj hj=>?_⟩;obtain⟨l1,l2,l3⟩:=Th hx hj;obtain⟨k,hk⟩:=Rq A Af hi NM (JW n j);have bk:=bd _ l1 k hk;rw[hW,hk] at l3;rcases l2 with h1 | h1 <;> rw[h1] at l3
  ·exact⟨k,by grind,bk⟩
  ·refine⟨-k,?_,by rw[Int.natAbs_neg]; exact bk⟩;rw[Rat.intCast_neg]; grind
 rcases tt with e | e
 ·exact main w (by unfold ld; rw[hw,e]; grind) bw
 ·refine main (-w) ?_ (by rw[Int.natAbs_neg]; exact bw);unfold ld; rw[hw,e,Rat.intCast_neg]; grind
end Wd
namespace Mth
theorem Ge:∀(n:Nat) (l:List Int),l.Nodup->(∀x∈l,0<=x/\x<n)->l.length<=n
 | 0,l,_,h=>by
  cases l with
  | nil=>exact eU _
  | cons a r =>
   have:=h a (ir ..)
   omega
 | n+1,l,hn,h=>by
  by_cases hm:(n:Int)∈l
  ·have h1:=Ge n (l.erase (n:Int)) (hn.erase _) (λx hx=>by
    have hx1:=List.mem_of_mem_erase hx;have hx2:x≠(n:Int):=λz=>by
     rw[z] at hx;exact(List.Nodup.not_mem_erase hn) hx
    have:=h x hx1
    omega)
   have h2:=List.length_erase_of_mem hm
   have:0<l.length:=iI hm
   omega
  ·have h1:=Ge n l hn (λx hx=>by
    have hx2:x≠(n:Int):=λz=>hm (z ▸ hx)
    have:=h x hx
    omega)
   omega
theorem LA:∀(l l':List Int),l.Nodup->(∀x∈l,x∈l')->l.length<=l'.length
 | [],_,_,_=>gP _
 | a :: r,l',hn,h=>by
  have h1:=ig.mp hn;have h2:=LA r (l'.erase a) h1.2 λx hx=>(List.mem_erase_of_ne (λz:x=a=>h1.1 (z ▸ hx))).mpr (h x (gJ _ hx))
  have hm:=h a (ir ..);have h3:=List.length_erase_of_mem hm
  have:=iI hm
  rw[gq];omega
abbrev AH(n:Nat)(e:Int):Prop:=0<=e/\e<n
def A1(φ:Int->Int):Nat->Int->Int
 | 0,s=>s
 | k+1,s=>φ (A1 φ k s)
structure Fy(φ:Int->Int)(n:Nat):Prop where
 into:∀e,AH n e->AH n (φ e)
 inj:∀a b,AH n a->AH n b->φ a=φ b->a=b
section
variable {φ:Int->Int} {n:Nat} (P:Fy φ n)
include P
theorem Dg{s:Int}(hs:AH n s):∀k,AH n (A1 φ k s)
 | 0=>hs
 | k+1=>P.into _ (Dg hs k)
theorem RM{s:Int}(hs:AH n s):∀(i j:Nat),i<=j->A1 φ i s=A1 φ j s->A1 φ (j-i) s=s
 | 0,j,_,e=>by rw[Nat.sub_zero]; exact e.symm
 | i+1,0,h,_=>absurd h (by omega)
 | i+1,j+1,h,e=>by
  rw[Nat.add_sub_add_right];exact RM hs i j (by omega) (P.inj _ _ (Dg P hs i) (Dg P hs j) e)
omit P in
def HI(φ:Int->Int)(s:Int)(m:Nat):Prop:=1<=m/\A1 φ m s=s/\∀k,1<=k->k<m->A1 φ k s≠s
omit P in
theorem HI.cz{s:Int}{m m':Nat}(h:HI φ s m)(h':HI φ s m'):m=m':=by
 rcases Nat.lt_trichotomy m m' with z | z | z
 ·exact absurd h.2.1 (h'.2.2 m h.1 z)
 ·exact z
 ·exact absurd h'.2.1 (h.2.2 m' h'.1 z)
omit P in
def Ci(φ:Int->Int)(s:Int)(m:Nat):List Int:=(List.range m).map λk=>A1 φ k s
omit P in
theorem MQ{s:Int}{m:Nat}:(Ci φ s m).length=m:=by simp[Ci]
omit P in
theorem D8{s x:Int}{m:Nat}:x∈Ci φ s m↔∃k,k<m/\A1 φ k s=x:=by simp[Ci]
omit P in
theorem P5{s:Int}{m:Nat}:Ci φ s (m+1)=Ci φ s m++[A1 φ m s]:=by simp[Ci,List.range_succ]
theorem Pz{s:Int}{m:Nat}(hs:AH n s)(h:∀k,1<=k->k<m->A1 φ k s≠s):(Ci φ s m).Nodup:=by
 unfold Ci List.Nodup;rw[iM];refine List.Pairwise.imp_of_mem ?_ (List.pairwise_lt_range (n:=m));intro a b ha hb hab e;exact h (b-a) (by omega) (by have:=gu.mp hb; omega) (RM P hs a b (by omega) e)
theorem TB{s:Int}(hs:AH n s):∃m,m<=n/\HI φ s m:=by
 by_cases hz:∃m,1<=m/\m<=n/\A1 φ m s=s
 ·have key:∀N m,m<=N->1<=m->m<=n->A1 φ m s=s->∃m,m<=n/\HI φ s m:=by
   intro N
   induction N with
   | zero=>intro m h1 h2; omega
   | succ N ih =>
    intro m h1 h2 h3 h4;by_cases q:∃k,1<=k/\k<m/\A1 φ k s=s
    ·obtain⟨k,k1,k2,k3⟩:=q;exact ih k (by omega) k1 (by omega) k3
    ·exact⟨m,h3,h2,h4,λk k1 k2 k3=>q ⟨k,k1,k2,k3⟩⟩
  obtain⟨m,h1,h2,h3⟩:=hz;exact key m m (eU _) h1 h2 h3
 ·have h1:=Pz P (m:=n+1) hs λk k1 k2 k3=>hz ⟨k,k1,by omega,k3⟩
  have h2:=Ge n _ h1 λx hx=>by
   obtain⟨k,_,e⟩:=D8.mp hx;rw[<-e];exact Dg P hs k
  rw[MQ] at h2;omega
omit P in
open Classical in
def BU(φ:Int->Int)(s:Int):Nat:=if h:∃m,HI φ s m then h.choose else 1
theorem Fp{s:Int}(hs:AH n s):HI φ s (BU φ s):=by
 obtain⟨m,_,h⟩:=TB P hs;have e:∃m,HI φ s m:=⟨m,h⟩;unfold BU;rw[dif_pos e];exact e.choose_spec
theorem TF{s:Int}(hs:AH n s):BU φ s<=n:=by
 obtain⟨m,h1,h⟩:=TB P hs;rw[(Fp P hs).cz h];exact h1
omit P in
def BI(φ:Int->Int)(s:Int):List Int:=Ci φ s (BU φ s)
theorem ZW{s:Int}(hs:AH n s):(BI φ s).Nodup:=Pz P hs (Fp P hs).2.2
theorem Ik{s x:Int}(hs:AH n s)(hx:x∈BI φ s):AH n x:=by
 obtain⟨k,_,e⟩:=D8.mp hx;rw[<-e];exact Dg P hs k
theorem Fi{s:Int}(hs:AH n s):s∈BI φ s:=D8.mpr ⟨0,(Fp P hs).1,rfl⟩
theorem RD{s x:Int}(hs:AH n s)(hx:x∈BI φ s):φ x∈BI φ s:=by
 obtain⟨k,hk,e⟩:=D8.mp hx;have hp:=Fp P hs;by_cases q:k+1<BU φ s
 ·exact D8.mpr ⟨k+1,q,by rw[<-e]; rfl⟩
 ·have:k+1=BU φ s:=by omega
  refine D8.mpr ⟨0,hp.1,?_⟩;rw[<-e];show s=A1 φ (k+1) s;rw[this,hp.2.1]
theorem Xp{s x:Int}(hs:AH n s)(hx:AH n x)(h:φ x∈BI φ s):x∈BI φ s:=by
 obtain⟨k,hk,e⟩:=D8.mp h;have hp:=Fp P hs;cases k with
 | succ k=>exact D8.mpr ⟨k,by omega,P.inj _ _ (Dg P hs k) hx e⟩
 | zero =>
  have hm:BU φ s-1+1=BU φ s:=by have:=hp.1; omega
  refine D8.mpr ⟨BU φ s-1,by omega,P.inj _ _ (Dg P hs _) hx ?_⟩;rw[<-e];show A1 φ (BU φ s-1+1) s=s;rw[hm];exact hp.2.1
theorem Pn{s:Int}{S:List Int}(hs:AH n s)(hS:∀x,AH n x->φ x∈S->x∈S)(h:s∉S):∀x∈BI φ s,x∉S:=by
 intro x hx;obtain⟨k,hk,e⟩:=D8.mp hx;subst e;clear hx hk
 induction k with
 | zero=>exact h
 | succ k ih=>exact λz=>ih (hS _ (Dg P hs k) z)
omit P in
open Classical in
def Aw(φ:Int->Int):Nat->List (List Int)
 | 0=>[]
 | i+1=>if (i:Int)∈(Aw φ i).flatten then Aw φ i else Aw φ i++[BI φ i]
omit P in
theorem P6{i:Nat}(h:(i:Int)∈(Aw φ i).flatten):Aw φ (i+1)=Aw φ i:=by
 rw[Aw,ff h]
omit P in
theorem Po{i:Nat}(h:(i:Int)∉(Aw φ i).flatten):Aw φ (i+1)=Aw φ i++[BI φ i]:=by
 rw[Aw,eZ h]
omit P in
structure OM(φ:Int->Int)(n i:Nat)(R:List (List Int)):Prop where
 of:∀r∈R,∃s,AH n s/\s<i/\r=BI φ s/\∀x∈r,s<=x
 nd:R.flatten.Nodup
 all:∀e,0<=e->e<(i:Int)->e∈R.flatten
 Uc:R.Pairwise λr r'=>∀s s',r=BI φ s->AH n s->r'=BI φ s'->AH n s'->(∀x∈r,s<=x)->(∀x∈r',s'<=x)->s<s'
theorem OM.U5{i:Nat}{R:List (List Int)}(h:OM φ n i R){x:Int}(hi:AH n x)(hx:φ x∈R.flatten):x∈R.flatten:=by
 obtain⟨r,hr,hx⟩:=fV.mp hx;obtain⟨s,hs,_,e,_⟩:=h.of r hr;subst e;exact fV.mpr ⟨_,hr,Xp P hs hi hx⟩
theorem Qa{s s':Int}(hs:AH n s)(hs':AH n s')(e:BI φ s=BI φ s')(h:∀x∈BI φ s,s<=x)(h':∀x∈BI φ s',s'<=x):s=s':=by
 have h1:=h' s (e ▸ Fi P hs);have h2:=h s' (e ▸ Fi P hs');omega
theorem Fh:∀i,i<=n->OM φ n i (Aw φ i)
 | 0,_=>⟨λr h=>by simp[Aw] at h,by simp[Aw],λe h1 h2=>by omega,by simp[Aw]⟩
 | i+1,hi=>by
  have ih:=Fh i (by omega);have hs:AH n (i:Int):=⟨by omega,by omega⟩;unfold Aw;by_cases q:(i:Int)∈(Aw φ i).flatten
  ·rw[ff q];refine⟨λr hr=>?_,ih.nd,λe h1 h2=>?_,ih.Uc⟩
   ·obtain⟨s,a,b,c,d⟩:=ih.of r hr;exact⟨s,a,by omega,c,d⟩
   ·by_cases z:e=i
    ·rw[z]; exact q
    ·exact ih.all e h1 (by omega)
  ·rw[eZ q];have ap:=Pn P hs (λx hx h=>ih.U5 P hx h) q;have low:∀x∈BI φ (i:Int),(i:Int)<=x:=λx hx=>by
    rcases Int.lt_or_le x i with z | z
    ·exact absurd (ih.all x (Ik P hs hx).1 z) (ap x hx)
    ·exact z
   refine⟨λr hr=>?_,?_,λe h1 h2=>?_,?_⟩
   ·rcases fm.mp hr with hr | hr
    ·obtain⟨s,a,b,c,d⟩:=ih.of r hr;exact⟨s,a,by omega,c,d⟩
    ·have e:r=BI φ (i:Int):=by simpa using hr
     subst e;exact⟨i,hs,by omega,rfl,low⟩
   ·rw[gQ,iD];refine⟨ih.nd,by simpa using ZW P hs,λx hx y hy e=>?_⟩;subst e;exact ap x (by simpa using hy) hx
   ·rw[gQ,fm];by_cases z:e=i
    ·rw[z]; right; simpa using Fi P hs
    ·left; exact ih.all e h1 (by omega)
   ·rw[List.pairwise_append];refine⟨ih.Uc,List.pairwise_singleton ..,λr hr r' hr' s s' e hs1 e' hs1' l l'=>?_⟩;have er:r'=BI φ (i:Int):=by simpa using hr'
    obtain⟨t,ht,hti,et,lt⟩:=ih.of r hr;have h1:s=t:=Qa P hs1 ht (e.symm.trans et) (e ▸ l) (et ▸ lt);have h2:s'=(i:Int):=Qa P hs1' hs (e'.symm.trans er) (e' ▸ l') low;omega
theorem Pd:(Aw φ n).flatten.length=n:=by
 have h:=Fh P n (eU _);have h1:=Ge n _ h.nd λx hx=>by
  obtain⟨r,hr,hx⟩:=fV.mp hx;obtain⟨s,hs,_,e,_⟩:=h.of r hr;subst e;exact Ik P hs hx
 have h2:((List.range n).map (λk:Nat=>(k:Int))).length<=(Aw φ n).flatten.length:=by
  have nd:((List.range n).map (λk:Nat=>(k:Int))).Nodup:=by
   unfold List.Nodup;rw[iM];exact i6 (λ{a b} h=>by omega) (List.pairwise_lt_range (n:=n))
  refine LA _ _ nd ?_;intro x hx;obtain⟨k,hk,e⟩:=fi.mp hx
  have:=gu.mp hk
  exact h.all x (by omega) (by omega)
 rw[ed,fK] at h2;omega
end
end Mth
namespace Mth
def En(row:List Int)(k:Nat):Int:=row.getD (if k=0 then row.length-1 else k-1) 0
def A5(row:List Int):List (Int×Int):=(List.range row.length).map λk=>(row.getD k 0,En row k)
def Aq(ts:List (List Int)):List (Int×Int):=(ts.map A5).flatten
theorem Vq(row:List Int):(List.range row.length).map (λk=>row.getD k 0)=row:=by
 refine List.ext_getElem (by simp) λi h1 h2=>?_
 simp[List.getD,h2]
theorem IY(row:List Int):(A5 row).map (·.1)=row:=by
 unfold A5;rw[gG];exact Vq row
theorem Mr(row:List Int):(A5 row).length=row.length:=by simp[A5]
theorem WG(r:List Int)(l:Int):(A5 (r++[l])).map (·.2)=l :: r:=by
 unfold A5;rw[gG];have hl:(r++[l]).length=r.length+1:=by simp
 rw[hl,iJ,fk,gG];congr 1
 ·show En (r++[l]) 0=l;unfold En;rw[ff rfl,hl];simp[List.getD]
 ·refine List.ext_getElem (by simp) λi h1 h2=>?_
  simp[En,List.getD,fN h2,h2]
theorem Q6(row:List Int):((A5 row).map (·.2)).Perm row:=by
 rcases List.eq_nil_or_concat row with h | ⟨r,l,h⟩
 ·subst h;exact .nil
 ·rw[List.concat_eq_append] at h;subst h;rw[WG];exact(List.perm_append_singleton l r).symm
theorem El:∀ts:List (List Int),(Aq ts).map (·.1)=ts.flatten
 | []=>rfl
 | r :: ts=>by
  have ih:=El ts;unfold Aq at *;rw[fk,fZ,fv,IY,ih,fZ]
theorem Jc:∀ts:List (List Int),((Aq ts).map (·.2)).Perm ts.flatten
 | []=>.nil
 | r :: ts=>by
  have ih:=Jc ts;unfold Aq at *;rw[fk,fZ,fv,fZ];exact(Q6 r).append ih
theorem Pg(ts:List (List Int))(r:List Int):Aq (ts++[r])=Aq ts++A5 r:=by simp[Aq]
def lk(L:List (Int×Int))(e:Int):Option Int:=(L.find? λp=>decide (p.1=e)).map (·.2)
theorem Iw{L:List (Int×Int)}{e v:Int}(h:lk L e=some v):(e,v)∈L:=by
 unfold lk at h;cases q:L.find? λp=>decide (p.1=e) with
 | none=>rw[q] at h; cases h
 | some p =>
  rw[q] at h;have h1:=List.mem_of_find?_eq_some q;have h2:=List.find?_some q;have h3:p.1=e:=of_decide_eq_true h2;have h4:p.2=v:=fC h;rw[<-h3,<-h4];exact h1
theorem K7{L:List (Int×Int)}{e:Int}(h:e∈L.map (·.1)):∃v,lk L e=some v:=by
 obtain⟨p,hp,e1⟩:=fi.mp h;unfold lk;cases q:L.find? λp=>decide (p.1=e) with
 | none =>
  have:=List.find?_eq_none.mp q p hp
  exact absurd (jf e1) this
 | some p=>exact⟨p.2,rfl⟩
theorem Yz{L:List (Int×Int)}{e:Int}(h:e∉L.map (·.1)):lk L e=none:=by
 cases q:lk L e with
 | none=>rfl
 | some v=>exact absurd (fi.mpr ⟨_,Iw q,rfl⟩) h
theorem Ku{α β:Type}{f:α->β}:∀{L:List α},(L.map f).Nodup->∀{p q},p∈L->q∈L->f p=f q->p=q
 | [],_,p,_,hp,_,_=>absurd hp (by simp)
 | a :: L,h,p,q,hp,hq,e=>by
  rw[fk,ig] at h;rcases fE.mp hp with h1 | h1
  ·rcases fE.mp hq with h2 | h2
   ·rw[h1,h2]
   ·exact(h.1 (fi.mpr ⟨q,h2,by rw[<-e,h1]⟩)).elim
  ·rcases fE.mp hq with h2 | h2
   ·exact(h.1 (fi.mpr ⟨p,h1,by rw[e,h2]⟩)).elim
   ·exact Ku h.2 h1 h2 e
theorem OV{L:List (Int×Int)}{e v:Int}(hn:(L.map (·.1)).Nodup)(h:(e,v)∈L):lk L e=some v:=by
 obtain⟨u,hu⟩:=K7 (fi.mpr ⟨_,h,rfl⟩)
 have:=Ku hn (Iw hu) h rfl
 rw[hu,(Prod.mk.inj this).2]
structure CC(n:Nat)(ts:List (List Int)):Prop where
 nd:ts.flatten.Nodup
 mem:∀e,e∈ts.flatten↔AH n e
 KJ:n % 2=0
def oth(e:Int):Int:=if e % 2=0 then e+1 else e-1
theorem DG{n:Nat}(h:n % 2=0){e:Int}(he:AH n e):AH n (oth e):=by
 unfold oth;obtain⟨h1,h2⟩:=he;split <;> constructor <;> omega
theorem DC(e:Int):oth (oth e)=e:=by
 unfold oth;split <;> split <;> omega
def AL(ts:List (List Int))(e:Int):Int:=(lk (Aq ts) (oth e)).getD 0
section
variable {n:Nat} {ts:List (List Int)} (T:CC n ts)
include T
theorem CC.len:ts.flatten.length=n:=by
 have h1:=Ge n _ T.nd λx hx=>(T.mem x).mp hx
 have h2:((List.range n).map (λk:Nat=>(k:Int))).length<=ts.flatten.length:=by
  have nd:((List.range n).map (λk:Nat=>(k:Int))).Nodup:=by
   unfold List.Nodup;rw[iM];exact i6 (λ{a b} h=>by omega) (List.pairwise_lt_range (n:=n))
  refine LA _ _ nd λx hx=>?_
  obtain⟨k,hk,e⟩:=fi.mp hx
  have:=gu.mp hk
  exact(T.mem x).mpr ⟨by omega,by omega⟩
 rw[ed,fK] at h2;omega
theorem CC.UQ:(Aq ts).length=n:=by
 have:=congrArg List.length (El ts)
 rw[ed,T.len] at this;exact this
theorem CC.Ey{e:Int}(he:AH n e):∃v,lk (Aq ts) e=some v/\AH n v:=by
 obtain⟨v,hv⟩:=K7 (L:=Aq ts) (e:=e) (by rw[El]; exact(T.mem e).mpr he);refine⟨v,hv,(T.mem v).mp ?_⟩;exact(Jc ts).mem_iff.mp (fi.mpr ⟨_,Iw hv,rfl⟩)
theorem CC.Jz{e:Int}(he:AH n e):lk (Aq ts) (oth e)=some (AL ts e):=by
 obtain⟨v,hv,_⟩:=T.Ey (DG T.KJ he);unfold AL;rw[hv];rfl
theorem CC.perm:Fy (AL ts) n:=by
 refine⟨λe he=>?_,λa b ha hb e=>?_⟩
 ·obtain⟨v,hv,hi⟩:=T.Ey (DG T.KJ he);unfold AL;rw[hv];exact hi
 ·have h1:=Iw (T.Jz ha);have h2:=Iw (T.Jz hb);rw[e] at h1;have nd:((Aq ts).map (·.2)).Nodup:=(Jc ts).nodup_iff.mpr T.nd;have h3:=(Prod.mk.inj (Ku nd h1 h2 rfl)).1;rw[<-DC a,h3,DC]
end
def CH:Nat->List (List Int)->List (Int×Int)
 | _,[]=>[]
 | i,r :: R=>r.map (λe=>(e,(i:Int)))++CH (i+1) R
theorem MS:∀(i:Nat) (R:List (List Int)) (r:List Int),CH i (R++[r])=CH i R++r.map λe=>(e,((i+R.length:Nat):Int))
 | i,[],r=>by simp[CH]
 | i,s :: R,r=>by
  rw[jn];unfold CH;rw[MS (i+1) R r,gW];congr 3
  funext e
  rw[gq,Nat.add_right_comm,Nat.add_assoc]
theorem E9:∀(i:Nat) (R:List (List Int)),(CH i R).map (·.1)=R.flatten
 | _,[]=>rfl
 | i,r :: R=>by
  unfold CH;rw[fv,E9 (i+1) R,gG,fZ];congr 1;exact List.map_id'' (λ_=>rfl) r
theorem Dr{α:Type}{R:List α}{j:Nat}{r:α}(h:R[j]?=some r):R.take (j+1)=R.take j++[r]:=by
 rw[List.take_add_one,h];rfl
section
variable {φ:Int->Int} {n:Nat} (P:Fy φ n)
include P
theorem Ys{s:Int}(hs:AH n s):(BI φ s).headD 0=s:=by
 have h:=(Fp P hs).1;unfold BI Ci;obtain⟨m,e⟩:∃m,BU φ s=m+1:=⟨BU φ s-1,by omega⟩;rw[e,iJ,fk];rfl
theorem K2{r:List Int}(h:r∈Aw φ n):AH n (r.headD 0)/\r=BI φ (r.headD 0)/\∀x∈r,r.headD 0<=x:=by
 obtain⟨s,hs,_,e,l⟩:=(Fh P n (eU _)).of r h;subst e;rw[Ys P hs];exact⟨hs,rfl,l⟩
theorem Jp:(Aw φ n).flatten.Nodup:=(Fh P n (eU _)).nd
theorem IT{x:Int}:x∈(Aw φ n).flatten↔AH n x:=by
 constructor
 ·intro h;obtain⟨r,hr,hx⟩:=fV.mp h;obtain⟨h1,h2,_⟩:=K2 P hr;rw[h2] at hx;exact Ik P h1 hx
 ·intro h;exact(Fh P n (eU _)).all x h.1 h.2
end
end Mth
namespace Mth
theorem I0{l m:List Int}:(l++m).Nodup↔l.Nodup/\m.Nodup/\∀x∈l,x∉m:=by
 rw[iD];constructor
 ·rintro⟨a,b,c⟩;exact⟨a,b,λx hx hm=>c x hx x hm rfl⟩
 ·rintro⟨a,b,c⟩;exact⟨a,b,λx hx y hy e=>c x hx (e ▸ hy)⟩
theorem Yg{n:Nat}{x:Int}:AH (n+1) x↔AH n x\/x=n:=by
 constructor
 ·rintro⟨a,b⟩;rcases Int.lt_or_le x n with h | h
  ·exact .inl ⟨a,h⟩
  ·right; omega
 ·rintro(⟨a,b⟩ | rfl)
  ·exact⟨a,by omega⟩
  ·exact⟨by omega,by omega⟩
def cp:Int->List Int->List (Int×Int)
 | _,[]=>[]
 | y,a :: l=>(a,y) :: cp a l
theorem Sn:∀(y:Int) (l:List Int),(cp y l).length=l.length
 | _,[]=>rfl
 | _,a :: l=>by simp[cp,Sn a l]
theorem TC:∀(y:Int) (l:List Int) (k:Nat),k<l.length->(cp y l)[k]?=some (l.getD k 0,if k=0 then y else l.getD (k-1) 0)
 | _,a :: l,0,_=>rfl
 | y,a :: l,k+1,h=>by
  show(cp a l)[k]?=_;rw[TC a l k (by simpa using h)];cases k with
  | zero=>rfl
  | succ k=>simp
theorem Eb(row:List Int):A5 row=cp (row.getLastD 0) row:=by
 refine List.ext_getElem? λk=>?_
 by_cases h:k<row.length
 ·rw[TC _ _ _ h];unfold A5 En;rw[fg,gA h];show some (row.getD k 0,row.getD (if k=0 then row.length-1 else k-1) 0)=_;congr 2;by_cases z:k=0
  ·rw[ff z,ff z];rw[gF,List.getLast?_eq_getElem?,eO]
  ·rw[eZ z,eZ z]
 ·rw[gU (by rw[Mr]; omega),gU (by rw[Sn]; omega)]
theorem Lg:∀(y:Int) (l m:List Int),cp y (l++m)=cp y l++cp (l.getLastD y) m
 | _,[],m=>rfl
 | y,a :: l,m=>by
  show(a,y) :: cp a (l++m)=(a,y) :: (cp a l++cp ((a :: l).getLastD y) m);rw[Lg a l m,show(a :: l).getLastD y=l.getLastD a by cases l <;> rfl]
theorem LJ(ρ:Int->Int):∀(y:Int) (l:List Int),cp (ρ y) (l.map ρ)=(cp y l).map λp=>(ρ p.1,ρ p.2)
 | _,[]=>rfl
 | y,a :: l=>by
  show(ρ a,ρ y) :: cp (ρ a) (l.map ρ)=_;rw[LJ ρ a l]; rfl
def pr(ts:List (List Int))(x:Int):Int:=(lk (Aq ts) x).getD 0
theorem Bq(ts:List (List Int))(e:Int):AL ts e=pr ts (oth e):=rfl
theorem Dc{ts:List (List Int)}(nd:ts.flatten.Nodup){x y:Int}(h:(x,y)∈Aq ts):pr ts x=y:=by
 unfold pr;rw[OV (by rw[El]; exact nd) h]; rfl
theorem GZ{ts:List (List Int)}(nd:ts.flatten.Nodup){x:Int}(h:x∈ts.flatten):(x,pr ts x)∈Aq ts:=by
 rw[<-El] at h;obtain⟨v,hv⟩:=K7 h
 have:=Iw hv
 unfold pr;rw[hv]; exact this
theorem Je(A B:List (List Int)):Aq (A++B)=Aq A++Aq B:=by simp[Aq]
theorem IS(A B:List (List Int))(r:List Int):Aq (A++r :: B)=Aq A++(A5 r++Aq B):=by simp[Aq]
theorem GS(A B:List (List Int))(r:List Int):(A++r :: B).flatten=A.flatten++(r++B.flatten):=by simp
theorem TV{A B:List (List Int)}{t1 t2:List Int}{s e:Int}(nd:(A++(t1++s :: t2) :: B).flatten.Nodup)(he:e∉(A++(t1++s :: t2) :: B).flatten):
  (A++(t1++e :: s :: t2) :: B).flatten.Nodup/\(∀x,x∈(A++(t1++e :: s :: t2) :: B).flatten↔x∈(A++(t1++s :: t2) :: B).flatten\/x=e) /\
  pr (A++(t1++e :: s :: t2) :: B) s=e/\pr (A++(t1++e :: s :: t2) :: B) e=pr (A++(t1++s :: t2) :: B) s /\
  ∀x,x∈(A++(t1++s :: t2) :: B).flatten->x≠s->pr (A++(t1++e :: s :: t2) :: B) x=pr (A++(t1++s :: t2) :: B) x:=by
 have p:List.Perm (A++(t1++e :: s :: t2) :: B).flatten (e :: (A++(t1++s :: t2) :: B).flatten):=by
  rw[GS,GS,show A.flatten++(t1++e :: s :: t2++B.flatten)=(A.flatten++t1)++e :: (s :: t2++B.flatten) by simp];exact List.perm_middle.trans (List.Perm.cons _ (List.Perm.of_eq (by simp)))
 have nd':(A++(t1++e :: s :: t2) :: B).flatten.Nodup:=p.nodup_iff.mpr (ig.mpr ⟨he,nd⟩);have hl:(t1++e :: s :: t2).getLastD 0=(t1++s :: t2).getLastD 0:=by
  rw[gF,gF,List.getLast?_append,List.getLast?_append];rw[show(e :: s :: t2).getLast?=(s :: t2).getLast? by simp[List.getLast?_cons_cons]]
 generalize hy:(t1++s :: t2).getLastD 0=y at hl;have r1:A5 (t1++s :: t2)=cp y t1++(s,t1.getLastD y) :: cp s t2:=by rw[Eb,hy,Lg]; rfl
 have r2:A5 (t1++e :: s :: t2)=cp y t1++(e,t1.getLastD y) :: (s,e) :: cp s t2:=by rw[Eb,hl,Lg]; rfl
 have ps:pr (A++(t1++s :: t2) :: B) s=t1.getLastD y:=Dc nd (by rw[IS,r1]; simp);refine⟨nd',λx=>p.mem_iff.trans (by simp only[fE]; exact or_comm),Dc nd' (by rw[IS,r2]; simp),?_,λx hx xs=>?_⟩
 ·rw[ps];exact Dc nd' (by rw[IS,r2]; simp)
 ·refine Dc nd' ?_;have m:=GZ nd hx;rw[IS,r1] at m;rw[IS,r2];simp only[fm,fE,Prod.mk.injEq] at m ⊢;rcases m with z | (z | z | z) | z
  ·exact .inl z
  ·exact .inr (.inl (.inl z))
  ·exact absurd z.1 xs
  ·exact .inr (.inl (.inr (.inr (.inr z))))
  ·exact .inr (.inr z)
theorem Zk{A B:List (List Int)}{t:List Int}{a f:Int}(nd:(A++t :: B).flatten.Nodup)(ha:a∈t)(hf:f∉(A++t :: B).flatten):
  (A++(t.map λx=>if x=a then f else x) :: B).flatten.Nodup/\(∀x,x∈(A++(t.map λx=>if x=a then f else x) :: B).flatten↔(x∈(A++t :: B).flatten/\x≠a)\/x=f) /\
  pr (A++(t.map λx=>if x=a then f else x) :: B) f=(if pr (A++t :: B) a=a then f else pr (A++t :: B) a) /\
  ∀x,x∈(A++t :: B).flatten->x≠a->pr (A++(t.map λx=>if x=a then f else x) :: B) x=(if pr (A++t :: B) x=a then f else pr (A++t :: B) x):=by
 generalize hρ:(λx=>if x=a then f else x)=ρ;have ra:ρ a=f:=by rw[<-hρ]; simp
 have rx:∀x,x≠a->ρ x=x:=λx h=>by rw[<-hρ]; simp[h]
 have rr:∀z,(if z=a then f else z)=ρ z:=λz=>by rw[<-hρ]
 rw[GS] at nd hf;obtain⟨n1,n2,n3⟩:=I0.mp nd;obtain⟨n4,n5,n6⟩:=I0.mp n2;simp only[fm,not_or] at hf;have inj:∀x y,x∈t->y∈t->ρ x=ρ y->x=y:=λx y hx hy e=>by
  by_cases xa:x=a
  ·by_cases ya:y=a
   ·rw[xa,ya]
   ·rw[xa,ra,rx y ya] at e; exact absurd (e ▸ hy) hf.2.1
  ·by_cases ya:y=a
   ·rw[ya,ra,rx x xa] at e; exact absurd (e ▸ hx) hf.2.1
   ·rwa [rx x xa,rx y ya] at e
 have ndm:(t.map ρ).Nodup:=by
  unfold List.Nodup;rw[iM];exact List.Pairwise.imp_of_mem (λ{x y} hx hy h e=>h (inj x y hx hy e)) n4
 have mm:∀x,x∈t.map ρ↔(x∈t/\x≠a)\/x=f:=λx=>by
  rw[fi];constructor
  ·rintro⟨y,hy,rfl⟩;by_cases ya:y=a
   ·right; rw[ya,ra]
   ·left; rw[rx y ya]; exact⟨hy,ya⟩
  ·rintro(⟨h1,h2⟩ | rfl)
   ·exact⟨x,h1,rx x h2⟩
   ·exact⟨a,ha,ra⟩
 have aA:a∉A.flatten:=λz=>n3 a z (by simp[ha])
 have aB:a∉B.flatten:=λz=>n6 a ha z
 have nd':(A++(t.map ρ) :: B).flatten.Nodup:=by
  rw[GS,I0,I0];refine⟨n1,⟨ndm,n5,λx hx=>?_⟩,λx hx=>?_⟩
  ·rcases(mm x).mp hx with z | z
   ·exact n6 x z.1
   ·rw[z]; exact hf.2.2
  ·intro z;rcases fm.mp z with z | z
   ·rcases(mm x).mp z with w | w
    ·exact n3 x hx (by simp[w.1])
    ·exact hf.1 (w ▸ hx)
   ·exact n3 x hx (by simp[z])
 have row:A5 (t.map ρ)=(A5 t).map λp=>(ρ p.1,ρ p.2):=by
  rw[Eb,Eb,<-LJ];congr 1;cases t with
  | nil=>cases ha
  | cons b l =>
   rw[gF,gF,List.getLast?_map];rw[List.getLast?_cons]; rfl
 have old:∀{x y},(x,y)∈Aq (A++t :: B)->x∈(A++t :: B).flatten/\y∈(A++t :: B).flatten:=λ{x y} h=>by
  constructor
  ·rw[<-El]; exact fi.mpr ⟨_,h,rfl⟩
  ·exact(Jc _).mem_iff.mp (fi.mpr ⟨_,h,rfl⟩)
 have ndO:(A++t :: B).flatten.Nodup:=by rw[GS]; exact nd
 have snd_in:∀{L:List (List Int)} {x y:Int},(x,y)∈Aq L->y∈L.flatten:=λ{L x y} h=>(Jc _).mem_iff.mp (fi.mpr ⟨_,h,rfl⟩)
 have go:∀x y,(x,y)∈Aq (A++t :: B)->(ρ x,ρ y)∈Aq (A++(t.map ρ) :: B):=λx y h=>by
  have hx:=(old h).1;rw[IS] at h ⊢;rw[row];rcases fm.mp h with z | z
  ·have xA:x∈A.flatten:=by rw[<-El]; exact fi.mpr ⟨_,z,rfl⟩
   have yA:=snd_in z;rw[rx x (λe=>aA (e ▸ xA)),rx y (λe=>aA (e ▸ yA))];exact iS _ z
  rcases fm.mp z with z | z
  ·exact gz _ (iS _ (fi.mpr ⟨_,z,rfl⟩))
  ·have xB:x∈B.flatten:=by rw[<-El]; exact fi.mpr ⟨_,z,rfl⟩
   have yB:=snd_in z;rw[rx x (λe=>aB (e ▸ xB)),rx y (λe=>aB (e ▸ yB))];exact gz _ (gz _ z)
 have am:a∈(A++t :: B).flatten:=by rw[GS]; simp[ha]
 refine⟨nd',λx=>?_,?_,λx hx xa=>?_⟩
 ·rw[GS,GS];simp only[fm,mm];constructor
  ·rintro(z | (z | z) | z)
   ·exact .inl ⟨.inl z,λe=>aA (e ▸ z)⟩
   ·exact .inl ⟨.inr (.inl z.1),z.2⟩
   ·exact .inr z
   ·exact .inl ⟨.inr (.inr z),λe=>aB (e ▸ z)⟩
  ·rintro(⟨z | z | z,w⟩ | z)
   ·exact .inl z
   ·exact .inr (.inl (.inl ⟨z,w⟩))
   ·exact .inr (.inr z)
   ·exact .inr (.inl (.inr z))
 ·rw[rr]
  have:=go _ _ (GZ ndO am)
  rw[ra] at this;exact Dc nd' this
 ·rw[rr]
  have:=go _ _ (GZ ndO hx)
  rw[rx x xa] at this;exact Dc nd' this
theorem XS{ts:List (List Int)}{a:Int}(nd:ts.flatten.Nodup)(ha:a∉ts.flatten):(ts++[[a]]).flatten.Nodup/\pr (ts++[[a]]) a=a/\∀x,x∈ts.flatten->pr (ts++[[a]]) x=pr ts x:=by
 have nd':(ts++[[a]]).flatten.Nodup:=by
  rw[gQ,I0];exact⟨nd,by simp,λx hx h=>ha (by simp at h; exact h ▸ hx)⟩
 refine⟨nd',Dc nd' ?_,λx hx=>Dc nd' ?_⟩
 ·rw[Je]; exact gz _ (by simp[Aq,Eb,cp])
 ·rw[Je]; exact iS _ (GZ nd hx)
theorem Xl{ts:List (List Int)}{a b:Int}(nd:ts.flatten.Nodup)(ha:a∉ts.flatten)(hb:b∉ts.flatten)(ab:a≠b):(ts++[[a,b]]).flatten.Nodup/\pr (ts++[[a,b]]) a=b/\pr (ts++[[a,b]]) b=a/\∀x,x∈ts.flatten->pr (ts++[[a,b]]) x=pr ts x:=by
 have nd':(ts++[[a,b]]).flatten.Nodup:=by
  rw[gQ,I0];refine⟨nd,by simp[ab],λx hx h=>?_⟩;simp at h;rcases h with z | z
  ·exact ha (z ▸ hx)
  ·exact hb (z ▸ hx)
 refine⟨nd',Dc nd' ?_,Dc nd' ?_,λx hx=>Dc nd' ?_⟩
 ·rw[Je]; exact gz _ (by simp[Aq,Eb,cp])
 ·rw[Je]; exact gz _ (by simp[Aq,Eb,cp])
 ·rw[Je]; exact iS _ (GZ nd hx)
structure Du(φ:Int->Int)(n:Nat):Prop where
 DN:∀S:Int->Prop,(∀x,AH n x->(S x↔S (φ x)))->(∀k:Nat,1<=k->2*k+1<n->(S (2*(k:Int))↔S (2*(k:Int)+1)))->S 1->∀x,AH n x->S x
section
variable {φ ψ:Int->Int} {n:Nat} {a b:Int}
theorem Cg{x:Int}:AH (n+2) x↔AH n x\/x=n\/x=(n:Int)+1:=by
 constructor
 ·rintro⟨h1,h2⟩;push_cast at h2;by_cases z:x<n
  ·exact .inl ⟨h1,z⟩
  ·omega
 ·rintro(⟨h1,h2⟩ | rfl | rfl)
  ·exact⟨h1,by push_cast; omega⟩
  ·exact⟨by omega,by push_cast; omega⟩
  ·exact⟨by omega,by push_cast; omega⟩
theorem Du.KS(D:Du φ n)(into:∀x,AH n x->AH n (φ x))(n2:2<=n)(ha:AH n a)(h1:ψ a=n)(h2:ψ n=(n:Int)+1)(h3:ψ ((n:Int)+1)=φ a)(h4:∀x,AH n x->x≠a->ψ x=φ x):Du ψ (n+2):=by
 refine⟨λS hS hr h0=>?_⟩
 ·have up:∀{x:Int},AH n x->AH (n+2) x:=λh=>Cg.mpr (.inl h)
  have hN:S n↔S ((n:Int)+1):=by have:=hS n (Cg.mpr (.inr (.inl rfl))); rwa [h2] at this
  have hN1:S ((n:Int)+1)↔S (φ a):=by have:=hS ((n:Int)+1) (Cg.mpr (.inr (.inr rfl))); rwa [h3] at this
  have hA:S a↔S n:=by have:=hS a (up ha); rwa [h1] at this
  have old:=D.DN S (λx hx=>by
   by_cases e:x=a
   ·rw[e]; exact hA.trans (hN.trans hN1)
   ·have:=hS x (up hx); rwa [h4 x hx e] at this) (λk k1 k2=>hr k k1 (by omega)) h0
  intro x hx;rcases Cg.mp hx with z | rfl | rfl
  ·exact old x z
  ·exact hA.mp (old a ha)
  ·exact hN.mp (hA.mp (old a ha))
theorem Qn{S:Int->Prop}(hS:∀x,AH n x->(S x↔S (φ x)))(into:∀x,AH n x->AH n (φ x))(ha:AH n a):∀k,AH n (A1 φ k a)/\(S a↔S (A1 φ k a))
 | 0=>⟨ha,Iff.rfl⟩
 | k+1=>by
  obtain⟨h1,h2⟩:=Qn hS into ha k;exact⟨into _ h1,h2.trans (hS _ h1)⟩
theorem Du.KD(D:Du φ n)(into:∀x,AH n x->AH n (φ x))(n2:2<=n)(ev:n % 2=0)(ha:AH n a)(kb:∃k,A1 φ k a=b)(h1:a≠b->ψ a=n)(h2:a≠b->ψ n=φ b)(h2':a=b->ψ n=n)(h3:ψ b=(n:Int)+1)(h5:ψ ((n:Int)+1)=φ a)(h4:∀x,AH n x->x≠a->x≠b->ψ x=φ x):Du ψ (n+2):=by
 obtain⟨k,hk⟩:=kb;have hb:AH n b:=by rw[<-hk]; exact(Qn (S:=λ_=>True) (λ_ _=>Iff.rfl) into ha k).1
 refine⟨λS hS hr h0=>?_⟩
 ·have up:∀{x:Int},AH n x->AH (n+2) x:=λh=>Cg.mpr (.inl h)
  have hR:S n↔S ((n:Int)+1):=by
   have:=hr (n / 2) (by omega) (by omega)
   rwa [show 2*((n / 2:Nat):Int)=(n:Int) by omega] at this
  have hN1:S ((n:Int)+1)↔S (φ a):=by have:=hS ((n:Int)+1) (Cg.mpr (.inr (.inr rfl))); rwa [h5] at this
  have hB:S b↔S ((n:Int)+1):=by have:=hS b (up hb); rwa [h3] at this
  have old:=D.DN S (λx hx=>by
   by_cases eb:x=b
   ·by_cases ab:a=b
    ·rw[eb,<-ab];rw[<-ab] at hB;exact hB.trans hN1
    ·have hN:S n↔S (φ b):=by have:=hS n (Cg.mpr (.inr (.inl rfl))); rwa [h2 ab] at this
     rw[eb];exact hB.trans (hR.symm.trans hN)
   ·by_cases ea:x=a
    ·have hA:S a↔S n:=by have:=hS a (up ha); rwa [h1 (λe=>eb (ea.trans e))] at this
     rw[ea];exact hA.trans (hR.trans hN1)
    ·have:=hS x (up hx); rwa [h4 x hx ea eb] at this) (λk k1 k2=>hr k k1 (by omega)) h0
  intro x hx;rcases Cg.mp hx with z | rfl | rfl
  ·exact old x z
  ·exact hR.mpr (hB.mp (old b hb))
  ·exact hB.mp (old b hb)
theorem Du.part{q pe:Int}(D:Du φ n)(into:∀x,AH n x->AH n (φ x))(n2:2<=n)(hq:AH n q)(hp:AH n pe)(h1:ψ q=n)(h2:ψ n=(if φ q=pe then (n:Int)+1 else φ q))(h3:ψ ((n:Int)+1)=pe)(h4:∀x,AH n x->x≠q->ψ x=(if φ x=pe then (n:Int)+1 else φ x)):Du ψ (n+2):=by
 refine⟨λS hS hr h0=>?_⟩
 ·have up:∀{x:Int},AH n x->AH (n+2) x:=λh=>Cg.mpr (.inl h)
  have hN1:S ((n:Int)+1)↔S pe:=by have:=hS ((n:Int)+1) (Cg.mpr (.inr (.inr rfl))); rwa [h3] at this
  have kk:∀x,(S (if φ x=pe then (n:Int)+1 else φ x)↔S (φ x)):=λx=>by
   by_cases e:φ x=pe
   ·rw[ff e,e]; exact hN1
   ·rw[eZ e]
  have hQ:S q↔S n:=by have:=hS q (up hq); rwa [h1] at this
  have old:=D.DN S (λx hx=>by
   by_cases e:x=q
   ·have hN:=hS n (Cg.mpr (.inr (.inl rfl)));rw[h2] at hN;rw[e];exact hQ.trans (hN.trans (kk q))
   ·have:=hS x (up hx)
    rw[h4 x hx e] at this;exact this.trans (kk x)) (λk k1 k2=>hr k k1 (by omega)) h0
  intro x hx;rcases Cg.mp hx with z | rfl | rfl
  ·exact old x z
  ·exact hQ.mp (old q hq)
  ·exact hN1.mpr (old pe hp)
def CK(ts:List (List Int))(n:Nat):Prop:=∀f:Int->Rat,(∀x,AH n x->f (oth x)=- f x)->(∀t∈ts,(t.map f).sum=0)->∃p:Int->Rat,(∀x,AH n x->p (AL ts x)=p x)/\∀x,AH n x->p x-p (oth x)=f x
theorem Zu{p:Nat->Prop}:∀k,p k->∃k,p k/\∀j,j<k->¬p j:=by
 intro k
 induction k using Nat.strongRecOn with
 | ind k ih =>
  intro h;by_cases z:∃j,j<k/\p j
  ·obtain⟨j,h1,h2⟩:=z;exact ih j h1 h2
  ·exact⟨k,h,λj hj q=>z ⟨j,hj,q⟩⟩
theorem Qw(φ:Int->Int)(s:Int)(i:Nat):∀k,A1 φ k (A1 φ i s)=A1 φ (k+i) s
 | 0=>by rw[Nat.zero_add]; rfl
 | k+1=>by
  rw[show k+1+i=(k+i)+1 by omega];show φ (A1 φ k (A1 φ i s))=φ (A1 φ (k+i) s);rw[Qw φ s i k]
def CM(φ:Int->Int)(a:Int):Nat->Int->Rat
 | 0,_=>0
 | k+1,x=>CM φ a k x+if A1 φ (k+1) a=x then 1 else 0
theorem Qx{φ:Int->Int}{n:Nat}(PM:Fy φ n){a x:Int}(ha:AH n a)(hx:AH n x):∀k,CM φ a k (φ x)=CM φ a k x+(if x=a then 1 else 0)-(if A1 φ k a=x then 1 else 0)
 | 0=>by
  show(0:Rat)=0+(if x=a then 1 else 0)-(if a=x then 1 else 0);by_cases e:x=a
  ·rw[ff e,ff e.symm]; grind
  ·rw[eZ e,eZ (λz=>e z.symm)]; grind
 | k+1=>by
  show CM φ a k (φ x)+(if φ (A1 φ k a)=φ x then 1 else 0)=CM φ a k x+(if A1 φ (k+1) a=x then 1 else 0)+(if x=a then 1 else 0)-(if A1 φ (k+1) a=x then 1 else 0);rw[Qx PM ha hx k];by_cases e:A1 φ k a=x
  ·rw[ff e,ff (show φ (A1 φ k a)=φ x by rw[e])]; grind
  ·rw[eZ e,eZ (show ¬φ (A1 φ k a)=φ x from λz=>e (PM.inj _ _ (Dg PM ha k) hx z))]; grind
theorem ZJ{φ:Int->Int}{n:Nat}(PM:Fy φ n){a b:Int}(ha:AH n a)(kb:∃k,A1 φ k a=b):∃χ:Int->Rat,(∀x,AH n x->χ (φ x)=χ x+(if x=a then 1 else 0)-(if x=b then 1 else 0))/\(a≠b->χ b=χ a+1):=by
 obtain⟨k0,hk0⟩:=kb;obtain⟨k,hk,mn⟩:=Zu (p:=λk=>A1 φ k a=b) k0 hk0;have st:∀x,AH n x->CM φ a k (φ x)=CM φ a k x+(if x=a then 1 else 0)-(if x=b then 1 else 0):=λx hx=>by
  rw[Qx PM ha hx k,hk];by_cases e:x=b
  ·rw[ff e,ff (show b=x from e.symm)]
  ·rw[eZ e,eZ (show ¬b=x from λz=>e z.symm)]
 refine⟨CM φ a k,st,λab=>?_⟩;have go:∀j,j<k->CM φ a k (A1 φ (j+1) a)=CM φ a k a+1:=by
  intro j
  induction j with
  | zero =>
   intro _;show CM φ a k (φ a)=_;rw[st a ha,ff rfl,eZ ab]; grind
  | succ j ih =>
   intro hj;show CM φ a k (φ (A1 φ (j+1) a))=_;have e1:A1 φ (j+1) a≠a:=λe=>mn (k-(j+1)) (by omega) (by
    show A1 φ (k-(j+1)) a=b
    have:=Qw φ a (j+1) (k-(j+1))
    rw[e,show k-(j+1)+(j+1)=k by omega,hk] at this;exact this)
   rw[st _ (Dg PM ha _),eZ e1,eZ (mn (j+1) (by omega)),ih (by omega)]; grind
 have k0:0<k:=by
  rcases Nat.eq_zero_or_pos k with z | z
  ·subst z; exact absurd hk ab
  ·exact z
 have:=go (k-1) (by omega)
 rw[show k-1+1=k by omega,hk] at this;exact this
theorem Ky{l m:List Rat}(h:l.Perm m):l.sum=m.sum:=by
 induction h with
 | nil=>rfl
 | cons a _ ih=>rw[gf,gf,ih]
 | swap a b l=>rw[gf,gf,gf,gf]; grind
 | trans _ _ i1 i2=>exact i1.trans i2
theorem Jr{f g:Int->Rat}:∀t:List Int,(t.map λx=>f x+g x).sum=(t.map f).sum+(t.map g).sum
 | []=>by simp; grind
 | a :: t=>by rw[fk,fk,fk,gf,gf,gf,Jr t]; grind
theorem Ji{f:Int->Rat}(c:Rat):∀t:List Int,(t.map λx=>c*f x).sum=c*(t.map f).sum
 | []=>by simp
 | a :: t=>by rw[fk,fk,gf,gf,Ji c t]; grind
theorem Q8{f g:Int->Rat}{t:List Int}(h:∀x∈t,f x=g x):(t.map f).sum=(t.map g).sum:=by rw[ip h]
theorem Nf{s:Int}:∀{t:List Int},t.Nodup->(t.map λx=>if x=s then (1:Rat) else 0).sum=if s∈t then 1 else 0
 | [],_=>by simp
 | a :: t,nd=>by
  rw[ig] at nd;rw[fk,gf,Nf nd.2];by_cases e:a=s
  ·subst e; rw[ff rfl,eZ nd.1,ff (by simp)]; grind
  ·rw[eZ e];by_cases z:s∈t
   ·rw[ff z,ff (by simp[z])]; grind
   ·rw[eZ z,eZ (show ¬s∈a :: t from λq=>(fE.mp q).elim (λq=>e q.symm) z)]; grind
theorem YE{ts:List (List Int)}(nd:ts.flatten.Nodup){t:List Int}(ht:t∈ts)(g:Int->Rat):(t.map λx=>g (pr ts x)).sum=(t.map g).sum:=by
 have h1:(t.map λx=>g (pr ts x))=((A5 t).map λp=>g p.2):=by
  conv=>lhs; rw[<-IY t]
  rw[gG];refine ip λp hp=>?_
  show g (pr ts p.1)=g p.2;rw[Dc nd (x:=p.1) (y:=p.2) (fV.mpr ⟨A5 t,fi.mpr ⟨t,ht,rfl⟩,hp⟩)]
 rw[h1,show((A5 t).map λp=>g p.2)=((A5 t).map (·.2)).map g by rw[gG]; rfl];exact Ky ((Q6 t).map g)
variable {ts ts':List (List Int)}
def Et(p:Int->Rat)(n:Nat)(u v:Rat)(x:Int):Rat:=if x=(n:Int) then u else if x=(n:Int)+1 then v else p x
theorem GX(p:Int->Rat)(u v:Rat):Et p n u v (n:Int)=u:=ff rfl
theorem GW(p:Int->Rat)(u v:Rat):Et p n u v ((n:Int)+1)=v:=by unfold Et; rw[eZ (by omega),ff rfl]
theorem DW(p:Int->Rat)(u v:Rat){x:Int}(h:AH n x):Et p n u v x=p x:=by unfold Et; rw[eZ (λe=>by have:=h.2; omega),eZ (λe=>by have:=h.2; omega)]
theorem CK.Ct{p:Int->Rat}{f:Int->Rat}{u v:Rat}(ev:n % 2=0)(anti:∀x,AH (n+2) x->f (oth x)=- f x)(d:∀x,AH n x->p x-p (oth x)=f x)(h:u-v=f n):∀x,AH (n+2) x->Et p n u v x-Et p n u v (oth x)=f x:=λx hx=>by
 have o1:oth (n:Int)=(n:Int)+1:=by unfold oth; rw[ff (by omega)]
 have o2:oth ((n:Int)+1)=n:=by unfold oth; rw[eZ (by omega)]; omega
 rcases Cg.mp hx with z | rfl | rfl
 ·rw[DW _ _ _ z,DW _ _ _ (DG ev z)]; exact d x z
 ·rw[o1,GX,GW]; exact h
 ·have:=anti n (Cg.mpr (.inr (.inl rfl)))
  rw[o1] at this;rw[o2,GX,GW,this]
  grind
theorem up2{x:Int}(h:AH n x):AH (n+2) x:=Cg.mpr (.inl h)
theorem CK.KS (D:CK ts n) (ev:n % 2=0) (into:∀x,AH n x->AH n (AL ts x)) (ha:AH n a) (h1:AL ts' a=n) (h2:AL ts' n=(n:Int)+1) (h3:AL ts' ((n:Int)+1)=AL ts a) (h4:∀x,AH n x->x≠a->AL ts' x=AL ts x)
  (hb:∀f:Int->Rat,(∀t∈ts',(t.map f).sum=0)->f ((n:Int)+1)=0/\(f n=0->∀t∈ts,(t.map f).sum=0)):CK ts' (n+2):=λf anti bal=>by
 obtain⟨b1,b2⟩:=hb f bal;have o2:oth ((n:Int)+1)=n:=by unfold oth; rw[eZ (by omega)]; omega
 have f0:f n=0:=by
  have:=anti ((n:Int)+1) (Cg.mpr (.inr (.inr rfl)))
  rw[o2,b1] at this;rw[this]; grind
 obtain⟨p,i1,d1⟩:=D f (λx hx=>anti x (up2 hx)) (b2 f0);refine⟨Et p n (p a) (p a),λx hx=>?_,CK.Ct ev anti d1 (by rw[f0]; grind)⟩;rcases Cg.mp hx with z | rfl | rfl
 ·by_cases e:x=a
  ·rw[e,h1,GX,DW _ _ _ ha]
  ·rw[h4 x z e,DW _ _ _ (into x z),DW _ _ _ z]; exact i1 x z
 ·rw[h2,GX,GW]
 ·rw[h3,GW,DW _ _ _ (into a ha)]; exact i1 a ha
theorem CK.part {pe:Int} (D:CK ts n) (ev:n % 2=0) (into:∀x,AH n x->AH n (AL ts x)) (hp:AH n pe) (h1:AL ts' (oth pe)=n) (h2:AL ts' n=(if AL ts (oth pe)=pe then (n:Int)+1 else AL ts (oth pe))) (h3:AL ts' ((n:Int)+1)=pe) (h4:∀x,AH n x->x≠oth pe->AL ts' x=(if AL ts x=pe then (n:Int)+1 else AL ts x))
  (hb:∀f:Int->Rat,(∀t∈ts',(t.map f).sum=0)->f pe+f n=0/\(f ((n:Int)+1)=f pe->∀t∈ts,(t.map f).sum=0)):CK ts' (n+2):=λf anti bal=>by
 obtain⟨b1,b2⟩:=hb f bal;have o1:oth (n:Int)=(n:Int)+1:=by unfold oth; rw[ff (by omega)]
 have f0:f ((n:Int)+1)=f pe:=by
  have:=anti n (Cg.mpr (.inr (.inl rfl)))
  rw[o1] at this;rw[this]; grind
 obtain⟨p,i1,d1⟩:=D f (λx hx=>anti x (up2 hx)) (b2 f0);have hq:=DG ev hp;have dp:=d1 pe hp;have key:∀x,AH n x->Et p n (p (oth pe)) (p pe) (if AL ts x=pe then (n:Int)+1 else AL ts x)=p x:=λx hx=>by
  by_cases e:AL ts x=pe
  ·rw[ff e,GW,<-e]; exact i1 x hx
  ·rw[eZ e,DW _ _ _ (into x hx)]; exact i1 x hx
 refine⟨Et p n (p (oth pe)) (p pe),λx hx=>?_,CK.Ct ev anti d1 (by grind)⟩;rcases Cg.mp hx with z | rfl | rfl
 ·by_cases e:x=oth pe
  ·rw[e,h1,GX,DW _ _ _ hq]
  ·rw[h4 x z e,key x z,DW _ _ _ z]
 ·rw[h2,key _ hq,GX]
 ·rw[h3,GW,DW _ _ _ hp]
theorem Ng{φ:Int->Int}{p:Int->Rat}(PM:Fy φ n)(ha:AH n a)(i1:∀x,AH n x->p (φ x)=p x):∀k,p (A1 φ k a)=p a
 | 0=>rfl
 | k+1=>(i1 _ (Dg PM ha k)).trans (Ng PM ha i1 k)
theorem CK.KD (D:CK ts n) (T:CC n ts) (ha:AH n a) (kb:∃k,A1 (AL ts) k a=b) (h1:a≠b->AL ts' a=n) (h2:a≠b->AL ts' n=AL ts b) (h2':a=b->AL ts' n=n) (h3:AL ts' b=(n:Int)+1) (h5:AL ts' ((n:Int)+1)=AL ts a) (h4:∀x,AH n x->x≠a->x≠b->AL ts' x=AL ts x)
  (hb:∀f:Int->Rat,(∀t∈ts',(t.map f).sum=0)->∀t∈ts,(t.map f).sum+(if oth a∈t then f n else 0)+(if oth b∈t then f ((n:Int)+1) else 0)=0):CK ts' (n+2):=λf anti bal=>by
 have ev:=T.KJ;have PM:=T.perm;have into:∀x,AH n x->AH n (AL ts x):=PM.into;obtain⟨χ,c1,c2⟩:=ZJ PM ha kb;have hbn:AH n b:=by obtain⟨k,rfl⟩:=kb; exact Dg PM ha k
 have o1:oth (n:Int)=(n:Int)+1:=by unfold oth; rw[ff (by omega)]
 have f1:f ((n:Int)+1)=- f n:=by have:=anti n (Cg.mpr (.inr (.inl rfl))); rwa [o1] at this
 have balO:∀t∈ts,(t.map λx=>f x+f n*(χ x-χ (oth x))).sum=0:=λt ht=>by
  have tin:∀x∈t,AH n x:=λx hx=>(T.mem x).mp (fV.mpr ⟨t,ht,hx⟩)
  have tnd:t.Nodup:=by
   obtain⟨i,hi,rfl⟩:=fP ht;exact(List.pairwise_flatten.mp T.nd).1 _ ht
  have e1:∀x∈t,χ x-χ (oth x)=(χ x + -1*χ (pr ts x))+((if x=oth a then 1 else 0) + -1*(if x=oth b then 1 else 0)):=λx hx=>by
   have:=c1 (oth x) (DG ev (tin x hx))
   rw[Bq,DC] at this;have ia:(if oth x=a then (1:Rat) else 0)=if x=oth a then 1 else 0:=by
    by_cases e:oth x=a
    ·rw[ff e,ff (by rw[<-e,DC])]
    ·rw[eZ e,eZ (λz=>e (by rw[z,DC]))]
   have ib:(if oth x=b then (1:Rat) else 0)=if x=oth b then 1 else 0:=by
    by_cases e:oth x=b
    ·rw[ff e,ff (by rw[<-e,DC])]
    ·rw[eZ e,eZ (λz=>e (by rw[z,DC]))]
   rw[ia,ib] at this;rw[this]; grind
  rw[Jr,Ji,Q8 e1,Jr,Jr,Jr,Ji,Ji,YE T.nd ht χ,Nf tnd,Nf tnd]
  have:=hb f bal t ht
  rw[f1] at this;by_cases ea:oth a∈t <;> by_cases eb:oth b∈t <;> simp only[ea,eb,if_true,if_false] at this ⊢ <;> grind
 obtain⟨p,i1,d1⟩:=D (λx=>f x+f n*(χ x-χ (oth x))) (λx hx=>by
  show f (oth x)+f n*(χ (oth x)-χ (oth (oth x)))=-(f x+f n*(χ x-χ (oth x)));rw[DC,anti x (up2 hx)]; grind) balO
 have pab:p b=p a:=by
  obtain⟨k,rfl⟩:=kb;exact Ng PM ha i1 k
 have ca:=c1 a ha;have cb:=c1 b hbn;have ia:=i1 a ha;have ib:=i1 b hbn;refine⟨Et (λx=>p x-f n*χ x) n (p b-f n*χ b+f n) (p b-f n*χ b),λx hx=>?_,CK.Ct ev anti (λx hx=>?_) (by grind)⟩
 ·rcases Cg.mp hx with z | rfl | rfl
  ·by_cases eb:x=b
   ·rw[eb,h3,GW,DW _ _ _ hbn]
   ·by_cases ea:x=a
    ·have ab:a≠b:=λe=>eb (ea.trans e)
     rw[ea,h1 ab,GX,DW _ _ _ ha]
     have:=c2 ab
     rw[pab,this]; grind
    ·rw[h4 x z ea eb,DW _ _ _ (into x z),DW _ _ _ z]
     have:=c1 x z
     rw[eZ ea,eZ eb] at this;rw[i1 x z,this]; grind
  ·by_cases ab:a=b
   ·rw[h2' ab]
   ·rw[h2 ab,GX,DW _ _ _ (into b hbn)];rw[eZ (λe=>ab e.symm),ff rfl] at cb;show p (AL ts b)-f n*χ (AL ts b)=_;rw[ib,cb]; grind
  ·rw[h5,GW,DW _ _ _ (into a ha)];show p (AL ts a)-f n*χ (AL ts a)=_;by_cases ab:a=b
   ·rw[ff rfl,ff ab] at ca;rw[ia,ca,<-ab]; grind
   ·rw[ff rfl,eZ ab] at ca;rw[ia,ca,pab,c2 ab]; grind
 ·have:=d1 x hx
  show p x-f n*χ x-(p (oth x)-f n*χ (oth x))=f x
  grind
theorem Px{ts:List (List Int)}{p:Nat}{r r' t:List Int}(hp:ts[p]?=some r)(ht:t∈ts):t=r\/t∈ts.set p r':=by
 obtain⟨i,hi,rfl⟩:=fP ht;by_cases e:p=i
 ·subst e;rw[eh hi] at hp;exact .inl (fC hp)
 ·right
  have:(ts.set p r')[i]?=some ts[i]:=by rw[gn e,eh hi]
  exact eQ this
theorem ML{ts:List (List Int)}{p:Nat}{r r':List Int}(hp:ts[p]?=some r):r'∈ts.set p r':=by
 have h:=(eu.mp hp).1
 have:(ts.set p r')[p]?=some r':=gp h
 exact eQ this
theorem SA(f:Int->Rat)(e s:Int)(t1 t2:List Int):((t1++e :: s :: t2).map f).sum=((t1++s :: t2).map f).sum+f e:=by
 simp only[fv,fk,List.sum_append,gf]; grind
theorem W4{n:Nat}(hn:n=4):CK [[2,0],[3,1]] n:=λf anti bal=>by
 subst hn;have n0:AL [[2,0],[3,1]] 0=3:=by decide
 have n1:AL [[2,0],[3,1]] 1=2:=by decide
 have n2:AL [[2,0],[3,1]] 2=1:=by decide
 have n3:AL [[2,0],[3,1]] 3=0:=by decide
 have cs:∀x:Int,AH 4 x->x=0\/x=1\/x=2\/x=3:=λx h=>by obtain⟨h1,h2⟩:=h; omega
 have b:=bal [2,0] (by simp);have a0:=anti 0 ⟨by decide,by decide⟩;have a2:=anti 2 ⟨by decide,by decide⟩;have o0:oth 0=1:=by decide
 have o1:oth 1=0:=by decide
 have o2:oth 2=3:=by decide
 have o3:oth 3=2:=by decide
 rw[o0] at a0;rw[o2] at a2;simp only[fk,gY,gf,iZ] at b;have p0:(if ((0:Int)=0\/(0:Int)=3) then f 0 else 0)=f 0:=ff (by decide);have p1:(if ((1:Int)=0\/(1:Int)=3) then f 0 else 0)=0:=eZ (by decide);have p2:(if ((2:Int)=0\/(2:Int)=3) then f 0 else 0)=0:=eZ (by decide);have p3:(if ((3:Int)=0\/(3:Int)=3) then f 0 else 0)=f 0:=ff (by decide);refine⟨λx=>if x=0\/x=3 then f 0 else 0,λx hx=>?_,λx hx=>?_⟩
 ·rcases cs x hx with rfl | rfl | rfl | rfl
  ·rw[n0]; exact p3.trans p0.symm
  ·rw[n1]; exact p2.trans p1.symm
  ·rw[n2]; exact p1.trans p2.symm
  ·rw[n3]; exact p0.trans p3.symm
 ·rcases cs x hx with rfl | rfl | rfl | rfl
  ·rw[o0]; show(if ((0:Int)=0\/(0:Int)=3) then f 0 else 0)-(if ((1:Int)=0\/(1:Int)=3) then f 0 else 0)=_; rw[p0,p1]; grind
  ·rw[o1]; show(if ((1:Int)=0\/(1:Int)=3) then f 0 else 0)-(if ((0:Int)=0\/(0:Int)=3) then f 0 else 0)=_; rw[p0,p1]; grind
  ·rw[o2]; show(if ((2:Int)=0\/(2:Int)=3) then f 0 else 0)-(if ((3:Int)=0\/(3:Int)=3) then f 0 else 0)=_; rw[p2,p3]; grind
  ·rw[o3]; show(if ((3:Int)=0\/(3:Int)=3) then f 0 else 0)-(if ((2:Int)=0\/(2:Int)=3) then f 0 else 0)=_; rw[p2,p3]; grind
structure Gn(ts:List (List Int))(hs:List Nat):Prop where
 ev:hs.length % 2=0
 n4:4<=hs.length
 two:2<=ts.length
 nd:ts.flatten.Nodup
 mem:∀x,x∈ts.flatten↔AH hs.length x
 Cs:∀(p:Nat) (t:List Int),ts[p]?=some t->∀x:Int,x∈t->hs[x.toNat]?=some p
 ne:∀t∈ts,t≠[]
 few:2*ts.length<=hs.length
 lo:hs[0]?=some 0/\hs[1]?=some 1
 DN:∀S:Nat->Prop,S 0->(∀k,1<=k->∀p q,hs[2*k]?=some p->hs[2*k+1]?=some q->(S p↔S q))->∀p,p<ts.length->S p
 du:Du (AL ts) hs.length
 po:CK ts hs.length
theorem Gn.DY{ts:List (List Int)}{hs:List Nat}(g:Gn ts hs):CC hs.length ts:=⟨g.nd,g.mem,g.ev⟩
theorem NB{α:Type}{ts:List α}{p:Nat}{r:α}(h:ts[p]?=some r):∃A B,ts=A++r :: B/\A.length=p/\∀r',ts.set p r'=A++r' :: B:=by
 obtain⟨hp,e⟩:=eu.mp h;refine⟨ts.take p,ts.drop (p+1),?_,by rw[g9]; omega,λr'=>?_⟩
 ·rw[<-e,iV,iN]
 ·exact List.set_eq_take_append_cons_drop .. |>.trans (by rw[ff hp])
theorem GP{n:Nat}(h:n % 2=0):oth (n:Int)=(n:Int)+1:=by unfold oth; rw[ff (by omega)]
theorem NI{n:Nat}(h:n % 2=0):oth ((n:Int)+1)=n:=by unfold oth; rw[eZ (by omega)]; omega
theorem Io{x y:Int}(h:oth x=oth y):x=y:=by rw[<-DC x,h,DC]
theorem Gn.KS{ts:List (List Int)}{hs:List Nat}(g:Gn ts hs){p:Nat}{t1 t2:List Int}{s:Int}(hp:ts[p]?=some (t1++s :: t2)):
  Gn (ts.set p (t1++(hs.length:Int) :: s :: t2)++[[(hs.length:Int)+1]]) (hs++[p]++[ts.length]):=by
 obtain⟨A,B,eT,lA,eS⟩:=NB hp;have pl:p<ts.length:=(eu.mp hp).1;have nd0:=g.nd;have mem0:=g.mem;generalize hn:hs.length=n at *;have ev:=g.ev;rw[hn] at ev;have em:((n:Nat):Int)∉ts.flatten:=λz=>by have:=(mem0 _).mp z; omega
 have em1:((n:Nat):Int)+1∉ts.flatten:=λz=>by have:=(mem0 _).mp z; omega
 have sm:s∈ts.flatten:=fV.mpr ⟨_,eQ hp,by simp⟩;have sR:=(mem0 s).mp sm;rw[eT] at nd0 em;obtain⟨nd1,mem1,q1,q2,q3⟩:=TV nd0 em;rw[<-eT,<-eS] at *;have em1':((n:Nat):Int)+1∉(ts.set p (t1++(n:Int) :: s :: t2)).flatten:=λz=>by
  rcases(mem1 _).mp z with w | w
  ·exact em1 w
  ·omega
 obtain⟨nd2,q4,q5⟩:=XS nd1 em1';have q6:∀x∈ts.flatten,pr (ts.set p (t1++(n:Int) :: s :: t2)++[[(n:Int)+1]]) x=pr (ts.set p (t1++(n:Int) :: s :: t2)) x:=λx hx=>q5 x ((mem1 x).mpr (.inl hx))
 have lH:(hs++[p]++[ts.length]).length=n+2:=by simp[hn]
 have lT:(ts.set p (t1++(n:Int) :: s :: t2)++[[(n:Int)+1]]).length=ts.length+1:=by simp
 have aR:AH n (oth s):=DG ev sR;have f1:AL (ts.set p (t1++(n:Int) :: s :: t2)++[[(n:Int)+1]]) (oth s)=n:=by rw[Bq,DC,q6 s sm,q1]
 have f2:AL (ts.set p (t1++(n:Int) :: s :: t2)++[[(n:Int)+1]]) n=(n:Int)+1:=by rw[Bq,GP ev,q4]
 have f3:AL (ts.set p (t1++(n:Int) :: s :: t2)++[[(n:Int)+1]]) ((n:Int)+1)=AL ts (oth s):=by rw[Bq,NI ev,q5 _ ((mem1 _).mpr (.inr rfl)),q2,Bq,DC]
 have f4:∀x,AH n x->x≠oth s->AL (ts.set p (t1++(n:Int) :: s :: t2)++[[(n:Int)+1]]) x=AL ts x:=λx hx xa=>by
  have hm:oth x∈ts.flatten:=(mem0 _).mpr (DG ev hx);rw[Bq,q6 _ hm,q3 _ hm (λe=>xa (by rw[<-e,DC])),Bq]
 have into:∀x,AH n x->AH n (AL ts x):=λx hx=>by have:=g.DY.perm.into x (by rw[hn]; exact hx); rwa [hn] at this
 have du0:=g.du;rw[hn] at du0;have po0:=g.po;rw[hn] at po0;have pz:CK (ts.set p (t1++(n:Int) :: s :: t2)++[[(n:Int)+1]]) (n+2):=by
  refine po0.KS ev into aR f1 f2 f3 f4 λf bal=>?_
  have b1:=bal [(n:Int)+1] (by simp);simp only[fk,gY,gf,iZ] at b1;refine⟨by grind,λf0 t ht=>?_⟩;rcases Px (r':=t1++(n:Int) :: s :: t2) hp ht with e | e
  ·have:=bal _ (fm.mpr (.inl (ML (r':=t1++(n:Int) :: s :: t2) hp)))
   rw[SA,f0] at this;rw[e]; grind
  ·exact bal t (fm.mpr (.inl e))
 have few:=g.few;have n4:=g.n4;rw[hn] at few n4;have hget:∀{i q},hs[i]?=some q->(hs++[p]++[ts.length])[i]?=some q:=λ{i q} h=>by
  rw[gW,fN (eu.mp h).1]; exact h
 refine⟨by rw[lH]; omega,by rw[lH]; omega,by rw[lT]; have:=g.two; omega,nd2,λx=>?_,λq t hq x hx=>?_,λt ht=>?_,by rw[lT,lH]; omega,⟨hget g.lo.1,hget g.lo.2⟩,λS S0 hS q hq=>?_,by rw[lH]; exact du0.KS into (by omega) aR f1 f2 f3 f4,by rw[lH]; exact pz⟩
 ·rw[lH,gQ,fm,mem1,mem0];simp only[fZ,List.flatten_nil,iF,fQ,AH];omega
 ·rcases gc q ts.length with ql | ql
  ·rw[fN (by simpa using ql)] at hq;by_cases e:p=q
   ·subst e;rw[gp ql] at hq;cases hq;by_cases xn:x=n
    ·rw[xn,ie,<-hn,gW,fu (eU _)]; simp
    ·refine hget (g.Cs p _ hp x ?_);simp only[fm,fE] at hx ⊢;rcases hx with z | z | z | z
     ·exact .inl z
     ·exact absurd z xn
     ·exact .inr (.inl z)
     ·exact .inr (.inr z)
   ·rw[gn e] at hq;exact hget (g.Cs q t hq x hx)
  ·have:q=ts.length:=by
    have:=(eu.mp hq).1
    rw[lT] at this; omega
   subst this;rw[fu (by simp)] at hq;simp at hq;subst hq;rw[fQ.mp hx,show((n:Int)+1).toNat=n+1 by omega,<-hn];rw[fu (by simp)]; simp
 ·rcases fm.mp ht with z | z
  ·rcases iY z with w | w
   ·exact g.ne t w
   ·rw[w]; simp
  ·rw[fQ.mp z]; simp
 ·have h1:=g.DN S S0 (λk k1 a b ha hb=>hS k k1 a b (hget ha) (hget hb));rcases gc q ts.length with ql | ql
  ·exact h1 q ql
  ·have:q=ts.length:=by rw[lT] at hq; omega
   subst this
   have:=hS (n / 2) (by omega) p ts.length (by rw[show 2*(n / 2)=n by omega,<-hn,gW,fu (eU _)]; simp) (by rw[show 2*(n / 2)+1=n+1 by omega,<-hn,fu (by simp)]; simp)
   exact this.mp (h1 p pl)
structure Gb(ts:List (List Int))(hs:List Nat):Prop where
 nd:ts.flatten.Nodup
 mem:∀x,x∈ts.flatten↔AH hs.length x
 Cs:∀(p:Nat) (t:List Int),ts[p]?=some t->∀x:Int,x∈t->hs[x.toNat]?=some p
 ne:∀t∈ts,t≠[]
theorem Gn.gb{ts:List (List Int)}{hs:List Nat}(g:Gn ts hs):Gb ts hs:=⟨g.nd,g.mem,g.Cs,g.ne⟩
theorem Gb.Eg{ts:List (List Int)}{hs:List Nat}(g:Gb ts hs){p:Nat}{t1 t2:List Int}{s:Int}(hp:ts[p]?=some (t1++s :: t2)):
  Gb (ts.set p (t1++(hs.length:Int) :: s :: t2)) (hs++[p])/\pr (ts.set p (t1++(hs.length:Int) :: s :: t2)) s=hs.length/\pr (ts.set p (t1++(hs.length:Int) :: s :: t2)) hs.length=pr ts s /\
   ∀x,AH hs.length x->x≠s->pr (ts.set p (t1++(hs.length:Int) :: s :: t2)) x=pr ts x:=by
 obtain⟨A,B,eT,lA,eS⟩:=NB hp;have pl:p<ts.length:=(eu.mp hp).1;have nd0:=g.nd;have mem0:=g.mem;generalize hn:hs.length=n at *;have em:((n:Nat):Int)∉ts.flatten:=λz=>by have:=(mem0 _).mp z; omega
 rw[eT] at nd0 em;obtain⟨nd1,mem1,q1,q2,q3⟩:=TV nd0 em;rw[<-eT,<-eS] at *;have lH:(hs++[p]).length=n+1:=by simp[hn]
 have hget:∀{i q},hs[i]?=some q->(hs++[p])[i]?=some q:=λ{i q} h=>by
  rw[fN (eu.mp h).1]; exact h
 refine⟨⟨nd1,λx=>?_,λq t hq x hx=>?_,λt ht=>?_⟩,q1,q2,λx hx xs=>q3 x ((mem0 x).mpr hx) xs⟩
 ·rw[lH,mem1,mem0,Yg]
 ·by_cases e:p=q
  ·subst e;rw[gp pl] at hq;cases hq;by_cases xn:x=n
   ·rw[xn,ie,<-hn,fu (eU _)]; simp
   ·refine hget (g.Cs p _ hp x ?_);simp only[fm,fE] at hx ⊢;rcases hx with z | z | z | z
    ·exact .inl z
    ·exact absurd z xn
    ·exact .inr (.inl z)
    ·exact .inr (.inr z)
  ·rw[gn e] at hq;exact hget (g.Cs q t hq x hx)
 ·rcases iY ht with w | w
  ·exact g.ne t w
  ·rw[w]; simp
theorem Gb.bal{ts:List (List Int)}{hs:List Nat}(g:Gb ts hs){p:Nat}{t1 t2:List Int}{s e X:Int}{f:Int->Rat}{c:Rat}(hp:ts[p]?=some (t1++s :: t2))(Xe:X≠e)(h:∀t∈ts.set p (t1++e :: s :: t2),(t.map f).sum+(if X∈t then c else 0)=0):
  ∀t∈ts,(t.map f).sum+(if s∈t then f e else 0)+(if X∈t then c else 0)=0:=λt ht=>by
 obtain⟨i,hi,rfl⟩:=fP ht;have gi:ts[i]?=some ts[i]:=eh hi;by_cases q:p=i
 ·subst q;have q2:ts[p]=t1++s :: t2:=by rw[gi] at hp; exact fC hp
  have:=h _ (ML (r':=t1++e :: s :: t2) hp)
  rw[SA] at this;have i1:(if X∈t1++e :: s :: t2 then c else 0)=(if X∈t1++s :: t2 then c else 0):=by
   have:X∈t1++e :: s :: t2↔X∈t1++s :: t2:=by simp[Xe]
   by_cases z:X∈t1++s :: t2
   ·rw[ff z,ff (this.mpr z)]
   ·rw[eZ z,eZ (λy=>z (this.mp y))]
  rw[i1] at this;rw[q2,ff (show s∈t1++s :: t2 by simp)];exact this
 ·have ns:s∉ts[i]:=λz=>by
   have h1:=g.Cs i _ gi s z;have h2:=g.Cs p _ hp s (by simp);rw[h1] at h2;exact q (fC h2).symm
  rw[eZ ns]
  have:=h _ (eQ (show(ts.set p (t1++e :: s :: t2))[i]?=some ts[i] by rw[gn q,gi]))
  grind
theorem Gn.KD {ts:List (List Int)} {hs:List Nat} (g:Gn ts hs) {p1 p2:Nat} {t1 t2 u1 u2:List Int} {a b:Int} (aR:AH hs.length a) (kb:∃k,A1 (AL ts) k a=b)
  (h1:ts[p1]?=some (t1++oth a :: t2)) (h2:(ts.set p1 (t1++(hs.length:Int) :: oth a :: t2))[p2]?=some (u1++oth b :: u2)) :
  Gn ((ts.set p1 (t1++(hs.length:Int) :: oth a :: t2)).set p2 (u1++((hs.length:Int)+1) :: oth b :: u2)) (hs++[p1]++[p2]):=by
 have ev:=g.ev;have n4:=g.n4;have few:=g.few;have T:=g.DY;have bR:AH hs.length b:=by obtain⟨k,rfl⟩:=kb; exact Dg T.perm aR k
 obtain⟨B1,q1,q2,q3⟩:=g.gb.Eg h1;generalize hT1:ts.set p1 (t1++(hs.length:Int) :: oth a :: t2)=ts1 at *;have lT1:ts1.length=ts.length:=by rw[<-hT1]; simp
 have lh:(hs++[p1]).length=hs.length+1:=by simp
 have e1:(((hs++[p1]).length:Nat):Int)=(hs.length:Int)+1:=by rw[lh]; push_cast; rfl
 obtain⟨B2,r1,r2,r3⟩:=B1.Eg h2;rw[e1] at B2 r1 r2 r3;rw[lh] at r3;generalize hT2:ts1.set p2 (u1++((hs.length:Int)+1) :: oth b :: u2)=ts2 at *;have lT2:ts2.length=ts.length:=by rw[<-hT2]; simp[lT1]
 have lH:(hs++[p1]++[p2]).length=hs.length+2:=by simp
 have hget:∀{i q},hs[i]?=some q->(hs++[p1]++[p2])[i]?=some q:=λ{i q} h=>by
  rw[gW,fN (eu.mp h).1]; exact h
 have saR:=DG ev aR;have sbR:=DG ev bR;generalize hn:hs.length=n at *;have up:∀{x:Int},AH n x->AH (n+1) x:=λ{x} h=>⟨h.1,by have:=h.2; omega⟩
 have w1:AL ts2 ((n:Int)+1)=AL ts a:=by
  rw[Bq,NI ev,r3 _ ⟨by omega,by omega⟩ (λe=>by have:=sbR.2; omega),q2,Bq]
 have w2:AL ts2 b=(n:Int)+1:=by rw[Bq,r1]
 have w3:∀x,AH n x->x≠a->x≠b->AL ts2 x=AL ts x:=λx hx xa xb=>by
  have:=DG ev hx
  rw[Bq,r3 _ (up this) (λe=>xb (Io e)),q3 _ this (λe=>xa (Io e)),Bq]
 have into:∀x,AH n x->AH n (AL ts x):=λx hx=>T.perm.into x hx
 have dz:Du (AL ts2) (n+2):=by
  have du0:=g.du;rw[hn] at du0;refine du0.KD into (by omega) ev aR kb (λab=>?_) (λab=>?_) (λab=>?_) w2 w1 w3
  ·have sab:oth b≠oth a:=λe=>ab (Io e).symm
   rw[Bq,r3 _ (up saR) (λe=>sab e.symm),q1]
  ·have sab:oth b≠oth a:=λe=>ab (Io e).symm
   rw[Bq,GP ev,r2,q3 _ sbR sab,Bq]
  ·subst ab;rw[Bq,GP ev,r2,q1]
 have pz:CK ts2 (n+2):=by
  have po0:=g.po;rw[hn] at po0;refine po0.KD T aR kb (λab=>?_) (λab=>?_) (λab=>?_) w2 w1 w3 λf bal=>?_
  ·have sab:oth b≠oth a:=λe=>ab (Io e).symm
   rw[Bq,r3 _ (up saR) (λe=>sab e.symm),q1]
  ·have sab:oth b≠oth a:=λe=>ab (Io e).symm
   rw[Bq,GP ev,r2,q3 _ sbR sab,Bq]
  ·subst ab;rw[Bq,GP ev,r2,q1]
  ·have c1:=B1.bal (X:=-1) (f:=f) (c:=0) h2 (e:=(n:Int)+1) (by omega) (by
    rw[hT2];intro t ht
    have:=bal t ht
    split <;> grind)
   exact g.gb.bal (X:=oth b) (c:=f ((n:Int)+1)) h1 (λe=>by have:=sbR.2; omega) (by
    rw[hT1];intro t ht
    have:=c1 t ht
    split at this <;> split at this <;> grind)
 refine⟨by rw[lH]; omega,by rw[lH]; omega,by rw[lT2]; exact g.two,B2.nd,B2.mem,B2.Cs,B2.ne,by rw[lT2,lH]; omega,⟨hget g.lo.1,hget g.lo.2⟩,λS S0 hS q hq=>?_,by rw[lH]; exact dz,by rw[lH]; exact pz⟩;exact g.DN S S0 (λk k1 x y hx hy=>hS k k1 x y (hget hx) (hget hy)) q (by omega)
theorem Gn.part{ts:List (List Int)}{hs:List Nat}(g:Gn ts hs){p r:Nat}{t:List Int}{pe:Int}(r1:1<=r)(er:pe=2*(r:Int)+1)(hp:ts[p]?=some t)(pm:pe∈t):
  Gn (ts.set p (t.map λx=>if x=pe then (hs.length:Int)+1 else x)++[[pe,(hs.length:Int)]]) ((hs++[ts.length]++[p]).set pe.toNat ts.length):=by
 obtain⟨A,B,eT,lA,eS⟩:=NB hp;have pl:p<ts.length:=(eu.mp hp).1;have nd0:=g.nd;have mem0:=g.mem;have ev:=g.ev;have n4:=g.n4;have few:=g.few;have P:=g.DY.perm;have pet:pe∈ts.flatten:=fV.mpr ⟨t,eQ hp,pm⟩;have peR:=(mem0 pe).mp pet;have hpe:=g.Cs p t hp pe pm;generalize hn:hs.length=n at *;have pn:pe.toNat<n:=by have:=peR.2; omega
 have pt:pe.toNat=2*r+1:=by omega
 have em:((n:Nat):Int)+1∉ts.flatten:=λz=>by have:=(mem0 _).mp z; omega
 rw[eT] at nd0 em;obtain⟨nd1,mem1,q1,q2⟩:=Zk nd0 pm em;rw[<-eT,<-eS] at *;generalize hT1:ts.set p (t.map λx=>if x=pe then (n:Int)+1 else x)=ts1 at *;have lT1:ts1.length=ts.length:=by rw[<-hT1]; simp
 have pe1:pe∉ts1.flatten:=λz=>by
  rcases(mem1 _).mp z with w | w
  ·exact w.2 rfl
  ·have:=peR.2; omega
 have n1:((n:Nat):Int)∉ts1.flatten:=λz=>by
  rcases(mem1 _).mp z with w | w
  ·have:=(mem0 _).mp w.1; omega
  ·omega
 obtain⟨nd2,w1,w2,w3⟩:=Xl nd1 pe1 n1 (λe=>by have:=peR.2; omega);generalize hT2:ts1++[[pe,(n:Int)]]=ts2 at *;have lT2:ts2.length=ts.length+1:=by rw[<-hT2]; simp[lT1]
 have lH:((hs++[ts.length]++[p]).set pe.toNat ts.length).length=n+2:=by simp[hn]
 have qR:=DG ev peR;have v1:AL ts2 (oth pe)=n:=by rw[Bq,DC,w1]
 have v2:AL ts2 n=(if AL ts (oth pe)=pe then (n:Int)+1 else AL ts (oth pe)):=by
  rw[Bq,GP ev,w3 _ ((mem1 _).mpr (.inr rfl)),q1,Bq,DC]
 have v3:AL ts2 ((n:Int)+1)=pe:=by rw[Bq,NI ev,w2]
 have v4:∀x,AH n x->x≠oth pe->AL ts2 x=(if AL ts x=pe then (n:Int)+1 else AL ts x):=λx hx xq=>by
  have ox:=DG ev hx;have xp:oth x≠pe:=λe=>xq (by rw[<-e,DC])
  rw[Bq,w3 _ ((mem1 _).mpr (.inl ⟨(mem0 _).mpr ox,xp⟩)),q2 _ ((mem0 _).mpr ox) xp,Bq]
 have hnn:∀{x:Int},AH n x->x≠(n:Int):=λ{x} h e=>by have:=h.2; omega
 have du0:=g.du;rw[hn] at du0;have dz:Du (AL ts2) (n+2):=du0.part (λx hx=>P.into x hx) (by omega) qR peR v1 v2 v3 v4;have pz:CK ts2 (n+2):=by
  have po0:=g.po;rw[hn] at po0;refine po0.part ev (λx hx=>P.into x hx) peR v1 v2 v3 v4 λf bal=>?_
  rw[<-hT2,<-hT1] at bal;have b1:=bal [pe,(n:Int)] (by simp);simp only[fk,gY,gf,iZ] at b1;refine⟨by grind,λf0 u hu=>?_⟩;rcases Px (r':=t.map λx=>if x=pe then (n:Int)+1 else x) hp hu with e | e
  ·have:=bal _ (fm.mpr (.inl (ML (r':=t.map λx=>if x=pe then (n:Int)+1 else x) hp)))
   rw[gG] at this;rw[e,<-this];refine Q8 λx _=>?_
   show f x=f (if x=pe then (n:Int)+1 else x);by_cases z:x=pe
   ·rw[ff z,f0,z]
   ·rw[eZ z]
  ·exact bal u (fm.mpr (.inl e))
 have hget:∀{i q},hs[i]?=some q->i≠pe.toNat->((hs++[ts.length]++[p]).set pe.toNat ts.length)[i]?=some q:=λ{i q} h ne=>by
  rw[gn (λe=>ne e.symm),gW,fN (eu.mp h).1]; exact h
 have hN:((hs++[ts.length]++[p]).set pe.toNat ts.length)[n]?=some ts.length:=by
  rw[gn (by omega),gW,<-hn,fu (eU _)]; simp
 have hN1:((hs++[ts.length]++[p]).set pe.toNat ts.length)[n+1]?=some p:=by
  rw[gn (by omega),<-hn,fu (by simp)]; simp
 have hP:((hs++[ts.length]++[p]).set pe.toNat ts.length)[pe.toNat]?=some ts.length:=by
  rw[gp (by simp[hn]; omega)]
 have two:=g.two;refine⟨by rw[lH]; omega,by rw[lH]; omega,by rw[lT2]; omega,nd2,λx=>?_,λi t' hi x hx=>?_,λt' ht'=>?_,by rw[lT2,lH]; omega,⟨hget g.lo.1 (by omega),hget g.lo.2 (by omega)⟩,λS S0 hS i hi=>?_,by rw[lH]; exact dz,by rw[lH]; exact pz⟩
 ·rw[lH,<-hT2,gQ,fm,mem1,mem0];simp only[fZ,List.flatten_nil,iF,fE,gE,iO,AH]
  have:=peR.1
  have:=peR.2
  omega
 ·rw[<-hT2] at hi;rcases gc i ts.length with il | il
  ·rw[fN (by omega),<-hT1] at hi;by_cases e:p=i
   ·subst e;rw[gp pl] at hi;cases hi;obtain⟨y,hy,rfl⟩:=fi.mp hx;by_cases yp:y=pe
    ·rw[ff yp,show((n:Int)+1).toNat=n+1 by omega]; exact hN1
    ·rw[eZ yp];have yR:=(mem0 y).mp (fV.mpr ⟨t,eQ hp,hy⟩);exact hget (g.Cs p t hp y hy) (λe=>yp (by have:=yR.1; have:=peR.1; omega))
   ·rw[gn e] at hi;have hx2:=g.Cs i t' hi x hx;refine hget hx2 (λz=>?_);rw[z,hpe] at hx2;exact e (fC hx2)
  ·have:i=ts.length:=by
    have:=(eu.mp hi).1
    simp[lT1] at this; omega
   subst this;rw[fu (by omega),lT1] at hi;simp at hi;subst hi;simp only[fE,gE,iO] at hx;rcases hx with rfl | rfl
   ·exact hP
   ·rw[ie]; exact hN
 ·rw[<-hT2,<-hT1] at ht';rcases fm.mp ht' with z | z
  ·rcases iY z with w | w
   ·exact g.ne t' w
   ·rw[w];intro e;rw[List.map_eq_nil_iff] at e;rw[e] at pm;cases pm
  ·rw[fQ.mp z]; simp
 ·have sP:S ts.length↔S p:=hS (n / 2) (by omega) _ _ (by rw[show 2*(n / 2)=n by omega]; exact hN) (by rw[show 2*(n / 2)+1=n+1 by omega]; exact hN1);have old:=g.DN S S0 (λk k1 x y hx hy=>by
   by_cases e:2*k+1=pe.toNat
   ·have ey:y=p:=by rw[e,hpe] at hy; exact(fC hy).symm
    subst ey;exact(hS k k1 x ts.length (hget hx (by omega)) (by rw[e]; exact hP)).trans sP
   ·exact hS k k1 x y (hget hx (by omega)) (hget hy e))
  rcases gc i ts.length with il | il
  ·exact old i il
  ·have:i=ts.length:=by rw[lT2] at hi; omega
   rw[this];exact sP.mpr (old p pl)
theorem XE(ts:List (List Int)){n:Nat}(hn:n=4)(p0:pr ts 0=2)(p1:pr ts 1=3)(p2:pr ts 2=0)(p3:pr ts 3=1):Du (AL ts) n:=by
 subst hn;have n0:AL ts 0=3:=p1;have n1:AL ts 1=2:=p0;have n2:AL ts 2=1:=p3;have n3:AL ts 3=0:=p2;have cs:∀x:Int,AH 4 x->x=0\/x=1\/x=2\/x=3:=λx h=>by obtain⟨h1,h2⟩:=h; omega
 refine⟨λS hS hr h1 x hx=>?_⟩
 ·have a1:=hS 1 ⟨by decide,by decide⟩;have a3:=hS 3 ⟨by decide,by decide⟩;have r:=hr 1 (by decide) (by decide);rw[n1] at a1;rw[n3] at a3;have s2:=a1.mp h1;have s3:S 3:=r.mp s2;rcases cs x hx with rfl | rfl | rfl | rfl
  ·exact a3.mp s3
  ·exact h1
  ·exact s2
  ·exact s3
theorem Jm(ρ:Int->Int):∀R:List (List Int),(R.map λc=>c.map ρ).flatten=R.flatten.map ρ
 | []=>rfl
 | c :: R=>by rw[fk,fZ,fZ,fv,Jm ρ R]
theorem OC{ρ:Int->Int}:∀{l:List Int},l.Nodup->(∀x∈l,∀y∈l,ρ x=ρ y->x=y)->(l.map ρ).Nodup
 | [],_,_=>by simp
 | a :: l,nd,inj=>by
  rw[ig] at nd;rw[fk,ig];refine⟨λz=>?_,OC nd.2 λx hx y hy=>inj x (by simp[hx]) y (by simp[hy])⟩;obtain⟨b,hb,e⟩:=fi.mp z;exact nd.1 (inj b (by simp[hb]) a (by simp) e ▸ hb)
theorem Zz{ts:List (List Int)}{ρ:Int->Int}(nd:ts.flatten.Nodup)(inj:∀x∈ts.flatten,∀y∈ts.flatten,ρ x=ρ y->x=y):(ts.map λt=>t.map ρ).flatten.Nodup/\∀x∈ts.flatten,pr (ts.map λt=>t.map ρ) (ρ x)=ρ (pr ts x):=by
 have nd':(ts.map λt=>t.map ρ).flatten.Nodup:=by rw[Jm]; exact OC nd inj
 refine⟨nd',λx hx=>Dc nd' ?_⟩;have m:=GZ nd hx;have row:∀t:List Int,A5 (t.map ρ)=(A5 t).map λp=>(ρ p.1,ρ p.2):=λt=>by
  rw[Eb,Eb];cases t with
  | nil=>rfl
  | cons a l =>
   rw[<-LJ];congr 1;rw[gF,gF,List.getLast?_map,List.getLast?_cons]; rfl
 unfold Aq at m ⊢;obtain⟨r,hr,hm⟩:=fV.mp m;obtain⟨t,ht,rfl⟩:=fi.mp hr;refine fV.mpr ⟨A5 (t.map ρ),fi.mpr ⟨t.map ρ,fi.mpr ⟨t,ht,rfl⟩,rfl⟩,?_⟩;rw[row];exact fi.mpr ⟨_,hm,rfl⟩
def ER(r r':List Int):Prop:=∃l m,r=l++m/\r'=m++l
theorem WD{r r':List Int}(h:ER r r'):∀p∈A5 r,p∈A5 r':=by
 obtain⟨l,m,rfl,rfl⟩:=h;intro p hp;rw[Eb] at hp ⊢;rw[Lg] at hp ⊢;cases l with
 | nil=>simpa [cp] using hp
 | cons a l =>
  cases m with
  | nil=>simpa [cp] using hp
  | cons b m =>
   have e1:((a :: l)++(b :: m)).getLastD 0=(b :: m).getLastD 0:=by rw[gF,gF,List.getLast?_append,List.getLast?_cons]; rfl
   have e2:((b :: m)++(a :: l)).getLastD 0=(a :: l).getLastD 0:=by rw[gF,gF,List.getLast?_append,List.getLast?_cons]; rfl
   have e3:∀(c:Int) (k:List Int) (y z:Int),(c :: k).getLastD y=(c :: k).getLastD z:=λc k y z=>by cases k <;> rfl
   rw[e1] at hp;rw[e2];rw[fm] at hp ⊢;rw[e3 b m _ 0,e3 a l _ 0] at *;rw[e3 a l _ 0] at hp;exact hp.symm
theorem ER.perm{r r':List Int}(h:ER r r'):List.Perm r r':=by
 obtain⟨l,m,rfl,rfl⟩:=h;exact List.perm_append_comm
theorem MV:∀{ts us:List (List Int)},ts.length=us.length->(∀(i:Nat) (t u:List Int),ts[i]?=some t->us[i]?=some u->ER t u)->List.Perm ts.flatten us.flatten
 | [],[],_,_=>List.Perm.refl _
 | t :: ts,u :: us,h,g=>by
  rw[fZ,fZ];exact(g 0 t u rfl rfl).perm.append (MV (by simpa using h) λi a b ha hb=>g (i+1) a b ha hb)
theorem ZV{ts us:List (List Int)}(nd:ts.flatten.Nodup)(hl:ts.length=us.length)(g:∀(i:Nat) (t u:List Int),ts[i]?=some t->us[i]?=some u->ER t u):us.flatten.Nodup/\∀x∈ts.flatten,pr us x=pr ts x:=by
 have p:=MV hl g;have nd':=p.nodup_iff.mp nd;refine⟨nd',λx hx=>Dc nd' ?_⟩;have m:=GZ nd hx;unfold Aq at m ⊢;obtain⟨r,hr,hm⟩:=fV.mp m;obtain⟨t,ht,rfl⟩:=fi.mp hr;obtain⟨i,hi,e⟩:=fP ht;have hu:i<us.length:=by omega
 exact fV.mpr ⟨A5 us[i],fi.mpr ⟨_,iq hu,rfl⟩,WD (g i t us[i] (by rw[eh hi,e]) (eh hu)) _ hm⟩
structure Kd(φ:Int->Int)(m:Nat):Prop where
 DN:∀S:Int->Prop,(∀x,AH (2*m+2) x->(S x↔S (φ x)))->(∀k:Nat,k<m->(S (2*(k:Int))↔S (2*(k:Int)+1)))->S (2*(m:Int)+1)->∀x,AH (2*m+2) x->S x
theorem aD {φ ψ ρ:Int->Int} {m:Nat} (D:Du φ (2*m+2)) (into:∀x,AH (2*m+2) x->AH (2*m+2) (φ x)) (rin:∀x,AH (2*m+2) x->AH (2*m+2) (ρ x)) (rinv:∃σ:Int->Int,∀x,AH (2*m+2) x->AH (2*m+2) (σ x)/\ρ (σ x)=x) (rinj:∀x y,AH (2*m+2) x->AH (2*m+2) y->ρ x=ρ y->x=y)
  (r0:ρ 0=2*(m:Int)) (roth:∀x,AH (2*m+2) x->oth (ρ x)=ρ (oth x)) (h:∀x,AH (2*m+2) x->ψ (ρ x)=ρ (φ x)):Kd ψ m:=by
 obtain⟨σ,hσ⟩:=rinv;have i0:AH (2*m+2) 0:=⟨by omega,by push_cast; omega⟩;have i1:AH (2*m+2) 1:=⟨by omega,by push_cast; omega⟩;have e1:ρ 1=2*(m:Int)+1:=by
  have:=roth 0 i0
  rw[r0,show oth 0=1 from rfl] at this;rw[<-this];unfold oth;rw[ff (by omega)]
 refine⟨λS hS hr h0 y hy=>?_⟩
 ·obtain⟨a,b⟩:=hσ y hy
  have:=D.DN (λx=>S (ρ x)) (λx hx=>by
   have:=hS _ (rin x hx)
   rw[h x hx] at this;exact this) (λk k1 k2=>by
   have ik:AH (2*m+2) (2*(k:Int)):=⟨by omega,by push_cast; omega⟩;have ro:=roth _ ik;rw[show oth (2*(k:Int))=2*(k:Int)+1 by unfold oth; rw[ff (by omega)]] at ro;have n0:ρ (2*(k:Int))≠2*(m:Int):=λz=>by have:=rinj _ _ ik i0 (z.trans r0.symm); omega
   have n1:ρ (2*(k:Int))≠2*(m:Int)+1:=λz=>by have:=rinj _ _ ik i1 (z.trans e1.symm); omega
   obtain⟨y0,y1⟩:=rin _ ik;show S (ρ (2*(k:Int)))↔S (ρ (2*(k:Int)+1));rw[<-ro];generalize ρ (2*(k:Int))=z at *;have key:=hr (z.toNat / 2) (by omega);unfold oth;by_cases e:z % 2=0
   ·rw[ff e];rw[show 2*((z.toNat / 2:Nat):Int)=z by omega] at key;exact key
   ·rw[eZ e];rw[show 2*((z.toNat / 2:Nat):Int)=z-1 by omega,show z-1+1=z by omega] at key;exact key.symm) (by show S (ρ 1); rw[e1]; exact h0) _ a
  rw[<-b];exact this
structure Kn(us:List (List Int))(m:Nat):Prop where
 du:Kd (AL us) m
 po:CK us (2*m+2)
theorem Y3 {ts us:List (List Int)} {ρ:Int->Int} {n:Nat} (D:CK ts n) (into:∀x,AH n x->AH n (AL ts x)) (ev:n % 2=0) (rin:∀x,AH n x->AH n (ρ x)) (rinv:∃σ:Int->Int,∀x,AH n x->AH n (σ x)/\ρ (σ x)=x) (rinj:∀x y,AH n x->AH n y->ρ x=ρ y->x=y)
  (roth:∀x,AH n x->oth (ρ x)=ρ (oth x)) (h:∀x,AH n x->AL us (ρ x)=ρ (AL ts x)) (hs:∀f:Int->Rat,(∀u∈us,(u.map f).sum=0)->∀t∈ts,(t.map λx=>f (ρ x)).sum=0):CK us n:=λf anti bal=>by
 obtain⟨σ,hσ⟩:=rinv;obtain⟨p,i1,d1⟩:=D (λx=>f (ρ x)) (λx hx=>by
  show f (ρ (oth x))=- f (ρ x);rw[<-roth x hx]; exact anti _ (rin x hx)) (hs f bal)
 have back:∀x,AH n x->σ (ρ x)=x:=λx hx=>rinj _ _ (hσ _ (rin x hx)).1 hx (hσ _ (rin x hx)).2
 refine⟨λy=>p (σ y),λy hy=>?_,λy hy=>?_⟩
 ·obtain⟨s1,s2⟩:=hσ y hy;show p (σ (AL us y))=p (σ y)
  have:=h _ s1
  rw[s2] at this;rw[this,back _ (into _ s1)];exact i1 _ s1
 ·obtain⟨s1,s2⟩:=hσ y hy;show p (σ y)-p (σ (oth y))=f y;have e:σ (oth y)=oth (σ y):=by
   have:=roth _ s1
   rw[s2] at this;rw[this,back _ (DG ev s1)]
  have:=d1 _ s1
  rw[e,this,s2]
end
end Mth
namespace My
open PySem L2 Mth
theorem AY{H:Hp}{p:Addr}(h:H p=none)(o:HO):AR H (AF H p o):=λb u q=>by rw[Ad (BL q h)]; exact q
def B6(x:Addr)(H H':Hp):Prop:=∀b o,b≠x->H b=some o->H' b=some o
theorem B6.refl(x:Addr)(H:Hp):B6 x H H:=λ_ _ _ h=>h
theorem B6.put{x:Addr}{H H':Hp}(h:B6 x H H')(o:HO):B6 x H (AF H' x o):=λb u n q=>by rw[Ad n]; exact h b u n q
theorem B6.trans{x:Addr}{H H1 H2:Hp}(a:B6 x H H1)(b:B6 x H1 H2):B6 x H H2:=λc o n h=>b c o n (a c o n h)
theorem _root_.L2.AR.b{x:Addr}{H H':Hp}(h:AR H H'):B6 x H H':=λb o _ q=>h b o q
theorem B6.same{x:Addr}{H0 H H':Hp}(h:B6 x H H')(s:AR H0 H)(n:H0 x=none):AR H0 H':=λb o q=>h b o (BL q n) (s b o q)
theorem B6.Af{x:Addr}{H:Hp}{o:HO}:B6 x H (AF H x o):=(B6.refl x H).put o
theorem _root_.L2.AR.up{x:Addr}{H0 H:Hp}(s:AR H0 H)(n:H0 x=none)(o:HO):AR H0 (AF H x o):=B6.Af.same s n
theorem JH{c A B:Prop}[Decidable c](hc:¬c)(h:A):if (!decide c)=true then A else B:=by
 rw[iQ hc];exact Dk h
theorem DH{c A B:Prop}[Decidable c](hc:c)(h:A):if decide c=true then A else B:=by
 rw[jf hc];exact Dk h
theorem DL{c A B:Prop}[Decidable c](hc:¬c)(h:B):if decide c=true then A else B:=by
 rw[iQ hc];exact CG h
theorem iv{a b:Int}(h:a=b):V.int a=V.int b:=by rw[h]
theorem E6{a b:Int}(h:a≠b):¬V.int a=V.int b:=λz=>h (V.int.inj z)
theorem Ca{n:Nat}(h:n<=100000):n<sizeLine:=by rw[ji]; omega
abbrev A7(L:List (Int×Int)):List (AX×V):=L.map λp=>(Sum.inl p.1,V.int p.2)
theorem NY(e:Int):∀L:List (Int×Int),CU (A7 L) (Sum.inl e:AX)=(lk L e).map V.int
 | []=>rfl
 | p :: L=>by
  show CU ((Sum.inl p.1,V.int p.2) :: A7 L) (Sum.inl e:AX)=_;by_cases h:p.1=e
  ·rw[IW (p:=((Sum.inl p.1:AX),V.int p.2)) (by rw[h])];unfold lk;rw[List.find?_cons_of_pos (by simpa using h)];rfl
  ·rw[HL (p:=((Sum.inl p.1:AX),V.int p.2)) (λz=>h (Sum.inl.inj z)),NY e L];unfold lk;rw[List.find?_cons_of_neg (by simpa using h)]
theorem Nm{kvs:List (AX×V)}{k:AX}{v:V}(h:CU kvs k=none):Bw kvs k v=kvs++[(k,v)]:=by
 unfold Bw;rw[Mh,h];rfl
theorem GY{L:List (Int×Int)}{e v:Int}(h:e∉L.map (·.1)):Bw (A7 L) (Sum.inl e:AX) (.int v)=A7 (L++[(e,v)]):=by
 rw[Nm (by rw[NY,Yz h]; rfl)];simp
abbrev JY(l:List Int):List (AX×V):=l.map λe=>(Sum.inl e,V.bl true)
theorem NJ(e:Int):∀l:List Int,CU (JY l) (Sum.inl e:AX)=if e∈l then some (V.bl true) else none
 | []=>rfl
 | p :: L=>by
  show CU ((Sum.inl p,V.bl true) :: JY L) (Sum.inl e:AX)=_;by_cases h:p=e
  ·rw[IW (p:=((Sum.inl p:AX),V.bl true)) (by rw[h]),ff (by simp[h])]
  ·rw[HL (p:=((Sum.inl p:AX),V.bl true)) (λz=>h (Sum.inl.inj z)),NJ e L]
   have:e∈p :: L↔e∈L:=by simp[iB h]
   by_cases q:e∈L
   ·rw[ff q,ff (this.mpr q)]
   ·rw[eZ q,eZ λz=>q (this.mp z)]
theorem ZM{l:List Int}{e:Int}(h:e∉l):Bw (JY l) (Sum.inl e:AX) (.bl true)=JY (l++[e]):=by
 rw[Nm (by rw[NJ,eZ h])];simp
theorem Im{H:Hp}{d:Addr}{L:List (Int×Int)}{e v:Int}(h:H d=some (.dK (A7 L)))(q:lk L e=some v):CT H d (.int e) (some (.int v)):=by
 have:=CT.k (k:=Sum.inl e) h
 rw[NY,q] at this;exact this
def HF(H:Hp)(a:Addr)(bs:List Addr)(ts:List (List Int)):Prop :=
 H a=some (.AG (bs.map V.ref))/\bs.length=ts.length/\∀(i:Nat) (b:Addr) (row:List Int),bs[i]?=some b->ts[i]?=some row->H b=some (.AG (row.map V.int))
theorem HF.keep{H H':Hp}{a:Addr}{bs:List Addr}{ts:List (List Int)}(h:HF H a bs ts)(s:AR H H'):HF H' a bs ts :=
 ⟨s _ _ h.1,h.2.1,λi b row e1 e2=>s _ _ (h.2.2 i b row e1 e2)⟩
theorem Ti{bs:List Addr}{ts:List (List Int)}{i:Nat}{x:V}(hl:bs.length=ts.length)(h:(bs.map V.ref)[i]?=some x):∃b row,x=.ref b/\bs[i]?=some b/\ts[i]?=some row:=by
 rw[fg] at h;cases e:bs[i]? with
 | none=>rw[e] at h; cases h
 | some b =>
  rw[e] at h;have hi:i<bs.length:=(eu.mp e).1;exact⟨b,ts[i]'(by omega),(fC h).symm,rfl,eh (by omega)⟩
theorem Ep{row:List Int}{i:Nat}{x:V}(h:(row.map V.int)[i]?=some x):∃e,x=.int e/\row[i]?=some e:=by
 rw[fg] at h;cases q:row[i]? with
 | none=>rw[q] at h; cases h
 | some e =>
  rw[q] at h;exact⟨e,(fC h).symm,rfl⟩
theorem Nx{row:List Int}{i:Nat}{e:Int}(h:row[i]?=some e):(row.map V.int)[i]?=some (.int e):=by rw[fg,h]; rfl
theorem RV{row:List Int}{j:Nat}(h:j<row.length):B7 (row.map V.int) ((j:Int)-1)=some (.int (En row j)):=by
 have g:∀i,i<row.length->(row.map V.int)[i]?=some (.int (row.getD i 0)):=λi hi=>by
  rw[fg,eh hi,eO,eh hi];rfl
 unfold En;cases j with
 | zero =>
  rw[ff rfl];have hl:(row.map V.int).length=row.length:=ed ..;have e:Dp (row.map V.int).length (((0:Nat):Int)-1)=some (row.length-1):=by
   unfold Dp;rw[hl,eZ (by decide),ff (by omega)];congr 1;omega
  unfold B7;rw[e];exact g _ (by omega)
 | succ j =>
  rw[eZ (by omega),show(((j+1:Nat):Int)-1)=((j:Nat):Int) by omega];exact BF (g j (by omega))
theorem Jh{ts:List (List Int)}(nd:ts.flatten.Nodup){i j:Nat}{row:List Int}{e:Int}(h1:ts[i]?=some row)(h2:row[j]?=some e):e∉(ts.take i).flatten++row.take j:=by
 obtain⟨hi,q1⟩:=eu.mp h1;obtain⟨hj,q2⟩:=eu.mp h2;have e1:ts=ts.take i++row :: ts.drop (i+1):=by rw[<-q1,iV,iN]
 have e2:row=row.take j++e :: row.drop (j+1):=by rw[<-q2,iV,iN]
 rw[e1,gQ,fZ,iD] at nd;obtain⟨_,n2,n3⟩:=nd;intro z;rcases fm.mp z with z | z
 ·exact n3 e z e (iS _ (by rw[e2]; simp)) rfl
 ·rw[iD] at n2;have n4:=n2.1;rw[e2,iD] at n4;exact n4.2.2 e z e (by simp) rfl
theorem Hv(x y z:V):B7 [x,y,z] 0=some x:=BF (j:=0) rfl
theorem Di(x y z:V):B7 [x,y,z] 1=some y:=BF (j:=1) rfl
theorem Gu(x y z:V):B7 [x,y,z] 2=some z:=BF (j:=2) rfl
theorem A9{x y:V}:B7 [x,y] 0=some x:=BF (j:=0) rfl
theorem As{x y:V}:B7 [x,y] 1=some y:=BF (j:=1) rfl
theorem Mu(xs:List V){j:Nat}(h:j<=xs.length):Cw xs none (some (j:Int))=xs.take j:=by
 unfold Cw;have e1:HT.Av xs.length 0 none=0:=rfl;have e2:HT.Av xs.length xs.length (some (j:Int))=j:=by simp[HT.Av]; rw[eZ (by omega)]; omega
 rw[e1,e2]; simp
theorem HN(xs:List V){j:Nat}(h:j<=xs.length):Cw xs (some (j:Int)) none=xs.drop j:=by
 unfold Cw;have e1:HT.Av xs.length 0 (some (j:Int))=j:=by simp[HT.Av]; rw[eZ (by omega)]; omega
 have e2:HT.Av xs.length xs.length none=xs.length:=rfl;rw[e1,e2,fH]; simp
theorem D5{n:Nat}(h:n<=100000):n<=sizeLine:=Nat.le_of_lt (Ca h)
def BS(H:Hp)(b:Addr)(ns:List Int):Prop:=H b=some (.AG (ns.map V.int))
theorem HM:Mo BS:=λs h=>s _ _ h
theorem BS.Ba{H:Hp}{a b:Addr}{t:List Int}{ys:List V}(h:BS H b t)(e:H a=some (.AB ys)):BS (Ba H a) b t:=Gf h λz=>by rw[z] at h; unfold BS at h; rw[e] at h; cases h
abbrev DQ(hs:List Nat):List V:=hs.map λx:Nat=>V.int (x:Int)
theorem aj{hs:List Nat}{i p:Nat}(h:hs[i]?=some p):B7 (DQ hs) ((i:Nat):Int)=some (.int (p:Int)):=BF (by rw[fg,h]; rfl)
theorem Vl{H:Hp}{l:Addr}{ys:List V}{o:HO}{gs:List Addr}{us:List (List Int)}(hl:H l=some (.AB ys))(h:At BS H gs us):At BS (AF H l o) gs us:=⟨h.1,λi b x e1 e2=>by
 have:=h.2 i b x e1 e2
 unfold BS at this ⊢;rw[Ad (λz=>by rw[z,hl] at this; cases this)];exact this⟩
theorem Jn{n j:Nat}(h:j<n):Dp n ((j:Nat):Int)=some j:=by unfold Dp; rw[ff (by omega),ff (by omega)]; simp
theorem Yl{i:Nat}{v:V}{σ:L2.St}{H:Hp}{k:L2.St->Hp->Prop}(h:k (σ.set i (some v)) H):BQ i v σ H k:=h
theorem bo{D:C7}{f:L2.St->Hp->Prop}{σ:L2.St}{H:Hp}(h:f σ H):({ D with nx:=f }:C7).nx σ H:=h
theorem X0{t u:L2.TS}{D:C7}{σ:L2.St}{H:Hp}{G:L2.St->Hp->Prop}(m:(∀σ H,G σ H->u D σ H)->t { D with nx:=u D } σ H)(r:∀σ H,G σ H->u D σ H):JO t u D σ H:=m r
theorem Nr{i:Int}{n:Nat}(h:i.natAbs<2 ^ n)(hn:n<=8000):BN i:=gI h (gZ (by decide) hn)
abbrev U6(K:PySem.W.Frag)(H:Hp)(a:Addr)(ns:List Int):Prop:=AM K H a (ns.map V.int)/\ns.length<=63
end My
namespace My
open PySem
def top(i:Nat):Stmt:=PySem.Challenge.pw_currentfloor_k25_floor_of_a_net.main.body.getD i (.Pass ⟨0,0,0,0⟩)
abbrev sCommon:Stmt:=top 5
abbrev sFraction:Stmt:=top 6
abbrev sPlus:Stmt:=top 7
abbrev sMinus:Stmt:=top 8
abbrev sTimes:Stmt:=top 9
abbrev s_less:Stmt:=top 10
abbrev sCBot:Stmt:=top 11
abbrev sWholes:Stmt:=top 12
abbrev sLed:Stmt:=top 14
abbrev sSweptRow:Stmt:=top 15
abbrev sSwept:Stmt:=top 16
abbrev sBack:Stmt:=top 17
abbrev sAnswer:Stmt:=top 18
abbrev sEaseTable:Stmt:=top 20
abbrev sPoleless:Stmt:=top 21
abbrev sHeights:Stmt:=top 22
abbrev sFallOf:Stmt:=top 23
abbrev sRunBy:Stmt:=top 24
abbrev sOther:Stmt:=top 26
abbrev sAhead:Stmt:=top 27
abbrev sRingFrom:Stmt:=top 28
abbrev sRings:Stmt:=top 29
abbrev sLandOf:Stmt:=top 30
abbrev s_land_sides:Stmt:=top 32
abbrev s_rising:Stmt:=top 33
abbrev s_laid:Stmt:=top 34
abbrev sCellAt:Stmt:=top 36
abbrev sWhole:Stmt:=top 37
abbrev s_law_row:Stmt:=top 38
abbrev s_law_divisor:Stmt:=top 39
abbrev sLFrac:Stmt:=top 40
abbrev sLEase:Stmt:=top 41
abbrev s_law_ahead:Stmt:=top 42
abbrev s_law_land:Stmt:=top 43
abbrev s_law_corner:Stmt:=top 44
abbrev sGrow:Stmt:=top 45
abbrev s_law_finished:Stmt:=top 46
abbrev s_law_grown:Stmt:=top 47
abbrev s_law_lands:Stmt:=top 48
abbrev s_law_is_fraction:Stmt:=top 49
abbrev s_law_fractions_are:Stmt:=top 50
abbrev s_law_is_floor:Stmt:=top 51
abbrev s_law_plus:Stmt:=top 52
abbrev s_law_minus:Stmt:=top 53
abbrev s_law_times:Stmt:=top 54
abbrev s_law_before:Stmt:=top 55
abbrev s_law_fall:Stmt:=top 56
abbrev s_law_balanced:Stmt:=top 57
abbrev s_law_across:Stmt:=top 58
abbrev s_law_in_order:Stmt:=top 59
abbrev s_law_long:Stmt:=top 60
abbrev s_law_some_net:Stmt:=top 61
abbrev sLaw:Stmt:=top 62
open L2 Mth
section
variable {P:Program} {w:World} {K:PySem.W.Frag} {mg:Str->Option Value} {base:Heap}
inductive Tg(vs:List V)(H:Hp)(Q:VK):Prop
 | mk (a b:Int) (h_0:vs=[.int a,.int b]) (h_1:Q (.int (Int.gcd a b:Int)) H):Tg vs H Q
def Ll:Sp:=λvs H Q _=>Tg vs H Q
theorem SD{x:Int}{n:Nat}(h:Int.gcd x 0=n):(if x<0 then -x else x)=(n:Int):=by
 rw[<-h,Int.gcd_zero_right];split <;> omega
theorem L7:A3 ["one","other","rest"] ["one","other"] (Ao sCommon):=BC
theorem WM{f:Addr}{fd:FuncData}(F:Ar K "common_part" "common_part" sCommon f fd)(ma:mg "abs" = none):An P w K mg base Ay 1 f fd ["one","other"] Ll:=by
 refine F.BD L7 λcdv A outer s H vs Q E hr h=>?_
 obtain⟨a,b,rfl,q⟩:=h;refine⟨_,AN (Ie fT (BX FP (pv 1) AD (BM _))
   (AN (Aa (i:=2) L7.nd rfl (Or.inl rfl) (AK ZO (pv 0) (pv 1)))
   (AN (Aa (i:=0) L7.nd rfl (Or.inl rfl) (pv 1))
   (AV (Aa (i:=1) L7.nd rfl (Or.inl rfl) (pv 2))))))
  (AV (Am (A8 Ms (by rfl) ma PyProof.Rows.boot_abs (AA (pv 0) AE)))),?_⟩
 refine Ic (λσ H2=>∃x y r,σ=[some (.int x),some (.int y),r]/\H2=H/\Int.gcd x y=Int.gcd a b) (λσ _=>match σ with | [_,some (.int y),_]=>y.natAbs | _=>0) ⟨a,b,none,rfl,rfl,rfl⟩ ?_ ?_
 ·rintro σ H2 ⟨x,y,r,rfl,rfl,g⟩;refine⟨_,rfl,rfl,_,rfl,?_⟩;by_cases hy:y=0
  ·refine FO (iv hy) ?_;subst hy;refine⟨_,rfl,x,rfl,?_⟩;rw[SD g];exact q
  ·refine JH (E6 hy) ?_;exact⟨_,rfl,_,rfl,_,_,rfl,rfl,hy,_,rfl,_,rfl,⟨y,x.fmod y,some (.int (x.fmod y)),rfl,rfl,(Qf x y).trans g⟩,ZY x y hy⟩
 ·rintro σ H2 Q1 Q2 hq ⟨v,e,sc,b,eb,z⟩;exact⟨v,e,sc,b,eb,hq _ _ z⟩
theorem Me{X:Cx}{st:Stmt}:PS X st (λ_ _ _=>False):=by
 intro pins s σ H D I h;exact False.elim h
inductive Ru(C:Addr)(vs:List V)(H:Hp)(Q:VK)(E:XK):Prop
 | mk (t b:Int) (h_0:vs=[.int t,.int b]) (h_1:BN b) (h_2:(b=0->False)) (h_3:(b≠0->∀p,H p=none->Q (.ref p) (AF H p (.AG [.int (BK t b).1,.int (BK t b).2])))):Ru C vs H Q E
def He(C:Addr):Sp:=λvs H Q E=>Ru C vs H Q E
theorem PU:A3 ["top","bottom","part"] ["top","bottom"] (Ao sFraction):=BC
theorem Vf{f C:Addr}{fd:FuncData}(F:Ar K "fraction" "fraction" sFraction f fd)(G:AU P w K mg base 1 "common_part" ["one","other"] Ll):An P w K mg base Ay 2 f fd ["top","bottom"] (He C):=by
 refine F.BD PU λcdv A outer s H vs Q E hr h=>?_
 obtain⟨t,b,rfl,hb,h0,h1⟩:=h;refine⟨_,AN (BZ (BX EF (pv 1) AD (BM _)) (AV Me) Bp)
  (AN (Aa (i:=2) PU.nd rfl (Or.inl rfl) (Ae G hr (AA (pv 0) (AA (pv 1) AE))))
  (AN (BZ (BX Ht (pv 1) AD (BM _)) (AV (Aa (i:=2) PU.nd rfl (Or.inl rfl) (Fv Fo (pv 2)))) Bp)
  (AV (Am (BP (AA (AK GQ (pv 0) (pv 2)) (AA (AK GQ (pv 1) (pv 2)) AE))))))),?_⟩
 refine⟨_,rfl,rfl,_,rfl,?_⟩;by_cases hz:b=0
 ·refine DH (iv hz) ?_;exact(h0 hz).elim
 refine DL (E6 hz) ?_;refine⟨_,rfl,_,rfl,t,b,rfl,?_⟩;refine⟨_,rfl,_,_,rfl,rfl,_,rfl,?_⟩;have fin:∀part,part=Mth.part t b->Ob (JK (BJ (By (rI Hm λi j=>V.int (i.fdiv j)) (Ax 0) (Ax 2)) (BJ (By (rI Hm λi j=>V.int (i.fdiv j)) (Ax 1) (Ax 2)) CF)))
   { nx:=λ_ H'=>Q .BA H',rt:=Q } [some (.int t),some (.int b),some (.int part)] H:=by
  rintro part rfl;have hp:Hm t (Mth.part t b):=⟨Jw t b hz,iE (Rt t b hz) hb⟩;exact⟨_,rfl,_,rfl,_,_,rfl,rfl,hp,_,rfl,_,rfl,_,_,rfl,rfl,hp,by exact Bh,h1 hz⟩
 by_cases hn:b<0
 ·refine DH hn ?_;exact⟨_,rfl,_,rfl,fin _ (by unfold Mth.part; rw[ff hn])⟩
 ·refine DL hn ?_;exact fin _ (by unfold Mth.part; rw[eZ hn])
open Wd
theorem Nj{x:Addr}{H0 H:Hp}(s:AR H0 H)(n:H0 x=none)(o:HO):AR H0 (AF H x o):=λb u q=>by rw[Ad (BL q n)]; exact s b u q
theorem GG{i:Int}{n:Nat}(h:i.natAbs<=2 ^ n)(hn:n<8000):BN i:=iE h (Nat.pow_lt_pow_right (by decide) hn)
theorem NK{ns:List Int}{i:Nat}{v:V}(h:(ns.map V.int)[i]?=some v):∃e,v=.int e/\ns[i]?=some e:=by
 rw[fg] at h;cases q:ns[i]? with
 | none=>rw[q] at h; cases h
 | some e=>rw[q] at h; exact⟨e,(fC h).symm,rfl⟩
theorem HU{ns:List Int}{i:Nat}(h:i<ns.length):B7 (ns.map V.int) (i:Int)=some (.int (ns.getD i 0)):=by
 refine BF ?_;rw[fg,eh h,eO,eh h]; rfl
theorem Cm{α:Type}{xs:List α}{i:Nat}{x:α}(h:xs[i]?=some x):xs.take (i+1)=xs.take i++[x]:=by
 rw[List.take_add_one,h]; rfl
variable {f g h C:Addr} {fd gd hd:FuncData}
inductive Tq(vs:List V)(H:Hp)(Q:VK):Prop
 | mk (a:Addr) (qs:List Rat) (d:Nat) (h_0:vs=[.ref a]) (h_1:Az AO H a qs) (h_2:(∀q∈qs,q.den<=2 ^ d)) (h_3:d*qs.length+d<8000) (h_4:Q (.int (cb qs)) H):Tq vs H Q
def L6:Sp:=λvs H Q _=>Tq vs H Q
theorem L8:A3 ["row","common","one"] ["row"] (Ao sCBot):=BC
theorem Yy(F:Ar K "common_bottom" "common_bottom" sCBot f fd)(G:AU P w K mg base 1 "common_part" ["one","other"] Ll):
  An P w K mg base Ay 2 f fd ["row"] L6:=by
 refine F.BD L8 λcdv A outer s H vs Q E hr h=>?_
 obtain⟨a,qs,d,rfl,⟨bs,ha,hA⟩,hd,hsz,q⟩:=h;refine⟨_,AN (Aa (i:=1) L8.nd rfl (Or.inl rfl) AD)
  (AN (Bu fT rfl (Eo (pv 0)) (Ah (i:=2) L8.nd rfl (Or.inl rfl))
   (AV (Aa (i:=1) L8.nd rfl (Or.inl rfl) (AK CA (AK GQ (pv 1) (Ae G hr (AA (pv 1) (AA (A2 Bj (pv 2) AD (λ_ _=>rfl)) AE)))) (A2 Bj (pv 2) AD (λ_ _=>rfl))))))
  (AV (Am (pv 1)))),?_⟩
 refine⟨_,rfl,a,rfl,⟨_,AJ.of ha⟩,?_⟩;refine HS (xs:=bs.map V.ref) (λi σ H2=>∃u,H2=H/\σ=[some (.ref a),some (.int ((qs.take i).foldl Cz 1)),u]) ⟨none,rfl,rfl⟩ (λi σ H2 _ ⟨_,e,_⟩=>by rw[e]; exact AJ.of ha) ?_ ?_
 ·rintro i x σ H2 hx ⟨u,rfl,rfl⟩;obtain⟨b,y,rfl,_,hy,hB⟩:=hA.ref hx;have hi:i<qs.length:=(eu.mp hy).1;have ym:y∈qs:=eQ hy;obtain⟨c1,c2,c3,c4⟩:=Tp (qs.take i) (c:=1) (D:=0) (d:=d) (by decide) (by decide) (λp hp=>hd p (List.mem_of_mem_take hp));generalize hc:(qs.take i).foldl Cz 1=c at *;have lt:(qs.take i).length<=qs.length:=by simp; omega
  have mle:d*(qs.take i).length<=d*qs.length:=iL d lt;have hdn:y.den<=2 ^ d:=hd y ym;have hg0:(Int.gcd c y.den:Int)≠0:=by have:=Int.gcd_pos_of_ne_zero_left (y.den:Int) (show c≠0 by omega); omega
  have hgb:BN (Int.gcd c y.den:Int):=by
   refine GG (n:=d) ?_ (by omega);rw[gj];refine fY (Nat.le_of_dvd ?_ (Int.ofNat_dvd_left.mp (Int.gcd_dvd_right c (y.den:Int)))) ?_
   ·have:=y.den_nz; omega
   ·simpa using hdn
  have hb1:BN (c.fdiv (Int.gcd c y.den:Int)):=by
   refine GG (n:=0+d*(qs.take i).length) (fY ?_ c4) (by omega);rw[iC (Int.gcd_dvd_left c _)];exact Int.natAbs_ediv_le_natAbs c _
  have hb2:BN (y.den:Int):=GG (n:=d) (by simpa using hdn) (by omega);refine⟨_,rfl,_,rfl,_,rfl,b,_,_,_,rfl,rfl,AJ.of hB,As,c,y.den,rfl,_,_,rfl,rfl,⟨hg0,hgb⟩,_,rfl,b,_,_,_,rfl,rfl,AJ.of hB,As,_,_,rfl,rfl,⟨hb1,hb2⟩,?_⟩;refine⟨some (.ref b),rfl,?_⟩;rw[Cm hy,List.foldl_append];show _=[some (V.ref a),some (.int (Cz ((qs.take i).foldl Cz 1) y)),some (.ref b)];rw[hc]; rfl
 ·rintro σ H2 ⟨u,rfl,rfl⟩;refine⟨_,rfl,?_⟩;rw[ed,hA.1,iG];exact q
inductive QI(vs:List V)(H:Hp)(Q:VK):Prop
 | mk (a:Addr) (qs:List Rat) (b:Int) (h_0:vs=[.ref a,.int b]) (h_1:Az AO H a qs) (h_2:qs.length<=1000) (h_3:(∀q∈qs,BN q.num/\BN (q.den:Int)/\BN (b.fdiv q.den))) (h_4:∀p H',AR H H'->H p=none->Bv H' p (qs.map (wh b))->Q (.ref p) H'):QI vs H Q
def Kx:Sp:=λvs H Q _=>QI vs H Q
theorem dO:A3 ["row","bottom"] ["row","bottom"] (Ao sWholes):=BC
theorem cm:(["one","bottom"]:List Str).Nodup:=by decide +kernel
theorem Wy(F:Ar K "wholes" "wholes" sWholes f fd):An P w K mg base Ay 1 f fd ["row","bottom"] Kx:=by
 refine F.BD dO λcdv A outer s H vs Q E hr h=>?_
 obtain⟨a,qs,b,rfl,⟨bs,ha,hA⟩,hn,hsz,q⟩:=h;refine⟨_,AV (Am (C3 (Nc:=["one","bottom"]) (cap:=[(1,1)]) (g:=BQ 0) (te:=By (rI KA λi j=>.int (i*j)) (By (GH K) (Ax 0) (tC (.int 0))) (By (rI Hm λi j=>.int (i.fdiv j)) (Ax 1) (By (GH K) (Ax 0) (tC (.int 1))))) rfl (Eo (pv 0))
   (CJ rfl rfl (by decide +kernel) (by decide +kernel) (ft.mpr ⟨⟨rfl,rfl⟩,fh _⟩) rfl (ft.mpr ⟨⟨_,_,rfl,rfl,rfl,rfl,rfl⟩,fh _⟩))
   (λ_ _ _ _ _=>Ah (i:=0) cm rfl (Or.inl rfl)) (λ_ _ _ _ _=>AK CA (A2 Bj (pv 0) AD (λ_ _=>rfl)) (AK GQ (pv 1) (A2 Bj (pv 0) AD (λ_ _=>rfl)))))),?_⟩
 refine⟨_,rfl,a,rfl,⟨_,AJ.of ha⟩,λacc hacc=>?_⟩;refine CN (HR ha) (by rw[ed,hA.1]; exact hn) hacc (λi ys σ _=>ys=((qs.take i).map (wh b)).map V.int/\∃u,σ=[u,some (.int b)]) ⟨rfl,none,rfl⟩ ?_ ?_
 ·rintro i ys σ H2 x H3 hi sm hacc2 ⟨hys,u,rfl⟩ ⟨rfl,hx⟩ C hC;obtain⟨c,y,rfl,_,hy,hB⟩:=hA.ref hx;obtain⟨s1,s2,s3⟩:=hsz y (eQ hy);have hB3:=AZ sm hB;have yd:=y.den_nz;refine⟨_,rfl,c,_,_,_,rfl,rfl,AJ.of hB3,A9,_,rfl,_,rfl,c,_,_,_,rfl,rfl,AJ.of hB3,As,_,_,rfl,rfl,⟨by omega,s2⟩,_,_,rfl,rfl,⟨s1,s3⟩,?_⟩;refine hC _ _ _ (AR.refl _) ⟨?_,_,rfl⟩;rw[hys,Cm hy,fv,fv]; rfl
 ·rintro ys σ H2 sm ha2 hl ⟨hys,_⟩;refine q acc H2 sm hacc ?_;rw[ed,hA.1,iG] at hys;unfold Bv;rw[ha2,hys]
inductive Te(vs:List V)(H:Hp)(Q:VK):Prop
 | mk (a:Addr) (R:List (List Int)) (k m:Nat) (h_0:vs=[.ref a,.int k]) (h_1:Ed Bv H a R) (h_2:k<R.length) (h_3:R.length<=1000) (h_4:(∀r∈R,r.length=m)) (h_5:k<m) (h_6:m<=1000) (h_7:((∀i,k<=i->i<R.length->(R.getD i []).getD k 0=0)->Q .BA H)) (h_8:∀i p H',k<=i->i<R.length->(R.getD i []).getD k 0≠0->AR H H'->H p=none->Ed Bv H' p (JM R k i)->Q (.ref p) H'):Te vs H Q
def OT:Sp:=λvs H Q _=>Te vs H Q
theorem Oi:A3 ["rows","k","place","exchanged"] ["rows","k"] (Ao sLed):=BC
theorem dH:(["number"]:List Str).Nodup:=by decide +kernel
theorem getD_some{α:Type}{xs:List α}{i:Nat}{x d:α}(h:xs[i]?=some x):xs.getD i d=x:=by rw[eO,h]; rfl
theorem Jq:bootBuiltins "list" = some (.type "list"):=by decide +kernel
theorem Jx{n j:Nat}(h:j<n):Dp n (j:Int)=some j:=by
 unfold Dp;rw[ff (by omega),ff (by omega)]; simp
theorem Zx(F:Ar K "led" "led" sLed f fd)(ml:mg "len" = none)(mr:mg "range" = none)(mli:mg "list" = none):An P w K mg base Ay 1 f fd ["rows","k"] OT:=by
 refine F.BD Oi λcdv A outer s H vs Q E hr h=>?_
 obtain⟨a,R,k,m,rfl,⟨bs,ha,hA⟩,hk,hR,hm,hkm,hm1,qn,qs⟩:=h;refine⟨_,AN (Bu fT rfl (Wc (by rfl) mr (AA (pv 1) (AA (A8 Jb (by rfl) ml BR (AA (pv 0) AE)) AE))) (Ah (i:=2) Oi.nd rfl (Or.inl rfl))
   (AV (BZ (BX FP (A2 B5 (A2 B5 (pv 0) (pv 2) (λ_ _=>rfl)) (pv 1) (λ_ _=>rfl)) AD (BM _))
    (AN (Aa (i:=3) Oi.nd rfl (Or.inl rfl) (Cn VQ (by rfl) mli Jq (AA (pv 0) AE)))
    (AN (BZ (BX FP (pv 2) (pv 1) (BM _))
     (AN (DF (A2 B5 (pv 0) (pv 2) (λ_ _=>rfl)) (EB (pv 3) (pv 1) D9))
     (AV (DF (C3 (Nc:=["number"]) (cap:=[]) (g:=BQ 0) (te:=U3 (rU λi=>.int (-i)) (Ax 0)) rfl (Ip (A2 B5 (pv 0) (pv 1) (λ_ _=>rfl)))
      (CJ rfl rfl (by decide +kernel) (by decide +kernel) (fh _) rfl (fh _)) (λ_ _ _ _ _=>Ah (i:=0) dH rfl (Or.inl rfl)) (λ_ _ _ _ _=>Fv Fo (pv 0))) (EB (pv 3) (pv 2) D9)))) Bp)
    (AV (Am (pv 3))))) Bp)))
  (AV (Am J5)),?_⟩
 have hbl:bs.length=R.length:=hA.1;refine⟨_,rfl,_,rfl,a,_,rfl,.inl (AM.of ha),_,_,rfl,⟨by omega,by omega,by rw[ed]; omega,by rw[ed]; omega⟩,?_⟩;rw[ed,show((bs.length:Int)-(k:Int)).toNat=R.length-k by omega];refine Kt (n:=R.length-k) (λi σ H2=>H2=H/\(∃u v,σ=[some (.ref a),some (.int k),u,v])/\∀j,k<=j->j<k+i->(R.getD j []).getD k 0=0) ⟨rfl,⟨none,none,rfl⟩,λj h1 h2=>by omega⟩ ?_ ?_
 ·rintro i σ H2 hi ⟨rfl,⟨u,v,rfl⟩,hz⟩;have hki:k+i<R.length:=by omega
  have ei:R[k+i]?=some R[k+i]:=eh hki;obtain⟨b,hb,hB⟩:=hA.get ei;have rl:R[k+i].length=m:=hm _ (iq hki);have gi:R.getD (k+i) []=R[k+i]:=getD_some ei;have cst:(k:Int)+(i:Int)=((k+i:Nat):Int):=by omega
  refine⟨_,rfl,_,rfl,a,_,_,_,rfl,rfl,AM.of ha,by rw[cst]; exact BF (Be hb),_,rfl,b,_,_,_,rfl,rfl,AM.of hB,HU (by omega),rfl,_,rfl,?_⟩;by_cases hv:R[k+i].getD k 0=0
  ·refine FO (iv hv) ⟨rfl,⟨_,_,rfl⟩,λj h1 h2=>?_⟩;rcases gc j (k+i) with h3 | h3
   ·exact hz j h1 h3
   ·obtain rfl:j=k+i:=by omega
    rw[gi]; exact hv
  ·refine JH (E6 hv) ?_;refine⟨_,rfl,a,_,rfl,.inl (AM.of ha),λl hl=>?_⟩;refine⟨_,rfl,_,rfl,rfl,_,rfl,?_⟩;by_cases hi0:i=0
   ·subst hi0;refine FO (iv (by omega)) ?_;refine⟨_,rfl,qs (k+0) l _ (by omega) hki (by rw[gi]; exact hv) (AY hl _) hl ?_⟩;unfold JM;rw[ff (by omega)];exact⟨bs,AS,hA.keep EA (AY hl _)⟩
   ·refine JH (E6 (by omega)) ?_;have ek:R[k]?=some R[k]:=eh hk;obtain⟨c,hc,hCk⟩:=hA.get ek;have gk:R.getD k []=R[k]:=getD_some ek;have al:a≠l:=BL ha hl;have s1:AR H2 (AF H2 l (.AB (bs.map V.ref))):=AY hl _;refine⟨_,rfl,_,rfl,a,_,_,_,rfl,rfl,AM.of (s1 _ _ ha),by rw[cst]; exact BF (Be hb),_,rfl,_,rfl,l,_,_,_,rfl,rfl,AS,Jx (j:=k) (by rw[ed]; omega),?_⟩;have s2:AR H2 (AF (AF H2 l (.AB (bs.map V.ref))) l (.AB ((bs.map V.ref).set k (.ref b)))):=Nj s1 hl _;refine⟨_,rfl,_,rfl,a,_,_,_,rfl,rfl,AM.of (s2 _ _ ha),BF (Be hc),c,rfl,⟨_,AM.of (s2 _ _ hCk)⟩,λacc hacc=>?_⟩;have hCk2:=s2 _ _ hCk;generalize hH3:AF (AF H2 l (.AB (bs.map V.ref))) l (.AB ((bs.map V.ref).set k (.ref b)))=H3 at *;have hl3:H3 l=some (.AB ((bs.map V.ref).set k (.ref b))):=by rw[<-hH3]; exact AS
    have rk:R[k].length=m:=hm _ (iq hk);refine CN (Fl hCk2) (by rw[ed]; omega) hacc (λj ys σ _=>ys=((R[k].take j).map λx=>-x).map V.int/\∃u,σ=[u]) ⟨rfl,none,rfl⟩ ?_ ?_
    ·rintro j ys σ H4 x H5 hj sm hacc2 ⟨hys,u4,rfl⟩ ⟨rfl,hx⟩ C hC;obtain⟨e,rfl,he⟩:=NK hx;refine⟨_,rfl,_,rfl,hC _ _ _ (AR.refl _) ⟨?_,_,rfl⟩⟩;rw[hys,Cm he,fv,fv]; rfl
    ·rintro ys σ H4 sm ha4 hlen ⟨hys,_⟩;rw[ed,iG] at hys;refine⟨_,rfl,_,rfl,l,_,_,_,rfl,rfl,sm _ _ hl3,by rw[cst]; exact Jx (j:=k+i) (by rw[iA,ed]; omega),?_⟩;have acl:acc≠l:=λz=>by rw[z,hl3] at hacc; cases hacc
     have s5:AR H2 (AF H4 l (.AB (((bs.map V.ref).set k (.ref b)).set (k+i) (.ref acc)))):=Nj (s2.trans sm) hl _;refine⟨_,rfl,qs (k+i) l _ (by omega) hki (by rw[gi]; exact hv) s5 hl ?_⟩;unfold JM;rw[eZ (by omega),gi,gk];refine⟨(bs.set k b).set (k+i) acc,?_,?_⟩
     ·rw[AS,jo,jo]
     ·refine((hA.keep EA s5).set k (EA s5 hB)).set (k+i) ?_;show AF H4 l _ acc=_;rw[Ad acl,ha4,hys]
 ·rintro σ H2 ⟨rfl,⟨u,v,rfl⟩,hz⟩;exact qn λi h1 h2=>hz i h1 (by omega)
inductive S8(vs:List V)(H:Hp)(Q:VK):Prop
 | mk (a b:Addr) (row lead:List Int) (k m:Nat) (p:Int) (h_0:vs=[.ref a,.ref b,.int k,.int p]) (h_1:Bv H a row) (h_2:Bv H b lead) (h_3:row.length=m) (h_4:lead.length=m) (h_5:k<m) (h_6:m<=1000) (h_7:p≠0) (h_8:BN p) (h_9:(∀x∈row,BN x)) (h_10:(∀x∈lead,BN x)) (h_11:∀q H',AR H H'->H q=none->Bv H' q (CZ row lead k p)->Q (.ref q) H'):S8 vs H Q
def Lk:Sp:=λvs H Q _=>S8 vs H Q
theorem bt:A3 ["row","lead","k","before"] ["row","lead","k","before"] (Ao sSweptRow):=BC
theorem Ul:(["number","other","row","lead","k","before"]:List Str).Nodup:=by decide +kernel
def dD(K:PySem.W.Frag):TE:=By (rI Hm λi j=>.int (i.fdiv j)) (By (Fc λi j=>.int (i-j)) (By (rI KA λi j=>.int (i*j)) (By (Gw K) (Ax 3) (Ax 4)) (Ax 0)) (By (rI KA λi j=>.int (i*j)) (By (Gw K) (Ax 2) (Ax 4)) (Ax 1))) (Ax 5)
theorem Vk(F:Ar K "swept_row" "swept_row" sSweptRow f fd)(mz:mg "zip" = none):An P w K mg base Ay 1 f fd ["row","lead","k","before"] Lk:=by
 refine F.BD bt λcdv A outer s H vs Q E hr h=>?_
 obtain⟨a,b,row,lead,k,m,p,rfl,ha,hb,hr1,hl1,hk,hm,hp,bp,br,bl,q⟩:=h;refine⟨_,AV (Am (C3 (Nc:=["number","other","row","lead","k","before"]) (cap:=[(2,0),(3,1),(4,2),(5,3)]) (g:=IC K 2 (Fu (BQ 0) (Fu (BQ 1) KR))) (te:=dD K) rfl (Mw (t1:=false) (t2:=false) (by rfl) mz (AA (pv 0) (AA (pv 1) AE)))
   (CJ rfl rfl (by decide +kernel) (by decide +kernel) (ft.mpr ⟨⟨rfl,rfl⟩,ft.mpr ⟨⟨rfl,rfl⟩,ft.mpr ⟨⟨rfl,rfl⟩,ft.mpr ⟨⟨rfl,rfl⟩,fh _⟩⟩⟩⟩) rfl
    (ft.mpr ⟨⟨_,_,rfl,rfl,rfl,rfl,rfl⟩,ft.mpr ⟨⟨_,_,rfl,rfl,rfl,rfl,rfl⟩,ft.mpr ⟨⟨_,_,rfl,rfl,rfl,rfl,rfl⟩,ft.mpr ⟨⟨_,_,rfl,rfl,rfl,rfl,rfl⟩,fh _⟩⟩⟩⟩))
   (λ_ _ _ _ _=>Ga rfl (BE (Ah (i:=0) Ul rfl (Or.inl rfl)) (BE (Ah (i:=1) Ul rfl (Or.inl rfl)) CO)))
   (λ_ _ _ _ _=>AK GQ (AK Cq (AK CA (A2 B5 (pv 3) (pv 4) (λ_ _=>rfl)) (pv 0)) (AK CA (A2 B5 (pv 2) (pv 4) (λ_ _=>rfl)) (pv 1))) (pv 5)))),?_⟩
 refine⟨_,rfl,_,rfl,a,b,rfl,⟨_,Bz.l ha⟩,⟨_,Bz.l hb⟩,λacc hacc=>?_⟩;refine CN (Mx (xs:=row.map V.int) (ys:=lead.map V.int) (λH2 s=>Bz.l (s _ _ ha)) (λH2 s=>Bz.l (s _ _ hb)) (by rw[ed,ed]; omega)) (by rw[ed]; omega) hacc
  (λi ys σ _=>ys=((CZ row lead k p).take i).map V.int/\∃u v,σ=[u,v,some (.ref a),some (.ref b),some (.int k),some (.int p)]) ⟨rfl,none,none,rfl⟩ ?_ ?_
 ·rintro i ys σ H2 x H3 hi sm hacc2 ⟨hys,u,v,rfl⟩ ⟨t,n1,n2,rfl,ht,rfl,hn1,hn2⟩ C hC;obtain⟨x1,rfl,hx1⟩:=NK hn1;obtain⟨x2,rfl,hx2⟩:=NK hn2;have s3:AR H2 (AF H2 t (.AG [.int x1,.int x2])):=AY ht _;have gm:∀(l:List Int) (j:Nat),j<l.length->(∀x∈l,BN x)->BN (l.getD j 0):=λl j hj hb=>by
   rw[eO,eh hj]; exact hb _ (iq hj)
  refine⟨t,_,rfl,AJ.of AS,rfl,_,_,rfl,_,_,rfl,rfl,?_⟩;refine⟨_,rfl,_,rfl,b,_,_,_,rfl,rfl,AM.of (s3 _ _ (sm _ _ hb)),HU (by omega),_,rfl,_,_,rfl,rfl,⟨gm _ _ (by omega) bl,br _ (eQ hx1)⟩,
   _,rfl,_,rfl,a,_,_,_,rfl,rfl,AM.of (s3 _ _ (sm _ _ ha)),HU (by omega),_,rfl,_,_,rfl,rfl,⟨gm _ _ (by omega) br,bl _ (eQ hx2)⟩,_,_,rfl,rfl,_,rfl,_,_,rfl,rfl,⟨hp,bp⟩,?_⟩
  refine hC _ _ _ s3 ⟨?_,_,_,rfl⟩;have e:(CZ row lead k p)[i]?=some ((lead.getD k 0*x1-row.getD k 0*x2).fdiv p):=by
   unfold CZ;rw[List.getElem?_zipWith,hx1,hx2]
  rw[hys,Cm e,fv]; rfl
 ·rintro ys σ H2 sm ha2 hl ⟨hys,_⟩;refine q acc H2 sm hacc ?_;rw[ed] at hys
  have:(CZ row lead k p).length=m:=LI hr1 hl1
  rw[fH (by omega)] at hys;unfold Bv;rw[ha2,hys]
inductive RI(vs:List V)(H:Hp)(Q:VK):Prop
 | mk (a:Addr) (R:List (List Int)) (n m B0:Nat) (h_0:vs=[.ref a]) (h_1:Ed Bv H a R) (h_2:R.length=n) (h_3:n<=m) (h_4:m<=100) (h_5:(∀r∈R,r.length=m)) (h_6:1<=B0) (h_7:(∀r∈R,∀x∈r,x.natAbs<=B0)) (h_8:(m*B0) ^ n<2 ^ 8000) (h_9:(∀H',AR H H'->ld n m (Ac (R.map vr) Af)=0->Q .BA H')) (h_10:∀p H' T,AR H H'->Ed Bv H' p T->(∃Z c v,Bi B0 n m n (R.map vr) T Z c v)->Q (.ref p) H'):RI vs H Q
def NF:Sp:=λvs H Q _=>RI vs H Q
theorem Gx:A3 ["rows","size","before","k","lead"] ["rows"] (Ao sSwept):=BC
theorem cD:(["row","lead","k","before"]:List Str).Nodup:=by decide +kernel
theorem Rv{B0 n m k:Nat}{A0:List AW}{top:List (List Int)}{Z:List (List Int×AW)}{p:Int}{v:Ap}(B:Bi B0 n m k A0 top Z p v)(hb:(m*B0) ^ n<2 ^ 8000){z:List Int×AW}(hz:z∈Z):∀x∈z.1,BN x:=by
 intro x hx;obtain⟨j,rfl⟩:=Wd.mem_getD hx;have h:=FI (B.Ux hz j);have hl:=B.Ef;have hp:0<Z.length:=iI hz;have h1:1<=m*B0:=Nat.mul_pos (by have:=B.nm; omega) B.b1;exact iE (fY h (TR h1 (by omega))) hb
theorem Tx{B0 n m k:Nat}{A0:List AW}{top:List (List Int)}{Z:List (List Int×AW)}{p:Int}{v:Ap}(B:Bi B0 n m k A0 top Z p v)(hb:(m*B0) ^ n<2 ^ 8000):BN p:=by
 rcases Nat.eq_zero_or_pos k with rfl | hk
 ·have h1:=B.pl
  have:(p:Rat)=ld 0 m v:=h1.symm
  have hw:=B.HE (Tk 0 m);have e:ld 0 m v=v (Tk 0 m):=by simp[ld,B4]
  rw[<-e,<-this] at hw
  have:=FI hw
  have z:(1:Nat)<2 ^ 8000:=by
   have:=Nat.one_lt_two_pow (n:=8000) (by decide)
   exact this
  rw[Nat.pow_zero] at this;exact iE this z
 ·have hl:=B.Gq hk;have ht:=B.FR;have hm:top.getD (k-1) []∈top:=by
   rw[eO,eh (by omega)]; exact iq _
  have:=FI (B.IG _ hm (k-1))
  rw[hl] at this;exact iE this hb
theorem X9 (F:Ar K "swept" "swept" sSwept f fd) (G:AU P w K mg base 1 "led" ["rows","k"] OT)
  (G2:AU P w K mg base 1 "swept_row" ["row","lead","k","before"] Lk)
  (ml:mg "len" = none) (mr:mg "range" = none):An P w K mg base Ay 2 f fd ["rows"] NF:=by
 refine F.BD Gx λcdv A outer s H vs Q E hr h=>?_
 obtain⟨a,R,n,m,B0,rfl,hA,hn,hnm,hm,hcol,hb1,hbd,hbig,qn,qs⟩:=h;refine⟨_,AN (Aa (i:=1) Gx.nd rfl (Or.inl rfl) (A8 Jb (by rfl) ml BR (AA (pv 0) AE)))
  (AN (Aa (i:=2) Gx.nd rfl (Or.inr rfl) AD)
  (AN (Bu fT rfl (HK (by rfl) mr (AA (pv 1) AE)) (Ah (i:=3) Gx.nd rfl (Or.inr rfl))
   (AN (Aa (i:=0) Gx.nd rfl (Or.inl rfl) (Ae G hr (AA (pv 0) (AA (pv 3) AE))))
   (AN (BZ (BX TJ (pv 0) J5 (BM _)) (AV (Am J5)) Bp)
   (AN (Aa (i:=4) Gx.nd rfl (Or.inr rfl) (A2 B5 (pv 0) (pv 3) (λ_ _=>rfl)))
   (AN (Aa (i:=0) Gx.nd rfl (Or.inl rfl) (AK HZ (EW K9 (pv 0) FC (Dv (AK BH (pv 3) AD)))
    (C3 (Nc:=["row","lead","k","before"]) (cap:=[(1,4),(2,3),(3,2)]) (g:=BQ 0) (te:=D1 Lk [] E0 (BJ (Ax 0) (BJ (Ax 1) (BJ (Ax 2) (BJ (Ax 3) CF))))) rfl (Ip (EW K9 (pv 0) (Dv (AK BH (pv 3) AD)) FC))
     (CJ rfl rfl (by decide +kernel) (by decide +kernel) (ft.mpr ⟨⟨rfl,rfl⟩,ft.mpr ⟨⟨rfl,rfl⟩,ft.mpr ⟨⟨rfl,rfl⟩,fh _⟩⟩⟩) rfl
      (ft.mpr ⟨⟨_,_,rfl,rfl,rfl,rfl,rfl⟩,ft.mpr ⟨⟨_,_,rfl,rfl,rfl,rfl,rfl⟩,ft.mpr ⟨⟨_,_,rfl,rfl,rfl,rfl,rfl⟩,fh _⟩⟩⟩))
     (λ_ _ _ _ _=>Ah (i:=0) cD rfl (Or.inl rfl)) (λ_ _ _ _ _=>Ae G2 hr (AA (pv 0) (AA (pv 1) (AA (pv 2) (AA (pv 3) AE))))))))
   (AV (Aa (i:=2) Gx.nd rfl (Or.inr rfl) (A2 B5 (pv 4) (pv 3) (λ_ _=>rfl)))))))))
  (AV (Am (pv 0))))),?_⟩
 obtain⟨bs,ha,hAt⟩:=id hA;refine⟨_,rfl,a,_,rfl,.inl (AM.of ha),?_⟩;refine⟨_,rfl,(((bs.map V.ref).length:Nat):Int),rfl,by rw[ed,hAt.1]; omega,by rw[ed,hAt.1]; omega,?_⟩;rw[show((((bs.map V.ref).length:Nat):Int)).toNat=n by rw[ed,hAt.1]; omega];refine Kt (n:=n) (λk σ H2=>AR H H2/\∃(c:Addr) (top:List (List Int)) (Z:List (List Int×AW)) (p:Int) (v:Ap) (u1 u2:Option V),σ=[some (.ref c),some (.int (((bs.map V.ref).length:Nat):Int)),some (.int p),u1,u2]/\Ed Bv H2 c (top++Z.map (·.1))/\Bi B0 n m k (R.map vr) top Z p v)
  ⟨AR.refl _,a,[],R.map λr=>(r,vr r),1,Af,none,none,rfl,by simp[Function.comp_def]; exact hA,Bi.dZ hb1 (λr hr j=>Hd (Qh (hbd r hr) j)) hn hnm hcol⟩ ?_ ?_
 ·rintro k σ H2 hk ⟨sm,c,top,Z,p,v,u1,u2,rfl,hL,B⟩;have lT:=B.FR;have lZ:=B.Ef;have lall:(top++Z.map (·.1)).length=n:=by simp; omega
  have zk:(0:Int)+(k:Nat)=((k:Nat):Int):=by omega
  refine⟨_,rfl,_,rfl,c,top++Z.map (·.1),k,m,by rw[zk]; rfl,hL,by omega,by omega,?_,by omega,by omega,?_,?_⟩
  ·intro r hr;rcases fm.mp hr with h1 | h1
   ·exact B.Hx r h1
   ·obtain⟨z,hz,rfl⟩:=fi.mp h1;exact B.DP z hz
  ·
   intro h0;refine⟨_,rfl,rfl,_,rfl,?_⟩;refine DH rfl ?_;refine qn H2 sm (B.none hk λz hz=>?_);obtain⟨j,hj,e⟩:=fP hz;have hh:=h0 (k+j) (by omega) (by omega)
   have:(top++Z.map (·.1)).getD (k+j) []=z.1:=by
    rw[eO,fu (by omega),show k+j-top.length=j by omega,fg,eh hj,e]; rfl
   rw[this] at hh;exact hh
  ·intro i c2 H3 h1 h2 h3 s3 nc2 hL3;obtain⟨z,Z',B2,eR,hz⟩:=B.dY h1 (by omega) h3;rw[eR] at hL3;refine⟨_,rfl,rfl,_,rfl,?_⟩;refine DL (λz=>by cases z) ?_;obtain⟨cs,hc2,hAt2⟩:=id hL3;have lZ2:=B2.Ef;simp at lZ2;have lcs:cs.length=n:=by rw[hAt2.1]; simp; omega
   have ek:(top++z.1 :: Z'.map (·.1))[k]?=some z.1:=by rw[fu (by omega),lT]; simp
   obtain⟨b,hb,hB⟩:=hAt2.get ek;refine⟨_,rfl,_,rfl,c2,_,_,_,rfl,rfl,AM.of hc2,by rw[zk]; exact BF (Be hb),?_⟩;have k1:((0:Int)+(k:Nat))+1=((k+1:Nat):Int):=by omega
   refine⟨_,rfl,_,rfl,_,_,rfl,rfl,_,rfl,c2,_,rfl,AM.of hc2,λp1 hp1=>?_⟩
   (try dsimp only)
   rw[k1,Mu _ (by rw[ed]; omega)];have s4:AR H3 (AF H3 p1 (.AB ((cs.map V.ref).take (k+1)))):=AY hp1 _;have hp14:(AF H3 p1 (.AB ((cs.map V.ref).take (k+1)))) p1=some (.AB ((cs.map V.ref).take (k+1))):=AS;generalize AF H3 p1 (.AB ((cs.map V.ref).take (k+1)))=H4 at s4 hp14;refine⟨_,rfl,_,rfl,_,_,rfl,rfl,_,rfl,c2,_,rfl,AM.of (s4 _ _ hc2),λp2 hp2=>?_⟩
   (try dsimp only)
   rw[k1,HN _ (by rw[ed]; omega)];have s5:AR H4 (AF H4 p2 (.AB ((cs.map V.ref).drop (k+1)))):=AY hp2 _;have hp25:(AF H4 p2 (.AB ((cs.map V.ref).drop (k+1)))) p2=some (.AB ((cs.drop (k+1)).map V.ref)):=by rw[AS,List.map_drop]
   generalize AF H4 p2 (.AB ((cs.map V.ref).drop (k+1)))=H5 at s5 hp25;refine⟨p2,rfl,⟨_,AM.of hp25⟩,λacc hacc=>?_⟩;have s35:AR H3 H5:=s4.trans s5;have hAd:At Bv H5 (cs.drop (k+1)) (Z'.map (·.1)):=by
    have:=(hAt2.drop (k+1)).keep EA s35
    have e:(top++z.1 :: Z'.map (·.1)).drop (k+1)=Z'.map (·.1):=by
     rw[List.drop_append,List.drop_of_length_le (by omega),show k+1-top.length=1 by omega]; rfl
    rw[e] at this;exact this
   have hzm:z∈z :: Z':=by simp
   refine CN (Fl hp25) (by rw[ed,gN]; omega) hacc
    (λi ys σ hp=>∃ds:List Addr,ys=ds.map V.ref/\At Bv hp ds ((Z'.map λy=>CZ y.1 z.1 k p).take i)/\∃u,σ=[u,some (.ref b),some (.int ((0:Int)+(k:Nat))),some (.int p)]) ⟨[],rfl,At.nil,none,rfl⟩ ?_ ?_
   ·rintro i ys σ H6 x H7 hi sm6 hacc6 ⟨ds,rfl,hD,u,rfl⟩ ⟨rfl,hx⟩ C hC;obtain⟨e,r,rfl,he,hr',hE⟩:=hAd.ref hx;rw[fg] at hr';cases q:Z'[i]? with
    | none=>rw[q] at hr'; cases hr'
    | some y =>
     rw[q] at hr';obtain rfl:y.1=r:=fC hr';have ym:y∈z :: Z':=gJ _ (eQ q);refine⟨_,rfl,_,rfl,_,rfl,_,rfl,e,b,y.1,z.1,k,m,p,by rw[zk]; rfl,sm6 _ _ hE,sm6 _ _ (s35 _ _ hB),B2.DP y ym,B2.DP z hzm,by omega,by omega,B.pz,Tx B hbig,Rv B2 hbig ym,Rv B2 hbig hzm,?_⟩;intro r2 H8 s8 nr2 hr2;refine hC _ _ _ s8 ⟨ds++[r2],by simp,?_,_,rfl⟩;have ne:r2≠acc:=λz=>by rw[z,hacc6] at nr2; cases nr2
     have e3:(Z'.map λy=>CZ y.1 z.1 k p)[i]?=some (CZ y.1 z.1 k p):=by rw[fg,q]; rfl
     rw[Cm e3];exact(hD.keep EA (EX acc s8)).snoc (Gf hr2 ne)
   ·rintro ys σ H6 sm6 hacc6 hl6 ⟨ds,rfl,hD,u,rfl⟩;rw[ed,gN,fH (by simp; omega)] at hD;have hp16:=sm6 _ _ (s5 _ _ hp14);have hlen:(cs.map V.ref).length=n:=by rw[ed]; exact lcs
    have hdl:ds.length=Z'.length:=by rw[hD.1]; simp
    refine⟨p1,acc,_,_,rfl,rfl,hp16,hacc6,by rw[g9,ed,ed]; exact D5 (by omega),λc3 hc3=>?_⟩;have s7:AR H6 (AF H6 c3 (.AB ((cs.map V.ref).take (k+1)++ds.map V.ref))):=AY hc3 _;have s37:=(s35.trans sm6).trans s7;have b1:z.1.length=m:=B2.DP z hzm;refine⟨_,rfl,_,rfl,b,_,_,_,rfl,rfl,AM.of (s37 _ _ hB),by rw[zk]; exact HU (by omega),?_⟩;have B3:=B2.step hz;refine⟨sm.trans (s3.trans s37),c3,top++[z.1],_,z.1.getD k 0,_,_,_,rfl,⟨cs.take (k+1)++ds,?_,?_⟩,B3⟩
    ·rw[AS,fv,List.map_take]
    ·have t1:=(hAt2.take (k+1)).keep EA s37;have e:(top++z.1 :: Z'.map (·.1)).take (k+1)=top++[z.1]:=by
      rw[List.take_append,fH (by omega),show k+1-top.length=1 by omega]; rfl
     rw[e] at t1;have t2:=(hD.keep EA (Dw H6 acc)).keep EA s7;have e2:List.map (·.1) (Z'.map λy=>(CZ y.1 z.1 k p,y.2))=Z'.map λy=>CZ y.1 z.1 k p:=by simp[Function.comp_def]
     rw[e2];exact t1.Pc t2
 ·rintro σ H2 ⟨sm,c,top,Z,p,v,u1,u2,rfl,hL,B⟩;obtain⟨rfl,_⟩:=B.fin;rw[gY,iF] at hL;exact⟨_,rfl,qs c H2 top sm hL ⟨[],p,v,B⟩⟩
variable {f1 f2 f3 f4:Addr} {d1 d2 d3 d4:FuncData}
structure TK(n m d E D:Nat)(T:List (List Rat)):Prop where
 len:T.length=n
 E1:∀r∈T,r.length=m
 nm:n<=m
 m15:m<=15
 den:∀r∈T,∀q∈r,q.den<=2 ^ d
 num:∀r∈T,∀q∈r,BN q.num
 dS:∀r∈T,(cb r).natAbs<=2 ^ D
 dW:∀r∈T,∀q∈r,(wh (cb r) q).natAbs<=2 ^ E
 bd:(4+E)*n<7990/\D<7990/\d*m+d<7990
theorem TK.hcb{n m d E D:Nat}{T:List (List Rat)}(h:TK n m d E D T){r:List Rat}(hr:r∈T):0<cb r/\(∀q∈r,(q.den:Int) ∣ cb r)/\(cb r).natAbs<=2 ^ D :=
 ⟨(N7 r).1,(N7 r).2,h.dS r hr⟩
def Dd(T:List (List Rat)):List (List Int):=T.map λr=>r.map (wh (cb r))
theorem TK.PL{n m d E D:Nat}{T:List (List Rat)}(h:TK n m d E D T):∀r∈Dd T,r.length=m/\∀x∈r,x.natAbs<=2 ^ E:=by
 intro r hr;obtain⟨s,hs,rfl⟩:=fi.mp hr;refine⟨by rw[ed]; exact h.E1 s hs,λx hx=>?_⟩;obtain⟨q,hq,rfl⟩:=fi.mp hx;exact h.dW s hs q hq
theorem TK.Fb{n m d E D:Nat}{T:List (List Rat)}(h:TK n m d E D T):(m*2 ^ E) ^ n<2 ^ 8000:=by
 have h1:m*2 ^ E<=2 ^ (4+E):=by
  rw[Nat.pow_add 2 4];exact Nat.mul_le_mul_right _ (by have:=h.m15; omega)
 have h2:=Nat.pow_le_pow_left h1 n;rw[<-Nat.pow_mul] at h2;exact iE h2 (Nat.pow_lt_pow_right (by decide) (by have:=h.bd; omega))
theorem TK.wb{n m d E D:Nat}{T:List (List Rat)}(h:TK n m d E D T){r:List Rat}(hr:r∈T):∀q∈r,BN q.num/\BN (q.den:Int)/\BN ((cb r).fdiv q.den):=by
 intro q hq;obtain⟨c1,c2,c3⟩:=h.hcb hr
 have:=h.bd
 refine⟨h.num r hr q hq,GG (n:=d) (by simpa using h.den r hr q hq) (by omega),GG (n:=D) (fY ?_ c3) (by omega)⟩;rw[iC (c2 q hq)];exact Int.natAbs_ediv_le_natAbs _ _
theorem ck:(["row"]:List Str).Nodup:=by decide +kernel
theorem Yf{α:Type}{xs:List α}{v:α}(h:xs[xs.length-1]?=some v):B7 xs (-1)=some v:=by
 have hl:0<xs.length:=by have:=(eu.mp h).1; omega
 have e:Dp xs.length (-1)=some (xs.length-1):=by
  unfold Dp;rw[eZ (by decide),ff (by omega)];congr 1; omega
 unfold B7;rw[e]; exact h
theorem Dz:Mo (Az AO):=λs h=>FG (R:=AO) (λs h=>AZ s h) s h
variable {C2:Addr}
structure VE(B0 n:Nat)(T:List (List Int))(c:Int)(x:Nat->Rat)(u:Nat->Int):Prop where
 n0:0<n
 len:T.length=n
 E1:∀r∈T,r.length=n+1
 c0:c≠0
 Gq:(T.getD (n-1) []).getD (n-1) 0=c
 Eh:∀i,i<n->(T.getD i []).getD i 0≠0/\∀j,j<i->(T.getD i []).getD j 0=0
 dh:∀i,i<n->fx n x (vr (T.getD i []))=0
 whole:∀j,j<n->((u j:Int):Rat)=c*x j
 Fb:(∀r∈T,∀y∈r,BN y)/\(∀j,j<n->BN (u j))/\BN c
inductive SK(vs:List V)(H:Hp)(Q:VK):Prop
 | mk (a:Addr) (B0 n:Nat) (T:List (List Int)) (c:Int) (x:Nat->Rat) (u:Nat->Int) (h_0:vs=[.ref a]) (h_1:Ed Bv H a T) (h_2:n<=100) (h_3:VE B0 n T c x u) (h_4:∀p H',AR H H'->H p=none->Az AO H' p ((List.range n).map x)->Q (.ref p) H'):SK vs H Q
def N9:Sp:=λvs H Q _=>SK vs H Q
theorem Gs:A3 ["rows","size","whole","found","k","row","known"] ["rows"] (Ao sBack):=BC
theorem Ur:(["number","other"]:List Str).Nodup:=by decide +kernel
theorem cq:(["number","whole"]:List Str).Nodup:=by decide +kernel
def ET(u:Nat->Int)(n k:Nat):List Int:=(List.range (n-k)).map λi=>u (k+i)
theorem X4{u:Nat->Int}{n k:Nat}(h:k<n):ET u n k=u k :: ET u n (k+1):=by
 unfold ET;rw[show n-k=(n-(k+1))+1 by omega,iJ,fk,gG];congr 1;refine ip λi _=>?_
 show u (k+(i+1))=u (k+1+i);congr 1; omega
def EG(r:List Int)(u:Nat->Int)(n k:Nat):List Int:=(List.range (n-k)).map λi=>r.getD (k+i) 0*u (k+i)
theorem V3{r:List Int}{u:Nat->Int}{n k:Nat}(h:k<n):EG r u n k=(r.getD k 0*u k) :: EG r u n (k+1):=by
 unfold EG;rw[show n-k=(n-(k+1))+1 by omega,iJ,fk,gG];congr 1;refine ip λi _=>?_
 show r.getD (k+(i+1)) 0*u (k+(i+1))=r.getD (k+1+i) 0*u (k+1+i)
 have:k+(i+1)=k+1+i:=by omega
 rw[this]
theorem Xr{n : Nat}{r : List Int}{c : Int}{x : Nat → Rat}{u : Nat → Int}(hw : ∀j, j < n → ((u j : Int) : Rat) = c * x j)(hs : fx n x (vr r) = 0){k : Nat}(hk : k < n)(hd : r.getD k 0 ≠ 0)(hz : ∀j, j < k → r.getD j 0 = 0):
    (r.getD n 0 * c - (EG r u n (k + 1)).sum).fdiv (r.getD k 0) = u k := by
  have tail : ∀m, m <= n → (((EG r u n (n - m)).sum : Int) : Rat) = c * (Ak (λj => vr r j * x j) n - Ak (λj => vr r j * x j) (n - m)) := by
    intro m
    induction m with
    | zero => intro _; simp[EG]; grind
    | succ m ih =>
      intro hm;rw[V3 (show n - (m + 1) < n by omega), gf, Rat.intCast_add, gK, hw _ (by omega)];rw[show n - (m + 1) + 1 = n - m by omega, ih (by omega)];have e : Ak (λj => vr r j * x j) (n - m) = Ak (λj => vr r j * x j) (n - (m + 1)) + vr r (n - (m + 1)) * x (n - (m + 1)) := by
        rw[show n - m = n - (m + 1) + 1 by omega]; rfl
      rw[e];have : vr r (n - (m + 1)) = ((r.getD (n - (m + 1)) 0 : Int) : Rat) := rfl;rw[<- this]; grind
  have t := tail (n - (k + 1)) (by omega);rw[show n - (n - (k + 1)) = k + 1 by omega] at t;have low : Ak (λj => vr r j * x j) (k + 1) = vr r k * x k := by
    simp only[Ak];rw[Jj (λl hl => by rw[show vr r l = 0 by simp only[vr, hz l hl]; rfl]; grind)]; grind
  rw[low] at t;have hs' : Ak (λj => vr r j * x j) n = vr r n := by simp only[fx] at hs; grind
  rw[hs'] at t;have key : (((r.getD n 0 * c - (EG r u n (k + 1)).sum : Int)) : Rat) = ((r.getD k 0 * u k : Int) : Rat) := by
    rw[Rat.intCast_sub, gK, gK, t, hw k hk];have a1 : vr r n = ((r.getD n 0 : Int) : Rat) := rfl;have a2 : vr r k = ((r.getD k 0 : Int) : Rat) := rfl;rw[<- a1, <- a2]; grind
  have ki : r.getD n 0 * c - (EG r u n (k + 1)).sum = r.getD k 0 * u k := by exact_mod_cast key
  rw[ki, iC (Int.dvd_mul_right _ _), Int.mul_ediv_cancel_left _ hd]
theorem Mj{r:List Int}(h:∀y∈r,BN y){j:Nat}(hj:j<r.length):BN (r.getD j 0):=by
 rw[eO,eh hj]; exact h _ (iq hj)
theorem YH(xs:List V){i j:Nat}(h:i<=j)(hj:j<=xs.length):Cw xs (some (i:Int)) (some (j:Int))=(xs.drop i).take (j-i):=by
 unfold Cw;have e1:HT.Av xs.length 0 (some (i:Int))=i:=by simp[HT.Av]; rw[eZ (by omega)]; omega
 have e2:HT.Av xs.length xs.length (some (j:Int))=j:=by simp[HT.Av]; rw[eZ (by omega)]; omega
 rw[e1,e2]
theorem Yk (F:Ar K "found_back" "found_back" sBack f fd) (G:AU P w K mg base 2 "fraction" ["top","bottom"] (He C))
  (ml:mg "len" = none) (mr:mg "range" = none) (mz:mg "zip" = none) (msu:mg "sum" = none) (mt:mg "tuple" = none):An P w K mg base Ay 3 f fd ["rows"] N9:=by
 refine F.BD Gs λcdv A outer s H vs Q E hr h=>?_
 obtain⟨a,B0,n,T,c,x,u,rfl,⟨bs,ha,hA⟩,hn,S,q⟩:=h;refine⟨_,AN (Aa (i:=1) Gs.nd rfl (Or.inl rfl) (A8 Jb (by rfl) ml BR (AA (pv 0) AE)))
  (AN (Aa (i:=2) Gs.nd rfl (Or.inr rfl) (A2 B5 (A2 B5 (pv 0) (Fv Fo AD) (λ_ _=>rfl)) (AK Cq (pv 1) AD) (λ_ _=>rfl)))
  (AN (Aa (i:=3) Gs.nd rfl (Or.inl rfl) (CB AE))
  (AN (Bu fT rfl (WN (by rfl) mr (AA (AK Cq (pv 1) AD) (AA (Fv Fo AD) (AA (Fv Fo AD) AE)))) (Ah (i:=4) Gs.nd rfl (Or.inl rfl))
   (AN (Aa (i:=5) Gs.nd rfl (Or.inl rfl) (A2 B5 (pv 0) (pv 4) (λ_ _=>rfl)))
   (AN (Aa (i:=6) Gs.nd rfl (Or.inl rfl) (A8 (W6 rfl) (by rfl) msu aM (AA (C3 (Nc:=["number","other"]) (cap:=[]) (g:=IC K 2 (Fu (BQ 0) (Fu (BQ 1) KR))) (te:=By (rI KA λi j=>.int (i*j)) (Ax 0) (Ax 1)) rfl
     (Mw (t1:=false) (t2:=false) (by rfl) mz (AA (EW K9 (pv 5) (Dv (AK BH (pv 4) AD)) (Dv (pv 1))) (AA (pv 3) AE)))
     (CJ rfl rfl (by decide +kernel) (by decide +kernel) (fh _) rfl (fh _)) (λ_ _ _ _ _=>Ga rfl (BE (Ah (i:=0) Ur rfl (Or.inl rfl)) (BE (Ah (i:=1) Ur rfl (Or.inl rfl)) CO)))
     (λ_ _ _ _ _=>AK CA (pv 0) (pv 1))) AE)))
   (AV (Aa (i:=3) Gs.nd rfl (Or.inl rfl) (AK HZ (CB (AA (AK GQ (AK Cq (AK CA (A2 B5 (pv 5) (pv 1) (λ_ _=>rfl)) (pv 2)) (pv 6)) (A2 B5 (pv 5) (pv 4) (λ_ _=>rfl))) AE)) (pv 3)))))))
  (AV (Am (Cn E8 (by rfl) mt Cb (AA (C3 (Nc:=["number","whole"]) (cap:=[(1,2)]) (g:=BQ 0) (te:=D1 (He C) [] E0 (BJ (Ax 0) (BJ (Ax 1) CF))) rfl (Ip (pv 3))
   (CJ rfl rfl (by decide +kernel) (by decide +kernel) (ft.mpr ⟨⟨rfl,rfl⟩,fh _⟩) rfl (ft.mpr ⟨⟨_,_,rfl,rfl,rfl,rfl,rfl⟩,fh _⟩))
   (λ_ _ _ _ _=>Ah (i:=0) cq rfl (Or.inl rfl)) (λ_ _ _ _ _=>Ae G hr (AA (pv 0) (AA (pv 1) AE)))) AE))))))),?_⟩
 have n0:=S.n0;have lT:=S.len;have lb:bs.length=n:=by rw[hA.1]; exact lT
 have gT:∀i,i<n->∃b,bs[i]?=some b/\Bv H b (T.getD i [])/\(T.getD i []).length=n+1/\(∀y∈T.getD i [],BN y):=by
  intro i hi;have e:T[i]?=some (T[i]'(by omega)):=eh _;obtain⟨b,h1,h2⟩:=hA.get e;have hm:T[i]'(by omega)∈T:=iq _;rw[getD_some e];exact⟨b,h1,h2,S.E1 _ hm,S.Fb.1 _ hm⟩
 obtain⟨bz,hbz,hBz,lz,_⟩:=gT (n-1) (by omega);refine⟨_,rfl,a,_,rfl,.inl (AM.of ha),?_⟩;rw[ed,lb];have nm1:((n:Nat):Int)-1=((n-1:Nat):Int):=by omega
 refine⟨_,rfl,_,rfl,a,_,_,_,rfl,rfl,AM.of ha,Yf (by rw[ed,lb]; exact Be hbz),_,rfl,_,_,rfl,rfl,bz,_,_,_,rfl,rfl,AM.of hBz,by rw[nm1]; exact HU (by omega),?_⟩;rw[S.Gq];refine⟨by exact FZ,λl0 hl0=>?_⟩;have s0:=AY hl0 (.AB [])
 try dsimp only
 try refine Co ?_
 first | refine DA λUL1 hUL1=>?_ | refine nx_hide λUL1 hUL1=>?_
 refine⟨_,rfl,_,_,rfl,rfl,_,rfl,_,rfl,n,rfl,by omega,?_⟩;refine XH (n:=n) (lo:=((n:Nat):Int)-1) (step:=-1) (λi σ H2=>AR H H2/\∃l u4 u5 u6,σ=[some (.ref a),some (.int ((n:Nat):Int)),some (.int c),some (.ref l),u4,u5,u6]/\H l=none/\Bv H2 l (ET u n (n-i)))
  ⟨s0,l0,none,none,none,rfl,hl0,by unfold Bv ET; rw[AS]; simp⟩ ?_ ?_
 ·rintro i σ H2 hi ⟨sm,l,u4,u5,u6,rfl,nl,hl⟩;have hk:n-1-i<n:=by omega
  obtain⟨k,hkd⟩:∃k,k=n-1-i:=⟨_,rfl⟩;have ek:((n:Nat):Int)-1+(i:Nat)*(-1)=((k:Nat):Int):=by omega
  obtain⟨b,hb,hB,lr,br⟩:=gT k (by omega);generalize hrow:T.getD k []=row at hB lr br;rw[ek];have ha2:=sm _ _ ha;have hB2:=sm _ _ hB;refine⟨_,rfl,_,rfl,a,_,_,_,rfl,rfl,AM.of ha2,BF (Be hb),?_⟩;have k1:((k:Nat):Int)+1=((k+1:Nat):Int):=by omega
  refine⟨_,rfl,_,rfl,_,_,rfl,rfl,_,rfl,_,rfl,_,rfl,b,_,rfl,AM.of hB2,λp1 hp1=>?_⟩
  (try dsimp only)
  rw[k1,YH _ (by omega) (by rw[ed]; omega)];have s3:=AY hp1 (.AB (((row.map V.int).drop (k+1)).take (n-(k+1))));have e1:(AF H2 p1 (.AB (((row.map V.int).drop (k+1)).take (n-(k+1))))) p1=some (.AB (((row.drop (k+1)).take (n-(k+1))).map V.int)):=by rw[AS,List.map_take,List.map_drop]
  generalize AF H2 p1 (.AB (((row.map V.int).drop (k+1)).take (n-(k+1))))=H3 at s3 e1;have ni:n-i=k+1:=by omega
  rw[ni] at hl;have hl3:=s3 _ _ hl;refine⟨_,rfl,p1,l,rfl,⟨_,Bz.l e1⟩,⟨_,Bz.l hl3⟩,λacc hacc=>?_⟩;have lf:(ET u n (k+1)).length=n-(k+1):=by unfold ET; simp
  refine CN (Mx (xs:=((row.drop (k+1)).take (n-(k+1))).map V.int) (ys:=(ET u n (k+1)).map V.int) (λH4 s=>Bz.l (s _ _ e1)) (λH4 s=>Bz.l (s _ _ hl3)) (by simp[lf]; omega)) (by simp; omega) hacc
   (λj ys σ _=>ys=((EG row u n (k+1)).take j).map V.int/\∃v1 v2,σ=[v1,v2]) ⟨rfl,none,none,rfl⟩ ?_ ?_
  ·rintro j ys σ H4 z H5 hj s4 hacc4 ⟨hys,v1,v2,rfl⟩ ⟨t,n1,n2,rfl,ht,rfl,hn1,hn2⟩ Cc hC;have hj2:j<n-(k+1):=by simp at hj; omega
   have g1:n1=.int (row.getD (k+1+j) 0):=by
    rw[fg,List.getElem?_take,ff hj2,je,eh (by omega)] at hn1;rw[eO,eh (by omega)];exact(fC hn1).symm
   have g2:n2=.int (u (k+1+j)):=by
    unfold ET at hn2;rw[fg,fg,gA hj2] at hn2;exact(fC hn2).symm
   subst g1 g2;have s5:=AY ht (.AG [.int (row.getD (k+1+j) 0),.int (u (k+1+j))]);refine⟨t,_,rfl,AJ.of AS,rfl,_,_,rfl,_,_,rfl,rfl,?_⟩;refine⟨_,rfl,_,rfl,_,_,rfl,rfl,⟨Mj br (by omega),S.Fb.2.1 _ (by omega)⟩,?_⟩;refine hC _ _ _ s5 ⟨?_,_,_,rfl⟩;have e:(EG row u n (k+1))[j]?=some (row.getD (k+1+j) 0*u (k+1+j)):=by unfold EG; rw[fg,gA hj2]; rfl
   rw[hys,Cm e,fv]; rfl
  ·rintro ys σ H4 s4 hacc4 hl4 ⟨hys,_⟩;have lp:(EG row u n (k+1)).length=n-(k+1):=by unfold EG; simp
   rw[fH (by simp; omega)] at hys;rw[hys] at hacc4;refine⟨acc,_,rfl,hacc4,?_⟩;have s24:=s3.trans s4;have bn:=Xr (r:=row) S.whole (by rw[<-hrow]; exact S.dh k (by omega)) (k:=k) (by omega) (by rw[<-hrow]; exact(S.Eh k (by omega)).1) (by rw[<-hrow]; exact(S.Eh k (by omega)).2);refine⟨_,rfl,_,rfl,b,_,_,_,rfl,rfl,AM.of (s24 _ _ hB2),HU (by omega),_,rfl,_,_,rfl,rfl,⟨Mj br (by omega),S.Fb.2.2⟩,_,rfl,_,_,rfl,rfl,_,rfl,_,rfl,b,_,_,_,rfl,rfl,AM.of (s24 _ _ hB2),HU (by omega),_,_,rfl,rfl,
    ⟨by rw[<-hrow]; exact(S.Eh k (by omega)).1,Mj br (by omega)⟩,by exact EO,λp2 hp2=>?_⟩
   (try dsimp only)
   rw[bn];have s5:=AY hp2 (.AB [.int (u k)]);refine⟨_,rfl,p2,l,_,_,rfl,rfl,AS,s5 _ _ (s4 _ _ hl3),by simp[lf]; exact D5 (by omega),λp3 hp3=>?_⟩;have s6:=AY hp3 (.AB ([V.int (u k)]++(ET u n (k+1)).map V.int));have sall:=sm.trans (s24.trans (s5.trans s6));refine⟨sall,p3,_,_,_,rfl,(sm.trans (s24.trans s5)).free hp3,?_⟩;unfold Bv;rw[AS,show n-(i+1)=k by omega,X4 (show k<n by omega)]; rfl
 ·rintro σ H2 ⟨sm,l,u4,u5,u6,rfl,nl,hl⟩;subst hUL1;rw[jq] at hl;refine⟨_,rfl,l,rfl,⟨_,AM.of hl⟩,λacc hacc=>?_⟩;have lf:(ET u n 0).length=n:=by unfold ET; simp
  refine CN (Fl hl) (by rw[ed,lf]; omega) hacc (λj ys σ hp=>∃ds:List Addr,ys=ds.map V.ref/\At AO hp ds (((List.range n).map x).take j)/\∃v,σ=[v,some (.int c)]) ⟨[],rfl,At.nil,none,rfl⟩ ?_ ?_
  ·rintro j ys σ H4 z H5 hj s4 hacc4 ⟨ds,rfl,hD,v,rfl⟩ ⟨rfl,hx⟩ Cc hC;have hj2:j<n:=by rw[ed,lf] at hj; exact hj
   have g1:z=.int (u j):=by
    unfold ET at hx;rw[fg,fg,gA (by omega)] at hx
    have:=(fC hx).symm
    rw[this]; simp
   subst g1;refine⟨_,rfl,_,rfl,u j,c,rfl,S.Fb.2.2,λz=>absurd z S.c0,λ_ p hp=>?_⟩;have ef:BK (u j) c=fr (x j):=by
    rw[Fj _ _ S.c0];have h1:=S.whole j hj2;have h2:((c:Int):Rat)≠0:=by have:=S.c0; exact_mod_cast this
    have:((u j:Int):Rat) / ((c:Int):Rat)=x j:=by rw[h1]; grind
    rw[this]; rfl
   rw[ef];have s5:=AY hp (.AG [.int (fr (x j)).1,.int (fr (x j)).2]);refine hC _ _ _ s5 ⟨ds++[p],by simp,?_,_,rfl⟩;have e:((List.range n).map x)[j]?=some (x j):=by rw[fg,gA hj2]; rfl
   rw[Cm e];exact(hD.keep AZ (EX acc s5)).snoc (AO.Ba (q:=x j) AS (s5 _ _ hacc4))
  ·rintro ys σ H4 s4 hacc4 hl4 ⟨ds,rfl,hD,v,rfl⟩;rw[ed,lf,fH (by simp)] at hD;refine⟨acc,_,rfl,.inl ⟨AM.of hacc4,λp hp=>?_⟩⟩;have s5:=AY hp (.AG (ds.map V.ref));exact q p _ ((sm.trans s4).trans s5) ((sm.trans s4).free hp) ⟨ds,AS,(hD.keep AZ (Dw H4 acc)).keep AZ s5⟩
theorem dc{H:Hp}{a b:Addr}{r:List Rat}{ys:List V}(h:Az AO H b r)(e:H a=some (.AB ys)):Az AO (Ba H a) b r:=by
 obtain⟨cs,h1,h2⟩:=h;exact⟨cs,Gf h1 (λz=>by rw[z,e] at h1; cases h1),LZ e h2⟩
def CD(T:List (List Rat))(r:List Rat):List (List Rat):=List.zipWith (λrow q=>row++[q]) T r
theorem aC{B0 n d E' D : Nat}{J : List (List Rat)}(ok : TK n (n+1) d E' D J)(n0 : 0 < n){T2 : List (List Int)}{Z : List (List Int × AW)}{c : Int}{v : Ap}(hb : ((n+1) * B0) ^ n < 2 ^ 8000)(B : Bi B0 n (n+1) n ((Dd J).map vr) T2 Z c v):
    ∃x u, VE B0 n T2 c x u /\ (∀r ∈ J, fx n x (vq r) = 0) /\ dt n (n+1) J ≠ 0 := by
  obtain⟨rfl, eD⟩ := B.fin;have lT := B.FR;have rowm : ∀i, i < n → T2.getD i [] ∈ T2 := λi hi => by
    rw[eO, eh (by omega)]; exact iq _
  obtain⟨x, hx⟩ := Y4 (n := n) (λi => vr (T2.getD i [])) (λi hi => by
      have := (B.Eh i hi).1;show((((T2.getD i []).getD i 0 : Int)) : Rat) ≠ 0
      exact_mod_cast this) (λi j hi hj => by
      show((((T2.getD i []).getD j 0 : Int)) : Rat) = 0;rw[(B.Eh i hi).2 j hj]; rfl) n (eU _)
  have hx0 : ∀i, i < n → fx n x (vr (T2.getD i [])) = 0 := λi hi => hx i (by omega) hi
  have hA : ∀a ∈ (Dd J).map vr, fx n x a = 0 := B.JP (fx n x) (Tf n x) (λr hr => by
    obtain⟨i, hi, er⟩ := fP hr;have := hx0 i (by omega);rw[eO, eh hi] at this;simp only[Option.getD_some] at this;rw[er] at this; exact this) (by simp)
  have pz : ((c : Int) : Rat) ≠ 0 := by have := B.pz; exact_mod_cast this
  have wv : v = Ac ((Dd J).map vr) Af := B.all;have ex : ∀j : Nat, ∃k : Int, j < n → ((k : Int) : Rat) = c * x j /\ BN k := by
    intro j;by_cases hj : j < n
    · obtain⟨l1, l2, l3⟩ := Th hA hj;rw[eD, <- wv] at l3;obtain⟨k, hk⟩ := B.Gv (JW n j);have bw := B.HE (JW n j);rw[l1, hk] at bw;have hbk : k.natAbs <= ((n+1) * B0) ^ n := FI bw;rcases l2 with h1 | h1
      · refine⟨k, λ_ => ⟨?_, iE hbk hb⟩⟩;rw[<- hk]; rw[h1] at l3; grind
      · refine⟨-k, λ_ => ⟨?_, by unfold BN; rw[Int.natAbs_neg]; exact iE hbk hb⟩⟩;rw[Rat.intCast_neg, <- hk]; rw[h1] at l3; grind
    · exact⟨0, λh => absurd h hj⟩
  obtain⟨u, hu⟩ := Classical.axiomOfChoice ex;have bigT : ∀r ∈ T2, ∀y ∈ r, BN y := λr hr y hy => by
    obtain⟨j, rfl⟩ := Wd.mem_getD hy;exact iE (FI (B.IG r hr j)) hb
  refine⟨x, u, ⟨n0, lT, B.Hx, B.pz, B.Gq n0, B.Eh, hx0, λj hj => (hu j hj).1, bigT, λj hj => (hu j hj).2, Tx B hb⟩, ?_, ?_⟩
  · intro r hr;obtain⟨c1, c2, _⟩ := ok.hcb hr;have h1 := hA (vr (r.map (wh (cb r)))) (List.mem_map_of_mem (fi.mpr ⟨r, hr, rfl⟩));rw[OP c2] at h1;exact(Q9 (by exact_mod_cast(show cb r ≠ 0 by omega))).mp h1
  · intro z;have sc := MO (n := n) (m := n+1) J cb (λr hr => (ok.hcb hr).2.1);rw[z] at sc;have e2 : ld n (n+1) (Ac ((Dd J).map vr) Af) = c := eD;have : ((c : Int) : Rat) = 0 := by rw[<- e2]; unfold Dd; rw[sc]; grind
    exact pz this
inductive QU(C2:Addr)(vs:List V)(H:Hp)(Q:VK)(E:XK):Prop
 | mk (a b:Addr) (T:List (List Rat)) (r:List Rat) (n d E' D:Nat) (h_0:vs=[.ref a,.ref b]) (h_1:Az (Az AO) H a T) (h_2:Az AO H b r) (h_3:T.length=n) (h_4:r.length=n) (h_5:(∀x∈T,x.length=n)) (h_6:TK n (n+1) d E' D (CD T r)) (h_7:(dt n (n+1) (CD T r)=0->∀H',AR H H'->False)) (h_8:(dt n (n+1) (CD T r)≠0->∀p H' x,AR H H'->(∀y∈CD T r,fx n x (vq y)=0)->Az AO H' p ((List.range n).map x)->Q (.ref p) H')):QU C2 vs H Q E
def Ma(C2:Addr):Sp:=λvs H Q E=>QU C2 vs H Q E
theorem Om:A3 ["table","right","joined","rows"] ["table","right"] (Ao sAnswer):=BC
theorem UN:(["row","number"]:List Str).Nodup:=by decide +kernel
theorem Wb (F:Ar K "answer" "answer" sAnswer f fd) (G1:AU P w K mg base 2 "common_bottom" ["row"] L6)
  (G2:AU P w K mg base 1 "wholes" ["row","bottom"] Kx)
  (G3:AU P w K mg base 2 "swept" ["rows"] NF)
  (G4:AU P w K mg base 3 "found_back" ["rows"] N9)
  (ml:mg "len" = none) (mz:mg "zip" = none):An P w K mg base Ay 4 f fd ["table","right"] (Ma C2):=by
 refine F.BD Om λcdv A outer s H vs Q E hr h=>?_
 obtain⟨a,b,T,r,n,d,E',D,rfl,⟨bs,ha,hA⟩,⟨cs,hb,hB⟩,lT,lr,cT,ok,q0,q1⟩:=h;have hr2:=hr.mono (show 2<=3 by decide);have hr1:=hr.mono (show 1<=3 by decide);refine⟨_,AN (BZ (BX EF (A8 Jb (by rfl) ml BR (AA (pv 0) AE)) AD (BM _)) (AV (Am (BP AE))) Bp)
  (AN (IQ (i:=2) Om.nd rfl (Or.inl rfl) (Nc:=["row","number"]) (cap:=[]) (g:=IC K 2 (Fu (BQ 0) (Fu (BQ 1) KR))) (te:=By (T4 K) (Ax 0) (JK (BJ (Ax 1) CF))) rfl (Mw (t1:=true) (t2:=true) (by rfl) mz (AA (pv 0) (AA (pv 1) AE)))
   (CJ rfl rfl (by decide +kernel) (by decide +kernel) (fh _) rfl (fh _)) (λ_ _ _ _ _=>Ga rfl (BE (Ah (i:=0) UN rfl (Or.inl rfl)) (BE (Ah (i:=1) UN rfl (Or.inl rfl)) CO)))
   (λ_ _ _ _ _=>AK Rn (pv 0) (BP (AA (pv 1) AE))))
  (AN (Aa (i:=3) Om.nd rfl (Or.inl rfl) (Ae G3 hr2 (AA (C3 (Nc:=["row"]) (cap:=[]) (g:=BQ 0) (te:=D1 Kx [] E0 (BJ (Ax 0) (BJ (D1 L6 [] E0 (BJ (Ax 0) CF)) CF))) rfl (Ip (pv 2))
   (CJ rfl rfl (by decide +kernel) (by decide +kernel) (fh _) rfl (fh _)) (λ_ _ _ _ _=>Ah (i:=0) ck rfl (Or.inl rfl))
   (λ_ _ _ _ _=>Ae G2 hr1 (AA (pv 0) (AA (Ae G1 hr2 (AA (pv 0) AE)) AE)))) AE)))
  (AN (BZ (BX TJ (pv 3) J5 (BM _)) (AV Me) Bp)
  (AV (Am (Ae G4 hr (AA (pv 3) AE))))))),?_⟩
 have lb:bs.length=n:=by rw[hA.1]; exact lT
 have lc:cs.length=n:=by rw[hB.1]; exact lr
 have n15:=ok.m15;refine⟨_,rfl,a,_,rfl,.inr (AJ.of ha),rfl,_,rfl,?_⟩;by_cases hn0:n=0
 ·subst hn0;refine DH (iv (by rw[ed,lb]; rfl)) ?_;have e1:T=[]:=List.length_eq_zero_iff.mp lT;subst e1;refine⟨by exact FZ,λp hp=>q1 ?_ p _ (λ_=>0) (AY hp _) (by simp[CD]) ⟨[],AS,At.nil⟩⟩
  have:dt 0 1 (CD [] r)=1:=by unfold dt CD; exact OA 1
  rw[this]; grind
 refine DL (E6 (by rw[ed,lb]; omega)) ?_;have lJ:(CD T r).length=n:=ok.len;have jg:∀i row q,T[i]?=some row->r[i]?=some q->(CD T r)[i]?=some (row++[q]):=λi row q h1 h2=>by
  unfold CD;rw[List.getElem?_zipWith,h1,h2]
 refine⟨_,rfl,_,rfl,a,b,rfl,⟨_,Bz.t ha⟩,⟨_,Bz.t hb⟩,λacc hacc=>?_⟩;refine CN (Mx (xs:=bs.map V.ref) (ys:=cs.map V.ref) (λH3 s=>Bz.t (s _ _ ha)) (λH3 s=>Bz.t (s _ _ hb)) (by rw[ed,ed]; omega)) (by rw[ed]; omega) hacc
  (λi ys σ hp=>∃ds:List Addr,ys=ds.map V.ref/\At (Az AO) hp ds ((CD T r).take i)/\∃u v,σ=[u,v]) ⟨[],rfl,At.nil,none,none,rfl⟩ ?_ ?_
 ·rintro i ys σ H3 z H4 hi sm hacc3 ⟨ds,rfl,hD,u,v,rfl⟩ ⟨t,n1,n2,rfl,ht,rfl,hn1,hn2⟩ Cc hC;obtain⟨c1,row,rfl,_,hrow,es,hes,hEs⟩:=hA.ref hn1;obtain⟨c2,qq,rfl,_,hqq,hfq⟩:=hB.ref hn2;have s3:AR H3 (AF H3 t (.AG [.ref c1,.ref c2])):=AY ht _;have rl:row.length=n:=cT row (eQ hrow);have esl:es.length=n:=by rw[hEs.1]; exact rl
  refine⟨t,_,rfl,AJ.of AS,rfl,_,_,rfl,_,_,rfl,rfl,?_⟩;refine⟨_,rfl,_,rfl,by exact EO,λt1 ht1=>?_⟩;have s4:=AY ht1 (.AG [.ref c2]);have s34:=s3.trans s4;refine⟨c1,t1,es.map V.ref,[.ref c2],rfl,rfl,AJ.of (s34 _ _ (sm _ _ hes)),AJ.of AS,?_,by simp; exact D5 (by omega),λz=>by simp at z,λ_ p hp=>?_⟩
  ·intro z;have z2:=congrArg List.length z;simp only[ed,i8] at z2;omega
  have s5:=AY hp (.AG (es.map V.ref++[.ref c2]));have s35:=s34.trans s5;refine hC _ _ _ s35 ⟨ds++[p],by simp,?_,_,_,rfl⟩;rw[Cm (jg i row qq hrow hqq)];refine(hD.keep Dz (EX acc s35)).snoc (dc ⟨es++[c2],by rw[AS]; simp,?_⟩ (s35 _ _ hacc3));exact(hEs.keep AZ (sm.trans s35)).snoc ((sm.trans s35) _ _ hfq)
 rintro ys σ1 H2 s2 hacc2 hl2 ⟨ds,rfl,hD,u,v,rfl⟩;rw[ed,lb,fH (by omega)] at hD;have hD2:=hD.keep Dz (Dw H2 acc);have ld2:ds.length=n:=by rw[hD.1]; exact lJ
 refine⟨_,rfl,acc,rfl,⟨_,AM.of hacc2⟩,λac2 hac2=>?_⟩;refine CN (Fl hacc2) (by rw[ed]; omega) hac2 (λi ys σ hp=>∃gs:List Addr,ys=gs.map V.ref/\At Bv hp gs ((Dd (CD T r)).take i)/\∃u,σ=[u]) ⟨[],rfl,At.nil,none,rfl⟩ ?_ ?_
 ·rintro i ys σ H3 z H4 hi sm hac3 ⟨gs,rfl,hG,u,rfl⟩ ⟨rfl,hx⟩ Cc hC;obtain⟨c,row,rfl,_,hrow,hR⟩:=hD2.ref hx;have rm:row∈CD T r:=eQ hrow;have hR3:=Dz sm hR
  have:=ok.bd
  refine⟨_,rfl,_,rfl,c,row,d,rfl,hR3,λq hq=>ok.den row rm q hq,by rw[ok.E1 row rm]; omega,?_⟩;refine⟨c,row,cb row,rfl,hR3,by rw[ok.E1 row rm]; omega,ok.wb rm,λp H5 s5 np hp=>?_⟩;refine hC _ _ _ s5 ⟨gs++[p],by simp,?_,_,rfl⟩;have ne:p≠ac2:=λz=>by rw[z,hac3] at np; cases np
  have e3:(Dd (CD T r))[i]?=some (row.map (wh (cb row))):=by unfold Dd; rw[fg,hrow]; rfl
  rw[Cm e3];exact(hG.keep EA (EX ac2 s5)).snoc (Gf hp ne)
 rintro ys σ2 H3 s3 hac3 hl3 ⟨gs,rfl,hG,u,rfl⟩;have lw:(Dd (CD T r)).length=n:=by unfold Dd; rw[ed]; exact lJ
 rw[ed,ld2,fH (by omega)] at hG;refine⟨ac2,Dd (CD T r),n,n+1,2 ^ E',rfl,⟨gs,hac3,hG.keep EA (Dw H3 ac2)⟩,lw,by omega,by omega,λr hr=>(ok.PL r hr).1,Nat.one_le_two_pow,λr hr=>(ok.PL r hr).2,ok.Fb,?_,?_⟩
 ·intro H4 s4 h0;refine⟨_,rfl,rfl,_,rfl,DH rfl ?_⟩;refine q0 ?_ H4 (s2.trans (s3.trans s4));have sc:=MO (n:=n) (m:=n+1) (CD T r) cb (λr hr=>(ok.hcb hr).2.1);obtain⟨pp,pl⟩:=Qi ((CD T r).map cb) (d:=D) (λb hb=>by
   obtain⟨r,hr,rfl⟩:=fi.mp hb;exact⟨(ok.hcb hr).1,(ok.hcb hr).2.2⟩)
  have pq:((ED ((CD T r).map cb):Int):Rat)≠0:=by
   have:ED ((CD T r).map cb)≠0:=by omega
   exact_mod_cast this
  have h1:((ED ((CD T r).map cb):Int):Rat)*dt n (n+1) (CD T r)=0:=by rw[<-sc]; exact h0
  grind
 ·intro p H4 T2 s4 hL ⟨Z,c,v,B⟩;refine⟨_,rfl,rfl,_,rfl,DL (λz=>by cases z) ?_⟩;obtain⟨x,u,S,hx,hd⟩:=aC ok (by omega) ok.Fb B;exact⟨_,rfl,p,_,n,T2,c,x,u,rfl,hL,by omega,S,λp5 H5 s5 np5 hp5=>q1 hd p5 H5 x (s2.trans (s3.trans (s4.trans s5))) hx hp5⟩
abbrev L4(H:Hp)(Q:VK)(q:Rat):Prop:=∀p,H p=none->Q (.ref p) (AF H p (.AG [.int q.num,.int q.den]))
abbrev Sf(q:Rat):Prop:=Sb 3900 3900 q
theorem Sf.n{q:Rat}(h:Sf q):BN q.num:=GG h.1 (by decide)
theorem Sf.d{q:Rat}(h:Sf q):BN (q.den:Int):=GG (n:=3900) (by simpa using h.2) (by decide)
theorem Sf.dd{p q:Rat}(h:Sf p)(g:Sf q):BN ((p.den:Int)*(q.den:Int)):=by
 refine GG (n:=7800) ?_ (by decide);rw[gD,gj,gj];exact Ck h.2 g.2
inductive SV(op:Rat->Rat->Rat)(vs:List V)(H:Hp)(Q:VK):Prop
 | mk (p q:Addr) (x y:Rat) (h_0:vs=[.ref p,.ref q]) (h_1:AO H p x) (h_2:AO H q y) (h_3:Sf x) (h_4:Sf y) (h_5:L4 H Q (op x y)):SV op vs H Q
def Bm(op:Rat->Rat->Rat):Sp:=λvs H Q _=>SV op vs H Q
theorem ay:A3 ["one","other"] ["one","other"] (Ao sPlus):=BC
theorem YO(F:Ar K "plus" "plus" sPlus f fd)(G:AU P w K mg base 2 "fraction" ["top","bottom"] (He C)):
  An P w K mg base Ay 3 f fd ["one","other"] (Bm λx y=>x+y):=by
 refine F.BD ay λcdv A outer s H vs Q E hr h=>?_
 obtain⟨p,q,x,y,rfl,hp,hq,sx,sy,k⟩:=h;refine⟨_,AV (Am (Ae G hr (AA (AK BH (AK CA (A2 Bj (pv 0) AD (λ_ _=>rfl)) (A2 Bj (pv 1) AD (λ_ _=>rfl))) (AK CA (A2 Bj (pv 1) AD (λ_ _=>rfl)) (A2 Bj (pv 0) AD (λ_ _=>rfl)))) (AA (AK CA (A2 Bj (pv 0) AD (λ_ _=>rfl)) (A2 Bj (pv 1) AD (λ_ _=>rfl))) AE)))),?_⟩;refine⟨_,rfl,p,_,_,_,rfl,rfl,AJ.of hp,A9,_,rfl,q,_,_,_,rfl,rfl,AJ.of hq,As,_,_,rfl,rfl,⟨sx.n,sy.d⟩,_,rfl,q,_,_,_,rfl,rfl,AJ.of hq,A9,_,rfl,p,_,_,_,rfl,rfl,AJ.of hp,As,_,_,rfl,rfl,⟨sy.n,sx.d⟩,_,_,rfl,rfl,
  _,rfl,p,_,_,_,rfl,rfl,AJ.of hp,As,_,rfl,q,_,_,_,rfl,rfl,AJ.of hq,As,_,_,rfl,rfl,⟨sx.d,sy.d⟩,_,_,rfl,Sf.dd sx sy,λz=>absurd z (JS x y),λ_ t ht=>?_⟩
 have e:=OB x y;have q1:=k t ht;have e1:=congrArg Prod.fst e;have e2:=congrArg Prod.snd e;simp only[fr] at e1 e2;rw[e1,e2];exact q1
theorem bS:A3 ["one","other"] ["one","other"] (Ao sMinus):=BC
theorem X2(F:Ar K "minus" "minus" sMinus f fd)(G:AU P w K mg base 2 "fraction" ["top","bottom"] (He C)):
  An P w K mg base Ay 3 f fd ["one","other"] (Bm λx y=>x-y):=by
 refine F.BD bS λcdv A outer s H vs Q E hr h=>?_
 obtain⟨p,q,x,y,rfl,hp,hq,sx,sy,k⟩:=h;refine⟨_,AV (Am (Ae G hr (AA (AK Cq (AK CA (A2 Bj (pv 0) AD (λ_ _=>rfl)) (A2 Bj (pv 1) AD (λ_ _=>rfl))) (AK CA (A2 Bj (pv 1) AD (λ_ _=>rfl)) (A2 Bj (pv 0) AD (λ_ _=>rfl)))) (AA (AK CA (A2 Bj (pv 0) AD (λ_ _=>rfl)) (A2 Bj (pv 1) AD (λ_ _=>rfl))) AE)))),?_⟩;refine⟨_,rfl,p,_,_,_,rfl,rfl,AJ.of hp,A9,_,rfl,q,_,_,_,rfl,rfl,AJ.of hq,As,_,_,rfl,rfl,⟨sx.n,sy.d⟩,_,rfl,q,_,_,_,rfl,rfl,AJ.of hq,A9,_,rfl,p,_,_,_,rfl,rfl,AJ.of hp,As,_,_,rfl,rfl,⟨sy.n,sx.d⟩,_,_,rfl,rfl,
  _,rfl,p,_,_,_,rfl,rfl,AJ.of hp,As,_,rfl,q,_,_,_,rfl,rfl,AJ.of hq,As,_,_,rfl,rfl,⟨sx.d,sy.d⟩,_,_,rfl,Sf.dd sx sy,λz=>absurd z (JS x y),λ_ t ht=>?_⟩
 have e:=OJ x y;have q1:=k t ht;have e1:=congrArg Prod.fst e;have e2:=congrArg Prod.snd e;simp only[fr] at e1 e2;rw[e1,e2];exact q1
theorem a8:A3 ["one","other"] ["one","other"] (Ao sTimes):=BC
theorem XR(F:Ar K "times" "times" sTimes f fd)(G:AU P w K mg base 2 "fraction" ["top","bottom"] (He C)):
  An P w K mg base Ay 3 f fd ["one","other"] (Bm λx y=>x*y):=by
 refine F.BD a8 λcdv A outer s H vs Q E hr h=>?_
 obtain⟨p,q,x,y,rfl,hp,hq,sx,sy,k⟩:=h;refine⟨_,AV (Am (Ae G hr (AA (AK CA (A2 Bj (pv 0) AD (λ_ _=>rfl)) (A2 Bj (pv 1) AD (λ_ _=>rfl))) (AA (AK CA (A2 Bj (pv 0) AD (λ_ _=>rfl)) (A2 Bj (pv 1) AD (λ_ _=>rfl))) AE)))),?_⟩;refine⟨_,rfl,p,_,_,_,rfl,rfl,AJ.of hp,A9,_,rfl,q,_,_,_,rfl,rfl,AJ.of hq,A9,_,_,rfl,rfl,⟨sx.n,sy.n⟩,
  _,rfl,p,_,_,_,rfl,rfl,AJ.of hp,As,_,rfl,q,_,_,_,rfl,rfl,AJ.of hq,As,_,_,rfl,rfl,⟨sx.d,sy.d⟩,_,_,rfl,Sf.dd sx sy,λz=>absurd z (JS x y),λ_ t ht=>?_⟩
 have e:=OE x y;have q1:=k t ht;have e1:=congrArg Prod.fst e;have e2:=congrArg Prod.snd e;simp only[fr] at e1 e2;rw[e1,e2];exact q1
abbrev LF:Hp->Addr->List Rat->Prop:=Ed AO
theorem Lr:Mo LF:=λs h=>Ld (R:=AO) (λs h=>AZ s h) s h
theorem Sh{H:Hp}{a b:Addr}{r:List Rat}{ys:List V}(h:LF H b r)(n:b≠a)(e:H a=some (.AB ys)):LF (Ba H a) b r:=by
 obtain⟨cs,h1,h2⟩:=h;exact⟨cs,Gf h1 n,LZ e h2⟩
theorem LQ{H:Hp}{a:Addr}{bs:List Addr}{qs:List Rat}{ys:List V}(h:At AO H bs qs)(e:H a=some (.AB ys))(o:HO):At AO (AF H a o) bs qs:=(LZ e h).keep AZ (LM H a o)
def Bf(H:Hp)(b:Addr)(r:AQ):Prop:=∃e,H b=some (.AG [.int (r.1:Int),.int (r.2.1:Int),.ref e])/\AO H e r.2.2
theorem Cp:Mo Bf:=λs ⟨e,h1,h2⟩=>⟨e,s _ _ h1,s _ _ h2⟩
def Ly(H:Hp)(a:Addr)(n:Nat)(rs:List AQ):Prop:=∃(r:Addr) (t:V),H a=some (.AG [.int (n:Int),.ref r,t])/\Az Bf H r rs
structure Ej(H:Hp)(R:Addr)(bs:List Addr)(T:List (List Rat)):Prop where
 h1:H R=some (.AB (bs.map V.ref))
 rows:At LF H bs T
 nd:(R :: bs).Nodup
theorem Ej.keep{H H':Hp}{R:Addr}{bs:List Addr}{T:List (List Rat)}(M:Ej H R bs T)(s:AR H H'):Ej H' R bs T:=⟨s _ _ M.h1,M.rows.keep Lr s,M.nd⟩
theorem T9{l:List Addr}(h:l.Nodup){i j:Nat}{b:Addr}(h1:l[i]?=some b)(h2:l[j]?=some b):i=j:=by
 obtain⟨i1,e1⟩:=eu.mp h1;obtain⟨j1,e2⟩:=eu.mp h2;have hp:=List.pairwise_iff_getElem.mp h;rcases Nat.lt_trichotomy i j with z | z | z
 ·exact absurd (e1.trans e2.symm) (hp i j i1 j1 z)
 ·exact z
 ·exact absurd (e2.trans e1.symm) (hp j i j1 i1 z)
theorem Ej.put{H:Hp}{R b p:Addr}{bs cs:List Addr}{T:List (List Rat)}{i j:Nat}{v:Rat}(M:Ej H R bs T)(hb:bs[i]?=some b)(hc:H b=some (.AB (cs.map V.ref)))(hr:At AO H cs (T.getD i []))(hp:AO H p v):
  Ej (AF H b (.AB ((cs.map V.ref).set j (.ref p)))) R bs (Cu T i j v):=by
 have bm:b∈bs:=eQ hb;obtain⟨n1,n2⟩:=ig.mp M.nd;have e1:R≠b:=λz=>n1 (by rw[z]; exact bm)
 refine⟨by rw[Ad e1]; exact M.h1,⟨by unfold Cu; rw[iA]; exact M.rows.1,λk c x q1 q2=>?_⟩,M.nd⟩;unfold Cu at q2;by_cases hk:i=k
 ·subst hk;rw[hb] at q1;cases q1;have hl:i<T.length:=by rw[<-M.rows.1]; exact(eu.mp hb).1
  rw[gp hl] at q2;cases q2;refine⟨cs.set j p,by rw[AS,jo],LQ (hr.set j hp) hc _⟩
 ·rw[gn hk] at q2;have ne:c≠b:=λz=>hk (T9 n2 hb (by rw[q1,z]))
  exact Lr (LM H b _) (Sh (M.rows.2 k c x q1 q2) ne hc)
theorem Ej.get{H:Hp}{R:Addr}{bs:List Addr}{T:List (List Rat)}{n i j:Nat}(M:Ej H R bs T)(q:Sq n T)(hi:i<n)(hj:j<n):∃b cs c,bs[i]?=some b/\H b=some (.AB (cs.map V.ref))/\At AO H cs (T.getD i [])/\cs[j]?=some c/\AO H c (en T i j)/\cs.length=n:=by
 obtain⟨l,e⟩:=q.row hi;obtain⟨b,hb,cs,h1,h2⟩:=M.rows.get e;have ej:(T.getD i [])[j]?=some ((T.getD i [])[j]'(by omega)):=eh _;obtain⟨c,h3,h4⟩:=h2.get ej;refine⟨b,cs,c,hb,h1,h2,h3,?_,by rw[h2.1]; exact l⟩
 have:en T i j=(T.getD i [])[j]'(by omega):=by unfold en; rw[eO,ej]; rfl
 rw[this]; exact h4
theorem Yp(n:Nat)(t:Addr):(List.replicate n [V.ref t]).flatten=(List.replicate n t).map V.ref:=by
 induction n with
 | zero=>rfl
 | succ n ih=>rw[gC,fZ,ih,gC]; rfl
theorem LW {σ:St} {H H0:Hp} {D:C7} {op:Rat->Rat->Rat} {R e:Addr} {bs:List Addr} {T:List (List Rat)} {n i j a b:Nat} {q:Rat} (hR:σ[1]?=some (some (.ref R))) (ha:σ[a]?=some (some (.int (i:Int)))) (hb:σ[b]?=some (some (.int (j:Int)))) (he:σ[4]?=some (some (.ref e)))
  (M:Ej H R bs T) (sq:Sq n T) (hi:i<n) (hj:j<n) (fe:AO H e q) (s1:Sf (en T i j)) (s2:Sf q) (sm:AR H0 H) (fr:∀b∈bs,H0 b=none)
  (k:∀H',AR H0 H'->Ej H' R bs (Cu T i j (op (en T i j) q))->AO H' e q->D.nx σ H') :
  JN (D1 (Bm op) [] E0 (BJ (By (Gw K) (By (Gw K) (Ax 1) (Ax a)) (Ax b)) (BJ (Ax 4) CF))) (UP (By (Gw K) (Ax 1) (Ax a)) (Ax b) UD) D σ H:=by
 obtain⟨b1,cs,c,h1,h2,h3,h4,h5,h6⟩:=M.get sq hi hj;refine⟨_,hR,_,ha,R,_,_,_,rfl,rfl,AM.of M.h1,BF (Be h1),_,hb,b1,_,_,_,rfl,rfl,AM.of h2,BF (Be h4),_,he,c,e,_,_,rfl,h5,fe,s1,s2,λp hp=>?_⟩;have s3:=AY hp (.AG [.int (op (en T i j) q).num,.int (op (en T i j) q).den]);refine⟨_,hR,_,ha,R,_,_,_,rfl,rfl,AM.of (s3 _ _ M.h1),BF (Be h1),_,hb,b1,_,_,_,rfl,rfl,s3 _ _ h2,Jx (by rw[ed]; omega),?_⟩;have bn:H0 b1=none:=fr b1 (eQ h1);refine k _ (Nj (sm.trans s3) bn _) ((M.keep s3).put h1 (s3 _ _ h2) (h3.keep AZ s3) AS) ?_;exact AZ (LM _ b1 _) (AO.Ba (s3 _ _ fe) (s3 _ _ h2))
inductive Rr(vs:List V)(H:Hp)(Q:VK):Prop
 | mk (a:Addr) (n α β:Nat) (rs:List AQ) (h_0:vs=[.ref a]) (h_1:Ly H a n rs) (h_2:n<=100) (h_3:rs.length<=100) (h_4:(∀r∈rs,r.1<n/\r.2.1<n/\Sb α β r.2.2)) (h_5:α+(β+1)*rs.length<=3900) (h_6:β*rs.length<=3900) (h_7:∀p H',AR H H'->Az (Az AO) H' p (Bc n rs)->Q (.ref p) H'):Rr vs H Q
def N6:Sp:=λvs H Q _=>Rr vs H Q
theorem KW:A3 ["net","rows","one","other","ease"] ["net"] (Ao sEaseTable):=BC
theorem dN:(["place","net"]:List Str).Nodup:=by decide +kernel
theorem OS:(["row"]:List Str).Nodup:=by decide +kernel
def aQ(K:PySem.W.Frag):List V->Hp->VK->Prop:=λxs H Q=>∃p ys,xs=[.ref p]/\((AM K H p ys/\∀l,H l=none->Q (.ref l) (AF H l (.AG ys)))\/(AJ K H p ys/\Q (.ref p) H))
theorem Um{H:Hp}{a b:Addr}{r:List Rat}{ys:List V}(h:Az AO H b r)(e:H a=some (.AB ys)):Az AO (Ba H a) b r:=by
 obtain⟨cs,h1,h2⟩:=h;exact⟨cs,Gf h1 (λz=>by rw[z,e] at h1; cases h1),LZ e h2⟩
theorem Fs:Mo (Az AO):=λs h=>FG (R:=AO) (λs h=>AZ s h) s h
theorem Yt{α β:Nat}{r:AQ}(h:Sb α β r.2.2)(i j:Nat):Cv r i j=0\/Cv r i j=r.2.2\/Cv r i j=-r.2.2:=by
 unfold Cv;by_cases e:r.1=r.2.1
 ·rw[ff e]; exact .inl rfl
 ·rw[eZ e];by_cases a:i=r.1/\j=r.1
  ·have b:¬(i=r.2.1/\j=r.2.1):=λz=>e (a.1.symm.trans z.1)
   have c:¬(i=r.1/\j=r.2.1):=λz=>e (a.2.symm.trans z.2)
   have d:¬(i=r.2.1/\j=r.1):=λz=>e (a.1.symm.trans z.1)
   rw[ff a,eZ b,eZ c,eZ d]; right; left; grind
  ·rw[eZ a];by_cases b:i=r.2.1/\j=r.2.1
   ·have c:¬(i=r.1/\j=r.2.1):=λz=>e (z.1.symm.trans b.1)
    have d:¬(i=r.2.1/\j=r.1):=λz=>e (z.2.symm.trans b.2)
    rw[ff b,eZ c,eZ d]; right; left; grind
   ·rw[eZ b];by_cases c:i=r.1/\j=r.2.1
    ·have d:¬(i=r.2.1/\j=r.1):=λz=>e (c.1.symm.trans z.1)
     rw[ff c,eZ d]; right; right; grind
    ·rw[eZ c];by_cases d:i=r.2.1/\j=r.1
     ·rw[ff d]; right; right; grind
     ·rw[eZ d]; left; grind
def FX(n α β k:Nat)(T:List (List Rat)):Prop:=Sq n T/\∀i j,Sb (α+(β+1)*k) (β*k) (en T i j)
theorem FX.zero(n α β:Nat):FX n α β 0 (Dy n):=⟨Rz n,λi j=>by rw[RR]; exact Sb.zero.mono (gP _) (gP _)⟩
theorem FX.Af{n α β k:Nat}{T:List (List Rat)}(h:FX n α β k T){q:Rat}(hq:Sb α β q)(i j:Nat):Sb (α+(β+1)*(k+1)) (β*(k+1)) (en T i j+q)/\Sb (α+(β+1)*(k+1)) (β*(k+1)) (en T i j-q):=by
 have m1:β*k<=(β+1)*k:=Nat.mul_le_mul_right _ (by omega);constructor
 ·have:=(h.2 i j).DS hq (N:=α+(β+1)*k+β) (by omega) (by omega)
  exact this.mono (by rw[iU]; omega) (by rw[iU]; omega)
 ·have:=(h.2 i j).sub hq (N:=α+(β+1)*k+β) (by omega) (by omega)
  exact this.mono (by rw[iU]; omega) (by rw[iU]; omega)
theorem FX.step{n α β k:Nat}{T:List (List Rat)}(h:FX n α β k T){r:AQ}(h1:r.1<n)(h2:r.2.1<n)(hq:Sb α β r.2.2):FX n α β (k+1) (CP T r):=by
 obtain⟨a,b⟩:=Pj h.1 h1 h2;refine⟨a,λi j=>?_⟩;rw[b];have o:=h.Af hq i j;rcases Yt hq i j with e | e | e
 ·rw[e,Rat.add_zero];exact(h.2 i j).mono (by rw[iU]; omega) (by rw[iU]; omega)
 ·rw[e]; exact o.1
 ·rw[e,<-Rat.sub_eq_add_neg]; exact o.2
theorem ZX(F:Ar K "ease_table" "ease_table" sEaseTable f fd)(G1:AU P w K mg base 3 "plus" ["one","other"] (Bm λx y=>x+y))(G2:AU P w K mg base 3 "minus" ["one","other"] (Bm λx y=>x-y))(mr:mg "range" = none)(mt:mg "tuple" = none):
  An P w K mg base Ay 4 f fd ["net"] N6:=by
 refine F.BD KW λcdv A outer s H vs Q E hr h=>?_
 obtain⟨a,n,α,β,rs,rfl,⟨ra,tv,ha,bs,hra,hRs⟩,hn,hm,hrs,z1,z2,q⟩:=h;refine⟨_,AN (IQ (i:=1) KW.nd rfl (Or.inl rfl) (Nc:=["place","net"]) (cap:=[(1,0)]) (g:=BQ 0) (te:=By Ui (UR (BJ (JK (BJ (tC (.int 0)) (BJ (tC (.int 1)) CF))) CF)) (By (GH K) (Ax 1) (tC (.int 0)))) rfl (HK (by rfl) mr (AA (A2 Bj (pv 0) AD (λ_ _=>rfl)) AE))
   (CJ rfl rfl (by decide +kernel) (by decide +kernel) (ft.mpr ⟨⟨rfl,rfl⟩,fh _⟩) rfl (ft.mpr ⟨⟨_,_,rfl,rfl,rfl,rfl,rfl⟩,fh _⟩))
   (λ_ _ _ _ _=>Ah (i:=0) dN rfl (Or.inl rfl)) (λ_ _ _ _ _=>AK La (CB (AA (BP (AA AD (AA AD AE))) AE)) (A2 Bj (pv 1) AD (λ_ _=>rfl))))
  (AN (Bu fT rfl (Eo (A2 Bj (pv 0) AD (λ_ _=>rfl))) (Ga rfl (BE (Ah (i:=2) KW.nd rfl (Or.inl rfl)) (BE (Ah (i:=3) KW.nd rfl (Or.inl rfl)) (BE (Ah (i:=4) KW.nd rfl (Or.inl rfl)) CO))))
   (AV (BZ (BX FP (pv 2) (pv 3) (BM _))
    (AN (DF (Ae G1 hr (AA (A2 B5 (A2 B5 (pv 1) (pv 2) (λ_ _=>rfl)) (pv 2) (λ_ _=>rfl)) (AA (pv 4) AE))) (EB (A2 B5 (pv 1) (pv 2) (λ_ _=>rfl)) (pv 2) D9))
    (AN (DF (Ae G1 hr (AA (A2 B5 (A2 B5 (pv 1) (pv 3) (λ_ _=>rfl)) (pv 3) (λ_ _=>rfl)) (AA (pv 4) AE))) (EB (A2 B5 (pv 1) (pv 3) (λ_ _=>rfl)) (pv 3) D9))
    (AN (DF (Ae G2 hr (AA (A2 B5 (A2 B5 (pv 1) (pv 2) (λ_ _=>rfl)) (pv 3) (λ_ _=>rfl)) (AA (pv 4) AE))) (EB (A2 B5 (pv 1) (pv 2) (λ_ _=>rfl)) (pv 3) D9))
    (AV (DF (Ae G2 hr (AA (A2 B5 (A2 B5 (pv 1) (pv 3) (λ_ _=>rfl)) (pv 2) (λ_ _=>rfl)) (AA (pv 4) AE))) (EB (A2 B5 (pv 1) (pv 3) (λ_ _=>rfl)) (pv 2) D9)))))) Bp)))
  (AV (Am (Cn E8 (by rfl) mt Cb (AA (C3 (Nc:=["row"]) (cap:=[]) (g:=BQ 0) (te:=PR (aQ K) (BJ (Ax 0) CF)) rfl (Ip (pv 1))
   (CJ rfl rfl (by decide +kernel) (by decide +kernel) (fh _) rfl (fh _)) (λ_ _ _ _ _=>Ah (i:=0) OS rfl (Or.inl rfl)) (λ_ _ _ _ _=>Cn E8 (by rfl) mt Cb (AA (pv 0) AE))) AE))))),?_⟩
 have at0':∀x y z:V,B7 [x,y,z] 0=some x:=λx y z=>BF (j:=0) rfl
 have at1':∀x y z:V,B7 [x,y,z] 1=some y:=λx y z=>BF (j:=1) rfl
 refine⟨_,rfl,a,_,_,_,rfl,rfl,AJ.of ha,at0' _ _ _,((n:Nat):Int),rfl,by omega,by omega,λacc hacc=>?_⟩;rw[show((n:Nat):Int).toNat=n by omega];refine CN MU (by omega) hacc (λi ys σ hp=>∃ds:List Addr,ys=ds.map V.ref/\At LF hp ds (List.replicate i (List.replicate n 0))/\ds.Nodup/\(∀d∈ds,H d=none)/\∃u,σ=[u,some (.ref a)]) ⟨[],rfl,At.nil,by simp,by simp,none,rfl⟩ ?_ ?_
 ·rintro i ys σ H2 x H3 hi sm hacc2 ⟨ds,rfl,hD,nd,fr,u,rfl⟩ ⟨rfl,rfl⟩ Cc hC;refine⟨by exact Bh,λt ht=>⟨by exact EO,λl hl=>?_⟩⟩;obtain⟨H4,zg,s1,zz⟩:=nw ht (.AG [.int 0,.int 1]);rw[zg] at hl ⊢;have e1:AO H4 t 0:=zz;obtain⟨H5,zg,s2,e2⟩:=nw hl (.AB [.ref t]);rw[zg];have s12:=s1.trans s2;refine⟨_,rfl,a,_,_,_,rfl,rfl,AJ.of (s12 _ _ (sm _ _ ha)),at0' _ _ _,l,((n:Nat):Int),[.ref t],rfl,rfl,e2,by omega,by omega,by simp; exact D5 (by omega),λp hp=>?_⟩;rw[show((n:Nat):Int).toNat=n by omega];rw[Yp];have s3:=AY hp (.AB ((List.replicate n t).map V.ref));have s13:=s12.trans s3;have pacc:p≠acc:=λz=>by rw[z,s12 _ _ hacc2] at hp; cases hp
  have pf:H p=none:=(sm.trans s12).free hp;refine hC _ _ _ s13 ⟨ds++[p],by simp,?_,?_,?_,_,rfl⟩
  ·rw[jk];refine(hD.keep Lr (EX acc s13)).snoc (Sh ⟨List.replicate n t,AS,⟨by simp,λk c y e3 e4=>?_⟩⟩ pacc (s13 _ _ hacc2));rw[List.getElem?_replicate] at e3 e4;split at e3
   ·rename_i hk
    rw[ff hk] at e4;cases e3; cases e4;exact AZ (s2.trans s3) e1
   ·cases e3
  ·rw[iD];refine⟨nd,by simp,λx hx y hy z=>?_⟩;rw[fQ] at hy;subst hy;subst z;obtain⟨k,hk,ek⟩:=fP hx;have hl2:k<(List.replicate i (List.replicate n (0:Rat))).length:=by rw[<-hD.1]; exact hk
   obtain⟨cs,h1,_⟩:=hD.2 k x _ (by rw[eh hk,ek]) (eh hl2)
   have:=s12 _ _ (Dw _ _ _ _ h1)
   rw[this] at hp; cases hp
  ·intro d hd';rcases fm.mp hd' with h' | h'
   ·exact fr d h'
   ·rw[fQ] at h'; rw[h']; exact pf
 rintro ys σ1 H2 s2 hacc2 hl2 ⟨ds,rfl,hD,nd,fr,u,rfl⟩;have M0:Ej H2 acc ds (Dy n):=by
  refine⟨hacc2,hD.keep Lr (Dw H2 acc),ig.mpr ⟨λz=>?_,nd⟩⟩;obtain⟨k,hk,ek⟩:=fP z;have hl2:k<(List.replicate n (List.replicate n (0:Rat))).length:=by rw[<-hD.1]; exact hk
  obtain⟨cs,h1,_⟩:=hD.2 k acc _ (by rw[eh hk,ek]) (eh hl2);rw[HP] at h1; cases h1
 have fr2:∀b∈ds,H b=none:=fr
 try dsimp only
 try refine Co ?_
 first | refine DA λUL1 hUL1=>?_ | refine nx_hide λUL1 hUL1=>?_
 refine⟨_,rfl,a,_,_,_,rfl,rfl,AJ.of (s2 _ _ ha),at1' _ _ _,ra,rfl,⟨_,AJ.of (s2 _ _ hra)⟩,?_⟩;refine HS (xs:=bs.map V.ref) (λk σ H3=>AR H H3/\(∃u2 u3 u4,σ=[some (.ref a),some (.ref acc),u2,u3,u4])/\Ej H3 acc ds ((rs.take k).foldl CP (Dy n))/\FX n α β k ((rs.take k).foldl CP (Dy n)))
  ⟨s2,⟨none,none,none,rfl⟩,M0,FX.zero n α β⟩ (λk σ H3 _ ⟨s3,_⟩=>AJ.of (s3 _ _ hra)) ?_ ?_
 ·rintro k x σ H3 hx ⟨s3,⟨u2,u3,u4,rfl⟩,M,ts⟩;obtain⟨c,r,rfl,_,hr',e,hc,he⟩:=hRs.ref hx;have rm:r∈rs:=eQ hr';obtain⟨r1,r2,rq⟩:=hrs r rm;have hk:k<rs.length:=(eu.mp hr').1;have stp:=ts.step r1 r2 rq;rw[Cm hr',List.foldl_append];show IC K 3 _ _ _ _ _;refine⟨c,_,rfl,AJ.of (s3 _ _ hc),rfl,_,_,rfl,_,_,rfl,_,_,rfl,rfl,?_⟩;have fin:∀(T':List (List Rat)),T'=CP ((rs.take k).foldl CP (Dy n)) r->List.foldl CP (List.foldl CP (Dy n) (List.take k rs)) [r]=T':=λT' h=>h.symm
  refine⟨_,rfl,_,rfl,rfl,_,rfl,?_⟩;generalize hT:(rs.take k).foldl CP (Dy n)=T at M ts stp;have zk1:(β+1)*(k+1)<=(β+1)*rs.length:=iL _ hk;have zk2:β*(k+1)<=β*rs.length:=iL _ hk;have zk3:β*rs.length+rs.length=(β+1)*rs.length:=by rw[Nat.add_mul,Nat.one_mul]
  have up:∀{x:Rat},Sb (α+(β+1)*(k+1)) (β*(k+1)) x->Sf x:=λh=>h.mono (by omega) (by omega)
  have lo:∀i j,Sf (en T i j):=λi j=>up ((ts.2 i j).mono (by rw[iU]; omega) (by rw[iU]; omega))
  have sq:Sf r.2.2:=by
   have b1':β<=β*rs.length:=Nat.le_mul_of_pos_right _ (by omega);exact rq.mono (by omega) (by omega)
  by_cases eq:r.1=r.2.1
  ·refine FO (iv (by rw[eq])) ⟨s3,⟨_,_,_,rfl⟩,?_,?_⟩
   ·have:List.foldl CP T [r]=T:=by show CP T r=T; unfold CP; rw[ff eq]
    rw[this]; exact M
   ·show FX n α β (k+1) (CP T r);exact stp
  ·refine JH (E6 (by omega)) ?_;have sq0:=ts.1;refine LW (i:=r.1) (j:=r.1) (a:=2) (b:=2) (op:=λx y=>x+y) rfl rfl rfl rfl M sq0 r1 r1 (s3 _ _ he) (lo _ _) sq s3 fr2 λH4 s4 M4 f4=>?_
   have q1:=sq0.set (j:=r.1) (v:=en T r.1 r.1+r.2.2) r1;have e1:=HV sq0 (v:=en T r.1 r.1+r.2.2) r1 r1;generalize hT1:Cu T r.1 r.1 (en T r.1 r.1+r.2.2)=T1 at M4 q1 e1;have g1:en T1 r.2.1 r.2.1=en T r.2.1 r.2.1:=by rw[e1,eZ (λz=>eq z.1.symm)]
   refine LW (i:=r.2.1) (j:=r.2.1) (a:=3) (b:=3) (op:=λx y=>x+y) rfl rfl rfl rfl M4 q1 r2 r2 f4 (by rw[g1]; exact lo _ _) sq s4 fr2 λH5 s5 M5 f5=>?_
   have q2:=q1.set (j:=r.2.1) (v:=en T1 r.2.1 r.2.1+r.2.2) r2;have e2:=HV q1 (v:=en T1 r.2.1 r.2.1+r.2.2) r2 r2;generalize hT2:Cu T1 r.2.1 r.2.1 (en T1 r.2.1 r.2.1+r.2.2)=T2 at M5 q2 e2;have g2:en T2 r.1 r.2.1=en T r.1 r.2.1:=by rw[e2,eZ (λz=>eq z.1),e1,eZ (λz=>eq z.2.symm)]
   refine LW (i:=r.1) (j:=r.2.1) (a:=2) (b:=3) (op:=λx y=>x-y) rfl rfl rfl rfl M5 q2 r1 r2 f5 (by rw[g2]; exact lo _ _) sq s5 fr2 λH6 s6 M6 f6=>?_
   have q3:=q2.set (j:=r.2.1) (v:=en T2 r.1 r.2.1-r.2.2) r1;have e3:=HV q2 (v:=en T2 r.1 r.2.1-r.2.2) r1 r2;generalize hT3:Cu T2 r.1 r.2.1 (en T2 r.1 r.2.1-r.2.2)=T3 at M6 q3 e3;have g3:en T3 r.2.1 r.1=en T r.2.1 r.1:=by rw[e3,eZ (λz=>eq z.1.symm),e2,eZ (λz=>eq z.2),e1,eZ (λz=>eq z.1.symm)]
   refine LW (i:=r.2.1) (j:=r.1) (a:=3) (b:=2) (op:=λx y=>x-y) rfl rfl rfl rfl M6 q3 r2 r1 f6 (by rw[g3]; exact lo _ _) sq s6 fr2 λH7 s7 M7 f7=>?_
   refine⟨s7,⟨_,_,_,rfl⟩,?_,stp⟩
   have:List.foldl CP T [r]=Cu T3 r.2.1 r.1 (en T3 r.2.1 r.1-r.2.2):=by
    show CP T r=_;unfold CP;rw[eZ eq];simp only[hT1,hT2,hT3]
   rw[this];exact M7
 ·rintro σ H3 ⟨s3,⟨u2,u3,u4,rfl⟩,M,ts⟩;subst hUL1;rw[ed,hRs.1,iG] at M ts;have lds:ds.length=n:=by rw[hD.1]; simp
  refine⟨_,rfl,acc,rfl,⟨_,AM.of M.h1⟩,λac2 hac2=>?_⟩;refine CN (Fl M.h1) (by rw[ed]; omega) hac2 (λi ys σ hp=>∃gs:List Addr,ys=gs.map V.ref/\At (Az AO) hp gs ((rs.foldl CP (Dy n)).take i)/\∃u,σ=[u]) ⟨[],rfl,At.nil,none,rfl⟩ ?_ ?_
  ·rintro i ys σ H4 x H5 hi s4 hac4 ⟨gs,rfl,hG,u,rfl⟩ ⟨rfl,hx⟩ Cc hC;obtain⟨b,row,rfl,_,hy,cs,hB,hCs⟩:=M.rows.ref hx;have hB2:=s4 _ _ hB;refine⟨_,rfl,b,_,rfl,.inl ⟨AM.of hB2,λp hp=>?_⟩⟩;have sp:=AY hp (.AG (cs.map V.ref));refine hC _ _ _ sp ⟨gs++[p],by simp,?_,_,rfl⟩;rw[Cm hy];exact(hG.keep Fs (EX ac2 sp)).snoc (Um ⟨cs,AS,hCs.keep AZ (s4.trans sp)⟩ (sp _ _ hac4))
  ·rintro ys σ H4 s4 ha4 hl4 ⟨gs,rfl,hG,u,rfl⟩;rw[ed,lds,fH (by rw[ts.1.len]; exact eU _)] at hG;refine⟨ac2,_,rfl,.inl ⟨AM.of ha4,λp hp=>?_⟩⟩;have sp:=AY hp (.AG (gs.map V.ref));exact q p _ ((s3.trans s4).trans sp) ⟨gs,AS,(hG.keep Fs (Dw H4 ac2)).keep Fs sp⟩
structure HB(n m α β:Nat):Prop where
 n13:n<=13
 m16:m<=16
 bd:(8+β*m+α)*n+β*m+α+20<=3900
structure CV(n m α β:Nat)(rs:List AQ):Prop where
 hb:HB n m α β
 len:rs.length<=m
 Ct:∀r∈rs,r.1<n+2/\r.2.1<n+2/\Sb α β r.2.2
 pos:∀r∈rs,0<r.2.2
 DN:Oz (n+2) rs
theorem CV.two{n m α β:Nat}{rs:List AQ}(k:CV n m α β rs):∀r∈rs,r.1<n+2/\r.2.1<n+2:=λr hr=>⟨(k.Ct r hr).1,(k.Ct r hr).2.1⟩
theorem CV.den{n m α β:Nat}{rs:List AQ}(k:CV n m α β rs):Cj rs<=2 ^ (β*m) :=
 fY (RY λr hr=>(k.Ct r hr).2.2.2) (gZ (by decide) (iL _ k.len))
def DJ(n:Nat)(rs:List AQ):List (List Rat):=CD (EL (Bc (n+2) rs)) (Er (Bc (n+2) rs))
theorem CV.row{n m α β:Nat}{rs:List AQ}(k:CV n m α β rs){y:List Rat}(hy:y∈DJ n rs):y.length=n+1/\∀q∈y,BG ((Cj rs:Nat)*q)/\Vb (α+4) q:=by
 have sq:=(GV k.two).1;obtain⟨i,hi,e⟩:=fP hy;have hi':i<n:=by
  have:i<(DJ n rs).length:=hi
  unfold DJ CD at this;rw[List.length_zipWith,(Il sq).1] at this;omega
 have e2:(DJ n rs)[i]?=some ((((Bc (n+2) rs).getD (i+2) []).drop 2)++[0-en (Bc (n+2) rs) (i+2) 0]):=by
  unfold DJ CD;rw[List.getElem?_zipWith,Nk sq hi',QW sq hi']
 rw[eh hi,e] at e2;cases e2;have rl:=(sq.row (i:=i+2) (by omega)).1;have m16:rs.length<=16:=fY k.len k.hb.m16;refine⟨by rw[fj,gN,rl]; simp,λq hq=>?_⟩;rcases fm.mp hq with h | h
 ·have h:=List.mem_of_mem_drop h;obtain⟨j,hj,ej⟩:=fP h
  have:q=en (Bc (n+2) rs) (i+2) j:=by unfold en; rw[eO (l:=(Bc (n+2) rs).getD (i+2) []),eh hj,ej]; rfl
  rw[this];exact OI k.Ct m16 _ _
 ·rw[fQ] at h;rw[h];obtain⟨a,b⟩:=OI k.Ct m16 (i+2) 0;constructor
  ·have:=a.neg
   rwa [show -((Cj rs:Nat)*en (Bc (n+2) rs) (i+2) 0)=(Cj rs:Nat)*(0-en (Bc (n+2) rs) (i+2) 0) by grind] at this
  ·have:=Ab.neg b
   rwa [show -1*en (Bc (n+2) rs) (i+2) 0=0-en (Bc (n+2) rs) (i+2) 0 by grind] at this
theorem CV.U1{n m α β:Nat}{rs:List AQ}(k:CV n m α β rs){y:List Rat}(hy:y∈DJ n rs):∀q∈y,(q.den:Int) ∣ (Cj rs:Int):=λq hq=>by
 obtain⟨c,hc⟩:=((k.row hy).2 q hq).1;exact ZL (k:=c) (by rw[ic]; exact hc)
theorem CV.tk{n m α β:Nat}{rs:List AQ}(k:CV n m α β rs):TK n (n+1) (β*m) (β*m+(α+4)) (β*m) (DJ n rs):=by
 have sq:=(GV k.two).1;have hd:=k.den;have pd:(0:Int)<(Cj rs:Int):=by have:=IZ rs; omega
 have hcb:∀r∈DJ n rs,(cb r).natAbs<=2 ^ (β*m):=λr hr=>fY (au pd (k.U1 hr)) (by rw[gj]; exact hd)
 have hdq:∀r∈DJ n rs,∀q∈r,q.den<=2 ^ (β*m):=λr hr q hq=>fY (Nat.le_of_dvd (IZ rs) (by exact_mod_cast k.U1 hr q hq)) hd
 have b:=k.hb.bd;generalize β*m=s at *;have e1:(8+s+α)*n=8*n+s*n+α*n:=by rw[Nat.add_mul,Nat.add_mul]
 rw[e1] at b;have n13:=k.hb.n13;refine⟨?_,λr hr=>(k.row hr).1,by omega,by omega,hdq,λr hr q hq=>?_,hcb,λr hr q hq=>?_,?_,by omega,?_⟩
 ·unfold DJ CD;rw[List.length_zipWith,(Il sq).1,MP sq]; omega
 ·have h1:=UE (b:=(q.den:Int)) (D:=s) (Int.dvd_refl _) ((k.row hr).2 q hq).2 (by rw[gj]; exact hdq r hr q hq)
  have:wh (q.den:Int) q=q.num:=by
   unfold wh;rw[Int.fdiv_self (by have:=q.den_nz; omega),Int.mul_one]
  rw[this] at h1;exact GG h1 (by omega)
 ·exact UE ((N7 r).2 q hq) ((k.row hr).2 q hq).2 (hcb r hr)
 ·have:(4+(s+(α+4)))*n=8*n+s*n+α*n:=by rw[<-e1]; congr 1; omega
  omega
 ·have:s*(n+1)=s*n+s:=iU _ _
  omega
theorem CV.ne{n m α β:Nat}{rs:List AQ}(k:CV n m α β rs):dt n (n+1) (DJ n rs)≠0:=by
 have sq:=(GV k.two).1;have c:=Il sq;unfold DJ CD;rw[ZZ c.1 (MP sq) c.2];exact Zj (λr hr=>⟨(k.Ct r hr).1,(k.Ct r hr).2.1,k.pos r hr⟩) k.DN
structure FW(n B:Nat)(rs:List AQ)(X:Nat->Rat):Prop where
 x0:X 0=1
 x1:X 1=0
 bal:∀i,2<=i->i<n+2->BB X rs i=0
 wh:∃W:Int,W≠0/\W.natAbs<=2 ^ B/\∀j,j<n+2->∃k:Int,(W:Rat)*X j=k/\k.natAbs<=2 ^ B
theorem CV.htx{n m α β:Nat}{rs:List AQ}(k:CV n m α β rs){x:Nat->Rat}(hx:∀y∈DJ n rs,fx n x (vq y)=0):FW n ((8+β*m+α)*n) rs (KG 1 0 x):=by
 have tk:=k.tk;have n13:=k.hb.n13;refine⟨rfl,rfl,bK k.two hx,?_⟩;have sc:=MO (n:=n) (m:=n+1) (DJ n rs) cb (λr hr=>(tk.hcb hr).2.1);have pp:ED ((DJ n rs).map cb)≠0:=by
  have:=(Qi (d:=β*m) ((DJ n rs).map cb) (λb hb=>by
   obtain⟨r,hr,rfl⟩:=fi.mp hb;exact⟨(tk.hcb hr).1,(tk.hcb hr).2.2⟩)).1
  omega
 obtain⟨W,w0,wl,wx⟩:=aX (n:=n) (E:=β*m+(α+4)) (A:=(Dd (DJ n rs)).map vr) (x:=x) (by unfold Dd; rw[ed,ed]; exact tk.len) (by omega)
  (λa ha j=>by obtain⟨r,_,rfl⟩:=fi.mp ha; exact BG.of _)
  (λa ha j=>by
   obtain⟨r,hr,rfl⟩:=fi.mp ha;exact Hd (Qh ((tk.PL r hr).2) j))
  (λa ha=>by
   obtain⟨r,hr,rfl⟩:=fi.mp ha;unfold Dd at hr;obtain⟨y,hy,rfl⟩:=fi.mp hr;rw[OP (tk.hcb hy).2.1];have c0:((cb y:Int):Rat)≠0:=by
    have:cb y≠0:=by have:=(tk.hcb hy).1; omega
    exact_mod_cast this
   exact(Q9 c0).mpr (hx y hy))
  (by
   unfold Dd;rw[sc];intro z;rcases jm.mp z with h | h
   ·exact pp (by exact_mod_cast h)
   ·exact k.ne h)
 have eB:(4+(β*m+(α+4)))*n=(8+β*m+α)*n:=by congr 1; omega
 rw[eB] at wl wx;refine⟨W,w0,wl,λj hj=>?_⟩
 match j,hj with
 | 0,_=>exact⟨W,by show(W:Rat)*1=W; grind,wl⟩
 | 1,_=>exact⟨0,by show(W:Rat)*0=0; grind,by simp⟩
 | j+2,hj=>exact wx j (by omega)
theorem Oq{n:Nat}(h:2<=n):HT.Av n 0 (some 2)=2:=by simp[HT.Av]; omega
inductive Rx(vs:List V)(H:Hp)(Q:VK):Prop
 | mk (a:Addr) (T:List (List Rat)) (n:Nat) (h_0:vs=[.ref a]) (h_1:Az (Az AO) H a T) (h_2:Sq (n+2) T) (h_3:n<=100) (h_4:∀p H',AR H H'->Az (Az AO) H' p (EL T)->Q (.ref p) H'):Rx vs H Q
def N0:Sp:=λvs H Q _=>Rx vs H Q
theorem cU:A3 ["table"] ["table"] (Ao sPoleless):=BC
theorem ZD(F:Ar K "poleless" "poleless" sPoleless f fd)(mt:mg "tuple" = none):An P w K mg base Ay 1 f fd ["table"] N0:=by
 refine F.BD cU λcdv A outer s H vs Q E hr h=>?_
 obtain⟨a,T,n,rfl,⟨bs,ha,hA⟩,sq,hn,q⟩:=h;refine⟨_,AV (Am (Cn E8 (by rfl) mt Cb (AA (C3 (Nc:=["row"]) (cap:=[]) (g:=BQ 0) (te:=VF (Ol K) (Ax 0) (Tw (tC (.int 2))) RU) rfl (Eo (EW LR (pv 0) (Dv AD) FC))
   (CJ rfl rfl (by decide +kernel) (by decide +kernel) (fh _) rfl (fh _)) (λ_ _ _ _ _=>Ah (i:=0) OS rfl (Or.inl rfl)) (λ_ _ _ _ _=>EW LR (pv 0) (Dv AD) FC)) AE))),?_⟩
 have lb:bs.length=n+2:=by rw[hA.1]; exact sq.len
 refine⟨_,rfl,2,rfl,a,_,rfl,AJ.of ha,λz=>?_,λp0 hp0=>?_⟩
 ·have:=z.1
  rw[Oq (by rw[ed]; omega)] at this;cases this
 rw[show Cw (bs.map V.ref) (some 2) none=(bs.drop 2).map V.ref by rw[show(some (2:Int))=some ((2:Nat):Int) from rfl,HN _ (by rw[ed]; omega),List.map_drop]];obtain⟨H1,zg,s0,h0⟩:=nw hp0 (.AG ((bs.drop 2).map V.ref));rw[zg];have hA1:=(hA.keep Fs s0).drop 2;refine⟨p0,rfl,⟨_,AJ.of h0⟩,λacc hacc=>?_⟩;refine CN (HR h0) (by rw[ed,gN]; omega) hacc (λi ys σ hp=>∃ds:List Addr,ys=ds.map V.ref/\At (Az AO) hp ds ((EL T).take i)/\∃u,σ=[u]) ⟨[],rfl,At.nil,none,rfl⟩ ?_ ?_
 ·rintro i ys σ H2 x H3 hi sm hacc2 ⟨ds,rfl,hD,u,rfl⟩ ⟨rfl,hx⟩ Cc hC;obtain⟨b,row,rfl,_,hy,cs,hB,hCs⟩:=hA1.ref hx;have hB2:=sm _ _ hB;have rl:row.length=n+2:=sq.E1 row (List.mem_of_mem_drop (eQ hy));have cl:cs.length=n+2:=by rw[hCs.1]; exact rl
  refine⟨_,rfl,2,rfl,b,_,rfl,AJ.of hB2,λz=>?_,λp hp=>?_⟩
  ·have:=z.1
   rw[Oq (by rw[ed]; omega)] at this;cases this
  rw[show Cw (cs.map V.ref) (some 2) none=(cs.drop 2).map V.ref by rw[show(some (2:Int))=some ((2:Nat):Int) from rfl,HN _ (by rw[ed]; omega),List.map_drop]];have sp:=AY hp (.AG ((cs.drop 2).map V.ref));refine hC _ _ _ sp ⟨ds++[p],by simp,?_,_,rfl⟩;have ec:(EL T)[i]?=some (row.drop 2):=by unfold EL; rw[fg,hy]; rfl
  rw[Cm ec];exact(hD.keep Fs (EX acc sp)).snoc (Um ⟨cs.drop 2,AS,(hCs.keep AZ (sm.trans sp)).drop 2⟩ (sp _ _ hacc2))
 ·rintro ys σ H4 s4 ha4 hl4 ⟨gs,rfl,hG,u,rfl⟩;rw[ed,gN,fH (by rw[(Il sq).1]; omega)] at hG;refine⟨acc,_,rfl,.inl ⟨AM.of ha4,λp hp=>?_⟩⟩;have sp:=AY hp (.AG (gs.map V.ref));exact q p _ ((s0.trans s4).trans sp) ⟨gs,AS,(hG.keep Fs (Dw H4 acc)).keep Fs sp⟩
theorem Ia{W k:Int}{q:Rat}{a b:Nat}(w0:W≠0)(e:(W:Rat)*q=k)(h1:k.natAbs<=2 ^ b)(h2:W.natAbs<=2 ^ a):Sb b a q:=by
 refine Li w0 h1 h2 ?_;rw[Fj k W w0];have w1:(W:Rat)≠0:=by exact_mod_cast w0
 have:(k:Rat) / (W:Rat)=q:=by
  rw[<-e,Rat.mul_comm];rw[Rat.div_def,Rat.mul_assoc,Rat.mul_inv_cancel _ w1,Rat.mul_one]
 rw[this]; rfl
theorem bY{M:Nat}{q:Rat}{D v:Nat}(m0:0<M)(hi:BG ((M:Nat)*q))(hM:M<=2 ^ D)(hv:Vb v q):Sb (D+v) D q:=by
 obtain⟨k,hk⟩:=hi;have ab:Ab ((2 ^ D:Nat):Rat) ((M:Nat):Rat):=Hd (x:=(M:Int)) (by rw[gj]; exact hM)
 have:=ab.EM hv
 rw[hk,<-Rat.natCast_mul,<-Nat.pow_add] at this;exact Ia (W:=(M:Int)) (by omega) (by rw[ic]; exact hk) (FI this) (by rw[gj]; exact hM)
theorem CV.sf{n m α β:Nat}{rs:List AQ}(k:CV n m α β rs)(i j:Nat):Sf (en (Bc (n+2) rs) i j):=by
 obtain⟨a,b⟩:=OI k.Ct (fY k.len k.hb.m16) i j
 have:=k.hb.bd
 exact(bY (IZ rs) a k.den b).mono (by omega) (by omega)
theorem dy:Sf 0:=Sb.zero.mono (gP _) (gP _)
theorem Vr(n:Nat)(x:Nat->Rat):(List.range (n+2)).map (KG 1 0 x)=1 :: 0 :: (List.range n).map x:=by
 rw[iJ,iJ];simp[gG];exact⟨rfl,rfl,λ_ _=>rfl⟩
inductive Si(vs:List V)(H:Hp)(Q:VK):Prop
 | mk (a:Addr) (n m α β:Nat) (rs:List AQ) (h_0:vs=[.ref a]) (h_1:Ly H a (n+2) rs) (h_2:CV n m α β rs) (h_3:∀p H' X,AR H H'->FW n ((8+β*m+α)*n) rs X->Az AO H' p ((List.range (n+2)).map X)->Q (.ref p) H'):Si vs H Q
def Lo:Sp:=λvs H Q _=>Si vs H Q
theorem PD:A3 ["net","table","right"] ["net"] (Ao sHeights):=BC
theorem Vt (F:Ar K "heights" "heights" sHeights f fd) (G1:AU P w K mg base 4 "ease_table" ["net"] N6)
  (G2:AU P w K mg base 3 "minus" ["one","other"] (Bm λx y=>x-y))
  (G3:AU P w K mg base 1 "poleless" ["table"] N0)
  (G4:AU P w K mg base 4 "answer" ["table","right"] (Ma C2)) (mt:mg "tuple" = none) :
  An P w K mg base Ay 5 f fd ["net"] Lo:=by
 refine F.BD PD λcdv A outer s H vs Q E hr h=>?_
 obtain⟨a,n,m,α,β,rs,rfl,hN,k,q⟩:=h;have hr3:=hr.mono (show 3<=4 by decide);have hr1:=hr.mono (show 1<=4 by decide);refine⟨_,AN (Aa (i:=1) PD.nd rfl (Or.inl rfl) (Ae G1 hr (AA (pv 0) AE)))
  (AN (Aa (i:=2) PD.nd rfl (Or.inl rfl) (Cn E8 (by rfl) mt Cb (AA (C3 (Nc:=["row"]) (cap:=[]) (g:=BQ 0) (te:=D1 (Bm λx y=>x-y) [] E0 (BJ (JK (BJ (tC (.int 0)) (BJ (tC (.int 1)) CF))) (BJ (By (GH K) (Ax 0) (tC (.int 0))) CF))) rfl (Eo (EW LR (pv 1) (Dv AD) FC))
   (CJ rfl rfl (by decide +kernel) (by decide +kernel) (fh _) rfl (fh _)) (λ_ _ _ _ _=>Ah (i:=0) OS rfl (Or.inl rfl)) (λ_ _ _ _ _=>Ae G2 hr3 (AA (BP (AA AD (AA AD AE))) (AA (A2 Bj (pv 0) AD (λ_ _=>rfl)) AE)))) AE)))
  (AV (Am (AK Rn (BP (AA (BP (AA AD (AA AD AE))) (AA (BP (AA AD (AA AD AE))) AE)))
   (Ae G4 hr (AA (Ae G3 hr1 (AA (pv 1) AE)) (AA (pv 2) AE))))))),?_⟩
 have m16:rs.length<=16:=fY k.len k.hb.m16;have n13:=k.hb.n13;have bd:=k.hb.bd;have bl:β*rs.length<=β*m:=iL _ k.len;have bl1:(β+1)*rs.length=β*rs.length+rs.length:=by rw[Nat.add_mul,Nat.one_mul]
 have sq:=(GV k.two).1;have ksf:=k.sf;refine⟨_,rfl,a,n+2,α,β,rs,rfl,hN,by omega,by omega,k.Ct,by omega,by omega,λt H1 s1 hT=>?_⟩;have ht:=(Il sq);have hrl:=MP sq;obtain⟨bs,ha,hA⟩:=hT;have lb:bs.length=n+2:=by rw[hA.1]; exact sq.len
 refine⟨_,rfl,2,rfl,t,_,rfl,AJ.of ha,λz=>?_,λp0 hp0=>?_⟩
 ·have:=z.1
  rw[Oq (by rw[ed]; omega)] at this;cases this
 rw[show Cw (bs.map V.ref) (some 2) none=(bs.drop 2).map V.ref by rw[show(some (2:Int))=some ((2:Nat):Int) from rfl,HN _ (by rw[ed]; omega),List.map_drop]];obtain⟨H2,zg,s0,h0⟩:=nw hp0 (.AG ((bs.drop 2).map V.ref));rw[zg];have hA1:=(hA.keep Fs s0).drop 2;refine⟨p0,rfl,⟨_,AJ.of h0⟩,λacc hacc=>?_⟩;refine CN (HR h0) (by rw[ed,gN]; omega) hacc (λi ys σ hp=>∃ds:List Addr,ys=ds.map V.ref/\At AO hp ds ((Er (Bc (n+2) rs)).take i)/\∃u,σ=[u]) ⟨[],rfl,At.nil,none,rfl⟩ ?_ ?_
 ·rintro i ys σ H3 x H4 hi sm hacc2 ⟨ds,rfl,hD,u,rfl⟩ ⟨rfl,hx⟩ Cc hC;obtain⟨b,row,rfl,_,hy,cs,hB,hCs⟩:=hA1.ref hx;have hB2:=sm _ _ hB;have rl:row.length=n+2:=sq.E1 row (List.mem_of_mem_drop (eQ hy));have er:row[0]?=some (row.getD 0 0):=by rw[eO,eh (by omega)]; rfl
  obtain⟨c,hc,hcf⟩:=hCs.get er;have i':i<n:=by
   have:i<(bs.drop 2).length:=by rw[ed] at hi; exact hi
   rw[gN] at this; omega
  have erow:row=(Bc (n+2) rs).getD (i+2) []:=by
   rw[je,Nat.add_comm 2 i,(sq.row (i:=i+2) (by omega)).2] at hy;exact(fC hy).symm
  refine⟨by exact Bh,λz hz=>?_⟩;obtain⟨H5,zg,sz,zz⟩:=nw hz (.AG [.int 0,.int 1]);rw[zg];have ez:AO H5 z 0:=zz;refine⟨_,rfl,b,_,_,_,rfl,rfl,AJ.of (sz _ _ hB2),BF (j:=0) (Be hc),z,c,0,row.getD 0 0,rfl,ez,sz _ _ (sm _ _ hcf),dy,by rw[erow]; exact ksf (i+2) 0,λp hp=>?_⟩;have sp:=AY hp (.AG [.int (0-row.getD 0 0).num,.int (0-row.getD 0 0).den]);have szp:=sz.trans sp;refine hC _ _ _ szp ⟨ds++[p],by simp,?_,_,rfl⟩;have ec:(Er (Bc (n+2) rs))[i]?=some (0-row.getD 0 0):=by unfold Er; rw[fg,hy]; rfl
  rw[Cm ec];exact(hD.keep AZ (EX acc szp)).snoc (AO.Ba (q:=0-row.getD 0 0) AS (szp _ _ hacc2))
 ·rintro ys σ H4 s4 ha4 hl4 ⟨gs,rfl,hG,u,rfl⟩;rw[ed,gN,fH (by rw[hrl]; omega)] at hG;refine⟨acc,_,rfl,.inl ⟨AM.of ha4,λrt hrt=>?_⟩⟩;have s5:=AY hrt (.AG (gs.map V.ref));have hR:Az AO (AF H4 rt (.AG (gs.map V.ref))) rt (Er (Bc (n+2) rs)):=⟨gs,AS,(hG.keep AZ (Dw H4 acc)).keep AZ s5⟩;generalize AF H4 rt (.AG (gs.map V.ref))=H5 at s5 hR;have s15:=(s0.trans s4).trans s5;refine⟨by exact Bh,λz1 hz1=>⟨by exact Bh,λz2 hz2=>⟨by exact Bh,λz3 hz3=>?_⟩⟩⟩;obtain⟨H6,zg,t1,zz⟩:=nw hz1 (.AG [.int 1,.int 1]);rw[zg] at hz2 hz3 ⊢;have e1:AO H6 z1 1:=zz;obtain⟨H7,zg,t2,zz⟩:=nw hz2 (.AG [.int 0,.int 1]);rw[zg] at hz3 ⊢;have e2:AO H7 z2 0:=zz;obtain⟨H8,zg,t3,e3⟩:=nw hz3 (.AG [.ref z1,.ref z2]);rw[zg];have s18:=s15.trans ((t1.trans t2).trans t3);refine⟨_,rfl,t,Bc (n+2) rs,n,rfl,⟨bs,s18 _ _ ha,hA.keep Fs s18⟩,sq,by omega,λpt H9 s9 hP=>?_⟩;refine⟨_,rfl,pt,rt,EL (Bc (n+2) rs),Er (Bc (n+2) rs),n,_,_,_,rfl,hP,FG (R:=AO) (λs h=>AZ s h) (((t1.trans t2).trans t3).trans s9) hR,ht.1,hrl,ht.2,k.tk,λz=>absurd z k.ne,λ_ pa H10 x s10 hx hX=>?_⟩;have htx:=k.htx hx;obtain⟨xs,hpa,hXs⟩:=hX;have s910:=s9.trans s10;have sAll:=(s1.trans s18).trans s910;have a1:At AO H10 ([z1,z2]++xs) (1 :: 0 :: (List.range n).map x):=by
   refine At.Pc (xs:=[1,0]) (At.snoc (bs:=[z1]) (xs:=[1]) (At.snoc (bs:=[]) (xs:=[]) At.nil ?_) ?_) hXs
   ·exact((t2.trans t3).trans s910) _ _ e1
   ·exact(t3.trans s910) _ _ e2
  rw[<-Vr] at a1;have lx:xs.length=n:=by rw[hXs.1]; simp
  refine⟨z3,pa,[.ref z1,.ref z2],xs.map V.ref,rfl,rfl,AJ.of (s910 _ _ e3),AJ.of hpa,by simp,by rw[ed]; exact D5 (by simp; omega),λz=>?_,λz p hp=>?_⟩
  ·have xe:xs=[]:=List.map_eq_nil_iff.mp z;subst xe;exact q z3 H10 _ sAll htx ⟨[z1,z2],s910 _ _ e3,a1⟩
  ·have sp:=AY hp (.AG ([.ref z1,.ref z2]++xs.map V.ref));exact q p _ _ (sAll.trans sp) htx ⟨[z1,z2]++xs,by rw[AS]; simp,a1.keep AZ sp⟩
theorem NW{t u:L2.TS}{D:C7}{σ:L2.St}{H:Hp}{G:L2.St->Hp->Prop}(m:∀U:L2.St->Hp->Prop,(∀σ H,G σ H->U σ H)->t { D with nx:=U } σ H)(r:∀σ H,G σ H->u D σ H):JO t u D σ H:=m _ r
def Uw(Z:Int)(N c:Nat)(q:Rat):Prop:=∃k:Int,(Z:Rat)*q=k/\k.natAbs<=c*2 ^ N
theorem Uw.DS{Z:Int}{N c d:Nat}{p q:Rat}(h:Uw Z N c p)(g:Uw Z N d q):Uw Z N (c+d) (p+q):=by
 obtain⟨k,h1,h2⟩:=h;obtain⟨l,g1,g2⟩:=g;refine⟨k+l,by rw[Rat.intCast_add,<-h1,<-g1]; grind,?_⟩;rw[Nat.add_mul];exact fY (Int.natAbs_add_le _ _) (Nat.add_le_add h2 g2)
theorem Uw.neg{Z:Int}{N c:Nat}{p:Rat}(h:Uw Z N c p):Uw Z N c (-p):=by
 obtain⟨k,h1,h2⟩:=h;exact⟨-k,by rw[Rat.intCast_neg,<-h1]; grind,by rw[Int.natAbs_neg]; exact h2⟩
theorem Uw.sub{Z:Int}{N c d:Nat}{p q:Rat}(h:Uw Z N c p)(g:Uw Z N d q):Uw Z N (c+d) (p-q):=by
 rw[Rat.sub_eq_add_neg]; exact h.DS g.neg
theorem Uw.mono{Z:Int}{N c d:Nat}{p:Rat}(h:Uw Z N c p)(e:c<=d):Uw Z N d p:=by
 obtain⟨k,h1,h2⟩:=h;exact⟨k,h1,fY h2 (Nat.mul_le_mul_right _ e)⟩
theorem Uw.zero(Z:Int)(N:Nat):Uw Z N 0 0:=⟨0,by rw[Rat.mul_zero]; rfl,by simp⟩
theorem Uw.sf{Z:Int}{N c:Nat}{q:Rat}(h:Uw Z N c q)(z0:Z≠0)(hz:Z.natAbs<=2 ^ 3900)(hc:c<=64)(hN:N+6<=3900):Sf q:=by
 obtain⟨k,h1,h2⟩:=h;refine Ia z0 h1 (fY h2 ?_) hz
 have:c*2 ^ N<=2 ^ (N+6):=by rw[Nat.pow_add,Nat.mul_comm]; exact iL _ hc
 exact fY this (gZ (by decide) hN)
structure Kp(n:Nat)(rs:List AQ)(X:Nat->Rat)(Z:Int)(N:Nat):Prop where
 z0:Z≠0
 zl:Z.natAbs<=2 ^ 3900
 nl:N+6<=3900
 hs:∀j,j<n+2->Sf (X j)
 fs:∀r∈rs,Sf (X r.1-X r.2.1)
 es:∀r∈rs,Sf r.2.2
 ru:∀r∈rs,Uw Z N 1 (Al X r)
theorem FW.T5{n m α β:Nat}{rs:List AQ}{X:Nat->Rat}(k:CV n m α β rs)(h:FW n ((8+β*m+α)*n) rs X):∃Z N,Kp n rs X Z N:=by
 obtain⟨W,w0,wl,wx⟩:=h.wh;have bd:=k.hb.bd;have bm:∀r∈rs,β<=β*m:=λr hr=>by
  have:0<rs.length:=iI hr
  have:=k.len
  exact Nat.le_mul_of_pos_right _ (by omega)
 generalize (8+β*m+α)*n=B at *;have hd:=k.den;have hp:=IZ rs;have fall:∀r∈rs,∃c:Int,(W:Rat)*(X r.1-X r.2.1)=c/\c.natAbs<=2 ^ (B+1):=λr hr=>by
  obtain⟨a1,a2,a3⟩:=k.Ct r hr;obtain⟨x,e1,l1⟩:=wx _ a1;obtain⟨y,e2,l2⟩:=wx _ a2;refine⟨x-y,by rw[Rat.intCast_sub,<-e1,<-e2]; grind,?_⟩
  have:=Int.natAbs_sub_le x y
  rw[Nat.pow_succ]; omega
 refine⟨W*(Cj rs:Int),β*m+α+(B+1),i7 w0 (by omega),?_,by omega,λj hj=>?_,λr hr=>?_,λr hr=>?_,λr hr=>?_⟩
 ·rw[gD,gj];exact fY (Ck wl hd) (gZ (by decide) (by omega))
 ·obtain⟨c,e,l⟩:=wx j hj;exact(Ia w0 e l wl).mono (by omega) (by omega)
 ·obtain⟨c,e,l⟩:=fall r hr;exact(Ia w0 e l wl).mono (by omega) (by omega)
 ·have:=bm r hr
  exact(k.Ct r hr).2.2.mono (by omega) (by omega)
 ·obtain⟨c,e,l⟩:=fall r hr;obtain⟨v,hv⟩:=NG (K3 hr);refine⟨v*c,?_,?_⟩
  ·rw[gK,gK,<-hv,<-e,ic];unfold Al; grind
  ·have ab:Ab ((2 ^ (β*m):Nat):Rat) ((Cj rs:Nat):Rat):=Hd (x:=(Cj rs:Int)) (by rw[gj]; exact hd);have vb:=ab.EM (k.Ct r hr).2.2.vb;rw[hv,<-Rat.natCast_mul,<-Nat.pow_add] at vb;rw[gD,Nat.one_mul];exact Ck (FI vb) l
theorem Kp.Cd{n:Nat}{rs:List AQ}{X:Nat->Rat}{Z:Int}{N:Nat}(s:Kp n rs X Z N)(i:Nat){r:AQ}(hr:r∈rs):Uw Z N 2 (Cd X i r):=by
 have h:=s.ru r hr
 have:∀c:Prop,[Decidable c]->Uw Z N 1 (if c then Al X r else 0):=λc _=>by
  by_cases e:c
  ·rw[ff e]; exact h
  ·rw[eZ e]; exact(Uw.zero Z N).mono (by omega)
 exact(this _).sub (this _)
theorem MY{X:Nat->Rat}{rs:List AQ}{k i:Nat}{r:AQ}(e:rs[k]?=some r):BB X (rs.take (k+1)) i=BB X (rs.take k) i+Wd.Cd X i r:=by
 unfold BB;rw[Cm e,fv,List.sum_append];simp only[fk,gY,gf,iZ,Rat.add_zero]
theorem Kp.sum{n:Nat}{rs:List AQ}{X:Nat->Rat}{Z:Int}{N:Nat}(s:Kp n rs X Z N)(i:Nat):∀k,k<=rs.length->Uw Z N (2*k) (BB X (rs.take k) i):=by
 intro k
 induction k with
 | zero=>intro _; exact Uw.zero Z N
 | succ k ih =>
  intro hk;have e:rs[k]?=some rs[k]:=eh hk;rw[MY e,iU];exact(ih (by omega)).DS (s.Cd i (iq _))
theorem C1{n i:Nat}(X:Nat->Rat)(h:i<n):((List.range n).map X)[i]?=some (X i):=by
 rw[fg,gA h]; rfl
inductive R3(vs:List V)(H:Hp)(Q:VK):Prop
 | mk (a b:Addr) (r:AQ) (n:Nat) (X:Nat->Rat) (h_0:vs=[.ref a,.ref b]) (h_1:Bf H a r) (h_2:Ed AO H b ((List.range n).map X)) (h_3:r.1<n) (h_4:r.2.1<n) (h_5:Sf (X r.1)) (h_6:Sf (X r.2.1)) (h_7:L4 H Q (X r.1-X r.2.1)):R3 vs H Q
def LK:Sp:=λvs H Q _=>R3 vs H Q
theorem dM:A3 ["rope","levels"] ["rope","levels"] (Ao sFallOf):=BC
theorem YR(F:Ar K "fall_of" "fall_of" sFallOf f fd)(G:AU P w K mg base 3 "minus" ["one","other"] (Bm λx y=>x-y)):
  An P w K mg base Ay 4 f fd ["rope","levels"] LK:=by
 refine F.BD dM λcdv A outer s H vs Q E hr h=>?_
 obtain⟨a,b,r,n,X,rfl,⟨e,ha,he⟩,⟨bs,hb,hB⟩,r1,r2,s1,s2,q⟩:=h;refine⟨_,AV (Am (Ae G hr (AA (A2 B5 (pv 1) (A2 Bj (pv 0) AD (λ_ _=>rfl)) (λ_ _=>rfl)) (AA (A2 B5 (pv 1) (A2 Bj (pv 0) AD (λ_ _=>rfl)) (λ_ _=>rfl)) AE)))),?_⟩;obtain⟨c1,h1,g1⟩:=hB.get (C1 X r1);obtain⟨c2,h2,g2⟩:=hB.get (C1 X r2);exact⟨_,rfl,_,rfl,a,_,_,_,rfl,rfl,AJ.of ha,Hv _ _ _,b,_,_,_,rfl,rfl,AM.of hb,BF (Be h1),_,rfl,_,rfl,a,_,_,_,rfl,rfl,AJ.of ha,Di _ _ _,b,_,_,_,rfl,rfl,AM.of hb,BF (Be h2),c1,c2,_,_,rfl,g1,g2,s1,s2,q⟩
inductive Q3(vs:List V)(H:Hp)(Q:VK):Prop
 | mk (a b:Addr) (n:Nat) (rs:List AQ) (X:Nat->Rat) (h_0:vs=[.ref a,.ref b]) (h_1:Ly H a n rs) (h_2:Ed AO H b ((List.range n).map X)) (h_3:rs.length<=100) (h_4:(∀r∈rs,r.1<n/\r.2.1<n/\Sf (X r.1)/\Sf (X r.2.1)/\Sf (X r.1-X r.2.1)/\Sf r.2.2)) (h_5:∀p H',AR H H'->Az AO H' p (rs.map (Al X))->Q (.ref p) H'):Q3 vs H Q
def Nl:Sp:=λvs H Q _=>Q3 vs H Q
theorem cx:A3 ["net","levels"] ["net","levels"] (Ao sRunBy):=BC
theorem bu:(["rope","levels"]:List Str).Nodup:=by decide +kernel
theorem Xs (F:Ar K "runnings_by" "runnings_by" sRunBy f fd) (G1:AU P w K mg base 3 "times" ["one","other"] (Bm λx y=>x*y))
  (G2:AU P w K mg base 4 "fall_of" ["rope","levels"] LK) (mt:mg "tuple" = none) :
  An P w K mg base Ay 5 f fd ["net","levels"] Nl:=by
 refine F.BD cx λcdv A outer s H vs Q E hr h=>?_
 obtain⟨a,b,n,rs,X,rfl,⟨ra,tv,ha,bs,hra,hRs⟩,hL,hm,hrs,q⟩:=h;have hr3:=hr.mono (show 3<=4 by decide);refine⟨_,AV (Am (Cn E8 (by rfl) mt Cb (AA (C3 (Nc:=["rope","levels"]) (cap:=[(1,1)]) (g:=BQ 0) (te:=D1 (Bm λx y=>x*y) [] E0 (BJ (By (GH K) (Ax 0) (tC (.int 2))) (BJ (D1 LK [] E0 (BJ (Ax 0) (BJ (Ax 1) CF))) CF))) rfl (Eo (A2 Bj (pv 0) AD (λ_ _=>rfl)))
   (CJ rfl rfl (by decide +kernel) (by decide +kernel) (ft.mpr ⟨⟨rfl,rfl⟩,fh _⟩) rfl (ft.mpr ⟨⟨_,_,rfl,rfl,rfl,rfl,rfl⟩,fh _⟩)) (λ_ _ _ _ _=>Ah (i:=0) bu rfl (Or.inl rfl))
   (λ_ _ _ _ _=>Ae G1 hr3 (AA (A2 Bj (pv 0) AD (λ_ _=>rfl)) (AA (Ae G2 hr (AA (pv 0) (AA (pv 1) AE))) AE)))) AE))),?_⟩
 have lb:bs.length=rs.length:=hRs.1;refine⟨_,rfl,a,_,_,_,rfl,rfl,AJ.of ha,Di _ _ _,ra,rfl,⟨_,AJ.of hra⟩,λacc hacc=>?_⟩;refine CN (HR hra) (by rw[ed]; omega) hacc (λi ys σ hp=>∃ds:List Addr,ys=ds.map V.ref/\At AO hp ds ((rs.map (Al X)).take i)/\∃u,σ=[u,some (.ref b)]) ⟨[],rfl,At.nil,none,rfl⟩ ?_ ?_
 ·rintro i ys σ H3 x H4 hi sm hacc2 ⟨ds,rfl,hD,u,rfl⟩ ⟨rfl,hx⟩ Cc hC;obtain⟨c,r,rfl,_,hy,e,hc,he⟩:=hRs.ref hx;obtain⟨r1,r2,s1,s2,s3,s4⟩:=hrs r (eQ hy);refine⟨_,rfl,c,_,_,_,rfl,rfl,AJ.of (sm _ _ hc),Gu _ _ _,_,rfl,_,rfl,c,b,r,n,X,rfl,⟨e,sm _ _ hc,sm _ _ he⟩,Ld (R:=AO) (λs h=>AZ s h) sm hL,r1,r2,s1,s2,λp hp=>?_⟩;obtain⟨H5,zg,sp,hf⟩:=HG hp (X r.1-X r.2.1);rw[zg];refine⟨e,p,_,_,rfl,sp _ _ (sm _ _ he),hf,s4,s3,λp2 hp2=>?_⟩;have sp2:=AY hp2 (.AG [.int (r.2.2*(X r.1-X r.2.1)).num,.int (r.2.2*(X r.1-X r.2.1)).den]);have sA:=sp.trans sp2;refine hC _ _ _ sA ⟨ds++[p2],by simp,?_,_,rfl⟩;have ec:(rs.map (Al X))[i]?=some (Al X r):=by rw[fg,hy]; rfl
  rw[Cm ec];exact(hD.keep AZ (EX acc sA)).snoc (AO.Ba (q:=Al X r) AS (sA _ _ hacc2))
 ·rintro ys σ H4 s4 ha4 hl4 ⟨gs,rfl,hG,u,rfl⟩;rw[ed,lb,fH (by rw[ed]; exact eU _)] at hG;refine⟨acc,_,rfl,.inl ⟨AM.of ha4,λp hp=>?_⟩⟩;have sp:=AY hp (.AG (gs.map V.ref));exact q p _ (s4.trans sp) ⟨gs,AS,(hG.keep AZ (Dw H4 acc)).keep AZ sp⟩
end
end My
namespace My
open PySem L2 Mth
section
variable {P:Program} {w:World} {K:PySem.W.Frag} {mg:Str->Option Value} {base:Heap}
inductive TM(vs:List V)(H:Hp)(Q:VK):Prop
 | mk (e:Int) (h_0:vs=[.int e]) (h_1:Q (.int (oth e)) H):TM vs H Q
def OO:Sp:=λvs H Q _=>TM vs H Q
theorem cB:A3 ["end"] ["end"] (Ao sOther):=BC
theorem Xf{f:Addr}{fd:FuncData}(F:Ar K "other_end" "other_end" sOther f fd):An P w K mg base Ay 1 f fd ["end"] OO:=by
 refine F.BD cB λcdv A outer s H vs Q E hr h=>?_
 obtain⟨e,rfl,q⟩:=h;refine⟨_,AV (Am (Qy (BX EF (AK Bl (pv 0) AD) AD (BM _)) (AK BH (pv 0) AD) (AK Cq (pv 0) AD))),?_⟩;refine⟨_,rfl,_,_,rfl,rfl,(show(0:Int)<2 by decide),rfl,_,rfl,?_⟩;unfold oth at q;by_cases h:e % 2=0
 ·rw[ff h] at q;exact DH (iv h) ⟨_,rfl,_,_,rfl,rfl,q⟩
 ·rw[eZ h] at q;exact DL (E6 h) ⟨_,rfl,_,_,rfl,rfl,q⟩
inductive Qs(vs:List V)(H:Hp)(Q:VK):Prop
 | mk (a:Addr) (bs:List Addr) (ts:List (List Int)) (n:Nat) (h_0:vs=[.ref a]) (h_1:HF H a bs ts) (h_2:CC n ts) (h_3:n<=1000) (h_4:∀d H',AR H H'->H d=none->H' d=some (.dK (A7 (Aq ts)))->Q (.ref d) H'):Qs vs H Q
def Ij:Sp:=λvs H Q _=>Qs vs H Q
def Nt(K:PySem.W.Frag):TS:=JO (JN Sk (BQ 1)) (JO (Oy (Oo K (Ax 0)) (BQ 2) (Oy (UA (BJ (Ax 2) CF)) (IC K 2 (Fu (BQ 3) (Fu (BQ 4) KR)))
 (To (Ax 1) (Ax 4) (By (GH K) (Ax 2) (By (Fc λi j=>.int (i-j)) (Ax 3) (tC (.int 1))))))) (Ob (Ax 1)))
theorem Qc{H:Hp}{Q:VK}{a:Addr}{bs:List Addr}{ts:List (List Int)}{n:Nat}{nx:St->Hp->Prop}(hT:HF H a bs ts)(T:CC n ts)(hn:n<=1000)(q:∀d H',AR H H'->H d=none->H' d=some (.dK (A7 (Aq ts)))->Q (.ref d) H'):
  Nt K { nx:=nx,rt:=Q } [some (.ref a),none,none,none,none] H:=by
 intro d hd
 try dsimp only
 try refine Co ?_
 first | refine DA λUL1 hUL1=>?_ | refine nx_hide λUL1 hUL1=>?_
 refine⟨_,rfl,a,rfl,⟨_,AJ.of (AY hd _ _ _ hT.1)⟩,?_⟩;refine HS (xs:=bs.map V.ref) (λi σ H2=>∃t k e,σ=[some (.ref a),some (.ref d),t,k,e]/\AR H H2/\H2 d=some (.dK (A7 (Aq (ts.take i))))) ⟨none,none,none,rfl,AY hd _,AS⟩ (λi σ H2 _ ⟨_,_,_,_,s,_⟩=>AJ.of (s _ _ hT.1)) ?_ ?_
 ·rintro i x σ H2 hx ⟨t0,k0,e0,rfl,sm,hd2⟩;obtain⟨b,row,rfl,hb,hrow⟩:=Ti hT.2.1 hx;have hB:=sm _ _ (hT.2.2 i b row hb hrow)
  try dsimp only
  try refine Co ?_
  first | refine DA λUL2 hUL2=>?_ | refine nx_hide λUL2 hUL2=>?_
  refine⟨_,rfl,b,_,rfl,hB,?_⟩;refine Ig (xs:=row.map V.int) (λj σ H3=>∃k e,σ=[some (.ref a),some (.ref d),some (.ref b),k,e]/\AR H H3/\H3 d=some (.dK (A7 (Aq (ts.take i)++(A5 row).take j)))) ⟨k0,e0,rfl,sm,by rw[List.take_zero,iF]; exact hd2⟩
   (λj σ H3 _ ⟨_,_,_,s,_⟩=>s _ _ (hT.2.2 i b row hb hrow)) ?_ ?_
  ·rintro j x σ H3 p hx3 ⟨k1,e1,rfl,sm3,hd3⟩ hp;obtain⟨e,rfl,he⟩:=Ep hx3;have hj:j<row.length:=(eu.mp he).1;have sm4:AR H (AF H3 p (.AG [.int j,.int e])):=sm3.trans (AY hp _);have hd4:(AF H3 p (.AG [.int j,.int e])) d=some (.dK (A7 (Aq (ts.take i)++(A5 row).take j))):=AY hp _ _ _ hd3;have keys:(Aq (ts.take i)++(A5 row).take j).map (·.1)=(ts.take i).flatten++row.take j:=by
    rw[fv,El,List.map_take,IY]
   have fr:e∉(Aq (ts.take i)++(A5 row).take j).map (·.1):=by rw[keys]; exact Jh T.nd hrow he
   have ln:(A7 (Aq (ts.take i)++(A5 row).take j)).length<sizeLine:=by
    have l1:=congrArg List.length keys;rw[ed] at l1;have l2:((ts.take i).flatten++row.take j).length<=n:=by
     rw[<-T.len];have e1:ts=ts.take i++ts.drop i:=(iN i ts).symm;have hd:ts.drop i=row :: ts.drop (i+1):=by
      obtain⟨hi,q1⟩:=eu.mp hrow;rw[<-q1,iV]
     have e2:ts.flatten.length=(ts.take i).flatten.length+(row.length+(ts.drop (i+1)).flatten.length):=by
      conv=>lhs; rw[e1,hd]
      rw[gQ,fZ,fj,fj]
     rw[e2,fj,g9];omega
    rw[ed,l1];exact Ca (by omega)
   refine⟨p,_,rfl,AJ.of AS,rfl,_,_,rfl,_,_,rfl,rfl,?_⟩;refine⟨_,rfl,_,rfl,_,_,rfl,rfl,b,_,_,_,rfl,rfl,AJ.of (sm4 _ _ (hT.2.2 i b row hb hrow)),RV hj,_,rfl,_,rfl,d,_,rfl,DR.k (k:=Sum.inl e) hd4 ln,?_⟩;refine⟨_,_,rfl,sm4.up hd _,?_⟩;rw[AS,GY fr,gW];have rp:(A5 row)[j]?=some (e,En row j):=by
    unfold A5;rw[fg,gA hj];show some (row.getD j 0,En row j)=_;rw[eO,he];rfl
   rw[Dr rp]
  ·rintro σ H3 ⟨k1,e1,rfl,sm3,hd3⟩;subst hUL2;refine⟨_,_,_,rfl,sm3,?_⟩;rw[hd3,Dr hrow,Pg,ed,show(A5 row).take row.length=A5 row from fH (by rw[Mr]; exact eU _)]
 ·rintro σ H2 ⟨t0,k0,e0,rfl,sm,hd2⟩;subst hUL1;refine⟨_,rfl,q d H2 sm hd ?_⟩;rw[hd2,ed,fH (by rw[hT.2.1]; exact eU _)]
theorem KL:A3 ["turns","ahead","turn","k","end"] ["turns"] (Ao sAhead):=BC
theorem Xx{f:Addr}{fd:FuncData}(F:Ar K "ends_ahead" "ends_ahead" sAhead f fd)(me:mg "enumerate" = none):An P w K mg base Ay 1 f fd ["turns"] Ij:=by
 refine F.BD KL λcdv A outer s H vs Q E hr h=>?_
 obtain⟨a,bs,ts,n,rfl,hT,T,hn,q⟩:=h;have hu:=Eu hr;refine⟨Nt K,AN (Aa (i:=1) KL.nd rfl (Or.inl rfl) IX)
  (AN (Bu fT rfl (Eo (pv 0)) (Ah (i:=2) KL.nd rfl (Or.inl rfl))
   (AV (Bu fT rfl (HW (by rfl) me (AA (pv 2) AE)) (Ga rfl (BE (Ah (i:=3) KL.nd rfl (Or.inl rfl)) (BE (Ah (i:=4) KL.nd rfl (Or.inl rfl)) CO)))
    (AV (EZ hu (pv 1) (pv 4) (A2 Bj (pv 2) (AK Cq (pv 3) AD) (λ_ _=>rfl)) rfl)))))
  (AV (Am (pv 1)))),Qc hT T hn q⟩
inductive Rk(vs:List V)(H:Hp)(Q:VK):Prop
 | mk (s:Int) (d:Addr) (ts:List (List Int)) (n:Nat) (h_0:vs=[.int s,.ref d]) (h_1:H d=some (.dK (A7 (Aq ts)))) (h_2:CC n ts) (h_3:n<=1000) (h_4:AH n s) (h_5:∀p H',AR H H'->H p=none->H' p=some (.AG ((BI (AL ts) s).map V.int))->Q (.ref p) H'):Rk vs H Q
def Nu:Sp:=λvs H Q _=>Rk vs H Q
theorem Lx:A3 ["start","ahead","ring","end"] ["start","ahead"] (Ao sRingFrom):=BC
theorem Vd{f:Addr}{fd:FuncData}(F:Ar K "ring_from" "ring_from" sRingFrom f fd)(G:AU P w K mg base 1 "other_end" ["end"] OO)(mt:mg "tuple" = none):
  An P w K mg base Ay 2 f fd ["start","ahead"] Nu:=by
 refine F.BD Lx λcdv A outer s H vs Q E hr h=>?_
 obtain⟨s0,d,ts,n,rfl,hd,T,hn,hs,q⟩:=h;have hu:=Eu hr;have PM:=T.perm;have PE:=Fp PM hs;refine⟨_,AN (Aa (i:=2) Lx.nd rfl (Or.inl rfl) (CB (AA (pv 0) AE)))
  (AN (Aa (i:=3) Lx.nd rfl (Or.inl rfl) (DE hu (pv 1) (Ae G hr (AA (pv 0) AE)) (λ_ _=>rfl)))
  (AN (Ie fT (BX FP (pv 3) (pv 0) (BM _))
   (AN (DB (C4 K gh gL gM Ds (pv 2) (AA (pv 3) AE)))
    (AV (Aa (i:=3) Lx.nd rfl (Or.inl rfl) (DE hu (pv 1) (Ae G hr (AA (pv 3) AE)) (λ_ _=>rfl))))))
  (AV (Am (Cn E8 (by rfl) mt Cb (AA (pv 2) AE)))))),?_⟩
 refine⟨_,rfl,by exact EO,λl hl=>?_⟩;refine⟨_,rfl,_,rfl,s0,rfl,d,_,rfl,Im (AY hl _ _ _ hd) (T.Jz hs),?_⟩;refine Ic (λσ H2=>∃j,1<=j/\j<=BU (AL ts) s0/\σ=[some (.int s0),some (.ref d),some (.ref l),some (.int (A1 (AL ts) j s0))]/\AR H H2/\H2 l=some (.AB ((Ci (AL ts) s0 j).map V.int)))
  (λ_ H2=>match H2 l with | some (.AB xs)=>BU (AL ts) s0-xs.length | _=>0) ⟨1,eU _,PE.1,rfl,AY hl _,AS⟩ ?_ ?_
 ·rintro σ H2 ⟨j,j1,j2,rfl,sm,hl2⟩;refine⟨_,rfl,_,rfl,rfl,_,rfl,?_⟩;by_cases he:A1 (AL ts) j s0=s0
  ·refine FO (iv he) ?_;have hj:j=BU (AL ts) s0:=by
    rcases gc j (BU (AL ts) s0) with z | z
    ·exact absurd he (PE.2.2 j j1 z)
    ·omega
   subst hj;refine⟨_,rfl,l,_,rfl,.inl ⟨AM.of hl2,λp hp=>?_⟩⟩;exact q p _ (sm.trans (AY hp _)) (sm.free hp) AS
  ·refine JH (E6 he) ?_;have hj:j<BU (AL ts) s0:=by
    rcases gc j (BU (AL ts) s0) with z | z
    ·exact z
    ·exact absurd (by rw[show j=BU (AL ts) s0 by omega]; exact PE.2.1) he
   have hpl:=TF PM hs;have hlen:(Ci (AL ts) s0 j).length=j:=MQ;refine⟨_,rfl,.inl ⟨rfl,_,AM.of hl2⟩,_,rfl,l,_,_,rfl,rfl,hl2,by rw[ed,hlen]; exact Ca (by omega),?_⟩;have sm2:=sm.up hl (.AB ((Ci (AL ts) s0 j).map V.int++[.int (A1 (AL ts) j s0)]));refine⟨_,rfl,_,rfl,_,rfl,d,_,rfl,Im (sm2 _ _ hd) (T.Jz (Dg PM hs j)),?_⟩;refine⟨⟨j+1,by omega,hj,rfl,sm2,?_⟩,?_⟩
   ·rw[AS,P5,fv];rfl
   ·rw[AS,hl2];show BU (AL ts) s0-((Ci (AL ts) s0 j).map V.int++[V.int (A1 (AL ts) j s0)]).length<BU (AL ts) s0-((Ci (AL ts) s0 j).map V.int).length;rw[fj,ed,hlen,iu];omega
 ·rintro σ H2 Q1 Q2 hq ⟨v,e,v',e',sc,b,eb,z⟩;exact⟨v,e,v',e',sc,b,eb,hq _ _ z⟩
def Gj(H:Hp)(bs:List Addr)(R:List (List Int)):Prop:=bs.length=R.length/\∀(i:Nat) (b:Addr) (row:List Int),bs[i]?=some b->R[i]?=some row->H b=some (.AG (row.map V.int))
theorem Gj.snoc{H H':Hp}{bs:List Addr}{R:List (List Int)}{b:Addr}{row:List Int}(h:Gj H bs R)(s:∀c ys,H c=some (.AG ys)->H' c=some (.AG ys))(hb:H' b=some (.AG (row.map V.int))):Gj H' (bs++[b]) (R++[row]):=by
 refine⟨by rw[fj,fj,h.1]; rfl,λi c r e1 e2=>?_⟩;rcases gc i bs.length with z | z
 ·rw[fN z] at e1;rw[fN (by rw[<-h.1]; exact z)] at e2;exact s _ _ (h.2 i c r e1 e2)
 ·have hi:i<bs.length+1:=by
   have:=(eu.mp e1).1
   rw[fj] at this;exact this
  have hi2:i=bs.length:=by omega
  subst hi2;rw[fu (eU _),jq] at e1;rw[h.1,fu (eU _),jq] at e2;cases e1;cases e2;exact hb
theorem Gj.keep{H H':Hp}{bs:List Addr}{R:List (List Int)}(h:Gj H bs R)(s:∀c ys,H c=some (.AG ys)->H' c=some (.AG ys)):Gj H' bs R:=⟨h.1,λi b r e1 e2=>s _ _ (h.2 i b r e1 e2)⟩
theorem B6.AG{x:Addr}{H H':Hp}(h:B6 x H H')(hx:∀ys,H x≠some (.AG ys)):∀c ys,H c=some (.AG ys)->H' c=some (.AG ys):=λc ys e=>h c _ (λz=>hx ys (z ▸ e)) e
theorem MR{φ:Int->Int}{n:Nat}(PM:Fy φ n){i:Nat}(hi:i<=n):(Aw φ i).flatten.length<=n/\(Aw φ i).length<=n:=by
 have L:=Fh PM i hi;have inn:∀x∈(Aw φ i).flatten,AH n x:=λx hx=>by
  obtain⟨r,hr,hx⟩:=fV.mp hx;obtain⟨s,hs,_,e,_⟩:=L.of r hr;subst e;exact Ik PM hs hx
 have h1:=Ge n _ L.nd inn;refine⟨h1,fY ?_ h1⟩
 have:∀R:List (List Int),(∀r∈R,1<=r.length)->R.length<=R.flatten.length:=by
  intro R
  induction R with
  | nil=>intro _; exact eU _
  | cons r R ih =>
   intro h;have h2:=ih λr' hr'=>h r' (gJ _ hr')
   have h3:=h r (ir ..);rw[fZ,fj,gq];omega
 refine this _ λr hr=>?_
 obtain⟨s,hs,_,e,_⟩:=L.of r hr;subst e;exact iI (Fi PM hs)
inductive Qm(vs:List V)(H:Hp)(Q:VK):Prop
 | mk (a:Addr) (bs:List Addr) (ts:List (List Int)) (n:Nat) (h_0:vs=[.ref a]) (h_1:HF H a bs ts) (h_2:CC n ts) (h_3:n<=1000) (h_4:∀p cs H',AR H H'->H p=none->H' p=some (.AG (cs.map V.ref))->Gj H' cs (Aw (AL ts) n)->Q (.ref p) H'):Qm vs H Q
def NP:Sp:=λvs H Q _=>Qm vs H Q
theorem IA:A3 ["turns","ahead","seen","lands","start","ring","end"] ["turns"] (Ao sRings):=BC
theorem Xh {f:Addr} {fd:FuncData} (F:Ar K "rings" "rings" sRings f fd) (G:AU P w K mg base 1 "ends_ahead" ["turns"] Ij)
  (G2:AU P w K mg base 2 "ring_from" ["start","ahead"] Nu)
  (ml:mg "len" = none) (mr:mg "range" = none) (mt:mg "tuple" = none):An P w K mg base Ay 3 f fd ["turns"] NP:=by
 refine F.BD IA λcdv A outer s H vs Q E hr h=>?_
 obtain⟨a,bs,ts,n,rfl,hT,T,hn,q⟩:=h;have hu:=Eu hr;have PM:=T.perm;refine⟨_,AN (Aa (i:=1) IA.nd rfl (Or.inl rfl) (Ae G (hr.mono (by decide)) (AA (pv 0) AE)))
  (AN (Aa (i:=2) IA.nd rfl (Or.inl rfl) IX)
  (AN (Aa (i:=3) IA.nd rfl (Or.inl rfl) (CB AE))
  (AN (Bu fT rfl (HK (by rfl) mr (AA (A8 MW (by rfl) ml BR (AA (pv 1) AE)) AE)) (Ah (i:=4) IA.nd rfl (Or.inl rfl))
   (AV (BZ (Fq (Jg hu (pv 4) (pv 2)))
    (AN (Aa (i:=5) IA.nd rfl (Or.inl rfl) (Ae G2 hr (AA (pv 4) (AA (pv 1) AE))))
    (AN (Bu fT rfl (Eo (pv 5)) (Ah (i:=6) IA.nd rfl (Or.inl rfl)) (AV (EZ hu (pv 2) (pv 6) Gi rfl)))
    (AV (DB (C4 K gh gL gM Ds (pv 3) (AA (pv 5) AE)))))) Bp)))
  (AV (Am (Cn E8 (by rfl) mt Cb (AA (pv 3) AE))))))),?_⟩
 refine⟨_,rfl,a,bs,ts,n,rfl,hT,T,hn,λd H1 s1 nd hd=>?_⟩;intro sn hsn;refine⟨by exact FZ,λld hld=>?_⟩;have s2:AR H1 (AF H1 sn (.dK [])):=AY hsn _;have s3:AR (AF H1 sn (.dK [])) (AF (AF H1 sn (.dK [])) ld (.AB [])):=AY hld _;have dsn:d≠sn:=BL hd hsn;have lsn:ld≠sn:=λz=>by rw[z,AS] at hld; cases hld
 have dld:d≠ld:=BL (s2 _ _ hd) hld;have fsn:H sn=none:=s1.free hsn;have fld:H ld=none:=(s1.trans s2).free hld;have hlenA:(A7 (Aq ts)).length=n:=by rw[ed,T.UQ]
 try dsimp only
 try refine Co ?_
 first | refine DA λUL1 hUL1=>?_ | refine nx_hide λUL1 hUL1=>?_
 refine⟨_,rfl,d,_,rfl,s3 _ _ (s2 _ _ hd),((A7 (Aq ts)).length:Int),rfl,by omega,by omega,?_⟩;rw[show(((A7 (Aq ts)).length:Int)).toNat=n by omega];refine Kt (n:=n) (λi σ H2=>∃st rg en cs,σ=[some (.ref a),some (.ref d),some (.ref sn),some (.ref ld),st,rg,en]/\AR H H2/\H2 d=some (.dK (A7 (Aq ts)))/\H2 sn=some (.dK (JY (Aw (AL ts) i).flatten)) /\
  H2 ld=some (.AB (cs.map V.ref))/\Gj H2 cs (Aw (AL ts) i)) ⟨none,none,none,[],rfl,s1.trans (s2.trans s3),s3 _ _ (s2 _ _ hd),?_,AS,⟨rfl,λi b row e1 e2=>by simp at e1⟩⟩ ?_ ?_
 ·rw[Ad (iB lsn),AS];rfl
 ·rintro i σ H2 hi ⟨st,rg,en,cs,rfl,sm,hd2,hsn2,hld2,hR⟩;have hin:AH n (i:Int):=⟨by omega,by omega⟩;have L:=Fh PM i (by omega);refine⟨_,rfl,_,rfl,sn,_,rfl,CT.k (k:=Sum.inl ((0:Int)+(i:Nat))) hsn2,_,rfl,?_⟩;rw[NJ,show(0:Int)+(i:Nat)=(i:Int) by omega];by_cases hm:(i:Int)∈(Aw (AL ts) i).flatten
  ·rw[ff hm];have e0:=P6 hm;refine CG ⟨_,_,_,cs,rfl,sm,hd2,?_,hld2,?_⟩
   ·rw[hsn2,e0]
   ·rw[e0];exact hR
  ·rw[eZ hm];refine Dk ?_;have e1:=Po hm;refine⟨_,rfl,_,rfl,(i:Int),d,ts,n,rfl,hd2,T,hn,hin,λr H3 s4 nr hr3=>?_⟩;have sm3:=sm.trans s4;have rsn:r≠sn:=λz=>by rw[z,hsn2] at nr; cases nr
   have ll:=MR PM (i:=i+1) (by omega);rw[e1,gQ,fj,fj] at ll;simp only[fZ,List.flatten_nil,iF,iu] at ll
   try dsimp only
   try refine Co ?_
   first | refine DA λUL2 hUL2=>?_ | refine nx_hide λUL2 hUL2=>?_
   refine⟨_,rfl,r,rfl,⟨_,AJ.of hr3⟩,?_⟩;refine HS (xs:=(BI (AL ts) i).map V.int) (λk σ H4=>∃en,σ=[some (.ref a),some (.ref d),some (.ref sn),some (.ref ld),some (.int (i:Int)),some (.ref r),en]/\B6 sn H3 H4/\H4 sn=some (.dK (JY ((Aw (AL ts) i).flatten++(BI (AL ts) i).take k))))
    ⟨en,rfl,B6.refl _ _,by rw[List.take_zero,iF]; exact s4 _ _ hsn2⟩ (λk σ H4 _ ⟨_,_,sb,_⟩=>AJ.of (sb _ _ rsn hr3)) ?_ ?_
   ·rintro k x σ H4 hx ⟨en4,rfl,sb,hs4⟩;obtain⟨e,rfl,he⟩:=Ep hx;have fr:e∉(Aw (AL ts) i).flatten++(BI (AL ts) i).take k:=by
     have nd2:=(Fh PM (i+1) (by omega)).nd;rw[e1] at nd2;have hii:(Aw (AL ts) i++[BI (AL ts) i])[(Aw (AL ts) i).length]?=some (BI (AL ts) i):=by
      rw[fu (eU _),jq];rfl
     have:=Jh nd2 hii he
     rw[List.take_append_of_le_length (eU _),iG] at this;exact this
    refine⟨_,rfl,_,rfl,sn,_,rfl,DR.k (k:=Sum.inl e) hs4 ?_,?_⟩
    ·rw[ed,fj,g9];exact Ca (by omega)
    ·refine⟨_,rfl,sb.put _,?_⟩;rw[AS,ZM fr,gW,Dr he]
   ·rintro σ H4 ⟨en4,rfl,sb,hs4⟩;subst hUL2;rw[ed,iG] at hs4;have hld4:H4 ld=some (.AB (cs.map V.ref)):=sb _ _ lsn (s4 _ _ hld2);refine⟨_,rfl,.inl ⟨rfl,_,AM.of hld4⟩,_,rfl,ld,_,_,rfl,rfl,hld4,by rw[ed,hR.1]; exact Ca (by omega),?_⟩;have tups:∀c ys,H3 c=some (.AG ys)->(AF H4 ld (.AB (cs.map V.ref++[.ref r]))) c=some (.AG ys):=λc ys e=>by
     have n1:c≠sn:=λz=>by rw[z,s4 _ _ hsn2] at e; cases e
     have n2:c≠ld:=λz=>by rw[z,s4 _ _ hld2] at e; cases e
     rw[Ad n2];exact sb _ _ n1 e
    refine⟨_,_,_,cs++[r],rfl,?_,?_,?_,?_,?_⟩
    ·exact(sb.same sm3 fsn).up fld _
    ·rw[Ad dld];exact sb _ _ dsn (s4 _ _ hd2)
    ·rw[Ad (iB lsn),hs4,e1,gQ];simp
    ·rw[AS,fv];rfl
    ·rw[e1];exact(hR.keep λc ys e=>s4 _ _ e).snoc tups (tups _ _ hr3)
 ·rintro σ H2 ⟨st,rg,en,cs,rfl,sm,hd2,hsn2,hld2,hR⟩;subst hUL1;refine⟨_,rfl,ld,_,rfl,.inl ⟨AM.of hld2,λp hp=>?_⟩⟩;exact q p cs _ (sm.trans (AY hp _)) (sm.free hp) AS (hR.keep λc ys e=>AY hp _ _ _ e)
def Mq:Sp:=λvs H Q _=>∃(a:Addr) (bs:List Addr) (ts:List (List Int)) (n:Nat),vs=[.ref a]/\HF H a bs ts/\CC n ts/\n<=1000 /\
 ∀p H',AR H H'->H p=none->H' p=some (.AG (((List.range n).map λe:Nat=>(lk (CH 0 (Aw (AL ts) n)) (e:Int)).getD 0).map V.int))->Q (.ref p) H'
theorem KZ:A3 ["turns","numbers","number","ring","end"] ["turns"] (Ao sLandOf):=BC
theorem aw:(["end","numbers"]:List Str).Nodup:=by decide +kernel
theorem Qu{R:List (List Int)}{j:Nat}{row:List Int}(h:R[j]?=some row)(k:Nat):((CH 0 (R.take j)++(row.take k).map λe=>(e,(j:Int))).map (·.1))=(R.take j).flatten++row.take k:=by
 rw[fv,E9,gG];congr 1;exact List.map_id'' (λ_=>rfl) _
theorem Qz{R:List (List Int)}{j:Nat}{row:List Int}(h:R[j]?=some row):CH 0 (R.take (j+1))=CH 0 (R.take j)++row.map λe=>(e,(j:Int)):=by
 have hj:j<R.length:=(eu.mp h).1;rw[Dr h,MS,g9,Nat.zero_add,Nat.min_eq_left (by omega)]
theorem Qt{R:List (List Int)}{i:Nat}{row:List Int}(h:R[i]?=some row)(j:Nat):((R.take i).flatten++row.take j).length<=R.flatten.length:=by
 obtain⟨hi,q1⟩:=eu.mp h;have e1:R=R.take i++row :: R.drop (i+1):=by rw[<-q1,iV,iN]
 have e2:R.flatten.length=(R.take i).flatten.length+(row.length+(R.drop (i+1)).flatten.length):=by
  conv=>lhs; rw[e1]
  rw[gQ,fZ,fj,fj]
 rw[e2,fj,g9];omega
theorem W3 {D:Addr} {L:List (Int×Int)} {n:Nat} {H1:Hp} {acc:Addr} {G:Hp->Prop} {σ0:St} (hσ:σ0=[none,some (.ref D)]) (hD:H1 D=some (.dK (A7 L))) (hl:∀e:Nat,e<n->∃v,lk L e=some v) (hn:n<=1000) (hacc:H1 acc=none)
  (fin:∀H2,AR H1 H2->H2 acc=some (.AB (((List.range n).map λe:Nat=>(lk L (e:Int)).getD 0).map V.int))->G H2) :
  ∃W:Nat->Nat->List V->St->Hp->Prop,(∃m,W 0 m [] σ0 (AF H1 acc (.AB [])))/\∀i m ys σc H2,W i m ys σc H2 →
  ((E3 0 n).stop i H2/\G H2)\/((E3 0 n).go i H2/\∀x H3,(E3 0 n).D6 i H2 x H3->BQ 0 x σc H3 λσ4 H4=>JE (Ax 1) (Ax 0) σ4 H4 λv H5=>H5 acc=some (.AB ys)/\ys.length<sizeLine/\∃m',m' < m/\W (i+1) m' (ys++[v]) σ4 (AF H5 acc (.AB (ys++[v])))):=by
 refine⟨λi m ys σc H2=>m=n-i/\i<=n/\AR H1 H2/\H2 acc=some (.AB ys)/\ys=((List.range i).map λe:Nat=>(lk L (e:Int)).getD 0).map V.int/\∃u,σc=[u,some (.ref D)],⟨n,rfl,gP _,AY hacc _,AS,rfl,none,hσ⟩,?_⟩;rintro i m ys σc H2 ⟨rfl,hi,sm,ha,hys,u,rfl⟩;rcases gc i n with hlt | hge
 ·refine .inr ⟨hlt,λx H3 yl=>?_⟩;obtain⟨rfl,rfl⟩:=yl;obtain⟨v,hv⟩:=hl i hlt;refine⟨_,rfl,_,rfl,D,.int v,rfl,?_,ha,?_,n-(i+1),by omega,rfl,hlt,?_,AS,?_,_,rfl⟩
  ·rw[show(0:Int)+(i:Nat)=(i:Int) by omega];exact Im (sm _ _ hD) hv
  ·rw[hys,ed,ed,fK];exact Ca (by omega)
  ·exact sm.up hacc _
  ·rw[hys,List.range_succ,fv,fv,fk,gY,hv];rfl
 ·obtain rfl:i=n:=by omega
  exact .inl ⟨eU _,fin H2 sm (by rw[ha,hys])⟩
theorem We {f:Addr} {fd:FuncData} (F:Ar K "land_of" "land_of" sLandOf f fd) (G:AU P w K mg base 3 "rings" ["turns"] NP)
  (ml:mg "len" = none) (mr:mg "range" = none) (mt:mg "tuple" = none) (me:mg "enumerate" = none):An P w K mg base Ay 4 f fd ["turns"] Mq:=by
 refine F.ok KZ (λvs H Q E h=>?_) (λcdv A outer s H vs Q E hr h=>?_)
 ·obtain⟨a,bs,ts,n,rfl,_⟩:=h;rfl
 obtain⟨a,bs,ts,n,rfl,hT,T,hn,q⟩:=h;have hu:=Eu hr;have PM:=T.perm;have nd:=Jp PM;have flen:=Pd PM;refine⟨_,AN (Aa (i:=1) KZ.nd rfl (Or.inr rfl) IX)
  (AN (Bu fT rfl (HW (by rfl) me (AA (Ae G hr (AA (pv 0) AE)) AE)) (Ga rfl (BE (Ah (i:=2) KZ.nd rfl (Or.inl rfl)) (BE (Ah (i:=3) KZ.nd rfl (Or.inl rfl)) CO)))
   (AV (Bu fT rfl (Eo (pv 3)) (Ah (i:=4) KZ.nd rfl (Or.inl rfl)) (AV (EZ hu (pv 1) (pv 4) (pv 2) rfl)))))
  (AV (Am (Cn E8 (by rfl) mt Cb (AA (C3 (Nc:=["end","numbers"]) (cap:=[(1,1)]) (g:=BQ 0) (te:=JE (Ax 1) (Ax 0)) rfl (HK (by rfl) mr (AA (A8 MW (by rfl) ml BR (AA (pv 1) AE)) AE))
   (CJ rfl rfl (by decide +kernel) (by decide +kernel) (ft.mpr ⟨⟨rfl,rfl⟩,fh _⟩) rfl (ft.mpr ⟨⟨_,_,rfl,rfl,rfl,rfl,rfl⟩,fh _⟩))
   (λ_ _ _ _ _=>Ah (i:=0) aw rfl (Or.inl rfl)) (λ_ _ _ _ _=>DE hu (pv 1) (pv 0) (λ_ _=>rfl))) AE))))),?_⟩
 intro d hd;have s0:AR H (AF H d (.dK [])):=AY hd _;refine⟨_,rfl,a,bs,ts,n,rfl,hT.keep s0,T,hn,λrr cs H1 s1 nrr hrr hR=>?_⟩;have hd1:H1 d=some (.dK []):=s1 _ _ AS;refine⟨rr,_,rfl,hrr,?_⟩;refine Ig (xs:=cs.map V.ref) (λj σ H2=>∃nu rg en,σ=[some (.ref a),some (.ref d),nu,rg,en]/\B6 d H1 H2/\H2 d=some (.dK (A7 (CH 0 ((Aw (AL ts) n).take j))))) ⟨none,none,none,rfl,B6.refl _ _,hd1⟩
  (λj σ H2 _ ⟨_,_,_,_,sb,_⟩=>sb _ _ (λz=>by rw[z,hd1] at hrr; cases hrr) hrr) ?_ ?_
 ·rintro j x σ H2 p hx ⟨nu,rg,en,rfl,sb,hd2⟩ hp;obtain⟨b,row,rfl,hb,hrow⟩:=Ti hR.1 hx;have hB1:=hR.2 j b row hb hrow;have bd:b≠d:=λz=>by rw[z,hd1] at hB1; cases hB1
  have s3:=AY hp (.AG [.int j,.ref b]);refine⟨p,_,rfl,AJ.of AS,rfl,_,_,rfl,_,_,rfl,rfl,?_⟩;have hB3:=s3 _ _ (sb _ _ bd hB1);refine⟨_,rfl,b,rfl,⟨_,AJ.of hB3⟩,?_⟩;refine HS (xs:=row.map V.int) (λk σ H4=>∃en,σ=[some (.ref a),some (.ref d),some (.int j),some (.ref b),en]/\B6 d H1 H4/\H4 d=some (.dK (A7 (CH 0 ((Aw (AL ts) n).take j)++(row.take k).map λe=>(e,(j:Int))))))
   ⟨en,rfl,sb.trans (AR.b s3),by rw[List.take_zero,gY,iF]; exact s3 _ _ hd2⟩ (λk σ H4 _ ⟨_,_,sb4,_⟩=>AJ.of (sb4 _ _ bd hB1)) ?_ ?_
  ·rintro k x σ H4 hx4 ⟨en4,rfl,sb4,hd4⟩;obtain⟨e,rfl,he⟩:=Ep hx4;have ky:=Qu hrow k;refine⟨_,rfl,_,rfl,_,rfl,d,_,rfl,DR.k (k:=Sum.inl e) hd4 ?_,?_⟩
   ·have l1:=congrArg List.length ky;rw[ed] at l1;rw[ed,l1]
    have:=Qt hrow k
    exact Ca (by omega)
   ·refine⟨_,rfl,sb4.put _,?_⟩;rw[AS,GY (by rw[ky]; exact Jh nd hrow he),gW,Dr he,fv];rfl
  ·rintro σ H4 ⟨en4,rfl,sb4,hd4⟩;refine⟨_,_,_,rfl,sb4,?_⟩;rw[hd4,ed,iG,Qz hrow]
 ·rintro σ H2 ⟨nu,rg,en,rfl,sb,hd2⟩;rw[ed,fH (by rw[hR.1]; exact eU _)] at hd2;have sm:AR H H2:=sb.same (s0.trans s1) hd;have hlen:(A7 (CH 0 (Aw (AL ts) n))).length=n:=by
   have:=congrArg List.length (E9 0 (Aw (AL ts) n))
   rw[ed,flen] at this;rw[ed,this]
  refine⟨_,rfl,d,_,rfl,hd2,((A7 (CH 0 (Aw (AL ts) n))).length:Int),rfl,by omega,by omega,λacc hacc=>?_⟩;rw[show(((A7 (CH 0 (Aw (AL ts) n))).length:Int)).toNat=n by omega];refine W3 rfl hd2 (λe he=>?_) hn hacc λH3 s3 h3=>?_
  ·refine K7 ?_;rw[E9];exact(IT PM).mpr ⟨by omega,by omega⟩
  ·exact⟨acc,_,rfl,.inl ⟨AM.of h3,λp hp=>q p _ ((sm.trans s3).trans (AY hp _)) ((sm.trans s3).free hp) AS⟩⟩
abbrev AQ:Type:=Nat×Nat×Rat
structure FL(q:Rat):Prop where
 pos:0<q.num
 top:q.num<1000
 eJ:(q.den:Int)<1000
variable {f g h f1 f2 f3 f4:Addr} {fd gd hd d1 d2 d3 d4:FuncData}
theorem a9{n:Nat}(h:2<=n):HT.Av n n (some 2)=2:=by simp[HT.Av]; omega
variable {C fI:Addr} {dI:FuncData}
structure FF(H:Hp)(T:Addr)(bs:List Addr)(ts:List (List Int)):Prop where
 h1:H T=some (.AB (bs.map V.ref))
 rows:At Bv H bs ts
 nd:(T :: bs).Nodup
theorem FF.keep{H H':Hp}{T:Addr}{bs:List Addr}{ts:List (List Int)}(M:FF H T bs ts)(s:AR H H'):FF H' T bs ts:=⟨s _ _ M.h1,M.rows.keep EA s,M.nd⟩
theorem FF.put{H:Hp}{T b:Addr}{bs:List Addr}{ts:List (List Int)}{i:Nat}{t:List Int}(M:FF H T bs ts)(hb:bs[i]?=some b):FF (AF H b (.AB (t.map V.int))) T bs (ts.set i t):=by
 have bm:b∈bs:=eQ hb;obtain⟨n1,n2⟩:=ig.mp M.nd;have e1:T≠b:=λz=>n1 (by rw[z]; exact bm)
 refine⟨by rw[Ad e1]; exact M.h1,⟨by rw[iA]; exact M.rows.1,λk c x q1 q2=>?_⟩,M.nd⟩;by_cases hk:i=k
 ·subst hk;rw[hb] at q1;cases q1;have hl:i<ts.length:=by rw[<-M.rows.1]; exact(eu.mp hb).1
  rw[gp hl] at q2;cases q2;exact AS
 ·rw[gn hk] at q2;have ne:c≠b:=λz=>hk (T9 n2 hb (by rw[q1,z]))
  show AF H b _ c=_;rw[Ad ne];exact M.rows.2 k c x q1 q2
def D0(hs:List Nat)(i:Nat):List Int:=((List.range hs.length).filter λe=>decide (hs[e]?=some i)).map (λe:Nat=>(e:Int))
theorem Vx(hs:List Nat)(p i:Nat):D0 (hs++[p]) i=if p=i then D0 hs i++[(hs.length:Int)] else D0 hs i:=by
 unfold D0;rw[fj,iu,List.range_succ,List.filter_append,fv];have e1:(List.range hs.length).filter (λe=>decide ((hs++[p])[e]?=some i))=(List.range hs.length).filter λe=>decide (hs[e]?=some i) :=
  List.filter_congr λx hx=>by rw[fN (gu.mp hx)]
 have e2:(hs++[p])[hs.length]?=some p:=by simp
 rw[e1];by_cases h:p=i
 ·rw[ff h,List.filter_cons_of_pos (by rw[e2,h]; simp)]; rfl
 ·rw[eZ h,List.filter_cons_of_neg (by rw[e2]; simpa using h)]; simp
theorem WS{hs:List Nat}{i:Nat}{x:Int}:x∈D0 hs i↔0<=x/\hs[x.toNat]?=some i:=by
 unfold D0;rw[fi];constructor
 ·rintro⟨e,he,rfl⟩;rw[List.mem_filter] at he;exact⟨by omega,by simpa using he.2⟩
 ·rintro⟨h0,h1⟩;refine⟨x.toNat,List.mem_filter.mpr ⟨gu.mpr (eu.mp h1).1,by simpa using h1⟩,by omega⟩
theorem Xt(hs:List Nat)(i:Nat):(D0 hs i).Pairwise (· < ·):=by
 unfold D0;rw[iM];refine i6 (λh=>by omega) (List.Pairwise.filter _ (List.pairwise_lt_range))
theorem QP:∀{l m:List Int},l.Pairwise (·<=·)->m.Pairwise (· < ·)->l.Perm m->l=m
 | [],m,_,_,p=>(List.nil_perm.mp p).symm
 | a :: l,[],_,_,p=>by have:=p.length_eq; simp at this
 | a :: l,b :: m,h1,h2,p=>by
  obtain⟨a1,a2⟩:=List.pairwise_cons.mp h1;obtain⟨b1,b2⟩:=List.pairwise_cons.mp h2;have e:a=b:=by
   rcases fE.mp (p.mem_iff.mp (ir ..):a∈b :: m) with z | z
   ·exact z
   ·have hb:=b1 a z;rcases fE.mp (p.mem_iff.mpr (ir ..):b∈a :: l) with y | y
    ·exact y.symm
    ·have:=a1 b y; omega
  subst e;rw[QP a2 b2 ((List.perm_cons a).mp p)]
def CI(rs:List AQ):List Nat:=rs.flatMap λr=>[r.1,r.2.1]
def hm(rs:List AQ):List Nat:=CI rs++[0,1]
theorem Ea:∀rs:List AQ,(CI rs).length=2*rs.length
 | []=>rfl
 | r :: rs=>by show(r.1 :: r.2.1 :: CI rs).length=_; simp[Ea rs]; omega
theorem Z7(rs:List AQ):(hm rs).length=2*rs.length+2:=by unfold hm; rw[fj,Ea]; rfl
theorem K4(rs:List AQ)(r:AQ):CI (rs++[r])=CI rs++[r.1]++[r.2.1]:=by unfold CI; simp
structure NetV(n:Nat)(rs:List AQ)(ts:List (List Int)):Prop where
 m1:1<=rs.length
 m14:rs.length<=14
 n2:2<=n
 n15:n<=15
 len:ts.length=n
 tn:CC (2*rs.length+2) ts
 ne:∀t∈ts,t≠[]
 ease:∀r∈rs,FL r.2.2/\r.1<n/\r.2.1<n
 Cs:∀(p:Nat) (t:List Int),ts[p]?=some t->∀x:Int,x∈t->(hm rs)[x.toNat]?=some p
 DN:∀S:Nat->Prop,S 0->(∀r∈rs,(S r.1↔S r.2.1))->∀p,p<n->S p
theorem Ml{ts:List (List Int)}{t:List Int}(h:t∈ts):t.length<=ts.flatten.length:=by
 obtain⟨A,B,rfl⟩:=List.append_of_mem h;simp; omega
theorem Sg{ts:List (List Int)}{t:List Int}(nd:ts.flatten.Nodup)(h:t∈ts):t.Nodup:=by
 obtain⟨A,B,rfl⟩:=List.append_of_mem h;rw[gQ,fZ,iD,iD] at nd;exact nd.2.1.1
theorem NetV.perm{n:Nat}{rs:List AQ}{ts:List (List Int)}(k:NetV n rs ts){p:Nat}{t:List Int}(h:ts[p]?=some t):t.Perm (D0 (hm rs) p):=by
 have tm:=eQ h;refine(List.perm_ext_iff_of_nodup (Sg k.tn.nd tm) ((Xt _ _).imp λh=>by omega)).mpr λx=>?_
 rw[WS];constructor
 ·intro hx;exact⟨((k.tn.mem x).mp (fV.mpr ⟨t,tm,hx⟩)).1,k.Cs p t h x hx⟩
 ·rintro⟨h0,h1⟩;have hl:=(eu.mp h1).1;rw[Z7] at hl;obtain⟨t',ht',hx⟩:=fV.mp ((k.tn.mem x).mpr ⟨h0,by omega⟩);obtain⟨j,hj,e⟩:=fP ht';have hj2:ts[j]?=some t':=by rw[eh hj,e]
  have:=k.Cs j t' hj2 x hx
  rw[h1] at this;obtain rfl:p=j:=fC this;rw[h] at hj2;cases hj2;exact hx
variable {f5 f6:Addr} {d5 d6:FuncData}
theorem WT:bootBuiltins "sorted" = some (.builtin "sorted"):=by decide +kernel
theorem OU{H H':Hp}{a:Addr}{ts:List (List Int)}(s:AR H H')(h:Az BS H a ts):Az BS H' a ts:=FG (R:=BS) (λs h=>HM s h) s h
theorem Nn{H:Hp}{T:Addr}{bs:List Addr}{ts:List (List Int)}{p:Nat}{t:List Int}(M:FF H T bs ts)(h:ts[p]?=some t):∃b,bs[p]?=some b/\b∈bs/\B7 (bs.map V.ref) ((p:Nat):Int)=some (.ref b)/\H b=some (.AB (t.map V.int)):=by
 obtain⟨b,hb,hB⟩:=M.rows.get h;exact⟨b,hb,eQ hb,BF (Be hb),hB⟩
theorem K5{x:Int}:∀{t:List Int},x∈t->∃u1 u2,t=u1++x :: u2/\x∉u1
 | a :: t,h=>by
  by_cases e:x=a
  ·subst e; exact⟨[],t,rfl,by simp⟩
  ·rcases fE.mp h with z | z
   ·exact absurd z e
   ·obtain⟨u1,u2,rfl,n⟩:=K5 z;exact⟨a :: u1,u2,rfl,by simp[e,n]⟩
theorem K6{x:Int}{u2:List Int}:∀{u1:List Int},x∉u1->(u1++x :: u2).idxOf x=u1.length
 | [],_=>by simp
 | a :: u,h=>by
  have e:a≠x:=λz=>h (by rw[z]; exact ir ..)
  have:=K6 (u2:=u2) (u1:=u) (λz=>h (gJ _ z))
  rw[jn,List.idxOf_cons,this,show(a == x)=false from beq_false_of_ne e];rfl
theorem RC{x y:Int}{u:List Int}(h:x∉u):(u.map λz=>if z=x then y else z)=u:=by
 conv=>rhs; rw[<-List.map_id u]
 refine ip λz hz=>?_
 have:z≠x:=λq=>h (by rw[<-q]; exact hz)
 rw[eZ this]; rfl
theorem R1{x y:Int}{t:List Int}(nd:t.Nodup)(h:x∈t):t.set (t.idxOf x) y=t.map λz=>if z=x then y else z:=by
 obtain⟨u1,u2,rfl,n1⟩:=K5 h;rw[K6 n1,List.set_append_right _ _ (eU _),jq,List.set_cons_zero,fv,fk,ff rfl,RC n1];rw[iD,ig] at nd;rw[RC nd.2.1.1]
theorem _root_.Mth.Gn.at{ts:List (List Int)}{hs:List Nat}(g:Gn ts hs){x:Int}(h:AH hs.length x):∃p t,ts[p]?=some t/\x∈t/\hs[x.toNat]?=some p:=by
 obtain⟨t,ht,hx⟩:=fV.mp ((g.mem x).mpr h);obtain⟨p,hp,e⟩:=fP ht;have h2:ts[p]?=some t:=by rw[eh hp,e]
 exact⟨p,t,h2,hx,g.Cs p t h2 x hx⟩
theorem NT(φ:Int->Int)(s:Int)(i:Nat):∀k,A1 φ k (A1 φ i s)=A1 φ (k+i) s
 | 0=>by rw[Nat.zero_add]; rfl
 | k+1=>by
  rw[show k+1+i=(k+i)+1 by omega];show φ (A1 φ k (A1 φ i s))=φ (A1 φ (k+i) s);rw[NT φ s i k]
theorem Pt{φ:Int->Int}{n:Nat}(PM:Fy φ n){s a b:Int}(hs:AH n s)(ha:a∈BI φ s)(hb:b∈BI φ s):∃k,A1 φ k a=b:=by
 obtain⟨i,hi,rfl⟩:=D8.mp ha;obtain⟨j,hj,rfl⟩:=D8.mp hb;have pp:=Fp PM hs;refine⟨(BU φ s-i)+j,?_⟩;have e:A1 φ (BU φ s-i) (A1 φ i s)=s:=by rw[NT,show BU φ s-i+i=BU φ s by omega]; exact pp.2.1
 rw[show BU φ s-i+j=j+(BU φ s-i) by omega,<-NT,e]
theorem bX:∀k:Nat,k<40->Builtin.bitXor (k:Int) 1=oth (k:Int):=by decide
theorem cX{x:Int}{n:Nat}(h:AH n x)(hn:n<=40):Builtin.bitXor x 1=oth x:=by
 obtain⟨h1,h2⟩:=h
 have:=bX x.toNat (by omega)
 rwa [show((x.toNat:Nat):Int)=x by omega] at this
theorem Na{ts:List (List Int)}{hs:List Nat}(g:Gn ts hs){p:Nat}{t:List Int}(h:ts[p]?=some t):t.length<=hs.length:=by
 have:=Ml (eQ h)
 rwa [g.DY.len] at this
theorem _root_.Mth.Gn.tsl{ts:List (List Int)}{hs:List Nat}(g:Gn ts hs):ts.length<=hs.length:=by have:=g.few; omega
theorem cf{R:List Int}(h:0<R.length)(c:Int):∃a,a∈R/\B7 (R.map V.int) (c % (((R.map V.int).length:Nat):Int))=some (.int a):=by
 rw[ed];have h0:(0:Int)<(R.length:Int):=by omega
 have c0:=gX c (jj h0);have c1:=iz c h0;generalize c % (R.length:Int)=d at c0 c1;have hd:d.toNat<R.length:=by omega
 refine⟨R[d.toNat],iq hd,?_⟩
 have:=BF (xs:=R.map V.int) (Nx (eh hd))
 rwa [show((d.toNat:Nat):Int)=d by omega] at this
theorem HQ:∀{rs:List AQ} {k:Nat} {r:AQ},rs[k]?=some r->(CI rs)[2*k]?=some r.1/\(CI rs)[2*k+1]?=some r.2.1
 | r0 :: rs,0,r,h=>by cases h; exact⟨rfl,rfl⟩
 | r0 :: rs,k+1,r,h=>by
  have:=HQ (rs:=rs) (k:=k) (r:=r) (by simpa using h)
  rw[show 2*(k+1)=2*k+1+1 by omega];exact this
theorem XZ{H:Hp}{b c:Addr}{ys:List V}{o:HO}{r:AQ}(hb:H b=some (.AB ys))(h:Bf H c r):Bf (AF H b o) c r:=by
 obtain⟨e,h1,h2⟩:=h;refine⟨e,by rw[Ad (λz=>by rw[z,hb] at h1; cases h1)]; exact h1,?_⟩;unfold AO at h2 ⊢;rw[Ad (λz=>by rw[z,hb] at h2; cases h2)]; exact h2
theorem IU{H:Hp}{b:Addr}{ys:List V}{o:HO}{cs:List Addr}{rs:List AQ}(hb:H b=some (.AB ys))(h:At Bf H cs rs):At Bf (AF H b o) cs rs:=⟨h.1,λi c r e1 e2=>XZ hb (h.2 i c r e1 e2)⟩
theorem V5{ts us:List (List Int)}(h:ts.Perm us):(Aq ts).Perm (Aq us):=by
 unfold Aq;exact(h.map A5).flatten
theorem Y8{ts us:List (List Int)}(h:ts.Perm us)(nd:ts.flatten.Nodup){x:Int}(hx:x∈ts.flatten):pr us x=pr ts x :=
 Dc (h.flatten.nodup_iff.mp nd) ((V5 h).mem_iff.mp (GZ nd hx))
theorem Py{n:Nat}{π:Nat->Nat}(into:∀p,p<n->π p<n)(inv:∃τ:Nat->Nat,∀q,q<n->τ q<n/\π (τ q)=q)(inj:∀p q,p<n->q<n->π p=π q->p=q):((List.range n).map π).Perm (List.range n):=by
 obtain⟨τ,hτ⟩:=inv;refine(List.perm_ext_iff_of_nodup ?_ List.nodup_range).mpr λx=>?_
 ·rw[List.Nodup,iM];refine List.Pairwise.imp_of_mem (λ{a b} ha hb hab e=>?_) (List.nodup_range (n:=n));exact hab (inj a b (gu.mp ha) (gu.mp hb) e)
 ·rw[fi,gu];constructor
  ·rintro⟨p,hp,rfl⟩;exact into p (gu.mp hp)
  ·intro hx;exact⟨τ x,gu.mpr (hτ x hx).1,(hτ x hx).2⟩
theorem Wx(us:List (List Int)):(List.range us.length).map (λq=>us.getD q [])=us:=by
 refine List.ext_getElem (by simp) λi h1 h2=>?_
 simp[List.getD,h2]
structure Uu(n m:Nat)(π:Nat->Nat)(ρ:Int->Int):Prop where
 p0:π 0=0
 p1:π 1=1
 DT:∀p,p<n->π p<n
 Uo:∃τ:Nat->Nat,∀q,q<n->τ q<n/\π (τ q)=q
 c9:∀p q,p<n->q<n->π p=π q->p=q
 rin:∀x,AH (2*m+2) x->AH (2*m+2) (ρ x)
 rinv:∃σ:Int->Int,∀x,AH (2*m+2) x->AH (2*m+2) (σ x)/\ρ (σ x)=x
 rinj:∀x y,AH (2*m+2) x->AH (2*m+2) y->ρ x=ρ y->x=y
 r0:ρ 0=2*(m:Int)
 roth:∀x,AH (2*m+2) x->oth (ρ x)=ρ (oth x)
theorem aV {ts:List (List Int)} {hs:List Nat} {m:Nat} {rs:List AQ} {us:List (List Int)} {π:Nat->Nat} {ρ:Int->Int} (g:Gn ts hs) (hl:hs.length=2*m+2) (h14:m<=14) (hr:rs.length=m) (hu:us.length=ts.length) (R:Uu ts.length m π ρ)
  (rot:∀(p:Nat) (t:List Int),ts[p]?=some t->∃u,us[π p]?=some u/\ER (t.map ρ) u)
  (hom:∀x,AH (2*m+2) x->(hm rs)[(ρ x).toNat]?=(hs[x.toNat]?).map π) (ease:∀r∈rs,FL r.2.2):NetV ts.length rs us/\Kn us m:=by
 have n4:=g.n4;have few:=g.few;obtain⟨τ,hτ⟩:=R.Uo;obtain⟨σ,hσ⟩:=R.rinv;have inx:∀x∈ts.flatten,AH (2*m+2) x:=λx hx=>by have:=(g.mem x).mp hx; rwa [hl] at this
 obtain⟨nd',pm'⟩:=Zz (ts:=ts) (ρ:=ρ) g.nd (λx hx y hy=>R.rinj x y (inx x hx) (inx y hy));have perm:((List.range ts.length).map λp=>us.getD (π p) []).Perm us:=by
  have:=(Py R.DT R.Uo R.c9).map (λq=>us.getD q [])
  rw[gG,<-hu,Wx us,hu] at this;exact this
 have lw:(ts.map λt=>t.map ρ).length=((List.range ts.length).map λp=>us.getD (π p) []).length:=by simp
 have rw1:∀(i:Nat) (t u:List Int),(ts.map λt=>t.map ρ)[i]?=some t->((List.range ts.length).map λp=>us.getD (π p) [])[i]?=some u->ER t u:=by
  intro i t u h1 h2;rw[fg] at h1;cases e:ts[i]? with
  | none=>rw[e] at h1; cases h1
  | some t0 =>
   rw[e] at h1;cases h1;have hi:i<ts.length:=(eu.mp e).1;rw[fg,gA hi] at h2;cases h2;obtain⟨u,hu1,hu2⟩:=rot i t0 e;show ER (t0.map ρ) (us.getD (π i) []);rw[eO,hu1];exact hu2
 obtain⟨nd1,pr1⟩:=ZV nd' lw rw1;have pf:=MV lw rw1;have nd2:us.flatten.Nodup:=perm.flatten.nodup_iff.mp nd1;have mem2:∀x,x∈us.flatten↔AH (2*m+2) x:=by
  intro x;rw[<-perm.flatten.mem_iff,<-pf.mem_iff,Jm,fi];constructor
  ·rintro⟨y,hy,rfl⟩;exact R.rin y (inx y hy)
  ·intro hx;obtain⟨s1,s2⟩:=hσ x hx;exact⟨_,(g.mem _).mpr (by rw[hl]; exact s1),s2⟩
 have T:CC (2*m+2) us:=⟨nd2,mem2,by omega⟩;have pr2:∀y,AH (2*m+2) y->pr us (ρ y)=ρ (pr ts y):=by
  intro y hy;have hy1:y∈ts.flatten:=(g.mem y).mpr (by rw[hl]; exact hy);have hy2:ρ y∈(ts.map λt=>t.map ρ).flatten:=by rw[Jm]; exact fi.mpr ⟨y,hy1,rfl⟩
  rw[Y8 perm nd1 (pf.mem_iff.mp hy2),pr1 _ hy2,pm' y hy1]
 have back:∀{q:Nat} {u:List Int},us[q]?=some u->∃p t,p<ts.length/\ts[p]?=some t/\π p=q/\ER (t.map ρ) u:=by
  intro q u h;have hq:q<ts.length:=by rw[<-hu]; exact(eu.mp h).1
  obtain⟨t1,t2⟩:=hτ q hq;obtain⟨u',h1,h2⟩:=rot (τ q) _ (eh t1);rw[t2,h] at h1;cases h1;exact⟨τ q,_,t1,eh t1,t2,h2⟩
 have home_lt:∀{x:Int} {p:Nat},AH (2*m+2) x->hs[x.toNat]?=some p->p<ts.length:=by
  intro x p hx h;obtain⟨p',t,h1,_,h2⟩:=g.at (x:=x) (by rw[hl]; exact hx);rw[h] at h2;cases h2;exact(eu.mp h1).1
 have hs_at:∀{x:Int},AH (2*m+2) x->∃p,hs[x.toNat]?=some p:=λ{x} hx=>by
  obtain⟨p',t,_,_,h2⟩:=g.at (x:=x) (by rw[hl]; exact hx);exact⟨p',h2⟩
 have hm_lt:∀{y:Int} {q:Nat},AH (2*m+2) y->(hm rs)[y.toNat]?=some q->q<ts.length:=by
  intro y q hy h;obtain⟨s1,s2⟩:=hσ y hy;obtain⟨p,hp⟩:=hs_at s1
  have:=hom _ s1
  rw[s2,h,hp] at this;cases this;exact R.DT p (home_lt s1 hp)
 have rope_at:∀{k:Nat} {r:AQ},rs[k]?=some r->(hm rs)[((2*k:Nat):Int).toNat]?=some r.1/\(hm rs)[((2*k+1:Nat):Int).toNat]?=some r.2.1:=by
  intro k r h;have hk:k<rs.length:=(eu.mp h).1;obtain⟨a1,a2⟩:=HQ h;unfold hm;have l0:=Ea rs;exact⟨by rw[ie,fN (by rw[l0]; omega)]; exact a1,by rw[ie,fN (by rw[l0]; omega)]; exact a2⟩
 have nxr:∀x,AH (2*m+2) x->AL us (ρ x)=ρ (AL ts x):=λx hx=>by
  have ho:=DG (n:=2*m+2) (by omega) hx;rw[Bq,R.roth x hx,pr2 _ ho,Bq]
 have dz:Kd (AL us) m:=by
  have d0:=g.du;rw[hl] at d0;exact aD d0 (λx hx=>by have:=g.DY.perm.into x (by rw[hl]; exact hx); rwa [hl] at this) R.rin R.rinv R.rinj R.r0 R.roth nxr
 have pz:CK us (2*m+2):=by
  have p0:=g.po;rw[hl] at p0;refine Y3 p0 (λx hx=>by have:=g.DY.perm.into x (by rw[hl]; exact hx); rwa [hl] at this) (by omega) R.rin R.rinv R.rinj R.roth nxr λf bal t ht=>?_
  obtain⟨i,hi,e⟩:=fP ht;obtain⟨u,hu1,hu2⟩:=rot i t (by rw[eh hi,e])
  have:=Ky (hu2.perm.map f)
  rw[bal u (eQ hu1),gG] at this;exact this
 refine⟨⟨by omega,by omega,g.two,by omega,hu,by rw[hr]; exact T,?_,?_,?_,?_⟩,dz,pz⟩
 ·intro u hu';obtain⟨q,hq,e⟩:=fP hu';obtain⟨p,t,_,ht,_,r⟩:=back (show us[q]?=some u by rw[eh hq,e]);intro z
  have:=r.perm.length_eq
  rw[z,ed] at this;exact g.ne t (eQ ht) (List.eq_nil_of_length_eq_zero (by simpa using this))
 ·intro r hr';obtain⟨k,hk,e⟩:=fP hr';obtain⟨a1,a2⟩:=rope_at (show rs[k]?=some r by rw[eh hk,e]);exact⟨ease r hr',hm_lt ⟨by omega,by push_cast; omega⟩ a1,hm_lt ⟨by omega,by push_cast; omega⟩ a2⟩
 ·intro q u hu' y hy;obtain⟨p,t,_,ht,eq,r⟩:=back hu';obtain⟨x,hx,rfl⟩:=fi.mp (r.perm.mem_iff.mpr hy);have ix:=inx x (fV.mpr ⟨t,eQ ht,hx⟩);rw[hom x ix,g.Cs p t ht x hx,<-eq];rfl
 ·intro S h0 hS q hq;obtain⟨t1,t2⟩:=hτ q hq;rw[<-t2];refine g.DN (λp=>S (π p)) (by show S (π 0); rw[R.p0]; exact h0) (λk k1 p' q' e1 e2=>?_) _ t1;have hj:=(eu.mp e2).1;have i1:AH (2*m+2) ((2*k:Nat):Int):=⟨by omega,by push_cast; omega⟩;have i2:AH (2*m+2) ((2*k+1:Nat):Int):=⟨by omega,by push_cast; omega⟩;have o1:oth ((2*k:Nat):Int)=((2*k+1:Nat):Int):=by rw[GP (by omega)]; push_cast; rfl
  have h1:=hom _ i1;have h2:=hom _ i2;rw[ie,e1] at h1;rw[ie,e2] at h2;have r1:=R.rin _ i1;have ro:=R.roth _ i1;rw[o1] at ro;have z0:AH (2*m+2) 0:=⟨by omega,by push_cast; omega⟩;have z1:AH (2*m+2) 1:=⟨by omega,by push_cast; omega⟩;have e01:ρ 1=2*(m:Int)+1:=by
   have:=R.roth 0 z0
   rw[R.r0,show oth 0=1 from rfl] at this;rw[<-this]
   have:=GP (n:=2*m) (by omega)
   push_cast at this;exact this
  have n0:ρ ((2*k:Nat):Int)≠2*(m:Int):=λz=>by
   have:=R.rinj _ _ i1 z0 (z.trans R.r0.symm)
   omega
  have n1:ρ ((2*k:Nat):Int)≠2*(m:Int)+1:=λz=>by
   have:=R.rinj _ _ i1 z1 (z.trans e01.symm)
   omega
  obtain⟨y0,y1⟩:=r1;generalize ρ ((2*k:Nat):Int)=y at h1 ro n0 n1 y0 y1;generalize ρ ((2*k+1:Nat):Int)=y' at h2 ro;have hj2:y.toNat / 2<rs.length:=by omega
  obtain⟨a1,a2⟩:=rope_at (eh hj2);have hS':=hS _ (iq hj2);rw[ie] at a1 a2;rcases Nat.mod_two_eq_zero_or_one y.toNat with e | e
  ·have ey:y'=y+1:=by rw[<-ro]; unfold oth; rw[ff (by omega)]
   rw[show 2*(y.toNat / 2)=y.toNat by omega,h1] at a1;rw[show 2*(y.toNat / 2)+1=y'.toNat by omega,h2] at a2;have b1:π p'=rs[y.toNat / 2].1:=fC a1;have b2:π q'=rs[y.toNat / 2].2.1:=fC a2;show S (π p')↔S (π q');rw[b1,b2];exact hS'
  ·have ey:y'=y-1:=by rw[<-ro]; unfold oth; rw[eZ (by omega)]
   rw[show 2*(y.toNat / 2)=y'.toNat by omega,h2] at a1;rw[show 2*(y.toNat / 2)+1=y.toNat by omega,h1] at a2;have b1:π q'=rs[y.toNat / 2].1:=fC a1;have b2:π p'=rs[y.toNat / 2].2.1:=fC a2;show S (π p')↔S (π q');rw[b1,b2];exact hS'.symm
inductive RE(vs:List V)(H:Hp)(Q:VK):Prop
 | mk (i:Int) (h_0:vs=[.int i]) (h_1:Q (.bl true) H):RE vs H Q
def LD:Sp:=λvs H Q _=>RE vs H Q
theorem cI:A3 ["_law_found"] ["_law_found"] (Ao sWhole):=BC
theorem YA(F:Ar K "_law_whole" "_law_whole" sWhole f fd)(ms:mg "isinstance" = none)(mi:mg "int" = none)(mb:mg "bool" = none):An P w K mg base Ay 1 f fd ["_law_found"] LD:=by
 refine F.BD cI λcdv A outer s H vs Q E hr h=>?_
 obtain⟨i,rfl,q⟩:=h;refine⟨_,AV (Am (Ny (A8 (IV (c:=.ty "int") (cv:=.type "int") λ_ z=>z) (by rfl) ms IL (AA (pv 0) (AA (Ii (v:=.ty "int") (by rfl) mi TH rfl) AE)))
  (Su (Z4 (A8 (IV (c:=.ty "bool") (cv:=.type "bool") λ_ z=>z) (by rfl) ms IL (AA (pv 0) (AA (Ii (v:=.ty "bool") (by rfl) mb Yh rfl) AE))))))),?_⟩
 refine⟨_,rfl,_,_,_,rfl,C8.int i,Jk K _,_,rfl,Dk ?_⟩;exact⟨_,rfl,_,_,_,rfl,C8.int i,VU K,_,rfl,q⟩
inductive Se(vs:List V)(H:Hp)(Q:VK):Prop
 | mk (p:Addr) (ns:List Int) (m:Int) (h_0:vs=[.ref p,.int m]) (h_1:H p=some (.AG (ns.map V.int))) (h_2:m=ns.length) (h_3:ns.length<=1000) (h_4:∀H',AR H H'->Q (.bl true) H'):Se vs H Q
def ON:Sp:=λvs H Q _=>Se vs H Q
theorem cR:A3 ["_law_found","_law_many"] ["_law_found","_law_many"] (Ao s_law_row):=BC
theorem OW:(["_law_one"]:List Str).Nodup:=by decide +kernel
theorem aF (F : Ar K "_law_row" "_law_row" s_law_row f fd) (G : AU P w K mg base 1 "_law_whole" ["_law_found"] LD) (ms : mg "isinstance" = none) (mt : mg "tuple" = none)
    (ml : mg "len" = none) (ma : mg "all" = none) : An P w K mg base Ay 2 f fd ["_law_found", "_law_many"] ON := by
  refine F.BD cR λcdv A outer s H vs Q E hr h => ?_
  obtain⟨p, ns, m, rfl, hp, rfl, hn, q⟩ := h;refine⟨_, AN (BZ (PW.pt (Hj (Gd (FH (A8 (IV (c := .ty "tuple") (cv := .type "tuple") λ_ z => z) (by rfl) ms IL (AA (pv 0) (AA (Ii (v := .ty "tuple") (by rfl) mt Cb rfl) AE)))))
        (J1 (BX FP (A8 (Bs (K := K)) (by rfl) ml BR (AA (pv 0) AE)) (pv 1) (BM _))))) (AV (Am Gi)) Bp)
    (AV (Am (A8 (Kv rfl) (by rfl) ma LP (AA (C3 (Nc := ["_law_one"]) (cap := []) (g := BQ 0) (te := D1 LD [] E0 (BJ (Ax 0) CF)) rfl (JG (K := K) (pv 0))
      (CJ rfl rfl (by decide +kernel) (by decide +kernel) (fh _) rfl (fh _)) (λ_ _ _ _ _ => Ah (i := 0) OW rfl (Or.inl rfl)) (λ_ _ _ _ _ => Ae G hr (AA (pv 0) AE))) AE)))), ?_⟩
  refine⟨_, rfl, _, _, _, rfl, C8.AG hp, Jk K _, _, rfl, CG ?_⟩;refine⟨_, rfl, p, _, rfl, .inr (AJ.of hp), _, rfl, rfl, _, rfl, ?_⟩;refine FO (by rw[ed]) ?_;refine⟨_, rfl, p, rfl, ⟨_, AJ.of hp⟩, λacc hacc => ?_⟩;refine⟨λi m ys σc H2 => m = ns.length - i /\ i <= ns.length /\ AR H H2 /\ H2 acc = some (.AB ys) /\ ys = (List.replicate i true).map V.bl /\ ∃u, σc = [u], ⟨ns.length, rfl, gP _, AY hacc _, AS, rfl, none, rfl⟩, ?_⟩;rintro i m ys σc H2 ⟨rfl, hi, sm, ha, hys, u, rfl⟩;rcases gc i ns.length with hlt | hge
  · refine .inr ⟨⟨_, .int ns[i], AJ.of (sm _ _ hp), Nx (eh hlt)⟩, λx H3 yl => ?_⟩;obtain⟨rfl, hx⟩ := yl;obtain⟨e, rfl, _⟩ := Ep (hx _ (AJ.of (sm _ _ hp)));refine⟨_, rfl, e, rfl, ha, ?_, ns.length - (i + 1), by omega, rfl, hlt, sm.up hacc _, AS, ?_, _, rfl⟩
    · rw[hys, ed, List.length_replicate];exact Ca (by omega)
    · rw[hys, jk, fv];rfl
  · obtain rfl : i = ns.length := by omega
    refine .inl ⟨⟨_, AJ.of (sm _ _ hp), by rw[ed]; exact eU _⟩, ?_⟩;refine⟨acc, List.replicate ns.length true, rfl, AM.of (by rw[ha, hys]), ?_⟩;rw[show(List.replicate ns.length true).all id = true by simp];exact q H2 sm
theorem Z6(a:Int):(if a<0 then -a else a)=(a.natAbs:Int):=by split <;> omega
theorem X1{x y:Int}(hy:0<y):Int.gcd y (x % y)=Int.gcd x y:=by
 have:=Qf x y
 rwa [Int.fmod_eq_emod_of_nonneg x (Int.le_of_lt hy)] at this
theorem Yn{t b:Int}(ht:0<t)(ht2:t<1000)(hb:0<b)(hb2:b<1000):FL ((t:Rat) / (b:Rat)):=by
 have e:=Fj t b (by omega);have l1:=QO t b (by omega);have l2:=QB t b (by omega);have c:=Pu t b;have d:=Q5 t b (by omega);rw[e] at l1 l2 c d;dsimp only at l1 l2 c d;generalize ((t:Rat) / (b:Rat))=q at l1 l2 c d;have n0:0<q.num:=by
  rcases Int.lt_or_le 0 q.num with h | h
  ·exact h
  ·have h1:0<t*(q.den:Int):=Int.mul_pos ht d;have h2:q.num*b<=0:=Int.mul_nonpos_of_nonpos_of_nonneg h (by omega);omega
 exact⟨n0,by omega,by omega⟩
theorem L5:A3 ["_law_a","_law_b","_law_rest"] ["_law_a","_law_b"] (Ao s_law_divisor):=BC
inductive Ta(vs:List V)(H:Hp)(Q:VK):Prop
 | mk (a b:Int) (h_0:vs=[.int a,.int b]) (h_1:0<=a) (h_2:0<=b) (h_3:Q (.int (Int.gcd a b:Int)) H):Ta vs H Q
def Ln:Sp:=λvs H Q _=>Ta vs H Q
theorem V2(F:Ar K "_law_divisor" "_law_divisor" s_law_divisor f fd):An P w K mg base Ay 1 f fd ["_law_a","_law_b"] Ln:=by
 refine F.BD L5 λcdv A outer s H vs Q E hr h=>?_
 obtain⟨a,b,rfl,a0,b0,q⟩:=h;refine⟨_,AN (Ie fT (BX OY (pv 1) AD (BM _))
   (AN (Aa (i:=2) L5.nd rfl (Or.inl rfl) (AK Bl (pv 0) (pv 1)))
   (AN (Aa (i:=0) L5.nd rfl (Or.inl rfl) (pv 1))
   (AV (Aa (i:=1) L5.nd rfl (Or.inl rfl) (pv 2))))))
  (AV (Am (pv 0))),?_⟩
 refine Ic (λσ H2=>∃x y r,σ=[some (.int x),some (.int y),r]/\H2=H/\0<=x/\0<=y/\Int.gcd x y=Int.gcd a b) (λσ _=>match σ with | [_,some (.int y),_]=>y.natAbs | _=>0) ⟨_,_,none,rfl,rfl,a0,b0,rfl⟩ ?_ ?_
 ·rintro σ H2 ⟨x,y,r,rfl,rfl,x0,y0,gg⟩;refine⟨_,rfl,_,_,rfl,rfl,_,rfl,?_⟩;by_cases hy:0<y
  ·refine DH hy ?_;have m0:=gX x (jj hy);have m1:=iz x hy;refine⟨_,rfl,_,rfl,_,_,rfl,rfl,hy,_,rfl,_,rfl,⟨y,x % y,some (.int (x % y)),rfl,rfl,y0,m0,(X1 hy).trans gg⟩,?_⟩;show(x % y).natAbs<y.natAbs;omega
  ·refine DL hy ?_;have e:y=0:=by omega
   subst e;refine⟨_,rfl,?_⟩
   have:=SD gg
   rw[eZ (by omega)] at this;rw[this];exact q
 ·rintro σ H2 Q1 Q2 hq ⟨v,e,i,j,e1,e2,b,eb,z⟩;exact⟨v,e,i,j,e1,e2,b,eb,hq _ _ z⟩
inductive Nv(vs:List V)(H:Hp)(Q:VK):Prop
 | mk (t b:Int) (h_0:vs=[.int t,.int b]) (h_3:0<b) (h_4:BN b) (h_5:L4 H Q ((t:Rat) / (b:Rat))):Nv vs H Q
def Gg:Sp:=λvs H Q _=>Nv vs H Q
theorem Uh:A3 ["_law_top","_law_bottom","_law_shared"] ["_law_top","_law_bottom"] (Ao sLFrac):=BC
theorem XD(F:Ar K "_law_fraction" "_law_fraction" sLFrac f fd)(G:AU P w K mg base 1 "_law_divisor" ["_law_a","_law_b"] Ln)(ma:mg "abs" = none):
  An P w K mg base Ay 2 f fd ["_law_top","_law_bottom"] Gg:=by
 refine F.BD Uh λcdv A outer s H vs Q E hr h=>?_
 obtain⟨t,b,rfl,b0,hb,q⟩:=h;refine⟨_,AN (Aa (i:=2) Uh.nd rfl (Or.inl rfl) (Ae G hr (AA (A8 Ms (by rfl) ma S4 (AA (pv 0) AE)) (AA (pv 1) AE))))
  (AV (Am (BP (AA (AK GQ (pv 0) (pv 2)) (AA (AK GQ (pv 1) (pv 2)) AE))))),?_⟩
 refine⟨_,rfl,t,rfl,_,rfl,_,b,rfl,by split <;> omega,by omega,?_⟩;rw[show Int.gcd (if t<0 then -t else t) b=Int.gcd t b by split; exact Int.neg_gcd; rfl];have ep:(Int.gcd t b:Int)=Mth.part t b:=by unfold Mth.part; rw[eZ (by omega)]
 rw[ep];have hp:Hm t (Mth.part t b):=⟨Jw t b (by omega),iE (Rt t b (by omega)) hb⟩;refine⟨_,rfl,_,rfl,_,_,rfl,rfl,hp,_,rfl,_,rfl,_,_,rfl,rfl,hp,by exact Bh,λp hp'=>?_⟩;have q1:=q p hp'
 have:=Fj t b (by omega)
 unfold BK at this;rw[<-(Prod.mk.inj this).1,<-(Prod.mk.inj this).2] at q1;exact q1
inductive Qj(vs:List V)(H:Hp)(Q:VK):Prop
 | mk (z m:Int) (h_0:vs=[.int z,.int m]) (h_2:0<m) (h_3:m<1000) (h_4:∀p H' q,AR H H'->AO H' p q->FL q->Q (.ref p) H'):Qj vs H Q
def Ni:Sp:=λvs H Q _=>Qj vs H Q
theorem UZ:A3 ["_law_cell_here","_law_most","_law_c"] ["_law_cell_here","_law_most"] (Ao sLEase):=BC
theorem Xj(F:Ar K "_law_ease" "_law_ease" sLEase f fd)(G:AU P w K mg base 2 "_law_fraction" ["_law_top","_law_bottom"] Gg):
  An P w K mg base Ay 3 f fd ["_law_cell_here","_law_most"] Ni:=by
 refine F.BD UZ λcdv A outer s H vs Q E hr h=>?_
 obtain⟨z0,m,rfl,m0,m1,q⟩:=h;refine⟨_,AN (Aa (i:=2) UZ.nd rfl (Or.inl rfl) (AK Bt (AK Bl (pv 0) (AK J7 AD AD)) AD))
  (AN (BZ (BX EF (AK Bl (pv 2) AD) AD (BM _)) (AV (Am (BP (AA AD (AA AD AE))))) Bp)
  (AN (BZ (BX EF (AK Bl (pv 2) AD) AD (BM _))
   (AV (Am (Ae G hr (AA (AK BH AD (AK Bl (AK Dt (pv 2) AD) AD)) (AA (AK BH AD (AK Bl (AK Dt (pv 2) AD) AD)) AE))))) Bp)
  (AV (Am (Ae G hr (AA (AK BH AD (AK Bl (AK Dt (pv 2) AD) (pv 1))) (AA (AK BH AD (AK Bl (AK Dt (AK CA (pv 2) (pv 2)) AD) (pv 1))) AE))))))),?_⟩
 have m3:(0:Int)<3:=by decide
 have p45:(0:Int)<10 ^ ((45:Int).toNat):=by decide
 have y0:=gX z0 (jj p45);have y1:=iz z0 p45;refine⟨_,rfl,_,_,rfl,rfl,⟨by decide,by decide,by decide⟩,_,_,rfl,rfl,p45,_,_,rfl,rfl,.inr ⟨by decide,by decide⟩,?_⟩;generalize hz:z0 % 10 ^ ((45:Int).toNat)*48271=z;have hZ:BN z:=by
  refine Nr (n:=200) ?_ (by decide);have e1:(10:Int) ^ ((45:Int).toNat)*48271<2 ^ 200:=by decide
  have e2:((2:Int) ^ 200)=((2 ^ 200:Nat):Int):=by decide
  omega
 have d3:Ue z 3:=⟨by decide,by decide⟩;have gv:∀t b:Int,0<t->t<1000->0<b->b<1000->Gg [.int t,.int b] H Q E:=λt b t0 t1 b0 b1=>⟨t,b,rfl,b0,Nr (n:=10) (by omega) (by decide),λp hp=>q p _ _ (AY hp _) AS (Yn t0 t1 b0 b1)⟩
 refine⟨_,rfl,_,_,rfl,rfl,m3,rfl,_,rfl,?_⟩;refine Hy (λ_=>?_) (λ_=>?_)
 ·refine⟨by exact Bh,λp hp=>?_⟩;exact q p _ 1 (AY hp _) AS ⟨by decide,by decide,by decide⟩
 refine⟨_,rfl,_,_,rfl,rfl,m3,rfl,_,rfl,?_⟩;refine Hy (λ_=>?_) (λ_=>?_)
 ·refine⟨_,rfl,_,_,rfl,rfl,d3,_,_,rfl,rfl,(show(0:Int)<9 by decide),_,_,rfl,rfl,_,rfl,_,_,rfl,rfl,⟨by decide,by decide⟩,_,_,rfl,rfl,(show(0:Int)<9 by decide),_,_,rfl,rfl,?_⟩;have t40:(10:Int)<1000:=by decide
  exact gv _ _ (by omega) (by omega) (by omega) (by omega)
 ·refine⟨_,rfl,_,_,rfl,rfl,d3,_,rfl,_,_,rfl,rfl,m0,_,_,rfl,rfl,_,rfl,_,rfl,_,_,rfl,rfl,?_,_,_,rfl,rfl,⟨by decide,by decide⟩,_,rfl,_,_,rfl,rfl,m0,_,_,rfl,rfl,?_⟩
  ·exact⟨hZ,hZ⟩
  have a1:=gX (z / 3) (jj m0);have a2:=iz (z / 3) m0;have b1:=gX (z*z / 7) (jj m0);have b2:=iz (z*z / 7) m0;exact gv _ _ (by omega) (by omega) (by omega) (by omega)
inductive SI(K:PySem.W.Frag)(vs:List V)(H:Hp)(Q:VK):Prop
 | mk (a:Addr) (ns:List Int) (k:Nat) (h_0:vs=[.ref a,.int (k:Int)]) (h_1:U6 K H a ns) (h_4:∀z,Q (.int z) H):SI K vs H Q
def Le(K:PySem.W.Frag):Sp:=λvs H Q _=>SI K vs H Q
theorem dB:A3 ["_law_script","_law_k"] ["_law_script","_law_k"] (Ao sCellAt):=BC
theorem Yd(F:Ar K "_law_cell" "_law_cell" sCellAt f fd)(ml:mg "len" = none):An P w K mg base Ay 1 f fd ["_law_script","_law_k"] (Le K):=by
 refine F.BD dB λcdv A outer s H vs Q E hr h=>?_
 obtain⟨a,ns,k,rfl,⟨hS,hl⟩,q⟩:=h;refine⟨_,AN (BZ (BX Ht (pv 1) (A8 (Bs (K:=K)) (by rfl) ml BR (AA (pv 0) AE)) (BM _)) (AV (Am (pL K (pv 0) (pv 1)))) Bp) (AV (Am AD)),?_⟩;refine⟨_,rfl,_,rfl,a,_,rfl,.inl hS,_,_,rfl,rfl,_,rfl,?_⟩;refine Hy (λz=>?_) (λ_=>q _);have z':=of_decide_eq_true z;rw[ed] at z';have hk:k<ns.length:=by omega
 exact⟨_,rfl,_,rfl,a,_,_,_,rfl,rfl,hS,BF (by rw[fg,eh hk]; rfl),q _⟩
abbrev dn(c:Int)(ts:List (List Int)):List (List Int):=ts.map λt=>t.map λx=>x-c
theorem dr(ts:List (List Int)):dn 0 ts=ts:=by
 unfold dn
 conv=>rhs; rw[<-List.map_id ts]
 refine ip λt _=>?_
 show t.map (λx=>x-0)=t
 conv=>rhs; rw[<-List.map_id t]
 refine ip λx _=>?_
 show x-0=x;omega
theorem YD(ρ:Int->Int)(t:List Int):A5 (t.map ρ)=(A5 t).map λp=>(ρ p.1,ρ p.2):=by
 rw[Eb,Eb];cases t with
 | nil=>rfl
 | cons a t =>
  have e:((a :: t).map ρ).getLastD 0=ρ ((a :: t).getLastD 0):=by
   rw[gF,gF,List.getLast?_map,List.getLast?_cons];rfl
  rw[e,LJ]
theorem XA(ρ:Int->Int)(ts:List (List Int)):Aq (ts.map λt=>t.map ρ)=(Aq ts).map λp=>(ρ p.1,ρ p.2):=by
 unfold Aq;rw[gG,List.map_flatten,gG];congr 1;refine ip λt _=>?_
 exact YD ρ t
theorem Sv{ρ:Int->Int}(inj:∀x y,ρ x=ρ y->x=y)(e:Int):∀L:List (Int×Int),lk (L.map λp=>(ρ p.1,ρ p.2)) (ρ e)=(lk L e).map ρ
 | []=>rfl
 | p :: L=>by
  have ih:=Sv inj e L;unfold lk at ih ⊢;rw[fk];by_cases h:p.1=e
  ·rw[List.find?_cons_of_pos (by simp[h]),List.find?_cons_of_pos (by simpa using h)];rfl
  ·rw[List.find?_cons_of_neg (by simp; exact λz=>h (inj _ _ z)),List.find?_cons_of_neg (by simpa using h)];exact ih
theorem Jt{c x y:Int}(h:x-c=y-c):x=y:=by omega
theorem aN{ts:List (List Int)}{n:Nat}(T:CC n ts)(c:Int){y:Int}(hy:AH n y):lk (Aq (dn c ts)) (oth y-c)=some (AL ts y-c):=by
 unfold dn;rw[XA (λx=>x-c),Sv (ρ:=λx=>x-c) (λx y=>Jt) (oth y) (Aq ts),T.Jz hy];rfl
theorem RX(c:Int)(ts:List (List Int)):(dn c ts).flatten=ts.flatten.map λx=>x-c:=Jm _ ts
theorem bD{c:Int}{ts:List (List Int)}(h:ts.flatten.Nodup):(dn c ts).flatten.Nodup:=by
 rw[RX];exact OC h λx _ y _ e=>Jt e
theorem Lj{c:Int}{ts:List (List Int)}{p:Nat}{t:List Int}(h:ts[p]?=some t):(dn c ts)[p]?=some (t.map λx=>x-c):=by rw[fg,h]; rfl
theorem Sm{c:Int}{ts:List (List Int)}{p:Nat}{u:List Int}(h:(dn c ts)[p]?=some u):∃t,ts[p]?=some t/\u=t.map λx=>x-c:=by
 rw[fg] at h;cases e:ts[p]? with
 | none=>rw[e] at h; cases h
 | some t=>rw[e] at h; exact⟨t,rfl,(fC h).symm⟩
theorem Nz{c x:Int}:∀{t:List Int},x∈t->(t.map λy=>y-c).idxOf (x-c)=t.idxOf x
 | a :: t,h=>by
  rw[fk,List.idxOf_cons,List.idxOf_cons];by_cases e:a=x
  ·subst e; simp
  ·have e1:(a == x)=false:=beq_false_of_ne e;have e2:(a-c == x-c)=false:=beq_false_of_ne (λz=>e (Jt z));rw[e1,e2];rcases fE.mp h with z | z
   ·exact absurd z.symm e
   ·show(t.map λy=>y-c).idxOf (x-c)+1=t.idxOf x+1;rw[Nz z]
theorem LY{c x:Int}{t:List Int}:x-c∈(t.map λy=>y-c)↔x∈t:=by
 rw[fi];constructor
 ·rintro⟨y,hy,e⟩;rw[<-Jt e]; exact hy
 ·intro h; exact⟨x,h,rfl⟩
theorem Zw(c:Int)(ts:List (List Int))(p:Nat)(t:List Int):(dn c ts).set p (t.map λx=>x-c)=dn c (ts.set p t):=by unfold dn; rw[jo]
theorem cW:∀k:Nat,k<40->Builtin.bitXor ((k:Int)-2) 1=oth (k:Int)-2:=by decide
theorem UM{y:Int}{n:Nat}(h:AH n y)(hn:n<=40):Builtin.bitXor (y-2) 1=oth y-2:=by
 obtain⟨h1,h2⟩:=h
 have:=cW y.toNat (by omega)
 rwa [show((y.toNat:Nat):Int)=y by omega] at this
inductive QN(vs:List V)(H:Hp)(Q:VK):Prop
 | mk (T:Addr) (bs:List Addr) (us:List (List Int)) (h_0:vs=[.ref T]) (h_1:FF H T bs us) (h_2:us.flatten.Nodup) (h_3:us.flatten.length<=1000) (h_4:∀d H',AR H H'->H d=none->H' d=some (.dK (A7 (Aq us)))->Q (.ref d) H'):QN vs H Q
def Mb:Sp:=λvs H Q _=>QN vs H Q
theorem FT:A3 ["_law_turns","_law_ahead_here","_law_turn","_law_at","_law_end"] ["_law_turns"] (Ao s_law_ahead):=BC
theorem WV(F:Ar K "_law_ahead" "_law_ahead" s_law_ahead f fd)(me:mg "enumerate" = none):An P w K mg base Ay 1 f fd ["_law_turns"] Ij:=by
 refine F.BD FT λcdv A outer s H vs Q E hr h=>?_
 obtain⟨a,bs,ts,n,rfl,hT,T,hn,q⟩:=h;have hu:=Eu hr;refine⟨Nt K,AN (Aa (i:=1) FT.nd rfl (Or.inl rfl) IX)
  (AN (Bu fT rfl (Eo (pv 0)) (Ah (i:=2) FT.nd rfl (Or.inl rfl))
   (AV (Bu fT rfl (HW (by rfl) me (AA (pv 2) AE)) (Ga rfl (BE (Ah (i:=3) FT.nd rfl (Or.inl rfl)) (BE (Ah (i:=4) FT.nd rfl (Or.inl rfl)) CO)))
    (AV (EZ hu (pv 1) (pv 4) (A2 Bj (pv 2) (AK Cq (pv 3) AD) (λ_ _=>rfl)) rfl)))))
  (AV (Am (pv 1)))),Qc hT T hn q⟩
theorem Vo(F:Ar K "_law_ahead" "_law_ahead" s_law_ahead f fd)(me:mg "enumerate" = none):An P w K mg base Ay 1 f fd ["_law_turns"] Mb:=by
 refine F.BD FT λcdv A outer s H vs Q E hr h=>?_
 obtain⟨T,bs,us,rfl,M,nd,hn,q⟩:=h;have hu:=Eu hr;refine⟨_,AN (Aa (i:=1) FT.nd rfl (Or.inl rfl) IX)
  (AN (Bu fT rfl (Hn (K:=K) (pv 0)) (Ah (i:=2) FT.nd rfl (Or.inl rfl))
   (AV (Bu fT rfl (Ib (by rfl) me (AA (pv 2) AE)) (DZ (n:=2) (K:=K) rfl (BE (Ah (i:=3) FT.nd rfl (Or.inl rfl)) (BE (Ah (i:=4) FT.nd rfl (Or.inl rfl)) CO)))
    (AV (EZ hu (pv 1) (pv 4) (pL K (pv 2) (AK Cq (pv 3) AD)) rfl)))))
  (AV (Am (pv 1)))),?_⟩
 intro d hd
 try dsimp only
 try refine Co ?_
 first | refine DA λUL1 hUL1=>?_ | refine nx_hide λUL1 hUL1=>?_
 refine⟨_,rfl,T,rfl,⟨_,AM.of (AY hd _ _ _ M.h1)⟩,?_⟩;refine Mc (xs:=bs.map V.ref) (λi σ H2=>∃t k e,σ=[some (.ref T),some (.ref d),t,k,e]/\AR H H2/\H2 d=some (.dK (A7 (Aq (us.take i))))) ⟨none,none,none,rfl,AY hd _,AS⟩ (λi σ H2 _ ⟨_,_,_,_,s,_⟩=>AM.of (s _ _ M.h1)) ?_ ?_
 ·rintro i x σ H2 hx ⟨t0,k0,e0,rfl,sm,hd2⟩;obtain⟨b,row,rfl,hb,hrow,hB0⟩:=M.rows.ref hx;have hB:=sm _ _ hB0
  try dsimp only
  try refine Co ?_
  first | refine DA λUL2 hUL2=>?_ | refine nx_hide λUL2 hUL2=>?_
  refine⟨_,rfl,b,_,rfl,hB,?_⟩;refine Jf (xs:=row.map V.int) (λj σ H3=>∃k e,σ=[some (.ref T),some (.ref d),some (.ref b),k,e]/\AR H H3/\H3 d=some (.dK (A7 (Aq (us.take i)++(A5 row).take j)))) ⟨k0,e0,rfl,sm,by rw[List.take_zero,iF]; exact hd2⟩
   (λj σ H3 _ ⟨_,_,_,s,_⟩=>s _ _ hB0) ?_ ?_
  ·rintro j x σ H3 p hx3 ⟨k1,e1,rfl,sm3,hd3⟩ hp;obtain⟨e,rfl,he⟩:=Ep hx3;have hj:j<row.length:=(eu.mp he).1;have sm4:AR H (AF H3 p (.AG [.int j,.int e])):=sm3.trans (AY hp _);have hd4:(AF H3 p (.AG [.int j,.int e])) d=some (.dK (A7 (Aq (us.take i)++(A5 row).take j))):=AY hp _ _ _ hd3;have keys:(Aq (us.take i)++(A5 row).take j).map (·.1)=(us.take i).flatten++row.take j:=by
    rw[fv,El,List.map_take,IY]
   have fr:e∉(Aq (us.take i)++(A5 row).take j).map (·.1):=by rw[keys]; exact Jh nd hrow he
   have ln:(A7 (Aq (us.take i)++(A5 row).take j)).length<sizeLine:=by
    have l1:=congrArg List.length keys;rw[ed] at l1;have l2:((us.take i).flatten++row.take j).length<=us.flatten.length:=by
     have e1:us=us.take i++us.drop i:=(iN i us).symm;have hd:us.drop i=row :: us.drop (i+1):=by
      obtain⟨hi,q1⟩:=eu.mp hrow;rw[<-q1,iV]
     have e2:us.flatten.length=(us.take i).flatten.length+(row.length+(us.drop (i+1)).flatten.length):=by
      conv=>lhs; rw[e1,hd]
      rw[gQ,fZ,fj,fj]
     rw[e2,fj,g9];omega
    rw[ed,l1];exact Ca (by omega)
   refine⟨p,_,rfl,AJ.of AS,rfl,_,_,rfl,_,_,rfl,rfl,?_⟩;refine⟨_,rfl,_,rfl,_,_,rfl,rfl,b,_,_,_,rfl,rfl,AM.of (sm4 _ _ hB0),RV hj,_,rfl,_,rfl,d,_,rfl,DR.k (k:=Sum.inl e) hd4 ln,?_⟩;refine⟨_,_,rfl,sm4.up hd _,?_⟩;rw[AS,GY fr,gW];have rp:(A5 row)[j]?=some (e,En row j):=by
    unfold A5;rw[fg,gA hj];show some (row.getD j 0,En row j)=_;rw[eO,he];rfl
   rw[Dr rp]
  ·rintro σ H3 ⟨k1,e1,rfl,sm3,hd3⟩;subst hUL2;refine⟨_,_,_,rfl,sm3,?_⟩;rw[hd3,Dr hrow,Pg,ed,show(A5 row).take row.length=A5 row from fH (by rw[Mr]; exact eU _)]
 ·rintro σ H2 ⟨t0,k0,e0,rfl,sm,hd2⟩;subst hUL1;refine⟨_,rfl,q d H2 sm hd ?_⟩;rw[hd2,ed,fH (by rw[M.rows.1]; exact eU _)]
inductive RZ(c:Int)(vs:List V)(H:Hp)(Q:VK):Prop
 | mk (d:Addr) (ts:List (List Int)) (n:Nat) (s:Int) (h_0:vs=[.ref d,.int (s-c)]) (h_1:H d=some (.dK (A7 (Aq (dn c ts))))) (h_2:CC n ts) (h_3:n<=40) (h_4:AH n s) (h_5:∀p H',AR H H'->H p=none->H' p=some (.AB (((BI (AL ts) s).map λx=>x-c).map V.int))->Q (.ref p) H'):RZ c vs H Q
def J8(c:Int):Sp:=λvs H Q _=>RZ c vs H Q
theorem L3:A3 ["_law_ahead_here","_law_start","_law_ring","_law_here"] ["_law_ahead_here","_law_start"] (Ao s_law_land):=BC
theorem SU(c:Int)(hx:∀{y:Int} {n:Nat},AH n y->n<=40->Builtin.bitXor (y-c) 1=oth y-c)(F:Ar K "_law_land" "_law_land" s_law_land f fd):An P w K mg base Ay 1 f fd ["_law_ahead_here","_law_start"] (J8 c):=by
 refine F.BD L3 λcdv A outer s H vs Q E hr h=>?_
 obtain⟨d,ts,n,s0,rfl,hd,T,hn,hs0,q⟩:=h;have hu:=Eu hr;have PM:=T.perm;have PE:=Fp PM hs0;refine⟨_,AN (Aa (i:=2) L3.nd rfl (Or.inl rfl) (CB (AA (pv 1) AE)))
  (AN (Aa (i:=3) L3.nd rfl (Or.inl rfl) (DE hu (pv 0) (AK LV (pv 1) AD) (λ_ _=>rfl)))
  (AN (Ie fT (BX FP (pv 3) (pv 1) (BM _))
   (AN (DB (C4 K gh gL gM Ds (pv 2) (AA (pv 3) AE)))
    (AV (Aa (i:=3) L3.nd rfl (Or.inl rfl) (DE hu (pv 0) (AK LV (pv 3) AD) (λ_ _=>rfl))))))
  (AV (Am (pv 2))))),?_⟩
 refine⟨_,rfl,by exact EO,λl hl=>?_⟩;have get:∀{H2:Hp} {y:Int},H2 d=some (.dK (A7 (Aq (dn c ts))))->AH n y->CT H2 d (.int (Builtin.bitXor (y-c) 1)) (some (.int (AL ts y-c))):=by
  intro H2 y h2 hy;rw[hx hy hn];exact Im h2 (aN T c hy)
 refine⟨_,rfl,_,rfl,_,_,rfl,rfl,d,_,rfl,get (AY hl _ _ _ hd) hs0,?_⟩;refine Ic (λσ H2=>∃j,1<=j/\j<=BU (AL ts) s0/\σ=[some (.ref d),some (.int (s0-c)),some (.ref l),some (.int (A1 (AL ts) j s0-c))]/\AR H H2/\H2 l=some (.AB (((Ci (AL ts) s0 j).map λx=>x-c).map V.int)))
  (λ_ H2=>match H2 l with | some (.AB xs)=>BU (AL ts) s0-xs.length | _=>0) ⟨1,eU _,PE.1,rfl,AY hl _,AS⟩ ?_ ?_
 ·rintro σ H2 ⟨j,j1,j2,rfl,sm,hl2⟩;refine⟨_,rfl,_,rfl,rfl,_,rfl,?_⟩;by_cases he:A1 (AL ts) j s0=s0
  ·refine FO (iv (by rw[he])) ?_;have hj:j=BU (AL ts) s0:=by
    rcases gc j (BU (AL ts) s0) with z | z
    ·exact absurd he (PE.2.2 j j1 z)
    ·omega
   subst hj;exact⟨_,rfl,q l _ sm hl hl2⟩
  ·refine JH (E6 (λz=>he (Jt z))) ?_;have hj:j<BU (AL ts) s0:=by
    rcases gc j (BU (AL ts) s0) with z | z
    ·exact z
    ·exact absurd (by rw[show j=BU (AL ts) s0 by omega]; exact PE.2.1) he
   have hpl:=TF PM hs0;have hlen:(Ci (AL ts) s0 j).length=j:=MQ;refine⟨_,rfl,.inl ⟨rfl,_,AM.of hl2⟩,_,rfl,l,_,_,rfl,rfl,hl2,by rw[ed,ed,hlen]; exact Ca (by omega),?_⟩;have sm2:=sm.up hl (.AB (((Ci (AL ts) s0 j).map λx=>x-c).map V.int++[.int (A1 (AL ts) j s0-c)]));refine⟨_,rfl,_,rfl,_,_,rfl,rfl,d,_,rfl,get (sm2 _ _ hd) (Dg PM hs0 j),?_⟩;refine⟨⟨j+1,by omega,hj,rfl,sm2,?_⟩,?_⟩
   ·rw[AS,P5,fv,fv];rfl
   ·rw[AS,hl2];show BU (AL ts) s0-(((Ci (AL ts) s0 j).map λx=>x-c).map V.int++[V.int (A1 (AL ts) j s0-c)]).length<BU (AL ts) s0-(((Ci (AL ts) s0 j).map λx=>x-c).map V.int).length;rw[fj,ed,ed,hlen,iu];omega
 ·rintro σ H2 Q1 Q2 hq ⟨v,e,v',e',sc,b,eb,z⟩;exact⟨v,e,v',e',sc,b,eb,hq _ _ z⟩
inductive QD(vs:List V)(H:Hp)(Q:VK):Prop
 | mk (T:Addr) (bs:List Addr) (ts:List (List Int)) (n:Nat) (y:Int) (h_0:vs=[.ref T,.int (y-2)]) (h_1:FF H T bs (dn 2 ts)) (h_2:n<=40) (h_3:AH n y) (h_4:oth y∈ts.flatten) (h_5:(∀t∈ts,t.length<=1000)) (h_6:∀p t q H',ts[p]?=some t->oth y∈t->AR H H'->H' q=some (.AG [.int ((p:Nat):Int),.int ((t.idxOf (oth y):Nat):Int)])->Q (.ref q) H'):QD vs H Q
def Md:Sp:=λvs H Q _=>QD vs H Q
theorem Ow:A3 ["_law_turns","_law_end","_law_place","_law_turn"] ["_law_turns","_law_end"] (Ao s_law_corner):=BC
theorem WJ(F:Ar K "_law_corner" "_law_corner" s_law_corner f fd)(me:mg "enumerate" = none):An P w K mg base Ay 1 f fd ["_law_turns","_law_end"] Md:=by
 refine F.BD Ow λcdv A outer s H vs Q E hr h=>?_
 obtain⟨T,bs,ts,n,y,rfl,M,hn,hy,ho,hl,q⟩:=h;refine⟨_,AN (Bu fT rfl (Ib (by rfl) me (AA (pv 0) AE)) (DZ (n:=2) (K:=K) rfl (BE (Ah (i:=2) Ow.nd rfl (Or.inl rfl)) (BE (Ah (i:=3) Ow.nd rfl (Or.inl rfl)) CO)))
   (AV (BZ (BX W2 (AK LV (pv 1) AD) (pv 3) (by with_unfolding_all rfl))
    (AV (Am (BP (AA (pv 2) (AA (C4 K gh PySem.F.slot_list_index PySem.F.type_list_index RK (pv 3) (AA (AK LV (pv 1) AD) AE)) AE))))) Bp)))
  (AV (Am (BP (AA AD (AA AD AE))))),?_⟩
 have ex:=UM hy hn
 try dsimp only
 try refine Co ?_
 first | refine DA λUL4 hUL4=>?_ | refine nx_hide λUL4 hUL4=>?_
 refine⟨_,rfl,T,_,rfl,M.h1,?_⟩;refine Jf (xs:=bs.map V.ref) (λi σ H2=>(∃u v,σ=[some (.ref T),some (.int (y-2)),u,v])/\AR H H2/\∀j t,j<i->ts[j]?=some t->oth y∉t) ⟨⟨none,none,rfl⟩,AR.refl _,λj t h=>by omega⟩ (λi σ H2 _ ⟨_,s2,_⟩=>s2 _ _ M.h1) ?_ ?_
 ·rintro i x σ H2 p hx ⟨⟨u,v,rfl⟩,s2,hz⟩ hp;obtain⟨b,t',rfl,hb,hy',hB⟩:=M.rows.ref hx;obtain⟨t,ht,rfl⟩:=Sm hy';have s3:=s2.trans (AY hp (.AG [.int i,.ref b]));refine⟨p,_,rfl,AJ.of AS,rfl,_,_,rfl,_,_,rfl,rfl,?_⟩;generalize AF H2 p (.AG [.int i,.ref b])=H3 at s3;have hB3:=s3 _ _ hB;have tl:t.length<=1000:=hl t (eQ ht);refine⟨_,rfl,_,_,rfl,rfl,_,rfl,b,_,rfl,.inl (AM.of hB3),rfl,WO _,_,rfl,?_⟩;rw[eZ (by decide:¬(false=true)),XM,ex];by_cases hm:oth y∈t
  ·refine DH (LY.mpr hm) ?_;refine⟨_,rfl,_,rfl,.inl ⟨rfl,_,AM.of hB3⟩,_,rfl,_,_,rfl,rfl,b,_,_,rfl,rfl,hB3,(by rw[ex]; exact LY.mpr hm),by rw[ed]; omega,by exact Bh,λp2 hp2=>?_⟩;rw[ex,Nz hm];exact q i t p2 _ ht hm (s3.trans (AY hp2 _)) AS
  ·refine DL (λz=>hm (LY.mp z)) ⟨⟨_,_,rfl⟩,s3,λj t' hj hjt=>?_⟩;rcases gc j i with h3 | h3
   ·exact hz j t' h3 hjt
   ·obtain rfl:j=i:=by omega
    rw[ht] at hjt;cases hjt;exact hm
 ·rintro σ H2 ⟨⟨u,v,rfl⟩,s2,hz⟩;subst hUL4
  exfalso
  obtain⟨t,ht,hm⟩:=fV.mp ho;obtain⟨j,hj,ej⟩:=fP ht;refine hz j t ?_ (by rw[eh hj,ej]) hm;rw[ed,M.rows.1];simpa using hj
def Fr(T h:Addr)(bs:List Addr)(H H':Hp):Prop:=∀b o,b∉T :: h :: bs->H b=some o->H' b=some o
theorem Fr.refl{T h:Addr}{bs:List Addr}(H:Hp):Fr T h bs H H:=λ_ _ _ e=>e
theorem Fr.same{T h:Addr}{bs:List Addr}{H H':Hp}(s:AR H H'):Fr T h bs H H':=λb o _ e=>s b o e
theorem Fr.trans{T h:Addr}{bs:List Addr}{H H1 H2:Hp}(a:Fr T h bs H H1)(b:Fr T h bs H1 H2):Fr T h bs H H2:=λc o n e=>b c o n (a c o n e)
theorem Fr.up{T h:Addr}{bs:List Addr}{H:Hp}{x:Addr}(hx:x∈T :: h :: bs)(o:HO):Fr T h bs H (AF H x o):=λc u n e=>by
 rw[Ad (λz=>n (by rw[z]; exact hx))]; exact e
structure Cf(H:Hp)(R T:Addr)(cs bs:List Addr)(ts:List (List Int))(rs:List AQ):Prop where
 tm:FF H T bs (dn 2 ts)
 r1:H R=some (.AB (cs.map V.ref))
 rr:At Bf H cs rs
 rn:R∉T :: bs
theorem Cf.keep{H H':Hp}{R T:Addr}{cs bs:List Addr}{ts:List (List Int)}{rs:List AQ}(M:Cf H R T cs bs ts rs)(s:AR H H'):Cf H' R T cs bs ts rs:=⟨M.tm.keep s,s _ _ M.r1,M.rr.keep Cp s,M.rn⟩
theorem Cf.bl{H:Hp}{R T:Addr}{cs bs:List Addr}{ts:List (List Int)}{rs:List AQ}(M:Cf H R T cs bs ts rs):bs.length=ts.length:=by rw[M.tm.rows.1,ed]
theorem Cf.turn{H:Hp}{R T b:Addr}{cs bs:List Addr}{ts:List (List Int)}{rs:List AQ}{i:Nat}{t:List Int}(M:Cf H R T cs bs ts rs)(hb:bs[i]?=some b):Cf (AF H b (.AB ((t.map λx=>x-2).map V.int))) R T cs bs (ts.set i t) rs:=by
 have bm:b∈bs:=eQ hb;have li:i<ts.length:=by rw[<-M.bl]; exact(eu.mp hb).1
 have hB:H b=some (.AB ((ts[i].map λx=>x-2).map V.int)):=M.tm.rows.2 i b _ hb (Lj (eh li));refine⟨?_,?_,IU hB M.rr,M.rn⟩
 ·have:=M.tm.put (t:=t.map λx=>x-2) hb
  rw[Zw] at this;exact this
 ·rw[Ad (λz=>M.rn (by rw[z]; exact gJ _ bm))]; exact M.r1
theorem Cf.new{H:Hp}{R T l:Addr}{cs bs:List Addr}{ts:List (List Int)}{rs:List AQ}(M:Cf H R T cs bs ts rs)(hl:H l=none):l∉T :: R :: bs:=by
 intro m;rcases fE.mp m with z | z
 ·rw[z,M.tm.h1] at hl; cases hl
 ·rcases fE.mp z with z | z
  ·rw[z,M.r1] at hl; cases hl
  ·obtain⟨k,hk,ek⟩:=fP z;have hl2:k<(dn 2 ts).length:=by rw[<-M.tm.rows.1]; exact hk
   have:=M.tm.rows.2 k l (dn 2 ts)[k] (by rw[eh hk,ek]) (eh hl2)
   unfold Bv at this;rw[hl] at this; cases this
theorem Cf.more{H:Hp}{R T l:Addr}{cs bs:List Addr}{ts:List (List Int)}{rs:List AQ}{u:List Int}(M:Cf H R T cs bs ts rs)(hl:H l=none):Cf (AF (AF H l (.AB ((u.map λx=>x-2).map V.int))) T (.AB (bs.map V.ref++[.ref l]))) R T cs (bs++[l]) (ts++[u]) rs:=by
 have nl:=M.new hl;obtain⟨H1,zg,s1,e1⟩:=nw hl (.AB ((u.map λx=>x-2).map V.int));rw[zg];have M1:=M.keep s1;have lT:l≠T:=λz=>nl (by simp[z])
 have lR:R≠l:=λz=>nl (by simp[z])
 have lb:l∉bs:=λz=>nl (by simp[z])
 have RT:R≠T:=λz=>M.rn (by simp[z])
 obtain⟨n1,n2⟩:=ig.mp M.tm.nd;refine⟨⟨by rw[AS]; simp,?_,?_⟩,by rw[Ad RT]; exact M1.r1,IU M1.tm.h1 M1.rr,?_⟩
 ·have a1:=M1.tm.rows.snoc (b:=l) (x:=u.map λx=>x-2) e1;rw[show dn 2 (ts++[u])=dn 2 ts++[u.map λx=>x-2] by simp[dn]];refine⟨a1.1,λi b x q1 q2=>?_⟩
  have:=a1.2 i b x q1 q2
  unfold Bv at this ⊢;have bT:b≠T:=λz=>by
   subst z;rcases fm.mp (eQ q1) with w | w
   ·exact n1 w
   ·exact lT (fQ.mp w).symm
  rw[Ad bT]; exact this
 ·rw[ig];refine⟨λz=>?_,?_⟩
  ·rcases fm.mp z with w | w
   ·exact n1 w
   ·exact lT (fQ.mp w).symm
  ·rw[iD];refine⟨n2,by simp,λx hx y hy z=>?_⟩;rw[fQ] at hy;subst hy; subst z;exact lb hx
 ·intro z;rcases fE.mp z with w | w
  ·exact RT w
  ·rcases fm.mp w with w | w
   ·exact M.rn (gJ _ w)
   ·exact lR (fQ.mp w)
theorem Cf.MB{H:Hp}{R T:Addr}{cs cs' bs:List Addr}{ts:List (List Int)}{rs rs':List AQ}{ys:List V}(M:Cf H R T cs bs ts rs)(hy:ys=cs'.map V.ref)(hr:At Bf H cs' rs'):Cf (AF H R (.AB ys)) R T cs' bs ts rs':=by
 subst hy;refine⟨⟨?_,⟨M.tm.rows.1,λi b x e1 e2=>?_⟩,M.tm.nd⟩,AS,IU M.r1 hr,M.rn⟩
 ·rw[Ad (λz=>M.rn (by rw[z]; exact ir ..))]; exact M.tm.h1
 ·show AF H R _ b=_;rw[Ad (λz=>M.rn (by rw[<-z]; exact gJ _ (eQ e1)))];exact M.tm.rows.2 i b x e1 e2
theorem FrN.free{R T l:Addr}{cs bs:List Addr}{H H':Hp}{ts:List (List Int)}{rs:List AQ}(F:Fr T R bs H H')(M:Cf H' R T cs bs ts rs)(hl:H' l=none):H l=none:=by
 cases e:H l with
 | none=>rfl
 | some o =>
  have:=F l o (M.new hl) e
  rw[this] at hl; cases hl
theorem ZE{rs:List AQ}{k x:Nat}{r:AQ}{q:Rat}(h:rs[k]?=some r):CI (rs.set k (r.1,x,q))=(CI rs).set (2*k+1) x:=by
 induction rs generalizing k with
 | nil=>simp at h
 | cons r0 rs ih =>
  cases k with
  | zero=>cases h; rfl
  | succ k =>
   have:=ih (k:=k) (by simpa using h)
   show r0.1 :: r0.2.1 :: CI (rs.set k (r.1,x,q))=(r0.1 :: r0.2.1 :: CI rs).set (2*(k+1)+1) x;rw[this,show 2*(k+1)+1=2*k+1+1+1 by omega];rfl
abbrev hs2(rs:List AQ):List Nat:=[0,1]++CI rs
inductive SR(vs:List V)(H:Hp)(Q:VK):Prop
 | mk (R T e:Addr) (cs bs:List Addr) (ts:List (List Int)) (rs:List AQ) (c:Int) (qe:Rat) (h_0:vs=[.ref R,.ref T,.int c,.ref e]) (h_1:Cf H R T cs bs ts rs) (h_2:Gn ts (hs2 rs)) (h_3:rs.length<=13) (h_5:AO H e qe) (h_6:FL qe) (h_7:(∀r∈rs,FL r.2.2)) (h_8:∀H' cs' bs' ts' rs',Fr T R bs H H'->(∀b∈bs',b∈bs\/H b=none)->Cf H' R T cs' bs' ts' rs'->Gn ts' (hs2 rs')->rs'.length=rs.length+1->(∀r∈rs',FL r.2.2)->Q .BA H'):SR vs H Q
def N5:Sp:=λvs H Q _=>SR vs H Q
theorem D2:A3 ["_law_ropes","_law_turns","_law_cell_here","_law_ease_here","_law_many","_law_start","_law_place","_law_at","_law_rope","_law_one","_law_far","_law_old","_law_ring","_law_spot","_law_c"] ["_law_ropes","_law_turns","_law_cell_here","_law_ease_here"] (Ao sGrow):=BC
set_option maxHeartbeats 8000000 in
seal L2.CW L2.PS L2.PE L2.PA in
theorem YK (F:Ar K "_law_grow" "_law_grow" sGrow f fd) (G1:AU P w K mg base 1 "_law_corner" ["_law_turns","_law_end"] Md)
  (G2:AU P w K mg base 1 "_law_ahead" ["_law_turns"] Mb)
  (G3:AU P w K mg base 1 "_law_land" ["_law_ahead_here","_law_start"] (J8 2)) (ml:mg "len" = none) :
  An P w K mg base Ay 2 f fd ["_law_ropes","_law_turns","_law_cell_here","_law_ease_here"] N5:=by
 refine F.BD D2 λcdv A outer s H vs Q E hr h=>?_
 obtain⟨R,T,e,cs,bs,ts,rs,cell,qe,rfl,M,g,h13,he,eke,ekr,q⟩:=h;refine⟨_,AN (Aa (i:=4) D2.nd rfl (Or.inl rfl) (AK Bt AD (A8 (Bs (K:=K)) (by rfl) ml BR (AA (pv 0) AE))))
  (AN (Aa (i:=14) D2.nd rfl (Or.inl rfl) (AK Bl (AK BH (AK Bt (AK Bl (pv 2) (AK J7 AD AD)) AD) AD) AD))
  (AN (Aa (i:=5) D2.nd rfl (Or.inl rfl) (AK Cq (AK Bl (pv 14) (AK BH (pv 4) AD)) AD))
  (AN (Aa (i:=14) D2.nd rfl (Or.inl rfl) (AK Dt (pv 14) (AK BH (pv 4) AD)))
  (AN (DF (Ae G1 hr (AA (pv 1) (AA (pv 5) AE))) (DZ (n:=2) (K:=K) rfl (BE (Ah (i:=6) D2.nd rfl (Or.inl rfl)) (BE (Ah (i:=7) D2.nd rfl (Or.inl rfl)) CO))))
  (AV (BZ (BX EF (AK Bl (pv 14) AD) AD (BM _))
   (AN (DB (C4 K gh PySem.F.slot_list_insert PySem.F.type_list_insert MX (pL K (pv 1) (pv 6)) (AA (pv 7) (AA (pv 4) AE))))
   (AN (DB (C4 K gh gL gM Ds (pv 1) (AA (CB (AA (AK BH (pv 4) AD) AE)) AE)))
   (AV (DB (C4 K gh gL gM Ds (pv 0) (AA (BP (AA (pv 6) (AA (AK Cq (A8 (Bs (K:=K)) (by rfl) ml BR (AA (pv 1) AE)) AD) (AA (pv 3) AE)))) AE))))))
   (AV (BZ (BX EF (AK Bl (pv 14) AD) AD (BM _))
    (AN (Aa (i:=8) D2.nd rfl (Or.inl rfl) (AK Bl (AK Dt (pv 14) AD) (A8 (Bs (K:=K)) (by rfl) ml BR (AA (pv 0) AE))))
    (AN (DF (pL K (pv 0) (pv 8)) (DZ (n:=3) (K:=K) rfl (BE (Ah (i:=9) D2.nd rfl (Or.inl rfl)) (BE (Ah (i:=10) D2.nd rfl (Or.inl rfl)) (BE (Ah (i:=11) D2.nd rfl (Or.inl rfl)) CO)))))
    (AN (DF (AK BH (pv 4) AD) (EB (pL K (pv 1) (pv 10)) (C4 K gh PySem.F.slot_list_index PySem.F.type_list_index RK (pL K (pv 1) (pv 10)) (AA (AK BH (AK Bt AD (pv 8)) AD) AE)) D9))
    (AN (DB (C4 K gh gL gM Ds (pv 1) (AA (CB (AA (AK BH (AK Bt AD (pv 8)) AD) (AA (pv 4) AE))) AE)))
    (AN (DF (BP (AA (pv 9) (AA (AK Cq (A8 (Bs (K:=K)) (by rfl) ml BR (AA (pv 1) AE)) AD) (AA (pv 11) AE)))) (EB (pv 0) (pv 8) D9))
    (AV (DB (C4 K gh gL gM Ds (pv 0) (AA (BP (AA (AK Cq (A8 (Bs (K:=K)) (by rfl) ml BR (AA (pv 1) AE)) AD) (AA (pv 10) (AA (pv 3) AE)))) AE)))))))))
    (AN (Aa (i:=12) D2.nd rfl (Or.inl rfl) (Ae G3 hr (AA (Ae G2 hr (AA (pv 1) AE)) (AA (pv 5) AE))))
    (AN (DB (C4 K gh PySem.F.slot_list_insert PySem.F.type_list_insert MX (pL K (pv 1) (pv 6)) (AA (pv 7) (AA (pv 4) AE))))
    (AN (DF (Ae G1 hr (AA (pv 1) (AA (pL K (pv 12) (AK Bl (AK Dt (pv 14) AD) (A8 (Bs (K:=K)) (by rfl) ml BR (AA (pv 12) AE)))) AE))) (DZ (n:=2) (K:=K) rfl (BE (Ah (i:=10) D2.nd rfl (Or.inl rfl)) (BE (Ah (i:=13) D2.nd rfl (Or.inl rfl)) CO))))
    (AN (DB (C4 K gh PySem.F.slot_list_insert PySem.F.type_list_insert MX (pL K (pv 1) (pv 10)) (AA (pv 13) (AA (AK BH (pv 4) AD) AE))))
    (AV (DB (C4 K gh gL gM Ds (pv 0) (AA (BP (AA (pv 6) (AA (pv 10) (AA (pv 3) AE)))) AE)))))))))))))))),?_⟩
 have ev:=g.ev;have n4:=g.n4;have PM:=g.DY.perm;have tsl:=g.tsl;have hln:(hs2 rs).length=2*rs.length+2:=by rw[fj,Ea]; simp; omega
 have lc:(((cs.map V.ref).length:Nat):Int)=(rs.length:Int):=by rw[ed,M.rr.1]
 have lcl:(cs.map V.ref).length<sizeLine:=by rw[ed,M.rr.1]; exact Ca (by omega)
 have m4:(0:Int)<4:=by decide
 have mul2:∀x:Int,KN 2 x:=λx=>.inl ⟨by decide,by decide⟩
 have npos:(0:Int)<2*(rs.length:Int)+2:=by omega
 have nE:((hs2 rs).length:Int)=2*(rs.length:Int)+2:=by rw[hln]; push_cast; rfl
 have tl:∀t∈ts,t.length<=1000:=λt ht=>by have:=Ml ht; rw[g.DY.len] at this; omega
 refine⟨_,rfl,R,_,rfl,.inl (AM.of M.r1),_,_,rfl,rfl,mul2 _,?_⟩
 (try dsimp only)
 rw[lc];refine⟨_,rfl,_,_,rfl,rfl,⟨by decide,by decide,by decide⟩,_,_,rfl,rfl,(show(0:Int)<10 ^ ((30:Int).toNat) by decide),_,_,rfl,rfl,.inr ⟨by decide,by decide⟩,_,_,rfl,rfl,_,_,rfl,rfl,(show(0:Int)<2147483647 by decide),?_⟩;have c0:=gX (cell % 10 ^ ((30:Int).toNat)*48271+11) (show(2147483647:Int)≠0 by decide)
 (try dsimp only)
 generalize (cell % 10 ^ ((30:Int).toNat)*48271+11) % 2147483647=c at c0
 try refine Co ?_
 refine⟨_,rfl,_,rfl,_,_,rfl,rfl,_,_,rfl,rfl,npos,_,_,rfl,rfl,?_⟩;refine⟨_,rfl,_,rfl,_,_,rfl,rfl,_,_,rfl,rfl,⟨npos,by show 2*(rs.length:Int)+2<1073741824; omega⟩,?_⟩
 (try dsimp only)
 have c2:0<=c / (2*(rs.length:Int)+2):=Int.ediv_nonneg c0 (by omega);have yR:AH (hs2 rs).length (c % (2*(rs.length:Int)+2)):=⟨gX _ (jj npos),by rw[nE]; exact iz _ npos⟩;generalize c % (2*(rs.length:Int)+2)=y at yR;generalize c / (2*(rs.length:Int)+2)=z at c2;have yo:=DG ev yR;refine⟨_,rfl,_,rfl,T,bs,ts,(hs2 rs).length,y,rfl,M.tm,by omega,yR,(g.mem _).mpr yo,tl,λp t pq H1 hp hx s1 hpq=>?_⟩;refine⟨pq,_,rfl,AJ.of hpq,rfl,_,_,rfl,_,_,rfl,rfl,?_⟩;have M1:=M.keep s1;have he1:=AZ s1 he;have F1:Fr T R bs H H1:=Fr.same s1;obtain⟨t1,t2,rfl,nm⟩:=K5 hx;have ix:=K6 (u2:=t2) nm;have pl:p<ts.length:=(eu.mp hp).1;have tlen:=Na g hp;obtain⟨b,hb,bm,ab,hB⟩:=Nn M1.tm (Lj hp);rw[ix];have e3:∀(x:Int) (u1 u2:List Int) (o:Int),(((u1++o :: u2).map λx=>x-2).map V.int).take ((u1.length:Int)).toNat++V.int (x-2) :: (((u1++o :: u2).map λx=>x-2).map V.int).drop ((u1.length:Int)).toNat=((u1++x :: o :: u2).map λx=>x-2).map V.int:=by
  intro x u1 u2 o;rw[ie,<-List.map_take,<-List.map_drop,<-List.map_take,<-List.map_drop];simp
 have em:(2:Int)*(rs.length:Int)=((hs2 rs).length:Int)-2:=by rw[nE]; omega
 have em1:(2:Int)*(rs.length:Int)+1=((hs2 rs).length:Int)+1-2:=by rw[nE]; omega
 have lbs:=M.bl;refine⟨_,rfl,_,_,rfl,rfl,m4,rfl,_,rfl,?_⟩;refine Hy (λ_=>?_) (λ_=>?_)
 ·
  refine⟨_,rfl,_,rfl,T,_,_,_,rfl,rfl,AM.of M1.tm.h1,ab,.inl ⟨rfl,_,AM.of hB⟩,_,rfl,_,rfl,b,_,(t1.length:Int),.int (2*(rs.length:Int)),rfl,rfl,hB,by omega,by simp; omega,by rw[ed,ed]; omega,?_⟩;rw[em,e3];have M2:=M1.turn (t:=t1++((hs2 rs).length:Int) :: oth y :: t2) hb;have F2:=F1.trans (Fr.up (T:=T) (h:=R) (bs:=bs) (H:=H1) (x:=b) (by simp[bm]) (.AB (((t1++((hs2 rs).length:Int) :: oth y :: t2).map λx=>x-2).map V.int)));have he2:AO (AF H1 b (.AB (((t1++((hs2 rs).length:Int) :: oth y :: t2).map λx=>x-2).map V.int))) e qe:=by
   unfold AO at he1 ⊢;rw[Ad (λz=>by rw[z,hB] at he1; cases he1)]; exact he1
  generalize AF H1 b (.AB (((t1++((hs2 rs).length:Int) :: oth y :: t2).map λx=>x-2).map V.int))=H2 at M2 F2 he2;refine⟨_,rfl,.inl ⟨rfl,_,AM.of M2.tm.h1⟩,_,rfl,_,_,rfl,rfl,by exact EO,λl hl=>?_⟩;have s3:=AY hl (.AB [.int (((hs2 rs).length:Int)-2+1)]);refine⟨T,_,_,rfl,rfl,s3 _ _ M2.tm.h1,by rw[ed]; exact Ca (by omega),?_⟩;have fl:=FrN.free F2 M2 hl;have M3:=M2.more (u:=[((hs2 rs).length:Int)+1]) hl;have e4:(([((hs2 rs).length:Int)+1].map λx=>x-2).map V.int)=[.int (((hs2 rs).length:Int)-2+1)]:=by
   show [V.int (((hs2 rs).length:Int)+1-2)]=_;rw[show((hs2 rs).length:Int)+1-2=((hs2 rs).length:Int)-2+1 by omega]
  rw[e4] at M3;have he3:AO (AF (AF H2 l (.AB [.int (((hs2 rs).length:Int)-2+1)])) T (.AB (bs.map V.ref++[.ref l]))) e qe:=by
   have:=AZ s3 he2
   unfold AO at this ⊢;rw[Ad (λz=>by rw[z,s3 _ _ M2.tm.h1] at this; cases this)]; exact this
  have F3:=(F2.trans (Fr.same s3)).trans (Fr.up (T:=T) (h:=R) (bs:=bs) (x:=T) (by simp) (.AB (bs.map V.ref++[.ref l])));generalize AF (AF H2 l (.AB [.int (((hs2 rs).length:Int)-2+1)])) T (.AB (bs.map V.ref++[.ref l]))=H3 at M3 he3 F3;refine⟨_,rfl,.inl ⟨rfl,_,AM.of M3.r1⟩,_,rfl,_,rfl,T,_,rfl,.inl (AM.of M3.tm.h1),_,_,rfl,rfl,_,rfl,by exact E7,λrp hrp=>?_⟩;have el:((((bs++[l]).map V.ref).length:Nat):Int)-1=(ts.length:Int):=by rw[ed,fj,lbs]; simp
  (try dsimp only)
  rw[el];have s4:=AY hrp (.AG [.int (p:Int),.int (ts.length:Int),.ref e]);have rop:Bf (AF H3 rp (.AG [.int (p:Int),.int (ts.length:Int),.ref e])) rp (p,ts.length,qe):=⟨e,AS,AZ s4 he3⟩;have M4:=M3.keep s4;have F4:=F3.trans (Fr.same (T:=T) (h:=R) (bs:=bs) s4);generalize AF H3 rp (.AG [.int (p:Int),.int (ts.length:Int),.ref e])=H4 at rop M4 F4;refine⟨R,_,_,rfl,rfl,M4.r1,lcl,?_⟩;have M5:=M4.MB (cs':=cs++[rp]) (rs':=rs++[(p,ts.length,qe)]) (ys:=cs.map V.ref++[.ref rp]) (by simp) (M4.rr.snoc rop);refine q _ (cs++[rp]) (bs++[l]) _ _ (F4.trans (Fr.up (by simp) _)) (λx hx=>?_) M5 ?_ (by simp) (λr hr'=>?_)
  ·rcases fm.mp hx with w | w
   ·exact .inl w
   ·exact .inr (by rw[fQ.mp w]; exact fl)
  ·have:=g.KS hp
   rw[show hs2 (rs++[(p,ts.length,qe)])=hs2 rs++[p]++[ts.length] by unfold hs2; rw[K4]; simp];exact this
  ·rcases fm.mp hr' with w | w
   ·exact ekr r w
   ·rw[fQ.mp w]; exact eke
 refine⟨_,rfl,_,_,rfl,rfl,m4,rfl,_,rfl,?_⟩;refine Hy (λ_=>?_) (λ_=>?_)
 ·
  have mp:(0:Int)<(((cs.map V.ref).length:Nat):Int):=by rw[lc]; omega
  refine⟨_,rfl,_,_,rfl,rfl,⟨by decide,by decide⟩,_,rfl,R,_,rfl,.inl (AM.of M1.r1),_,_,rfl,rfl,mp,?_⟩
  (try dsimp only)
  have d0:=gX (z / 4) (jj mp);have d1:=iz (z / 4) mp;rw[lc] at d0 d1 ⊢;obtain⟨k,hk⟩:∃k:Nat,z / 4 % (rs.length:Int)=(k:Int):=⟨(z / 4 % (rs.length:Int)).toNat,by omega⟩;rw[hk] at d1 ⊢;have hk2:k<rs.length:=by omega
  have hrk:rs[k]?=some rs[k]:=eh hk2;generalize rs[k]=r at hrk;obtain⟨rc,hrc,e0,hrc1,hrc2⟩:=M1.rr.get hrk;refine⟨_,rfl,_,rfl,R,_,_,_,rfl,rfl,AM.of M1.r1,BF (Be hrc),rc,_,rfl,AJ.of hrc1,rfl,_,_,rfl,_,_,rfl,_,_,rfl,rfl,?_⟩;have peR:AH (hs2 rs).length (2*(k:Int)+3):=⟨by omega,by rw[nE]; omega⟩;obtain⟨pp,tt,hpp,px,pm⟩:=g.at peR;obtain⟨a1,a2⟩:=HQ hrk;have pmr:pp=r.2.1:=by
   have e1:(hs2 rs)[(2*(k:Int)+3).toNat]?=some r.2.1:=by
    rw[show(2*(k:Int)+3).toNat=2+(2*k+1) by omega];show(0 :: 1 :: CI rs)[2+(2*k+1)]?=_;rw[show 2+(2*k+1)=2*k+1+1+1 by omega,iy,iy];exact a2
   rw[e1] at pm;exact(fC pm).symm
  subst pmr;have ttl:=Na g hpp;have ppl:r.2.1<ts.length:=(eu.mp hpp).1;obtain⟨bb,hbb,bbm,abb,hBB⟩:=Nn M1.tm (Lj hpp);have ttn:=Sg g.nd (eQ hpp);have ixl:tt.idxOf (2*(k:Int)+3)<tt.length:=List.idxOf_lt_length_iff.mpr px;have pe2:(2:Int)*(k:Int)+1=2*(k:Int)+3-2:=by omega
  refine⟨_,rfl,_,_,rfl,rfl,_,rfl,_,rfl,T,_,_,_,rfl,rfl,AM.of M1.tm.h1,abb,_,rfl,_,rfl,T,_,_,_,rfl,rfl,AM.of M1.tm.h1,abb,.inl ⟨rfl,_,AM.of hBB⟩,_,rfl,_,_,rfl,rfl,mul2 _,_,_,rfl,rfl,bb,tt.map (λx=>x-2),_,rfl,rfl,hBB,by rw[pe2]; exact LY.mpr px,by rw[ed]; omega,bb,_,_,tt.idxOf (2*(k:Int)+3),rfl,rfl,hBB,by rw[pe2,Nz px,ed,ed]; exact Jn ixl,?_⟩;have e5:((tt.map λx=>x-2).map V.int).set (tt.idxOf (2*(k:Int)+3)) (V.int (2*(rs.length:Int)+1))=((tt.map λx=>if x=2*(k:Int)+3 then ((hs2 rs).length:Int)+1 else x).map λx=>x-2).map V.int:=by
   rw[<-R1 ttn px,jo,jo,em1]
  (try dsimp only)
  rw[e5];have M2:=M1.turn (t:=tt.map λx=>if x=2*(k:Int)+3 then ((hs2 rs).length:Int)+1 else x) hbb;have F2:=F1.trans (Fr.up (T:=T) (h:=R) (bs:=bs) (H:=H1) (x:=bb) (by simp[bbm]) (.AB (((tt.map λx=>if x=2*(k:Int)+3 then ((hs2 rs).length:Int)+1 else x).map λx=>x-2).map V.int)));have up2:∀{a:Addr} {qq:Rat},AO H1 a qq->AO (AF H1 bb (.AB (((tt.map λx=>if x=2*(k:Int)+3 then ((hs2 rs).length:Int)+1 else x).map λx=>x-2).map V.int))) a qq:=by
   intro a qq h;unfold AO at h ⊢;rw[Ad (λz=>by rw[z,hBB] at h; cases h)]; exact h
  have he2:=up2 he1;have ho2:=up2 hrc2;generalize AF H1 bb (.AB (((tt.map λx=>if x=2*(k:Int)+3 then ((hs2 rs).length:Int)+1 else x).map λx=>x-2).map V.int))=H2 at M2 F2 he2 ho2;refine⟨_,rfl,.inl ⟨rfl,_,AM.of M2.tm.h1⟩,_,rfl,_,_,rfl,rfl,mul2 _,_,_,rfl,rfl,_,rfl,by exact Bh,λl hl=>?_⟩;have s3:=AY hl (.AB [.int (2*(k:Int)+1),.int (2*(rs.length:Int))]);refine⟨T,_,_,rfl,rfl,s3 _ _ M2.tm.h1,by rw[ed]; exact Ca (by omega),?_⟩;have fl:=FrN.free F2 M2 hl;have M3:=M2.more (u:=[2*(k:Int)+3,((hs2 rs).length:Int)]) hl;have e4:(([2*(k:Int)+3,((hs2 rs).length:Int)].map λx=>x-2).map V.int)=[.int (2*(k:Int)+1),.int (2*(rs.length:Int))]:=by
   show [V.int (2*(k:Int)+3-2),V.int (((hs2 rs).length:Int)-2)]=_;rw[<-em,<-pe2]
  rw[e4] at M3;have up3:∀{a:Addr} {qq:Rat},AO H2 a qq->AO (AF (AF H2 l (.AB [.int (2*(k:Int)+1),.int (2*(rs.length:Int))])) T (.AB (bs.map V.ref++[.ref l]))) a qq:=by
   intro a qq h
   have:=AZ s3 h
   unfold AO at this ⊢;rw[Ad (λz=>by rw[z,s3 _ _ M2.tm.h1] at this; cases this)]; exact this
  have he3:=up3 he2;have ho3:=up3 ho2;have F3:=(F2.trans (Fr.same s3)).trans (Fr.up (T:=T) (h:=R) (bs:=bs) (x:=T) (by simp) (.AB (bs.map V.ref++[.ref l])));dsimp only at M3 ⊢;generalize AF (AF H2 l (.AB [.int (2*(k:Int)+1),.int (2*(rs.length:Int))])) T (.AB (bs.map V.ref++[.ref l]))=H3 at M3 he3 ho3 F3;have el:((((bs++[l]).map V.ref).length:Nat):Int)-1=(ts.length:Int):=by rw[ed,fj,lbs]; simp
  refine⟨_,rfl,_,rfl,T,_,rfl,.inl (AM.of M3.tm.h1),_,_,rfl,rfl,_,rfl,by exact E7,λnp hnp=>?_⟩
  (try dsimp only)
  rw[el];have s4:=AY hnp (.AG [.int (r.1:Int),.int (ts.length:Int),.ref e0]);have rop:Bf (AF H3 np (.AG [.int (r.1:Int),.int (ts.length:Int),.ref e0])) np (r.1,ts.length,r.2.2):=⟨e0,AS,AZ s4 ho3⟩;have M4:=M3.keep s4;have he4:=AZ s4 he3;have F4:=F3.trans (Fr.same (T:=T) (h:=R) (bs:=bs) s4);generalize AF H3 np (.AG [.int (r.1:Int),.int (ts.length:Int),.ref e0])=H4 at rop M4 F4 he4;refine⟨_,rfl,_,rfl,R,_,_,k,rfl,rfl,M4.r1,by rw[ed,M.rr.1]; exact Jn hk2,?_⟩;have M5:=M4.MB (cs':=cs.set k np) (rs':=rs.set k (r.1,ts.length,r.2.2)) (ys:=(cs.map V.ref).set k (.ref np)) (by rw[jo]) (M4.rr.set k rop);have F5:=F4.trans (Fr.up (T:=T) (h:=R) (bs:=bs) (H:=H4) (x:=R) (by simp) (.AB ((cs.map V.ref).set k (.ref np))));have he5:AO (AF H4 R (.AB ((cs.map V.ref).set k (.ref np)))) e qe:=by
   unfold AO at he4 ⊢;rw[Ad (λz=>by rw[z,M4.r1] at he4; cases he4)]; exact he4
  generalize AF H4 R (.AB ((cs.map V.ref).set k (.ref np)))=H5 at M5 F5 he5;refine⟨_,rfl,.inl ⟨rfl,_,AM.of M5.r1⟩,_,rfl,T,_,rfl,.inl (AM.of M5.tm.h1),_,_,rfl,rfl,_,rfl,_,rfl,by exact E7,λrp hrp=>?_⟩
  (try dsimp only)
  rw[el];have s6:=AY hrp (.AG [.int (ts.length:Int),.int (r.2.1:Int),.ref e]);have rop6:Bf (AF H5 rp (.AG [.int (ts.length:Int),.int (r.2.1:Int),.ref e])) rp (ts.length,r.2.1,qe):=⟨e,AS,AZ s6 he5⟩;have M6:=M5.keep s6;have F6:=F5.trans (Fr.same (T:=T) (h:=R) (bs:=bs) s6);generalize AF H5 rp (.AG [.int (ts.length:Int),.int (r.2.1:Int),.ref e])=H6 at rop6 M6 F6;refine⟨R,_,_,rfl,rfl,M6.r1,by rw[ed,iA,M.rr.1]; exact Ca (by omega),?_⟩;have M7:=M6.MB (cs':=cs.set k np++[rp]) (rs':=rs.set k (r.1,ts.length,r.2.2)++[(ts.length,r.2.1,qe)]) (ys:=(cs.set k np).map V.ref++[.ref rp]) (by simp) (M6.rr.snoc rop6);refine q _ (cs.set k np++[rp]) (bs++[l]) _ _ (F6.trans (Fr.up (by simp) _)) (λx hx=>?_) M7 ?_ (by simp) (λr' hr'=>?_)
  ·rcases fm.mp hx with w | w
   ·exact .inl w
   ·exact .inr (by rw[fQ.mp w]; exact fl)
  ·have:=g.part (r:=k+1) (pe:=2*(k:Int)+3) (by omega) (by push_cast; omega) hpp px
   rw[show hs2 (rs.set k (r.1,ts.length,r.2.2)++[(ts.length,r.2.1,qe)])=(hs2 rs++[ts.length]++[r.2.1]).set (2*(k:Int)+3).toNat ts.length by
    have hl0:=Ea rs;rw[show(2*(k:Int)+3).toNat=2*k+1+1+1 by omega];unfold hs2;rw[K4,ZE hrk];show 0 :: 1 :: ((CI rs).set (2*k+1) ts.length++[ts.length]++[r.2.1])=(0 :: 1 :: (CI rs++[ts.length]++[r.2.1])).set (2*k+1+1+1) ts.length;rw[List.set_cons_succ,List.set_cons_succ,gW,gW,List.set_append_left _ _ (by rw[hl0]; omega)]]
   exact this
  ·rcases fm.mp hr' with w | w
   ·rcases iY w with w | w
    ·exact ekr r' w
    ·rw[w]; exact ekr r (eQ hrk)
   ·rw[fQ.mp w]; exact eke
 ·
  refine⟨_,rfl,T,bs,_,rfl,M1.tm,bD g.nd,by rw[RX,ed,g.DY.len]; omega,λd H2 s2 _ hd=>?_⟩;refine⟨_,rfl,d,ts,(hs2 rs).length,y,rfl,hd,g.DY,by omega,yR,λrg H3 s3 nrg hrg=>?_⟩;have s23:=s2.trans s3;have M3:=M1.keep s23;have he3:=AZ s23 he1;have F3:=F1.trans (Fr.same (T:=T) (h:=R) (bs:=bs) s23);have Rm:=Fi PM yR;have hreach:∀{b:Int},b∈BI (AL ts) y->AH (hs2 rs).length b/\∃k,A1 (AL ts) k y=b:=λhb=>⟨Ik PM yR hb,Pt PM yR Rm hb⟩
  generalize BI (AL ts) y=Rg at hrg Rm hreach;have Rl:0<(Rg.map λx=>x-2).length:=by rw[ed]; exact iI Rm
  have Rl2:(0:Int)<((((Rg.map λx=>x-2).map V.int).length:Nat):Int):=by rw[ed]; omega
  obtain⟨x2,xm,ex2⟩:=cf Rl (z / 4);obtain⟨x,hxm,rfl⟩:=fi.mp xm;obtain⟨xR,kx⟩:=hreach hxm;have xo:=DG ev xR;have ab3:=ab;have hB3:=s23 _ _ hB;refine⟨_,rfl,_,rfl,T,_,_,_,rfl,rfl,AM.of M3.tm.h1,ab,.inl ⟨rfl,_,AM.of hB3⟩,_,rfl,_,rfl,b,_,(t1.length:Int),.int (2*(rs.length:Int)),rfl,rfl,hB3,by omega,by simp; omega,by rw[ed,ed]; omega,?_⟩;rw[em,e3];have M4:=M3.turn (t:=t1++((hs2 rs).length:Int) :: oth y :: t2) hb;have F4:=F3.trans (Fr.up (T:=T) (h:=R) (bs:=bs) (H:=H3) (x:=b) (by simp[bm]) (.AB (((t1++((hs2 rs).length:Int) :: oth y :: t2).map λx=>x-2).map V.int)));have he4:AO (AF H3 b (.AB (((t1++((hs2 rs).length:Int) :: oth y :: t2).map λx=>x-2).map V.int))) e qe:=by
   unfold AO at he3 ⊢;rw[Ad (λz=>by rw[z,hB3] at he3; cases he3)]; exact he3
  have hrg4:(AF H3 b (.AB (((t1++((hs2 rs).length:Int) :: oth y :: t2).map λx=>x-2).map V.int))) rg=some (.AB ((Rg.map λx=>x-2).map V.int)):=by
   rw[Ad (iB (BL (s2 _ _ hB) nrg))]; exact hrg
  generalize AF H3 b (.AB (((t1++((hs2 rs).length:Int) :: oth y :: t2).map λx=>x-2).map V.int))=H4 at M4 F4 he4 hrg4;have inv:∀{o:Int},o∈ts.flatten->o∈(ts.set p (t1++((hs2 rs).length:Int) :: oth y :: t2)).flatten:=by
   intro o ho;obtain⟨t,ht,hm⟩:=fV.mp ho;obtain⟨j,hj,ej⟩:=fP ht;by_cases e:p=j
   ·subst e
    have:t=t1++oth y :: t2:=by rw[eh hj,ej] at hp; exact fC hp
    subst this;refine fV.mpr ⟨_,eQ (gp pl),?_⟩;rcases fm.mp hm with w | w
    ·exact iS _ w
    ·exact gz _ (gJ _ w)
   ·exact fV.mpr ⟨t,eQ (show(ts.set p (t1++((hs2 rs).length:Int) :: oth y :: t2))[j]?=some t by rw[gn e,eh hj,ej]),hm⟩
  have tl4:∀t∈ts.set p (t1++((hs2 rs).length:Int) :: oth y :: t2),t.length<=999:=by
   intro t ht;rcases iY ht with w | w
   ·have:=Ml w; rw[g.DY.len] at this; omega
   ·rw[w];rw[fj,gq] at tlen;rw[fj,gq,gq];omega
  refine⟨_,rfl,_,rfl,_,rfl,_,_,rfl,rfl,⟨by decide,by decide⟩,_,rfl,rg,_,rfl,.inl (AM.of hrg4),_,_,rfl,rfl,Rl2,rg,_,_,_,rfl,rfl,AM.of hrg4,ex2,T,bs,_,(hs2 rs).length,x,rfl,M4.tm,by omega,xR,inv ((g.mem _).mpr xo),λt ht=>by have:=tl4 t ht; omega,λp2 u pq2 H5 hp2 hxu s5 hpq2=>?_⟩;refine⟨pq2,_,rfl,AJ.of hpq2,rfl,_,_,rfl,_,_,rfl,rfl,?_⟩;have M5:=M4.keep s5;have he5:=AZ s5 he4;have F5:=F4.trans (Fr.same (T:=T) (h:=R) (bs:=bs) s5);obtain⟨u1,u2,rfl,nu⟩:=K5 hxu;have ixu:=K6 (u2:=u2) nu;have ul:=tl4 _ (eQ hp2);obtain⟨b5,hb5,bm5,ab5,hB5⟩:=Nn M5.tm (Lj hp2);rw[ixu];refine⟨_,rfl,_,rfl,T,_,_,_,rfl,rfl,AM.of M5.tm.h1,ab5,.inl ⟨rfl,_,AM.of hB5⟩,_,rfl,_,rfl,_,_,rfl,rfl,b5,_,(u1.length:Int),.int (((hs2 rs).length:Int)-2+1),rfl,rfl,hB5,by omega,by simp; omega,by rw[ed,ed]; omega,?_⟩;rw[show((hs2 rs).length:Int)-2+1=((hs2 rs).length:Int)+1-2 by omega,e3];have M6:=M5.turn (t:=u1++(((hs2 rs).length:Int)+1) :: oth x :: u2) hb5;have F6:=F5.trans (Fr.up (T:=T) (h:=R) (bs:=bs) (H:=H5) (x:=b5) (by simp[bm5]) (.AB (((u1++(((hs2 rs).length:Int)+1) :: oth x :: u2).map λx=>x-2).map V.int)));have he6:AO (AF H5 b5 (.AB (((u1++(((hs2 rs).length:Int)+1) :: oth x :: u2).map λx=>x-2).map V.int))) e qe:=by
   unfold AO at he5 ⊢;rw[Ad (λz=>by rw[z,hB5] at he5; cases he5)]; exact he5
  generalize AF H5 b5 (.AB (((u1++(((hs2 rs).length:Int)+1) :: oth x :: u2).map λx=>x-2).map V.int))=H6 at M6 F6 he6;refine⟨_,rfl,.inl ⟨rfl,_,AM.of M6.r1⟩,_,rfl,_,rfl,_,rfl,by exact E7,λrp hrp=>?_⟩;have s7:=AY hrp (.AG [.int (p:Int),.int (p2:Int),.ref e]);have rop:Bf (AF H6 rp (.AG [.int (p:Int),.int (p2:Int),.ref e])) rp (p,p2,qe):=⟨e,AS,AZ s7 he6⟩;have M7:=M6.keep s7;have F7:=F6.trans (Fr.same (T:=T) (h:=R) (bs:=bs) s7);generalize AF H6 rp (.AG [.int (p:Int),.int (p2:Int),.ref e])=H7 at rop M7 F7;refine⟨R,_,_,rfl,rfl,M7.r1,lcl,?_⟩;have M8:=M7.MB (cs':=cs++[rp]) (rs':=rs++[(p,p2,qe)]) (ys:=cs.map V.ref++[.ref rp]) (by simp) (M7.rr.snoc rop);refine q _ (cs++[rp]) bs _ _ (F7.trans (Fr.up (by simp) _)) (λx hx=>.inl hx) M8 ?_ (by simp) (λr hr'=>?_)
  ·have:=g.KD yR kx hp hp2
   rw[show hs2 (rs++[(p,p2,qe)])=hs2 rs++[p]++[p2] by unfold hs2; rw[K4]; simp];exact this
  ·rcases fm.mp hr' with w | w
   ·exact ekr r w
   ·rw[fQ.mp w]; exact eke
end
abbrev IK(c:Nat->Int)(k:Nat):Int:=c k % 2
theorem CL(c:Nat->Int)(k:Nat):IK c k=0\/IK c k=1:=by
 show c k % 2=0\/c k % 2=1;omega
abbrev oA(os:List Nat)(k:Nat):Nat:=os.getD k 0
def A4(m:Nat)(os:List Nat)(c:Nat->Int)(x:Int):Int :=
 if x<2 then 2*(m:Int)+x else if x % 2=0 then 2*(oA os ((x.toNat-2) / 2):Int)+IK c ((x.toNat-2) / 2) else 2*(oA os ((x.toNat-2) / 2):Int)+1-IK c ((x.toNat-2) / 2)
section
variable {m n:Nat} {os ps:List Nat} {c:Nat->Int}
theorem Gh:A4 m os c 0=2*(m:Int):=by unfold A4; rw[ff (by decide)]; omega
theorem Ho:A4 m os c 1=2*(m:Int)+1:=by unfold A4; rw[ff (by decide)]
theorem Gk(k:Nat):A4 m os c (2*(k:Int)+2)=2*(oA os k:Int)+IK c k:=by
 unfold A4;rw[eZ (by omega),ff (by omega),show((2*(k:Int)+2).toNat-2) / 2=k by omega]
theorem Gm(k:Nat):A4 m os c (2*(k:Int)+3)=2*(oA os k:Int)+1-IK c k:=by
 unfold A4;rw[eZ (by omega),eZ (by omega),show((2*(k:Int)+3).toNat-2) / 2=k by omega]
theorem Jv{x:Int}(h:AH (2*m+2) x):x=0\/x=1\/∃k:Nat,k<m/\(x=2*(k:Int)+2\/x=2*(k:Int)+3):=by
 obtain⟨h1,h2⟩:=h;rcases Int.lt_or_le x 2 with z | z
 ·omega
 ·exact .inr (.inr ⟨(x.toNat-2) / 2,by omega,by omega⟩)
theorem C5(h:os.Perm (List.range m)){k:Nat}(hk:k<m):os[k]?=some (oA os k)/\oA os k<m:=by
 have hl:=h.length_eq;rw[fK] at hl;have hk':k<os.length:=by omega
 have e:os[k]?=some (oA os k):=by
  unfold oA;rw[eO,eh hk'];rfl
 exact⟨e,gu.mp (h.mem_iff.mp (eQ e))⟩
theorem Ir(h:os.Perm (List.range m)){k j:Nat}(hk:k<m)(hj:j<m)(e:oA os k=oA os j):k=j:=by
 have hl:=h.length_eq;rw[fK] at hl;have nd:os.Nodup:=h.nodup_iff.mpr List.nodup_range;exact(List.getElem?_inj (by omega) nd).mp (by rw[(C5 h hk).1,(C5 h hj).1,e])
theorem LX(h:os.Perm (List.range m)){q:Nat}(hq:q<m):∃k,k<m/\oA os k=q:=by
 have hl:=h.length_eq;rw[fK] at hl;obtain⟨k,hk,e⟩:=fP (h.mem_iff.mpr (gu.mpr hq));refine⟨k,by omega,?_⟩;unfold oA;rw[eO,eh hk,e];rfl
theorem Zo(n2:2<=n)(ho:os.Perm (List.range m))(hp:ps.Perm (List.range n))(p0:oA ps 0=0)(p1:oA ps 1=1):Uu n m (oA ps) (A4 m os c):=by
 have rin:∀x,AH (2*m+2) x->AH (2*m+2) (A4 m os c x):=by
  intro x hx;rcases Jv hx with rfl | rfl | ⟨k,hk,rfl | rfl⟩
  ·rw[Gh]; exact⟨by omega,by push_cast; omega⟩
  ·rw[Ho]; exact⟨by omega,by push_cast; omega⟩
  ·rw[Gk]
   have:=(C5 ho hk).2
   rcases CL c k with z | z <;> (rw[z]; exact⟨by omega,by push_cast; omega⟩)
  ·rw[Gm]
   have:=(C5 ho hk).2
   rcases CL c k with z | z <;> (rw[z]; exact⟨by omega,by push_cast; omega⟩)
 have surj:∀y,∃x,AH (2*m+2) y->AH (2*m+2) x/\A4 m os c x=y:=by
  intro y;by_cases hy:AH (2*m+2) y
  ·have hy':=hy;obtain⟨h1,h2⟩:=hy';push_cast at h2;by_cases e0:y=2*(m:Int)
   ·exact⟨0,λ_=>⟨⟨by omega,by push_cast; omega⟩,by rw[Gh,e0]⟩⟩
   by_cases e1:y=2*(m:Int)+1
   ·exact⟨1,λ_=>⟨⟨by omega,by push_cast; omega⟩,by rw[Ho,e1]⟩⟩
   obtain⟨k,hk,ek⟩:=LX ho (q:=y.toNat / 2) (by omega);rcases(show y % 2=0\/y % 2=1 by omega) with z | z <;> rcases CL c k with f | f
   ·exact⟨2*(k:Int)+2,λ_=>⟨⟨by omega,by push_cast; omega⟩,by rw[Gk,f,ek]; omega⟩⟩
   ·exact⟨2*(k:Int)+3,λ_=>⟨⟨by omega,by push_cast; omega⟩,by rw[Gm,f,ek]; omega⟩⟩
   ·exact⟨2*(k:Int)+3,λ_=>⟨⟨by omega,by push_cast; omega⟩,by rw[Gm,f,ek]; omega⟩⟩
   ·exact⟨2*(k:Int)+2,λ_=>⟨⟨by omega,by push_cast; omega⟩,by rw[Gk,f,ek]; omega⟩⟩
  ·exact⟨0,λz=>absurd z hy⟩
 have inj:∀x y,AH (2*m+2) x->AH (2*m+2) y->A4 m os c x=A4 m os c y->x=y:=by
  have io:∀{k j:Nat},k<m->j<m->oA os k=oA os j->k=j:=λh1 h2=>Ir ho h1 h2
  intro x y hx hy e;rcases Jv hx with rfl | rfl | ⟨k,hk,rfl | rfl⟩ <;> rcases Jv hy with rfl | rfl | ⟨j,hj,rfl | rfl⟩ <;> simp only[Gh,Ho,Gk,Gm] at e
  ·rfl
  ·omega
  ·have:=(C5 ho hj).2; have:=CL c j; omega
  ·have:=(C5 ho hj).2; have:=CL c j; omega
  ·omega
  ·rfl
  ·have:=(C5 ho hj).2; have:=CL c j; omega
  ·have:=(C5 ho hj).2; have:=CL c j; omega
  ·have:=(C5 ho hk).2; have:=CL c k; omega
  ·have:=(C5 ho hk).2; have:=CL c k; omega
  ·have:=CL c k; have:=CL c j
   have:=io hk hj (by omega)
   omega
  ·have:=CL c k; have:=CL c j
   have:=io hk hj (by omega)
   subst this;omega
  ·have:=(C5 ho hk).2; have:=CL c k; omega
  ·have:=(C5 ho hk).2; have:=CL c k; omega
  ·have:=CL c k; have:=CL c j
   have:=io hk hj (by omega)
   subst this;omega
  ·have:=CL c k; have:=CL c j
   have:=io hk hj (by omega)
   omega
 refine⟨p0,p1,λp h=>(C5 hp h).2,?_,λp q h1 h2 e=>Ir hp h1 h2 e,rin,⟨λy=>Classical.choose (surj y),λy hy=>Classical.choose_spec (surj y) hy⟩,inj,Gh,λx hx=>?_⟩
 ·have ex:∀q,∃k,q<n->k<n/\oA ps k=q:=λq=>by
   by_cases h:q<n
   ·obtain⟨k,hk⟩:=LX hp h;exact⟨k,λ_=>hk⟩
   ·exact⟨0,λz=>absurd z h⟩
  exact⟨λq=>Classical.choose (ex q),λq hq=>Classical.choose_spec (ex q) hq⟩
 ·rcases Jv hx with rfl | rfl | ⟨k,hk,rfl | rfl⟩
  ·rw[show oth 0=1 from rfl,Gh,Ho]; unfold oth; rw[ff (by omega)]
  ·rw[show oth 1=0 from rfl,Gh,Ho]; unfold oth; rw[eZ (by omega)]; omega
  ·rw[show oth (2*(k:Int)+2)=2*(k:Int)+3 by unfold oth; rw[ff (by omega)]; omega,Gk,Gm];rcases CL c k with f | f <;> (rw[f]; unfold oth; split <;> omega)
  ·rw[show oth (2*(k:Int)+3)=2*(k:Int)+2 by unfold oth; rw[eZ (by omega)]; omega,Gk,Gm];rcases CL c k with f | f <;> (rw[f]; unfold oth; split <;> omega)
def EU(ps:List Nat)(c:Nat->Int)(k:Nat)(r:AQ):AQ:=if IK c k=0 then (oA ps r.1,oA ps r.2.1,r.2.2) else (oA ps r.2.1,oA ps r.1,r.2.2)
theorem aG{rs rs':List AQ}(hr:rs.length=m)(hr':rs'.length=m)(ho:os.Perm (List.range m))(p0:oA ps 0=0)(p1:oA ps 1=1)(h:∀(k:Nat) (r:AQ),rs[k]?=some r->rs'[oA os k]?=some (EU ps c k r)):
  ∀x,AH (2*m+2) x->(hm rs')[(A4 m os c x).toNat]?=((hs2 rs)[x.toNat]?).map (oA ps):=by
 have l0:=Ea rs';have l1:=Ea rs;intro x hx;rcases Jv hx with rfl | rfl | ⟨k,hk,e⟩
 ·rw[Gh];unfold hm;rw[fu (by rw[l0]; omega),l0,show(2*(m:Int)).toNat-2*rs'.length=0 by omega];show some 0=some (oA ps 0);rw[p0]
 ·rw[Ho];unfold hm;rw[fu (by rw[l0]; omega),l0,show(2*(m:Int)+1).toNat-2*rs'.length=1 by omega];show some 1=some (oA ps 1);rw[p1]
 ·have hrk:rs[k]?=some rs[k]:=eh (by omega);generalize rs[k]=r at hrk;have ho1:=(C5 ho hk).2;obtain⟨b1,b2⟩:=HQ hrk;obtain⟨a1,a2⟩:=HQ (h k r hrk);have c1:(hs2 rs)[2*k+2]?=some r.1:=by
   show(0 :: 1 :: CI rs)[2*k+1+1]?=_;rw[iy,iy]; exact b1
  have c2:(hs2 rs)[2*k+3]?=some r.2.1:=by
   show(0 :: 1 :: CI rs)[2*k+1+1+1]?=_;rw[iy,iy]; exact b2
  have d1:(hm rs')[2*oA os k]?=some (EU ps c k r).1:=by unfold hm; rw[fN (by rw[l0]; omega)]; exact a1
  have d2:(hm rs')[2*oA os k+1]?=some (EU ps c k r).2.1:=by unfold hm; rw[fN (by rw[l0]; omega)]; exact a2
  unfold EU at d1 d2;rcases e with rfl | rfl
  ·rw[Gk,show(2*(k:Int)+2).toNat=2*k+2 by omega,c1];rcases CL c k with f | f
   ·rw[f,show(2*(oA os k:Int)+0).toNat=2*oA os k by omega,d1,ff f]; rfl
   ·rw[f,show(2*(oA os k:Int)+1).toNat=2*oA os k+1 by omega,d2,eZ (by omega)]; rfl
  ·rw[Gm,show(2*(k:Int)+3).toNat=2*k+3 by omega,c2];rcases CL c k with f | f
   ·rw[f,show(2*(oA os k:Int)+1-0).toNat=2*oA os k+1 by omega,d2,ff f]; rfl
   ·rw[f,show(2*(oA os k:Int)+1-1).toNat=2*oA os k by omega,d1,eZ (by omega)]; rfl
end
def Bx(ρ:Int->Int)(i:Nat):List (Int×Int):=(List.range (2*i+2)).map λj:Nat=>((j:Int)-2,ρ (j:Int))
theorem X3(ρ:Int->Int)(i:Nat):Bx ρ (i+1)=(Bx ρ i++[(2*(i:Int),ρ (2*(i:Int)+2))])++[(2*(i:Int)+1,ρ (2*(i:Int)+3))]:=by
 unfold Bx;rw[show 2*(i+1)+2=2*i+2+1+1 by omega,List.range_succ,List.range_succ,fv,fv];simp only[fk,gY];rw[show(((2*i+2:Nat):Int))=2*(i:Int)+2 by omega,show(((2*i+2+1:Nat):Int))=2*(i:Int)+3 by omega,show 2*(i:Int)+2-2=2*(i:Int) by omega,show 2*(i:Int)+3-2=2*(i:Int)+1 by omega]
theorem Ro(ρ:Int->Int)(i:Nat):(Bx ρ i).length=2*i+2:=by unfold Bx; rw[ed,fK]
theorem Nh(ρ:Int->Int)(i:Nat):(Bx ρ i).map (·.1)=(List.range (2*i+2)).map λj:Nat=>(j:Int)-2:=by unfold Bx; rw[gG]; rfl
theorem Yj(ρ:Int->Int)(i:Nat):(2*(i:Int))∉(Bx ρ i).map (·.1):=by
 rw[Nh];intro z;obtain⟨j,hj,e⟩:=fi.mp z
 have:=gu.mp hj
 omega
theorem Yb(ρ:Int->Int)(i:Nat)(v:Int):(2*(i:Int)+1)∉(Bx ρ i++[(2*(i:Int),v)]).map (·.1):=by
 rw[fv,Nh];intro z;rcases fm.mp z with z | z
 ·obtain⟨j,hj,e⟩:=fi.mp z
  have:=gu.mp hj
  omega
 ·have:2*(i:Int)+1=2*(i:Int):=by simpa using z
  omega
theorem Yq(ρ:Int->Int){m:Nat}{y:Int}(h:AH (2*m+2) y):lk (Bx ρ m) (y-2)=some (ρ y):=by
 obtain⟨h1,h2⟩:=h;refine OV ?_ ?_
 ·rw[Nh];rw[List.Nodup,iM];exact i6 (λ{a b} hab e=>hab (by omega)) (List.nodup_range (n:=2*m+2))
 ·unfold Bx;refine fi.mpr ⟨y.toNat,gu.mpr (by omega),?_⟩;rw[show((y.toNat:Nat):Int)=y by omega]
theorem Lp{α:Type}{R:Hp->Addr->α->Prop}{H:Hp}:∀{mv:List V} {Pq:Nat->α->Prop},(∀q,q<mv.length->∃d x,mv[q]?=some (.ref d)/\R H d x/\Pq q x)->∃(ds:List Addr) (xs:List α),mv=ds.map V.ref/\At R H ds xs/\∀q x,xs[q]?=some x->Pq q x
 | [],Pq,_=>⟨[],[],rfl,At.nil,by simp⟩
 | v :: mv,Pq,h=>by
  obtain⟨d,x,e1,e2,e3⟩:=h 0 (by simp);obtain⟨ds,xs,f1,f2,f3⟩:=Lp (mv:=mv) (Pq:=λq=>Pq (q+1)) (λq hq=>by
   obtain⟨d,x,e1,e2,e3⟩:=h (q+1) (by simpa using hq);exact⟨d,x,by simpa using e1,e2,e3⟩)
  have ev:v=.ref d:=by simpa using e1
  subst ev;subst f1;refine⟨d :: ds,x :: xs,rfl,⟨by simp[f2.1],λi b y g1 g2=>?_⟩,λq y hq=>?_⟩
  ·cases i with
   | zero=>cases g1; cases g2; exact e2
   | succ i=>exact f2.2 i b y (by simpa using g1) (by simpa using g2)
  ·cases q with
   | zero=>cases hq; exact e3
   | succ q=>exact f3 q y (by simpa using hq)
theorem Ks{H:Hp}{b c:Addr}{o o':HO}{r:AQ}(hb:H b=some o')(hn:∀ys,o'≠.AG ys)(h:Bf H c r):Bf (AF H b o) c r:=by
 obtain⟨e,h1,h2⟩:=h;refine⟨e,by rw[Ad (λz=>by rw[z,hb] at h1; exact hn _ (fC h1))]; exact h1,?_⟩;unfold AO at h2 ⊢;rw[Ad (λz=>by rw[z,hb] at h2; exact hn _ (fC h2))]; exact h2
theorem Mz{os:List Nat}{m:Nat}(h:os.Perm (List.range m)){k:Nat}(hk:k<m):B7 (DQ os) ((k:Nat):Int)=some (.int ((oA os k:Nat):Int)):=aj (C5 h hk).1
theorem UO(v:V)(k:Nat):(List.replicate k [v]).flatten=List.replicate k v:=by
 induction k with
 | zero=>rfl
 | succ k ih=>rw[gC,fZ,ih,gC]; rfl
theorem UG{ts:List (List Int)}{hs:List Nat}(g:Gn ts hs){j p:Nat}(h:hs[j]?=some p):p<ts.length:=by
 have hj:=(eu.mp h).1;obtain⟨p',t,a,_,b⟩:=g.at (x:=(j:Int)) ⟨by omega,by omega⟩;rw[ie,h] at b;cases b;exact(eu.mp a).1
theorem Zb(x y:Nat){z:Int}(h:z=0\/z=1):B7 [V.int (x:Int),V.int (y:Int)] z=some (.int ((if z=0 then x else y:Nat):Int))/\B7 [V.int (x:Int),V.int (y:Int)] (1-z)=some (.int ((if z=0 then y else x:Nat):Int)):=by
 rcases h with rfl | rfl
 ·exact⟨A9,As⟩
 ·exact⟨As,A9⟩
theorem aa(ps:List Nat)(c:Nat->Int)(k:Nat)(r:AQ):EU ps c k r=((if c k % 2=0 then oA ps r.1 else oA ps r.2.1:Nat),(if c k % 2=0 then oA ps r.2.1 else oA ps r.1:Nat),r.2.2):=by
 unfold EU;by_cases z:c k % 2=0
 ·rw[ff z,ff z,ff z]
 ·rw[eZ z,eZ z,eZ z]
def KU(m:Nat)(s:Int):List Nat:=(List.range m).map λk:Nat=>(((k:Int)+s) % (m:Int)).toNat
theorem Yv{m k:Nat}(s:Int)(hk:k<m):((oA (KU m s) k:Nat):Int)=((k:Int)+s) % (m:Int):=by
 unfold oA KU;rw[eO,fg,gA hk]
 have:=gX ((k:Int)+s) (show(m:Int)≠0 by omega)
 show(((((k:Int)+s) % (m:Int)).toNat:Nat):Int)=_;omega
theorem W9{m:Nat}(hm:0<m)(s:Int):(KU m s).Perm (List.range m):=by
 have m0:(m:Int)≠0:=by omega
 have mp:(0:Int)<m:=by omega
 have lt:∀z:Int,(z % (m:Int)).toNat<m:=λz=>by
  have:=gX z m0
  have:=iz z mp
  omega
 have key:∀z w:Int,z % (m:Int)=w % (m:Int)->0<=z->z<m->0<=w->w<m->z=w:=λz w e a b c d=>by
  rw[Int.emod_eq_of_lt a b,Int.emod_eq_of_lt c d] at e;exact e
 have inv:∀(z:Int),((((z-s) % (m:Int)).toNat:Int)+s) % (m:Int)=z % (m:Int):=λz=>by
  have:=gX (z-s) m0
  rw[show((((z-s) % (m:Int)).toNat:Nat):Int)=(z-s) % (m:Int) by omega,Int.emod_add_emod];congr 1;omega
 refine Py (π:=λk:Nat=>(((k:Int)+s) % (m:Int)).toNat) (λp _=>lt _) ⟨λq=>(((q:Int)-s) % (m:Int)).toNat,λq hq=>⟨lt _,?_⟩⟩ (λp q hp hq e=>?_)
 ·rw[inv,Int.emod_eq_of_lt (by omega) (by omega)];omega
 ·have a:=gX ((p:Int)+s) m0;have b:=gX ((q:Int)+s) m0;have e2:((p:Int)+s) % (m:Int)=((q:Int)+s) % (m:Int):=by omega
  have e3:(p:Int) % (m:Int)=(q:Int) % (m:Int):=by
   have:=congrArg (λz=>(z-s) % (m:Int)) e2
   simp only[Int.emod_sub_emod] at this;rw[show(p:Int)+s-s=p by omega,show(q:Int)+s-s=q by omega] at this;exact this
  have:=key _ _ e3 (by omega) (by omega) (by omega) (by omega)
  omega
theorem YG{n:Nat}(h:2<=n):(0 :: 1 :: ((List.range n).drop 2).reverse).Perm (List.range n):=by
 have e:List.range n=0 :: 1 :: (List.range n).drop 2:=by
  obtain⟨k,rfl⟩:∃k,n=k+2:=⟨n-2,by omega⟩;rw[iJ,iJ];rfl
 conv=>rhs; rw[e]
 exact((List.reverse_perm _).cons 1).cons 0
section
variable {P:Program} {w:World} {K:PySem.W.Frag} {mg:Str->Option Value} {base:Heap} {f g h f1 f2 f3 f4:Addr} {fd gd hd d1 d2 d3 d4:FuncData}
inductive SY(vs:List V)(H:Hp)(Q:VK):Prop
 | mk (R T:Addr) (cs bs:List Addr) (ts:List (List Int)) (rs:List AQ) (c:Int) (h_0:vs=[.ref R,.ref T,.int c]) (h_1:Cf H R T cs bs ts rs) (h_2:Gn ts (hs2 rs)) (h_3:rs.length<=14) (h_4:(∀r∈rs,FL r.2.2)) (h_5:∀p ra ta n rs' us H',AR H H'->H' p=some (.AG [.int ((n:Nat):Int),.ref ra,.ref ta])->Az Bf H' ra rs'->Az BS H' ta us->NetV n rs' us->Kn us rs'.length->Q (.ref p) H'):SY vs H Q
def OL:Sp:=λvs H Q _=>SY vs H Q
theorem DO:A3 ["_law_ropes","_law_turns","_law_cell_here","_law_many","_law_c","_law_places","_law_names","_law_made","_law_k","_law_rope","_law_flip","_law_pair","_law_rows","_law_turn","_law_row_here","_law_cut","_law_at"] ["_law_ropes","_law_turns","_law_cell_here"] (Ao s_law_finished):=BC
theorem cy:(["_law_end","_law_names"]:List Str).Nodup:=by decide +kernel
set_option maxHeartbeats 2000000 in
seal L2.CW L2.PS L2.PE L2.PA in
theorem aH (F:Ar K "_law_finished" "_law_finished" s_law_finished f fd)
  (ml:mg "len" = none) (mr:mg "range" = none) (mi:mg "list" = none) (mv:mg "reversed" = none) (me:mg "enumerate" = none) (mt:mg "tuple" = none):An P w K mg base Ay 2 f fd ["_law_ropes","_law_turns","_law_cell_here"] OL:=by
 refine F.BD DO λcdv A outer s H vs Q E hr h=>?_
 obtain⟨R,T,cs,bs,ts,rs,cell,rfl,M,g,h14,ekr,q⟩:=h;have hu:=Eu hr;refine⟨_,AN (Aa (i:=4) DO.nd rfl (Or.inl rfl) (AK Bl (pv 2) (AK J7 AD AD)))
  (AN (Aa (i:=3) DO.nd rfl (Or.inl rfl) (A8 (Bs (K:=K)) (by rfl) ml BR (AA (pv 0) AE)))
  (AN (Aa (i:=5) DO.nd rfl (Or.inl rfl) (VS rfl (by rfl) mi (by rfl) mr (A8 (Bs (K:=K)) (by rfl) ml BR (AA (pv 1) AE))))
  (AN (BZ (BX EF (AK Bl (pv 4) AD) AD (BM _)) (AV (Aa (i:=5) DO.nd rfl (Or.inl rfl) (AK HZ (CB (AA AD (AA AD AE))) (V6 rfl (by rfl) mi (by rfl) mv (EW (Kl (K:=K)) (pv 5) (Dv AD) FC))))) Bp)
  (AN (Aa (i:=6) DO.nd rfl (Or.inr rfl) (Nd (Kz (Fv Fo AD) (AK Bt AD (pv 3)) (Kz (Fv Fo AD) (AK BH (AK Bt AD (pv 3)) AD) NU)) rfl rfl (λz=>by cases z) (by decide)))
  (AN (Aa (i:=7) DO.nd rfl (Or.inl rfl) (AK La (CB (AA J5 AE)) (pv 3)))
  (AN (Bu fT rfl (Ib (by rfl) me (AA (pv 0) AE)) (DZ (n:=2) (K:=K) rfl (BE (Ah (i:=8) DO.nd rfl (Or.inl rfl)) (BE (Ah (i:=9) DO.nd rfl (Or.inl rfl)) CO)))
   (AN (Aa (i:=16) DO.nd rfl (Or.inl rfl) (AK Bl (AK BH (pv 8) (AK Dt (pv 4) AD)) (pv 3)))
   (AN (Aa (i:=10) DO.nd rfl (Or.inl rfl) (AK Bl (AK Dt (pv 4) (AK BH AD (pv 8))) AD))
   (AN (EZ hu (pv 6) (AK Bt AD (pv 8)) (AK BH (AK Bt AD (pv 16)) (pv 10)) rfl)
   (AN (EZ hu (pv 6) (AK BH (AK Bt AD (pv 8)) AD) (AK Cq (AK BH (AK Bt AD (pv 16)) AD) (pv 10)) rfl)
   (AN (Aa (i:=11) DO.nd rfl (Or.inl rfl) (CB (AA (pL K (pv 5) (pT K (pv 9) AD)) (AA (pL K (pv 5) (pT K (pv 9) AD)) AE))))
   (AV (DF (BP (AA (pL K (pv 11) (pv 10)) (AA (pL K (pv 11) (AK Cq AD (pv 10))) (AA (pT K (pv 9) AD) AE)))) (EB (pv 7) (pv 16) D9)))))))))
  (AN (Aa (i:=12) DO.nd rfl (Or.inl rfl) (AK La (CB (AA (BP AE) AE)) (A8 (Bs (K:=K)) (by rfl) ml BR (AA (pv 1) AE))))
  (AN (Bu fT rfl (Ib (by rfl) me (AA (pv 1) AE)) (DZ (n:=2) (K:=K) rfl (BE (Ah (i:=8) DO.nd rfl (Or.inl rfl)) (BE (Ah (i:=13) DO.nd rfl (Or.inl rfl)) CO)))
   (AN (IQ (i:=14) DO.nd rfl (Or.inl rfl) (Nc:=["_law_end","_law_names"]) (cap:=[(1,6)]) (g:=BQ 0) (te:=JE (Ax 1) (Ax 0)) rfl (Hn (K:=K) (pv 13))
    (CJ rfl rfl (by decide +kernel) (by decide +kernel) (ft.mpr ⟨⟨rfl,rfl⟩,fh _⟩) rfl (ft.mpr ⟨⟨_,_,rfl,rfl,rfl,rfl,rfl⟩,fh _⟩)) (λ_ _ _ _ _=>Ah (i:=0) cy rfl (Or.inl rfl))
    (λ_ _ _ _ _=>DE hu (pv 1) (pv 0) (λ_ _=>rfl)))
   (AN (Aa (i:=15) DO.nd rfl (Or.inl rfl) (AK Bl (AK BH (AK Dt (pv 4) AD) (pv 8)) (A8 (Bs (K:=K)) (by rfl) ml BR (AA (pv 14) AE))))
   (AV (DF (Cn (Fm (K:=K)) (by rfl) mt Cb (AA (AK HZ (EW (Kl (K:=K)) (pv 14) (Dv (pv 15)) FC) (EW (Kl (K:=K)) (pv 14) FC (Dv (pv 15)))) AE)) (EB (pv 12) (pL K (pv 5) (pv 8)) D9))))))
  (AV (Am (BP (AA (A8 (Bs (K:=K)) (by rfl) ml BR (AA (pv 1) AE)) (AA (Cn (Fm (K:=K)) (by rfl) mt Cb (AA (pv 7) AE)) (AA (Cn (Fm (K:=K)) (by rfl) mt Cb (AA (pv 12) AE)) AE))))))))))))))
  ,?_⟩
 have tsl:=g.tsl;have two:=g.two;have hln:(hs2 rs).length=2*rs.length+2:=by rw[fj,Ea]; simp; omega
 have lc:(((cs.map V.ref).length:Nat):Int)=(rs.length:Int):=by rw[ed,M.rr.1]
 have lb:(((bs.map V.ref).length:Nat):Int)=(ts.length:Int):=by rw[ed,M.bl]
 have mul2:∀x:Int,KN 2 x:=λx=>.inl ⟨by decide,by decide⟩
 have p15:(0:Int)<10 ^ ((15:Int).toNat):=by decide
 refine⟨_,rfl,_,_,rfl,rfl,⟨by decide,by decide,by decide⟩,_,_,rfl,rfl,p15,?_⟩
 (try dsimp only)
 generalize cell % 10 ^ ((15:Int).toNat)=c;obtain⟨fl,hfl⟩:∃fl:Nat->Int,∀k:Nat,fl k=c / (4+(k:Int)):=⟨_,λ_=>rfl⟩;have mpos:0<rs.length:=by have:=g.few; have:=g.n4; omega
 have po:=W9 mpos (c / 2);have oAt:∀{k:Nat},k<rs.length->((oA (KU rs.length (c / 2)) k:Nat):Int)=((k:Int)+c / 2) % (rs.length:Int):=λhk=>Yv _ hk
 generalize KU rs.length (c / 2)=os at po oAt;refine⟨_,rfl,R,_,rfl,.inl (AM.of M.r1),?_⟩
 (try dsimp only)
 rw[lc];refine⟨_,rfl,T,_,rfl,.inl (AM.of M.tm.h1),ts.length,by rw[lb],by omega,λl0 hl0=>?_⟩;have sl0:=AY hl0 (.AB (DQ (List.range ts.length)));have el0:(AF H l0 (.AB (DQ (List.range ts.length)))) l0=some (.AB (DQ (List.range ts.length))):=AS;refine Co ?_;dsimp only;generalize AF H l0 (.AB (DQ (List.range ts.length)))=Hl at sl0 el0;refine X0 (G:=λσ H5=>∃Pl pls,σ=[some (.ref R),some (.ref T),some (.int cell),some (.int (rs.length:Int)),some (.int c),some (.ref Pl),none,none,none,none,none,none,none,none,none,none,none]/\AR H H5/\H5 Pl=some (.AB (DQ pls))/\pls.Perm (List.range ts.length)/\oA pls 0=0/\oA pls 1=1) (λr=>?_) ?_
 ·refine⟨_,rfl,_,_,rfl,rfl,(show(0:Int)<2 by decide),rfl,_,rfl,?_⟩;refine Hy (λ_=>?_) (λ_=>?_)
  ·refine⟨by exact Bh,λla hla=>?_⟩;obtain⟨H3,zg,sa,ea⟩:=nw hla (.AB [.int 0,.int 1]);rw[zg];refine⟨_,rfl,2,rfl,l0,_,rfl,AM.of (sa _ _ el0),λlb' hlb=>?_⟩;rw[show Cw (DQ (List.range ts.length)) (some 2) none=DQ ((List.range ts.length).drop 2) by rw[show(some (2:Int))=some ((2:Nat):Int) from rfl,HN _ (by unfold DQ; rw[ed,fK]; omega)]; unfold DQ; rw[List.map_drop]];obtain⟨H4,zg,sb,eb⟩:=nw hlb (.AB (DQ ((List.range ts.length).drop 2)));rw[zg];refine⟨lb',_,rfl,eb,λlv hlv=>?_⟩;have sv:=AY hlv (.AB (DQ ((List.range ts.length).drop 2)).reverse);have ev:(AF H4 lv (.AB (DQ ((List.range ts.length).drop 2)).reverse)) lv=some (.AB (DQ ((List.range ts.length).drop 2).reverse)):=by rw[AS]; unfold DQ; rw[List.map_reverse]
   generalize AF H4 lv (.AB (DQ ((List.range ts.length).drop 2)).reverse)=H5 at sv ev;refine⟨la,lv,_,_,rfl,rfl,sv _ _ (sb _ _ ea),ev,by rw[ed,iW,gN,fK]; exact D5 (by simp; omega),λPl hPl=>?_⟩;exact r _ _ ⟨Pl,0 :: 1 :: ((List.range ts.length).drop 2).reverse,rfl,sl0.trans (sa.trans (sb.trans (sv.trans (AY hPl _)))),AS,YG two,rfl,rfl⟩
  ·exact r _ _ ⟨l0,_,rfl,sl0,el0,.refl _,by unfold oA; rw[eO,gA (by omega)]; rfl,by unfold oA; rw[eO,gA (by omega)]; rfl⟩
 rintro σ H5 ⟨Pl,pls,rfl,s5,eP,pl,p0,p1⟩;have M5:=M.keep s5;refine λD hD=>?_
 have sD0:=AY hD (.dK []);refine⟨_,rfl,_,rfl,_,_,rfl,rfl,mul2 _,_,rfl,_,rfl,_,_,rfl,rfl,mul2 _,_,_,rfl,rfl,?_⟩;refine⟨AS,[(Sum.inl (-2),.int (2*(rs.length:Int))),(Sum.inl (-1),.int (2*(rs.length:Int)+1))],rfl,by show 2<=15; decide,?_⟩;have eN:Dx [] [((Sum.inl (-2):AX),V.int (2*(rs.length:Int))),(Sum.inl (-1),.int (2*(rs.length:Int)+1))]=A7 (Bx (A4 rs.length os fl) 0):=by
  show Bw (Bw (A7 []) (Sum.inl (-2):AX) (.int (2*(rs.length:Int)))) (Sum.inl (-1):AX) (.int (2*(rs.length:Int)+1))=_;rw[GY (by simp),GY (by simp)];show A7 [(-2,2*(rs.length:Int)),(-1,2*(rs.length:Int)+1)]=A7 [(((0:Nat):Int)-2,A4 rs.length os fl ((0:Nat):Int)),(((1:Nat):Int)-2,A4 rs.length os fl ((1:Nat):Int))];rw[show((0:Nat):Int)=0 from rfl,show((1:Nat):Int)=1 from rfl,Gh,Ho];rfl
 rw[eN];have sD:=sD0.up hD (.dK (A7 (Bx (A4 rs.length os fl) 0)));have eD:(AF (AF H5 D (.dK [])) D (.dK (A7 (Bx (A4 rs.length os fl) 0)))) D=some (.dK (A7 (Bx (A4 rs.length os fl) 0))):=AS;generalize AF (AF H5 D (.dK [])) D (.dK (A7 (Bx (A4 rs.length os fl) 0)))=H6 at sD eD;refine⟨by exact EO,λl0 hl0=>?_⟩;obtain⟨H7,zg,s0,e0⟩:=nw hl0 (.AB [.BA]);rw[zg];have eD0:=s0 _ _ eD;have s60:=sD.trans s0;refine⟨_,rfl,l0,_,_,rfl,rfl,e0,by omega,by omega,by rw[iu]; exact D5 (by omega),λMk hMk=>?_⟩;rw[UO,show((rs.length:Int)).toNat=rs.length by omega];obtain⟨H8,zg,sM,eM⟩:=nw hMk (.AB (List.replicate rs.length .BA));rw[zg];have eD1:=sM _ _ eD0;have s6:=s60.trans sM;have nDM:D≠Mk:=BL eD0 hMk;have fM:H5 Mk=none:=s60.free hMk;clear s60 s0 e0 eD0 sD eD sD0
 try dsimp only
 try refine Co ?_
 first | refine DA λUL hUL=>?_ | refine nx_hide λUL hUL=>?_
 refine⟨_,rfl,R,_,rfl,(M5.keep s6).r1,?_⟩;refine QS (xs:=cs.map V.ref) (λi σ H2=>∃uk ur uf up ua mv,σ=[some (.ref R),some (.ref T),some (.int cell),some (.int (rs.length:Int)),some (.int c),some (.ref Pl),some (.ref D),some (.ref Mk),uk,ur,uf,up,none,none,none,none,ua]/\AR H5 H2/\H2 D=some (.dK (A7 (Bx (A4 rs.length os fl) i))) /\
   H2 Mk=some (.AB mv)/\mv.length=rs.length/\∀k,k<i->∃d r,rs[k]?=some r/\mv[oA os k]?=some (.ref d)/\Bf H2 d (EU pls fl k r))
  ⟨none,none,none,none,none,_,rfl,s6,eD1,eM,by rw[List.length_replicate],λk hk=>by omega⟩ (λi σ H2 _ ⟨_,_,_,_,_,_,_,s2,_⟩=>(M5.keep s2).r1) ?_ ?_
 ·rintro i x σ H2 p hx ⟨uk,ur,uf,up,ua,mv,rfl,s2,hD2,hM2,lmv,made⟩ hp U0 hU0;obtain⟨d,r,rfl,hd,hr2,hR0⟩:=M5.rr.ref hx;have hi:i<rs.length:=(eu.mp hr2).1;have sp:=AY hp (.AG [.int i,.ref d]);have hD3:=sp _ _ hD2;have hM3:=sp _ _ hM2;have s3:=s2.trans sp;have made3:∀k,k<i->∃d' r,rs[k]?=some r/\mv[oA os k]?=some (.ref d')/\Bf (AF H2 p (.AG [.int i,.ref d])) d' (EU pls fl k r):=λk hk=>by
   obtain⟨d,r,a1,a2,a3⟩:=made k hk;exact⟨d,r,a1,a2,Cp sp a3⟩
  refine⟨p,_,rfl,AJ.of AS,rfl,_,_,rfl,_,_,rfl,rfl,?_⟩;generalize AF H2 p (.AG [.int i,.ref d])=H3 at s3 hD3 hM3 made3;clear made sp hD2 hM2 s2 hp
  try dsimp only
  try refine Co ?_
  first | refine DA λU hU=>?_ | refine nx_hide λU hU=>?_
  refine⟨_,rfl,_,rfl,_,_,rfl,rfl,⟨by decide,by decide⟩,_,_,rfl,rfl,_,rfl,_,_,rfl,rfl,(show(0:Int)<(rs.length:Int) by omega),?_⟩
  (try dsimp only)
  rw[<-oAt hi];subst hU
  try dsimp only
  try refine Co ?_
  first | refine DA λU hU=>?_ | refine nx_hide λU hU=>?_
  refine⟨_,rfl,_,rfl,_,_,rfl,rfl,_,_,rfl,rfl,⟨by show(0:Int)<4+(i:Int); omega,by show 4+(i:Int)<1073741824; omega⟩,_,_,rfl,rfl,(show(0:Int)<2 by decide),?_⟩
  (try dsimp only)
  rw[<-hfl i];subst hU;have szd:∀(L:List (Int×Int)),L.length<=100->(A7 L).length<sizeLine:=λL hL=>by rw[ed]; exact Ca (by omega)
  try dsimp only
  try refine Co ?_
  first | refine DA λU hU=>?_ | refine nx_hide λU hU=>?_
  refine⟨_,rfl,_,_,rfl,rfl,mul2 _,_,rfl,_,_,rfl,rfl,_,rfl,_,rfl,_,_,rfl,rfl,mul2 _,D,_,rfl,DR.k (k:=Sum.inl (2*(i:Int))) hD3 (szd _ (by rw[Ro]; omega)),?_⟩;have v1:2*((oA os i:Nat):Int)+fl i % 2=A4 rs.length os fl (2*(i:Int)+2):=(Gk i).symm;have v2:2*((oA os i:Nat):Int)+1-fl i % 2=A4 rs.length os fl (2*(i:Int)+3):=(Gm i).symm
  (try dsimp only)
  rw[v1,GY (Yj _ i)];have s4:=s3.up hD (.dK (A7 (Bx (A4 rs.length os fl) i++[(2*(i:Int),A4 rs.length os fl (2*(i:Int)+2))])));have hD4:(AF H3 D (.dK (A7 (Bx (A4 rs.length os fl) i++[(2*(i:Int),A4 rs.length os fl (2*(i:Int)+2))])))) D=some (.dK (A7 (Bx (A4 rs.length os fl) i++[(2*(i:Int),A4 rs.length os fl (2*(i:Int)+2))]))):=AS;have hM4:(AF H3 D (.dK (A7 (Bx (A4 rs.length os fl) i++[(2*(i:Int),A4 rs.length os fl (2*(i:Int)+2))])))) Mk=some (.AB mv):=by rw[Ad (iB nDM)]; exact hM3
  have made4:∀k,k<i->∃d' r,rs[k]?=some r/\mv[oA os k]?=some (.ref d')/\Bf (AF H3 D (.dK (A7 (Bx (A4 rs.length os fl) i++[(2*(i:Int),A4 rs.length os fl (2*(i:Int)+2))])))) d' (EU pls fl k r):=λk hk=>by
   obtain⟨d,r,a1,a2,a3⟩:=made3 k hk;exact⟨d,r,a1,a2,Ks hD3 (λys z=>by cases z) a3⟩
  generalize AF H3 D (.dK (A7 (Bx (A4 rs.length os fl) i++[(2*(i:Int),A4 rs.length os fl (2*(i:Int)+2))])))=H4 at s4 hD4 hM4 made4;clear made3 s3 hD3 hM3;subst hU
  try dsimp only
  try refine Co ?_
  first | refine DA λU hU=>?_ | refine nx_hide λU hU=>?_
  refine⟨_,rfl,_,_,rfl,rfl,mul2 _,_,_,rfl,rfl,_,rfl,_,_,rfl,rfl,_,rfl,_,rfl,_,_,rfl,rfl,mul2 _,_,_,rfl,rfl,D,_,rfl,DR.k (k:=Sum.inl (2*(i:Int)+1)) hD4 (szd _ (by rw[fj,Ro,iu]; omega)),?_⟩
  (try dsimp only)
  rw[v2,GY (Yb _ i _),<-X3];have s5':=s4.up hD (.dK (A7 (Bx (A4 rs.length os fl) (i+1))));have hD5:(AF H4 D (.dK (A7 (Bx (A4 rs.length os fl) (i+1))))) D=some (.dK (A7 (Bx (A4 rs.length os fl) (i+1)))):=AS;have hM5:(AF H4 D (.dK (A7 (Bx (A4 rs.length os fl) (i+1))))) Mk=some (.AB mv):=by rw[Ad (iB nDM)]; exact hM4
  have made5:∀k,k<i->∃d' r,rs[k]?=some r/\mv[oA os k]?=some (.ref d')/\Bf (AF H4 D (.dK (A7 (Bx (A4 rs.length os fl) (i+1))))) d' (EU pls fl k r):=λk hk=>by
   obtain⟨d,r,a1,a2,a3⟩:=made4 k hk;exact⟨d,r,a1,a2,Ks hD4 (λys z=>by cases z) a3⟩
  generalize AF H4 D (.dK (A7 (Bx (A4 rs.length os fl) (i+1))))=H5' at s5' hD5 hM5 made5;clear made4 s4 hD4 hM4;subst hU;obtain⟨e,hd1,hd2⟩:=id hR0;obtain⟨g1,g2⟩:=HQ hr2;have r1:r.1<ts.length:=UG g (j:=2*i+2) (by show(0 :: 1 :: CI rs)[2*i+1+1]?=_; rw[iy,iy]; exact g1);have r2:r.2.1<ts.length:=UG g (j:=2*i+3) (by show(0 :: 1 :: CI rs)[2*i+1+1+1]?=_; rw[iy,iy]; exact g2)
  try dsimp only
  try refine Co ?_
  first | refine DA λU hU=>?_ | refine nx_hide λU hU=>?_
  refine⟨_,rfl,_,rfl,d,_,_,_,rfl,rfl,AJ.of (s5' _ _ hd1),Hv _ _ _,Pl,_,_,_,rfl,rfl,AM.of (s5' _ _ eP),Mz pl r1,_,rfl,_,rfl,d,_,_,_,rfl,rfl,AJ.of (s5' _ _ hd1),Di _ _ _,Pl,_,_,_,rfl,rfl,AM.of (s5' _ _ eP),Mz pl r2,by exact Bh,λpr hpr=>?_⟩;obtain⟨H6',zg,s6',hp6⟩:=nw hpr (.AB [.int ((oA pls r.1:Nat):Int),.int ((oA pls r.2.1:Nat):Int)]);rw[zg];subst hU;obtain⟨f1',f2'⟩:=Zb (oA pls r.1) (oA pls r.2.1) (CL fl i);have s56:=s5'.trans s6';refine⟨_,rfl,_,rfl,pr,_,_,_,rfl,rfl,AM.of hp6,f1',_,rfl,_,rfl,_,_,rfl,rfl,pr,_,_,_,rfl,rfl,AM.of hp6,f2',_,rfl,d,_,_,_,rfl,rfl,AJ.of (s56 _ _ hd1),Gu _ _ _,by exact E7,λnp hnp=>?_⟩;have s7:=AY hnp (.AG [.int ((if fl i % 2=0 then oA pls r.1 else oA pls r.2.1:Nat):Int),.int ((if fl i % 2=0 then oA pls r.2.1 else oA pls r.1:Nat):Int),.ref e]);have hn7:Bf (AF H6' np (.AG [.int ((if fl i % 2=0 then oA pls r.1 else oA pls r.2.1:Nat):Int),.int ((if fl i % 2=0 then oA pls r.2.1 else oA pls r.1:Nat):Int),.ref e])) np (EU pls fl i r):=by
   rw[aa];exact⟨e,AS,AZ (s56.trans s7) hd2⟩
  have s67:=s6'.trans s7;have hM7:=s67 _ _ hM5;have hD7:=s67 _ _ hD5;have s57:=s5'.trans s67;generalize AF H6' np (.AG [.int ((if fl i % 2=0 then oA pls r.1 else oA pls r.2.1:Nat):Int),.int ((if fl i % 2=0 then oA pls r.2.1 else oA pls r.1:Nat):Int),.ref e])=H7' at s7 hn7 s67 hM7 hD7 s57;have oi:=(C5 po hi).2;refine⟨_,rfl,_,rfl,Mk,_,_,oA os i,rfl,rfl,hM7,by rw[lmv]; exact Jn oi,?_⟩;refine hU0 _ _ ⟨_,_,_,_,_,mv.set (oA os i) (.ref np),rfl,s57.up fM _,by rw[Ad nDM]; exact hD7,AS,by rw[iA]; exact lmv,λk hk=>?_⟩;rcases gc k i with hlt | hge
  ·obtain⟨d',r',a1,a2,a3⟩:=made5 k hlt;refine⟨d',r',a1,?_,Ks hM7 (λys z=>by cases z) (Cp s67 a3)⟩;rw[gn (λz=>by have:=Ir po hi (by omega) z; omega)];exact a2
  ·obtain rfl:k=i:=by omega
   exact⟨np,r,hr2,by rw[gp (by rw[lmv]; exact oi)],Ks hM7 (λys z=>by cases z) hn7⟩
 rintro σ H9 ⟨uk,ur,uf,up,ua,mv,rfl,s9,hD9,hM9,lmv,made⟩;subst hUL;rw[ed,M.rr.1] at hD9 made;have s09:=s5.trans s9;have M9:=M.keep s09;refine⟨by exact FZ,λt0 ht0=>⟨by exact EO,λl1 hl1=>?_⟩⟩;have sa:=(AY ht0 (.AG [])).trans (AY hl1 (.AB [.ref t0]));have ea:(AF (AF H9 t0 (.AG [])) l1 (.AB [.ref t0])) l1=some (.AB [.ref t0]):=AS;generalize AF (AF H9 t0 (.AG [])) l1 (.AB [.ref t0])=Ha at sa ea;refine⟨_,rfl,T,_,rfl,.inl (AM.of (M9.keep sa).tm.h1),l1,_,_,rfl,rfl,ea,by rw[lb]; omega,by rw[lb]; omega,by rw[lb,iu]; exact D5 (by omega),λRw hRw=>?_⟩;rw[UO,lb,show((ts.length:Int)).toNat=ts.length by omega];have sb:=sa.trans (AY hRw (.AB (List.replicate ts.length (.ref t0))));have eb:(AF Ha Rw (.AB (List.replicate ts.length (.ref t0)))) Rw=some (.AB (List.replicate ts.length (.ref t0))):=AS;have fR:H9 Rw=none:=sa.free hRw;generalize AF Ha Rw (.AB (List.replicate ts.length (.ref t0)))=Hb at sb eb;clear sa ea
 try dsimp only
 try refine Co ?_
 first | refine DA λUL hUL=>?_ | refine nx_hide λUL hUL=>?_
 refine⟨_,rfl,T,_,rfl,(M9.keep sb).tm.h1,?_⟩;have eP9:=s9 _ _ eP;refine QS (xs:=bs.map V.ref) (λi σ H2=>∃uk ut uh uc rv,σ=[some (.ref R),some (.ref T),some (.int cell),some (.int (rs.length:Int)),some (.int c),some (.ref Pl),some (.ref D),some (.ref Mk),uk,ur,uf,up,some (.ref Rw),ut,uh,uc,ua]/\AR H9 H2 /\
   H2 Rw=some (.AB rv)/\rv.length=ts.length/\∀k,k<i->∃d u t,ts[k]?=some t/\rv[oA pls k]?=some (.ref d)/\BS H2 d u/\ER (t.map (A4 rs.length os fl)) u)
  ⟨_,none,none,none,_,rfl,sb,eb,by rw[List.length_replicate],λk hk=>by omega⟩ (λi σ H2 _ ⟨_,_,_,_,_,_,s2,_⟩=>(M9.keep s2).tm.h1) ?_ ?_
 ·rintro i x σ H2 p hx ⟨uk',ut,uh,uc,rv,rfl,s2,hR2,lrv,rows⟩ hp U0 hU0;obtain⟨b,t',rfl,hb,ht',hB0⟩:=M9.tm.rows.ref hx;obtain⟨t,ht,rfl⟩:=Sm ht';have hi:i<ts.length:=(eu.mp ht).1;have tl:=Na g ht;have sp:=AY hp (.AG [.int i,.ref b]);have hR3:=sp _ _ hR2;have s3:=s2.trans sp;refine⟨p,_,rfl,AJ.of AS,rfl,_,_,rfl,_,_,rfl,rfl,?_⟩;have rows3:∀k,k<i->∃d u t,ts[k]?=some t/\rv[oA pls k]?=some (.ref d)/\BS (AF H2 p (.AG [.int i,.ref b])) d u/\ER (t.map (A4 rs.length os fl)) u:=λk hk=>by
   obtain⟨d,u,t,a1,a2,a3,a4⟩:=rows k hk;exact⟨d,u,t,a1,a2,HM sp a3,a4⟩
  generalize AF H2 p (.AG [.int i,.ref b])=H3 at s3 hR3 rows3;clear rows sp hR2 s2 hp;have hB:H3 b=some (.AB ((t.map λx=>x-2).map V.int)):=s3 _ _ hB0
  try dsimp only
  try refine Co ?_
  first | refine DA λU hU=>?_ | refine nx_hide λU hU=>?_
  refine⟨_,rfl,b,rfl,⟨_,AM.of hB⟩,λacc hacc=>?_⟩;refine CN (Fl hB) (by rw[ed,ed]; omega) hacc (λj ys σ hp=>ys=((t.map (A4 rs.length os fl)).take j).map V.int/\∃u,σ=[u,some (.ref D)]) ⟨rfl,none,rfl⟩ ?_ ?_
  ·rintro j ys σ H7 x H8 hj sm hacfl ⟨rfl,u,rfl⟩ ⟨rfl,hx⟩ Cc hC;obtain⟨e,rfl,he⟩:=Ep hx;rw[fg] at he;cases ey:t[j]? with
   | none=>rw[ey] at he; cases he
   | some y =>
    rw[ey] at he;cases he;have yR:AH (2*rs.length+2) y:=by
     have:=(g.mem y).mp (fV.mpr ⟨t,eQ ht,eQ ey⟩)
     rwa [hln] at this
    refine⟨_,rfl,_,rfl,D,_,rfl,Im (sm _ _ (s3 _ _ hD9)) (Yq _ yR),?_⟩;refine hC _ _ _ (AR.refl _) ⟨?_,_,rfl⟩;have ee:(t.map (A4 rs.length os fl))[j]?=some (A4 rs.length os fl y):=by rw[fg,ey]; rfl
    rw[Dr ee,fv];rfl
  rintro ys σ H4 s4 hacc4 _ ⟨rfl,u,rfl⟩;subst hU;rw[ed,ed,fH (by rw[ed]; exact eU _)] at hacc4;have tn:=g.ne t (eQ ht);have tp:0<t.length:=List.length_pos_iff.mpr tn;have lr:((((t.map (A4 rs.length os fl)).map V.int).length:Nat):Int)=(t.length:Int):=by rw[ed,ed]
  try dsimp only
  try refine Co ?_
  first | refine DA λU hU=>?_ | refine nx_hide λU hU=>?_
  refine⟨_,rfl,_,_,rfl,rfl,⟨by decide,by decide⟩,_,rfl,_,_,rfl,rfl,_,rfl,acc,_,rfl,.inl (AM.of hacc4),_,_,rfl,rfl,by rw[lr]; omega,?_⟩;subst hU
  (try dsimp only)
  rw[lr];generalize c / 3+(i:Int)=cc;have tp':(0:Int)<(t.length:Int):=by omega
  have d0:=gX cc (jj tp');have d1:=iz cc tp';obtain⟨j,hj⟩:∃j:Nat,cc % (t.length:Int)=(j:Int):=⟨(cc % (t.length:Int)).toNat,by omega⟩;rw[hj] at d1 ⊢;have jl:j<=((t.map (A4 rs.length os fl)).map V.int).length:=by rw[ed,ed]; omega
  refine⟨_,rfl,_,rfl,_,rfl,acc,_,rfl,AM.of hacc4,λp1 hp1=>?_⟩;rw[HN _ jl];obtain⟨H5a,zg,s5a,e5⟩:=nw hp1 (.AB (((t.map (A4 rs.length os fl)).map V.int).drop j));rw[zg];refine⟨_,rfl,_,rfl,_,rfl,acc,_,rfl,AM.of (s5a _ _ hacc4),λp2 hp2=>?_⟩;rw[Mu _ jl];obtain⟨H6a,zg,s6a,e6⟩:=nw hp2 (.AB (((t.map (A4 rs.length os fl)).map V.int).take j));rw[zg];refine⟨p1,p2,_,_,rfl,rfl,s6a _ _ e5,e6,by rw[gN,g9,ed,ed]; exact D5 (by omega),λp3 hp3=>?_⟩;rw[<-List.map_drop,<-List.map_take,<-List.map_append];have rot:ER (t.map (A4 rs.length os fl)) ((t.map (A4 rs.length os fl)).drop j++(t.map (A4 rs.length os fl)).take j):=⟨_,_,(iN j _).symm,rfl⟩;generalize (t.map (A4 rs.length os fl)).drop j++(t.map (A4 rs.length os fl)).take j=un at rot;obtain⟨H7a,zg,s7a,e7⟩:=nw hp3 (.AB (un.map V.int));rw[zg];refine⟨p3,_,rfl,.inl ⟨AM.of e7,λp4 hp4=>?_⟩⟩;have s8a:=AY hp4 (.AG (un.map V.int));have e8:BS (AF H7a p4 (.AG (un.map V.int))) p4 un:=AS;have s48:=s4.trans (s5a.trans (s6a.trans (s7a.trans s8a)));generalize AF H7a p4 (.AG (un.map V.int))=H8a at s8a e8 s48;have s38:=s3.trans s48;have hR8:=s48 _ _ hR3;have pi:=(C5 pl hi).2;refine⟨_,rfl,_,rfl,_,rfl,Pl,_,_,_,rfl,rfl,AM.of (s38 _ _ eP9),Mz pl hi,Rw,_,_,oA pls i,rfl,rfl,hR8,by rw[lrv]; exact Jn pi,?_⟩;have ukeep:∀{d:Addr} {u:List Int},BS H8a d u->BS (AF H8a Rw (.AB (rv.set (oA pls i) (.ref p4)))) d u:=λ{d u} h=>by
   unfold BS at h ⊢;rw[Ad (λz=>by rw[z,hR8] at h; cases h)]; exact h
  refine hU0 _ _ ⟨_,_,_,_,rv.set (oA pls i) (.ref p4),rfl,s38.up fR _,AS,by rw[iA]; exact lrv,λk hk=>?_⟩;rcases gc k i with hlt | hge
  ·obtain⟨d',u',t',a1,a2,a3,a4⟩:=rows3 k hlt;refine⟨d',u',t',a1,?_,ukeep (HM s48 a3),a4⟩;rw[gn (λz=>by have:=Ir pl hi (by omega) z; omega)];exact a2
  ·obtain rfl:k=i:=by omega
   exact⟨p4,un,t,ht,by rw[gp (by rw[lrv]; exact pi)],ukeep e8,rot⟩
 rintro σ Hz ⟨uk',ut,uh,uc,rv,rfl,sz,hRz,lrv,rows⟩;subst hUL;rw[ed,M.bl] at rows;obtain⟨ds,rs',rfl,hds,hrs⟩:=Lp (R:=Bf) (H:=Hz) (mv:=mv) (Pq:=λq r'=>∃k r,k<rs.length/\oA os k=q/\rs[k]?=some r/\r'=EU pls fl k r) (λqq hq=>by
  obtain⟨k,hk,ek⟩:=LX po (q:=qq) (by omega);obtain⟨d,r,a1,a2,a3⟩:=made k hk;rw[ek] at a2;exact⟨d,_,a2,Cp sz a3,k,r,hk,ek,a1,rfl⟩)
 obtain⟨es,us,rfl,hes,hus⟩:=Lp (R:=BS) (H:=Hz) (mv:=rv) (Pq:=λq u=>∃k t,k<ts.length/\oA pls k=q/\ts[k]?=some t/\ER (t.map (A4 rs.length os fl)) u) (λqq hq=>by
  obtain⟨k,hk,ek⟩:=LX pl (q:=qq) (by omega);obtain⟨d,u,t,a1,a2,a3,a4⟩:=rows k hk;rw[ek] at a2;exact⟨d,_,a2,a3,k,t,hk,ek,a1,a4⟩)
 rw[ed] at lmv lrv;have lrs:rs'.length=rs.length:=by rw[<-hds.1]; exact lmv
 have lus:us.length=ts.length:=by rw[<-hes.1]; exact lrv
 have N:NetV ts.length rs' us/\Kn us rs.length:=by
  refine aV (m:=rs.length) (π:=oA pls) (ρ:=A4 rs.length os fl) g hln h14 lrs lus (Zo two po pl p0 p1) (λp t ht=>?_) (aG rfl lrs po p0 p1 λk r hk=>?_) (λr' hr'=>?_)
  ·have hp:=(eu.mp ht).1;have pi:=(C5 pl hp).2;have hu1:us[oA pls p]?=some us[oA pls p]:=eh (by omega);obtain⟨k,t',a1,a2,a3,a4⟩:=hus _ _ hu1
   have:=Ir pl a1 hp a2
   subst this;rw[ht] at a3;cases a3;exact⟨_,hu1,a4⟩
  ·have hk':=(eu.mp hk).1;have oi:=(C5 po hk').2;have hu1:rs'[oA os k]?=some rs'[oA os k]:=eh (by omega);obtain⟨k',r',a1,a2,a3,a4⟩:=hrs _ _ hu1
   have:=Ir po a1 hk' a2
   subst this;rw[hk] at a3;cases a3;rw[hu1,a4]
  ·obtain⟨j,hj,ej⟩:=fP hr';obtain⟨k,r,a1,a2,a3,a4⟩:=hrs j r' (by rw[eh hj,ej])
   have:=ekr r (eQ a3)
   rw[a4];unfold EU;split <;> exact this
 have s0z:=s09.trans sz;refine⟨_,rfl,T,_,rfl,.inl (AM.of (M.keep s0z).tm.h1),_,rfl,Mk,_,rfl,.inl ⟨AM.of (sz _ _ hM9),λp1' hp1=>?_⟩⟩;obtain⟨H7,zg,s7,e7⟩:=nw hp1 (.AG (ds.map V.ref));rw[zg];have hR7:=s7 _ _ hRz;refine⟨_,rfl,Rw,_,rfl,.inl ⟨AM.of hR7,λp2 hp2=>?_⟩⟩;obtain⟨H8,zg,s8,e8⟩:=nw hp2 (.AG (es.map V.ref));rw[zg];refine⟨by exact E7,λp hp=>?_⟩;rw[lb];have s9':=AY hp (.AG [.int (ts.length:Int),.ref p1',.ref p2]);have s79:=s7.trans (s8.trans s9');exact q p p1' p2 ts.length rs' us _ (s0z.trans s79) AS ⟨ds,s9' _ _ (s8 _ _ e7),hds.keep Cp s79⟩ ⟨es,s9' _ _ e8,hes.keep HM s79⟩ N.1 (by rw[lrs]; exact N.2)
theorem W7:Gn [[2,0],[3,1]] [0,1,0,1]:=by
 have nd:([[2,0],[3,1]]:List (List Int)).flatten.Nodup:=by decide
 refine⟨by decide,by decide,by decide,nd,λx=>?_,λp t hp x hx=>?_,by decide,by decide,⟨rfl,rfl⟩,λS S0 hS p hp=>?_,XE [[2,0],[3,1]] rfl (by decide) (by decide) (by decide) (by decide),W4 rfl⟩
 ·simp only[fZ,List.flatten_nil,iF,fm,fE,gE,iO,AH,gq,i8];omega
 ·match p,hp with
  | 0,hp=>cases hp; simp at hx; rcases hx with rfl | rfl <;> rfl
  | 1,hp=>cases hp; simp at hx; rcases hx with rfl | rfl <;> rfl
 ·have:=hS 1 (by decide) 0 1 rfl rfl
  match p,hp with
  | 0,_=>exact S0
  | 1,_=>exact this.mp S0
inductive Qe(vs:List V)(H:Hp)(Q:VK):Prop
 | mk (a:Addr) (ns:List Int) (c gr:Int) (mo:Nat) (h_0:vs=[.ref a,.int c,.int (mo:Int),.int gr]) (h_1:H a=some (.AB (ns.map V.int))) (h_2:1<=mo) (h_3:mo<=14) (h_6:0<gr) (h_7:gr<1000) (h_8:∀p ra ta n rs us H',AR H H'->H' p=some (.AG [.int ((n:Nat):Int),.ref ra,.ref ta])->Az Bf H' ra rs->Az BS H' ta us->NetV n rs us->Kn us rs.length->Q (.ref p) H'):Qe vs H Q
def NQ:Sp:=λvs H Q _=>Qe vs H Q
theorem L0:A3 ["_law_cells","_law_first","_law_most","_law_great","_law_ropes","_law_turns","_law_cell_here"] ["_law_cells","_law_first","_law_most","_law_great"] (Ao s_law_grown):=BC
set_option maxHeartbeats 1000000 in
seal L2.CW L2.PS L2.PE L2.PA in
theorem XJ (F:Ar K "_law_grown" "_law_grown" s_law_grown f fd)
  (G2:AU P w K mg base 3 "_law_ease" ["_law_cell_here","_law_most"] Ni)
  (G3:AU P w K mg base 2 "_law_grow" ["_law_ropes","_law_turns","_law_cell_here","_law_ease_here"] N5)
  (G4:AU P w K mg base 2 "_law_finished" ["_law_ropes","_law_turns","_law_cell_here"] OL) (ml:mg "len" = none) :
  An P w K mg base Ay 4 f fd ["_law_cells","_law_first","_law_most","_law_great"] NQ:=by
 refine F.BD L0 λcdv A outer s H vs Q E hr h=>?_
 obtain⟨a,ns,c,gr,mo,rfl,ha,mo1,mo2,gr0,gr1,q⟩:=h;have r2:=hr.mono (show 2<=3 by decide);refine⟨_,AN (Aa (i:=4) L0.nd rfl (Or.inl rfl) (CB (AA (BP (AA AD (AA AD (AA (Ae G2 hr (AA (pv 1) (AA (pv 3) AE))) AE)))) AE)))
  (AN (Aa (i:=5) L0.nd rfl (Or.inl rfl) (CB (AA (CB (AA AD (AA (Fv Fo AD) AE))) (AA (CB (AA AD (AA (Fv Fo AD) AE))) AE))))
  (AN (Bu fT rfl (Hn (K:=K) (pv 0)) (Ah (i:=6) L0.nd rfl (Or.inl rfl))
   (AV (BZ (BX Ht (A8 (Bs (K:=K)) (by rfl) ml BR (AA (pv 4) AE)) (pv 2) (BM _))
    (AV (DB (Ae G3 r2 (AA (pv 4) (AA (pv 5) (AA (pv 6) (AA (Ae G2 hr (AA (AK Dt (pv 6) AD) (AA (pv 3) AE))) AE))))))) Bp)))
  (AV (Am (Ae G4 r2 (AA (pv 4) (AA (pv 5) (AA (pv 1) AE)))))))),?_⟩
 refine⟨_,rfl,_,rfl,c,gr,rfl,gr0,gr1,λe H4 qe s4 he ek=>?_⟩;refine⟨by exact E7,λtp htp=>⟨by exact EO,λR hR=>?_⟩⟩;obtain⟨H5,zg,s5,e5⟩:=nw htp (.AG [.int 0,.int 1,.ref e]);rw[zg] at hR ⊢;obtain⟨H6,zg,s6,e6⟩:=nw hR (.AB [.ref tp]);rw[zg];refine⟨_,rfl,by exact Bh,λl1 h1=>⟨_,rfl,by exact Bh,λl2 h2=>⟨by exact Bh,λT hT=>?_⟩⟩⟩;obtain⟨H7,zg,s7,e7⟩:=nw h1 (.AB [.int 0,.int (-2)]);rw[zg] at h2 hT ⊢;obtain⟨H8,zg,s8,e8⟩:=nw h2 (.AB [.int 1,.int (-1)]);rw[zg] at hT ⊢;obtain⟨H9,zg,s9,e9⟩:=nw hT (.AB [.ref l1,.ref l2]);rw[zg];have s46:=s5.trans s6;have s47:=s46.trans s7;have s48:=s47.trans s8;have s49:=s48.trans s9;have n12:l1≠l2:=BL e7 h2;have n1T:l1≠T:=BL (s8 _ _ e7) hT;have n2T:l2≠T:=BL e8 hT;have nR1:R≠l1:=BL e6 h1;have nR2:R≠l2:=BL (s7 _ _ e6) h2;have nRT:R≠T:=BL (s8 _ _ (s7 _ _ e6)) hT;have M0:Cf H9 R T [tp] [l1,l2] [[2,0],[3,1]] [(0,1,qe)]:=by
  refine⟨⟨e9,⟨rfl,λi b x e1 e2=>?_⟩,?_⟩,s9 _ _ (s8 _ _ (s7 _ _ e6)),⟨rfl,λi b x e1 e2=>?_⟩,?_⟩
  ·match i,e1,e2 with
   | 0,e1,e2=>cases e1; cases e2; exact s9 _ _ (s8 _ _ e7)
   | 1,e1,e2=>cases e1; cases e2; exact s9 _ _ e8
  ·simp[n12,iB n1T,iB n2T]
  ·match i,e1,e2 with
   | 0,e1,e2=>cases e1; cases e2; exact⟨e,(s6.trans (s7.trans (s8.trans s9))) _ _ e5,AZ s49 he⟩
  ·simp[nRT,nR1,nR2]
 have fr0:∀b∈T :: R :: [l1,l2],H b=none:=by
  intro b hb;simp at hb;rcases hb with rfl | rfl | rfl | rfl
  ·exact s4.free (s48.free hT)
  ·exact s4.free (s5.free hR)
  ·exact s4.free (s46.free h1)
  ·exact s4.free (s47.free h2)
 have s09:=s4.trans s49;refine⟨_,rfl,a,rfl,⟨_,AM.of (s09 _ _ ha)⟩,?_⟩;refine Mc (xs:=ns.map V.int) (λi σ H2=>∃uc cs bs ts rs,σ=[some (.ref a),some (.int c),some (.int (mo:Int)),some (.int gr),some (.ref R),some (.ref T),uc]/\AR H H2/\(∀b∈T :: R :: bs,H b=none)/\Cf H2 R T cs bs ts rs/\Gn ts (hs2 rs)/\rs.length<=mo/\(∀r∈rs,FL r.2.2))
  ⟨none,[tp],[l1,l2],[[2,0],[3,1]],[(0,1,qe)],rfl,s09,fr0,M0,W7,mo1,λr hr=>by rw[fQ.mp hr]; exact ek⟩ (λi σ H2 _ ⟨_,_,_,_,_,_,s2,_⟩=>AM.of (s2 _ _ ha)) ?_ ?_
 ·rintro i x σ Hc hx ⟨uc,cs,bs,ts,rs,rfl,sc,fr,M,gg,lm,ek⟩;rw[fg] at hx;obtain⟨y,hy,rfl⟩:=Option.map_eq_some_iff.mp hx;have lc:(((cs.map V.ref).length:Nat):Int)=(rs.length:Int):=by rw[ed,M.rr.1]
  refine⟨_,rfl,R,_,rfl,.inl (AM.of M.r1),_,rfl,_,_,rfl,rfl,_,rfl,?_⟩;rw[lc];by_cases hlt:(rs.length:Int)<(mo:Int)
  ·refine DH hlt ?_;refine⟨_,rfl,_,rfl,_,rfl,_,rfl,_,_,rfl,rfl,⟨by decide,by decide⟩,_,rfl,_,gr,rfl,gr0,gr1,λe2 Hf q2 sf hf ekf=>?_⟩;have Mf:=M.keep sf;refine⟨R,T,e2,cs,bs,ts,rs,y,q2,rfl,Mf,gg,by omega,hf,ekf,ek,λHg cs' bs' ts' rs' Fg fb Mg g' l' ek'=>?_⟩;have scf:=sc.trans sf;refine⟨_,cs',bs',ts',rs',rfl,λb o e=>Fg b o (λhb=>by
     have hb':b∈T :: R :: bs:=hb;rw[fr b hb'] at e; cases e) (scf b o e),λb hb=>?_,Mg,g',by omega,ek'⟩
   rcases fE.mp hb with w | w
   ·exact fr b (by simp[w])
   ·rcases fE.mp w with w | w
    ·exact fr b (by simp[w])
    ·rcases fb b w with y | y
     ·exact fr b (by simp[y])
     ·exact scf.free y
  ·refine DL hlt ?_;exact⟨_,cs,bs,ts,rs,rfl,sc,fr,M,gg,lm,ek⟩
 ·rintro σ Hc ⟨uc,cs,bs,ts,rs,rfl,sc,fr,M,gg,lm,ek⟩;refine⟨_,rfl,_,rfl,_,rfl,R,T,cs,bs,ts,rs,c,rfl,M,gg,by omega,ek,λp ra ta n rs' us H' s' hp' hR' hT' N D=>?_⟩;exact q p ra ta n rs' us H' (sc.trans s') hp' hR' hT' N D
theorem QV{φ:Int->Int}{n:Nat}(PM:Fy φ n){i:Nat}(hi:i<n):(∀y∈BI φ (i:Int),(i:Int)<=y)↔(i:Int)∉(Aw φ i).flatten:=by
 have L:=Fh PM i (by omega);have hs:AH n (i:Int):=⟨by omega,by omega⟩;constructor
 ·intro h z;obtain⟨r,hr,hx⟩:=fV.mp z;obtain⟨s,hs',hlt,e,_⟩:=L.of r hr;subst e
  have:s∈BI φ (i:Int):=by
   obtain⟨k,hk⟩:=Pt PM hs' hx (Fi PM hs');rw[<-hk];clear hk
   induction k with
   | zero=>exact Fi PM hs
   | succ k ih=>exact RD PM hs ih
  have:=h s this
  omega
 ·intro q x hx;have ap:=Pn PM hs (λx hx h=>L.U5 PM hx h) q;rcases Int.lt_or_le x i with z | z
  ·exact absurd (L.all x (Ik PM hs hx).1 z) (ap x hx)
  ·exact z
theorem Vi{n:Nat}{ts:List (List Int)}(T:CC n ts){ms:List Int}(pm:ms.Perm ts.flatten)(so:ms.Pairwise (·<=·)):ms=(List.range n).map λi:Nat=>(i:Int):=by
 have so2:((List.range n).map λi:Nat=>(i:Int)).Pairwise (· < ·):=by
  rw[iM];exact i6 (λh=>by omega) List.pairwise_lt_range
 refine QP so so2 (pm.trans ?_);refine(List.perm_ext_iff_of_nodup T.nd (i6 (λh=>by omega) so2)).mpr λx=>?_
 rw[T.mem,fi];constructor
 ·rintro⟨h1,h2⟩;exact⟨x.toNat,gu.mpr (by omega),by omega⟩
 ·rintro⟨j,hj,rfl⟩
  have:=gu.mp hj
  exact⟨by omega,by omega⟩
inductive RF(vs:List V)(H:Hp)(Q:VK):Prop
 | mk (a:Addr) (bs:List Addr) (ts:List (List Int)) (n:Nat) (h_0:vs=[.ref a]) (h_1:HF H a bs ts) (h_2:CC n ts) (h_3:n<=40) (h_4:∀p cs H',AR H H'->H p=none->H' p=some (.AB (cs.map V.ref))->At BS H' cs (Aw (AL ts) n)->Q (.ref p) H'):RF vs H Q
def NC:Sp:=λvs H Q _=>RF vs H Q
theorem KO:A3 ["_law_turns","_law_ahead_here","_law_found","_law_start","_law_ring"] ["_law_turns"] (Ao s_law_lands):=BC
theorem Xc (F:Ar K "_law_lands" "_law_lands" s_law_lands f fd) (G1:AU P w K mg base 1 "_law_ahead" ["_law_turns"] Ij)
  (G2:AU P w K mg base 1 "_law_land" ["_law_ahead_here","_law_start"] (J8 0))
  (ms:mg "sorted" = none) (mn:mg "min" = none) (mt:mg "tuple" = none):An P w K mg base Ay 2 f fd ["_law_turns"] NC:=by
 refine F.BD KO λcdv A outer s H vs Q E hr h=>?_
 obtain⟨a,bs,ts,n,rfl,hT,T,hn,q⟩:=h;refine⟨_,AN (Aa (i:=1) KO.nd rfl (Or.inl rfl) (Ae G1 hr (AA (pv 0) AE)))
  (AN (Aa (i:=2) KO.nd rfl (Or.inl rfl) (CB AE))
  (AN (Bu fT rfl (Hn (K:=K) (A8 (Vs rfl) (by rfl) ms WT (AA (pv 1) AE))) (Ah (i:=3) KO.nd rfl (Or.inl rfl))
   (AN (Aa (i:=4) KO.nd rfl (Or.inl rfl) (Ae G2 hr (AA (pv 1) (AA (pv 3) AE))))
   (AV (BZ (BX EF (A8 (WQ rfl) (by rfl) mn So (AA (pv 4) AE)) (pv 3) (BM _))
    (AV (DB (C4 K gh gL gM Ds (pv 2) (AA (Cn (Fm (K:=K)) (by rfl) mt Cb (AA (pv 4) AE)) AE)))) Bp))))
  (AV (Am (pv 2))))),?_⟩
 have PM:=T.perm;refine⟨_,rfl,a,bs,ts,n,rfl,hT,T,by omega,λd H1 s1 nd hd=>?_⟩;refine⟨by exact FZ,λL hL=>?_⟩;obtain⟨H2,zg,sL,zz⟩:=nw hL (.AB []);rw[zg];have eL:H2 L=some (.AB (([]:List Addr).map V.ref)):=zz;have fL:H L=none:=s1.free hL;have dL:=sL _ _ hd;have s2:=s1.trans sL;have dL2:H2 d=some (.dK (((Aq ts).map λp=>(p.1,V.int p.2)).map λq=>(Sum.inl q.1,q.2))):=by rw[dL,gG]; rfl
 refine⟨_,rfl,d,(Aq ts).map (λp=>(p.1,V.int p.2)),rfl,dL2,by rw[ed,T.UQ]; omega,λS msv hS pm so=>?_⟩;have em:msv=(List.range n).map λi:Nat=>(i:Int):=by
  refine Vi T ?_ so;rw[gG] at pm;have e:((Aq ts).map ((λq:Int×V=>q.1) ∘ λp:Int×Int=>(p.1,V.int p.2)))=ts.flatten:=El ts;rw[e] at pm;exact pm
 subst em;have s3:=s2.trans (AY hS (.AB (((List.range n).map λi:Nat=>(i:Int)).map V.int)));have eS:(AF H2 S (.AB (((List.range n).map λi:Nat=>(i:Int)).map V.int))) S=some (.AB (((List.range n).map λi:Nat=>(i:Int)).map V.int)):=AS;have nLS:L≠S:=BL eL hS;have eL3:(AF H2 S (.AB (((List.range n).map λi:Nat=>(i:Int)).map V.int))) L=some (.AB (([]:List Addr).map V.ref)):=AY hS _ _ _ eL;have dL3:(AF H2 S (.AB (((List.range n).map λi:Nat=>(i:Int)).map V.int))) d=some (.dK (A7 (Aq ts))):=AY hS _ _ _ dL;generalize AF H2 S (.AB (((List.range n).map λi:Nat=>(i:Int)).map V.int))=H3 at s3 eS eL3 dL3;have dnL:d≠L:=BL hd hL;have nl:((List.range n).map λi:Nat=>(i:Int)).length=n:=by rw[ed,fK]
 refine⟨S,rfl,⟨_,AM.of eS⟩,?_⟩;refine Mc (xs:=((List.range n).map λi:Nat=>(i:Int)).map V.int) (λi σ H4=>∃u v cs,σ=[some (.ref a),some (.ref d),some (.ref L),u,v]/\AR H H4/\H4 S=some (.AB (((List.range n).map λi:Nat=>(i:Int)).map V.int))/\H4 d=some (.dK (A7 (Aq ts)))/\H4 L=some (.AB (cs.map V.ref))/\At BS H4 cs (Aw (AL ts) i))
  ⟨none,none,[],rfl,s3,eS,dL3,eL3,At.nil⟩ (λi σ H4 _ ⟨_,_,_,_,_,e4,_⟩=>AM.of e4) ?_ ?_
 ·rintro i x σ H4 hx ⟨u,v,cs,rfl,s4,eS4,ed4,eL4,a4⟩;obtain⟨z,rfl,hz⟩:=Ep hx;have hi:i<n:=by have:=(eu.mp hz).1; rw[nl] at this; exact this
  rw[fg,gA hi] at hz;obtain rfl:((i:Nat):Int)=z:=fC hz;have hs:AH n (i:Int):=⟨by omega,by omega⟩;have ll:=MR PM (i:=i) (by omega);refine⟨_,rfl,_,rfl,d,ts,n,(i:Int),by rw[Int.sub_zero]; rfl,by rw[dr]; exact ed4,T,hn,hs,λr H5 s5 nr hr5=>?_⟩;have em:((BI (AL ts) (i:Int)).map λx=>x-0)=BI (AL ts) (i:Int):=by
   conv=>rhs; rw[<-List.map_id (BI (AL ts) (i:Int))]
   exact ip λx _=>Int.sub_zero x
  rw[em] at hr5;have rs:=Fi PM hs;refine⟨_,rfl,r,_,rfl,hr5,iI rs,λm mm mle=>?_⟩;refine⟨_,rfl,rfl,_,rfl,?_⟩;by_cases hq:(i:Int)∈(Aw (AL ts) i).flatten
  ·refine DL (E6 λz=>?_) ?_
   ·subst z;exact(QV PM hi).mp mle hq
   ·rw[<-P6 hq] at a4;exact⟨_,_,cs,rfl,s4.trans s5,s5 _ _ eS4,s5 _ _ ed4,s5 _ _ eL4,a4.keep HM s5⟩
  ·have low:=(QV PM hi).mpr hq;refine DH (iv (by have:=mle _ rs; have:=low _ mm; omega)) ?_;refine⟨_,rfl,.inl ⟨rfl,_,AM.of (s5 _ _ eL4)⟩,_,rfl,r,_,rfl,.inl ⟨AM.of hr5,λtp htp=>?_⟩⟩;have s6:=AY htp (.AG ((BI (AL ts) (i:Int)).map V.int));have e6:BS (AF H5 tp (.AG ((BI (AL ts) (i:Int)).map V.int))) tp (BI (AL ts) (i:Int)):=AS;have s56:=s5.trans s6;refine⟨L,_,_,rfl,rfl,s56 _ _ eL4,by rw[ed,a4.1]; exact Ca (by omega),?_⟩;generalize AF H5 tp (.AG ((BI (AL ts) (i:Int)).map V.int))=H6 at s6 e6 s56;have nSd:S≠L:=iB nLS;refine⟨_,_,cs++[tp],rfl,(s4.trans s56).up fL _,by rw[Ad nSd]; exact s56 _ _ eS4,by rw[Ad dnL]; exact s56 _ _ ed4,by rw[AS]; simp,?_⟩;rw[Po hq];exact Vl (s56 _ _ eL4) ((a4.keep HM s56).snoc e6)
 ·rintro σ H4 ⟨u,v,cs,rfl,s4,eS4,ed4,eL4,a4⟩;rw[ed,nl] at a4;exact⟨_,rfl,q L cs H4 s4 fL eL4 a4⟩
open Wd
def D4(L:List (List Int))(x:Int):Nat:=L.findIdx λr=>decide (x∈r)
theorem Js{L:List (List Int)}{x:Int}(h:x∈L.flatten):∃r,L[D4 L x]?=some r/\x∈r:=by
 obtain⟨r,hr,hx⟩:=fV.mp h;have hl:D4 L x<L.length:=List.findIdx_lt_length_of_exists ⟨r,hr,jf hx⟩;exact⟨L[D4 L x],eh hl,of_decide_eq_true (List.findIdx_getElem (w:=hl))⟩
theorem UJ{L:List (List Int)}(nd:L.flatten.Nodup){i j:Nat}{r s:List Int}{x:Int}(h1:L[i]?=some r)(h2:L[j]?=some s)(hx:x∈r)(hy:x∈s):i=j:=by
 have pw:=(List.pairwise_flatten.mp nd).2;rw[List.pairwise_iff_getElem] at pw;obtain⟨l1,e1⟩:=eu.mp h1;obtain⟨l2,e2⟩:=eu.mp h2;rcases Nat.lt_trichotomy i j with z | z | z
 ·exact absurd rfl (pw i j l1 l2 z x (by rw[e1]; exact hx) x (by rw[e2]; exact hy))
 ·exact z
 ·exact absurd rfl (pw j i l2 l1 z x (by rw[e2]; exact hy) x (by rw[e1]; exact hx))
theorem RN{L:List (List Int)}(nd:L.flatten.Nodup){l:Nat}{r:List Int}{x:Int}(hl:L[l]?=some r)(hx:x∈r):D4 L x=l:=by
 obtain⟨r',h1,h2⟩:=Js (fV.mpr ⟨r,eQ hl,hx⟩);exact UJ nd h1 hl h2 hx
theorem Wi{us:List (List Int)}{n:Nat}(T:CC n us){x:Int}(hx:AH n x):D4 (Aw (AL us) n) (AL us x)=D4 (Aw (AL us) n) x:=by
 have P:=T.perm;obtain⟨r,h1,h2⟩:=Js ((IT P).mpr hx);obtain⟨j1,j2,_⟩:=K2 P (eQ h1);have h3:=h2;rw[j2] at h3
 have:=RD P j1 h3
 rw[<-j2] at this;exact RN (Jp P) h1 this
theorem K8:∀(L:List (List Int)) (i:Nat) (l:Nat) (r:List Int) (x:Int),L[l]?=some r->x∈r->(x,((i+l:Nat):Int))∈CH i L
 | [],i,l,r,x,h,_=>by cases l <;> cases h
 | c :: L,i,0,r,x,h,hx=>by cases h; exact fm.mpr (.inl (fi.mpr ⟨x,hx,by simp⟩))
 | c :: L,i,l+1,r,x,h,hx=>by
  have:=K8 L (i+1) l r x (by simpa using h) hx
  rw[show i+1+l=i+(l+1) by omega] at this;exact fm.mpr (.inr this)
theorem SX{L:List (List Int)}(nd:L.flatten.Nodup){x:Int}(h:x∈L.flatten):lk (CH 0 L) x=some ((D4 L x:Nat):Int):=by
 obtain⟨r,h1,h2⟩:=Js h
 have:=K8 L 0 _ r x h1 h2
 rw[Nat.zero_add] at this;exact OV (by rw[E9]; exact nd) this
def Dj(rs:List AQ)(Y:Nat->Rat)(x:Int):Rat :=
 match rs[(x / 2).toNat]? with
 | some r=>if x % 2=0 then Al Y r else-Al Y r
 | none=>if x % 2=0 then-BB Y rs 0 else BB Y rs 0
theorem QM{rs:List AQ}{Y:Nat->Rat}{k:Nat}{r:AQ}(h:rs[k]?=some r):Dj rs Y (2*(k:Int))=Al Y r:=by
 unfold Dj;rw[show(2*(k:Int) / 2).toNat=k by omega,h];show(if 2*(k:Int) % 2=0 then Al Y r else _)=_;rw[ff (by omega)]
theorem Xu{rs:List AQ}{Y:Nat->Rat}{k:Nat}{r:AQ}(h:rs[k]?=some r):Dj rs Y (2*(k:Int)+1)=- Al Y r:=by
 unfold Dj;rw[show((2*(k:Int)+1) / 2).toNat=k by omega,h];show(if (2*(k:Int)+1) % 2=0 then _ else-Al Y r)=_;rw[eZ (by omega)]
theorem Zc(rs:List AQ)(Y:Nat->Rat):Dj rs Y (2*(rs.length:Int))=- BB Y rs 0:=by
 unfold Dj;rw[show(2*(rs.length:Int) / 2).toNat=rs.length by omega,gU (eU _)];show(if 2*(rs.length:Int) % 2=0 then-BB Y rs 0 else _)=_;rw[ff (by omega)]
theorem YV(rs:List AQ)(Y:Nat->Rat):Dj rs Y (2*(rs.length:Int)+1)=BB Y rs 0:=by
 unfold Dj;rw[show((2*(rs.length:Int)+1) / 2).toNat=rs.length by omega,gU (eU _)];show(if (2*(rs.length:Int)+1) % 2=0 then _ else BB Y rs 0)=_;rw[eZ (by omega)]
theorem Wg(rs:List AQ)(Y:Nat->Rat)(x:Int):Dj rs Y (oth x)=- Dj rs Y x:=by
 unfold Dj oth;by_cases e:x % 2=0
 ·rw[ff e,show(x+1) / 2=x / 2 by omega];cases rs[(x / 2).toNat]? with
  | none=>show(if (x+1) % 2=0 then-BB Y rs 0 else BB Y rs 0)=- (if x % 2=0 then-BB Y rs 0 else BB Y rs 0); rw[ff e,eZ (by omega)]; grind
  | some r=>show(if (x+1) % 2=0 then Al Y r else-Al Y r)=- (if x % 2=0 then Al Y r else-Al Y r); rw[ff e,eZ (by omega)]
 ·rw[eZ e,show(x-1) / 2=x / 2 by omega];cases rs[(x / 2).toNat]? with
  | none=>show(if (x-1) % 2=0 then-BB Y rs 0 else BB Y rs 0)=- (if x % 2=0 then-BB Y rs 0 else BB Y rs 0); rw[eZ e,ff (by omega)]
  | some r=>show(if (x-1) % 2=0 then Al Y r else-Al Y r)=- (if x % 2=0 then Al Y r else-Al Y r); rw[eZ e,ff (by omega)]; grind
theorem K0(f:Int->Rat)(hs:List Nat)(q p:Nat):((D0 (hs++[q]) p).map f).sum=((D0 hs p).map f).sum+if p=q then f (hs.length:Int) else 0:=by
 rw[Vx];by_cases e:q=p
 ·rw[ff e,ff e.symm,fv,List.sum_append]; simp; grind
 ·rw[eZ e,eZ (λz=>e z.symm)]; grind
theorem Qv{rs:List AQ}{Y:Nat->Rat}(p:Nat):∀j,j<=rs.length->((D0 (CI (rs.take j)) p).map (Dj rs Y)).sum=BB Y (rs.take j) p
 | 0,_=>by simp[CI,D0,BB]
 | j+1,hj=>by
  have e:rs[j]?=some rs[j]:=eh hj;have l1:(CI (rs.take j)).length=2*j:=by rw[Ea,g9]; omega
  rw[MY e,Dr e,K4,K0,K0,Qv p j (by omega),fj,l1];have e1:=QM (Y:=Y) e;have e2:=Xu (Y:=Y) e;rw[show((2*j:Nat):Int)=2*(j:Int) by omega,show((2*j + [rs[j].1].length:Nat):Int)=2*(j:Int)+1 by simp,e1,e2];unfold Cd;split <;> split <;> grind
structure UX(rs:List AQ)(ts:List (List Int))(Y:Nat->Rat)(p:Int->Rat):Prop where
 inv:∀x,AH (2*rs.length+2) x->p (AL ts x)=p x
 df:∀(k:Nat) (r:AQ),rs[k]?=some r->p (2*(k:Int))-p (2*(k:Int)+1)=Al Y r
 o:p (2*(rs.length:Int))=0
theorem Zt{n:Nat}{rs:List AQ}{ts:List (List Int)}{Y:Nat->Rat}(k:NetV (n+2) rs ts)(po:CK ts (2*rs.length+2))(hb:∀i,2<=i->i<n+2->BB Y rs i=0):∃p,UX rs ts Y p:=by
 have two:∀r∈rs,r.1<n+2/\r.2.1<n+2:=λr hr=>(k.ease r hr).2
 obtain⟨p,i1,d1⟩:=po (Dj rs Y) (λx _=>Wg rs Y x) (λt ht=>by
  obtain⟨i,hi,e⟩:=fP ht;have hp:=k.perm (show ts[i]?=some t by rw[eh hi,e]);rw[Ky (hp.map (Dj rs Y))];show((D0 (CI rs++[0,1]) i).map (Dj rs Y)).sum=0;rw[show CI rs++[0,1]=CI rs++[0]++[1] by simp,K0,K0,fj,Ea];have s:=Qv (rs:=rs) (Y:=Y) i rs.length (eU _);rw[iG] at s;rw[s,show((2*rs.length:Nat):Int)=2*(rs.length:Int) by omega,show((2*rs.length + [0].length:Nat):Int)=2*(rs.length:Int)+1 by simp,Zc,YV];have po:=V9 two hb;rw[k.len] at hi
  match i,hi with
  | 0,_=>simp; grind
  | 1,_=>simp; grind
  | i+2,hi=>rw[hb (i+2) (by omega) hi,eZ (by omega),eZ (by omega)]; grind)
 refine⟨λx=>p x-p (2*(rs.length:Int)),λx hx=>?_,λj r hj=>?_,?_⟩
 ·show p _-_=p _-_;rw[i1 x hx]
 ·have hl:=(eu.mp hj).1
  have:=d1 (2*(j:Int)) ⟨by omega,by push_cast; omega⟩
  rw[show oth (2*(j:Int))=2*(j:Int)+1 by unfold oth; rw[ff (by omega)],QM hj] at this;show p _-_-(p _-_)=_
  grind
 ·show p _-p _=0
  grind
def C9(ts:List (List Int))(n:Nat)(p:Int->Rat)(j:Int):Rat:=p (((Aw (AL ts) n).getD j.toNat []).headD 0)
theorem YF{ts:List (List Int)}{n:Nat}{p:Int->Rat}(T:CC n ts)(inv:∀x,AH n x->p (AL ts x)=p x){x:Int}(hx:AH n x):C9 ts n p ((D4 (Aw (AL ts) n) x:Nat):Int)=p x:=by
 have P:=T.perm;obtain⟨r,h1,h2⟩:=Js ((IT P).mpr hx);obtain⟨j1,j2,_⟩:=K2 P (eQ h1);unfold C9;rw[ie,eO,h1];show p (r.headD 0)=p x;rw[j2] at h2;obtain⟨k,_,e⟩:=D8.mp h2;rw[<-e];exact(Ng P j1 inv k).symm
theorem R5{ts:List (List Int)}{n:Nat}(T:CC n ts){x:Int}(hx:AH n x):D4 (Aw (AL ts) n) x<(Aw (AL ts) n).length:=by
 obtain⟨r,h1,_⟩:=Js ((IT T.perm).mpr hx);exact(eu.mp h1).1
theorem P8{ts:List (List Int)}{n:Nat}(T:CC n ts){j:Nat}(hj:j<(Aw (AL ts) n).length):∃x,AH n x/\D4 (Aw (AL ts) n) x=j:=by
 have h1:(Aw (AL ts) n)[j]?=some (Aw (AL ts) n)[j]:=eh hj;obtain⟨j1,j2,_⟩:=K2 T.perm (eQ h1);refine⟨_,j1,RN (Jp T.perm) h1 ?_⟩
 have:=Fi T.perm j1
 rw[<-j2] at this;exact this
def Lu(ts:List (List Int))(m:Nat):Prop:=∀S:Int->Prop,(∀x,AH (2*m+2) x->(S x↔S (AL ts x)))->(∀k:Nat,k<m->(S (2*(k:Int))↔S (2*(k:Int)+1)))->S (2*(m:Int))->∀x,AH (2*m+2) x->S x
theorem _root_.Mth.Kd.J9{ts:List (List Int)}{m:Nat}(D:Kd (AL ts) m):Lu ts m:=λS h1 h2 h0 x hx=>by
 by_cases z:S (2*(m:Int)+1)
 ·exact D.DN S h1 h2 z x hx
 ·have:=D.DN (λx=>¬S x) (λx hx=>not_congr (h1 x hx)) (λk hk=>not_congr (h2 k hk)) z (2*(m:Int)) ⟨by omega,by push_cast; omega⟩
  exact absurd h0 this
structure Lw(n:Nat)(rs:List AQ)(ts:List (List Int)):Prop extends NetV n rs ts where
 J9:Lu ts rs.length
 PH:CK ts (2*rs.length+2)
theorem NetV.q{n:Nat}{rs:List AQ}{ts:List (List Int)}(k:NetV n rs ts)(D:Kn ts rs.length):Lw n rs ts:=⟨k,D.du.J9,D.po⟩
end
end My
namespace My
open PySem L2 Mth Wd
abbrev B9(l:List (Int×Addr)):List (AX×V):=l.map λp=>(Sum.inl p.1,V.ref p.2)
theorem Ek{e:Int}:∀{l:List (Int×Addr)},e∉l.map (·.1)->CU (B9 l) (Sum.inl e:AX)=none
 | [],_=>rfl
 | p :: l,h=>by
  show CU ((Sum.inl p.1,V.ref p.2) :: B9 l) (Sum.inl e:AX)=_;rw[HL (p:=((Sum.inl p.1:AX),V.ref p.2)) (λz=>h (by rw[<-Sum.inl.inj z]; simp)),Ek (λz=>h (by simp only[fk]; exact gJ _ z))]
theorem Jy{e:Int}:∀{l:List (Int×Addr)},e∈l.map (·.1)->∃a,(e,a)∈l/\CU (B9 l) (Sum.inl e:AX)=some (.ref a)
 | p :: l,h=>by
  show ∃a,(e,a)∈p :: l/\CU ((Sum.inl p.1,V.ref p.2) :: B9 l) (Sum.inl e:AX)=some (.ref a);by_cases z:p.1=e
  ·exact⟨p.2,by rw[<-z]; exact ir ..,by rw[IW (p:=((Sum.inl p.1:AX),V.ref p.2)) (by rw[z])]⟩
  ·have hm:e∈l.map (·.1):=by
    rw[fk] at h;rcases fE.mp h with y | y
    ·exact absurd y.symm z
    ·exact y
   obtain⟨a,h1,h2⟩:=Jy hm;exact⟨a,gJ _ h1,by rw[HL (p:=((Sum.inl p.1:AX),V.ref p.2)) (λy=>z (Sum.inl.inj y))]; exact h2⟩
theorem R6{l:List (Int×Addr)}{e:Int}{a:Addr}(h:e∉l.map (·.1)):Bw (B9 l) (Sum.inl e:AX) (.ref a)=B9 (l++[(e,a)]):=by
 rw[Nm (Ek h)];simp
structure Bd(H:Hp)(L:Nat)(P:Int->Rat)(Z:Int)(N:Nat)(l:List (Int×Addr)):Prop where
 nd:(l.map (·.1)).Nodup
 inn:∀q∈l,AH L q.1
 fr:∀q∈l,AO H q.2 (P q.1)/\Uw Z N l.length (P q.1)
section
variable {H H':Hp} {L:Nat} {P:Int->Rat} {Z:Int} {N:Nat} {l:List (Int×Addr)}
theorem Bd.keep(k:Bd H L P Z N l)(s:AR H H'):Bd H' L P Z N l:=⟨k.nd,k.inn,λq hq=>⟨AZ s (k.fr q hq).1,(k.fr q hq).2⟩⟩
theorem Bd.Ls{d:Addr}{kv:List (AX×V)}(k:Bd H L P Z N l)(hd:H d=some (.dK kv))(o:HO):Bd (AF H d o) L P Z N l:=⟨k.nd,k.inn,λq hq=>⟨by
 have h:H q.2=_:=(k.fr q hq).1;show AF H d o q.2=_;rw[Ad (λz=>by rw[z,hd] at h; cases h)];exact h,(k.fr q hq).2⟩⟩
theorem Bd.len(k:Bd H L P Z N l):l.length<=L:=by
 have:=Ge L (l.map (·.1)) k.nd (λx hx=>by
  obtain⟨q,hq,rfl⟩:=fi.mp hx;exact k.inn q hq)
 rwa [ed] at this
theorem Bd.Af{e:Int}{a:Addr}(he:AH L e)(h:AO H a 0)(hP:P e=0):Bd H L P Z N [(e,a)]:=by
 refine⟨by simp,λq hq=>?_,λq hq=>?_⟩
 ·rw[fQ.mp hq]; exact he
 ·rw[fQ.mp hq,hP]; exact⟨h,(Uw.zero Z N).mono (by omega)⟩
theorem Bd.DS(k:Bd H L P Z N l){e:Int}{a:Addr}(hn:e∉l.map (·.1))(he:AH L e)(h:AO H a (P e))(u:Uw Z N (l.length+1) (P e)):Bd H L P Z N (l++[(e,a)]):=by
 refine⟨?_,λq hq=>?_,λq hq=>?_⟩
 ·rw[fv,iD];refine⟨k.nd,by simp,λx hx y hy=>?_⟩;simp only[fk,gY,fQ] at hy;subst hy;exact λz=>hn (z ▸ hx)
 ·rcases fm.mp hq with z | z
  ·exact k.inn q z
  ·rw[fQ.mp z]; exact he
 ·rw[fj];rcases fm.mp hq with z | z
  ·exact⟨(k.fr q z).1,(k.fr q z).2.mono (by simp)⟩
  ·rw[fQ.mp z]; exact⟨h,u⟩
theorem Bd.all(k:Bd H L P Z N l)(h:L<=l.length){e:Int}(he:AH L e):e∈l.map (·.1):=by
 by_cases z:e∈l.map (·.1)
 ·exact z
 ·have:=Ge L (e :: l.map (·.1)) (ig.mpr ⟨z,k.nd⟩) (λx hx=>by
   rcases fE.mp hx with rfl | hx
   ·exact he
   ·obtain⟨q,hq,rfl⟩:=fi.mp hx;exact k.inn q hq)
  rw[gq,ed] at this;omega
end
def D3(ts:List (List Int))(n:Nat):List Int:=(List.range n).map λe:Nat=>((D4 (Aw (AL ts) n) (e:Int):Nat):Int)
theorem Zp{ts:List (List Int)}{n:Nat}(T:CC n ts):((List.range n).map λe:Nat=>(lk (CH 0 (Aw (AL ts) n)) (e:Int)).getD 0)=D3 ts n:=by
 unfold D3;refine ip λe he=>?_
 have:=gu.mp he
 rw[SX (Jp T.perm) ((IT T.perm).mpr ⟨by omega,by omega⟩)];rfl
theorem S3{ts:List (List Int)}{n e:Nat}(h:e<n):B7 ((D3 ts n).map V.int) ((e:Nat):Int)=some (.int ((D4 (Aw (AL ts) n) (e:Int):Nat):Int)) :=
 BF (Nx (by unfold D3; rw[fg,gA h]; rfl))
theorem Za(ts:List (List Int))(n:Nat):(D3 ts n).length=n:=by unfold D3; rw[ed,fK]
theorem ZN{ts:List (List Int)}{n:Nat}(T:CC n ts){x:Int}(hx:x∈D3 ts n)(h:∀a∈D3 ts n,a<=x):x=((Aw (AL ts) n).length:Int)-1:=by
 have mm:∀e,AH n e->((D4 (Aw (AL ts) n) e:Nat):Int)∈D3 ts n:=λe he=>by
  unfold D3;exact fi.mpr ⟨e.toNat,gu.mpr (by have:=he.1; have:=he.2; omega),by rw[show((e.toNat:Nat):Int)=e by have:=he.1; omega]⟩
 unfold D3 at hx;obtain⟨e,he,rfl⟩:=fi.mp hx
 have:=gu.mp he
 have l1:=R5 T (x:=(e:Int)) ⟨by omega,by omega⟩;obtain⟨y,hy,ey⟩:=P8 T (j:=(Aw (AL ts) n).length-1) (by omega)
 have:=h _ (mm y hy)
 rw[ey] at this;omega
structure Uy(rs:List AQ)(Y:Nat->Rat)(Z:Int)(N:Nat):Prop where
 z0:Z≠0
 zl:Z.natAbs<=2 ^ 3900
 nl:N+6<=3900
 ru:∀r∈rs,Uw Z N 1 (Al Y r)
structure De(rs:List AQ)(ts:List (List Int))(Y:Nat->Rat)(p:Int->Rat)(Z:Int)(N:Nat):Prop where
 m14:rs.length<=14
 tn:CC (2*rs.length+2) ts
 hg:Lu ts rs.length
 pp:UX rs ts Y p
 wd:Uy rs Y Z N
abbrev Aj(rs:List AQ)(ts:List (List Int))(x:Int):Int:=((D4 (Aw (AL ts) (2*rs.length+2)) x:Nat):Int)
abbrev BV(rs:List AQ)(ts:List (List Int)):Nat:=(Aw (AL ts) (2*rs.length+2)).length
section
variable {rs:List AQ} {ts:List (List Int)} {Y:Nat->Rat} {p:Int->Rat} {Z:Int} {N:Nat} {H:Hp} {l:List (Int×Addr)}
theorem De.in(D:De rs ts Y p Z N){x:Int}(hx:AH (2*rs.length+2) x):AH (BV rs ts) (Aj rs ts x):=⟨by unfold Aj; omega,by unfold Aj BV; have:=R5 D.tn hx; omega⟩
theorem De.le(D:De rs ts Y p Z N):BV rs ts<=30:=by
 have:=(MR D.tn.perm (eU _)).2
 have:=D.m14
 unfold BV;omega
theorem De.at(D:De rs ts Y p Z N){x:Int}(hx:AH (2*rs.length+2) x):C9 ts (2*rs.length+2) p (Aj rs ts x)=p x:=YF D.tn D.pp.inv hx
theorem De.sf(D:De rs ts Y p Z N){c:Nat}{q:Rat}(h:Uw Z N c q)(hc:c<=64):Sf q:=h.sf D.wd.z0 D.wd.zl hc D.wd.nl
theorem De.full (D:De rs ts Y p Z N) (k:Bd H (BV rs ts) (C9 ts (2*rs.length+2) p) Z N l) (h0:Aj rs ts (2*(rs.length:Int))∈l.map (·.1))
  (cl:∀j:Nat,j<rs.length->(Aj rs ts (2*(j:Int))∈l.map (·.1)↔Aj rs ts (2*(j:Int)+1)∈l.map (·.1))):BV rs ts<=l.length:=by
 have all:=D.hg (λx=>Aj rs ts x∈l.map (·.1)) (λx hx=>by rw[show Aj rs ts (AL ts x)=Aj rs ts x by unfold Aj; rw[Wi D.tn hx]]) cl h0
 have:=LA ((List.range (BV rs ts)).map λj:Nat=>(j:Int)) (l.map (·.1)) (by
  rw[List.Nodup,iM];exact i6 (λh e=>h (by omega)) List.nodup_range) (λx hx=>by
  obtain⟨j,hj,rfl⟩:=fi.mp hx;obtain⟨y,hy,ey⟩:=P8 D.tn (gu.mp hj)
  have:=all y hy
  unfold Aj at this
  rwa [ey] at this)
 rwa [ed,ed,fK] at this
theorem De.step(D:De rs ts Y p Z N)(k:Bd H (BV rs ts) (C9 ts (2*rs.length+2) p) Z N l){j:Nat}{r:AQ}(hj:rs[j]?=some r):
  (Aj rs ts (2*(j:Int)+1)∈l.map (·.1)->∃a,(Aj rs ts (2*(j:Int)+1),a)∈l/\CU (B9 l) (Sum.inl (Aj rs ts (2*(j:Int)+1)):AX)=some (.ref a)/\AO H a (p (2*(j:Int)+1))/\Sf (p (2*(j:Int)+1)) /\
   (Aj rs ts (2*(j:Int))∉l.map (·.1)->∀b H',AR H H'->AO H' b (p (2*(j:Int)+1)+Al Y r)->Bd H' (BV rs ts) (C9 ts (2*rs.length+2) p) Z N (l++[(Aj rs ts (2*(j:Int)),b)]))) /\
  (Aj rs ts (2*(j:Int))∈l.map (·.1)->∃a,(Aj rs ts (2*(j:Int)),a)∈l/\CU (B9 l) (Sum.inl (Aj rs ts (2*(j:Int))):AX)=some (.ref a)/\AO H a (p (2*(j:Int)))/\Sf (p (2*(j:Int))) /\
   (Aj rs ts (2*(j:Int)+1)∉l.map (·.1)->∀b H',AR H H'->AO H' b (p (2*(j:Int))-Al Y r)->Bd H' (BV rs ts) (C9 ts (2*rs.length+2) p) Z N (l++[(Aj rs ts (2*(j:Int)+1),b)]))):=by
 have jl:=(eu.mp hj).1;have i0:AH (2*rs.length+2) (2*(j:Int)):=⟨by omega,by push_cast; omega⟩;have i1:AH (2*rs.length+2) (2*(j:Int)+1):=⟨by omega,by push_cast; omega⟩;have df:=D.pp.df j r hj;have ru:=D.wd.ru r (eQ hj);have kl:=k.len;have L30:=D.le;constructor
 ·intro h;obtain⟨a,h1,h2⟩:=Jy h;obtain⟨f1,f2⟩:=k.fr _ h1;dsimp only at f1 f2;rw[D.at i1] at f1 f2;refine⟨a,h1,h2,f1,D.sf f2 (by omega),λhn b H' s hb=>?_⟩;have e:p (2*(j:Int)+1)+Al Y r=p (2*(j:Int)):=by grind
  refine(k.keep s).DS hn (D.in i0) ?_ ?_
  ·rw[D.at i0,<-e]; exact hb
  ·rw[D.at i0,<-e]; exact f2.DS ru
 ·intro h;obtain⟨a,h1,h2⟩:=Jy h;obtain⟨f1,f2⟩:=k.fr _ h1;dsimp only at f1 f2;rw[D.at i0] at f1 f2;refine⟨a,h1,h2,f1,D.sf f2 (by omega),λhn b H' s hb=>?_⟩;have e:p (2*(j:Int))-Al Y r=p (2*(j:Int)+1):=by grind
  refine(k.keep s).DS hn (D.in i1) ?_ ?_
  ·rw[D.at i1,<-e]; exact hb
  ·rw[D.at i1,<-e]; exact f2.sub ru
end
def Kg(x y:Rat):Rat:=if y<x then y else x
def Kk(x y:Rat):Rat:=if y<x then x else y
theorem NR{rs:List AQ}{ts:List (List Int)}{j:Nat}(h:j<=rs.length):B7 ((D3 ts (2*rs.length+2)).map V.int) (2*(j:Int))=some (.int (Aj rs ts (2*(j:Int)))):=by
 have:=S3 (ts:=ts) (n:=2*rs.length+2) (e:=2*j) (by omega)
 rwa [show((2*j:Nat):Int)=2*(j:Int) by omega] at this
theorem NO{rs:List AQ}{ts:List (List Int)}{j:Nat}(h:j<=rs.length):B7 ((D3 ts (2*rs.length+2)).map V.int) (2*(j:Int)+1)=some (.int (Aj rs ts (2*(j:Int)+1))):=by
 have:=S3 (ts:=ts) (n:=2*rs.length+2) (e:=2*j+1) (by omega)
 rwa [show((2*j+1:Nat):Int)=2*(j:Int)+1 by omega] at this
section
variable {P:Program} {w:World} {K:PySem.W.Frag} {mg:Str->Option Value} {base:Heap} {f g h f1 f2 f3 f4 f5:Addr} {fd gd hd d1 d2 d3 d4 d5:FuncData}
inductive Ri(vs:List V)(H:Hp)(Q:VK):Prop
 | mk (p q:Addr) (x y:Rat) (h_0:vs=[.ref p,.ref q]) (h_1:AO H p x) (h_2:AO H q y) (h_3:Sf x) (h_4:Sf y) (h_5:Q (.bl (decide (x<y))) H):Ri vs H Q
def Iz:Sp:=λvs H Q _=>Ri vs H Q
theorem ao:A3 ["one","other"] ["one","other"] (Ao s_less):=BC
theorem Yi(F:Ar K "less" "less" s_less f fd):An P w K mg base Ay 1 f fd ["one","other"] Iz:=by
 refine F.BD ao λcdv A outer s H vs Q E hr h=>?_
 obtain⟨p,q,x,y,rfl,hp,hq,sx,sy,k⟩:=h;refine⟨_,AV (Am (HX Ht (AK CA (pT K (pv 0) AD) (pT K (pv 1) AD)) (AK CA (pT K (pv 1) AD) (pT K (pv 0) AD)) (BM _))),?_⟩;rw[show decide (x<y)=decide (x.num*(y.den:Int)<y.num*(x.den:Int)) from decide_eq_decide.mpr (Rat.lt_iff x y)] at k;exact⟨_,rfl,p,_,_,_,rfl,rfl,AJ.of hp,A9,_,rfl,q,_,_,_,rfl,rfl,AJ.of hq,As,_,_,rfl,rfl,⟨sx.n,sy.d⟩,_,rfl,q,_,_,_,rfl,rfl,AJ.of hq,A9,_,rfl,p,_,_,_,rfl,rfl,AJ.of hp,As,_,_,rfl,rfl,⟨sy.n,sx.d⟩,_,_,rfl,rfl,k⟩
inductive TX(vs:List V)(H:Hp)(Q:VK):Prop
 | mk (p q:Addr) (x y:Rat) (h_0:vs=[.ref p,.ref q]) (h_1:AO H p x) (h_2:AO H q y) (h_3:Sf x) (h_4:Sf y) (h_5:∀t a b,H t=none->AO H a (Kg x y)->AO H b (Kk x y)->Q (.ref t) (AF H t (.AG [.ref a,.ref b]))):TX vs H Q
def JD:Sp:=λvs H Q _=>TX vs H Q
theorem c8:A3 ["one","other"] ["one","other"] (Ao s_rising):=BC
theorem WZ(F:Ar K "rising" "rising" s_rising f fd)(G:AU P w K mg base 1 "less" ["one","other"] Iz):An P w K mg base Ay 2 f fd ["one","other"] JD:=by
 refine F.BD c8 λcdv A outer s H vs Q E hr h=>?_
 obtain⟨p,q,x,y,rfl,hp,hq,sx,sy,k⟩:=h;refine⟨_,AV (Am (Qy (FH (Ae G hr (AA (pv 1) (AA (pv 0) AE)))) (BP (AA (pv 1) (AA (pv 0) AE))) (BP (AA (pv 0) (AA (pv 1) AE))))),?_⟩;refine⟨_,rfl,_,rfl,q,p,y,x,rfl,hq,hp,sy,sx,_,rfl,?_⟩;unfold Kg Kk at k;by_cases z:y<x
 ·rw[ff z,ff z] at k;exact DH z ⟨_,rfl,_,rfl,by exact Bh,λt ht=>k t q p ht hq hp⟩
 ·rw[eZ z,eZ z] at k;exact DL z ⟨_,rfl,_,rfl,by exact Bh,λt ht=>k t p q ht hp hq⟩
inductive RH(vs:List V)(H:Hp)(Q:VK):Prop
 | mk (a b:Addr) (rs:List AQ) (ts:List (List Int)) (Y:Nat->Rat) (p:Int->Rat) (Z:Int) (N:Nat) (h_0:vs=[.ref a,.ref b]) (h_1:H a=some (.AG ((D3 ts (2*rs.length+2)).map V.int))) (h_2:Az AO H b (rs.map (Al Y))) (h_3:De rs ts Y p Z N)
  (h_4:∀d l H',AR H H'->H' d=some (.dK (B9 l))->Bd H' (BV rs ts) (C9 ts (2*rs.length+2) p) Z N l->BV rs ts<=l.length->Q (.ref d) H'):RH vs H Q
def NX:Sp:=λvs H Q _=>RH vs H Q
theorem IB:A3 ["lands","widths","outer","sides","k","width","right","left"] ["lands","widths"] (Ao s_land_sides):=BC
seal L2.CW L2.PS L2.PE L2.PA in
theorem YB (F:Ar K "land_sides" "land_sides" s_land_sides f fd) (G1:AU P w K mg base 3 "plus" ["one","other"] (Bm λx y=>x+y))
  (G2:AU P w K mg base 3 "minus" ["one","other"] (Bm λx y=>x-y)) (ml:mg "len" = none) (mx:mg "max" = none) (me:mg "enumerate" = none):An P w K mg base Ay 4 f fd ["lands","widths"] NX:=by
 refine F.BD IB λcdv A outer s H vs Q E hr h=>?_
 obtain⟨a,b,rs,ts,Y,p,Z,N,rfl,ha,⟨bs,hb,hB⟩,D,q⟩:=h;have hu:=Eu hr;refine⟨_,AN (Aa (i:=2) IB.nd rfl (Or.inl rfl) (A8 (Bs (K:=K)) (by rfl) ml BR (AA (pv 1) AE)))
  (AN (Aa (i:=3) IB.nd rfl (Or.inl rfl) (Nd (Kz (pT K (pv 0) (AK Bt AD (pv 2))) (BP (AA AD (AA AD AE))) NU) rfl rfl (λz=>by cases z) (by decide)))
  (AN (Ie fT (BX bf (A8 MW (by rfl) ml BR (AA (pv 3) AE)) (A8 (Wt rfl) (by rfl) mx aP (AA (pv 0) AE)) (BM _))
   (AV (Bu fT rfl (HW (by rfl) me (AA (pv 1) AE)) (DZ (n:=2) (K:=K) rfl (BE (Ah (i:=4) IB.nd rfl (Or.inl rfl)) (BE (Ah (i:=5) IB.nd rfl (Or.inl rfl)) CO)))
    (AN (Aa (i:=6) IB.nd rfl (Or.inl rfl) (pT K (pv 0) (AK Bt AD (pv 4))))
    (AN (Aa (i:=7) IB.nd rfl (Or.inl rfl) (pT K (pv 0) (AK BH (AK Bt AD (pv 4)) AD)))
    (AV (BZ (PW.pt (LS (Fq (LU hu (pv 7) (pv 3))) (LG (Fq (Jg hu (pv 6) (pv 3))))))
     (AV (EZ hu (pv 3) (pv 6) (Ae G1 hr (AA (DE hu (pv 3) (pv 7) (λ_ _=>rfl)) (AA (pv 5) AE))) rfl))
     (AV (BZ (PW.pt (LS (Fq (LU hu (pv 6) (pv 3))) (LG (Fq (Jg hu (pv 7) (pv 3))))))
      (AV (EZ hu (pv 3) (pv 7) (Ae G2 hr (AA (DE hu (pv 3) (pv 6) (λ_ _=>rfl)) (AA (pv 5) AE))) rfl)) Bp)))))))))
  (AV (Am (pv 3))))),?_⟩
 have m14:=D.m14;have lb:bs.length=rs.length:=by rw[hB.1,ed]
 have i0:AH (2*rs.length+2) (2*(rs.length:Int)):=⟨by omega,by push_cast; omega⟩;refine⟨_,rfl,b,_,rfl,.inr (AJ.of hb),?_⟩;rw[ed,lb];intro d hd;obtain⟨H1,zg,s1,e1⟩:=nw hd (.dK []);rw[zg];refine⟨_,rfl,_,rfl,_,_,rfl,rfl,.inl ⟨by decide,by decide⟩,a,_,_,_,rfl,rfl,AJ.of (s1 _ _ ha),NR (eU _),by exact Bh,λz hz=>?_⟩;obtain⟨H2,zg,s2,zz⟩:=nw hz (.AG [.int 0,.int 1]);rw[zg];have fz:AO H2 z 0:=zz;have e2:=s2 _ _ e1;refine⟨e2,[(Sum.inl (Aj rs ts (2*(rs.length:Int))),.ref z)],rfl,by show 1<=15; decide,?_⟩;have s3:AR H (AF H2 d (.dK (Dx [] [((Sum.inl (Aj rs ts (2*(rs.length:Int))):AX),V.ref z)]))):=(s1.trans s2).up hd _;have e3:(AF H2 d (.dK (Dx [] [((Sum.inl (Aj rs ts (2*(rs.length:Int))):AX),V.ref z)]))) d=some (.dK (B9 [(Aj rs ts (2*(rs.length:Int)),z)])):=AS;have k3:Bd (AF H2 d (.dK (Dx [] [((Sum.inl (Aj rs ts (2*(rs.length:Int))):AX),V.ref z)]))) (BV rs ts) (C9 ts (2*rs.length+2) p) Z N [(Aj rs ts (2*(rs.length:Int)),z)] :=
  (Bd.Af (D.in i0) fz (by rw[D.at i0]; exact D.pp.o)).Ls e2 _
 generalize AF H2 d (.dK (Dx [] [((Sum.inl (Aj rs ts (2*(rs.length:Int))):AX),V.ref z)]))=H3 at s3 e3 k3;have ad:a≠d:=λz=>by rw[z,hd] at ha; cases ha
 have bd:b≠d:=λz=>by rw[z,hd] at hb; cases hb
 refine Ic (λσ H4=>∃l u1 u2 u3 u4,σ=[some (.ref a),some (.ref b),some (.int (rs.length:Int)),some (.ref d),u1,u2,u3,u4]/\AR H H4/\H4 d=some (.dK (B9 l))/\Bd H4 (BV rs ts) (C9 ts (2*rs.length+2) p) Z N l/\Aj rs ts (2*(rs.length:Int))∈l.map (·.1))
  (λ_ H4=>match H4 d with | some (.dK kv)=>BV rs ts-kv.length | _=>0) ⟨_,none,none,none,none,rfl,s3,e3,k3,by simp⟩ ?_ ?_
 ·rintro σ H4 ⟨l,u1,u2,u3,u4,rfl,s4,hd4,k4,c4⟩;refine⟨_,rfl,d,_,rfl,hd4,_,rfl,a,_,rfl,s4 _ _ ha,by rw[Za]; omega,λx hx mx'=>?_⟩;rw[ZN D.tn hx mx',ed];refine⟨_,_,rfl,rfl,_,rfl,?_⟩;by_cases hlt:(l.length:Int)<=(BV rs ts:Int)-1
  ·refine DH hlt ?_;refine⟨_,rfl,b,_,rfl,s4 _ _ hb,?_⟩;refine Ig (xs:=bs.map V.ref) (λi σ H5=>∃l' u1 u2 u3 u4,σ=[some (.ref a),some (.ref b),some (.int (rs.length:Int)),some (.ref d),u1,u2,u3,u4]/\AR H H5/\H5 d=some (.dK (B9 l'))/\Bd H5 (BV rs ts) (C9 ts (2*rs.length+2) p) Z N l'/\Aj rs ts (2*(rs.length:Int))∈l'.map (·.1)/\l.length<=l'.length /\
     (l'.length=l.length->l'=l/\∀j:Nat,j<i->(Aj rs ts (2*(j:Int))∈l.map (·.1)↔Aj rs ts (2*(j:Int)+1)∈l.map (·.1))))
    ⟨l,u1,u2,u3,u4,rfl,s4,hd4,k4,c4,eU _,λ_=>⟨rfl,λj hj=>absurd hj (Nat.not_lt_zero _)⟩⟩ (λi σ H5 _ ⟨_,_,_,_,_,_,s5,_⟩=>s5 _ _ hb) ?_ ?_
   ·rintro i x σ H5 tp hx ⟨l',v1,v2,v3,v4,rfl,s5,hd5,k5,c5,le5,cl5⟩ htp;obtain⟨c,q1,rfl,_,hy,hc⟩:=hB.ref hx;obtain⟨r,hr1,rfl⟩:∃r,rs[i]?=some r/\Al Y r=q1:=by
     rw[fg] at hy;cases e:rs[i]? with
     | none=>rw[e] at hy; cases hy
     | some r=>rw[e] at hy; exact⟨r,rfl,fC hy⟩
    have il:=(eu.mp hr1).1;obtain⟨H6,zg,s6,e6⟩:=nw htp (.AG [.int (i:Int),.ref c]);rw[zg];have hd6:=s6 _ _ hd5;have k6:=k5.keep s6;have s06:=s5.trans s6;refine⟨tp,_,rfl,AJ.of e6,rfl,_,_,rfl,_,_,rfl,rfl,?_⟩;refine⟨_,rfl,_,rfl,_,_,rfl,rfl,.inl ⟨by decide,by decide⟩,a,_,_,_,rfl,rfl,AJ.of (s06 _ _ ha),NR (by omega),?_⟩;refine⟨_,rfl,_,rfl,_,_,rfl,rfl,.inl ⟨by decide,by decide⟩,_,_,rfl,rfl,a,_,_,_,rfl,rfl,AJ.of (s06 _ _ ha),NO (by omega),?_⟩;obtain⟨stR,stL⟩:=D.step k6 hr1;have ruS:=D.sf (D.wd.ru r (eQ hr1)) (by decide);have fc:=AZ s06 (by exact hc);have kl:=k6.len;have L30:=D.le;have szK:(B9 l').length<sizeLine:=by rw[ed]; exact Ca (by omega)
    have g1:=CT.k (k:=Sum.inl (Aj rs ts (2*(i:Int)+1))) hd6;have g0:=CT.k (k:=Sum.inl (Aj rs ts (2*(i:Int)))) hd6;have same:∀(h:Aj rs ts (2*(i:Int))∈l'.map (·.1)↔Aj rs ts (2*(i:Int)+1)∈l'.map (·.1)),l'.length=l.length->l'=l/\∀j:Nat,j<i+1->(Aj rs ts (2*(j:Int))∈l.map (·.1)↔Aj rs ts (2*(j:Int)+1)∈l.map (·.1)):=λh z=>by
     obtain⟨rfl,c2⟩:=cl5 z;refine⟨rfl,λj hj=>?_⟩;rcases gc j i with y | y
     ·exact c2 j y
     ·obtain rfl:j=i:=by omega
      exact h
    have more:∀(e:Int) (t:Addr) (H8:Hp),e∉l'.map (·.1)->AR H6 H8->Bd H8 (BV rs ts) (C9 ts (2*rs.length+2) p) Z N (l'++[(e,t)])->∃l'' w1 w2 w3 w4,[some (V.ref a),some (.ref b),some (.int (rs.length:Int)),some (.ref d),some (.int (i:Int)),some (.ref c),some (.int (Aj rs ts (2*(i:Int)))),some (.int (Aj rs ts (2*(i:Int)+1)))]=[some (.ref a),some (.ref b),some (.int (rs.length:Int)),some (.ref d),w1,w2,w3,w4] /\
      AR H (AF H8 d (.dK (Bw (B9 l') (Sum.inl e:AX) (.ref t))))/\(AF H8 d (.dK (Bw (B9 l') (Sum.inl e:AX) (.ref t)))) d=some (.dK (B9 l''))/\Bd (AF H8 d (.dK (Bw (B9 l') (Sum.inl e:AX) (.ref t)))) (BV rs ts) (C9 ts (2*rs.length+2) p) Z N l''/\Aj rs ts (2*(rs.length:Int))∈l''.map (·.1)/\l.length<=l''.length /\
      (l''.length=l.length->l''=l/\∀j:Nat,j<i+1->(Aj rs ts (2*(j:Int))∈l.map (·.1)↔Aj rs ts (2*(j:Int)+1)∈l.map (·.1))):=λe t H8 hn s8 k8=>by
     refine⟨l'++[(e,t)],_,_,_,_,rfl,(s06.trans s8).up hd _,by rw[AS,R6 hn],k8.Ls (s8 _ _ hd6) _,by rw[fv]; exact fm.mpr (.inl c5),by rw[fj]; omega,λz=>?_⟩;rw[fj,iu] at z;omega
    refine⟨_,rfl,_,rfl,d,_,rfl,g1,_,rfl,?_⟩;by_cases h1:Aj rs ts (2*(i:Int)+1)∈l'.map (·.1)
    ·obtain⟨al,_,vl,fl,sl,addR⟩:=stR h1;rw[vl];rw[vl] at g1;refine Dk ?_;refine⟨_,rfl,_,rfl,d,_,rfl,g0,_,rfl,?_⟩;by_cases h0:Aj rs ts (2*(i:Int))∈l'.map (·.1)
     ·obtain⟨ar,_,vr,fr,sr,addL⟩:=stL h0;rw[vr];rw[vr] at g0;refine CG ?_;refine⟨_,rfl,_,rfl,d,_,rfl,g0,_,rfl,Dk ?_⟩;refine⟨_,rfl,_,rfl,d,_,rfl,g1,_,rfl,CG ?_⟩;exact⟨l',_,_,_,_,rfl,s06,hd6,k6,c5,le5,same ⟨λ_=>h1,λ_=>h0⟩⟩
     ·rw[Ek h0];refine Dk ?_;refine⟨_,rfl,_,rfl,d,_,rfl,g1,_,rfl,al,c,_,_,rfl,fl,fc,sl,ruS,λt ht=>?_⟩;have s8:=AY ht (.AG [.int (p (2*(i:Int)+1)+Al Y r).num,.int (p (2*(i:Int)+1)+Al Y r).den]);exact⟨_,rfl,_,rfl,d,_,rfl,DR.k (k:=Sum.inl (Aj rs ts (2*(i:Int)))) (s8 _ _ hd6) szK,more _ t _ h0 s8 (addR h0 t _ s8 AS)⟩
    ·rw[Ek h1];rw[Ek h1] at g1;refine CG (CG ?_);refine⟨_,rfl,_,rfl,d,_,rfl,g0,_,rfl,?_⟩;by_cases h0:Aj rs ts (2*(i:Int))∈l'.map (·.1)
     ·obtain⟨ar,_,vr,fr,sr,addL⟩:=stL h0;rw[vr];rw[vr] at g0;refine Dk ?_;refine⟨_,rfl,_,rfl,d,_,rfl,g1,_,rfl,Dk ?_⟩;refine⟨_,rfl,_,rfl,d,_,rfl,g0,_,rfl,ar,c,_,_,rfl,fr,fc,sr,ruS,λt ht=>?_⟩;have s8:=AY ht (.AG [.int (p (2*(i:Int))-Al Y r).num,.int (p (2*(i:Int))-Al Y r).den]);exact⟨_,rfl,_,rfl,d,_,rfl,DR.k (k:=Sum.inl (Aj rs ts (2*(i:Int)+1))) (s8 _ _ hd6) szK,more _ t _ h1 s8 (addL h1 t _ s8 AS)⟩
     ·rw[Ek h0];refine CG (CG ?_);exact⟨l',_,_,_,_,rfl,s06,hd6,k6,c5,le5,same ⟨λz=>absurd z h0,λz=>absurd z h1⟩⟩
   ·rintro σ H5 ⟨l',v1,v2,v3,v4,rfl,s5,hd5,k5,c5,le5,cl5⟩;refine⟨⟨l',_,_,_,_,rfl,s5,hd5,k5,c5⟩,?_⟩;show(match H5 d with | some (.dK kv)=>BV rs ts-kv.length | _=>0)<(match H4 d with | some (.dK kv)=>BV rs ts-kv.length | _=>0);rw[hd5,hd4];show BV rs ts-(B9 l').length<BV rs ts-(B9 l).length;rw[ed,ed];rcases gc l.length l'.length with z | z
    ·omega
    ·obtain⟨rfl,c2⟩:=cl5 (by omega)
     have:=D.full k5 c5 (λj hj=>c2 j (by rw[ed,lb]; exact hj))
     omega
  ·refine DL hlt ?_;exact⟨_,rfl,q d l H4 s4 hd4 k4 (by omega)⟩
 ·rintro σ H4 Q1 Q2 hq ⟨v,e,d',kv,z1,z2,v',e',a',ns,y1,y2,y3,z⟩;exact⟨v,e,d',kv,z1,z2,v',e',a',ns,y1,y2,y3,λm hm hl=>by
   obtain⟨i,j,e1,e2,b,eb,zz⟩:=z m hm hl;exact⟨i,j,e1,e2,b,eb,hq _ _ zz⟩⟩
theorem Q4(X Y:Nat->Rat)(i:Nat):∀rs:List AQ,BB (λj=>X j-Y j) rs i=BB X rs i-BB Y rs i
 | []=>by unfold BB; simp; grind
 | r :: rs=>by
  have e:Cd (λj=>X j-Y j) i r=Cd X i r-Cd Y i r:=by
   unfold Cd Al;split <;> split <;> grind
  have:=Q4 X Y i rs
  unfold BB at this ⊢;rw[fk,fk,fk,gf,gf,gf,this,e]
  grind
theorem Q0(X:Nat->Rat)(c:Rat)(i:Nat):∀rs:List AQ,BB (λj=>X j*c) rs i=BB X rs i*c
 | []=>by unfold BB; simp
 | r :: rs=>by
  have e:Cd (λj=>X j*c) i r=Cd X i r*c:=by
   unfold Cd Al;split <;> split <;> grind
  have:=Q0 X c i rs
  unfold BB at this ⊢;rw[fk,fk,gf,gf,this,e]
  grind
theorem X5{n m α β B B':Nat}{rs:List AQ}{X Y:Nat->Rat}(k:CV n m α β rs)(hX:FW n B rs X)(hY:FW n B' rs Y):∀j,j<n+2->X j=Y j:=by
 have:=QQ (X:=λj=>X j-Y j) (λr hr=>⟨(k.Ct r hr).1,(k.Ct r hr).2.1,k.pos r hr⟩) k.DN (by show X 0-Y 0=0; rw[hX.x0,hY.x0]; grind) (λi hi=>by
  match i,hi with
  | 0,_=>left; show X 0-Y 0=0; rw[hX.x0,hY.x0]; grind
  | 1,_=>left; show X 1-Y 1=0; rw[hX.x1,hY.x1]; grind
  | i+2,hi=>right; rw[Q4,hX.bal (i+2) (by omega) hi,hY.bal (i+2) (by omega) hi]; grind)
 intro j hj
 have:=this j hj
 grind
structure VA(n:Nat)(rs:List AQ)(X:Nat->Rat)(F:Rat):Prop where
 hs:∀j,j<n+2->Sf (X j)
 ys:∀j,j<n+2->Sf (X j*F)
 fs:∀r∈rs,Sf (X r.1-X r.2.1)
 ds:∀r∈rs,Sf (X r.1*F-X r.2.1*F)
 es:∀r∈rs,Sf r.2.2
 rx:∀r∈rs,Sf (Al X r)
 sF:Sf F
theorem FW.af{n:Nat}{rs:List AQ}{X:Nat->Rat}{F:Rat}(k:CV n 14 10 10 rs)(h:FW n ((8+10*14+10)*n) rs X)(hF:Sb 30 30 F):VA n rs X F/\∃Z N,Uy rs (λj=>X j*F) Z N:=by
 obtain⟨Z,N,z⟩:=h.T5 k;obtain⟨W,w0,wl,wx⟩:=h.wh;have n13:=k.hb.n13;have hB:(8+10*14+10)*n<=2054:=by omega
 generalize (8+10*14+10)*n=B at *;have hd:Cj rs<=2 ^ 140:=k.den;have hp:=IZ rs;have fd0:(F.den:Int)≠0:=by have:=F.den_nz; omega
 have fF:((F.den:Int):Rat)*F=(F.num:Int):=by
  have d0:(F.den:Rat)≠0:=by have:=F.den_nz; exact_mod_cast this
  have e:F=(F.num:Rat) / (F.den:Rat):=(Rat.num_divInt_den F).symm.trans (by rw[Rat.divInt_eq_div]; rfl);rw[ic]
  conv=>lhs; rw[e]
  grind
 have fn:F.num.natAbs<=2 ^ 30:=hF.1;have fl:(F.den:Int).natAbs<=2 ^ 30:=by rw[gj]; exact hF.2
 have wf:(W*(F.den:Int)).natAbs<=2 ^ (B+30):=by rw[gD]; exact Ck wl fl
 have fall:∀r∈rs,∃c:Int,(W:Rat)*(X r.1-X r.2.1)=c/\c.natAbs<=2 ^ (B+1):=λr hr=>by
  obtain⟨a1,a2,a3⟩:=k.Ct r hr;obtain⟨x,e1,l1⟩:=wx _ a1;obtain⟨y,e2,l2⟩:=wx _ a2;refine⟨x-y,by rw[Rat.intCast_sub,<-e1,<-e2]; grind,?_⟩
  have:=Int.natAbs_sub_le x y
  rw[Nat.pow_succ]; omega
 have run:∀r∈rs,∃c:Int,((W*(Cj rs:Int)*(F.den:Int):Int):Rat)*Al (λj=>X j*F) r=c/\c.natAbs<=2 ^ (140+10+(B+1)+30):=λr hr=>by
  obtain⟨c,e,l⟩:=fall r hr;obtain⟨v,hv⟩:=NG (K3 hr);refine⟨v*c*F.num,?_,?_⟩
  ·rw[gK,gK,gK,gK,<-hv,<-e,<-fF,ic];unfold Al; grind
  ·have ab:Ab ((2 ^ 140:Nat):Rat) ((Cj rs:Nat):Rat):=Hd (x:=(Cj rs:Int)) (by rw[gj]; exact hd);have vb:=ab.EM (k.Ct r hr).2.2.vb;rw[hv,<-Rat.natCast_mul,<-Nat.pow_add] at vb;rw[gD,gD];exact Ck (Ck (FI vb) l) fn
 refine⟨⟨z.hs,λj hj=>?_,z.fs,λr hr=>?_,z.es,λr hr=>(z.ru r hr).sf z.z0 z.zl (by decide) z.nl,hF.mono (by decide) (by decide)⟩,W*(Cj rs:Int)*(F.den:Int),140+10+(B+1)+30,i7 (i7 w0 (by omega)) fd0,?_,by omega,λr hr=>?_⟩
 ·obtain⟨c,e,l⟩:=wx j hj;refine(Ia (W:=W*(F.den:Int)) (k:=c*F.num) (b:=B+30) (a:=B+30) (i7 w0 fd0) ?_ (by rw[gD]; exact Ck l fn) wf).mono (by omega) (by omega);rw[gK,gK,<-e,<-fF]; grind
 ·obtain⟨c,e,l⟩:=fall r hr;refine(Ia (W:=W*(F.den:Int)) (k:=c*F.num) (b:=B+1+30) (a:=B+30) (i7 w0 fd0) ?_ (by rw[gD]; exact Ck l fn) wf).mono (by omega) (by omega);rw[gK,gK,<-e,<-fF]; grind
 ·rw[gD,gD,gj (Cj rs)];exact fY (Ck (Ck wl hd) fl) (gZ (by decide) (by omega))
 ·obtain⟨c,e,l⟩:=run r hr;exact⟨c,e,by rw[Nat.one_mul]; exact l⟩
theorem NetV.k{n:Nat}{rs:List AQ}{ts:List (List Int)}(k:NetV (n+2) rs ts):CV n 14 10 10 rs:=by
 have:=k.n15
 refine⟨⟨by omega,by decide,by omega⟩,k.m14,λr hr=>?_,λr hr=>?_,k.DN⟩
 ·obtain⟨⟨e1,e2,e3⟩,h1,h2⟩:=k.ease r hr;exact⟨h1,h2,by show r.2.2.num.natAbs<=2 ^ 10; omega,by show r.2.2.den<=2 ^ 10; omega⟩
 ·have:=(k.ease r hr).1.pos
  rw[Rat.lt_iff]; simpa using this
def L1(p:Int->Rat)(Y:Nat->Rat)(k:Nat)(r:AQ):List Rat:=[Kg (p (2*(k:Int))) (p (2*(k:Int)+1)),Kg (Y r.1) (Y r.2.1),Kk (p (2*(k:Int))) (p (2*(k:Int)+1)),Kk (Y r.1) (Y r.2.1)]
def FK(p:Int->Rat)(Y:Nat->Rat)(rs:List AQ):List (List Rat):=rs.mapIdx λk r=>L1 p Y k r
theorem Rc{p:Int->Rat}{Y:Nat->Rat}{rs:List AQ}{k:Nat}{r:AQ}(h:rs[k]?=some r):(FK p Y rs)[k]?=some (L1 p Y k r):=by
 unfold FK;rw[List.getElem?_mapIdx,h];rfl
theorem K1(p:Int->Rat)(Y:Nat->Rat)(rs:List AQ):(FK p Y rs).length=rs.length:=by unfold FK; rw[List.length_mapIdx]
def Iu(H:Hp)(a:Addr)(W U:Rat)(rows:List (List Rat)):Prop:=∃p q r,H a=some (.AG [.ref p,.ref q,.ref r])/\AO H p W/\AO H q U/\Az (Az AO) H r rows
theorem Xi{H H':Hp}{a:Addr}{W U:Rat}{rows:List (List Rat)}(s:AR H H')(h:Iu H a W U rows):Iu H' a W U rows:=by
 obtain⟨p,q,r,h1,h2,h3,h4⟩:=h;exact⟨p,q,r,s _ _ h1,s _ _ h2,s _ _ h3,FG (R:=Az AO) (λs h=>Dz s h) s h4⟩
structure PK(n:Nat)(rs:List AQ)(ts:List (List Int))(X:Nat->Rat)(F:Rat)(p:Int->Rat)(Z:Int)(N:Nat):Prop where
 nk:CV n 14 10 10 rs
 hx:FW n ((8+10*14+10)*n) rs X
 hf:VA n rs X F
 ld:De rs ts (λj=>X j*F) p Z N
theorem SH{H:Hp}{t c0 c1 c2 c3:Addr}{x0 x1 x2 x3:Rat}(h:H t=some (.AG [.ref c0,.ref c1,.ref c2,.ref c3]))(h0:AO H c0 x0)(h1:AO H c1 x1)(h2:AO H c2 x2)(h3:AO H c3 x3):Az AO H t [x0,x1,x2,x3] :=
 ⟨[c0,c1,c2,c3],h,rfl,λi b x e1 e2=>by
  match i,e1,e2 with
  | 0,e1,e2=>cases e1; cases e2; exact h0
  | 1,e1,e2=>cases e1; cases e2; exact h1
  | 2,e1,e2=>cases e1; cases e2; exact h2
  | 3,e1,e2=>cases e1; cases e2; exact h3⟩
theorem aJ{H:Hp}{l b:Addr}{ys:List V}{o:HO}{r:List Rat}(hl:H l=some (.AB ys))(h:Az AO H b r):Az AO (AF H l o) b r:=by
 obtain⟨bs,h1,h2⟩:=h;exact⟨bs,by rw[Ad (λz=>by rw[z,hl] at h1; cases h1)]; exact h1,LQ h2 hl o⟩
theorem Rj{H:Hp}{l:Addr}{ys:List V}{o:HO}{bs:List Addr}{rr:List (List Rat)}(hl:H l=some (.AB ys))(h:At (Az AO) H bs rr):At (Az AO) (AF H l o) bs rr:=⟨h.1,λi b x e1 e2=>aJ hl (h.2 i b x e1 e2)⟩
theorem De.Ey{rs:List AQ}{ts:List (List Int)}{Y:Nat->Rat}{p:Int->Rat}{Z:Int}{N:Nat}{H:Hp}{l:List (Int×Addr)}{d:Addr}(D:De rs ts Y p Z N)(k:Bd H (BV rs ts) (C9 ts (2*rs.length+2) p) Z N l)(hl:BV rs ts<=l.length)(hd:H d=some (.dK (B9 l))){x:Int}(hx:AH (2*rs.length+2) x):
  ∃a,CT H d (.int (Aj rs ts x)) (some (.ref a))/\AO H a (p x)/\Sf (p x):=by
 obtain⟨a,h1,h2⟩:=Jy (k.all hl (D.in hx));obtain⟨f1,f2⟩:=k.fr _ h1;dsimp only at f1 f2;rw[D.at hx] at f1 f2;have g:=CT.k (k:=Sum.inl (Aj rs ts x)) hd;rw[h2] at g
 have:=k.len
 have:=D.le
 exact⟨a,g,f1,D.sf f2 (by omega)⟩
variable {f6:Addr} {d6:FuncData}
inductive SF(vs:List V)(H:Hp)(Q:VK):Prop
 | mk (a b ra ta:Addr) (n:Nat) (rs:List AQ) (ts:List (List Int)) (X:Nat->Rat) (F:Rat) (p:Int->Rat) (Z:Int) (N:Nat) (h_0:vs=[.ref a,.ref b]) (h_1:H a=some (.AG [.int ((n+2:Nat):Int),.ref ra,.ref ta])) (h_2:Az Bf H ra rs) (h_3:Az BS H ta ts) (h_4:AO H b F) (h_5:PK n rs ts X F p Z N)
  (h_6:∀q H',AR H H'->Iu H' q (p (2*(rs.length:Int)+1)) F (FK p (λj=>X j*F) rs)->Q (.ref q) H'):SF vs H Q
def OH:Sp:=λvs H Q _=>SF vs H Q
theorem FN:A3 ["net","fall","levels","lands","sides","rectangles","k","rope","across","upward","width"] ["net","fall"] (Ao s_laid):=BC
theorem bA:(["level","fall"]:List Str).Nodup:=by decide +kernel
set_option maxHeartbeats 4000000 in
seal L2.CW L2.PS L2.PE L2.PA in
theorem Yr (F0:Ar K "laid" "laid" s_laid f fd) (G1:AU P w K mg base 3 "times" ["one","other"] (Bm λx y=>x*y))
  (G2:AU P w K mg base 5 "heights" ["net"] Lo)
  (G3:AU P w K mg base 4 "land_of" ["turns"] Mq)
  (G4:AU P w K mg base 4 "land_sides" ["lands","widths"] NX)
  (G5:AU P w K mg base 5 "runnings_by" ["net","levels"] Nl)
  (G6:AU P w K mg base 2 "rising" ["one","other"] JD) (ml:mg "len" = none) (me:mg "enumerate" = none) (mt:mg "tuple" = none):An P w K mg base Ay 6 f fd ["net","fall"] OH:=by
 refine F0.BD FN λcdv A outer s H vs Q E hr h=>?_
 obtain⟨a,b,ra,ta,n,rs,ts,X,F,p,Z,N,rfl,ha,hra,hta,hb,ly,q⟩:=h;have hu:=Eu hr;have r2:=hr.mono (show 2<=5 by decide);have r3:=hr.mono (show 3<=5 by decide);have r4:=hr.mono (show 4<=5 by decide);refine⟨_,AN (IQ (i:=2) FN.nd rfl (Or.inl rfl) (Nc:=["level","fall"]) (cap:=[(1,1)]) (g:=BQ 0) (te:=D1 (Bm λx y=>x*y) [] E0 (BJ (Ax 0) (BJ (Ax 1) CF))) rfl (JG (K:=K) (Ae G2 hr (AA (pv 0) AE)))
   (CJ rfl rfl (by decide +kernel) (by decide +kernel) (ft.mpr ⟨⟨rfl,rfl⟩,fh _⟩) rfl (ft.mpr ⟨⟨_,_,rfl,rfl,rfl,rfl,rfl⟩,fh _⟩)) (λ_ _ _ _ _=>Ah (i:=0) bA rfl (Or.inl rfl))
   (λ_ _ _ _ _=>Ae G1 r3 (AA (pv 0) (AA (pv 1) AE))))
  (AN (Aa (i:=3) FN.nd rfl (Or.inl rfl) (Ae G3 r4 (AA (pT K (pv 0) AD) AE)))
  (AN (Aa (i:=4) FN.nd rfl (Or.inl rfl) (Ae G4 r4 (AA (pv 3) (AA (Ae G5 hr (AA (pv 0) (AA (pv 2) AE))) AE))))
  (AN (Aa (i:=5) FN.nd rfl (Or.inl rfl) (CB AE))
  (AN (Bu fT rfl (HW (by rfl) me (AA (pT K (pv 0) AD) AE)) (DZ (n:=2) (K:=K) rfl (BE (Ah (i:=6) FN.nd rfl (Or.inl rfl)) (BE (Ah (i:=7) FN.nd rfl (Or.inl rfl)) CO)))
   (AN (Aa (i:=8) FN.nd rfl (Or.inl rfl) (Ae G6 r2 (AA (DE hu (pv 4) (pT K (pv 3) (AK Bt AD (pv 6))) (λ_ _=>rfl)) (AA (DE hu (pv 4) (pT K (pv 3) (AK BH (AK Bt AD (pv 6)) AD)) (λ_ _=>rfl)) AE))))
   (AN (Aa (i:=9) FN.nd rfl (Or.inl rfl) (Ae G6 r2 (AA (pL K (pv 2) (pT K (pv 7) AD)) (AA (pL K (pv 2) (pT K (pv 7) AD)) AE))))
   (AV (DB (C4 K gh gL gM Ds (pv 5) (AA (BP (AA (pT K (pv 8) AD) (AA (pT K (pv 9) AD) (AA (pT K (pv 8) AD) (AA (pT K (pv 9) AD) AE))))) AE))))))
  )
  (AN (Aa (i:=10) FN.nd rfl (Or.inl rfl) (DE hu (pv 4) (pT K (pv 3) (AK BH (AK Bt AD (A8 (Bs (K:=K)) (by rfl) ml BR (AA (pT K (pv 0) AD) AE))) AD)) (λ_ _=>rfl)))
  (AV (Am (BP (AA (pv 10) (AA (pv 1) (AA (Cn (Fm (K:=K)) (by rfl) mt Cb (AA (pv 5) AE)) AE)))))))))))
  ,?_⟩
 have D:=ly.ld;have m14:=D.m14;have n13:=ly.nk.hb.n13;obtain⟨cs,hra1,hRs⟩:=hra;have lc:cs.length=rs.length:=hRs.1;refine⟨_,rfl,a,n,14,10,10,rs,rfl,⟨ra,_,ha,cs,hra1,hRs⟩,ly.nk,λhp H1 X' s1 hX' hT=>?_⟩;have eX:(List.range (n+2)).map X'=(List.range (n+2)).map X:=ip λj hj=>X5 ly.nk hX' ly.hx j (gu.mp hj)
 rw[eX] at hT;obtain⟨bs,hp1,hB⟩:=hT;have lb:bs.length=n+2:=by rw[hB.1,ed,fK]
 refine⟨hp,rfl,⟨_,AJ.of hp1⟩,λacc hacc=>?_⟩;refine CN (HR hp1) (by rw[ed]; omega) hacc (λi ys σ Hq=>∃ds:List Addr,ys=ds.map V.ref/\At AO Hq ds (((List.range (n+2)).map λj=>X j*F).take i)/\∃u,σ=[u,some (.ref b)]) ⟨[],rfl,At.nil,none,rfl⟩ ?_ ?_
 ·rintro i ys σ H3 x H4 hi sm hacc2 ⟨ds,rfl,hD,u,rfl⟩ ⟨rfl,hx⟩ Cc hC;obtain⟨c,xq,rfl,_,hy,hc⟩:=hB.ref hx;have hi':i<n+2:=by rw[ed,lb] at hi; exact hi
  rw[C1 X hi'] at hy;cases hy;refine⟨_,rfl,_,rfl,c,b,_,_,rfl,sm _ _ hc,sm _ _ (s1 _ _ hb),ly.hf.hs i hi',ly.hf.sF,λt ht=>?_⟩;have st:=AY ht (.AG [.int (X i*F).num,.int (X i*F).den]);refine hC _ _ _ st ⟨ds++[t],by simp,?_,_,rfl⟩;rw[Cm (C1 (λj=>X j*F) hi')];exact(hD.keep AZ (EX acc st)).snoc (AO.Ba (q:=X i*F) AS (st _ _ hacc2))
 rintro ys σ H2 s2 ha2 hl2 ⟨gs,rfl,hG,u,rfl⟩;rw[ed,lb,fH (by rw[ed,fK]; exact eU _)] at hG;replace hG:=hG.keep AZ (Dw H2 acc);have s02:=s1.trans s2;have two:=ly.nk.two;have hA2:Ed AO H2 acc ((List.range (n+2)).map λj=>X j*F):=⟨gs,ha2,hG⟩;obtain⟨tb,hta1,hTa⟩:=hta;refine⟨_,rfl,a,_,_,_,rfl,rfl,AJ.of (s02 _ _ ha),Gu _ _ _,ta,tb,ts,2*rs.length+2,rfl,⟨s02 _ _ hta1,hTa.1,λi c row e1 e2=>s02 _ _ (hTa.2 i c row e1 e2)⟩,D.tn,by omega,λlp H3 s3 nl hl3=>?_⟩;rw[Zp D.tn] at hl3;have s03:=s02.trans s3;refine⟨_,rfl,_,rfl,_,rfl,a,acc,n+2,rs,(λj=>X j*F),rfl,⟨ra,_,s03 _ _ ha,cs,s03 _ _ hra1,hRs.keep Cp s03⟩,Ld (R:=AO) (λs h=>AZ s h) s3 hA2,by omega,λr hr=>?_,λwp H4 s4 hw4=>?_⟩
 ·obtain⟨r1,r2⟩:=two r hr;exact⟨r1,r2,ly.hf.ys _ r1,ly.hf.ys _ r2,ly.hf.ds r hr,ly.hf.es r hr⟩
 refine⟨lp,wp,rs,ts,_,p,Z,N,rfl,s4 _ _ hl3,hw4,D,λd l H5 s5 hd5 kS5 full=>?_⟩;have s35:=s4.trans s5;have s05:=s03.trans s35;have hl5:=s35 _ _ hl3;have hA5:=Ld (R:=AO) (λs h=>AZ s h) (s3.trans s35) hA2;obtain⟨gs',ha5,hG5⟩:=hA5;have ha5':=s05 _ _ ha;have hr5:=s05 _ _ hra1;have hR5:=hRs.keep Cp s05;have hb5:=s05 _ _ hb;refine⟨by exact FZ,λR hR=>?_⟩;obtain⟨H6,zg,s6,zz⟩:=nw hR (.AB []);rw[zg];have e6:H6 R=some (.AB (([]:List Addr).map V.ref)):=zz;refine⟨_,rfl,a,_,_,_,rfl,rfl,AJ.of (s6 _ _ ha5'),Di _ _ _,ra,_,rfl,s6 _ _ hr5,?_⟩;refine Ig (xs:=cs.map V.ref) (λi σ H7=>∃u6 u7 u8 u9 ds,σ=[some (.ref a),some (.ref b),some (.ref acc),some (.ref lp),some (.ref d),some (.ref R),u6,u7,u8,u9,none]/\AR H5 H7/\H7 R=some (.AB (ds.map V.ref))/\At (Az AO) H7 ds ((FK p (λj=>X j*F) rs).take i))
  ⟨none,none,none,none,[],rfl,s6,e6,At.nil⟩ (λi σ H7 _ ⟨_,_,_,_,_,_,s7,_⟩=>s7 _ _ hr5) ?_ ?_
 ·rintro i x σ H7 tp hx ⟨u6,u7,u8,u9,ds,rfl,s7,eR,hD⟩ htp;obtain⟨c,r,rfl,_,hy,e,hc,he⟩:=hR5.ref hx;have il:=(eu.mp hy).1;obtain⟨r1,r2⟩:=two r (eQ hy);obtain⟨H8,zg,s8,e8⟩:=nw htp (.AG [.int (i:Int),.ref c]);rw[zg];have s58:=s7.trans s8;have eR8:=s8 _ _ eR;have hD8:=hD.keep (λs h=>FG (R:=AO) (λs h=>AZ s h) s h) s8;have i0:AH (2*rs.length+2) (2*(i:Int)):=⟨by omega,by push_cast; omega⟩;have i1:AH (2*rs.length+2) (2*(i:Int)+1):=⟨by omega,by push_cast; omega⟩;obtain⟨ar,gr,fr,sr⟩:=D.Ey (kS5.keep s58) full (s58 _ _ hd5) i0;obtain⟨al,gl,fl,sl⟩:=D.Ey (kS5.keep s58) full (s58 _ _ hd5) i1;refine⟨tp,_,rfl,AJ.of e8,rfl,_,_,rfl,_,_,rfl,rfl,?_⟩;refine⟨_,rfl,_,rfl,_,rfl,_,_,rfl,rfl,.inl ⟨by decide,by decide⟩,lp,_,_,_,rfl,rfl,AJ.of (s58 _ _ hl5),NR (by omega),d,_,rfl,gr,
   _,rfl,_,rfl,_,rfl,_,_,rfl,rfl,.inl ⟨by decide,by decide⟩,_,_,rfl,rfl,lp,_,_,_,rfl,rfl,AJ.of (s58 _ _ hl5),NO (by omega),d,_,rfl,gl,ar,al,_,_,rfl,fr,fl,sr,sl,λac c0 c2 hac h0 h2=>?_⟩
  obtain⟨H9,zg,s9,e9⟩:=nw hac (.AG [.ref c0,.ref c2]);rw[zg];have s59:=s58.trans s9;have eR9:=s9 _ _ eR8;have h09:=AZ s9 h0;have h29:=AZ s9 h2;have hD9:=hD8.keep (λs h=>FG (R:=AO) (λs h=>AZ s h) s h) s9;obtain⟨x1,g1,y1⟩:=hG5.get (C1 (λj=>X j*F) r1);obtain⟨x2,g2,y2⟩:=hG5.get (C1 (λj=>X j*F) r2);refine⟨_,rfl,_,rfl,c,_,_,_,rfl,rfl,AJ.of (s59 _ _ hc),Hv _ _ _,acc,_,_,_,rfl,rfl,AM.of (s59 _ _ ha5),BF (Be g1),_,rfl,_,rfl,c,_,_,_,rfl,rfl,AJ.of (s59 _ _ hc),Di _ _ _,acc,_,_,_,rfl,rfl,AM.of (s59 _ _ ha5),BF (Be g2),
   x1,x2,_,_,rfl,AZ s59 y1,AZ s59 y2,ly.hf.ys _ r1,ly.hf.ys _ r2,λup c1 c3 hup h1 h3=>?_⟩
  obtain⟨HA,zg,sA,eA⟩:=nw hup (.AG [.ref c1,.ref c3]);rw[zg];have s5A:=s59.trans sA;have eRA:=sA _ _ eR9;have h0A:=AZ sA h09;have h2A:=AZ sA h29;have h1A:=AZ sA h1;have h3A:=AZ sA h3;have e9A:=sA _ _ e9;have hDA:=hD9.keep (λs h=>FG (R:=AO) (λs h=>AZ s h) s h) sA;refine⟨_,rfl,.inl ⟨rfl,_,AM.of eRA⟩,_,rfl,ac,_,_,_,rfl,rfl,AJ.of e9A,A9,_,rfl,up,_,_,_,rfl,rfl,AJ.of eA,A9,_,rfl,ac,_,_,_,rfl,rfl,AJ.of e9A,As,_,rfl,up,_,_,_,rfl,rfl,AJ.of eA,As,by exact VD,λbx hbx=>?_⟩;have sB:=AY hbx (.AG [.ref c0,.ref c1,.ref c2,.ref c3]);have tB:Az AO (AF HA bx (.AG [.ref c0,.ref c1,.ref c2,.ref c3])) bx (L1 p (λj=>X j*F) i r):=SH AS (AZ sB h0A) (AZ sB h1A) (AZ sB h2A) (AZ sB h3A);have s5B:=s5A.trans sB;have eRB:=sB _ _ eRA;have hDB:=hDA.keep (λs h=>FG (R:=AO) (λs h=>AZ s h) s h) sB;generalize AF HA bx (.AG [.ref c0,.ref c1,.ref c2,.ref c3])=HB at sB tB s5B eRB hDB;refine⟨R,_,_,rfl,rfl,eRB,by rw[ed,hDB.1,g9]; exact Ca (by omega),?_⟩;refine⟨_,_,_,_,ds++[bx],rfl,s5B.up hR _,by rw[AS]; simp,?_⟩;rw[Cm (Rc hy)];exact Rj eRB (hDB.snoc tB)
 ·rintro σ H7 ⟨u6,u7,u8,u9,ds,rfl,s7,eR,hD⟩;rw[ed,lc,fH (by rw[K1]; exact eU _)] at hD;have io:AH (2*rs.length+2) (2*(rs.length:Int)+1):=⟨by omega,by push_cast; omega⟩;obtain⟨wa,gw,fw,sw⟩:=D.Ey (kS5.keep s7) full (s7 _ _ hd5) io;refine⟨_,rfl,_,rfl,_,rfl,a,_,_,_,rfl,rfl,AJ.of (s7 _ _ ha5'),Di _ _ _,ra,_,rfl,.inr (AJ.of (s7 _ _ hr5)),?_⟩;rw[ed,lc];refine⟨_,_,rfl,rfl,.inl ⟨by decide,by decide⟩,_,_,rfl,rfl,lp,_,_,_,rfl,rfl,AJ.of (s7 _ _ hl5),NO (eU _),d,_,rfl,gw,?_⟩;refine⟨_,rfl,_,rfl,_,rfl,R,_,rfl,.inl ⟨AM.of eR,λrc hrc=>⟨by exact E7,λq1 hq1=>?_⟩⟩⟩;obtain⟨H8,zg,s8,e8⟩:=nw hrc (.AG (ds.map V.ref));rw[zg] at hq1 ⊢;have s9:=AY hq1 (.AG [.ref wa,.ref b,.ref rc]);have s89:=s8.trans s9;exact q q1 _ ((s05.trans s7).trans s89) ⟨wa,b,rc,AS,AZ s89 fw,s89 _ _ (s7 _ _ hb5),ds,s9 _ _ e8,hD.keep (λs h=>FG (R:=AO) (λs h=>AZ s h) s h) s89⟩
end
section
variable {P:Program} {w:World} {K:PySem.W.Frag} {mg:Str->Option Value} {base:Heap} {f g h f1 f2 f3:Addr} {fd gd hd d1 d2 d3:FuncData}
inductive S5(vs:List V)(H:Hp)(Q:VK):Prop
 | mk (p:Addr) (q:Rat) (h_0:vs=[.ref p]) (h_1:AO H p q) (h_2:∀H',AR H H'->Q (.bl true) H'):S5 vs H Q
def Lh:Sp:=λvs H Q _=>S5 vs H Q
theorem dE:A3 ["_law_found"] ["_law_found"] (Ao s_law_is_fraction):=BC
theorem aE (F:Ar K "_law_is_fraction" "_law_is_fraction" s_law_is_fraction f fd) (G1:AU P w K mg base 2 "_law_row" ["_law_found","_law_many"] ON)
  (G2:AU P w K mg base 1 "_law_divisor" ["_law_a","_law_b"] Ln) (ma:mg "abs" = none):An P w K mg base Ay 3 f fd ["_law_found"] Lh:=by
 refine F.BD dE λcdv A outer s H vs Q E hr h=>?_
 obtain⟨p,y,rfl,hp,q⟩:=h;refine⟨_,AV (Am (Ny (Ae G1 hr (AA (pv 0) (AA AD AE)))
  (Ny (HX OY (pT K (pv 0) AD) AD (BM _))
   (Su (HX EF (Ae G2 (hr.mono (by decide)) (AA (A8 Ms (by rfl) ma S4 (AA (pT K (pv 0) AD) AE)) (AA (pT K (pv 0) AD) AE))) AD (BM _)))))),?_⟩
 have yd:=y.den_nz;refine⟨_,rfl,p,[y.num,(y.den:Int)],2,rfl,hp,rfl,by show 2<=1000; decide,λH1 s1=>⟨_,rfl,Dk ?_⟩⟩;have hp1:AO H1 p y:=s1 _ _ hp;refine⟨_,rfl,p,_,_,_,rfl,rfl,AJ.of hp1,As,_,_,rfl,rfl,_,rfl,DH (by omega) ?_⟩;refine⟨_,rfl,p,_,_,_,rfl,rfl,AJ.of hp1,A9,y.num,rfl,_,rfl,p,_,_,_,rfl,rfl,AJ.of hp1,As,_,_,rfl,by split <;> omega,by omega,rfl,?_⟩;have e:Int.gcd (if y.num<0 then -y.num else y.num) (y.den:Int)=1:=by
  rw[Z6]
  have:=y.reduced
  unfold Nat.Coprime at this;unfold Int.gcd;simpa using this
 rw[e];exact q H1 s1
theorem NS(n:Nat):(List.replicate n true).all id=true:=by simp
inductive Tt(vs:List V)(H:Hp)(Q:VK):Prop
 | mk (p:Addr) (qs:List Rat) (m:Int) (h_0:vs=[.ref p,.int m]) (h_1:Az AO H p qs) (h_2:m=qs.length) (h_3:qs.length<=1000) (h_4:∀H',AR H H'->Q (.bl true) H'):Tt vs H Q
def KQ:Sp:=λvs H Q _=>Tt vs H Q
theorem cE:A3 ["_law_found","_law_many"] ["_law_found","_law_many"] (Ao s_law_fractions_are):=BC
theorem bW (F : Ar K "_law_fractions_are" "_law_fractions_are" s_law_fractions_are f fd) (G : AU P w K mg base 3 "_law_is_fraction" ["_law_found"] Lh) (ms : mg "isinstance" = none) (mt : mg "tuple" = none)
    (ml : mg "len" = none) (ma : mg "all" = none) : An P w K mg base Ay 4 f fd ["_law_found", "_law_many"] KQ := by
  refine F.BD cE λcdv A outer s H vs Q E hr h => ?_
  obtain⟨p, qs, m, rfl, ⟨ts, hp, hT⟩, rfl, hn, q⟩ := h;have lt : ts.length = qs.length := hT.1;refine⟨_, AN (BZ (PW.pt (Hj (Gd (FH (A8 (IV (c := .ty "tuple") (cv := .type "tuple") λ_ z => z) (by rfl) ms IL (AA (pv 0) (AA (Ii (v := .ty "tuple") (by rfl) mt Cb rfl) AE)))))
        (J1 (BX FP (A8 (Bs (K := K)) (by rfl) ml BR (AA (pv 0) AE)) (pv 1) (BM _))))) (AV (Am Gi)) Bp)
    (AV (Am (A8 (Kv rfl) (by rfl) ma LP (AA (C3 (Nc := ["_law_one"]) (cap := []) (g := BQ 0) (te := D1 Lh [] E0 (BJ (Ax 0) CF)) rfl (JG (K := K) (pv 0))
      (CJ rfl rfl (by decide +kernel) (by decide +kernel) (fh _) rfl (fh _)) (λ_ _ _ _ _ => Ah (i := 0) OW rfl (Or.inl rfl)) (λ_ _ _ _ _ => Ae G hr (AA (pv 0) AE))) AE)))), ?_⟩
  refine⟨_, rfl, _, _, _, rfl, C8.AG hp, Jk K _, _, rfl, CG ?_⟩;refine⟨_, rfl, p, _, rfl, .inr (AJ.of hp), _, rfl, rfl, _, rfl, ?_⟩;refine FO (by rw[ed, lt]) ?_;refine⟨_, rfl, p, rfl, ⟨_, AJ.of hp⟩, λacc hacc => ?_⟩;refine CN (HR hp) (by rw[ed]; omega) hacc (λi ys σ _ => ys = (List.replicate i true).map V.bl /\ ∃u, σ = [u]) ⟨rfl, none, rfl⟩ ?_ ?_
  · rintro i ys σ H2 x H3 hi sm hacc2 ⟨hys, u, rfl⟩ ⟨rfl, hx⟩ C hC2;obtain⟨t, y, rfl, _, _, ht⟩ := hT.ref hx;refine⟨_, rfl, t, y, rfl, sm _ _ ht, λH4 s4 => ?_⟩;refine hC2 _ _ _ s4 ⟨?_, _, rfl⟩;rw[hys, jk, fv]; rfl
  rintro ys σ H2 s2 g2 _ ⟨hys, _⟩;refine⟨acc, _, rfl, AM.of (by rw[g2, hys]), ?_⟩;rw[NS];exact q _ s2
inductive Td(vs:List V)(H:Hp)(Q:VK):Prop
 | mk (p:Addr) (W U:Rat) (rows:List (List Rat)) (m:Int) (h_0:vs=[.ref p,.int m]) (h_1:Iu H p W U rows) (h_2:(∀r∈rows,r.length=4)) (h_3:m=rows.length) (h_4:rows.length<=1000) (h_5:∀H',AR H H'->Q (.bl true) H'):Td vs H Q
def OR:Sp:=λvs H Q _=>Td vs H Q
theorem bJ:A3 ["_law_found","_law_many"] ["_law_found","_law_many"] (Ao s_law_is_floor):=BC
theorem ai (F : Ar K "_law_is_floor" "_law_is_floor" s_law_is_floor f fd) (G : AU P w K mg base 4 "_law_fractions_are" ["_law_found", "_law_many"] KQ) (ms : mg "isinstance" = none) (mt : mg "tuple" = none)
    (ml : mg "len" = none) (ma : mg "all" = none) : An P w K mg base Ay 5 f fd ["_law_found", "_law_many"] OR := by
  refine F.BD bJ λcdv A outer s H vs Q E hr h => ?_
  obtain⟨a, W, U, rows, m, rfl, ⟨p, q0, r, ha, fW, fU, fR⟩, n4, rfl, n1000, q⟩ := h;obtain⟨cs, hr', hC⟩ := id fR;have lc : cs.length = rows.length := hC.1;refine⟨_, AN (BZ (PW.pt (Hj (Gd (FH (A8 (IV (c := .ty "tuple") (cv := .type "tuple") λ_ z => z) (by rfl) ms IL (AA (pv 0) (AA (Ii (v := .ty "tuple") (by rfl) mt Cb rfl) AE)))))
        (Hj (BX FP (A8 (Bs (K := K)) (by rfl) ml BR (AA (pv 0) AE)) AD (BM _))
        (J1 (Gd (FH (Ae G hr (AA (EW (dg (K := K)) (pv 0) FC (Dv AD)) (AA AD AE))))))))) (AV (Am Gi)) Bp)
    (AN (BZ (PW.pt (Hj (Gd (FH (A8 (IV (c := .ty "tuple") (cv := .type "tuple") λ_ z => z) (by rfl) ms IL (AA (pT K (pv 0) AD) (AA (Ii (v := .ty "tuple") (by rfl) mt Cb rfl) AE)))))
        (J1 (BX FP (A8 (Bs (K := K)) (by rfl) ml BR (AA (pT K (pv 0) AD) AE)) (pv 1) (BM _))))) (AV (Am Gi)) Bp)
    (AV (Am (A8 (Kv rfl) (by rfl) ma LP (AA (C3 (Nc := ["_law_one"]) (cap := []) (g := BQ 0) (te := D1 KQ [] E0 (BJ (Ax 0) (BJ (tC (.int 4)) CF))) rfl (JG (K := K) (pT K (pv 0) AD))
      (CJ rfl rfl (by decide +kernel) (by decide +kernel) (fh _) rfl (fh _)) (λ_ _ _ _ _ => Ah (i := 0) OW rfl (Or.inl rfl)) (λ_ _ _ _ _ => Ae G hr (AA (pv 0) (AA AD AE)))) AE))))), ?_⟩
  refine⟨_, rfl, _, _, _, rfl, C8.AG ha, Jk K _, _, rfl, CG ?_⟩;refine⟨_, rfl, a, _, rfl, .inr (AJ.of ha), rfl, _, rfl, FO rfl ?_⟩;refine⟨_, rfl, 2, rfl, a, _, rfl, AJ.of ha, λz => ?_, λp1 hp1 => ?_⟩
  · have := z.2;rw[a9 (by show 2 <= 3; decide)] at this;cases this
  rw[show Cw [V.ref p, .ref q0, .ref r] none (some 2) = [p, q0].map V.ref by rw[show(some (2 : Int)) = some ((2 : Nat) : Int) from rfl, Mu _ (by show 2 <= 3; decide)]; rfl];obtain⟨H1, zg, s1, e1⟩ := nw hp1 (.AG ([p, q0].map V.ref));rw[zg];have a1 : At AO H1 [p, q0] [W, U] := (At.nil.snoc (R := AO) (b := p) (x := W) (s1 _ _ fW)).snoc (b := q0) (x := U) (s1 _ _ fU);refine⟨p1, [W, U], 2, rfl, ⟨_, e1, a1⟩, rfl, by show 2 <= 1000; decide, λH2 s2 => ⟨_, rfl, CG ?_⟩⟩;have s12 := s1.trans s2;have ha2 := s12 _ _ ha;have hr2 := s12 _ _ hr';refine⟨_, rfl, a, _, _, _, rfl, rfl, AJ.of ha2, Gu _ _ _, _, _, _, rfl, C8.AG hr2, Jk K _, _, rfl, CG ?_⟩;refine⟨_, rfl, a, _, _, _, rfl, rfl, AJ.of ha2, Gu _ _ _, r, _, rfl, .inr (AJ.of hr2), _, rfl, rfl, _, rfl, FO (by rw[ed, lc]) ?_⟩;refine⟨_, rfl, a, _, _, _, rfl, rfl, AJ.of ha2, Gu _ _ _, r, rfl, ⟨_, AJ.of hr2⟩, λacc hacc => ?_⟩;refine CN (HR hr2) (by rw[ed]; omega) hacc (λi ys σ _ => ys = (List.replicate i true).map V.bl /\ ∃u, σ = [u]) ⟨rfl, none, rfl⟩ ?_ ?_
  · rintro i ys σ H3 x H4 hi sm hacc2 ⟨hys, u, rfl⟩ ⟨rfl, hx⟩ C hC2;obtain⟨t, y, rfl, _, hy, ht⟩ := hC.ref hx;have ny := n4 y (eQ hy);refine⟨_, rfl, t, y, 4, rfl, Dz (s12.trans sm) ht, by rw[ny]; rfl, by omega, λH5 s5 => ?_⟩;refine hC2 _ _ _ s5 ⟨?_, _, rfl⟩;rw[hys, jk, fv]; rfl
  rintro ys σ H3 s3 g3 _ ⟨hys, _⟩;refine⟨acc, _, rfl, AM.of (by rw[g3, hys]), ?_⟩;rw[NS];exact q _ (s12.trans s3)
end
def GN(q:Rat):PyData:=.tuple [.int q.num,.int (q.den:Int)]
def Uj(r:List Rat):PyData:=.tuple (r.map GN)
def Sa(W U:Rat)(rows:List (List Rat)):PyData:=.tuple [GN W,GN U,.tuple (rows.map Uj)]
theorem Fz{H:Hp}{p:Addr}{q:Rat}(h:AO H p q):Dn H (.ref p) (GN q):=by
 refine .AG h rfl λi x d e1 e2=>?_
 match i,e1,e2 with
 | 0,e1,e2=>cases e1; cases e2; exact .int _
 | 1,e1,e2=>cases e1; cases e2; exact .int _
 | n+2,e1,e2=>simp at e1
theorem UK{α:Type}{R:Hp->Addr->α->Prop}{D:α->PyData}(hR:∀{H p x},R H p x->Dn H (.ref p) (D x)){H:Hp}{p:Addr}{xs:List α}(h:Az R H p xs):Dn H (.ref p) (.tuple (xs.map D)):=by
 obtain⟨cs,hp,hC⟩:=h;refine .AG hp (by rw[ed,ed,hC.1]) λi x d e1 e2=>?_
 rw[fg] at e1 e2;obtain⟨c,ec,rfl⟩:=Option.map_eq_some_iff.mp e1;obtain⟨y,ey,rfl⟩:=Option.map_eq_some_iff.mp e2;exact hR (hC.2 i c y ec ey)
theorem Qr{H:Hp}{a:Addr}{W U:Rat}{rows:List (List Rat)}(h:Iu H a W U rows):Dn H (.ref a) (Sa W U rows):=by
 obtain⟨p,q,r,ha,fW,fU,fR⟩:=h;refine .AG ha rfl λi x d e1 e2=>?_
 match i,e1,e2 with
 | 0,e1,e2=>cases e1; cases e2; exact Fz fW
 | 1,e1,e2=>cases e1; cases e2; exact Fz fU
 | 2,e1,e2=>cases e1; cases e2; exact UK (R:=Az AO) (D:=Uj) (λh=>UK (R:=AO) (D:=GN) (λh=>Fz h) h) fR
 | n+3,e1,e2=>simp at e1
section
variable {P:Program} {w:World} {K:PySem.W.Frag} {mg:Str->Option Value} {base:Heap} {f g h f1 f2 f3:Addr} {fd gd hd d1 d2 d3:FuncData}
theorem Nw{H:Hp}{Q:VK}{t b:Int}{q:Rat}(hb:BN b)(b0:0<b)(e:BK t b=fr q)(k:L4 H Q q):Nv [.int t,.int b] H Q:=by
 refine⟨t,b,rfl,b0,hb,?_⟩;have e2:=Fj t b (by omega);have e3:((t:Rat) / (b:Rat))=q:=by
  rw[e] at e2;have h1:=congrArg Prod.fst e2;have h2:=congrArg Prod.snd e2;simp only[fr] at h1 h2;exact(Rat.ext h1 (by omega)).symm
 rw[e3];exact k
theorem Ox(x y:Rat):0<(x.den:Int)*(y.den:Int):=Int.mul_pos (by have:=x.den_nz; omega) (by have:=y.den_nz; omega)
theorem cu:A3 ["_law_a","_law_b"] ["_law_a","_law_b"] (Ao s_law_plus):=BC
theorem Xg(F:Ar K "_law_plus" "_law_plus" s_law_plus f fd)(G:AU P w K mg base 2 "_law_fraction" ["_law_top","_law_bottom"] Gg):
  An P w K mg base Ay 3 f fd ["_law_a","_law_b"] (Bm λx y=>x+y):=by
 refine F.BD cu λcdv A outer s H vs Q E hr h=>?_
 obtain⟨p,q,x,y,rfl,hp,hq,sx,sy,k⟩:=h;refine⟨_,AV (Am (Ae G hr (AA (AK BH (AK CA (pT K (pv 0) AD) (pT K (pv 1) AD)) (AK CA (pT K (pv 1) AD) (pT K (pv 0) AD))) (AA (AK CA (pT K (pv 0) AD) (pT K (pv 1) AD)) AE)))),?_⟩;exact⟨_,rfl,p,_,_,_,rfl,rfl,AJ.of hp,A9,_,rfl,q,_,_,_,rfl,rfl,AJ.of hq,As,_,_,rfl,rfl,⟨sx.n,sy.d⟩,_,rfl,q,_,_,_,rfl,rfl,AJ.of hq,A9,_,rfl,p,_,_,_,rfl,rfl,AJ.of hp,As,_,_,rfl,rfl,⟨sy.n,sx.d⟩,_,_,rfl,rfl,
  _,rfl,p,_,_,_,rfl,rfl,AJ.of hp,As,_,rfl,q,_,_,_,rfl,rfl,AJ.of hq,As,_,_,rfl,rfl,⟨sx.d,sy.d⟩,Nw (Sf.dd sx sy) (Ox x y) (OB x y) k⟩
theorem dG:A3 ["_law_a","_law_b"] ["_law_a","_law_b"] (Ao s_law_minus):=BC
theorem Ws(F:Ar K "_law_minus" "_law_minus" s_law_minus f fd)(G:AU P w K mg base 2 "_law_fraction" ["_law_top","_law_bottom"] Gg):
  An P w K mg base Ay 3 f fd ["_law_a","_law_b"] (Bm λx y=>x-y):=by
 refine F.BD dG λcdv A outer s H vs Q E hr h=>?_
 obtain⟨p,q,x,y,rfl,hp,hq,sx,sy,k⟩:=h;refine⟨_,AV (Am (Ae G hr (AA (AK Cq (AK CA (pT K (pv 0) AD) (pT K (pv 1) AD)) (AK CA (pT K (pv 1) AD) (pT K (pv 0) AD))) (AA (AK CA (pT K (pv 0) AD) (pT K (pv 1) AD)) AE)))),?_⟩;exact⟨_,rfl,p,_,_,_,rfl,rfl,AJ.of hp,A9,_,rfl,q,_,_,_,rfl,rfl,AJ.of hq,As,_,_,rfl,rfl,⟨sx.n,sy.d⟩,_,rfl,q,_,_,_,rfl,rfl,AJ.of hq,A9,_,rfl,p,_,_,_,rfl,rfl,AJ.of hp,As,_,_,rfl,rfl,⟨sy.n,sx.d⟩,_,_,rfl,rfl,
  _,rfl,p,_,_,_,rfl,rfl,AJ.of hp,As,_,rfl,q,_,_,_,rfl,rfl,AJ.of hq,As,_,_,rfl,rfl,⟨sx.d,sy.d⟩,Nw (Sf.dd sx sy) (Ox x y) (OJ x y) k⟩
theorem cg:A3 ["_law_a","_law_b"] ["_law_a","_law_b"] (Ao s_law_times):=BC
theorem Ww(F:Ar K "_law_times" "_law_times" s_law_times f fd)(G:AU P w K mg base 2 "_law_fraction" ["_law_top","_law_bottom"] Gg):
  An P w K mg base Ay 3 f fd ["_law_a","_law_b"] (Bm λx y=>x*y):=by
 refine F.BD cg λcdv A outer s H vs Q E hr h=>?_
 obtain⟨p,q,x,y,rfl,hp,hq,sx,sy,k⟩:=h;refine⟨_,AV (Am (Ae G hr (AA (AK CA (pT K (pv 0) AD) (pT K (pv 1) AD)) (AA (AK CA (pT K (pv 0) AD) (pT K (pv 1) AD)) AE)))),?_⟩;exact⟨_,rfl,p,_,_,_,rfl,rfl,AJ.of hp,A9,_,rfl,q,_,_,_,rfl,rfl,AJ.of hq,A9,_,_,rfl,rfl,⟨sx.n,sy.n⟩,
  _,rfl,p,_,_,_,rfl,rfl,AJ.of hp,As,_,rfl,q,_,_,_,rfl,rfl,AJ.of hq,As,_,_,rfl,rfl,⟨sx.d,sy.d⟩,Nw (Sf.dd sx sy) (Ox x y) (OE x y) k⟩
theorem cj:A3 ["_law_a","_law_b"] ["_law_a","_law_b"] (Ao s_law_before):=BC
theorem Vm(F:Ar K "_law_before" "_law_before" s_law_before f fd):An P w K mg base Ay 1 f fd ["_law_a","_law_b"] Iz:=by
 refine F.BD cj λcdv A outer s H vs Q E hr h=>?_
 obtain⟨p,q,x,y,rfl,hp,hq,sx,sy,k⟩:=h;refine⟨_,AV (Am (HX Ht (AK CA (pT K (pv 0) AD) (pT K (pv 1) AD)) (AK CA (pT K (pv 1) AD) (pT K (pv 0) AD)) (BM _))),?_⟩;rw[show decide (x<y)=decide (x.num*(y.den:Int)<y.num*(x.den:Int)) from decide_eq_decide.mpr (Rat.lt_iff x y)] at k;exact⟨_,rfl,p,_,_,_,rfl,rfl,AJ.of hp,A9,_,rfl,q,_,_,_,rfl,rfl,AJ.of hq,As,_,_,rfl,rfl,⟨sx.n,sy.d⟩,_,rfl,q,_,_,_,rfl,rfl,AJ.of hq,A9,_,rfl,p,_,_,_,rfl,rfl,AJ.of hp,As,_,_,rfl,rfl,⟨sy.n,sx.d⟩,_,_,rfl,rfl,k⟩
theorem cC:A3 ["_law_a","_law_b"] ["_law_a","_law_b"] (Ao s_law_in_order):=BC
theorem WY(F:Ar K "_law_in_order" "_law_in_order" s_law_in_order f fd)(G:AU P w K mg base 1 "_law_before" ["_law_a","_law_b"] Iz):An P w K mg base Ay 2 f fd ["_law_a","_law_b"] JD:=by
 refine F.BD cC λcdv A outer s H vs Q E hr h=>?_
 obtain⟨p,q,x,y,rfl,hp,hq,sx,sy,k⟩:=h;refine⟨_,AN (BZ (FH (Ae G hr (AA (pv 1) (AA (pv 0) AE)))) (AV (Am (BP (AA (pv 1) (AA (pv 0) AE))))) Bp) (AV (Am (BP (AA (pv 0) (AA (pv 1) AE))))),?_⟩;refine⟨_,rfl,_,rfl,q,p,y,x,rfl,hq,hp,sy,sx,_,rfl,?_⟩;unfold Kg Kk at k;by_cases z:y<x
 ·rw[ff z,ff z] at k;exact DH z ⟨_,rfl,_,rfl,by exact Bh,λt ht=>k t q p ht hq hp⟩
 ·rw[eZ z,eZ z] at k;exact DL z ⟨_,rfl,_,rfl,by exact Bh,λt ht=>k t p q ht hp hq⟩
theorem Y2{t b:Int}(t0:0<t)(t1:t<=2 ^ 30)(b0:0<b)(b1:b<=2 ^ 30):Sb 30 30 ((t:Rat) / (b:Rat)):=by
 have e:=Fj t b (by omega);have l1:=QO t b (by omega);have l2:=QB t b (by omega);rw[e] at l1 l2;dsimp only at l1 l2;exact⟨by omega,by omega⟩
inductive Qp(vs:List V)(H:Hp)(Q:VK):Prop
 | mk (z:Int) (h_0:vs=[.int z]) (h_1:∀p H' q,AR H H'->AO H' p q->Sb 30 30 q->Q (.ref p) H'):Qp vs H Q
def Nb:Sp:=λvs H Q _=>Qp vs H Q
theorem Uq:A3 ["_law_cell_here","_law_c"] ["_law_cell_here"] (Ao s_law_fall):=BC
theorem Xd(F:Ar K "_law_fall" "_law_fall" s_law_fall f fd)(G:AU P w K mg base 2 "_law_fraction" ["_law_top","_law_bottom"] Gg):
  An P w K mg base Ay 3 f fd ["_law_cell_here"] Nb:=by
 refine F.BD Uq λcdv A outer s H vs Q E hr h=>?_
 obtain⟨z0,rfl,q⟩:=h;refine⟨_,AN (Aa (i:=1) Uq.nd rfl (Or.inl rfl) (AK Bl (pv 0) (AK J7 AD AD)))
  (AN (BZ (BX EF (AK Bl (pv 1) AD) AD (BM _)) (AV (Am (BP (AA AD (AA AD AE))))) Bp)
  (AV (Am (Ae G hr (AA (AK BH AD (AK Bl (AK Dt (pv 1) AD) (pL K (CB (AA AD (AA AD AE))) (AK Cq (AK Bl (pv 1) AD) AD))))
   (AA (AK BH AD (AK Bl (AK Bt (pv 1) AD) (pL K (CB (AA AD (AA AD AE))) (AK Cq (AK Bl (pv 1) AD) AD)))) AE)))))),?_⟩
 have p20:(0:Int)<10 ^ ((20:Int).toNat):=by decide
 refine⟨_,rfl,_,_,rfl,rfl,⟨by decide,by decide,by decide⟩,_,_,rfl,rfl,p20,?_⟩;generalize z0 % 10 ^ ((20:Int).toNat)=z;have c0:=gX z (show(3:Int)≠0 by decide);have c1:=iz z (show(0:Int)<3 by decide);refine⟨_,rfl,_,_,rfl,rfl,(show(0:Int)<3 by decide),rfl,_,rfl,?_⟩;by_cases hz:z % 3=0
 ·refine DH (iv hz) ⟨by exact Bh,λp hp=>?_⟩;exact q p _ 1 (AY hp _) AS ⟨by decide,by decide⟩
 refine DL (E6 hz) ?_;have key:∀(x y:Int),∃u,B7 [V.int x,.int y] (z % 3-1)=some (.int u)/\(u=x\/u=y):=λx y=>by
  rcases(by omega:z % 3=1\/z % 3=2) with e | e
  ·exact⟨x,by rw[e]; exact BF (j:=0) rfl,.inl rfl⟩
  ·exact⟨y,by rw[e]; exact BF (j:=1) rfl,.inr rfl⟩
 obtain⟨u,hu1,hu2⟩:=key 99 999999999;obtain⟨v,hv1,hv2⟩:=key 7 999999937;have u0:0<u:=by omega
 have v0:0<v:=by omega
 refine⟨_,rfl,_,_,rfl,rfl,⟨by decide,by decide⟩,by exact Bh,λl1 h1=>?_⟩;refine⟨_,rfl,_,_,rfl,rfl,(show(0:Int)<3 by decide),_,_,rfl,rfl,l1,_,_,_,rfl,rfl,AM.of AS,hu1,_,_,rfl,rfl,u0,_,_,rfl,rfl,?_⟩;have s1:=AY h1 (.AB [.int 99,.int 999999999]);generalize AF H l1 (.AB [.int 99,.int 999999999])=H1 at s1;refine⟨_,rfl,_,_,rfl,rfl,.inr ⟨by decide,by decide⟩,by exact Bh,λl2 h2=>?_⟩;refine⟨_,rfl,_,_,rfl,rfl,(show(0:Int)<3 by decide),_,_,rfl,rfl,l2,_,_,_,rfl,rfl,AM.of AS,hv1,_,_,rfl,rfl,v0,_,_,rfl,rfl,?_⟩;have s2:=AY h2 (.AB [.int 7,.int 999999937]);generalize AF H1 l2 (.AB [.int 7,.int 999999937])=H2 at s2;have a1:=gX (z / 3) (jj u0);have a2:=iz (z / 3) u0;have b1:=gX (z*48271) (jj v0);have b2:=iz (z*48271) v0;have t30:(2:Int) ^ 30=1073741824:=by decide
 refine⟨_,_,rfl,by omega,Nr (n:=31) (by omega) (by decide),λp hp=>q p _ _ ((s1.trans s2).trans (AY hp _)) AS (Y2 (by omega) (by omega) (by omega) (by omega))⟩
theorem JA(n:Nat)(q:Rat):E2 (n+1) (GN q):=.AG λd hd=>by
 simp only[fE,gE,iO] at hd;rcases hd with rfl | rfl
 ·exact .int _
 ·exact .int _
def EI(X:Nat->Rat)(rs:List AQ)(n j:Nat):List Rat:=(List.range n).map λi=>BB X (rs.take j) i
theorem Iq{X:Nat->Rat}{rs:List AQ}{n j i:Nat}(h:i<n):(EI X rs n j)[i]?=some (BB X (rs.take j) i):=C1 _ h
theorem WK{X:Nat->Rat}{rs:List AQ}{n j:Nat}{r:AQ}(hr:rs[j]?=some r)(h1:r.1<n)(h2:r.2.1<n):
  (((EI X rs n j).set r.1 (BB X (rs.take j) r.1+Al X r)).set r.2.1 ((BB X (rs.take j) r.2.1+if r.2.1=r.1 then Al X r else 0)-Al X r))=EI X rs n (j+1):=by
 refine List.ext_getElem? λi=>?_
 have ll:(EI X rs n j).length=n:=by unfold EI; rw[ed,fK]
 rcases gc i n with hi | hi
 ·rw[Iq hi,MY hr];unfold Cd;by_cases e2:r.2.1=i
  ·subst e2;rw[gp (by rw[iA,ll]; exact h2),ff (show r.2.1=r.2.1 from rfl)];split <;> (congr 1; grind)
  ·rw[gn e2,eZ (show ¬i=r.2.1 from λz=>e2 z.symm)];by_cases e1:r.1=i
   ·subst e1;rw[gp (by rw[ll]; exact h1),ff (show r.1=r.1 from rfl)];congr 1; grind
   ·rw[gn e1,Iq hi,eZ (show ¬i=r.1 from λz=>e1 z.symm)];congr 1; grind
 ·rw[gU (by rw[iA,iA,ll]; exact hi),gU (by unfold EI; rw[ed,fK]; exact hi)]
variable {f4:Addr} {d4:FuncData}
inductive S7(vs:List V)(H:Hp)(Q:VK):Prop
 | mk (a b:Addr) (n:Nat) (rs:List AQ) (X:Nat->Rat) (h_0:vs=[.ref a,.ref b]) (h_1:Ly H a (n+2) rs) (h_2:Az AO H b ((List.range (n+2)).map X)) (h_3:CV n 14 10 10 rs) (h_4:FW n ((8+10*14+10)*n) rs X) (h_5:∀H',AR H H'->Q (.bl true) H'):S7 vs H Q
def OX:Sp:=λvs H Q _=>S7 vs H Q
theorem JI:A3 ["_law_net","_law_tall","_law_sums","_law_one","_law_far","_law_ease_here","_law_run"] ["_law_net","_law_tall"] (Ao s_law_balanced):=BC
theorem cw:(["_law_place"]:List Str).Nodup:=by decide +kernel
theorem cG:(["_law_sum_here"]:List Str).Nodup:=by decide +kernel
set_option maxHeartbeats 4000000 in
seal L2.CW L2.PS L2.PE L2.PA in
theorem aY (F : Ar K "_law_balanced" "_law_balanced" s_law_balanced f fd) (G1 : AU P w K mg base 4 "_law_fractions_are" ["_law_found", "_law_many"] KQ)
    (G2 : AU P w K mg base 3 "_law_times" ["_law_a", "_law_b"] (Bm λx y => x * y))
    (G3 : AU P w K mg base 3 "_law_minus" ["_law_a", "_law_b"] (Bm λx y => x - y))
    (G4 : AU P w K mg base 3 "_law_plus" ["_law_a", "_law_b"] (Bm λx y => x + y)) (mr : mg "range" = none) (ma : mg "all" = none) :
    An P w K mg base Ay 5 f fd ["_law_net", "_law_tall"] OX := by
  refine F.BD JI λcdv A outer s H vs Q E hr h => ?_
  obtain⟨a, b, n, rs, X, rfl, ⟨ra, tv, ha, cs, hra, hRs⟩, ⟨bs, hb, hB⟩, nk, hx, q⟩ := h;have hu := hr.units;have r3 := hr.mono (show 3 <= 4 by decide);refine⟨_, AN (BZ (PW.pt (Hj (Gd (FH (Ae G1 hr (AA (pv 1) (AA (pT K (pv 0) AD) AE)))))
        (Hj (BX (Tj hu) (pT K (pv 1) AD) (BP (AA AD (AA AD AE))) (BM _))
        (J1 (BX (Tj hu) (pT K (pv 1) AD) (BP (AA AD (AA AD AE))) (BM _)))))) (AV (Am Gi)) Bp)
    (AN (IQ (i := 2) JI.nd rfl (Or.inl rfl) (Nc := ["_law_place"]) (cap := []) (g := BQ 0) (te := JK (BJ (tC (.int 0)) (BJ (tC (.int 1)) CF))) rfl (HK (by rfl) mr (AA (pT K (pv 0) AD) AE))
      (CJ rfl rfl (by decide +kernel) (by decide +kernel) (fh _) rfl (fh _)) (λ_ _ _ _ _ => Ah (i := 0) cw rfl (Or.inl rfl)) (λ_ _ _ _ _ => BP (AA AD (AA AD AE))))
    (AN (Bu fT rfl (JG (K := K) (pT K (pv 0) AD)) (DZ (n := 3) (K := K) rfl (BE (Ah (i := 3) JI.nd rfl (Or.inl rfl)) (BE (Ah (i := 4) JI.nd rfl (Or.inl rfl)) (BE (Ah (i := 5) JI.nd rfl (Or.inl rfl)) CO))))
      (AN (Aa (i := 6) JI.nd rfl (Or.inl rfl) (Ae G2 r3 (AA (pv 5) (AA (Ae G3 r3 (AA (pT K (pv 1) (pv 3)) (AA (pT K (pv 1) (pv 4)) AE))) AE))))
      (AN (DF (Ae G4 r3 (AA (pL K (pv 2) (pv 3)) (AA (pv 6) AE))) (EB (pv 2) (pv 3) D9))
      (AV (DF (Ae G3 r3 (AA (pL K (pv 2) (pv 4)) (AA (pv 6) AE))) (EB (pv 2) (pv 4) D9))))))
    (AV (Am (A8 (Kv rfl) (by rfl) ma LP (AA (C3 (Nc := ["_law_sum_here"]) (cap := []) (g := BQ 0) (te := _) rfl (Hn (K := K) (EW (Kl (K := K)) (pv 2) (Dv AD) FC))
      (CJ rfl rfl (by decide +kernel) (by decide +kernel) (fh _) rfl (fh _)) (λ_ _ _ _ _ => Ah (i := 0) cG rfl (Or.inl rfl)) (λ_ _ _ _ _ => HX (Ss hu) (pv 0) (BP (AA AD (AA AD AE))) (BM _))) AE)))))), ?_⟩
  obtain⟨Z, N, z⟩ := hx.T5 nk;have n13 := nk.hb.n13;have lm := nk.len;have lc : cs.length = rs.length := hRs.1;have lb : bs.length = n + 2 := by rw[hB.1, ed, fK]
  have bm : Az AO H b ((List.range (n+2)).map X) := ⟨bs, hb, hB⟩;refine⟨_, rfl, _, rfl, a, _, _, _, rfl, rfl, AJ.of ha, Hv _ _ _, b, _, _, rfl, bm, by rw[ed, fK], by rw[ed, fK]; omega, λH1 s1 => ⟨_, rfl, CG ?_⟩⟩;obtain⟨x0, g0, y0⟩ := hB.get (C1 X (show 0 < n + 2 by omega));obtain⟨x1, g1, y1⟩ := hB.get (C1 X (show 1 < n + 2 by omega));refine⟨_, rfl, b, _, _, _, rfl, rfl, AJ.of (s1 _ _ hb), BF (j := 0) (Be g0), by exact Bh, λt1 ht1 => ?_⟩;have s2 := s1.trans (AY ht1 (.AG [.int 1, .int 1]));have e2 : AO (AF H1 t1 (.AG [.int 1, .int 1])) t1 1 := AS;generalize AF H1 t1 (.AG [.int 1, .int 1]) = H2 at s2 e2;rw[hx.x0] at y0;refine⟨3, GN 1, by decide, Fz (AZ s2 y0), Fz e2, JA 2 _, _, rfl, CG ?_⟩;refine⟨_, rfl, b, _, _, _, rfl, rfl, AJ.of (s2 _ _ hb), BF (j := 1) (Be g1), by exact Bh, λt2 ht2 => ?_⟩;have s3 := s2.trans (AY ht2 (.AG [.int 0, .int 1]));have e3 : AO (AF H2 t2 (.AG [.int 0, .int 1])) t2 0 := AS;generalize AF H2 t2 (.AG [.int 0, .int 1]) = H3 at s3 e3;rw[hx.x1] at y1;refine⟨3, GN 0, by decide, Fz (AZ s3 y1), Fz e3, JA 2 _, _, rfl, CG ?_⟩;clear g0 g1 x0 x1 y0 y1 e2 e3;refine⟨_, rfl, a, _, _, _, rfl, rfl, AJ.of (s3 _ _ ha), Hv _ _ _, ((n + 2 : Nat) : Int), rfl, by omega, by omega, λacc hacc => ?_⟩;rw[show(((n + 2 : Nat) : Int)).toNat = n + 2 by omega];refine CN MU (by omega) hacc (λi ys σ Hq => ∃ds : List Addr, ys = ds.map V.ref /\ At AO Hq ds ((EI X rs (n+2) 0).take i) /\ ∃u, σ = [u]) ⟨[], rfl, At.nil, none, rfl⟩ ?_ ?_
  · rintro i ys σ H4 x H5 hi sm hacc2 ⟨ds, rfl, hD, u, rfl⟩ ⟨rfl, rfl⟩ Cc hC;refine⟨by exact Bh, λt ht => ?_⟩;have st := AY ht (.AG [.int 0, .int 1]);have et : AO (AF H5 t (.AG [.int 0, .int 1])) t 0 := AS;refine hC _ _ _ st ⟨ds ++ [t], by simp, ?_, _, rfl⟩;rw[Cm (Iq hi)];exact(hD.keep AZ (EX acc st)).snoc (AO.Ba (q := BB X (rs.take 0) i) et (st _ _ hacc2))
  rintro ys σ H4 s4 ha4 hl4 ⟨gs, rfl, hG, u, rfl⟩;rw[fH (by unfold EI; rw[ed, fK]; exact eU _)] at hG;replace hG := hG.keep AZ (Dw H4 acc);have s04 := s3.trans s4;have fA : H acc = none := s3.free hacc;refine⟨_, rfl, a, _, _, _, rfl, rfl, AJ.of (s04 _ _ ha), Di _ _ _, ra, rfl, ⟨_, AJ.of (s04 _ _ hra)⟩, ?_⟩;refine HS (xs := cs.map V.ref) (λj σ H5 => ∃u3 u4 u5 u6 ds, σ = [some (.ref a), some (.ref b), some (.ref acc), u3, u4, u5, u6] /\ AR H H5 /\ H5 acc = some (.AB (ds.map V.ref)) /\ At AO H5 ds (EI X rs (n+2) j))
    ⟨none, none, none, none, gs, rfl, s04, ha4, hG⟩ (λj σ H5 _ ⟨_, _, _, _, _, _, s5, _⟩ => AJ.of (s5 _ _ hra)) ?_ ?_
  · rintro j x σ H5 hx5 ⟨u3, u4, u5, u6, ds, rfl, s5, e5, hD⟩;obtain⟨c, r, rfl, _, hy, e, hc, he⟩ := hRs.ref hx5;have rm := eQ hy;have jl := (eu.mp hy).1;obtain⟨r1, r2⟩ := nk.two r rm;obtain⟨x1, g1, y1⟩ := hB.get (C1 X r1);obtain⟨x2, g2, y2⟩ := hB.get (C1 X r2);refine⟨c, _, rfl, AJ.of (s5 _ _ hc), rfl, _, _, rfl, _, _, rfl, _, _, rfl, rfl, ?_⟩;refine⟨_, rfl, _, rfl, _, rfl, b, _, _, _, rfl, rfl, AJ.of (s5 _ _ hb), BF (Be g1), _, rfl, _, rfl, b, _, _, _, rfl, rfl, AJ.of (s5 _ _ hb), BF (Be g2), x1, x2, _, _, rfl, AZ s5 y1, AZ s5 y2, z.hs _ r1, z.hs _ r2, λt1 ht1 => ?_⟩;obtain⟨H6, zg, s6, f6⟩ := HG ht1 (X r.1 - X r.2.1);rw[zg];have s06 := s5.trans s6;have e6 := s6 _ _ e5;have hD6 := hD.keep AZ s6;refine⟨e, t1, _, _, rfl, AZ s06 he, f6, z.es r rm, z.fs r rm, λt2 ht2 => ?_⟩;obtain⟨H7, zg, s7, zz⟩ := nw ht2 (.AG [.int (r.2.2 * (X r.1 - X r.2.1)).num, .int (r.2.2 * (X r.1 - X r.2.1)).den]);rw[zg];have f7 : AO H7 t2 (Al X r) := zz;have s07 := s06.trans s7;have e7 := s7 _ _ e6;have hD7 := hD6.keep AZ s7;have su := λi => z.sum i j (by omega)
    have ru := z.ru r rm;have sr : Sf (Al X r) := ru.sf z.z0 z.zl (by decide) z.nl;have ld : ds.length = n + 2 := by rw[hD7.1]; unfold EI; rw[ed, fK]
    obtain⟨w1, p1, v1⟩ := hD7.get (Iq r1);refine⟨_, rfl, _, rfl, acc, _, _, _, rfl, rfl, AM.of e7, BF (Be p1), _, rfl, w1, t2, _, _, rfl, v1, f7, (su _).sf z.z0 z.zl (by omega) z.nl, sr, λt3 ht3 => ?_⟩;obtain⟨H8, zg, s8, f8⟩ := HG ht3 (BB X (rs.take j) r.1 + Al X r);rw[zg];have s08 := s07.trans s8;have e8 := s8 _ _ e7;have f78 := AZ s8 f7;have hD8 := hD7.keep AZ s8;refine⟨_, rfl, _, rfl, acc, _, _, _, rfl, rfl, e8, Jx (by rw[ed]; omega), ?_⟩;have hD9 := LQ (hD8.set r.1 f8) e8 (.AB ((ds.map V.ref).set r.1 (.ref t3)));have f79 : AO (AF H8 acc (.AB ((ds.map V.ref).set r.1 (.ref t3)))) t2 (Al X r) := AZ (LM H8 acc _) (AO.Ba f78 e8);have s09 := s08.up fA (.AB ((ds.map V.ref).set r.1 (.ref t3)));have e9 : (AF H8 acc (.AB ((ds.map V.ref).set r.1 (.ref t3)))) acc = some (.AB ((ds.set r.1 t3).map V.ref)) := by rw[AS, jo]
    generalize AF H8 acc (.AB ((ds.map V.ref).set r.1 (.ref t3))) = H9 at hD9 f79 s09 e9;have gv : ((EI X rs (n+2) j).set r.1 (BB X (rs.take j) r.1 + Al X r))[r.2.1]? = some (BB X (rs.take j) r.2.1 + if r.2.1 = r.1 then Al X r else 0) := by
      by_cases e : r.1 = r.2.1
      · rw[<- e, gp (by unfold EI; rw[ed, fK]; exact r1), ff rfl]
      · rw[gn e, Iq r2, eZ (λq => e q.symm)];congr 1; grind
    obtain⟨w2, p2, v2⟩ := hD9.get gv;have uv : Uw Z N 30 (BB X (rs.take j) r.2.1 + if r.2.1 = r.1 then Al X r else 0) := by
      split
      · exact((su _).DS ru).mono (by omega)
      · rw[Rat.add_zero]; exact(su _).mono (by omega)
    refine⟨_, rfl, _, rfl, acc, _, _, _, rfl, rfl, AM.of e9, BF (Be p2), _, rfl, w2, t2, _, _, rfl, v2, f79, uv.sf z.z0 z.zl (by decide) z.nl, sr, λt4 ht4 => ?_⟩;have hE := WK (X := X) hy r1 r2;generalize (BB X (rs.take j) r.2.1 + if r.2.1 = r.1 then Al X r else 0) = ov at *;obtain⟨HA, zg, sA, fA4⟩ := HG ht4 (ov - Al X r);rw[zg];have s0A := s09.trans sA;have eA := sA _ _ e9;have hDA := hD9.keep AZ sA;refine⟨_, rfl, _, rfl, acc, _, _, _, rfl, rfl, eA, Jx (by rw[ed, iA]; omega), ?_⟩;have hDB := LQ (hDA.set r.2.1 fA4) eA (.AB (((ds.set r.1 t3).map V.ref).set r.2.1 (.ref t4)));rw[hE] at hDB;exact⟨_, _, _, _, (ds.set r.1 t3).set r.2.1 t4, rfl, s0A.up fA _, by rw[AS]; simp only[jo], hDB⟩
  · rintro σ H5 ⟨u3, u4, u5, u6, ds, rfl, s5, e5, hD⟩;rw[ed, lc] at hD;have ld : ds.length = n + 2 := by rw[hD.1]; unfold EI; rw[ed, fK]
    refine⟨_, rfl, 2, rfl, acc, _, rfl, AM.of e5, λsl hsl => ?_⟩;rw[show Cw (ds.map V.ref) (some 2) none = (ds.drop 2).map V.ref by rw[show(some (2 : Int)) = some ((2 : Nat) : Int) from rfl, HN _ (by rw[ed]; omega), List.map_drop]];obtain⟨H6, zg, s6, e6⟩ := nw hsl (.AB ((ds.drop 2).map V.ref));rw[zg];have hD6 := (hD.keep AZ s6).drop 2;refine⟨sl, rfl, ⟨_, AM.of e6⟩, λac2 hac2 => ?_⟩;refine CN (Fl e6) (by rw[ed, gN]; omega) hac2 (λi ys σ _ => ys = (List.replicate i true).map V.bl /\ ∃u, σ = [u]) ⟨rfl, none, rfl⟩ ?_ ?_
    · rintro i ys σ H7 x H8 hi sm hacc2 ⟨hys, u, rfl⟩ ⟨rfl, hx7⟩ C hC2;obtain⟨t, y, rfl, _, hy, ht⟩ := hD6.ref hx7;have hi2 : i + 2 < n + 2 := by rw[ed, gN] at hi; omega
      rw[je, show 2 + i = i + 2 by omega, Iq hi2] at hy;cases hy;have y0 := hx.bal (i+2) (by omega) hi2;rw[iG] at ht;rw[y0] at ht;refine⟨_, rfl, by exact Bh, λt3 ht3 => ?_⟩;have s9 := AY ht3 (.AG [.int 0, .int 1]);have f9 : AO (AF H8 t3 (.AG [.int 0, .int 1])) t3 0 := AS;refine⟨3, GN 0, by decide, Fz (AZ (sm.trans s9) ht), Fz f9, JA 2 _, ?_⟩;refine hC2 _ _ _ s9 ⟨?_, _, rfl⟩;rw[hys, jk, fv]; rfl
    rintro ys σ H7 s7 g7 _ ⟨hys, _⟩;refine⟨ac2, _, rfl, AM.of (by rw[g7, hys]), ?_⟩;rw[NS];exact q _ ((s5.trans s6).trans s7)
inductive QA(vs:List V)(H:Hp)(Q:VK):Prop
 | mk (a b c ra ta:Addr) (n:Nat) (rs:List AQ) (ts:List (List Int)) (X:Nat->Rat) (F:Rat) (p:Int->Rat) (Z:Int) (N:Nat) (h_0:vs=[.ref a,.ref b,.ref c]) (h_1:H a=some (.AG [.int ((n+2:Nat):Int),.ref ra,.ref ta])) (h_2:Az Bf H ra rs) (h_3:Az BS H ta ts) (h_4:Az AO H b ((List.range (n+2)).map X)) (h_5:AO H c F) (h_6:PK n rs ts X F p Z N)
  (h_7:∀q H',AR H H'->Ed AO H' q ((List.range (2*rs.length+2)).map λe:Nat=>p (e:Int))->(∀x,AH (2*rs.length+2) x->Sf (p x))->Q (.ref q) H'):QA vs H Q
def Mn:Sp:=λvs H Q _=>QA vs H Q
theorem EJ:A3 ["_law_net","_law_tall","_law_fall_here","_law_home","_law_lands_here","_law_number","_law_ring","_law_end","_law_known","_law_turn","_law_k","_law_rope","_law_wide","_law_first","_law_second"] ["_law_net","_law_tall","_law_fall_here"] (Ao s_law_across):=BC
theorem bP:(["_law_end","_law_known","_law_home"]:List Str).Nodup:=by decide +kernel
set_option maxHeartbeats 4000000 in
seal L2.CW L2.PS L2.PE L2.PA in
theorem Wh (F0:Ar K "_law_across" "_law_across" s_law_across f fd) (G1:AU P w K mg base 2 "_law_lands" ["_law_turns"] NC)
  (G2:AU P w K mg base 3 "_law_times" ["_law_a","_law_b"] (Bm λx y=>x*y))
  (G3:AU P w K mg base 3 "_law_minus" ["_law_a","_law_b"] (Bm λx y=>x-y))
  (G4:AU P w K mg base 3 "_law_plus" ["_law_a","_law_b"] (Bm λx y=>x+y)) (mr:mg "range" = none) (ml:mg "len" = none) (me:mg "enumerate" = none) :
  An P w K mg base Ay 4 f fd ["_law_net","_law_tall","_law_fall_here"] Mn:=by
 refine F0.BD EJ λcdv A outer s H vs Q E hr h=>?_
 obtain⟨a,b,c,ra,ta,n,rs,ts,X,F,p,Z,N,rfl,ha,⟨cs,hra,hRs⟩,⟨tb,hta,hTa⟩,⟨bs,hb,hB⟩,hc,ly,q⟩:=h;have hu:=Eu hr;have r2:=hr.mono (show 2<=3 by decide);refine⟨_,AN (Aa (i:=3) EJ.nd rfl (Or.inr rfl) IX)
  (AN (Aa (i:=4) EJ.nd rfl (Or.inl rfl) (Ae G1 r2 (AA (pT K (pv 0) AD) AE)))
  (AN (Bu fT rfl (Ib (by rfl) me (AA (pv 4) AE)) (DZ (n:=2) (K:=K) rfl (BE (Ah (i:=5) EJ.nd rfl (Or.inl rfl)) (BE (Ah (i:=6) EJ.nd rfl (Or.inl rfl)) CO)))
   (AV (Bu fT rfl (JG (K:=K) (pv 6)) (Ah (i:=7) EJ.nd rfl (Or.inl rfl)) (AV (EZ hu (pv 3) (pv 7) (pv 5) rfl)))))
  (AN (Aa (i:=8) EJ.nd rfl (Or.inr rfl) (Nd (Kz (DE hu (pv 3) (AK Bt AD (A8 (Bs (K:=K)) (by rfl) ml BR (AA (pT K (pv 0) AD) AE))) (λ_ _=>rfl)) (BP (AA AD (AA AD AE))) NU) rfl rfl (λz=>by cases z) (by decide)))
  (AN (Bu fT rfl (HK (by rfl) mr (AA (A8 (Bs (K:=K)) (by rfl) ml BR (AA (pv 4) AE)) AE)) (Ah (i:=9) EJ.nd rfl (Or.inl rfl))
   (AV (Bu fT rfl (HW (by rfl) me (AA (pT K (pv 0) AD) AE)) (DZ (n:=2) (K:=K) rfl (BE (Ah (i:=10) EJ.nd rfl (Or.inl rfl)) (BE (Ah (i:=11) EJ.nd rfl (Or.inl rfl)) CO)))
    (AN (Aa (i:=12) EJ.nd rfl (Or.inl rfl) (Ae G2 hr (AA (pv 2) (AA (Ae G2 hr (AA (pT K (pv 11) AD) (AA (Ae G3 hr (AA (pT K (pv 1) (pT K (pv 11) AD)) (AA (pT K (pv 1) (pT K (pv 11) AD)) AE))) AE))) AE))))
    (AN (Aa (i:=13) EJ.nd rfl (Or.inl rfl) (DE hu (pv 3) (AK Bt AD (pv 10)) (λ_ _=>rfl)))
    (AN (Aa (i:=14) EJ.nd rfl (Or.inl rfl) (DE hu (pv 3) (AK BH (AK Bt AD (pv 10)) AD) (λ_ _=>rfl)))
    (AN (BZ (PW.pt (LS (Fq (Jg hu (pv 13) (pv 8))) (LG (Fq (LU hu (pv 14) (pv 8))))))
     (AV (EZ hu (pv 8) (pv 13) (Ae G4 hr (AA (DE hu (pv 8) (pv 14) (λ_ _=>rfl)) (AA (pv 12) AE))) rfl)) Bp)
    (AV (BZ (PW.pt (LS (Fq (Jg hu (pv 14) (pv 8))) (LG (Fq (LU hu (pv 13) (pv 8))))))
     (AV (EZ hu (pv 8) (pv 14) (Ae G3 hr (AA (DE hu (pv 8) (pv 13) (λ_ _=>rfl)) (AA (pv 12) AE))) rfl)) Bp))))))))
  )
  (AV (Am (C3 (Nc:=["_law_end","_law_known","_law_home"]) (cap:=[(1,8),(2,3)]) (g:=BQ 0) (te:=JE (Ax 1) (JE (Ax 2) (Ax 0))) rfl (HK (by rfl) mr (AA (AK BH (AK Bt AD (A8 (Bs (K:=K)) (by rfl) ml BR (AA (pT K (pv 0) AD) AE))) AD) AE))
   (CJ rfl rfl (by decide +kernel) (by decide +kernel) (ft.mpr ⟨⟨rfl,rfl⟩,ft.mpr ⟨⟨rfl,rfl⟩,fh _⟩⟩) rfl (ft.mpr ⟨⟨_,_,rfl,rfl,rfl,rfl,rfl⟩,ft.mpr ⟨⟨_,_,rfl,rfl,rfl,rfl,rfl⟩,fh _⟩⟩))
   (λ_ _ _ _ _=>Ah (i:=0) bP rfl (Or.inl rfl)) (λ_ _ _ _ _=>DE hu (pv 1) (DE hu (pv 2) (pv 0) (λ_ _=>rfl)) (λ_ _=>rfl)))))))))
  ,?_⟩
 have D:=ly.ld;have m14:=D.m14;have lc:cs.length=rs.length:=hRs.1;have PM:=D.tn.perm;have ndL:=Jp PM;have L30:=D.le;have flen:=Pd PM;intro hm hhm;obtain⟨H0,zg,s0,e0⟩:=nw hhm (.dK []);rw[zg];refine⟨_,rfl,a,_,_,_,rfl,rfl,AJ.of (s0 _ _ ha),Gu _ _ _,ta,tb,ts,2*rs.length+2,rfl,⟨s0 _ _ hta,hTa.1,λi c row e1 e2=>s0 _ _ (hTa.2 i c row e1 e2)⟩,D.tn,by omega,λL es H1 s1 nL hL hE=>?_⟩;have e1:=s1 _ _ e0;have hmL:L≠hm:=λz=>by rw[z,e0] at nL; cases nL
 refine⟨_,rfl,L,_,rfl,hL,?_⟩;refine Jf (xs:=es.map V.ref) (λj σ H2=>∃u5 u6 u7,σ=[some (.ref a),some (.ref b),some (.ref c),some (.ref hm),some (.ref L),u5,u6,u7,none,none,none,none,none,none,none]/\B6 hm H1 H2/\H2 hm=some (.dK (A7 (CH 0 ((Aw (AL ts) (2*rs.length+2)).take j))))) ⟨none,none,none,rfl,B6.refl _ _,e1⟩
  (λj σ H2 _ ⟨_,_,_,_,sb,_⟩=>sb _ _ hmL hL) ?_ ?_
 ·rintro j x σ H2 tp hx ⟨u5,u6,u7,rfl,sb,hd2⟩ htp;obtain⟨bb,row,rfl,hbb,hrow,hB1⟩:=hE.ref hx;have bd:bb≠hm:=λz=>by rw[z] at hB1; unfold BS at hB1; rw[e1] at hB1; cases hB1
  have s3:=AY htp (.AG [.int j,.ref bb]);refine⟨tp,_,rfl,AJ.of AS,rfl,_,_,rfl,_,_,rfl,rfl,?_⟩;have hB3:=s3 _ _ (sb _ _ bd hB1);refine⟨_,rfl,bb,rfl,⟨_,AJ.of hB3⟩,?_⟩;refine HS (xs:=row.map V.int) (λk σ H4=>∃en,σ=[some (.ref a),some (.ref b),some (.ref c),some (.ref hm),some (.ref L),some (.int j),some (.ref bb),en,none,none,none,none,none,none,none]/\B6 hm H1 H4/\H4 hm=some (.dK (A7 (CH 0 ((Aw (AL ts) (2*rs.length+2)).take j)++(row.take k).map λe=>(e,(j:Int))))))
   ⟨u7,rfl,sb.trans (AR.b s3),by rw[List.take_zero,gY,iF]; exact s3 _ _ hd2⟩ (λk σ H4 _ ⟨_,_,sb4,_⟩=>AJ.of (sb4 _ _ bd hB1)) ?_ ?_
  ·rintro k x σ H4 hx4 ⟨en4,rfl,sb4,hd4⟩;obtain⟨e,rfl,he⟩:=Ep hx4;have ky:=Qu hrow k;refine⟨_,rfl,_,rfl,_,rfl,hm,_,rfl,DR.k (k:=Sum.inl e) hd4 ?_,?_⟩
   ·have l1:=congrArg List.length ky;rw[ed] at l1;rw[ed,l1]
    have:=Qt hrow k
    exact Ca (by omega)
   ·refine⟨_,rfl,sb4.put _,?_⟩;rw[AS,GY (by rw[ky]; exact Jh ndL hrow he),gW,Dr he,fv];rfl
  ·rintro σ H4 ⟨en4,rfl,sb4,hd4⟩;refine⟨_,_,_,rfl,sb4,?_⟩;rw[hd4,ed,iG,Qz hrow]
 rintro σ H2 ⟨u5,u6,u7,rfl,sb,hd2⟩;rw[ed,fH (by rw[hE.1]; exact eU _)] at hd2;have s02:AR H H2:=sb.same (s0.trans s1) hhm;have hL2:=sb _ _ hmL hL;have el:es.length=BV rs ts:=hE.1;clear sb hL hE e1 e0;have gH:∀{x:Int},AH (2*rs.length+2) x->∀{H'},AR H2 H'->CT H' hm (.int x) (some (.int (Aj rs ts x))):=λ{x} hx {H'} s=>Im (s _ _ hd2) (SX ndL ((IT PM).mpr hx))
 have i0:AH (2*rs.length+2) (2*(rs.length:Int)):=⟨by omega,by push_cast; omega⟩;intro d hd;obtain⟨H3,zg,s3,e3⟩:=nw hd (.dK []);rw[zg];refine⟨_,rfl,_,rfl,a,_,_,_,rfl,rfl,AJ.of (s3 _ _ (s02 _ _ ha)),Di _ _ _,ra,_,rfl,.inr (AJ.of (s3 _ _ (s02 _ _ hra))),?_⟩;rw[ed,lc];refine⟨_,_,rfl,rfl,.inl ⟨by decide,by decide⟩,hm,_,rfl,gH i0 s3,by exact Bh,λz hz=>?_⟩;obtain⟨H4,zg,s4,zz⟩:=nw hz (.AG [.int 0,.int 1]);rw[zg];have fz:AO H4 z 0:=zz;have e4:=s4 _ _ e3;refine⟨e4,[(Sum.inl (Aj rs ts (2*(rs.length:Int))),.ref z)],rfl,by show 1<=15; decide,?_⟩;have s5:AR H2 (AF H4 d (.dK (Dx [] [((Sum.inl (Aj rs ts (2*(rs.length:Int))):AX),V.ref z)]))):=(s3.trans s4).up hd _;have e5:(AF H4 d (.dK (Dx [] [((Sum.inl (Aj rs ts (2*(rs.length:Int))):AX),V.ref z)]))) d=some (.dK (B9 [(Aj rs ts (2*(rs.length:Int)),z)])):=AS;have k5:Bd (AF H4 d (.dK (Dx [] [((Sum.inl (Aj rs ts (2*(rs.length:Int))):AX),V.ref z)]))) (BV rs ts) (C9 ts (2*rs.length+2) p) Z N [(Aj rs ts (2*(rs.length:Int)),z)] :=
  (Bd.Af (D.in i0) fz (by rw[D.at i0]; exact D.pp.o)).Ls e4 _
 generalize AF H4 d (.dK (Dx [] [((Sum.inl (Aj rs ts (2*(rs.length:Int))):AX),V.ref z)]))=H5 at s5 e5 k5;clear s3 s4 e3 e4 fz;refine⟨_,rfl,L,_,rfl,.inl (AM.of (s5 _ _ hL2)),_,rfl,by rw[ed,el]; omega,by rw[ed,el]; omega,?_⟩;rw[ed,el,show(((BV rs ts:Nat):Int)).toNat=BV rs ts by omega];refine Kt (n:=BV rs ts) (λi σ H6=>∃l u9 u10 u11 u12 u13 u14,σ=[some (.ref a),some (.ref b),some (.ref c),some (.ref hm),some (.ref L),u5,u6,u7,some (.ref d),u9,u10,u11,u12,u13,u14]/\AR H2 H6/\H6 d=some (.dK (B9 l))/\Bd H6 (BV rs ts) (C9 ts (2*rs.length+2) p) Z N l/\Aj rs ts (2*(rs.length:Int))∈l.map (·.1)/\(i<l.length\/BV rs ts<=l.length))
  ⟨_,none,none,none,none,none,none,rfl,s5,e5,k5,by simp,.inl (by simp)⟩ ?_ ?_
 ·rintro i σ H6 hi ⟨l,u9,u10,u11,u12,u13,u14,rfl,s6,hd6,k6,c6,le6⟩;have s06:=s02.trans s6;refine⟨_,rfl,a,_,_,_,rfl,rfl,AJ.of (s06 _ _ ha),Di _ _ _,ra,_,rfl,s06 _ _ hra,?_⟩;refine Ig (xs:=cs.map V.ref) (λj σ H7=>∃l' u10 u11 u12 u13 u14,σ=[some (.ref a),some (.ref b),some (.ref c),some (.ref hm),some (.ref L),u5,u6,u7,some (.ref d),some (.int ((0:Int)+(i:Nat))),u10,u11,u12,u13,u14]/\AR H2 H7/\H7 d=some (.dK (B9 l'))/\Bd H7 (BV rs ts) (C9 ts (2*rs.length+2) p) Z N l'/\Aj rs ts (2*(rs.length:Int))∈l'.map (·.1)/\l.length<=l'.length /\
    (l'.length=l.length->l'=l/\∀k:Nat,k<j->(Aj rs ts (2*(k:Int))∈l.map (·.1)↔Aj rs ts (2*(k:Int)+1)∈l.map (·.1))))
   ⟨l,u10,u11,u12,u13,u14,rfl,s6,hd6,k6,c6,eU _,λ_=>⟨rfl,λk hk=>absurd hk (Nat.not_lt_zero _)⟩⟩ (λj σ H7 _ ⟨_,_,_,_,_,_,_,s7,_⟩=>(s02.trans s7) _ _ hra) ?_ ?_
  ·rintro j x σ H7 tp hx ⟨l',v10,v11,v12,v13,v14,rfl,s7,hd7,k7,c7,le7,cl7⟩ htp;obtain⟨rp,r,rfl,_,hy,e,hrp,he⟩:=hRs.ref hx;have jl:=(eu.mp hy).1;have rm:=eQ hy;obtain⟨r1,r2'⟩:=ly.nk.two r rm;obtain⟨x1,g1,y1⟩:=hB.get (C1 X r1);obtain⟨x2,g2,y2⟩:=hB.get (C1 X r2');have i0:AH (2*rs.length+2) (2*(j:Int)):=⟨by omega,by push_cast; omega⟩;have i1:AH (2*rs.length+2) (2*(j:Int)+1):=⟨by omega,by push_cast; omega⟩;obtain⟨H8,zg,s8,e8⟩:=nw htp (.AG [.int (j:Int),.ref rp]);rw[zg];have hd8:=s8 _ _ hd7;have k8:=k7.keep s8;have s28:=s7.trans s8;have s08:=s02.trans s28;refine⟨tp,_,rfl,AJ.of e8,rfl,_,_,rfl,_,_,rfl,rfl,?_⟩;refine⟨_,rfl,_,rfl,rp,_,_,_,rfl,rfl,AJ.of (s08 _ _ hrp),Gu _ _ _,_,rfl,_,rfl,rp,_,_,_,rfl,rfl,AJ.of (s08 _ _ hrp),Hv _ _ _,b,_,_,_,rfl,rfl,AJ.of (s08 _ _ hb),BF (Be g1),
    _,rfl,_,rfl,rp,_,_,_,rfl,rfl,AJ.of (s08 _ _ hrp),Di _ _ _,b,_,_,_,rfl,rfl,AJ.of (s08 _ _ hb),BF (Be g2),x1,x2,_,_,rfl,AZ s08 y1,AZ s08 y2,ly.hf.hs _ r1,ly.hf.hs _ r2',λt1 ht1=>?_⟩
   obtain⟨H9,zg,s9,f9⟩:=HG ht1 (X r.1-X r.2.1);rw[zg];have s09:=s08.trans s9;have hd9:=s9 _ _ hd8;refine⟨e,t1,_,_,rfl,AZ s09 he,f9,ly.hf.es r rm,ly.hf.fs r rm,λt2 ht2=>?_⟩;obtain⟨HA,zg,sA,zz⟩:=nw ht2 (.AG [.int (r.2.2*(X r.1-X r.2.1)).num,.int (r.2.2*(X r.1-X r.2.1)).den]);rw[zg];have fA:AO HA t2 (Al X r):=zz;have s0A:=s09.trans sA;have hdA:=sA _ _ hd9;refine⟨c,t2,_,_,rfl,AZ s0A hc,fA,ly.hf.sF,ly.hf.rx r rm,λwd hwd=>?_⟩;have ew:F*Al X r=Al (λj=>X j*F) r:=by unfold Al; grind
   rw[ew];obtain⟨HB,zg,sB,fc⟩:=HG hwd (Al (λj=>X j*F) r);rw[zg];have s8B:=(s9.trans sA).trans sB;have hdB:=s8B _ _ hd8;have kB:=k8.keep s8B;have s2B:=s28.trans s8B;clear sA fA s0A hdA f9 s09 hd9 s9 s8 e8 hd8 k8 s28 s08;refine⟨_,rfl,_,rfl,_,_,rfl,rfl,.inl ⟨by decide,by decide⟩,hm,_,rfl,gH i0 s2B,?_⟩;refine⟨_,rfl,_,rfl,_,_,rfl,rfl,.inl ⟨by decide,by decide⟩,_,_,rfl,rfl,hm,_,rfl,gH i1 s2B,?_⟩;obtain⟨stR,stL⟩:=D.step kB hy;have ruS:=D.sf (D.wd.ru r rm) (by decide);have kl:=kB.len;have szK:(B9 l').length<sizeLine:=by rw[ed]; exact Ca (by omega)
   have q1:=CT.k (k:=Sum.inl (Aj rs ts (2*(j:Int)+1))) hdB;have q0:=CT.k (k:=Sum.inl (Aj rs ts (2*(j:Int)))) hdB;have same:∀(h:Aj rs ts (2*(j:Int))∈l'.map (·.1)↔Aj rs ts (2*(j:Int)+1)∈l'.map (·.1)),l'.length=l.length->l'=l/\∀k:Nat,k<j+1->(Aj rs ts (2*(k:Int))∈l.map (·.1)↔Aj rs ts (2*(k:Int)+1)∈l.map (·.1)):=λh z=>by
    obtain⟨rfl,c2⟩:=cl7 z;refine⟨rfl,λk hk=>?_⟩;rcases gc k j with y | y
    ·exact c2 k y
    ·obtain rfl:k=j:=by omega
     exact h
   have more:∀(e:Int) (t:Addr) (H8:Hp),e∉l'.map (·.1)->AR HB H8->Bd H8 (BV rs ts) (C9 ts (2*rs.length+2) p) Z N (l'++[(e,t)])->AR H2 (AF H8 d (.dK (Bw (B9 l') (Sum.inl e:AX) (.ref t))))/\(AF H8 d (.dK (Bw (B9 l') (Sum.inl e:AX) (.ref t)))) d=some (.dK (B9 (l'++[(e,t)])))/\Bd (AF H8 d (.dK (Bw (B9 l') (Sum.inl e:AX) (.ref t)))) (BV rs ts) (C9 ts (2*rs.length+2) p) Z N (l'++[(e,t)])/\Aj rs ts (2*(rs.length:Int))∈(l'++[(e,t)]).map (·.1)/\l.length<=(l'++[(e,t)]).length /\
     ((l'++[(e,t)]).length=l.length->(l'++[(e,t)])=l/\∀k:Nat,k<j+1->(Aj rs ts (2*(k:Int))∈l.map (·.1)↔Aj rs ts (2*(k:Int)+1)∈l.map (·.1))):=λe t H8 hn s8 k8=>by
    refine⟨(s2B.trans s8).up hd _,by rw[AS,R6 hn],k8.Ls (s8 _ _ hdB) _,by rw[fv]; exact fm.mpr (.inl c7),by rw[fj]; omega,λz=>?_⟩;rw[fj,iu] at z;omega
   refine⟨_,rfl,_,rfl,d,_,rfl,q0,_,rfl,?_⟩;by_cases h0:Aj rs ts (2*(j:Int))∈l'.map (·.1)
   ·obtain⟨ar,_,vr,fr,sr,addL⟩:=stL h0;rw[vr];rw[vr] at q0;refine CG (CG ?_);refine⟨_,rfl,_,rfl,d,_,rfl,q1,_,rfl,?_⟩;by_cases h1:Aj rs ts (2*(j:Int)+1)∈l'.map (·.1)
    ·obtain⟨al,_,vl,fl,sl,addR⟩:=stR h1;rw[vl];refine CG (CG ?_);exact⟨l',_,_,_,_,_,rfl,s2B,hdB,kB,c7,le7,same ⟨λ_=>h1,λ_=>h0⟩⟩
    ·rw[Ek h1];refine Dk ?_;refine⟨_,rfl,_,rfl,d,_,rfl,q0,_,rfl,Dk ?_⟩;refine⟨_,rfl,_,rfl,d,_,rfl,q0,_,rfl,ar,wd,_,_,rfl,fr,fc,sr,ruS,λt ht=>?_⟩;have sD:=AY ht (.AG [.int (p (2*(j:Int))-Al (λj=>X j*F) r).num,.int (p (2*(j:Int))-Al (λj=>X j*F) r).den]);exact⟨_,rfl,_,rfl,d,_,rfl,DR.k (k:=Sum.inl (Aj rs ts (2*(j:Int)+1))) (sD _ _ hdB) szK,_,_,_,_,_,_,rfl,more _ t _ h1 sD (addL h1 t _ sD AS)⟩
   ·rw[Ek h0];rw[Ek h0] at q0;refine Dk ?_;refine⟨_,rfl,_,rfl,d,_,rfl,q1,_,rfl,?_⟩;by_cases h1:Aj rs ts (2*(j:Int)+1)∈l'.map (·.1)
    ·obtain⟨al,_,vl,fl,sl,addR⟩:=stR h1;rw[vl];rw[vl] at q1;refine Dk ?_;refine⟨_,rfl,_,rfl,d,_,rfl,q1,_,rfl,al,wd,_,_,rfl,fl,fc,sl,ruS,λt ht=>?_⟩;have sD:=AY ht (.AG [.int (p (2*(j:Int)+1)+Al (λj=>X j*F) r).num,.int (p (2*(j:Int)+1)+Al (λj=>X j*F) r).den]);obtain⟨w1,w2,w3,w4,w5,w6⟩:=more _ t _ h0 sD (addR h0 t _ sD AS);refine⟨_,rfl,_,rfl,d,_,rfl,DR.k (k:=Sum.inl (Aj rs ts (2*(j:Int)))) (sD _ _ hdB) szK,?_⟩;have h1':Aj rs ts (2*(j:Int)+1)∈(l'++[(Aj rs ts (2*(j:Int)),t)]).map (·.1):=by rw[fv]; exact fm.mpr (.inl h1)
     obtain⟨al',_,vl'⟩:=Jy h1';have q1':=CT.k (k:=Sum.inl (Aj rs ts (2*(j:Int)+1))) w2;rw[vl'] at q1';exact⟨_,rfl,_,rfl,d,_,rfl,q1',_,rfl,CG (CG ⟨_,_,_,_,_,_,rfl,w1,w2,w3,w4,w5,w6⟩)⟩
    ·rw[Ek h1];rw[Ek h1] at q1;refine CG ?_;refine⟨_,rfl,_,rfl,d,_,rfl,q1,_,rfl,Dk ?_⟩;refine⟨_,rfl,_,rfl,d,_,rfl,q0,_,rfl,CG ?_⟩;exact⟨l',_,_,_,_,_,rfl,s2B,hdB,kB,c7,le7,same ⟨λz=>absurd z h0,λz=>absurd z h1⟩⟩
  ·rintro σ H7 ⟨l',v10,v11,v12,v13,v14,rfl,s7,hd7,k7,c7,le7,cl7⟩;refine⟨l',_,_,_,_,_,_,rfl,s7,hd7,k7,c7,?_⟩;rcases gc l.length l'.length with z | z
   ·omega
   ·obtain⟨rfl,c2⟩:=cl7 (by omega);exact .inr (D.full k7 c7 (λk hk=>c2 k (by rw[ed,lc]; exact hk)))
 ·rintro σ H6 ⟨l,u9,u10,u11,u12,u13,u14,rfl,s6,hd6,k6,c6,le6⟩;have full:BV rs ts<=l.length:=by have:=k6.len; omega
  have s06:=s02.trans s6;refine⟨_,rfl,a,_,_,_,rfl,rfl,AJ.of (s06 _ _ ha),Di _ _ _,ra,_,rfl,.inr (AJ.of (s06 _ _ hra)),?_⟩;rw[ed,lc];refine⟨_,_,rfl,rfl,.inl ⟨by decide,by decide⟩,_,_,rfl,rfl,_,rfl,by omega,by omega,λacc hacc=>?_⟩;rw[show((2*(rs.length:Int)+2)).toNat=2*rs.length+2 by omega];refine CN MU (by omega) hacc (λi ys σ Hq=>∃ds:List Addr,ys=ds.map V.ref/\At AO Hq ds (((List.range (2*rs.length+2)).map λe:Nat=>p (e:Int)).take i)/\∃u,σ=[u,some (.ref d),some (.ref hm)]) ⟨[],rfl,At.nil,none,rfl⟩ ?_ ?_
  ·rintro i ys σ H7 x H8 hi sm hacc2 ⟨ds,rfl,hD,u,rfl⟩ ⟨rfl,rfl⟩ Cc hC;have ix:AH (2*rs.length+2) ((0:Int)+(i:Nat)):=⟨by omega,by push_cast; omega⟩;obtain⟨ax,gx,fx,_⟩:=D.Ey (k6.keep sm) full (sm _ _ hd6) ix;refine⟨_,rfl,_,rfl,_,rfl,hm,_,rfl,gH ix (s6.trans sm),d,_,rfl,gx,?_⟩;refine hC _ _ _ (AR.refl _) ⟨ds++[ax],by simp,?_,_,rfl⟩;rw[Cm (C1 (λe:Nat=>p (e:Int)) hi)];rw[Int.zero_add] at fx;exact hD.snoc (AO.Ba (q:=p (i:Int)) fx hacc2)
  ·rintro ys σ H7 s7 ha7 hl7 ⟨gs,rfl,hG,u,rfl⟩;rw[fH (by rw[ed,fK]; exact eU _)] at hG;exact q acc H7 (s06.trans s7) ⟨gs,ha7,hG.keep AZ (Dw H7 acc)⟩ λx hx=>(D.Ey k6 full hd6 hx).elim λ_ z=>z.2.2
end
def A6(G k:Nat):Nat:=if k=0 then 0 else if k=G then 1 else k+1
theorem LC{G k:Nat}(g1:1<=G)(h:k<=G):A6 G k<G+1:=by unfold A6; split <;> (try split) <;> omega
theorem MZ{G p:Nat}(g1:1<=G)(h:p<G+1):∃k,k<=G/\A6 G k=p:=by
 by_cases e0:p=0
 ·exact⟨0,by omega,by unfold A6; rw[ff rfl,e0]⟩
 ·by_cases e1:p=1
  ·exact⟨G,by omega,by unfold A6; rw[eZ (by omega),ff rfl,e1]⟩
  ·exact⟨p-1,by omega,by unfold A6; rw[eZ (by omega),eZ (by omega)]; omega⟩
structure Ce(m:Nat)(gs:List (List Int)):Prop where
 fl:gs.flatten=(List.range m).map λr:Nat=>(r:Int)
 sz:∀g∈gs,∃a:Int,g=[a]\/g=[a,a+1]
 m1:1<=m
 m14:m<=14
def BO(m:Nat)(gs:List (List Int))(k:Nat):List Int:=if k=0 then [2*(m:Int)] else ((gs.getD (k-1) []).reverse).map λr=>2*r+1
def Bb(m:Nat)(gs:List (List Int))(k:Nat):List Int:=if k<gs.length then (gs.getD k []).map λr=>2*r else [2*(m:Int)+1]
structure CY(m:Nat)(gs:List (List Int))(rs:List AQ)(ts:List (List Int)):Prop where
 g:Ce m gs
 len:ts.length=gs.length+1
 tr:∀k,k<=gs.length->ts[A6 gs.length k]?=some (BO m gs k++Bb m gs k)
 rp:rs=(CH 0 gs).map λq=>(A6 gs.length q.2.toNat,A6 gs.length (q.2.toNat+1),1)
section
variable {m:Nat} {gs:List (List Int)}
theorem Ce.nd(g:Ce m gs):gs.flatten.Nodup:=by
 rw[g.fl,List.Nodup,iM];exact i6 (λh e=>h (by omega)) List.nodup_range
theorem Ce.mem(g:Ce m gs){r:Int}:r∈gs.flatten↔0<=r/\r<m:=by
 rw[g.fl,fi];constructor
 ·rintro⟨j,hj,rfl⟩
  have:=gu.mp hj
  omega
 ·rintro⟨h1,h2⟩;exact⟨r.toNat,gu.mpr (by omega),by omega⟩
theorem Ce.at(g:Ce m gs){r:Int}(h0:0<=r)(h1:r<m):∃(k:Nat) (x:List Int),gs[k]?=some x/\r∈x:=by
 obtain⟨x,hx,hr⟩:=fV.mp (g.mem.mpr ⟨h0,h1⟩);obtain⟨k,hk,e⟩:=fP hx;exact⟨k,x,by rw[eh hk,e],hr⟩
theorem Ce.in(g:Ce m gs){k:Nat}{x:List Int}{r:Int}(hk:gs[k]?=some x)(hr:r∈x):0<=r/\r<m:=g.mem.mp (fV.mpr ⟨x,eQ hk,hr⟩)
theorem Ce.le(g:Ce m gs):gs.length<=m:=by
 have go:∀l:List (List Int),(∀x∈l,1<=x.length)->l.length<=l.flatten.length:=by
  intro l
  induction l with
  | nil=>intro _; simp
  | cons x l ih =>
   intro h
   have:=ih λy hy=>h y (gJ _ hy)
   have:=h x (ir ..)
   rw[fZ,fj,gq];omega
 have:=go gs λx hx=>by obtain⟨a,e | e⟩:=g.sz x hx <;> rw[e] <;> simp
 rw[g.fl,ed,fK] at this;exact this
theorem Ce.g1(g:Ce m gs):1<=gs.length:=by
 rcases Nat.eq_zero_or_pos gs.length with z | z
 ·have:=g.fl
  rw[List.eq_nil_of_length_eq_zero z] at this;have l:=congrArg List.length this;rw[ed,fK] at l;have e0:([]:List (List Int)).flatten.length=0:=rfl
  have:=g.m1
  omega
 ·exact z
theorem Fw:BO m gs 0=[2*(m:Int)]:=ff rfl
theorem FQ{k:Nat}{x:List Int}(h:gs[k]?=some x):BO m gs (k+1)=x.reverse.map λr=>2*r+1:=by
 unfold BO;rw[eZ (by omega),Nat.add_sub_cancel,eO,h]; rfl
theorem Es{k:Nat}{x:List Int}(h:gs[k]?=some x):Bb m gs k=x.map λr=>2*r:=by
 unfold Bb;rw[ff (eu.mp h).1,eO,h]; rfl
theorem Hs:Bb m gs gs.length=[2*(m:Int)+1]:=eZ (jb _)
theorem Ce.grp(g:Ce m gs){k:Nat}(h:k<gs.length):∃a:Int,gs[k]?=some [a]\/gs[k]?=some [a,a+1]:=by
 obtain⟨a,e | e⟩:=g.sz _ (iq h)
 ·exact⟨a,.inl (by rw[eh h,e])⟩
 ·exact⟨a,.inr (by rw[eh h,e])⟩
theorem Og(a b:Int):A5 [a,b]=[(a,b),(b,a)]:=rfl
theorem IE(a b c:Int):A5 [a,b,c]=[(a,c),(b,a),(c,b)]:=rfl
theorem Lz(a b c d:Int):A5 [a,b,c,d]=[(a,d),(b,a),(c,b),(d,c)]:=rfl
inductive Hf(J:Int->Int->Prop):List Int->Int->Int->Prop
 | Af (a:Int):Hf J [a] a a
 | two (z y:Int) (h:J y z):Hf J [z,y] z y
theorem YI{J:Int->Int->Prop}{A B:List Int}{fA lA fB lB:Int}(hA:Hf J A fA lA)(hB:Hf J B fB lB)(h1:J fA lB)(h2:J fB lA):∀q∈A5 (A++B),J q.1 q.2:=by
 intro q hq;cases hA with
 | Af a =>
  cases hB with
  | Af b =>
   rw[show [fA]++[fB]=[fA,fB] from rfl,Og] at hq;simp only[fE,gE,iO] at hq;rcases hq with rfl | rfl
   ·exact h1
   ·exact h2
  | two z y hB =>
   rw[show [fA]++[fB,lB]=[fA,fB,lB] from rfl,IE] at hq;simp only[fE,gE,iO] at hq;rcases hq with rfl | rfl | rfl
   ·exact h1
   ·exact h2
   ·exact hB
 | two z y hA =>
  cases hB with
  | Af b =>
   rw[show [fA,lA]++[fB]=[fA,lA,fB] from rfl,IE] at hq;simp only[fE,gE,iO] at hq;rcases hq with rfl | rfl | rfl
   ·exact h1
   ·exact hA
   ·exact h2
  | two z y hB =>
   rw[show [fA,lA]++[fB,lB]=[fA,lA,fB,lB] from rfl,Lz] at hq;simp only[fE,gE,iO] at hq;rcases hq with rfl | rfl | rfl | rfl
   ·exact h1
   ·exact hA
   ·exact h2
   ·exact hB
theorem Sz{J:Int->Int->Prop}{A B:List Int}{fA lA fB lB:Int}(hA:Hf (λ_ _=>True) A fA lA)(hB:Hf (λ_ _=>True) B fB lB)(h:∀q∈A5 (A++B),J q.1 q.2):J fA lB/\J fB lA/\(∀z y,B=[z,y]->J y z):=by
 cases hA with
 | Af a =>
  cases hB with
  | Af b=>exact⟨h (fA,fB) (by rw[show [fA]++[fB]=[fA,fB] from rfl,Og]; simp),h (fB,fA) (by rw[show [fA]++[fB]=[fA,fB] from rfl,Og]; simp),λz y e=>by cases e⟩
  | two z y _=>exact⟨h (fA,lB) (by rw[show [fA]++[fB,lB]=[fA,fB,lB] from rfl,IE]; simp),h (fB,fA) (by rw[show [fA]++[fB,lB]=[fA,fB,lB] from rfl,IE]; simp),λz y e=>by cases e; exact h (lB,fB) (by rw[show [fA]++[fB,lB]=[fA,fB,lB] from rfl,IE]; simp)⟩
 | two z y _ =>
  cases hB with
  | Af b=>exact⟨h (fA,fB) (by rw[show [fA,lA]++[fB]=[fA,lA,fB] from rfl,IE]; simp),h (fB,lA) (by rw[show [fA,lA]++[fB]=[fA,lA,fB] from rfl,IE]; simp),λz y e=>by cases e⟩
  | two z y _=>exact⟨h (fA,lB) (by rw[show [fA,lA]++[fB,lB]=[fA,lA,fB,lB] from rfl,Lz]; simp),h (fB,lA) (by rw[show [fA,lA]++[fB,lB]=[fA,lA,fB,lB] from rfl,Lz]; simp),λz y e=>by cases e; exact h (lB,fB) (by rw[show [fA,lA]++[fB,lB]=[fA,lA,fB,lB] from rfl,Lz]; simp)⟩
theorem Gr(a:Int):oth (2*a)=2*a+1:=by unfold oth; rw[ff (by omega)]
theorem JL(a:Int):oth (2*a+1)=2*a:=by unfold oth; rw[eZ (by omega)]; omega
theorem Ce.JR(g:Ce m gs)(J:Int->Int->Prop)(hJ:∀a:Int,[a,a+1]∈gs->J (2*a+1) (2*(a+1)+1)){k:Nat}(h:k<gs.length):∃a b:Int,a∈gs.getD k []/\b∈gs.getD k []/\Hf J (BO m gs (k+1)) (2*b+1) (2*a+1)/\(∀J',(∀a:Int,[a,a+1]∈gs->J' (2*(a+1)) (2*a))->Hf J' (Bb m gs k) (2*a) (2*b))/\((gs[k]?=some [a]/\b=a)\/(gs[k]?=some [a,a+1]/\b=a+1)):=by
 obtain⟨a,e | e⟩:=g.grp h
 ·refine⟨a,a,by rw[eO,e]; simp,by rw[eO,e]; simp,?_,λJ' _=>?_,.inl ⟨e,rfl⟩⟩
  ·rw[FQ e]; exact .Af _
  ·rw[Es e]; exact .Af _
 ·have hm:=eQ e;refine⟨a,a+1,by rw[eO,e]; simp,by rw[eO,e]; simp,?_,λJ' h'=>?_,.inr ⟨e,rfl⟩⟩
  ·rw[FQ e]; exact .two _ _ (hJ a hm)
  ·rw[Es e]; exact .two _ _ (h' a hm)
end
section
variable {m:Nat} {gs:List (List Int)} {rs:List AQ} {ts:List (List Int)}
theorem SS{rs:List AQ}{k:Nat}{r:AQ}(h:rs[k]?=some r):(hm rs)[2*k]?=some r.1/\(hm rs)[2*k+1]?=some r.2.1:=by
 have hk:=(eu.mp h).1;obtain⟨a1,a2⟩:=HQ h;have l0:=Ea rs;unfold hm;exact⟨by rw[fN (by rw[l0]; omega)]; exact a1,by rw[fN (by rw[l0]; omega)]; exact a2⟩
theorem Z1(rs:List AQ):(hm rs)[2*rs.length]?=some 0/\(hm rs)[2*rs.length+1]?=some 1:=by
 have l0:=Ea rs;unfold hm;exact⟨by rw[fu (by omega),l0,jq]; rfl,by rw[fu (by omega),l0,show 2*rs.length+1-2*rs.length=1 by omega]; rfl⟩
theorem CY.rl(l:CY m gs rs ts):rs.length=m:=by
 have:=congrArg List.length (E9 0 gs)
 rw[ed,l.g.fl,ed,fK] at this;rw[l.rp,ed,this]
theorem CY.O0(l:CY m gs rs ts){k:Nat}{x:List Int}{r:Int}(hk:gs[k]?=some x)(hr:r∈x):rs[r.toNat]?=some (A6 gs.length k,A6 gs.length (k+1),1):=by
 have h1:=K8 gs 0 k x r hk hr;rw[Nat.zero_add] at h1;obtain⟨j,hj,e⟩:=fP h1;have h2:((CH 0 gs).map (·.1))[j]?=some r:=by rw[fg,eh hj,e]; rfl
 rw[E9,l.g.fl,fg] at h2;obtain⟨j',h3,h4⟩:=Option.map_eq_some_iff.mp h2;have hj':=eu.mp h3;obtain⟨hl,e3⟩:=hj';rw[List.getElem_range] at e3;have ej:r.toNat=j:=by omega
 rw[ej,l.rp,fg,eh hj,e];show some (A6 gs.length ((k:Int)).toNat,A6 gs.length (((k:Int)).toNat+1),(1:Rat))=_;rw[ie]
theorem CY.Pb(l:CY m gs rs ts){k:Nat}(hk:k<=gs.length){x:Int}(hx:x∈BO m gs k++Bb m gs k):AH (2*m+2) x/\(hm rs)[x.toNat]?=some (A6 gs.length k):=by
 have ho:=Z1 rs;rw[l.rl] at ho;rcases fm.mp hx with h | h
 ·cases k with
  | zero =>
   rw[Fw,fQ] at h;subst h;exact⟨⟨by omega,by push_cast; omega⟩,by rw[show(2*(m:Int)).toNat=2*m by omega,ho.1]; unfold A6; rw[ff rfl]⟩
  | succ k =>
   have e:=eh (show k<gs.length by omega);rw[FQ e] at h;obtain⟨r,hr,rfl⟩:=fi.mp h;have hr':=List.mem_reverse.mp hr;have i:=l.g.in e hr'
   have:=(SS (l.O0 e hr')).2
   exact⟨⟨by omega,by push_cast; omega⟩,by rw[show(2*r+1).toNat=2*r.toNat+1 by omega]; exact this⟩
 ·rcases gc k gs.length with z | z
  ·have e:=eh z;rw[Es e] at h;obtain⟨r,hr,rfl⟩:=fi.mp h;have i:=l.g.in e hr
   have:=(SS (l.O0 e hr)).1
   exact⟨⟨by omega,by push_cast; omega⟩,by rw[show(2*r).toNat=2*r.toNat by omega]; exact this⟩
  ·obtain rfl:k=gs.length:=by omega
   rw[Hs,fQ] at h;subst h
   have:=l.g.g1
   exact⟨⟨by omega,by push_cast; omega⟩,by rw[show(2*(m:Int)+1).toNat=2*m+1 by omega,ho.2]; unfold A6; rw[eZ (by omega),ff rfl]⟩
theorem CY.of(l:CY m gs rs ts){p:Nat}{t:List Int}(h:ts[p]?=some t):∃k,k<=gs.length/\p=A6 gs.length k/\t=BO m gs k++Bb m gs k:=by
 have hp:=(eu.mp h).1;rw[l.len] at hp;obtain⟨k,hk,e⟩:=MZ l.g.g1 hp;refine⟨k,hk,e.symm,?_⟩
 have:=l.tr k hk
 rw[e,h] at this;exact fC this
theorem CY.Cs(l:CY m gs rs ts):∀(p:Nat) (t:List Int),ts[p]?=some t->∀x:Int,x∈t->(hm rs)[x.toNat]?=some p:=λp t h x hx=>by
 obtain⟨k,hk,rfl,rfl⟩:=l.of h;exact(l.Pb hk hx).2
theorem CY.Sr(l:CY m gs rs ts)(J:Int->Int->Prop)(hA:∀a:Int,[a,a+1]∈gs->J (2*a+1) (2*(a+1)+1))(hB:∀a:Int,[a,a+1]∈gs->J (2*(a+1)) (2*a)){k:Nat}(hk:k<=gs.length):∃fA lA fB lB,Hf J (BO m gs k) fA lA/\Hf J (Bb m gs k) fB lB:=by
 have A:∃fA lA,Hf J (BO m gs k) fA lA:=by
  cases k with
  | zero=>rw[Fw]; exact⟨_,_,.Af _⟩
  | succ k=>obtain⟨a,b,_,_,h,_⟩:=l.g.JR J hA (show k<gs.length by omega); exact⟨_,_,h⟩
 have B:∃fB lB,Hf J (Bb m gs k) fB lB:=by
  rcases gc k gs.length with z | z
  ·obtain⟨a,b,_,_,_,h,_⟩:=l.g.JR J hA z; exact⟨_,_,h J hB⟩
  ·obtain rfl:k=gs.length:=by omega
   rw[Hs]; exact⟨_,_,.Af _⟩
 obtain⟨fA,lA,a⟩:=A;obtain⟨fB,lB,b⟩:=B;exact⟨fA,lA,fB,lB,a,b⟩
theorem CY.DY(l:CY m gs rs ts):CC (2*m+2) ts:=by
 have ho:=l.Cs;refine⟨?_,λx=>⟨λhx=>?_,λhx=>?_⟩,by omega⟩
 ·refine List.pairwise_flatten.mpr ⟨λt ht=>?_,List.pairwise_iff_getElem.mpr λi j hi hj hij x hx y hy e=>?_⟩
  ·obtain⟨i,hi,e⟩:=fP ht;obtain⟨k,hk,_,rfl⟩:=l.of (show ts[i]?=some t by rw[eh hi,e]);have ev:∀x∈BO m gs k,x=2*(m:Int)\/x % 2=1:=λx hx=>by
    cases k with
    | zero=>rw[Fw,fQ] at hx; exact .inl hx
    | succ k =>
     rw[FQ (eh (show k<gs.length by omega))] at hx;obtain⟨r,_,rfl⟩:=fi.mp hx;exact .inr (by omega)
   have od:∀x∈Bb m gs k,(x % 2=0/\x<2*m)\/(x=2*(m:Int)+1/\k=gs.length):=λx hx=>by
    rcases gc k gs.length with z | z
    ·have e:=eh z;rw[Es e] at hx;obtain⟨r,hr,rfl⟩:=fi.mp hx
     have:=l.g.in e hr
     exact .inl ⟨by omega,by omega⟩
    ·obtain rfl:k=gs.length:=by omega
     rw[Hs,fQ] at hx;exact .inr ⟨hx,rfl⟩
   obtain⟨fA,lA,fB,lB,a,b⟩:=l.Sr (λy z=>y≠z) (λa _=>by omega) (λa _=>by omega) hk;have na:(BO m gs k).Nodup:=by
    generalize BO m gs k=A at a;cases a with
    | Af a=>simp
    | two z y h=>simp[iB h]
   have nb:(Bb m gs k).Nodup:=by
    generalize Bb m gs k=B at b;cases b with
    | Af a=>simp
    | two z y h=>simp[iB h]
   show(BO m gs k++Bb m gs k).Nodup;rw[iD];refine⟨na,nb,λx hx y hy e=>?_⟩;subst e;rcases ev x hx with h1 | h1 <;> rcases od x hy with h2 | h2
   ·omega
   ·omega
   ·omega
   ·obtain⟨h3,rfl⟩:=h2;have g1:=l.g.g1;obtain⟨k',hk'⟩:∃k',gs.length=k' + 1:=⟨gs.length-1,by omega⟩;have e:=eh (show k' < gs.length by omega);rw[hk',FQ e] at hx;obtain⟨r,hr,e2⟩:=fi.mp hx
    have:=l.g.in e (List.mem_reverse.mp hr)
    omega
  ·have h1:=ho i _ (eh hi) x hx;have h2:=ho j _ (eh hj) y hy;rw[e,h2] at h1
   have:=fC h1
   omega
 ·obtain⟨t,ht,hx⟩:=fV.mp hx;obtain⟨i,hi,e⟩:=fP ht;obtain⟨k,hk,_,rfl⟩:=l.of (show ts[i]?=some t by rw[eh hi,e]);exact(l.Pb hk hx).1
 ·have put:∀k,k<=gs.length->x∈BO m gs k++Bb m gs k->x∈ts.flatten:=λk hk h=>fV.mpr ⟨_,eQ (l.tr k hk),h⟩
  obtain⟨x0,x1⟩:=hx;push_cast at x1;by_cases e0:x=2*m
  ·exact put 0 (gP _) (by rw[Fw,e0]; simp)
  ·by_cases e1:x=2*m+1
   ·exact put gs.length (eU _) (by rw[Hs,e1]; simp)
   ·obtain⟨k,g,hk,hr⟩:=l.g.at (r:=x / 2) (by omega) (by omega);have hl:=(eu.mp hk).1;by_cases ev:x % 2=0
    ·exact put k (by omega) (fm.mpr (.inr (by rw[Es hk]; exact fi.mpr ⟨_,hr,by omega⟩)))
    ·exact put (k+1) (by omega) (fm.mpr (.inl (by rw[FQ hk]; exact fi.mpr ⟨_,List.mem_reverse.mpr hr,by omega⟩)))
end
section
variable {m:Nat} {gs:List (List Int)} {rs:List AQ} {ts:List (List Int)}
theorem CY.pr(l:CY m gs rs ts){k:Nat}(hk:k<=gs.length){q:Int×Int}(hq:q∈A5 (BO m gs k++Bb m gs k)):Mth.pr ts q.1=q.2 :=
 Dc l.DY.nd (fV.mpr ⟨_,fi.mpr ⟨_,eQ (l.tr k hk),rfl⟩,hq⟩)
theorem CY.J9(l:CY m gs rs ts):Lu ts m:=λS h1 h2 h0=>by
 have T:=l.DY;have cl:∀k,k<=gs.length->∀q∈A5 (BO m gs k++Bb m gs k),(S (oth q.1)↔S q.2):=λk hk q hq=>by
  have hm:q.1∈BO m gs k++Bb m gs k:=by rw[<-IY (BO m gs k++Bb m gs k)]; exact fi.mpr ⟨q,hq,rfl⟩
  have:=h1 (oth q.1) (DG T.KJ (l.Pb hk hm).1)
  rw[Bq,DC,l.pr hk hq] at this;exact this
 have rp:∀a:Int,0<=a->a<m->(S (2*a)↔S (2*a+1)):=λa a0 a1=>by
  have:=h2 a.toNat (by omega)
  rwa [show((a.toNat:Nat):Int)=a by omega] at this
 have halfA:∀k,k<=gs.length->∃fA lA,Hf (λ_ _=>True) (BO m gs k) fA lA/\(k=0->lA=2*(m:Int))/\(∀j,k=j+1->∃a b,fA=2*b+1/\lA=2*a+1/\((gs[j]?=some [a]/\b=a)\/(gs[j]?=some [a,a+1]/\b=a+1))):=λk hk=>by
  cases k with
  | zero=>rw[Fw]; exact⟨_,_,.Af _,λ_=>rfl,λj z=>by omega⟩
  | succ k =>
   obtain⟨a,b,_,_,h,_,c⟩:=l.g.JR (λ_ _=>True) (λ_ _=>trivial) (show k<gs.length by omega);refine⟨_,_,h,λz=>by omega,λj z=>?_⟩;obtain rfl:k=j:=by omega
   exact⟨a,b,rfl,rfl,c⟩
 have step:∀k,k<gs.length->(∀fA lA,Hf (λ_ _=>True) (BO m gs k) fA lA->S lA)->∀x,gs[k]?=some x->∀r∈x,S (2*r)/\S (2*r+1):=λk hk hS x hx r hr=>by
  obtain⟨a,b,_,_,_,hB,c⟩:=l.g.JR (λ_ _=>True) (λ_ _=>trivial) hk;obtain⟨fA,lA,hA,_⟩:=halfA k (by omega);obtain⟨c1,c2,c3⟩:=Sz (J:=λy z=>S (oth y)↔S z) hA (hB _ λ_ _=>trivial) (cl k (by omega));have sl:=hS _ _ hA;have s1:S (2*a+1):=by rw[Gr] at c2; exact c2.mpr sl
  rcases c with ⟨e,rfl⟩ | ⟨e,rfl⟩
  ·rw[e] at hx;cases hx;rw[fQ.mp hr];have i:=l.g.in e (fQ.mpr rfl);exact⟨(rp _ i.1 i.2).mpr s1,s1⟩
  ·rw[e] at hx;cases hx;have i:=l.g.in e (show a∈[a,a+1] by simp);have i2:=l.g.in e (show a+1∈[a,a+1] by simp);have s2:=(rp _ i.1 i.2).mpr s1;have c4:=c3 (2*a) (2*(a+1)) (by rw[Es e]; rfl);rw[Gr] at c4;have s3:=c4.mpr s2;simp only[fE,gE,iO] at hr;rcases hr with rfl | rfl
   ·exact⟨s2,s1⟩
   ·exact⟨(rp _ i2.1 i2.2).mpr s3,s3⟩
 have lastA:∀{A:List Int} {f1 l1 f2 l2:Int},Hf (λ_ _=>True) A f1 l1->Hf (λ_ _=>True) A f2 l2->l1=l2:=λh h'=>by
  cases h <;> cases h' <;> rfl
 have all:∀k,k<=gs.length->(∀fA lA,Hf (λ_ _=>True) (BO m gs k) fA lA->S lA)/\∀j,j<k->∀x,gs[j]?=some x->∀r∈x,S (2*r)/\S (2*r+1):=by
  intro k
  induction k with
  | zero =>
   intro _;refine⟨λfA lA h=>?_,λj hj=>by omega⟩;obtain⟨_,_,h',e,_⟩:=halfA 0 (gP _);rw[lastA h h',e rfl]; exact h0
  | succ k ih =>
   intro hk;obtain⟨i1,i2⟩:=ih (by omega);have st:=step k (by omega) i1;refine⟨λfA lA h=>?_,λj hj x hx r hr=>?_⟩
   ·obtain⟨_,_,h',_,c⟩:=halfA (k+1) hk;obtain⟨a,b,_,e2,c⟩:=c k rfl;rw[lastA h h',e2];rcases c with ⟨e,_⟩ | ⟨e,_⟩
    ·exact(st _ e a (by simp)).2
    ·exact(st _ e a (by simp)).2
   ·rcases gc j k with z | z
    ·exact i2 j z x hx r hr
    ·obtain rfl:j=k:=by omega
     exact st x hx r hr
 obtain⟨_,al⟩:=all gs.length (eU _);have g1:=l.g.g1;obtain⟨k',hk'⟩:∃k',gs.length=k' + 1:=⟨gs.length-1,by omega⟩;have sO:S (2*(m:Int)+1):=by
  obtain⟨fA,lA,hA,_,c⟩:=halfA gs.length (eU _);obtain⟨a,b,e1,_,c⟩:=c k' hk';have hB:Hf (λ_ _=>True) (Bb m gs gs.length) (2*(m:Int)+1) (2*(m:Int)+1):=by rw[Hs]; exact .Af _
  obtain⟨c1,_⟩:=Sz (J:=λy z=>S (oth y)↔S z) hA hB (cl gs.length (eU _));rw[e1,JL] at c1;refine c1.mp ?_;rcases c with ⟨e,rfl⟩ | ⟨e,rfl⟩
  ·exact(al k' (by omega) _ e _ (by simp)).1
  ·exact(al k' (by omega) _ e _ (by simp)).1
 intro x hx;obtain⟨x0,x1⟩:=hx;push_cast at x1;by_cases e0:x=2*m
 ·rw[e0]; exact h0
 ·by_cases e1:x=2*m+1
  ·rw[e1]; exact sO
  ·obtain⟨k,g,hk,hr⟩:=l.g.at (r:=x / 2) (by omega) (by omega);obtain⟨s1,s2⟩:=al k (eu.mp hk).1 g hk _ hr;by_cases ev:x % 2=0
   ·rwa [show 2*(x / 2)=x by omega] at s1
   ·rwa [show 2*(x / 2)+1=x by omega] at s2
open Classical in
def Fe(gs:List (List Int))(f:Int->Rat)(r:Int):Rat:=if [r-1,r]∈gs then f (2*(r-1)) else 0
def Bo(m:Nat)(gs:List (List Int))(f:Int->Rat)(x:Int):Rat:=if x=2*m then 0 else if x=2*m+1 then f (2*m+1) else if x % 2=0 then Fe gs f (x / 2)+f x else Fe gs f (x / 2)
theorem Ce.two(g:Ce m gs){k k':Nat}{x y:List Int}{r:Int}(h:gs[k]?=some x)(h':gs[k']?=some y)(hx:r∈x)(hy:r∈y):x=y:=by
 have:=UJ g.nd h h' hx hy
 subst this;rw[h] at h';exact fC h'
theorem NA(g:Ce m gs){f:Int->Rat}{k:Nat}{x:List Int}{a:Int}(h:gs[k]?=some x)(ha:a∈x)(hn:x≠[a-1,a]):Fe gs f a=0:=by
 unfold Fe;refine eZ λz=>?_
 obtain⟨k',hk',e⟩:=fP z;exact hn (g.two h (show gs[k']?=some [a-1,a] by rw[eh hk',e]) ha (by simp))
theorem JB(g:Ce m gs){f:Int->Rat}{k:Nat}{x:List Int}{a:Int}(h:gs[k]?=some x)(ha:a∈x):Bo m gs f (2*a)=Fe gs f a+f (2*a)/\Bo m gs f (2*a+1)=Fe gs f a:=by
 have i:=g.in h ha;unfold Bo;rw[eZ (by omega),eZ (by omega),ff (by omega),eZ (by omega),eZ (by omega),eZ (by omega),show 2*a / 2=a by omega,show(2*a+1) / 2=a by omega];exact⟨rfl,rfl⟩
theorem CY.PH(l:CY m gs rs ts):CK ts (2*m+2):=λf anti bal=>by
 have T:=l.DY;have g:=l.g;have fo:∀a:Int,0<=a->a<=m->f (2*a+1)=- f (2*a):=λa a0 a1=>by
  have:=anti (2*a) ⟨by omega,by push_cast; omega⟩
  rwa [Gr] at this
 have sB:∀k,k<=gs.length->((Bb m gs k).map f).sum=f (2*m+1):=by
  intro k
  induction k with
  | zero =>
   intro _
   have:=bal _ (eQ (l.tr 0 (gP _)))
   rw[fv,List.sum_append,Fw] at this;simp only[fk,gY,gf,iZ] at this;rw[fo m (by omega) (by omega)]
   grind
  | succ k ih =>
   intro hk;have hk':k<gs.length:=by omega
   have e:=eh hk'
   have:=bal _ (eQ (l.tr (k+1) hk))
   rw[fv,List.sum_append] at this;have ih:=ih (by omega);rw[Es e] at ih;have sA:((BO m gs (k+1)).map f).sum=- (((gs[k]).map λr=>2*r).map f).sum:=by
    rw[FQ e,gG,gG];have p:=Ky ((List.reverse_perm gs[k]).map (f ∘ λr=>2*r+1));rw[p]
    have:∀r∈gs[k],(f ∘ λr=>2*r+1) r=-1*f (2*r):=λr hr=>by
     have i:=g.in e hr;show f (2*r+1)=_;rw[fo r i.1 (by omega)]; grind
    rw[ip this,Ji (f:=λr=>f (2*r))];show -1*((gs[k]).map λr=>f (2*r)).sum=- ((gs[k]).map λr=>f (2*r)).sum
    grind
   rw[sA] at this
   grind
 have p0:Bo m gs f (2*m)=0:=ff rfl;have p1:Bo m gs f (2*m+1)=f (2*m+1):=by unfold Bo; rw[eZ (by omega),ff rfl]
 have grp:∀k,k<gs.length->∀a b:Int,((gs[k]?=some [a]/\b=a)\/(gs[k]?=some [a,a+1]/\b=a+1))->Bo m gs f (2*a+1)=0/\Bo m gs f (2*b)=f (2*m+1):=λk hk a b c=>by
  have s:=sB k (by omega);rcases c with ⟨e,rfl⟩ | ⟨e,rfl⟩
  ·have z:=NA g (f:=f) e (fQ.mpr rfl) (λq=>by simp at q);obtain⟨h1,h2⟩:=JB g (f:=f) e (fQ.mpr rfl);rw[h1,h2,z];rw[Es e] at s;simp only[fk,gY,gf,iZ] at s;exact⟨rfl,by grind⟩
  ·have z:=NA g (f:=f) (a:=a) e (by simp) (λq=>by simp at q; omega);obtain⟨h1,h2⟩:=JB g (f:=f) (a:=a) e (by simp);obtain⟨h3,h4⟩:=JB g (f:=f) (a:=a+1) e (by simp);have y:Fe gs f (a+1)=f (2*a):=by
    unfold Fe;rw[show a+1-1=a by omega,ff (eQ e)]
   rw[h2,h3,z,y];rw[Es e] at s;simp only[fk,gY,gf,iZ] at s;exact⟨rfl,by grind⟩
 have mid:∀a:Int,[a,a+1]∈gs->Bo m gs f (2*a)=Bo m gs f (2*(a+1)+1):=λa h=>by
  obtain⟨k,hk,e⟩:=fP h;have e:gs[k]?=some [a,a+1]:=by rw[eh hk,e]
  have z:=NA g (f:=f) (a:=a) e (by simp) (λq=>by simp at q; omega);obtain⟨h1,h2⟩:=JB g (f:=f) (a:=a) e (by simp);obtain⟨h3,h4⟩:=JB g (f:=f) (a:=a+1) e (by simp);have y:Fe gs f (a+1)=f (2*a):=by
   unfold Fe;rw[show a+1-1=a by omega,ff h]
  rw[h1,h4,z,y]; grind
 have jA:∀a:Int,[a,a+1]∈gs->Bo m gs f (2*(a+1)+1)=Bo m gs f (oth (2*a+1)):=λa h=>by rw[JL,mid a h]
 have jB:∀a:Int,[a,a+1]∈gs->Bo m gs f (2*a)=Bo m gs f (oth (2*(a+1))):=λa h=>by rw[Gr,mid a h]
 have row:∀k,k<=gs.length->∀q∈A5 (BO m gs k++Bb m gs k),Bo m gs f q.2=Bo m gs f (oth q.1):=λk hk=>by
  have A:∃fA lA,Hf (λy z=>Bo m gs f z=Bo m gs f (oth y)) (BO m gs k) fA lA/\Bo m gs f lA=0/\Bo m gs f (oth fA)=f (2*m+1):=by
   cases k with
   | zero=>rw[Fw]; exact⟨_,_,.Af _,p0,by rw[Gr]; exact p1⟩
   | succ k =>
    obtain⟨a,b,_,_,h,_,c⟩:=g.JR (λy z=>Bo m gs f z=Bo m gs f (oth y)) jA (show k<gs.length by omega);obtain⟨q1,q2⟩:=grp k (by omega) a b c;exact⟨_,_,h,q1,by rw[JL]; exact q2⟩
  have B:∃fB lB,Hf (λy z=>Bo m gs f z=Bo m gs f (oth y)) (Bb m gs k) fB lB/\Bo m gs f (oth fB)=0/\Bo m gs f lB=f (2*m+1):=by
   rcases gc k gs.length with z | z
   ·obtain⟨a,b,_,_,_,h,c⟩:=g.JR (λy z=>Bo m gs f z=Bo m gs f (oth y)) jA z;obtain⟨q1,q2⟩:=grp k z a b c;exact⟨_,_,h _ jB,by rw[Gr]; exact q1,q2⟩
   ·obtain rfl:k=gs.length:=by omega
    rw[Hs]; exact⟨_,_,.Af _,by rw[JL]; exact p0,p1⟩
  obtain⟨fA,lA,hA,a1,a2⟩:=A;obtain⟨fB,lB,hB,b1,b2⟩:=B;exact YI (J:=λy z=>Bo m gs f z=Bo m gs f (oth y)) hA hB (b2.trans a2.symm) (a1.trans b1.symm)
 refine⟨Bo m gs f,λx hx=>?_,λx hx=>?_⟩
 ·have hy:=(T.mem (oth x)).mpr (DG T.KJ hx);obtain⟨t,ht,hm⟩:=fV.mp hy;obtain⟨i,hi,e⟩:=fP ht;obtain⟨k,hk,_,rfl⟩:=l.of (show ts[i]?=some t by rw[eh hi,e]);rw[<-IY (BO m gs k++Bb m gs k)] at hm;obtain⟨q,hq,e2⟩:=fi.mp hm
  have:=row k hk q hq
  rw[Bq,<-e2,l.pr hk hq,this,e2,DC]
 ·obtain⟨x0,x1⟩:=hx;push_cast at x1;by_cases e0:x=2*m
  ·rw[e0,Gr,p0,p1,fo m (by omega) (by omega)]; grind
  ·by_cases e1:x=2*m+1
   ·rw[e1,JL,p0,p1]; grind
   ·obtain⟨k,y,hk,hr⟩:=g.at (r:=x / 2) (by omega) (by omega);obtain⟨h1,h2⟩:=JB g (f:=f) hk hr;by_cases ev:x % 2=0
    ·rw[show x=2*(x / 2) by omega,Gr,h1,h2]; grind
    ·have:=fo (x / 2) (by omega) (by omega)
     rw[show x=2*(x / 2)+1 by omega,JL,h1,h2,this]; grind
theorem CY.dk(l:CY m gs rs ts):Lw (gs.length+1) rs ts:=by
 have g:=l.g;have g1:=g.g1;have rl:=l.rl;have gle:=g.le;have m14:=g.m14;have hL:=l.J9;have hP:=l.PH;refine⟨⟨by rw[rl]; exact g.m1,by rw[rl]; exact m14,by omega,by omega,l.len,by rw[rl]; exact l.DY,λt ht=>?_,λr hr=>?_,l.Cs,λS h0 hS p hp=>?_⟩,by rw[rl]; exact hL,by rw[rl]; exact hP⟩
 ·obtain⟨i,hi,e⟩:=fP ht;obtain⟨k,hk,_,rfl⟩:=l.of (show ts[i]?=some t by rw[eh hi,e]);obtain⟨fA,lA,fB,lB,a,b⟩:=l.Sr (λ_ _=>True) (λ_ _=>trivial) (λ_ _=>trivial) hk;generalize BO m gs k=A at a;cases a <;> simp
 ·rw[l.rp] at hr;obtain⟨q,hq,rfl⟩:=fi.mp hr;have i:=g.mem.mp (show q.1∈gs.flatten by rw[<-E9 0 gs]; exact fi.mpr ⟨q,hq,rfl⟩);obtain⟨k,x,hk,hr⟩:=g.at i.1 i.2;have h1:=K8 gs 0 k x q.1 hk hr;rw[Nat.zero_add] at h1;have e:=Ku (f:=λp:Int×Int=>p.1) (show((CH 0 gs).map λp:Int×Int=>p.1).Nodup by rw[E9]; exact g.nd) hq h1 rfl;have hl:=(eu.mp hk).1;rw[e];show FL 1/\A6 gs.length ((k:Int)).toNat<_/\A6 gs.length (((k:Int)).toNat+1)<_;rw[ie];exact⟨⟨by decide,by decide,by decide⟩,LC g1 (by omega),LC g1 (by omega)⟩
 ·have all:∀k,k<=gs.length->S (A6 gs.length k):=by
   intro k
   induction k with
   | zero=>intro _; unfold A6; rw[ff rfl]; exact h0
   | succ k ih =>
    intro hk;obtain⟨a,e⟩:=g.grp (show k<gs.length by omega);have hx:∃x,gs[k]?=some x/\a∈x:=by
     rcases e with e | e
     ·exact⟨_,e,by simp⟩
     ·exact⟨_,e,by simp⟩
    obtain⟨x,e,ha⟩:=hx;exact(hS _ (eQ (l.O0 e ha))).mp (ih (by omega))
  obtain⟨k,hk,e⟩:=MZ g1 hp;rw[<-e];exact all k hk
theorem YW{K:PySem.W.Frag}{H:Hp}{a:Addr}{xs:List V}(h:H a=some (.AB xs)):JX (L9 K a xs.length) H xs.length (λi H2 x H3=>H3=H2/\xs.reverse[i]?=some x) :=
 ⟨λi H2 hi s=>⟨xs,xs.reverse[i]'(by rw[iW]; exact hi),AM.of (s _ _ h),rfl,eh _⟩,λi H2 x H3 _ s y=>⟨y.1,y.2 _ (AM.of (s _ _ h))⟩,λH2 s=>eU _⟩
theorem XN{H:Hp}{a:Addr}{o:HO}{bs:List Addr}{gs:List (List Int)}(h:At Bv H bs gs)(n:a∉bs):At Bv (AF H a o) bs gs:=⟨h.1,λi b x e1 e2=>by
 have:=h.2 i b x e1 e2
 unfold Bv at this ⊢;rw[Ad (show b≠a from λz=>n (z ▸ eQ e1))];exact this⟩
structure Ko(H:Hp)(Gp:Addr)(bs:List Addr)(gs:List (List Int))(many:Nat):Prop where
 h:H Gp=some (.AB (bs.map V.ref))
 MA:At Bv H bs gs
 VH:Gp∉bs
 fl:gs.flatten=(List.range many).map λr:Nat=>(r:Int)
 sz:∀g∈gs,∃a:Int,g=[a]\/g=[a,a+1]
theorem Ko.le{H:Hp}{Gp:Addr}{bs:List Addr}{gs:List (List Int)}{many:Nat}(g:Ko H Gp bs gs many):gs.length<=many:=by
 have go:∀l:List (List Int),(∀x∈l,∃a:Int,x=[a]\/x=[a,a+1])->l.length<=l.flatten.length:=by
  intro l
  induction l with
  | nil=>intro _; simp
  | cons x l ih =>
   intro h
   have:=ih λy hy=>h y (gJ _ hy)
   rw[fZ,fj,gq];obtain⟨a,e | e⟩:=h x (ir ..) <;> rw[e] <;> simp only[gq,i8] <;> omega
 have:=go gs g.sz
 rwa [g.fl,ed,fK] at this
theorem RG{G k j:Nat}(hk:k<=G)(hj:j<=G)(e:A6 G k=A6 G j):k=j:=by
 unfold A6 at e;split at e <;> split at e <;> (try split at e) <;> (try split at e) <;> omega
def Hw(G:Nat):List V:=(List.range (G+1)).map λk:Nat=>V.int ((A6 G k:Nat):Int)
theorem LH{G k:Nat}(h:k<=G):(Hw G)[k]?=some (.int ((A6 G k:Nat):Int)):=by
 unfold Hw;rw[fg,gA (by omega)]; rfl
theorem GR(G:Nat):(Hw G).length=G+1:=by unfold Hw; rw[ed,fK]
theorem YM{G:Nat}(g1:1<=G):([V.int 0]++((List.range (G-1)).map λi:Nat=>V.int (2+(i:Int))))++[V.int 1]=Hw G:=by
 refine List.ext_getElem? λk=>?_
 have ll:([V.int 0]++((List.range (G-1)).map λi:Nat=>V.int (2+(i:Int)))).length=G:=by simp; omega
 rcases Nat.lt_trichotomy k G with h | h | h
 ·rw[LH (by omega),fN (by rw[ll]; exact h)];unfold A6;cases k with
  | zero=>rfl
  | succ k =>
   rw[eZ (by omega),eZ (by omega),fu (by simp)];simp only[iu,Nat.add_sub_cancel];rw[fg,gA (by omega)];show some (V.int (2+(k:Int)))=some (V.int ((k+1+1:Nat):Int));congr 2; omega
 ·subst h;rw[LH (eU _),fu (by rw[ll]; exact eU _),ll,jq];unfold A6;rw[eZ (by omega),ff rfl]; rfl
 ·rw[gU (by rw[fj,ll]; simp; omega),gU (by rw[GR]; omega)]
def Ez(gs:List (List Int))(k:Nat):List AQ:=(CH 0 (gs.take k)).map λq=>(A6 gs.length q.2.toNat,A6 gs.length (q.2.toNat+1),1)
theorem Xa{gs:List (List Int)}{k:Nat}{x:List Int}(h:gs[k]?=some x):Ez gs (k+1)=Ez gs k++x.map λ_=>(A6 gs.length k,A6 gs.length (k+1),1):=by
 have hk:=(eu.mp h).1;unfold Ez;rw[Dr h,MS,fv,gG,g9,Nat.min_eq_left (by omega),Nat.zero_add];congr 1
theorem XW{H:Hp}{a b:Addr}{r:AQ}{ys:List V}(h:Bf H b r)(e:H a=some (.AB ys)):Bf (Ba H a) b r:=by
 obtain⟨c,h1,h2⟩:=h;exact⟨c,Gf h1 (λz=>by rw[z,e] at h1; cases h1),AO.Ba h2 e⟩
theorem YX{x:List Int}{i:Nat}{v:V}(h:(x.map V.int).reverse[i]?=some v):∃r,v=.int r/\x.reverse[i]?=some r:=by
 rw[<-List.map_reverse] at h;exact Ep h
variable {P:Program} {w:World} {K:PySem.W.Frag} {mg:Str->Option Value} {base:Heap} {f g h f1 f2 f3 f4:Addr} {fd gd hd d1 d2 d3 d4:FuncData}
inductive RP(vs:List V)(H:Hp)(Q:VK):Prop
 | mk (c:Int) (h_0:vs=[.int c]) (h_1:∀p ra ta n rs us H',AR H H'->H' p=some (.AG [.int ((n:Nat):Int),.ref ra,.ref ta])->Az Bf H' ra rs->Az BS H' ta us->Lw n rs us->Q (.ref p) H'):RP vs H Q
def Nq:Sp:=λvs H Q _=>RP vs H Q
theorem Dl:A3 ["_law_cell_here","_law_c","_law_most","_law_groups","_law_many","_law_wide","_law_order","_law_ropes","_law_rows","_law_k","_law_place","_law_row_here"] ["_law_cell_here"] (Ao s_law_long):=BC
theorem Ts:(["_law_rope"]:List Str).Nodup:=by decide +kernel
theorem bh:(["_law_rope","_law_place","_law_order","_law_k"]:List Str).Nodup:=by decide +kernel
set_option maxHeartbeats 4000000 in
seal L2.CW L2.PS L2.PE L2.PA in
theorem ZF(F0:Ar K "_law_long" "_law_long" s_law_long f fd)(ml:mg "len" = none)(mr:mg "range" = none)(mli:mg "list" = none)(mn:mg "min" = none)(mi:mg "int" = none)(mv:mg "reversed" = none)(me:mg "enumerate" = none)(mt:mg "tuple" = none):
  An P w K mg base Ay 1 f fd ["_law_cell_here"] Nq:=by
 refine F0.BD Dl λcdv A outer s H vs Q E hr h=>?_
 obtain⟨c0,rfl,q⟩:=h;refine⟨_,AN (Aa (i:=1) Dl.nd rfl (Or.inl rfl) (AK Bl (pv 0) (AK J7 AD AD)))
  (AN (Aa (i:=2) Dl.nd rfl (Or.inl rfl) (AK BH AD (AK Bl (pv 1) AD)))
  (AN (Aa (i:=3) Dl.nd rfl (Or.inl rfl) (CB AE))
  (AN (Aa (i:=4) Dl.nd rfl (Or.inl rfl) AD)
  (AN (Ie fT (BX Ht (pv 4) (pv 2) (BM _))
   (AN (Aa (i:=5) Dl.nd rfl (Or.inl rfl) (A8 (WI rfl) (by rfl) mn So (AA (AK Cq (pv 2) (pv 4)) (AA (AK BH AD (Cn XB (by rfl) mi TH (AA (HX EF (AK Bl (AK Dt (pv 1) (AK BH AD (A8 (Bs (K:=K)) (by rfl) ml BR (AA (pv 3) AE)))) AD) AD (BM _)) AE))) AE))))
   (AN (DB (C4 K gh gL gM Ds (pv 3) (AA (Pe rfl (by rfl) mli (by rfl) mr (AA (pv 4) (AA (AK BH (pv 4) (pv 5)) AE))) AE)))
   (AV (Aa (i:=4) Dl.nd rfl (Or.inl rfl) (AK BH (pv 4) (pv 5)))))))
  (AN (Aa (i:=6) Dl.nd rfl (Or.inr rfl) (AK HZ (AK HZ (CB (AA AD AE)) (Pe rfl (by rfl) mli (by rfl) mr (AA AD (AA (AK BH (A8 (Bs (K:=K)) (by rfl) ml BR (AA (pv 3) AE)) AD) AE)))) (CB (AA AD AE))))
  (AN (Aa (i:=7) Dl.nd rfl (Or.inl rfl) (CB AE))
  (AN (Aa (i:=8) Dl.nd rfl (Or.inl rfl) (AK La (CB (AA (BP AE) AE)) (A8 (Bs (K:=K)) (by rfl) ml BR (AA (pv 6) AE))))
  (AN (Bu fT rfl (Ib (by rfl) me (AA (pv 6) AE)) (DZ (n:=2) (K:=K) rfl (BE (Ah (i:=9) Dl.nd rfl (Or.inr rfl)) (BE (Ah (i:=10) Dl.nd rfl (Or.inr rfl)) CO)))
   (AN (Aa (i:=11) Dl.nd rfl (Or.inl rfl) (CB (AA (AK Bt AD (pv 2)) AE)))
   (AN (BZ (BX OY (pv 9) AD (BM _)) (AV (IQ (i:=11) Dl.nd rfl (Or.inl rfl) (Nc:=["_law_rope"]) (cap:=[]) (g:=BQ 0) (te:=_) rfl (Z3 (by rfl) mv (pL K (pv 3) (AK Cq (pv 9) AD)))
    (CJ rfl rfl (by decide +kernel) (by decide +kernel) (fh _) rfl (fh _)) (λ_ _ _ _ _=>Ah (i:=0) Ts rfl (Or.inl rfl)) (λ_ _ _ _ _=>AK BH (AK Bt AD (pv 0)) AD))) Bp)
   (AN (BZ (BX Ht (pv 9) (A8 (Bs (K:=K)) (by rfl) ml BR (AA (pv 3) AE)) (BM _))
    (AN (DB (C4 K gh PySem.F.slot_list_extend PySem.F.type_list_extend W0 (pv 7) (AA (C3 (Nc:=["_law_rope","_law_place","_law_order","_law_k"]) (cap:=[(1,10),(2,6),(3,9)]) (g:=BQ 0) (te:=_) rfl (Hn (K:=K) (pL K (pv 3) (pv 9)))
     (CJ rfl rfl (by decide +kernel) (by decide +kernel) (ft.mpr ⟨⟨rfl,rfl⟩,ft.mpr ⟨⟨rfl,rfl⟩,ft.mpr ⟨⟨rfl,rfl⟩,fh _⟩⟩⟩) rfl (ft.mpr ⟨⟨_,_,rfl,rfl,rfl,rfl,rfl⟩,ft.mpr ⟨⟨_,_,rfl,rfl,rfl,rfl,rfl⟩,ft.mpr ⟨⟨_,_,rfl,rfl,rfl,rfl,rfl⟩,fh _⟩⟩⟩))
     (λ_ _ _ _ _=>Ah (i:=0) bh rfl (Or.inl rfl)) (λ_ _ _ _ _=>BP (AA (pv 1) (AA (pL K (pv 2) (AK BH (pv 3) AD)) (AA (BP (AA AD (AA AD AE))) AE))))) AE)))
    (AV (Aa (i:=11) Dl.nd rfl (Or.inl rfl) (AK HZ (pv 11) (C3 (Nc:=["_law_rope"]) (cap:=[]) (g:=BQ 0) (te:=_) rfl (Hn (K:=K) (pL K (pv 3) (pv 9)))
     (CJ rfl rfl (by decide +kernel) (by decide +kernel) (fh _) rfl (fh _)) (λ_ _ _ _ _=>Ah (i:=0) Ts rfl (Or.inl rfl)) (λ_ _ _ _ _=>AK Bt AD (pv 0)))))))
    (AV (DB (C4 K gh gL gM Ds (pv 11) (AA (AK BH (AK Bt AD (pv 2)) AD) AE)))))
   (AV (DF (Cn (Fm (K:=K)) (by rfl) mt Cb (AA (pv 11) AE)) (EB (pv 8) (pv 10) D9))))))
  )
  (AV (Am (BP (AA (A8 (Bs (K:=K)) (by rfl) ml BR (AA (pv 6) AE)) (AA (Cn (Fm (K:=K)) (by rfl) mt Cb (AA (pv 7) AE)) (AA (Cn (Fm (K:=K)) (by rfl) mt Cb (AA (pv 8) AE)) AE))))))))))))))
  ,?_⟩
 have p20:(0:Int)<10 ^ ((20:Int).toNat):=by decide
 refine⟨_,rfl,_,_,rfl,rfl,⟨by decide,by decide,by decide⟩,_,_,rfl,rfl,p20,?_⟩;generalize c0 % 10 ^ ((20:Int).toNat)=c;obtain⟨m,hm,m13,m14⟩:∃m:Nat,13+c % 2=(m:Int)/\13<=m/\m<=14:=⟨(13+c % 2).toNat,by omega,by omega,by omega⟩;refine⟨_,rfl,_,_,rfl,rfl,(show(0:Int)<2 by decide),_,_,rfl,rfl,?_⟩;rw[hm];refine⟨by exact FZ,λGp hGp=>?_⟩;have s1:=AY hGp (.AB []);have e1:Ko (AF H Gp (.AB [])) Gp [] [] 0:=⟨AS,At.nil,by simp,rfl,by simp⟩;generalize AF H Gp (.AB [])=H1 at s1 e1;refine NW (t:=N3 _ _) (G:=λσ H2=>∃bs gs u4 u5,σ=[some (.int c0),some (.int c),some (.int (m:Int)),some (.ref Gp),u4,u5,none,none,none,none,none,none]/\AR H H2/\Ko H2 Gp bs gs m) (λU hU=>?_) ?_
 ·refine Ic (λσ H2=>∃many bs gs u5,σ=[some (.int c0),some (.int c),some (.int (m:Int)),some (.ref Gp),some (.int ((many:Nat):Int)),u5,none,none,none,none,none,none]/\AR H H2/\Ko H2 Gp bs gs many/\many<=m)
   (λσ _=>match σ with | [_,_,_,_,some (.int y),_,_,_,_,_,_,_]=>m-y.toNat | _=>0) ⟨0,[],[],none,rfl,s1,e1,gP _⟩ ?_ ?_
  ·rintro σ H2 ⟨many,bs,gs,u5,rfl,s2,g2,mm⟩;refine⟨_,rfl,_,rfl,_,_,rfl,rfl,_,rfl,?_⟩;by_cases hlt:(many:Int)<(m:Int)
   ·refine DH hlt ?_;have gl:=g2.le;have lb:bs.length=gs.length:=g2.MA.1;refine⟨_,rfl,_,rfl,_,_,rfl,rfl,_,rfl,_,rfl,Gp,_,rfl,.inl (AM.of g2.h),_,_,rfl,rfl,?_⟩;rw[ed,lb];refine⟨_,_,rfl,rfl,⟨by omega,by omega⟩,_,_,rfl,rfl,(show(0:Int)<6 by decide),rfl,.inr ⟨_,rfl,_,_,rfl,rfl,_,_,rfl,?_⟩⟩;generalize (decide (V.int (c / (3+(gs.length:Int)) % 6)=V.int 1))=bb;obtain⟨wd,hw,w12,wle⟩:∃wd:Nat,(if (1:Int)+(if bb=true then 1 else 0)<(m:Int)-(many:Int) then (1:Int)+(if bb=true then 1 else 0) else (m:Int)-(many:Int))=(wd:Int)/\(wd=1\/wd=2)/\many+wd<=m:=by
     cases bb
     ·refine⟨1,?_,.inl rfl,by omega⟩;rw[eZ (show ¬false=true by decide)];split <;> omega
     ·rw[ff (show true=true from rfl)];by_cases z:(1:Int)+1<(m:Int)-(many:Int)
      ·exact⟨2,by rw[ff z]; rfl,.inr rfl,by omega⟩
      ·rw[eZ z];exact⟨m-many,by omega,by omega,by omega⟩
    rw[hw];refine⟨_,rfl,.inl ⟨rfl,_,AM.of g2.h⟩,_,rfl,_,rfl,_,rfl,_,_,rfl,rfl,(many:Int),wd,rfl,by omega,by omega,by omega,λgl' hgl=>?_⟩;have s3:=AY hgl (.AB ((List.range wd).map λk:Nat=>V.int ((many:Int)+(k:Int))));have eg:((List.range wd).map λk:Nat=>V.int ((many:Int)+(k:Int)))=(((List.range wd).map λk:Nat=>(many:Int)+(k:Int))).map V.int:=by rw[gG]; rfl
    rw[eg] at s3 ⊢;generalize hg:((List.range wd).map λk:Nat=>(many:Int)+(k:Int))=gr at *;have i3:Bv (AF H2 gl' (.AB (gr.map V.int))) gl' gr:=AS;have hG3:=s3 _ _ g2.h;have a3:=g2.MA.keep EA s3;have nG:Gp≠gl':=BL g2.h hgl;generalize AF H2 gl' (.AB (gr.map V.int))=H3 at s3 i3 hG3 a3;refine⟨Gp,_,_,rfl,rfl,hG3,by rw[ed]; exact Ca (by omega),?_⟩;refine⟨_,rfl,_,rfl,_,_,rfl,rfl,⟨many+wd,bs++[gl'],gs++[gr],_,rfl,(s2.trans s3).up hGp _,⟨?_,?_,?_,?_,?_⟩,wle⟩,?_⟩
    ·rw[AS]; simp
    ·exact XN (a3.snoc i3) (by simp[g2.VH,nG])
    ·simp[g2.VH,nG]
    ·rw[gQ,g2.fl,<-hg,List.range_add,fv,gG];simp
    ·intro x hx;rcases fm.mp hx with z | z
     ·exact g2.sz x z
     ·rw[fQ.mp z,<-hg];rcases w12 with rfl | rfl
      ·exact⟨(many:Int),.inl (by simp)⟩
      ·exact⟨(many:Int),.inr (by simp[List.range_succ])⟩
    ·show m-((many:Int)+(wd:Int)).toNat<m-((many:Int)).toNat;omega
   ·refine DL hlt (hU _ _ ?_);obtain rfl:many=m:=by omega
    exact⟨bs,gs,_,u5,rfl,s2,g2⟩
  ·rintro σ H2 Q1 Q2 hq ⟨v,e,v',e',i,j,e1,e2,b,eb,z⟩;exact⟨v,e,v',e',i,j,e1,e2,b,eb,hq _ _ z⟩
 rintro σ H2 ⟨bs,gs,u4,u5,rfl,s2,g2⟩;have g:Ce m gs:=⟨g2.fl,g2.sz,by omega,m14⟩;have g1:=g.g1;have gle:=g.le;have lb:bs.length=gs.length:=g2.MA.1;refine⟨by exact EO,λl0 h0=>?_⟩;obtain⟨H3,zg,s3,e3⟩:=nw h0 (.AB [.int 0]);rw[zg];refine⟨_,rfl,Gp,_,rfl,.inl (AM.of (s3 _ _ g2.h)),_,_,rfl,rfl,2,gs.length-1,by rw[ed,lb,show(2:Int)+((gs.length-1:Nat):Int)=(gs.length:Int)+1 by omega],by omega,by omega,by omega,λl1 h1=>?_⟩;obtain⟨H4,zg,s4,e4⟩:=nw h1 (.AB ((List.range (gs.length-1)).map λi:Nat=>V.int (2+(i:Int))));rw[zg];refine⟨l0,l1,_,_,rfl,rfl,s4 _ _ e3,e4,by rw[ed,fK]; exact D5 (by simp; omega),λl2 h2=>?_⟩;obtain⟨H5,zg,s5,e5⟩:=nw h2 (.AB ([.int 0]++((List.range (gs.length-1)).map λi:Nat=>V.int (2+(i:Int)))));rw[zg];refine⟨by exact EO,λl3 h3=>?_⟩;obtain⟨H6,zg,s6,e6⟩:=nw h3 (.AB [.int 1]);rw[zg];refine⟨l2,l3,_,_,rfl,rfl,s6 _ _ e5,e6,by rw[fj,ed,fK]; exact D5 (by simp; omega),λOr hOr=>?_⟩;rw[YM g1];obtain⟨H7,zg,s7,e7⟩:=nw hOr (.AB (Hw gs.length));rw[zg];have s27:=(s3.trans (s4.trans (s5.trans (s6.trans s7))));have s07:=s2.trans s27;have hG7:=s27 _ _ g2.h;have a7:=g2.MA.keep EA s27;clear s3 s4 s5 s6 s7 e3 e4 e5 e6 h0 h1 h2 h3 s27;refine⟨by exact FZ,λRp hRp=>?_⟩;obtain⟨H8,zg,s8,zz⟩:=nw hRp (.AB []);rw[zg];have e8:H8 Rp=some (.AB (([]:List Addr).map V.ref)):=zz;refine⟨by exact FZ,λet het=>⟨by exact EO,λel hel=>?_⟩⟩;have s9:=(AY het (.AG [])).trans (AY hel (.AB [.ref et]));have e9:(AF (AF H8 et (.AG [])) el (.AB [.ref et])) el=some (.AB [.ref et]):=AS;generalize AF (AF H8 et (.AG [])) el (.AB [.ref et])=H9 at s9 e9;have s89:=s8.trans s9;refine⟨_,rfl,Or,_,rfl,.inl (AM.of (s89 _ _ e7)),el,_,_,rfl,rfl,e9,by rw[GR]; omega,by rw[GR]; omega,by rw[GR]; exact D5 (by simp; omega),λRw hRw=>?_⟩;rw[GR,show(((gs.length+1:Nat):Int)).toNat=gs.length+1 by omega];have sA:=AY hRw (.AB ((List.replicate (gs.length+1) [V.ref et]).flatten));have eA:(AF H9 Rw (.AB ((List.replicate (gs.length+1) [V.ref et]).flatten))) Rw=some (.AB ((List.replicate (gs.length+1) [V.ref et]).flatten)):=AS;have lA:((List.replicate (gs.length+1) [V.ref et]).flatten).length=gs.length+1:=by rw[SQ]; simp
 have e8A:=sA _ _ (s9 _ _ e8);have nRR:Rp≠Rw:=BL (s9 _ _ e8) hRw;generalize (List.replicate (gs.length+1) [V.ref et]).flatten=rv0 at *;generalize AF H9 Rw (.AB rv0)=HA at sA eA e8A;have s7A:=s89.trans sA;have hRw7:H7 Rw=none:=s89.free hRw;clear s8 s9 s89 e8 e9 hel het hRw;refine⟨_,rfl,Or,_,rfl,s7A _ _ e7,?_⟩;have fR:=hRp;refine Jf (xs:=Hw gs.length) (λk σ H3=>∃u9 u10 u11 ds rv,σ=[some (.int c0),some (.int c),some (.int (m:Int)),some (.ref Gp),u4,u5,some (.ref Or),some (.ref Rp),some (.ref Rw),u9,u10,u11]/\AR H7 H3/\H3 Rp=some (.AB (ds.map V.ref))/\At Bf H3 ds (Ez gs k)/\H3 Rw=some (.AB rv)/\rv.length=gs.length+1 /\
   ∀j,j<k->j<=gs.length->∃b,rv[A6 gs.length j]?=some (.ref b)/\BS H3 b (BO m gs j++Bb m gs j))
  ⟨none,none,none,[],rv0,rfl,s7A,e8A,At.nil,eA,lA,λj hj=>absurd hj (Nat.not_lt_zero _)⟩ (λk σ H3 _ ⟨_,_,_,_,_,_,s3,_⟩=>s3 _ _ e7) ?_ ?_
 ·rintro k x σ H3 tp hx ⟨u9,u10,u11,ds,rv,rfl,s3,eR,hD,eW,lw,rows⟩ htp;have kl:k<=gs.length:=by
   have:=(eu.mp hx).1
   rw[GR] at this;omega
  rw[LH kl] at hx;cases hx;obtain⟨H4,zg,s4,e4⟩:=nw htp (.AG [.int (k:Int),.int ((A6 gs.length k:Nat):Int)]);rw[zg];have s74:=s3.trans s4;have eR4:=s4 _ _ eR;have hD4:=hD.keep Cp s4;have eW4:=s4 _ _ eW;have rows4:∀j,j<k->j<=gs.length->∃b,rv[A6 gs.length j]?=some (.ref b)/\BS H4 b (BO m gs j++Bb m gs j):=λj hj hj2=>by
   obtain⟨b,b1,b2⟩:=rows j hj hj2;exact⟨b,b1,s4 _ _ b2⟩
  clear rows eR hD eW s4 s3;refine⟨tp,_,rfl,AJ.of e4,rfl,_,_,rfl,_,_,rfl,rfl,?_⟩;refine⟨_,rfl,_,_,rfl,rfl,.inl ⟨by decide,by decide⟩,by exact EO,λl1 h1=>?_⟩;obtain⟨H5,zg,s5,e5⟩:=nw h1 (.AB [.int (2*(m:Int))]);rw[zg];refine Yl ?_;refine bo ?_;refine NW (t:=Of _ _ _) (G:=λσ H6=>∃l,σ=[some (.int c0),some (.int c),some (.int (m:Int)),some (.ref Gp),u4,u5,some (.ref Or),some (.ref Rp),some (.ref Rw),some (.int (k:Int)),some (.int ((A6 gs.length k:Nat):Int)),some (.ref l)]/\AR H4 H6/\H4 l=none/\H6 l=some (.AB ((BO m gs k).map V.int))) (λU hU=>?_) ?_
  ·refine⟨_,rfl,_,_,rfl,rfl,_,rfl,?_⟩;cases k with
   | zero =>
    refine DL (by omega) (hU _ _ ⟨l1,rfl,s5,h1,?_⟩);rw[Fw]; exact e5
   | succ k =>
    refine DH (by omega) ?_;have kl':k<gs.length:=by omega
    have ek:=eh kl';obtain⟨bk,hb1,hb2⟩:=a7.get ek;have hb5:=s5 _ _ (s74 _ _ hb2);have xl:gs[k].length<=2:=by obtain⟨a,e | e⟩:=g.sz _ (eQ ek) <;> rw[e] <;> simp
    refine⟨_,rfl,_,rfl,_,_,rfl,rfl,Gp,_,_,_,rfl,rfl,AM.of (s5 _ _ (s74 _ _ hG7)),by rw[show((k+1:Nat):Int)-1=((k:Nat):Int) by omega]; exact BF (Be hb1),bk,_,rfl,AM.of hb5,λacc hacc=>?_⟩;refine CN (YW hb5) (by rw[ed]; omega) hacc (λi ys σ _=>ys=((gs[k].reverse.take i).map λr=>2*r+1).map V.int/\∃u,σ=[u]) ⟨rfl,none,rfl⟩ ?_ ?_
    ·rintro i ys σ H6 v H7' hi sm hacc2 ⟨hys,u,rfl⟩ ⟨rfl,hv⟩ C hC2;obtain⟨r,rfl,hr⟩:=YX hv;refine⟨_,rfl,_,_,rfl,rfl,.inl ⟨by decide,by decide⟩,_,_,rfl,rfl,hC2 _ _ _ (AR.refl _) ⟨?_,_,rfl⟩⟩;rw[hys,Dr hr,fv,fv]; rfl
    ·rintro ys σ H6 s6 g6 _ ⟨hys,_⟩;rw[ed,fH (by rw[iW]; exact eU _),<-FQ (m:=m) ek] at hys;exact hU _ _ ⟨acc,rfl,s5.trans s6,s5.free hacc,by rw[g6,hys]⟩
  rintro σ H6 ⟨l,rfl,s6,fl,el⟩;clear s5 e5 h1;have eR6:=s6 _ _ eR4;have hD6:=hD4.keep Cp s6;have lR:l≠Rp:=λz=>by rw[z,eR4] at fl; cases fl
  refine NW (t:=Of _ _ _) (G:=λσ H8=>∃l ds,σ=[some (.int c0),some (.int c),some (.int (m:Int)),some (.ref Gp),u4,u5,some (.ref Or),some (.ref Rp),some (.ref Rw),some (.int (k:Int)),some (.int ((A6 gs.length k:Nat):Int)),some (.ref l)]/\B6 Rp H4 H8/\H8 Rp=some (.AB (ds.map V.ref))/\At Bf H8 ds (Ez gs (k+1))/\H8 l=some (.AB ((BO m gs k++Bb m gs k).map V.int))) (λU hU=>?_) ?_
  ·refine⟨_,rfl,_,rfl,Gp,_,rfl,.inl (AM.of (s6 _ _ (s74 _ _ hG7))),_,_,rfl,rfl,_,rfl,?_⟩;rw[ed,lb];by_cases hlt:(k:Int)<(gs.length:Int)
   ·refine DH hlt ?_;have kl':k<gs.length:=by omega
    have ek:=eh kl';obtain⟨bk,hb1,hb2⟩:=a7.get ek;have hb6:=s6 _ _ (s74 _ _ hb2);have xl:gs[k].length<=2:=by obtain⟨a,e | e⟩:=g.sz _ (eQ ek) <;> rw[e] <;> simp
    generalize hgx:gs[k]=x at *;refine⟨_,rfl,.inl ⟨rfl,_,AM.of eR6⟩,_,rfl,_,rfl,Gp,_,_,_,rfl,rfl,AM.of (s6 _ _ (s74 _ _ hG7)),BF (Be hb1),bk,rfl,⟨_,AM.of hb6⟩,λacc hacc=>?_⟩;refine CN (Fl hb6) (by rw[ed]; omega) hacc (λi ys σ Hq=>∃es:List Addr,ys=es.map V.ref/\At Bf Hq es ((x.map λ_=>(A6 gs.length k,A6 gs.length (k+1),(1:Rat))).take i)/\∃u,σ=[u,some (.int ((A6 gs.length k:Nat):Int)),some (.ref Or),some (.int (k:Int))]) ⟨[],rfl,At.nil,none,rfl⟩ ?_ ?_
    ·rintro i ys σ H7' v H8 hi sm hacc2 ⟨es,rfl,hE,u,rfl⟩ ⟨rfl,hv⟩ C hC2;obtain⟨r,rfl,hr⟩:=Ep hv;refine⟨_,rfl,_,rfl,_,rfl,_,_,rfl,rfl,Or,_,_,_,rfl,rfl,AM.of (sm _ _ (s6 _ _ (s74 _ _ e7))),by rw[show(k:Int)+1=((k+1:Nat):Int) by omega]; exact BF (LH (by omega)),by exact Bh,λe he=>⟨by exact E7,λt ht=>?_⟩⟩;obtain⟨H9,zg,s9,zz⟩:=nw he (.AG [.int 1,.int 1]);rw[zg] at ht ⊢;have f9:AO H9 e 1:=zz;have sB:=AY ht (.AG [.int ((A6 gs.length k:Nat):Int),.int ((A6 gs.length (k+1):Nat):Int),.ref e]);have s9B:=s9.trans sB;refine hC2 _ _ _ s9B ⟨es++[t],by simp,?_,_,rfl⟩;rw[Dr (show(x.map λ_=>(A6 gs.length k,A6 gs.length (k+1),(1:Rat)))[i]?=some (A6 gs.length k,A6 gs.length (k+1),1) by rw[fg,hr]; rfl)];exact(hE.keep Cp (EX acc s9B)).snoc (XW ⟨e,AS,AZ sB f9⟩ (s9B _ _ hacc2))
    ·rintro ys σ H8 s8 g8 _ ⟨es,rfl,hE,_⟩;rw[ed,fH (by rw[ed]; exact eU _)] at hE;replace hE:=hE.keep Cp (Dw H8 acc);have eR8:=s8 _ _ eR6;have ds14:ds.length<=14:=by
      have h1:=hD4.1;have h2:=congrArg List.length (E9 0 (gs.take k));rw[ed] at h2;unfold Ez at h1;rw[ed,h2] at h1;have h3:(gs.take k).flatten.length<=gs.flatten.length:=by
       conv=>rhs; rw[<-List.take_append_drop k gs,gQ,fj]
       omega
      rw[g.fl,ed,fK] at h3;omega
     have es2:es.length<=2:=by rw[hE.1,ed]; exact xl
     refine⟨Rp,acc,_,_,rfl,rfl,eR8,g8,by rw[ed,ed]; exact D5 (by omega),?_⟩;have hD8:=(hD6.keep Cp s8).Pc hE;rw[<-Xa ek] at hD8;have hD9:=IU eR8 (o:=.AB (ds.map V.ref++es.map V.ref)) hD8;have sb9:B6 Rp H4 (AF H8 Rp (.AB (ds.map V.ref++es.map V.ref))):=(AR.b (s6.trans s8)).put _;have eR9:(AF H8 Rp (.AB (ds.map V.ref++es.map V.ref))) Rp=some (.AB ((ds++es).map V.ref)):=by rw[AS]; simp
     have el9:(AF H8 Rp (.AB (ds.map V.ref++es.map V.ref))) l=some (.AB ((BO m gs k).map V.int)):=by rw[Ad lR]; exact s8 _ _ el
     have bR:bk≠Rp:=λz=>by
      have:=s74 _ _ hb2
      rw[z,eR4] at this;have h2:=hb2;unfold Bv at h2;rw[z] at h2;rw[h2] at fR;cases fR
     have gR:Gp≠Rp:=λz=>by rw[z] at hG7; rw[hG7] at fR; cases fR
     have hb9:=sb9 _ _ bR (s74 _ _ hb2);have hG9:=sb9 _ _ gR (s74 _ _ hG7);generalize AF H8 Rp (.AB (ds.map V.ref++es.map V.ref))=H9 at hD9 sb9 eR9 el9 hb9 hG9;refine⟨_,rfl,_,rfl,_,rfl,Gp,_,_,_,rfl,rfl,AM.of hG9,BF (Be hb1),bk,rfl,⟨_,AM.of hb9⟩,λac2 hac2=>?_⟩;refine CN (Fl hb9) (by rw[ed]; omega) hac2 (λi ys σ _=>ys=((x.take i).map λr=>2*r).map V.int/\∃u,σ=[u]) ⟨rfl,none,rfl⟩ ?_ ?_
     ·rintro i ys σ HB v HC hi sm hacc2 ⟨hys,u,rfl⟩ ⟨rfl,hv⟩ C hC2;obtain⟨r,rfl,hr⟩:=Ep hv;refine⟨_,rfl,_,_,rfl,rfl,.inl ⟨by decide,by decide⟩,hC2 _ _ _ (AR.refl _) ⟨?_,_,rfl⟩⟩;rw[hys,Dr hr,fv,fv]; rfl
     ·rintro ys σ HB sB gB _ ⟨hys,_⟩;rw[ed,iG,<-Es (m:=m) ek] at hys;have tl:(BO m gs k).length+(Bb m gs k).length<=100:=by
       have h1:(Bb m gs k).length<=2:=by rw[Es ek,ed]; exact xl
       have h2:(BO m gs k).length<=2:=by
        cases k with
        | zero=>rw[Fw]; simp
        | succ k =>
         have e:=eh (show k<gs.length by omega);rw[FQ e,ed,iW];obtain⟨a,e2 | e2⟩:=g.sz _ (eQ e) <;> rw[e2] <;> simp
       omega
      refine⟨l,ac2,_,_,rfl,rfl,sB _ _ el9,by rw[gB,hys],by rw[ed,ed]; exact D5 (by omega),λpp hpp=>hU _ _ ?_⟩;have sC:=AY hpp (.AB ((BO m gs k).map V.int++(Bb m gs k).map V.int));have s9C:=sB.trans sC;exact⟨pp,ds++es,rfl,sb9.trans (AR.b s9C),s9C _ _ eR9,hD9.keep Cp s9C,by rw[AS,fv]⟩
   ·refine DL hlt ?_;obtain rfl:k=gs.length:=by omega
    have tl:(BO m gs gs.length).length<=2:=by
     obtain⟨k',hk'⟩:∃k',gs.length=k' + 1:=⟨gs.length-1,by omega⟩;have e:=eh (show k' < gs.length by omega);rw[hk',FQ e,ed,iW];obtain⟨a,e2 | e2⟩:=g.sz _ (eQ e) <;> rw[e2] <;> simp
    refine⟨_,rfl,.inl ⟨rfl,_,AM.of el⟩,_,rfl,_,_,rfl,rfl,.inl ⟨by decide,by decide⟩,_,_,rfl,rfl,l,_,_,rfl,rfl,el,by rw[ed]; exact Ca (by omega),hU _ _ ?_⟩;refine⟨l,ds,rfl,AR.b (s6.up fl _),by rw[Ad (iB lR)]; exact eR6,IU el ?_,by rw[AS,Hs,fv]; rfl⟩
    have:Ez gs (gs.length+1)=Ez gs gs.length:=by unfold Ez; rw[fH (by omega),iG]
    rw[this]; exact hD6
  rintro σ H8 ⟨l',ds',rfl,sb8,eR8,hD8,el8⟩;have wR:Rw≠Rp:=iB nRR;have eW8:=sb8 _ _ wR eW4;refine⟨_,rfl,l',_,rfl,.inl ⟨AM.of el8,λt ht=>?_⟩⟩;have s9:=AY ht (.AG ((BO m gs k++Bb m gs k).map V.int));have i9:BS (AF H8 t (.AG ((BO m gs k++Bb m gs k).map V.int))) t (BO m gs k++Bb m gs k):=AS;generalize AF H8 t (.AG ((BO m gs k++Bb m gs k).map V.int))=H9 at s9 i9;have ol:=LC g1 kl;refine⟨_,rfl,_,rfl,Rw,_,_,_,rfl,rfl,s9 _ _ eW8,Jn (by rw[lw]; exact ol),?_⟩;have eW9:=s9 _ _ eW8;have up7:AR H7 (AF H9 Rw (.AB (rv.set (A6 gs.length k) (.ref t)))):=λb o q=>by
   have nR:b≠Rp:=λz=>by rw[z,fR] at q; cases q
   have nW:b≠Rw:=λz=>by rw[z,hRw7] at q; cases q
   rw[Ad nW];exact s9 _ _ (sb8 _ _ nR (s74 _ _ q))
  refine⟨_,_,_,ds',rv.set (A6 gs.length k) (.ref t),rfl,up7,by rw[Ad nRR]; exact s9 _ _ eR8,IU eW9 (hD8.keep Cp s9),AS,by rw[iA]; exact lw,λj hj hj2=>?_⟩;have tw:∀{b:Addr} {u:List Int},BS H9 b u->BS (AF H9 Rw (.AB (rv.set (A6 gs.length k) (.ref t)))) b u:=λ{b u} hb=>by
   unfold BS at hb ⊢;rw[Ad (λz=>by rw[z,eW9] at hb; cases hb)];exact hb
  by_cases e:j=k
  ·subst e;exact⟨t,by rw[gp (by rw[lw]; exact ol)],tw i9⟩
  ·obtain⟨b,b1,b2⟩:=rows4 j (by omega) hj2;have bR:b≠Rp:=λz=>by unfold BS at b2; rw[z,eR4] at b2; cases b2
   exact⟨b,by rw[gn (λz=>e (RG hj2 kl z.symm))]; exact b1,tw (s9 _ _ (sb8 _ _ bR b2))⟩
 ·rintro σ H3 ⟨u9,u10,u11,ds,rv,rfl,s3,eR,hD,eW,lw,rows⟩;rw[GR] at hD rows;obtain⟨es,us,rfl,hes,hus⟩:=Lp (R:=BS) (H:=H3) (mv:=rv) (Pq:=λq u=>∃k,k<=gs.length/\A6 gs.length k=q/\u=BO m gs k++Bb m gs k) (λqq hq=>by
   obtain⟨k,hk,ek⟩:=MZ (G:=gs.length) g1 (p:=qq) (by omega);obtain⟨b,b1,b2⟩:=rows k (by omega) hk;rw[ek] at b1;exact⟨b,_,b1,b2,k,hk,ek,rfl⟩)
  rw[ed] at lw;have lu:us.length=gs.length+1:=by rw[<-hes.1]; exact lw
  have re:Ez gs (gs.length+1)=(CH 0 gs).map λq=>(A6 gs.length q.2.toNat,A6 gs.length (q.2.toNat+1),1):=by unfold Ez; rw[fH (by omega)]
  rw[re] at hD;have ln:CY m gs ((CH 0 gs).map λq=>(A6 gs.length q.2.toNat,A6 gs.length (q.2.toNat+1),1)) us:=⟨g,lu,λk hk=>by
   have ol:=LC g1 hk;have e:=eh (show A6 gs.length k<us.length by omega);obtain⟨k',hk',e1,e2⟩:=hus _ _ e;rw[e,e2,RG hk' hk e1],rfl⟩
  refine⟨_,rfl,Or,_,rfl,.inl (AM.of (s3 _ _ e7)),_,rfl,Rp,_,rfl,.inl ⟨AM.of eR,λp1 hp1=>?_⟩⟩;rw[GR];obtain⟨H4,zg,s4,e4⟩:=nw hp1 (.AG (ds.map V.ref));rw[zg];refine⟨_,rfl,Rw,_,rfl,.inl ⟨AM.of (s4 _ _ eW),λp2 hp2=>⟨by exact E7,λp3 hp3=>?_⟩⟩⟩;obtain⟨H5,zg,s5,e5⟩:=nw hp2 (.AG (es.map V.ref));rw[zg] at hp3 ⊢;have s6:=AY hp3 (.AG [.int ((gs.length+1:Nat):Int),.ref p1,.ref p2]);have s36:=s4.trans (s5.trans s6);exact q p3 p1 p2 (gs.length+1) _ us _ ((s07.trans s3).trans s36) AS ⟨ds,s6 _ _ (s5 _ _ e4),hD.keep Cp s36⟩ ⟨es,s6 _ _ e5,hes.keep HM s36⟩ ln.dk
theorem WU(W U:Rat)(rows:List (List Rat)):E2 4 (Sa W U rows):=.AG λd hd=>by
 simp only[fE,gE,iO] at hd;rcases hd with rfl | rfl | rfl
 ·exact JA 2 _
 ·exact JA 2 _
 ·refine .AG λd hd=>?_
  obtain⟨r,_,rfl⟩:=fi.mp hd;refine .AG λd hd=>?_
  obtain⟨x,_,rfl⟩:=fi.mp hd;exact JA 0 _
theorem ZQ(p:Int->Rat)(Y:Nat->Rat)(rs:List AQ):∀r∈FK p Y rs,r.length=4:=λr hr=>by
 unfold FK at hr;obtain⟨k,hk,rfl⟩:=List.mem_mapIdx.mp hr;rfl
theorem Xw(ns:List Int)(lo hi:Option Int):∃zs:List Int,Cw (ns.map V.int) lo hi=zs.map V.int:=by
 unfold Cw;exact⟨_,by rw[<-List.map_drop,<-List.map_take]⟩
variable {f5 f6 f7 f8 f9:Addr} {d5 d6 d7 d8 d9:FuncData}
inductive RS(K:PySem.W.Frag)(vs:List V)(H:Hp)(Q:VK):Prop
 | mk (a:Addr) (ns:List Int) (mo:Nat) (h_0:vs=[.ref a,.int (mo:Int)]) (h_1:U6 K H a ns) (h_2:1<=mo) (h_3:mo<=14) (h_4:∀p ra ta n rs us H',AR H H'->H' p=some (.AG [.int ((n:Nat):Int),.ref ra,.ref ta])->Az Bf H' ra rs->Az BS H' ta us->Lw n rs us->Q (.ref p) H'):RS K vs H Q
def N8(K:PySem.W.Frag):Sp:=λvs H Q _=>RS K vs H Q
theorem cL:A3 ["_law_script","_law_most"] ["_law_script","_law_most"] (Ao s_law_some_net):=BC
theorem Ye (F:Ar K "_law_some_net" "_law_some_net" s_law_some_net f fd) (G1:AU P w K mg base 1 "_law_cell" ["_law_script","_law_k"] (Le K))
  (G2:AU P w K mg base 1 "_law_long" ["_law_cell_here"] Nq)
  (G3:AU P w K mg base 4 "_law_grown" ["_law_cells","_law_first","_law_most","_law_great"] NQ) :
  An P w K mg base Ay 5 f fd ["_law_script","_law_most"] (N8 K):=by
 refine F.BD cL λcdv A outer s H vs Q E hr h=>?_
 obtain⟨a,ns,mo,rfl,hS,mo1,mo2,q⟩:=h;have r1:=hr.mono (show 1<=4 by decide);refine⟨_,AN (BZ (BX EF (AK Bl (Ae G1 r1 (AA (pv 0) (AA AD AE))) AD) AD (BM _)) (AV (Am (Ae G2 r1 (AA (AK Dt (Ae G1 r1 (AA (pv 0) (AA AD AE))) AD) AE)))) Bp)
  (AV (Am (Ae G3 hr (AA (EW (Kl (K:=K)) (pv 0) (Dv AD) (Dv AD)) (AA (Ae G1 r1 (AA (pv 0) (AA AD AE))) (AA (pv 1) (AA AD AE))))))),?_⟩
 refine⟨_,rfl,a,ns,0,rfl,hS,λz=>?_⟩;refine⟨_,_,rfl,rfl,(show(0:Int)<8 by decide),rfl,_,rfl,?_⟩;refine Hy (λ_=>?_) (λ_=>?_)
 ·exact⟨_,rfl,a,ns,0,rfl,hS,λz=>⟨_,_,rfl,rfl,⟨by decide,by decide⟩,_,rfl,q⟩⟩
 ·refine⟨_,rfl,2,rfl,63,rfl,a,_,rfl,hS.1,λL hL=>?_⟩;obtain⟨zs,hz⟩:=Xw ns (some 2) (some 63);rw[hz];obtain⟨H1,zg,sL,eL⟩:=nw hL (.AB (zs.map V.int));rw[zg];refine⟨_,rfl,a,ns,0,rfl,⟨sL.seq hS.1,hS.2⟩,λz=>?_⟩;refine⟨_,rfl,L,zs,z,999,mo,rfl,eL,mo1,mo2,by decide,by decide,λp ra ta n rs ts H2 s2 hp hR hT N D=>?_⟩;exact q p ra ta n rs ts H2 (sL.trans s2) hp hR hT (N.q D)
def Lm(K:PySem.W.Frag):Sp:=λvs H Q _=>∃(a:Addr) (ns:List Int),vs=[.ref a]/\AM K H a (ns.map V.int)/\ns.length<=63/\∀H',Q (.bl true) H'
theorem EH:A3 ["_law_script","_law_net","_law_fall_here","_law_tall","_law_spots","_law_due","_law_k","_law_rope","_law_low","_law_high","_law_left","_law_right","_law_found"] ["_law_script"] (Ao sLaw):=BC
set_option maxHeartbeats 4000000 in
seal L2.CW L2.PS L2.PE L2.PA in
theorem aZ (F:Ar K "law" "law" sLaw f fd) (G1:AU P w K mg base 5 "_law_some_net" ["_law_script","_law_most"] (N8 K))
  (G2:AU P w K mg base 3 "_law_fall" ["_law_cell_here"] Nb)
  (G3:AU P w K mg base 1 "_law_cell" ["_law_script","_law_k"] (Le K))
  (G4:AU P w K mg base 5 "heights" ["net"] Lo)
  (G5:AU P w K mg base 5 "_law_balanced" ["_law_net","_law_tall"] OX)
  (G6:AU P w K mg base 4 "_law_across" ["_law_net","_law_tall","_law_fall_here"] Mn)
  (G7:AU P w K mg base 2 "_law_in_order" ["_law_a","_law_b"] JD)
  (G8:AU P w K mg base 3 "_law_times" ["_law_a","_law_b"] (Bm λx y=>x*y))
  (G9:AU P w K mg base 6 "laid" ["net","fall"] OH)
  (G0:AU P w K mg base 5 "_law_is_floor" ["_law_found","_law_many"] OR) (ml:mg "len" = none) (me:mg "enumerate" = none) (mt:mg "tuple" = none) :
  An P w K mg base Ay 7 f fd ["_law_script"] (Lm K):=by
 refine F.ok EH (λvs H Q E h=>?_) (λcdv A outer s H vs Q E hr h=>?_)
 ·obtain⟨a,ns,rfl,_⟩:=h;rfl
 obtain⟨a,ns,rfl,hS,hn,q⟩:=h;have hu:=hr.units;have r1:=hr.mono (show 1<=6 by decide);have r2:=hr.mono (show 2<=6 by decide);have r3:=hr.mono (show 3<=6 by decide);have r4:=hr.mono (show 4<=6 by decide);have r5:=hr.mono (show 5<=6 by decide);refine⟨_,AN (Aa (i:=1) EH.nd rfl (Or.inl rfl) (Ae G1 r5 (AA (pv 0) (AA AD AE))))
  (AN (Aa (i:=2) EH.nd rfl (Or.inl rfl) (Ae G2 r3 (AA (Ae G3 r1 (AA (pv 0) (AA AD AE))) AE)))
  (AN (Aa (i:=3) EH.nd rfl (Or.inl rfl) (Ae G4 r5 (AA (pv 1) AE)))
  (AN (BZ (Gd (FH (Ae G5 r5 (AA (pv 1) (AA (pv 3) AE))))) (AV (Am Gi)) Bp)
  (AN (Aa (i:=4) EH.nd rfl (Or.inl rfl) (Ae G6 r4 (AA (pv 1) (AA (pv 3) (AA (pv 2) AE)))))
  (AN (Aa (i:=5) EH.nd rfl (Or.inl rfl) (CB AE))
  (AN (Bu fT rfl (HW (by rfl) me (AA (pT K (pv 1) AD) AE)) (DZ (n:=2) (K:=K) rfl (BE (Ah (i:=6) EH.nd rfl (Or.inl rfl)) (BE (Ah (i:=7) EH.nd rfl (Or.inl rfl)) CO)))
   (AN (DF (Ae G7 r2 (AA (Ae G8 r3 (AA (pT K (pv 3) (pT K (pv 7) AD)) (AA (pv 2) AE))) (AA (Ae G8 r3 (AA (pT K (pv 3) (pT K (pv 7) AD)) (AA (pv 2) AE))) AE))) (DZ (n:=2) (K:=K) rfl (BE (Ah (i:=8) EH.nd rfl (Or.inl rfl)) (BE (Ah (i:=9) EH.nd rfl (Or.inl rfl)) CO))))
   (AN (DF (Ae G7 r2 (AA (pL K (pv 4) (AK Bt AD (pv 6))) (AA (pL K (pv 4) (AK BH (AK Bt AD (pv 6)) AD)) AE))) (DZ (n:=2) (K:=K) rfl (BE (Ah (i:=10) EH.nd rfl (Or.inl rfl)) (BE (Ah (i:=11) EH.nd rfl (Or.inl rfl)) CO))))
   (AV (DB (C4 K gh gL gM Ds (pv 5) (AA (BP (AA (pv 10) (AA (pv 8) (AA (pv 11) (AA (pv 9) AE))))) AE))))))
  )
  (AN (Aa (i:=12) EH.nd rfl (Or.inl rfl) (Ae G9 hr (AA (pv 1) (AA (pv 2) AE))))
  (AN (BZ (Gd (FH (Ae G0 r5 (AA (pv 12) (AA (A8 (Bs (K:=K)) (by rfl) ml BR (AA (pT K (pv 1) AD) AE)) AE))))) (AV (Am Gi)) Bp)
  (AV (Am (HX (Ss hu) (pv 12) (BP (AA (pL K (pv 4) (AK BH (AK Bt AD (A8 (Bs (K:=K)) (by rfl) ml BR (AA (pT K (pv 1) AD) AE))) AD)) (AA (pv 2) (AA (Cn (Fm (K:=K)) (by rfl) mt Cb (AA (pv 5) AE)) AE)))) (BM _))))))))))))
  ,?_⟩
 refine⟨_,rfl,a,ns,8,rfl,⟨hS,hn⟩,by decide,by decide,λp ra ta n rs ts H1 s1 hp1 hR1 hT1 N=>?_⟩;obtain⟨n,rfl⟩:∃n',n=n' + 2:=⟨n-2,by have:=N.n2; omega⟩;have nk:=N.toNetV.k;refine⟨_,rfl,a,ns,1,rfl,⟨s1.seq hS,hn⟩,λz=>?_⟩;refine⟨z,rfl,λfa H2 F s2 hF2 sF=>?_⟩;obtain⟨cs,hra1,hRs1⟩:=hR1;have lc:cs.length=rs.length:=hRs1.1;refine⟨_,rfl,p,n,14,10,10,rs,rfl,⟨ra,_,s2 _ _ hp1,cs,s2 _ _ hra1,hRs1.keep Cp s2⟩,nk,λta2 H3 X s3 hX hT3=>?_⟩;have s13:=s2.trans s3;obtain⟨hf,Z,NN,wd⟩:=hX.af nk sF;obtain⟨pt,hpt⟩:=Zt (Y:=λj=>X j*F) N.toNetV N.PH (λi h2 hi=>by rw[Q0,hX.bal i h2 hi]; grind);have ly:PK n rs ts X F pt Z NN:=⟨nk,hX,hf,N.m14,N.tn,N.J9,hpt,wd⟩;have m14:=N.m14;refine⟨_,rfl,_,rfl,p,ta2,n,rs,X,rfl,⟨ra,_,s13 _ _ hp1,cs,s13 _ _ hra1,hRs1.keep Cp s13⟩,hT3,nk,hX,λH4 s4=>⟨_,rfl,CG ?_⟩⟩;have s14:=s13.trans s4;refine⟨_,rfl,_,rfl,_,rfl,p,ta2,fa,ra,ta,n,rs,ts,X,F,pt,Z,NN,rfl,s14 _ _ hp1,⟨cs,s14 _ _ hra1,hRs1.keep Cp s14⟩,OU s14 hT1,Dz s4 hT3,AZ (s3.trans s4) hF2,ly,λsp H5 s5 hSp sfp=>?_⟩;have s15:=s14.trans s5;have hp5:=s15 _ _ hp1;have hr5:=s15 _ _ hra1;have hR5:=hRs1.keep Cp s15;have hT5:=OU s15 hT1;have hF5:=AZ (s3.trans (s4.trans s5)) hF2;obtain⟨bs,hb5,hB5⟩:=Dz (s4.trans s5) hT3;obtain⟨ss,hs5,hS5⟩:=hSp;clear hRs1 hT1 hF2 hT3 s14 s15 s4 s5 s13 s3 s2;refine⟨by exact FZ,λR hR=>?_⟩;obtain⟨H6,zg,s6,zz⟩:=nw hR (.AB []);rw[zg];have e6:H6 R=some (.AB (([]:List Addr).map V.ref)):=zz;refine⟨_,rfl,p,_,_,_,rfl,rfl,AJ.of (s6 _ _ hp5),Di _ _ _,ra,_,rfl,s6 _ _ hr5,?_⟩;refine Ig (xs:=cs.map V.ref) (λi σ H7=>∃u6 u7 u8 u9 u10 u11 ds,σ=[some (.ref a),some (.ref p),some (.ref fa),some (.ref ta2),some (.ref sp),some (.ref R),u6,u7,u8,u9,u10,u11,none]/\AR H5 H7/\H7 R=some (.AB (ds.map V.ref))/\At (Az AO) H7 ds ((FK pt (λj=>X j*F) rs).take i))
  ⟨none,none,none,none,none,none,[],rfl,s6,e6,At.nil⟩ (λi σ H7 _ ⟨_,_,_,_,_,_,_,_,s7,_⟩=>s7 _ _ hr5) ?_ ?_
 ·rintro i x σ H7 tp hx ⟨u6,u7,u8,u9,u10,u11,ds,rfl,s7,eR,hD⟩ htp;obtain⟨c,r,rfl,_,hy,e,hc,he⟩:=hR5.ref hx;have il:=(eu.mp hy).1;obtain⟨r1',r2'⟩:=nk.two r (eQ hy);obtain⟨H8,zg,s8,e8⟩:=nw htp (.AG [.int (i:Int),.ref c]);rw[zg];have s58:=s7.trans s8;have eR8:=s8 _ _ eR;have hD8:=hD.keep Dz s8;obtain⟨x1,g1,y1⟩:=hB5.get (C1 X r1');obtain⟨x2,g2,y2⟩:=hB5.get (C1 X r2');refine⟨tp,_,rfl,AJ.of e8,rfl,_,_,rfl,_,_,rfl,rfl,?_⟩;refine⟨_,rfl,_,rfl,c,_,_,_,rfl,rfl,AJ.of (s58 _ _ hc),Hv _ _ _,ta2,_,_,_,rfl,rfl,AJ.of (s58 _ _ hb5),BF (Be g1),_,rfl,x1,fa,_,_,rfl,AZ s58 y1,AZ s58 hF5,hf.hs _ r1',hf.sF,λt1 ht1=>?_⟩;obtain⟨H9,zg,s9,f9⟩:=HG ht1 (X r.1*F);rw[zg];have s59:=s58.trans s9;have eR9:=s9 _ _ eR8;have hD9:=hD8.keep Dz s9;refine⟨_,rfl,_,rfl,c,_,_,_,rfl,rfl,AJ.of (s59 _ _ hc),Di _ _ _,ta2,_,_,_,rfl,rfl,AJ.of (s59 _ _ hb5),BF (Be g2),_,rfl,x2,fa,_,_,rfl,AZ s59 y2,AZ s59 hF5,hf.hs _ r2',hf.sF,λt2 ht2=>?_⟩;obtain⟨HA,zg,sA,fA⟩:=HG ht2 (X r.2.1*F);rw[zg];have f9A:=AZ sA f9;have s5A:=s59.trans sA;have eRA:=sA _ _ eR9;have hDA:=hD9.keep Dz sA;refine⟨t1,t2,_,_,rfl,f9A,fA,hf.ys _ r1',hf.ys _ r2',λtq c1 c3 htq h1 h3=>?_⟩;obtain⟨HB,zg,sB,eB⟩:=nw htq (.AG [.ref c1,.ref c3]);rw[zg];have s5B:=s5A.trans sB;have eRB:=sB _ _ eRA;have hDB:=hDA.keep Dz sB;have h1B:=AZ sB h1;have h3B:=AZ sB h3;refine⟨tq,_,rfl,AJ.of eB,rfl,_,_,rfl,_,_,rfl,rfl,?_⟩;obtain⟨z0,w0,v0⟩:=hS5.get (C1 (λe:Nat=>pt (e:Int)) (show 2*i<2*rs.length+2 by omega));obtain⟨z1,w1,v1⟩:=hS5.get (C1 (λe:Nat=>pt (e:Int)) (show 2*i+1<2*rs.length+2 by omega));rw[show((2*i:Nat):Int)=2*(i:Int) by omega] at v0;rw[show((2*i+1:Nat):Int)=2*(i:Int)+1 by omega] at v1;refine⟨_,rfl,_,rfl,_,_,rfl,rfl,.inl ⟨by decide,by decide⟩,sp,_,_,_,rfl,rfl,AM.of (s5B _ _ hs5),by rw[show 2*(i:Int)=((2*i:Nat):Int) by omega]; exact BF (Be w0),
   _,rfl,_,rfl,_,_,rfl,rfl,.inl ⟨by decide,by decide⟩,_,_,rfl,rfl,sp,_,_,_,rfl,rfl,AM.of (s5B _ _ hs5),by rw[show 2*(i:Int)+1=((2*i+1:Nat):Int) by omega]; exact BF (Be w1),
   z0,z1,_,_,rfl,AZ s5B v0,AZ s5B v1,sfp _ ⟨by omega,by push_cast; omega⟩,sfp _ ⟨by omega,by push_cast; omega⟩,λtr c0 c2 htr h0 h2=>?_⟩
  obtain⟨HC,zg,sC,eC⟩:=nw htr (.AG [.ref c0,.ref c2]);rw[zg];have s5C:=s5B.trans sC;have eRC:=sC _ _ eRB;have hDC:=hDB.keep Dz sC;have h0C:=AZ sC h0;have h2C:=AZ sC h2;have h1C:=AZ sC h1B;have h3C:=AZ sC h3B;refine⟨tr,_,rfl,AJ.of eC,rfl,_,_,rfl,_,_,rfl,rfl,?_⟩;refine⟨_,rfl,.inl ⟨rfl,_,AM.of eRC⟩,_,rfl,_,rfl,_,rfl,_,rfl,by exact VD,λbx hbx=>?_⟩;have sD:=AY hbx (.AG [.ref c0,.ref c1,.ref c2,.ref c3]);have tB:Az AO (AF HC bx (.AG [.ref c0,.ref c1,.ref c2,.ref c3])) bx (L1 pt (λj=>X j*F) i r):=SH AS (AZ sD h0C) (AZ sD h1C) (AZ sD h2C) (AZ sD h3C);have s5D:=s5C.trans sD;have eRD:=sD _ _ eRC;have hDD:=hDC.keep Dz sD;generalize AF HC bx (.AG [.ref c0,.ref c1,.ref c2,.ref c3])=HD at sD tB s5D eRD hDD;refine⟨R,_,_,rfl,rfl,eRD,by rw[ed,hDD.1,g9]; exact Ca (by omega),?_⟩;refine⟨_,_,_,_,_,_,ds++[bx],rfl,s5D.up hR _,by rw[AS]; simp,?_⟩;rw[Cm (Rc hy)];exact Rj eRD (hDD.snoc tB)
 ·rintro σ H7 ⟨u6,u7,u8,u9,u10,u11,ds,rfl,s7,eR,hD⟩;rw[ed,lc,fH (by rw[K1]; exact eU _)] at hD;refine⟨_,rfl,_,rfl,p,fa,ra,ta,n,rs,ts,X,F,pt,Z,NN,rfl,s7 _ _ hp5,⟨cs,s7 _ _ hr5,hR5.keep Cp s7⟩,OU s7 hT5,AZ s7 hF5,ly,λfq H8 s8 hFl=>?_⟩;have s58:=s7.trans s8;refine⟨_,rfl,_,rfl,p,_,_,_,rfl,rfl,AJ.of (s58 _ _ hp5),Di _ _ _,ra,_,rfl,.inr (AJ.of (s58 _ _ hr5)),fq,_,_,_,_,rfl,hFl,ZQ _ _ _,by rw[ed,lc,K1],by rw[K1]; omega,λH9 s9=>⟨_,rfl,CG ?_⟩⟩;have s59:=s58.trans s9;obtain⟨z1,w1,v1⟩:=hS5.get (C1 (λe:Nat=>pt (e:Int)) (show 2*rs.length+1<2*rs.length+2 by omega));rw[show((2*rs.length+1:Nat):Int)=2*(rs.length:Int)+1 by omega] at v1;refine⟨_,rfl,_,rfl,_,rfl,p,_,_,_,rfl,rfl,AJ.of (s59 _ _ hp5),Di _ _ _,ra,_,rfl,.inr (AJ.of (s59 _ _ hr5)),?_⟩;rw[ed,lc];refine⟨_,_,rfl,rfl,.inl ⟨by decide,by decide⟩,_,_,rfl,rfl,sp,_,_,_,rfl,rfl,AM.of (s59 _ _ hs5),by rw[show 2*(rs.length:Int)+1=((2*rs.length+1:Nat):Int) by omega]; exact BF (Be w1),?_⟩;refine⟨_,rfl,_,rfl,R,_,rfl,.inl ⟨AM.of ((s8.trans s9) _ _ eR),λrc hrc=>⟨by exact E7,λdq hdq=>?_⟩⟩⟩;obtain⟨HA,zg,sA,eA⟩:=nw hrc (.AG (ds.map V.ref));rw[zg] at hdq ⊢;have sB:=AY hdq (.AG [.ref z1,.ref fa,.ref rc]);have s9B:=sA.trans sB;have s7B:=(s8.trans s9).trans s9B;have fD:Iu (AF HA dq (.AG [.ref z1,.ref fa,.ref rc])) dq (pt (2*(rs.length:Int)+1)) F (FK pt (λj=>X j*F) rs):=⟨z1,fa,rc,AS,AZ (s59.trans s9B) v1,AZ (s59.trans s9B) hF5,ds,sB _ _ eA,hD.keep Dz s7B⟩;exact⟨4,_,by decide,Qr (Xi (s9.trans s9B) hFl),Qr fD,WU _ _ _,q _⟩
end
end My
namespace My
open PySem L2 Mth
section
variable {K:PySem.W.Frag} {x qn:Str} {st:Stmt} {f C:Addr} {oc kV doc pm cdv ct:Value} {od an:Option Addr} {osl:Array (Option Value)} {fd:FuncData} {ps:List Str}
structure Dq(K:PySem.W.Frag)(x:Str)(st:Stmt)(ps:List Str)(f:Addr)(fd:FuncData):Prop where
 F:Ar K x x st f fd
 b:EC K fd ps []
 a:PySem.W.nsIn K mainGlobals x=some (some (.ref f))
theorem Dq.all{h:Heap}{mg:Str->Option Value}(d:Dq K x st ps f fd)(X:K.In h)(G:h.Ns mainGlobals mg):Ar K x x st f fd/\EC K fd ps []/\PySem.W.keepIn K (.ref f)=true/\mg x=some (.ref f):=⟨d.F,d.b,d.F.kp,PySem.W.mg_of X G d.a⟩
theorem dq (a:PySem.W.nsIn K mainGlobals x=some (some (.ref f))) (l:K.lookup f=some ⟨oc,od,.func (PySem.W.fnOf x x (FA st) (EY st) (Ao st) .none kV doc pm an cdv ct),osl⟩) (c:PySem.W.codeIn K cdv x=true) (k:PySem.W.keepIn K (.ref f)=true)
  (b:∀{fd},Ar K x x st f fd->EC K fd ps []):Dq K x st ps f (PySem.W.fnOf x x (FA st) (EY st) (Ao st) .none kV doc pm an cdv ct):=⟨Sy l c k,b (Sy l c k),a⟩
theorem bn1(st:Stmt)(x qn:Str){p0:Str}(h:∀(kV doc pm:Value) (an:Option Addr) (cdv ct a0:Value),bindArgs (PySem.W.fnOf x qn (FA st) (EY st) (Ao st) .none kV doc pm an cdv ct) ⟨[a0],[]⟩=pure [(p0,a0)]:=by intros; rfl)(F:Ar K x qn st f fd):EC K fd [p0] []:=F.binds λkV doc pm an cdv ct us hl=>by
 match us,hl with
 | [a0],_=>exact h kV doc pm an cdv ct a0
theorem bn2(st:Stmt)(x qn:Str){p0 p1:Str}(h:∀(kV doc pm:Value) (an:Option Addr) (cdv ct a0 a1:Value),bindArgs (PySem.W.fnOf x qn (FA st) (EY st) (Ao st) .none kV doc pm an cdv ct) ⟨[a0,a1],[]⟩=pure [(p0,a0),(p1,a1)]:=by intros; rfl)(F:Ar K x qn st f fd):EC K fd [p0,p1] []:=F.binds λkV doc pm an cdv ct us hl=>by
 match us,hl with
 | [a0,a1],_=>exact h kV doc pm an cdv ct a0 a1
theorem bn3(st:Stmt)(x qn:Str){p0 p1 p2:Str}(h:∀(kV doc pm:Value) (an:Option Addr) (cdv ct a0 a1 a2:Value),bindArgs (PySem.W.fnOf x qn (FA st) (EY st) (Ao st) .none kV doc pm an cdv ct) ⟨[a0,a1,a2],[]⟩=pure [(p0,a0),(p1,a1),(p2,a2)]:=by intros; rfl)(F:Ar K x qn st f fd):EC K fd [p0,p1,p2] []:=F.binds λkV doc pm an cdv ct us hl=>by
 match us,hl with
 | [a0,a1,a2],_=>exact h kV doc pm an cdv ct a0 a1 a2
theorem bn4(st:Stmt)(x qn:Str){p0 p1 p2 p3:Str}(h:∀(kV doc pm:Value) (an:Option Addr) (cdv ct a0 a1 a2 a3:Value),bindArgs (PySem.W.fnOf x qn (FA st) (EY st) (Ao st) .none kV doc pm an cdv ct) ⟨[a0,a1,a2,a3],[]⟩=pure [(p0,a0),(p1,a1),(p2,a2),(p3,a3)]:=by intros; rfl)(F:Ar K x qn st f fd):EC K fd [p0,p1,p2,p3] []:=F.binds λkV doc pm an cdv ct us hl=>by
 match us,hl with
 | [a0,a1,a2,a3],_=>exact h kV doc pm an cdv ct a0 a1 a2 a3
structure Zq(K:PySem.W.Frag)(x:Str):Prop where
 a:PySem.W.nsIn K mainGlobals x=some none
end
set_option maxHeartbeats 4000000 in
theorem all_mk {l:PySem.W.OpenLaw} {w:World} {K:PySem.W.Frag} {h:Heap} {mg:Str->Option Value} {fa f1 f2 f3 f4 f5 f6 f7 f8 f9 f10 f11 f12 f13 f14 f15 f16 f17 f18 f19 f20 f21 f22 f23 f24 f25 f26 f27 f28 f29 f30 f31 f32 f33 f34 f35 f36 f37 f38 f39 f40 f41 f42 f43 f44 f45 f46 f47 f48 f49 f50 f51 f52 f53:Addr} {d1 d2 d3 d4 d5 d6 d7 d8 d9 d10 d11 d12 d13 d14 d15 d16 d17 d18 d19 d20 d21 d22 d23 d24 d25 d26 d27 d28 d29 d30 d31 d32 d33 d34 d35 d36 d37 d38 d39 d40 d41 d42 d43 d44 d45 d46 d47 d48 d49 d50 d51 d52 d53:FuncData} (X:K.In h) (G:h.Ns mainGlobals mg) (hfa:mg "law" = some (.ref fa))
  (h1:Dq K "common_part" sCommon ["one","other"] f1 d1)
  (h2:Dq K "fraction" sFraction ["top","bottom"] f2 d2)
  (h3:Dq K "plus" sPlus ["one","other"] f3 d3)
  (h4:Dq K "minus" sMinus ["one","other"] f4 d4)
  (h5:Dq K "times" sTimes ["one","other"] f5 d5)
  (h6:Dq K "less" s_less ["one","other"] f6 d6)
  (h7:Dq K "common_bottom" sCBot ["row"] f7 d7)
  (h8:Dq K "wholes" sWholes ["row","bottom"] f8 d8)
  (h9:Dq K "led" sLed ["rows","k"] f9 d9)
  (h10:Dq K "swept_row" sSweptRow ["row","lead","k","before"] f10 d10)
  (h11:Dq K "swept" sSwept ["rows"] f11 d11)
  (h12:Dq K "found_back" sBack ["rows"] f12 d12)
  (h13:Dq K "answer" sAnswer ["table","right"] f13 d13)
  (h14:Dq K "ease_table" sEaseTable ["net"] f14 d14)
  (h15:Dq K "poleless" sPoleless ["table"] f15 d15)
  (h16:Dq K "heights" sHeights ["net"] f16 d16)
  (h17:Dq K "fall_of" sFallOf ["rope","levels"] f17 d17)
  (h18:Dq K "runnings_by" sRunBy ["net","levels"] f18 d18)
  (h19:Dq K "other_end" sOther ["end"] f19 d19)
  (h20:Dq K "ends_ahead" sAhead ["turns"] f20 d20)
  (h21:Dq K "ring_from" sRingFrom ["start","ahead"] f21 d21)
  (h22:Dq K "rings" sRings ["turns"] f22 d22)
  (h23:Dq K "land_of" sLandOf ["turns"] f23 d23)
  (h24:Dq K "land_sides" s_land_sides ["lands","widths"] f24 d24)
  (h25:Dq K "rising" s_rising ["one","other"] f25 d25)
  (h26:Dq K "laid" s_laid ["net","fall"] f26 d26)
  (h27:Dq K "_law_cell" sCellAt ["_law_script","_law_k"] f27 d27)
  (h28:Dq K "_law_whole" sWhole ["_law_found"] f28 d28)
  (h29:Dq K "_law_row" s_law_row ["_law_found","_law_many"] f29 d29)
  (h30:Dq K "_law_divisor" s_law_divisor ["_law_a","_law_b"] f30 d30)
  (h31:Dq K "_law_fraction" sLFrac ["_law_top","_law_bottom"] f31 d31)
  (h32:Dq K "_law_ease" sLEase ["_law_cell_here","_law_most"] f32 d32)
  (h33:Dq K "_law_ahead" s_law_ahead ["_law_turns"] f33 d33)
  (h34:Dq K "_law_land" s_law_land ["_law_ahead_here","_law_start"] f34 d34)
  (h35:Dq K "_law_corner" s_law_corner ["_law_turns","_law_end"] f35 d35)
  (h36:Dq K "_law_grow" sGrow ["_law_ropes","_law_turns","_law_cell_here","_law_ease_here"] f36 d36)
  (h37:Dq K "_law_finished" s_law_finished ["_law_ropes","_law_turns","_law_cell_here"] f37 d37)
  (h38:Dq K "_law_grown" s_law_grown ["_law_cells","_law_first","_law_most","_law_great"] f38 d38)
  (h39:Dq K "_law_lands" s_law_lands ["_law_turns"] f39 d39)
  (h40:Dq K "_law_is_fraction" s_law_is_fraction ["_law_found"] f40 d40)
  (h41:Dq K "_law_fractions_are" s_law_fractions_are ["_law_found","_law_many"] f41 d41)
  (h42:Dq K "_law_is_floor" s_law_is_floor ["_law_found","_law_many"] f42 d42)
  (h43:Dq K "_law_plus" s_law_plus ["_law_a","_law_b"] f43 d43)
  (h44:Dq K "_law_minus" s_law_minus ["_law_a","_law_b"] f44 d44)
  (h45:Dq K "_law_times" s_law_times ["_law_a","_law_b"] f45 d45)
  (h46:Dq K "_law_before" s_law_before ["_law_a","_law_b"] f46 d46)
  (h47:Dq K "_law_fall" s_law_fall ["_law_cell_here"] f47 d47)
  (h48:Dq K "_law_balanced" s_law_balanced ["_law_net","_law_tall"] f48 d48)
  (h49:Dq K "_law_across" s_law_across ["_law_net","_law_tall","_law_fall_here"] f49 d49)
  (h50:Dq K "_law_in_order" s_law_in_order ["_law_a","_law_b"] f50 d50)
  (h51:Dq K "_law_long" s_law_long ["_law_cell_here"] f51 d51)
  (h52:Dq K "_law_some_net" s_law_some_net ["_law_script","_law_most"] f52 d52)
  (h53:Dq K "law" sLaw ["_law_script"] f53 d53)
  (z_abs:Zq K "abs")
  (z_len:Zq K "len")
  (z_range:Zq K "range")
  (z_list:Zq K "list")
  (z_zip:Zq K "zip")
  (z_tuple:Zq K "tuple")
  (z_sum:Zq K "sum")
  (z_min:Zq K "min")
  (z_max:Zq K "max")
  (z_enumerate:Zq K "enumerate")
  (z_sorted:Zq K "sorted")
  (z_all:Zq K "all")
  (z_isinstance:Zq K "isinstance")
  (z_int:Zq K "int")
  (z_bool:Zq K "bool")
  (z_reversed:Zq K "reversed")
  : ∃fd:FuncData,(∀(s:Shared) (v:Value),BindsTo s fd ⟨[v],[]⟩ [("_law_script",v)])/\∀base:Heap,K.In base->base.Ns mainGlobals mg->An l.prog w K mg base Ay 7 fa fd ["_law_script"] (Lm K):=by
 have e:=hfa.symm.trans (PySem.W.mg_of X G h53.a);cases e;have ⟨F1,b1,k1,m1⟩:=h1.all X G;have ⟨F2,b2,k2,m2⟩:=h2.all X G;have ⟨F3,b3,k3,m3⟩:=h3.all X G;have ⟨F4,b4,k4,m4⟩:=h4.all X G;have ⟨F5,b5,k5,m5⟩:=h5.all X G;have ⟨F6,b6,k6,m6⟩:=h6.all X G;have ⟨F7,b7,k7,m7⟩:=h7.all X G;have ⟨F8,b8,k8,m8⟩:=h8.all X G;have ⟨F9,b9,k9,m9⟩:=h9.all X G;have ⟨F10,b10,k10,m10⟩:=h10.all X G;have ⟨F11,b11,k11,m11⟩:=h11.all X G;have ⟨F12,b12,k12,m12⟩:=h12.all X G;have ⟨F13,b13,k13,m13⟩:=h13.all X G;have ⟨F14,b14,k14,m14⟩:=h14.all X G;have ⟨F15,b15,k15,m15⟩:=h15.all X G;have ⟨F16,b16,k16,m16⟩:=h16.all X G;have ⟨F17,b17,k17,m17⟩:=h17.all X G;have ⟨F18,b18,k18,m18⟩:=h18.all X G;have ⟨F19,b19,k19,m19⟩:=h19.all X G;have ⟨F20,b20,k20,m20⟩:=h20.all X G;have ⟨F21,b21,k21,m21⟩:=h21.all X G;have ⟨F22,b22,k22,m22⟩:=h22.all X G;have ⟨F23,b23,k23,m23⟩:=h23.all X G;have ⟨F24,b24,k24,m24⟩:=h24.all X G;have ⟨F25,b25,k25,m25⟩:=h25.all X G;have ⟨F26,b26,k26,m26⟩:=h26.all X G;have ⟨F27,b27,k27,m27⟩:=h27.all X G;have ⟨F28,b28,k28,m28⟩:=h28.all X G;have ⟨F29,b29,k29,m29⟩:=h29.all X G;have ⟨F30,b30,k30,m30⟩:=h30.all X G;have ⟨F31,b31,k31,m31⟩:=h31.all X G;have ⟨F32,b32,k32,m32⟩:=h32.all X G;have ⟨F33,b33,k33,m33⟩:=h33.all X G;have ⟨F34,b34,k34,m34⟩:=h34.all X G;have ⟨F35,b35,k35,m35⟩:=h35.all X G;have ⟨F36,b36,k36,m36⟩:=h36.all X G;have ⟨F37,b37,k37,m37⟩:=h37.all X G;have ⟨F38,b38,k38,m38⟩:=h38.all X G;have ⟨F39,b39,k39,m39⟩:=h39.all X G;have ⟨F40,b40,k40,m40⟩:=h40.all X G;have ⟨F41,b41,k41,m41⟩:=h41.all X G;have ⟨F42,b42,k42,m42⟩:=h42.all X G;have ⟨F43,b43,k43,m43⟩:=h43.all X G;have ⟨F44,b44,k44,m44⟩:=h44.all X G;have ⟨F45,b45,k45,m45⟩:=h45.all X G;have ⟨F46,b46,k46,m46⟩:=h46.all X G;have ⟨F47,b47,k47,m47⟩:=h47.all X G;have ⟨F48,b48,k48,m48⟩:=h48.all X G;have ⟨F49,b49,k49,m49⟩:=h49.all X G;have ⟨F50,b50,k50,m50⟩:=h50.all X G;have ⟨F51,b51,k51,m51⟩:=h51.all X G;have ⟨F52,b52,k52,m52⟩:=h52.all X G;have ⟨F53,b53,k53,m53⟩:=h53.all X G;have m_abs:=gO X G z_abs.a;have m_len:=gO X G z_len.a;have m_range:=gO X G z_range.a;have m_list:=gO X G z_list.a;have m_zip:=gO X G z_zip.a;have m_tuple:=gO X G z_tuple.a;have m_sum:=gO X G z_sum.a;have m_min:=gO X G z_min.a;have m_max:=gO X G z_max.a;have m_enumerate:=gO X G z_enumerate.a;have m_sorted:=gO X G z_sorted.a;have m_all:=gO X G z_all.a;have m_isinstance:=gO X G z_isinstance.a;have m_int:=gO X G z_int.a;have m_bool:=gO X G z_bool.a;have m_reversed:=gO X G z_reversed.a;refine⟨d53,λs v=>by obtain⟨_,_,_,_,_,_,_,_,_,rfl,_⟩:=F53.ex; exact .of_eq rfl,λbase _ _=>?_⟩;have O1:AU l.prog w K mg base 1 "common_part" ["one","other"] Ll:=⟨_,_,WM F1  m_abs,b1,k1,m1⟩;have O2:AU l.prog w K mg base 2 "fraction" ["top","bottom"] (He 0):=⟨_,_,Vf F2 O1 ,b2,k2,m2⟩;have O3:AU l.prog w K mg base 3 "plus" ["one","other"] (Bm λx y=>x+y):=⟨_,_,YO F3 O2 ,b3,k3,m3⟩;have O4:AU l.prog w K mg base 3 "minus" ["one","other"] (Bm λx y=>x-y):=⟨_,_,X2 F4 O2 ,b4,k4,m4⟩;have O5:AU l.prog w K mg base 3 "times" ["one","other"] (Bm λx y=>x*y):=⟨_,_,XR F5 O2 ,b5,k5,m5⟩;have O6:AU l.prog w K mg base 1 "less" ["one","other"] Iz:=⟨_,_,Yi F6  ,b6,k6,m6⟩;have O7:AU l.prog w K mg base 2 "common_bottom" ["row"] L6:=⟨_,_,Yy F7 O1 ,b7,k7,m7⟩;have O8:AU l.prog w K mg base 1 "wholes" ["row","bottom"] Kx:=⟨_,_,Wy F8  ,b8,k8,m8⟩;have O9:AU l.prog w K mg base 1 "led" ["rows","k"] OT:=⟨_,_,Zx F9  m_len m_range m_list,b9,k9,m9⟩;have O10:AU l.prog w K mg base 1 "swept_row" ["row","lead","k","before"] Lk:=⟨_,_,Vk F10  m_zip,b10,k10,m10⟩;have O11:AU l.prog w K mg base 2 "swept" ["rows"] NF:=⟨_,_,X9 F11 O9 O10 m_len m_range,b11,k11,m11⟩;have O12:AU l.prog w K mg base 3 "found_back" ["rows"] N9:=⟨_,_,Yk F12 O2 m_len m_range m_zip m_sum m_tuple,b12,k12,m12⟩;have O13:AU l.prog w K mg base 4 "answer" ["table","right"] (Ma 0):=⟨_,_,Wb F13 O7 O8 O11 O12 m_len m_zip,b13,k13,m13⟩;have O14:AU l.prog w K mg base 4 "ease_table" ["net"] N6:=⟨_,_,ZX F14 O3 O4 m_range m_tuple,b14,k14,m14⟩;have O15:AU l.prog w K mg base 1 "poleless" ["table"] N0:=⟨_,_,ZD F15  m_tuple,b15,k15,m15⟩;have O16:AU l.prog w K mg base 5 "heights" ["net"] Lo:=⟨_,_,Vt F16 O14 O4 O15 O13 m_tuple,b16,k16,m16⟩;have O17:AU l.prog w K mg base 4 "fall_of" ["rope","levels"] LK:=⟨_,_,YR F17 O4 ,b17,k17,m17⟩;have O18:AU l.prog w K mg base 5 "runnings_by" ["net","levels"] Nl:=⟨_,_,Xs F18 O5 O17 m_tuple,b18,k18,m18⟩;have O19:AU l.prog w K mg base 1 "other_end" ["end"] OO:=⟨_,_,Xf F19  ,b19,k19,m19⟩;have O20:AU l.prog w K mg base 1 "ends_ahead" ["turns"] Ij:=⟨_,_,Xx F20  m_enumerate,b20,k20,m20⟩;have O21:AU l.prog w K mg base 2 "ring_from" ["start","ahead"] Nu:=⟨_,_,Vd F21 O19 m_tuple,b21,k21,m21⟩;have O22:AU l.prog w K mg base 3 "rings" ["turns"] NP:=⟨_,_,Xh F22 O20 O21 m_len m_range m_tuple,b22,k22,m22⟩;have O23:AU l.prog w K mg base 4 "land_of" ["turns"] Mq:=⟨_,_,We F23 O22 m_len m_range m_tuple m_enumerate,b23,k23,m23⟩;have O24:AU l.prog w K mg base 4 "land_sides" ["lands","widths"] NX:=⟨_,_,YB F24 O3 O4 m_len m_max m_enumerate,b24,k24,m24⟩;have O25:AU l.prog w K mg base 2 "rising" ["one","other"] JD:=⟨_,_,WZ F25 O6 ,b25,k25,m25⟩;have O26:AU l.prog w K mg base 6 "laid" ["net","fall"] OH:=⟨_,_,Yr F26 O5 O16 O23 O24 O18 O25 m_len m_enumerate m_tuple,b26,k26,m26⟩;have O27:AU l.prog w K mg base 1 "_law_cell" ["_law_script","_law_k"] (Le K):=⟨_,_,Yd F27  m_len,b27,k27,m27⟩;have O28:AU l.prog w K mg base 1 "_law_whole" ["_law_found"] LD:=⟨_,_,YA F28  m_isinstance m_int m_bool,b28,k28,m28⟩;have O29:AU l.prog w K mg base 2 "_law_row" ["_law_found","_law_many"] ON:=⟨_,_,aF F29 O28 m_isinstance m_tuple m_len m_all,b29,k29,m29⟩;have O30:AU l.prog w K mg base 1 "_law_divisor" ["_law_a","_law_b"] Ln:=⟨_,_,V2 F30  ,b30,k30,m30⟩;have O31:AU l.prog w K mg base 2 "_law_fraction" ["_law_top","_law_bottom"] Gg:=⟨_,_,XD F31 O30 m_abs,b31,k31,m31⟩;have O32:AU l.prog w K mg base 3 "_law_ease" ["_law_cell_here","_law_most"] Ni:=⟨_,_,Xj F32 O31 ,b32,k32,m32⟩;have O33:AU l.prog w K mg base 1 "_law_ahead" ["_law_turns"] Ij:=⟨_,_,WV F33  m_enumerate,b33,k33,m33⟩;have A23:AU l.prog w K mg base 1 "_law_ahead" ["_law_turns"] Mb:=⟨_,_,Vo F33  m_enumerate,b33,k33,m33⟩;have A24:AU l.prog w K mg base 1 "_law_land" ["_law_ahead_here","_law_start"] (J8 2):=⟨_,_,SU 2 (λh1 h2=>UM h1 h2) F34,b34,k34,m34⟩;have O34:AU l.prog w K mg base 1 "_law_land" ["_law_ahead_here","_law_start"] (J8 0):=⟨_,_,SU 0 (λh1 h2=>by rw[Int.sub_zero,Int.sub_zero]; exact cX h1 h2) F34,b34,k34,m34⟩;have O35:AU l.prog w K mg base 1 "_law_corner" ["_law_turns","_law_end"] Md:=⟨_,_,WJ F35  m_enumerate,b35,k35,m35⟩;have O36:AU l.prog w K mg base 2 "_law_grow" ["_law_ropes","_law_turns","_law_cell_here","_law_ease_here"] N5:=⟨_,_,YK F36 O35 A23 A24 m_len,b36,k36,m36⟩;have O37:AU l.prog w K mg base 2 "_law_finished" ["_law_ropes","_law_turns","_law_cell_here"] OL:=⟨_,_,aH F37  m_len m_range m_list m_reversed m_enumerate m_tuple,b37,k37,m37⟩;have O38:AU l.prog w K mg base 4 "_law_grown" ["_law_cells","_law_first","_law_most","_law_great"] NQ:=⟨_,_,XJ F38 O32 O36 O37 m_len,b38,k38,m38⟩;have O39:AU l.prog w K mg base 2 "_law_lands" ["_law_turns"] NC:=⟨_,_,Xc F39 O33 O34 m_sorted m_min m_tuple,b39,k39,m39⟩;have O40:AU l.prog w K mg base 3 "_law_is_fraction" ["_law_found"] Lh:=⟨_,_,aE F40 O29 O30 m_abs,b40,k40,m40⟩;have O41:AU l.prog w K mg base 4 "_law_fractions_are" ["_law_found","_law_many"] KQ:=⟨_,_,bW F41 O40 m_isinstance m_tuple m_len m_all,b41,k41,m41⟩;have O42:AU l.prog w K mg base 5 "_law_is_floor" ["_law_found","_law_many"] OR:=⟨_,_,ai F42 O41 m_isinstance m_tuple m_len m_all,b42,k42,m42⟩;have O43:AU l.prog w K mg base 3 "_law_plus" ["_law_a","_law_b"] (Bm λx y=>x+y):=⟨_,_,Xg F43 O31 ,b43,k43,m43⟩;have O44:AU l.prog w K mg base 3 "_law_minus" ["_law_a","_law_b"] (Bm λx y=>x-y):=⟨_,_,Ws F44 O31 ,b44,k44,m44⟩;have O45:AU l.prog w K mg base 3 "_law_times" ["_law_a","_law_b"] (Bm λx y=>x*y):=⟨_,_,Ww F45 O31 ,b45,k45,m45⟩;have O46:AU l.prog w K mg base 1 "_law_before" ["_law_a","_law_b"] Iz:=⟨_,_,Vm F46  ,b46,k46,m46⟩;have O47:AU l.prog w K mg base 3 "_law_fall" ["_law_cell_here"] Nb:=⟨_,_,Xd F47 O31 ,b47,k47,m47⟩;have O48:AU l.prog w K mg base 5 "_law_balanced" ["_law_net","_law_tall"] OX:=⟨_,_,aY F48 O41 O45 O44 O43 m_range m_all,b48,k48,m48⟩;have O49:AU l.prog w K mg base 4 "_law_across" ["_law_net","_law_tall","_law_fall_here"] Mn:=⟨_,_,Wh F49 O39 O45 O44 O43 m_range m_len m_enumerate,b49,k49,m49⟩;have O50:AU l.prog w K mg base 2 "_law_in_order" ["_law_a","_law_b"] JD:=⟨_,_,WY F50 O46 ,b50,k50,m50⟩;have O51:AU l.prog w K mg base 1 "_law_long" ["_law_cell_here"] Nq:=⟨_,_,ZF F51  m_len m_range m_list m_min m_int m_reversed m_enumerate m_tuple,b51,k51,m51⟩;have O52:AU l.prog w K mg base 5 "_law_some_net" ["_law_script","_law_most"] (N8 K):=⟨_,_,Ye F52 O27 O51 O38 ,b52,k52,m52⟩;exact aZ F53 O52 O47 O27 O16 O48 O49 O50 O45 O26 O42 m_len m_enumerate m_tuple
theorem walk {l:PySem.W.OpenLaw} {q:Program} {loose:List Str} {XP:(Str->Option Value)->Heap->Prop} {YP:World->Heap->Prop} {d:DefRec} {K:Params->PySem.W.Frag} (hn:l.most=some 63) (hdf:d.params.defaults=[])
  (hY:∀(w:World) (h:Heap),YP w h->(K w.params).In h)
  (F:∀(w:World) (mg:Str->Option Value) (fa:Addr) (h:Heap),(K w.params).In h->h.Ns mainGlobals mg->mg d.name=some (.ref fa) →
   ∃fd:FuncData,(∀(s:Shared) (u:Value),BindsTo s fd ⟨[u],[]⟩ [("_law_script",u)])/\∀base:Heap,(K w.params).In base->base.Ns mainGlobals mg->An l.prog w (K w.params) mg base Ay 7 fa fd ["_law_script"] (Lm (K w.params))) :
  PySem.W.WalkO q loose XP YP l.row.toRowW d [] (λf vs=>PySem.call f vs) :=
 L2.YY (n:=63) (k:=7) (x:="_law_script") (CX:=λ_=>Ay) (sp:=λw=>Lm (K w.params)) hn (by decide) hdf ⟨rfl,by decide,by decide⟩ hY F (λ_ _ a ns hl _ hS=>⟨a,ns,rfl,hS,hl,λ_=>rfl⟩) λ_ _ _ _ _ z=>z
end My
namespace PySem.W.Fast
theorem tw11555048474474994014:True:=trivial
theorem tw2975952877241609839:True:=trivial
theorem tw1095028399394068463:True:=trivial
theorem tw7693910534332905751:True:=trivial
theorem tw17868550853789692152:True:=trivial
theorem tw11378552969750524872:True:=trivial
theorem tw7099015333936847660:True:=trivial
theorem tw15070503654690892617:True:=trivial
theorem tw13671261798301991358:True:=trivial
theorem tw13366335312915374654:True:=trivial
theorem tw12936185720928894775:True:=trivial
theorem tw6354803828206812508:True:=trivial
theorem tw10690562100877904201:True:=trivial
theorem tw1117467267557208716:True:=trivial
theorem tw18358072658862620627:True:=trivial
theorem tw13219023359717541504:True:=trivial
theorem tw12353878116608796547:True:=trivial
theorem tw4871647696355131620:True:=trivial
theorem tw10443528662475030076:True:=trivial
theorem tw8171386422895447123:True:=trivial
theorem tw14928628286258501091:True:=trivial
theorem tw5588831156868905940:True:=trivial
theorem tw4706182111049606212:True:=trivial
theorem tw12635115005559526135:True:=trivial
theorem tw3312155262979700702:True:=trivial
theorem tw4634525140097658750:True:=trivial
theorem tw14465816211432813257:True:=trivial
theorem tw3127308164241101997:True:=trivial
theorem tw15946045030567645331:True:=trivial
theorem tw867656412881820029:True:=trivial
theorem tw11829885322559699914:True:=trivial
theorem tw9270427052043752573:True:=trivial
theorem tw17032914774715055181:True:=trivial
theorem tw9986882506664388650:True:=trivial
theorem tw10112521044896843818:True:=trivial
theorem tw940677665586610608:True:=trivial
theorem tw10232049267097329449:True:=trivial
theorem tw256907418365696139:True:=trivial
theorem tw11135522049138427689:True:=trivial
theorem tw7954232747834741342:True:=trivial
theorem tw15691006036138953476:True:=trivial
theorem tw5953614392807981690:True:=trivial
theorem tw13848578604076947138:True:=trivial
theorem tw13119027595850300501:True:=trivial
theorem tw3322544484116630072:True:=trivial
theorem tw5768837851538523988:True:=trivial
theorem tw4790368992517399880:True:=trivial
theorem tw9763398113978521388:True:=trivial
theorem tw6202477435273957801:True:=trivial
theorem tw13622521877326594045:True:=trivial
theorem tw7198116598561189778:True:=trivial
theorem tw6756274484306326833:True:=trivial
theorem tw1451187537926761180:True:=trivial
theorem tw3893955674547449150:True:=trivial
theorem tw402286217038733088:True:=trivial
theorem tw12115088621884613405:True:=trivial
theorem tw2976727945698069528:True:=trivial
theorem tw13288336904729353954:True:=trivial
theorem tw3516441742198057156:True:=trivial
theorem tw18390605042877919900:True:=trivial
theorem tw6251247892602488274:True:=trivial
theorem tw6441547103326109818:True:=trivial
theorem tw4301818949429348672:True:=trivial
theorem tw10967076706591263180:True:=trivial
theorem tw4491575495274541254:True:=trivial
theorem tw4603531144086045887:True:=trivial
theorem tw10547248897020977681:True:=trivial
theorem tw8312387663715154571:True:=trivial
theorem tw12662062575881311697:True:=trivial
theorem tw9884379431003010180:True:=trivial
theorem tw9529397903021691447:True:=trivial
theorem tw2827545257369055993:True:=trivial
theorem tw3665185169267126201:True:=trivial
theorem tw14956233268742381058:True:=trivial
theorem tw13657639267825367096:True:=trivial
theorem tw12940716684891064289:True:=trivial
theorem tw17645892537252558437:True:=trivial
theorem tw16165399476611072352:True:=trivial
theorem tw8415788028688604951:True:=trivial
theorem tw16259932522861650805:True:=trivial
theorem te11252707897685904991:True:=trivial
theorem tw15904857652072611171:True:=trivial
theorem tw3172612291795238287:True:=trivial
theorem tw699771720566497293:True:=trivial
theorem tw3187830149766479599:True:=trivial
theorem tw7691988445842286127:True:=trivial
theorem tw10188290993061667742:True:=trivial
theorem tw766925230292158241:True:=trivial
theorem tw13638056028604747132:True:=trivial
theorem tw4407786178261410820:True:=trivial
theorem tw2668901556632402630:True:=trivial
theorem tw12553265594805002736:True:=trivial
theorem tw6994572916361228829:True:=trivial
theorem tw13364379802480245126:True:=trivial
theorem tw11259425068606849668:True:=trivial
theorem tw14966413484509821386:True:=trivial
theorem tw4550364455148411885:True:=trivial
theorem tw2065919974848168532:True:=trivial
theorem tw11468117287445631522:True:=trivial
theorem tw9448839784833371337:True:=trivial
theorem tw1297571344355924999:True:=trivial
theorem tw11560304814734995338:True:=trivial
theorem tw3189219353724142797:True:=trivial
theorem tw18258988014474155459:True:=trivial
theorem tw5878092404142767553:True:=trivial
theorem tw3891735531129845099:True:=trivial
theorem tw4767246778727500496:True:=trivial
theorem tw15502812768987176240:True:=trivial
theorem tw15115004640056615045:True:=trivial
theorem tw8802515739920072903:True:=trivial
theorem tw16581969007469736888:True:=trivial
theorem tw6377255789095336310:True:=trivial
theorem tw14981272685349707753:True:=trivial
theorem tw6156677474456607470:True:=trivial
theorem tw16620006085628750079:True:=trivial
theorem tw2548174488626039646:True:=trivial
theorem tw17482451464871679064:True:=trivial
theorem tw8568590171320969895:True:=trivial
theorem tw3983665580703477869:True:=trivial
theorem tw17524447800998631603:True:=trivial
theorem tw8529589653787574153:True:=trivial
theorem tw908336125749015517:True:=trivial
theorem tw7758467641366812600:True:=trivial
theorem tw7275157495716430940:True:=trivial
theorem tw14537877610749839839:True:=trivial
theorem tw790132025670350643:True:=trivial
theorem tw11705932145281364943:True:=trivial
end PySem.W.Fast
open PySem PySem.W PyProof.Rows
set_option maxRecDepth 100000 in
set_option maxHeartbeats 0 in
theorem PySem.Challenge.cw_currentfloor_k25_floor_of_a_net_holds : PySem.Challenge.rw_currentfloor_k25_floor_of_a_net.Holds := by
  w_on; o_law; k_head; (case hw => w_witness2)
  k_fill
  refine My.walk (l := PySem.Challenge.rw_currentfloor_k25_floor_of_a_net) rfl rfl (fun w h Y => PySem.W.kIn_of Y) ?F
  case F =>
    intro w mg fa h KX G hmg
    refine' My.all_mk KX G hmg (My.dq ?_ ?_ ?_ ?_ (My.bn2 My.sCommon _ _)) (My.dq ?_ ?_ ?_ ?_ (My.bn2 My.sFraction _ _)) (My.dq ?_ ?_ ?_ ?_ (My.bn2 My.sPlus _ _)) (My.dq ?_ ?_ ?_ ?_ (My.bn2 My.sMinus _ _)) (My.dq ?_ ?_ ?_ ?_ (My.bn2 My.sTimes _ _)) (My.dq ?_ ?_ ?_ ?_ (My.bn2 My.s_less _ _)) (My.dq ?_ ?_ ?_ ?_ (My.bn1 My.sCBot _ _)) (My.dq ?_ ?_ ?_ ?_ (My.bn2 My.sWholes _ _)) (My.dq ?_ ?_ ?_ ?_ (My.bn2 My.sLed _ _)) (My.dq ?_ ?_ ?_ ?_ (My.bn4 My.sSweptRow _ _)) (My.dq ?_ ?_ ?_ ?_ (My.bn1 My.sSwept _ _)) (My.dq ?_ ?_ ?_ ?_ (My.bn1 My.sBack _ _)) (My.dq ?_ ?_ ?_ ?_ (My.bn2 My.sAnswer _ _)) (My.dq ?_ ?_ ?_ ?_ (My.bn1 My.sEaseTable _ _)) (My.dq ?_ ?_ ?_ ?_ (My.bn1 My.sPoleless _ _)) (My.dq ?_ ?_ ?_ ?_ (My.bn1 My.sHeights _ _)) (My.dq ?_ ?_ ?_ ?_ (My.bn2 My.sFallOf _ _)) (My.dq ?_ ?_ ?_ ?_ (My.bn2 My.sRunBy _ _)) (My.dq ?_ ?_ ?_ ?_ (My.bn1 My.sOther _ _)) (My.dq ?_ ?_ ?_ ?_ (My.bn1 My.sAhead _ _)) (My.dq ?_ ?_ ?_ ?_ (My.bn2 My.sRingFrom _ _)) (My.dq ?_ ?_ ?_ ?_ (My.bn1 My.sRings _ _)) (My.dq ?_ ?_ ?_ ?_ (My.bn1 My.sLandOf _ _)) (My.dq ?_ ?_ ?_ ?_ (My.bn2 My.s_land_sides _ _)) (My.dq ?_ ?_ ?_ ?_ (My.bn2 My.s_rising _ _)) (My.dq ?_ ?_ ?_ ?_ (My.bn2 My.s_laid _ _)) (My.dq ?_ ?_ ?_ ?_ (My.bn2 My.sCellAt _ _)) (My.dq ?_ ?_ ?_ ?_ (My.bn1 My.sWhole _ _)) (My.dq ?_ ?_ ?_ ?_ (My.bn2 My.s_law_row _ _)) (My.dq ?_ ?_ ?_ ?_ (My.bn2 My.s_law_divisor _ _)) (My.dq ?_ ?_ ?_ ?_ (My.bn2 My.sLFrac _ _)) (My.dq ?_ ?_ ?_ ?_ (My.bn2 My.sLEase _ _)) (My.dq ?_ ?_ ?_ ?_ (My.bn1 My.s_law_ahead _ _)) (My.dq ?_ ?_ ?_ ?_ (My.bn2 My.s_law_land _ _)) (My.dq ?_ ?_ ?_ ?_ (My.bn2 My.s_law_corner _ _)) (My.dq ?_ ?_ ?_ ?_ (My.bn4 My.sGrow _ _)) (My.dq ?_ ?_ ?_ ?_ (My.bn3 My.s_law_finished _ _)) (My.dq ?_ ?_ ?_ ?_ (My.bn4 My.s_law_grown _ _)) (My.dq ?_ ?_ ?_ ?_ (My.bn1 My.s_law_lands _ _)) (My.dq ?_ ?_ ?_ ?_ (My.bn1 My.s_law_is_fraction _ _)) (My.dq ?_ ?_ ?_ ?_ (My.bn2 My.s_law_fractions_are _ _)) (My.dq ?_ ?_ ?_ ?_ (My.bn2 My.s_law_is_floor _ _)) (My.dq ?_ ?_ ?_ ?_ (My.bn2 My.s_law_plus _ _)) (My.dq ?_ ?_ ?_ ?_ (My.bn2 My.s_law_minus _ _)) (My.dq ?_ ?_ ?_ ?_ (My.bn2 My.s_law_times _ _)) (My.dq ?_ ?_ ?_ ?_ (My.bn2 My.s_law_before _ _)) (My.dq ?_ ?_ ?_ ?_ (My.bn1 My.s_law_fall _ _)) (My.dq ?_ ?_ ?_ ?_ (My.bn2 My.s_law_balanced _ _)) (My.dq ?_ ?_ ?_ ?_ (My.bn3 My.s_law_across _ _)) (My.dq ?_ ?_ ?_ ?_ (My.bn2 My.s_law_in_order _ _)) (My.dq ?_ ?_ ?_ ?_ (My.bn1 My.s_law_long _ _)) (My.dq ?_ ?_ ?_ ?_ (My.bn2 My.s_law_some_net _ _)) (My.dq ?_ ?_ ?_ ?_ (My.bn1 My.sLaw _ _)) ⟨?_⟩ ⟨?_⟩ ⟨?_⟩ ⟨?_⟩ ⟨?_⟩ ⟨?_⟩ ⟨?_⟩ ⟨?_⟩ ⟨?_⟩ ⟨?_⟩ ⟨?_⟩ ⟨?_⟩ ⟨?_⟩ ⟨?_⟩ ⟨?_⟩ ⟨?_⟩
    all_goals try first | k_is | k_exc | kernel_rfl
