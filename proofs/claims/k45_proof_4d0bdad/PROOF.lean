import PyProof.Rows.All
import Wide.All
import OpenK.AllK
import Wide.FinOn
import Lean
import PyProof.EqAt
import PyProof.EqKinds
import PyProof.TupleCall
import PySem.Challenge.RW_currentfloor_k45_steps_refused
noncomputable section
set_option Elab.async false
set_option linter.all false
set_option maxRecDepth 100000
namespace L2
open PySem PySem.Spec PyProof.Rows
abbrev A3:=Sum Int Str
def Hx:A3->Value->Bool
 | .inl k,v=>Value.isInt k v
 | .inr x,v=>Value.isStrOf x v
def Zh(w:World):A3->Int
 | .inl k=>hashInt k
 | .inr x=>hashStr w x
theorem FY:∀{k:A3} {v:Value},Hx k v=true->(∃i t,k=Sum.inl i/\v=Value.int i t)\/(∃x t,k=Sum.inr x/\v=Value.str x t)
 | .inl i,v,h=>by
  obtain⟨t,e⟩:=Value.isInt_shape (k:=i) (v:=v) h;exact .inl ⟨i,t,rfl,e⟩
 | .inr x,v,h=>by
  obtain⟨t,e⟩:=Value.isStrOf_shape (x:=x) (v:=v) h;exact .inr ⟨x,t,rfl,e⟩
theorem T9(i:Int)(t:Tok):Hx (.inl i) (.int i t)=true:=by simp[Hx,Value.isInt]
theorem Uc(x:Str)(t:Tok):Hx (.inr x) (.str x t)=true:=by simp[Hx,Value.isStrOf]
theorem X5(a b:Int):decide ((Sum.inl a:A3)=Sum.inl b)=(a == b):=by
 by_cases e:a=b
 ·subst e; simp
 ·have h:¬(Sum.inl a:A3)=Sum.inl b:=λq=>e (Sum.inl.inj q)
  rw[decide_eq_false h];exact(beq_eq_false_iff_ne.mpr e).symm
theorem XX(a b:Str):decide ((Sum.inr a:A3)=Sum.inr b)=decide (a=b):=by
 by_cases e:a=b
 ·subst e; simp
 ·have h:¬(Sum.inr a:A3)=Sum.inr b:=λq=>e (Sum.inr.inj q)
  rw[decide_eq_false h,decide_eq_false e]
theorem Xx(a:Int)(b:Str):decide ((Sum.inl a:A3)=Sum.inr b)=false:=decide_eq_false (λq=>nomatch q)
theorem YJ(a:Str)(b:Int):decide ((Sum.inr a:A3)=Sum.inl b)=false:=decide_eq_false (λq=>nomatch q)
def D2(prog:Program)(w:World):PySem.KeyKind prog w A3 where
 is:=Hx
 hash:=Zh w
 inj:=λv a b ha hb=>by
  rcases FY ha with ⟨i,t,rfl,rfl⟩ | ⟨x,t,rfl,rfl⟩
  ·rcases FY hb with ⟨j,u,rfl,e⟩ | ⟨y,u,rfl,e⟩
   ·injection e with e1 _; rw[e1]
   ·exact nomatch e
  ·rcases FY hb with ⟨j,u,rfl,e⟩ | ⟨y,u,rfl,e⟩
   ·exact nomatch e
   ·injection e with e1 _; rw[e1]
 byValue:=λk v h=>by
  rcases FY h with ⟨i,t,rfl,rfl⟩ | ⟨x,t,rfl,rfl⟩ <;> rfl
 pyHash:=λhv h=>by
  rcases FY hv with ⟨i,t,rfl,rfl⟩ | ⟨x,t,rfl,rfl⟩
  ·exact wpAny_pyHash_int h
  ·exact wpAny_pyHash_str h
 eqBool:=λhu hv h=>by
  rcases FY hu with ⟨i,t,rfl,rfl⟩ | ⟨x,t,rfl,rfl⟩
  ·rcases FY hv with ⟨j,u,rfl,rfl⟩ | ⟨y,u,rfl,rfl⟩
   ·rw[X5] at h; exact wpAny_eqBool_int h
   ·rw[Xx] at h; exact SeqAt.EqAt.int_str i t y u _ _ _ _ h
  ·rcases FY hv with ⟨j,u,rfl,rfl⟩ | ⟨y,u,rfl,rfl⟩
   ·rw[YJ] at h; exact SeqAt.EqAt.str_int x t j u _ _ _ _ h
   ·rw[XX] at h; exact wpAny_eqBool_str h
 «strs»:=λk x t v h=>by
  rcases FY h with ⟨i,u,rfl,e⟩ | ⟨y,u,rfl,e⟩
  ·exact nomatch e
  ·injection e with e1 _
   subst e1;cases v <;> rfl
theorem TB(prog:Program)(w:World)(i:Int)(t:Tok):(D2 prog w).is (.inl i) (.int i t)=true:=T9 i t
theorem S9(prog:Program)(w:World)(x:Str)(t:Tok):(D2 prog w).is (.inr x) (.str x t)=true:=Uc x t
inductive V where
 | An | bl (b:Bool) | int (i:Int) | str (x:Str) | EE (b:Array UInt8) | JX (b:UInt64) | ref (a:Addr) | ty (n:String)
 deriving DecidableEq
def Au:V->Value->Prop
 | .An,u=>u=Value.none
 | .bl b,u=>u=Value.bool b
 | .int i,u=>∃t,u=Value.int i t
 | .str x,u=>∃t,u=Value.str x t
 | .EE b,u=>∃t,u=Value.bytes b t
 | .JX b,u=>∃t,u=Value.float b t
 | .ref a,u=>u=Value.ref a
 | .ty n,u=>u=Value.type n
abbrev Af:List V->List Value->Prop:=Paired Au
theorem Af.length{xs:List V}{us:List Value}(r:Af xs us):xs.length=us.length:=Paired.length r
theorem Af.get:∀{xs:List V} {us:List Value} {i:Nat} {x:V},Af xs us->xs[i]?=some x->∃u,us[i]?=some u/\Au x u
 | _,_,_,_,.nil,e=>by simp at e
 | _,_,0,_,.cons r _,e=>by simp at e; subst e; exact⟨_,rfl,r⟩
 | _,_,i+1,x,.cons _ t,e=>by
  obtain⟨u,h1,h2⟩:=Af.get (i:=i) (x:=x) t (by simpa using e);exact⟨u,by simpa using h1,h2⟩
theorem Af.set{x:V}{u:Value}(r:Au x u):∀{xs:List V} {us:List Value} (i:Nat),Af xs us->Af (xs.set i x) (us.set i u)
 | _,_,_,.nil=>.nil
 | _,_,0,.cons _ t=>.cons r t
 | _,_,i+1,.cons q t=>.cons q (Af.set r i t)
theorem Af.Eb:∀{xs ys:List V} {us ws:List Value},Af xs us->Af ys ws->Af (xs++ys) (us++ws)
 | _,_,_,_,.nil,s=>s
 | _,_,_,_,.cons r t,s=>.cons r (Af.Eb t s)
theorem Af.take:∀{xs:List V} {us:List Value} (n:Nat),Af xs us->Af (xs.take n) (us.take n)
 | _,_,0,_=>.nil
 | _,_,_+1,.nil=>.nil
 | _,_,n+1,.cons r t=>.cons r (Af.take n t)
theorem Af.drop:∀{xs:List V} {us:List Value} (n:Nat),Af xs us->Af (xs.drop n) (us.drop n)
 | _,_,0,r=>r
 | _,_,_+1,.nil=>.nil
 | _,_,n+1,.cons _ t=>Af.drop n t
theorem Af.Ii:∀{xs:List V} {us:List Value} {i:Nat},Af xs us->xs[i]?=none->us[i]?=none:=λ{xs us i} r e=>by
 have h1:=r.length;have h2:xs.length<=i:=List.getElem?_eq_none_iff.mp e;exact List.getElem?_eq_none_iff.mpr (by omega)
def DL:Option V->Option Value->Prop
 | some v,some u=>Au v u
 | none,none=>True
 | _,_=>False
def KV{κ:Type}:List (κ×V)->List (κ×Value)->Prop:=Paired λ(p:κ×V) (q:κ×Value)=>p.1=q.1/\Au p.2 q.2
def kV:A3->V
 | .inl i=>.int i
 | .inr x=>.str x
inductive HO where
  | AN (xs:List V)
  | AG (xs:List V)
  | dK (kvs:List (A3×V)) | dT (kvs:List (List A3×V))
  | set (S:Int->Bool) (n:Nat)
  | A6 (C dx:Addr) (fs:List (Str×V))
  | Ct (x:Addr)
  | xd (fs:List (Str×V))
  | LR (f x:Addr)
  | LU (lo hi:Int)
  | Eu (o:Obj) (u:HO)
  | Gv (ps:Array Value)
  | ext (φ:Heap->Prop)
abbrev Hp:=Addr->Option HO
def AJ(H:Hp)(a:Addr)(o:HO):Hp:=λb=>if b=a then some o else H b
theorem AV{H:Hp}{a:Addr}{o:HO}:AJ H a o a=some o:=by unfold AJ; rw[if_pos rfl]
theorem Ao{H:Hp}{a b:Addr}{o:HO}(h:b≠a):AJ H a o b=H b:=by unfold AJ; rw[if_neg h]
theorem Yx{H:Hp}{a b:Addr}{o u:HO}(h:H a=some o)(h':H b=some u)(d:o≠u):a≠b:=by
 intro e; subst e; rw[h] at h'; exact d (Option.some.inj h')
theorem A7{H:Hp}{a b:Addr}{o:HO}(h:H a=some o)(h':H b=none):a≠b:=by
 intro e; subst e; rw[h] at h'; cases h'
section
variable (P:Program) (w:World)
def Bf(H:Hp)(h:Heap)(a:Addr):HO->Prop
 | .AN xs=>xs.length<=sizeLine/\∃(its:List Value) (n:Nat),Af xs its/\h.get? a=some { cls:=.type "list",data:=.seq its.toArray n }
 | .AG xs=>xs.length<=sizeLine/\∃its:List Value,Af xs its/\IsTup h a its.toArray/\∃o,h.get? a=some o/\o.dict=none
 | .dK kvs=>kvs.length<=sizeLine/\(a == sysModules)=false/\∃vs,KV kvs vs/\h.DictOf (D2 P w) a vs
 | .dT kvs=>kvs.length<=sizeLine/\(a == sysModules)=false/\∃xs:List (List A3×Addr×Value),
   Paired (λ(p:List A3×V) (q:List A3×Addr×Value)=>p.1=q.1/\H q.2.1=some (.AG (p.1.map kV))/\Au p.2 q.2.2) kvs xs /\
   ∃o es ep,h.get? a=some o/\o.ExactDict/\o.data=.dict es ep/\es.toList=xs.map (entryOfKey (tupleKind (D2 P w)))/\(xs.map (·.1)).Nodup
 | .set S n=>h.SetOf (intKind P w) a S n
 | .A6 C dx fs=>H dx=some (.Ct a)/\fs.length<=1000/\dx≠a/\h.get? a=some (PySem.W.instObj C dx) /\
   ∃mA,h.Ns1 dx mA/\(∀f,DL (fs.lookup f) (mA f))/\PySem.Within mA (fs.map (·.1))
 | .Ct _=>∃o,h.get? a=some o
 | .xd fs=>∃mA,h.Ns1 a mA/\∀f,DL (fs.lookup f) (mA f)
 | .LU lo hi=>∃t u v,h.get? a=some { cls:=.type "range",data:=.fields #[.int lo t,.int hi u,.int 1 v] }
 | .Eu o u=>h.get? a=some o/\Bf H h a u
 | .Gv ps=>h.get? a=some { cls:=.none,data:=.fields ps }
 | .LR f x=>h.get? a=some (PySem.W.methodObj (.ref f) (.ref x))
 | .ext φ=>φ h/\(∃o,h.get? a=some o)/\∀h1 h2:Heap,φ h1->(∀o,h1.get? a=some o->h2.get? a=some o)->φ h2
def BN(H:Hp)(h:Heap):Prop:=∀a o,H a=some o->Bf P w H h a o
end
section
variable {P:Program} {w:World} {H H':Hp} {h h':Heap} {a:Addr} {o:HO}
theorem Bf.lt(x:Bf P w H h a o):a<h.objs.size:=by
 cases o with
 | AN xs=>obtain⟨_,_,_,_,e⟩:=x; exact Heap.lt_size e
 | AG xs=>obtain⟨_,_,_,p,_⟩:=x; exact p.lt
 | dK kvs=>obtain⟨_,_,_,_,o,_,_,e,_⟩:=x; exact Heap.lt_size e
 | dT kvs=>obtain⟨_,_,_,_,o,_,_,e,_⟩:=x; exact Heap.lt_size e
 | set S n=>obtain⟨o,_,_,_,e,_⟩:=x; exact Heap.lt_size e
 | A6 C dx fs=>obtain⟨_,_,_,e,_⟩:=x; exact Heap.lt_size e
 | Ct y=>obtain⟨_,e⟩:=x; exact Heap.lt_size e
 | xd fs=>obtain⟨_,⟨_,_,_,e,_⟩,_⟩:=x; exact Heap.lt_size e
 | LU lo hi=>obtain⟨_,_,_,e⟩:=x; exact Heap.lt_size e
 | Eu ob u=>obtain⟨e,_⟩:=x; exact Heap.lt_size e
 | Gv ps=>exact Heap.lt_size (show h.get? a=some _ from x)
 | LR f y=>exact Heap.lt_size (show h.get? a=some _ from x)
 | ext φ=>obtain⟨_,⟨_,e⟩,_⟩:=x; exact Heap.lt_size e
theorem Paired.NL{α β:Type}{F G:α->β->Prop}:∀{l₁:List α} {l₂:List β},Paired F l₁ l₂->(∀a b,F a b->G a b)->Paired G l₁ l₂
 | _,_,.nil,_=>.nil
 | _,_,.cons r t,f=>.cons (f _ _ r) (Paired.NL t f)
theorem Bf.En (x:Bf P w H h a o) (k:∀b u,(b=a\/H b=some (.Ct a))->h.get? b=some u->h'.get? b=some u)
  (ho:∀b,H b=some (.Ct a)->H' b=some (.Ct a)) (ht:∀b xs,H b=some (.AG xs)->H' b=some (.AG xs)):Bf P w H' h' a o:=by
 induction o with
 | AN xs=>obtain⟨z,its,n,r,e⟩:=x; exact⟨z,its,n,r,k _ _ (.inl rfl) e⟩
 | AG xs=>obtain⟨z,its,r,⟨ob,e,c⟩,ob2,e2,c2⟩:=x; exact⟨z,its,r,⟨ob,k _ _ (.inl rfl) e,c⟩,ob2,k _ _ (.inl rfl) e2,c2⟩
 | dK kvs=>obtain⟨z,y,vs,r,ob,es,ep,e,c⟩:=x; exact⟨z,y,vs,r,ob,es,ep,k _ _ (.inl rfl) e,c⟩
 | dT kvs =>
  obtain⟨z,y,xs,r,ob,es,ep,e,c⟩:=x;exact⟨z,y,xs,Paired.NL r λp q z=>⟨z.1,ht _ _ z.2.1,z.2.2⟩,ob,es,ep,k _ _ (.inl rfl) e,c⟩
 | set S n=>obtain⟨ob,es,ep,t,e,c⟩:=x; exact⟨ob,es,ep,t,k _ _ (.inl rfl) e,c⟩
 | A6 C dx fs =>
  obtain⟨d,z,ne,e,mA,⟨od,es,ep,e2,c⟩,r⟩:=x;exact⟨ho _ d,z,ne,k _ _ (.inl rfl) e,mA,⟨od,es,ep,k _ _ (.inr d) e2,c⟩,r⟩
 | Ct y=>obtain⟨ob,e⟩:=x; exact⟨ob,k _ _ (.inl rfl) e⟩
 | xd fs=>obtain⟨mA,⟨od,es,ep,e,c⟩,r⟩:=x; exact⟨mA,⟨od,es,ep,k _ _ (.inl rfl) e,c⟩,r⟩
 | LU lo hi=>obtain⟨t,u,v,e⟩:=x; exact⟨t,u,v,k _ _ (.inl rfl) e⟩
 | Eu ob u ih=>obtain⟨e,q⟩:=x; exact⟨k _ _ (.inl rfl) e,ih q⟩
 | Gv ps =>
  have e:h.get? a=some { cls:=.none,data:=.fields ps }:=x;show h'.get? a=some { cls:=.none,data:=.fields ps };exact k a _ (.inl rfl) e
 | LR f y =>
  have e:h.get? a=some (PySem.W.methodObj (.ref f) (.ref y)):=x;show h'.get? a=some (PySem.W.methodObj (.ref f) (.ref y));exact k a _ (.inl rfl) e
 | ext φ=>obtain⟨p,⟨o,e⟩,st⟩:=x; exact⟨st _ _ p λo q=>k _ _ (.inl rfl) q,⟨o,k _ _ (.inl rfl) e⟩,st⟩
theorem BN.lt(x:BN P w H h)(e:H a=some o):a<h.objs.size:=(x a o e).lt
theorem BN.fresh(x:BN P w H h)(e:h.objs.size<=a):H a=none:=by
 cases q:H a with
 | none=>rfl
 | some u=>exact absurd (Nat.lt_of_lt_of_le (x.lt q) e) (Nat.lt_irrefl _)
theorem BN.CK(x:BN P w H h)(k:∀b u,h.get? b=some u->h'.get? b=some u):BN P w H h':=λa o e =>
 (x a o e).En (λb u _ q=>k b u q) (λ_ q=>q) λ_ _ q=>q
theorem BN.laid(x:BN P w H h)(k:∀b u,h.get? b=some u->h'.get? b=some u)(hp:h.objs.size<=a)(new:Bf P w (AJ H a o) h' a o):BN P w (AJ H a o) h':=λb u e=>by
 have hn:=x.fresh hp;by_cases hb:b=a
 ·subst hb; rw[AV] at e; cases e; exact new
 ·rw[Ao hb] at e;exact(x b u e).En (λc v _ q=>k c v q) (λc q=>by rw[Ao (A7 q hn)]; exact q) λc xs q=>by rw[Ao (A7 q hn)]; exact q
end
def Rd(H:Hp)(a:Addr)(u:HO):Prop:=H a=some u\/∃o,H a=some (.Eu o u)
theorem Rd.of{H:Hp}{a:Addr}{u:HO}(h:H a=some u):Rd H a u:=.inl h
theorem Rd.ok{P:Program}{w:World}{H:Hp}{h:Heap}{a:Addr}{u:HO}(r:Rd H a u)(x:BN P w H h):Bf P w H h a u:=by
 rcases r with r | ⟨o,r⟩
 ·exact x a u r
 ·obtain⟨_,q⟩:=x a _ r;exact q
def JW:Option HO->Prop
 | some (.AN _)=>True
 | some (.dK _)=>True
 | some (.dT _)=>True
 | some (.set _ _)=>True
 | some (.A6 _ _ _)=>True
 | some (.ext _)=>True
 | _=>False
section
variable {P:Program} {w:World} {H:Hp} {h h':Heap} {x e:Addr} {o':HO}
theorem BN.Ga (ok:BN P w H h) (mu:JW (H x)) (he:e=x\/H e=some (.Ct x)) (k:∀b u,b≠e->h.get? b=some u->h'.get? b=some u) (heo:∃u,h'.get? e=some u)
  (new:Bf P w (AJ H x o') h' x o'):BN P w (AJ H x o') h':=λb u q=>by
 have nown:∀c y,H c=some (.Ct y)->c≠x:=λc y r z=>by subst z; rw[r] at mu; exact mu
 have ntup:∀c xs,H c=some (.AG xs)->c≠x:=λc xs r z=>by subst z; rw[r] at mu; exact mu
 by_cases hb:b=x
 ·subst hb; rw[AV] at q; cases q; exact new
 ·rw[Ao hb] at q;by_cases hbe:b=e
  ·have q':H b=some (.Ct x):=by
    rcases he with z | z
    ·exact absurd (hbe.trans z) hb
    ·rw[hbe]; exact z
   rw[q] at q'; cases q';obtain⟨v,hv⟩:=heo;exact⟨v,by rw[hbe]; exact hv⟩
  ·refine(ok b u q).En (λc v hc r=>k c v ?_ r) (λc r=>by rw[Ao (nown c b r)]; exact r) λc xs r=>by rw[Ao (ntup c xs r)]; exact r
   rcases hc with rfl | hc
   ·exact hbe
   ·rintro rfl;rcases he with z | z
    ·exact nown c b hc z
    ·rw[hc] at z; cases z; exact hb rfl
end
structure Un(fs ex:List Addr)(H H':Hp)(h h':Heap):Prop where
 keep:∀b o,h.get? b=some o->H b=none->b∉fs->b∉ex->h'.get? b=some o
 slot:∀b o,h.get? b=some o->H b=none->b∈fs->b∉ex->∃sl,h'.get? b=some { o with slots:=sl }
 free:∀b o,h.get? b=some o->H b=none->b∉ex->H' b=none
 there:∀b o,h.get? b=some o->b∉ex->∃o',h'.get? b=some o'
 tups:∀b xs,H b=some (.AG xs)->H' b=some (.AG xs)
 frzs:∀b o u,H b=some (.Eu o u)->H' b=some (.Eu o u)
 tbls:∀b ps,H b=some (.Gv ps)->∃more,H' b=some (.Gv (ps++more))
section
variable {fs fs' ex ex':List Addr} {H H1 H2:Hp} {h h1 h2 h':Heap} {a x e:Addr} {o:HO}
theorem Un.any(u:Un fs ex H H1 h h1){b:Addr}{ob:Obj}(q:h.get? b=some ob)(n:H b=none)(hx:b∉ex):∃sl,h1.get? b=some { ob with slots:=sl }:=by
 by_cases hb:b∈fs
 ·exact u.slot b ob q n hb hx
 ·exact⟨ob.slots,u.keep b ob q n hb hx⟩
theorem Un.trans(a:Un fs ex H H1 h h1)(b:Un fs ex H1 H2 h1 h2):Un fs ex H H2 h h2 where
 keep:=λc ob q n hc hx=>b.keep c ob (a.keep c ob q n hc hx) (a.free c ob q n hx) hc hx
 slot:=λc ob q n hc hx=>by
  obtain⟨sl,e1⟩:=a.slot c ob q n hc hx;obtain⟨sl',e2⟩:=b.slot c _ e1 (a.free c ob q n hx) hc hx;exact⟨sl',e2⟩
 free:=λc ob q n hx=>by
  obtain⟨o',e1⟩:=a.there c ob q hx;exact b.free c o' e1 (a.free c ob q n hx) hx
 there:=λc ob q hx=>by
  obtain⟨o',e1⟩:=a.there c ob q hx;exact b.there c o' e1 hx
 tups:=λc xs q=>b.tups c xs (a.tups c xs q)
 frzs:=λc ob xs q=>b.frzs c ob xs (a.frzs c ob xs q)
 tbls:=λc ps q=>by
  obtain⟨m1,e1⟩:=a.tbls c ps q;obtain⟨m2,e2⟩:=b.tbls c _ e1;exact⟨m1++m2,by rw[e2,Array.append_assoc]⟩
theorem Un.CK(k:∀b u,h.get? b=some u->h'.get? b=some u):Un fs ex H H h h' :=
 ⟨λb ob q _ _ _=>k b ob q,λb ob q _ _ _=>⟨ob.slots,k b ob q⟩,λ_ _ _ n _=>n,λb ob q _=>⟨ob,k b ob q⟩,λ_ _ q=>q,λ_ _ _ q=>q,λ_ ps q=>⟨#[],by rw[q]; simp⟩⟩
theorem Un.refl:Un fs ex H H h h:=Un.CK λ_ _ q=>q
theorem Un.laid(k:∀b u,h.get? b=some u->h'.get? b=some u)(hp:h.objs.size<=a)(hn:H a=none):Un fs ex H (AJ H a o) h h' where
 keep:=λb u q _ _ _=>k b u q
 slot:=λb u q _ _ _=>⟨u.slots,k b u q⟩
 free:=λb u q n _=>by rw[Ao (Nat.ne_of_lt (Nat.lt_of_lt_of_le (Heap.lt_size q) hp))]; exact n
 there:=λb u q _=>⟨u,k b u q⟩
 tups:=λb xs q=>by rw[Ao (A7 q hn)]; exact q
 frzs:=λb u xs q=>by rw[Ao (A7 q hn)]; exact q
 tbls:=λb ps q=>⟨#[],by rw[Ao (A7 q hn),q]; simp⟩
theorem Un.Ga(mu:JW (H x))(he:e=x\/H e=some (.Ct x))(k:∀b u,b≠e->h.get? b=some u->h'.get? b=some u)(heo:∃u,h'.get? e=some u):Un fs ex H (AJ H x o) h h':=by
 have hx:∀b,H b=none->b≠x:=λb n z=>by subst z; rw[n] at mu; exact mu
 have hb:∀b,H b=none->b≠e:=λb n z=>by
  subst z;rcases he with r | r
  ·exact hx b n r
  ·rw[n] at r; cases r
 have hm:∀b u,H b=some u->¬JW (some u)->b≠x:=λb u q nm z=>by subst z; rw[q] at mu; exact nm mu
 refine⟨λb u q n _ _=>k b u (hb b n) q,λb u q n _ _=>⟨u.slots,k b u (hb b n) q⟩,λb u q n _=>by rw[Ao (hx b n)]; exact n,λb u q _=>?_,
  λb xs q=>by rw[Ao (hm b _ q λz=>z)]; exact q,λb u xs q=>by rw[Ao (hm b _ q λz=>z)]; exact q,λb ps q=>⟨#[],by rw[Ao (hm b _ q λz=>z),q]; simp⟩⟩
 by_cases hbe:b=e
 ·subst hbe; exact heo
 ·exact⟨u,k b u hbe q⟩
theorem Un.mono(u:Un fs ex H H1 h h1)(hs:∀b∈fs,b∈fs')(hx:∀b∈ex,b∈ex'):Un fs' ex' H H1 h h1 :=
 ⟨λb ob q n hb he=>u.keep b ob q n (λz=>hb (hs b z)) λz=>he (hx b z),λ_ _ q n _ he=>u.any q n λz=>he (hx _ z),λb ob q n he=>u.free b ob q n λz=>he (hx b z),λb ob q he=>u.there b ob q λz=>he (hx b z),u.tups,u.frzs,u.tbls⟩
end
def LM(h:Heap)(H:Hp):List Addr:=(List.range h.objs.size).filter λa=>(H a).isSome
def GB(h:Heap)(H:Hp):Heap:=PySem.W.hideAll h (LM h H)
theorem U6(h:Heap)(H:Hp):(GB h H).objs.size=h.objs.size:=PySem.W.hideAll_size _ _
theorem V9{h:Heap}{H:Hp}{b:Addr}{o:Obj}(e:h.get? b=some o)(n:H b=none):(GB h H).get? b=some o :=
 PySem.W.hideAll_get _ e λhm=>by
  have q:(H b).isSome=true:=(List.mem_filter.mp hm).2;rw[n] at q; simp at q
theorem XB{h:Heap}{H:Hp}{b:Addr}{o:Obj}(e:(GB h H).get? b=some o):h.get? b=some o/\H b=none:=by
 have e':h.get? b=some o:=PySem.W.of_hideAll (LM h H) e;refine⟨e',?_⟩;cases q:H b with
 | none=>rfl
 | some x =>
  have hm:b∈LM h H:=List.mem_filter.mpr ⟨List.mem_range.mpr (Heap.lt_size e'),by simp[q]⟩;have z:(GB h H).get? b=none:=PySem.W.hideAll_none (LM h H) hm;rw[z] at e; cases e
def Wm(g h:Heap)(L:Addr):List (Addr×Obj):=(List.range h.objs.size).filterMap λa=>if a=L\/(g.get? a).isSome=true then none else (h.get? a).map λo=>(a,o)
def rest(g h:Heap)(L d:Addr):List (Addr×Obj):=(Wm g h L).filter λp=>decide (p.1≠d)
structure Mod(K:PySem.W.Frag)(mg:Str->Option Value)(base:Heap):Prop where
 DQ:K.In base
 FH:base.Ns mainGlobals mg
 HZ:∃mb,base.Ns builtinsNs mb/\∀x:Str,x≠"__name__"->mb x=bootBuiltins x
 nolimit:base.NoLimit
structure Cx where
 prog:Program
 w:World
 K:PySem.W.Frag
 mg:Str->Option Value
 base:Heap
 A:Around
 N:List Str
 s₀:Shared
 H₀:Hp
 env:Env
 outer:List Env
 stack:List Env
 ex:List Addr
 fn:Str->Bool
 By:Bool
 pn:List (Addr×Obj)
 xe:Value->Shared->Prop
def BM(l:List Env):List Addr:=l.filterMap (·.frame)
abbrev Cx.fs(X:Cx):List Addr:=BM X.outer
def Nh(sc:Scope)(x:Str):Prop:=sc.names.lookup x=some .local\/sc.names.lookup x=some .cell\/sc.names.lookup x=some .free
def Hb(sc:Scope)(x:Str):Prop:=sc.names.lookup x=some .local\/sc.names.lookup x=some .cell
def Ck(env:Env)(h:Heap)(m:Str->Option Value)(x:Str)(u:Value):Prop :=
 (env.kindOf x=some .local/\m x=some u)\/((env.kindOf x=some .cell\/env.kindOf x=some .free)/\∃c,env.cells.lookup x=some c/\h.IsCell c (some u))
structure Cx.Ok(X:Cx):Prop where
 BP:Mod X.K X.mg X.base
 kind:X.env.scope.kind=.function
 FH:X.env.globals=mainGlobals
 HZ:X.env.builtins=builtinsNs
 above:X.s₀.heap.objs.size<=X.env.locals
 inj:∀x y c,X.env.cells.lookup x=some c->X.env.cells.lookup y=some c->x=y
 has:∀x,(X.env.kindOf x=some .cell\/X.env.kindOf x=some .free)->∃c,X.env.cells.lookup x=some c
 IK:∀x c,X.fn x=true->X.env.cells.lookup x=some c->X.s₀.heap.objs.size<=c
 hd:X.By=true->X.A.handled=none
 frames:X.A.frames=some X.stack
 JR:X.stack=X.outer\/(X.stack=X.env :: X.outer/\X.env.frame=some X.env.locals)
 Na:∀b∈X.ex,b≠X.env.locals/\∀x c,X.env.cells.lookup x=some c->c≠b
 bs:∀b o,X.base.get? b=some o->X.s₀.heap.get? b=some o/\X.H₀ b=none
 Ew:X.base.objs.size<=X.s₀.heap.objs.size
 Hz:∀b o,X.base.get? b=some o->b∉X.ex
 ID:∀b∈X.ex,b∉X.fs
 DH:X.s₀.heap.FunFrames X.base X.outer
 Es:∀b∈X.fs,X.H₀ b=none
structure AL(X:Cx)(pins:List (Addr×Obj))(σ:List (Option V))(H:Hp)(s:Shared):Prop where
 ok:X.Ok
 os:s.os=X.s₀.os
 bare:AllBare s.gens
 base:Un X.fs X.ex X.H₀ H X.s₀.heap s.heap
 Cr:∃m,s.heap.Ns X.env.locals m/\∀(i:Nat) (x:Str) (v:V),X.N[i]?=some x->σ[i]?=some (some v)->Nh X.env.scope x->∃u,Au v u/\Ck X.env s.heap m x u
 cell:∀x c,X.env.cells.lookup x=some c->∃v,s.heap.IsCell c v
 free:H X.env.locals=none
 Dj:∀x c,X.env.cells.lookup x=some c->H c=none
 Co:∀p∈X.pn++pins,s.heap.get? p.1=some p.2/\H p.1=none/\p.1≠X.env.locals/\p.1∉X.fs/\∀v,p.2.data≠.cell v
 hok:BN X.prog X.w H s.heap
 len:σ.length=X.N.length
section
variable {X:Cx} {pins:List (Addr×Obj)} {σ:List (Option V)} {H H':Hp} {s:Shared} {h':Heap}
theorem Cx.Ok.Zu(ok:X.Ok){b:Addr}{o:Obj}(e:X.base.get? b=some o):b∉X.fs:=λhb=>by
 have:=(ok.DH.mem hb).1
 rw[e] at this; cases this
theorem AL.bs(I:AL X pins σ H s):∀b o,X.base.get? b=some o->s.heap.get? b=some o/\H b=none:=λb o e =>
 ⟨I.base.keep b o (I.ok.bs b o e).1 (I.ok.bs b o e).2 (I.ok.Zu e) (I.ok.Hz b o e),I.base.free b o (I.ok.bs b o e).1 (I.ok.bs b o e).2 (I.ok.Hz b o e)⟩
theorem AL.bk(I:AL X pins σ H s):∀b o,X.base.get? b=some o->s.heap.get? b=some o:=λb o e=>(I.bs b o e).1
theorem AL.BP(I:AL X pins σ H s):Mod X.K X.mg X.base:=I.ok.BP
theorem AL.Be(I:AL X pins σ H s):X.K.In s.heap:=I.ok.BP.DQ.keeps I.bk
theorem AL.nolimit(I:AL X pins σ H s):s.heap.NoLimit:=I.ok.BP.nolimit.keeps I.bk
theorem AL.lt(I:AL X pins σ H s):X.env.locals<s.heap.objs.size:=let ⟨_,hn,_⟩:=I.Cr; hn.lt
theorem AL.sz(I:AL X pins σ H s):X.s₀.heap.objs.size<=s.heap.objs.size:=Nat.le_trans I.ok.above (Nat.le_of_lt I.lt)
theorem AL.ZV(I:AL X pins σ H s){a:Addr}(h:s.heap.objs.size<=a):a∉X.fs:=λhb=>by
 obtain⟨_,o,ho,_⟩:=I.ok.DH.mem hb;exact absurd (Nat.lt_of_lt_of_le (Heap.lt_size ho) (Nat.le_trans I.sz h)) (Nat.lt_irrefl _)
theorem AL.cne(I:AL X pins σ H s):∀x c,X.env.cells.lookup x=some c->c≠X.env.locals:=λx c e z=>by
 obtain⟨v,o,ho,hd⟩:=I.cell x c e;obtain⟨m,⟨o',es,ep,ho',hd',_⟩,_⟩:=I.Cr;rw[z,ho'] at ho; cases ho; rw[hd'] at hd; cases hd
theorem AL.DH(I:AL X pins σ H s):s.heap.FunFrames X.base X.outer:=by
 have all:∀(l:List Env),(∀b∈BM l,b∈X.fs)->X.s₀.heap.FunFrames X.base l->s.heap.FunFrames X.base l:=by
  intro l
  induction l with
  | nil=>intro _ _; trivial
  | cons env r ih =>
   intro hs hl;obtain⟨hk,⟨L,o,hf,hn,ho,hd⟩,hr⟩:=hl;have hL:L∈X.fs:=hs L (by unfold BM; rw[List.filterMap_cons,hf]; exact List.mem_cons_self);obtain⟨sl,e⟩:=I.base.slot L o ho (I.ok.Es L hL) hL λz=>I.ok.ID L z hL
   exact⟨hk,⟨L,_,hf,hn,e,hd⟩,ih (λb hb=>hs b (by unfold BM; rw[List.filterMap_cons,hf]; exact List.mem_cons_of_mem _ hb)) hr⟩
 exact all X.outer (λ_ hb=>hb) I.ok.DH
theorem AL.stack(I:AL X pins σ H s):s.heap.FunFrames X.base X.stack:=by
 rcases I.ok.JR with e | ⟨e,hf⟩
 ·rw[e]; exact I.DH
 ·rw[e];obtain⟨m,hn,_⟩:=I.Cr;refine .cons (by rw[I.ok.kind]; decide) hf hn ?_ I.DH;exact Heap.get?_none_of_le (Nat.le_trans I.ok.Ew I.ok.above)
theorem AL.Hl(I:AL X pins σ H s):∀b∈BM X.stack,b∈X.env.locals :: X.fs:=λb hb=>by
 rcases I.ok.JR with e | ⟨e,hf⟩
 ·rw[e] at hb; exact List.mem_cons_of_mem _ hb
 ·rw[e] at hb;unfold BM at hb;rw[List.filterMap_cons,hf] at hb;exact hb
theorem AL.KI(I:AL X pins σ H s):∀b∈BM X.stack,H b=none:=λb hb=>by
 rcases List.mem_cons.mp (I.Hl b hb) with e | hb
 ·rw[e]; exact I.free
 ·obtain⟨_,o,ho,_⟩:=I.ok.DH.mem hb;exact I.base.free b o ho (I.ok.Es b hb) λz=>I.ok.ID b z hb
theorem AL.step {g':Array GenState} {t':Nat} {d':Drawn} {ch:List Addr} (I:AL X pins σ H s)
  (hch:∀b∈ch,(b∈X.ex\/X.s₀.heap.objs.size<=b)/\b≠X.env.locals/\(∀x c,X.env.cells.lookup x=some c->c≠b)/\∀p∈X.pn++pins,p.1≠b)
  (keep:∀b o,b≠X.env.locals->b∉X.fs->b∉ch->s.heap.get? b=some o->H b=none->h'.get? b=some o)
  (slot:∀b o,b≠X.env.locals->b∈X.fs->b∉ch->s.heap.get? b=some o->H b=none->∃sl,h'.get? b=some { o with slots:=sl }) (free:∀b o,b∉ch->s.heap.get? b=some o->H b=none->H' b=none)
  (there:∀b o,b∉ch->s.heap.get? b=some o->∃o',h'.get? b=some o')
  (tups:∀b xs,H b=some (.AG xs)->H' b=some (.AG xs)) (frzs:∀b o u,H b=some (.Eu o u)->H' b=some (.Eu o u)) (tbls:∀b ps,H b=some (.Gv ps)->∃more,H' b=some (.Gv (ps++more)))
  (ns:∀m,s.heap.Ns X.env.locals m->h'.Ns X.env.locals m) (hok:BN X.prog X.w H' h') (hg:AllBare g') :
  AL X pins σ H' { s with heap:=h',gens:=g',drawn:=d',toks:=t' }:=by
 have neL:∀b o,X.s₀.heap.get? b=some o->b≠X.env.locals:=λb o e=>Nat.ne_of_lt (Nat.lt_of_lt_of_le (Heap.lt_size e) I.ok.above)
 have neC:∀b o,X.s₀.heap.get? b=some o->b∉X.ex->b∉ch:=λb o e hx hb=>by
  rcases(hch b hb).1 with z | z
  ·exact hx z
  ·exact absurd (Nat.lt_of_lt_of_le (Heap.lt_size e) z) (Nat.lt_irrefl _)
 have cellK:∀x c,X.env.cells.lookup x=some c->∀v,s.heap.IsCell c v->h'.IsCell c v:=λx c e v ⟨o,ho,hd⟩=>by
  have nch:c∉ch:=λz=>(hch c z).2.2.1 x c e rfl
  by_cases hc:c∈X.fs
  ·obtain⟨sl,q⟩:=slot c o (I.cne x c e) hc nch ho (I.Dj x c e);exact⟨_,q,hd⟩
  ·exact⟨o,keep c o (I.cne x c e) hc nch ho (I.Dj x c e),hd⟩
 refine⟨I.ok,I.os,hg,⟨λb o e n hb hx=>?_,λb o e n hb hx=>?_,λb o e n hx=>?_,λb o e hx=>?_,λb xs e=>tups b xs (I.base.tups b xs e),λb o xs e=>frzs b o xs (I.base.frzs b o xs e),λb ps e=>?_⟩,?_,λx c e=>?_,?_,λx c e=>?_,λp hp=>?_,hok,I.len⟩
 ·exact keep b o (neL b o e) hb (neC b o e hx) (I.base.keep b o e n hb hx) (I.base.free b o e n hx)
 ·obtain⟨sl,e1⟩:=I.base.slot b o e n hb hx;obtain⟨sl',e2⟩:=slot b _ (neL b o e) hb (neC b o e hx) e1 (I.base.free b o e n hx);exact⟨sl',e2⟩
 ·obtain⟨o',e1⟩:=I.base.there b o e hx;exact free b o' (neC b o e hx) e1 (I.base.free b o e n hx)
 ·obtain⟨o',e1⟩:=I.base.there b o e hx;exact there b o' (neC b o e hx) e1
 ·obtain⟨m1,e1⟩:=I.base.tbls b ps e;obtain⟨m2,e2⟩:=tbls b _ e1;exact⟨m1++m2,by rw[e2,Array.append_assoc]⟩
 ·obtain⟨m,hn,hl⟩:=I.Cr;refine⟨m,ns m hn,λi x v e1 e2 e3=>?_⟩;obtain⟨u,r,l⟩:=hl i x v e1 e2 e3;refine⟨u,r,?_⟩;rcases l with l | ⟨k,c,e,z⟩
  ·exact .inl l
  ·exact .inr ⟨k,c,e,cellK x c e _ z⟩
 ·obtain⟨v,z⟩:=I.cell x c e;exact⟨v,cellK x c e v z⟩
 ·obtain⟨m,⟨o,_,_,ho,_⟩,_⟩:=I.Cr;exact free _ o (λz=>(hch _ z).2.1 rfl) ho I.free
 ·obtain⟨v,o,ho,hd⟩:=I.cell x c e;exact free c o (λz=>(hch c z).2.2.1 x c e rfl) ho (I.Dj x c e)
 ·obtain⟨e,n,ne,nf,d⟩:=I.Co p hp;have nch:p.1∉ch:=λz=>(hch p.1 z).2.2.2 p hp rfl
  exact⟨keep p.1 p.2 ne nf nch e n,free p.1 p.2 nch e n,ne,nf,d⟩
theorem AL.un{t':Nat}(I:AL X pins σ H s)(u:Un X.fs [] H H' s.heap h')(hok:BN X.prog X.w H' h'):AL X pins σ H' { s with heap:=h',toks:=t' }:=by
 obtain⟨m,⟨o,es,ep,ho,r⟩,_⟩:=id I.Cr;obtain⟨sl,hL⟩:=u.any ho I.free (by simp);exact I.step (g':=s.gens) (d':=s.drawn) (ch:=[]) (λ_ z=>nomatch z) (λb o _ hb _ e n=>u.keep b o e n hb (by simp)) (λb o _ hb _ e n=>u.slot b o e n hb (by simp)) (λb o _ e n=>u.free b o e n (by simp)) (λb o _ e=>u.there b o e (by simp)) u.tups u.frzs u.tbls (λm' hm=>by
  obtain⟨o',es',ep',ho',r'⟩:=hm;rw[ho] at ho'; cases ho';exact⟨_,es',ep',hL,r'⟩) hok I.bare
theorem AL.call {g':Array GenState} {t':Nat} {d':Drawn} {ch:List Addr} (I:AL X pins σ H s) (u:Un (BM X.stack) ch H H' s.heap h') (hok:BN X.prog X.w H' h') (hg:AllBare g')
  (hch:∀b∈ch,(b∈X.ex\/X.s₀.heap.objs.size<=b)/\b≠X.env.locals/\(∀x c,X.env.cells.lookup x=some c->c≠b)/\∀p∈X.pn++pins,p.1≠b) :
  AL X pins σ H' { s with heap:=h',gens:=g',drawn:=d',toks:=t' }:=by
 obtain⟨m,⟨o,es,ep,ho,r⟩,_⟩:=id I.Cr;obtain⟨sl,hL⟩:=u.any ho I.free λz=>(hch _ z).2.1 rfl
 exact I.step (ch:=ch) hch (λb o hL hb hc e n=>u.keep b o e n (λz=>(List.mem_cons.mp (I.Hl b z)).elim hL hb) hc) (λb o _ _ hc e n=>u.any e n hc) (λb o hc e n=>u.free b o e n hc) (λb o hc e=>u.there b o e hc) u.tups u.frzs u.tbls (λm' hm=>by
  obtain⟨o',es',ep',ho',r'⟩:=hm;rw[ho] at ho'; cases ho';exact⟨_,es',ep',hL,r'⟩) hok hg
theorem AL.E6 {t':Nat} {it:Addr} (I:AL X pins σ H s) (k:∀b o,b≠it->s.heap.get? b=some o->h'.get? b=some o) (hn:H it=none) (hL:it≠X.env.locals)
  (h1:it∈X.ex\/X.s₀.heap.objs.size<=it) (h2:∀x c,X.env.cells.lookup x=some c->c≠it) (h3:∀p∈X.pn++pins,p.1≠it):AL X pins σ H { s with heap:=h',toks:=t' }:=by
 have nit:∀b u,H b=some u->b≠it:=λb u e z=>by rw[z,hn] at e; cases e
 refine I.step (g':=s.gens) (d':=s.drawn) (ch:=[it]) (λb hb=>?_) (λb o _ _ hc e _=>k b o (λz=>hc (by simp[z])) e) (λb o _ _ hc e _=>⟨o.slots,k b o (λz=>hc (by simp[z])) e⟩) (λ_ _ _ _ n=>n)
  (λb o hc e=>⟨o,k b o (λz=>hc (by simp[z])) e⟩) (λ_ _ e=>e) (λ_ _ _ e=>e) (λb ps e=>⟨#[],by rw[e]; simp⟩) (λm hm=>?_) (λb u e=>?_) I.bare
 ·have e:b=it:=by simpa using hb
  subst e;exact⟨h1,hL,h2,h3⟩
 ·obtain⟨o,es,ep,ho,r⟩:=hm;exact⟨o,es,ep,k _ o (Ne.symm hL) ho,r⟩
 ·refine(I.hok b u e).En (λc v hc q=>k c v ?_ q) (λ_ q=>q) λ_ _ q=>q
  rcases hc with z | z
  ·rw[z]; exact nit b u e
  ·exact nit c _ z
theorem AL.Dc(I:AL X pins σ H s)(t:Nat):AL X pins σ H { s with toks:=t }:=I.un (h':=s.heap) (t':=t) Un.refl I.hok
theorem AL.CK{t':Nat}(I:AL X pins σ H s)(k:∀b u,s.heap.get? b=some u->h'.get? b=some u):AL X pins σ H { s with heap:=h',toks:=t' }:=I.un (Un.CK k) (I.hok.CK k)
theorem AL.laid{a:Addr}{o:HO}{t':Nat}(I:AL X pins σ H s)(k:∀b u,s.heap.get? b=some u->h'.get? b=some u)(hp:s.heap.objs.size<=a)(new:Bf X.prog X.w (AJ H a o) h' a o):
  AL X pins σ (AJ H a o) { s with heap:=h',toks:=t' }:=I.un (Un.laid k hp (I.hok.fresh hp)) (I.hok.laid k hp new)
theorem AL.Ga {x e:Addr} {o:HO} {t':Nat} (I:AL X pins σ H s) (mu:JW (H x)) (he:e=x\/H e=some (.Ct x)) (k:∀b u,b≠e->s.heap.get? b=some u->h'.get? b=some u) (heo:∃u,h'.get? e=some u)
  (new:Bf X.prog X.w (AJ H x o) h' x o):AL X pins σ (AJ H x o) { s with heap:=h',toks:=t' }:=I.un (Un.Ga mu he k heo) (I.hok.Ga mu he k heo new)
theorem AL.Py{pins':List (Addr×Obj)}(I:AL X pins σ H s)(h:∀p∈pins',s.heap.get? p.1=some p.2/\H p.1=none/\p.1≠X.env.locals/\p.1∉X.fs/\∀v,p.2.data≠.cell v):AL X pins' σ H s :=
 ⟨I.ok,I.os,I.bare,I.base,I.Cr,I.cell,I.free,I.Dj,λp hp=>(List.mem_append.mp hp).elim (λz=>I.Co p (List.mem_append_left _ z)) (h p),I.hok,I.len⟩
theorem Lm{N:List Str}(hN:N.Nodup){i j:Nat}{x:Str}(a:N[i]?=some x)(b:N[j]?=some x):i=j:=by
 obtain⟨h1,e1⟩:=List.getElem?_eq_some_iff.mp a;obtain⟨h2,e2⟩:=List.getElem?_eq_some_iff.mp b;exact(List.getElem_inj hN).mp (e1.trans e2.symm)
theorem OK {M:Model} {A:Around} {E:Value->Shared->Prop} {i:Nat} {x:Str} {v:V} {u:Value} {Q:Unit->Shared->Prop} (I:AL X pins σ H s) (hN:X.N.Nodup) (hi:X.N[i]?=some x) (hx:Hb X.env.scope x) (r:Au v u)
  (h:∀s',AL X pins (σ.set i (some v)) H s'->(∃a,Heap.SameBut a s.heap s'.heap/\(a=X.env.locals\/X.env.cells.lookup x=some a))->Q () s') (hf:X.fn x=true\/X.env.scope.names.lookup x=some .local:=by first | exact .inl rfl | exact .inr rfl | assumption):wpAny M A (storeName X.env x u) Q E s:=by
 obtain⟨m,hn,hl⟩:=id I.Cr;have hcls:(X.env.scope.kind == .class || (X.env.scope.kind == .module && X.env.locals != X.env.globals))=false:=by rw[I.ok.kind]; rfl
 have hiσ:i<σ.length:=by rw[I.len]; exact(List.getElem?_eq_some_iff.mp hi).1
 have cne:=I.cne;have tracked:∀{a:Addr} {h':Heap},(∃o,s.heap.get? a=some o/\H a=none)->Heap.SameBut a s.heap h'->BN X.prog X.w H h':=λ{a h'} ha hs b ob e=>by
  obtain⟨_,_,hfree⟩:=ha;refine(I.hok b ob e).En (λc w' hc q=>(hs.2 c ?_).trans q) (λ_ q=>q) λ_ _ q=>q
  rintro rfl;rcases hc with rfl | hc
  ·rw[hfree] at e; cases e
  ·rw[hfree] at hc; cases hc
 rcases hx with hk | hk
 ·refine wpAny_storeName_local hk hn (λh' hn' hs=>?_) hcls;obtain⟨oL,_,_,hoL,_⟩:=id hn;refine h _ ⟨I.ok,I.os,I.bare,⟨λb o e n hb hx=>?_,λb o e n hb hx=>?_,I.base.free,λb o e hx=>?_,I.base.tups,I.base.frzs,I.base.tbls⟩,⟨_,hn',λj y v' e1 e2 e3=>?_⟩,λy c e=>?_,I.free,I.Dj,λp hp=>?_,tracked ⟨oL,hoL,I.free⟩ hs,by simpa using I.len⟩ ⟨_,hs,.inl rfl⟩
  ·exact(hs.2 b (Nat.ne_of_lt (Nat.lt_of_lt_of_le (Heap.lt_size e) I.ok.above))).trans (I.base.keep b o e n hb hx)
  ·obtain⟨sl,e1⟩:=I.base.slot b o e n hb hx;exact⟨sl,(hs.2 b (Nat.ne_of_lt (Nat.lt_of_lt_of_le (Heap.lt_size e) I.ok.above))).trans e1⟩
  ·obtain⟨o',e1⟩:=I.base.there b o e hx;exact⟨o',(hs.2 b (Nat.ne_of_lt (Nat.lt_of_lt_of_le (Heap.lt_size e) I.ok.above))).trans e1⟩
  ·by_cases hj:j=i
   ·subst hj;rw[hi] at e1; cases e1;rw[List.getElem?_set_self hiσ] at e2;cases e2;exact⟨u,r,.inl ⟨hk,by simp⟩⟩
   ·rw[List.getElem?_set_ne (Ne.symm hj)] at e2;obtain⟨u',r',q⟩:=hl j y v' e1 e2 e3;refine⟨u',r',?_⟩;rcases q with ⟨k,e⟩ | ⟨k,c,e,z⟩
    ·refine .inl ⟨k,?_⟩
     have:y≠x:=λe=>hj (Lm hN e1 (e ▸ hi))
     simp[this,e]
    ·exact .inr ⟨k,c,e,z.sameBut hs (cne y c e)⟩
  ·obtain⟨w',z⟩:=I.cell y c e;exact⟨w',z.sameBut hs (cne y c e)⟩
  ·obtain⟨e,n,ne,nf,d⟩:=I.Co p hp;exact⟨(hs.2 p.1 ne).trans e,n,ne,nf,d⟩
 ·have hfn:X.fn x=true:=by
   rcases hf with z | z
   ·exact z
   ·rw[z] at hk; cases hk
  obtain⟨c,hc⟩:=I.ok.has x (.inl hk);obtain⟨w',z⟩:=I.cell x c hc;refine wpAny_storeName_cell I.ok.kind hk hc z (λh' hc' hs=>?_);obtain⟨oc,hoc,hocd⟩:=id z;refine h { s with heap:=h' } ⟨I.ok,I.os,I.bare,⟨λb o e n hb hx=>?_,λb o e n hb hx=>?_,I.base.free,λb o e hx=>?_,I.base.tups,I.base.frzs,I.base.tbls⟩,⟨m,hn.sameBut hs (Ne.symm (cne x c hc)),λj y v' e1 e2 e3=>?_⟩,λy c' e=>?_,I.free,I.Dj,λp hp=>?_,tracked ⟨oc,hoc,I.Dj x c hc⟩ hs,by simpa using I.len⟩ ⟨c,hs,.inr hc⟩
  ·exact(hs.2 b (Nat.ne_of_lt (Nat.lt_of_lt_of_le (Heap.lt_size e) (I.ok.IK x c hfn hc)))).trans (I.base.keep b o e n hb hx)
  ·obtain⟨sl,e1⟩:=I.base.slot b o e n hb hx;exact⟨sl,(hs.2 b (Nat.ne_of_lt (Nat.lt_of_lt_of_le (Heap.lt_size e) (I.ok.IK x c hfn hc)))).trans e1⟩
  ·obtain⟨o',e1⟩:=I.base.there b o e hx;exact⟨o',(hs.2 b (Nat.ne_of_lt (Nat.lt_of_lt_of_le (Heap.lt_size e) (I.ok.IK x c hfn hc)))).trans e1⟩
  ·by_cases hj:j=i
   ·subst hj;rw[hi] at e1; cases e1;rw[List.getElem?_set_self hiσ] at e2;cases e2;exact⟨u,r,.inr ⟨.inl hk,c,hc,hc'⟩⟩
   ·rw[List.getElem?_set_ne (Ne.symm hj)] at e2;obtain⟨u',r',q⟩:=hl j y v' e1 e2 e3;refine⟨u',r',?_⟩;rcases q with q | ⟨k,c',e,z'⟩
    ·exact .inl q
    ·refine .inr ⟨k,c',e,z'.sameBut hs ?_⟩;rintro rfl;exact hj (Lm hN e1 (I.ok.inj _ _ _ e hc ▸ hi))
  ·by_cases hcc:c'=c
   ·subst hcc; exact⟨_,hc'⟩
   ·obtain⟨w2,z2⟩:=I.cell y c' e;exact⟨w2,z2.sameBut hs hcc⟩
  ·obtain⟨e,n,ne,nf,d⟩:=I.Co p hp;refine⟨(hs.2 p.1 ?_).trans e,n,ne,nf,d⟩;intro q;rw[q,hoc] at e;have q':oc=p.2:=Option.some.inj e;exact d w' (by rw[<-q']; exact hocd)
theorem Lo {M:Model} {A:Around} {E:Value->Shared->Prop} {i:Nat} {x:Str} {v:V} {u:Value} {Q:Unit->Shared->Prop} (I:AL X pins σ H s) (hN:X.N.Nodup) (hi:X.N[i]?=some x) (hx:Hb X.env.scope x) (r:Au v u)
  (h:∀s',AL X pins (σ.set i (some v)) H s'->Q () s') (hf:X.fn x=true\/X.env.scope.names.lookup x=some .local:=by first | exact .inl rfl | exact .inr rfl | assumption):wpAny M A (storeName X.env x u) Q E s :=
 OK I hN hi hx r (λs' I' _=>h s' I') hf
theorem AL.MZ {s':Shared} {ch:List Addr} (I:AL X pins σ H s) (ho:s'.os=s.os) (u:Un (BM X.stack) ch H H' s.heap s'.heap) (hok:BN X.prog X.w H' s'.heap) (hg:AllBare s'.gens)
  (hch:∀b∈ch,(b∈X.ex\/X.s₀.heap.objs.size<=b)/\b≠X.env.locals/\(∀x c,X.env.cells.lookup x=some c->c≠b)/\∀p∈X.pn++pins,p.1≠b):AL X pins σ H' s':=by
 obtain⟨h',g',d',t',o'⟩:=s';have e:o'=s.os:=ho;subst e;exact I.call (g':=g') (t':=t') (d':=d') u hok hg hch
end
abbrev XK:=Value->Option Addr->Hp->Prop
abbrev St:=List (Option V)
abbrev VK:=V->Hp->Prop
abbrev TE:=St->Hp->VK->Prop
abbrev TT:=St->Hp->(Bool->Hp->Prop)->Prop
abbrev TA:=St->Hp->(List V->Hp->Prop)->Prop
structure Cz where
 nx:St->Hp->Prop
 rt:VK
 bk:St->Hp->Prop:=λ_ _=>False
 ct:St->Hp->Prop:=λ_ _=>False
abbrev TS:=Cz->St->Hp->Prop
def EP(X:Cx)(pins:List (Addr×Obj))(σ:St)(Q:VK)(u:Value)(s':Shared):Prop:=∃v H',AL X pins σ H' s'/\Au v u/\Q v H'
def TP(X:Cx)(pins:List (Addr×Obj))(σ:St)(Q:Bool->Hp->Prop)(b:Bool)(s':Shared):Prop:=∃H',AL X pins σ H' s'/\Q b H'
def AP(X:Cx)(pins:List (Addr×Obj))(σ:St)(Q:List V->Hp->Prop)(us:List Value)(s':Shared):Prop:=∃vs H',AL X pins σ H' s'/\Af vs us/\Q vs H'
def SP(X:Cx)(pins:List (Addr×Obj))(D:Cz)(f:Flow)(s':Shared):Prop :=
 match f with
 | .next=>∃σ' H',AL X pins σ' H' s'/\D.nx σ' H'
 | .brk=>∃σ' H',AL X pins σ' H' s'/\D.bk σ' H'
 | .cont=>∃σ' H',AL X pins σ' H' s'/\D.ct σ' H'
 | .ret u=>∃v σ' H',AL X pins σ' H' s'/\Au v u/\D.rt v H'
def PE(X:Cx)(e:Expr)(t:TE):Prop :=
 ∀(pins:List (Addr×Obj)) (s:Shared) (σ:St) (H:Hp) (Q:VK),AL X pins σ H s->t σ H Q->wpAny (model X.prog X.w) X.A (eval e X.env) (EP X pins σ Q) X.xe s
def PT(X:Cx)(e:Expr)(t:TT):Prop :=
 ∀(pins:List (Addr×Obj)) (s:Shared) (σ:St) (H:Hp) (Q:Bool->Hp->Prop),AL X pins σ H s->t σ H Q->wpAny (model X.prog X.w) X.A (isTrue e X.env (eval e X.env)) (TP X pins σ Q) X.xe s
def PW(X:Cx)(e:Expr)(t:TT):Prop :=
 ∀(whole:Sem Value) (pins:List (Addr×Obj)) (s:Shared) (σ:St) (H:Hp) (Q:Bool->Hp->Prop),AL X pins σ H s->t σ H Q->wpAny (model X.prog X.w) X.A (isTrue e X.env whole) (TP X pins σ Q) X.xe s
theorem PW.pt{X:Cx}{e:Expr}{t:TT}(h:PW X e t):PT X e t:=h _
def PA(X:Cx)(es:List Expr)(t:TA):Prop :=
 ∀(pos:Pos) (pins:List (Addr×Obj)) (s:Shared) (σ:St) (H:Hp) (Q:List V->Hp->Prop),AL X pins σ H s->t σ H Q->wpAny (model X.prog X.w) X.A (spliced (backTo pos (starEach es X.env))) (AP X pins σ Q) X.xe s
def PS(X:Cx)(st:Stmt)(t:TS):Prop :=
 ∀(pins:List (Addr×Obj)) (s:Shared) (σ:St) (H:Hp) (D:Cz),AL X pins σ H s->t D σ H->wpAny (model X.prog X.w) X.A (exec st X.env) (SP X pins D) X.xe s
def DP(X:Cx)(st:List Stmt)(t:TS):Prop :=
 ∀(pins:List (Addr×Obj)) (s:Shared) (σ:St) (H:Hp) (D:Cz),AL X pins σ H s->t D σ H->wpAny (model X.prog X.w) X.A (execs st X.env) (SP X pins D) X.xe s
theorem AZ{α:Type}{t:Sem α}{Q Q':α->Shared->Prop}{M:Model}{A:Around}{E:Value->Shared->Prop}{s:Shared}(h:wpAny M A t Q E s)(hQ:∀a s,Q a s->Q' a s):wpAny M A t Q' E s:=wpAny_mono h hQ λ_ _ x=>x
section
variable {X:Cx}
inductive R0(i:Nat)(σ:St)(H:Hp)(Q:VK):Prop
 | mk (v:V) (e:σ[i]?=some (some v)) (q:Q v H):R0 i σ H Q
def Al(i:Nat):TE:=λσ H Q=>R0 i σ H Q
inductive Nd(x:V)(H:Hp)(Q:Bool->Hp->Prop):Prop
 | mk (c:Bool) (e:x=.bl c) (q:Q c H):Nd x H Q
def tC(v:V):TE:=λ_ H Q=>Q v H
theorem XY{i:Nat}{x:Str}{pos:Pos}(hN:X.N[i]?=some x)(hv:Nh X.env.scope x)(hd:(x == ("__debug__":Str))=false:=by decide)(hcd:(x == ("__classdict__":Str))=false:=by decide):PE X (.Name x pos) (Al i):=by
 intro pins s σ H Q I h;obtain⟨v,e,h⟩:=h;obtain⟨m,hn,hl⟩:=I.Cr;obtain⟨u,r,l⟩:=hl i x v hN e hv;have fin:EP X pins σ Q u s:=⟨v,H,I,r,h⟩;rcases l with ⟨hk,hm⟩ | ⟨hk,c,hc,hcell⟩
 ·exact wpAny_Name (wpAny_loadName_local I.ok.kind hk hn hm fin) hd
 ·rcases hk with hk | hk
  ·exact wpAny_Name (wpAny_loadName_cell I.ok.kind hk hc hcell fin) hd
  ·exact wpAny_Name (wpAny_loadName_free I.ok.kind hk hc hcell fin hcd) hd
theorem AF{i j pos}:PE X (.Constant (.int i) j pos) (tC (.int i)):=λ_ _ _ H _ I h=>wpAny_Constant_int ⟨.int i,H,I.Dc _,⟨_,rfl⟩,h⟩
theorem CI{b j pos}:PE X (.Constant (.bool b) j pos) (tC (.bl b)):=λ_ _ _ H _ I h=>Constant_bool ⟨.bl b,H,I,rfl,h⟩
theorem Ka{j pos}:PE X (.Constant .none j pos) (tC .An):=λ_ _ _ H _ I h=>Constant_none ⟨.An,H,I,rfl,h⟩
theorem Bo{x j pos}:PE X (.Constant (.str x) j pos) (tC (.str x)):=λ_ _ _ H _ I h=>Calls.Constant_str ⟨.str x,H,I.Dc _,⟨_,rfl⟩,h⟩
def Gl(X:Cx)(x:Str):Prop:=X.env.kindOf x=some .globalImplicit
theorem Hk {E:Value->Shared->Prop} {pins:List (Addr×Obj)} {s:Shared} {σ:St} {H:Hp} {x:Str} {u:Value} {pos:Pos} {Q:Value->Shared->Prop} (I:AL X pins σ H s) (hg:Gl X x) (hm:X.mg x=some u) (h:Q u s)
  (hd:(x == ("__debug__":Str))=false:=by decide):wpAny (model X.prog X.w) X.A (eval (.Name x pos) X.env) Q E s :=
 Calls.Name_function_global I.ok.kind hg (Calls.loadGlobal_global (by rw[I.ok.FH]; exact I.BP.FH.keeps I.bk) hm h) hd
theorem HB {E:Value->Shared->Prop} {pins:List (Addr×Obj)} {s:Shared} {σ:St} {H:Hp} {x:Str} {u:Value} {pos:Pos} {Q:Value->Shared->Prop} (I:AL X pins σ H s) (hg:Gl X x) (hm:X.mg x=none) (hv:bootBuiltins x=some u) (h:Q u s)
  (hn:x≠"__name__":=by decide) (hd:(x == ("__debug__":Str))=false:=by decide):wpAny (model X.prog X.w) X.A (eval (.Name x pos) X.env) Q E s:=by
 obtain⟨mb,h1,h2⟩:=I.BP.HZ;exact Calls.Name_function_global I.ok.kind hg (Calls.loadGlobal_builtin (by rw[I.ok.FH]; exact I.BP.FH.keeps I.bk) hm (by rw[I.ok.HZ]; exact h1.keeps I.bk) ((h2 x hn).trans hv) h) hd
theorem L4{x:Str}{v:V}{u:Value}{pos:Pos}(hg:Gl X x)(hm:X.mg x=some u)(r:Au v u)(hd:(x == ("__debug__":Str))=false:=by decide):PE X (.Name x pos) (tC v) :=
 λ_ _ _ H _ I h=>Hk I hg hm ⟨v,H,I,r,h⟩ hd
theorem WH{x:Str}{v:V}{u:Value}{pos:Pos}(hg:Gl X x)(hm:X.mg x=none)(hv:bootBuiltins x=some u)(r:Au v u)(hn:x≠"__name__":=by decide)(hd:(x == ("__debug__":Str))=false:=by decide):PE X (.Name x pos) (tC v) :=
 λ_ _ _ H _ I h=>HB I hg hm hv ⟨v,H,I,r,h⟩ hn hd
variable {a b:Expr} {ta tb:TE} {pos:Pos}
def PC(X:Cx)(op:CmpOp)(a b:Expr)(t:TE):Prop :=
 ∀(pins:List (Addr×Obj)) (s:Shared) (σ:St) (H:Hp) (Q:VK),AL X pins σ H s->t σ H Q →
  wpAny (model X.prog X.w) X.A (eval a X.env) (λv s₁=>wpAny (model X.prog X.w) X.A (eval b X.env) (λu s₂=>wpAny (model X.prog X.w) X.A (compareOp op v u) (EP X pins σ Q) X.xe s₂) X.xe s₁) X.xe s
theorem nobehind(b:Expr){op:CmpOp}(h:op≠.In)(h2:op≠.NotIn):behindInMarks op b=false:=by
 have e1:(op == CmpOp.In)=false:=by cases op <;> first | rfl | exact absurd rfl h
 have e2:(op == CmpOp.NotIn)=false:=by cases op <;> first | rfl | exact absurd rfl h2
 cases b <;> simp[behindInMarks,e1,e2]
def Zt(ta:TE):TE:=λσ H Q=>ta σ H λx H1=>Q (.bl (decide (x=.An))) H1
def Ql(ta:TE):TE:=λσ H Q=>ta σ H λx H1=>Q (.bl (!decide (x=.An))) H1
theorem Au.PN{x:V}{v:Value}(r:Au x v):(v == Value.none)=decide (x=.An):=by
 cases x with
 | An=>cases r; rfl
 | bl _=>cases r; rfl
 | int _=>obtain⟨t,rfl⟩:=r; rfl
 | str _=>obtain⟨t,rfl⟩:=r; rfl
 | EE _=>obtain⟨t,rfl⟩:=r; rfl
 | JX _=>obtain⟨t,rfl⟩:=r; rfl
 | ref _=>cases r; rfl
 | ty _=>cases r; rfl
theorem MI{j pos'}(ha:PE X a ta):PC X .Is a (.Constant .none j pos') (Zt ta):=by
 intro pins s σ H Q I h;refine AZ (ha pins s σ H _ I h) λv s1 ⟨x,H1,I1,r1,q1⟩=>?_
 exact Constant_none (is_none_gen ⟨.bl _,H1,I1,by rw[r1.PN]; rfl,q1⟩)
theorem Lu{j pos'}(ha:PE X a ta):PC X .IsNot a (.Constant .none j pos') (Ql ta):=by
 intro pins s σ H Q I h;refine AZ (ha pins s σ H _ I h) λv s1 ⟨x,H1,I1,r1,q1⟩=>?_
 exact Constant_none (isnot_none_gen ⟨.bl _,H1,I1,by rw[r1.PN]; rfl,q1⟩)
def tB(t:TE):TT:=λσ H Q=>t σ H λx H1=>Nd x H1 Q
theorem Xm{op:CmpOp}{t:TE}(h:PC X op a b t)(h1:behindInMarks op b=false:=by first | exact nobehind _ (by decide) (by decide) | rfl):PE X (.Compare a [op] [b] pos) t:=λpins s σ H Q I hw=>wpAny_Compare1 (h pins s σ H Q I hw) h1
theorem Ht{op:CmpOp}{t:TE}(h:PC X op a b t)(h1:behindInMarks op b=false:=by first | exact nobehind _ (by decide) (by decide) | rfl):PT X (.Compare a [op] [b] pos) (tB t):=by
 intro pins s σ H Q I hw;refine wpAny_isTrue_Compare1 (AZ (h pins s σ H _ I hw) λv s1 h1=>AZ h1 λu s2 h2=>AZ h2 λc s3 ⟨x,H1,I1,r1,q1⟩=>?_) h1;obtain⟨d,rfl,q⟩:=q1;cases r1;exact wpAny_truthy_bool ⟨H1,I1,q⟩
theorem D4{e:Expr}{t:TE}(h:PE X e t)(he:∀whole,isTrue e X.env whole=(do let v <-whole; standAt e.pos; holding [v] (truthy v)):=by intro _; rfl):PT X e (tB t):=by
 intro pins s σ H Q I hw;refine isTrue_plain (AZ (h pins s σ H _ I hw) λv s1 ⟨x,H1,I1,r1,q1⟩=>?_) (he _);obtain⟨d,rfl,q⟩:=q1;cases r1;exact wpAny_truthy_bool ⟨H1,I1,q⟩
variable {tA tB':TT} {rest:List Expr}
def Z6(t u:TT):TT:=λσ H Q=>t σ H λc H1=>if c=true then u σ H1 Q else Q false H1
def aP(t u:TT):TT:=λσ H Q=>t σ H λc H1=>if c=true then Q true H1 else u σ H1 Q
def Z3(t:TT):TT:=λσ H Q=>t σ H λc H1=>Q (!c) H1
theorem EK(ha:PT X a tA):PW X (.BoolOp .And [a] pos) tA:=by
 intro wh pins s σ H Q I h;refine isTrue_and (AZ (ha pins s σ H Q I h) λc s1 e=>?_);cases c with
 | true=>exact isTrue_and_nil e
 | false=>exact e
theorem GW(ha:PT X a tA):PW X (.BoolOp .Or [a] pos) tA:=by
 intro wh pins s σ H Q I h;refine isTrue_or (AZ (ha pins s σ H Q I h) λc s1 e=>?_);cases c with
 | false=>exact isTrue_or_nil e
 | true=>exact e
theorem DE(ha:PT X a tA)(hb:PW X (.BoolOp .And (b :: rest) pos) tB'):PW X (.BoolOp .And (a :: b :: rest) pos) (Z6 tA tB'):=by
 intro wh pins s σ H Q I h;refine isTrue_and (AZ (ha pins s σ H _ I h) λc s1 ⟨H1,I1,q1⟩=>?_);cases c with
 | true=>exact hb wh pins s1 σ H1 Q I1 q1
 | false=>exact⟨H1,I1,q1⟩
theorem D8(ha:PT X a tA)(hb:PW X (.BoolOp .Or (b :: rest) pos) tB'):PW X (.BoolOp .Or (a :: b :: rest) pos) (aP tA tB'):=by
 intro wh pins s σ H Q I h;refine isTrue_or (AZ (ha pins s σ H _ I h) λc s1 ⟨H1,I1,q1⟩=>?_);cases c with
 | true=>exact⟨H1,I1,q1⟩
 | false=>exact hb wh pins s1 σ H1 Q I1 q1
theorem GV(ha:PT X a tA):PT X (.UnaryOp .Not a pos) (Z3 tA):=by
 intro pins s σ H Q I h;exact isTrue_not (ha pins s σ H (λc H1=>Q (!c) H1) I h)
def Mb(ta tb:TE):TE:=λσ H Q=>ta σ H λx H1=>∃c,x=.bl c/\if c=true then tb σ H1 Q else Q (.bl false) H1
def RT(ta tb:TE):TE:=λσ H Q=>ta σ H λx H1=>∃c,x=.bl c/\if c=true then Q (.bl true) H1 else tb σ H1 Q
def Mn(ta:TE):TE:=λσ H Q=>ta σ H λx H1=>∃c,x=.bl c/\Q (.bl (!c)) H1
theorem Dg{op}{t:TE}(h:PE X a t):PE X (.BoolOp op [a] pos) t:=λpins s σ H Q I hw=>BoolOp_one (h pins s σ H Q I hw)
theorem E8(ha:PE X a ta)(hb:PE X (.BoolOp .And (b :: rest) pos) tb):PE X (.BoolOp .And (a :: b :: rest) pos) (Mb ta tb):=by
 intro pins s σ H Q I h;refine BoolOp_and (AZ (ha pins s σ H _ I h) λv s1 ⟨x,H1,I1,r1,q1⟩=>?_);obtain⟨c,rfl,q1⟩:=q1;cases r1;refine wpAny_truthy_bool ?_;cases c with
 | true=>exact hb pins s1 σ H1 Q I1 q1
 | false=>exact⟨.bl false,H1,I1,rfl,q1⟩
theorem GY(ha:PE X a ta)(hb:PE X (.BoolOp .Or (b :: rest) pos) tb):PE X (.BoolOp .Or (a :: b :: rest) pos) (RT ta tb):=by
 intro pins s σ H Q I h;refine BoolOp_or (AZ (ha pins s σ H _ I h) λv s1 ⟨x,H1,I1,r1,q1⟩=>?_);obtain⟨c,rfl,q1⟩:=q1;cases r1;refine wpAny_truthy_bool ?_;cases c with
 | false=>exact hb pins s1 σ H1 Q I1 q1
 | true=>exact⟨.bl true,H1,I1,rfl,q1⟩
theorem QG(ha:PE X a ta):PE X (.UnaryOp .Not a pos) (Mn ta):=by
 intro pins s σ H Q I h;refine UnaryOp_ (AZ (ha pins s σ H _ I h) λv s1 ⟨x,H1,I1,r1,q1⟩=>?_);obtain⟨c,rfl,q1⟩:=q1;cases r1;exact not_of (wpAny_truthy_bool ⟨.bl (!c),H1,I1,rfl,q1⟩)
def aS(t:TT)(ta tb:TE):TE:=λσ H Q=>t σ H λc H1=>if c=true then ta σ H1 Q else tb σ H1 Q
theorem Vd{c:Expr}(hc:PT X c tA)(ha:PE X a ta)(hb:PE X b tb):PE X (.IfExp c a b pos) (aS tA ta tb):=by
 intro pins s σ H Q I h;refine wpAny_IfExp (AZ (hc pins s σ H _ I h) λd s1 ⟨H1,I1,q1⟩=>?_);cases d with
 | true=>exact ha pins s1 σ H1 Q I1 q1
 | false=>exact hb pins s1 σ H1 Q I1 q1
end
def AR(K:PySem.W.Frag)(H:Hp)(a:Addr)(xs:List V):Prop :=
 Rd H a (.AN xs) \/
  ∃(o:Obj) (its:Array Value) (n:Nat),K.lookup a=some o/\o.cls=.type "list"/\o.dict=none/\o.data=.seq its n/\its.size<=sizeLine/\Af xs its.toList
def AK(K:PySem.W.Frag)(H:Hp)(a:Addr)(xs:List V):Prop :=
 Rd H a (.AG xs) \/
  ∃(o:Obj) (its:Array Value) (n:Nat),K.lookup a=some o/\o.cls=.type "tuple"/\o.data=.seq its n/\its.size<=sizeLine/\Af xs its.toList
def ZR:Value->Option V
 | .none=>some .An
 | .bool b=>some (.bl b)
 | .int i _=>some (.int i)
 | .str x _=>some (.str x)
 | .bytes b _=>some (.EE b)
 | .float b _=>some (.JX b)
 | .ref a=>some (.ref a)
 | .type n=>some (.ty n)
 | _=>none
theorem Au.SF{x:V}{u:Value}(r:Au x u):ZR u=some x:=by
 cases x with
 | An=>cases r; rfl
 | bl _=>cases r; rfl
 | int _=>obtain⟨t,rfl⟩:=r; rfl
 | str _=>obtain⟨t,rfl⟩:=r; rfl
 | EE _=>obtain⟨t,rfl⟩:=r; rfl
 | JX _=>obtain⟨t,rfl⟩:=r; rfl
 | ref _=>cases r; rfl
 | ty _=>cases r; rfl
theorem Au.inj{x y:V}{u:Value}(r:Au x u)(q:Au y u):x=y:=Option.some.inj (r.SF.symm.trans q.SF)
theorem Af.inj:∀{xs ys:List V} {us:List Value},Af xs us->Af ys us->xs=ys
 | _,_,_,.nil,.nil=>rfl
 | _,_,_,.cons r t,.cons r' t'=>by rw[r.inj r',Af.inj t t']
section
variable {X:Cx} {pins:List (Addr×Obj)} {σ:St} {H:Hp} {s:Shared} {a:Addr} {xs ys:List V}
theorem AR.of{K:PySem.W.Frag}(h:H a=some (.AN xs)):AR K H a xs:=.inl (.inl h)
theorem AK.of{K:PySem.W.Frag}(h:H a=some (.AG xs)):AK K H a xs:=.inl (.inl h)
theorem AL.list(I:AL X pins σ H s)(h:AR X.K H a xs):∃its:List Value,Af xs its/\PlainL s.heap a its.toArray/\xs.length<=sizeLine:=by
 rcases h with h | ⟨o,its,n,hk,hc,hd,hs,hz,r⟩
 ·obtain⟨z,its,n,r,e⟩:=h.ok I.hok;exact⟨its,r,⟨_,n,e,rfl,rfl,rfl⟩,z⟩
 ·refine⟨its.toList,r,⟨o,n,I.Be a o hk,hc,hd,by simpa using hs⟩,?_⟩;have e:=r.length;simp only[Array.length_toList] at e;omega
theorem AL.tuple(I:AL X pins σ H s)(h:AK X.K H a xs):∃its:List Value,Af xs its/\IsTup s.heap a its.toArray/\xs.length<=sizeLine:=by
 rcases h with h | ⟨o,its,n,hk,hc,hs,hz,r⟩
 ·obtain⟨z,its,r,p,_⟩:=h.ok I.hok;exact⟨its,r,p,z⟩
 ·refine⟨its.toList,r,⟨o,I.Be a o hk,hc,n,by simpa using hs⟩,?_⟩;have e:=r.length;simp only[Array.length_toList] at e;omega
theorem AL.list_inj(I:AL X pins σ H s)(h:AR X.K H a xs)(h':AR X.K H a ys):xs=ys:=by
 obtain⟨its,r,⟨o,n,e,_,_,d⟩,_⟩:=I.list h;obtain⟨its',r',⟨o',n',e',_,_,d'⟩,_⟩:=I.list h';rw[e] at e'; cases e';rw[d] at d';injection d' with d1 _
 have:its=its':=by simpa using congrArg Array.toList d1
 subst this;exact r.inj r'
theorem AL.UP(I:AL X pins σ H s)(h:AK X.K H a xs)(h':AK X.K H a ys):xs=ys:=by
 obtain⟨its,r,⟨o,e,_,n,d⟩,_⟩:=I.tuple h;obtain⟨its',r',⟨o',e',_,n',d'⟩,_⟩:=I.tuple h';rw[e] at e'; cases e';rw[d] at d';injection d' with d1 _
 have:its=its':=by simpa using congrArg Array.toList d1
 subst this;exact r.inj r'
end
abbrev Cx.Cf(X:Cx)(E:Value->Shared->Prop):Cx:={ X with xe:=E }
abbrev Cx.EC(X:Cx):Cx:=X.Cf λ_ _=>False
theorem Cx.Ok.Cf{X:Cx}(ok:X.Ok)(E:Value->Shared->Prop):(X.Cf E).Ok :=
 ⟨ok.BP,ok.kind,ok.FH,ok.HZ,ok.above,ok.inj,ok.has,ok.IK,ok.hd,ok.frames,ok.JR,ok.Na,ok.bs,ok.Ew,ok.Hz,ok.ID,ok.DH,ok.Es⟩
theorem Cx.Ok.B8{X:Cx}{E:Value->Shared->Prop}(ok:(X.Cf E).Ok):X.Ok :=
 ⟨ok.BP,ok.kind,ok.FH,ok.HZ,ok.above,ok.inj,ok.has,ok.IK,ok.hd,ok.frames,ok.JR,ok.Na,ok.bs,ok.Ew,ok.Hz,ok.ID,ok.DH,ok.Es⟩
section
variable {X:Cx} {pins:List (Addr×Obj)} {σ:St} {H:Hp} {s:Shared} {E:Value->Shared->Prop}
theorem AL.Cf(I:AL X pins σ H s)(E:Value->Shared->Prop):AL (X.Cf E) pins σ H s:=⟨I.ok.Cf E,I.os,I.bare,I.base,I.Cr,I.cell,I.free,I.Dj,I.Co,I.hok,I.len⟩
theorem AL.B8(I:AL (X.Cf E) pins σ H s):AL X pins σ H s:=⟨I.ok.B8,I.os,I.bare,I.base,I.Cr,I.cell,I.free,I.Dj,I.Co,I.hok,I.len⟩
theorem SP.B8{D:Cz}{f:Flow}{s':Shared}(h:SP (X.Cf E) pins D f s'):SP X pins D f s':=by
 cases f with
 | next=>obtain⟨σ',H',I,q⟩:=h; exact⟨σ',H',I.B8,q⟩
 | brk=>obtain⟨σ',H',I,q⟩:=h; exact⟨σ',H',I.B8,q⟩
 | cont=>obtain⟨σ',H',I,q⟩:=h; exact⟨σ',H',I.B8,q⟩
 | ret u=>obtain⟨v,σ',H',I,r,q⟩:=h; exact⟨v,σ',H',I.B8,r,q⟩
theorem PE.EC{e:Expr}{t:TE}(h:PE X.EC e t):PE X e t:=λpins s σ H Q I hw =>
 wpAny_mono (h pins s σ H Q (I.Cf _) hw) (λ_ _ ⟨v,H',I',r,q⟩=>⟨v,H',I'.B8,r,q⟩) λ_ _ z=>False.elim z
theorem PT.EC{e:Expr}{t:TT}(h:PT X.EC e t):PT X e t:=λpins s σ H Q I hw =>
 wpAny_mono (h pins s σ H Q (I.Cf _) hw) (λ_ _ ⟨H',I',q⟩=>⟨H',I'.B8,q⟩) λ_ _ z=>False.elim z
theorem DP.EC{st:List Stmt}{t:TS}(h:DP X.EC st t):DP X st t:=λpins s σ H D I hw =>
 wpAny_mono (h pins s σ H D (I.Cf _) hw) (λ_ _ q=>q.B8) λ_ _ z=>False.elim z
end
section
variable {X:Cx} {st:Stmt} {rest:List Stmt} {t u:TS} {e:Expr} {te:TE} {pos:Pos}
def RC:TS:=λD σ H=>D.nx σ H
def NG(t u:TS):TS:=λD σ H=>t { D with nx:=u D } σ H
theorem A2:DP X [] RC:=λ_ _ σ H _ I h=>wpAny_execs_nil ⟨σ,H,I,h⟩
theorem AS(h1:PS X st t)(h2:DP X rest u):DP X (st :: rest) (NG t u):=by
 intro pins s σ H D I h;refine wpAny_execs_cons (AZ (h1 pins s σ H { D with nx:=u D } I h) λf s1 q=>?_);cases f with
 | next =>
  obtain⟨σ',H',I',q⟩:=q;exact h2 pins s1 σ' H' D I' q
 | ret v=>exact q
 | brk=>exact q
 | cont=>exact q
theorem AU(h1:PS X st t):DP X [st] t:=by
 intro pins s σ H D I h;refine wpAny_execs_cons (AZ (h1 pins s σ H D I h) λf s1 q=>?_);cases f with
 | next=>exact wpAny_execs_nil q
 | ret v=>exact q
 | brk=>exact q
 | cont=>exact q
theorem AL.quiet{pins:List (Addr×Obj)}{σ:St}{H:Hp}{s:Shared}(I:AL X pins σ H s):interactive X.env=false:=by simp[interactive,I.ok.kind]
def ZD(te:TE):TS:=λD σ H=>te σ H λ_ H1=>D.nx σ H1
theorem GO(he:PE X e te)(hs:swapsWith e none pos.line X.env=pure false:=by rfl):PS X (.Expr e pos) (ZD te):=by
 intro pins s σ H D I h;exact wpAny_Expr_any (AZ (he pins s σ H _ I h) λv s1 ⟨x,H1,I1,r1,q1⟩=>⟨σ,H1,I1,q1⟩) I.quiet hs
def HQ(te:TE):TS:=λD σ H=>te σ H D.rt
theorem Ab(he:PE X e te):PS X (.Return (some e) pos) (HQ te):=by
 intro pins s σ H D I h;exact wpAny_Return_some (AZ (he pins s σ H _ I h) λv s1 ⟨x,H1,I1,r1,q1⟩=>⟨x,σ,H1,I1,r1,q1⟩)
def Za(c:TT)(t u:TS):TS:=λD σ H=>c σ H λb H1=>if b=true then t D σ H1 else u D σ H1
theorem A0{c:Expr}{a b:List Stmt}{tc:TT}(hc:PT X c tc)(ha:DP X a t)(hb:DP X b u):PS X (.If c a b pos) (Za tc t u):=by
 intro pins s σ H D I h;refine wpAny_If (AZ (hc pins s σ H _ I h) λd s1 ⟨H1,I1,q1⟩=>?_);cases d with
 | true=>exact ha pins s1 σ H1 D I1 q1
 | false=>exact hb pins s1 σ H1 D I1 q1
def Xq:TS:=λ_ _ _=>False
theorem Oi:PS X st Xq:=λ_ _ _ _ _ _ h=>h.elim
end
abbrev TG:=V->St->Hp->(St->Hp->Prop)->Prop
abbrev FR:=List V->St->Hp->(St->Hp->Prop)->Prop
def PG(X:Cx)(target:Expr)(t:TG):Prop :=
 ∀(pins:List (Addr×Obj)) (s:Shared) (σ:St) (H:Hp) (v:V) (u:Value) (Q:St->Hp->Prop),AL X pins σ H s->Au v u->t v σ H Q →
  wpAny (model X.prog X.w) X.A (assign target X.env u) (λ_ s'=>∃σ' H',AL X pins σ' H' s'/\Q σ' H') X.xe s
def Jd(X:Cx)(ts:List Expr)(t:FR):Prop :=
 ∀(pins:List (Addr×Obj)) (s:Shared) (σ:St) (H:Hp) (vs:List V) (us:List Value) (Q:St->Hp->Prop),AL X pins σ H s->Af vs us->t vs σ H Q →
  wpAny (model X.prog X.w) X.A (assignInOrder ((assignEach ts X.env).map (·.2)) us) (λ_ s'=>∃σ' H',AL X pins σ' H' s'/\Q σ' H') X.xe s
abbrev NB:=V->V->V->Hp->(Hp->Prop)->Prop
def Rp(X:Cx)(t:NB):Prop :=
 ∀(pins:List (Addr×Obj)) (s:Shared) (σ:St) (H:Hp) (o i v:V) (ov iv u:Value) (Q:Hp->Prop),AL X pins σ H s->Au o ov->Au i iv->Au v u->t o i v H Q →
  wpAny (model X.prog X.w) X.A (setItem ov iv u) (λ_ s'=>∃H',AL X pins σ H' s'/\Q H') X.xe s
section
variable {X:Cx} {pos:Pos}
def B9(i:Nat):TG:=λv σ H Q=>Q (σ.set i (some v)) H
theorem Az{i:Nat}{x:Str}(hN:X.N.Nodup)(hi:X.N[i]?=some x)(hx:Hb X.env.scope x)(hf:X.fn x=true\/X.env.scope.names.lookup x=some .local:=by first | exact .inl rfl | exact .inr rfl | assumption):PG X (.Name x pos) (B9 i):=by
 intro pins s σ H v u Q I r h;exact wpAny_assign_Name (Lo I hN hi hx r (λs' I'=>⟨_,H,I',h⟩) hf)
inductive Q6(vs:List V)(σ:St)(H:Hp)(Q:St->Hp->Prop):Prop
 | mk (e:vs=[]) (q:Q σ H):Q6 vs σ H Q
def Rm:FR:=λvs σ H Q=>Q6 vs σ H Q
inductive QK(t:TG)(u:FR)(vs:List V)(σ:St)(H:Hp)(Q:St->Hp->Prop):Prop
 | mk (v:V) (r:List V) (e:vs=v :: r) (q:t v σ H λσ' H'=>u r σ' H' Q):QK t u vs σ H Q
def Me(t:TG)(u:FR):FR:=λvs σ H Q=>QK t u vs σ H Q
theorem D0:Jd X [] Rm:=by
 intro pins s σ H vs us Q I r h;obtain⟨e,h⟩:=h;subst e;cases r;exact assignInOrder_nil ⟨σ,H,I,h⟩
theorem BQ {e:Expr} {es:List Expr} {t:TG} {u:FR} (h1:PG X e t) (h2:Jd X es u)
  (hs:(assignEach (e :: es) X.env).map (·.2)=assign e X.env :: (assignEach es X.env).map (·.2):=by rfl):Jd X (e :: es) (Me t u):=by
 intro pins s σ H vs us Q I r h;obtain⟨v,vr,e1,h⟩:=h;subst e1;cases r with
 | cons r rr =>
  rw[hs];refine assignInOrder_cons (AZ (h1 pins s σ H _ _ _ I r h) λ_ s1 ⟨σ1,H1,I1,q1⟩=>?_);exact h2 pins s1 σ1 H1 _ _ Q I1 rr q1
inductive Qo(K:PySem.W.Frag)(n:Nat)(t:FR)(v:V)(σ:St)(H:Hp)(Q:St->Hp->Prop):Prop
 | mk (a:Addr) (xs:List V) (e:v=.ref a) (s:AK K H a xs) (l:xs.length=n) (q:t xs σ H Q):Qo K n t v σ H Q
def M4(K:PySem.W.Frag)(n:Nat)(t:FR):TG:=λv σ H Q=>Qo K n t v σ H Q
theorem YU {es:List Expr} {k:Nat} {t:FR} {n:Nat} (hc:X.By=true) (h:Jd X es t)
  (hn:(assignEach es X.env).length=n:=by rfl) (hst:(assignEach es X.env).findIdx? (·.1)=none:=by rfl):PG X (.Tuple es k pos) (M4 X.K n t):=by
 intro pins s σ H v u Q I r hw;obtain⟨a,xs,e1,hq,hl,hw⟩:=hw;subst e1;cases r;obtain⟨its,rv,ht,hz⟩:=I.tuple hq;refine assign_Tuple_tuple (I.ok.hd hc) ht (by simp[hn,<-hl,rv.length]) hst λh' hx=>?_
 have I1:AL X pins σ H { s with heap:=h' }:=I.CK (t':=s.toks) λb o e=>hx b o (Nat.ne_of_lt (Heap.lt_size e)) e
 exact h pins _ σ H xs _ Q I1 (by simpa using rv) hw
def Zb(to ti:TE)(t:NB):TG:=λv σ H Q=>to σ H λo H1=>ti σ H1 λi H2=>t o i v H2 λH3=>Q σ H3
theorem Iy {o i:Expr} {to ti:TE} {t:NB} (ho:PE X o to) (hi:PE X i ti) (hs:Rp X t)
  (ha:∀v,assign (.Subscript o i pos) X.env v=(do
   let ov <-holding [v] (eval o X.env)
   let iv <-holding [v,ov] (eval i X.env)
   standAt pos
   holding [v,ov,iv] (setItem ov iv v)
   release [v,ov,iv] []):=by intro _; rfl):PG X (.Subscript o i pos) (Zb to ti t):=by
 intro pins s σ H v u Q I r h;rw[ha];refine wpAny_bind (wpAny_holding (AZ (ho pins s σ H _ I h) λov s1 ⟨x,H1,I1,r1,q1⟩=>?_));refine wpAny_bind (wpAny_holding (AZ (hi pins s1 σ H1 _ I1 q1) λiv s2 ⟨y,H2,I2,r2,q2⟩=>?_));refine wpAny_bind (wpAny_standAt (wpAny_bind (wpAny_holding (AZ (hs pins s2 σ H2 x y v ov iv u _ I2 r1 r2 r q2) λ_ s3 ⟨H3,I3,q3⟩=>?_))));exact wpAny_release ⟨σ,H3,I3,q3⟩
def IG(te:TE)(g:TG):TS:=λD σ H=>te σ H λx H1=>g x σ H1 D.nx
theorem E7 {tg e:Expr} {te:TE} {g:TG} (he:PE X e te) (hg:PG X tg g) (hs:swapsWithSole [tg] e pos.line X.env=pure false:=by rfl) (hw:swappedStores [tg] e X.env=pure none:=by rfl)
  (h1:(assignEach [tg] X.env).map (·.2)=[assign tg X.env]:=by rfl):PS X (.Assign [tg] e pos) (IG te g):=by
 intro pins s σ H D I h;refine wpAny_Assign_stores (AZ (he pins s σ H _ I h) λv s1 ⟨x,H1,I1,r1,q1⟩=>?_) hs hw;rw[h1];exact AZ (hg pins s1 σ H1 x v _ I1 r1 q1) λ_ s2 q=>q
theorem Ad{i:Nat}{x:Str}{e:Expr}{te:TE}{pos':Pos}(hN:X.N.Nodup)(hi:X.N[i]?=some x)(hx:Hb X.env.scope x)(he:PE X e te)(hs:swapsWith e (some (.Name x pos')) pos.line X.env=pure false:=by rfl)(hf:X.fn x=true\/X.env.scope.names.lookup x=some .local:=by first | exact .inl rfl | exact .inr rfl | assumption):
  PS X (.Assign [.Name x pos'] e pos) (IG te (B9 i)):=by
 intro pins s σ H D I h;refine wpAny_Assign_Name (AZ (he pins s σ H _ I h) λv s1 ⟨y,H1,I1,r1,q1⟩=>?_) hs;exact Lo I1 hN hi hx r1 (λs2 I2=>⟨_,H1,I2,q1⟩) hf
end
section
variable {X:Cx} {pos:Pos}
def Qf(c:TT)(tb:TS):TS:=λD σ H=>∃W:Nat->St->Hp->Prop,(∃m,W m σ H)/\∀m σ H,W m σ H →
 c σ H λb H1=>if b=true then ∃N:St->Hp->Prop,(∀σ' H',N σ' H'->∃m',m' < m/\W m' σ' H')/\tb { D with nx:=N,ct:=N,bk:=D.nx } σ H1 else D.nx σ H1
theorem Od{c:Expr}{body:List Stmt}{tc:TT}{tb:TS}(hp:PassesOwn (model X.prog X.w) X.A X.env X.xe)(hc:PT X c tc)(hb:DP X body tb):PS X (.While c body [] pos) (Qf tc tb):=by
 intro pins s σ H D I h;obtain⟨W,⟨m0,w0⟩,turn⟩:=h;refine wpAny_While (codeAny_whileLoop (λn s'=>∃σ' H',AL X pins σ' H' s'/\W n σ' H') ?_ m0 ⟨σ,H,I,w0⟩);rintro n s1 ⟨σ1,H1,I1,w1⟩;refine wpAny_passesOwn hp (AZ (hc pins s1 σ1 H1 _ I1 (turn n σ1 H1 w1)) λb s2 ⟨H2,I2,q2⟩=>?_);cases b with
 | true =>
  obtain⟨N,hN,q2⟩:=q2;rw[if_pos rfl];refine wpAny_passesOwn hp (AZ (hb pins s2 σ1 H2 _ I2 q2) λf s3 q3=>?_);cases f with
  | next =>
   obtain⟨σ3,H3,I3,n3⟩:=q3;obtain⟨m',hm,w3⟩:=hN σ3 H3 n3;exact⟨m',hm,σ3,H3,I3,w3⟩
  | cont =>
   obtain⟨σ3,H3,I3,n3⟩:=q3;obtain⟨m',hm,w3⟩:=hN σ3 H3 n3;exact⟨m',hm,σ3,H3,I3,w3⟩
  | brk=>exact q3
  | ret v=>exact q3
 | false =>
  rw[if_neg Bool.false_ne_true];exact wpAny_execs_nil ⟨σ1,H2,I2,q2⟩
end
structure It where
 go:Nat->Hp->Prop
 EF:Nat->Hp->V->Hp->Prop
 stop:Nat->Hp->Prop
def Em(X:Cx)(pins:List (Addr×Obj))(H:Hp)(b:Addr):Prop :=
 H b=none/\b≠X.env.locals/\b∉X.fs/\(b∈X.ex\/X.s₀.heap.objs.size<=b)/\(∀x c,X.env.cells.lookup x=some c->c≠b)/\∀p∈X.pn++pins,p.1≠b
theorem AL.II{X:Cx}{pins:List (Addr×Obj)}{σ:St}{H H':Hp}{s:Shared}{b:Addr}(I:AL X pins σ H s)(hb:s.heap.objs.size<=b)(hn:H' b=none):Em X pins H' b:=by
 refine⟨hn,Nat.ne_of_gt (Nat.lt_of_lt_of_le I.lt hb),I.ZV hb,.inr (Nat.le_trans I.sz hb),λx c e z=>?_,λp hp z=>?_⟩
 ·obtain⟨v,q⟩:=I.cell x c e;exact absurd (Nat.lt_of_lt_of_le q.lt (by rw[z]; exact hb)) (Nat.lt_irrefl _)
 ·exact absurd (Nat.lt_of_lt_of_le (Heap.lt_size (I.Co p hp).1) (by rw[z]; exact hb)) (Nat.lt_irrefl _)
structure IC(P:Program)(w:World)(K:PySem.W.Frag)(tg:Expr)(J:It)(fp:List Addr)(it:Addr)(tn:Nat->Heap->Prop):Prop where
 mem:it∈fp
 obj:∀i h,tn i h->∀b∈fp,∃o,h.get? b=some o/\∀v,o.data≠.cell v
 keep:∀i h h',tn i h->(∀b∈fp,∀o,h.get? b=some o->h'.get? b=some o)->tn i h'
 item:∀(X:Cx),X.prog=P->X.w=w->X.K=K->X.By=true->∀(i:Nat) (pins:List (Addr×Obj)) (s:Shared) (σ:St) (H:Hp) (E:Value->Shared->Prop),AL X pins σ H s->(∀b∈fp,Em X pins H b)->tn i s.heap->J.go i H →
  wpAny (model P w) X.A (pyNext (.ref it)) (λr s1=>∃u,r=some u /\
   wpAny (model P w) X.A (letOwnedTupleGo tg (.ref it) u) (λ_ s2=>∃x H',AL X pins σ H' s2/\Au x u/\J.EF i H x H'/\tn (i+1) s2.heap/\∀b∈fp,H' b=none) E s1) E s
 done:∀(X:Cx),X.prog=P->X.w=w->X.K=K->X.By=true->∀(i:Nat) (pins:List (Addr×Obj)) (s:Shared) (σ:St) (H:Hp) (E:Value->Shared->Prop),AL X pins σ H s->(∀b∈fp,Em X pins H b)->tn i s.heap->J.stop i H →
  wpAny (model P w) X.A (pyNext (.ref it)) (λr s1=>r=none/\AL X pins σ H s1) E s
 self:∀(A:Around) (i:Nat) (s:Shared) (Q:Value->Shared->Prop) (E:Value->Shared->Prop),tn i s.heap->Q (.ref it) s->wpAny (model P w) A (pyIter (.ref it)) Q E s
abbrev TI:=St->Hp->(It->Hp->Prop)->Prop
def SN(X:Cx)(pins:List (Addr×Obj))(σ:St)(tg:Expr)(R:It->Hp->Prop)(itv:Value)(s2:Shared):Prop :=
 ∃(it:Addr) (fp:List Addr) (tn:Nat->Heap->Prop) (J:It) (H':Hp),itv=.ref it/\AL X pins σ H' s2/\IC X.prog X.w X.K tg J fp it tn/\tn 0 s2.heap/\(∀b∈fp,Em X pins H' b)/\R J H'
def PI(X:Cx)(tg iter:Expr)(wi:TI):Prop :=
 ∀(pins:List (Addr×Obj)) (s:Shared) (σ:St) (H:Hp) (R:It->Hp->Prop),AL X pins σ H s->wi σ H R →
  wpAny (model X.prog X.w) X.A (eval iter X.env) (λv s1=>wpAny (model X.prog X.w) X.A (pyIter v) (SN X pins σ tg R) X.xe s1) X.xe s
theorem Md {M : Model} {A : Around} {E : Value → Shared → Prop} {s : Shared} {tg : Expr} {it : Addr} {u : Value} {o : Obj} {n : String} {vs : Array Value} {Q : Unit → Shared → Prop} (ho : s.heap.get? it = some o) (hc : o.cls = .type n) (hd : o.data = .fields vs)
    (hn : ["enumerate", "zip", "dict_itemiterator", "dict_reverseitemiterator", "odict_iterator", "itertools.zip_longest", "itertools.pairwise"].contains n = false) (hQ : Q () s) : wpAny M A (letOwnedTupleGo tg (.ref it) u) Q E s := by
  unfold letOwnedTupleGo;cases tg <;> first
    | exact wpAny_pure hQ
    | (cases u <;> first
        | exact wpAny_pure hQ
        | (refine wpAny_bind (wpAny_load ho ?_)
           rw[hc, hd];show wpAny M A (if (["enumerate", "zip", "dict_itemiterator", "dict_reverseitemiterator", "odict_iterator", "itertools.zip_longest", "itertools.pairwise"].contains n && vs[0]? == some (rawInt _)) = true then _ else _) Q E s;rw[if_neg (by intro h; rw[hn, Bool.false_and] at h; cases h)];exact wpAny_pure hQ))
def GF(K:PySem.W.Frag)(a:Addr):It :=
 ⟨λi H=>∃xs x,AR K H a xs/\xs[i]?=some x,λi H x H'=>H'=H/\∀xs,AR K H a xs->xs[i]?=some x,λi H=>∃xs,AR K H a xs/\xs.length<=i⟩
def IQ(K:PySem.W.Frag)(a:Addr):It :=
 ⟨λi H=>∃xs x,AK K H a xs/\xs[i]?=some x,λi H x H'=>H'=H/\∀xs,AK K H a xs->xs[i]?=some x,λi H=>∃xs,AK K H a xs/\xs.length<=i⟩
def Gu(lo:Int)(n:Nat):It:=⟨λi _=>i<n,λi H x H'=>H'=H/\x=.int (lo+i),λi _=>n<=i⟩
theorem Uz{P:Program}{w:World}{K:PySem.W.Frag}{tg:Expr}(a it:Addr):IC P w K tg (GF K a) [it] it (λi h=>h.IsListIter it a i) where
 mem:=by simp
 obj:=λi h st b hb=>by
  have e:b=it:=by simpa using hb
  subst e;obtain⟨o,e,c,d⟩:=st;exact⟨o,e,λv z=>by rw[d] at z; cases z⟩
 keep:=λi h h' st k=>st.at λo e=>k it (by simp) o e
 item:=by
  intro X hP hw hK hc i pins s σ H E I hf st hg;subst hP hw hK;obtain⟨xs,x,hq,hx⟩:=hg;obtain⟨its,rv,p,hz⟩:=I.list hq;obtain⟨u,hu,ru⟩:=rv.get hx;obtain⟨f0,f1,f2,f3,f4,f5⟩:=hf it (by simp);refine wpAny_pyNext_list_item st p.isList (x:=u) (by simpa using hu) λh' st' sb=>?_
  have I1:AL X pins σ H { s with heap:=h' }:=I.E6 (t':=s.toks) (λb o hb e=>(sb.2 b hb).trans e) f0 f1 f3 f4 f5;obtain⟨o,e,c,d⟩:=id st';exact⟨u,rfl,Md (s:={ s with heap:=h' }) e c d (by decide) ⟨x,H,I1,ru,⟨rfl,λys hy=>by rw[I.list_inj hy hq]; exact hx⟩,st',λb hb=>(hf b hb).1⟩⟩
 done:=by
  intro X hP hw hK hc i pins s σ H E I hf st hg;subst hP hw hK;obtain⟨xs,hq,hx⟩:=hg;obtain⟨its,rv,p,hz⟩:=I.list hq;obtain⟨f0,f1,f2,f3,f4,f5⟩:=hf it (by simp);have hl:=rv.length;exact wpAny_pyNext_list_end (I.ok.hd hc) st p.isList (by simp; omega) λh' eb=>⟨rfl,I.E6 (t':=s.toks) (λb o hb e=>eb b o hb e) f0 f1 f3 f4 f5⟩
 self:=λ_ _ _ _ _ st h=>wpAny_pyIter_listiter st h
theorem Tu{P:Program}{w:World}{K:PySem.W.Frag}{tg:Expr}(a it:Addr):IC P w K tg (IQ K a) [it] it (λi h=>h.IsTupleIter it a i) where
 mem:=by simp
 obj:=λi h st b hb=>by
  have e:b=it:=by simpa using hb
  subst e;obtain⟨o,e,c,d⟩:=st;exact⟨o,e,λv z=>by rw[d] at z; cases z⟩
 keep:=λi h h' st k=>st.at λo e=>k it (by simp) o e
 item:=by
  intro X hP hw hK hc i pins s σ H E I hf st hg;subst hP hw hK;obtain⟨xs,x,hq,hx⟩:=hg;obtain⟨its,rv,p,hz⟩:=I.tuple hq;obtain⟨u,hu,ru⟩:=rv.get hx;obtain⟨f0,f1,f2,f3,f4,f5⟩:=hf it (by simp);refine wpAny_pyNext_tuple_item st (show s.heap.IsTuple a its.toArray from p) (x:=u) (by simpa using hu) λh' st' sb=>?_
  have I1:AL X pins σ H { s with heap:=h' }:=I.E6 (t':=s.toks) (λb o hb e=>(sb.2 b hb).trans e) f0 f1 f3 f4 f5;obtain⟨o,e,c,d⟩:=id st';exact⟨u,rfl,Md (s:={ s with heap:=h' }) e c d (by decide) ⟨x,H,I1,ru,⟨rfl,λys hy=>by rw[I.UP hy hq]; exact hx⟩,st',λb hb=>(hf b hb).1⟩⟩
 done:=by
  intro X hP hw hK hc i pins s σ H E I hf st hg;subst hP hw hK;obtain⟨xs,hq,hx⟩:=hg;obtain⟨its,rv,p,hz⟩:=I.tuple hq;obtain⟨f0,f1,f2,f3,f4,f5⟩:=hf it (by simp);have hl:=rv.length;exact wpAny_pyNext_tuple_end (I.ok.hd hc) st (show s.heap.IsTuple a its.toArray from p) (by simp; omega) λh' eb=>⟨rfl,I.E6 (t':=s.toks) (λb o hb e=>eb b o hb e) f0 f1 f3 f4 f5⟩
 self:=λ_ _ _ _ _ st h=>wpAny_pyIter_tupleiter st h
theorem TQ{P:Program}{w:World}{K:PySem.W.Frag}{tg:Expr}(it:Addr)(lo:Int)(n:Nat):IC P w K tg (Gu lo n) [it] it (λi h=>IsRangeIter h it (lo+(i:Nat)*1) ((n:Int)-(i:Nat)) 1) where
 mem:=by simp
 obj:=λi h st b hb=>by
  have e:b=it:=by simpa using hb
  subst e;exact⟨_,st,λv z=>by
   have z':Data.fields _=Data.cell v:=z;cases z'⟩
 keep:=λi h h' st k=>k it (by simp) _ st
 item:=by
  intro X hP hw hK hc i pins s σ H E I hf st hg;subst hP hw hK;obtain⟨f0,f1,f2,f3,f4,f5⟩:=hf it (by simp);have W:=Walks.range (prog:=X.prog) (w:=X.w) (I.ok.hd hc) it lo 1 n;refine W.item i s _ _ hg st λv h' tk hv st' kk=>?_
  obtain⟨t,rfl⟩:=hv;have I1:AL X pins σ H { s with heap:=h',toks:=tk }:=I.E6 (λb o hb e=>kk b o (by simpa using hb) e) f0 f1 f3 f4 f5;refine⟨_,rfl,Md (s:={ s with heap:=h',toks:=tk }) (n:="range_iterator") st' rfl rfl (by decide) ⟨.int (lo+i),H,I1,⟨t,?_⟩,⟨rfl,rfl⟩,st',λb hb=>(hf b hb).1⟩⟩;rw[Int.mul_one]
 done:=by
  intro X hP hw hK hc i pins s σ H E I hf st hg;subst hP hw hK;obtain⟨f0,f1,f2,f3,f4,f5⟩:=hf it (by simp);exact wpAny_pyNext_range_end (I.ok.hd hc) st (by have:n<=i:=hg; omega) λh' eb=>⟨rfl,I.E6 (t':=s.toks) (λb o hb e=>eb b o hb e) f0 f1 f3 f4 f5⟩
 self:=λ_ _ _ _ _ st h=>wpAny_pyIter_rangeiter st h
section
variable {X:Cx} {tg:Expr}
inductive QX(K:PySem.W.Frag)(x:V)(H:Hp)(R:It->Hp->Prop):Prop
 | mk (a:Addr) (e:x=.ref a) (s:∃xs,AR K H a xs) (q:R (GF K a) H):QX K x H R
inductive RO(K:PySem.W.Frag)(x:V)(H:Hp)(R:It->Hp->Prop):Prop
 | mk (a:Addr) (e:x=.ref a) (s:∃xs,AK K H a xs) (q:R (IQ K a) H):RO K x H R
def JG(K:PySem.W.Frag)(tl:TE):TI:=λσ H R=>tl σ H λx H1=>QX K x H1 R
def Rn(K:PySem.W.Frag)(tl:TE):TI:=λσ H R=>tl σ H λx H1=>RO K x H1 R
theorem Ip{l:Expr}{tl:TE}(hl:PE X l tl):PI X tg l (JG X.K tl):=by
 intro pins s σ H R I h;refine AZ (hl pins s σ H _ I h) λv s1 ⟨x,H1,I1,r1,q1⟩=>?_
 obtain⟨a,e,⟨xs,hq⟩,q⟩:=q1;subst e;cases r1;obtain⟨its,rv,p,hz⟩:=I1.list hq;refine wpAny_pyIter_list p.isList ?_;refine⟨s1.heap.objs.size,[s1.heap.objs.size],_,_,H1,rfl,I1.CK (t':=s1.toks) λb o e=>Heap.get?_push_of_some _ e,Uz a _,⟨_,Heap.get?_push_size _ rfl,rfl,rfl⟩,λb hb=>?_,q⟩;have e:b=s1.heap.objs.size:=by simpa using hb
 subst e;exact I1.II (Nat.le_refl _) (I1.hok.fresh (Nat.le_refl _))
theorem Iu{l:Expr}{tl:TE}(hl:PE X l tl):PI X tg l (Rn X.K tl):=by
 intro pins s σ H R I h;refine AZ (hl pins s σ H _ I h) λv s1 ⟨x,H1,I1,r1,q1⟩=>?_
 obtain⟨a,e,⟨xs,hq⟩,q⟩:=q1;subst e;cases r1;obtain⟨its,rv,p,hz⟩:=I1.tuple hq;refine wpAny_pyIter_tuple (show s1.heap.IsTuple a its.toArray from p) ?_;refine⟨s1.heap.objs.size,[s1.heap.objs.size],_,_,H1,rfl,I1.CK (t':=s1.toks) λb o e=>Heap.get?_push_of_some _ e,Tu a _,⟨_,Heap.get?_push_size _ rfl,rfl,rfl⟩,λb hb=>?_,q⟩;have e:b=s1.heap.objs.size:=by simpa using hb
 subst e;exact I1.II (Nat.le_refl _) (I1.hok.fresh (Nat.le_refl _))
theorem O0 {pins:List (Addr×Obj)} {σ:St} {H:Hp} {s:Shared} {R:It->Hp->Prop} {E:Value->Shared->Prop} {lo hi:Int} {t u v:Tok} {tk:Nat} (I:AL X pins σ H s) (h1:-(2 ^ 62)<=lo) (h2:lo<2 ^ 62) (h3:-(2 ^ 62)<=hi) (h4:hi<2 ^ 62)
  (q:R (Gu lo (hi-lo).toNat) H):wpAny (model X.prog X.w) X.A (pyIter (.ref s.heap.objs.size)) (SN X pins σ tg R) E { s with heap:=s.heap.push { cls:=.type "range",data:=.fields #[.int lo t,.int hi u,.int 1 v] },toks:=tk }:=by
 refine wpAny_pyIter_range (IsRange.new ..) (small_one h1 h2 h3 h4) ?_;have I1:AL X pins σ H { s with heap:=s.heap.push { cls:=.type "range",data:=.fields #[.int lo t,.int hi u,.int 1 v] },toks:=tk }:=I.CK λb o e=>Heap.get?_push_of_some _ e
 refine⟨(s.heap.push { cls:=.type "range",data:=.fields #[.int lo t,.int hi u,.int 1 v] }).objs.size,[(s.heap.push { cls:=.type "range",data:=.fields #[.int lo t,.int hi u,.int 1 v] }).objs.size],_,_,H,rfl,
  I1.CK (t':=tk) λb o e=>Heap.get?_push_of_some _ e,TQ _ lo (hi-lo).toNat,?_,λb hb=>?_,q⟩
 ·have e1:lo+((0:Nat):Int)*1=lo:=by simp
  have e2:(((hi-lo).toNat:Nat):Int)-((0:Nat):Int)=Builtin.Range.rangeSize lo hi 1:=by rw[rangeSize_one]; split <;> omega
  show IsRangeIter _ _ (lo+((0:Nat):Int)*1) ((((hi-lo).toNat:Nat):Int)-((0:Nat):Int)) 1;rw[e1,e2];exact Heap.get?_push_size _ rfl
 ·have e:b=(s.heap.push { cls:=.type "range",data:=.fields #[.int lo t,.int hi u,.int 1 v] }).objs.size:=by simpa using hb
  subst e;exact I1.II (Nat.le_refl _) (I1.hok.fresh (Nat.le_refl _))
def Y1(ta:TA):TI:=λσ H R=>ta σ H λvs H1=>∃j:Int,vs=[.int j]/\-(2 ^ 62)<=j/\j<2 ^ 62/\R (Gu 0 j.toNat) H1
def Y9(ta:TA):TI:=λσ H R=>ta σ H λvs H1=>∃i j:Int,vs=[.int i,.int j]/\(-(2 ^ 62)<=i/\i<2 ^ 62/\-(2 ^ 62)<=j/\j<2 ^ 62)/\R (Gu i (j-i).toNat) H1
theorem IV{a:Expr}{ta:TA}{p pos:Pos}(hg:Gl X "range")(hm:X.mg "range" = none)(ha:PA X [a] ta)(hs:starEach [a] X.env=[(false,eval a X.env)]:=by rfl):PI X tg (.Call (.Name "range" p) [a] [] pos) (Y1 ta):=by
 intro pins s σ H R I h;refine Call_ (HB I hg hm boot_range (PyProof.Rows.callWith_type1 (AZ (ha pos pins s σ H _ I h) λus s1 ⟨vs,H1,I1,r1,q1⟩=>?_) hs rfl));obtain⟨j,e,q1,q2,q⟩:=q1;subst e;cases r1 with
 | cons r rr =>
  cases rr;obtain⟨t,rfl⟩:=r;exact call_range_1 (O0 I1 (by omega) (by omega) q1 q2 (by simpa using q))
theorem Jj{a b:Expr}{ta:TA}{p pos:Pos}(hg:Gl X "range")(hm:X.mg "range" = none)(ha:PA X [a,b] ta)(hs:starEach [a,b] X.env=[(false,eval a X.env),(false,eval b X.env)]:=by rfl)(hs2:starEach [b] X.env=[(false,eval b X.env)]:=by rfl):
  PI X tg (.Call (.Name "range" p) [a,b] [] pos) (Y9 ta):=by
 intro pins s σ H R I h;refine Call_ (HB I hg hm boot_range (PyProof.Rows.callWith_type1 (AZ (ha pos pins s σ H _ I h) λus s1 ⟨vs,H1,I1,r1,q1⟩=>?_) (by rw[hs,hs2]) (by rw[hs2]; rfl)));obtain⟨i,j,e,⟨q1,q2,q3,q4⟩,q⟩:=q1;subst e;cases r1 with
 | cons r rr =>
  cases rr with
  | cons r' rr =>
   cases rr;obtain⟨t,rfl⟩:=r;obtain⟨t',rfl⟩:=r';exact call_range_2 (O0 I1 q1 q2 q3 q4 q)
def ZN(wi:TI)(g:TG)(tb:TS):TS:=λD σ H=>wi σ H λJ H1=>∃W:Nat->Nat->St->Hp->Prop,(∃m,W 0 m σ H1)/\∀i m σ H,W i m σ H →
 (J.stop i H/\D.nx σ H)\/(J.go i H/\∃N:St->Hp->Prop,(∀σ' H',N σ' H'->∃m',m' < m/\W (i+1) m' σ' H')/\∀x H',J.EF i H x H'->g x σ H' λσ2 H2=>tb { D with nx:=N,ct:=N,bk:=D.nx } σ2 H2)
def Iw(fp:List Addr)(h:Heap):List (Addr×Obj):=fp.filterMap λb=>(h.get? b).map λo=>(b,o)
theorem Jh{fp:List Addr}{h:Heap}{b:Addr}{o:Obj}(hb:b∈fp)(e:h.get? b=some o):(b,o)∈Iw fp h:=List.mem_filterMap.mpr ⟨b,hb,by rw[e]; rfl⟩
theorem Uk{fp:List Addr}{h:Heap}{p:Addr×Obj}(hp:p∈Iw fp h):p.1∈fp/\h.get? p.1=some p.2:=by
 obtain⟨b,hb,e⟩:=List.mem_filterMap.mp hp;cases q:h.get? b with
 | none=>rw[q] at e; cases e
 | some o =>
  rw[q] at e;have e':(b,o)=p:=Option.some.inj e;subst e';exact⟨hb,q⟩
theorem AL.QV{pins:List (Addr×Obj)}{σ:St}{H:Hp}{s:Shared}{fp:List Addr}(I:AL X pins σ H s)(hf:∀b∈fp,Em X pins H b)(ho:∀b∈fp,∃o,s.heap.get? b=some o/\∀v,o.data≠.cell v):AL X (pins++Iw fp s.heap) σ H s :=
 I.Py λp hp=>(List.mem_append.mp hp).elim (λz=>I.Co p (List.mem_append_right _ z)) λz=>by
  obtain⟨hb,e⟩:=Uk z;obtain⟨f0,f1,f2,_⟩:=hf p.1 hb;obtain⟨o,e',d⟩:=ho p.1 hb;rw[e] at e'; cases e';exact⟨e,f0,f1,f2,d⟩
theorem AL.Ib{pins pl:List (Addr×Obj)}{σ:St}{H:Hp}{s:Shared}(I:AL X (pins++pl) σ H s):AL X pins σ H s:=I.Py λp hp=>I.Co p (List.mem_append_right _ (List.mem_append_left _ hp))
theorem Ce {iter:Expr} {body:List Stmt} {wi:TI} {g:TG} {tb:TS} {pos:Pos} (hp:PassesOwn (model X.prog X.w) X.A X.env X.xe) (hc:X.By=true) (hi:PI X tg iter wi) (hg:PG X tg g) (hb:DP X body tb)
  (hs:∀x,foldedSetIterable iter X.env x=pure x:=by intro _; rfl):PS X (.For tg iter body [] pos) (ZN wi g tb):=by
 intro pins s σ H D I h;refine wpAny_For (AZ (hi pins s σ H _ I h) λv s1 h1=>AZ h1 λitv s2 h2=>?_) hs;obtain⟨it,fp,tn,J,H2,e,I2,T,st2,f2,W,⟨m0,w0⟩,turn⟩:=h2;subst e;have stat:∀{H':Hp},(∀b∈fp,H' b=none)->∀b∈fp,Em X pins H' b:=λhn b hb=>⟨hn b hb,(f2 b hb).2⟩
 refine codeAny_forLoop_any (λn s'=>∃i σ' H',AL X pins σ' H' s'/\tn i s'.heap/\(∀b∈fp,H' b=none)/\W i n σ' H') ?_ m0 ⟨0,σ,H2,I2,st2,λb hb=>(f2 b hb).1,w0⟩;rintro n s3 ⟨i,σ3,H3,I3,st3,fr3,w3⟩;rcases turn i n σ3 H3 w3 with ⟨stop,qn⟩ | ⟨go,N,hN,step⟩
 ·refine wpAny_passesOwn hp (AZ (T.done X rfl rfl rfl hc i pins s3 σ3 H3 X.xe I3 (stat fr3) st3 stop) λr s4 ⟨hr,I4⟩=>?_);subst hr;exact wpAny_execs_nil ⟨σ3,H3,I4,qn⟩
 ·refine wpAny_passesOwn hp (AZ (T.item X rfl rfl rfl hc i pins s3 σ3 H3 X.xe I3 (stat fr3) st3 go) λr s4 ⟨u,hr,h4⟩=>?_);subst hr;refine wpAny_passesOwn hp (AZ h4 λ_ s5 ⟨x,H5,I5,r5,y5,st5,fr5⟩=>?_);have I5':=I5.QV (stat fr5) (T.obj _ _ st5);refine wpAny_passesOwn hp (AZ (hg _ s5 σ3 H5 x u _ I5' r5 (step x H5 y5)) λ_ s6 ⟨σ6,H6,I6,q6⟩=>?_);refine wpAny_passesOwn hp (AZ (hb _ s6 σ6 H6 _ I6 q6) λf s7 q7=>?_);have again:∀{σ7:St} {H7:Hp},AL X (pins++Iw fp s5.heap) σ7 H7 s7->N σ7 H7->∃m,m<n/\∃i σ' H',AL X pins σ' H' s7/\tn i s7.heap/\(∀b∈fp,H' b=none)/\W i m σ' H':=λ{σ7 H7} I7 n7=>by
   obtain⟨m',hm,w7⟩:=hN σ7 H7 n7;refine⟨m',hm,i+1,σ7,H7,I7.Ib,T.keep _ _ _ st5 λb hb o e=>(I7.Co (b,o) (List.mem_append_right _ (List.mem_append_right _ (Jh hb e)))).1,λb hb=>?_,w7⟩;obtain⟨o,e,d⟩:=T.obj _ _ st5 b hb;exact(I7.Co (b,o) (List.mem_append_right _ (List.mem_append_right _ (Jh hb e)))).2.1
  cases f with
  | next=>obtain⟨σ7,H7,I7,n7⟩:=q7; exact again I7 n7
  | cont=>obtain⟨σ7,H7,I7,n7⟩:=q7; exact again I7 n7
  | brk=>obtain⟨σ7,H7,I7,q7⟩:=q7; exact⟨σ7,H7,I7.Ib,q7⟩
  | ret v=>obtain⟨x7,σ7,H7,I7,r7,q7⟩:=q7; exact⟨x7,σ7,H7,I7.Ib,r7,q7⟩
end
theorem PF {K:PySem.W.Frag} {a:Addr} {xs:List V} {g:TG} {tb:TS} {D:Cz} {σ:St} {H:Hp} (Pv:Nat->St->Hp->Prop) (h0:Pv 0 σ H) (hl:∀i σ H,i<=xs.length->Pv i σ H->AR K H a xs)
  (hs:∀i x σ H,xs[i]?=some x->Pv i σ H->g x σ H λσ2 H2=>tb { D with nx:=Pv (i+1),ct:=Pv (i+1),bk:=D.nx } σ2 H2) (hd:∀σ H,Pv xs.length σ H->D.nx σ H) :
  ∃W:Nat->Nat->St->Hp->Prop,(∃m,W 0 m σ H)/\∀i m σ H,W i m σ H →
   ((GF K a).stop i H/\D.nx σ H)\/((GF K a).go i H/\∃N:St->Hp->Prop,(∀σ' H',N σ' H'->∃m',m' < m/\W (i+1) m' σ' H')/\∀x H',(GF K a).EF i H x H'->g x σ H' λσ2 H2=>tb { D with nx:=N,ct:=N,bk:=D.nx } σ2 H2):=by
 refine⟨λi m σ H=>m=xs.length-i/\i<=xs.length/\Pv i σ H,⟨xs.length,by simp,Nat.zero_le _,h0⟩,?_⟩;rintro i m σ H ⟨rfl,hi,p⟩;have q:=hl i σ H hi p;by_cases hlt:i<xs.length
 ·refine .inr ⟨⟨xs,xs[i],q,by simp[hlt]⟩,Pv (i+1),λσ' H' p'=>⟨xs.length-(i+1),by omega,rfl,hlt,p'⟩,λx H' y=>?_⟩;obtain⟨e,y⟩:=y;subst e;exact hs i x σ _ (y xs q) p
 ·have e:i=xs.length:=by omega
  subst e;exact .inl ⟨⟨xs,q,Nat.le_refl _⟩,hd σ H p⟩
theorem Pp {K:PySem.W.Frag} {a:Addr} {xs:List V} {g:TG} {tb:TS} {D:Cz} {σ:St} {H:Hp} (Pv:Nat->St->Hp->Prop) (h0:Pv 0 σ H) (hl:∀i σ H,i<=xs.length->Pv i σ H->AK K H a xs)
  (hs:∀i x σ H,xs[i]?=some x->Pv i σ H->g x σ H λσ2 H2=>tb { D with nx:=Pv (i+1),ct:=Pv (i+1),bk:=D.nx } σ2 H2) (hd:∀σ H,Pv xs.length σ H->D.nx σ H) :
  ∃W:Nat->Nat->St->Hp->Prop,(∃m,W 0 m σ H)/\∀i m σ H,W i m σ H →
   ((IQ K a).stop i H/\D.nx σ H)\/((IQ K a).go i H/\∃N:St->Hp->Prop,(∀σ' H',N σ' H'->∃m',m' < m/\W (i+1) m' σ' H')/\∀x H',(IQ K a).EF i H x H'->g x σ H' λσ2 H2=>tb { D with nx:=N,ct:=N,bk:=D.nx } σ2 H2):=by
 refine⟨λi m σ H=>m=xs.length-i/\i<=xs.length/\Pv i σ H,⟨xs.length,by simp,Nat.zero_le _,h0⟩,?_⟩;rintro i m σ H ⟨rfl,hi,p⟩;have q:=hl i σ H hi p;by_cases hlt:i<xs.length
 ·refine .inr ⟨⟨xs,xs[i],q,by simp[hlt]⟩,Pv (i+1),λσ' H' p'=>⟨xs.length-(i+1),by omega,rfl,hlt,p'⟩,λx H' y=>?_⟩;obtain⟨e,y⟩:=y;subst e;exact hs i x σ _ (y xs q) p
 ·have e:i=xs.length:=by omega
  subst e;exact .inl ⟨⟨xs,q,Nat.le_refl _⟩,hd σ H p⟩
theorem GL {lo:Int} {n:Nat} {g:TG} {tb:TS} {D:Cz} {σ:St} {H:Hp} (Pv:Nat->St->Hp->Prop) (h0:Pv 0 σ H)
  (hs:∀i σ H,i<n->Pv i σ H->g (.int (lo+i)) σ H λσ2 H2=>tb { D with nx:=Pv (i+1),ct:=Pv (i+1),bk:=D.nx } σ2 H2) (hd:∀σ H,Pv n σ H->D.nx σ H) :
  ∃W:Nat->Nat->St->Hp->Prop,(∃m,W 0 m σ H)/\∀i m σ H,W i m σ H →
   ((Gu lo n).stop i H/\D.nx σ H)\/((Gu lo n).go i H/\∃N:St->Hp->Prop,(∀σ' H',N σ' H'->∃m',m' < m/\W (i+1) m' σ' H')/\∀x H',(Gu lo n).EF i H x H'->g x σ H' λσ2 H2=>tb { D with nx:=N,ct:=N,bk:=D.nx } σ2 H2):=by
 refine⟨λi m σ H=>m=n-i/\i<=n/\Pv i σ H,⟨n,by simp,Nat.zero_le _,h0⟩,?_⟩;rintro i m σ H ⟨rfl,hi,p⟩;by_cases hlt:i<n
 ·refine .inr ⟨hlt,Pv (i+1),λσ' H' p'=>⟨n-(i+1),by omega,rfl,hlt,p'⟩,λx H' y=>?_⟩;obtain⟨e,y⟩:=y;subst e y;exact hs i σ _ hlt p
 ·have e:i=n:=by omega
  subst e;exact .inl ⟨Nat.le_refl _,hd σ H p⟩
theorem PH {c:TT} {tb:TS} {D:Cz} {σ:St} {H:Hp} (Pv:St->Hp->Prop) (μ:St->Hp->Nat) (h0:Pv σ H)
  (hs:∀σ H,Pv σ H->c σ H λb H1=>if b=true then tb { D with nx:=λσ' H'=>Pv σ' H'/\μ σ' H' < μ σ H,ct:=λσ' H'=>Pv σ' H'/\μ σ' H' < μ σ H,bk:=D.nx } σ H1 else D.nx σ H1)
  (mono:∀σ H Q Q',(∀b H1,Q b H1->Q' b H1)->c σ H Q->c σ H Q'):Qf c tb D σ H:=by
 refine⟨λm σ H=>m=μ σ H/\Pv σ H,⟨_,rfl,h0⟩,?_⟩;rintro m σ H ⟨rfl,p⟩;refine mono σ H _ _ (λb H1 q=>?_) (hs σ H p);cases b with
 | true=>exact⟨_,λσ' H' ⟨p',l⟩=>⟨_,l,rfl,p'⟩,q⟩
 | false=>exact q
abbrev R2:=V->V->Hp->VK->Prop
def BS(X:Cx)(f:Value->Value->Sem Value)(r:R2):Prop :=
 ∀(pins:List (Addr×Obj)) (s:Shared) (σ:St) (H:Hp) (x y:V) (v u:Value) (Q:VK),AL X pins σ H s->Au x v->Au y u->r x y H Q →
  wpAny (model X.prog X.w) X.A (f v u) (EP X pins σ Q) X.xe s
def NY(X:Cx)(f:Value->Sem Value)(r:V->Hp->VK->Prop):Prop :=
 ∀(pins:List (Addr×Obj)) (s:Shared) (σ:St) (H:Hp) (x:V) (v:Value) (Q:VK),AL X pins σ H s->Au x v->r x H Q →
  wpAny (model X.prog X.w) X.A (f v) (EP X pins σ Q) X.xe s
def Cu(X:Cx)(f:Value)(r:List V->Hp->VK->Prop):Prop :=
 ∀(pins:List (Addr×Obj)) (s:Shared) (σ:St) (H:Hp) (xs:List V) (us:List Value) (Q:VK),AL X pins σ H s->Af xs us->r xs H Q →
  wpAny (model X.prog X.w) X.A (call f us) (EP X pins σ Q) X.xe s
def BK(r:R2)(ta tb:TE):TE:=λσ H Q=>ta σ H λx H1=>tb σ H1 λy H2=>r x y H2 Q
def aM(r:V->Hp->VK->Prop)(ta:TE):TE:=λσ H Q=>ta σ H λx H1=>r x H1 Q
inductive IR(C:Int->Int->Prop)(g:Int->Int->V)(x y:V)(H:Hp)(Q:VK):Prop
 | mk (i j:Int) (a:x=.int i) (b:y=.int j) (c:C i j) (q:Q (g i j) H):IR C g x y H Q
def rI(C:Int->Int->Prop)(g:Int->Int->V):R2:=λx y H Q=>IR C g x y H Q
inductive SU(g:Int->Int->V)(x y:V)(H:Hp)(Q:VK):Prop
 | mk (i j:Int) (a:x=.int i) (b:y=.int j) (q:Q (g i j) H):SU g x y H Q
def Ey(g:Int->Int->V):R2:=λx y H Q=>SU g x y H Q
def rU(g:Int->V):V->Hp->VK->Prop:=λx H Q=>∃i,x=.int i/\Q (g i) H
section
variable {X:Cx} {a b c:Expr} {ta tb tc:TE} {pos:Pos}
theorem NI (ha:PE X a ta) (hb:PE X b tb) {pins:List (Addr×Obj)} {s:Shared} {σ:St} {H:Hp} {R:V->V->Hp->Prop} (I:AL X pins σ H s)
  (h:ta σ H λx H1=>tb σ H1 λy H2=>R x y H2) {Q:Value->Shared->Prop} {f:Value->Value->Sem Value}
  (hf:∀v u s2 x y H2,AL X pins σ H2 s2->Au x v->Au y u->R x y H2->wpAny (model X.prog X.w) X.A (f v u) Q X.xe s2) :
  wpAny (model X.prog X.w) X.A (eval a X.env) (λv s₁=>wpAny (model X.prog X.w) X.A (eval b X.env) (λu s₂=>wpAny (model X.prog X.w) X.A (f v u) Q X.xe s₂) X.xe s₁) X.xe s:=by
 refine AZ (ha pins s σ H _ I h) λv s1 ⟨x,H1,I1,r1,q1⟩=>?_
 refine AZ (hb pins s1 σ H1 _ I1 q1) λu s2 ⟨y,H2,I2,r2,q2⟩=>?_
 exact hf v u s2 x y H2 I2 r1 r2 q2
theorem AX{op:Operator}{r:R2}(ho:BS X (binaryOp op) r)(ha:PE X a ta)(hb:PE X b tb):PE X (.BinOp a op b pos) (BK r ta tb):=by
 intro pins s σ H Q I h;exact wpAny_BinOp (NI ha hb I h λv u s2 x y H2 I2 rx ry q=>ho pins s2 σ H2 x y v u Q I2 rx ry q)
theorem Mj{op:UnaryOp}{r:V->Hp->VK->Prop}(ho:NY X (unaryOp op) r)(ha:PE X a ta):PE X (.UnaryOp op a pos) (aM r ta):=by
 intro pins s σ H Q I h;exact UnaryOp_ (AZ (ha pins s σ H _ I h) λv s1 ⟨x,H1,I1,r1,q1⟩=>ho pins s1 σ H1 x v Q I1 r1 q1)
theorem HW {f:Value->Value->Sem Value} {C:Int->Int->Prop} {g:Int->Int->Int}
  (rule:∀(i j:Int) (t u:Tok) (s:Shared) (Q:Value->Shared->Prop) (E:Value->Shared->Prop),C i j->Q (.int (g i j) s.toks) { s with toks:=s.toks+1 }->wpAny (model X.prog X.w) X.A (f (.int i t) (.int j u)) Q E s) :
  BS X f (rI C λi j=>.int (g i j)):=by
 intro pins s σ H x y v u Q I rx ry h;obtain⟨i,j,rfl,rfl,hc,q⟩:=h;obtain⟨t,rfl⟩:=rx;obtain⟨t',rfl⟩:=ry;exact rule i j t t' s _ _ hc ⟨.int (g i j),H,I.Dc _,⟨_,rfl⟩,q⟩
theorem Rj {f:Value->Value->Sem Value} {g:Int->Int->Int}
  (rule:∀(i j:Int) (t u:Tok) (s:Shared) (Q:Value->Shared->Prop) (E:Value->Shared->Prop),Q (.int (g i j) s.toks) { s with toks:=s.toks+1 }->wpAny (model X.prog X.w) X.A (f (.int i t) (.int j u)) Q E s) :
  BS X f (Ey λi j=>.int (g i j)):=by
 intro pins s σ H x y v u Q I rx ry h;obtain⟨i,j,rfl,rfl,q⟩:=h;obtain⟨t,rfl⟩:=rx;obtain⟨t',rfl⟩:=ry;exact rule i j t t' s _ _ ⟨.int (g i j),H,I.Dc _,⟨_,rfl⟩,q⟩
theorem NC {f:Value->Value->Sem Value} {g:Int->Int->Bool}
  (rule:∀(i j:Int) (t u:Tok) (s:Shared) (Q:Value->Shared->Prop) (E:Value->Shared->Prop),Q (.bool (g i j)) s->wpAny (model X.prog X.w) X.A (f (.int i t) (.int j u)) Q E s) :
  BS X f (Ey λi j=>.bl (g i j)):=by
 intro pins s σ H x y v u Q I rx ry h;obtain⟨i,j,rfl,rfl,q⟩:=h;obtain⟨t,rfl⟩:=rx;obtain⟨t',rfl⟩:=ry;exact rule i j t t' s _ _ ⟨.bl (g i j),H,I,rfl,q⟩
def ZM(i j:Int):Prop:=0<j/\j<1073741824
def Zl(i j:Int):Prop:=0<=j/\j<=1000000/\i.natAbs<2 ^ 64
def IF(i j:Int):Prop:=(-(2 ^ 64)<i/\i<2 ^ 64)\/(-(2 ^ 64)<j/\j<2 ^ 64)
theorem IF.ok{i j:Int}(h:IF i j):IntMulOk i j:=by
 rcases h with ⟨h1,h2⟩ | ⟨h1,h2⟩
 ·exact .of_left (intBits_le_64 h1 h2)
 ·exact .of_right (intBits_le_64 h1 h2)
theorem BU:BS X (binaryOp .Add) (Ey λi j=>.int (i+j)):=Rj λ_ _ _ _ _ _ _ q=>add_int q
theorem CV:BS X (binaryOp .Sub) (Ey λi j=>.int (i-j)):=Rj λ_ _ _ _ _ _ _ q=>sub_int q
theorem MD:BS X (binaryOp .Mult) (rI IF λi j=>.int (i*j)):=HW λ_ _ _ _ _ _ _ hc q=>mul_int q hc.ok
theorem E3:BS X (binaryOp .FloorDiv) (rI ZM λi j=>.int (i / j)):=HW λi j _ _ _ _ _ hc q=>by
 have h1:(0:Int)<j:=hc.1;have h2:j<1073741824:=hc.2;exact floordiv_int (by omega) (by rw[Int.fdiv_eq_ediv_of_nonneg i (by omega)]; exact q) (.inl (PyProof.noPylong_small (by omega)))
theorem Bw:BS X (binaryOp .Mod) (rI (λ_ j=>0<j) λi j=>.int (i % j)):=HW λi j _ _ _ _ _ hc q=>by
 have h1:(0:Int)<j:=hc;exact mod_int' (by omega) (by rw[Int.fmod_eq_emod_of_nonneg i (by omega)]; exact q)
theorem Wb:BS X (binaryOp .Mod) (rI (λ_ j=>j≠0) λi j=>.int (i.fmod j)):=HW λ_ _ _ _ _ _ _ hc q=>mod_int' hc q
theorem YM:BS X (binaryOp .Pow) (rI Zl λi j=>.int (i ^ j.toNat)):=HW λ_ _ _ _ _ _ _ hc q=>pow_int_small hc.1 hc.2.1 hc.2.2 q
theorem aK {f:Value->Sem Value} {g:Int->Int}
  (rule:∀(i:Int) (t:Tok) (s:Shared) (Q:Value->Shared->Prop) (E:Value->Shared->Prop),Q (.int (g i) s.toks) { s with toks:=s.toks+1 }->wpAny (model X.prog X.w) X.A (f (.int i t)) Q E s) :
  NY X f (rU λi=>.int (g i)):=by
 intro pins s σ H x v Q I rx h;obtain⟨i,rfl,q⟩:=h;obtain⟨t,rfl⟩:=rx;exact rule i t s _ _ ⟨.int (g i),H,I.Dc _,⟨_,rfl⟩,q⟩
theorem ME:NY X (unaryOp .USub) (rU λi=>.int (-i)):=aK λ_ _ _ _ _ q=>neg_int q
end
def Rf:V->V->Bool
 | .An,.An=>true | .An,.int _=>true | .int _,.An=>true | .An,.bl _=>true | .bl _,.An=>true | .An,.str _=>true | .str _,.An=>true
 | .int _,.int _=>true | .bl _,.bl _=>true | .str _,.str _=>true | .EE _,.EE _=>true
 | .int _,.str _=>true | .str _,.int _=>true | .bl _,.str _=>true | .str _,.bl _=>true
 | _,_=>false
inductive SR(x y:V)(H:Hp)(Q:VK):Prop
 | mk (c:Rf x y=true) (q:Q (.bl (decide (x=y))) H):SR x y H Q
inductive SE(x y:V)(H:Hp)(Q:VK):Prop
 | mk (c:Rf x y=true) (q:Q (.bl (!decide (x=y))) H):SE x y H Q
def R9:R2:=λx y H Q=>SR x y H Q
def aO:R2:=λx y H Q=>SE x y H Q
theorem Jy{i j:Int}:decide (V.int i=V.int j)=(i == j):=by
 rw[Bool.eq_iff_iff];simp
theorem MO{i j:Bool}:decide (V.bl i=V.bl j)=(i == j):=by
 rw[Bool.eq_iff_iff];simp
theorem Pg{i j:Str}:decide (V.str i=V.str j)=(i == j):=by
 rw[Bool.eq_iff_iff];simp
theorem PU{i j:Array UInt8}:decide (V.EE i=V.EE j)=(i.toList == j.toList):=by
 rw[Bool.eq_iff_iff];cases i;cases j;simp
section
variable {X:Cx} {a b c:Expr} {ta tb tc:TE} {pos:Pos}
theorem BZ{pins:List (Addr×Obj)}{σ:St}{H:Hp}{s:Shared}{Q:VK}{k k':Bool}(I:AL X pins σ H s)(q:Q (.bl k) H)(e:k=k'):EP X pins σ Q (.bool k') s:=by
 subst e;exact⟨.bl k,H,I,rfl,q⟩
theorem Bt:BS X (compareOp .Eq) R9:=by
 intro pins s σ H x y v u Q I rx ry h;obtain⟨hs,q⟩:=h;cases x with
 | An =>
  cases rx;cases y with
  | An=>cases ry; exact PySem.EqNone.eq_none_none (BZ I q (by simp))
  | bl j=>cases ry; exact PySem.EqNone.eq_none_bool (BZ I q (by simp))
  | int j=>obtain⟨t',rfl⟩:=ry; exact PySem.EqNone.eq_none_int (BZ I q (by simp))
  | str j=>obtain⟨t',rfl⟩:=ry; exact PySem.EqNone.eq_none_str (BZ I q (by simp))
  | _=>exact absurd (show false=true from hs) Bool.false_ne_true
 | bl i =>
  cases rx;cases y with
  | An=>cases ry; exact PySem.EqNone.eq_bool_none (BZ I q (by simp))
  | bl j=>cases ry; exact eq_bool (BZ I q MO)
  | str j=>obtain⟨t',rfl⟩:=ry; exact PySem.EqMixed.eq_bool_str (BZ I q (by simp))
  | _=>exact absurd (show false=true from hs) Bool.false_ne_true
 | int i =>
  obtain⟨t,rfl⟩:=rx;cases y with
  | An=>cases ry; exact PySem.EqNone.eq_int_none (BZ I q (by simp))
  | int j=>obtain⟨t',rfl⟩:=ry; exact eq_int (BZ I q Jy)
  | str j=>obtain⟨t',rfl⟩:=ry; exact PySem.EqMixed.eq_int_str (BZ I q (by simp))
  | _=>exact absurd (show false=true from hs) Bool.false_ne_true
 | str i =>
  obtain⟨t,rfl⟩:=rx;cases y with
  | An=>cases ry; exact PySem.EqNone.eq_str_none (BZ I q (by simp))
  | bl j=>cases ry; exact PySem.EqMixed.eq_str_bool (BZ I q (by simp))
  | int j=>obtain⟨t',rfl⟩:=ry; exact PySem.EqMixed.eq_str_int (BZ I q (by simp))
  | str j=>obtain⟨t',rfl⟩:=ry; exact eq_str (BZ I q Pg)
  | _=>exact absurd (show false=true from hs) Bool.false_ne_true
 | EE i =>
  obtain⟨t,rfl⟩:=rx;cases y with
  | EE j=>obtain⟨t',rfl⟩:=ry; exact PySem.W.eq_bytes (BZ I q PU)
  | _=>exact absurd (show false=true from hs) Bool.false_ne_true
 | _=>cases y <;> exact absurd (show false=true from hs) Bool.false_ne_true
theorem CQ:BS X (compareOp .NotEq) aO:=by
 intro pins s σ H x y v u Q I rx ry h;obtain⟨hs,q⟩:=h;cases x with
 | An =>
  cases rx;cases y with
  | An=>cases ry; exact PySem.EqNone.ne_none_none (BZ I q (by simp))
  | bl j=>cases ry; exact PySem.EqNone.ne_none_bool (BZ I q (by simp))
  | int j=>obtain⟨t',rfl⟩:=ry; exact PySem.EqNone.ne_none_int (BZ I q (by simp))
  | str j=>obtain⟨t',rfl⟩:=ry; exact PySem.EqNone.ne_none_str (BZ I q (by simp))
  | _=>exact absurd (show false=true from hs) Bool.false_ne_true
 | bl i =>
  cases rx;cases y with
  | An=>cases ry; exact PySem.EqNone.ne_bool_none (BZ I q (by simp))
  | bl j=>cases ry; exact ne_bool (BZ I q (congrArg not MO))
  | str j=>obtain⟨t',rfl⟩:=ry; exact PySem.EqMixed.ne_bool_str (BZ I q (by simp))
  | _=>exact absurd (show false=true from hs) Bool.false_ne_true
 | int i =>
  obtain⟨t,rfl⟩:=rx;cases y with
  | An=>cases ry; exact PySem.EqNone.ne_int_none (BZ I q (by simp))
  | int j=>obtain⟨t',rfl⟩:=ry; exact ne_int (BZ I q (congrArg not Jy))
  | str j=>obtain⟨t',rfl⟩:=ry; exact PySem.EqMixed.ne_int_str (BZ I q (by simp))
  | _=>exact absurd (show false=true from hs) Bool.false_ne_true
 | str i =>
  obtain⟨t,rfl⟩:=rx;cases y with
  | An=>cases ry; exact PySem.EqNone.ne_str_none (BZ I q (by simp))
  | bl j=>cases ry; exact PySem.EqMixed.ne_str_bool (BZ I q (by simp))
  | int j=>obtain⟨t',rfl⟩:=ry; exact PySem.EqMixed.ne_str_int (BZ I q (by simp))
  | str j=>obtain⟨t',rfl⟩:=ry; exact ne_str (BZ I q (congrArg not Pg))
  | _=>exact absurd (show false=true from hs) Bool.false_ne_true
 | EE i =>
  obtain⟨t,rfl⟩:=rx;cases y with
  | EE j=>obtain⟨t',rfl⟩:=ry; exact PySem.W.ne_bytes (BZ I q (congrArg not PU))
  | _=>exact absurd (show false=true from hs) Bool.false_ne_true
 | _=>cases y <;> exact absurd (show false=true from hs) Bool.false_ne_true
theorem Cy:BS X (compareOp .Lt) (Ey λi j=>.bl (decide (i<j))):=NC λ_ _ _ _ _ _ _ q=>lt_int q
theorem FA:BS X (compareOp .LtE) (Ey λi j=>.bl (decide (i<=j))):=NC λ_ _ _ _ _ _ _ q=>le_int q
theorem EO:BS X (compareOp .Gt) (Ey λi j=>.bl (decide (j<i))):=NC λ_ _ _ _ _ _ _ q=>gt_int q
theorem Ac(b:Expr){op:CmpOp}(h:op≠.In:=by decide)(h2:op≠.NotIn:=by decide):behindInMarks op b=false:=by
 have e1:(op == CmpOp.In)=false:=by cases op <;> first | rfl | exact absurd rfl h
 have e2:(op == CmpOp.NotIn)=false:=by cases op <;> first | rfl | exact absurd rfl h2
 cases b <;> simp[behindInMarks,e1,e2]
theorem Bm{op:CmpOp}{r:R2}(ho:BS X (compareOp op) r)(ha:PE X a ta)(hb:PE X b tb)(hm:behindInMarks op b=false):PE X (.Compare a [op] [b] pos) (BK r ta tb):=by
 intro pins s σ H Q I h;exact wpAny_Compare1 (NI ha hb I h λv u s2 x y H2 I2 rx ry q=>ho pins s2 σ H2 x y v u Q I2 rx ry q) hm
def Qw(t:TE):TT:=λσ H Q=>t σ H λx H'=>Nd x H' Q
theorem Aq{op:CmpOp}{r:R2}(ho:BS X (compareOp op) r)(ha:PE X a ta)(hb:PE X b tb)(hm:behindInMarks op b=false):PT X (.Compare a [op] [b] pos) (Qw (BK r ta tb)):=by
 intro pins s σ H Q I h;refine wpAny_isTrue_Compare1 (AZ (ha pins s σ H _ I h) λv s1 ⟨x,H1,I1,r1,q1⟩=>AZ (hb pins s1 σ H1 _ I1 q1) λu s2 ⟨y,H2,I2,r2,q2⟩ =>
  AZ (ho pins s2 σ H2 x y v u _ I2 r1 r2 q2) λc s3 ⟨z,H3,I3,r3,k,e,q3⟩=>?_) hm
 subst e;cases r3;exact wpAny_truthy_bool ⟨H3,I3,q3⟩
theorem Ko:(sizeLine:Nat)<2 ^ 63:=by rw[sizeLine_eq]; decide
theorem Ef{x:V}{us:List Value}(r:Af [x] us):∃u,us=[u]/\Au x u:=by
 cases r with
 | cons r1 r2=>cases r2; exact⟨_,rfl,r1⟩
theorem Kv{x y:V}{us:List Value}(r:Af [x,y] us):∃u w',us=[u,w']/\Au x u/\Au y w':=by
 cases r with
 | cons r1 r2 =>
  cases r2 with
  | cons r3 r4=>cases r4; exact⟨_,_,rfl,r1,r3⟩
theorem Ot:Cu X (.builtin "abs") (λxs H Q=>∃i,xs=[.int i]/\Q (.int (if i<0 then -i else i)) H):=by
 intro pins s σ H xs us Q I r h;obtain⟨i,rfl,q⟩:=h;obtain⟨u,rfl,t,rfl⟩:=Ef r;exact call_abs_int λu tk=>⟨.int (if i<0 then -i else i),H,I.Dc _,⟨_,rfl⟩,q⟩
theorem Hd(hc:X.By=true):Cu X (.builtin "max") (λxs H Q=>∃i j,xs=[.int i,.int j]/\Q (.int (if j > i then j else i)) H):=by
 intro pins s σ H xs us Q I r h;obtain⟨i,j,rfl,q⟩:=h;obtain⟨u,w',rfl,⟨t,rfl⟩,⟨t',rfl⟩⟩:=Kv r;refine max_two_ints (I.ok.hd hc) λh' tk k=>⟨_,H,I.CK k,?_,q⟩
 by_cases hj:j > i
 ·rw[if_pos hj,if_pos hj]; exact⟨_,rfl⟩
 ·rw[if_neg hj,if_neg hj]; exact⟨_,rfl⟩
theorem IU(hc:X.By=true):Cu X (.builtin "min") (λxs H Q=>∃i j,xs=[.int i,.int j]/\Q (.int (if j<i then j else i)) H):=by
 intro pins s σ H xs us Q I r h;obtain⟨i,j,rfl,q⟩:=h;obtain⟨u,w',rfl,⟨t,rfl⟩,⟨t',rfl⟩⟩:=Kv r;refine min_two_ints (I.ok.hd hc) λh' tk k=>⟨_,H,I.CK k,?_,q⟩
 by_cases hj:j<i
 ·rw[if_pos hj,if_pos hj]; exact⟨_,rfl⟩
 ·rw[if_neg hj,if_neg hj]; exact⟨_,rfl⟩
theorem OP:Cu X (.type "int") (λxs H Q=>(∃i,xs=[.int i]/\Q (.int i) H)\/∃k,xs=[.bl k]/\Q (.int (if k then 1 else 0)) H):=by
 intro pins s σ H xs us Q I r h;rcases h with ⟨i,rfl,q⟩ | ⟨k,rfl,q⟩
 ·obtain⟨u,rfl,t,rfl⟩:=Ef r;exact call_int_int ⟨.int i,H,I,⟨_,rfl⟩,q⟩
 ·obtain⟨u,rfl,r1⟩:=Ef r;cases r1;exact call_int_bool ⟨.int (if k then 1 else 0),H,I.Dc _,⟨_,rfl⟩,q⟩
end
structure HS(h:Heap)(x dx C:Addr)(mA:Str->Option Value):Prop where
 obj:h.get? x=some (PySem.W.instObj C dx)
 ns:h.Ns1 dx mA
 ne:dx≠x
theorem Ur{h:Heap}{dx:Addr}{mA:Str->Option Value}(n:h.Ns1 dx mA):∃od,h.get? dx=some od/\∀name,PySem.W.lookIn name od=some (mA name):=by
 obtain⟨o,es,ep,ho,hd,hk,_,hm⟩:=n;refine⟨o,ho,λname=>?_⟩;have e:=hm name;unfold nsFind findBy at e;rw[<-Array.find?_toList] at e;unfold PySem.W.lookIn;rw[hd];dsimp only;split
 ·rename_i y q
  rw[q] at e;exact congrArg some e
 ·rename_i q
  rw[q] at e;have a:es.toList.any (·.refKey)=false:=by
   rw[List.any_eq_false];intro y hy;obtain⟨z,t,hkey⟩:=hk y (Array.mem_toList_iff.mp hy);simp[DictEntry.refKey,hkey]
  have a':¬es.toList.any (·.refKey)=true:=by rw[a]; exact Bool.false_ne_true
  rw[if_neg a'];exact congrArg some e
theorem HS.NF{h:Heap}{x dx C:Addr}{mA:Str->Option Value}(I:HS h x dx C mA):∃od,PySem.W.InstAt h x (PySem.W.instObj C dx) C (some od)/\∀name,PySem.W.lookIn name od=some (mA name) :=
 let ⟨od,ho,hl⟩:=Ur I.ns
 ⟨od,⟨I.obj,rfl,rfl,ho⟩,hl⟩
section
variable {prog:Program} {w:World} {A:Around} {E:Value->Shared->Prop} {s:Shared} {K:PySem.W.Frag} {x dx C f:Addr} {mA:Str->Option Value} {name:Str} {v:Value}
theorem Wx {expr:Bool} {Q:Value->Shared->Prop} (X:K.In s.heap) (I:HS s.heap x dx C mA) (hg:PySem.W.plainGet K C name=true) (hh:PySem.W.hasDictIn K C=true)
  (ha:PySem.W.findIn K (.ref C) name=some none) (hv:mA name=some v) (hv':PySem.W.handedIn v=true) (h:Q v { s with toks:=s.toks+1 }) :
  wpAny (model prog w) A (getAttr (.ref x) name expr) Q E s:=by
 obtain⟨od,J,hl⟩:=I.NF;exact PySem.W.get_value X J (PySem.W.plainGet_of hg).1 (PySem.W.findObj_own hh ha rfl (by rw[hl,hv])) hv' h
theorem Vs {pl:Sem Bool} {Q:Value×List Value->Shared->Prop} (X:K.In s.heap) (I:HS s.heap x dx C mA) (hg:PySem.W.plainGet K C name=true)
  (hf:PySem.W.findIn K (.ref C) name=some (some (.ref f))) (ht:PySem.W.isFn K (.ref f)=true) (hv:mA name=none) (h:Q (.ref f,[.ref x]) s) :
  wpAny (model prog w) A (getMethod (.ref x) name pl) Q E s:=by
 obtain⟨od,J,hl⟩:=I.NF;exact PySem.W.method_fn X J (PySem.W.plainGet_of hg).1 (PySem.W.plainGet_of hg).2 hf (beq_iff_eq.mp ht) (by show(PySem.W.lookIn name od).map (·.isSome)=some false; rw[hl,hv]; rfl) h
theorem XE {ns:List Str} {Q:Unit->Shared->Prop} (X:K.In s.heap) (I:HS s.heap x dx C mA)
  (hs:PySem.W.findIn K (.ref C) "__setattr__" = some (some (.builtin "object.__setattr__"))) (hp:PySem.W.plainOver K C=true) (ht:PySem.W.takerIn K C name=some none) (hh:PySem.W.hasDictIn K C=true)
  (hw:PySem.Within mA ns) (hsz:ns.length<=sizeLine)
  (h:∀h',HS h' x dx C (λy=>if y=name then some v else mA y)->Heap.SameBut dx s.heap h'->Q () { s with heap:=h',toks:=s.toks+2 }) :
  wpAny (model prog w) A (setAttr (.ref x) name v) Q E s:=by
 obtain⟨od,J,hl⟩:=I.NF;refine PySem.W.set_plain X J hs (PySem.W.osa_open (s:={ s with toks:=s.toks+1 }) (r:=none) X J hp ht λb=>?_);obtain⟨cd,hc,hd'⟩:=PySem.W.any_some hh;have hx:s.heap.get? x=some ⟨.ref C,some dx,.plain,#[]⟩:=I.obj;refine wpAny_bind (wpAny_pure (wpAny_bind (wpAny_bind (wpAny_loadPart hx (wpAny_bind (PySem.W.Looks.here (s:={ s with toks:=s.toks+1 }) (PySem.W.looks_clsIn X hc) ?_))))));rw[hd'];refine wpAny_pure (a:=some dx) (wpAny_bind (wpAny_pure (wpAny_bind ?_)));refine wpAny_nsSet1 (s:={ s with toks:=s.toks+1 }) I.ns λh' hn2 hs2=>?_
 obtain⟨oD,esD,epD,hoD,hdD,hcD⟩:=hn2.count (PySem.Within.cons name v hw);refine wpAny_bind (wpAny_lookBehind hoD (by rw[hdD]; exact pastItsLine_dict (Nat.le_trans hcD (by rw[List.length_cons]; omega))) ?_);exact wpAny_pure (h _ ⟨(hs2.2 _ (Ne.symm I.ne)).trans I.obj,hn2,I.ne⟩ hs2)
theorem Vg {R:Result->Shared->Prop} {vs:List Value} {kw:List (Str×Value)} (X:K.In s.heap) (hm:PySem.W.makesIn K C=true)
  (hi:PySem.W.findIn K (.ref C) "__init__" = some (some (.ref f))) (hf:PySem.W.typeIn K (.ref f)=some (.type "function"))
  (h:codeAny (model prog w) (A.under (.builtin "type.__call__" ⟨.ref C :: vs,kw⟩)) (.call (.ref f) ⟨.ref (s.heap.objs.size+1) :: vs,kw⟩) (PySem.W.InitBack (s.heap.objs.size+1) R)
   { s with heap:=(s.heap.push PySem.W.emptyDict).push (PySem.W.instObj C s.heap.objs.size) }) :
  codeAny (model prog w) A (.call (.ref C) ⟨vs,kw⟩) R s:=by
 obtain⟨hh,g,d,t,os⟩:=s;exact PySem.W.make_core (PySem.W.makes_of X hm) (PySem.W.looks_findIn X hi) (λself=>PySem.W.bind_fn X self hf) (.inl rfl) h
end
def CT(f:Str)(v:V):List (Str×V)->List (Str×V)
 | []=>[(f,v)]
 | (g,x) :: r=>if g=f then (g,v) :: r else (g,x) :: CT f v r
theorem EG(f g:Str)(v:V):∀fs:List (Str×V),(CT f v fs).lookup g=if g=f then some v else fs.lookup g
 | []=>by
  show List.lookup g [(f,v)]=_;by_cases h:g=f
  ·have hb:(g == f)=true:=beq_iff_eq.mpr h;simp only[List.lookup,hb,if_pos h]
  ·have hb:(g == f)=false:=beq_eq_false_iff_ne.mpr h;simp only[List.lookup,hb,if_neg h]
 | (k,x) :: r=>by
  have ih:=EG f g v r;rw[show CT f v ((k,x) :: r)=(if k=f then (k,v) :: r else (k,x) :: CT f v r) from rfl];by_cases hk:k=f
  ·rw[if_pos hk];by_cases h:g=k
   ·have hb:(g == k)=true:=beq_iff_eq.mpr h;simp only[List.lookup,hb,if_pos (h.trans hk)]
   ·have hb:(g == k)=false:=beq_eq_false_iff_ne.mpr h;simp only[List.lookup,hb,if_neg (λe:g=f=>h (e.trans hk.symm))]
  ·rw[if_neg hk];by_cases h:g=k
   ·have hb:(g == k)=true:=beq_iff_eq.mpr h;simp only[List.lookup,hb,if_neg (λe:g=f=>hk (h.symm.trans e))]
   ·have hb:(g == k)=false:=beq_eq_false_iff_ne.mpr h;simp only[List.lookup,hb];exact ih
theorem Li(f:Str)(v:V):∀fs:List (Str×V),f∈(CT f v fs).map (·.1)/\∀g,g∈fs.map (·.1)->g∈(CT f v fs).map (·.1)
 | []=>⟨by simp[CT],λg h=>by simp at h⟩
 | (k,x) :: r=>by
  obtain⟨i1,i2⟩:=Li f v r;rw[show CT f v ((k,x) :: r)=(if k=f then (k,v) :: r else (k,x) :: CT f v r) from rfl];by_cases hk:k=f
  ·rw[if_pos hk];subst hk;exact⟨by simp,λg h=>by simpa using h⟩
  ·rw[if_neg hk];refine⟨?_,λg h=>?_⟩
   ·rw[List.map_cons];exact List.mem_cons_of_mem _ i1
   ·rw[List.map_cons] at h ⊢;rcases List.mem_cons.mp h with e | e
    ·exact List.mem_cons.mpr (.inl e)
    ·exact List.mem_cons_of_mem _ (i2 g e)
theorem Nq(f:Str)(v:V):∀fs:List (Str×V),(CT f v fs).length<=fs.length+1
 | []=>by simp[CT]
 | (k,x) :: r=>by
  have ih:=Nq f v r;rw[show CT f v ((k,x) :: r)=(if k=f then (k,v) :: r else (k,x) :: CT f v r) from rfl];by_cases hk:k=f
  ·rw[if_pos hk,List.length_cons,List.length_cons]; omega
  ·rw[if_neg hk,List.length_cons,List.length_cons]; omega
theorem DL.WU{v:V}{o:Option Value}(r:DL (some v) o):∃u,o=some u/\Au v u:=by
 cases o with
 | none=>exact(show False from r).elim
 | some u=>exact⟨u,rfl,r⟩
theorem DL.Ii{o:Option Value}(r:DL none o):o=none:=by
 cases o with
 | none=>rfl
 | some u=>exact(show False from r).elim
theorem UQ{v:V}{u:Value}(r:Au v u):PySem.W.handedIn u=true:=by
 cases v with
 | An=>cases (show u=Value.none from r); rfl
 | bl b=>cases (show u=Value.bool b from r); rfl
 | int i=>obtain⟨t,e⟩:=(show ∃t,u=Value.int i t from r); cases e; rfl
 | str x=>obtain⟨t,e⟩:=(show ∃t,u=Value.str x t from r); cases e; rfl
 | EE b=>obtain⟨t,e⟩:=(show ∃t,u=Value.bytes b t from r); cases e; rfl
 | JX b=>obtain⟨t,e⟩:=(show ∃t,u=Value.float b t from r); cases e; rfl
 | ref a=>cases (show u=Value.ref a from r); rfl
 | ty n=>cases (show u=Value.type n from r); rfl
section
variable {P:Program} {w:World} {H H':Hp} {h h':Heap} {a C dx:Addr} {fs fs':List (Str×V)}
theorem Lz(hok:BN P w H h)(e:H a=some (.A6 C dx fs)):∃mA,HS h a dx C mA/\(∀f,DL (fs.lookup f) (mA f))/\PySem.Within mA (fs.map (·.1))/\fs.length<=1000/\H dx=some (.Ct a):=by
 obtain⟨d,z,ne,ob,mA,n,r,q⟩:=(show Bf P w H h a (.A6 C dx fs) from hok a _ e);exact⟨mA,⟨ob,n,ne⟩,r,q,z,d⟩
end
structure CO(K:PySem.W.Frag)(C:Addr):Prop where
 pg:PySem.W.plainGet K C Str.empty=true
 hd:PySem.W.hasDictIn K C=true
 po:PySem.W.plainOver K C=true
 sa:PySem.W.findIn K (.ref C) "__setattr__" = some (some (.builtin "object.__setattr__"))
theorem CO.get{K:PySem.W.Frag}{C:Addr}(c:CO K C)(f:Str):PySem.W.plainGet K C f=true:=c.pg
def E4(K:PySem.W.Frag)(C:Addr)(f:Str):Prop:=PySem.W.findIn K (.ref C) f=some none
theorem E4.Ym{K:PySem.W.Frag}{C:Addr}{f:Str}(n:E4 K C f):PySem.W.takerIn K C f=some none:=by
 unfold PySem.W.takerIn;rw[show PySem.W.findIn K (.ref C) f=some none from n];rfl
structure BW(K:PySem.W.Frag)(C:Addr)(m:Str)(f:Addr):Prop where
 Ja:PySem.W.findIn K (.ref C) m=some (some (.ref f))
 fn:PySem.W.isFn K (.ref f)=true
 kp:PySem.W.keepIn K (.ref f)=true
section
variable {X:Cx} {pins:List (Addr×Obj)} {σ:St} {H:Hp} {s:Shared} {a C dx:Addr} {fs:List (Str×V)} {f:Str} {v:V} {A:Around} {E:Value->Shared->Prop}
theorem TJ {b:Bool} {Q:Value->Shared->Prop} (I:AL X pins σ H s) (e:H a=some (.A6 C dx fs)) (c:CO X.K C) (n:E4 X.K C f) (l:fs.lookup f=some v)
  (h:∀u s',AL X pins σ H s'->Au v u->Q u s'):wpAny (model X.prog X.w) A (getAttr (.ref a) f b) Q E s:=by
 obtain⟨mA,O,r,_,_,_⟩:=Lz I.hok e;obtain⟨u,hu,ru⟩:=DL.WU (v:=v) (o:=mA f) (by rw[<-l]; exact r f);exact Wx I.Be O (c.get f) c.hd n hu (UQ ru) (h u _ (I.Dc _) ru)
theorem Ez {m:Str} {g:Addr} {pl:Sem Bool} {Q:Value×List Value->Shared->Prop} (I:AL X pins σ H s) (e:H a=some (.A6 C dx fs)) (c:CO X.K C) (k:BW X.K C m g) (l:fs.lookup m=none)
  (h:Q (.ref g,[.ref a]) s):wpAny (model X.prog X.w) A (getMethod (.ref a) m pl) Q E s:=by
 obtain⟨mA,O,r,_,_,_⟩:=Lz I.hok e;have hn:mA m=none:=DL.Ii (by rw[<-l]; exact r m);exact Vs I.Be O (c.get m) k.Ja k.fn hn h
theorem Tg {y:V} {u:Value} {Q:Unit->Shared->Prop} (I:AL X pins σ H s) (e:H a=some (.A6 C dx fs)) (c:CO X.K C) (n:E4 X.K C f) (hl:fs.length<1000) (ry:Au y u)
  (h:∀s',AL X pins σ (AJ H a (.A6 C dx (CT f y fs))) s'->Q () s'):wpAny (model X.prog X.w) A (setAttr (.ref a) f u) Q E s:=by
 obtain⟨mA,O,r,wi,_,ho⟩:=Lz I.hok e;have hz:(fs.map (·.1)).length<=sizeLine:=by rw[List.length_map,sizeLine_eq]; omega
 refine XE I.Be O c.sa c.po n.Ym c.hd wi hz λh' O' sb=>h _ ?_
 have hd:∃o,h'.get? dx=some o:=let ⟨o,_,_,e',_⟩:=O'.ns; ⟨o,e'⟩
 refine I.Ga (x:=a) (e:=dx) (by rw[e]; exact True.intro) (.inr ho) (λb q hb z=>(sb.2 b hb).trans z) hd ?_;refine⟨by rw[Ao O.ne]; exact ho,?_,O.ne,O'.obj,_,O'.ns,λg=>?_,λg hg=>?_⟩
 ·have:=Nq f y fs; omega
 ·show DL ((CT f y fs).lookup g) (if g=f then some u else mA g);rw[EG];by_cases q:g=f
  ·rw[if_pos q,if_pos q]; exact ry
  ·rw[if_neg q,if_neg q]; exact r g
 ·by_cases q:g=f
  ·rw[q]; exact(Li f y fs).1
  ·refine(Li f y fs).2 g (wi g λz=>hg ?_);show(if g=f then some u else mA g)=none;rw[if_neg q]; exact z
theorem AL.made(I:AL X pins σ H s):AL X pins σ (AJ (AJ H s.heap.objs.size (.Ct (s.heap.objs.size+1))) (s.heap.objs.size+1) (.A6 C s.heap.objs.size []))
  { s with heap:=(s.heap.push PySem.W.emptyDict).push (PySem.W.instObj C s.heap.objs.size) }:=by
 have e1:(s.heap.push PySem.W.emptyDict).get? s.heap.objs.size=some PySem.W.emptyDict:=Heap.get?_push_size s.heap rfl;have e2:((s.heap.push PySem.W.emptyDict).push (PySem.W.instObj C s.heap.objs.size)).get? (s.heap.objs.size+1)=some (PySem.W.instObj C s.heap.objs.size):=by
  have:=Heap.get?_push_size (s.heap.push PySem.W.emptyDict) (o:=PySem.W.instObj C s.heap.objs.size) rfl
  rwa [Heap.size_push] at this
 have e3:(s.heap.push PySem.W.emptyDict).Ns s.heap.objs.size (λ_=>none):=⟨PySem.W.emptyDict,#[],_,e1,rfl,(λe he=>absurd he (by simp)),λ_=>rfl⟩;have I1:=I.laid (a:=s.heap.objs.size) (o:=.Ct (s.heap.objs.size+1)) (h':=s.heap.push PySem.W.emptyDict) (t':=s.toks) (λb u q=>Heap.get?_push_of_some _ q) (Nat.le_refl _) ⟨_,e1⟩;refine I1.laid (a:=s.heap.objs.size+1) (o:=.A6 C s.heap.objs.size []) (t':=s.toks) (λb u q=>Heap.get?_push_of_some _ q) (Nat.le_of_eq (Heap.size_push _ _)) ?_;have ne:s.heap.objs.size≠s.heap.objs.size+1:=Nat.ne_of_lt (Nat.lt_succ_self _);refine⟨by rw[Ao ne,AV],Nat.zero_le _,ne,e2,λ_=>none,(Heap.Ns1.of_empty e3).at λo q=>Heap.get?_push_of_some _ q,λ_=>True.intro,λy hy=>absurd rfl hy⟩
theorem W3 {prog:Program} {w:World} {env:Env} {e:Expr} {f:Str} {pos:Pos} {s:Shared} {Q:Value->Shared->Prop} (hb:attributeBase e f env (eval e env)=eval e env)
  (h:wpAny (model prog w) A (eval e env) (λo s₁=>wpAny (model prog w) A (getAttr o f true) Q E s₁) E s):wpAny (model prog w) A (eval (.Attribute e f pos) env) Q E s :=
 Attribute_any_ h (by rw[arm_eval_Attribute,hb])
end
def ZT(K:PySem.W.Frag)(ta:TE)(f:Str):TE:=λσ H Q=>ta σ H λx H1=>∃a C dx fs v,x=.ref a/\H1 a=some (.A6 C dx fs)/\CO K C/\E4 K C f/\fs.lookup f=some v/\Q v H1
def ZE(K:PySem.W.Frag)(ta tv:TE)(f:Str):TS:=λD σ H=>tv σ H λy H1=>ta σ H1 λx H2=>∃a C dx fs,x=.ref a/\H2 a=some (.A6 C dx fs)/\CO K C/\E4 K C f/\fs.length<1000 /\
 D.nx σ (AJ H2 a (.A6 C dx (CT f y fs)))
section
variable {X:Cx} {o e value:Expr} {f:Str} {pos pos' tpos:Pos} {ta tv:TE}
theorem Bh(he:PE X e ta)(hb:attributeBase e f X.env (eval e X.env)=eval e X.env):PE X (.Attribute e f pos) (ZT X.K ta f):=by
 intro pins s σ H Q I h;refine W3 hb (AZ (he pins s σ H _ I h) λu s1 ⟨x,H1,I1,rx,a,C,dx,fs,v,ex,ea,c,n,l,q⟩=>?_);subst ex;obtain rfl:u=Value.ref a:=rx;exact TJ I1 ea c n l λu' s2 I2 ru=>⟨v,H1,I2,ru,q⟩
theorem Kk(ha:PE X o ta)(hv:PE X value tv)(hs:swapsWith value (some (.Attribute o f pos')) pos.line X.env=pure false):PS X (.Assign [.Attribute o f pos'] value pos) (ZE X.K ta tv f):=by
 intro pins s σ H D I h;refine plainObj_wpAny_Assign_Attribute (AZ (hv pins s σ H _ I h) λu s1 ⟨y,H1,I1,ry,q⟩=>AZ (ha pins s1 σ H1 _ I1 q) λov s2 ⟨x,H2,I2,rx,a,C,dx,fs,ex,ea,c,n,l,q2⟩=>?_) hs;subst ex;obtain rfl:ov=Value.ref a:=rx;exact Tg I2 ea c n l ry λs3 I3=>⟨σ,_,I3,q2⟩
end
section
variable {X:Cx} {pins:List (Addr×Obj)} {σ:St} {H:Hp} {s:Shared} {A:Around} {E:Value->Shared->Prop} {Q:Value->Shared->Prop} {c:Value} {b:Bool}
end
structure BB(k:Nat)(A:Around):Prop where
 hd:A.handled=none
 dp:A.depth+3*k+5<recursionLimit
 un:A.units+16*k+200<cLine
theorem BB.mono{j k:Nat}{A:Around}(r:BB k A)(h:j<=k):BB j A:=⟨r.hd,by have:=r.dp; omega,by have:=r.un; omega⟩
theorem BB.deeper{k:Nat}{A:Around}(r:BB (k+1) A)(env:Env):BB k (A.deeper env) :=
 ⟨r.hd,by have:=r.dp; show A.depth+1+3*k+5<_; omega,by have:=r.un; show A.units+3+16*k+200<_; omega⟩
theorem BB.in1{k:Nat}{A:Around}(r:BB (k+1) A):BB k A.in1 :=
 ⟨r.hd,by have:=r.dp; show A.depth+3*k+5<_; omega,by have:=r.un; show A.units+1+16*k+200<_; omega⟩
theorem Te{A:Around}{C:Addr}{us:List Value}{kw:List (Str×Value)}:(A.under (.builtin "type.__call__" ⟨.ref C :: us,kw⟩)).depth=A.depth+1:=by
 first | rfl | simp[Around.under,Code.weight,Code.isCreation,Code.isGuard,Code.isCaller,Code.frames,Code.isFrame,guardIds]
theorem Td{A:Around}{C:Addr}{us:List Value}{kw:List (Str×Value)}:(A.under (.builtin "type.__call__" ⟨.ref C :: us,kw⟩)).units=A.units+1:=by
 first | rfl | simp[Around.under,Code.cUnits,Code.frames,Code.isFrame]
theorem BB.Mz{k:Nat}{A:Around}(r:BB (k+1) A)(C:Addr)(us:List Value)(kw:List (Str×Value)):BB k (A.under (.builtin "type.__call__" ⟨.ref C :: us,kw⟩)) :=
 ⟨r.hd,by have:=r.dp; rw[Te]; omega,by have:=r.un; rw[Td]; omega⟩
theorem BB.depth{k:Nat}{A:Around}(r:BB k A):A.depth<recursionLimit:=by have:=r.dp; omega
theorem BB.units{k:Nat}{A:Around}(r:BB k A):A.units+64<cLine:=by have:=r.un; omega
def Bc:TA:=λ_ H Q=>Q [] H
def Ay(ta:TE)(tr:TA):TA:=λσ H Q=>ta σ H λx H1=>tr σ H1 λxs H2=>Q (x :: xs) H2
section
variable {X:Cx} {e:Expr} {es:List Expr} {te:TE} {t:TA} {pos:Pos}
theorem AI:PA X [] Bc:=λ_ _ _ _ H Q I h=>Calls.spliced_nil ⟨[],H,I,.nil,h⟩
theorem AA(ha:PE X e te)(hr:PA X es t)(hs:starEach (e :: es) X.env=(false,eval e X.env) :: starEach es X.env:=by rfl):PA X (e :: es) (Ay te t):=by
 intro pos pins s σ H Q I h;rw[hs];show wpAny _ _ (spliced ((false,eval e X.env) :: backTo pos (starEach es X.env))) _ _ s;refine Calls.spliced_cons (AZ (ha pins s σ H _ I h) λu s1 ⟨x,H1,I1,r1,q1⟩=>?_);exact AZ (hr pos pins s1 σ H1 _ I1 q1) λus s2 ⟨xs,H2,I2,r2,q2⟩=>⟨x :: xs,H2,I2,.cons r1 r2,q2⟩
inductive RP(xs:List V)(H:Hp)(Q:VK):Prop
 | mk (n:xs.length<=sizeLine) (q:∀p,H p=none->Q (.ref p) (AJ H p (.AG xs))):RP xs H Q
inductive RJ(xs:List V)(H:Hp)(Q:VK):Prop
 | mk (n:xs.length<=sizeLine) (q:∀p,H p=none->Q (.ref p) (AJ H p (.AN xs))):RJ xs H Q
def FL(t:TA):TE:=λσ H Q=>t σ H λxs H1=>RP xs H1 Q
def Rg(t:TA):TE:=λσ H Q=>t σ H λxs H1=>RJ xs H1 Q
theorem Ax{x1}(h:PA X es t):PE X (.Tuple es x1 pos) (FL t):=by
 intro pins s σ H Q I hq;refine wpAny_Tuple_spliced (AZ (h pos pins s σ H _ I hq) λus s1 ⟨xs,H1,I1,r,z,q⟩=>⟨by rw[<-r.length]; exact z,?_⟩);have hf:H1 s1.heap.objs.size=none:=I1.hok.fresh (Nat.le_refl _);refine⟨.ref s1.heap.objs.size,AJ H1 s1.heap.objs.size (.AG xs),I1.laid (t':=s1.toks) (λb u e=>Heap.get?_push_of_some _ e) (Nat.le_refl _) ?_,rfl,q _ hf⟩;exact⟨z,us,r,⟨_,Heap.get?_push_size _ rfl,rfl,_,rfl⟩,_,Heap.get?_push_size _ rfl,rfl⟩
theorem DC(h:PA X es t):PE X (.List es pos) (Rg t):=by
 intro pins s σ H Q I hq;refine wpAny_List_spliced (AZ (h pos pins s σ H _ I hq) λus s1 ⟨xs,H1,I1,r,z,q⟩=>⟨by rw[<-r.length]; exact z,?_⟩);have hf:H1 s1.heap.objs.size=none:=I1.hok.fresh (Nat.le_refl _);refine⟨.ref s1.heap.objs.size,AJ H1 s1.heap.objs.size (.AN xs),I1.laid (t':=s1.toks) (λb u e=>Heap.get?_push_of_some _ e) (Nat.le_refl _) ?_,rfl,q _ hf⟩;exact⟨z,us,0,r,Heap.get?_push_size _ rfl⟩
end
abbrev Sp:=List V->Hp->VK->XK->Prop
abbrev C6:=List Env->Hp->Shared->XK->Value->Shared->Prop
structure FG(P:Program)(w:World)(K:PySem.W.Frag)(mg:Str->Option Value)(base:Heap)(A:Around)(outer:List Env)(s:Shared)(H:Hp):Prop where
 frames:A.frames=some outer
 BP:Mod K mg base
 bs:∀b o,base.get? b=some o->s.heap.get? b=some o/\H b=none
 Ew:base.objs.size<=s.heap.objs.size
 DH:s.heap.FunFrames base outer
 Es:∀b∈BM outer,H b=none
 hok:BN P w H s.heap
 bare:AllBare s.gens
def CE(outer:List Env)(P:Program)(w:World)(H:Hp)(s:Shared)(Q:VK)(u:Value)(s':Shared):Prop :=
 ∃v H',s'.os=s.os/\AllBare s'.gens/\Un (BM outer) [] H H' s.heap s'.heap/\BN P w H' s'.heap/\Au v u/\Q v H'
def CR(CX:C6)(outer:List Env)(P:Program)(w:World)(H:Hp)(s:Shared)(Q:VK)(E:XK)(r:Result)(s':Shared):Prop :=
 match r with
 | .ok (.ret u)=>CE outer P w H s Q u s'
 | .ok _=>False
 | .error e=>CX outer H s E e s'
structure AH(P:Program)(w:World)(K:PySem.W.Frag)(mg:Str->Option Value)(base:Heap)(CX:C6)(k:Nat)(f:Addr)(fd:FuncData)(ps:List Str)(sp:Sp):Prop where
 len:∀vs H Q E,sp vs H Q E->vs.length=ps.length
 GG:∀(A:Around) (outer:List Env) (s:Shared) (H:Hp) (args:Args) (us:List Value) (vs:List V) (Q:VK) (E:XK),BB k A->FG P w K mg base A outer s H->BindsTo s fd args (ps.zip us)->Af vs us->sp vs H Q E →
  codeAny (model P w) A (.call (.ref f) args) (CR CX outer P w H s Q E) s
theorem AH.mono{P:Program}{w:World}{K:PySem.W.Frag}{mg:Str->Option Value}{base:Heap}{CX:C6}{j k:Nat}{f:Addr}{fd:FuncData}{ps:List Str}{sp:Sp}(F:AH P w K mg base CX j f fd ps sp)(h:j<=k):
  AH P w K mg base CX k f fd ps sp:=⟨F.len,λA outer s H args us vs Q E hr=>F.GG A outer s H args us vs Q E (hr.mono h)⟩
theorem AH.imp {P:Program} {w:World} {K:PySem.W.Frag} {mg:Str->Option Value} {base:Heap} {CX:C6} {k:Nat} {f:Addr} {fd:FuncData} {ps:List Str} {sp sp':Sp} (F:AH P w K mg base CX k f fd ps sp)
  (h:∀vs H Q E,sp' vs H Q E->sp vs H Q E):AH P w K mg base CX k f fd ps sp' :=
 ⟨λvs H Q E q=>F.len vs H Q E (h _ _ _ _ q),λA outer s H args us vs Q E hr he hb hv hs=>F.GG A outer s H args us vs Q E hr he hb hv (h _ _ _ _ hs)⟩
theorem FG.Mz{P:Program}{w:World}{K:PySem.W.Frag}{mg:Str->Option Value}{base:Heap}{A:Around}{outer:List Env}{s:Shared}{H:Hp}(e:FG P w K mg base A outer s H)(C:Addr)(us:List Value)(kw:List (Str×Value)):
  FG P w K mg base (A.under (.builtin "type.__call__" ⟨.ref C :: us,kw⟩)) outer s H:=⟨by first | exact e.frames | (simpa [Around.under,Code.envs,Code.isFrame,pushEnvs] using e.frames),e.BP,e.bs,e.Ew,e.DH,e.Es,e.hok,e.bare⟩
theorem FG.in1{P:Program}{w:World}{K:PySem.W.Frag}{mg:Str->Option Value}{base:Heap}{A:Around}{outer:List Env}{s:Shared}{H:Hp}(e:FG P w K mg base A outer s H):
  FG P w K mg base A.in1 outer s H:=⟨e.frames,e.BP,e.bs,e.Ew,e.DH,e.Es,e.hok,e.bare⟩
section
variable {X:Cx} {pins:List (Addr×Obj)} {σ:St} {H:Hp} {s s':Shared}
theorem AL.K8(I:AL X pins σ H s):FG X.prog X.w X.K X.mg X.base X.A X.stack s H :=
 ⟨I.ok.frames,I.ok.BP,I.bs,Nat.le_trans I.ok.Ew I.sz,I.stack,I.KI,I.hok,I.bare⟩
theorem AL.after{Q:VK}{u:Value}(I:AL X pins σ H s)(h:CE X.stack X.prog X.w H s Q u s'):EP X pins σ Q u s':=by
 obtain⟨v,H',os,bare,un,hok,r,q⟩:=h;obtain⟨hh,g,d,t,os'⟩:=s';obtain rfl:os'=s.os:=os;exact⟨v,H',I.call (h':=hh) (g':=g) (d':=d) (t':=t) (ch:=[]) un hok bare (λb z=>absurd z (by simp)),r,q⟩
end
def DT(sp:Sp)(dvs:List V)(E:XK)(t:TA):TE:=λσ H Q=>t σ H λvs H1=>sp (vs++dvs) H1 Q E
def RN(C:Addr)(m:Str)(sp:Sp)(dvs:List V)(E:XK)(ta:TE)(t:TA):TE:=λσ H Q=>ta σ H λx H1=>∃a dx fs,x=.ref a/\H1 a=some (.A6 C dx fs)/\fs.lookup m=none /\
 t σ H1 λvs H2=>sp (x :: (vs++dvs)) H2 Q E
def YW(C:Addr)(sp:Sp)(dvs:List V)(E:XK)(t:TA):TE:=λσ H Q=>t σ H λvs H1=>∀x dx,H1 x=none->H1 dx=none->dx≠x →
 sp (.ref x :: (vs++dvs)) (AJ (AJ H1 dx (.Ct x)) x (.A6 C dx [])) (λv H2=>v=.An/\Q (.ref x) H2) E
def AW(K:PySem.W.Frag)(fd:FuncData)(ps:List Str)(ds:List Value):Prop :=
 ∀(s:Shared) (us:List Value),K.In s.heap->(us++ds).length=ps.length->BindsTo s fd ⟨us,[]⟩ (ps.zip (us++ds))
theorem AW.all{K:PySem.W.Frag}{fd:FuncData}{ps:List Str}(h:∀us:List Value,us.length=ps.length->bindArgs fd ⟨us,[]⟩=pure (ps.zip us)):AW K fd ps []:=λs us _ hl=>by
 rw[List.append_nil] at hl ⊢;exact .of_eq (h us hl)
def EM(CX:C6)(X:Cx)(E:XK):Prop:=∀(pins:List (Addr×Obj)) (σ:St) (H:Hp) (s:Shared) (e:Value) (s':Shared),AL X pins σ H s->CX X.stack H s E e s'->X.xe e s'
section
variable {X:Cx} {CX:C6} {k:Nat} {f C:Addr} {fd:FuncData} {ps:List Str} {sp:Sp} {dvs:List V} {ds:List Value} {E:XK} {x m:Str} {p pos apos:Pos} {e o:Expr} {es:List Expr} {ta:TE} {t:TA}
theorem Fo {pins:List (Addr×Obj)} {σ:St} {H:Hp} {s:Shared} {Q:VK} {us:List Value} {vs:List V} (F:AH X.prog X.w X.K X.mg X.base CX k f fd ps sp) (hr:BB k X.A) (hb:AW X.K fd ps ds) (hd:Af dvs ds) (hx:EM CX X E)
  (I:AL X pins σ H s) (r:Af vs us) (h:sp (vs++dvs) H Q E):wpAny (model X.prog X.w) X.A (call (.ref f) us) (EP X pins σ Q) X.xe s:=by
 have r2:Af (vs++dvs) (us++ds):=r.Eb hd;have hl:(us++ds).length=ps.length:=by rw[<-r2.length]; exact F.len _ _ _ _ h
 refine wpAny_call (codeAny_mono (F.GG X.A X.stack s H ⟨us,[]⟩ (us++ds) (vs++dvs) Q E hr I.K8 (hb s us I.Be hl) r2 h) λr s' hq=>?_);cases r with
 | error e=>exact hx pins σ H s e s' I hq
 | ok fl =>
  cases fl with
  | ret u=>exact I.after hq
  | next=>exact False.elim hq
  | brk=>exact False.elim hq
  | cont=>exact False.elim hq
theorem Ah (F:AH X.prog X.w X.K X.mg X.base CX k f fd ps sp) (hr:BB k X.A) (hg:Gl X x) (hm:X.mg x=some (.ref f)) (hk:PySem.W.keepIn X.K (.ref f)=true) (hb:AW X.K fd ps ds) (hd:Af dvs ds) (hx:EM CX X E)
  (ha:PA X (e :: es) t) (hdb:(x == ("__debug__":Str))=false:=by decide) (he:starEach (e :: es) X.env=(false,eval e X.env) :: starEach es X.env:=by rfl) (hpl:(backTo pos (starEach es X.env)).any (·.1)=false:=by rfl) :
  PE X (.Call (.Name x p) (e :: es) [] pos) (DT sp dvs E t):=by
 intro pins s σ H Q I h;refine wpAny_Call_Name_kw (Hk I hg hm ?_ hdb);refine PySem.W.callWith_K (h₀:=X.base) I.ok.BP.DQ hk (AZ (ha pos pins s σ H _ I h) λus s1 ⟨vs,H1,I1,r,q⟩=>⟨I1.Be,?_⟩) he hpl;exact Fo F hr hb hd hx I1 r q
theorem J2 {pl:Sem Bool} (he:PE X o ta) (c:CO X.K C) (hm:BW X.K C m f) (F:AH X.prog X.w X.K X.mg X.base CX k f fd ps sp) (hr:BB k X.A) (hb:AW X.K fd ps ds) (hd:Af dvs ds) (hx:EM CX X E) (ha:PA X (e :: es) t)
  (hst:starEach (e :: es) X.env=(false,eval e X.env) :: starEach es X.env:=by rfl) (hpl:(backTo pos (starEach es X.env)).any (·.1)=false:=by rfl)
  (ht:eval (.Call (.Attribute o m apos) (e :: es) [] pos) X.env=(do
   let ov <-eval o X.env
   standAt apos.atName
   let (f,first) <-holding [ov] (getMethod ov m pl)
   callWith pos f first (backTo pos (starEach (e :: es) X.env)) (backToKw pos (keywordEach [] X.env))):=by rfl) :
  PE X (.Call (.Attribute o m apos) (e :: es) [] pos) (RN C m sp dvs E ta t):=by
 intro pins s σ H Q I h;refine PySem.W.methodCall_KW (pl:=pl) (AZ (he pins s σ H _ I h) λu s1 ⟨x,H1,I1,rx,a,dx,fs,ex,ea,l,q⟩=>?_) ht;subst ex;obtain rfl:u=Value.ref a:=rx;refine Ez I1 ea c hm l ?_;refine PySem.W.callWith_K (first:=[.ref a]) (h₀:=X.base) I.ok.BP.DQ hm.kp (AZ (ha pos pins s1 σ H1 _ I1 q) λus s2 ⟨vs,H2,I2,r,q2⟩=>⟨I2.Be,?_⟩) hst hpl;exact Fo (us:=.ref a :: us) (vs:=.ref a :: vs) F hr hb hd hx I2 (.cons rfl r) q2
theorem Ox {pl:Sem Bool} (he:PE X o ta) (c:CO X.K C) (hm:BW X.K C m f) (F:AH X.prog X.w X.K X.mg X.base CX k f fd ps sp) (hr:BB k X.A) (hb:AW X.K fd ps ds) (hd:Af dvs ds) (hx:EM CX X E)
  (ht:eval (.Call (.Attribute o m apos) [] [] pos) X.env=(do
   let ov <-eval o X.env
   standAt apos.atName
   let (f,first) <-holding [ov] (getMethod ov m pl)
   callWith pos f first (backTo pos (starEach [] X.env)) (backToKw pos (keywordEach [] X.env))):=by rfl) :
  PE X (.Call (.Attribute o m apos) [] [] pos) (RN C m sp dvs E ta Bc):=by
 intro pins s σ H Q I h;refine PySem.W.methodCall_KW (pl:=pl) (AZ (he pins s σ H _ I h) λu s1 ⟨x,H1,I1,rx,a,dx,fs,ex,ea,l,q⟩=>?_) ht;subst ex;obtain rfl:u=Value.ref a:=rx;refine Ez I1 ea c hm l ?_;exact PySem.W.callWith_K0 (first:=[.ref a]) I1.Be hm.kp (Fo (us:=[.ref a]) (vs:=[.ref a]) F hr hb hd hx I1 (.cons rfl .nil) q)
structure Mk(K:PySem.W.Frag)(C f:Addr):Prop where
 Yq:PySem.W.makesIn K C=true
 init:PySem.W.findIn K (.ref C) "__init__" = some (some (.ref f))
 fn:PySem.W.isFn K (.ref f)=true
 kp:PySem.W.keepIn K (.ref C)=true
theorem WA {pins:List (Addr×Obj)} {σ:St} {H:Hp} {s:Shared} {Q:VK} {us:List Value} {vs:List V} (M:Mk X.K C f) (F:AH X.prog X.w X.K X.mg X.base CX k f fd ps sp) (hr:BB (k+1) X.A) (hb:AW X.K fd ps ds) (hd:Af dvs ds)
  (hx:EM CX X E) (I:AL X pins σ H s) (r:Af vs us)
  (h:∀x dx,H x=none->H dx=none->dx≠x->sp (.ref x :: (vs++dvs)) (AJ (AJ H dx (.Ct x)) x (.A6 C dx [])) (λv H2=>v=.An/\Q (.ref x) H2) E) :
  wpAny (model X.prog X.w) X.A (call (.ref C) us) (EP X pins σ Q) X.xe s:=by
 have hq:=h (s.heap.objs.size+1) s.heap.objs.size (I.hok.fresh (Nat.le_succ _)) (I.hok.fresh (Nat.le_refl _)) (Nat.ne_of_lt (Nat.lt_succ_self _));have I2:=AL.made (C:=C) I;have r2:Af (V.ref (s.heap.objs.size+1) :: (vs++dvs)) (Value.ref (s.heap.objs.size+1) :: (us++ds)):=.cons rfl (r.Eb hd);have hl:(Value.ref (s.heap.objs.size+1) :: us++ds).length=ps.length:=by
  have e:=r2.length;rw[F.len _ _ _ _ hq] at e;exact e.symm
 refine wpAny_call (Vg (f:=f) I.Be M.Yq M.init (beq_iff_eq.mp M.fn) (codeAny_mono (F.GG _ X.stack _ _ ⟨Value.ref (s.heap.objs.size+1) :: us,[]⟩ (Value.ref (s.heap.objs.size+1) :: (us++ds)) _ _ E (hr.Mz C us [])
  (I2.K8.Mz C us []) (hb _ (Value.ref (s.heap.objs.size+1) :: us) I2.Be hl) r2 hq) λr s' hq'=>?_))
 cases r with
 | error e=>exact hx pins σ _ _ e s' I2 hq'
 | ok fl =>
  cases fl with
  | ret u =>
   obtain⟨v,H',I3,rv,ev,q3⟩:=I2.after hq';subst ev;exact⟨rv,⟨V.ref (s.heap.objs.size+1),H',I3,rfl,q3⟩⟩
  | next=>exact False.elim hq'
  | brk=>exact False.elim hq'
  | cont=>exact False.elim hq'
theorem Hh (M:Mk X.K C f) (F:AH X.prog X.w X.K X.mg X.base CX k f fd ps sp) (hr:BB (k+1) X.A) (hg:Gl X x) (hm:X.mg x=some (.ref C)) (hb:AW X.K fd ps ds) (hd:Af dvs ds) (hx:EM CX X E)
  (ha:PA X (e :: es) t) (hdb:(x == ("__debug__":Str))=false:=by decide) (he:starEach (e :: es) X.env=(false,eval e X.env) :: starEach es X.env:=by rfl) (hpl:(backTo pos (starEach es X.env)).any (·.1)=false:=by rfl) :
  PE X (.Call (.Name x p) (e :: es) [] pos) (YW C sp dvs E t):=by
 intro pins s σ H Q I h;refine wpAny_Call_Name_kw (Hk I hg hm ?_ hdb);refine PySem.W.callWith_K (h₀:=X.base) I.ok.BP.DQ M.kp (AZ (ha pos pins s σ H _ I h) λus s1 ⟨vs,H1,I1,r,q⟩=>⟨I1.Be,?_⟩) he hpl;exact WA M F hr hb hd hx I1 r q
end
section
variable {X:Cx} {CX:C6} {k:Nat} {f C:Addr} {fd:FuncData} {ps ks:List Str} {sp:Sp} {E:XK} {x m:Str} {p pos apos kpos:Pos} {e o:Expr} {es:List Expr} {kws:List Keyword} {te ta:TE} {t tk:TA} {nm:Option Str}
variable {g:List Value->List Value->List Value} {gV:List V->List V->List V}
end
structure Ar(N P:List Str)(sc:Scope):Prop where
 kind:sc.kind=.function
 co:sc.isCoroutine=false
 aG:sc.isGenerator=false
 nd:N.Nodup
 pre:N.take P.length=P
 SH:∀x∈P,sc.names.lookup x=some .local\/sc.names.lookup x=some .cell
 X0:∀y∈sc.names,y.2≠.free
theorem Aw{N P:List Str}{sc:Scope}(h1:sc.kind=.function:=by rfl)(h2:sc.isCoroutine=false:=by rfl)(h3:sc.isGenerator=false:=by rfl)(h4:N.Nodup:=by decide +kernel)(h5:N.take P.length=P:=by rfl)(h6:∀x∈P,sc.names.lookup x=some .local\/sc.names.lookup x=some .cell:=by decide +kernel)(h7:∀y∈sc.names,y.2≠.free:=by decide +kernel):Ar N P sc:=⟨h1,h2,h3,h4,h5,h6,h7⟩
abbrev KP(K:PySem.W.Frag)(f:Addr):Prop:=PySem.W.keepIn K (.ref f)=true
theorem SK:0<=sizeLine:=by decide
theorem sz1:1<=sizeLine:=by decide
theorem sz2:2<=sizeLine:=by decide
theorem Dv:3<=sizeLine:=by decide
theorem CL:4<=sizeLine:=by decide
theorem Nf:5<=sizeLine:=by decide
theorem N8{kindOf:Str->Option NameKind}{x:Str}:∀{binds:List (Str×Value)} {m:Str->Option Value},(∀v,(x,v)∉binds)->bindL kindOf binds m x=m x
 | [],_,_=>rfl
 | (n,v) :: r,m,h=>by
  unfold bindL;rw[N8 λw hw=>h w (List.mem_cons_of_mem _ hw)];split
  ·have:x≠n:=by rintro rfl; exact h v List.mem_cons_self
   simp[this]
  ·rfl
theorem OU{kindOf:Str->Option NameKind}{x:Str}:∀{binds:List (Str×Value)} {m:Str->Option Value},(∀v,(x,v)∉binds)->bindC kindOf binds m x=m x
 | [],_,_=>rfl
 | (n,v) :: r,m,h=>by
  unfold bindC;rw[OU λw hw=>h w (List.mem_cons_of_mem _ hw)];split
  ·rfl
  ·have:x≠n:=by rintro rfl; exact h v List.mem_cons_self
   simp[this]
theorem ON{kindOf:Str->Option NameKind}{x:Str}{v:Value}:∀{P:List Str} {vs:List Value} {i:Nat} {m:Str->Option Value},P.Nodup->P[i]?=some x->vs[i]?=some v->kindOf x=some .local →
  bindL kindOf (P.zip vs) m x=some v
 | [],_,_,_,_,h,_,_=>by simp at h
 | _ :: _,[],_,_,_,_,h,_=>by simp at h
 | p :: P,w :: vs,0,m,nd,h1,h2,hk=>by
  simp at h1 h2; subst h1; subst h2;show bindL kindOf ((p,w) :: P.zip vs) m p=_;unfold bindL;rw[N8 λv hv=>(List.nodup_cons.mp nd).1 (List.of_mem_zip hv).1,if_pos hk];simp
 | p :: P,w :: vs,i+1,m,nd,h1,h2,hk=>by
  show bindL kindOf ((p,w) :: P.zip vs) m x=_;unfold bindL;exact ON (i:=i) (List.nodup_cons.mp nd).2 (by simpa using h1) (by simpa using h2) hk
theorem OT{kindOf:Str->Option NameKind}{x:Str}{v:Value}:∀{P:List Str} {vs:List Value} {i:Nat} {m:Str->Option Value},P.Nodup->P[i]?=some x->vs[i]?=some v->kindOf x≠some .local →
  bindC kindOf (P.zip vs) m x=some v
 | [],_,_,_,_,h,_,_=>by simp at h
 | _ :: _,[],_,_,_,_,h,_=>by simp at h
 | p :: P,w :: vs,0,m,nd,h1,h2,hk=>by
  simp at h1 h2; subst h1; subst h2;show bindC kindOf ((p,w) :: P.zip vs) m p=_;unfold bindC;rw[OU λv hv=>(List.nodup_cons.mp nd).1 (List.of_mem_zip hv).1,if_neg hk];simp
 | p :: P,w :: vs,i+1,m,nd,h1,h2,hk=>by
  show bindC kindOf ((p,w) :: P.zip vs) m x=_;unfold bindC;exact OT (i:=i) (List.nodup_cons.mp nd).2 (by simpa using h1) (by simpa using h2) hk
def Fp(N:List Str)(vs:List V):St:=vs.map some++List.replicate (N.length-vs.length) none
def Fz(CX:C6)(P:Program)(w:World)(K:PySem.W.Frag)(mg:Str->Option Value)(base:Heap)(N:List Str)(qual:Str)(scope:Scope)(f:Addr)(cd:Value)(A:Around)(outer:List Env)(s:Shared)(H:Hp)(E:XK):Cx where
 prog:=P
 w:=w
 K:=K
 mg:=mg
 base:=base
 A:=A.deeper (envOfC qual scope s.heap.objs.size f cd)
 N:=N
 s₀:=s
 H₀:=H
 env:=envOfC qual scope s.heap.objs.size f cd
 outer:=outer
 stack:=envOfC qual scope s.heap.objs.size f cd :: outer
 ex:=[]
 By:=true
 fn:=λ_=>true
 pn:=[]
 xe:=λe s'=>wpAny (model P w) (A.deeper (envOfC qual scope s.heap.objs.size f cd)) (leaving (envOfC qual scope s.heap.objs.size f cd) e) (λ_ s''=>CX outer H s E e s'') (λe' s''=>CX outer H s E e' s'') s'
theorem PJ{sc:Scope}{n:Nat}{x:Str}(h:sc.names.lookup x=some .cell):∃c,(cellsFrom n sc.names []).lookup x=some c:=by
 have q:=PySem.W.cellsFrom_some sc.names n [] (.inl h);exact Option.isSome_iff_exists.mp q
theorem Uu {CX:C6} {P:Program} {w:World} {K:PySem.W.Frag} {mg:Str->Option Value} {base:Heap} {N ps:List Str} {qual:Str} {scope:Scope} {f:Addr} {cd:Value} {A:Around} {outer:List Env} {s s1:Shared} {H:Hp} {E:XK} {us:List Value} {vs:List V}
  (S:Ar N ps scope) (hd:A.handled=none) (e0:FG P w K mg base A outer s H) (hl:vs.length=ps.length) (r:Af vs us)
  (x:InCallC s s.heap.objs.size (bindL (envOfC qual scope s.heap.objs.size f cd).kindOf (ps.zip us) λ_=>none) (cellsFrom (s.heap.objs.size+1) scope.names []) (bindC (envOfC qual scope s.heap.objs.size f cd).kindOf (ps.zip us) λ_=>none) s1) :
  AL (Fz CX P w K mg base N qual scope f cd A outer s H E) [] (Fp N vs) H s1:=by
 have hpl:ps.length<=N.length:=by have:=congrArg List.length S.pre; rw[List.length_take] at this; omega
 obtain⟨h1,tk,rfl,hk⟩:=x.done;have noA:∀b:Addr,b∉(Fz CX P w K mg base N qual scope f cd A outer s H E).ex:=λb z=>absurd (show b∈([]:List Addr) from z) (by simp)
 refine⟨⟨e0.BP,S.kind,rfl,rfl,Nat.le_refl _,λy z c h1 h2=>?_,λy hy=>?_,λy c _ h=>?_,λ_=>hd,Around.frames_deeper e0.frames,.inr ⟨rfl,rfl⟩,λb z=>absurd z (noA b),e0.bs,e0.Ew,λb _ _=>noA b,λb z=>absurd z (noA b),e0.DH,e0.Es⟩,
  rfl,e0.bare,Un.CK hk,⟨_,x.toInCall.ns,λi y v h1 h2 h3=>?_⟩,λy c h=>⟨_,x.cell y c h⟩,e0.hok.fresh (Nat.le_refl _),λy c h=>?_,λp hp=>absurd (show p∈([]:List (Addr×Obj)) from hp) (by simp),e0.hok.CK hk,?_⟩
 ·exact name_of_addr x.apart (PySem.mem_of_lookup h1) (PySem.mem_of_lookup h2)
 ·have hy:scope.names.lookup y=some .cell\/scope.names.lookup y=some .free:=hy;rcases hy with hy | hy
  ·exact PJ hy
  ·exact absurd rfl (S.X0 _ (PySem.mem_of_lookup hy))
 ·exact Nat.le_of_lt (x.above y c (PySem.mem_of_lookup h))
 ·have hi:i<vs.length:=by
   unfold Fp at h2;by_cases hi:i<vs.length
   ·exact hi
   ·rw[List.getElem?_append_right (by simpa using hi)] at h2;rw[List.getElem?_replicate] at h2;split at h2 <;> cases h2
  have ha:vs[i]?=some v:=by
   unfold Fp at h2;rw[List.getElem?_append_left (by simpa using hi),List.getElem?_map] at h2;cases e:vs[i]? with
   | none=>rw[e] at h2; cases h2
   | some a=>rw[e] at h2; cases h2; rfl
  obtain⟨u,hu,rv⟩:=r.get ha;have hp:ps[i]?=some y:=by
   rw[<-S.pre,List.getElem?_take_of_lt (by omega)]; exact h1
  have ndP:ps.Nodup:=by rw[<-S.pre]; exact S.nd.sublist (List.take_sublist _ _)
  refine⟨u,rv,?_⟩;rcases S.SH y (List.mem_of_getElem? hp) with k | k
  ·exact .inl ⟨k,ON ndP hp hu k⟩
  ·obtain⟨c,e⟩:=PJ (n:=s.heap.objs.size+1) k;refine .inr ⟨.inl k,c,e,?_⟩;have q:=x.cell y c e;rw[OT ndP hp hu (by show scope.names.lookup y≠_; rw[k]; decide)] at q;exact q
 ·exact e0.hok.fresh (Nat.le_of_lt (x.above y c (PySem.mem_of_lookup h)))
 ·unfold Fp;show _=N.length;rw[List.length_append,List.length_map,List.length_replicate];omega
theorem Qu {CX:C6} {P:Program} {w:World} {K:PySem.W.Frag} {mg:Str->Option Value} {base:Heap} {k:Nat} {f:Addr} {name qual:Str} {params:Arguments} {body:List Stmt} {scope:Scope} {dV kV doc pm cdv ct oc:Value} {an od:Option Addr}
  {osl:Array (Option Value)} {N ps:List Str} {sp:Sp} (lk:K.lookup f=some ⟨oc,od,.func (PySem.W.fnOf name qual params body scope dV kV doc pm an cdv ct),osl⟩) (hcd:PySem.W.codeIn K cdv qual=true) (S:Ar N ps scope)
  (len:∀vs H Q E,sp vs H Q E->vs.length=ps.length)
  (hbody:∀(A:Around) (outer:List Env) (s:Shared) (H:Hp) (vs:List V) (Q:VK) (E:XK),BB k (A.deeper (envOfC qual scope s.heap.objs.size f cdv))->sp vs H Q E →
   ∃t,DP (Fz CX P w K mg base N qual scope f cdv A outer s H E) body t/\t { nx:=λ_ H'=>Q .An H',rt:=Q } (Fp N vs) H) :
  AH P w K mg base CX (k+1) f (PySem.W.fnOf name qual params body scope dV kV doc pm an cdv ct) ps sp:=by
 refine⟨len,λA outer s H args us vs Q E hr e0 hb r hsp=>?_⟩;have hl:=len _ _ _ _ hsp;have KX:K.In s.heap:=e0.BP.DQ.keeps λb o e=>(e0.bs b o e).1
 have lim:s.heap.NoLimit:=e0.BP.nolimit.keeps λb o e=>(e0.bs b o e).1
 have hkind:∀y∈ps.zip us,scope.names.lookup y.1=some .local\/(scope.names.lookup y.1=some .cell/\((cellsFrom (s.heap.objs.size+1) scope.names []).lookup y.1).isSome=true):=λ⟨n,v⟩ hy=>by
  rcases S.SH n (List.of_mem_zip hy).1 with q | q
  ·exact .inl q
  ·exact .inr ⟨q,PySem.W.cellsFrom_some _ _ _ (.inl q)⟩
 refine codeAny_call_function hr.depth (KX _ _ lk) rfl S.co S.aG rfl (PySem.W.codeRec_of KX hcd) (hb _ _ _ _ ?_);refine wpAny_newFunctionEnv_cells S.kind hkind λenv he s1 x=>?_
 subst he;refine⟨lim.keeps x.toInCall.keep,codeAny_func ?_⟩;obtain⟨t,ht,hq⟩:=hbody A outer s H vs Q E (hr.deeper _) hsp;have I:AL (Fz CX P w K mg base N qual scope f cdv A outer s H E) [] (Fp N vs) H s1:=Uu S hr.hd e0 hl r x;refine wpAny_mono (ht [] s1 (Fp N vs) H _ I hq) (λfl s' hs=>?_) λe s' hs=>hs
 have fin:∀{σ':St} {H':Hp} {v:V} {u:Value},AL (Fz CX P w K mg base N qual scope f cdv A outer s H E) [] σ' H' s'->Au v u->Q v H'->CE outer P w H s Q u s' :=
  λ{σ' H' v u} J rv q=>⟨v,H',J.os,J.bare,J.base,J.hok,rv,q⟩
 cases fl with
 | ret u =>
  obtain⟨v,σ',H',J,rv,q⟩:=hs;exact fin J rv q
 | next =>
  obtain⟨σ',H',J,q⟩:=hs;exact fin (v:=V.An) (u:=Value.none) J rfl q
 | brk =>
  obtain⟨_,_,_,q⟩:=hs;exact False.elim q
 | cont =>
  obtain⟨_,_,_,q⟩:=hs;exact False.elim q
section
variable {X:Cx} {x:Str} {p pos:Pos} {e:Expr} {es:List Expr} {t:TA} {id T:String} {r:List V->Hp->VK->Prop}
def LL(r:List V->Hp->VK->Prop)(t:TA):TE:=λσ H Q=>t σ H λvs H1=>r vs H1 Q
theorem BE (hc:Cu X (.builtin id) r) (hg:Gl X x) (hm:X.mg x=none) (hv:bootBuiltins x=some (.builtin id)) (ha:PA X (e :: es) t) (hn:x≠"__name__":=by decide) (hdb:(x == ("__debug__":Str))=false:=by decide)
  (he:starEach (e :: es) X.env=(false,eval e X.env) :: starEach es X.env:=by rfl) (hpl:(backTo pos (starEach es X.env)).any (·.1)=false:=by rfl):PE X (.Call (.Name x p) (e :: es) [] pos) (LL r t):=by
 intro pins s σ H Q I h;refine wpAny_Call_Name_kw (HB I hg hm hv ?_ hn hdb);exact PyProof.Rows.callWith_builtin1 (AZ (ha pos pins s σ H _ I h) λus s1 ⟨vs,H1,I1,r1,q1⟩=>hc pins s1 σ H1 vs us Q I1 r1 q1) he hpl
theorem Dx (hc:Cu X (.type T) r) (hg:Gl X x) (hm:X.mg x=none) (hv:bootBuiltins x=some (.type T)) (ha:PA X (e :: es) t) (hn:x≠"__name__":=by decide) (hdb:(x == ("__debug__":Str))=false:=by decide)
  (he:starEach (e :: es) X.env=(false,eval e X.env) :: starEach es X.env:=by rfl) (hpl:(backTo pos (starEach es X.env)).any (·.1)=false:=by rfl):PE X (.Call (.Name x p) (e :: es) [] pos) (LL r t):=by
 intro pins s σ H Q I h;refine wpAny_Call_Name_kw (HB I hg hm hv ?_ hn hdb);exact PyProof.Rows.callWith_type1 (AZ (ha pos pins s σ H _ I h) λus s1 ⟨vs,H1,I1,r1,q1⟩=>hc pins s1 σ H1 vs us Q I1 r1 q1) he hpl
end
end L2
namespace HT
open PySem PyProof.Rows
section
open PySem.SeqAt
open PySem.AutoSeq1 (wpAny_loadPart')
open PySem.MeetsSeq PySem.MeetsSeq2 PySem.MeetsSeq3
end
section
variable {prog:Program} {w:World} {A:Around} {E:Value->Shared->Prop} {s:Shared}
theorem WM {t b:Addr} {vs ws:List Value} {Q:Value->Shared->Prop} (ht:IsTup s.heap t vs.toArray) (hb:IsTup s.heap b ws.toArray) (hv:vs≠[])
  (h1:ws=[]->Q (.ref t) s) (h2:ws≠[]->Q (.ref s.heap.objs.size) { s with heap:=s.heap.push { cls:=.type "tuple",data:=.seq (vs++ws).toArray } })
  (hsz:vs.length+ws.length<=sizeLine):wpAny (model prog w) A (binaryOp .Add (.ref t) (.ref b)) Q E s:=by
 obtain⟨⟨cls,dd,data,sl⟩,ho,hc,n,hd⟩:=id ht;obtain⟨⟨cls2,dd2,data2,sl2⟩,ho2,hc2,n2,hd2⟩:=id hb;simp only at hc hd hc2 hd2;subst hc hd hc2 hd2;have e:vs.toArray++ws.toArray=(vs++ws).toArray:=by simp
 by_cases hw:ws=[]
 ·exact concat_meets ⟨_,ho,rfl⟩ ⟨_,ho2,rfl⟩ noFill_tuple_add seq_tuple_add PySem.F.slot_tuple_add PySem.F.entry_tuple_add (PySem.F.args_tuple_add_2 _ _)
   (tuple_addW1 t b vs.toArray ws.toArray n n2 dd dd2 sl sl2 (by simpa using hv) (by simp[hw])) ⟨ho,ho2,h1 hw⟩
 ·refine concat_meets ⟨_,ho,rfl⟩ ⟨_,ho2,rfl⟩ noFill_tuple_add seq_tuple_add PySem.F.slot_tuple_add PySem.F.entry_tuple_add (PySem.F.args_tuple_add_2 _ _)
   (tuple_addW2 t b vs.toArray ws.toArray n n2 dd dd2 sl sl2 (by simpa using hv) (by simpa using hw) (by rw[List.size_toArray,List.size_toArray]; exact hsz)) ⟨ho,ho2,?_⟩
  rw[e];exact h2 hw
def Ai(n d:Nat):Option Int->Nat
 | none=>d
 | some v=>if v<0 then (v+(n:Int)).toNat else min v.toNat n
theorem Xy(n d:Nat)(hd:d<=n)(o:Option Int):Ai n d o<=n:=by
 cases o with
 | none=>exact hd
 | some v =>
  show(if v<0 then (v+(n:Int)).toNat else min v.toNat n)<=n;by_cases hv:v<0
  ·rw[if_pos hv]; omega
  ·rw[if_neg hv]; exact Nat.min_le_right _ _
theorem Pm(v:Int)(n d:Nat):(if v<0 then max (v+(n:Int)) 0 else min v (n:Int))=((Ai n d (some v):Nat):Int):=by
 show(if v<0 then max (v+(n:Int)) 0 else min v (n:Int))=(((if v<0 then (v+(n:Int)).toNat else min v.toNat n):Nat):Int);by_cases hv:v<0
 ·simp only[if_pos hv]; omega
 ·simp only[if_neg hv]; omega
theorem TM(lo hi:Option Int)(n:Nat):Builtin.Slice.sliceAdjust lo hi 1 (n:Int)=(((Ai n 0 lo:Nat):Int),((Ai n n hi:Nat):Int)):=by
 have h1:¬((1:Int)<0):=by omega
 unfold Builtin.Slice.sliceAdjust;simp only[h1,if_false];refine Prod.ext ?_ ?_
 ·cases lo with
  | none=>rfl
  | some v=>exact Pm v n 0
 ·cases hi with
  | none=>rfl
  | some v=>exact Pm v n n
theorem TR(i j:Nat):Builtin.Slice.slicePlaces (i:Int) (j:Int) 1=j-i:=by
 unfold Builtin.Slice.slicePlaces;have h1:(1:Int) > 0:=by omega
 simp only[h1,if_true,Int.ediv_one];split <;> omega
theorem Nz{v:Value}{o:Option Int}{Q:Option Int->Shared->Prop}(p:IsPart v o)(h:Q o s):wpAny (model prog w) A (Builtin.Slice.slicePartIndex v) Q E s:=by
 cases p with
 | none=>exact slicePart_none h
 | int i t=>exact slicePart_int h
theorem Nk {sl:Addr} {vl vu:Value} {lo hi:Option Int} {n:Nat} {Q:Int×Int×Nat->Shared->Prop} (hs:s.heap.IsSliceOf sl vl vu .none) (pl:IsPart vl lo) (pu:IsPart vu hi)
  (h:Q (((Ai n 0 lo:Nat):Int),1,Ai n n hi-Ai n 0 lo) s):wpAny (model prog w) A (Builtin.Slice.sliceApplied (.ref sl) (pure (n:Int))) Q E s:=by
 obtain⟨os,hos,hcs,hds⟩:=id hs;unfold Builtin.Slice.sliceApplied Builtin.Slice.sliceFields;refine wpAny_bind (wpAny_bind (wpAny_field hos hds (x:=vl) rfl (wpAny_bind (wpAny_field hos hds (x:=vu) rfl (wpAny_bind (wpAny_field hos hds (x:=.none) rfl (wpAny_pure ?_)))))));refine wpAny_bind (slicePart_none ?_);show wpAny _ _ (if ((1:Int) == 0)=true then _ else _) _ _ s;rw[if_neg (by decide)];refine wpAny_bind (Nz pl (wpAny_bind (Nz pu (wpAny_bind (wpAny_pure ?_)))));show wpAny _ _ (match Builtin.Slice.sliceAdjust lo hi 1 (n:Int) with | (lo,hi)=>pure (lo,(1:Int),Builtin.Slice.slicePlaces lo hi 1)) _ _ s;rw[TM lo hi n];show wpAny _ _ (pure (((Ai n 0 lo:Nat):Int),(1:Int),Builtin.Slice.slicePlaces ((Ai n 0 lo:Nat):Int) ((Ai n n hi:Nat):Int) 1)) _ _ s;rw[TR];exact wpAny_pure h
theorem V6(xs:Array Value)(i k:Nat):((List.range k).filterMap λ(m:Nat)=>xs[((i:Int)+(m:Int)*1).toNat]?).toArray=((xs.toList.drop i).take k).toArray:=by
 have e:(λ(m:Nat)=>xs[((i:Int)+(m:Int)*1).toNat]?)=λm=>xs[i+m]?:=by
  funext m
  have:((i:Int)+(m:Int)*1).toNat=i+m:=by omega
  rw[this]
 rw[e]
 have:=pick_run xs i k
 rw[List.filterMap_map] at this;have e2:((λx=>xs[x]?) ∘ λx=>i+x)=λm=>xs[i+m]?:=rfl
 rw[e2] at this;rw[this]
theorem SV {t sl:Addr} {items:Array Value} {vl vu:Value} {lo hi:Option Int} {Q:Value->Shared->Prop} (ht:IsTup s.heap t items) (hs:s.heap.IsSliceOf sl vl vu .none) (pl:IsPart vl lo) (pu:IsPart vu hi)
  (hw:¬(Ai items.size 0 lo=0/\Ai items.size items.size hi=items.size))
  (h:Q (.ref s.heap.objs.size) { s with heap:=s.heap.push { cls:=.type "tuple",data:=.seq ((items.toList.drop (Ai items.size 0 lo)).take (Ai items.size items.size hi-Ai items.size 0 lo)).toArray } })
  (hsz:items.size<=sizeLine):wpAny (model prog w) A (getItem (.ref t) (.ref sl)) Q E s:=by
 have htake:sizeOk (.seq ((items.toList.drop (Ai items.size 0 lo)).take (Ai items.size items.size hi-Ai items.size 0 lo)).toArray):=by
  show((items.toList.drop (Ai items.size 0 lo)).take (Ai items.size items.size hi-Ai items.size 0 lo)).toArray.size<=sizeLine;rw[List.size_toArray,List.length_take,List.length_drop,Array.length_toList];omega
 have hj:Ai items.size items.size hi<=items.size:=Xy _ _ (Nat.le_refl _) hi;obtain⟨os,hos,hcs,hds⟩:=id hs;have hTs:s.TypeIs (.ref sl) "slice":=⟨os,hos,hcs⟩;unfold getItem
 try with_reducible refine wpAny_holding ?_
 first | refine wpAny_bind (wpAny_pure ?_) | skip
 refine wpAny_bind (wpAny_sequenceKey ht.typeIs (by decide) ?_);refine wpAny_bind (wpAny_callSpecial?_slot (name:=Str.ofString "__getitem__") ht.typeIs PyProof.Rows.slot_tuple_getitem
  (wpAny_call_entry PyProof.Rows.slot_tuple_getitem ht.typeIs entry_tuple_getitem ?_ (args_tuple_getitem _ _)))
 show wpAny _ _ (Builtin.Tuple.tupleItemsOf (.ref t) >>= _) _ _ s;refine wpAny_bind (tupleItemsOf_ ht ?_);refine wpAny_bind (wpAny_typeOf hTs ?_);rw[if_pos (by decide)];refine wpAny_bind (Nk hs pl pu ?_);have hno:¬((((Ai items.size 0 lo:Nat):Int) == 0 && (1:Int) == 1 && (Ai items.size items.size hi-Ai items.size 0 lo) == items.size)=true):=by
  intro q;rw[Bool.and_eq_true,Bool.and_eq_true] at q;have q1:((Ai items.size 0 lo:Nat):Int)=0:=eq_of_beq q.1.1;have q2:Ai items.size items.size hi-Ai items.size 0 lo=items.size:=eq_of_beq q.2;exact hw ⟨by omega,by omega⟩
 show wpAny _ _ (if (((Ai items.size 0 lo:Nat):Int) == 0 && (1:Int) == 1 && (Ai items.size items.size hi-Ai items.size 0 lo) == items.size)=true then _ else _) _ _ s;rw[if_neg hno,V6]
 first
  | exact wpAny_bind (m:=Builtin.Tuple.tupleExact _) (wpAny_newObj_type (wpAny_pure ⟨_,rfl,wpAny_pure h⟩) htake)
  | exact wpAny_bind (m:=Builtin.Tuple.tupleExact _) (wpAny_newObj_type (wpAny_bind (wpAny_pure (wpAny_pure ⟨_,rfl,wpAny_pure h⟩))) htake)
  | exact wpAny_bind (wpAny_bind (m:=Builtin.Tuple.tupleExact _) (wpAny_newObj_type (wpAny_pure (wpAny_pure ⟨_,rfl,wpAny_pure h⟩)) htake))
  | exact wpAny_bind (wpAny_bind (m:=Builtin.Tuple.tupleExact _) (wpAny_newObj_type (wpAny_pure ⟨_,rfl,wpAny_pure h⟩) htake))
end
end HT
namespace L2
open PySem PySem.Spec PyProof.Rows
abbrev TO:=St->Hp->(Option Int->Hp->Prop)->Prop
def PO(X:Cx)(e:Option Expr)(t:TO):Prop :=
 ∀(pins:List (Addr×Obj)) (s:Shared) (σ:St) (H:Hp) (Q:Option Int->Hp->Prop),AL X pins σ H s->t σ H Q →
  wpAny (model X.prog X.w) X.A (evalPart e X.env) (λu s'=>∃o H',AL X pins σ H' s'/\IsPart u o/\Q o H') X.xe s
def WR:TO:=λ_ H Q=>Q none H
def Yd(t:TE):TO:=λσ H Q=>t σ H λx H1=>∃i,x=.int i/\Q (some i) H1
theorem Ld{ns:List Int}:∀{us:List Value},Af (ns.map V.int) us->IntsAre us ns:=by
 induction ns with
 | nil=>intro us r; rw[List.map_nil] at r; cases r; exact .nil
 | cons n ns ih =>
  intro us r;rw[List.map_cons] at r;cases r with
  | cons r1 r2 =>
   obtain⟨t,e⟩:=r1;subst e;exact .cons n t (ih r2)
section
variable {X:Cx} {e:Expr} {te:TE} {lo hi:Option Expr} {tl th:TO} {pos p2:Pos}
theorem GQ:PO X none WR:=by
 intro pins s σ H Q I h;rw[evalPart_none];exact wpAny_pure ⟨none,H,I,.none,h⟩
theorem E2(h:PE X e te):PO X (some e) (Yd te):=by
 intro pins s σ H Q I hw;rw[evalPart_some];refine AZ (h pins s σ H _ I hw) λu s1 ⟨x,H1,I1,r1,q1⟩=>?_
 obtain⟨i,rfl,q⟩:=q1;obtain⟨t,rfl⟩:=r1;exact⟨some i,H1,I1,.int i t,q⟩
def HV(X:Cx)(r:V->Option Int->Option Int->Hp->VK->Prop):Prop :=
 ∀(pins:List (Addr×Obj)) (s:Shared) (σ:St) (H:Hp) (x:V) (v vl vu:Value) (lo hi:Option Int) (sl:Addr) (Q:VK),AL X pins σ H s->Au x v->s.heap.IsSliceOf sl vl vu .none->IsPart vl lo->IsPart vu hi->r x lo hi H Q →
  ∃T id,typeLookup (.type T) "__getitem__" = pure (some (.builtin id))/\s.TypeIs v T/\wpAny (model X.prog X.w) X.A (getItem v (.ref sl)) (EP X pins σ Q) X.xe s
def aF(r:V->Option Int->Option Int->Hp->VK->Prop)(te:TE)(tl th:TO):TE:=λσ H Q=>te σ H λx H1=>tl σ H1 λl H2=>th σ H2 λu H3=>r x l u H3 Q
theorem Fc{r:V->Option Int->Option Int->Hp->VK->Prop}(hr:HV X r)(he:PE X e te)(hl:PO X lo tl)(hu:PO X hi th):PE X (.Subscript e (.Slice lo hi none p2) pos) (aF r te tl th):=by
 intro pins s σ H Q I h;refine Subscript_ (AZ (he pins s σ H _ I h) λv s1 ⟨x,H1,I1,r1,q1⟩=>?_);refine wpAny_Slice (AZ (hl pins s1 σ H1 _ I1 q1) λvl s2 ⟨l,H2,I2,pl,q2⟩=>AZ (hu pins s2 σ H2 _ I2 q2) λvu s3 ⟨u,H3,I3,pu,q3⟩=>?_);rw[evalPart_none];refine wpAny_pure ?_;have I4:AL X pins σ H3 { s3 with heap:=s3.heap.push { cls:=.type "slice",data:=.fields #[vl,vu,.none] } }:=I3.CK (t':=s3.toks) λb ob q=>Heap.get?_push_of_some _ q
 obtain⟨T,id,hT,ht,hg⟩:=hr pins { s3 with heap:=s3.heap.push { cls:=.type "slice",data:=.fields #[vl,vu,.none] } } σ H3 x v vl vu l u s3.heap.objs.size Q I4 r1 (Heap.IsSliceOf.new ..) pl pu q3;show wpAny (model X.prog X.w) X.A (subscriptTail e (.Slice lo hi none p2) v (.ref s3.heap.objs.size)) (EP X pins σ Q) X.xe { s3 with heap:=s3.heap.push { cls:=.type "slice",data:=.fields #[vl,vu,.none] } };exact tail_any (ops:=[.ref s3.heap.objs.size,v]) ht hT hg (by with_unfolding_all rfl)
def B5(xs:List V)(lo hi:Option Int):List V:=(xs.drop (HT.Ai xs.length 0 lo)).take (HT.Ai xs.length xs.length hi-HT.Ai xs.length 0 lo)
theorem Nt(xs:List V)(lo hi:Option Int):(B5 xs lo hi).length<=xs.length:=by
 unfold B5;rw[List.length_take,List.length_drop];omega
def R8(K:PySem.W.Frag):V->Option Int->Option Int->Hp->VK->Prop:=λx lo hi H Q=>∃a xs,x=.ref a/\AK K H a xs /\
 ¬(HT.Ai xs.length 0 lo=0/\HT.Ai xs.length xs.length hi=xs.length)/\∀p,H p=none->Q (.ref p) (AJ H p (.AG (B5 xs lo hi)))
theorem MN:HV X (R8 X.K):=by
 intro pins s σ H x v vl vu lo hi sl Q I rx hs pl pu h;obtain⟨a,xs,rfl,hx,hw,q⟩:=h;cases rx;obtain⟨its,r,ht,hz⟩:=I.tuple hx;have hlen:its.toArray.size=xs.length:=by rw[List.size_toArray]; exact r.length.symm
 refine⟨"tuple",_,PyProof.Rows.slot_tuple_getitem.lookup,ht.typeIs,?_⟩;refine HT.SV ht hs pl pu (by rw[hlen]; exact hw) ?_ (by rw[hlen]; exact hz);rw[hlen];refine⟨.ref s.heap.objs.size,_,I.laid (t':=s.toks) (o:=.AG (B5 xs lo hi)) (λb ob q=>Heap.get?_push_of_some _ q) (Nat.le_refl _) ?_,rfl,q _ (I.hok.fresh (Nat.le_refl _))⟩;exact⟨Nat.le_trans (Nt xs lo hi) hz,_,(r.drop (HT.Ai xs.length 0 lo)).take (HT.Ai xs.length xs.length hi-HT.Ai xs.length 0 lo),IsTup.new _ _,_,Heap.get?_push_size _ rfl,rfl⟩
def RE(K:PySem.W.Frag):R2:=λx y H Q=>∃a b xs ys,x=.ref a/\y=.ref b/\AK K H a xs/\AK K H b ys/\xs≠[]/\xs.length+ys.length<=sizeLine /\
 (ys=[]->Q (.ref a) H)/\(ys≠[]->∀p,H p=none->Q (.ref p) (AJ H p (.AG (xs++ys))))
theorem Af.KL{xs:List V}{us:List Value}(r:Af xs us):us=[]↔xs=[]:=by
 cases r with
 | nil=>simp
 | cons _ _=>simp
theorem Pc:BS X (binaryOp .Add) (RE X.K):=by
 intro pins s σ H x y v u Q I rx ry h;obtain⟨a,b,xs,ys,rfl,rfl,ha,hb,hx,hz,q1,q2⟩:=h;cases rx;cases ry;obtain⟨its,r1,p1,_⟩:=I.tuple ha;obtain⟨its2,r2,p2,_⟩:=I.tuple hb;refine HT.WM p1 p2 (λz=>hx (r1.KL.mp z)) (λz=>⟨.ref a,H,I,rfl,q1 (r2.KL.mp z)⟩) (λz=>?_) (by rw[<-r1.length,<-r2.length]; exact hz);refine⟨.ref s.heap.objs.size,_,I.laid (t':=s.toks) (o:=.AG (xs++ys)) (λb ob q=>Heap.get?_push_of_some _ q) (Nat.le_refl _) ?_,rfl,q2 (λw=>z (r2.KL.mpr w)) _ (I.hok.fresh (Nat.le_refl _))⟩;exact⟨by rw[List.length_append]; exact hz,_,r1.Eb r2,IsTup.new _ _,_,Heap.get?_push_size _ rfl,rfl⟩
def FP(n:Nat)(i:Int):Option Nat:=if 0<=i then (if i<n then some i.toNat else none) else if -(n:Int)<=i then some (i+n).toNat else none
def BR{α:Type}(xs:List α)(i:Int):Option α:=(FP xs.length i).bind λj=>xs[j]?
theorem Pl{n:Nat}{i:Int}{j:Nat}(h:FP n i=some j):seqIndex? i n=some j/\j<n/\-(n:Int)<=i/\i<n:=by
 unfold FP at h;by_cases h0:0<=i
 ·rw[if_pos h0] at h;by_cases h1:i<n
  ·rw[if_pos h1] at h;have e:i.toNat=j:=Option.some.inj h;exact⟨by rw[seqIndex_of h0 h1,e],by omega,by omega,h1⟩
  ·rw[if_neg h1] at h; cases h
 ·rw[if_neg h0] at h;by_cases h1:-(n:Int)<=i
  ·rw[if_pos h1] at h;have e:(i+n).toNat=j:=Option.some.inj h;exact⟨by rw[seqIndex_neg (by omega) h1,e],by omega,h1,by omega⟩
  ·rw[if_neg h1] at h; cases h
theorem P5{α:Type}{xs:List α}{i:Int}{v:α}(h:BR xs i=some v):∃j,seqIndex? i xs.length=some j/\xs[j]?=some v/\j<xs.length/\-(xs.length:Int)<=i/\i<xs.length:=by
 unfold BR at h;cases e:FP xs.length i with
 | none=>rw[e] at h; cases h
 | some j =>
  rw[e] at h;obtain⟨h1,h2,h3,h4⟩:=Pl e;exact⟨j,h1,h,h2,h3,h4⟩
theorem Ap{α:Type}{xs:List α}{j:Nat}{v:α}(h:xs[j]?=some v):BR xs (j:Int)=some v:=by
 have hj:j<xs.length:=(List.getElem?_eq_some_iff.mp h).1;have e:FP xs.length (j:Int)=some j:=by
  unfold FP;rw[if_pos (by omega),if_pos (by omega)]; simp
 unfold BR; rw[e]; exact h
def L9(b:Expr):Prop:=∀o i,subscripted b false o i=operate [o,i] (getItem o i)
def JY(X:Cx)(r:R2):Prop :=
 ∀(value slice:Expr) (pins:List (Addr×Obj)) (s:Shared) (σ:St) (H:Hp) (x y:V) (v u:Value) (Q:VK),AL X pins σ H s->Au x v->Au y u->r x y H Q →
  subscripted slice false v u=operate [v,u] (getItem v u)->wpAny (model X.prog X.w) X.A (subscriptTail value slice v u) (EP X pins σ Q) X.xe s
def SS(X:Cx)(id:String)(r:V->List V->Hp->VK->Prop):Prop :=
 ∀(pins:List (Addr×Obj)) (s:Shared) (σ:St) (H:Hp) (x:V) (xs:List V) (v:Value) (us:List Value) (Q:VK),AL X pins σ H s->Au x v->Af xs us->r x xs H Q →
  wpAny (model X.prog X.w) X.A (call (.builtin id) (v :: us)) (EP X pins σ Q) X.xe s
variable {a b:Expr} {ta tb:TE}
theorem EN{r:R2}(hr:JY X r)(ha:PE X a ta)(hb:PE X b tb)(hs:L9 b):PE X (.Subscript a b pos) (BK r ta tb):=by
 intro pins s σ H Q I h;exact Subscript_ (NI ha hb I h λv u s2 x y H2 I2 rx ry q=>hr a b pins s2 σ H2 x y v u Q I2 rx ry q (hs _ _))
inductive RV(K:PySem.W.Frag)(x y:V)(H:Hp)(Q:VK):Prop
 | mk (p:Addr) (xs:List V) (i:Int) (v:V) (a:x=.ref p) (b:y=.int i) (c:AR K H p xs) (d:BR xs i=some v) (q:Q v H):RV K x y H Q
inductive Rw(K:PySem.W.Frag)(x y:V)(H:Hp)(Q:VK):Prop
 | mk (p:Addr) (xs:List V) (i:Int) (v:V) (a:x=.ref p) (b:y=.int i) (c:AK K H p xs) (d:BR xs i=some v) (q:Q v H):Rw K x y H Q
def HN(K:PySem.W.Frag):R2:=λx y H Q=>RV K x y H Q
def Ei(K:PySem.W.Frag):R2:=λx y H Q=>Rw K x y H Q
theorem L7:JY X (HN X.K):=by
 intro value slice pins s σ H x y v u Q I rx ry h hs;obtain⟨p,xs,i,z,rfl,rfl,hq,he,q⟩:=h;cases rx;obtain⟨t,rfl⟩:=ry;obtain⟨its,r,pl,hz⟩:=I.list hq;obtain⟨j,h1,h2,h3,h4,h5⟩:=P5 he;obtain⟨w,ew,rw'⟩:=r.get h2;have hl:=r.length;have hn:=Ko;have fin:EP X pins σ Q w s:=⟨z,H,I,rw',q⟩;by_cases h0:0<=i
 ·have hj:i.toNat=j:=by
   rw[seqIndex_of h0 h5] at h1;exact Option.some.inj h1
  exact item_listR pl.isList h0 (by omega) (by rw[hj]; simpa using ew) fin hs
 ·have hj:(i+(its.toArray.size:Int)).toNat=j:=by
   rw[seqIndex_neg (by omega) h4] at h1;rw[List.size_toArray,<-hl];exact Option.some.inj h1
  exact subscriptTail_builtinR (x:=w) pl.isList.typeIs slot_list_getitem.lookup
   (wpAny_getItem_list_neg (Q:=λr s'=>r=w/\EP X pins σ Q r s') pl.isList (by omega) (by rw[List.size_toArray] <;> omega) (by omega) (by rw[hj]; simpa using ew) ⟨rfl,fin⟩) hs
theorem Fm:JY X (Ei X.K):=by
 intro value slice pins s σ H x y v u Q I rx ry h hs;obtain⟨p,xs,i,z,rfl,rfl,hq,he,q⟩:=h;cases rx;obtain⟨t,rfl⟩:=ry;obtain⟨its,r,pl,hz⟩:=I.tuple hq;obtain⟨j,h1,h2,h3,h4,h5⟩:=P5 he;obtain⟨w,ew,rw'⟩:=r.get h2;have hl:=r.length;have hn:=Ko;have fin:EP X pins σ Q w s:=⟨z,H,I,rw',q⟩;exact subscriptTail_builtinR (x:=w) pl.typeIs slot_tuple_getitem.lookup
  (getItem_tuple (j:=j) (Q:=λr s'=>r=w/\EP X pins σ Q r s') pl (by omega) (by omega) (by rw[List.size_toArray,<-hl]; exact h1) (by simpa using ew) ⟨rfl,fin⟩) hs
theorem TU(its:List Value)(n j:Nat)(u:Value):Obj.mapSeq (·.setIfInBounds j u) { cls:=.type "list",data:=.seq its.toArray n }={ cls:=.type "list",data:=.seq (its.set j u).toArray n }:=by
 simp[Obj.mapSeq]
theorem AL.AN{pins:List (Addr×Obj)}{σ:St}{H:Hp}{s:Shared}{p:Addr}{xs:List V}(I:AL X pins σ H s)(h:H p=some (.AN xs)):
  ∃(its:List Value) (n:Nat),Af xs its/\s.heap.get? p=some { cls:=.type "list",data:=.seq its.toArray n }/\xs.length<=sizeLine:=by
 obtain⟨z,its,n,r,e⟩:=I.hok p _ h;exact⟨its,n,r,e,z⟩
theorem AL.XT {pins:List (Addr×Obj)} {σ:St} {H:Hp} {s:Shared} {p:Addr} {xs ys:List V} {its its':List Value} {n n':Nat} {f:Obj->Obj} (I:AL X pins σ H s) (h:H p=some (.AN xs))
  (ho:s.heap.get? p=some { cls:=.type "list",data:=.seq its.toArray n }) (hf:f { cls:=.type "list",data:=.seq its.toArray n }={ cls:=.type "list",data:=.seq its'.toArray n' }) (r:Af ys its') (hz:ys.length<=sizeLine) (t:Nat) :
  AL X pins σ (AJ H p (.AN ys)) { s with heap:=s.heap.update p f,toks:=t }:=by
 have e:(s.heap.update p f).get? p=some { cls:=.type "list",data:=.seq its'.toArray n' }:=by
  rw[Heap.get?_update_self f ho (by rw[hf] <;> rfl),hf]
 refine I.Ga (x:=p) (e:=p) (by rw[h]; trivial) (.inl rfl) (λb u hb q=>(Heap.get?_update_other _ _ (Ne.symm hb)).trans q) ⟨_,e⟩ ?_;exact⟨hz,its',n',r,e⟩
inductive Qi(o i v:V)(H:Hp)(Q:Hp->Prop):Prop
 | mk (p:Addr) (xs:List V) (k:Int) (j:Nat) (e1:o=.ref p) (e2:i=.int k) (h:H p=some (.AN xs)) (x:FP xs.length k=some j) (q:Q (AJ H p (.AN (xs.set j v)))):Qi o i v H Q
def Yy:V->V->V->Hp->(Hp->Prop)->Prop:=λo i v H Q=>Qi o i v H Q
theorem IX:Rp X Yy:=by
 intro pins s σ H o i v ov iv u Q I ro ri rv h;obtain⟨p,xs,k,j,rfl,rfl,hp,hj,q⟩:=h;cases ro;obtain⟨t,rfl⟩:=ri;obtain⟨its,n,r,ho,hz⟩:=I.AN hp;obtain⟨h1,h2,h3,h4⟩:=Pl hj;have hl:=r.length;have hn:=Ko;have I':AL X pins σ (AJ H p (.AN (xs.set j v))) { s with heap:=s.heap.update p (Obj.mapSeq (·.setIfInBounds j u)) } :=
  I.XT hp ho (TU its n j u) (r.set rv j) (by rw[List.length_set]; exact hz) s.toks
 by_cases h0:0<=k
 ·have hk:k.toNat=j:=by
   rw[seqIndex_of h0 h4] at h1;exact Option.some.inj h1
  exact PySem.W.ki_setAt ho h0 (by omega) (by rw[List.size_toArray,<-hl]; exact h4) (by rw[hk]; exact⟨_,I',q⟩)
 ·have hk:(k+(its.toArray.size:Int)).toNat=j:=by
   rw[seqIndex_neg (by omega) h3] at h1;rw[List.size_toArray,<-hl];exact Option.some.inj h1
  exact PySem.W.ki_setBack ho (by omega) (by rw[List.size_toArray,<-hl]; exact h3) (by omega) (by rw[hk]; exact⟨_,I',q⟩)
theorem Sr(lo hi:Option Int)(n:Nat):(sliceBounds lo hi none n).1=((HT.Ai n 0 lo:Nat):Int)/\(sliceBounds lo hi none n).2.1=((HT.Ai n n hi:Nat):Int)/\(sliceBounds lo hi none n).2.2=1:=by
 refine⟨?_,?_,rfl⟩
 ·cases lo with
  | none=>simp[sliceBounds,HT.Ai]
  | some i =>
   simp only[sliceBounds,HT.Ai,Option.getD_none,show(1:Int) > 0 by decide,if_true];by_cases h:i<0
   ·simp only[h,if_true] <;> omega
   ·simp only[h,if_false] <;> omega
 ·cases hi with
  | none=>simp[sliceBounds,HT.Ai]
  | some i =>
   simp only[sliceBounds,HT.Ai,Option.getD_none,show(1:Int) > 0 by decide,if_true];by_cases h:i<0
   ·simp only[h,if_true] <;> omega
   ·simp only[h,if_false] <;> omega
theorem Sh(its:List Value)(lo hi:Option Int):slicePick its.toArray lo hi none=((its.drop (HT.Ai its.length 0 lo)).take (HT.Ai its.length its.length hi-HT.Ai its.length 0 lo)).toArray:=by
 obtain⟨h1,h2,h3⟩:=Sr lo hi its.toArray.size;unfold slicePick;rw[h1,h2,h3];simp only[sliceRange_one,pick_run,List.size_toArray] <;> rfl
inductive Rz(K:PySem.W.Frag)(x:V)(lo hi:Option Int)(H:Hp)(Q:VK):Prop
 | mk (a:Addr) (xs:List V) (e:x=.ref a) (s:AR K H a xs) (q:∀p,H p=none->Q (.ref p) (AJ H p (.AN (B5 xs lo hi)))):Rz K x lo hi H Q
def R5(K:PySem.W.Frag):V->Option Int->Option Int->Hp->VK->Prop:=λx lo hi H Q=>Rz K x lo hi H Q
theorem XM:HV X (R5 X.K):=by
 intro pins s σ H x v vl vu lo hi sl Q I rx hs pl pu h;obtain⟨a,xs,rfl,hx,q⟩:=h;cases rx;obtain⟨its,r,ht,hz⟩:=I.list hx;have hlen:=r.length;refine⟨"list",_,slot_list_getitem.lookup,ht.isList.typeIs,?_⟩;refine wpAny_getItem_list_slice ht.isList hs pl pu .none (by simp) ?_ (by rw[List.size_toArray] <;> omega);rw[Sh,<-hlen];refine⟨.ref s.heap.objs.size,_,I.laid (t':=s.toks) (o:=.AN (B5 xs lo hi)) (λb ob q=>Heap.get?_push_of_some _ q) (Nat.le_refl _) ?_,rfl,q _ (I.hok.fresh (Nat.le_refl _))⟩;exact⟨Nat.le_trans (Nt xs lo hi) hz,_,0,(r.drop (HT.Ai xs.length 0 lo)).take (HT.Ai xs.length xs.length hi-HT.Ai xs.length 0 lo),Heap.get?_push_size _ rfl⟩
inductive NJ(K:PySem.W.Frag)(xs:List V)(H:Hp)(Q:VK):Prop
 | mk (p:Addr) (ys:List V) (e:xs=[.ref p]) (s:AR K H p ys\/AK K H p ys) (q:Q (.int ys.length) H):NJ K xs H Q
theorem Sm:Cu X (.builtin "len") (NJ X.K):=by
 intro pins s σ H xs us Q I r h;obtain⟨p,ys,rfl,hq,q⟩:=h;obtain⟨u,rfl,rx⟩:=Ef r;cases rx;have hn:=Ko;rcases hq with hq | hq
 ·obtain⟨its,r',pl,hz⟩:=I.list hq;have hlen:=r'.length;exact Calls.call_len_list pl.isList (by simp only[List.size_toArray] <;> omega) ⟨.int ys.length,H,I.Dc _,⟨s.toks+1,by rw[List.size_toArray,hlen]⟩,q⟩
 ·obtain⟨its,r',pl,hz⟩:=I.tuple hq;have hlen:=r'.length;exact len_tuple pl (by simp only[List.size_toArray] <;> omega) ⟨.int ys.length,H,I.Dc _,⟨s.toks+1,by rw[List.size_toArray,hlen]⟩,q⟩
theorem LW:Cu X (.type "list") (λxs H Q=>∃p ys,xs=[.ref p]/\(AR X.K H p ys\/AK X.K H p ys)/\∀l,H l=none->Q (.ref l) (AJ H l (.AN ys))):=by
 intro pins s σ H xs us Q I r h;obtain⟨p,ys,rfl,hq,q⟩:=h;obtain⟨u,rfl,rx⟩:=Ef r;cases rx;have fin:∀(its:List Value),Af ys its->ys.length<=sizeLine->∀(h':Heap) (c':Nat),(∀b o',s.heap.get? b=some o'->h'.get? b=some o') →
   h'.get? s.heap.objs.size=some { cls:=.type "list",dict:=none,data:=.seq its.toArray c',slots:=#[] }->EP X pins σ Q (.ref s.heap.objs.size) { s with heap:=h' }:=λits r' hz h' c' kp e =>
  ⟨.ref s.heap.objs.size,_,I.laid (t':=s.toks) kp (Nat.le_refl _) (show Bf X.prog X.w _ h' _ (.AN ys) from ⟨hz,its,c',r',e⟩),rfl,q _ (I.hok.fresh (Nat.le_refl _))⟩
 rcases hq with hq | hq
 ·obtain⟨its,r',pl,hz⟩:=I.list hq;have hlen:=r'.length;obtain⟨o,ho,hc,n,hd⟩:=pl.isList;exact call_list_seq p (.inl rfl) ho hc hd (λh' c' kp e=>fin its r' hz h' c' kp e) (by simp only[List.size_toArray] <;> omega)
 ·obtain⟨its,r',pl,hz⟩:=I.tuple hq;have hlen:=r'.length;obtain⟨o,ho,hc,n,hd⟩:=pl;exact call_list_seq p (.inr rfl) ho hc hd (λh' c' kp e=>fin its r' hz h' c' kp e) (by simp only[List.size_toArray] <;> omega)
theorem Hc:Cu X (.type "tuple") (λxs H Q=>∃p ys,xs=[.ref p]/\((AR X.K H p ys/\∀l,H l=none->Q (.ref l) (AJ H l (.AG ys)))\/(AK X.K H p ys/\Q (.ref p) H))):=by
 intro pins s σ H xs us Q I r h;obtain⟨p,ys,rfl,h⟩:=h;obtain⟨u,rfl,rx⟩:=Ef r;cases rx;rcases h with ⟨hq,q⟩ | ⟨hq,q⟩
 ·obtain⟨its,r',pl,hz⟩:=I.list hq;have hlen:=r'.length;refine call_tuple_list pl.isList (λh' kp=>?_) (by simp only[List.size_toArray] <;> omega);have I1:AL X pins σ H { s with heap:=h' }:=I.CK (t':=s.toks) kp;have I2:AL X pins σ (AJ H h'.objs.size (.AG ys)) { s with heap:=h'.push { cls:=.type "tuple",data:=.seq its.toArray } } :=
   I1.laid (t':=s.toks) (λb o e=>Heap.get?_push_of_some _ e) (Nat.le_refl _) (show Bf X.prog X.w _ _ _ (.AG ys) from ⟨hz,its,r',IsTup.new _ _,_,Heap.get?_push_size _ rfl,rfl⟩)
  exact⟨.ref h'.objs.size,_,I2,rfl,q _ (I1.hok.fresh (Nat.le_refl _))⟩
 ·obtain⟨its,r',pl,hz⟩:=I.tuple hq;exact call_tuple_same pl ⟨.ref p,H,I,rfl,q⟩
def SI(K:PySem.W.Frag)(T:String)(x:V)(H:Hp):Prop:=match x with
 | .str _=>T="str"
 | .int _=>T="int"
 | .ref p=>(T="list"/\∃xs,AR K H p xs)\/(T="tuple"/\∃o,K.lookup p=some o/\o.cls=.type "tuple"/\o.dict=none) \/
   (T="dict"/\((∃kvs,H p=some (.dK kvs))\/∃kvs,H p=some (.dT kvs)))\/(T="set"/\∃S n,H p=some (.set S n))
 | _=>False
theorem X6{pins:List (Addr×Obj)}{σ:St}{H:Hp}{s:Shared}{T:String}{x:V}{v:Value}(I:AL X pins σ H s)(r:Au x v)(ty:SI X.K T x H):
  s.TypeIs v T/\∀a,v=.ref a->∃ob,s.heap.get? a=some ob/\ob.dict=none:=by
 cases x with
 | str z =>
  obtain⟨t,rfl⟩:=r;cases (show T="str" from ty);exact⟨typeIs_str s z t,λ_ e=>nomatch e⟩
 | int i =>
  obtain⟨t,rfl⟩:=r;cases (show T="int" from ty);exact⟨typeIs_int s i t,λ_ e=>nomatch e⟩
 | ref p =>
  cases r;rcases ty with ⟨rfl,xs,hq⟩ | ⟨rfl,o,hk,hc,hd⟩ | ⟨rfl,hk⟩ | ⟨rfl,S,n,hk⟩
  ·obtain⟨its,_,pl,_⟩:=I.list hq;refine⟨pl.isList.typeIs,λa e=>?_⟩;cases e;obtain⟨o,n,e,c,hd,_⟩:=pl;exact⟨o,e,hd⟩
  ·refine⟨⟨o,I.Be p o hk,hc⟩,λa e=>?_⟩;cases e;exact⟨o,I.Be _ o hk,hd⟩
  ·have z:∃o,s.heap.get? p=some o/\o.ExactDict:=by
    rcases hk with ⟨kvs,hk⟩ | ⟨kvs,hk⟩
    ·obtain⟨_,_,_,_,o,_,_,e,ex,_⟩:=I.hok p _ hk;exact⟨o,e,ex⟩
    ·obtain⟨_,_,_,_,o,_,_,e,ex,_⟩:=I.hok p _ hk;exact⟨o,e,ex⟩
   obtain⟨o,e,ex⟩:=z;refine⟨⟨o,e,ex.1⟩,λa e2=>?_⟩;cases e2;exact⟨o,e,ex.2.1⟩
  ·obtain⟨o,_,_,_,e,ex,_⟩:=I.hok p _ hk;refine⟨⟨o,e,ex.1⟩,λa e2=>?_⟩;cases e2;exact⟨o,e,ex.2.1⟩
 | _=>exact False.elim ty
def SD(K:PySem.W.Frag)(T:String)(r:V->List V->Hp->VK->Prop)(to:TE)(t:TA):TE:=λσ H Q=>to σ H λx H1=>SI K T x H1/\t σ H1 λxs H2=>r x xs H2 Q
variable {o:Expr} {es:List Expr} {to:TE} {t:TA} {name:Str} {apos cpos:Pos} {T id:String} {r:V->List V->Hp->VK->Prop}
theorem Ys (pa:PlainAttrs T) (slot:Slot T name id) (hty:typeOf (.builtin id)=pure (.type "method_descriptor")) (hm:SS X id r) (ho:PE X o to) (ha:PA X (e :: es) t)
  (hbase:attributeBase o name X.env (eval o X.env)=eval o X.env:=by rfl)
  (hfew:((backTo cpos (starEach (e :: es) X.env)).all (λx=>!x.1) && (backToKw cpos (keywordEach [] X.env)).all (λx=>x.1.isSome)
   && decide ((e :: es).length+([]:List Keyword).length+(if ([]:List Keyword).isEmpty then 0 else 1)<30))=true:=by rfl)
  (hline:(apos.endLine == cpos.line)=true:=by rfl) (hs:starEach (e :: es) X.env=(false,eval e X.env) :: starEach es X.env:=by rfl) (hplain:(backTo cpos (starEach es X.env)).any (·.1)=false:=by rfl) :
  PE X (.Call (.Attribute o name apos) (e :: es) [] cpos) (SD X.K T r to t):=by
 intro pins s σ H Q I h;refine wpAny_Call_method_late hbase hfew hline rfl (AZ (ho pins s σ H _ I h) λv s1 ⟨x,H1,I1,r1,ty,q1⟩=>?_);obtain⟨h1,h2⟩:=X6 I1 r1 ty;refine⟨T,id,pa,slot,hty,h1,h2,?_⟩;have hA:=ha cpos pins s1 σ H1 _ I1 q1;rw[hs] at hA ⊢;refine Calls.callWith_builtin (by show(false || (backTo cpos (starEach es X.env)).any (·.1))=false; rw[hplain] <;> rfl) (Calls.evalArgs_plain ?_);exact AZ hA λus s2 ⟨vs,H2,I2,r2,q2⟩=>hm pins s2 σ H2 x vs v us Q I2 r1 r2 q2
end
def JZ(X:Cx)(id:String)(r:V->List V->Hp->VK->Prop):Prop :=
 ∀(pins:List (Addr×Obj)) (s:Shared) (σ:St) (H:Hp) (x:V) (xs:List V) (v:Value) (us:List Value) (Q:VK),AL X pins σ H s->Au x v->Af xs us->r x xs H Q →
  wpAny (model X.prog X.w) X.A (call (.builtin id) (v :: us)) (EP X pins σ Q) X.xe s
theorem Af.one:∀{x:V} {us:List Value},Af [x] us->∃u,us=[u]/\Au x u
 | _,_,.cons r .nil=>⟨_,rfl,r⟩
theorem Af.NX:∀{x y:V} {us:List Value},Af [x,y] us->∃u v,us=[u,v]/\Au x u/\Au y v
 | _,_,_,.cons r (.cons q .nil)=>⟨_,_,rfl,r,q⟩
theorem Af.dropLast{xs:List V}{us:List Value}(h:Af xs us):Af xs.dropLast us.dropLast:=by
 induction h with
 | nil=>exact .nil
 | cons r t ih =>
  cases t with
  | nil=>exact .nil
  | cons q t'=>exact .cons r ih
theorem Af.eraseIdx:∀{xs:List V} {us:List Value} (i:Nat),Af xs us->Af (xs.eraseIdx i) (us.eraseIdx i)
 | _,_,_,.nil=>.nil
 | _,_,0,.cons _ t=>t
 | _,_,i+1,.cons r t=>.cons r (Af.eraseIdx i t)
theorem Af.reverse{xs:List V}{us:List Value}(h:Af xs us):Af xs.reverse us.reverse:=by
 induction h with
 | nil=>exact .nil
 | cons r t ih=>rw[List.reverse_cons,List.reverse_cons]; exact Af.Eb ih (.cons r .nil)
theorem OV{α:Type}:∀(l:List α) (i:Nat),(l.eraseIdx i).length<=l.length
 | [],_=>Nat.le_refl _
 | _ :: _,0=>Nat.le_succ _
 | _ :: r,i+1=>Nat.succ_le_succ (OV r i)
section
variable {X:Cx} {pins:List (Addr×Obj)} {σ:St} {H:Hp} {s:Shared} {l b:Addr} {xs ys zs:List V}
theorem AL.K4 {its its':List Value} {n:Nat} {f:Array Value->Array Value} {t':Nat} (I:AL X pins σ H s) (hH:H l=some (.AN xs))
  (e:s.heap.get? l=some { cls:=.type "list",data:=.seq its.toArray n }) (hf:f its.toArray=its'.toArray) (hv:Af ys its') (hz:ys.length<=sizeLine) :
  AL X pins σ (AJ H l (.AN ys)) { s with heap:=s.heap.update l (Obj.mapSeq f),toks:=t' }:=by
 have q:=PySem.IsL.update e f;rw[hf] at q;refine I.Ga (x:=l) (e:=l) (by rw[hH]; exact trivial) (.inl rfl) (λb' u hb hu=>(Heap.get?_update_other s.heap (Obj.mapSeq f) (Ne.symm hb)).trans hu) ⟨_,q⟩ ?_;exact⟨hz,its',_,hv,q⟩
theorem AL.Zv{its:List Value}{t':Nat}(I:AL X pins σ H s)(hv:Af ys its)(hz:ys.length<=sizeLine):
  AL X pins σ (AJ H s.heap.objs.size (.AN ys)) { s with heap:=s.heap.push { cls:=.type "list",data:=.seq its.toArray },toks:=t' } :=
 I.laid (λ_ _ q=>Heap.get?_push_of_some _ q) (Nat.le_refl _) ⟨hz,its,0,hv,Heap.get?_push_size _ rfl⟩
theorem AL.fresh(I:AL X pins σ H s):H s.heap.objs.size=none:=I.hok.fresh (Nat.le_refl _)
theorem AL.Gm(I:AL X pins σ H s)(hH:H l=some (.AN xs)):xs.length<=sizeLine/\∃(its:List Value) (n:Nat),Af xs its/\xs.length=its.length/\s.heap.get? l=some { cls:=.type "list",data:=.seq its.toArray n }:=by
 obtain⟨z,its,n,r,e⟩:=I.hok l _ hH;exact⟨z,its,n,r,r.length,e⟩
theorem VO{n:Nat}(h:n<=sizeLine):Builtin.List.listTooLong n=false:=by
 unfold Builtin.List.listTooLong;exact decide_eq_false (by omega)
end
section
variable {X:Cx}
inductive RU(x:V)(vs:List V)(H:Hp)(Q:VK):Prop
 | mk (l:Addr) (xs:List V) (y:V) (e1:x=.ref l) (e2:vs=[y]) (h:H l=some (.AN xs)) (n:xs.length<sizeLine) (q:Q .An (AJ H l (.AN (xs++[y])))):RU x vs H Q
def Wq:V->List V->Hp->VK->Prop:=λx vs H Q=>RU x vs H Q
theorem UA:JZ X "list.append" Wq:=by
 intro pins s σ H x vs v us Q I rx rv h;obtain⟨l,xs,y,rfl,rfl,hH,hz,q⟩:=h;cases rx;obtain⟨u,rfl,ru⟩:=rv.one;obtain⟨z,its,n,r,hl,e⟩:=I.Gm hH;refine call_meets F.slot_list_append ⟨_,e,rfl⟩ F.entry_list_append (F.args_list_append_2 _ _) (PySem.list_append l its.toArray n u (by rw[List.size_toArray]; omega)) ⟨e,?_⟩;refine⟨.An,_,I.K4 (its':=its++[u]) hH e (by simp) (r.Eb (.cons ru .nil)) ?_,rfl,q⟩;rw[List.length_append,List.length_singleton];omega
def WK:V->List V->Hp->VK->Prop:=λx vs H Q=>∃l b xs zs,x=.ref l/\vs=[.ref b]/\H l=some (.AN xs)/\H b=some (.AN zs)/\xs.length+zs.length<=sizeLine/\Q .An (AJ H l (.AN (xs++zs)))
theorem Uw:JZ X "list.extend" WK:=by
 intro pins s σ H x vs v us Q I rx rv h;obtain⟨l,b,xs,zs,rfl,rfl,hH,hB,hz,q⟩:=h;cases rx;obtain⟨u,rfl,ru⟩:=rv.one;cases ru;obtain⟨z,its,n,r,hl,e⟩:=I.Gm hH;obtain⟨z2,its2,n2,r2,hl2,e2⟩:=I.Gm hB;have hsz:its.toArray.size+its2.toArray.size<=sizeLine:=by rw[List.size_toArray,List.size_toArray]; omega
 have hlong:¬(!its.toArray.isEmpty && Builtin.List.listTooLong (its.toArray.size+its2.toArray.size))=true:=by
  rw[VO hsz,Bool.and_false];exact Bool.false_ne_true
 refine call_meets F.slot_list_extend ⟨_,e,rfl⟩ F.entry_list_extend (F.args_list_extend_2 _ _)
  (AutoSeq1.list_extend_list_list_0 l its.toArray n b its2.toArray n2 hlong (by rw[List.size_toArray]; omega) (by omega)) ⟨e,e2,?_⟩
 refine⟨.An,_,I.K4 (its':=its++its2) hH e (by simp) (r.Eb r2) ?_,rfl,q⟩;rw[List.length_append];omega
def Xl:V->List V->Hp->VK->Prop:=λx vs H Q=>∃l xs i k y,x=.ref l/\vs=[.int i]/\H l=some (.AN xs)/\-(2 ^ 63)<=i/\i<2 ^ 63/\seqIndex? i xs.length=some k/\xs[k]?=some y/\Q y (AJ H l (.AN (xs.eraseIdx k)))
theorem Vo:JZ X "list.pop" Xl:=by
 intro pins s σ H x vs v us Q I rx rv h;obtain⟨l,xs,i,k,y,rfl,rfl,hH,h1,h2,hk,hy,q⟩:=h;cases rx;obtain⟨u,rfl,ru⟩:=rv.one;obtain⟨t,rfl⟩:=ru;obtain⟨z,its,n,r,hl,e⟩:=I.Gm hH;obtain⟨w,hw,rw'⟩:=r.get hy;refine call_meets F.slot_list_pop ⟨_,e,rfl⟩ F.entry_list_pop (F.args_list_pop_2 _ _)
  (MeetsSeq.list_pop_at l its.toArray n i t k w (fitsIndex_both h1 h2) (by rw[List.size_toArray,<-hl]; exact hk) (by rw[<-Array.getElem?_toList]; exact hw) (by rw[List.size_toArray]; omega)) ⟨e,?_⟩
 refine⟨y,_,I.K4 (its':=its.eraseIdx k) hH e ?_ (r.eraseIdx k) ?_,rw',q⟩
 ·show its.toArray.eraseIdxIfInBounds k=(its.eraseIdx k).toArray;rw[List.eraseIdxIfInBounds_toArray]
 ·have:=OV xs k
  omega
inductive Ry(x y:V)(H:Hp)(Q:VK):Prop
 | mk (l b:Addr) (xs zs:List V) (e1:x=.ref l) (e2:y=.ref b) (h1:H l=some (.AN xs)) (h2:H b=some (.AN zs)) (n:xs.length+zs.length<=sizeLine) (q:∀p,H p=none->Q (.ref p) (AJ H p (.AN (xs++zs)))):Ry x y H Q
def R4:R2:=λx y H Q=>Ry x y H Q
theorem Ec:BS X (binaryOp .Add) R4:=by
 intro pins s σ H x y v u Q I rx ry h;obtain⟨l,b,xs,zs,rfl,rfl,hH,hB,hz,q⟩:=h;cases rx;cases ry;obtain⟨z,its,n,r,hl,e⟩:=I.Gm hH;obtain⟨z2,its2,n2,r2,hl2,e2⟩:=I.Gm hB;refine PySem.P.add_list e e2 ?_ (by rw[List.size_toArray,List.size_toArray]; omega);have ea:its.toArray++its2.toArray=(its++its2).toArray:=by simp
 rw[ea];exact⟨.ref _,_,I.Zv (t':=s.toks) (r.Eb r2) (by rw[List.length_append]; omega),rfl,q _ I.fresh⟩
end
section
variable {prog:Program} {w:World} {A:Around} {E:Value->Shared->Prop} {s:Shared}
end
section
variable {X:Cx}
end
section
variable {κ:Type} [DecidableEq κ]
def B4(kvs:List (κ×V))(k:κ):Option V:=(kvs.find? λkv=>decide (kv.1=k)).map (·.2)
def Dp(kvs:List (κ×V))(k:κ)(v:V):List (κ×V) :=
 if (kvs.any λkv=>decide (kv.1=k))=true then kvs.map (λkv=>if kv.1=k then (kv.1,v) else kv) else kvs++[(k,v)]
def Qv(kvs:List (κ×V))(k:κ):List (κ×V):=kvs.filter λkv=>decide (kv.1≠k)
theorem EX{p:κ×V}{r:List (κ×V)}{k:κ}(e:p.1=k):B4 (p :: r) k=some p.2:=by simp[B4,List.find?_cons,e]
theorem EY{p:κ×V}{r:List (κ×V)}{k:κ}(e:¬p.1=k):B4 (p :: r) k=B4 r k:=by simp[B4,List.find?_cons,e]
theorem Jv(k:κ):∀kvs:List (κ×V),(kvs.any λkv=>decide (kv.1=k))=(B4 kvs k).isSome
 | []=>rfl
 | p :: r=>by
  rw[List.any_cons];by_cases e:p.1=k
  ·simp only[EX e,decide_eq_true e,Bool.true_or,Option.isSome_some]
  ·rw[EY e,decide_eq_false e,Bool.false_or]; exact Jv k r
theorem Ol(k j:κ)(y:V):∀kvs:List (κ×V),B4 (kvs.map λkv=>if kv.1=k then (kv.1,y) else kv) j=(B4 kvs j).map λx=>if j=k then y else x
 | []=>rfl
 | p :: r=>by
  have ih:=Ol k j y r;rw[List.map_cons];by_cases h:p.1=k
  ·rw[if_pos h];by_cases e:p.1=j
   ·rw[EX (p:=(p.1,y)) e,EX e,Option.map_some,if_pos (e.symm.trans h)]
   ·rw[EY (p:=(p.1,y)) e,EY e,ih]
  ·rw[if_neg h];by_cases e:p.1=j
   ·rw[EX (p:=p) e,EX e,Option.map_some,if_neg (λz=>h (e.trans z))]
   ·rw[EY (p:=p) e,EY e,ih]
theorem OG(k j:κ)(y:V):∀kvs:List (κ×V),B4 kvs k=none->B4 (kvs++[(k,y)]) j=if j=k then some y else B4 kvs j
 | [],_=>by
  by_cases e:k=j
  ·rw[if_pos e.symm]; exact EX (p:=(k,y)) e
  ·rw[if_neg (λz=>e z.symm)]; exact EY (p:=(k,y)) e
 | p :: r,hn=>by
  rw[List.cons_append];have hk:¬p.1=k:=λz=>by rw[EX z] at hn; cases hn
  rw[EY hk] at hn;have ih:=OG k j y r hn;by_cases e:p.1=j
  ·rw[EX e,EX e,if_neg (λz=>hk (e.trans z))]
  ·rw[EY e,EY e,ih]
theorem WE(kvs:List (κ×V))(k j:κ)(y:V):B4 (Dp kvs k y) j=if j=k then some y else B4 kvs j:=by
 unfold Dp;by_cases a:(kvs.any λkv=>decide (kv.1=k))=true
 ·rw[if_pos a,Ol];rw[Jv] at a;by_cases e:j=k
  ·obtain⟨x,hx⟩:=Option.isSome_iff_exists.mp a;rw[if_pos e,e,hx,Option.map_some,if_pos rfl]
  ·rw[if_neg e];cases B4 kvs j with
   | none=>rfl
   | some x=>rw[Option.map_some,if_neg e]
 ·rw[if_neg a];refine OG k j y kvs ?_;rw[Jv] at a;cases q:B4 kvs k with
  | none=>rfl
  | some x=>rw[q] at a; exact(a rfl).elim
theorem LX(kvs:List (κ×V))(k:κ)(v:V):(Dp kvs k v).length<=kvs.length+1:=by
 unfold Dp;split
 ·rw[List.length_map]; omega
 ·rw[List.length_append,List.length_cons,List.length_nil]; omega
theorem DL.Lg{o:Option V}{u:Option Value}(r:DL o u):o.isSome=u.isSome:=by
 cases o with
 | none=>cases u with
  | none=>rfl
  | some _=>exact(show False from r).elim
 | some _=>cases u with
  | none=>exact(show False from r).elim
  | some _=>rfl
theorem DL.getD{o:Option V}{u:Option Value}{d:V}{d':Value}(r:DL o u)(rd:Au d d'):Au (o.getD d) (u.getD d'):=by
 cases o with
 | none=>cases u with
  | none=>exact rd
  | some _=>exact(show False from r).elim
 | some _=>cases u with
  | none=>exact(show False from r).elim
  | some _=>exact r
theorem KV.val{kvs:List (κ×V)}{vs:List (κ×Value)}(r:KV kvs vs)(k:κ):DL (B4 kvs k) (valueAt vs k):=by
 unfold KV at r
 induction r with
 | nil=>exact True.intro
 | @cons p q ps qs h t ih =>
  obtain⟨h1,h2⟩:=h;by_cases e:p.1=k
  ·have e':q.1=k:=h1.symm.trans e;have b:valueAt (q :: qs) k=some q.2:=by simp[valueAt,List.find?_cons,e']
   rw[EX e,b]; exact h2
  ·have e':¬q.1=k:=λz=>e (h1.trans z)
   have b:valueAt (q :: qs) k=valueAt qs k:=by simp[valueAt,List.find?_cons,e']
   rw[EY e,b]; exact ih
theorem KV.any{kvs:List (κ×V)}{vs:List (κ×Value)}(r:KV kvs vs)(k:κ):(kvs.any λkv=>decide (kv.1=k))=vs.any λkv=>decide (kv.1=k):=by
 unfold KV at r
 induction r with
 | nil=>rfl
 | cons h t ih=>rw[List.any_cons,List.any_cons,ih,h.1]
theorem KV.Mw{kvs:List (κ×V)}{vs:List (κ×Value)}(r:KV kvs vs)(k:κ){y:V}{u:Value}(ry:Au y u):
  KV (kvs.map λkv=>if kv.1=k then (kv.1,y) else kv) (vs.map λkv=>if kv.1=k then (kv.1,u) else kv):=by
 unfold KV at r ⊢
 induction r with
 | nil=>exact .nil
 | @cons p q ps qs h t ih =>
  rw[List.map_cons,List.map_cons];refine .cons ?_ ih;obtain⟨h1,h2⟩:=h;by_cases e:p.1=k
  ·rw[if_pos e,if_pos (h1.symm.trans e)]; exact⟨h1,ry⟩
  ·rw[if_neg e,if_neg (λz=>e (h1.trans z))]; exact⟨h1,h2⟩
theorem KV.put{kvs:List (κ×V)}{vs:List (κ×Value)}(r:KV kvs vs)(k:κ){y:V}{u:Value}(ry:Au y u):KV (Dp kvs k y) (stored vs k u):=by
 unfold Dp stored;rw[r.any k];by_cases e:(vs.any λkv=>decide (kv.1=k))=true
 ·rw[if_pos e,if_pos e]; exact r.Mw k ry
 ·rw[if_neg e,if_neg e]; exact Paired.snoc r ⟨rfl,ry⟩
theorem KV.drop{kvs:List (κ×V)}{vs:List (κ×Value)}(r:KV kvs vs)(k:κ):KV (Qv kvs k) (without vs k):=by
 unfold KV at r ⊢;unfold Qv without
 induction r with
 | nil=>exact .nil
 | @cons p q ps qs h t ih =>
  obtain⟨h1,h2⟩:=h;rw[List.filter_cons,List.filter_cons];by_cases e:p.1=k
  ·have a:¬decide (p.1≠k)=true:=by simp[e]
   have b:¬decide (q.1≠k)=true:=by simp[h1.symm.trans e]
   rw[if_neg a,if_neg b]; exact ih
  ·have e':¬q.1=k:=λz=>e (h1.trans z)
   have a:decide (p.1≠k)=true:=by simp[e]
   have b:decide (q.1≠k)=true:=by simp[e']
   rw[if_pos a,if_pos b]; exact .cons ⟨h1,h2⟩ ih
theorem KV.length{kvs:List (κ×V)}{vs:List (κ×Value)}(r:KV kvs vs):kvs.length=vs.length:=Paired.length r
end
theorem MV{P:Program}{w:World}{k:A3}{u:Value}(r:Au (kV k) u):(D2 P w).is k u=true:=by
 cases k with
 | inl i=>obtain⟨t,e⟩:=(show ∃t,u=Value.int i t from r); subst e; exact TB P w i t
 | inr x=>obtain⟨t,e⟩:=(show ∃t,u=Value.str x t from r); subst e; exact S9 P w x t
theorem OW{P:Program}{w:World}:∀{ks:List A3} {us:List Value},Af (ks.map kV) us->ItemsAre (D2 P w) ks us
 | [],_,r=>by rw[List.map_nil] at r; cases r; exact .nil
 | k :: ks,_,r=>by
  rw[List.map_cons] at r;cases r with
  | cons h t=>exact .cons (MV h) (OW t)
abbrev KT(H:Hp):List (List A3×V)->List (List A3×Addr×Value)->Prop:=Paired λp q=>p.1=q.1/\H q.2.1=some (.AG (p.1.map kV))/\Au p.2 q.2.2
theorem KT.val{H:Hp}{kvs:List (List A3×V)}{xs:List (List A3×Addr×Value)}(r:KT H kvs xs)(k:List A3):DL (B4 kvs k) ((atKey xs k).map (·.2)):=by
 induction r with
 | nil=>exact True.intro
 | @cons p q ps qs h t ih =>
  obtain⟨h1,_,h2⟩:=h;by_cases e:p.1=k
  ·have e':q.1=k:=h1.symm.trans e;have b:atKey (q :: qs) k=some q.2:=by simp[atKey,List.find?_cons,e']
   rw[EX e,b]; exact h2
  ·have e':¬q.1=k:=λz=>e (h1.trans z)
   have b:atKey (q :: qs) k=atKey qs k:=by simp[atKey,List.find?_cons,e']
   rw[EY e,b]; exact ih
theorem KT.Mw{H:Hp}{kvs:List (List A3×V)}{xs:List (List A3×Addr×Value)}(r:KT H kvs xs)(k:List A3){y:V}{u:Value}(ry:Au y u):
  KT H (kvs.map λkv=>if kv.1=k then (kv.1,y) else kv) (xs.map (putAt k u)):=by
 induction r with
 | nil=>exact .nil
 | @cons p q ps qs h t ih =>
  rw[List.map_cons,List.map_cons];refine .cons ?_ ih;obtain⟨h1,h2,h3⟩:=h;unfold putAt;by_cases e:p.1=k
  ·rw[if_pos e,if_pos (h1.symm.trans e)]; exact⟨h1,h2,ry⟩
  ·rw[if_neg e,if_neg (λz=>e (h1.trans z))]; exact⟨h1,h2,h3⟩
theorem KT.put{H:Hp}{kvs:List (List A3×V)}{xs:List (List A3×Addr×Value)}(r:KT H kvs xs)(k:List A3){b:Addr}{y:V}{u:Value}(hb:H b=some (.AG (k.map kV)))(ry:Au y u):
  KT H (Dp kvs k y) (storedH xs k b u):=by
 have e:(kvs.any λkv=>decide (kv.1=k))=(atKey xs k).isSome:=by
  rw[Jv,(r.val k).Lg,Option.isSome_map]
 unfold Dp storedH;rw[e];by_cases q:(atKey xs k).isSome=true
 ·rw[if_pos q,if_pos q]; exact r.Mw k ry
 ·rw[if_neg q,if_neg q]; exact Paired.snoc r ⟨rfl,hb,ry⟩
theorem KT.keeps{H H':Hp}{kvs:List (List A3×V)}{xs:List (List A3×Addr×Value)}(r:KT H kvs xs)(ht:∀b ys,H b=some (.AG ys)->H' b=some (.AG ys)):KT H' kvs xs :=
 Paired.NL r λ_ _ z=>⟨z.1,ht _ _ z.2.1,z.2.2⟩
section
variable {P:Program} {w:World} {H:Hp} {h:Heap} {a:Addr}
theorem Qx{u:HO}(ok:BN P w H h)(e:Rd H a u):Bf P w H h a u:=e.ok ok
theorem Q7{kvs:List (A3×V)}(ok:BN P w H h)(e:Rd H a (.dK kvs)):kvs.length<=sizeLine/\(a == sysModules)=false/\∃vs,KV kvs vs/\h.DictOf (D2 P w) a vs :=
 show Bf P w H h a (.dK kvs) from Qx ok e
theorem Yn{kvs:List (A3×V)}(ok:BN P w H h)(e:H a=some (.dK kvs)):kvs.length<=sizeLine/\(a == sysModules)=false/\∃vs,KV kvs vs/\h.DictOf (D2 P w) a vs:=Q7 ok (.inl e)
theorem MH{ks:List A3}(ok:BN P w H h)(e:H a=some (.AG (ks.map kV))):(tupleKind (D2 P w)).is h ks a:=by
 obtain⟨_,its,r,⟨o,h1,h2,n,h3⟩,_⟩:=(show Bf P w H h a (.AG (ks.map kV)) from ok a _ e);exact⟨o,its.toArray,n,h1,h2,h3,by simpa using OW r⟩
theorem RF{kvs:List (List A3×V)}(ok:BN P w H h)(e:Rd H a (.dT kvs)):kvs.length<=sizeLine/\(a == sysModules)=false /\
  ∃xs,KT H kvs xs/\h.DictOfH (tupleKind (D2 P w)) a xs:=by
 obtain⟨z,y,xs,r,o,es,ep,h1,h2,h3,h4,h5⟩:=(show Bf P w H h a (.dT kvs) from Qx ok e);refine⟨z,y,xs,r,o,es,ep,h1,h2,h3,h4,λx hx=>?_,h5⟩;have all:∀{l:List (List A3×V)} {m:List (List A3×Addr×Value)},KT H l m->∀x∈m,(tupleKind (D2 P w)).is h x.1 x.2.1:=by
  intro l m q
  induction q with
  | nil=>intro x hx; exact nomatch hx
  | @cons p q ps qs hq t ih =>
   intro x hx;rcases List.mem_cons.mp hx with e | hx
   ·subst e;exact MH ok (by rw[<-hq.1]; exact hq.2.1)
   ·exact ih x hx
 exact all r x hx
theorem Yg{kvs:List (List A3×V)}(ok:BN P w H h)(e:H a=some (.dT kvs)):kvs.length<=sizeLine/\(a == sysModules)=false /\
  ∃xs,KT H kvs xs/\h.DictOfH (tupleKind (D2 P w)) a xs:=RF ok (.inl e)
end
def JO(H:Hp)(a:Addr)(y:V)(r:Option V):Prop :=
 (∃kvs k,Rd H a (.dK kvs)/\y=kV k/\r=B4 kvs k)\/∃kvs k b,Rd H a (.dT kvs)/\y=.ref b/\H b=some (.AG (k.map kV))/\r=B4 kvs k
def JM(H:Hp)(a:Addr)(y v:V)(H':Hp):Prop :=
 (∃kvs k,H a=some (.dK kvs)/\y=kV k/\kvs.length<sizeLine/\H'=AJ H a (.dK (Dp kvs k v))) \/
 ∃kvs k b,H a=some (.dT kvs)/\y=.ref b/\H b=some (.AG (k.map kV))/\kvs.length<sizeLine/\H'=AJ H a (.dT (Dp kvs k v))
theorem JO.t{H:Hp}{a b:Addr}{kvs:List (List A3×V)}{k:List A3}(e:H a=some (.dT kvs))(eb:H b=some (.AG (k.map kV))):JO H a (.ref b) (B4 kvs k):=.inr ⟨kvs,k,b,.inl e,rfl,eb,rfl⟩
theorem JM.t{H:Hp}{a b:Addr}{kvs:List (List A3×V)}{k:List A3}{v:V}(e:H a=some (.dT kvs))(eb:H b=some (.AG (k.map kV)))(hl:kvs.length<sizeLine):
  JM H a (.ref b) v (AJ H a (.dT (Dp kvs k v))):=.inr ⟨kvs,k,b,e,rfl,eb,hl,rfl⟩
section
variable {X:Cx} {pins:List (Addr×Obj)} {σ:St} {H:Hp} {s:Shared} {a:Addr} {y v:V} {u r:Value} {o:Option V} {A:Around} {E:Value->Shared->Prop}
theorem AL.Nb(I:AL X pins σ H s):sysModules<s.heap.objs.size:=by
 have h:mainGlobals<s.heap.objs.size:=(I.BP.FH.keeps I.bk).lt;exact Nat.lt_trans (by decide) h
theorem WN{Q:Value->Shared->Prop}(hu:A.units+1<cLine)(I:AL X pins σ H s)(g:JO H a y o)(ry:Au y u)(h:∀s',AL X pins σ H s'->Q (.bool (!o.isSome)) s'):
  wpAny (model X.prog X.w) A (compareOp .NotIn u (.ref a)) Q E s:=by
 rcases g with ⟨kvs,k,e,ey,l⟩ | ⟨kvs,k,b,e,ey,eb,l⟩
 ·subst ey;obtain⟨z,hd,vs,rel,dd⟩:=Q7 I.hok e;refine wpAny_notIn_of (MV ry) hd dd.mapOf ?_;rw[<-(rel.val k).Lg,<-l];exact h _ (I.Dc _)
 ·subst ey;cases (show u=Value.ref b from ry);obtain⟨z,hd,xs,rel,dd⟩:=RF I.hok e;refine wpAny_notIn_heap (tupleKind_room_in1 hu) (MH I.hok eb) hd dd ?_;have q:=(rel.val k).Lg;rw[Option.isSome_map] at q;rw[<-q,<-l];exact h _ (I.Dc _)
theorem Pu{h':Heap}{t':Nat}{ob:HO}(I:AL X pins σ H s)(mu:JW (H a))(hs:Heap.SameBut a s.heap h')(he:∃q,h'.get? a=some q)(new:Bf X.prog X.w (AJ H a ob) h' a ob):
  AL X pins σ (AJ H a ob) { s with heap:=h',toks:=t' } :=
 I.Ga (x:=a) (e:=a) mu (.inl rfl) (λb q hb z=>(hs.2 b hb).trans z) he new
theorem Xt{P:Program}{w:World}{H':Hp}{h':Heap}{kvs:List (A3×V)}{vs:List (A3×Value)}(z:kvs.length<=sizeLine)(hd:(a == sysModules)=false)(rel:KV kvs vs)(dd:h'.DictOf (D2 P w) a vs):
  Bf P w H' h' a (.dK kvs):=⟨z,hd,vs,rel,dd⟩
theorem Uo{H':Hp}{Q:Unit->Shared->Prop}(hu:A.units+1<cLine)(I:AL X pins σ H s)(g:JM H a y v H')(ry:Au y u)(rv:Au v r)(h:∀s',AL X pins σ H' s'->Q () s'):
  wpAny (model X.prog X.w) A (setItem (.ref a) u r) Q E s:=by
 rcases g with ⟨kvs,k,e,ey,l,eH⟩ | ⟨kvs,k,b,e,ey,eb,l,eH⟩
 ·subst ey eH;obtain⟨z,hd,vs,rel,dd⟩:=Yn I.hok e;have hz:vs.length<=sizeLine:=by rw[<-rel.length]; exact z
  have hl:(Dp kvs k v).length<=sizeLine:=by have:=LX kvs k v; omega
  refine wpAny_setItem_pairs (hsz:=hz) (MV ry) dd λh' dd' hs=>h _ ?_
  have he:∃q,h'.get? a=some q:=let ⟨q,_,_,hq,_⟩:=dd'; ⟨q,hq⟩
  exact Pu I (by rw[e]; exact True.intro) hs he (Xt hl hd (rel.put k rv) dd')
 ·subst ey eH;cases (show u=Value.ref b from ry);obtain⟨z,hd,xs,rel,dd⟩:=Yg I.hok e;have hz:xs.length<=sizeLine:=by rw[<-Paired.length rel]; exact z
  have hl:(Dp kvs k v).length<=sizeLine:=by have:=LX kvs k v; omega
  refine wpAny_setItem_heap (hsz:=hz) (tupleKind_room_in1 hu) (MH I.hok eb) dd λh' dd' hs=>h _ ?_
  obtain⟨q,es,ep,hq,h2,h3,h4,_,h5⟩:=dd';refine Pu I (by rw[e]; exact True.intro) hs ⟨q,hq⟩ ⟨hl,hd,_,(rel.put k eb rv).keeps λc ys ec=>?_,q,es,ep,hq,h2,h3,h4,h5⟩;rw[Ao (Yx ec e (λz=>nomatch z))];exact ec
end
section
variable {X:Cx} {pins:List (Addr×Obj)} {σ:St} {H:Hp} {s:Shared} {a:Addr} {kvs:List (A3×V)} {k:A3} {u:Value} {A:Around} {E:Value->Shared->Prop}
end
inductive Qj(x y v:V)(H:Hp)(Q:Hp->Prop):Prop
 | mk (a:Addr) (H4:Hp) (e:x=.ref a) (d:JM H a y v H4) (q:Q H4):Qj x y v H Q
def W7(ty td:TE):TE:=λσ H Q=>ty σ H λy H1=>td σ H1 λx H2=>∃a o,x=.ref a/\JO H2 a y o/\Q (.bl (!o.isSome)) H2
def Yb(td ty tv:TE):TS:=λD σ H=>tv σ H λv H1=>td σ H1 λx H2=>ty σ H2 λy H3=>Qj x y v H3 (D.nx σ)
section
variable {X:Cx} {o i e value:Expr} {pos pos' tpos:Pos} {td ty tv:TE}
theorem UZ(hu:X.A.units+1<cLine)(hi:PE X i ty)(ho:PE X o td):PC X .NotIn i o (W7 ty td):=by
 intro pins s σ H Q I h;refine AZ (hi pins s σ H _ I h) λiv s1 ⟨y,H1,I1,ry,q1⟩=>AZ (ho pins s1 σ H1 _ I1 q1) λu s2 ⟨x,H2,I2,rx,a,ov,ex,g,q2⟩=>?_
 subst ex;obtain rfl:u=Value.ref a:=rx;exact WN hu I2 g ry λs3 I3=>⟨.bl (!ov.isSome),H2,I3,rfl,q2⟩
theorem XH(hu:X.A.units+1<cLine)(ho:PE X o td)(hi:PE X i ty)(hv:PE X value tv)(hs:swapsWith value (some (.Subscript o i pos')) pos.line X.env=pure false):
  PS X (.Assign [.Subscript o i pos'] value pos) (Yb td ty tv):=by
 intro pins s σ H D I h;refine wpAny_Assign_Subscript (AZ (hv pins s σ H _ I h) λr s1 ⟨v,H1,I1,rv,q1⟩=>AZ (ho pins s1 σ H1 _ I1 q1) λu s2 ⟨x,H2,I2,rx,q2⟩=>AZ (hi pins s2 σ H2 _ I2 q2) λiv s3 ⟨y,H3,I3,ry,a,H4,ex,g,q3⟩=>?_) hs;subst ex;obtain rfl:u=Value.ref a:=rx;exact Uo hu I3 g ry rv λs4 I4=>⟨σ,H4,I4,q3⟩
end
theorem V2{P:Program}{w:World}{H:Hp}(h:Heap)(hb:sysModules<h.objs.size):Bf P w H (h.push { cls:=.type "dict",data:=.dict #[] }) h.objs.size (.dT []) :=
 ⟨Nat.zero_le _,beq_eq_false_iff_ne.mpr (Ne.symm (Nat.ne_of_lt hb)),[],.nil,_,#[],0,Heap.get?_push_size _ rfl,⟨rfl,rfl,rfl⟩,rfl,rfl,List.nodup_nil⟩
def Xd:TE:=λ_ H Q=>∀p,H p=none->Q (.ref p) (AJ H p (.dT []))
section
variable {X:Cx} {pos:Pos}
theorem VP:PE X (.Dict [] [] pos) Xd:=λpins s σ H Q I h =>
 wpAny_Dict_empty ⟨.ref s.heap.objs.size,_,I.laid (a:=s.heap.objs.size) (o:=.dT []) (t':=s.toks) (λ_ _ q=>Heap.get?_push_of_some _ q) (Nat.le_refl _) (V2 s.heap I.Nb),rfl,h _ (I.hok.fresh (Nat.le_refl _))⟩
end
structure M1(X:Cx)(o:Expr)(m:Str)(apos:Pos)(e:Expr)(cpos:Pos):Prop where
 base:attributeBase o m X.env (eval o X.env)=eval o X.env
 few:((backTo cpos (starEach [e] X.env)).all (λx=>!x.1) && (backToKw cpos (keywordEach [] X.env)).all (λx=>x.1.isSome)
  && decide (([e]:List Expr).length+([]:List Keyword).length+(if ([]:List Keyword).isEmpty then 0 else 1)<30))=true
 line:(apos.endLine == cpos.line)=true
 Yp:backTo cpos (starEach [e] X.env)=[(false,eval e X.env)]
structure M2(X:Cx)(o:Expr)(m:Str)(apos:Pos)(e f:Expr)(cpos:Pos):Prop where
 base:attributeBase o m X.env (eval o X.env)=eval o X.env
 few:((backTo cpos (starEach [e,f] X.env)).all (λx=>!x.1) && (backToKw cpos (keywordEach [] X.env)).all (λx=>x.1.isSome)
  && decide (([e,f]:List Expr).length+([]:List Keyword).length+(if ([]:List Keyword).isEmpty then 0 else 1)<30))=true
 line:(apos.endLine == cpos.line)=true
 Yp:backTo cpos (starEach [e,f] X.env)=[(false,eval e X.env),(false,eval f X.env)]
section
variable {X:Cx} {pins:List (Addr×Obj)} {σ:St} {H:Hp} {s:Shared} {a:Addr} {y d:V} {u r:Value} {o:Option V} {A:Around} {E:Value->Shared->Prop}
end
section
variable {X:Cx} {o e f:Expr} {apos cpos:Pos} {td ty tx:TE}
end
section
variable {X:Cx} {pins:List (Addr×Obj)} {σ:St} {H:Hp} {s:Shared} {a:Addr} {kvs:List (A3×V)} {A:Around} {E:Value->Shared->Prop}
end
section
variable {X:Cx} {pins:List (Addr×Obj)} {σ:St} {H:Hp} {s:Shared} {a:Addr} {y:V} {u:Value} {A:Around} {E:Value->Shared->Prop}
end
end L2
namespace Att
open PySem PySem.W PySem.Calls PyProof.Rows
theorem Se{P:Params}{h:Heap}:∀(ns:List Int) (vs:List Value),WellAll P h vs (ns.map WData.int)->IntsAre vs ns:=by
 intro ns
 induction ns with
 | nil =>
  intro vs w;rw[List.map_nil] at w;cases w;exact .nil
 | cons n ns ih =>
  intro vs w;rw[List.map_cons] at w;cases w with
  | cons a b =>
   cases a;exact .cons _ _ (ih _ b)
theorem UE {l:OpenLaw} {n:Nat} (hn:l.most=some n) {P:Params} {h:Heap} {args:List WData} {vals:List Value}
  (hpre:l.row.toRowW.claim.pre args=true) (hwl:WellAll P h vals args) :
  ∃a vs ns,vals=[Value.ref a]/\args=[WData.list (ns.map WData.int)]/\h.get? a=some { cls:=.type "list",data:=.seq vs.toArray }/\IntsAre vs ns/\ns.length<=n:=by
 have hsh:WShape.hasAll [] args [.list .int]=true:=(pre_splitW hpre).1;have hc:l.pre.holds [] { args:=args }=true:=(pre_splitW hpre).2;obtain⟨d,r,rfl,h1,h2⟩:=hasAllW_cons hsh;obtain rfl:=hasAllW_nil h2;obtain⟨xs,rfl,h3⟩:=hasW_list h1;obtain⟨ns,rfl⟩:=items_int h3;have hlen:ns.length<=n:=by
  unfold OpenLaw.pre at hc;have h4:(WTm.not (.lt (.lit (.int (n:Int))) (.len (.arg 0)))).holds [] { args:=[.list (ns.map .int)] }=true:=by
   have h4:=(holds_andW hc).1;rw[hn] at h4;exact h4
  have h5:=condW_of h4 (w_not (w_lt w_lit (w_len_list (w_arg rfl))));rw[List.length_map] at h5;refine Nat.le_of_not_lt λq=>?_
  have q':(n:Int)<((ns.length:Nat):Int):=by omega
  first
   | (rw[decide_eq_true q'] at h5; exact absurd h5 (by decide))
   | (simp at h5; omega)
 cases hwl with
 | cons w1 w2 =>
  cases w2;cases w1 with
  | list ho hall=>exact⟨_,_,ns,rfl,rfl,ho,Se ns _ hall,hlen⟩
theorem UB(l:OpenLaw)(args:List WData):l.row.toRowW.claim.post args (.bool true) args=true :=
 postW_of (r:=l.row.toRowW) (X:=(true == true))
  (show WShape.has [] (.bool true) .bool=true by first | rfl | decide | simp[WShape.has,WShape.arms,WShape.armsAll])
  (show(WTm.eq .res (.lit (.bool true))).value [] { args:=args,res:=some (.bool true),after:=args }=some (.bool (true == true)) from w_eq_bool (w_res rfl) w_lit) rfl
theorem Sw {l:OpenLaw} {n:Nat} {q:Program} {loose:List Str} {XP:(Str->Option Value)->Heap->Prop} {YP:World->Heap->Prop} {d:DefRec}
  (hn:l.most=some n) (hdf:d.params.defaults=[])
  (call:∀(w:World) (s₀ s₁:Shared) (mg mb:Str->Option Value) (fa:Addr) (o:Obj) (pm cd doc:Value) (a:Addr) (vs:List Value) (ns:List Int),
   Ground q loose [] XP w s₀ mg mb s₁.heap->YP w s₁.heap →
   s₁.heap.get? fa=some o->o.data=.func (docDef d.name d.params d.body d.scope pm cd doc)->s₁.heap.CodeRec cd d.name->mg d.name=some (.ref fa) →
   s₁.heap.get? a=some { cls:=.type "list",data:=.seq vs.toArray }->IntsAre vs ns->ns.length<=n->s₁.gens = #[] →
   codeAny (model l.prog w) callerA (.call (.ref fa) ⟨[.ref a],[]⟩) (λr s'=>r=.ok (.ret (.bool true))/\OldK s₁.heap s'.heap/\s'.os=s₁.os/\AllBare s'.gens) s₁) :
  WalkO q loose XP YP l.row.toRowW d [] (λf vs=>PySem.call f vs):=by
 intro w s₀ s₁ mg mb G Y fa o pm cd doc dV kV ho hd hcd hD hmg hg args vals as hpre hlay hrd hwl hlo;obtain rfl:dV=.none:=Dflts.none hD hdf;obtain rfl:kV=.none:=Dflts.noKw hD;obtain⟨a,vs,ns,rfl,rfl,hobj,hints,hlen⟩:=UE hn hpre hwl;refine enter_call (codeAny_mono (call w s₀ s₁ mg mb fa o pm cd doc a vs ns G Y ho (fd_plain hd) hcd hmg hobj hints hlen hg) λr s' hq=>?_);obtain⟨rfl,h2,h3,h4⟩:=hq;exact⟨.inl ⟨.bool true,.bool true,[],rfl,λ_=>rfl,.bool true,UB l _,λ_=>⟨List.Pairwise.nil,λ_ hm=>(nomatch hm)⟩⟩,h2,h3,h4⟩
section
variable {prog:Program} {w:World} {A:Around} {E:Value->Shared->Prop} {s:Shared} {K:Frag}
def JB(h:Heap):Heap:={ h with objs:=#[] }
theorem LY(h:Heap)(b:Addr):(JB h).get? b=none:=by
 cases e:(JB h).get? b with
 | none=>rfl
 | some o=>exact absurd (Heap.lt_size e) (Nat.not_lt_zero _)
def Km(h:Heap)(L d:Addr):List (Addr×Obj):=(List.range h.objs.size).filterMap λa=>if a=L\/a=d then none else (h.get? a).map λo=>(a,o)
theorem LZ{h:Heap}{L d a:Addr}{o:Obj}:(a,o)∈Km h L d↔a≠L/\a≠d/\h.get? a=some o:=by
 unfold Km;rw[List.mem_filterMap];constructor
 ·rintro⟨b,_,e⟩;split at e
  ·cases e
  ·rename_i hb
   obtain⟨o',ho,e'⟩:=Option.map_eq_some_iff.mp e;cases e';exact⟨λq=>hb (.inl q),λq=>hb (.inr q),ho⟩
 ·rintro⟨n1,n2,ho⟩;refine⟨a,List.mem_range.mpr (Heap.lt_size ho),?_⟩;rw[if_neg (show ¬(a=L\/a=d) from λq=>q.elim n1 n2),ho] <;> rfl
theorem S0{h:Heap}{L d:Addr}{od:Obj}(hne:d≠L)(ho:h.get? d=some od):News (JB h) L h ([]++(d,od) :: Km h L d):=by
 rintro⟨a,o⟩ hp;rcases List.mem_cons.mp hp with e | hp
 ·cases e;exact⟨ho,hne,LY _ _⟩
 ·obtain⟨n1,n2,e⟩:=LZ.mp hp;exact⟨e,n1,LY _ _⟩
theorem XW{h:Heap}{L:Addr}{m:Str->Option Value}(n:h.Ns L m):Fr (JB h) L h m :=
 ⟨n,λb o e=>(by rw[LY] at e; cases e),Nat.zero_le _⟩
theorem IW {x C dx L:Addr} {ox:Obj} {m:Str->Option Value} {es es':List DictEntry} {n n':Nat} {name:Str} {v:Value} {Q:Unit->Shared->Prop}
  (X:K.In s.heap) (I:PySem.W.InstAt s.heap x ox C (some (dictOf es n))) (hd:ox.dict=some dx) (hL:s.heap.Ns L m) (hne:dx≠L)
  (hs:findIn K (.ref C) "__setattr__" = some (some (.builtin "object.__setattr__"))) (hp:plainOver K C=true) (ht:takerIn K C name=some none) (hh:hasDictIn K C=true) (hl:(getL name es).isSome=true)
  (e:(putL name (PyData.keyHash w.params name) (.str name (s.toks+1)) v es,putN name es n)=(es',n')) (hz:es'.length<=1000)
  (h:∀h':Heap,h'.Ns L m->h'.get? dx=some (dictOf es' n')->(∀b o,b≠dx->b≠L->s.heap.get? b=some o->h'.get? b=some o)->Q () { s with heap:=h',toks:=s.toks+2 }) :
  wpAny (model prog w) A (setAttr (.ref x) name v) Q E s:=by
 obtain⟨e1,e2⟩:=Prod.mk.inj e;have hdx:s.heap.get? dx=some (dictOf es n):=by
  have:=I.dict
  rw[hd] at this;exact this
 refine set_plain X I hs (osa_dict (s:={ s with toks:=s.toks+1 }) (h₀:=JB s.heap) (L:=L) (m:=m) (od:=dictOf es n) (od':=dictOf es' n') (es:=es') (n:=n') (pre:=[]) (post:=Km s.heap L dx)
  (XW hL) (S0 hne hdx) X I hd hp ht hh hl (λ_ q=>nomatch q) (λ⟨_,_⟩ q=>(LZ.mp q).2.1) (by rw[putName_dict,e1,e2]) rfl hz λh' F' N'=>?_)
 exact h h' F'.ns (N'.get (List.Mem.head _)) λb o n1 n2 ho=>N'.get (List.Mem.tail _ (LZ.mpr ⟨n2,n1,ho⟩))
end
end Att
namespace L2
open PySem PySem.Spec PyProof.Rows
theorem OC:∀{vs:List Value} {ns:List Int},IntsAre vs ns->Af (ns.map V.int) vs
 | _,_,.nil=>.nil
 | _,_,.cons n t h=>.cons ⟨t,rfl⟩ (OC h)
def ND(H:Hp):Prop:=∀b,H b=none\/∃o xs,H b=some (.Eu o (.AN xs))
theorem Vm {P:Program} {w:World} {K:PySem.W.Frag} {mg mb:Str->Option Value} {CX:C6} {k:Nat} {fa a:Addr} {fd:FuncData} {x:Str} {sp:Sp} {s₁:Shared} {vs:List Value} {ns:List Int}
  (KX:K.In s₁.heap) (hns:s₁.heap.Ns mainGlobals mg) (hb:s₁.heap.Ns builtinsNs mb) (hbb:∀x:Str,x≠"__name__"->mb x=bootBuiltins x) (hlim:s₁.heap.NoLimit) (hg:s₁.gens = #[])
  (ha:s₁.heap.get? a=some { cls:=.type "list",data:=.seq vs.toArray }) (hi:IntsAre vs ns) (hl:ns.length<=sizeLine) (hr:BB k callerA)
  (F:∀base:Heap,K.In base->base.Ns mainGlobals mg->AH P w K mg base CX k fa fd [x] sp) (hbind:∀(s:Shared) (u:Value),BindsTo s fd ⟨[u],[]⟩ [(x,u)])
  (hsp:∀H:Hp,ND H->AR K H a (ns.map V.int)->sp [.ref a] H (λv _=>v=.bl true) λ_ _ _=>False)
  (hCX:∀H e s',CX [] H s₁ (λ_ _ _=>False) e s'->False) :
  codeAny (model P w) callerA (.call (.ref fa) ⟨[.ref a],[]⟩) (λr s'=>r=.ok (.ret (.bool true))/\OldK s₁.heap s'.heap/\s'.os=s₁.os/\AllBare s'.gens) s₁:=by
 have rv:=OC hi;have lenV:=hi.length;have core:∀H:Hp,ND H->AR K H a (ns.map V.int)->BN P w H s₁.heap->(∀b,H b≠none->b=a)->(H a≠none->K.lookup a=none) →
   codeAny (model P w) callerA (.call (.ref fa) ⟨[.ref a],[]⟩) (λr s'=>r=.ok (.ret (.bool true))/\OldK s₁.heap s'.heap/\s'.os=s₁.os/\AllBare s'.gens) s₁:=by
  intro H hO hS hok hA hK;have base_of:∀{b:Addr} {o:Obj},s₁.heap.get? b=some o->H b=none->(GB s₁.heap H).get? b=some o:=λe n=>V9 e n
  have noA:∀{b:Addr} {o:Obj} {es:Array DictEntry} {ep:Nat},s₁.heap.get? b=some o->o.data=.dict es ep->H b=none:=λ{b o es ep} e d=>by
   cases q:H b with
   | none=>rfl
   | some u =>
    have e':b=a:=hA b (by rw[q]; simp);subst e';rw[ha] at e; cases e;have d':Data.seq vs.toArray _=Data.dict es ep:=d;cases d'
  have nsK:∀{b:Addr} {m:Str->Option Value},s₁.heap.Ns b m->(GB s₁.heap H).Ns b m:=λ{b m} ⟨o,es,ep,e,d,r⟩=>⟨o,es,ep,base_of e (noA e d),d,r⟩
  have hKb:K.In (GB s₁.heap H):=λb o e=>base_of (KX b o e) (by
   cases q:H b with
   | none=>rfl
   | some u =>
    have e':b=a:=hA b (by rw[q]; simp);subst e';rw[hK (by rw[q]; simp)] at e; cases e)
  have hM:Mod K mg (GB s₁.heap H):=⟨hKb,nsK hns,⟨mb,nsK hb,hbb⟩,let ⟨mc,h1,h2⟩:=hlim; ⟨mc,nsK h1,h2⟩⟩;have e0:FG P w K mg (GB s₁.heap H) callerA [] s₁ H:=⟨rfl,hM,λb o e=>XB e,Nat.le_of_eq (U6 _ _),trivial,λb hb=>absurd (show b∈([]:List Addr) from hb) (by simp),hok,.of_eq hg⟩;refine codeAny_mono ((F _ hKb (nsK hns)).GG callerA [] s₁ H ⟨[.ref a],[]⟩ [.ref a] [.ref a] _ _ hr e0 (hbind s₁ (.ref a)) (.cons rfl .nil) (hsp H hO hS)) λr s' h=>?_
  cases r with
  | error e=>exact(hCX H e s' h).elim
  | ok fl =>
   cases fl with
   | next=>exact False.elim h
   | brk=>exact False.elim h
   | cont=>exact False.elim h
   | ret u =>
    obtain⟨v,H',os,bare,un,hok',r',q⟩:=h;have q':v=.bl true:=q;subst q';obtain rfl:u=Value.bool true:=r';refine⟨rfl,OldK.of_keep λb o e=>?_,os,bare⟩;cases q:H b with
    | none=>exact un.keep b o e q (by intro z; exact absurd (show b∈([]:List Addr) from z) (by simp)) (by simp)
    | some u =>
     rcases hO b with z | ⟨ob,xs,z⟩
     ·rw[q] at z; cases z
     ·have z2:=un.frzs b ob _ z;obtain⟨e1,_⟩:=hok b _ z;obtain⟨e2,_⟩:=hok' b _ z2;rw[e] at e1; cases e1;exact e2
 cases hk:K.lookup a with
 | some o =>
  have e:=KX a o hk;rw[ha] at e;cases e;refine core (λ_=>none) (λ_=>.inl rfl) (.inr ⟨_,vs.toArray,_,hk,rfl,rfl,rfl,by rw[List.size_toArray,lenV]; exact hl,by simpa using rv⟩) (λb u z=>by have z':(none:Option HO)=some u:=z; cases z') (λb z=>absurd rfl z) λz=>absurd rfl z
 | none =>
  refine core (λb=>if b=a then some (.Eu { cls:=.type "list",data:=.seq vs.toArray } (.AN (ns.map V.int))) else none) (λb=>?_) (.inl (.inr ⟨{ cls:=.type "list",data:=.seq vs.toArray },if_pos rfl⟩)) (λb u z=>?_) (λb z=>?_) λ_=>hk
  ·by_cases hb:b=a
   ·exact .inr ⟨_,_,if_pos hb⟩
   ·exact .inl (if_neg hb)
  ·by_cases hb:b=a
   ·have z':=(if_pos hb).symm.trans z;cases z';subst hb;exact⟨ha,by rw[List.length_map]; exact hl,vs,_,rv,ha⟩
   ·have z':=(if_neg hb).symm.trans z;cases z'
  ·by_cases hb:b=a
   ·exact hb
   ·exact absurd (if_neg hb) z
abbrev ae{K:PySem.W.Frag}{h:Heap}(_:K.In h):PySem.W.Frag:=K
theorem WQ {l:PySem.W.OpenLaw} {n k:Nat} {q:Program} {loose:List Str} {XP:(Str->Option Value)->Heap->Prop} {YP:World->Heap->Prop} {d:DefRec} {K:Params->PySem.W.Frag} {CX:World->C6} {sp:World->Sp} {x:Str}
  (hn:l.most=some n) (hn2:n<=sizeLine) (hdf:d.params.defaults=[]) (hr:BB k callerA)
  (hY:∀(w:World) (h:Heap),YP w h->(K w.params).In h)
  (F:∀(w:World) (mg:Str->Option Value) (fa:Addr) (h:Heap),(K w.params).In h->h.Ns mainGlobals mg->mg d.name=some (.ref fa) →
   ∃fd:FuncData,(∀(s:Shared) (u:Value),BindsTo s fd ⟨[u],[]⟩ [(x,u)]) /\
    ∀base:Heap,(K w.params).In base->base.Ns mainGlobals mg->AH l.prog w (K w.params) mg base (CX w) k fa fd [x] (sp w))
  (hsp:∀(w:World) (H:Hp) (a:Addr) (ns:List Int),ns.length<=n->ND H->AR (K w.params) H a (ns.map V.int)->sp w [.ref a] H (λv _=>v=.bl true) λ_ _ _=>False)
  (hCX:∀(w:World) (H:Hp) (s:Shared) (e:Value) (s':Shared),CX w [] H s (λ_ _ _=>False) e s'->False) :
  PySem.W.WalkO q loose XP YP l.row.toRowW d [] (λf vs=>PySem.call f vs):=by
 refine Att.Sw hn hdf λw s₀ s₁ mg mb fa o pm cd doc a vs ns G Y ho hd hcd hmg hobj hints hlen hg=>?_
 have KX:=hY w _ Y;obtain⟨fd,hb,hF⟩:=F w mg fa _ KX G.T.g hmg;exact Vm KX G.T.g G.T.b G.T.builtins G.T.nolimit hg hobj hints (Nat.le_trans hlen hn2) hr hF hb (λH hO hS=>hsp w H a ns hlen hO hS) λH e s'=>hCX w H s₁ e s'
def D1(s:Stmt)(j:Nat):Stmt:=match s with
 | .ClassDef _ _ _ body _ _ _ _ _ _ _=>body.getD j (.Pass ⟨0,0,0,0⟩)
 | _=>.Pass ⟨0,0,0,0⟩
def De(s:Stmt):Arguments:=match s with
 | .FunctionDef _ a _ _ _ _ _ _ _ _=>a
 | _=>{ posonlyargs:=[],args:=[],vararg:=none,kwonlyargs:=[],kw_defaults:=[],kwarg:=none,defaults:=[] }
def DA(s:Stmt):List Stmt:=match s with
 | .FunctionDef _ _ b _ _ _ _ _ _ _=>b
 | _=>[]
def Aj(s:Stmt):Scope:=match s with
 | .FunctionDef _ _ _ _ _ _ sc _ _ _=>sc
 | _=>{ kind:=.function,names:=[],isGenerator:=false,isCoroutine:=false }
abbrev AM:C6:=λ_ _ _ _ _ _=>False
abbrev E0:XK:=λ_ _ _=>False
theorem Ae{X:Cx}:EM AM X E0:=λ_ _ _ _ _ _ _ h=>h.elim
structure Ag(K:PySem.W.Frag)(x qual:Str)(st:Stmt)(f:Addr)(fd:FuncData):Prop where
 ex:∃(oc:Value) (od:Option Addr) (kV doc pm:Value) (an:Option Addr) (cdv ct:Value) (osl:Array (Option Value)),
  fd=PySem.W.fnOf x qual (De st) (DA st) (Aj st) .none kV doc pm an cdv ct/\K.lookup f=some ⟨oc,od,.func fd,osl⟩/\PySem.W.codeIn K cdv qual=true
 kp:KP K f
section
variable {P:Program} {w:World} {K:PySem.W.Frag} {mg:Str->Option Value} {base:Heap}
theorem Ag.ok {x qual:Str} {st:Stmt} {f:Addr} {fd:FuncData} {N ps:List Str} {k:Nat} {sp:Sp} (F:Ag K x qual st f fd) (S:Ar N ps (Aj st)) (len:∀vs H Q E,sp vs H Q E->vs.length=ps.length)
  (hbody:∀(cdv:Value) (A:Around) (outer:List Env) (s:Shared) (H:Hp) (vs:List V) (Q:VK) (E:XK),BB k (A.deeper (envOfC qual (Aj st) s.heap.objs.size f cdv))->sp vs H Q E →
   ∃t,DP (Fz AM P w K mg base N qual (Aj st) f cdv A outer s H E).EC (DA st) t/\t { nx:=λ_ H'=>Q .An H',rt:=Q } (Fp N vs) H):AH P w K mg base AM (k+1) f fd ps sp:=by
 obtain⟨oc,od,kV,doc,pm,an,cdv,ct,osl,rfl,lk,hcd⟩:=F.ex;refine Qu lk hcd S len λA outer s H vs Q E hr hsp=>?_
 obtain⟨t,h,q⟩:=hbody cdv A outer s H vs Q E hr hsp;exact⟨t,h.EC,q⟩
theorem Ag.binds {x qual:Str} {st:Stmt} {f:Addr} {fd:FuncData} {ps:List Str} (F:Ag K x qual st f fd)
  (h:∀(kV doc pm:Value) (an:Option Addr) (cdv ct:Value) (us:List Value),us.length=ps.length->bindArgs (PySem.W.fnOf x qual (De st) (DA st) (Aj st) .none kV doc pm an cdv ct) ⟨us,[]⟩=pure (ps.zip us)):AW K fd ps []:=by
 obtain⟨oc,od,kV,doc,pm,an,cdv,ct,osl,rfl,lk,hcd⟩:=F.ex;exact .all (h kV doc pm an cdv ct)
theorem Kf {x qual:Str} {st:Stmt} {f:Addr} {oc:Value} {od an:Option Addr} {osl:Array (Option Value)} {kV doc pm cdv ct:Value} (l:K.lookup f=some ⟨oc,od,.func (PySem.W.fnOf x qual (De st) (DA st) (Aj st) .none kV doc pm an cdv ct),osl⟩)
  (c:PySem.W.codeIn K cdv qual=true) (k:KP K f):Ag K x qual st f (PySem.W.fnOf x qual (De st) (DA st) (Aj st) .none kV doc pm an cdv ct):=⟨⟨oc,od,kV,doc,pm,an,cdv,ct,osl,rfl,l,c⟩,k⟩
end
theorem Qm{A:Around}{k:Nat}(hr:BB k A):A.units+1<cLine:=Nat.lt_of_le_of_lt (Nat.add_le_add_left (by decide:1<=64) _) hr.units
section
variable {X:Cx}
theorem pv (i:Nat) {x:Str} {pos:Pos} (hN:X.N[i]?=some x:=by rfl) (hv:Nh X.env.scope x:=by first | exact Or.inl rfl | exact Or.inr (Or.inl rfl) | exact Or.inr (Or.inr rfl)) (hd:(x == ("__debug__":Str))=false:=by decide)
  (hcd:(x == ("__classdict__":Str))=false:=by decide):PE X (.Name x pos) (Al i):=XY hN hv hd hcd
end
theorem BX{A B:Prop}(h:B):if false=true then A else B:=by
 rw[if_neg Bool.false_ne_true];exact h
theorem Bk{A B:Prop}(h:A):if true=true then A else B:=by
 rw[if_pos rfl];exact h
theorem F0{c A B:Prop}[Decidable c](h1:c->A)(h2:¬c->B):if c then A else B:=by
 by_cases h:c
 ·rw[if_pos h];exact h1 h
 ·rw[if_neg h];exact h2 h
theorem CH{c A B:Prop}[Decidable c](hc:c)(h:B):if (!decide c)=true then A else B:=by
 rw[decide_eq_true hc];exact BX h
def AQ(H H':Hp):Prop:=∀b o,H b=some o->H' b=some o
theorem AQ.refl(H:Hp):AQ H H:=λ_ _ h=>h
theorem AQ.trans{H H1 H2:Hp}(a:AQ H H1)(b:AQ H1 H2):AQ H H2:=λc o h=>b c o (a c o h)
theorem AQ.free{H H':Hp}(e:AQ H H'){l:Addr}(h:H' l=Option.none):H l=Option.none:=by
 cases q:H l with
 | none=>rfl
 | some o =>
  rw[e l o q] at h;cases h
theorem AQ.seq{K:PySem.W.Frag}{H H':Hp}{a:Addr}{xs:List V}(e:AQ H H')(h:AR K H a xs):AR K H' a xs:=by
 rcases h with (h | ⟨o,h⟩) | h
 ·exact .inl (.inl (e _ _ h))
 ·exact .inl (.inr ⟨o,e _ _ h⟩)
 ·exact .inr h
section
variable {X:Cx}
end
section
variable {κ:Type} [DecidableEq κ]
end
end L2
namespace L2
open PySem
def DK(h h':Heap):Prop:=∀a o,h.get? a=some o->∃o',h'.get? a=some o'/\o'.dict=o.dict
theorem DK.refl(h:Heap):DK h h:=λ_ o e=>⟨o,e,rfl⟩
theorem DK.trans{h1 h2 h3:Heap}(x:DK h1 h2)(y:DK h2 h3):DK h1 h3:=λa o e=>by
 obtain⟨o1,e1,d1⟩:=x a o e;obtain⟨o2,e2,d2⟩:=y a o1 e1;exact⟨o2,e2,d2.trans d1⟩
theorem T4{h:Heap}{a:Addr}{o:Obj}(e:h.get? a=some o):o.isFreed=false:=by
 unfold Heap.get? at e;split at e
 ·cases e
 ·rename_i x hx
  obtain⟨c,d,dt,sl⟩:=o;cases dt <;> first | rfl | (exact absurd e (hx _ _ _))
theorem DK.AJ{h:Heap}{a:Addr}{f:Obj->Obj}(hf:∀o,(f o).dict=o.dict/\(f o).isFreed=o.isFreed):DK h (h.update a f):=λb o e=>by
 by_cases hb:a=b
 ·subst hb;exact⟨f o,Heap.get?_update_self f e ((hf o).2.trans (T4 e)),(hf o).1⟩
 ·exact⟨o,(Heap.get?_update_other h f hb).trans e,rfl⟩
theorem DK.push(h:Heap)(x:Obj):DK h (h.push x):=λ_ o e=>⟨o,Heap.get?_push_of_some x e,rfl⟩
structure KpD{α:Type}(t:Sem α):Prop where
 out:∀(M:Model) (Γ:Ctx) (Q:α->Pos->Shared->Prop) (E:Value->Pos->Shared->Prop) (p:Pos) (s:Shared),Sem.wp M Γ t Q E p s->Sem.wp M Γ t (λa p' s'=>Q a p' s'/\DK s.heap s'.heap) E p s
namespace KpD
variable {α β:Type}
theorem pure(a:α):KpD (Pure.pure a:Sem α):=⟨λ_ _ _ _ _ s h=>⟨h,DK.refl _⟩⟩
theorem unsupported(w:String):KpD (PySem.unsupported w:Sem α):=⟨λ_ _ _ _ _ _ h=>h⟩
theorem bind{m:Sem α}{f:α->Sem β}(hm:KpD m)(hf:∀a,KpD (f a)):KpD (m >>= f):=⟨λM Γ Q E p s h=>by
 rw[Sem.wp_bind'] at h ⊢;refine Sem.wp_mono M Γ m (λa p' s' ⟨q,k⟩=>?_) (λ_ _ _ z=>z) p s (hm.out M Γ _ E p s h);exact Sem.wp_mono M Γ (f a) (λb p2 s2 ⟨q2,k2⟩=>⟨q2,k.trans k2⟩) (λ_ _ _ z=>z) p' s' ((hf a).out M Γ Q E p' s' q)⟩
theorem ite{c:Prop}[Decidable c]{t u:Sem α}(ht:KpD t)(hu:KpD u):KpD (if c then t else u):=by split <;> assumption
theorem load(a:Addr):KpD (PySem.load a):=⟨λ_ _ _ _ _ _ h=>by
 obtain⟨o,e,q⟩:=h;exact⟨o,e,q,DK.refl _⟩⟩
theorem stack:KpD PySem.stack:=⟨λ_ _ _ _ _ _ h=>⟨h,DK.refl _⟩⟩
theorem update(a:Addr){f:Obj->Obj}(hf:∀o,(f o).dict=o.dict/\(f o).isFreed=o.isFreed):KpD (PySem.update a f):=⟨λ_ _ _ _ _ _ h=>⟨h.1,h.2,DK.AJ hf⟩⟩
theorem alloc(x:Obj):KpD (PySem.alloc x):=⟨λ_ _ _ _ _ _ h=>⟨h,DK.push _ _⟩⟩
theorem field(v:Value)(i:Nat):KpD (PySem.field v i):=⟨λM Γ Q E p s h=>by
 rw[wp_field_iff] at h ⊢;obtain⟨a,o,vs,x,e,ho,hd,hx,q⟩:=h;exact⟨a,o,vs,x,e,ho,hd,hx,q,DK.refl _⟩⟩
theorem Zf(g:Array Value->Array Value)(o:Obj):(o.mapFields g).dict=o.dict/\(o.mapFields g).isFreed=o.isFreed:=by
 obtain⟨c,d,dt,sl⟩:=o;cases dt <;> exact⟨rfl,rfl⟩
theorem setField(v:Value)(i:Nat)(x:Value):KpD (PySem.setField v i x):=⟨λM Γ Q E p s h=>by
 rw[wp_setField_iff] at h ⊢;obtain⟨a,o,vs,e,ho,hd,hi,q⟩:=h;exact⟨a,o,vs,e,ho,hd,hi,q,DK.AJ (Zf _)⟩⟩
theorem newFields(ty:String)(vs:List Value):KpD (PySem.newFields ty vs):=by
 unfold PySem.newFields newObj newObjAsIs;dsimp only;split
 all_goals repeat' with_reducible first
  | exact unsupported _
  | exact alloc _
  | exact pure _
  | apply bind
  | intro _
theorem slotF(g:Obj->Array (Option Value))(o:Obj):({ o with slots:=g o }:Obj).dict=o.dict/\({ o with slots:=g o }:Obj).isFreed=o.isFreed:=by
 obtain⟨c,d,dt,sl⟩:=o;cases dt <;> exact⟨rfl,rfl⟩
end KpD
local macro_rules
 | `(tactic| trivial)=>`(tactic| (repeat' with_reducible first
  | assumption
  | exact KpD.pure _
  | exact KpD.unsupported _
  | exact KpD.field _ _
  | exact KpD.setField _ _ _
  | exact KpD.newFields _ _
  | exact KpD.load _
  | exact KpD.update _ (KpD.slotF _)
  | exact KpD.stack
  | exact KpD.alloc _
  | apply KpD.ite
  | apply KpD.bind
  | intro _
  | split))
theorem Tw(env:Env)(outer:List Env):KpD (behindIsImport env outer):=by unfold behindIsImport; trivial
theorem UT:KpD underTheClaimsCaller:=by unfold underTheClaimsCaller; trivial
theorem Vw(env:Env)(i:Bool)(l:List Env):KpD (keptBack env i l):=by
 have:=UT
 cases l <;> unfold keptBack <;> trivial
theorem OJ:∀l:List Env,KpD (readyFrames l)
 | []=>KpD.pure _
 | env :: outer=>by
  have ih:=OJ outer;have h1:=Tw env outer;have h2:=λi=>Vw env i outer
  unfold readyFrames;trivial
  all_goals first | exact h2 _ | exact KpD.update _ (KpD.slotF _)
theorem Wy(l:List Env):KpD (frameObject l):=by
 cases l with
 | nil=>exact KpD.pure _
 | cons env outer =>
  have:=OJ (env :: outer)
  unfold frameObject;trivial
theorem Vn:KpD frameEnvs:=by unfold frameEnvs; trivial
theorem Sv(env:Env):KpD (frameOf env):=by
 have h1:=Vn;have h2:=Wy;unfold frameOf;trivial
 all_goals exact h2 _
theorem VA(f:Addr)(b:Bool):KpD (entryPlaceOf f b):=by unfold entryPlaceOf; trivial
theorem Lb(e:Value)(f:Option Addr):KpD (setFlight e f):=by unfold setFlight; trivial
theorem PB(e:Value)(env:Env):KpD (noteFrame e env):=by
 have h1:=Sv env;have h2:=VA;unfold noteFrame EntryCells.newEntry;trivial
 all_goals exact h2 _ _
theorem Nu(env:Env)(e:Value):KpD (leaving env e):=by
 unfold leaving;exact KpD.bind (PB e env) λ_=>Lb e none
theorem Iz{α:Type}{M:Model}{A:Around}{t:Sem α}{Q Q':α->Shared->Prop}{E:Value->Shared->Prop}{s:Shared}(k:KpD t)(h:wpAny M A t Q' E s)(hQ:∀a s',Q' a s'->DK s.heap s'.heap->Q a s'):wpAny M A t Q E s:=λΓ p hΓ =>
 Sem.wp_mono M Γ t (λa _ s' ⟨q,d⟩=>hQ a s' q d) (λ_ _ _ z=>z) p s (k.out M Γ _ _ p s (h Γ p hΓ))
end L2
namespace L2
open PySem PySem.Spec PyProof.Rows
theorem OA{P:Program}{w:World}{H:Hp}{h:Heap}{a:Addr}{o:HO}(x:Bf P w H h a o):∃u,h.get? a=some u:=by
 cases o with
 | AN xs=>obtain⟨_,_,_,_,e⟩:=x; exact⟨_,e⟩
 | AG xs=>obtain⟨_,_,_,_,u,e,_⟩:=x; exact⟨u,e⟩
 | dK kvs=>obtain⟨_,_,_,_,u,_,_,e,_⟩:=x; exact⟨u,e⟩
 | dT kvs=>obtain⟨_,_,_,_,u,_,_,e,_⟩:=x; exact⟨u,e⟩
 | set S n=>obtain⟨u,_,_,_,e,_⟩:=x; exact⟨u,e⟩
 | A6 C dx fs=>obtain⟨_,_,_,e,_⟩:=x; exact⟨_,e⟩
 | Ct y=>exact x
 | xd fs=>obtain⟨_,⟨u,_,_,e,_⟩,_⟩:=x; exact⟨u,e⟩
 | LU lo hi=>obtain⟨_,_,_,e⟩:=x; exact⟨_,e⟩
 | Eu ob u=>obtain⟨e,_⟩:=x; exact⟨_,e⟩
 | Gv ps=>exact⟨_,x⟩
 | LR f y=>exact⟨_,x⟩
 | ext φ=>obtain⟨_,e,_⟩:=x; exact e
theorem Sl{P:Program}{w:World}{H:Hp}{h:Heap}{a:Addr}(x:BN P w H h)(e:h.get? a=none):H a=none:=by
 cases q:H a with
 | none=>rfl
 | some o =>
  obtain⟨u,z⟩:=OA (x a o q);rw[e] at z;cases z
def Ft(B:Heap)(l:List Env)(a:Addr)(cls:Value)(t:Addr)(od:Option Addr)(h:Heap):Prop:=Heap.FlyingW B l a cls (.ref t) h/\∃o,h.get? a=some o/\o.dict=od
theorem Ft.there{B h:Heap}{l:List Env}{a t:Addr}{cls:Value}{od:Option Addr}(x:Ft B l a cls t od h):∃o,h.get? a=some o/\o.cls=cls/\o.dict=od/\∃vs,o.data=.fields vs:=by
 obtain⟨o,e,d⟩:=x.2;obtain⟨o2,vs,e2,c,f,_⟩:=x.1.first;rw[e] at e2;cases e2;exact⟨o,e,c,d,vs,f⟩
theorem DK.dict{h h':Heap}{a:Addr}{od:Option Addr}(k:DK h h')(x:∃o,h.get? a=some o/\o.dict=od):∃o,h'.get? a=some o/\o.dict=od:=by
 obtain⟨o,e,d⟩:=x;obtain⟨o',e',d'⟩:=k a o e;exact⟨o',e',d'.trans d⟩
def Ak(P:Program)(w:World):C6:=λouter H s E e s' =>
 ∃(a t:Addr) (cls:Value) (od:Option Addr) (B:Heap) (H':Hp),e=.ref a/\s'.os=s.os/\AllBare s'.gens/\Un (BM outer) [] H H' s.heap s'.heap /\
  (∀b o,s.heap.get? b=some o->H b=none->b∉BM outer->B.get? b=some o)/\(∀b o,s.heap.get? b=some o->b∉BM outer->∃o',B.get? b=some o') /\
  BN P w H' B/\Ft B outer a cls t od s'.heap/\s.heap.get? a=none/\H' a=none/\E cls od H'
def A9(a:Addr)(cls:Value)(od:Option Addr):HO:=.ext λh=>∃o,h.get? a=some o/\o.cls=cls/\o.dict=od/\∃vs,o.data=.fields vs
theorem WL{P:Program}{w:World}{H:Hp}{h:Heap}{a:Addr}{cls:Value}{od:Option Addr}{o:Obj}(e:h.get? a=some o)(c:o.cls=cls)(d:o.dict=od/\∃vs,o.data=.fields vs):Bf P w H h a (A9 a cls od) :=
 ⟨⟨o,e,c,d⟩,⟨o,e⟩,λ_ _ ⟨u,q,z⟩ k=>⟨u,k u q,z⟩⟩
def KZ(X:Cx)(pins:List (Addr×Obj))(σ:St)(a:Addr)(cls:Value)(od:Option Addr)(H':Hp)(s':Shared):Prop :=
 ∃(B:Heap) (t:Addr),Ft B X.stack a cls t od s'.heap/\H' a=none/\∀h'',Ft B X.stack a cls t od h''->s'.heap.UpToSlots h'' →
  AL X pins σ H' { s' with heap:=h'' }/\AL X pins σ (AJ H' a (A9 a cls od)) { s' with heap:=h'' }
section
variable {X:Cx} {pins:List (Addr×Obj)} {σ:St} {H:Hp} {s s':Shared} {E:XK} {e:Value}
theorem PQ(I:AL X pins σ H s)(h:Ak X.prog X.w X.stack H s E e s'):∃a cls od H',e=.ref a/\E cls od H'/\KZ X pins σ a cls od H' s':=by
 obtain⟨a,t,cls,od,B,H',rfl,os,bare,u,kB,tB,hok,fl,na,nH,hE⟩:=h;refine⟨a,cls,od,H',rfl,hE,B,t,fl,nH,λh'' flD' up=>?_⟩;have fl':=flD'.1;have fr:=I.stack;have un:Un (BM X.stack) [] H H' s.heap h'':=by
  refine⟨λb o q n hb _=>fl'.1 b o (kB b o q n hb),λb o q n hb hx=>?_,u.free,λb o q hx=>?_,u.tups,u.frzs,u.tbls⟩
  ·obtain⟨sl,q1⟩:=u.slot b o q n hb hx;obtain⟨_,o2,q2,nf⟩:=fr.mem hb;rw[q] at q2;cases q2;obtain⟨sl',q3⟩:=up b _ q1 nf;exact⟨sl',q3⟩
  ·by_cases hb:b∈BM X.stack
   ·obtain⟨sl,q1⟩:=u.slot b o q (I.KI b hb) hb hx;obtain⟨_,o2,q2,nf⟩:=fr.mem hb;rw[q] at q2;cases q2;obtain⟨sl',q3⟩:=up b _ q1 nf;exact⟨_,q3⟩
   ·obtain⟨o',q'⟩:=tB b o q hb;exact⟨o',fl'.1 b o' q'⟩
 have ok':BN X.prog X.w H' h'':=hok.CK fl'.1;have neA:∀b o,s.heap.get? b=some o->b≠a:=λb o q z=>by rw[z,na] at q; cases q
 have inS:∀b o,H b=some o->b≠a:=λb o q=>by
  obtain⟨v,z⟩:=OA (I.hok b o q);exact neA b v z
 refine⟨I.MZ (s':={ s' with heap:=h'' }) os un ok' bare λb z=>absurd z (by simp),?_⟩;refine I.MZ (s':={ s' with heap:=h'' }) os ⟨un.keep,un.slot,λb o q n hx=>?_,un.there,λb xs q=>?_,λb o v q=>?_,λb ps q=>?_⟩ (λb o q=>?_) bare λb z=>absurd z (by simp)
 ·rw[Ao (neA b o q)];exact un.free b o q n hx
 ·rw[Ao (inS b _ q)];exact un.tups b xs q
 ·rw[Ao (inS b _ q)];exact un.frzs b o v q
 ·obtain⟨more,z⟩:=un.tbls b ps q;exact⟨more,by rw[Ao (inS b _ q)]; exact z⟩
 ·by_cases hb:b=a
  ·subst hb;rw[AV] at q;cases q;obtain⟨ob,z1,z2,z3⟩:=flD'.there;exact WL z1 z2 z3
  ·rw[Ao hb] at q;refine(ok' b o q).En (λc v _ z=>z) (λc z=>?_) λc xs z=>?_
   ·rw[Ao (A7 z nH)];exact z
   ·rw[Ao (A7 z nH)];exact z
end
section
variable {P:Program} {w:World} {K:PySem.W.Frag} {mg:Str->Option Value} {base:Heap} {N:List Str} {qual:Str} {scope:Scope} {f:Addr} {cd:Value} {A:Around} {outer:List Env} {s₀:Shared} {H₀:Hp} {E:XK}
theorem Dy:EM (Ak P w) (Fz (Ak P w) P w K mg base N qual scope f cd A outer s₀ H₀ E) E:=by
 intro pins σ H s e s' I h;obtain⟨a,t,cls,od,B,H',rfl,os,bare,u,kB,tB,hok,fl,na,nH,hE⟩:=h;have sub:∀b,b∈BM outer->b∈BM (envOfC qual scope s₀.heap.objs.size f cd :: outer):=λb hb=>by
  show b∈List.filterMap _ (_ :: outer);rw[List.filterMap_cons];exact List.mem_cons_of_mem _ hb
 have noL:∀b o,s₀.heap.get? b=some o->b∉BM outer->b∉BM (envOfC qual scope s₀.heap.objs.size f cd :: outer):=λb o q hb z=>by
  rcases List.mem_cons.mp (I.Hl b z) with z | z
  ·exact absurd (Heap.lt_size q) (by rw[z]; exact Nat.lt_irrefl _)
  ·exact hb z
 have nex:∀b:Addr,b∉([]:List Addr):=λb z=>by simp at z
 have kB':∀b o,s₀.heap.get? b=some o->H₀ b=none->b∉BM outer->B.get? b=some o:=λb o q n hb =>
  kB b o (I.base.keep b o q n hb (nex b)) (I.base.free b o q n (nex b)) (noL b o q hb)
 have tB':∀b o,s₀.heap.get? b=some o->b∉BM outer->∃o',B.get? b=some o':=λb o q hb=>by
  obtain⟨o1,q1⟩:=I.base.there b o q (nex b);exact tB b o1 q1 (noL b o q hb)
 have na':s₀.heap.get? a=none:=by
  cases q:s₀.heap.get? a with
  | none=>rfl
  | some o =>
   obtain⟨o1,q1⟩:=I.base.there a o q (nex a);rw[na] at q1;cases q1
 refine Iz (Nu _ _) (Q':=λ_ s2=>∃h',s2={ s' with heap:=h' }/\Heap.FlyingW B outer a cls (.ref t) h'/\s'.heap.UpToSlots h') (wpAny_leaves_onW I.ok.frames rfl fl.1 λh' fl' up=>⟨h',rfl,fl',up⟩) ?_;rintro _ s2 ⟨h',rfl,fl',up⟩ dk;refine⟨a,t,cls,od,B,H',rfl,os.trans I.os,bare,?_,kB',tB',hok,⟨fl',dk.dict fl.2⟩,na',nH,hE⟩;have slot':∀b o,s₀.heap.get? b=some o->H₀ b=none->b∈BM outer->∃sl,h'.get? b=some { o with slots:=sl }:=λb o q n hb=>by
  obtain⟨sl,q1⟩:=I.base.slot b o q n hb (nex b);obtain⟨sl1,q2⟩:=u.slot b _ q1 (I.base.free b o q n (nex b)) (sub b hb) (nex b);obtain⟨_,o2,q3,nf⟩:=I.DH.mem hb;rw[q1] at q3;cases q3;obtain⟨sl2,q4⟩:=up b _ q2 nf;exact⟨sl2,q4⟩
 refine⟨λb o q n hb _=>fl'.1 b o (kB' b o q n hb),λb o q n hb _=>slot' b o q n hb,λb o q n _=>?_,λb o q _=>?_,λb xs q=>u.tups b xs (I.base.tups b xs q),λb o v q=>u.frzs b o v (I.base.frzs b o v q),λb ps q=>?_⟩
 ·obtain⟨o1,q1⟩:=I.base.there b o q (nex b);exact u.free b o1 q1 (I.base.free b o q n (nex b)) (nex b)
 ·by_cases hb:b∈BM outer
  ·obtain⟨sl,q1⟩:=slot' b o q (I.ok.Es b hb) hb;exact⟨_,q1⟩
  ·obtain⟨o1,q1⟩:=tB' b o q hb;exact⟨o1,fl'.1 b o1 q1⟩
 ·obtain⟨m1,q1⟩:=I.base.tbls b ps q;obtain⟨m2,q2⟩:=u.tbls b _ q1;exact⟨m1++m2,by rw[q2,Array.append_assoc]⟩
def Om(X:Cx)(E:XK):Prop:=∀(pins:List (Addr×Obj)) (σ:St) (H:Hp) (s:Shared) (h':Heap) (a:Addr) (cls:Value) (vs:List Value),
 AL X pins σ H s->Heap.MadeExcOf s.heap h' a cls vs->E cls none H->X.xe (.ref a) { s with heap:=h' }
theorem Lf:Om (Fz (Ak P w) P w K mg base N qual scope f cd A outer s₀ H₀ E) E:=by
 intro pins σ H s h' a cls vs I hx hE;have nex:∀b:Addr,b∉([]:List Addr):=λb z=>by simp at z
 have nfr:∀b o,H b=some o->b∉BM (envOfC qual scope s₀.heap.objs.size f cd :: outer):=λb o q z=>by
  have:=I.KI b z
  rw[q] at this;cases this
 have noL:∀b o,s₀.heap.get? b=some o->b∉BM outer->b∉BM (envOfC qual scope s₀.heap.objs.size f cd :: outer):=λb o q hb z=>by
  rcases List.mem_cons.mp (I.Hl b z) with z | z
  ·exact absurd (Heap.lt_size q) (by rw[z]; exact Nat.lt_irrefl _)
  ·exact hb z
 have hokB:BN P w H (PySem.W.hideAll s.heap (BM (envOfC qual scope s₀.heap.objs.size f cd :: outer))):=λb o q =>
  (I.hok b o q).En (λc v hc z=>PySem.W.hideAll_get _ z (by
   rcases hc with hc | hc
   ·rw[hc]; exact nfr b o q
   ·exact nfr c _ hc)) (λ_ z=>z) λ_ _ z=>z
 have kB:∀b o,s₀.heap.get? b=some o->H₀ b=none->b∉BM outer->(PySem.W.hideAll s.heap (BM (envOfC qual scope s₀.heap.objs.size f cd :: outer))).get? b=some o:=λb o q n hb =>
  PySem.W.hideAll_get _ (I.base.keep b o q n hb (nex b)) (noL b o q hb)
 have tB:∀b o,s₀.heap.get? b=some o->b∉BM outer->∃o',(PySem.W.hideAll s.heap (BM (envOfC qual scope s₀.heap.objs.size f cd :: outer))).get? b=some o':=λb o q hb=>by
  obtain⟨o1,q1⟩:=I.base.there b o q (nex b);exact⟨o1,PySem.W.hideAll_get _ q1 (noL b o q hb)⟩
 have na:s₀.heap.get? a=none:=by
  cases q:s₀.heap.get? a with
  | none=>rfl
  | some o =>
   obtain⟨o1,q1⟩:=I.base.there a o q (nex a);rw[hx.new] at q1;cases q1
 refine Iz (Nu _ _) (Q':=λ_ s2=>∃h'' t,s2={ s with heap:=h'' }/\Heap.FlyingW (PySem.W.hideAll s.heap (BM (envOfC qual scope s₀.heap.objs.size f cd :: outer))) outer a cls (.ref t) h''/\h'.UpToSlots h'') (wpAny_leaves_madeW (s:={ s with heap:=h' }) I.ok.frames rfl (λb o q=>PySem.W.of_hideAll _ q) (PySem.W.funFrames_hide I.stack λenv he b hb=>List.mem_filterMap.mpr ⟨env,he,hb⟩) hx λh'' t fl _ _ up=>⟨h'',t,rfl,fl,up⟩) ?_;rintro _ s2 ⟨h'',t,rfl,fl,up⟩ dk;obtain⟨t',he',_⟩:=hx.there;refine⟨a,t,cls,none,_,H,rfl,I.os,I.bare,?_,kB,tB,hokB,⟨fl,dk.dict ⟨_,he',rfl⟩⟩,na,Sl I.hok hx.new,hE⟩;have slot':∀b o,s₀.heap.get? b=some o->H₀ b=none->b∈BM outer->∃sl,h''.get? b=some { o with slots:=sl }:=λb o q n hb=>by
  obtain⟨sl,q1⟩:=I.base.slot b o q n hb (nex b);obtain⟨_,o2,q3,nf⟩:=I.DH.mem hb;rw[q1] at q3;cases q3;obtain⟨sl2,q4⟩:=up b _ (hx.keeps b _ q1) nf;exact⟨sl2,q4⟩
 refine⟨λb o q n hb _=>fl.1 b o (kB b o q n hb),λb o q n hb _=>slot' b o q n hb,λb o q n _=>I.base.free b o q n (nex b),λb o q _=>?_,I.base.tups,I.base.frzs,I.base.tbls⟩;by_cases hb:b∈BM outer
 ·obtain⟨sl,q1⟩:=slot' b o q (I.ok.Es b hb) hb;exact⟨_,q1⟩
 ·obtain⟨o1,q1⟩:=tB b o q hb;exact⟨o1,fl.1 b o1 q1⟩
end
theorem ED {P:Program} {w:World} {K:PySem.W.Frag} {mg:Str->Option Value} {base:Heap} {x qual:Str} {st:Stmt} {f:Addr} {fd:FuncData} {N ps:List Str} {k:Nat} {sp:Sp} (F:Ag K x qual st f fd) (S:Ar N ps (Aj st))
  (len:∀vs H Q E,sp vs H Q E->vs.length=ps.length)
  (hbody:∀(cdv:Value) (A:Around) (outer:List Env) (s:Shared) (H:Hp) (vs:List V) (Q:VK) (E:XK),BB k (A.deeper (envOfC qual (Aj st) s.heap.objs.size f cdv))->sp vs H Q E →
   ∃t,DP (Fz (Ak P w) P w K mg base N qual (Aj st) f cdv A outer s H E) (DA st) t/\t { nx:=λ_ H'=>Q .An H',rt:=Q } (Fp N vs) H):AH P w K mg base (Ak P w) (k+1) f fd ps sp:=by
 obtain⟨oc,od,kV,doc,pm,an,cdv,ct,osl,rfl,lk,hcd⟩:=F.ex;exact Qu lk hcd S len λA outer s H vs Q E hr hsp=>hbody cdv A outer s H vs Q E hr hsp
theorem Wc{K:PySem.W.Frag}{h:Heap}{C:Addr}{bm:List Value}{newId:String}(X:K.In h)(q:PySem.W.excIn K C bm newId=true):
  ∃tl N nm qn bs hdct sn sub ab col dd k0 k1 k2 k3 k5 mN,h.get? C=some (excClassObj nm qn C N bs tl hdct sn sub ab col dd k0 k1 k2 k3 k5 newId)/\h.Ns N mN/\mN "__init__" = none/\OwnTail h bm tl:=by
 unfold PySem.W.excIn at q;split at q
 case h_2=>cases q
 case h_1 dd cd sl ho =>
  split at q
  case h_2=>cases q
  case h_1 C' tl k0 k1 k2 k3 n k5 hm hs =>
   simp only[Bool.and_eq_true,beq_iff_eq,Bool.not_eq_true'] at q;obtain⟨⟨⟨⟨⟨e1,e2⟩,hdel⟩,ht⟩,hok⟩,hni⟩:=q;subst e1;subst e2;obtain⟨nm,bs,mro,ns,qn,hd,sn,sub,ab,col,del⟩:=cd;obtain⟨sl⟩:=sl;dsimp only at hm hdel hok hni hs;subst hm;subst hdel;subst hs;exact⟨tl,ns,nm,qn,bs,hd,sn,sub,ab,col,dd,k0,k1,k2,k3,k5,_,X _ _ ho,.of_isNs (PySem.W.isNs_of_in X hok),PySem.W.nsMap_none_of_in X hok hni,PySem.W.tail_of_in X ht⟩
def YD(C:Addr)(E:XK)(ta:TA):TS:=λ_ σ H=>ta σ H λvs H1=>vs.length<=sizeLine/\E (.ref C) none H1
theorem Ln {X:Cx} {x:Str} {C:Addr} {e0:PySem.Expr} {rest:List PySem.Expr} {ta:TA} {B newId initId:String} {bm:List Value} {E:XK} {np cpos pos:Pos} (hg:Gl X x) (hm:X.mg x=some (.ref C)) (q:PySem.W.excIn X.K C bm newId=true)
  (FB:ExcBaseFacts B newId initId bm) (hc:X.By=true) (ho:Om X E) (ha:PA X (e0 :: rest) ta) (hdb:(x == ("__debug__":Str))=false:=by decide)
  (he:starEach (e0 :: rest) X.env=(false,eval e0 X.env) :: starEach rest X.env:=by rfl) (hpl:(backTo cpos (starEach rest X.env)).any (·.1)=false:=by rfl) :
  PS X (.Raise (some (.Call (.Name x np) (e0 :: rest) [] cpos)) none pos) (YD C E ta):=by
 intro pins s σ H D I h;obtain⟨tl,N,nm,qn,bs,hdct,sn,sub,ab,col,dd,k0,k1,k2,k3,k5,mN,hC,hN,hni,TL⟩:=Wc I.ok.BP.DQ q;refine wpAny_Raise_call_subT (C:=C) (nm:=nm) (q:=qn) (N:=N) (bs:=bs) (bm:=tl) (hdct:=hdct) (sn:=sn) (sub:=sub) (ab:=ab) (col:=col) (dd:=dd) (k0:=k0) (k1:=k1) (k2:=k2) (k3:=k3) (k5:=k5)
  FB (mN:=mN) (TL.hasType FB.hasBase) (I.ok.hd hc) ?_ hni (Hk I hg hm ⟨rfl,?_⟩ hdb)
 ·rw[he];show(false || (backTo cpos (starEach rest X.env)).any (·.1))=false;rw[hpl];rfl
 ·have hargs:=ha cpos pins s σ H _ I h;rw[he] at hargs ⊢;refine Calls.evalArgs_plain (AZ hargs λus s1 ⟨vs,H1,I1,r,z,q1⟩=>⟨rfl,?_,I1.bk _ _ hC,hN.keeps I1.bk,TL.keeps I1.bk,λh' e hx=>ho pins σ H1 s1 h' e _ us I1 hx q1⟩);rw[<-r.length];exact z
abbrev TX:=St->Hp->VK->XK->Prop
def PX(X:Cx)(e:PySem.Expr)(t:TX):Prop :=
 ∀(pins:List (Addr×Obj)) (s:Shared) (σ:St) (H:Hp) (Q:VK) (E:XK) (W:Value->Shared->Prop),AL X pins σ H s->t σ H Q E->(∀a cls od H' s',KZ X pins σ a cls od H' s'->E cls od H'->W (.ref a) s') →
  wpAny (model X.prog X.w) X.A (eval e X.env) (EP X pins σ Q) W s
def YE(sp:Sp)(dvs:List V)(t:TA):TX:=λσ H Q E=>t σ H λvs H1=>sp (vs++dvs) H1 Q E
theorem L6 {X:Cx} {k:Nat} {f:Addr} {fd:FuncData} {ps:List Str} {sp:Sp} {dvs:List V} {ds:List Value} {x:Str} {p pos:Pos} {e:PySem.Expr} {es:List PySem.Expr} {t:TA}
  (F:AH X.prog X.w X.K X.mg X.base (Ak X.prog X.w) k f fd ps sp) (hr:BB k X.A) (hg:Gl X x) (hm:X.mg x=some (.ref f)) (hk:PySem.W.keepIn X.K (.ref f)=true) (hb:AW X.K fd ps ds) (hd:Af dvs ds)
  (ha:PA X.EC (e :: es) t) (hdb:(x == ("__debug__":Str))=false:=by decide) (he:starEach (e :: es) X.env=(false,eval e X.env) :: starEach es X.env:=by rfl) (hpl:(backTo pos (starEach es X.env)).any (·.1)=false:=by rfl) :
  PX X (.Call (.Name x p) (e :: es) [] pos) (YE sp dvs t):=by
 intro pins s σ H Q E W I h hW;refine wpAny_Call_Name_kw (Hk I hg hm ?_ hdb);refine PySem.W.callWith_K (h₀:=X.base) I.ok.BP.DQ hk (wpAny_mono (ha pos pins s σ H _ (I.Cf _) h) (λus s1 ⟨vs,H1,I1',r,q⟩=>?_) λ_ _ z=>False.elim z) he hpl;have I1:AL X pins σ H1 s1:=I1'.B8;refine⟨I1.Be,?_⟩;have r2:Af (vs++dvs) (us++ds):=r.Eb hd;have hl:(us++ds).length=ps.length:=by rw[<-r2.length]; exact F.len _ _ _ _ q
 refine wpAny_call (codeAny_mono (F.GG X.A X.stack s1 H1 ⟨us,[]⟩ (us++ds) (vs++dvs) Q E hr I1.K8 (hb s1 us I1.Be hl) r2 q) λr s' hq=>?_);cases r with
 | error e =>
  obtain⟨a,cls,od,H',e1,hE,c⟩:=PQ I1 hq;subst e1;exact hW a cls od H' s' c hE
 | ok fl =>
  cases fl with
  | ret u=>exact I1.after hq
  | next=>exact False.elim hq
  | brk=>exact False.elim hq
  | cont=>exact False.elim hq
abbrev Jc:=Cz->St->Hp->XK->Prop
def JV(X:Cx)(body:List Stmt)(t:Jc):Prop :=
 ∀(pins:List (Addr×Obj)) (s:Shared) (σ:St) (H:Hp) (D:Cz) (E:XK) (W:Value->Shared->Prop),AL X pins σ H s->t D σ H E->(∀a cls od H' s',KZ X pins σ a cls od H' s'->E cls od H'->W (.ref a) s') →
  wpAny (model X.prog X.w) X.A (execs body X.env) (SP X pins D) W s
def Xj(te:TX):Jc:=λD σ H E=>te σ H (λ_ H1=>D.nx σ H1) E
theorem Lp{X:Cx}{e:PySem.Expr}{te:TX}{pos:Pos}(he:PX X e te)(hs:swapsWith e none pos.line X.env=pure false:=by rfl):JV X [.Expr e pos] (Xj te):=by
 intro pins s σ H D E W I h hW;refine wpAny_execs_cons (wpAny_Expr_any (AZ (he pins s σ H _ E W I h hW) λv s1 ⟨x,H1,I1,r1,q1⟩=>?_) I.quiet hs);exact wpAny_execs_nil ⟨σ,H1,I1,q1⟩
abbrev KY(X:Cx)(a:Addr):Cx:={ X with A:=X.A.mark (some (.ref a)),By:=false }
theorem Ny{X:Cx}{pins:List (Addr×Obj)}{σ:St}{H:Hp}{s:Shared}(I:AL X pins σ H s)(a:Addr):AL (KY X a) pins σ H s :=
 ⟨⟨I.ok.BP,I.ok.kind,I.ok.FH,I.ok.HZ,I.ok.above,I.ok.inj,I.ok.has,I.ok.IK,(λz=>by cases z),I.ok.frames,I.ok.JR,I.ok.Na,I.ok.bs,I.ok.Ew,I.ok.Hz,I.ok.ID,I.ok.DH,I.ok.Es⟩,I.os,I.bare,I.base,I.Cr,I.cell,I.free,I.Dj,I.Co,I.hok,I.len⟩
theorem Ju{X:Cx}{pins:List (Addr×Obj)}{σ:St}{H:Hp}{s:Shared}{a:Addr}(ok:X.Ok)(I:AL (KY X a) pins σ H s):AL X pins σ H s :=
 ⟨ok,I.os,I.bare,I.base,I.Cr,I.cell,I.free,I.Dj,I.Co,I.hok,I.len⟩
theorem KQ {X:Cx} {M:Model} {A:Around} {W:Value->Shared->Prop} {pins:List (Addr×Obj)} {σ:St} {H:Hp} {s:Shared} {i:Nat} {n:Str} {pos:Pos} {Q:Unit->Shared->Prop} (I:AL X pins σ H s) (hN:X.N.Nodup) (hi:X.N[i]?=some n)
  (hx:X.env.scope.names.lookup n=some .local) (h:∀s',AL X pins (σ.set i none) H s'->Q () s'):wpAny M A (do bindName X.env n .none; unbindBehindTheSuite X.env n pos) Q W s:=by
 obtain⟨m,hn,hl⟩:=id I.Cr;have hcls:(X.env.scope.kind == .class || (X.env.scope.kind == .module && X.env.locals != X.env.globals))=false:=by rw[I.ok.kind]; rfl
 obtain⟨oL,_,_,hoL,_⟩:=id hn;refine wpAny_nameGoes_keeps hx hn hcls λh' v hn' hs=>h _ ?_
 have ne:∀b o,X.s₀.heap.get? b=some o->b≠X.env.locals:=λb o e=>Nat.ne_of_lt (Nat.lt_of_lt_of_le (Heap.lt_size e) I.ok.above)
 refine⟨I.ok,I.os,I.bare,⟨λb o e z hb hx=>?_,λb o e z hb hx=>?_,I.base.free,λb o e hx=>?_,I.base.tups,I.base.frzs,I.base.tbls⟩,⟨_,hn',λj y v' e1 e2 e3=>?_⟩,λy c e=>?_,I.free,I.Dj,λp hp=>?_,λb o e=>?_,by simpa using I.len⟩
 ·exact(hs.2 b (ne b o e)).trans (I.base.keep b o e z hb hx)
 ·obtain⟨sl,e1⟩:=I.base.slot b o e z hb hx;exact⟨sl,(hs.2 b (ne b o e)).trans e1⟩
 ·obtain⟨o',e1⟩:=I.base.there b o e hx;exact⟨o',(hs.2 b (ne b o e)).trans e1⟩
 ·have hj:j≠i:=λz=>by
   subst z;have hlt:j<σ.length:=by rw[I.len]; exact(List.getElem?_eq_some_iff.mp hi).1
   rw[List.getElem?_set_self hlt] at e2;cases e2
  rw[List.getElem?_set_ne (Ne.symm hj)] at e2;obtain⟨u',r',q⟩:=hl j y v' e1 e2 e3;have hy:y≠n:=λe=>hj (Lm hN e1 (e ▸ hi))
  refine⟨u',r',?_⟩;rcases q with ⟨k,e⟩ | ⟨k,c,e,z⟩
  ·exact .inl ⟨k,by simp[hy,e]⟩
  ·exact .inr ⟨k,c,e,z.sameBut hs (I.cne y c e)⟩
 ·obtain⟨w',z⟩:=I.cell y c e;exact⟨w',z.sameBut hs (I.cne y c e)⟩
 ·obtain⟨e,z,ne',nf,d⟩:=I.Co p hp;exact⟨(hs.2 p.1 ne').trans e,z,ne',nf,d⟩
 ·refine(I.hok b o e).En (λc w' hc q=>(hs.2 c ?_).trans q) (λ_ q=>q) λ_ _ q=>q
  rintro rfl;rcases hc with rfl | hc
  ·rw[I.free] at e; cases e
  ·rw[I.free] at hc; cases hc
section
variable {M:Model} {A:Around} {E:Value->Shared->Prop} {s:Shared} {B:Heap} {env:Env} {outer l:List Env} {L e t:Addr} {cls:Value} {od:Option Addr} {Q:Unit->Shared->Prop}
theorem UG (hfr:A.frames=some (env :: outer)) (hf:env.frame=some L) (hfl:Ft B (env :: outer) e cls t od s.heap)
  (hQ:∀h',Heap.HeldW B (env :: outer) e cls (.ref t) L h'->(∃o,h'.get? e=some o/\o.dict=od)->s.heap.UpToSlots h'->Q () { s with heap:=h' }):wpAny M A (noteFrame (.ref e) env) Q E s:=by
 refine Iz (PB _ _) (Q':=λ_ s2=>∃h',s2={ s with heap:=h' }/\Heap.HeldW B (env :: outer) e cls (.ref t) L h'/\s.heap.UpToSlots h') (wpAny_looks_onW hfr hf hfl.1 λh' a b=>⟨h',rfl,a,b⟩) ?_;rintro _ s2 ⟨h',rfl,a,b⟩ dk;exact hQ h' a (dk.dict hfl.2) b
theorem Xp(hh:Heap.HeldW B l e cls (.ref t) L s.heap)(hd:∃o,s.heap.get? e=some o/\o.dict=od)(hQ:∀h',Ft B l e cls t od h'->s.heap.UpToSlots h'->Q () { s with heap:=h' }):wpAny M A (setFlight (.ref e) none) Q E s:=by
 refine Iz (Lb _ _) (Q':=λ_ s2=>∃h',s2={ s with heap:=h' }/\Heap.FlyingW B l e cls (.ref t) h'/\s.heap.UpToSlots h') (wpAny_landsW hh λh' a b=>⟨h',rfl,a,b⟩) ?_;rintro _ s2 ⟨h',rfl,a,b⟩ dk;exact hQ h' ⟨a,dk.dict hd⟩ b
theorem Sk(hh:Ft B l e cls t od s.heap)(hQ:∀h',Ft B l e cls t od h'->s.heap.UpToSlots h'->Q () { s with heap:=h' }):wpAny M A (setFlight (.ref e) none) Q E s:=by
 refine Iz (Lb _ _) (Q':=λ_ s2=>∃h',s2={ s with heap:=h' }/\Heap.FlyingW B l e cls (.ref t) h'/\s.heap.UpToSlots h') (lands_againW hh.1 λh' a b=>⟨h',rfl,a,b⟩) ?_;rintro _ s2 ⟨h',rfl,a,b⟩ dk;exact hQ h' ⟨a,dk.dict hh.2⟩ b
end
def Zz(K:PySem.W.Frag)(C:Addr)(i:Nat)(tb:Jc)(th:Addr->TS):TS:=λD σ H=>tb D σ H λcls od H'=>PySem.W.exmOne K cls (.ref C)=some true/\∀a,H' a=none →
 th a { nx:=λσ2 H2=>D.nx (σ2.set i none) H2,rt:=D.rt,bk:=λσ2 H2=>D.bk (σ2.set i none) H2,ct:=λσ2 H2=>D.ct (σ2.set i none) H2 } (σ.set i (some (.ref a))) (AJ H' a (A9 a cls od))
theorem X4 {X:Cx} {body:List Stmt} {y n:Str} {C:Addr} {i:Nat} {b0:Stmt} {suite:List Stmt} {tb:Jc} {th:Addr->TS} {np hpos pos:Pos} (hN:X.N.Nodup) (hi:X.N[i]?=some n) (hx:X.env.scope.names.lookup n=some .local) (hg:Gl X y) (hm:X.mg y=some (.ref C))
  (hst:X.stack=X.env :: X.outer) (hfr:X.env.frame=some X.env.locals)
  (hb:JV X body tb) (hs:∀a,DP (KY X a).EC (b0 :: suite) (th a)) (hdb:(y == ("__debug__":Str))=false:=by decide) :
  PS X (.Try body [.ExceptHandler (some (.Name y np)) (some n) (b0 :: suite) hpos] [] [] pos) (Zz X.K C i tb th):=by
 intro pins s σ H D I h;refine wpAny_Try_except (wpAny_mono (hb pins s σ H D _ _ I h ?_) (λf s1 q=>?_) λ_ _ z=>z);rotate_left
 ·cases f with
  | next=>exact wpAny_execs_nil q
  | ret v=>exact q
  | brk=>exact q
  | cont=>exact q
 intro a cls od H' s' ⟨B,t,fl,nH,inv⟩ ⟨hq,rd⟩;rw[hst] at fl inv;refine UG (hst ▸ I.ok.frames) hfr fl λh4 held4 dk4 up4=>?_
 refine Xp held4 dk4 λh5 fl5 up5=>?_
 have up45:=up4.trans up5;have I5:=(inv h5 fl5 up45).1;refine wpAny_handleBy_cons (codeAny_handlers_test ?_) (by intro z; cases z);refine Hk (Ny I5 a) hg hm ?_ hdb;obtain⟨ob,hob,hoc,_⟩:=fl5.there;have LT:PySem.W.Looks (model X.prog X.w) h5 (typeOf (.ref a)) cls:=hoc ▸ (PySem.W.Looks.ld hob).andThen .now;refine(PySem.W.exm_one (I5.Be) LT hq).at (codeAny_handlers_suite_as ?_);refine Sk fl5 λh6 fl6 up6=>?_
 have I6:=(inv h6 fl6 (up45.trans up6)).2;refine Lo (X:=(KY X a).EC) (v:=.ref a) (AL.Cf (Ny I6 a) (λ_ _=>False)) hN hi (.inl hx) rfl (λs7 I7=>?_) (.inr hx);refine wpAny_mono (hs a pins s7 _ _ _ I7 (rd a nH)) (λf s8 q8=>?_) λ_ _ z=>False.elim z
 cases f with
 | next =>
  obtain⟨σ8,H8,I8,d8⟩:=q8;exact KQ (Ju I.ok (AL.B8 I8)) hN hi hx λs9 I9=>⟨_,H8,I9,d8⟩
 | brk =>
  obtain⟨σ8,H8,I8,d8⟩:=q8;exact KQ (Ju I.ok (AL.B8 I8)) hN hi hx λs9 I9=>⟨_,H8,I9,d8⟩
 | cont =>
  obtain⟨σ8,H8,I8,d8⟩:=q8;exact KQ (Ju I.ok (AL.B8 I8)) hN hi hx λs9 I9=>⟨_,H8,I9,d8⟩
 | ret u =>
  obtain⟨v,σ8,H8,I8,rv,d8⟩:=q8;exact KQ (Ju I.ok (AL.B8 I8)) hN hi hx λs9 I9=>⟨v,_,H8,I9,rv,d8⟩
def Bp(X:Cx)(scope:Scope)(cl:List (Str×Addr))(C:Addr)(Nc:List Str)(ex:List Addr)(pins:List (Addr×Obj))(s₀:Shared)(H₀:Hp):Cx where
 prog:=X.prog
 w:=X.w
 K:=X.K
 mg:=X.mg
 base:=X.base
 A:=X.A
 N:=Nc
 s₀:=s₀
 H₀:=H₀
 env:=compEnvC scope cl C X.env
 outer:=X.stack
 stack:=X.stack
 ex:=ex
 fn:=λy=>scope.names.lookup y == some .local
 By:=true
 pn:=X.pn++pins
 xe:=λ_ _=>False
structure Fb(X:Cx)(scope:Scope)(cl:List (Str×Addr))(Nc:List Str)(cap:List (Nat×Nat)):Prop where
 clos:closureFor scope X.env=pure cl
 kind:scope.kind=.function
 names:∀y∈scope.names,y.2=.local->scope.names.lookup y.1=some .local
 nocell:∀y∈scope.names,y.2≠.cell
 sub:∀x c,cl.lookup x=some c->X.env.cells.lookup x=some c/\scope.names.lookup x≠some .local
 has:∀x,((relabel scope X.env).names.lookup x=some .cell\/(relabel scope X.env).names.lookup x=some .free)->∃c,cl.lookup x=some c
 caps:∀j i,(j,i)∈cap->∃x c,Nc[j]?=some x/\X.N[i]?=some x/\cl.lookup x=some c/\X.env.scope.names.lookup x=some .cell/\(relabel scope X.env).names.lookup x=some .cell
theorem EH {X:Cx} {scope:Scope} {cl:List (Str×Addr)} {Nc:List Str} {cap:List (Nat×Nat)} (clos:closureFor scope X.env=pure cl) (kind:scope.kind=.function) (names:∀y∈scope.names,y.2=.local->scope.names.lookup y.1=some .local) (nocell:∀y∈scope.names,y.2≠.cell)
  (subs:∀p∈cl,X.env.cells.lookup p.1=some p.2/\scope.names.lookup p.1=some .free) (hass:((relabel scope X.env).names.all λp=>(p.2 != .cell && p.2 != .free) || (cl.lookup p.1).isSome)=true)
  (caps:∀p∈cap,∃x c,Nc[p.1]?=some x/\X.N[p.2]?=some x/\cl.lookup x=some c/\X.env.scope.names.lookup x=some .cell/\(relabel scope X.env).names.lookup x=some .cell):Fb X scope cl Nc cap :=
 ⟨clos,kind,names,nocell,λx c e=>⟨(subs (x,c) (PySem.mem_of_lookup e)).1,λz=>by
  have:=(subs (x,c) (PySem.mem_of_lookup e)).2
  rw[z] at this;cases this⟩,λx e=>by
  have key:∀k,(relabel scope X.env).names.lookup x=some k->(k=.cell\/k=.free)->∃c,cl.lookup x=some c:=λk e hk=>by
   have:=List.all_eq_true.mp hass (x,k) (PySem.mem_of_lookup e)
   rcases hk with rfl | rfl
   ·exact Option.isSome_iff_exists.mp (by simpa using this)
   ·exact Option.isSome_iff_exists.mp (by simpa using this)
  rcases e with e | e
  ·exact key _ e (.inl rfl)
  ·exact key _ e (.inr rfl),λj i m=>caps (j,i) m⟩
def HG(n:Nat)(cap:List (Nat×Nat))(σ:St):St:=(List.range n).map λj=>((cap.find? λp=>p.1 == j).bind λp=>σ[p.2]?).bind id
theorem UI{n:Nat}{cap:List (Nat×Nat)}{σ:St}{j:Nat}{v:V}(h:(HG n cap σ)[j]?=some (some v)):∃i,(j,i)∈cap/\σ[i]?=some (some v):=by
 unfold HG at h;rw[List.getElem?_map] at h;cases e:(List.range n)[j]? with
 | none=>rw[e] at h; cases h
 | some k =>
  rw[e] at h;have hk:k=j:=by
   obtain⟨hl,q⟩:=List.getElem?_eq_some_iff.mp e;rw[List.getElem_range] at q;exact q.symm
  subst hk;simp only[Option.map_some,Option.some.injEq] at h;cases f:cap.find? λp=>p.1 == k with
  | none=>rw[f] at h; cases h
  | some p =>
   rw[f] at h;have h1:=List.mem_of_find?_eq_some f;have h2:p.1=k:=by
    have:=List.find?_some f
    exact eq_of_beq this
   refine⟨p.2,?_,?_⟩
   ·rw[<-h2]; exact h1
   ·simp only[Option.bind_some] at h;cases g:σ[p.2]? with
    | none=>rw[g] at h; cases h
    | some o=>rw[g] at h; simpa using h
section
variable {X:Cx} {pins:List (Addr×Obj)} {σ:St} {H:Hp} {s:Shared} {scope:Scope} {cl:List (Str×Addr)} {Nc:List Str} {cap:List (Nat×Nat)} {fp:List Addr}
theorem VN (I:AL X pins σ H s) (hcalm:X.By=true) (S:Fb X scope cl Nc cap) (hfp:∀b∈fp,Em X pins H b) (hob:∀b∈fp,∃o,s.heap.get? b=some o) {C:Addr} {h1:Heap} {m:Str->Option Value} {tk:Nat} (hC:s.heap.objs.size<=C)
  (hn:h1.Ns C m) (keep:∀b o,s.heap.get? b=some o->h1.get? b=some o):AL (Bp X scope cl C Nc fp pins s H) [] (HG Nc.length cap σ) H { s with heap:=h1,toks:=tk }:=by
 have neC:∀b o,s.heap.get? b=some o->b≠C:=λb o e=>Nat.ne_of_lt (Nat.lt_of_lt_of_le (Heap.lt_size e) hC)
 refine⟨⟨I.ok.BP,S.kind,I.ok.FH,I.ok.HZ,hC,λx y c e1 e2=>?_,λx hx=>S.has x hx,λx c e1 e2=>?_,λ_=>I.ok.hd hcalm,I.ok.frames,.inl rfl,λb hb=>⟨?_,λx c e=>?_⟩,I.bs,Nat.le_trans I.ok.Ew I.sz,λb o e hb=>?_,λb hb z=>?_,I.stack,I.KI⟩,
  rfl,I.bare,Un.CK keep,⟨m,hn,λj x v e1 e2 e3=>?_⟩,λx c e=>?_,I.hok.fresh hC,λx c e=>?_,λp hp=>?_,I.hok.CK keep,?_⟩
 ·exact I.ok.inj x y c (S.sub x c e1).1 (S.sub y c e2).1
 ·exact absurd (beq_iff_eq.mp e1) (S.sub x c e2).2
 ·obtain⟨o,e⟩:=hob b hb;exact neC b o e
 ·exact(hfp b hb).2.2.2.2.1 x c (S.sub x c e).1
 ·rcases(hfp b hb).2.2.2.1 with z | z
  ·exact I.ok.Hz b o e z
  ·exact absurd (Nat.lt_of_lt_of_le (Heap.lt_size e) (Nat.le_trans I.ok.Ew z)) (Nat.lt_irrefl _)
 ·rcases List.mem_cons.mp (I.Hl b z) with z | z
  ·exact(hfp b hb).2.1 z
  ·exact(hfp b hb).2.2.1 z
 ·obtain⟨i,hm,hv⟩:=UI e2;obtain⟨x',c,q1,q2,q3,q4,q5⟩:=S.caps j i hm;have e1':Nc[j]?=some x:=e1;rw[q1] at e1';cases e1';obtain⟨mo,_,hl⟩:=I.Cr;obtain⟨u,r,l⟩:=hl i x v q2 hv (.inr (.inl q4));refine⟨u,r,?_⟩;rcases l with ⟨k,_⟩ | ⟨_,c',e',z⟩
  ·have k':X.env.scope.names.lookup x=some .local:=k;rw[q4] at k';cases k'
  ·have:c'=c:=Option.some.inj (e'.symm.trans (S.sub x c q3).1)
   subst this;obtain⟨o,ho,hd⟩:=z;exact .inr ⟨.inl q5,c',q3,⟨o,keep _ _ ho,hd⟩⟩
 ·obtain⟨v,o,ho,hd⟩:=I.cell x c (S.sub x c e).1;exact⟨v,o,keep _ _ ho,hd⟩
 ·exact I.Dj x c (S.sub x c e).1
 ·have hp':p∈X.pn++pins:=by
   have z:p∈(X.pn++pins)++[]:=hp;rw[List.append_nil] at z;exact z
  obtain⟨e,n,ne,nf,d⟩:=I.Co p hp';refine⟨keep _ _ e,n,neC _ _ e,λz=>?_,d⟩;rcases List.mem_cons.mp (I.Hl p.1 z) with z | z
  ·exact ne z
  ·exact nf z
 ·show(HG Nc.length cap σ).length=Nc.length;unfold HG;rw[List.length_map,List.length_range]
theorem Us(I:AL X pins σ H s)(hfp:∀b∈fp,Em X pins H b){C:Addr}{σc:St}{H':Hp}{s':Shared}{h':Heap}(J:AL (Bp X scope cl C Nc fp pins s H) [] σc H' s')(hs:Heap.SameBut C s'.heap h'):AL X pins σ H' { s' with heap:=h' }:=by
 have hC:s.heap.objs.size<=C:=J.ok.above;have neC:∀b o,s.heap.get? b=some o->b≠C:=λb o e=>Nat.ne_of_lt (Nat.lt_of_lt_of_le (Heap.lt_size e) hC)
 have u:=J.base;refine I.MZ (s':={ s' with heap:=h' }) (ch:=fp) J.os ⟨λb o e n hb hx=>?_,λb o e n hb hx=>?_,u.free,λb o e hx=>?_,u.tups,u.frzs,u.tbls⟩ (λb o e=>?_) J.bare λb hb=>⟨(hfp b hb).2.2.2.1,(hfp b hb).2.1,(hfp b hb).2.2.2.2.1,(hfp b hb).2.2.2.2.2⟩
 ·exact(hs.2 b (neC b o e)).trans (u.keep b o e n hb hx)
 ·obtain⟨sl,q⟩:=u.slot b o e n hb hx;exact⟨sl,(hs.2 b (neC b o e)).trans q⟩
 ·obtain⟨o',q⟩:=u.there b o e hx;exact⟨o',(hs.2 b (neC b o e)).trans q⟩
 ·refine(J.hok b o e).En (λc v hc q=>(hs.2 c ?_).trans q) (λ_ q=>q) λ_ _ q=>q
  intro z;subst z;have fr:H' c=none:=J.free;rcases hc with hc | hc
  ·rw[hc] at fr; rw[fr] at e; cases e
  ·rw[fr] at hc; cases hc
end
def HF(n:Nat)(cap:List (Nat×Nat))(wi:TI)(g:TG)(te:TE):TE:=λσ H Q=>wi σ H λJ H1=>∀acc,H1 acc=none →
 ∃W:Nat->Nat->List V->St->Hp->Prop,(∃m,W 0 m [] (HG n cap σ) (AJ H1 acc (.AN [])))/\∀i m ys σc H2,W i m ys σc H2 →
  (J.stop i H2/\Q (.ref acc) H2)\/(J.go i H2/\∀x H3,J.EF i H2 x H3->g x σc H3 λσ4 H4=>te σ4 H4 λv H5=>H5 acc=some (.AN ys)/\ys.length<sizeLine/\∃m',m' < m/\W (i+1) m' (ys++[v]) σ4 (AJ H5 acc (.AN (ys++[v]))))
def Gz(n:Nat)(cap:List (Nat×Nat))(wi:TI)(g:TG)(tt:TT)(te:TE):TE:=λσ H Q=>wi σ H λJ H1=>∀acc,H1 acc=none →
 ∃W:Nat->Nat->List V->St->Hp->Prop,(∃m,W 0 m [] (HG n cap σ) (AJ H1 acc (.AN [])))/\∀i m ys σc H2,W i m ys σc H2 →
  (J.stop i H2/\Q (.ref acc) H2)\/(J.go i H2/\∀x H3,J.EF i H2 x H3->g x σc H3 λσ4 H4=>tt σ4 H4 λok H5=>if ok=true then (te σ4 H5 λv H6=>H6 acc=some (.AN ys)/\ys.length<sizeLine/\∃m',m' < m/\W (i+1) m' (ys++[v]) σ4 (AJ H6 acc (.AN (ys++[v])))) else ∃m',m' < m/\W (i+1) m' ys σ4 H5)
def Jb(X:Cx)(ifs:List PySem.Expr)(tt:TT):Prop:=∀(pins:List (Addr×Obj)) (s:Shared) (σ:St) (H:Hp) (Q:Bool->Hp->Prop),AL X pins σ H s->tt σ H Q →
 wpAny (model X.prog X.w) X.A (forIn ifs true λc r=>if r=true then do let ok <-isTrue c X.env (eval c X.env); pure (ForInStep.yield ok) else pure (ForInStep.yield r)) (λok s'=>∃H',AL X pins σ H' s'/\Q ok H') X.xe s
theorem PR{X:Cx}{c:PySem.Expr}{tt:TT}(h:PT X c tt):Jb X [c] tt:=λpins s σ H Q I q=>wpAny_tests_one (h pins s σ H Q I q)
theorem P1{X:Cx}:Jb X [] (λ_ H Q=>Q true H):=λ_ _ _ H _ I q=>wpAny_tests_nil ⟨H,I,q⟩
section
variable {prog:Program} {w:World} {A:Around} {s:Shared}
theorem Sj {elt iter tg:PySem.Expr} {ifs:List PySem.Expr} {scope:Scope} {pos:Pos} {it acc:Value} {env:Env} {R:Result->Shared->Prop} (I:Nat->Shared->Prop)
  (turn:∀n s,I n s->wpAny (model prog w) A (pyNext it) (λr s₁=>match r with
   | none=>R (.ok .next) s₁
   | some v=>wpAny (model prog w) A (letOwnedTupleGo tg it v) (λ_ s₁'=>wpAny (model prog w) A (assign tg env v) (λ_ s₂ =>
     wpAny (model prog w) A (forIn ifs true λc r=>if r=true then do let ok <-isTrue c env (eval c env); pure (ForInStep.yield ok) else pure (ForInStep.yield r)) (λok s₃=>if ok=true then
      wpAny (model prog w) A (eval elt env) (λx s₄ =>
       wpAny (model prog w) A (call (.builtin "list.append") [acc,x]) (λ_ s₅=>∃m,m<n/\I m s₅) (λ_ _=>False) s₄) (λ_ _=>False) s₃
      else ∃m,m<n/\I m s₃) (λ_ _=>False) s₂)
     (λ_ _=>False) s₁') (λ_ _=>False) s₁) (notedBy (model prog w) A env λe s'=>R (.error e) s') s)
  (n:Nat) (h:I n s):codeAny (model prog w) A (.compLoop (.ListComp elt [⟨tg,iter,ifs,0⟩] scope pos) 0 it acc env) R s:=by
 refine codeAny_loop rfl I (λn s hI=>?_) n h;show wpAny _ A ((compTurn (.ListComp elt [⟨tg,iter,ifs,0⟩] scope pos) 0 it acc env).onRaise (λx=>do noteFrame x env; theTreesLotGoes x)) _ _ s;refine wpAny_noted ?_;rw[compTurn_list];refine wpAny_bind (wpAny_standAt (wpAny_bind (wpAny_mono (turn n s hI) (λr s₁ h₁=>?_) λ_ _ h'=>h')));cases r with
 | none=>exact wpAny_pure h₁
 | some v =>
  refine wpAny_bind (wpAny_mono h₁ (λ_ s₁' h₁'=>?_) λ_ _ h'=>False.elim h');refine wpAny_bind (wpAny_mono h₁' (λ_ s₂ h₂=>wpAny_bind (wpAny_mono h₂ (λok s₃ h₃=>?_) λ_ _ h'=>False.elim h')) λ_ _ h'=>False.elim h');cases ok with
  | false=>exact wpAny_pure ⟨rfl,h₃⟩
  | true =>
   exact wpAny_bind (wpAny_bind (wpAny_mono h₃ (λx s₄ h₄=>wpAny_bind (wpAny_mono h₄ (λ_ s₅ h₅=>wpAny_pure (wpAny_pure ⟨rfl,h₅⟩)) λ_ _ h'=>False.elim h')) λ_ _ h'=>False.elim h'))
end
section
variable {X:Cx} {elt iter tg:PySem.Expr} {ifs:List PySem.Expr} {pos:Pos} {scope:Scope} {cl:List (Str×Addr)} {Nc:List Str} {cap:List (Nat×Nat)} {wi:TI} {g:TG} {tt:TT} {te:TE}
theorem OI {pins:List (Addr×Obj)} {s:Shared} {σ:St} {H:Hp} {Q:V->Hp->Prop} {pos':Pos} {use:Option (Value->Sem Unit)} {P:Value->Shared->Prop} (hc:X.By=true) (hi:PI X tg iter wi) (S:Fb X scope cl Nc cap)
  (hg:∀C fp pins s H,PG (Bp X scope cl C Nc fp pins s H) tg g) (ht:∀C fp pins s H,Jb (Bp X scope cl C Nc fp pins s H) ifs tt) (he:∀C fp pins s H,PE (Bp X scope cl C Nc fp pins s H) elt te)
  (hs:∀y,foldedSetIterable iter X.env y=pure y) (I:AL X pins σ H s) (h:Gz Nc.length cap wi g tt te σ H Q)
  (fin:∀(acc C:Addr) (H5:Hp) (s6:Shared) (m6:Str->Option Value),AL X pins σ H5 s6->Em X pins H5 C->s6.heap.Ns C m6->Q (.ref acc) H5->compPost (model X.prog X.w) X.A X.xe use P (.ref acc) C (.ok .next) s6) :
  wpAny (model X.prog X.w) X.A (comprehension (.ListComp elt [⟨tg,iter,ifs,0⟩] scope pos) scope X.env pos' (newList []) false (eval iter X.env) use) P X.xe s:=by
 refine wpAny_comprehension_free (use:=use) (cl:=cl) rfl hs S.clos S.kind S.names ?_;refine AZ (hi pins s σ H _ I h) λv s1 h1=>AZ h1 λitv s2 h2=>?_
 obtain⟨it,fp,tn,J,H2,e,I2,T,st2,f2,rd⟩:=h2;subst e;refine wpAny_newObj_type ?_;have hacc:H2 s2.heap.objs.size=none:=I2.hok.fresh (Nat.le_refl _);obtain⟨W,⟨m0,w0⟩,turn⟩:=rd s2.heap.objs.size hacc;have I3:AL X pins σ (AJ H2 s2.heap.objs.size (.AN [])) { s2 with heap:=s2.heap.push { cls:=.type "list",dict:=none,data:=.seq ([]:List Value).toArray } } :=
  I2.laid (t':=s2.toks) (λb u e=>Heap.get?_push_of_some _ e) (Nat.le_refl _) ⟨Nat.zero_le _,[],0,.nil,Heap.get?_push_size _ rfl⟩
 have st3:tn 0 (s2.heap.push { cls:=.type "list",dict:=none,data:=.seq ([]:List Value).toArray }):=T.keep _ _ _ st2 λb _ o e=>Heap.get?_push_of_some _ e
 have f3:∀b∈fp,Em X pins (AJ H2 s2.heap.objs.size (.AN [])) b:=λb hb=>by
  obtain⟨o,e,_⟩:=T.obj _ _ st2 b hb;refine⟨?_,(f2 b hb).2⟩;rw[Ao (Nat.ne_of_lt (Heap.lt_size e))];exact(f2 b hb).1
 generalize hh3:s2.heap.push { cls:=.type "list",dict:=none,data:=.seq ([]:List Value).toArray }=h3 at I3 st3 ⊢;generalize hH3:AJ H2 s2.heap.objs.size (.AN [])=H3 at I3 f3 w0;generalize s2.heap.objs.size=acc at *;refine wpAny_newFunctionEnv S.nocell (by intro y hy; simp at hy) (λh4 hns hsb=>?_) S.kind;dsimp only at hns hsb ⊢;have keep:∀b o,h3.get? b=some o->h4.get? b=some o:=λb o e=>hsb.extBut b o (Nat.ne_of_lt (Heap.lt_size e)) (Heap.get?_push_of_some _ e)
 have f0:∀b∈fp,∃o,h3.get? b=some o:=λb hb=>by
  obtain⟨o,e,_⟩:=T.obj _ _ st3 b hb;exact⟨o,e⟩
 have I4:=VN (tk:=s2.toks+([]:List (Str×Value)).length) I3 hc S f3 f0 (C:=h3.objs.size) (Nat.le_refl _) hns keep;have st4:tn 0 h4:=T.keep _ _ _ st3 λb _ o e=>keep b o e
 have stat:∀{H':Hp},(∀b∈fp,H' b=none)->∀b∈fp,Em (Bp X scope cl h3.objs.size Nc fp pins { s2 with heap:=h3 } H3) [] H' b:=λhn b hb=>by
  obtain⟨o,e⟩:=f0 b hb;refine⟨hn b hb,Nat.ne_of_lt (Heap.lt_size e),I4.ok.ID b hb,.inl hb,λx c q=>(f3 b hb).2.2.2.2.1 x c (S.sub x c q).1,λp hp=>?_⟩;have z:p∈(X.pn++pins)++[]:=hp;rw[List.append_nil] at z;exact(f3 b hb).2.2.2.2.2 p z
 have loop:codeAny (model X.prog X.w) X.A (.compLoop (.ListComp elt [⟨tg,iter,ifs,0⟩] scope pos) 0 (.ref it) (.ref acc) (compEnvC scope cl h3.objs.size X.env)) (compPost (model X.prog X.w) X.A X.xe use P (.ref acc) h3.objs.size)
   { s2 with heap:=h4,toks:=s2.toks+([]:List (Str×Value)).length }:=by
  refine Sj (λn s'=>∃i ys σ' H',AL (Bp X scope cl h3.objs.size Nc fp pins { s2 with heap:=h3 } H3) [] σ' H' s'/\tn i s'.heap/\(∀b∈fp,H' b=none)/\W i n ys σ' H') ?_ m0 ⟨0,[],_,H3,I4,st4,λb hb=>(f3 b hb).1,w0⟩;rintro n s5 ⟨i,ys,σ5,H5,I5,st5,fr5,w5⟩;rcases turn i n ys σ5 H5 w5 with ⟨stop,qn⟩ | ⟨go,step⟩
  ·refine AZ (T.done (Bp X scope cl h3.objs.size Nc fp pins { s2 with heap:=h3 } H3) rfl rfl rfl rfl i [] s5 σ5 H5 _ I5 (stat fr5) st5 stop) λr s6 ⟨hr,I6⟩=>?_
   subst hr;obtain⟨m6,hn6,_⟩:=id I6.Cr;exact fin acc _ H5 s6 m6 (Us (h':=s6.heap) I3 f3 I6 ⟨rfl,λ_ _=>rfl⟩) (I3.II (Nat.le_refl _) I6.free) hn6 qn
  ·refine wpAny_mono (T.item (Bp X scope cl h3.objs.size Nc fp pins { s2 with heap:=h3 } H3) rfl rfl rfl rfl i [] s5 σ5 H5 (λ_ _=>False) I5 (stat fr5) st5 go) (λr s6 ⟨u,hr,h6⟩=>?_) λ_ _ z=>False.elim z
   subst hr;refine AZ h6 λ_ s7 ⟨y,H7,I7,r7,y7,st7,fr7⟩=>?_
   have I7':=I7.QV (stat fr7) (T.obj _ _ st7);have kp:∀{σ8:St} {H8:Hp} {s8:Shared},AL (Bp X scope cl h3.objs.size Nc fp pins { s2 with heap:=h3 } H3) ([]++Iw fp s7.heap) σ8 H8 s8->tn (i+1) s8.heap/\∀b∈fp,H8 b=none:=λ{σ8 H8 s8} I8 =>
    ⟨T.keep _ _ _ st7 λb hb o e=>(I8.Co (b,o) (List.mem_append_right _ (List.mem_append_right _ (Jh hb e)))).1,λb hb=>by
     obtain⟨o,e,d⟩:=T.obj _ _ st7 b hb;exact(I8.Co (b,o) (List.mem_append_right _ (List.mem_append_right _ (Jh hb e)))).2.1⟩
   refine AZ (hg _ _ _ _ _ _ s7 σ5 H7 y u _ I7' r7 (step y H7 y7)) λ_ s8 ⟨σ8,H8,I8,q8⟩=>?_
   refine AZ (ht _ _ _ _ _ _ s8 σ8 H8 _ I8 q8) λok s9 ⟨H9,I9,q9⟩=>?_
   cases ok with
   | false =>
    rw[if_neg Bool.false_ne_true] at q9 ⊢;obtain⟨m',hm,w'⟩:=q9;obtain⟨st9,fr9⟩:=kp I9;exact⟨m',hm,i+1,ys,σ8,H9,I9.Ib,st9,fr9,w'⟩
   | true =>
    rw[if_pos rfl] at q9 ⊢;refine AZ (he _ _ _ _ _ _ s9 σ8 H9 _ I9 q9) λw10 s10 ⟨v10,H10,I10,r10,e10,l10,m',hm,q10⟩=>?_
    refine AZ (UA _ s10 σ8 H10 (.ref acc) [v10] (.ref acc) [w10] (λ_ H11=>W (i+1) m' (ys++[v10]) σ8 H11) I10 rfl (.cons r10 .nil) ⟨acc,ys,v10,rfl,rfl,e10,l10,q10⟩) λ_ s11 ⟨_,H11,I11,_,q11⟩=>?_
    obtain⟨st11,fr11⟩:=kp I11;exact⟨m',hm,i+1,ys++[v10],σ8,H11,I11.Ib,st11,fr11,q11⟩
 exact codeAny_compStart_list loop (T.self _ 0 _ _ _ st4 loop)
theorem Oz (hc:X.By=true) (hi:PI X tg iter wi) (S:Fb X scope cl Nc cap)
  (hg:∀C fp pins s H,PG (Bp X scope cl C Nc fp pins s H) tg g) (ht:∀C fp pins s H,Jb (Bp X scope cl C Nc fp pins s H) ifs tt) (he:∀C fp pins s H,PE (Bp X scope cl C Nc fp pins s H) elt te)
  (hs:∀y,foldedSetIterable iter X.env y=pure y:=by intro _; rfl):PE X (.ListComp elt [⟨tg,iter,ifs,0⟩] scope pos) (Gz Nc.length cap wi g tt te):=by
 intro pins s σ H Q I h;rw[eval_ListComp];exact OI (use:=none) hc hi S hg ht he hs I h λacc C H5 s6 m6 back fpC hn qn=>⟨m6,hn,λh7 hs7=>⟨.ref acc,H5,back.E6 (t':=s6.toks) (λb o hb q=>(hs7.2 b hb).trans q) fpC.1 fpC.2.1 fpC.2.2.2.1 fpC.2.2.2.2.1 fpC.2.2.2.2.2,rfl,qn⟩⟩
theorem N5{n:Nat}:Gz n cap wi g (λ_ H Q=>Q true H) te=HF n cap wi g te:=by
 unfold Gz HF;simp only[if_true]
theorem Hj (hc:X.By=true) (hi:PI X tg iter wi) (S:Fb X scope cl Nc cap)
  (hg:∀C fp pins s H,PG (Bp X scope cl C Nc fp pins s H) tg g) (he:∀C fp pins s H,PE (Bp X scope cl C Nc fp pins s H) elt te)
  (hs:∀y,foldedSetIterable iter X.env y=pure y:=by intro _; rfl):PE X (.ListComp elt [⟨tg,iter,[],0⟩] scope pos) (HF Nc.length cap wi g te) :=
 N5 ▸ Oz (ifs:=[]) (pos:=pos) hc hi S hg (λ_ _ _ _ _=>P1) he hs
theorem Vu {ct:PySem.Expr} (hc:X.By=true) (hi:PI X tg iter wi) (S:Fb X scope cl Nc cap)
  (hg:∀C fp pins s H,PG (Bp X scope cl C Nc fp pins s H) tg g) (ht:∀C fp pins s H,PT (Bp X scope cl C Nc fp pins s H) ct tt) (he:∀C fp pins s H,PE (Bp X scope cl C Nc fp pins s H) elt te)
  (hs:∀y,foldedSetIterable iter X.env y=pure y:=by intro _; rfl):PE X (.ListComp elt [⟨tg,iter,[ct],0⟩] scope pos) (Gz Nc.length cap wi g tt te) :=
 Oz hc hi S hg (λC fp pins s H=>PR (ht C fp pins s H)) he hs
theorem Nr {i:Nat} {y:Str} {py spos:Pos} (hN:X.N.Nodup) (hiN:X.N[i]?=some y) (hy:Hb X.env.scope y)
  (hc:X.By=true) (hi:PI X tg iter wi) (S:Fb X scope cl Nc cap)
  (hg:∀C fp pins s H,PG (Bp X scope cl C Nc fp pins s H) tg g) (ht:∀C fp pins s H,Jb (Bp X scope cl C Nc fp pins s H) ifs tt) (he:∀C fp pins s H,PE (Bp X scope cl C Nc fp pins s H) elt te)
  (hsw:swapsWith (.ListComp elt [⟨tg,iter,ifs,0⟩] scope pos) (some (.Name y py)) spos.line X.env=pure true:=by rfl) (hs:∀z,foldedSetIterable iter X.env z=pure z:=by intro _; rfl)
  (hf:X.fn y=true\/X.env.scope.names.lookup y=some .local:=by first | exact .inl rfl | exact .inr rfl | assumption) :
  PS X (.Assign [.Name y py] (.ListComp elt [⟨tg,iter,ifs,0⟩] scope pos) spos) (IG (Gz Nc.length cap wi g tt te) (B9 i)):=by
 intro pins s σ H D I h;rw[exec_Assign_Name_used _ _ _ _ hsw];refine wpAny_bind (wpAny_standAt (wpAny_bind ?_));show wpAny _ X.A (do let _ <-comprehension (.ListComp elt [⟨tg,iter,ifs,0⟩] scope pos) scope X.env _ (newList []) false (eval iter X.env) (some (assign (.Name y py) X.env))) _ _ s;refine wpAny_bind (wpAny_mono (OI (use:=some (assign (.Name y py) X.env)) (P:=λ_ s'=>SP X pins D .next s') hc hi S hg ht he hs I h λacc C H5 s6 m6 back fpC hn6 qn=>?_) (λ_ s' hq=>wpAny_pure (wpAny_pure hq)) λ_ _ e=>e);show wpAny (model X.prog X.w) X.A (assign (.Name y py) X.env (.ref acc)) _ X.xe s6;refine wpAny_assign_Name (OK (v:=.ref acc) back hN hiN hy rfl (λs7 I7 ⟨a7,sb7,e7⟩=>?_) hf);have nC:C≠a7:=by
  rcases e7 with e7 | e7
  ·rw[e7]; exact fpC.2.1
  ·exact Ne.symm (fpC.2.2.2.2.1 _ _ e7)
 refine⟨m6,hn6.sameBut sb7 nC,λh8 hs8=>⟨_,H5,?_,qn⟩⟩;exact I7.E6 (t':=s7.toks) (λb o hb q=>(hs8.2 b hb).trans q) fpC.1 fpC.2.1 fpC.2.2.2.1 fpC.2.2.2.2.1 fpC.2.2.2.2.2
theorem Ss {ct:PySem.Expr} {i:Nat} {y:Str} {py spos:Pos} (hN:X.N.Nodup) (hiN:X.N[i]?=some y) (hy:Hb X.env.scope y)
  (hc:X.By=true) (hi:PI X tg iter wi) (S:Fb X scope cl Nc cap)
  (hg:∀C fp pins s H,PG (Bp X scope cl C Nc fp pins s H) tg g) (ht:∀C fp pins s H,PT (Bp X scope cl C Nc fp pins s H) ct tt) (he:∀C fp pins s H,PE (Bp X scope cl C Nc fp pins s H) elt te)
  (hsw:swapsWith (.ListComp elt [⟨tg,iter,[ct],0⟩] scope pos) (some (.Name y py)) spos.line X.env=pure true:=by rfl) (hs:∀z,foldedSetIterable iter X.env z=pure z:=by intro _; rfl)
  (hf:X.fn y=true\/X.env.scope.names.lookup y=some .local:=by first | exact .inl rfl | exact .inr rfl | assumption) :
  PS X (.Assign [.Name y py] (.ListComp elt [⟨tg,iter,[ct],0⟩] scope pos) spos) (IG (Gz Nc.length cap wi g tt te) (B9 i)) :=
 Nr hN hiN hy hc hi S hg (λC fp pins s H=>PR (ht C fp pins s H)) he hsw hs hf
theorem Jf {i:Nat} {y:Str} {py spos:Pos} (hN:X.N.Nodup) (hiN:X.N[i]?=some y) (hy:Hb X.env.scope y)
  (hc:X.By=true) (hi:PI X tg iter wi) (S:Fb X scope cl Nc cap)
  (hg:∀C fp pins s H,PG (Bp X scope cl C Nc fp pins s H) tg g) (he:∀C fp pins s H,PE (Bp X scope cl C Nc fp pins s H) elt te)
  (hsw:swapsWith (.ListComp elt [⟨tg,iter,[],0⟩] scope pos) (some (.Name y py)) spos.line X.env=pure true:=by rfl) (hs:∀z,foldedSetIterable iter X.env z=pure z:=by intro _; rfl)
  (hf:X.fn y=true\/X.env.scope.names.lookup y=some .local:=by first | exact .inl rfl | exact .inr rfl | assumption) :
  PS X (.Assign [.Name y py] (.ListComp elt [⟨tg,iter,[],0⟩] scope pos) spos) (IG (HF Nc.length cap wi g te) (B9 i)) :=
 N5 ▸ Nr (ifs:=[]) hN hiN hy hc hi S hg (λ_ _ _ _ _=>P1) he hsw hs hf
end
section
variable {X:Cx}
def B3(i:Int):Prop:=i.natAbs<2 ^ 8000
theorem Po{i:Int}(h:B3 i):i.natAbs.log2<8000:=by
 by_cases z:i.natAbs=0
 ·rw[z]; decide
 ·exact(Nat.log2_lt z).mpr h
theorem Ou{i:Int}(h:B3 i):Builtin.Int.intBits i<=8001:=by
 have:=Po h
 unfold Builtin.Int.intBits;split <;> omega
def RK(i j:Int):Prop:=B3 i/\B3 j
theorem Il:BS X (binaryOp .Mult) (rI RK λi j=>.int (i*j)):=HW λ_ _ _ _ _ _ _ hc q=>mul_int q (IntMulOk.of_bits (Nat.le_trans (Ou hc.1) (by decide)) (Nat.le_trans (Ou hc.2) (by decide)))
def Hw(_ j:Int):Prop:=j≠0/\B3 j
theorem He:BS X (binaryOp .FloorDiv) (rI Hw λi j=>.int (i.fdiv j)):=HW λ_ _ _ _ _ _ _ hc q=>floordiv_int hc.1 q (.inl (PyProof.noPylong_of_log2 (by have:=Po hc.2; omega)))
theorem LV:bootBuiltins "isinstance" = some (.builtin "isinstance"):=by decide +kernel
theorem QT:bootBuiltins "int" = some (.type "int"):=by decide +kernel
theorem Gx:bootBuiltins "tuple" = some (.type "tuple"):=by decide +kernel
theorem B7:bootBuiltins "len" = some (.builtin "len"):=by decide +kernel
theorem YQ:bootBuiltins "abs" = some (.builtin "abs"):=by decide +kernel
theorem Hq:bootBuiltins "max" = some (.builtin "max"):=by decide +kernel
theorem JA:bootBuiltins "min" = some (.builtin "min"):=by decide +kernel
end
section
variable {prog:Program} {w:World} {A:Around} {E:Value->Shared->Prop} {s:Shared}
theorem Tq {c t:Addr} {k:Nat} {vs:Array Value} {y:Value} {Q:Value->Shared->Prop} (hc:s.heap.IsTupleIter c t k) (ht:s.heap.IsTuple t vs) (hy:vs[k]?=some y)
  (hQ:∀h',h'.IsTupleIter c t (k+1)->Heap.SameBut c s.heap h'->Q y { s with heap:=h' }):wpAny (model prog w) A (Builtin.SmallTypes.nextOf (.ref c)) Q E s:=by
 obtain⟨ob,e1,e2,e3⟩:=id hc;obtain⟨ot,f1,_,nt,f2⟩:=ht;unfold Builtin.SmallTypes.nextOf;refine wpAny_bind (wpAny_callSpecial?_slot (name:=Str.ofString "__next__") hc.typeIs PySem.F.slot_tuple_iterator_next (wpAny_call_entry PySem.F.slot_tuple_iterator_next hc.typeIs PySem.F.entry_tuple_iterator_next ?_ (PySem.F.args_tuple_iterator_next_1 _)));show wpAny _ _ (field (.ref c) 0 >>= _) _ _ s;refine wpAny_bind (wpAny_field e1 e3 (x:=.ref t) rfl ?_);show wpAny _ _ (if (Value.ref t == Value.none)=true then _ else _) _ _ _;rw[if_neg (show ¬((Value.ref t == Value.none)=true) by exact Bool.false_ne_true)];show wpAny _ _ (field (.ref c) 1 >>= _) _ _ s;refine wpAny_bind (wpAny_field e1 e3 (x:=.int k 0) rfl ?_);show wpAny _ _ (seqItems? (.ref t) >>= _) _ _ _;refine wpAny_bind (wpAny_seqItems f1 f2 ?_);simp only[Int.toNat_natCast,hy];refine wpAny_bind (wpAny_setField e1 e3 (by simp) (wpAny_pure ⟨y,rfl,wpAny_pure (hQ _ ?_ (Heap.SameBut.update ..))⟩));exact⟨_,Heap.get?_update_self _ e1 (Obj.isFreed_of_fields (Obj.data_mapFields e3 _)),(Obj.cls_mapFields ..).trans e2,by rw[Obj.data_mapFields e3]; simp[rawInt]⟩
theorem Uj {c t:Addr} {k:Nat} {vs:Array Value} {Q:Value->Shared->Prop} (hh:A.handled=none) (hc:s.heap.IsTupleIter c t k) (ht:s.heap.IsTuple t vs) (hy:vs[k]?=none)
  (hE:∀h' x,Heap.ExtBut c s.heap h'->(∃o,h'.get? x=some o/\o.cls=.type "StopIteration")->E (.ref x) { s with heap:=h' }):wpAny (model prog w) A (Builtin.SmallTypes.nextOf (.ref c)) Q E s:=by
 obtain⟨ob,e1,e2,e3⟩:=id hc;obtain⟨ot,f1,_,nt,f2⟩:=ht;unfold Builtin.SmallTypes.nextOf;refine wpAny_bind (wpAny_callSpecial?_slot (name:=Str.ofString "__next__") hc.typeIs PySem.F.slot_tuple_iterator_next (wpAny_call_entry PySem.F.slot_tuple_iterator_next hc.typeIs PySem.F.entry_tuple_iterator_next ?_ (PySem.F.args_tuple_iterator_next_1 _)));show wpAny _ _ (field (.ref c) 0 >>= _) _ _ s;refine wpAny_bind (wpAny_field e1 e3 (x:=.ref t) rfl ?_);show wpAny _ _ (if (Value.ref t == Value.none)=true then _ else _) _ _ _;rw[if_neg (show ¬((Value.ref t == Value.none)=true) by exact Bool.false_ne_true)];show wpAny _ _ (field (.ref c) 1 >>= _) _ _ s;refine wpAny_bind (wpAny_field e1 e3 (x:=.int k 0) rfl ?_);show wpAny _ _ (seqItems? (.ref t) >>= _) _ _ _;refine wpAny_bind (wpAny_seqItems f1 f2 ?_);simp only[Int.toNat_natCast,hy];refine wpAny_bind (wpAny_rule (wpAny_bind (wpAny_setField e1 e3 (by simp) ?_)));show wpAny _ _ (newExc (.type "StopIteration") [] >>= _) _ _ (_:Shared);refine wpAny_bind ?_;simp only[newExc,newTuple];refine wpAny_bind (wpAny_newObj_type ?_ (by size_fits)); refine wpAny_bind (m:=firstArgMember _ _) (wpAny_of_eq (a:=Value.none) (by first | rfl | (simp only[firstArgMember]; rfl)) ?_);refine wpAny_newObj_type ?_ (by size_fits); simp only[raiseNew];refine wpAny_bind (wpAny_handled ?_); first | rw[show A.in1.handled=none from hh] | rw[hh]
 refine wpAny_bind (wpAny_pure (wpAny_throw (hE _ _ (((Heap.SameBut.update ..).extBut.push _).push _) ⟨_,Heap.get?_push_size _ rfl,rfl⟩)))
theorem QC(hh:A.handled=none)(c t:Addr)(hne:t≠c)(vs:Array Value):
  Draws prog w A c [c,t] vs.size (λi v=>vs[i]?=some v) (λi h=>h.IsTupleIter c t i/\h.IsTuple t vs) where
 live:=λ_ _ st=>let ⟨o,ho,_⟩:=st.1; ⟨o,ho⟩
 frame:=λ_ _ _ st hk=>⟨let ⟨o,ho,r⟩:=st.1; ⟨o,hk c (by simp) o ho,r⟩,let ⟨o,ho,r⟩:=st.2; ⟨o,hk t (by simp) o ho,r⟩⟩
 item:=λi s' Q' E' hi st hQ=>Tq st.1 st.2 (y:=vs[i]) (by simp[hi]) λh' k1 k2=>hQ _ h' s'.toks (by simp[hi]) ⟨k1,st.2.extBut k2.extBut hne⟩ k2
 done:=λs' Q' E' st hE=>Uj hh st.1 st.2 (by simp) hE
set_option maxHeartbeats 1000000 in
theorem Sy(t:Addr)(vs:Array Value)(n:Nat)(dct:Option Addr)(sl:Array (Option Value)):
  Meets (Builtin.«enumerate.__new__» ⟨[.type "enumerate",.ref t],[]⟩) (λ_ R s=>s.heap.get? t=some { cls:=.type "tuple",dict:=dct,data:=.seq vs n,slots:=sl } /\
   R (.ok (.ret (.ref (s.heap.push { cls:=.type "tuple_iterator",data:=.fields #[.ref t,.int 0 0] }).objs.size)))
    { s with heap:=(s.heap.push { cls:=.type "tuple_iterator",data:=.fields #[.ref t,.int 0 0] }).push { cls:=.type "enumerate",data:=.fields #[.none,.bool false,.ref s.heap.objs.size,rawInt 0,.none,.none] } }) :=
 .of_wp λprog w A R s h=>by
  obtain⟨hp,g,d,tk,os⟩:=s; obtain⟨ht,h⟩:=h;have hsub:=sub_enumerate;have hT:Heap.IsTuple (Shared.heap ⟨hp,g,d,tk,os⟩) t vs:=⟨_,ht,rfl,n,rfl⟩
  wp_walk using AutoSeq1.wpAny_loadPart' ht
  refine wpAny_stack_any λst=>wpAny_pure ?_
  split
  ·rename_i c _ _ _ _ _
   cases (c == Value.type "enumerate") <;> (wp_walk using AutoSeq1.wpAny_loadPart' ht,wpAny_pyIter_tuple hT; exact⟨_,rfl,h⟩)
  ·wp_walk using AutoSeq1.wpAny_loadPart' ht,wpAny_pyIter_tuple hT; exact⟨_,rfl,h⟩
theorem TY {t:Addr} {vs:Array Value} {Q:Value->Shared->Prop} (hT:s.heap.IsTuple t vs)
  (h:∀h',IsEnum h' (s.heap.objs.size+1) s.heap.objs.size 0 .none->h'.IsTupleIter s.heap.objs.size t 0->(∀b o,s.heap.get? b=some o->h'.get? b=some o)->Q (.ref (s.heap.objs.size+1)) { s with heap:=h' }) :
  wpAny (model prog w) A (call (.type "enumerate") [.ref t]) Q E s:=by
 obtain⟨⟨c,dct,dt,sl⟩,ht,hc,n,hd⟩:=hT;obtain rfl:c=.type "tuple":=hc;obtain rfl:dt=.seq vs n:=hd;refine callType_new PySem.F.called_enumerate (by decide) (PySem.F.typeCall_enumerate_1 _) (PySem.F.newCall_enumerate_1 _) (λobj=>PySem.F.args_object_init_2 obj _) PySem.F.entry_enumerate_new (Sy t vs n dct sl) ⟨ht,?_⟩;have z:(s.heap.push { cls:=.type "tuple_iterator",data:=.fields #[.ref t,.int 0 0] }).objs.size=s.heap.objs.size+1:=Heap.size_push ..;show _/\_;rw[z];have he:IsEnum ((s.heap.push { cls:=.type "tuple_iterator",data:=.fields #[.ref t,.int 0 0] }).push { cls:=.type "enumerate",data:=.fields #[.none,.bool false,.ref s.heap.objs.size,rawInt 0,.none,.none] }) (s.heap.objs.size+1) s.heap.objs.size 0 .none:=by
  have q:=Heap.get?_push_size (s.heap.push { cls:=.type "tuple_iterator",data:=.fields #[.ref t,.int 0 0] }) (o:={ cls:=.type "enumerate",data:=.fields #[.none,.bool false,.ref s.heap.objs.size,rawInt 0,.none,.none] }) rfl;rw[z] at q;exact q
 exact⟨⟨_,he,rfl⟩,h _ he ⟨_,Heap.get?_push_of_some _ (Heap.get?_push_size _ rfl),rfl,rfl⟩ λb o q=>Heap.get?_push_of_some _ (Heap.get?_push_of_some _ q)⟩
end
section
variable {X:Cx}
def JQ(a : Addr): It :=
  ⟨λi H => ∃xs x, H a = some (.AG xs) /\ xs[i]? = some x,
   λi H v H' => ∃p x, v = .ref p /\ H p = none /\ H' = AJ H p (.AG [.int i, x]) /\ ∀xs, H a = some (.AG xs) → xs[i]? = some x,
   λi H => ∃xs, H a = some (.AG xs) /\ xs.length = i⟩
theorem UK{P:Program}{w:World}{K:PySem.W.Frag}{es:List PySem.Expr}{kk:Nat}{pos:Pos}{a e it:Addr}(hei:e≠it):
  IC P w K (.Tuple es kk pos) (JQ a) [e,it] e (λi h=>(∃old,IsEnum h e it ((i:Nat):Int) old)/\h.IsTupleIter it a i) where
 mem:=by simp
 obj:=λi h st c hc=>by
  obtain⟨⟨old,h1⟩,o2,h2,_,d2⟩:=st;simp only[List.mem_cons,List.not_mem_nil,or_false] at hc;rcases hc with rfl | rfl
  ·exact⟨_,h1,λv z=>by have z':Data.fields _=Data.cell v:=z; cases z'⟩
  ·exact⟨_,h2,λv z=>by rw[d2] at z; cases z⟩
 keep:=λi h h' st k=>by
  obtain⟨⟨old,h1⟩,o2,h2,r⟩:=st;exact⟨⟨old,k e (by simp) _ h1⟩,o2,k it (by simp) _ h2,r⟩
 item:=by
  intro X hP hw hK hc i pins s σ H E I hf st hg;subst hP hw hK;obtain⟨xs,x,qa,hx⟩:=hg;obtain⟨its,rv,pa,_⟩:=I.tuple (AK.of (K:=X.K) qa);obtain⟨ux,hux,rx⟩:=rv.get hx;obtain⟨⟨old,h1⟩,h2⟩:=st;have nea:e≠a:=λz=>by
   have:=(hf e (by simp)).1
   rw[z,qa] at this;cases this
  have nia:a≠it:=λz=>by
   have:=(hf it (by simp)).1
   rw[<-z,qa] at this;cases this
  have hlt:i<its.toArray.size:=by
   rw[List.size_toArray];exact(List.getElem?_eq_some_iff.mp hux).1
  have D:Draws X.prog X.w X.A.in1 it [it,a] its.toArray.size (λi v=>its.toArray[i]?=some v) (λi h=>h.IsTupleIter it a i/\h.IsTuple a its.toArray):=QC (show X.A.in1.handled=none from I.ok.hd hc) it a nia its.toArray;refine wpAny_pyNext_enum_itemD D h1 ⟨h2,pa⟩ hlt hei (by simp[hei,nea]) λy h' tk hy a1 a2 a3 a4 k=>?_
  have hyx:y=ux:=by
   have q1:its.toArray[i]?=some y:=hy;rw[List.getElem?_toArray,hux] at q1;exact(Option.some.inj q1).symm
  subst hyx;refine⟨_,rfl,wpAny_letOwnedTupleGo_enum a1 λh'' b1 sb=>?_⟩;have sb:Heap.SameBut e h' h'':=sb;have hse:s.heap.objs.size≠e:=Nat.ne_of_gt (Heap.lt_size h1);have hsi:s.heap.objs.size≠it:=by
   obtain⟨o,g,_⟩:=id h2;exact Nat.ne_of_gt (Heap.lt_size g)
  have hn:H s.heap.objs.size=none:=I.hok.fresh (Nat.le_refl _);have kk':∀c o,c∉[e,it]->s.heap.get? c=some o->h''.get? c=some o:=λc o hc q =>
   (sb.2 c λz=>hc (by simp[z])).trans (k c o (λz=>hc (by simp[z])) (λz=>hc (by simp[z])) q)
  have tO:h''.get? s.heap.objs.size=some { cls:=.type "tuple",data:=.seq #[.int i tk,y] }:=(sb.2 _ hse).trans a3;have nt:∀c u,H c=some u->c∉[e,it]:=λc u q hc=>by
   have:=(hf c hc).1
   rw[q] at this;cases this
  have tupOk:Bf X.prog X.w (AJ H s.heap.objs.size (.AG [.int i,x])) h'' s.heap.objs.size (.AG [.int i,x]) :=
   ⟨by exact sz2,[.int i tk,y],.cons ⟨tk,rfl⟩ (.cons rx .nil),⟨_,tO,rfl,_,rfl⟩,_,tO,rfl⟩
  have I1:AL X pins σ (AJ H s.heap.objs.size (.AG [.int i,x])) { s with heap:=h'',toks:=tk+1 }:=by
   refine I.step (g':=s.gens) (d':=s.drawn) (t':=tk+1) (ch:=[e,it]) (λc hc=>⟨(hf c hc).2.2.2.1,(hf c hc).2.1,(hf c hc).2.2.2.2.1,(hf c hc).2.2.2.2.2⟩) (λc o _ _ hc q _=>kk' c o hc q) (λc o _ _ hc q _=>⟨o.slots,kk' c o hc q⟩)
    (λc o _ q n=>by rw[Ao (Nat.ne_of_lt (Heap.lt_size q))]; exact n) (λc o hc q=>⟨o,kk' c o hc q⟩) (λc vs q=>by rw[Ao (A7 q hn)]; exact q) (λc o vs q=>by rw[Ao (A7 q hn)]; exact q)
    (λc ps q=>⟨#[],by rw[Ao (A7 q hn),q]; simp⟩) (λm hm=>?_) (λc o q=>?_) I.bare
   ·obtain⟨o,es',ep,ho,r⟩:=hm;exact⟨o,es',ep,kk' _ o (λq=>(hf _ q).2.1 rfl) ho,r⟩
   ·by_cases hcs:c=s.heap.objs.size
    ·subst hcs;rw[AV] at q;cases q;exact tupOk
    ·rw[Ao hcs] at q;refine(I.hok c o q).En (λd v hd z=>kk' d v ?_ z) (λd z=>by rw[Ao (A7 z hn)]; exact z) λd vs z=>by rw[Ao (A7 z hn)]; exact z
     rcases hd with hd | hd
     ·rw[hd]; exact nt c o q
     ·exact nt d _ hd
  have g2:h''.IsTupleIter it a (i+1):=by
   obtain⟨⟨o,g,r⟩,_⟩:=a2;exact⟨o,(sb.2 _ (Ne.symm hei)).trans g,r⟩
  have g1:IsEnum h'' e it (((i+1:Nat)):Int) y:=by
   have:((i+1:Nat):Int)=(i:Int)+1:=by omega
   rw[this];exact b1
  exact⟨.ref s.heap.objs.size,_,I1,rfl,⟨_,x,rfl,hn,rfl,λxs' q=>by rw[qa] at q; cases q; exact hx⟩,⟨⟨_,g1⟩,g2⟩,λc hc=>by
   have:c≠s.heap.objs.size:=by
    simp only[List.mem_cons,List.not_mem_nil,or_false] at hc;rcases hc with rfl | rfl
    ·exact Ne.symm hse
    ·exact Ne.symm hsi
   rw[Ao this];exact(hf c hc).1⟩
 done:=by
  intro X hP hw hK hc i pins s σ H E I hf st hg;subst hP hw hK;obtain⟨xs,qa,hl⟩:=hg;obtain⟨its,rv,pa,_⟩:=I.tuple (AK.of (K:=X.K) qa);obtain⟨⟨old,h1⟩,h2⟩:=st;have nia:a≠it:=λz=>by
   have:=(hf it (by simp)).1
   rw[<-z,qa] at this;cases this
  have D:Draws X.prog X.w X.A.in1 it [it,a] its.toArray.size (λi v=>its.toArray[i]?=some v) (λi h=>h.IsTupleIter it a i/\h.IsTuple a its.toArray):=QC (show X.A.in1.handled=none from I.ok.hd hc) it a nia its.toArray;have hi:its.toArray.size=i:=by
   rw[List.size_toArray,<-rv.length];exact hl
  obtain⟨f0,f1,f2,f3,f4,f5⟩:=hf it (by simp);refine wpAny_pyNext_enum_endD D h1 (by rw[hi]; exact⟨h2,pa⟩) λh' k=>⟨rfl,I.E6 (t':=s.toks) (λb o hb q=>k b o hb q) f0 f1 f3 f4 f5⟩
 self:=λ_ _ _ _ _ st h=>by
  obtain⟨⟨old,h1⟩,_⟩:=st;exact wpAny_pyIter_enum h1 h
def Yi(ta:TA):TI:=λσ H R=>ta σ H λvs H1=>∃a xs,vs=[.ref a]/\H1 a=some (.AG xs)/\R (JQ a) H1
theorem XF{es:List PySem.Expr}{kk:Nat}{tpos:Pos}{a:PySem.Expr}{ta:TA}{p pos:Pos}(hg:Gl X "enumerate")(hm:X.mg "enumerate" = none)(ha:PA X [a] ta)(hs:starEach [a] X.env=[(false,eval a X.env)]:=by rfl):
  PI X (.Tuple es kk tpos) (.Call (.Name "enumerate" p) [a] [] pos) (Yi ta):=by
 intro pins s σ H R I h;refine Call_ (HB I hg hm PyProof.Rows.boot_enumerate (PyProof.Rows.callWith_type1 (AZ (ha pos pins s σ H _ I h) λus s1 ⟨vs,H1,I1,r1,q1⟩=>?_) hs rfl));obtain⟨la,xs,e,qa,q⟩:=q1;subst e;obtain⟨u1,rfl,ra⟩:=Ef r1;cases ra;obtain⟨its,rv,pa,_⟩:=I1.tuple (AK.of (K:=X.K) qa);refine TY pa λh' z1 z2 zk=>wpAny_pyIter_enum z1 ?_
 have I2:AL X pins σ H1 { s1 with heap:=h' }:=I1.CK (t':=s1.toks) zk;refine⟨s1.heap.objs.size+1,_,_,_,H1,rfl,I2,UK (Nat.succ_ne_self _),⟨⟨_,z1⟩,z2⟩,λc hc=>?_,q⟩;have hge:s1.heap.objs.size<=c:=by
  simp only[List.mem_cons,List.not_mem_nil,or_false] at hc;rcases hc with rfl | rfl <;> omega
 exact I1.II (H':=H1) hge (I1.hok.fresh hge)
theorem Vh {a:Addr} {xs:List V} {g:TG} {tb:TS} {D:Cz} {σ:St} {H:Hp} (Pv:Nat->St->Hp->Prop) (h0:Pv 0 σ H) (hl:∀i σ H,i<=xs.length->Pv i σ H->H a=some (.AG xs))
  (hs:∀i x σ H p,xs[i]?=some x->Pv i σ H->H p=none->g (.ref p) σ (AJ H p (.AG [.int i,x])) λσ2 H2=>tb { D with nx:=Pv (i+1),ct:=Pv (i+1),bk:=D.nx } σ2 H2) (hd:∀σ H,Pv xs.length σ H->D.nx σ H) :
  ∃W:Nat->Nat->St->Hp->Prop,(∃m,W 0 m σ H)/\∀i m σ H,W i m σ H →
   ((JQ a).stop i H/\D.nx σ H)\/((JQ a).go i H/\∃N:St->Hp->Prop,(∀σ' H',N σ' H'->∃m',m' < m/\W (i+1) m' σ' H')/\∀x H',(JQ a).EF i H x H'->g x σ H' λσ2 H2=>tb { D with nx:=N,ct:=N,bk:=D.nx } σ2 H2):=by
 refine⟨λi m σ H=>m=xs.length-i/\i<=xs.length/\Pv i σ H,⟨xs.length,by simp,Nat.zero_le _,h0⟩,?_⟩;rintro i m σ H ⟨rfl,hi,p⟩;have qa:=hl i σ H hi p;rcases Nat.lt_or_ge i xs.length with hlt | hge
 ·refine .inr ⟨⟨xs,xs[i],qa,by simp[hlt]⟩,Pv (i+1),λσ' H' p'=>⟨xs.length-(i+1),by omega,rfl,hlt,p'⟩,λv H' yl=>?_⟩;obtain⟨pa,x,rfl,hp,rfl,hx⟩:=yl;exact hs i x σ H pa (hx xs qa) p hp
 ·obtain rfl:i=xs.length:=by omega
  exact .inl ⟨⟨xs,qa,rfl⟩,hd σ H p⟩
def WS:V->List V->Hp->VK->Prop:=λx vs H Q=>∃l xs k y,x=.ref l/\vs=[.int k,y]/\H l=some (.AN xs)/\0<=k/\k<=xs.length/\xs.length<1000000/\Q .An (AJ H l (.AN (xs.take k.toNat++y :: xs.drop k.toNat)))
theorem T7:JZ X "list.insert" WS:=by
 intro pins s σ H x vs v us Q I rx rv h;obtain⟨l,xs,k,y,rfl,rfl,hH,k0,k1,hz,q⟩:=h;cases rx;obtain⟨u1,u2,rfl,r1,r2⟩:=Kv rv;obtain⟨t,rfl⟩:=r1;obtain⟨z,its,n,r,hl,e⟩:=I.Gm hH;have hzs:its.length<=sizeLine:=by rw[<-hl]; exact z
 have hfit:¬(!Builtin.List.listFitsIndex k)=true:=by
  unfold Builtin.List.listFitsIndex;simp only[Bool.not_eq_true,Bool.not_eq_false',Bool.and_eq_true,decide_eq_true_eq];omega
 refine call_meets PySem.F.slot_list_insert ⟨_,e,rfl⟩ PySem.F.entry_list_insert (PySem.F.args_list_insert_3 _ _ _) (AutoSeq1.list_insert_list_int_val_1 l its.toArray n k t u2 hfit (by rw[List.size_toArray]; exact hzs)) ⟨e,?_⟩;refine⟨.An,_,I.K4 (its':=its.take k.toNat++u2 :: its.drop k.toNat) hH e ?_ ((r.take _).Eb (.cons r2 (r.drop _))) ?_,rfl,q⟩
 ·have hk:¬k<0:=by omega
  have hm:min k.toNat its.toArray.size=k.toNat:=by rw[List.size_toArray]; omega
  simp only[if_neg hk,hm];apply Array.toList_inj.mp;simp;exact List.take_of_length_le (by simp)
 ·rw[List.length_append,List.length_cons,List.length_take,List.length_drop];rw[sizeLine_eq] at *;omega
end
section
variable {X:Cx}
def JJ(a : Addr): It :=
  ⟨λi H => ∃xs x, H a = some (.AN xs) /\ xs[i]? = some x,
   λi H v H' => ∃p x, v = .ref p /\ H p = none /\ H' = AJ H p (.AG [.int i, x]) /\ ∀xs, H a = some (.AN xs) → xs[i]? = some x,
   λi H => ∃xs, H a = some (.AN xs) /\ xs.length = i⟩
theorem TZ{P:Program}{w:World}{K:PySem.W.Frag}{es:List PySem.Expr}{kk:Nat}{pos:Pos}{a e it:Addr}(hei:e≠it):
  IC P w K (.Tuple es kk pos) (JJ a) [e,it] e (λi h=>(∃old,IsEnum h e it ((i:Nat):Int) old)/\h.IsListIter it a i) where
 mem:=by simp
 obj:=λi h st c hc=>by
  obtain⟨⟨old,h1⟩,o2,h2,_,d2⟩:=st;simp only[List.mem_cons,List.not_mem_nil,or_false] at hc;rcases hc with rfl | rfl
  ·exact⟨_,h1,λv z=>by have z':Data.fields _=Data.cell v:=z; cases z'⟩
  ·exact⟨_,h2,λv z=>by rw[d2] at z; cases z⟩
 keep:=λi h h' st k=>by
  obtain⟨⟨old,h1⟩,o2,h2,r⟩:=st;exact⟨⟨old,k e (by simp) _ h1⟩,o2,k it (by simp) _ h2,r⟩
 item:=by
  intro X hP hw hK hc i pins s σ H E I hf st hg;subst hP hw hK;obtain⟨xs,x,qa,hx⟩:=hg;obtain⟨its,rv,pa,_⟩:=I.list (AR.of (K:=X.K) qa);obtain⟨ux,hux,rx⟩:=rv.get hx;obtain⟨⟨old,h1⟩,h2⟩:=st;have nea:e≠a:=λz=>by
   have:=(hf e (by simp)).1
   rw[z,qa] at this;cases this
  have nia:a≠it:=λz=>by
   have:=(hf it (by simp)).1
   rw[<-z,qa] at this;cases this
  have hlt:i<its.toArray.size:=by
   rw[List.size_toArray];exact(List.getElem?_eq_some_iff.mp hux).1
  have D:Draws X.prog X.w X.A.in1 it [it,a] its.toArray.size (λi v=>its.toArray[i]?=some v) (λi h=>h.IsListIter it a i/\h.IsList a its.toArray):=Draws.list (show X.A.in1.handled=none from I.ok.hd hc) it a nia its.toArray;refine wpAny_pyNext_enum_itemD D h1 ⟨h2,pa.isList⟩ hlt hei (by simp[hei,nea]) λy h' tk hy a1 a2 a3 a4 k=>?_
  have hyx:y=ux:=by
   have q1:its.toArray[i]?=some y:=hy;rw[List.getElem?_toArray,hux] at q1;exact(Option.some.inj q1).symm
  subst hyx;refine⟨_,rfl,wpAny_letOwnedTupleGo_enum a1 λh'' b1 sb=>?_⟩;have sb:Heap.SameBut e h' h'':=sb;have hse:s.heap.objs.size≠e:=Nat.ne_of_gt (Heap.lt_size h1);have hsi:s.heap.objs.size≠it:=by
   obtain⟨o,g,_⟩:=id h2;exact Nat.ne_of_gt (Heap.lt_size g)
  have hn:H s.heap.objs.size=none:=I.hok.fresh (Nat.le_refl _);have kk':∀c o,c∉[e,it]->s.heap.get? c=some o->h''.get? c=some o:=λc o hc q =>
   (sb.2 c λz=>hc (by simp[z])).trans (k c o (λz=>hc (by simp[z])) (λz=>hc (by simp[z])) q)
  have tO:h''.get? s.heap.objs.size=some { cls:=.type "tuple",data:=.seq #[.int i tk,y] }:=(sb.2 _ hse).trans a3;have nt:∀c u,H c=some u->c∉[e,it]:=λc u q hc=>by
   have:=(hf c hc).1
   rw[q] at this;cases this
  have tupOk:Bf X.prog X.w (AJ H s.heap.objs.size (.AG [.int i,x])) h'' s.heap.objs.size (.AG [.int i,x]) :=
   ⟨by exact sz2,[.int i tk,y],.cons ⟨tk,rfl⟩ (.cons rx .nil),⟨_,tO,rfl,_,rfl⟩,_,tO,rfl⟩
  have I1:AL X pins σ (AJ H s.heap.objs.size (.AG [.int i,x])) { s with heap:=h'',toks:=tk+1 }:=by
   refine I.step (g':=s.gens) (d':=s.drawn) (t':=tk+1) (ch:=[e,it]) (λc hc=>⟨(hf c hc).2.2.2.1,(hf c hc).2.1,(hf c hc).2.2.2.2.1,(hf c hc).2.2.2.2.2⟩) (λc o _ _ hc q _=>kk' c o hc q) (λc o _ _ hc q _=>⟨o.slots,kk' c o hc q⟩)
    (λc o _ q n=>by rw[Ao (Nat.ne_of_lt (Heap.lt_size q))]; exact n) (λc o hc q=>⟨o,kk' c o hc q⟩) (λc vs q=>by rw[Ao (A7 q hn)]; exact q) (λc o vs q=>by rw[Ao (A7 q hn)]; exact q)
    (λc ps q=>⟨#[],by rw[Ao (A7 q hn),q]; simp⟩) (λm hm=>?_) (λc o q=>?_) I.bare
   ·obtain⟨o,es',ep,ho,r⟩:=hm;exact⟨o,es',ep,kk' _ o (λq=>(hf _ q).2.1 rfl) ho,r⟩
   ·by_cases hcs:c=s.heap.objs.size
    ·subst hcs;rw[AV] at q;cases q;exact tupOk
    ·rw[Ao hcs] at q;refine(I.hok c o q).En (λd v hd z=>kk' d v ?_ z) (λd z=>by rw[Ao (A7 z hn)]; exact z) λd vs z=>by rw[Ao (A7 z hn)]; exact z
     rcases hd with hd | hd
     ·rw[hd]; exact nt c o q
     ·exact nt d _ hd
  have g2:h''.IsListIter it a (i+1):=by
   obtain⟨⟨o,g,r⟩,_⟩:=a2;exact⟨o,(sb.2 _ (Ne.symm hei)).trans g,r⟩
  have g1:IsEnum h'' e it (((i+1:Nat)):Int) y:=by
   have:((i+1:Nat):Int)=(i:Int)+1:=by omega
   rw[this];exact b1
  exact⟨.ref s.heap.objs.size,_,I1,rfl,⟨_,x,rfl,hn,rfl,λxs' q=>by rw[qa] at q; cases q; exact hx⟩,⟨⟨_,g1⟩,g2⟩,λc hc=>by
   have:c≠s.heap.objs.size:=by
    simp only[List.mem_cons,List.not_mem_nil,or_false] at hc;rcases hc with rfl | rfl
    ·exact Ne.symm hse
    ·exact Ne.symm hsi
   rw[Ao this];exact(hf c hc).1⟩
 done:=by
  intro X hP hw hK hc i pins s σ H E I hf st hg;subst hP hw hK;obtain⟨xs,qa,hl⟩:=hg;obtain⟨its,rv,pa,_⟩:=I.list (AR.of (K:=X.K) qa);obtain⟨⟨old,h1⟩,h2⟩:=st;have nia:a≠it:=λz=>by
   have:=(hf it (by simp)).1
   rw[<-z,qa] at this;cases this
  have D:Draws X.prog X.w X.A.in1 it [it,a] its.toArray.size (λi v=>its.toArray[i]?=some v) (λi h=>h.IsListIter it a i/\h.IsList a its.toArray):=Draws.list (show X.A.in1.handled=none from I.ok.hd hc) it a nia its.toArray;have hi:its.toArray.size=i:=by
   rw[List.size_toArray,<-rv.length];exact hl
  obtain⟨f0,f1,f2,f3,f4,f5⟩:=hf it (by simp);refine wpAny_pyNext_enum_endD D h1 (by rw[hi]; exact⟨h2,pa.isList⟩) λh' k=>⟨rfl,I.E6 (t':=s.toks) (λb o hb q=>k b o hb q) f0 f1 f3 f4 f5⟩
 self:=λ_ _ _ _ _ st h=>by
  obtain⟨⟨old,h1⟩,_⟩:=st;exact wpAny_pyIter_enum h1 h
def Xk(ta:TA):TI:=λσ H R=>ta σ H λvs H1=>∃a xs,vs=[.ref a]/\H1 a=some (.AN xs)/\R (JJ a) H1
theorem Ic{es:List PySem.Expr}{kk:Nat}{tpos:Pos}{a:PySem.Expr}{ta:TA}{p pos:Pos}(hg:Gl X "enumerate")(hm:X.mg "enumerate" = none)(ha:PA X [a] ta)(hs:starEach [a] X.env=[(false,eval a X.env)]:=by rfl):
  PI X (.Tuple es kk tpos) (.Call (.Name "enumerate" p) [a] [] pos) (Xk ta):=by
 intro pins s σ H R I h;refine Call_ (HB I hg hm PyProof.Rows.boot_enumerate (PyProof.Rows.callWith_type1 (AZ (ha pos pins s σ H _ I h) λus s1 ⟨vs,H1,I1,r1,q1⟩=>?_) hs rfl));obtain⟨la,xs,e,qa,q⟩:=q1;subst e;obtain⟨u1,rfl,ra⟩:=Ef r1;cases ra;obtain⟨its,rv,pa,_⟩:=I1.list (AR.of (K:=X.K) qa);refine call_enumerate_list pa.isList λh' z1 z2 _ zk=>wpAny_pyIter_enum z1 ?_
 have I2:AL X pins σ H1 { s1 with heap:=h' }:=I1.CK (t':=s1.toks) zk;refine⟨s1.heap.objs.size+1,_,_,_,H1,rfl,I2,TZ (Nat.succ_ne_self _),⟨⟨_,z1⟩,z2⟩,λc hc=>?_,q⟩;have hge:s1.heap.objs.size<=c:=by
  simp only[List.mem_cons,List.not_mem_nil,or_false] at hc;rcases hc with rfl | rfl <;> omega
 exact I1.II (H':=H1) hge (I1.hok.fresh hge)
theorem Jm {a:Addr} {xs:List V} {g:TG} {tb:TS} {D:Cz} {σ:St} {H:Hp} (Pv:Nat->St->Hp->Prop) (h0:Pv 0 σ H) (hl:∀i σ H,i<=xs.length->Pv i σ H->H a=some (.AN xs))
  (hs:∀i x σ H p,xs[i]?=some x->Pv i σ H->H p=none->g (.ref p) σ (AJ H p (.AG [.int i,x])) λσ2 H2=>tb { D with nx:=Pv (i+1),ct:=Pv (i+1),bk:=D.nx } σ2 H2) (hd:∀σ H,Pv xs.length σ H->D.nx σ H) :
  ∃W:Nat->Nat->St->Hp->Prop,(∃m,W 0 m σ H)/\∀i m σ H,W i m σ H →
   ((JJ a).stop i H/\D.nx σ H)\/((JJ a).go i H/\∃N:St->Hp->Prop,(∀σ' H',N σ' H'->∃m',m' < m/\W (i+1) m' σ' H')/\∀x H',(JJ a).EF i H x H'->g x σ H' λσ2 H2=>tb { D with nx:=N,ct:=N,bk:=D.nx } σ2 H2):=by
 refine⟨λi m σ H=>m=xs.length-i/\i<=xs.length/\Pv i σ H,⟨xs.length,by simp,Nat.zero_le _,h0⟩,?_⟩;rintro i m σ H ⟨rfl,hi,p⟩;have qa:=hl i σ H hi p;rcases Nat.lt_or_ge i xs.length with hlt | hge
 ·refine .inr ⟨⟨xs,xs[i],qa,by simp[hlt]⟩,Pv (i+1),λσ' H' p'=>⟨xs.length-(i+1),by omega,rfl,hlt,p'⟩,λv H' yl=>?_⟩;obtain⟨pa,x,rfl,hp,rfl,hx⟩:=yl;exact hs i x σ H pa (hx xs qa) p hp
 ·obtain rfl:i=xs.length:=by omega
  exact .inl ⟨⟨xs,qa,rfl⟩,hd σ H p⟩
variable {a:Addr} {xs:List V} {g:TG} {tb:TS} {D:Cz} {σ:St} {H:Hp}
theorem HC {X:Cx} (K:PySem.W.Frag) {o e:PySem.Expr} {es:List PySem.Expr} {to:TE} {t:TA} {name:Str} {apos cpos:Pos} {T id:String} {r:V->List V->Hp->VK->Prop} (pa:PlainAttrs T) (slot:Slot T name id) (hty:typeOf (.builtin id)=pure (.type "method_descriptor")) (hm:SS X id r) (ho:PE X o to) (ha:PA X (e :: es) t)
  (hbase:attributeBase o name X.env (eval o X.env)=eval o X.env:=by rfl)
  (hfew:((backTo cpos (starEach (e :: es) X.env)).all (λx=>!x.1) && (backToKw cpos (keywordEach [] X.env)).all (λx=>x.1.isSome) && decide ((e :: es).length+([]:List Keyword).length+(if ([]:List Keyword).isEmpty then 0 else 1)<30))=true:=by rfl)
  (hline:(apos.endLine == cpos.line)=true:=by rfl) (hs:starEach (e :: es) X.env=(false,eval e X.env) :: starEach es X.env:=by rfl) (hplain:(backTo cpos (starEach es X.env)).any (·.1)=false:=by rfl) (hK:X.K=K:=by rfl) :
  PE X (.Call (.Attribute o name apos) (e :: es) [] cpos) (SD K T r to t):=by
 subst hK;exact Ys pa slot hty hm ho ha hbase hfew hline hs hplain
def Gs(t:Bool)(h:Heap)(c a:Addr)(k:Nat):Prop:=if t then h.IsTupleIter c a k else h.IsListIter c a k
def JS(t:Bool)(h:Heap)(a:Addr)(vs:Array Value):Prop:=if t then h.IsTuple a vs else h.IsList a vs
theorem Gs.ext{t:Bool}{h h':Heap}{c b a:Addr}{k:Nat}(x:Gs t h c a k)(hs:Heap.ExtBut b h h')(n:c≠b):Gs t h' c a k:=by
 cases t
 ·exact Heap.IsListIter.extBut x hs n
 ·exact Heap.IsTupleIter.extBut x hs n
theorem Gs.at{t:Bool}{h h':Heap}{c a:Addr}{k:Nat}(x:Gs t h c a k)(e:∀o,h.get? c=some o->h'.get? c=some o):Gs t h' c a k:=by
 cases t
 ·exact Heap.IsListIter.at x e
 ·exact Heap.IsTupleIter.at x e
theorem Gs.obj{t:Bool}{h:Heap}{c a:Addr}{k:Nat}(x:Gs t h c a k):∃o,h.get? c=some o/\∀v,o.data≠.cell v:=by
 cases t
 ·obtain⟨o,e,_,d⟩:=x;exact⟨o,e,λv z=>by rw[d] at z; cases z⟩
 ·obtain⟨o,e,_,d⟩:=x;exact⟨o,e,λv z=>by rw[d] at z; cases z⟩
theorem JS.ext{t:Bool}{h h':Heap}{b a:Addr}{vs:Array Value}(x:JS t h a vs)(hs:Heap.ExtBut b h h')(n:a≠b):JS t h' a vs:=by
 cases t
 ·exact Heap.IsList.extBut x hs n
 ·exact Heap.IsTuple.extBut x hs n
variable {prog:Program} {w:World} {A:Around} {E:Value->Shared->Prop} {s:Shared}
def LQ(t:Bool)(K:PySem.W.Frag)(H:Hp)(a:Addr)(xs:List V):Prop:=if t then AK K H a xs else AR K H a xs
theorem JS.lt{t:Bool}{h:Heap}{a:Addr}{vs:Array Value}(x:JS t h a vs):a<h.objs.size:=by
 cases t
 ·obtain⟨o,e,_⟩:=x;exact Heap.lt_size e
 ·obtain⟨o,e,_⟩:=x;exact Heap.lt_size e
theorem LQ.l{K:PySem.W.Frag}{H:Hp}{a:Addr}{xs:List V}(h:H a=some (.AN xs)):LQ false K H a xs:=AR.of h
theorem LQ.t{K:PySem.W.Frag}{H:Hp}{a:Addr}{xs:List V}(h:H a=some (.AG xs)):LQ true K H a xs:=AK.of h
end
end L2
namespace L2
open PySem PySem.Spec PyProof.Rows PySem.W
section
variable {prog:Program} {w:World} {A:Around} {E:Value->Shared->Prop} {K:Frag} {h:Heap} {g:Array GenState} {d:Drawn} {t:Nat} {os:OsState} {a C:Addr} {o:Obj}
structure Fu(K:Frag)(C:Addr):Prop where
 ga:findIn K (.ref C) "__getattribute__" = some (some (.builtin "BaseException.__getattribute__"))
 gt:findIn K (.ref C) "__getattr__" = some none
 cl:findIn K (.ref C) "__class__" = some (some (.builtin "object.__class__"))
 gg:specialIn K (.builtin "object.__class__") "__get__" = some (some (.builtin "getset_descriptor.__get__"))
 tk:takesIn K (.builtin "object.__class__")=some true
 mo:mroIn K C (.type "object")=some true
 mb:mroIn K C (.type "BaseException")=some true
 cd:(clsIn K C).isSome=true
theorem Xe{R:Result->Shared->Prop}(T:Fu K C)(X:K.In h)(hx:h.get? a=some o)(hc:o.cls=.ref C)(hq:R (.ok (.ret (.ref C))) ⟨h,g,d,t,os⟩):
  codeAny (model prog w) A (.call (.builtin "getset_descriptor.__get__") ⟨[.builtin "object.__class__",.ref a,.ref C],[]⟩) R ⟨h,g,d,t,os⟩:=by
 have L0:Looks (model prog w) h (typeOf (.ref a)) (.ref C):=hc ▸ (Looks.ld hx).andThen .now;have L1:=looks_mroIn (M:=model prog w) X T.mo;refine codeAny_call_builtin KF.slot_gs.plain KF.entry_gs (KF.slot_gs.check _ _ _ _ _ _ _ _ KF.type_class (KF.args_gs _ _ _) ?_);unfold Builtin.«getset_descriptor.__get__» Builtin.Getset_descriptor.descrGet; rw[dga_obj];refine wpAny_bind (wpAny_pure ?_); unfold Builtin.Getset_descriptor.descrGetter Builtin.Getset_descriptor.descrCheckInstance Builtin.Getset_descriptor.descrNameAndClass isInstance;simp only[KF.owner_class]
 repeat lk
 refine⟨Code.quiet_builtin _ (by decide +kernel),codeAny_builtin KF.entry_class ?_⟩;unfold Builtin.«object.__class__» shownTypeOf; repeat lk
 exact hq
theorem V4{tk:Tok}{Q:Fin->Shared->Prop}(T:Fu K C)(X:K.In h)(hx:h.get? a=some o)(hc:o.cls=.ref C)(hq:Q (.done (.ret (.ref C))) ⟨h,g,d,t,os⟩):
  wpAny (model prog w) A (Builtin.«object.__getattribute__» ⟨[.ref a,.str "__class__" tk],[]⟩) Q E ⟨h,g,d,t,os⟩:=by
 have L1:=looks_findIn (M:=model prog w) X T.cl;have L2:=looks_specialIn (M:=model prog w) X T.gg;have L3:=looks_takesIn (M:=model prog w) X T.tk
 repeat (any_goals (first | assumption | (with_reducible refine wpAny_loadPart_at hx ?_; rw[hc]) | with_reducible refine L1.at ?_ | with_reducible refine L2.at ?_ | with_reducible refine L3.at ?_ | wp_step))
 refine Xe T X hx hc ?_
 repeat (any_goals (first | assumption | wp_step))
theorem VV{nameV:Value}{Q:Unit->Shared->Prop}(T:Fu K C)(X:K.In h)(hx:h.get? a=some o)(hc:o.cls=.ref C)(hq:Q () ⟨h,g,d,t,os⟩):wpAny (model prog w) A (checkBuiltinCall "BaseException.__getattribute__" ⟨[.ref a,nameV],[]⟩) Q E ⟨h,g,d,t,os⟩:=by
 have kd:builtinKind "BaseException.__getattribute__" = some .slot:=by decide +kernel
 have sp:splitId "BaseException.__getattribute__" = some ("BaseException","__getattribute__"):=by decide +kernel
 have L1:=looks_mroIn (M:=model prog w) X T.mb;have ar:=PySem.F.args_bexc_ga (.ref a) nameV;simp only[checkBuiltinCall,kd,sp];refine wpAny_bind ?_; unfold isInstance
 repeat (first | (with_reducible refine wpAny_loadPart_at hx ?_; rw[hc]) | with_reducible refine L1.at ?_ | wp_step)
 exact hq
theorem W2{tk:Tok}{R:Result->Shared->Prop}(T:Fu K C)(X:K.In h)(hx:h.get? a=some o)(hc:o.cls=.ref C)(hq:R (.ok (.ret (.ref C))) ⟨h,g,d,t,os⟩):
  codeAny (model prog w) A (.call (.builtin "BaseException.__getattribute__") ⟨[.ref a,.str "__class__" tk],[]⟩) R ⟨h,g,d,t,os⟩ :=
 codeAny_call_builtin PySem.F.excAttr_ValueError.ga.plain PySem.F.entry_bexc_ga (VV T X hx hc (V4 T X hx hc hq))
theorem Y3{tk:Tok}{fill expr:Bool}{Q:Value->Shared->Prop}(T:Fu K C)(X:K.In h)(hx:h.get? a=some o)(hc:o.cls=.ref C)(hq:Q (.ref C) ⟨h,g,d,t,os⟩):
  wpAny (model prog w) A (getAttrBy (.ref a) (.str "__class__" tk) fill expr) Q E ⟨h,g,d,t,os⟩:=by
 have f3:=PySem.F.excAttr_ValueError.ga.bind (.ref a);have y0:(expr && onTheHeap (Value.builtin "BaseException.__getattribute__"))=false:=by cases expr <;> rfl
 have y2:(Value.builtin "BaseException.__getattribute__" == Value.builtin "object.__getattribute__")=false:=by decide +kernel
 have y1:(onTheHeap (Value.ref C) && Value.builtin "BaseException.__getattribute__" == Value.builtin "object.__getattribute__")=false:=by rw[y2]; rfl
 have L1:=looks_findIn (M:=model prog w) X T.ga;have L2:=looks_findIn (M:=model prog w) X T.gt
 repeat (any_goals (first | assumption | (with_reducible refine wpAny_loadPart_at hx ?_; rw[hc]) | with_reducible refine L1.at ?_ | with_reducible refine L2.at ?_ | wp_step))
 refine W2 T X hx hc ?_
 repeat (any_goals (first | assumption | wp_step))
theorem XJ{Q:Option Value->Shared->Prop}(T:Fu K C)(X:K.In h)(hx:h.get? a=some o)(hc:o.cls=.ref C)(hq:Q (some (.ref C)) ⟨h,g,d,t+1,os⟩):
  wpAny (model prog w) A (getAttr? (.ref a) "__class__") Q E ⟨h,g,d,t,os⟩:=by
 unfold getAttr? getAttrBy?;refine wpAny_bind (wpAny_mkText (wpAny_bind (wpAny_attempt (Y3 T X hx hc (wpAny_pure hq)))))
theorem VY(T:Fu K C):KitX K (.ref a) (.ref C) (λh=>∃o,h.get? a=some o/\o.cls=.ref C) where
 ty:=λM h _ ⟨o,h1,h2⟩=>h2 ▸ (Looks.ld h1).andThen .now
 it:=λ_ _ X _=>by
  obtain⟨cdD,hcD⟩:=Option.isSome_iff_exists.mp T.cd;unfold clsIn at hcD;split at hcD
  ·rename_i c' d' cd' sl' ho
   intro A' Q' E' s' k q;unfold isType loadHead;exact wpAny_bind (wpAny_loadPart (k _ _ (X _ _ ho)) (wpAny_pure q))
  ·cases hcD
 ne:=λh tp dd its n sl X htp=>by
  obtain⟨cdD,hcD⟩:=Option.isSome_iff_exists.mp T.cd;refine Bool.eq_false_iff.mpr λq=>?_
  obtain rfl:C=tp:=Value.ref.inj (beq_iff_eq.mp q);unfold clsIn at hcD;split at hcD
  ·rename_i c' d' cd' sl' ho
   cases (X _ _ ho).symm.trans htp
  ·cases hcD
 ca:=λ{_ _ _ _ _ s} X p k=>by
  obtain⟨hh,g,d,t,os⟩:=s;obtain⟨o,h1,h2⟩:=p;exact XJ T X h1 h2 k
end
section
variable {X:Cx}
def Yj(K:PySem.W.Frag)(c:V)(cv:Value):List V->Hp->VK->Prop:=λxs H Q=>∃(a C:Addr) (od:Option Addr) (b:Bool),xs=[.ref a,c]/\H a=some (A9 a (.ref C) od)/\Fu K C/\PySem.W.kitOne K (.ref C) cv=some b/\Q (.bl b) H
theorem Le{c:V}{cv:Value}(hc:∀u,Au c u->u=cv):Cu X (.builtin "isinstance") (Yj X.K c cv):=by
 intro pins s σ H xs us Q I r h;obtain⟨a,C,od,b,rfl,ha,T,e,q⟩:=h;obtain⟨u,w',rfl,r1,r2⟩:=Kv r;cases hc w' r2;cases r1;obtain⟨⟨o,ho,hcl,_⟩,_,_⟩:=I.hok a _ ha;exact PySem.W.kia_one (VY T) I.Be ⟨o,ho,hcl⟩ e (λz=>nomatch z) λtk=>⟨.bl b,H,I.Dc _,rfl,q⟩
end
end L2
namespace My
open PySem L2
def del(H:Hp)(a:Addr):Hp:=λb=>if b=a then none else H b
theorem Hf(H:Hp)(a:Addr):del H a a=none:=if_pos rfl
theorem HE{H:Hp}{a b:Addr}(h:b≠a):del H a b=H b:=if_neg h
theorem Ff(H:Hp)(a:Addr):AQ (del H a) H:=λb o e=>by
 by_cases h:b=a
 ·subst h; rw[Hf] at e; cases e
 ·rw[HE h] at e; exact e
theorem Fe{H H':Hp}(a:Addr)(s:AQ H H'):AQ (del H a) (del H' a):=λb o e=>by
 by_cases h:b=a
 ·subst h; rw[Hf] at e; cases e
 ·rw[HE h] at e ⊢; exact s _ _ e
theorem Xo(H:Hp)(a:Addr)(o:HO):AQ (del H a) (AJ H a o):=λb u e=>by
 by_cases h:b=a
 ·subst h; rw[Hf] at e; cases e
 ·rw[HE h] at e; rw[Ao h]; exact e
theorem KR(H:Hp)(a:Addr)(o:HO):del (AJ H a o) a=del H a:=by
 funext b
 by_cases h:b=a
 ·subst h; rw[Hf,Hf]
 ·rw[HE h,HE h,Ao h]
theorem Pb{H:Hp}{a:Addr}(h:H a=none):del H a=H:=by
 funext b
 by_cases z:b=a
 ·subst z; rw[Hf,h]
 ·exact HE z
theorem Fj{H:Hp}{a b:Addr}{o:HO}(e:H b=some o)(h:b≠a):del H a b=some o:=by rw[HE h]; exact e
section
variable {α:Type} {R:Hp->Addr->α->Prop}
def At(R:Hp->Addr->α->Prop)(H:Hp)(bs:List Addr)(xs:List α):Prop:=bs.length=xs.length/\∀(i:Nat) (b:Addr) (x:α),bs[i]?=some b->xs[i]?=some x->R H b x
def Mo(R:Hp->Addr->α->Prop):Prop:=∀{H H':Hp} {b:Addr} {x:α},AQ H H'->R H b x->R H' b x
theorem At.nil{H:Hp}:At R H [] []:=⟨rfl,λi b x e=>by simp at e⟩
theorem At.keep{H H':Hp}{bs:List Addr}{xs:List α}(h:At R H bs xs)(m:Mo R)(s:AQ H H'):At R H' bs xs:=⟨h.1,λi b x e1 e2=>m s (h.2 i b x e1 e2)⟩
theorem At.snoc{H:Hp}{bs:List Addr}{xs:List α}{b:Addr}{x:α}(h:At R H bs xs)(r:R H b x):At R H (bs++[b]) (xs++[x]):=by
 refine⟨by simp[h.1],λi c y e1 e2=>?_⟩;have hl:=h.1;rcases Nat.lt_or_ge i bs.length with z | z
 ·rw[List.getElem?_append_left z] at e1;rw[List.getElem?_append_left (by omega)] at e2;exact h.2 i c y e1 e2
 ·rw[List.getElem?_append_right z] at e1;rw[List.getElem?_append_right (by omega)] at e2;rw[hl] at e1;cases hi:i-xs.length with
  | zero=>rw[hi] at e1 e2; cases e1; cases e2; exact r
  | succ k=>rw[hi] at e1; simp at e1
theorem At.FU{H:Hp}{bs cs:List Addr}{xs ys:List α}(h:At R H bs xs)(g:At R H cs ys):At R H (bs++cs) (xs++ys):=by
 refine⟨by simp[h.1,g.1],λi c y e1 e2=>?_⟩;have hl:=h.1;rcases Nat.lt_or_ge i bs.length with z | z
 ·rw[List.getElem?_append_left z] at e1;rw[List.getElem?_append_left (by omega)] at e2;exact h.2 i c y e1 e2
 ·rw[List.getElem?_append_right z] at e1;rw[List.getElem?_append_right (by omega)] at e2;rw[hl] at e1;exact g.2 _ c y e1 e2
theorem At.take{H:Hp}{bs:List Addr}{xs:List α}(h:At R H bs xs)(k:Nat):At R H (bs.take k) (xs.take k):=by
 refine⟨by simp[h.1],λi c y e1 e2=>?_⟩;rw[List.getElem?_take] at e1 e2;split at e1
 ·rename_i hk; rw[if_pos hk] at e2; exact h.2 i c y e1 e2
 ·cases e1
theorem At.drop{H:Hp}{bs:List Addr}{xs:List α}(h:At R H bs xs)(k:Nat):At R H (bs.drop k) (xs.drop k):=by
 refine⟨by simp[h.1],λi c y e1 e2=>?_⟩;rw[List.getElem?_drop] at e1 e2;exact h.2 _ c y e1 e2
theorem At.set{H:Hp}{bs:List Addr}{xs:List α}{b:Addr}{x:α}(h:At R H bs xs)(k:Nat)(r:R H b x):At R H (bs.set k b) (xs.set k x):=by
 refine⟨by simp[h.1],λi c y e1 e2=>?_⟩;rw[List.getElem?_set] at e1 e2;by_cases hk:k=i
 ·subst hk;have hl:=h.1;by_cases hb:k<bs.length
  ·rw[if_pos rfl,if_pos hb] at e1;rw[if_pos rfl,if_pos (by omega)] at e2;cases e1; cases e2; exact r
  ·rw[if_pos rfl,if_neg hb] at e1; cases e1
 ·rw[if_neg hk] at e1 e2;exact h.2 _ c y e1 e2
theorem At.get{H:Hp}{bs:List Addr}{xs:List α}{i:Nat}{x:α}(h:At R H bs xs)(e:xs[i]?=some x):∃b,bs[i]?=some b/\R H b x:=by
 have hi:i<bs.length:=by rw[h.1]; exact(List.getElem?_eq_some_iff.mp e).1
 exact⟨bs[i],List.getElem?_eq_getElem hi,h.2 i _ x (List.getElem?_eq_getElem hi) e⟩
theorem At.ref{H:Hp}{bs:List Addr}{xs:List α}{i:Nat}{v:V}(h:At R H bs xs)(e:(bs.map V.ref)[i]?=some v):∃b x,v=.ref b/\bs[i]?=some b/\xs[i]?=some x/\R H b x:=by
 rw[List.getElem?_map] at e;cases q:bs[i]? with
 | none=>rw[q] at e; cases e
 | some b =>
  rw[q] at e;have hi:i<xs.length:=by rw[<-h.1]; exact(List.getElem?_eq_some_iff.mp q).1
  exact⟨b,xs[i],(Option.some.inj e).symm,rfl,List.getElem?_eq_getElem hi,h.2 i b _ q (List.getElem?_eq_getElem hi)⟩
theorem BF{bs:List Addr}{i:Nat}{b:Addr}(h:bs[i]?=some b):(bs.map V.ref)[i]?=some (.ref b):=by rw[List.getElem?_map,h]; rfl
def A5(R:Hp->Addr->α->Prop)(H:Hp)(b:Addr)(xs:List α):Prop:=∃bs:List Addr,H b=some (.AG (bs.map V.ref))/\At R H bs xs
def BV(R:Hp->Addr->α->Prop)(H:Hp)(b:Addr)(xs:List α):Prop:=∃bs:List Addr,H b=some (.AN (bs.map V.ref))/\At R H bs xs
theorem MG(m:Mo R):Mo (A5 R):=λs ⟨bs,e,h⟩=>⟨bs,s _ _ e,h.keep m s⟩
theorem HA(m:Mo R):Mo (BV R):=λs ⟨bs,e,h⟩=>⟨bs,s _ _ e,h.keep m s⟩
end
def Aa(H:Hp)(b:Addr)(q:Rat):Prop:=H b=some (.AG [.int q.num,.int q.den])
def FC(H:Hp)(b:Addr)(ns:List Int):Prop:=H b=some (.AN (ns.map V.int))
theorem DV:Mo Aa:=λs h=>s _ _ h
theorem MA:Mo FC:=λs h=>s _ _ h
theorem Aa.del{H:Hp}{a b:Addr}{q:Rat}{ys:List V}(h:Aa H b q)(e:H a=some (.AN ys)):Aa (del H a) b q:=Fj h λz=>by rw[z] at h; unfold Aa at h; rw[e] at h; cases h
theorem QE{H:Hp}{a:Addr}{ys:List V}(e:H a=some (.AN ys)){bs:List Addr}{qs:List Rat}(h:At Aa H bs qs):At Aa (del H a) bs qs:=⟨h.1,λi b x e1 e2=>(h.2 i b x e1 e2).del e⟩
structure JU(J:It)(H1:Hp)(n:Nat)(f:Nat->Hp->V->Hp->Prop):Prop where
 go:∀i H2,i<n->AQ H1 H2->J.go i H2
 yl:∀i H2 x H3,i<n->AQ H1 H2->J.EF i H2 x H3->f i H2 x H3
 st:∀H2,AQ H1 H2->J.stop n H2
section
variable {K:PySem.W.Frag}
theorem J8{H:Hp}{a:Addr}{xs:List V}(h:H a=some (.AG xs)):JU (IQ K a) H xs.length (λi H2 x H3=>H3=H2/\xs[i]?=some x) :=
 ⟨λi H2 hi s=>⟨xs,xs[i],AK.of (s _ _ h),List.getElem?_eq_getElem hi⟩,λi H2 x H3 _ s y=>⟨y.1,y.2 _ (AK.of (s _ _ h))⟩,λH2 s=>⟨xs,AK.of (s _ _ h),Nat.le_refl _⟩⟩
theorem Hg{H:Hp}{a:Addr}{xs:List V}(h:H a=some (.AN xs)):JU (GF K a) H xs.length (λi H2 x H3=>H3=H2/\xs[i]?=some x) :=
 ⟨λi H2 hi s=>⟨xs,xs[i],AR.of (s _ _ h),List.getElem?_eq_getElem hi⟩,λi H2 x H3 _ s y=>⟨y.1,y.2 _ (AR.of (s _ _ h))⟩,λH2 s=>⟨xs,AR.of (s _ _ h),Nat.le_refl _⟩⟩
theorem U3{H:Hp}{lo:Int}{n:Nat}:JU (Gu lo n) H n (λi H2 x H3=>H3=H2/\x=.int (lo+i)):=⟨λ_ _ hi _=>hi,λ_ _ _ _ _ _ y=>y,λ_ _=>Nat.le_refl _⟩
theorem E1 {J:It} {n:Nat} {H1:Hp} {f:Nat->Hp->V->Hp->Prop} {acc:Addr} {σ0:St} {g:TG} {te:TE} {G:Hp->Prop} (r:JU J H1 n f) (hn:n<=1000) (hacc:H1 acc=none) (Iv:Nat->List V->St->Hp->Prop) (h0:Iv 0 [] σ0 H1)
  (hs:∀(i:Nat) (ys:List V) (σ:St) (H2:Hp) (x:V) (H3:Hp),i<n->AQ H1 H2->H2 acc=some (.AN ys)->Iv i ys σ (del H2 acc)->f i H2 x H3->∀C:St->VK,(∀(σ4:St) (v:V) (H5:Hp),AQ H2 H5->Iv (i+1) (ys++[v]) σ4 (del H5 acc)->C σ4 v H5) →
   g x σ H3 λσ4 H4=>te σ4 H4 (C σ4))
  (fin:∀(ys:List V) (σ:St) (H2:Hp),AQ H1 H2->H2 acc=some (.AN ys)->ys.length=n->Iv n ys σ (del H2 acc)->G H2) :
  ∃W:Nat->Nat->List V->St->Hp->Prop,(∃m,W 0 m [] σ0 (AJ H1 acc (.AN [])))/\∀i m ys σc H2,W i m ys σc H2 →
   (J.stop i H2/\G H2)\/(J.go i H2/\∀x H3,J.EF i H2 x H3->g x σc H3 λσ4 H4=>te σ4 H4 λv H5=>H5 acc=some (.AN ys)/\ys.length<sizeLine/\∃m',m' < m/\W (i+1) m' (ys++[v]) σ4 (AJ H5 acc (.AN (ys++[v])))):=by
 refine⟨λi m ys σ H2=>m=n-i/\i<=n/\AQ H1 H2/\H2 acc=some (.AN ys)/\ys.length=i/\Iv i ys σ (del H2 acc),⟨n,rfl,Nat.zero_le _,?_,AV,rfl,?_⟩,?_⟩
 ·intro b o e; rw[Ao (A7 e hacc)]; exact e
 ·rw[KR,Pb hacc]; exact h0
 ·rintro i m ys σc H2 ⟨rfl,hi,sm,ha,hl,iv⟩;rcases Nat.lt_or_ge i n with hlt | hge
  ·refine .inr ⟨r.go i H2 hlt sm,λx H3 yl=>?_⟩;refine hs i ys σc H2 x H3 hlt sm ha iv (r.yl i H2 x H3 hlt sm yl) (λσ4 v H5=>H5 acc=some (.AN ys)/\ys.length<sizeLine/\∃m',m' < n-i/\(m'=n-(i+1)/\i+1<=n/\AQ H1 (AJ H5 acc (.AN (ys++[v])))/\(AJ H5 acc (.AN (ys++[v]))) acc=some (.AN (ys++[v]))/\(ys++[v]).length=i+1/\Iv (i+1) (ys++[v]) σ4 (del (AJ H5 acc (.AN (ys++[v]))) acc))) ?_;intro σ4 v H5 s5 iv5;refine⟨s5 _ _ ha,by rw[sizeLine_eq]; omega,n-(i+1),by omega,rfl,hlt,?_,AV,by simp[hl],?_⟩
   ·intro b o e; rw[Ao (A7 e hacc)]; exact s5 _ _ (sm _ _ e)
   ·rw[KR]; exact iv5
  ·obtain rfl:i=n:=by omega
   exact .inl ⟨r.st H2 sm,fin ys σc H2 sm ha hl iv⟩
end
end My
namespace My
open PySem L2 PySem.Spec PyProof.Rows
def FT(q:Rat):PyData:=.tuple [.int q.num,.int (q.den:Int)]
section
variable {X:Cx} {pins:List (Addr×Obj)} {σ:L2.St} {H:Hp} {s:Shared}
theorem MS(p q:Rat):PyData.eqv (FT p) (FT q)=decide (p=q):=by
 have e:PyData.eqv (FT p) (FT q)=(p.num == q.num && (p.den:Int) == (q.den:Int)):=by
  simp[FT,PyData.eqv,PyData.eqvAll]
 rw[e,Bool.eq_iff_iff];simp only[Bool.and_eq_true,beq_iff_eq,decide_eq_true_eq];constructor
 ·rintro⟨h1,h2⟩; exact Rat.ext h1 (by omega)
 ·rintro rfl; exact⟨rfl,rfl⟩
end
end My
namespace L2
open PySem PySem.Spec PyProof.Rows
section
variable {X:Cx}
def Xc:V->List V->Hp->VK->Prop:=λx vs H Q=>∃(l:Addr) (ns:List Int) (k:Int),x=.ref l/\vs=[.int k]/\H l=some (.AN (ns.map V.int))/\k∈ns/\ns.length<=1000000/\Q (.int ((ns.idxOf k:Nat):Int)) H
theorem Jx:JZ X "list.index" Xc:=by
 intro pins s σ H x vs v us Q I rx rv h;obtain⟨l,ns,k,rfl,rfl,hH,hk,hz,q⟩:=h;cases rx;obtain⟨u,rfl,ru⟩:=rv.one;obtain⟨t,rfl⟩:=ru;obtain⟨z,its,n,r,hl,e⟩:=I.Gm hH;have hi:=Ld r;have hlen:=hi.length;have hj:ns.idxOf k<ns.length:=List.idxOf_lt_length_iff.mpr hk;refine call_meets PySem.F.slot_list_index ⟨_,e,rfl⟩ PySem.F.entry_list_index (PySem.F.args_list_index_2 _ _)
  (MeetsSeq.list_index l its.toArray n (.int k t) (isInt k) (λy hy=>eq_isInt k t hi y (by simpa using hy)) (ns.idxOf k) (by simpa [hlen] using hj) (by omega) ?_ ?_) ⟨e,⟨.int ((ns.idxOf k:Nat):Int),H,I.Dc _,⟨_,rfl⟩,q⟩⟩
 ·show isInt k its[ns.idxOf k]=true;rw[isInt_at k hi _ (by omega) hj];simpa using List.getElem_idxOf hj
 ·intro j hjs hlt;show isInt k its[j]=false;rw[isInt_at k hi j (by simpa using hjs) (by omega)];exact ne_of_lt_idxOf hlt _
variable {K:PySem.W.Frag}
theorem aR(h:X.K=K:=by rfl):JY X (Ei K):=h ▸ Fm
theorem aE(h:X.K=K:=by rfl):JY X (HN K):=h ▸ L7
theorem pT(K:PySem.W.Frag){X:Cx}{a b:PySem.Expr}{ta tb:TE}{pos:Pos}(ha:PE X a ta)(hb:PE X b tb)(hs:L9 b:=by exact λ_ _=>rfl)(h:X.K=K:=by rfl):PE X (.Subscript a b pos) (BK (Ei K) ta tb):=EN (aR h) ha hb hs
theorem pL(K:PySem.W.Frag){X:Cx}{a b:PySem.Expr}{ta tb:TE}{pos:Pos}(ha:PE X a ta)(hb:PE X b tb)(hs:L9 b:=by exact λ_ _=>rfl)(h:X.K=K:=by rfl):PE X (.Subscript a b pos) (BK (HN K) ta tb):=EN (aE h) ha hb hs
theorem aQ(h:X.K=K:=by rfl):HV X (R8 K):=h ▸ MN
theorem IP(h:X.K=K:=by rfl):HV X (R5 K):=h ▸ XM
theorem B6(h:X.K=K:=by rfl):Cu X (.builtin "len") (NJ K):=h ▸ Sm
theorem Pn(h:X.K=K:=by rfl):Cu X (.type "tuple") (λxs H Q=>∃p ys,xs=[.ref p]/\((AR K H p ys/\∀l,H l=none->Q (.ref l) (AJ H l (.AG ys)))\/(AK K H p ys/\Q (.ref p) H))):=h ▸ Hc
theorem D7 {es:List PySem.Expr} {k:Nat} {t:FR} {n:Nat} {pos:Pos} (hc:X.By=true) (g:Jd X es t) (h:X.K=K:=by rfl)
  (hn:(assignEach es X.env).length=n:=by rfl) (hst:(assignEach es X.env).findIdx? (·.1)=none:=by rfl):PG X (.Tuple es k pos) (M4 K n t):=h ▸ YU hc g hn hst
theorem Qn{tg l:PySem.Expr}{tl:TE}(hl:PE X l tl)(h:X.K=K:=by rfl):PI X tg l (Rn K tl):=h ▸ Iu hl
theorem JF{tg l:PySem.Expr}{tl:TE}(hl:PE X l tl)(h:X.K=K:=by rfl):PI X tg l (JG K tl):=h ▸ Ip hl
end
section
variable {prog:Program} {w:World} {A:Around} {E:Value->Shared->Prop} {s:Shared}
end
section
variable {X:Cx}
theorem Ws{ns:List Int}:∀{us:List Value},IntsAre us ns->Af (ns.map V.int) us:=by
 induction ns with
 | nil=>intro us r; cases r; exact .nil
 | cons n ns ih =>
  intro us r;cases r with
  | cons=>exact .cons ⟨_,rfl⟩ (ih (by assumption))
end
end L2
namespace L2
open PySem PySem.Spec PyProof.Rows PySem.SeqAt
section
variable {prog:Program} {w:World} {A:Around} {E:Value->Shared->Prop}
abbrev aa(items:Array Value)(x:Value):Nat->Option PySem.Fin×PUnit->Sem (ForInStep (Option PySem.Fin×PUnit)):=λi _=>match items[i]? with
 | some y=>do let b <-eqBool y x; if b=true then (do let r <-retInt (i:Int); pure (ForInStep.done (some r,()))) else pure (ForInStep.yield (none,()))
 | _=>pure (ForInStep.yield (none,()))
end
section
variable {X:Cx}
def aW:V->List V->Hp->VK->Prop:=λx vs H Q=>∃(l:Addr) (ns:List Int) (k:Int),x=.ref l/\vs=[.int k]/\H l=some (.AG (ns.map V.int))/\k∈ns/\Q (.int ((ns.idxOf k:Nat):Int)) H
end
end L2
namespace HT
open PySem PySem.Spec PyProof.Rows L2
section
variable {prog:Program} {w:World} {A:Around} {E:Value->Shared->Prop} {s:Shared}
theorem SW {t sl:Addr} {items:Array Value} {vl vu:Value} {lo hi:Option Int} {Q:Value->Shared->Prop} (ht:IsTup s.heap t items) (hs:s.heap.IsSliceOf sl vl vu .none) (pl:IsPart vl lo) (pu:IsPart vu hi)
  (hw:Ai items.size 0 lo=0/\Ai items.size items.size hi=items.size) (h:Q (.ref t) s):wpAny (model prog w) A (getItem (.ref t) (.ref sl)) Q E s:=by
 obtain⟨os,hos,hcs,hds⟩:=id hs;have hTs:s.TypeIs (.ref sl) "slice":=⟨os,hos,hcs⟩; unfold getItem; try with_reducible refine wpAny_holding ?_
 first | refine wpAny_bind (wpAny_pure ?_) | skip
 refine wpAny_bind (wpAny_sequenceKey ht.typeIs (by decide) (wpAny_bind (wpAny_callSpecial?_slot (name:=Str.ofString "__getitem__") ht.typeIs PyProof.Rows.slot_tuple_getitem (wpAny_call_entry PyProof.Rows.slot_tuple_getitem ht.typeIs entry_tuple_getitem ?_ (args_tuple_getitem _ _)))));show wpAny _ _ (Builtin.Tuple.tupleItemsOf (.ref t) >>= _) _ _ s; refine wpAny_bind (tupleItemsOf_ ht (wpAny_bind (wpAny_typeOf hTs ?_)));rw[if_pos (by decide)]; refine wpAny_bind (Nk hs pl pu ?_);have yes:((((Ai items.size 0 lo:Nat):Int) == 0 && (1:Int) == 1 && (Ai items.size items.size hi-Ai items.size 0 lo) == items.size)=true):=by rw[hw.1,hw.2]; simp
 show wpAny _ _ (if (((Ai items.size 0 lo:Nat):Int) == 0 && (1:Int) == 1 && (Ai items.size items.size hi-Ai items.size 0 lo) == items.size)=true then _ else _) _ _ s; rw[if_pos yes];unfold Builtin.Tuple.tupleIsExact; refine wpAny_bind ?_
 first | refine wpAny_bind (wpAny_typeOf ht.typeIs (wpAny_pure ?_)) | refine wpAny_typeOf ht.typeIs ?_
 first
  | (rw[if_pos (by decide)]; refine wpAny_bind (wpAny_rule (wpAny_pure ⟨_,rfl,wpAny_pure h⟩)))
  | (rw[if_pos (by rfl)]; exact wpAny_bind (wpAny_rule (wpAny_pure ⟨_,rfl,wpAny_pure h⟩)))
end
end HT
namespace L2
open PySem PySem.Spec PyProof.Rows
section
variable {X:Cx} {K:PySem.W.Frag}
def Q3(K:PySem.W.Frag):V->Option Int->Option Int->Hp->VK->Prop:=λx lo hi H Q=>∃a xs,x=.ref a/\AK K H a xs /\
 ((HT.Ai xs.length 0 lo=0/\HT.Ai xs.length xs.length hi=xs.length)->Q (.ref a) H)/\(¬(HT.Ai xs.length 0 lo=0/\HT.Ai xs.length xs.length hi=xs.length)->∀p,H p=none->Q (.ref p) (AJ H p (.AG (B5 xs lo hi))))
theorem WX:HV X (Q3 X.K):=by
 intro pins s σ H x v vl vu lo hi sl Q I rx hs pl pu h;obtain⟨a,xs,rfl,hx,q1,q2⟩:=h;by_cases hw:HT.Ai xs.length 0 lo=0/\HT.Ai xs.length xs.length hi=xs.length
 ·cases rx;obtain⟨its,r,ht,hz⟩:=I.tuple hx;have hlen:its.toArray.size=xs.length:=by rw[List.size_toArray]; exact r.length.symm
  exact⟨"tuple",_,PyProof.Rows.slot_tuple_getitem.lookup,ht.typeIs,HT.SW ht hs pl pu (by rw[hlen]; exact hw) ⟨.ref a,H,I,rfl,q1 hw⟩⟩
 ·exact MN pins s σ H _ v vl vu lo hi sl Q I rx hs pl pu ⟨a,xs,rfl,hx,hw,q2 hw⟩
theorem ZF(h:X.K=K:=by rfl):HV X (Q3 K):=h ▸ WX
variable {o e:Expr} {es:List Expr} {to:TE} {t:TA} {name:Str} {apos cpos:Pos} {id:String} {r:V->List V->Hp->VK->Prop}
inductive B2(H:Hp):V->PyData->Prop
 | int (i:Int):B2 H (.int i) (.int i)
 | bl (b:Bool):B2 H (.bl b) (.bool b)
 | str (z:Str):B2 H (.str z) (.str z)
 | AG {p:Addr} {xs:List V} {ds:List PyData} (h:H p=some (.AG xs)) (hl:xs.length=ds.length) (hd:∀(i:Nat) (x:V) (d:PyData),xs[i]?=some x->ds[i]?=some d->B2 H x d):B2 H (.ref p) (.tuple ds)
theorem B2.keep{H H':Hp}(s:AQ H H'){v:V}{d:PyData}(h:B2 H v d):B2 H' v d:=by
 induction h with
 | int i=>exact .int i
 | bl b=>exact .bl b
 | str z=>exact .str z
 | AG h hl hd ih=>exact .AG (s _ _ h) hl ih
variable {pins:List (Addr×Obj)} {σ:L2.St} {H:Hp} {s:Shared}
theorem OH(h:Heap):∀{xs:List V} {its:List Value} {ds:List PyData},Af xs its->xs.length=ds.length->(∀(i:Nat) (x:V) (d:PyData),xs[i]?=some x->ds[i]?=some d->∀u,Au x u->Reads h u d [])->ReadsAll h its ds []
 | [],_,ds,.nil,hl,_=>by
  have:ds=[]:=List.length_eq_zero_iff.mp hl.symm
  subst this;exact .nil
 | x :: xs,_,[],_,hl,_=>by simp at hl
 | x :: xs,_,d :: ds,.cons r rs,hl,hd =>
  .cons (as:=[]) (bs:=[]) (hd 0 x d rfl rfl _ r) (OH h rs (by simpa using hl) λi x' d' e1 e2=>hd (i+1) x' d' (by simpa using e1) (by simpa using e2))
theorem Hn(I:AL X pins σ H s){v:V}{d:PyData}(h:B2 H v d):∀u,Au v u->Reads s.heap u d []:=by
 induction h with
 | int i =>
  intro u r;obtain⟨t,rfl⟩:=r;exact .int _ _
 | bl b =>
  intro u r;cases r;exact .bool _
 | str z =>
  intro u r;obtain⟨t,rfl⟩:=r;exact .str _ _
 | AG h hl hd ih =>
  intro u r;cases r;obtain⟨its,rv,tp,_⟩:=I.tuple (AK.of (K:=X.K) h);obtain⟨o,ho,hc,n,hd'⟩:=tp;exact .tuple ho hc hd' (by simpa using OH s.heap rv hl ih)
inductive FQ:Nat->PyData->Prop
 | int {n:Nat} (i:Int):FQ n (.int i)
 | bl {n:Nat} (b:Bool):FQ n (.bool b)
 | AG {n:Nat} {ds:List PyData} (h:∀d∈ds,FQ n d):FQ (n+1) (.tuple ds)
theorem Fh:∀{ds:List PyData},(∀d∈ds,d.canLay0=true)->PyData.canLayAll0 ds=true
 | [],_=>rfl
 | d :: ds,h=>by
  simp only[PyData.canLayAll0,Bool.and_eq_true];exact⟨h d (by simp),Fh λx hx=>h x (by simp[hx])⟩
theorem Gy{n:Nat}:∀{ds:List PyData},(∀d∈ds,d.depth<=n)->PyData.depthAll ds<=n
 | [],_=>Nat.zero_le _
 | d :: ds,h=>by
  have:=Gy (ds:=ds) λx hx=>h x (by simp[hx])
  have:=h d (by simp)
  simp only[PyData.depthAll];omega
theorem FQ.ok{n:Nat}{d:PyData}(h:FQ n d):d.canLay0=true/\d.depth<=n+1:=by
 induction h with
 | int i=>exact⟨rfl,by simp[PyData.depth]⟩
 | bl b=>exact⟨rfl,by simp[PyData.depth]⟩
 | @AG n ds h ih =>
  refine⟨by simp only[PyData.canLay0]; exact Fh λd hd=>(ih d hd).1,?_⟩
  have:=Gy λd hd=>(ih d hd).2
  simp only[PyData.depth];omega
theorem FQ.shaped{n:Nat}{d:PyData}(h:FQ n d)(hn:n<=60):SeqAt.shaped d=true:=by
 unfold SeqAt.shaped;rw[Bool.and_eq_true];exact⟨h.ok.1,decide_eq_true (by have:=h.ok.2; omega)⟩
def Rh:R2:=λx y H Q=>∃(d e:PyData),B2 H x d/\B2 H y e/\(d.canLay0=true/\d.depth<=64)/\(e.canLay0=true/\e.depth<=64)/\Q (.bl (PyData.eqv d e)) H
def ZX:R2:=λx y H Q=>∃(d e:PyData),B2 H x d/\B2 H y e/\(d.canLay0=true/\d.depth<=64)/\(e.canLay0=true/\e.depth<=64)/\Q (.bl (!PyData.eqv d e)) H
theorem LS{d:PyData}(h:d.canLay0=true/\d.depth<=64):SeqAt.shaped d=true:=by
 unfold SeqAt.shaped;rw[Bool.and_eq_true];exact⟨h.1,decide_eq_true h.2⟩
theorem Kd(hu:X.A.units+64<cLine):BS X (compareOp .Eq) Rh:=by
 intro pins s σ H x y v u Q I rx ry h;obtain⟨d,e,hx,hy,sd,se,k⟩:=h;exact eq_dataH (Hn I hx v rx) (Hn I hy u ry) (LS sd) (LS se) hu ⟨.bl _,H,I,rfl,k⟩
theorem MT(hu:X.A.units+64<cLine):BS X (compareOp .NotEq) ZX:=by
 intro pins s σ H x y v u Q I rx ry h;obtain⟨d,e,hx,hy,sd,se,k⟩:=h;exact ne_dataH (Hn I hx v rx) (Hn I hy u ry) (LS sd) (LS se) hu ⟨.bl _,H,I,rfl,k⟩
end
section
variable {X:Cx}
end
section
variable {prog:Program} {w:World} {A:Around} {E:Value->Shared->Prop} {s:Shared}
end
section
variable {X:Cx}
end
theorem J7:bootBuiltins "list" = some (.type "list"):=by decide +kernel
section
variable {X:Cx}
def Zn(neg:Bool):R2:=λx y H Q=>∃(n:Nat) (d:PyData) (ds:List PyData),n<=40/\B2 H x d/\B2 H y (.tuple ds)/\FQ n d/\FQ (n+1) (.tuple ds)/\Q (.bl (if neg then !(ds.any λy=>PyData.eqv y d) else ds.any λy=>PyData.eqv y d)) H
theorem YS:∀{ds:List PyData},(PyData.tuple ds).canLay0=true->PyData.canLayAll0 ds=true:=λ{ds} h=>h
theorem Qb(hu:X.A.units+64<cLine):BS X (compareOp .In) (Zn false):=by
 intro pins s σ H x y v u Q I rx ry h;obtain⟨n,d,ds,hn,hx,hy,s1,s2,k⟩:=h;refine SeqAt.in_tuple_reads (Hn I hy u ry) (Hn I hx v rx) (YS s2.ok.1) s1.ok.1 ?_ ⟨.bl _,H,I,rfl,k⟩
 have:=s1.ok.2
 omega
def RH(K:PySem.W.Frag):R2:=λx y H Q=>∃a b xs ys,x=.ref a/\y=.ref b/\AK K H a xs/\AK K H b ys/\ys≠[]/\xs.length+ys.length<=sizeLine /\
 (xs=[]->Q (.ref b) H)/\(xs≠[]->∀p,H p=none->Q (.ref p) (AJ H p (.AG (xs++ys))))
theorem Wg:BS X (binaryOp .Add) (RH X.K):=by
 intro pins s σ H x y v u Q I rx ry h;obtain⟨a,b,xs,ys,rfl,rfl,ha,hb,hy,hz,q1,q2⟩:=h;by_cases hx:xs=[]
 ·cases rx;cases ry;obtain⟨its,r1,p1,_⟩:=I.tuple ha;obtain⟨its2,r2,p2,_⟩:=I.tuple hb;have e0:its=[]:=r1.KL.mpr hx;obtain⟨⟨cls,dd,data,sl⟩,ho,hc,n,hd⟩:=id p1;obtain⟨⟨cls2,dd2,data2,sl2⟩,ho2,hc2,n2,hd2⟩:=id p2;simp only at hc hd hc2 hd2;subst hc hd hc2 hd2;exact concat_meets ⟨_,ho,rfl⟩ ⟨_,ho2,rfl⟩ noFill_tuple_add seq_tuple_add PySem.F.slot_tuple_add PySem.F.entry_tuple_add (PySem.F.args_tuple_add_2 _ _)
   (tuple_addW0 a b its.toArray its2.toArray n n2 dd dd2 sl sl2 (by simp[e0])) ⟨ho,ho2,⟨.ref b,H,I,rfl,q1 hx⟩⟩
 ·exact Pc pins s σ H _ _ v u Q I rx ry ⟨a,b,xs,ys,rfl,rfl,ha,hb,hx,hz,λz=>absurd z hy,λ_=>q2 hx⟩
theorem QF{X:Cx}{c:PySem.Expr}{a b:List Stmt}{tc:TT}{ta tb:Jc}{pos:Pos}(hc:PT X.EC c tc)(ha:JV X a ta)(hb:JV X b tb):JV X [.If c a b pos] (λD σ H E=>tc σ H λk H1=>if k=true then ta D σ H1 E else tb D σ H1 E):=by
 intro pins s σ H D E W I h hW;refine wpAny_execs_cons (wpAny_If (wpAny_mono (hc pins s σ H _ (I.Cf _) h) (λd s1 ⟨H1,I1',q1⟩=>?_) λ_ _ z=>False.elim z));have I1:AL X pins σ H1 s1:=I1'.B8;have fin:∀{body:List Stmt},wpAny (model X.prog X.w) X.A (execs body X.env) (SP X pins D) W s1->wpAny (model X.prog X.w) X.A (execs body X.env) (λf s'=>match f with | .next=>wpAny (model X.prog X.w) X.A (execs [] X.env) (SP X pins D) W s' | f=>SP X pins D f s') W s1:=λz =>
  wpAny_mono z (λf s2 q=>by
   cases f with
   | next=>exact wpAny_execs_nil q
   | ret v=>exact q
   | brk=>exact q
   | cont=>exact q) λ_ _ z=>z
 cases d with
 | true=>exact fin (ha pins s1 σ H1 D E W I1 q1 hW)
 | false=>exact fin (hb pins s1 σ H1 D E W I1 q1 hW)
open My
end
theorem Vv{xs:Array Nat}{j:Nat}(hs:xs.toList.Pairwise (· < ·)):∀(fuel lo hi:Nat),lo<=hi->hi<=xs.size->hi-lo<=fuel->(∀(i x:Nat),i<lo->xs[i]?=some x->x<j)->(∀(i x:Nat),hi<=i->xs[i]?=some x->j<=x) →
  SetTable.below.go xs j fuel lo hi<=xs.size/\(∀(i x:Nat),i<SetTable.below.go xs j fuel lo hi->xs[i]?=some x->x<j)/\(∀(i x:Nat),SetTable.below.go xs j fuel lo hi<=i->xs[i]?=some x->j<=x):=by
 have mono:∀(a b x y:Nat),a<b->xs[a]?=some x->xs[b]?=some y->x<y:=λa b x y hab ha hb=>by
  rw[<-Array.getElem?_toList] at ha hb;obtain⟨h1,rfl⟩:=List.getElem?_eq_some_iff.mp ha;obtain⟨h2,rfl⟩:=List.getElem?_eq_some_iff.mp hb;exact List.pairwise_iff_getElem.mp hs a b h1 h2 hab
 intro fuel
 induction fuel with
 | zero =>
  intro lo hi h1 h2 h3 h4 h5;obtain rfl:lo=hi:=by omega
  exact⟨h2,h4,h5⟩
 | succ f ih =>
  intro lo hi h1 h2 h3 h4 h5;unfold SetTable.below.go;by_cases c:lo<hi
  ·rw[if_pos c];have hm:(lo+hi) / 2<xs.size:=by omega
   have em:xs[(lo+hi) / 2]?=some xs[(lo+hi) / 2]:=Array.getElem?_eq_getElem hm;have eg:xs.getD ((lo+hi) / 2) j=xs[(lo+hi) / 2]:=by rw[Array.getD_eq_getD_getElem?,em]; rfl
   dsimp only;rw[eg];by_cases d:xs[(lo+hi) / 2]<j
   ·rw[if_pos d];refine ih _ _ (by omega) h2 (by omega) (λi x hi' e=>?_) h5;rcases Nat.lt_or_ge i ((lo+hi) / 2) with z | z
    ·exact Nat.lt_trans (mono i _ x _ z e em) d
    ·obtain rfl:i=(lo+hi) / 2:=by omega
     rw[em] at e; cases e; exact d
   ·rw[if_neg d];refine ih _ _ (by omega) (by omega) (by omega) h4 (λi x hi' e=>?_);rcases Nat.lt_or_ge ((lo+hi) / 2) i with z | z
    ·have:=mono _ i _ x z em e; omega
    ·obtain rfl:i=(lo+hi) / 2:=by omega
     rw[em] at e; cases e; omega
  ·rw[if_neg c];obtain rfl:lo=hi:=by omega
   exact⟨h2,h4,h5⟩
theorem Oj{xs:Array Nat}(hs:xs.toList.Pairwise (· < ·))(j:Nat):SetTable.below xs j<=xs.size/\(∀(i x:Nat),i<SetTable.below xs j->xs[i]?=some x->x<j)/\(∀(i x:Nat),SetTable.below xs j<=i->xs[i]?=some x->j<=x):=by
 unfold SetTable.below;exact Vv hs _ 0 xs.size (Nat.zero_le _) (Nat.le_refl _) (by omega) (λi _ h=>by omega) λi x h e=>by
  rw[Array.getElem?_eq_none h] at e; cases e
theorem Tn{xs:Array Nat}(hs:xs.toList.Pairwise (· < ·)){j:Nat}(hn:xs[SetTable.below xs j]?≠some j):(SetTable.insertAt xs (SetTable.below xs j) j).toList.Pairwise (· < ·):=by
 obtain⟨b1,b2,b3⟩:=Oj hs j;rw[SetTable.toList_insertAt,List.pairwise_append];have hd:∀y∈xs.toList.drop (SetTable.below xs j),j<y:=λy hy=>by
  obtain⟨k,hk,rfl⟩:=List.getElem_of_mem hy;rw[List.getElem_drop];have hl:SetTable.below xs j+k<xs.toList.length:=by rw[List.length_drop] at hk; omega
  have e:xs[SetTable.below xs j+k]?=some xs.toList[SetTable.below xs j+k]:=by rw[<-Array.getElem?_toList]; exact List.getElem?_eq_getElem hl
  have:=b3 _ _ (Nat.le_add_right _ _) e
  rcases Nat.lt_or_ge j xs.toList[SetTable.below xs j+k] with z | z
  ·exact z
  ·have ej:xs.toList[SetTable.below xs j+k]=j:=by omega
   cases k with
   | zero=>rw[ej] at e; exact absurd e hn
   | succ k =>
    have hl0:SetTable.below xs j<xs.toList.length:=by omega
    have e0:xs[SetTable.below xs j]?=some xs.toList[SetTable.below xs j]:=by rw[<-Array.getElem?_toList]; exact List.getElem?_eq_getElem hl0
    have g0:=b3 _ _ (Nat.le_refl _) e0
    have:=List.pairwise_iff_getElem.mp hs (SetTable.below xs j) (SetTable.below xs j+(k+1)) hl0 hl (by omega)
    omega
 refine⟨hs.sublist (List.take_sublist _ _),List.pairwise_cons.mpr ⟨hd,hs.sublist (List.drop_sublist _ _)⟩,λa ha b hb=>?_⟩;have haj:a<j:=by
  obtain⟨k,hk,rfl⟩:=List.getElem_of_mem ha;rw[List.getElem_take];rw[List.length_take] at hk;have hl:k<xs.toList.length:=by omega
  exact b2 k _ (by omega) (by rw[<-Array.getElem?_toList]; exact List.getElem?_eq_getElem hl)
 rcases List.mem_cons.mp hb with z | z
 ·rw[z]; exact haj
 ·exact Nat.lt_trans haj (hd b z)
structure DY(b:Bool)(t:SetTable):Prop where
 led:t.led=b
 NU:t.dummies = #[]
 ord:t.plain=true->t.place.toList.Pairwise (· < ·)
theorem DY.K0{b:Bool}{t:SetTable}(x:DY b t)(n:Nat):DY b (t.standIn n):=⟨x.led,rfl,λz=>by cases z⟩
theorem Ts{t:SetTable}(hd:t.dummies = #[]){h:Int}:∀(fuel:Nat) (p:SetTable.Probe) (j:Nat) (d:Option Nat),p.dummy=none->SetTable.probe.go t (λ_=>h+1) h fuel p=some (.empty j d)->d=none/\t.slot j=.empty:=by
 intro fuel
 induction fuel with
 | zero=>intro p j d _ e; cases e
 | succ f ih =>
  intro p j d hp e;have ad:∀q:SetTable.Probe,q.dummy=none->(t.advance q).dummy=none:=λq hq=>by
   unfold SetTable.advance;split
   ·exact hq
   ·exact hq
  unfold SetTable.probe.go at e;split at e
  ·rename_i hs
   simp only[Option.some.injEq,SetTable.Met.empty.injEq] at e;exact⟨by rw[<-e.2]; exact hp,by rw[<-e.1]; exact hs⟩
  ·rename_i hs
   unfold SetTable.slot at hs;dsimp only at hs;split at hs
   ·cases hs
   ·rw[hd] at hs
    have:SetTable.has #[] p.j=false:=by unfold SetTable.has; simp
    rw[this] at hs;cases hs
  ·rename_i i hs
   have ne:((h+1:Int) == h)=false:=by rw[beq_eq_false_iff_ne]; omega
   rw[ne] at e;exact ih _ j d (ad p hp) e
theorem DY.aN{b:Bool}{t:SetTable}(x:DY b t)(es:Array (Int×Value))(h:Int)(v:Value):DY b (layNew t es h v).2.1:=by
 unfold layNew;cases e:t.freeSlot h with
 | none=>exact x.K0 _
 | some q =>
  obtain⟨slot,wd⟩:=q;have hs:t.place[SetTable.below t.place slot]?≠some slot:=by
   unfold SetTable.freeSlot at e;split at e
   ·rename_i j d hp
    obtain⟨rfl,hsl⟩:=Ts x.NU _ _ j d rfl hp;simp only[Option.getD_none,Option.some.injEq,Prod.mk.injEq] at e;rw[<-e.1];intro z;unfold SetTable.slot at hsl;dsimp only at hsl;rw[z] at hsl;simp at hsl
   ·cases e
  have put:DY b (t.put slot).1:=by
   refine⟨x.led,?_,λz=>Tn (x.ord z) hs⟩;show(if _ then _ else t.dummies) = #[];rw[x.NU]
   have:SetTable.has #[] slot=false:=by unfold SetTable.has; simp
   rw[this]; rfl
  show DY b ((t.put slot).1.orStandIn _);unfold SetTable.orStandIn;split
  ·exact put
  ·exact put.K0 _
theorem S4(owner:Array (Option Nat))(n:Nat):(((List.range n).filterMap λj=>(owner.getD j none).map (j,·)).map (·.1)).Pairwise (· < ·):=by
 have e:∀l:List Nat,((l.filterMap λj=>(owner.getD j none).map (j,·)).map (·.1))=l.filter λj=>(owner.getD j none).isSome:=by
  intro l
  induction l with
  | nil=>rfl
  | cons j l ih =>
   rw[List.filterMap_cons,List.filter_cons];cases h:owner.getD j none with
   | none=>simpa using ih
   | some q=>simpa using ih
 rw[e];exact List.pairwise_lt_range.sublist List.filter_sublist
theorem DY.Yc{b:Bool}{t:SetTable}(x:DY b t)(es:Array (Int×Value))(n:Nat):DY b (relayAll t es n).2.1:=by
 unfold relayAll;cases e:t.relaid (es.map (·.1)) n with
 | none=>exact x.K0 _
 | some q =>
  obtain⟨t',order⟩:=q;dsimp only;split
  ·unfold SetTable.relaid SetTable.laid at e;cases o:SetTable.layClean (SetTable.sizeAbove n-1) (es.map (·.1)) with
   | none=>rw[o] at e; cases e
   | some owner =>
    rw[o] at e;simp only[Option.bind_eq_bind,Option.bind_some,Option.pure_def,Option.some.injEq,Prod.mk.injEq] at e;rw[<-e.1];exact⟨x.led,rfl,λ_=>by simpa using S4 owner _⟩
  ·exact x.K0 _
def Gi(e:Int×Value):Int:=match e.2 with
 | .int k _=>k
 | _=>0
def EI(prog:Program)(w:World)(l:List (Int×Value)):Prop:=∀e∈l,∃k t,e=((intKind prog w).hash k,.int k t)
def B1(prog:Program)(w:World)(b:Bool)(h:Heap)(a:Addr)(ks:List Int):Prop :=
 ∃o es ep t,h.get? a=some o/\o.ExactSet/\o.data=.set es ep t/\EI prog w es.toList/\(es.toList.map Gi).Perm ks/\es.size<scanBound/\t.fits es.size=true/\DY b t
section
variable {prog:Program} {w:World}
theorem EI.el{l:List (Int×Value)}(h:EI prog w l):ElemsOf (intKind prog w) l:=λe he=>by
 obtain⟨k,t,rfl⟩:=h e he;exact⟨⟨k,intKind_is prog w k t,rfl⟩,rfl⟩
theorem EI.Gh{l m:List (Int×Value)}(h:EI prog w l)(p:List.Perm m l):EI prog w m:=λe he=>h e (p.mem_iff.mp he)
theorem XZ(k k':Int)(t:Tok):(intKind prog w).is k (.int k' t)=decide (k=k'):=KeyKind.is_eq_decide (intKind_is prog w k' t) k
theorem N1{h:Heap}{a:Addr}{o:Obj}{es:Array (Int×Value)}{ep:Nat}{t:SetTable}(ho:h.get? a=some o)(hd:o.data=.set es ep t)(es':Array (Int×Value))(t':SetTable):
  (h.update a (Obj.putSet es' t')).get? a=some { o with data:=.set es' (ep+1) t' }:=by
 have g:=Heap.get?_update_self (Obj.putSet es' t') ho (by rw[putSet_of es' t' hd]; rfl)
 rwa [putSet_of es' t' hd] at g
variable {A:Around} {E:Value->Shared->Prop} {s:Shared}
theorem PY{b:Bool}{s₁:Shared}{Q:Unit->Shared->Prop}(h:Q () s₁):wpAny (model prog w) A (match b with | true=>rule "set.scan.the-table-gave-way" | false=>pure ()) Q E s₁:=by
 cases b
 ·exact wpAny_pure h
 ·exact wpAny_rule h
theorem W6 {b:Bool} {a:Addr} {ks:List Int} {k:Int} {tk:Tok} {Q:Bool->Shared->Prop} (hS:B1 prog w b s.heap a ks) (hr:ks.length+1<scanBound)
  (h:∀h',Heap.SameBut a s.heap h'->B1 prog w b h' a (if k∈ks then ks else ks++[k])->Q (!decide (k∈ks)) { s with heap:=h' }) :
  wpAny (model prog w) A (setAddHashed a (.int k tk) ((intKind prog w).hash k)) Q E s:=by
 obtain⟨o,es,ep,t,ho,hex,hd,hel,hp,hb,hf,ti⟩:=hS;have isk:=intKind_is prog w k tk; have scn:(Value.int k tk).scannable=true:=rfl;have sz:es.size=ks.length:=by rw[<-Array.length_toList,<-hp.length_eq,List.length_map]
 have mem:k∈ks↔∃e∈es.toList,(intKind prog w).is k e.2=true:=by
  rw[<-hp.mem_iff,List.mem_map];constructor
  ·rintro⟨e,he,rfl⟩;obtain⟨k',t',rfl⟩:=hel e he;exact⟨_,he,intKind_is prog w k' t'⟩
  ·rintro⟨e,he,q⟩;obtain⟨k',t',rfl⟩:=hel e he;rw[XZ,decide_eq_true_eq] at q;exact⟨_,he,q.symm⟩
 unfold setAddHashed setAddHashedIn; refine wpAny_holding ?_;refine wpAny_bind (wpAny_setState_of ho hd hf ?_); dsimp only; rw[byScan_of scn hb hel.el];simp only[↓reduceIte]; unfold setAddByScan;refine wpAny_bind (wpAny_bind (wpAny_rule (wpAny_bind (wpAny_setScan_of isk ho hd hf hel.el ?_))));cases fi:List.findIdx? (λe=>(intKind prog w).is k e.2) es.toList with
 | some j =>
  obtain⟨hj,hpj,_⟩:=List.findIdx?_eq_some_iff_getElem.mp fi;have hk:k∈ks:=mem.mpr ⟨_,List.getElem_mem hj,hpj⟩;have fin:=h s.heap (Heap.SameBut.refl a s.heap) (by rw[if_pos hk]; exact⟨o,es,ep,t,ho,hex,hd,hel,hp,hb,hf,ti⟩);rw[decide_eq_true hk] at fin;exact wpAny_pure (wpAny_pure fin)
 | none =>
  have hk:¬k∈ks:=λz=>by
   obtain⟨e,he,q⟩:=mem.mp z;rw[List.findIdx?_eq_none_iff.mp fi e he] at q; cases q
  rw[if_neg hk,decide_eq_false hk] at h;have lp:=layNew_perm t es ((intKind prog w).hash k) (.int k tk); have lf:=layNew_fits t es ((intKind prog w).hash k) (.int k tk); have lt:=ti.aN es ((intKind prog w).hash k) (.int k tk);generalize layNew t es ((intKind prog w).hash k) (.int k tk)=L at lp lf lt ⊢;obtain⟨e1,t1,wd,gv⟩:=L;dsimp only at lp lf lt ⊢;rw[Array.toList_push] at lp;have el1:EI prog w e1.toList:=EI.Gh (λe he=>by
   rcases List.mem_append.mp he with z | z
   ·exact hel e z
   ·exact⟨k,tk,List.mem_singleton.mp z⟩) lp
  have pk1:(e1.toList.map Gi).Perm (ks++[k]):=by
   refine(lp.map Gi).trans ?_;rw[List.map_append];exact hp.append_right _
  have sz1:e1.size=ks.length+1:=by rw[<-Array.length_toList,lp.length_eq,List.length_append,Array.length_toList,sz]; rfl
  have tail:∀t2:SetTable,t2.fits e1.size=true->DY b t2->wpAny (model prog w) A (do
    storeSet a e1 t2
    if (!wd && t2.tooFull)=true then do
      (match (relayAll t2 e1 (SetTable.grown e1.size)).2.2 with | true=>rule "set.scan.the-table-gave-way" | false=>pure ())
      storeSet a (relayAll t2 e1 (SetTable.grown e1.size)).1 (relayAll t2 e1 (SetTable.grown e1.size)).2.1
      pure (some true)
     else pure (some true)) (λr s'=>r=some true/\∃h',s'={ s with heap:=h' }/\Heap.SameBut a s.heap h'/\B1 prog w b h' a (ks++[k])) E s:=λt2 f2 i2=>by
   have b1:e1.size<scanBound:=by omega
   refine wpAny_bind (wpAny_storeSet_of ho hd ?_ (fits_of_scanBound b1));have g1:=N1 ho hd e1 t2; have sb:=Heap.SameBut.update s.heap a (Obj.putSet e1 t2);split
   ·have rp:=relayAll_perm t2 e1 (SetTable.grown e1.size); have rf:=relayAll_fits t2 e1 (SetTable.grown e1.size); have ri:=i2.Yc e1 (SetTable.grown e1.size);generalize relayAll t2 e1 (SetTable.grown e1.size)=R at rp rf ri ⊢;obtain⟨e2,t3,gv2⟩:=R;dsimp only at rp rf ri ⊢;have sz2:e2.size=e1.size:=by rw[<-Array.length_toList,rp.length_eq,Array.length_toList]
    refine wpAny_bind (PY (wpAny_bind (wpAny_storeSet_of g1 rfl ?_ (fits_of_scanBound (by omega)))));have g2:=N1 g1 rfl e2 t3;exact wpAny_pure ⟨rfl,_,rfl,sb.trans (Heap.SameBut.update _ a _),_,e2,_,t3,g2,hex,rfl,el1.Gh rp,(rp.map Gi).trans pk1,by omega,rf,ri⟩
   ·exact wpAny_pure ⟨rfl,_,rfl,sb,_,e1,_,t2,g1,hex,rfl,el1,pk1,b1,f2,i2⟩
  refine wpAny_bind (PY ?_);split
  ·refine wpAny_bind ?_;rw[hashByValue_scannable 8 scn];refine wpAny_pure (wpAny_mono (tail _ lf lt) (λr s' x=>?_) λ_ _ z=>z);obtain⟨rfl,h',rfl,x1,x2⟩:=x;exact wpAny_pure (h h' x1 x2)
  ·refine wpAny_bind (wpAny_pure ?_);simp only[↓reduceIte];refine wpAny_mono (tail _ lf lt) (λr s' x=>?_) λ_ _ z=>z
   obtain⟨rfl,h',rfl,x1,x2⟩:=x;exact wpAny_pure (h h' x1 x2)
def Gk(acc:List Int)(k:Int):List Int:=if k∈acc then acc else acc++[k]
def Bj(ns:List Int):List Int:=ns.foldl Gk []
theorem Tp(ns:List Int)(k:Int):Bj (ns++[k])=Gk (Bj ns) k:=by unfold Bj; rw[List.foldl_append]; rfl
theorem OF(ns:List Int):(Bj ns).length<=ns.length:=by
 have go:∀(l acc:List Int),(l.foldl Gk acc).length<=acc.length+l.length:=by
  intro l
  induction l with
  | nil=>intro acc; exact Nat.le_refl _
  | cons k l ih =>
   intro acc;rw[List.foldl_cons];refine Nat.le_trans (ih _) ?_;unfold Gk;split
   ·rw[List.length_cons]; omega
   ·rw[List.length_append,List.length_cons,List.length_cons,List.length_nil]; omega
 have:=go ns []
 rw[List.length_nil] at this;unfold Bj; omega
theorem US(ns:List Int)(k:Int):k∈Bj ns↔k∈ns:=by
 have go:∀(l acc:List Int),k∈l.foldl Gk acc↔k∈acc\/k∈l:=by
  intro l
  induction l with
  | nil=>intro acc; simp
  | cons x l ih =>
   intro acc;rw[List.foldl_cons,ih,List.mem_cons];unfold Gk;split
   ·rename_i h
    constructor
    ·rintro(z | z)
     ·exact .inl z
     ·exact .inr (.inr z)
    ·rintro(z | rfl | z)
     ·exact .inl z
     ·exact .inl h
     ·exact .inr z
   ·rw[List.mem_append,List.mem_singleton];constructor
    ·rintro((z | z) | z)
     ·exact .inl z
     ·exact .inr (.inl z)
     ·exact .inr (.inr z)
    ·rintro(z | z | z)
     ·exact .inl (.inl z)
     ·exact .inl (.inr z)
     ·exact .inr z
 have:=go ns []
 unfold Bj;simpa using this
theorem TC(ns:List Int):(Bj ns).Nodup:=by
 have go:∀(l acc:List Int),acc.Nodup->(l.foldl Gk acc).Nodup:=by
  intro l
  induction l with
  | nil=>intro acc h; exact h
  | cons x l ih =>
   intro acc h;rw[List.foldl_cons];refine ih _ ?_;unfold Gk;split
   ·exact h
   ·rename_i hx
    rw[List.nodup_append];exact⟨h,by simp,λa ha b hb=>by rw[List.mem_singleton.mp hb]; exact λz=>hx (z ▸ ha)⟩
 exact go ns [] List.nodup_nil
abbrev D9(w:World):Bool:=!w.params.followText "set-order"
theorem VD{R:Result->Shared->Prop}{St:Nat->Heap->Prop}{I ax S:Addr}{items:Array Value}{ns:List Int}(W:Walks prog w A.in1 I [I,ax] [I] items.size (λi v=>items[i]?=some v) St)(hSI:S≠I)(hSa:S≠ax)(hv:IntsAre items.toList ns)(hb:items.size+1<scanBound){b:Bool}:
  ∀(k i:Nat) (s:Shared),items.size-i=k->i<=items.size->St i s.heap->B1 prog w b s.heap S (Bj (ns.take i)) →
   (∀h' tk,(∀c o,c≠S->c≠I->s.heap.get? c=some o->h'.get? c=some o)->B1 prog w b h' S (Bj ns)->R (.ok (.ret .none)) { s with heap:=h',toks:=tk }) →
   codeAny (model prog w) A (.builtin "set.update.loop" ⟨[.ref S,.ref I],[]⟩) R s:=by
 have ln:ns.length=items.size:=by rw[<-Array.length_toList]; exact hv.length.symm
 have keepX:∀{h h':Heap} {ks:List Int},B1 prog w b h S ks->(∀o,h.get? S=some o->h'.get? S=some o)->B1 prog w b h' S ks:=λx k=>by
  obtain⟨o,es,ep,t,ho,rest⟩:=x;exact⟨o,es,ep,t,k o ho,rest⟩
 intro k
 induction k with
 | zero =>
  intro i s hk hi hst hS hR; obtain rfl:i=items.size:=by omega
  refine codeAny_builtin F.entry_set_update_loop ?_; rw[Around.under_plainId F.plain_set_update_loop _]; show wpAny _ A.in1 (pyNext (.ref I) >>= _) _ _ s;refine wpAny_bind (W.done s _ _ hst λh' tk hk'=>wpAny_pure (hR h' tk (λc o _ c2 e=>hk' c o (by simpa using c2) e) ?_));rw[List.take_of_length_le (by omega)] at hS;exact keepX hS λo e=>hk' S o (by simpa using hSI) e
 | succ k ih =>
  intro i s hk hi hst hS hR; have hlt:i<items.size:=by omega
  refine codeAny_builtin F.entry_set_update_loop ?_; rw[Around.under_plainId F.plain_set_update_loop _]; show wpAny _ A.in1 (pyNext (.ref I) >>= _) _ _ s;refine wpAny_bind (W.item i s _ _ hlt hst λv h' tk hP hst' hk'=>?_);obtain⟨t,rfl⟩:=IntsAre.int_at hv i v (by rw[Array.getElem?_toList]; exact hP);have hS':B1 prog w b h' S (Bj (ns.take i)):=keepX hS λo e=>hk' S o (by simpa using hSI) e
  show wpAny _ A.in1 (holding [Value.int (ns.getD i 0) t] (setAdd S (.int (ns.getD i 0) t)) >>= _) _ _ _;refine wpAny_bind (wpAny_holding ?_); unfold setAdd; refine wpAny_holding (wpAny_bind ((intKind prog w).pyHash (intKind_is prog w (ns.getD i 0) t) ?_));have room:(Bj (ns.take i)).length+1<scanBound:=by
   have:=OF (ns.take i)
   rw[List.length_take] at this; omega
  refine W6 (s:={ s with heap:=h',toks:=tk+1 }) hS' room λh2 sb x2=>?_
  have eN:Bj (ns.take (i+1))=if ns.getD i 0∈Bj (ns.take i) then Bj (ns.take i) else Bj (ns.take i)++[ns.getD i 0]:=by
   have e:ns[i]?=some (ns.getD i 0):=by rw[List.getD_eq_getElem?_getD,List.getElem?_eq_getElem (by omega)]; rfl
   rw[List.take_add_one,e];exact Tp _ _
  rw[<-eN] at x2;have fr:∀c o,c≠S->h'.get? c=some o->h2.get? c=some o:=λc o hc e=>by rw[sb.2 c hc]; exact e
  refine wpAny_pure ⟨plainId_quiet F.plain_set_update_loop _,ih (i+1) _ (by omega) hlt (W.frame _ _ _ hst' λc hc o e=>fr c o (λz=>?_) e) x2 λh3 tk3 k3 x3=>?_⟩
  ·rcases List.mem_cons.mp hc with y | y
   ·exact hSI (z.symm.trans y)
   ·exact hSa (z.symm.trans (List.mem_singleton.mp y))
  ·exact hR h3 tk3 (λc o c1 c2 e=>k3 c o c1 c2 (fr c o c1 (hk' c o (by simpa using c2) e))) x3
theorem VS(a:Value){Q₁:Value->Shared->Prop}(h:Q₁ (.ref s.heap.objs.size) { s with heap:=s.heap.push { cls:=.type "set",dict:=none,data:=.set #[] 0 (.fresh 0 0 (D9 w)) } }):
  codeAny (model prog w) A (.call (.builtin "set.__new__") ⟨[.type "set",a],[]⟩) (wants Q₁ E) s:=by
 refine codeAny_of_tree ?_; show wpAny _ A.in1 (do checkBuiltinCall "set.__new__" ⟨[.type "set",a],[]⟩; again (.builtin "set.__new__" ⟨[.type "set",a],[]⟩)) _ _ s;refine wpAny_bind (wpAny_of_eq (PySem.F.newCall_set_1 a) (wpAny_pure ⟨plainId_quiet PySem.F.plain_set_new _,codeAny_builtin PySem.F.entry_set_new ?_⟩)); rw[Around.under_plainId PySem.F.plain_set_new _];unfold Builtin.«set.__new__» Builtin.Frozenset.newClass; have hsub:=sub_set_self; obtain⟨hp,g,d,tk,os⟩:=s; dsimp only
 wp_walk
 refine wpAny_askSetting (wpAny_pure ?_); dsimp only; simp only[newObj];refine wpAny_bind (wpAny_alloc (wpAny_pure ?_)); exact wpAny_pure h
abbrev FF(w:World):Obj:={ cls:=.type "set",dict:=none,data:=.set #[] 0 (.fresh 0 0 (D9 w)) }
theorem Vl(h:Heap):B1 prog w (D9 w) (h.push (FF w)) h.objs.size [] :=
 ⟨FF w,#[],0,_,Heap.get?_push_size h rfl,⟨rfl,rfl,rfl⟩,rfl,λe he=>by simp at he,List.Perm.refl _,by decide,rfl,⟨rfl,rfl,λ_=>List.Pairwise.nil⟩⟩
set_option maxRecDepth 100000 in
set_option maxHeartbeats 3200000 in
theorem Uh {l:Addr} {items:Array Value} {ns:List Int} {Q:Value->Shared->Prop} (hh:A.handled=none) (hl:s.heap.IsList l items) (hv:IntsAre items.toList ns) (hb:items.size+1<scanBound)
  (h:∀(h':Heap) (tk:Nat),B1 prog w (D9 w) h' s.heap.objs.size (Bj ns)->(∀b o,s.heap.get? b=some o->h'.get? b=some o)->Q (.ref s.heap.objs.size) { s with heap:=h',toks:=tk }) :
  wpAny (model prog w) A (call (.type "set") [.ref l]) Q E s:=by
 obtain⟨c,tl,hmro⟩:=PySem.F.called_set.mro; have hmade:=PySem.F.called_set.made; have hsub:=PySem.F.called_set.sub;refine wpAny_call (codeAny_of_tree ?_); show wpAny _ _ (callAny (.type "set") _) _ _ _;refine wpAny_pure ⟨Code.quiet_builtin _ (by decide +kernel),codeAny_builtin PySem.F.entry_type_call ?_⟩; rw[Around.under_plain (weight_type_call_type "set" [.ref l] []) rfl];have h1:=PySem.F.called_set.notType; have h2:=PySem.F.called_set.canCreate; have hct:=PySem.F.typeCall_set_1 (.ref l)
 repeat (any_goals (first | assumption | wp_step))
 refine codeAny_mono (VS (.ref l) (E:=E) (Q₁:=λob s₁=>ob=.ref s.heap.objs.size/\s₁={ s with heap:=s.heap.push (FF w) }) ⟨rfl,rfl⟩) λr s₁ hr=>?_
 cases r with
 | error e=>exact hr
 | ok fl =>
  cases fl with
  | ret ob =>
   obtain⟨rfl,rfl⟩:=hr;have oS:(s.heap.push (FF w)).get? s.heap.objs.size=some (FF w):=Heap.get?_push_size _ rfl;have hT:Shared.TypeIs { s with heap:=s.heap.push (FF w) } (.ref s.heap.objs.size) "set":=⟨_,oS,rfl⟩;have hli:=PySem.F.called_set.init.lookup; have hbi:=PySem.F.called_set.init.bind (.ref s.heap.objs.size)
   repeat (any_goals (first | assumption | wp_step))
   refine codeAny_mono (codeAny_call_builtin (R:=wants (λr s₂=>r=.none/\∃h' tk,s₂={ s with heap:=h',toks:=tk }/\B1 prog w (D9 w) h' s.heap.objs.size (Bj ns)/\(∀b o,s.heap.get? b=some o->h'.get? b=some o)) E)
    PySem.F.called_set.init.plain PySem.F.entry_set_init (check_set_init_1 hT ?_)) λr₂ s₂ hr₂=>?_
   ·obtain⟨ol,hol,hcl,nl,hdl⟩:=hl; obtain⟨oc,od,oda,osl⟩:=ol; simp only at hcl hdl;subst hcl; subst hdl;have hol':(s.heap.push (FF w)).get? l=some { cls:=.type "list",dict:=od,data:=.seq items nl,slots:=osl }:=Heap.get?_push_of_some _ hol;have hsls:=PySem.F.sub_list_set; have hslf:=PySem.F.sub_list_frozenset; have hne:(Value.type "list" == Value.type "dict")=false:=by decide
    have hl1:(s.heap.push (FF w)).IsList l items:=⟨_,hol',rfl,nl,rfl⟩;unfold Builtin.«set.__init__» noKeywords Builtin.Frozenset.updateFrom; generalize hPI:pyIter=PI
    wp_walk
    subst hPI;refine wpAny_pyIter_list hl1 (wpAny_bind (wpAny_runValue ?_));have hlS:l<s.heap.objs.size:=Heap.lt_size hol; have hh3:A.in1.in1.in1.handled=none:=by simp[hh]
    have lI:l≠(s.heap.push (FF w)).objs.size:=by rw[Heap.size_push]; exact Nat.ne_of_lt (Nat.lt_succ_of_lt hlS)
    have sI:s.heap.objs.size≠(s.heap.push (FF w)).objs.size:=by rw[Heap.size_push]; exact Nat.ne_of_lt (Nat.lt_succ_self _)
    refine VD (Walks.list hh3 _ l lI items) sI (Nat.ne_of_gt hlS) hv hb (b:=D9 w) (items.size-0) 0 _ (by omega) (Nat.zero_le _) ⟨⟨_,Heap.get?_push_size _ rfl,rfl,rfl⟩,hl1.push _⟩ ?s0 ?fin
    case s0 =>
     obtain⟨o,es,ep,t,ho,rest⟩:=Vl (prog:=prog) (w:=w) s.heap;exact⟨o,es,ep,t,Heap.get?_push_of_some _ ho,rest⟩
    case fin =>
     intro h' tk k3 x3;show wpAny _ _ _ _ _ _;refine wpAny_pure ?_;show wpAny _ _ (ret Value.none) _ _ _;refine wpAny_pure ⟨rfl,h',tk,rfl,x3,λb o e=>?_⟩;have lb:=Heap.lt_size e;exact k3 b o (Nat.ne_of_lt lb) (by rw[Heap.size_push]; exact Nat.ne_of_lt (Nat.lt_succ_of_lt lb)) (Heap.get?_push_of_some _ (Heap.get?_push_of_some _ e))
   ·cases r₂ with
    | error e=>exact hr₂
    | ok fl₂ =>
     cases fl₂ with
     | ret r =>
      obtain⟨rfl,h',tk,rfl,x3,k3⟩:=hr₂
      repeat (any_goals (first | assumption | wp_step))
      exact h _ _ x3 k3
     | _=>exact hr₂.elim
  | _=>exact hr.elim
theorem OZ:Manifest.owners.lookup (String.ofList ['r','o','t','a','r','e','t','i','_','t','e','s'].reverse)=some Manifest.sig_set_iterator:=by kernel_rfl
theorem IT:Slot "set_iterator" "__next__" "set_iterator.__next__":=.of (owner:="set_iterator") (n:="__next__") (by rw[typeLookup_type,builtinLookup_eq_fast]; kernel_rfl) (by decide +kernel) (by decide +kernel) (by decide +kernel)
 (by first | exact .inl (by decide +kernel) | exact .inr (by decide +kernel)) (by rw[isSubtype_type]; kernel_rfl)
theorem SX:entryFor table "set_iterator.__next__" = some Builtin.«set_iterator.__next__»:=entryFor_of_tree (by kernel_rfl)
theorem Sg(a:Value):argsOk "set_iterator.__next__" ⟨[a],[]⟩:=by
 unfold argsOk; rw[signature?_of (id:="set_iterator.__next__") (n:=['_','_','t','x','e','n','_','_']) (o:=['r','o','t','a','r','e','t','i','_','t','e','s']) (by kernel_rfl) OZ]; kernel_rfl
theorem Nl:Slot "set_iterator" "__iter__" "set_iterator.__iter__":=.of (owner:="set_iterator") (n:="__iter__") (by rw[typeLookup_type,builtinLookup_eq_fast]; kernel_rfl) (by decide +kernel) (by decide +kernel) (by decide +kernel)
 (by first | exact .inl (by decide +kernel) | exact .inr (by decide +kernel)) (by rw[isSubtype_type]; kernel_rfl)
theorem SY:entryFor table "set_iterator.__iter__" = some Builtin.«dict_keyiterator.__iter__»:=entryFor_alias (id':="dict_keyiterator.__iter__") (by kernel_rfl) rfl (by decide +kernel) (by kernel_rfl)
theorem Sd(a:Value):argsOk "set_iterator.__iter__" ⟨[a],[]⟩:=by
 unfold argsOk; rw[signature?_of (id:="set_iterator.__iter__") (n:=['_','_','r','e','t','i','_','_']) (o:=['r','o','t','a','r','e','t','i','_','t','e','s']) (by kernel_rfl) OZ]; kernel_rfl
theorem Sa:entryFor table "set.__iter__" = some Builtin.«frozenset.__iter__»:=entryFor_alias (id':="frozenset.__iter__") (by kernel_rfl) rfl (by decide +kernel) (by kernel_rfl)
theorem N6{α:Type}{l:List α}{i:Nat}(h:i<l.length):(l[i] :: l.eraseIdx i).Perm l:=by
 rw[List.eraseIdx_eq_take_drop_succ];have e:l=l.take i++l[i] :: l.drop (i+1):=by rw[List.getElem_cons_drop,List.take_append_drop]
 conv=>rhs; rw[e]
 exact List.perm_middle.symm
theorem TV{src:Source}{n:Nat}{Q:Nat->Shared->Prop}(hn:n≠0)(h:Q (w.draws src (s.drawn.get src) % n) { s with drawn:=s.drawn.bump src }):wpAny (model prog w) A (choose src n) Q E s:=λ_ _ _=>⟨hn,h⟩
theorem UR{α:Type}(next:Nat->Nat)(xs:Array α):(pickOrder next xs).toList.Perm xs.toList:=by
 have go:∀(fuel k:Nat) (left:List α) (out:Array α),left.length<=fuel->(pickOrder.go next fuel k left out).toList.Perm (out.toList++left):=by
  intro fuel
  induction fuel with
  | zero =>
   intro k left out hl;obtain rfl:left=[]:=List.length_eq_zero_iff.mp (by omega);unfold pickOrder.go;simp
  | succ f ih =>
   intro k left out hl;unfold pickOrder.go;cases e:left[next k % left.length]? with
   | none =>
    dsimp only
    have:left=[]:=by
     cases left with
     | nil=>rfl
     | cons x l =>
      have:=Nat.mod_lt (next k) (show 0<(x :: l).length by simp)
      rw[List.getElem?_eq_getElem this] at e; cases e
    rw[this]; simp
   | some x =>
    dsimp only;obtain⟨hk,ex⟩:=List.getElem?_eq_some_iff.mp e;refine(ih _ _ _ (by rw[List.length_eraseIdx_of_lt hk]; omega)).trans ?_;rw[Array.toList_push,List.append_assoc];refine List.Perm.append_left _ ?_;rw[<-ex];exact N6 hk
 have:=go xs.size 0 xs.toList #[] (by simp)
 simpa [pickOrder] using this
theorem PD{α:Type}{R:List α->Shared->Prop}:∀(n:Nat) (xs:List α) (s:Shared),n=xs.length->(∀ys d',ys.Perm xs->R ys { s with drawn:=d' })->wpAny (model prog w) A (drawOrder n xs) R E s
 | 0,xs,s,hn,h=>by
  obtain rfl:xs=[]:=List.length_eq_zero_iff.mp hn.symm;unfold drawOrder;exact wpAny_pure (h [] s.drawn (List.Perm.refl _))
 | n+1,[],s,hn,h=>by cases hn
 | n+1,x :: xs,s,hn,h=>by
  unfold drawOrder;refine wpAny_bind (TV (by simp) ?_);have hk:=Nat.mod_lt (w.draws .order (s.drawn.get .order)) (show 0<(x :: xs).length by simp);generalize w.draws .order (s.drawn.get .order) % (x :: xs).length=i at hk ⊢;rw[List.getElem?_eq_getElem hk];dsimp only;refine wpAny_bind (PD n ((x :: xs).eraseIdx i) _ (by rw[List.length_eraseIdx_of_lt hk]; simp at hn ⊢; omega) λys d' p=>wpAny_pure (h _ d' ?_));exact(List.Perm.cons _ p).trans (N6 hk)
end
section
variable {prog:Program} {w:World} {A:Around} {E:Value->Shared->Prop} {s:Shared}
abbrev C4(first:Value)(i:Nat)(a:Addr)(n ep:Nat):Obj:={ cls:=.type "set_iterator",data:=.fields #[first,.int i 0,.ref a,.int n 0,.int ep 0] }
theorem Jn {I:Addr} {first:Value} {i:Nat} {a:Addr} {n ep:Nat} {Q:Option Value->Shared->Prop} (hI:s.heap.get? I=some (C4 first i a n ep))
  (hc:wpAny (model prog w) A.in1 (Builtin.«set_iterator.__next__» ⟨[.ref I],[]⟩) (λfin s'=>∃r,fin=.done (.ret r)/\Q (some r) s') (λe s'=>∃ob o,s'.heap.get? ob=some o/\o.cls=.type "StopIteration"/\e=.ref ob/\Q none s') s) :
  wpAny (model prog w) A (pyNext (.ref I)) Q E s:=by
 have hT:s.TypeIs (.ref I) "set_iterator":=⟨_,hI,rfl⟩;unfold pyNext;refine wpAny_bind (wpAny_attempt (wpAny_callSpecial?_slot (name:=Str.ofString "__next__") hT IT (wpAny_call_entry IT hT SX ?_ (Sg _))));refine wpAny_mono hc (λfin s' x=>?_) (λe s' x=>?_)
 ·obtain⟨r,rfl,q⟩:=x;exact⟨r,rfl,wpAny_pure q⟩
 ·obtain⟨ob,o,ho,hcl,rfl,q⟩:=x;refine wpAny_bind (wpAny_isInstance (T:="StopIteration") (b:=true) ⟨_,ho,hcl⟩ isSubtype_stop ?_);exact wpAny_pure q
theorem IW{h:Heap}{I:Addr}{f0 f1 f2 f3 f4:Value}{cl:Value}(hI:h.get? I=some { cls:=cl,data:=.fields #[f0,f1,f2,f3,f4] })(k:Nat)(v:Value):
  (h.update I (Obj.mapFields (·.setIfInBounds k v))).get? I=some { cls:=cl,data:=.fields (#[f0,f1,f2,f3,f4].setIfInBounds k v) }:=Heap.get?_update_self _ hI rfl
theorem Ob {h:Heap} {I:Addr} {R:Fin->Shared->Prop} {X:Value->Shared->Prop} (hh:A.handled=none) (s₁:Shared) (he:Heap.ExtBut I h s₁.heap)
  (hX:∀ob o h',h'.get? ob=some o->o.cls=.type "StopIteration"->Heap.ExtBut I h h'->X (.ref ob) { s₁ with heap:=h' }):wpAny (model prog w) A (newExc (.type "StopIteration") [] >>= λe=>raiseNew e) R X s₁:=by
 refine wpAny_bind ?_; simp only[newExc,newTuple];refine wpAny_bind (wpAny_newObj_type ?_ (by size_fits)); refine wpAny_bind (m:=firstArgMember _ _) (wpAny_of_eq (a:=Value.none) (by first | rfl | (simp only[firstArgMember]; rfl)) ?_);refine wpAny_newObj_type ?_ (by size_fits); simp only[raiseNew];refine wpAny_bind (wpAny_handled ?_); rw[hh];refine wpAny_bind (wpAny_pure (wpAny_throw ?_));exact hX _ _ _ (Heap.get?_push_size _ rfl) rfl ((he.push _).push _)
section
variable {I a:Addr} {o:Obj} {es:Array (Int×Value)} {i n ep sl:Nat} {t:SetTable} {Q:Option Value->Shared->Prop}
theorem XC {v:Value} {nx:Nat} (hI:s.heap.get? I=some (C4 (.int sl 0) i a n ep)) (ho:s.heap.get? a=some o) (hd:o.data=.set es ep t) (hf:t.fits es.size=true) (hn:es.size=n)
  (hN:∀(A':Around) (E':Value->Shared->Prop) (Q':Option (Value×Nat)->Shared->Prop),Q' (some (v,nx)) s->wpAny (model prog w) A' (setNext a sl i ep) Q' E' s)
  (hQ:∀h',h'.get? I=some (C4 (.int nx 0) (i+1) a n ep)->Heap.SameBut I s.heap h'->Q (some v) { s with heap:=h' }):wpAny (model prog w) A (pyNext (.ref I)) Q E s:=by
 refine Jn hI ?_;unfold Builtin.«set_iterator.__next__»;refine wpAny_bind (wpAny_pure ?_);refine wpAny_bind (wpAny_fieldsOf hI rfl ?_);show wpAny _ _ (setEntries a >>= _) _ _ s;refine wpAny_bind (wpAny_setEntries_of ho hd hf ?_);rw[if_neg (by simp[hn])];show wpAny _ _ (setNext a ((sl:Int).toNat) ((i:Int).toNat) ((ep:Int).toNat) >>= _) _ _ s;simp only[Int.toNat_natCast];refine wpAny_bind (hN _ _ _ ?_);show wpAny _ _ (setField (.ref I) 0 (rawInt nx) >>= _) _ _ s;refine wpAny_bind (wpAny_setField hI rfl (by simp) ?_);have g1:=IW hI 0 (rawInt nx);show wpAny _ _ (setField (.ref I) 1 (rawInt ((i:Int)+1)) >>= _) _ _ _;refine wpAny_bind (wpAny_setField g1 rfl (by simp) (wpAny_pure ⟨v,rfl,hQ _ ?_ ?_⟩))
 ·have g2:=IW (f0:=rawInt nx) (by simpa using g1) 1 (rawInt ((i:Int)+1));rw[g2]; simp[rawInt]
 ·exact(Heap.SameBut.update ..).trans (Heap.SameBut.update ..)
theorem Xa (hh:A.handled=none) (hI:s.heap.get? I=some (C4 (.int sl 0) i a n ep)) (ho:s.heap.get? a=some o) (hd:o.data=.set es ep t) (hf:t.fits es.size=true) (hn:es.size=n)
  (hN:∀(A':Around) (E':Value->Shared->Prop) (Q':Option (Value×Nat)->Shared->Prop),Q' none s->wpAny (model prog w) A' (setNext a sl i ep) Q' E' s)
  (hQ:∀h',Heap.ExtBut I s.heap h'->Q none { s with heap:=h' }):wpAny (model prog w) A (pyNext (.ref I)) Q E s:=by
 refine Jn hI ?_;unfold Builtin.«set_iterator.__next__»;refine wpAny_bind (wpAny_pure ?_);refine wpAny_bind (wpAny_fieldsOf hI rfl ?_);show wpAny _ _ (setEntries a >>= _) _ _ s;refine wpAny_bind (wpAny_setEntries_of ho hd hf ?_);rw[if_neg (by simp[hn])];show wpAny _ _ (setNext a ((sl:Int).toNat) ((i:Int).toNat) ((ep:Int).toNat) >>= _) _ _ s;simp only[Int.toNat_natCast];refine wpAny_bind (hN _ _ _ ?_);show wpAny _ _ (setField (.ref I) 2 .none >>= _) _ _ s;refine wpAny_bind (wpAny_setField hI rfl (by simp) ?_);exact Ob (A:=A.in1) (h:=s.heap) (I:=I) hh { s with heap:=s.heap.update I (Obj.mapFields (·.setIfInBounds 2 Value.none)) } (Heap.SameBut.update ..).extBut (λob o' h' e1 e2 e3=>⟨ob,o',e1,e2,rfl,hQ h' e3⟩)
end
end
section
variable {prog:Program} {w:World} {A:Around} {E:Value->Shared->Prop} {s:Shared} {a I:Addr} {o:Obj} {es:Array (Int×Value)} {i n ep:Nat} {t:SetTable}
theorem KH{Q:Bool->Shared->Prop}(h:Q (w.params.followText "set-order") s):wpAny (model prog w) A setsByText Q E s:=by
 unfold setsByText; exact wpAny_bind (wpAny_askSetting (wpAny_pure h))
def Du(t:SetTable):Nat->Nat
 | 0=>0
 | i+1=>t.place.getD i 0+1
theorem UC{t:SetTable}(hs:t.place.toList.Pairwise (· < ·)):∀i,i<=t.place.size->SetTable.below t.place (Du t i)=i:=by
 have mono:∀(a b x y:Nat),a<b->t.place[a]?=some x->t.place[b]?=some y->x<y:=λa b x y hab ha hb=>by
  rw[<-Array.getElem?_toList] at ha hb;obtain⟨h1,rfl⟩:=List.getElem?_eq_some_iff.mp ha;obtain⟨h2,rfl⟩:=List.getElem?_eq_some_iff.mp hb;exact List.pairwise_iff_getElem.mp hs a b h1 h2 hab
 intro i hi;obtain⟨b1,b2,b3⟩:=Oj hs (Du t i);rcases Nat.lt_trichotomy (SetTable.below t.place (Du t i)) i with z | z | z
 ·have e:t.place[SetTable.below t.place (Du t i)]?=some t.place[SetTable.below t.place (Du t i)]:=Array.getElem?_eq_getElem (by omega);have g:=b3 _ _ (Nat.le_refl _) e;generalize t.place[SetTable.below t.place (Du t i)]=x at e g;cases i with
  | zero=>omega
  | succ i =>
   have ei:t.place[i]?=some t.place[i]:=Array.getElem?_eq_getElem (by omega);have gi:Du t (i+1)=t.place[i]+1:=by show t.place.getD i 0+1=_; rw[Array.getD_eq_getD_getElem?,ei]; rfl
   rcases Nat.lt_or_ge (SetTable.below t.place (Du t (i+1))) i with y | y
   ·have:=mono _ _ _ _ y e ei; omega
   ·have eb:SetTable.below t.place (Du t (i+1))=i:=by omega
    rw[eb,ei] at e;cases e; omega
 ·exact z
 ·have ei:t.place[i]?=some t.place[i]:=Array.getElem?_eq_getElem (by omega);have g:=b2 i _ z ei;generalize t.place[i]=x at ei g;cases i with
  | zero=>simp[Du] at g
  | succ i =>
   have e0:t.place[i]?=some t.place[i]:=Array.getElem?_eq_getElem (by omega);have gi:Du t (i+1)=t.place[i]+1:=by show t.place.getD i 0+1=_; rw[Array.getD_eq_getD_getElem?,e0]; rfl
   have:=mono i (i+1) _ _ (by omega) e0 ei
   omega
theorem WB (hb:w.params.followText "set-order" = false) (ho:s.heap.get? a=some o) (hd:o.data=.set es ep t) (hf:t.fits es.size=true) (ti:DY true t) (hp:(!t.plain && decide (es.size > 1))=false) (hi:i<=es.size)
  {Q:Option (Value×Nat)->Shared->Prop} (h:Q (if i<es.size then some ((es.getD i (0,.none)).2,Du t (i+1)) else none) s):wpAny (model prog w) A (setNext a (Du t i) i ep) Q E s:=by
 have sz:t.place.size=es.size:=by
  unfold SetTable.fits at hf;simp only[Bool.and_eq_true,beq_iff_eq] at hf;exact hf.1
 have ord:t.place.toList.Pairwise (· < ·):=by
  cases hpl:t.plain with
  | true=>exact ti.ord hpl
  | false =>
   rw[hpl] at hp
   have:t.place.toList.length<=1:=by simp at hp; rw[Array.length_toList]; omega
   match hl:t.place.toList,this with
   | [],_=>exact List.Pairwise.nil
   | [x],_=>exact List.pairwise_singleton _ _
 unfold setNext;refine wpAny_bind (wpAny_setState_of ho hd hf ?_);refine wpAny_bind (KH ?_);rw[hb];refine wpAny_ite_split (λz=>by cases z) (λ_=>?_);refine wpAny_ite_split (λz=>absurd z (show ¬((!t.plain && decide (es.size > 1))=true) by rw[hp]; decide)) (λ_=>?_);refine wpAny_bind ?_;refine wpAny_ite_split (λz=>absurd z (show ¬((!t.led && !es.isEmpty)=true) by rw[ti.led]; simp)) (λ_=>wpAny_pure ?_);rw[UC ord i (by omega)];refine wpAny_pure ?_;rcases Nat.lt_or_ge i es.size with z | z
 ·rw[if_pos z] at h;have e1:es[i]?=some (es.getD i (0,.none)):=by rw[Array.getD_eq_getD_getElem?,Array.getElem?_eq_getElem z]; rfl
  have e2:t.place[i]?=some (t.place.getD i 0):=by rw[Array.getD_eq_getD_getElem?,Array.getElem?_eq_getElem (by omega)]; rfl
  rw[e1,e2];exact h
 ·rw[if_neg (by omega)] at h;rw[Array.getElem?_eq_none z];exact h
theorem U2 (hb:w.params.followText "set-order" = true) (ho:s.heap.get? a=some o) (hd:o.data=.set es ep t) (hf:t.fits es.size=true)
  {Q:Option (Value×Nat)->Shared->Prop} (h:Q ((pickOrder (w.params.setOrder a ep) es)[i]?.map λe=>(e.2,0)) s):wpAny (model prog w) A (setNext a 0 i ep) Q E s:=by
 unfold setNext;refine wpAny_bind (wpAny_setState_of ho hd hf ?_);refine wpAny_bind (KH ?_);rw[hb];refine wpAny_ite_split (λ_=>?_) (λz=>absurd rfl z);dsimp only;refine wpAny_ite_split (λz=>absurd z (by simp)) (λ_=>?_);unfold setWalk;refine wpAny_bind (wpAny_bind (wpAny_setState_of ho hd hf ?_));refine wpAny_bind (KH ?_);rw[hb];refine wpAny_ite_split (λ_=>?_) (λz=>absurd rfl z);refine wpAny_bind (wpAny_askSetting (wpAny_pure ?_));exact wpAny_pure h
theorem WG{Q:Bool->Shared->Prop}(hT:s.TypeIs (.ref a) "set")(h:Q false s):wpAny (model prog w) A (Builtin.List.listLengthHint (.ref a)) Q E s:=by
 unfold Builtin.List.listLengthHint; refine wpAny_bind (wpAny_specialOf hT PySem.F.slot_set_len.lookup ?_);generalize hid:("set.__len__":String)=id0
 wp_delta
 rw[show splitId id0=some ("set","__len__") from by subst hid; decide +kernel]; subst hid;refine wpAny_bind (wpAny_isInstance (T:="set") (b:=true) hT (by rw[isSubtype_type]; kernel_rfl) ?_);refine wpAny_ite_split (λz=>absurd z (by decide)) (λ_=>wpAny_ite_split (λ_=>?_) (λz=>absurd (by decide +kernel) z));exact wpAny_bind (wpAny_typeOf hT (wpAny_pure h))
abbrev GC(ys:List Nat):Obj:={ cls:=.type "tuple",data:=.seq (ys.map λy:Nat=>rawInt (y:Int)).toArray }
theorem Ve {Q:Value->Shared->Prop} (ho:s.heap.get? a=some o) (hx:o.ExactSet) (hd:o.data=.set es ep t) (hf:t.fits es.size=true) (hz:es.size<=sizeLine)
  (h1:(!w.params.followText "set-order" && (!t.plain && decide (es.size > 1)))=false->Q (.ref s.heap.objs.size) { s with heap:=s.heap.push (C4 (.int 0 0) 0 a es.size ep) })
  (h2:(!w.params.followText "set-order" && (!t.plain && decide (es.size > 1)))=true->∀ys d',ys.Perm (List.range es.size)->Q (.ref (s.heap.objs.size+1)) { s with heap:=(s.heap.push (GC ys)).push (C4 (.ref s.heap.objs.size) 0 a es.size ep),drawn:=d' }) :
  wpAny (model prog w) A (pyIter (.ref a)) Q E s:=by
 have hT:s.TypeIs (.ref a) "set":=⟨o,ho,hx.1⟩;refine wpAny_pyIter_slot hT PySem.F.slot_set_iter (wpAny_call_entry PySem.F.slot_set_iter hT Sa ?_ (PySem.F.args_set_iter_1 _));unfold Builtin.«frozenset.__iter__»;refine wpAny_bind (wpAny_pure ?_);unfold Builtin.Frozenset.sizeOf;refine wpAny_bind (wpAny_bind (wpAny_setEntries_of ho hd hf (wpAny_pure ?_)));unfold setDrawn;refine wpAny_bind (wpAny_bind (wpAny_setState_of ho hd hf (wpAny_bind (KH (wpAny_pure ?_)))));refine wpAny_ite_split (λz=>?_) (λz=>?_)
 ·have z':(!w.params.followText "set-order" && (!t.plain && decide (es.size > 1)))=true:=z;refine wpAny_bind (PD es.size (List.range es.size) s (by simp) λys d' p=>?_);have ly:ys.length=es.size:=by rw[p.length_eq,List.length_range]
  unfold newTuple;refine wpAny_bind (wpAny_newObj_type ?_ (by simp only[sizeOk,List.size_toArray,List.length_map,ly]; exact hz));have ho':=Heap.get?_push_of_some (GC ys) ho;refine wpAny_bind (wpAny_setEpoch_of (s:={ s with heap:=s.heap.push (GC ys),drawn:=d' }) ho' hd hf ?_);unfold newFields;refine wpAny_bind (wpAny_newObj_type (wpAny_pure ⟨_,rfl,"set_iterator",_,⟨_,Heap.get?_push_size _ rfl,rfl⟩,IT.lookup,?_⟩));have fin:=h2 z' ys d' p;have e:(s.heap.push (GC ys)).objs.size=s.heap.objs.size+1:=Heap.size_push ..;simp only[e];exact fin
 ·refine wpAny_bind (wpAny_pure ?_);refine wpAny_bind (wpAny_setEpoch_of ho hd hf ?_);unfold newFields;refine wpAny_bind (wpAny_newObj_type (wpAny_pure ⟨_,rfl,"set_iterator",_,⟨_,Heap.get?_push_size _ rfl,rfl⟩,IT.lookup,?_⟩));have z':(!w.params.followText "set-order" && (!t.plain && decide (es.size > 1)))=false:=by
   have:¬(!w.params.followText "set-order" && (!t.plain && decide (es.size > 1)))=true:=z
   rwa [Bool.not_eq_true] at this
  exact h1 z'
variable {tp:Addr} {Q:Option Value->Shared->Prop}
theorem TF {ys:List Nat} {y:Nat} {e:Int×Value} (hI:s.heap.get? I=some (C4 (.ref tp) i a n ep)) (hT:s.heap.get? tp=some (GC ys)) (ho:s.heap.get? a=some o) (hd:o.data=.set es ep t) (hf:t.fits es.size=true) (hn:es.size=n) (hy:ys[i]?=some y) (he:es[y]?=some e)
  (hQ:∀h',h'.get? I=some (C4 (.ref tp) (i+1) a n ep)->Heap.SameBut I s.heap h'->Q (some e.2) { s with heap:=h' }):wpAny (model prog w) A (pyNext (.ref I)) Q E s:=by
 refine Jn hI ?_;unfold Builtin.«set_iterator.__next__»;refine wpAny_bind (wpAny_pure (wpAny_bind (wpAny_fieldsOf hI rfl ?_)));show wpAny _ _ (setEntries a >>= _) _ _ s;refine wpAny_bind (wpAny_setEntries_of ho hd hf ?_); rw[if_neg (by simp[hn])];show wpAny _ _ (seqItems? (.ref tp) >>= _) _ _ s;refine wpAny_bind (wpAny_seqItems hT rfl ?_);have e1:(ys.map λy:Nat=>rawInt (y:Int)).toArray[((i:Int)).toNat]?=some (rawInt (y:Int)):=by
  rw[Int.toNat_natCast,List.getElem?_toArray,List.getElem?_map,hy]; rfl
 dsimp only;rw[e1];show wpAny _ _ (setNextDrawn a ((y:Int).toNat) ((ep:Int).toNat) >>= _) _ _ s;rw[Int.toNat_natCast,Int.toNat_natCast];unfold setNextDrawn;refine wpAny_bind (wpAny_bind (wpAny_setState_of ho hd hf ?_));refine wpAny_ite_split (λz=>absurd z (by simp)) (λ_=>?_);rw[he];refine wpAny_pure ?_;show wpAny _ _ (setField (.ref I) 1 (rawInt ((i:Int)+1)) >>= _) _ _ s;refine wpAny_bind (wpAny_setField hI rfl (by simp) (wpAny_pure ⟨e.2,rfl,hQ _ ?_ (Heap.SameBut.update ..)⟩));rw[IW hI 1 (rawInt ((i:Int)+1))]; simp[rawInt]
theorem UD {ys:List Nat} (hh:A.handled=none) (hI:s.heap.get? I=some (C4 (.ref tp) i a n ep)) (hT:s.heap.get? tp=some (GC ys)) (ho:s.heap.get? a=some o) (hd:o.data=.set es ep t) (hf:t.fits es.size=true) (hn:es.size=n) (hy:ys[i]?=none)
  (hQ:∀h',Heap.ExtBut I s.heap h'->Q none { s with heap:=h' }):wpAny (model prog w) A (pyNext (.ref I)) Q E s:=by
 refine Jn hI ?_;unfold Builtin.«set_iterator.__next__»;refine wpAny_bind (wpAny_pure (wpAny_bind (wpAny_fieldsOf hI rfl ?_)));show wpAny _ _ (setEntries a >>= _) _ _ s;refine wpAny_bind (wpAny_setEntries_of ho hd hf ?_); rw[if_neg (by simp[hn])];show wpAny _ _ (seqItems? (.ref tp) >>= _) _ _ s;refine wpAny_bind (wpAny_seqItems hT rfl ?_);have e1:(ys.map λy:Nat=>rawInt (y:Int)).toArray[((i:Int)).toNat]?=none:=by
  rw[Int.toNat_natCast,List.getElem?_toArray,List.getElem?_map,hy]; rfl
 dsimp only;rw[e1];show wpAny _ _ (setField (.ref I) 0 (rawInt 0) >>= _) _ _ s;refine wpAny_bind (wpAny_setField hI rfl (by simp) ?_);have g1:=IW hI 0 (rawInt 0);show wpAny _ _ (setField (.ref I) 2 .none >>= _) _ _ _;refine wpAny_bind (wpAny_setField g1 rfl (by simp) ?_);exact Ob (A:=A.in1) (h:=s.heap) (I:=I) hh { s with heap:=(s.heap.update I (Obj.mapFields (·.setIfInBounds 0 (rawInt 0)))).update I (Obj.mapFields (·.setIfInBounds 2 Value.none)) } ((Heap.SameBut.update ..).trans (Heap.SameBut.update ..)).extBut (λob o' h' e1 e2 e3=>⟨ob,o',e1,e2,rfl,hQ h' e3⟩)
theorem OX{first:Value}{Q:Value->Shared->Prop}(hI:s.heap.get? I=some (C4 first i a n ep))(h:Q (.ref I) s):wpAny (model prog w) A (pyIter (.ref I)) Q E s:=by
 have hT:s.TypeIs (.ref I) "set_iterator":=⟨_,hI,rfl⟩;refine wpAny_pyIter_slot hT Nl (wpAny_call_entry Nl hT SY ?_ (Sd _));show wpAny _ _ (ret (.ref I)) _ _ s;exact wpAny_pure ⟨_,rfl,"set_iterator",_,hT,IT.lookup,h⟩
theorem Oc (hh:A.handled=none) (hne:a≠I) (hd:o.data=.set es ep t) (hf:t.fits es.size=true) (hn:es.size=n) (sl:Nat->Nat) (val:Nat->Value)
  (hN:∀(s:Shared),s.heap.get? a=some o->∀i,i<=n->∀(A':Around) (E':Value->Shared->Prop) (Q':Option (Value×Nat)->Shared->Prop),Q' (if i<n then some (val i,sl (i+1)) else none) s->wpAny (model prog w) A' (setNext a (sl i) i ep) Q' E' s) :
  Walks prog w A I [I,a] [I] n (λi v=>v=val i) (λi h=>h.get? I=some (C4 (.int (sl i) 0) i a n ep)/\h.get? a=some o) where
 sub:=λb hb=>by simp at hb; simp[hb]
 frame:=λi h h' st hk=>⟨hk I (by simp) _ st.1,hk a (by simp) _ st.2⟩
 item:=λi s Q E hi st hQ=>by
  refine XC (v:=val i) (nx:=sl (i+1)) st.1 st.2 hd hf hn (λA' E' Q' q=>hN s st.2 i (by omega) A' E' Q' (by rw[if_pos hi]; exact q)) λh' e1 e2=>?_
  exact hQ _ h' s.toks rfl ⟨e1,by rw[e2.2 a hne]; exact st.2⟩ λb ob hb e=>by rw[e2.2 b (by simpa using hb)]; exact e
 done:=λs Q E st hQ=>by
  refine Xa hh st.1 st.2 hd hf hn (λA' E' Q' q=>hN s st.2 n (Nat.le_refl _) A' E' Q' (by rw[if_neg (Nat.lt_irrefl _)]; exact q)) λh' e1=>?_
  exact hQ h' s.toks λb ob hb e=>e1 b ob (by simpa using hb) e
 self:=λi s Q E st hQ=>OX st.1 hQ
theorem To(hh:A.handled=none)(hne:a≠I)(hnt:tp≠I)(hd:o.data=.set es ep t)(hf:t.fits es.size=true)(hn:es.size=n){ys:List Nat}(hp:ys.Perm (List.range n)):
  Walks prog w A I [I,a,tp] [I] n (λi v=>∃y e,ys[i]?=some y/\es[y]?=some e/\v=e.2) (λi h=>h.get? I=some (C4 (.ref tp) i a n ep)/\h.get? a=some o/\h.get? tp=some (GC ys)) where
 sub:=λb hb=>by simp at hb; simp[hb]
 frame:=λi h h' st hk=>⟨hk I (by simp) _ st.1,hk a (by simp) _ st.2.1,hk tp (by simp) _ st.2.2⟩
 item:=λi s Q E hi st hQ=>by
  have ly:ys.length=n:=by rw[hp.length_eq,List.length_range]
  have ey:ys[i]?=some ys[i]:=List.getElem?_eq_getElem (by omega);have hy:ys[i]<es.size:=by rw[hn]; exact List.mem_range.mp (hp.mem_iff.mp (List.getElem_mem _))
  have ee:es[ys[i]]?=some es[ys[i]]:=Array.getElem?_eq_getElem hy;refine TF st.1 st.2.2 st.2.1 hd hf hn ey ee λh' e1 e2=>?_
  exact hQ _ h' s.toks ⟨_,_,ey,ee,rfl⟩ ⟨e1,by rw[e2.2 a hne]; exact st.2.1,by rw[e2.2 tp hnt]; exact st.2.2⟩ λb ob hb e=>by rw[e2.2 b (by simpa using hb)]; exact e
 done:=λs Q E st hQ=>by
  have ly:ys.length=n:=by rw[hp.length_eq,List.length_range]
  refine UD hh st.1 st.2.2 st.2.1 hd hf hn (List.getElem?_eq_none (by omega)) λh' e1=>?_
  exact hQ h' s.toks λb ob hb e=>e1 b ob (by simpa using hb) e
 self:=λi s Q E st hQ=>OX st.1 hQ
open PySem.W
variable {S:Addr}
theorem Wo {R:Result->Shared->Prop} {Good:List Value->Prop} {res:Value} {c₀:Nat} (hT:s.TypeIs (.ref a) "set") (hSa:S≠a) (hS:s.heap.get? S=some { cls:=.type "list",data:=.seq #[] c₀ }) (hn:n<=sizeLine)
  (hit:∀E':Value->Shared->Prop,wpAny (model prog w) A.in1 (pyIter (.ref a)) (λit s1=>∃(I:Addr) (h1:Heap) (d1:Drawn) (fp:List Addr) (P:Nat->Value->Prop) (St:Nat->Heap->Prop),it=.ref I/\s1={ s with heap:=h1,drawn:=d1 }/\Walks prog w A.in1 I fp [I] n P St/\S∉fp/\St 0 h1/\(∀b o,s.heap.get? b=some o->h1.get? b=some o)/\s.heap.get? I=none/\∀acc,ItemsOf P acc n->Good acc.toList) E' s)
  (hR:∀h' tk d' acc c,(∀b o,b≠S->s.heap.get? b=some o->h'.get? b=some o)->h'.get? S=some { cls:=.type "list",dict:=none,data:=.seq acc c,slots:=#[] }->Good acc.toList->R (.ok (.ret res)) { s with heap:=h',toks:=tk,drawn:=d' }) :
  wpAny (model prog w) A.in1 (Builtin.List.listExtendWith (.ref S) (.ref a) res) (λfin s'=>match fin with | .done f=>R (.ok f) s' | .again c'=>c'.quiet=true/\codeAny (model prog w) A c' R s') (λe s'=>R (.error e) s') s:=by
 unfold Builtin.List.listExtendWith; refine wpAny_bind (wpAny_typeOf (T:="set") hT ?_);have r1:Builtin.List.listSameRef (.ref S) (.ref a)=false:=by simp[Builtin.List.listSameRef,hSa]
 have r2:(Value.type "set" == Value.type "list")=false:=by decide
 have r3:(Value.type "set" == Value.type "tuple")=false:=by decide
 simp only[r1,r2,r3,Bool.or_false,Bool.false_eq_true,if_false];refine wpAny_bind (wpAny_mono (hit _) (λit s1 x=>?_) λ_ _ z=>z);obtain⟨I,h1,d1,fp,P,St,rfl,rfl,W,hSf,st,k1,nI,good⟩:=x;have S1:=k1 _ _ hS;have key:∀(h:Heap) (c₁ tk:Nat),St 0 h->(∀b o,b≠S->s.heap.get? b=some o->h.get? b=some o)->h.get? S=some { cls:=.type "list",data:=.seq #[] c₁ }->codeAny (model prog w) A (.builtin "list.extend.loop" ⟨[.ref S,.ref I,res],[]⟩) R { s with heap:=h,toks:=tk,drawn:=d1 }:=λh c₁ tk hst hk hS₁=>by
  refine codeAny_extend_loopS W.toS hn S hSf res n 0 _ #[] c₁ rfl (Nat.zero_le _) hst hS₁ (ItemsOf.nil _) λs' acc' c' hm hS' hacc=>?_
  have es:=Moved.eq_with hm;rw[es];refine hR s'.heap s'.toks d1 acc' c' (λb o hb e=>hm.heap b o (λhmem=>?_) (hk b o hb e)) hS' (good _ hacc);rcases List.mem_cons.mp hmem with z | z
  ·exact hb z
  ·rw[List.mem_singleton.mp z,nI] at e; cases e
 have hT1:Shared.TypeIs { s with heap:=h1,drawn:=d1 } (.ref a) "set":=by
  obtain⟨oT,e1,e2⟩:=hT;exact⟨oT,k1 _ _ e1,e2⟩
 refine wpAny_bind (wpAny_holding (WG hT1 ?_));refine wpAny_ite_split (λ_=>?_) (λ_=>wpAny_pure ⟨plainId_quiet PySem.F.plain_extend_loop _,key _ c₀ _ st (λb o _ e=>k1 b o e) S1⟩);refine wpAny_bind (wpAny_rule (wpAny_bind ?_));show wpAny _ _ (updateSeq S (·.push .none) >>= λ_=>updateSeq S (·.pop)) _ _ _;refine wpAny_bind (wpAny_updateSeq S1 rfl ?_);have S2:=Heap.get?_update_self (Obj.mapSeq (·.push Value.none)) S1 rfl;refine wpAny_updateSeq (hz:=by seq_fits) S2 rfl ?_;have S3:=Heap.get?_update_self (Obj.mapSeq (·.pop)) S2 rfl;refine wpAny_pure ⟨plainId_quiet PySem.F.plain_extend_loop _,key _ _ _ ?_ (λb o hb e=>?_) S3⟩
 ·refine W.frame 0 _ _ st λb hb o e=>?_
  have hbS:b≠S:=λz=>hSf (z ▸ hb)
  rw[Heap.get?_update_other _ _ (Ne.symm hbS),Heap.get?_update_other _ _ (Ne.symm hbS)]; exact e
 ·rw[Heap.get?_update_other _ _ (Ne.symm hb),Heap.get?_update_other _ _ (Ne.symm hb)]; exact k1 b o e
theorem Pj:∀{l:List (Int×Value)},EI prog w l->IntsAre (l.map (·.2)) (l.map Gi)
 | [],_=>.nil
 | e :: l,h=>by
  obtain⟨k,t,rfl⟩:=h e (by simp);exact .cons k t (Pj λx hx=>h x (by simp[hx]))
def JE(ks:List Int)(vs:List Value):Prop:=∃ms,IntsAre vs ms/\ms.Perm ks
theorem Ly{l m:List (Int×Value)}{ks:List Int}(h:EI prog w l)(p:m.Perm l)(q:(l.map Gi).Perm ks):JE ks (m.map (·.2)):=⟨m.map Gi,Pj (h.Gh p),(p.map Gi).trans q⟩
theorem Lh{P:Nat->Value->Prop}{acc:Array Value}{vs:List Value}(h:ItemsOf P acc vs.length)(hv:∀i v,i<vs.length->P i v->vs[i]?=some v):acc.toList=vs:=by
 refine List.ext_getElem? λi=>?_
 rcases Nat.lt_or_ge i vs.length with z | z
 ·have hi:i<acc.size:=by rw[h.1]; exact z
  rw[Array.getElem?_toList,Array.getElem?_eq_getElem hi];exact(hv i _ z (h.2 i _ (Array.getElem?_eq_getElem hi))).symm
 ·rw[List.getElem?_eq_none z,List.getElem?_eq_none (by rw[Array.length_toList,h.1]; exact z)]
theorem UX{ks:List Int}(hh:A.handled=none)(x:B1 prog w (D9 w) s.heap a ks)(hSs:S<s.heap.objs.size)(hSa:S≠a):
  wpAny (model prog w) A (pyIter (.ref a)) (λit s1=>∃(I:Addr) (h1:Heap) (d1:Drawn) (fp:List Addr) (P:Nat->Value->Prop) (St:Nat->Heap->Prop),it=.ref I/\s1={ s with heap:=h1,drawn:=d1 }/\Walks prog w A I fp [I] ks.length P St/\S∉fp/\St 0 h1/\(∀b o,s.heap.get? b=some o->h1.get? b=some o)/\s.heap.get? I=none/\∀acc,ItemsOf P acc ks.length->JE ks acc.toList) E s:=by
 obtain⟨o,es,ep,t,ho,hex,hd,hel,hp,hb,hf,ti⟩:=x;have sz:es.size=ks.length:=by rw[<-Array.length_toList,<-hp.length_eq,List.length_map]
 have la:=Heap.lt_size ho;refine Ve ho hex hd hf (fits_of_scanBound hb) (λz=>?_) (λz ys d' yp=>?_)
 ·have aI:a≠s.heap.objs.size:=Nat.ne_of_lt la;have hSf:S∉[s.heap.objs.size,a]:=by simp only[List.mem_cons,List.not_mem_nil,or_false,not_or]; exact⟨Nat.ne_of_lt hSs,hSa⟩
  have gI:(s.heap.push (C4 (.int 0 0) 0 a es.size ep)).get? s.heap.objs.size=some (C4 (.int 0 0) 0 a es.size ep):=Heap.get?_push_size _ rfl;have ga:=Heap.get?_push_of_some (C4 (.int 0 0) 0 a es.size ep) ho;cases hbt:w.params.followText "set-order" with
  | true =>
   have pp:=UR (w.params.setOrder a ep) es;have ps:(pickOrder (w.params.setOrder a ep) es).size=es.size:=by rw[<-Array.length_toList,pp.length_eq,Array.length_toList]
   refine⟨_,_,s.drawn,_,_,_,rfl,rfl,Oc hh aI hd hf sz (λ_=>0) (λi=>((pickOrder (w.params.setOrder a ep) es).getD i (0,.none)).2) (λs' ho' i hi A' E' Q' q=>U2 hbt ho' hd hf ?_),hSf,⟨by rw[<-sz]; exact gI,ga⟩,λb ob e=>Heap.get?_push_of_some _ e,Heap.get?_none_of_le (Nat.le_refl _),λacc ha=>?_⟩
   ·rcases Nat.lt_or_ge i ks.length with y | y
    ·rw[if_pos y] at q;have e1:(pickOrder (w.params.setOrder a ep) es)[i]?=some ((pickOrder (w.params.setOrder a ep) es).getD i (0,.none)):=by rw[Array.getD_eq_getD_getElem?,Array.getElem?_eq_getElem (by omega)]; rfl
     rw[e1]; exact q
    ·rw[if_neg (by omega)] at q;rw[Array.getElem?_eq_none (by omega)]; exact q
   ·have lv:((pickOrder (w.params.setOrder a ep) es).toList.map (·.2)).length=ks.length:=by rw[List.length_map,Array.length_toList,ps,sz]
    rw[Lh (vs:=(pickOrder (w.params.setOrder a ep) es).toList.map (·.2)) (by rw[lv]; exact ha) (λi v hi e=>by
     rw[lv] at hi;rw[e,List.getElem?_map,Array.getElem?_toList,Array.getD_eq_getD_getElem?,Array.getElem?_eq_getElem (by omega)]; rfl)]
    exact Ly hel pp hp
  | false =>
   rw[hbt] at z;have z':(!t.plain && decide (es.size > 1))=false:=by simpa using z
   have ti':DY true t:=⟨by rw[ti.led]; show(!w.params.followText "set-order")=true; rw[hbt]; rfl,ti.NU,ti.ord⟩;refine⟨_,_,s.drawn,_,_,_,rfl,rfl,Oc hh aI hd hf sz (Du t) (λi=>(es.getD i (0,.none)).2) (λs' ho' i hi A' E' Q' q=>WB hbt ho' hd hf ti' z' (by omega) (by rw[sz]; exact q)),hSf,⟨by rw[<-sz]; exact gI,ga⟩,λb ob e=>Heap.get?_push_of_some _ e,Heap.get?_none_of_le (Nat.le_refl _),λacc ha=>?_⟩;have lv:(es.toList.map (·.2)).length=ks.length:=by rw[List.length_map,Array.length_toList,sz]
   rw[Lh (vs:=es.toList.map (·.2)) (by rw[lv]; exact ha) (λi v hi e=>by
    rw[lv] at hi;rw[e,List.getElem?_map,Array.getElem?_toList,Array.getD_eq_getD_getElem?,Array.getElem?_eq_getElem (by omega)]; rfl)]
   exact Ly hel (List.Perm.refl _) hp
 ·have e1:(s.heap.push (GC ys)).objs.size=s.heap.objs.size+1:=Heap.size_push ..;have aI:a≠s.heap.objs.size+1:=Nat.ne_of_lt (Nat.lt_succ_of_lt la);have tI:s.heap.objs.size≠s.heap.objs.size+1:=Nat.ne_of_lt (Nat.lt_succ_self _);have hSf:S∉[s.heap.objs.size+1,a,s.heap.objs.size]:=by simp only[List.mem_cons,List.not_mem_nil,or_false,not_or]; exact⟨Nat.ne_of_lt (Nat.lt_succ_of_lt hSs),hSa,Nat.ne_of_lt hSs⟩
  have yp':ys.Perm (List.range ks.length):=by rw[<-sz]; exact yp
  have gI:((s.heap.push (GC ys)).push (C4 (.ref s.heap.objs.size) 0 a es.size ep)).get? (s.heap.objs.size+1)=some (C4 (.ref s.heap.objs.size) 0 a es.size ep):=by rw[<-e1]; exact Heap.get?_push_size _ rfl
  refine⟨_,_,d',_,_,_,rfl,rfl,To (tp:=s.heap.objs.size) hh aI tI hd hf sz yp',hSf,⟨by rw[<-sz]; exact gI,Heap.get?_push_of_some _ (Heap.get?_push_of_some _ ho),Heap.get?_push_of_some _ (Heap.get?_push_size _ rfl)⟩,λb ob e=>Heap.get?_push_of_some _ (Heap.get?_push_of_some _ e),Heap.get?_none_of_le (Nat.le_succ _),λacc ha=>?_⟩;have ly:ys.length=ks.length:=by rw[yp'.length_eq,List.length_range]
  have pm:(ys.filterMap λy=>es[y]?).Perm es.toList:=(yp.filterMap _).trans (by rw[filterMap_getElem?_range]);have em:∀l:List Nat,(∀y∈l,y<es.size)->l.filterMap (λy=>es[y]?)=l.map λy=>es.getD y (0,.none):=by
   intro l
   induction l with
   | nil=>intro _; rfl
   | cons y l ih =>
    intro hl;have e0:es[y]?=some (es.getD y (0,.none)):=by rw[Array.getD_eq_getD_getElem?,Array.getElem?_eq_getElem (hl y (by simp))]; rfl
    rw[List.filterMap_cons,e0,List.map_cons];exact congrArg _ (ih λx hx=>hl x (by simp[hx]))
  rw[em ys λy hy=>List.mem_range.mp (yp.mem_iff.mp hy)] at pm;have lv:((ys.map λy=>es.getD y (0,.none)).map (·.2)).length=ks.length:=by rw[List.length_map,List.length_map,ly]
  rw[Lh (vs:=(ys.map λy=>es.getD y (0,.none)).map (·.2)) (by rw[lv]; exact ha) (λi v hi e=>by
   obtain⟨y,q,e1,e2,rfl⟩:=e;rw[List.getElem?_map,List.getElem?_map,e1];show some (es.getD y (0,.none)).2=_;rw[Array.getD_eq_getD_getElem?,e2]; rfl)]
  exact Ly hel pm hp
end
end L2
namespace L2
open PySem PySem.Spec PyProof.Rows PySem.W
section
variable {prog:Program} {w:World} {A:Around} {E:Value->Shared->Prop} {s:Shared} {a:Addr}
theorem B1.keep{b:Bool}{h h':Heap}{ks:List Int}(x:B1 prog w b h a ks)(k:∀o,h.get? a=some o->h'.get? a=some o):B1 prog w b h' a ks:=by
 obtain⟨o,es,ep,t,ho,rest⟩:=x;exact⟨o,es,ep,t,k o ho,rest⟩
theorem B1.type{b:Bool}{ks:List Int}(x:B1 prog w b s.heap a ks):s.TypeIs (.ref a) "set":=by
 obtain⟨o,es,ep,t,ho,hex,_⟩:=x;exact⟨o,ho,hex.1⟩
theorem S8 {R:List Value->Shared->Prop} {ks:List Int} (hh:A.handled=none) (x:B1 prog w (D9 w) s.heap a ks) (hn:ks.length<=sizeLine)
  (h:∀(h':Heap) (tk:Nat) (d':Drawn) (vs:List Value),(∀b o,s.heap.get? b=some o->h'.get? b=some o)->s.heap.objs.size<h'.objs.size->JE ks vs->R vs { s with heap:=h',toks:=tk,drawn:=d' }):wpAny (model prog w) A (collect (.ref a)) R E s:=by
 have la:a<s.heap.objs.size:=by
  obtain⟨o,_,_,_,ho,_⟩:=x;exact Heap.lt_size ho
 unfold collect; refine wpAny_bind (wpAny_runValue (codeAny_builtin entry_proto_collect' ?_)); rw[Around.under_plainId PySem.F.plain_proto_collect _];show wpAny _ A.in1 (newList [] >>= λl=>again (.builtin "list.__iadd__" ⟨[l,.ref a],[]⟩)) _ _ s;refine wpAny_bind (wpAny_newObj_type (wpAny_pure ⟨plainId_quiet PySem.F.plain_list_iadd _,codeAny_builtin entry_list_iadd' ?_⟩)); rw[Around.under_plainId PySem.F.plain_list_iadd _];have gS:(s.heap.push { cls:=.type "list",data:=.seq ([]:List Value).toArray }).get? s.heap.objs.size=some { cls:=.type "list",data:=.seq #[] }:=Heap.get?_push_size _ rfl;show wpAny _ A.in1 (Builtin.List.listExtendWith (.ref s.heap.objs.size) (.ref a) (.ref s.heap.objs.size)) _ _ _;have x1:B1 prog w (D9 w) (s.heap.push { cls:=.type "list",data:=.seq ([]:List Value).toArray }) a ks:=x.keep λo e=>Heap.get?_push_of_some _ e
 have ls:s.heap.objs.size<(s.heap.push { cls:=.type "list",data:=.seq ([]:List Value).toArray }).objs.size:=by rw[Heap.size_push]; exact Nat.lt_succ_self _
 have go:=Wo (A:=A) (s:={ s with heap:=s.heap.push { cls:=.type "list",data:=.seq ([]:List Value).toArray } }) (a:=a) (S:=s.heap.objs.size) (n:=ks.length) (Good:=JE ks) (res:=.ref s.heap.objs.size) (c₀:=0)
  (R:=λ(q:Result) (s':Shared)=>∃(h':Heap) (tk:Nat) (d':Drawn) (acc:Array Value) (c:Nat),q=.ok (.ret (.ref s.heap.objs.size))/\s'={ s with heap:=h',toks:=tk,drawn:=d' }/\(∀b o,s.heap.get? b=some o->h'.get? b=some o)/\h'.get? s.heap.objs.size=some { cls:=.type "list",dict:=none,data:=.seq acc c,slots:=#[] }/\JE ks acc.toList)
  (B1.type (s:={ s with heap:=s.heap.push { cls:=.type "list",data:=.seq ([]:List Value).toArray } }) x1) (Nat.ne_of_gt la) gS hn (λE'=>UX (A:=A.in1) (s:={ s with heap:=s.heap.push { cls:=.type "list",data:=.seq ([]:List Value).toArray } }) hh x1 ls (Nat.ne_of_gt la))
  (λh' tk d' acc c k1 k2 k3=>⟨h',tk,d',acc,c,rfl,rfl,λb o e=>k1 b o (Nat.ne_of_lt (Heap.lt_size e)) (Heap.get?_push_of_some _ e),k2,k3⟩)
 refine wpAny_mono go (λfin s' y=>?_) λe s' y=>?_
 ·cases fin with
  | done f =>
   obtain⟨h',tk,d',acc,c,e,rfl,k1,k2,k3⟩:=y;cases e;show wpAny _ A (load s.heap.objs.size >>= _) _ _ _;exact wpAny_bind (wpAny_load k2 (wpAny_pure (h h' tk d' acc.toList k1 (Heap.lt_size k2) k3)))
  | again c₁ =>
   refine⟨y.1,codeAny_mono y.2 λq s₂ y=>?_⟩;obtain⟨h',tk,d',acc,c,rfl,rfl,k1,k2,k3⟩:=y;show wpAny _ A (load s.heap.objs.size >>= _) _ _ _;exact wpAny_bind (wpAny_load k2 (wpAny_pure (h h' tk d' acc.toList k1 (Heap.lt_size k2) k3)))
 ·obtain⟨_,_,_,_,_,e',_⟩:=y;cases e'
theorem Tr {ks:List Int} {Q:Value->Shared->Prop} (hh:A.handled=none) (x:B1 prog w (D9 w) s.heap a ks) (h64:ks.length<64)
  (h:∀(D:Addr) (h':Heap) (tk:Nat) (d':Drawn) (out:Array Value) (e:Nat) (ms:List Int),(∀b o,s.heap.get? b=some o->h'.get? b=some o)->s.heap.objs.size<=D->h'.get? D=some (seqObj "list" out e)->IntsAre out.toList ms->ms.Perm ks->ms.Pairwise (·<=·)->Q (.ref D) { s with heap:=h',toks:=tk,drawn:=d' }) :
  wpAny (model prog w) A (call (.builtin "sorted") [.ref a]) Q E s:=by
 refine Calls.call_function_entry kind_sorted plain_sorted entry_sorted (args_sorted1 _) ?_; unfold Builtin.«sorted»;refine wpAny_bind (m:=checkCount "sorted" 1 1 _) (wpAny_pure (wpAny_bind (S8 (A:=A.in1) hh x (by rw[sizeLine_eq]; omega) λh1 tk d1 vs k1 lh gd=>?_)));obtain⟨ns,hI,hP⟩:=gd;have lv:vs.length<64:=by rw[hI.length,hP.length_eq]; exact h64
 refine wpAny_bind (wpAny_newList ?_ (by rw[sizeLine_eq]; omega));have hL:(h1.push (seqObj "list" vs.toArray 0)).get? h1.objs.size=some (seqObj "list" vs.toArray 0):=Heap.get?_push_size _ rfl;refine wpAny_bind (wpAny_holding (wpAny_call_entry slot_list_sort ⟨_,hL,rfl⟩ entry_list_sort (list_sort_tree hL hI lv λout ns' a1 a2 a3=>⟨_,rfl,wpAny_pure ⟨_,rfl,?_⟩⟩) (args_list_sort _)));obtain⟨e,he⟩:=sortedHeap_at (out:=out) hL;refine h _ _ _ d1 out e ns' (λb o eb=>?_) (Nat.le_of_lt lh) he a1 (a2.trans hP) a3;have g1:=k1 b o eb;rw[sortedHeap_old (Nat.ne_of_lt (Heap.lt_size g1)) (by rw[Heap.size_push]; exact Nat.lt_succ_of_lt (Heap.lt_size g1))];exact Heap.get?_push_of_some _ g1
end
section
variable {X:Cx}
theorem U0{pins:List (Addr×Obj)}{σ:St}{H:Hp}{s:Shared}(I:AL X pins σ H s)(d:Drawn):AL X pins σ H { s with drawn:=d }:=⟨I.ok,I.os,I.bare,I.base,I.Cr,I.cell,I.free,I.Dj,I.Co,I.hok,I.len⟩
def Fv(P:Program)(w:World)(a:Addr)(ks:List Int):HO:=.ext λh=>B1 P w (D9 w) h a ks
theorem XO{P:Program}{w:World}{H:Hp}{h:Heap}{a:Addr}{ks:List Int}(x:B1 P w (D9 w) h a ks):Bf P w H h a (Fv P w a ks) :=
 ⟨x,let ⟨o,_,_,_,ho,_⟩:=x; ⟨o,ho⟩,λ_ _ y k=>y.keep λo e=>k o e⟩
theorem Uq(hc:X.By=true):Cu X (.type "set") (λxs H Q=>∃(p:Addr) (ns:List Int),xs=[.ref p]/\AR X.K H p (ns.map V.int)/\ns.length<=1000/\∀a,H a=none->Q (.ref a) (AJ H a (Fv X.prog X.w a (Bj ns)))):=by
 intro pins s σ H xs us Q I r h;obtain⟨p,ns,rfl,hp,hl,q⟩:=h;obtain⟨u,rfl,r1⟩:=Ef r;cases r1;obtain⟨its,rv,pl,_⟩:=I.list hp;have hlen:its.length=ns.length:=by rw[<-rv.length,List.length_map]
 refine Uh (I.ok.hd hc) pl.isList (ns:=ns) (by simpa using Ld rv) (by rw[List.size_toArray,hlen]; unfold scanBound; omega) λh' tk x k=>?_
 have hn:H s.heap.objs.size=none:=I.hok.fresh (Nat.le_refl _);exact⟨.ref s.heap.objs.size,_,I.laid (t':=tk) (λb u e=>k b u e) (Nat.le_refl _) (XO x),rfl,q _ hn⟩
theorem Th(hc:X.By=true):Cu X (.builtin "sorted") (λxs H Q=>∃(a:Addr) (ks:List Int),xs=[.ref a]/\H a=some (Fv X.prog X.w a ks)/\ks.length<64/\∀(l:Addr) (ms:List Int),H l=none->ms.Perm ks->ms.Pairwise (·<=·)->Q (.ref l) (AJ H l (.AN (ms.map V.int)))):=by
 intro pins s σ H xs us Q I r h;obtain⟨a,ks,rfl,ha,h64,q⟩:=h;obtain⟨u,rfl,r1⟩:=Ef r;cases r1;have x:B1 X.prog X.w (D9 X.w) s.heap a ks:=(I.hok a _ ha).1;refine Tr (I.ok.hd hc) x h64 λD h' tk d' out e ms k hD he a1 a2 a3=>?_
 have hz:(ms.map V.int).length<=sizeLine:=by rw[List.length_map,a2.length_eq,sizeLine_eq]; omega
 have hn:H D=none:=I.hok.fresh hD;exact⟨.ref D,_,U0 (I.laid (t':=tk) (λb u e=>k b u e) hD (show Bf X.prog X.w _ _ _ (.AN (ms.map V.int)) from ⟨hz,out.toList,e,Ws a1,he⟩)) d',rfl,q _ ms hn a2 a3⟩
end
section
variable {prog:Program} {w:World} {A:Around} {E:Value->Shared->Prop} {s:Shared}
theorem VU{a:Addr}{n:Nat}{P:PySem.Fin->Shared->Prop}{vs:List Value}(ho:s.heap.get? a=some (seqObj "list" vs.toArray n))(hl:vs.length<2)(h:P (.done (.ret .none)) { s with heap:=sortedHeap s.heap a vs vs.toArray }):
  wpAny (model prog w) A (Builtin.«list.sort» ⟨[.ref a],[]⟩) P E s:=by
 rw[list_sort_plain];have ha:a<s.heap.objs.size:=Heap.lt_size ho;refine wpAny_bind (listItems_at ho rfl ?_);refine wpAny_bind (listUpdate_at ho rfl ?_ (by rw[sizeLine_eq,List.size_toArray]; omega) (Nat.zero_le _));obtain⟨e1,ho1⟩:∃e1,(s.heap.update a (Obj.mapSeq λ_=>#[])).get? a=some (seqObj "list" #[] e1):=⟨_,get?_update_seq ho (λ_=>#[])⟩;refine wpAny_bind (seqEpoch_at ho1 rfl ?_);refine wpAny_bind (wpAny_newTuple ?_ (by rw[sizeLine_eq]; simp; omega));refine wpAny_bind (wpAny_newList ?_ (Nat.zero_le _));refine wpAny_holding ?_;have ho6:(((s.heap.update a (Obj.mapSeq λ_=>#[])).push (seqObj "tuple" vs.toArray 0)).push (seqObj "list" #[] 0)).get? a=some (seqObj "list" #[] e1):=Heap.get?_push_of_some _ (Heap.get?_push_of_some _ ho1);show wpAny (model prog w) A _ P E { s with heap:=((s.heap.update a (Obj.mapSeq λ_=>#[])).push (seqObj "tuple" vs.toArray 0)).push (seqObj "list" #[] 0) };dsimp only;have h2:vs.toArray.size<2:=by simpa using hl
 rw[if_pos h2,if_pos h2];refine wpAny_bind (wpAny_pure ?_);rw[StateT.run_pure];refine wpAny_bind (wpAny_pure ?_);dsimp only;have em:(arrOf (SortSt.mk' general' (vs.toArray.zip vs.toArray) #[] 7 none)).map (·.2)=vs.toArray:=by
  show(vs.toArray.zip vs.toArray).map (·.2)=vs.toArray
  match vs,hl with
  | [],_=>simp
  | [v],_=>simp
 rw[em];refine wpAny_bind (seqEpoch_at ho6 rfl ?_);refine wpAny_bind (listUpdate_at ho6 rfl ?_ (Nat.zero_le _) (by rw[List.size_toArray,sizeLine_eq]; omega));simp only[bne_self_eq_false,Bool.false_eq_true,if_false];exact wpAny_pure h
theorem Ul {l:Addr} {vs:List Value} {Q:Value->Shared->Prop} (hl:s.heap.IsList l vs.toArray) (h64:vs.length<64)
  (h:∀s':Shared,(∀b o,s.heap.get? b=some o->s'.heap.get? b=some o)->s'.heap.objs.size=s.heap.objs.size+2->s'.heap.get? (s.heap.objs.size+1)=some (seqObj "list" vs.toArray 0)->s'={ s with heap:=s'.heap } →
   wpAny (model prog w) A.in1.in1 (Builtin.«list.sort» ⟨[.ref (s.heap.objs.size+1)],[]⟩) (λf s''=>f=.done (.ret .none)/\Q (.ref (s.heap.objs.size+1)) s'') E s'):wpAny (model prog w) A (call (.builtin "sorted") [.ref l]) Q E s:=by
 refine Calls.call_function_entry kind_sorted plain_sorted entry_sorted (args_sorted1 _) ?_;unfold Builtin.«sorted»;refine wpAny_bind (m:=checkCount "sorted" 1 1 _) (wpAny_pure ?_);refine wpAny_bind (collect_list hl ?_ (by rw[sizeLine_eq]; omega));refine wpAny_bind (wpAny_newList ?_ (by rw[sizeLine_eq]; omega));have sz:((s.heap.push (seqObj "list" #[] 0)).update s.heap.objs.size (Obj.mapSeq (·++vs.toArray))).objs.size=s.heap.objs.size+1:=by rw[Heap.size_update,size_push']
 have hL:(((s.heap.push (seqObj "list" #[] 0)).update s.heap.objs.size (Obj.mapSeq (·++vs.toArray))).push (seqObj "list" vs.toArray 0)).get? (s.heap.objs.size+1)=some (seqObj "list" vs.toArray 0):=by rw[<-sz]; exact Heap.get?_push_size _ rfl
 show wpAny _ _ _ _ _ { s with heap:=((s.heap.push (seqObj "list" #[] 0)).update s.heap.objs.size (Obj.mapSeq (·++vs.toArray))).push (seqObj "list" vs.toArray 0) };rw[sz];have keep:∀b o,s.heap.get? b=some o->(((s.heap.push (seqObj "list" #[] 0)).update s.heap.objs.size (Obj.mapSeq (·++vs.toArray))).push (seqObj "list" vs.toArray 0)).get? b=some o:=λb o q=>by
  have hlt:b<s.heap.objs.size:=Heap.lt_size q;rw[Heap.get?_push_ne _ _ _ (by rw[sz]; exact Nat.ne_of_lt (Nat.lt_succ_of_lt hlt)),Heap.get?_update_ne _ _ _ _ (Nat.ne_of_lt hlt),Heap.get?_push_ne _ _ _ (Nat.ne_of_lt hlt)];exact q
 refine wpAny_bind (wpAny_holding (wpAny_call_entry slot_list_sort ⟨_,hL,rfl⟩ entry_list_sort (wpAny_mono (h _ keep (by rw[size_push',sz]) hL rfl) ?_ λ_ _ e=>e) (args_list_sort _)));rintro f s'' ⟨rfl,hq⟩;exact⟨_,rfl,wpAny_pure ⟨_,rfl,hq⟩⟩
theorem sortedHeap_old{h:Heap}{a:Addr}{vs:List Value}{out:Array Value}{b:Addr}{o:Obj}(hb:b≠a)(e:h.get? b=some o):(sortedHeap h a vs out).get? b=some o:=by
 unfold sortedHeap;rw[Heap.get?_update_ne _ _ _ _ hb];refine Heap.get?_push_of_some _ (Heap.get?_push_of_some _ ?_);rw[Heap.get?_update_ne _ _ _ _ hb]; exact e
theorem sortedHeap_at{h:Heap}{a:Addr}{vs:List Value}{out:Array Value}{n:Nat}(ho:h.get? a=some (seqObj "list" vs.toArray n)):∃e,(sortedHeap h a vs out).get? a=some (seqObj "list" out e):=by
 obtain⟨e1,ho1⟩:∃e1,(h.update a (Obj.mapSeq λ_=>#[])).get? a=some (seqObj "list" #[] e1):=⟨_,get?_update_seq ho (λ_=>#[])⟩;exact⟨_,get?_update_seq (Heap.get?_push_of_some _ (Heap.get?_push_of_some _ ho1)) (λ_=>out)⟩
end
section
variable {X:Cx}
theorem Ow:∀{bs:List Addr} {us:List Value},Af (bs.map V.ref) us->us=bs.map Value.ref
 | [],_,.nil=>rfl
 | b :: r,_,.cons (b:=u) h t=>by
  have h':u=Value.ref b:=h;rw[h',Ow t];rfl
theorem OS:∀(bs:List Addr),Af (bs.map V.ref) (bs.map Value.ref)
 | []=>.nil
 | b :: r=>.cons rfl (OS r)
end
structure HR(n:Nat)(lt:Nat->Nat->Bool):Prop where
 aZ:∀i j,lt i j=true->lt j i=false
 trans:∀i j k,lt i j=true->lt j k=true->lt i k=true
 NZ:∀i j,i<n->j<n->i≠j->lt i j=true\/lt j i=true
section
variable {n:Nat} {lt:Nat->Nat->Bool} {cmp:Nat->Nat->(Bool->Shared->Prop)->Shared->Prop} {s:Shared} {p:Array Nat}
structure CA(n:Nat)(p:Array Nat):Prop where
 pm:p.toList.Perm (List.range n)
 sz:p.size=n
 below:∀k,k<n->p.getD k 0<n
 inj:∀i j,i<n->j<n->p.getD i 0=p.getD j 0->i=j
def EW(lt:Nat->Nat->Bool)(p:Array Nat)(m:Nat):Prop:=∀i j,i<j->j<m->lt (p.getD i 0) (p.getD j 0)=true
def Ng(lt:Nat->Nat->Bool)(p:Array Nat)(m:Nat):Prop:=∀i j,i<j->j<m->lt (p.getD j 0) (p.getD i 0)=true
theorem XR{k:Nat}(h:k<p.size):p[k]?=some (p.getD k 0):=by
 rw[Array.getElem?_eq_getElem h]; simp[h]
theorem Fg{q:Array Nat}{k j:Nat}(hj:j<p.size)(e:q[k]?=p[j]?):q.getD k 0=p.getD j 0:=by
 rw[XR hj] at e;simp only[Array.getD_eq_getD_getElem?,e];rfl
theorem Nm{q:Array Nat}(g:CA n p)(hq:q.Perm p)(hs:q.size=p.size)(f:Nat->Nat)(ff:∀k,k<n->f k<n)(fi:∀i j,i<n->j<n->f i=f j->i=j)(e:∀k,k<n->q.getD k 0=p.getD (f k) 0):CA n q :=
 ⟨(Array.perm_iff_toList_perm.mp hq).trans g.pm,by rw[hs,g.sz],λk hk=>by rw[e k hk]; exact g.below _ (ff k hk),λi j hi hj h=>by
  rw[e i hi,e j hj] at h;exact fi i j hi hj (g.inj _ _ (ff i hi) (ff j hj) h)⟩
theorem MJ(g:CA n p){m:Nat}(hm:m<=n){k:Nat}(hk:k<n):(kas_rev p 0 m).getD k 0=p.getD (if k<m then m-1-k else k) 0:=by
 have e:=getElem?_mirror_all (xs:=p) (i:=0) (j:=m) (by rw[g.sz]; exact hm) k;unfold kas_rev;split
 ·rename_i h
  rw[if_pos ⟨Nat.zero_le _,h⟩,Nat.zero_add] at e;exact Fg (by rw[g.sz]; omega) e
 ·rename_i h
  rw[if_neg (λz=>h z.2)] at e;exact Fg (by rw[g.sz]; omega) e
theorem Vi(g:CA n p){m:Nat}(hm:m<=n):CA n (kas_rev p 0 m) :=
 Nm g (mirror_perm _ _ _ _) (mirror_size _ _ _ _) (λk=>if k<m then m-1-k else k) (λk hk=>by (try dsimp only); split <;> omega) (λi j hi hj h=>by
  try dsimp only at h
  split at h <;> split at h <;> omega) λk hk=>MJ g hm hk
theorem Xi(g:CA n p){m:Nat}(hm:m<=n)(d:Ng lt p m):EW lt (kas_rev p 0 m) m:=λi j hij hj=>by
 rw[MJ g hm (by omega),MJ g hm (by omega),if_pos (by omega),if_pos hj];exact d _ _ (by omega) (by omega)
theorem ML(g:CA n p){k l:Nat}(hk:k<n)(hl:l<=k){i:Nat}(hi:i<n):(bubble p k (k-l)).getD i 0=p.getD (if i=l then k else if l<i/\i<=k then i-1 else i) 0:=by
 have e:=getElem?_bubble (xs:=p) (src:=k) (by rw[g.sz]; exact hk) (k-l) (by omega) i;rw[show k-(k-l)=l by omega] at e;split
 ·rename_i h
  rw[if_pos h] at e;exact Fg (by rw[g.sz]; omega) e
 ·rename_i h
  rw[if_neg h] at e;split
  ·rename_i h2
   rw[if_pos h2] at e;exact Fg (by rw[g.sz]; omega) e
  ·rename_i h2
   rw[if_neg h2] at e;exact Fg (by rw[g.sz]; omega) e
theorem V7(g:CA n p){k l:Nat}(hk:k<n)(hl:l<=k):CA n (bubble p k (k-l)) :=
 Nm g (bubble_perm _ _ _) (bubble_size _ _ _) (λi=>if i=l then k else if l<i/\i<=k then i-1 else i) (λi hi=>by (try dsimp only); split <;> (try split) <;> omega) (λi j hi hj h=>by
  try dsimp only at h
  split at h <;> split at h <;> (try split at h) <;> (try split at h) <;> omega) λi hi=>ML g hk hl hi
theorem MP(hc:∀i j C,i<n->j<n->C (lt i j) s->cmp i j C s)(g:CA n p)(L:HR n lt):∀(f a:Nat) {Q:Nat->Shared->Prop},1<=a->a+f<=n->EW lt p a →
  (∀m,a<=m->m<=a+f->EW lt p m->(m=a+f\/lt (p.getD m 0) (p.getD (m-1) 0)=true)->Q m s)->(kas_asc p f a).kasWp cmp Q s
 | 0,a,Q,_,_,u,q=>q a (Nat.le_refl _) (Nat.le_refl _) u (.inl rfl)
 | f+1,a,Q,a1,af,u,q=>by
  show cmp _ _ _ s;refine hc _ _ _ (g.below _ (by omega)) (g.below _ (by omega)) ?_;cases e:lt (p.getD a 0) (p.getD (a-1) 0) with
  | true=>exact q a (Nat.le_refl _) (by omega) u (.inr e)
  | false =>
   refine MP hc g L f (a+1) (by omega) (by omega) (λi j hij hj=>?_) (λm h1 h2 h3 h4=>q m (by omega) (by omega) h3 (by rcases h4 with z | z; exact .inl (by omega); exact .inr z));have st:lt (p.getD (a-1) 0) (p.getD a 0)=true:=by
    rcases L.NZ _ _ (g.below a (by omega)) (g.below (a-1) (by omega)) (λz=>by have:=g.inj _ _ (by omega) (by omega) z; omega) with z | z
    ·rw[z] at e; cases e
    ·exact z
   rcases Nat.lt_or_ge j a with z | z
   ·exact u i j hij z
   ·obtain rfl:j=a:=by omega
    rcases Nat.lt_or_ge i (j-1) with y | y
    ·exact L.trans _ _ _ (u i (j-1) y (by omega)) st
    ·obtain rfl:i=j-1:=by omega
     exact st
theorem Pw(hc:∀i j C,i<n->j<n->C (lt i j) s->cmp i j C s)(g:CA n p)(L:HR n lt):∀(f a:Nat) {Q:Array Nat×Nat×Nat->Shared->Prop},1<=a->a+f<=n->Ng lt p a →
  (∀m,a<=m->m<=a+f->Ng lt p m->Q (p,m,0) s)->(kas_desc f p a 0).kasWp cmp Q s
 | 0,a,Q,_,_,u,q=>q a (Nat.le_refl _) (Nat.le_refl _) u
 | f+1,a,Q,a1,af,u,q=>by
  show cmp _ _ _ s;refine hc _ _ _ (g.below _ (by omega)) (g.below _ (by omega)) ?_;cases e:lt (p.getD a 0) (p.getD (a-1) 0) with
  | true =>
   show(kas_desc f p (a+1) 0).kasWp cmp Q s;refine Pw hc g L f (a+1) (by omega) (by omega) (λi j hij hj=>?_) (λm h1 h2 h3=>q m (by omega) (by omega) h3);rcases Nat.lt_or_ge j a with z | z
   ·exact u i j hij z
   ·obtain rfl:j=a:=by omega
    rcases Nat.lt_or_ge i (j-1) with y | y
    ·exact L.trans _ _ _ e (u i (j-1) y (by omega))
    ·obtain rfl:i=j-1:=by omega
     exact e
  | false =>
   have st:lt (p.getD (a-1) 0) (p.getD a 0)=true:=by
    rcases L.NZ _ _ (g.below a (by omega)) (g.below (a-1) (by omega)) (λz=>by have:=g.inj _ _ (by omega) (by omega) z; omega) with z | z
    ·rw[z] at e; cases e
    ·exact z
   show cmp _ _ _ s;refine hc _ _ _ (g.below _ (by omega)) (g.below _ (by omega)) ?_;rw[st];exact q a (Nat.le_refl _) (by omega) u
theorem WC(hc:∀i j C,i<n->j<n->C (lt i j) s->cmp i j C s)(g:CA n p)(L:HR n lt)(h2:2<=n){Q:Nat×Array Nat->Shared->Prop}(q:∀m p',1<=m->m<=n->CA n p'->EW lt p' m->Q (m,p') s):(kas_count n p).kasWp cmp Q s:=by
 unfold kas_count;rw[KasT.kasWp_bind];refine MP hc g L (n-1) 1 (Nat.le_refl _) (by omega) (λi j h1 h2=>by omega) λm m1 mn u st=>?_
 try dsimp only
 by_cases e:m=n
 ·rw[if_pos (by rw[e]; exact beq_self_eq_true n)];exact q m p m1 (by omega) g u
 rw[if_neg (by intro z; exact e (by simpa using z))];by_cases e1:m > 1
 ·rw[if_pos e1];show cmp _ _ _ s;refine hc _ _ _ (g.below _ (by omega)) (g.below _ (by omega)) ?_;rw[u 0 (m-1) (by omega) (by omega)];exact q m p m1 (by omega) g u
 rw[if_neg e1];obtain rfl:m=1:=by omega
 have fall:lt (p.getD 1 0) (p.getD 0 0)=true:=by
  rcases st with z | z
  ·omega
  ·exact z
 unfold kas_descPart;rw[KasT.kasWp_bind];refine Pw hc g L (n-(1+1)) (1+1) (by omega) (by omega) (λi j h1 h2=>?_) λm m1 mn d=>?_
 ·obtain rfl:j=1:=by omega
  obtain rfl:i=0:=by omega
  exact fall
 try dsimp only
 rw[if_neg (Nat.lt_irrefl 0)];unfold kas_tail3;rw[KasT.kasWp_bind];have gr:=Vi g (m:=m) (by omega);refine MP hc gr L (n-m) m (by omega) (by omega) (Xi g (by omega) d) λm' h1 h2 u' _=>?_
 exact q m' _ (by omega) (by omega) gr u'
theorem Ll(hc:∀i j C,i<n->j<n->C (lt i j) s->cmp i j C s)(g:CA n p)(L:HR n lt){k:Nat}(hk:k<n)(u:EW lt p k):∀(f l r:Nat) {Q:Nat->Shared->Prop},l<=r->r<=k->r-l<=f->(∀i,i<l->lt (p.getD i 0) (p.getD k 0)=true)->(∀i,r<=i->i<k->lt (p.getD k 0) (p.getD i 0)=true) →
  (∀m,m<=k->(∀i,i<m->lt (p.getD i 0) (p.getD k 0)=true)->(∀i,m<=i->i<k->lt (p.getD k 0) (p.getD i 0)=true)->Q m s)->(kas_place p k f l r).kasWp cmp Q s
 | 0,l,r,Q,lr,rk,hf,a,b,q=>by
  obtain rfl:l=r:=by omega
  exact q l rk a b
 | f+1,l,r,Q,lr,rk,hf,a,b,q=>by
  unfold kas_place;by_cases h:l ≥ r
  ·rw[if_pos h];obtain rfl:l=r:=by omega
   exact q l rk a b
  rw[if_neg h];show cmp _ _ _ s;refine hc _ _ _ (g.below _ (by omega)) (g.below _ (by omega)) ?_;cases e:lt (p.getD k 0) (p.getD ((l+r) / 2) 0) with
  | true =>
   refine Ll hc g L hk u f l ((l+r) / 2) (by omega) (by omega) (by omega) a (λi h1 h2=>?_) q;rcases Nat.lt_or_ge ((l+r) / 2) i with z | z
   ·exact L.trans _ _ _ e (u _ _ z h2)
   ·obtain rfl:i=(l+r) / 2:=by omega
    exact e
  | false =>
   have st:lt (p.getD ((l+r) / 2) 0) (p.getD k 0)=true:=by
    rcases L.NZ _ _ (g.below k hk) (g.below ((l+r) / 2) (by omega)) (λz=>by have:=g.inj _ _ hk (by omega) z; omega) with z | z
    ·rw[z] at e; cases e
    ·exact z
   refine Ll hc g L hk u f ((l+r) / 2+1) r (by omega) rk (by omega) (λi hi=>?_) b q;rcases Nat.lt_or_ge i ((l+r) / 2) with z | z
   ·exact L.trans _ _ _ (u _ _ z (by omega)) st
   ·obtain rfl:i=(l+r) / 2:=by omega
    exact st
theorem QS(hc:∀i j C,i<n->j<n->C (lt i j) s->cmp i j C s)(L:HR n lt):∀(f k:Nat) (p:Array Nat) {Q:Array Nat->Shared->Prop},CA n p->k+f=n->EW lt p k->(∀p',CA n p'->EW lt p' n->Q p' s)->(kas_bin f p k).kasWp cmp Q s
 | 0,k,p,Q,g,e,u,q=>by
  obtain rfl:k=n:=by omega
  exact q p g u
 | f+1,k,p,Q,g,e,u,q=>by
  unfold kas_bin;rw[KasT.kasWp_bind];refine Ll hc g L (show k<n by omega) u k 0 k (Nat.zero_le _) (Nat.le_refl _) (by omega) (λi hi=>by omega) (λi h1 h2=>by omega) λl lk ha hb=>?_
  refine QS hc L f (k+1) _ (V7 g (by omega) lk) (by omega) (λi j hij hj=>?_) q;rw[ML g (by omega) lk (by omega),ML g (by omega) lk (by omega)];by_cases ei:i=l
  ·rw[if_pos ei,if_neg (by omega),if_pos (by omega)];exact hb _ (by omega) (by omega)
  ·rw[if_neg ei];by_cases ej:j=l
   ·rw[if_neg (by omega),if_pos ej];exact ha _ (by omega)
   ·rw[if_neg ej];by_cases z1:l<i/\i<=k
    ·rw[if_pos z1,if_pos (by omega)];exact u _ _ (by omega) (by omega)
    ·rw[if_neg z1];by_cases z2:l<j/\j<=k
     ·rw[if_pos z2];exact u _ _ (by omega) (by omega)
     ·rw[if_neg z2];exact u _ _ hij (by omega)
theorem Wi(hc:∀i j C,i<n->j<n->C (lt i j) s->cmp i j C s)(L:HR n lt)(h2:2<=n){Q:Array Nat->Shared->Prop}(q:∀p,CA n p->EW lt p n->Q p s):(kas_sort n).kasWp cmp Q s:=by
 unfold kas_sort;rw[KasT.kasWp_bind];have g0:CA n (List.toArray (List.range n)):=by
  have e:∀k,k<n->(List.toArray (List.range n)).getD k 0=k:=λk hk=>by
   simp[Array.getD_eq_getD_getElem?,hk]
  exact⟨List.Perm.refl _,by simp,λk hk=>by rw[e k hk]; exact hk,λi j hi hj z=>by rwa [e i hi,e j hj] at z⟩
 refine WC hc g0 L h2 λm p' m1 mn g u=>?_
 try dsimp only
 by_cases h:m<n
 ·rw[if_pos h,show max m 1=m by omega];exact QS hc L (n-m) m p' g (by omega) u q
 ·rw[if_neg h];obtain rfl:m=n:=by omega
  exact q p' g u
def Bq:List Int->List Int->Bool
 | [],[]=>false
 | [],_ :: _=>true
 | _ :: _,[]=>false
 | x :: xs,y :: ys=>if x=y then Bq xs ys else decide (x<y)
theorem OB:∀{a b:List Int},Bq a b=true->Bq b a=false
 | [],[],h=>by cases h
 | [],_ :: _,_=>rfl
 | _ :: _,[],h=>by cases h
 | x :: xs,y :: ys,h=>by
  unfold Bq at h ⊢;by_cases e:x=y
  ·rw[if_pos e] at h; rw[if_pos e.symm]; exact OB h
  ·rw[if_neg e] at h; rw[if_neg (λz=>e z.symm)]
   have:=decide_eq_true_iff.mp h
   exact decide_eq_false (by omega)
theorem Nx:∀{a b c:List Int},Bq a b=true->Bq b c=true->Bq a c=true
 | [],[],_,h,_=>by cases h
 | [],_ :: _,[],_,h=>by cases h
 | [],_ :: _,_ :: _,_,_=>rfl
 | _ :: _,[],_,h,_=>by cases h
 | _ :: _,_ :: _,[],_,h=>by cases h
 | x :: xs,y :: ys,z :: zs,h,g=>by
  unfold Bq at h g ⊢;by_cases e:x=y
  ·rw[if_pos e] at h;by_cases e2:y=z
   ·rw[if_pos e2] at g; rw[if_pos (e.trans e2)]; exact Nx h g
   ·rw[if_neg e2] at g; rw[if_neg (λq=>e2 (e.symm.trans q)),e]; exact g
  ·rw[if_neg e] at h;have h':=decide_eq_true_iff.mp h;by_cases e2:y=z
   ·rw[if_neg (λq=>e (q.trans e2.symm)),<-e2]; exact h
   ·rw[if_neg e2] at g;have g':=decide_eq_true_iff.mp g;rw[if_neg (by omega)]; exact decide_eq_true (by omega)
theorem Of:∀{a b:List Int},a≠b->Bq a b=true\/Bq b a=true
 | [],[],h=>absurd rfl h
 | [],_ :: _,_=>.inl rfl
 | _ :: _,[],_=>.inr rfl
 | x :: xs,y :: ys,h=>by
  unfold Bq;by_cases e:x=y
  ·rw[if_pos e,if_pos e.symm]; exact Of λz=>h (by rw[e,z])
  ·rw[if_neg e,if_neg (λz=>e z.symm)];rcases Int.lt_trichotomy x y with z | z | z
   ·exact .inl (decide_eq_true z)
   ·exact absurd z e
   ·exact .inr (decide_eq_true z)
theorem Yw{rows:List (List Int)}(nd:rows.Nodup):HR rows.length λi j=>Bq (rows.getD i []) (rows.getD j []):=by
 have g:∀i (h:i<rows.length),rows.getD i []=rows[i]:=λi h=>by simp[h]
 refine⟨λi j h=>OB h,λi j k h1 h2=>Nx h1 h2,λi j hi hj ne=>Of ?_⟩;rw[g i hi,g j hj];intro z;exact ne ((List.getElem_inj nd).mp z)
variable {prog:Program} {w:World} {A:Around} {E:Value->Shared->Prop}
theorem Oq{b:Bool}{Q:Bool->Shared->Prop}:∀{xs ys:List Value} {ns ms:List Int} (i:Nat),IntsAre xs ns->IntsAre ys ms->Q (Bq ns ms) s->KatLex prog w A b (decide (xs.length<ys.length)) Q (xs.zip ys) i s
 | [],[],_,_,i,hx,hy,h=>by
  cases hx; cases hy;exact kat_nil h
 | [],_ :: _,_,_,i,hx,hy,h=>by
  cases hx;cases hy with
  | cons=>exact kat_nil h
 | _ :: _,[],_,_,i,hx,hy,h=>by
  cases hy;cases hx with
  | cons=>exact kat_nil h
 | x :: xs,y :: ys,_,_,i,hx,hy,h=>by
  cases hx with
  | @cons m t _ ns' hx' =>
  cases hy with
  | @cons m' t' _ ms' hy' =>
  refine kat_cons (wpAny_eqBool_int ?_);have el:decide ((Value.int m t :: xs).length<(Value.int m' t' :: ys).length)=decide (xs.length<ys.length):=by
   rw[decide_eq_decide]; simp
  rw[el];unfold Bq at h;refine kat_go (λe=>kat_yes (Oq (i+1) hx' hy' ?_)) (λe=>kat_no ?_)
  ·rw[if_pos (by simpa using e)] at h; exact h
  ·rw[if_neg (by simpa using e)] at h;cases e2:(b && i == 0) with
   | true=>exact oneLt_int h
   | false=>exact kat_one _ _ (lt_int h)
def MQ(h:Heap)(bs:List Addr)(rows:List (List Int)):Prop:=bs.length=rows.length/\∀(i:Nat) (b:Addr) (r:List Int),bs[i]?=some b->rows[i]?=some r->r≠[]/\∃xs:List Value,IsTup h b xs.toArray/\IntsAre xs r
theorem MQ.Kc{h:Heap}:∀{bs:List Addr} {rows:List (List Int)},MQ h bs rows->∃fs:List Value,KatTups h (bs.map Value.ref) fs/\fs.length=bs.length/\∀v∈fs,∃i t,v=Value.int i t
 | [],rows,x=>⟨[],.nil,rfl,λv hv=>by cases hv⟩
 | b :: bs,[],x=>by have:=x.1; cases this
 | b :: bs,r :: rows,x=>by
  obtain⟨ne,xs,⟨o,e1,e2,n,e3⟩,hi⟩:=x.2 0 b r rfl rfl;obtain⟨fs,k,l,t⟩:=MQ.Kc (bs:=bs) (rows:=rows) ⟨by have:=x.1; simpa using this,λi b' r' h1 h2=>x.2 (i+1) b' r' (by simpa using h1) (by simpa using h2)⟩;cases hi with
  | nil=>exact absurd rfl ne
  | @cons m tk vs' ns' hr =>
   refine⟨.int m tk :: fs,.cons e1 e2 e3 (by simp) k,by simp[l],λv hv=>?_⟩;rcases List.mem_cons.mp hv with rfl | hv
   ·exact⟨_,_,rfl⟩
   ·exact t v hv
end
structure LC(wd:Int->Str)(S:Int->Prop):Prop where
 inj:∀x y,S x->S y->wd x=wd y->x=y
 lt:∀x y,S x->S y->x≠y->decide ((wd x).cps.toList<(wd y).cps.toList)=decide (x<y)
def KD(wd:Int->Str)(S:Int->Prop)(xs:List Value)(r:List Int):Prop:=∃c t ys rest,xs=Value.str (wd c) t :: ys/\r=c :: rest/\S c/\IntsAre ys rest
section
variable {prog:Program} {w:World} {A:Around} {E:Value->Shared->Prop} {s:Shared} {wd:Int->Str} {S:Int->Prop}
theorem Vk(W:LC wd S){Q:Bool->Shared->Prop}{xs ys:List Value}{ns ms:List Int}(hx:KD wd S xs ns)(hy:KD wd S ys ms)(h:Q (Bq ns ms) s):KatLex prog w A true (decide (xs.length<ys.length)) Q (xs.zip ys) 0 s:=by
 obtain⟨c,t,xs,ns,rfl,rfl,sc,ix⟩:=hx;obtain⟨d,u,ys,ms,rfl,rfl,sd,iy⟩:=hy;refine kat_cons (wpAny_eqBool_str ?_);have el:decide ((Value.str (wd c) t :: xs).length<(Value.str (wd d) u :: ys).length)=decide (xs.length<ys.length):=by
  rw[decide_eq_decide]; simp
 rw[el];unfold Bq at h;refine kat_go (λe=>kat_yes (Oq 1 ix iy ?_)) (λe=>kat_no ?_)
 ·rw[if_pos (W.inj _ _ sc sd (by simpa using e))] at h; exact h
 ·have ne:c≠d:=λz=>by rw[z] at e; simp at e
  rw[if_neg ne,<-W.lt _ _ sc sd ne] at h;exact oneLt_str h
def Ih(wd:Int->Str)(S:Int->Prop)(h:Heap)(bs:List Addr)(rows:List (List Int)):Prop:=bs.length=rows.length/\∀(i:Nat) (b:Addr) (r:List Int),bs[i]?=some b->rows[i]?=some r->∃xs:List Value,IsTup h b xs.toArray/\KD wd S xs r
theorem Ih.Kc{h:Heap}:∀{bs:List Addr} {rows:List (List Int)},Ih wd S h bs rows->∃fs:List Value,KatTups h (bs.map Value.ref) fs/\fs.length=bs.length/\∀v∈fs,∃i t,v=Value.str i t
 | [],rows,x=>⟨[],.nil,rfl,λv hv=>by cases hv⟩
 | b :: bs,[],x=>by have:=x.1; cases this
 | b :: bs,r :: rows,x=>by
  obtain⟨xs,⟨o,e1,e2,n,e3⟩,c,t,ys,rest,rfl,_⟩:=x.2 0 b r rfl rfl;obtain⟨fs,k,l,tt⟩:=Ih.Kc (bs:=bs) (rows:=rows) ⟨by have:=x.1; simpa using this,λi b' r' h1 h2=>x.2 (i+1) b' r' (by simpa using h1) (by simpa using h2)⟩;refine⟨.str (wd c) t :: fs,.cons e1 e2 e3 (by simp) k,by simp[l],λv hv=>?_⟩;rcases List.mem_cons.mp hv with rfl | hv
  ·exact⟨_,_,rfl⟩
  ·exact tt v hv
theorem Tt (W:LC wd S) {a:Addr} {n:Nat} {P:PySem.Fin->Shared->Prop} {bs:List Addr} {rows:List (List Int)} (ho:s.heap.get? a=some (seqObj "list" (bs.map Value.ref).toArray n)) (hR:Ih wd S s.heap bs rows) (na:∀b∈bs,b≠a) (nd:rows.Nodup) (h2:2<=bs.length) (h64:bs.length<64)
  (h:∀p:Array Nat,CA rows.length p->EW (λi j=>Bq (rows.getD i []) (rows.getD j [])) p rows.length->P (.done (.ret .none)) { s with heap:=sortedHeap s.heap a (bs.map Value.ref) (p.toList.map λi=>(bs.map Value.ref).getD i Value.none).toArray }) :
  wpAny (model prog w) A (Builtin.«list.sort» ⟨[.ref a],[]⟩) P E s:=by
 rw[list_sort_plain];have ha:a<s.heap.objs.size:=Heap.lt_size ho;have lb:(bs.map Value.ref).length=bs.length:=List.length_map ..;refine wpAny_bind (listItems_at ho rfl ?_);refine wpAny_bind (listUpdate_at ho rfl ?_ (by rw[sizeLine_eq,List.size_toArray]; omega) (Nat.zero_le _));obtain⟨e1,ho1⟩:∃e1,(s.heap.update a (Obj.mapSeq λ_=>#[])).get? a=some (seqObj "list" #[] e1):=⟨_,get?_update_seq ho (λ_=>#[])⟩;refine wpAny_bind (seqEpoch_at ho1 rfl ?_);refine wpAny_bind (wpAny_newTuple ?_ (by rw[sizeLine_eq]; simp; omega));refine wpAny_bind (wpAny_newList ?_ (Nat.zero_le _));refine wpAny_holding ?_;have keepT:∀{c:Addr} {o:Obj},c≠a->s.heap.get? c=some o->(((s.heap.update a (Obj.mapSeq λ_=>#[])).push (seqObj "tuple" (bs.map Value.ref).toArray 0)).push (seqObj "list" #[] 0)).get? c=some o:=λ{c o} hc e=>by
  refine Heap.get?_push_of_some _ (Heap.get?_push_of_some _ ?_);rw[Heap.get?_update_ne _ _ _ _ hc]; exact e
 have ho6:(((s.heap.update a (Obj.mapSeq λ_=>#[])).push (seqObj "tuple" (bs.map Value.ref).toArray 0)).push (seqObj "list" #[] 0)).get? a=some (seqObj "list" #[] e1):=Heap.get?_push_of_some _ (Heap.get?_push_of_some _ ho1);show wpAny (model prog w) A _ P E { s with heap:=((s.heap.update a (Obj.mapSeq λ_=>#[])).push (seqObj "tuple" (bs.map Value.ref).toArray 0)).push (seqObj "list" #[] 0) };have eS:sortedHeap s.heap a (bs.map Value.ref)=λout=>(((s.heap.update a (Obj.mapSeq λ_=>#[])).push (seqObj "tuple" (bs.map Value.ref).toArray 0)).push (seqObj "list" #[] 0)).update a (Obj.mapSeq λ_=>out):=rfl
 rw[eS] at h;have hR1:Ih wd S (((s.heap.update a (Obj.mapSeq λ_=>#[])).push (seqObj "tuple" (bs.map Value.ref).toArray 0)).push (seqObj "list" #[] 0)) bs rows:=⟨hR.1,λi b r h1 h2=>by
  obtain⟨xs,⟨o,e1,e2⟩,hi⟩:=hR.2 i b r h1 h2;exact⟨xs,⟨o,keepT (na b (List.mem_of_getElem? h1)) e1,e2⟩,hi⟩⟩
 generalize ((s.heap.update a (Obj.mapSeq λ_=>#[])).push (seqObj "tuple" (bs.map Value.ref).toArray 0)).push (seqObj "list" #[] 0)=h1 at ho6 h hR1;dsimp only;have hn2:¬(bs.map Value.ref).toArray.size<2:=by rw[List.size_toArray]; omega
 rw[if_neg hn2,if_neg hn2];obtain⟨fs,kt,lf,tf⟩:=hR1.Kc;refine wpAny_bind (kat_kind (T:=.type "str") kt (by omega) (λv hv=>?_) (by rfl) ?_)
 ·obtain⟨i,t,rfl⟩:=tf v hv;exact .now
 have lr:rows.length=bs.length:=hR.1.symm;refine wpAny_bind (wpAny_mono (kat_run (ks:=bs.map Value.ref) (vs:=bs.map Value.ref) (Q:=λst' s'=>s'={ s with heap:=h1 }/\∃p:Array Nat,CA rows.length p/\EW (λi j=>Bq (rows.getD i []) (rows.getD j [])) p rows.length/\arrOf st'=p.map (kas_item ((bs.map Value.ref).toArray.zip (bs.map Value.ref).toArray))/\failedOf st'=none)
  (G:=λp s'=>s'={ s with heap:=h1 }/\CA rows.length p/\EW (λi j=>Bq (rows.getD i []) (rows.getD j [])) p rows.length)
  rfl (by omega) (by omega) (λp' st' s' a1 a2 a3 a4=>⟨a4.1,p',a4.2.1,a4.2.2,a2,a3⟩) ?_) ?_ λ_ _ e=>e)
 ·rw[lb,<-lr];refine Wi (s:={ s with heap:=h1 }) (lt:=λi j=>Bq (rows.getD i []) (rows.getD j [])) (λi j C hi hj hC=>?_) (Yw nd) (by omega) λp g u=>⟨rfl,g,u⟩
  have gb:∀i,i<rows.length->∃b,bs[i]?=some b/\(bs.map Value.ref).getD i Value.none=Value.ref b:=λi hi=>⟨bs[i]'(by omega),List.getElem?_eq_getElem (by omega),by simp[show i<bs.length by omega]⟩
  obtain⟨bi,ebi,gbi⟩:=gb i hi;obtain⟨bj,ebj,gbj⟩:=gb j hj;obtain⟨xs,⟨ox,x1,x2,nx,x3⟩,hxs⟩:=hR1.2 i bi rows[i] ebi (List.getElem?_eq_getElem hi);obtain⟨ys,⟨oy,y1,y2,ny,y3⟩,hys⟩:=hR1.2 j bj rows[j] ebj (List.getElem?_eq_getElem hj);unfold kas_ask;rw[gbi,gbj];refine kat_lt (s:={ s with heap:=h1 }) x1 x3 y1 y3 ?_
  have:=Vk (prog:=prog) (w:=w) (A:=A) (s:={ s with heap:=h1 }) (Q:=C) W hxs hys (by simpa [hi,hj] using hC)
  rw[show(Value.type "str" != Value.type "tuple")=true by decide];simpa using this
 rintro⟨⟨⟩,st'⟩ s' ⟨rfl,p,hp,hu,har,hf⟩;dsimp only;have hout:=kat_snds (ks:=bs.map Value.ref) (vs:=bs.map Value.ref) rfl har;rw[hout];refine wpAny_bind (seqEpoch_at ho6 rfl ?_);refine wpAny_bind (listUpdate_at ho6 rfl ?_ (Nat.zero_le _) (by rw[List.size_toArray,List.length_map,Array.length_toList,hp.sz,sizeLine_eq]; omega));rw[hf];simp only[bne_self_eq_false,Bool.false_eq_true,if_false];exact wpAny_pure (h p hp hu)
end
theorem UL{α:Type}(l:List α)(d:α):(List.range l.length).map (λi=>l.getD i d)=l:=by
 refine List.ext_getElem (by simp) λi h1 h2=>?_
 simp at h1;simp[h1]
theorem Vc{rows:List (List Int)}(h:rows.length<2):rows.Pairwise (λa b=>Bq a b=true):=by
 match rows,h with
 | [],_=>exact .nil
 | [x],_=>exact List.pairwise_singleton _ _
def Fx(wd:Int->Str)(S:Int->Prop)(H:Hp)(b:Addr)(r:List Int):Prop:=∃c rest,r=c :: rest/\S c/\H b=some (.AG (.str (wd c) :: rest.map V.int))
theorem Hi{wd:Int->Str}{S:Int->Prop}:My.Mo (Fx wd S):=λs ⟨c,rest,e,sc,h⟩=>⟨c,rest,e,sc,s _ _ h⟩
section
variable {X:Cx} {pins:List (Addr×Obj)} {σ:St} {H:Hp} {s:Shared} {wd:Int->Str} {S:Int->Prop}
theorem N9{b:Addr}{r:List Int}(I:AL X pins σ H s)(h:Fx wd S H b r):∃xs:List Value,IsTup s.heap b xs.toArray/\KD wd S xs r:=by
 obtain⟨c,rest,rfl,sc,h⟩:=h;obtain⟨its,rv,tp,_⟩:=I.tuple (AK.of (K:=X.K) h);cases rv with
 | @cons _ u _ us r1 r2 =>
  obtain⟨t,rfl⟩:=(show ∃t,u=Value.str (wd c) t from r1);exact⟨_,tp,c,t,us,rest,rfl,rfl,sc,Ld r2⟩
theorem U8{R:Hp->Addr->List Int->Prop}{H:Hp}{bs:List Addr}{rows:List (List Int)}(hA:My.At R H bs rows){p:Array Nat}(g:CA rows.length p)(u:EW (λi j=>Bq (rows.getD i []) (rows.getD j [])) p rows.length):
  My.At R H (p.toList.map λi=>bs.getD i 0) (p.toList.map λi=>rows.getD i [])/\(p.toList.map λi=>rows.getD i []).Perm rows/\(p.toList.map λi=>rows.getD i []).Pairwise (λa b=>Bq a b=true)/\(p.toList.map λi=>(bs.map Value.ref).getD i Value.none)=(p.toList.map λi=>bs.getD i 0).map Value.ref:=by
 have lr:bs.length=rows.length:=hA.1;have lt:∀i∈p.toList,i<rows.length:=λi hi=>List.mem_range.mp (g.pm.mem_iff.mp hi)
 refine⟨⟨by simp,λi b x e1 e2=>?_⟩,?_,?_,?_⟩
 ·rw[List.getElem?_map] at e1 e2;obtain⟨k,ek,rfl⟩:=Option.map_eq_some_iff.mp e1;rw[ek] at e2;obtain rfl:=Option.some.inj e2;have hk:=lt k (List.mem_of_getElem? ek);refine hA.2 k _ _ ?_ ?_
  ·rw[List.getD_eq_getElem?_getD,List.getElem?_eq_getElem (by omega)]; rfl
  ·show rows[k]?=some (rows.getD k []);rw[List.getD_eq_getElem?_getD,List.getElem?_eq_getElem hk]; rfl
 ·refine(g.pm.map _).trans ?_;rw[UL]
 ·rw[List.pairwise_map,List.pairwise_iff_getElem];intro i j hi hj hij;have sz:p.toList.length=rows.length:=by rw[Array.length_toList,g.sz]
  have:=u i j hij (by omega)
  have e:∀k (hk:k<p.toList.length),p.getD k 0=p.toList[k]:=λk hk=>by
   have hk':k<p.size:=by rwa [Array.length_toList] at hk
   simp[hk']
  dsimp only at this
  rwa [e i hi,e j hj] at this
 ·rw[List.map_map];refine List.map_congr_left λi hi=>?_
  have:=lt i hi
  simp[show i<bs.length by omega]
theorem S7(W:LC wd S):Cu X (.builtin "sorted") (λxs H Q=>∃(p:Addr) (bs:List Addr) (rows:List (List Int)),xs=[.ref p]/\H p=some (.AN (bs.map V.ref))/\My.At (Fx wd S) H bs rows/\rows.Nodup/\rows.length<64 /\
  ∀(l:Addr) (cs:List Addr) (rs:List (List Int)),H l=none->My.At (Fx wd S) H cs rs->rs.Perm rows->rs.Pairwise (λa b=>Bq a b=true)->Q (.ref l) (AJ H l (.AN (cs.map V.ref)))):=by
 intro pins s σ H xs us Q I r h;obtain⟨p,bs,rows,rfl,hp,hA,nd,h64,q⟩:=h;obtain⟨u,rfl,r1⟩:=Ef r;cases r1;obtain⟨its,rv,pl,_⟩:=I.list (AR.of (K:=X.K) hp);obtain rfl:=Ow rv;have lr:bs.length=rows.length:=hA.1;have hn:H (s.heap.objs.size+1)=none:=I.hok.fresh (Nat.le_succ _);refine Ul pl.isList (by rw[List.length_map]; omega) λs' keep hsz hD es=>?_
 have fin:∀(cs:List Addr) (rs:List (List Int)),My.At (Fx wd S) H cs rs->rs.Perm rows->rs.Pairwise (λa b=>Bq a b=true)->EP X pins σ Q (.ref (s.heap.objs.size+1)) { s' with heap:=sortedHeap s'.heap (s.heap.objs.size+1) (bs.map Value.ref) (cs.map Value.ref).toArray }:=λcs rs h1 h2 h3=>by
  obtain⟨e,he⟩:=sortedHeap_at (out:=(cs.map Value.ref).toArray) hD;have lc:cs.length=rows.length:=h1.1.trans h2.length_eq;have hz:(cs.map V.ref).length<=sizeLine:=by rw[List.length_map,sizeLine_eq]; omega
  refine⟨.ref (s.heap.objs.size+1),_,?_,rfl,q _ cs rs hn h1 h2 h3⟩;rw[es];exact I.laid (t':=s.toks) (λb o e=>sortedHeap_old (Nat.ne_of_lt (Nat.lt_succ_of_lt (Heap.lt_size e))) (keep b o e)) (Nat.le_succ _) (show Bf X.prog X.w _ _ _ (.AN (cs.map V.ref)) from ⟨hz,cs.map Value.ref,e,OS cs,he⟩)
 rcases Nat.lt_or_ge rows.length 2 with z | z
 ·exact VU hD (by rw[List.length_map]; omega) ⟨rfl,fin bs rows hA (List.Perm.refl _) (Vc z)⟩
 have low:∀(i:Nat) (b:Addr) (r:List Int),bs[i]?=some b->rows[i]?=some r->b<s.heap.objs.size:=λi b r h1 h2=>by
  obtain⟨ys,⟨o,e1,_⟩,_⟩:=N9 I (hA.2 i b r h1 h2);exact Heap.lt_size e1
 refine Tt W hD ⟨lr,λi b r h1 h2=>?_⟩ (λb hb=>?_) nd (by omega) (by omega) λpp g u=>⟨rfl,?_⟩
 ·obtain⟨ys,⟨o,e1,e2⟩,hi⟩:=N9 I (hA.2 i b r h1 h2);exact⟨ys,⟨o,keep _ _ e1,e2⟩,hi⟩
 ·obtain⟨i,hi,rfl⟩:=List.getElem_of_mem hb;exact Nat.ne_of_lt (Nat.lt_succ_of_lt (low i _ _ (List.getElem?_eq_getElem hi) (List.getElem?_eq_getElem (by omega))))
 ·obtain⟨a1,a2,a3,a4⟩:=U8 hA g u;rw[a4];exact fin _ _ a1 a2 a3
end
end L2
namespace L2
open PySem PySem.Spec PyProof.Rows
def YH(C1 C2:Addr)(m:Str)(sp1 sp2:Sp)(E:XK)(ta:TE)(t:TA):TE:=λσ H Q=>ta σ H λx H1=>∃a dx fs,x=.ref a/\fs.lookup m=none /\
 ((H1 a=some (.A6 C1 dx fs)/\t σ H1 λvs H2=>sp1 (x :: (vs++[])) H2 Q E)\/(H1 a=some (.A6 C2 dx fs)/\t σ H1 λvs H2=>sp2 (x :: (vs++[])) H2 Q E))
section
variable {X:Cx} {CX1 CX2:C6} {i1 i2:Nat} {f1 f2 C1 C2:Addr} {fd1 fd2:FuncData} {ps1 ps2:List Str} {sp1 sp2:Sp} {E:XK} {m:Str} {pos apos:Pos} {e o:PySem.Expr} {es:List PySem.Expr} {ta:TE} {t:TA}
theorem Oe {pl:Sem Bool} (he:PE X o ta) (c1:CO X.K C1) (c2:CO X.K C2) (hm1:BW X.K C1 m f1) (hm2:BW X.K C2 m f2) (F1:AH X.prog X.w X.K X.mg X.base CX1 i1 f1 fd1 ps1 sp1) (F2:AH X.prog X.w X.K X.mg X.base CX2 i2 f2 fd2 ps2 sp2) (hr1:BB i1 X.A) (hr2:BB i2 X.A)
  (hb1:AW X.K fd1 ps1 []) (hb2:AW X.K fd2 ps2 []) (hx1:EM CX1 X E) (hx2:EM CX2 X E) (ha:PA X (e :: es) t)
  (hst:starEach (e :: es) X.env=(false,eval e X.env) :: starEach es X.env:=by rfl) (hpl:(backTo pos (starEach es X.env)).any (·.1)=false:=by rfl)
  (ht:eval (.Call (.Attribute o m apos) (e :: es) [] pos) X.env=(do
   let ov <-eval o X.env
   standAt apos.atName
   let (f,first) <-holding [ov] (getMethod ov m pl)
   callWith pos f first (backTo pos (starEach (e :: es) X.env)) (backToKw pos (keywordEach [] X.env))):=by rfl) :
  PE X (.Call (.Attribute o m apos) (e :: es) [] pos) (YH C1 C2 m sp1 sp2 E ta t):=by
 intro pins s σ H Q I h;refine PySem.W.methodCall_KW (pl:=pl) (AZ (he pins s σ H _ I h) λu s1 ⟨x,H1,I1,rx,a,dx,fs,ex,l,q⟩=>?_) ht;subst ex;obtain rfl:u=Value.ref a:=rx;rcases q with ⟨ea,q⟩ | ⟨ea,q⟩
 ·refine Ez I1 ea c1 hm1 l ?_;refine PySem.W.callWith_K (first:=[.ref a]) (h₀:=X.base) I.ok.BP.DQ hm1.kp (AZ (ha pos pins s1 σ H1 _ I1 q) λus s2 ⟨vs,H2,I2,r,q2⟩=>⟨I2.Be,?_⟩) hst hpl;exact Fo (us:=.ref a :: us) (vs:=.ref a :: vs) F1 hr1 hb1 .nil hx1 I2 (.cons rfl r) q2
 ·refine Ez I1 ea c2 hm2 l ?_;refine PySem.W.callWith_K (first:=[.ref a]) (h₀:=X.base) I.ok.BP.DQ hm2.kp (AZ (ha pos pins s1 σ H1 _ I1 q) λus s2 ⟨vs,H2,I2,r,q2⟩=>⟨I2.Be,?_⟩) hst hpl;exact Fo (us:=.ref a :: us) (vs:=.ref a :: vs) F2 hr2 hb2 .nil hx2 I2 (.cons rfl r) q2
def We(r r' r'':R2)(ta tb tc td:TE):TE:=λσ H Q=>ta σ H λx H1=>tb σ H1 λy H2=>r x y H2 λz H3=>∃k,z=.bl k /\
 (if k=true then tc σ H3 λw' H4=>r' y w' H4 λz' H5=>∃k',z'=.bl k'/\(if k'=true then td σ H5 λv' H6=>r'' w' v' H6 Q else Q (.bl false) H5) else Q (.bl false) H3)
variable {a b c d:PySem.Expr} {tb tc td:TE}
theorem Ji {op op' op'':CmpOp} {r r' r'':R2} (ho:BS X (compareOp op) r) (ho':BS X (compareOp op') r') (ho'':BS X (compareOp op'') r'') (ha:PE X a ta) (hb:PE X b tb) (hc:PE X c tc) (hd:PE X d td)
  (hm:lastMarks [op,op',op''] [b,c,d]=false:=by with_unfolding_all rfl):PT X (.Compare a [op,op',op''] [b,c,d] pos) (Qw (We r r' r'' ta tb tc td)):=by
 intro pins s σ H Q I h;refine isTrue_chain (AZ (ha pins s σ H _ I h) λv s1 ⟨x,H1,I1,r1,q1⟩=>test_link (AZ (hb pins s1 σ H1 _ I1 q1) λu s2 ⟨y,H2,I2,r2,q2⟩ =>
  AZ (ho pins s2 σ H2 x y v u _ I2 r1 r2 q2) λd s3 ⟨z,H3,I3,r3,k,e,q3⟩=>?_)) hm
 subst e;cases r3;refine wpAny_truthy_bool ?_;cases k with
 | false =>
  obtain⟨k',e',q'⟩:=q3;cases e';exact ite_ff ⟨H3,I3,q'⟩
 | true =>
  refine ite_tt (test_link (AZ (hc pins s3 σ H3 _ I3 q3) λw' s4 ⟨z',H4,I4,r4,q4⟩=>AZ (ho' pins s4 σ H4 y z' u w' _ I4 r2 r4 q4) λd' s5 ⟨z2,H5,I5,r5,k2,e2,q5⟩=>?_));subst e2;cases r5;refine wpAny_truthy_bool ?_;cases k2 with
  | false =>
   obtain⟨k',e',q'⟩:=q5;cases e';exact ite_ff ⟨H5,I5,q'⟩
  | true =>
   refine ite_tt (test_last (AZ (hd pins s5 σ H5 _ I5 q5) λw6 s6 ⟨z6,H6,I6,r6,q6⟩=>AZ (ho'' pins s6 σ H6 z' z6 w' w6 _ I6 r4 r6 q6) λd7 s7 ⟨z7,H7,I7,r7,k7,e7,q7⟩=>?_));subst e7;cases r7;exact wpAny_truthy_bool ⟨H7,I7,q7⟩
abbrev SJ(C1 C2 C3:Addr)(m:Str)(sp1 sp2 sp3:Sp)(E:XK)(Q:VK)(t:(List V->Hp->Prop)->Hp->Prop):V->Hp->Prop:=λx H1=>∃a dx fs,x=.ref a/\fs.lookup m=none /\
 ((H1 a=some (.A6 C1 dx fs)/\t (λvs H2=>sp1 (x :: (vs++[])) H2 Q E) H1)\/(H1 a=some (.A6 C2 dx fs)/\t (λvs H2=>sp2 (x :: (vs++[])) H2 Q E) H1)\/(H1 a=some (.A6 C3 dx fs)/\t (λvs H2=>sp3 (x :: (vs++[])) H2 Q E) H1))
def YN(C1 C2 C3:Addr)(m:Str)(sp1 sp2 sp3:Sp)(E:XK)(ta:TE)(t:TA):TE:=λσ H Q=>ta σ H (SJ C1 C2 C3 m sp1 sp2 sp3 E Q λk H1=>t σ H1 k)
def Ww(C1 C2 C3:Addr)(m:Str)(sp1 sp2 sp3:Sp)(ta:TX)(t:TA):TX:=λσ H Q E=>ta σ H (SJ C1 C2 C3 m sp1 sp2 sp3 E Q λk H1=>t σ H1 k) E
variable {CX:C6} {i3:Nat} {f3 C3:Addr} {fd3:FuncData} {ps3:List Str} {sp3:Sp}
theorem Vy {ta:TE} {pl:Sem Bool} (he:PE X o ta) (c1:CO X.K C1) (c2:CO X.K C2) (c3:CO X.K C3) (hm1:BW X.K C1 m f1) (hm2:BW X.K C2 m f2) (hm3:BW X.K C3 m f3) (F1:AH X.prog X.w X.K X.mg X.base CX i1 f1 fd1 ps1 sp1) (F2:AH X.prog X.w X.K X.mg X.base CX i2 f2 fd2 ps2 sp2) (F3:AH X.prog X.w X.K X.mg X.base CX i3 f3 fd3 ps3 sp3) (hr1:BB i1 X.A) (hr2:BB i2 X.A) (hr3:BB i3 X.A)
  (hb1:AW X.K fd1 ps1 []) (hb2:AW X.K fd2 ps2 []) (hb3:AW X.K fd3 ps3 []) (hx:EM CX X E) (ha:PA X (e :: es) t)
  (hst:starEach (e :: es) X.env=(false,eval e X.env) :: starEach es X.env:=by rfl) (hpl:(backTo pos (starEach es X.env)).any (·.1)=false:=by rfl)
  (ht:eval (.Call (.Attribute o m apos) (e :: es) [] pos) X.env=(do
   let ov <-eval o X.env
   standAt apos.atName
   let (f,first) <-holding [ov] (getMethod ov m pl)
   callWith pos f first (backTo pos (starEach (e :: es) X.env)) (backToKw pos (keywordEach [] X.env))):=by rfl) :
  PE X (.Call (.Attribute o m apos) (e :: es) [] pos) (YN C1 C2 C3 m sp1 sp2 sp3 E ta t):=by
 intro pins s σ H Q I h;refine PySem.W.methodCall_KW (pl:=pl) (AZ (he pins s σ H _ I h) λu s1 ⟨x,H1,I1,rx,a,dx,fs,ex,l,q⟩=>?_) ht;subst ex;obtain rfl:u=Value.ref a:=rx;rcases q with ⟨ea,q⟩ | ⟨ea,q⟩ | ⟨ea,q⟩
 ·refine Ez I1 ea c1 hm1 l ?_;refine PySem.W.callWith_K (first:=[.ref a]) (h₀:=X.base) I.ok.BP.DQ hm1.kp (AZ (ha pos pins s1 σ H1 _ I1 q) λus s2 ⟨vs,H2,I2,r,q2⟩=>⟨I2.Be,?_⟩) hst hpl;exact Fo (us:=.ref a :: us) (vs:=.ref a :: vs) F1 hr1 hb1 .nil hx I2 (.cons rfl r) q2
 ·refine Ez I1 ea c2 hm2 l ?_;refine PySem.W.callWith_K (first:=[.ref a]) (h₀:=X.base) I.ok.BP.DQ hm2.kp (AZ (ha pos pins s1 σ H1 _ I1 q) λus s2 ⟨vs,H2,I2,r,q2⟩=>⟨I2.Be,?_⟩) hst hpl;exact Fo (us:=.ref a :: us) (vs:=.ref a :: vs) F2 hr2 hb2 .nil hx I2 (.cons rfl r) q2
 ·refine Ez I1 ea c3 hm3 l ?_;refine PySem.W.callWith_K (first:=[.ref a]) (h₀:=X.base) I.ok.BP.DQ hm3.kp (AZ (ha pos pins s1 σ H1 _ I1 q) λus s2 ⟨vs,H2,I2,r,q2⟩=>⟨I2.Be,?_⟩) hst hpl;exact Fo (us:=.ref a :: us) (vs:=.ref a :: vs) F3 hr3 hb3 .nil hx I2 (.cons rfl r) q2
theorem Ls {i:Nat} {f:Addr} {fd:FuncData} {ps:List Str} {sp:Sp} {pins:List (Addr×Obj)} {σ:L2.St} {H:Hp} {s:Shared} {Q:VK} {us:List Value} {vs:List V} {W:Value->Shared->Prop} (F:AH X.prog X.w X.K X.mg X.base (Ak X.prog X.w) i f fd ps sp) (hr:BB i X.A) (hb:AW X.K fd ps [])
  (I:AL X pins σ H s) (r:Af vs us) (h:sp (vs++[]) H Q E) (hW:∀a cls od H' s',KZ X pins σ a cls od H' s'->E cls od H'->W (.ref a) s'):wpAny (model X.prog X.w) X.A (call (.ref f) us) (EP X pins σ Q) W s:=by
 have r2:Af (vs++[]) (us++[]):=r.Eb .nil;have hl:(us++[]).length=ps.length:=by rw[<-r2.length]; exact F.len _ _ _ _ h
 refine wpAny_call (codeAny_mono (F.GG X.A X.stack s H ⟨us,[]⟩ (us++[]) (vs++[]) Q E hr I.K8 (hb s us I.Be hl) r2 h) λr s' hq=>?_);cases r with
 | error e =>
  obtain⟨a,cls,od,H',e1,hE,c⟩:=PQ I hq;subst e1;exact hW a cls od H' s' c hE
 | ok fl =>
  cases fl with
  | ret u=>exact I.after hq
  | next=>exact False.elim hq
  | brk=>exact False.elim hq
  | cont=>exact False.elim hq
theorem Oo {ta:TX} {pl:Sem Bool} (he:PX X o ta) (c1:CO X.K C1) (c2:CO X.K C2) (c3:CO X.K C3) (hm1:BW X.K C1 m f1) (hm2:BW X.K C2 m f2) (hm3:BW X.K C3 m f3) (F1:AH X.prog X.w X.K X.mg X.base (Ak X.prog X.w) i1 f1 fd1 ps1 sp1) (F2:AH X.prog X.w X.K X.mg X.base (Ak X.prog X.w) i2 f2 fd2 ps2 sp2) (F3:AH X.prog X.w X.K X.mg X.base (Ak X.prog X.w) i3 f3 fd3 ps3 sp3) (hr1:BB i1 X.A) (hr2:BB i2 X.A) (hr3:BB i3 X.A)
  (hb1:AW X.K fd1 ps1 []) (hb2:AW X.K fd2 ps2 []) (hb3:AW X.K fd3 ps3 []) (ha:PA X.EC (e :: es) t)
  (hst:starEach (e :: es) X.env=(false,eval e X.env) :: starEach es X.env:=by rfl) (hpl:(backTo pos (starEach es X.env)).any (·.1)=false:=by rfl)
  (ht:eval (.Call (.Attribute o m apos) (e :: es) [] pos) X.env=(do
   let ov <-eval o X.env
   standAt apos.atName
   let (f,first) <-holding [ov] (getMethod ov m pl)
   callWith pos f first (backTo pos (starEach (e :: es) X.env)) (backToKw pos (keywordEach [] X.env))):=by rfl) :
  PX X (.Call (.Attribute o m apos) (e :: es) [] pos) (Ww C1 C2 C3 m sp1 sp2 sp3 ta t):=by
 intro pins s σ H Q E W I h hW;refine PySem.W.methodCall_KW (pl:=pl) (AZ (he pins s σ H _ E W I h hW) λu s1 ⟨x,H1,I1,rx,a,dx,fs,ex,l,q⟩=>?_) ht;subst ex;obtain rfl:u=Value.ref a:=rx;rcases q with ⟨ea,q⟩ | ⟨ea,q⟩ | ⟨ea,q⟩
 ·refine Ez I1 ea c1 hm1 l ?_;refine PySem.W.callWith_K (first:=[.ref a]) (h₀:=X.base) I.ok.BP.DQ hm1.kp (wpAny_mono (ha pos pins s1 σ H1 _ (I1.Cf _) q) (λus s2 ⟨vs,H2,I2,r,q2⟩=>⟨I2.B8.Be,?_⟩) λ_ _ z=>False.elim z) hst hpl;exact Ls (us:=.ref a :: us) (vs:=.ref a :: vs) F1 hr1 hb1 I2.B8 (.cons rfl r) q2 hW
 ·refine Ez I1 ea c2 hm2 l ?_;refine PySem.W.callWith_K (first:=[.ref a]) (h₀:=X.base) I.ok.BP.DQ hm2.kp (wpAny_mono (ha pos pins s1 σ H1 _ (I1.Cf _) q) (λus s2 ⟨vs,H2,I2,r,q2⟩=>⟨I2.B8.Be,?_⟩) λ_ _ z=>False.elim z) hst hpl;exact Ls (us:=.ref a :: us) (vs:=.ref a :: vs) F2 hr2 hb2 I2.B8 (.cons rfl r) q2 hW
 ·refine Ez I1 ea c3 hm3 l ?_;refine PySem.W.callWith_K (first:=[.ref a]) (h₀:=X.base) I.ok.BP.DQ hm3.kp (wpAny_mono (ha pos pins s1 σ H1 _ (I1.Cf _) q) (λus s2 ⟨vs,H2,I2,r,q2⟩=>⟨I2.B8.Be,?_⟩) λ_ _ z=>False.elim z) hst hpl;exact Ls (us:=.ref a :: us) (vs:=.ref a :: vs) F3 hr3 hb3 I2.B8 (.cons rfl r) q2 hW
end
structure Mi(K:PySem.W.Frag)(C:Addr)(m:Str)(f:Addr):Prop where
 ga:PySem.W.specialIn K (.ref C) "__getattribute__" = some (some (.builtin "type.__getattribute__"))
 rd:PySem.W.readsIn K C (.type "type")=true
 Ja:PySem.W.findCls K (.ref C) (.type "type") m=some (.val (.ref f))
 kp:KP K f
section
variable {X:Cx} {CX:C6} {i:Nat} {f C:Addr} {fd:FuncData} {ps:List Str} {sp:Sp} {E:XK} {m c:Str} {pos apos p:Pos} {e:PySem.Expr} {es:List PySem.Expr} {t:TA}
theorem VC {pl:Sem Bool} (hg:Gl X c) (hc:X.mg c=some (.ref C)) (hm:Mi X.K C m f) (F:AH X.prog X.w X.K X.mg X.base CX i f fd ps sp) (hr:BB i X.A) (hb:AW X.K fd ps []) (hx:EM CX X E) (ha:PA X (e :: es) t)
  (hd:(c == ("__debug__":Str))=false:=by decide)
  (hst:starEach (e :: es) X.env=(false,eval e X.env) :: starEach es X.env:=by rfl) (hpl:(backTo pos (starEach es X.env)).any (·.1)=false:=by rfl)
  (ht:eval (.Call (.Attribute (.Name c p) m apos) (e :: es) [] pos) X.env=(do
   let ov <-eval (.Name c p) X.env
   standAt apos.atName
   let (f,first) <-holding [ov] (getMethod ov m pl)
   callWith pos f first (backTo pos (starEach (e :: es) X.env)) (backToKw pos (keywordEach [] X.env))):=by rfl) :
  PE X (.Call (.Attribute (.Name c p) m apos) (e :: es) [] pos) (DT sp [] E t):=by
 intro pins s σ H Q I h;refine PySem.W.methodCall_KW (pl:=pl) (AZ (L4 (v:=.ref C) hg hc rfl hd pins s σ H (λx H'=>x=.ref C/\H'=H) I ⟨rfl,rfl⟩) λu s1 ⟨x,H1,I1,rx,ex,eh⟩=>?_) ht;subst ex eh;obtain rfl:u=Value.ref C:=rx;refine PySem.W.method_cls I1.Be hm.ga (PySem.W.cls_value I1.Be hm.rd hm.Ja rfl ?_);have I2:=I1.Dc (s1.toks+1);refine PySem.W.callWith_K (first:=[]) (h₀:=X.base) I.ok.BP.DQ hm.kp (AZ (ha pos pins _ σ H1 _ I2 h) λus s2 ⟨vs,H2,I3,r,q2⟩=>⟨I3.Be,?_⟩) hst hpl;exact Fo F hr hb .nil hx I3 r q2
end
end L2
namespace Mth
theorem Oy(a b:Int):Int.gcd b (a.fmod b)=Int.gcd a b:=by
 rw[Int.fmod_def];have e:a-b*a.fdiv b=a+b*(-(a.fdiv b)):=by rw[Int.mul_neg,Int.sub_eq_add_neg]
 rw[e,Int.gcd_add_mul_left_right,Int.gcd_comm]
theorem XG(a b:Int)(h:b≠0):(a.fmod b).natAbs<b.natAbs:=by
 rw[Int.fmod_eq_emod];have h1:=Int.emod_nonneg a h;have h2:=Int.emod_lt a h;split
 ·omega
 ·rename_i z
  have:¬b ∣ a:=λq=>z (Or.inr q)
  have hz:a % b≠0:=λq=>this (Int.dvd_of_emod_eq_zero q)
  omega
def part(t b:Int):Int:=if b<0 then -(Int.gcd t b:Int) else (Int.gcd t b:Int)
def BA(t b:Int):Int×Int:=(t.fdiv (part t b),b.fdiv (part t b))
theorem Jz(t b:Int)(h:b≠0):0<Int.gcd t b:=Int.gcd_pos_of_ne_zero_right _ h
theorem J5(t b:Int)(h:b≠0):part t b≠0:=by
 have:=Jz t b h
 unfold part; split <;> omega
theorem N0(t b:Int):part t b ∣ t:=by
 unfold part; split
 ·exact Int.neg_dvd.mpr (Int.gcd_dvd_left t b)
 ·exact Int.gcd_dvd_left t b
theorem Nw(t b:Int):part t b ∣ b:=by
 unfold part; split
 ·exact Int.neg_dvd.mpr (Int.gcd_dvd_right t b)
 ·exact Int.gcd_dvd_right t b
theorem Kn(t b:Int):(BA t b).1*part t b=t:=by
 show t.fdiv (part t b)*part t b=t;rw[Int.fdiv_eq_ediv_of_dvd (N0 t b),Int.ediv_mul_cancel (N0 t b)]
theorem JC(t b:Int):(BA t b).2*part t b=b:=by
 show b.fdiv (part t b)*part t b=b;rw[Int.fdiv_eq_ediv_of_dvd (Nw t b),Int.ediv_mul_cancel (Nw t b)]
theorem Oh(t b:Int)(h:b≠0):0<(BA t b).2:=by
 have e:=JC t b;have g:=Jz t b h;rcases Int.lt_or_lt_of_ne h with h1 | h1
 ·have hp:part t b<0:=by unfold part; rw[if_pos h1]; omega
  rcases Int.lt_or_le 0 (BA t b).2 with q | q
  ·exact q
  ·have:0<=(BA t b).2*part t b:=Int.mul_nonneg_of_nonpos_of_nonpos q (Int.le_of_lt hp)
   omega
 ·have hp:0<part t b:=by unfold part; rw[if_neg (by omega)]; omega
  rcases Int.lt_or_le 0 (BA t b).2 with q | q
  ·exact q
  ·have:(BA t b).2*part t b<=0:=Int.mul_nonpos_of_nonpos_of_nonneg q (Int.le_of_lt hp)
   omega
theorem N7(t b:Int):(BA t b).1*b=t*(BA t b).2:=by
 have e1:=Kn t b;have e2:=JC t b;generalize (BA t b).1=n at *;generalize (BA t b).2=d at *;generalize part t b=p at *;subst e1;subst e2;rw[Int.mul_comm d p,Int.mul_assoc]
theorem WD(t b:Int)(h:b≠0):Int.gcd (BA t b).1 (BA t b).2=1:=by
 have e1:=Kn t b;have e2:=JC t b;have g:=Jz t b h;have hp:(part t b).natAbs=Int.gcd t b:=by unfold part; split <;> omega
 have k:Int.gcd ((BA t b).1*part t b) ((BA t b).2*part t b)=Int.gcd (BA t b).1 (BA t b).2*(part t b).natAbs:=Int.gcd_mul_right _ _ _;rw[e1,e2,hp] at k
 have:1*Int.gcd t b=Int.gcd (BA t b).1 (BA t b).2*Int.gcd t b:=by rw[Nat.one_mul]; exact k
 exact(Nat.eq_of_mul_eq_mul_right g this).symm
theorem Pk(t b:Int)(h:b≠0):(part t b).natAbs<=b.natAbs:=by
 have e:(part t b).natAbs=Int.gcd t b:=by unfold part; split <;> omega
 rw[e];exact Nat.le_of_dvd (Int.natAbs_pos.mpr h) (by
  have:=Int.gcd_dvd_right t b
  exact Int.ofNat_dvd_left.mp this)
theorem OD(t b:Int)(h:b≠0):(BA t b).1.natAbs<=t.natAbs:=by
 have e:=congrArg Int.natAbs (Kn t b);rw[Int.natAbs_mul] at e
 have:1<=(part t b).natAbs:=Int.natAbs_pos.mpr (J5 t b h)
 calc (BA t b).1.natAbs=(BA t b).1.natAbs*1:=(Nat.mul_one _).symm
  _<=(BA t b).1.natAbs*(part t b).natAbs:=Nat.mul_le_mul_left _ this
  _=t.natAbs:=e
theorem OR(t b:Int)(h:b≠0):(BA t b).2.natAbs<=b.natAbs:=by
 have e:=congrArg Int.natAbs (JC t b);rw[Int.natAbs_mul] at e
 have:1<=(part t b).natAbs:=Int.natAbs_pos.mpr (J5 t b h)
 calc (BA t b).2.natAbs=(BA t b).2.natAbs*1:=(Nat.mul_one _).symm
  _<=(BA t b).2.natAbs*(part t b).natAbs:=Nat.mul_le_mul_left _ this
  _=b.natAbs:=e
end Mth
namespace Wd
end Wd
namespace Mth
theorem IY(t b : Int)(h : b ≠ 0): BA t b = (((t : Rat) / (b : Rat)).num, (((t : Rat) / (b : Rat)).den : Int)) := by
  have g := WD t b h;have p := Oh t b h;have c := N7 t b;generalize (BA t b) = x at *;obtain⟨n, d⟩ := x;simp only at g p c;have hd : d = (d.toNat : Int) := by omega
  have hn : d.toNat ≠ 0 := by omega
  have hc : n.natAbs.Coprime d.toNat := by
    have : Int.gcd n d = n.natAbs.gcd d.toNat := by rw[Int.gcd]; congr 1; omega
    unfold Nat.Coprime; rw[<- this]; exact g
  let r : Rat := ⟨n, d.toNat, hn, hc⟩
  have hr : r * (d : Rat) = n := by
    have h1 : r = (n : Rat) / ((d.toNat : Nat) : Rat) := by
      have := Rat.num_divInt_den r;rw[<- this, Rat.divInt_eq_div]; rfl
    have h2 : ((d.toNat : Nat) : Rat) = (d : Rat) := by
      have : ((d.toNat : Nat) : Rat) = (((d.toNat : Nat) : Int) : Rat) := rfl;rw[this, <- hd]
    have h3 : (d : Rat) ≠ 0 := by have : d ≠ 0 := by omega
                                  exact_mod_cast this
    rw[h1, h2]; grind
  have hb : (b : Rat) ≠ 0 := by exact_mod_cast h
  have hd0 : (d : Rat) ≠ 0 := by have : d ≠ 0 := by omega
                                 exact_mod_cast this
  have cr : (n : Rat) * b = t * d := by exact_mod_cast c
  have e : (t : Rat) / (b : Rat) = r := by grind
  rw[e];show(n, d) = (n, ((d.toNat : Nat) : Int));rw[<- hd]
def fr(q:Rat):Int×Int:=(q.num,q.den)
theorem J1(q:Rat):q*((q.den:Nat):Rat)=q.num:=by
 have h1:=Rat.num_divInt_den q;rw[Rat.divInt_eq_div] at h1
 have:((q.den:Nat):Rat)≠0:=by exact_mod_cast q.den_nz
 have h2:(((q.den:Nat):Int):Rat)=((q.den:Nat):Rat):=rfl;rw[h2] at h1
 grind
theorem La(q:Rat):((q.den:Nat):Rat)≠0:=by exact_mod_cast q.den_nz
theorem Qh(q:Rat):((q.num:Int):Rat) / ((((q.den:Nat):Int)):Rat)=q:=by
 have:=J1 q
 have h2:(((q.den:Nat):Int):Rat)=((q.den:Nat):Rat):=rfl
 have:=La q
 rw[h2]; grind
theorem ic(n:Nat):(((n:Nat):Int):Rat)=((n:Nat):Rat):=rfl
theorem X8(p q:Rat):BA (p.num*q.den-q.num*p.den) (p.den*q.den)=fr (p-q):=by
 have hp:=p.den_nz;have hq:=q.den_nz;have h:((p.den:Int)*(q.den:Int))≠0:=Int.mul_ne_zero (by omega) (by omega);rw[IY _ _ h];have e:(((p.num*q.den-q.num*p.den:Int)):Rat) / (((p.den:Int)*(q.den:Int):Int):Rat)=p-q:=by
  have:=J1 p; have:=J1 q; have:=La p; have:=La q
  simp only[Rat.intCast_sub,Rat.intCast_mul,ic]
  grind
 rw[e]; rfl
def Sb(n d:Nat)(q:Rat):Prop:=q.num.natAbs<=2 ^ n/\q.den<=2 ^ d
theorem Wn{t b:Int}(h:b≠0):(BA t b).1.natAbs<=t.natAbs/\(BA t b).2.natAbs<=b.natAbs:=by
 have h1:=Kn t b;have h2:=JC t b;have h3:=J5 t b h;have a1:t.natAbs=(BA t b).1.natAbs*(part t b).natAbs:=by rw[<-Int.natAbs_mul,h1]
 have a2:b.natAbs=(BA t b).2.natAbs*(part t b).natAbs:=by rw[<-Int.natAbs_mul,h2]
 have a3:1<=(part t b).natAbs:=by omega
 rw[a1,a2];exact⟨Nat.le_mul_of_pos_right _ a3,Nat.le_mul_of_pos_right _ a3⟩
theorem Y7{t b:Int}{n d:Nat}(h:b≠0)(h1:t.natAbs<=2 ^ n)(h2:b.natAbs<=2 ^ d){q:Rat}(e:BA t b=fr q):Sb n d q:=by
 have:=Wn (t:=t) h
 rw[e] at this;simp only[fr,Int.natAbs_natCast] at this;exact⟨by omega,by omega⟩
theorem K7{a b m n:Nat}(h:a<=2 ^ m)(g:b<=2 ^ n):a*b<=2 ^ (m+n):=by rw[Nat.pow_add]; exact Nat.mul_le_mul h g
theorem aV(p q:Rat):((p.den:Int)*(q.den:Int))≠0:=by
 have hp:=p.den_nz;have hq:=q.den_nz;exact Int.mul_ne_zero (by omega) (by omega)
theorem Sb.sub{n d n' d' N:Nat}{p q:Rat}(h:Sb n d p)(g:Sb n' d' q)(h1:n+d'<=N)(h2:n' + d<=N):Sb (N+1) (d+d') (p-q):=by
 refine Y7 (aV p q) ?_ ?_ (X8 p q)
 ·have a1:(p.num*q.den).natAbs<=2 ^ N:=by
   rw[Int.natAbs_mul,Int.natAbs_natCast];exact Nat.le_trans (K7 h.1 g.2) (Nat.pow_le_pow_right (by decide) h1)
  have a2:(q.num*p.den).natAbs<=2 ^ N:=by
   rw[Int.natAbs_mul,Int.natAbs_natCast];exact Nat.le_trans (K7 g.1 h.2) (Nat.pow_le_pow_right (by decide) h2)
  have:=Int.natAbs_sub_le (p.num*q.den) (q.num*p.den)
  rw[Nat.pow_succ]; omega
 ·rw[Int.natAbs_mul,Int.natAbs_natCast,Int.natAbs_natCast]; exact K7 h.2 g.2
theorem Sb.mono{n d n' d':Nat}{p:Rat}(h:Sb n d p)(h1:n<=n')(h2:d<=d'):Sb n' d' p :=
 ⟨Nat.le_trans h.1 (Nat.pow_le_pow_right (by decide) h1),Nat.le_trans h.2 (Nat.pow_le_pow_right (by decide) h2)⟩
theorem Sb.one:Sb 0 0 1:=by constructor <;> decide
def DR(c:Int)(q:Rat):Int:=c.fdiv (Int.gcd c q.den:Int)*q.den
def cb(r:List Rat):Int:=r.foldl DR 1
theorem Xz{c:Int}(h:0<c)(q:Rat):0<DR c q/\c ∣ DR c q/\(q.den:Int) ∣ DR c q/\DR c q<=c*q.den:=by
 have hq:=q.den_nz;have hg:0<Int.gcd c q.den:=Int.gcd_pos_of_ne_zero_left _ (by omega);obtain⟨x,hx⟩:=Int.gcd_dvd_left c (q.den:Int);obtain⟨y,hy⟩:=Int.gcd_dvd_right c (q.den:Int);generalize hG:Int.gcd c (q.den:Int)=G at *;have hG0:(G:Int)≠0:=by omega
 have e:c.fdiv (G:Int)=x:=by
  rw[Int.fdiv_eq_ediv_of_dvd ⟨x,hx⟩]
  conv=>lhs; rw[hx]
  rw[Int.mul_ediv_cancel_left _ hG0]
 have hx0:0<x:=by
  rcases Int.lt_or_le 0 x with h' | h'
  ·exact h'
  ·have:(G:Int)*x<=0:=Int.mul_nonpos_of_nonneg_of_nonpos (by omega) h'
   omega
 have hq0:(0:Int)<q.den:=by omega
 unfold DR;rw[hG,e];refine⟨Int.mul_pos hx0 hq0,⟨y,?_⟩,⟨x,Int.mul_comm _ _⟩,?_⟩
 ·conv=>lhs; rw[hy]
  conv=>rhs; rw[hx]
  rw[Int.mul_left_comm,Int.mul_assoc]
 ·refine Int.mul_le_mul_of_nonneg_right ?_ (by omega)
  have:1*x<=(G:Int)*x:=Int.mul_le_mul_of_nonneg_right (by omega) (by omega)
  omega
theorem Qz(r:List Rat):∀{c:Int} {D d:Nat},0<c->c.natAbs<=2 ^ D->(∀q∈r,q.den<=2 ^ d) →
  0<r.foldl DR c/\c ∣ r.foldl DR c/\(∀q∈r,(q.den:Int) ∣ r.foldl DR c)/\(r.foldl DR c).natAbs<=2 ^ (D+d*r.length):=by
 induction r with
 | nil=>intro c D d h g _; exact⟨h,Int.dvd_refl _,by simp,by simpa using g⟩
 | cons q r ih =>
  intro c D d h g hd;obtain⟨a1,a2,a3,a4⟩:=Xz h q;have hq:=hd q (by simp);have a5:(DR c q).natAbs<=2 ^ (D+d):=by
   have h5:(DR c q).natAbs<=c.natAbs*q.den:=by
    have e1:((c.natAbs*q.den:Nat):Int)=c*q.den:=by rw[Int.natCast_mul]; congr 1; omega
    omega
   exact Nat.le_trans h5 (K7 g hq)
  obtain⟨b1,b2,b3,b4⟩:=ih (D:=D+d) (d:=d) a1 a5 (λp hp=>hd p (by simp[hp]));refine⟨b1,Int.dvd_trans a2 b2,?_,?_⟩
  ·intro p hp;rcases List.mem_cons.mp hp with rfl | hp
   ·exact Int.dvd_trans a3 b2
   ·exact b3 p hp
  ·rw[List.length_cons,Nat.mul_succ]
   have:D+(d*r.length+d)=D+d+d*r.length:=by omega
   rw[this]; exact b4
def wh(b:Int)(q:Rat):Int:=q.num*b.fdiv q.den
theorem YF{b:Int}{q:Rat}(h:(q.den:Int) ∣ b):((wh b q:Int):Rat)=b*q:=by
 obtain⟨x,hx⟩:=h;have hq:=q.den_nz;have e:b.fdiv q.den=x:=by
  rw[Int.fdiv_eq_ediv_of_dvd ⟨x,hx⟩,hx,Int.mul_ediv_cancel_left _ (by omega)]
 unfold wh;rw[e,hx]
 have:=J1 q
 simp only[Rat.intCast_mul,ic]
 grind
end Mth
namespace Fl
abbrev AE:=Int×Int×Int×Int
abbrev AE.l(b:AE):Int:=b.1
abbrev AE.d(b:AE):Int:=b.2.1
abbrev AE.r(b:AE):Int:=b.2.2.1
abbrev AE.u(b:AE):Int:=b.2.2.2
def EU(b:AE):Prop:=(b.l<b.r/\b.d<b.u)\/(b.l=b.r/\b.d=b.u)
def Ds(w h:Int)(b:AE):Prop:=0<=b.l/\0<=b.d/\b.r<=w/\b.u<=h
def Cq(a b:AE):Bool:=decide (max a.l b.l<min a.r b.r) && decide (max a.d b.d<min a.u b.u)
def Cj(x y:Int)(b:AE):Bool:=decide (b.l<=x/\x<b.r/\b.d<=y/\y<b.u)
theorem Dd{x y:Int}{b:AE}:Cj x y b=true↔b.l<=x/\x<b.r/\b.d<=y/\y<b.u:=decide_eq_true_iff
structure CB(w h:Int)(bs:List AE):Prop where
 ok:∀b∈bs,EU b
 BY:∀b∈bs,Ds w h b
 one:∀x y,0<=x->x<w->0<=y->y<h->bs.countP (Cj x y)=1
theorem G0{a b:AE}:Cq a b=true↔a.l<a.r/\a.l<b.r/\b.l<a.r/\b.l<b.r/\a.d<a.u/\a.d<b.u/\b.d<a.u/\b.d<b.u:=by
 unfold Cq;rw[Bool.and_eq_true,decide_eq_true_iff,decide_eq_true_iff,Int.max_lt,Int.lt_min,Int.lt_min,Int.max_lt,Int.lt_min,Int.lt_min];exact⟨λ⟨⟨⟨h1,h2⟩,h3,h4⟩,⟨h5,h6⟩,h7,h8⟩=>⟨h1,h2,h3,h4,h5,h6,h7,h8⟩,λ⟨h1,h2,h3,h4,h5,h6,h7,h8⟩=>⟨⟨⟨h1,h2⟩,h3,h4⟩,⟨h5,h6⟩,h7,h8⟩⟩
theorem Wl{a b:AE}:Cq a b=true↔∃x y,Cj x y a=true/\Cj x y b=true:=by
 rw[G0];constructor
 ·intro h;refine⟨max a.l b.l,max a.d b.d,Dd.mpr ?_,Dd.mpr ?_⟩ <;> omega
 ·rintro⟨x,y,h1,h2⟩;rw[Dd] at h1 h2;omega
theorem TK{w h:Int}(hw:0<w)(hh:0<h):CB w h [(0,0,w,h)]:=by
 refine⟨λb hb=>?_,λb hb=>?_,λx y x0 x1 y0 y1=>?_⟩
 ·rw[List.mem_singleton.mp hb]; exact .inl ⟨hw,hh⟩
 ·rw[List.mem_singleton.mp hb]; exact⟨Int.le_refl _,Int.le_refl _,Int.le_refl _,Int.le_refl _⟩
 ·have:Cj x y (0,0,w,h)=true:=Dd.mpr ⟨x0,x1,y0,y1⟩
  simp[List.countP_cons,this]
structure FD(b:AE)(ps:List AE):Prop where
 ok:∀p∈ps,p.l<p.r/\p.d<p.u
 BY:∀p∈ps,b.l<=p.l/\b.d<=p.d/\p.r<=b.r/\p.u<=b.u
 one:∀x y,ps.countP (Cj x y)=if Cj x y b=true then 1 else 0
theorem CB.LN{w h:Int}{A B ps:List AE}{b:AE}(t:CB w h (A++b :: B))(p:FD b ps):CB w h (A++ps++B):=by
 have ib:=t.BY b (by simp);refine⟨λq hq=>?_,λq hq=>?_,λx y x0 x1 y0 y1=>?_⟩
 ·rcases List.mem_append.mp hq with z | z
  ·rcases List.mem_append.mp z with z | z
   ·exact t.ok q (by simp[z])
   ·exact .inl (p.ok q z)
  ·exact t.ok q (by simp[z])
 ·rcases List.mem_append.mp hq with z | z
  ·rcases List.mem_append.mp z with z | z
   ·exact t.BY q (by simp[z])
   ·have:=p.BY q z
    unfold Ds at ib ⊢;omega
  ·exact t.BY q (by simp[z])
 ·have:=t.one x y x0 x1 y0 y1
  rw[List.countP_append,List.countP_cons] at this;rw[List.countP_append,List.countP_append,p.one];omega
theorem DD{x y:Int}{b:AE}{l:List AE}:(b :: l).countP (Cj x y)=l.countP (Cj x y)+if Cj x y b=true then 1 else 0:=List.countP_cons ..
theorem Ij{x y:Int}:([]:List AE).countP (Cj x y)=0:=rfl
theorem RI{b:AE}{x:Int}(h1:b.l<x)(h2:x<b.r)(h3:b.d<b.u):FD b [(b.l,b.d,x,b.u),(x,b.d,b.r,b.u)]:=by
 refine⟨λp hp=>?_,λp hp=>?_,λu v=>?_⟩
 ·simp only[List.mem_cons,List.not_mem_nil,or_false] at hp;rcases hp with rfl | rfl <;> exact⟨by dsimp only[AE.l,AE.d,AE.r,AE.u] at *; omega,by dsimp only[AE.l,AE.d,AE.r,AE.u] at *; omega⟩
 ·simp only[List.mem_cons,List.not_mem_nil,or_false] at hp;rcases hp with rfl | rfl <;> exact⟨by dsimp only[AE.l,AE.d,AE.r,AE.u] at *; omega,by dsimp only[AE.l,AE.d,AE.r,AE.u] at *; omega,by dsimp only[AE.l,AE.d,AE.r,AE.u] at *; omega,by dsimp only[AE.l,AE.d,AE.r,AE.u] at *; omega⟩
 ·rw[DD,DD,Ij];simp only[Dd,AE.l,AE.d,AE.r,AE.u] at *;split <;> split <;> split <;> omega
theorem Yf{b:AE}{y:Int}(h1:b.d<y)(h2:y<b.u)(h3:b.l<b.r):FD b [(b.l,b.d,b.r,y),(b.l,y,b.r,b.u)]:=by
 refine⟨λp hp=>?_,λp hp=>?_,λu v=>?_⟩
 ·simp only[List.mem_cons,List.not_mem_nil,or_false] at hp;rcases hp with rfl | rfl <;> exact⟨by dsimp only[AE.l,AE.d,AE.r,AE.u] at *; omega,by dsimp only[AE.l,AE.d,AE.r,AE.u] at *; omega⟩
 ·simp only[List.mem_cons,List.not_mem_nil,or_false] at hp;rcases hp with rfl | rfl <;> exact⟨by dsimp only[AE.l,AE.d,AE.r,AE.u] at *; omega,by dsimp only[AE.l,AE.d,AE.r,AE.u] at *; omega,by dsimp only[AE.l,AE.d,AE.r,AE.u] at *; omega,by dsimp only[AE.l,AE.d,AE.r,AE.u] at *; omega⟩
 ·rw[DD,DD,Ij];simp only[Dd,AE.l,AE.d,AE.r,AE.u] at *;split <;> split <;> split <;> omega
theorem Yz{b:AE}{x f y u:Int}(h1:b.l<x)(h2:x<f)(h3:f<b.r)(h4:b.d<y)(h5:y<u)(h6:u<b.u):
  FD b [(b.l,b.d,f,y),(f,b.d,b.r,u),(x,u,b.r,b.u),(b.l,y,x,b.u),(x,y,f,u)]:=by
 refine⟨λp hp=>?_,λp hp=>?_,λs t=>?_⟩
 ·simp only[List.mem_cons,List.not_mem_nil,or_false] at hp;rcases hp with rfl | rfl | rfl | rfl | rfl <;> exact⟨by dsimp only[AE.l,AE.d,AE.r,AE.u] at *; omega,by dsimp only[AE.l,AE.d,AE.r,AE.u] at *; omega⟩
 ·simp only[List.mem_cons,List.not_mem_nil,or_false] at hp;rcases hp with rfl | rfl | rfl | rfl | rfl <;> exact⟨by dsimp only[AE.l,AE.d,AE.r,AE.u] at *; omega,by dsimp only[AE.l,AE.d,AE.r,AE.u] at *; omega,by dsimp only[AE.l,AE.d,AE.r,AE.u] at *; omega,by dsimp only[AE.l,AE.d,AE.r,AE.u] at *; omega⟩
 ·rw[DD,DD,DD,DD,DD,Ij];simp only[Dd,AE.l,AE.d,AE.r,AE.u] at *;by_cases c1:s<b.1 <;> by_cases c2:s<x <;> by_cases c3:s<f <;> by_cases c4:s<b.2.2.1 <;> by_cases d1:t<b.2.1 <;> by_cases d2:t<y <;> by_cases d3:t<u <;> by_cases d4:t<b.2.2.2 <;> (try omega) <;> (repeat (first | rw[if_pos (by omega)] | rw[if_neg (by omega)]))
theorem Tx{α:Type}{p:α->Bool}{l:List α}{i j:Nat}(hij:i<j)(hj:j<l.length)(pi:p (l[i]'(by omega))=true)(pj:p l[j]=true):2<=l.countP p:=by
 have e:l=l.take (i+1)++l.drop (i+1):=(List.take_append_drop _ _).symm;rw[e,List.countP_append];have a:0<(l.take (i+1)).countP p:=List.countP_pos_iff.mpr ⟨l[i],List.mem_take_iff_getElem.mpr ⟨i,by omega,rfl⟩,pi⟩;have b:0<(l.drop (i+1)).countP p:=List.countP_pos_iff.mpr ⟨l[j],List.mem_drop_iff_getElem.mpr ⟨j-(i+1),by omega,by congr 1; omega⟩,pj⟩;omega
abbrev CY(bs:List AE):Prop:=bs.Pairwise λa b=>Cq a b=false
theorem Pz{w h x y:Int}{b:AE}(i:Ds w h b)(z:Cj x y b=true):0<=x/\x<w/\0<=y/\y<h:=by
 rw[Dd] at z;obtain⟨a,b',c,d⟩:=i;omega
theorem CB.LD{w h:Int}{bs:List AE}(t:CB w h bs):CY bs:=by
 rw[CY,List.pairwise_iff_getElem];intro i j hi hj hij;rw[Bool.eq_false_iff];intro z;obtain⟨x,y,h1,h2⟩:=Wl.mp z;obtain⟨a,b,c,d⟩:=Pz (t.BY _ (List.getElem_mem hi)) h1
 have:=Tx (p:=Cj x y) hij hj h1 h2
 rw[t.one x y a b c d] at this;omega
theorem CB.Gh{w h:Int}{bs cs:List AE}(t:CB w h bs)(p:cs.Perm bs):CB w h cs :=
 ⟨λb hb=>t.ok b (p.mem_iff.mp hb),λb hb=>t.BY b (p.mem_iff.mp hb),λx y a b c d=>by rw[p.countP_eq]; exact t.one x y a b c d⟩
theorem CB.bare{w h:Int}{bs:List AE}(t:CB w h bs)(p:AE->Bool)(hp:∀b∈bs,p b=false->b.l=b.r):CB w h (bs.filter p):=by
 refine⟨λb hb=>t.ok b (List.mem_filter.mp hb).1,λb hb=>t.BY b (List.mem_filter.mp hb).1,λx y a b c d=>?_⟩;rw[<-t.one x y a b c d,List.countP_filter];refine List.countP_congr λq hq=>?_
 rw[Bool.and_eq_true];constructor
 ·exact λz=>z.1
 ·intro z;refine⟨z,?_⟩;cases e:p q with
  | true=>rfl
  | false =>
   have:=hp q hq e
   rw[Dd] at z;omega
structure Bd(m:Int)(vs xs:List Int):Prop where
 up:xs.Pairwise (· < ·)
 mem:∀v,v∈xs↔v=0\/v=m\/v∈vs
theorem OY:∀{xs ys:List Int},xs.Pairwise (· < ·)->ys.Pairwise (· < ·)->(∀v,v∈xs↔v∈ys)->xs=ys
 | [],[],_,_,_=>rfl
 | [],y :: ys,_,_,h=>absurd ((h y).mpr (by simp)) (by simp)
 | x :: xs,[],_,_,h=>absurd ((h x).mp (by simp)) (by simp)
 | x :: xs,y :: ys,hx,hy,h=>by
  rw[List.pairwise_cons] at hx hy;have e:x=y:=by
   rcases List.mem_cons.mp ((h x).mp (by simp)) with z | z
   ·exact z
   ·rcases List.mem_cons.mp ((h y).mpr (by simp)) with z' | z'
    ·exact z'.symm
    ·have:=hx.1 y z'; have:=hy.1 x z; omega
  subst e;congr 1;refine OY hx.2 hy.2 λv=>?_
  constructor
  ·intro z;rcases List.mem_cons.mp ((h v).mp (by simp[z])) with q | q
   ·have:=hx.1 v z; omega
   ·exact q
  ·intro z;rcases List.mem_cons.mp ((h v).mpr (by simp[z])) with q | q
   ·have:=hy.1 v z; omega
   ·exact q
theorem Bd.Dk{m:Int}{vs xs ys:List Int}(a:Bd m vs xs)(b:Bd m vs ys):xs=ys:=OY a.up b.up λv=>by rw[a.mem,b.mem]
def Et(bs:List AE)(x0 y0 x1 y1:Int):Bool:=bs.any λb=>decide (b.l<=x0) && decide (x1<=b.r) && (decide (b.d<=y0) && decide (y1<=b.u))
def Eh(xs ys:List Int)(j k:Nat):AE:=(xs.getD j 0,ys.getD k 0,xs.getD (j+1) 0,ys.getD (k+1) 0)
abbrev Dl(bs:List AE)(xs ys:List Int)(j k:Nat):Bool:=Et bs (Eh xs ys j k).l (Eh xs ys j k).d (Eh xs ys j k).r (Eh xs ys j k).u
def DS(bs:List AE)(xs ys:List Int)(k:Nat):Option Nat:=(List.range (xs.length-1)).find? λj=>!Dl bs xs ys j k
def DI(bs:List AE)(xs ys:List Int):Option AE:=(List.range (ys.length-1)).findSome? λk=>(DS bs xs ys k).map λj=>Eh xs ys j k
theorem Pr{xs:List Int}(h:xs.Pairwise (· < ·)){j:Nat}(hj:j+1<xs.length){v:Int}(hv:v∈xs)(hl:xs.getD j 0<v):xs.getD (j+1) 0<=v:=by
 obtain⟨i,hi,rfl⟩:=List.getElem_of_mem hv;have g:∀k (hk:k<xs.length),xs.getD k 0=xs[k]:=λk hk=>by rw[List.getD_eq_getElem?_getD,List.getElem?_eq_getElem hk]; rfl
 rw[g j (by omega)] at hl;rw[g (j+1) hj];have p:=List.pairwise_iff_getElem.mp h;rcases Nat.lt_trichotomy i (j+1) with z | z | z
 ·rcases Nat.lt_or_ge i j with y | y
  ·have:=p i j hi (by omega) y; omega
  ·have:i=j:=by omega
   subst this; omega
 ·subst z; exact Int.le_refl _
 ·have:=p (j+1) i hj hi z; omega
theorem Qy{xs:List Int}(h:xs.Pairwise (· < ·)){j:Nat}(hj:j+1<xs.length):xs.getD j 0<xs.getD (j+1) 0/\xs.getD j 0∈xs/\xs.getD (j+1) 0∈xs:=by
 have g:∀k (hk:k<xs.length),xs.getD k 0=xs[k]:=λk hk=>by rw[List.getD_eq_getElem?_getD,List.getElem?_eq_getElem hk]; rfl
 rw[g j (by omega),g (j+1) hj];exact⟨List.pairwise_iff_getElem.mp h j (j+1) (by omega) hj (by omega),List.getElem_mem _,List.getElem_mem _⟩
abbrev Ep(bs:List AE):List Int:=bs.map (·.1)++bs.map (·.2.2.1)
abbrev Eo(bs:List AE):List Int:=bs.map (·.2.1)++bs.map (·.2.2.2)
end Fl
namespace Fl
structure Sc(f:Int->Int)(D:Int->Prop):Prop where
 lt:∀a b,D a->D b->(a<b↔f a<f b)
 z:D 0
 f0:f 0=0
section
variable {f:Int->Int} {D:Int->Prop}
theorem Sc.le(s:Sc f D){a b:Int}(ha:D a)(hb:D b):a<=b↔f a<=f b:=by have:=s.lt b a hb ha; omega
theorem Sc.eq(s:Sc f D){a b:Int}(ha:D a)(hb:D b):a=b↔f a=f b:=by have:=s.lt a b ha hb; have:=s.lt b a hb ha; omega
abbrev Bl(f:Int->Int)(b:AE):AE:=(f b.l,f b.d,f b.r,f b.u)
abbrev DB(D:Int->Prop)(b:AE):Prop:=D b.l/\D b.d/\D b.r/\D b.u
theorem Sc.ok(s:Sc f D){b:AE}(h:DB D b):EU (Bl f b)↔EU b:=by
 obtain⟨h1,h2,h3,h4⟩:=h;unfold EU;have a:=s.lt _ _ h1 h3; have c:=s.lt _ _ h2 h4; have d:=s.eq h1 h3; have e:=s.eq h2 h4;show(f b.l<f b.r/\f b.d<f b.u)\/(f b.l=f b.r/\f b.d=f b.u)↔_;rw[<-a,<-c,<-d,<-e]
theorem Sc.BY(s:Sc f D){w h:Int}{b:AE}(hw:D w)(hh:D h)(hb:DB D b):Ds (f w) (f h) (Bl f b)↔Ds w h b:=by
 obtain⟨h1,h2,h3,h4⟩:=hb;unfold Ds;show 0<=f b.l/\0<=f b.d/\f b.r<=f w/\f b.u<=f h↔_;have a:=s.le s.z h1; have c:=s.le s.z h2;rw[s.f0] at a c;rw[<-a,<-c,<-s.le h3 hw,<-s.le h4 hh]
theorem Sc.ov(s:Sc f D){a b:AE}(ha:DB D a)(hb:DB D b):Cq (Bl f a) (Bl f b)=Cq a b:=by
 rw[Bool.eq_iff_iff,G0,G0];show f a.l<f a.r/\f a.l<f b.r/\f b.l<f a.r/\f b.l<f b.r/\f a.d<f a.u/\f a.d<f b.u/\f b.d<f a.u/\f b.d<f b.u↔_;obtain⟨a1,a2,a3,a4⟩:=ha;obtain⟨b1,b2,b3,b4⟩:=hb;rw[<-s.lt _ _ a1 a3,<-s.lt _ _ a1 b3,<-s.lt _ _ b1 a3,<-s.lt _ _ b1 b3,<-s.lt _ _ a2 a4,<-s.lt _ _ a2 b4,<-s.lt _ _ b2 a4,<-s.lt _ _ b2 b4]
theorem Sc.bd(s:Sc f D){m:Int}{vs xs:List Int}(b:Bd m vs xs)(h:∀v∈xs,D v):Bd (f m) (vs.map f) (xs.map f):=by
 refine⟨?_,λv=>?_⟩
 ·rw[List.pairwise_map];exact b.up.imp_of_mem λ{x y} hx hy z=>(s.lt x y (h x hx) (h y hy)).mp z
 ·rw[List.mem_map];constructor
  ·rintro⟨x,hx,rfl⟩;rcases(b.mem x).mp hx with z | z | z
   ·exact .inl (by rw[z,s.f0])
   ·exact .inr (.inl (by rw[z]))
   ·exact .inr (.inr (List.mem_map.mpr ⟨x,z,rfl⟩))
  ·rintro(z | z | z)
   ·exact⟨0,(b.mem 0).mpr (.inl rfl),by rw[z,s.f0]⟩
   ·exact⟨m,(b.mem m).mpr (.inr (.inl rfl)),z.symm⟩
   ·obtain⟨x,hx,rfl⟩:=List.mem_map.mp z;exact⟨x,(b.mem x).mpr (.inr (.inr hx)),rfl⟩
theorem KO(s:Sc f D)(xs:List Int)(j:Nat):(xs.map f).getD j 0=f (xs.getD j 0):=by
 rw[List.getD_eq_getElem?_getD,List.getElem?_map,List.getD_eq_getElem?_getD];cases xs[j]? with
 | none=>exact s.f0.symm
 | some x=>rfl
theorem Sc.cell(s:Sc f D)(xs ys:List Int)(j k:Nat):Eh (xs.map f) (ys.map f) j k=Bl f (Eh xs ys j k):=by
 unfold Eh;rw[KO s,KO s,KO s,KO s]
theorem KU{xs:List Int}(z:D 0)(h:∀v∈xs,D v)(j:Nat):D (xs.getD j 0):=by
 rw[List.getD_eq_getElem?_getD];cases e:xs[j]? with
 | none=>exact z
 | some x=>exact h x (List.mem_of_getElem? e)
theorem Sc.Ha(s:Sc f D){bs:List AE}{xs ys:List Int}(hb:∀b∈bs,DB D b)(hx:∀v∈xs,D v)(hy:∀v∈ys,D v):DI (bs.map (Bl f)) (xs.map f) (ys.map f)=(DI bs xs ys).map (Bl f):=by
 have cv:∀j k,Dl (bs.map (Bl f)) (xs.map f) (ys.map f) j k=Dl bs xs ys j k:=λj k=>by
  show Et _ _ _ _ _=Et _ _ _ _ _;rw[s.cell];unfold Et;rw[List.any_map];rw[Bool.eq_iff_iff,List.any_eq_true,List.any_eq_true];refine exists_congr λb=>and_congr_right λhm=>?_
  obtain⟨b1,b2,b3,b4⟩:=hb b hm;have d1:=KU s.z hx j; have d2:=KU s.z hx (j+1); have e1:=KU s.z hy k; have e2:=KU s.z hy (k+1);show(decide (f b.l<=f (xs.getD j 0)) && decide (f (xs.getD (j+1) 0)<=f b.r) && (decide (f b.d<=f (ys.getD k 0)) && decide (f (ys.getD (k+1) 0)<=f b.u)))=true↔(decide (b.l<=xs.getD j 0) && decide (xs.getD (j+1) 0<=b.r) && (decide (b.d<=ys.getD k 0) && decide (ys.getD (k+1) 0<=b.u)))=true;simp only[Bool.and_eq_true,decide_eq_true_eq];rw[<-s.le b1 d1,<-s.le d2 b3,<-s.le b2 e1,<-s.le e2 b4]
 have rg:∀k,DS (bs.map (Bl f)) (xs.map f) (ys.map f) k=DS bs xs ys k:=λk=>by
  unfold DS;rw[List.length_map];congr 1
  funext j
  rw[cv]
 unfold DI;rw[List.length_map,List.map_findSome?];congr 1
 funext k
 rw[rg];show _=Option.map (Bl f) ((DS bs xs ys k).map λj=>Eh xs ys j k);rw[Option.map_map];congr 1
 funext j
 exact s.cell xs ys j k
end
structure Fst(bs:List AE)(j k:Nat):Prop where
 lt:j<k
 Ja:∃a b,bs[j]?=some a/\bs[k]?=some b/\Cq a b=true
 aY:∀(j' k':Nat) (a b:AE),j' < k'->bs[j']?=some a->bs[k']?=some b->(j' < j\/(j'=j/\k' < k))->Cq a b=false
theorem Fst.sc{f:Int->Int}{D:Int->Prop}(s:Sc f D){bs:List AE}(hb:∀b∈bs,DB D b){j k:Nat}(h:Fst bs j k):Fst (bs.map (Bl f)) j k:=by
 obtain⟨lt,⟨a,b,e1,e2,o⟩,no⟩:=h;refine⟨lt,⟨Bl f a,Bl f b,by rw[List.getElem?_map,e1]; rfl,by rw[List.getElem?_map,e2]; rfl,?_⟩,λj' k' a' b' hl h1 h2 hc=>?_⟩
 ·rw[s.ov (hb a (List.mem_of_getElem? e1)) (hb b (List.mem_of_getElem? e2))]; exact o
 ·rw[List.getElem?_map] at h1 h2;obtain⟨a0,q1,rfl⟩:=Option.map_eq_some_iff.mp h1;obtain⟨b0,q2,rfl⟩:=Option.map_eq_some_iff.mp h2;rw[s.ov (hb a0 (List.mem_of_getElem? q1)) (hb b0 (List.mem_of_getElem? q2))];exact no j' k' a0 b0 hl q1 q2 hc
theorem CY.sc{f:Int->Int}{D:Int->Prop}(s:Sc f D){bs:List AE}(hb:∀b∈bs,DB D b)(h:CY bs):CY (bs.map (Bl f)):=by
 rw[CY,List.pairwise_map];exact List.Pairwise.imp_of_mem (λ{a b} ha hb' z=>by rw[s.ov (hb a ha) (hb b hb')]; exact z) h
theorem CB.aX{w h:Int}{bs:List AE}(t:CB w h bs){i j:Nat}{c:AE}(hi:bs[i]?=some c)(hj:bs[j]?=some c)(hc:c.l<c.r)(hd:c.d<c.u):i=j:=by
 obtain⟨hil,ei⟩:=List.getElem?_eq_some_iff.mp hi;obtain⟨hjl,ej⟩:=List.getElem?_eq_some_iff.mp hj;have no:=List.pairwise_iff_getElem.mp t.LD;have o:Cq c c=true:=by rw[G0]; omega
 rcases Nat.lt_trichotomy i j with z | z | z
 ·have:=no i j hil hjl z; rw[ei,ej,o] at this; cases this
 ·exact z
 ·have:=no j i hjl hil z; rw[ei,ej,o] at this; cases this
end Fl
namespace Fl
def FJ(w h:Int)(bs:List AE):Prop:=∀x y,0<=x->x<w->0<=y->y<h->∃b∈bs,Cj x y b=true
structure Di(w h:Int)(bs:List AE):Prop where
 ok:∀b∈bs,EU b
 BY:∀b∈bs,Ds w h b
 nov:CY bs
theorem CB.Yl{w h:Int}{bs:List AE}(t:CB w h bs):Di w h bs:=⟨t.ok,t.BY,t.LD⟩
theorem Di.sub{w h:Int}{bs cs:List AE}(c:Di w h bs)(s:cs.Sublist bs):Di w h cs:=⟨λb hb=>c.ok b (s.subset hb),λb hb=>c.BY b (s.subset hb),List.Pairwise.sublist s c.nov⟩
theorem P7{xs:List Int}(h:xs.Pairwise (· < ·)){lo hi x:Int}(h0:lo∈xs)(h1:hi∈xs)(a:lo<=x)(b:x<hi):∃j,j+1<xs.length/\xs.getD j 0<=x/\x<xs.getD (j+1) 0:=by
 have g:∀k (hk:k<xs.length),xs.getD k 0=xs[k]:=λk hk=>by rw[List.getD_eq_getElem?_getD,List.getElem?_eq_getElem hk]; rfl
 have il:xs.findIdx (λv=>decide (x<v))<xs.length:=List.findIdx_lt_length_of_exists ⟨hi,h1,decide_eq_true b⟩;have ip:x<xs[xs.findIdx (λv=>decide (x<v))]:=by simpa using List.findIdx_getElem (w:=il)
 have im:∀m (hm:m<xs.findIdx (λv=>decide (x<v))),xs[m]'(by omega)<=x:=λm hm=>by
  have:=List.not_of_lt_findIdx hm
  simpa using this
 obtain⟨i,il,ip,im⟩:∃i,∃il:i<xs.length,x<xs[i]/\∀m (hm:m<i),xs[m]'(by omega)<=x:=⟨_,il,ip,im⟩;have i0:i≠0:=λz=>by
  subst z;obtain⟨m,hm,rfl⟩:=List.getElem_of_mem h0;rcases Nat.eq_zero_or_pos m with y | y
  ·subst y; omega
  ·have:=List.pairwise_iff_getElem.mp h 0 m il hm y; omega
 refine⟨i-1,by omega,?_,?_⟩
 ·rw[g (i-1) (by omega)]; exact im (i-1) (by omega)
 ·rw[g (i-1+1) (by omega)]
  have:i-1+1=i:=by omega
  simp only[this]; exact ip
theorem Di.Gf{w h:Int}{bs:List AE}(t:Di w h bs)(hw:0<w)(hh:0<h){xs ys:List Int}(bx:Bd w (Ep bs) xs)(by':Bd h (Eo bs) ys):DI bs xs ys=none↔FJ w h bs:=by
 constructor
 ·intro e x y x0 x1 y0 y1;obtain⟨j,jl,j1,j2⟩:=P7 bx.up ((bx.mem 0).mpr (.inl rfl)) ((bx.mem w).mpr (.inr (.inl rfl))) x0 x1;obtain⟨k,kl,k1,k2⟩:=P7 by'.up ((by'.mem 0).mpr (.inl rfl)) ((by'.mem h).mpr (.inr (.inl rfl))) y0 y1
  unfold DI at e;rw[List.findSome?_eq_none_iff] at e;have e1:=e k (List.mem_range.mpr (by omega));rw[Option.map_eq_none_iff] at e1;unfold DS at e1;rw[List.find?_eq_none] at e1;have e2:=e1 j (List.mem_range.mpr (by omega));have e3:Dl bs xs ys j k=true:=by simpa using e2
  obtain⟨b,hb,c⟩:=List.any_eq_true.mp e3;simp only[Bool.and_eq_true,decide_eq_true_eq] at c;have c1:b.1<=xs.getD j 0:=c.1.1;have c2:xs.getD (j+1) 0<=b.2.2.1:=c.1.2;have c3:b.2.1<=ys.getD k 0:=c.2.1;have c4:ys.getD (k+1) 0<=b.2.2.2:=c.2.2;exact⟨b,hb,Dd.mpr ⟨by show b.1<=x; omega,by show x<b.2.2.1; omega,by show b.2.1<=y; omega,by show y<b.2.2.2; omega⟩⟩
 ·intro f;unfold DI;rw[List.findSome?_eq_none_iff];intro k hk;rw[Option.map_eq_none_iff];unfold DS;rw[List.find?_eq_none];intro j hj;have hk:=List.mem_range.mp hk;have hj:=List.mem_range.mp hj;obtain⟨x1,x2,x3⟩:=Qy bx.up (j:=j) (by omega);obtain⟨y1,y2,y3⟩:=Qy by'.up (j:=k) (by omega)
  have rx:∀v∈xs,0<=v/\v<=w:=λv hv=>by
   rcases(bx.mem v).mp hv with z | z | z
   ·omega
   ·omega
   ·rcases List.mem_append.mp z with z | z
    ·obtain⟨b,hb,rfl⟩:=List.mem_map.mp z
     have:=t.BY b hb; have:=t.ok b hb; unfold Ds EU at *; dsimp only[AE.l,AE.d,AE.r,AE.u] at *; omega
    ·obtain⟨b,hb,rfl⟩:=List.mem_map.mp z
     have:=t.BY b hb; have:=t.ok b hb; unfold Ds EU at *; dsimp only[AE.l,AE.d,AE.r,AE.u] at *; omega
  have ry:∀v∈ys,0<=v/\v<=h:=λv hv=>by
   rcases(by'.mem v).mp hv with z | z | z
   ·omega
   ·omega
   ·rcases List.mem_append.mp z with z | z
    ·obtain⟨b,hb,rfl⟩:=List.mem_map.mp z
     have:=t.BY b hb; have:=t.ok b hb; unfold Ds EU at *; dsimp only[AE.l,AE.d,AE.r,AE.u] at *; omega
    ·obtain⟨b,hb,rfl⟩:=List.mem_map.mp z
     have:=t.BY b hb; have:=t.ok b hb; unfold Ds EU at *; dsimp only[AE.l,AE.d,AE.r,AE.u] at *; omega
  obtain⟨b,hb,hit⟩:=f (xs.getD j 0) (ys.getD k 0) (rx _ x2).1 (by have:=(rx _ x3).2; omega) (ry _ y2).1 (by have:=(ry _ y3).2; omega);rw[Dd] at hit;have n1:=Pr bx.up (j:=j) (by omega) ((bx.mem _).mpr (.inr (.inr (List.mem_append_right _ (List.mem_map.mpr ⟨b,hb,rfl⟩))))) hit.2.1;have n2:=Pr by'.up (j:=k) (by omega) ((by'.mem _).mpr (.inr (.inr (List.mem_append_right _ (List.mem_map.mpr ⟨b,hb,rfl⟩))))) hit.2.2.2
  have:Dl bs xs ys j k=true:=List.any_eq_true.mpr ⟨b,hb,by
   simp only[Bool.and_eq_true,decide_eq_true_eq];exact⟨⟨hit.1,n1⟩,hit.2.2.1,n2⟩⟩
  simp[this]
theorem X7{b:AE}{x f y u:Int}(h1:b.l<x)(h2:x<f)(h3:f<b.r)(h4:b.d<y)(h5:y<u)(h6:u<b.u):
  FD b [(x,b.d,b.r,y),(f,y,b.r,b.u),(b.l,u,f,b.u),(b.l,b.d,x,u),(x,y,f,u)]:=by
 refine⟨λp hp=>?_,λp hp=>?_,λs t=>?_⟩
 ·simp only[List.mem_cons,List.not_mem_nil,or_false] at hp;rcases hp with rfl | rfl | rfl | rfl | rfl <;> exact⟨by dsimp only[AE.l,AE.d,AE.r,AE.u] at *; omega,by dsimp only[AE.l,AE.d,AE.r,AE.u] at *; omega⟩
 ·simp only[List.mem_cons,List.not_mem_nil,or_false] at hp;rcases hp with rfl | rfl | rfl | rfl | rfl <;> exact⟨by dsimp only[AE.l,AE.d,AE.r,AE.u] at *; omega,by dsimp only[AE.l,AE.d,AE.r,AE.u] at *; omega,by dsimp only[AE.l,AE.d,AE.r,AE.u] at *; omega,by dsimp only[AE.l,AE.d,AE.r,AE.u] at *; omega⟩
 ·rw[DD,DD,DD,DD,DD,Ij];simp only[Dd,AE.l,AE.d,AE.r,AE.u] at *;by_cases c1:s<b.1 <;> by_cases c2:s<x <;> by_cases c3:s<f <;> by_cases c4:s<b.2.2.1 <;> by_cases d1:t<b.2.1 <;> by_cases d2:t<y <;> by_cases d3:t<u <;> by_cases d4:t<b.2.2.2 <;> (try omega) <;> (repeat (first | rw[if_pos (by omega)] | rw[if_neg (by omega)]))
theorem VB{b:AE}(h1:b.l<b.r)(h2:b.d<b.u):FD b [b]:=by
 refine⟨λp hp=>?_,λp hp=>?_,λs t=>?_⟩
 ·rw[List.mem_singleton.mp hp]; exact⟨h1,h2⟩
 ·rw[List.mem_singleton.mp hp]; exact⟨Int.le_refl _,Int.le_refl _,Int.le_refl _,Int.le_refl _⟩
 ·rw[DD,Ij]; omega
section
variable {w h k:Int} {bs A B:List AE} {b:AE}
theorem CB.ZO(t:CB w h (A++b :: B)){x y:Int}(hb:Cj x y b=true){cs:List AE}(hc:∀c∈cs,Cj x y c=false):¬FJ w h (A++cs++B):=by
 intro f;have ib:=t.BY b (by simp);have hb':=Dd.mp hb;have hx:=Pz ib hb;have one:=t.one x y hx.1 hx.2.1 hx.2.2.1 hx.2.2.2;rw[List.countP_append,DD,if_pos hb] at one;obtain⟨c,hc1,hc2⟩:=f x y hx.1 hx.2.1 hx.2.2.1 hx.2.2.2;have pos:∀{l:List AE},c∈l->0<l.countP (Cj x y):=λhl=>List.countP_pos_iff.mpr ⟨c,hl,hc2⟩
 rcases List.mem_append.mp hc1 with z | z
 ·rcases List.mem_append.mp z with z | z
  ·have:=pos z; omega
  ·rw[hc c z] at hc2; cases hc2
 ·have:=pos z; omega
theorem MC(h1:b.l<b.r)(h2:b.d<b.u):Cj b.l b.d b=true:=Dd.mpr ⟨Int.le_refl _,h1,Int.le_refl _,h2⟩
theorem CB.out(t:CB w h (A++b :: B))(h1:b.l<b.r)(h2:b.d<b.u):¬FJ w h (A++B):=by
 have:=t.ZO (MC h1 h2) (cs:=[]) (λc hc=>by cases hc)
 rwa [List.append_nil] at this
structure SQ(R:AE)(S:AE->Prop):Prop where
 tru:∀b,S b->b.l<b.r/\b.d<b.u
 BY:∀b,S b->R.l<=b.l/\R.d<=b.d/\b.r<=R.r/\b.u<=R.u
 Dk:∀a b,S a->S b->a.l<b.r->b.l<a.r->a.d<b.u->b.d<a.u->a=b
 Gf:∀x y,R.l<=x->x<R.r->R.d<=y->y<R.u->∃b,S b/\b.l<=x/\x<b.r/\b.d<=y/\y<b.u
theorem X3{a b:AE}(h1:a.l=b.l)(h2:a.d=b.d)(h3:a.r=b.r)(h4:a.u=b.u):a=b:=by
 obtain⟨a1,a2,a3,a4⟩:=a;obtain⟨b1,b2,b3,b4⟩:=b;dsimp only[AE.l,AE.d,AE.r,AE.u] at *;rw[h1,h2,h3,h4]
def tp(b:AE):AE:=(b.d,b.l,b.u,b.r)
def NO(S:AE->Prop):Prop:=∀e a b f,S e->S a->S b->S f->¬(a.r=e.r/\a.d=e.u/\b.l=e.r/\b.d=e.u/\f.l=e.r/\f.u=e.u)
inductive GJ:AE->(AE->Prop)->Prop
 | one {R:AE} {S:AE->Prop}:(∀b,S b↔b=R)->GJ R S
 | Z9 {R:AE} {S:AE->Prop} (x:Int):R.l<x->x<R.r->(∀b,S b->b.r<=x\/x<=b.l)->GJ (R.l,R.d,x,R.u) (λb=>S b/\b.r<=x)->GJ (x,R.d,R.r,R.u) (λb=>S b/\x<=b.l)->GJ R S
 | Z7 {R:AE} {S:AE->Prop} (y:Int):R.d<y->y<R.u->(∀b,S b->b.u<=y\/y<=b.d)->GJ (R.l,R.d,R.r,y) (λb=>S b/\b.u<=y)->GJ (R.l,y,R.r,R.u) (λb=>S b/\y<=b.d)->GJ R S
theorem NO.sub{S T:AE->Prop}(g:NO S)(h:∀b,T b->S b):NO T:=λe a b f he ha hb hf=>g e a b f (h e he) (h a ha) (h b hb) (h f hf)
theorem GJ.some{R:AE}{S:AE->Prop}(h:GJ R S):(∀b,S b↔b=R)\/∃a b,S a/\S b/\((a.r=b.l/\a.d=b.d/\a.u=b.u)\/(a.u=b.d/\a.l=b.l/\a.r=b.r)):=by
 induction h with
 | one h=>exact .inl h
 | @Z9 R S x h1 h2 h3 s1 s2 i1 i2 =>
  rcases i1 with z1 | ⟨a,b,ha,hb,k⟩
  ·rcases i2 with z2 | ⟨a,b,ha,hb,k⟩
   ·exact .inr ⟨_,_,((z1 _).mpr rfl).1,((z2 _).mpr rfl).1,.inl ⟨rfl,rfl,rfl⟩⟩
   ·exact .inr ⟨a,b,ha.1,hb.1,k⟩
  ·exact .inr ⟨a,b,ha.1,hb.1,k⟩
 | @Z7 R S y h1 h2 h3 s1 s2 i1 i2 =>
  rcases i1 with z1 | ⟨a,b,ha,hb,k⟩
  ·rcases i2 with z2 | ⟨a,b,ha,hb,k⟩
   ·exact .inr ⟨_,_,((z1 _).mpr rfl).1,((z2 _).mpr rfl).1,.inr ⟨rfl,rfl,rfl⟩⟩
   ·exact .inr ⟨a,b,ha.1,hb.1,k⟩
  ·exact .inr ⟨a,b,ha.1,hb.1,k⟩
theorem XI{α:Type}[DecidableEq α]{l m:List α}(h1:l.Nodup)(h2:∀r∈l,r∈m)(h3:m.length<=l.length):∀r∈m,r∈l:=by
 have key:∀(l m:List α),l.Nodup->(∀r∈l,r∈m)->∃k,m.Perm (l++k):=by
  intro l
  induction l with
  | nil=>exact λm _ _=>⟨m,.refl _⟩
  | cons x l ih =>
   intro m h1 h2;obtain⟨n1,n2⟩:=List.nodup_cons.mp h1;obtain⟨k,p⟩:=ih (m.erase x) n2 λr hr=>by
    have ne:r≠x:=λz=>n1 (z ▸ hr)
    exact(List.mem_erase_of_ne ne).mpr (h2 r (List.mem_cons_of_mem _ hr))
   exact⟨k,(List.perm_cons_erase (h2 x List.mem_cons_self)).trans (p.cons x)⟩
 obtain⟨k,p⟩:=key l m h1 h2
 have:=p.length_eq
 rw[List.length_append] at this;obtain rfl:k=[]:=List.eq_nil_of_length_eq_zero (by omega);rw[List.append_nil] at p;exact λr hr=>p.mem_iff.mp hr
theorem SQ.four{R:AE}{bs:List AE}(t:SQ R (·∈bs))(hR:R.l<R.r/\R.d<R.u)(n:bs.length<=4):
  (∀b,b∈bs↔b=R)\/(∃x,R.l<x/\x<R.r/\∀b∈bs,b.r<=x\/x<=b.l)\/(∃y,R.d<y/\y<R.u/\∀b∈bs,b.u<=y\/y<=b.d):=by
 obtain⟨A,hA,a1,a2,a3,a4⟩:=t.Gf R.l R.d (by omega) (by omega) (by omega) (by omega);obtain⟨B,hB,b1,b2,b3,b4⟩:=t.Gf (R.r-1) R.d (by omega) (by omega) (by omega) (by omega);obtain⟨C,hC,c1,c2,c3,c4⟩:=t.Gf (R.r-1) (R.u-1) (by omega) (by omega) (by omega) (by omega);obtain⟨D,hD,d1,d2,d3,d4⟩:=t.Gf R.l (R.u-1) (by omega) (by omega) (by omega) (by omega);have iA:=t.BY A hA;have iB:=t.BY B hB;have iC:=t.BY C hC;have iD:=t.BY D hD;have all:∀X,X∈bs->X.l=R.l->X.r=R.r->X.d=R.d->X.u=R.u->(∀b,b∈bs↔b=R):=λX hX e1 e2 e3 e4 b=>by
  have eX:X=R:=X3 e1 e3 e2 e4;subst eX;refine⟨λhb=>?_,λz=>by rw[z]; exact hX⟩
  have:=t.tru b hb
  have:=t.BY b hb
  exact t.Dk b X hb hX (by omega) (by omega) (by omega) (by omega)
 have tall:∀X,X∈bs->X.d=R.d->X.u=R.u->(∀b∈bs,b.r<=X.r\/X.r<=b.l)/\(∀b∈bs,b.r<=X.l\/X.l<=b.l):=λX hX e1 e2=>by
  have tX:=t.tru X hX;refine⟨λb hb=>?_,λb hb=>?_⟩
  ·have:=t.tru b hb
   have:=t.BY b hb
   by_cases z:b.r<=X.r\/X.r<=b.l
   ·exact z
   ·have:=t.Dk b X hb hX (by omega) (by omega) (by omega) (by omega)
    subst this; omega
  ·have:=t.tru b hb
   have:=t.BY b hb
   by_cases z:b.r<=X.l\/X.l<=b.l
   ·exact z
   ·have:=t.Dk b X hb hX (by omega) (by omega) (by omega) (by omega)
    subst this; omega
 have flat:∀X,X∈bs->X.l=R.l->X.r=R.r->(∀b∈bs,b.u<=X.u\/X.u<=b.d)/\(∀b∈bs,b.u<=X.d\/X.d<=b.d):=λX hX e1 e2=>by
  have tX:=t.tru X hX;refine⟨λb hb=>?_,λb hb=>?_⟩
  ·have:=t.tru b hb
   have:=t.BY b hb
   by_cases z:b.u<=X.u\/X.u<=b.d
   ·exact z
   ·have:=t.Dk b X hb hX (by omega) (by omega) (by omega) (by omega)
    subst this; omega
  ·have:=t.tru b hb
   have:=t.BY b hb
   by_cases z:b.u<=X.d\/X.d<=b.d
   ·exact z
   ·have:=t.Dk b X hb hX (by omega) (by omega) (by omega) (by omega)
    subst this; omega
 by_cases AB:A=B
 ·subst AB;by_cases z:A.u=R.u
  ·exact .inl (all A hA (by omega) (by omega) (by omega) z)
  ·exact .inr (.inr ⟨A.u,by omega,by omega,(flat A hA (by omega) (by omega)).1⟩)
 by_cases AD:A=D
 ·subst AD;by_cases z:A.r=R.r
  ·exact .inl (all A hA (by omega) (by omega) (by omega) (by omega))
  ·exact .inr (.inl ⟨A.r,by omega,by omega,(tall A hA (by omega) (by omega)).1⟩)
 by_cases BC:B=C
 ·subst BC;by_cases z:B.l=R.l
  ·exact .inl (all B hB (by omega) (by omega) (by omega) (by omega))
  ·exact .inr (.inl ⟨B.l,by omega,by omega,(tall B hB (by omega) (by omega)).2⟩)
 by_cases CD:C=D
 ·subst CD;by_cases z:C.d=R.d
  ·exact .inl (all C hC (by omega) (by omega) (by omega) (by omega))
  ·exact .inr (.inr ⟨C.d,by omega,by omega,(flat C hC (by omega) (by omega)).2⟩)
 by_cases AC:A=C
 ·subst AC;exact .inl (all A hA (by omega) (by omega) (by omega) (by omega))
 by_cases BD:B=D
 ·subst BD;exact .inl (all B hB (by omega) (by omega) (by omega) (by omega))
 have mem:=XI (l:=[A,B,C,D]) (m:=bs) (by simp[AB,AC,AD,BC,BD,CD]) (λr hr=>by
  simp only[List.mem_cons,List.not_mem_nil,or_false] at hr;rcases hr with rfl | rfl | rfl | rfl <;> assumption) n
 have four:∀x y,R.l<=x->x<R.r->R.d<=y->y<R.u->(A.l<=x/\x<A.r/\A.d<=y/\y<A.u)\/(B.l<=x/\x<B.r/\B.d<=y/\y<B.u)\/(C.l<=x/\x<C.r/\C.d<=y/\y<C.u)\/(D.l<=x/\x<D.r/\D.d<=y/\y<D.u):=λx y h1 h2 h3 h4=>by
  obtain⟨b,hb,k⟩:=t.Gf x y h1 h2 h3 h4
  have:=mem b hb
  simp only[List.mem_cons,List.not_mem_nil,or_false] at this;rcases this with rfl | rfl | rfl | rfl
  ·exact .inl k
  ·exact .inr (.inl k)
  ·exact .inr (.inr (.inl k))
  ·exact .inr (.inr (.inr k))
 have nAB:¬(A.l<B.r/\B.l<A.r/\A.d<B.u/\B.d<A.u):=λ⟨z1,z2,z3,z4⟩=>AB (t.Dk _ _ hA hB z1 z2 z3 z4)
 have nAC:¬(A.l<C.r/\C.l<A.r/\A.d<C.u/\C.d<A.u):=λ⟨z1,z2,z3,z4⟩=>AC (t.Dk _ _ hA hC z1 z2 z3 z4)
 have nAD:¬(A.l<D.r/\D.l<A.r/\A.d<D.u/\D.d<A.u):=λ⟨z1,z2,z3,z4⟩=>AD (t.Dk _ _ hA hD z1 z2 z3 z4)
 have nBC:¬(B.l<C.r/\C.l<B.r/\B.d<C.u/\C.d<B.u):=λ⟨z1,z2,z3,z4⟩=>BC (t.Dk _ _ hB hC z1 z2 z3 z4)
 have nBD:¬(B.l<D.r/\D.l<B.r/\B.d<D.u/\D.d<B.u):=λ⟨z1,z2,z3,z4⟩=>BD (t.Dk _ _ hB hD z1 z2 z3 z4)
 have nCD:¬(C.l<D.r/\D.l<C.r/\C.d<D.u/\D.d<C.u):=λ⟨z1,z2,z3,z4⟩=>CD (t.Dk _ _ hC hD z1 z2 z3 z4)
 have tA:=t.tru A hA;have tB:=t.tru B hB;have tC:=t.tru C hC;have tD:=t.tru D hD;have eAB:B.l=A.r:=by
  have:=four A.r R.d (by omega) (by omega) (by omega) (by omega)
  omega
 have eDC:C.l=D.r:=by
  have:=four D.r (R.u-1) (by omega) (by omega) (by omega) (by omega)
  omega
 have eAD:D.d=A.u:=by
  have:=four R.l A.u (by omega) (by omega) (by omega) (by omega)
  omega
 have eBC:C.d=B.u:=by
  have:=four (R.r-1) B.u (by omega) (by omega) (by omega) (by omega)
  omega
 by_cases z1:A.r=D.r
 ·refine .inr (.inl ⟨A.r,by omega,by omega,λb hb=>?_⟩)
  have:=mem b hb
  simp only[List.mem_cons,List.not_mem_nil,or_false] at this;rcases this with rfl | rfl | rfl | rfl <;> omega
 by_cases z2:A.u=B.u
 ·refine .inr (.inr ⟨A.u,by omega,by omega,λb hb=>?_⟩)
  have:=mem b hb
  simp only[List.mem_cons,List.not_mem_nil,or_false] at this;rcases this with rfl | rfl | rfl | rfl <;> omega
 exfalso
 rcases Int.lt_or_gt_of_ne z1 with z1 | z1 <;> rcases Int.lt_or_gt_of_ne z2 with z2 | z2
 ·exact nBD (by omega)
 ·have:=four A.r B.u (by omega) (by omega) (by omega) (by omega)
  omega
 ·have:=four D.r A.u (by omega) (by omega) (by omega) (by omega)
  omega
 ·exact nAC (by omega)
def HM(a b:AE):AE:=(min a.l b.l,min a.d b.d,max a.r b.r,max a.u b.u)
structure Je(w h:Int)(bs:List AE):Prop where
 HI:CB w h bs
 tru:∀b∈bs,b.l<b.r/\b.d<b.u
theorem Je.Gh{w h:Int}{bs cs:List AE}(t:Je w h bs)(p:cs.Perm bs):Je w h cs:=⟨t.HI.Gh p,λb hb=>t.tru b (p.mem_iff.mp hb)⟩
theorem Je.nd{w h:Int}{bs:List AE}(t:Je w h bs):bs.Nodup:=by
 refine List.Pairwise.imp_of_mem (λ{a b} ha hb k e=>?_) t.HI.LD;subst e
 have:=t.tru a ha
 rw[G0.mpr ⟨by omega,by omega,by omega,by omega,by omega,by omega,by omega,by omega⟩] at k;cases k
def FO{α:Type}(f:α->α->α)(d:α)(l:List α)(j k:Nat):List α:=(l.set j (f (l.getD j d) (l.getD k d))).eraseIdx k
theorem Vr{α:Type}{f:α->α->α}{d:α}{l:List α}{j k:Nat}(jk:j<k)(hk:k<l.length):∃A B C a b,l=A++a :: (B++b :: C)/\l.getD j d=a/\l.getD k d=b/\FO f d l j k=A++f a b :: (B++C):=by
 refine⟨l.take j,(l.drop (j+1)).take (k-(j+1)),l.drop (k+1),l[j],l[k],?_,?_,?_,?_⟩
 ·have e1:l=l.take j++l.drop j:=(List.take_append_drop ..).symm;have e2:l.drop j=l[j] :: l.drop (j+1):=List.drop_eq_getElem_cons (by omega);have e3:l.drop (j+1)=(l.drop (j+1)).take (k-(j+1))++(l.drop (j+1)).drop (k-(j+1)):=(List.take_append_drop ..).symm;have e4:(l.drop (j+1)).drop (k-(j+1))=l[k] :: l.drop (k+1):=by
   rw[List.drop_drop,show j+1+(k-(j+1))=k by omega];exact List.drop_eq_getElem_cons hk
  rw[<-e4,<-e3,<-e2,<-e1]
 ·simp[show j<l.length by omega]
 ·simp[hk]
 ·unfold FO;have e:l.getD j d=l[j]:=by simp[show j<l.length by omega]
  have e':l.getD k d=l[k]:=by simp[hk]
  rw[e,e',List.eraseIdx_eq_take_drop_succ,List.set_eq_take_append_cons_drop,if_pos (by omega)];rw[List.take_append,List.drop_append];simp only[List.length_take,Nat.min_eq_left (show j<=l.length by omega)];rw[List.take_of_length_le (l:=l.take j) (i:=k) (by rw[List.length_take]; omega),List.drop_of_length_le (l:=l.take j) (i:=k+1) (by rw[List.length_take]; omega),List.nil_append];rw[show k-j=(k-(j+1))+1 by omega,List.take_succ_cons,show k+1-j=(k+1-(j+1))+1 by omega,List.drop_succ_cons,List.drop_drop,show j+1+(k+1-(j+1))=k+1 by omega];simp
theorem QQ{α:Type}{f:α->α->α}{d:α}{l:List α}{j k:Nat}(jk:j<k)(hk:k<l.length):(FO f d l j k).length+1=l.length:=by
 obtain⟨A,B,C,a,b,e1,_,_,e2⟩:=Vr (f:=f) (d:=d) jk hk;rw[e2,e1]; simp; omega
end
end Fl
namespace My
open PySem L2 Mth
theorem AY{H:Hp}{p:Addr}(h:H p=none)(o:HO):AQ H (AJ H p o):=λb u q=>by rw[Ao (A7 q h)]; exact q
def Ba(x:Addr)(H H':Hp):Prop:=∀b o,b≠x->H b=some o->H' b=some o
theorem Ba.refl(x:Addr)(H:Hp):Ba x H H:=λ_ _ _ h=>h
theorem Ba.put{x:Addr}{H H':Hp}(h:Ba x H H')(o:HO):Ba x H (AJ H' x o):=λb u n q=>by rw[Ao n]; exact h b u n q
theorem Ba.trans{x:Addr}{H H1 H2:Hp}(a:Ba x H H1)(b:Ba x H1 H2):Ba x H H2:=λc o n h=>b c o n (a c o n h)
theorem _root_.L2.AQ.b{x:Addr}{H H':Hp}(h:AQ H H'):Ba x H H':=λb o _ q=>h b o q
theorem Ba.Gq{x:Addr}{H0 H H':Hp}(h:Ba x H H')(s:AQ H0 H)(n:H0 x=none):AQ H0 H':=λb o q=>h b o (A7 q n) (s b o q)
theorem Ba.one{x:Addr}{H:Hp}{o:HO}:Ba x H (AJ H x o):=(Ba.refl x H).put o
theorem _root_.L2.AQ.up{x:Addr}{H0 H:Hp}(s:AQ H0 H)(n:H0 x=none)(o:HO):AQ H0 (AJ H x o):=Ba.one.Gq s n
theorem CG{c A B:Prop}[Decidable c](hc:¬c)(h:A):if (!decide c)=true then A else B:=by
 rw[decide_eq_false hc];exact Bk h
theorem A8{c A B:Prop}[Decidable c](hc:c)(h:A):if decide c=true then A else B:=by
 rw[decide_eq_true hc];exact Bk h
theorem Am{c A B:Prop}[Decidable c](hc:¬c)(h:B):if decide c=true then A else B:=by
 rw[decide_eq_false hc];exact BX h
theorem iv{a b:Int}(h:a=b):V.int a=V.int b:=by rw[h]
theorem FV{a b:Int}(h:a≠b):¬V.int a=V.int b:=λz=>h (V.int.inj z)
theorem aH{n:Nat}(h:n<=100000):n<sizeLine:=by rw[sizeLine_eq]; omega
def NW(H:Hp)(a:Addr)(bs:List Addr)(ts:List (List Int)):Prop :=
 H a=some (.AG (bs.map V.ref))/\bs.length=ts.length/\∀(i:Nat) (b:Addr) (row:List Int),bs[i]?=some b->ts[i]?=some row->H b=some (.AG (row.map V.int))
theorem NW.keep{H H':Hp}{a:Addr}{bs:List Addr}{ts:List (List Int)}(h:NW H a bs ts)(s:AQ H H'):NW H' a bs ts :=
 ⟨s _ _ h.1,h.2.1,λi b row e1 e2=>s _ _ (h.2.2 i b row e1 e2)⟩
theorem int_at{row:List Int}{i:Nat}{x:V}(h:(row.map V.int)[i]?=some x):∃e,x=.int e/\row[i]?=some e:=by
 rw[List.getElem?_map] at h;cases q:row[i]? with
 | none=>rw[q] at h; cases h
 | some e =>
  rw[q] at h;exact⟨e,(Option.some.inj h).symm,rfl⟩
theorem FK(x y z:V):BR [x,y,z] 0=some x:=Ap (j:=0) rfl
theorem HP(x y z:V):BR [x,y,z] 1=some y:=Ap (j:=1) rfl
theorem EB(x y z:V):BR [x,y,z] 2=some z:=Ap (j:=2) rfl
theorem C8{x y:V}:BR [x,y] 0=some x:=Ap (j:=0) rfl
theorem Cb{x y:V}:BR [x,y] 1=some y:=Ap (j:=1) rfl
theorem Jw(xs:List V){j:Nat}(h:j<=xs.length):B5 xs none (some (j:Int))=xs.take j:=by
 unfold B5;have e1:HT.Ai xs.length 0 none=0:=rfl;have e2:HT.Ai xs.length xs.length (some (j:Int))=j:=by simp[HT.Ai]; rw[if_neg (by omega)]; omega
 rw[e1,e2]; simp
theorem Lk(xs:List V){j:Nat}(h:j<=xs.length):B5 xs (some (j:Int)) none=xs.drop j:=by
 unfold B5;have e1:HT.Ai xs.length 0 (some (j:Int))=j:=by simp[HT.Ai]; rw[if_neg (by omega)]; omega
 have e2:HT.Ai xs.length xs.length none=xs.length:=rfl;rw[e1,e2,List.take_of_length_le]; simp
theorem ES{n:Nat}(h:n<=100000):n<=sizeLine:=Nat.le_of_lt (aH h)
def Ky(H:Hp)(b:Addr)(ns:List Int):Prop:=H b=some (.AG (ns.map V.int))
theorem Ky.del{H:Hp}{a b:Addr}{t:List Int}{ys:List V}(h:Ky H b t)(e:H a=some (.AN ys)):Ky (del H a) b t:=Fj h λz=>by rw[z] at h; unfold Ky at h; rw[e] at h; cases h
theorem Ia{n j:Nat}(h:j<n):FP n ((j:Nat):Int)=some j:=by unfold FP; rw[if_pos (by omega),if_pos (by omega)]; simp
theorem P9{i:Nat}{v:V}{σ:L2.St}{H:Hp}{k:L2.St->Hp->Prop}(h:k (σ.set i (some v)) H):B9 i v σ H k:=h
theorem nx_go{D:Cz}{f:L2.St->Hp->Prop}{σ:L2.St}{H:Hp}(h:f σ H):({ D with nx:=f }:Cz).nx σ H:=h
theorem IZ{t u:L2.TS}{D:Cz}{σ:L2.St}{H:Hp}{G:L2.St->Hp->Prop}(m:(∀σ H,G σ H->u D σ H)->t { D with nx:=u D } σ H)(r:∀σ H,G σ H->u D σ H):NG t u D σ H:=m r
theorem X9{i:Int}{n:Nat}(h:i.natAbs<2 ^ n)(hn:n<=8000):B3 i:=Nat.lt_of_lt_of_le h (Nat.pow_le_pow_right (by decide) hn)
abbrev IL(K:PySem.W.Frag)(H:Hp)(a:Addr)(ns:List Int):Prop:=AR K H a (ns.map V.int)/\ns.length<=63
end My
namespace My
open PySem
def Av(i:Nat):Stmt:=PySem.Challenge.pw_currentfloor_k45_steps_refused.main.body.getD i (.Pass ⟨0,0,0,0⟩)
abbrev sCommon:Stmt:=Av 6
abbrev sFraction:Stmt:=Av 7
abbrev sLess:Stmt:=Av 8
abbrev sCBot:Stmt:=Av 9
abbrev sWholes:Stmt:=Av 10
abbrev s_rising:Stmt:=Av 12
abbrev s_numbers_of:Stmt:=Av 13
abbrev s_whole_floor:Stmt:=Av 14
abbrev s_is_neither:Stmt:=Av 16
abbrev s_is_out:Stmt:=Av 17
abbrev s_overlap:Stmt:=Av 18
abbrev s_first_overlap:Stmt:=Av 19
abbrev s_borders:Stmt:=Av 20
abbrev s_covered_cells:Stmt:=Av 21
abbrev s_first_gap:Stmt:=Av 22
abbrev s_looked_whole:Stmt:=Av 23
abbrev s_looked:Stmt:=Av 24
abbrev s_covers:Stmt:=Av 25
abbrev s_is_pair:Stmt:=Av 27
abbrev s_touches:Stmt:=Av 28
abbrev s_common_level:Stmt:=Av 29
abbrev s_is_above:Stmt:=Av 30
abbrev s_is_beside:Stmt:=Av 31
abbrev s_together:Stmt:=Av 32
abbrev s_check_fits:Stmt:=Av 33
abbrev s_joined:Stmt:=Av 34
abbrev s_parting:Stmt:=Av 35
abbrev sInit:Stmt:=L2.D1 (Av 36) 0
abbrev sFitsA:Stmt:=L2.D1 (Av 37) 1
abbrev sDoneA:Stmt:=L2.D1 (Av 37) 2
abbrev sBackA:Stmt:=L2.D1 (Av 37) 3
abbrev sFitsB:Stmt:=L2.D1 (Av 38) 1
abbrev sDoneB:Stmt:=L2.D1 (Av 38) 2
abbrev sBackB:Stmt:=L2.D1 (Av 38) 3
abbrev sInitS:Stmt:=L2.D1 (Av 39) 0
abbrev sMadeS:Stmt:=L2.D1 (Av 39) 2
abbrev sJoiningS:Stmt:=L2.D1 (Av 39) 3
abbrev sFitsS:Stmt:=L2.D1 (Av 39) 4
abbrev sDoneS:Stmt:=L2.D1 (Av 39) 5
abbrev sBackS:Stmt:=L2.D1 (Av 39) 6
abbrev s_step_of:Stmt:=Av 40
abbrev s_walked:Stmt:=Av 42
abbrev sCellAt:Stmt:=Av 44
abbrev s_law_lowest:Stmt:=Av 45
abbrev s_law_wheel:Stmt:=Av 46
abbrev s_law_two:Stmt:=Av 47
abbrev s_law_broken:Stmt:=Av 48
abbrev s_law_built:Stmt:=Av 49
abbrev s_law_scaled_one:Stmt:=Av 50
abbrev s_law_scaled:Stmt:=Av 51
abbrev s_law_floor_of:Stmt:=Av 52
abbrev s_law_side:Stmt:=Av 53
abbrev s_law_scale_by:Stmt:=Av 54
abbrev s_law_above:Stmt:=Av 55
abbrev s_law_beside:Stmt:=Av 56
abbrev s_law_fitting:Stmt:=Av 57
abbrev s_law_done:Stmt:=Av 58
abbrev s_law_asked:Stmt:=Av 59
abbrev s_law_word:Stmt:=Av 60
abbrev s_law_split_by:Stmt:=Av 61
abbrev sLaw:Stmt:=Av 62
open L2 Mth
section
variable {P:Program} {w:World} {K:PySem.W.Frag} {mg:Str->Option Value} {base:Heap}
inductive QB(vs:List V)(H:Hp)(Q:VK):Prop
 | mk (a b:Int) (h_0:vs=[.int a,.int b]) (h_1:Q (.int (Int.gcd a b:Int)) H):QB vs H Q
def K3:Sp:=λvs H Q _=>QB vs H Q
theorem Pd{x:Int}{n:Nat}(h:Int.gcd x 0=n):(if x<0 then -x else x)=(n:Int):=by
 rw[<-h,Int.gcd_zero_right];split <;> omega
theorem LG:Ar ["one","other","rest"] ["one","other"] (Aj sCommon):=Aw
theorem U5{f:Addr}{fd:FuncData}(F:Ag K "common_part" "common_part" sCommon f fd)(ma:mg "abs" = none):AH P w K mg base AM 1 f fd ["one","other"] K3:=by
 refine F.ok LG (λvs H Q E h=>?_) (λcdv A outer s H vs Q E hr h=>?_)
 ·obtain⟨a,b,rfl,_⟩:=h;rfl
 obtain⟨a,b,rfl,q⟩:=h;refine⟨_,AS (Od PassesOwn.never (Aq CQ (pv 1) AF (Ac _))
   (AS (Ad (i:=2) LG.nd rfl (Or.inl rfl) (AX Wb (pv 0) (pv 1)))
   (AS (Ad (i:=0) LG.nd rfl (Or.inl rfl) (pv 1))
   (AU (Ad (i:=1) LG.nd rfl (Or.inl rfl) (pv 2))))))
  (AU (Ab (BE Ot (by rfl) ma PyProof.Rows.boot_abs (AA (pv 0) AI)))),?_⟩
 refine PH (λσ H2=>∃x y r,σ=[some (.int x),some (.int y),r]/\H2=H/\Int.gcd x y=Int.gcd a b) (λσ _=>match σ with | [_,some (.int y),_]=>y.natAbs | _=>0) ⟨a,b,none,rfl,rfl,rfl⟩ ?_ ?_
 ·rintro σ H2 ⟨x,y,r,rfl,rfl,g⟩;refine⟨_,rfl,rfl,_,rfl,?_⟩;by_cases hy:y=0
  ·refine CH (iv hy) ?_;subst hy;refine⟨_,rfl,x,rfl,?_⟩;rw[Pd g];exact q
  ·refine CG (FV hy) ?_;exact⟨_,rfl,_,rfl,_,_,rfl,rfl,hy,_,rfl,_,rfl,⟨y,x.fmod y,some (.int (x.fmod y)),rfl,rfl,(Oy x y).trans g⟩,XG x y hy⟩
 ·rintro σ H2 Q1 Q2 hq ⟨v,e,sc,b,eb,z⟩;exact⟨v,e,sc,b,eb,hq _ _ z⟩
theorem Oi{X:Cx}{st:Stmt}:PS X st (λ_ _ _=>False):=by
 intro pins s σ H D I h;exact False.elim h
inductive QA(C:Addr)(vs:List V)(H:Hp)(Q:VK)(E:XK):Prop
 | mk (t b:Int) (h_0:vs=[.int t,.int b]) (h_1:B3 b) (h_2:(b=0->False)) (h_3:(b≠0->∀p,H p=none->Q (.ref p) (AJ H p (.AG [.int (BA t b).1,.int (BA t b).2])))):QA C vs H Q E
def KW(C:Addr):Sp:=λvs H Q E=>QA C vs H Q E
theorem NV:Ar ["top","bottom","part"] ["top","bottom"] (Aj sFraction):=Aw
theorem Sz{f g C:Addr}{fd gd:FuncData}(F:Ag K "fraction" "fraction" sFraction f fd)(G:AH P w K mg base AM 1 g gd ["one","other"] K3)(bG:AW K gd ["one","other"] [])(kG:KP K g)(mG:mg "common_part" = some (.ref g)):AH P w K mg base AM 2 f fd ["top","bottom"] (KW C):=by
 refine F.ok NV (λvs H Q E h=>?_) (λcdv A outer s H vs Q E hr h=>?_)
 ·obtain⟨a,b,rfl,_⟩:=h;rfl
 obtain⟨t,b,rfl,hb,h0,h1⟩:=h;refine⟨_,AS (A0 (Aq Bt (pv 1) AF (Ac _)) (AU Oi) A2)
  (AS (Ad (i:=2) NV.nd rfl (Or.inl rfl) (Ah (CX:=AM) G hr (by rfl) mG kG bG .nil (Ae (X:=_)) (AA (pv 0) (AA (pv 1) AI))))
  (AS (A0 (Aq Cy (pv 1) AF (Ac _)) (AU (Ad (i:=2) NV.nd rfl (Or.inl rfl) (Mj ME (pv 2)))) A2)
  (AU (Ab (Ax (AA (AX He (pv 0) (pv 2)) (AA (AX He (pv 1) (pv 2)) AI))))))),?_⟩
 refine⟨_,rfl,rfl,_,rfl,?_⟩;by_cases hz:b=0
 ·refine A8 (iv hz) ?_;exact(h0 hz).elim
 refine Am (FV hz) ?_;refine⟨_,rfl,_,rfl,t,b,rfl,?_⟩;refine⟨_,rfl,_,_,rfl,rfl,_,rfl,?_⟩;have fin:∀part,part=Mth.part t b->HQ (FL (Ay (BK (rI Hw λi j=>V.int (i.fdiv j)) (Al 0) (Al 2)) (Ay (BK (rI Hw λi j=>V.int (i.fdiv j)) (Al 1) (Al 2)) Bc)))
   { nx:=λ_ H'=>Q .An H',rt:=Q } [some (.int t),some (.int b),some (.int part)] H:=by
  rintro part rfl;have hp:Hw t (Mth.part t b):=⟨J5 t b hz,Nat.lt_of_le_of_lt (Pk t b hz) hb⟩;exact⟨_,rfl,_,rfl,_,_,rfl,rfl,hp,_,rfl,_,rfl,_,_,rfl,rfl,hp,by exact sz2,h1 hz⟩
 by_cases hn:b<0
 ·refine A8 hn ?_;exact⟨_,rfl,_,rfl,fin _ (by unfold Mth.part; rw[if_pos hn])⟩
 ·refine Am hn ?_;exact fin _ (by unfold Mth.part; rw[if_neg hn])
open Wd
theorem Pt{x:Addr}{H0 H:Hp}(s:AQ H0 H)(n:H0 x=none)(o:HO):AQ H0 (AJ H x o):=λb u q=>by rw[Ao (A7 q n)]; exact s b u q
theorem ER{i:Int}{n:Nat}(h:i.natAbs<=2 ^ n)(hn:n<8000):B3 i:=Nat.lt_of_le_of_lt h (Nat.pow_lt_pow_right (by decide) hn)
theorem Lv{ns:List Int}{i:Nat}{v:V}(h:(ns.map V.int)[i]?=some v):∃e,v=.int e/\ns[i]?=some e:=by
 rw[List.getElem?_map] at h;cases q:ns[i]? with
 | none=>rw[q] at h; cases h
 | some e=>rw[q] at h; exact⟨e,(Option.some.inj h).symm,rfl⟩
theorem KJ{ns:List Int}{i:Nat}(h:i<ns.length):BR (ns.map V.int) (i:Int)=some (.int (ns.getD i 0)):=by
 refine Ap ?_;rw[List.getElem?_map,List.getElem?_eq_getElem h,List.getD_eq_getElem?_getD,List.getElem?_eq_getElem h]; rfl
theorem Dw{α:Type}{xs:List α}{i:Nat}{x:α}(h:xs[i]?=some x):xs.take (i+1)=xs.take i++[x]:=by
 rw[List.take_add_one,h]; rfl
variable {f g h C:Addr} {fd gd hd:FuncData}
theorem LF:Ar ["row","common","one"] ["row"] (Aj sCBot):=Aw
inductive OE(vs:List V)(H:Hp)(Q:VK):Prop
 | mk (a:Addr) (qs:List Rat) (b:Int) (h_0:vs=[.ref a,.int b]) (h_1:A5 Aa H a qs) (h_2:qs.length<=1000) (h_3:(∀q∈qs,B3 q.num/\B3 (q.den:Int)/\B3 (b.fdiv q.den))) (h_4:∀p H',AQ H H'->H p=none->FC H' p (qs.map (wh b))->Q (.ref p) H'):OE vs H Q
def Jq:Sp:=λvs H Q _=>OE vs H Q
theorem ZP:Ar ["row","bottom"] ["row","bottom"] (Aj sWholes):=Aw
theorem ZK:(["one","bottom"]:List Str).Nodup:=by decide +kernel
theorem T6(F:Ag K "wholes" "wholes" sWholes f fd):AH P w K mg base AM 1 f fd ["row","bottom"] Jq:=by
 refine F.ok ZP (λvs H Q E h=>?_) (λcdv A outer s H vs Q E hr h=>?_)
 ·obtain⟨a,qs,b,rfl,_⟩:=h;rfl
 obtain⟨a,qs,b,rfl,⟨bs,ha,hA⟩,hn,hsz,q⟩:=h;refine⟨_,AU (Ab (Hj (Nc:=["one","bottom"]) (cap:=[(1,1)]) (g:=B9 0) (te:=BK (rI RK λi j=>.int (i*j)) (BK (Ei K) (Al 0) (tC (.int 0))) (BK (rI Hw λi j=>.int (i.fdiv j)) (Al 1) (BK (Ei K) (Al 0) (tC (.int 1))))) rfl (Iu (pv 0))
   (EH rfl rfl (by decide +kernel) (by decide +kernel) (List.forall_mem_cons.mpr ⟨⟨rfl,rfl⟩,List.forall_mem_nil _⟩) rfl (List.forall_mem_cons.mpr ⟨⟨_,_,rfl,rfl,rfl,rfl,rfl⟩,List.forall_mem_nil _⟩))
   (λ_ _ _ _ _=>Az (i:=0) ZK rfl (Or.inl rfl)) (λ_ _ _ _ _=>AX Il (EN Fm (pv 0) AF (λ_ _=>rfl)) (AX He (pv 1) (EN Fm (pv 0) AF (λ_ _=>rfl)))))),?_⟩
 refine⟨_,rfl,a,rfl,⟨_,AK.of ha⟩,λacc hacc=>?_⟩;refine E1 (J8 ha) (by rw[List.length_map,hA.1]; exact hn) hacc (λi ys σ _=>ys=((qs.take i).map (wh b)).map V.int/\∃u,σ=[u,some (.int b)]) ⟨rfl,none,rfl⟩ ?_ ?_
 ·rintro i ys σ H2 x H3 hi sm hacc2 ⟨hys,u,rfl⟩ ⟨rfl,hx⟩ C hC;obtain⟨c,y,rfl,_,hy,hB⟩:=hA.ref hx;obtain⟨s1,s2,s3⟩:=hsz y (List.mem_of_getElem? hy);have hB3:=DV sm hB;have yd:=y.den_nz;refine⟨_,rfl,c,_,_,_,rfl,rfl,AK.of hB3,C8,_,rfl,_,rfl,c,_,_,_,rfl,rfl,AK.of hB3,Cb,_,_,rfl,rfl,⟨by omega,s2⟩,_,_,rfl,rfl,⟨s1,s3⟩,?_⟩;refine hC _ _ _ (AQ.refl _) ⟨?_,_,rfl⟩;rw[hys,Dw hy,List.map_append,List.map_append]; rfl
 ·rintro ys σ H2 sm ha2 hl ⟨hys,_⟩;refine q acc H2 sm hacc ?_;rw[List.length_map,hA.1,List.take_length] at hys;unfold FC;rw[ha2,hys]
theorem J7:bootBuiltins "list" = some (.type "list"):=by decide +kernel
theorem YC{H:Hp}{a:Addr}{bs:List Addr}{qs:List Rat}{ys:List V}(h:At Aa H bs qs)(e:H a=some (.AN ys))(o:HO):At Aa (AJ H a o) bs qs:=(QE e h).keep DV (Xo H a o)
theorem Nj{H:Hp}{a b:Addr}{r:List Rat}{ys:List V}(h:A5 Aa H b r)(e:H a=some (.AN ys)):A5 Aa (del H a) b r:=by
 obtain⟨cs,h1,h2⟩:=h;exact⟨cs,Fj h1 (λz=>by rw[z,e] at h1; cases h1),QE e h2⟩
theorem BO:Mo (A5 Aa):=λs h=>MG (R:=Aa) (λs h=>DV s h) s h
def Bi(H:Hp)(a:Addr)(W U:Rat)(rows:List (List Rat)):Prop:=∃p q r,H a=some (.AG [.ref p,.ref q,.ref r])/\Aa H p W/\Aa H q U/\A5 (A5 Aa) H r rows
theorem Bs{H H':Hp}{a:Addr}{W U:Rat}{rows:List (List Rat)}(s:AQ H H')(h:Bi H a W U rows):Bi H' a W U rows:=by
 obtain⟨p,q,r,h1,h2,h3,h4⟩:=h;exact⟨p,q,r,s _ _ h1,s _ _ h2,s _ _ h3,MG (R:=A5 Aa) (λs h=>BO s h) s h4⟩
abbrev BI(W U:Rat)(rows:List (List Rat)):List Rat:=W :: U :: rows.flatten
theorem Mf:∀{rows:List (List Rat)},(∀r∈rows,r.length=4)->rows.flatten.length=4*rows.length
 | [],_=>rfl
 | r :: rows,h=>by
  rw[List.flatten_cons,List.length_append,h r (by simp),Mf (λx hx=>h x (by simp[hx])),List.length_cons]; omega
variable {C0 f1 f2 f3 f4 f5:Addr} {d1 d2 d3 d4 d5:FuncData}
inductive QY(vs:List V)(H:Hp)(Q:VK):Prop
 | mk (a:Addr) (qs:List Rat) (d:Nat) (h_0:vs=[.ref a]) (h_1:BV Aa H a qs) (h_2:(∀q∈qs,q.den<=2 ^ d)) (h_3:d*qs.length+d<8000) (h_4:Q (.int (cb qs)) H):QY vs H Q
def Ma:Sp:=λvs H Q _=>QY vs H Q
theorem Va(F:Ag K "common_bottom" "common_bottom" sCBot f fd)(G:AH P w K mg base AM 1 g gd ["one","other"] K3)(bG:AW K gd ["one","other"] [])(kG:KP K g)(mG:mg "common_part" = some (.ref g)):
  AH P w K mg base AM 2 f fd ["row"] Ma:=by
 refine F.ok LF (λvs H Q E h=>?_) (λcdv A outer s H vs Q E hr h=>?_)
 ·obtain⟨a,qs,d,rfl,_⟩:=h;rfl
 obtain⟨a,qs,d,rfl,⟨bs,ha,hA⟩,hd,hsz,q⟩:=h;refine⟨_,AS (Ad (i:=1) LF.nd rfl (Or.inl rfl) AF)
  (AS (Ce PassesOwn.never rfl (Ip (pv 0)) (Az (i:=2) LF.nd rfl (Or.inl rfl))
   (AU (Ad (i:=1) LF.nd rfl (Or.inl rfl) (AX Il (AX He (pv 1) (Ah G hr (by rfl) mG kG bG .nil Ae (AA (pv 1) (AA (EN Fm (pv 2) AF (λ_ _=>rfl)) AI)))) (EN Fm (pv 2) AF (λ_ _=>rfl))))))
  (AU (Ab (pv 1)))),?_⟩
 refine⟨_,rfl,a,rfl,⟨_,AR.of ha⟩,?_⟩;refine PF (xs:=bs.map V.ref) (λi σ H2=>∃u,H2=H/\σ=[some (.ref a),some (.int ((qs.take i).foldl DR 1)),u]) ⟨none,rfl,rfl⟩ (λi σ H2 _ ⟨_,e,_⟩=>by rw[e]; exact AR.of ha) ?_ ?_
 ·rintro i x σ H2 hx ⟨u,rfl,rfl⟩;obtain⟨b,y,rfl,_,hy,hB⟩:=hA.ref hx;have hi:i<qs.length:=(List.getElem?_eq_some_iff.mp hy).1;have ym:y∈qs:=List.mem_of_getElem? hy;obtain⟨c1,c2,c3,c4⟩:=Qz (qs.take i) (c:=1) (D:=0) (d:=d) (by decide) (by decide) (λp hp=>hd p (List.mem_of_mem_take hp));generalize hc:(qs.take i).foldl DR 1=c at *;have lt:(qs.take i).length<=qs.length:=by simp; omega
  have mle:d*(qs.take i).length<=d*qs.length:=Nat.mul_le_mul_left d lt;have hdn:y.den<=2 ^ d:=hd y ym;have hg0:(Int.gcd c y.den:Int)≠0:=by have:=Int.gcd_pos_of_ne_zero_left (y.den:Int) (show c≠0 by omega); omega
  have hgb:B3 (Int.gcd c y.den:Int):=by
   refine ER (n:=d) ?_ (by omega);rw[Int.natAbs_natCast];refine Nat.le_trans (Nat.le_of_dvd ?_ (Int.ofNat_dvd_left.mp (Int.gcd_dvd_right c (y.den:Int)))) ?_
   ·have:=y.den_nz; omega
   ·simpa using hdn
  have hb1:B3 (c.fdiv (Int.gcd c y.den:Int)):=by
   refine ER (n:=0+d*(qs.take i).length) (Nat.le_trans ?_ c4) (by omega);rw[Int.fdiv_eq_ediv_of_dvd (Int.gcd_dvd_left c _)];exact Int.natAbs_ediv_le_natAbs c _
  have hb2:B3 (y.den:Int):=ER (n:=d) (by simpa using hdn) (by omega);refine⟨_,rfl,_,rfl,_,rfl,b,_,_,_,rfl,rfl,AK.of hB,Cb,c,y.den,rfl,_,_,rfl,rfl,⟨hg0,hgb⟩,_,rfl,b,_,_,_,rfl,rfl,AK.of hB,Cb,_,_,rfl,rfl,⟨hb1,hb2⟩,?_⟩;refine⟨some (.ref b),rfl,?_⟩;rw[Dw hy,List.foldl_append];show _=[some (V.ref a),some (.int (DR ((qs.take i).foldl DR 1) y)),some (.ref b)];rw[hc]; rfl
 ·rintro σ H2 ⟨u,rfl,rfl⟩;refine⟨_,rfl,?_⟩;rw[List.length_map,hA.1,List.take_length];exact q
inductive Pq(vs:List V)(H:Hp)(Q:VK):Prop
 | mk (a:Addr) (W U:Rat) (rows:List (List Rat)) (h_0:vs=[.ref a]) (h_1:Bi H a W U rows) (h_2:rows.length<=40) (h_3:(∀r∈rows,r.length=4)) (h_4:∀p H',AQ H H'->BV Aa H' p (BI W U rows)->Q (.ref p) H'):Pq vs H Q
def MR:Sp:=λvs H Q _=>Pq vs H Q
theorem M6:Ar ["floor","numbers","rectangle"] ["floor"] (Aj s_numbers_of):=Aw
theorem XD(F:Ag K "numbers_of" "numbers_of" s_numbers_of f fd)(mli:mg "list" = none):AH P w K mg base AM 1 f fd ["floor"] MR:=by
 refine F.ok M6 (λvs H Q E h=>?_) (λcdv A outer s H vs Q E hr h=>?_)
 ·obtain⟨a,W,U,rows,rfl,_⟩:=h;rfl
 obtain⟨a,W,U,rows,rfl,⟨p,q0,r,ha,hW,hU,bs,hrr,hB⟩,hl,h4,q⟩:=h;refine⟨_,AS (Ad (i:=1) M6.nd rfl (Or.inl rfl) (DC (AA (EN Fm (pv 0) AF (λ_ _=>rfl)) (AA (EN Fm (pv 0) AF (λ_ _=>rfl)) AI))))
  (AS (Ce PassesOwn.never rfl (Iu (EN Fm (pv 0) AF (λ_ _=>rfl))) (Az (i:=2) M6.nd rfl (Or.inl rfl))
   (AU (GO (HC K PySem.F.plainAttrs_list PySem.F.slot_list_extend PySem.F.type_list_extend Uw (pv 1) (AA (Dx LW (by rfl) mli J7 (AA (pv 2) AI)) AI)))))
  (AU (Ab (pv 1)))),?_⟩
 refine⟨_,rfl,a,_,_,_,rfl,rfl,AK.of ha,FK _ _ _,_,rfl,a,_,_,_,rfl,rfl,AK.of ha,HP _ _ _,by exact sz2,λL hL=>?_⟩;have s1:=AY hL (.AN [.ref p,.ref q0]);have e1:(AJ H L (.AN [.ref p,.ref q0])) L=some (.AN ([p,q0].map V.ref)):=AV;generalize AJ H L (.AN [.ref p,.ref q0])=H1 at s1 e1;have lb:bs.length=rows.length:=hB.1;refine⟨_,rfl,a,_,_,_,rfl,rfl,AK.of (s1 _ _ ha),EB _ _ _,r,rfl,⟨_,AK.of (s1 _ _ hrr)⟩,?_⟩;refine Pp (xs:=bs.map V.ref) (λi σ H2=>AQ H H2/\∃(u:Option V) (cs:List Addr),σ=[some (.ref a),some (.ref L),u]/\H2 L=some (.AN (cs.map V.ref))/\At Aa H2 cs (W :: U :: (rows.take i).flatten))
  ⟨s1,none,[p,q0],rfl,e1,(At.nil.snoc (R:=Aa) (b:=p) (x:=W) (s1 _ _ hW)).snoc (b:=q0) (x:=U) (s1 _ _ hU)⟩ (λi σ H2 _ ⟨s2,_⟩=>AK.of (s2 _ _ hrr)) ?_ ?_
 ·rintro i x σ H2 hx ⟨s2,u,cs,rfl,hcs,hC⟩;obtain⟨b,row,rfl,_,hrow,es,hes,hE⟩:=hB.ref hx;have hi:i<rows.length:=(List.getElem?_eq_some_iff.mp hrow).1;have le:es.length=4:=by rw[hE.1]; exact h4 row (List.mem_of_getElem? hrow)
  have lc:cs.length=2+4*i:=by
   rw[hC.1,List.length_cons,List.length_cons,Mf (λx hx=>h4 x (List.mem_of_mem_take hx)),List.length_take]; omega
  refine⟨_,rfl,.inl ⟨rfl,_,AR.of hcs⟩,_,rfl,b,_,rfl,.inr (AK.of (s2 _ _ hes)),λlf hlf=>?_⟩;have s3:=AY hlf (.AN (es.map V.ref));have e3:(AJ H2 lf (.AN (es.map V.ref))) lf=some (.AN (es.map V.ref)):=AV;generalize AJ H2 lf (.AN (es.map V.ref))=H3 at s3 e3;refine⟨L,lf,_,_,rfl,rfl,s3 _ _ hcs,e3,by rw[List.length_map,List.length_map]; exact ES (by omega),?_⟩;refine⟨Pt (s2.trans s3) hL _,_,cs++es,rfl,by rw[AV]; simp,?_⟩
  have:=(hC.keep DV s3).FU (hE.keep DV (s2.trans s3))
  rw[Dw hrow,List.flatten_append,List.flatten_cons,List.flatten_nil,List.append_nil];exact YC this (s3 _ _ hcs) _
 ·rintro σ H2 ⟨s2,u,cs,rfl,hcs,hC⟩;rw[List.length_map,lb,List.take_length] at hC;exact⟨_,rfl,q L H2 s2 ⟨cs,hcs,hC⟩⟩
theorem Y4{n:Nat}(h:2<=n):HT.Ai n n (some 2)=2:=by simp[HT.Ai]; omega
inductive RL(vs:List V)(H:Hp)(Q:VK):Prop
 | mk (a:Addr) (b:Int) (W U:Rat) (rows:List (List Rat)) (h_0:vs=[.ref a,.int b]) (h_1:Bi H a W U rows) (h_2:rows.length<=40) (h_3:(∀r∈rows,r.length=4)) (h_4:(∀q∈BI W U rows,B3 q.num/\B3 (q.den:Int)/\B3 (b.fdiv q.den))) (h_5:∀p l H',AQ H H'->H' p=some (.AG [.int (wh b W),.int (wh b U),.ref l])->BV FC H' l (rows.map λr=>r.map (wh b))->Q (.ref p) H'):RL vs H Q
def NA:Sp:=λvs H Q _=>RL vs H Q
theorem RW:Ar ["floor","bottom","sides"] ["floor","bottom"] (Aj s_whole_floor):=Aw
theorem Zp:(["rectangle","bottom"]:List Str).Nodup:=by decide +kernel
theorem YX(F:Ag K "whole_floor" "whole_floor" s_whole_floor f fd)(G1:AH P w K mg base AM 1 f1 d1 ["row","bottom"] Jq)(b1:AW K d1 ["row","bottom"] [])(k1:KP K f1)(m1:mg "wholes" = some (.ref f1)):
  AH P w K mg base AM 2 f fd ["floor","bottom"] NA:=by
 refine F.ok RW (λvs H Q E h=>?_) (λcdv A outer s H vs Q E hr h=>?_)
 ·obtain⟨a,b,W,U,rows,rfl,_⟩:=h;rfl
 obtain⟨a,b,W,U,rows,rfl,⟨p,q0,r,ha,hW,hU,bs,hrr,hB⟩,hl,h4,hsz,q⟩:=h;refine⟨_,AS (Ad (i:=2) RW.nd rfl (Or.inl rfl) (Ah G1 hr (by rfl) m1 k1 b1 .nil Ae (AA (Fc MN (pv 0) GQ (E2 AF)) (AA (pv 1) AI))))
  (AU (Ab (Ax (AA (EN L7 (pv 2) AF (λ_ _=>rfl)) (AA (EN L7 (pv 2) AF (λ_ _=>rfl)) (AA
   (Hj (Nc:=["rectangle","bottom"]) (cap:=[(1,1)]) (g:=B9 0) (te:=DT Jq [] E0 (Ay (Al 0) (Ay (Al 1) Bc))) rfl (Iu (EN Fm (pv 0) AF (λ_ _=>rfl)))
   (EH rfl rfl (by decide +kernel) (by decide +kernel) (List.forall_mem_cons.mpr ⟨⟨rfl,rfl⟩,List.forall_mem_nil _⟩) rfl (List.forall_mem_cons.mpr ⟨⟨_,_,rfl,rfl,rfl,rfl,rfl⟩,List.forall_mem_nil _⟩))
   (λ_ _ _ _ _=>Az (i:=0) Zp rfl (Or.inl rfl)) (λ_ _ _ _ _=>Ah G1 hr (by rfl) m1 k1 b1 .nil Ae (AA (pv 0) (AA (pv 1) AI)))) AI)))))),?_⟩
 refine⟨_,rfl,2,rfl,a,_,rfl,AK.of ha,λz=>?_,λp1 hp1=>?_⟩
 ·have:=z.2
  rw[Y4 (by show 2<=3; decide)] at this;cases this
 rw[show B5 [V.ref p,.ref q0,.ref r] none (some 2)=[p,q0].map V.ref by rw[show(some (2:Int))=some ((2:Nat):Int) from rfl,Jw _ (by show 2<=3; decide)]; rfl];have s1:=AY hp1 (.AG ([p,q0].map V.ref));have e1:(AJ H p1 (.AG ([p,q0].map V.ref))) p1=some (.AG ([p,q0].map V.ref)):=AV;generalize AJ H p1 (.AG ([p,q0].map V.ref))=H1 at s1 e1;have a1:At Aa H1 [p,q0] [W,U]:=(At.nil.snoc (R:=Aa) (b:=p) (x:=W) (s1 _ _ hW)).snoc (b:=q0) (x:=U) (s1 _ _ hU);refine⟨_,rfl,p1,[W,U],b,rfl,⟨_,e1,a1⟩,by show 2<=1000; decide,λy hy=>hsz y (by simp only[List.mem_cons,List.not_mem_nil,or_false] at hy; rcases hy with rfl | rfl <;> simp),λl2 H2 s2 _ hl2=>?_⟩;have hl2':H2 l2=some (.AN [.int (wh b W),.int (wh b U)]):=hl2;have s12:=s1.trans s2;have lb:bs.length=rows.length:=hB.1;refine⟨_,rfl,l2,_,_,_,rfl,rfl,AR.of hl2',C8,_,rfl,l2,_,_,_,rfl,rfl,AR.of hl2',Cb,?_⟩;refine⟨_,rfl,a,_,_,_,rfl,rfl,AK.of (s12 _ _ ha),EB _ _ _,r,rfl,⟨_,AK.of (s12 _ _ hrr)⟩,λacc hacc=>?_⟩;refine E1 (J8 (s12 _ _ hrr)) (by rw[List.length_map]; omega) hacc (λi ys σ hp=>∃gs:List Addr,ys=gs.map V.ref/\At FC hp gs ((rows.map λr=>r.map (wh b)).take i)/\∃u,σ=[u,some (.int b)]) ⟨[],rfl,At.nil,none,rfl⟩ ?_ ?_
 ·rintro i ys σ H3 z H4 hi sm hac3 ⟨gs,rfl,hG,u,rfl⟩ ⟨rfl,hx⟩ Cc hC;obtain⟨c,row,rfl,_,hrow,hR⟩:=hB.ref hx;have rm:row∈rows:=List.mem_of_getElem? hrow;have hR3:=BO (s12.trans sm) hR;refine⟨_,rfl,_,rfl,c,row,b,rfl,hR3,by rw[h4 row rm]; omega,λy hy=>hsz y (by simp only[List.mem_cons]; exact .inr (.inr (List.mem_flatten.mpr ⟨row,rm,hy⟩))),λp5 H5 s5 np hp=>?_⟩;refine hC _ _ _ s5 ⟨gs++[p5],by simp,?_,_,rfl⟩;have ne:p5≠acc:=λz=>by rw[z,hac3] at np; cases np
  have e3:(rows.map λr=>r.map (wh b))[i]?=some (row.map (wh b)):=by rw[List.getElem?_map,hrow]; rfl
  rw[Dw e3];exact(hG.keep MA (Fe acc s5)).snoc (Fj hp ne)
 rintro ys σ2 H3 s3 hac3 hl3 ⟨gs,rfl,hG,u,rfl⟩;rw[List.length_map,lb,List.take_of_length_le (by rw[List.length_map]; omega)] at hG;refine⟨by exact Dv,λpp hpp=>?_⟩;have s4:=AY hpp (.AG [.int (wh b W),.int (wh b U),.ref acc]);exact q pp acc _ (s12.trans (s3.trans s4)) AV ⟨gs,s4 _ _ hac3,(hG.keep MA (Ff H3 acc)).keep MA s4⟩
open Fl
def DW(H:Hp)(a:Addr)(b:AE):Prop:=H a=some (.AN [.int b.l,.int b.d,.int b.r,.int b.u])
theorem Kg:Mo DW:=λs h=>s _ _ h
def Cs(b:AE):Bool:=decide (b.r<b.l) || (decide (b.u<b.d) || (decide (b.l=b.r) != decide (b.d=b.u)))
def CW(w h:Int)(b:AE):Bool:=decide (b.l<0) || (decide (b.d<0) || (decide (w<b.r) || decide (h<b.u)))
theorem DO{a b c d:V}:BR [a,b,c,d] 0=some a:=Ap (j:=0) rfl
theorem Cm{a b c d:V}:BR [a,b,c,d] 1=some b:=Ap (j:=1) rfl
theorem DJ{a b c d:V}:BR [a,b,c,d] 2=some c:=Ap (j:=2) rfl
theorem DN{a b c d:V}:BR [a,b,c,d] 3=some d:=Ap (j:=3) rfl
inductive RQ(vs:List V)(H:Hp)(Q:VK):Prop
 | mk (a:Addr) (b:AE) (h_0:vs=[.ref a]) (h_1:DW H a b) (h_2:Q (.bl (Cs b)) H):RQ vs H Q
def NS:Sp:=λvs H Q _=>RQ vs H Q
theorem ZH:Ar ["rectangle"] ["rectangle"] (Aj s_is_neither):=Aw
theorem Ya(F:Ag K "is_neither" "is_neither" s_is_neither f fd):AH P w K mg base AM 1 f fd ["rectangle"] NS:=by
 refine F.ok ZH (λvs H Q E h=>?_) (λcdv A outer s H vs Q E hr h=>?_)
 ·obtain⟨a,b,rfl,_⟩:=h;rfl
 obtain⟨a,b,rfl,ha,q⟩:=h;refine⟨_,AS (A0 (PW.pt (D8 (Aq EO (pL K (pv 0) AF) (pL K (pv 0) AF) (Ac _))
   (GW (Aq EO (pL K (pv 0) AF) (pL K (pv 0) AF) (Ac _))))) (AU (Ab CI)) A2)
  (AU (Ab (Bm CQ (Bm Bt (pL K (pv 0) AF) (pL K (pv 0) AF) (Ac _))
   (Bm Bt (pL K (pv 0) AF) (pL K (pv 0) AF) (Ac _)) (Ac _)))),?_⟩
 refine⟨_,rfl,a,_,_,_,rfl,rfl,AR.of ha,DO,_,rfl,a,_,_,_,rfl,rfl,AR.of ha,DJ,_,_,rfl,rfl,_,rfl,?_⟩
 (try dsimp only)
 by_cases h1:b.r<b.l
 ·rw[if_pos (decide_eq_true h1),if_pos rfl];rw[show Cs b=true by simp only[Cs,decide_eq_true h1]; rfl] at q;exact q
 rw[if_neg (by rw[decide_eq_false h1]; decide)];refine⟨_,rfl,a,_,_,_,rfl,rfl,AR.of ha,Cm,_,rfl,a,_,_,_,rfl,rfl,AR.of ha,DN,_,_,rfl,rfl,_,rfl,?_⟩
 (try dsimp only)
 by_cases h2:b.u<b.d
 ·rw[if_pos (decide_eq_true h2)];rw[show Cs b=true by simp only[Cs,decide_eq_false h1,decide_eq_true h2]; rfl] at q;exact q
 rw[if_neg (by rw[decide_eq_false h2]; decide)];refine⟨_,rfl,a,_,_,_,rfl,rfl,AR.of ha,DO,_,rfl,a,_,_,_,rfl,rfl,AR.of ha,DJ,rfl,_,rfl,a,_,_,_,rfl,rfl,AR.of ha,Cm,_,rfl,a,_,_,_,rfl,rfl,AR.of ha,DN,rfl,rfl,?_⟩;rw[show Cs b=(decide (b.l=b.r) != decide (b.d=b.u)) by simp only[Cs,decide_eq_false h1,decide_eq_false h2]; rfl] at q;rw[MO,Jy,Jy];rw[Bool.beq_eq_decide_eq,Bool.beq_eq_decide_eq];exact q
inductive Qe(vs:List V)(H:Hp)(Q:VK):Prop
 | mk (a:Addr) (b:AE) (m n:Int) (h_0:vs=[.ref a,.int m,.int n]) (h_1:DW H a b) (h_2:Q (.bl (CW m n b)) H):Qe vs H Q
def Mr:Sp:=λvs H Q _=>Qe vs H Q
theorem YY:Ar ["rectangle","width","height"] ["rectangle","width","height"] (Aj s_is_out):=Aw
theorem YI(F:Ag K "is_out" "is_out" s_is_out f fd):AH P w K mg base AM 1 f fd ["rectangle","width","height"] Mr:=by
 refine F.ok YY (λvs H Q E h=>?_) (λcdv A outer s H vs Q E hr h=>?_)
 ·obtain⟨a,b,m,n,rfl,_⟩:=h;rfl
 obtain⟨a,b,m,n,rfl,ha,q⟩:=h;refine⟨_,AU (Ab (GY (Bm Cy (pL K (pv 0) AF) AF (Ac _)) (GY (Bm Cy (pL K (pv 0) AF) AF (Ac _))
  (GY (Bm EO (pL K (pv 0) AF) (pv 1) (Ac _)) (Dg (Bm EO (pL K (pv 0) AF) (pv 2) (Ac _))))))),?_⟩
 refine⟨_,rfl,a,_,_,_,rfl,rfl,AR.of ha,DO,_,_,rfl,rfl,_,rfl,?_⟩;by_cases h1:b.l<0
 ·rw[if_pos (decide_eq_true h1)];rw[show CW m n b=true by simp only[CW,decide_eq_true h1]; rfl] at q;exact q
 rw[if_neg (by rw[decide_eq_false h1]; decide)];refine⟨_,rfl,a,_,_,_,rfl,rfl,AR.of ha,Cm,_,_,rfl,rfl,_,rfl,?_⟩;by_cases h2:b.d<0
 ·rw[if_pos (decide_eq_true h2)];rw[show CW m n b=true by simp only[CW,decide_eq_false h1,decide_eq_true h2]; rfl] at q;exact q
 rw[if_neg (by rw[decide_eq_false h2]; decide)];refine⟨_,rfl,a,_,_,_,rfl,rfl,AR.of ha,DJ,_,rfl,_,_,rfl,rfl,_,rfl,?_⟩;by_cases h3:m<b.r
 ·rw[if_pos (decide_eq_true h3)];rw[show CW m n b=true by simp only[CW,decide_eq_false h1,decide_eq_false h2,decide_eq_true h3]; rfl] at q;exact q
 rw[if_neg (by rw[decide_eq_false h3]; decide)];refine⟨_,rfl,a,_,_,_,rfl,rfl,AR.of ha,DN,_,rfl,_,_,rfl,rfl,?_⟩;rw[show CW m n b=decide (n<b.u) by simp only[CW,decide_eq_false h1,decide_eq_false h2,decide_eq_false h3]; rfl] at q;exact q
inductive Q0(vs:List V)(H:Hp)(Q:VK):Prop
 | mk (a c:Addr) (b d:AE) (h_0:vs=[.ref a,.ref c]) (h_1:DW H a b) (h_2:DW H c d) (h_3:Q (.bl (Cq b d)) H):Q0 vs H Q
def M9:Sp:=λvs H Q _=>Q0 vs H Q
theorem NH:Ar ["one","other","across","upward"] ["one","other"] (Aj s_overlap):=Aw
theorem SO(i j:Int):(if j > i then j else i)=max i j:=by split <;> omega
theorem SM(i j:Int):(if j<i then j else i)=min i j:=by split <;> omega
theorem Yv(F:Ag K "overlap" "overlap" s_overlap f fd)(mx:mg "max" = none)(mn:mg "min" = none):AH P w K mg base AM 1 f fd ["one","other"] M9:=by
 refine F.ok NH (λvs H Q E h=>?_) (λcdv A outer s H vs Q E hr h=>?_)
 ·obtain⟨a,c,b,d,rfl,_⟩:=h;rfl
 obtain⟨a,c,b,d,rfl,ha,hc,q⟩:=h;refine⟨_,AS (Ad (i:=2) NH.nd rfl (Or.inl rfl) (Bm Cy (BE (Hd rfl) (by rfl) mx Hq (AA (pL K (pv 0) AF) (AA (pL K (pv 1) AF) AI)))
   (BE (IU rfl) (by rfl) mn JA (AA (pL K (pv 0) AF) (AA (pL K (pv 1) AF) AI))) (Ac _)))
  (AS (Ad (i:=3) NH.nd rfl (Or.inl rfl) (Bm Cy (BE (Hd rfl) (by rfl) mx Hq (AA (pL K (pv 0) AF) (AA (pL K (pv 1) AF) AI)))
   (BE (IU rfl) (by rfl) mn JA (AA (pL K (pv 0) AF) (AA (pL K (pv 1) AF) AI))) (Ac _)))
  (AU (Ab (E8 (pv 2) (Dg (pv 3)))))),?_⟩
 refine⟨_,rfl,a,_,_,_,rfl,rfl,AR.of ha,DO,_,rfl,c,_,_,_,rfl,rfl,AR.of hc,DO,_,_,rfl,_,rfl,a,_,_,_,rfl,rfl,AR.of ha,DJ,_,rfl,c,_,_,_,rfl,rfl,AR.of hc,DJ,_,_,rfl,_,_,rfl,rfl,?_⟩;refine⟨_,rfl,a,_,_,_,rfl,rfl,AR.of ha,Cm,_,rfl,c,_,_,_,rfl,rfl,AR.of hc,Cm,_,_,rfl,_,rfl,a,_,_,_,rfl,rfl,AR.of ha,DN,_,rfl,c,_,_,_,rfl,rfl,AR.of hc,DN,_,_,rfl,_,_,rfl,rfl,?_⟩;rw[SO,SM,SO,SM];refine⟨_,rfl,_,rfl,?_⟩;by_cases h1:max b.l d.l<min b.r d.r
 ·rw[if_pos (decide_eq_true h1)];rw[show Cq b d=decide (max b.d d.d<min b.u d.u) by simp only[Cq,decide_eq_true h1]; rfl] at q;exact⟨_,rfl,q⟩
 ·rw[if_neg (by rw[decide_eq_false h1]; decide)];rw[show Cq b d=false by simp only[Cq,decide_eq_false h1]; rfl] at q;exact q
theorem XQ{bs:List Addr}{i:Nat}{b:Addr}(h:bs[i]?=some b):(bs.map V.ref)[i]?=some (.ref b):=by rw[List.getElem?_map,h]; rfl
inductive Q8(vs:List V)(H:Hp)(Q:VK):Prop
 | mk (a:Addr) (bs:List AE) (h_0:vs=[.ref a]) (h_1:BV DW H a bs) (h_2:bs.length<=1000) (h_3:(∀(j k:Nat) (p:Addr) (H':Hp),Fst bs j k->AQ H H'->H' p=some (.AG [.int j,.int k])->Q (.ref p) H')) (h_4:(CY bs->∀H',AQ H H'->Q .An H')):Q8 vs H Q
def M0:Sp:=λvs H Q _=>Q8 vs H Q
theorem LH:Ar ["rectangles","j","one","k"] ["rectangles"] (Aj s_first_overlap):=Aw
theorem YZ (F:Ag K "first_overlap" "first_overlap" s_first_overlap f fd) (G:AH P w K mg base AM 1 g gd ["one","other"] M9) (bG:AW K gd ["one","other"] []) (kG:KP K g) (mG:mg "overlap" = some (.ref g))
  (me:mg "enumerate" = none) (mr:mg "range" = none) (ml:mg "len" = none):AH P w K mg base AM 2 f fd ["rectangles"] M0:=by
 refine F.ok LH (λvs H Q E h=>?_) (λcdv A outer s H vs Q E hr h=>?_)
 ·obtain⟨a,bs,rfl,_⟩:=h;rfl
 obtain⟨a,bs,rfl,⟨cs,ha,hC⟩,hl,q1,q2⟩:=h;refine⟨_,AS (Ce PassesOwn.never rfl (Ic (by rfl) me (AA (pv 0) AI)) (D7 (n:=2) (K:=K) rfl (BQ (Az (i:=1) LH.nd rfl (Or.inl rfl)) (BQ (Az (i:=2) LH.nd rfl (Or.inl rfl)) D0)))
   (AU (Ce PassesOwn.never rfl (Jj (by rfl) mr (AA (AX BU (pv 1) AF) (AA (BE (B6 (K:=K)) (by rfl) ml B7 (AA (pv 0) AI)) AI))) (Az (i:=3) LH.nd rfl (Or.inl rfl))
    (AU (A0 (D4 (Ah G hr (by rfl) mG kG bG .nil Ae (AA (pv 2) (AA (pL K (pv 0) (pv 3)) AI)))) (AU (Ab (Ax (AA (pv 1) (AA (pv 3) AI))))) A2)))))
  (AU (Ab Ka)),?_⟩
 have lc:cs.length=bs.length:=hC.1;refine⟨_,rfl,a,_,rfl,ha,?_⟩;refine Jm (xs:=cs.map V.ref) (λi σ H2=>AQ H H2/\(∃u1 u2 u3,σ=[some (.ref a),u1,u2,u3])/\∀(j' k':Nat) (x y:AE),j' < k'->j' < i->bs[j']?=some x->bs[k']?=some y->Cq x y=false)
  ⟨AQ.refl _,⟨none,none,none,rfl⟩,λ_ _ _ _ _ z=>absurd z (Nat.not_lt_zero _)⟩ (λi σ H2 _ ⟨s2,_⟩=>s2 _ _ ha) ?_ ?_
 ·rintro i x σ H2 p hx ⟨s2,⟨u1,u2,u3,rfl⟩,no⟩ hp;obtain⟨c,b,rfl,_,hy,fb⟩:=hC.ref hx;have bi:i<bs.length:=(List.getElem?_eq_some_iff.mp hy).1;have s3:=AY hp (.AG [.int ((i:Nat):Int),.ref c]);have g3:(AJ H2 p (.AG [.int ((i:Nat):Int),.ref c])) p=some (.AG [.int ((i:Nat):Int),.ref c]):=AV;generalize AJ H2 p (.AG [.int ((i:Nat):Int),.ref c])=H3 at s3 g3;have s03:=s2.trans s3;refine⟨p,_,rfl,AK.of g3,rfl,_,_,rfl,_,_,rfl,rfl,?_⟩;refine⟨_,rfl,_,_,rfl,rfl,_,rfl,a,_,rfl,.inl (AR.of (s03 _ _ ha)),_,_,rfl,?_,?_⟩
  ·rw[List.length_map,lc]; omega
  rw[List.length_map,lc,show((bs.length:Int)-((i:Int)+1)).toNat=bs.length-(i+1) by omega];refine GL (λk σ H4=>H4=H3/\(∃u3,σ=[some (.ref a),some (.int ((i:Nat):Int)),some (.ref c),u3])/\∀(k':Nat) (y:AE),i<k'->k' < i+1+k->bs[k']?=some y->Cq b y=false)
   ⟨rfl,⟨u3,rfl⟩,λk' y z1 z2=>by omega⟩ ?_ ?_
  ·rintro k σ H4 hk ⟨rfl,⟨u4,rfl⟩,nk⟩;have kl:i+1+k<bs.length:=by omega
   have hz:bs[i+1+k]?=some bs[i+1+k]:=List.getElem?_eq_getElem kl;obtain⟨cz,hcz,fz⟩:=hC.get hz;refine⟨_,rfl,_,rfl,_,rfl,a,_,_,_,rfl,rfl,AR.of (s03 _ _ ha),Ap (j:=i+1+k) (XQ hcz),c,cz,b,_,rfl,s03 _ _ fb,s03 _ _ fz,_,rfl,?_⟩;refine F0 (λov=>?_) (λov=>?_)
   ·refine⟨_,rfl,_,rfl,by exact sz2,λt ht=>?_⟩;refine q1 i (i+1+k) t _ ⟨by omega,⟨b,_,hy,hz,ov⟩,?_⟩ (s03.trans (AY ht _)) (by rw[AV]; rfl);rintro j' k' x y h1 h2 h3 (h4 | ⟨rfl,h4⟩)
    ·exact no j' k' x y h1 h4 h2 h3
    ·rw[hy] at h2; cases h2;exact nk k' y h1 h4 h3
   ·refine⟨rfl,⟨_,rfl⟩,λk' y h1 h2 h3=>?_⟩;rcases Nat.lt_or_ge k' (i+1+k) with z | z
    ·exact nk k' y h1 z h3
    ·obtain rfl:k'=i+1+k:=by omega
     rw[hz] at h3; cases h3;simpa using ov
  ·rintro σ H4 ⟨rfl,⟨u4,rfl⟩,nk⟩;refine⟨s03,⟨_,_,_,rfl⟩,λj' k' x y h1 h2 h3 h4=>?_⟩;rcases Nat.lt_or_ge j' i with z | z
   ·exact no j' k' x y h1 z h3 h4
   ·obtain rfl:j'=i:=by omega
    rw[hy] at h3; cases h3
    have:=(List.getElem?_eq_some_iff.mp h4).1
    exact nk k' y h1 (by omega) h4
 ·rintro σ H2 ⟨s2,⟨u1,u2,u3,rfl⟩,no⟩;rw[List.length_map,lc] at no;refine q2 ?_ _ s2;rw[CY,List.pairwise_iff_getElem];intro i j hi hj hij;exact no i j _ _ hij hi (List.getElem?_eq_getElem hi) (List.getElem?_eq_getElem hj)
end
end My
namespace L2
open PySem PySem.Spec PyProof.Rows
section
variable {X:Cx} {K:PySem.W.Frag} {P:Program} {w:World}
theorem Wa(hc:X.By=true)(h:X.K=K:=by rfl)(hp:X.prog=P:=by rfl)(hw:X.w=w:=by rfl):Cu X (.type "set") (λxs H Q=>∃(p:Addr) (ns:List Int),xs=[.ref p]/\AR K H p (ns.map V.int)/\ns.length<=1000/\∀a,H a=none->Q (.ref a) (AJ H a (Fv P w a (Bj ns)))):=by
 subst h hp hw;exact Uq hc
theorem Wt(hc:X.By=true)(hp:X.prog=P:=by rfl)(hw:X.w=w:=by rfl):Cu X (.builtin "sorted") (λxs H Q=>∃(a:Addr) (ks:List Int),xs=[.ref a]/\H a=some (Fv P w a ks)/\ks.length<64/\∀(l:Addr) (ms:List Int),H l=none->ms.Perm ks->ms.Pairwise (·<=·)->Q (.ref l) (AJ H l (.AN (ms.map V.int)))):=by
 subst hp hw;exact Th hc
end
end L2
namespace My
open PySem L2 Mth Wd Fl
theorem X2:bootBuiltins "set" = some (.type "set"):=by decide +kernel
theorem OL:bootBuiltins "sorted" = some (.builtin "sorted"):=by decide +kernel
def Gw(t:Nat)(b:AE):Int:=if t=0 then b.l else b.d
def LO(t:Nat)(b:AE):Int:=if t=0 then b.r else b.u
def DG(t:Nat)(bs:List AE):List Int:=bs.map (Gw t)++bs.map (LO t)
theorem Yo(bs:List AE):DG 0 bs=Ep bs:=rfl
theorem Yu(bs:List AE):DG 1 bs=Eo bs:=rfl
theorem Y5{t:Nat}(h:t<=1)(b:AE):BR [V.int b.l,.int b.d,.int b.r,.int b.u] (t:Int)=some (.int (Gw t b)):=by
 rcases(show t=0\/t=1 by omega) with rfl | rfl
 ·exact DO
 ·exact Cm
theorem Yh{t:Nat}(h:t<=1)(b:AE):BR [V.int b.l,.int b.d,.int b.r,.int b.u] ((t:Int)+2)=some (.int (LO t b)):=by
 rcases(show t=0\/t=1 by omega) with rfl | rfl
 ·exact DJ
 ·exact DN
theorem RS{m:Int}{vs ns ms:List Int}(e:∀v,v∈ns↔v=0\/v=m\/v∈vs)(p:ms.Perm (Bj ns))(srt:ms.Pairwise (·<=·)):Bd m vs ms:=by
 refine⟨?_,λv=>by rw[p.mem_iff,US,e]⟩;have nd:ms.Nodup:=p.nodup_iff.mpr (TC ns);exact(srt.and nd).imp λ⟨a,b⟩=>by omega
section
variable {P:Program} {w:World} {K:PySem.W.Frag} {mg:Str->Option Value} {base:Heap} {f g h C0 f1 f2 f3 f4 f5:Addr} {fd gd hd d1 d2 d3 d4 d5:FuncData}
inductive Q4(vs:List V)(H:Hp)(Q:VK):Prop
 | mk (a:Addr) (bs:List AE) (t:Nat) (m:Int) (h_0:vs=[.ref a,.int t,.int m]) (h_1:BV DW H a bs) (h_2:bs.length<=30) (h_3:t<=1) (h_4:∀l xs H',AQ H H'->FC H' l xs->xs.length<=62->Bd m (DG t bs) xs->Q (.ref l) H'):Q4 vs H Q
def NP:Sp:=λvs H Q _=>Q4 vs H Q
theorem Mt:Ar ["rectangles","at","most","lesser","greater"] ["rectangles","at","most"] (Aj s_borders):=Aw
theorem R7:(["rectangle","at"]:List Str).Nodup:=by decide +kernel
theorem Y6(F:Ag K "borders" "borders" s_borders f fd)(mse:mg "set" = none)(mso:mg "sorted" = none):AH P w K mg base AM 1 f fd ["rectangles","at","most"] NP:=by
 refine F.ok Mt (λvs H Q E h=>?_) (λcdv A outer s H vs Q E hr h=>?_)
 ·obtain⟨a,bs,t,m,rfl,_⟩:=h;rfl
 obtain⟨a,bs,t,m,rfl,⟨cs,ha,hC⟩,hl,ht,q⟩:=h;refine⟨_,AS (Jf (i:=3) Mt.nd rfl (Or.inl rfl) (Nc:=["rectangle","at"]) (cap:=[(1,1)]) (g:=B9 0) (te:=BK (HN K) (Al 0) (Al 1)) rfl (JF (K:=K) (pv 0))
   (EH rfl rfl (by decide +kernel) (by decide +kernel) (List.forall_mem_cons.mpr ⟨⟨rfl,rfl⟩,List.forall_mem_nil _⟩) rfl (List.forall_mem_cons.mpr ⟨⟨_,_,rfl,rfl,rfl,rfl,rfl⟩,List.forall_mem_nil _⟩))
   (λ_ _ _ _ _=>Az (i:=0) R7 rfl (Or.inl rfl)) (λ_ _ _ _ _=>pL K (pv 0) (pv 1)))
  (AS (Jf (i:=4) Mt.nd rfl (Or.inl rfl) (Nc:=["rectangle","at"]) (cap:=[(1,1)]) (g:=B9 0) (te:=BK (HN K) (Al 0) (BK (Ey λi j=>.int (i+j)) (Al 1) (tC (.int 2)))) rfl (JF (K:=K) (pv 0))
   (EH rfl rfl (by decide +kernel) (by decide +kernel) (List.forall_mem_cons.mpr ⟨⟨rfl,rfl⟩,List.forall_mem_nil _⟩) rfl (List.forall_mem_cons.mpr ⟨⟨_,_,rfl,rfl,rfl,rfl,rfl⟩,List.forall_mem_nil _⟩))
   (λ_ _ _ _ _=>Az (i:=0) R7 rfl (Or.inl rfl)) (λ_ _ _ _ _=>pL K (pv 0) (AX BU (pv 1) AF)))
  (AU (Ab (BE (Wt (P:=P) (w:=w) rfl) (by rfl) mso OL (AA (Dx (Wa (K:=K) (P:=P) (w:=w) rfl) (by rfl) mse X2 (AA (AX Ec (AX Ec (DC (AA AF (AA (pv 2) AI))) (pv 3)) (pv 4)) AI)) AI))))),?_⟩
 have lc:cs.length=bs.length:=hC.1;refine⟨_,rfl,a,rfl,⟨_,AR.of ha⟩,λl1 h1=>?_⟩;refine E1 (Hg ha) (by rw[List.length_map,lc]; omega) h1 (λi ys σ _=>ys=((bs.take i).map (Gw t)).map V.int/\∃u,σ=[u,some (.int (t:Int))]) ⟨rfl,none,rfl⟩ ?_ ?_
 ·rintro i ys σ H2 x H3 hi sm hacc2 ⟨hys,u,rfl⟩ ⟨rfl,hx⟩ C hC2;obtain⟨c,b,rfl,_,hy,hB⟩:=hC.ref hx;refine⟨_,rfl,_,rfl,c,_,_,_,rfl,rfl,AR.of (sm _ _ hB),Y5 ht b,?_⟩;refine hC2 _ _ _ (AQ.refl _) ⟨?_,_,rfl⟩;rw[hys,Dw hy,List.map_append,List.map_append]; rfl
 rintro ys σ H1 s1 g1 _ ⟨hys,_⟩;rw[List.length_map,lc,List.take_length] at hys;subst hys;refine⟨_,rfl,a,rfl,⟨_,AR.of (s1 _ _ ha)⟩,λl2 h2=>?_⟩;refine E1 (Hg (s1 _ _ ha)) (by rw[List.length_map,lc]; omega) h2 (λi ys σ _=>ys=((bs.take i).map (LO t)).map V.int/\∃u,σ=[u,some (.int (t:Int))]) ⟨rfl,none,rfl⟩ ?_ ?_
 ·rintro i ys σ H2 x H3 hi sm hacc2 ⟨hys,u,rfl⟩ ⟨rfl,hx⟩ C hC2;obtain⟨c,b,rfl,_,hy,hB⟩:=hC.ref hx;refine⟨_,rfl,_,rfl,_,_,rfl,rfl,c,_,_,_,rfl,rfl,AR.of (sm _ _ (s1 _ _ hB)),Yh ht b,?_⟩;refine hC2 _ _ _ (AQ.refl _) ⟨?_,_,rfl⟩;rw[hys,Dw hy,List.map_append,List.map_append]; rfl
 rintro ys σ H2 s2 g2 _ ⟨hys,_⟩;rw[List.length_map,lc,List.take_length] at hys;subst hys;have g1':=s2 _ _ g1;refine⟨_,rfl,by exact sz2,λl3 h3=>?_⟩;have s3:=AY h3 (.AN [.int 0,.int m]);have g3:(AJ H2 l3 (.AN [.int 0,.int m])) l3=some (.AN [.int 0,.int m]):=AV;generalize AJ H2 l3 (.AN [.int 0,.int m])=H3 at s3 g3;refine⟨_,rfl,l3,l1,_,_,rfl,rfl,g3,s3 _ _ g1',by rw[List.length_map,List.length_map]; exact ES (by show 2+bs.length<=_; omega),λl4 h4=>?_⟩;have s4:=AY h4 (.AN ([.int 0,.int m]++(bs.map (Gw t)).map V.int));have g4:(AJ H3 l4 (.AN ([.int 0,.int m]++(bs.map (Gw t)).map V.int))) l4=some (.AN ([.int 0,.int m]++(bs.map (Gw t)).map V.int)):=AV;generalize AJ H3 l4 (.AN ([.int 0,.int m]++(bs.map (Gw t)).map V.int))=H4 at s4 g4;have s24:=s3.trans s4;refine⟨_,rfl,l4,l2,_,_,rfl,rfl,g4,s24 _ _ g2,by rw[List.length_append,List.length_map,List.length_map,List.length_map,List.length_map]; exact ES (by show 2+bs.length+bs.length<=_; omega),λl5 h5=>?_⟩;have e5:[V.int 0,.int m]++(bs.map (Gw t)).map V.int++(bs.map (LO t)).map V.int=((0:Int) :: m :: DG t bs).map V.int:=by simp[DG]
 rw[e5];have s5:=AY h5 (.AN (((0:Int) :: m :: DG t bs).map V.int));have g5:(AJ H4 l5 (.AN (((0:Int) :: m :: DG t bs).map V.int))) l5=some (.AN (((0:Int) :: m :: DG t bs).map V.int)):=AV;generalize AJ H4 l5 (.AN (((0:Int) :: m :: DG t bs).map V.int))=H5 at s5 g5;have ln:((0:Int) :: m :: DG t bs).length=2+2*bs.length:=by simp[DG]; omega
 refine⟨l5,_,rfl,AR.of g5,by rw[ln]; omega,λl6 h6=>?_⟩;have s6:=AY h6 (Fv P w l6 (Bj ((0:Int) :: m :: DG t bs)));have g6:(AJ H5 l6 (Fv P w l6 (Bj ((0:Int) :: m :: DG t bs)))) l6=some (Fv P w l6 (Bj ((0:Int) :: m :: DG t bs))):=AV;generalize AJ H5 l6 (Fv P w l6 (Bj ((0:Int) :: m :: DG t bs)))=H6 at s6 g6;have la:=OF ((0:Int) :: m :: DG t bs);refine⟨l6,_,rfl,g6,by omega,λl7 ms h7 pm srt=>?_⟩;refine q l7 ms _ ((s1.trans s2).trans ((s24.trans (s5.trans s6)).trans (AY h7 _))) AV (by have:=pm.length_eq; omega) (RS (λv=>?_) pm srt);simp only[List.mem_cons]
end
end My
namespace Fl
theorem Fg{xs:List Int}{j:Nat}(h:j<xs.length):xs.getD j 0=xs[j]:=by rw[List.getD_eq_getElem?_getD,List.getElem?_eq_getElem h]; rfl
theorem Kl{xs:List Int}(h:xs.Pairwise (· < ·)){i j:Nat}(hj:j<xs.length)(hij:i<j):xs.getD i 0<xs.getD j 0:=by
 rw[Fg hj,Fg (show i<xs.length by omega)];exact List.pairwise_iff_getElem.mp h i j (by omega) hj hij
theorem Hu{xs:List Int}{v:Int}(hv:v∈xs):xs.idxOf v<xs.length/\xs.getD (xs.idxOf v) 0=v:=by
 have hi:=List.idxOf_lt_length_iff.mpr hv;refine⟨hi,?_⟩;rw[Fg hi];exact List.getElem_idxOf hi
theorem Kb{xs:List Int}(h:xs.Pairwise (· < ·)){j:Nat}(hj:j+1<xs.length){v:Int}(hv:v∈xs):xs.idxOf v<=j↔v<=xs.getD j 0:=by
 obtain⟨hi,e⟩:=Hu hv;constructor
 ·intro z;rcases Nat.lt_or_ge (xs.idxOf v) j with y | y
  ·have:=Kl h (show j<xs.length by omega) y; omega
  ·obtain y':xs.idxOf v=j:=by omega
   rw[<-y',e]; exact Int.le_refl _
 ·intro z;rcases Nat.lt_or_ge j (xs.idxOf v) with y | y
  ·have:=Kl h hi y; omega
  ·exact y
theorem Ki{xs:List Int}(h:xs.Pairwise (· < ·)){j:Nat}(hj:j+1<xs.length){v:Int}(hv:v∈xs):j<xs.idxOf v↔xs.getD (j+1) 0<=v:=by
 obtain⟨hi,e⟩:=Hu hv;constructor
 ·intro z;rcases Nat.lt_or_ge (j+1) (xs.idxOf v) with y | y
  ·have:=Kl h hi y; omega
  ·obtain y':xs.idxOf v=j+1:=by omega
   rw[<-y',e]; exact Int.le_refl _
 ·intro z;rcases Nat.lt_or_ge j (xs.idxOf v) with y | y
  ·exact y
  ·have:=Kl h hj (show xs.idxOf v<j+1 by omega); omega
def HY(xs ys:List Int)(b:AE)(j k:Nat):Prop:=xs.idxOf b.l<=j/\j<xs.idxOf b.r/\ys.idxOf b.d<=k/\k<ys.idxOf b.u
theorem Xw{xs ys:List Int}{bs:List AE}(hx:xs.Pairwise (· < ·))(hy:ys.Pairwise (· < ·))(hb:∀b∈bs,b.l∈xs/\b.r∈xs/\b.d∈ys/\b.u∈ys){j k:Nat}(hj:j+1<xs.length)(hk:k+1<ys.length):
  Dl bs xs ys j k=true↔∃b∈bs,HY xs ys b j k:=by
 rw[Dl,Et,List.any_eq_true];constructor
 ·rintro⟨b,m,z⟩;obtain⟨h1,h2,h3,h4⟩:=hb b m;simp only[Bool.and_eq_true,decide_eq_true_iff] at z;obtain⟨⟨z1,z2⟩,z3,z4⟩:=z;exact⟨b,m,(Kb hx hj h1).mpr z1,(Ki hx hj h2).mpr z2,(Kb hy hk h3).mpr z3,(Ki hy hk h4).mpr z4⟩
 ·rintro⟨b,m,z1,z2,z3,z4⟩;obtain⟨h1,h2,h3,h4⟩:=hb b m;refine⟨b,m,?_⟩;simp only[Bool.and_eq_true,decide_eq_true_iff];exact⟨⟨(Kb hx hj h1).mp z1,(Ki hx hj h2).mp z2⟩,(Kb hy hk h3).mp z3,(Ki hy hk h4).mp z4⟩
end Fl
namespace My
open PySem L2 Mth Wd Fl
def kC(j k:Nat):List A3:=[.inl (j:Int),.inl (k:Int)]
theorem QI{j k j' k':Nat}:kC j k=kC j' k'↔j=j'/\k=k':=by
 constructor
 ·intro z;injection z with z1 z2
  injection z2 with z2 _
  injection z1 with z1
  injection z2 with z2
  omega
 ·rintro⟨rfl,rfl⟩; rfl
def Fs(kvs:List (List A3×V))(c:Nat->Nat->Prop):Prop:=∀j k,(B4 kvs (kC j k)).isSome=true↔c j k
theorem UO{kvs:List (List A3×V)}{c:Nat->Nat->Prop}(h:Fs kvs c)(j0 k0:Nat)(v:V):Fs (Dp kvs (kC j0 k0) v) λj k=>c j k\/(j=j0/\k=k0):=by
 intro j k;rw[WE];by_cases e:kC j k=kC j0 k0
 ·rw[if_pos e];exact⟨λ_=>.inr (QI.mp e),λ_=>rfl⟩
 ·rw[if_neg e,h j k];exact⟨.inl,λz=>z.elim id λy=>absurd (QI.mpr y) e⟩
theorem Fs.of{kvs:List (List A3×V)}{c c':Nat->Nat->Prop}(h:Fs kvs c)(e:∀j k,c j k↔c' j k):Fs kvs c':=λj k=>(h j k).trans (e j k)
section
variable {P:Program} {w:World} {K:PySem.W.Frag} {mg:Str->Option Value} {base:Heap} {f g h C0 f1 f2 f3 f4 f5:Addr} {fd gd hd d1 d2 d3 d4 d5:FuncData}
inductive Qd(vs:List V)(H:Hp)(Q:VK):Prop
 | mk (c r a:Addr) (xs ys:List Int) (bs:List AE) (h_0:vs=[.ref c,.ref r,.ref a]) (h_1:FC H c xs) (h_2:FC H r ys) (h_3:BV DW H a bs) (h_4:bs.length<=30) (h_5:xs.length<=62) (h_6:ys.length<=62) (h_7:(∀b∈bs,b.l∈xs/\b.r∈xs/\b.d∈ys/\b.u∈ys)) (h_8:∀p kvs H',AQ H H'->H' p=some (.dT kvs)->Fs kvs (λj k=>∃b∈bs,HY xs ys b j k)->Q (.ref p) H'):Qd vs H Q
def Ml:Sp:=λvs H Q _=>Qd vs H Q
theorem JD:Ar ["columns","rows","rectangles","covered","rectangle","column","row"] ["columns","rows","rectangles"] (Aj s_covered_cells):=Aw
theorem Xn(F:Ag K "covered_cells" "covered_cells" s_covered_cells f fd)(mr:mg "range" = none):AH P w K mg base AM 1 f fd ["columns","rows","rectangles"] Ml:=by
 refine F.ok JD (λvs H Q E h=>?_) (λcdv A outer s H vs Q E hr h=>?_)
 ·obtain⟨c,r,a,xs,ys,bs,rfl,_⟩:=h;rfl
 obtain⟨c,r,a,xs,ys,bs,rfl,hc,hrr,⟨cs,ha,hC⟩,hl,lx,ly,hm,q⟩:=h;have hu:=Qm hr;refine⟨_,AS (Ad (i:=3) JD.nd rfl (Or.inl rfl) VP)
  (AS (Ce PassesOwn.never rfl (JF (K:=K) (pv 2)) (Az (i:=4) JD.nd rfl (Or.inl rfl))
   (AU (Ce PassesOwn.never rfl (Jj (by rfl) mr
     (AA (HC K PySem.F.plainAttrs_list PySem.F.slot_list_index PySem.F.type_list_index Jx (pv 0) (AA (pL K (pv 4) AF) AI))
      (AA (HC K PySem.F.plainAttrs_list PySem.F.slot_list_index PySem.F.type_list_index Jx (pv 0) (AA (pL K (pv 4) AF) AI)) AI))) (Az (i:=5) JD.nd rfl (Or.inl rfl))
    (AU (Ce PassesOwn.never rfl (Jj (by rfl) mr
      (AA (HC K PySem.F.plainAttrs_list PySem.F.slot_list_index PySem.F.type_list_index Jx (pv 1) (AA (pL K (pv 4) AF) AI))
       (AA (HC K PySem.F.plainAttrs_list PySem.F.slot_list_index PySem.F.type_list_index Jx (pv 1) (AA (pL K (pv 4) AF) AI)) AI))) (Az (i:=6) JD.nd rfl (Or.inl rfl))
     (AU (XH hu (pv 3) (Ax (AA (pv 5) (AA (pv 6) AI))) CI rfl)))))))
  (AU (Ab (pv 3)))),?_⟩
 have lc:cs.length=bs.length:=hC.1;refine λD hD=>?_
 have s1:=AY hD (.dT []);have g1:(AJ H D (.dT [])) D=some (.dT []):=AV;generalize AJ H D (.dT [])=H1 at s1 g1;refine⟨_,rfl,a,rfl,⟨_,AR.of (s1 _ _ ha)⟩,?_⟩;refine PF (xs:=cs.map V.ref) (λi σ H2=>AQ H H2/\(∃u4 u5 u6,σ=[some (.ref c),some (.ref r),some (.ref a),some (.ref D),u4,u5,u6])/\∃kvs,H2 D=some (.dT kvs)/\kvs.length<=i*4000/\Fs kvs λj k=>∃b∈bs.take i,HY xs ys b j k)
  ⟨s1,⟨none,none,none,rfl⟩,[],g1,Nat.zero_le _,λj k=>by simp[B4]⟩ (λi σ H2 _ ⟨s2,_⟩=>AR.of (s2 _ _ ha)) ?_ ?_
 ·rintro i x σ H2 hx ⟨s2,⟨u4,u5,u6,rfl⟩,kvs,hk,nk,ck⟩;obtain⟨cb,b,rfl,_,hy,fb⟩:=hC.ref hx;have bi:i<bs.length:=(List.getElem?_eq_some_iff.mp hy).1;obtain⟨m1,m2,m3,m4⟩:=hm b (List.mem_of_getElem? hy);have i1:=(Hu m1).1;have i2:=(Hu m2).1;have i3:=(Hu m3).1;have i4:=(Hu m4).1;refine⟨_,rfl,.inl ⟨rfl,_,AR.of (s2 _ _ hc)⟩,_,rfl,cb,_,_,_,rfl,rfl,AR.of (s2 _ _ fb),DO,c,xs,_,rfl,rfl,s2 _ _ hc,m1,by omega,?_⟩;refine⟨_,rfl,.inl ⟨rfl,_,AR.of (s2 _ _ hc)⟩,_,rfl,cb,_,_,_,rfl,rfl,AR.of (s2 _ _ fb),DJ,c,xs,_,rfl,rfl,s2 _ _ hc,m2,by omega,?_⟩;refine⟨_,_,rfl,by omega,?_⟩;rw[show(((xs.idxOf b.r:Nat):Int)-((xs.idxOf b.l:Nat):Int)).toNat=xs.idxOf b.r-xs.idxOf b.l by omega];refine GL (λn σ H3=>AQ H H3/\(∃u5 u6,σ=[some (.ref c),some (.ref r),some (.ref a),some (.ref D),some (.ref cb),u5,u6])/\∃kvs,H3 D=some (.dT kvs)/\kvs.length<=i*4000+n*62/\Fs kvs λj k=>(∃b∈bs.take i,HY xs ys b j k)\/(xs.idxOf b.l<=j/\j<xs.idxOf b.l+n/\ys.idxOf b.d<=k/\k<ys.idxOf b.u))
   ⟨s2,⟨u5,u6,rfl⟩,kvs,hk,by omega,ck.of λj k=>⟨.inl,λz=>z.elim id λy=>by omega⟩⟩ ?_ ?_
  ·rintro n σ H3 hn ⟨s3,⟨u5,u6,rfl⟩,kvs,hk,nk,ck⟩;refine⟨_,rfl,.inl ⟨rfl,_,AR.of (s3 _ _ hrr)⟩,_,rfl,cb,_,_,_,rfl,rfl,AR.of (s3 _ _ fb),Cm,r,ys,_,rfl,rfl,s3 _ _ hrr,m3,by omega,?_⟩;refine⟨_,rfl,.inl ⟨rfl,_,AR.of (s3 _ _ hrr)⟩,_,rfl,cb,_,_,_,rfl,rfl,AR.of (s3 _ _ fb),DN,r,ys,_,rfl,rfl,s3 _ _ hrr,m4,by omega,?_⟩;refine⟨_,_,rfl,by omega,?_⟩;rw[show(((ys.idxOf b.u:Nat):Int)-((ys.idxOf b.d:Nat):Int)).toNat=ys.idxOf b.u-ys.idxOf b.d by omega];refine GL (λt σ H4=>AQ H H4/\(∃u6,σ=[some (.ref c),some (.ref r),some (.ref a),some (.ref D),some (.ref cb),some (.int (((xs.idxOf b.l:Nat):Int)+(n:Int))),u6])/\∃kvs,H4 D=some (.dT kvs)/\kvs.length<=i*4000+n*62+t /\
     Fs kvs λj k=>((∃b∈bs.take i,HY xs ys b j k)\/(xs.idxOf b.l<=j/\j<xs.idxOf b.l+n/\ys.idxOf b.d<=k/\k<ys.idxOf b.u))\/(j=xs.idxOf b.l+n/\ys.idxOf b.d<=k/\k<ys.idxOf b.d+t))
    ⟨s3,⟨u6,rfl⟩,kvs,hk,by omega,ck.of λj k=>⟨.inl,λz=>z.elim id λy=>by omega⟩⟩ ?_ ?_
   ·rintro t σ H4 ht ⟨s4,⟨u6,rfl⟩,kvs,hk,nk,ck⟩;refine⟨_,rfl,_,rfl,_,rfl,by exact sz2,λtp htp=>?_⟩;have s5:=AY htp (.AG [.int (((xs.idxOf b.l:Nat):Int)+(n:Int)),.int (((ys.idxOf b.d:Nat):Int)+(t:Int))]);have g5:(AJ H4 tp (.AG [.int (((xs.idxOf b.l:Nat):Int)+(n:Int)),.int (((ys.idxOf b.d:Nat):Int)+(t:Int))])) tp=some (.AG ((kC (xs.idxOf b.l+n) (ys.idxOf b.d+t)).map kV)):=AV;generalize AJ H4 tp (.AG [.int (((xs.idxOf b.l:Nat):Int)+(n:Int)),.int (((ys.idxOf b.d:Nat):Int)+(t:Int))])=H5 at s5 g5;have hk5:=s5 _ _ hk;refine⟨D,_,rfl,JM.t hk5 g5 (by rw[sizeLine_eq]; omega),Pt (s4.trans s5) hD _,⟨_,rfl⟩,_,AV,by have:=LX kvs (kC (xs.idxOf b.l+n) (ys.idxOf b.d+t)) (V.bl true); omega,?_⟩;refine(UO ck _ _ _).of λj k=>?_
    constructor
    ·rintro((z | z) | z)
     ·exact .inl z
     ·exact .inr (by omega)
     ·exact .inr (by omega)
    ·rintro(z | z)
     ·exact .inl (.inl z)
     ·rcases(show k<ys.idxOf b.d+t\/k=ys.idxOf b.d+t by omega) with y | y
      ·exact .inl (.inr ⟨z.1,z.2.1,y⟩)
      ·exact .inr ⟨z.1,y⟩
   ·rintro σ H4 ⟨s4,⟨u6,rfl⟩,kvs,hk,nk,ck⟩;refine⟨s4,⟨_,_,rfl⟩,kvs,hk,by omega,ck.of λj k=>?_⟩;constructor
    ·rintro((z | z) | z)
     ·exact .inl z
     ·exact .inr (by omega)
     ·exact .inr (by omega)
    ·rintro(z | z)
     ·exact .inl (.inl z)
     ·rcases(show j<xs.idxOf b.l+n\/j=xs.idxOf b.l+n by omega) with y | y
      ·exact .inl (.inr ⟨z.1,y,z.2.2⟩)
      ·exact .inr ⟨y,by omega,by omega⟩
  ·rintro σ H3 ⟨s3,⟨u5,u6,rfl⟩,kvs,hk,nk,ck⟩;refine⟨s3,⟨_,_,_,rfl⟩,kvs,hk,by omega,ck.of λj k=>?_⟩;rw[Dw hy];constructor
   ·rintro(⟨b',mb,z⟩ | z)
    ·exact⟨b',List.mem_append_left _ mb,z⟩
    ·exact⟨b,by simp,by unfold HY; omega⟩
   ·rintro⟨b',mb,z⟩;rcases List.mem_append.mp mb with y | y
    ·exact .inl ⟨b',y,z⟩
    ·rw[List.mem_singleton.mp y] at z;unfold HY at z;exact .inr (by omega)
 ·rintro σ H2 ⟨s2,⟨u4,u5,u6,rfl⟩,kvs,hk,nk,ck⟩;rw[List.length_map,lc,List.take_length] at ck;exact⟨_,rfl,q D kvs H2 s2 hk ck⟩
end
end My
namespace Fl
theorem Su{bs:List AE}{xs ys:List Int}{k:Nat}(h:∀j,j<xs.length-1->Dl bs xs ys j k=true):DS bs xs ys k=none:=by
 rw[DS,List.find?_eq_none];intro j hj;rw[h j (List.mem_range.mp hj)]; decide
theorem Sx{bs:List AE}{xs ys:List Int}{j k:Nat}(hj:j<xs.length-1)(h:∀j',j' < j->Dl bs xs ys j' k=true)(e:Dl bs xs ys j k=false):DS bs xs ys k=some j:=by
 rw[DS,List.find?_range_eq_some];exact⟨by rw[e]; rfl,List.mem_range.mpr hj,λj' z=>by rw[h j' z]; rfl⟩
theorem UU{bs:List AE}{xs ys:List Int}(h:∀k,k<ys.length-1->DS bs xs ys k=none):DI bs xs ys=none:=by
 rw[DI,List.findSome?_eq_none_iff];intro k hk;rw[h k (List.mem_range.mp hk)]; rfl
theorem UN{bs:List AE}{xs ys:List Int}{j k:Nat}(hk:k<ys.length-1)(h:∀k',k' < k->DS bs xs ys k'=none)(e:DS bs xs ys k=some j):DI bs xs ys=some (Eh xs ys j k):=by
 rw[DI,List.findSome?_eq_some_iff];refine⟨List.range k,k,(List.range (ys.length-1)).drop (k+1),?_,by rw[e]; rfl,λx hx=>by rw[h x (List.mem_range.mp hx)]; rfl⟩;have hl:k<(List.range (ys.length-1)).length:=by rw[List.length_range]; exact hk
 have t1:(List.range (ys.length-1)).take k=List.range k:=by rw[List.take_range]; congr 1; omega
 have t2:(List.range (ys.length-1)).drop k=k :: (List.range (ys.length-1)).drop (k+1):=by rw[List.drop_eq_getElem_cons hl,List.getElem_range]
 rw[<-t1,<-t2,List.take_append_drop]
end Fl
namespace My
open PySem L2 Mth Wd Fl
section
variable {P:Program} {w:World} {K:PySem.W.Frag} {mg:Str->Option Value} {base:Heap} {f g h C0 f1 f2 f3 f4 f5:Addr} {fd gd hd d1 d2 d3 d4 d5:FuncData}
def Fw(b:AE):List V:=[.int b.l,.int b.d,.int b.r,.int b.u]
inductive Qp(vs:List V)(H:Hp)(Q:VK):Prop
 | mk (m n:Int) (a:Addr) (bs:List AE) (h_0:vs=[.int m,.int n,.ref a]) (h_1:BV DW H a bs) (h_2:bs.length<=30) (h_3:∀xs ys,Bd m (Ep bs) xs->Bd n (Eo bs) ys->(∀b p H',DI bs xs ys=some b->AQ H H'->H' p=some (.AG (Fw b))->Q (.ref p) H')/\(DI bs xs ys=none->∀H',AQ H H'->Q .An H')):Qp vs H Q
def NQ:Sp:=λvs H Q _=>Qp vs H Q
theorem Hy:Ar ["width","height","rectangles","columns","rows","covered","row","column"] ["width","height","rectangles"] (Aj s_first_gap):=Aw
theorem Yk (F : Ag K "first_gap" "first_gap" s_first_gap f fd) (G1 : AH P w K mg base AM 1 f1 d1 ["rectangles", "at", "most"] NP) (b1 : AW K d1 ["rectangles", "at", "most"] []) (k1 : KP K f1) (m1 : mg "borders" = some (.ref f1))
    (G2 : AH P w K mg base AM 1 f2 d2 ["columns", "rows", "rectangles"] Ml) (b2 : AW K d2 ["columns", "rows", "rectangles"] []) (k2 : KP K f2) (m2 : mg "covered_cells" = some (.ref f2))
    (mr : mg "range" = none) (ml : mg "len" = none) : AH P w K mg base AM 2 f fd ["width", "height", "rectangles"] NQ := by
  refine F.ok Hy (λvs H Q E h => ?_) (λcdv A outer s H vs Q E hr h => ?_)
  · obtain⟨m, n, a, bs, rfl, _⟩ := h;rfl
  obtain⟨m, n, a, bs, rfl, hA, hl, q⟩ := h;have hu := Qm hr;refine⟨_, AS (Ad (i := 3) Hy.nd rfl (Or.inl rfl) (Ah G1 hr (by rfl) m1 k1 b1 .nil Ae (AA (pv 2) (AA AF (AA (pv 0) AI)))))
    (AS (Ad (i := 4) Hy.nd rfl (Or.inl rfl) (Ah G1 hr (by rfl) m1 k1 b1 .nil Ae (AA (pv 2) (AA AF (AA (pv 1) AI)))))
    (AS (Ad (i := 5) Hy.nd rfl (Or.inl rfl) (Ah G2 hr (by rfl) m2 k2 b2 .nil Ae (AA (pv 3) (AA (pv 4) (AA (pv 2) AI)))))
    (AS (Ce PassesOwn.never rfl (IV (by rfl) mr (AA (AX CV (BE (B6 (K := K)) (by rfl) ml B7 (AA (pv 4) AI)) AF) AI)) (Az (i := 6) Hy.nd rfl (Or.inl rfl))
      (AU (Ce PassesOwn.never rfl (IV (by rfl) mr (AA (AX CV (BE (B6 (K := K)) (by rfl) ml B7 (AA (pv 3) AI)) AF) AI)) (Az (i := 7) Hy.nd rfl (Or.inl rfl))
        (AU (A0 (Ht (UZ hu (Ax (AA (pv 7) (AA (pv 6) AI))) (pv 5)))
          (AU (Ab (Ax (AA (pL K (pv 3) (pv 7)) (AA (pL K (pv 4) (pv 6))
            (AA (pL K (pv 3) (AX BU (pv 7) AF)) (AA (pL K (pv 4) (AX BU (pv 6) AF)) AI))))))) A2)))))
    (AU (Ab Ka))))), ?_⟩
  refine⟨_, rfl, _, rfl, a, bs, 0, m, rfl, hA, hl, Nat.zero_le _, λc xs H1 s1 hc lx bx => ?_⟩;have hA1 := HA (R := DW) (λs h => Kg s h) s1 hA;refine⟨_, rfl, _, rfl, a, bs, 1, n, rfl, hA1, hl, Nat.le_refl _, λr ys H2 s2 hrr ly by' => ?_⟩;have hA2 := HA (R := DW) (λs h => Kg s h) s2 hA1;rw[Yo] at bx;rw[Yu] at by'
  have hm : ∀b ∈ bs, b.l ∈ xs /\ b.r ∈ xs /\ b.d ∈ ys /\ b.u ∈ ys := λb hb =>
    ⟨(bx.mem _).mpr (.inr (.inr (List.mem_append_left _ (List.mem_map.mpr ⟨b, hb, rfl⟩)))), (bx.mem _).mpr (.inr (.inr (List.mem_append_right _ (List.mem_map.mpr ⟨b, hb, rfl⟩)))),
     (by'.mem _).mpr (.inr (.inr (List.mem_append_left _ (List.mem_map.mpr ⟨b, hb, rfl⟩)))), (by'.mem _).mpr (.inr (.inr (List.mem_append_right _ (List.mem_map.mpr ⟨b, hb, rfl⟩))))⟩
  refine⟨_, rfl, _, rfl, _, rfl, c, r, a, xs, ys, bs, rfl, s2 _ _ hc, hrr, hA2, hl, lx, ly, hm, λD kvs H3 s3 hD ck => ?_⟩;obtain⟨q1, q2⟩ := q xs ys bx by'
  have hc3 : H3 c = some (.AN (xs.map V.int)) := s3 _ _ (s2 _ _ hc);have hr3 : H3 r = some (.AN (ys.map V.int)) := s3 _ _ hrr;have s03 := (s1.trans s2).trans s3;have cv : ∀j k, j < xs.length - 1 → k < ys.length - 1 → (B4 kvs (kC j k)).isSome = Dl bs xs ys j k := λj k hj hk => by
    rw[Bool.eq_iff_iff, ck j k, Xw bx.up by'.up hm (by omega) (by omega)]
  refine⟨_, rfl, r, _, rfl, .inl (AR.of hr3), _, _, rfl, rfl, _, rfl, by rw[List.length_map]; omega, by rw[List.length_map]; omega, ?_⟩;rw[List.length_map, show((ys.length : Int) - 1).toNat = ys.length - 1 by omega];refine GL (λk σ H4 => AQ H3 H4 /\ (∃u6 u7, σ = [some (.int m), some (.int n), some (.ref a), some (.ref c), some (.ref r), some (.ref D), u6, u7]) /\ ∀k', k' < k → DS bs xs ys k' = none)
    ⟨AQ.refl _, ⟨none, none, rfl⟩, λk' z => absurd z (Nat.not_lt_zero _)⟩ ?_ ?_
  · rintro k σ H4 hk ⟨s4, ⟨u6, u7, rfl⟩, nk⟩;rw[Int.zero_add];refine⟨_, rfl, c, _, rfl, .inl (AR.of (s4 _ _ hc3)), _, _, rfl, rfl, _, rfl, by rw[List.length_map]; omega, by rw[List.length_map]; omega, ?_⟩;rw[List.length_map, show((xs.length : Int) - 1).toNat = xs.length - 1 by omega];refine GL (λj σ H5 => AQ H3 H5 /\ (∃u7, σ = [some (.int m), some (.int n), some (.ref a), some (.ref c), some (.ref r), some (.ref D), some (.int (k : Int)), u7]) /\ ∀j', j' < j → Dl bs xs ys j' k = true)
      ⟨s4, ⟨u7, rfl⟩, λj' z => absurd z (Nat.not_lt_zero _)⟩ ?_ ?_
    · rintro j σ H5 hj ⟨s5, ⟨u7, rfl⟩, nj⟩;rw[Int.zero_add];refine⟨_, rfl, _, rfl, by exact sz2, λtp htp => ?_⟩;have s6 := AY htp (.AG [.int (j : Int), .int (k : Int)]);have g6 : (AJ H5 tp (.AG [.int (j : Int), .int (k : Int)])) tp = some (.AG ((kC j k).map kV)) := AV;generalize AJ H5 tp (.AG [.int (j : Int), .int (k : Int)]) = H6 at s6 g6;have s36 := s5.trans s6;refine⟨_, rfl, D, _, rfl, JO.t (s36 _ _ hD) g6, _, rfl, ?_⟩;rw[cv j k hj hk];refine F0 (λov => ?_) (λov => ?_)
      · have e : Dl bs xs ys j k = false := by simpa using ov
        refine⟨_, rfl, _, rfl, c, _, _, _, rfl, rfl, AR.of (s36 _ _ hc3), KJ (by omega), _, rfl, _, rfl, r, _, _, _, rfl, rfl, AR.of (s36 _ _ hr3), KJ (by omega), ?_⟩;refine⟨_, rfl, _, rfl, _, _, rfl, rfl, c, _, _, _, rfl, rfl, AR.of (s36 _ _ hc3), KJ (i := j + 1) (by omega), ?_⟩;refine⟨_, rfl, _, rfl, _, _, rfl, rfl, r, _, _, _, rfl, rfl, AR.of (s36 _ _ hr3), KJ (i := k + 1) (by omega), ?_⟩;refine⟨by exact CL, λt ht => ?_⟩;exact q1 (Eh xs ys j k) t _ (UN hk nk (Sx hj nj e)) ((s03.trans s36).trans (AY ht _)) AV
      · have e : Dl bs xs ys j k = true := by simpa using ov
        refine⟨s36, ⟨_, rfl⟩, λj' z => ?_⟩;rcases(show j' < j \/ j' = j by omega) with y | rfl
        · exact nj j' y
        · exact e
    · rintro σ H5 ⟨s5, ⟨u7, rfl⟩, nj⟩;refine⟨s5, ⟨_, _, rfl⟩, λk' z => ?_⟩;rcases(show k' < k \/ k' = k by omega) with y | rfl
      · exact nk k' y
      · exact Su nj
  · rintro σ H4 ⟨s4, ⟨u6, u7, rfl⟩, nk⟩;exact q2 (UU nk) _ (s03.trans s4)
inductive Ck(m n:Int)(bs:List AE):List V->Prop
 | no (k:Nat) (b:AE):bs[k]?=some b->Cs b=true->(∀k' b',k' < k->bs[k']?=some b'->Cs b'=false)->Ck m n bs [.str "no",.int (k:Int)]
 | out (k:Nat) (b:AE):(∀b∈bs,Cs b=false)->bs[k]?=some b->CW m n b=true->(∀k' b',k' < k->bs[k']?=some b'->CW m n b'=false)->Ck m n bs [.str "out",.int (k:Int)]
 | ov (j k:Nat):(∀b∈bs,Cs b=false)->(∀b∈bs,CW m n b=false)->Fst bs j k->Ck m n bs [.str "overlap",.int (j:Int),.int (k:Int)]
 | Ha (b:AE) (xs ys:List Int):(∀b∈bs,Cs b=false)->(∀b∈bs,CW m n b=false)->CY bs->Bd m (Ep bs) xs->Bd n (Eo bs) ys->DI bs xs ys=some b->Ck m n bs (.str "gap" :: Fw b)
 | Et (xs ys:List Int):(∀b∈bs,Cs b=false)->(∀b∈bs,CW m n b=false)->CY bs->Bd m (Ep bs) xs->Bd n (Eo bs) ys->DI bs xs ys=none->Ck m n bs [.str "covers"]
theorem QU{α:Type}{l:List α}{p:α->Prop}(h:∀(k:Nat) (b:α),k<l.length->l[k]?=some b->p b):∀b∈l,p b:=λb hb=>by
 obtain⟨k,hk,rfl⟩:=List.getElem_of_mem hb;exact h k _ hk (List.getElem?_eq_getElem hk)
inductive Q5(vs:List V)(H:Hp)(Q:VK):Prop
 | mk (m n:Int) (a:Addr) (bs:List AE) (h_0:vs=[.int m,.int n,.ref a]) (h_1:BV DW H a bs) (h_2:bs.length<=30) (h_3:∀ws p H',Ck m n bs ws->AQ H H'->H' p=some (.AG ws)->Q (.ref p) H'):Q5 vs H Q
def Mu:Sp:=λvs H Q _=>Q5 vs H Q
theorem HL:Ar ["width","height","rectangles","k","rectangle","pair","gap"] ["width","height","rectangles"] (Aj s_looked_whole):=Aw
theorem Ms(h:X.K=K:=by rfl):BS X (binaryOp .Add) (RE K):=h ▸ Pc
theorem Y8 (F:Ag K "looked_whole" "looked_whole" s_looked_whole f fd) (G1:AH P w K mg base AM 1 f1 d1 ["rectangle"] NS) (b1:AW K d1 ["rectangle"] []) (k1:KP K f1) (m1:mg "is_neither" = some (.ref f1))
  (G2:AH P w K mg base AM 1 f2 d2 ["rectangle","width","height"] Mr) (b2:AW K d2 ["rectangle","width","height"] []) (k2:KP K f2) (m2:mg "is_out" = some (.ref f2))
  (G3:AH P w K mg base AM 2 f3 d3 ["rectangles"] M0) (b3:AW K d3 ["rectangles"] []) (k3:KP K f3) (m3:mg "first_overlap" = some (.ref f3))
  (G4:AH P w K mg base AM 2 f4 d4 ["width","height","rectangles"] NQ) (b4:AW K d4 ["width","height","rectangles"] []) (k4:KP K f4) (m4:mg "first_gap" = some (.ref f4))
  (me:mg "enumerate" = none):AH P w K mg base AM 3 f fd ["width","height","rectangles"] Mu:=by
 refine F.ok HL (λvs H Q E h=>?_) (λcdv A outer s H vs Q E hr h=>?_)
 ·obtain⟨m,n,a,bs,rfl,_⟩:=h;rfl
 obtain⟨m,n,a,bs,rfl,hA,hl,q⟩:=h;have r1:BB 1 _:=hr.mono (by decide);refine⟨_,AS (Ce PassesOwn.never rfl (Ic (by rfl) me (AA (pv 2) AI)) (D7 (n:=2) (K:=K) rfl (BQ (Az (i:=3) HL.nd rfl (Or.inl rfl)) (BQ (Az (i:=4) HL.nd rfl (Or.inl rfl)) D0)))
   (AU (A0 (D4 (Ah G1 r1 (by rfl) m1 k1 b1 .nil Ae (AA (pv 4) AI))) (AU (Ab (Ax (AA Bo (AA (pv 3) AI))))) A2)))
  (AS (Ce PassesOwn.never rfl (Ic (by rfl) me (AA (pv 2) AI)) (D7 (n:=2) (K:=K) rfl (BQ (Az (i:=3) HL.nd rfl (Or.inl rfl)) (BQ (Az (i:=4) HL.nd rfl (Or.inl rfl)) D0)))
   (AU (A0 (D4 (Ah G2 r1 (by rfl) m2 k2 b2 .nil Ae (AA (pv 4) (AA (pv 0) (AA (pv 1) AI))))) (AU (Ab (Ax (AA Bo (AA (pv 3) AI))))) A2)))
  (AS (Ad (i:=5) HL.nd rfl (Or.inl rfl) (Ah G3 hr (by rfl) m3 k3 b3 .nil Ae (AA (pv 2) AI)))
  (AS (A0 (Ht (Lu (pv 5))) (AU (Ab (AX (Ms (K:=K)) (Ax (AA Bo AI)) (pv 5)))) A2)
  (AS (Ad (i:=6) HL.nd rfl (Or.inl rfl) (Ah G4 hr (by rfl) m4 k4 b4 .nil Ae (AA (pv 0) (AA (pv 1) (AA (pv 2) AI)))))
  (AS (A0 (Ht (Lu (pv 6))) (AU (Ab (AX (Ms (K:=K)) (Ax (AA Bo AI)) (pv 6)))) A2)
  (AU (Ab (Ax (AA Bo AI))))))))),?_⟩
 obtain⟨cs,ha,hC⟩:=id hA;have lc:cs.length=bs.length:=hC.1;refine⟨_,rfl,a,_,rfl,ha,?_⟩;refine Jm (xs:=cs.map V.ref) (λi σ H2=>AQ H H2/\(∃u3 u4,σ=[some (.int m),some (.int n),some (.ref a),u3,u4,none,none])/\∀k' b',k' < i->bs[k']?=some b'->Cs b'=false)
  ⟨AQ.refl _,⟨none,none,rfl⟩,λ_ _ z=>absurd z (Nat.not_lt_zero _)⟩ (λi σ H2 _ ⟨s2,_⟩=>s2 _ _ ha) ?_ ?_
 ·rintro i x σ H2 p hx ⟨s2,⟨u3,u4,rfl⟩,no⟩ hp;obtain⟨c,b,rfl,_,hy,fb⟩:=hC.ref hx;have s3:=AY hp (.AG [.int ((i:Nat):Int),.ref c]);have g3:(AJ H2 p (.AG [.int ((i:Nat):Int),.ref c])) p=some (.AG [.int ((i:Nat):Int),.ref c]):=AV;generalize AJ H2 p (.AG [.int ((i:Nat):Int),.ref c])=H3 at s3 g3;have s03:=s2.trans s3;refine⟨p,_,rfl,AK.of g3,rfl,_,_,rfl,_,_,rfl,rfl,?_⟩;refine⟨_,rfl,c,b,rfl,s03 _ _ fb,_,rfl,?_⟩;refine F0 (λe=>?_) (λe=>?_)
  ·refine⟨_,rfl,by exact sz2,λt ht=>?_⟩;exact q _ t _ (.no i b hy e no) (s03.trans (AY ht _)) AV
  ·refine⟨s03,⟨_,_,rfl⟩,λk' b' z1 z2=>?_⟩;rcases(show k' < i\/k'=i by omega) with y | rfl
   ·exact no k' b' y z2
   ·rw[hy] at z2; cases z2; simpa using e
 rintro σ H1 ⟨s1,⟨u3,u4,rfl⟩,no⟩;rw[List.length_map,lc] at no;have no':∀b∈bs,Cs b=false:=QU no;clear no;refine⟨_,rfl,a,_,rfl,s1 _ _ ha,?_⟩;refine Jm (xs:=cs.map V.ref) (λi σ H2=>AQ H H2/\(∃u3 u4,σ=[some (.int m),some (.int n),some (.ref a),u3,u4,none,none])/\∀k' b',k' < i->bs[k']?=some b'->CW m n b'=false)
  ⟨s1,⟨u3,u4,rfl⟩,λ_ _ z=>absurd z (Nat.not_lt_zero _)⟩ (λi σ H2 _ ⟨s2,_⟩=>s2 _ _ ha) ?_ ?_
 ·rintro i x σ H2 p hx ⟨s2,⟨u3,u4,rfl⟩,no⟩ hp;obtain⟨c,b,rfl,_,hy,fb⟩:=hC.ref hx;have s3:=AY hp (.AG [.int ((i:Nat):Int),.ref c]);have g3:(AJ H2 p (.AG [.int ((i:Nat):Int),.ref c])) p=some (.AG [.int ((i:Nat):Int),.ref c]):=AV;generalize AJ H2 p (.AG [.int ((i:Nat):Int),.ref c])=H3 at s3 g3;have s03:=s2.trans s3;refine⟨p,_,rfl,AK.of g3,rfl,_,_,rfl,_,_,rfl,rfl,?_⟩;refine⟨_,rfl,_,rfl,_,rfl,c,b,m,n,rfl,s03 _ _ fb,_,rfl,?_⟩;refine F0 (λe=>?_) (λe=>?_)
  ·refine⟨_,rfl,by exact sz2,λt ht=>?_⟩;exact q _ t _ (.out i b no' hy e no) (s03.trans (AY ht _)) AV
  ·refine⟨s03,⟨_,_,rfl⟩,λk' b' z1 z2=>?_⟩;rcases(show k' < i\/k'=i by omega) with y | rfl
   ·exact no k' b' y z2
   ·rw[hy] at z2; cases z2; simpa using e
 rintro σ H2 ⟨s2,⟨v3,v4,rfl⟩,no⟩;rw[List.length_map,lc] at no;have out':∀b∈bs,CW m n b=false:=QU no;clear no;have hA2:=HA (R:=DW) (λs h=>Kg s h) s2 hA;refine⟨_,rfl,a,bs,rfl,hA2,by omega,λj k p H3 fst s3 hp=>?_,λnov H3 s3=>?_⟩
 ·refine⟨_,rfl,_,rfl,?_⟩;refine Bk ?_;refine⟨by exact sz1,λt ht=>?_⟩;have s4:=AY ht (.AG [.str "overlap"]);have g4:(AJ H3 t (.AG [.str "overlap"])) t=some (.AG [.str "overlap"]):=AV;generalize AJ H3 t (.AG [.str "overlap"])=H4 at s4 g4;refine⟨_,rfl,t,p,_,_,rfl,rfl,AK.of g4,AK.of (s4 _ _ hp),by simp,by exact Dv,(λz=>by cases z),λ_ t2 ht2=>?_⟩;exact q _ t2 _ (.ov j k no' out' fst) (s2.trans (s3.trans (s4.trans (AY ht2 _)))) AV
 refine⟨_,rfl,_,rfl,?_⟩;refine BX ?_;have hA3:=HA (R:=DW) (λs h=>Kg s h) s3 hA2;refine⟨_,rfl,_,rfl,_,rfl,m,n,a,bs,rfl,hA3,hl,λxs ys bx by'=>⟨λb p H4 gp s4 hp=>?_,λgp H4 s4=>?_⟩⟩
 ·refine⟨_,rfl,_,rfl,?_⟩;refine Bk ?_;refine⟨by exact sz1,λt ht=>?_⟩;have s5:=AY ht (.AG [.str "gap"]);have g5:(AJ H4 t (.AG [.str "gap"])) t=some (.AG [.str "gap"]):=AV;generalize AJ H4 t (.AG [.str "gap"])=H5 at s5 g5;refine⟨_,rfl,t,p,_,_,rfl,rfl,AK.of g5,AK.of (s5 _ _ hp),by simp,by exact Nf,(λz=>by cases z),λ_ t2 ht2=>?_⟩;exact q _ t2 _ (.Ha b xs ys no' out' nov bx by' gp) (s2.trans (s3.trans (s4.trans (s5.trans (AY ht2 _))))) AV
 ·refine⟨_,rfl,_,rfl,?_⟩;refine BX ?_;refine⟨by exact sz1,λt ht=>?_⟩;exact q _ t _ (.Et xs ys no' out' nov bx by' gp) (s2.trans (s3.trans (s4.trans (AY ht _)))) AV
def JT(r:List Int):AE:=(r.getD 0 0,r.getD 1 0,r.getD 2 0,r.getD 3 0)
theorem WJ{r:List Int}(h:r.length=4):r=[(JT r).l,(JT r).d,(JT r).r,(JT r).u]:=by
 match r,h with
 | [a,b,c,d],_=>rfl
def Ee(B:Int)(rows:List (List Rat)):List AE:=rows.map λr=>JT (r.map (wh B))
theorem UJ{H:Hp}{l:Addr}{B:Int}{rows:List (List Rat)}(four:∀r∈rows,r.length=4)(h:BV FC H l (rows.map λr=>r.map (wh B))):BV DW H l (Ee B rows):=by
 obtain⟨cs,h1,h2,h3⟩:=h;refine⟨cs,h1,by rw[h2,Ee,List.length_map,List.length_map],λi c b e1 e2=>?_⟩;rw[Ee,List.getElem?_map] at e2;obtain⟨r,e3,rfl⟩:=Option.map_eq_some_iff.mp e2
 have:=h3 i c (r.map (wh B)) e1 (by rw[List.getElem?_map,e3]; rfl)
 have f4:=WJ (r:=r.map (wh B)) (by rw[List.length_map]; exact four r (List.mem_of_getElem? e3));unfold FC at this;rw[f4] at this;exact this
structure FX(W U:Rat)(rows:List (List Rat)):Prop where
 len:rows.length<=30
 four:∀r∈rows,r.length=4
 sz:∀q∈BI W U rows,q.den<=2 ^ 16/\q.num.natAbs<=2 ^ 64
theorem FX.SG{W U:Rat}{rows:List (List Rat)}(k:FX W U rows):(BI W U rows).length<=122:=by
 have:=k.len
 rw[List.length_cons,List.length_cons,Mf k.four]; omega
theorem FX.cb{W U:Rat}{rows:List (List Rat)}(k:FX W U rows):0<cb (BI W U rows)/\(∀q∈BI W U rows,(q.den:Int) ∣ cb (BI W U rows))/\(Mth.cb (BI W U rows)).natAbs<=2 ^ 1952:=by
 obtain⟨h1,_,h2,h3⟩:=Qz (BI W U rows) (c:=1) (D:=0) (d:=16) (by decide) (by decide) (λq hq=>(k.sz q hq).1);exact⟨h1,h2,Nat.le_trans h3 (Nat.pow_le_pow_right (by decide) (by have:=k.SG; omega))⟩
theorem FX.Nb{W U:Rat}{rows:List (List Rat)}(k:FX W U rows):∀q∈BI W U rows,B3 q.num/\B3 (q.den:Int)/\B3 ((Mth.cb (BI W U rows)).fdiv q.den):=λq hq=>by
 obtain⟨h1,h2,h3⟩:=k.cb;obtain⟨s1,s2⟩:=k.sz q hq;refine⟨ER s2 (by decide),ER (n:=16) (by rw[Int.natAbs_natCast]; exact s1) (by decide),ER (n:=1952) (Nat.le_trans ?_ h3) (by decide)⟩;rw[Int.fdiv_eq_ediv_of_dvd (h2 q hq)];exact Int.natAbs_ediv_le_natAbs _ _
def Gp(B:Int)(g:AE):List Rat:=[(g.l:Rat) / (B:Rat),(g.d:Rat) / (B:Rat),(g.r:Rat) / (B:Rat),(g.u:Rat) / (B:Rat)]
inductive RD(vs:List V)(H:Hp)(Q:VK):Prop
 | mk (a:Addr) (W U:Rat) (rows:List (List Rat)) (h_0:vs=[.ref a]) (h_1:Bi H a W U rows) (h_2:FX W U rows) (h_3:(∀ws p H',Ck (wh (cb (BI W U rows)) W) (wh (cb (BI W U rows)) U) (Ee (cb (BI W U rows)) rows) ws->ws.head?≠some (.str "gap")->AQ H H'->H' p=some (.AG ws)->Q (.ref p) H')) (h_4:(∀g p ts H',Ck (wh (cb (BI W U rows)) W) (wh (cb (BI W U rows)) U) (Ee (cb (BI W U rows)) rows) (.str "gap" :: Fw g)->AQ H H'->H' p=some (.AG (.str "gap" :: ts.map V.ref))->At Aa H' ts (Gp (cb (BI W U rows)) g)->Q (.ref p) H')):RD vs H Q
def NK:Sp:=λvs H Q _=>RD vs H Q
theorem LB:Ar ["floor","bottom","whole","found"] ["floor"] (Aj s_looked):=Aw
theorem Zs:(["number","bottom"]:List Str).Nodup:=by decide +kernel
theorem Ck.head{m n:Int}{bs:List AE}{ws:List V}(h:Ck m n bs ws):(∃s t,ws=.str s :: t/\s≠"gap")\/∃g,ws=.str "gap" :: Fw g:=by
 cases h with
 | no=>exact .inl ⟨_,_,rfl,by decide⟩
 | out=>exact .inl ⟨_,_,rfl,by decide⟩
 | ov=>exact .inl ⟨_,_,rfl,by decide⟩
 | Ha b=>exact .inr ⟨b,rfl⟩
 | Et=>exact .inl ⟨_,_,rfl,by decide⟩
theorem hd0(x:V)(t:List V):BR (x :: t) 0=some x:=Ap (j:=0) rfl
theorem Ye:HT.Ai 5 0 (some 1)=1:=by simp[HT.Ai]
theorem UY (F:Ag K "looked" "looked" s_looked f fd) (G1:AH P w K mg base AM 1 f1 d1 ["floor"] MR) (b1:AW K d1 ["floor"] []) (k1:KP K f1) (m1:mg "numbers_of" = some (.ref f1))
  (G2:AH P w K mg base AM 2 f2 d2 ["top","bottom"] (KW C0)) (b2:AW K d2 ["top","bottom"] []) (k2:KP K f2) (m2:mg "fraction" = some (.ref f2))
  (G3:AH P w K mg base AM 2 f3 d3 ["row"] Ma) (b3:AW K d3 ["row"] []) (k3:KP K f3) (m3:mg "common_bottom" = some (.ref f3))
  (G4:AH P w K mg base AM 3 f4 d4 ["width","height","rectangles"] Mu) (b4:AW K d4 ["width","height","rectangles"] []) (k4:KP K f4) (m4:mg "looked_whole" = some (.ref f4))
  (G5:AH P w K mg base AM 2 f5 d5 ["floor","bottom"] NA) (b5:AW K d5 ["floor","bottom"] []) (k5:KP K f5) (m5:mg "whole_floor" = some (.ref f5)) (mt:mg "tuple" = none) :
  AH P w K mg base AM 4 f fd ["floor"] NK:=by
 refine F.ok LB (λvs H Q E h=>?_) (λcdv A outer s H vs Q E hr h=>?_)
 ·obtain⟨a,W,U,rows,rfl,_⟩:=h;rfl
 obtain⟨a,W,U,rows,rfl,hF,k,q1,q2⟩:=h;have r1:=hr.mono (show 1<=3 by decide);have r2:=hr.mono (show 2<=3 by decide);refine⟨_,AS (Ad (i:=1) LB.nd rfl (Or.inr rfl) (Ah G3 r2 (by rfl) m3 k3 b3 .nil Ae (AA (Ah G1 r1 (by rfl) m1 k1 b1 .nil Ae (AA (pv 0) AI)) AI)))
  (AS (Ad (i:=2) LB.nd rfl (Or.inl rfl) (Ah G5 r2 (by rfl) m5 k5 b5 .nil Ae (AA (pv 0) (AA (pv 1) AI))))
  (AS (Ad (i:=3) LB.nd rfl (Or.inl rfl) (Ah G4 hr (by rfl) m4 k4 b4 .nil Ae (AA (pT K (pv 2) AF) (AA (pT K (pv 2) AF) (AA (pT K (pv 2) AF) AI)))))
  (AS (A0 (Aq Bt (pT K (pv 3) AF) Bo (Ac _))
   (AU (Ab (AX (Ms (K:=K)) (Ax (AA Bo AI)) (Dx (Pn (K:=K)) (by rfl) mt Gx (AA (Hj (Nc:=["number","bottom"]) (cap:=[(1,1)]) (g:=B9 0) (te:=DT (KW C0) [] E0 (Ay (Al 0) (Ay (Al 1) Bc))) rfl (Qn (K:=K) (Fc (aQ (K:=K)) (pv 3) (E2 AF) GQ))
    (EH rfl rfl (by decide +kernel) (by decide +kernel) (List.forall_mem_cons.mpr ⟨⟨rfl,rfl⟩,List.forall_mem_nil _⟩) rfl (List.forall_mem_cons.mpr ⟨⟨_,_,rfl,rfl,rfl,rfl,rfl⟩,List.forall_mem_nil _⟩))
    (λ_ _ _ _ _=>Az (i:=0) Zs rfl (Or.inl rfl)) (λ_ _ _ _ _=>Ah (CX:=AM) G2 r2 (by rfl) m2 k2 b2 .nil Ae (AA (pv 0) (AA (pv 1) AI)))) AI))))) A2)
  (AU (Ab (pv 3)))))),?_⟩
 have l40:=k.len;refine⟨_,rfl,a,W,U,rows,rfl,hF,by omega,k.four,λpn H1 s1 hN=>⟨pn,_,16,rfl,hN,λy hy=>(k.sz y hy).1,by have:=k.SG; omega,?_⟩⟩;refine⟨_,rfl,_,rfl,a,_,W,U,rows,rfl,Bs s1 hF,by omega,k.four,k.Nb,λpw l H2 s2 hw hL=>?_⟩;have hB:=UJ k.four hL;obtain⟨B0,_,BL⟩:=k.cb;generalize cb (BI W U rows)=B at *;have Bb:B3 B:=ER BL (by decide);have Bn:B≠0:=by omega
 refine⟨_,rfl,pw,_,_,_,rfl,rfl,AK.of hw,FK _ _ _,_,rfl,pw,_,_,_,rfl,rfl,AK.of hw,HP _ _ _,_,rfl,pw,_,_,_,rfl,rfl,AK.of hw,EB _ _ _,?_⟩;refine⟨_,_,l,_,rfl,hB,by rw[Ee,List.length_map]; exact l40,λws p H3 lk s3 hp=>?_⟩;have s03:=(s1.trans s2).trans s3;rcases lk.head with ⟨z,t,rfl,ne⟩ | ⟨g,rfl⟩
 ·refine⟨_,rfl,p,_,_,_,rfl,rfl,AK.of hp,hd0 _ _,rfl,_,rfl,Am (λe=>ne (V.str.inj e)) ?_⟩;exact⟨_,rfl,q1 _ p _ lk (λe=>ne (by injection e with e; injection e)) s03 hp⟩
 refine⟨_,rfl,p,_,_,_,rfl,rfl,AK.of hp,hd0 _ _,rfl,_,rfl,A8 rfl ?_⟩;refine⟨by exact sz1,λt ht=>?_⟩;have s4:=AY ht (.AG [.str "gap"]);have g4:(AJ H3 t (.AG [.str "gap"])) t=some (.AG [.str "gap"]):=AV;generalize AJ H3 t (.AG [.str "gap"])=H4 at s4 g4;refine⟨_,rfl,1,rfl,p,_,rfl,AK.of (s4 _ _ hp),λz=>?_,λp1 hp1=>?_⟩
 ·have:=z.1
  rw[show(V.str "gap" :: Fw g).length=5 from rfl,Ye] at this;cases this
 rw[show B5 (V.str "gap" :: Fw g) (some 1) none=[g.l,g.d,g.r,g.u].map V.int by rw[show(some (1:Int))=some ((1:Nat):Int) from rfl,Lk _ (by show 1<=5; decide)]; rfl];have s5:=AY hp1 (.AG ([g.l,g.d,g.r,g.u].map V.int));have g5:(AJ H4 p1 (.AG ([g.l,g.d,g.r,g.u].map V.int))) p1=some (.AG ([g.l,g.d,g.r,g.u].map V.int)):=AV;generalize AJ H4 p1 (.AG ([g.l,g.d,g.r,g.u].map V.int))=H5 at s5 g5;refine⟨p1,rfl,⟨_,AK.of g5⟩,λacc hacc=>?_⟩;refine E1 (J8 g5) (by show 4<=1000; decide) hacc (λi ys σ hp=>∃ds:List Addr,ys=ds.map V.ref/\At Aa hp ds ((Gp B g).take i)/\∃u,σ=[u,some (.int B)]) ⟨[],rfl,At.nil,none,rfl⟩ ?_ ?_
 ·rintro i ys σ H6 x H7 hi sm hac6 ⟨ds,rfl,hD,u,rfl⟩ ⟨rfl,hx⟩ Cc hC;obtain⟨e,rfl,he⟩:=Lv hx;have eg:(Gp B g)[i]?=some ((e:Rat) / (B:Rat)):=by
   have:Gp B g=[g.l,g.d,g.r,g.u].map λe:Int=>(e:Rat) / (B:Rat):=rfl
   rw[this,List.getElem?_map,he]; rfl
  refine⟨_,rfl,_,rfl,e,B,rfl,Bb,λz=>absurd z Bn,λ_ p5 hp5=>?_⟩;have s8:=AY hp5 (.AG [.int (BA e B).1,.int (BA e B).2]);have g8:Aa (AJ H7 p5 (.AG [.int (BA e B).1,.int (BA e B).2])) p5 ((e:Rat) / (B:Rat)):=by
   rw[IY e B Bn]; exact AV
  have ne:p5≠acc:=λz=>by rw[z,hac6] at hp5; cases hp5
  refine hC _ _ _ s8 ⟨ds++[p5],by simp,?_,_,rfl⟩;rw[Dw eg];exact(hD.keep DV (Fe acc s8)).snoc (Fj g8 ne)
 rintro ys σ2 H6 s6 hac6 _ ⟨ds,rfl,hD,u,rfl⟩;have ld:ds.length=4:=hD.1;rw[show(Gp B g).take ([g.l,g.d,g.r,g.u].map V.int).length=Gp B g from rfl] at hD;refine⟨acc,_,rfl,.inl ⟨AR.of hac6,λp7 hp7=>?_⟩⟩;have s7:=AY hp7 (.AG (ds.map V.ref));have g7:(AJ H6 p7 (.AG (ds.map V.ref))) p7=some (.AG (ds.map V.ref)):=AV;generalize AJ H6 p7 (.AG (ds.map V.ref))=H7 at s7 g7;have s47:=(s5.trans s6).trans s7;refine⟨t,p7,_,_,rfl,rfl,AK.of (s47 _ _ g4),AK.of g7,by simp,by rw[List.length_map,ld]; show 5<=sizeLine; decide,(λz=>by rw[List.map_eq_nil_iff] at z; rw[z] at ld; cases ld),λ_ p8 hp8=>?_⟩;refine q2 g p8 ds _ lk (s03.trans (s4.trans (s47.trans (AY hp8 _)))) AV ?_;exact((hD.keep DV (Ff H6 acc)).keep DV s7).keep DV (AY hp8 _)
def C7(q:Rat):PyData:=.tuple [.int q.num,.int (q.den:Int)]
theorem KS(q:Rat):(C7 q).canLay0=true:=by
 simp only[C7,PyData.canLay0];refine Fh λd hd=>?_
 simp only[List.mem_cons,List.not_mem_nil,or_false] at hd;rcases hd with rfl | rfl <;> rfl
theorem J0(q:Rat):(C7 q).depth<=2:=by simp[C7,PyData.depth,PyData.depthAll]
theorem K2{H:Hp}{p:Addr}{q:Rat}(h:Aa H p q):B2 H (.ref p) (C7 q):=by
 refine .AG h rfl λi x d e1 e2=>?_
 match i,e1,e2 with
 | 0,e1,e2=>cases e1; cases e2; exact .int _
 | 1,e1,e2=>cases e1; cases e2; exact .int _
 | n+2,e1,e2=>simp at e1
def covD:PyData:=.tuple [.str "covers"]
theorem Ie:covD.canLay0=true:=by first | rfl | decide +kernel | (simp only[covD,PyData.canLay0,PyData.canLayAll0]; decide)
theorem Jp:covD.depth<=64:=by first | decide | (simp[covD,PyData.depth,PyData.depthAll])
theorem Ke{H:Hp}{p:Addr}(h:H p=some (.AG [.str "covers"])):B2 H (.ref p) covD:=by
 refine .AG h rfl λi x d e1 e2=>?_
 match i,e1,e2 with
 | 0,e1,e2=>cases e1; cases e2; exact .str _
 | n+1,e1,e2=>simp at e1
def Gj(qs:List Rat):PyData:=.tuple (.str "gap" :: qs.map C7)
theorem Vx(qs:List Rat):(Gj qs).canLay0=true:=by
 simp only[Gj,PyData.canLay0];refine Fh λd hd=>?_
 rcases List.mem_cons.mp hd with rfl | hd
 ·first | rfl | decide +kernel | (simp only[PyData.canLay0]; decide)
 ·obtain⟨q,_,rfl⟩:=List.mem_map.mp hd; exact KS q
theorem Uv(qs:List Rat):(Gj qs).depth<=64:=by
 have:=Gy (n:=2) (ds:=.str "gap" :: qs.map C7) λd hd=>by
  rcases List.mem_cons.mp hd with rfl | hd
  ·simp[PyData.depth]
  ·obtain⟨q,_,rfl⟩:=List.mem_map.mp hd; exact J0 q
 simp only[Gj,PyData.depth]; omega
theorem YT{H:Hp}{p:Addr}{ts:List Addr}{qs:List Rat}(h:H p=some (.AG (.str "gap" :: ts.map V.ref)))(hT:At Aa H ts qs):B2 H (.ref p) (Gj qs):=by
 refine .AG h (by simp[hT.1]) λi x d e1 e2=>?_
 cases i with
 | zero=>cases e1; cases e2; exact .str _
 | succ i =>
  rw[List.getElem?_cons_succ,List.getElem?_map] at e1 e2;obtain⟨c,ec,rfl⟩:=Option.map_eq_some_iff.mp e1;obtain⟨y,ey,rfl⟩:=Option.map_eq_some_iff.mp e2;exact K2 (hT.2 i c y ec ey)
theorem YB(qs:List Rat)(h:0<qs.length):PyData.eqv (Gj qs) covD=false:=by
 match qs,h with
 | q :: r,_=>simp[Gj,covD,PyData.eqv,PyData.eqvAll]
open PySem.Spec PyProof.Rows in
theorem Xu:PyData.eqv covD covD=true:=SeqAt.eqv_refl _ Ie
def GZ(s:Str)(is:List Int):PyData:=.tuple (.str s :: is.map PyData.int)
theorem V0{s:Str}(h:PyData.canLay0 (.str s)=true)(is:List Int):(GZ s is).canLay0=true:=by
 simp only[GZ,PyData.canLay0];refine Fh λd hd=>?_
 rcases List.mem_cons.mp hd with rfl | hd
 ·exact h
 ·obtain⟨q,_,rfl⟩:=List.mem_map.mp hd; rfl
theorem U1(s:Str)(is:List Int):(GZ s is).depth<=64:=by
 have:=Gy (n:=2) (ds:=.str s :: is.map PyData.int) λd hd=>by
  rcases List.mem_cons.mp hd with rfl | hd
  ·simp[PyData.depth]
  ·obtain⟨q,_,rfl⟩:=List.mem_map.mp hd; simp[PyData.depth]
 simp only[GZ,PyData.depth]; omega
theorem Wu{H:Hp}{p:Addr}{s:Str}{is:List Int}(h:H p=some (.AG (.str s :: is.map V.int))):B2 H (.ref p) (GZ s is):=by
 refine .AG h (by simp) λi x d e1 e2=>?_
 cases i with
 | zero=>cases e1; cases e2; exact .str _
 | succ i =>
  rw[List.getElem?_cons_succ,List.getElem?_map] at e1 e2;obtain⟨c,ec,rfl⟩:=Option.map_eq_some_iff.mp e1;obtain⟨y,ey,rfl⟩:=Option.map_eq_some_iff.mp e2;rw[ec] at ey;obtain rfl:=Option.some.inj ey;exact .int _
theorem Wk(s:Str)(is:List Int)(h:0<is.length):PyData.eqv (GZ s is) covD=false:=by
 match is,h with
 | q :: r,_=>simp[GZ,covD,PyData.eqv,PyData.eqvAll]
theorem Ck.ZJ{m n:Int}{bs:List AE}{ws:List V}(h:Ck m n bs ws):ws=[.str "covers"]\/(∃(s:Str) (is:List Int),ws=.str s :: is.map V.int/\0<is.length/\s≠"gap"/\PyData.canLay0 (.str s)=true)\/∃g,ws=.str "gap" :: Fw g:=by
 cases h with
 | no k=>exact .inr (.inl ⟨"no",[(k:Int)],rfl,Nat.succ_pos _,by decide,by first | rfl | decide +kernel | (simp only[PyData.canLay0]; decide)⟩)
 | out k=>exact .inr (.inl ⟨"out",[(k:Int)],rfl,Nat.succ_pos _,by decide,by first | rfl | decide +kernel | (simp only[PyData.canLay0]; decide)⟩)
 | ov j k=>exact .inr (.inl ⟨"overlap",[(j:Int),(k:Int)],rfl,Nat.succ_pos _,by decide,by first | rfl | decide +kernel | (simp only[PyData.canLay0]; decide)⟩)
 | Ha b=>exact .inr (.inr ⟨b,rfl⟩)
 | Et=>exact .inl rfl
def Mx:Sp:=λvs H Q _=>∃(a:Addr) (W U:Rat) (rows:List (List Rat)),vs=[.ref a]/\Bi H a W U rows/\FX W U rows /\
 ∀ws H',Ck (wh (cb (BI W U rows)) W) (wh (cb (BI W U rows)) U) (Ee (cb (BI W U rows)) rows) ws->AQ H H'->Q (.bl (decide (ws.length=1))) H'
theorem Zc:Ar ["floor"] ["floor"] (Aj s_covers):=Aw
theorem UM(F:Ag K "covers" "covers" s_covers f fd)(G:AH P w K mg base AM 4 g gd ["floor"] NK)(bG:AW K gd ["floor"] [])(kG:KP K g)(mG:mg "looked" = some (.ref g)):AH P w K mg base AM 5 f fd ["floor"] Mx:=by
 refine F.ok Zc (λvs H Q E h=>?_) (λcdv A outer s H vs Q E hr h=>?_)
 ·obtain⟨a,W,U,rows,rfl,_⟩:=h;rfl
 obtain⟨a,W,U,rows,rfl,hF,k,q⟩:=h;refine⟨_,AU (Ab (Bm (Kd hr.units) (Ah G hr (by rfl) mG kG bG .nil Ae (AA (pv 0) AI)) (Ax (AA Bo AI)) (Ac _))),?_⟩;refine⟨_,rfl,a,W,U,rows,rfl,hF,k,λws p H1 lk ng s1 hp=>?_,λgb p ts H1 lk s1 hp hT=>?_⟩
 ·refine⟨by exact sz1,λc hc=>?_⟩;have s2:=AY hc (.AG [.str "covers"]);have hc2:AJ H1 c (.AG [.str "covers"]) c=some (.AG [.str "covers"]):=AV;generalize AJ H1 c (.AG [.str "covers"])=H2 at s2 hc2;rcases lk.ZJ with rfl | ⟨z,is,rfl,n,_,l⟩ | ⟨b,rfl⟩
  ·refine⟨covD,covD,Ke (s2 _ _ hp),Ke hc2,⟨Ie,Jp⟩,⟨Ie,Jp⟩,?_⟩;rw[Xu];exact q _ _ lk (s1.trans s2)
  ·refine⟨GZ z is,covD,Wu (s2 _ _ hp),Ke hc2,⟨V0 l is,U1 z is⟩,⟨Ie,Jp⟩,?_⟩;rw[Wk z is n]
   have:=q _ _ lk (s1.trans s2)
   rwa [decide_eq_false (by rw[List.length_cons,List.length_map]; omega)] at this
  ·exact(ng rfl).elim
 ·refine⟨by exact sz1,λc hc=>?_⟩;have s2:=AY hc (.AG [.str "covers"]);have hc2:AJ H1 c (.AG [.str "covers"]) c=some (.AG [.str "covers"]):=AV;generalize AJ H1 c (.AG [.str "covers"])=H2 at s2 hc2;refine⟨Gj (Gp _ gb),covD,YT (s2 _ _ hp) (hT.keep (λs x=>s _ _ x) s2),Ke hc2,⟨Vx _,Uv _⟩,⟨Ie,Jp⟩,?_⟩;rw[YB (Gp _ gb) (by show 0<4; decide)]
  have:=q _ _ lk (s1.trans s2)
  rwa [decide_eq_false (by simp[Fw])] at this
def FI(r:List Rat):PyData:=.tuple (r.map C7)
def E9(W U:Rat)(rows:List (List Rat)):PyData:=.tuple [C7 W,C7 U,.tuple (rows.map FI)]
theorem XA(r:List Rat):(FI r).canLay0=true:=by
 simp only[FI,PyData.canLay0];refine Fh λd hd=>?_
 obtain⟨q,_,rfl⟩:=List.mem_map.mp hd; exact KS q
theorem Um(W U:Rat)(rows:List (List Rat)):(E9 W U rows).canLay0=true:=by
 simp only[E9,PyData.canLay0];refine Fh λd hd=>?_
 simp only[List.mem_cons,List.not_mem_nil,or_false] at hd;rcases hd with rfl | rfl | rfl
 ·exact KS W
 ·exact KS U
 ·simp only[PyData.canLay0];refine Fh λd hd=>?_
  obtain⟨q,_,rfl⟩:=List.mem_map.mp hd; exact XA q
theorem Vt(r:List Rat):(FI r).depth<=3:=by
 have:=Gy (n:=2) (ds:=r.map C7) λd hd=>by obtain⟨q,_,rfl⟩:=List.mem_map.mp hd; exact J0 q
 simp only[FI,PyData.depth]; omega
theorem Ut(rows:List (List Rat)):(PyData.tuple (rows.map FI)).depth<=4:=by
 have:=Gy (n:=3) (ds:=rows.map FI) λd hd=>by obtain⟨q,_,rfl⟩:=List.mem_map.mp hd; exact Vt q
 simp only[PyData.depth]; omega
theorem Tb(W U:Rat)(rows:List (List Rat)):(E9 W U rows).depth<=64:=by
 have:=Gy (n:=4) (ds:=[C7 W,C7 U,.tuple (rows.map FI)]) λd hd=>by
  simp only[List.mem_cons,List.not_mem_nil,or_false] at hd;rcases hd with rfl | rfl | rfl
  ·have:=J0 W; omega
  ·have:=J0 U; omega
  ·exact Ut rows
 simp only[E9,PyData.depth]; omega
theorem RM{α:Type}{R:Hp->Addr->α->Prop}{D:α->PyData}(hR:∀{H p x},R H p x->B2 H (.ref p) (D x)){H:Hp}{p:Addr}{xs:List α}(h:A5 R H p xs):B2 H (.ref p) (.tuple (xs.map D)):=by
 obtain⟨cs,hp,hC⟩:=h;refine .AG hp (by rw[List.length_map,List.length_map,hC.1]) λi x d e1 e2=>?_
 rw[List.getElem?_map] at e1 e2;obtain⟨c,ec,rfl⟩:=Option.map_eq_some_iff.mp e1;obtain⟨y,ey,rfl⟩:=Option.map_eq_some_iff.mp e2;exact hR (hC.2 i c y ec ey)
theorem Jr{H:Hp}{a:Addr}{W U:Rat}{rows:List (List Rat)}(h:Bi H a W U rows):B2 H (.ref a) (E9 W U rows):=by
 obtain⟨p,q,r,ha,fW,fU,fR⟩:=h;refine .AG ha rfl λi x d e1 e2=>?_
 match i,e1,e2 with
 | 0,e1,e2=>cases e1; cases e2; exact K2 fW
 | 1,e1,e2=>cases e1; cases e2; exact K2 fU
 | 2,e1,e2=>cases e1; cases e2; exact RM (R:=A5 Aa) (D:=FI) (λh=>RM (R:=Aa) (D:=C7) (λh=>K2 h) h) fR
 | n+3,e1,e2=>simp at e1
theorem Kz(W U:Rat)(rows:List (List Rat)):(E9 W U rows).canLay0=true/\(E9 W U rows).depth<=64:=⟨Um W U rows,Tb W U rows⟩
end
end My
namespace My
open PySem L2 Mth Wd
abbrev NN(H:Hp)(Q:VK)(q:Rat):Prop:=∀p,H p=none->Q (.ref p) (AJ H p (.AG [.int q.num,.int q.den]))
abbrev Sf(q:Rat):Prop:=Sb 3900 3900 q
theorem Sf.n{q:Rat}(h:Sf q):B3 q.num:=ER h.1 (by decide)
theorem Sf.d{q:Rat}(h:Sf q):B3 (q.den:Int):=ER (n:=3900) (by simpa using h.2) (by decide)
theorem Ej{H:Hp}{p:Addr}{r:List Rat}(h:A5 Aa H p r)(n:r.length=4):∃(c0 c1 c2 c3:Addr) (x0 x1 x2 x3:Rat),r=[x0,x1,x2,x3]/\H p=some (.AG [.ref c0,.ref c1,.ref c2,.ref c3])/\Aa H c0 x0/\Aa H c1 x1/\Aa H c2 x2/\Aa H c3 x3:=by
 obtain⟨cs,hp,hC⟩:=h;have lc:cs.length=4:=by rw[hC.1,n]
 match r,n,cs,lc with
 | [x0,x1,x2,x3],_,[c0,c1,c2,c3],_=>exact⟨c0,c1,c2,c3,x0,x1,x2,x3,rfl,hp,hC.2 0 _ _ rfl rfl,hC.2 1 _ _ rfl rfl,hC.2 2 _ _ rfl rfl,hC.2 3 _ _ rfl rfl⟩
end My
namespace L2
open PySem PySem.Spec PyProof.Rows My
section
variable {X:Cx}
theorem LI{H:Hp}{b:Addr}{q:Rat}(h:Aa H b q):B2 H (.ref b) (FT q):=by
 refine .AG h rfl λi x d e1 e2=>?_
 match i with
 | 0=>obtain rfl:=Option.some.inj e1; obtain rfl:=Option.some.inj e2; exact .int _
 | 1=>obtain rfl:=Option.some.inj e1; obtain rfl:=Option.some.inj e2; exact .int _
 | i+2=>simp at e1
theorem Up(q:Rat):SeqAt.shaped (FT q)=true:=by
 simp[SeqAt.shaped,FT,PyData.canLay0,PyData.canLayAll0,PyData.depth,PyData.depthAll]
theorem LK(q:Rat):(FT q).canLay0=true/\(FT q).depth<=64:=by
 have s:=Up q;unfold SeqAt.shaped at s;rw[Bool.and_eq_true] at s;exact⟨s.1,of_decide_eq_true s.2⟩
def Z5:R2:=λx y H Q=>∃(p q:Addr) (a b:Rat),x=.ref p/\y=.ref q/\Aa H p a/\Aa H q b/\Q (.bl (decide (a=b))) H
def ZW:R2:=λx y H Q=>∃(p q:Addr) (a b:Rat),x=.ref p/\y=.ref q/\Aa H p a/\Aa H q b/\Q (.bl (!decide (a=b))) H
theorem Hm(hu:X.A.units+64<cLine):BS X (compareOp .Eq) Z5:=by
 intro pins s σ H x y v u Q I rx ry h;obtain⟨p,q,a,b,rfl,rfl,hp,hq,k⟩:=h;refine Kd hu pins s σ H _ _ v u Q I rx ry ⟨_,_,LI hp,LI hq,LK a,LK b,?_⟩;rw[MS]; exact k
theorem GU(hu:X.A.units+64<cLine):BS X (compareOp .NotEq) ZW:=by
 intro pins s σ H x y v u Q I rx ry h;obtain⟨p,q,a,b,rfl,rfl,hp,hq,k⟩:=h;refine MT hu pins s σ H _ _ v u Q I rx ry ⟨_,_,LI hp,LI hq,LK a,LK b,?_⟩;rw[MS]; exact k
end
end L2
namespace My
open PySem L2 Mth Wd Fl
section
variable {P:Program} {w:World} {K:PySem.W.Frag} {mg:Str->Option Value} {base:Heap} {f g h f1 f2 f3:Addr} {fd gd hd d1 d2 d3:FuncData}
inductive P2(vs:List V)(H:Hp)(Q:VK):Prop
 | mk (p q:Addr) (x y:Rat) (h_0:vs=[.ref p,.ref q]) (h_1:Aa H p x) (h_2:Aa H q y) (h_3:Sf x) (h_4:Sf y) (h_5:Q (.bl (decide (x<y))) H):P2 vs H Q
def Hr:Sp:=λvs H Q _=>P2 vs H Q
theorem Zy:Ar ["one","other"] ["one","other"] (Aj sLess):=Aw
theorem XN(F:Ag K "less" "less" sLess f fd):AH P w K mg base AM 1 f fd ["one","other"] Hr:=by
 refine F.ok Zy (λvs H Q E h=>?_) (λcdv A outer s H vs Q E hr h=>?_)
 ·obtain⟨p,q,x,y,rfl,_⟩:=h;rfl
 obtain⟨p,q,x,y,rfl,hp,hq,sx,sy,k⟩:=h;refine⟨_,AU (Ab (Bm Cy (AX Il (pT K (pv 0) AF) (pT K (pv 1) AF)) (AX Il (pT K (pv 1) AF) (pT K (pv 0) AF)) (Ac _))),?_⟩;rw[show decide (x<y)=decide (x.num*(y.den:Int)<y.num*(x.den:Int)) from decide_eq_decide.mpr (Rat.lt_iff x y)] at k;exact⟨_,rfl,p,_,_,_,rfl,rfl,AK.of hp,C8,_,rfl,q,_,_,_,rfl,rfl,AK.of hq,Cb,_,_,rfl,rfl,⟨sx.n,sy.d⟩,_,rfl,q,_,_,_,rfl,rfl,AK.of hq,C8,_,rfl,p,_,_,_,rfl,rfl,AK.of hp,Cb,_,_,rfl,rfl,⟨sy.n,sx.d⟩,_,_,rfl,rfl,k⟩
theorem Zg:Ar ["count","j","k"] ["count","j","k"] (Aj s_is_pair):=Aw
def IB(r:List Rat)(x l rr:Rat):Bool:=(decide (r.getD 1 0=x) || decide (r.getD 3 0=x)) && (!decide (r.getD 2 0<l) && !decide (rr<r.getD 0 0))
inductive QP(vs:List V)(H:Hp)(Q:VK):Prop
 | mk (p a b c:Addr) (r:List Rat) (x l rr:Rat) (h_0:vs=[.ref p,.ref a,.ref b,.ref c]) (h_1:A5 Aa H p r) (h_2:r.length=4) (h_3:(∀y∈r,Sf y)) (h_4:Aa H a x) (h_5:Aa H b l) (h_6:Aa H c rr) (h_7:Sf l) (h_8:Sf rr) (h_9:Q (.bl (IB r x l rr)) H):QP vs H Q
def MY:Sp:=λvs H Q _=>QP vs H Q
theorem Zo:Ar ["rectangle","level","left","right"] ["rectangle","level","left","right"] (Aj s_touches):=Aw
theorem Tc(F:Ag K "touches" "touches" s_touches f fd)(G:AH P w K mg base AM 1 g gd ["one","other"] Hr)(bG:AW K gd ["one","other"] [])(kG:KP K g)(mG:mg "less" = some (.ref g)):AH P w K mg base AM 2 f fd ["rectangle","level","left","right"] MY:=by
 refine F.ok Zo (λvs H Q E h=>?_) (λcdv A outer s H vs Q E hr h=>?_)
 ·obtain⟨p,a,b,c,r,x,l,rr,rfl,_⟩:=h;rfl
 obtain⟨p,a,b,c,r,x,l,rr,rfl,hp,n4,sf,hx,hl,hr',sl,sr,q⟩:=h;obtain⟨c0,c1,c2,c3,x0,x1,x2,x3,rfl,hp,h0,h1,h2,h3⟩:=Ej hp n4;refine⟨_,AS (A0 (PW.pt (DE (Aq (GU hr.units) (pT K (pv 0) AF) (pv 1) (Ac _)) (EK (Aq (GU hr.units) (pT K (pv 0) AF) (pv 1) (Ac _))))) (AU (Ab CI)) A2)
  (AU (Ab (E8 (QG (Ah G hr (by rfl) mG kG bG .nil Ae (AA (pT K (pv 0) AF) (AA (pv 2) AI)))) (Dg (QG (Ah G hr (by rfl) mG kG bG .nil Ae (AA (pv 3) (AA (pT K (pv 0) AF) AI)))))))),?_⟩
 have e:IB [x0,x1,x2,x3] x l rr=((decide (x1=x) || decide (x3=x)) && (!decide (x2<l) && !decide (rr<x0))):=rfl;rw[e] at q;have fin:(decide (x1=x) || decide (x3=x))=true->HQ (Mb (Mn (DT Hr [] E0 (Ay (BK (Ei K) (Al 0) (tC (.int 2))) (Ay (Al 2) Bc)))) (Mn (DT Hr [] E0 (Ay (Al 3) (Ay (BK (Ei K) (Al 0) (tC (.int 0))) Bc))))) { nx:=λ_ H'=>Q .An H',rt:=Q } [some (.ref p),some (.ref a),some (.ref b),some (.ref c)] H:=λz=>by
  rw[z,Bool.true_and] at q;refine⟨_,rfl,p,_,_,_,rfl,rfl,AK.of hp,DJ,_,rfl,c2,b,x2,l,rfl,h2,hl,sf _ (by simp),sl,_,rfl,_,rfl,?_⟩;cases y:decide (x2<l) with
  | true=>rw[y] at q; exact BX q
  | false =>
   rw[y,Bool.not_false,Bool.true_and] at q;refine Bk ?_;exact⟨_,rfl,_,rfl,p,_,_,_,rfl,rfl,AK.of hp,DO,c,c0,rr,x0,rfl,hr',h0,sr,sf _ (by simp),_,rfl,q⟩
 refine⟨_,rfl,p,_,_,_,rfl,rfl,AK.of hp,Cm,_,rfl,c1,a,x1,x,rfl,rfl,h1,hx,_,rfl,?_⟩;by_cases z1:x1=x
 ·refine CH z1 ?_;exact fin (by rw[decide_eq_true z1]; rfl)
 refine CG z1 ?_;refine⟨_,rfl,p,_,_,_,rfl,rfl,AK.of hp,DN,_,rfl,c3,a,x3,x,rfl,rfl,h3,hx,_,rfl,?_⟩;by_cases z3:x3=x
 ·refine CH z3 ?_;exact fin (by rw[decide_eq_true z3,Bool.or_true])
 refine CG z3 ?_;rw[decide_eq_false z1,decide_eq_false z3,Bool.or_false,Bool.false_and] at q;exact q
def JP(r s:List Rat):Option Rat:=if r.getD 1 0=s.getD 3 0 then some (r.getD 1 0) else if s.getD 1 0=r.getD 3 0 then some (s.getD 1 0) else none
def Dh(rows:List (List Rat))(j k:Nat)(x l rr:Rat)(n:Nat):Bool:=decide (n=j) || (decide (n=k) || !IB (rows.getD n []) x l rr)
def Bz(rows:List (List Rat))(j k:Nat):Bool:=match JP (rows.getD j []) (rows.getD k []) with
 | none=>false
 | some x=>(decide ((rows.getD j []).getD 0 0=(rows.getD k []).getD 0 0) && decide ((rows.getD j []).getD 2 0=(rows.getD k []).getD 2 0)) && (List.range rows.length).all (Dh rows j k x ((rows.getD j []).getD 0 0) ((rows.getD j []).getD 2 0))
def BJ(rows:List (List Rat))(j k:Nat):Bool:=(decide ((rows.getD j []).getD 1 0=(rows.getD k []).getD 1 0) && decide ((rows.getD j []).getD 3 0=(rows.getD k []).getD 3 0)) && (decide ((rows.getD j []).getD 2 0=(rows.getD k []).getD 0 0) || decide ((rows.getD k []).getD 2 0=(rows.getD j []).getD 0 0))
structure DU(rows:List (List Rat)):Prop where
 n:rows.length<=30
 four:∀r∈rows,r.length=4
 sf:∀r∈rows,∀y∈r,Sf y
theorem Bv{rows:List (List Rat)}{j:Nat}(h:j<rows.length):rows[j]?=some (rows.getD j []):=by
 rw[List.getElem?_eq_getElem h]; simp[h]
inductive RR(vs:List V)(H:Hp)(Q:VK):Prop
 | mk (p q:Addr) (r s:List Rat) (h_0:vs=[.ref p,.ref q]) (h_1:A5 Aa H p r) (h_2:A5 Aa H q s) (h_3:r.length=4) (h_4:s.length=4) (h_5:(∀a x,JP r s=some x->Aa H a x->(x∈r\/x∈s)->Q (.ref a) H)) (h_6:(JP r s=none->Q .An H)):RR vs H Q
def M8:Sp:=λvs H Q _=>RR vs H Q
theorem Z2:Ar ["one","other"] ["one","other"] (Aj s_common_level):=Aw
theorem VQ(F:Ag K "common_level" "common_level" s_common_level f fd):AH P w K mg base AM 1 f fd ["one","other"] M8:=by
 refine F.ok Z2 (λvs H Q E h=>?_) (λcdv A outer s H vs Q E hr h=>?_)
 ·obtain⟨p,q,r,s,rfl,_⟩:=h;rfl
 obtain⟨p,q,r,s,rfl,hp,hq,n4,m4,qy,qn⟩:=h;obtain⟨c0,c1,c2,c3,x0,x1,x2,x3,rfl,hp,h0,h1,h2,h3⟩:=Ej hp n4;obtain⟨e0,e1,e2,e3,y0,y1,y2,y3,rfl,hq,g0,g1,g2,g3⟩:=Ej hq m4;refine⟨_,AS (A0 (Aq (Hm hr.units) (pT K (pv 0) AF) (pT K (pv 1) AF) (Ac _)) (AU (Ab (pT K (pv 0) AF))) A2)
  (AS (A0 (Aq (Hm hr.units) (pT K (pv 1) AF) (pT K (pv 0) AF) (Ac _)) (AU (Ab (pT K (pv 1) AF))) A2)
  (AU (Ab Ka))),?_⟩
 have e:JP [x0,x1,x2,x3] [y0,y1,y2,y3]=if x1=y3 then some x1 else if y1=x3 then some y1 else none:=rfl
 rw[e] at qy qn;refine⟨_,rfl,p,_,_,_,rfl,rfl,AK.of hp,Cm,_,rfl,q,_,_,_,rfl,rfl,AK.of hq,DN,c1,e3,x1,y3,rfl,rfl,h1,g3,_,rfl,?_⟩;by_cases z1:x1=y3
 ·refine A8 z1 ?_;rw[if_pos z1] at qy;exact⟨_,rfl,p,_,_,_,rfl,rfl,AK.of hp,Cm,qy c1 x1 rfl h1 (.inl (by simp))⟩
 refine Am z1 ?_;rw[if_neg z1] at qy qn;refine⟨_,rfl,q,_,_,_,rfl,rfl,AK.of hq,Cm,_,rfl,p,_,_,_,rfl,rfl,AK.of hp,DN,e1,c3,y1,x3,rfl,rfl,g1,h3,_,rfl,?_⟩;by_cases z2:y1=x3
 ·refine A8 z2 ?_;rw[if_pos z2] at qy;exact⟨_,rfl,q,_,_,_,rfl,rfl,AK.of hq,Cm,qy e1 y1 rfl g1 (.inr (by simp))⟩
 refine Am z2 ?_;rw[if_neg z2] at qn;exact qn rfl
inductive Pe(t:List (List Rat)->Nat->Nat->Bool)(vs:List V)(H:Hp)(Q:VK):Prop
 | mk (p:Addr) (rows:List (List Rat)) (j k:Nat) (h_0:vs=[.ref p,.int (j:Int),.int (k:Int)]) (h_1:A5 (A5 Aa) H p rows) (h_2:DU rows) (h_3:j<rows.length) (h_4:k<rows.length) (h_5:∀H',AQ H H'->Q (.bl (t rows j k)) H'):Pe t vs H Q
def Hs(t:List (List Rat)->Nat->Nat->Bool):Sp:=λvs H Q _=>Pe t vs H Q
theorem IH:Ar ["rectangles","j","k","one","other"] ["rectangles","j","k"] (Aj s_is_beside):=Aw
theorem UW(F:Ag K "is_beside" "is_beside" s_is_beside f fd):AH P w K mg base AM 1 f fd ["rectangles","j","k"] (Hs BJ):=by
 refine F.ok IH (λvs H Q E h=>?_) (λcdv A outer s H vs Q E hr h=>?_)
 ·obtain⟨p,rows,j,k,rfl,_⟩:=h;rfl
 obtain⟨p,rows,j,k,rfl,⟨cs,hp,hC⟩,rk,hj,hk,q⟩:=h;have q:=q H (AQ.refl _);obtain⟨a,ea,ha⟩:=hC.get (Bv hj);obtain⟨b,eb,hb⟩:=hC.get (Bv hk);have n4:=rk.four _ (List.mem_of_getElem? (Bv hj));have m4:=rk.four _ (List.mem_of_getElem? (Bv hk));unfold BJ at q;generalize rows.getD j []=r at ha n4 q;generalize rows.getD k []=t at hb m4 q;obtain⟨c0,c1,c2,c3,x0,x1,x2,x3,rfl,ha,h0,h1,h2,h3⟩:=Ej ha n4;obtain⟨e0,e1,e2,e3,y0,y1,y2,y3,rfl,hb,g0,g1,g2,g3⟩:=Ej hb m4;refine⟨_,AS (Ad (i:=3) IH.nd rfl (Or.inl rfl) (pT K (pv 0) (pv 1)))
  (AS (Ad (i:=4) IH.nd rfl (Or.inl rfl) (pT K (pv 0) (pv 2)))
  (AS (A0 (PW.pt (D8 (Aq (GU hr.units) (pT K (pv 3) AF) (pT K (pv 4) AF) (Ac _)) (GW (Aq (GU hr.units) (pT K (pv 3) AF) (pT K (pv 4) AF) (Ac _))))) (AU (Ab CI)) A2)
  (AU (Ab (GY (Bm (Hm hr.units) (pT K (pv 3) AF) (pT K (pv 4) AF) (Ac _)) (Dg (Bm (Hm hr.units) (pT K (pv 4) AF) (pT K (pv 3) AF) (Ac _)))))))),?_⟩
 refine⟨_,rfl,_,rfl,p,_,_,_,rfl,rfl,AK.of hp,Ap (BF ea),?_⟩;refine⟨_,rfl,_,rfl,p,_,_,_,rfl,rfl,AK.of hp,Ap (BF eb),?_⟩;refine⟨_,rfl,a,_,_,_,rfl,rfl,AK.of ha,Cm,_,rfl,b,_,_,_,rfl,rfl,AK.of hb,Cm,c1,e1,x1,y1,rfl,rfl,h1,g1,_,rfl,?_⟩;have q':Q (.bl ((decide (x1=y1) && decide (x3=y3)) && (decide (x2=y0) || decide (y2=x0)))) H:=q;by_cases z1:x1=y1
 case neg =>
  refine CG z1 ?_;rw[decide_eq_false z1,Bool.false_and,Bool.false_and] at q';exact q'
 refine CH z1 ?_;refine⟨_,rfl,a,_,_,_,rfl,rfl,AK.of ha,DN,_,rfl,b,_,_,_,rfl,rfl,AK.of hb,DN,c3,e3,x3,y3,rfl,rfl,h3,g3,_,rfl,?_⟩;by_cases z3:x3=y3
 case neg =>
  refine CG z3 ?_;rw[decide_eq_false z3,Bool.and_false,Bool.false_and] at q';exact q'
 refine CH z3 ?_;rw[decide_eq_true z1,decide_eq_true z3,Bool.true_and,Bool.true_and] at q';refine⟨_,rfl,a,_,_,_,rfl,rfl,AK.of ha,DJ,_,rfl,b,_,_,_,rfl,rfl,AK.of hb,DO,c2,e0,x2,y0,rfl,rfl,h2,g0,_,rfl,?_⟩;by_cases z2:x2=y0
 ·refine A8 z2 ?_;rw[decide_eq_true z2,Bool.true_or] at q';exact q'
 refine Am z2 ?_;rw[decide_eq_false z2,Bool.false_or] at q';exact⟨_,rfl,b,_,_,_,rfl,rfl,AK.of hb,DJ,_,rfl,a,_,_,_,rfl,rfl,AK.of ha,DO,e2,c0,y2,x0,rfl,rfl,g2,h0,q'⟩
theorem IA:Ar ["rectangles","j","k","left","right","level","number","third"] ["rectangles","j","k"] (Aj s_is_above):=Aw
theorem Vj (F:Ag K "is_above" "is_above" s_is_above f fd) (G1:AH P w K mg base AM 1 f1 d1 ["one","other"] M8) (b1:AW K d1 ["one","other"] []) (k1:KP K f1) (m1:mg "common_level" = some (.ref f1))
  (G2:AH P w K mg base AM 2 f2 d2 ["rectangle","level","left","right"] MY) (b2:AW K d2 ["rectangle","level","left","right"] []) (k2:KP K f2) (m2:mg "touches" = some (.ref f2)) (me:mg "enumerate" = none) :
  AH P w K mg base AM 3 f fd ["rectangles","j","k"] (Hs Bz):=by
 refine F.ok IA (λvs H Q E h=>?_) (λcdv A outer s H vs Q E hr h=>?_)
 ·obtain⟨p,rows,j,k,rfl,_⟩:=h;rfl
 obtain⟨p,rows,j,k,rfl,⟨cs,hp,hC⟩,rk,hj,hk,q⟩:=h;have hr1:=hr.mono (show 1<=2 by decide);have lc:cs.length=rows.length:=hC.1;obtain⟨a,ea,ha0⟩:=hC.get (Bv hj);obtain⟨b,eb,hb0⟩:=hC.get (Bv hk);have n4:=rk.four _ (List.mem_of_getElem? (Bv hj));have m4:=rk.four _ (List.mem_of_getElem? (Bv hk));have sfj:=rk.sf _ (List.mem_of_getElem? (Bv hj));unfold Bz at q;generalize rows.getD j []=r at ha0 n4 q sfj;generalize rows.getD k []=t at hb0 m4 q;obtain⟨c0,c1,c2,c3,x0,x1,x2,x3,rfl,ha,h0,h1,h2,h3⟩:=Ej ha0 n4;obtain⟨e0,e1,e2,e3,y0,y1,y2,y3,rfl,hb,g0,g1,g2,g3⟩:=Ej hb0 m4;refine⟨_,AS (Ad (i:=3) IA.nd rfl (Or.inl rfl) (pT K (pT K (pv 0) (pv 1)) AF))
  (AS (Ad (i:=4) IA.nd rfl (Or.inl rfl) (pT K (pT K (pv 0) (pv 1)) AF))
  (AS (Ad (i:=5) IA.nd rfl (Or.inl rfl) (Ah G1 hr1 (by rfl) m1 k1 b1 .nil Ae (AA (pT K (pv 0) (pv 1)) (AA (pT K (pv 0) (pv 2)) AI))))
  (AS (A0 (PW.pt (D8 (Ht (MI (pv 5))) (D8 (Aq (GU hr.units) (pv 3) (pT K (pT K (pv 0) (pv 2)) AF) (Ac _)) (GW (Aq (GU hr.units) (pv 4) (pT K (pT K (pv 0) (pv 2)) AF) (Ac _)))))) (AU (Ab CI)) A2)
  (AS (Ce PassesOwn.never rfl (XF (by rfl) me (AA (pv 0) AI)) (D7 (n:=2) (K:=K) rfl (BQ (Az (i:=6) IA.nd rfl (Or.inl rfl)) (BQ (Az (i:=7) IA.nd rfl (Or.inl rfl)) D0)))
   (AU (A0 (PW.pt (DE (Aq CQ (pv 6) (pv 1) (Ac _)) (DE (Aq CQ (pv 6) (pv 2) (Ac _)) (EK (D4 (Ah G2 hr (by rfl) m2 k2 b2 .nil Ae (AA (pv 7) (AA (pv 5) (AA (pv 3) (AA (pv 4) AI)))))))))) (AU (Ab CI)) A2)))
  (AU (Ab CI)))))),?_⟩
 refine⟨_,rfl,_,rfl,p,_,_,_,rfl,rfl,AK.of hp,Ap (BF ea),a,_,_,_,rfl,rfl,AK.of ha,DO,?_⟩;refine⟨_,rfl,_,rfl,p,_,_,_,rfl,rfl,AK.of hp,Ap (BF ea),a,_,_,_,rfl,rfl,AK.of ha,DJ,?_⟩;refine⟨_,rfl,_,rfl,p,_,_,_,rfl,rfl,AK.of hp,Ap (BF ea),_,rfl,_,rfl,p,_,_,_,rfl,rfl,AK.of hp,Ap (BF eb),a,b,_,_,rfl,ha0,hb0,rfl,rfl,λlv x hx hlv hm=>?_,λhx=>?_⟩;rotate_left
 ·rw[hx] at q;refine⟨_,rfl,_,rfl,A8 rfl ?_⟩;exact q H (AQ.refl _)
 rw[hx] at q;refine⟨_,rfl,_,rfl,Am (by intro z; cases z) ?_⟩;have q':∀H',AQ H H'->Q (.bl ((decide (x0=y0) && decide (x2=y2)) && (List.range rows.length).all (Dh rows j k x x0 x2))) H':=q;refine⟨_,rfl,_,rfl,_,rfl,p,_,_,_,rfl,rfl,AK.of hp,Ap (BF eb),b,_,_,_,rfl,rfl,AK.of hb,DO,c0,e0,x0,y0,rfl,rfl,h0,g0,_,rfl,?_⟩;by_cases z0:x0=y0
 case neg =>
  refine CG z0 ?_;have q2:=q' H (AQ.refl _);rw[decide_eq_false z0,Bool.false_and,Bool.false_and] at q2;exact q2
 refine CH z0 ?_;refine⟨_,rfl,_,rfl,_,rfl,p,_,_,_,rfl,rfl,AK.of hp,Ap (BF eb),b,_,_,_,rfl,rfl,AK.of hb,DJ,c2,e2,x2,y2,rfl,rfl,h2,g2,_,rfl,?_⟩;by_cases z2:x2=y2
 case neg =>
  refine CG z2 ?_;have q2:=q' H (AQ.refl _);rw[decide_eq_false z2,Bool.and_false,Bool.false_and] at q2;exact q2
 refine CH z2 ?_;have q3:∀H',AQ H H'->Q (.bl ((List.range rows.length).all (Dh rows j k x x0 x2))) H':=λH' s=>by
  have q2:=q' H' s;rw[decide_eq_true z0,decide_eq_true z2,Bool.true_and,Bool.true_and] at q2;exact q2
 have lm:(cs.map V.ref).length=rows.length:=by rw[List.length_map,lc]
 refine⟨_,rfl,p,_,rfl,hp,?_⟩;refine Vh (λi σ H2=>AQ H H2/\(List.range i).all (Dh rows j k x x0 x2)=true/\∃u6 u7,σ=[some (.ref p),some (.int (j:Int)),some (.int (k:Int)),some (.ref c0),some (.ref c2),some (.ref lv),u6,u7]) ⟨AQ.refl _,rfl,none,none,rfl⟩ (λi σ H2 _ z=>z.1 _ _ hp) ?_ ?_
 ·rintro i v σ H2 pe hi ⟨s2,al,u6,u7,rfl⟩ hpe;have s3:=AY hpe (.AG [.int (i:Int),v]);have gpe:AJ H2 pe (.AG [.int (i:Int),v]) pe=some (.AG [.int (i:Int),v]):=AV;generalize AJ H2 pe (.AG [.int (i:Int),v])=H3 at s3 gpe;have s03:=s2.trans s3;obtain⟨c,rw',rfl,hc,hrow,hR⟩:=hC.ref hi;have il:i<rows.length:=(List.getElem?_eq_some_iff.mp hrow).1;obtain rfl:rw'=rows.getD i []:=by
   have:=Bv il
   rw[hrow] at this;exact Option.some.inj this
  refine⟨pe,_,rfl,AK.of gpe,rfl,_,_,rfl,_,_,rfl,rfl,?_⟩;have nxt:Dh rows j k x x0 x2 i=true->(List.range (i+1)).all (Dh rows j k x x0 x2)=true:=λz=>by
   rw[List.range_succ,List.all_append,al,Bool.true_and,List.all_cons,z]; rfl
  refine⟨_,rfl,_,rfl,rfl,_,rfl,?_⟩;by_cases zj:i=j
  ·refine CH (by rw[zj]) ?_;exact⟨s03,nxt (by unfold Dh; rw[decide_eq_true zj]; rfl),_,_,rfl⟩
  refine CG (λz=>zj (by have:=V.int.inj z; omega)) ?_;refine⟨_,rfl,_,rfl,rfl,_,rfl,?_⟩;by_cases zk:i=k
  ·refine CH (by rw[zk]) ?_;exact⟨s03,nxt (by unfold Dh; rw[decide_eq_true zk,Bool.true_or,Bool.or_true]),_,_,rfl⟩
  refine CG (λz=>zk (by have:=V.int.inj z; omega)) ?_;have et:Dh rows j k x x0 x2 i=!IB (rows.getD i []) x x0 x2:=by
   unfold Dh; rw[decide_eq_false zj,decide_eq_false zk,Bool.false_or,Bool.false_or]
  refine⟨_,rfl,_,rfl,_,rfl,_,rfl,c,lv,c0,c2,_,x,x0,x2,rfl,BO s03 hR,rk.four _ (List.mem_of_getElem? hrow),rk.sf _ (List.mem_of_getElem? hrow),s03 _ _ hlv,s03 _ _ h0,s03 _ _ h2,sfj _ (by simp),sfj _ (by simp),_,rfl,?_⟩;cases y:IB (rows.getD i []) x x0 x2 with
  | false =>
   refine BX ?_;exact⟨s03,nxt (by rw[et,y]; rfl),_,_,rfl⟩
  | true =>
   refine Bk ?_;have q4:=q3 H3 s03;have fl:(List.range rows.length).all (Dh rows j k x x0 x2)=false:=by
    rw[Bool.eq_false_iff];intro z
    have:=List.all_eq_true.mp z i (List.mem_range.mpr il)
    rw[et,y] at this;cases this
   rw[fl] at q4;exact q4
 ·rintro σ H2 ⟨s2,al,u6,u7,rfl⟩;rw[lm] at al;have q4:=q3 H2 s2;rw[al] at q4;exact q4
theorem Zd:¬(("one":Str)="other"):=by decide +kernel
def Cg(j k:Int):List (Str×V):=CT "other" (.int k) (CT "one" (.int j) [])
theorem Fd(j k:Int):(Cg j k).lookup ("one":Str)=some (.int j):=by
 unfold Cg;rw[EG,if_neg Zd,EG,if_pos rfl]
theorem FZ(j k:Int):(Cg j k).lookup ("other":Str)=some (.int k):=by
 unfold Cg;rw[EG,if_pos rfl]
theorem Pa(j k:Int){m:Str}(h1:¬m="other")(h2:¬m="one"):(Cg j k).lookup m=none:=by
 unfold Cg;rw[EG,if_neg h1,EG,if_neg h2]
 all_goals rfl
theorem EV{j k:Int}{m:Str}(h1:¬m="other":=by decide +kernel)(h2:¬m="one":=by decide +kernel):(Cg j k).lookup m=none:=Pa _ _ h1 h2
structure StC(K:PySem.W.Frag)(C:Addr):Prop where
 cl:CO K C
 n1:E4 K C "one"
 n2:E4 K C "other"
variable {C:Addr}
inductive P8(K:PySem.W.Frag)(vs:List V)(H:Hp)(Q:VK):Prop
 | mk (p C dx:Addr) (j k:Int) (h_0:vs=[.ref p,.int j,.int k]) (h_1:StC K C) (h_2:H p=some (.A6 C dx [])) (h_3:∀H',H' p=some (.A6 C dx (Cg j k))->Ba p H H'->Q .An H'):P8 K vs H Q
def Ir(K:PySem.W.Frag):Sp:=λvs H Q _=>P8 K vs H Q
theorem Zx:Ar ["self","one","other"] ["self","one","other"] (Aj sInit):=Aw
theorem Wf(F:Ag K "__init__" "Step.__init__" sInit f fd):AH P w K mg base AM 1 f fd ["self","one","other"] (Ir K):=by
 refine F.ok Zx (λvs H Q E h=>?_) (λcdv A outer s H vs Q E hr h=>?_)
 ·obtain⟨p,C,dx,j,k,rfl,_⟩:=h;rfl
 obtain⟨p,C,dx,j,k,rfl,T,hp,q⟩:=h;refine⟨_,AS (Kk (pv 0) (pv 1) rfl) (AU (Kk (pv 0) (pv 2) rfl)),?_⟩;refine⟨_,rfl,_,rfl,p,C,dx,[],rfl,hp,T.cl,T.n1,(by show 0<1000; decide),?_⟩;refine⟨_,rfl,_,rfl,p,C,dx,_,rfl,AV,T.cl,T.n2,(by show 1<1000; decide),?_⟩;exact q _ AV ((Ba.refl p H).put _ |>.put _)
theorem Ra:Ar ["self","floor","rectangles"] ["self","floor"] (Aj sFitsA):=Aw
theorem R1:Ar ["self","floor","rectangles"] ["self","floor"] (Aj sFitsB):=Aw
def Dr(x y:Rat):Rat:=if y<x then y else x
def Dt(x y:Rat):Rat:=if y<x then x else y
def Fy(r s:List Rat):List Rat:=[Dr (r.getD 0 0) (s.getD 0 0),Dr (r.getD 1 0) (s.getD 1 0),Dt (r.getD 2 0) (s.getD 2 0),Dt (r.getD 3 0) (s.getD 3 0)]
abbrev FW(rows:List (List Rat))(j k:Nat):List (List Rat):=FO Fy [] rows j k
variable {f4 f5 C1 C2:Addr} {d4 d5:FuncData}
def Mq:Sp:=λvs H Q _=>∃(p q:Addr) (x y:Rat),vs=[.ref p,.ref q]/\Aa H p x/\Aa H q y/\Sf x/\Sf y/\∀t a b,H t=none->Aa H a (Dr x y)->Aa H b (Dt x y)->Q (.ref t) (AJ H t (.AG [.ref a,.ref b]))
theorem ZY:Ar ["one","other"] ["one","other"] (Aj s_rising):=Aw
theorem Ug(F:Ag K "rising" "rising" s_rising f fd)(G:AH P w K mg base AM 1 g gd ["one","other"] Hr)(bG:AW K gd ["one","other"] [])(kG:KP K g)(mG:mg "less" = some (.ref g)):AH P w K mg base AM 2 f fd ["one","other"] Mq:=by
 refine F.ok ZY (λvs H Q E h=>?_) (λcdv A outer s H vs Q E hr h=>?_)
 ·obtain⟨p,q,x,y,rfl,_⟩:=h;rfl
 obtain⟨p,q,x,y,rfl,hp,hq,sx,sy,k⟩:=h;refine⟨_,AU (Ab (Vd (D4 (Ah G hr (by rfl) mG kG bG .nil Ae (AA (pv 1) (AA (pv 0) AI)))) (Ax (AA (pv 1) (AA (pv 0) AI))) (Ax (AA (pv 0) (AA (pv 1) AI))))),?_⟩;refine⟨_,rfl,_,rfl,q,p,y,x,rfl,hq,hp,sy,sx,_,rfl,?_⟩;unfold Dr Dt at k;by_cases z:y<x
 ·rw[if_pos z,if_pos z] at k;exact A8 z ⟨_,rfl,_,rfl,by exact sz2,λt ht=>k t q p ht hq hp⟩
 ·rw[if_neg z,if_neg z] at k;exact Am z ⟨_,rfl,_,rfl,by exact sz2,λt ht=>k t p q ht hp hq⟩
def Mm:Sp:=λvs H Q _=>∃(p q:Addr) (r s:List Rat),vs=[.ref p,.ref q]/\A5 Aa H p r/\A5 Aa H q s/\r.length=4/\s.length=4/\(∀y∈r,Sf y)/\(∀y∈s,Sf y)/\∀t H',AQ H H'->A5 Aa H' t (Fy r s)->Q (.ref t) H'
theorem JK:Ar ["one","other","left","low","right","high"] ["one","other"] (Aj s_together):=Aw
theorem CP{H:Hp}{p:Addr}(hp:H p=none)(vs:List V):∃H',AJ H p (.AG vs)=H'/\AQ H H'/\H' p=some (.AG vs):=⟨_,rfl,AY hp _,AV⟩
theorem GD{H:Hp}{p:Addr}(hp:H p=none)(vs:List V):∃H',AJ H p (.AN vs)=H'/\AQ H H'/\H' p=some (.AN vs):=⟨_,rfl,AY hp _,AV⟩
theorem YO(F:Ag K "together" "together" s_together f fd)(G:AH P w K mg base AM 2 g gd ["one","other"] Mq)(bG:AW K gd ["one","other"] [])(kG:KP K g)(mG:mg "rising" = some (.ref g)):AH P w K mg base AM 3 f fd ["one","other"] Mm:=by
 refine F.ok JK (λvs H Q E h=>?_) (λcdv A outer s H vs Q E hr h=>?_)
 ·obtain⟨p,q,r,s,rfl,_⟩:=h;rfl
 obtain⟨p,q,r,s,rfl,hp,hq,n4,m4,sr,ss,k⟩:=h;obtain⟨c0,c1,c2,c3,x0,x1,x2,x3,rfl,hp,h0,h1,h2,h3⟩:=Ej hp n4;obtain⟨e0,e1,e2,e3,y0,y1,y2,y3,rfl,hq,g0,g1,g2,g3⟩:=Ej hq m4;refine⟨_,AS (Ad (i:=2) JK.nd rfl (Or.inl rfl) (pT K (Ah G hr (by rfl) mG kG bG .nil Ae (AA (pT K (pv 0) AF) (AA (pT K (pv 1) AF) AI))) AF))
  (AS (Ad (i:=3) JK.nd rfl (Or.inl rfl) (pT K (Ah G hr (by rfl) mG kG bG .nil Ae (AA (pT K (pv 0) AF) (AA (pT K (pv 1) AF) AI))) AF))
  (AS (Ad (i:=4) JK.nd rfl (Or.inl rfl) (pT K (Ah G hr (by rfl) mG kG bG .nil Ae (AA (pT K (pv 0) AF) (AA (pT K (pv 1) AF) AI))) AF))
  (AS (Ad (i:=5) JK.nd rfl (Or.inl rfl) (pT K (Ah G hr (by rfl) mG kG bG .nil Ae (AA (pT K (pv 0) AF) (AA (pT K (pv 1) AF) AI))) AF))
  (AU (Ab (Ax (AA (pv 2) (AA (pv 3) (AA (pv 4) (AA (pv 5) AI))))))))))  ,?_⟩
 refine⟨_,rfl,p,_,_,_,rfl,rfl,AK.of hp,DO,_,rfl,q,_,_,_,rfl,rfl,AK.of hq,DO,c0,e0,x0,y0,rfl,h0,g0,sr _ (by simp),ss _ (by simp),λt1 a1 b1 ht1 ha1 _=>?_⟩;obtain⟨H1,z1,s1,k1⟩:=CP ht1 [.ref a1,.ref b1];rw[z1];refine⟨t1,_,_,_,rfl,rfl,AK.of k1,C8,?_⟩;refine⟨_,rfl,p,_,_,_,rfl,rfl,AK.of (s1 _ _ hp),Cm,_,rfl,q,_,_,_,rfl,rfl,AK.of (s1 _ _ hq),Cm,c1,e1,x1,y1,rfl,s1 _ _ h1,s1 _ _ g1,sr _ (by simp),ss _ (by simp),λt2 a2 b2 ht2 ha2 _=>?_⟩;obtain⟨H2,z2,s2,k2⟩:=CP ht2 [.ref a2,.ref b2];rw[z2];have s12:=s1.trans s2;refine⟨t2,_,_,_,rfl,rfl,AK.of k2,C8,?_⟩;refine⟨_,rfl,p,_,_,_,rfl,rfl,AK.of (s12 _ _ hp),DJ,_,rfl,q,_,_,_,rfl,rfl,AK.of (s12 _ _ hq),DJ,c2,e2,x2,y2,rfl,s12 _ _ h2,s12 _ _ g2,sr _ (by simp),ss _ (by simp),λt3 a3 b3 ht3 _ hb3=>?_⟩;obtain⟨H3,z3,s3,k3⟩:=CP ht3 [.ref a3,.ref b3];rw[z3];have s13:=s12.trans s3;refine⟨t3,_,_,_,rfl,rfl,AK.of k3,Cb,?_⟩;refine⟨_,rfl,p,_,_,_,rfl,rfl,AK.of (s13 _ _ hp),DN,_,rfl,q,_,_,_,rfl,rfl,AK.of (s13 _ _ hq),DN,c3,e3,x3,y3,rfl,s13 _ _ h3,s13 _ _ g3,sr _ (by simp),ss _ (by simp),λt4 a4 b4 ht4 _ hb4=>?_⟩;obtain⟨H4,z4,s4,k4⟩:=CP ht4 [.ref a4,.ref b4];rw[z4];have s14:=s13.trans s4;refine⟨t4,_,_,_,rfl,rfl,AK.of k4,Cb,?_⟩;refine⟨_,rfl,_,rfl,_,rfl,_,rfl,by exact CL,λt ht=>?_⟩;have s5:=AY ht (.AG [.ref a1,.ref a2,.ref b3,.ref b4]);refine k t _ (s14.trans s5) ⟨[a1,a2,b3,b4],AV,?_⟩;exact(((At.nil.snoc (R:=Aa) (b:=a1) (x:=Dr x0 y0) ((s12.trans (s3.trans (s4.trans s5))) _ _ ha1 |> λz=>z)).snoc (b:=a2) (x:=Dr x1 y1) ((s2.trans (s3.trans (s4.trans s5))) _ _ ha2)).snoc (b:=b3) (x:=Dt x2 y2) ((s3.trans (s4.trans s5)) _ _ hb3)).snoc (b:=b4) (x:=Dt x3 y3) ((s4.trans s5) _ _ hb4)
open PySem.Spec PyProof.Rows
def Bu(n j k:Int):Bool:=decide (0<=j) && (decide (j<k) && decide (k<n))
theorem Cd{n j k:Int}:Bu n j k=true↔0<=j/\j<k/\k<n:=by
 unfold Bu;simp only[Bool.and_eq_true,decide_eq_true_eq]
def Cn(t:List (List Rat)->Nat->Nat->Bool)(rows:List (List Rat))(j k:Int):Bool:=Bu (rows.length:Int) j k && t rows j.toNat k.toNat
def Ci(j k:Int)(p q:Addr):List (Str×V):=CT "second" (.ref q) (CT "first" (.ref p) (Cg j k))
theorem ZZ:¬(("first":Str)="second"):=by decide +kernel
theorem N3(j k:Int)(p q:Addr):(Ci j k p q).lookup ("first":Str)=some (.ref p):=by
 unfold Ci;rw[EG,if_neg ZZ,EG,if_pos rfl]
theorem Np(j k:Int)(p q:Addr):(Ci j k p q).lookup ("second":Str)=some (.ref q):=by
 unfold Ci;rw[EG,if_pos rfl]
theorem Lq(j k:Int)(p q:Addr){m:Str}(h1:¬m="second")(h2:¬m="first"):(Ci j k p q).lookup m=(Cg j k).lookup m:=by
 unfold Ci;rw[EG,if_neg h1,EG,if_neg h2]
theorem Jt(j k:Int)(p q:Addr):(Ci j k p q).lookup ("one":Str)=some (.int j):=by rw[Lq _ _ _ _ (by decide +kernel) (by decide +kernel),Fd]
theorem Jg(j k:Int)(p q:Addr):(Ci j k p q).lookup ("other":Str)=some (.int k):=by rw[Lq _ _ _ _ (by decide +kernel) (by decide +kernel),FZ]
theorem WO(j k:Int)(p q:Addr){m:Str}(h1:¬m="second")(h2:¬m="first")(h3:¬m="other")(h4:¬m="one"):(Ci j k p q).lookup m=none:=by rw[Lq _ _ _ _ h1 h2,Pa _ _ h3 h4]
theorem GI{j k:Int}{p q:Addr}{m:Str}(h1:¬m="second":=by decide +kernel)(h2:¬m="first":=by decide +kernel)(h3:¬m="other":=by decide +kernel)(h4:¬m="one":=by decide +kernel):(Ci j k p q).lookup m=none:=WO _ _ _ _ h1 h2 h3 h4
structure Er(K:PySem.W.Frag)(C:Addr):Prop extends StC K C where
 n3:E4 K C "first"
 n4:E4 K C "second"
variable {C3 CN CS:Addr}
def Ig:Sp:=λvs H Q _=>∃(n j k:Int),vs=[.int n,.int j,.int k]/\Q (.bl (Bu n j k)) H
theorem VE(F:Ag K "is_pair" "is_pair" s_is_pair f fd):AH P w K mg base AM 1 f fd ["count","j","k"] Ig:=by
 refine F.ok Zg (λvs H Q E h=>?_) (λcdv A outer s H vs Q E hr h=>?_)
 ·obtain⟨n,j,k,rfl,_⟩:=h;rfl
 obtain⟨n,j,k,rfl,q⟩:=h;refine⟨_,AU (Ab (E8 (Bm FA AF (pv 1) (Ac _)) (E8 (Bm Cy (pv 1) (pv 2) (Ac _)) (Dg (Bm Cy (pv 2) (pv 0) (Ac _)))))),?_⟩;refine⟨_,rfl,_,_,rfl,rfl,_,rfl,?_⟩;unfold Bu at q;by_cases h1:(0:Int)<=j
 ·rw[decide_eq_true h1,Bool.true_and] at q;refine A8 h1 ⟨_,rfl,_,rfl,_,_,rfl,rfl,_,rfl,?_⟩;by_cases h2:j<k
  ·rw[decide_eq_true h2,Bool.true_and] at q;exact A8 h2 ⟨_,rfl,_,rfl,_,_,rfl,rfl,q⟩
  ·rw[decide_eq_false h2,Bool.false_and] at q;refine Am h2 ?_
   first | exact q | (rw[decide_eq_false h2]; exact q)
 ·rw[decide_eq_false h1,Bool.false_and] at q;refine Am h1 ?_
  first | exact q | (rw[decide_eq_false h1]; exact q)
def Ea(C:Addr)(t:List (List Rat)->Nat->Nat->Bool):Sp:=λvs H Q _=>∃(p a dx:Addr) (j k:Int) (W U:Rat) (rows:List (List Rat)),vs=[.ref p,.ref a]/\H p=some (.A6 C dx (Cg j k))/\Bi H a W U rows/\DU rows/\∀H',AQ H H'->Q (.bl (Cn t rows j k)) H'
theorem Ui (F:Ag K "fits" "Above.fits" sFitsA f fd) (T:StC K C) (G1:AH P w K mg base AM 1 f1 d1 ["count","j","k"] Ig) (b1:AW K d1 ["count","j","k"] []) (k1:KP K f1) (m1:mg "is_pair" = some (.ref f1))
  (G2:AH P w K mg base AM 3 f2 d2 ["rectangles","j","k"] (Hs Bz)) (b2:AW K d2 ["rectangles","j","k"] []) (k2:KP K f2) (m2:mg "is_above" = some (.ref f2)) (ml:mg "len" = none):AH P w K mg base AM 4 f fd ["self","floor"] (Ea C Bz):=by
 refine F.ok Ra (λvs H Q E h=>?_) (λcdv A outer s H vs Q E hr h=>?_)
 ·obtain⟨p,a,dx,j,k,W,U,rows,rfl,_⟩:=h;rfl
 obtain⟨p,a,dx,j,k,W,U,rows,rfl,hp,⟨pw,pu,pr,ha,_,_,hR⟩,rk,q⟩:=h;have hr1:=hr.mono (show 1<=3 by decide);have hr2:=hr.mono (show 3<=3 by decide);obtain⟨cs,hpr,hC⟩:=id hR;have lm:(cs.map V.ref).length=rows.length:=by rw[List.length_map,hC.1]
 refine⟨_,AS (Ad (i:=2) Ra.nd rfl (Or.inl rfl) (pT K (pv 1) AF))
  (AU (Ab (E8 (Ah G1 hr1 (by rfl) m1 k1 b1 .nil Ae (AA (BE (B6 (K:=K)) (by rfl) ml B7 (AA (pv 2) AI)) (AA (Bh (pv 0) rfl) (AA (Bh (pv 0) rfl) AI)))) (Dg (Ah G2 hr2 (by rfl) m2 k2 b2 .nil Ae (AA (pv 2) (AA (Bh (pv 0) rfl) (AA (Bh (pv 0) rfl) AI)))))))),?_⟩
 refine⟨_,rfl,a,_,_,_,rfl,rfl,AK.of ha,EB _ _ _,?_⟩;refine⟨_,rfl,pr,_,rfl,.inr (AK.of hpr),_,rfl,p,C,dx,_,_,rfl,hp,T.cl,T.n1,Fd _ _,_,rfl,p,C,dx,_,_,rfl,hp,T.cl,T.n2,FZ _ _,_,_,_,rfl,?_⟩;rw[lm];refine⟨_,rfl,?_⟩;unfold Cn at q;cases z:Bu (rows.length:Int) j k with
 | false =>
  rw[z,Bool.false_and] at q;exact BX (q H (AQ.refl _))
 | true =>
  rw[z,Bool.true_and] at q;obtain⟨z1,z2,z3⟩:=Cd.mp z;obtain⟨j,rfl⟩:=Int.eq_ofNat_of_zero_le z1;obtain⟨k,rfl⟩:=Int.eq_ofNat_of_zero_le (show 0<=k by omega);refine Bk ?_;exact⟨_,rfl,_,rfl,p,C,dx,_,_,rfl,hp,T.cl,T.n1,Fd _ _,_,rfl,p,C,dx,_,_,rfl,hp,T.cl,T.n2,FZ _ _,pr,rows,j,k,rfl,hR,rk,by omega,by omega,q⟩
theorem Ub (F:Ag K "fits" "Beside.fits" sFitsB f fd) (T:StC K C) (G1:AH P w K mg base AM 1 f1 d1 ["count","j","k"] Ig) (b1:AW K d1 ["count","j","k"] []) (k1:KP K f1) (m1:mg "is_pair" = some (.ref f1))
  (G2:AH P w K mg base AM 1 f2 d2 ["rectangles","j","k"] (Hs BJ)) (b2:AW K d2 ["rectangles","j","k"] []) (k2:KP K f2) (m2:mg "is_beside" = some (.ref f2)) (ml:mg "len" = none):AH P w K mg base AM 4 f fd ["self","floor"] (Ea C BJ):=by
 refine F.ok R1 (λvs H Q E h=>?_) (λcdv A outer s H vs Q E hr h=>?_)
 ·obtain⟨p,a,dx,j,k,W,U,rows,rfl,_⟩:=h;rfl
 obtain⟨p,a,dx,j,k,W,U,rows,rfl,hp,⟨pw,pu,pr,ha,_,_,hR⟩,rk,q⟩:=h;have hr1:=hr.mono (show 1<=3 by decide);have hr2:=hr.mono (show 1<=3 by decide);obtain⟨cs,hpr,hC⟩:=id hR;have lm:(cs.map V.ref).length=rows.length:=by rw[List.length_map,hC.1]
 refine⟨_,AS (Ad (i:=2) R1.nd rfl (Or.inl rfl) (pT K (pv 1) AF))
  (AU (Ab (E8 (Ah G1 hr1 (by rfl) m1 k1 b1 .nil Ae (AA (BE (B6 (K:=K)) (by rfl) ml B7 (AA (pv 2) AI)) (AA (Bh (pv 0) rfl) (AA (Bh (pv 0) rfl) AI)))) (Dg (Ah G2 hr2 (by rfl) m2 k2 b2 .nil Ae (AA (pv 2) (AA (Bh (pv 0) rfl) (AA (Bh (pv 0) rfl) AI)))))))),?_⟩
 refine⟨_,rfl,a,_,_,_,rfl,rfl,AK.of ha,EB _ _ _,?_⟩;refine⟨_,rfl,pr,_,rfl,.inr (AK.of hpr),_,rfl,p,C,dx,_,_,rfl,hp,T.cl,T.n1,Fd _ _,_,rfl,p,C,dx,_,_,rfl,hp,T.cl,T.n2,FZ _ _,_,_,_,rfl,?_⟩;rw[lm];refine⟨_,rfl,?_⟩;unfold Cn at q;cases z:Bu (rows.length:Int) j k with
 | false =>
  rw[z,Bool.false_and] at q;exact BX (q H (AQ.refl _))
 | true =>
  rw[z,Bool.true_and] at q;obtain⟨z1,z2,z3⟩:=Cd.mp z;obtain⟨j,rfl⟩:=Int.eq_ofNat_of_zero_le z1;obtain⟨k,rfl⟩:=Int.eq_ofNat_of_zero_le (show 0<=k by omega);refine Bk ?_;exact⟨_,rfl,_,rfl,p,C,dx,_,_,rfl,hp,T.cl,T.n1,Fd _ _,_,rfl,p,C,dx,_,_,rfl,hp,T.cl,T.n2,FZ _ _,pr,rows,j,k,rfl,hR,rk,by omega,by omega,q⟩
def K1(sp:Sp):Prop:=∀(vs:List V) (H:Hp) (Q Q':VK) (E:XK),(∀v H',Q v H'->Q' v H')->sp vs H Q E->sp vs H Q' E
theorem Nv{t:List (List Rat)->Nat->Nat->Bool}:K1 (Ea C t):=by
 rintro vs H Q Q' E hq ⟨p,a,dx,j,k,W,U,rows,e,hp,hF,rk,q⟩;exact⟨p,a,dx,j,k,W,U,rows,e,hp,hF,rk,λH' s=>hq _ _ (q H' s)⟩
abbrev LJ:List Value:=[.type "ValueError",.type "Exception",.type "BaseException",.type "object"]
def E5(C CN:Addr)(sp:Sp):Sp:=λvs H Q E=>∃(p a dx:Addr) (fs:List (Str×V)),vs=[.ref p,.ref a]/\H p=some (.A6 C dx fs)/\fs.lookup ("fits":Str)=none/\sp [.ref p,.ref a] H (λv H'=>(v=.bl true/\Q .An H')\/(v=.bl false/\E (.ref CN) none H')) E0
theorem RX:Ar ["step","floor"] ["step","floor"] (Aj s_check_fits):=Aw
theorem PV{n:Nat}{sp:Sp}(F:Ag K "check_fits" "check_fits" s_check_fits f fd)(T:CO K C)(mo:K1 sp)(G:AH P w K mg base AM n g gd ["self","floor"] sp)(bG:AW K gd ["self","floor"] [])(eG:BW K C "fits" g)(mC:mg "NoFit" = some (.ref CN))(xC:PySem.W.excIn K CN LJ "ValueError.__new__" = true):AH P w K mg base (Ak P w) (n+1) f fd ["step","floor"] (E5 C CN sp):=by
 refine ED F RX (λvs H Q E h=>?_) (λcdv A outer s H vs Q E hr h=>?_)
 ·obtain⟨p,a,dx,fs,rfl,_⟩:=h;rfl
 obtain⟨p,a,dx,fs,rfl,hp,hf,q⟩:=h;refine⟨_,AU (A0 (GV (D4 (J2 (E:=E0) (pv 0) T eG G hr bG .nil Ae (AA (pv 1) AI)))) (AU (Ln (E:=E) (by rfl) mC xC PySem.F.excBase_ValueError rfl Lf (AA Bo AI))) A2),?_⟩;refine⟨_,rfl,p,dx,fs,rfl,hp,hf,_,rfl,mo _ _ _ _ _ (λv H' z=>?_) q⟩;rcases z with ⟨rfl,z⟩ | ⟨rfl,z⟩
 ·exact⟨_,rfl,BX z⟩
 ·exact⟨_,rfl,Bk ⟨by exact sz1,z⟩⟩
def Cv(C CN:Addr)(t:List (List Rat)->Nat->Nat->Bool):Sp:=λvs H Q E=>∃(p a dx:Addr) (j k:Int) (W U:Rat) (rows:List (List Rat)),vs=[.ref p,.ref a]/\H p=some (.A6 C dx (Cg j k))/\Bi H a W U rows/\DU rows/\(Cn t rows j k=true->∀b H',AQ H H'->Bi H' b W U (FW rows j.toNat k.toNat)->Q (.ref b) H')/\(Cn t rows j k=false->∀H',AQ H H'->E (.ref CN) none H')
theorem R3:Ar ["step","floor","rectangles"] ["step","floor"] (Aj s_joined):=Aw
theorem W0{α:Type}{R:Hp->Addr->α->Prop}{H:Hp}{cs:List Addr}{xs:List α}(h:At R H cs xs)(k:Nat):At R H (cs.eraseIdx k) (xs.eraseIdx k):=by
 rw[List.eraseIdx_eq_take_drop_succ,List.eraseIdx_eq_take_drop_succ];exact(h.take k).FU (h.drop (k+1))
theorem RB{α:Type}{R:Hp->Addr->α->Prop}{H:Hp}{cs:List Addr}{xs:List α}{c:Addr}{x:α}(h:At R H cs xs)(j:Nat)(r:R H c x):At R H (cs.set j c) (xs.set j x):=by
 by_cases hj:j<cs.length
 ·rw[List.set_eq_take_append_cons_drop,List.set_eq_take_append_cons_drop,if_pos hj,if_pos (by rw[<-h.1]; exact hj)]
  have:=((h.take j).snoc r).FU (h.drop (j+1))
  rw[List.append_assoc,List.append_assoc] at this;exact this
 ·rw[List.set_eq_of_length_le (by omega),List.set_eq_of_length_le (by rw[<-h.1]; omega)];exact h
theorem VJ{α β:Type}(g:α->β)(l:List α)(k:Nat):(l.map g).eraseIdx k=(l.eraseIdx k).map g:=by
 rw[List.eraseIdx_eq_take_drop_succ,List.eraseIdx_eq_take_drop_succ,List.map_append,List.map_take,List.map_drop]
theorem ZC{n k:Nat}(h:k<n):seqIndex? (k:Int) n=some k:=by
 unfold seqIndex?;simp only[show ¬((k:Int)<0) by omega,if_false];simp; omega
theorem N4 {t:List (List Rat)->Nat->Nat->Bool} (F:Ag K "joined" "joined" s_joined f fd) (T:StC K C) (G1:AH P w K mg base (Ak P w) 5 f1 d1 ["step","floor"] (E5 C CN (Ea C t))) (b1:AW K d1 ["step","floor"] []) (k1:KP K f1) (m1:mg "check_fits" = some (.ref f1))
  (G2:AH P w K mg base AM 3 f2 d2 ["one","other"] Mm) (b2:AW K d2 ["one","other"] []) (k2:KP K f2) (m2:mg "together" = some (.ref f2)) (ml:mg "list" = none) (mt:mg "tuple" = none):AH P w K mg base (Ak P w) 6 f fd ["step","floor"] (Cv C CN t):=by
 refine ED F R3 (λvs H Q E h=>?_) (λcdv A outer s H vs Q E hr h=>?_)
 ·obtain⟨p,a,dx,j,k,W,U,rows,rfl,_⟩:=h;rfl
 obtain⟨p,a,dx,j,k,W,U,rows,rfl,hp,hF,rk,q,qn⟩:=h;have hr3:=hr.mono (show 3<=5 by decide);refine⟨_,AS (GO (Ah (CX:=Ak P w) (E:=E) G1 hr (by rfl) m1 k1 b1 .nil Dy (AA (pv 0) (AA (pv 1) AI))))
  (AS (Ad (i:=2) R3.nd rfl (Or.inl rfl) (Dx LW (by rfl) ml J7 (AA (pT K (pv 1) AF) AI)))
  (AS (E7 (Ah G2 hr3 (by rfl) m2 k2 b2 .nil Ae (AA (pL K (pv 2) (Bh (pv 0) rfl)) (AA (pL K (pv 2) (Bh (pv 0) rfl)) AI))) (Iy (pv 2) (Bh (pv 0) rfl) IX))
  (AS (GO (HC K PySem.F.plainAttrs_list PySem.F.slot_list_pop PySem.F.type_list_pop Vo (pv 2) (AA (Bh (pv 0) rfl) AI)))
  (AU (Ab (Ax (AA (pT K (pv 1) AF) (AA (pT K (pv 1) AF) (AA (Dx Hc (by rfl) mt Gx (AA (pv 2) AI)) AI))))))))),?_⟩
 refine⟨_,rfl,_,rfl,p,a,dx,_,rfl,hp,EV,p,a,dx,j,k,W,U,rows,rfl,hp,hF,rk,λH1 s1=>?_⟩;cases z:Cn t rows j k with
 | false=>exact .inr ⟨rfl,qn z H1 s1⟩
 | true =>
 refine .inl ⟨rfl,?_⟩;replace q:=q z;unfold Cn at z;rw[Bool.and_eq_true] at z;obtain⟨zz1,zz2,zz3⟩:=Cd.mp z.1;obtain⟨j,rfl⟩:=Int.eq_ofNat_of_zero_le zz1;obtain⟨k,rfl⟩:=Int.eq_ofNat_of_zero_le (show 0<=k by omega);have jk:j<k:=by omega
 have kn:k<rows.length:=by omega
 replace hp:=s1 _ _ hp;obtain⟨pw,pu,pr,ha,hw,hu,cs,hpr,hC⟩:=Bs s1 hF;have lc:cs.length=rows.length:=hC.1;refine⟨_,rfl,a,_,_,_,rfl,rfl,AK.of ha,EB _ _ _,pr,_,rfl,.inr (AK.of hpr),λl hl=>?_⟩;obtain⟨H2,z2,s2,gl⟩:=GD hl (cs.map V.ref);rw[z2];obtain⟨a1,ea,ha1⟩:=hC.get (Bv (show j<rows.length by omega));obtain⟨a2,eb,ha2⟩:=hC.get (Bv kn);have n4:=rk.four _ (List.mem_of_getElem? (Bv (show j<rows.length by omega)));have m4:=rk.four _ (List.mem_of_getElem? (Bv kn));have sfj:=rk.sf _ (List.mem_of_getElem? (Bv (show j<rows.length by omega)));have sfk:=rk.sf _ (List.mem_of_getElem? (Bv kn));have hp2:=s2 _ _ hp;refine⟨_,rfl,_,rfl,p,C,dx,_,_,rfl,hp2,T.cl,T.n1,Fd _ _,l,_,_,_,rfl,rfl,AR.of gl,Ap (BF ea),_,rfl,_,rfl,p,C,dx,_,_,rfl,hp2,T.cl,T.n2,FZ _ _,l,_,_,_,rfl,rfl,AR.of gl,Ap (BF eb),a1,a2,_,_,rfl,BO s2 ha1,BO s2 ha2,n4,m4,sfj,sfk,λt3 H3 s3 h3=>?_⟩;have s23:=s2.trans s3;have hp3:=s23 _ _ hp;have gl3:=s3 _ _ gl;refine⟨_,rfl,_,rfl,p,C,dx,_,_,rfl,hp3,T.cl,T.n1,Fd _ _,l,_,_,j,rfl,rfl,gl3,Ia (by rw[List.length_map]; omega),?_⟩;rw[show(cs.map V.ref).set j (.ref t3)=(cs.set j t3).map V.ref from (List.map_set ..).symm];have sb4:Ba l H3 (AJ H3 l (.AN ((cs.set j t3).map V.ref))):=Ba.one;have gl4:AJ H3 l (.AN ((cs.set j t3).map V.ref)) l=some (.AN ((cs.set j t3).map V.ref)):=AV;generalize AJ H3 l (.AN ((cs.set j t3).map V.ref))=H4 at sb4 gl4;have s14:AQ H1 H4:=sb4.Gq s23 hl;have hp4:=s14 _ _ hp;have ek:(cs.set j t3)[k]?=some a2:=by rw[List.getElem?_set_ne (by omega)]; exact eb
 refine⟨_,rfl,.inl ⟨rfl,_,AR.of gl4⟩,_,rfl,p,C,dx,_,_,rfl,hp4,T.cl,T.n2,FZ _ _,l,_,_,k,_,rfl,rfl,gl4,by omega,by have:=rk.n; omega,ZC (by rw[List.length_map,List.length_set]; omega),BF ek,?_⟩;rw[show(((cs.set j t3).map V.ref).eraseIdx k)=((cs.set j t3).eraseIdx k).map V.ref from VJ ..];have sb5:Ba l H4 (AJ H4 l (.AN (((cs.set j t3).eraseIdx k).map V.ref))):=Ba.one;have gl5:AJ H4 l (.AN (((cs.set j t3).eraseIdx k).map V.ref)) l=some (.AN (((cs.set j t3).eraseIdx k).map V.ref)):=AV;generalize AJ H4 l (.AN (((cs.set j t3).eraseIdx k).map V.ref))=H5 at sb5 gl5;have s15:AQ H1 H5:=sb5.Gq s14 hl;refine⟨_,rfl,a,_,_,_,rfl,rfl,AK.of (s15 _ _ ha),FK _ _ _,_,rfl,a,_,_,_,rfl,rfl,AK.of (s15 _ _ ha),HP _ _ _,_,rfl,l,_,rfl,.inl ⟨AR.of gl5,λt6 ht6=>?_⟩⟩;obtain⟨H6,z6,s6,g6⟩:=CP ht6 (((cs.set j t3).eraseIdx k).map V.ref);rw[z6];refine⟨by exact Dv,λt7 ht7=>?_⟩;have s7:=AY ht7 (.AG [.ref pw,.ref pu,.ref t6]);have s57:=s6.trans s7;refine q t7 _ (s1.trans (s15.trans s57)) ⟨pw,pu,t6,AV,(s15.trans s57) _ _ hw,(s15.trans s57) _ _ hu,_,s7 _ _ g6,?_⟩;have h5:A5 Aa H5 t3 (Fy (rows.getD j []) (rows.getD k [])):=by
  have d3:A5 Aa (del H3 l) t3 (Fy (rows.getD j []) (rows.getD k [])):=Nj h3 gl3;have sd:AQ (del H3 l) H5:=λb o e=>by
   have nb:b≠l:=λz=>by rw[z] at e; simp[del] at e
   have e3:H3 b=some o:=Ff H3 l _ _ e;exact sb5 _ _ nb (sb4 _ _ nb e3)
  exact BO sd d3
 exact(W0 (RB (hC.keep BO s15) j h5) k).keep BO s57
def J9(K:PySem.W.Frag):Sp:=λvs H Q _=>∃(p C dx p1 p2:Addr) (j k:Int),vs=[.ref p,.int j,.int k,.ref p1,.ref p2]/\Er K C/\H p=some (.A6 C dx [])/\∀H',H' p=some (.A6 C dx (Ci j k p1 p2))->Ba p H H'->Q .An H'
theorem ZQ:Ar ["self","one","other","first","second"] ["self","one","other","first","second"] (Aj sInitS):=Aw
theorem V5(F:Ag K "__init__" "Split.__init__" sInitS f fd)(mS:mg "Step" = some (.ref CS))(M:Mi K CS "__init__" f1)(G1:AH P w K mg base AM 1 f1 d1 ["self","one","other"] (Ir K))(b1:AW K d1 ["self","one","other"] []):AH P w K mg base AM 2 f fd ["self","one","other","first","second"] (J9 K):=by
 refine F.ok ZQ (λvs H Q E h=>?_) (λcdv A outer s H vs Q E hr h=>?_)
 ·obtain⟨p,C,dx,p1,p2,j,k,rfl,_⟩:=h;rfl
 obtain⟨p,C,dx,p1,p2,j,k,rfl,T,hp,q⟩:=h;refine⟨_,AS (GO (VC (by rfl) mS M G1 hr b1 Ae (AA (pv 0) (AA (pv 1) (AA (pv 2) AI))))) (AS (Kk (pv 0) (pv 3) rfl) (AU (Kk (pv 0) (pv 4) rfl))),?_⟩;refine⟨_,rfl,_,rfl,_,rfl,p,C,dx,j,k,rfl,T.toStC,hp,λH1 hp1 sb=>?_⟩;refine⟨_,rfl,_,rfl,p,C,dx,_,rfl,hp1,T.cl,T.n3,(by show 2<1000; decide),?_⟩;refine⟨_,rfl,_,rfl,p,C,dx,_,rfl,AV,T.cl,T.n4,(by show 3<1000; decide),?_⟩;exact q _ AV ((sb.put _).put _)
def Eg(C C3 CN:Addr)(t:List (List Rat)->Nat->Nat->Bool):Sp:=λvs H Q E=>∃(p a dx:Addr) (j k:Int) (W U:Rat) (rows:List (List Rat)),vs=[.ref p,.ref a]/\H p=some (.A6 C dx (Cg j k))/\Bi H a W U rows/\DU rows/\(Cn t rows j k=true->∀x dx p1 p2 H',AQ H H'->H' x=some (.A6 C3 dx (Ci j k p1 p2))->A5 Aa H' p1 (rows.getD j.toNat [])->A5 Aa H' p2 (rows.getD k.toNat [])->Q (.ref x) H')/\(Cn t rows j k=false->∀H',AQ H H'->E (.ref CN) none H')
theorem Zj:Ar ["step","floor"] ["step","floor"] (Aj s_parting):=Aw
theorem N2 {t:List (List Rat)->Nat->Nat->Bool} (F:Ag K "parting" "parting" s_parting f fd) (T:StC K C) (T3:Er K C3) (M3:Mk K C3 f2) (mC3:mg "Split" = some (.ref C3)) (G1:AH P w K mg base (Ak P w) 5 f1 d1 ["step","floor"] (E5 C CN (Ea C t))) (b1:AW K d1 ["step","floor"] []) (k1:KP K f1) (m1:mg "check_fits" = some (.ref f1))
  (G2:AH P w K mg base AM 2 f2 d2 ["self","one","other","first","second"] (J9 K)) (b2:AW K d2 ["self","one","other","first","second"] []):AH P w K mg base (Ak P w) 6 f fd ["step","floor"] (Eg C C3 CN t):=by
 refine ED F Zj (λvs H Q E h=>?_) (λcdv A outer s H vs Q E hr h=>?_)
 ·obtain⟨p,a,dx,j,k,W,U,rows,rfl,_⟩:=h;rfl
 obtain⟨p,a,dx,j,k,W,U,rows,rfl,hp,hF,rk,q,qn⟩:=h;have hr3:=hr.mono (show 2+1<=5 by decide);refine⟨_,AS (GO (Ah (CX:=Ak P w) (E:=E) G1 hr (by rfl) m1 k1 b1 .nil Dy (AA (pv 0) (AA (pv 1) AI))))
  (AU (Ab (Hh M3 G2 hr3 rfl mC3 b2 .nil Ae (AA (Bh (pv 0) rfl) (AA (Bh (pv 0) rfl) (AA (pT K (pT K (pv 1) AF) (Bh (pv 0) rfl)) (AA (pT K (pT K (pv 1) AF) (Bh (pv 0) rfl)) AI))))))),?_⟩
 refine⟨_,rfl,_,rfl,p,a,dx,_,rfl,hp,EV,p,a,dx,j,k,W,U,rows,rfl,hp,hF,rk,λH1 s1=>?_⟩;cases z:Cn t rows j k with
 | false=>exact .inr ⟨rfl,qn z H1 s1⟩
 | true =>
 refine .inl ⟨rfl,?_⟩;replace q:=q z;unfold Cn at z;rw[Bool.and_eq_true] at z;obtain⟨zz1,zz2,zz3⟩:=Cd.mp z.1;obtain⟨j,rfl⟩:=Int.eq_ofNat_of_zero_le zz1;obtain⟨k,rfl⟩:=Int.eq_ofNat_of_zero_le (show 0<=k by omega);have jk:j<k:=by omega
 have kn:k<rows.length:=by omega
 replace hp:=s1 _ _ hp;obtain⟨pw,pu,pr,ha,hw,hu,cs,hpr,hC⟩:=Bs s1 hF;obtain⟨a1,ea,ha1⟩:=hC.get (Bv (show j<rows.length by omega));obtain⟨a2,eb,ha2⟩:=hC.get (Bv kn);refine⟨_,rfl,p,C,dx,_,_,rfl,hp,T.cl,T.n1,Fd _ _,_,rfl,p,C,dx,_,_,rfl,hp,T.cl,T.n2,FZ _ _,_,rfl,a,_,_,_,rfl,rfl,AK.of ha,EB _ _ _,_,rfl,p,C,dx,_,_,rfl,hp,T.cl,T.n1,Fd _ _,pr,_,_,_,rfl,rfl,AK.of hpr,Ap (BF ea),_,rfl,a,_,_,_,rfl,rfl,AK.of ha,EB _ _ _,_,rfl,p,C,dx,_,_,rfl,hp,T.cl,T.n2,FZ _ _,pr,_,_,_,rfl,rfl,AK.of hpr,Ap (BF eb),λx dx3 nx ndx nex=>?_⟩;refine⟨x,C3,dx3,a1,a2,_,_,rfl,T3,AV,λH4 hx sb=>⟨rfl,?_⟩⟩;have s4:AQ H1 H4:=λb o e=>sb b o (A7 e nx) (by rw[Ao (A7 e nx),Ao (A7 e ndx)]; exact e)
 exact q x dx3 a1 a2 H4 (s1.trans s4) hx (BO s4 ha1) (BO s4 ha2)
theorem aA:Ar ["self","floor"] ["self","floor"] (Aj sDoneA):=Aw
theorem Z1:Ar ["self","floor"] ["self","floor"] (Aj sBackA):=Aw
theorem T5{t:List (List Rat)->Nat->Nat->Bool}(F:Ag K "done" "Above.done" sDoneA f fd)(G:AH P w K mg base (Ak P w) 6 g gd ["step","floor"] (Cv C CN t))(bG:AW K gd ["step","floor"] [])(kG:KP K g)(mG:mg "joined" = some (.ref g)):AH P w K mg base (Ak P w) 7 f fd ["self","floor"] (Cv C CN t):=by
 refine ED F aA (λvs H Q E h=>?_) (λcdv A outer s H vs Q E hr h=>?_)
 ·obtain⟨p,a,dx,j,k,W,U,rows,rfl,_⟩:=h;rfl
 obtain⟨p,a,dx,j,k,W,U,rows,rfl,h⟩:=h;exact⟨_,AU (Ab (Ah (CX:=Ak P w) (E:=E) G hr (by rfl) mG kG bG .nil Dy (AA (pv 0) (AA (pv 1) AI)))),_,rfl,_,rfl,p,a,dx,j,k,W,U,rows,rfl,h⟩
theorem UH{t:List (List Rat)->Nat->Nat->Bool}(F:Ag K "back" "Above.back" sBackA f fd)(G:AH P w K mg base (Ak P w) 6 g gd ["step","floor"] (Eg C C3 CN t))(bG:AW K gd ["step","floor"] [])(kG:KP K g)(mG:mg "parting" = some (.ref g)):AH P w K mg base (Ak P w) 7 f fd ["self","floor"] (Eg C C3 CN t):=by
 refine ED F Z1 (λvs H Q E h=>?_) (λcdv A outer s H vs Q E hr h=>?_)
 ·obtain⟨p,a,dx,j,k,W,U,rows,rfl,_⟩:=h;rfl
 obtain⟨p,a,dx,j,k,W,U,rows,rfl,h⟩:=h;exact⟨_,AU (Ab (Ah (CX:=Ak P w) (E:=E) G hr (by rfl) mG kG bG .nil Dy (AA (pv 0) (AA (pv 1) AI)))),_,rfl,_,rfl,p,a,dx,j,k,W,U,rows,rfl,h⟩
theorem Zr:Ar ["self","floor"] ["self","floor"] (Aj sDoneB):=Aw
theorem ZG:Ar ["self","floor"] ["self","floor"] (Aj sBackB):=Aw
theorem Uy{t:List (List Rat)->Nat->Nat->Bool}(F:Ag K "done" "Beside.done" sDoneB f fd)(G:AH P w K mg base (Ak P w) 6 g gd ["step","floor"] (Cv C CN t))(bG:AW K gd ["step","floor"] [])(kG:KP K g)(mG:mg "joined" = some (.ref g)):AH P w K mg base (Ak P w) 7 f fd ["self","floor"] (Cv C CN t):=by
 refine ED F Zr (λvs H Q E h=>?_) (λcdv A outer s H vs Q E hr h=>?_)
 ·obtain⟨p,a,dx,j,k,W,U,rows,rfl,_⟩:=h;rfl
 obtain⟨p,a,dx,j,k,W,U,rows,rfl,h⟩:=h;exact⟨_,AU (Ab (Ah (CX:=Ak P w) (E:=E) G hr (by rfl) mG kG bG .nil Dy (AA (pv 0) (AA (pv 1) AI)))),_,rfl,_,rfl,p,a,dx,j,k,W,U,rows,rfl,h⟩
theorem Ux{t:List (List Rat)->Nat->Nat->Bool}(F:Ag K "back" "Beside.back" sBackB f fd)(G:AH P w K mg base (Ak P w) 6 g gd ["step","floor"] (Eg C C3 CN t))(bG:AW K gd ["step","floor"] [])(kG:KP K g)(mG:mg "parting" = some (.ref g)):AH P w K mg base (Ak P w) 7 f fd ["self","floor"] (Eg C C3 CN t):=by
 refine ED F ZG (λvs H Q E h=>?_) (λcdv A outer s H vs Q E hr h=>?_)
 ·obtain⟨p,a,dx,j,k,W,U,rows,rfl,_⟩:=h;rfl
 obtain⟨p,a,dx,j,k,W,U,rows,rfl,h⟩:=h;exact⟨_,AU (Ab (Ah (CX:=Ak P w) (E:=E) G hr (by rfl) mG kG bG .nil Dy (AA (pv 0) (AA (pv 1) AI)))),_,rfl,_,rfl,p,a,dx,j,k,W,U,rows,rfl,h⟩
theorem Lj{α:Type}[DecidableEq α]{D:α->PyData}(h:∀x y,PyData.eqv (D x) (D y)=decide (x=y)):∀xs ys:List α,PyData.eqv (.tuple (xs.map D)) (.tuple (ys.map D))=decide (xs=ys)
 | [],[]=>by simp[PyData.eqv,PyData.eqvAll]
 | [],y :: ys=>by simp[PyData.eqv,PyData.eqvAll]
 | x :: xs,[]=>by simp[PyData.eqv,PyData.eqvAll]
 | x :: xs,y :: ys=>by
  have ih:=Lj h xs ys;simp only[PyData.eqv] at ih;simp only[PyData.eqv,List.map_cons,PyData.eqvAll,h,ih];by_cases a:x=y <;> by_cases b:xs=ys <;> simp[a,b]
theorem OO(W U:Rat)(r s:List (List Rat)):PyData.eqv (E9 W U r) (E9 W U s)=decide (r=s):=by
 have e0:∀p q:Rat,PyData.eqv (C7 p) (C7 q)=decide (p=q):=MS;have e1:=Lj (D:=FI) (Lj (D:=C7) e0) r s;unfold E9;simp only[PyData.eqv,PyData.eqvAll,e0,decide_true,Bool.true_and] at e1 ⊢;simp only[e1,Bool.and_true]
def CU(rows:List (List Rat))(j k:Nat)(r s:List Rat):List (List Rat):=(rows.set j r).take k++s :: (rows.set j r).drop k
theorem YK{rows:List (List Rat)}{j k:Nat}{r s:List Rat}(hk:k<=rows.length):(CU rows j k r s).length=rows.length+1:=by
 unfold CU;rw[List.length_append,List.length_cons,List.length_take,List.length_drop,List.length_set]; omega
variable {f6 f7 f8:Addr} {d6 d7 d8:FuncData}
def MU(t:List (List Rat)->Nat->Nat->Bool):Sp:=λvs H Q _=>∃(p:Addr) (rows:List (List Rat)) (j k:Nat),vs=[.ref p,.int (j:Int),.int (k:Int)]/\BV (A5 Aa) H p rows/\DU rows/\j<rows.length/\k<rows.length/\∀H',AQ H H'->Q (.bl (t rows j k)) H'
theorem TN(F:Ag K "is_beside" "is_beside" s_is_beside f fd):AH P w K mg base AM 1 f fd ["rectangles","j","k"] (MU BJ):=by
 refine F.ok IH (λvs H Q E h=>?_) (λcdv A outer s H vs Q E hr h=>?_)
 ·obtain⟨p,rows,j,k,rfl,_⟩:=h;rfl
 obtain⟨p,rows,j,k,rfl,⟨cs,hp,hC⟩,rk,hj,hk,q⟩:=h;have q:=q H (AQ.refl _);obtain⟨a,ea,ha⟩:=hC.get (Bv hj);obtain⟨b,eb,hb⟩:=hC.get (Bv hk);have n4:=rk.four _ (List.mem_of_getElem? (Bv hj));have m4:=rk.four _ (List.mem_of_getElem? (Bv hk));unfold BJ at q;generalize rows.getD j []=r at ha n4 q;generalize rows.getD k []=t at hb m4 q;obtain⟨c0,c1,c2,c3,x0,x1,x2,x3,rfl,ha,h0,h1,h2,h3⟩:=Ej ha n4;obtain⟨e0,e1,e2,e3,y0,y1,y2,y3,rfl,hb,g0,g1,g2,g3⟩:=Ej hb m4;refine⟨_,AS (Ad (i:=3) IH.nd rfl (Or.inl rfl) (pL K (pv 0) (pv 1)))
  (AS (Ad (i:=4) IH.nd rfl (Or.inl rfl) (pL K (pv 0) (pv 2)))
  (AS (A0 (PW.pt (D8 (Aq (GU hr.units) (pT K (pv 3) AF) (pT K (pv 4) AF) (Ac _)) (GW (Aq (GU hr.units) (pT K (pv 3) AF) (pT K (pv 4) AF) (Ac _))))) (AU (Ab CI)) A2)
  (AU (Ab (GY (Bm (Hm hr.units) (pT K (pv 3) AF) (pT K (pv 4) AF) (Ac _)) (Dg (Bm (Hm hr.units) (pT K (pv 4) AF) (pT K (pv 3) AF) (Ac _)))))))),?_⟩
 refine⟨_,rfl,_,rfl,p,_,_,_,rfl,rfl,AR.of hp,Ap (BF ea),?_⟩;refine⟨_,rfl,_,rfl,p,_,_,_,rfl,rfl,AR.of hp,Ap (BF eb),?_⟩;refine⟨_,rfl,a,_,_,_,rfl,rfl,AK.of ha,Cm,_,rfl,b,_,_,_,rfl,rfl,AK.of hb,Cm,c1,e1,x1,y1,rfl,rfl,h1,g1,_,rfl,?_⟩;have q':Q (.bl ((decide (x1=y1) && decide (x3=y3)) && (decide (x2=y0) || decide (y2=x0)))) H:=q;by_cases z1:x1=y1
 case neg =>
  refine CG z1 ?_;rw[decide_eq_false z1,Bool.false_and,Bool.false_and] at q';exact q'
 refine CH z1 ?_;refine⟨_,rfl,a,_,_,_,rfl,rfl,AK.of ha,DN,_,rfl,b,_,_,_,rfl,rfl,AK.of hb,DN,c3,e3,x3,y3,rfl,rfl,h3,g3,_,rfl,?_⟩;by_cases z3:x3=y3
 case neg =>
  refine CG z3 ?_;rw[decide_eq_false z3,Bool.and_false,Bool.false_and] at q';exact q'
 refine CH z3 ?_;rw[decide_eq_true z1,decide_eq_true z3,Bool.true_and,Bool.true_and] at q';refine⟨_,rfl,a,_,_,_,rfl,rfl,AK.of ha,DJ,_,rfl,b,_,_,_,rfl,rfl,AK.of hb,DO,c2,e0,x2,y0,rfl,rfl,h2,g0,_,rfl,?_⟩;by_cases z2:x2=y0
 ·refine A8 z2 ?_;rw[decide_eq_true z2,Bool.true_or] at q';exact q'
 refine Am z2 ?_;rw[decide_eq_false z2,Bool.false_or] at q';exact⟨_,rfl,b,_,_,_,rfl,rfl,AK.of hb,DJ,_,rfl,a,_,_,_,rfl,rfl,AK.of ha,DO,e2,c0,y2,x0,rfl,rfl,g2,h0,q'⟩
def Kh(C3:Addr):Sp:=λvs H Q _=>∃(p a dx p1 p2:Addr) (j k:Nat) (W U:Rat) (rows:List (List Rat)) (r1 r2:List Rat),vs=[.ref p,.ref a]/\H p=some (.A6 C3 dx (Ci (j:Int) (k:Int) p1 p2))/\Bi H a W U rows/\rows.length<=30/\A5 Aa H p1 r1/\A5 Aa H p2 r2/\j<k/\k<=rows.length/\∀t H',AQ H H'->Bi H' t W U (CU rows j k r1 r2)->Q (.ref t) H'
theorem Rt:Ar ["self","floor","rectangles"] ["self","floor"] (Aj sMadeS):=Aw
theorem Wr(F:Ag K "made" "Split.made" sMadeS f fd)(T:Er K C3)(ml:mg "list" = none)(mt:mg "tuple" = none):AH P w K mg base AM 1 f fd ["self","floor"] (Kh C3):=by
 refine F.ok Rt (λvs H Q E h=>?_) (λcdv A outer s H vs Q E hr h=>?_)
 ·obtain⟨p,a,dx,p1,p2,j,k,W,U,rows,r1,r2,rfl,_⟩:=h;rfl
 obtain⟨p,a,dx,p1,p2,j,k,W,U,rows,r1,r2,rfl,hp,hF,n30,h1,h2,jk,kn,q⟩:=h;refine⟨_,(AS (Ad (i:=2) Rt.nd rfl (Or.inl rfl) (Dx LW (by rfl) ml J7 (AA (pT K (pv 1) AF) AI)))
  (AS (E7 (Bh (pv 0) rfl) (Iy (pv 2) (Bh (pv 0) rfl) IX))
  (AS (GO (HC K PySem.F.plainAttrs_list PySem.F.slot_list_insert PySem.F.type_list_insert T7 (pv 2) (AA (Bh (pv 0) rfl) (AA (Bh (pv 0) rfl) AI))))
  (AU (Ab (Ax (AA (pT K (pv 1) AF) (AA (pT K (pv 1) AF) (AA (Dx Hc (by rfl) mt Gx (AA (pv 2) AI)) AI))))))))),?_⟩
 obtain⟨pw,pu,pr,ha,hw,hu,cs,hpr,hC⟩:=hF;have lc:cs.length=rows.length:=hC.1;refine⟨_,rfl,a,_,_,_,rfl,rfl,AK.of ha,EB _ _ _,pr,_,rfl,.inr (AK.of hpr),λl hl=>?_⟩;obtain⟨H2,z2,s2,gl⟩:=GD hl (cs.map V.ref);rw[z2];have hp2:=s2 _ _ hp;refine⟨_,rfl,p,C3,dx,_,_,rfl,hp2,T.cl,T.n3,N3 _ _ _ _,_,rfl,_,rfl,p,C3,dx,_,_,rfl,hp2,T.cl,T.n1,Jt _ _ _ _,l,_,_,j,rfl,rfl,gl,Ia (by rw[List.length_map]; omega),?_⟩;rw[show(cs.map V.ref).set j (.ref p1)=(cs.set j p1).map V.ref from (List.map_set ..).symm];have sb4:Ba l H2 (AJ H2 l (.AN ((cs.set j p1).map V.ref))):=Ba.one;have gl4:AJ H2 l (.AN ((cs.set j p1).map V.ref)) l=some (.AN ((cs.set j p1).map V.ref)):=AV;generalize AJ H2 l (.AN ((cs.set j p1).map V.ref))=H4 at sb4 gl4;have s14:AQ H H4:=sb4.Gq s2 hl;have hp4:=s14 _ _ hp;have l4:((cs.set j p1).map V.ref).length=rows.length:=by rw[List.length_map,List.length_set,lc]
 refine⟨_,rfl,.inl ⟨rfl,_,AR.of gl4⟩,_,rfl,p,C3,dx,_,_,rfl,hp4,T.cl,T.n2,Jg _ _ _ _,_,rfl,p,C3,dx,_,_,rfl,hp4,T.cl,T.n4,Np _ _ _ _,l,_,_,_,rfl,rfl,gl4,Int.natCast_nonneg _,by rw[l4]; omega,by rw[l4]; omega,?_⟩;rw[Int.toNat_natCast,show((cs.set j p1).map V.ref).take k++V.ref p2 :: ((cs.set j p1).map V.ref).drop k=((cs.set j p1).take k++p2 :: (cs.set j p1).drop k).map V.ref by rw[List.map_append,List.map_cons,List.map_take,List.map_drop]];generalize hcs:(cs.set j p1).take k++p2 :: (cs.set j p1).drop k=cs5;have sb5:Ba l H4 (AJ H4 l (.AN (cs5.map V.ref))):=Ba.one;have gl5:AJ H4 l (.AN (cs5.map V.ref)) l=some (.AN (cs5.map V.ref)):=AV;generalize AJ H4 l (.AN (cs5.map V.ref))=H5 at sb5 gl5;have s15:AQ H H5:=sb5.Gq s14 hl;refine⟨_,rfl,a,_,_,_,rfl,rfl,AK.of (s15 _ _ ha),FK _ _ _,_,rfl,a,_,_,_,rfl,rfl,AK.of (s15 _ _ ha),HP _ _ _,_,rfl,l,_,rfl,.inl ⟨AR.of gl5,λt6 ht6=>?_⟩⟩;obtain⟨H6,z6,s6,g6⟩:=CP ht6 (cs5.map V.ref);rw[z6];refine⟨by exact Dv,λt7 ht7=>?_⟩;have s7:=AY ht7 (.AG [.ref pw,.ref pu,.ref t6]);have s57:=s15.trans (s6.trans s7);refine q t7 _ s57 ⟨pw,pu,t6,AV,s57 _ _ hw,s57 _ _ hu,_,s7 _ _ g6,?_⟩;rw[<-hcs];have a1:=RB (hC.keep BO s57) j (BO s57 h1);have a2:=((a1.take k).snoc (BO s57 h2)).FU (a1.drop k);rw[List.append_assoc,List.append_assoc] at a2;exact a2
def Ks(C1 C2 C3:Addr):Sp:=λvs H Q _=>∃(p dx p1 p2:Addr) (j k:Int) (r1 r2:List Rat),vs=[.ref p]/\H p=some (.A6 C3 dx (Ci j k p1 p2))/\A5 Aa H p1 r1/\A5 Aa H p2 r2/\DU [r1,r2]/\(BJ [r1,r2] 0 1=true->∀x dx H',AQ H H'->H' x=some (.A6 C2 dx (Cg j k))->Q (.ref x) H')/\(BJ [r1,r2] 0 1=false->∀x dx H',AQ H H'->H' x=some (.A6 C1 dx (Cg j k))->Q (.ref x) H')
theorem Z0:Ar ["self"] ["self"] (Aj sJoiningS):=Aw
theorem Ti (F:Ag K "joining" "Split.joining" sJoiningS f fd) (T1:StC K C1) (T2:StC K C2) (T:Er K C3) (M1:Mk K C1 f1) (mC1:mg "Above" = some (.ref C1)) (M2:Mk K C2 f1) (mC2:mg "Beside" = some (.ref C2)) (G1:AH P w K mg base AM 1 f1 d1 ["self","one","other"] (Ir K)) (b1:AW K d1 ["self","one","other"] [])
  (G2:AH P w K mg base AM 1 f2 d2 ["rectangles","j","k"] (MU BJ)) (b2:AW K d2 ["rectangles","j","k"] []) (k2:KP K f2) (m2:mg "is_beside" = some (.ref f2)):AH P w K mg base AM 3 f fd ["self"] (Ks C1 C2 C3):=by
 refine F.ok Z0 (λvs H Q E h=>?_) (λcdv A outer s H vs Q E hr h=>?_)
 ·obtain⟨p,dx,p1,p2,j,k,r1,r2,rfl,_⟩:=h;rfl
 obtain⟨p,dx,p1,p2,j,k,r1,r2,rfl,hp,h1,h2,rk,qb,qa⟩:=h;have hr2:=hr.mono (show 1+1<=2 by decide);have hr1:=hr.mono (show 1<=2 by decide);refine⟨_,AS (A0 (D4 (Ah G2 hr1 (by rfl) m2 k2 b2 .nil Ae (AA (DC (AA (Bh (pv 0) rfl) (AA (Bh (pv 0) rfl) AI))) (AA AF (AA AF AI))))) (AU (Ab (Hh M2 G1 hr2 rfl mC2 b1 .nil Ae (AA (Bh (pv 0) rfl) (AA (Bh (pv 0) rfl) AI))))) A2)
  (AU (Ab (Hh M1 G1 hr2 rfl mC1 b1 .nil Ae (AA (Bh (pv 0) rfl) (AA (Bh (pv 0) rfl) AI))))),?_⟩
 refine⟨_,rfl,p,C3,dx,_,_,rfl,hp,T.cl,T.n3,N3 _ _ _ _,_,rfl,p,C3,dx,_,_,rfl,hp,T.cl,T.n4,Np _ _ _ _,by exact sz2,λl hl=>?_⟩;obtain⟨H2,z2,s2,gl⟩:=GD hl [V.ref p1,V.ref p2];rw[z2];refine⟨l,[r1,r2],0,1,rfl,⟨[p1,p2],gl,rfl,λi c b e1 e2=>?_⟩,rk,by show 0<2; decide,by show 1<2; decide,λH3 s3=>?_⟩
 ·match i,e1,e2 with
  | 0,e1,e2=>cases e1; cases e2; exact BO s2 h1
  | 1,e1,e2=>cases e1; cases e2; exact BO s2 h2
  | n+2,e1,e2=>simp at e1
 have s13:=s2.trans s3;have hp3:=s13 _ _ hp;cases z:BJ [r1,r2] 0 1 with
 | true =>
  refine⟨_,rfl,Bk ?_⟩;refine⟨_,rfl,p,C3,dx,_,_,rfl,hp3,T.cl,T.n1,Jt _ _ _ _,_,rfl,p,C3,dx,_,_,rfl,hp3,T.cl,T.n2,Jg _ _ _ _,λx dx3 nx ndx nex=>?_⟩;refine⟨x,C2,dx3,_,_,rfl,T2,AV,λH4 hx sb=>⟨rfl,?_⟩⟩;have s4:AQ H3 H4:=λb o e=>sb b o (A7 e nx) (by rw[Ao (A7 e nx),Ao (A7 e ndx)]; exact e)
  exact qb z x dx3 H4 (s13.trans s4) hx
 | false =>
  refine⟨_,rfl,BX ?_⟩;refine⟨_,rfl,p,C3,dx,_,_,rfl,hp3,T.cl,T.n1,Jt _ _ _ _,_,rfl,p,C3,dx,_,_,rfl,hp3,T.cl,T.n2,Jg _ _ _ _,λx dx3 nx ndx nex=>?_⟩;refine⟨x,C1,dx3,_,_,rfl,T1,AV,λH4 hx sb=>⟨rfl,?_⟩⟩;have s4:AQ H3 H4:=λb o e=>sb b o (A7 e nx) (by rw[Ao (A7 e nx),Ao (A7 e ndx)]; exact e)
  exact qa z x dx3 H4 (s13.trans s4) hx
def JI(m:List (List Rat))(j k:Nat)(r1 r2:List Rat):Bool:=if BJ [r1,r2] 0 1=true then BJ m j k else Bz m j k
def DF(rows:List (List Rat))(j k:Int)(r1 r2:List Rat)(cv:Bool):Bool :=
 Bu ((rows.length:Int)+1) j k && (cv && (JI (CU rows j.toNat k.toNat r1 r2) j.toNat k.toNat r1 r2 && decide (FW (CU rows j.toNat k.toNat r1 r2) j.toNat k.toNat=rows)))
structure IM(W U:Rat)(rows:List (List Rat))(j k:Int)(r1 r2:List Rat)(cv:Bool):Prop where
 rk:DU rows
 NX:DU [r1,r2]
 rm:Bu ((rows.length:Int)+1) j k=true->DU (CU rows j.toNat k.toNat r1 r2)
 lk:Bu ((rows.length:Int)+1) j k=true->FX W U (CU rows j.toNat k.toNat r1 r2)
 cv:Bu ((rows.length:Int)+1) j k=true->∀ws,Ck (wh (cb (BI W U (CU rows j.toNat k.toNat r1 r2))) W) (wh (cb (BI W U (CU rows j.toNat k.toNat r1 r2))) U) (Ee (cb (BI W U (CU rows j.toNat k.toNat r1 r2))) (CU rows j.toNat k.toNat r1 r2)) ws->decide (ws.length=1)=cv
def GS(C3:Addr):Sp:=λvs H Q _=>∃(p a dx p1 p2:Addr) (j k:Int) (W U:Rat) (rows:List (List Rat)) (r1 r2:List Rat) (cv:Bool),vs=[.ref p,.ref a]/\H p=some (.A6 C3 dx (Ci j k p1 p2))/\Bi H a W U rows/\A5 Aa H p1 r1/\A5 Aa H p2 r2/\IM W U rows j k r1 r2 cv/\∀H',AQ H H'->Q (.bl (DF rows j k r1 r2 cv)) H'
theorem Tz:K1 (GS C3):=by
 rintro vs H Q Q' E hq ⟨p,a,dx,p1,p2,j,k,W,U,rows,r1,r2,cv,e,hp,hF,h1,h2,sk,q⟩;exact⟨p,a,dx,p1,p2,j,k,W,U,rows,r1,r2,cv,e,hp,hF,h1,h2,sk,λH' s=>hq _ _ (q H' s)⟩
theorem M7:Ar ["self","floor","made","joining"] ["self","floor"] (Aj sFitsS):=Aw
theorem Vp (F:Ag K "fits" "Split.fits" sFitsS f fd) (T1:StC K C1) (T2:StC K C2) (T:Er K C3)
  (G1:AH P w K mg base AM 1 f1 d1 ["count","j","k"] Ig) (b1:AW K d1 ["count","j","k"] []) (k1:KP K f1) (m1:mg "is_pair" = some (.ref f1))
  (G2:AH P w K mg base AM 1 f2 d2 ["self","floor"] (Kh C3)) (b2:AW K d2 ["self","floor"] []) (e2:BW K C3 "made" f2)
  (G3:AH P w K mg base AM 3 f3 d3 ["self"] (Ks C1 C2 C3)) (b3:AW K d3 ["self"] []) (e3:BW K C3 "joining" f3)
  (G4:AH P w K mg base AM 5 f4 d4 ["floor"] Mx) (b4:AW K d4 ["floor"] []) (k4:KP K f4) (m4:mg "covers" = some (.ref f4))
  (G5:AH P w K mg base AM 4 f5 d5 ["self","floor"] (Ea C1 Bz)) (b5:AW K d5 ["self","floor"] []) (e5:BW K C1 "fits" f5)
  (G6:AH P w K mg base AM 4 f6 d6 ["self","floor"] (Ea C2 BJ)) (b6:AW K d6 ["self","floor"] []) (e6:BW K C2 "fits" f6)
  (G7:AH P w K mg base (Ak P w) 7 f7 d7 ["self","floor"] (Cv C1 CN Bz)) (b7:AW K d7 ["self","floor"] []) (e7:BW K C1 "done" f7)
  (G8:AH P w K mg base (Ak P w) 7 f8 d8 ["self","floor"] (Cv C2 CN BJ)) (b8:AW K d8 ["self","floor"] []) (e8:BW K C2 "done" f8)
  (ml:mg "len" = none):AH P w K mg base (Ak P w) 8 f fd ["self","floor"] (GS C3):=by
 refine ED F M7 (λvs H Q E h=>?_) (λcdv A outer s H vs Q E hr h=>?_)
 ·obtain⟨p,a,dx,p1,p2,j,k,W,U,rows,r1,r2,cv,rfl,_⟩:=h;rfl
 obtain⟨p,a,dx,p1,p2,j,k,W,U,rows,r1,r2,cv,rfl,hp,hF,h1,h2,sk,q⟩:=h;have hr1:=hr.mono (show 1<=7 by decide);have hr3:=hr.mono (show 3<=7 by decide);have hr4:=hr.mono (show 4<=7 by decide);have hr5:=hr.mono (show 5<=7 by decide);refine⟨_,AS (A0 (GV (D4 (Ah G1 hr1 (by rfl) m1 k1 b1 .nil Ae (AA (AX BU (BE (B6 (K:=K)) (by rfl) ml B7 (AA (pT K (pv 1) AF) AI)) AF) (AA (Bh (pv 0) rfl) (AA (Bh (pv 0) rfl) AI)))))) (AU (Ab CI)) A2)
  (AS (Ad (i:=2) M7.nd rfl (Or.inl rfl) (J2 (E:=E0) (pv 0) T.cl e2 G2 hr1 b2 .nil Ae (AA (pv 1) AI)))
  (AS (Ad (i:=3) M7.nd rfl (Or.inl rfl) (Ox (E:=E0) (pv 0) T.cl e3 G3 hr3 b3 .nil Ae))
  (AU (Ab (E8 (Ah G4 hr5 (by rfl) m4 k4 b4 .nil Ae (AA (pv 2) AI)) (E8 (Oe (E:=E0) (pv 3) T1.cl T2.cl e5 e6 G5 G6 hr4 hr4 b5 b6 Ae Ae (AA (pv 2) AI)) (Dg (Bm (Kd hr.units) (Oe (E:=E) (pv 3) T1.cl T2.cl e7 e8 G7 G8 hr hr b7 b8 Dy Dy (AA (pv 2) AI)) (pv 1) (Ac _))))))))),?_⟩
 obtain⟨pw,pu,pr,ha,hw,hu,cs,hpr,hC⟩:=id hF;have lm:(cs.map V.ref).length=rows.length:=by rw[List.length_map,hC.1]
 refine⟨_,rfl,a,_,_,_,rfl,rfl,AK.of ha,EB _ _ _,pr,_,rfl,.inr (AK.of hpr),_,_,rfl,rfl,_,rfl,p,C3,dx,_,_,rfl,hp,T.cl,T.n1,Jt _ _ _ _,_,rfl,p,C3,dx,_,_,rfl,hp,T.cl,T.n2,Jg _ _ _ _,_,_,_,rfl,?_⟩;rw[lm];refine⟨_,rfl,?_⟩;unfold DF at q;cases z:Bu ((rows.length:Int)+1) j k with
 | false =>
  rw[z,Bool.false_and] at q;exact Bk (q H (AQ.refl _))
 | true =>
 rw[z,Bool.true_and] at q;refine BX ?_;obtain⟨z1,z2,z3⟩:=Cd.mp z;have rm:=sk.rm z;have lk:=sk.lk z;have hcv:=sk.cv z;obtain⟨j,rfl⟩:=Int.eq_ofNat_of_zero_le z1;obtain⟨k,rfl⟩:=Int.eq_ofNat_of_zero_le (show 0<=k by omega);have q:∀H',AQ H H'->Q (.bl (cv && (JI (CU rows j k r1 r2) j k r1 r2 && decide (FW (CU rows j k r1 r2) j k=rows)))) H':=q;simp only[Int.toNat_natCast] at rm lk hcv;have jk:j<k:=by omega
 have kn:k<=rows.length:=by omega
 have ln:=YK (rows:=rows) (j:=j) (r:=r1) (s:=r2) kn;refine⟨_,rfl,p,dx,_,rfl,hp,GI,_,rfl,p,a,dx,p1,p2,j,k,W,U,rows,r1,r2,rfl,hp,hF,sk.rk.n,h1,h2,jk,kn,λt H1 s1 hM=>?_⟩;have hp1:=s1 _ _ hp;generalize CU rows j k r1 r2=m at q rm lk hcv ln hM;have fz:∀b:List (List Rat)->Nat->Nat->Bool,Cn b m (j:Int) (k:Int)=b m j k:=λb=>by
  unfold Cn;rw[Cd.mpr ⟨Int.natCast_nonneg _,by omega,by rw[ln]; omega⟩,Bool.true_and]; rfl
 refine⟨_,rfl,p,dx,_,rfl,hp1,GI,p,dx,p1,p2,_,_,r1,r2,rfl,hp1,BO s1 h1,BO s1 h2,sk.NX,λzb x dx' H2 s2 hx=>?_,λzb x dx' H2 s2 hx=>?_⟩
 ·unfold JI at q;rw[if_pos zb] at q;refine⟨_,rfl,t,W,U,m,rfl,Bs s2 hM,lk,λws H3 hl s3=>⟨_,rfl,?_⟩⟩;rw[hcv ws hl];cases cv with
  | false=>exact BX (q H3 (s1.trans (s2.trans s3)))
  | true =>
  rw[Bool.true_and] at q;refine Bk ⟨_,rfl,?_⟩;have hx3:=s3 _ _ hx;have hM3:=Bs (s2.trans s3) hM;refine⟨x,dx',_,rfl,EV,.inr ⟨hx3,_,rfl,x,t,dx',_,_,W,U,m,rfl,hx3,hM3,rm,λH4 s4=>⟨_,rfl,?_⟩⟩⟩;rw[fz];cases y:BJ m j k with
  | false =>
   rw[y,Bool.false_and] at q;exact BX (q H4 (s1.trans (s2.trans (s3.trans s4))))
  | true =>
  rw[y,Bool.true_and] at q;refine Bk ⟨_,rfl,?_⟩;have hx4:=s4 _ _ hx3;refine⟨x,dx',_,rfl,EV,.inr ⟨hx4,_,rfl,x,t,dx',_,_,W,U,m,rfl,hx4,Bs s4 hM3,rm,λ_ b H5 s5 hb=>?_,λn=>?_⟩⟩
  ·have s15:=s1.trans (s2.trans (s3.trans (s4.trans s5)));refine⟨_,rfl,_,_,Jr hb,Jr (Bs s15 hF),Kz _ _ _,Kz _ _ _,?_⟩;rw[OO];exact q H5 s15
  ·rw[fz,y] at n; cases n
 ·unfold JI at q;rw[if_neg (by rw[zb]; decide)] at q;refine⟨_,rfl,t,W,U,m,rfl,Bs s2 hM,lk,λws H3 hl s3=>⟨_,rfl,?_⟩⟩;rw[hcv ws hl];cases cv with
  | false=>exact BX (q H3 (s1.trans (s2.trans s3)))
  | true =>
  rw[Bool.true_and] at q;refine Bk ⟨_,rfl,?_⟩;have hx3:=s3 _ _ hx;have hM3:=Bs (s2.trans s3) hM;refine⟨x,dx',_,rfl,EV,.inl ⟨hx3,_,rfl,x,t,dx',_,_,W,U,m,rfl,hx3,hM3,rm,λH4 s4=>⟨_,rfl,?_⟩⟩⟩;rw[fz];cases y:Bz m j k with
  | false =>
   rw[y,Bool.false_and] at q;exact BX (q H4 (s1.trans (s2.trans (s3.trans s4))))
  | true =>
  rw[y,Bool.true_and] at q;refine Bk ⟨_,rfl,?_⟩;have hx4:=s4 _ _ hx3;refine⟨x,dx',_,rfl,EV,.inl ⟨hx4,_,rfl,x,t,dx',_,_,W,U,m,rfl,hx4,Bs s4 hM3,rm,λ_ b H5 s5 hb=>?_,λn=>?_⟩⟩
  ·have s15:=s1.trans (s2.trans (s3.trans (s4.trans s5)));refine⟨_,rfl,_,_,Jr hb,Jr (Bs s15 hF),Kz _ _ _,Kz _ _ _,?_⟩;rw[OO];exact q H5 s15
  ·rw[fz,y] at n; cases n
variable {CE:Addr}
theorem XS{sp:Sp}(F:Ag K "check_fits" "check_fits" s_check_fits f fd)(T:CO K C3)(mo:K1 sp)(ie:∀vs H Q E E',sp vs H Q E->sp vs H Q E')(G:AH P w K mg base (Ak P w) 8 g gd ["self","floor"] sp)(bG:AW K gd ["self","floor"] [])(eG:BW K C3 "fits" g)(mC:mg "NoFit" = some (.ref CN))(xC:PySem.W.excIn K CN LJ "ValueError.__new__" = true):AH P w K mg base (Ak P w) 9 f fd ["step","floor"] (E5 C3 CN sp):=by
 refine ED F RX (λvs H Q E h=>?_) (λcdv A outer s H vs Q E hr h=>?_)
 ·obtain⟨p,a,dx,fs,rfl,_⟩:=h;rfl
 obtain⟨p,a,dx,fs,rfl,hp,hf,q⟩:=h;refine⟨_,AU (A0 (GV (D4 (J2 (E:=E) (pv 0) T eG G hr bG .nil Dy (AA (pv 1) AI)))) (AU (Ln (E:=E) (by rfl) mC xC PySem.F.excBase_ValueError rfl Lf (AA Bo AI))) A2),?_⟩;replace q:=ie _ _ _ _ E q;refine⟨_,rfl,p,dx,fs,rfl,hp,hf,_,rfl,mo _ _ _ _ _ (λv H' z=>?_) q⟩;rcases z with ⟨rfl,z⟩ | ⟨rfl,z⟩
 ·exact⟨_,rfl,BX z⟩
 ·exact⟨_,rfl,Bk ⟨by exact sz1,z⟩⟩
theorem WI(F:Ag K "check_fits" "check_fits" s_check_fits f fd)(T:CO K C3)(G:AH P w K mg base (Ak P w) 8 g gd ["self","floor"] (GS C3))(bG:AW K gd ["self","floor"] [])(eG:BW K C3 "fits" g)(mC:mg "NoFit" = some (.ref CN))(xC:PySem.W.excIn K CN LJ "ValueError.__new__" = true):AH P w K mg base (Ak P w) 9 f fd ["step","floor"] (E5 C3 CN (GS C3)):=XS F T Tz (λ_ _ _ _ _ h=>h) G bG eG mC xC
def JH(C3 CN:Addr):Sp:=λvs H Q E=>∃(p a dx p1 p2:Addr) (j k:Int) (W U:Rat) (rows:List (List Rat)) (r1 r2:List Rat) (cv:Bool),vs=[.ref p,.ref a]/\H p=some (.A6 C3 dx (Ci j k p1 p2))/\Bi H a W U rows/\A5 Aa H p1 r1/\A5 Aa H p2 r2/\IM W U rows j k r1 r2 cv/\(DF rows j k r1 r2 cv=true->∀b H',AQ H H'->Bi H' b W U (CU rows j.toNat k.toNat r1 r2)->Q (.ref b) H')/\(DF rows j k r1 r2 cv=false->∀H',AQ H H'->E (.ref CN) none H')
def Mp(C1 C2 C3 CN:Addr):Sp:=λvs H Q E=>∃(p a dx p1 p2:Addr) (j k:Int) (W U:Rat) (rows:List (List Rat)) (r1 r2:List Rat) (cv:Bool),vs=[.ref p,.ref a]/\H p=some (.A6 C3 dx (Ci j k p1 p2))/\Bi H a W U rows/\A5 Aa H p1 r1/\A5 Aa H p2 r2/\IM W U rows j k r1 r2 cv/\(DF rows j k r1 r2 cv=true->∀x dx H',AQ H H'->H' x=some (.A6 (if BJ [r1,r2] 0 1=true then C2 else C1) dx (Cg j k))->Q (.ref x) H')/\(DF rows j k r1 r2 cv=false->∀H',AQ H H'->E (.ref CN) none H')
theorem Zk:Ar ["self","floor"] ["self","floor"] (Aj sDoneS):=Aw
theorem Zw:Ar ["self","floor"] ["self","floor"] (Aj sBackS):=Aw
theorem VG (F:Ag K "done" "Split.done" sDoneS f fd) (T:Er K C3) (G1:AH P w K mg base (Ak P w) 9 f1 d1 ["step","floor"] (E5 C3 CN (GS C3))) (b1:AW K d1 ["step","floor"] []) (k1:KP K f1) (m1:mg "check_fits" = some (.ref f1))
  (G2:AH P w K mg base AM 1 f2 d2 ["self","floor"] (Kh C3)) (b2:AW K d2 ["self","floor"] []) (e2:BW K C3 "made" f2):AH P w K mg base (Ak P w) 10 f fd ["self","floor"] (JH C3 CN):=by
 refine ED F Zk (λvs H Q E h=>?_) (λcdv A outer s H vs Q E hr h=>?_)
 ·obtain⟨p,a,dx,p1,p2,j,k,W,U,rows,r1,r2,cv,rfl,_⟩:=h;rfl
 obtain⟨p,a,dx,p1,p2,j,k,W,U,rows,r1,r2,cv,rfl,hp,hF,h1,h2,sk,q,qn⟩:=h;have hr1:=hr.mono (show 1<=9 by decide);refine⟨_,AS (GO (Ah (CX:=Ak P w) (E:=E) G1 hr (by rfl) m1 k1 b1 .nil Dy (AA (pv 0) (AA (pv 1) AI))))
  (AU (Ab (J2 (E:=E0) (pv 0) T.cl e2 G2 hr1 b2 .nil Ae (AA (pv 1) AI)))),?_⟩
 refine⟨_,rfl,_,rfl,p,a,dx,_,rfl,hp,GI,p,a,dx,p1,p2,j,k,W,U,rows,r1,r2,cv,rfl,hp,hF,h1,h2,sk,λH1 s1=>?_⟩;cases z:DF rows j k r1 r2 cv with
 | false=>exact .inr ⟨rfl,qn z H1 s1⟩
 | true =>
 refine .inl ⟨rfl,?_⟩;replace q:=q z;have hp1:=s1 _ _ hp;unfold DF at z;rw[Bool.and_eq_true] at z;obtain⟨zz1,zz2,zz3⟩:=Cd.mp z.1;obtain⟨j,rfl⟩:=Int.eq_ofNat_of_zero_le zz1;obtain⟨k,rfl⟩:=Int.eq_ofNat_of_zero_le (show 0<=k by omega);exact⟨_,rfl,p,dx,_,rfl,hp1,GI,_,rfl,p,a,dx,p1,p2,j,k,W,U,rows,r1,r2,rfl,hp1,Bs s1 hF,sk.rk.n,BO s1 h1,BO s1 h2,by omega,by omega,λt H2 s2 hM=>q t H2 (s1.trans s2) hM⟩
theorem VH (F:Ag K "back" "Split.back" sBackS f fd) (T:Er K C3) (G1:AH P w K mg base (Ak P w) 9 f1 d1 ["step","floor"] (E5 C3 CN (GS C3))) (b1:AW K d1 ["step","floor"] []) (k1:KP K f1) (m1:mg "check_fits" = some (.ref f1))
  (G2:AH P w K mg base AM 3 f2 d2 ["self"] (Ks C1 C2 C3)) (b2:AW K d2 ["self"] []) (e2:BW K C3 "joining" f2):AH P w K mg base (Ak P w) 10 f fd ["self","floor"] (Mp C1 C2 C3 CN):=by
 refine ED F Zw (λvs H Q E h=>?_) (λcdv A outer s H vs Q E hr h=>?_)
 ·obtain⟨p,a,dx,p1,p2,j,k,W,U,rows,r1,r2,cv,rfl,_⟩:=h;rfl
 obtain⟨p,a,dx,p1,p2,j,k,W,U,rows,r1,r2,cv,rfl,hp,hF,h1,h2,sk,q,qn⟩:=h;have hr1:=hr.mono (show 3<=9 by decide);refine⟨_,AS (GO (Ah (CX:=Ak P w) (E:=E) G1 hr (by rfl) m1 k1 b1 .nil Dy (AA (pv 0) (AA (pv 1) AI))))
  (AU (Ab (Ox (E:=E0) (pv 0) T.cl e2 G2 hr1 b2 .nil Ae))),?_⟩
 refine⟨_,rfl,_,rfl,p,a,dx,_,rfl,hp,GI,p,a,dx,p1,p2,j,k,W,U,rows,r1,r2,cv,rfl,hp,hF,h1,h2,sk,λH1 s1=>?_⟩;cases z:DF rows j k r1 r2 cv with
 | false=>exact .inr ⟨rfl,qn z H1 s1⟩
 | true =>
 refine .inl ⟨rfl,?_⟩;replace q:=q z;have hp1:=s1 _ _ hp;exact⟨_,rfl,p,dx,_,rfl,hp1,GI,p,dx,p1,p2,_,_,r1,r2,rfl,hp1,BO s1 h1,BO s1 h2,sk.NX,λy x dx' H2 s2 hx=>q x dx' H2 (s1.trans s2) (by rw[if_pos y]; exact hx),λy x dx' H2 s2 hx=>q x dx' H2 (s1.trans s2) (by rw[if_neg (by rw[y]; decide)]; exact hx)⟩
inductive Cp
 | ab (j k:Int)
 | bs (j k:Int)
 | sp (j k:Int) (r1 r2:List Rat) (cv:Bool)
 | no (s:Str) (j k:Int)
def Dn(H:Hp)(p:Addr):Cp->Prop
 | .ab j k=>H p=some (.AG [.str "above",.int j,.int k])
 | .bs j k=>H p=some (.AG [.str "beside",.int j,.int k])
 | .sp j k r1 r2 _=>∃p1 p2,H p=some (.AG [.str "split",.int j,.int k,.ref p1,.ref p2])/\A5 Aa H p1 r1/\A5 Aa H p2 r2
 | .no s j k=>H p=some (.AG [.str s,.int j,.int k])/\s≠"above"/\s≠"beside"/\s≠"split"
theorem Ed:Mo Dn:=by
 intro H H' p t s h;cases t with
 | ab j k=>exact s _ _ h
 | bs j k=>exact s _ _ h
 | sp j k r1 r2 cv =>
  obtain⟨p1,p2,h0,h1,h2⟩:=h;exact⟨p1,p2,s _ _ h0,BO s h1,BO s h2⟩
 | no z j k=>exact⟨s _ _ h.1,h.2⟩
def Ro(C1 C2 C3:Addr)(H:Hp)(x:Addr):Cp->Prop
 | .ab j k=>∃dx,H x=some (.A6 C1 dx (Cg j k))
 | .bs j k=>∃dx,H x=some (.A6 C2 dx (Cg j k))
 | .sp j k r1 r2 _=>∃dx p1 p2,H x=some (.A6 C3 dx (Ci j k p1 p2))/\A5 Aa H p1 r1/\A5 Aa H p2 r2
 | .no _ _ _=>False
def Ku(C1 C2 C3 CE:Addr):Sp:=λvs H Q E=>∃(p:Addr) (t:Cp),vs=[.ref p]/\Dn H p t/\(∀x H',AQ H H'->Ro C1 C2 C3 H' x t->Q (.ref x) H')/\((∃s j k,t=.no s j k)->∀H',AQ H H'->E (.ref CE) none H')
theorem aD:Ar ["told"] ["told"] (Aj s_step_of):=Aw
theorem K5{x y z u v:V}:BR [x,y,z,u,v] 0=some x:=Ap (j:=0) rfl
theorem Rk{x y z u v:V}:BR [x,y,z,u,v] 1=some y:=Ap (j:=1) rfl
theorem RY{x y z u v:V}:BR [x,y,z,u,v] 2=some z:=Ap (j:=2) rfl
theorem Rx{x y z u v:V}:BR [x,y,z,u,v] 3=some u:=Ap (j:=3) rfl
theorem Rq{x y z u v:V}:BR [x,y,z,u,v] 4=some v:=Ap (j:=4) rfl
theorem VL (F:Ag K "step_of" "step_of" s_step_of f fd) (T1:StC K C1) (T2:StC K C2) (T3:Er K C3) (M1:Mk K C1 f1) (M2:Mk K C2 f1) (M3:Mk K C3 f2) (mC1:mg "Above" = some (.ref C1)) (mC2:mg "Beside" = some (.ref C2)) (mC3:mg "Split" = some (.ref C3))
  (G1:AH P w K mg base AM 1 f1 d1 ["self","one","other"] (Ir K)) (b1:AW K d1 ["self","one","other"] []) (G2:AH P w K mg base AM 2 f2 d2 ["self","one","other","first","second"] (J9 K)) (b2:AW K d2 ["self","one","other","first","second"] [])
  (mC:mg "NoStep" = some (.ref CE)) (xC:PySem.W.excIn K CE LJ "ValueError.__new__" = true):AH P w K mg base (Ak P w) 4 f fd ["told"] (Ku C1 C2 C3 CE):=by
 refine ED F aD (λvs H Q E h=>?_) (λcdv A outer s H vs Q E hr h=>?_)
 ·obtain⟨p,t,rfl,_⟩:=h;rfl
 obtain⟨p,t,rfl,hp,q,qn⟩:=h;have r1:=hr.mono (show 1+1<=3 by decide);have r2:=hr.mono (show 2+1<=3 by decide);refine⟨_,AS (A0 (Aq Bt (pT K (pv 0) AF) Bo (Ac _)) (AU (Ab (Hh M1 G1 r1 rfl mC1 b1 .nil Ae (AA (pT K (pv 0) AF) (AA (pT K (pv 0) AF) AI))))) A2)
  (AS (A0 (Aq Bt (pT K (pv 0) AF) Bo (Ac _)) (AU (Ab (Hh M2 G1 r1 rfl mC2 b1 .nil Ae (AA (pT K (pv 0) AF) (AA (pT K (pv 0) AF) AI))))) A2)
  (AS (A0 (Aq Bt (pT K (pv 0) AF) Bo (Ac _)) (AU (Ab (Hh M3 G2 r2 rfl mC3 b2 .nil Ae (AA (pT K (pv 0) AF) (AA (pT K (pv 0) AF) (AA (pT K (pv 0) AF) (AA (pT K (pv 0) AF) AI))))))) A2)
  (AU (Ln (E:=E) (by rfl) mC xC PySem.F.excBase_ValueError rfl Lf (AA Bo AI))))),?_⟩
 cases t with
 | ab j k =>
  have hp:H p=some (.AG [.str "above",.int j,.int k]):=hp;refine⟨_,rfl,p,_,_,_,rfl,rfl,AK.of hp,FK _ _ _,rfl,_,rfl,A8 (by decide +kernel) ?_⟩;refine⟨_,rfl,p,_,_,_,rfl,rfl,AK.of hp,HP _ _ _,_,rfl,p,_,_,_,rfl,rfl,AK.of hp,EB _ _ _,λx dx nx ndx nex=>?_⟩;refine⟨x,C1,dx,_,_,rfl,T1,AV,λH4 hx sb=>⟨rfl,?_⟩⟩;exact q x H4 (λb o e=>sb b o (A7 e nx) (by rw[Ao (A7 e nx),Ao (A7 e ndx)]; exact e)) ⟨dx,hx⟩
 | bs j k =>
  have hp:H p=some (.AG [.str "beside",.int j,.int k]):=hp;refine⟨_,rfl,p,_,_,_,rfl,rfl,AK.of hp,FK _ _ _,rfl,_,rfl,Am (by decide +kernel) ?_⟩;refine⟨_,rfl,p,_,_,_,rfl,rfl,AK.of hp,FK _ _ _,rfl,_,rfl,A8 (by decide +kernel) ?_⟩;refine⟨_,rfl,p,_,_,_,rfl,rfl,AK.of hp,HP _ _ _,_,rfl,p,_,_,_,rfl,rfl,AK.of hp,EB _ _ _,λx dx nx ndx nex=>?_⟩;refine⟨x,C2,dx,_,_,rfl,T2,AV,λH4 hx sb=>⟨rfl,?_⟩⟩;exact q x H4 (λb o e=>sb b o (A7 e nx) (by rw[Ao (A7 e nx),Ao (A7 e ndx)]; exact e)) ⟨dx,hx⟩
 | sp j k r1 r2 cv =>
  obtain⟨p1,p2,hp,h1,h2⟩:=hp;refine⟨_,rfl,p,_,_,_,rfl,rfl,AK.of hp,K5,rfl,_,rfl,Am (by decide +kernel) ?_⟩;refine⟨_,rfl,p,_,_,_,rfl,rfl,AK.of hp,K5,rfl,_,rfl,Am (by decide +kernel) ?_⟩;refine⟨_,rfl,p,_,_,_,rfl,rfl,AK.of hp,K5,rfl,_,rfl,A8 (by decide +kernel) ?_⟩;refine⟨_,rfl,p,_,_,_,rfl,rfl,AK.of hp,Rk,_,rfl,p,_,_,_,rfl,rfl,AK.of hp,RY,_,rfl,p,_,_,_,rfl,rfl,AK.of hp,Rx,_,rfl,p,_,_,_,rfl,rfl,AK.of hp,Rq,λx dx nx ndx nex=>?_⟩;refine⟨x,C3,dx,p1,p2,_,_,rfl,T3,AV,λH4 hx sb=>⟨rfl,?_⟩⟩;have s4:AQ H H4:=λb o e=>sb b o (A7 e nx) (by rw[Ao (A7 e nx),Ao (A7 e ndx)]; exact e)
  exact q x H4 s4 ⟨dx,p1,p2,hx,BO s4 h1,BO s4 h2⟩
 | no z j k =>
  obtain⟨hp,z1,z2,z3⟩:=hp;refine⟨_,rfl,p,_,_,_,rfl,rfl,AK.of hp,FK _ _ _,rfl,_,rfl,Am (λe=>z1 (by injection e)) ?_⟩;refine⟨_,rfl,p,_,_,_,rfl,rfl,AK.of hp,FK _ _ _,rfl,_,rfl,Am (λe=>z2 (by injection e)) ?_⟩;refine⟨_,rfl,p,_,_,_,rfl,rfl,AK.of hp,FK _ _ _,rfl,_,rfl,Am (λe=>z3 (by injection e)) ?_⟩;exact⟨by exact sz1,qn ⟨z,j,k,rfl⟩ H (AQ.refl _)⟩
def Bg(rows:List (List Rat)):Cp->Bool
 | .ab j k=>Cn Bz rows j k
 | .bs j k=>Cn BJ rows j k
 | .sp j k r1 r2 cv=>DF rows j k r1 r2 cv
 | .no _ _ _=>false
def FN(rows:List (List Rat)):Cp->List (List Rat)
 | .ab j k=>FW rows j.toNat k.toNat
 | .bs j k=>FW rows j.toNat k.toNat
 | .sp j k r1 r2 _=>CU rows j.toNat k.toNat r1 r2
 | .no _ _ _=>rows
def IS(W U:Rat)(rows:List (List Rat)):Cp->Prop
 | .ab _ _=>DU rows
 | .bs _ _=>DU rows
 | .sp j k r1 r2 cv=>IM W U rows j k r1 r2 cv
 | .no _ _ _=>True
def Ex:Cp->Bool
 | .no _ _ _=>true
 | _=>false
inductive C9
 | fl (rows:List (List Rat))
 | D6
 | Fi
def one(rows:List (List Rat))(t:Cp):C9:=if Ex t=true then .Fi else if Bg rows t=true then .fl (FN rows t) else .D6
def wk:List Cp->List (List Rat)->C9
 | [],r=>.fl r
 | t :: ts,r=>if Ex t=true then .Fi else if Bg r t=true then wk ts (FN r t) else .D6
def Gr(W U:Rat):List Cp->List (List Rat)->Prop
 | [],_=>True
 | t :: ts,r=>Ex t=true\/(IS W U r t/\(Bg r t=true->Gr W U ts (FN r t)))
def JN(CN CE:Addr)(W U:Rat)(H:Hp)(Q:VK)(E:XK):C9->Prop
 | .fl r=>∀b H',AQ H H'->Bi H' b W U r->Q (.ref b) H'
 | .D6=>∀H',AQ H H'->E (.ref CN) none H'
 | .Fi=>∀H',AQ H H'->E (.ref CE) none H'
theorem Yr{a x:Addr}{W U:Rat}{rows:List (List Rat)}{t:Cp}{H:Hp}{Q:VK}{E:XK}(hF:Bi H a W U rows)(hs:Ro C1 C2 C3 H x t)(ok:IS W U rows t)(q:Bg rows t=true->∀b H',AQ H H'->Bi H' b W U (FN rows t)->Q (.ref b) H')(qn:Bg rows t=false->∀H',AQ H H'->E (.ref CN) none H'):
  ∃y dx fs,V.ref x=.ref y/\fs.lookup ("done":Str)=none/\((H y=some (.A6 C1 dx fs)/\Cv C1 CN Bz [.ref x,.ref a] H Q E)\/(H y=some (.A6 C2 dx fs)/\Cv C2 CN BJ [.ref x,.ref a] H Q E)\/(H y=some (.A6 C3 dx fs)/\JH C3 CN [.ref x,.ref a] H Q E)):=by
 cases t with
 | ab j k =>
  obtain⟨dx,hx⟩:=hs;exact⟨x,dx,_,rfl,EV,.inl ⟨hx,x,a,dx,j,k,W,U,rows,rfl,hx,hF,ok,q,qn⟩⟩
 | bs j k =>
  obtain⟨dx,hx⟩:=hs;exact⟨x,dx,_,rfl,EV,.inr (.inl ⟨hx,x,a,dx,j,k,W,U,rows,rfl,hx,hF,ok,q,qn⟩)⟩
 | sp j k r1 r2 cv =>
  obtain⟨dx,p1,p2,hx,h1,h2⟩:=hs;exact⟨x,dx,_,rfl,GI,.inr (.inr ⟨hx,x,a,dx,p1,p2,j,k,W,U,rows,r1,r2,cv,rfl,hx,hF,h1,h2,ok,q,qn⟩)⟩
 | no s j k=>exact hs.elim
def Mg(CN CE:Addr):Sp:=λvs H Q E=>∃(a ps:Addr) (cs:List Addr) (ts:List Cp) (W U:Rat) (rows:List (List Rat)),vs=[.ref a,.ref ps]/\Bi H a W U rows/\H ps=some (.AG (cs.map V.ref))/\At Dn H cs ts/\Gr W U ts rows/\JN CN CE W U H Q E (wk ts rows)
theorem M5:Ar ["floor","steps","told"] ["floor","steps"] (Aj s_walked):=Aw
theorem W8{W U:Rat}{H H':Hp}{Q:VK}{E:XK}{o:C9}(s:AQ H H')(h:JN CN CE W U H Q E o):JN CN CE W U H' Q E o:=by
 cases o with
 | fl r=>exact λb H2 s2 hb=>h b H2 (s.trans s2) hb
 | D6=>exact λH2 s2=>h H2 (s.trans s2)
 | Fi=>exact λH2 s2=>h H2 (s.trans s2)
theorem Vz (F:Ag K "walked" "walked" s_walked f fd) (T1:StC K C1) (T2:StC K C2) (T3:Er K C3)
  (G2:AH P w K mg base (Ak P w) 4 f2 d2 ["told"] (Ku C1 C2 C3 CE)) (b2:AW K d2 ["told"] []) (k2:KP K f2) (m2:mg "step_of" = some (.ref f2))
  (G3:AH P w K mg base (Ak P w) 7 f3 d3 ["self","floor"] (Cv C1 CN Bz)) (b3:AW K d3 ["self","floor"] []) (e3:BW K C1 "done" f3)
  (G4:AH P w K mg base (Ak P w) 7 f4 d4 ["self","floor"] (Cv C2 CN BJ)) (b4:AW K d4 ["self","floor"] []) (e4:BW K C2 "done" f4)
  (G5:AH P w K mg base (Ak P w) 10 f5 d5 ["self","floor"] (JH C3 CN)) (b5:AW K d5 ["self","floor"] []) (e5:BW K C3 "done" f5):AH P w K mg base (Ak P w) 11 f fd ["floor","steps"] (Mg CN CE):=by
 refine ED F M5 (λvs H Q E h=>?_) (λcdv A outer s H vs Q E hr h=>?_)
 ·obtain⟨a,ps,cs,ts,W,U,rows,rfl,_⟩:=h;rfl
 obtain⟨a,ps,cs,ts,W,U,rows,rfl,hF,hps,hC,ok,q⟩:=h;have r4:=hr.mono (show 4<=10 by decide);have r7:=hr.mono (show 7<=10 by decide);refine⟨_,AS (Ce PassesOwn.leaving rfl (Qn (K:=K) (pv 1)) (Az (i:=2) M5.nd rfl (Or.inl rfl))
   (AU (Ad (i:=0) M5.nd rfl (Or.inl rfl) (Vy (E:=E) (Ah (CX:=Ak P w) (E:=E) G2 r4 (by rfl) m2 k2 b2 .nil Dy (AA (pv 2) AI)) T1.cl T2.cl T3.cl e3 e4 e5 G3 G4 G5 r7 r7 hr b3 b4 b5 Dy (AA (pv 0) AI)))))
  (AU (Ab (pv 0))),?_⟩
 have lc:cs.length=ts.length:=hC.1;refine⟨_,rfl,ps,rfl,⟨_,AK.of hps⟩,?_⟩;refine Pp (K:=K) (xs:=cs.map V.ref) (λi σ H2=>AQ H H2/\∃(b:Addr) (u:Option V) (ri:List (List Rat)),σ=[some (.ref b),some (.ref ps),u]/\Bi H2 b W U ri/\Gr W U (ts.drop i) ri/\JN CN CE W U H Q E (wk (ts.drop i) ri)) ⟨AQ.refl _,a,none,rows,rfl,hF,ok,q⟩ (λi σ H2 _ z=>AK.of (z.1 _ _ hps)) ?_ ?_
 ·rintro i y σ H2 hi ⟨s2,b,u,ri,rfl,hb,oi,qi⟩;obtain⟨d,t,rfl,_,ht,hR⟩:=hC.ref hi;have il:i<ts.length:=(List.getElem?_eq_some_iff.mp ht).1;have dr:ts.drop i=t :: ts.drop (i+1):=by
   rw[List.drop_eq_getElem_cons il];rw[List.getElem?_eq_getElem il] at ht;rw[Option.some.inj ht]
  rw[dr] at oi qi;unfold wk at qi;unfold Gr at oi;have q0:=qi;replace qi:=W8 s2 qi;refine⟨_,rfl,d,t,rfl,Ed s2 hR,λx H5 s5 hx=>?_,λz=>?_⟩
  ·have nn:Ex t=false:=by cases t <;> first | rfl | exact hx.elim
   rw[if_neg (by rw[nn]; decide)] at qi q0;rw[nn] at oi;obtain⟨ok1,ok2⟩:=oi.resolve_left (by decide);have hF5:=Bs s5 hb;obtain⟨y,dx,fs,e,l,z⟩:=Yr (CN:=CN) (Q:=λv H6=>∃b',v=.ref b'/\AQ H5 H6/\Bi H6 b' W U (FN ri t)/\Bg ri t=true) (E:=E) hF5 hx ok1 (λy b' H6 s6 h6=>⟨b',rfl,s6,h6,y⟩) (λy H6 s6=>by rw[if_neg (by rw[y]; decide)] at qi; exact qi H6 (s5.trans s6));cases e;have fin:∀(v:V) (H6:Hp),(∃b',v=.ref b'/\AQ H5 H6/\Bi H6 b' W U (FN ri t)/\Bg ri t=true)->∃b',v=.ref b'/\AQ H H6/\Bi H6 b' W U (FN ri t)/\Gr W U (ts.drop (i+1)) (FN ri t)/\JN CN CE W U H Q E (wk (ts.drop (i+1)) (FN ri t)):=by
    rintro v H6 ⟨b',rfl,s6,h6,ft⟩;rw[if_pos ft] at q0;exact⟨b',rfl,s2.trans (s5.trans s6),h6,ok2 ft,q0⟩
   rcases z with ⟨hy,z⟩ | ⟨hy,z⟩ | ⟨hy,z⟩
   ·obtain⟨p',a',dx',j,k,W',U',rows',ez,g1,g2,g3,gq,gn⟩:=z;refine⟨x,dx,fs,rfl,l,.inl ⟨hy,_,rfl,p',a',dx',j,k,W',U',rows',ez,g1,g2,g3,λy b2 H6 s6 h6=>?_,gn⟩⟩;obtain⟨b',eb,s6,hb6,o6,q6⟩:=fin _ H6 (gq y b2 H6 s6 h6);cases eb;exact⟨s6,b2,_,_,rfl,hb6,o6,q6⟩
   ·obtain⟨p',a',dx',j,k,W',U',rows',ez,g1,g2,g3,gq,gn⟩:=z;refine⟨x,dx,fs,rfl,l,.inr (.inl ⟨hy,_,rfl,p',a',dx',j,k,W',U',rows',ez,g1,g2,g3,λy b2 H6 s6 h6=>?_,gn⟩)⟩;obtain⟨b',eb,s6,hb6,o6,q6⟩:=fin _ H6 (gq y b2 H6 s6 h6);cases eb;exact⟨s6,b2,_,_,rfl,hb6,o6,q6⟩
   ·obtain⟨p',a',dx',p1,p2,j,k,W',U',rows',r1,r2,cv,ez,g1,g2,g3,g4,g5,gq,gn⟩:=z;refine⟨x,dx,fs,rfl,l,.inr (.inr ⟨hy,_,rfl,p',a',dx',p1,p2,j,k,W',U',rows',r1,r2,cv,ez,g1,g2,g3,g4,g5,λy b2 H6 s6 h6=>?_,gn⟩)⟩;obtain⟨b',eb,s6,hb6,o6,q6⟩:=fin _ H6 (gq y b2 H6 s6 h6);cases eb;exact⟨s6,b2,_,_,rfl,hb6,o6,q6⟩
  ·obtain⟨z1,z2,z3,rfl⟩:=z;exact λH6 s6=>qi H6 s6
 ·rintro σ H2 ⟨s2,b,u,ri,rfl,hb,_,qi⟩;rw[List.drop_of_length_le (by rw[List.length_map]; omega)] at qi;exact⟨_,rfl,qi b H2 s2 hb⟩
theorem Si:bootBuiltins "ValueError" = some (.type "ValueError"):=by decide +kernel
structure KitX(K:PySem.W.Frag)(C CF CN CE:Addr)(b1 b2:Bool):Prop where
 c:Fu K C
 x:PySem.W.exmOne K (.ref C) (.ref CF)=some true
 n:PySem.W.kitOne K (.ref C) (.ref CN)=some b1
 e:PySem.W.kitOne K (.ref C) (.ref CE)=some b2
 v:PySem.W.kitOne K (.ref C) (.type "ValueError")=some true
def kd:C9->Int×Int
 | .fl _=>(0,0)
 | .D6=>(1,0)
 | .Fi=>(0,1)
variable {CF:Addr}
inductive Mv(H:Hp)(pt ps:Addr)(W U:Rat)(rows:List (List Rat)):Int->C9->Prop
 | one (way:Int) (t:Cp):way=0\/way=1->Dn H pt t->(Ex t=true\/IS W U rows t)->Mv H pt ps W U rows way (one rows t)
 | all (cs:List Addr) (ts:List Cp):H ps=some (.AG (cs.map V.ref))->At Dn H cs ts->Gr W U ts rows->Mv H pt ps W U rows 2 (wk ts rows)
def Kw:Sp:=λvs H Q _=>∃(way:Int) (pt a ps:Addr) (W U:Rat) (rows:List (List Rat)) (o:C9),vs=[.int way,.ref pt,.ref a,.ref ps]/\Bi H a W U rows/\Mv H pt ps W U rows way o/\∀p H',AQ H H'->H' p=some (.AG [.int (kd o).1,.int (kd o).2])->Q (.ref p) H'
theorem K6:Ar ["_law_way","_law_told","_law_floor","_law_ahead","_law_kinds","e"] ["_law_way","_law_told","_law_floor","_law_ahead"] (Aj s_law_asked):=Aw
theorem YR (F:Ag K "_law_asked" "_law_asked" s_law_asked f fd) (T1:StC K C1) (T2:StC K C2) (T3:Er K C3)
  (G1:AH P w K mg base (Ak P w) 4 f1 d1 ["told"] (Ku C1 C2 C3 CE)) (b1:AW K d1 ["told"] []) (k1:KP K f1) (m1:mg "step_of" = some (.ref f1))
  (G2:AH P w K mg base (Ak P w) 7 f2 d2 ["self","floor"] (Cv C1 CN Bz)) (b2:AW K d2 ["self","floor"] []) (e2:BW K C1 "done" f2)
  (G3:AH P w K mg base (Ak P w) 7 f3 d3 ["self","floor"] (Cv C2 CN BJ)) (b3:AW K d3 ["self","floor"] []) (e3:BW K C2 "done" f3)
  (G4:AH P w K mg base (Ak P w) 10 f4 d4 ["self","floor"] (JH C3 CN)) (b4:AW K d4 ["self","floor"] []) (e4:BW K C3 "done" f4)
  (G5:AH P w K mg base (Ak P w) 7 f5 d5 ["self","floor"] (Eg C1 C3 CN Bz)) (b5:AW K d5 ["self","floor"] []) (e5:BW K C1 "back" f5)
  (G6:AH P w K mg base (Ak P w) 7 f6 d6 ["self","floor"] (Eg C2 C3 CN BJ)) (b6:AW K d6 ["self","floor"] []) (e6:BW K C2 "back" f6)
  (G7:AH P w K mg base (Ak P w) 10 f7 d7 ["self","floor"] (Mp C1 C2 C3 CN)) (b7:AW K d7 ["self","floor"] []) (e7:BW K C3 "back" f7)
  (G8:AH P w K mg base (Ak P w) 11 f8 d8 ["floor","steps"] (Mg CN CE)) (b8:AW K d8 ["floor","steps"] []) (k8:KP K f8) (m8:mg "walked" = some (.ref f8))
  (mF:mg "FloorError" = some (.ref CF)) (mN:mg "NoFit" = some (.ref CN)) (mE:mg "NoStep" = some (.ref CE)) (ms:mg "isinstance" = none) (mv:mg "ValueError" = none) (mi:mg "int" = none)
  (kN:KitX K CN CF CN CE true false) (kE:KitX K CE CF CN CE false true):AH P w K mg base AM 12 f fd ["_law_way","_law_told","_law_floor","_law_ahead"] Kw:=by
 refine F.ok K6 (λvs H Q E h=>?_) (λcdv A outer s H vs Q E hr h=>?_)
 ·obtain⟨way,pt,a,ps,W,U,rows,o,rfl,_⟩:=h;rfl
 obtain⟨way,pt,a,ps,W,U,rows,o,rfl,hF,hA,q⟩:=h;have r4:=hr.mono (show 4<=11 by decide);have r7:=hr.mono (show 7<=11 by decide);have r10:=hr.mono (show 10<=11 by decide);refine⟨_,AS (Ad (i:=4) K6.nd rfl (Or.inl rfl) (Ax (AA AF (AA AF AI))))
  (AS (X4 (i:=5) K6.nd rfl rfl (by rfl) mF rfl rfl
   (QF (Aq Bt (pv 0) AF (Ac _)) (Lp (Oo (L6 G1 r4 (by rfl) m1 k1 b1 .nil (AA (pv 1) AI)) T1.cl T2.cl T3.cl e2 e3 e4 G2 G3 G4 r7 r7 r10 b2 b3 b4 (AA (pv 2) AI)))
   (QF (Aq Bt (pv 0) AF (Ac _)) (Lp (Oo (L6 G1 r4 (by rfl) m1 k1 b1 .nil (AA (pv 1) AI)) T1.cl T2.cl T3.cl e5 e6 e7 G5 G6 G7 r7 r7 r10 b5 b6 b7 (AA (pv 2) AI)))
   (Lp (L6 G8 hr (by rfl) m8 k8 b8 .nil (AA (pv 2) (AA (pv 3) AI))))))
   (λa=>AU (Ad (i:=4) K6.nd rfl (Or.inl rfl) (Ax (AA (Dx OP (by rfl) mi QT (AA (BE (Le (c:=.ref CN) (cv:=.ref CN) λ_ z=>z) (by rfl) ms LV (AA (pv 5) (AA (L4 (v:=.ref CN) (by rfl) mN rfl) AI))) AI)) (AA (Dx OP (by rfl) mi QT (AA (E8 (BE (Le (c:=.ref CE) (cv:=.ref CE) λ_ z=>z) (by rfl) ms LV (AA (pv 5) (AA (L4 (v:=.ref CE) (by rfl) mE rfl) AI))) (Dg (BE (Le (c:=.ty "ValueError") (cv:=.type "ValueError") λ_ z=>z) (by rfl) ms LV (AA (pv 5) (AA (WH (v:=.ty "ValueError") (by rfl) mv Si rfl) AI))))) AI)) AI))))))
  (AU (Ab (pv 4)))),?_⟩
 refine⟨by exact sz2,λz hz=>?_⟩;have s1:=AY hz (.AG [.int 0,.int 0]);have gz:AJ H z (.AG [.int 0,.int 0]) z=some (.AG [.int 0,.int 0]):=AV;generalize AJ H z (.AG [.int 0,.int 0])=H1 at s1 gz;cases hA with
 | one _ t hw hT hO =>
  rcases hw with rfl | rfl
  ·refine⟨_,rfl,rfl,_,rfl,A8 rfl ?_⟩;refine⟨_,rfl,pt,t,rfl,Ed s1 hT,λx H2 s2 hx=>?_,λz=>?_⟩
   ·have nn:Ex t=false:=by cases t <;> first | rfl | exact hx.elim
    have ok:=hO.resolve_left (by rw[nn]; decide);have s12:=s1.trans s2;have hF2:=Bs s12 hF;unfold one at q;rw[if_neg (by rw[nn]; decide)] at q;cases t with
    | ab j k =>
     obtain⟨dx,hx⟩:=hx;refine⟨x,dx,_,rfl,EV,.inl ⟨hx,_,rfl,x,a,dx,j,k,W,U,rows,rfl,hx,hF2,ok,λy b H3 s3 hb=>?_,λy H3 s3=>?_⟩⟩
     ·rw[if_pos (show Bg rows (.ab j k)=true from y)] at q;exact⟨_,rfl,q z H3 (s1.trans (s2.trans s3)) (s3 _ _ (s2 _ _ gz))⟩
     ·rw[if_neg (show ¬Bg rows (.ab j k)=true by rw[show Bg rows (.ab j k)=false from y]; decide)] at q;replace s3:=s2.trans s3;refine⟨kN.x,λe he=>?_⟩;have s5:=AY he (A9 e (.ref CN) none);have x2:(AJ H3 e (A9 e (.ref CN) none)) e=some (A9 e (.ref CN) none):=AV;generalize AJ H3 e (A9 e (.ref CN) none)=H5 at s5 x2;refine⟨_,rfl,e,CN,none,true,rfl,x2,kN.c,kN.n,.inr ⟨_,rfl,_,rfl,e,CN,none,false,rfl,x2,kN.c,kN.e,_,rfl,BX (.inr ⟨_,rfl,by exact sz2,λy hy=>?_⟩)⟩⟩;exact⟨_,rfl,q y _ (s1.trans (s3.trans (s5.trans (AY hy _)))) (by rw[show kd (C9.D6)=(1,0) from rfl]; exact AV)⟩
    | bs j k =>
     obtain⟨dx,hx⟩:=hx;refine⟨x,dx,_,rfl,EV,.inr (.inl ⟨hx,_,rfl,x,a,dx,j,k,W,U,rows,rfl,hx,hF2,ok,λy b H3 s3 hb=>?_,λy H3 s3=>?_⟩)⟩
     ·rw[if_pos (show Bg rows (.bs j k)=true from y)] at q;exact⟨_,rfl,q z H3 (s1.trans (s2.trans s3)) (s3 _ _ (s2 _ _ gz))⟩
     ·rw[if_neg (show ¬Bg rows (.bs j k)=true by rw[show Bg rows (.bs j k)=false from y]; decide)] at q;replace s3:=s2.trans s3;refine⟨kN.x,λe he=>?_⟩;have s5:=AY he (A9 e (.ref CN) none);have x2:(AJ H3 e (A9 e (.ref CN) none)) e=some (A9 e (.ref CN) none):=AV;generalize AJ H3 e (A9 e (.ref CN) none)=H5 at s5 x2;refine⟨_,rfl,e,CN,none,true,rfl,x2,kN.c,kN.n,.inr ⟨_,rfl,_,rfl,e,CN,none,false,rfl,x2,kN.c,kN.e,_,rfl,BX (.inr ⟨_,rfl,by exact sz2,λy hy=>?_⟩)⟩⟩;exact⟨_,rfl,q y _ (s1.trans (s3.trans (s5.trans (AY hy _)))) (by rw[show kd (C9.D6)=(1,0) from rfl]; exact AV)⟩
    | sp j k r1 r2 cv =>
     obtain⟨dx,p1,p2,hx,h1,h2⟩:=hx;refine⟨x,dx,_,rfl,GI,.inr (.inr ⟨hx,_,rfl,x,a,dx,p1,p2,j,k,W,U,rows,r1,r2,cv,rfl,hx,hF2,h1,h2,ok,λy b H3 s3 hb=>?_,λy H3 s3=>?_⟩)⟩
     ·rw[if_pos (show Bg rows (.sp j k r1 r2 cv)=true from y)] at q;exact⟨_,rfl,q z H3 (s1.trans (s2.trans s3)) (s3 _ _ (s2 _ _ gz))⟩
     ·rw[if_neg (show ¬Bg rows (.sp j k r1 r2 cv)=true by rw[show Bg rows (.sp j k r1 r2 cv)=false from y]; decide)] at q;replace s3:=s2.trans s3;refine⟨kN.x,λe he=>?_⟩;have s5:=AY he (A9 e (.ref CN) none);have x2:(AJ H3 e (A9 e (.ref CN) none)) e=some (A9 e (.ref CN) none):=AV;generalize AJ H3 e (A9 e (.ref CN) none)=H5 at s5 x2;refine⟨_,rfl,e,CN,none,true,rfl,x2,kN.c,kN.n,.inr ⟨_,rfl,_,rfl,e,CN,none,false,rfl,x2,kN.c,kN.e,_,rfl,BX (.inr ⟨_,rfl,by exact sz2,λy hy=>?_⟩)⟩⟩;exact⟨_,rfl,q y _ (s1.trans (s3.trans (s5.trans (AY hy _)))) (by rw[show kd (C9.D6)=(1,0) from rfl]; exact AV)⟩
    | no _ _ _=>exact hx.elim
   ·obtain⟨z1,z2,z3,rfl⟩:=z;intro H3 s3;refine⟨kE.x,λe he=>?_⟩;have s5:=AY he (A9 e (.ref CE) none);have x2:(AJ H3 e (A9 e (.ref CE) none)) e=some (A9 e (.ref CE) none):=AV;generalize AJ H3 e (A9 e (.ref CE) none)=H5 at s5 x2;refine⟨_,rfl,e,CE,none,false,rfl,x2,kE.c,kE.n,.inr ⟨_,rfl,_,rfl,e,CE,none,true,rfl,x2,kE.c,kE.e,_,rfl,Bk ⟨_,rfl,e,CE,none,true,rfl,x2,kE.c,kE.v,.inr ⟨_,rfl,by exact sz2,λy hy=>?_⟩⟩⟩⟩;exact⟨_,rfl,q y _ (s1.trans (s3.trans (s5.trans (AY hy _)))) (by rw[show kd (one rows (.no z1 z2 z3))=(0,1) from rfl]; exact AV)⟩
  ·refine⟨_,rfl,rfl,_,rfl,Am (by decide) ⟨_,rfl,rfl,_,rfl,A8 rfl ?_⟩⟩;refine⟨_,rfl,pt,t,rfl,Ed s1 hT,λx H2 s2 hx=>?_,λz=>?_⟩
   ·have nn:Ex t=false:=by cases t <;> first | rfl | exact hx.elim
    have ok:=hO.resolve_left (by rw[nn]; decide);have s12:=s1.trans s2;have hF2:=Bs s12 hF;unfold one at q;rw[if_neg (by rw[nn]; decide)] at q;cases t with
    | ab j k =>
     obtain⟨dx,hx⟩:=hx;refine⟨x,dx,_,rfl,EV,.inl ⟨hx,_,rfl,x,a,dx,j,k,W,U,rows,rfl,hx,hF2,ok,λy x3 dx3 p13 p23 H3 s3 hx3 hp13 hp23=>?_,λy H3 s3=>?_⟩⟩
     ·rw[if_pos (show Bg rows (.ab j k)=true from y)] at q;exact⟨_,rfl,q z H3 (s1.trans (s2.trans s3)) (s3 _ _ (s2 _ _ gz))⟩
     ·rw[if_neg (show ¬Bg rows (.ab j k)=true by rw[show Bg rows (.ab j k)=false from y]; decide)] at q;replace s3:=s2.trans s3;refine⟨kN.x,λe he=>?_⟩;have s5:=AY he (A9 e (.ref CN) none);have x2:(AJ H3 e (A9 e (.ref CN) none)) e=some (A9 e (.ref CN) none):=AV;generalize AJ H3 e (A9 e (.ref CN) none)=H5 at s5 x2;refine⟨_,rfl,e,CN,none,true,rfl,x2,kN.c,kN.n,.inr ⟨_,rfl,_,rfl,e,CN,none,false,rfl,x2,kN.c,kN.e,_,rfl,BX (.inr ⟨_,rfl,by exact sz2,λy hy=>?_⟩)⟩⟩;exact⟨_,rfl,q y _ (s1.trans (s3.trans (s5.trans (AY hy _)))) (by rw[show kd (C9.D6)=(1,0) from rfl]; exact AV)⟩
    | bs j k =>
     obtain⟨dx,hx⟩:=hx;refine⟨x,dx,_,rfl,EV,.inr (.inl ⟨hx,_,rfl,x,a,dx,j,k,W,U,rows,rfl,hx,hF2,ok,λy x3 dx3 p13 p23 H3 s3 hx3 hp13 hp23=>?_,λy H3 s3=>?_⟩)⟩
     ·rw[if_pos (show Bg rows (.bs j k)=true from y)] at q;exact⟨_,rfl,q z H3 (s1.trans (s2.trans s3)) (s3 _ _ (s2 _ _ gz))⟩
     ·rw[if_neg (show ¬Bg rows (.bs j k)=true by rw[show Bg rows (.bs j k)=false from y]; decide)] at q;replace s3:=s2.trans s3;refine⟨kN.x,λe he=>?_⟩;have s5:=AY he (A9 e (.ref CN) none);have x2:(AJ H3 e (A9 e (.ref CN) none)) e=some (A9 e (.ref CN) none):=AV;generalize AJ H3 e (A9 e (.ref CN) none)=H5 at s5 x2;refine⟨_,rfl,e,CN,none,true,rfl,x2,kN.c,kN.n,.inr ⟨_,rfl,_,rfl,e,CN,none,false,rfl,x2,kN.c,kN.e,_,rfl,BX (.inr ⟨_,rfl,by exact sz2,λy hy=>?_⟩)⟩⟩;exact⟨_,rfl,q y _ (s1.trans (s3.trans (s5.trans (AY hy _)))) (by rw[show kd (C9.D6)=(1,0) from rfl]; exact AV)⟩
    | sp j k r1 r2 cv =>
     obtain⟨dx,p1,p2,hx,h1,h2⟩:=hx;refine⟨x,dx,_,rfl,GI,.inr (.inr ⟨hx,_,rfl,x,a,dx,p1,p2,j,k,W,U,rows,r1,r2,cv,rfl,hx,hF2,h1,h2,ok,λy x3 dx3 H3 s3 hx3=>?_,λy H3 s3=>?_⟩)⟩
     ·rw[if_pos (show Bg rows (.sp j k r1 r2 cv)=true from y)] at q;exact⟨_,rfl,q z H3 (s1.trans (s2.trans s3)) (s3 _ _ (s2 _ _ gz))⟩
     ·rw[if_neg (show ¬Bg rows (.sp j k r1 r2 cv)=true by rw[show Bg rows (.sp j k r1 r2 cv)=false from y]; decide)] at q;replace s3:=s2.trans s3;refine⟨kN.x,λe he=>?_⟩;have s5:=AY he (A9 e (.ref CN) none);have x2:(AJ H3 e (A9 e (.ref CN) none)) e=some (A9 e (.ref CN) none):=AV;generalize AJ H3 e (A9 e (.ref CN) none)=H5 at s5 x2;refine⟨_,rfl,e,CN,none,true,rfl,x2,kN.c,kN.n,.inr ⟨_,rfl,_,rfl,e,CN,none,false,rfl,x2,kN.c,kN.e,_,rfl,BX (.inr ⟨_,rfl,by exact sz2,λy hy=>?_⟩)⟩⟩;exact⟨_,rfl,q y _ (s1.trans (s3.trans (s5.trans (AY hy _)))) (by rw[show kd (C9.D6)=(1,0) from rfl]; exact AV)⟩
    | no _ _ _=>exact hx.elim
   ·obtain⟨z1,z2,z3,rfl⟩:=z;intro H3 s3;refine⟨kE.x,λe he=>?_⟩;have s5:=AY he (A9 e (.ref CE) none);have x2:(AJ H3 e (A9 e (.ref CE) none)) e=some (A9 e (.ref CE) none):=AV;generalize AJ H3 e (A9 e (.ref CE) none)=H5 at s5 x2;refine⟨_,rfl,e,CE,none,false,rfl,x2,kE.c,kE.n,.inr ⟨_,rfl,_,rfl,e,CE,none,true,rfl,x2,kE.c,kE.e,_,rfl,Bk ⟨_,rfl,e,CE,none,true,rfl,x2,kE.c,kE.v,.inr ⟨_,rfl,by exact sz2,λy hy=>?_⟩⟩⟩⟩;exact⟨_,rfl,q y _ (s1.trans (s3.trans (s5.trans (AY hy _)))) (by rw[show kd (one rows (.no z1 z2 z3))=(0,1) from rfl]; exact AV)⟩
 | all cs ts hps hC ok =>
  refine⟨_,rfl,rfl,_,rfl,Am (by decide) ⟨_,rfl,rfl,_,rfl,Am (by decide) ?_⟩⟩;refine⟨_,rfl,_,rfl,a,ps,cs,ts,W,U,rows,rfl,Bs s1 hF,s1 _ _ hps,hC.keep Ed s1,ok,?_⟩;cases hw:wk ts rows with
  | fl r=>exact λb H3 s3 hb=>⟨_,rfl,q z H3 (s1.trans s3) (by rw[hw]; exact s3 _ _ gz)⟩
  | D6 =>
   intro H3 s3;refine⟨kN.x,λe he=>?_⟩;have s5:=AY he (A9 e (.ref CN) none);have x2:(AJ H3 e (A9 e (.ref CN) none)) e=some (A9 e (.ref CN) none):=AV;generalize AJ H3 e (A9 e (.ref CN) none)=H5 at s5 x2;refine⟨_,rfl,e,CN,none,true,rfl,x2,kN.c,kN.n,.inr ⟨_,rfl,_,rfl,e,CN,none,false,rfl,x2,kN.c,kN.e,_,rfl,BX (.inr ⟨_,rfl,by exact sz2,λy hy=>?_⟩)⟩⟩;exact⟨_,rfl,q y _ (s1.trans (s3.trans (s5.trans (AY hy _)))) (by rw[hw,show kd C9.D6=(1,0) from rfl]; exact AV)⟩
  | Fi =>
   intro H3 s3;refine⟨kE.x,λe he=>?_⟩;have s5:=AY he (A9 e (.ref CE) none);have x2:(AJ H3 e (A9 e (.ref CE) none)) e=some (A9 e (.ref CE) none):=AV;generalize AJ H3 e (A9 e (.ref CE) none)=H5 at s5 x2;refine⟨_,rfl,e,CE,none,false,rfl,x2,kE.c,kE.n,.inr ⟨_,rfl,_,rfl,e,CE,none,true,rfl,x2,kE.c,kE.e,_,rfl,Bk ⟨_,rfl,e,CE,none,true,rfl,x2,kE.c,kE.v,.inr ⟨_,rfl,by exact sz2,λy hy=>?_⟩⟩⟩⟩;exact⟨_,rfl,q y _ (s1.trans (s3.trans (s5.trans (AY hy _)))) (by rw[hw,show kd C9.Fi=(0,1) from rfl]; exact AV)⟩
end
abbrev Qq(z:Int):Prop:=0<=z/\z<2147483629
theorem Qs{T R:Prop}(m:T->R)(r:T):R:=m r
abbrev Bx:Type:=AE
def A4(H:Hp)(p:Addr)(b:Bx):Prop:=H p=some (.AG [.int b.1,.int b.2.1,.int b.2.2.1,.int b.2.2.2])
theorem D3:Mo A4:=λs h=>s _ _ h
theorem A4.del{H:Hp}{a p:Addr}{b:Bx}{ys:List V}(h:A4 H p b)(e:H a=some (.AN ys)):A4 (del H a) p b:=Fj h (λz=>by rw[z] at h; unfold A4 at h; rw[e] at h; cases h)
theorem J3{H:Hp}{p:Addr}(hp:H p=none)(a b c d:Int):∃H',AJ H p (.AG [.int a,.int b,.int c,.int d])=H'/\AQ H H'/\A4 H' p (a,b,c,d):=⟨_,rfl,AY hp _,AV⟩
theorem EZ{H:Hp}{p:Addr}(hp:H p=none)(vs:List V):∃H',AJ H p (.AN vs)=H'/\AQ H H'/\H' p=some (.AN vs):=⟨_,rfl,AY hp _,AV⟩
theorem Ge(x y z u:V):BR [x,y,z,u] 0=some x:=Ap (j:=0) rfl
theorem GA(x y z u:V):BR [x,y,z,u] 1=some y:=Ap (j:=1) rfl
theorem Gn(x y z u:V):BR [x,y,z,u] 2=some z:=Ap (j:=2) rfl
theorem HH(x y z u:V):BR [x,y,z,u] 3=some u:=Ap (j:=3) rfl
section
variable {P:Program} {w:World} {K:PySem.W.Frag} {mg:Str->Option Value} {base:Heap} {f g h f1 f2 f3:Addr} {fd gd hd d1 d2 d3:FuncData}
inductive P6(K:PySem.W.Frag)(vs:List V)(H:Hp)(Q:VK):Prop
 | mk (a:Addr) (ns:List Int) (k:Int) (h_0:vs=[.ref a,.int k]) (h_1:IL K H a ns) (h_2:0<=k) (h_3:∀z,Qq z->Q (.int z) H):P6 K vs H Q
def Ho(K:PySem.W.Frag):Sp:=λvs H Q _=>P6 K vs H Q
theorem NT:Ar ["_law_script","_law_k","_law_cell"] ["_law_script","_law_k"] (Aj sCellAt):=Aw
theorem Wz(F:Ag K "_law_cell_at" "_law_cell_at" sCellAt f fd)(ml:mg "len" = none):AH P w K mg base AM 1 f fd ["_law_script","_law_k"] (Ho K):=by
 refine F.ok NT (λvs H Q E h=>?_) (λcdv A outer s H vs Q E hr h=>?_)
 ·obtain⟨a,ns,k,rfl,_⟩:=h;rfl
 obtain⟨a,ns,k,rfl,⟨hS,hl⟩,h0,q⟩:=h;refine⟨_,AS (Ad (i:=2) NT.nd rfl (Or.inl rfl) AF)
  (AS (A0 (Aq Cy (pv 1) (BE (B6 (K:=K)) (by rfl) ml B7 (AA (pv 0) AI)) (Ac _))
   (AU (Ad (i:=2) NT.nd rfl (Or.inl rfl) (AX Bw (pL K (pv 0) (pv 1)) (AX YM AF AF)))) A2)
  (AU (Ab (AX Bw (AX MD (AX Bw (AX BU (AX MD (pv 2) AF) (AX MD AF (pv 1))) AF) AF) AF)))),?_⟩
 refine⟨_,rfl,_,rfl,a,_,rfl,.inl hS,_,_,rfl,rfl,_,rfl,?_⟩;have fin:∀x:Int,HQ (BK (rI (λ_ j=>0<j) λi j=>.int (i % j)) (BK (rI IF λi j=>.int (i*j)) (BK (rI (λ_ j=>0<j) λi j=>.int (i % j)) (BK (Ey λi j=>.int (i+j)) (BK (rI IF λi j=>.int (i*j)) (Al 2) (tC (.int 48271))) (BK (rI IF λi j=>.int (i*j)) (tC (.int 16807)) (Al 1))) (tC (.int 2147483647))) (tC (.int 69621))) (tC (.int 2147483629)))
   { nx:=λ_ H'=>Q .An H',rt:=Q } [some (.ref a),some (.int k),some (.int x)] H:=λx =>
  ⟨_,rfl,_,_,rfl,rfl,.inr ⟨by decide,by decide⟩,_,rfl,_,_,rfl,rfl,.inl ⟨by decide,by decide⟩,_,_,rfl,rfl,_,_,rfl,rfl,(show(0:Int)<2147483647 by decide),_,_,rfl,rfl,.inr ⟨by decide,by decide⟩,_,_,rfl,rfl,(show(0:Int)<2147483629 by decide),q _ ⟨Int.emod_nonneg _ (by decide),Int.emod_lt_of_pos _ (by decide)⟩⟩
 by_cases hk:k<(((ns.map V.int).length:Nat):Int)
 ·refine A8 hk ?_;rw[List.length_map] at hk;have hk':k.toNat<ns.length:=by omega
  have e:BR (ns.map V.int) ((k.toNat:Nat):Int)=some (.int ns[k.toNat]):=Ap (by rw[List.getElem?_map,List.getElem?_eq_getElem hk']; rfl);rw[show((k.toNat:Nat):Int)=k by omega] at e;exact⟨_,rfl,_,rfl,a,_,_,_,rfl,rfl,hS,e,_,_,rfl,rfl,⟨by decide,by decide,by decide⟩,_,_,rfl,rfl,(show(0:Int)<10 ^ ((18:Int).toNat) by decide),fin _⟩
 ·exact Am hk (fin _)
inductive QN(vs:List V)(H:Hp)(Q:VK):Prop
 | mk (t b:Int) (h_0:vs=[.int t,.int b]) (h_1:0<b) (h_2:B3 b) (h_3:NN H Q ((t:Rat) / (b:Rat))):QN vs H Q
def Kp:Sp:=λvs H Q _=>QN vs H Q
theorem IE:Ar ["_law_top","_law_bottom","_law_a","_law_b","_law_rest"] ["_law_top","_law_bottom"] (Aj s_law_lowest):=Aw
theorem YV(a:Int):(if a<0 then -a else a)=(a.natAbs:Int):=by split <;> omega
theorem Vf{x y:Int}(hy:0<y):Int.gcd y (x % y)=Int.gcd x y:=by
 have:=Oy x y
 rwa [Int.fmod_eq_emod_of_nonneg x (Int.le_of_lt hy)] at this
theorem Xv(F:Ag K "_law_lowest" "_law_lowest" s_law_lowest f fd)(ma:mg "abs" = none):AH P w K mg base AM 1 f fd ["_law_top","_law_bottom"] Kp:=by
 refine F.ok IE (λvs H Q E h=>?_) (λcdv A outer s H vs Q E hr h=>?_)
 ·obtain⟨t,b,rfl,_⟩:=h;rfl
 obtain⟨t,b,rfl,hb,bb,q⟩:=h;refine⟨_,AS (Ad (i:=2) IE.nd rfl (Or.inl rfl) (BE Ot (by rfl) ma YQ (AA (pv 0) AI)))
  (AS (Ad (i:=3) IE.nd rfl (Or.inl rfl) (pv 1))
  (AS (Od PassesOwn.never (Aq EO (pv 3) AF (Ac _))
   (AS (Ad (i:=4) IE.nd rfl (Or.inl rfl) (AX Bw (pv 2) (pv 3)))
   (AS (Ad (i:=2) IE.nd rfl (Or.inl rfl) (pv 3))
   (AU (Ad (i:=3) IE.nd rfl (Or.inl rfl) (pv 4))))))
  (AU (Ab (Ax (AA (AX He (pv 0) (pv 2)) (AA (AX He (pv 1) (pv 2)) AI))))))),?_⟩
 refine⟨_,rfl,t,rfl,_,rfl,?_⟩;rw[YV];refine PH (λσ H2=>∃x y r,σ=[some (.int t),some (.int b),some (.int x),some (.int y),r]/\H2=H/\0<=x/\0<=y/\Int.gcd x y=Int.gcd t b) (λσ _=>match σ with | [_,_,_,some (.int y),_]=>y.natAbs | _=>0) ⟨_,_,none,rfl,rfl,by omega,by omega,by unfold Int.gcd; simp⟩ ?_ ?_
 ·rintro σ H2 ⟨x,y,r,rfl,rfl,x0,y0,gg⟩;refine⟨_,rfl,_,_,rfl,rfl,_,rfl,?_⟩;by_cases hy:(0:Int)<y
  ·refine A8 hy ?_;have m0:=Int.emod_nonneg x (Int.ne_of_gt hy);have m1:=Int.emod_lt_of_pos x hy;refine⟨_,rfl,_,rfl,_,_,rfl,rfl,hy,_,rfl,_,rfl,⟨y,x % y,_,rfl,rfl,y0,m0,(Vf hy).trans gg⟩,?_⟩;show(x % y).natAbs<y.natAbs;omega
  ·refine Am hy ?_;have hy:y=0:=by omega
   subst hy;have gx:x=(Int.gcd t b:Int):=by
    have:=Pd gg
    rw[if_neg (by omega)] at this;exact this
   have pe:Mth.part t b=x:=by unfold Mth.part; rw[if_neg (by omega),gx]
   have gp:0<Int.gcd t b:=Mth.Jz t b (by omega);have hx:Hw t x:=⟨by omega,by rw[<-pe]; exact Nat.lt_of_le_of_lt (Pk t b (by omega)) bb⟩;have ef:=IY t b (by omega);unfold BA at ef;rw[pe] at ef;have e1:=congrArg Prod.fst ef;have e2:=congrArg Prod.snd ef;simp only at e1 e2;refine⟨_,rfl,_,rfl,_,_,rfl,rfl,hx,_,rfl,_,rfl,_,_,rfl,rfl,hx,by exact sz2,?_⟩
   (try dsimp only)
   rw[e1,e2];exact q
 ·rintro σ H2 Q1 Q2 hq ⟨v,e,i,j,e1,e2,b,eb,z⟩;exact⟨v,e,i,j,e1,e2,b,eb,hq _ _ z⟩
inductive QD(vs:List V)(H:Hp)(Q:VK):Prop
 | mk (lo hi c:Int) (h_0:vs=[.int lo,.int hi,.int c]) (h_1:lo+3<=hi) (h_2:∀x y:Int,lo<x->x<y->y<hi->∀p,H p=none->Q (.ref p) (AJ H p (.AG [.int x,.int y]))):QD vs H Q
def MW:Sp:=λvs H Q _=>QD vs H Q
theorem Rc:Ar ["_law_low","_law_high","_law_cell","_law_first"] ["_law_low","_law_high","_law_cell"] (Aj s_law_two):=Aw
theorem Xs(F:Ag K "_law_two" "_law_two" s_law_two f fd):AH P w K mg base AM 1 f fd ["_law_low","_law_high","_law_cell"] MW:=by
 refine F.ok Rc (λvs H Q E h=>?_) (λcdv A outer s H vs Q E hr h=>?_)
 ·obtain⟨lo,hi,c,rfl,_⟩:=h;rfl
 obtain⟨lo,hi,c,rfl,hlh,q⟩:=h;refine⟨_,AS (Ad (i:=3) Rc.nd rfl (Or.inl rfl) (AX BU (AX BU (pv 0) AF) (AX Bw (pv 2) (AX CV (AX CV (pv 1) (pv 0)) AF))))
  (AU (Ab (Ax (AA (pv 3) (AA (AX BU (AX BU (pv 3) AF) (AX Bw (AX E3 (pv 2) AF) (AX CV (AX CV (pv 1) (pv 3)) AF))) AI))))),?_⟩
 have h1:(0:Int)<hi-lo-2:=by omega
 have a0:=Int.emod_nonneg c (Int.ne_of_gt h1);have a1:=Int.emod_lt_of_pos c h1;refine⟨_,rfl,_,_,rfl,rfl,_,rfl,_,rfl,_,rfl,_,_,rfl,rfl,_,_,rfl,rfl,_,_,rfl,rfl,h1,_,_,rfl,rfl,?_⟩
 (try dsimp only)
 generalize hx:lo+1+c % (hi-lo-2)=x;have h2:(0:Int)<hi-x-1:=by omega
 have b0:=Int.emod_nonneg (c / 7) (Int.ne_of_gt h2);have b1:=Int.emod_lt_of_pos (c / 7) h2;exact⟨_,rfl,_,rfl,_,_,rfl,rfl,_,rfl,_,_,rfl,rfl,⟨by decide,by decide⟩,_,rfl,_,rfl,_,_,rfl,rfl,_,_,rfl,rfl,_,_,rfl,rfl,h2,_,_,rfl,rfl,by exact sz2,q x _ (by omega) (by omega) (by omega)⟩
abbrev SA(H:Hp)(Q:VK)(b:Bx)(n m:Nat):Prop:=∀(p:Addr) (H':Hp) (bs:List Bx),AQ H H'->BV A4 H' p bs->n<=bs.length->bs.length<=m->FD b bs->Q (.ref p) H'
inductive PM(vs:List V)(H:Hp)(Q:VK):Prop
 | mk (pb px py:Addr) (b:Bx) (x0 x1 y0 y1 way:Int) (h_0:vs=[.ref pb,.ref px,.ref py,.int way]) (h_1:A4 H pb b) (h_2:H px=some (.AG [.int x0,.int x1])) (h_3:H py=some (.AG [.int y0,.int y1])) (h_4:(b.l<x0/\x0<x1/\x1<b.r/\b.d<y0/\y0<y1/\y1<b.u)) (h_5:SA H Q b 5 5):PM vs H Q
def Lx:Sp:=λvs H Q _=>PM vs H Q
theorem HK:Ar ["_law_box","_law_x","_law_y","_law_way","_law_left","_law_low","_law_right","_law_high","_law_outer"] ["_law_box","_law_x","_law_y","_law_way"] (Aj s_law_wheel):=Aw
set_option maxHeartbeats 4000000 in
theorem Vq(F:Ag K "_law_wheel" "_law_wheel" s_law_wheel f fd):AH P w K mg base AM 1 f fd ["_law_box","_law_x","_law_y","_law_way"] Lx:=by
 refine F.ok HK (λvs H Q E h=>?_) (λcdv A outer s H vs Q E hr h=>?_)
 ·obtain⟨pb,px,py,b,x0,x1,y0,y1,way,rfl,_⟩:=h;rfl
 obtain⟨pb,px,py,⟨l,lo,r,hi⟩,x0,x1,y0,y1,way,rfl,hb,hx,hy,⟨i1,i2,i3,i4,i5,i6⟩,q⟩:=h;dsimp only[AE.l,AE.d,AE.r,AE.u] at i1 i2 i3 i4 i5 i6;refine⟨_,AS (E7 (pv 0) (D7 (n:=4) (K:=K) rfl (BQ (Az (i:=4) HK.nd rfl (Or.inl rfl)) (BQ (Az (i:=5) HK.nd rfl (Or.inl rfl)) (BQ (Az (i:=6) HK.nd rfl (Or.inl rfl)) (BQ (Az (i:=7) HK.nd rfl (Or.inl rfl)) D0))))))
  (AS (A0 (Aq Bt (pv 3) AF (Ac _))
   (AU (Ad (i:=8) HK.nd rfl (Or.inl rfl) (DC (AA (Ax (AA (pv 4) (AA (pv 5) (AA (pT K (pv 1) AF) (AA (pT K (pv 2) AF) AI)))))
    (AA (Ax (AA (pT K (pv 1) AF) (AA (pv 5) (AA (pv 6) (AA (pT K (pv 2) AF) AI)))))
    (AA (Ax (AA (pT K (pv 1) AF) (AA (pT K (pv 2) AF) (AA (pv 6) (AA (pv 7) AI)))))
    (AA (Ax (AA (pv 4) (AA (pT K (pv 2) AF) (AA (pT K (pv 1) AF) (AA (pv 7) AI))))) AI)))))))
   (AU (Ad (i:=8) HK.nd rfl (Or.inl rfl) (DC (AA (Ax (AA (pT K (pv 1) AF) (AA (pv 5) (AA (pv 6) (AA (pT K (pv 2) AF) AI)))))
    (AA (Ax (AA (pT K (pv 1) AF) (AA (pT K (pv 2) AF) (AA (pv 6) (AA (pv 7) AI)))))
    (AA (Ax (AA (pv 4) (AA (pT K (pv 2) AF) (AA (pT K (pv 1) AF) (AA (pv 7) AI)))))
    (AA (Ax (AA (pv 4) (AA (pv 5) (AA (pT K (pv 1) AF) (AA (pT K (pv 2) AF) AI))))) AI))))))))
  (AU (Ab (AX Ec (pv 8) (DC (AA (Ax (AA (pT K (pv 1) AF) (AA (pT K (pv 2) AF) (AA (pT K (pv 1) AF) (AA (pT K (pv 2) AF) AI))))) AI)))))),?_⟩
 refine⟨_,rfl,pb,_,rfl,AK.of hb,rfl,_,_,rfl,_,_,rfl,_,_,rfl,_,_,rfl,rfl,?_⟩;have fin:∀(H1:Hp) (p:Addr) (cs:List Addr) (bs:List Bx),AQ H H1->H1 p=some (.AN (cs.map V.ref))->At A4 H1 cs bs->bs.length=4->FD (l,lo,r,hi) (bs++[(x0,y0,x1,y1)]) →
   HQ (BK R4 (Al 8) (Rg (Ay (FL (Ay (BK (Ei K) (Al 1) (tC (.int 0))) (Ay (BK (Ei K) (Al 2) (tC (.int 0))) (Ay (BK (Ei K) (Al 1) (tC (.int 1))) (Ay (BK (Ei K) (Al 2) (tC (.int 1))) Bc))))) Bc)))
   { nx:=λ_ H'=>Q .An H',rt:=Q } [some (.ref pb),some (.ref px),some (.ref py),some (.int way),some (.int l),some (.int lo),some (.int r),some (.int hi),some (.ref p)] H1:=by
  intro H1 p cs bs s1 hp hA h4 hk;refine⟨_,rfl,_,rfl,px,_,_,_,rfl,rfl,AK.of (s1 _ _ hx),C8,_,rfl,py,_,_,_,rfl,rfl,AK.of (s1 _ _ hy),C8,_,rfl,px,_,_,_,rfl,rfl,AK.of (s1 _ _ hx),Cb,_,rfl,py,_,_,_,rfl,rfl,AK.of (s1 _ _ hy),Cb,by exact CL,λc hc=>?_⟩;have s2:=AY hc (.AG [.int x0,.int y0,.int x1,.int y1]);have f2:A4 (AJ H1 c (.AG [.int x0,.int y0,.int x1,.int y1])) c (x0,y0,x1,y1):=AV
  (try dsimp only)
  generalize AJ H1 c (.AG [.int x0,.int y0,.int x1,.int y1])=H2 at s2 f2;refine⟨by exact sz1,λc2 hc2=>?_⟩;have s3:=AY hc2 (.AN [.ref c]);have f3:(AJ H2 c2 (.AN [.ref c])) c2=some (.AN [.ref c]):=AV
  try dsimp only
  generalize AJ H2 c2 (.AN [.ref c])=H3 at s3 f3;have s23:=s2.trans s3;have lc:cs.length=4:=by rw[hA.1]; exact h4
  refine⟨p,c2,_,_,rfl,rfl,s23 _ _ hp,f3,by rw[List.length_map]; exact ES (by simp; omega),λc4 hc4=>?_⟩;have s4:=AY hc4 (.AN (cs.map V.ref++[.ref c]));refine q c4 _ (bs++[(x0,y0,x1,y1)]) (s1.trans (s23.trans s4)) ⟨cs++[c],by rw[AV]; simp,((hA.keep D3 s23).snoc (s3 _ _ f2)).keep D3 s4⟩ (by simp[h4]) (by simp[h4]) hk
 refine⟨_,rfl,rfl,_,rfl,?_⟩;refine F0 (λ_=>?_) (λ_=>?_)
 ·refine⟨_,rfl,_,rfl,_,rfl,px,_,_,_,rfl,rfl,AK.of hx,Cb,_,rfl,py,_,_,_,rfl,rfl,AK.of hy,C8,by exact CL,λc1 hc1=>?_⟩;have s1:=AY hc1 (.AG [.int l,.int lo,.int x1,.int y0]);have g1:A4 (AJ H c1 (.AG [.int l,.int lo,.int x1,.int y0])) c1 (l,lo,x1,y0):=AV
  (try dsimp only)
  generalize AJ H c1 (.AG [.int l,.int lo,.int x1,.int y0])=H1 at s1 g1;refine⟨_,rfl,px,_,_,_,rfl,rfl,AK.of (s1 _ _ hx),Cb,_,rfl,_,rfl,_,rfl,py,_,_,_,rfl,rfl,AK.of (s1 _ _ hy),Cb,by exact CL,λc2 hc2=>?_⟩;have s2:=AY hc2 (.AG [.int x1,.int lo,.int r,.int y1]);have g2:A4 (AJ H1 c2 (.AG [.int x1,.int lo,.int r,.int y1])) c2 (x1,lo,r,y1):=AV
  (try dsimp only)
  generalize AJ H1 c2 (.AG [.int x1,.int lo,.int r,.int y1])=H2 at s2 g2;have s12:=s1.trans s2;refine⟨_,rfl,px,_,_,_,rfl,rfl,AK.of (s12 _ _ hx),C8,_,rfl,py,_,_,_,rfl,rfl,AK.of (s12 _ _ hy),Cb,_,rfl,_,rfl,by exact CL,λc3 hc3=>?_⟩;have s3:=AY hc3 (.AG [.int x0,.int y1,.int r,.int hi]);have g3:A4 (AJ H2 c3 (.AG [.int x0,.int y1,.int r,.int hi])) c3 (x0,y1,r,hi):=AV
  (try dsimp only)
  generalize AJ H2 c3 (.AG [.int x0,.int y1,.int r,.int hi])=H3 at s3 g3;have s13:=s12.trans s3;refine⟨_,rfl,_,rfl,py,_,_,_,rfl,rfl,AK.of (s13 _ _ hy),C8,_,rfl,px,_,_,_,rfl,rfl,AK.of (s13 _ _ hx),C8,_,rfl,by exact CL,λc4 hc4=>?_⟩;have s4:=AY hc4 (.AG [.int l,.int y0,.int x0,.int hi]);have g4:A4 (AJ H3 c4 (.AG [.int l,.int y0,.int x0,.int hi])) c4 (l,y0,x0,hi):=AV
  (try dsimp only)
  generalize AJ H3 c4 (.AG [.int l,.int y0,.int x0,.int hi])=H4 at s4 g4;refine⟨by exact CL,λc5 hc5=>?_⟩;have s5:=AY hc5 (.AN [.ref c1,.ref c2,.ref c3,.ref c4]);have g5:(AJ H4 c5 (.AN [.ref c1,.ref c2,.ref c3,.ref c4])) c5=some (.AN [.ref c1,.ref c2,.ref c3,.ref c4]):=AV
  try dsimp only
  generalize AJ H4 c5 (.AN [.ref c1,.ref c2,.ref c3,.ref c4])=H5 at s5 g5;have A:At A4 H5 [c1,c2,c3,c4] [(l,lo,x1,y0),(x1,lo,r,y1),(x0,y1,r,hi),(l,y0,x0,hi)] :=
   (((At.nil.snoc (R:=A4) (b:=c1) (x:=(l,lo,x1,y0)) ((s2.trans (s3.trans (s4.trans s5))) _ _ g1)).snoc (b:=c2) (x:=(x1,lo,r,y1)) ((s3.trans (s4.trans s5)) _ _ g2)).snoc (b:=c3) (x:=(x0,y1,r,hi)) ((s4.trans s5) _ _ g3)).snoc (b:=c4) (x:=(l,y0,x0,hi)) (s5 _ _ g4)
  refine fin H5 c5 [c1,c2,c3,c4] _ (s13.trans (s4.trans s5)) g5 A rfl (Yz (b:=(l,lo,r,hi)) i1 i2 i3 i4 i5 i6)
 ·refine⟨_,rfl,px,_,_,_,rfl,rfl,AK.of hx,C8,_,rfl,_,rfl,_,rfl,py,_,_,_,rfl,rfl,AK.of hy,C8,by exact CL,λc1 hc1=>?_⟩;have s1:=AY hc1 (.AG [.int x0,.int lo,.int r,.int y0]);have g1:A4 (AJ H c1 (.AG [.int x0,.int lo,.int r,.int y0])) c1 (x0,lo,r,y0):=AV
  (try dsimp only)
  generalize AJ H c1 (.AG [.int x0,.int lo,.int r,.int y0])=H1 at s1 g1;refine⟨_,rfl,px,_,_,_,rfl,rfl,AK.of (s1 _ _ hx),Cb,_,rfl,py,_,_,_,rfl,rfl,AK.of (s1 _ _ hy),C8,_,rfl,_,rfl,by exact CL,λc2 hc2=>?_⟩;have s2:=AY hc2 (.AG [.int x1,.int y0,.int r,.int hi]);have g2:A4 (AJ H1 c2 (.AG [.int x1,.int y0,.int r,.int hi])) c2 (x1,y0,r,hi):=AV
  (try dsimp only)
  generalize AJ H1 c2 (.AG [.int x1,.int y0,.int r,.int hi])=H2 at s2 g2;have s12:=s1.trans s2;refine⟨_,rfl,_,rfl,py,_,_,_,rfl,rfl,AK.of (s12 _ _ hy),Cb,_,rfl,px,_,_,_,rfl,rfl,AK.of (s12 _ _ hx),Cb,_,rfl,by exact CL,λc3 hc3=>?_⟩;have s3:=AY hc3 (.AG [.int l,.int y1,.int x1,.int hi]);have g3:A4 (AJ H2 c3 (.AG [.int l,.int y1,.int x1,.int hi])) c3 (l,y1,x1,hi):=AV
  (try dsimp only)
  generalize AJ H2 c3 (.AG [.int l,.int y1,.int x1,.int hi])=H3 at s3 g3;have s13:=s12.trans s3;refine⟨_,rfl,_,rfl,_,rfl,px,_,_,_,rfl,rfl,AK.of (s13 _ _ hx),C8,_,rfl,py,_,_,_,rfl,rfl,AK.of (s13 _ _ hy),Cb,by exact CL,λc4 hc4=>?_⟩;have s4:=AY hc4 (.AG [.int l,.int lo,.int x0,.int y1]);have g4:A4 (AJ H3 c4 (.AG [.int l,.int lo,.int x0,.int y1])) c4 (l,lo,x0,y1):=AV
  (try dsimp only)
  generalize AJ H3 c4 (.AG [.int l,.int lo,.int x0,.int y1])=H4 at s4 g4;refine⟨by exact CL,λc5 hc5=>?_⟩;have s5:=AY hc5 (.AN [.ref c1,.ref c2,.ref c3,.ref c4]);have g5:(AJ H4 c5 (.AN [.ref c1,.ref c2,.ref c3,.ref c4])) c5=some (.AN [.ref c1,.ref c2,.ref c3,.ref c4]):=AV
  try dsimp only
  generalize AJ H4 c5 (.AN [.ref c1,.ref c2,.ref c3,.ref c4])=H5 at s5 g5;have A:At A4 H5 [c1,c2,c3,c4] [(x0,lo,r,y0),(x1,y0,r,hi),(l,y1,x1,hi),(l,lo,x0,y1)] :=
   (((At.nil.snoc (R:=A4) (b:=c1) (x:=(x0,lo,r,y0)) ((s2.trans (s3.trans (s4.trans s5))) _ _ g1)).snoc (b:=c2) (x:=(x1,y0,r,hi)) ((s3.trans (s4.trans s5)) _ _ g2)).snoc (b:=c3) (x:=(l,y1,x1,hi)) ((s4.trans s5) _ _ g3)).snoc (b:=c4) (x:=(l,lo,x0,y1)) (s5 _ _ g4)
  refine fin H5 c5 [c1,c2,c3,c4] _ (s13.trans (s4.trans s5)) g5 A rfl (X7 (b:=(l,lo,r,hi)) i1 i2 i3 i4 i5 i6)
inductive OM(vs:List V)(H:Hp)(Q:VK):Prop
 | mk (pb:Addr) (b:Bx) (c:Int) (h_0:vs=[.ref pb,.int c]) (h_1:A4 H pb b) (h_2:b.l<b.r) (h_3:b.d<b.u) (h_4:SA H Q b 1 5):OM vs H Q
def Lr:Sp:=λvs H Q _=>OM vs H Q
theorem El:Ar ["_law_box","_law_cell","_law_left","_law_low","_law_right","_law_high","_law_how","_law_x","_law_y"] ["_law_box","_law_cell"] (Aj s_law_broken):=Aw
set_option maxHeartbeats 4000000 in
theorem Ud (F:Ag K "_law_broken" "_law_broken" s_law_broken f fd) (G1:AH P w K mg base AM 1 f1 d1 ["_law_low","_law_high","_law_cell"] MW) (b1:AW K d1 ["_law_low","_law_high","_law_cell"] []) (k1:KP K f1) (m1:mg "_law_two" = some (.ref f1))
  (G2:AH P w K mg base AM 1 f2 d2 ["_law_box","_law_x","_law_y","_law_way"] Lx) (b2:AW K d2 ["_law_box","_law_x","_law_y","_law_way"] []) (k2:KP K f2) (m2:mg "_law_wheel" = some (.ref f2)) :
  AH P w K mg base AM 2 f fd ["_law_box","_law_cell"] Lr:=by
 refine F.ok El (λvs H Q E h=>?_) (λcdv A outer s H vs Q E hr h=>?_)
 ·obtain⟨pb,b,c,rfl,_⟩:=h;rfl
 obtain⟨pb,⟨l,lo,r,hi⟩,c,rfl,hb,t1,t2,q⟩:=h;dsimp only[AE.l,AE.d,AE.r,AE.u] at t1 t2;refine⟨_,AS (E7 (pv 0) (D7 (n:=4) (K:=K) rfl (BQ (Az (i:=2) El.nd rfl (Or.inl rfl)) (BQ (Az (i:=3) El.nd rfl (Or.inl rfl)) (BQ (Az (i:=4) El.nd rfl (Or.inl rfl)) (BQ (Az (i:=5) El.nd rfl (Or.inl rfl)) D0))))))
  (AS (Ad (i:=6) El.nd rfl (Or.inl rfl) (AX Bw (pv 1) AF))
  (AS (Ad (i:=1) El.nd rfl (Or.inl rfl) (AX E3 (pv 1) AF))
  (AS (A0 (PW.pt (DE (Aq Bt (pv 6) AF (Ac _)) (DE (Aq EO (AX CV (pv 4) (pv 2)) AF (Ac _)) (EK (Aq EO (AX CV (pv 5) (pv 3)) AF (Ac _))))))
   (AS (Ad (i:=7) El.nd rfl (Or.inl rfl) (Ah G1 hr (by rfl) m1 k1 b1 .nil Ae (AA (pv 2) (AA (pv 4) (AA (AX E3 (pv 1) AF) AI)))))
   (AS (Ad (i:=8) El.nd rfl (Or.inl rfl) (Ah G1 hr (by rfl) m1 k1 b1 .nil Ae (AA (pv 3) (AA (pv 5) (AA (AX E3 (pv 1) AF) AI)))))
   (AU (Ab (Ah G2 hr (by rfl) m2 k2 b2 .nil Ae (AA (pv 0) (AA (pv 7) (AA (pv 8) (AA (AX Bw (pv 1) AF) AI))))))))) A2)
  (AS (A0 (PW.pt (DE (Aq Bt (AX Bw (pv 6) AF) AF (Ac _)) (EK (Aq EO (AX CV (pv 4) (pv 2)) AF (Ac _)))))
   (AS (Ad (i:=7) El.nd rfl (Or.inl rfl) (AX BU (AX BU (pv 2) AF) (AX Bw (pv 1) (AX CV (AX CV (pv 4) (pv 2)) AF))))
   (AU (Ab (DC (AA (Ax (AA (pv 2) (AA (pv 3) (AA (pv 7) (AA (pv 5) AI))))) (AA (Ax (AA (pv 7) (AA (pv 3) (AA (pv 4) (AA (pv 5) AI))))) AI)))))) A2)
  (AS (A0 (Aq EO (AX CV (pv 5) (pv 3)) AF (Ac _))
   (AS (Ad (i:=8) El.nd rfl (Or.inl rfl) (AX BU (AX BU (pv 3) AF) (AX Bw (pv 1) (AX CV (AX CV (pv 5) (pv 3)) AF))))
   (AU (Ab (DC (AA (Ax (AA (pv 2) (AA (pv 3) (AA (pv 4) (AA (pv 8) AI))))) (AA (Ax (AA (pv 2) (AA (pv 8) (AA (pv 4) (AA (pv 5) AI))))) AI)))))) A2)
  (AU (Ab (DC (AA (pv 0) AI))))))))),?_⟩
 refine⟨_,rfl,pb,_,rfl,AK.of hb,rfl,_,_,rfl,_,_,rfl,_,_,rfl,_,_,rfl,rfl,?_⟩;refine⟨_,rfl,_,_,rfl,rfl,(show(0:Int)<5 by decide),_,rfl,_,_,rfl,rfl,⟨by decide,by decide⟩,?_⟩;have fin2:∀(a1 b1 c1 d1 a2 b2 c2 d2:Int),FD (l,lo,r,hi) [(a1,b1,c1,d1),(a2,b2,c2,d2)]->∀p,H p=none->∀p2,(AJ H p (.AG [.int a1,.int b1,.int c1,.int d1])) p2=none->∀p3,(AJ (AJ H p (.AG [.int a1,.int b1,.int c1,.int d1])) p2 (.AG [.int a2,.int b2,.int c2,.int d2])) p3=none →
   Q (.ref p3) (AJ (AJ (AJ H p (.AG [.int a1,.int b1,.int c1,.int d1])) p2 (.AG [.int a2,.int b2,.int c2,.int d2])) p3 (.AN [.ref p,.ref p2])):=by
  intro a1 b1 c1 d1 a2 b2 c2 d2 pt p hp p2 hp2 p3 hp3;obtain⟨H1,e1,s1,g1⟩:=J3 hp a1 b1 c1 d1;rw[e1] at hp2 hp3 ⊢;obtain⟨H2,e2,s2,g2⟩:=J3 hp2 a2 b2 c2 d2;rw[e2] at hp3 ⊢;have s3:=AY hp3 (.AN [.ref p,.ref p2]);refine q p3 _ [(a1,b1,c1,d1),(a2,b2,c2,d2)] (s1.trans (s2.trans s3)) ⟨[p,p2],AV,(At.nil.snoc (R:=A4) (b:=p) (x:=(a1,b1,c1,d1)) ((s2.trans s3) _ _ g1)).snoc (b:=p2) (x:=(a2,b2,c2,d2)) (s3 _ _ g2)⟩ (by simp) (by simp) pt
 refine⟨_,rfl,rfl,_,rfl,?_⟩;apply Qs
 case m =>
  intro rest;refine F0 (λ_=>⟨_,rfl,_,rfl,_,_,rfl,rfl,_,_,rfl,rfl,_,rfl,?_⟩) (λ_=>rest);by_cases h2:(2:Int)<r-l
  ·refine A8 h2 ⟨_,rfl,_,rfl,_,_,rfl,rfl,_,_,rfl,rfl,_,rfl,?_⟩;by_cases h3:(2:Int)<hi-lo
   ·refine A8 h3 ?_;refine⟨_,rfl,_,rfl,_,rfl,_,_,rfl,rfl,⟨by decide,by decide⟩,l,r,_,rfl,by omega,λx0 x1 q1 q2 q3 px hpx=>?_⟩;have s1:=AY hpx (.AG [.int x0,.int x1]);have g1:(AJ H px (.AG [.int x0,.int x1])) px=some (.AG [.int x0,.int x1]):=AV;generalize AJ H px (.AG [.int x0,.int x1])=H1 at s1 g1;refine⟨_,rfl,_,rfl,_,rfl,_,_,rfl,rfl,⟨by decide,by decide⟩,lo,hi,_,rfl,by omega,λy0 y1 q4 q5 q6 py hpy=>?_⟩;have s2:=AY hpy (.AG [.int y0,.int y1]);have g2:(AJ H1 py (.AG [.int y0,.int y1])) py=some (.AG [.int y0,.int y1]):=AV;generalize AJ H1 py (.AG [.int y0,.int y1])=H2 at s2 g2;exact⟨_,rfl,_,rfl,_,rfl,_,rfl,_,_,rfl,rfl,(show(0:Int)<2 by decide),pb,px,py,(l,lo,r,hi),x0,x1,y0,y1,_,rfl,D3 (s1.trans s2) hb,s2 _ _ g1,g2,⟨q1,q2,q3,q4,q5,q6⟩,λp H' bs s3 hL n1 n2 hk=>q p H' bs ((s1.trans s2).trans s3) hL (by omega) n2 hk⟩
   ·exact Am h3 rest
  ·exact Am h2 rest
 case r =>
  refine⟨_,rfl,_,_,rfl,rfl,(show(0:Int)<2 by decide),rfl,_,rfl,?_⟩;apply Qs
  case m =>
   intro rest;refine F0 (λ_=>⟨_,rfl,_,rfl,_,_,rfl,rfl,_,_,rfl,rfl,_,rfl,?_⟩) (λ_=>rest);by_cases h2:(1:Int)<r-l
   ·refine A8 h2 ?_;have h1:(0:Int)<r-l-1:=by omega
    have a0:=Int.emod_nonneg (c / 5) (Int.ne_of_gt h1);have a1:=Int.emod_lt_of_pos (c / 5) h1;refine⟨_,rfl,_,_,rfl,rfl,_,rfl,_,rfl,_,rfl,_,_,rfl,rfl,_,_,rfl,rfl,_,_,rfl,rfl,h1,_,_,rfl,rfl,?_⟩
    (try dsimp only)
    generalize hx:l+1+c / 5 % (r-l-1)=x;refine⟨_,rfl,_,rfl,_,rfl,_,rfl,by exact CL,λp hp=>⟨_,rfl,_,rfl,_,rfl,_,rfl,by exact CL,λp2 hp2=>⟨by exact sz2,λp3 hp3=>?_⟩⟩⟩;exact fin2 l lo x hi x lo r hi (RI (b:=(l,lo,r,hi)) (by show l<x; omega) (by show x<r; omega) t2) p hp p2 hp2 p3 hp3
   ·exact Am h2 rest
  case r =>
   refine⟨_,rfl,_,rfl,_,_,rfl,rfl,_,_,rfl,rfl,_,rfl,?_⟩;by_cases h2:(1:Int)<hi-lo
   ·refine A8 h2 ?_;have h1:(0:Int)<hi-lo-1:=by omega
    have a0:=Int.emod_nonneg (c / 5) (Int.ne_of_gt h1);have a1:=Int.emod_lt_of_pos (c / 5) h1;refine⟨_,rfl,_,_,rfl,rfl,_,rfl,_,rfl,_,rfl,_,_,rfl,rfl,_,_,rfl,rfl,_,_,rfl,rfl,h1,_,_,rfl,rfl,?_⟩
    (try dsimp only)
    generalize hy:lo+1+c / 5 % (hi-lo-1)=y;refine⟨_,rfl,_,rfl,_,rfl,_,rfl,by exact CL,λp hp=>⟨_,rfl,_,rfl,_,rfl,_,rfl,by exact CL,λp2 hp2=>⟨by exact sz2,λp3 hp3=>?_⟩⟩⟩;exact fin2 l lo r y l y r hi (Yf (b:=(l,lo,r,hi)) (by show lo<y; omega) (by show y<hi; omega) t1) p hp p2 hp2 p3 hp3
   ·refine Am h2 ⟨_,rfl,by exact sz1,λp hp=>?_⟩;have s1:=AY hp (.AN [.ref pb]);refine q p _ [(l,lo,r,hi)] s1 ⟨[pb],AV,At.nil.snoc (R:=A4) (b:=pb) (x:=(l,lo,r,hi)) (s1 _ _ hb)⟩ (by simp) (by simp) (VB t1 t2)
theorem WV{xs:List V}{x:V}(h:xs[xs.length-1]?=some x)(n:0<xs.length):BR xs (-1)=some x:=by
 unfold BR FP;rw[if_neg (by omega),if_pos (by omega),show((-1:Int)+(xs.length:Int)).toNat=xs.length-1 by omega];exact h
theorem VM(xs:List V)(n:0<xs.length):B5 xs none (some (-1))=xs.dropLast:=by
 unfold B5;have e1:HT.Ai xs.length 0 none=0:=rfl;have e2:HT.Ai xs.length xs.length (some (-1))=xs.length-1:=by
  simp only[HT.Ai];split <;> omega
 rw[e1,e2,List.dropLast_eq_take]; simp
structure GK(w h:Int)(bs:List Bx):Prop where
 HI:CB w h bs
 tru:∀b∈bs,b.l<b.r/\b.d<b.u
theorem GK.LN{w h:Int}{bs ps:List Bx}{b pL:Bx}{j:Nat}(t:GK w h bs)(eb:bs[j]?=some b)(p:FD b ps)(pl:ps[ps.length-1]?=some pL):GK w h (bs.take j++[pL]++bs.drop (j+1)++ps.dropLast):=by
 obtain⟨hj,ej⟩:=List.getElem?_eq_some_iff.mp eb;have e1:bs=bs.take j++b :: bs.drop (j+1):=by rw[<-ej,<-List.drop_eq_getElem_cons hj]; exact(List.take_append_drop j bs).symm
 have hn:ps≠[]:=by rintro rfl; simp at pl
 have e2:ps=ps.dropLast++[pL]:=by
  have:=List.dropLast_concat_getLast hn
  rw[List.getLast_eq_getElem] at this;obtain⟨q1,q2⟩:=List.getElem?_eq_some_iff.mp pl;rw[q2] at this;exact this.symm
 have tt:=t.HI;rw[e1] at tt;have t2:=tt.LN p;have pm:(bs.take j++[pL]++bs.drop (j+1)++ps.dropLast).Perm (bs.take j++ps++bs.drop (j+1)):=by
  conv=>rhs; rw[e2]
  rw[List.append_assoc,List.append_assoc,List.append_assoc];refine List.Perm.append_left _ ?_;rw[<-List.append_assoc];refine(List.perm_append_comm).trans ?_;rw[List.append_assoc,<-List.append_assoc]
 refine⟨t2.Gh pm,λc hc=>?_⟩;have hc2:=pm.mem_iff.mp hc;simp only[List.mem_append] at hc2;rcases hc2 with (z | z) | z
 ·exact t.tru c (List.mem_of_mem_take z)
 ·exact p.ok c z
 ·exact t.tru c (List.mem_of_mem_drop z)
abbrev aJ(H:Hp)(Q:VK)(w h:Int)(n m:Nat):Prop:=∀(p:Addr) (H':Hp) (bs:List Bx),AQ H H'->BV A4 H' p bs->n<=bs.length->bs.length<=m->GK w h bs->Q (.ref p) H'
inductive PL(K:PySem.W.Frag)(vs:List V)(H:Hp)(Q:VK):Prop
 | mk (a:Addr) (ns:List Int) (wd hg:Int) (h_0:vs=[.ref a,.int 5,.int 25,.int wd,.int hg,.int 10]) (h_1:IL K H a ns) (h_2:0<wd) (h_3:0<hg) (h_4:aJ H Q wd hg 1 10):PL K vs H Q
def Lw(K:PySem.W.Frag):Sp:=λvs H Q _=>PL K vs H Q
theorem HJ:Ar ["_law_script","_law_first","_law_last","_law_wide","_law_high","_law_most","_law_boxes","_law_k","_law_cell","_law_at","_law_parts"] ["_law_script","_law_first","_law_last","_law_wide","_law_high","_law_most"] (Aj s_law_built):=Aw
set_option maxHeartbeats 4000000 in
theorem VR (F:Ag K "_law_built" "_law_built" s_law_built f fd) (G1:AH P w K mg base AM 1 f1 d1 ["_law_script","_law_k"] (Ho K)) (b1:AW K d1 ["_law_script","_law_k"] []) (k1:KP K f1) (m1:mg "_law_cell_at" = some (.ref f1))
  (G2:AH P w K mg base AM 2 f2 d2 ["_law_box","_law_cell"] Lr) (b2:AW K d2 ["_law_box","_law_cell"] []) (k2:KP K f2) (m2:mg "_law_broken" = some (.ref f2)) (ml:mg "len" = none) (mn:mg "min" = none) (mr:mg "range" = none) :
  AH P w K mg base AM 3 f fd ["_law_script","_law_first","_law_last","_law_wide","_law_high","_law_most"] (Lw K):=by
 refine F.ok HJ (λvs H Q E h=>?_) (λcdv A outer s H vs Q E hr h=>?_)
 ·obtain⟨a,ns,wd,hg,rfl,_⟩:=h;rfl
 obtain⟨a,ns,wd,hg,rfl,hS,kw,kh,q⟩:=h;have hr1:=hr.mono (show 1<=2 by decide);refine⟨_,AS (Ad (i:=6) HJ.nd rfl (Or.inl rfl) (DC (AA (Ax (AA AF (AA AF (AA (pv 3) (AA (pv 4) AI))))) AI)))
  (AS (Ce PassesOwn.never rfl (Jj (by rfl) mr (AA (pv 1) (AA (BE (IU rfl) (by rfl) mn JA (AA (BE (B6 (K:=K)) (by rfl) ml B7 (AA (pv 0) AI)) (AA (pv 2) AI))) AI))) (Az (i:=7) HJ.nd rfl (Or.inl rfl))
   (AS (Ad (i:=8) HJ.nd rfl (Or.inl rfl) (Ah G1 hr1 (by rfl) m1 k1 b1 .nil Ae (AA (pv 0) (AA (pv 7) AI))))
   (AS (Ad (i:=9) HJ.nd rfl (Or.inl rfl) (AX Bw (pv 8) (BE (B6 (K:=K)) (by rfl) ml B7 (AA (pv 6) AI))))
   (AS (Ad (i:=10) HJ.nd rfl (Or.inl rfl) (Ah G2 hr (by rfl) m2 k2 b2 .nil Ae (AA (pL K (pv 6) (pv 9)) (AA (AX E3 (pv 8) AF) AI))))
   (AU (A0 (Aq FA (AX BU (BE (B6 (K:=K)) (by rfl) ml B7 (AA (pv 6) AI)) (BE (B6 (K:=K)) (by rfl) ml B7 (AA (pv 10) AI))) (AX BU (pv 5) AF) (Ac _))
    (AU (Ad (i:=6) HJ.nd rfl (Or.inl rfl) (AX Ec (AX Ec (AX Ec (Fc (IP (K:=K)) (pv 6) GQ (E2 (pv 9))) (DC (AA (pL K (pv 10) (Mj ME AF)) AI))) (Fc (IP (K:=K)) (pv 6) (E2 (AX BU (pv 9) AF)) GQ)) (Fc (IP (K:=K)) (pv 10) GQ (E2 (Mj ME AF)))))) A2))))))
  (AU (Ab (pv 6)))),?_⟩
 refine⟨_,rfl,_,rfl,by exact CL,λc0 hc0=>?_⟩;obtain⟨H1,e1,s1,g1⟩:=J3 hc0 0 0 wd hg;rw[e1];refine⟨by exact sz1,λL0 hL0=>?_⟩;obtain⟨H2,e2,s2,g2⟩:=EZ hL0 [.ref c0];rw[e2];have s12:=s1.trans s2;refine⟨_,rfl,_,rfl,a,_,rfl,.inl (s12.seq hS.1),_,rfl,_,_,rfl,?_⟩;obtain⟨L,hL,L0',L1⟩:∃L:Int,(if (25:Int)<(((ns.map V.int).length:Nat):Int) then (25:Int) else (((ns.map V.int).length:Nat):Int))=L/\0<=L/\L<=25:=⟨_,rfl,by split <;> omega,by split <;> omega⟩;rw[hL];refine⟨_,_,rfl,⟨by omega,by omega,by omega,by omega⟩,?_⟩;refine GL (lo:=5) (n:=(L-5).toNat) (λi σ H3=>AQ H H3/\∃(p:Addr) (bs:List Bx) (u7 u8 u9 u10:Option V),σ=[some (.ref a),some (.int 5),some (.int 25),some (.int wd),some (.int hg),some (.int 10),some (.ref p),u7,u8,u9,u10]/\BV A4 H3 p bs/\1<=bs.length/\bs.length<=10/\GK wd hg bs)
  ⟨s12,L0,[(0,0,wd,hg)],none,none,none,none,rfl,⟨[c0],g2,At.nil.snoc (R:=A4) (b:=c0) (x:=(0,0,wd,hg)) (s2 _ _ g1)⟩,by simp,by simp,⟨TK kw kh,λb hb=>by rw[List.mem_singleton.mp hb]; exact⟨kw,kh⟩⟩⟩ ?_ ?_
 ·rintro i σ H3 hi ⟨s3,p,bs,u7,u8,u9,u10,rfl,⟨cs,hp,hC⟩,n1,n2,kb⟩;have lc:cs.length=bs.length:=hC.1;have lm:(cs.map V.ref).length=bs.length:=by rw[List.length_map,lc]
  refine⟨_,rfl,_,rfl,a,ns,_,rfl,⟨s3.seq hS.1,hS.2⟩,by omega,λz hz=>?_⟩;have zp:(0:Int)<((cs.map V.ref).length:Int):=by omega
  refine⟨_,rfl,_,rfl,p,_,rfl,.inl (AR.of hp),_,_,rfl,rfl,zp,?_⟩;have y0:=Int.emod_nonneg z (Int.ne_of_gt zp);have y1:=Int.emod_lt_of_pos z zp;obtain⟨j,hj⟩:=Int.eq_ofNat_of_zero_le y0;rw[hj] at y1;have jl:j<bs.length:=by omega
  have eb:bs[j]?=some bs[j]:=List.getElem?_eq_getElem jl;generalize bs[j]=b at eb;obtain⟨c,hc,fb⟩:=hC.get eb;have hat:BR (cs.map V.ref) (z % ((cs.map V.ref).length:Int))=some (.ref c):=by rw[hj]; exact Ap (BF hc)
  refine⟨_,rfl,_,rfl,p,_,_,_,rfl,rfl,AR.of hp,hat,_,rfl,_,_,rfl,rfl,⟨by decide,by decide⟩,c,b,_,rfl,fb,(kb.tru b (List.mem_of_getElem? eb)).1,(kb.tru b (List.mem_of_getElem? eb)).2,λpp H4 ps s4 ⟨ds,hpp,hD⟩ m1' m5 kp=>?_⟩;have ld:ds.length=ps.length:=hD.1;have hp4:=s4 _ _ hp;refine⟨_,rfl,p,_,rfl,.inl (AR.of hp4),_,rfl,pp,_,rfl,.inl (AR.of hpp),_,_,rfl,rfl,_,rfl,_,_,rfl,rfl,_,_,rfl,rfl,_,rfl,?_⟩;by_cases hle:(((cs.map V.ref).length:Nat):Int)+(((ds.map V.ref).length:Nat):Int)<=10+1
  ·refine A8 hle ?_;rw[lm,List.length_map,ld] at hle;refine⟨_,rfl,_,rfl,_,rfl,p,_,rfl,AR.of hp4,λq1 hq1=>?_⟩;rw[show B5 (cs.map V.ref) none (some (z % ((cs.map V.ref).length:Int)))=(cs.take j).map V.ref by rw[hj]; exact(Jw _ (by omega)).trans (List.map_take ..).symm];obtain⟨H5,e5,s5,g5⟩:=EZ hq1 ((cs.take j).map V.ref);rw[e5];have dl:ds[ds.length-1]?=some ds[ds.length-1]:=List.getElem?_eq_getElem (by omega);generalize ds[ds.length-1]=dL at dl;refine⟨_,rfl,_,rfl,pp,_,_,_,rfl,rfl,AR.of (s5 _ _ hpp),WV (by rw[List.length_map]; exact BF dl) (by rw[List.length_map]; omega),by exact sz1,λq2 hq2=>?_⟩;obtain⟨H6,e6,s6,g6⟩:=EZ hq2 [.ref dL];rw[e6];refine⟨q1,q2,_,_,rfl,rfl,s6 _ _ g5,g6,by simp; exact ES (by omega),λq3 hq3=>?_⟩;obtain⟨H7,e7,s7,g7⟩:=EZ hq3 ((cs.take j).map V.ref++[.ref dL]);rw[e7];have s57:=s5.trans (s6.trans s7);refine⟨_,rfl,_,rfl,_,_,rfl,rfl,_,rfl,p,_,rfl,AR.of (s57 _ _ hp4),λq4 hq4=>?_⟩;rw[show B5 (cs.map V.ref) (some (z % ((cs.map V.ref).length:Int)+1)) none=(cs.drop (j+1)).map V.ref by rw[hj]; exact(Lk (j:=j+1) _ (by omega)).trans (List.map_drop ..).symm];obtain⟨H8,e8,s8,g8⟩:=EZ hq4 ((cs.drop (j+1)).map V.ref);rw[e8];refine⟨q3,q4,_,_,rfl,rfl,s8 _ _ g7,g8,by simp; exact ES (by omega),λq5 hq5=>?_⟩;obtain⟨H9,e9,s9,g9⟩:=EZ hq5 ((cs.take j).map V.ref++[.ref dL]++(cs.drop (j+1)).map V.ref);rw[e9];have s59:=s57.trans (s8.trans s9);refine⟨_,rfl,_,rfl,_,rfl,pp,_,rfl,AR.of (s59 _ _ hpp),λq6 hq6=>?_⟩;rw[VM _ (by rw[List.length_map]; omega),<-List.map_dropLast];obtain⟨H10,e10,s10,g10⟩:=EZ hq6 (ds.dropLast.map V.ref);rw[e10];refine⟨q5,q6,_,_,rfl,rfl,s10 _ _ g9,g10,by simp; exact ES (by omega),λq7 hq7=>?_⟩;have s11:=AY hq7 (.AN ((cs.take j).map V.ref++[.ref dL]++(cs.drop (j+1)).map V.ref++ds.dropLast.map V.ref));have s511:=s59.trans (s10.trans s11);have pl:ps[ps.length-1]?=some ps[ps.length-1]:=List.getElem?_eq_getElem (by omega);generalize ps[ps.length-1]=pL at pl;have hdL:A4 H4 dL pL:=hD.2 _ _ _ dl (by rw[ld]; exact pl);have A1:At A4 H4 (cs.take j++[dL]++cs.drop (j+1)++ds.dropLast) (bs.take j++[pL]++bs.drop (j+1)++ps.dropLast):=by
    refine((((hC.keep D3 s4).take j).snoc hdL).FU ((hC.keep D3 s4).drop (j+1))).FU ?_;rw[List.dropLast_eq_take,List.dropLast_eq_take,ld];exact hD.take _
   refine⟨s3.trans (s4.trans s511),q7,bs.take j++[pL]++bs.drop (j+1)++ps.dropLast,_,_,_,_,rfl,⟨_,by rw[AV]; simp,A1.keep D3 s511⟩,by simp; omega,by simp; omega,kb.LN eb kp pl⟩
  ·exact Am hle ⟨s3.trans s4,p,bs,_,_,_,_,rfl,⟨cs,hp4,hC.keep D3 s4⟩,n1,n2,kb⟩
 ·rintro σ H3 ⟨s3,p,bs,u7,u8,u9,u10,rfl,hL3,n1,n2,kb⟩;exact⟨_,rfl,q p H3 bs s3 hL3 n1 n2 kb⟩
inductive QR(vs:List V)(H:Hp)(Q:VK):Prop
 | mk (n:Int) (p:Addr) (c:Rat) (h_0:vs=[.int n,.ref p]) (h_1:Aa H p c) (h_2:Sb 7 13 c) (h_3:n.natAbs<=2 ^ 20) (h_4:NN H Q ((n:Rat)*c)):QR vs H Q
def Fq:Sp:=λvs H Q _=>QR vs H Q
theorem Z8:Ar ["_law_number","_law_scale"] ["_law_number","_law_scale"] (Aj s_law_scaled_one):=Aw
theorem QZ(n:Int)(c:Rat):(((n*c.num:Int)):Rat) / ((c.den:Int):Rat)=(n:Rat)*c:=by
 rw[Rat.intCast_mul,Rat.div_def,Rat.mul_assoc,<-Rat.div_def,Qh]
theorem XU(F:Ag K "_law_scaled_one" "_law_scaled_one" s_law_scaled_one f fd)(G:AH P w K mg base AM 1 g gd ["_law_top","_law_bottom"] Kp)(bG:AW K gd ["_law_top","_law_bottom"] [])(kG:KP K g)(mG:mg "_law_lowest" = some (.ref g)):
  AH P w K mg base AM 2 f fd ["_law_number","_law_scale"] Fq:=by
 refine F.ok Z8 (λvs H Q E h=>?_) (λcdv A outer s H vs Q E hr h=>?_)
 ·obtain⟨n,p,c,rfl,_⟩:=h;rfl
 obtain⟨n,p,c,rfl,hp,sc,nb,q⟩:=h;refine⟨_,AU (Ab (Ah G hr (by rfl) mG kG bG .nil Ae (AA (AX Il (pv 0) (pT K (pv 1) AF)) (AA (pT K (pv 1) AF) AI)))),?_⟩;have dn:=c.den_nz;refine⟨_,rfl,_,rfl,p,_,_,_,rfl,rfl,AK.of hp,C8,_,_,rfl,rfl,⟨ER nb (by decide),ER sc.1 (by decide)⟩,_,rfl,p,_,_,_,rfl,rfl,AK.of hp,Cb,_,_,rfl,by omega,ER (n:=13) (by rw[Int.natAbs_natCast]; exact sc.2) (by decide),?_⟩;rw[QZ];exact q
abbrev CC(b:Bx):List Int:=[b.1,b.2.1,b.2.2.1,b.2.2.2]
abbrev Ca(b:Bx):Prop:=∀x∈CC b,x.natAbs<=2 ^ 20
inductive QJ(vs:List V)(H:Hp)(Q:VK):Prop
 | mk (pb p:Addr) (b:Bx) (c:Rat) (h_0:vs=[.ref pb,.ref p]) (h_1:A4 H pb b) (h_2:Aa H p c) (h_3:Sb 7 13 c) (h_4:Ca b) (h_5:∀t H',AQ H H'->A5 Aa H' t ((CC b).map λ(x:Int)=>(x:Rat)*c)->Q (.ref t) H'):QJ vs H Q
def Kq:Sp:=λvs H Q _=>QJ vs H Q
theorem Zm:Ar ["_law_box","_law_scale"] ["_law_box","_law_scale"] (Aj s_law_scaled):=Aw
theorem aB:(["_law_part","_law_scale"]:List Str).Nodup:=by decide +kernel
theorem Xg(F:Ag K "_law_scaled" "_law_scaled" s_law_scaled f fd)(G:AH P w K mg base AM 2 g gd ["_law_number","_law_scale"] Fq)(bG:AW K gd ["_law_number","_law_scale"] [])(kG:KP K g)(mG:mg "_law_scaled_one" = some (.ref g))(mt:mg "tuple" = none):
  AH P w K mg base AM 3 f fd ["_law_box","_law_scale"] Kq:=by
 refine F.ok Zm (λvs H Q E h=>?_) (λcdv A outer s H vs Q E hr h=>?_)
 ·obtain⟨pb,p,b,c,rfl,_⟩:=h;rfl
 obtain⟨pb,p,b,c,rfl,hb,hp,sc,bw,q⟩:=h;refine⟨_,AU (Ab (Dx Hc (by rfl) mt Gx (AA (Hj (Nc:=["_law_part","_law_scale"]) (cap:=[(1,1)]) (g:=B9 0) (te:=DT Fq [] E0 (Ay (Al 0) (Ay (Al 1) Bc))) rfl (Iu (pv 0))
   (EH rfl rfl (by decide +kernel) (by decide +kernel) (List.forall_mem_cons.mpr ⟨⟨rfl,rfl⟩,List.forall_mem_nil _⟩) rfl (List.forall_mem_cons.mpr ⟨⟨_,_,rfl,rfl,rfl,rfl,rfl⟩,List.forall_mem_nil _⟩))
   (λ_ _ _ _ _=>Az (i:=0) aB rfl (Or.inl rfl)) (λ_ _ _ _ _=>Ah G hr (by rfl) mG kG bG .nil Ae (AA (pv 0) (AA (pv 1) AI)))) AI))),?_⟩
 have hb':H pb=some (.AG ((CC b).map V.int)):=hb;refine⟨_,rfl,pb,rfl,⟨_,AK.of hb'⟩,λacc hacc=>?_⟩;refine E1 (J8 hb') (by show 4<=1000; decide) hacc (λi ys σ hp=>∃es:List Addr,ys=es.map V.ref/\At Aa hp es (((CC b).map λ(x:Int)=>(x:Rat)*c).take i)/\∃u,σ=[u,some (.ref p)]) ⟨[],rfl,At.nil,none,rfl⟩ ?_ ?_
 ·rintro i ys σ H2 x H3 hi sm hacc2 ⟨es,rfl,hE,u,rfl⟩ ⟨rfl,hx⟩ Cc hC;obtain⟨e,rfl,he⟩:=Lv hx;refine⟨_,rfl,_,rfl,e,p,c,rfl,sm _ _ hp,sc,bw e (List.mem_of_getElem? he),λt ht=>?_⟩;have st:=AY ht (.AG [.int ((e:Rat)*c).num,.int ((e:Rat)*c).den]);refine hC _ _ _ st ⟨es++[t],by simp,?_,_,rfl⟩;have ec:((CC b).map λ(x:Int)=>(x:Rat)*c)[i]?=some ((e:Rat)*c):=by rw[List.getElem?_map,he]; rfl
  rw[Dw ec];exact(hE.keep DV (Fe acc st)).snoc (Aa.del (q:=(e:Rat)*c) AV (st _ _ hacc2))
 rintro ys σ H2 s2 hacc2 hl2 ⟨es,rfl,hE,u,rfl⟩;rw[List.take_of_length_le (by simp)] at hE;refine⟨acc,_,rfl,.inl ⟨AR.of hacc2,λt ht=>?_⟩⟩;have st:=AY ht (.AG (es.map V.ref));exact q t _ (s2.trans st) ⟨es,AV,(hE.keep DV (Ff H2 acc)).keep DV st⟩
abbrev As(c:Rat)(bs:List Bx):List (List Rat):=bs.map λb=>(CC b).map λ(x:Int)=>(x:Rat)*c
inductive QW(vs:List V)(H:Hp)(Q:VK):Prop
 | mk (pb p:Addr) (bs:List Bx) (wd hg:Int) (c:Rat) (h_0:vs=[.ref pb,.int wd,.int hg,.ref p]) (h_1:BV A4 H pb bs) (h_2:bs.length<=40) (h_3:Aa H p c) (h_4:Sb 7 13 c) (h_5:wd.natAbs<=2 ^ 20) (h_6:hg.natAbs<=2 ^ 20) (h_7:(∀b∈bs,Ca b)) (h_8:∀t H',AQ H H'->Bi H' t ((wd:Rat)*c) ((hg:Rat)*c) (As c bs)->Q (.ref t) H'):QW vs H Q
def Mh:Sp:=λvs H Q _=>QW vs H Q
theorem Rb:Ar ["_law_boxes","_law_wide","_law_high","_law_scale","_law_rectangles"] ["_law_boxes","_law_wide","_law_high","_law_scale"] (Aj s_law_floor_of):=Aw
theorem aC:(["_law_box","_law_scale"]:List Str).Nodup:=by decide +kernel
theorem Xf (F:Ag K "_law_floor_of" "_law_floor_of" s_law_floor_of f fd) (G1:AH P w K mg base AM 2 f1 d1 ["_law_number","_law_scale"] Fq) (b1:AW K d1 ["_law_number","_law_scale"] []) (k1:KP K f1) (m1:mg "_law_scaled_one" = some (.ref f1))
  (G2:AH P w K mg base AM 3 f2 d2 ["_law_box","_law_scale"] Kq) (b2:AW K d2 ["_law_box","_law_scale"] []) (k2:KP K f2) (m2:mg "_law_scaled" = some (.ref f2)) (mt:mg "tuple" = none) :
  AH P w K mg base AM 4 f fd ["_law_boxes","_law_wide","_law_high","_law_scale"] Mh:=by
 refine F.ok Rb (λvs H Q E h=>?_) (λcdv A outer s H vs Q E hr h=>?_)
 ·obtain⟨pb,p,bs,wd,hg,c,rfl,_⟩:=h;rfl
 obtain⟨pb,p,bs,wd,hg,c,rfl,⟨cs,hb,hC⟩,hl,hp,sc,nw,nh,bw,q⟩:=h;have hr2:=hr.mono (show 2<=3 by decide);refine⟨_,AS (Jf (i:=4) Rb.nd rfl (Or.inl rfl) (Nc:=["_law_box","_law_scale"]) (cap:=[(1,3)]) (g:=B9 0) (te:=DT Kq [] E0 (Ay (Al 0) (Ay (Al 1) Bc))) rfl (Ip (pv 0))
   (EH rfl rfl (by decide +kernel) (by decide +kernel) (List.forall_mem_cons.mpr ⟨⟨rfl,rfl⟩,List.forall_mem_nil _⟩) rfl (List.forall_mem_cons.mpr ⟨⟨_,_,rfl,rfl,rfl,rfl,rfl⟩,List.forall_mem_nil _⟩))
   (λ_ _ _ _ _=>Az (i:=0) aC rfl (Or.inl rfl)) (λ_ _ _ _ _=>Ah G2 hr (by rfl) m2 k2 b2 .nil Ae (AA (pv 0) (AA (pv 1) AI))))
  (AU (Ab (Ax (AA (Ah G1 hr2 (by rfl) m1 k1 b1 .nil Ae (AA (pv 1) (AA (pv 3) AI))) (AA (Ah G1 hr2 (by rfl) m1 k1 b1 .nil Ae (AA (pv 2) (AA (pv 3) AI))) (AA (Dx Hc (by rfl) mt Gx (AA (pv 4) AI)) AI)))))),?_⟩
 have lc:cs.length=bs.length:=hC.1;refine⟨_,rfl,pb,rfl,⟨_,AR.of hb⟩,λacc hacc=>?_⟩;refine E1 (Hg hb) (by rw[List.length_map]; omega) hacc (λi ys σ hp=>∃es:List Addr,ys=es.map V.ref/\At (A5 Aa) hp es ((As c bs).take i)/\∃u,σ=[u,some (.ref p)]) ⟨[],rfl,At.nil,none,rfl⟩ ?_ ?_
 ·rintro i ys σ H2 x H3 hi sm hacc2 ⟨es,rfl,hE,u,rfl⟩ ⟨rfl,hx⟩ Cc hCc;obtain⟨d,b,rfl,_,hy,fb⟩:=hC.ref hx;refine⟨_,rfl,_,rfl,d,p,b,c,rfl,sm _ _ fb,sm _ _ hp,sc,bw b (List.mem_of_getElem? hy),λt H4 st ht=>?_⟩;refine hCc _ _ _ st ⟨es++[t],by simp,?_,_,rfl⟩;have ec:(As c bs)[i]?=some ((CC b).map λ(x:Int)=>(x:Rat)*c):=by rw[List.getElem?_map,hy]; rfl
  rw[Dw ec];exact(hE.keep BO (Fe acc st)).snoc (Nj ht (st _ _ hacc2))
 rintro ys σ H2 s2 hacc2 hl2 ⟨es,rfl,hE,u,rfl⟩;rw[List.length_map,lc,List.take_of_length_le (by rw[List.length_map]; omega)] at hE;refine⟨_,rfl,_,rfl,wd,p,c,rfl,s2 _ _ hp,sc,nw,λt1 ht1=>?_⟩;have v1:=AY ht1 (.AG [.int ((wd:Rat)*c).num,.int ((wd:Rat)*c).den]);have f1':Aa (AJ H2 t1 (.AG [.int ((wd:Rat)*c).num,.int ((wd:Rat)*c).den])) t1 ((wd:Rat)*c):=AV;generalize AJ H2 t1 (.AG [.int ((wd:Rat)*c).num,.int ((wd:Rat)*c).den])=H3 at v1 f1';refine⟨_,rfl,_,rfl,hg,p,c,rfl,(s2.trans v1) _ _ hp,sc,nh,λt2 ht2=>?_⟩;have v2:=AY ht2 (.AG [.int ((hg:Rat)*c).num,.int ((hg:Rat)*c).den]);have f2':Aa (AJ H3 t2 (.AG [.int ((hg:Rat)*c).num,.int ((hg:Rat)*c).den])) t2 ((hg:Rat)*c):=AV;generalize AJ H3 t2 (.AG [.int ((hg:Rat)*c).num,.int ((hg:Rat)*c).den])=H4 at v2 f2';have v12:=v1.trans v2;refine⟨_,rfl,acc,_,rfl,.inl ⟨AR.of (v12 _ _ hacc2),λt3 ht3=>?_⟩⟩;have v3:=AY ht3 (.AG (es.map V.ref));have f3':A5 (A5 Aa) (AJ H4 t3 (.AG (es.map V.ref))) t3 (As c bs):=⟨es,AV,(hE.keep BO (Ff H2 acc)).keep BO (v12.trans v3)⟩;generalize AJ H4 t3 (.AG (es.map V.ref))=H5 at v3 f3';refine⟨by exact Dv,λpp hpp=>?_⟩;have v4:=AY hpp (.AG [.ref t1,.ref t2,.ref t3]);exact q pp _ (s2.trans (v12.trans (v3.trans v4))) ⟨t1,t2,t3,AV,(v2.trans (v3.trans v4)) _ _ f1',(v3.trans v4) _ _ f2',MG (R:=A5 Aa) (λs h=>BO s h) v4 f3'⟩
def GH(c:Int):Str:=if c=0 then "above" else "beside"
def HX(c:Int):Prop:=c=0\/c=1
theorem Yt:LC GH HX:=by
 refine⟨λx y hx hy e=>?_,λx y hx hy ne=>?_⟩
 ·rcases hx with rfl | rfl <;> rcases hy with rfl | rfl
  ·rfl
  ·exact absurd e (by decide +kernel)
  ·exact absurd e (by decide +kernel)
  ·rfl
 ·rcases hx with rfl | rfl <;> rcases hy with rfl | rfl
  ·exact absurd rfl ne
  ·decide +kernel
  ·decide +kernel
  ·exact absurd rfl ne
abbrev CZ:Type:=Nat×Nat×Nat
def FE(s:CZ):List Int:=[(s.1:Int),(s.2.1:Int),(s.2.2:Int)]
def Hv(j k:Nat):List CZ:=[(0,j,k),(1,j,k)]
def Gb(j m:Nat):List CZ:=(List.range m).flatMap λi=>Hv j (j+1+i)
def GP(n i:Nat):List CZ:=(List.range i).flatMap λj=>Gb j (n-(j+1))
def Df(n:Nat):List CZ:=GP n n
theorem Tf(j m:Nat):Gb j (m+1)=Gb j m++Hv j (j+1+m):=by
 unfold Gb;rw[List.range_succ,List.flatMap_append,List.flatMap_cons,List.flatMap_nil,List.append_nil]
theorem Sq(n i:Nat):GP n (i+1)=GP n i++Gb i (n-(i+1)):=by
 unfold GP;rw[List.range_succ,List.flatMap_append,List.flatMap_cons,List.flatMap_nil,List.append_nil]
theorem Jo{j m:Nat}{s:CZ}:s∈Gb j m↔(s.1=0\/s.1=1)/\s.2.1=j/\j<s.2.2/\s.2.2<j+1+m:=by
 obtain⟨c,a,b⟩:=s;simp only[Gb,List.mem_flatMap,List.mem_range,Hv,List.mem_cons,List.not_mem_nil,or_false,Prod.mk.injEq];constructor
 ·rintro⟨i,hi,⟨rfl,rfl,rfl⟩ | ⟨rfl,rfl,rfl⟩⟩
  ·exact⟨.inl rfl,rfl,by omega,by omega⟩
  ·exact⟨.inr rfl,rfl,by omega,by omega⟩
 ·rintro⟨h1,rfl,h2,h3⟩;refine⟨b-(a+1),by omega,?_⟩;rcases h1 with rfl | rfl
  ·exact .inl ⟨rfl,rfl,by omega⟩
  ·exact .inr ⟨rfl,rfl,by omega⟩
theorem GN{n:Nat}{s:CZ}:s∈Df n↔(s.1=0\/s.1=1)/\s.2.1<s.2.2/\s.2.2<n:=by
 unfold Df GP;simp only[List.mem_flatMap,List.mem_range,Jo];constructor
 ·rintro⟨j,hj,h1,rfl,h2,h3⟩;exact⟨h1,h2,by omega⟩
 ·rintro⟨h1,h2,h3⟩;exact⟨s.2.1,by omega,h1,rfl,h2,by omega⟩
theorem W5(j k:Nat):(Hv j k).Nodup:=by
 unfold Hv;simp
theorem VW(j m:Nat):(Gb j m).Nodup:=by
 induction m with
 | zero=>exact .nil
 | succ m ih =>
  rw[Tf,List.nodup_append];refine⟨ih,W5 _ _,λa ha b hb e=>?_⟩;subst e;have h1:=(Jo.mp ha).2.2.2;simp only[Hv,List.mem_cons,List.not_mem_nil,or_false] at hb;rcases hb with rfl | rfl <;> dsimp only at h1 <;> omega
theorem Ov(n i:Nat):(GP n i).Nodup:=by
 induction i with
 | zero=>exact .nil
 | succ i ih =>
  rw[Sq,List.nodup_append];refine⟨ih,VW _ _,λa ha b hb e=>?_⟩;subst e;have h1:=(Jo.mp hb).2.1;unfold GP at ha;simp only[List.mem_flatMap,List.mem_range,Jo] at ha;obtain⟨j,hj,_,h2,_⟩:=ha;omega
theorem VZ{s t:CZ}(h:FE s=FE t):s=t:=by
 obtain⟨a,b,c⟩:=s;obtain⟨d,e,f⟩:=t;simp only[FE,List.cons.injEq,and_true] at h;simp only[Prod.mk.injEq];omega
theorem V8{l:List CZ}(h:l.Nodup):(l.map FE).Nodup:=by
 rw[List.Nodup,List.pairwise_map];exact List.Pairwise.imp (λ{a b} n z=>n (VZ z)) h
end
section
variable {K:PySem.W.Frag}
theorem T8 {J:It} {n:Nat} {H1:Hp} {f:Nat->Hp->V->Hp->Prop} {acc:Addr} {σ0:St} {g:TG} {tt:TT} {te:TE} {G:Hp->Prop} (r:JU J H1 n f) (hn:n<=1000) (hacc:H1 acc=none) (Iv:Nat->List V->St->Hp->Prop) (h0:Iv 0 [] σ0 H1)
  (hs:∀(i:Nat) (ys:List V) (σ:St) (H2:Hp) (x:V) (H3:Hp),i<n->AQ H1 H2->H2 acc=some (.AN ys)->Iv i ys σ (del H2 acc)->f i H2 x H3->∀(C:St->VK) (N:St->Hp->Prop),(∀(σ4:St) (v:V) (H5:Hp),AQ H2 H5->Iv (i+1) (ys++[v]) σ4 (del H5 acc)->C σ4 v H5)->(∀(σ4:St) (H5:Hp),AQ H2 H5->Iv (i+1) ys σ4 (del H5 acc)->N σ4 H5) →
   g x σ H3 λσ4 H4=>tt σ4 H4 λok H5=>if ok=true then te σ4 H5 (C σ4) else N σ4 H5)
  (fin:∀(ys:List V) (σ:St) (H2:Hp),AQ H1 H2->H2 acc=some (.AN ys)->Iv n ys σ (del H2 acc)->G H2) :
  ∃W:Nat->Nat->List V->St->Hp->Prop,(∃m,W 0 m [] σ0 (AJ H1 acc (.AN [])))/\∀i m ys σc H2,W i m ys σc H2 →
   (J.stop i H2/\G H2)\/(J.go i H2/\∀x H3,J.EF i H2 x H3->g x σc H3 λσ4 H4=>tt σ4 H4 λok H5=>if ok=true then (te σ4 H5 λv H6=>H6 acc=some (.AN ys)/\ys.length<sizeLine/\∃m',m' < m/\W (i+1) m' (ys++[v]) σ4 (AJ H6 acc (.AN (ys++[v])))) else ∃m',m' < m/\W (i+1) m' ys σ4 H5):=by
 refine⟨λi m ys σ H2=>m=n-i/\i<=n/\AQ H1 H2/\H2 acc=some (.AN ys)/\ys.length<=i/\Iv i ys σ (del H2 acc),⟨n,rfl,Nat.zero_le _,?_,AV,Nat.le_refl _,?_⟩,?_⟩
 ·intro b o e; rw[Ao (A7 e hacc)]; exact e
 ·rw[KR,Pb hacc]; exact h0
 ·rintro i m ys σc H2 ⟨rfl,hi,sm,ha,hl,iv⟩;rcases Nat.lt_or_ge i n with hlt | hge
  ·refine .inr ⟨r.go i H2 hlt sm,λx H3 yl=>?_⟩;refine hs i ys σc H2 x H3 hlt sm ha iv (r.yl i H2 x H3 hlt sm yl) (λσ4 v H5=>H5 acc=some (.AN ys)/\ys.length<sizeLine/\∃m',m' < n-i/\(m'=n-(i+1)/\i+1<=n/\AQ H1 (AJ H5 acc (.AN (ys++[v])))/\(AJ H5 acc (.AN (ys++[v]))) acc=some (.AN (ys++[v]))/\(ys++[v]).length<=i+1/\Iv (i+1) (ys++[v]) σ4 (del (AJ H5 acc (.AN (ys++[v]))) acc)))
    (λσ4 H5=>∃m',m' < n-i/\(m'=n-(i+1)/\i+1<=n/\AQ H1 H5/\H5 acc=some (.AN ys)/\ys.length<=i+1/\Iv (i+1) ys σ4 (del H5 acc))) ?_ ?_
   ·intro σ4 v H5 s5 iv5;refine⟨s5 _ _ ha,by rw[sizeLine_eq]; omega,n-(i+1),by omega,rfl,hlt,?_,AV,by rw[List.length_append,List.length_singleton]; omega,?_⟩
    ·intro b o e; rw[Ao (A7 e hacc)]; exact s5 _ _ (sm _ _ e)
    ·rw[KR]; exact iv5
   ·intro σ4 H5 s5 iv5;exact⟨n-(i+1),by omega,rfl,hlt,sm.trans s5,s5 _ _ ha,by omega,iv5⟩
  ·obtain rfl:i=n:=by omega
   exact .inl ⟨r.st H2 sm,fin ys σc H2 sm ha iv⟩
end
section
variable {P:Program} {w:World} {K:PySem.W.Frag} {mg:Str->Option Value} {base:Heap} {f g h f1 f2 f3 f4 f5 C1 C2:Addr} {fd gd hd d1 d2 d3 d4 d5:FuncData}
theorem So{α:Type}(p:α->Bool){l:List α}{i:Nat}{x:α}(h:l[i]?=some x):(l.take (i+1)).filter p=(l.take i).filter p++(if p x=true then [x] else []):=by
 rw[Dw h,List.filter_append];by_cases z:p x=true
 ·rw[if_pos z,List.filter_cons_of_pos z,List.filter_nil]
 ·rw[if_neg z,List.filter_cons_of_neg z,List.filter_nil]
end
abbrev AO(bs:List AE)(i:Nat):AE:=bs.getD i (0,0,0,0)
def D5(bs:List AE)(j k:Nat)(lev:Int)(n:Nat):Bool:=decide (n=j) || (decide (n=k) || !((decide (lev=(AO bs n).d) || decide (lev=(AO bs n).u)) && (decide ((AO bs n).l<=(AO bs j).r) && decide ((AO bs j).l<=(AO bs n).r))))
def CJ(bs:List AE)(j k:Nat):Bool:=((decide ((AO bs j).l=(AO bs k).l) && decide ((AO bs j).r=(AO bs k).r)) && (decide ((AO bs j).d=(AO bs k).u) || decide ((AO bs k).d=(AO bs j).u))) && (List.range bs.length).all (D5 bs j k (max (AO bs j).d (AO bs k).d))
def Br(bs:List AE)(j k:Nat):Bool:=(decide ((AO bs j).d=(AO bs k).d) && decide ((AO bs j).u=(AO bs k).u)) && (decide ((AO bs j).r=(AO bs k).l) || decide ((AO bs k).r=(AO bs j).l))
def DM(bs:List AE)(s:CZ):Bool:=if s.1=0 then CJ bs s.2.1 s.2.2 else Br bs s.2.1 s.2.2
section
variable {c:Rat} {bs:List AE}
theorem EJ(hc:0<c){x y:Int}:(x:Rat)*c=(y:Rat)*c↔x=y:=by
 constructor
 ·intro h;have hn:c≠0:=λz=>by rw[z] at hc; exact absurd hc (by decide)
  have:(x:Rat)=(y:Rat):=by grind
  exact_mod_cast this
 ·rintro rfl; rfl
theorem KC(hc:0<c){x y:Int}:(x:Rat)*c<(y:Rat)*c↔x<y:=by
 rw[<-Rat.intCast_lt_intCast (a:=x) (b:=y)];exact Rat.mul_lt_mul_right hc
theorem Im{n:Nat}(h:n<bs.length):(As c bs).getD n []=[((AO bs n).l:Rat)*c,((AO bs n).d:Rat)*c,((AO bs n).r:Rat)*c,((AO bs n).u:Rat)*c]:=by
 have e:(As c bs).getD n []=(CC (AO bs n)).map λ(x:Int)=>(x:Rat)*c:=by
  simp[List.getD_eq_getElem?_getD,h]
 rw[e]; rfl
theorem VX(hc:0<c){j k n:Nat}{x:Int}(hn:n<bs.length):Dh (As c bs) j k ((x:Rat)*c) (((AO bs j).l:Rat)*c) (((AO bs j).r:Rat)*c) n=D5 bs j k x n:=by
 unfold Dh D5 IB;rw[Im hn];show(_ || (_ || !((decide (((AO bs n).d:Rat)*c=x*c) || decide (((AO bs n).u:Rat)*c=x*c)) && (!decide (((AO bs n).r:Rat)*c<((AO bs j).l:Rat)*c) && !decide (((AO bs j).r:Rat)*c<((AO bs n).l:Rat)*c)))))=_;rw[decide_eq_decide.mpr (EJ hc),decide_eq_decide.mpr (EJ hc),decide_eq_decide.mpr (KC hc),decide_eq_decide.mpr (KC hc)];congr 3;have e1:decide ((AO bs n).d=x)=decide (x=(AO bs n).d):=decide_eq_decide.mpr eq_comm;have e2:decide ((AO bs n).u=x)=decide (x=(AO bs n).u):=decide_eq_decide.mpr eq_comm;have e3:(!decide ((AO bs n).r<(AO bs j).l))=decide ((AO bs j).l<=(AO bs n).r):=by rw[<-decide_not]; exact decide_eq_decide.mpr Int.not_lt
 have e4:(!decide ((AO bs j).r<(AO bs n).l))=decide ((AO bs n).l<=(AO bs j).r):=by rw[<-decide_not]; exact decide_eq_decide.mpr Int.not_lt
 rw[e1,e2,e3,e4,Bool.and_comm (decide ((AO bs j).l<=(AO bs n).r))]
theorem Qg(hc:0<c){j k:Nat}(hj:j<bs.length)(hk:k<bs.length)(tj:(AO bs j).d<(AO bs j).u)(tk:(AO bs k).d<(AO bs k).u):Bz (As c bs) j k=CJ bs j k:=by
 unfold Bz;rw[Im hj,Im hk];have el:JP [((AO bs j).l:Rat)*c,((AO bs j).d:Rat)*c,((AO bs j).r:Rat)*c,((AO bs j).u:Rat)*c] [((AO bs k).l:Rat)*c,((AO bs k).d:Rat)*c,((AO bs k).r:Rat)*c,((AO bs k).u:Rat)*c]=if (AO bs j).d=(AO bs k).u then some (((AO bs j).d:Rat)*c) else if (AO bs k).d=(AO bs j).u then some (((AO bs k).d:Rat)*c) else none:=by
  show(if ((AO bs j).d:Rat)*c=((AO bs k).u:Rat)*c then some (((AO bs j).d:Rat)*c) else if ((AO bs k).d:Rat)*c=((AO bs j).u:Rat)*c then some (((AO bs k).d:Rat)*c) else none)=_;simp only[EJ hc]
 rw[el];have all:∀x:Int,(List.range (As c bs).length).all (Dh (As c bs) j k ((x:Rat)*c) (((AO bs j).l:Rat)*c) (((AO bs j).r:Rat)*c))=(List.range bs.length).all (D5 bs j k x):=λx=>by
  rw[show(As c bs).length=bs.length from List.length_map ..];rw[Bool.eq_iff_iff,List.all_eq_true,List.all_eq_true];exact forall_congr' λn=>forall_congr' λhn=>by rw[VX hc (List.mem_range.mp hn)]
 unfold CJ;by_cases z1:(AO bs j).d=(AO bs k).u
 ·rw[if_pos z1];show((decide (((AO bs j).l:Rat)*c=((AO bs k).l:Rat)*c) && decide (((AO bs j).r:Rat)*c=((AO bs k).r:Rat)*c)) && _)=_;rw[decide_eq_decide.mpr (EJ hc),decide_eq_decide.mpr (EJ hc),decide_eq_true z1,Bool.true_or,Bool.and_true];congr 1;rw[show max (AO bs j).d (AO bs k).d=(AO bs j).d by omega];exact all _
 ·rw[if_neg z1,decide_eq_false z1,Bool.false_or];by_cases z2:(AO bs k).d=(AO bs j).u
  ·rw[if_pos z2,decide_eq_true z2,Bool.and_true];show((decide (((AO bs j).l:Rat)*c=((AO bs k).l:Rat)*c) && decide (((AO bs j).r:Rat)*c=((AO bs k).r:Rat)*c)) && _)=_;rw[decide_eq_decide.mpr (EJ hc),decide_eq_decide.mpr (EJ hc)];congr 1;rw[show max (AO bs j).d (AO bs k).d=(AO bs k).d by omega];exact all _
  ·rw[if_neg z2,decide_eq_false z2,Bool.and_false,Bool.false_and]
theorem MB(hc:0<c){j k:Nat}(hj:j<bs.length)(hk:k<bs.length):BJ (As c bs) j k=Br bs j k:=by
 unfold BJ Br;rw[Im hj,Im hk];show((decide (((AO bs j).d:Rat)*c=((AO bs k).d:Rat)*c) && decide (((AO bs j).u:Rat)*c=((AO bs k).u:Rat)*c)) && (decide (((AO bs j).r:Rat)*c=((AO bs k).l:Rat)*c) || decide (((AO bs k).r:Rat)*c=((AO bs j).l:Rat)*c)))=_;rw[decide_eq_decide.mpr (EJ hc),decide_eq_decide.mpr (EJ hc),decide_eq_decide.mpr (EJ hc),decide_eq_decide.mpr (EJ hc)]
def DZ(bs:List AE)(s:CZ):Nat:=if s.1=0 then (if (AO bs s.2.1).u=(AO bs s.2.2).d then s.2.1 else s.2.2) else (if (AO bs s.2.1).r=(AO bs s.2.2).l then s.2.1 else s.2.2)
def DX(bs:List AE)(s:CZ):Nat:=if s.1=0 then (if (AO bs s.2.1).u=(AO bs s.2.2).d then s.2.2 else s.2.1) else (if (AO bs s.2.1).r=(AO bs s.2.2).l then s.2.2 else s.2.1)
theorem Iq(s:CZ):(DZ bs s=s.2.1/\DX bs s=s.2.2)\/(DZ bs s=s.2.2/\DX bs s=s.2.1):=by
 unfold DZ DX;split <;> split <;> simp
theorem J6{s:CZ}(h0:s.1=0)(h:DM bs s=true):(AO bs (DZ bs s)).u=(AO bs (DX bs s)).d/\(AO bs (DZ bs s)).l=(AO bs (DX bs s)).l/\(AO bs (DZ bs s)).r=(AO bs (DX bs s)).r:=by
 unfold DM at h;rw[if_pos h0] at h;unfold CJ at h;simp only[Bool.and_eq_true,Bool.or_eq_true,decide_eq_true_eq] at h;obtain⟨⟨⟨h1,h2⟩,h3⟩,_⟩:=h;unfold DZ DX;rw[if_pos h0,if_pos h0];split
 ·rename_i z
  exact⟨z,h1,h2⟩
 ·rename_i z
  rcases h3 with h3 | h3
  ·exact⟨h3.symm,h1.symm,h2.symm⟩
  ·exact absurd h3.symm z
theorem J4{s:CZ}(h0:¬s.1=0)(h:DM bs s=true):(AO bs (DZ bs s)).r=(AO bs (DX bs s)).l/\(AO bs (DZ bs s)).d=(AO bs (DX bs s)).d/\(AO bs (DZ bs s)).u=(AO bs (DX bs s)).u:=by
 unfold DM at h;rw[if_neg h0] at h;unfold Br at h;simp only[Bool.and_eq_true,Bool.or_eq_true,decide_eq_true_eq] at h;obtain⟨⟨h1,h2⟩,h3⟩:=h;unfold DZ DX;rw[if_neg h0,if_neg h0];split
 ·rename_i z
  exact⟨z,h1,h2⟩
 ·rename_i z
  rcases h3 with h3 | h3
  ·exact absurd h3 z
  ·exact⟨h3,h1.symm,h2.symm⟩
theorem MC(nov:CY bs)(tru:∀b∈bs,b.l<b.r/\b.d<b.u){i j:Nat}(hi:i<bs.length)(hj:j<bs.length)(e1:(AO bs i).l=(AO bs j).l)(e2:(AO bs i).d=(AO bs j).d):i=j:=by
 have gi:AO bs i=bs[i]:=by simp[hi]
 have gj:AO bs j=bs[j]:=by simp[hj]
 have ti:=tru bs[i] (List.getElem_mem hi);have tj:=tru bs[j] (List.getElem_mem hj);rw[gi,gj] at e1 e2;have key:Cq bs[i] bs[j]=true:=G0.mpr ⟨by omega,by omega,by omega,by omega,by omega,by omega,by omega,by omega⟩;have key2:Cq bs[j] bs[i]=true:=G0.mpr ⟨by omega,by omega,by omega,by omega,by omega,by omega,by omega,by omega⟩;have pw:=List.pairwise_iff_getElem.mp nov;rcases Nat.lt_trichotomy i j with z | z | z
 ·have:=pw i j hi hj z
  rw[key] at this;cases this
 ·exact z
 ·have:=pw j i hj hi z
  rw[key2] at this;cases this
theorem Wv(nov:CY bs)(tru:∀b∈bs,b.l<b.r/\b.d<b.u){s t:CZ}(hs:s∈Df bs.length)(ht:t∈Df bs.length)(fs:DM bs s=true)(ft:DM bs t=true)(e1:s.1=t.1)(e2:DZ bs s=DZ bs t):s=t:=by
 obtain⟨a1,a2,a3⟩:=GN.mp hs;obtain⟨b1,b2,b3⟩:=GN.mp ht;have ls:DX bs s<bs.length:=by rcases Iq (bs:=bs) s with z | z <;> omega
 have lt:DX bs t<bs.length:=by rcases Iq (bs:=bs) t with z | z <;> omega
 have eo:DX bs s=DX bs t:=by
  refine MC nov tru ls lt ?_ ?_
  ·by_cases z:s.1=0
   ·have p:=J6 z fs;have q:=J6 (e1 ▸ z) ft;rw[e2] at p;omega
   ·have p:=J4 z fs;have q:=J4 (e1 ▸ z) ft;rw[e2] at p;omega
  ·by_cases z:s.1=0
   ·have p:=J6 z fs;have q:=J6 (e1 ▸ z) ft;rw[e2] at p;omega
   ·have p:=J4 z fs;have q:=J4 (e1 ▸ z) ft;rw[e2] at p;omega
 obtain⟨c,j,k⟩:=s;obtain⟨c',j',k'⟩:=t;have ts:=Iq (bs:=bs) (c,j,k);have tt:=Iq (bs:=bs) (c',j',k');dsimp only at *;simp only[Prod.mk.injEq];omega
theorem OQ{α:Type}[DecidableEq α]:∀{l m:List α},l.Nodup->(∀r∈l,r∈m)->∃k,m.Perm (l++k)
 | [],m,_,_=>⟨m,.refl _⟩
 | x :: l,m,h1,h2=>by
  obtain⟨n1,n2⟩:=List.nodup_cons.mp h1;obtain⟨k,p⟩:=OQ (l:=l) (m:=m.erase x) n2 λr hr=>by
   have ne:r≠x:=λz=>n1 (z ▸ hr)
   exact(List.mem_erase_of_ne ne).mpr (h2 r (List.mem_cons_of_mem _ hr))
  exact⟨k,(List.perm_cons_erase (h2 x List.mem_cons_self)).trans (p.cons x)⟩
theorem WW(nov:CY bs)(tru:∀b∈bs,b.l<b.r/\b.d<b.u):((Df bs.length).filter (DM bs)).length<=2*bs.length:=by
 have nd:(((Df bs.length).filter (DM bs)).map λs=>2*DZ bs s+s.1).Nodup:=by
  rw[List.Nodup,List.pairwise_map];refine List.Pairwise.imp_of_mem (λ{s t} hs ht ne z=>ne ?_) ((Ov bs.length bs.length).sublist List.filter_sublist);obtain⟨ms,fs⟩:=List.mem_filter.mp hs;obtain⟨mt,ft⟩:=List.mem_filter.mp ht;have a1:=(GN.mp ms).1;have b1:=(GN.mp mt).1;exact Wv nov tru ms mt fs ft (by omega) (by omega)
 have sub:∀x∈(((Df bs.length).filter (DM bs)).map λs=>2*DZ bs s+s.1),x∈List.range (2*bs.length):=λx hx=>by
  obtain⟨s,hs,rfl⟩:=List.mem_map.mp hx;obtain⟨a1,a2,a3⟩:=GN.mp (List.mem_filter.mp hs).1;rw[List.mem_range];rcases Iq (bs:=bs) s with z | z <;> omega
 obtain⟨m,pm⟩:=OQ nd sub
 have:=pm.length_eq
 rw[List.length_range,List.length_append,List.length_map] at this;omega
theorem V1{t b:Int}(t0:1<=t)(t1:t<=128)(b0:1<=b)(b1:b<=8192):Sb 7 13 ((t:Rat) / (b:Rat))/\0<((t:Rat) / (b:Rat)).num:=by
 have e0:=IY t b (by omega);have l1:=OD t b (by omega);have l2:=OR t b (by omega);have fc:=N7 t b;have fp:=Oh t b (by omega);rw[e0] at l1 l2 fc fp;dsimp only at l1 l2 fc fp;rw[Int.natAbs_natCast] at l2;have p1:(2:Nat) ^ 7=128:=by decide
 have p2:(2:Nat) ^ 13=8192:=by decide
 refine⟨⟨by omega,by omega⟩,?_⟩;by_cases h:0<((t:Rat) / (b:Rat)).num
 ·exact h
 ·have h1:=Int.mul_le_mul_of_nonneg_right (Int.not_lt.mp h) (show 0<=b by omega);have h2:=Int.mul_pos (show 0<t by omega) fp;omega
variable {P:Program} {w:World} {K:PySem.W.Frag} {mg:Str->Option Value} {base:Heap} {f g h f1 f2 f3:Addr} {fd gd hd d1 d2 d3:FuncData}
inductive PZ(vs:List V)(H:Hp)(Q:VK):Prop
 | mk (z:Int) (h_0:vs=[.int z]) (h_1:Qq z) (h_2:∀s,4<=s->s<=9199->Q (.int s) H):PZ vs H Q
def MM:Sp:=λvs H Q _=>PZ vs H Q
theorem Z4:Ar ["_law_cell"] ["_law_cell"] (Aj s_law_side):=Aw
theorem WZ(F:Ag K "_law_side" "_law_side" s_law_side f fd):AH P w K mg base AM 1 f fd ["_law_cell"] MM:=by
 refine F.ok Z4 (λvs H Q E h=>?_) (λcdv A outer s H vs Q E hr h=>?_)
 ·obtain⟨z,rfl,_⟩:=h;rfl
 obtain⟨z,rfl,hz,q⟩:=h;refine⟨_,AS (A0 (Aq EO (AX Bw (pv 0) AF) AF (Ac _)) (AU (Ab (AX BU AF (AX Bw (AX E3 (pv 0) AF) AF)))) A2) (AU (Ab (AX BU AF (AX Bw (AX E3 (pv 0) AF) AF)))),?_⟩;refine⟨_,rfl,_,_,rfl,rfl,(show(0:Int)<3 by decide),_,_,rfl,rfl,_,rfl,?_⟩;refine F0 (λ_=>?_) (λ_=>?_)
 ·have a0:=Int.emod_nonneg (z / 3) (show(9:Int)≠0 by decide);have a1:=Int.emod_lt_of_pos (z / 3) (show(0:Int)<9 by decide);exact⟨_,rfl,_,_,rfl,rfl,⟨by decide,by decide⟩,_,_,rfl,rfl,(show(0:Int)<9 by decide),_,_,rfl,rfl,q _ (by omega) (by omega)⟩
 ·have a0:=Int.emod_nonneg (z / 3) (show(9000:Int)≠0 by decide);have a1:=Int.emod_lt_of_pos (z / 3) (show(0:Int)<9000 by decide);exact⟨_,rfl,_,_,rfl,rfl,⟨by decide,by decide⟩,_,_,rfl,rfl,(show(0:Int)<9000 by decide),_,_,rfl,rfl,q _ (by omega) (by omega)⟩
inductive Qa(vs:List V)(H:Hp)(Q:VK):Prop
 | mk (z:Int) (h_0:vs=[.int z]) (h_2:∀c,Sb 7 13 c->0<c.num->NN H Q c):Qa vs H Q
def Mc:Sp:=λvs H Q _=>Qa vs H Q
theorem Zi:Ar ["_law_cell"] ["_law_cell"] (Aj s_law_scale_by):=Aw
theorem YA(F:Ag K "_law_scale_by" "_law_scale_by" s_law_scale_by f fd)(G:AH P w K mg base AM 1 g gd ["_law_top","_law_bottom"] Kp)(bG:AW K gd ["_law_top","_law_bottom"] [])(kG:KP K g)(mG:mg "_law_lowest" = some (.ref g)):AH P w K mg base AM 2 f fd ["_law_cell"] Mc:=by
 refine F.ok Zi (λvs H Q E h=>?_) (λcdv A outer s H vs Q E hr h=>?_)
 ·obtain⟨z,rfl,_⟩:=h;rfl
 obtain⟨z,rfl,q⟩:=h;refine⟨_,AU (Ab (Ah G hr (by rfl) mG kG bG .nil Ae (AA (AX BU AF (AX Bw (pv 0) AF)) (AA (AX BU AF (AX Bw (AX E3 (pv 0) AF) AF)) AI)))),?_⟩;have t0:=Int.emod_nonneg z (show(99:Int)≠0 by decide);have t1:=Int.emod_lt_of_pos z (show(0:Int)<99 by decide);have b0:=Int.emod_nonneg (z / 99) (show(60:Int)≠0 by decide);have b1:=Int.emod_lt_of_pos (z / 99) (show(0:Int)<60 by decide);have so:=V1 (t:=1+z % 99) (b:=1+z / 99 % 60) (by omega) (by omega) (by omega) (by omega);exact⟨_,rfl,_,_,rfl,rfl,(show(0:Int)<99 by decide),_,_,rfl,rfl,_,rfl,_,_,rfl,rfl,⟨by decide,by decide⟩,_,_,rfl,rfl,(show(0:Int)<60 by decide),_,_,rfl,rfl,_,_,rfl,by omega,X9 (n:=13) (by omega) (by decide),q _ so.1 so.2⟩
inductive Ph(t:List AE->Nat->Nat->Bool)(vs:List V)(H:Hp)(Q:VK):Prop
 | mk (p:Addr) (bs:List AE) (j k:Nat) (h_0:vs=[.ref p,.int (j:Int),.int (k:Int)]) (h_1:BV A4 H p bs) (h_2:bs.length<=30) (h_3:j<k) (h_4:k<bs.length) (h_5:∀H',AQ H H'->Q (.bl (t bs j k)) H'):Ph t vs H Q
def EL(t:List AE->Nat->Nat->Bool):Sp:=λvs H Q _=>Ph t vs H Q
theorem Dz{bs:List AE}{j:Nat}(h:j<bs.length):bs[j]?=some (AO bs j):=by
 rw[List.getElem?_eq_getElem h]; simp[h]
theorem R6:Ar ["_law_boxes","_law_j","_law_k"] ["_law_boxes","_law_j","_law_k"] (Aj s_law_beside):=Aw
theorem Tj(F:Ag K "_law_beside" "_law_beside" s_law_beside f fd)(ml:mg "len" = none):AH P w K mg base AM 1 f fd ["_law_boxes","_law_j","_law_k"] (EL Br):=by
 refine F.ok R6 (λvs H Q E h=>?_) (λcdv A outer s H vs Q E hr h=>?_)
 ·obtain⟨p,bs,j,k,rfl,_⟩:=h;rfl
 obtain⟨p,bs,j,k,rfl,⟨cs,hp,hC⟩,n30,jk,kn,q⟩:=h;have q:=q H (AQ.refl _);have lm:(cs.map V.ref).length=bs.length:=by rw[List.length_map,hC.1]
 obtain⟨a,ea,ha⟩:=hC.get (Dz (show j<bs.length by omega));obtain⟨b,eb,hb⟩:=hC.get (Dz kn);unfold Br at q;generalize AO bs j=X at ha q;generalize AO bs k=Y at hb q;obtain⟨x0,x1,x2,x3⟩:=X;obtain⟨y0,y1,y2,y3⟩:=Y;refine⟨_,AS (A0 (PW.pt (D8 (GV (Ji FA Cy Cy AF (pv 1) (pv 2) (BE (B6 (K:=K)) (by rfl) ml B7 (AA (pv 0) AI))))
   (D8 (Aq CQ (pT K (pL K (pv 0) (pv 1)) AF) (pT K (pL K (pv 0) (pv 2)) AF) (Ac _))
   (GW (Aq CQ (pT K (pL K (pv 0) (pv 1)) AF) (pT K (pL K (pv 0) (pv 2)) AF) (Ac _)))))) (AU (Ab CI)) A2)
  (AU (Ab (GY (Bm Bt (pT K (pL K (pv 0) (pv 1)) AF) (pT K (pL K (pv 0) (pv 2)) AF) (Ac _))
   (Dg (Bm Bt (pT K (pL K (pv 0) (pv 2)) AF) (pT K (pL K (pv 0) (pv 1)) AF) (Ac _)))))),?_⟩
 refine⟨_,rfl,_,_,rfl,rfl,_,rfl,A8 (show(0:Int)<=(j:Int) by omega) ?_⟩;refine⟨_,rfl,_,_,rfl,rfl,_,rfl,A8 (show(j:Int)<(k:Int) by omega) ?_⟩;refine⟨_,rfl,p,_,rfl,.inl (AR.of hp),_,_,rfl,rfl,_,rfl,CH (show(k:Int)<((cs.map V.ref).length:Int) by rw[lm]; omega) ?_⟩;have q':Q (.bl ((decide (x1=y1) && decide (x3=y3)) && (decide (x2=y0) || decide (y2=x0)))) H:=q;refine⟨_,rfl,_,rfl,p,_,_,_,rfl,rfl,AR.of hp,Ap (BF ea),a,_,_,_,rfl,rfl,AK.of ha,GA _ _ _ _,_,rfl,_,rfl,p,_,_,_,rfl,rfl,AR.of hp,Ap (BF eb),b,_,_,_,rfl,rfl,AK.of hb,GA _ _ _ _,rfl,_,rfl,?_⟩;by_cases z1:x1=y1
 case neg =>
  refine CG (FV z1) ?_;rw[decide_eq_false z1,Bool.false_and,Bool.false_and] at q';exact q'
 refine CH (iv z1) ?_;refine⟨_,rfl,_,rfl,p,_,_,_,rfl,rfl,AR.of hp,Ap (BF ea),a,_,_,_,rfl,rfl,AK.of ha,HH _ _ _ _,_,rfl,_,rfl,p,_,_,_,rfl,rfl,AR.of hp,Ap (BF eb),b,_,_,_,rfl,rfl,AK.of hb,HH _ _ _ _,rfl,_,rfl,?_⟩;by_cases z3:x3=y3
 case neg =>
  refine CG (FV z3) ?_;rw[decide_eq_false z3,Bool.and_false,Bool.false_and] at q';exact q'
 refine CH (iv z3) ?_;rw[decide_eq_true z1,decide_eq_true z3,Bool.true_and,Bool.true_and] at q';refine⟨_,rfl,_,rfl,p,_,_,_,rfl,rfl,AR.of hp,Ap (BF ea),a,_,_,_,rfl,rfl,AK.of ha,Gn _ _ _ _,_,rfl,_,rfl,p,_,_,_,rfl,rfl,AR.of hp,Ap (BF eb),b,_,_,_,rfl,rfl,AK.of hb,Ge _ _ _ _,rfl,_,rfl,?_⟩;by_cases z2:x2=y0
 ·refine A8 (iv z2) ?_;rw[decide_eq_true z2,Bool.true_or] at q';exact q'
 refine Am (FV z2) ?_;rw[decide_eq_false z2,Bool.false_or] at q';refine⟨_,rfl,_,rfl,p,_,_,_,rfl,rfl,AR.of hp,Ap (BF eb),b,_,_,_,rfl,rfl,AK.of hb,Gn _ _ _ _,_,rfl,_,rfl,p,_,_,_,rfl,rfl,AR.of hp,Ap (BF ea),a,_,_,_,rfl,rfl,AK.of ha,Ge _ _ _ _,rfl,?_⟩;rw[show decide (V.int y2=V.int x0)=decide (y2=x0) from decide_eq_decide.mpr ⟨λz=>V.int.inj z,λz=>by rw[z]⟩];exact q'
theorem Gg:Ar ["_law_boxes","_law_j","_law_k","_law_level","_law_number","_law_box"] ["_law_boxes","_law_j","_law_k"] (Aj s_law_above):=Aw
theorem Fn{H:Hp}{p:Addr}{x y:Int}(h:H p=some (.AG [.int x,.int y])):B2 H (.ref p) (.tuple [.int x,.int y]):=by
 refine .AG h rfl λi v d e1 e2=>?_
 match i with
 | 0=>obtain rfl:=Option.some.inj e1; obtain rfl:=Option.some.inj e2; exact .int _
 | 1=>obtain rfl:=Option.some.inj e1; obtain rfl:=Option.some.inj e2; exact .int _
 | i+2=>simp at e1
theorem YL(x y z:Int):(if false=true then !([PyData.int x,PyData.int y].any λv=>PyData.eqv v (.int z)) else [PyData.int x,PyData.int y].any λv=>PyData.eqv v (.int z))=(decide (z=x) || decide (z=y)):=by
 rw[if_neg Bool.false_ne_true,Bool.eq_iff_iff];simp[PyData.eqv];constructor
 ·rintro(h | h)
  ·exact .inl h.symm
  ·exact .inr h.symm
 ·rintro(h | h)
  ·exact .inl h.symm
  ·exact .inr h.symm
set_option maxHeartbeats 4000000 in
theorem Ua(F:Ag K "_law_above" "_law_above" s_law_above f fd)(ml:mg "len" = none)(mx:mg "max" = none)(me:mg "enumerate" = none):AH P w K mg base AM 1 f fd ["_law_boxes","_law_j","_law_k"] (EL CJ):=by
 refine F.ok Gg (λvs H Q E h=>?_) (λcdv A outer s H vs Q E hr h=>?_)
 ·obtain⟨p,bs,j,k,rfl,_⟩:=h;rfl
 obtain⟨p,bs,j,k,rfl,⟨cs,hp,hC⟩,n30,jk,kn,q⟩:=h;have lm:(cs.map V.ref).length=bs.length:=by rw[List.length_map,hC.1]
 obtain⟨a,ea,ha⟩:=hC.get (Dz (show j<bs.length by omega));obtain⟨b,eb,hb⟩:=hC.get (Dz kn);refine⟨_,AS (A0 (PW.pt (D8 (GV (Ji FA Cy Cy AF (pv 1) (pv 2) (BE (B6 (K:=K)) (by rfl) ml B7 (AA (pv 0) AI))))
   (D8 (Aq CQ (pT K (pL K (pv 0) (pv 1)) AF) (pT K (pL K (pv 0) (pv 2)) AF) (Ac _))
   (GW (Aq CQ (pT K (pL K (pv 0) (pv 1)) AF) (pT K (pL K (pv 0) (pv 2)) AF) (Ac _)))))) (AU (Ab CI)) A2)
  (AS (A0 (PW.pt (DE (Aq CQ (pT K (pL K (pv 0) (pv 1)) AF) (pT K (pL K (pv 0) (pv 2)) AF) (Ac _)) (EK (Aq CQ (pT K (pL K (pv 0) (pv 2)) AF) (pT K (pL K (pv 0) (pv 1)) AF) (Ac _))))) (AU (Ab CI)) A2)
  (AS (Ad (i:=3) Gg.nd rfl (Or.inl rfl) (BE (Hd rfl) (by rfl) mx Hq (AA (pT K (pL K (pv 0) (pv 1)) AF) (AA (pT K (pL K (pv 0) (pv 2)) AF) AI))))
  (AS (Ce PassesOwn.never rfl (Ic (by rfl) me (AA (pv 0) AI)) (D7 (n:=2) (K:=K) rfl (BQ (Az (i:=4) Gg.nd rfl (Or.inl rfl)) (BQ (Az (i:=5) Gg.nd rfl (Or.inl rfl)) D0)))
   (AU (A0 (PW.pt (DE (Aq CQ (pv 4) (pv 1) (Ac _)) (DE (Aq CQ (pv 4) (pv 2) (Ac _)) (EK (Aq (Qb hr.units) (pv 3) (Ax (AA (pT K (pv 5) AF) (AA (pT K (pv 5) AF) AI))) (by with_unfolding_all rfl))))))
    (AU (A0 (PW.pt (DE (Aq FA (pT K (pv 5) AF) (pT K (pL K (pv 0) (pv 1)) AF) (Ac _)) (EK (Aq FA (pT K (pL K (pv 0) (pv 1)) AF) (pT K (pv 5) AF) (Ac _))))) (AU (Ab CI)) A2)) A2)))
  (AU (Ab CI))))),?_⟩
 obtain⟨X,hX⟩:∃X,AO bs j=X:=⟨_,rfl⟩;obtain⟨Y,hY⟩:∃Y,AO bs k=Y:=⟨_,rfl⟩;obtain⟨x0,x1,x2,x3⟩:=X;obtain⟨y0,y1,y2,y3⟩:=Y;rw[hX] at ha;rw[hY] at hb;have q':∀H',AQ H H'->Q (.bl (((decide (x0=y0) && decide (x2=y2)) && (decide (x1=y3) || decide (y1=x3))) && (List.range bs.length).all (D5 bs j k (max x1 y1)))) H':=λH' s=>by
  have:=q H' s
  unfold CJ at this;rw[hX,hY] at this;exact this
 refine⟨_,rfl,_,_,rfl,rfl,_,rfl,A8 (show(0:Int)<=(j:Int) by omega) ?_⟩;refine⟨_,rfl,_,_,rfl,rfl,_,rfl,A8 (show(j:Int)<(k:Int) by omega) ?_⟩;refine⟨_,rfl,p,_,rfl,.inl (AR.of hp),_,_,rfl,rfl,_,rfl,CH (show(k:Int)<((cs.map V.ref).length:Int) by rw[lm]; omega) ?_⟩;refine⟨_,rfl,_,rfl,p,_,_,_,rfl,rfl,AR.of hp,Ap (BF ea),a,_,_,_,rfl,rfl,AK.of ha,Ge _ _ _ _,_,rfl,_,rfl,p,_,_,_,rfl,rfl,AR.of hp,Ap (BF eb),b,_,_,_,rfl,rfl,AK.of hb,Ge _ _ _ _,rfl,_,rfl,?_⟩;by_cases z0:x0=y0
 case neg =>
  refine CG (FV z0) ?_
  have:=q' H (AQ.refl _)
  rw[decide_eq_false z0,Bool.false_and,Bool.false_and,Bool.false_and] at this;exact this
 refine CH (iv z0) ?_;refine⟨_,rfl,_,rfl,p,_,_,_,rfl,rfl,AR.of hp,Ap (BF ea),a,_,_,_,rfl,rfl,AK.of ha,Gn _ _ _ _,_,rfl,_,rfl,p,_,_,_,rfl,rfl,AR.of hp,Ap (BF eb),b,_,_,_,rfl,rfl,AK.of hb,Gn _ _ _ _,rfl,_,rfl,?_⟩;by_cases z2:x2=y2
 case neg =>
  refine CG (FV z2) ?_
  have:=q' H (AQ.refl _)
  rw[decide_eq_false z2,Bool.and_false,Bool.false_and,Bool.false_and] at this;exact this
 refine CH (iv z2) ?_;rw[decide_eq_true z0,decide_eq_true z2,Bool.true_and,Bool.true_and] at q';dsimp only[L2.RC];refine IZ (G:=λσ H2=>σ=[some (.ref p),some (.int (j:Int)),some (.int (k:Int)),none,none,none]/\H2=H/\(decide (x1=y3) || decide (y1=x3))=true) (λr=>?_) ?_
 ·refine⟨_,rfl,_,rfl,p,_,_,_,rfl,rfl,AR.of hp,Ap (BF ea),a,_,_,_,rfl,rfl,AK.of ha,GA _ _ _ _,_,rfl,_,rfl,p,_,_,_,rfl,rfl,AR.of hp,Ap (BF eb),b,_,_,_,rfl,rfl,AK.of hb,HH _ _ _ _,rfl,_,rfl,?_⟩;by_cases z1:x1=y3
  ·refine CH (iv z1) ?_;exact r _ _ ⟨rfl,rfl,by rw[decide_eq_true z1]; rfl⟩
  refine CG (FV z1) ?_;refine⟨_,rfl,_,rfl,p,_,_,_,rfl,rfl,AR.of hp,Ap (BF eb),b,_,_,_,rfl,rfl,AK.of hb,GA _ _ _ _,_,rfl,_,rfl,p,_,_,_,rfl,rfl,AR.of hp,Ap (BF ea),a,_,_,_,rfl,rfl,AK.of ha,HH _ _ _ _,rfl,_,rfl,?_⟩;by_cases z3:y1=x3
  ·refine CH (iv z3) ?_;exact r _ _ ⟨rfl,rfl,by rw[decide_eq_true z3,Bool.or_true]⟩
  refine CG (FV z3) ?_
  have:=q' H (AQ.refl _)
  rw[decide_eq_false z1,decide_eq_false z3,Bool.or_false,Bool.false_and] at this;exact this
 rintro σ H0 ⟨rfl,rfl,zz⟩;rw[zz,Bool.true_and] at q';refine⟨_,rfl,_,rfl,p,_,_,_,rfl,rfl,AR.of hp,Ap (BF ea),a,_,_,_,rfl,rfl,AK.of ha,GA _ _ _ _,_,rfl,_,rfl,p,_,_,_,rfl,rfl,AR.of hp,Ap (BF eb),b,_,_,_,rfl,rfl,AK.of hb,GA _ _ _ _,_,_,rfl,?_⟩;rw[show(if y1 > x1 then y1 else x1)=max x1 y1 by split <;> omega];obtain⟨lev,hlev⟩:∃lev,max x1 y1=lev:=⟨_,rfl⟩;rw[hlev] at q' ⊢;refine⟨_,rfl,p,_,rfl,hp,?_⟩;refine Jm (λi σ H2=>AQ H0 H2/\(List.range i).all (D5 bs j k lev)=true/\∃u4 u5,σ=[some (.ref p),some (.int (j:Int)),some (.int (k:Int)),some (.int lev),u4,u5]) ⟨AQ.refl _,rfl,none,none,rfl⟩ (λi σ H2 _ z=>z.1 _ _ hp) ?_ ?_
 ·rintro i v σ H2 pe hi ⟨s2,al,u4,u5,rfl⟩ hpe;have s3:=AY hpe (.AG [.int (i:Int),v]);have gpe:AJ H2 pe (.AG [.int (i:Int),v]) pe=some (.AG [.int (i:Int),v]):=AV;generalize AJ H2 pe (.AG [.int (i:Int),v])=H3 at s3 gpe;have s03:=s2.trans s3;obtain⟨c,B,rfl,hc,hrow,hB⟩:=hC.ref hi;have il:i<bs.length:=(List.getElem?_eq_some_iff.mp hrow).1;obtain rfl:B=AO bs i:=by
   have:=Dz il
   rw[hrow] at this;exact Option.some.inj this
  refine⟨pe,_,rfl,AK.of gpe,rfl,_,_,rfl,_,_,rfl,rfl,?_⟩;have nxt:D5 bs j k lev i=true->(List.range (i+1)).all (D5 bs j k lev)=true:=λz=>by
   rw[List.range_succ,List.all_append,al,Bool.true_and,List.all_cons,z]; rfl
  refine⟨_,rfl,_,rfl,rfl,_,rfl,?_⟩;by_cases zj:i=j
  ·refine CH (by rw[zj]) ?_;exact⟨s03,nxt (by unfold D5; rw[decide_eq_true zj]; rfl),_,_,rfl⟩
  refine CG (λz=>zj (by have:=V.int.inj z; omega)) ?_;refine⟨_,rfl,_,rfl,rfl,_,rfl,?_⟩;by_cases zk:i=k
  ·refine CH (by rw[zk]) ?_;exact⟨s03,nxt (by unfold D5; rw[decide_eq_true zk,Bool.true_or,Bool.or_true]),_,_,rfl⟩
  refine CG (λz=>zk (by have:=V.int.inj z; omega)) ?_;have et:D5 bs j k lev i=!((decide (lev=(AO bs i).d) || decide (lev=(AO bs i).u)) && (decide ((AO bs i).l<=x2) && decide (x0<=(AO bs i).r))):=by
   unfold D5; rw[decide_eq_false zj,decide_eq_false zk,Bool.false_or,Bool.false_or,hX]
  have hB3:H3 c=some (.AG [.int (AO bs i).l,.int (AO bs i).d,.int (AO bs i).r,.int (AO bs i).u]):=s03 _ _ hB;have ha3:=s03 _ _ ha;have hp3:=s03 _ _ hp;generalize AO bs i=B at et hB3;refine⟨_,rfl,_,rfl,c,_,_,_,rfl,rfl,AK.of hB3,GA _ _ _ _,_,rfl,c,_,_,_,rfl,rfl,AK.of hB3,HH _ _ _ _,by exact sz2,λtp htp=>?_⟩;have s4:=AY htp (.AG [.int B.d,.int B.u]);have gtp:AJ H3 tp (.AG [.int B.d,.int B.u]) tp=some (.AG [.int B.d,.int B.u]):=AV;generalize AJ H3 tp (.AG [.int B.d,.int B.u])=H4 at s4 gtp;have s04:=s03.trans s4;refine⟨0,.int lev,[.int B.d,.int B.u],by decide,.int lev,Fn gtp,.int _,.AG (λd hd=>by
   simp only[List.mem_cons,List.not_mem_nil,or_false] at hd;rcases hd with rfl | rfl <;> exact .int _),_,rfl,?_⟩
  rw[YL];cases zl:(decide (lev=B.d) || decide (lev=B.u)) with
  | false =>
   refine BX ?_;exact⟨s04,nxt (by rw[et,zl]; rfl),_,_,rfl⟩
  | true =>
   refine Bk ?_;rw[zl,Bool.true_and] at et;have hB4:=s4 _ _ hB3;have ha4:H4 a=some (.AG [.int x0,.int x1,.int x2,.int x3]):=s4 _ _ ha3;have hp4:=s4 _ _ hp3;refine⟨_,rfl,c,_,_,_,rfl,rfl,AK.of hB4,Ge _ _ _ _,_,rfl,_,rfl,p,_,_,_,rfl,rfl,AR.of hp4,Ap (BF ea),a,_,_,_,rfl,rfl,AK.of ha4,Gn _ _ _ _,_,_,rfl,rfl,_,rfl,?_⟩;by_cases w0:B.l<=x2
   case neg =>
    refine Am w0 ?_;exact⟨s04,nxt (by rw[et,decide_eq_false w0]; rfl),_,_,rfl⟩
   refine A8 w0 ?_;refine⟨_,rfl,_,rfl,p,_,_,_,rfl,rfl,AR.of hp4,Ap (BF ea),a,_,_,_,rfl,rfl,AK.of ha4,Ge _ _ _ _,_,rfl,c,_,_,_,rfl,rfl,AK.of hB4,Gn _ _ _ _,_,_,rfl,rfl,_,rfl,?_⟩;by_cases w2:x0<=B.r
   case neg =>
    refine Am w2 ?_;exact⟨s04,nxt (by rw[et,decide_eq_false w2,Bool.and_false]; rfl),_,_,rfl⟩
   refine A8 w2 ?_;have q4:=q' H4 s04;have fl:(List.range bs.length).all (D5 bs j k lev)=false:=by
    rw[Bool.eq_false_iff];intro z
    have:=List.all_eq_true.mp z i (List.mem_range.mpr il)
    rw[et,decide_eq_true w0,decide_eq_true w2] at this;cases this
   rw[fl] at q4;exact q4
 ·rintro σ H2 ⟨s2,al,u4,u5,rfl⟩;rw[lm] at al;have q4:=q' H2 s2;rw[al] at q4;exact q4
abbrev HU:Type:=Nat×Nat
def Cw(i:Nat):List HU:=(List.range i).flatMap λk=>(List.range k).map λj=>(j,k)
theorem Lc(i:Nat):Cw (i+1)=Cw i++(List.range i).map λj=>(j,i):=by
 unfold Cw;rw[List.range_succ,List.flatMap_append,List.flatMap_cons,List.flatMap_nil,List.append_nil]
theorem L8{n:Nat}{x:HU}:x∈Cw n↔x.1<x.2/\x.2<n:=by
 obtain⟨j,k⟩:=x;simp only[Cw,List.mem_flatMap,List.mem_range,List.mem_map,Prod.mk.injEq];constructor
 ·rintro⟨k',hk,j',hj,rfl,rfl⟩; exact⟨hj,hk⟩
 ·rintro⟨h1,h2⟩; exact⟨k,h2,j,h1,rfl,rfl⟩
theorem QM(n:Nat):(Cw n).Nodup:=by
 induction n with
 | zero=>exact .nil
 | succ n ih =>
  rw[Lc,List.nodup_append];refine⟨ih,?_,λa ha b hb e=>?_⟩
  ·rw[List.Nodup,List.pairwise_map];exact List.nodup_range.imp λ{a b} ne z=>ne (by have:=congrArg Prod.fst z; exact this)
  ·subst e;have h1:=(L8.mp ha).2;obtain⟨j,hj,rfl⟩:=List.mem_map.mp hb;exact absurd h1 (Nat.lt_irrefl _)
theorem Pf{n:Nat}(h:n<=30):∀i,i<=n->(Cw i).length<=30*i:=by
 intro i
 induction i with
 | zero=>intro _; exact Nat.le_refl _
 | succ i ih =>
  intro hi
  have:=ih (by omega)
  rw[Lc,List.length_append,List.length_map,List.length_range];omega
def kS(c:Nat)(x:HU):CZ:=(c,x.1,x.2)
def IJ(bs:List AE):List CZ:=((Cw bs.length).filter λx=>CJ bs x.1 x.2).map (kS 0)++((Cw bs.length).filter λx=>Br bs x.1 x.2).map (kS 1)
theorem RA(c:Nat){l:List HU}(h:l.Nodup):(l.map (kS c)).Nodup:=by
 rw[List.Nodup,List.pairwise_map];exact List.Pairwise.imp (λ{a b} ne z=>ne (by
  obtain⟨a1,a2⟩:=a;obtain⟨b1,b2⟩:=b;simp only[kS,Prod.mk.injEq,true_and] at z;rw[z.1,z.2])) h
theorem P4(bs:List AE):(IJ bs).Nodup:=by
 unfold IJ;rw[List.nodup_append];refine⟨RA 0 ((QM _).sublist List.filter_sublist),RA 1 ((QM _).sublist List.filter_sublist),λa ha b hb e=>?_⟩;obtain⟨x,_,rfl⟩:=List.mem_map.mp ha;obtain⟨y,_,rfl⟩:=List.mem_map.mp hb
 have:=congrArg Prod.fst e
 exact absurd (show(0:Nat)=1 from this) (by decide)
theorem U7(bs:List AE):(IJ bs).Perm ((Df bs.length).filter (DM bs)):=by
 refine(List.perm_ext_iff_of_nodup (P4 bs) ((Ov _ _).sublist List.filter_sublist)).mpr λs=>?_
 obtain⟨c,j,k⟩:=s;rw[List.mem_filter,show GP bs.length bs.length=Df bs.length from rfl,GN];unfold IJ;simp only[List.mem_append,List.mem_map,List.mem_filter,L8,kS,Prod.mk.injEq];constructor
 ·rintro(⟨⟨a,b⟩,⟨⟨h1,h2⟩,h3⟩,rfl,rfl,rfl⟩ | ⟨⟨a,b⟩,⟨⟨h1,h2⟩,h3⟩,rfl,rfl,rfl⟩)
  ·exact⟨⟨.inl rfl,h1,h2⟩,h3⟩
  ·exact⟨⟨.inr rfl,h1,h2⟩,h3⟩
 ·rintro⟨⟨h0,h1,h2⟩,h3⟩;rcases h0 with rfl | rfl
  ·exact .inl ⟨(j,k),⟨⟨h1,h2⟩,h3⟩,rfl,rfl,rfl⟩
  ·exact .inr ⟨(j,k),⟨⟨h1,h2⟩,h3⟩,rfl,rfl,rfl⟩
def GX(H:Hp)(p:Addr)(x:HU):Prop:=H p=some (.AG [.int (x.1:Int),.int (x.2:Int)])
theorem Io:Mo GX:=λs h=>s _ _ h
theorem GX.del{H:Hp}{a b:Addr}{x:HU}{ys:List V}(h:GX H b x)(e:H a=some (.AN ys)):GX (del H a) b x:=Fj h λz=>by
 rw[z] at h; unfold GX at h; rw[e] at h; cases h
inductive RG(vs:List V)(H:Hp)(Q:VK):Prop
 | mk (p:Addr) (bs:List AE) (h_0:vs=[.ref p]) (h_1:BV A4 H p bs) (h_2:bs.length<=30) (h_3:((Df bs.length).filter (DM bs)).length<64) (h_4:∀t cs rs H',AQ H H'->H' t=some (.AG (cs.map V.ref))->At (Fx GH HX) H' cs rs->rs.Perm (((Df bs.length).filter (DM bs)).map FE)->rs.Pairwise (λa b=>Bq a b=true)->Q (.ref t) H'):RG vs H Q
def NM:Sp:=λvs H Q _=>RG vs H Q
theorem JL:Ar ["_law_boxes","_law_pairs","_law_k","_law_found"] ["_law_boxes"] (Aj s_law_fitting):=Aw
theorem ZS:(["_law_j","_law_k"]:List Str).Nodup:=by decide +kernel
theorem Kx:(["_law_j","_law_k","_law_boxes"]:List Str).Nodup:=by decide +kernel
abbrev Ni(K:PySem.W.Frag)(n:Nat):TG:=M4 K n (Me (B9 0) (Me (B9 1) Rm))
theorem Og {t:List AE->Nat->Nat->Bool} {c:Nat} {wdc:Str} (hw:GH (c:Int)=wdc) (hc:HX (c:Int)) {H1:Hp} {l acc p:Addr} {ds:List Addr} {bs:List AE} (hl:H1 l=some (.AN (ds.map V.ref))) (hD:At GX H1 ds (Cw bs.length)) (hL:BV A4 H1 p bs) (n30:bs.length<=30) (hacc:H1 acc=none) {G:Hp->Prop}
  (fin:∀(gs:List Addr) (H2:Hp),AQ H1 H2->H2 acc=some (.AN (gs.map V.ref))->At (Fx GH HX) H2 gs ((((Cw bs.length).filter λx=>t bs x.1 x.2).map (kS c)).map FE)->G H2) :
  ∃W:Nat->Nat->List V->St->Hp->Prop,(∃m,W 0 m [] [none,none,some (.ref p)] (AJ H1 acc (.AN [])))/\∀i m ys σc H2,W i m ys σc H2 →
   ((GF K l).stop i H2/\G H2)\/((GF K l).go i H2/\∀x H3,(GF K l).EF i H2 x H3->Ni K 2 x σc H3 λσ4 H4=>tB (DT (EL t) [] E0 (Ay (Al 2) (Ay (Al 0) (Ay (Al 1) Bc)))) σ4 H4 λok H5=>if ok=true then (FL (Ay (tC (.str wdc)) (Ay (Al 0) (Ay (Al 1) Bc))) σ4 H5 λv H6=>H6 acc=some (.AN ys)/\ys.length<sizeLine/\∃m',m' < m/\W (i+1) m' (ys++[v]) σ4 (AJ H6 acc (.AN (ys++[v])))) else ∃m',m' < m/\W (i+1) m' ys σ4 H5):=by
 have ld:ds.length=(Cw bs.length).length:=hD.1;have ln:=Pf n30 bs.length (Nat.le_refl _);refine T8 (Hg hl) (by rw[List.length_map]; omega) hacc (λi ys σ hp=>∃gs:List Addr,ys=gs.map V.ref/\At (Fx GH HX) hp gs (((((Cw bs.length).take i).filter λx=>t bs x.1 x.2).map (kS c)).map FE)/\∃u v,σ=[u,v,some (.ref p)]) ⟨[],rfl,At.nil,none,none,rfl⟩ ?_ ?_
 ·rintro i ys σ H3 x H4 hi sm hacc3 ⟨gs,rfl,hG,u,v,rfl⟩ ⟨rfl,hx⟩ Cc Nn hCc hNn;obtain⟨b,⟨j,k⟩,rfl,_,hy,hb⟩:=hD.ref hx;have mem:=L8.mp (List.mem_of_getElem? hy);dsimp only at mem;have hb3:H4 b=some (.AG [.int (j:Int),.int (k:Int)]):=sm _ _ hb;have fs:=So (λx:HU=>t bs x.1 x.2) hy;refine⟨b,_,rfl,AK.of hb3,rfl,_,_,rfl,_,_,rfl,rfl,?_⟩;refine⟨_,rfl,_,rfl,_,rfl,p,bs,j,k,rfl,HA (R:=A4) (λs h=>D3 s h) sm hL,n30,mem.1,mem.2,λH5 s5=>⟨_,rfl,?_⟩⟩
  (try dsimp only)
  by_cases hf:t bs j k=true
  ·rw[if_pos hf];refine⟨_,rfl,_,rfl,by exact Dv,λa ha=>?_⟩;have s6:=AY ha (.AG [.str wdc,.int (j:Int),.int (k:Int)]);refine hCc _ _ _ (s5.trans s6) ⟨gs++[a],by simp,?_,_,_,rfl⟩;rw[fs,if_pos hf,List.map_append,List.map_append];refine(hG.keep Hi (Fe acc (s5.trans s6))).snoc ⟨(c:Int),[(j:Int),(k:Int)],rfl,hc,?_⟩;rw[hw];exact Fj AV (λz=>by rw[z,(s5 _ _ hacc3)] at ha; cases ha)
  ·rw[if_neg hf];refine hNn _ _ s5 ⟨gs,rfl,?_,_,_,rfl⟩;rw[fs,if_neg hf,List.append_nil];exact hG.keep Hi (Fe acc s5)
 ·rintro ys σ H3 s3 ha3 ⟨gs,rfl,hG,u,v,rfl⟩;rw[List.length_map,ld,List.take_length] at hG;exact fin gs H3 s3 ha3 (hG.keep Hi (Ff H3 acc))
set_option maxHeartbeats 4000000 in
theorem Wj (F:Ag K "_law_fitting" "_law_fitting" s_law_fitting f fd) (G1:AH P w K mg base AM 1 f1 d1 ["_law_boxes","_law_j","_law_k"] (EL CJ)) (b1:AW K d1 ["_law_boxes","_law_j","_law_k"] []) (k1:KP K f1) (m1:mg "_law_above" = some (.ref f1))
  (G2:AH P w K mg base AM 1 f2 d2 ["_law_boxes","_law_j","_law_k"] (EL Br)) (b2:AW K d2 ["_law_boxes","_law_j","_law_k"] []) (k2:KP K f2) (m2:mg "_law_beside" = some (.ref f2))
  (ml:mg "len" = none) (mr:mg "range" = none) (mt:mg "tuple" = none) (mso:mg "sorted" = none):AH P w K mg base AM 2 f fd ["_law_boxes"] NM:=by
 refine F.ok JL (λvs H Q E h=>?_) (λcdv A outer s H vs Q E hr h=>?_)
 ·obtain⟨p,bs,rfl,_⟩:=h;rfl
 obtain⟨p,bs,rfl,hL,n30,l64,q⟩:=h;obtain⟨cs,hp,hC⟩:=id hL;have lm:(cs.map V.ref).length=bs.length:=by rw[List.length_map,hC.1]
 refine⟨_,AS (Ad (i:=1) JL.nd rfl (Or.inl rfl) (DC AI))
  (AS (Ce PassesOwn.never rfl (IV (by rfl) mr (AA (BE (B6 (K:=K)) (by rfl) ml B7 (AA (pv 0) AI)) AI)) (Az (i:=2) JL.nd rfl (Or.inr rfl))
   (AU (Ad (i:=1) JL.nd rfl (Or.inl rfl) (AX Ec (pv 1) (Hj (Nc:=["_law_j","_law_k"]) (cap:=[(1,2)]) (g:=B9 0) (te:=FL (Ay (Al 0) (Ay (Al 1) Bc))) rfl (IV (by rfl) mr (AA (pv 2) AI))
    (EH rfl rfl (by decide +kernel) (by decide +kernel) (List.forall_mem_cons.mpr ⟨⟨rfl,rfl⟩,List.forall_mem_nil _⟩) rfl (List.forall_mem_cons.mpr ⟨⟨_,_,rfl,rfl,rfl,rfl,rfl⟩,List.forall_mem_nil _⟩))
    (λ_ _ _ _ _=>Az (i:=0) ZS rfl (Or.inl rfl)) (λ_ _ _ _ _=>Ax (AA (pv 0) (AA (pv 1) AI))))))))
  (AS (Ss (i:=3) JL.nd rfl (Or.inl rfl) (Nc:=["_law_j","_law_k","_law_boxes"]) (cap:=[(2,0)]) (g:=Ni K 2) (tt:=tB (DT (EL CJ) [] E0 (Ay (Al 2) (Ay (Al 0) (Ay (Al 1) Bc))))) (te:=FL (Ay (tC (.str "above")) (Ay (Al 0) (Ay (Al 1) Bc)))) rfl (JF (K:=K) (pv 1))
    (EH rfl rfl (by decide +kernel) (by decide +kernel) (List.forall_mem_cons.mpr ⟨⟨rfl,rfl⟩,List.forall_mem_nil _⟩) rfl (List.forall_mem_cons.mpr ⟨⟨_,_,rfl,rfl,rfl,rfl,rfl⟩,List.forall_mem_nil _⟩))
    (λ_ _ _ _ _=>D7 (n:=2) (K:=K) rfl (BQ (Az (i:=0) Kx rfl (Or.inl rfl)) (BQ (Az (i:=1) Kx rfl (Or.inl rfl)) D0)))
    (λ_ _ _ _ _=>D4 (Ah G1 hr (by rfl) m1 k1 b1 .nil Ae (AA (pv 2) (AA (pv 0) (AA (pv 1) AI)))))
    (λ_ _ _ _ _=>Ax (AA Bo (AA (pv 0) (AA (pv 1) AI)))))
  (AU (Ab (Dx (Pn (K:=K)) (by rfl) mt Gx (AA (BE (S7 Yt) (by rfl) mso OL (AA (AX Ec (pv 3)
   (Vu (Nc:=["_law_j","_law_k","_law_boxes"]) (cap:=[(2,0)]) (g:=Ni K 2) (tt:=tB (DT (EL Br) [] E0 (Ay (Al 2) (Ay (Al 0) (Ay (Al 1) Bc))))) (te:=FL (Ay (tC (.str "beside")) (Ay (Al 0) (Ay (Al 1) Bc)))) rfl (JF (K:=K) (pv 1))
    (EH rfl rfl (by decide +kernel) (by decide +kernel) (List.forall_mem_cons.mpr ⟨⟨rfl,rfl⟩,List.forall_mem_nil _⟩) rfl (List.forall_mem_cons.mpr ⟨⟨_,_,rfl,rfl,rfl,rfl,rfl⟩,List.forall_mem_nil _⟩))
    (λ_ _ _ _ _=>D7 (n:=2) (K:=K) rfl (BQ (Az (i:=0) Kx rfl (Or.inl rfl)) (BQ (Az (i:=1) Kx rfl (Or.inl rfl)) D0)))
    (λ_ _ _ _ _=>D4 (Ah G2 hr (by rfl) m2 k2 b2 .nil Ae (AA (pv 2) (AA (pv 0) (AA (pv 1) AI)))))
    (λ_ _ _ _ _=>Ax (AA Bo (AA (pv 0) (AA (pv 1) AI)))))) AI)) AI)))))),?_⟩
 obtain⟨n,hn⟩:∃n,bs.length=n:=⟨_,rfl⟩;refine⟨by exact SK,λl0 hl0=>?_⟩;obtain⟨H1,e1,s1,g1⟩:=EZ hl0 [];rw[e1];refine⟨_,rfl,p,_,rfl,.inl (AR.of (s1 _ _ hp)),_,rfl,by rw[lm]; omega,by rw[lm]; omega,?_⟩;rw[lm,hn,show((n:Nat):Int).toNat=n by omega];refine GL (lo:=0) (n:=n) (λi σ H2=>AQ H H2/\∃(l:Addr) (ds:List Addr) (u2:Option V),σ=[some (.ref p),some (.ref l),u2,none]/\H2 l=some (.AN (ds.map V.ref))/\At GX H2 ds (Cw i)) ⟨s1,l0,[],none,rfl,g1,At.nil⟩ ?_ ?_
 ·rintro i σ H2 hi ⟨s2,l,ds,u2,rfl,hl2,hD⟩;have ld:ds.length=(Cw i).length:=hD.1;have ln:=Pf (n:=n) (by omega) i (by omega);rw[show(0:Int)+(i:Int)=(i:Int) by omega];refine⟨_,rfl,_,rfl,(i:Int),rfl,by omega,by omega,λacc hacc=>?_⟩;rw[show((i:Nat):Int).toNat=i by omega];refine E1 U3 (by omega) hacc (λm ys σ hp=>∃gs:List Addr,ys=gs.map V.ref/\At GX hp gs ((List.range m).map λj=>(j,i))/\∃u,σ=[u,some (.int (i:Int))]) ⟨[],rfl,At.nil,none,rfl⟩ ?_ ?_
  ·rintro m ys σ H3 x H4 hm sm hacc3 ⟨gs,rfl,hG,u,rfl⟩ ⟨rfl,rfl⟩ Cc hCc;refine⟨_,rfl,_,rfl,by exact sz2,λt ht=>?_⟩;have s5:=AY ht (.AG [.int (0+(m:Int)),.int (i:Int)]);refine hCc _ _ _ s5 ⟨gs++[t],by simp,?_,_,rfl⟩;rw[List.range_succ,List.map_append];refine(hG.keep Io (Fe acc s5)).snoc ?_;show del _ acc t=some (.AG [.int (m:Int),.int (i:Int)]);rw[Fj AV (λz=>by rw[z,hacc3] at ht; cases ht)];rw[show(0:Int)+(m:Int)=(m:Int) by omega]
  rintro ys σ H3 s3 ha3 _ ⟨gs,rfl,hG,u,rfl⟩;have lg:gs.length=i:=by have:=hG.1; rw[List.length_map,List.length_range] at this; exact this
  refine⟨l,acc,_,_,rfl,rfl,s3 _ _ hl2,ha3,by rw[List.length_map,List.length_map]; exact ES (by omega),λq2 hq2=>?_⟩;have s4:=AY hq2 (.AN (ds.map V.ref++gs.map V.ref));refine⟨s2.trans (s3.trans s4),q2,ds++gs,_,rfl,by rw[AV,List.map_append],?_⟩;rw[Lc];exact((hD.keep Io (s3.trans s4)).FU ((hG.keep Io (Ff H3 acc)).keep Io s4))
 rintro σ H2 ⟨s2,l,ds,u2,rfl,hl2,hD⟩;rw[<-hn] at hD;have hL2:BV A4 H2 p bs:=HA (R:=A4) (λs h=>D3 s h) s2 hL;refine⟨_,rfl,l,rfl,⟨_,AR.of hl2⟩,λacc hacc=>?_⟩;refine Og (K:=K) (t:=CJ) (c:=0) (wdc:="above") rfl (.inl rfl) hl2 hD hL2 n30 hacc λgs H3 s3 ha3 hG=>?_
 refine⟨_,rfl,_,rfl,l,rfl,⟨_,AR.of (s3 _ _ hl2)⟩,λacc2 hacc2=>?_⟩;refine Og (K:=K) (t:=Br) (c:=1) (wdc:="beside") rfl (.inr rfl) (s3 _ _ hl2) (hD.keep Io s3) (HA (R:=A4) (λs h=>D3 s h) s3 hL2) n30 hacc2 λgs2 H4 s4 ha4 hG2=>?_
 have pm:=U7 bs;have A:=(hG.keep Hi s4).FU hG2;rw[<-List.map_append,show((Cw bs.length).filter λx=>CJ bs x.1 x.2).map (kS 0)++((Cw bs.length).filter λx=>Br bs x.1 x.2).map (kS 1)=IJ bs from rfl] at A;have lA:(gs++gs2).length=(IJ bs).length:=by have:=A.1; rw[List.length_map] at this; exact this
 have ll:=pm.length_eq;rw[List.length_append] at lA;refine⟨acc,acc2,_,_,rfl,rfl,s4 _ _ ha3,ha4,by rw[List.length_map,List.length_map]; exact ES (by omega),λq2 hq2=>?_⟩;have s5:=AY hq2 (.AN (gs.map V.ref++gs2.map V.ref));have g5:AJ H4 q2 (.AN (gs.map V.ref++gs2.map V.ref)) q2=some (.AN ((gs++gs2).map V.ref)):=by rw[AV,List.map_append]
 generalize AJ H4 q2 (.AN (gs.map V.ref++gs2.map V.ref))=H5 at s5 g5;refine⟨q2,gs++gs2,_,rfl,g5,A.keep Hi s5,V8 (P4 bs),by rw[List.length_map]; omega,λl2 es rs hl6 hE pmr pw=>?_⟩;have s6:=AY hl6 (.AN (es.map V.ref));have g6:AJ H5 l2 (.AN (es.map V.ref)) l2=some (.AN (es.map V.ref)):=AV;generalize AJ H5 l2 (.AN (es.map V.ref))=H6 at s6 g6;refine⟨l2,_,rfl,.inl ⟨AR.of g6,λt ht=>?_⟩⟩;have s7:=AY ht (.AG (es.map V.ref));exact q t es rs _ (s2.trans (s3.trans (s4.trans (s5.trans (s6.trans s7))))) AV (hE.keep Hi (s6.trans s7)) (pmr.trans (pm.map FE)) pw
open PySem.Spec PyProof.Rows
variable {f4:Addr} {d4:FuncData}
def MK:Sp:=λvs H Q _=>∃(p:Addr) (bs:List AE) (j k:Int),vs=[.ref p,.int j,.int k]/\BV A4 H p bs/\Bu (bs.length:Int) j k=false/\Q (.bl false) H
def HD(t:List AE->Nat->Nat->Bool):Sp:=λvs H Q _=>∃(p:Addr) (bs:List AE) (j k:Int),vs=[.ref p,.int j,.int k]/\BV A4 H p bs/\bs.length<=30/\∀H',AQ H H'->Q (.bl (Bu (bs.length:Int) j k && t bs j.toNat k.toNat)) H'
theorem RZ{t:List AE->Nat->Nat->Bool}(F1:AH P w K mg base AM 1 f fd ["_law_boxes","_law_j","_law_k"] (EL t))(F2:AH P w K mg base AM 1 f fd ["_law_boxes","_law_j","_law_k"] MK):AH P w K mg base AM 1 f fd ["_law_boxes","_law_j","_law_k"] (HD t):=by
 refine⟨λvs H Q E h=>?_,λA outer s H args us vs Q E hr e bt hv h=>?_⟩
 ·obtain⟨p,bs,j,k,rfl,_⟩:=h;rfl
 ·obtain⟨p,bs,j,k,rfl,hb,n,q⟩:=h;cases z:Bu (bs.length:Int) j k with
  | false =>
   refine F2.GG A outer s H args us _ Q E hr e bt hv ⟨p,bs,j,k,rfl,hb,z,?_⟩
   have:=q H (AQ.refl _)
   rwa [z,Bool.false_and] at this
  | true =>
   obtain⟨z1,z2,z3⟩:=Cd.mp z;rw[z] at q;obtain⟨j,rfl⟩:=Int.eq_ofNat_of_zero_le z1;obtain⟨k,rfl⟩:=Int.eq_ofNat_of_zero_le (show 0<=k by omega);exact F1.GG A outer s H args us _ Q E hr e bt hv ⟨p,bs,j,k,rfl,hb,n,by omega,by omega,q⟩
theorem S5(F:Ag K "_law_beside" "_law_beside" s_law_beside f fd)(ml:mg "len" = none):AH P w K mg base AM 1 f fd ["_law_boxes","_law_j","_law_k"] MK:=by
 refine F.ok R6 (λvs H Q E h=>?_) (λcdv A outer s H vs Q E hr h=>?_)
 ·obtain⟨p,bs,j,k,rfl,_⟩:=h;rfl
 obtain⟨p,bs,j,k,rfl,⟨cs,hp,hC⟩,z,q⟩:=h;have lm:(cs.map V.ref).length=bs.length:=by rw[List.length_map,hC.1]
 refine⟨_,AS (A0 (PW.pt (D8 (GV (Ji FA Cy Cy AF (pv 1) (pv 2) (BE (B6 (K:=K)) (by rfl) ml B7 (AA (pv 0) AI))))
   (D8 (Aq CQ (pT K (pL K (pv 0) (pv 1)) AF) (pT K (pL K (pv 0) (pv 2)) AF) (Ac _))
   (GW (Aq CQ (pT K (pL K (pv 0) (pv 1)) AF) (pT K (pL K (pv 0) (pv 2)) AF) (Ac _)))))) (AU (Ab CI)) A2)
  (AU (Ab (GY (Bm Bt (pT K (pL K (pv 0) (pv 1)) AF) (pT K (pL K (pv 0) (pv 2)) AF) (Ac _))
   (Dg (Bm Bt (pT K (pL K (pv 0) (pv 2)) AF) (pT K (pL K (pv 0) (pv 1)) AF) (Ac _)))))),?_⟩
 refine⟨_,rfl,_,_,rfl,rfl,_,rfl,?_⟩;by_cases h1:(0:Int)<=j
 case neg =>
  exact Am h1 ⟨_,rfl,Bk q⟩
 refine A8 h1 ⟨_,rfl,_,_,rfl,rfl,_,rfl,?_⟩;by_cases h2:j<k
 case neg =>
  exact Am h2 ⟨_,rfl,Bk q⟩
 refine A8 h2 ⟨_,rfl,p,_,rfl,.inl (AR.of hp),_,_,rfl,rfl,_,rfl,?_⟩;have h3:¬k<((cs.map V.ref).length:Int):=by
  rw[lm];intro h3
  have:=Cd.mpr ⟨h1,h2,h3⟩
  rw[z] at this; cases this
 exact CG h3 q
theorem S6(F:Ag K "_law_beside" "_law_beside" s_law_beside f fd)(G:AH P w K mg base AM 1 f fd ["_law_boxes","_law_j","_law_k"] (EL Br))(ml:mg "len" = none):AH P w K mg base AM 1 f fd ["_law_boxes","_law_j","_law_k"] (HD Br):=RZ G (S5 F ml)
theorem Tv(F:Ag K "_law_above" "_law_above" s_law_above f fd)(ml:mg "len" = none)(mx:mg "max" = none)(me:mg "enumerate" = none):AH P w K mg base AM 1 f fd ["_law_boxes","_law_j","_law_k"] MK:=by
 refine F.ok Gg (λvs H Q E h=>?_) (λcdv A outer s H vs Q E hr h=>?_)
 ·obtain⟨p,bs,j,k,rfl,_⟩:=h;rfl
 obtain⟨p,bs,j,k,rfl,⟨cs,hp,hC⟩,z,q⟩:=h;have lm:(cs.map V.ref).length=bs.length:=by rw[List.length_map,hC.1]
 refine⟨_,AS (A0 (PW.pt (D8 (GV (Ji FA Cy Cy AF (pv 1) (pv 2) (BE (B6 (K:=K)) (by rfl) ml B7 (AA (pv 0) AI))))
   (D8 (Aq CQ (pT K (pL K (pv 0) (pv 1)) AF) (pT K (pL K (pv 0) (pv 2)) AF) (Ac _))
   (GW (Aq CQ (pT K (pL K (pv 0) (pv 1)) AF) (pT K (pL K (pv 0) (pv 2)) AF) (Ac _)))))) (AU (Ab CI)) A2)
  (AS (A0 (PW.pt (DE (Aq CQ (pT K (pL K (pv 0) (pv 1)) AF) (pT K (pL K (pv 0) (pv 2)) AF) (Ac _)) (EK (Aq CQ (pT K (pL K (pv 0) (pv 2)) AF) (pT K (pL K (pv 0) (pv 1)) AF) (Ac _))))) (AU (Ab CI)) A2)
  (AS (Ad (i:=3) Gg.nd rfl (Or.inl rfl) (BE (Hd rfl) (by rfl) mx Hq (AA (pT K (pL K (pv 0) (pv 1)) AF) (AA (pT K (pL K (pv 0) (pv 2)) AF) AI))))
  (AS (Ce PassesOwn.never rfl (Ic (by rfl) me (AA (pv 0) AI)) (D7 (n:=2) (K:=K) rfl (BQ (Az (i:=4) Gg.nd rfl (Or.inl rfl)) (BQ (Az (i:=5) Gg.nd rfl (Or.inl rfl)) D0)))
   (AU (A0 (PW.pt (DE (Aq CQ (pv 4) (pv 1) (Ac _)) (DE (Aq CQ (pv 4) (pv 2) (Ac _)) (EK (Aq (Qb hr.units) (pv 3) (Ax (AA (pT K (pv 5) AF) (AA (pT K (pv 5) AF) AI))) (by with_unfolding_all rfl))))))
    (AU (A0 (PW.pt (DE (Aq FA (pT K (pv 5) AF) (pT K (pL K (pv 0) (pv 1)) AF) (Ac _)) (EK (Aq FA (pT K (pL K (pv 0) (pv 1)) AF) (pT K (pv 5) AF) (Ac _))))) (AU (Ab CI)) A2)) A2)))
  (AU (Ab CI))))),?_⟩
 refine⟨_,rfl,_,_,rfl,rfl,_,rfl,?_⟩;by_cases h1:(0:Int)<=j
 case neg =>
  exact Am h1 ⟨_,rfl,Bk q⟩
 refine A8 h1 ⟨_,rfl,_,_,rfl,rfl,_,rfl,?_⟩;by_cases h2:j<k
 case neg =>
  exact Am h2 ⟨_,rfl,Bk q⟩
 refine A8 h2 ⟨_,rfl,p,_,rfl,.inl (AR.of hp),_,_,rfl,rfl,_,rfl,?_⟩;have h3:¬k<((cs.map V.ref).length:Int):=by
  rw[lm];intro h3
  have:=Cd.mpr ⟨h1,h2,h3⟩
  rw[z] at this; cases this
 exact CG h3 q
theorem TH(F:Ag K "_law_above" "_law_above" s_law_above f fd)(G:AH P w K mg base AM 1 f fd ["_law_boxes","_law_j","_law_k"] (EL CJ))(ml:mg "len" = none)(mx:mg "max" = none)(me:mg "enumerate" = none):AH P w K mg base AM 1 f fd ["_law_boxes","_law_j","_law_k"] (HD CJ):=RZ G (Tv F ml mx me)
inductive Kt(bs:List AE):Cp->V->Prop
 | ab (j k:Int):Kt bs (.ab j k) (.bl (Bu (bs.length:Int) j k && CJ bs j.toNat k.toNat))
 | bs (j k:Int):Kt bs (.bs j k) (.bl (Bu (bs.length:Int) j k && Br bs j.toNat k.toNat))
 | no (s:Str) (j k:Int):Kt bs (.no s j k) .An
theorem L5{H H':Hp}{p:Addr}{bs:List AE}(s:AQ H H')(h:BV A4 H p bs):BV A4 H' p bs:=by
 obtain⟨cs,h1,h2⟩:=h;exact⟨cs,s _ _ h1,h2.keep D3 s⟩
def MF(K:PySem.W.Frag):Sp:=λvs H Q _=>∃(a pb:Addr) (ns:List Int) (bs:List AE),vs=[.ref a,.ref pb]/\IL K H a ns/\BV A4 H pb bs/\bs.length<=30/\∀p pt t v H',AQ H H'->H' p=some (.AG [.ref pt,v])->Dn H' pt t->Kt bs t v->Q (.ref p) H'
theorem K9:Ar ["_law_script","_law_boxes","_law_j","_law_k","_law_word_here"] ["_law_script","_law_boxes"] (Aj s_law_word):=Aw
seal L2.DP L2.PS L2.PE L2.PA in
theorem Wh (F:Ag K "_law_word" "_law_word" s_law_word f fd) (G1:AH P w K mg base AM 1 f1 d1 ["_law_script","_law_k"] (Ho K)) (b1:AW K d1 ["_law_script","_law_k"] []) (k1:KP K f1) (m1:mg "_law_cell_at" = some (.ref f1))
  (G2:AH P w K mg base AM 1 f2 d2 ["_law_boxes","_law_j","_law_k"] (HD CJ)) (b2:AW K d2 ["_law_boxes","_law_j","_law_k"] []) (k2:KP K f2) (m2:mg "_law_above" = some (.ref f2))
  (G3:AH P w K mg base AM 1 f3 d3 ["_law_boxes","_law_j","_law_k"] (HD Br)) (b3:AW K d3 ["_law_boxes","_law_j","_law_k"] []) (k3:KP K f3) (m3:mg "_law_beside" = some (.ref f3)) (ml:mg "len" = none) :
  AH P w K mg base AM 2 f fd ["_law_script","_law_boxes"] (MF K):=by
 refine F.ok K9 (λvs H Q E h=>?_) (λcdv A outer s H vs Q E hr h=>?_)
 ·obtain⟨a,pb,ns,bs,rfl,_⟩:=h;rfl
 obtain⟨a,pb,ns,bs,rfl,hS,⟨cs,hp,hC⟩,n30,q⟩:=h;have lm:(cs.map V.ref).length=bs.length:=by rw[List.length_map,hC.1]
 refine⟨_,AS (Ad (i:=2) K9.nd rfl (Or.inl rfl) (AX CV (AX Bw (Ah G1 hr (by rfl) m1 k1 b1 .nil Ae (AA (pv 0) (AA AF AI))) (AX BU (BE (B6 (K:=K)) (by rfl) ml B7 (AA (pv 1) AI)) AF)) AF))
  (AS (Ad (i:=3) K9.nd rfl (Or.inl rfl) (AX CV (AX Bw (Ah G1 hr (by rfl) m1 k1 b1 .nil Ae (AA (pv 0) (AA AF AI))) (AX BU (BE (B6 (K:=K)) (by rfl) ml B7 (AA (pv 1) AI)) AF)) AF))
  (AS (Ad (i:=4) K9.nd rfl (Or.inl rfl) (pT K (Ax (AA Bo (AA Bo (AA Bo (AA Bo (AA Bo AI)))))) (AX Bw (Ah G1 hr (by rfl) m1 k1 b1 .nil Ae (AA (pv 0) (AA AF AI))) AF)))
  (AS (A0 (Aq Bt (pv 4) Bo (Ac _)) (AU (Ab (Ax (AA (Ax (AA (pv 4) (AA (pv 2) (AA (pv 3) AI)))) (AA (Ah G2 hr (by rfl) m2 k2 b2 .nil Ae (AA (pv 1) (AA (pv 2) (AA (pv 3) AI)))) AI))))) A2)
  (AS (A0 (Aq Bt (pv 4) Bo (Ac _)) (AU (Ab (Ax (AA (Ax (AA (pv 4) (AA (pv 2) (AA (pv 3) AI)))) (AA (Ah G3 hr (by rfl) m3 k3 b3 .nil Ae (AA (pv 1) (AA (pv 2) (AA (pv 3) AI)))) AI))))) A2)
  (AU (Ab (Ax (AA (Ax (AA (pv 4) (AA (pv 2) (AA (pv 3) AI)))) (AA Ka AI))))))))),?_⟩
 have zp:(0:Int)<((cs.map V.ref).length:Int)+4:=by omega
 refine⟨_,rfl,a,ns,_,rfl,hS,by decide,λz1 _=>?_⟩;refine⟨_,rfl,pb,_,rfl,.inl (AR.of hp),_,_,rfl,rfl,_,_,rfl,rfl,zp,_,_,rfl,rfl,?_⟩;generalize z1 % (((cs.map V.ref).length:Int)+4)-2=j;refine⟨_,rfl,a,ns,_,rfl,hS,by decide,λz2 _=>?_⟩;refine⟨_,rfl,pb,_,rfl,.inl (AR.of hp),_,_,rfl,rfl,_,_,rfl,rfl,zp,_,_,rfl,rfl,?_⟩;generalize z2 % (((cs.map V.ref).length:Int)+4)-2=k;refine⟨by exact Nf,λt ht=>?_⟩;obtain⟨H2,e2,s2,g2⟩:=CP ht [.str "above",.str "beside",.str "below",.str "Above",.str ""];rw[e2];refine⟨_,rfl,a,ns,_,rfl,⟨s2.seq hS.1,hS.2⟩,by decide,λz3 _=>?_⟩;have y0:=Int.emod_nonneg z3 (show(5:Int)≠0 by decide);have y1:=Int.emod_lt_of_pos z3 (show(0:Int)<5 by decide);refine⟨_,_,rfl,rfl,(show(0:Int)<5 by decide),?_⟩;generalize z3 % 5=m at y0 y1;have hp2:=s2 _ _ hp;have hL:BV A4 H2 pb bs:=⟨cs,hp2,hC.keep D3 s2⟩;have hm:m=0\/m=1\/m=2\/m=3\/m=4:=by omega
 rcases hm with rfl | rfl | rfl | rfl | rfl
 ·refine⟨t,_,_,_,rfl,rfl,AK.of g2,K5,_,rfl,rfl,_,rfl,?_⟩;refine A8 (by decide +kernel) ?_;refine⟨_,rfl,_,rfl,_,rfl,by exact Dv,λpt hpt=>?_⟩;obtain⟨H3,e3,s3,g3⟩:=CP hpt [.str "above",.int j,.int k];rw[e3];refine⟨_,rfl,_,rfl,_,rfl,pb,bs,_,_,rfl,L5 s3 hL,n30,λH4 s4=>?_⟩;refine⟨by exact sz2,λp hp5=>?_⟩;have s5:=AY hp5 (.AG [.ref pt,.bl (Bu (bs.length:Int) j k && CJ bs j.toNat k.toNat)]);exact q p pt (.ab j k) _ _ (s2.trans (s3.trans (s4.trans s5))) AV (s5 _ _ (s4 _ _ g3)) (.ab _ _)
 ·refine⟨t,_,_,_,rfl,rfl,AK.of g2,Rk,_,rfl,rfl,_,rfl,?_⟩;refine Am (by decide +kernel) ⟨_,rfl,rfl,_,rfl,A8 (by decide +kernel) ?_⟩;refine⟨_,rfl,_,rfl,_,rfl,by exact Dv,λpt hpt=>?_⟩;obtain⟨H3,e3,s3,g3⟩:=CP hpt [.str "beside",.int j,.int k];rw[e3];refine⟨_,rfl,_,rfl,_,rfl,pb,bs,_,_,rfl,L5 s3 hL,n30,λH4 s4=>?_⟩;refine⟨by exact sz2,λp hp5=>?_⟩;have s5:=AY hp5 (.AG [.ref pt,.bl (Bu (bs.length:Int) j k && Br bs j.toNat k.toNat)]);exact q p pt (.bs j k) _ _ (s2.trans (s3.trans (s4.trans s5))) AV (s5 _ _ (s4 _ _ g3)) (.bs _ _)
 ·refine⟨t,_,_,_,rfl,rfl,AK.of g2,RY,_,rfl,rfl,_,rfl,?_⟩;refine Am (by decide +kernel) ⟨_,rfl,rfl,_,rfl,Am (by decide +kernel) ?_⟩;refine⟨_,rfl,_,rfl,_,rfl,by exact Dv,λpt hpt=>?_⟩;obtain⟨H3,e3,s3,g3⟩:=CP hpt [.str "below",.int j,.int k];rw[e3];refine⟨by exact sz2,λp hp3=>?_⟩;have s4:=AY hp3 (.AG [.ref pt,.An]);exact q p pt (.no "below" j k) .An _ (s2.trans (s3.trans s4)) AV ⟨s4 _ _ g3,by decide +kernel,by decide +kernel,by decide +kernel⟩ (.no _ _ _)
 ·refine⟨t,_,_,_,rfl,rfl,AK.of g2,Rx,_,rfl,rfl,_,rfl,?_⟩;refine Am (by decide +kernel) ⟨_,rfl,rfl,_,rfl,Am (by decide +kernel) ?_⟩;refine⟨_,rfl,_,rfl,_,rfl,by exact Dv,λpt hpt=>?_⟩;obtain⟨H3,e3,s3,g3⟩:=CP hpt [.str "Above",.int j,.int k];rw[e3];refine⟨by exact sz2,λp hp3=>?_⟩;have s4:=AY hp3 (.AG [.ref pt,.An]);exact q p pt (.no "Above" j k) .An _ (s2.trans (s3.trans s4)) AV ⟨s4 _ _ g3,by decide +kernel,by decide +kernel,by decide +kernel⟩ (.no _ _ _)
 ·refine⟨t,_,_,_,rfl,rfl,AK.of g2,Rq,_,rfl,rfl,_,rfl,?_⟩;refine Am (by decide +kernel) ⟨_,rfl,rfl,_,rfl,Am (by decide +kernel) ?_⟩;refine⟨_,rfl,_,rfl,_,rfl,by exact Dv,λpt hpt=>?_⟩;obtain⟨H3,e3,s3,g3⟩:=CP hpt [.str "",.int j,.int k];rw[e3];refine⟨by exact sz2,λp hp3=>?_⟩;have s4:=AY hp3 (.AG [.ref pt,.An]);exact q p pt (.no "" j k) .An _ (s2.trans (s3.trans s4)) AV ⟨s4 _ _ g3,by decide +kernel,by decide +kernel,by decide +kernel⟩ (.no _ _ _)
abbrev BG(c:Rat)(b:AE):List Rat:=(CC b).map λ(x:Int)=>(x:Rat)*c
inductive Ek(n J:Nat)(b:AE):Int->Int->AE->AE->Prop
 | h0 (k:Int):(J:Int)<k->k<=n->Ek n J b 0 k (b.l,b.d,b.l+1,b.u) (b.l+1,b.d,b.r,b.u)
 | h1 (k:Int):(J:Int)<k->k<=n->Ek n J b 1 k (b.l-1,b.d,b.l+1,b.u) (b.l+1,b.d,b.r,b.u)
 | h2 (k:Int):(J:Int)<k->k<=n->Ek n J b 2 k (b.l,b.d,b.l+1,b.u) (b.l+1+1,b.d,b.r,b.u)
 | h3 (k:Int):(J:Int)<k->k<=n->Ek n J b 3 k (b.l,b.d,b.l+1,b.u) (b.l+1,b.d,b.r,b.u+1)
 | h4:Ek n J b 4 (n+1) (b.l,b.d,b.l+1,b.u) (b.l+1,b.d,b.r,b.u)
 | h5:Ek n J b 5 J (b.l,b.d,b.l+1,b.u) (b.l+1,b.d,b.r,b.u)
abbrev LP(b:AE):Prop:=∀x∈CC b,x.natAbs<=2 ^ 19
def Qr(K:PySem.W.Frag):List V->Hp->VK->Prop:=λxs H Q=>∃p ys,xs=[.ref p]/\((AR K H p ys/\∀l,H l=none->Q (.ref l) (AJ H l (.AG ys)))\/(AK K H p ys/\Q (.ref p) H))
theorem Ii{H H':Hp}{a:Addr}(s:AQ H H')(h:H' a=none):H a=none:=by
 cases e:H a with
 | none=>rfl
 | some o=>rw[s _ _ e] at h; cases h
theorem ZU:(["_law_number","_law_scale"]:List Str).Nodup:=by decide +kernel
theorem ZI:(["_law_part","_law_scale"]:List Str).Nodup:=by decide +kernel
def MX(K:PySem.W.Frag):Sp:=λvs H Q _=>∃(a pb pc:Addr) (ns:List Int) (bs:List AE) (c:Rat),vs=[.ref a,.ref pb,.ref pc]/\IL K H a ns/\BV A4 H pb bs/\1<=bs.length/\bs.length<=30/\Aa H pc c/\Sb 7 13 c/\(∀b∈bs,LP b) /\
 ∀p pt p1 p2 J k how q1 q2 H',AQ H H'->H' p=some (.AG [.ref pt,.bl (decide (how=0) && decide (1<(AO bs J).r-(AO bs J).l))])->H' pt=some (.AG [.str "split",.int (J:Int),.int k,.ref p1,.ref p2])->A5 Aa H' p1 (BG c q1)->A5 Aa H' p2 (BG c q2)->J<bs.length->Ek bs.length J (AO bs J) how k q1 q2->Q (.ref p) H'
theorem EA:Ar ["_law_script","_law_boxes","_law_scale","_law_j","_law_k","_law_left","_law_low","_law_right","_law_high","_law_x","_law_how","_law_parts","_law_rectangles"] ["_law_script","_law_boxes","_law_scale"] (Aj s_law_split_by):=Aw
set_option maxHeartbeats 4000000 in
theorem VT (F:Ag K "_law_split_by" "_law_split_by" s_law_split_by f fd) (G1:AH P w K mg base AM 1 f1 d1 ["_law_script","_law_k"] (Ho K)) (b1:AW K d1 ["_law_script","_law_k"] []) (k1:KP K f1) (m1:mg "_law_cell_at" = some (.ref f1))
  (G2:AH P w K mg base AM 2 f2 d2 ["_law_number","_law_scale"] Fq) (b2:AW K d2 ["_law_number","_law_scale"] []) (k2:KP K f2) (m2:mg "_law_scaled_one" = some (.ref f2)) (ml:mg "len" = none) (mt:mg "tuple" = none) :
  AH P w K mg base AM 3 f fd ["_law_script","_law_boxes","_law_scale"] (MX K):=by
 refine F.ok EA (λvs H Q E h=>?_) (λcdv A outer s H vs Q E hr h=>?_)
 ·obtain⟨a,pb,pc,ns,bs,c,rfl,_⟩:=h;rfl
 obtain⟨a,pb,pc,ns,bs,c,rfl,hS,⟨cs,hp,hC⟩,n1,n30,hc,sc,bw,q⟩:=h;have hr1:=hr.mono (show 1<=2 by decide);have lm:(cs.map V.ref).length=bs.length:=by rw[List.length_map,hC.1]
 refine⟨_,AS (Ad (i:=3) EA.nd rfl (Or.inl rfl) (AX Bw (Ah G1 hr1 (by rfl) m1 k1 b1 .nil Ae (AA (pv 0) (AA AF AI))) (BE (B6 (K:=K)) (by rfl) ml B7 (AA (pv 1) AI))))
  (AS (Ad (i:=4) EA.nd rfl (Or.inl rfl) (AX BU (AX BU (pv 3) AF) (AX Bw (Ah G1 hr1 (by rfl) m1 k1 b1 .nil Ae (AA (pv 0) (AA AF AI))) (AX CV (BE (B6 (K:=K)) (by rfl) ml B7 (AA (pv 1) AI)) (pv 3)))))
  (AS (E7 (pL K (pv 1) (pv 3)) (D7 (n:=4) (K:=K) rfl (BQ (Az (i:=5) EA.nd rfl (Or.inl rfl)) (BQ (Az (i:=6) EA.nd rfl (Or.inl rfl)) (BQ (Az (i:=7) EA.nd rfl (Or.inl rfl)) (BQ (Az (i:=8) EA.nd rfl (Or.inl rfl)) D0))))))
  (AS (Ad (i:=9) EA.nd rfl (Or.inl rfl) (AX BU (pv 5) AF))
  (AS (Ad (i:=10) EA.nd rfl (Or.inl rfl) (AX Bw (AX E3 (Ah G1 hr1 (by rfl) m1 k1 b1 .nil Ae (AA (pv 0) (AA AF AI))) AF) AF))
  (AS (Ad (i:=11) EA.nd rfl (Or.inl rfl) (DC (AA (DC (AA (pv 5) (AA (pv 6) (AA (pv 9) (AA (pv 8) AI))))) (AA (DC (AA (pv 9) (AA (pv 6) (AA (pv 7) (AA (pv 8) AI))))) AI))))
  (AS (A0 (Aq Bt (pv 10) AF (Ac _)) (AU (E7 (AX CV (pv 5) AF) (Iy (pL K (pv 11) AF) AF IX))) A2)
  (AS (A0 (Aq Bt (pv 10) AF (Ac _)) (AU (E7 (AX BU (pv 9) AF) (Iy (pL K (pv 11) AF) AF IX))) A2)
  (AS (A0 (Aq Bt (pv 10) AF (Ac _)) (AU (E7 (AX BU (pv 8) AF) (Iy (pL K (pv 11) AF) AF IX))) A2)
  (AS (A0 (Aq Bt (pv 10) AF (Ac _)) (AU (Ad (i:=4) EA.nd rfl (Or.inl rfl) (AX BU (BE (B6 (K:=K)) (by rfl) ml B7 (AA (pv 1) AI)) AF))) A2)
  (AS (A0 (Aq Bt (pv 10) AF (Ac _)) (AU (Ad (i:=4) EA.nd rfl (Or.inl rfl) (pv 3))) A2)
  (AS (Jf (i:=12) EA.nd rfl (Or.inl rfl) (Nc:=["_law_part","_law_scale"]) (cap:=[(1,2)]) (g:=B9 0) (te:=LL (Qr K) (Ay (HF 2 [(1,1)] (JG K (Al 0)) (B9 0) (DT Fq [] E0 (Ay (Al 0) (Ay (Al 1) Bc)))) Bc)) rfl (Ip (pv 11))
   (EH rfl rfl (by decide +kernel) (by decide +kernel) (List.forall_mem_cons.mpr ⟨⟨rfl,rfl⟩,List.forall_mem_nil _⟩) rfl (List.forall_mem_cons.mpr ⟨⟨_,_,rfl,rfl,rfl,rfl,rfl⟩,List.forall_mem_nil _⟩))
   (λ_ _ _ _ _=>Az (i:=0) ZI rfl (Or.inl rfl))
   (λ_ _ _ _ _=>Dx Hc (by rfl) mt Gx (AA (Hj (Nc:=["_law_number","_law_scale"]) (cap:=[(1,1)]) (g:=B9 0) (te:=DT Fq [] E0 (Ay (Al 0) (Ay (Al 1) Bc))) rfl (Ip (pv 0))
    (EH rfl rfl (by decide +kernel) (by decide +kernel) (List.forall_mem_cons.mpr ⟨⟨rfl,rfl⟩,List.forall_mem_nil _⟩) rfl (List.forall_mem_cons.mpr ⟨⟨_,_,rfl,rfl,rfl,rfl,rfl⟩,List.forall_mem_nil _⟩))
    (λ_ _ _ _ _=>Az (i:=0) ZU rfl (Or.inl rfl)) (λ_ _ _ _ _=>Ah G2 hr (by rfl) m2 k2 b2 .nil Ae (AA (pv 0) (AA (pv 1) AI)))) AI)))
  (AU (Ab (Ax (AA (Ax (AA Bo (AA (pv 3) (AA (pv 4) (AA (pL K (pv 12) AF) (AA (pL K (pv 12) AF) AI)))))) (AA (E8 (Bm Bt (pv 10) AF (Ac _)) (Dg (Bm EO (AX CV (pv 7) (pv 5)) AF (Ac _)))) AI)))))))))))))))),?_⟩
 have zp:(0:Int)<((cs.map V.ref).length:Int):=by omega
 refine⟨_,rfl,a,ns,_,rfl,hS,by decide,λz1 _=>?_⟩;refine⟨_,rfl,pb,_,rfl,.inl (AR.of hp),_,_,rfl,rfl,zp,?_⟩;have y0:=Int.emod_nonneg z1 (Int.ne_of_gt zp);have y1:=Int.emod_lt_of_pos z1 zp;obtain⟨J,hJ⟩:=Int.eq_ofNat_of_zero_le y0;rw[hJ] at y1 ⊢;have Jl:J<bs.length:=by omega
 have zk:(0:Int)<((cs.map V.ref).length:Int)-(J:Int):=by omega
 refine⟨_,rfl,_,_,rfl,rfl,_,rfl,a,ns,_,rfl,hS,by decide,λz2 _=>?_⟩;refine⟨_,rfl,pb,_,rfl,.inl (AR.of hp),_,rfl,_,_,rfl,rfl,_,_,rfl,rfl,zk,_,_,rfl,rfl,?_⟩;have k0:=Int.emod_nonneg z2 (Int.ne_of_gt zk);have k1':=Int.emod_lt_of_pos z2 zk;obtain⟨k,hk⟩:∃k,(J:Int)+1+z2 % (((cs.map V.ref).length:Int)-(J:Int))=k:=⟨_,rfl⟩;rw[hk];have kJ:(J:Int)<k:=by omega
 have kn:k<=bs.length:=by omega
 obtain⟨cb,ec,hb⟩:=hC.get (Dz Jl);have bv:=bw _ (List.mem_of_getElem? (Dz Jl));obtain⟨b,hB⟩:∃b,AO bs J=b:=⟨_,rfl⟩;rw[hB] at hb bv;obtain⟨l,lo,r,hi⟩:=b;refine⟨_,rfl,_,rfl,pb,_,_,_,rfl,rfl,AR.of hp,Ap (BF ec),cb,_,rfl,AK.of hb,rfl,_,_,rfl,_,_,rfl,_,_,rfl,_,_,rfl,rfl,?_⟩;refine⟨_,rfl,_,_,rfl,rfl,?_⟩;refine⟨_,rfl,a,ns,_,rfl,hS,by decide,λz3 _=>?_⟩;have h0:=Int.emod_nonneg (z3 / 5) (show(6:Int)≠0 by decide);have h1:=Int.emod_lt_of_pos (z3 / 5) (show(0:Int)<6 by decide);refine⟨_,_,rfl,rfl,⟨by decide,by decide⟩,_,_,rfl,rfl,(show(0:Int)<6 by decide),?_⟩;generalize z3 / 5 % 6=how at h0 h1;refine⟨_,rfl,_,rfl,_,rfl,_,rfl,by exact CL,λl1 hl1=>?_⟩;obtain⟨H1,e1,s1,g1⟩:=EZ hl1 [.int l,.int lo,.int (l+1),.int hi];rw[e1];refine⟨_,rfl,_,rfl,_,rfl,_,rfl,by exact CL,λl2 hl2=>?_⟩;obtain⟨H2,e2,s2,g2⟩:=EZ hl2 [.int (l+1),.int lo,.int r,.int hi];rw[e2];refine⟨by exact sz2,λL hL=>?_⟩;obtain⟨H3,e3,s3,gL⟩:=EZ hL [.ref l1,.ref l2];rw[e3];have g1':=s3 _ _ (s2 _ _ g1);have g2':=s3 _ _ g2;have s03:=s1.trans (s2.trans s3);have dif:l1≠l2:=A7 g1 hl2;have d1:l1≠L:=A7 (s2 _ _ g1) hL;have d2:l2≠L:=A7 g2 hL;have fin:∀(H4:Hp) (kk hw:Int) (q1 q2:AE),AQ H H4->H4 l1=some (.AN ((CC q1).map V.int))->H4 l2=some (.AN ((CC q2).map V.int))->H4 L=some (.AN [.ref l1,.ref l2])->Ca q1->Ca q2->Ek bs.length J (l,lo,r,hi) hw kk q1 q2 →
   NG (IG (HF 2 [(1,2)] (JG K (Al 11)) (B9 0) (LL (Qr K) (Ay (HF 2 [(1,1)] (JG K (Al 0)) (B9 0) (DT Fq [] E0 (Ay (Al 0) (Ay (Al 1) Bc)))) Bc))) (B9 12)) (HQ (FL (Ay (FL (Ay (tC (.str "split")) (Ay (Al 3) (Ay (Al 4) (Ay (BK (HN K) (Al 12) (tC (.int 0))) (Ay (BK (HN K) (Al 12) (tC (.int 1))) Bc)))))) (Ay (Mb (BK R9 (Al 10) (tC (.int 0))) (BK (Ey λi j=>.bl (decide (j<i))) (BK (Ey λi j=>.int (i-j)) (Al 7) (Al 5)) (tC (.int 1)))) Bc)))) { nx:=λ_ H'=>Q .An H',rt:=Q } [some (.ref a),some (.ref pb),some (.ref pc),some (.int J),some (.int kk),some (.int l),some (.int lo),some (.int r),some (.int hi),some (.int (l+1)),some (.int hw),some (.ref L),none] H4:=by
  intro H4 kk hw q1 q2 s4 w1 w2 wL v1 v2 sf;refine⟨_,rfl,L,rfl,⟨_,AR.of wL⟩,λacc hacc=>?_⟩;have hc4:=s4 _ _ hc;refine E1 (Hg wL) (by show 2<=1000; decide) hacc (λi ys σ hp=>∃es:List Addr,ys=es.map V.ref/\At (A5 Aa) hp es ([BG c q1,BG c q2].take i)/\∃u,σ=[u,some (.ref pc)]) ⟨[],rfl,At.nil,none,rfl⟩ ?_ ?_
  ·rintro i ys σ H5 x H6 hi' sm hacc5 ⟨es,rfl,hE,u,rfl⟩ ⟨rfl,hx⟩ Cc hCc;obtain⟨lx,qx,rfl,wx,vx,ex⟩:∃lx qx,x=.ref lx/\H4 lx=some (.AN ((CC qx).map V.int))/\Ca qx/\[BG c q1,BG c q2][i]?=some (BG c qx):=by
    match i,hx with
    | 0,hx=>exact⟨l1,q1,(Option.some.inj hx).symm,w1,v1,rfl⟩
    | 1,hx=>exact⟨l2,q2,(Option.some.inj hx).symm,w2,v2,rfl⟩
    | n+2,hx=>simp at hx
   have wx5:=sm _ _ wx;have hc5:=sm _ _ hc4;refine⟨_,rfl,lx,rfl,⟨_,AR.of wx5⟩,λacc2 hacc2=>?_⟩;refine E1 (Hg wx5) (by show 4<=1000; decide) hacc2 (λi ys σ hp=>∃es:List Addr,ys=es.map V.ref/\At Aa hp es ((BG c qx).take i)/\∃u,σ=[u,some (.ref pc)]) ⟨[],rfl,At.nil,none,rfl⟩ ?_ ?_
   ·rintro i2 ys2 σ2 H7 x2 H8 hi2 sm2 hacc7 ⟨es2,rfl,hE2,u2,rfl⟩ ⟨rfl,hx2⟩ Cc2 hCc2;obtain⟨e,rfl,he⟩:=Lv hx2;refine⟨_,rfl,_,rfl,e,pc,c,rfl,sm2 _ _ hc5,sc,vx e (List.mem_of_getElem? he),λt ht=>?_⟩;have st:=AY ht (.AG [.int ((e:Rat)*c).num,.int ((e:Rat)*c).den]);refine hCc2 _ _ _ st ⟨es2++[t],by simp,?_,_,rfl⟩;have ec2:(BG c qx)[i2]?=some ((e:Rat)*c):=by rw[List.getElem?_map,he]; rfl
    rw[Dw ec2];exact(hE2.keep DV (Fe acc2 st)).snoc (Aa.del (q:=(e:Rat)*c) AV (st _ _ hacc7))
   rintro ys2 σ2 H7 s7 hacc7 hl7 ⟨es2,rfl,hE2,u2,rfl⟩;rw[List.take_of_length_le (by simp)] at hE2;refine⟨acc2,_,rfl,.inl ⟨AR.of hacc7,λt ht=>?_⟩⟩;have st:=AY ht (.AG (es2.map V.ref));have gt:A5 Aa (AJ H7 t (.AG (es2.map V.ref))) t (BG c qx):=⟨es2,AV,(hE2.keep DV (Ff H7 acc2)).keep DV st⟩;generalize AJ H7 t (.AG (es2.map V.ref))=H8 at st gt;have s58:=s7.trans st;refine hCc _ _ _ s58 ⟨es++[t],by simp,?_,_,rfl⟩;rw[Dw ex];exact(hE.keep BO (Fe acc s58)).snoc (Nj gt (s58 _ _ hacc5))
  rintro ys σ H5 s5 hacc5 hl5 ⟨es,rfl,hE,u,rfl⟩;rw[List.take_of_length_le (by simp)] at hE;replace hE:=hE.keep BO (Ff H5 acc);obtain⟨p1,p2,rfl⟩:∃p1 p2,es=[p1,p2]:=by
   have:=hE.1
   match es,this with
   | [p1,p2],_=>exact⟨p1,p2,rfl⟩
  have t1:A5 Aa H5 p1 (BG c q1):=hE.2 0 _ _ rfl rfl;have t2:A5 Aa H5 p2 (BG c q2):=hE.2 1 _ _ rfl rfl;refine⟨_,rfl,_,rfl,_,rfl,acc,_,_,_,rfl,rfl,AR.of hacc5,Ap (j:=0) rfl,_,rfl,acc,_,_,_,rfl,rfl,AR.of hacc5,Ap (j:=1) rfl,by exact Nf,λpt hpt=>?_⟩;obtain⟨H6,e6,s6,g6⟩:=CP hpt [.str "split",.int (J:Int),.int kk,.ref p1,.ref p2];rw[e6];have s46:=s4.trans (s5.trans s6);refine⟨_,rfl,rfl,_,rfl,?_⟩;have go:∀b:Bool,b=(decide (hw=0) && decide (1<r-l))->∀p,H6 p=none->Q (.ref p) (AJ H6 p (.AG [.ref pt,.bl b])):=λb hb p hp=>by
   have s7:=AY hp (.AG [.ref pt,.bl b]);refine q p pt p1 p2 J kk hw q1 q2 _ (s46.trans s7) ?_ (s7 _ _ g6) (BO (s6.trans s7) t1) (BO (s6.trans s7) t2) Jl (by rw[hB]; exact sf);rw[hB,AV,hb]
  by_cases z0:hw=0
  ·exact A8 (iv z0) ⟨_,rfl,_,rfl,_,_,rfl,rfl,_,_,rfl,rfl,by exact sz2,go _ (by rw[decide_eq_true z0,Bool.true_and])⟩
  ·refine Am (FV z0) ⟨by exact sz2,?_⟩;exact go _ (by rw[decide_eq_false z0,Bool.false_and])
 have bl:=bv l (by simp);have blo:=bv lo (by simp);have br:=bv r (by simp);have bh:=bv hi (by simp);have wx:∀{x:Int},x.natAbs<=2 ^ 19+2->x.natAbs<=2 ^ 20:=λh=>Nat.le_trans h (by decide)
 have w1:Ca (l,lo,l+1,hi):=λx hx=>by
  simp only[CC,List.mem_cons,List.not_mem_nil,or_false] at hx;rcases hx with rfl | rfl | rfl | rfl <;> exact wx (by omega)
 have w2:Ca (l+1,lo,r,hi):=λx hx=>by
  simp only[CC,List.mem_cons,List.not_mem_nil,or_false] at hx;rcases hx with rfl | rfl | rfl | rfl <;> exact wx (by omega)
 have hm:how=0\/how=1\/how=2\/how=3\/how=4\/how=5:=by omega
 rcases hm with rfl | rfl | rfl | rfl | rfl | rfl
 ·refine⟨_,rfl,rfl,_,rfl,Am (by decide) ⟨_,rfl,rfl,_,rfl,Am (by decide) ⟨_,rfl,rfl,_,rfl,Am (by decide) ⟨_,rfl,rfl,_,rfl,Am (by decide) ⟨_,rfl,rfl,_,rfl,Am (by decide) ?_⟩⟩⟩⟩⟩;exact fin H3 k 0 (l,lo,l+1,hi) (l+1,lo,r,hi) s03 g1' g2' gL w1 w2 (.h0 k kJ kn)
 ·refine⟨_,rfl,rfl,_,rfl,A8 rfl ⟨_,rfl,_,_,rfl,rfl,_,rfl,L,_,_,_,rfl,rfl,AR.of gL,Ap (j:=0) rfl,l1,_,_,0,rfl,rfl,g1',Ia (by show 0<4; decide),?_⟩⟩;refine⟨_,rfl,rfl,_,rfl,Am (by decide) ⟨_,rfl,rfl,_,rfl,Am (by decide) ⟨_,rfl,rfl,_,rfl,Am (by decide) ⟨_,rfl,rfl,_,rfl,Am (by decide) ?_⟩⟩⟩⟩;refine fin _ k 1 (l-1,lo,l+1,hi) (l+1,lo,r,hi) ((Ba.one (x:=l1)).Gq s03 hl1) AV (by rw[Ao dif.symm]; exact g2') (by rw[Ao d1.symm]; exact gL) ?_ w2 (.h1 k kJ kn);intro x hx;simp only[CC,List.mem_cons,List.not_mem_nil,or_false] at hx;rcases hx with rfl | rfl | rfl | rfl <;> exact wx (by omega)
 ·refine⟨_,rfl,rfl,_,rfl,Am (by decide) ⟨_,rfl,rfl,_,rfl,A8 rfl ⟨_,rfl,_,_,rfl,rfl,_,rfl,L,_,_,_,rfl,rfl,AR.of gL,Ap (j:=1) rfl,l2,_,_,0,rfl,rfl,g2',Ia (by show 0<4; decide),?_⟩⟩⟩;refine⟨_,rfl,rfl,_,rfl,Am (by decide) ⟨_,rfl,rfl,_,rfl,Am (by decide) ⟨_,rfl,rfl,_,rfl,Am (by decide) ?_⟩⟩⟩;refine fin _ k 2 (l,lo,l+1,hi) (l+1+1,lo,r,hi) ((Ba.one (x:=l2)).Gq s03 (Ii s1 hl2)) (by rw[Ao dif]; exact g1') AV (by rw[Ao d2.symm]; exact gL) w1 ?_ (.h2 k kJ kn);intro x hx;simp only[CC,List.mem_cons,List.not_mem_nil,or_false] at hx;rcases hx with rfl | rfl | rfl | rfl <;> exact wx (by omega)
 ·refine⟨_,rfl,rfl,_,rfl,Am (by decide) ⟨_,rfl,rfl,_,rfl,Am (by decide) ⟨_,rfl,rfl,_,rfl,A8 rfl ⟨_,rfl,_,_,rfl,rfl,_,rfl,L,_,_,_,rfl,rfl,AR.of gL,Ap (j:=1) rfl,l2,_,_,3,rfl,rfl,g2',Ia (by show 3<4; decide),?_⟩⟩⟩⟩;refine⟨_,rfl,rfl,_,rfl,Am (by decide) ⟨_,rfl,rfl,_,rfl,Am (by decide) ?_⟩⟩;refine fin _ k 3 (l,lo,l+1,hi) (l+1,lo,r,hi+1) ((Ba.one (x:=l2)).Gq s03 (Ii s1 hl2)) (by rw[Ao dif]; exact g1') AV (by rw[Ao d2.symm]; exact gL) w1 ?_ (.h3 k kJ kn);intro x hx;simp only[CC,List.mem_cons,List.not_mem_nil,or_false] at hx;rcases hx with rfl | rfl | rfl | rfl <;> exact wx (by omega)
 ·refine⟨_,rfl,rfl,_,rfl,Am (by decide) ⟨_,rfl,rfl,_,rfl,Am (by decide) ⟨_,rfl,rfl,_,rfl,Am (by decide) ⟨_,rfl,rfl,_,rfl,A8 rfl ⟨_,rfl,pb,_,rfl,.inl (AR.of (s03 _ _ hp)),_,_,rfl,rfl,?_⟩⟩⟩⟩⟩;rw[lm];refine⟨_,rfl,rfl,_,rfl,Am (by decide) ?_⟩;exact fin H3 _ 4 (l,lo,l+1,hi) (l+1,lo,r,hi) s03 g1' g2' gL w1 w2 .h4
 ·refine⟨_,rfl,rfl,_,rfl,Am (by decide) ⟨_,rfl,rfl,_,rfl,Am (by decide) ⟨_,rfl,rfl,_,rfl,Am (by decide) ⟨_,rfl,rfl,_,rfl,Am (by decide) ⟨_,rfl,rfl,_,rfl,A8 rfl ⟨_,rfl,?_⟩⟩⟩⟩⟩⟩;exact fin H3 _ 5 (l,lo,l+1,hi) (l+1,lo,r,hi) s03 g1' g2' gL w1 w2 .h5
end
section
variable {B:Int} {c:Rat}
def fC(c:Rat)(B:Int)(e:Int):Int:=wh B ((e:Rat)*c)
def dC(c:Rat)(B:Int)(e:Int):Prop:=(((e:Rat)*c).den:Int) ∣ B
theorem Qc{e:Int}(h:dC c B e):((fC c B e:Int):Rat)=B*((e:Rat)*c):=YF h
theorem Ta(bs:List AE):Ee B (As c bs)=bs.map (Bl (fC c B)):=by
 unfold Ee;rw[List.map_map];rfl
theorem PK{c x:Int}(h:0<c):0<x*c↔0<x :=
 ⟨λz=>by
  rcases Int.lt_or_le 0 x with y | y
  ·exact y
  ·have:=Int.mul_nonpos_of_nonpos_of_nonneg y (Int.le_of_lt h); omega,λz=>Int.mul_pos z h⟩
theorem Oa:((0:Int):Rat)*c=0:=by simp
theorem aU(hB:0<B)(hc:0<c.num):Sc (fC c B) (dC c B):=by
 have cn:c*(c.den:Rat)=(c.num:Rat):=by
  have h1:=Qh c;have h2:((c.den:Int):Rat)=(c.den:Rat):=Rat.intCast_natCast _;have h3:(c.den:Rat)≠0:=by have:=c.den_nz; exact_mod_cast this
  rw[h2] at h1
  grind
 refine⟨λa b ha hb=>?_,?_,?_⟩
 ·have e1:=Qc ha;have e2:=Qc hb;have e:(((fC c B b-fC c B a)*(c.den:Int):Int):Rat)=(((b-a)*(B*c.num):Int):Rat):=by
   rw[Rat.intCast_mul,Rat.intCast_mul,Rat.intCast_mul,Rat.intCast_sub,Rat.intCast_sub,e1,e2,<-cn]
   have:(((c.den:Nat):Int):Rat)=(c.den:Rat):=Rat.intCast_natCast _
   rw[this]
   grind
  have e':(fC c B b-fC c B a)*(c.den:Int)=(b-a)*(B*c.num):=by exact_mod_cast e
  have dp:(0:Int)<(c.den:Int):=by have:=c.den_pos; omega
  have p1:=PK (x:=fC c B b-fC c B a) dp;have p2:=PK (x:=b-a) (Int.mul_pos hB hc);rw[e'] at p1;constructor
  ·intro z
   have:=p1.mp (p2.mpr (by omega)); omega
  ·intro z
   have:=p2.mp (p1.mpr (by omega)); omega
 ·unfold dC;rw[Oa];exact Int.one_dvd _
 ·unfold fC wh;rw[Oa];exact Int.zero_mul _
end
theorem QO{b:AE}:Cs b=false↔EU b:=by
 unfold Cs EU;by_cases h1:b.r<b.l <;> by_cases h2:b.u<b.d <;> by_cases h3:b.l=b.r <;> by_cases h4:b.d=b.u <;> simp[h1,h2,h3,h4] <;> omega
theorem Px{w h:Int}{b:AE}:CW w h b=false↔Ds w h b:=by
 unfold CW Ds;rw[Bool.or_eq_false_iff,Bool.or_eq_false_iff,Bool.or_eq_false_iff,decide_eq_false_iff_not,decide_eq_false_iff_not,decide_eq_false_iff_not,decide_eq_false_iff_not];omega
theorem QL(m:Int)(vs:List Int):∃xs,Bd m vs xs:=by
 refine⟨((Bj (0 :: m :: vs)).mergeSort λa b=>decide (a<=b)),RS (ns:=0 :: m :: vs) (λv=>by simp only[List.mem_cons]) (List.mergeSort_perm _ _) ?_⟩
 have:=List.pairwise_mergeSort (le:=λa b:Int=>decide (a<=b)) (λa b c h1 h2=>by simp only[decide_eq_true_iff] at *; omega) (λa b=>by simp only[Bool.or_eq_true,decide_eq_true_iff]; omega) (Bj (0 :: m :: vs))
 exact this.imp λh=>by simpa using h
theorem Fst.aL{bs:List AE}{j k:Nat}(f:Fst bs j k)(n:CY bs):False:=by
 obtain⟨a,b,e1,e2,o⟩:=f.Ja;obtain⟨hi,rfl⟩:=List.getElem?_eq_some_iff.mp e1;obtain⟨hj,rfl⟩:=List.getElem?_eq_some_iff.mp e2
 have:=List.pairwise_iff_getElem.mp n j k hi hj f.lt
 rw[this] at o; cases o
section
variable {f:Int->Int} {D:Int->Prop} {W U:Int} {bs:List AE} {ws:List V}
theorem VF(s:Sc f D)(dW:D W)(dU:D U)(dB:∀b∈bs,DB D b)(hw:0<W)(hu:0<U)(lk:Ck (f W) (f U) (bs.map (Bl f)) ws):ws.length=1↔Di W U bs/\FJ W U bs:=by
 obtain⟨xs,bx⟩:=QL W (Ep bs);obtain⟨ys,by'⟩:=QL U (Eo bs);have dX:∀v∈xs,D v:=λv hv=>by
  have:=(bx.mem v).mp hv
  simp only[Ep,List.mem_append,List.mem_map] at this;rcases this with rfl | rfl | ⟨b,hb,rfl⟩ | ⟨b,hb,rfl⟩
  ·exact s.z
  ·exact dW
  ·exact(dB b hb).1
  ·exact(dB b hb).2.2.1
 have dY:∀v∈ys,D v:=λv hv=>by
  have:=(by'.mem v).mp hv
  simp only[Eo,List.mem_append,List.mem_map] at this;rcases this with rfl | rfl | ⟨b,hb,rfl⟩ | ⟨b,hb,rfl⟩
  ·exact s.z
  ·exact dU
  ·exact(dB b hb).2.1
  ·exact(dB b hb).2.2.2
 have ex:∀{xs' ys':List Int},Bd (f W) (Ep (bs.map (Bl f))) xs'->Bd (f U) (Eo (bs.map (Bl f))) ys'->DI (bs.map (Bl f)) xs' ys'=(DI bs xs ys).map (Bl f):=λ{xs' ys'} b1 b2=>by
  have c1:=s.bd bx dX;have c2:=s.bd by' dY
  have d1:(Ep bs).map f=Ep (bs.map (Bl f)):=by simp[Ep,List.map_map,Function.comp_def]
  have d2:(Eo bs).map f=Eo (bs.map (Bl f)):=by simp[Eo,List.map_map,Function.comp_def]
  rw[d1] at c1;rw[d2] at c2;rw[b1.Dk c1,b2.Dk c2];exact s.Ha dB dX dY
 have mm:∀{p:AE->Prop},(∀b∈bs.map (Bl f),p b)↔∀b∈bs,p (Bl f b):=λ{p}=>List.forall_mem_map
 have novI:CY (bs.map (Bl f))->CY bs:=λn=>by
  unfold CY at n;rw[List.pairwise_map] at n;refine n.imp_of_mem λ{a b} ha hb h=>?_
  rwa [s.ov (dB a ha) (dB b hb)] at h
 constructor
 ·intro h1;cases lk with
  | no k b=>simp at h1
  | out k b=>simp at h1
  | ov j k=>simp at h1
  | Ha b=>simp[Fw] at h1
  | Et xs' ys' a1 a2 a3 b1 b2 e =>
   have cl:Di W U bs:=⟨λb hb=>(s.ok (dB b hb)).mp (QO.mp (mm.mp a1 b hb)),λb hb=>(s.BY dW dU (dB b hb)).mp (Px.mp (mm.mp a2 b hb)),novI a3⟩;refine⟨cl,(cl.Gf hw hu bx by').mp ?_⟩;rw[ex b1 b2] at e;simpa using e
 ·rintro⟨cl,fu⟩;have g0:=(cl.Gf hw hu bx by').mpr fu;have ni:∀b∈bs.map (Bl f),Cs b=false:=mm.mpr λb hb=>QO.mpr ((s.ok (dB b hb)).mpr (cl.ok b hb))
  have ou:∀b∈bs.map (Bl f),CW (f W) (f U) b=false:=mm.mpr λb hb=>Px.mpr ((s.BY dW dU (dB b hb)).mpr (cl.BY b hb))
  cases lk with
  | no j b e n=>rw[ni b (List.mem_of_getElem? e)] at n; cases n
  | out j b _ e n=>rw[ou b (List.mem_of_getElem? e)] at n; cases n
  | ov i j _ _ g=>exact(Fst.aL g (CY.sc s dB cl.nov)).elim
  | Ha b xs' ys' _ _ _ b1 b2 e =>
   rw[ex b1 b2,g0] at e;cases e
  | Et=>rfl
end
section
variable {c:Rat}
theorem KA(sc:Sb 7 13 c){x:Int}(hx:x.natAbs<=2 ^ 20):((x:Rat)*c).den<=2 ^ 16/\((x:Rat)*c).num.natAbs<=2 ^ 64:=by
 have dn:=c.den_nz;have e0:=IY (x*c.num) (c.den:Int) (by omega);have l1:=OD (x*c.num) (c.den:Int) (by omega);have l2:=OR (x*c.num) (c.den:Int) (by omega);rw[QZ] at e0;rw[e0] at l1 l2;dsimp only at l1 l2;rw[Int.natAbs_natCast,Int.natAbs_natCast] at l2;have s1:=sc.1;have s2:=sc.2;refine⟨Nat.le_trans l2 (Nat.le_trans s2 (by decide)),Nat.le_trans l1 ?_⟩;rw[Int.natAbs_mul];exact Nat.le_trans (Nat.mul_le_mul hx s1) (by decide)
theorem Ze(sc:Sb 7 13 c){x:Int}(hx:x.natAbs<=2 ^ 20):Sf ((x:Rat)*c):=by
 obtain⟨h1,h2⟩:=KA sc hx;exact⟨Nat.le_trans h2 (Nat.pow_le_pow_right (by decide) (by decide)),Nat.le_trans h1 (Nat.pow_le_pow_right (by decide) (by decide))⟩
theorem Ri(sc:Sb 7 13 c){W U:Int}{bs:List AE}(n:bs.length<=30)(hw:W.natAbs<=2 ^ 20)(hu:U.natAbs<=2 ^ 20)(hb:∀b∈bs,Ca b):FX ((W:Rat)*c) ((U:Rat)*c) (As c bs):=by
 refine⟨by rw[List.length_map]; exact n,λr hr=>?_,λq hq=>?_⟩
 ·obtain⟨b,_,rfl⟩:=List.mem_map.mp hr; rfl
 ·simp only[BI,List.mem_cons,List.mem_flatten,List.mem_map] at hq;rcases hq with rfl | rfl | ⟨_,⟨b,hbm,rfl⟩,hq⟩
  ·exact KA sc hw
  ·exact KA sc hu
  ·simp only[List.mem_map] at hq;obtain⟨x,hx,rfl⟩:=hq;exact KA sc (hb b hbm x hx)
theorem aT{W U:Int}{bs:List AE}(sc:Sb 7 13 c)(n:bs.length<=30)(hw:W.natAbs<=2 ^ 20)(hu:U.natAbs<=2 ^ 20)(hb:∀b∈bs,Ca b):
  0<Mth.cb (BI ((W:Rat)*c) ((U:Rat)*c) (As c bs))/\dC c (Mth.cb (BI ((W:Rat)*c) ((U:Rat)*c) (As c bs))) W/\dC c (Mth.cb (BI ((W:Rat)*c) ((U:Rat)*c) (As c bs))) U/\∀b∈bs,DB (dC c (Mth.cb (BI ((W:Rat)*c) ((U:Rat)*c) (As c bs)))) b:=by
 obtain⟨h1,h2,_⟩:=(Ri sc n hw hu hb).cb;have mem:∀b∈bs,∀x∈CC b,(x:Rat)*c∈BI ((W:Rat)*c) ((U:Rat)*c) (As c bs):=λb hbm x hx=>by
  simp only[BI,List.mem_cons,List.mem_flatten];exact .inr (.inr ⟨BG c b,List.mem_map_of_mem hbm,List.mem_map_of_mem hx⟩)
 exact⟨h1,h2 _ (by simp[BI]),h2 _ (by simp[BI]),λb hbm=>⟨h2 _ (mem b hbm _ (by simp)),h2 _ (mem b hbm _ (by simp)),h2 _ (mem b hbm _ (by simp)),h2 _ (mem b hbm _ (by simp))⟩⟩
theorem Xh {W U:Int} {bs:List AE} (sc:Sb 7 13 c) (hc:0<c.num) (n:bs.length<=30) (w0:0<W) (u0:0<U) (hw:W.natAbs<=2 ^ 20) (hu:U.natAbs<=2 ^ 20) (hb:∀b∈bs,Ca b) {ws:List V}
  (lk:Ck (wh (Mth.cb (BI ((W:Rat)*c) ((U:Rat)*c) (As c bs))) ((W:Rat)*c)) (wh (Mth.cb (BI ((W:Rat)*c) ((U:Rat)*c) (As c bs))) ((U:Rat)*c)) (Ee (Mth.cb (BI ((W:Rat)*c) ((U:Rat)*c) (As c bs))) (As c bs)) ws):ws.length=1↔Di W U bs/\FJ W U bs:=by
 obtain⟨h1,h2,h3,h4⟩:=aT sc n hw hu hb;rw[Ta] at lk;exact VF (aU h1 hc) h2 h3 h4 w0 u0 lk
end
end My
namespace My
open PySem PySem.Spec PyProof.Rows L2 Mth Wd Fl
section
variable {α:Type}
def BH(l:List α)(j k:Nat)(a b:α):List α:=(l.set j a).take k++b :: (l.set j a).drop k
theorem Js{l:List α}{k:Nat}(h:k<=l.length):(l.take k).length=k:=by rw[List.length_take]; omega
theorem WY{l:List α}{j k:Nat}{a b x:α}(jk:j<k)(hk:k<=l.length):(BH l j k a b).set j x=BH l j k x b:=by
 unfold BH;rw[List.set_append_left _ _ (by rw[Js (by rw[List.length_set]; exact hk)]; exact jk),<-List.take_set,List.set_set,List.drop_set_of_lt jk,List.drop_set_of_lt jk]
theorem Vb{l:List α}{j k:Nat}{a b:α}(hk:k<=l.length):(BH l j k a b).eraseIdx k=l.set j a:=by
 unfold BH;have e:=Js (l:=l.set j a) (k:=k) (by rw[List.length_set]; exact hk);rw[List.eraseIdx_append_of_length_le (by omega),e,Nat.sub_self,List.eraseIdx_cons_zero,List.take_append_drop]
theorem Ru{l:List α}{j k:Nat}{a b:α}(jk:j<k)(hk:k<=l.length):(BH l j k a b)[j]?=some a:=by
 unfold BH;rw[List.getElem?_append_left (by rw[Js (by rw[List.length_set]; exact hk)]; exact jk),List.getElem?_take_of_lt jk,List.getElem?_set_self (by omega)]
theorem Rl{l:List α}{j k:Nat}{a b:α}(hk:k<=l.length):(BH l j k a b)[k]?=some b:=by
 unfold BH;have e:=Js (l:=l.set j a) (k:=k) (by rw[List.length_set]; exact hk);rw[List.getElem?_append_right (by omega),e,Nat.sub_self]; rfl
theorem ZA{f:α->α->α}{d:α}{l:List α}{j k:Nat}{a b:α}(jk:j<k)(hk:k<=l.length):FO f d (BH l j k a b) j k=l.set j (f a b):=by
 unfold FO;rw[List.getD_eq_getElem?_getD,List.getD_eq_getElem?_getD,Ru jk hk,Rl hk,Option.getD_some,Option.getD_some,WY jk hk,Vb hk]
theorem Sn[DecidableEq α]{l:List α}{j:Nat}{x y:α}(h:l[j]?=some y):l.set j x=l↔x=y:=by
 obtain⟨hj,e⟩:=List.getElem?_eq_some_iff.mp h;constructor
 ·intro z
  have:=congrArg (λm=>m[j]?) z
  simp only[List.getElem?_set_self hj,h] at this;exact Option.some.inj this
 ·rintro rfl;rw[<-e]; exact List.set_getElem_self hj
theorem Xr{l:List α}{j k:Nat}{a b x:α}(h:x∈BH l j k a b):x=a\/x=b\/x∈l:=by
 unfold BH at h;rw[List.mem_append,List.mem_cons] at h;rcases h with h | rfl | h
 ·rcases List.mem_or_eq_of_mem_set (List.mem_of_mem_take h) with h | h
  ·exact .inr (.inr h)
  ·exact .inl h
 ·exact .inr (.inl rfl)
 ·rcases List.mem_or_eq_of_mem_set (List.mem_of_mem_drop h) with h | h
  ·exact .inr (.inr h)
  ·exact .inl h
end
theorem P0{α:Type}{l:List α}{j k:Nat}{a b:α}(hk:k<=l.length):(BH l j k a b).length=l.length+1:=by
 unfold BH;rw[List.length_append,List.length_cons,List.length_take,List.length_drop,List.length_set]; omega
theorem KG{c:Rat}{bs:List AE}{j k:Nat}{q1 q2:AE}:CU (As c bs) j k (BG c q1) (BG c q2)=As c (BH bs j k q1 q2):=by
 unfold CU BH As;rw[List.map_append,List.map_cons,List.map_take,List.map_drop,List.map_set]
theorem Rr{c:Rat}(hc:0<c)(x y:Int):Dr ((x:Rat)*c) ((y:Rat)*c)=((min x y:Int):Rat)*c:=by
 unfold Dr;simp only[KC hc];split <;> congr 2 <;> omega
theorem Rv{c:Rat}(hc:0<c)(x y:Int):Dt ((x:Rat)*c) ((y:Rat)*c)=((max x y:Int):Rat)*c:=by
 unfold Dt;simp only[KC hc];split <;> congr 2 <;> omega
theorem Y2{c:Rat}(hc:0<c)(a b:AE):Fy (BG c a) (BG c b)=BG c (min a.l b.l,min a.d b.d,max a.r b.r,max a.u b.u):=by
 unfold Fy;show [Dr ((a.l:Rat)*c) ((b.l:Rat)*c),Dr ((a.d:Rat)*c) ((b.d:Rat)*c),Dt ((a.r:Rat)*c) ((b.r:Rat)*c),Dt ((a.u:Rat)*c) ((b.u:Rat)*c)]=_;rw[Rr hc,Rr hc,Rv hc,Rv hc]; rfl
theorem V3{c:Rat}(hc:0<c){a b:AE}:BG c a=BG c b↔a=b:=by
 obtain⟨a0,a1,a2,a3⟩:=a;obtain⟨b0,b1,b2,b3⟩:=b;show [(a0:Rat)*c,(a1:Rat)*c,(a2:Rat)*c,(a3:Rat)*c]=[(b0:Rat)*c,(b1:Rat)*c,(b2:Rat)*c,(b3:Rat)*c]↔_;simp only[List.cons.injEq,and_true,EJ hc,Prod.mk.injEq]
theorem GK.split{w h:Int}{bs:List AE}(t:GK w h bs){J k:Nat}{b:AE}(eb:bs[J]?=some b)(Jk:J<k)(kn:k<=bs.length)(hx:b.l+1<b.r):Di w h (BH bs J k (b.l,b.d,b.l+1,b.u) (b.l+1,b.d,b.r,b.u))/\FJ w h (BH bs J k (b.l,b.d,b.l+1,b.u) (b.l+1,b.d,b.r,b.u)):=by
 obtain⟨hj,ej⟩:=List.getElem?_eq_some_iff.mp eb;have e1:bs=bs.take J++b :: bs.drop (J+1):=by rw[<-ej,<-List.drop_eq_getElem_cons hj]; exact(List.take_append_drop J bs).symm
 have tt:=t.HI;have tb:=t.tru b (List.mem_of_getElem? eb);rw[e1] at tt;have t2:=tt.LN (RI (x:=b.l+1) (by omega) hx tb.2);have pm:(BH bs J k (b.l,b.d,b.l+1,b.u) (b.l+1,b.d,b.r,b.u)).Perm (bs.take J++[(b.l,b.d,b.l+1,b.u),(b.l+1,b.d,b.r,b.u)]++bs.drop (J+1)):=by
  unfold BH;refine List.perm_middle.trans ?_;rw[List.take_append_drop,List.set_eq_take_append_cons_drop,if_pos hj,List.append_assoc];refine List.perm_middle.symm.trans ?_;refine List.Perm.append_left _ ?_;exact List.Perm.swap _ _ _
 have t3:=t2.Gh pm;refine⟨t3.Yl,λx y x0 x1 y0 y1=>?_⟩
 have:=t3.one x y x0 x1 y0 y1
 exact List.countP_pos_iff.mp (by omega)
theorem I0{c:Rat}(sc:Sb 7 13 c){bs:List AE}(n:bs.length<=30)(hb:∀b∈bs,Ca b):DU (As c bs):=by
 refine⟨by rw[List.length_map]; exact n,λr hr=>?_,λr hr y hy=>?_⟩
 ·obtain⟨b,_,rfl⟩:=List.mem_map.mp hr; rfl
 ·obtain⟨b,hm,rfl⟩:=List.mem_map.mp hr;obtain⟨z,hz,rfl⟩:=List.mem_map.mp hy;exact Ze sc (hb b hm z hz)
theorem QH{bs:List AE}{j:Nat}{b:AE}(h:bs[j]?=some b):AO bs j=b:=by
 unfold AO;rw[List.getD_eq_getElem?_getD,h]; rfl
open Classical in
theorem Xb{w h:Int}{bs:List AE}{c:Rat}(t:GK w h bs)(w0:0<w)(u0:0<h)(hw:w.natAbs<=2 ^ 20)(hu:h.natAbs<=2 ^ 20)(n:bs.length<=20)(bw:∀b∈bs,Ca b)(sc:Sb 7 13 c)(hc:0<c)(hcn:0<c.num){J:Nat}{b q1 q2:AE}{k how:Int}(eb:bs[J]?=some b)(sf:Ek bs.length J b how k q1 q2)(w1:Ca q1)(w2:Ca q2):
  ∃cv,IM ((w:Rat)*c) ((h:Rat)*c) (As c bs) (J:Int) k (BG c q1) (BG c q2) cv/\DF (As c bs) (J:Int) k (BG c q1) (BG c q2) cv=(decide (how=0) && decide (1<b.r-b.l)):=by
 have Jl:J<bs.length:=(List.getElem?_eq_some_iff.mp eb).1;have tb:=t.tru b (List.mem_of_getElem? eb);have lr:(As c bs).length=bs.length:=List.length_map ..;have mb:∀K,∀x∈BH bs J K q1 q2,Ca x:=λK x hx=>by
  rcases Xr hx with rfl | rfl | hx
  ·exact w1
  ·exact w2
  ·exact bw x hx
 have sk:IM ((w:Rat)*c) ((h:Rat)*c) (As c bs) (J:Int) k (BG c q1) (BG c q2) (decide (Di w h (BH bs J k.toNat q1 q2)/\FJ w h (BH bs J k.toNat q1 q2))):=by
  refine⟨I0 sc (by omega) bw,?_,λz=>?_,λz=>?_,λz ws lk=>?_⟩
  ·exact I0 (bs:=[q1,q2]) sc (by show 2<=30; decide) (λx hx=>by
    simp only[List.mem_cons,List.not_mem_nil,or_false] at hx;rcases hx with rfl | rfl
    ·exact w1
    ·exact w2)
  all_goals
   obtain⟨z1,z2,z3⟩:=Cd.mp z;rw[lr] at z3;have ll:=P0 (l:=bs) (j:=J) (k:=k.toNat) (a:=q1) (b:=q2) (by omega)
  ·rw[Int.toNat_natCast,KG];exact I0 sc (by omega) (mb _)
  ·rw[Int.toNat_natCast,KG];exact Ri sc (by omega) hw hu (mb _)
  ·rw[Int.toNat_natCast,KG] at lk;exact decide_eq_decide.mpr (Xh sc hcn (by omega) w0 u0 hw hu (mb _) lk)
 refine⟨_,sk,?_⟩;clear sk;have main:∀{k:Int},(J:Int)<k->k<=bs.length->DF (As c bs) (J:Int) k (BG c q1) (BG c q2) (decide (Di w h (BH bs J k.toNat q1 q2)/\FJ w h (BH bs J k.toNat q1 q2)))=(decide (Di w h (BH bs J k.toNat q1 q2)/\FJ w h (BH bs J k.toNat q1 q2)) && ((if Br [q1,q2] 0 1=true then BJ (As c (BH bs J k.toNat q1 q2)) J k.toNat else Bz (As c (BH bs J k.toNat q1 q2)) J k.toNat) && decide ((min q1.l q2.l,min q1.d q2.d,max q1.r q2.r,max q1.u q2.u)=b))):=λ{k} k1 k2=>by
  unfold DF;rw[Cd.mpr ⟨by omega,k1,by rw[lr]; omega⟩,Bool.true_and,Int.toNat_natCast];have e1:FW (CU (As c bs) J k.toNat (BG c q1) (BG c q2)) J k.toNat=(As c bs).set J (Fy (BG c q1) (BG c q2)):=ZA (by omega) (by rw[lr]; omega);have e2:(As c bs)[J]?=some (BG c b):=by rw[List.getElem?_map,eb]; rfl
  have e3:decide (FW (CU (As c bs) J k.toNat (BG c q1) (BG c q2)) J k.toNat=As c bs)=decide ((min q1.l q2.l,min q1.d q2.d,max q1.r q2.r,max q1.u q2.u)=b):=decide_eq_decide.mpr (by rw[e1,Sn e2,Y2 hc]; exact V3 hc);rw[e3,KG];unfold JI;rw[show BJ [BG c q1,BG c q2] 0 1=Br [q1,q2] 0 1 from MB (bs:=[q1,q2]) hc (by show 0<2; decide) (by show 1<2; decide)]
 have atJ:∀{k:Int},(J:Int)<k->k<=bs.length->AO (BH bs J k.toNat q1 q2) J=q1/\AO (BH bs J k.toNat q1 q2) k.toNat=q2/\J<(BH bs J k.toNat q1 q2).length/\k.toNat<(BH bs J k.toNat q1 q2).length:=λ{k} k1 k2=>by
  have ll:=P0 (l:=bs) (j:=J) (k:=k.toNat) (a:=q1) (b:=q2) (by omega);exact⟨QH (Ru (by omega) (by omega)),QH (Rl (by omega)),by omega,by omega⟩
 cases sf with
 | h0 _ k1 k2 =>
  obtain⟨a1,a2,a3,a4⟩:=atJ k1 k2;rw[main k1 k2];by_cases hx:1<b.r-b.l
  ·have cv:=t.split eb (show J<k.toNat by omega) (by omega) (show b.l+1<b.r by omega);have e1:Br [(b.l,b.d,b.l+1,b.u),(b.l+1,b.d,b.r,b.u)] 0 1=true:=by simp[Br,AO]
   have e2:BJ (As c (BH bs J k.toNat (b.l,b.d,b.l+1,b.u) (b.l+1,b.d,b.r,b.u))) J k.toNat=true:=by
    rw[MB hc a3 a4];unfold Br;rw[a1,a2];simp
   rw[decide_eq_true cv,if_pos e1,e2,decide_eq_true hx];have e3:(min b.l (b.l+1),min b.d b.d,max (b.l+1) b.r,max b.u b.u)=b:=by
    obtain⟨x0,x1,x2,x3⟩:=b;dsimp only[AE.l,AE.d,AE.r,AE.u] at hx ⊢;rw[show min x0 (x0+1)=x0 by omega,show min x1 x1=x1 by omega,show max (x0+1) x2=x2 by omega,show max x3 x3=x3 by omega]
   rw[decide_eq_true e3]; rfl
  ·have nc:¬(Di w h (BH bs J k.toNat (b.l,b.d,b.l+1,b.u) (b.l+1,b.d,b.r,b.u))/\FJ w h (BH bs J k.toNat (b.l,b.d,b.l+1,b.u) (b.l+1,b.d,b.r,b.u))):=λz=>by
    have:=z.1.ok (b.l+1,b.d,b.r,b.u) (by unfold BH; simp)
    unfold EU at this;dsimp only[AE.l,AE.d,AE.r,AE.u] at this tb hx;omega
   rw[decide_eq_false nc,decide_eq_false hx]; rfl
 | h1 _ k1 k2 =>
  rw[main k1 k2];have e:¬((min (b.l-1) (b.l+1),min b.d b.d,max (b.l+1) b.r,max b.u b.u)=b):=λz=>by
   have:=congrArg (λ(x:AE)=>x.l) z
   dsimp only[AE.l] at this;omega
  rw[decide_eq_false e,Bool.and_false,Bool.and_false]; rfl
 | h2 _ k1 k2 =>
  obtain⟨a1,a2,a3,a4⟩:=atJ k1 k2;rw[main k1 k2];have e1:Br [(b.l,b.d,b.l+1,b.u),(b.l+1+1,b.d,b.r,b.u)] 0 1=false:=by
   unfold Br;rw[Bool.and_eq_false_iff]
   right
   rw[Bool.or_eq_false_iff];refine⟨decide_eq_false ?_,decide_eq_false ?_⟩
   ·show ¬(b.l+1=b.l+1+1); omega
   ·show ¬(b.r=b.l); have:=tb.1; omega
  rw[if_neg (by rw[e1]; decide),Qg hc a3 a4 (by rw[a1]; exact tb.2) (by rw[a2]; exact tb.2)];have e2:CJ (BH bs J k.toNat (b.l,b.d,b.l+1,b.u) (b.l+1+1,b.d,b.r,b.u)) J k.toNat=false:=by
   unfold CJ;rw[a1,a2];rw[show decide (AE.l (b.l,b.d,b.l+1,b.u)=AE.l (b.l+1+1,b.d,b.r,b.u))=false from decide_eq_false (by show ¬(b.l=b.l+1+1); omega)];rfl
  rw[e2,Bool.false_and,Bool.and_false]; rfl
 | h3 _ k1 k2 =>
  rw[main k1 k2];have e:¬((min b.l (b.l+1),min b.d b.d,max (b.l+1) b.r,max b.u (b.u+1))=b):=λz=>by
   have:=congrArg (λ(x:AE)=>x.u) z
   dsimp only[AE.u] at this;omega
  rw[decide_eq_false e,Bool.and_false,Bool.and_false]; rfl
 | h4 =>
  unfold DF;have e:Bu (((As c bs).length:Int)+1) (J:Int) ((bs.length:Int)+1)=false:=by
   rw[Bool.eq_false_iff];intro z
   have:=(Cd.mp z).2.2
   rw[lr] at this;omega
  rw[e,Bool.false_and]; rfl
 | h5 =>
  unfold DF;have e:Bu (((As c bs).length:Int)+1) (J:Int) (J:Int)=false:=by
   rw[Bool.eq_false_iff];intro z
   have:=(Cd.mp z).2.1
   omega
  rw[e,Bool.false_and]; rfl
theorem Kj{w h:Int}{bs:List AE}{c:Rat}(t:GK w h bs)(hc:0<c)(j k:Int):Bg (As c bs) (.ab j k)=(Bu (bs.length:Int) j k && CJ bs j.toNat k.toNat)/\Bg (As c bs) (.bs j k)=(Bu (bs.length:Int) j k && Br bs j.toNat k.toNat):=by
 have lr:(As c bs).length=bs.length:=List.length_map ..;show Cn Bz _ j k=_/\Cn BJ _ j k=_;unfold Cn;rw[lr];cases z:Bu (bs.length:Int) j k with
 | false=>exact⟨rfl,rfl⟩
 | true =>
  obtain⟨z1,z2,z3⟩:=Cd.mp z;have tr:∀i,i<bs.length->(AO bs i).d<(AO bs i).u:=λi hi=>by
   have e:AO bs i=bs[i]:=by simp[hi]
   rw[e]; exact(t.tru _ (List.getElem_mem hi)).2
  rw[Qg hc (by omega) (by omega) (tr _ (by omega)) (tr _ (by omega)),MB hc (by omega) (by omega)];exact⟨rfl,rfl⟩
theorem Qk{rows:List (List Rat)}(rk:DU rows){j k:Nat}(jk:j<k)(kn:k<rows.length):DU (FW rows j k):=by
 have len:=QQ (f:=Fy) (d:=[]) jk kn;have hj:=Bv (show j<rows.length by omega);have hk:=Bv kn;have mem:∀r∈FW rows j k,r=Fy (rows.getD j []) (rows.getD k [])\/r∈rows:=λr hr=>by
  have:=List.mem_or_eq_of_mem_set (List.mem_of_mem_eraseIdx hr)
  rcases this with h | h
  ·exact .inr h
  ·exact .inl h
 have sj:=rk.sf _ (List.mem_of_getElem? hj);have sk:=rk.sf _ (List.mem_of_getElem? hk);have nj:=rk.four _ (List.mem_of_getElem? hj);have nk:=rk.four _ (List.mem_of_getElem? hk);refine⟨by have:=rk.n; have e:(FW rows j k).length+1=rows.length:=len; omega,λr hr=>?_,λr hr y hy=>?_⟩
 ·rcases mem r hr with rfl | h
  ·rfl
  ·exact rk.four r h
 ·rcases mem r hr with rfl | h
  ·generalize rows.getD j []=a at sj nj hy;generalize rows.getD k []=b at sk nk hy
   match a,nj,b,nk with
   | [a0,a1,a2,a3],_,[b0,b1,b2,b3],_ =>
    have s:∀{x y:Rat},Sf x->Sf y->Sf (Dr x y)/\Sf (Dt x y):=λh1 h2=>by
     unfold Dr Dt;constructor <;> split <;> assumption
    have hy:y∈[Dr a0 b0,Dr a1 b1,Dt a2 b2,Dt a3 b3]:=hy;simp only[List.mem_cons,List.not_mem_nil,or_false] at hy;rcases hy with rfl | rfl | rfl | rfl
    ·exact(s (sj _ (by simp)) (sk _ (by simp))).1
    ·exact(s (sj _ (by simp)) (sk _ (by simp))).1
    ·exact(s (sj _ (by simp)) (sk _ (by simp))).2
    ·exact(s (sj _ (by simp)) (sk _ (by simp))).2
  ·exact rk.sf r h y hy
abbrev z4:AE:=(0,0,0,0)
section
variable {P:Program} {w:World} {K:PySem.W.Frag} {mg:Str->Option Value} {base:Heap} {f g h f1 f2 f3 f4 C1 C2:Addr} {fd gd hd d1 d2 d3 d4:FuncData}
def NR:Sp:=λvs H Q _=>∃(p:Addr) (bs:List AE) (j k:Nat),vs=[.ref p,.int (j:Int),.int (k:Int)]/\BV A4 H p bs/\bs.length<=30/\j<k/\k<bs.length/\∀q H',H q=none->AQ H H'->BV A4 H' q (FO HM z4 bs j k)->Q (.ref q) H'
theorem LA:Ar ["_law_boxes","_law_j","_law_k","_law_one","_law_two_here","_law_both"] ["_law_boxes","_law_j","_law_k"] (Aj s_law_done):=Aw
theorem WT(xs:List V){j k:Nat}(h1:j<=k)(h2:k<=xs.length):B5 xs (some (j:Int)) (some (k:Int))=(xs.drop j).take (k-j):=by
 unfold B5;have e1:HT.Ai xs.length 0 (some (j:Int))=j:=by simp only[HT.Ai]; split <;> omega
 have e2:HT.Ai xs.length xs.length (some (k:Int))=k:=by simp only[HT.Ai]; split <;> omega
 rw[e1,e2]
theorem X1{bs:List AE}{j k:Nat}(jk:j<k)(kn:k<bs.length):FO HM z4 bs j k=bs.take j++[HM (AO bs j) (AO bs k)]++(bs.drop (j+1)).take (k-(j+1))++bs.drop (k+1):=by
 unfold FO;rw[List.eraseIdx_eq_take_drop_succ,List.set_eq_take_append_cons_drop,if_pos (by omega)];rw[List.take_append,List.drop_append];simp only[List.length_take,Nat.min_eq_left (show j<=bs.length by omega)];rw[List.take_of_length_le (l:=bs.take j) (i:=k) (by rw[List.length_take]; omega),List.drop_of_length_le (l:=bs.take j) (i:=k+1) (by rw[List.length_take]; omega),List.nil_append];rw[show k-j=(k-(j+1))+1 by omega,List.take_succ_cons,show k+1-j=(k+1-(j+1))+1 by omega,List.drop_succ_cons,List.drop_drop,show j+1+(k+1-(j+1))=k+1 by omega];simp
theorem Ue{H H':Hp}(s:AQ H H'){a:Addr}(h:H' a=none):H a=none:=by
 cases z:H a with
 | none=>rfl
 | some o=>rw[s _ _ z] at h; cases h
theorem Qt(x y:Int):(if y<x then y else x)=min x y:=by split <;> omega
theorem Q9(x y:Int):(if y > x then y else x)=max x y:=by split <;> omega
theorem VI(F:Ag K "_law_done" "_law_done" s_law_done f fd)(mn:mg "min" = none)(mx:mg "max" = none):AH P w K mg base AM 1 f fd ["_law_boxes","_law_j","_law_k"] NR:=by
 refine F.ok LA (λvs H Q E h=>?_) (λcdv A outer s H vs Q E hr h=>?_)
 ·obtain⟨p,bs,j,k,rfl,_⟩:=h;rfl
 obtain⟨p,bs,j,k,rfl,⟨cs,hp,hC⟩,n30,jk,kn,q⟩:=h;have lc:cs.length=bs.length:=hC.1;obtain⟨a,ea,ha⟩:=hC.get (Dz (show j<bs.length by omega));obtain⟨b,eb,hb⟩:=hC.get (Dz kn);have ha':H a=some (.AG [.int (AO bs j).l,.int (AO bs j).d,.int (AO bs j).r,.int (AO bs j).u]):=ha;have hb':H b=some (.AG [.int (AO bs k).l,.int (AO bs k).d,.int (AO bs k).r,.int (AO bs k).u]):=hb;rw[X1 jk kn] at q;unfold HM at q;generalize AO bs j=X at ha' q;generalize AO bs k=Y at hb' q;refine⟨_,AS (Ad (i:=3) LA.nd rfl (Or.inl rfl) (pL K (pv 0) (pv 1)))
  (AS (Ad (i:=4) LA.nd rfl (Or.inl rfl) (pL K (pv 0) (pv 2)))
  (AS (Ad (i:=5) LA.nd rfl (Or.inl rfl) (Ax (AA (BE (IU rfl) (by rfl) mn JA (AA (pT K (pv 3) AF) (AA (pT K (pv 4) AF) AI))) (AA (BE (IU rfl) (by rfl) mn JA (AA (pT K (pv 3) AF) (AA (pT K (pv 4) AF) AI))) (AA (BE (Hd rfl) (by rfl) mx Hq (AA (pT K (pv 3) AF) (AA (pT K (pv 4) AF) AI))) (AA (BE (Hd rfl) (by rfl) mx Hq (AA (pT K (pv 3) AF) (AA (pT K (pv 4) AF) AI))) AI))))))
  (AU (Ab (AX Ec (AX Ec (AX Ec (Fc (IP (K:=K)) (pv 0) GQ (E2 (pv 1))) (DC (AA (pv 5) AI))) (Fc (IP (K:=K)) (pv 0) (E2 (AX BU (pv 1) AF)) (E2 (pv 2)))) (Fc (IP (K:=K)) (pv 0) (E2 (AX BU (pv 2) AF)) GQ)))))),?_⟩
 refine⟨_,rfl,_,rfl,p,_,_,_,rfl,rfl,AR.of hp,Ap (BF ea),?_⟩;refine⟨_,rfl,_,rfl,p,_,_,_,rfl,rfl,AR.of hp,Ap (BF eb),?_⟩;refine⟨_,rfl,a,_,_,_,rfl,rfl,AK.of ha',Ge _ _ _ _,_,rfl,b,_,_,_,rfl,rfl,AK.of hb',Ge _ _ _ _,_,_,rfl,_,rfl,a,_,_,_,rfl,rfl,AK.of ha',GA _ _ _ _,_,rfl,b,_,_,_,rfl,rfl,AK.of hb',GA _ _ _ _,_,_,rfl,_,rfl,a,_,_,_,rfl,rfl,AK.of ha',Gn _ _ _ _,_,rfl,b,_,_,_,rfl,rfl,AK.of hb',Gn _ _ _ _,_,_,rfl,_,rfl,a,_,_,_,rfl,rfl,AK.of ha',HH _ _ _ _,_,rfl,b,_,_,_,rfl,rfl,AK.of hb',HH _ _ _ _,_,_,rfl,by exact CL,λt ht=>?_⟩;rw[Qt,Qt,Q9,Q9];obtain⟨H1,e1,s1,g1⟩:=J3 ht (min X.l Y.l) (min X.d Y.d) (max X.r Y.r) (max X.u Y.u);rw[e1];refine⟨_,rfl,_,rfl,_,rfl,p,_,rfl,AR.of (s1 _ _ hp),λq1 hq1=>?_⟩;rw[show B5 (cs.map V.ref) none (some ((j:Nat):Int))=(cs.take j).map V.ref from (Jw _ (by rw[List.length_map]; omega)).trans (List.map_take ..).symm];obtain⟨H2,e2,s2,g2⟩:=GD hq1 ((cs.take j).map V.ref);rw[e2];refine⟨_,rfl,by exact sz1,λq2 hq2=>?_⟩;obtain⟨H3,e3,s3,g3⟩:=GD hq2 [.ref t];rw[e3];refine⟨q1,q2,_,_,rfl,rfl,s3 _ _ g2,g3,by simp; exact ES (by omega),λq3 hq3=>?_⟩;obtain⟨H4,e4,s4,g4⟩:=GD hq3 ((cs.take j).map V.ref++[.ref t]);rw[e4];have s14:=s1.trans (s2.trans (s3.trans s4));refine⟨_,rfl,_,rfl,_,_,rfl,rfl,_,rfl,_,rfl,_,rfl,p,_,rfl,AR.of (s14 _ _ hp),λq4 hq4=>?_⟩;rw[show B5 (cs.map V.ref) (some (((j:Nat):Int)+1)) (some ((k:Nat):Int))=((cs.drop (j+1)).take (k-(j+1))).map V.ref from (WT (j:=j+1) _ (by omega) (by rw[List.length_map]; omega)).trans (by rw[List.map_take,List.map_drop])];obtain⟨H5,e5,s5,g5⟩:=GD hq4 (((cs.drop (j+1)).take (k-(j+1))).map V.ref);rw[e5];refine⟨q3,q4,_,_,rfl,rfl,s5 _ _ g4,g5,by simp; exact ES (by omega),λq5 hq5=>?_⟩;obtain⟨H6,e6,s6,g6⟩:=GD hq5 ((cs.take j).map V.ref++[.ref t]++((cs.drop (j+1)).take (k-(j+1))).map V.ref);rw[e6];have s16:=s14.trans (s5.trans s6);refine⟨_,rfl,_,rfl,_,_,rfl,rfl,_,rfl,p,_,rfl,AR.of (s16 _ _ hp),λq6 hq6=>?_⟩;rw[show B5 (cs.map V.ref) (some (((k:Nat):Int)+1)) none=(cs.drop (k+1)).map V.ref from (Lk (j:=k+1) _ (by rw[List.length_map]; omega)).trans (List.map_drop ..).symm];obtain⟨H7,e7,s7,g7⟩:=GD hq6 ((cs.drop (k+1)).map V.ref);rw[e7];refine⟨q5,q6,_,_,rfl,rfl,s7 _ _ g6,g7,by simp; exact ES (by omega),λq7 hq7=>?_⟩;have s8:=AY hq7 (.AN ((cs.take j).map V.ref++[.ref t]++((cs.drop (j+1)).take (k-(j+1))).map V.ref++(cs.drop (k+1)).map V.ref));have s18:=s16.trans (s7.trans s8);refine q q7 _ (Ue (s16.trans s7) hq7) s18 ⟨cs.take j++[t]++(cs.drop (j+1)).take (k-(j+1))++cs.drop (k+1),by rw[AV]; simp,?_⟩;have hC8:=hC.keep D3 s18;exact(((hC8.take j).snoc ((s2.trans (s3.trans (s4.trans (s5.trans (s6.trans (s7.trans s8)))))) _ _ g1)).FU ((hC8.drop (j+1)).take _)).FU (hC8.drop (k+1))
inductive Gd(W U:Rat)(rows:List (List Rat))(t:Cp):V->Prop
 | none:Ex t=true->Gd W U rows t .An
 | some (b:Bool):Ex t=false->IS W U rows t->Bg rows t=b->(b=true->DU (FN rows t))->Gd W U rows t (.bl b)
def ET:V->Int×Int
 | .bl true=>(0,0)
 | .bl false=>(1,0)
 | _=>(0,1)
theorem Gd.one{W U:Rat}{rows:List (List Rat)}{t:Cp}{v:V}(h:Gd W U rows t v):kd (one rows t)=ET v:=by
 cases h with
 | none n=>unfold My.one; rw[if_pos n]; rfl
 | some b n _ f _ =>
  unfold My.one;rw[if_neg (by rw[n]; decide),f];cases b <;> rfl
theorem Ik(a b:Int×Int):PyData.eqv (.tuple [.int a.1,.int a.2]) (.tuple [.int b.1,.int b.2])=decide (a=b):=by
 obtain⟨a1,a2⟩:=a;obtain⟨b1,b2⟩:=b;by_cases h1:a1=b1 <;> by_cases h2:a2=b2 <;> simp[PyData.eqv,PyData.eqvAll,h1,h2]
theorem GR(a b:Int):(PyData.tuple [.int a,.int b]).canLay0=true/\(PyData.tuple [.int a,.int b]).depth<=64:=by
 refine⟨?_,by simp[PyData.depth,PyData.depthAll]⟩;simp only[PyData.canLay0];refine Fh λd hd=>?_
 simp only[List.mem_cons,List.not_mem_nil,or_false] at hd;rcases hd with rfl | rfl <;> rfl
theorem ZL{H:Hp}{b:Addr}{s:CZ}(h:Fx GH HX H b (FE s)):HX (s.1:Int)/\H b=some (.AG [.str (GH (s.1:Int)),.int (s.2.1:Int),.int (s.2.2:Int)]):=by
 obtain⟨c,rest,e,sc,h⟩:=h;unfold FE at e;injection e with e1 e2
 subst e1 e2;exact⟨sc,h⟩
theorem Y0{bs:List AE}(bv:∀b∈bs,LP b){j k:Nat}(jk:j<k)(kn:k<bs.length):∀b∈FO HM z4 bs j k,Ca b:=λb hb=>by
 have p20:(2:Nat) ^ 20=1048576:=by decide
 have p19:(2:Nat) ^ 19=524288:=by decide
 rcases List.mem_or_eq_of_mem_set (List.mem_of_mem_eraseIdx hb) with h | rfl
 ·intro x hx
  have:=bv b h x hx
  omega
 ·have h1:=bv _ (List.mem_of_getElem? (Dz (show j<bs.length by omega)));have h2:=bv _ (List.mem_of_getElem? (Dz kn));unfold AO at h1 h2;unfold z4;generalize bs.getD j (0,0,0,0)=X at h1;generalize bs.getD k (0,0,0,0)=Y at h2;obtain⟨x0,x1,x2,x3⟩:=X;obtain⟨y0,y1,y2,y3⟩:=Y;have a0:=h1 x0 (by simp);have a1:=h1 x1 (by simp);have a2:=h1 x2 (by simp);have a3:=h1 x3 (by simp);have c0:=h2 y0 (by simp);have c1:=h2 y1 (by simp);have c2:=h2 y2 (by simp);have c3:=h2 y3 (by simp);intro x hx;simp only[HM,CC,AE.l,AE.d,AE.r,AE.u,List.mem_cons,List.not_mem_nil,or_false] at hx;rcases hx with rfl | rfl | rfl | rfl <;> omega
theorem Ek.bw{n J:Nat}{b q1 q2:AE}{how k:Int}(sf:Ek n J b how k q1 q2)(bv:LP b):Ca q1/\Ca q2:=by
 have p20:(2:Nat) ^ 20=1048576:=by decide
 have p19:(2:Nat) ^ 19=524288:=by decide
 have h0:=bv b.l (by simp);have h1:=bv b.d (by simp);have h2:=bv b.r (by simp);have h3:=bv b.u (by simp);cases sf <;>
  ·constructor <;>
   ·intro x hx;simp only[CC,List.mem_cons,List.not_mem_nil,or_false] at hx;rcases hx with rfl | rfl | rfl | rfl <;> omega
variable {f5 f6 f7 f8 f9 f10:Addr} {d5 d6 d7 d8 d9 d10:FuncData}
def Kr(K:PySem.W.Frag):Sp:=λvs H Q _=>∃(a:Addr) (ns:List Int),vs=[.ref a]/\AR K H a (ns.map V.int)/\ns.length<=63/\∀H',Q (.bl true) H'
theorem C5:Ar ["_law_script","_law_wide","_law_high","_law_boxes","_law_scale","_law_floor","_law_told","_law_fits","_law_due","_law_good","_law_behind","_law_way"] ["_law_script"] (Aj sLaw):=Aw
set_option maxHeartbeats 8000000 in
theorem YG (F:Ag K "law" "law" sLaw f fd) (G1:AH P w K mg base AM 1 f1 d1 ["_law_script","_law_k"] (Ho K)) (b1:AW K d1 ["_law_script","_law_k"] []) (k1:KP K f1) (m1:mg "_law_cell_at" = some (.ref f1))
  (G2:AH P w K mg base AM 1 f2 d2 ["_law_cell"] MM) (b2:AW K d2 ["_law_cell"] []) (k2:KP K f2) (m2:mg "_law_side" = some (.ref f2))
  (G3:AH P w K mg base AM 3 f3 d3 ["_law_script","_law_first","_law_last","_law_wide","_law_high","_law_most"] (Lw K)) (b3:AW K d3 ["_law_script","_law_first","_law_last","_law_wide","_law_high","_law_most"] []) (k3:KP K f3) (m3:mg "_law_built" = some (.ref f3))
  (G4:AH P w K mg base AM 2 f4 d4 ["_law_cell"] Mc) (b4:AW K d4 ["_law_cell"] []) (k4:KP K f4) (m4:mg "_law_scale_by" = some (.ref f4))
  (G5:AH P w K mg base AM 4 f5 d5 ["_law_boxes","_law_wide","_law_high","_law_scale"] Mh) (b5:AW K d5 ["_law_boxes","_law_wide","_law_high","_law_scale"] []) (k5:KP K f5) (m5:mg "_law_floor_of" = some (.ref f5))
  (G6:AH P w K mg base AM 2 f6 d6 ["_law_script","_law_boxes"] (MF K)) (b6:AW K d6 ["_law_script","_law_boxes"] []) (k6:KP K f6) (m6:mg "_law_word" = some (.ref f6))
  (G7:AH P w K mg base AM 3 f7 d7 ["_law_script","_law_boxes","_law_scale"] (MX K)) (b7:AW K d7 ["_law_script","_law_boxes","_law_scale"] []) (k7:KP K f7) (m7:mg "_law_split_by" = some (.ref f7))
  (G8:AH P w K mg base AM 2 f8 d8 ["_law_boxes"] NM) (b8:AW K d8 ["_law_boxes"] []) (k8:KP K f8) (m8:mg "_law_fitting" = some (.ref f8))
  (G9:AH P w K mg base AM 1 f9 d9 ["_law_boxes","_law_j","_law_k"] NR) (b9:AW K d9 ["_law_boxes","_law_j","_law_k"] []) (k9:KP K f9) (m9:mg "_law_done" = some (.ref f9))
  (G10:AH P w K mg base AM 12 f10 d10 ["_law_way","_law_told","_law_floor","_law_ahead"] Kw) (b10:AW K d10 ["_law_way","_law_told","_law_floor","_law_ahead"] []) (k10:KP K f10) (m10:mg "_law_asked" = some (.ref f10))
  (ml:mg "len" = none) (mr:mg "range" = none):AH P w K mg base AM 13 f fd ["_law_script"] (Kr K):=by
 refine F.ok C5 (λvs H Q E h=>?_) (λcdv A outer s H vs Q E hr h=>?_)
 ·obtain⟨a,ns,rfl,_⟩:=h;rfl
 obtain⟨a,ns,rfl,hS0,hS1,q⟩:=h;have hS:IL K H a ns:=⟨hS0,hS1⟩;have r1:=hr.mono (show 1<=12 by decide);have r2:=hr.mono (show 2<=12 by decide);have r3:=hr.mono (show 3<=12 by decide);have r4:=hr.mono (show 4<=12 by decide);refine⟨_,AS (Ad (i:=1) C5.nd rfl (Or.inl rfl) (Ah G2 r1 (by rfl) m2 k2 b2 .nil Ae (AA (Ah G1 r1 (by rfl) m1 k1 b1 .nil Ae (AA (pv 0) (AA AF AI))) AI)))
  (AS (Ad (i:=2) C5.nd rfl (Or.inl rfl) (Ah G2 r1 (by rfl) m2 k2 b2 .nil Ae (AA (AX E3 (Ah G1 r1 (by rfl) m1 k1 b1 .nil Ae (AA (pv 0) (AA AF AI))) AF) AI)))
  (AS (Ad (i:=3) C5.nd rfl (Or.inl rfl) (Ah G3 r3 (by rfl) m3 k3 b3 .nil Ae (AA (pv 0) (AA AF (AA AF (AA (pv 1) (AA (pv 2) (AA AF AI))))))))
  (AS (Ad (i:=4) C5.nd rfl (Or.inl rfl) (Ah G4 r2 (by rfl) m4 k4 b4 .nil Ae (AA (Ah G1 r1 (by rfl) m1 k1 b1 .nil Ae (AA (pv 0) (AA AF AI))) AI)))
  (AS (Ad (i:=5) C5.nd rfl (Or.inl rfl) (Ah G5 r4 (by rfl) m5 k5 b5 .nil Ae (AA (pv 3) (AA (pv 1) (AA (pv 2) (AA (pv 4) AI))))))
  (AS (E7 (Ah G6 r2 (by rfl) m6 k6 b6 .nil Ae (AA (pv 0) (AA (pv 3) AI))) (D7 (n:=2) (K:=K) rfl (BQ (Az (i:=6) C5.nd rfl (Or.inl rfl)) (BQ (Az (i:=7) C5.nd rfl (Or.inl rfl)) D0))))
  (AS (A0 (Aq Bt (AX Bw (Ah G1 r1 (by rfl) m1 k1 b1 .nil Ae (AA (pv 0) (AA AF AI))) AF) AF (Ac _))
   (AU (E7 (Ah G7 r3 (by rfl) m7 k7 b7 .nil Ae (AA (pv 0) (AA (pv 3) (AA (pv 4) AI)))) (D7 (n:=2) (K:=K) rfl (BQ (Az (i:=6) C5.nd rfl (Or.inl rfl)) (BQ (Az (i:=7) C5.nd rfl (Or.inl rfl)) D0))))) A2)
  (AS (Ad (i:=8) C5.nd rfl (Or.inl rfl) (Ax (AA AF (AA AF AI))))
  (AS (A0 (Ht (MI (pv 7))) (AU (Ad (i:=8) C5.nd rfl (Or.inl rfl) (Ax (AA AF (AA AF AI)))))
   (AU (A0 (D4 (pv 7)) (AU (Ad (i:=8) C5.nd rfl (Or.inl rfl) (Ax (AA AF (AA AF AI))))) A2)))
  (AS (Ad (i:=9) C5.nd rfl (Or.inl rfl) (Fc (ZF (K:=K)) (Ah G8 r2 (by rfl) m8 k8 b8 .nil Ae (AA (pv 3) AI)) GQ (E2 AF)))
  (AS (Ad (i:=10) C5.nd rfl (Or.inl rfl) (pv 5))
  (AS (A0 (PW.pt (DE (Aq EO (BE (B6 (K:=K)) (by rfl) ml B7 (AA (pv 9) AI)) AF (Ac _)) (EK (Ht (MI (pv 7))))))
   (AU (Ad (i:=10) C5.nd rfl (Or.inl rfl) (Ah G5 r4 (by rfl) m5 k5 b5 .nil Ae (AA (Ah G9 r1 (by rfl) m9 k9 b9 .nil Ae (AA (pv 3) (AA (pT K (pT K (pv 9) AF) AF) (AA (pT K (pT K (pv 9) AF) AF) AI)))) (AA (pv 1) (AA (pv 2) (AA (pv 4) AI))))))) A2)
  (AS (Ce PassesOwn.never rfl (IV (by rfl) mr (AA AF AI)) (Az (i:=11) C5.nd rfl (Or.inl rfl))
   (AU (A0 (Aq (MT hr.units) (Ah G10 hr (by rfl) m10 k10 b10 .nil Ae (AA (pv 11) (AA (pv 6) (AA (pv 10) (AA (Ax AI) AI))))) (pv 8) (Ac _)) (AU (Ab CI)) A2)))
  (AS (A0 (PW.pt (DE (Aq (MT hr.units) (Ah G10 hr (by rfl) m10 k10 b10 .nil Ae (AA AF (AA (pv 6) (AA (pv 5) (AA (Ax (AA (pv 6) (AA (Ax (AA Bo (AA AF (AA AF AI)))) (AA (Ax (AA Bo (AA AF (AA AF AI)))) AI)))) AI))))) (pv 8) (Ac _)) (EK (GV (D4 (pv 7)))))) (AU (Ab CI)) A2)
  (AU (Ab (GY (Xm (Lu (pv 7))) (Dg (Bm (Kd hr.units) (Ah G10 hr (by rfl) m10 k10 b10 .nil Ae (AA AF (AA (pv 6) (AA (pv 5) (AA (AX Wg (pv 9) (Ax (AA (pv 6) AI))) AI))))) (pv 8) (Ac _))))))))))))))))))),?_⟩
 have p20:(2:Nat) ^ 20=1048576:=by decide
 have p19:(2:Nat) ^ 19=524288:=by decide
 have lsb:∀{H1 H2:Hp} {p:Addr} {bs:List AE},AQ H1 H2->BV A4 H1 p bs->BV A4 H2 p bs:=λs h=>L5 s h
 refine⟨_,rfl,a,ns,0,rfl,hS,by decide,λz0 hz0=>⟨z0,rfl,hz0,λW W4 W9=>?_⟩⟩;refine⟨_,rfl,a,ns,0,rfl,hS,by decide,λz1 hz1=>⟨_,_,rfl,rfl,⟨by decide,by decide⟩,_,rfl,⟨by have:=hz1.1; omega,by have:=hz1.2; have:=hz1.1; omega⟩,λU U4 U9=>?_⟩⟩;refine⟨_,rfl,_,rfl,_,rfl,a,ns,W,U,rfl,hS,by omega,by omega,λpb H1 bs s1 hB n1 n10 fl=>?_⟩;have bv:∀b∈bs,LP b:=λb hb y hy=>by
  have i:=fl.HI.BY b hb;have t:=fl.tru b hb;unfold Ds at i;simp only[CC,List.mem_cons,List.not_mem_nil,or_false] at hy;dsimp only[AE.l,AE.d,AE.r,AE.u] at i t;rcases hy with rfl | rfl | rfl | rfl <;> omega
 have bw:∀b∈bs,Ca b:=λb hb y hy=>by have:=bv b hb y hy; omega
 refine⟨_,rfl,a,ns,4,rfl,⟨s1.seq hS.1,hS.2⟩,by decide,λz2 hz2=>⟨z2,rfl,λc sc cp pc hpc=>?_⟩⟩;obtain⟨H2,e2,s2,g2⟩:∃H2,AJ H1 pc (.AG [.int c.num,.int c.den])=H2/\AQ H1 H2/\Aa H2 pc c:=⟨_,rfl,AY hpc _,AV⟩;rw[e2];have hc0:0<c:=by rw[Rat.lt_iff]; simpa using cp
 have s12:=s1.trans s2;refine⟨_,rfl,_,rfl,_,rfl,_,rfl,?_⟩;dsimp only[L2.Bc];refine⟨pb,pc,bs,_,_,c,rfl,lsb s2 hB,by omega,g2,sc,by omega,by omega,bw,λpf H3 s3 hF=>?_⟩;have s03:=s12.trans s3;have hB3:=lsb (s2.trans s3) hB;refine⟨_,rfl,_,rfl,a,pb,ns,bs,rfl,⟨s03.seq hS.1,hS.2⟩,hB3,by omega,λp pt t v H4 s4 hp hT hW=>?_⟩;have st:Gd ((W:Rat)*c) ((U:Rat)*c) (As c bs) t v:=by
  have rk:=I0 sc (bs:=bs) (by omega) bw;have lr:(As c bs).length=bs.length:=List.length_map ..;cases hW with
  | ab j k =>
   have e:=(Kj fl hc0 j k).1;refine .some _ rfl rk e λz=>?_
   obtain⟨z1,z2,z3⟩:=Cd.mp (Bool.and_eq_true_iff.mp z).1;exact Qk rk (by omega) (by rw[lr]; omega)
  | bs j k =>
   have e:=(Kj fl hc0 j k).2;refine .some _ rfl rk e λz=>?_
   obtain⟨z1,z2,z3⟩:=Cd.mp (Bool.and_eq_true_iff.mp z).1;exact Qk rk (by omega) (by rw[lr]; omega)
  | no s j k=>exact .none rfl
 refine⟨p,_,rfl,AK.of hp,rfl,_,_,rfl,_,_,rfl,rfl,?_⟩
 (try dsimp only)
 have s04:=s03.trans s4;have g4:=(s3.trans s4) _ _ g2;have hB4:=lsb s4 hB3;have hF4:=Bs s4 hF;refine IZ (G:=λσ H5=>∃(pt:Addr) (t:Cp) (v:V),σ=[some (.ref a),some (.int W),some (.int U),some (.ref pb),some (.ref pc),some (.ref pf),some (.ref pt),some v,none,none,none,none]/\AQ H4 H5/\Dn H5 pt t/\Gd ((W:Rat)*c) ((U:Rat)*c) (As c bs) t v) (λr=>?_) ?_
 ·refine⟨_,rfl,a,ns,4,rfl,⟨s04.seq hS.1,hS.2⟩,by decide,λz3 _=>⟨_,_,rfl,rfl,(show(0:Int)<3 by decide),rfl,_,rfl,?_⟩⟩;refine F0 (λ_=>?_) (λ_=>?_)
  ·refine⟨_,rfl,_,rfl,_,rfl,a,pb,pc,ns,bs,c,rfl,⟨s04.seq hS.1,hS.2⟩,hB4,n1,by omega,g4,sc,bv,λp5 pt5 p1 p2 J k how q1 q2 H5 s5 hp5 hpt5 t1 t2 Jl sf=>?_⟩;obtain⟨w1,w2⟩:=sf.bw (bv _ (List.mem_of_getElem? (Dz Jl)));obtain⟨cv,sk,fe⟩:=Xb fl (by omega) (by omega) (by omega) (by omega) (by omega) bw sc hc0 cp (Dz Jl) sf w1 w2;refine⟨p5,_,rfl,AK.of hp5,rfl,_,_,rfl,_,_,rfl,rfl,?_⟩;refine r _ _ ⟨pt5,.sp J k (BG c q1) (BG c q2) cv,_,rfl,s5,⟨p1,p2,hpt5,t1,t2⟩,.some _ rfl sk fe λz=>?_⟩;rw[<-fe] at z;unfold DF at z;exact sk.rm (Bool.and_eq_true_iff.mp z).1
  ·have rr:=r _ _ ⟨pt,t,v,rfl,AQ.refl _,hT,st⟩
   first | exact rr | exact nx_go rr
 clear st hT hp hW;rintro σ H5 ⟨pt,t,v,rfl,s5,hT,st⟩;have s05:=s04.trans s5;have g5:=s5 _ _ g4;have hB5:=lsb s5 hB4;have hF5:=Bs s5 hF4;have hS5:IL K H5 a ns:=⟨s05.seq hS.1,hS.2⟩;clear hF4 hB4 g4 s04 hF hB3 s03 g2 s12 hB;refine⟨by exact sz2,λpd0 hpd0=>?_⟩;obtain⟨H6,e6,s6,g6⟩:=CP hpd0 [.int 1,.int 0];rw[e6]
 (try dsimp only)
 refine P9 ?_
 (try dsimp only)
 refine IZ (G:=λσ H7=>∃(pd:Addr),σ=[some (.ref a),some (.int W),some (.int U),some (.ref pb),some (.ref pc),some (.ref pf),some (.ref pt),some v,some (.ref pd),none,none,none]/\AQ H5 H7/\H7 pd=some (.AG [.int (ET v).1,.int (ET v).2])) (λr=>?_) ?_
 ·cases st with
  | none n =>
   refine⟨_,rfl,_,rfl,A8 rfl ⟨by exact sz2,λpd hpd=>?_⟩⟩;exact r _ _ ⟨pd,rfl,s6.trans (AY hpd _),AV⟩
  | some b n o f d =>
   refine⟨_,rfl,_,rfl,Am (by intro z; cases z) ?_⟩;cases b with
   | true =>
    refine⟨_,rfl,_,rfl,Bk ⟨by exact sz2,λpd hpd=>?_⟩⟩;exact r _ _ ⟨pd,rfl,s6.trans (AY hpd _),AV⟩
   | false =>
    refine⟨_,rfl,_,rfl,BX ?_⟩;have rr:=r _ _ ⟨pd0,rfl,s6,g6⟩
    first | exact rr | exact nx_go rr
 clear g6 e6 hpd0 pd0 s6;rintro σ H7 ⟨pd,rfl,s7,g7⟩;have hB7:=lsb s7 hB5;have hF7:=Bs s7 hF5;have gc7:=s7 _ _ g5;have hT7:=Ed s7 hT;clear hB5 hF5 g5 hT;have few:((Df bs.length).filter (DM bs)).length<64:=by
  have:=WW fl.HI.LD fl.tru
  omega
 refine IZ (G:=λσ H8=>∃(pg:Addr) (gs:List Addr),σ=[some (.ref a),some (.int W),some (.int U),some (.ref pb),some (.ref pc),some (.ref pf),some (.ref pt),some v,some (.ref pd),some (.ref pg),none,none]/\AQ H7 H8/\H8 pg=some (.AG (gs.map V.ref))/\(gs=[]\/∃g s,gs=[g]/\s∈Df bs.length/\DM bs s=true/\H8 g=some (.AG [.str (GH (s.1:Int)),.int (s.2.1:Int),.int (s.2.2:Int)]))) (λr=>?_) ?_
 ·refine⟨_,rfl,?_⟩;dsimp only[L2.Bc];refine⟨pb,bs,rfl,hB7,by omega,few,λtf cs rs H8 s8 htf hA pm pw=>?_⟩;have key:∀H9,AQ H8 H9->∀gs:List Addr,gs=cs.take 1->(gs=[]\/∃g s,gs=[g]/\s∈Df bs.length/\DM bs s=true/\H9 g=some (.AG [.str (GH (s.1:Int)),.int (s.2.1:Int),.int (s.2.2:Int)])):=λH9 s9 gs e=>by
   subst e;cases cs with
   | nil=>exact .inl rfl
   | cons g cs' =>
    have l:=hA.1
    match rs,l with
    | r0 :: rs',_ =>
     right
     have hr:=hA.2 0 _ _ rfl rfl;have m:=pm.mem_iff.mp (List.mem_cons_self (a:=r0));obtain⟨s,hs,rfl⟩:=List.mem_map.mp m;obtain⟨hs1,hs2⟩:=List.mem_filter.mp hs;exact⟨g,s,rfl,hs1,hs2,s9 _ _ (ZL hr).2⟩
  refine⟨_,rfl,tf,_,rfl,AK.of htf,λz=>?_,λz pg hpg=>?_⟩
  ·have l1:cs.length<=1:=by
    have z2:=z.2;rw[List.length_map] at z2;simp only[HT.Ai] at z2;split at z2 <;> omega
   exact r _ _ ⟨tf,cs,rfl,s8,htf,key H8 (AQ.refl _) cs (List.take_of_length_le l1).symm⟩
  ·have l1:1<=cs.length:=by
    rcases Nat.eq_zero_or_pos cs.length with y | y
    ·refine(z ?_).elim;rw[List.length_map,y];exact⟨rfl,rfl⟩
    ·exact y
   have e:B5 (cs.map V.ref) none (some 1)=(cs.take 1).map V.ref:=(Jw (j:=1) _ (by rw[List.length_map]; exact l1)).trans (List.map_take ..).symm;rw[e];have s9:=AY hpg (.AG ((cs.take 1).map V.ref));exact r _ _ ⟨pg,cs.take 1,rfl,s8.trans s9,AV,key _ s9 _ rfl⟩
 rintro σ H8 ⟨pg,gs,rfl,s8,hpg,hg⟩;have hB8:=lsb s8 hB7;have hF8:=Bs s8 hF7;have gc8:=s8 _ _ gc7;have hT8:=Ed s8 hT7;have g8:=s8 _ _ g7;clear hB7 hF7 gc7 hT7 g7;refine⟨_,rfl,?_⟩
 (try dsimp only)
 refine P9 ?_
 (try dsimp only)
 have base:∀rows',rows'=As c bs\/v=.An->(Ex t=true\/IS ((W:Rat)*c) ((U:Rat)*c) rows' t)/\kd (one rows' t)=ET v:=λrows' hrw=>by
  cases st with
  | none n=>exact⟨.inl n,(Gd.none (W:=(W:Rat)*c) (U:=(U:Rat)*c) n).one⟩
  | some b n o ft d =>
   rcases hrw with rfl | z
   ·exact⟨.inr o,(Gd.some b n o ft d).one⟩
   ·cases z
 refine IZ (G:=λσ H9=>∃(ph:Addr) (rows':List (List Rat)),σ=[some (.ref a),some (.int W),some (.int U),some (.ref pb),some (.ref pc),some (.ref pf),some (.ref pt),some v,some (.ref pd),some (.ref pg),some (.ref ph),none]/\AQ H8 H9/\Bi H9 ph ((W:Rat)*c) ((U:Rat)*c) rows'/\(rows'=As c bs\/v=.An)) (λr=>?_) ?_
 ·refine⟨_,rfl,pg,_,rfl,.inr (AK.of hpg),_,_,rfl,rfl,_,rfl,?_⟩;have rr:=r _ _ ⟨pf,_,rfl,AQ.refl _,hF8,.inl rfl⟩;rcases hg with rfl | ⟨g,s,rfl,hs1,hs2,hgs⟩
  ·refine Am (by decide) ?_
   first | exact rr | exact nx_go rr
  ·refine A8 (by show(0:Int)<1; decide) ?_;cases st with
   | some b n o ft d =>
    refine⟨_,rfl,_,rfl,Am (by intro z; cases z) ?_⟩
    first | exact rr | exact nx_go rr
   | none n =>
    obtain⟨_,jk,kn⟩:=GN.mp hs1;refine⟨_,rfl,_,rfl,A8 rfl ?_⟩;refine⟨_,rfl,_,rfl,pg,_,_,_,rfl,rfl,AK.of hpg,Ap (j:=0) rfl,g,_,_,_,rfl,rfl,AK.of hgs,HP _ _ _,_,rfl,pg,_,_,_,rfl,rfl,AK.of hpg,Ap (j:=0) rfl,g,_,_,_,rfl,rfl,AK.of hgs,EB _ _ _,pb,bs,s.2.1,s.2.2,rfl,hB8,by omega,jk,kn,λqd H9 _ s9 hD=>?_⟩;refine⟨_,rfl,_,rfl,_,rfl,?_⟩;dsimp only[L2.Bc];have dl:=QQ (f:=HM) (d:=z4) jk kn;refine⟨qd,pc,_,_,_,c,rfl,hD,by omega,s9 _ _ gc8,sc,by omega,by omega,Y0 bv jk kn,λpf2 H10 s10 hF2=>?_⟩;exact r _ _ ⟨pf2,_,rfl,s9.trans s10,hF2,.inr rfl⟩
 rintro σ H9 ⟨ph,rows',rfl,s9,hF9,hrw⟩;obtain⟨hO,hk⟩:=base rows' hrw;have hF9':=Bs s9 hF8;have hT9:=Ed s9 hT8;have g9:=s9 _ _ g8;have hpg9:=s9 _ _ hpg;refine⟨_,rfl,by decide,by decide,?_⟩;refine GL (lo:=0) (n:=2) (λi σ H10=>AQ H9 H10/\∃u,σ=[some (.ref a),some (.int W),some (.int U),some (.ref pb),some (.ref pc),some (.ref pf),some (.ref pt),some v,some (.ref pd),some (.ref pg),some (.ref ph),u]) ⟨AQ.refl _,none,rfl⟩ ?_ ?_
 ·rintro i σ H10 hi ⟨s10,u,rfl⟩;refine⟨_,rfl,_,rfl,_,rfl,by exact SK,λpe hpe=>?_⟩;obtain⟨H11,e11,s11,g11⟩:=CP hpe [];rw[e11];have s911:=s10.trans s11;refine⟨_,pt,ph,pe,_,_,rows',one rows' t,rfl,Bs s911 hF9,.one _ t (by omega) (Ed s911 hT9) hO,λp12 H12 s12 h12=>?_⟩;have e:PyData.eqv (.tuple [.int (kd (one rows' t)).1,.int (kd (one rows' t)).2]) (.tuple [.int (ET v).1,.int (ET v).2])=true:=by rw[Ik,hk]; exact decide_eq_true rfl
  refine⟨_,rfl,_,_,Fn h12,Fn ((s911.trans s12) _ _ g9),GR _ _,GR _ _,_,rfl,?_⟩;rw[e];exact BX ⟨s911.trans s12,_,rfl⟩
 rintro σ H10 ⟨s10,u,rfl⟩;refine⟨_,rfl,_,rfl,_,rfl,by exact Dv,λp1 hp1=>?_⟩;obtain⟨H11,e11,s11,g11⟩:=CP hp1 [.str "above",.int 0,.int 1];rw[e11];refine⟨by exact Dv,λp2 hp2=>?_⟩;obtain⟨H12,e12,s12,g12⟩:=CP hp2 [.str "none",.int 0,.int 1];rw[e12];refine⟨by exact Dv,λp3 hp3=>?_⟩;obtain⟨H13,e13,s13,g13⟩:=CP hp3 [.ref pt,.ref p1,.ref p2];rw[e13];have s913:=s10.trans (s11.trans (s12.trans s13));have w1:Dn H13 p1 (.ab 0 1):=s13 _ _ (s12 _ _ g11);have w2:Dn H13 p2 (.no "none" 0 1):=⟨s13 _ _ g12,by decide +kernel,by decide +kernel,by decide +kernel⟩;have at3:At Dn H13 [pt,p1,p2] [t,.ab 0 1,.no "none" 0 1]:=((At.nil.snoc (R:=Dn) (b:=pt) (x:=t) (Ed s913 hT9)).snoc w1).snoc w2;have okw:Gr ((W:Rat)*c) ((U:Rat)*c) [t,.ab 0 1,.no "none" 0 1] (As c bs):=by
  unfold Gr;cases st with
  | none n=>exact .inl n
  | some b n o ft d=>exact .inr ⟨o,λfz=>.inr ⟨d (by rw[<-ft]; exact fz),λ_=>.inl rfl⟩⟩
 refine⟨2,pt,pf,p3,_,_,As c bs,wk [t,.ab 0 1,.no "none" 0 1] (As c bs),rfl,Bs s913 hF9',.all [pt,p1,p2] _ g13 at3 okw,λp14 H14 s14 h14=>?_⟩;have s914:=s913.trans s14;refine⟨_,rfl,_,_,Fn h14,Fn (s914 _ _ g9),GR _ _,GR _ _,_,rfl,?_⟩;cases st with
 | some b n o ft d =>
  have fin:∀H',HQ (RT (Ql (Al 7)) (BK Rh (DT Kw [] E0 (Ay (tC (.int 2)) (Ay (Al 6) (Ay (Al 5) (Ay (BK (RH K) (Al 9) (FL (Ay (Al 6) Bc))) Bc))))) (Al 8))) { nx:=λ_ H'=>Q .An H',rt:=Q } [some (.ref a),some (.int W),some (.int U),some (.ref pb),some (.ref pc),some (.ref pf),some (.ref pt),some (.bl b),some (.ref pd),some (.ref pg),some (.ref ph),u] H':=λH'=>by
   refine⟨_,rfl,?_⟩;rw[decide_eq_false (show ¬(V.bl b=V.An) by intro z; cases z)];exact⟨_,rfl,Bk (q _)⟩
  cases b with
  | false =>
   have e:PyData.eqv (.tuple [.int (kd (wk [t,.ab 0 1,.no "none" 0 1] (As c bs))).1,.int (kd (wk [t,.ab 0 1,.no "none" 0 1] (As c bs))).2]) (.tuple [.int (ET (.bl false)).1,.int (ET (.bl false)).2])=true:=by
    rw[Ik];unfold wk;rw[if_neg (by rw[n]; decide),if_neg (by rw[ft]; decide)];exact decide_eq_true rfl
   rw[e];exact BX (fin _)
  | true =>
   generalize PyData.eqv _ _=x;cases x with
   | true=>exact BX (fin _)
   | false=>exact Bk ⟨_,rfl,_,rfl,BX (fin _)⟩
 | none n =>
  have e:PyData.eqv (.tuple [.int (kd (wk [t,.ab 0 1,.no "none" 0 1] (As c bs))).1,.int (kd (wk [t,.ab 0 1,.no "none" 0 1] (As c bs))).2]) (.tuple [.int (ET .An).1,.int (ET .An).2])=true:=by
   rw[Ik];unfold wk;rw[if_pos n];exact decide_eq_true rfl
  rw[e];refine BX ?_;refine⟨_,rfl,?_⟩;rw[decide_eq_true (show V.An=V.An from rfl)];refine⟨_,rfl,BX ?_⟩;refine⟨_,rfl,_,rfl,_,rfl,_,rfl,by exact sz1,λp4 hp4=>?_⟩;obtain⟨H15,e15,s15,g15⟩:=CP hp4 [.ref pt];rw[e15];have s915:=s914.trans s15;have hpt:=Ed s915 hT9;have hF15:=Bs s915 hF9';rcases hg with rfl | ⟨g,s,rfl,hs1,hs2,hgs⟩
  ·refine⟨pg,p4,_,_,rfl,rfl,AK.of (s915 _ _ hpg9),AK.of g15,by simp,by show 0+1<=sizeLine; decide,λ_=>?_,λz=>(z rfl).elim⟩;refine⟨2,pt,pf,p4,_,_,As c bs,wk [t] (As c bs),rfl,hF15,.all [pt] [t] g15 (At.nil.snoc (R:=Dn) (b:=pt) (x:=t) hpt) (.inl n),λp16 H16 s16 h16=>?_⟩;refine⟨_,rfl,_,_,Fn h16,Fn ((s915.trans s16) _ _ g9),GR _ _,GR _ _,?_⟩;rw[Ik];unfold wk;rw[if_pos n,decide_eq_true (show kd C9.Fi=ET .An from rfl)];exact q _
  ·refine⟨pg,p4,_,_,rfl,rfl,AK.of (s915 _ _ hpg9),AK.of g15,by simp,by show 1+1<=sizeLine; decide,λz=>(by cases z),λ_ p5 hp5=>?_⟩;obtain⟨H16,e16,s16,g16⟩:=CP hp5 [.ref g,.ref pt];have e17:AJ H15 p5 (.AG (List.map V.ref [g]++[V.ref pt]))=H16:=e16;rw[e17];have s916:=s915.trans s16;have hg16:=(s9.trans s916) _ _ hgs;have rk:=I0 sc (bs:=bs) (by omega) bw;obtain⟨hs0,jk,kn⟩:=GN.mp hs1;have pr:Bu (bs.length:Int) (s.2.1:Int) (s.2.2:Int)=true:=Cd.mpr ⟨by omega,by omega,by omega⟩;obtain⟨gT,hgT,nT,oT,fT⟩:∃gT,Dn H16 g gT/\Ex gT=false/\IS ((W:Rat)*c) ((U:Rat)*c) (As c bs) gT/\Bg (As c bs) gT=true:=by
    unfold DM at hs2;rcases hs0 with z | z
    ·rw[if_pos z] at hs2;refine⟨.ab s.2.1 s.2.2,?_,rfl,rk,?_⟩
     ·rw[z] at hg16; exact hg16
     ·rw[(Kj fl hc0 _ _).1,pr,Bool.true_and,Int.toNat_natCast,Int.toNat_natCast]; exact hs2
    ·rw[if_neg (by omega)] at hs2;refine⟨.bs s.2.1 s.2.2,?_,rfl,rk,?_⟩
     ·rw[z] at hg16; exact hg16
     ·rw[(Kj fl hc0 _ _).2,pr,Bool.true_and,Int.toNat_natCast,Int.toNat_natCast]; exact hs2
   refine⟨2,pt,pf,p5,_,_,As c bs,wk [gT,t] (As c bs),rfl,Bs s16 hF15,.all [g,pt] [gT,t] g16 ((At.nil.snoc (R:=Dn) (b:=g) (x:=gT) hgT).snoc (Ed s16 hpt)) (.inr ⟨oT,λ_=>.inl n⟩),λp18 H18 s18 h18=>?_⟩;refine⟨_,rfl,_,_,Fn h18,Fn ((s916.trans s18) _ _ g9),GR _ _,GR _ _,?_⟩;rw[Ik];unfold wk;rw[if_neg (by rw[nT]; decide),if_pos fT];unfold wk;rw[if_pos n,decide_eq_true (show kd C9.Fi=ET .An from rfl)];exact q _
end
end My
namespace My
open PySem L2 Mth
section
variable {K:PySem.W.Frag} {x qn:Str} {st:Stmt} {f C:Addr} {oc kV doc pm cdv ct:Value} {od an:Option Addr} {osl:Array (Option Value)} {fd:FuncData} {ps:List Str}
structure Dq(K:PySem.W.Frag)(x:Str)(st:Stmt)(ps:List Str)(f:Addr)(fd:FuncData):Prop where
 F:Ag K x x st f fd
 b:AW K fd ps []
 a:PySem.W.nsIn K mainGlobals x=some (some (.ref f))
theorem Dq.all{h:Heap}{mg:Str->Option Value}(d:Dq K x st ps f fd)(X:K.In h)(G:h.Ns mainGlobals mg):Ag K x x st f fd/\AW K fd ps []/\PySem.W.keepIn K (.ref f)=true/\mg x=some (.ref f):=⟨d.F,d.b,d.F.kp,PySem.W.mg_of X G d.a⟩
theorem dq (a:PySem.W.nsIn K mainGlobals x=some (some (.ref f))) (l:K.lookup f=some ⟨oc,od,.func (PySem.W.fnOf x x (De st) (DA st) (Aj st) .none kV doc pm an cdv ct),osl⟩) (c:PySem.W.codeIn K cdv x=true) (k:PySem.W.keepIn K (.ref f)=true)
  (b:∀{fd},Ag K x x st f fd->AW K fd ps []):Dq K x st ps f (PySem.W.fnOf x x (De st) (DA st) (Aj st) .none kV doc pm an cdv ct):=⟨Kf l c k,b (Kf l c k),a⟩
structure Dm(K:PySem.W.Frag)(C:Addr)(x qn:Str)(st:Stmt)(ps:List Str)(f:Addr)(fd:FuncData):Prop where
 F:Ag K x qn st f fd
 b:AW K fd ps []
 k:PySem.W.keepIn K (.ref f)=true
 a:PySem.W.findIn K (.ref C) x=some (some (.ref f))
 i:PySem.W.isFn K (.ref f)=true
theorem dm (a:PySem.W.findIn K (.ref C) x=some (some (.ref f))) (i:PySem.W.isFn K (.ref f)=true) (l:K.lookup f=some ⟨oc,od,.func (PySem.W.fnOf x qn (De st) (DA st) (Aj st) .none kV doc pm an cdv ct),osl⟩) (c:PySem.W.codeIn K cdv qn=true) (k:PySem.W.keepIn K (.ref f)=true)
  (b:∀{fd},Ag K x qn st f fd->AW K fd ps []):Dm K C x qn st ps f (PySem.W.fnOf x qn (De st) (DA st) (Aj st) .none kV doc pm an cdv ct):=⟨Kf l c k,b (Kf l c k),k,a,i⟩
theorem bn1(st:Stmt)(x qn:Str){p0:Str}(h:∀(kV doc pm:Value) (an:Option Addr) (cdv ct a0:Value),bindArgs (PySem.W.fnOf x qn (De st) (DA st) (Aj st) .none kV doc pm an cdv ct) ⟨[a0],[]⟩=pure [(p0,a0)]:=by intros; rfl)(F:Ag K x qn st f fd):AW K fd [p0] []:=F.binds λkV doc pm an cdv ct us hl=>by
 match us,hl with
 | [a0],_=>exact h kV doc pm an cdv ct a0
theorem bn2(st:Stmt)(x qn:Str){p0 p1:Str}(h:∀(kV doc pm:Value) (an:Option Addr) (cdv ct a0 a1:Value),bindArgs (PySem.W.fnOf x qn (De st) (DA st) (Aj st) .none kV doc pm an cdv ct) ⟨[a0,a1],[]⟩=pure [(p0,a0),(p1,a1)]:=by intros; rfl)(F:Ag K x qn st f fd):AW K fd [p0,p1] []:=F.binds λkV doc pm an cdv ct us hl=>by
 match us,hl with
 | [a0,a1],_=>exact h kV doc pm an cdv ct a0 a1
theorem bn3(st:Stmt)(x qn:Str){p0 p1 p2:Str}(h:∀(kV doc pm:Value) (an:Option Addr) (cdv ct a0 a1 a2:Value),bindArgs (PySem.W.fnOf x qn (De st) (DA st) (Aj st) .none kV doc pm an cdv ct) ⟨[a0,a1,a2],[]⟩=pure [(p0,a0),(p1,a1),(p2,a2)]:=by intros; rfl)(F:Ag K x qn st f fd):AW K fd [p0,p1,p2] []:=F.binds λkV doc pm an cdv ct us hl=>by
 match us,hl with
 | [a0,a1,a2],_=>exact h kV doc pm an cdv ct a0 a1 a2
theorem bn4(st:Stmt)(x qn:Str){p0 p1 p2 p3:Str}(h:∀(kV doc pm:Value) (an:Option Addr) (cdv ct a0 a1 a2 a3:Value),bindArgs (PySem.W.fnOf x qn (De st) (DA st) (Aj st) .none kV doc pm an cdv ct) ⟨[a0,a1,a2,a3],[]⟩=pure [(p0,a0),(p1,a1),(p2,a2),(p3,a3)]:=by intros; rfl)(F:Ag K x qn st f fd):AW K fd [p0,p1,p2,p3] []:=F.binds λkV doc pm an cdv ct us hl=>by
 match us,hl with
 | [a0,a1,a2,a3],_=>exact h kV doc pm an cdv ct a0 a1 a2 a3
theorem bn5(st:Stmt)(x qn:Str){p0 p1 p2 p3 p4:Str}(h:∀(kV doc pm:Value) (an:Option Addr) (cdv ct a0 a1 a2 a3 a4:Value),bindArgs (PySem.W.fnOf x qn (De st) (DA st) (Aj st) .none kV doc pm an cdv ct) ⟨[a0,a1,a2,a3,a4],[]⟩=pure [(p0,a0),(p1,a1),(p2,a2),(p3,a3),(p4,a4)]:=by intros; rfl)(F:Ag K x qn st f fd):AW K fd [p0,p1,p2,p3,p4] []:=F.binds λkV doc pm an cdv ct us hl=>by
 match us,hl with
 | [a0,a1,a2,a3,a4],_=>exact h kV doc pm an cdv ct a0 a1 a2 a3 a4
theorem bn6(st:Stmt)(x qn:Str){p0 p1 p2 p3 p4 p5:Str}(h:∀(kV doc pm:Value) (an:Option Addr) (cdv ct a0 a1 a2 a3 a4 a5:Value),bindArgs (PySem.W.fnOf x qn (De st) (DA st) (Aj st) .none kV doc pm an cdv ct) ⟨[a0,a1,a2,a3,a4,a5],[]⟩=pure [(p0,a0),(p1,a1),(p2,a2),(p3,a3),(p4,a4),(p5,a5)]:=by intros; rfl)(F:Ag K x qn st f fd):AW K fd [p0,p1,p2,p3,p4,p5] []:=F.binds λkV doc pm an cdv ct us hl=>by
 match us,hl with
 | [a0,a1,a2,a3,a4,a5],_=>exact h kV doc pm an cdv ct a0 a1 a2 a3 a4 a5
structure Zq(K:PySem.W.Frag)(x:Str):Prop where
 a:PySem.W.nsIn K mainGlobals x=some none
end
set_option maxHeartbeats 4000000 in
theorem all_mk {l:PySem.W.OpenLaw} {w:World} {K:PySem.W.Frag} {h:Heap} {mg:Str->Option Value} {fa C1 C2 C3 CS CF CN CE f1 f2 f3 f4 f5 f6 f7 f8 f9 f10 f11 f12 f13 f14 f15 f16 f17 f18 f19 f20 f21 f22 f23 f24 f25 f26 f27 f28 f29 f30 f31 f32 f33 f34 f35 f36 f37 f38 f39 f40 f41 f42 f43 f44 f45 f46 f47 f48 f49 f50 f51 f52 f53 f54 f55 f56 f57 f58 f59 f60 f61:Addr} {d1 d2 d3 d4 d5 d6 d7 d8 d9 d10 d11 d12 d13 d14 d15 d16 d17 d18 d19 d20 d21 d22 d23 d24 d25 d26 d27 d28 d29 d30 d31 d32 d33 d34 d35 d36 d37 d38 d39 d40 d41 d42 d43 d44 d45 d46 d47 d48 d49 d50 d51 d52 d53 d54 d55 d56 d57 d58 d59 d60 d61:FuncData} (X:K.In h) (G:h.Ns mainGlobals mg) (hfa:mg "law" = some (.ref fa))
  (aC1:PySem.W.nsIn K mainGlobals "Above" = some (some (.ref C1)))
  (aC2:PySem.W.nsIn K mainGlobals "Beside" = some (some (.ref C2)))
  (aC3:PySem.W.nsIn K mainGlobals "Split" = some (some (.ref C3)))
  (aCS:PySem.W.nsIn K mainGlobals "Step" = some (some (.ref CS)))
  (aCF:PySem.W.nsIn K mainGlobals "FloorError" = some (some (.ref CF)))
  (aCN:PySem.W.nsIn K mainGlobals "NoFit" = some (some (.ref CN)))
  (aCE:PySem.W.nsIn K mainGlobals "NoStep" = some (some (.ref CE)))
  (h1:Dq K "common_part" sCommon ["one","other"] f1 d1)
  (h2:Dq K "fraction" sFraction ["top","bottom"] f2 d2)
  (h3:Dq K "less" sLess ["one","other"] f3 d3)
  (h4:Dq K "common_bottom" sCBot ["row"] f4 d4)
  (h5:Dq K "wholes" sWholes ["row","bottom"] f5 d5)
  (h6:Dq K "rising" s_rising ["one","other"] f6 d6)
  (h7:Dq K "numbers_of" s_numbers_of ["floor"] f7 d7)
  (h8:Dq K "whole_floor" s_whole_floor ["floor","bottom"] f8 d8)
  (h9:Dq K "is_neither" s_is_neither ["rectangle"] f9 d9)
  (h10:Dq K "is_out" s_is_out ["rectangle","width","height"] f10 d10)
  (h11:Dq K "overlap" s_overlap ["one","other"] f11 d11)
  (h12:Dq K "first_overlap" s_first_overlap ["rectangles"] f12 d12)
  (h13:Dq K "borders" s_borders ["rectangles","at","most"] f13 d13)
  (h14:Dq K "covered_cells" s_covered_cells ["columns","rows","rectangles"] f14 d14)
  (h15:Dq K "first_gap" s_first_gap ["width","height","rectangles"] f15 d15)
  (h16:Dq K "looked_whole" s_looked_whole ["width","height","rectangles"] f16 d16)
  (h17:Dq K "looked" s_looked ["floor"] f17 d17)
  (h18:Dq K "covers" s_covers ["floor"] f18 d18)
  (h19:Dq K "is_pair" s_is_pair ["count","j","k"] f19 d19)
  (h20:Dq K "touches" s_touches ["rectangle","level","left","right"] f20 d20)
  (h21:Dq K "common_level" s_common_level ["one","other"] f21 d21)
  (h22:Dq K "is_above" s_is_above ["rectangles","j","k"] f22 d22)
  (h23:Dq K "is_beside" s_is_beside ["rectangles","j","k"] f23 d23)
  (h24:Dq K "together" s_together ["one","other"] f24 d24)
  (h25:Dq K "check_fits" s_check_fits ["step","floor"] f25 d25)
  (h26:Dq K "joined" s_joined ["step","floor"] f26 d26)
  (h27:Dq K "parting" s_parting ["step","floor"] f27 d27)
  (h28:Dq K "step_of" s_step_of ["told"] f28 d28)
  (h29:Dq K "walked" s_walked ["floor","steps"] f29 d29)
  (h30:Dq K "_law_cell_at" sCellAt ["_law_script","_law_k"] f30 d30)
  (h31:Dq K "_law_lowest" s_law_lowest ["_law_top","_law_bottom"] f31 d31)
  (h32:Dq K "_law_wheel" s_law_wheel ["_law_box","_law_x","_law_y","_law_way"] f32 d32)
  (h33:Dq K "_law_two" s_law_two ["_law_low","_law_high","_law_cell"] f33 d33)
  (h34:Dq K "_law_broken" s_law_broken ["_law_box","_law_cell"] f34 d34)
  (h35:Dq K "_law_scaled_one" s_law_scaled_one ["_law_number","_law_scale"] f35 d35)
  (h36:Dq K "_law_scaled" s_law_scaled ["_law_box","_law_scale"] f36 d36)
  (h37:Dq K "_law_floor_of" s_law_floor_of ["_law_boxes","_law_wide","_law_high","_law_scale"] f37 d37)
  (h38:Dq K "_law_scale_by" s_law_scale_by ["_law_cell"] f38 d38)
  (h39:Dq K "_law_built" s_law_built ["_law_script","_law_first","_law_last","_law_wide","_law_high","_law_most"] f39 d39)
  (h40:Dq K "_law_side" s_law_side ["_law_cell"] f40 d40)
  (h41:Dq K "_law_above" s_law_above ["_law_boxes","_law_j","_law_k"] f41 d41)
  (h42:Dq K "_law_beside" s_law_beside ["_law_boxes","_law_j","_law_k"] f42 d42)
  (h43:Dq K "_law_fitting" s_law_fitting ["_law_boxes"] f43 d43)
  (h44:Dq K "_law_done" s_law_done ["_law_boxes","_law_j","_law_k"] f44 d44)
  (h45:Dq K "_law_asked" s_law_asked ["_law_way","_law_told","_law_floor","_law_ahead"] f45 d45)
  (h46:Dq K "_law_word" s_law_word ["_law_script","_law_boxes"] f46 d46)
  (h47:Dq K "_law_split_by" s_law_split_by ["_law_script","_law_boxes","_law_scale"] f47 d47)
  (h48:Dq K "law" sLaw ["_law_script"] f48 d48)
  (h49:Dm K C1 "__init__" "Step.__init__" sInit ["self","one","other"] f49 d49)
  (h50:Dm K C1 "fits" "Above.fits" sFitsA ["self","floor"] f50 d50)
  (h51:Dm K C2 "fits" "Beside.fits" sFitsB ["self","floor"] f51 d51)
  (h52:Dm K C1 "done" "Above.done" sDoneA ["self","floor"] f52 d52)
  (h53:Dm K C2 "done" "Beside.done" sDoneB ["self","floor"] f53 d53)
  (h54:Dm K C1 "back" "Above.back" sBackA ["self","floor"] f54 d54)
  (h55:Dm K C2 "back" "Beside.back" sBackB ["self","floor"] f55 d55)
  (h56:Dm K C3 "__init__" "Split.__init__" sInitS ["self","one","other","first","second"] f56 d56)
  (h57:Dm K C3 "made" "Split.made" sMadeS ["self","floor"] f57 d57)
  (h58:Dm K C3 "joining" "Split.joining" sJoiningS ["self"] f58 d58)
  (h59:Dm K C3 "fits" "Split.fits" sFitsS ["self","floor"] f59 d59)
  (h60:Dm K C3 "done" "Split.done" sDoneS ["self","floor"] f60 d60)
  (h61:Dm K C3 "back" "Split.back" sBackS ["self","floor"] f61 d61)
  (pg1:PySem.W.plainGet K C1 Str.empty=true)
  (hd1:PySem.W.hasDictIn K C1=true)
  (po1:PySem.W.plainOver K C1=true)
  (sa1:PySem.W.findIn K (.ref C1) "__setattr__" = some (some (.builtin "object.__setattr__")))
  (mk1:PySem.W.makesIn K C1=true)
  (kc1:PySem.W.keepIn K (.ref C1)=true)
  (no1:PySem.W.findIn K (.ref C1) "one" = some none)
  (nt1:PySem.W.findIn K (.ref C1) "other" = some none)
  (pg2:PySem.W.plainGet K C2 Str.empty=true)
  (hd2:PySem.W.hasDictIn K C2=true)
  (po2:PySem.W.plainOver K C2=true)
  (sa2:PySem.W.findIn K (.ref C2) "__setattr__" = some (some (.builtin "object.__setattr__")))
  (mk2:PySem.W.makesIn K C2=true)
  (kc2:PySem.W.keepIn K (.ref C2)=true)
  (no2:PySem.W.findIn K (.ref C2) "one" = some none)
  (nt2:PySem.W.findIn K (.ref C2) "other" = some none)
  (pg3:PySem.W.plainGet K C3 Str.empty=true)
  (hd3:PySem.W.hasDictIn K C3=true)
  (po3:PySem.W.plainOver K C3=true)
  (sa3:PySem.W.findIn K (.ref C3) "__setattr__" = some (some (.builtin "object.__setattr__")))
  (mk3:PySem.W.makesIn K C3=true)
  (kc3:PySem.W.keepIn K (.ref C3)=true)
  (no3:PySem.W.findIn K (.ref C3) "one" = some none)
  (nt3:PySem.W.findIn K (.ref C3) "other" = some none)
  (iB:PySem.W.findIn K (.ref C2) "__init__" = some (some (.ref f49)))
  (n3:PySem.W.findIn K (.ref C3) "first" = some none)
  (n4:PySem.W.findIn K (.ref C3) "second" = some none)
  (cs1:PySem.W.specialIn K (.ref CS) "__getattribute__" = some (some (.builtin "type.__getattribute__")))
  (cs2:PySem.W.readsIn K CS (.type "type")=true)
  (cs3:PySem.W.findCls K (.ref CS) (.type "type") "__init__" = some (.val (.ref f49)))
  (xN:PySem.W.excIn K CN [.type "ValueError",.type "Exception",.type "BaseException",.type "object"] "ValueError.__new__" = true)
  (xE:PySem.W.excIn K CE [.type "ValueError",.type "Exception",.type "BaseException",.type "object"] "ValueError.__new__" = true)
  (yNx:PySem.W.exmOne K (.ref CN) (.ref CF)=some true)
  (yNn:PySem.W.kitOne K (.ref CN) (.ref CN)=some true)
  (yNe:PySem.W.kitOne K (.ref CN) (.ref CE)=some false)
  (yNv:PySem.W.kitOne K (.ref CN) (.type "ValueError")=some true)
  (gN1:PySem.W.findIn K (.ref CN) "__getattribute__" = some (some (.builtin "BaseException.__getattribute__")))
  (gN2:PySem.W.findIn K (.ref CN) "__getattr__" = some none)
  (gN3:PySem.W.findIn K (.ref CN) "__class__" = some (some (.builtin "object.__class__")))
  (gN6:PySem.W.mroIn K CN (.type "object")=some true)
  (gN7:PySem.W.mroIn K CN (.type "BaseException")=some true)
  (gN8:(PySem.W.clsIn K CN).isSome=true)
  (yEx:PySem.W.exmOne K (.ref CE) (.ref CF)=some true)
  (yEn:PySem.W.kitOne K (.ref CE) (.ref CN)=some false)
  (yEe:PySem.W.kitOne K (.ref CE) (.ref CE)=some true)
  (yEv:PySem.W.kitOne K (.ref CE) (.type "ValueError")=some true)
  (gE1:PySem.W.findIn K (.ref CE) "__getattribute__" = some (some (.builtin "BaseException.__getattribute__")))
  (gE2:PySem.W.findIn K (.ref CE) "__getattr__" = some none)
  (gE3:PySem.W.findIn K (.ref CE) "__class__" = some (some (.builtin "object.__class__")))
  (gE6:PySem.W.mroIn K CE (.type "object")=some true)
  (gE7:PySem.W.mroIn K CE (.type "BaseException")=some true)
  (gE8:(PySem.W.clsIn K CE).isSome=true)
  (g4:PySem.W.specialIn K (.builtin "object.__class__") "__get__" = some (some (.builtin "getset_descriptor.__get__")))
  (g5:PySem.W.takesIn K (.builtin "object.__class__")=some true)
  (z_abs:Zq K "abs")
  (z_int:Zq K "int")
  (z_len:Zq K "len")
  (z_range:Zq K "range")
  (z_list:Zq K "list")
  (z_tuple:Zq K "tuple")
  (z_isinstance:Zq K "isinstance")
  (z_min:Zq K "min")
  (z_max:Zq K "max")
  (z_enumerate:Zq K "enumerate")
  (z_sorted:Zq K "sorted")
  (z_set:Zq K "set")
  (z_ValueError:Zq K "ValueError")
  : ∃fd:FuncData,(∀(s:Shared) (v:Value),BindsTo s fd ⟨[v],[]⟩ [("_law_script",v)])/\∀base:Heap,K.In base->base.Ns mainGlobals mg->AH l.prog w K mg base AM 13 fa fd ["_law_script"] (Kr K):=by
 have e:=hfa.symm.trans (PySem.W.mg_of X G h48.a);cases e;have ⟨F1,b1,k1,m1⟩:=h1.all X G;have ⟨F2,b2,k2,m2⟩:=h2.all X G;have ⟨F3,b3,k3,m3⟩:=h3.all X G;have ⟨F4,b4,k4,m4⟩:=h4.all X G;have ⟨F5,b5,k5,m5⟩:=h5.all X G;have ⟨F6,b6,k6,m6⟩:=h6.all X G;have ⟨F7,b7,k7,m7⟩:=h7.all X G;have ⟨F8,b8,k8,m8⟩:=h8.all X G;have ⟨F9,b9,k9,m9⟩:=h9.all X G;have ⟨F10,b10,k10,m10⟩:=h10.all X G;have ⟨F11,b11,k11,m11⟩:=h11.all X G;have ⟨F12,b12,k12,m12⟩:=h12.all X G;have ⟨F13,b13,k13,m13⟩:=h13.all X G;have ⟨F14,b14,k14,m14⟩:=h14.all X G;have ⟨F15,b15,k15,m15⟩:=h15.all X G;have ⟨F16,b16,k16,m16⟩:=h16.all X G;have ⟨F17,b17,k17,m17⟩:=h17.all X G;have ⟨F18,b18,k18,m18⟩:=h18.all X G;have ⟨F19,b19,k19,m19⟩:=h19.all X G;have ⟨F20,b20,k20,m20⟩:=h20.all X G;have ⟨F21,b21,k21,m21⟩:=h21.all X G;have ⟨F22,b22,k22,m22⟩:=h22.all X G;have ⟨F23,b23,k23,m23⟩:=h23.all X G;have ⟨F24,b24,k24,m24⟩:=h24.all X G;have ⟨F25,b25,k25,m25⟩:=h25.all X G;have ⟨F26,b26,k26,m26⟩:=h26.all X G;have ⟨F27,b27,k27,m27⟩:=h27.all X G;have ⟨F28,b28,k28,m28⟩:=h28.all X G;have ⟨F29,b29,k29,m29⟩:=h29.all X G;have ⟨F30,b30,k30,m30⟩:=h30.all X G;have ⟨F31,b31,k31,m31⟩:=h31.all X G;have ⟨F32,b32,k32,m32⟩:=h32.all X G;have ⟨F33,b33,k33,m33⟩:=h33.all X G;have ⟨F34,b34,k34,m34⟩:=h34.all X G;have ⟨F35,b35,k35,m35⟩:=h35.all X G;have ⟨F36,b36,k36,m36⟩:=h36.all X G;have ⟨F37,b37,k37,m37⟩:=h37.all X G;have ⟨F38,b38,k38,m38⟩:=h38.all X G;have ⟨F39,b39,k39,m39⟩:=h39.all X G;have ⟨F40,b40,k40,m40⟩:=h40.all X G;have ⟨F41,b41,k41,m41⟩:=h41.all X G;have ⟨F42,b42,k42,m42⟩:=h42.all X G;have ⟨F43,b43,k43,m43⟩:=h43.all X G;have ⟨F44,b44,k44,m44⟩:=h44.all X G;have ⟨F45,b45,k45,m45⟩:=h45.all X G;have ⟨F46,b46,k46,m46⟩:=h46.all X G;have ⟨F47,b47,k47,m47⟩:=h47.all X G;have ⟨F48,b48,k48,m48⟩:=h48.all X G;have ⟨F49,b49,k49,a49,i49⟩:=h49;have ⟨F50,b50,k50,a50,i50⟩:=h50;have ⟨F51,b51,k51,a51,i51⟩:=h51;have ⟨F52,b52,k52,a52,i52⟩:=h52;have ⟨F53,b53,k53,a53,i53⟩:=h53;have ⟨F54,b54,k54,a54,i54⟩:=h54;have ⟨F55,b55,k55,a55,i55⟩:=h55;have ⟨F56,b56,k56,a56,i56⟩:=h56;have ⟨F57,b57,k57,a57,i57⟩:=h57;have ⟨F58,b58,k58,a58,i58⟩:=h58;have ⟨F59,b59,k59,a59,i59⟩:=h59;have ⟨F60,b60,k60,a60,i60⟩:=h60;have ⟨F61,b61,k61,a61,i61⟩:=h61;have mC1:=PySem.W.mg_of X G aC1;have mC2:=PySem.W.mg_of X G aC2;have mC3:=PySem.W.mg_of X G aC3;have mCS:=PySem.W.mg_of X G aCS;have mCF:=PySem.W.mg_of X G aCF;have mCN:=PySem.W.mg_of X G aCN;have mCE:=PySem.W.mg_of X G aCE;have T1:StC K C1:=⟨⟨pg1,hd1,po1,sa1⟩,no1,nt1⟩;have T2:StC K C2:=⟨⟨pg2,hd2,po2,sa2⟩,no2,nt2⟩;have T3:Er K C3:=⟨⟨⟨pg3,hd3,po3,sa3⟩,no3,nt3⟩,n3,n4⟩;have CM:L2.Mi K CS "__init__" f49:=⟨cs1,cs2,cs3,k49⟩;have KN:KitX K CN CF CN CE true false:=⟨⟨gN1,gN2,gN3,g4,g5,gN6,gN7,gN8⟩,yNx,yNn,yNe,yNv⟩;have KE:KitX K CE CF CN CE false true:=⟨⟨gE1,gE2,gE3,g4,g5,gE6,gE7,gE8⟩,yEx,yEn,yEe,yEv⟩;have m_abs:=PySem.W.mg_none_of X G z_abs.a;have m_int:=PySem.W.mg_none_of X G z_int.a;have m_len:=PySem.W.mg_none_of X G z_len.a;have m_range:=PySem.W.mg_none_of X G z_range.a;have m_list:=PySem.W.mg_none_of X G z_list.a;have m_tuple:=PySem.W.mg_none_of X G z_tuple.a;have m_isinstance:=PySem.W.mg_none_of X G z_isinstance.a;have m_min:=PySem.W.mg_none_of X G z_min.a;have m_max:=PySem.W.mg_none_of X G z_max.a;have m_enumerate:=PySem.W.mg_none_of X G z_enumerate.a;have m_sorted:=PySem.W.mg_none_of X G z_sorted.a;have m_set:=PySem.W.mg_none_of X G z_set.a;have m_ValueError:=PySem.W.mg_none_of X G z_ValueError.a;refine⟨d48,λs v=>by obtain⟨_,_,_,_,_,_,_,_,_,rfl,_⟩:=F48.ex; exact .of_eq rfl,λbase _ _=>?_⟩;have O1:AH l.prog w K mg base AM 1 f1 _ ["one","other"] K3:=U5 F1  m_abs;have O2:AH l.prog w K mg base AM 2 f2 _ ["top","bottom"] (KW CF):=Sz F2 O1 b1 k1 m1;have O4:AH l.prog w K mg base AM 2 f4 _ ["row"] Ma:=Va F4 O1 b1 k1 m1;have O5:AH l.prog w K mg base AM 1 f5 _ ["row","bottom"] Jq:=T6 F5;have O7:AH l.prog w K mg base AM 1 f7 _ ["floor"] MR:=XD F7  m_list;have O8:AH l.prog w K mg base AM 2 f8 _ ["floor","bottom"] NA:=YX F8 O5 b5 k5 m5;have O9:AH l.prog w K mg base AM 1 f9 _ ["rectangle"] NS:=Ya F9;have O10:AH l.prog w K mg base AM 1 f10 _ ["rectangle","width","height"] Mr:=YI F10;have O11:AH l.prog w K mg base AM 1 f11 _ ["one","other"] M9:=Yv F11  m_max m_min;have O12:AH l.prog w K mg base AM 2 f12 _ ["rectangles"] M0:=YZ F12 O11 b11 k11 m11 m_enumerate m_range m_len;have O13:AH l.prog w K mg base AM 1 f13 _ ["rectangles","at","most"] NP:=Y6 F13  m_set m_sorted;have O14:AH l.prog w K mg base AM 1 f14 _ ["columns","rows","rectangles"] Ml:=Xn F14  m_range;have O15:AH l.prog w K mg base AM 2 f15 _ ["width","height","rectangles"] NQ:=Yk F15 O13 b13 k13 m13 O14 b14 k14 m14 m_range m_len;have O16:AH l.prog w K mg base AM 3 f16 _ ["width","height","rectangles"] Mu:=Y8 F16 O9 b9 k9 m9 O10 b10 k10 m10 O12 b12 k12 m12 O15 b15 k15 m15 m_enumerate;have O17:AH l.prog w K mg base AM 4 f17 _ ["floor"] NK:=UY F17 O7 b7 k7 m7 O2 b2 k2 m2 O4 b4 k4 m4 O16 b16 k16 m16 O8 b8 k8 m8 m_tuple;have O18:AH l.prog w K mg base AM 5 f18 _ ["floor"] Mx:=UM F18 O17 b17 k17 m17;have O3:AH l.prog w K mg base AM 1 f3 _ ["one","other"] Hr:=XN F3;have O19:AH l.prog w K mg base AM 1 f19 _ ["count","j","k"] Ig:=VE F19;have O20:AH l.prog w K mg base AM 2 f20 _ ["rectangle","level","left","right"] MY:=Tc F20 O3 b3 k3 m3;have O21:AH l.prog w K mg base AM 1 f21 _ ["one","other"] M8:=VQ F21;have O22:AH l.prog w K mg base AM 3 f22 _ ["rectangles","j","k"] (Hs Bz):=Vj F22 O21 b21 k21 m21 O20 b20 k20 m20 m_enumerate;have O23:AH l.prog w K mg base AM 1 f23 _ ["rectangles","j","k"] (Hs BJ):=UW F23;have OBL:AH l.prog w K mg base AM 1 f23 _ ["rectangles","j","k"] (MU BJ):=TN F23;have O49:AH l.prog w K mg base AM 1 f49 _ ["self","one","other"] (Ir K):=Wf F49;have O50:AH l.prog w K mg base AM 4 f50 _ ["self","floor"] (Ea C1 Bz):=Ui F50 T1 O19 b19 k19 m19 O22 b22 k22 m22 m_len;have O51:AH l.prog w K mg base AM 4 f51 _ ["self","floor"] (Ea C2 BJ):=Ub F51 T2 O19 b19 k19 m19 O23 b23 k23 m23 m_len;have O6:AH l.prog w K mg base AM 2 f6 _ ["one","other"] Mq:=Ug F6 O3 b3 k3 m3;have O24:AH l.prog w K mg base AM 3 f24 _ ["one","other"] Mm:=YO F24 O6 b6 k6 m6;have O56:AH l.prog w K mg base AM 2 f56 _ ["self","one","other","first","second"] (J9 K):=V5 F56 mCS CM O49 b49;have OC1:AH l.prog w K mg base (Ak l.prog w) 5 f25 _ ["step","floor"] (E5 C1 CN (Ea C1 Bz)):=PV F25 T1.cl Nv O50 b50 ⟨a50,i50,k50⟩ mCN xN;have OJ1:AH l.prog w K mg base (Ak l.prog w) 6 f26 _ ["step","floor"] (Cv C1 CN Bz):=N4 F26 T1 OC1 b25 k25 m25 O24 b24 k24 m24 m_list m_tuple;have OP1:AH l.prog w K mg base (Ak l.prog w) 6 f27 _ ["step","floor"] (Eg C1 C3 CN Bz):=N2 F27 T1 T3 ⟨mk3,a56,i56,kc3⟩ mC3 OC1 b25 k25 m25 O56 b56;have O52:AH l.prog w K mg base (Ak l.prog w) 7 f52 _ ["self","floor"] (Cv C1 CN Bz):=T5 F52 OJ1 b26 k26 m26;have O54:AH l.prog w K mg base (Ak l.prog w) 7 f54 _ ["self","floor"] (Eg C1 C3 CN Bz):=UH F54 OP1 b27 k27 m27;have OC2:AH l.prog w K mg base (Ak l.prog w) 5 f25 _ ["step","floor"] (E5 C2 CN (Ea C2 BJ)):=PV F25 T2.cl Nv O51 b51 ⟨a51,i51,k51⟩ mCN xN;have OJ2:AH l.prog w K mg base (Ak l.prog w) 6 f26 _ ["step","floor"] (Cv C2 CN BJ):=N4 F26 T2 OC2 b25 k25 m25 O24 b24 k24 m24 m_list m_tuple;have OP2:AH l.prog w K mg base (Ak l.prog w) 6 f27 _ ["step","floor"] (Eg C2 C3 CN BJ):=N2 F27 T2 T3 ⟨mk3,a56,i56,kc3⟩ mC3 OC2 b25 k25 m25 O56 b56;have O53:AH l.prog w K mg base (Ak l.prog w) 7 f53 _ ["self","floor"] (Cv C2 CN BJ):=Uy F53 OJ2 b26 k26 m26;have O55:AH l.prog w K mg base (Ak l.prog w) 7 f55 _ ["self","floor"] (Eg C2 C3 CN BJ):=Ux F55 OP2 b27 k27 m27;have O57:AH l.prog w K mg base AM 1 f57 _ ["self","floor"] (Kh C3):=Wr F57 T3 m_list m_tuple;have O58:AH l.prog w K mg base AM 3 f58 _ ["self"] (Ks C1 C2 C3):=Ti F58 T1 T2 T3 ⟨mk1,a49,i49,kc1⟩ mC1 ⟨mk2,iB,i49,kc2⟩ mC2 O49 b49 OBL b23 k23 m23;have O59:AH l.prog w K mg base (Ak l.prog w) 8 f59 _ ["self","floor"] (GS C3):=Vp F59 T1 T2 T3 O19 b19 k19 m19 O57 b57 ⟨a57,i57,k57⟩ O58 b58 ⟨a58,i58,k58⟩ O18 b18 k18 m18 O50 b50 ⟨a50,i50,k50⟩ O51 b51 ⟨a51,i51,k51⟩ O52 b52 ⟨a52,i52,k52⟩ O53 b53 ⟨a53,i53,k53⟩ m_len;have OCS:AH l.prog w K mg base (Ak l.prog w) 9 f25 _ ["step","floor"] (E5 C3 CN (GS C3)):=WI F25 T3.cl O59 b59 ⟨a59,i59,k59⟩ mCN xN;have O60:AH l.prog w K mg base (Ak l.prog w) 10 f60 _ ["self","floor"] (JH C3 CN):=VG F60 T3 OCS b25 k25 m25 O57 b57 ⟨a57,i57,k57⟩;have O61:AH l.prog w K mg base (Ak l.prog w) 10 f61 _ ["self","floor"] (Mp C1 C2 C3 CN):=VH F61 T3 OCS b25 k25 m25 O58 b58 ⟨a58,i58,k58⟩;have O28:AH l.prog w K mg base (Ak l.prog w) 4 f28 _ ["told"] (Ku C1 C2 C3 CE):=VL F28 T1 T2 T3 ⟨mk1,a49,i49,kc1⟩ ⟨mk2,iB,i49,kc2⟩ ⟨mk3,a56,i56,kc3⟩ mC1 mC2 mC3 O49 b49 O56 b56 mCE xE;have O29:AH l.prog w K mg base (Ak l.prog w) 11 f29 _ ["floor","steps"] (Mg CN CE):=Vz F29 T1 T2 T3 O28 b28 k28 m28 O52 b52 ⟨a52,i52,k52⟩ O53 b53 ⟨a53,i53,k53⟩ O60 b60 ⟨a60,i60,k60⟩;have O30:AH l.prog w K mg base AM 1 f30 _ ["_law_script","_law_k"] (Ho K):=Wz F30  m_len;have O31:AH l.prog w K mg base AM 1 f31 _ ["_law_top","_law_bottom"] Kp:=Xv F31  m_abs;have O33:AH l.prog w K mg base AM 1 f33 _ ["_law_low","_law_high","_law_cell"] MW:=Xs F33;have O32:AH l.prog w K mg base AM 1 f32 _ ["_law_box","_law_x","_law_y","_law_way"] Lx:=Vq F32;have O34:AH l.prog w K mg base AM 2 f34 _ ["_law_box","_law_cell"] Lr:=Ud F34 O33 b33 k33 m33 O32 b32 k32 m32;have O35:AH l.prog w K mg base AM 2 f35 _ ["_law_number","_law_scale"] Fq:=XU F35 O31 b31 k31 m31;have O36:AH l.prog w K mg base AM 3 f36 _ ["_law_box","_law_scale"] Kq:=Xg F36 O35 b35 k35 m35 m_tuple;have O37:AH l.prog w K mg base AM 4 f37 _ ["_law_boxes","_law_wide","_law_high","_law_scale"] Mh:=Xf F37 O35 b35 k35 m35 O36 b36 k36 m36 m_tuple;have O38:AH l.prog w K mg base AM 2 f38 _ ["_law_cell"] Mc:=YA F38 O31 b31 k31 m31;have O39:AH l.prog w K mg base AM 3 f39 _ ["_law_script","_law_first","_law_last","_law_wide","_law_high","_law_most"] (Lw K):=VR F39 O30 b30 k30 m30 O34 b34 k34 m34 m_len m_min m_range;have O40:AH l.prog w K mg base AM 1 f40 _ ["_law_cell"] MM:=WZ F40;have O41:AH l.prog w K mg base AM 1 f41 _ ["_law_boxes","_law_j","_law_k"] (EL CJ):=Ua F41  m_len m_max m_enumerate;have O42:AH l.prog w K mg base AM 1 f42 _ ["_law_boxes","_law_j","_law_k"] (EL Br):=Tj F42  m_len;have O43:AH l.prog w K mg base AM 2 f43 _ ["_law_boxes"] NM:=Wj F43 O41 b41 k41 m41 O42 b42 k42 m42 m_len m_range m_tuple m_sorted;have O44:AH l.prog w K mg base AM 1 f44 _ ["_law_boxes","_law_j","_law_k"] NR:=VI F44  m_min m_max;have OZA:AH l.prog w K mg base AM 1 f41 _ ["_law_boxes","_law_j","_law_k"] (HD CJ):=TH F41 O41 m_len m_max m_enumerate;have OZB:AH l.prog w K mg base AM 1 f42 _ ["_law_boxes","_law_j","_law_k"] (HD Br):=S6 F42 O42 m_len;have O45:AH l.prog w K mg base AM 12 f45 _ ["_law_way","_law_told","_law_floor","_law_ahead"] Kw:=YR F45  T1 T2 T3 O28 b28 k28 m28 O52 b52 ⟨a52,i52,k52⟩ O53 b53 ⟨a53,i53,k53⟩ O60 b60 ⟨a60,i60,k60⟩ O54 b54 ⟨a54,i54,k54⟩ O55 b55 ⟨a55,i55,k55⟩ O61 b61 ⟨a61,i61,k61⟩ O29 b29 k29 m29 mCF mCN mCE m_isinstance m_ValueError m_int KN KE;have O46:AH l.prog w K mg base AM 2 f46 _ ["_law_script","_law_boxes"] (MF K):=Wh F46 O30 b30 k30 m30 OZA b41 k41 m41 OZB b42 k42 m42 m_len;have O47:AH l.prog w K mg base AM 3 f47 _ ["_law_script","_law_boxes","_law_scale"] (MX K):=VT F47 O30 b30 k30 m30 O35 b35 k35 m35 m_len m_tuple;exact YG F48 O30 b30 k30 m30 O40 b40 k40 m40 O39 b39 k39 m39 O38 b38 k38 m38 O37 b37 k37 m37 O46 b46 k46 m46 O47 b47 k47 m47 O43 b43 k43 m43 O44 b44 k44 m44 O45 b45 k45 m45 m_len m_range
theorem walk {l:PySem.W.OpenLaw} {q:Program} {loose:List Str} {XP:(Str->Option Value)->Heap->Prop} {YP:World->Heap->Prop} {d:DefRec} {K:Params->PySem.W.Frag} (hn:l.most=some 63) (hdf:d.params.defaults=[])
  (hY:∀(w:World) (h:Heap),YP w h->(K w.params).In h)
  (F:∀(w:World) (mg:Str->Option Value) (fa:Addr) (h:Heap),(K w.params).In h->h.Ns mainGlobals mg->mg d.name=some (.ref fa) →
   ∃fd:FuncData,(∀(s:Shared) (u:Value),BindsTo s fd ⟨[u],[]⟩ [("_law_script",u)])/\∀base:Heap,(K w.params).In base->base.Ns mainGlobals mg->AH l.prog w (K w.params) mg base AM 13 fa fd ["_law_script"] (Kr (K w.params))) :
  PySem.W.WalkO q loose XP YP l.row.toRowW d [] (λf vs=>PySem.call f vs) :=
 L2.WQ (n:=63) (k:=13) (x:="_law_script") (CX:=λ_=>AM) (sp:=λw=>Kr (K w.params)) hn (by decide) hdf ⟨rfl,by decide,by decide⟩ hY F (λ_ _ a ns hl _ hS=>⟨a,ns,rfl,hS,hl,λ_=>rfl⟩) λ_ _ _ _ _ z=>z
end My
namespace PySem.W.Fast
theorem tw6768681053831957497:True:=trivial
theorem tw5331278013306030778:True:=trivial
theorem tw2533175348739000425:True:=trivial
theorem tw12683514683475978369:True:=trivial
theorem tw7291597869018128252:True:=trivial
theorem tw4055168191072759246:True:=trivial
theorem tw6389342510187348844:True:=trivial
theorem tw14212167824066914811:True:=trivial
theorem tw14533255363614336904:True:=trivial
theorem tw7379471175987370442:True:=trivial
theorem tw7273654866299757188:True:=trivial
theorem tw15739179035142151633:True:=trivial
theorem tw8671196332011711059:True:=trivial
theorem tw9580962454740927492:True:=trivial
theorem tw4215749714050943968:True:=trivial
theorem tw7434324650212680952:True:=trivial
theorem tw481574934681282330:True:=trivial
theorem tw12927935940392712002:True:=trivial
theorem tw2234599970917630427:True:=trivial
theorem tw16431645363496455730:True:=trivial
theorem tw4649642621447566465:True:=trivial
theorem tw14172430344883977518:True:=trivial
theorem tw17987629688350816579:True:=trivial
theorem tw3225230844015813829:True:=trivial
theorem tw3730817780211399839:True:=trivial
theorem tw5940661153018092573:True:=trivial
theorem tw5649332734487731545:True:=trivial
theorem tw13730904057407706553:True:=trivial
theorem tw4213347417584817880:True:=trivial
theorem tw5986915279364368795:True:=trivial
theorem tw1890092656896543407:True:=trivial
theorem tw3891167034282789641:True:=trivial
theorem tw13748538534593869265:True:=trivial
theorem tw5825117138905401112:True:=trivial
theorem tw11008808850878529882:True:=trivial
theorem tw2481661959452806645:True:=trivial
theorem tw14782340021652862373:True:=trivial
theorem tw7795836757006769996:True:=trivial
theorem tw6625731463394337059:True:=trivial
theorem tw14221990701234235842:True:=trivial
theorem tw4537981775336670840:True:=trivial
theorem tw10235839356089669653:True:=trivial
theorem tw11011702863321370283:True:=trivial
theorem tw5425119337311432784:True:=trivial
theorem tw6709863389521888641:True:=trivial
theorem tw17468151068086655110:True:=trivial
theorem tw18267667483767372818:True:=trivial
theorem tw4772330558232658908:True:=trivial
theorem tw17812047428599478695:True:=trivial
theorem tw13473134981165782633:True:=trivial
theorem tw15002066779139153229:True:=trivial
theorem tw10057926267649961256:True:=trivial
theorem tw11275865340884036411:True:=trivial
theorem tw6033906436084025214:True:=trivial
theorem tw281081862275188467:True:=trivial
theorem tw12728239928253317732:True:=trivial
theorem tw373184129886584508:True:=trivial
theorem tw3983086932055709389:True:=trivial
theorem tw8621305862487405383:True:=trivial
theorem tw14277526495475125392:True:=trivial
theorem tw18136583142020388080:True:=trivial
theorem tw812279604495091735:True:=trivial
theorem tw17674966319061706271:True:=trivial
theorem tw16909179404794060869:True:=trivial
theorem tw17328497360674255118:True:=trivial
theorem tw1534392468630578523:True:=trivial
theorem tw6477913255904388089:True:=trivial
theorem tw1293630988641279539:True:=trivial
theorem tw8235457040901988657:True:=trivial
theorem tw7986716567736421912:True:=trivial
theorem tw5723309387454169206:True:=trivial
theorem tw17689440915055111484:True:=trivial
theorem te15307792497212400068:True:=trivial
theorem tw13922323133649319342:True:=trivial
theorem tw16402233030279868185:True:=trivial
theorem tw4663473435960485343:True:=trivial
theorem tw14821310948316590281:True:=trivial
theorem tw10093424928296531234:True:=trivial
theorem tw13336099612813081802:True:=trivial
theorem tw11677081596042489893:True:=trivial
theorem tw6408862801955017491:True:=trivial
theorem tw8287193009998885911:True:=trivial
theorem tw12978911193315120045:True:=trivial
theorem tw10476792032614008400:True:=trivial
theorem tw8838031316695014824:True:=trivial
theorem tw5885560274754903829:True:=trivial
theorem tw8213326249476762879:True:=trivial
theorem tw12783820423641994783:True:=trivial
theorem tw3848148332780122667:True:=trivial
theorem tw331390807065833396:True:=trivial
theorem tw3337447255087726420:True:=trivial
theorem tw1775386916406250362:True:=trivial
theorem tw10560850839802316369:True:=trivial
theorem tw6231442396858447398:True:=trivial
theorem tw398527290231278836:True:=trivial
theorem tw1243515866856036428:True:=trivial
theorem tw5086104986026521773:True:=trivial
theorem tw9709595123207667651:True:=trivial
theorem tw15438903819978525862:True:=trivial
theorem tw15229954643990820856:True:=trivial
theorem tw12154722952096244267:True:=trivial
theorem tw18308553506752240053:True:=trivial
theorem tw11146983173541116343:True:=trivial
theorem tw9192937020916108480:True:=trivial
theorem tw2408303624996617338:True:=trivial
theorem tw15317817957286404558:True:=trivial
theorem tw10010930434169086320:True:=trivial
theorem tw548333808506125444:True:=trivial
theorem tw12531152416926495798:True:=trivial
theorem tw14360590219741833977:True:=trivial
theorem tw10443305167167822031:True:=trivial
theorem tw4049889954362470555:True:=trivial
theorem tw17036503501916970048:True:=trivial
theorem tw4947920150912283737:True:=trivial
theorem tw1825184602630363801:True:=trivial
theorem tw2081998191744467842:True:=trivial
theorem tw1360419316671191420:True:=trivial
theorem tw7906680229820475436:True:=trivial
theorem tw6616056325037099726:True:=trivial
theorem tw14689129387666625298:True:=trivial
theorem tw16417611820474975904:True:=trivial
theorem tw7571231816197923003:True:=trivial
theorem tw12428748207605528776:True:=trivial
theorem tw3437177037692149381:True:=trivial
theorem tw11241502651298395041:True:=trivial
theorem tw17341908025595554717:True:=trivial
theorem tw7987611356302928755:True:=trivial
theorem tw18219270103088756776:True:=trivial
theorem tw846646707706350924:True:=trivial
theorem tw2692492765553777330:True:=trivial
theorem tw10816608812295925354:True:=trivial
theorem tw4269918231637571357:True:=trivial
theorem tw9864295930212406742:True:=trivial
theorem tw14495539973739766597:True:=trivial
theorem tw14232320297634962296:True:=trivial
theorem tw7597990028668694944:True:=trivial
theorem tw8144486052873745822:True:=trivial
theorem tw10648119592740545151:True:=trivial
theorem tw3743054937748289874:True:=trivial
theorem tw15447548888726172573:True:=trivial
theorem tw17817669328521483907:True:=trivial
theorem tw616472730513124333:True:=trivial
theorem tw725232215685570144:True:=trivial
theorem tw5624646375294709572:True:=trivial
theorem tw5454730737087874545:True:=trivial
theorem tw1788154720921703713:True:=trivial
theorem tw1046002605898832677:True:=trivial
theorem tw10239847440447351233:True:=trivial
theorem tw8189953387028788256:True:=trivial
theorem tw4834913467745702369:True:=trivial
theorem tw4846833923042472805:True:=trivial
theorem tw8324590570637109679:True:=trivial
theorem tw18299137736254032463:True:=trivial
theorem tw592509636309413279:True:=trivial
theorem tw17504489683758072291:True:=trivial
theorem tw570252136311536416:True:=trivial
theorem tw3262249503290749066:True:=trivial
theorem tw2710496962274697417:True:=trivial
theorem tw6064349399994169561:True:=trivial
theorem tw2524427906914434495:True:=trivial
theorem tw3288387954960766607:True:=trivial
theorem tw4828779339910170060:True:=trivial
theorem tw15925359628197433600:True:=trivial
end PySem.W.Fast
open PySem PySem.W PyProof.Rows
set_option maxRecDepth 100000 in
set_option maxHeartbeats 0 in
theorem PySem.Challenge.cw_currentfloor_k45_steps_refused_holds : PySem.Challenge.rw_currentfloor_k45_steps_refused.Holds := by
  w_on; o_law; k_head; (case hw => w_witness2)
  k_fill
  refine My.walk (l := PySem.Challenge.rw_currentfloor_k45_steps_refused) rfl rfl (fun w h Y => PySem.W.kIn_of Y) ?F
  case F =>
    intro w mg fa h KX G hmg
    refine' My.all_mk KX G hmg ?_ ?_ ?_ ?_ ?_ ?_ ?_ (My.dq ?_ ?_ ?_ ?_ (My.bn2 My.sCommon _ _)) (My.dq ?_ ?_ ?_ ?_ (My.bn2 My.sFraction _ _)) (My.dq ?_ ?_ ?_ ?_ (My.bn2 My.sLess _ _)) (My.dq ?_ ?_ ?_ ?_ (My.bn1 My.sCBot _ _)) (My.dq ?_ ?_ ?_ ?_ (My.bn2 My.sWholes _ _)) (My.dq ?_ ?_ ?_ ?_ (My.bn2 My.s_rising _ _)) (My.dq ?_ ?_ ?_ ?_ (My.bn1 My.s_numbers_of _ _)) (My.dq ?_ ?_ ?_ ?_ (My.bn2 My.s_whole_floor _ _)) (My.dq ?_ ?_ ?_ ?_ (My.bn1 My.s_is_neither _ _)) (My.dq ?_ ?_ ?_ ?_ (My.bn3 My.s_is_out _ _)) (My.dq ?_ ?_ ?_ ?_ (My.bn2 My.s_overlap _ _)) (My.dq ?_ ?_ ?_ ?_ (My.bn1 My.s_first_overlap _ _)) (My.dq ?_ ?_ ?_ ?_ (My.bn3 My.s_borders _ _)) (My.dq ?_ ?_ ?_ ?_ (My.bn3 My.s_covered_cells _ _)) (My.dq ?_ ?_ ?_ ?_ (My.bn3 My.s_first_gap _ _)) (My.dq ?_ ?_ ?_ ?_ (My.bn3 My.s_looked_whole _ _)) (My.dq ?_ ?_ ?_ ?_ (My.bn1 My.s_looked _ _)) (My.dq ?_ ?_ ?_ ?_ (My.bn1 My.s_covers _ _)) (My.dq ?_ ?_ ?_ ?_ (My.bn3 My.s_is_pair _ _)) (My.dq ?_ ?_ ?_ ?_ (My.bn4 My.s_touches _ _)) (My.dq ?_ ?_ ?_ ?_ (My.bn2 My.s_common_level _ _)) (My.dq ?_ ?_ ?_ ?_ (My.bn3 My.s_is_above _ _)) (My.dq ?_ ?_ ?_ ?_ (My.bn3 My.s_is_beside _ _)) (My.dq ?_ ?_ ?_ ?_ (My.bn2 My.s_together _ _)) (My.dq ?_ ?_ ?_ ?_ (My.bn2 My.s_check_fits _ _)) (My.dq ?_ ?_ ?_ ?_ (My.bn2 My.s_joined _ _)) (My.dq ?_ ?_ ?_ ?_ (My.bn2 My.s_parting _ _)) (My.dq ?_ ?_ ?_ ?_ (My.bn1 My.s_step_of _ _)) (My.dq ?_ ?_ ?_ ?_ (My.bn2 My.s_walked _ _)) (My.dq ?_ ?_ ?_ ?_ (My.bn2 My.sCellAt _ _)) (My.dq ?_ ?_ ?_ ?_ (My.bn2 My.s_law_lowest _ _)) (My.dq ?_ ?_ ?_ ?_ (My.bn4 My.s_law_wheel _ _)) (My.dq ?_ ?_ ?_ ?_ (My.bn3 My.s_law_two _ _)) (My.dq ?_ ?_ ?_ ?_ (My.bn2 My.s_law_broken _ _)) (My.dq ?_ ?_ ?_ ?_ (My.bn2 My.s_law_scaled_one _ _)) (My.dq ?_ ?_ ?_ ?_ (My.bn2 My.s_law_scaled _ _)) (My.dq ?_ ?_ ?_ ?_ (My.bn4 My.s_law_floor_of _ _)) (My.dq ?_ ?_ ?_ ?_ (My.bn1 My.s_law_scale_by _ _)) (My.dq ?_ ?_ ?_ ?_ (My.bn6 My.s_law_built _ _)) (My.dq ?_ ?_ ?_ ?_ (My.bn1 My.s_law_side _ _)) (My.dq ?_ ?_ ?_ ?_ (My.bn3 My.s_law_above _ _)) (My.dq ?_ ?_ ?_ ?_ (My.bn3 My.s_law_beside _ _)) (My.dq ?_ ?_ ?_ ?_ (My.bn1 My.s_law_fitting _ _)) (My.dq ?_ ?_ ?_ ?_ (My.bn3 My.s_law_done _ _)) (My.dq ?_ ?_ ?_ ?_ (My.bn4 My.s_law_asked _ _)) (My.dq ?_ ?_ ?_ ?_ (My.bn2 My.s_law_word _ _)) (My.dq ?_ ?_ ?_ ?_ (My.bn3 My.s_law_split_by _ _)) (My.dq ?_ ?_ ?_ ?_ (My.bn1 My.sLaw _ _)) (My.dm ?_ ?_ ?_ ?_ ?_ (My.bn3 My.sInit _ _)) (My.dm ?_ ?_ ?_ ?_ ?_ (My.bn2 My.sFitsA _ _)) (My.dm ?_ ?_ ?_ ?_ ?_ (My.bn2 My.sFitsB _ _)) (My.dm ?_ ?_ ?_ ?_ ?_ (My.bn2 My.sDoneA _ _)) (My.dm ?_ ?_ ?_ ?_ ?_ (My.bn2 My.sDoneB _ _)) (My.dm ?_ ?_ ?_ ?_ ?_ (My.bn2 My.sBackA _ _)) (My.dm ?_ ?_ ?_ ?_ ?_ (My.bn2 My.sBackB _ _)) (My.dm ?_ ?_ ?_ ?_ ?_ (My.bn5 My.sInitS _ _)) (My.dm ?_ ?_ ?_ ?_ ?_ (My.bn2 My.sMadeS _ _)) (My.dm ?_ ?_ ?_ ?_ ?_ (My.bn1 My.sJoiningS _ _)) (My.dm ?_ ?_ ?_ ?_ ?_ (My.bn2 My.sFitsS _ _)) (My.dm ?_ ?_ ?_ ?_ ?_ (My.bn2 My.sDoneS _ _)) (My.dm ?_ ?_ ?_ ?_ ?_ (My.bn2 My.sBackS _ _)) ?_ ?_ ?_ ?_ ?_ ?_ ?_ ?_ ?_ ?_ ?_ ?_ ?_ ?_ ?_ ?_ ?_ ?_ ?_ ?_ ?_ ?_ ?_ ?_ ?_ ?_ ?_ ?_ ?_ ?_ ?_ ?_ ?_ ?_ ?_ ?_ ?_ ?_ ?_ ?_ ?_ ?_ ?_ ?_ ?_ ?_ ?_ ?_ ?_ ?_ ?_ ?_ ?_ ?_ ⟨?_⟩ ⟨?_⟩ ⟨?_⟩ ⟨?_⟩ ⟨?_⟩ ⟨?_⟩ ⟨?_⟩ ⟨?_⟩ ⟨?_⟩ ⟨?_⟩ ⟨?_⟩ ⟨?_⟩ ⟨?_⟩
    all_goals try first | k_is | k_exc | kernel_rfl
